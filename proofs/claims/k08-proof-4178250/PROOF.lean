import PyProof.Rows.All
import Wide.All
import OpenK.AllK
import Wide.FinOn
import PyProof.EqAt
import PyProof.EqKinds
import PyProof.TupleCall
import Lean
import PyProof.StationsW
import PyProof.RulesAs
import PyProof.ExcClass3
import PySem.Challenge.RW_backorder_k08_refused
set_option Elab.async false
set_option linter.all false
set_option maxRecDepth 100000
theorem bae {a b : Bool} (h : (a && b) = true) : a = true ∧ b = true := (Bool.and_eq_true _ _).mp h
theorem obs {α β : Type} (a : α) (f : α → Option β) : (some a).bind f = f a := rfl
theorem dtt {p : Prop} [i : Decidable p] (h : p) : decide p = true := decide_eq_true h
theorem dff {p : Prop} [i : Decidable p] (h : ¬ p) : decide p = false := decide_eq_false h
theorem odt {p : Prop} [i : Decidable p] (h : decide p = true) : p := of_decide_eq_true h
theorem fnt : false ≠ true := Bool.false_ne_true
theorem bsi {α β : Type} {o : Option α} {f : α → Option β} {b : β} (h : o.bind f = some b) : ∃ a, o = some a ∧ f a = some b := Option.bind_eq_some_iff.mp h
theorem msi {α β : Type} {o : Option α} {f : α → β} {b : β} (h : o.map f = some b) : ∃ a, o = some a ∧ f a = b := Option.map_eq_some_iff.mp h
noncomputable section
namespace L2
open PySem PySem.Spec PyProof.Rows
noncomputable abbrev Key := Sum Int Str
noncomputable def keyIs : Key → Value → Bool
  | .inl k, v => Value.isInt k v
  | .inr x, v => Value.isStrOf x v
noncomputable def keyH (w : World) : Key → Int
  | .inl k => hashInt k
  | .inr x => hashStr w x
theorem keyIs_shape : ∀ {k : Key} {v : Value}, keyIs k v = true → (∃ i t, k = Sum.inl i ∧ v = Value.int i t) ∨ (∃ x t, k = Sum.inr x ∧ v = Value.str x t)
  | .inl i, v, h => by
    obtain ⟨t, e⟩ := Value.isInt_shape (k := i) (v := v) h
    exact .inl ⟨i, t, rfl, e⟩
  | .inr x, v, h => by
    obtain ⟨t, e⟩ := Value.isStrOf_shape (x := x) (v := v) h
    exact .inr ⟨x, t, rfl, e⟩
theorem keyIs_int (i : Int) (t : Tok) : keyIs (.inl i) (.int i t) = true := by simp [keyIs, Value.isInt]
theorem keyIs_str (x : Str) (t : Tok) : keyIs (.inr x) (.str x t) = true := by simp [keyIs, Value.isStrOf]
theorem key_ll (a b : Int) : decide ((Sum.inl a : Key) = Sum.inl b) = (a == b) := by
  by_cases e : a = b
  · subst e; simp
  · have h : ¬ (Sum.inl a : Key) = Sum.inl b := fun q => e (Sum.inl.inj q)
    rw [dff h]
    exact (beq_eq_false_iff_ne.mpr e).symm
theorem key_rr (a b : Str) : decide ((Sum.inr a : Key) = Sum.inr b) = decide (a = b) := by
  by_cases e : a = b
  · subst e; simp
  · have h : ¬ (Sum.inr a : Key) = Sum.inr b := fun q => e (Sum.inr.inj q)
    rw [dff h, dff e]
theorem key_lr (a : Int) (b : Str) : decide ((Sum.inl a : Key) = Sum.inr b) = false := dff (fun q => nomatch q)
theorem key_rl (a : Str) (b : Int) : decide ((Sum.inr a : Key) = Sum.inl b) = false := dff (fun q => nomatch q)
noncomputable def mixKind (prog : Program) (w : World) : PySem.KeyKind prog w Key where
  is := keyIs
  hash := keyH w
  inj := fun v a b ha hb => by
    rcases keyIs_shape ha with ⟨i, t, rfl, rfl⟩ | ⟨x, t, rfl, rfl⟩
    · rcases keyIs_shape hb with ⟨j, u, rfl, e⟩ | ⟨y, u, rfl, e⟩
      · injection e with e1 _; rw [e1]
      · exact nomatch e
    · rcases keyIs_shape hb with ⟨j, u, rfl, e⟩ | ⟨y, u, rfl, e⟩
      · exact nomatch e
      · injection e with e1 _; rw [e1]
  byValue := fun k v h => by
    rcases keyIs_shape h with ⟨i, t, rfl, rfl⟩ | ⟨x, t, rfl, rfl⟩ <;> rfl
  pyHash := fun hv h => by
    rcases keyIs_shape hv with ⟨i, t, rfl, rfl⟩ | ⟨x, t, rfl, rfl⟩
    · exact wpAny_pyHash_int h
    · exact wpAny_pyHash_str h
  eqBool := fun hu hv h => by
    rcases keyIs_shape hu with ⟨i, t, rfl, rfl⟩ | ⟨x, t, rfl, rfl⟩
    · rcases keyIs_shape hv with ⟨j, u, rfl, rfl⟩ | ⟨y, u, rfl, rfl⟩
      · rw [key_ll] at h; exact wpAny_eqBool_int h
      · rw [key_lr] at h; exact SeqAt.EqAt.int_str i t y u _ _ _ _ h
    · rcases keyIs_shape hv with ⟨j, u, rfl, rfl⟩ | ⟨y, u, rfl, rfl⟩
      · rw [key_rl] at h; exact SeqAt.EqAt.str_int x t j u _ _ _ _ h
      · rw [key_rr] at h; exact wpAny_eqBool_str h
  «strs» := fun k x t v h => by
    rcases keyIs_shape h with ⟨i, u, rfl, e⟩ | ⟨y, u, rfl, e⟩
    · exact nomatch e
    · injection e with e1 _
      subst e1
      cases v <;> rfl
theorem mixKind_int (prog : Program) (w : World) (i : Int) (t : Tok) : (mixKind prog w).is (.inl i) (.int i t) = true := keyIs_int i t
theorem mixKind_str (prog : Program) (w : World) (x : Str) (t : Tok) : (mixKind prog w).is (.inr x) (.str x t) = true := keyIs_str x t
end L2
namespace L2
open PySem PySem.Spec PyProof.Rows
inductive V where
  | non | bl (b : Bool) | int (i : Int) | str (x : Str) | byt (b : Array UInt8) | flt (b : UInt64) | ref (a : Addr) | ty (n : String)
  deriving DecidableEq
noncomputable def RelV : V → Value → Prop
  | .non, u => u = Value.none
  | .bl b, u => u = Value.bool b
  | .int i, u => ∃ t, u = Value.int i t
  | .str x, u => ∃ t, u = Value.str x t
  | .byt b, u => ∃ t, u = Value.bytes b t
  | .flt b, u => ∃ t, u = Value.float b t
  | .ref a, u => u = Value.ref a
  | .ty n, u => u = Value.type n
noncomputable abbrev Vals : List V → List Value → Prop := Paired RelV
theorem Vals.length {xs : List V} {us : List Value} (r : Vals xs us) : xs.length = us.length := Paired.length r
theorem Vals.get : ∀ {xs : List V} {us : List Value} {i : Nat} {x : V}, Vals xs us → xs[i]? = some x → ∃ u, us[i]? = some u ∧ RelV x u
  | _, _, _, _, .nil, e => by simp at e
  | _, _, 0, _, .cons r _, e => by simp at e; subst e; exact ⟨_, rfl, r⟩
  | _, _, i + 1, x, .cons _ t, e => by
    obtain ⟨u, h1, h2⟩ := Vals.get (i := i) (x := x) t (by simpa using e)
    exact ⟨u, by simpa using h1, h2⟩
theorem Vals.set {x : V} {u : Value} (r : RelV x u) : ∀ {xs : List V} {us : List Value} (i : Nat), Vals xs us → Vals (xs.set i x) (us.set i u)
  | _, _, _, .nil => .nil
  | _, _, 0, .cons _ t => .cons r t
  | _, _, i + 1, .cons q t => .cons q (Vals.set r i t)
theorem Vals.append : ∀ {xs ys : List V} {us ws : List Value}, Vals xs us → Vals ys ws → Vals (xs ++ ys) (us ++ ws)
  | _, _, _, _, .nil, s => s
  | _, _, _, _, .cons r t, s => .cons r (Vals.append t s)
theorem Vals.take : ∀ {xs : List V} {us : List Value} (n : Nat), Vals xs us → Vals (xs.take n) (us.take n)
  | _, _, 0, _ => .nil
  | _, _, _ + 1, .nil => .nil
  | _, _, n + 1, .cons r t => .cons r (Vals.take n t)
theorem Vals.drop : ∀ {xs : List V} {us : List Value} (n : Nat), Vals xs us → Vals (xs.drop n) (us.drop n)
  | _, _, 0, r => r
  | _, _, _ + 1, .nil => .nil
  | _, _, n + 1, .cons _ t => Vals.drop n t
noncomputable def RelO : Option V → Option Value → Prop
  | some v, some u => RelV v u
  | none, none => True
  | _, _ => False
noncomputable def KV {κ : Type} : List (κ × V) → List (κ × Value) → Prop := Paired fun (p : κ × V) (q : κ × Value) => p.1 = q.1 ∧ RelV p.2 q.2
noncomputable def kV : Key → V
  | .inl i => .int i
  | .inr x => .str x
inductive HO where
  | lst (xs : List V)
  | tup (xs : List V)
  | dK (kvs : List (Key × V)) | dT (kvs : List (List Key × V))
  | set (S : Int → Bool) (n : Nat)
  | ins (C dx : Addr) (fs : List (Str × V))
  | own (x : Addr)
  | xd (fs : List (Str × V))
  | met (f x : Addr)
  | rng (lo hi : Int)
  | frz (o : Obj) (u : HO)
  | tbl (ps : Array Value)
  | ext (φ : Heap → Prop)
noncomputable abbrev Hp := Addr → Option HO
noncomputable def upd (H : Hp) (a : Addr) (o : HO) : Hp := fun b => if b = a then some o else H b
theorem upd_same {H : Hp} {a : Addr} {o : HO} : upd H a o a = some o := by unfold upd; rw [if_pos rfl]
theorem upd_ne {H : Hp} {a b : Addr} {o : HO} (h : b ≠ a) : upd H a o b = H b := by unfold upd; rw [if_neg h]
theorem ne_of_none {H : Hp} {a b : Addr} {o : HO} (h : H a = some o) (h' : H b = none) : a ≠ b := by
  intro e; subst e; rw [h] at h'; cases h'
section
variable (P : Program) (w : World)
noncomputable def ObjOk (H : Hp) (h : Heap) (a : Addr) : HO → Prop
  | .lst xs => xs.length ≤ sizeLine ∧ ∃ (its : List Value) (n : Nat), Vals xs its ∧ h.get? a = some { cls := .type "list", data := .seq its.toArray n }
  | .tup xs => xs.length ≤ sizeLine ∧ ∃ its : List Value, Vals xs its ∧ IsTup h a its.toArray
  | .dK kvs => kvs.length ≤ sizeLine ∧ (a == sysModules) = false ∧ ∃ vs, KV kvs vs ∧ h.DictOf (mixKind P w) a vs
  | .dT kvs => kvs.length ≤ sizeLine ∧ (a == sysModules) = false ∧ ∃ xs : List (List Key × Addr × Value),
      Paired (fun (p : List Key × V) (q : List Key × Addr × Value) => p.1 = q.1 ∧ H q.2.1 = some (.tup (p.1.map kV)) ∧ RelV p.2 q.2.2) kvs xs ∧
      ∃ o es ep, h.get? a = some o ∧ o.ExactDict ∧ o.data = .dict es ep ∧ es.toList = xs.map (entryOfKey (tupleKind (mixKind P w))) ∧ (xs.map (·.1)).Nodup
  | .set S n => h.SetOf (intKind P w) a S n
  | .ins C dx fs => H dx = some (.own a) ∧ fs.length ≤ 1000 ∧ dx ≠ a ∧ h.get? a = some (W.instObj C dx) ∧
      ∃ mA, h.Ns1 dx mA ∧ (∀ f, RelO (fs.lookup f) (mA f)) ∧ PySem.Within mA (fs.map (·.1))
  | .own _ => ∃ o, h.get? a = some o
  | .xd fs => ∃ mA, h.Ns1 a mA ∧ ∀ f, RelO (fs.lookup f) (mA f)
  | .rng lo hi => ∃ t u v, h.get? a = some { cls := .type "range", data := .fields #[.int lo t, .int hi u, .int 1 v] }
  | .frz o u => h.get? a = some o ∧ ObjOk H h a u
  | .tbl ps => h.get? a = some { cls := .none, data := .fields ps }
  | .met f x => h.get? a = some (W.methodObj (.ref f) (.ref x))
  | .ext φ => φ h ∧ (∃ o, h.get? a = some o) ∧ ∀ h1 h2 : Heap, φ h1 → (∀ o, h1.get? a = some o → h2.get? a = some o) → φ h2
def HOk (H : Hp) (h : Heap) : Prop := ∀ a o, H a = some o → ObjOk P w H h a o
end
section
variable {P : Program} {w : World} {H H' : Hp} {h h' : Heap} {a : Addr} {o : HO}
theorem ObjOk.lt (x : ObjOk P w H h a o) : a < h.objs.size := by
  cases o with
  | lst xs => obtain ⟨_, _, _, _, e⟩ := x; exact Heap.lt_size e
  | tup xs => obtain ⟨_, _, _, p⟩ := x; exact p.lt
  | dK kvs => obtain ⟨_, _, _, _, o, _, _, e, _⟩ := x; exact Heap.lt_size e
  | dT kvs => obtain ⟨_, _, _, _, o, _, _, e, _⟩ := x; exact Heap.lt_size e
  | set S n => obtain ⟨o, _, _, _, e, _⟩ := x; exact Heap.lt_size e
  | ins C dx fs => obtain ⟨_, _, _, e, _⟩ := x; exact Heap.lt_size e
  | own y => obtain ⟨_, e⟩ := x; exact Heap.lt_size e
  | xd fs => obtain ⟨_, ⟨_, _, _, e, _⟩, _⟩ := x; exact Heap.lt_size e
  | rng lo hi => obtain ⟨_, _, _, e⟩ := x; exact Heap.lt_size e
  | frz ob u => obtain ⟨e, _⟩ := x; exact Heap.lt_size e
  | tbl ps => exact Heap.lt_size (show h.get? a = some _ from x)
  | met f y => exact Heap.lt_size (show h.get? a = some _ from x)
  | ext φ => obtain ⟨_, ⟨_, e⟩, _⟩ := x; exact Heap.lt_size e
theorem Paired.mapP {α β : Type} {F G : α → β → Prop} : ∀ {l₁ : List α} {l₂ : List β}, Paired F l₁ l₂ → (∀ a b, F a b → G a b) → Paired G l₁ l₂
  | _, _, .nil, _ => .nil
  | _, _, .cons r t, f => .cons (f _ _ r) (Paired.mapP t f)
theorem ObjOk.stay (x : ObjOk P w H h a o) (k : ∀ b u, (b = a ∨ H b = some (.own a)) → h.get? b = some u → h'.get? b = some u)
    (ho : ∀ b, H b = some (.own a) → H' b = some (.own a)) (ht : ∀ b xs, H b = some (.tup xs) → H' b = some (.tup xs)) : ObjOk P w H' h' a o := by
  induction o with
  | lst xs => obtain ⟨z, its, n, r, e⟩ := x; exact ⟨z, its, n, r, k _ _ (.inl rfl) e⟩
  | tup xs => obtain ⟨z, its, r, ob, e, c⟩ := x; exact ⟨z, its, r, ob, k _ _ (.inl rfl) e, c⟩
  | dK kvs => obtain ⟨z, y, vs, r, ob, es, ep, e, c⟩ := x; exact ⟨z, y, vs, r, ob, es, ep, k _ _ (.inl rfl) e, c⟩
  | dT kvs =>
    obtain ⟨z, y, xs, r, ob, es, ep, e, c⟩ := x
    exact ⟨z, y, xs, Paired.mapP r fun p q z => ⟨z.1, ht _ _ z.2.1, z.2.2⟩, ob, es, ep, k _ _ (.inl rfl) e, c⟩
  | set S n => obtain ⟨ob, es, ep, t, e, c⟩ := x; exact ⟨ob, es, ep, t, k _ _ (.inl rfl) e, c⟩
  | ins C dx fs =>
    obtain ⟨d, z, ne, e, mA, ⟨od, es, ep, e2, c⟩, r⟩ := x
    exact ⟨ho _ d, z, ne, k _ _ (.inl rfl) e, mA, ⟨od, es, ep, k _ _ (.inr d) e2, c⟩, r⟩
  | own y => obtain ⟨ob, e⟩ := x; exact ⟨ob, k _ _ (.inl rfl) e⟩
  | xd fs => obtain ⟨mA, ⟨od, es, ep, e, c⟩, r⟩ := x; exact ⟨mA, ⟨od, es, ep, k _ _ (.inl rfl) e, c⟩, r⟩
  | rng lo hi => obtain ⟨t, u, v, e⟩ := x; exact ⟨t, u, v, k _ _ (.inl rfl) e⟩
  | frz ob u ih => obtain ⟨e, q⟩ := x; exact ⟨k _ _ (.inl rfl) e, ih q⟩
  | tbl ps =>
    have e : h.get? a = some { cls := .none, data := .fields ps } := x
    show h'.get? a = some { cls := .none, data := .fields ps }
    exact k a _ (.inl rfl) e
  | met f y =>
    have e : h.get? a = some (W.methodObj (.ref f) (.ref y)) := x
    show h'.get? a = some (W.methodObj (.ref f) (.ref y))
    exact k a _ (.inl rfl) e
  | ext φ => obtain ⟨p, ⟨o, e⟩, st⟩ := x; exact ⟨st _ _ p fun o q => k _ _ (.inl rfl) q, ⟨o, k _ _ (.inl rfl) e⟩, st⟩
theorem HOk.lt (x : HOk P w H h) (e : H a = some o) : a < h.objs.size := (x a o e).lt
theorem HOk.fresh (x : HOk P w H h) (e : h.objs.size ≤ a) : H a = none := by
  cases q : H a with
  | none => rfl
  | some u => exact absurd (Nat.lt_of_lt_of_le (x.lt q) e) (Nat.lt_irrefl _)
theorem HOk.kept (x : HOk P w H h) (k : ∀ b u, h.get? b = some u → h'.get? b = some u) : HOk P w H h' := fun a o e =>
  (x a o e).stay (fun b u _ q => k b u q) (fun _ q => q) fun _ _ q => q
theorem HOk.laid (x : HOk P w H h) (k : ∀ b u, h.get? b = some u → h'.get? b = some u) (hp : h.objs.size ≤ a) (new : ObjOk P w (upd H a o) h' a o) : HOk P w (upd H a o) h' := fun b u e => by
  have hn := x.fresh hp
  by_cases hb : b = a
  · subst hb; rw [upd_same] at e; cases e; exact new
  · rw [upd_ne hb] at e
    exact (x b u e).stay (fun c v _ q => k c v q) (fun c q => by rw [upd_ne (ne_of_none q hn)]; exact q) fun c xs q => by rw [upd_ne (ne_of_none q hn)]; exact q
end
def Rd (H : Hp) (a : Addr) (u : HO) : Prop := H a = some u ∨ ∃ o, H a = some (.frz o u)
theorem Rd.ok {P : Program} {w : World} {H : Hp} {h : Heap} {a : Addr} {u : HO} (r : Rd H a u) (x : HOk P w H h) : ObjOk P w H h a u := by
  rcases r with r | ⟨o, r⟩
  · exact x a u r
  · obtain ⟨_, q⟩ := x a _ r
    exact q
noncomputable def Mut : Option HO → Prop
  | some (.lst _) => True
  | some (.dK _) => True
  | some (.dT _) => True
  | some (.set _ _) => True
  | some (.ins _ _ _) => True
  | some (.ext _) => True
  | _ => False
section
variable {P : Program} {w : World} {H : Hp} {h h' : Heap} {x e : Addr} {o' : HO}
theorem HOk.write (ok : HOk P w H h) (mu : Mut (H x)) (he : e = x ∨ H e = some (.own x)) (k : ∀ b u, b ≠ e → h.get? b = some u → h'.get? b = some u) (heo : ∃ u, h'.get? e = some u)
    (new : ObjOk P w (upd H x o') h' x o') : HOk P w (upd H x o') h' := fun b u q => by
  have nown : ∀ c y, H c = some (.own y) → c ≠ x := fun c y r z => by subst z; rw [r] at mu; exact mu
  have ntup : ∀ c xs, H c = some (.tup xs) → c ≠ x := fun c xs r z => by subst z; rw [r] at mu; exact mu
  by_cases hb : b = x
  · subst hb; rw [upd_same] at q; cases q; exact new
  · rw [upd_ne hb] at q
    by_cases hbe : b = e
    · have q' : H b = some (.own x) := by
        rcases he with z | z
        · exact absurd (hbe.trans z) hb
        · rw [hbe]; exact z
      rw [q] at q'; cases q'
      obtain ⟨v, hv⟩ := heo
      exact ⟨v, by rw [hbe]; exact hv⟩
    · refine (ok b u q).stay (fun c v hc r => k c v ?_ r) (fun c r => by rw [upd_ne (nown c b r)]; exact r) fun c xs r => by rw [upd_ne (ntup c xs r)]; exact r
      rcases hc with rfl | hc
      · exact hbe
      · rintro rfl
        rcases he with z | z
        · exact nown c b hc z
        · rw [hc] at z; cases z; exact hb rfl
end
structure Un (fs ex : List Addr) (H H' : Hp) (h h' : Heap) : Prop where
  keep : ∀ b o, h.get? b = some o → H b = none → b ∉ fs → b ∉ ex → h'.get? b = some o
  slot : ∀ b o, h.get? b = some o → H b = none → b ∈ fs → b ∉ ex → ∃ sl, h'.get? b = some { o with slots := sl }
  free : ∀ b o, h.get? b = some o → H b = none → b ∉ ex → H' b = none
  there : ∀ b o, h.get? b = some o → b ∉ ex → ∃ o', h'.get? b = some o'
  tups : ∀ b xs, H b = some (.tup xs) → H' b = some (.tup xs)
  frzs : ∀ b o u, H b = some (.frz o u) → H' b = some (.frz o u)
  tbls : ∀ b ps, H b = some (.tbl ps) → ∃ more, H' b = some (.tbl (ps ++ more))
section
variable {fs fs' ex ex' : List Addr} {H H1 H2 : Hp} {h h1 h2 h' : Heap} {a x e : Addr} {o : HO}
theorem Un.any (u : Un fs ex H H1 h h1) {b : Addr} {ob : Obj} (q : h.get? b = some ob) (n : H b = none) (hx : b ∉ ex) : ∃ sl, h1.get? b = some { ob with slots := sl } := by
  by_cases hb : b ∈ fs
  · exact u.slot b ob q n hb hx
  · exact ⟨ob.slots, u.keep b ob q n hb hx⟩
theorem Un.kept (k : ∀ b u, h.get? b = some u → h'.get? b = some u) : Un fs ex H H h h' :=
  ⟨fun b ob q _ _ _ => k b ob q, fun b ob q _ _ _ => ⟨ob.slots, k b ob q⟩, fun _ _ _ n _ => n, fun b ob q _ => ⟨ob, k b ob q⟩, fun _ _ q => q, fun _ _ _ q => q, fun _ ps q => ⟨#[], by rw [q]; simp⟩⟩
theorem Un.refl : Un fs ex H H h h := Un.kept fun _ _ q => q
theorem Un.laid (k : ∀ b u, h.get? b = some u → h'.get? b = some u) (hp : h.objs.size ≤ a) (hn : H a = none) : Un fs ex H (upd H a o) h h' where
  keep := fun b u q _ _ _ => k b u q
  slot := fun b u q _ _ _ => ⟨u.slots, k b u q⟩
  free := fun b u q n _ => by rw [upd_ne (Nat.ne_of_lt (Nat.lt_of_lt_of_le (Heap.lt_size q) hp))]; exact n
  there := fun b u q _ => ⟨u, k b u q⟩
  tups := fun b xs q => by rw [upd_ne (ne_of_none q hn)]; exact q
  frzs := fun b u xs q => by rw [upd_ne (ne_of_none q hn)]; exact q
  tbls := fun b ps q => ⟨#[], by rw [upd_ne (ne_of_none q hn), q]; simp⟩
theorem Un.write (mu : Mut (H x)) (he : e = x ∨ H e = some (.own x)) (k : ∀ b u, b ≠ e → h.get? b = some u → h'.get? b = some u) (heo : ∃ u, h'.get? e = some u) : Un fs ex H (upd H x o) h h' := by
  have hx : ∀ b, H b = none → b ≠ x := fun b n z => by subst z; rw [n] at mu; exact mu
  have hb : ∀ b, H b = none → b ≠ e := fun b n z => by
    subst z
    rcases he with r | r
    · exact hx b n r
    · rw [n] at r; cases r
  have hm : ∀ b u, H b = some u → ¬ Mut (some u) → b ≠ x := fun b u q nm z => by subst z; rw [q] at mu; exact nm mu
  refine ⟨fun b u q n _ _ => k b u (hb b n) q, fun b u q n _ _ => ⟨u.slots, k b u (hb b n) q⟩, fun b u q n _ => by rw [upd_ne (hx b n)]; exact n, fun b u q _ => ?_,
    fun b xs q => by rw [upd_ne (hm b _ q fun z => z)]; exact q, fun b u xs q => by rw [upd_ne (hm b _ q fun z => z)]; exact q, fun b ps q => ⟨#[], by rw [upd_ne (hm b _ q fun z => z), q]; simp⟩⟩
  by_cases hbe : b = e
  · subst hbe; exact heo
  · exact ⟨u, k b u hbe q⟩
end
noncomputable def trk (h : Heap) (H : Hp) : List Addr := (List.range h.objs.size).filter fun a => (H a).isSome
noncomputable def hidT (h : Heap) (H : Hp) : Heap := W.hideAll h (trk h H)
theorem hidT_size (h : Heap) (H : Hp) : (hidT h H).objs.size = h.objs.size := W.hideAll_size _ _
theorem hidT_get {h : Heap} {H : Hp} {b : Addr} {o : Obj} (e : h.get? b = some o) (n : H b = none) : (hidT h H).get? b = some o :=
  W.hideAll_get _ e fun hm => by
    have q : (H b).isSome = true := (List.mem_filter.mp hm).2
    rw [n] at q; simp at q
theorem of_hidT {h : Heap} {H : Hp} {b : Addr} {o : Obj} (e : (hidT h H).get? b = some o) : h.get? b = some o ∧ H b = none := by
  have e' : h.get? b = some o := W.of_hideAll (trk h H) e
  refine ⟨e', ?_⟩
  cases q : H b with
  | none => rfl
  | some x =>
    have hm : b ∈ trk h H := List.mem_filter.mpr ⟨List.mem_range.mpr (Heap.lt_size e'), by simp [q]⟩
    have z : (hidT h H).get? b = none := W.hideAll_none (trk h H) hm
    rw [z] at e; cases e
noncomputable def allNews (g h : Heap) (L : Addr) : List (Addr × Obj) := (List.range h.objs.size).filterMap fun a => if a = L ∨ (g.get? a).isSome = true then none else (h.get? a).map fun o => (a, o)
noncomputable def rest (g h : Heap) (L d : Addr) : List (Addr × Obj) := (allNews g h L).filter fun p => decide (p.1 ≠ d)
end L2
namespace L2
open PySem PySem.Spec PyProof.Rows
structure Mod (K : W.Frag) (mg : Str → Option Value) (base : Heap) : Prop where
  kin : K.In base
  glob : base.Ns mainGlobals mg
  blt : ∃ mb, base.Ns builtinsNs mb ∧ ∀ x : Str, x ≠ "__name__" → mb x = bootBuiltins x
  nolimit : base.NoLimit
structure Cx where
  prog : Program
  w : World
  K : W.Frag
  mg : Str → Option Value
  base : Heap
  A : Around
  N : List Str
  s₀ : Shared
  H₀ : Hp
  env : Env
  outer : List Env
  stack : List Env
  ex : List Addr
  fn : Str → Bool
  calm : Bool
  pn : List (Addr × Obj)
  xe : Value → Shared → Prop
noncomputable def frs (l : List Env) : List Addr := l.filterMap (·.frame)
noncomputable abbrev Cx.fs (X : Cx) : List Addr := frs X.outer
def Vis (sc : Scope) (x : Str) : Prop := sc.names.lookup x = some .local ∨ sc.names.lookup x = some .cell ∨ sc.names.lookup x = some .free
def Loc (sc : Scope) (x : Str) : Prop := sc.names.lookup x = some .local ∨ sc.names.lookup x = some .cell
def Look (env : Env) (h : Heap) (m : Str → Option Value) (x : Str) (u : Value) : Prop :=
  (env.kindOf x = some .local ∧ m x = some u) ∨ ((env.kindOf x = some .cell ∨ env.kindOf x = some .free) ∧ ∃ c, env.cells.lookup x = some c ∧ h.IsCell c (some u))
structure Cx.Ok (X : Cx) : Prop where
  mod : Mod X.K X.mg X.base
  kind : X.env.scope.kind = .function
  glob : X.env.globals = mainGlobals
  blt : X.env.builtins = builtinsNs
  above : X.s₀.heap.objs.size ≤ X.env.locals
  inj : ∀ x y c, X.env.cells.lookup x = some c → X.env.cells.lookup y = some c → x = y
  has : ∀ x, (X.env.kindOf x = some .cell ∨ X.env.kindOf x = some .free) → ∃ c, X.env.cells.lookup x = some c
  cab : ∀ x c, X.fn x = true → X.env.cells.lookup x = some c → X.s₀.heap.objs.size ≤ c
  hd : X.calm = true → X.A.handled = none
  frames : X.A.frames = some X.stack
  stk : X.stack = X.outer ∨ (X.stack = X.env :: X.outer ∧ X.env.frame = some X.env.locals)
  exf : ∀ b ∈ X.ex, b ≠ X.env.locals ∧ ∀ x c, X.env.cells.lookup x = some c → c ≠ b
  bs : ∀ b o, X.base.get? b = some o → X.s₀.heap.get? b = some o ∧ X.H₀ b = none
  bsz : X.base.objs.size ≤ X.s₀.heap.objs.size
  noex : ∀ b o, X.base.get? b = some o → b ∉ X.ex
  exfs : ∀ b ∈ X.ex, b ∉ X.fs
  funs : X.s₀.heap.FunFrames X.base X.outer
  frf : ∀ b ∈ X.fs, X.H₀ b = none
structure Inv (X : Cx) (pins : List (Addr × Obj)) (σ : List (Option V)) (H : Hp) (s : Shared) : Prop where
  ok : X.Ok
  os : s.os = X.s₀.os
  bare : AllBare s.gens
  base : Un X.fs X.ex X.H₀ H X.s₀.heap s.heap
  loc : ∃ m, s.heap.Ns X.env.locals m ∧ ∀ (i : Nat) (x : Str) (v : V), X.N[i]? = some x → σ[i]? = some (some v) → Vis X.env.scope x → ∃ u, RelV v u ∧ Look X.env s.heap m x u
  cell : ∀ x c, X.env.cells.lookup x = some c → ∃ v, s.heap.IsCell c v
  free : H X.env.locals = none
  freeC : ∀ x c, X.env.cells.lookup x = some c → H c = none
  pin : ∀ p ∈ X.pn ++ pins, s.heap.get? p.1 = some p.2 ∧ H p.1 = none ∧ p.1 ≠ X.env.locals ∧ p.1 ∉ X.fs ∧ ∀ v, p.2.data ≠ .cell v
  hok : HOk X.prog X.w H s.heap
  len : σ.length = X.N.length
section
variable {X : Cx} {pins : List (Addr × Obj)} {σ : List (Option V)} {H H' : Hp} {s : Shared} {h' : Heap}
theorem Cx.Ok.nofr (ok : X.Ok) {b : Addr} {o : Obj} (e : X.base.get? b = some o) : b ∉ X.fs := fun hb => by
  have := (ok.funs.mem hb).1
  rw [e] at this; cases this
theorem Inv.bs (I : Inv X pins σ H s) : ∀ b o, X.base.get? b = some o → s.heap.get? b = some o ∧ H b = none := fun b o e =>
  ⟨I.base.keep b o (I.ok.bs b o e).1 (I.ok.bs b o e).2 (I.ok.nofr e) (I.ok.noex b o e), I.base.free b o (I.ok.bs b o e).1 (I.ok.bs b o e).2 (I.ok.noex b o e)⟩
theorem Inv.bk (I : Inv X pins σ H s) : ∀ b o, X.base.get? b = some o → s.heap.get? b = some o := fun b o e => (I.bs b o e).1
theorem Inv.mod (I : Inv X pins σ H s) : Mod X.K X.mg X.base := I.ok.mod
theorem Inv.kIn (I : Inv X pins σ H s) : X.K.In s.heap := I.ok.mod.kin.keeps I.bk
theorem Inv.lt (I : Inv X pins σ H s) : X.env.locals < s.heap.objs.size := let ⟨_, hn, _⟩ := I.loc; hn.lt
theorem Inv.sz (I : Inv X pins σ H s) : X.s₀.heap.objs.size ≤ s.heap.objs.size := Nat.le_trans I.ok.above (Nat.le_of_lt I.lt)
theorem Inv.nofs (I : Inv X pins σ H s) {a : Addr} (h : s.heap.objs.size ≤ a) : a ∉ X.fs := fun hb => by
  obtain ⟨_, o, ho, _⟩ := I.ok.funs.mem hb
  exact absurd (Nat.lt_of_lt_of_le (Heap.lt_size ho) (Nat.le_trans I.sz h)) (Nat.lt_irrefl _)
theorem Inv.cne (I : Inv X pins σ H s) : ∀ x c, X.env.cells.lookup x = some c → c ≠ X.env.locals := fun x c e z => by
  obtain ⟨v, o, ho, hd⟩ := I.cell x c e
  obtain ⟨m, ⟨o', es, ep, ho', hd', _⟩, _⟩ := I.loc
  rw [z, ho'] at ho; cases ho; rw [hd'] at hd; cases hd
theorem Inv.funs (I : Inv X pins σ H s) : s.heap.FunFrames X.base X.outer := by
  have all : ∀ (l : List Env), (∀ b ∈ frs l, b ∈ X.fs) → X.s₀.heap.FunFrames X.base l → s.heap.FunFrames X.base l := by
    intro l
    induction l with
    | nil => intro _ _; trivial
    | cons env r ih =>
      intro hs hl
      obtain ⟨hk, ⟨L, o, hf, hn, ho, hd⟩, hr⟩ := hl
      have hL : L ∈ X.fs := hs L (by unfold frs; rw [List.filterMap_cons, hf]; exact List.mem_cons_self)
      obtain ⟨sl, e⟩ := I.base.slot L o ho (I.ok.frf L hL) hL fun z => I.ok.exfs L z hL
      exact ⟨hk, ⟨L, _, hf, hn, e, hd⟩, ih (fun b hb => hs b (by unfold frs; rw [List.filterMap_cons, hf]; exact List.mem_cons_of_mem _ hb)) hr⟩
  exact all X.outer (fun _ hb => hb) I.ok.funs
theorem Inv.stack (I : Inv X pins σ H s) : s.heap.FunFrames X.base X.stack := by
  rcases I.ok.stk with e | ⟨e, hf⟩
  · rw [e]; exact I.funs
  · rw [e]
    obtain ⟨m, hn, _⟩ := I.loc
    refine .cons (by rw [I.ok.kind]; decide) hf hn ?_ I.funs
    exact Heap.get?_none_of_le (Nat.le_trans I.ok.bsz I.ok.above)
theorem Inv.stkSub (I : Inv X pins σ H s) : ∀ b ∈ frs X.stack, b ∈ X.env.locals :: X.fs := fun b hb => by
  rcases I.ok.stk with e | ⟨e, hf⟩
  · rw [e] at hb; exact List.mem_cons_of_mem _ hb
  · rw [e] at hb
    unfold frs at hb
    rw [List.filterMap_cons, hf] at hb
    exact hb
theorem Inv.stkFree (I : Inv X pins σ H s) : ∀ b ∈ frs X.stack, H b = none := fun b hb => by
  rcases List.mem_cons.mp (I.stkSub b hb) with e | hb
  · rw [e]; exact I.free
  · obtain ⟨_, o, ho, _⟩ := I.ok.funs.mem hb
    exact I.base.free b o ho (I.ok.frf b hb) fun z => I.ok.exfs b z hb
theorem Inv.step {g' : Array GenState} {t' : Nat} {d' : Drawn} {ch : List Addr} (I : Inv X pins σ H s)
    (hch : ∀ b ∈ ch, (b ∈ X.ex ∨ X.s₀.heap.objs.size ≤ b) ∧ b ≠ X.env.locals ∧ (∀ x c, X.env.cells.lookup x = some c → c ≠ b) ∧ ∀ p ∈ X.pn ++ pins, p.1 ≠ b)
    (keep : ∀ b o, b ≠ X.env.locals → b ∉ X.fs → b ∉ ch → s.heap.get? b = some o → H b = none → h'.get? b = some o)
    (slot : ∀ b o, b ≠ X.env.locals → b ∈ X.fs → b ∉ ch → s.heap.get? b = some o → H b = none → ∃ sl, h'.get? b = some { o with slots := sl }) (free : ∀ b o, b ∉ ch → s.heap.get? b = some o → H b = none → H' b = none)
    (there : ∀ b o, b ∉ ch → s.heap.get? b = some o → ∃ o', h'.get? b = some o')
    (tups : ∀ b xs, H b = some (.tup xs) → H' b = some (.tup xs)) (frzs : ∀ b o u, H b = some (.frz o u) → H' b = some (.frz o u)) (tbls : ∀ b ps, H b = some (.tbl ps) → ∃ more, H' b = some (.tbl (ps ++ more)))
    (ns : ∀ m, s.heap.Ns X.env.locals m → h'.Ns X.env.locals m) (hok : HOk X.prog X.w H' h') (hg : AllBare g') :
    Inv X pins σ H' { s with heap := h', gens := g', drawn := d', toks := t' } := by
  have neL : ∀ b o, X.s₀.heap.get? b = some o → b ≠ X.env.locals := fun b o e => Nat.ne_of_lt (Nat.lt_of_lt_of_le (Heap.lt_size e) I.ok.above)
  have neC : ∀ b o, X.s₀.heap.get? b = some o → b ∉ X.ex → b ∉ ch := fun b o e hx hb => by
    rcases (hch b hb).1 with z | z
    · exact hx z
    · exact absurd (Nat.lt_of_lt_of_le (Heap.lt_size e) z) (Nat.lt_irrefl _)
  have cellK : ∀ x c, X.env.cells.lookup x = some c → ∀ v, s.heap.IsCell c v → h'.IsCell c v := fun x c e v ⟨o, ho, hd⟩ => by
    have nch : c ∉ ch := fun z => (hch c z).2.2.1 x c e rfl
    by_cases hc : c ∈ X.fs
    · obtain ⟨sl, q⟩ := slot c o (I.cne x c e) hc nch ho (I.freeC x c e)
      exact ⟨_, q, hd⟩
    · exact ⟨o, keep c o (I.cne x c e) hc nch ho (I.freeC x c e), hd⟩
  refine ⟨I.ok, I.os, hg, ⟨fun b o e n hb hx => ?_, fun b o e n hb hx => ?_, fun b o e n hx => ?_, fun b o e hx => ?_, fun b xs e => tups b xs (I.base.tups b xs e), fun b o xs e => frzs b o xs (I.base.frzs b o xs e), fun b ps e => ?_⟩, ?_, fun x c e => ?_, ?_, fun x c e => ?_, fun p hp => ?_, hok, I.len⟩
  · exact keep b o (neL b o e) hb (neC b o e hx) (I.base.keep b o e n hb hx) (I.base.free b o e n hx)
  · obtain ⟨sl, e1⟩ := I.base.slot b o e n hb hx
    obtain ⟨sl', e2⟩ := slot b _ (neL b o e) hb (neC b o e hx) e1 (I.base.free b o e n hx)
    exact ⟨sl', e2⟩
  · obtain ⟨o', e1⟩ := I.base.there b o e hx
    exact free b o' (neC b o e hx) e1 (I.base.free b o e n hx)
  · obtain ⟨o', e1⟩ := I.base.there b o e hx
    exact there b o' (neC b o e hx) e1
  · obtain ⟨m1, e1⟩ := I.base.tbls b ps e
    obtain ⟨m2, e2⟩ := tbls b _ e1
    exact ⟨m1 ++ m2, by rw [e2, Array.append_assoc]⟩
  · obtain ⟨m, hn, hl⟩ := I.loc
    refine ⟨m, ns m hn, fun i x v e1 e2 e3 => ?_⟩
    obtain ⟨u, r, l⟩ := hl i x v e1 e2 e3
    refine ⟨u, r, ?_⟩
    rcases l with l | ⟨k, c, e, z⟩
    · exact .inl l
    · exact .inr ⟨k, c, e, cellK x c e _ z⟩
  · obtain ⟨v, z⟩ := I.cell x c e
    exact ⟨v, cellK x c e v z⟩
  · obtain ⟨m, ⟨o, _, _, ho, _⟩, _⟩ := I.loc
    exact free _ o (fun z => (hch _ z).2.1 rfl) ho I.free
  · obtain ⟨v, o, ho, hd⟩ := I.cell x c e
    exact free c o (fun z => (hch c z).2.2.1 x c e rfl) ho (I.freeC x c e)
  · obtain ⟨e, n, ne, nf, d⟩ := I.pin p hp
    have nch : p.1 ∉ ch := fun z => (hch p.1 z).2.2.2 p hp rfl
    exact ⟨keep p.1 p.2 ne nf nch e n, free p.1 p.2 nch e n, ne, nf, d⟩
theorem Inv.un {t' : Nat} (I : Inv X pins σ H s) (u : Un X.fs [] H H' s.heap h') (hok : HOk X.prog X.w H' h') : Inv X pins σ H' { s with heap := h', toks := t' } := by
  obtain ⟨m, ⟨o, es, ep, ho, r⟩, _⟩ := id I.loc
  obtain ⟨sl, hL⟩ := u.any ho I.free (by simp)
  exact I.step (g' := s.gens) (d' := s.drawn) (ch := []) (fun _ z => nomatch z) (fun b o _ hb _ e n => u.keep b o e n hb (by simp)) (fun b o _ hb _ e n => u.slot b o e n hb (by simp)) (fun b o _ e n => u.free b o e n (by simp)) (fun b o _ e => u.there b o e (by simp)) u.tups u.frzs u.tbls (fun m' hm => by
    obtain ⟨o', es', ep', ho', r'⟩ := hm
    rw [ho] at ho'; cases ho'
    exact ⟨_, es', ep', hL, r'⟩) hok I.bare
theorem Inv.call {g' : Array GenState} {t' : Nat} {d' : Drawn} {ch : List Addr} (I : Inv X pins σ H s) (u : Un (frs X.stack) ch H H' s.heap h') (hok : HOk X.prog X.w H' h') (hg : AllBare g')
    (hch : ∀ b ∈ ch, (b ∈ X.ex ∨ X.s₀.heap.objs.size ≤ b) ∧ b ≠ X.env.locals ∧ (∀ x c, X.env.cells.lookup x = some c → c ≠ b) ∧ ∀ p ∈ X.pn ++ pins, p.1 ≠ b) :
    Inv X pins σ H' { s with heap := h', gens := g', drawn := d', toks := t' } := by
  obtain ⟨m, ⟨o, es, ep, ho, r⟩, _⟩ := id I.loc
  obtain ⟨sl, hL⟩ := u.any ho I.free fun z => (hch _ z).2.1 rfl
  exact I.step (ch := ch) hch (fun b o hL hb hc e n => u.keep b o e n (fun z => (List.mem_cons.mp (I.stkSub b z)).elim hL hb) hc) (fun b o _ _ hc e n => u.any e n hc) (fun b o hc e n => u.free b o e n hc) (fun b o hc e => u.there b o e hc) u.tups u.frzs u.tbls (fun m' hm => by
    obtain ⟨o', es', ep', ho', r'⟩ := hm
    rw [ho] at ho'; cases ho'
    exact ⟨_, es', ep', hL, r'⟩) hok hg
theorem Inv.turned {t' : Nat} {it : Addr} (I : Inv X pins σ H s) (k : ∀ b o, b ≠ it → s.heap.get? b = some o → h'.get? b = some o) (hn : H it = none) (hL : it ≠ X.env.locals)
    (h1 : it ∈ X.ex ∨ X.s₀.heap.objs.size ≤ it) (h2 : ∀ x c, X.env.cells.lookup x = some c → c ≠ it) (h3 : ∀ p ∈ X.pn ++ pins, p.1 ≠ it) : Inv X pins σ H { s with heap := h', toks := t' } := by
  have nit : ∀ b u, H b = some u → b ≠ it := fun b u e z => by rw [z, hn] at e; cases e
  refine I.step (g' := s.gens) (d' := s.drawn) (ch := [it]) (fun b hb => ?_) (fun b o _ _ hc e _ => k b o (fun z => hc (by simp [z])) e) (fun b o _ _ hc e _ => ⟨o.slots, k b o (fun z => hc (by simp [z])) e⟩) (fun _ _ _ _ n => n)
    (fun b o hc e => ⟨o, k b o (fun z => hc (by simp [z])) e⟩) (fun _ _ e => e) (fun _ _ _ e => e) (fun b ps e => ⟨#[], by rw [e]; simp⟩) (fun m hm => ?_) (fun b u e => ?_) I.bare
  · have e : b = it := by simpa using hb
    subst e
    exact ⟨h1, hL, h2, h3⟩
  · obtain ⟨o, es, ep, ho, r⟩ := hm
    exact ⟨o, es, ep, k _ o (Ne.symm hL) ho, r⟩
  · refine (I.hok b u e).stay (fun c v hc q => k c v ?_ q) (fun _ q => q) fun _ _ q => q
    rcases hc with z | z
    · rw [z]; exact nit b u e
    · exact nit c _ z
theorem Inv.tok (I : Inv X pins σ H s) (t : Nat) : Inv X pins σ H { s with toks := t } := I.un (h' := s.heap) (t' := t) Un.refl I.hok
theorem Inv.kept {t' : Nat} (I : Inv X pins σ H s) (k : ∀ b u, s.heap.get? b = some u → h'.get? b = some u) : Inv X pins σ H { s with heap := h', toks := t' } := I.un (Un.kept k) (I.hok.kept k)
theorem Inv.laid {a : Addr} {o : HO} {t' : Nat} (I : Inv X pins σ H s) (k : ∀ b u, s.heap.get? b = some u → h'.get? b = some u) (hp : s.heap.objs.size ≤ a) (new : ObjOk X.prog X.w (upd H a o) h' a o) :
    Inv X pins σ (upd H a o) { s with heap := h', toks := t' } := I.un (Un.laid k hp (I.hok.fresh hp)) (I.hok.laid k hp new)
theorem Inv.write {x e : Addr} {o : HO} {t' : Nat} (I : Inv X pins σ H s) (mu : Mut (H x)) (he : e = x ∨ H e = some (.own x)) (k : ∀ b u, b ≠ e → s.heap.get? b = some u → h'.get? b = some u) (heo : ∃ u, h'.get? e = some u)
    (new : ObjOk X.prog X.w (upd H x o) h' x o) : Inv X pins σ (upd H x o) { s with heap := h', toks := t' } := I.un (Un.write mu he k heo) (I.hok.write mu he k heo new)
theorem Inv.pins_of {pins' : List (Addr × Obj)} (I : Inv X pins σ H s) (h : ∀ p ∈ pins', s.heap.get? p.1 = some p.2 ∧ H p.1 = none ∧ p.1 ≠ X.env.locals ∧ p.1 ∉ X.fs ∧ ∀ v, p.2.data ≠ .cell v) : Inv X pins' σ H s :=
  ⟨I.ok, I.os, I.bare, I.base, I.loc, I.cell, I.free, I.freeC, fun p hp => (List.mem_append.mp hp).elim (fun z => I.pin p (List.mem_append_left _ z)) (h p), I.hok, I.len⟩
theorem nodup_ix {N : List Str} (hN : N.Nodup) {i j : Nat} {x : Str} (a : N[i]? = some x) (b : N[j]? = some x) : i = j := by
  obtain ⟨h1, e1⟩ := List.getElem?_eq_some_iff.mp a
  obtain ⟨h2, e2⟩ := List.getElem?_eq_some_iff.mp b
  exact (List.getElem_inj hN).mp (e1.trans e2.symm)
theorem store_ok2 {M : Model} {A : Around} {E : Value → Shared → Prop} {i : Nat} {x : Str} {v : V} {u : Value} {Q : Unit → Shared → Prop} (I : Inv X pins σ H s) (hN : X.N.Nodup) (hi : X.N[i]? = some x) (hx : Loc X.env.scope x) (r : RelV v u)
    (h : ∀ s', Inv X pins (σ.set i (some v)) H s' → (∃ a, Heap.SameBut a s.heap s'.heap ∧ (a = X.env.locals ∨ X.env.cells.lookup x = some a)) → Q () s') (hf : X.fn x = true ∨ X.env.scope.names.lookup x = some .local := by first | exact .inl rfl | exact .inr rfl | assumption) : wpAny M A (storeName X.env x u) Q E s := by
  obtain ⟨m, hn, hl⟩ := id I.loc
  have hcls : (X.env.scope.kind == .class || (X.env.scope.kind == .module && X.env.locals != X.env.globals)) = false := by rw [I.ok.kind]; rfl
  have hiσ : i < σ.length := by rw [I.len]; exact (List.getElem?_eq_some_iff.mp hi).1
  have cne := I.cne
  have tracked : ∀ {a : Addr} {h' : Heap}, (∃ o, s.heap.get? a = some o ∧ H a = none) → Heap.SameBut a s.heap h' → HOk X.prog X.w H h' := fun {a h'} ha hs b ob e => by
    obtain ⟨_, _, hfree⟩ := ha
    refine (I.hok b ob e).stay (fun c w' hc q => (hs.2 c ?_).trans q) (fun _ q => q) fun _ _ q => q
    rintro rfl
    rcases hc with rfl | hc
    · rw [hfree] at e; cases e
    · rw [hfree] at hc; cases hc
  rcases hx with hk | hk
  · refine wpAny_storeName_local hk hn (fun h' hn' hs => ?_) hcls
    obtain ⟨oL, _, _, hoL, _⟩ := id hn
    refine h _ ⟨I.ok, I.os, I.bare, ⟨fun b o e n hb hx => ?_, fun b o e n hb hx => ?_, I.base.free, fun b o e hx => ?_, I.base.tups, I.base.frzs, I.base.tbls⟩, ⟨_, hn', fun j y v' e1 e2 e3 => ?_⟩, fun y c e => ?_, I.free, I.freeC, fun p hp => ?_, tracked ⟨oL, hoL, I.free⟩ hs, by simpa using I.len⟩ ⟨_, hs, .inl rfl⟩
    · exact (hs.2 b (Nat.ne_of_lt (Nat.lt_of_lt_of_le (Heap.lt_size e) I.ok.above))).trans (I.base.keep b o e n hb hx)
    · obtain ⟨sl, e1⟩ := I.base.slot b o e n hb hx
      exact ⟨sl, (hs.2 b (Nat.ne_of_lt (Nat.lt_of_lt_of_le (Heap.lt_size e) I.ok.above))).trans e1⟩
    · obtain ⟨o', e1⟩ := I.base.there b o e hx
      exact ⟨o', (hs.2 b (Nat.ne_of_lt (Nat.lt_of_lt_of_le (Heap.lt_size e) I.ok.above))).trans e1⟩
    · by_cases hj : j = i
      · subst hj
        rw [hi] at e1; cases e1
        rw [List.getElem?_set_self hiσ] at e2
        cases e2
        exact ⟨u, r, .inl ⟨hk, by simp⟩⟩
      · rw [List.getElem?_set_ne (Ne.symm hj)] at e2
        obtain ⟨u', r', q⟩ := hl j y v' e1 e2 e3
        refine ⟨u', r', ?_⟩
        rcases q with ⟨k, e⟩ | ⟨k, c, e, z⟩
        · refine .inl ⟨k, ?_⟩
          have : y ≠ x := fun e => hj (nodup_ix hN e1 (e ▸ hi))
          simp [this, e]
        · exact .inr ⟨k, c, e, z.sameBut hs (cne y c e)⟩
    · obtain ⟨w', z⟩ := I.cell y c e
      exact ⟨w', z.sameBut hs (cne y c e)⟩
    · obtain ⟨e, n, ne, nf, d⟩ := I.pin p hp
      exact ⟨(hs.2 p.1 ne).trans e, n, ne, nf, d⟩
  · have hfn : X.fn x = true := by
      rcases hf with z | z
      · exact z
      · rw [z] at hk; cases hk
    obtain ⟨c, hc⟩ := I.ok.has x (.inl hk)
    obtain ⟨w', z⟩ := I.cell x c hc
    refine wpAny_storeName_cell I.ok.kind hk hc z (fun h' hc' hs => ?_)
    obtain ⟨oc, hoc, hocd⟩ := id z
    refine h { s with heap := h' } ⟨I.ok, I.os, I.bare, ⟨fun b o e n hb hx => ?_, fun b o e n hb hx => ?_, I.base.free, fun b o e hx => ?_, I.base.tups, I.base.frzs, I.base.tbls⟩, ⟨m, hn.sameBut hs (Ne.symm (cne x c hc)), fun j y v' e1 e2 e3 => ?_⟩, fun y c' e => ?_, I.free, I.freeC, fun p hp => ?_, tracked ⟨oc, hoc, I.freeC x c hc⟩ hs, by simpa using I.len⟩ ⟨c, hs, .inr hc⟩
    · exact (hs.2 b (Nat.ne_of_lt (Nat.lt_of_lt_of_le (Heap.lt_size e) (I.ok.cab x c hfn hc)))).trans (I.base.keep b o e n hb hx)
    · obtain ⟨sl, e1⟩ := I.base.slot b o e n hb hx
      exact ⟨sl, (hs.2 b (Nat.ne_of_lt (Nat.lt_of_lt_of_le (Heap.lt_size e) (I.ok.cab x c hfn hc)))).trans e1⟩
    · obtain ⟨o', e1⟩ := I.base.there b o e hx
      exact ⟨o', (hs.2 b (Nat.ne_of_lt (Nat.lt_of_lt_of_le (Heap.lt_size e) (I.ok.cab x c hfn hc)))).trans e1⟩
    · by_cases hj : j = i
      · subst hj
        rw [hi] at e1; cases e1
        rw [List.getElem?_set_self hiσ] at e2
        cases e2
        exact ⟨u, r, .inr ⟨.inl hk, c, hc, hc'⟩⟩
      · rw [List.getElem?_set_ne (Ne.symm hj)] at e2
        obtain ⟨u', r', q⟩ := hl j y v' e1 e2 e3
        refine ⟨u', r', ?_⟩
        rcases q with q | ⟨k, c', e, z'⟩
        · exact .inl q
        · refine .inr ⟨k, c', e, z'.sameBut hs ?_⟩
          rintro rfl
          exact hj (nodup_ix hN e1 (I.ok.inj _ _ _ e hc ▸ hi))
    · by_cases hcc : c' = c
      · subst hcc; exact ⟨_, hc'⟩
      · obtain ⟨w2, z2⟩ := I.cell y c' e
        exact ⟨w2, z2.sameBut hs hcc⟩
    · obtain ⟨e, n, ne, nf, d⟩ := I.pin p hp
      refine ⟨(hs.2 p.1 ?_).trans e, n, ne, nf, d⟩
      intro q
      rw [q, hoc] at e
      have q' : oc = p.2 := Option.some.inj e
      exact d w' (by rw [← q']; exact hocd)
theorem store_ok {M : Model} {A : Around} {E : Value → Shared → Prop} {i : Nat} {x : Str} {v : V} {u : Value} {Q : Unit → Shared → Prop} (I : Inv X pins σ H s) (hN : X.N.Nodup) (hi : X.N[i]? = some x) (hx : Loc X.env.scope x) (r : RelV v u)
    (h : ∀ s', Inv X pins (σ.set i (some v)) H s' → Q () s') (hf : X.fn x = true ∨ X.env.scope.names.lookup x = some .local := by first | exact .inl rfl | exact .inr rfl | assumption) : wpAny M A (storeName X.env x u) Q E s :=
  store_ok2 I hN hi hx r (fun s' I' _ => h s' I') hf
theorem Inv.call' {s' : Shared} {ch : List Addr} (I : Inv X pins σ H s) (ho : s'.os = s.os) (u : Un (frs X.stack) ch H H' s.heap s'.heap) (hok : HOk X.prog X.w H' s'.heap) (hg : AllBare s'.gens)
    (hch : ∀ b ∈ ch, (b ∈ X.ex ∨ X.s₀.heap.objs.size ≤ b) ∧ b ≠ X.env.locals ∧ (∀ x c, X.env.cells.lookup x = some c → c ≠ b) ∧ ∀ p ∈ X.pn ++ pins, p.1 ≠ b) : Inv X pins σ H' s' := by
  obtain ⟨h', g', d', t', o'⟩ := s'
  have e : o' = s.os := ho
  subst e
  exact I.call (g' := g') (t' := t') (d' := d') u hok hg hch
end
noncomputable abbrev XK := Value → Option Addr → Hp → Prop
noncomputable abbrev St := List (Option V)
noncomputable abbrev VK := V → Hp → Prop
noncomputable abbrev TE := St → Hp → VK → Prop
noncomputable abbrev TT := St → Hp → (Bool → Hp → Prop) → Prop
noncomputable abbrev TA := St → Hp → (List V → Hp → Prop) → Prop
structure Ends where
  nx : St → Hp → Prop
  rt : VK
  bk : St → Hp → Prop := fun _ _ => False
  ct : St → Hp → Prop := fun _ _ => False
noncomputable abbrev TS := Ends → St → Hp → Prop
def EP (X : Cx) (pins : List (Addr × Obj)) (σ : St) (Q : VK) (u : Value) (s' : Shared) : Prop := ∃ v H', Inv X pins σ H' s' ∧ RelV v u ∧ Q v H'
def TP (X : Cx) (pins : List (Addr × Obj)) (σ : St) (Q : Bool → Hp → Prop) (b : Bool) (s' : Shared) : Prop := ∃ H', Inv X pins σ H' s' ∧ Q b H'
def AP (X : Cx) (pins : List (Addr × Obj)) (σ : St) (Q : List V → Hp → Prop) (us : List Value) (s' : Shared) : Prop := ∃ vs H', Inv X pins σ H' s' ∧ Vals vs us ∧ Q vs H'
def SP (X : Cx) (pins : List (Addr × Obj)) (D : Ends) (f : Flow) (s' : Shared) : Prop :=
  match f with
  | .next => ∃ σ' H', Inv X pins σ' H' s' ∧ D.nx σ' H'
  | .brk => ∃ σ' H', Inv X pins σ' H' s' ∧ D.bk σ' H'
  | .cont => ∃ σ' H', Inv X pins σ' H' s' ∧ D.ct σ' H'
  | .ret u => ∃ v σ' H', Inv X pins σ' H' s' ∧ RelV v u ∧ D.rt v H'
def PE (X : Cx) (e : Expr) (t : TE) : Prop :=
  ∀ (pins : List (Addr × Obj)) (s : Shared) (σ : St) (H : Hp) (Q : VK), Inv X pins σ H s → t σ H Q → wpAny (model X.prog X.w) X.A (eval e X.env) (EP X pins σ Q) X.xe s
def PT (X : Cx) (e : Expr) (t : TT) : Prop :=
  ∀ (pins : List (Addr × Obj)) (s : Shared) (σ : St) (H : Hp) (Q : Bool → Hp → Prop), Inv X pins σ H s → t σ H Q → wpAny (model X.prog X.w) X.A (isTrue e X.env (eval e X.env)) (TP X pins σ Q) X.xe s
def PW (X : Cx) (e : Expr) (t : TT) : Prop :=
  ∀ (whole : Sem Value) (pins : List (Addr × Obj)) (s : Shared) (σ : St) (H : Hp) (Q : Bool → Hp → Prop), Inv X pins σ H s → t σ H Q → wpAny (model X.prog X.w) X.A (isTrue e X.env whole) (TP X pins σ Q) X.xe s
theorem PW.pt {X : Cx} {e : Expr} {t : TT} (h : PW X e t) : PT X e t := h _
def PA (X : Cx) (es : List Expr) (t : TA) : Prop :=
  ∀ (pos : Pos) (pins : List (Addr × Obj)) (s : Shared) (σ : St) (H : Hp) (Q : List V → Hp → Prop), Inv X pins σ H s → t σ H Q → wpAny (model X.prog X.w) X.A (spliced (backTo pos (starEach es X.env))) (AP X pins σ Q) X.xe s
def PS (X : Cx) (st : Stmt) (t : TS) : Prop :=
  ∀ (pins : List (Addr × Obj)) (s : Shared) (σ : St) (H : Hp) (D : Ends), Inv X pins σ H s → t D σ H → wpAny (model X.prog X.w) X.A (exec st X.env) (SP X pins D) X.xe s
def PSs (X : Cx) (st : List Stmt) (t : TS) : Prop :=
  ∀ (pins : List (Addr × Obj)) (s : Shared) (σ : St) (H : Hp) (D : Ends), Inv X pins σ H s → t D σ H → wpAny (model X.prog X.w) X.A (execs st X.env) (SP X pins D) X.xe s
theorem thn {α : Type} {t : Sem α} {Q Q' : α → Shared → Prop} {M : Model} {A : Around} {E : Value → Shared → Prop} {s : Shared} (h : wpAny M A t Q E s) (hQ : ∀ a s, Q a s → Q' a s) : wpAny M A t Q' E s := wpAny_mono h hQ fun _ _ x => x
end L2
namespace L2
open PySem PySem.Spec PyProof.Rows
section
variable {X : Cx}
noncomputable def tVar (i : Nat) : TE := fun σ H Q => ∃ v, σ[i]? = some (some v) ∧ Q v H
noncomputable def tC (v : V) : TE := fun _ H Q => Q v H
theorem pe_var {i : Nat} {x : Str} {pos : Pos} (hN : X.N[i]? = some x) (hv : Vis X.env.scope x) (hd : (x == ("__debug__" : Str)) = false := by decide) (hcd : (x == ("__classdict__" : Str)) = false := by decide) : PE X (.Name x pos) (tVar i) := by
  intro pins s σ H Q I h
  obtain ⟨v, e, h⟩ := h
  obtain ⟨m, hn, hl⟩ := I.loc
  obtain ⟨u, r, l⟩ := hl i x v hN e hv
  have fin : EP X pins σ Q u s := ⟨v, H, I, r, h⟩
  rcases l with ⟨hk, hm⟩ | ⟨hk, c, hc, hcell⟩
  · exact wpAny_Name (wpAny_loadName_local I.ok.kind hk hn hm fin) hd
  · rcases hk with hk | hk
    · exact wpAny_Name (wpAny_loadName_cell I.ok.kind hk hc hcell fin) hd
    · exact wpAny_Name (wpAny_loadName_free I.ok.kind hk hc hcell fin hcd) hd
theorem pe_int {i j pos} : PE X (.Constant (.int i) j pos) (tC (.int i)) := fun _ _ _ H _ I h => wpAny_Constant_int ⟨.int i, H, I.tok _, ⟨_, rfl⟩, h⟩
theorem pe_bl {b j pos} : PE X (.Constant (.bool b) j pos) (tC (.bl b)) := fun _ _ _ H _ I h => Constant_bool ⟨.bl b, H, I, rfl, h⟩
theorem pe_non {j pos} : PE X (.Constant .none j pos) (tC .non) := fun _ _ _ H _ I h => Constant_none ⟨.non, H, I, rfl, h⟩
theorem pe_str {x j pos} : PE X (.Constant (.str x) j pos) (tC (.str x)) := fun _ _ _ H _ I h => Calls.Constant_str ⟨.str x, H, I.tok _, ⟨_, rfl⟩, h⟩
def Gl (X : Cx) (x : Str) : Prop := X.env.kindOf x = some .globalImplicit
theorem ld_glob {E : Value → Shared → Prop} {pins : List (Addr × Obj)} {s : Shared} {σ : St} {H : Hp} {x : Str} {u : Value} {pos : Pos} {Q : Value → Shared → Prop} (I : Inv X pins σ H s) (hg : Gl X x) (hm : X.mg x = some u) (h : Q u s)
    (hd : (x == ("__debug__" : Str)) = false := by decide) : wpAny (model X.prog X.w) X.A (eval (.Name x pos) X.env) Q E s :=
  Calls.Name_function_global I.ok.kind hg (Calls.loadGlobal_global (by rw [I.ok.glob]; exact I.mod.glob.keeps I.bk) hm h) hd
theorem ld_blt {E : Value → Shared → Prop} {pins : List (Addr × Obj)} {s : Shared} {σ : St} {H : Hp} {x : Str} {u : Value} {pos : Pos} {Q : Value → Shared → Prop} (I : Inv X pins σ H s) (hg : Gl X x) (hm : X.mg x = none) (hv : bootBuiltins x = some u) (h : Q u s)
    (hn : x ≠ "__name__" := by decide) (hd : (x == ("__debug__" : Str)) = false := by decide) : wpAny (model X.prog X.w) X.A (eval (.Name x pos) X.env) Q E s := by
  obtain ⟨mb, h1, h2⟩ := I.mod.blt
  exact Calls.Name_function_global I.ok.kind hg (Calls.loadGlobal_builtin (by rw [I.ok.glob]; exact I.mod.glob.keeps I.bk) hm (by rw [I.ok.blt]; exact h1.keeps I.bk) ((h2 x hn).trans hv) h) hd
theorem pe_glob {x : Str} {v : V} {u : Value} {pos : Pos} (hg : Gl X x) (hm : X.mg x = some u) (r : RelV v u) (hd : (x == ("__debug__" : Str)) = false := by decide) : PE X (.Name x pos) (tC v) :=
  fun _ _ _ H _ I h => ld_glob I hg hm ⟨v, H, I, r, h⟩ hd
theorem pe_bltn {x : Str} {v : V} {u : Value} {pos : Pos} (hg : Gl X x) (hm : X.mg x = none) (hv : bootBuiltins x = some u) (r : RelV v u) (hn : x ≠ "__name__" := by decide) (hd : (x == ("__debug__" : Str)) = false := by decide) : PE X (.Name x pos) (tC v) :=
  fun _ _ _ H _ I h => ld_blt I hg hm hv ⟨v, H, I, r, h⟩ hn hd
variable {a b : Expr} {ta tb : TE} {pos : Pos}
noncomputable def tB (t : TE) : TT := fun σ H Q => t σ H fun x H1 => ∃ c, x = .bl c ∧ Q c H1
theorem pt_val {e : Expr} {t : TE} (h : PE X e t) (he : ∀ whole, isTrue e X.env whole = (do let v ← whole; standAt e.pos; holding [v] (truthy v)) := by intro _; rfl) : PT X e (tB t) := by
  intro pins s σ H Q I hw
  refine isTrue_plain (thn (h pins s σ H _ I hw) fun v s1 ⟨x, H1, I1, r1, q1⟩ => ?_) (he _)
  obtain ⟨d, rfl, q⟩ := q1
  cases r1
  exact wpAny_truthy_bool ⟨H1, I1, q⟩
variable {tA tB' : TT} {rest : List Expr}
noncomputable def tAnd (t u : TT) : TT := fun σ H Q => t σ H fun c H1 => if c = true then u σ H1 Q else Q false H1
noncomputable def tOr (t u : TT) : TT := fun σ H Q => t σ H fun c H1 => if c = true then Q true H1 else u σ H1 Q
noncomputable def tNot (t : TT) : TT := fun σ H Q => t σ H fun c H1 => Q (!c) H1
theorem pw_and1 (ha : PT X a tA) : PW X (.BoolOp .And [a] pos) tA := by
  intro wh pins s σ H Q I h
  refine isTrue_and (thn (ha pins s σ H Q I h) fun c s1 e => ?_)
  cases c with
  | true => exact isTrue_and_nil e
  | false => exact e
theorem pw_or1 (ha : PT X a tA) : PW X (.BoolOp .Or [a] pos) tA := by
  intro wh pins s σ H Q I h
  refine isTrue_or (thn (ha pins s σ H Q I h) fun c s1 e => ?_)
  cases c with
  | false => exact isTrue_or_nil e
  | true => exact e
theorem pw_and (ha : PT X a tA) (hb : PW X (.BoolOp .And (b :: rest) pos) tB') : PW X (.BoolOp .And (a :: b :: rest) pos) (tAnd tA tB') := by
  intro wh pins s σ H Q I h
  refine isTrue_and (thn (ha pins s σ H _ I h) fun c s1 ⟨H1, I1, q1⟩ => ?_)
  cases c with
  | true => exact hb wh pins s1 σ H1 Q I1 q1
  | false => exact ⟨H1, I1, q1⟩
theorem pw_or (ha : PT X a tA) (hb : PW X (.BoolOp .Or (b :: rest) pos) tB') : PW X (.BoolOp .Or (a :: b :: rest) pos) (tOr tA tB') := by
  intro wh pins s σ H Q I h
  refine isTrue_or (thn (ha pins s σ H _ I h) fun c s1 ⟨H1, I1, q1⟩ => ?_)
  cases c with
  | true => exact ⟨H1, I1, q1⟩
  | false => exact hb wh pins s1 σ H1 Q I1 q1
theorem pt_not (ha : PT X a tA) : PT X (.UnaryOp .Not a pos) (tNot tA) := by
  intro pins s σ H Q I h
  exact isTrue_not (ha pins s σ H (fun c H1 => Q (!c) H1) I h)
noncomputable def tAndV (ta tb : TE) : TE := fun σ H Q => ta σ H fun x H1 => ∃ c, x = .bl c ∧ if c = true then tb σ H1 Q else Q (.bl false) H1
noncomputable def tOrV (ta tb : TE) : TE := fun σ H Q => ta σ H fun x H1 => ∃ c, x = .bl c ∧ if c = true then Q (.bl true) H1 else tb σ H1 Q
noncomputable def tNotV (ta : TE) : TE := fun σ H Q => ta σ H fun x H1 => ∃ c, x = .bl c ∧ Q (.bl (!c)) H1
theorem pe_one {op} {t : TE} (h : PE X a t) : PE X (.BoolOp op [a] pos) t := fun pins s σ H Q I hw => BoolOp_one (h pins s σ H Q I hw)
theorem pe_and (ha : PE X a ta) (hb : PE X (.BoolOp .And (b :: rest) pos) tb) : PE X (.BoolOp .And (a :: b :: rest) pos) (tAndV ta tb) := by
  intro pins s σ H Q I h
  refine BoolOp_and (thn (ha pins s σ H _ I h) fun v s1 ⟨x, H1, I1, r1, q1⟩ => ?_)
  obtain ⟨c, rfl, q1⟩ := q1
  cases r1
  refine wpAny_truthy_bool ?_
  cases c with
  | true => exact hb pins s1 σ H1 Q I1 q1
  | false => exact ⟨.bl false, H1, I1, rfl, q1⟩
theorem pe_or (ha : PE X a ta) (hb : PE X (.BoolOp .Or (b :: rest) pos) tb) : PE X (.BoolOp .Or (a :: b :: rest) pos) (tOrV ta tb) := by
  intro pins s σ H Q I h
  refine BoolOp_or (thn (ha pins s σ H _ I h) fun v s1 ⟨x, H1, I1, r1, q1⟩ => ?_)
  obtain ⟨c, rfl, q1⟩ := q1
  cases r1
  refine wpAny_truthy_bool ?_
  cases c with
  | false => exact hb pins s1 σ H1 Q I1 q1
  | true => exact ⟨.bl true, H1, I1, rfl, q1⟩
theorem pe_not (ha : PE X a ta) : PE X (.UnaryOp .Not a pos) (tNotV ta) := by
  intro pins s σ H Q I h
  refine UnaryOp_ (thn (ha pins s σ H _ I h) fun v s1 ⟨x, H1, I1, r1, q1⟩ => ?_)
  obtain ⟨c, rfl, q1⟩ := q1
  cases r1
  exact not_of (wpAny_truthy_bool ⟨.bl (!c), H1, I1, rfl, q1⟩)
noncomputable def tIf (t : TT) (ta tb : TE) : TE := fun σ H Q => t σ H fun c H1 => if c = true then ta σ H1 Q else tb σ H1 Q
theorem pe_ifExp {c : Expr} (hc : PT X c tA) (ha : PE X a ta) (hb : PE X b tb) : PE X (.IfExp c a b pos) (tIf tA ta tb) := by
  intro pins s σ H Q I h
  refine wpAny_IfExp (thn (hc pins s σ H _ I h) fun d s1 ⟨H1, I1, q1⟩ => ?_)
  cases d with
  | true => exact ha pins s1 σ H1 Q I1 q1
  | false => exact hb pins s1 σ H1 Q I1 q1
end
end L2
namespace L2
open PySem PySem.Spec PyProof.Rows
def SqL (K : W.Frag) (H : Hp) (a : Addr) (xs : List V) : Prop :=
  Rd H a (.lst xs) ∨
    ∃ (o : Obj) (its : Array Value) (n : Nat), K.lookup a = some o ∧ o.cls = .type "list" ∧ o.dict = none ∧ o.data = .seq its n ∧ its.size ≤ sizeLine ∧ Vals xs its.toList
def SqT (K : W.Frag) (H : Hp) (a : Addr) (xs : List V) : Prop :=
  Rd H a (.tup xs) ∨
    ∃ (o : Obj) (its : Array Value) (n : Nat), K.lookup a = some o ∧ o.cls = .type "tuple" ∧ o.data = .seq its n ∧ its.size ≤ sizeLine ∧ Vals xs its.toList
noncomputable def absV : Value → Option V
  | .none => some .non
  | .bool b => some (.bl b)
  | .int i _ => some (.int i)
  | .str x _ => some (.str x)
  | .bytes b _ => some (.byt b)
  | .float b _ => some (.flt b)
  | .ref a => some (.ref a)
  | .type n => some (.ty n)
  | _ => none
theorem RelV.abs {x : V} {u : Value} (r : RelV x u) : absV u = some x := by
  cases x with
  | non => cases r; rfl
  | bl _ => cases r; rfl
  | int _ => obtain ⟨t, rfl⟩ := r; rfl
  | str _ => obtain ⟨t, rfl⟩ := r; rfl
  | byt _ => obtain ⟨t, rfl⟩ := r; rfl
  | flt _ => obtain ⟨t, rfl⟩ := r; rfl
  | ref _ => cases r; rfl
  | ty _ => cases r; rfl
theorem RelV.inj {x y : V} {u : Value} (r : RelV x u) (q : RelV y u) : x = y := Option.some.inj (r.abs.symm.trans q.abs)
theorem Vals.inj : ∀ {xs ys : List V} {us : List Value}, Vals xs us → Vals ys us → xs = ys
  | _, _, _, .nil, .nil => rfl
  | _, _, _, .cons r t, .cons r' t' => by rw [r.inj r', Vals.inj t t']
section
variable {X : Cx} {pins : List (Addr × Obj)} {σ : St} {H : Hp} {s : Shared} {a : Addr} {xs ys : List V}
theorem SqL.of {K : W.Frag} (h : H a = some (.lst xs)) : SqL K H a xs := .inl (.inl h)
theorem SqT.of {K : W.Frag} (h : H a = some (.tup xs)) : SqT K H a xs := .inl (.inl h)
theorem Inv.list (I : Inv X pins σ H s) (h : SqL X.K H a xs) : ∃ its : List Value, Vals xs its ∧ PlainL s.heap a its.toArray ∧ xs.length ≤ sizeLine := by
  rcases h with h | ⟨o, its, n, hk, hc, hd, hs, hz, r⟩
  · obtain ⟨z, its, n, r, e⟩ := h.ok I.hok
    exact ⟨its, r, ⟨_, n, e, rfl, rfl, rfl⟩, z⟩
  · refine ⟨its.toList, r, ⟨o, n, I.kIn a o hk, hc, hd, by simpa using hs⟩, ?_⟩
    have e := r.length
    simp only [Array.length_toList] at e
    omega
theorem Inv.tuple (I : Inv X pins σ H s) (h : SqT X.K H a xs) : ∃ its : List Value, Vals xs its ∧ IsTup s.heap a its.toArray ∧ xs.length ≤ sizeLine := by
  rcases h with h | ⟨o, its, n, hk, hc, hs, hz, r⟩
  · obtain ⟨z, its, r, p⟩ := h.ok I.hok
    exact ⟨its, r, p, z⟩
  · refine ⟨its.toList, r, ⟨o, I.kIn a o hk, hc, n, by simpa using hs⟩, ?_⟩
    have e := r.length
    simp only [Array.length_toList] at e
    omega
theorem Inv.list_inj (I : Inv X pins σ H s) (h : SqL X.K H a xs) (h' : SqL X.K H a ys) : xs = ys := by
  obtain ⟨its, r, ⟨o, n, e, _, _, d⟩, _⟩ := I.list h
  obtain ⟨its', r', ⟨o', n', e', _, _, d'⟩, _⟩ := I.list h'
  rw [e] at e'; cases e'
  rw [d] at d'
  injection d' with d1 _
  have : its = its' := by simpa using congrArg Array.toList d1
  subst this
  exact r.inj r'
theorem Inv.tuple_inj (I : Inv X pins σ H s) (h : SqT X.K H a xs) (h' : SqT X.K H a ys) : xs = ys := by
  obtain ⟨its, r, ⟨o, e, _, n, d⟩, _⟩ := I.tuple h
  obtain ⟨its', r', ⟨o', e', _, n', d'⟩, _⟩ := I.tuple h'
  rw [e] at e'; cases e'
  rw [d] at d'
  injection d' with d1 _
  have : its = its' := by simpa using congrArg Array.toList d1
  subst this
  exact r.inj r'
end
noncomputable abbrev Cx.wish (X : Cx) (E : Value → Shared → Prop) : Cx := { X with xe := E }
noncomputable abbrev Cx.nox (X : Cx) : Cx := X.wish fun _ _ => False
theorem Cx.Ok.wish {X : Cx} (ok : X.Ok) (E : Value → Shared → Prop) : (X.wish E).Ok :=
  ⟨ok.mod, ok.kind, ok.glob, ok.blt, ok.above, ok.inj, ok.has, ok.cab, ok.hd, ok.frames, ok.stk, ok.exf, ok.bs, ok.bsz, ok.noex, ok.exfs, ok.funs, ok.frf⟩
theorem Cx.Ok.unwish {X : Cx} {E : Value → Shared → Prop} (ok : (X.wish E).Ok) : X.Ok :=
  ⟨ok.mod, ok.kind, ok.glob, ok.blt, ok.above, ok.inj, ok.has, ok.cab, ok.hd, ok.frames, ok.stk, ok.exf, ok.bs, ok.bsz, ok.noex, ok.exfs, ok.funs, ok.frf⟩
section
variable {X : Cx} {pins : List (Addr × Obj)} {σ : St} {H : Hp} {s : Shared} {E : Value → Shared → Prop}
theorem Inv.wish (I : Inv X pins σ H s) (E : Value → Shared → Prop) : Inv (X.wish E) pins σ H s := ⟨I.ok.wish E, I.os, I.bare, I.base, I.loc, I.cell, I.free, I.freeC, I.pin, I.hok, I.len⟩
theorem Inv.unwish (I : Inv (X.wish E) pins σ H s) : Inv X pins σ H s := ⟨I.ok.unwish, I.os, I.bare, I.base, I.loc, I.cell, I.free, I.freeC, I.pin, I.hok, I.len⟩
theorem SP.unwish {D : Ends} {f : Flow} {s' : Shared} (h : SP (X.wish E) pins D f s') : SP X pins D f s' := by
  cases f with
  | next => obtain ⟨σ', H', I, q⟩ := h; exact ⟨σ', H', I.unwish, q⟩
  | brk => obtain ⟨σ', H', I, q⟩ := h; exact ⟨σ', H', I.unwish, q⟩
  | cont => obtain ⟨σ', H', I, q⟩ := h; exact ⟨σ', H', I.unwish, q⟩
  | ret u => obtain ⟨v, σ', H', I, r, q⟩ := h; exact ⟨v, σ', H', I.unwish, r, q⟩
theorem PE.nox {e : Expr} {t : TE} (h : PE X.nox e t) : PE X e t := fun pins s σ H Q I hw =>
  wpAny_mono (h pins s σ H Q (I.wish _) hw) (fun _ _ ⟨v, H', I', r, q⟩ => ⟨v, H', I'.unwish, r, q⟩) fun _ _ z => False.elim z
theorem PT.nox {e : Expr} {t : TT} (h : PT X.nox e t) : PT X e t := fun pins s σ H Q I hw =>
  wpAny_mono (h pins s σ H Q (I.wish _) hw) (fun _ _ ⟨H', I', q⟩ => ⟨H', I'.unwish, q⟩) fun _ _ z => False.elim z
theorem PSs.nox {st : List Stmt} {t : TS} (h : PSs X.nox st t) : PSs X st t := fun pins s σ H D I hw =>
  wpAny_mono (h pins s σ H D (I.wish _) hw) (fun _ _ q => q.unwish) fun _ _ z => False.elim z
end
section
variable {X : Cx} {st : Stmt} {rest : List Stmt} {t u : TS} {e : Expr} {te : TE} {pos : Pos}
noncomputable def tNext : TS := fun D σ H => D.nx σ H
noncomputable def tSeq (t u : TS) : TS := fun D σ H => t { D with nx := u D } σ H
theorem pss_nil : PSs X [] tNext := fun _ _ σ H _ I h => wpAny_execs_nil ⟨σ, H, I, h⟩
theorem pss_cons (h1 : PS X st t) (h2 : PSs X rest u) : PSs X (st :: rest) (tSeq t u) := by
  intro pins s σ H D I h
  refine wpAny_execs_cons (thn (h1 pins s σ H { D with nx := u D } I h) fun f s1 q => ?_)
  cases f with
  | next =>
    obtain ⟨σ', H', I', q⟩ := q
    exact h2 pins s1 σ' H' D I' q
  | ret v => exact q
  | brk => exact q
  | cont => exact q
theorem pss_one (h1 : PS X st t) : PSs X [st] t := by
  intro pins s σ H D I h
  refine wpAny_execs_cons (thn (h1 pins s σ H D I h) fun f s1 q => ?_)
  cases f with
  | next => exact wpAny_execs_nil q
  | ret v => exact q
  | brk => exact q
  | cont => exact q
theorem ps_pass : PS X (.Pass pos) tNext := fun _ _ σ H _ I h => wpAny_Pass ⟨σ, H, I, h⟩
theorem Inv.quiet {pins : List (Addr × Obj)} {σ : St} {H : Hp} {s : Shared} (I : Inv X pins σ H s) : interactive X.env = false := by simp [interactive, I.ok.kind]
noncomputable def tDrop (te : TE) : TS := fun D σ H => te σ H fun _ H1 => D.nx σ H1
theorem ps_expr (he : PE X e te) (hs : swapsWith e none pos.line X.env = pure false := by rfl) : PS X (.Expr e pos) (tDrop te) := by
  intro pins s σ H D I h
  exact wpAny_Expr_any (thn (he pins s σ H _ I h) fun v s1 ⟨x, H1, I1, r1, q1⟩ => ⟨σ, H1, I1, q1⟩) I.quiet hs
noncomputable def tRet (te : TE) : TS := fun D σ H => te σ H D.rt
theorem ps_ret (he : PE X e te) : PS X (.Return (some e) pos) (tRet te) := by
  intro pins s σ H D I h
  exact wpAny_Return_some (thn (he pins s σ H _ I h) fun v s1 ⟨x, H1, I1, r1, q1⟩ => ⟨x, σ, H1, I1, r1, q1⟩)
noncomputable def tIfS (c : TT) (t u : TS) : TS := fun D σ H => c σ H fun b H1 => if b = true then t D σ H1 else u D σ H1
theorem ps_if {c : Expr} {a b : List Stmt} {tc : TT} (hc : PT X c tc) (ha : PSs X a t) (hb : PSs X b u) : PS X (.If c a b pos) (tIfS tc t u) := by
  intro pins s σ H D I h
  refine wpAny_If (thn (hc pins s σ H _ I h) fun d s1 ⟨H1, I1, q1⟩ => ?_)
  cases d with
  | true => exact ha pins s1 σ H1 D I1 q1
  | false => exact hb pins s1 σ H1 D I1 q1
noncomputable def tNever : TS := fun _ _ _ => False
theorem ps_never : PS X st tNever := fun _ _ _ _ _ _ h => h.elim
end
noncomputable abbrev TG := V → St → Hp → (St → Hp → Prop) → Prop
noncomputable abbrev TGs := List V → St → Hp → (St → Hp → Prop) → Prop
def PG (X : Cx) (target : Expr) (t : TG) : Prop :=
  ∀ (pins : List (Addr × Obj)) (s : Shared) (σ : St) (H : Hp) (v : V) (u : Value) (Q : St → Hp → Prop), Inv X pins σ H s → RelV v u → t v σ H Q →
    wpAny (model X.prog X.w) X.A (assign target X.env u) (fun _ s' => ∃ σ' H', Inv X pins σ' H' s' ∧ Q σ' H') X.xe s
def PGs (X : Cx) (ts : List Expr) (t : TGs) : Prop :=
  ∀ (pins : List (Addr × Obj)) (s : Shared) (σ : St) (H : Hp) (vs : List V) (us : List Value) (Q : St → Hp → Prop), Inv X pins σ H s → Vals vs us → t vs σ H Q →
    wpAny (model X.prog X.w) X.A (assignInOrder ((assignEach ts X.env).map (·.2)) us) (fun _ s' => ∃ σ' H', Inv X pins σ' H' s' ∧ Q σ' H') X.xe s
noncomputable abbrev TSet := V → V → V → Hp → (Hp → Prop) → Prop
def PSet (X : Cx) (t : TSet) : Prop :=
  ∀ (pins : List (Addr × Obj)) (s : Shared) (σ : St) (H : Hp) (o i v : V) (ov iv u : Value) (Q : Hp → Prop), Inv X pins σ H s → RelV o ov → RelV i iv → RelV v u → t o i v H Q →
    wpAny (model X.prog X.w) X.A (setItem ov iv u) (fun _ s' => ∃ H', Inv X pins σ H' s' ∧ Q H') X.xe s
section
variable {X : Cx} {pos : Pos}
noncomputable def gName (i : Nat) : TG := fun v σ H Q => Q (σ.set i (some v)) H
theorem pg_name {i : Nat} {x : Str} (hN : X.N.Nodup) (hi : X.N[i]? = some x) (hx : Loc X.env.scope x) (hf : X.fn x = true ∨ X.env.scope.names.lookup x = some .local := by first | exact .inl rfl | exact .inr rfl | assumption) : PG X (.Name x pos) (gName i) := by
  intro pins s σ H v u Q I r h
  exact wpAny_assign_Name (store_ok I hN hi hx r (fun s' I' => ⟨_, H, I', h⟩) hf)
noncomputable def gNil : TGs := fun vs σ H Q => vs = [] ∧ Q σ H
noncomputable def gCons (t : TG) (u : TGs) : TGs := fun vs σ H Q => ∃ v r, vs = v :: r ∧ t v σ H fun σ' H' => u r σ' H' Q
theorem pgs_nil : PGs X [] gNil := by
  intro pins s σ H vs us Q I r h
  obtain ⟨e, h⟩ := h
  subst e
  cases r
  exact assignInOrder_nil ⟨σ, H, I, h⟩
theorem pgs_cons {e : Expr} {es : List Expr} {t : TG} {u : TGs} (h1 : PG X e t) (h2 : PGs X es u)
    (hs : (assignEach (e :: es) X.env).map (·.2) = assign e X.env :: (assignEach es X.env).map (·.2) := by rfl) : PGs X (e :: es) (gCons t u) := by
  intro pins s σ H vs us Q I r h
  obtain ⟨v, vr, e1, h⟩ := h
  subst e1
  cases r with
  | cons r rr =>
    rw [hs]
    refine assignInOrder_cons (thn (h1 pins s σ H _ _ _ I r h) fun _ s1 ⟨σ1, H1, I1, q1⟩ => ?_)
    exact h2 pins s1 σ1 H1 _ _ Q I1 rr q1
noncomputable def gTup (K : W.Frag) (n : Nat) (t : TGs) : TG := fun v σ H Q => ∃ a xs, v = .ref a ∧ SqT K H a xs ∧ xs.length = n ∧ t xs σ H Q
theorem pg_tup {es : List Expr} {k : Nat} {t : TGs} {n : Nat} (hc : X.calm = true) (h : PGs X es t)
    (hn : (assignEach es X.env).length = n := by rfl) (hst : (assignEach es X.env).findIdx? (·.1) = none := by rfl) : PG X (.Tuple es k pos) (gTup X.K n t) := by
  intro pins s σ H v u Q I r hw
  obtain ⟨a, xs, e1, hq, hl, hw⟩ := hw
  subst e1
  cases r
  obtain ⟨its, rv, ht, hz⟩ := I.tuple hq
  refine assign_Tuple_tuple (I.ok.hd hc) ht (by simp [hn, ← hl, rv.length]) hst fun h' hx => ?_
  have I1 : Inv X pins σ H { s with heap := h' } := I.kept (t' := s.toks) fun b o e => hx b o (Nat.ne_of_lt (Heap.lt_size e)) e
  exact h pins _ σ H xs _ Q I1 (by simpa using rv) hw
noncomputable def gSub (to ti : TE) (t : TSet) : TG := fun v σ H Q => to σ H fun o H1 => ti σ H1 fun i H2 => t o i v H2 fun H3 => Q σ H3
theorem pg_sub {o i : Expr} {to ti : TE} {t : TSet} (ho : PE X o to) (hi : PE X i ti) (hs : PSet X t)
    (ha : ∀ v, assign (.Subscript o i pos) X.env v = (do
      let ov ← holding [v] (eval o X.env)
      let iv ← holding [v, ov] (eval i X.env)
      standAt pos
      holding [v, ov, iv] (setItem ov iv v)
      release [v, ov, iv] []) := by intro _; rfl) : PG X (.Subscript o i pos) (gSub to ti t) := by
  intro pins s σ H v u Q I r h
  rw [ha]
  refine wpAny_bind (wpAny_holding (thn (ho pins s σ H _ I h) fun ov s1 ⟨x, H1, I1, r1, q1⟩ => ?_))
  refine wpAny_bind (wpAny_holding (thn (hi pins s1 σ H1 _ I1 q1) fun iv s2 ⟨y, H2, I2, r2, q2⟩ => ?_))
  refine wpAny_bind (wpAny_standAt (wpAny_bind (wpAny_holding (thn (hs pins s2 σ H2 x y v ov iv u _ I2 r1 r2 r q2) fun _ s3 ⟨H3, I3, q3⟩ => ?_))))
  exact wpAny_release ⟨σ, H3, I3, q3⟩
noncomputable def tAsg (te : TE) (g : TG) : TS := fun D σ H => te σ H fun x H1 => g x σ H1 D.nx
theorem ps_asg {tg e : Expr} {te : TE} {g : TG} (he : PE X e te) (hg : PG X tg g) (hs : swapsWithSole [tg] e pos.line X.env = pure false := by rfl) (hw : swappedStores [tg] e X.env = pure none := by rfl)
    (h1 : (assignEach [tg] X.env).map (·.2) = [assign tg X.env] := by rfl) : PS X (.Assign [tg] e pos) (tAsg te g) := by
  intro pins s σ H D I h
  refine wpAny_Assign_stores (thn (he pins s σ H _ I h) fun v s1 ⟨x, H1, I1, r1, q1⟩ => ?_) hs hw
  rw [h1]
  exact thn (hg pins s1 σ H1 x v _ I1 r1 q1) fun _ s2 q => q
theorem ps_set {i : Nat} {x : Str} {e : Expr} {te : TE} {pos' : Pos} (hN : X.N.Nodup) (hi : X.N[i]? = some x) (hx : Loc X.env.scope x) (he : PE X e te) (hs : swapsWith e (some (.Name x pos')) pos.line X.env = pure false := by rfl) (hf : X.fn x = true ∨ X.env.scope.names.lookup x = some .local := by first | exact .inl rfl | exact .inr rfl | assumption) :
    PS X (.Assign [.Name x pos'] e pos) (tAsg te (gName i)) := by
  intro pins s σ H D I h
  refine wpAny_Assign_Name (thn (he pins s σ H _ I h) fun v s1 ⟨y, H1, I1, r1, q1⟩ => ?_) hs
  exact store_ok I1 hN hi hx r1 (fun s2 I2 => ⟨_, H1, I2, q1⟩) hf
noncomputable def tPar (i j : Nat) (ta : TA) : TS := fun D σ H => ta σ H fun vs H1 => ∃ v w, vs = [v, w] ∧ D.nx ((σ.set i (some v)).set j (some w)) H1
theorem ps_par {i j : Nat} {x y : Str} {a b : Expr} {ta : TA} {px py pt : Pos} {kt k2 pt2} (hc : X.calm = true) (hN : X.N.Nodup) (hi : X.N[i]? = some x) (hj : X.N[j]? = some y) (hij : i ≠ j)
    (hx : X.env.scope.names.lookup x = some .local) (hy : X.env.scope.names.lookup y = some .local) (ha : PA X [a, b] ta)
    (hw : swappedStores [.Tuple [.Name x px, .Name y py] kt pt] (.Tuple [a, b] k2 pt2) X.env = pure (some [x, y]))
    (hs : swapsWithSole [.Tuple [.Name x px, .Name y py] kt pt] (.Tuple [a, b] k2 pt2) pos.line X.env = pure false := by rfl) :
    PS X (.Assign [.Tuple [.Name x px, .Name y py] kt pt] (.Tuple [a, b] k2 pt2) pos) (tPar i j ta) := by
  intro pins s σ H D I h
  rw [exec_Assign_arm]
  refine wpAny_bind (wpAny_standAt ?_)
  rw [hs]
  refine wpAny_bind (wpAny_pure ?_)
  rw [if_neg (by decide)]
  refine wpAny_bind (Tuple_ (thn (ha _ pins s σ H _ I h) fun us s1 ⟨vs, H1, I1, r1, q1⟩ => ?_))
  obtain ⟨v, w, e1, q1⟩ := q1
  subst e1
  obtain ⟨u1, u2, rfl, rv, rw'⟩ : ∃ u1 u2, us = [u1, u2] ∧ RelV v u1 ∧ RelV w u2 := by
    cases r1 with
    | cons p q =>
      cases q with
      | cons p' q' =>
        cases q'
        exact ⟨_, _, rfl, p, p'⟩
  refine wpAny_newObj_type ?_ (by show 2 ≤ sizeLine; decide)
  have I2 : Inv X pins σ H1 { s1 with heap := s1.heap.push { cls := .type "tuple", data := .seq [u1, u2].toArray } } := I1.kept (t' := s1.toks) fun b o e => Heap.get?_push_of_some _ e
  rw [hw]
  refine wpAny_bind (wpAny_pure ?_)
  show wpAny (model X.prog X.w) X.A (do rule "assign.swapped-stores"; let items ← unpackItems (.ref s1.heap.objs.size) 2 none; assignInOrder [fun v => bindName X.env y v, fun v => bindName X.env x v] items.reverse; pure Flow.next) _ _ _
  refine wpAny_bind (wpAny_rule (wpAny_bind (unpackItems_tuple (items := #[u1, u2]) (I.ok.hd hc) (IsTup.new s1.heap _) fun h' hx' => ?_)))
  have I3 := I2.kept (h' := h') (t' := s1.toks) fun b o e => hx' b o (Nat.ne_of_lt (Heap.lt_size e)) e
  show wpAny _ _ (assignInOrder [fun v => bindName X.env y v, fun v => bindName X.env x v] [u2, u1] >>= fun _ => pure Flow.next) _ _ _
  refine wpAny_bind (assignInOrder_cons (wpAny_bindName (store_ok I3 hN hj (.inl hy) rw' (fun s2 I4 => ?_) (.inr hy))))
  refine assignInOrder_cons (wpAny_bindName (store_ok I4 hN hi (.inl hx) rv (fun s3 I5 => assignInOrder_nil (wpAny_pure ?_)) (.inr hx)))
  rw [List.set_comm _ _ (Ne.symm hij)] at I5
  exact ⟨_, H1, I5, q1⟩
end
section
variable {X : Cx} {pos : Pos}
noncomputable def tWhile (c : TT) (tb : TS) : TS := fun D σ H => ∃ W : Nat → St → Hp → Prop, (∃ m, W m σ H) ∧ ∀ m σ H, W m σ H →
  c σ H fun b H1 => if b = true then ∃ N : St → Hp → Prop, (∀ σ' H', N σ' H' → ∃ m', m' < m ∧ W m' σ' H') ∧ tb { D with nx := N, ct := N, bk := D.nx } σ H1 else D.nx σ H1
theorem ps_while {c : Expr} {body : List Stmt} {tc : TT} {tb : TS} (hp : PassesOwn (model X.prog X.w) X.A X.env X.xe) (hc : PT X c tc) (hb : PSs X body tb) : PS X (.While c body [] pos) (tWhile tc tb) := by
  intro pins s σ H D I h
  obtain ⟨W, ⟨m0, w0⟩, turn⟩ := h
  refine wpAny_While (codeAny_whileLoop (fun n s' => ∃ σ' H', Inv X pins σ' H' s' ∧ W n σ' H') ?_ m0 ⟨σ, H, I, w0⟩)
  rintro n s1 ⟨σ1, H1, I1, w1⟩
  refine wpAny_passesOwn hp (thn (hc pins s1 σ1 H1 _ I1 (turn n σ1 H1 w1)) fun b s2 ⟨H2, I2, q2⟩ => ?_)
  cases b with
  | true =>
    obtain ⟨N, hN, q2⟩ := q2
    rw [if_pos rfl]
    refine wpAny_passesOwn hp (thn (hb pins s2 σ1 H2 _ I2 q2) fun f s3 q3 => ?_)
    cases f with
    | next =>
      obtain ⟨σ3, H3, I3, n3⟩ := q3
      obtain ⟨m', hm, w3⟩ := hN σ3 H3 n3
      exact ⟨m', hm, σ3, H3, I3, w3⟩
    | cont =>
      obtain ⟨σ3, H3, I3, n3⟩ := q3
      obtain ⟨m', hm, w3⟩ := hN σ3 H3 n3
      exact ⟨m', hm, σ3, H3, I3, w3⟩
    | brk => exact q3
    | ret v => exact q3
  | false =>
    rw [if_neg fnt]
    exact wpAny_execs_nil ⟨σ1, H2, I2, q2⟩
end
structure It where
  go : Nat → Hp → Prop
  yld : Nat → Hp → V → Hp → Prop
  stop : Nat → Hp → Prop
def FpOk (X : Cx) (pins : List (Addr × Obj)) (H : Hp) (b : Addr) : Prop :=
  H b = none ∧ b ≠ X.env.locals ∧ b ∉ X.fs ∧ (b ∈ X.ex ∨ X.s₀.heap.objs.size ≤ b) ∧ (∀ x c, X.env.cells.lookup x = some c → c ≠ b) ∧ ∀ p ∈ X.pn ++ pins, p.1 ≠ b
theorem Inv.fpOk {X : Cx} {pins : List (Addr × Obj)} {σ : St} {H H' : Hp} {s : Shared} {b : Addr} (I : Inv X pins σ H s) (hb : s.heap.objs.size ≤ b) (hn : H' b = none) : FpOk X pins H' b := by
  refine ⟨hn, Nat.ne_of_gt (Nat.lt_of_lt_of_le I.lt hb), I.nofs hb, .inr (Nat.le_trans I.sz hb), fun x c e z => ?_, fun p hp z => ?_⟩
  · obtain ⟨v, q⟩ := I.cell x c e
    exact absurd (Nat.lt_of_lt_of_le q.lt (by rw [z]; exact hb)) (Nat.lt_irrefl _)
  · exact absurd (Nat.lt_of_lt_of_le (Heap.lt_size (I.pin p hp).1) (by rw [z]; exact hb)) (Nat.lt_irrefl _)
structure Turn (P : Program) (w : World) (K : W.Frag) (tg : Expr) (J : It) (fp : List Addr) (it : Addr) (tn : Nat → Heap → Prop) : Prop where
  mem : it ∈ fp
  obj : ∀ i h, tn i h → ∀ b ∈ fp, ∃ o, h.get? b = some o ∧ ∀ v, o.data ≠ .cell v
  keep : ∀ i h h', tn i h → (∀ b ∈ fp, ∀ o, h.get? b = some o → h'.get? b = some o) → tn i h'
  item : ∀ (X : Cx), X.prog = P → X.w = w → X.K = K → X.calm = true → ∀ (i : Nat) (pins : List (Addr × Obj)) (s : Shared) (σ : St) (H : Hp) (E : Value → Shared → Prop), Inv X pins σ H s → (∀ b ∈ fp, FpOk X pins H b) → tn i s.heap → J.go i H →
    wpAny (model P w) X.A (pyNext (.ref it)) (fun r s1 => ∃ u, r = some u ∧
      wpAny (model P w) X.A (letOwnedTupleGo tg (.ref it) u) (fun _ s2 => ∃ x H', Inv X pins σ H' s2 ∧ RelV x u ∧ J.yld i H x H' ∧ tn (i + 1) s2.heap ∧ ∀ b ∈ fp, H' b = none) E s1) E s
  done : ∀ (X : Cx), X.prog = P → X.w = w → X.K = K → X.calm = true → ∀ (i : Nat) (pins : List (Addr × Obj)) (s : Shared) (σ : St) (H : Hp) (E : Value → Shared → Prop), Inv X pins σ H s → (∀ b ∈ fp, FpOk X pins H b) → tn i s.heap → J.stop i H →
    wpAny (model P w) X.A (pyNext (.ref it)) (fun r s1 => r = none ∧ Inv X pins σ H s1) E s
  self : ∀ (A : Around) (i : Nat) (s : Shared) (Q : Value → Shared → Prop) (E : Value → Shared → Prop), tn i s.heap → Q (.ref it) s → wpAny (model P w) A (pyIter (.ref it)) Q E s
noncomputable abbrev TI := St → Hp → (It → Hp → Prop) → Prop
def PIE (X : Cx) (pins : List (Addr × Obj)) (σ : St) (tg : Expr) (R : It → Hp → Prop) (itv : Value) (s2 : Shared) : Prop :=
  ∃ (it : Addr) (fp : List Addr) (tn : Nat → Heap → Prop) (J : It) (H' : Hp), itv = .ref it ∧ Inv X pins σ H' s2 ∧ Turn X.prog X.w X.K tg J fp it tn ∧ tn 0 s2.heap ∧ (∀ b ∈ fp, FpOk X pins H' b) ∧ R J H'
def PI (X : Cx) (tg iter : Expr) (wi : TI) : Prop :=
  ∀ (pins : List (Addr × Obj)) (s : Shared) (σ : St) (H : Hp) (R : It → Hp → Prop), Inv X pins σ H s → wi σ H R →
    wpAny (model X.prog X.w) X.A (eval iter X.env) (fun v s1 => wpAny (model X.prog X.w) X.A (pyIter v) (PIE X pins σ tg R) X.xe s1) X.xe s
theorem go_of {M : Model} {A : Around} {E : Value → Shared → Prop} {s : Shared} {tg : Expr} {it : Addr} {u : Value} {o : Obj} {n : String} {vs : Array Value} {Q : Unit → Shared → Prop} (ho : s.heap.get? it = some o) (hc : o.cls = .type n) (hd : o.data = .fields vs)
    (hn : ["enumerate", "zip", "dict_itemiterator", "dict_reverseitemiterator", "odict_iterator", "itertools.zip_longest", "itertools.pairwise"].contains n = false) (hQ : Q () s) : wpAny M A (letOwnedTupleGo tg (.ref it) u) Q E s := by
  unfold letOwnedTupleGo
  cases tg <;> first
    | exact wpAny_pure hQ
    | (cases u <;> first
        | exact wpAny_pure hQ
        | (refine wpAny_bind (wpAny_load ho ?_)
           rw [hc, hd]
           show wpAny M A (if (["enumerate", "zip", "dict_itemiterator", "dict_reverseitemiterator", "odict_iterator", "itertools.zip_longest", "itertools.pairwise"].contains n && vs[0]? == some (rawInt _)) = true then _ else _) Q E s
           rw [if_neg (by intro h; rw [hn, Bool.false_and] at h; cases h)]
           exact wpAny_pure hQ))
noncomputable def Itl (K : W.Frag) (a : Addr) : It :=
  ⟨fun i H => ∃ xs x, SqL K H a xs ∧ xs[i]? = some x, fun i H x H' => H' = H ∧ ∀ xs, SqL K H a xs → xs[i]? = some x, fun i H => ∃ xs, SqL K H a xs ∧ xs.length ≤ i⟩
noncomputable def Itt (K : W.Frag) (a : Addr) : It :=
  ⟨fun i H => ∃ xs x, SqT K H a xs ∧ xs[i]? = some x, fun i H x H' => H' = H ∧ ∀ xs, SqT K H a xs → xs[i]? = some x, fun i H => ∃ xs, SqT K H a xs ∧ xs.length ≤ i⟩
noncomputable def Itr (lo : Int) (n : Nat) : It := ⟨fun i _ => i < n, fun i H x H' => H' = H ∧ x = .int (lo + i), fun i _ => n ≤ i⟩
theorem turn_list {P : Program} {w : World} {K : W.Frag} {tg : Expr} (a it : Addr) : Turn P w K tg (Itl K a) [it] it (fun i h => h.IsListIter it a i) where
  mem := by simp
  obj := fun i h st b hb => by
    have e : b = it := by simpa using hb
    subst e
    obtain ⟨o, e, c, d⟩ := st
    exact ⟨o, e, fun v z => by rw [d] at z; cases z⟩
  keep := fun i h h' st k => st.at fun o e => k it (by simp) o e
  item := by
    intro X hP hw hK hc i pins s σ H E I hf st hg
    subst hP hw hK
    obtain ⟨xs, x, hq, hx⟩ := hg
    obtain ⟨its, rv, p, hz⟩ := I.list hq
    obtain ⟨u, hu, ru⟩ := rv.get hx
    obtain ⟨f0, f1, f2, f3, f4, f5⟩ := hf it (by simp)
    refine wpAny_pyNext_list_item st p.isList (x := u) (by simpa using hu) fun h' st' sb => ?_
    have I1 : Inv X pins σ H { s with heap := h' } := I.turned (t' := s.toks) (fun b o hb e => (sb.2 b hb).trans e) f0 f1 f3 f4 f5
    obtain ⟨o, e, c, d⟩ := id st'
    exact ⟨u, rfl, go_of (s := { s with heap := h' }) e c d (by decide) ⟨x, H, I1, ru, ⟨rfl, fun ys hy => by rw [I.list_inj hy hq]; exact hx⟩, st', fun b hb => (hf b hb).1⟩⟩
  done := by
    intro X hP hw hK hc i pins s σ H E I hf st hg
    subst hP hw hK
    obtain ⟨xs, hq, hx⟩ := hg
    obtain ⟨its, rv, p, hz⟩ := I.list hq
    obtain ⟨f0, f1, f2, f3, f4, f5⟩ := hf it (by simp)
    have hl := rv.length
    exact wpAny_pyNext_list_end (I.ok.hd hc) st p.isList (by simp; omega) fun h' eb => ⟨rfl, I.turned (t' := s.toks) (fun b o hb e => eb b o hb e) f0 f1 f3 f4 f5⟩
  self := fun _ _ _ _ _ st h => wpAny_pyIter_listiter st h
theorem turn_tuple {P : Program} {w : World} {K : W.Frag} {tg : Expr} (a it : Addr) : Turn P w K tg (Itt K a) [it] it (fun i h => h.IsTupleIter it a i) where
  mem := by simp
  obj := fun i h st b hb => by
    have e : b = it := by simpa using hb
    subst e
    obtain ⟨o, e, c, d⟩ := st
    exact ⟨o, e, fun v z => by rw [d] at z; cases z⟩
  keep := fun i h h' st k => st.at fun o e => k it (by simp) o e
  item := by
    intro X hP hw hK hc i pins s σ H E I hf st hg
    subst hP hw hK
    obtain ⟨xs, x, hq, hx⟩ := hg
    obtain ⟨its, rv, p, hz⟩ := I.tuple hq
    obtain ⟨u, hu, ru⟩ := rv.get hx
    obtain ⟨f0, f1, f2, f3, f4, f5⟩ := hf it (by simp)
    refine wpAny_pyNext_tuple_item st (show s.heap.IsTuple a its.toArray from p) (x := u) (by simpa using hu) fun h' st' sb => ?_
    have I1 : Inv X pins σ H { s with heap := h' } := I.turned (t' := s.toks) (fun b o hb e => (sb.2 b hb).trans e) f0 f1 f3 f4 f5
    obtain ⟨o, e, c, d⟩ := id st'
    exact ⟨u, rfl, go_of (s := { s with heap := h' }) e c d (by decide) ⟨x, H, I1, ru, ⟨rfl, fun ys hy => by rw [I.tuple_inj hy hq]; exact hx⟩, st', fun b hb => (hf b hb).1⟩⟩
  done := by
    intro X hP hw hK hc i pins s σ H E I hf st hg
    subst hP hw hK
    obtain ⟨xs, hq, hx⟩ := hg
    obtain ⟨its, rv, p, hz⟩ := I.tuple hq
    obtain ⟨f0, f1, f2, f3, f4, f5⟩ := hf it (by simp)
    have hl := rv.length
    exact wpAny_pyNext_tuple_end (I.ok.hd hc) st (show s.heap.IsTuple a its.toArray from p) (by simp; omega) fun h' eb => ⟨rfl, I.turned (t' := s.toks) (fun b o hb e => eb b o hb e) f0 f1 f3 f4 f5⟩
  self := fun _ _ _ _ _ st h => wpAny_pyIter_tupleiter st h
theorem turn_range {P : Program} {w : World} {K : PySem.W.Frag} {tg : Expr} (it : Addr) (lo : Int) (n : Nat) : Turn P w K tg (Itr lo n) [it] it (fun i h => IsRangeIter h it (lo + (i : Nat) * 1) ((n : Int) - (i : Nat)) 1) where
  mem := by simp
  obj := fun i h st b hb => by
    have e : b = it := by simpa using hb
    subst e
    exact ⟨_, st, fun v z => by
      have z' : Data.fields _ = Data.cell v := z
      cases z'⟩
  keep := fun i h h' st k => k it (by simp) _ st
  item := by
    intro X hP hw hK hc i pins s σ H E I hf st hg
    subst hP hw hK
    obtain ⟨f0, f1, f2, f3, f4, f5⟩ := hf it (by simp)
    have W := Walks.range (prog := X.prog) (w := X.w) (I.ok.hd hc) it lo 1 n
    refine W.item i s _ _ hg st fun v h' tk hv st' kk => ?_
    obtain ⟨t, rfl⟩ := hv
    have I1 : Inv X pins σ H { s with heap := h', toks := tk } := I.turned (fun b o hb e => kk b o (by simpa using hb) e) f0 f1 f3 f4 f5
    refine ⟨_, rfl, go_of (s := { s with heap := h', toks := tk }) (n := "range_iterator") st' rfl rfl (by decide) ⟨.int (lo + i), H, I1, ⟨t, ?_⟩, ⟨rfl, rfl⟩, st', fun b hb => (hf b hb).1⟩⟩
    rw [Int.mul_one]
  done := by
    intro X hP hw hK hc i pins s σ H E I hf st hg
    subst hP hw hK
    obtain ⟨f0, f1, f2, f3, f4, f5⟩ := hf it (by simp)
    exact wpAny_pyNext_range_end (I.ok.hd hc) st (by have : n ≤ i := hg; omega) fun h' eb => ⟨rfl, I.turned (t' := s.toks) (fun b o hb e => eb b o hb e) f0 f1 f3 f4 f5⟩
  self := fun _ _ _ _ _ st h => wpAny_pyIter_rangeiter st h
end L2
namespace L2
open PySem PySem.Spec PyProof.Rows
section
variable {X : Cx} {tg : Expr}
noncomputable def iList (K : W.Frag) (tl : TE) : TI := fun σ H R => tl σ H fun x H1 => ∃ a, x = .ref a ∧ (∃ xs, SqL K H1 a xs) ∧ R (Itl K a) H1
noncomputable def iTup (K : W.Frag) (tl : TE) : TI := fun σ H R => tl σ H fun x H1 => ∃ a, x = .ref a ∧ (∃ xs, SqT K H1 a xs) ∧ R (Itt K a) H1
theorem pi_list {l : Expr} {tl : TE} (hl : PE X l tl) : PI X tg l (iList X.K tl) := by
  intro pins s σ H R I h
  refine thn (hl pins s σ H _ I h) fun v s1 ⟨x, H1, I1, r1, q1⟩ => ?_
  obtain ⟨a, e, ⟨xs, hq⟩, q⟩ := q1
  subst e
  cases r1
  obtain ⟨its, rv, p, hz⟩ := I1.list hq
  refine wpAny_pyIter_list p.isList ?_
  refine ⟨s1.heap.objs.size, [s1.heap.objs.size], _, _, H1, rfl, I1.kept (t' := s1.toks) fun b o e => Heap.get?_push_of_some _ e, turn_list a _, ⟨_, Heap.get?_push_size _ rfl, rfl, rfl⟩, fun b hb => ?_, q⟩
  have e : b = s1.heap.objs.size := by simpa using hb
  subst e
  exact I1.fpOk (Nat.le_refl _) (I1.hok.fresh (Nat.le_refl _))
theorem pi_tup {l : Expr} {tl : TE} (hl : PE X l tl) : PI X tg l (iTup X.K tl) := by
  intro pins s σ H R I h
  refine thn (hl pins s σ H _ I h) fun v s1 ⟨x, H1, I1, r1, q1⟩ => ?_
  obtain ⟨a, e, ⟨xs, hq⟩, q⟩ := q1
  subst e
  cases r1
  obtain ⟨its, rv, p, hz⟩ := I1.tuple hq
  refine wpAny_pyIter_tuple (show s1.heap.IsTuple a its.toArray from p) ?_
  refine ⟨s1.heap.objs.size, [s1.heap.objs.size], _, _, H1, rfl, I1.kept (t' := s1.toks) fun b o e => Heap.get?_push_of_some _ e, turn_tuple a _, ⟨_, Heap.get?_push_size _ rfl, rfl, rfl⟩, fun b hb => ?_, q⟩
  have e : b = s1.heap.objs.size := by simpa using hb
  subst e
  exact I1.fpOk (Nat.le_refl _) (I1.hok.fresh (Nat.le_refl _))
theorem range_it {pins : List (Addr × Obj)} {σ : St} {H : Hp} {s : Shared} {R : It → Hp → Prop} {E : Value → Shared → Prop} {lo hi : Int} {t u v : Tok} {tk : Nat} (I : Inv X pins σ H s) (h1 : -(2 ^ 62) ≤ lo) (h2 : lo < 2 ^ 62) (h3 : -(2 ^ 62) ≤ hi) (h4 : hi < 2 ^ 62)
    (q : R (Itr lo (hi - lo).toNat) H) : wpAny (model X.prog X.w) X.A (pyIter (.ref s.heap.objs.size)) (PIE X pins σ tg R) E { s with heap := s.heap.push { cls := .type "range", data := .fields #[.int lo t, .int hi u, .int 1 v] }, toks := tk } := by
  refine wpAny_pyIter_range (IsRange.new ..) (small_one h1 h2 h3 h4) ?_
  have I1 : Inv X pins σ H { s with heap := s.heap.push { cls := .type "range", data := .fields #[.int lo t, .int hi u, .int 1 v] }, toks := tk } := I.kept fun b o e => Heap.get?_push_of_some _ e
  refine ⟨(s.heap.push { cls := .type "range", data := .fields #[.int lo t, .int hi u, .int 1 v] }).objs.size, [(s.heap.push { cls := .type "range", data := .fields #[.int lo t, .int hi u, .int 1 v] }).objs.size], _, _, H, rfl,
    I1.kept (t' := tk) fun b o e => Heap.get?_push_of_some _ e, turn_range _ lo (hi - lo).toNat, ?_, fun b hb => ?_, q⟩
  · have e1 : lo + ((0 : Nat) : Int) * 1 = lo := by simp
    have e2 : (((hi - lo).toNat : Nat) : Int) - ((0 : Nat) : Int) = Builtin.Range.rangeSize lo hi 1 := by rw [rangeSize_one]; split <;> omega
    show IsRangeIter _ _ (lo + ((0 : Nat) : Int) * 1) ((((hi - lo).toNat : Nat) : Int) - ((0 : Nat) : Int)) 1
    rw [e1, e2]
    exact Heap.get?_push_size _ rfl
  · have e : b = (s.heap.push { cls := .type "range", data := .fields #[.int lo t, .int hi u, .int 1 v] }).objs.size := by simpa using hb
    subst e
    exact I1.fpOk (Nat.le_refl _) (I1.hok.fresh (Nat.le_refl _))
noncomputable def iRng1 (ta : TA) : TI := fun σ H R => ta σ H fun vs H1 => ∃ j : Int, vs = [.int j] ∧ -(2 ^ 62) ≤ j ∧ j < 2 ^ 62 ∧ R (Itr 0 j.toNat) H1
theorem pi_range1 {a : Expr} {ta : TA} {p pos : Pos} (hg : Gl X "range") (hm : X.mg "range" = none) (ha : PA X [a] ta) (hs : starEach [a] X.env = [(false, eval a X.env)] := by rfl) : PI X tg (.Call (.Name "range" p) [a] [] pos) (iRng1 ta) := by
  intro pins s σ H R I h
  refine Call_ (ld_blt I hg hm boot_range (PyProof.Rows.callWith_type1 (thn (ha pos pins s σ H _ I h) fun us s1 ⟨vs, H1, I1, r1, q1⟩ => ?_) hs rfl))
  obtain ⟨j, e, q1, q2, q⟩ := q1
  subst e
  cases r1 with
  | cons r rr =>
    cases rr
    obtain ⟨t, rfl⟩ := r
    exact call_range_1 (range_it I1 (by omega) (by omega) q1 q2 (by simpa using q))
noncomputable def tFor (wi : TI) (g : TG) (tb : TS) : TS := fun D σ H => wi σ H fun J H1 => ∃ W : Nat → Nat → St → Hp → Prop, (∃ m, W 0 m σ H1) ∧ ∀ i m σ H, W i m σ H →
  (J.stop i H ∧ D.nx σ H) ∨ (J.go i H ∧ ∃ N : St → Hp → Prop, (∀ σ' H', N σ' H' → ∃ m', m' < m ∧ W (i + 1) m' σ' H') ∧ ∀ x H', J.yld i H x H' → g x σ H' fun σ2 H2 => tb { D with nx := N, ct := N, bk := D.nx } σ2 H2)
noncomputable def pinsAt (fp : List Addr) (h : Heap) : List (Addr × Obj) := fp.filterMap fun b => (h.get? b).map fun o => (b, o)
theorem mem_pinsAt {fp : List Addr} {h : Heap} {b : Addr} {o : Obj} (hb : b ∈ fp) (e : h.get? b = some o) : (b, o) ∈ pinsAt fp h := List.mem_filterMap.mpr ⟨b, hb, by rw [e]; rfl⟩
theorem of_pinsAt {fp : List Addr} {h : Heap} {p : Addr × Obj} (hp : p ∈ pinsAt fp h) : p.1 ∈ fp ∧ h.get? p.1 = some p.2 := by
  obtain ⟨b, hb, e⟩ := List.mem_filterMap.mp hp
  cases q : h.get? b with
  | none => rw [q] at e; cases e
  | some o =>
    rw [q] at e
    have e' : (b, o) = p := Option.some.inj e
    subst e'
    exact ⟨hb, q⟩
theorem Inv.pinned {pins : List (Addr × Obj)} {σ : St} {H : Hp} {s : Shared} {fp : List Addr} (I : Inv X pins σ H s) (hf : ∀ b ∈ fp, FpOk X pins H b) (ho : ∀ b ∈ fp, ∃ o, s.heap.get? b = some o ∧ ∀ v, o.data ≠ .cell v) : Inv X (pins ++ pinsAt fp s.heap) σ H s :=
  I.pins_of fun p hp => (List.mem_append.mp hp).elim (fun z => I.pin p (List.mem_append_right _ z)) fun z => by
    obtain ⟨hb, e⟩ := of_pinsAt z
    obtain ⟨f0, f1, f2, _⟩ := hf p.1 hb
    obtain ⟨o, e', d⟩ := ho p.1 hb
    rw [e] at e'; cases e'
    exact ⟨e, f0, f1, f2, d⟩
theorem Inv.unpinned {pins pl : List (Addr × Obj)} {σ : St} {H : Hp} {s : Shared} (I : Inv X (pins ++ pl) σ H s) : Inv X pins σ H s := I.pins_of fun p hp => I.pin p (List.mem_append_right _ (List.mem_append_left _ hp))
theorem ps_for {iter : Expr} {body : List Stmt} {wi : TI} {g : TG} {tb : TS} {pos : Pos} (hp : PassesOwn (model X.prog X.w) X.A X.env X.xe) (hc : X.calm = true) (hi : PI X tg iter wi) (hg : PG X tg g) (hb : PSs X body tb)
    (hs : ∀ x, foldedSetIterable iter X.env x = pure x := by intro _; rfl) : PS X (.For tg iter body [] pos) (tFor wi g tb) := by
  intro pins s σ H D I h
  refine wpAny_For (thn (hi pins s σ H _ I h) fun v s1 h1 => thn h1 fun itv s2 h2 => ?_) hs
  obtain ⟨it, fp, tn, J, H2, e, I2, T, st2, f2, W, ⟨m0, w0⟩, turn⟩ := h2
  subst e
  have stat : ∀ {H' : Hp}, (∀ b ∈ fp, H' b = none) → ∀ b ∈ fp, FpOk X pins H' b := fun hn b hb => ⟨hn b hb, (f2 b hb).2⟩
  refine codeAny_forLoop_any (fun n s' => ∃ i σ' H', Inv X pins σ' H' s' ∧ tn i s'.heap ∧ (∀ b ∈ fp, H' b = none) ∧ W i n σ' H') ?_ m0 ⟨0, σ, H2, I2, st2, fun b hb => (f2 b hb).1, w0⟩
  rintro n s3 ⟨i, σ3, H3, I3, st3, fr3, w3⟩
  rcases turn i n σ3 H3 w3 with ⟨stop, qn⟩ | ⟨go, N, hN, step⟩
  · refine wpAny_passesOwn hp (thn (T.done X rfl rfl rfl hc i pins s3 σ3 H3 X.xe I3 (stat fr3) st3 stop) fun r s4 ⟨hr, I4⟩ => ?_)
    subst hr
    exact wpAny_execs_nil ⟨σ3, H3, I4, qn⟩
  · refine wpAny_passesOwn hp (thn (T.item X rfl rfl rfl hc i pins s3 σ3 H3 X.xe I3 (stat fr3) st3 go) fun r s4 ⟨u, hr, h4⟩ => ?_)
    subst hr
    refine wpAny_passesOwn hp (thn h4 fun _ s5 ⟨x, H5, I5, r5, y5, st5, fr5⟩ => ?_)
    have I5' := I5.pinned (stat fr5) (T.obj _ _ st5)
    refine wpAny_passesOwn hp (thn (hg _ s5 σ3 H5 x u _ I5' r5 (step x H5 y5)) fun _ s6 ⟨σ6, H6, I6, q6⟩ => ?_)
    refine wpAny_passesOwn hp (thn (hb _ s6 σ6 H6 _ I6 q6) fun f s7 q7 => ?_)
    have again : ∀ {σ7 : St} {H7 : Hp}, Inv X (pins ++ pinsAt fp s5.heap) σ7 H7 s7 → N σ7 H7 → ∃ m, m < n ∧ ∃ i σ' H', Inv X pins σ' H' s7 ∧ tn i s7.heap ∧ (∀ b ∈ fp, H' b = none) ∧ W i m σ' H' := fun {σ7 H7} I7 n7 => by
      obtain ⟨m', hm, w7⟩ := hN σ7 H7 n7
      refine ⟨m', hm, i + 1, σ7, H7, I7.unpinned, T.keep _ _ _ st5 fun b hb o e => (I7.pin (b, o) (List.mem_append_right _ (List.mem_append_right _ (mem_pinsAt hb e)))).1, fun b hb => ?_, w7⟩
      obtain ⟨o, e, d⟩ := T.obj _ _ st5 b hb
      exact (I7.pin (b, o) (List.mem_append_right _ (List.mem_append_right _ (mem_pinsAt hb e)))).2.1
    cases f with
    | next => obtain ⟨σ7, H7, I7, n7⟩ := q7; exact again I7 n7
    | cont => obtain ⟨σ7, H7, I7, n7⟩ := q7; exact again I7 n7
    | brk => obtain ⟨σ7, H7, I7, q7⟩ := q7; exact ⟨σ7, H7, I7.unpinned, q7⟩
    | ret v => obtain ⟨x7, σ7, H7, I7, r7, q7⟩ := q7; exact ⟨x7, σ7, H7, I7.unpinned, r7, q7⟩
end
end L2
namespace L2
open PySem PySem.Spec PyProof.Rows
noncomputable abbrev R2 := V → V → Hp → VK → Prop
def OpR (X : Cx) (f : Value → Value → Sem Value) (r : R2) : Prop :=
  ∀ (pins : List (Addr × Obj)) (s : Shared) (σ : St) (H : Hp) (x y : V) (v u : Value) (Q : VK), Inv X pins σ H s → RelV x v → RelV y u → r x y H Q →
    wpAny (model X.prog X.w) X.A (f v u) (EP X pins σ Q) X.xe s
def UnR (X : Cx) (f : Value → Sem Value) (r : V → Hp → VK → Prop) : Prop :=
  ∀ (pins : List (Addr × Obj)) (s : Shared) (σ : St) (H : Hp) (x : V) (v : Value) (Q : VK), Inv X pins σ H s → RelV x v → r x H Q →
    wpAny (model X.prog X.w) X.A (f v) (EP X pins σ Q) X.xe s
def CallR (X : Cx) (f : Value) (r : List V → Hp → VK → Prop) : Prop :=
  ∀ (pins : List (Addr × Obj)) (s : Shared) (σ : St) (H : Hp) (xs : List V) (us : List Value) (Q : VK), Inv X pins σ H s → Vals xs us → r xs H Q →
    wpAny (model X.prog X.w) X.A (call f us) (EP X pins σ Q) X.xe s
def TruR (X : Cx) (r : V → Hp → (Bool → Hp → Prop) → Prop) : Prop :=
  ∀ (pins : List (Addr × Obj)) (s : Shared) (σ : St) (H : Hp) (x : V) (v : Value) (Q : Bool → Hp → Prop), Inv X pins σ H s → RelV x v → r x H Q →
    wpAny (model X.prog X.w) X.A (truthy v) (TP X pins σ Q) X.xe s
noncomputable def tOp (r : R2) (ta tb : TE) : TE := fun σ H Q => ta σ H fun x H1 => tb σ H1 fun y H2 => r x y H2 Q
noncomputable def tUn (r : V → Hp → VK → Prop) (ta : TE) : TE := fun σ H Q => ta σ H fun x H1 => r x H1 Q
noncomputable def rI (C : Int → Int → Prop) (g : Int → Int → V) : R2 := fun x y H Q => ∃ i j, x = .int i ∧ y = .int j ∧ C i j ∧ Q (g i j) H
noncomputable def rI0 (g : Int → Int → V) : R2 := fun x y H Q => ∃ i j, x = .int i ∧ y = .int j ∧ Q (g i j) H
noncomputable def rU (g : Int → V) : V → Hp → VK → Prop := fun x H Q => ∃ i, x = .int i ∧ Q (g i) H
section
variable {X : Cx} {a b c : Expr} {ta tb tc : TE} {pos : Pos}
theorem binT (ha : PE X a ta) (hb : PE X b tb) {pins : List (Addr × Obj)} {s : Shared} {σ : St} {H : Hp} {R : V → V → Hp → Prop} (I : Inv X pins σ H s)
    (h : ta σ H fun x H1 => tb σ H1 fun y H2 => R x y H2) {Q : Value → Shared → Prop} {f : Value → Value → Sem Value}
    (hf : ∀ v u s2 x y H2, Inv X pins σ H2 s2 → RelV x v → RelV y u → R x y H2 → wpAny (model X.prog X.w) X.A (f v u) Q X.xe s2) :
    wpAny (model X.prog X.w) X.A (eval a X.env) (fun v s₁ => wpAny (model X.prog X.w) X.A (eval b X.env) (fun u s₂ => wpAny (model X.prog X.w) X.A (f v u) Q X.xe s₂) X.xe s₁) X.xe s := by
  refine thn (ha pins s σ H _ I h) fun v s1 ⟨x, H1, I1, r1, q1⟩ => ?_
  refine thn (hb pins s1 σ H1 _ I1 q1) fun u s2 ⟨y, H2, I2, r2, q2⟩ => ?_
  exact hf v u s2 x y H2 I2 r1 r2 q2
theorem pe_op {op : Operator} {r : R2} (ho : OpR X (binaryOp op) r) (ha : PE X a ta) (hb : PE X b tb) : PE X (.BinOp a op b pos) (tOp r ta tb) := by
  intro pins s σ H Q I h
  exact wpAny_BinOp (binT ha hb I h fun v u s2 x y H2 I2 rx ry q => ho pins s2 σ H2 x y v u Q I2 rx ry q)
theorem pe_un {op : UnaryOp} {r : V → Hp → VK → Prop} (ho : UnR X (unaryOp op) r) (ha : PE X a ta) : PE X (.UnaryOp op a pos) (tUn r ta) := by
  intro pins s σ H Q I h
  exact UnaryOp_ (thn (ha pins s σ H _ I h) fun v s1 ⟨x, H1, I1, r1, q1⟩ => ho pins s1 σ H1 x v Q I1 r1 q1)
theorem opI {f : Value → Value → Sem Value} {C : Int → Int → Prop} {g : Int → Int → Int}
    (rule : ∀ (i j : Int) (t u : Tok) (s : Shared) (Q : Value → Shared → Prop) (E : Value → Shared → Prop), C i j → Q (.int (g i j) s.toks) { s with toks := s.toks + 1 } → wpAny (model X.prog X.w) X.A (f (.int i t) (.int j u)) Q E s) :
    OpR X f (rI C fun i j => .int (g i j)) := by
  intro pins s σ H x y v u Q I rx ry h
  obtain ⟨i, j, rfl, rfl, hc, q⟩ := h
  obtain ⟨t, rfl⟩ := rx
  obtain ⟨t', rfl⟩ := ry
  exact rule i j t t' s _ _ hc ⟨.int (g i j), H, I.tok _, ⟨_, rfl⟩, q⟩
theorem opI0 {f : Value → Value → Sem Value} {g : Int → Int → Int}
    (rule : ∀ (i j : Int) (t u : Tok) (s : Shared) (Q : Value → Shared → Prop) (E : Value → Shared → Prop), Q (.int (g i j) s.toks) { s with toks := s.toks + 1 } → wpAny (model X.prog X.w) X.A (f (.int i t) (.int j u)) Q E s) :
    OpR X f (rI0 fun i j => .int (g i j)) := by
  intro pins s σ H x y v u Q I rx ry h
  obtain ⟨i, j, rfl, rfl, q⟩ := h
  obtain ⟨t, rfl⟩ := rx
  obtain ⟨t', rfl⟩ := ry
  exact rule i j t t' s _ _ ⟨.int (g i j), H, I.tok _, ⟨_, rfl⟩, q⟩
theorem opB0 {f : Value → Value → Sem Value} {g : Int → Int → Bool}
    (rule : ∀ (i j : Int) (t u : Tok) (s : Shared) (Q : Value → Shared → Prop) (E : Value → Shared → Prop), Q (.bool (g i j)) s → wpAny (model X.prog X.w) X.A (f (.int i t) (.int j u)) Q E s) :
    OpR X f (rI0 fun i j => .bl (g i j)) := by
  intro pins s σ H x y v u Q I rx ry h
  obtain ⟨i, j, rfl, rfl, q⟩ := h
  obtain ⟨t, rfl⟩ := rx
  obtain ⟨t', rfl⟩ := ry
  exact rule i j t t' s _ _ ⟨.bl (g i j), H, I, rfl, q⟩
def CDiv (i j : Int) : Prop := 0 < j ∧ j < 1073741824
def CPow (i j : Int) : Prop := 0 ≤ j ∧ j ≤ 1000000 ∧ i.natAbs < 2 ^ 64
def CMul (i j : Int) : Prop := (-(2 ^ 64) < i ∧ i < 2 ^ 64) ∨ (-(2 ^ 64) < j ∧ j < 2 ^ 64)
theorem CMul.ok {i j : Int} (h : CMul i j) : IntMulOk i j := by
  rcases h with ⟨h1, h2⟩ | ⟨h1, h2⟩
  · exact .of_left (intBits_le_64 h1 h2)
  · exact .of_right (intBits_le_64 h1 h2)
theorem op_add : OpR X (binaryOp .Add) (rI0 fun i j => .int (i + j)) := opI0 fun _ _ _ _ _ _ _ q => add_int q
theorem op_sub : OpR X (binaryOp .Sub) (rI0 fun i j => .int (i - j)) := opI0 fun _ _ _ _ _ _ _ q => sub_int q
theorem op_mul : OpR X (binaryOp .Mult) (rI CMul fun i j => .int (i * j)) := opI fun _ _ _ _ _ _ _ hc q => mul_int q hc.ok
theorem op_fdiv : OpR X (binaryOp .FloorDiv) (rI CDiv fun i j => .int (i / j)) := opI fun i j _ _ _ _ _ hc q => by
  have h1 : (0 : Int) < j := hc.1
  have h2 : j < 1073741824 := hc.2
  exact floordiv_int (by omega) (by rw [Int.fdiv_eq_ediv_of_nonneg i (by omega)]; exact q) (.inl (PyProof.noPylong_small (by omega)))
theorem op_mod : OpR X (binaryOp .Mod) (rI (fun _ j => 0 < j) fun i j => .int (i % j)) := opI fun i j _ _ _ _ _ hc q => by
  have h1 : (0 : Int) < j := hc
  exact mod_int' (by omega) (by rw [Int.fmod_eq_emod_of_nonneg i (by omega)]; exact q)
theorem op_pow : OpR X (binaryOp .Pow) (rI CPow fun i j => .int (i ^ j.toNat)) := opI fun _ _ _ _ _ _ _ hc q => pow_int_small hc.1 hc.2.1 hc.2.2 q
theorem unI {f : Value → Sem Value} {g : Int → Int}
    (rule : ∀ (i : Int) (t : Tok) (s : Shared) (Q : Value → Shared → Prop) (E : Value → Shared → Prop), Q (.int (g i) s.toks) { s with toks := s.toks + 1 } → wpAny (model X.prog X.w) X.A (f (.int i t)) Q E s) :
    UnR X f (rU fun i => .int (g i)) := by
  intro pins s σ H x v Q I rx h
  obtain ⟨i, rfl, q⟩ := h
  obtain ⟨t, rfl⟩ := rx
  exact rule i t s _ _ ⟨.int (g i), H, I.tok _, ⟨_, rfl⟩, q⟩
theorem un_neg : UnR X (unaryOp .USub) (rU fun i => .int (-i)) := unI fun _ _ _ _ _ q => neg_int q
end
noncomputable def scal : V → V → Bool
  | .non, .non => true | .non, .int _ => true | .int _, .non => true | .non, .bl _ => true | .bl _, .non => true | .non, .str _ => true | .str _, .non => true
  | .int _, .int _ => true | .bl _, .bl _ => true | .str _, .str _ => true | .byt _, .byt _ => true
  | .int _, .str _ => true | .str _, .int _ => true | .bl _, .str _ => true | .str _, .bl _ => true
  | _, _ => false
section
variable {X : Cx} {a b c : Expr} {ta tb tc : TE} {pos : Pos}
theorem op_lt : OpR X (compareOp .Lt) (rI0 fun i j => .bl (decide (i < j))) := opB0 fun _ _ _ _ _ _ _ q => lt_int q
theorem op_le : OpR X (compareOp .LtE) (rI0 fun i j => .bl (decide (i ≤ j))) := opB0 fun _ _ _ _ _ _ _ q => le_int q
theorem op_gt : OpR X (compareOp .Gt) (rI0 fun i j => .bl (decide (j < i))) := opB0 fun _ _ _ _ _ _ _ q => gt_int q
theorem pe_cmpR {op : CmpOp} {r : R2} (ho : OpR X (compareOp op) r) (ha : PE X a ta) (hb : PE X b tb) (hm : behindInMarks op b = false) : PE X (.Compare a [op] [b] pos) (tOp r ta tb) := by
  intro pins s σ H Q I h
  exact wpAny_Compare1 (binT ha hb I h fun v u s2 x y H2 I2 rx ry q => ho pins s2 σ H2 x y v u Q I2 rx ry q) hm
noncomputable def tTest (t : TE) : TT := fun σ H Q => t σ H fun x H' => ∃ k, x = .bl k ∧ Q k H'
theorem pt_cmpR {op : CmpOp} {r : R2} (ho : OpR X (compareOp op) r) (ha : PE X a ta) (hb : PE X b tb) (hm : behindInMarks op b = false) : PT X (.Compare a [op] [b] pos) (tTest (tOp r ta tb)) := by
  intro pins s σ H Q I h
  refine wpAny_isTrue_Compare1 (thn (ha pins s σ H _ I h) fun v s1 ⟨x, H1, I1, r1, q1⟩ => thn (hb pins s1 σ H1 _ I1 q1) fun u s2 ⟨y, H2, I2, r2, q2⟩ =>
    thn (ho pins s2 σ H2 x y v u _ I2 r1 r2 q2) fun c s3 ⟨z, H3, I3, r3, k, e, q3⟩ => ?_) hm
  subst e
  cases r3
  exact wpAny_truthy_bool ⟨H3, I3, q3⟩
noncomputable def tChain (r r' : R2) (ta tb tc : TE) : TE := fun σ H Q => ta σ H fun x H1 => tb σ H1 fun y H2 => r x y H2 fun z H3 => ∃ k, z = .bl k ∧
  (if k = true then tc σ H3 fun w' H4 => r' y w' H4 Q else Q (.bl false) H3)
theorem pe_chain {op op' : CmpOp} {r r' : R2} (ho : OpR X (compareOp op) r) (ho' : OpR X (compareOp op') r') (ha : PE X a ta) (hb : PE X b tb) (hc : PE X c tc)
    (hm : lastMarks [op, op'] [b, c] = false := by with_unfolding_all rfl) : PE X (.Compare a [op, op'] [b, c] pos) (tChain r r' ta tb tc) := by
  intro pins s σ H Q I h
  refine Compare_chain (thn (ha pins s σ H _ I h) fun v s1 ⟨x, H1, I1, r1, q1⟩ => chain_link (thn (hb pins s1 σ H1 _ I1 q1) fun u s2 ⟨y, H2, I2, r2, q2⟩ =>
    thn (ho pins s2 σ H2 x y v u _ I2 r1 r2 q2) fun d s3 ⟨z, H3, I3, r3, k, e, q3⟩ => ?_)) hm
  subst e
  cases r3
  refine wpAny_truthy_bool ?_
  cases k with
  | false => exact ite_ff ⟨.bl false, H3, I3, rfl, q3⟩
  | true => exact ite_tt (chain_last (thn (hc pins s3 σ H3 _ I3 q3) fun w' s4 ⟨z', H4, I4, r4, q4⟩ => ho' pins s4 σ H4 y z' u w' Q I4 r2 r4 q4))
theorem pt_chain {op op' : CmpOp} {r r' : R2} (ho : OpR X (compareOp op) r) (ho' : OpR X (compareOp op') r') (ha : PE X a ta) (hb : PE X b tb) (hc : PE X c tc)
    (hm : lastMarks [op, op'] [b, c] = false := by with_unfolding_all rfl) : PT X (.Compare a [op, op'] [b, c] pos) (tTest (tChain r r' ta tb tc)) := by
  intro pins s σ H Q I h
  refine isTrue_chain (thn (ha pins s σ H _ I h) fun v s1 ⟨x, H1, I1, r1, q1⟩ => test_link (thn (hb pins s1 σ H1 _ I1 q1) fun u s2 ⟨y, H2, I2, r2, q2⟩ =>
    thn (ho pins s2 σ H2 x y v u _ I2 r1 r2 q2) fun d s3 ⟨z, H3, I3, r3, k, e, q3⟩ => ?_)) hm
  subst e
  cases r3
  refine wpAny_truthy_bool ?_
  cases k with
  | false =>
    obtain ⟨k', e', q'⟩ := q3
    cases e'
    exact ite_ff ⟨H3, I3, q'⟩
  | true =>
    refine ite_tt (test_last (thn (hc pins s3 σ H3 _ I3 q3) fun w' s4 ⟨z', H4, I4, r4, q4⟩ => thn (ho' pins s4 σ H4 y z' u w' _ I4 r2 r4 q4) fun d' s5 ⟨z2, H5, I5, r5, k2, e2, q5⟩ => ?_))
    subst e2
    cases r5
    exact wpAny_truthy_bool ⟨H5, I5, q5⟩
def TruV (K : W.Frag) (x : V) (H : Hp) (k : Bool) : Prop :=
  match x with
  | .non => k = false
  | .bl b => k = b
  | .int i => k = (i != 0)
  | .str y => y.length ≤ sizeLine ∧ k = ((y.length : Int) != 0)
  | .byt y => y.size ≤ sizeLine ∧ k = ((y.size : Int) != 0)
  | .ref p => (∃ xs, SqL K H p xs ∧ k = !xs.isEmpty) ∨ (∃ xs, SqT K H p xs ∧ k = !xs.isEmpty) ∨ ∃ kvs, H p = some (.dK kvs) ∧ k = !kvs.isEmpty
  | _ => False
theorem isEmpty_kv {κ : Type} {kvs : List (κ × V)} {vs : List (κ × Value)} (r : KV kvs vs) : (!vs.isEmpty) = !kvs.isEmpty := by
  cases r <;> rfl
theorem isEmpty_of {xs : List V} {its : List Value} (r : Vals xs its) : (!its.toArray.isEmpty) = !xs.isEmpty := by
  cases r <;> simp
theorem line63 : (sizeLine : Nat) < 2 ^ 63 := by rw [sizeLine_eq]; decide
theorem tru_ok : TruR X (fun x H Q => ∃ k, TruV X.K x H k ∧ Q k H) := by
  intro pins s σ H x v Q I rx h
  obtain ⟨k, e, q⟩ := h
  have hl := line63
  have hs : sizeLine = 16777216 := sizeLine_eq
  cases x with
  | non =>
    cases rx
    have e' : k = false := e
    subst e'
    exact truthy_none ⟨H, I, q⟩
  | bl b =>
    cases rx
    have e' : k = b := e
    subst e'
    exact wpAny_truthy_bool ⟨H, I, q⟩
  | int i =>
    obtain ⟨t, rfl⟩ := rx
    have e' : k = (i != 0) := e
    subst e'
    exact PySem.P.truthy_int ⟨H, I, q⟩
  | str y =>
    obtain ⟨t, rfl⟩ := rx
    obtain ⟨hy, e'⟩ : y.length ≤ sizeLine ∧ k = ((y.length : Int) != 0) := e
    subst e'
    exact PySem.P.truthy_str (by omega) ⟨H, I.tok _, q⟩
  | byt y =>
    obtain ⟨t, rfl⟩ := rx
    obtain ⟨hy, e'⟩ : y.size ≤ sizeLine ∧ k = ((y.size : Int) != 0) := e
    subst e'
    exact W.truthy_bytes (by omega) ⟨H, I.tok _, q⟩
  | ref p =>
    cases rx
    have e' : (∃ xs, SqL X.K H p xs ∧ k = !xs.isEmpty) ∨ (∃ xs, SqT X.K H p xs ∧ k = !xs.isEmpty) ∨ ∃ kvs, H p = some (.dK kvs) ∧ k = !kvs.isEmpty := e
    rcases e' with ⟨xs, hx, e'⟩ | ⟨xs, hx, e'⟩ | ⟨kvs, hx, e'⟩
    · subst e'
      obtain ⟨its, r, pl, hz⟩ := I.list hx
      have hlen := r.length
      exact wpAny_truthy_list pl.isList (by simp only [List.size_toArray]; omega) ⟨H, I.tok _, by rw [isEmpty_of r]; exact q⟩
    · subst e'
      obtain ⟨its, r, pl, hz⟩ := I.tuple hx
      have hlen := r.length
      exact truthy_tuple pl (by simp only [List.size_toArray]; omega) ⟨H, I.tok _, by rw [isEmpty_of r]; exact q⟩
    · subst e'
      obtain ⟨hz, hS, vs, r, m⟩ : kvs.length ≤ sizeLine ∧ (p == sysModules) = false ∧ ∃ vs, KV kvs vs ∧ s.heap.DictOf (mixKind X.prog X.w) p vs := I.hok p _ hx
      have hlen : kvs.length = vs.length := Paired.length r
      exact wpAny_truthy_dict hS m (by omega) ⟨H, I.tok _, by rw [isEmpty_kv r]; exact q⟩
  | _ => exact (show False from e).elim
theorem pt_truth (ha : PE X a ta) (he : ∀ whole, isTrue a X.env whole = (do let v ← whole; standAt a.pos; holding [v] (truthy v))) :
    PT X a (fun σ H Q => ta σ H fun x H' => ∃ k, TruV X.K x H' k ∧ Q k H') := by
  intro pins s σ H Q I h
  exact isTrue_plain (thn (ha pins s σ H _ I h) fun v s1 ⟨x, H1, I1, r1, q1⟩ => tru_ok pins s1 σ H1 x v Q I1 r1 q1) (he _)
theorem vals1 {x : V} {us : List Value} (r : Vals [x] us) : ∃ u, us = [u] ∧ RelV x u := by
  cases r with
  | cons r1 r2 => cases r2; exact ⟨_, rfl, r1⟩
theorem vals2 {x y : V} {us : List Value} (r : Vals [x, y] us) : ∃ u w', us = [u, w'] ∧ RelV x u ∧ RelV y w' := by
  cases r with
  | cons r1 r2 =>
    cases r2 with
    | cons r3 r4 => cases r4; exact ⟨_, _, rfl, r1, r3⟩
theorem call_max2 (hc : X.calm = true) : CallR X (.builtin "max") (fun xs H Q => ∃ i j, xs = [.int i, .int j] ∧ Q (.int (if j > i then j else i)) H) := by
  intro pins s σ H xs us Q I r h
  obtain ⟨i, j, rfl, q⟩ := h
  obtain ⟨u, w', rfl, ⟨t, rfl⟩, ⟨t', rfl⟩⟩ := vals2 r
  refine max_two_ints (I.ok.hd hc) fun h' tk k => ⟨_, H, I.kept k, ?_, q⟩
  by_cases hj : j > i
  · rw [if_pos hj, if_pos hj]; exact ⟨_, rfl⟩
  · rw [if_neg hj, if_neg hj]; exact ⟨_, rfl⟩
theorem call_min2 (hc : X.calm = true) : CallR X (.builtin "min") (fun xs H Q => ∃ i j, xs = [.int i, .int j] ∧ Q (.int (if j < i then j else i)) H) := by
  intro pins s σ H xs us Q I r h
  obtain ⟨i, j, rfl, q⟩ := h
  obtain ⟨u, w', rfl, ⟨t, rfl⟩, ⟨t', rfl⟩⟩ := vals2 r
  refine min_two_ints (I.ok.hd hc) fun h' tk k => ⟨_, H, I.kept k, ?_, q⟩
  by_cases hj : j < i
  · rw [if_pos hj, if_pos hj]; exact ⟨_, rfl⟩
  · rw [if_neg hj, if_neg hj]; exact ⟨_, rfl⟩
end
end L2
namespace L2
open PySem PySem.Spec PyProof.Rows
structure ObjM (h : Heap) (x dx C : Addr) (mA : Str → Option Value) : Prop where
  obj : h.get? x = some (W.instObj C dx)
  ns : h.Ns1 dx mA
  ne : dx ≠ x
theorem lookIn_ns {h : Heap} {dx : Addr} {mA : Str → Option Value} (n : h.Ns1 dx mA) : ∃ od, h.get? dx = some od ∧ ∀ name, W.lookIn name od = some (mA name) := by
  obtain ⟨o, es, ep, ho, hd, hk, _, hm⟩ := n
  refine ⟨o, ho, fun name => ?_⟩
  have e := hm name
  unfold nsFind findBy at e
  rw [← Array.find?_toList] at e
  unfold W.lookIn
  rw [hd]
  dsimp only
  split
  · rename_i y q
    rw [q] at e
    exact congrArg some e
  · rename_i q
    rw [q] at e
    have a : es.toList.any (·.refKey) = false := by
      rw [List.any_eq_false]
      intro y hy
      obtain ⟨z, t, hkey⟩ := hk y (Array.mem_toList_iff.mp hy)
      simp [DictEntry.refKey, hkey]
    have a' : ¬ es.toList.any (·.refKey) = true := by rw [a]; exact fnt
    rw [if_neg a']
    exact congrArg some e
theorem ObjM.look {h : Heap} {x dx C : Addr} {mA : Str → Option Value} (I : ObjM h x dx C mA) : ∃ od, W.InstAt h x (W.instObj C dx) C (some od) ∧ ∀ name, W.lookIn name od = some (mA name) :=
  let ⟨od, ho, hl⟩ := lookIn_ns I.ns
  ⟨od, ⟨I.obj, rfl, rfl, ho⟩, hl⟩
section
variable {prog : Program} {w : World} {A : Around} {E : Value → Shared → Prop} {s : Shared} {K : W.Frag} {x dx C f : Addr} {mA : Str → Option Value} {name : Str} {v : Value}
theorem make_map {R : Result → Shared → Prop} {vs : List Value} {kw : List (Str × Value)} (X : K.In s.heap) (hm : W.makesIn K C = true)
    (hi : W.findIn K (.ref C) "__init__" = some (some (.ref f))) (hf : W.typeIn K (.ref f) = some (.type "function"))
    (h : codeAny (model prog w) (A.under (.builtin "type.__call__" ⟨.ref C :: vs, kw⟩)) (.call (.ref f) ⟨.ref (s.heap.objs.size + 1) :: vs, kw⟩) (W.InitBack (s.heap.objs.size + 1) R)
      { s with heap := (s.heap.push W.emptyDict).push (W.instObj C s.heap.objs.size) }) :
    codeAny (model prog w) A (.call (.ref C) ⟨vs, kw⟩) R s := by
  obtain ⟨hh, g, d, t, os⟩ := s
  exact W.make_core (W.makes_of X hm) (W.looks_findIn X hi) (fun self => W.bind_fn X self hf) (.inl rfl) h
end
theorem RelO.some_of {v : V} {o : Option Value} (r : RelO (some v) o) : ∃ u, o = some u ∧ RelV v u := by
  cases o with
  | none => exact (show False from r).elim
  | some u => exact ⟨u, rfl, r⟩
section
variable {P : Program} {w : World} {H H' : Hp} {h h' : Heap} {a C dx : Addr} {fs fs' : List (Str × V)}
theorem ins_get (hok : HOk P w H h) (e : H a = some (.ins C dx fs)) : ∃ mA, ObjM h a dx C mA ∧ (∀ f, RelO (fs.lookup f) (mA f)) ∧ PySem.Within mA (fs.map (·.1)) ∧ fs.length ≤ 1000 ∧ H dx = some (.own a) := by
  obtain ⟨d, z, ne, ob, mA, n, r, q⟩ := (show ObjOk P w H h a (.ins C dx fs) from hok a _ e)
  exact ⟨mA, ⟨ob, n, ne⟩, r, q, z, d⟩
end
structure Cls (K : W.Frag) (C : Addr) : Prop where
  pg : W.plainGet K C Str.empty = true
  hd : W.hasDictIn K C = true
  po : W.plainOver K C = true
  sa : W.findIn K (.ref C) "__setattr__" = some (some (.builtin "object.__setattr__"))
theorem Cls.get {K : W.Frag} {C : Addr} (c : Cls K C) (f : Str) : W.plainGet K C f = true := c.pg
def NoAttr (K : W.Frag) (C : Addr) (f : Str) : Prop := W.findIn K (.ref C) f = some none
structure Meth (K : W.Frag) (C : Addr) (m : Str) (f : Addr) : Prop where
  at_ : W.findIn K (.ref C) m = some (some (.ref f))
  fn : W.isFn K (.ref f) = true
  kp : W.keepIn K (.ref f) = true
section
variable {X : Cx} {pins : List (Addr × Obj)} {σ : St} {H : Hp} {s : Shared} {a C dx : Addr} {fs : List (Str × V)} {f : Str} {v : V} {A : Around} {E : Value → Shared → Prop}
theorem Inv.made (I : Inv X pins σ H s) : Inv X pins σ (upd (upd H s.heap.objs.size (.own (s.heap.objs.size + 1))) (s.heap.objs.size + 1) (.ins C s.heap.objs.size []))
    { s with heap := (s.heap.push W.emptyDict).push (W.instObj C s.heap.objs.size) } := by
  have e1 : (s.heap.push W.emptyDict).get? s.heap.objs.size = some W.emptyDict := Heap.get?_push_size s.heap rfl
  have e2 : ((s.heap.push W.emptyDict).push (W.instObj C s.heap.objs.size)).get? (s.heap.objs.size + 1) = some (W.instObj C s.heap.objs.size) := by
    have := Heap.get?_push_size (s.heap.push W.emptyDict) (o := W.instObj C s.heap.objs.size) rfl
    rwa [Heap.size_push] at this
  have e3 : (s.heap.push W.emptyDict).Ns s.heap.objs.size (fun _ => none) := ⟨W.emptyDict, #[], _, e1, rfl, (fun e he => absurd he (by simp)), fun _ => rfl⟩
  have I1 := I.laid (a := s.heap.objs.size) (o := .own (s.heap.objs.size + 1)) (h' := s.heap.push W.emptyDict) (t' := s.toks) (fun b u q => Heap.get?_push_of_some _ q) (Nat.le_refl _) ⟨_, e1⟩
  refine I1.laid (a := s.heap.objs.size + 1) (o := .ins C s.heap.objs.size []) (t' := s.toks) (fun b u q => Heap.get?_push_of_some _ q) (Nat.le_of_eq (Heap.size_push _ _)) ?_
  have ne : s.heap.objs.size ≠ s.heap.objs.size + 1 := Nat.ne_of_lt (Nat.lt_succ_self _)
  refine ⟨by rw [upd_ne ne, upd_same], Nat.zero_le _, ne, e2, fun _ => none, (Heap.Ns1.of_empty e3).at fun o q => Heap.get?_push_of_some _ q, fun _ => True.intro, fun y hy => absurd rfl hy⟩
end
section
variable {X : Cx} {o e value : Expr} {f : Str} {pos pos' tpos : Pos} {ta tv : TE}
end
section
variable {X : Cx} {pins : List (Addr × Obj)} {σ : St} {H : Hp} {s : Shared} {A : Around} {E : Value → Shared → Prop} {Q : Value → Shared → Prop} {c : Value} {b : Bool}
inductive TyOf (K : W.Frag) (H : Hp) : V → Value → Prop where
  | non : TyOf K H .non (.type "NoneType")
  | bl (x : Bool) : TyOf K H (.bl x) (.type "bool")
  | int (i : Int) : TyOf K H (.int i) (.type "int")
  | str (x : Str) : TyOf K H (.str x) (.type "str")
  | flt (x : UInt64) : TyOf K H (.flt x) (.type "float")
  | lst {a : Addr} {xs : List V} (e : H a = some (.lst xs)) : TyOf K H (.ref a) (.type "list")
  | frz {a : Addr} {o : Obj} {xs : List V} (e : H a = some (.frz o (.lst xs))) : TyOf K H (.ref a) (.type "list")
  | tup {a : Addr} {xs : List V} (e : H a = some (.tup xs)) : TyOf K H (.ref a) (.type "tuple")
  | dK {a : Addr} {kvs : List (Key × V)} (e : H a = some (.dK kvs)) : TyOf K H (.ref a) (.type "dict")
  | dT {a : Addr} {kvs : List (List Key × V)} (e : H a = some (.dT kvs)) : TyOf K H (.ref a) (.type "dict")
  | ins {a C dx : Addr} {fs : List (Str × V)} (e : H a = some (.ins C dx fs)) (cl : Cls K C) (ha : W.findIn K (.ref C) "__class__" = some (some (.builtin "object.__class__")))
      (hn : W.specialIn K (.builtin "object.__class__") "__get__" = some (some (.builtin "getset_descriptor.__get__"))) (htk : W.takesIn K (.builtin "object.__class__") = some true)
      (hm : W.mroIn K C (.type "object") = some true) : TyOf K H (.ref a) (.ref C)
theorem isinst_ok {x : V} {u t : Value} (I : Inv X pins σ H s) (rx : RelV x u) (ty : TyOf X.K H x t) (e : W.kitOne X.K t c = some b) (h : ∀ tk, Q (.bool b) { s with toks := tk }) :
    wpAny (model X.prog X.w) A (call (.builtin "isinstance") [u, c]) Q E s := by
  cases ty with
  | non => cases (show u = Value.none from rx); exact W.kia_one W.kitx_none I.kIn True.intro e (fun z => nomatch z) h
  | bl y => cases (show u = Value.bool y from rx); exact W.kia_one W.kitx_bool I.kIn True.intro e (fun z => nomatch z) h
  | int i => obtain ⟨t, q⟩ := (show ∃ t, u = Value.int i t from rx); cases q; exact W.kia_one W.kitx_int I.kIn True.intro e (fun z => nomatch z) h
  | str y => obtain ⟨t, q⟩ := (show ∃ t, u = Value.str y t from rx); cases q; exact W.kia_one W.kitx_str I.kIn True.intro e (fun z => nomatch z) h
  | flt y => obtain ⟨t, q⟩ := (show ∃ t, u = Value.float y t from rx); cases q; exact W.kia_one W.kitx_float I.kIn True.intro e (fun z => nomatch z) h
  | @lst a xs ea =>
    cases (show u = Value.ref a from rx)
    obtain ⟨_, _, n, _, h1⟩ := (show ObjOk X.prog X.w H s.heap a (.lst xs) from I.hok a _ ea)
    exact W.kia_one W.kitx_list I.kIn ⟨_, h1, rfl⟩ e (fun z => nomatch z) h
  | @frz a ob xs ea =>
    cases (show u = Value.ref a from rx)
    obtain ⟨_, _, _, n, _, h1⟩ := (show ObjOk X.prog X.w H s.heap a (.frz ob (.lst xs)) from I.hok a _ ea)
    exact W.kia_one W.kitx_list I.kIn ⟨_, h1, rfl⟩ e (fun z => nomatch z) h
  | @tup a xs ea =>
    cases (show u = Value.ref a from rx)
    obtain ⟨_, _, _, p⟩ := (show ObjOk X.prog X.w H s.heap a (.tup xs) from I.hok a _ ea)
    obtain ⟨o, h1, h2, _⟩ := p
    exact W.kia_one W.kitx_tuple I.kIn ⟨o, h1, h2⟩ e (fun z => nomatch z) h
  | @dK a kvs ea =>
    cases (show u = Value.ref a from rx)
    obtain ⟨_, _, vs, _, p⟩ := (show ObjOk X.prog X.w H s.heap a (.dK kvs) from I.hok a _ ea)
    obtain ⟨o, es, ep, h1, h2, _⟩ := p
    exact W.kia_one W.kitx_dict I.kIn ⟨o, h1, h2.1⟩ e (fun z => nomatch z) h
  | @dT a kvs ea =>
    cases (show u = Value.ref a from rx)
    obtain ⟨_, _, xs, _, o, es, ep, h1, h2, _⟩ := (show ObjOk X.prog X.w H s.heap a (.dT kvs) from I.hok a _ ea)
    exact W.kia_one W.kitx_dict I.kIn ⟨o, h1, h2.1⟩ e (fun z => nomatch z) h
  | @ins a C dx fs ea cl ha hn htk hm =>
    cases (show u = Value.ref a from rx)
    obtain ⟨mA, O, _⟩ := ins_get I.hok ea
    obtain ⟨od, J, _⟩ := O.look
    exact W.kia_one (W.kitx_own (cl.get _) cl.hd ha hn htk hm) I.kIn J e (fun z => nomatch z) h
end
end L2
namespace L2
open PySem PySem.Spec PyProof.Rows
structure Room (k : Nat) (A : Around) : Prop where
  hd : A.handled = none
  dp : A.depth + 3 * k + 5 < recursionLimit
  un : A.units + 16 * k + 200 < cLine
theorem Room.mono {j k : Nat} {A : Around} (r : Room k A) (h : j ≤ k) : Room j A := ⟨r.hd, by have := r.dp; omega, by have := r.un; omega⟩
theorem Room.deeper {k : Nat} {A : Around} (r : Room (k + 1) A) (env : Env) : Room k (A.deeper env) :=
  ⟨r.hd, by have := r.dp; show A.depth + 1 + 3 * k + 5 < _; omega, by have := r.un; show A.units + 3 + 16 * k + 200 < _; omega⟩
theorem make_depth {A : Around} {C : Addr} {us : List Value} {kw : List (Str × Value)} : (A.under (.builtin "type.__call__" ⟨.ref C :: us, kw⟩)).depth = A.depth + 1 := by
  first | rfl | simp [Around.under, Code.weight, Code.isCreation, Code.isGuard, Code.isCaller, Code.frames, Code.isFrame, guardIds]
theorem make_units {A : Around} {C : Addr} {us : List Value} {kw : List (Str × Value)} : (A.under (.builtin "type.__call__" ⟨.ref C :: us, kw⟩)).units = A.units + 1 := by
  first | rfl | simp [Around.under, Code.cUnits, Code.frames, Code.isFrame]
theorem Room.make {k : Nat} {A : Around} (r : Room (k + 1) A) (C : Addr) (us : List Value) (kw : List (Str × Value)) : Room k (A.under (.builtin "type.__call__" ⟨.ref C :: us, kw⟩)) :=
  ⟨r.hd, by have := r.dp; rw [make_depth]; omega, by have := r.un; rw [make_units]; omega⟩
theorem Room.depth {k : Nat} {A : Around} (r : Room k A) : A.depth < recursionLimit := by have := r.dp; omega
theorem Room.units {k : Nat} {A : Around} (r : Room k A) : A.units + 64 < cLine := by have := r.un; omega
noncomputable def tNil : TA := fun _ H Q => Q [] H
noncomputable def tCons (ta : TE) (tr : TA) : TA := fun σ H Q => ta σ H fun x H1 => tr σ H1 fun xs H2 => Q (x :: xs) H2
section
variable {X : Cx} {e : Expr} {es : List Expr} {te : TE} {t : TA} {pos : Pos}
theorem pa_nil : PA X [] tNil := fun _ _ _ _ H Q I h => Calls.spliced_nil ⟨[], H, I, .nil, h⟩
theorem pa_cons (ha : PE X e te) (hr : PA X es t) (hs : starEach (e :: es) X.env = (false, eval e X.env) :: starEach es X.env := by rfl) : PA X (e :: es) (tCons te t) := by
  intro pos pins s σ H Q I h
  rw [hs]
  show wpAny _ _ (spliced ((false, eval e X.env) :: backTo pos (starEach es X.env))) _ _ s
  refine Calls.spliced_cons (thn (ha pins s σ H _ I h) fun u s1 ⟨x, H1, I1, r1, q1⟩ => ?_)
  exact thn (hr pos pins s1 σ H1 _ I1 q1) fun us s2 ⟨xs, H2, I2, r2, q2⟩ => ⟨x :: xs, H2, I2, .cons r1 r2, q2⟩
noncomputable def tTup (t : TA) : TE := fun σ H Q => t σ H fun xs H1 => xs.length ≤ sizeLine ∧ ∀ p, H1 p = none → Q (.ref p) (upd H1 p (.tup xs))
noncomputable def tLst (t : TA) : TE := fun σ H Q => t σ H fun xs H1 => xs.length ≤ sizeLine ∧ ∀ p, H1 p = none → Q (.ref p) (upd H1 p (.lst xs))
theorem pe_tup {x1} (h : PA X es t) : PE X (.Tuple es x1 pos) (tTup t) := by
  intro pins s σ H Q I hq
  refine wpAny_Tuple_spliced (thn (h pos pins s σ H _ I hq) fun us s1 ⟨xs, H1, I1, r, z, q⟩ => ⟨by rw [← r.length]; exact z, ?_⟩)
  have hf : H1 s1.heap.objs.size = none := I1.hok.fresh (Nat.le_refl _)
  refine ⟨.ref s1.heap.objs.size, upd H1 s1.heap.objs.size (.tup xs), I1.laid (t' := s1.toks) (fun b u e => Heap.get?_push_of_some _ e) (Nat.le_refl _) ?_, rfl, q _ hf⟩
  exact ⟨z, us, r, ⟨_, Heap.get?_push_size _ rfl, rfl, _, rfl⟩⟩
theorem pe_lst (h : PA X es t) : PE X (.List es pos) (tLst t) := by
  intro pins s σ H Q I hq
  refine wpAny_List_spliced (thn (h pos pins s σ H _ I hq) fun us s1 ⟨xs, H1, I1, r, z, q⟩ => ⟨by rw [← r.length]; exact z, ?_⟩)
  have hf : H1 s1.heap.objs.size = none := I1.hok.fresh (Nat.le_refl _)
  refine ⟨.ref s1.heap.objs.size, upd H1 s1.heap.objs.size (.lst xs), I1.laid (t' := s1.toks) (fun b u e => Heap.get?_push_of_some _ e) (Nat.le_refl _) ?_, rfl, q _ hf⟩
  exact ⟨z, us, 0, r, Heap.get?_push_size _ rfl⟩
end
noncomputable abbrev Sp := List V → Hp → VK → XK → Prop
noncomputable abbrev CXT := List Env → Hp → Shared → XK → Value → Shared → Prop
structure Env0 (P : Program) (w : World) (K : W.Frag) (mg : Str → Option Value) (base : Heap) (A : Around) (outer : List Env) (s : Shared) (H : Hp) : Prop where
  frames : A.frames = some outer
  mod : Mod K mg base
  bs : ∀ b o, base.get? b = some o → s.heap.get? b = some o ∧ H b = none
  bsz : base.objs.size ≤ s.heap.objs.size
  funs : s.heap.FunFrames base outer
  frf : ∀ b ∈ frs outer, H b = none
  hok : HOk P w H s.heap
  bare : AllBare s.gens
def CE (outer : List Env) (P : Program) (w : World) (H : Hp) (s : Shared) (Q : VK) (u : Value) (s' : Shared) : Prop :=
  ∃ v H', s'.os = s.os ∧ AllBare s'.gens ∧ Un (frs outer) [] H H' s.heap s'.heap ∧ HOk P w H' s'.heap ∧ RelV v u ∧ Q v H'
def CR (CX : CXT) (outer : List Env) (P : Program) (w : World) (H : Hp) (s : Shared) (Q : VK) (E : XK) (r : Result) (s' : Shared) : Prop :=
  match r with
  | .ok (.ret u) => CE outer P w H s Q u s'
  | .ok _ => False
  | .error e => CX outer H s E e s'
structure FnOk (P : Program) (w : World) (K : W.Frag) (mg : Str → Option Value) (base : Heap) (CX : CXT) (k : Nat) (f : Addr) (fd : FuncData) (ps : List Str) (sp : Sp) : Prop where
  len : ∀ vs H Q E, sp vs H Q E → vs.length = ps.length
  run : ∀ (A : Around) (outer : List Env) (s : Shared) (H : Hp) (args : Args) (us : List Value) (vs : List V) (Q : VK) (E : XK), Room k A → Env0 P w K mg base A outer s H → BindsTo s fd args (ps.zip us) → Vals vs us → sp vs H Q E →
    codeAny (model P w) A (.call (.ref f) args) (CR CX outer P w H s Q E) s
theorem FnOk.mono {P : Program} {w : World} {K : W.Frag} {mg : Str → Option Value} {base : Heap} {CX : CXT} {j k : Nat} {f : Addr} {fd : FuncData} {ps : List Str} {sp : Sp} (F : FnOk P w K mg base CX j f fd ps sp) (h : j ≤ k) :
    FnOk P w K mg base CX k f fd ps sp := ⟨F.len, fun A outer s H args us vs Q E hr => F.run A outer s H args us vs Q E (hr.mono h)⟩
theorem Env0.make {P : Program} {w : World} {K : W.Frag} {mg : Str → Option Value} {base : Heap} {A : Around} {outer : List Env} {s : Shared} {H : Hp} (e : Env0 P w K mg base A outer s H) (C : Addr) (us : List Value) (kw : List (Str × Value)) :
    Env0 P w K mg base (A.under (.builtin "type.__call__" ⟨.ref C :: us, kw⟩)) outer s H := ⟨by first | exact e.frames | (simpa [Around.under, Code.envs, Code.isFrame, pushEnvs] using e.frames), e.mod, e.bs, e.bsz, e.funs, e.frf, e.hok, e.bare⟩
section
variable {X : Cx} {pins : List (Addr × Obj)} {σ : St} {H : Hp} {s s' : Shared}
theorem Inv.env0 (I : Inv X pins σ H s) : Env0 X.prog X.w X.K X.mg X.base X.A X.stack s H :=
  ⟨I.ok.frames, I.ok.mod, I.bs, Nat.le_trans I.ok.bsz I.sz, I.stack, I.stkFree, I.hok, I.bare⟩
theorem Inv.after {Q : VK} {u : Value} (I : Inv X pins σ H s) (h : CE X.stack X.prog X.w H s Q u s') : EP X pins σ Q u s' := by
  obtain ⟨v, H', os, bare, un, hok, r, q⟩ := h
  obtain ⟨hh, g, d, t, os'⟩ := s'
  obtain rfl : os' = s.os := os
  exact ⟨v, H', I.call (h' := hh) (g' := g) (d' := d) (t' := t) (ch := []) un hok bare (fun b z => absurd z (by simp)), r, q⟩
end
noncomputable def tCall (sp : Sp) (dvs : List V) (E : XK) (t : TA) : TE := fun σ H Q => t σ H fun vs H1 => sp (vs ++ dvs) H1 Q E
noncomputable def tMake (C : Addr) (sp : Sp) (dvs : List V) (E : XK) (t : TA) : TE := fun σ H Q => t σ H fun vs H1 => ∀ x dx, H1 x = none → H1 dx = none → dx ≠ x →
  sp (.ref x :: (vs ++ dvs)) (upd (upd H1 dx (.own x)) x (.ins C dx [])) (fun v H2 => v = .non ∧ Q (.ref x) H2) E
def Binds (K : W.Frag) (fd : FuncData) (ps : List Str) (ds : List Value) : Prop :=
  ∀ (s : Shared) (us : List Value), K.In s.heap → (us ++ ds).length = ps.length → BindsTo s fd ⟨us, []⟩ (ps.zip (us ++ ds))
theorem Binds.all {K : W.Frag} {fd : FuncData} {ps : List Str} (h : ∀ us : List Value, us.length = ps.length → bindArgs fd ⟨us, []⟩ = pure (ps.zip us)) : Binds K fd ps [] := fun s us _ hl => by
  rw [List.append_nil] at hl ⊢
  exact .of_eq (h us hl)
def Passes (CX : CXT) (X : Cx) (E : XK) : Prop := ∀ (pins : List (Addr × Obj)) (σ : St) (H : Hp) (s : Shared) (e : Value) (s' : Shared), Inv X pins σ H s → CX X.stack H s E e s' → X.xe e s'
section
variable {X : Cx} {CX : CXT} {k : Nat} {f C : Addr} {fd : FuncData} {ps : List Str} {sp : Sp} {dvs : List V} {ds : List Value} {E : XK} {x m : Str} {p pos apos : Pos} {e o : Expr} {es : List Expr} {ta : TE} {t : TA}
theorem run_fn {pins : List (Addr × Obj)} {σ : St} {H : Hp} {s : Shared} {Q : VK} {us : List Value} {vs : List V} (F : FnOk X.prog X.w X.K X.mg X.base CX k f fd ps sp) (hr : Room k X.A) (hb : Binds X.K fd ps ds) (hd : Vals dvs ds) (hx : Passes CX X E)
    (I : Inv X pins σ H s) (r : Vals vs us) (h : sp (vs ++ dvs) H Q E) : wpAny (model X.prog X.w) X.A (call (.ref f) us) (EP X pins σ Q) X.xe s := by
  have r2 : Vals (vs ++ dvs) (us ++ ds) := r.append hd
  have hl : (us ++ ds).length = ps.length := by rw [← r2.length]; exact F.len _ _ _ _ h
  refine wpAny_call (codeAny_mono (F.run X.A X.stack s H ⟨us, []⟩ (us ++ ds) (vs ++ dvs) Q E hr I.env0 (hb s us I.kIn hl) r2 h) fun r s' hq => ?_)
  cases r with
  | error e => exact hx pins σ H s e s' I hq
  | ok fl =>
    cases fl with
    | ret u => exact I.after hq
    | next => exact False.elim hq
    | brk => exact False.elim hq
    | cont => exact False.elim hq
theorem pe_call (F : FnOk X.prog X.w X.K X.mg X.base CX k f fd ps sp) (hr : Room k X.A) (hg : Gl X x) (hm : X.mg x = some (.ref f)) (hk : W.keepIn X.K (.ref f) = true) (hb : Binds X.K fd ps ds) (hd : Vals dvs ds) (hx : Passes CX X E)
    (ha : PA X (e :: es) t) (hdb : (x == ("__debug__" : Str)) = false := by decide) (he : starEach (e :: es) X.env = (false, eval e X.env) :: starEach es X.env := by rfl) (hpl : (backTo pos (starEach es X.env)).any (·.1) = false := by rfl) :
    PE X (.Call (.Name x p) (e :: es) [] pos) (tCall sp dvs E t) := by
  intro pins s σ H Q I h
  refine wpAny_Call_Name_kw (ld_glob I hg hm ?_ hdb)
  refine W.callWith_K (h₀ := X.base) I.ok.mod.kin hk (thn (ha pos pins s σ H _ I h) fun us s1 ⟨vs, H1, I1, r, q⟩ => ⟨I1.kIn, ?_⟩) he hpl
  exact run_fn F hr hb hd hx I1 r q
structure Mk (K : W.Frag) (C f : Addr) : Prop where
  makes : W.makesIn K C = true
  init : W.findIn K (.ref C) "__init__" = some (some (.ref f))
  fn : W.isFn K (.ref f) = true
  kp : W.keepIn K (.ref C) = true
theorem run_make {pins : List (Addr × Obj)} {σ : St} {H : Hp} {s : Shared} {Q : VK} {us : List Value} {vs : List V} (M : Mk X.K C f) (F : FnOk X.prog X.w X.K X.mg X.base CX k f fd ps sp) (hr : Room (k + 1) X.A) (hb : Binds X.K fd ps ds) (hd : Vals dvs ds)
    (hx : Passes CX X E) (I : Inv X pins σ H s) (r : Vals vs us)
    (h : ∀ x dx, H x = none → H dx = none → dx ≠ x → sp (.ref x :: (vs ++ dvs)) (upd (upd H dx (.own x)) x (.ins C dx [])) (fun v H2 => v = .non ∧ Q (.ref x) H2) E) :
    wpAny (model X.prog X.w) X.A (call (.ref C) us) (EP X pins σ Q) X.xe s := by
  have hq := h (s.heap.objs.size + 1) s.heap.objs.size (I.hok.fresh (Nat.le_succ _)) (I.hok.fresh (Nat.le_refl _)) (Nat.ne_of_lt (Nat.lt_succ_self _))
  have I2 := Inv.made (C := C) I
  have r2 : Vals (V.ref (s.heap.objs.size + 1) :: (vs ++ dvs)) (Value.ref (s.heap.objs.size + 1) :: (us ++ ds)) := .cons rfl (r.append hd)
  have hl : (Value.ref (s.heap.objs.size + 1) :: us ++ ds).length = ps.length := by
    have e := r2.length
    rw [F.len _ _ _ _ hq] at e
    exact e.symm
  refine wpAny_call (make_map (f := f) I.kIn M.makes M.init (beq_iff_eq.mp M.fn) (codeAny_mono (F.run _ X.stack _ _ ⟨Value.ref (s.heap.objs.size + 1) :: us, []⟩ (Value.ref (s.heap.objs.size + 1) :: (us ++ ds)) _ _ E (hr.make C us [])
    (I2.env0.make C us []) (hb _ (Value.ref (s.heap.objs.size + 1) :: us) I2.kIn hl) r2 hq) fun r s' hq' => ?_))
  cases r with
  | error e => exact hx pins σ _ _ e s' I2 hq'
  | ok fl =>
    cases fl with
    | ret u =>
      obtain ⟨v, H', I3, rv, ev, q3⟩ := I2.after hq'
      subst ev
      exact ⟨rv, ⟨V.ref (s.heap.objs.size + 1), H', I3, rfl, q3⟩⟩
    | next => exact False.elim hq'
    | brk => exact False.elim hq'
    | cont => exact False.elim hq'
theorem pe_make (M : Mk X.K C f) (F : FnOk X.prog X.w X.K X.mg X.base CX k f fd ps sp) (hr : Room (k + 1) X.A) (hg : Gl X x) (hm : X.mg x = some (.ref C)) (hb : Binds X.K fd ps ds) (hd : Vals dvs ds) (hx : Passes CX X E)
    (ha : PA X (e :: es) t) (hdb : (x == ("__debug__" : Str)) = false := by decide) (he : starEach (e :: es) X.env = (false, eval e X.env) :: starEach es X.env := by rfl) (hpl : (backTo pos (starEach es X.env)).any (·.1) = false := by rfl) :
    PE X (.Call (.Name x p) (e :: es) [] pos) (tMake C sp dvs E t) := by
  intro pins s σ H Q I h
  refine wpAny_Call_Name_kw (ld_glob I hg hm ?_ hdb)
  refine W.callWith_K (h₀ := X.base) I.ok.mod.kin M.kp (thn (ha pos pins s σ H _ I h) fun us s1 ⟨vs, H1, I1, r, q⟩ => ⟨I1.kIn, ?_⟩) he hpl
  exact run_make M F hr hb hd hx I1 r q
end
section
variable {X : Cx} {CX : CXT} {k : Nat} {f C : Addr} {fd : FuncData} {ps ks : List Str} {sp : Sp} {E : XK} {x m : Str} {p pos apos kpos : Pos} {e o : Expr} {es : List Expr} {kws : List Keyword} {te ta : TE} {t tk : TA} {nm : Option Str}
variable {g : List Value → List Value → List Value} {gV : List V → List V → List V}
end
structure FnScope (N P : List Str) (sc : Scope) : Prop where
  kind : sc.kind = .function
  co : sc.isCoroutine = false
  gen : sc.isGenerator = false
  nd : N.Nodup
  pre : N.take P.length = P
  par : ∀ x ∈ P, sc.names.lookup x = some .local ∨ sc.names.lookup x = some .cell
  nofree : ∀ y ∈ sc.names, y.2 ≠ .free
theorem bindL_out {kindOf : Str → Option NameKind} {x : Str} : ∀ {binds : List (Str × Value)} {m : Str → Option Value}, (∀ v, (x, v) ∉ binds) → bindL kindOf binds m x = m x
  | [], _, _ => rfl
  | (n, v) :: r, m, h => by
    unfold bindL
    rw [bindL_out fun w hw => h w (List.mem_cons_of_mem _ hw)]
    split
    · have : x ≠ n := by rintro rfl; exact h v List.mem_cons_self
      simp [this]
    · rfl
theorem bindC_out {kindOf : Str → Option NameKind} {x : Str} : ∀ {binds : List (Str × Value)} {m : Str → Option Value}, (∀ v, (x, v) ∉ binds) → bindC kindOf binds m x = m x
  | [], _, _ => rfl
  | (n, v) :: r, m, h => by
    unfold bindC
    rw [bindC_out fun w hw => h w (List.mem_cons_of_mem _ hw)]
    split
    · rfl
    · have : x ≠ n := by rintro rfl; exact h v List.mem_cons_self
      simp [this]
theorem bindL_get {kindOf : Str → Option NameKind} {x : Str} {v : Value} : ∀ {P : List Str} {vs : List Value} {i : Nat} {m : Str → Option Value}, P.Nodup → P[i]? = some x → vs[i]? = some v → kindOf x = some .local →
    bindL kindOf (P.zip vs) m x = some v
  | [], _, _, _, _, h, _, _ => by simp at h
  | _ :: _, [], _, _, _, _, h, _ => by simp at h
  | p :: P, w :: vs, 0, m, nd, h1, h2, hk => by
    simp at h1 h2; subst h1; subst h2
    show bindL kindOf ((p, w) :: P.zip vs) m p = _
    unfold bindL
    rw [bindL_out fun v hv => (List.nodup_cons.mp nd).1 (List.of_mem_zip hv).1, if_pos hk]
    simp
  | p :: P, w :: vs, i + 1, m, nd, h1, h2, hk => by
    show bindL kindOf ((p, w) :: P.zip vs) m x = _
    unfold bindL
    exact bindL_get (i := i) (List.nodup_cons.mp nd).2 (by simpa using h1) (by simpa using h2) hk
theorem bindC_get {kindOf : Str → Option NameKind} {x : Str} {v : Value} : ∀ {P : List Str} {vs : List Value} {i : Nat} {m : Str → Option Value}, P.Nodup → P[i]? = some x → vs[i]? = some v → kindOf x ≠ some .local →
    bindC kindOf (P.zip vs) m x = some v
  | [], _, _, _, _, h, _, _ => by simp at h
  | _ :: _, [], _, _, _, _, h, _ => by simp at h
  | p :: P, w :: vs, 0, m, nd, h1, h2, hk => by
    simp at h1 h2; subst h1; subst h2
    show bindC kindOf ((p, w) :: P.zip vs) m p = _
    unfold bindC
    rw [bindC_out fun v hv => (List.nodup_cons.mp nd).1 (List.of_mem_zip hv).1, if_neg hk]
    simp
  | p :: P, w :: vs, i + 1, m, nd, h1, h2, hk => by
    show bindC kindOf ((p, w) :: P.zip vs) m x = _
    unfold bindC
    exact bindC_get (i := i) (List.nodup_cons.mp nd).2 (by simpa using h1) (by simpa using h2) hk
noncomputable def start (N : List Str) (vs : List V) : St := vs.map some ++ List.replicate (N.length - vs.length) none
noncomputable def cxOf (CX : CXT) (P : Program) (w : World) (K : W.Frag) (mg : Str → Option Value) (base : Heap) (N : List Str) (qual : Str) (scope : Scope) (f : Addr) (cd : Value) (A : Around) (outer : List Env) (s : Shared) (H : Hp) (E : XK) : Cx where
  prog := P
  w := w
  K := K
  mg := mg
  base := base
  A := A.deeper (envOfC qual scope s.heap.objs.size f cd)
  N := N
  s₀ := s
  H₀ := H
  env := envOfC qual scope s.heap.objs.size f cd
  outer := outer
  stack := envOfC qual scope s.heap.objs.size f cd :: outer
  ex := []
  calm := true
  fn := fun _ => true
  pn := []
  xe := fun e s' => wpAny (model P w) (A.deeper (envOfC qual scope s.heap.objs.size f cd)) (leaving (envOfC qual scope s.heap.objs.size f cd) e) (fun _ s'' => CX outer H s E e s'') (fun e' s'' => CX outer H s E e' s'') s'
theorem cell_has {sc : Scope} {n : Nat} {x : Str} (h : sc.names.lookup x = some .cell) : ∃ c, (cellsFrom n sc.names []).lookup x = some c := by
  have q := W.cellsFrom_some sc.names n [] (.inl h)
  exact Option.isSome_iff_exists.mp q
theorem inv_start {CX : CXT} {P : Program} {w : World} {K : W.Frag} {mg : Str → Option Value} {base : Heap} {N ps : List Str} {qual : Str} {scope : Scope} {f : Addr} {cd : Value} {A : Around} {outer : List Env} {s s1 : Shared} {H : Hp} {E : XK} {us : List Value} {vs : List V}
    (S : FnScope N ps scope) (hd : A.handled = none) (e0 : Env0 P w K mg base A outer s H) (hl : vs.length = ps.length) (r : Vals vs us)
    (x : InCallC s s.heap.objs.size (bindL (envOfC qual scope s.heap.objs.size f cd).kindOf (ps.zip us) fun _ => none) (cellsFrom (s.heap.objs.size + 1) scope.names []) (bindC (envOfC qual scope s.heap.objs.size f cd).kindOf (ps.zip us) fun _ => none) s1) :
    Inv (cxOf CX P w K mg base N qual scope f cd A outer s H E) [] (start N vs) H s1 := by
  have hpl : ps.length ≤ N.length := by have := congrArg List.length S.pre; rw [List.length_take] at this; omega
  obtain ⟨h1, tk, rfl, hk⟩ := x.done
  have noA : ∀ b : Addr, b ∉ (cxOf CX P w K mg base N qual scope f cd A outer s H E).ex := fun b z => absurd (show b ∈ ([] : List Addr) from z) (by simp)
  refine ⟨⟨e0.mod, S.kind, rfl, rfl, Nat.le_refl _, fun y z c h1 h2 => ?_, fun y hy => ?_, fun y c _ h => ?_, fun _ => hd, Around.frames_deeper e0.frames, .inr ⟨rfl, rfl⟩, fun b z => absurd z (noA b), e0.bs, e0.bsz, fun b _ _ => noA b, fun b z => absurd z (noA b), e0.funs, e0.frf⟩,
    rfl, e0.bare, Un.kept hk, ⟨_, x.toInCall.ns, fun i y v h1 h2 h3 => ?_⟩, fun y c h => ⟨_, x.cell y c h⟩, e0.hok.fresh (Nat.le_refl _), fun y c h => ?_, fun p hp => absurd (show p ∈ ([] : List (Addr × Obj)) from hp) (by simp), e0.hok.kept hk, ?_⟩
  · exact name_of_addr x.apart (PySem.mem_of_lookup h1) (PySem.mem_of_lookup h2)
  · have hy : scope.names.lookup y = some .cell ∨ scope.names.lookup y = some .free := hy
    rcases hy with hy | hy
    · exact cell_has hy
    · exact absurd rfl (S.nofree _ (PySem.mem_of_lookup hy))
  · exact Nat.le_of_lt (x.above y c (PySem.mem_of_lookup h))
  · have hi : i < vs.length := by
      unfold start at h2
      by_cases hi : i < vs.length
      · exact hi
      · rw [List.getElem?_append_right (by simpa using hi)] at h2
        rw [List.getElem?_replicate] at h2
        split at h2 <;> cases h2
    have ha : vs[i]? = some v := by
      unfold start at h2
      rw [List.getElem?_append_left (by simpa using hi), List.getElem?_map] at h2
      cases e : vs[i]? with
      | none => rw [e] at h2; cases h2
      | some a => rw [e] at h2; cases h2; rfl
    obtain ⟨u, hu, rv⟩ := r.get ha
    have hp : ps[i]? = some y := by
      rw [← S.pre, List.getElem?_take_of_lt (by omega)]; exact h1
    have ndP : ps.Nodup := by rw [← S.pre]; exact S.nd.sublist (List.take_sublist _ _)
    refine ⟨u, rv, ?_⟩
    rcases S.par y (List.mem_of_getElem? hp) with k | k
    · exact .inl ⟨k, bindL_get ndP hp hu k⟩
    · obtain ⟨c, e⟩ := cell_has (n := s.heap.objs.size + 1) k
      refine .inr ⟨.inl k, c, e, ?_⟩
      have q := x.cell y c e
      rw [bindC_get ndP hp hu (by show scope.names.lookup y ≠ _; rw [k]; decide)] at q
      exact q
  · exact e0.hok.fresh (Nat.le_of_lt (x.above y c (PySem.mem_of_lookup h)))
  · unfold start
    show _ = N.length
    rw [List.length_append, List.length_map, List.length_replicate]
    omega
theorem fn_of {CX : CXT} {P : Program} {w : World} {K : W.Frag} {mg : Str → Option Value} {base : Heap} {k : Nat} {f : Addr} {name qual : Str} {params : Arguments} {body : List Stmt} {scope : Scope} {dV kV doc pm cdv ct oc : Value} {an od : Option Addr}
    {osl : Array (Option Value)} {N ps : List Str} {sp : Sp} (lk : K.lookup f = some ⟨oc, od, .func (W.fnOf name qual params body scope dV kV doc pm an cdv ct), osl⟩) (hcd : W.codeIn K cdv qual = true) (S : FnScope N ps scope)
    (len : ∀ vs H Q E, sp vs H Q E → vs.length = ps.length)
    (hbody : ∀ (A : Around) (outer : List Env) (s : Shared) (H : Hp) (vs : List V) (Q : VK) (E : XK), Room k (A.deeper (envOfC qual scope s.heap.objs.size f cdv)) → sp vs H Q E →
      ∃ t, PSs (cxOf CX P w K mg base N qual scope f cdv A outer s H E) body t ∧ t { nx := fun _ H' => Q .non H', rt := Q } (start N vs) H) :
    FnOk P w K mg base CX (k + 1) f (W.fnOf name qual params body scope dV kV doc pm an cdv ct) ps sp := by
  refine ⟨len, fun A outer s H args us vs Q E hr e0 hb r hsp => ?_⟩
  have hl := len _ _ _ _ hsp
  have KX : K.In s.heap := e0.mod.kin.keeps fun b o e => (e0.bs b o e).1
  have lim : s.heap.NoLimit := e0.mod.nolimit.keeps fun b o e => (e0.bs b o e).1
  have hkind : ∀ y ∈ ps.zip us, scope.names.lookup y.1 = some .local ∨ (scope.names.lookup y.1 = some .cell ∧ ((cellsFrom (s.heap.objs.size + 1) scope.names []).lookup y.1).isSome = true) := fun ⟨n, v⟩ hy => by
    rcases S.par n (List.of_mem_zip hy).1 with q | q
    · exact .inl q
    · exact .inr ⟨q, W.cellsFrom_some _ _ _ (.inl q)⟩
  refine codeAny_call_function hr.depth (KX _ _ lk) rfl S.co S.gen rfl (W.codeRec_of KX hcd) (hb _ _ _ _ ?_)
  refine wpAny_newFunctionEnv_cells S.kind hkind fun env he s1 x => ?_
  subst he
  refine ⟨lim.keeps x.toInCall.keep, codeAny_func ?_⟩
  obtain ⟨t, ht, hq⟩ := hbody A outer s H vs Q E (hr.deeper _) hsp
  have I : Inv (cxOf CX P w K mg base N qual scope f cdv A outer s H E) [] (start N vs) H s1 := inv_start S hr.hd e0 hl r x
  refine wpAny_mono (ht [] s1 (start N vs) H _ I hq) (fun fl s' hs => ?_) fun e s' hs => hs
  have fin : ∀ {σ' : St} {H' : Hp} {v : V} {u : Value}, Inv (cxOf CX P w K mg base N qual scope f cdv A outer s H E) [] σ' H' s' → RelV v u → Q v H' → CE outer P w H s Q u s' :=
    fun {σ' H' v u} J rv q => ⟨v, H', J.os, J.bare, J.base, J.hok, rv, q⟩
  cases fl with
  | ret u =>
    obtain ⟨v, σ', H', J, rv, q⟩ := hs
    exact fin J rv q
  | next =>
    obtain ⟨σ', H', J, q⟩ := hs
    exact fin (v := V.non) (u := Value.none) J rfl q
  | brk =>
    obtain ⟨_, _, _, q⟩ := hs
    exact False.elim q
  | cont =>
    obtain ⟨_, _, _, q⟩ := hs
    exact False.elim q
end L2
namespace L2
open PySem PySem.Spec PyProof.Rows
section
variable {X : Cx} {x : Str} {p pos : Pos} {e : Expr} {es : List Expr} {t : TA} {id T : String} {r : List V → Hp → VK → Prop}
noncomputable def tCB (r : List V → Hp → VK → Prop) (t : TA) : TE := fun σ H Q => t σ H fun vs H1 => r vs H1 Q
theorem pe_callB (hc : CallR X (.builtin id) r) (hg : Gl X x) (hm : X.mg x = none) (hv : bootBuiltins x = some (.builtin id)) (ha : PA X (e :: es) t) (hn : x ≠ "__name__" := by decide) (hdb : (x == ("__debug__" : Str)) = false := by decide)
    (he : starEach (e :: es) X.env = (false, eval e X.env) :: starEach es X.env := by rfl) (hpl : (backTo pos (starEach es X.env)).any (·.1) = false := by rfl) : PE X (.Call (.Name x p) (e :: es) [] pos) (tCB r t) := by
  intro pins s σ H Q I h
  refine wpAny_Call_Name_kw (ld_blt I hg hm hv ?_ hn hdb)
  exact PyProof.Rows.callWith_builtin1 (thn (ha pos pins s σ H _ I h) fun us s1 ⟨vs, H1, I1, r1, q1⟩ => hc pins s1 σ H1 vs us Q I1 r1 q1) he hpl
theorem pe_callTy (hc : CallR X (.type T) r) (hg : Gl X x) (hm : X.mg x = none) (hv : bootBuiltins x = some (.type T)) (ha : PA X (e :: es) t) (hn : x ≠ "__name__" := by decide) (hdb : (x == ("__debug__" : Str)) = false := by decide)
    (he : starEach (e :: es) X.env = (false, eval e X.env) :: starEach es X.env := by rfl) (hpl : (backTo pos (starEach es X.env)).any (·.1) = false := by rfl) : PE X (.Call (.Name x p) (e :: es) [] pos) (tCB r t) := by
  intro pins s σ H Q I h
  refine wpAny_Call_Name_kw (ld_blt I hg hm hv ?_ hn hdb)
  exact PyProof.Rows.callWith_type1 (thn (ha pos pins s σ H _ I h) fun us s1 ⟨vs, H1, I1, r1, q1⟩ => hc pins s1 σ H1 vs us Q I1 r1 q1) he hpl
end
end L2
namespace HT
open PySem PyProof.Rows
section
open PySem.SeqAt
open PySem.AutoSeq1 (wpAny_loadPart')
open PySem.MeetsSeq PySem.MeetsSeq2 PySem.MeetsSeq3
end
section
variable {prog : Program} {w : World} {A : Around} {E : Value → Shared → Prop} {s : Shared}
noncomputable def sIx (n d : Nat) : Option Int → Nat
  | none => d
  | some v => if v < 0 then (v + (n : Int)).toNat else min v.toNat n
theorem sIx_none (n d : Nat) : sIx n d none = d := rfl
theorem sIx_nat (n d k : Nat) : sIx n d (some (k : Int)) = min k n := by
  show (if (k : Int) < 0 then ((k : Int) + (n : Int)).toNat else min (k : Int).toNat n) = min k n
  rw [if_neg (by omega), Int.toNat_natCast]
end
end HT
namespace L2
open PySem PySem.Spec PyProof.Rows
noncomputable abbrev TO := St → Hp → (Option Int → Hp → Prop) → Prop
def PO (X : Cx) (e : Option Expr) (t : TO) : Prop :=
  ∀ (pins : List (Addr × Obj)) (s : Shared) (σ : St) (H : Hp) (Q : Option Int → Hp → Prop), Inv X pins σ H s → t σ H Q →
    wpAny (model X.prog X.w) X.A (evalPart e X.env) (fun u s' => ∃ o H', Inv X pins σ H' s' ∧ IsPart u o ∧ Q o H') X.xe s
noncomputable def tNoPart : TO := fun _ H Q => Q none H
noncomputable def tPart (t : TE) : TO := fun σ H Q => t σ H fun x H1 => ∃ i, x = .int i ∧ Q (some i) H1
theorem intsAre_of {ns : List Int} : ∀ {us : List Value}, Vals (ns.map V.int) us → IntsAre us ns := by
  induction ns with
  | nil => intro us r; rw [List.map_nil] at r; cases r; exact .nil
  | cons n ns ih =>
    intro us r
    rw [List.map_cons] at r
    cases r with
    | cons r1 r2 =>
      obtain ⟨t, e⟩ := r1
      subst e
      exact .cons n t (ih r2)
section
variable {X : Cx} {e : Expr} {te : TE} {lo hi : Option Expr} {tl th : TO} {pos p2 : Pos}
theorem po_none : PO X none tNoPart := by
  intro pins s σ H Q I h
  rw [evalPart_none]
  exact wpAny_pure ⟨none, H, I, .none, h⟩
theorem po_some (h : PE X e te) : PO X (some e) (tPart te) := by
  intro pins s σ H Q I hw
  rw [evalPart_some]
  refine thn (h pins s σ H _ I hw) fun u s1 ⟨x, H1, I1, r1, q1⟩ => ?_
  obtain ⟨i, rfl, q⟩ := q1
  obtain ⟨t, rfl⟩ := r1
  exact ⟨some i, H1, I1, .int i t, q⟩
def SlR (X : Cx) (r : V → Option Int → Option Int → Hp → VK → Prop) : Prop :=
  ∀ (pins : List (Addr × Obj)) (s : Shared) (σ : St) (H : Hp) (x : V) (v vl vu : Value) (lo hi : Option Int) (sl : Addr) (Q : VK), Inv X pins σ H s → RelV x v → s.heap.IsSliceOf sl vl vu .none → IsPart vl lo → IsPart vu hi → r x lo hi H Q →
    ∃ T id, typeLookup (.type T) "__getitem__" = pure (some (.builtin id)) ∧ s.TypeIs v T ∧ wpAny (model X.prog X.w) X.A (getItem v (.ref sl)) (EP X pins σ Q) X.xe s
noncomputable def tSl (r : V → Option Int → Option Int → Hp → VK → Prop) (te : TE) (tl th : TO) : TE := fun σ H Q => te σ H fun x H1 => tl σ H1 fun l H2 => th σ H2 fun u H3 => r x l u H3 Q
theorem pe_slice {r : V → Option Int → Option Int → Hp → VK → Prop} (hr : SlR X r) (he : PE X e te) (hl : PO X lo tl) (hu : PO X hi th) : PE X (.Subscript e (.Slice lo hi none p2) pos) (tSl r te tl th) := by
  intro pins s σ H Q I h
  refine Subscript_ (thn (he pins s σ H _ I h) fun v s1 ⟨x, H1, I1, r1, q1⟩ => ?_)
  refine wpAny_Slice (thn (hl pins s1 σ H1 _ I1 q1) fun vl s2 ⟨l, H2, I2, pl, q2⟩ => thn (hu pins s2 σ H2 _ I2 q2) fun vu s3 ⟨u, H3, I3, pu, q3⟩ => ?_)
  rw [evalPart_none]
  refine wpAny_pure ?_
  have I4 : Inv X pins σ H3 { s3 with heap := s3.heap.push { cls := .type "slice", data := .fields #[vl, vu, .none] } } := I3.kept (t' := s3.toks) fun b ob q => Heap.get?_push_of_some _ q
  obtain ⟨T, id, hT, ht, hg⟩ := hr pins { s3 with heap := s3.heap.push { cls := .type "slice", data := .fields #[vl, vu, .none] } } σ H3 x v vl vu l u s3.heap.objs.size Q I4 r1 (Heap.IsSliceOf.new ..) pl pu q3
  show wpAny (model X.prog X.w) X.A (subscriptTail e (.Slice lo hi none p2) v (.ref s3.heap.objs.size)) (EP X pins σ Q) X.xe { s3 with heap := s3.heap.push { cls := .type "slice", data := .fields #[vl, vu, .none] } }
  exact tail_any (ops := [.ref s3.heap.objs.size, v]) ht hT hg (by with_unfolding_all rfl)
noncomputable def cutV (xs : List V) (lo hi : Option Int) : List V := (xs.drop (HT.sIx xs.length 0 lo)).take (HT.sIx xs.length xs.length hi - HT.sIx xs.length 0 lo)
theorem cutV_length (xs : List V) (lo hi : Option Int) : (cutV xs lo hi).length ≤ xs.length := by
  unfold cutV
  rw [List.length_take, List.length_drop]
  omega
end
end L2
namespace L2
open PySem PySem.Spec PyProof.Rows
noncomputable def ixN (n : Nat) (i : Int) : Option Nat := if 0 ≤ i then (if i < n then some i.toNat else none) else if -(n : Int) ≤ i then some (i + n).toNat else none
noncomputable def atI {α : Type} (xs : List α) (i : Int) : Option α := (ixN xs.length i).bind fun j => xs[j]?
theorem ixN_seq {n : Nat} {i : Int} {j : Nat} (h : ixN n i = some j) : seqIndex? i n = some j ∧ j < n ∧ -(n : Int) ≤ i ∧ i < n := by
  unfold ixN at h
  by_cases h0 : 0 ≤ i
  · rw [if_pos h0] at h
    by_cases h1 : i < n
    · rw [if_pos h1] at h
      have e : i.toNat = j := Option.some.inj h
      exact ⟨by rw [seqIndex_of h0 h1, e], by omega, by omega, h1⟩
    · rw [if_neg h1] at h; cases h
  · rw [if_neg h0] at h
    by_cases h1 : -(n : Int) ≤ i
    · rw [if_pos h1] at h
      have e : (i + n).toNat = j := Option.some.inj h
      exact ⟨by rw [seqIndex_neg (by omega) h1, e], by omega, h1, by omega⟩
    · rw [if_neg h1] at h; cases h
theorem atI_get {α : Type} {xs : List α} {i : Int} {v : α} (h : atI xs i = some v) : ∃ j, seqIndex? i xs.length = some j ∧ xs[j]? = some v ∧ j < xs.length ∧ -(xs.length : Int) ≤ i ∧ i < xs.length := by
  unfold atI at h
  cases e : ixN xs.length i with
  | none => rw [e] at h; cases h
  | some j =>
    rw [e] at h
    obtain ⟨h1, h2, h3, h4⟩ := ixN_seq e
    exact ⟨j, h1, h, h2, h3, h4⟩
theorem atI_nat {α : Type} {xs : List α} {j : Nat} {v : α} (h : xs[j]? = some v) : atI xs (j : Int) = some v := by
  have hj : j < xs.length := (List.getElem?_eq_some_iff.mp h).1
  have e : ixN xs.length (j : Int) = some j := by
    unfold ixN
    rw [if_pos (by omega), if_pos (by omega)]; simp
  unfold atI; rw [e]; exact h
def PlainIx (b : Expr) : Prop := ∀ o i, subscripted b false o i = operate [o, i] (getItem o i)
def IxR (X : Cx) (r : R2) : Prop :=
  ∀ (value slice : Expr) (pins : List (Addr × Obj)) (s : Shared) (σ : St) (H : Hp) (x y : V) (v u : Value) (Q : VK), Inv X pins σ H s → RelV x v → RelV y u → r x y H Q →
    subscripted slice false v u = operate [v, u] (getItem v u) → wpAny (model X.prog X.w) X.A (subscriptTail value slice v u) (EP X pins σ Q) X.xe s
def MtR (X : Cx) (id : String) (r : V → List V → Hp → VK → Prop) : Prop :=
  ∀ (pins : List (Addr × Obj)) (s : Shared) (σ : St) (H : Hp) (x : V) (xs : List V) (v : Value) (us : List Value) (Q : VK), Inv X pins σ H s → RelV x v → Vals xs us → r x xs H Q →
    wpAny (model X.prog X.w) X.A (call (.builtin id) (v :: us)) (EP X pins σ Q) X.xe s
section
variable {X : Cx} {a b : Expr} {ta tb : TE} {pos : Pos}
theorem pe_ix {r : R2} (hr : IxR X r) (ha : PE X a ta) (hb : PE X b tb) (hs : PlainIx b) : PE X (.Subscript a b pos) (tOp r ta tb) := by
  intro pins s σ H Q I h
  exact Subscript_ (binT ha hb I h fun v u s2 x y H2 I2 rx ry q => hr a b pins s2 σ H2 x y v u Q I2 rx ry q (hs _ _))
noncomputable def rIxL (K : W.Frag) : R2 := fun x y H Q => ∃ p xs i v, x = .ref p ∧ y = .int i ∧ SqL K H p xs ∧ atI xs i = some v ∧ Q v H
noncomputable def rIxT (K : W.Frag) : R2 := fun x y H Q => ∃ p xs i v, x = .ref p ∧ y = .int i ∧ SqT K H p xs ∧ atI xs i = some v ∧ Q v H
noncomputable def rIxS : R2 := fun x y H Q => ∃ z i c, x = .str z ∧ y = .int i ∧ z.length ≤ sizeLine ∧ atI z.cps.toList i = some c ∧ Q (.str ⟨#[c]⟩) H
theorem ix_list : IxR X (rIxL X.K) := by
  intro value slice pins s σ H x y v u Q I rx ry h hs
  obtain ⟨p, xs, i, z, rfl, rfl, hq, he, q⟩ := h
  cases rx
  obtain ⟨t, rfl⟩ := ry
  obtain ⟨its, r, pl, hz⟩ := I.list hq
  obtain ⟨j, h1, h2, h3, h4, h5⟩ := atI_get he
  obtain ⟨w, ew, rw'⟩ := r.get h2
  have hl := r.length
  have hn := line63
  have fin : EP X pins σ Q w s := ⟨z, H, I, rw', q⟩
  by_cases h0 : 0 ≤ i
  · have hj : i.toNat = j := by
      rw [seqIndex_of h0 h5] at h1
      exact Option.some.inj h1
    exact item_listR pl.isList h0 (by omega) (by rw [hj]; simpa using ew) fin hs
  · have hj : (i + (its.toArray.size : Int)).toNat = j := by
      rw [seqIndex_neg (by omega) h4] at h1
      rw [List.size_toArray, ← hl]
      exact Option.some.inj h1
    exact subscriptTail_builtinR (x := w) pl.isList.typeIs slot_list_getitem.lookup
      (wpAny_getItem_list_neg (Q := fun r s' => r = w ∧ EP X pins σ Q r s') pl.isList (by omega) (by rw [List.size_toArray] <;> omega) (by omega) (by rw [hj]; simpa using ew) ⟨rfl, fin⟩) hs
theorem ix_tup : IxR X (rIxT X.K) := by
  intro value slice pins s σ H x y v u Q I rx ry h hs
  obtain ⟨p, xs, i, z, rfl, rfl, hq, he, q⟩ := h
  cases rx
  obtain ⟨t, rfl⟩ := ry
  obtain ⟨its, r, pl, hz⟩ := I.tuple hq
  obtain ⟨j, h1, h2, h3, h4, h5⟩ := atI_get he
  obtain ⟨w, ew, rw'⟩ := r.get h2
  have hl := r.length
  have hn := line63
  have fin : EP X pins σ Q w s := ⟨z, H, I, rw', q⟩
  exact subscriptTail_builtinR (x := w) pl.typeIs slot_tuple_getitem.lookup
    (getItem_tuple (j := j) (Q := fun r s' => r = w ∧ EP X pins σ Q r s') pl (by omega) (by omega) (by rw [List.size_toArray, ← hl]; exact h1) (by simpa using ew) ⟨rfl, fin⟩) hs
theorem ix_str : IxR X rIxS := by
  intro value slice pins s σ H x y v u Q I rx ry h hs
  obtain ⟨z, i, c, rfl, rfl, hz, he, q⟩ := h
  obtain ⟨t, rfl⟩ := rx
  obtain ⟨t', rfl⟩ := ry
  obtain ⟨j, h1, h2, h3, h4, h5⟩ := atI_get he
  have hl : z.cps.toList.length = z.length := by simp [Str.length]
  rw [hl] at h1 h4 h5
  have hn := line63
  exact tail_any (typeIs_str s z t) slot_str_getitem.lookup (getItem_str (c := c) (by
    have e1 : decide (i < -(2 ^ 63 : Int)) = false := dff (by omega)
    have e2 : decide (i ≥ 2 ^ 63) = false := dff (by omega)
    rw [e1, e2, Bool.or_false]) (by rw [h1]; simpa using h2) ⟨.str ⟨#[c]⟩, H, I.tok _, ⟨_, rfl⟩, q⟩) hs
theorem mapSeq_set (its : List Value) (n j : Nat) (u : Value) : Obj.mapSeq (·.setIfInBounds j u) { cls := .type "list", data := .seq its.toArray n } = { cls := .type "list", data := .seq (its.set j u).toArray n } := by
  simp [Obj.mapSeq]
theorem Inv.lst {pins : List (Addr × Obj)} {σ : St} {H : Hp} {s : Shared} {p : Addr} {xs : List V} (I : Inv X pins σ H s) (h : H p = some (.lst xs)) :
    ∃ (its : List Value) (n : Nat), Vals xs its ∧ s.heap.get? p = some { cls := .type "list", data := .seq its.toArray n } ∧ xs.length ≤ sizeLine := by
  obtain ⟨z, its, n, r, e⟩ := I.hok p _ h
  exact ⟨its, n, r, e, z⟩
theorem Inv.lstUpd {pins : List (Addr × Obj)} {σ : St} {H : Hp} {s : Shared} {p : Addr} {xs ys : List V} {its its' : List Value} {n n' : Nat} {f : Obj → Obj} (I : Inv X pins σ H s) (h : H p = some (.lst xs))
    (ho : s.heap.get? p = some { cls := .type "list", data := .seq its.toArray n }) (hf : f { cls := .type "list", data := .seq its.toArray n } = { cls := .type "list", data := .seq its'.toArray n' }) (r : Vals ys its') (hz : ys.length ≤ sizeLine) (t : Nat) :
    Inv X pins σ (upd H p (.lst ys)) { s with heap := s.heap.update p f, toks := t } := by
  have e : (s.heap.update p f).get? p = some { cls := .type "list", data := .seq its'.toArray n' } := by
    rw [Heap.get?_update_self f ho (by rw [hf] <;> rfl), hf]
  refine I.write (x := p) (e := p) (by rw [h]; trivial) (.inl rfl) (fun b u hb q => (Heap.get?_update_other _ _ (Ne.symm hb)).trans q) ⟨_, e⟩ ?_
  exact ⟨hz, its', n', r, e⟩
noncomputable def rSetL : V → V → V → Hp → (Hp → Prop) → Prop := fun o i v H Q => ∃ p xs k j, o = .ref p ∧ i = .int k ∧ H p = some (.lst xs) ∧ ixN xs.length k = some j ∧ Q (upd H p (.lst (xs.set j v)))
theorem set_list : PSet X rSetL := by
  intro pins s σ H o i v ov iv u Q I ro ri rv h
  obtain ⟨p, xs, k, j, rfl, rfl, hp, hj, q⟩ := h
  cases ro
  obtain ⟨t, rfl⟩ := ri
  obtain ⟨its, n, r, ho, hz⟩ := I.lst hp
  obtain ⟨h1, h2, h3, h4⟩ := ixN_seq hj
  have hl := r.length
  have hn := line63
  have I' : Inv X pins σ (upd H p (.lst (xs.set j v))) { s with heap := s.heap.update p (Obj.mapSeq (·.setIfInBounds j u)) } :=
    I.lstUpd hp ho (mapSeq_set its n j u) (r.set rv j) (by rw [List.length_set]; exact hz) s.toks
  by_cases h0 : 0 ≤ k
  · have hk : k.toNat = j := by
      rw [seqIndex_of h0 h4] at h1
      exact Option.some.inj h1
    exact W.ki_setAt ho h0 (by omega) (by rw [List.size_toArray, ← hl]; exact h4) (by rw [hk]; exact ⟨_, I', q⟩)
  · have hk : (k + (its.toArray.size : Int)).toNat = j := by
      rw [seqIndex_neg (by omega) h3] at h1
      rw [List.size_toArray, ← hl]
      exact Option.some.inj h1
    exact W.ki_setBack ho (by omega) (by rw [List.size_toArray, ← hl]; exact h3) (by omega) (by rw [hk]; exact ⟨_, I', q⟩)
theorem slice_bounds (lo hi : Option Int) (n : Nat) : (sliceBounds lo hi none n).1 = ((HT.sIx n 0 lo : Nat) : Int) ∧ (sliceBounds lo hi none n).2.1 = ((HT.sIx n n hi : Nat) : Int) ∧ (sliceBounds lo hi none n).2.2 = 1 := by
  refine ⟨?_, ?_, rfl⟩
  · cases lo with
    | none => simp [sliceBounds, HT.sIx]
    | some i =>
      simp only [sliceBounds, HT.sIx, Option.getD_none, show (1 : Int) > 0 by decide, if_true]
      by_cases h : i < 0
      · simp only [h, if_true] <;> omega
      · simp only [h, if_false] <;> omega
  · cases hi with
    | none => simp [sliceBounds, HT.sIx]
    | some i =>
      simp only [sliceBounds, HT.sIx, Option.getD_none, show (1 : Int) > 0 by decide, if_true]
      by_cases h : i < 0
      · simp only [h, if_true] <;> omega
      · simp only [h, if_false] <;> omega
theorem slicePick_cut (its : List Value) (lo hi : Option Int) : slicePick its.toArray lo hi none = ((its.drop (HT.sIx its.length 0 lo)).take (HT.sIx its.length its.length hi - HT.sIx its.length 0 lo)).toArray := by
  obtain ⟨h1, h2, h3⟩ := slice_bounds lo hi its.toArray.size
  unfold slicePick
  rw [h1, h2, h3]
  simp only [sliceRange_one, pick_run, List.size_toArray] <;> rfl
noncomputable def rSlL (K : W.Frag) : V → Option Int → Option Int → Hp → VK → Prop := fun x lo hi H Q => ∃ a xs, x = .ref a ∧ SqL K H a xs ∧ ∀ p, H p = none → Q (.ref p) (upd H p (.lst (cutV xs lo hi)))
theorem sl_list : SlR X (rSlL X.K) := by
  intro pins s σ H x v vl vu lo hi sl Q I rx hs pl pu h
  obtain ⟨a, xs, rfl, hx, q⟩ := h
  cases rx
  obtain ⟨its, r, ht, hz⟩ := I.list hx
  have hlen := r.length
  refine ⟨"list", _, slot_list_getitem.lookup, ht.isList.typeIs, ?_⟩
  refine wpAny_getItem_list_slice ht.isList hs pl pu .none (by simp) ?_ (by rw [List.size_toArray] <;> omega)
  rw [slicePick_cut, ← hlen]
  refine ⟨.ref s.heap.objs.size, _, I.laid (t' := s.toks) (o := .lst (cutV xs lo hi)) (fun b ob q => Heap.get?_push_of_some _ q) (Nat.le_refl _) ?_, rfl, q _ (I.hok.fresh (Nat.le_refl _))⟩
  exact ⟨Nat.le_trans (cutV_length xs lo hi) hz, _, 0, (r.drop (HT.sIx xs.length 0 lo)).take (HT.sIx xs.length xs.length hi - HT.sIx xs.length 0 lo), Heap.get?_push_size _ rfl⟩
theorem call_len_seq : CallR X (.builtin "len") (fun xs H Q => ∃ p ys, xs = [.ref p] ∧ (SqL X.K H p ys ∨ SqT X.K H p ys) ∧ Q (.int ys.length) H) := by
  intro pins s σ H xs us Q I r h
  obtain ⟨p, ys, rfl, hq, q⟩ := h
  obtain ⟨u, rfl, rx⟩ := vals1 r
  cases rx
  have hn := line63
  rcases hq with hq | hq
  · obtain ⟨its, r', pl, hz⟩ := I.list hq
    have hlen := r'.length
    exact Calls.call_len_list pl.isList (by simp only [List.size_toArray] <;> omega) ⟨.int ys.length, H, I.tok _, ⟨s.toks + 1, by rw [List.size_toArray, hlen]⟩, q⟩
  · obtain ⟨its, r', pl, hz⟩ := I.tuple hq
    have hlen := r'.length
    exact len_tuple pl (by simp only [List.size_toArray] <;> omega) ⟨.int ys.length, H, I.tok _, ⟨s.toks + 1, by rw [List.size_toArray, hlen]⟩, q⟩
theorem call_len_str : CallR X (.builtin "len") (fun xs H Q => ∃ z, xs = [.str z] ∧ z.length ≤ sizeLine ∧ Q (.int z.length) H) := by
  intro pins s σ H xs us Q I r h
  obtain ⟨z, rfl, hz, q⟩ := h
  obtain ⟨u, rfl, t, rfl⟩ := vals1 r
  have hn := line63
  exact len_str (by omega) ⟨.int z.length, H, I.tok _, ⟨_, rfl⟩, q⟩
theorem call_list_of : CallR X (.type "list") (fun xs H Q => ∃ p ys, xs = [.ref p] ∧ (SqL X.K H p ys ∨ SqT X.K H p ys) ∧ ∀ l, H l = none → Q (.ref l) (upd H l (.lst ys))) := by
  intro pins s σ H xs us Q I r h
  obtain ⟨p, ys, rfl, hq, q⟩ := h
  obtain ⟨u, rfl, rx⟩ := vals1 r
  cases rx
  have fin : ∀ (its : List Value), Vals ys its → ys.length ≤ sizeLine → ∀ (h' : Heap) (c' : Nat), (∀ b o', s.heap.get? b = some o' → h'.get? b = some o') →
      h'.get? s.heap.objs.size = some { cls := .type "list", dict := none, data := .seq its.toArray c', slots := #[] } → EP X pins σ Q (.ref s.heap.objs.size) { s with heap := h' } := fun its r' hz h' c' kp e =>
    ⟨.ref s.heap.objs.size, _, I.laid (t' := s.toks) kp (Nat.le_refl _) (show ObjOk X.prog X.w _ h' _ (.lst ys) from ⟨hz, its, c', r', e⟩), rfl, q _ (I.hok.fresh (Nat.le_refl _))⟩
  rcases hq with hq | hq
  · obtain ⟨its, r', pl, hz⟩ := I.list hq
    have hlen := r'.length
    obtain ⟨o, ho, hc, n, hd⟩ := pl.isList
    exact call_list_seq p (.inl rfl) ho hc hd (fun h' c' kp e => fin its r' hz h' c' kp e) (by simp only [List.size_toArray] <;> omega)
  · obtain ⟨its, r', pl, hz⟩ := I.tuple hq
    have hlen := r'.length
    obtain ⟨o, ho, hc, n, hd⟩ := pl
    exact call_list_seq p (.inr rfl) ho hc hd (fun h' c' kp e => fin its r' hz h' c' kp e) (by simp only [List.size_toArray] <;> omega)
def tyV (K : W.Frag) (T : String) (x : V) (H : Hp) : Prop := match x with
  | .str _ => T = "str"
  | .int _ => T = "int"
  | .ref p => (T = "list" ∧ ∃ xs, SqL K H p xs) ∨ (T = "tuple" ∧ ∃ o, K.lookup p = some o ∧ o.cls = .type "tuple" ∧ o.dict = none) ∨
      (T = "dict" ∧ ((∃ kvs, H p = some (.dK kvs)) ∨ ∃ kvs, H p = some (.dT kvs))) ∨ (T = "set" ∧ ∃ S n, H p = some (.set S n))
  | _ => False
theorem tyV_is {pins : List (Addr × Obj)} {σ : St} {H : Hp} {s : Shared} {T : String} {x : V} {v : Value} (I : Inv X pins σ H s) (r : RelV x v) (ty : tyV X.K T x H) :
    s.TypeIs v T ∧ ∀ a, v = .ref a → ∃ ob, s.heap.get? a = some ob ∧ ob.dict = none := by
  cases x with
  | str z =>
    obtain ⟨t, rfl⟩ := r
    cases (show T = "str" from ty)
    exact ⟨typeIs_str s z t, fun _ e => nomatch e⟩
  | int i =>
    obtain ⟨t, rfl⟩ := r
    cases (show T = "int" from ty)
    exact ⟨typeIs_int s i t, fun _ e => nomatch e⟩
  | ref p =>
    cases r
    rcases ty with ⟨rfl, xs, hq⟩ | ⟨rfl, o, hk, hc, hd⟩ | ⟨rfl, hk⟩ | ⟨rfl, S, n, hk⟩
    · obtain ⟨its, _, pl, _⟩ := I.list hq
      refine ⟨pl.isList.typeIs, fun a e => ?_⟩
      cases e
      obtain ⟨o, n, e, c, hd, _⟩ := pl
      exact ⟨o, e, hd⟩
    · refine ⟨⟨o, I.kIn p o hk, hc⟩, fun a e => ?_⟩
      cases e
      exact ⟨o, I.kIn _ o hk, hd⟩
    · have z : ∃ o, s.heap.get? p = some o ∧ o.ExactDict := by
        rcases hk with ⟨kvs, hk⟩ | ⟨kvs, hk⟩
        · obtain ⟨_, _, _, _, o, _, _, e, ex, _⟩ := I.hok p _ hk
          exact ⟨o, e, ex⟩
        · obtain ⟨_, _, _, _, o, _, _, e, ex, _⟩ := I.hok p _ hk
          exact ⟨o, e, ex⟩
      obtain ⟨o, e, ex⟩ := z
      refine ⟨⟨o, e, ex.1⟩, fun a e2 => ?_⟩
      cases e2
      exact ⟨o, e, ex.2.1⟩
    · obtain ⟨o, _, _, _, e, ex, _⟩ := I.hok p _ hk
      refine ⟨⟨o, e, ex.1⟩, fun a e2 => ?_⟩
      cases e2
      exact ⟨o, e, ex.2.1⟩
  | _ => exact False.elim ty
noncomputable def tBM (K : W.Frag) (T : String) (r : V → List V → Hp → VK → Prop) (to : TE) (t : TA) : TE := fun σ H Q => to σ H fun x H1 => tyV K T x H1 ∧ t σ H1 fun xs H2 => r x xs H2 Q
variable {o e : Expr} {es : List Expr} {to : TE} {t : TA} {name : Str} {apos cpos : Pos} {T id : String} {r : V → List V → Hp → VK → Prop}
theorem pe_bm (pa : PlainAttrs T) (slot : Slot T name id) (hty : typeOf (.builtin id) = pure (.type "method_descriptor")) (hm : MtR X id r) (ho : PE X o to) (ha : PA X (e :: es) t)
    (hbase : attributeBase o name X.env (eval o X.env) = eval o X.env := by rfl)
    (hfew : ((backTo cpos (starEach (e :: es) X.env)).all (fun x => !x.1) && (backToKw cpos (keywordEach [] X.env)).all (fun x => x.1.isSome)
      && decide ((e :: es).length + ([] : List Keyword).length + (if ([] : List Keyword).isEmpty then 0 else 1) < 30)) = true := by rfl)
    (hline : (apos.endLine == cpos.line) = true := by rfl) (hs : starEach (e :: es) X.env = (false, eval e X.env) :: starEach es X.env := by rfl) (hplain : (backTo cpos (starEach es X.env)).any (·.1) = false := by rfl) :
    PE X (.Call (.Attribute o name apos) (e :: es) [] cpos) (tBM X.K T r to t) := by
  intro pins s σ H Q I h
  refine wpAny_Call_method_late hbase hfew hline rfl (thn (ho pins s σ H _ I h) fun v s1 ⟨x, H1, I1, r1, ty, q1⟩ => ?_)
  obtain ⟨h1, h2⟩ := tyV_is I1 r1 ty
  refine ⟨T, id, pa, slot, hty, h1, h2, ?_⟩
  have hA := ha cpos pins s1 σ H1 _ I1 q1
  rw [hs] at hA ⊢
  refine Calls.callWith_builtin (by show (false || (backTo cpos (starEach es X.env)).any (·.1)) = false; rw [hplain] <;> rfl) (Calls.evalArgs_plain ?_)
  exact thn hA fun us s2 ⟨vs, H2, I2, r2, q2⟩ => hm pins s2 σ H2 x vs v us Q I2 r1 r2 q2
/- xs.append(e), list.index on a module's tuple .. are MtR facts of 06m -/
end
end L2
namespace L2
open PySem PySem.Spec PyProof.Rows
def MtM (X : Cx) (id : String) (r : V → List V → Hp → VK → Prop) : Prop :=
  ∀ (pins : List (Addr × Obj)) (s : Shared) (σ : St) (H : Hp) (x : V) (xs : List V) (v : Value) (us : List Value) (Q : VK), Inv X pins σ H s → RelV x v → Vals xs us → r x xs H Q →
    wpAny (model X.prog X.w) X.A (call (.builtin id) (v :: us)) (EP X pins σ Q) X.xe s
theorem Vals.one : ∀ {x : V} {us : List Value}, Vals [x] us → ∃ u, us = [u] ∧ RelV x u
  | _, _, .cons r .nil => ⟨_, rfl, r⟩
theorem Vals.two : ∀ {x y : V} {us : List Value}, Vals [x, y] us → ∃ u v, us = [u, v] ∧ RelV x u ∧ RelV y v
  | _, _, _, .cons r (.cons q .nil) => ⟨_, _, rfl, r, q⟩
theorem Vals.rep {xs : List V} {us : List Value} (h : Vals xs us) : ∀ k : Nat, Vals (List.replicate k xs).flatten (List.replicate k us).flatten
  | 0 => .nil
  | k + 1 => by
    rw [List.replicate_succ, List.replicate_succ, List.flatten_cons, List.flatten_cons]
    exact Vals.append h (Vals.rep h k)
theorem foldl_rep (its : List Value) : ∀ (k : Nat) (acc : List Value),
    List.foldl (fun x1 x2 => x1 ++ x2) acc.toArray (List.replicate k its.toArray) = (acc ++ (List.replicate k its).flatten).toArray
  | 0, acc => by simp
  | k + 1, acc => by
    have e : acc.toArray ++ its.toArray = (acc ++ its).toArray := by simp
    have e2 : (acc ++ its) ++ (List.replicate k its).flatten = acc ++ (List.replicate (k + 1) its).flatten := by
      rw [List.replicate_succ, List.flatten_cons, List.append_assoc]
    rw [← e2, ← foldl_rep its k (acc ++ its), ← e, List.replicate_succ, List.foldl_cons]
section
variable {X : Cx} {pins : List (Addr × Obj)} {σ : St} {H : Hp} {s : Shared} {l b : Addr} {xs ys zs : List V}
theorem Inv.lset {its its' : List Value} {n : Nat} {f : Array Value → Array Value} {t' : Nat} (I : Inv X pins σ H s) (hH : H l = some (.lst xs))
    (e : s.heap.get? l = some { cls := .type "list", data := .seq its.toArray n }) (hf : f its.toArray = its'.toArray) (hv : Vals ys its') (hz : ys.length ≤ sizeLine) :
    Inv X pins σ (upd H l (.lst ys)) { s with heap := s.heap.update l (Obj.mapSeq f), toks := t' } := by
  have q := PySem.IsL.update e f
  rw [hf] at q
  refine I.write (x := l) (e := l) (by rw [hH]; exact trivial) (.inl rfl) (fun b' u hb hu => (Heap.get?_update_other s.heap (Obj.mapSeq f) (Ne.symm hb)).trans hu) ⟨_, q⟩ ?_
  exact ⟨hz, its', _, hv, q⟩
theorem Inv.lnew {its : List Value} {t' : Nat} (I : Inv X pins σ H s) (hv : Vals ys its) (hz : ys.length ≤ sizeLine) :
    Inv X pins σ (upd H s.heap.objs.size (.lst ys)) { s with heap := s.heap.push { cls := .type "list", data := .seq its.toArray }, toks := t' } :=
  I.laid (fun _ _ q => Heap.get?_push_of_some _ q) (Nat.le_refl _) ⟨hz, its, 0, hv, Heap.get?_push_size _ rfl⟩
theorem Inv.fresh (I : Inv X pins σ H s) : H s.heap.objs.size = none := I.hok.fresh (Nat.le_refl _)
theorem Inv.lstM (I : Inv X pins σ H s) (hH : H l = some (.lst xs)) : xs.length ≤ sizeLine ∧ ∃ (its : List Value) (n : Nat), Vals xs its ∧ xs.length = its.length ∧ s.heap.get? l = some { cls := .type "list", data := .seq its.toArray n } := by
  obtain ⟨z, its, n, r, e⟩ := I.hok l _ hH
  exact ⟨z, its, n, r, r.length, e⟩
theorem notLongL {n : Nat} (h : n ≤ sizeLine) : Builtin.List.listTooLong n = false := by
  unfold Builtin.List.listTooLong
  exact dff (by omega)
end
section
variable {X : Cx}
noncomputable def rAppend : V → List V → Hp → VK → Prop := fun x vs H Q => ∃ l xs y, x = .ref l ∧ vs = [y] ∧ H l = some (.lst xs) ∧ xs.length < sizeLine ∧ Q .non (upd H l (.lst (xs ++ [y])))
theorem mt_append : MtM X "list.append" rAppend := by
  intro pins s σ H x vs v us Q I rx rv h
  obtain ⟨l, xs, y, rfl, rfl, hH, hz, q⟩ := h
  cases rx
  obtain ⟨u, rfl, ru⟩ := rv.one
  obtain ⟨z, its, n, r, hl, e⟩ := I.lstM hH
  refine call_meets F.slot_list_append ⟨_, e, rfl⟩ F.entry_list_append (F.args_list_append_2 _ _) (PySem.list_append l its.toArray n u (by rw [List.size_toArray]; omega)) ⟨e, ?_⟩
  refine ⟨.non, _, I.lset (its' := its ++ [u]) hH e (by simp) (r.append (.cons ru .nil)) ?_, rfl, q⟩
  rw [List.length_append, List.length_singleton]
  omega
theorem len_rep {α : Type} (xs : List α) (k : Nat) : (List.replicate k xs).flatten.length = k * xs.length := by
  induction k with
  | zero => simp
  | succ k ih => rw [List.replicate_succ, List.flatten_cons, List.length_append, ih, Nat.succ_mul, Nat.add_comm]
end
section
variable {prog : Program} {w : World} {A : Around} {E : Value → Shared → Prop} {s : Shared}
set_option maxRecDepth 100000 in
end
section
variable {X : Cx}
end
end L2
namespace Att
open PySem PySem.W PySem.Calls PyProof.Rows
theorem ints_of_wellAll {P : Params} {h : Heap} : ∀ (ns : List Int) (vs : List Value), WellAll P h vs (ns.map WData.int) → IntsAre vs ns := by
  intro ns
  induction ns with
  | nil =>
    intro vs w
    rw [List.map_nil] at w
    cases w
    exact .nil
  | cons n ns ih =>
    intro vs w
    rw [List.map_cons] at w
    cases w with
    | cons a b =>
      cases a
      exact .cons _ _ (ih _ b)
theorem script_of {l : OpenLaw} {n : Nat} (hn : l.most = some n) {P : Params} {h : Heap} {args : List WData} {vals : List Value}
    (hpre : l.row.toRowW.claim.pre args = true) (hwl : WellAll P h vals args) :
    ∃ a vs ns, vals = [Value.ref a] ∧ args = [WData.list (ns.map WData.int)] ∧ h.get? a = some { cls := .type "list", data := .seq vs.toArray } ∧ IntsAre vs ns ∧ ns.length ≤ n := by
  have hsh : WShape.hasAll [] args [.list .int] = true := (pre_splitW hpre).1
  have hc : l.pre.holds [] { args := args } = true := (pre_splitW hpre).2
  obtain ⟨d, r, rfl, h1, h2⟩ := hasAllW_cons hsh
  obtain rfl := hasAllW_nil h2
  obtain ⟨xs, rfl, h3⟩ := hasW_list h1
  obtain ⟨ns, rfl⟩ := items_int h3
  have hlen : ns.length ≤ n := by
    unfold OpenLaw.pre at hc
    have h4 : (WTm.not (.lt (.lit (.int (n : Int))) (.len (.arg 0)))).holds [] { args := [.list (ns.map .int)] } = true := by
      have h4 := (holds_andW hc).1
      rw [hn] at h4
      exact h4
    have h5 := condW_of h4 (w_not (w_lt w_lit (w_len_list (w_arg rfl))))
    rw [List.length_map] at h5
    refine Nat.le_of_not_lt fun q => ?_
    have q' : (n : Int) < ((ns.length : Nat) : Int) := by omega
    first
      | (rw [dtt q'] at h5; exact absurd h5 (by decide))
      | (simp at h5; omega)
  cases hwl with
  | cons w1 w2 =>
    cases w2
    cases w1 with
    | list ho hall => exact ⟨_, _, ns, rfl, rfl, ho, ints_of_wellAll ns _ hall, hlen⟩
theorem post_true (l : OpenLaw) (args : List WData) : l.row.toRowW.claim.post args (.bool true) args = true :=
  postW_of (r := l.row.toRowW) (X := (true == true))
    (show WShape.has [] (.bool true) .bool = true by first | rfl | decide | simp [WShape.has, WShape.arms, WShape.armsAll])
    (show (WTm.eq .res (.lit (.bool true))).value [] { args := args, res := some (.bool true), after := args } = some (.bool (true == true)) from w_eq_bool (w_res rfl) w_lit) rfl
theorem attach_call {l : OpenLaw} {n : Nat} {q : Program} {loose : List Str} {XP : (Str → Option Value) → Heap → Prop} {YP : World → Heap → Prop} {d : DefRec}
    (hn : l.most = some n) (hdf : d.params.defaults = [])
    (call : ∀ (w : World) (s₀ s₁ : Shared) (mg mb : Str → Option Value) (fa : Addr) (o : Obj) (pm cd doc : Value) (a : Addr) (vs : List Value) (ns : List Int),
      Ground q loose [] XP w s₀ mg mb s₁.heap → YP w s₁.heap →
      s₁.heap.get? fa = some o → o.data = .func (docDef d.name d.params d.body d.scope pm cd doc) → s₁.heap.CodeRec cd d.name → mg d.name = some (.ref fa) →
      s₁.heap.get? a = some { cls := .type "list", data := .seq vs.toArray } → IntsAre vs ns → ns.length ≤ n → s₁.gens = #[] →
      codeAny (model l.prog w) callerA (.call (.ref fa) ⟨[.ref a], []⟩) (fun r s' => r = .ok (.ret (.bool true)) ∧ OldK s₁.heap s'.heap ∧ s'.os = s₁.os ∧ AllBare s'.gens) s₁) :
    WalkO q loose XP YP l.row.toRowW d [] (fun f vs => PySem.call f vs) := by
  intro w s₀ s₁ mg mb G Y fa o pm cd doc dV kV ho hd hcd hD hmg hg args vals as hpre hlay hrd hwl hlo
  obtain rfl : dV = .none := Dflts.none hD hdf
  obtain rfl : kV = .none := Dflts.noKw hD
  obtain ⟨a, vs, ns, rfl, rfl, hobj, hints, hlen⟩ := script_of hn hpre hwl
  refine enter_call (codeAny_mono (call w s₀ s₁ mg mb fa o pm cd doc a vs ns G Y ho (fd_plain hd) hcd hmg hobj hints hlen hg) fun r s' hq => ?_)
  obtain ⟨rfl, h2, h3, h4⟩ := hq
  exact ⟨.inl ⟨.bool true, .bool true, [], rfl, fun _ => rfl, .bool true, post_true l _, fun _ => ⟨List.Pairwise.nil, fun _ hm => (nomatch hm)⟩⟩, h2, h3, h4⟩
section
variable {prog : Program} {w : World} {A : Around} {E : Value → Shared → Prop} {s : Shared} {K : Frag}
end
end Att
namespace L2
open PySem PySem.Spec PyProof.Rows
theorem vals_ints : ∀ {vs : List Value} {ns : List Int}, IntsAre vs ns → Vals (ns.map V.int) vs
  | _, _, .nil => .nil
  | _, _, .cons n t h => .cons ⟨t, rfl⟩ (vals_ints h)
def Only (H : Hp) : Prop := ∀ b, H b = none ∨ ∃ o xs, H b = some (.frz o (.lst xs))
end L2
namespace L2
open PySem PySem.Spec PyProof.Rows
noncomputable abbrev KOf {K : W.Frag} {h : Heap} (_ : K.In h) : W.Frag := K
end L2
/- THE LAST THEOREM (shape; LID, My.* are yours):
   My.Adr: a structure of the addresses that your layer names (classes, functions); My.Txt K t: a structure (Prop) of the equations over K;
   My.txt_mk : {K} {implicit addresses ..} (e1 : nsIn K mainGlobals "law" = some (some (.ref f))) (e2 : K.lookup f = some ⟨oc, od, .func (fnOf "law" "law" params body scope dV kV doc pm an cdv ct), sl⟩) (e3 : codeIn K cdv "law" = true) .. : ∃ t, My.Txt K t
set_option maxRecDepth 100000 in
set_option maxHeartbeats 0 in
theorem PySem.Challenge.cw_LID_holds : PySem.Challenge.rw_LID.Holds := by
  w_on; o_law; k_head; (case hw => w_witness2)
  k_fill
  refine L2.walk_of (l := PySem.Challenge.rw_LID) (n := 63) (k := 40) (x := "script") (CX := fun w => ..) (sp := fun _ => My.sp_law) rfl (by decide) rfl ⟨rfl, by decide, by decide⟩ (fun w h Y => W.kIn_of Y) ?F ?S ?C
  case F =>
    intro w mg fa h KX G hmg
    have T : ∃ t, My.Txt (L2.KOf KX) t := by
      dsimp only [L2.KOf]                          -- K must stand as «<heap const> w.params» for k_is
      refine' My.txt_mk ?e1 ?e2 ?e3 ..
      (case e1 => W.k_is)                    -- in the order: a name -> its address -> its object -> its parts
      (case e2 => W.k_is)
      ..
    obtain ⟨t, T⟩ := T
    have e0 := hmg.symm.trans (W.mg_of KX G T.law)
    cases e0                                       -- fa is the law's own address
    exact ⟨_, fun s u => .of_eq rfl, fun base kb nb => My.law_fn T kb nb⟩     -- if «.of_eq rfl» comes too early: refine' ⟨_, ?b, fun base kb nb => My.law_fn T kb nb⟩; exact fun s u => .of_eq rfl
  case S => exact fun w H a ns hl hO hS => ..
  case C => exact ..
(the tactic k_is has no namespace: write k_is) -/
namespace L2
open PySem PySem.Spec PyProof.Rows
noncomputable def defArgs (s : Stmt) : Arguments := match s with
  | .FunctionDef _ a _ _ _ _ _ _ _ _ => a
  | _ => { posonlyargs := [], args := [], vararg := none, kwonlyargs := [], kw_defaults := [], kwarg := none, defaults := [] }
noncomputable def defBody (s : Stmt) : List Stmt := match s with
  | .FunctionDef _ _ b _ _ _ _ _ _ _ => b
  | _ => []
noncomputable def defScope (s : Stmt) : Scope := match s with
  | .FunctionDef _ _ _ _ _ _ sc _ _ _ => sc
  | _ => { kind := .function, names := [], isGenerator := false, isCoroutine := false }
noncomputable abbrev CX0 : CXT := fun _ _ _ _ _ _ => False
noncomputable abbrev E0 : XK := fun _ _ _ => False
theorem pass0 {X : Cx} : Passes CX0 X E0 := fun _ _ _ _ _ _ _ h => h.elim
structure Fun (K : W.Frag) (x qual : Str) (st : Stmt) (f : Addr) (fd : FuncData) : Prop where
  ex : ∃ (oc : Value) (od : Option Addr) (kV doc pm : Value) (an : Option Addr) (cdv ct : Value) (osl : Array (Option Value)),
    fd = W.fnOf x qual (defArgs st) (defBody st) (defScope st) .none kV doc pm an cdv ct ∧ K.lookup f = some ⟨oc, od, .func fd, osl⟩ ∧ W.codeIn K cdv qual = true
  kp : W.keepIn K (.ref f) = true
section
variable {P : Program} {w : World} {K : W.Frag} {mg : Str → Option Value} {base : Heap}
theorem Fun.ok {x qual : Str} {st : Stmt} {f : Addr} {fd : FuncData} {N ps : List Str} {k : Nat} {sp : Sp} (F : Fun K x qual st f fd) (S : FnScope N ps (defScope st)) (len : ∀ vs H Q E, sp vs H Q E → vs.length = ps.length)
    (hbody : ∀ (cdv : Value) (A : Around) (outer : List Env) (s : Shared) (H : Hp) (vs : List V) (Q : VK) (E : XK), Room k (A.deeper (envOfC qual (defScope st) s.heap.objs.size f cdv)) → sp vs H Q E →
      ∃ t, PSs (cxOf CX0 P w K mg base N qual (defScope st) f cdv A outer s H E).nox (defBody st) t ∧ t { nx := fun _ H' => Q .non H', rt := Q } (start N vs) H) : FnOk P w K mg base CX0 (k + 1) f fd ps sp := by
  obtain ⟨oc, od, kV, doc, pm, an, cdv, ct, osl, rfl, lk, hcd⟩ := F.ex
  refine fn_of lk hcd S len fun A outer s H vs Q E hr hsp => ?_
  obtain ⟨t, h, q⟩ := hbody cdv A outer s H vs Q E hr hsp
  exact ⟨t, h.nox, q⟩
theorem Fun.binds {x qual : Str} {st : Stmt} {f : Addr} {fd : FuncData} {ps : List Str} (F : Fun K x qual st f fd)
    (h : ∀ (kV doc pm : Value) (an : Option Addr) (cdv ct : Value) (us : List Value), us.length = ps.length → bindArgs (W.fnOf x qual (defArgs st) (defBody st) (defScope st) .none kV doc pm an cdv ct) ⟨us, []⟩ = pure (ps.zip us)) : Binds K fd ps [] := by
  obtain ⟨oc, od, kV, doc, pm, an, cdv, ct, osl, rfl, lk, hcd⟩ := F.ex
  exact .all (h kV doc pm an cdv ct)
theorem fun_mk {x qual : Str} {st : Stmt} {f : Addr} {oc : Value} {od an : Option Addr} {osl : Array (Option Value)} {kV doc pm cdv ct : Value} (l : K.lookup f = some ⟨oc, od, .func (W.fnOf x qual (defArgs st) (defBody st) (defScope st) .none kV doc pm an cdv ct), osl⟩)
    (c : W.codeIn K cdv qual = true) (k : W.keepIn K (.ref f) = true) : Fun K x qual st f (W.fnOf x qual (defArgs st) (defBody st) (defScope st) .none kV doc pm an cdv ct) := ⟨⟨oc, od, kV, doc, pm, an, cdv, ct, osl, rfl, l, c⟩, k⟩
end
section
variable {X : Cx}
end
theorem iteF {A B : Prop} (h : B) : if false = true then A else B := by
  rw [if_neg fnt]
  exact h
theorem iteT {A B : Prop} (h : A) : if true = true then A else B := by
  rw [if_pos rfl]
  exact h
def Same (H H' : Hp) : Prop := ∀ b o, H b = some o → H' b = some o
theorem Same.refl (H : Hp) : Same H H := fun _ _ h => h
theorem Same.trans {H H1 H2 : Hp} (a : Same H H1) (b : Same H1 H2) : Same H H2 := fun c o h => b c o (a c o h)
theorem Same.free {H H' : Hp} (e : Same H H') {l : Addr} (h : H' l = Option.none) : H l = Option.none := by
  cases q : H l with
  | none => rfl
  | some o =>
    rw [e l o q] at h
    cases h
end L2
end
noncomputable section
namespace LX
open PySem
inductive Fly (h : Heap) (e T : Addr) (cls fl : Value) : Prop where
  | mk (oe : Obj) (vs : Array Value) (oT : Obj) (ts : Array Value) : h.get? e = some oe → oe.cls = cls → oe.dict = none → oe.data = .fields vs → vs[1]? = some (.ref T) → T ≠ e → h.get? T = some oT → oT.data = .fields ts → ts[3]? = some fl → Fly h e T cls fl
inductive Made (h : Heap) (e : Addr) (cls : Value) : Prop where
  | mk (oe : Obj) (vs : Array Value) : h.get? e = some oe → oe.cls = cls → oe.dict = none → oe.data = .fields vs → vs[1]? = some .none → Made h e cls
structure Mv (fs : List Addr) (e T : Addr) (h h' : Heap) : Prop where
  keep : ∀ b o, h.get? b = some o → b ∉ fs → b ≠ e → b ≠ T → h'.get? b = some o
  slot : ∀ b o, h.get? b = some o → b ∈ fs → b ≠ e → b ≠ T → ∃ sl, h'.get? b = some { o with slots := sl }
  there : ∀ b o, h.get? b = some o → ∃ o', h'.get? b = some o'
theorem Mv.trans {fs : List Addr} {e T T' : Addr} {h h1 h2 : Heap} (a : Mv fs e T h h1) (b : Mv fs e T' h1 h2) (n : h.get? T' = none ∨ T' = T) : Mv fs e T h h2 where
  keep := fun c o q hf he ht => b.keep c o (a.keep c o q hf he ht) hf he (fun z => by
    rcases n with n | n
    · rw [z, n] at q; cases q
    · exact ht (z.trans n))
  slot := fun c o q hf he ht => by
    have hT : c ≠ T' := fun z => by
      rcases n with n | n
      · rw [z, n] at q; cases q
      · exact ht (z.trans n)
    obtain ⟨sl, q1⟩ := a.slot c o q hf he ht
    obtain ⟨sl2, q2⟩ := b.slot c _ q1 hf he hT
    exact ⟨sl2, q2⟩
  there := fun c o q => let ⟨_, q1⟩ := a.there c o q; b.there c _ q1
theorem dict_mapFields (f : Array Value → Array Value) (o : Obj) : (Obj.mapFields f o).dict = o.dict := by
  obtain ⟨c, d, dt, sl⟩ := o
  cases dt <;> rfl
theorem upd_there {h : Heap} {a : Addr} {f : Array Value → Array Value} {oa : Obj} {vs : Array Value} (ha : h.get? a = some oa) (hd : oa.data = .fields vs) : ∀ b o, h.get? b = some o → ∃ o', (h.update a (Obj.mapFields f)).get? b = some o' := fun b o q => by
  by_cases z : b = a
  · subst z
    exact ⟨_, Heap.get?_update_self _ ha (Obj.isFreed_of_fields (Obj.data_mapFields hd f))⟩
  · exact ⟨o, by rw [Heap.get?_update_other _ _ (Ne.symm z)]; exact q⟩
section
variable {M : Model} {A : Around} {E : Value → Shared → Prop} {s : Shared} {base : Heap} {env : Env} {outer : List Env} {L e T : Addr} {cls fl : Value}
theorem entry_ok {oe : Obj} {vs : Array Value} {head : Value} {hadNext : Bool} {Q : Unit → Shared → Prop}
    (hfr : A.frames = some (env :: outer)) (hl : s.heap.FunFrames base (env :: outer)) (hf : env.frame = some L)
    (he : s.heap.get? e = some oe) (hdc : oe.dict = none) (hd : oe.data = .fields vs) (hsz : 1 < vs.size)
    (h : ∀ h' T', s.heap.get? T' = none → Fly h' e T' oe.cls (rawInt L) → Mv ((env :: outer).filterMap (·.frame)) e e s.heap h' → Q () { s with heap := h' }) :
    wpAny M A (do let a ← frameOf env; let pl ← entryPlaceOf L hadNext; let b ← EntryCells.newEntry head a .none (rawInt L) .none pl; setField (.ref e) 1 b) Q E s := by
  have hene : e ∉ (env :: outer).filterMap (·.frame) := fun hm => by
    obtain ⟨_, o, ho, hnf⟩ := hl.mem hm
    rw [he] at ho
    cases ho
    exact hnf vs hd
  refine wpAny_bind (wpAny_frameOf_fun hfr hl hf fun h1 s1 => ?_)
  refine wpAny_bind (wpAny_entryPlaceOf fun pl hpl => ?_)
  unfold EntryCells.newEntry newFields
  refine wpAny_bind (wpAny_newObj_type ?_ (hpl.sizeOk5 _ _ _ _ _))
  have e1 : h1.get? e = some oe := (s1.2.1 e hene).trans he
  have e2 := Heap.get?_push_of_some (h := h1) { cls := .type "traceback", dict := none, data := .fields ([head, .ref L, .none, rawInt L, .none] ++ (if pl.isEmpty then List.replicate 6 Value.none else pl)).toArray } e1
  refine wpAny_setField e2 hd hsz (h _ h1.objs.size (Heap.get?_none_of_le (by rw [s1.1]; exact Nat.le_refl _)) ?_ ?_)
  · have d3 := Obj.data_mapFields hd (·.setIfInBounds 1 (Value.ref h1.objs.size))
    have ne : h1.objs.size ≠ e := Nat.ne_of_gt (Heap.lt_size e1)
    have e3 := Heap.get?_update_self (Obj.mapFields (·.setIfInBounds 1 (Value.ref h1.objs.size))) e2 (Obj.isFreed_of_fields d3)
    refine ⟨_, _, _, _, e3, Obj.cls_mapFields _ _, (dict_mapFields _ _).trans hdc, d3, by simp [hsz], ne, (Heap.get?_update_other _ _ (Ne.symm ne)).trans (Heap.get?_push_size h1 rfl), rfl, ?_⟩
    first
      | (simp; done)
      | (rcases hpl with rfl | ⟨_, _, _, _, _, _, _, rfl⟩ <;> simp)
  · refine ⟨fun b o q hb ne _ => ?_, fun b o q hb ne _ => ?_, fun b o q => ?_⟩
    · rw [Heap.get?_update_other _ _ (Ne.symm ne)]
      exact Heap.get?_push_of_some _ ((s1.2.1 b hb).trans q)
    · obtain ⟨sl, q1⟩ := s1.2.2 b o q
      exact ⟨sl, by rw [Heap.get?_update_other _ _ (Ne.symm ne)]; exact Heap.get?_push_of_some _ q1⟩
    · obtain ⟨sl, q1⟩ := s1.2.2 b o q
      exact upd_there e2 hd b _ (Heap.get?_push_of_some _ q1)
theorem note_new {Q : Unit → Shared → Prop} (hfr : A.frames = some (env :: outer)) (hl : s.heap.FunFrames base (env :: outer)) (hf : env.frame = some L) (x : Made s.heap e cls)
    (h : ∀ h' T', s.heap.get? T' = none → Fly h' e T' cls (rawInt L) → Mv ((env :: outer).filterMap (·.frame)) e e s.heap h' → Q () { s with heap := h' }) : wpAny M A (noteFrame (.ref e) env) Q E s := by
  obtain ⟨oe, vs, he, rfl, hdc, hd, h1⟩ := x
  unfold noteFrame
  simp only [hf]
  refine wpAny_bind (wpAny_field he hd h1 ?_)
  rw [if_neg (by decide)]
  exact entry_ok hfr hl hf he hdc hd (Array.getElem?_eq_some_iff.mp h1).1 h
theorem note_on {Q : Unit → Shared → Prop} (hfr : A.frames = some (env :: outer)) (hl : s.heap.FunFrames base (env :: outer)) (hf : env.frame = some L) (x : Fly s.heap e T cls .none)
    (h : ∀ h' T', s.heap.get? T' = none → Fly h' e T' cls (rawInt L) → Mv ((env :: outer).filterMap (·.frame)) e T s.heap h' → Q () { s with heap := h' }) : wpAny M A (noteFrame (.ref e) env) Q E s := by
  obtain ⟨oe, vs, oT, ts, he, rfl, hdc, hd, h1, hTe, hT, hdT, h3⟩ := x
  unfold noteFrame
  simp only [hf]
  refine wpAny_bind (wpAny_field he hd h1 ?_)
  rw [if_pos (show (Value.ref T != Value.none) = true by simp)]
  refine wpAny_bind (wpAny_field hT hdT h3 ?_)
  rw [if_neg (show ¬ ((Value.none == rawInt L) = true) by simp [rawInt])]
  refine wpAny_bind (wpAny_setField hT hdT (Array.getElem?_eq_some_iff.mp h3).1 ?_)
  have ot : ∀ b, b ≠ T → (s.heap.update T (Obj.mapFields (·.setIfInBounds 3 Value.none))).get? b = s.heap.get? b := fun b hb => Heap.get?_update_other _ _ (Ne.symm hb)
  have nr : ∀ b o, s.heap.get? b = some o → (∀ vs, o.data ≠ .fields vs) → b ≠ T := fun b o hb hnf q => by
    rw [q, hT] at hb; cases hb; exact hnf ts hdT
  have th := upd_there (f := (·.setIfInBounds 3 Value.none)) hT hdT
  have fsT : ∀ b ∈ (env :: outer).filterMap (·.frame), b ≠ T := fun b hb => by
    obtain ⟨_, o, ho, hnf⟩ := hl.mem hb
    exact nr b o ho hnf
  refine entry_ok (s := { s with heap := s.heap.update T (Obj.mapFields (·.setIfInBounds 3 Value.none)) }) hfr (hl.of_keeps fun b o hb hnf => ⟨o, (ot b (nr b o hb hnf)).trans hb, rfl⟩) hf ((ot e (Ne.symm hTe)).trans he) hdc hd (Array.getElem?_eq_some_iff.mp h1).1 fun h' T' n f m => ?_
  have nT : s.heap.get? T' = none := by
    cases q : s.heap.get? T' with
    | none => rfl
    | some o => obtain ⟨o', q'⟩ := th T' o q; exact absurd (q'.symm.trans n) (by simp)
  refine h h' T' nT f ⟨fun b o q hb ne nt => m.keep b o ((ot b nt).trans q) hb ne ne, fun b o q hb ne nt => m.slot b o ((ot b nt).trans q) hb ne ne, fun b o q => ?_⟩
  obtain ⟨o', q'⟩ := th b o q
  exact m.there b o' q'
theorem land {Q : Unit → Shared → Prop} {fs : List Addr} (x : Fly s.heap e T cls fl) (h : ∀ h', Fly h' e T cls .none → Mv fs e T s.heap h' → Q () { s with heap := h' }) : wpAny M A (setFlight (.ref e) none) Q E s := by
  obtain ⟨oe, vs, oT, ts, he, rfl, hdc, hd, h1, hTe, hT, hdT, h3⟩ := x
  have sz : 3 < ts.size := (Array.getElem?_eq_some_iff.mp h3).1
  unfold setFlight
  refine wpAny_bind (wpAny_field he hd h1 ?_)
  rw [if_pos (show (Value.ref T != Value.none) = true by simp)]
  have dT := Obj.data_mapFields hdT (·.setIfInBounds 3 ((none : Option Addr).elim Value.none fun f => rawInt f))
  refine wpAny_setField hT hdT sz (h _ ⟨oe, vs, _, _, ?_, rfl, hdc, hd, h1, hTe, Heap.get?_update_self _ hT (Obj.isFreed_of_fields dT), dT, by simp [sz]⟩ ⟨fun b o q _ _ nt => ?_, fun b o q _ _ nt => ⟨o.slots, ?_⟩, upd_there hT hdT⟩)
  · rw [Heap.get?_update_other _ _ hTe]; exact he
  · rw [Heap.get?_update_other _ _ (Ne.symm nt)]; exact q
  · rw [Heap.get?_update_other _ _ (Ne.symm nt)]; exact q
theorem leave_new {Q : Unit → Shared → Prop} (hfr : A.frames = some (env :: outer)) (hl : s.heap.FunFrames base (env :: outer)) (hf : env.frame = some L) (x : Made s.heap e cls)
    (h : ∀ h' T', s.heap.get? T' = none → Fly h' e T' cls .none → Mv ((env :: outer).filterMap (·.frame)) e e s.heap h' → Q () { s with heap := h' }) : wpAny M A (leaving env (.ref e)) Q E s := by
  unfold leaving
  refine wpAny_bind (note_new hfr hl hf x fun h1 T' n f m => land (fs := (env :: outer).filterMap (·.frame)) (s := { s with heap := h1 }) f fun h2 f2 m2 => h h2 T' n f2 (m.trans m2 (.inl n)))
theorem leave_on {Q : Unit → Shared → Prop} (hfr : A.frames = some (env :: outer)) (hl : s.heap.FunFrames base (env :: outer)) (hf : env.frame = some L) (x : Fly s.heap e T cls .none)
    (h : ∀ h' T', s.heap.get? T' = none → Fly h' e T' cls .none → Mv ((env :: outer).filterMap (·.frame)) e T s.heap h' → Q () { s with heap := h' }) : wpAny M A (leaving env (.ref e)) Q E s := by
  unfold leaving
  refine wpAny_bind (note_on hfr hl hf x fun h1 T' n f m => land (fs := (env :: outer).filterMap (·.frame)) (s := { s with heap := h1 }) f fun h2 f2 m2 => h h2 T' n f2 (m.trans m2 (.inl n)))
end
end LX
end
noncomputable section
namespace L2
open PySem PySem.Spec PyProof.Rows LX
inductive XEnd (P : Program) (w : World) (outer : List Env) (H : Hp) (s : Shared) (E : XK) (e : Value) (s' : Shared) : Prop where
  | mk (a T : Addr) (cls : Value) (H' : Hp) : e = .ref a → s.heap.get? a = none → s.heap.get? T = none → H' a = none → H' T = none → Fly s'.heap a T cls .none → s'.os = s.os → AllBare s'.gens → Un (frs outer) [] H H' s.heap s'.heap → HOk P w H' s'.heap → E cls none H' → XEnd P w outer H s E e s'
noncomputable def CXE (P : Program) (w : World) : CXT := XEnd P w
section
variable {P : Program} {w : World} {fs fs' : List Addr} {H H₀ H' : Hp} {h h₀ h' : Heap} {e T a : Addr} {o : HO}
theorem hok_mv (x : HOk P w H h) (m : Mv fs e T h h') (hf : ∀ b ∈ fs, H b = none) (he : H e = none) (hT : H T = none) : HOk P w H h' := fun a o q =>
  (x a o q).stay (fun b u hb z => by
    have hn : H b ≠ none := by
      rcases hb with rfl | hb
      · rw [q]; simp
      · rw [hb]; simp
    exact m.keep b u z (fun k => hn (hf b k)) (fun k => hn (k ▸ he)) (fun k => hn (k ▸ hT))) (fun _ q => q) fun _ _ q => q
theorem un_mv (u : Un fs [] H₀ H h₀ h) (m : Mv fs' e T h h') (sub : ∀ b ∈ fs, b ∈ fs') (only : ∀ b ∈ fs', ∀ o, h₀.get? b = some o → b ∈ fs) (he : h₀.get? e = none) (hT : h₀.get? T = none) : Un fs [] H₀ H h₀ h' := by
  have ne : ∀ b o, h₀.get? b = some o → b ≠ e ∧ b ≠ T := fun b o q => ⟨fun z => (by rw [z, he] at q; cases q), fun z => (by rw [z, hT] at q; cases q)⟩
  refine ⟨fun b o q n hb hx => m.keep b o (u.keep b o q n hb hx) (fun z => hb (only b z o q)) (ne b o q).1 (ne b o q).2, fun b o q n hb hx => ?_, u.free, fun b o q hx => ?_, u.tups, u.frzs, u.tbls⟩
  · obtain ⟨sl, q1⟩ := u.slot b o q n hb hx
    obtain ⟨sl2, q2⟩ := m.slot b _ q1 (sub b hb) (ne b o q).1 (ne b o q).2
    exact ⟨sl2, q2⟩
  · obtain ⟨o', q1⟩ := u.there b o q hx
    exact m.there b o' q1
theorem ObjOk.there (x : ObjOk P w H h a o) : ∃ u, h.get? a = some u := by
  cases o with
  | lst xs => obtain ⟨_, _, _, _, e⟩ := x; exact ⟨_, e⟩
  | tup xs => obtain ⟨_, _, _, ob, e, _⟩ := x; exact ⟨_, e⟩
  | dK kvs => obtain ⟨_, _, _, _, o, _, _, e, _⟩ := x; exact ⟨_, e⟩
  | dT kvs => obtain ⟨_, _, _, _, o, _, _, e, _⟩ := x; exact ⟨_, e⟩
  | set S n => obtain ⟨o, _, _, _, e, _⟩ := x; exact ⟨_, e⟩
  | ins C dx fs => obtain ⟨_, _, _, e, _⟩ := x; exact ⟨_, e⟩
  | own y => exact x
  | xd fs => obtain ⟨_, ⟨od, _, _, e, _⟩, _⟩ := x; exact ⟨_, e⟩
  | rng lo hi => obtain ⟨_, _, _, e⟩ := x; exact ⟨_, e⟩
  | frz ob u => exact ⟨_, x.1⟩
  | tbl ps => exact ⟨_, x⟩
  | met f y => exact ⟨_, x⟩
  | ext φ => exact x.2.1
theorem HOk.none (x : HOk P w H h) (n : h.get? a = none) : H a = none := by
  cases q : H a with
  | none => rfl
  | some o => obtain ⟨u, z⟩ := (x a o q).there; rw [n] at z; cases z
end
structure XOut (X : Cx) (E : XK) : Prop where
  ex : X.ex = []
  stk : X.stack = X.env :: X.outer
  fr : X.env.frame = some X.env.locals
  xe : ∀ e s', wpAny (model X.prog X.w) X.A (leaving X.env e) (fun _ s'' => CXE X.prog X.w X.outer X.H₀ X.s₀ E e s'') (fun e' s'' => CXE X.prog X.w X.outer X.H₀ X.s₀ E e' s'') s' → X.xe e s'
theorem XOut.of {P : Program} {w : World} {K : W.Frag} {mg : Str → Option Value} {base : Heap} {N : List Str} {qual : Str} {scope : Scope} {f : Addr} {cd : Value} {A : Around} {outer : List Env} {s : Shared} {H : Hp} {E : XK} :
    XOut (cxOf (CXE P w) P w K mg base N qual scope f cd A outer s H E) E := ⟨rfl, rfl, rfl, fun _ _ h => h⟩
section
variable {X : Cx} {E : XK} {pins : List (Addr × Obj)} {σ : St} {H H' : Hp} {s s' : Shared} {e T : Addr} {cls : Value}
theorem Inv.s0none (I : Inv X pins σ H s) (x : X.ex = []) {b : Addr} (n : s.heap.get? b = none) : X.s₀.heap.get? b = none := by
  cases q : X.s₀.heap.get? b with
  | none => rfl
  | some o => obtain ⟨o', z⟩ := I.base.there b o q (by rw [x]; simp); rw [n] at z; cases z
theorem leave_end (O : XOut X E) (J : Inv X pins σ H s) {h' : Heap} {e T T' : Addr} (m : Mv (frs X.stack) e T s.heap h') (f : Fly h' e T' cls .none) (e0 : X.s₀.heap.get? e = none) (t0 : X.s₀.heap.get? T = none) (t1 : X.s₀.heap.get? T' = none)
    (he : H e = none) (hT : H T = none) (hT' : H T' = none) (hE : E cls none H) : CXE X.prog X.w X.outer X.H₀ X.s₀ E (.ref e) { s with heap := h' } := by
  have u : Un X.fs [] X.H₀ H X.s₀.heap s.heap := by have := J.base; rw [O.ex] at this; exact this
  refine ⟨e, T', cls, H, rfl, e0, t1, he, hT', f, J.os, J.bare, un_mv u m (fun b hb => ?_) (fun b hb o q => ?_) e0 t0, hok_mv J.hok m J.stkFree he hT, hE⟩
  · rw [O.stk]
    unfold frs
    rw [List.filterMap_cons, O.fr]
    exact List.mem_cons_of_mem _ hb
  · rcases List.mem_cons.mp (J.stkSub b hb) with z | z
    · exact absurd (Nat.lt_of_lt_of_le (Heap.lt_size q) J.ok.above) (by rw [z]; exact Nat.lt_irrefl _)
    · exact z
theorem leave_made (O : XOut X E) (I : Inv X pins σ H s) {h' : Heap} (k : ∀ b o, s.heap.get? b = some o → h'.get? b = some o) (n : s.heap.get? e = none) (x : Made h' e cls) (hE : E cls none H) : X.xe (.ref e) { s with heap := h' } := by
  have J : Inv X pins σ H { s with heap := h' } := I.kept (t' := s.toks) k
  refine O.xe _ _ (leave_new (base := X.base) (L := X.env.locals) (outer := X.outer) (by rw [J.ok.frames, O.stk]) (by have := J.stack; rw [O.stk] at this; exact this) O.fr x fun h2 T' nT f m => ?_)
  have m' : Mv (frs X.stack) e e h' h2 := by rw [O.stk]; exact m
  exact leave_end O J m' f (I.s0none O.ex n) (I.s0none O.ex n) (J.s0none O.ex nT) (I.hok.none n) (I.hok.none n) (J.hok.none nT) hE
theorem passes (O : XOut X E) : Passes (CXE X.prog X.w) X E := fun pins σ H s e s' I h => by
  obtain ⟨a, T, cls, H', rfl, na, nT, ha, hT, fl, os, bare, un, hok, hE⟩ := h
  have J : Inv X pins σ H' s' := I.call' os un hok bare (ch := []) (fun b z => absurd z (by simp))
  refine O.xe _ _ (leave_on (base := X.base) (L := X.env.locals) (outer := X.outer) (by rw [J.ok.frames, O.stk]) (by have := J.stack; rw [O.stk] at this; exact this) O.fr fl fun h2 T' nT' f m => ?_)
  have m' : Mv (frs X.stack) a T s'.heap h2 := by rw [O.stk]; exact m
  exact leave_end O J m' f (I.s0none O.ex na) (I.s0none O.ex nT) (J.s0none O.ex nT') ha hT (J.hok.none nT') hE
end
section
variable {X : Cx} {E : XK} {x : Str} {C : Addr} {bm : List Value} {newId B initId : String} {e₀ : Expr} {rest : List Expr} {t : TA} {np cpos pos : Pos}
theorem ps_raise (O : XOut X E) (hc : X.calm = true) (G : OwnCls x C bm newId X.mg X.base) (FB : ExcBaseFacts B newId initId bm) (hg : Gl X x) (ha : PA X (e₀ :: rest) t)
    (he : starEach (e₀ :: rest) X.env = (false, eval e₀ X.env) :: starEach rest X.env := by rfl) (hpl : (backTo cpos (starEach rest X.env)).any (·.1) = false := by rfl) (hdb : (x == ("__debug__" : Str)) = false := by decide) :
    PS X (.Raise (some (.Call (.Name x np) (e₀ :: rest) [] cpos)) none pos) (fun _ σ H => t σ H fun vs H1 => vs.length ≤ sizeLine ∧ E (.ref C) none H1) := by
  intro pins s σ H D I h
  obtain ⟨tl, N, nm, q, bs, hdct, sn, sub, ab, col, dd, k0, k1, k2, k3, k5, mN, hC, hN, hni, T⟩ := G.obj
  refine wpAny_Raise_call_subT (C := C) (nm := nm) (q := q) (N := N) (bs := bs) (bm := tl) (hdct := hdct) (sn := sn) (sub := sub) (ab := ab) (col := col) (dd := dd) (k0 := k0) (k1 := k1) (k2 := k2) (k3 := k3) (k5 := k5)
    FB (mN := mN) (T.hasType FB.hasBase) (I.ok.hd hc) (by rw [he]; show (false || (backTo cpos (starEach rest X.env)).any (·.1)) = false; rw [hpl]; rfl) hni (ld_glob I hg G.bound ⟨rfl, ?_⟩ hdb)
  have h' := ha cpos pins s σ H _ I h
  rw [he] at h' ⊢
  refine Calls.evalArgs_plain (wpAny_mono h' (fun us s2 ⟨vs, H2, I2, r, z, q⟩ => ⟨rfl, by rw [← r.length]; exact z, I2.bk _ _ hC, hN.keeps I2.bk, T.keeps I2.bk, fun h' e m => ?_⟩) fun _ _ y => y)
  obtain ⟨t0, ht, _⟩ := m.there
  exact leave_made O I2 m.keeps m.new ⟨_, _, ht, rfl, rfl, rfl, rfl⟩ q
end
section
variable {X : Cx} {pins : List (Addr × Obj)} {σ : St} {H : Hp} {s : Shared} {e T : Addr} {h' : Heap}
theorem Inv.moved (J : Inv X pins σ H s) (x : X.ex = []) {fs : List Addr} (hfs : ∀ b ∈ fs, b ∈ frs X.stack) (m : Mv fs e T s.heap h') (e0 : X.s₀.heap.get? e = none) (t0 : X.s₀.heap.get? T = none) (he : H e = none) (hT : H T = none)
    (fe : ∃ o vs, s.heap.get? e = some o ∧ o.data = .fields vs) (fT : ∃ o vs, s.heap.get? T = some o ∧ o.data = .fields vs) (pe : ∀ p ∈ X.pn ++ pins, p.1 ≠ e ∧ p.1 ≠ T) : Inv X pins σ H { s with heap := h' } := by
  have nf : ∀ b o, s.heap.get? b = some o → (∀ vs, o.data ≠ .fields vs) → b ≠ e ∧ b ≠ T := fun b o q hn => by
    obtain ⟨oe, ve, q1, d1⟩ := fe
    obtain ⟨oT, vT, q2, d2⟩ := fT
    refine ⟨fun z => ?_, fun z => ?_⟩
    · rw [z, q1] at q; cases q; exact hn _ d1
    · rw [z, q2] at q; cases q; exact hn _ d2
  have go : ∀ b o, s.heap.get? b = some o → (∀ vs, o.data ≠ .fields vs) → ∃ sl, h'.get? b = some { o with slots := sl } := fun b o q hn => by
    obtain ⟨n1, n2⟩ := nf b o q hn
    by_cases hb : b ∈ fs
    · exact m.slot b o q hb n1 n2
    · exact ⟨o.slots, m.keep b o q hb n1 n2⟩
  have cellK : ∀ c v, s.heap.IsCell c v → h'.IsCell c v := fun c v ⟨o, ho, hd⟩ => by
    obtain ⟨sl, q⟩ := go c o ho (fun vs z => by rw [hd] at z; cases z)
    exact ⟨_, q, hd⟩
  have un : Un X.fs X.ex X.H₀ H X.s₀.heap h' := by
    have u := J.base
    rw [x] at u ⊢
    have ne : ∀ b o, X.s₀.heap.get? b = some o → b ≠ e ∧ b ≠ T := fun b o q => ⟨fun z => (by rw [z, e0] at q; cases q), fun z => (by rw [z, t0] at q; cases q)⟩
    have only : ∀ b ∈ fs, ∀ o, X.s₀.heap.get? b = some o → b ∈ X.fs := fun b hb o q => by
      rcases List.mem_cons.mp (J.stkSub b (hfs b hb)) with z | z
      · exact absurd (Nat.lt_of_lt_of_le (Heap.lt_size q) J.ok.above) (by rw [z]; exact Nat.lt_irrefl _)
      · exact z
    refine ⟨fun b o q n hb hx => m.keep b o (u.keep b o q n hb hx) (fun z => hb (only b z o q)) (ne b o q).1 (ne b o q).2, fun b o q n hb hx => ?_, u.free, fun b o q hx => ?_, u.tups, u.frzs, u.tbls⟩
    · obtain ⟨sl, q1⟩ := u.slot b o q n hb hx
      by_cases hb2 : b ∈ fs
      · obtain ⟨sl2, q2⟩ := m.slot b _ q1 hb2 (ne b o q).1 (ne b o q).2
        exact ⟨sl2, q2⟩
      · exact ⟨sl, m.keep b _ q1 hb2 (ne b o q).1 (ne b o q).2⟩
    · obtain ⟨o', q1⟩ := u.there b o q hx
      exact m.there b o' q1
  refine ⟨J.ok, J.os, J.bare, un, ?_, fun y c q => ?_, J.free, J.freeC, fun p hp => ?_, hok_mv J.hok m (fun b hb => J.stkFree b (hfs b hb)) he hT, J.len⟩
  · obtain ⟨mm, ⟨o, es, ep, ho, hd, r⟩, hl⟩ := J.loc
    obtain ⟨sl, q⟩ := go _ o ho (fun vs z => by rw [hd] at z; cases z)
    refine ⟨mm, ⟨_, es, ep, q, hd, r⟩, fun i y v h1 h2 h3 => ?_⟩
    obtain ⟨u, rv, l⟩ := hl i y v h1 h2 h3
    refine ⟨u, rv, ?_⟩
    rcases l with l | ⟨k, c, e1, z⟩
    · exact .inl l
    · exact .inr ⟨k, c, e1, cellK c _ z⟩
  · obtain ⟨v, z⟩ := J.cell y c q
    exact ⟨v, cellK c v z⟩
  · obtain ⟨q, n, ne, nfs, d⟩ := J.pin p hp
    refine ⟨m.keep p.1 p.2 q (fun z => ?_) (pe p hp).1 (pe p hp).2, n, ne, nfs, d⟩
    rcases List.mem_cons.mp (J.stkSub _ (hfs _ z)) with z | z
    · exact ne z
    · exact nfs z
theorem Inv.trackX (J : Inv X pins σ H s) (x : X.ex = []) {φ : Heap → Prop} (e0 : X.s₀.heap.get? e = none) (he : H e = none) (fe : ∃ o vs, s.heap.get? e = some o ∧ o.data = .fields vs) (pe : ∀ p ∈ X.pn ++ pins, p.1 ≠ e)
    (hφ : φ s.heap) (st : ∀ h1 h2 : Heap, φ h1 → (∀ o, h1.get? e = some o → h2.get? e = some o) → φ h2) : Inv X pins σ (upd H e (.ext φ)) s := by
  obtain ⟨oe, ve, q1, d1⟩ := fe
  have nf : ∀ b o, s.heap.get? b = some o → (∀ vs, o.data ≠ .fields vs) → b ≠ e := fun b o q hn z => by
    rw [z, q1] at q; cases q; exact hn _ d1
  have ne0 : ∀ b o, X.s₀.heap.get? b = some o → b ≠ e := fun b o q z => by rw [z, e0] at q; cases q
  have nH : ∀ {b o}, H b = some o → b ≠ e := fun q z => by rw [z, he] at q; cases q
  have u := J.base
  refine ⟨J.ok, J.os, J.bare, ⟨u.keep, u.slot, fun b o q n hx => ?_, u.there, fun b xs q => ?_, fun b o v q => ?_, fun b ps q => ?_⟩, J.loc, J.cell, ?_, fun y c q => ?_, fun p hp => ?_, fun a o q => ?_, J.len⟩
  · rw [upd_ne (ne0 b o q)]; exact u.free b o q n hx
  · have := u.tups b xs q; rw [upd_ne (nH this)]; exact this
  · have := u.frzs b o v q; rw [upd_ne (nH this)]; exact this
  · obtain ⟨more, z⟩ := u.tbls b ps q; exact ⟨more, by rw [upd_ne (nH z)]; exact z⟩
  · obtain ⟨mm, ⟨o, es, ep, ho, hd, r⟩, hl⟩ := J.loc
    rw [upd_ne (nf _ o ho (fun vs z => by rw [hd] at z; cases z))]; exact J.free
  · obtain ⟨v, o, ho, hd⟩ := J.cell y c q
    rw [upd_ne (nf _ o ho (fun vs z => by rw [hd] at z; cases z))]; exact J.freeC y c q
  · obtain ⟨q, n, ne, nfs, d⟩ := J.pin p hp
    exact ⟨q, by rw [upd_ne (pe p hp)]; exact n, ne, nfs, d⟩
  · by_cases z : a = e
    · subst z
      rw [upd_same] at q
      cases q
      exact ⟨hφ, ⟨_, q1⟩, st⟩
    · rw [upd_ne z] at q
      exact (J.hok a o q).stay (fun b u _ k => k) (fun b k => by rw [upd_ne (nH k)]; exact k) (fun b xs k => by rw [upd_ne (nH k)]; exact k)
end
noncomputable def Xh (X : Cx) (e : Addr) : Cx := { X with A := X.A.mark (some (.ref e)), calm := false, xe := fun _ _ => False }
def excAt (e : Addr) (cls : Value) (h : Heap) : Prop := ∃ o vs, h.get? e = some o ∧ o.cls = cls ∧ o.dict = none ∧ o.data = .fields vs
section
variable {X : Cx} {pins : List (Addr × Obj)} {σ : St} {H : Hp} {s : Shared} {e T : Addr} {cls fl : Value}
theorem Inv.inH (J : Inv X pins σ H s) : Inv (Xh X e) pins σ H s :=
  ⟨⟨J.ok.mod, J.ok.kind, J.ok.glob, J.ok.blt, J.ok.above, J.ok.inj, J.ok.has, J.ok.cab, (fun z => by cases z), J.ok.frames, J.ok.stk, J.ok.exf, J.ok.bs, J.ok.bsz, J.ok.noex, J.ok.exfs, J.ok.funs, J.ok.frf⟩, J.os, J.bare, J.base, J.loc, J.cell, J.free, J.freeC, J.pin, J.hok, J.len⟩
theorem Inv.forget {h' : Heap} {t' : Nat} {m' : Str → Option Value} {σ' : St} (ok : X.Ok) (J : Inv (Xh X e) pins σ H s) (hn : h'.Ns X.env.locals m') (k : Heap.SameBut X.env.locals s.heap h') (hl : σ'.length = σ.length) (hσ : ∀ (i : Nat) (v : V), σ'[i]? ≠ some (some v)) :
    Inv X pins σ' H { s with heap := h', toks := t' } := by
  have u : Un X.fs X.ex X.H₀ H X.s₀.heap s.heap := J.base
  have neL : ∀ b o, X.s₀.heap.get? b = some o → b ≠ X.env.locals := fun b o q => Nat.ne_of_lt (Nat.lt_of_lt_of_le (Heap.lt_size q) ok.above)
  refine ⟨ok, J.os, J.bare, ⟨fun b o q n hb hx => ?_, fun b o q n hb hx => ?_, u.free, fun b o q hx => ?_, u.tups, u.frzs, u.tbls⟩, ⟨m', hn, fun i x v _ z _ => absurd z (hσ i v)⟩, fun x c q => ?_, J.free, J.freeC, fun p hp => ?_, fun a o q => ?_, by rw [hl]; exact J.len⟩
  · exact (k.2 b (neL b o q)).trans (u.keep b o q n hb hx)
  · obtain ⟨sl, z⟩ := u.slot b o q n hb hx
    exact ⟨sl, (k.2 b (neL b o q)).trans z⟩
  · obtain ⟨o', z⟩ := u.there b o q hx
    exact ⟨o', (k.2 b (neL b o q)).trans z⟩
  · obtain ⟨v, o, ho, hd⟩ := J.cell x c q
    exact ⟨v, o, (k.2 c (J.cne x c q)).trans ho, hd⟩
  · obtain ⟨q, n, ne, nfs, d⟩ := J.pin p hp
    exact ⟨(k.2 _ ne).trans q, n, ne, nfs, d⟩
  · refine (J.hok a o q).stay (fun b v hb z => (k.2 b (fun w => ?_)).trans z) (fun _ z => z) fun _ _ z => z
    have hL : H b = none := by rw [w]; exact J.free
    rcases hb with hb | hb
    · rw [hb, q] at hL; cases hL
    · rw [hb] at hL; cases hL
theorem _root_.LX.Fly.fe {h : Heap} (x : Fly h e T cls fl) : (∃ o vs, h.get? e = some o ∧ o.data = .fields vs) ∧ (∃ o vs, h.get? T = some o ∧ o.data = .fields vs) ∧ excAt e cls h := by
  obtain ⟨oe, vs, oT, ts, he, hc, hdc, hd, h1, hTe, hT, hdT, h3⟩ := x
  exact ⟨⟨oe, vs, he, hd⟩, ⟨oT, ts, hT, hdT⟩, oe, vs, he, hc, hdc, hd⟩
theorem handle_ok {D : Ends} {n : Str} {i : Nat} {c : Str} {cv : Value} {cp hp : Pos} {b₀ : Stmt} {suite : List Stmt} {ts : TS} {xe : Value → Shared → Prop} (J : Inv X pins σ H s) (x : X.ex = []) (stk : X.stack = X.env :: X.outer) (fr : X.env.frame = some X.env.locals)
    (f0 : Fly s.heap e T cls .none) (e0 : X.s₀.heap.get? e = none) (t0 : X.s₀.heap.get? T = none) (he : H e = none) (hT : H T = none) (pe : ∀ p ∈ X.pn ++ pins, p.1 ≠ e ∧ p.1 ≠ T)
    (hN : X.N.Nodup) (hi : X.N[i]? = some n) (hloc : X.env.scope.names.lookup n = some .local) (hg : Gl X c) (hm : X.mg c = some cv) (hcb : (c == ("__debug__" : Str)) = false) (hx : W.exmOne X.K cls cv = some true)
    (hs : PSs (Xh X e) (b₀ :: suite) ts) (q : ts { nx := fun _ _ => False, rt := D.rt } (σ.set i (some (.ref e))) (upd H e (.ext (excAt e cls)))) :
    wpAny (model X.prog X.w) X.A (noteFrame (.ref e) X.env) (fun _ s₂ => wpAny (model X.prog X.w) X.A (setFlight (.ref e) none) (fun _ s₃ => wpAny (model X.prog X.w) X.A (handleBy (.ref e) X.env [.ExceptHandler (some (.Name c cp)) (some n) (b₀ :: suite) hp]) (SP X pins D) xe s₃) xe s₂) xe s := by
  have hfr : X.A.frames = some (X.env :: X.outer) := by rw [J.ok.frames, stk]
  have hL : X.Ok := J.ok
  have hstk : (X.env :: X.outer).filterMap (·.frame) = frs X.stack := by rw [stk]; rfl
  refine note_on (base := X.base) hfr (by have := J.stack; rw [stk] at this; exact this) fr f0 fun h1 T1 n1 f1 m1 => ?_
  rw [hstk] at m1
  have J1 := J.moved x (fun b hb => hb) m1 e0 t0 he hT f0.fe.1 f0.fe.2.1 pe
  have t10 : X.s₀.heap.get? T1 = none := J.s0none x n1
  have hT1 : H T1 = none := J.hok.none n1
  have pe1 : ∀ p ∈ X.pn ++ pins, p.1 ≠ e ∧ p.1 ≠ T1 := fun p hp => ⟨(pe p hp).1, fun z => by have := (J.pin p hp).1; rw [z, n1] at this; cases this⟩
  refine land (fs := []) (s := { s with heap := h1 }) f1 fun h2 f2 m2 => ?_
  have J2 := J1.moved x (fs := []) (fun b hb => absurd hb (by simp)) m2 e0 t10 he hT1 f1.fe.1 f1.fe.2.1 pe1
  refine wpAny_handleBy_cons (codeAny_handlers_test (ld_glob (X := Xh X e) J2.inH hg hm ?_ hcb)) (by intro z; cases z)
  obtain ⟨oe, _, ho, hc, _⟩ := f2.fe.2.2
  have lt : W.Looks (model X.prog X.w) h2 (typeOf (.ref e)) cls := hc ▸ (W.Looks.ld ho).andThen .now
  refine (W.exm_one J2.kIn lt hx).here (s := { s with heap := h2 }) ?_
  refine codeAny_handlers_suite_as ?_
  refine land (fs := []) (s := { s with heap := h2 }) f2 fun h3 f3 m3 => ?_
  have J3 := J2.moved x (fs := []) (fun b hb => absurd hb (by simp)) m3 e0 t10 he hT1 f2.fe.1 f2.fe.2.1 pe1
  refine store_ok2 (X := Xh X e) (v := .ref e) J3.inH hN hi (.inl hloc) rfl (fun s4 J4 k4 => ?_) (.inr hloc)
  obtain ⟨o3, w3, q3, d3⟩ := f3.fe.1
  obtain ⟨oe3, ve3, ho3, hc3⟩ := f3.fe.2.2
  obtain ⟨ka, ks, kk⟩ := k4
  have nka : e ≠ ka := fun z => by
    rcases kk with kk | kk
    · obtain ⟨mm, ⟨ol, es, ep, hol, hdl, _⟩, _⟩ := J3.loc
      have q4 : some ol = some o3 := by rw [← hol, ← show ka = X.env.locals from kk, ← z]; exact q3
      cases q4
      rw [d3] at hdl
      cases hdl
    · obtain ⟨vv, oc, hoc, hdc⟩ := J3.cell n ka kk
      have q4 : some oc = some o3 := by rw [← hoc, ← z]; exact q3
      cases q4
      rw [d3] at hdc
      cases hdc
  have g4 : ∀ o, h3.get? e = some o → s4.heap.get? e = some o := fun o z => (ks.2 e nka).trans z
  have J5 := J4.trackX (φ := excAt e cls) x e0 he ⟨o3, w3, g4 _ q3, d3⟩ (fun p hp => (pe p hp).1) ⟨oe3, ve3, g4 _ ho3, hc3⟩ (fun a b ⟨o, ve, z1, z2⟩ k => ⟨o, ve, k o z1, z2⟩)
  refine wpAny_mono (hs pins s4 _ _ _ J5 q) (fun f s5 h5 => ?_) (fun _ _ z => z.elim)
  cases f with
  | ret u =>
    obtain ⟨v, σ', H', J6, rv, qv⟩ := h5
    obtain ⟨mm, hn, _⟩ := J6.loc
    have kd : X.env.scope.kind = .function := hL.kind
    refine wpAny_nameGoes hloc hn (by rw [kd]; rfl) fun h7 m7 hn7 k7 => ?_
    exact ⟨v, List.replicate σ'.length none, H', J6.forget (t' := s5.toks + 1) hL hn7 k7 (by simp) (fun i v z => by
      rw [List.getElem?_replicate] at z
      split at z <;> cases z), rv, qv⟩
  | next => obtain ⟨_, _, _, z⟩ := h5; exact z.elim
  | brk => obtain ⟨_, _, _, z⟩ := h5; exact z.elim
  | cont => obtain ⟨_, _, _, z⟩ := h5; exact z.elim
end
end L2
end
noncomputable section
namespace L2
open PySem PySem.Spec PySem.W PyProof.Rows LX
structure XCls (K : W.Frag) (D : Addr) : Prop where
  ga : findIn K (.ref D) "__getattribute__" = some (some (.builtin "BaseException.__getattribute__"))
  gn : findIn K (.ref D) "__getattr__" = some none
  sb : subIn K (.ref D) (.type "BaseException") = some true
  hdct : hasDictIn K D = true
  ha : findIn K (.ref D) "__class__" = some (some (.builtin "object.__class__"))
  hn : specialIn K (.builtin "object.__class__") "__get__" = some (some (.builtin "getset_descriptor.__get__"))
  htk : takesIn K (.builtin "object.__class__") = some true
  hm : mroIn K D (.type "object") = some true
theorem excAt.inst {h : Heap} {e D : Addr} (x : excAt e (.ref D) h) : ∃ ox, InstAt h e ox D none := by
  obtain ⟨o, vs, h1, h2, h3, h4⟩ := x
  refine ⟨o, h1, h2, ?_, ?_⟩
  · obtain ⟨c, d, dt, sl⟩ := o
    cases h4
    rfl
  · rw [h3]
    trivial
theorem XCls.obj {K : W.Frag} {D : Addr} (c : XCls K D) : ∃ c1 d1 cd sl, K.lookup D = some ⟨c1, d1, .cls cd, sl⟩ ∧ clsIn K D = some cd := by
  obtain ⟨cd, h, _⟩ := any_some c.hdct
  have h' := h
  unfold clsIn at h'
  split at h'
  · rename_i a1 a2 a3 a4 e
    cases h'
    exact ⟨a1, a2, cd, a4, e, h⟩
  · cases h'
section
variable {prog : Program} {w : World} {A : Around} {E : Value → Shared → Prop} {s : Shared} {K : W.Frag} {x D : Addr} {ox : Obj} {tk : Tok}
theorem XCls.find (c : XCls K D) : findObj K D none "__class__" = some (.bind (.builtin "getset_descriptor.__get__") (.builtin "object.__class__")) := by
  obtain ⟨c1, d1, cd, sl1, e, ec⟩ := c.obj
  unfold findObj
  rw [ec, obs, c.ha, obs]
  simp [c.hn, c.htk]
theorem ga_class {Q : Fin → Shared → Prop} (X : K.In s.heap) (I : InstAt s.heap x ox D none) (c : XCls K D) (h : Q (.done (.ret (.ref D))) s) : wpAny (model prog w) A (Builtin.«object.__getattribute__» ⟨[.ref x, .str "__class__" tk], []⟩) Q E s := by
  obtain ⟨hh, g, d, t, os⟩ := s
  have L0 := I.type (M := model prog w)
  have L1 := looks_find (M := model prog w) X I c.find
  unfold Builtin.«object.__getattribute__»
  refine wpAny_bind (wpAny_pure (wpAny_bind (wpAny_pure (wpAny_bind (L0.at (wpAny_bind (L1.at ?_)))))))
  show wpAny _ _ (Builtin.ObjectAttr.bindTo _ _ _ _) _ _ _
  show wpAny _ _ (holding [.builtin "object.__class__"] (call (.builtin "getset_descriptor.__get__") [.builtin "object.__class__", .ref x, .ref D]) >>= ret) _ _ _
  refine wpAny_bind (wpAny_holding (wpAny_call (class_get (s := ⟨hh, g, d, t, os⟩) (ox := ox) (od := none) X I c.hm ?_)))
  exact wpAny_pure h
theorem check_class {M : Model} {nv : Value} {Q : Unit → Shared → Prop} (X : K.In s.heap) (I : InstAt s.heap x ox D none) (c : XCls K D) (h : Q () s) : wpAny M A (checkBuiltinCall "BaseException.__getattribute__" ⟨[.ref x, nv], []⟩) Q E s := by
  obtain ⟨hh, g, d, t, os⟩ := s
  have L0 := I.type (M := M)
  have L1 := looks_subIn (M := M) X c.sb
  have ha := F.args_bexc_ga (.ref x) nv
  have hk : builtinKind "BaseException.__getattribute__" = some .slot := by decide +kernel
  have hs : splitId "BaseException.__getattribute__" = some ("BaseException", "__getattribute__") := by decide +kernel
  simp only [checkBuiltinCall, hk, hs]
  refine wpAny_bind ((L0.andThen L1).at ?_)
  rw [if_neg (by decide)]
  exact wpAny_of_eq ha h
theorem class_of_exc {Q : Option Value → Shared → Prop} (X : K.In s.heap) (I : InstAt s.heap x ox D none) (c : XCls K D) (h : Q (some (.ref D)) { s with toks := s.toks + 1 }) : wpAny (model prog w) A (getAttr? (.ref x) "__class__") Q E s := by
  obtain ⟨hh, g, d, t, os⟩ := s
  have L0 := I.type (M := model prog w)
  have L1 := looks_findIn (M := model prog w) X c.ga
  have L2 := looks_findIn (M := model prog w) X c.gn
  unfold getAttr? getAttrBy? getAttrBy
  refine wpAny_bind (wpAny_mkText (wpAny_bind (wpAny_attempt (wpAny_holding (wpAny_bind (L0.at (wpAny_bind (L1.at ?_))))))))
  have hx : (Value.builtin "BaseException.__getattribute__" == Value.builtin "object.__getattribute__") = false := by decide +kernel
  dsimp only
  rw [if_neg (by rw [hx, Bool.and_false]; decide)]
  unfold getAttrByItsOwn hookBefore
  refine wpAny_bind ?_
  rw [if_pos (show onTheHeap (Value.ref D) = true from rfl)]
  refine L2.at ?_
  refine wpAny_bind (wpAny_attempt (wpAny_holding ?_))
  unfold callGetattribute boundAndCalled
  rw [if_neg (show ¬ ((false && onTheHeap (Value.builtin "BaseException.__getattribute__")) = true) by decide), F.attrBase_ValueError.ga.bind (.ref x)]
  refine wpAny_bind (wpAny_pure ?_)
  refine wpAny_call (codeAny_call_builtin F.attrBase_ValueError.ga.plain F.entry_bexc_ga (check_class (s := ⟨hh, g, d, t + 1, os⟩) X I c (ga_class (s := ⟨hh, g, d, t + 1, os⟩) X I c ?_)))
  exact handed_on rfl (wpAny_pure h)
end
theorem kitx_exc {K : W.Frag} {x D : Addr} {ox : Obj} (c : XCls K D) : KitX K (.ref x) (.ref D) (fun h => InstAt h x ox D none) := by
  obtain ⟨c1, d1, cd, sl1, e, ec⟩ := c.obj
  refine ⟨fun _ _ _ I => I.type, fun M h X _ A Q E s k q => ?_, fun h tp dd its n sl X htp => ?_, fun {prog w A E Q s} X I h => class_of_exc X I c h⟩
  · have e1 : s.heap.get? D = some ⟨c1, d1, .cls cd, sl1⟩ := k _ _ (X _ _ e)
    unfold isType loadHead
    refine wpAny_bind (wpAny_loadPart e1 ?_)
    exact wpAny_pure q
  · rw [beq_eq_false_iff_ne]
    intro z
    have e1 := X _ _ e
    rw [Value.ref.inj z, htp] at e1
    cases e1
section
variable {X : Cx} {pins : List (Addr × Obj)} {σ : L2.St} {H : Hp} {s : Shared} {A : Around} {E : Value → Shared → Prop} {Q : Value → Shared → Prop} {c : Value} {b : Bool}
theorem isinst_exc {a C : Addr} (I : Inv X pins σ H s) (c0 : XCls X.K C) (ha : H a = some (.ext (excAt a (.ref C)))) (e : kitOne X.K (.ref C) c = some b) (h : ∀ tk, Q (.bool b) { s with toks := tk }) :
    wpAny (model X.prog X.w) A (call (.builtin "isinstance") [.ref a, c]) Q E s := by
  obtain ⟨ox, J⟩ := (show ObjOk X.prog X.w H s.heap a (.ext (excAt a (.ref C))) from I.hok a _ ha).1.inst
  exact kia_one (kitx_exc c0) I.kIn J e (fun z => nomatch z) h
end
end L2
end
noncomputable section
namespace L2
open PySem
noncomputable def closL (env : Env) : List (Str × NameKind) → List (Str × Addr) → List (Str × Addr)
  | [], acc => acc
  | (n, k) :: r, acc => closL env r (if k == .free then (n, (env.cells.lookup n).getD 0) :: acc else acc)
theorem closureFor_some {scope : Scope} {env : Env} (h : ∀ n, (n, NameKind.free) ∈ scope.names → ∃ c, env.cells.lookup n = some c) : closureFor scope env = pure (closL env scope.names []) := by
  have go : ∀ (names : List (Str × NameKind)) (acc : List (Str × Addr)), (∀ n, (n, NameKind.free) ∈ names → ∃ c, env.cells.lookup n = some c) →
      (forIn names acc fun (x : Str × NameKind) (cs : List (Str × Addr)) => (match x with
        | (name, kind) => if (kind == NameKind.free) = true then do
            let c ← cellOf env name
            pure (ForInStep.yield ((name, c) :: cs))
          else pure (ForInStep.yield cs) : Sem (ForInStep (List (Str × Addr))))) = pure (closL env names acc) := by
    intro names
    induction names with
    | nil => intro acc _; rfl
    | cons x r ih =>
      intro acc hx
      obtain ⟨n, k⟩ := x
      rw [List.forIn_cons]
      cases hk : k == NameKind.free with
      | true =>
        have hk' : k = .free := by simpa using hk
        subst hk'
        obtain ⟨c, hc⟩ := hx n List.mem_cons_self
        have e : cellOf env n = pure c := by unfold cellOf; rw [hc]
        simp only [hk, if_true, e]
        have e2 : closL env ((n, NameKind.free) :: r) acc = closL env r ((n, c) :: acc) := by
          show closL env r (if (NameKind.free == NameKind.free) = true then (n, (env.cells.lookup n).getD 0) :: acc else acc) = _
          rw [if_pos (by decide), hc]; rfl
        rw [e2, ← ih ((n, c) :: acc) fun m hm => hx m (List.mem_cons_of_mem _ hm)]
        rfl
      | false =>
        simp only [hk, Bool.false_eq_true, if_false]
        have e2 : closL env ((n, k) :: r) acc = closL env r acc := by
          show closL env r (if (k == NameKind.free) = true then (n, (env.cells.lookup n).getD 0) :: acc else acc) = _
          rw [hk]; rfl
        rw [e2, ← ih acc fun m hm => hx m (List.mem_cons_of_mem _ hm)]
        rfl
  unfold closureFor
  have e := go scope.names [] h
  show (forIn scope.names [] _ >>= fun cs => pure cs) = _
  rw [e]
  rfl
theorem closL_lookup {env : Env} {y : Str} : ∀ (names : List (Str × NameKind)) (acc : List (Str × Addr)),
    (closL env names acc).lookup y = if (y, NameKind.free) ∈ names then some ((env.cells.lookup y).getD 0) else acc.lookup y := by
  intro names
  induction names with
  | nil => intro acc; simp [closL]
  | cons x r ih =>
    intro acc
    obtain ⟨n, k⟩ := x
    show (closL env r (if (k == NameKind.free) = true then (n, (env.cells.lookup n).getD 0) :: acc else acc)).lookup y = _
    rw [ih]
    by_cases h1 : (y, NameKind.free) ∈ r
    · rw [if_pos h1, if_pos (List.mem_cons_of_mem _ h1)]
    · rw [if_neg h1]
      by_cases hk : k = .free
      · subst hk
        rw [if_pos (by decide)]
        by_cases hy : y = n
        · subst hy
          rw [if_pos List.mem_cons_self]
          simp [List.lookup_cons]
        · have : (y == n) = false := by simpa using hy
          rw [List.lookup_cons, this]
          rw [if_neg]
          intro z
          rcases List.mem_cons.mp z with e | e
          · cases e; exact hy rfl
          · exact h1 e
      · have hk' : (k == NameKind.free) = false := by simpa using hk
        rw [hk']
        rw [if_neg (by decide), if_neg]
        intro z
        rcases List.mem_cons.mp z with e | e
        · cases e; exact hk rfl
        · exact h1 e
noncomputable def relab (env : Env) (names : List (Str × NameKind)) : List (Str × NameKind) := names.map fun (n, k) => if (k == NameKind.free && env.scope.kind == .function && env.kindOf n == some .cell) then (n, NameKind.cell) else (n, k)
theorem relab_free {env : Env} : ∀ {names : List (Str × NameKind)} {y : Str}, names.lookup y = some .free → (relab env names).lookup y = some .cell ∨ (relab env names).lookup y = some .free
  | [], _, h => by simp at h
  | (n, k) :: r, y, h => by
    show List.lookup y ((if (k == NameKind.free && env.scope.kind == .function && env.kindOf n == some .cell) = true then (n, NameKind.cell) else (n, k)) :: relab env r) = _ ∨ List.lookup y ((if (k == NameKind.free && env.scope.kind == .function && env.kindOf n == some .cell) = true then (n, NameKind.cell) else (n, k)) :: relab env r) = _
    cases hx : y == n with
    | true =>
      simp only [List.lookup_cons, hx] at h
      cases h
      by_cases hc : (NameKind.free == NameKind.free && env.scope.kind == .function && env.kindOf n == some .cell) = true
      · rw [if_pos hc]; left; simp only [List.lookup_cons, hx]
      · rw [if_neg hc]; right; simp only [List.lookup_cons, hx]
    | false =>
      simp only [List.lookup_cons, hx] at h
      by_cases hc : (k == NameKind.free && env.scope.kind == .function && env.kindOf n == some .cell) = true
      · rw [if_pos hc]; simp only [List.lookup_cons, hx]; exact relab_free h
      · rw [if_neg hc]; simp only [List.lookup_cons, hx]; exact relab_free h
theorem relab_back {env : Env} : ∀ {names : List (Str × NameKind)} {y : Str}, (∀ z ∈ names, z.2 ≠ .cell) → ((relab env names).lookup y = some .cell ∨ (relab env names).lookup y = some .free) → (y, NameKind.free) ∈ names
  | [], _, _, h => by rcases h with h | h <;> simp [relab] at h
  | (n, k) :: r, y, hn, h => by
    have ih := @relab_back env r y (fun z hz => hn z (List.mem_cons_of_mem _ hz))
    have hk : k ≠ .cell := hn (n, k) List.mem_cons_self
    have e : relab env ((n, k) :: r) = (if (k == NameKind.free && env.scope.kind == .function && env.kindOf n == some .cell) = true then (n, NameKind.cell) else (n, k)) :: relab env r := rfl
    rw [e] at h
    cases hx : y == n with
    | true =>
      have hy : y = n := by simpa using hx
      subst hy
      by_cases hc : (k == NameKind.free && env.scope.kind == .function && env.kindOf y == some .cell) = true
      · have : k = .free := by
          simp only [Bool.and_eq_true, beq_iff_eq] at hc
          exact hc.1.1
        rw [this]; exact List.mem_cons_self
      · rw [if_neg hc] at h
        simp only [List.lookup_cons, hx] at h
        rcases h with h | h
        · exact absurd (Option.some.inj h) hk
        · rw [Option.some.inj h]; exact List.mem_cons_self
    | false =>
      by_cases hc : (k == NameKind.free && env.scope.kind == .function && env.kindOf n == some .cell) = true
      · rw [if_pos hc] at h
        simp only [List.lookup_cons, hx] at h
        exact List.mem_cons_of_mem _ (ih h)
      · rw [if_neg hc] at h
        simp only [List.lookup_cons, hx] at h
        exact List.mem_cons_of_mem _ (ih h)
section
variable {prog : Program} {w : World} {A : Around} {R : Result → Shared → Prop} {s : Shared}
theorem compLoop_all {elt target iter : Expr} {ifs : List Expr} {scope : Scope} {pos : Pos} {it acc : Value} {env : Env} (I : Nat → Shared → Prop)
    (turn : ∀ n s, I n s → wpAny (model prog w) A (pyNext it) (fun r s₁ => match r with
      | none => R (.ok .next) s₁
      | some v => wpAny (model prog w) A (letOwnedTupleGo target it v) (fun _ s₀ => wpAny (model prog w) A (assign target env v) (fun _ s₂ =>
          wpAny (model prog w) A (forIn ifs true fun c r => if r = true then do let ok ← isTrue c env (eval c env); pure (ForInStep.yield ok) else pure (ForInStep.yield r)) (fun ok s₃ =>
            if ok = true then wpAny (model prog w) A (eval elt env) (fun x s₄ =>
              wpAny (model prog w) A (call (.builtin "list.append") [acc, x]) (fun _ s₅ => ∃ m, m < n ∧ I m s₅) (fun _ _ => False) s₄) (fun _ _ => False) s₃
            else ∃ m, m < n ∧ I m s₃) (fun _ _ => False) s₂) (fun _ _ => False) s₀) (fun _ _ => False) s₁) (fun _ _ => False) s)
    (n : Nat) (h : I n s) :
    codeAny (model prog w) A (.compLoop (.ListComp elt [⟨target, iter, ifs, 0⟩] scope pos) 0 it acc env) R s := by
  refine codeAny_loop rfl I (fun n s hI => ?_) n h
  show wpAny _ A ((compTurn (.ListComp elt [⟨target, iter, ifs, 0⟩] scope pos) 0 it acc env).onRaise (fun x => do noteFrame x env; theTreesLotGoes x)) _ _ s
  refine wpAny_noted ?_
  rw [compTurn_list]
  have no : ∀ (E : Value → Shared → Prop) (x : Value) (s' : Shared), False → E x s' := fun _ _ _ f => f.elim
  refine wpAny_bind (wpAny_standAt (wpAny_bind (wpAny_mono (turn n s hI) (fun r s₁ h₁ => ?_) (no _))))
  cases r with
  | none => exact wpAny_pure h₁
  | some v =>
    refine wpAny_bind (wpAny_mono h₁ (fun _ s₀ h₀ => ?_) (no _))
    refine wpAny_bind (wpAny_mono h₀ (fun _ s₂ h₂ => wpAny_bind (wpAny_mono h₂ (fun ok s₃ h₃ => ?_) (no _))) (no _))
    cases ok with
    | false => exact wpAny_pure ⟨rfl, h₃⟩
    | true =>
      exact wpAny_bind (wpAny_bind (wpAny_mono h₃ (fun x s₄ h₄ => wpAny_bind (wpAny_mono h₄ (fun _ s₅ h₅ => wpAny_pure (wpAny_pure ⟨rfl, h₅⟩)) (no _))) (no _)))
end
end L2
namespace L2
open PySem
end L2
namespace L2
open PySem PySem.Spec PyProof.Rows
structure CompScope (sc : Scope) (N : List Str) (scope : Scope) (x : Str) (fr : List Str) (is : List Nat) : Prop where
  kind : scope.kind = .function
  nocell : ∀ y ∈ scope.names, y.2 ≠ .cell
  names : ∀ y ∈ scope.names, y.2 = .local → scope.names.lookup y.1 = some .local
  var : scope.names.lookup x = some .local
  nd : (x :: fr).Nodup
  free : ∀ y ∈ scope.names, y.2 = .free → sc.names.lookup y.1 = some .cell ∨ sc.names.lookup y.1 = some .free
  look : ∀ n ∈ fr, scope.names.lookup n = some .free
  slots : (is.map fun k => N[k]?) = fr.map some
noncomputable def compCx (X : Cx) (scope : Scope) (N' : List Str) (C : Addr) (s : Shared) (H : Hp) (fp : List Addr) (pins : List (Addr × Obj)) : Cx where
  prog := X.prog
  w := X.w
  K := X.K
  mg := X.mg
  base := X.base
  A := X.A
  N := N'
  s₀ := s
  H₀ := H
  env := compEnvC scope (closL X.env scope.names []) C X.env
  outer := X.stack
  stack := X.stack
  ex := fp
  fn := fun _ => false
  calm := X.calm
  pn := X.pn ++ pins
  xe := fun _ _ => False
noncomputable def compSt (σ : St) (is : List Nat) (o : Option V) : St := o :: is.map fun k => (σ[k]?).join
section
variable {X : Cx} {pins : List (Addr × Obj)} {σ : St} {H : Hp} {s : Shared} {scope : Scope} {x : Str} {fr : List Str} {is : List Nat} {fp : List Addr}
theorem comp_cell (I : Inv X pins σ H s) (cs : CompScope X.env.scope X.N scope x fr is) {y : Str} {c : Addr} (h : (closL X.env scope.names []).lookup y = some c) : X.env.cells.lookup y = some c ∧ (y, NameKind.free) ∈ scope.names := by
  rw [closL_lookup] at h
  by_cases hy : (y, NameKind.free) ∈ scope.names
  · rw [if_pos hy] at h
    obtain ⟨d, hd⟩ := I.ok.has y (cs.free _ hy rfl)
    rw [hd] at h
    have e : d = c := Option.some.inj h
    exact ⟨by rw [hd, e], hy⟩
  · rw [if_neg hy] at h
    cases h
theorem comp_cell' (I : Inv X pins σ H s) (cs : CompScope X.env.scope X.N scope x fr is) {y : Str} (hy : (y, NameKind.free) ∈ scope.names) : ∃ c, X.env.cells.lookup y = some c ∧ (closL X.env scope.names []).lookup y = some c := by
  obtain ⟨d, hd⟩ := I.ok.has y (cs.free _ hy rfl)
  refine ⟨d, hd, ?_⟩
  rw [closL_lookup, if_pos hy, hd]
  rfl
theorem comp_start (I : Inv X pins σ H s) (cs : CompScope X.env.scope X.N scope x fr is) (hf : ∀ b ∈ fp, FpOk X pins H b) (hfp : ∀ b ∈ fp, ∃ o, s.heap.get? b = some o) {h' : Heap} {m : Str → Option Value} {t' : Nat} (hn : h'.Ns s.heap.objs.size m)
    (hk : ∀ b o, s.heap.get? b = some o → h'.get? b = some o) :
    Inv (compCx X scope (x :: fr) s.heap.objs.size s H fp pins) [] (compSt σ is none) H { s with heap := h', toks := t' } := by
  have lt : ∀ {b : Addr} {o : Obj}, s.heap.get? b = some o → b ≠ s.heap.objs.size := fun e => Nat.ne_of_lt (Heap.lt_size e)
  have nofs : ∀ {b : Addr}, b ≠ X.env.locals → b ∉ X.fs → b ∉ frs X.stack := fun h1 h2 hb => (List.mem_cons.mp (I.stkSub _ hb)).elim h1 h2
  refine ⟨⟨I.mod, cs.kind, I.ok.glob, I.ok.blt, Nat.le_refl _, fun y z c h1 h2 => ?_, fun y hy => ?_, fun y c h => ?_, I.ok.hd, I.ok.frames, .inl rfl, fun b hb => ?_, I.bs, Nat.le_trans I.ok.bsz I.sz, fun b o e hb => ?_, fun b hb => ?_, I.stack, I.stkFree⟩,
    rfl, I.bare, Un.kept hk, ⟨m, hn, fun i y v h1 h2 h3 => ?_⟩, fun y c h => ?_, I.hok.fresh (Nat.le_refl _), fun y c h => ?_, fun p hp => ?_, I.hok.kept hk, ?_⟩
  · exact I.ok.inj y z c (comp_cell I cs h1).1 (comp_cell I cs h2).1
  · obtain ⟨c, _, e⟩ := comp_cell' I cs (relab_back cs.nocell hy)
    exact ⟨c, e⟩
  · cases h
  · obtain ⟨o, e⟩ := hfp b hb
    exact ⟨lt e, fun y c h => (hf b hb).2.2.2.2.1 y c (comp_cell I cs h).1⟩
  · rcases (hf b hb).2.2.2.1 with z | z
    · exact I.ok.noex b o e z
    · exact absurd (Nat.lt_of_lt_of_le (Nat.lt_of_lt_of_le (Heap.lt_size e) I.ok.bsz) z) (Nat.lt_irrefl _)
  · exact nofs (hf b hb).2.1 (hf b hb).2.2.1
  · cases i with
    | zero =>
      have h2' : (some (none : Option V)) = some (some v) := h2
      cases h2'
    | succ i =>
      have h1' : fr[i]? = some y := h1
      have h2' : (is.map fun k => (σ[k]?).join)[i]? = some (some v) := h2
      rw [List.getElem?_map] at h2'
      cases hk' : is[i]? with
      | none => rw [hk'] at h2'; cases h2'
      | some k =>
        rw [hk'] at h2'
        have h2'' : (σ[k]?).join = some v := Option.some.inj h2'
        have hσ : σ[k]? = some (some v) := by
          cases q : σ[k]? with
          | none => rw [q] at h2''; cases h2''
          | some o => rw [q] at h2''; rw [show o = some v from h2'']
        have hN : X.N[k]? = some y := by
          have e := congrArg (fun l => l[i]?) cs.slots
          simp only [List.getElem?_map, hk', h1', Option.map_some] at e
          exact Option.some.inj e
        have hl := cs.look y (List.mem_of_getElem? h1')
        have hm : (y, NameKind.free) ∈ scope.names := PySem.mem_of_lookup hl
        obtain ⟨c, e1, e2⟩ := comp_cell' I cs hm
        have hvis : Vis X.env.scope y := .inr (cs.free _ hm rfl)
        obtain ⟨m0, hn0, hl0⟩ := I.loc
        obtain ⟨u, r, l⟩ := hl0 k y v hN hσ hvis
        refine ⟨u, r, .inr ⟨relab_free hl, c, e2, ?_⟩⟩
        rcases l with ⟨k1, _⟩ | ⟨_, c', e3, z⟩
        · have k2 : X.env.kindOf y = some .cell ∨ X.env.kindOf y = some .free := cs.free _ hm rfl
          rw [k1] at k2
          rcases k2 with k2 | k2 <;> cases k2
        · rw [e1] at e3
          cases e3
          obtain ⟨o, ho, hd⟩ := z
          exact ⟨o, hk _ _ ho, hd⟩
  · obtain ⟨v, o, ho, hd⟩ := I.cell y c (comp_cell I cs h).1
    exact ⟨v, o, hk _ _ ho, hd⟩
  · exact I.freeC y c (comp_cell I cs h).1
  · rw [List.append_nil] at hp
    obtain ⟨e, n, ne, nf, d⟩ := I.pin p hp
    exact ⟨hk _ _ e, n, lt e, nofs ne nf, d⟩
  · show (none :: is.map _).length = (x :: fr).length
    have e := congrArg List.length cs.slots
    simp only [List.length_map] at e
    simp [e]
theorem comp_end {σ' : St} {H' : Hp} {s' : Shared} {h'' : Heap} (I : Inv X pins σ H s) (hf : ∀ b ∈ fp, FpOk X pins H b) (J : Inv (compCx X scope (x :: fr) s.heap.objs.size s H fp pins) [] σ' H' s') (sb : Heap.SameBut s.heap.objs.size s'.heap h'') :
    Inv X pins σ H' { s' with heap := h'' } := by
  have ne : ∀ {b : Addr} {o : Obj}, s.heap.get? b = some o → b ≠ s.heap.objs.size := fun e => Nat.ne_of_lt (Heap.lt_size e)
  have fre : H' s.heap.objs.size = none := J.free
  have u : Un (frs X.stack) fp H H' s.heap s'.heap := J.base
  refine I.call' (ch := fp) J.os ⟨fun b o e n hb hx => (sb.2 b (ne e)).trans (u.keep b o e n hb hx), fun b o e n hb hx => ?_, u.free, fun b o e hx => ?_, u.tups, u.frzs, u.tbls⟩ (fun b o e => ?_) J.bare (fun b hb => ?_)
  · obtain ⟨sl, q⟩ := u.slot b o e n hb hx
    exact ⟨sl, (sb.2 b (ne e)).trans q⟩
  · obtain ⟨o', q⟩ := u.there b o e hx
    exact ⟨o', (sb.2 b (ne e)).trans q⟩
  · have nC : ∀ {c : Addr} {v : HO}, H' c = some v → c ≠ s.heap.objs.size := fun q z => by rw [z, fre] at q; cases q
    refine (J.hok b o e).stay (fun c v hc q => (sb.2 c ?_).trans q) (fun _ q => q) fun _ _ q => q
    rcases hc with rfl | hc
    · exact nC e
    · exact nC hc
  · exact ⟨(hf b hb).2.2.2.1, (hf b hb).2.1, (hf b hb).2.2.2.2.1, (hf b hb).2.2.2.2.2⟩
end
noncomputable def tComp (wi : TI) (is : List Nat) (tt : TT) (te : TE) : TE := fun σ H Q => wi σ H fun J H1 => ∀ D, H1 D = none → ∃ W : Nat → Nat → Hp → Prop, (∃ m, W 0 m (upd H1 D (.lst []))) ∧ ∀ i m H2, W i m H2 →
  (J.stop i H2 ∧ Q (.ref D) H2) ∨ (J.go i H2 ∧ ∀ x H3, J.yld i H2 x H3 → tt (compSt σ is (some x)) H3 fun b H4 => if b = true then te (compSt σ is (some x)) H4 fun y H5 => ∃ ys, H5 D = some (.lst ys) ∧ ys.length < sizeLine ∧ ∃ m', m' < m ∧ W (i + 1) m' (upd H5 D (.lst (ys ++ [y])))
    else ∃ m', m' < m ∧ W (i + 1) m' H4)
noncomputable def tTrue : TT := fun _ H Q => Q true H
section
variable {X : Cx} {scope : Scope} {x : Str} {px pos : Pos} {fr : List Str} {is : List Nat} {elt iter : Expr} {wi : TI} {te : TE}
def PTs (X : Cx) (ifs : List Expr) (t : TT) : Prop :=
  ∀ (pins : List (Addr × Obj)) (s : Shared) (σ : St) (H : Hp) (Q : Bool → Hp → Prop), Inv X pins σ H s → t σ H Q →
    wpAny (model X.prog X.w) X.A (forIn ifs true fun c r => if r = true then do let ok ← isTrue c X.env (eval c X.env); pure (ForInStep.yield ok) else pure (ForInStep.yield r)) (TP X pins σ Q) X.xe s
theorem pts_nil : PTs X [] tTrue := fun _ _ _ H _ I h => wpAny_tests_nil ⟨H, I, h⟩
theorem pts_one {c : Expr} {t : TT} (h : PT X c t) : PTs X [c] t := fun pins s σ H Q I q => wpAny_tests_one (h pins s σ H Q I q)
theorem comp_run {ifs : List Expr} {tt : TT} {pins : List (Addr × Obj)} {s : Shared} {σ : St} {H : Hp} {Q : VK} {use : Option (Value → Sem Unit)} {Qf : Value → Shared → Prop} (hc : X.calm = true) (hi : PI X (.Name x px) iter wi) (ht : ∀ C s H fp pins, PTs (compCx X scope (x :: fr) C s H fp pins) ifs tt)
    (he : ∀ C s H fp pins, PE (compCx X scope (x :: fr) C s H fp pins) elt te) (cs : CompScope X.env.scope X.N scope x fr is) (hfs : ∀ x, foldedSetIterable iter X.env x = pure x) (I : Inv X pins σ H s) (h : tComp wi is tt te σ H Q)
    (fin : ∀ (s3 : Shared) (H3 : Hp) (fp : List Addr) (D : Addr) (σ' : St) (H' : Hp) (s' : Shared), Inv X pins σ H3 s3 → (∀ b ∈ fp, FpOk X pins H3 b) → Inv (compCx X scope (x :: fr) s3.heap.objs.size s3 H3 fp pins) [] σ' H' s' → Q (.ref D) H' →
      compPost (model X.prog X.w) X.A X.xe use Qf (.ref D) s3.heap.objs.size (.ok .next) s') :
    wpAny (model X.prog X.w) X.A (comprehension (.ListComp elt [⟨.Name x px, iter, ifs, 0⟩] scope pos) scope X.env (firstIterPos [⟨.Name x px, iter, ifs, 0⟩] pos) (newList []) false (eval iter X.env) use) Qf X.xe s := by
  have hclos : closureFor scope X.env = pure (closL X.env scope.names []) := closureFor_some fun n hn => I.ok.has n (cs.free _ hn rfl)
  refine wpAny_comprehension_free (use := use) rfl hfs hclos cs.kind cs.names (thn (hi pins s σ H _ I h) fun v s1 h1 => thn h1 fun itv s2 h2 => ?_)
  obtain ⟨it, fp, tn, J, H2, e, I2, T, st2, f2, h2⟩ := h2
  subst e
  refine wpAny_newObj_type (hd := by size_fits) ?_
  have fD : H2 s2.heap.objs.size = none := I2.fresh
  obtain ⟨W, ⟨m0, w0⟩, turn⟩ := h2 s2.heap.objs.size fD
  have nD : ∀ b ∈ fp, b ≠ s2.heap.objs.size := fun b hb => by
    obtain ⟨o, e, _⟩ := T.obj _ _ st2 b hb
    exact Nat.ne_of_lt (Heap.lt_size e)
  have I3 : Inv X pins σ (upd H2 s2.heap.objs.size (.lst [])) { s2 with heap := s2.heap.push { cls := .type "list", data := .seq ([] : List Value).toArray } } := I2.lnew (t' := s2.toks) .nil (Nat.zero_le _)
  have f3 : ∀ b ∈ fp, FpOk X pins (upd H2 s2.heap.objs.size (.lst [])) b := fun b hb => ⟨by rw [upd_ne (nD b hb)]; exact (f2 b hb).1, (f2 b hb).2⟩
  have st3 : tn 0 (s2.heap.push { cls := .type "list", data := .seq ([] : List Value).toArray }) := T.keep _ _ _ st2 fun b _ o e => Heap.get?_push_of_some _ e
  generalize hs3 : ({ s2 with heap := s2.heap.push { cls := .type "list", data := .seq ([] : List Value).toArray } } : Shared) = s3 at I3 ⊢
  have st3' : tn 0 s3.heap := by rw [← hs3]; exact st3
  generalize hH3 : upd H2 s2.heap.objs.size (.lst []) = H3 at I3 f3 w0
  generalize s2.heap.objs.size = D at *
  refine wpAny_newFunctionEnv cs.nocell (by intro y hy; simp at hy) (fun h4 hn4 sb4 => ?_) cs.kind
  have hk4 : ∀ b o, s3.heap.get? b = some o → h4.get? b = some o := fun b o e => sb4.extBut b o (Nat.ne_of_lt (Heap.lt_size e)) (Heap.get?_push_of_some _ e)
  have ob3 : ∀ b ∈ fp, ∃ o, s3.heap.get? b = some o := fun b hb => let ⟨o, e, _⟩ := T.obj _ _ st3' b hb; ⟨o, e⟩
  have I4 := comp_start (t' := s3.toks + ([] : List (Str × Value)).length) I3 cs f3 ob3 hn4 hk4
  have st4 : tn 0 h4 := T.keep _ _ _ st3' fun b _ o e => hk4 b o e
  have stat : ∀ {H' : Hp}, (∀ b ∈ fp, H' b = none) → ∀ b ∈ fp, FpOk (compCx X scope (x :: fr) s3.heap.objs.size s3 H3 fp pins) [] H' b := fun hn b hb =>
    ⟨hn b hb, (I4.ok.exf b hb).1, I4.ok.exfs b hb, .inl hb, (I4.ok.exf b hb).2, fun p hp z => by
      have hp' : p ∈ X.pn ++ pins := by
        have h2 : p ∈ (X.pn ++ pins) ++ [] := hp
        rwa [List.append_nil] at h2
      exact (f3 b hb).2.2.2.2.2 p hp' z⟩
  have loop : codeAny (model X.prog X.w) X.A (.compLoop (.ListComp elt [⟨.Name x px, iter, ifs, 0⟩] scope pos) 0 (.ref it) (.ref D) (compCx X scope (x :: fr) s3.heap.objs.size s3 H3 fp pins).env)
      (compPost (model X.prog X.w) X.A X.xe use Qf (.ref D) s3.heap.objs.size) { s3 with heap := h4, toks := s3.toks + ([] : List (Str × Value)).length } := by
    refine compLoop_all (fun n s' => ∃ i o H', Inv (compCx X scope (x :: fr) s3.heap.objs.size s3 H3 fp pins) [] (compSt σ is o) H' s' ∧ tn i s'.heap ∧ (∀ b ∈ fp, H' b = none) ∧ W i n H') ?_ m0 ⟨0, none, H3, I4, st4, fun b hb => (f3 b hb).1, w0⟩
    rintro n s5 ⟨i, o, H5, I5, st5, fr5, w5⟩
    rcases turn i n H5 w5 with ⟨stop, qn⟩ | ⟨go, step⟩
    · refine thn (T.done (compCx X scope (x :: fr) s3.heap.objs.size s3 H3 fp pins) rfl rfl rfl hc i [] s5 _ H5 (fun _ _ => False) I5 (stat fr5) st5 stop) fun r s6 ⟨hr, I6⟩ => ?_
      subst hr
      exact fin s3 H3 fp D _ H5 s6 I3 f3 I6 qn
    · refine thn (T.item (compCx X scope (x :: fr) s3.heap.objs.size s3 H3 fp pins) rfl rfl rfl hc i [] s5 _ H5 (fun _ _ => False) I5 (stat fr5) st5 go) fun r s6 ⟨u, hr, h6⟩ => ?_
      subst hr
      refine thn h6 fun _ s7 ⟨v, H7, I7, r7, y7, st7, fr7⟩ => ?_
      have I7' := I7.pinned (stat fr7) (T.obj _ _ st7)
      have gN : PG (compCx X scope (x :: fr) s3.heap.objs.size s3 H3 fp pins) (.Name x px) (gName 0) := pg_name (i := 0) cs.nd rfl (.inl (lookup_relabel_local cs.var)) (.inr (lookup_relabel_local cs.var))
      refine thn (gN _ s7 _ H7 v u (fun σ' H' => σ' = compSt σ is (some v) ∧ H' = H7) I7' r7 ⟨rfl, rfl⟩) fun _ s8 ⟨σ8, H8, I8, e8, e8'⟩ => ?_
      subst e8 e8'
      refine thn (ht s3.heap.objs.size s3 H3 fp pins _ s8 _ H8 _ I8 (step v H8 y7)) fun b s9 ⟨H9, I9, q9⟩ => ?_
      have again : ∀ {s' : Shared} {H' : Hp} {m : Nat}, Inv (compCx X scope (x :: fr) s3.heap.objs.size s3 H3 fp pins) ([] ++ pinsAt fp s7.heap) (compSt σ is (some v)) H' s' → m < n → W (i + 1) m H' →
          ∃ m, m < n ∧ ∃ i o H', Inv (compCx X scope (x :: fr) s3.heap.objs.size s3 H3 fp pins) [] (compSt σ is o) H' s' ∧ tn i s'.heap ∧ (∀ b ∈ fp, H' b = none) ∧ W i m H' := fun {s' H' m} I' hm w' => by
        refine ⟨m, hm, i + 1, some v, H', I'.unpinned, T.keep _ _ _ st7 fun b hb o e => (I'.pin (b, o) (List.mem_append_right _ (List.mem_append_right _ (mem_pinsAt hb e)))).1, fun b hb => ?_, w'⟩
        obtain ⟨o, e, d⟩ := T.obj _ _ st7 b hb
        exact (I'.pin (b, o) (List.mem_append_right _ (List.mem_append_right _ (mem_pinsAt hb e)))).2.1
      cases b with
      | false =>
        obtain ⟨m', hm, w9⟩ := q9
        exact again I9 hm w9
      | true =>
        refine thn (he s3.heap.objs.size s3 H3 fp pins _ s9 _ H9 _ I9 q9) fun y s10 ⟨yv, H10, I10, r10, ys, hD, hz, m', hm, w10⟩ => ?_
        refine thn (mt_append _ s10 _ H10 (.ref D) [yv] (.ref D) [y] (fun _ H' => H' = upd H10 D (.lst (ys ++ [yv]))) I10 rfl (.cons r10 .nil) ⟨D, ys, yv, rfl, rfl, hD, hz, rfl⟩) fun _ s11 ⟨_, H11, I11, _, e11⟩ => ?_
        subst e11
        exact again I11 hm w10
  exact codeAny_compStart_list loop (T.self X.A 0 _ _ _ st4 loop)
theorem pe_compI {ifs : List Expr} {tt : TT} (hc : X.calm = true) (hi : PI X (.Name x px) iter wi) (ht : ∀ C s H fp pins, PTs (compCx X scope (x :: fr) C s H fp pins) ifs tt) (he : ∀ C s H fp pins, PE (compCx X scope (x :: fr) C s H fp pins) elt te)
    {sc : Scope} {N : List Str} (cs : CompScope sc N scope x fr is) (hsc : X.env.scope = sc := by rfl) (hN : X.N = N := by rfl) (hfs : ∀ x, foldedSetIterable iter X.env x = pure x := by intro _; rfl) :
    PE X (.ListComp elt [⟨.Name x px, iter, ifs, 0⟩] scope pos) (tComp wi is tt te) := by
  subst hsc hN
  intro pins s σ H Q I h
  rw [eval_ListComp]
  refine comp_run hc hi ht he cs hfs I h fun s3 H3 fp D σ' H' s' I3 f3 J q => ?_
  obtain ⟨m6, hn6, _⟩ := id J.loc
  exact ⟨m6, hn6, fun h7 sb7 => ⟨.ref D, H', comp_end I3 f3 J sb7, rfl, q⟩⟩
theorem ps_setCompI {ifs : List Expr} {tt : TT} {y : Str} {py spos : Pos} {k : Nat} (hc : X.calm = true) (hi : PI X (.Name x px) iter wi) (ht : ∀ C s H fp pins, PTs (compCx X scope (x :: fr) C s H fp pins) ifs tt) (he : ∀ C s H fp pins, PE (compCx X scope (x :: fr) C s H fp pins) elt te)
    {sc : Scope} {N : List Str} (cs : CompScope sc N scope x fr is) (hnd : X.N.Nodup) (hk : X.N[k]? = some y) (hy : X.env.scope.names.lookup y = some .local)
    (hsw : swapsWith (.ListComp elt [⟨.Name x px, iter, ifs, 0⟩] scope pos) (some (.Name y py)) spos.line X.env = pure true) (hsc : X.env.scope = sc := by rfl) (hN : X.N = N := by rfl) (hfs : ∀ x, foldedSetIterable iter X.env x = pure x := by intro _; rfl) :
    PS X (.Assign [.Name y py] (.ListComp elt [⟨.Name x px, iter, ifs, 0⟩] scope pos) spos) (tAsg (tComp wi is tt te) (gName k)) := by
  subst hsc hN
  intro pins s σ H D I h
  rw [exec_Assign_Name_used _ _ _ _ hsw]
  refine wpAny_bind (wpAny_standAt (wpAny_bind ?_))
  show wpAny _ X.A (do let _ ← comprehension (.ListComp elt [⟨.Name x px, iter, ifs, 0⟩] scope pos) scope X.env (firstIterPos [⟨.Name x px, iter, ifs, 0⟩] pos) (newList []) false (eval iter X.env) (some (assign (.Name y py) X.env))) _ _ s
  refine wpAny_bind (thn (comp_run (use := some (assign (.Name y py) X.env)) (Qf := fun _ s' => SP X pins D .next s') hc hi ht he cs hfs I h fun s3 H3 fp Da σ' H' s' I3 f3 J q => ?_) fun _ s' hq => wpAny_pure (wpAny_pure hq))
  have I5 : Inv X pins σ H' s' := comp_end (h'' := s'.heap) I3 f3 J (.refl ..)
  obtain ⟨m6, hn6, _⟩ := id J.loc
  have cne : s3.heap.objs.size ≠ X.env.locals := Nat.ne_of_gt I3.lt
  have fC : FpOk X pins H' s3.heap.objs.size := I3.fpOk (Nat.le_refl _) J.free
  refine wpAny_assign_Name (store_ok2 (v := .ref Da) (u := .ref Da) I5 hnd hk (.inl hy) rfl (fun s7 I7 ch => ?_) (.inr hy))
  obtain ⟨a, sb, ha⟩ := ch
  have nCa : s3.heap.objs.size ≠ a := by
    rcases ha with rfl | ha
    · exact cne
    · exact fun z => fC.2.2.2.2.1 y a ha z.symm
  refine ⟨m6, hn6.sameBut sb nCa, fun h8 sb8 => ?_⟩
  refine ⟨σ.set k (some (.ref Da)), H', ?_, q⟩
  exact I7.turned (t' := s7.toks) (fun b o hb e => (sb8.2 b hb).trans e) J.free cne fC.2.2.2.1 fC.2.2.2.2.1 fC.2.2.2.2.2
theorem pe_comp (hc : X.calm = true) (hi : PI X (.Name x px) iter wi) (he : ∀ C s H fp pins, PE (compCx X scope (x :: fr) C s H fp pins) elt te)
    {sc : Scope} {N : List Str} (cs : CompScope sc N scope x fr is) (hsc : X.env.scope = sc := by rfl) (hN : X.N = N := by rfl) (hfs : ∀ x, foldedSetIterable iter X.env x = pure x := by intro _; rfl) :
    PE X (.ListComp elt [⟨.Name x px, iter, [], 0⟩] scope pos) (tComp wi is tTrue te) := pe_compI hc hi (fun _ _ _ _ _ => pts_nil) he cs hsc hN hfs
theorem pe_compIf {c : Expr} {tt : TT} (hc : X.calm = true) (hi : PI X (.Name x px) iter wi) (ht : ∀ C s H fp pins, PT (compCx X scope (x :: fr) C s H fp pins) c tt) (he : ∀ C s H fp pins, PE (compCx X scope (x :: fr) C s H fp pins) elt te)
    {sc : Scope} {N : List Str} (cs : CompScope sc N scope x fr is) (hsc : X.env.scope = sc := by rfl) (hN : X.N = N := by rfl) (hfs : ∀ x, foldedSetIterable iter X.env x = pure x := by intro _; rfl) :
    PE X (.ListComp elt [⟨.Name x px, iter, [c], 0⟩] scope pos) (tComp wi is tt te) := pe_compI hc hi (fun C s H fp pins => pts_one (ht C s H fp pins)) he cs hsc hN hfs
end
section
variable {X : Cx} {pins : List (Addr × Obj)} {σ : St} {H : Hp} {s : Shared}
theorem Inv.walked {t' : Nat} {ch : List Addr} {h' : Heap} (I : Inv X pins σ H s) (hf : ∀ b ∈ ch, FpOk X pins H b) (k : ∀ b o, b ∉ ch → s.heap.get? b = some o → h'.get? b = some o) : Inv X pins σ H { s with heap := h', toks := t' } := by
  have nit : ∀ b u, H b = some u → b ∉ ch := fun b u e z => by rw [(hf b z).1] at e; cases e
  refine I.step (g' := s.gens) (d' := s.drawn) (ch := ch) (fun b hb => ⟨(hf b hb).2.2.2.1, (hf b hb).2.1, (hf b hb).2.2.2.2.1, (hf b hb).2.2.2.2.2⟩) (fun b o _ _ hc e _ => k b o hc e) (fun b o _ _ hc e _ => ⟨o.slots, k b o hc e⟩) (fun _ _ _ _ n => n)
    (fun b o hc e => ⟨o, k b o hc e⟩) (fun _ _ e => e) (fun _ _ _ e => e) (fun b ps e => ⟨#[], by rw [e]; simp⟩) (fun m hm => ?_) (fun b u e => ?_) I.bare
  · obtain ⟨o, es, ep, ho, r⟩ := hm
    exact ⟨o, es, ep, k _ o (fun z => (hf _ z).2.1 rfl) ho, r⟩
  · refine (I.hok b u e).stay (fun c v hc q => k c v ?_ q) (fun _ q => q) fun _ _ q => q
    rcases hc with z | z
    · rw [z]; exact nit b u e
    · exact nit c _ z
theorem Inv.track {p : Addr} {o : HO} (I : Inv X pins σ H s) (hf : FpOk X pins H p) (new : ObjOk X.prog X.w (upd H p o) s.heap p o) : Inv X pins σ (upd H p o) s := by
  have ne : ∀ {b : Addr} {u : HO}, H b = some u → b ≠ p := fun e z => by rw [z, hf.1] at e; cases e
  refine I.step (g' := s.gens) (d' := s.drawn) (t' := s.toks) (h' := s.heap) (H' := upd H p o) (ch := [p]) (fun b hb => ?_) (fun b o _ _ _ e _ => e) (fun b o _ _ _ e _ => ⟨o.slots, e⟩) (fun b u hc _ n => ?_) (fun b o _ e => ⟨o, e⟩)
    (fun b xs e => by rw [upd_ne (ne e)]; exact e) (fun b o u e => by rw [upd_ne (ne e)]; exact e) (fun b ps e => ⟨#[], by rw [upd_ne (ne e), e]; simp⟩) (fun m hm => hm) (fun b u e => ?_) I.bare
  · have e : b = p := by simpa using hb
    subst e
    exact ⟨hf.2.2.2.1, hf.2.1, hf.2.2.2.2.1, hf.2.2.2.2.2⟩
  · rw [upd_ne (fun z => hc (by simp [z]))]; exact n
  · by_cases hb : b = p
    · subst hb; rw [upd_same] at e; cases e; exact new
    · rw [upd_ne hb] at e
      exact (I.hok b u e).stay (fun _ _ _ q => q) (fun c q => by rw [upd_ne (ne q)]; exact q) fun c xs q => by rw [upd_ne (ne q)]; exact q
theorem ne_cls2 {h : Heap} {a b : Addr} {o u : Obj} {A B : String} (e : h.get? a = some o) (q : h.get? b = some u) (ce : o.cls = .type A) (cq : u.cls = .type B) (d : A ≠ B := by decide) : a ≠ b := fun z => by
  subst z
  rw [e] at q
  have e2 : o = u := Option.some.inj q
  rw [e2, cq] at ce
  injection ce with ce
  exact d ce.symm
end
noncomputable def Itz (K : W.Frag) (l1 l2 : Addr) : It :=
  ⟨fun i H => (∃ xs x, SqL K H l1 xs ∧ xs[i]? = some x) ∧ ∃ ys y, SqL K H l2 ys ∧ ys[i]? = some y,
   fun i H v H' => ∃ p x y, v = .ref p ∧ H p = none ∧ H' = upd H p (.tup [x, y]) ∧ (∀ xs, SqL K H l1 xs → xs[i]? = some x) ∧ ∀ ys, SqL K H l2 ys → ys[i]? = some y,
   fun i H => ∃ xs ys, SqL K H l1 xs ∧ SqL K H l2 ys ∧ (xs.length ≤ i ∨ ys.length ≤ i)⟩
noncomputable def Ite (K : W.Frag) (l : Addr) : It :=
  ⟨fun i H => ∃ xs x, SqL K H l xs ∧ xs[i]? = some x,
   fun i H v H' => ∃ p x, v = .ref p ∧ H p = none ∧ H' = upd H p (.tup [.int i, x]) ∧ ∀ xs, SqL K H l xs → xs[i]? = some x,
   fun i H => ∃ xs, SqL K H l xs ∧ xs.length ≤ i⟩
theorem addr_ne {a b : Nat} (h : ¬ a = b) : (a : Addr) ≠ b := h
theorem two_fits : 2 ≤ sizeLine := by rw [sizeLine_eq]; decide
theorem turn_zip {P : Program} {w : World} {K : W.Frag} {elts : List Expr} {k : Nat} {tpos : Pos} {z TI TO i1 i2 l1 l2 : Addr} (n1 : TI ≠ z) (n2 : TO ≠ z) (n3 : i1 ≠ z) (n4 : i2 ≠ z) (n5 : TI ≠ TO) (n6 : i1 ≠ i2) :
    Turn P w K (.Tuple elts k tpos) (Itz K l1 l2) [z, TI, TO, i1, i2] z (fun i h => IsZip h z TI TO .none ∧ IsPair h TI (.ref i1) (.ref i2) ∧ (∃ a b, IsPair h TO a b) ∧ h.IsListIter i1 l1 i ∧ h.IsListIter i2 l2 i) where
  mem := by simp
  obj := fun i h st b hb => by
    obtain ⟨hz, hTI, ⟨a, c, hTO⟩, ⟨o1, e1, c1, d1⟩, ⟨o2, e2, c2, d2⟩⟩ := st
    simp only [List.mem_cons, List.not_mem_nil, or_false] at hb
    rcases hb with rfl | rfl | rfl | rfl | rfl
    · exact ⟨_, hz, fun v z => by have z' : Data.fields _ = Data.cell v := z; cases z'⟩
    · exact ⟨_, hTI, fun v z => by have z' : Data.seq _ _ = Data.cell v := z; cases z'⟩
    · exact ⟨_, hTO, fun v z => by have z' : Data.seq _ _ = Data.cell v := z; cases z'⟩
    · exact ⟨o1, e1, fun v z => by rw [d1] at z; cases z⟩
    · exact ⟨o2, e2, fun v z => by rw [d2] at z; cases z⟩
  keep := fun i h h' st kp => by
    obtain ⟨hz, hTI, ⟨a, c, hTO⟩, h1, h2⟩ := st
    exact ⟨kp z (by simp) _ hz, kp TI (by simp) _ hTI, ⟨a, c, kp TO (by simp) _ hTO⟩, h1.at fun o e => kp i1 (by simp) o e, h2.at fun o e => kp i2 (by simp) o e⟩
  item := by
    intro X hP hw hK hc i pins s σ H E I hf st hg
    subst hP hw hK
    obtain ⟨hz, hTI, ⟨a, c, hTO⟩, h1, h2⟩ := st
    obtain ⟨⟨xs, x, hq1, hx⟩, ⟨ys, y, hq2, hy⟩⟩ := hg
    obtain ⟨its1, rv1, p1, _⟩ := I.list hq1
    obtain ⟨its2, rv2, p2, _⟩ := I.list hq2
    obtain ⟨u, hu, ru⟩ := rv1.get hx
    obtain ⟨v, hv, rv⟩ := rv2.get hy
    obtain ⟨o1, e1, c1, d1⟩ := id h1
    obtain ⟨o2, e2, c2, d2⟩ := id h2
    obtain ⟨ol1, el1, cl1, _⟩ := p1.isList
    obtain ⟨ol2, el2, cl2, _⟩ := p2.isList
    have D : ZipApart z TI TO i1 i2 l1 l2 := ⟨n1, n2, n3, n4, n5, ne_cls2 hTI e1 rfl c1, ne_cls2 hTI e2 rfl c2, ne_cls2 hTO e1 rfl c1, ne_cls2 hTO e2 rfl c2, n6,
      ne_cls2 el1 hz cl1 rfl, ne_cls2 el1 hTO cl1 rfl, ne_cls2 el1 e1 cl1 c1, ne_cls2 el1 e2 cl1 c2,
      ne_cls2 el2 hz cl2 rfl, ne_cls2 el2 hTO cl2 rfl, ne_cls2 el2 e1 cl2 c1, ne_cls2 el2 e2 cl2 c2⟩
    have fp : FpOk X pins H s.heap.objs.size := I.fpOk (Nat.le_refl _) I.fresh
    refine wpAny_pyNext_zip_item D hz hTI hTO h1 h2 p1.isList p2.isList (x := u) (y := v) (by simpa using hu) (by simpa using hv) fun h' a1 a2 a3 a4 a5 a6 kp => ?_
    have I1 : Inv X pins σ H { s with heap := h' } := I.walked (t' := s.toks) hf fun b o hb e => kp b o (fun q => hb (by simp [q])) (fun q => hb (by simp [q])) (fun q => hb (by simp [q])) (fun q => hb (by simp [q])) e
    refine ⟨_, rfl, wpAny_letOwnedTupleGo_zip a1 fun h'' b1 sb => ?_⟩
    have nz : s.heap.objs.size ≠ z := Nat.ne_of_gt (Heap.lt_size hz)
    have I2 : Inv X pins σ H { s with heap := h'' } := I1.walked (t' := s.toks) (ch := [z]) (fun b hb => hf b (by rw [List.mem_singleton.mp hb]; simp)) fun b o hb e => (sb.2 b (fun q => hb (by simp [q]))).trans e
    have gT : h''.get? s.heap.objs.size = some { cls := .type "tuple", data := .seq #[u, v] } := (sb.2 _ nz).trans a5
    have I3 := I2.track (o := .tup [x, y]) fp ⟨two_fits, [u, v], .cons ru (.cons rv .nil), ⟨_, gT, rfl, _, rfl⟩⟩
    refine ⟨.ref s.heap.objs.size, _, I3, rfl, ⟨_, x, y, rfl, fp.1, rfl, fun zs hzs => by rw [I.list_inj hzs hq1]; exact hx, fun zs hzs => by rw [I.list_inj hzs hq2]; exact hy⟩, ?_, fun b hb => ?_⟩
    · exact ⟨b1, (sb.2 _ n1).trans (kp _ _ D.TIz D.TITO D.TIi1 D.TIi2 hTI), ⟨_, _, (sb.2 _ n2).trans a2⟩, a3.at fun o e => (sb.2 _ n3).trans e, a4.at fun o e => (sb.2 _ n4).trans e⟩
    · have lt : ∀ {b : Addr} {o : Obj}, s.heap.get? b = some o → b ≠ s.heap.objs.size := fun e => Nat.ne_of_lt (Heap.lt_size e)
      rw [upd_ne]
      · exact (hf b hb).1
      · simp only [List.mem_cons, List.not_mem_nil, or_false] at hb
        rcases hb with rfl | rfl | rfl | rfl | rfl
        · exact lt hz
        · exact lt hTI
        · exact lt hTO
        · exact lt e1
        · exact lt e2
  done := by
    intro X hP hw hK hc i pins s σ H E I hf st hg
    subst hP hw hK
    obtain ⟨hz, hTI, ⟨a, c, hTO⟩, h1, h2⟩ := st
    obtain ⟨xs, ys, hq1, hq2, hl⟩ := hg
    obtain ⟨its1, rv1, p1, _⟩ := I.list hq1
    obtain ⟨its2, rv2, p2, _⟩ := I.list hq2
    obtain ⟨o1, e1, c1, d1⟩ := id h1
    obtain ⟨o2, e2, c2, d2⟩ := id h2
    obtain ⟨ol1, el1, cl1, _⟩ := p1.isList
    obtain ⟨ol2, el2, cl2, _⟩ := p2.isList
    have D : ZipApart z TI TO i1 i2 l1 l2 := ⟨n1, n2, n3, n4, n5, ne_cls2 hTI e1 rfl c1, ne_cls2 hTI e2 rfl c2, ne_cls2 hTO e1 rfl c1, ne_cls2 hTO e2 rfl c2, n6,
      ne_cls2 el1 hz cl1 rfl, ne_cls2 el1 hTO cl1 rfl, ne_cls2 el1 e1 cl1 c1, ne_cls2 el1 e2 cl1 c2,
      ne_cls2 el2 hz cl2 rfl, ne_cls2 el2 hTO cl2 rfl, ne_cls2 el2 e1 cl2 c1, ne_cls2 el2 e2 cl2 c2⟩
    have l1e := rv1.length
    have l2e := rv2.length
    refine wpAny_pyNext_zip_end (I.ok.hd hc) D hz hTI hTO h1 h2 p1.isList p2.isList ?_ fun h' kp => ⟨rfl, I.walked (t' := s.toks) hf fun b o hb e => kp b o (fun q => hb (by simp [q])) (fun q => hb (by simp [q])) (fun q => hb (by simp [q])) (fun q => hb (by simp [q])) e⟩
    rcases hl with hl | hl
    · exact .inl (by simp; omega)
    · exact .inr (by simp; omega)
  self := fun _ _ _ _ _ st h => wpAny_pyIter_zip st.1 h
theorem turn_enum {P : Program} {w : World} {K : W.Frag} {elts : List Expr} {k : Nat} {tpos : Pos} {e it l : Addr} (n1 : e ≠ it) :
    Turn P w K (.Tuple elts k tpos) (Ite K l) [e, it] e (fun i h => (∃ old, IsEnum h e it (i : Nat) old) ∧ h.IsListIter it l i) where
  mem := by simp
  obj := fun i h st b hb => by
    obtain ⟨⟨old, he⟩, ⟨o1, e1, c1, d1⟩⟩ := st
    simp only [List.mem_cons, List.not_mem_nil, or_false] at hb
    rcases hb with rfl | rfl
    · exact ⟨_, he, fun v z => by have z' : Data.fields _ = Data.cell v := z; cases z'⟩
    · exact ⟨o1, e1, fun v z => by rw [d1] at z; cases z⟩
  keep := fun i h h' st kp => by
    obtain ⟨⟨old, he⟩, h1⟩ := st
    exact ⟨⟨old, kp e (by simp) _ he⟩, h1.at fun o q => kp it (by simp) o q⟩
  item := by
    intro X hP hw hK hc i pins s σ H E I hf st hg
    subst hP hw hK
    obtain ⟨⟨old, he⟩, h1⟩ := st
    obtain ⟨xs, x, hq1, hx⟩ := hg
    obtain ⟨its1, rv1, p1, _⟩ := I.list hq1
    obtain ⟨u, hu, ru⟩ := rv1.get hx
    obtain ⟨o1, e1, c1, d1⟩ := id h1
    have fp : FpOk X pins H s.heap.objs.size := I.fpOk (Nat.le_refl _) I.fresh
    refine wpAny_pyNext_enum_item he h1 p1.isList (x := u) (by simpa using hu) n1 fun h' a1 a2 a3 a4 kp => ?_
    have I1 : Inv X pins σ H { s with heap := h', toks := s.toks + 1 } := I.walked hf fun b o hb q => kp b o (fun z => hb (by simp [z])) (fun z => hb (by simp [z])) q
    refine ⟨_, rfl, wpAny_letOwnedTupleGo_enum a1 fun h'' b1 sb => ?_⟩
    have nz : s.heap.objs.size ≠ e := Nat.ne_of_gt (Heap.lt_size he)
    have I2 : Inv X pins σ H { s with heap := h'', toks := s.toks + 1 } := I1.walked (t' := s.toks + 1) (ch := [e]) (fun b hb => hf b (by rw [List.mem_singleton.mp hb]; simp)) fun b o hb q => (sb.2 b (fun z => hb (by simp [z]))).trans q
    have gT : h''.get? s.heap.objs.size = some { cls := .type "tuple", data := .seq #[.int i s.toks, u] } := (sb.2 _ nz).trans a3
    have I3 := I2.track (o := .tup [.int i, x]) fp ⟨two_fits, [.int i s.toks, u], .cons ⟨_, rfl⟩ (.cons ru .nil), ⟨_, gT, rfl, _, rfl⟩⟩
    refine ⟨.ref s.heap.objs.size, _, I3, rfl, ⟨_, x, rfl, fp.1, rfl, fun zs hzs => by rw [I.list_inj hzs hq1]; exact hx⟩, ?_, fun b hb => ?_⟩
    · refine ⟨⟨u, ?_⟩, a2.at fun o q => (sb.2 _ n1.symm).trans q⟩
      have b1' : IsEnum h'' e it ((i : Int) + 1) u := b1
      rw [show (((i + 1 : Nat) : Int)) = (i : Int) + 1 by omega]
      exact b1'
    · have lt : ∀ {b : Addr} {o : Obj}, s.heap.get? b = some o → b ≠ s.heap.objs.size := fun q => Nat.ne_of_lt (Heap.lt_size q)
      rw [upd_ne]
      · exact (hf b hb).1
      · simp only [List.mem_cons, List.not_mem_nil, or_false] at hb
        rcases hb with rfl | rfl
        · exact lt he
        · exact lt e1
  done := by
    intro X hP hw hK hc i pins s σ H E I hf st hg
    subst hP hw hK
    obtain ⟨⟨old, he⟩, h1⟩ := st
    obtain ⟨xs, hq1, hl⟩ := hg
    obtain ⟨its1, rv1, p1, _⟩ := I.list hq1
    have l1e := rv1.length
    refine wpAny_pyNext_enum_end (I.ok.hd hc) he h1 p1.isList (by simp; omega) fun h' kp => ⟨rfl, I.walked (t' := s.toks) hf fun b o hb q => kp b o (fun z => hb (by simp [z])) q⟩
  self := fun _ _ _ _ _ st h => let ⟨_, he⟩ := st.1; wpAny_pyIter_enum he h
section
variable {X : Cx}
noncomputable def iZip (K : W.Frag) (ta : TA) : TI := fun σ H R => ta σ H fun vs H1 => ∃ a b, vs = [.ref a, .ref b] ∧ (∃ xs, SqL K H1 a xs) ∧ (∃ ys, SqL K H1 b ys) ∧ R (Itz K a b) H1
noncomputable def iEnum (K : W.Frag) (ta : TA) : TI := fun σ H R => ta σ H fun vs H1 => ∃ a, vs = [.ref a] ∧ (∃ xs, SqL K H1 a xs) ∧ R (Ite K a) H1
theorem boot_zip' : bootBuiltins "zip" = some (.type "zip") := by decide +kernel
theorem boot_enumerate' : bootBuiltins "enumerate" = some (.type "enumerate") := by decide +kernel
theorem pi_zip {elts : List Expr} {k : Nat} {tpos : Pos} {a b : Expr} {ta : TA} {p pos : Pos} (hg : Gl X "zip") (hm : X.mg "zip" = none) (ha : PA X [a, b] ta) (hs : starEach [a, b] X.env = [(false, eval a X.env), (false, eval b X.env)] := by rfl) (hs2 : starEach [b] X.env = [(false, eval b X.env)] := by rfl) :
    PI X (.Tuple elts k tpos) (.Call (.Name "zip" p) [a, b] [] pos) (iZip X.K ta) := by
  intro pins s σ H R I h
  refine Call_ (ld_blt I hg hm boot_zip' (PyProof.Rows.callWith_type1 (thn (ha pos pins s σ H _ I h) fun us s1 ⟨vs, H1, I1, r1, q1⟩ => ?_) (by rw [hs, hs2]) (by rw [hs2]; rfl)))
  obtain ⟨l1, l2, e, ⟨xs, hx⟩, ⟨ys, hy⟩, q⟩ := q1
  subst e
  obtain ⟨u1, u2, rfl, ru1, ru2⟩ := r1.two
  cases ru1
  cases ru2
  obtain ⟨its1, rv1, p1, _⟩ := I1.list hx
  obtain ⟨its2, rv2, p2, _⟩ := I1.list hy
  refine call_zip_2 p1.isList p2.isList fun h' a1 a2 a3 a4 a5 a6 kp => wpAny_pyIter_zip a1 ?_
  refine ⟨s1.heap.objs.size + 4, [s1.heap.objs.size + 4, s1.heap.objs.size + 2, s1.heap.objs.size + 3, s1.heap.objs.size, s1.heap.objs.size + 1], _, _, H1, rfl, I1.kept (t' := s1.toks) kp, turn_zip (z := s1.heap.objs.size + 4) (TI := s1.heap.objs.size + 2) (TO := s1.heap.objs.size + 3) (i1 := s1.heap.objs.size) (i2 := s1.heap.objs.size + 1) (addr_ne (by omega)) (addr_ne (by omega)) (addr_ne (by omega)) (addr_ne (by omega)) (addr_ne (by omega)) (addr_ne (by omega)), ⟨a1, a2, ⟨_, _, a3⟩, a4, a5⟩, fun b hb => ?_, q⟩
  have hb' : s1.heap.objs.size ≤ b := by
    simp only [List.mem_cons, List.not_mem_nil, or_false] at hb
    rcases hb with rfl | rfl | rfl | rfl | rfl <;> omega
  exact I1.fpOk hb' (I1.hok.fresh hb')
theorem pi_enum {elts : List Expr} {k : Nat} {tpos : Pos} {a : Expr} {ta : TA} {p pos : Pos} (hg : Gl X "enumerate") (hm : X.mg "enumerate" = none) (ha : PA X [a] ta) (hs : starEach [a] X.env = [(false, eval a X.env)] := by rfl) :
    PI X (.Tuple elts k tpos) (.Call (.Name "enumerate" p) [a] [] pos) (iEnum X.K ta) := by
  intro pins s σ H R I h
  refine Call_ (ld_blt I hg hm boot_enumerate' (PyProof.Rows.callWith_type1 (thn (ha pos pins s σ H _ I h) fun us s1 ⟨vs, H1, I1, r1, q1⟩ => ?_) hs rfl))
  obtain ⟨l1, e, ⟨xs, hx⟩, q⟩ := q1
  subst e
  obtain ⟨u1, rfl, ru1⟩ := r1.one
  cases ru1
  obtain ⟨its1, rv1, p1, _⟩ := I1.list hx
  refine call_enumerate_list p1.isList fun h' a1 a2 a3 kp => wpAny_pyIter_enum a1 ?_
  refine ⟨s1.heap.objs.size + 1, [s1.heap.objs.size + 1, s1.heap.objs.size], _, _, H1, rfl, I1.kept (t' := s1.toks) kp, turn_enum (e := s1.heap.objs.size + 1) (it := s1.heap.objs.size) (addr_ne (by omega)), ⟨⟨_, a1⟩, a2⟩, fun b hb => ?_, q⟩
  have hb' : s1.heap.objs.size ≤ b := by
    simp only [List.mem_cons, List.not_mem_nil, or_false] at hb
    rcases hb with rfl | rfl <;> omega
  exact I1.fpOk hb' (I1.hok.fresh hb')
end
end L2
end
noncomputable section
namespace L2
open PySem PySem.Spec PySem.SeqAt PyProof.Rows
section
variable {X : Cx}
theorem call_isinst : CallR X (.builtin "isinstance") (fun xs H Q => ∃ x T t b, xs = [x, .ty T] ∧ TyOf X.K H x t ∧ W.kitOne X.K t (.type T) = some b ∧ Q (.bl b) H) := by
  intro pins s σ H xs us Q I r h
  obtain ⟨x, T, t, b, rfl, ty, k, q⟩ := h
  obtain ⟨u, v, rfl, ru, rv⟩ := r.two
  cases (show v = Value.type T from rv)
  exact isinst_ok I ru ty k fun tk => ⟨.bl b, H, I.tok _, rfl, q⟩
theorem pe_ty {x : Str} {T : String} {pos : Pos} (hg : Gl X x) (hm : X.mg x = none) (hv : bootBuiltins x = some (.type T)) (hn : x ≠ "__name__" := by decide) (hd : (x == ("__debug__" : Str)) = false := by decide) : PE X (.Name x pos) (tC (.ty T)) :=
  pe_bltn hg hm hv rfl hn hd
theorem call_range1R : CallR X (.type "range") (fun xs H Q => ∃ j, xs = [.int j] ∧ ∀ p, H p = none → Q (.ref p) (upd H p (.rng 0 j))) := by
  intro pins s σ H xs us Q I r h
  obtain ⟨j, rfl, q⟩ := h
  obtain ⟨u, rfl, ru⟩ := r.one
  obtain ⟨t, rfl⟩ := ru
  refine call_range_1 ⟨.ref s.heap.objs.size, _, I.laid (o := .rng 0 j) (fun b o e => Heap.get?_push_of_some _ e) (Nat.le_refl _) ⟨_, _, _, Heap.get?_push_size _ rfl⟩, rfl, q _ I.fresh⟩
theorem vals_of_items {lo : Int} : ∀ (n : Nat) (l : List Value), l.length = n → (∀ (j : Nat) (v : Value), l[j]? = some v → ∃ t, v = Value.int (lo + (j : Int)) t) → Vals ((List.range n).map fun (i : Nat) => V.int (lo + (i : Int))) l := by
  intro n
  induction n with
  | zero => intro l hl _; rw [List.length_eq_zero_iff.mp hl]; exact .nil
  | succ n ih =>
    intro l hl h
    obtain ⟨l', v, rfl⟩ : ∃ l' v, l = l' ++ [v] := by
      rcases List.eq_nil_or_concat l with e | ⟨l', v, e⟩
      · rw [e] at hl; cases hl
      · exact ⟨l', v, by rw [e, List.concat_eq_append]⟩
    have hl' : l'.length = n := by simpa using hl
    rw [List.range_succ, List.map_append]
    refine Vals.append (ih l' hl' fun j w hj => h j w ?_) (.cons ?_ .nil)
    · rw [List.getElem?_append_left]
      · exact hj
      · exact (List.getElem?_eq_some_iff.mp hj).1
    · exact h n v (by rw [← hl']; simp)
theorem call_list_rng (hc : X.calm = true) : CallR X (.type "list") (fun xs H Q => ∃ (p : Addr) (lo hi : Int), xs = [.ref p] ∧ H p = some (.rng lo hi) ∧ -(2 ^ 62) ≤ lo ∧ lo < 2 ^ 62 ∧ -(2 ^ 62) ≤ hi ∧ hi < 2 ^ 62 ∧ (hi - lo).toNat ≤ 2 ^ 24 ∧
    ∀ l, H l = none → Q (.ref l) (upd H l (.lst ((List.range (hi - lo).toNat).map fun (i : Nat) => V.int (lo + (i : Int)))))) := by
  intro pins s σ H xs us Q I r h
  obtain ⟨p, lo, hi, rfl, hp, b1, b2, b3, b4, hz, q⟩ := h
  obtain ⟨u, rfl, ru⟩ := r.one
  cases ru
  obtain ⟨t, t', t'', e⟩ := (show ObjOk X.prog X.w H s.heap p (.rng lo hi) from I.hok p _ hp)
  have hsz : Builtin.Range.rangeSize lo hi 1 = (((hi - lo).toNat : Nat) : Int) := by rw [rangeSize_one]; split <;> omega
  refine call_list_range (I.ok.hd hc) e (small_one b1 b2 b3 b4) hsz hz fun h' tk acc' c' hk hS hacc => ?_
  refine ⟨.ref s.heap.objs.size, _, I.laid (o := .lst ((List.range (hi - lo).toNat).map fun (i : Nat) => V.int (lo + (i : Int)))) hk (Nat.le_refl _) ⟨?_, acc'.toList, c', ?_, by simpa using hS⟩, rfl, q _ I.fresh⟩
  · rw [List.length_map, List.length_range, sizeLine_eq]; omega
  · refine vals_of_items _ _ (by simpa using hacc.1) fun j v hj => ?_
    obtain ⟨t, rfl⟩ := hacc.2 j v (by simpa using hj)
    exact ⟨t, by rw [Int.mul_one]⟩
theorem range_all {bs : List Bool} : (List.range bs.length).all (fun i => bs.getD i false) = bs.all id := by
  induction bs with
  | nil => rfl
  | cons b bs ih =>
    rw [List.length_cons, List.range_succ_eq_map, List.all_cons, List.all_map, List.all_cons, ← ih]
    rfl
theorem truth_bl {bs : List Bool} {its : List Value} (rv : Vals (bs.map V.bl) its) (A : Around) : TruthOf X.prog X.w A (fun i v => its.toArray[i]? = some v) (fun i => bs.getD i false) := by
  intro i v s Q E hP hQ
  have hP' : its[i]? = some v := by simpa using hP
  have hi : i < (bs.map V.bl).length := by rw [rv.length]; exact (List.getElem?_eq_some_iff.mp hP').1
  have hi' : i < bs.length := by simpa using hi
  obtain ⟨u, hu, ru⟩ := rv.get (i := i) (x := V.bl bs[i]) (by simp [hi'])
  rw [hP'] at hu
  cases hu
  cases (show v = Value.bool bs[i] from ru)
  refine wpAny_truthy_bool ?_
  have e : bs.getD i false = bs[i] := by simp [hi']
  rw [← e]
  exact hQ
theorem call_all_bl (hc : X.calm = true) : CallR X (.builtin "all") (fun xs H Q => ∃ (p : Addr) (bs : List Bool), xs = [.ref p] ∧ SqL X.K H p (bs.map V.bl) ∧ Q (.bl (bs.all id)) H) := by
  intro pins s σ H xs us Q I r h
  obtain ⟨p, bs, rfl, hq, q⟩ := h
  obtain ⟨u, rfl, ru⟩ := r.one
  cases ru
  obtain ⟨its, rv, pl, hz⟩ := I.list hq
  obtain ⟨ol, el, cl, _⟩ := pl.isList
  refine call_all_walk (wpAny_pyIter_list pl.isList ?_)
  refine ⟨_, _, _, _, _, _, _, rfl, Walks.list (A := X.A.in1) (I.ok.hd hc) s.heap.objs.size p (Nat.ne_of_lt (Heap.lt_size el)) its.toArray, ⟨⟨_, Heap.get?_push_size _ rfl, rfl, rfl⟩, pl.isList.push _⟩, truth_bl rv _, fun h' tk hk => ?_⟩
  refine ⟨.bl _, H, I.kept fun b o e => hk b o (fun z => Nat.ne_of_lt (Heap.lt_size e) (by simpa using z)) (Heap.get?_push_of_some _ e), rfl, ?_⟩
  have e : its.toArray.size = bs.length := by rw [List.size_toArray, ← rv.length, List.length_map]
  rw [e, range_all]
  exact q
noncomputable def rInsert : V → List V → Hp → VK → Prop := fun x vs H Q => ∃ (l : Addr) (xs : List V) (i : Int) (y : V), x = .ref l ∧ vs = [.int i, y] ∧ H l = some (.lst xs) ∧ 0 ≤ i ∧ i ≤ xs.length ∧ xs.length < sizeLine ∧ Q .non (upd H l (.lst (xs.take i.toNat ++ y :: xs.drop i.toNat)))
theorem mt_insert : MtM X "list.insert" rInsert := by
  intro pins s σ H x vs v us Q I rx rv h
  obtain ⟨l, xs, i, y, rfl, rfl, hH, h0, hi, hz, q⟩ := h
  cases rx
  obtain ⟨u1, u2, rfl, ⟨t, ht⟩, ru⟩ := rv.two
  subst ht
  obtain ⟨z, its, n, r, hl, e⟩ := I.lstM hH
  have fits : ¬(!Builtin.List.listFitsIndex i) = true := by
    have := line63
    simp [Builtin.List.listFitsIndex]
    omega
  refine call_meets F.slot_list_insert ⟨_, e, rfl⟩ F.entry_list_insert (F.args_list_insert_3 _ _ _) (PySem.AutoListH.list_insert_list_int_val_1 l its.toArray n i t u2 fits (by rw [List.size_toArray]; omega)) ⟨e, ?_⟩
  refine ⟨.non, _, I.lset (its' := its.take i.toNat ++ u2 :: its.drop i.toNat) hH e ?_ ((r.take _).append (.cons ru (r.drop _))) ?_, rfl, q⟩
  · have h1 : ¬ i < 0 := by omega
    have h2 : min i.toNat its.length = i.toNat := by omega
    simp [h1, h2]
    exact List.take_of_length_le (by rw [List.length_drop]; exact Nat.le_refl _)
  · rw [List.length_append, List.length_cons, List.length_take, List.length_drop]; omega
end
mutual
inductive DV (K : W.Frag) (H : Hp) : V → PyData → Prop where
  | non : DV K H .non .none
  | bl (b : Bool) : DV K H (.bl b) (.bool b)
  | int (i : Int) : DV K H (.int i) (.int i)
  | str (x : Str) : DV K H (.str x) (.str x)
  | lst {a : Addr} {xs : List V} {ds : List PyData} : SqL K H a xs → DVs K H xs ds → DV K H (.ref a) (.list ds)
  | tup {a : Addr} {xs : List V} {ds : List PyData} : SqT K H a xs → DVs K H xs ds → DV K H (.ref a) (.tuple ds)
inductive DVs (K : W.Frag) (H : Hp) : List V → List PyData → Prop where
  | nil : DVs K H [] []
  | cons {x : V} {d : PyData} {xs : List V} {ds : List PyData} : DV K H x d → DVs K H xs ds → DVs K H (x :: xs) (d :: ds)
end
section
variable {X : Cx} {pins : List (Addr × Obj)} {σ : St} {H : Hp} {s : Shared}
mutual
theorem dv_reads (I : Inv X pins σ H s) : ∀ {x : V} {d : PyData} {u : Value}, DV X.K H x d → RelV x u → ∃ as, Reads s.heap u d as
  | _, _, u, .non, r => ⟨[], by cases (show u = Value.none from r); exact .none⟩
  | _, _, u, .bl b, r => ⟨[], by cases (show u = Value.bool b from r); exact .bool b⟩
  | _, _, u, .int i, r => ⟨[], by obtain ⟨t, rfl⟩ := (show ∃ t, u = Value.int i t from r); exact .int i t⟩
  | _, _, u, .str x, r => ⟨[], by obtain ⟨t, rfl⟩ := (show ∃ t, u = Value.str x t from r); exact .str x t⟩
  | _, _, u, @DV.lst _ _ a xs ds h hs, r => by
    cases (show u = Value.ref a from r)
    obtain ⟨its, rv, pl, _⟩ := I.list h
    obtain ⟨o, ho, hc, n, hd⟩ := pl.isList
    obtain ⟨as, ra⟩ := dvs_reads I hs rv
    exact ⟨a :: as, .list ho hc hd (by simpa using ra)⟩
  | _, _, u, @DV.tup _ _ a xs ds h hs, r => by
    cases (show u = Value.ref a from r)
    obtain ⟨its, rv, pl, _⟩ := I.tuple h
    obtain ⟨o, ho, hc, n, hd⟩ := pl
    obtain ⟨as, ra⟩ := dvs_reads I hs rv
    exact ⟨as, .tuple ho hc hd (by simpa using ra)⟩
theorem dvs_reads (I : Inv X pins σ H s) : ∀ {xs : List V} {ds : List PyData} {us : List Value}, DVs X.K H xs ds → Vals xs us → ∃ as, ReadsAll s.heap us ds as
  | _, _, _, .nil, .nil => ⟨[], .nil⟩
  | _, _, _, .cons h hs, .cons r rs => by
    obtain ⟨as, ra⟩ := dv_reads I h r
    obtain ⟨bs, rb⟩ := dvs_reads I hs rs
    exact ⟨as ++ bs, .cons ra rb⟩
end
end
section
variable {X : Cx}
noncomputable def rEqD (K : W.Frag) (neg : Bool) : R2 := fun x y H Q => ∃ da db, DV K H x da ∧ DV K H y db ∧ shaped da = true ∧ shaped db = true ∧ noMix da db = true ∧ Q (.bl (if neg then !same da db else same da db)) H
theorem op_eqD (hu : X.A.units + 64 < cLine) : OpR X (compareOp .Eq) (rEqD X.K false) := by
  intro pins s σ H x y v u Q I rx ry h
  obtain ⟨da, db, h1, h2, s1, s2, nm, q⟩ := h
  obtain ⟨as, ra⟩ := dv_reads I h1 rx
  obtain ⟨bs, rb⟩ := dv_reads I h2 ry
  exact eq_dataH_same ra rb s1 s2 hu nm ⟨.bl _, H, I, rfl, q⟩
theorem op_neD (hu : X.A.units + 64 < cLine) : OpR X (compareOp .NotEq) (rEqD X.K true) := by
  intro pins s σ H x y v u Q I rx ry h
  obtain ⟨da, db, h1, h2, s1, s2, nm, q⟩ := h
  obtain ⟨as, ra⟩ := dv_reads I h1 rx
  obtain ⟨bs, rb⟩ := dv_reads I h2 ry
  exact ne_dataH_same ra rb s1 s2 hu nm ⟨.bl _, H, I, rfl, q⟩
end
end L2
end
noncomputable section
namespace SW
open PySem
def Rise (xs : Array Nat) : Prop := xs.toList.Pairwise (· < ·)
theorem Rise.lt {xs : Array Nat} (h : Rise xs) {i j a b : Nat} (hij : i < j) (ha : xs[i]? = some a) (hb : xs[j]? = some b) : a < b := by
  rw [← Array.getElem?_toList] at ha hb
  obtain ⟨h1, rfl⟩ := List.getElem?_eq_some_iff.mp ha
  obtain ⟨h2, rfl⟩ := List.getElem?_eq_some_iff.mp hb
  exact List.pairwise_iff_getElem.mp h i j h1 h2 hij
theorem go_ok {xs : Array Nat} (h : Rise xs) (j : Nat) : ∀ (fuel lo hi : Nat), hi ≤ xs.size → lo ≤ hi → hi - lo ≤ fuel → (∀ k a, k < lo → xs[k]? = some a → a < j) → (∀ k a, hi ≤ k → xs[k]? = some a → j ≤ a) →
    SetTable.below.go xs j fuel lo hi ≤ xs.size ∧ (∀ k a, k < SetTable.below.go xs j fuel lo hi → xs[k]? = some a → a < j) ∧ (∀ k a, SetTable.below.go xs j fuel lo hi ≤ k → xs[k]? = some a → j ≤ a)
  | 0, lo, hi, hs, hl, hf, h1, h2 => by
    have e : lo = hi := by omega
    subst e
    exact ⟨hs, h1, h2⟩
  | fuel + 1, lo, hi, hs, hl, hf, h1, h2 => by
    unfold SetTable.below.go
    split
    · rename_i lt
      have hm : (lo + hi) / 2 < xs.size := by omega
      have hg : xs[(lo + hi) / 2]? = some (xs.getD ((lo + hi) / 2) j) := by simp [hm]
      dsimp only
      by_cases c : xs.getD ((lo + hi) / 2) j < j
      · rw [if_pos c]
        refine go_ok h j fuel ((lo + hi) / 2 + 1) hi hs (by omega) (by omega) (fun k a hk ha => ?_) h2
        rcases Nat.lt_or_ge k ((lo + hi) / 2) with hk' | hk'
        · exact Nat.lt_trans (h.lt hk' ha hg) c
        · have e : k = (lo + hi) / 2 := by omega
          subst e
          rw [hg] at ha; cases ha; exact c
      · rw [if_neg c]
        refine go_ok h j fuel lo ((lo + hi) / 2) (by omega) (by omega) (by omega) h1 (fun k a hk ha => ?_)
        rcases Nat.lt_or_ge ((lo + hi) / 2) k with hk' | hk'
        · have := h.lt hk' hg ha; omega
        · have e : k = (lo + hi) / 2 := by omega
          subst e
          rw [hg] at ha; cases ha; omega
    · have e : lo = hi := by omega
      subst e
      exact ⟨hs, h1, h2⟩
theorem below_ok {xs : Array Nat} (h : Rise xs) (j : Nat) : SetTable.below xs j ≤ xs.size ∧ (∀ k a, k < SetTable.below xs j → xs[k]? = some a → a < j) ∧ (∀ k a, SetTable.below xs j ≤ k → xs[k]? = some a → j ≤ a) :=
  go_ok h j _ 0 _ (Nat.le_refl _) (Nat.zero_le _) (by omega) (fun k a hk _ => by omega) (fun k a hk ha => by rw [Array.getElem?_eq_none hk] at ha; cases ha)
theorem below_at {xs : Array Nat} (h : Rise xs) {i : Nat} (hi : i ≤ xs.size) {j : Nat} (h1 : ∀ k a, k < i → xs[k]? = some a → a < j) (h2 : ∀ k a, i ≤ k → xs[k]? = some a → j ≤ a) : SetTable.below xs j = i := by
  obtain ⟨b0, b1, b2⟩ := below_ok h j
  rcases Nat.lt_trichotomy (SetTable.below xs j) i with q | q | q
  · have g : xs[SetTable.below xs j]? = some xs[SetTable.below xs j] := by simp [show SetTable.below xs j < xs.size by omega]
    have a1 := b2 _ _ (Nat.le_refl _) g
    have a2 := h1 _ _ q g
    omega
  · exact q
  · have g : xs[i]? = some xs[i] := by simp [show i < xs.size by omega]
    have a1 := b1 _ _ q g
    have a2 := h2 _ _ (Nat.le_refl _) g
    omega
theorem below_zero {xs : Array Nat} (h : Rise xs) : SetTable.below xs 0 = 0 := below_at h (Nat.zero_le _) (fun k a hk => by omega) (fun k a _ _ => Nat.zero_le _)
theorem below_next {xs : Array Nat} (h : Rise xs) {i j : Nat} (hj : xs[i]? = some j) : SetTable.below xs (j + 1) = i + 1 := by
  have hi : i < xs.size := by
    rcases Nat.lt_or_ge i xs.size with q | q
    · exact q
    · rw [Array.getElem?_eq_none q] at hj; cases hj
  refine below_at h hi (fun k a hk ha => ?_) (fun k a hk ha => ?_)
  · rcases Nat.lt_or_ge k i with q | q
    · have := h.lt q ha hj; omega
    · have e : k = i := by omega
      subst e; rw [hj] at ha; cases ha; omega
  · have := h.lt (show i < k by omega) hj ha; omega
theorem rise_put {xs : Array Nat} (h : Rise xs) {j : Nat} (hn : xs[SetTable.below xs j]? ≠ some j) : Rise (SetTable.insertAt xs (SetTable.below xs j) j) := by
  obtain ⟨b0, b1, b2⟩ := below_ok h j
  have h' : xs.toList.Pairwise (· < ·) := h
  show (SetTable.insertAt xs (SetTable.below xs j) j).toList.Pairwise (· < ·)
  rw [SetTable.toList_insertAt]
  have hd : ∀ a ∈ xs.toList.drop (SetTable.below xs j), j < a := fun a ha => by
    obtain ⟨k, hk, e⟩ := List.getElem_of_mem ha
    have g : xs[SetTable.below xs j + k]? = some a := by
      rw [← Array.getElem?_toList, ← List.getElem?_drop, List.getElem?_eq_some_iff]; exact ⟨hk, e⟩
    have le := b2 _ _ (Nat.le_add_right _ _) g
    rcases Nat.lt_or_eq_of_le le with q | q
    · exact q
    · subst q
      cases k with
      | zero => exact absurd g hn
      | succ k =>
        have hs : SetTable.below xs j < xs.size := by
          rcases Nat.lt_or_ge (SetTable.below xs j) xs.size with q | q
          · exact q
          · rw [Array.getElem?_eq_none (by omega)] at g; cases g
        have g0 : xs[SetTable.below xs j]? = some xs[SetTable.below xs j] := by simp [hs]
        have c1 := h.lt (by omega) g0 g
        have c2 := b2 _ _ (Nat.le_refl _) g0
        omega
  have ht : ∀ a ∈ xs.toList.take (SetTable.below xs j), a < j := fun a ha => by
    obtain ⟨k, hk, e⟩ := List.getElem_of_mem ha
    have hk' : k < SetTable.below xs j := by rw [List.length_take] at hk; omega
    have g : xs[k]? = some a := by
      rw [← Array.getElem?_toList, ← List.getElem?_take_of_lt hk', List.getElem?_eq_some_iff]; exact ⟨hk, e⟩
    exact b1 k a hk' g
  refine List.pairwise_append.mpr ⟨h'.sublist (List.take_sublist _ _), List.pairwise_cons.mpr ⟨hd, h'.sublist (List.drop_sublist _ _)⟩, fun a ha b hb => ?_⟩
  rcases List.mem_cons.mp hb with rfl | hb
  · exact ht a ha
  · exact Nat.lt_trans (ht a ha) (hd b hb)
def Off (t : SetTable) (j : Nat) : Prop := t.place[SetTable.below t.place j]? ≠ some j
theorem off_empty {t : SetTable} {j : Nat} (h : t.slot j = .empty) : Off t j := fun e => by
  unfold SetTable.slot at h
  simp only [e, beq_self_eq_true, if_true] at h
  cases h
theorem off_dummy {t : SetTable} {j : Nat} (h : t.slot j = .dummy) : Off t j := fun e => by
  unfold SetTable.slot at h
  simp only [e, beq_self_eq_true, if_true] at h
  cases h
theorem adv_dummy (t : SetTable) (p : SetTable.Probe) : (t.advance p).dummy = p.dummy := by
  unfold SetTable.advance
  split <;> rfl
theorem probe_off {t : SetTable} {f : Nat → Int} {h : Int} : ∀ (fuel : Nat) (p : SetTable.Probe) {j : Nat} {d : Option Nat}, (∀ x, p.dummy = some x → Off t x) → SetTable.probe.go t f h fuel p = some (.empty j d) → Off t j ∧ ∀ x, d = some x → Off t x
  | 0, _, _, _, _, e => by cases e
  | fuel + 1, p, j, d, hd, e => by
    unfold SetTable.probe.go at e
    split at e
    · rename_i q
      cases e
      exact ⟨off_empty q, hd⟩
    · rename_i q
      refine probe_off fuel _ (fun x hx => ?_) e
      rw [adv_dummy] at hx
      cases hx
      exact off_dummy q
    · split at e
      · cases e
      · refine probe_off fuel _ (fun x hx => ?_) e
        rw [adv_dummy] at hx
        exact hd x hx
theorem freeSlot_off {t : SetTable} {h : Int} {slot : Nat} {b : Bool} (e : t.freeSlot h = some (slot, b)) : Off t slot := by
  unfold SetTable.freeSlot at e
  split at e
  · rename_i j d q
    obtain ⟨o1, o2⟩ := probe_off _ _ (fun x hx => by cases hx) q
    cases e
    cases d with
    | none => exact o1
    | some x => exact o2 x rfl
  · cases e
structure Gd (bt : Bool) (t : SetTable) : Prop where
  led : bt = false → t.led = true
  rise : t.plain = true → Rise t.place
theorem gd_fresh (bt : Bool) : Gd bt (.fresh 0 0 (!bt)) := ⟨fun h => by rw [h]; rfl, fun _ => List.Pairwise.nil⟩
theorem Gd.off {bt : Bool} {t : SetTable} (g : Gd bt t) (n : Nat) : Gd bt (t.standIn n) := ⟨g.led, fun h => by cases h⟩
theorem gd_layNew {bt : Bool} {t : SetTable} (g : Gd bt t) (es : Array (Int × Value)) (h : Int) (x : Value) : Gd bt (layNew t es h x).2.1 := by
  unfold layNew
  split
  · rename_i slot wd e
    have o := freeSlot_off e
    show Gd bt ((t.put slot).1.orStandIn _)
    unfold SetTable.orStandIn
    have g1 : Gd bt (t.put slot).1 := ⟨g.led, fun hp => rise_put (g.rise hp) o⟩
    split
    · exact g1
    · exact g1.off _
  · exact g.off _
theorem rise_range {n : Nat} {f : Nat → Option Nat} : ((List.range n).filterMap fun j => (f j).map (j, ·)).Pairwise (fun a b => a.1 < b.1) := by
  refine List.pairwise_filterMap.mpr ((List.pairwise_lt_range (n := n)).imp fun {a b} hab x hx y hy => ?_)
  obtain ⟨_, _, rfl⟩ := msi hx
  obtain ⟨_, _, rfl⟩ := msi hy
  exact hab
theorem gd_relaid {bt : Bool} {t t' : SetTable} (g : Gd bt t) {hs : Array Int} {wt : Nat} {order : Array Nat} (e : t.relaid hs wt = some (t', order)) : Gd bt t' := by
  unfold SetTable.relaid SetTable.laid at e
  obtain ⟨owner, _, e⟩ := bsi e
  cases e
  exact ⟨g.led, fun _ => List.pairwise_map.mpr rise_range⟩
theorem gd_relayAll {bt : Bool} {t : SetTable} (g : Gd bt t) (es : Array (Int × Value)) (wt : Nat) : Gd bt (relayAll t es wt).2.1 := by
  unfold relayAll
  split
  · rename_i t' order e
    have g' := gd_relaid g e
    dsimp only
    split
    · exact g'
    · exact g.off _
  · exact g.off _
theorem perm_erase {α : Type} : ∀ {l : List α} {i : Nat} {x : α}, l[i]? = some x → l.Perm (x :: l.eraseIdx i)
  | [], i, x, h => by simp at h
  | y :: r, 0, x, h => by
    have e : y = x := by simpa using h
    subst e; exact .refl _
  | y :: r, i + 1, x, h => by
    have h' : r[i]? = some x := by simpa using h
    exact (List.Perm.cons y (perm_erase h')).trans (List.Perm.swap x y _)
theorem pick_perm {α : Type} (next : Nat → Nat) : ∀ (fuel k : Nat) (left : List α) (out : Array α), left.length = fuel → (pickOrder.go next fuel k left out).toList.Perm (out.toList ++ left)
  | 0, k, left, out, h => by
    have : left = [] := List.length_eq_zero_iff.mp h
    subst this
    unfold pickOrder.go; rw [List.append_nil]
  | fuel + 1, k, left, out, h => by
    unfold pickOrder.go
    have hm : next k % left.length < left.length := Nat.mod_lt _ (by omega)
    have e : left[next k % left.length]? = some left[next k % left.length] := by simp [hm]
    rw [e]
    dsimp only
    refine (pick_perm next fuel (k + 1) _ _ (by rw [List.length_eraseIdx]; simp [hm]; omega)).trans ?_
    rw [Array.toList_push, List.append_assoc]
    exact List.Perm.append_left _ (perm_erase e).symm
theorem pickOrder_perm {α : Type} (next : Nat → Nat) (xs : Array α) : (pickOrder next xs).toList.Perm xs.toList := by
  have := pick_perm next xs.size 0 xs.toList #[] (by simp)
  simpa [pickOrder] using this
end SW
end
noncomputable section
namespace SW
open PySem
noncomputable def toI : Value → Int
  | .int i _ => i
  | _ => 0
noncomputable def keys (es : Array (Int × Value)) : List Int := es.toList.map fun e => toI e.2
noncomputable def byT (w : World) : Bool := w.params.followText "set-order"
structure At (prog : Program) (w : World) (h : Heap) (a : Addr) (es : Array (Int × Value)) (ep : Nat) (t : SetTable) : Prop where
  obj : h.get? a = some { cls := .type "set", dict := none, data := .set es ep t, slots := #[] }
  fit : t.fits es.size = true
  gd : Gd (byT w) t
  el : ElemsOf (intKind prog w) es.toList
  bnd : es.size < scanBound
  nd : (keys es).Nodup
section
variable {prog : Program} {w : World} {A : Around} {E : Value → Shared → Prop} {s : Shared} {a : Addr} {es : Array (Int × Value)} {ep : Nat} {t : SetTable}
theorem At.keep {h h' : Heap} (H : At prog w h a es ep t) (k : ∀ o, h.get? a = some o → h'.get? a = some o) : At prog w h' a es ep t := ⟨k _ H.obj, H.fit, H.gd, H.el, H.bnd, H.nd⟩
theorem elem_int {l : List (Int × Value)} (h : ElemsOf (intKind prog w) l) {e : Int × Value} (he : e ∈ l) : ∃ tk, e.2 = .int (toI e.2) tk := by
  obtain ⟨⟨k, hk, _⟩, _⟩ := h e he
  obtain ⟨tk, e2⟩ := Value.isInt_shape (k := k) (v := e.2) hk
  rw [e2]; exact ⟨tk, rfl⟩
theorem is_toI {l : List (Int × Value)} (h : ElemsOf (intKind prog w) l) {e : Int × Value} (he : e ∈ l) (k : Int) : (intKind prog w).is k e.2 = true ↔ toI e.2 = k := by
  constructor
  · intro q
    obtain ⟨tk, e2⟩ := Value.isInt_shape (k := k) (v := e.2) q
    rw [e2]; rfl
  · intro q
    obtain ⟨tk, e2⟩ := elem_int h he
    rw [e2, q]; exact intKind_is _ _ _ _
def Plus (ks : List Int) (k : Int) (ks' : List Int) : Prop := ks'.Nodup ∧ ∀ x, x ∈ ks' ↔ x ∈ ks ∨ x = k
theorem laid_at {o : Obj} {es' : Array (Int × Value)} {t' : SetTable} (ho : s.heap.get? a = some { cls := .type "set", dict := none, data := .set es ep t, slots := #[] }) :
    (s.heap.update a (Obj.putSet es' t')).get? a = some { cls := .type "set", dict := none, data := .set es' (ep + 1) t', slots := #[] } := by
  have := Heap.get?_update_self (Obj.putSet es' t') ho rfl
  exact this
theorem keys_perm {x y : Array (Int × Value)} (p : x.toList.Perm y.toList) : (keys x).Perm (keys y) := p.map _
theorem plus_perm {ks ks' ks2 : List Int} {k : Int} (p : Plus ks k ks') (q : ks2.Perm ks') : Plus ks k ks2 := ⟨q.nodup_iff.mpr p.1, fun x => q.mem_iff.trans (p.2 x)⟩
theorem add_ok {k : Int} {tk : Tok} {Q : Bool → Shared → Prop} (H : At prog w s.heap a es ep t) (room : es.size + 1 < scanBound)
    (h : ∀ b h' es' ep' t', Heap.SameBut a s.heap h' → At prog w h' a es' ep' t' → es'.size ≤ es.size + 1 → Plus (keys es) k (keys es') → Q b { s with heap := h' }) :
    wpAny (model prog w) A (setAddHashed a (.int k tk) ((intKind prog w).hash k)) Q E s := by
  have hk := intKind_is prog w k tk
  have hsc : (Value.int k tk).scannable = true := rfl
  unfold setAddHashed setAddHashedIn
  refine wpAny_holding (wpAny_bind (wpAny_setState_of H.obj rfl H.fit ?_))
  dsimp only
  rw [byScan_of hsc H.bnd H.el, if_pos rfl]
  unfold setAddByScan
  refine wpAny_bind (wpAny_bind (wpAny_rule (wpAny_bind (wpAny_setScan_of hk H.obj rfl H.fit H.el ?_))))
  cases hr : List.findIdx? (fun e => (intKind prog w).is k e.2) es.toList with
  | some j =>
    obtain ⟨hj, pj, _⟩ := List.findIdx?_eq_some_iff_getElem.mp hr
    have hm := List.getElem_mem hj
    have kk : k ∈ keys es := List.mem_map.mpr ⟨_, hm, (is_toI H.el hm k).mp pj⟩
    dsimp only
    refine wpAny_pure (wpAny_pure ?_)
    have := h false s.heap es ep t (Heap.SameBut.refl a s.heap) H (Nat.le_succ _) ⟨H.nd, fun x => ⟨.inl, fun z => z.elim id fun z => z ▸ kk⟩⟩
    exact this
  | none =>
    have nk : k ∉ keys es := fun z => by
      obtain ⟨e, he, q⟩ := List.mem_map.mp z
      have := List.findIdx?_eq_none_iff.mp hr e he
      rw [(is_toI H.el he k).mpr q] at this; cases this
    have gw : ∀ (b : Bool) {s₁ : Shared} {Q' : Unit → Shared → Prop}, Q' () s₁ → wpAny (model prog w) A (match b with | true => rule "set.scan.the-table-gave-way" | false => pure ()) Q' E s₁ :=
      fun b s₁ Q' hq => by cases b <;> first | exact wpAny_pure hq | exact wpAny_rule hq
    dsimp only
    have hp := layNew_perm t es ((intKind prog w).hash k) (.int k tk)
    have hf := layNew_fits t es ((intKind prog w).hash k) (.int k tk)
    have hg := gd_layNew H.gd es ((intKind prog w).hash k) (.int k tk)
    generalize layNew t es ((intKind prog w).hash k) (.int k tk) = L at hp hf hg ⊢
    obtain ⟨es1, t1, wd, gv⟩ := L
    dsimp only at hp hf hg ⊢
    have z1 : es1.size = es.size + 1 := by rw [← Array.length_toList, hp.length_eq]; simp
    rw [Array.toList_push] at hp
    have el1 : ElemsOf (intKind prog w) es1.toList := (H.el.push hk hsc).perm hp
    have pl : Plus (keys es) k (keys es1) := by
      have p1 : (keys es1).Perm (keys es ++ [k]) := by
        have := hp.map fun e => toI e.2
        rw [List.map_append] at this
        exact this
      refine ⟨p1.nodup_iff.mpr (List.nodup_append.mpr ⟨H.nd, by simp, fun x hx y hy => ?_⟩), fun x => ?_⟩
      · rw [List.mem_singleton] at hy
        subst hy
        exact fun e => nk (e ▸ hx)
      · rw [p1.mem_iff, List.mem_append, List.mem_singleton]
    refine wpAny_bind (gw _ ?_)
    have hv : (if t1.plain = true then hashByValue 8 (Value.int k tk) else pure true) = pure true := by
      split
      · rw [hashByValue_scannable 8 hsc]; rfl
      · rfl
    have tail : wpAny (model prog w) A (do
        storeSet a es1 t1
        if (!wd && t1.tooFull) = true then do
            (match (relayAll t1 es1 (SetTable.grown es1.size)).2.2 with | true => rule "set.scan.the-table-gave-way" | false => pure ())
            storeSet a (relayAll t1 es1 (SetTable.grown es1.size)).1 (relayAll t1 es1 (SetTable.grown es1.size)).2.1
            pure (some true)
          else pure (some true)) (fun r s' => r = some true ∧ ∃ h' es' ep' t', s' = { s with heap := h' } ∧ Heap.SameBut a s.heap h' ∧ At prog w h' a es' ep' t' ∧ es'.size ≤ es.size + 1 ∧ Plus (keys es) k (keys es')) E s := by
      refine wpAny_bind (wpAny_storeSet_of H.obj rfl ?_ (fits_of_scanBound (by omega)))
      have o1 := laid_at (s := s) (o := {cls := .none, data := .dict #[] 0}) (es' := es1) (t' := t1) H.obj
      have b1 := Heap.SameBut.update s.heap a (Obj.putSet es1 t1)
      split
      · have rp := relayAll_perm t1 es1 (SetTable.grown es1.size)
        have rf := relayAll_fits t1 es1 (SetTable.grown es1.size)
        have rg := gd_relayAll hg es1 (SetTable.grown es1.size)
        generalize relayAll t1 es1 (SetTable.grown es1.size) = L at rp rf rg ⊢
        obtain ⟨es2, t2, gv2⟩ := L
        dsimp only at rp rf rg ⊢
        have z2 : es2.size = es1.size := by rw [← Array.length_toList, rp.length_eq, Array.length_toList]
        refine wpAny_bind (gw _ (wpAny_bind (wpAny_storeSet_of o1 rfl ?_ (fits_of_scanBound (by omega)))))
        have o2 := laid_at (s := { s with heap := s.heap.update a (Obj.putSet es1 t1) }) (o := {cls := .none, data := .dict #[] 0}) (es' := es2) (t' := t2) o1
        have p2 := plus_perm pl (keys_perm rp)
        exact wpAny_pure ⟨rfl, _, es2, _, t2, rfl, b1.trans (Heap.SameBut.update _ a _), ⟨o2, rf, rg, el1.perm rp, by omega, p2.1⟩, by omega, p2⟩
      · exact wpAny_pure ⟨rfl, _, es1, _, t1, rfl, b1, ⟨o1, hf, hg, el1, by omega, pl.1⟩, by omega, pl⟩
    have fin : ∀ r s', (r = some true ∧ ∃ h' es' ep' t', s' = { s with heap := h' } ∧ Heap.SameBut a s.heap h' ∧ At prog w h' a es' ep' t' ∧ es'.size ≤ es.size + 1 ∧ Plus (keys es) k (keys es')) →
        wpAny (model prog w) A (match r with | some added => pure added | none => setAddHashedIn a (.int k tk) ((intKind prog w).hash k) 99999) Q E s' := by
      rintro r s' ⟨rfl, h', es', ep', t', rfl, q1, q2, q3, q4⟩
      exact wpAny_pure (h true h' es' ep' t' q1 q2 q3 q4)
    have hv2 : (if true = true then t1 else ({ t1 with plain := false } : SetTable)) = t1 := if_pos rfl
    split
    · refine wpAny_bind ?_
      rw [hashByValue_scannable 8 hsc]
      refine wpAny_pure ?_
      exact wpAny_mono tail fin fun _ _ z => z
    · refine wpAny_bind (wpAny_pure ?_)
      exact wpAny_mono tail fin fun _ _ z => z
end
end SW
end
noncomputable section
namespace SW
open PySem
section
variable {prog : Program} {w : World} {A : Around} {R : Result → Shared → Prop} {I : Addr} {fp wr : List Addr} {G : Array GenState → Array GenState → Prop} {n : Nat} {P : Nat → Value → Prop} {St : Nat → Shared → Prop}
theorem loop_ok (W : WalksS prog w A.in1 I fp wr G n P St) (S : Addr) (hSf : S ∉ fp) (val : Nat → Int) (hval : ∀ i v, P i v → ∃ t, v = .int (val i) t) (hb : n + 1 < scanBound) :
    ∀ (k i : Nat) (s : Shared) (es : Array (Int × Value)) (ep : Nat) (t : SetTable), n - i = k → i ≤ n → St i s → At prog w s.heap S es ep t → es.size ≤ i → (∀ x, x ∈ keys es ↔ ∃ j, j < i ∧ val j = x) →
      (∀ s' es' ep' t', Moved (S :: wr) G s s' → At prog w s'.heap S es' ep' t' → es'.size ≤ n → (∀ x, x ∈ keys es' ↔ ∃ j, j < n ∧ val j = x) → R (.ok (.ret .none)) s') →
      codeAny (model prog w) A (.builtin "set.update.loop" ⟨[.ref S, .ref I], []⟩) R s := by
  have hSw : S ∉ wr := fun h => hSf (W.sub _ h)
  have up : ∀ b ∈ wr, b ∈ S :: wr := fun b hb => List.mem_cons_of_mem _ hb
  intro k
  induction k with
  | zero =>
    intro i s es ep t hk hi hst H z m hR
    have e : i = n := by omega
    subst e
    refine codeAny_builtin PyProof.Rows.F.entry_set_update_loop ?_
    rw [Around.under_plainId PyProof.Rows.F.plain_set_update_loop _]
    refine wpAny_bind (m := pyNext (.ref I)) (W.done s _ _ hst fun s' hm => ?_)
    exact wpAny_pure (hR s' es ep t (hm.mono up) (H.keep fun o e => hm.heap S o hSw e) z m)
  | succ k ih =>
    intro i s es ep t hk hi hst H z m hR
    have lt : i < n := by omega
    refine codeAny_builtin PyProof.Rows.F.entry_set_update_loop ?_
    rw [Around.under_plainId PyProof.Rows.F.plain_set_update_loop _]
    refine wpAny_bind (m := pyNext (.ref I)) (W.item i s _ _ lt hst fun v s' hP st' hm => ?_)
    obtain ⟨tk, rfl⟩ := hval i v hP
    have H' : At prog w s'.heap S es ep t := H.keep fun o e => hm.heap S o hSw e
    refine wpAny_bind (m := holding [Value.int (val i) tk] (setAdd S (.int (val i) tk))) (wpAny_holding ?_)
    unfold setAdd
    refine wpAny_holding (wpAny_bind ((intKind prog w).pyHash (k := val i) (intKind_is _ _ _ _) ?_))
    refine add_ok (s := { s' with toks := s'.toks + 1 }) H' (by omega) fun b h' es' ep' t' sb H2 z2 pl => ?_
    refine wpAny_pure ⟨plainId_quiet PyProof.Rows.F.plain_set_update_loop _, ih (i + 1) _ es' ep' t' (by omega) lt (W.frame _ s' _ _ st' (Nat.le_succ _) fun b hb o e => ?_) H2 (by omega) (fun x => ?_) fun s'' es2 ep2 t2 m2 H3 z3 q3 => ?_⟩
    · rw [sb.2 b (fun h : b = S => hSf (by rw [← h]; exact hb))]; exact e
    · rw [pl.2 x, m x]
      constructor
      · rintro (⟨j, hj, e⟩ | rfl)
        · exact ⟨j, by omega, e⟩
        · exact ⟨i, by omega, rfl⟩
      · rintro ⟨j, hj, e⟩
        rcases Nat.lt_or_ge j i with q | q
        · exact .inl ⟨j, q, e⟩
        · exact .inr (by rw [← e, show j = i by omega])
    · refine hR s'' es2 ep2 t2 (Moved.trans W.gtrans ((hm.mono up).then_heap (Nat.le_succ _) fun b o hb e => ?_) m2) H3 z3 q3
      rw [sb.2 b (fun h : b = S => hb (by rw [h]; exact List.mem_cons_self))]; exact e
end
section
variable {prog : Program} {w : World} {A : Around} {E : Value → Shared → Prop} {s : Shared}
noncomputable abbrev newObj0 (w : World) : Obj := { cls := .type "set", dict := none, data := .set #[] 0 (.fresh 0 0 (!byT w)) }
theorem new_ok (a : Value) {Q : Value → Shared → Prop} (h : Q (.ref s.heap.objs.size) { s with heap := s.heap.push (newObj0 w) }) :
    codeAny (model prog w) A (.call (.builtin "set.__new__") ⟨[.type "set", a], []⟩) (wants Q E) s := by
  refine codeAny_of_tree ?_
  refine wpAny_bind (m := checkBuiltinCall "set.__new__" ⟨[.type "set", a], []⟩) (wpAny_of_eq (F.newCall_set_1 a) (wpAny_pure ⟨plainId_quiet F.plain_set_new _, codeAny_builtin F.entry_set_new ?_⟩))
  rw [Around.under_plainId F.plain_set_new _]
  unfold Builtin.«set.__new__» Builtin.Frozenset.newClass
  have hsub := sub_set_self
  obtain ⟨hp, g, d, tk, os⟩ := s
  dsimp only
  wp_walk
  refine wpAny_askSetting (wpAny_pure ?_)
  dsimp only
  simp only [newObj]
  exact wpAny_bind (wpAny_alloc (wpAny_pure (wpAny_pure h)))
end
end SW
end
noncomputable section
namespace SW
open PySem
section
variable {prog : Program} {w : World} {A : Around} {E : Value → Shared → Prop} {s : Shared}
def Done (prog : Program) (w : World) (s : Shared) (ns : List Int) (s₂ : Shared) : Prop :=
  ∃ h' tk es ep t, s₂ = { s with heap := h', toks := tk } ∧ At prog w h' s.heap.objs.size es ep t ∧ es.size ≤ ns.length ∧ (∀ x, x ∈ keys es ↔ x ∈ ns) ∧ (∀ b o, b < s.heap.objs.size → s.heap.get? b = some o → h'.get? b = some o)
theorem mem_getD {ns : List Int} (x : Int) : (∃ j, j < ns.length ∧ ns.getD j 0 = x) ↔ x ∈ ns := by
  constructor
  · rintro ⟨j, hj, e⟩
    rw [← e, show ns.getD j 0 = ns[j] by simp [hj]]; exact List.getElem_mem hj
  · intro h
    obtain ⟨j, hj, e⟩ := List.getElem_of_mem h
    exact ⟨j, hj, by rw [show ns.getD j 0 = ns[j] by simp [hj]]; exact e⟩
theorem init_ok {l : Addr} {items : Array Value} {ns : List Int} (hh : A.handled = none) (hl : s.heap.IsList l items) (hi : PyProof.Rows.IntsAre items.toList ns) (hb : items.size + 1 < scanBound) :
    codeAny (model prog w) A (.call (.builtin "set.__init__") ⟨[.ref s.heap.objs.size, .ref l], []⟩) (wants (fun r s₂ => r = .none ∧ Done prog w s ns s₂) E) { s with heap := s.heap.push (newObj0 w) } := by
  have hS : (s.heap.push (newObj0 w)).get? s.heap.objs.size = some (newObj0 w) := Heap.get?_push_size _ rfl
  have hT : Shared.TypeIs { s with heap := s.heap.push (newObj0 w) } (.ref s.heap.objs.size) "set" := ⟨_, hS, rfl⟩
  refine codeAny_call_builtin F.called_set.init.plain F.entry_set_init (check_set_init_1 hT ?_)
  obtain ⟨ol, hol, hcl, nl, hdl⟩ := hl
  obtain ⟨ocls, odict, odata, oslots⟩ := ol
  dsimp only at hcl hdl
  subst hcl; subst hdl
  have lS : l < s.heap.objs.size := Heap.lt_size hol
  have hol' : (s.heap.push (newObj0 w)).get? l = some { cls := .type "list", dict := odict, data := .seq items nl, slots := oslots } := Heap.get?_push_of_some _ hol
  have q1 := F.sub_list_set
  have q2 := F.sub_list_frozenset
  have q3 : (Value.type "list" == Value.type "dict") = false := by decide
  have hl1 : (s.heap.push (newObj0 w)).IsList l items := ⟨_, hol', rfl, nl, rfl⟩
  unfold Builtin.«set.__init__» noKeywords Builtin.Frozenset.updateFrom
  generalize hPI : pyIter = PI
  wp_walk
  subst hPI
  refine wpAny_pyIter_list hl1 (wpAny_bind (wpAny_runValue ?_))
  have len : items.size = ns.length := by have := hi.length; rw [Array.length_toList] at this; exact this
  refine loop_ok ((Walks.list (A := A.in1.in1) (by simp [hh]) _ l ?_ items).toS) s.heap.objs.size ?_ (fun i => ns.getD i 0) (fun i v hv => PyProof.Rows.IntsAre.int_at hi i v (by rw [Array.getElem?_toList]; exact hv)) hb (items.size - 0) 0 _ #[] 0 (.fresh 0 0 (!byT w)) (by omega) (Nat.zero_le _)
    ?_ ⟨?_, rfl, gd_fresh _, fun e he => by simp at he, by decide, by simp [keys]⟩ (Nat.le_refl _) (fun x => by simp [keys]) ?_
  · rw [Heap.size_push]; exact Nat.ne_of_lt (Nat.lt_succ_of_lt lS)
  · rw [Heap.size_push]; simp only [List.mem_cons, List.mem_singleton, List.not_mem_nil, or_false, not_or]
    exact ⟨Nat.ne_of_lt (Nat.lt_succ_self _), Nat.ne_of_gt lS⟩
  · exact ⟨⟨_, Heap.get?_push_size _ rfl, rfl, rfl⟩, (hl1.push _)⟩
  · exact Heap.get?_push_of_some _ hS
  · intro s' es' ep' t' hm H z m
    obtain ⟨h', g', d', tk', os'⟩ := s'
    have eg : g' = s.gens := hm.gens
    have ed : d' = s.drawn := hm.drawn
    have eo : os' = s.os := hm.os
    subst eg; subst ed; subst eo
    refine wpAny_pure (wpAny_pure ⟨rfl, h', tk', es', ep', t', rfl, H, by omega, fun x => ?_, fun b o hb e => ?_⟩)
    · rw [m x, len]; exact mem_getD x
    · refine hm.heap b o ?_ (Heap.get?_push_of_some _ (Heap.get?_push_of_some _ e))
      simp only [List.mem_cons, List.mem_singleton, List.not_mem_nil, or_false, not_or, Heap.size_push]
      exact ⟨Nat.ne_of_lt hb, Nat.ne_of_lt (Nat.lt_succ_of_lt hb)⟩
set_option maxHeartbeats 3200000 in
theorem set_ok {l : Addr} {items : Array Value} {ns : List Int} {Q : Value → Shared → Prop} (hh : A.handled = none) (hl : s.heap.IsList l items) (hi : PyProof.Rows.IntsAre items.toList ns) (hb : items.size + 1 < scanBound)
    (h : ∀ s₂, Done prog w s ns s₂ → Q (.ref s.heap.objs.size) s₂) : wpAny (model prog w) A (call (.type "set") [.ref l]) Q E s := by
  obtain ⟨c, tl, hmro⟩ := F.called_set.mro
  have hmade := F.called_set.made
  have hsub := F.called_set.sub
  refine wpAny_call (codeAny_of_tree ?_)
  show wpAny _ _ (callAny (.type "set") _) _ _ _
  refine wpAny_pure ⟨Code.quiet_builtin _ (by decide +kernel), codeAny_builtin F.entry_type_call ?_⟩
  rw [Around.under_plain (weight_type_call_type "set" [.ref l] []) rfl]
  have h1 := F.called_set.notType
  have h2 := F.called_set.canCreate
  have hct := F.typeCall_set_1 (.ref l)
  repeat (any_goals (first | assumption | wp_step))
  refine codeAny_mono (new_ok (.ref l) (E := E) (Q := fun obj s₁ => obj = .ref s.heap.objs.size ∧ s₁ = { s with heap := s.heap.push (newObj0 w) }) ⟨rfl, rfl⟩) fun r s₁ hr => ?_
  cases r with
  | error e => exact hr
  | ok fl =>
    cases fl with
    | ret obj =>
      obtain ⟨rfl, rfl⟩ := hr
      have hS : (s.heap.push (newObj0 w)).get? s.heap.objs.size = some (newObj0 w) := Heap.get?_push_size _ rfl
      have hT : Shared.TypeIs { s with heap := s.heap.push (newObj0 w) } (.ref s.heap.objs.size) "set" := ⟨_, hS, rfl⟩
      have hli := F.called_set.init.lookup
      have hbi := F.called_set.init.bind (.ref s.heap.objs.size)
      repeat (any_goals (first | assumption | wp_step))
      refine codeAny_mono (init_ok (E := E) (ns := ns) ?_ hl hi hb) fun r₂ s₂ hr₂ => ?_
      · simp [hh]
      · cases r₂ with
        | error e => exact hr₂
        | ok fl₂ =>
          cases fl₂ with
          | ret r =>
            obtain ⟨rfl, D⟩ := hr₂
            repeat (any_goals (first | assumption | wp_step))
            exact h _ D
          | _ => exact hr₂.elim
    | _ => exact hr.elim
end
end SW
end
noncomputable section
namespace SW
open PySem
theorem slot_next : Slot "set_iterator" "__next__" "set_iterator.__next__" := .of (owner := "set_iterator") (n := "__next__")
  (by rw [typeLookup_type, builtinLookup_eq_fast]; kernel_rfl) (by decide +kernel) (by decide +kernel) (by decide +kernel) (by first | exact .inl (by decide +kernel) | exact .inr (by decide +kernel)) (by rw [isSubtype_type]; kernel_rfl)
theorem entry_next : entryFor table "set_iterator.__next__" = some Builtin.«set_iterator.__next__» := entryFor_of_tree (by kernel_rfl)
theorem args_next (a : Value) : argsOk "set_iterator.__next__" ⟨[a], []⟩ := by unfold argsOk; kernel_rfl
theorem entry_iter : entryFor table "set.__iter__" = some Builtin.«frozenset.__iter__» := entryFor_alias (id' := "frozenset.__iter__") (by kernel_rfl) rfl (by decide +kernel) (by kernel_rfl)
noncomputable abbrev itO (first : Value) (i : Nat) (S : Addr) (n ep : Nat) : Obj := { cls := .type "set_iterator", data := .fields #[first, .int i 0, .ref S, .int n 0, .int ep 0] }
noncomputable def dr (es : Array (Int × Value)) (t : SetTable) : Bool := !t.plain && decide (es.size > 1)
inductive Md (w : World) (S : Addr) (es : Array (Int × Value)) (ep : Nat) (t : SetTable) (h : Heap) : Value → Nat → Option (Value × Value) → Prop
  | text (i : Nat) (b : byT w = true) : Md w S es ep t h (.int 0 0) i (((pickOrder (w.params.setOrder S ep) es)[i]?).map fun e => (e.2, .int 0 0))
  | place (i slot : Nat) (b : byT w = false) (d : dr es t = false) (e : SetTable.below t.place slot = i) (l : t.led = true ∨ es = #[]) : Md w S es ep t h (.int slot 0) i ((es[i]?).map fun e => (e.2, .int ((t.place.getD i 0 + 1 : Nat) : Int) 0))
  | draw (i : Nat) (T : Addr) (L : List Nat) (ho : h.get? T = some { cls := .type "tuple", data := .seq (L.map fun (k : Nat) => rawInt k).toArray }) (lt : ∀ k ∈ L, k < es.size) :
      Md w S es ep t h (.ref T) i ((L[i]?).bind fun k => (es[k]?).map fun e => (e.2, .ref T))
section
variable {prog : Program} {w : World} {A : Around} {E : Value → Shared → Prop} {s : Shared} {I S : Addr} {es : Array (Int × Value)} {ep : Nat} {t : SetTable}
theorem stop_ok {Q : Option Value → Shared → Prop} {s₁ : Shared} (hh : A.handled = none) (hq : ∀ h', (∀ b o, s₁.heap.get? b = some o → h'.get? b = some o) → Q none { s₁ with heap := h' }) :
    wpAny (model prog w) A.in1 (newExc (.type "StopIteration") [] >>= fun x => (raiseNew x : Sem Fin)) (fun _ _ => False) (fun e s' => wpAny (model prog w) A (do
      let r ← isInstance e (.type "StopIteration")
      if r = true then pure none else throw e) Q E s') s₁ := by
  refine wpAny_bind ?_
  simp only [newExc, newTuple]
  refine wpAny_bind (wpAny_newObj_type ?_ (by size_fits))
  refine wpAny_bind (m := firstArgMember _ _) (wpAny_of_eq (a := Value.none) (by first | rfl | (simp only [firstArgMember]; rfl)) ?_)
  refine wpAny_newObj_type ?_ (by size_fits)
  simp only [raiseNew]
  refine wpAny_bind (wpAny_handled ?_)
  rw [show A.in1.handled = none from hh]
  refine wpAny_bind (wpAny_pure (wpAny_throw ?_))
  refine wpAny_bind (wpAny_isInstance (T := "StopIteration") (b := true) ⟨_, Heap.get?_push_size _ rfl, rfl⟩ isSubtype_stop ?_)
  exact wpAny_pure (hq _ fun b o e => Heap.get?_push_of_some _ (Heap.get?_push_of_some _ e))
end
end SW
end
noncomputable section
namespace SW
open PySem
section
variable {prog : Program} {w : World} {A : Around} {E : Value → Shared → Prop} {s : Shared} {I S : Addr} {es : Array (Int × Value)} {ep : Nat} {t : SetTable}
theorem moved_at {first f' : Value} {i n ep : Nat} (ho : s.heap.get? I = some (itO first i S n ep)) :
    ((s.heap.update I (Obj.mapFields (·.setIfInBounds 0 f'))).update I (Obj.mapFields (·.setIfInBounds 1 (rawInt ((i : Int) + 1))))).get? I = some (itO f' (i + 1) S n ep) :=
  (Heap.get?_update_self (Obj.mapFields (·.setIfInBounds 1 (rawInt ((i : Int) + 1)))) (Heap.get?_update_self (Obj.mapFields (·.setIfInBounds 0 f')) ho rfl) rfl)
theorem moved_at1 {first : Value} {i n ep : Nat} (ho : s.heap.get? I = some (itO first i S n ep)) :
    (s.heap.update I (Obj.mapFields (·.setIfInBounds 1 (rawInt ((i : Int) + 1))))).get? I = some (itO first (i + 1) S n ep) :=
  Heap.get?_update_self (Obj.mapFields (·.setIfInBounds 1 (rawInt ((i : Int) + 1)))) ho rfl
theorem next_ok {first : Value} {i : Nat} {r : Option (Value × Value)} {Q : Option Value → Shared → Prop} (hh : A.handled = none) (ho : s.heap.get? I = some (itO first i S es.size ep)) (H : At prog w s.heap S es ep t) (m : Md w S es ep t s.heap first i r)
    (hi : ∀ v f' h', r = some (v, f') → h'.get? I = some (itO f' (i + 1) S es.size ep) → Heap.SameBut I s.heap h' → Q (some v) { s with heap := h' })
    (hn : r = none → ∀ h', (∀ b o, b ≠ I → s.heap.get? b = some o → h'.get? b = some o) → Q none { s with heap := h' }) : wpAny (model prog w) A (pyNext (.ref I)) Q E s := by
  unfold pyNext
  refine wpAny_bind (wpAny_attempt (wpAny_callSpecial?_slot (name := Str.ofString "__next__") ⟨_, ho, rfl⟩ slot_next (wpAny_call_entry slot_next ⟨_, ho, rfl⟩ entry_next ?_ (args_next _))))
  unfold Builtin.«set_iterator.__next__» slotArgs
  simp only [List.isEmpty_nil, Bool.not_true, Bool.false_eq_true, ↓reduceIte, bind_assoc, List.length_nil, bne_self_eq_false]
  refine wpAny_bind (wpAny_pure ?_)
  dsimp only
  refine wpAny_bind (wpAny_fieldsOf ho rfl ?_)
  dsimp only
  refine wpAny_bind (wpAny_setEntries_of H.obj rfl H.fit ?_)
  rw [if_neg (by simp)]
  have ended : ∀ h', (∀ b o, b ≠ I → s.heap.get? b = some o → h'.get? b = some o) → r = none → wpAny (model prog w) A.in1 (newExc (.type "StopIteration") [] >>= fun x => (raiseNew x : Sem Fin))
      (fun fin s' => ∃ v, fin = Fin.done (Flow.ret v) ∧ wpAny (model prog w) A (pure (some v)) Q E s') (fun e s' => wpAny (model prog w) A (do
        let r ← isInstance e (.type "StopIteration")
        if r = true then pure none else throw e) Q E s') { s with heap := h' } := fun h' k z =>
    wpAny_mono (stop_ok hh fun h2 k2 => hn z h2 fun b o hb e => k2 b o (k b o hb e)) (fun _ _ z => z.elim) fun _ _ z => z
  have upd : ∀ (f : Array Value → Array Value) b o, b ≠ I → s.heap.get? b = some o → (s.heap.update I (Obj.mapFields f)).get? b = some o := fun f b o hb e => (Heap.get?_update_other _ _ (Ne.symm hb)).trans e
  cases m with
  | text _ b =>
    dsimp only
    refine wpAny_bind ?_
    unfold setNext
    refine wpAny_bind (wpAny_setState_of H.obj rfl H.fit ?_)
    dsimp only
    unfold setsByText
    refine wpAny_bind (wpAny_bind (wpAny_askSetting (wpAny_pure ?_)))
    show wpAny _ _ (if byT w = true then _ else _) _ _ _
    rw [if_pos b, if_neg (by simp)]
    refine wpAny_bind ?_
    unfold setWalk
    refine wpAny_bind (wpAny_setState_of H.obj rfl H.fit ?_)
    dsimp only
    unfold setsByText
    refine wpAny_bind (wpAny_bind (wpAny_askSetting (wpAny_pure ?_)))
    show wpAny _ _ (if byT w = true then _ else _) _ _ _
    rw [if_pos b]
    refine wpAny_bind (wpAny_askSetting (wpAny_pure (wpAny_pure ?_)))
    rw [Int.toNat_natCast]
    cases hx : (pickOrder (w.params.setOrder S ep) es)[i]? with
    | none =>
      have hx' : (pickOrder ((model prog w).w.params.setOrder S ep) es)[i]? = none := hx
      dsimp only
      rw [hx']
      dsimp only [Option.map_none]
      refine wpAny_bind (wpAny_setField ho rfl (by simp) ?_)
      exact ended _ (upd _) (by rw [hx]; rfl)
    | some e =>
      have hx' : (pickOrder ((model prog w).w.params.setOrder S ep) es)[i]? = some e := hx
      dsimp only
      rw [hx']
      dsimp only [Option.map_some]
      refine wpAny_bind (wpAny_setField ho rfl (by simp) (wpAny_bind (wpAny_setField (Heap.get?_update_self (Obj.mapFields (·.setIfInBounds 0 (rawInt 0))) ho rfl) rfl (by simp) (wpAny_pure ⟨_, rfl, wpAny_pure ?_⟩))))
      exact hi e.2 (.int 0 0) _ (by rw [hx]; rfl) (moved_at ho) ((Heap.SameBut.update ..).trans (Heap.SameBut.update ..))
  | place _ slot b d e l =>
    dsimp only
    refine wpAny_bind ?_
    unfold setNext
    refine wpAny_bind (wpAny_setState_of H.obj rfl H.fit ?_)
    dsimp only
    unfold setsByText
    refine wpAny_bind (wpAny_bind (wpAny_askSetting (wpAny_pure ?_)))
    show wpAny _ _ (if byT w = true then _ else if dr es t = true then _ else _) _ _ _
    rw [b, if_neg fnt, d, if_neg fnt]
    have ml : (!t.led && !es.isEmpty) = false := by
      rcases l with l | l
      · rw [l]; rfl
      · rw [l]; simp
    refine wpAny_bind (m := if (!t.led && !es.isEmpty) = true then unsupported "set:maker-not-led" else pure ()) ?_
    rw [ml, if_neg fnt]
    refine wpAny_pure (wpAny_pure ?_)
    have sz : t.place.size = es.size := by
      have := H.fit
      simp only [SetTable.fits, Bool.and_eq_true, beq_iff_eq] at this
      exact this.1
    rw [Int.toNat_natCast, e]
    cases hx : es[i]? with
    | none =>
      dsimp only
      refine wpAny_bind (wpAny_setField ho rfl (by simp) ?_)
      exact ended _ (upd _) (by rw [hx]; rfl)
    | some e =>
      have lt : i < t.place.size := by
        rcases Nat.lt_or_ge i es.size with q | q
        · omega
        · rw [Array.getElem?_eq_none q] at hx; cases hx
      have hp : t.place[i]? = some (t.place.getD i 0) := by simp [lt]
      rw [hp]
      dsimp only
      refine wpAny_bind (wpAny_setField ho rfl (by simp) (wpAny_bind (wpAny_setField (Heap.get?_update_self (Obj.mapFields (·.setIfInBounds 0 (rawInt ((t.place.getD i 0 + 1 : Nat) : Int)))) ho rfl) rfl (by simp) (wpAny_pure ⟨_, rfl, wpAny_pure ?_⟩))))
      exact hi e.2 (.int ((t.place.getD i 0 + 1 : Nat) : Int) 0) _ (by rw [hx]; rfl) (moved_at ho) ((Heap.SameBut.update ..).trans (Heap.SameBut.update ..))
  | draw _ T L hT lt =>
    dsimp only
    refine wpAny_bind (wpAny_seqItems hT rfl ?_)
    dsimp only
    rw [Int.toNat_natCast, List.getElem?_toArray, List.getElem?_map]
    cases hx : L[i]? with
    | none =>
      dsimp only [Option.map_none]
      refine wpAny_bind (wpAny_setField ho rfl (by simp) (wpAny_bind (wpAny_setField (Heap.get?_update_self (Obj.mapFields (·.setIfInBounds 0 (rawInt 0))) ho rfl) rfl (by simp) ?_)))
      exact ended _ (fun b o hb e => (Heap.get?_update_other _ _ (Ne.symm hb)).trans (upd _ b o hb e)) (by rw [hx]; rfl)
    | some k =>
      have hk := lt k (List.mem_of_getElem? hx)
      have hg : es[k]? = some es[k] := by simp [hk]
      dsimp only [Option.map_some, rawInt]
      refine wpAny_bind ?_
      unfold setNextDrawn
      refine wpAny_bind (wpAny_setState_of H.obj rfl H.fit ?_)
      dsimp only
      rw [if_neg (by simp)]
      rw [Int.toNat_natCast, hg]
      refine wpAny_pure (wpAny_bind (wpAny_setField ho rfl (by simp) (wpAny_pure ⟨_, rfl, wpAny_pure ?_⟩)))
      exact hi es[k].2 (.ref T) _ (by rw [hx]; show (es[k]?).map _ = _; rw [hg]; rfl) (moved_at1 ho) (Heap.SameBut.update ..)
end
end SW
end
noncomputable section
namespace SW
open PySem
theorem slot_iter2 : Slot "set_iterator" "__iter__" "set_iterator.__iter__" := .of (owner := "set_iterator") (n := "__iter__")
  (by rw [typeLookup_type, builtinLookup_eq_fast]; kernel_rfl) (by decide +kernel) (by decide +kernel) (by decide +kernel) (by first | exact .inl (by decide +kernel) | exact .inr (by decide +kernel)) (by rw [isSubtype_type]; kernel_rfl)
theorem entry_iter2 : entryFor table "set_iterator.__iter__" = some Builtin.«dict_keyiterator.__iter__» := entryFor_alias (id' := "dict_keyiterator.__iter__") (by kernel_rfl) rfl (by decide +kernel) (by kernel_rfl)
theorem args_iter2 (a : Value) : argsOk "set_iterator.__iter__" ⟨[a], []⟩ := by unfold argsOk; kernel_rfl
noncomputable abbrev tupO (L : List Nat) : Obj := { cls := .type "tuple", data := .seq (L.map fun (k : Nat) => rawInt k).toArray }
inductive Go (w : World) (S T : Addr) (es : Array (Int × Value)) (ep : Nat) (t : SetTable) (h : Heap) : List (Int × Value) → Value → Nat → Prop
  | text (i : Nat) (b : byT w = true) : Go w S T es ep t h (pickOrder (w.params.setOrder S ep) es).toList (.int 0 0) i
  | place (i slot : Nat) (b : byT w = false) (d : dr es t = false) (l : t.led = true ∨ es = #[]) (r : Rise t.place) (e : SetTable.below t.place slot = i) : Go w S T es ep t h es.toList (.int slot 0) i
  | draw (i : Nat) (L : List Nat) (ho : h.get? T = some (tupO L)) (lt : ∀ k ∈ L, k < es.size) : Go w S T es ep t h (L.filterMap fun k => es[k]?) (.ref T) i
section
variable {prog : Program} {w : World} {A : Around} {E : Value → Shared → Prop} {s : Shared} {I S T : Addr} {es : Array (Int × Value)} {ep : Nat} {t : SetTable} {Ls : List (Int × Value)}
theorem Go.keep {h h' : Heap} {f : Value} {i : Nat} (g : Go w S T es ep t h Ls f i) (k : ∀ o, h.get? T = some o → h'.get? T = some o) : Go w S T es ep t h' Ls f i := by
  cases g with
  | text _ b => exact .text i b
  | place _ slot b d l r e => exact .place i slot b d l r e
  | draw _ L ho lt => exact .draw i L (k _ ho) lt
theorem fm_get {L : List Nat} (lt : ∀ k ∈ L, k < es.size) : ∀ i : Nat, (L.filterMap fun k => es[k]?)[i]? = (L[i]?).bind fun k => es[k]? := by
  induction L with
  | nil => intro i; simp
  | cons k r ih =>
    intro i
    have hk := lt k (List.mem_cons_self ..)
    have e : es[k]? = some es[k] := by simp [hk]
    rw [List.filterMap_cons, e]
    cases i with
    | zero => simp [hk]
    | succ i => simpa using ih (fun k hk => lt k (List.mem_cons_of_mem _ hk)) i
theorem Go.step {h : Heap} {f : Value} {i : Nat} (fit : t.fits es.size = true) (g : Go w S T es ep t h Ls f i) : ∃ r, Md w S es ep t h f i r ∧ (∀ v f', r = some (v, f') → (Ls[i]?).map (·.2) = some v ∧ Go w S T es ep t h Ls f' (i + 1)) ∧ (r = none → Ls[i]? = none) := by
  cases g with
  | text _ b =>
    refine ⟨_, .text i b, fun v f' e => ?_, fun e => ?_⟩
    · obtain ⟨x, hx, e⟩ := msi e
      cases e
      rw [Array.getElem?_toList, hx]
      exact ⟨rfl, .text _ b⟩
    · rw [Array.getElem?_toList]; simpa using e
  | place _ slot b d l r e0 =>
    refine ⟨_, .place i slot b d e0 l, fun v f' e => ?_, fun e => ?_⟩
    · obtain ⟨x, hx, e⟩ := msi e
      cases e
      rw [Array.getElem?_toList, hx]
      refine ⟨rfl, .place _ _ b d l r ?_⟩
      have sz : t.place.size = es.size := by
        simp only [SetTable.fits, Bool.and_eq_true, beq_iff_eq] at fit
        exact fit.1
      have lt : i < t.place.size := by
        rcases Nat.lt_or_ge i es.size with q | q
        · omega
        · rw [Array.getElem?_eq_none q] at hx; cases hx
      exact below_next r (by simp [lt])
    · rw [Array.getElem?_toList]; simpa using e
  | draw _ L ho lt =>
    refine ⟨_, .draw i T L ho lt, fun v f' e => ?_, fun e => ?_⟩
    · obtain ⟨k, hk, e⟩ := bsi e
      obtain ⟨x, hx, e⟩ := msi e
      cases e
      rw [fm_get lt, hk]
      exact ⟨by show (es[k]?).map _ = _; rw [hx]; rfl, .draw _ L ho lt⟩
    · rw [fm_get lt]
      cases hk : L[i]? with
      | none => rfl
      | some k =>
        rw [hk] at e
        have := lt k (List.mem_of_getElem? hk)
        simp [this] at e
def Sw (prog : Program) (w : World) (I S T : Addr) (es : Array (Int × Value)) (ep : Nat) (t : SetTable) (Ls : List (Int × Value)) (i : Nat) (s : Shared) : Prop :=
  ∃ f, s.heap.get? I = some (itO f i S es.size ep) ∧ At prog w s.heap S es ep t ∧ Go w S T es ep t s.heap Ls f i
theorem walks (hh : A.handled = none) (hS : S ≠ I) (hT : T ≠ I) (n : Nat) (hn : n = Ls.length) : WalksS prog w A I [I, S, T] [I] (fun a b => b = a) n (fun i v => (Ls[i]?).map (·.2) = some v) (Sw prog w I S T es ep t Ls) where
  sub := fun b hb => by simp at hb; simp [hb]
  grefl := fun _ => rfl
  gtrans := fun _ _ _ h1 h2 => h2.trans h1
  frame := fun i s h' tk ⟨f, h1, h2, h3⟩ _ k => ⟨f, k I (by simp) _ h1, h2.keep fun o e => k S (by simp) o e, h3.keep fun o e => k T (by simp) o e⟩
  item := fun i s Q E hi ⟨f, h1, h2, h3⟩ hQ => by
    obtain ⟨r, m, q1, q2⟩ := h3.step h2.fit
    refine next_ok hh h1 h2 m (fun v f' h' e g sb => ?_) fun e => ?_
    · obtain ⟨a1, a2⟩ := q1 v f' e
      have sb' : ∀ b o, b ≠ I → s.heap.get? b = some o → h'.get? b = some o := fun b o hb e => by rw [sb.2 b hb]; exact e
      exact hQ v _ a1 ⟨f', g, h2.keep fun o e => sb' S o hS e, a2.keep fun o e => sb' T o hT e⟩ ⟨fun b o hb e => sb' b o (by simpa using hb) e, rfl, rfl, rfl, Nat.le_refl _⟩
    · have := q2 e
      rw [List.getElem?_eq_none_iff] at this
      omega
  done := fun s Q E ⟨f, h1, h2, h3⟩ hQ => by
    obtain ⟨r, m, q1, q2⟩ := h3.step h2.fit
    refine next_ok hh h1 h2 m (fun v f' h' e g sb => ?_) fun e h' k => hQ _ ⟨fun b o hb e => k b o (by simpa using hb) e, rfl, rfl, rfl, Nat.le_refl _⟩
    obtain ⟨a1, _⟩ := q1 v f' e
    rw [List.getElem?_eq_none (by omega)] at a1
    cases a1
  self := fun i s Q E ⟨f, h1, h2, h3⟩ hQ => by
    refine wpAny_pyIter_slot ⟨_, h1, rfl⟩ slot_iter2 (wpAny_call_entry slot_iter2 ⟨_, h1, rfl⟩ entry_iter2 ?_ (args_iter2 _))
    exact wpAny_pure (a := Fin.done (.ret (.ref I))) ⟨_, rfl, "set_iterator", _, ⟨_, h1, rfl⟩, slot_next.lookup, hQ⟩
end
end SW
end
noncomputable section
namespace SW
open PySem
section
variable {prog : Program} {w : World} {A : Around} {E : Value → Shared → Prop} {s : Shared} {S : Addr} {es : Array (Int × Value)} {ep : Nat} {t : SetTable}
def Lk (s s' : Shared) : Prop := s'.gens = s.gens ∧ s'.os = s.os ∧ s.toks ≤ s'.toks
theorem draw_ok {α : Type} : ∀ (n : Nat) (xs : List α) (s : Shared) {Q : List α → Shared → Prop}, xs.length = n → (∀ l d, l.Perm xs → Q l { s with drawn := d }) → wpAny (model prog w) A (drawOrder n xs) Q E s
  | 0, xs, s, Q, hl, h => by
    have e : xs = [] := List.length_eq_zero_iff.mp hl
    subst e
    unfold drawOrder
    exact wpAny_pure (h [] s.drawn (.refl _))
  | n + 1, [], s, Q, hl, h => by simp at hl
  | n + 1, x :: r, s, Q, hl, h => by
    unfold drawOrder
    have ch : ∀ {β : Type} {k : Nat → Sem β} {Q' : β → Shared → Prop} {m : Nat}, m ≠ 0 → (∀ j d, j < m → wpAny (model prog w) A (k j) Q' E { s with drawn := d }) → wpAny (model prog w) A (choose .order m >>= k) Q' E s := fun {β k Q' m} hm hk => by
      intro Γ p hΓ
      exact ⟨hm, hk _ _ (Nat.mod_lt _ (Nat.pos_of_ne_zero hm)) Γ p hΓ⟩
    refine ch (by simp) fun j d hj => ?_
    have e : (x :: r)[j]? = some (x :: r)[j] := by simp [hj]
    rw [e]
    refine wpAny_bind (draw_ok n ((x :: r).eraseIdx j) _ (by rw [List.length_eraseIdx, if_pos hj]; simpa using hl) fun l d' p => wpAny_pure ?_)
    exact h _ d' ((List.Perm.cons _ p).trans (perm_erase e).symm)
theorem iter_ok {Q : Value → Shared → Prop} (H : At prog w s.heap S es ep t)
    (h : ∀ (I T : Addr) h' d Ls, I ≠ S → T ≠ I → (T = S ∨ s.heap.objs.size ≤ T) → s.heap.objs.size ≤ I → I < h'.objs.size → T < h'.objs.size → (∀ b o, s.heap.get? b = some o → h'.get? b = some o) → Ls.Perm es.toList → Sw prog w I S T es ep t Ls 0 { s with heap := h', drawn := d } → Q (.ref I) { s with heap := h', drawn := d }) :
    wpAny (model prog w) A (pyIter (.ref S)) Q E s := by
  have hS := Heap.lt_size H.obj
  refine wpAny_pyIter_slot ⟨_, H.obj, rfl⟩ F.slot_set_iter (wpAny_call_entry F.slot_set_iter ⟨_, H.obj, rfl⟩ entry_iter ?_ (F.args_set_iter_1 _))
  unfold Builtin.«frozenset.__iter__» Builtin.Frozenset.slot0 slotArgs
  simp only [List.isEmpty_nil, Bool.not_true, Bool.false_eq_true, ↓reduceIte, bind_assoc, List.length_nil, bne_self_eq_false]
  unfold Builtin.Frozenset.addrOf Builtin.Frozenset.sizeOf
  refine wpAny_bind (wpAny_pure ?_)
  refine wpAny_bind (wpAny_pure ?_)
  refine wpAny_bind (wpAny_bind (wpAny_setEntries_of H.obj rfl H.fit (wpAny_pure ?_)))
  unfold setDrawn setsByText
  refine wpAny_bind (wpAny_bind (wpAny_setState_of H.obj rfl H.fit (wpAny_bind (wpAny_bind (wpAny_askSetting (wpAny_pure (wpAny_pure ?_)))))))
  show wpAny _ _ (if (!byT w && dr es t) = true then _ else _) _ _ _
  have place : byT w = false → dr es t = false → ∀ h', Go w S S es ep t h' es.toList (.int 0 0) 0 := fun b d h' => by
    have rs : Rise t.place := by
      cases hp : t.plain with
      | true => exact H.gd.rise hp
      | false =>
        have sz : t.place.size = es.size := by
          have := H.fit
          simp only [SetTable.fits, Bool.and_eq_true, beq_iff_eq] at this
          exact this.1
        have le : es.size ≤ 1 := by
          unfold dr at d
          rw [hp] at d
          simpa using d
        have l1 : t.place.toList.length ≤ 1 := by rw [Array.length_toList]; omega
        show t.place.toList.Pairwise _
        match t.place.toList, l1 with
        | [], _ => exact .nil
        | [x], _ => simp
        | _ :: _ :: _, h => simp at h
    exact .place 0 0 b d (.inl (H.gd.led b)) rs (below_zero rs)
  have plain : (Ls : List (Int × Value)) → Ls.Perm es.toList → (∀ h', Go w S S es ep t h' Ls (.int 0 0) 0) → wpAny (model prog w) A.in1 (setEpoch S >>= fun e => newFields "set_iterator" [rawInt 0, rawInt 0, .ref S, rawInt es.size, rawInt e] >>= fun v => (ret v : Sem Fin))
      (fun fin s' => ∃ v, fin = Fin.done (Flow.ret v) ∧ ∃ T' r, s'.TypeIs v T' ∧ typeLookup (.type T') "__next__" = pure (some r) ∧ Q v s') E s := fun Ls p g => by
    refine wpAny_bind (wpAny_setEpoch_of H.obj rfl H.fit (wpAny_bind (wpAny_newObj_type (wpAny_pure ⟨_, rfl, "set_iterator", _, ⟨_, Heap.get?_push_size _ rfl, rfl⟩, slot_next.lookup, ?_⟩))))
    refine h s.heap.objs.size S _ s.drawn Ls (Nat.ne_of_gt hS) (Nat.ne_of_lt hS) (.inl rfl) (Nat.le_refl _) (by rw [Heap.size_push]; exact Nat.lt_succ_self _) (by rw [Heap.size_push]; exact Nat.lt_succ_of_lt hS) (fun b o e => Heap.get?_push_of_some _ e) p ?_
    exact ⟨.int 0 0, Heap.get?_push_size _ rfl, H.keep fun o e => Heap.get?_push_of_some _ e, g _⟩
  cases hb : byT w with
  | true =>
    rw [if_neg (by simp)]
    refine wpAny_bind (wpAny_pure ?_)
    exact plain _ (pickOrder_perm _ _) fun h' => .text 0 hb
  | false =>
    cases hd : dr es t with
    | false =>
      rw [if_neg (by simp)]
      refine wpAny_bind (wpAny_pure ?_)
      exact plain es.toList (.refl _) (place hb hd)
    | true =>
      rw [if_pos (by simp)]
      refine wpAny_bind (draw_ok es.size (List.range es.size) s (by simp) fun L d p => wpAny_bind ?_)
      have ll : L.length = es.size := by rw [p.length_eq]; simp
      have lt : ∀ k ∈ L, k < es.size := fun k hk => by simpa using p.mem_iff.mp hk
      have bb := H.bnd
      refine wpAny_newTuple ?_ (by rw [List.length_map, ll]; exact fits_of_scanBound bb)
      have H1 : At prog w (s.heap.push (tupO L)) S es ep t := H.keep fun o e => Heap.get?_push_of_some _ e
      refine wpAny_bind (wpAny_setEpoch_of (s := { s with drawn := d, heap := s.heap.push (tupO L) }) H1.obj rfl H.fit (wpAny_bind (wpAny_newObj_type (wpAny_pure ⟨_, rfl, "set_iterator", _, ⟨_, Heap.get?_push_size _ rfl, rfl⟩, slot_next.lookup, ?_⟩))))
      have z1 : (s.heap.push (tupO L)).objs.size = s.heap.objs.size + 1 := Heap.size_push ..
      refine h (s.heap.push (tupO L)).objs.size s.heap.objs.size _ d (L.filterMap fun k => es[k]?) (by rw [z1]; exact Nat.ne_of_gt (Nat.lt_succ_of_lt hS)) (by rw [z1]; exact Nat.ne_of_lt (Nat.lt_succ_self _)) (.inr (Nat.le_refl _)) (by rw [z1]; exact Nat.le_succ _)
        (Nat.lt_of_lt_of_eq (Nat.lt_succ_self _) (Heap.size_push ..).symm) (Nat.lt_of_lt_of_eq (by show _ < (s.heap.push (tupO L)).objs.size + 1; rw [z1]; exact Nat.lt_succ_of_lt (Nat.lt_succ_self _)) (Heap.size_push ..).symm) (fun b o e => Heap.get?_push_of_some _ (Heap.get?_push_of_some _ e)) ?_ ?_
      · have := p.filterMap fun k => es[k]?
        refine this.trans ?_
        have : (List.range es.size).filterMap (fun k => es[k]?) = es.toList := by
          refine List.ext_getElem? fun i => ?_
          rw [fm_get (fun k hk => by simpa using hk), show es.toList[i]? = es[i]? from Array.getElem?_toList]
          rcases Nat.lt_or_ge i es.size with q | q
          · simp [q]
          · have z : (List.range es.size)[i]? = none := List.getElem?_eq_none (by simpa using q)
            rw [Array.getElem?_eq_none q, z]; rfl
        rw [this]
      · exact ⟨.ref s.heap.objs.size, Heap.get?_push_size _ rfl, H1.keep fun o e => Heap.get?_push_of_some _ e, .draw 0 L (Heap.get?_push_of_some _ (Heap.get?_push_size _ rfl)) lt⟩
end
end SW
end
noncomputable section
namespace SW
open PySem
section
variable {prog : Program} {w : World} {A : Around} {E : Value → Shared → Prop} {s : Shared} {S : Addr} {es : Array (Int × Value)} {ep : Nat} {t : SetTable}
theorem collect_ok {Q : List Value → Shared → Prop} (hh : A.handled = none) (H : At prog w s.heap S es ep t)
    (h : ∀ vs s', vs.Perm (es.toList.map (·.2)) → Lk s s' → s.heap.objs.size < s'.heap.objs.size → (∀ b o, s.heap.get? b = some o → s'.heap.get? b = some o) → Q vs s') : wpAny (model prog w) A (collect (.ref S)) Q E s := by
  have hS := Heap.lt_size H.obj
  unfold collect
  refine wpAny_bind (wpAny_runValue (codeAny_builtin F.entry_proto_collect ?_))
  rw [Around.under_plainId F.plain_proto_collect _]
  refine wpAny_bind (m := newList []) (wpAny_newObj_type ?_)
  refine wpAny_pure ⟨plainId_quiet F.plain_list_iadd _, codeAny_builtin F.entry_list_iadd ?_⟩
  rw [Around.under_plainId F.plain_list_iadd _]
  have H1 : At prog w (s.heap.push { cls := .type "list", data := .seq ([] : List Value).toArray }) S es ep t := H.keep fun o e => Heap.get?_push_of_some _ e
  have T1 : ({ s with heap := s.heap.push { cls := .type "list", data := .seq ([] : List Value).toArray } } : Shared).TypeIs (.ref S) "set" := ⟨_, H1.obj, rfl⟩
  show wpAny _ A.in1 (Builtin.List.listExtendWith (.ref s.heap.objs.size) (.ref S) (.ref s.heap.objs.size)) _ _ _
  unfold Builtin.List.listExtendWith
  refine wpAny_bind (wpAny_typeOf T1 ?_)
  have h1 : Builtin.List.listSameRef (.ref s.heap.objs.size) (.ref S) = false := by simp [Builtin.List.listSameRef, Nat.ne_of_gt hS]
  rw [h1, show (Value.type "set" == Value.type "list") = false by decide, show (Value.type "set" == Value.type "tuple") = false by decide]
  simp only [Bool.or_false, Bool.false_eq_true, if_false]
  refine wpAny_bind (iter_ok H1 fun I T h' d Ls hI hT tS zI lI lT k p st => ?_)
  refine wpAny_bind (wpAny_holding ?_)
  unfold Builtin.List.listLengthHint
  obtain ⟨f, o1, H2, g⟩ := id st
  have T2 : ({ s with heap := h', drawn := d } : Shared).TypeIs (.ref S) "set" := ⟨_, H2.obj, rfl⟩
  refine wpAny_bind (wpAny_specialOf T2 F.slot_set_len.lookup ?_)
  have sp : splitId "set.__len__" = some ("set", "__len__") := by kernel_rfl
  dsimp only
  rw [sp]
  dsimp only
  refine wpAny_bind (wpAny_isInstance T2 sub_set_self ?_)
  rw [if_neg (by decide), if_pos (by kernel_rfl)]
  refine wpAny_bind (wpAny_typeOf T2 (wpAny_pure ?_))
  rw [if_pos (by kernel_rfl)]
  refine wpAny_bind (wpAny_rule ?_)
  have o0 : h'.get? s.heap.objs.size = some { cls := .type "list", data := .seq ([] : List Value).toArray } := k _ _ (Heap.get?_push_size _ rfl)
  refine wpAny_bind ?_
  refine wpAny_bind (m := updateSeq s.heap.objs.size (·.push .none)) (wpAny_updateSeq o0 rfl ?_)
  have o2 := Heap.get?_update_self (Obj.mapSeq (·.push Value.none)) o0 rfl
  refine wpAny_updateSeq o2 rfl ?_
  have o3 := Heap.get?_update_self (Obj.mapSeq (·.pop)) o2 rfl
  have oth : ∀ b o, b ≠ s.heap.objs.size → h'.get? b = some o → ((h'.update s.heap.objs.size (Obj.mapSeq (·.push Value.none))).update s.heap.objs.size (Obj.mapSeq (·.pop))).get? b = some o :=
    fun b o hb e => (Heap.get?_update_other _ _ (Ne.symm hb)).trans ((Heap.get?_update_other _ _ (Ne.symm hb)).trans e)
  have zI' : s.heap.objs.size + 1 ≤ I := Nat.le_trans (Nat.le_of_eq (Heap.size_push ..).symm) zI
  have z0 : s.heap.objs.size ∉ [I, S, T] := by
    have tS' : T = S ∨ s.heap.objs.size + 1 ≤ T := tS.elim .inl fun z => .inr (Nat.le_trans (Nat.le_of_eq (Heap.size_push ..).symm) z)
    simp only [List.mem_cons, List.mem_singleton, List.not_mem_nil, or_false, not_or]
    refine ⟨Nat.ne_of_lt zI', Nat.ne_of_gt hS, ?_⟩
    rcases tS' with z | z
    · rw [z]; exact Nat.ne_of_gt hS
    · exact Nat.ne_of_lt z
  have lt : Ls.length = es.size := by rw [p.length_eq, Array.length_toList]
  have bb := H.bnd
  have W := walks (prog := prog) (A := A.in1) (I := I) (S := S) (T := T) (es := es) (ep := ep) (t := t) (Ls := Ls) (w := w) (show A.in1.handled = none from hh) (Ne.symm hI) hT _ rfl
  refine wpAny_pure ⟨plainId_quiet F.plain_extend_loop _, codeAny_extend_loopS W (by rw [lt]; exact fits_of_scanBound bb) _ z0 _ Ls.length 0 _ _ _ rfl (Nat.zero_le _) (W.frame 0 ({ s with heap := h', drawn := d } : Shared) _ s.toks st (Nat.le_refl _) fun b hb o e => oth b o (fun z => z0 (z ▸ hb)) e) o3 (ItemsOf.nil _) fun s' acc' c' hm hS' hacc => ?_⟩
  refine wpAny_bind (m := load s.heap.objs.size) (wpAny_load hS' (wpAny_pure (h _ s' ?_ ?_ (Heap.lt_size hS') ?_)))
  · have : acc'.toList = Ls.map (·.2) := by
      refine List.ext_getElem? fun i => ?_
      rw [List.getElem?_map, Array.getElem?_toList]
      cases hx : acc'[i]? with
      | none =>
        have := hacc.1
        have : acc'.size ≤ i := by simpa using hx
        rw [List.getElem?_eq_none (by omega)]; rfl
      | some v => exact (hacc.2 i v hx).symm
    rw [this]
    exact p.map _
  · exact ⟨hm.gens, hm.os, hm.toks⟩
  · intro b o e
    have lb := Heap.lt_size e
    refine hm.heap b o ?_ (oth b o (Nat.ne_of_lt lb) (k b o (Heap.get?_push_of_some _ e)))
    simp only [List.mem_cons, List.mem_singleton, List.not_mem_nil, or_false, not_or]
    exact ⟨Nat.ne_of_lt lb, Nat.ne_of_lt (Nat.lt_trans lb zI')⟩
theorem ints_of {l : List (Int × Value)} (h : ElemsOf (intKind prog w) l) : ∀ {vs : List Value}, (∀ v ∈ vs, ∃ e ∈ l, e.2 = v) → PyProof.Rows.IntsAre vs (vs.map toI)
  | [], _ => .nil
  | v :: r, k => by
    obtain ⟨e, he, rfl⟩ := k v (List.mem_cons_self ..)
    obtain ⟨tk, q⟩ := elem_int h he
    rw [List.map_cons]
    have rest := ints_of h (vs := r) fun v hv => k v (List.mem_cons_of_mem _ hv)
    revert q
    generalize e.2 = v
    intro q
    rw [q]
    exact .cons _ tk rest
theorem sorted_set {Q : Value → Shared → Prop} (hh : A.handled = none) (H : At prog w s.heap S es ep t) (h64 : es.size < 64)
    (h : ∀ (l : Addr) s' (out : Array Value) (ms : List Int) e, s.heap.objs.size ≤ l → PyProof.Rows.IntsAre out.toList ms → ms.Perm (keys es) → ms.Pairwise (· ≤ ·) → Lk s s' → (∀ b o, s.heap.get? b = some o → s'.heap.get? b = some o) → s'.heap.get? l = some (PyProof.Rows.seqObj "list" out e) → Q (.ref l) s') :
    wpAny (model prog w) A (call (.builtin "sorted") [.ref S]) Q E s := by
  refine Calls.call_function_entry PyProof.Rows.kind_sorted PyProof.Rows.plain_sorted PyProof.Rows.entry_sorted (PyProof.Rows.args_sorted1 _) ?_
  unfold Builtin.«sorted»
  refine wpAny_bind (m := checkCount "sorted" 1 1 _) (wpAny_pure ?_)
  refine wpAny_bind (collect_ok (by simpa using hh) H fun vs s₁ p lk le k => ?_)
  have len : vs.length = es.size := by rw [p.length_eq]; simp
  refine wpAny_bind (wpAny_newList ?_ (by rw [len]; exact fits_of_scanBound H.bnd))
  have hI : PyProof.Rows.IntsAre vs (vs.map toI) := ints_of H.el fun v hv => by
    obtain ⟨e, he, q⟩ := List.mem_map.mp (p.mem_iff.mp hv)
    exact ⟨e, he, q⟩
  have hk : (vs.map toI).Perm (keys es) := by
    have := p.map toI
    rw [List.map_map] at this
    exact this
  have oL : (s₁.heap.push (PyProof.Rows.seqObj "list" vs.toArray 0)).get? s₁.heap.objs.size = some (PyProof.Rows.seqObj "list" vs.toArray 0) := Heap.get?_push_size _ rfl
  refine wpAny_bind (wpAny_holding (wpAny_call_entry PyProof.Rows.slot_list_sort ⟨_, oL, rfl⟩ PyProof.Rows.entry_list_sort (PyProof.Rows.list_sort_tree oL hI (by omega) fun out ns' a1 a2 a3 => ⟨_, rfl, ?_⟩) (PyProof.Rows.args_list_sort _)))
  refine wpAny_pure ⟨_, rfl, ?_⟩
  obtain ⟨e, he⟩ := PyProof.Rows.sortedHeap_at (out := out) oL
  refine h _ _ out ns' e (Nat.le_of_lt le) a1 (a2.trans hk) a3 lk (fun b o q => ?_) he
  have q1 := k b o q
  have l1 := Heap.lt_size q1
  refine (PyProof.Rows.sortedHeap_old (Nat.ne_of_lt l1) (Nat.lt_of_lt_of_eq (Nat.lt_succ_of_lt l1) (Heap.size_push ..).symm)).trans (Heap.get?_push_of_some _ q1)
end
end SW
end
noncomputable section
namespace L2
open PySem PyProof.Rows
section
variable {X : Cx}
def setφ (P : Program) (w : World) (ns : List Int) (a : Addr) (h : Heap) : Prop := ∃ es ep t, SW.At P w h a es ep t ∧ es.size ≤ ns.length ∧ ∀ x, x ∈ SW.keys es ↔ x ∈ ns
theorem Inv.like {pins : List (Addr × Obj)} {σ : List (Option V)} {H : Hp} {s s' : Shared} (I : Inv X pins σ H s) (e1 : s'.heap = s.heap) (e2 : s'.gens = s.gens) (e3 : s'.os = s.os) : Inv X pins σ H s' := by
  obtain ⟨h, g, d, t, o⟩ := s
  obtain ⟨h', g', d', t', o'⟩ := s'
  dsimp only at e1 e2 e3
  subst e1; subst e2; subst e3
  exact ⟨I.ok, I.os, I.bare, I.base, I.loc, I.cell, I.free, I.freeC, I.pin, I.hok, I.len⟩
theorem call_setX (hc : X.calm = true) : CallR X (.type "set") (fun xs H Q => ∃ (p : Addr) (ns : List Int), xs = [.ref p] ∧ SqL X.K H p (ns.map V.int) ∧ ns.length < 64 ∧ ∀ l, H l = none → Q (.ref l) (upd H l (.ext (setφ X.prog X.w ns l)))) := by
  intro pins s σ H xs us Q I r h
  obtain ⟨p, ns, rfl, hq, hlt, q⟩ := h
  obtain ⟨u, rfl, ru⟩ := r.one
  cases ru
  obtain ⟨its, rv, pl, hz⟩ := I.list hq
  have hl : its.length = ns.length := by rw [← rv.length, List.length_map]
  refine SW.set_ok (items := its.toArray) (ns := ns) (I.ok.hd hc) pl.isList (by simpa using intsAre_of rv) (by unfold scanBound; simp; omega) fun s₂ D => ?_
  obtain ⟨h', tk, es, ep, t, rfl, H1, z, m, k⟩ := D
  refine ⟨.ref s.heap.objs.size, _, I.laid (o := .ext (setφ X.prog X.w ns s.heap.objs.size)) (fun b o e => k b o (Heap.lt_size e) e) (Nat.le_refl _) ⟨⟨es, ep, t, H1, z, m⟩, ⟨_, H1.obj⟩, fun h1 h2 ⟨es, ep, t, a1, a2, a3⟩ kk => ⟨es, ep, t, a1.keep kk, a2, a3⟩⟩, rfl, q _ I.fresh⟩
theorem call_sortedX (hc : X.calm = true) : CallR X (.builtin "sorted") (fun xs H Q => ∃ (p : Addr) (ns : List Int), xs = [.ref p] ∧ H p = some (.ext (setφ X.prog X.w ns p)) ∧ ns.length < 64 ∧
    ∀ (l : Addr) (ms : List Int), H l = none → ms.Nodup → (∀ x, x ∈ ms ↔ x ∈ ns) → ms.Pairwise (· ≤ ·) → Q (.ref l) (upd H l (.lst (ms.map V.int)))) := by
  intro pins s σ H xs us Q I r h
  obtain ⟨p, ns, rfl, hp, hlt, q⟩ := h
  obtain ⟨u, rfl, ru⟩ := r.one
  cases ru
  obtain ⟨⟨es, ep, t, H1, z, m⟩, _, _⟩ := (show ObjOk X.prog X.w H s.heap p (.ext (setφ X.prog X.w ns p)) from I.hok p _ hp)
  refine SW.sorted_set (I.ok.hd hc) H1 (by omega) fun l s' out ms e hl a1 a2 a3 lk k ho => ?_
  have len : ms.length < 64 := by rw [a2.length_eq]; unfold SW.keys; rw [List.length_map, Array.length_toList]; omega
  have I2 := I.laid (a := l) (h' := s'.heap) (t' := s.toks) (o := .lst (ms.map V.int)) k hl ⟨by rw [List.length_map, sizeLine_eq]; omega, out.toList, e, vals_ints a1, by simpa using ho⟩
  exact ⟨.ref l, _, I2.like rfl lk.1 lk.2.1, rfl, q l ms (I.hok.fresh hl) (a2.nodup_iff.mpr H1.nd) (fun x => a2.mem_iff.trans (m x)) a3⟩
end
end L2
end
noncomputable section
namespace L2
open PySem PySem.Spec PyProof.Rows
section
variable {X : Cx}
end
section
variable {X : Cx} {tg : Expr}
end
section
variable {prog : Program} {w : World} {A : Around} {R : Result → Shared → Prop} {I S : Addr} {fp wr : List Addr} {n : Nat} {P : Nat → Value → Prop} {St : Nat → Heap → Prop} {bt : Nat → Nat → Bool} {d : Value}
end
section
variable {prog : Program} {w : World} {A : Around} {E : Value → Shared → Prop} {s : Shared}
end
section
variable {κ : Type} [DecidableEq κ]
noncomputable def valV (kvs : List (κ × V)) (k : κ) : Option V := (kvs.find? fun kv => decide (kv.1 = k)).map (·.2)
theorem valV_pos {p : κ × V} {r : List (κ × V)} {k : κ} (e : p.1 = k) : valV (p :: r) k = some p.2 := by simp [valV, List.find?_cons, e]
theorem valV_neg {p : κ × V} {r : List (κ × V)} {k : κ} (e : ¬ p.1 = k) : valV (p :: r) k = valV r k := by simp [valV, List.find?_cons, e]
theorem KV.val {kvs : List (κ × V)} {vs : List (κ × Value)} (r : KV kvs vs) (k : κ) : RelO (valV kvs k) (valueAt vs k) := by
  unfold KV at r
  induction r with
  | nil => exact True.intro
  | @cons p q ps qs h t ih =>
    obtain ⟨h1, h2⟩ := h
    by_cases e : p.1 = k
    · have e' : q.1 = k := h1.symm.trans e
      have b : valueAt (q :: qs) k = some q.2 := by simp [valueAt, List.find?_cons, e']
      rw [valV_pos e, b]; exact h2
    · have e' : ¬ q.1 = k := fun z => e (h1.trans z)
      have b : valueAt (q :: qs) k = valueAt qs k := by simp [valueAt, List.find?_cons, e']
      rw [valV_neg e, b]; exact ih
end
theorem kV_is {P : Program} {w : World} {k : Key} {u : Value} (r : RelV (kV k) u) : (mixKind P w).is k u = true := by
  cases k with
  | inl i => obtain ⟨t, e⟩ := (show ∃ t, u = Value.int i t from r); subst e; exact mixKind_int P w i t
  | inr x => obtain ⟨t, e⟩ := (show ∃ t, u = Value.str x t from r); subst e; exact mixKind_str P w x t
section
variable {P : Program} {w : World} {H : Hp} {h : Heap} {a : Addr}
theorem rd_of {u : HO} (ok : HOk P w H h) (e : Rd H a u) : ObjOk P w H h a u := e.ok ok
theorem dk_rd {kvs : List (Key × V)} (ok : HOk P w H h) (e : Rd H a (.dK kvs)) : kvs.length ≤ sizeLine ∧ (a == sysModules) = false ∧ ∃ vs, KV kvs vs ∧ h.DictOf (mixKind P w) a vs :=
  show ObjOk P w H h a (.dK kvs) from rd_of ok e
end
section
variable {X : Cx} {pins : List (Addr × Obj)} {σ : St} {H : Hp} {s : Shared} {a : Addr} {y v : V} {u r : Value} {o : Option V} {A : Around} {E : Value → Shared → Prop}
theorem Inv.big (I : Inv X pins σ H s) : sysModules < s.heap.objs.size := by
  have h : mainGlobals < s.heap.objs.size := (I.mod.glob.keeps I.bk).lt
  exact Nat.lt_trans (by decide) h
theorem dk_empty {P : Program} {w : World} {H : Hp} (h : Heap) (hb : sysModules < h.objs.size) : ObjOk P w H (h.push { cls := .type "dict", data := .dict #[] }) h.objs.size (.dK []) :=
  ⟨Nat.zero_le _, beq_eq_false_iff_ne.mpr (Ne.symm (Nat.ne_of_lt hb)), [], .nil, Heap.DictOf.new h⟩
noncomputable def tDNewK : TE := fun _ H Q => ∀ p, H p = none → Q (.ref p) (upd H p (.dK []))
end
section
variable {X : Cx} {pos : Pos}
theorem pe_dnewK : PE X (.Dict [] [] pos) tDNewK := fun pins s σ H Q I h =>
  wpAny_Dict_empty ⟨.ref s.heap.objs.size, _, I.laid (a := s.heap.objs.size) (o := .dK []) (t' := s.toks) (fun _ _ q => Heap.get?_push_of_some _ q) (Nat.le_refl _) (dk_empty s.heap I.big), rfl, h _ (I.hok.fresh (Nat.le_refl _))⟩
end
section
variable {X : Cx}
theorem ix_dK : IxR X (fun x y H Q => ∃ a i kvs v, x = .ref a ∧ y = .int i ∧ Rd H a (.dK kvs) ∧ valV kvs (Sum.inl i) = some v ∧ Q v H) := by
  intro value slice pins s σ H x y v u Q I rx ry h hs
  obtain ⟨a, i, kvs, z, rfl, rfl, e, l, q⟩ := h
  obtain rfl : v = Value.ref a := rx
  obtain ⟨_, hd, vs, rel, dd⟩ := dk_rd I.hok e
  obtain ⟨w', hw, rw'⟩ := RelO.some_of (v := z) (o := valueAt vs (Sum.inl i)) (by rw [← l]; exact rel.val _)
  exact tail_any dd.typeIs PySem.F.slot_dict_getitem.lookup (wpAny_getItem_of (kV_is (k := Sum.inl i) ry) dd.mapOf hw ⟨z, H, I.tok _, rw', q⟩) hs
end
end L2
end
noncomputable section
namespace L2
open PySem PySem.Spec PyProof.Rows LX
noncomputable def Itrs (lo d : Int) (n : Nat) : It := ⟨fun i _ => i < n, fun i H x H' => H' = H ∧ x = .int (lo + i * d), fun i _ => n ≤ i⟩
theorem turn_steps {P : Program} {w : World} {K : PySem.W.Frag} {tg : Expr} (it : Addr) (lo d : Int) (n : Nat) : Turn P w K tg (Itrs lo d n) [it] it (fun i h => IsRangeIter h it (lo + (i : Nat) * d) ((n : Int) - (i : Nat)) d) where
  mem := by simp
  obj := fun i h z b hb => by
    rw [show b = it by simpa using hb]
    refine ⟨_, z, fun v w => ?_⟩
    have w' : Data.fields _ = Data.cell v := w
    cases w'
  keep := fun i h h' z k => k it (by simp) _ z
  item := by
    intro X h1 h2 h3 hc i pins s σ H E I hf z hg
    subst h1 h2 h3
    obtain ⟨f0, f1, f2, f3, f4, f5⟩ := hf it (by simp)
    have W := Walks.range (prog := X.prog) (w := X.w) (I.ok.hd hc) it lo d n
    refine W.item i s _ _ hg z fun v h' tk hv z' kk => ?_
    obtain ⟨t, rfl⟩ := hv
    have J : Inv X pins σ H { s with heap := h', toks := tk } := I.turned (fun b o hb e => kk b o (by simpa using hb) e) f0 f1 f3 f4 f5
    exact ⟨_, rfl, go_of (s := { s with heap := h', toks := tk }) (n := "range_iterator") z' rfl rfl (by decide) ⟨.int (lo + i * d), H, J, ⟨t, rfl⟩, ⟨rfl, rfl⟩, z', fun b hb => (hf b hb).1⟩⟩
  done := by
    intro X h1 h2 h3 hc i pins s σ H E I hf z hg
    subst h1 h2 h3
    obtain ⟨f0, f1, f2, f3, f4, f5⟩ := hf it (by simp)
    have hn : n ≤ i := hg
    exact wpAny_pyNext_range_end (I.ok.hd hc) z (by omega) fun h' eb => ⟨rfl, I.turned (t' := s.toks) (fun b o hb e => eb b o hb e) f0 f1 f3 f4 f5⟩
  self := fun _ _ _ _ _ z h => wpAny_pyIter_rangeiter z h
noncomputable def steps (j d : Int) : Nat := if 0 < j then ((j - 1) / d + 1).toNat else 0
theorem steps_size {j d : Int} (hd : 1 ≤ d) (hj : 0 ≤ j) : Builtin.Range.rangeSize 0 j d = (steps j d : Int) := by
  unfold Builtin.Range.rangeSize steps
  rw [if_pos (by omega)]
  split
  · have : 0 ≤ (j - 1) / d := Int.ediv_nonneg (by omega) (by omega)
    rw [show j - 0 - 1 = j - 1 by omega]
    omega
  · rfl
theorem steps_le {j d : Int} (hd : 1 ≤ d) (hj : 0 ≤ j) : (steps j d : Int) ≤ j := by
  unfold steps
  split
  · have h1 : 0 ≤ (j - 1) / d := Int.ediv_nonneg (by omega) (by omega)
    have h2 : (j - 1) / d ≤ j - 1 := Int.ediv_le_self _ (by omega)
    omega
  · omega
theorem small_steps {j d : Int} (hd : 1 ≤ d) (hd2 : d ≤ 1000) (hj : 0 ≤ j) (hj2 : j ≤ 1000) : Builtin.Range.small 0 j d = true := by
  have h1 := steps_le hd hj
  unfold Builtin.Range.small
  rw [steps_size hd hj]
  simp only [Builtin.Range.rangeFitsLong, Bool.and_eq_true, Bool.or_eq_true, decide_eq_true_eq, beq_iff_eq, show d > 0 by omega, if_true]
  omega
section
variable {X : Cx} {tg : Expr}
noncomputable def iRngS (ta : TA) : TI := fun σ H R => ta σ H fun vs H1 => ∃ j d : Int, vs = [.int 0, .int j, .int d] ∧ (0 ≤ j ∧ j ≤ 1000 ∧ 1 ≤ d ∧ d ≤ 1000) ∧ R (Itrs 0 d (steps j d)) H1
theorem pi_rangeS {a b c : Expr} {ta : TA} {p pos : Pos} (hg : Gl X "range") (hm : X.mg "range" = none) (ha : PA X [a, b, c] ta) (hs : starEach [a, b, c] X.env = (false, eval a X.env) :: starEach [b, c] X.env) (hs2 : (backTo pos (starEach [b, c] X.env)).any (·.1) = false) :
    PI X tg (.Call (.Name "range" p) [a, b, c] [] pos) (iRngS ta) := by
  intro pins s σ H R I h
  refine Call_ (ld_blt I hg hm boot_range (PyProof.Rows.callWith_type1 (thn (ha pos pins s σ H _ I h) fun us s1 ⟨vs, H1, I1, r1, q1⟩ => ?_) hs hs2))
  obtain ⟨j, d, e, ⟨b1, b2, b3, b4⟩, q⟩ := q1
  subst e
  cases r1 with
  | cons r rr => cases rr with
    | cons r' rr => cases rr with
      | cons r'' rr =>
        cases rr
        obtain ⟨t, rfl⟩ := r
        obtain ⟨t', rfl⟩ := r'
        obtain ⟨t'', rfl⟩ := r''
        refine call_range_3 (by omega) ?_ (Or.inl (PyProof.noPylong_small (by omega)))
        refine wpAny_pyIter_range (IsRange.new ..) (small_steps b3 b4 b1 b2) ?_
        have J : Inv X pins σ H1 { s1 with heap := s1.heap.push { cls := .type "range", data := .fields #[.int 0 t, .int j t', .int d t''] } } := I1.kept (t' := s1.toks) fun b o e => Heap.get?_push_of_some _ e
        refine ⟨_, [_], _, _, H1, rfl, J.kept (t' := s1.toks) fun b o e => Heap.get?_push_of_some _ e, turn_steps _ 0 d (steps j d), ?_, fun b hb => ?_, q⟩
        · show IsRangeIter _ _ (0 + ((0 : Nat) : Int) * d) ((steps j d : Int) - ((0 : Nat) : Int)) d
          rw [show (0 : Int) + ((0 : Nat) : Int) * d = 0 by simp, show (steps j d : Int) - ((0 : Nat) : Int) = Builtin.Range.rangeSize 0 j d by rw [steps_size b3 b1]; simp]
          exact Heap.get?_push_size _ rfl
        · have e := List.mem_singleton.mp hb
          subst e
          exact J.fpOk (Nat.le_refl _) (J.hok.fresh (Nat.le_refl _))
end
end L2
end
noncomputable section
namespace MI
open PySem L2
inductive D where
  | non | bl (b : Bool) | int (i : Int) | str (x : Str)
  | lst (l : List D) | tup (l : List D)
  | ins (c : Nat) (ks : List Str) (ds : List D)
  | dic (kvs : List (Int × Int))
  | fn (x : Str) | exc (x : Str)
  deriving Inhabited
def RL (K : W.Frag) (H : Hp) (a : Addr) (xs : List V) : Prop :=
  Rd H a (.lst xs) ∨ ∃ (its : Array Value) (n : Nat), K.lookup a = some { cls := .type "list", data := .seq its n } ∧ its.size ≤ sizeLine ∧ Vals xs its.toList
theorem rd_mono {H H' : Hp} {a : Addr} {u : HO} (e : Same H H') (h : Rd H a u) : Rd H' a u := by
  rcases h with h | ⟨o, h⟩
  · exact .inl (e _ _ h)
  · exact .inr ⟨o, e _ _ h⟩
theorem rl_mono {K : W.Frag} {H H' : Hp} {a : Addr} {xs : List V} (e : Same H H') (h : RL K H a xs) : RL K H' a xs := by
  rcases h with h | h
  · exact .inl (rd_mono e h)
  · exact .inr h
theorem RL.sql {K : W.Frag} {H : Hp} {a : Addr} {xs : List V} (h : RL K H a xs) : SqL K H a xs := by
  rcases h with h | ⟨its, n, h1, h2, h3⟩
  · exact .inl h
  · exact .inr ⟨_, its, n, h1, rfl, rfl, rfl, h2, h3⟩
noncomputable def dKV (kvs : List (Int × Int)) : List (Key × V) := kvs.map fun p => (Sum.inl p.1, V.int p.2)
mutual
inductive Dn (K : W.Frag) (cl : Nat → Option Addr) (G : Hp) : V → D → Prop where
  | non : Dn K cl G .non .non
  | bl (b : Bool) : Dn K cl G (.bl b) (.bl b)
  | int (i : Int) : Dn K cl G (.int i) (.int i)
  | str (x : Str) : Dn K cl G (.str x) (.str x)
  | lst {a : Addr} {xs : List V} {ds : List D} : RL K G a xs → Dns K cl G xs ds → Dn K cl G (.ref a) (.lst ds)
  | tup {a : Addr} {xs : List V} {ds : List D} : G a = some (.tup xs) → Dns K cl G xs ds → Dn K cl G (.ref a) (.tup ds)
  | ins {a C dx : Addr} {c : Nat} {ks : List Str} {vfs : List (Str × V)} {ds : List D} : G a = some (.ins C dx vfs) → cl c = some C → vfs.map (·.1) = ks → Dns K cl G (vfs.map (·.2)) ds → Dn K cl G (.ref a) (.ins c ks ds)
  | dic {a : Addr} {kvs : List (Int × Int)} : G a = some (.dK (dKV kvs)) → Dn K cl G (.ref a) (.dic kvs)
  | fn {a : Addr} {x : Str} : W.nsIn K mainGlobals x = some (some (.ref a)) → Dn K cl G (.ref a) (.fn x)
  | exc {a C : Addr} {x : Str} : G a = some (.ext (excAt a (.ref C))) → W.nsIn K mainGlobals x = some (some (.ref C)) → Dn K cl G (.ref a) (.exc x)
inductive Dns (K : W.Frag) (cl : Nat → Option Addr) (G : Hp) : List V → List D → Prop where
  | nil : Dns K cl G [] []
  | cons {x : V} {d : D} {xs : List V} {ds : List D} : Dn K cl G x d → Dns K cl G xs ds → Dns K cl G (x :: xs) (d :: ds)
end
section
variable {K : W.Frag} {cl : Nat → Option Addr} {G G' H : Hp}
mutual
theorem Dn.mono (e : Same G G') : ∀ {v : V} {d : D}, Dn K cl G v d → Dn K cl G' v d
  | _, _, .non => .non
  | _, _, .bl b => .bl b
  | _, _, .int i => .int i
  | _, _, .str x => .str x
  | _, _, .lst h hs => .lst (rl_mono e h) (Dns.mono e hs)
  | _, _, .tup h hs => .tup (e _ _ h) (Dns.mono e hs)
  | _, _, .ins h hc hk hs => .ins (e _ _ h) hc hk (Dns.mono e hs)
  | _, _, .dic h => .dic (e _ _ h)
  | _, _, .fn h => .fn h
  | _, _, .exc h h2 => .exc (e _ _ h) h2
theorem Dns.mono (e : Same G G') : ∀ {vs : List V} {ds : List D}, Dns K cl G vs ds → Dns K cl G' vs ds
  | _, _, .nil => .nil
  | _, _, .cons h hs => .cons (Dn.mono e h) (Dns.mono e hs)
end
theorem Dns.length : ∀ {vs : List V} {ds : List D}, Dns K cl G vs ds → vs.length = ds.length
  | _, _, .nil => rfl
  | _, _, .cons _ t => by simp [Dns.length t]
theorem Dns.get : ∀ {vs : List V} {ds : List D} {i : Nat} {d : D}, Dns K cl G vs ds → ds[i]? = some d → ∃ v, vs[i]? = some v ∧ Dn K cl G v d
  | _, _, _, _, .nil, h => by simp at h
  | _, _, 0, _, .cons h _, e => by simp at e; subst e; exact ⟨_, rfl, h⟩
  | _, _, i + 1, d, .cons _ t, e => by
    obtain ⟨u, h1, h2⟩ := Dns.get (i := i) (d := d) t (by simpa using e)
    exact ⟨u, by simpa using h1, h2⟩
theorem Dns.append : ∀ {xs ys : List V} {us ws : List D}, Dns K cl G xs us → Dns K cl G ys ws → Dns K cl G (xs ++ ys) (us ++ ws)
  | _, _, _, _, .nil, s => s
  | _, _, _, _, .cons r t, s => .cons r (Dns.append t s)
theorem Dns.take : ∀ {xs : List V} {us : List D} (n : Nat), Dns K cl G xs us → Dns K cl G (xs.take n) (us.take n)
  | _, _, 0, _ => .nil
  | _, _, _ + 1, .nil => .nil
  | _, _, n + 1, .cons r t => .cons r (Dns.take n t)
theorem Dns.drop : ∀ {xs : List V} {us : List D} (n : Nat), Dns K cl G xs us → Dns K cl G (xs.drop n) (us.drop n)
  | _, _, 0, r => r
  | _, _, _ + 1, .nil => .nil
  | _, _, n + 1, .cons _ t => Dns.drop n t
theorem Dns.rep {xs : List V} {us : List D} (h : Dns K cl G xs us) : ∀ k : Nat, Dns K cl G (List.replicate k xs).flatten (List.replicate k us).flatten
  | 0 => .nil
  | k + 1 => by rw [List.replicate_succ, List.replicate_succ, List.flatten_cons, List.flatten_cons]; exact h.append (Dns.rep h k)
theorem dns_ints : ∀ ns : List Int, Dns K cl G (ns.map V.int) (ns.map D.int)
  | [] => .nil
  | n :: r => .cons (.int n) (dns_ints r)
end
noncomputable def intsD : List D → Option (List Int)
  | [] => some []
  | .int i :: r => (intsD r).map (i :: ·)
  | _ => none
noncomputable def blsD : List D → Option (List Bool)
  | [] => some []
  | .bl i :: r => (blsD r).map (i :: ·)
  | _ => none
theorem blsD_map (ns : List Bool) : blsD (ns.map D.bl) = some ns := by
  induction ns with
  | nil => rfl
  | cons n r ih => show (blsD (r.map D.bl)).map (n :: ·) = _; rw [ih]; rfl
theorem intsD_eq : ∀ {l : List D} {ns : List Int}, intsD l = some ns → l = ns.map D.int
  | [], ns, h => by cases h; rfl
  | d :: r, ns, h => by
    cases d with
    | int i =>
      have h' : (intsD r).map (i :: ·) = some ns := h
      cases e : intsD r with
      | none => rw [e] at h'; cases h'
      | some ms => rw [e] at h'; cases h'; rw [intsD_eq e]; rfl
    | _ => cases h
theorem blsD_eq : ∀ {l : List D} {ns : List Bool}, blsD l = some ns → l = ns.map D.bl
  | [], ns, h => by cases h; rfl
  | d :: r, ns, h => by
    cases d with
    | bl i =>
      have h' : (blsD r).map (i :: ·) = some ns := h
      cases e : blsD r with
      | none => rw [e] at h'; cases h'
      | some ms => rw [e] at h'; cases h'; rw [blsD_eq e]; rfl
    | _ => cases h
section
variable {K : W.Frag} {cl : Nat → Option Addr} {G : Hp}
theorem Dns.ints : ∀ {vs : List V} {ns : List Int}, Dns K cl G vs (ns.map D.int) → vs = ns.map V.int
  | _, [], .nil => rfl
  | _, n :: r, .cons (.int _) t => by rw [Dns.ints t]; rfl
theorem Dns.bls : ∀ {vs : List V} {ns : List Bool}, Dns K cl G vs (ns.map D.bl) → vs = ns.map V.bl
  | _, [], .nil => rfl
  | _, n :: r, .cons (.bl _) t => by rw [Dns.bls t]; rfl
end
mutual
noncomputable def toPy : D → Option PyData
  | .non => some .none
  | .bl b => some (.bool b)
  | .int i => some (.int i)
  | .str x => some (.str x)
  | .lst l => (toPys l).map .list
  | .tup l => (toPys l).map .tuple
  | .ins _ _ _ => none
  | .dic _ => none
  | .fn _ => none
  | .exc _ => none
noncomputable def toPys : List D → Option (List PyData)
  | [] => some []
  | d :: r => match toPy d, toPys r with
    | some x, some y => some (x :: y)
    | _, _ => none
end
noncomputable def eqD (a b : D) : Option Bool := match toPy a, toPy b with
  | some x, some y => if PySem.SeqAt.shaped x && PySem.SeqAt.shaped y && PySem.SeqAt.noMix x y then some (PySem.Spec.same x y) else none
  | _, _ => none
section
variable {K : W.Frag} {cl : Nat → Option Addr} {G : Hp}
mutual
theorem Dn.py : ∀ {v : V} {d : D} {x : PyData}, Dn K cl G v d → toPy d = some x → L2.DV K G v x
  | _, _, _, .non, h => by cases h; exact .non
  | _, _, _, .bl b, h => by cases h; exact .bl b
  | _, _, _, .int i, h => by cases h; exact .int i
  | _, _, _, .str y, h => by cases h; exact .str y
  | _, _, x, @Dn.lst _ _ _ a xs ds h hs, e => by
    have e' : (toPys ds).map PyData.list = some x := by simpa [toPy] using e
    cases q : toPys ds with
    | none => rw [q] at e'; cases e'
    | some y => rw [q] at e'; cases e'; exact .lst h.sql (Dns.py hs q)
  | _, _, x, @Dn.tup _ _ _ a xs ds h hs, e => by
    have e' : (toPys ds).map PyData.tuple = some x := by simpa [toPy] using e
    cases q : toPys ds with
    | none => rw [q] at e'; cases e'
    | some y => rw [q] at e'; cases e'; exact .tup (.inl (.inl h)) (Dns.py hs q)
  | _, _, _, .ins _ _ _ _, h => by simp [toPy] at h
  | _, _, _, .dic _, h => by simp [toPy] at h
  | _, _, _, .fn _, h => by simp [toPy] at h
  | _, _, _, .exc _ _, h => by simp [toPy] at h
theorem Dns.py : ∀ {vs : List V} {ds : List D} {x : List PyData}, Dns K cl G vs ds → toPys ds = some x → L2.DVs K G vs x
  | _, _, _, .nil, h => by cases h; exact .nil
  | _, _, x, @Dns.cons _ _ _ v d vs ds h hs, e => by
    have e' : (match toPy d, toPys ds with | some x, some y => some (x :: y) | _, _ => none) = some x := by simpa [toPys] using e
    cases q1 : toPy d with
    | none => rw [q1] at e'; cases e'
    | some y =>
      cases q2 : toPys ds with
      | none => rw [q1, q2] at e'; cases e'
      | some z => rw [q1, q2] at e'; cases e'; exact .cons (Dn.py h q1) (Dns.py hs q2)
end
end
structure Ext (H G H' G' : Hp) : Prop where
  hh : Same H H'
  gg : Same G G'
  gh : Same G' H'
  nw : ∀ b o, G' b = some o → G b = none → H b = none
section
variable {H G H' G' H2 G2 : Hp}
theorem Ext.refl (h : Same G H) : Ext H G H G := ⟨.refl _, .refl _, h, fun b o h1 h2 => by rw [h1] at h2; cases h2⟩
theorem Ext.trans (a : Ext H G H' G') (b : Ext H' G' H2 G2) : Ext H G H2 G2 :=
  ⟨a.hh.trans b.hh, a.gg.trans b.gg, b.gh, fun c o h1 h2 => by
    cases q : G' c with
    | some u => exact a.nw c u q h2
    | none => exact a.hh.free (b.nw c o h1 q)⟩
theorem same_upd {H : Hp} {p : Addr} (h : H p = none) (o : HO) : Same H (upd H p o) := fun b u q => by rw [upd_ne (ne_of_none q h)]; exact q
theorem Ext.new (h : Same G H) {p : Addr} (hp : H p = none) (o : HO) : Ext H G (upd H p o) (upd G p o) :=
  ⟨same_upd hp o, same_upd (h.free hp) o, fun b u q => by
    by_cases e : b = p
    · subst e; rw [upd_same] at q ⊢; exact q
    · rw [upd_ne e] at q ⊢; exact h _ _ q, fun b u q n => by
    by_cases e : b = p
    · subst e; exact hp
    · rw [upd_ne e] at q; rw [q] at n; cases n⟩
theorem Ext.newO (h : Same G H) {p : Addr} (hp : H p = none) (o : HO) : Ext H G (upd H p o) G :=
  ⟨same_upd hp o, .refl _, h.trans (same_upd hp o), fun b u q n => by rw [q] at n; cases n⟩
end
noncomputable def rD (K : W.Frag) (cl : Nat → Option Addr) (g : D → D → Option D) : R2 := fun v u H Q => ∃ G x y d, Same G H ∧ Dn K cl G v x ∧ Dn K cl G u y ∧ g x y = some d ∧ ∀ z H' G', Ext H G H' G' → Dn K cl G' z d → Q z H'
noncomputable def rD1 (K : W.Frag) (cl : Nat → Option Addr) (g : D → Option D) : V → Hp → VK → Prop := fun v H Q => ∃ G x d, Same G H ∧ Dn K cl G v x ∧ g x = some d ∧ ∀ z H' G', Ext H G H' G' → Dn K cl G' z d → Q z H'
noncomputable def rDs (K : W.Frag) (cl : Nat → Option Addr) (g : List D → Option D) : List V → Hp → VK → Prop := fun vs H Q => ∃ G xs d, Same G H ∧ Dns K cl G vs xs ∧ g xs = some d ∧ ∀ z H' G', Ext H G H' G' → Dn K cl G' z d → Q z H'
section
variable {X : Cx} {pins : List (Addr × Obj)} {σ : St} {H : Hp} {s : Shared}
theorem rl_lst (I : Inv X pins σ H s) {a : Addr} {xs : List V} (h : RL X.K H a xs) : xs.length ≤ sizeLine ∧ ∃ (its : List Value) (n : Nat), Vals xs its ∧ xs.length = its.length ∧ s.heap.get? a = some { cls := .type "list", data := .seq its.toArray n } := by
  rcases h with h | ⟨its, n, h1, h2, h3⟩
  · obtain ⟨z, its, n, r, e⟩ := h.ok I.hok
    exact ⟨z, its, n, r, r.length, e⟩
  · have e : xs.length = its.toList.length := h3.length
    have e2 : its.toList.length = its.size := Array.length_toList
    exact ⟨by omega, its.toList, n, h3, h3.length, by simpa using I.kIn a _ h1⟩
theorem op_catR : OpR X (binaryOp .Add) (fun x y H Q => ∃ l b xs zs, x = .ref l ∧ y = .ref b ∧ RL X.K H l xs ∧ RL X.K H b zs ∧ xs.length + zs.length ≤ sizeLine ∧ ∀ p, H p = none → Q (.ref p) (upd H p (.lst (xs ++ zs)))) := by
  intro pins s σ H x y v u Q I rx ry h
  obtain ⟨l, b, xs, zs, rfl, rfl, hH, hB, hz, q⟩ := h
  cases rx
  cases ry
  obtain ⟨z, its, n, r, hl, e⟩ := rl_lst I hH
  obtain ⟨z2, its2, n2, r2, hl2, e2⟩ := rl_lst I hB
  refine PySem.P.add_list e e2 ?_ (by rw [List.size_toArray, List.size_toArray]; omega)
  have ea : its.toArray ++ its2.toArray = (its ++ its2).toArray := by simp
  rw [ea]
  exact ⟨.ref _, _, I.lnew (t' := s.toks) (r.append r2) (by rw [List.length_append]; omega), rfl, q _ I.fresh⟩
theorem op_repR : OpR X (binaryOp .Mult) (fun x y H Q => ∃ l k xs, x = .ref l ∧ y = .int k ∧ RL X.K H l xs ∧ -(2 ^ 63) ≤ k ∧ k < 2 ^ 63 ∧ xs.length * k.toNat ≤ sizeLine ∧
    ∀ p, H p = none → Q (.ref p) (upd H p (.lst (List.replicate k.toNat xs).flatten))) := by
  intro pins s σ H x y v u Q I rx ry h
  obtain ⟨l, k, xs, rfl, rfl, hH, h1, h2, hz, q⟩ := h
  cases rx
  obtain ⟨t, rfl⟩ := ry
  obtain ⟨z, its, n, r, hl, e⟩ := rl_lst I hH
  have hlen : its.toArray.size * k.toNat ≤ sizeLine := by rw [List.size_toArray, ← hl]; exact hz
  have hcap : ¬ its.toArray.size * k.toNat > (2 ^ 63 - 1) / 8 := by
    have : (sizeLine : Nat) ≤ (2 ^ 63 - 1) / 8 := by decide
    omega
  have hfit : ¬ (!Builtin.List.listFitsIndex k) = true := by
    rw [fitsIndex_both h1 h2]
    exact fnt
  have hlong : ¬ Builtin.List.listTooLong (its.toArray.size * k.toNat) = true := by
    rw [notLongL hlen]
    exact fnt
  have hnew : List.foldl (fun x1 x2 => x1 ++ x2) #[] (List.replicate (if its.toArray.isEmpty = true then 0 else k.toNat) its.toArray) = (List.replicate k.toNat its).flatten.toArray := by
    have f0 : ∀ m : Nat, List.foldl (fun x1 x2 => x1 ++ x2) #[] (List.replicate m its.toArray) = (List.replicate m its).flatten.toArray := fun m => by
      have := foldl_rep its m []
      rw [List.nil_append] at this
      exact this
    rw [f0]
    cases its with
    | nil => simp
    | cons a r' => rw [if_neg (by simp)]
  refine wpAny_binaryOp_repeat_ref (T := "list") (U := "int") (by decide) ⟨_, e, rfl⟩ (fun s' => typeIs_int s' k t) noFill_list_mul F.fills_int_mul F.slot_int_rmul repeat_list F.slot_int_index.lookup
    (call_meets F.slot_int_rmul (typeIs_int s k t) F.entry_int_rmul (F.args_int_rmul_2 _ _) (int___rmul___int_list k t l its.toArray n)
      ⟨e, rfl, ⟨_, e, rfl⟩, call_meets F.slot_list_mul ⟨_, e, rfl⟩ F.entry_list_mul (F.args_list_mul_2 _ _) (AutoListH.list___mul___list_int_3 l its.toArray n k t hfit hcap hlong) ⟨e, ?_⟩⟩)
  rw [hnew]
  exact ⟨.ref _, _, I.lnew (t' := s.toks) (r.rep k.toNat) (by rw [len_rep, Nat.mul_comm]; exact hz), rfl, q _ I.fresh⟩
end
noncomputable def sz (n : Nat) : Bool := decide (n ≤ 1000000)
theorem sz_le {n : Nat} (h : sz n = true) : n ≤ sizeLine := by
  have := odt h
  rw [sizeLine_eq]; omega
noncomputable def mulOk (i j : Int) : Bool := decide (-(2 ^ 64) < i ∧ i < 2 ^ 64) || decide (-(2 ^ 64) < j ∧ j < 2 ^ 64)
noncomputable def powOk (i j : Int) : Bool := decide (0 ≤ j ∧ j ≤ 1000000 ∧ i.natAbs < 2 ^ 64)
noncomputable def binD : Operator → D → D → Option D
  | .Add, .int i, .int j => some (.int (i + j))
  | .Add, .lst a, .lst b => if sz (a.length + b.length) then some (.lst (a ++ b)) else none
  | .Sub, .int i, .int j => some (.int (i - j))
  | .Mult, .int i, .int j => if mulOk i j then some (.int (i * j)) else none
  | .Mult, .lst a, .int k => if sz (a.length * k.toNat) && decide (-(2 ^ 62) ≤ k ∧ k < 2 ^ 62) then some (.lst (List.replicate k.toNat a).flatten) else none
  | .FloorDiv, .int i, .int j => if decide (0 < j ∧ j < 1073741824) then some (.int (i / j)) else none
  | .Mod, .int i, .int j => if decide (0 < j) then some (.int (i % j)) else none
  | .Pow, .int i, .int j => if powOk i j then some (.int (i ^ j.toNat)) else none
  | _, _, _ => none
section
variable {X : Cx} {cl : Nat → Option Addr}
theorem endS {G H : Hp} {Q : VK} {d : D} {K : W.Frag} (sg : Same G H) (q : ∀ z H' G', Ext H G H' G' → Dn K cl G' z d → Q z H') {z : V} (hz : Dn K cl G z d) : Q z H := q z H G (Ext.refl sg) hz
theorem endL {G H : Hp} {Q : VK} {ds : List D} {xs : List V} {K : W.Frag} (sg : Same G H) (q : ∀ z H' G', Ext H G H' G' → Dn K cl G' z (.lst ds) → Q z H') {r : Addr} (hr : H r = none) (h : Dns K cl G xs ds) : Q (.ref r) (upd H r (.lst xs)) :=
  have e := Ext.new sg hr (.lst xs)
  q _ _ _ e (.lst (.inl (.inl upd_same)) (h.mono e.gg))
theorem endT {G H : Hp} {Q : VK} {ds : List D} {xs : List V} {K : W.Frag} (sg : Same G H) (q : ∀ z H' G', Ext H G H' G' → Dn K cl G' z (.tup ds) → Q z H') {r : Addr} (hr : H r = none) (h : Dns K cl G xs ds) : Q (.ref r) (upd H r (.tup xs)) :=
  have e := Ext.new sg hr (.tup xs)
  q _ _ _ e (.tup upd_same (h.mono e.gg))
theorem op_bin (op : Operator) : OpR X (binaryOp op) (rD X.K cl (binD op)) := by
  intro pins s σ H x y v u Q I rx ry ⟨G, a, b, d, sg, da, db, hg, q⟩
  unfold binD at hg
  split at hg
  · cases hg; cases da; cases db
    exact op_add pins s σ H _ _ v u Q I rx ry ⟨_, _, rfl, rfl, endS sg q (.int _)⟩
  · split at hg
    · rename_i hz
      cases hg
      cases da with | @lst p xs _ h1 h2 => cases db with | @lst p' xs' _ h1' h2' =>
        refine op_catR pins s σ H _ _ v u Q I rx ry ⟨_, _, _, _, rfl, rfl, rl_mono sg h1, rl_mono sg h1', sz_le (by rw [h2.length, h2'.length]; exact hz), fun r hr => ?_⟩
        exact endL sg q hr (h2.append h2')
    · cases hg
  · cases hg; cases da; cases db
    exact op_sub pins s σ H _ _ v u Q I rx ry ⟨_, _, rfl, rfl, endS sg q (.int _)⟩
  · split at hg
    · rename_i hz
      cases hg; cases da; cases db
      refine op_mul pins s σ H _ _ v u Q I rx ry ⟨_, _, rfl, rfl, ?_, endS sg q (.int _)⟩
      have hz' := (Bool.or_eq_true _ _).mp hz
      rcases hz' with h | h
      · exact .inl (odt h)
      · exact .inr (odt h)
    · cases hg
  · split at hg
    · rename_i hz
      cases hg; cases db
      cases da with | @lst p xs _ h1 h2 =>
        obtain ⟨hz1, hz2⟩ := bae hz
        have hz2 := odt hz2
        refine op_repR pins s σ H _ _ v u Q I rx ry ⟨_, _, _, rfl, rfl, rl_mono sg h1, by omega, by omega, sz_le (by rw [h2.length]; exact hz1), fun r hr => ?_⟩
        exact endL sg q hr (h2.rep _)
    · cases hg
  · split at hg
    · rename_i hz
      have hz' := odt hz
      cases hg; cases da; cases db
      exact op_fdiv pins s σ H _ _ v u Q I rx ry ⟨_, _, rfl, rfl, hz', endS sg q (.int _)⟩
    · cases hg
  · split at hg
    · rename_i hz
      cases hg; cases da; cases db
      exact op_mod pins s σ H _ _ v u Q I rx ry ⟨_, _, rfl, rfl, odt hz, endS sg q (.int _)⟩
    · cases hg
  · split at hg
    · rename_i hz
      have hz' := odt hz
      cases hg; cases da; cases db
      exact op_pow pins s σ H _ _ v u Q I rx ry ⟨_, _, rfl, rfl, hz', endS sg q (.int _)⟩
    · cases hg
  · cases hg
end
noncomputable def lkp (kvs : List (Int × Int)) (i : Int) : Option Int := (kvs.find? fun p => decide (p.1 = i)).map (·.2)
theorem valV_dKV (i : Int) : ∀ kvs : List (Int × Int), valV (dKV kvs) (Sum.inl i) = (lkp kvs i).map V.int
  | [] => rfl
  | p :: r => by
    show valV ((Sum.inl p.1, V.int p.2) :: dKV r) _ = _
    unfold lkp
    by_cases e : p.1 = i
    · rw [valV_pos (by rw [e]), List.find?_cons, dtt e]; rfl
    · rw [valV_neg (fun z => e (Sum.inl.inj z)), valV_dKV i r, List.find?_cons, dff e]; rfl
noncomputable def neL : D → Bool
  | .lst l => !l.isEmpty
  | _ => false
noncomputable def cmpD : CmpOp → D → D → Option D
  | .Lt, .int i, .int j => some (.bl (decide (i < j)))
  | .LtE, .int i, .int j => some (.bl (decide (i ≤ j)))
  | .Gt, .int i, .int j => some (.bl (decide (j < i)))
  | .Eq, a, b => (eqD a b).map .bl
  | .NotEq, a, b => (eqD a b).map fun c => .bl (!c)
  | _, _, _ => none
section
variable {K : W.Frag} {cl : Nat → Option Addr} {G : Hp}
end
section
variable {X : Cx} {cl : Nat → Option Addr}
theorem eqD_ok {a b : D} {c : Bool} (h : eqD a b = some c) : ∃ x y, toPy a = some x ∧ toPy b = some y ∧ PySem.SeqAt.shaped x = true ∧ PySem.SeqAt.shaped y = true ∧ PySem.SeqAt.noMix x y = true ∧ c = PySem.Spec.same x y := by
  unfold eqD at h
  split at h
  · rename_i x y h1 h2
    split at h
    · rename_i h3
      rw [Bool.and_eq_true, Bool.and_eq_true] at h3
      exact ⟨x, y, h1, h2, h3.1.1, h3.1.2, h3.2, (Option.some.inj h).symm⟩
    · cases h
  · cases h
theorem op_cmp (hu : X.A.units + 64 < cLine) (op : CmpOp) : OpR X (compareOp op) (rD X.K cl (cmpD op)) := by
  intro pins s σ H x y v u Q I rx ry ⟨G, a, b, d, sg, da, db, hg, q⟩
  unfold cmpD at hg
  split at hg
  · cases hg; cases da; cases db
    exact op_lt pins s σ H _ _ v u Q I rx ry ⟨_, _, rfl, rfl, endS sg q (.bl _)⟩
  · cases hg; cases da; cases db
    exact op_le pins s σ H _ _ v u Q I rx ry ⟨_, _, rfl, rfl, endS sg q (.bl _)⟩
  · cases hg; cases da; cases db
    exact op_gt pins s σ H _ _ v u Q I rx ry ⟨_, _, rfl, rfl, endS sg q (.bl _)⟩
  · cases e : eqD a b with
    | none => rw [e] at hg; cases hg
    | some c =>
      rw [e] at hg; cases hg
      obtain ⟨x', y', h1, h2, h3, h4, h5, rfl⟩ := eqD_ok e
      refine op_eqD hu pins s σ H _ _ v u Q I rx ry ⟨x', y', (da.mono sg).py h1, (db.mono sg).py h2, h3, h4, h5, ?_⟩
      rw [if_neg (by decide)]
      exact endS sg q (.bl _)
  · cases e : eqD a b with
    | none => rw [e] at hg; cases hg
    | some c =>
      rw [e] at hg; cases hg
      obtain ⟨x', y', h1, h2, h3, h4, h5, rfl⟩ := eqD_ok e
      refine op_neD hu pins s σ H _ _ v u Q I rx ry ⟨x', y', (da.mono sg).py h1, (db.mono sg).py h2, h3, h4, h5, ?_⟩
      rw [if_pos rfl]
      exact endS sg q (.bl _)
  · cases hg
end
section
variable {K : W.Frag} {cl : Nat → Option Addr} {G : Hp}
theorem Dns.atI {xs : List V} {ds : List D} (h : Dns K cl G xs ds) {i : Int} {d : D} (e : L2.atI ds i = some d) : ∃ v, L2.atI xs i = some v ∧ Dn K cl G v d := by
  unfold L2.atI at e ⊢
  rw [h.length]
  cases q : ixN ds.length i with
  | none => rw [q] at e; cases e
  | some j =>
    rw [q] at e
    exact h.get e
end
noncomputable def idxD : D → D → Option D
  | .lst l, .int i => L2.atI l i
  | .tup l, .int i => L2.atI l i
  | .dic kvs, .int i => (lkp kvs i).map .int
  | .str x, .int i => if sz x.length then (L2.atI x.cps.toList i).map fun c => .str ⟨#[c]⟩ else none
  | _, _ => none
noncomputable def cutL {α : Type} (l : List α) (lo hi : Option Int) : List α := (l.drop (HT.sIx l.length 0 lo)).take (HT.sIx l.length l.length hi - HT.sIx l.length 0 lo)
noncomputable def cutD : D → Option Int → Option Int → Option D
  | .lst l, lo, hi => some (.lst (cutL l lo hi))
  | _, _, _ => none
noncomputable def revD : D → Option D
  | .lst l => some (.lst l.reverse)
  | _ => none
section
variable {X : Cx} {cl : Nat → Option Addr}
theorem ix_D : IxR X (rD X.K cl idxD) := by
  intro value slice pins s σ H x y v u Q I rx ry ⟨G, a, b, d, sg, da, db, hg, q⟩ hs
  unfold idxD at hg
  split at hg
  · cases db
    cases da with | lst h1 h2 =>
      obtain ⟨z, e1, e2⟩ := h2.atI hg
      exact ix_list value slice pins s σ H _ _ v u Q I rx ry ⟨_, _, _, z, rfl, rfl, (rl_mono sg h1).sql, e1, endS sg q e2⟩ hs
  · cases db
    cases da with | tup h1 h2 =>
      obtain ⟨z, e1, e2⟩ := h2.atI hg
      exact ix_tup value slice pins s σ H _ _ v u Q I rx ry ⟨_, _, _, z, rfl, rfl, .inl (.inl (sg _ _ h1)), e1, endS sg q e2⟩ hs
  · obtain ⟨j, e1, rfl⟩ := msi hg
    cases db
    cases da with | dic h =>
      exact ix_dK value slice pins s σ H _ _ v u Q I rx ry ⟨_, _, _, V.int j, rfl, rfl, .inl (sg _ _ h), by rw [valV_dKV, e1]; rfl, endS sg q (.int _)⟩ hs
  · split at hg
    · rename_i hz
      cases da; cases db
      obtain ⟨c, e1, rfl⟩ := msi hg
      exact ix_str value slice pins s σ H _ _ v u Q I rx ry ⟨_, _, c, rfl, rfl, sz_le hz, e1, endS sg q (.str _)⟩ hs
    · cases hg
  · cases hg
noncomputable def rCutD (K : W.Frag) (cl : Nat → Option Addr) : V → Option Int → Option Int → Hp → VK → Prop := fun v lo hi H Q => ∃ G x d, Same G H ∧ Dn K cl G v x ∧ cutD x lo hi = some d ∧ ∀ z H' G', Ext H G H' G' → Dn K cl G' z d → Q z H'
theorem sl_D : SlR X (rCutD X.K cl) := by
  intro pins s σ H x v vl vu lo hi sl Q I rx hs pl pu ⟨G, a, d, sg, da, hg, q⟩
  unfold cutD at hg
  split at hg
  · cases hg
    cases da with | @lst p xs _ h1 h2 =>
      refine sl_list pins s σ H _ v vl vu _ _ sl Q I rx hs pl pu ⟨p, xs, rfl, (rl_mono sg h1).sql, fun r hr => endL sg q hr ?_⟩
      unfold cutV cutL
      rw [h2.length]
      exact (h2.drop _).take _
  · cases hg
end
inductive U where
  | len | list | lrng | sorted | sset | any | all | min | neg | sum | max | lset | ldn | bitl
  deriving DecidableEq
noncomputable def isort (ns : List Int) : List Int := ns.mergeSort (fun a b => decide (a ≤ b))
noncomputable def minL : List Int → Option Int
  | [] => none
  | a :: r => some (r.foldl (fun m x => if x < m then x else m) a)
noncomputable def maxL : List Int → Option Int
  | [] => none
  | a :: r => some (r.foldl (fun m x => if m < x then x else m) a)
noncomputable def ddp : List Int → List Int
  | [] => []
  | a :: r => if a ∈ r then ddp r else a :: ddp r
theorem ddp_mem {x : Int} : ∀ {l : List Int}, x ∈ ddp l ↔ x ∈ l
  | [] => Iff.rfl
  | a :: r => by
    unfold ddp
    have ih := ddp_mem (x := x) (l := r)
    split
    · rename_i h
      rw [ih, List.mem_cons]
      exact ⟨.inr, fun z => z.elim (fun e => e ▸ h) id⟩
    · rw [List.mem_cons, List.mem_cons, ih]
theorem ddp_nodup : ∀ (l : List Int), (ddp l).Nodup
  | [] => List.nodup_nil
  | a :: r => by
    unfold ddp
    split
    · exact ddp_nodup r
    · rename_i h
      exact List.nodup_cons.mpr ⟨fun z => h (ddp_mem.mp z), ddp_nodup r⟩
noncomputable def unD : U → D → Option D
  | .len, .lst l => some (.int l.length)
  | .len, .tup l => some (.int l.length)
  | .len, .str x => if sz x.length then some (.int x.length) else none
  | .list, .lst l => some (.lst l)
  | .list, .tup l => some (.lst l)
  | .lrng, .int n => if decide (-(2 ^ 60) ≤ n ∧ n ≤ 1000000) then some (.lst ((List.range n.toNat).map fun (i : Nat) => D.int i)) else none
  | .sorted, .lst l => (intsD l).bind fun ns => if decide (ns.length < 64) then some (.lst ((isort ns).map D.int)) else none
  | .sset, .lst l => (intsD l).bind fun ns => if decide (ns.length < 64) then some (.lst ((isort (ddp ns)).map D.int)) else none
  | .any, .lst l => (blsD l).map fun bs => .bl (bs.any id)
  | .all, .lst l => (blsD l).map fun bs => .bl (bs.all id)
  | .min, .lst l => (intsD l).bind fun ns => (minL ns).map D.int
  | .neg, .int i => some (.int (-i))
  | .sum, .lst l => (intsD l).map fun ns => .int ns.sum
  | .max, .lst l => (intsD l).bind fun ns => (maxL ns).map D.int
  | .lset, .lst l => (intsD l).bind fun ns => if decide (ns.length < 64) then some (.int (ddp ns).length) else none
  | .bitl, .int i => some (.int (Builtin.Int.intBits i : Nat))
  | .ldn, .int i => if decide (-(2 ^ 30) ≤ i ∧ i ≤ 1000000) then some (.lst ((List.range (i + 1).toNat).map fun (j : Nat) => D.int (i - j))) else none
  | _, _ => none
theorem sorted_unique : ∀ {l m : List Int}, l.Perm m → l.Pairwise (· ≤ ·) → m.Pairwise (· ≤ ·) → l = m := by
  intro l m p h1 h2
  exact p.eq_of_pairwise (fun a b _ _ x y => Int.le_antisymm x y) h1 h2
theorem isort_perm (ns : List Int) : (isort ns).Perm ns := List.mergeSort_perm ns _
theorem isort_sorted (ns : List Int) : (isort ns).Pairwise (· ≤ ·) := by
  have h := List.pairwise_mergeSort (le := fun a b : Int => decide (a ≤ b)) (by intro a b c h1 h2; simp at *; omega) (by intro a b; simp; omega) ns
  exact h.imp (by intro a b h; simpa using h)
theorem isort_eq {ns ms : List Int} (p : ms.Perm ns) (h : ms.Pairwise (· ≤ ·)) : ms = isort ns := sorted_unique (p.trans (isort_perm ns).symm) h (isort_sorted ns)
theorem isort_ddp {ns ms : List Int} (n : ms.Nodup) (p : ∀ x, x ∈ ms ↔ x ∈ ns) (h : ms.Pairwise (· ≤ ·)) : ms = isort (ddp ns) :=
  isort_eq ((List.perm_ext_iff_of_nodup n (ddp_nodup ns)).mpr fun x => (p x).trans ddp_mem.symm) h
section
variable {X : Cx} {cl : Nat → Option Addr}
noncomputable def one (g : D → Option D) : List D → Option D
  | [x] => g x
  | _ => none
noncomputable def two (g : D → D → Option D) : List D → Option D
  | [x, y] => g x y
  | _ => none
theorem one_some {g : D → Option D} {l : List D} {d : D} (h : one g l = some d) : ∃ x, l = [x] ∧ g x = some d := by
  unfold one at h; split at h
  · exact ⟨_, rfl, h⟩
  · cases h
theorem two_some {g : D → D → Option D} {l : List D} {d : D} (h : two g l = some d) : ∃ x y, l = [x, y] ∧ g x y = some d := by
  unfold two at h; split at h
  · exact ⟨_, _, rfl, h⟩
  · cases h
theorem Dns.one {K : W.Frag} {G : Hp} {vs : List V} {x : D} (h : Dns K cl G vs [x]) : ∃ v, vs = [v] ∧ Dn K cl G v x := by
  cases h with | cons a t => cases t; exact ⟨_, rfl, a⟩
theorem Dns.two {K : W.Frag} {G : Hp} {vs : List V} {x y : D} (h : Dns K cl G vs [x, y]) : ∃ v u, vs = [v, u] ∧ Dn K cl G v x ∧ Dn K cl G u y := by
  cases h with | cons a t => cases t with | cons b t => cases t; exact ⟨_, _, rfl, a, b⟩
theorem b_len : CallR X (.builtin "len") (rDs X.K cl (one (unD .len))) := by
  intro pins s σ H vs us Q I r ⟨G, xs, d, sg, dx, hg, q⟩
  obtain ⟨x, rfl, hg⟩ := one_some hg
  obtain ⟨v, rfl, da⟩ := dx.one
  cases x with
  | lst l =>
    cases hg
    cases da with | lst h1 h2 =>
      refine call_len_seq pins s σ H _ us Q I r ⟨_, _, rfl, .inl (rl_mono sg h1).sql, ?_⟩
      rw [h2.length]; exact endS sg q (.int _)
  | tup l =>
    cases hg
    cases da with | tup h1 h2 =>
      refine call_len_seq pins s σ H _ us Q I r ⟨_, _, rfl, .inr (.inl (.inl (sg _ _ h1))), ?_⟩
      rw [h2.length]; exact endS sg q (.int _)
  | str y =>
    have hg' : (if sz y.length then some (D.int y.length) else none) = some d := hg
    split at hg'
    · rename_i hz
      cases hg'; cases da
      exact call_len_str pins s σ H _ us Q I r ⟨_, rfl, sz_le hz, endS sg q (.int _)⟩
    · cases hg'
  | _ => cases hg
theorem b_list : CallR X (.type "list") (rDs X.K cl (one (unD .list))) := by
  intro pins s σ H vs us Q I r ⟨G, xs, d, sg, dx, hg, q⟩
  obtain ⟨x, rfl, hg⟩ := one_some hg
  obtain ⟨v, rfl, da⟩ := dx.one
  cases x with
  | lst l =>
    cases hg
    cases da with | lst h1 h2 =>
      exact call_list_of pins s σ H _ us Q I r ⟨_, _, rfl, .inl (rl_mono sg h1).sql, fun l hl => endL sg q hl h2⟩
  | tup l =>
    cases hg
    cases da with | tup h1 h2 =>
      exact call_list_of pins s σ H _ us Q I r ⟨_, _, rfl, .inr (.inl (.inl (sg _ _ h1))), fun l hl => endL sg q hl h2⟩
  | _ => cases hg
theorem b_all (hc : X.calm = true) : CallR X (.builtin "all") (rDs X.K cl (one (unD .all))) := by
  intro pins s σ H vs us Q I r ⟨G, xs, d, sg, dx, hg, q⟩
  obtain ⟨x, rfl, hg1⟩ := one_some hg; clear hg
  obtain ⟨v, rfl, da⟩ := dx.one
  cases x with
  | lst l =>
    obtain ⟨ns, e1, hg⟩ := msi hg1; clear hg1
    have e1 := blsD_eq e1
    subst e1; subst hg
    cases da with | lst h1 h2 =>
      have e2 := h2.bls
      subst e2
      exact call_all_bl hc pins s σ H _ us Q I r ⟨_, ns, rfl, (rl_mono sg h1).sql, endS sg q (.bl _)⟩
  | _ => cases hg1
noncomputable def min2 : D → D → Option D
  | .int i, .int j => some (.int (if j < i then j else i))
  | _, _ => none
noncomputable def max2 : D → D → Option D
  | .int i, .int j => some (.int (if j > i then j else i))
  | _, _ => none
theorem b_min2 (hc : X.calm = true) : CallR X (.builtin "min") (rDs X.K cl (two min2)) := by
  intro pins s σ H vs us Q I r ⟨G, xs, d, sg, dx, hg, q⟩
  obtain ⟨x, y, rfl, hg1⟩ := two_some hg; clear hg; have hg := hg1; clear hg1
  obtain ⟨v, u, rfl, da, db⟩ := dx.two
  unfold min2 at hg
  split at hg
  · cases hg; cases da; cases db
    exact call_min2 hc pins s σ H _ us Q I r ⟨_, _, rfl, endS sg q (.int _)⟩
  · cases hg
theorem b_max2 (hc : X.calm = true) : CallR X (.builtin "max") (rDs X.K cl (two max2)) := by
  intro pins s σ H vs us Q I r ⟨G, xs, d, sg, dx, hg, q⟩
  obtain ⟨x, y, rfl, hg1⟩ := two_some hg; clear hg; have hg := hg1; clear hg1
  obtain ⟨v, u, rfl, da, db⟩ := dx.two
  unfold max2 at hg
  split at hg
  · cases hg; cases da; cases db
    exact call_max2 hc pins s σ H _ us Q I r ⟨_, _, rfl, endS sg q (.int _)⟩
  · cases hg
theorem un_negD : UnR X (unaryOp .USub) (rD1 X.K cl (unD .neg)) := by
  intro pins s σ H x v Q I rx ⟨G, a, d, sg, da, hg, q⟩
  cases a with
  | int i => cases hg; cases da; exact un_neg pins s σ H _ v Q I rx ⟨_, rfl, endS sg q (.int _)⟩
  | _ => cases hg
noncomputable def tyS : Nat → String
  | 0 => "int" | 1 => "bool" | 2 => "list" | 3 => "tuple" | _ => "str"
noncomputable def tyD : D → Option String
  | .non => some "NoneType" | .bl _ => some "bool" | .int _ => some "int" | .str _ => some "str" | .lst _ => some "list" | .tup _ => some "tuple" | .ins _ _ _ => none | .dic _ => some "dict" | .fn _ => none | .exc _ => none
noncomputable def isiB : D → Nat → Option Bool
  | .non, _ => some false
  | .bl _, 0 => some true | .bl _, 1 => some true | .bl _, _ => some false
  | .int _, 0 => some true | .int _, _ => some false
  | .str _, 0 => some false | .str _, 1 => some false | .str _, 2 => some false | .str _, 3 => some false | .str _, _ => some true
  | .lst _, 2 => some true | .lst _, _ => some false
  | .tup _, 3 => some true | .tup _, _ => some false
  | .ins _ _ _, _ => none
  | .dic _, _ => some false
  | .fn _, _ => none
  | .exc _, _ => none
theorem isiB_ok {d : D} {k : Nat} {b : Bool} (h : isiB d k = some b) : ∃ t, tyD d = some t ∧ ∀ K : W.Frag, W.kitOne K (.type t) (.type (tyS k)) = some b := by
  rcases k with _ | _ | _ | _ | k <;> cases d <;> cases h <;> exact ⟨_, rfl, fun K => rfl⟩
def TyR (K : W.Frag) (H : Hp) (x : V) (t : Value) : Prop := TyOf K H x t ∨ (t = .type "list" ∧ ∃ a xs, x = .ref a ∧ RL K H a xs)
theorem call_isinstR : CallR X (.builtin "isinstance") (fun xs H Q => ∃ x T t b, xs = [x, .ty T] ∧ TyR X.K H x t ∧ W.kitOne X.K t (.type T) = some b ∧ Q (.bl b) H) := by
  intro pins s σ H xs us Q I r h
  obtain ⟨x, T, t, b, rfl, ty, k, q⟩ := h
  rcases ty with ty | ⟨rfl, a, ys, rfl, hr⟩
  · exact call_isinst pins s σ H _ us Q I r ⟨x, T, t, b, rfl, ty, k, q⟩
  · obtain ⟨u, v, rfl, ru, rv⟩ := r.two
    cases (show v = Value.type T from rv)
    cases (show u = Value.ref a from ru)
    obtain ⟨_, its, n, _, _, h1⟩ := rl_lst I hr
    exact W.kia_one W.kitx_list I.kIn ⟨_, h1, rfl⟩ k (fun z => nomatch z) fun tk => ⟨.bl b, H, I.tok _, rfl, q⟩
theorem tyD_ok {K : W.Frag} {G H : Hp} {v : V} {d : D} {t : String} (h : Dn K cl G v d) (sg : Same G H) (e : tyD d = some t) : TyR K H v (.type t) := by
  cases h with
  | non => cases e; exact .inl .non
  | bl b => cases e; exact .inl (.bl b)
  | int b => cases e; exact .inl (.int b)
  | str b => cases e; exact .inl (.str b)
  | lst h1 h2 => cases e; exact .inr ⟨rfl, _, _, rfl, rl_mono sg h1⟩
  | tup h1 h2 => cases e; exact .inl (.tup (sg _ _ h1))
  | ins => cases e
  | dic h => cases e; exact .inl (.dK (sg _ _ h))
  | fn => cases e
  | exc => cases e
end
inductive T where
  | sh (d : D) | ow (ts : List T) | ob (c : Nat) (ks : List Str) (ts : List T)
  deriving Inhabited
mutual
noncomputable def strip : T → D
  | .sh d => d
  | .ow ts => .lst (strips ts)
  | .ob c ks ts => .ins c ks (strips ts)
noncomputable def strips : List T → List D
  | [] => []
  | t :: r => strip t :: strips r
end
theorem strips_map (ts : List T) : strips ts = ts.map strip := by
  induction ts with
  | nil => rfl
  | cons t r ih => simp [strips, ih]
mutual
inductive OT (K : W.Frag) (cl : Nat → Option Addr) (G H : Hp) : V → T → List Addr → Prop where
  | sh {v : V} {d : D} : Dn K cl G v d → OT K cl G H v (.sh d) []
  | ow {a : Addr} {xs : List V} {ts : List T} {A : List Addr} : H a = some (.lst xs) → G a = none → OTs K cl G H xs ts A → OT K cl G H (.ref a) (.ow ts) (a :: A)
  | ob {a C dx : Addr} {c : Nat} {ks : List Str} {vfs : List (Str × V)} {ts : List T} {A : List Addr} : H a = some (.ins C dx vfs) → H dx = some (.own a) → cl c = some C → vfs.map (·.1) = ks → G a = none → G dx = none → OTs K cl G H (vfs.map (·.2)) ts A → OT K cl G H (.ref a) (.ob c ks ts) (a :: dx :: A)
inductive OTs (K : W.Frag) (cl : Nat → Option Addr) (G H : Hp) : List V → List T → List Addr → Prop where
  | nil : OTs K cl G H [] [] []
  | cons {x : V} {t : T} {xs : List V} {ts : List T} {A B : List Addr} : OT K cl G H x t A → OTs K cl G H xs ts B → OTs K cl G H (x :: xs) (t :: ts) (A ++ B)
end
section
variable {K : W.Frag} {cl : Nat → Option Addr} {G G' H H' : Hp}
mutual
theorem OT.move (hg : Same G G') : ∀ {v : V} {t : T} {A : List Addr}, OT K cl G H v t A → (∀ a ∈ A, G' a = none) → (∀ a ∈ A, ∀ o, H a = some o → H' a = some o) → OT K cl G' H' v t A
  | _, _, _, .sh h, _, _ => .sh (h.mono hg)
  | _, _, _, .ow h1 h2 h3, f, k => .ow (k _ (by simp) _ h1) (f _ (by simp)) (OTs.move hg h3 (fun a ha => f a (by simp [ha])) fun a ha => k a (by simp [ha]))
  | _, _, _, .ob h1 h2 h3 h4 h5 h6 h7, f, k => .ob (k _ (by simp) _ h1) (k _ (by simp) _ h2) h3 h4 (f _ (by simp)) (f _ (by simp)) (OTs.move hg h7 (fun a ha => f a (by simp [ha])) fun a ha => k a (by simp [ha]))
theorem OTs.move (hg : Same G G') : ∀ {vs : List V} {ts : List T} {A : List Addr}, OTs K cl G H vs ts A → (∀ a ∈ A, G' a = none) → (∀ a ∈ A, ∀ o, H a = some o → H' a = some o) → OTs K cl G' H' vs ts A
  | _, _, _, .nil, _, _ => .nil
  | _, _, _, .cons h hs, f, k => .cons (OT.move hg h (fun a ha => f a (by simp [ha])) fun a ha => k a (by simp [ha])) (OTs.move hg hs (fun a ha => f a (by simp [ha])) fun a ha => k a (by simp [ha]))
end
mutual
theorem OT.free : ∀ {v : V} {t : T} {A : List Addr}, OT K cl G H v t A → ∀ a ∈ A, G a = none ∧ ∃ o, H a = some o
  | _, _, _, .sh h, a, ha => absurd ha (by simp)
  | _, _, _, .ow h1 h2 h3, b, hb => by
    rcases List.mem_cons.mp hb with rfl | hb
    · exact ⟨h2, _, h1⟩
    · exact OTs.free h3 b hb
  | _, _, _, .ob h1 h2 h3 h4 h5 h6 h7, b, hb => by
    rcases List.mem_cons.mp hb with rfl | hb
    · exact ⟨h5, _, h1⟩
    · rcases List.mem_cons.mp hb with rfl | hb
      · exact ⟨h6, _, h2⟩
      · exact OTs.free h7 b hb
theorem OTs.free : ∀ {vs : List V} {ts : List T} {A : List Addr}, OTs K cl G H vs ts A → ∀ a ∈ A, G a = none ∧ ∃ o, H a = some o
  | _, _, _, .nil, a, ha => absurd ha (by simp)
  | _, _, _, .cons h hs, a, ha => (List.mem_append.mp ha).elim (OT.free h a) (OTs.free hs a)
end
theorem OTs.length : ∀ {vs : List V} {ts : List T} {A : List Addr}, OTs K cl G H vs ts A → vs.length = ts.length
  | _, _, _, .nil => rfl
  | _, _, _, .cons _ t => by simp [OTs.length t]
theorem OTs.shs : ∀ {vs : List V} {ds : List D}, Dns K cl G vs ds → OTs K cl G H vs (ds.map T.sh) []
  | _, _, .nil => .nil
  | _, _, .cons h t => .cons (A := []) (B := []) (.sh h) (OTs.shs t)
theorem OTs.unsh : ∀ {vs : List V} {ds : List D} {A : List Addr}, OTs K cl G H vs (ds.map T.sh) A → Dns K cl G vs ds ∧ A = []
  | _, [], _, .nil => ⟨.nil, rfl⟩
  | _, d :: r, _, .cons (.sh h) t => by
    obtain ⟨a, b⟩ := OTs.unsh t
    exact ⟨.cons h a, by rw [b]; rfl⟩
structure Frz (G G' H : Hp) (A : List Addr) : Prop where
  gg : Same G G'
  gh : Same G' H
  on : ∀ b, b ∉ A → G' b = G b
mutual
theorem OT.freeze : ∀ {G : Hp} {v : V} {t : T} {A : List Addr}, Same G H → OT K cl G H v t A → A.Nodup → ∃ G', Frz G G' H A ∧ Dn K cl G' v (strip t)
  | G, _, _, _, sg, .sh h, _ => ⟨G, ⟨.refl _, sg, fun _ _ => rfl⟩, h⟩
  | G, _, _, _, sg, @OT.ow _ _ _ _ a xs ts A h1 h2 h3, nd => by
    obtain ⟨na, nd'⟩ := List.nodup_cons.mp nd
    obtain ⟨G1, f1, d1⟩ := OTs.freeze sg h3 nd'
    have e1 : G1 a = none := by rw [f1.on a na]; exact h2
    have s1 : Same G1 (upd G1 a (.lst xs)) := same_upd e1 _
    refine ⟨upd G1 a (.lst xs), ⟨f1.gg.trans s1, fun b o q => ?_, fun b hb => ?_⟩, ?_⟩
    · by_cases e : b = a
      · subst e; rw [upd_same] at q; cases q; exact h1
      · rw [upd_ne e] at q; exact f1.gh _ _ q
    · rw [upd_ne (fun e => hb (by simp [e]))]
      exact f1.on b fun z => hb (by simp [z])
    · show Dn K cl _ _ (.lst (strips ts))
      exact .lst (.inl (.inl upd_same)) (d1.mono s1)
  | G, _, _, _, sg, @OT.ob _ _ _ _ a C dx c ks vfs ts A h1 h2 h3 h4 h5 h6 h7, nd => by
    obtain ⟨na, nd'⟩ := List.nodup_cons.mp nd
    obtain ⟨nx, nd'⟩ := List.nodup_cons.mp nd'
    obtain ⟨nax, na⟩ : a ≠ dx ∧ a ∉ A := ⟨fun e => na (by simp [e]), fun e => na (by simp [e])⟩
    obtain ⟨G1, f1, d1⟩ := OTs.freeze sg h7 nd'
    have e1 : G1 a = none := by rw [f1.on a na]; exact h5
    have e2 : G1 dx = none := by rw [f1.on dx nx]; exact h6
    have s1 : Same G1 (upd G1 a (.ins C dx vfs)) := same_upd e1 _
    have e3 : upd G1 a (.ins C dx vfs) dx = none := by rw [upd_ne (Ne.symm nax)]; exact e2
    have s2 : Same (upd G1 a (.ins C dx vfs)) (upd (upd G1 a (.ins C dx vfs)) dx (.own a)) := same_upd e3 _
    refine ⟨upd (upd G1 a (.ins C dx vfs)) dx (.own a), ⟨f1.gg.trans (s1.trans s2), fun b o q => ?_, fun b hb => ?_⟩, ?_⟩
    · by_cases e : b = dx
      · subst e; rw [upd_same] at q; cases q; exact h2
      · rw [upd_ne e] at q
        by_cases e : b = a
        · subst e; rw [upd_same] at q; cases q; exact h1
        · rw [upd_ne e] at q; exact f1.gh _ _ q
    · rw [upd_ne (fun e => hb (by simp [e])), upd_ne (fun e => hb (by simp [e]))]
      exact f1.on b fun z => hb (by simp [z])
    · show Dn K cl _ _ (.ins c ks (strips ts))
      exact .ins (by rw [upd_ne nax]; exact upd_same) h3 h4 (d1.mono (s1.trans s2))
theorem OTs.freeze : ∀ {G : Hp} {vs : List V} {ts : List T} {A : List Addr}, Same G H → OTs K cl G H vs ts A → A.Nodup → ∃ G', Frz G G' H A ∧ Dns K cl G' vs (strips ts)
  | G, _, _, _, sg, .nil, _ => ⟨G, ⟨.refl _, sg, fun _ _ => rfl⟩, .nil⟩
  | G, _, _, _, sg, @OTs.cons _ _ _ _ x t xs ts A B h hs, nd => by
    obtain ⟨n1, n2, n3⟩ := List.nodup_append.mp nd
    obtain ⟨G1, f1, d1⟩ := OT.freeze sg h n1
    have hs' : OTs K cl G1 H xs ts B := OTs.move f1.gg hs (fun a ha => by
      rw [f1.on a (fun z => n3 a z a ha rfl)]; exact (hs.free a ha).1) fun _ _ _ q => q
    obtain ⟨G2, f2, d2⟩ := OTs.freeze f1.gh hs' n2
    refine ⟨G2, ⟨f1.gg.trans f2.gg, f2.gh, fun b hb => ?_⟩, .cons (d1.mono f2.gg) d2⟩
    rw [f2.on b (fun z => hb (List.mem_append_right _ z)), f1.on b (fun z => hb (List.mem_append_left _ z))]
end
theorem Frz.ext {A : List Addr} {H0 G0 : Hp} (f : Frz G G' H A) (e : Ext H0 G0 H G) (n : ∀ a ∈ A, H0 a = none) : Ext H0 G0 H G' :=
  ⟨e.hh, e.gg.trans f.gg, f.gh, fun b o h1 h2 => by
    by_cases hb : b ∈ A
    · exact n b hb
    · rw [f.on b hb] at h1; exact e.nw b o h1 h2⟩
theorem OT.see {v : V} {t : T} {A : List Addr} (sg : Same G H) (h : OT K cl G H v t A) (nd : A.Nodup) : Dn K cl H v (strip t) := by
  obtain ⟨G', f, d⟩ := h.freeze sg nd
  exact d.mono f.gh
end
noncomputable def spP (K : W.Frag) (cl : Nat → Option Addr) (g : List D → Option T) : Sp := fun vs H Q _ => ∃ G ds t, Same G H ∧ Dns K cl G vs ds ∧ g ds = some t ∧ ∀ v H' G' A, Ext H G H' G' → OT K cl G' H' v t A → A.Nodup → (∀ a ∈ A, H a = none) → Q v H'
inductive E where
  | var (i : Nat) | int (i : Int) | bl (b : Bool) | non | str (x : Str)
  | bin (op : Operator) (a b : E) | un (f : U) (a : E) | not (a : E)
  | cmp (op : CmpOp) (a b : E) | ch (op op' : CmpOp) (a b c : E) | ch3 (o1 o2 o3 : CmpOp) (a b c d : E)
  | and (a b : E) | or (a b : E) | ite (c a b : E)
  | idx (a b : E) | cut (a lo hi : E) | rev (a : E)
  | lst (es : E) | tup (es : E)
  | mn (a b : E) | mx (a b : E) | isi (a : E) (k : Nat)
  | comp (elt : E) (is : List Nat) (it c : E)
  | rng (a : E) | rng2 (a b : E) | dn (a : E) | mxd (a d : E) | ind (a b : E) | enm (a : E) | zp (a b : E) | rvd (a : E)
  | call (f : Nat) (args : E)
  | fld (a : E) (f : Str)
  | meth (o : E) (k : Nat) (args : E)
  | isc (a : E) (j : Nat)
  | nil | cons (a r : E)
  | gfn (x : Str) | dic0 | rngS (a b : E)
noncomputable abbrev Env := List (Option D)
noncomputable abbrev Tab := Nat → Option (List D → Option T)
noncomputable def truthD : D → Option Bool
  | .bl b => some b
  | .int i => some (i != 0)
  | _ => none
noncomputable def oc : Option D → List D → List D
  | some y, l => y :: l
  | none, l => l
noncomputable def compR (f : D → Option (Option D)) : List D → Option (List D)
  | [] => some []
  | d :: r => (f d).bind fun o => (compR f r).map fun l => oc o l
noncomputable def rngD (lo hi : Int) : Option (List D) := if decide (-(2 ^ 60) ≤ lo ∧ lo ≤ 2 ^ 60 ∧ -(2 ^ 60) ≤ hi ∧ hi ≤ 2 ^ 60) then some ((List.range (hi - lo).toNat).map fun (i : Nat) => D.int (lo + i)) else none
noncomputable def enumD (k : Nat) : List D → List D
  | [] => []
  | d :: r => .tup [.int k, d] :: enumD (k + 1) r
noncomputable def zipD : List D → List D → List D
  | a :: r, b :: t => .tup [a, b] :: zipD r t
  | _, _ => []
noncomputable def inner (env : Env) (is : List Nat) (d : D) : Env := some d :: is.map fun k => (env[k]?).join
noncomputable def consD (x : D) : D → Option D
  | .lst l => some (.lst (x :: l))
  | _ => none
noncomputable def isRng : E → Bool
  | .rng _ => true
  | .rng2 _ _ => true
  | .dn _ => true
  | .rngS _ _ => true
  | _ => false
noncomputable def noR (o : Option E) : Option E := o.bind fun m => if isRng m then none else some m
noncomputable def isNil : E → Bool
  | .nil => true
  | _ => false
noncomputable def optS (m : E) (o : Option D) : Option (Option Int) := if isNil m then some none else match o with
  | some (.int i) => some (some i)
  | _ => none
noncomputable def cS (m : E) (o : Option D) : Option Bool := if isNil m then some true else o.bind truthD
noncomputable def listD : D → Option (List D)
  | .lst l => some l
  | _ => none
noncomputable def walkD : D → Option (List D)
  | .lst l => some l
  | .tup l => some l
  | _ => none
noncomputable def notD : D → Option D
  | .bl b => some (.bl (!b))
  | _ => none
noncomputable def szL : D → Option D
  | .lst l => if sz l.length then some (.lst l) else none
  | _ => none
noncomputable def szT : D → Option D
  | .lst l => if sz l.length then some (.tup l) else none
  | _ => none
noncomputable def rng2D : D → D → Option D
  | .int n, .int m => (rngD n m).map .lst
  | _, _ => none
noncomputable def mxL (d : Int) (ns : List Int) : Int := (maxL ns).getD d
noncomputable def mxdD : D → D → Option D
  | .lst l, .int d => (intsD l).map fun ns => .int (mxL d ns)
  | _, _ => none
noncomputable def indD : D → D → Option D
  | .lst l, .int k => (intsD l).bind fun ns => if PyData.layable0 (.list (ns.map .int)) && ns.contains k then some (.int (ns.idxOf k : Nat)) else none
  | _, _ => none
noncomputable def enmD : D → Option D
  | .lst l => some (.lst (enumD 0 l))
  | _ => none
noncomputable def zpD : D → D → Option D
  | .lst l, .lst m => some (.lst (zipD l m))
  | _, _ => none
noncomputable def ifB (z : D) (a b : Option D) : Option D := match z with
  | .bl true => a
  | .bl false => b
  | _ => none
noncomputable def fldD (f : Str) : D → Option D
  | .ins _ ks ds => (ks.zip ds).lookup f
  | _ => none
noncomputable def subC (c j : Nat) : Bool := c == j || (j == 0 && decide (1 ≤ c ∧ c ≤ 4))
noncomputable def iscD (j : Nat) : D → Option D
  | .ins c _ _ => some (.bl (subC c j))
  | _ => none
noncomputable def MTH : List Str := ["shows", "unmark", "ahead", "place_behind"]
noncomputable def mid (c k : Nat) : Nat := 1000 + 10 * c + k
noncomputable def metG (Γ : Tab) (k : Nat) : D → Option (List D → Option T)
  | .ins c ks _ => if ks.contains (MTH.getD k "") then none else Γ (mid c k)
  | _ => none
noncomputable def stpD : D → D → Option D
  | .int j, .int d => if decide (0 ≤ j ∧ j ≤ 1000 ∧ 1 ≤ d ∧ d ≤ 1000) then some (.lst ((List.range (steps j d)).map fun (i : Nat) => D.int (0 + i * d))) else none
  | _, _ => none
noncomputable def ev (Γ : Tab) : E → Env → Option D
  | .var i, env => (env[i]?).join
  | .int i, _ => some (.int i)
  | .bl b, _ => some (.bl b)
  | .non, _ => some .non
  | .str x, _ => some (.str x)
  | .bin op a b, env => (ev Γ a env).bind fun x => (ev Γ b env).bind fun y => binD op x y
  | .un f a, env => (ev Γ a env).bind (unD f)
  | .not a, env => (ev Γ a env).bind notD
  | .cmp op a b, env => (ev Γ a env).bind fun x => (ev Γ b env).bind fun y => cmpD op x y
  | .ch o1 o2 a b c, env => (ev Γ a env).bind fun x => (ev Γ b env).bind fun y => (cmpD o1 x y).bind fun z => ifB z ((ev Γ c env).bind fun w => cmpD o2 y w) (some (.bl false))
  | .ch3 o1 o2 o3 a b c d, env => (ev Γ a env).bind fun x => (ev Γ b env).bind fun y => (cmpD o1 x y).bind fun z => ifB z ((ev Γ c env).bind fun w => (cmpD o2 y w).bind fun z2 => ifB z2 ((ev Γ d env).bind fun w2 => cmpD o3 w w2) (some (.bl false))) (some (.bl false))
  | .and a b, env => (ev Γ a env).bind fun x => ifB x (ev Γ b env) (some (.bl false))
  | .or a b, env => (ev Γ a env).bind fun x => ifB x (some (.bl true)) (ev Γ b env)
  | .ite c a b, env => ((ev Γ c env).bind truthD).bind fun x => if x then ev Γ a env else ev Γ b env
  | .idx a b, env => (ev Γ a env).bind fun x => (ev Γ b env).bind fun y => idxD x y
  | .cut a lo hi, env => (ev Γ a env).bind fun x => (optS lo (ev Γ lo env)).bind fun l => (optS hi (ev Γ hi env)).bind fun h => cutD x l h
  | .rev a, env => (ev Γ a env).bind revD
  | .lst es, env => (ev Γ es env).bind szL
  | .tup es, env => (ev Γ es env).bind szT
  | .mn a b, env => (ev Γ a env).bind fun x => (ev Γ b env).bind fun y => min2 x y
  | .mx a b, env => (ev Γ a env).bind fun x => (ev Γ b env).bind fun y => max2 x y
  | .isi a k, env => (ev Γ a env).bind fun x => (isiB x k).map .bl
  | .comp elt is it c, env => ((ev Γ it env).bind walkD).bind fun ds => if sz ds.length then (compR (fun d => (cS c (ev Γ c (inner env is d))).bind fun b => if b then (ev Γ elt (inner env is d)).map some else some none) ds).map .lst else none
  | .call f args, env => (Γ f).bind fun g => ((ev Γ args env).bind listD).bind fun l => (g l).map strip
  | .rng a, env => (ev Γ a env).bind fun x => rng2D (.int 0) x
  | .rng2 a b, env => (ev Γ a env).bind fun x => (ev Γ b env).bind fun y => rng2D x y
  | .dn a, env => (ev Γ a env).bind (unD .ldn)
  | .mxd a d, env => (ev Γ a env).bind fun x => (ev Γ d env).bind fun y => mxdD x y
  | .ind a b, env => (ev Γ a env).bind fun x => (ev Γ b env).bind fun y => indD x y
  | .enm a, env => (ev Γ a env).bind enmD
  | .zp a b, env => (ev Γ a env).bind fun x => (ev Γ b env).bind fun y => zpD x y
  | .rvd a, env => (ev Γ a env).bind revD
  | .fld a f, env => (ev Γ a env).bind (fldD f)
  | .meth o k args, env => (ev Γ o env).bind fun x => (metG Γ k x).bind fun g => ((ev Γ args env).bind listD).bind fun l => (g (x :: l)).map strip
  | .isc a j, env => (ev Γ a env).bind (iscD j)
  | .nil, _ => some (.lst [])
  | .gfn x, _ => some (.fn x)
  | .dic0, _ => some (.dic [])
  | .rngS a b, env => (ev Γ a env).bind fun x => (ev Γ b env).bind fun y => stpD x y
  | .cons a r, env => (ev Γ a env).bind fun x => (ev Γ r env).bind fun y => consD x y
noncomputable def evB (Γ : Tab) (e : E) (env : Env) : Option Bool := (ev Γ e env).bind truthD
noncomputable def evs (Γ : Tab) (e : E) (env : Env) : Option (List D) := (ev Γ e env).bind listD
noncomputable def its (Γ : Tab) (e : E) (env : Env) : Option (List D) := (ev Γ e env).bind walkD
example (Γ : Tab) (a b : E) (env : Env) : ev Γ (.idx a b) env = (ev Γ a env).bind fun x => (ev Γ b env).bind fun y => idxD x y := rfl
structure CC where
  tab : List (Str × Nat)
  gi : List (Str × Int)
  cn : List (Str × Nat) := []
noncomputable def nIdx : List Str → Str → Option Nat
  | [], _ => none
  | y :: r, x => if y == x then some 0 else (nIdx r x).map (· + 1)
theorem nIdx_get : ∀ {N : List Str} {x : Str} {i : Nat}, nIdx N x = some i → N[i]? = some x
  | [], _, _, h => by cases h
  | y :: r, x, i, h => by
    unfold nIdx at h
    split at h
    · rename_i e
      cases h
      rw [show y = x by simpa using e]; rfl
    · obtain ⟨j, e, rfl⟩ := msi h
      simpa using nIdx_get e
noncomputable def okE : Expr → Bool
  | .Starred _ _ => false
  | .Set _ _ _ => false
  | .Slice _ _ _ _ => false
  | .Lambda _ _ _ _ => false
  | _ => true
noncomputable def okT : Expr → Bool
  | .IfExp _ _ _ _ => false
  | _ => true
noncomputable def okN (x : Str) : Bool := !(x == ("__debug__" : Str)) && !(x == ("__classdict__" : Str)) && !(x == ("__name__" : Str))
noncomputable def FLD : List Str := ["pairs", "rings", "things", "moves", "falls", "counts"]
noncomputable def FV : List Str := ["_law_with_row", "_law_with_number", "_law_with_rings", "_law_with_two"]
noncomputable def attrOk : Expr → Bool
  | .Call (.Name _ _) [] [] _ => false
  | _ => true
noncomputable def BLT : List Str := ["len", "list", "range", "sorted", "any", "all", "min", "max", "isinstance", "int", "bool", "tuple", "str", "set", "enumerate", "zip", "reversed", "sum"]
noncomputable def tyCode (x : Str) : Option Nat := if x == ("int" : Str) then some 0 else if x == ("bool" : Str) then some 1 else if x == ("list" : Str) then some 2 else if x == ("tuple" : Str) then some 3 else if x == ("str" : Str) then some 4 else none
noncomputable def cList (f : Expr → Option E) : List Expr → Option E
  | [] => some .nil
  | e :: r => (f e).bind fun m => (cList f r).map fun l => .cons m l
noncomputable def cAnd (f : Expr → Option E) : List Expr → Option E
  | [] => none
  | [a] => if okT a then f a else none
  | a :: b :: r => if okT a then (f a).bind fun m => (cAnd f (b :: r)).map fun l => .and m l else none
noncomputable def cOr (f : Expr → Option E) : List Expr → Option E
  | [] => none
  | [a] => if okT a then f a else none
  | a :: b :: r => if okT a then (f a).bind fun m => (cOr f (b :: r)).map fun l => .or m l else none
noncomputable def isGl (N : List Str) (sc : Scope) (x : Str) : Bool := okN x && (nIdx N x).isNone && decide (sc.names.lookup x = some .globalImplicit)
noncomputable def isZ0 (o : Option E) : Bool := match o with
  | some (.int 0) => true
  | _ => false
noncomputable def cB (g : Str → Bool) (f : Expr → Option E) (x : Str) : List Expr → Option E
  | [a] =>
    if x == ("len" : Str) then (f a).map (.un .len)
    else if x == ("list" : Str) then (match a with
      | .Call (.Name y _) [b] [] _ => if g y && (y == ("range" : Str)) && okE b then (f b).map (.un .lrng) else (f a).map (.un .list)
      | _ => (f a).map (.un .list))
    else if x == ("sorted" : Str) then (match a with
      | .Call (.Name y _) [b] [] _ => if g y && (y == ("set" : Str)) && okE b then (f b).map (.un .sset) else none
      | _ => none)
    else if x == ("all" : Str) then (f a).map (.un .all)
    else none
  | [a, b] =>
    if x == ("min" : Str) then (f a).bind fun m => (f b).map fun l => .mn m l
    else if x == ("max" : Str) then (f a).bind fun m => (f b).map fun l => .mx m l
    else if x == ("isinstance" : Str) then (match b with
      | .Name t _ => if g t then (tyCode t).bind fun k => (f a).map fun m => .isi m k else none
      | _ => none)
    else none
  | _ => none
noncomputable def cI (tt : Bool) (g : Str → Bool) (own : Str → Bool) (f : Expr → Option E) (e : Expr) : Option E := match e with
  | .Call (.Name x _) [a] [] _ =>
    if g x && !own x && (x == ("range" : Str)) && okE a then (f a).map .rng
    else if tt && g x && !own x && (x == ("enumerate" : Str)) && okE a then (f a).map .enm
    else noR (f e)
  | .Call (.Name x _) [a, b] [] _ =>
    if tt && g x && !own x && (x == ("zip" : Str)) && (okE a && okE b) then (f a).bind fun m => (f b).map fun l => .zp m l
    else noR (f e)
  | .Call (.Name x _) [a, s1, s2] [] _ =>
    if g x && !own x && (x == ("range" : Str)) && (okE a && okE s1 && okE s2) && isZ0 (f a) then (f s1).bind fun m => (f s2).map fun l => .rngS m l
    else noR (f e)
  | _ => noR (f e)
noncomputable def frees (names : List (Str × NameKind)) : List Str := names.filterMap fun y => if y.2 = .free then some y.1 else none
noncomputable def slotsOf (N : List Str) : List Str → Option (List Nat)
  | [] => some []
  | x :: r => (nIdx N x).bind fun i => (slotsOf N r).map fun l => i :: l
noncomputable def compOk (sc : Scope) (N : List Str) (scope : Scope) (x : Str) (fr : List Str) (is : List Nat) : Bool :=
  decide (scope.kind = .function ∧ (∀ y ∈ scope.names, y.2 ≠ .cell) ∧ (∀ y ∈ scope.names, y.2 = .local → scope.names.lookup y.1 = some .local) ∧ scope.names.lookup x = some .local ∧ (x :: fr).Nodup ∧
    (∀ y ∈ scope.names, y.2 = .free → sc.names.lookup y.1 = some .cell ∨ sc.names.lookup y.1 = some .free) ∧ (∀ n ∈ fr, scope.names.lookup n = some .free) ∧ (is.map fun k => N[k]?) = fr.map some)
theorem compOk_ok {sc : Scope} {N : List Str} {scope : Scope} {x : Str} {fr : List Str} {is : List Nat} (h : compOk sc N scope x fr is = true) : CompScope sc N scope x fr is := by
  obtain ⟨h1, h2, h3, h4, h5, h6, h7, h8⟩ := odt h
  exact ⟨h1, h2, h3, h4, h5, h6, h7, h8⟩
noncomputable def cOpt (f : Expr → Option E) : Option Expr → Option E
  | none => some .nil
  | some e => if okE e then (f e).bind fun m => if isNil m then none else some m else none
noncomputable def cIfs (f : Expr → Option E) : List Expr → Option E
  | [] => some .nil
  | [t] => if okT t then (f t).bind fun m => if isNil m then none else some m else none
  | _ => none
noncomputable def cNa (c : CC) (N : List Str) (sc : Scope) (x : Str) : Option E := if okN x then (match nIdx N x with
  | some i => some (.var i)
  | none => if sc.names.lookup x = some .globalImplicit then (match c.gi.lookup x with
    | some i => some (.int i)
    | none => if FV.contains x then some (.gfn x) else none) else none) else none
noncomputable def cCo : Const → Option E
  | .int i => some (.int i)
  | .bool b => some (.bl b)
  | .none => some .non
  | .str x => some (.str x)
  | _ => none
noncomputable def cUn (r : Expr → Option E) (a : Expr) : UnaryOp → Option E
  | .USub => (r a).map (.un .neg)
  | .Not => if okT a then (r a).map .not else none
  | _ => none
noncomputable def cCm (r : Expr → Option E) (a : Expr) : List CmpOp → List Expr → Option E
  | [op], [b] => if okE b then (r a).bind fun m => (r b).map fun l => .cmp op m l else none
  | [op, op'], [b, d] => if okE b && okE d then (r a).bind fun m => (r b).bind fun l => (r d).map fun k => .ch op op' m l k else none
  | _, _ => none
noncomputable def cBo (r : Expr → Option E) (vs : List Expr) : BoolOp → Option E
  | .And => if 2 ≤ vs.length then cAnd r vs else none
  | .Or => if 2 ≤ vs.length then cOr r vs else none
noncomputable def cCn (c : CC) (N : List Str) (sc : Scope) (r : Expr → Option E) (x : Str) (args : List Expr) : Option E := if args.all okE && isGl N sc x then (match c.tab.lookup x with
  | some f => if args.isEmpty then none else (cList r args).map (.call f)
  | none => cB (fun y => isGl N sc y && (c.tab.lookup y).isNone) r x args) else none
noncomputable def nmOf : Expr → Option Str
  | .Name x _ => some x
  | _ => none
noncomputable def isBm (apos cpos : Pos) : Bool := apos.endLine == cpos.line
noncomputable def cCa (c : CC) (N : List Str) (sc : Scope) (r : Expr → Option E) (pos : Pos) (f : Expr) (args : List Expr) : List Keyword → Option E
  | [] => (nmOf f).bind fun x => cCn c N sc r x args
  | _ => none
noncomputable def cSl (r : Expr → Option E) (m : E) (lo hi : Option Expr) : Option Expr → Option E
  | none => (cOpt r lo).bind fun ml => (cOpt r hi).map fun mh => .cut m ml mh
  | some _ => none
noncomputable def cSu (r : Expr → Option E) (m : E) (e : Expr) : Option E := match e with
  | .Slice lo hi st _ => cSl r m lo hi st
  | _ => if okE e then (r e).map fun l => .idx m l else none
noncomputable def cLc (c : CC) (N : List Str) (sc : Scope) (r : Expr → Option E) (q : List Str → Expr → Option E) (elt : Expr) (scope : Scope) : List Comprehension → Option E
  | [⟨.Name x _, iter, ifs, 0⟩] =>
    if okE iter then (slotsOf N (frees scope.names)).bind fun is => if compOk sc N scope x (frees scope.names) is then
      (cI false (isGl N sc) (fun y => (c.tab.lookup y).isSome) r iter).bind fun mi =>
      (q (x :: frees scope.names) elt).bind fun me => (cIfs (q (x :: frees scope.names)) ifs).map fun mc => .comp me is mi mc
    else none else none
  | _ => none
noncomputable def cE (c : CC) : Nat → Bool → List Str → Scope → Expr → Option E
  | 0, _, _, _, _ => none
  | n + 1, top, N, sc, e => match e with
    | .Name x _ => cNa c N sc x
    | .Constant k _ _ => cCo k
    | .BinOp a op b _ => (cE c n top N sc a).bind fun m => (cE c n top N sc b).map fun l => .bin op m l
    | .UnaryOp op a _ => cUn (cE c n top N sc) a op
    | .Compare a ops bs _ => cCm (cE c n top N sc) a ops bs
    | .BoolOp op vs _ => cBo (cE c n top N sc) vs op
    | .IfExp t a b _ => if okT t then (cE c n top N sc t).bind fun k => (cE c n top N sc a).bind fun m => (cE c n top N sc b).map fun l => .ite k m l else none
    | .Call f args ks pos => cCa c N sc (cE c n top N sc) pos f args ks
    | .Subscript a b _ => (cE c n top N sc a).bind fun m => cSu (cE c n top N sc) m b
    | .List es _ => if es.all okE then (cList (cE c n top N sc) es).map .lst else none
    | .Dict ks vs _ => if ks.isEmpty && vs.isEmpty then some .dic0 else none
    | .Tuple es _ _ => if es.all okE then (cList (cE c n top N sc) es).map .tup else none
    | .ListComp elt gs scope _ => if top then cLc c N sc (cE c n top N sc) (fun N' e => cE c n false N' scope e) elt scope gs else none
    | _ => none
def EnvD (K : W.Frag) (cl : Nat → Option Addr) (G : Hp) (env : Env) (σ : St) : Prop := ∀ (i : Nat) (d : D), env[i]? = some (some d) → ∃ v, σ[i]? = some (some v) ∧ Dn K cl G v d
theorem EnvD.mono {K : W.Frag} {cl : Nat → Option Addr} {G G' : Hp} {env : Env} {σ : St} (h : EnvD K cl G env σ) (e : Same G G') : EnvD K cl G' env σ := fun i d q => let ⟨v, a, b⟩ := h i d q; ⟨v, a, b.mono e⟩
theorem EnvD.inner {K : W.Frag} {cl : Nat → Option Addr} {G : Hp} {env : Env} {σ : St} (h : EnvD K cl G env σ) {d : D} {v : V} (hv : Dn K cl G v d) (is : List Nat) : EnvD K cl G (inner env is d) (compSt σ is (some v)) := by
  intro i e q
  cases i with
  | zero =>
    have q' : some (some d) = some (some e) := q
    cases q'
    exact ⟨v, rfl, hv⟩
  | succ i =>
    have q' : (is.map fun k => (env[k]?).join)[i]? = some (some e) := q
    rw [List.getElem?_map] at q'
    cases hk : is[i]? with
    | none => rw [hk] at q'; cases q'
    | some k =>
      rw [hk] at q'
      have q2 : (env[k]?).join = some e := Option.some.inj q'
      have q3 : env[k]? = some (some e) := by
        cases z : env[k]? with
        | none => rw [z] at q2; cases q2
        | some o => rw [z] at q2; rw [show o = some e from q2]
      obtain ⟨u, h1, h2⟩ := h k e q3
      refine ⟨u, ?_, h2⟩
      show (is.map fun k => (σ[k]?).join)[i]? = some (some u)
      rw [List.getElem?_map, hk]
      show some ((σ[k]?).join) = _
      rw [h1]; rfl
section
variable (K : W.Frag) (cl : Nat → Option Addr) (Γ : Tab)
noncomputable def tV (m : E) : TE := fun σ H Q => ∃ G env d, Same G H ∧ EnvD K cl G env σ ∧ ev Γ m env = some d ∧ ∀ v H' G', Ext H G H' G' → Dn K cl G' v d → Q v H'
noncomputable def tVs (m : E) : TA := fun σ H Q => ∃ G env l, Same G H ∧ EnvD K cl G env σ ∧ evs Γ m env = some l ∧ ∀ vs H' G', Ext H G H' G' → Dns K cl G' vs l → Q vs H'
noncomputable def tVT (m : E) : TT := fun σ H Q => ∃ G env b, Same G H ∧ EnvD K cl G env σ ∧ evB Γ m env = some b ∧ ∀ H' G', Ext H G H' G' → Q b H'
noncomputable def tVO (m : E) : TO := fun σ H Q => ∃ G env o, Same G H ∧ EnvD K cl G env σ ∧ optS m (ev Γ m env) = some o ∧ ∀ H' G', Ext H G H' G' → Q o H'
def Wk (J : It) (G : Hp) (ds : List D) : Prop := ∀ (H G2 : Hp) (i : Nat), Same G G2 → Same G2 H → (i = ds.length → J.stop i H) ∧ ∀ d, ds[i]? = some d → J.go i H ∧ ∀ v H', J.yld i H v H' → ∃ G3, Ext H G2 H' G3 ∧ Dn K cl G3 v d
noncomputable def tI (m : E) : TI := fun σ H R => ∃ G env ds, Same G H ∧ EnvD K cl G env σ ∧ its Γ m env = some ds ∧ ∀ J H' G', Ext H G H' G' → Wk K cl J G' ds → (isRng m = true → ∀ G2, Wk K cl J G2 ds) → R J H'
end
theorem peI {X : Cx} {e : Expr} {t t' : TE} (h : PE X e t) (i : ∀ σ H Q, t' σ H Q → t σ H Q) : PE X e t' := fun pins s σ H Q I q => h pins s σ H Q I (i σ H Q q)
theorem ptI {X : Cx} {e : Expr} {t t' : TT} (h : PT X e t) (i : ∀ σ H Q, t' σ H Q → t σ H Q) : PT X e t' := fun pins s σ H Q I q => h pins s σ H Q I (i σ H Q q)
theorem pwI {X : Cx} {e : Expr} {t t' : TT} (h : PW X e t) (i : ∀ σ H Q, t' σ H Q → t σ H Q) : PW X e t' := fun w pins s σ H Q I q => h w pins s σ H Q I (i σ H Q q)
theorem paI {X : Cx} {e : List Expr} {t t' : TA} (h : PA X e t) (i : ∀ σ H Q, t' σ H Q → t σ H Q) : PA X e t' := fun p pins s σ H Q I q => h p pins s σ H Q I (i σ H Q q)
theorem piI {X : Cx} {tg e : Expr} {t t' : TI} (h : PI X tg e t) (i : ∀ σ H Q, t' σ H Q → t σ H Q) : PI X tg e t' := fun pins s σ H Q I q => h pins s σ H Q I (i σ H Q q)
noncomputable def spM (K : W.Frag) (cl : Nat → Option Addr) (C : Addr) (g : List D → Option T) : Sp := fun vs H' Q _ => ∃ H G x dx vs' ds t, vs = .ref x :: vs' ∧ H x = none ∧ H dx = none ∧ dx ≠ x ∧ H' = upd (upd H dx (.own x)) x (.ins C dx []) ∧ Same G H ∧ Dns K cl G vs' ds ∧ g ds = some t ∧
  ∀ H2 G2 A, Ext H G H2 G2 → OT K cl G2 H2 (.ref x) t A → A.Nodup → (∀ a ∈ A, H a = none) → Q .non H2
structure GoodCall (X : Cx) (cl : Nat → Option Addr) (x : Str) (g : List D → Option T) : Prop where
  ex : (∃ k fa fd ps, FnOk X.prog X.w X.K X.mg X.base CX0 k fa fd ps (spP X.K cl g) ∧ Room k X.A ∧ X.mg x = some (.ref fa) ∧ W.keepIn X.K (.ref fa) = true ∧ Binds X.K fd ps []) ∨
    ∃ k C f fd ps, Mk X.K C f ∧ FnOk X.prog X.w X.K X.mg X.base CX0 k f fd ps (spM X.K cl C g) ∧ Room (k + 1) X.A ∧ X.mg x = some (.ref C) ∧ Binds X.K fd ps []
structure GoodMeth (X : Cx) (cl : Nat → Option Addr) (C : Addr) (m : Str) (g : List D → Option T) : Prop where
  ex : ∃ k f fd ps, Meth X.K C m f ∧ FnOk X.prog X.w X.K X.mg X.base CX0 k f fd ps (spP X.K cl g) ∧ Room k X.A ∧ Binds X.K fd ps []
structure ClsT (K : W.Frag) (C : Addr) : Prop where
  ha : W.findIn K (.ref C) "__class__" = some (some (.builtin "object.__class__"))
  hn : W.specialIn K (.builtin "object.__class__") "__get__" = some (some (.builtin "getset_descriptor.__get__"))
  htk : W.takesIn K (.builtin "object.__class__") = some true
  hm : W.mroIn K C (.type "object") = some true
def ClsOk (K : W.Frag) (cl : Nat → Option Addr) : Prop := (∀ k C, cl k = some C → Cls K C ∧ (∀ f ∈ FLD, NoAttr K C f) ∧ ClsT K C) ∧ ∀ i I j J, cl i = some I → cl j = some J → W.kitOne K (.ref I) (.ref J) = some (subC i j)
structure Sees (X : Cx) (cl : Nat → Option Addr) (c : CC) (Γ : Tab) (top : Bool) (N : List Str) (sc : Scope) : Prop where
  hN : X.N = N
  vis : ∀ (i : Nat) (x : Str), N[i]? = some x → Vis X.env.scope x
  gl : ∀ x, sc.names.lookup x = some .globalImplicit → Gl X x
  tp : top = true → X.env.scope = sc
  calm : X.calm = true
  hu : X.A.units + 64 < cLine
  blt : ∀ x ∈ BLT, X.mg x = none
  fn : ∀ x f g, c.tab.lookup x = some f → Γ f = some g → GoodCall X cl x g
  gi : ∀ x i, c.gi.lookup x = some i → ∃ t, X.mg x = some (.int i t)
  cls : ClsOk X.K cl
  mth : ∀ c C k m g, MTH[k]? = some m → cl c = some C → Γ (mid c k) = some g → GoodMeth X cl C m g
  cn : ∀ x j, c.cn.lookup x = some j → ∃ J, cl j = some J ∧ X.mg x = some (.ref J)
  fv : ∀ x ∈ FV, ∃ a, X.mg x = some (.ref a) ∧ W.nsIn X.K mainGlobals x = some (some (.ref a))
section
variable {K : W.Frag} {cl : Nat → Option Addr} {Γ : Tab} {a b m : E} {σ : St} {H : Hp} {Q : VK}
theorem tV2 {g : D → D → Option D} (h : ∀ env, ev Γ m env = (ev Γ a env).bind fun x => (ev Γ b env).bind fun y => g x y) : tV K cl Γ m σ H Q → tOp (rD K cl g) (tV K cl Γ a) (tV K cl Γ b) σ H Q := by
  rintro ⟨G, env, d, sg, en, e, q⟩
  rw [h] at e
  obtain ⟨x, ex, e⟩ := bsi e
  obtain ⟨y, ey, e⟩ := bsi e
  exact ⟨G, env, x, sg, en, ex, fun v H1 G1 e1 d1 => ⟨G1, env, y, e1.gh, en.mono e1.gg, ey, fun u H2 G2 e2 d2 => ⟨G2, x, y, d, e2.gh, d1.mono e2.gg, d2, e, fun z H3 G3 e3 d3 => q z H3 G3 ((e1.trans e2).trans e3) d3⟩⟩⟩
theorem tV1 {g : D → Option D} (h : ∀ env, ev Γ m env = (ev Γ a env).bind g) : tV K cl Γ m σ H Q → tUn (rD1 K cl g) (tV K cl Γ a) σ H Q := by
  rintro ⟨G, env, d, sg, en, e, q⟩
  rw [h] at e
  obtain ⟨x, ex, e⟩ := bsi e
  exact ⟨G, env, x, sg, en, ex, fun v H1 G1 e1 d1 => ⟨G1, x, d, e1.gh, d1, e, fun z H3 G3 e3 d3 => q z H3 G3 (e1.trans e3) d3⟩⟩
theorem tVB1 {g : D → Option D} (h : ∀ env, ev Γ m env = (ev Γ a env).bind g) : tV K cl Γ m σ H Q → tCB (rDs K cl (one g)) (tCons (tV K cl Γ a) tNil) σ H Q := by
  rintro ⟨G, env, d, sg, en, e, q⟩
  rw [h] at e
  obtain ⟨x, ex, e⟩ := bsi e
  exact ⟨G, env, x, sg, en, ex, fun v H1 G1 e1 d1 => ⟨G1, [x], d, e1.gh, .cons d1 .nil, e, fun z H3 G3 e3 d3 => q z H3 G3 (e1.trans e3) d3⟩⟩
theorem tVB2 {g : D → D → Option D} (h : ∀ env, ev Γ m env = (ev Γ a env).bind fun x => (ev Γ b env).bind fun y => g x y) : tV K cl Γ m σ H Q → tCB (rDs K cl (two g)) (tCons (tV K cl Γ a) (tCons (tV K cl Γ b) tNil)) σ H Q := by
  rintro ⟨G, env, d, sg, en, e, q⟩
  rw [h] at e
  obtain ⟨x, ex, e⟩ := bsi e
  obtain ⟨y, ey, e⟩ := bsi e
  exact ⟨G, env, x, sg, en, ex, fun v H1 G1 e1 d1 => ⟨G1, env, y, e1.gh, en.mono e1.gg, ey, fun u H2 G2 e2 d2 => ⟨G2, [x, y], d, e2.gh, .cons (d1.mono e2.gg) (.cons d2 .nil), e, fun z H3 G3 e3 d3 => q z H3 G3 ((e1.trans e2).trans e3) d3⟩⟩⟩
end
theorem cmpD_bl {op : CmpOp} {x y d : D} (h : cmpD op x y = some d) : ∃ b, d = .bl b := by
  unfold cmpD at h
  split at h
  all_goals first
    | (cases h; exact ⟨_, rfl⟩)
    | (cases h; done)
    | (obtain ⟨c, _, rfl⟩ := msi h; exact ⟨_, rfl⟩)
    | (split at h <;> cases h; exact ⟨_, rfl⟩)
theorem star_of {e : Expr} (h : okE e = true) (es : List Expr) (env : PySem.Env) : starEach (e :: es) env = (false, eval e env) :: starEach es env := by
  cases e <;> first | rfl | cases h
theorem star_any {es : List Expr} (h : es.all okE = true) (pos : Pos) (env : PySem.Env) : (backTo pos (starEach es env)).any (·.1) = false := by
  induction es with
  | nil => rfl
  | cons e r ih =>
    rw [List.all_cons, Bool.and_eq_true] at h
    rw [star_of h.1]
    show (false || (backTo pos (starEach r env)).any (·.1)) = false
    rw [ih h.2]; rfl
theorem few_ok {es : List Expr} (h : es.all okE = true) (pos : Pos) (env : PySem.Env) (hl : es.length < 30) : ((backTo pos (starEach es env)).all (fun x => !x.1) && (backToKw pos (keywordEach [] env)).all (fun x => x.1.isSome) && decide (es.length + ([] : List Keyword).length + (if ([] : List Keyword).isEmpty then 0 else 1) < 30)) = true := by
  have h1 : (backTo pos (starEach es env)).all (fun x => !x.1) = true := by
    have := star_any h pos env
    rw [List.all_eq_true]
    intro x hx
    have := List.any_eq_false.mp this x hx
    simpa using this
  rw [h1]
  simp [backToKw, keywordEach]
  exact hl
theorem okN_ok {x : Str} (h : okN x = true) : (x == ("__debug__" : Str)) = false ∧ (x == ("__classdict__" : Str)) = false ∧ x ≠ "__name__" := by
  unfold okN at h
  rw [Bool.and_eq_true, Bool.and_eq_true] at h
  refine ⟨by simpa using h.1.1, by simpa using h.1.2, ?_⟩
  have h3 := h.2
  intro e
  subst e
  simp at h3
theorem isGl_ok {N : List Str} {sc : Scope} {x : Str} (h : isGl N sc x = true) : okN x = true ∧ sc.names.lookup x = some .globalImplicit := by
  unfold isGl at h
  rw [Bool.and_eq_true, Bool.and_eq_true] at h
  exact ⟨h.1.1, odt h.2⟩
theorem bt_len : bootBuiltins "len" = some (.builtin "len") := by decide +kernel
theorem bt_list : bootBuiltins "list" = some (.type "list") := by decide +kernel
theorem bt_range : bootBuiltins "range" = some (.type "range") := by decide +kernel
theorem bt_set : bootBuiltins "set" = some (.type "set") := by decide +kernel
theorem bt_sorted : bootBuiltins "sorted" = some (.builtin "sorted") := by decide +kernel
theorem bt_all : bootBuiltins "all" = some (.builtin "all") := by decide +kernel
theorem bt_min : bootBuiltins "min" = some (.builtin "min") := by decide +kernel
theorem bt_max : bootBuiltins "max" = some (.builtin "max") := by decide +kernel
theorem bt_isinstance : bootBuiltins "isinstance" = some (.builtin "isinstance") := by decide +kernel
theorem tyCode_ok {x : Str} {k : Nat} (h : tyCode x = some k) : x ∈ BLT ∧ bootBuiltins x = some (.type (tyS k)) := by
  unfold tyCode at h
  split at h
  · rename_i e; cases h; rw [show x = "int" by simpa using e]; exact ⟨by decide +kernel, by decide +kernel⟩
  split at h
  · rename_i e; cases h; rw [show x = "bool" by simpa using e]; exact ⟨by decide +kernel, by decide +kernel⟩
  split at h
  · rename_i e; cases h; rw [show x = "list" by simpa using e]; exact ⟨by decide +kernel, by decide +kernel⟩
  split at h
  · rename_i e; cases h; rw [show x = "tuple" by simpa using e]; exact ⟨by decide +kernel, by decide +kernel⟩
  split at h
  · rename_i e; cases h; rw [show x = "str" by simpa using e]; exact ⟨by decide +kernel, by decide +kernel⟩
  · cases h
section
variable {X : Cx} {cl : Nat → Option Addr} {Γ : Tab}
theorem pt_of {e : Expr} {m : E} (he : ∀ whole, isTrue e X.env whole = (do let v ← whole; standAt e.pos; holding [v] (truthy v))) (h : PE X e (tV X.K cl Γ m)) : PT X e (tVT X.K cl Γ m) := by
  refine ptI (pt_truth h he) fun σ H Q ⟨G, env, b, sg, en, e, q⟩ => ?_
  obtain ⟨d, e1, e2⟩ := bsi e
  refine ⟨G, env, d, sg, en, e1, fun v H' G' ex dv => ?_⟩
  cases d with
  | bl c => cases e2; cases dv; exact ⟨b, rfl, q H' G' ex⟩
  | int c => cases e2; cases dv; exact ⟨_, rfl, q H' G' ex⟩
  | _ => cases e2
abbrev Both (X : Cx) (cl : Nat → Option Addr) (Γ : Tab) (e : Expr) (m : E) : Prop := PE X e (tV X.K cl Γ m) ∧ (okT e = true → PT X e (tVT X.K cl Γ m))
theorem clist_ok {f : Expr → Option E} : ∀ {es : List Expr} {m : E}, (∀ e ∈ es, ∀ m, f e = some m → PE X e (tV X.K cl Γ m)) → es.all okE = true → cList f es = some m → PA X es (tVs X.K cl Γ m)
  | [], m, _, _, h => by
    cases h
    refine paI pa_nil fun σ H Q ⟨G, env, l, sg, en, e, q⟩ => ?_
    have e' : (some [] : Option (List D)) = some l := e
    cases e'
    exact q [] H G (Ext.refl sg) .nil
  | e :: r, m, ih, ok, h => by
    rw [List.all_cons, Bool.and_eq_true] at ok
    obtain ⟨ma, h1, h⟩ := bsi h
    obtain ⟨mr, h2, rfl⟩ := msi h
    refine paI (pa_cons (ih e (by simp) ma h1) (clist_ok (fun e he => ih e (by simp [he])) ok.2 h2) (star_of ok.1 _ _)) fun σ H Q ⟨G, env, l, sg, en, e, q⟩ => ?_
    obtain ⟨d, e1, e2⟩ := bsi e
    obtain ⟨x, ex, e1⟩ := bsi (show (ev Γ ma env).bind (fun x => (ev Γ mr env).bind fun y => consD x y) = some d from e1)
    obtain ⟨y, ey, e1⟩ := bsi e1
    cases y with
    | lst l' =>
      cases e1
      cases e2
      exact ⟨G, env, x, sg, en, ex, fun v H1 G1 x1 d1 => ⟨G1, env, l', x1.gh, en.mono x1.gg, by unfold evs; rw [ey]; rfl, fun vs H2 G2 x2 d2 => q _ H2 G2 (x1.trans x2) (.cons (d1.mono x2.gg) d2)⟩⟩
    | _ => cases e1
theorem cand_ok {f : Expr → Option E} {pos : Pos} : ∀ {es : List Expr} {m : E}, (∀ e ∈ es, ∀ m, f e = some m → Both X cl Γ e m) → cAnd f es = some m → PE X (.BoolOp .And es pos) (tV X.K cl Γ m) ∧ PW X (.BoolOp .And es pos) (tVT X.K cl Γ m)
  | [], m, _, h => by cases h
  | [a], m, ih, h => by
    have h' : (if okT a then f a else none) = some m := h
    split at h'
    · rename_i ok
      have b := ih a (by simp) m h'
      exact ⟨pe_one b.1, pw_and1 (b.2 ok)⟩
    · cases h'
  | a :: b :: r, m, ih, h => by
    have h' : (if okT a then (f a).bind fun m => (cAnd f (b :: r)).map fun l => .and m l else none) = some m := h
    split at h'
    · rename_i ok
      obtain ⟨ma, h1, h'⟩ := bsi h'
      obtain ⟨mr, h2, rfl⟩ := msi h'
      have ba := ih a (by simp) ma h1
      obtain ⟨p1, p2⟩ := cand_ok (pos := pos) (fun e he => ih e (by simp [he])) h2
      constructor
      · refine peI (pe_and ba.1 p1) fun σ H Q ⟨G, env, d, sg, en, e, q⟩ => ?_
        obtain ⟨x, ex, e⟩ := bsi (show (ev Γ ma env).bind (fun x => ifB x (ev Γ mr env) (some (.bl false))) = some d from e)
        refine ⟨G, env, x, sg, en, ex, fun v H1 G1 x1 d1 => ?_⟩
        cases x with
        | bl c =>
          cases d1
          refine ⟨c, rfl, ?_⟩
          cases c with
          | true => exact iteT ⟨G1, env, d, x1.gh, en.mono x1.gg, e, fun v H2 G2 x2 d2 => q v H2 G2 (x1.trans x2) d2⟩
          | false => cases e; exact iteF (q _ H1 G1 x1 (.bl _))
        | _ => cases e
      · refine pwI (pw_and (ba.2 ok) p2) fun σ H Q ⟨G, env, t, sg, en, e, q⟩ => ?_
        obtain ⟨d, e, e'⟩ := bsi e
        obtain ⟨x, ex, e⟩ := bsi (show (ev Γ ma env).bind (fun x => ifB x (ev Γ mr env) (some (.bl false))) = some d from e)
        cases x with
        | bl c =>
          refine ⟨G, env, c, sg, en, by unfold evB; rw [ex]; rfl, fun H1 G1 x1 => ?_⟩
          cases c with
          | true => exact iteT ⟨G1, env, t, x1.gh, en.mono x1.gg, by unfold evB; rw [show ev Γ mr env = some d from e]; exact e', fun H2 G2 x2 => q H2 G2 (x1.trans x2)⟩
          | false => cases e; cases e'; exact iteF (q H1 G1 x1)
        | _ => cases e
    · cases h'
theorem cor_ok {f : Expr → Option E} {pos : Pos} : ∀ {es : List Expr} {m : E}, (∀ e ∈ es, ∀ m, f e = some m → Both X cl Γ e m) → cOr f es = some m → PE X (.BoolOp .Or es pos) (tV X.K cl Γ m) ∧ PW X (.BoolOp .Or es pos) (tVT X.K cl Γ m)
  | [], m, _, h => by cases h
  | [a], m, ih, h => by
    have h' : (if okT a then f a else none) = some m := h
    split at h'
    · rename_i ok
      have b := ih a (by simp) m h'
      exact ⟨pe_one b.1, pw_or1 (b.2 ok)⟩
    · cases h'
  | a :: b :: r, m, ih, h => by
    have h' : (if okT a then (f a).bind fun m => (cOr f (b :: r)).map fun l => .or m l else none) = some m := h
    split at h'
    · rename_i ok
      obtain ⟨ma, h1, h'⟩ := bsi h'
      obtain ⟨mr, h2, rfl⟩ := msi h'
      have ba := ih a (by simp) ma h1
      obtain ⟨p1, p2⟩ := cor_ok (pos := pos) (fun e he => ih e (by simp [he])) h2
      constructor
      · refine peI (pe_or ba.1 p1) fun σ H Q ⟨G, env, d, sg, en, e, q⟩ => ?_
        obtain ⟨x, ex, e⟩ := bsi (show (ev Γ ma env).bind (fun x => ifB x (some (.bl true)) (ev Γ mr env)) = some d from e)
        refine ⟨G, env, x, sg, en, ex, fun v H1 G1 x1 d1 => ?_⟩
        cases x with
        | bl c =>
          cases d1
          refine ⟨c, rfl, ?_⟩
          cases c with
          | false => exact iteF ⟨G1, env, d, x1.gh, en.mono x1.gg, e, fun v H2 G2 x2 d2 => q v H2 G2 (x1.trans x2) d2⟩
          | true => cases e; exact iteT (q _ H1 G1 x1 (.bl _))
        | _ => cases e
      · refine pwI (pw_or (ba.2 ok) p2) fun σ H Q ⟨G, env, t, sg, en, e, q⟩ => ?_
        obtain ⟨d, e, e'⟩ := bsi e
        obtain ⟨x, ex, e⟩ := bsi (show (ev Γ ma env).bind (fun x => ifB x (some (.bl true)) (ev Γ mr env)) = some d from e)
        cases x with
        | bl c =>
          refine ⟨G, env, c, sg, en, by unfold evB; rw [ex]; rfl, fun H1 G1 x1 => ?_⟩
          cases c with
          | false => exact iteF ⟨G1, env, t, x1.gh, en.mono x1.gg, by unfold evB; rw [show ev Γ mr env = some d from e]; exact e', fun H2 G2 x2 => q H2 G2 (x1.trans x2)⟩
          | true => cases e; cases e'; exact iteT (q H1 G1 x1)
        | _ => cases e
    · cases h'
theorem ccmp_ok (hu : X.A.units + 64 < cLine) {op : CmpOp} {a b : Expr} {ma mb : E} {pos : Pos} (ha : PE X a (tV X.K cl Γ ma)) (hb : PE X b (tV X.K cl Γ mb)) (ok : okE b = true) : Both X cl Γ (.Compare a [op] [b] pos) (.cmp op ma mb) := by
  have hm : behindInMarks op b = false := by cases b <;> first | rfl | cases ok
  refine ⟨peI (pe_cmpR (op_cmp (cl := cl) hu op) ha hb hm) fun σ H Q h => tV2 (fun _ => rfl) h, fun _ => ptI (pt_cmpR (op_cmp (cl := cl) hu op) ha hb hm) fun σ H Q ⟨G, env, t, sg, en, e, q⟩ => ?_⟩
  obtain ⟨d, e, e'⟩ := bsi e
  refine tV2 (m := .cmp op ma mb) (fun _ => rfl) ⟨G, env, d, sg, en, e, fun v H' G' x dv => ?_⟩
  obtain ⟨x, _, e⟩ := bsi (show (ev Γ ma env).bind (fun x => (ev Γ mb env).bind fun y => cmpD op x y) = some d from e)
  obtain ⟨y, _, e⟩ := bsi e
  obtain ⟨c, rfl⟩ := cmpD_bl e
  cases e'
  cases dv
  exact ⟨t, rfl, q H' G' ‹_›⟩
theorem cch_ok (hu : X.A.units + 64 < cLine) {o1 o2 : CmpOp} {a b d : Expr} {ma mb md : E} {pos : Pos} (ha : PE X a (tV X.K cl Γ ma)) (hb : PE X b (tV X.K cl Γ mb)) (hd : PE X d (tV X.K cl Γ md)) (ok : okE d = true) : Both X cl Γ (.Compare a [o1, o2] [b, d] pos) (.ch o1 o2 ma mb md) := by
  have hm : lastMarks [o1, o2] [b, d] = false := by
    show behindInMarks o2 d = false
    cases d <;> first | rfl | cases ok
  have go : ∀ σ H (Q : VK), tV X.K cl Γ (.ch o1 o2 ma mb md) σ H Q → tChain (rD X.K cl (cmpD o1)) (rD X.K cl (cmpD o2)) (tV X.K cl Γ ma) (tV X.K cl Γ mb) (tV X.K cl Γ md) σ H Q := by
    rintro σ H Q ⟨G, env, r, sg, en, e, q⟩
    obtain ⟨x, ex, e⟩ := bsi (show (ev Γ ma env).bind (fun x => (ev Γ mb env).bind fun y => (cmpD o1 x y).bind fun z => ifB z ((ev Γ md env).bind fun w => cmpD o2 y w) (some (.bl false))) = some r from e)
    obtain ⟨y, ey, e⟩ := bsi e
    obtain ⟨z, ez, e⟩ := bsi e
    obtain ⟨c, rfl⟩ := cmpD_bl ez
    refine ⟨G, env, x, sg, en, ex, fun v H1 G1 x1 d1 => ⟨G1, env, y, x1.gh, en.mono x1.gg, ey, fun u H2 G2 x2 d2 => ⟨G2, x, y, .bl c, x2.gh, d1.mono x2.gg, d2, ez, fun w H3 G3 x3 d3 => ?_⟩⟩⟩
    cases d3
    refine ⟨c, rfl, ?_⟩
    cases c with
    | false => cases e; exact iteF (q _ H3 G3 ((x1.trans x2).trans x3) (.bl _))
    | true =>
      obtain ⟨w, ew, e⟩ := bsi (show (ev Γ md env).bind (fun w => cmpD o2 y w) = some r from e)
      refine iteT ⟨G3, env, w, x3.gh, en.mono ((x1.gg.trans x2.gg).trans x3.gg), ew, fun u' H4 G4 x4 d4 => ⟨G4, y, w, r, x4.gh, d2.mono (x3.gg.trans x4.gg), d4, e, fun z H5 G5 x5 d5 => q z H5 G5 ((((x1.trans x2).trans x3).trans x4).trans x5) d5⟩⟩
  refine ⟨peI (pe_chain (op_cmp (cl := cl) hu o1) (op_cmp (cl := cl) hu o2) ha hb hd hm) go, fun _ => ptI (pt_chain (op_cmp (cl := cl) hu o1) (op_cmp (cl := cl) hu o2) ha hb hd hm) fun σ H Q ⟨G, env, t, sg, en, e, q⟩ => ?_⟩
  obtain ⟨r, e, e'⟩ := bsi e
  refine go σ H _ ⟨G, env, r, sg, en, e, fun v H' G' x dv => ?_⟩
  cases r with
  | bl c => cases e'; cases dv; exact ⟨t, rfl, q H' G' ‹_›⟩
  | int i =>
    exfalso
    obtain ⟨x, ex, e⟩ := bsi (show (ev Γ ma env).bind (fun x => (ev Γ mb env).bind fun y => (cmpD o1 x y).bind fun z => ifB z ((ev Γ md env).bind fun w => cmpD o2 y w) (some (.bl false))) = some (.int i) from e)
    obtain ⟨y, ey, e⟩ := bsi e
    obtain ⟨z, ez, e⟩ := bsi e
    obtain ⟨c, rfl⟩ := cmpD_bl ez
    cases c with
    | false => cases e
    | true =>
      obtain ⟨w, ew, e⟩ := bsi (show (ev Γ md env).bind (fun w => cmpD o2 y w) = some (.int i) from e)
      obtain ⟨c, e⟩ := cmpD_bl e
      cases e
  | _ => cases e'
theorem pe_lstD {es : List Expr} {m : E} {pos : Pos} (h : PA X es (tVs X.K cl Γ m)) : PE X (.List es pos) (tV X.K cl Γ (.lst m)) := by
  refine peI (pe_lst h) fun σ H Q ⟨G, env, d, sg, en, e, q⟩ => ?_
  obtain ⟨l, e1, e⟩ := bsi (show (ev Γ m env).bind szL = some d from e)
  cases l with
  | lst l =>
    have e' : (if sz l.length then some (D.lst l) else none) = some d := e
    split at e'
    · rename_i hz
      cases e'
      exact ⟨G, env, l, sg, en, by unfold evs; rw [e1]; rfl, fun vs H' G' x dv => ⟨sz_le (by rw [dv.length]; exact hz), fun p hp => endL x.gh (fun z H2 G2 x2 d2 => q z H2 G2 (x.trans x2) d2) hp dv⟩⟩
    · cases e'
  | _ => cases e
theorem pe_tupD {es : List Expr} {m : E} {k : Nat} {pos : Pos} (h : PA X es (tVs X.K cl Γ m)) : PE X (.Tuple es k pos) (tV X.K cl Γ (.tup m)) := by
  refine peI (pe_tup h) fun σ H Q ⟨G, env, d, sg, en, e, q⟩ => ?_
  obtain ⟨l, e1, e⟩ := bsi (show (ev Γ m env).bind szT = some d from e)
  cases l with
  | lst l =>
    have e' : (if sz l.length then some (D.tup l) else none) = some d := e
    split at e'
    · rename_i hz
      cases e'
      exact ⟨G, env, l, sg, en, by unfold evs; rw [e1]; rfl, fun vs H' G' x dv => ⟨sz_le (by rw [dv.length]; exact hz), fun p hp => endT x.gh (fun z H2 G2 x2 d2 => q z H2 G2 (x.trans x2) d2) hp dv⟩⟩
    · cases e'
  | _ => cases e
theorem pe_iteD {t a b : Expr} {mt ma mb : E} {pos : Pos} (ht : PT X t (tVT X.K cl Γ mt)) (ha : PE X a (tV X.K cl Γ ma)) (hb : PE X b (tV X.K cl Γ mb)) : PE X (.IfExp t a b pos) (tV X.K cl Γ (.ite mt ma mb)) := by
  refine peI (pe_ifExp ht ha hb) fun σ H Q ⟨G, env, d, sg, en, e, q⟩ => ?_
  obtain ⟨c, e1, e⟩ := bsi (show ((ev Γ mt env).bind truthD).bind (fun x => if x then ev Γ ma env else ev Γ mb env) = some d from e)
  refine ⟨G, env, c, sg, en, e1, fun H1 G1 x1 => ?_⟩
  cases c with
  | true => exact iteT ⟨G1, env, d, x1.gh, en.mono x1.gg, e, fun v H2 G2 x2 d2 => q v H2 G2 (x1.trans x2) d2⟩
  | false => exact iteF ⟨G1, env, d, x1.gh, en.mono x1.gg, e, fun v H2 G2 x2 d2 => q v H2 G2 (x1.trans x2) d2⟩
theorem pe_notD {a : Expr} {ma : E} {pos : Pos} (h : PE X a (tV X.K cl Γ ma)) : PE X (.UnaryOp .Not a pos) (tV X.K cl Γ (.not ma)) := by
  refine peI (pe_not h) fun σ H Q ⟨G, env, d, sg, en, e, q⟩ => ?_
  obtain ⟨x, e1, e⟩ := bsi (show (ev Γ ma env).bind notD = some d from e)
  refine ⟨G, env, x, sg, en, e1, fun v H1 G1 x1 d1 => ?_⟩
  cases x with
  | bl c => cases e; cases d1; exact ⟨c, rfl, q _ H1 G1 x1 (.bl _)⟩
  | _ => cases e
theorem pt_notD {a : Expr} {ma : E} {pos : Pos} (h : PT X a (tVT X.K cl Γ ma)) : PT X (.UnaryOp .Not a pos) (tVT X.K cl Γ (.not ma)) := by
  refine ptI (pt_not h) fun σ H Q ⟨G, env, t, sg, en, e, q⟩ => ?_
  obtain ⟨d, e, e'⟩ := bsi e
  obtain ⟨x, e1, e⟩ := bsi (show (ev Γ ma env).bind notD = some d from e)
  cases x with
  | bl c => cases e; cases e'; exact ⟨G, env, c, sg, en, by unfold evB; rw [e1]; rfl, fun H1 G1 x1 => q H1 G1 x1⟩
  | _ => cases e
theorem pe_isiD {a : Expr} {ma : E} {t : Str} {k : Nat} {p1 p2 pos : Pos} (h : PE X a (tV X.K cl Γ ma)) (ok : okE a = true) (hg : Gl X "isinstance") (hm : X.mg "isinstance" = none) (gt : Gl X t) (mt : X.mg t = none) (tc : tyCode t = some k) (ot : okN t = true) :
    PE X (.Call (.Name "isinstance" p1) [a, .Name t p2] [] pos) (tV X.K cl Γ (.isi ma k)) := by
  obtain ⟨n1, n2, n3⟩ := okN_ok ot
  refine peI (pe_callB call_isinstR hg hm bt_isinstance (pa_cons h (pa_cons (pe_ty gt mt (tyCode_ok tc).2 n3 n1) pa_nil (by rfl)) (star_of ok _ _)) (by decide) (by decide) (star_of ok _ _) (by rfl)) fun σ H Q ⟨G, env, d, sg, en, e, q⟩ => ?_
  obtain ⟨x, e1, e⟩ := bsi (show (ev Γ ma env).bind (fun x => (isiB x k).map .bl) = some d from e)
  obtain ⟨b, e2, rfl⟩ := msi e
  obtain ⟨ty, e3, e4⟩ := isiB_ok e2
  refine ⟨G, env, x, sg, en, e1, fun v H1 G1 x1 d1 => ?_⟩
  exact ⟨v, _, _, b, rfl, tyD_ok d1 x1.gh e3, e4 _, q _ H1 G1 x1 (.bl _)⟩
theorem po_D {o : Option Expr} {m : E} {f : Expr → Option E} (ih : ∀ e, o = some e → ∀ m, f e = some m → PE X e (tV X.K cl Γ m)) (h : cOpt f o = some m) : PO X o (tVO X.K cl Γ m) := by
  cases o with
  | none =>
    cases h
    intro pins s σ H Q I ⟨G, env, o, sg, en, e, q⟩
    have e' : (some none : Option (Option Int)) = some o := e
    cases e'
    exact po_none pins s σ H Q I (q H G (Ext.refl sg))
  | some a =>
    have h' : (if okE a then (f a).bind fun m => if isNil m then none else some m else none) = some m := h
    split at h'
    · obtain ⟨m', h1, h2⟩ := bsi h'
      split at h2
      · cases h2
      · rename_i nn
        cases h2
        intro pins s σ H Q I ⟨G, env, o, sg, en, e, q⟩
        refine po_some (ih a rfl m h1) pins s σ H Q I ?_
        unfold optS at e
        rw [if_neg nn] at e
        split at e
        · rename_i i ei
          cases e
          refine ⟨G, env, _, sg, en, ei, fun v H' G' x dv => ?_⟩
          cases dv
          exact ⟨_, rfl, q H' G' x⟩
        · cases e
    · cases h'
theorem pe_cutD {a : Expr} {lo hi : Option Expr} {ma ml mh : E} {p2 pos : Pos} (ha : PE X a (tV X.K cl Γ ma)) (hl : PO X lo (tVO X.K cl Γ ml)) (hh : PO X hi (tVO X.K cl Γ mh)) : PE X (.Subscript a (.Slice lo hi none p2) pos) (tV X.K cl Γ (.cut ma ml mh)) := by
  refine peI (pe_slice (sl_D (cl := cl)) ha hl hh) fun σ H Q ⟨G, env, d, sg, en, e, q⟩ => ?_
  obtain ⟨x, ex, e⟩ := bsi (show (ev Γ ma env).bind (fun x => (optS ml (ev Γ ml env)).bind fun l => (optS mh (ev Γ mh env)).bind fun h => cutD x l h) = some d from e)
  obtain ⟨l, el, e⟩ := bsi e
  obtain ⟨h, eh, e⟩ := bsi e
  exact ⟨G, env, x, sg, en, ex, fun v H1 G1 x1 d1 => ⟨G1, env, l, x1.gh, en.mono x1.gg, el, fun H2 G2 x2 => ⟨G2, env, h, x2.gh, en.mono (x1.gg.trans x2.gg), eh, fun H3 G3 x3 => ⟨G3, x, d, x3.gh, d1.mono (x2.gg.trans x3.gg), e, fun z H4 G4 x4 d4 => q z H4 G4 (((x1.trans x2).trans x3).trans x4) d4⟩⟩⟩⟩
theorem pe_callT {x : Str} {g : List D → Option T} {e : Expr} {es : List Expr} {m : E} {p pos : Pos} (hg : Gl X x) (hd : (x == ("__debug__" : Str)) = false) (F : GoodCall X cl x g) (ha : PA X (e :: es) (tVs X.K cl Γ m)) (ok : (e :: es).all okE = true) :
    PE X (.Call (.Name x p) (e :: es) [] pos) (fun σ H Q => ∃ G env l t, Same G H ∧ EnvD X.K cl G env σ ∧ evs Γ m env = some l ∧ g l = some t ∧ ∀ v H' G' A, Ext H G H' G' → OT X.K cl G' H' v t A → A.Nodup → (∀ a ∈ A, H a = none) → Q v H') := by
  rw [List.all_cons, Bool.and_eq_true] at ok
  rcases F.ex with ⟨k, fa, fd, ps, F1, F2, F3, F4, F5⟩ | ⟨k, C, f, fd, ps, M, F1, F2, F3, F5⟩
  · refine peI (pe_call F1 F2 hg F3 F4 F5 .nil pass0 ha hd (star_of ok.1 _ _) (star_any ok.2 _ _)) fun σ H Q ⟨G, env, l, t, sg, en, e, et, q⟩ => ?_
    refine ⟨G, env, l, sg, en, e, fun vs H1 G1 x1 d1 => ?_⟩
    show spP X.K cl g (vs ++ []) H1 Q E0
    rw [List.append_nil]
    exact ⟨G1, l, t, x1.gh, d1, et, fun v H2 G2 A x2 o nd n => q v H2 G2 A (x1.trans x2) o nd fun a ha => x1.hh.free (n a ha)⟩
  · refine peI (pe_make M F1 F2 hg F3 F5 .nil pass0 ha hd (star_of ok.1 _ _) (star_any ok.2 _ _)) fun σ H Q ⟨G, env, l, t, sg, en, e, et, q⟩ => ?_
    refine ⟨G, env, l, sg, en, e, fun vs H1 G1 x1 d1 x dx hx hdx hne => ?_⟩
    rw [List.append_nil]
    exact ⟨H1, G1, x, dx, vs, l, t, rfl, hx, hdx, hne, rfl, x1.gh, d1, et, fun H2 G2 A x2 o nd n => ⟨rfl, q (.ref x) H2 G2 A (x1.trans x2) o nd fun a ha => x1.hh.free (n a ha)⟩⟩
theorem pe_callD {x : Str} {f : Nat} {g : List D → Option T} {e : Expr} {es : List Expr} {m : E} {p pos : Pos} (hg : Gl X x) (hd : (x == ("__debug__" : Str)) = false) (F : GoodCall X cl x g) (hf : Γ f = some g) (ha : PA X (e :: es) (tVs X.K cl Γ m)) (ok : (e :: es).all okE = true) :
    PE X (.Call (.Name x p) (e :: es) [] pos) (tV X.K cl Γ (.call f m)) := by
  refine peI (pe_callT hg hd F ha ok) fun σ H Q ⟨G, env, d, sg, en, e, q⟩ => ?_
  have e' : (Γ f).bind (fun g => ((ev Γ m env).bind listD).bind fun l => (g l).map strip) = some d := e
  rw [hf] at e'
  obtain ⟨l, el, e'⟩ := bsi (show ((ev Γ m env).bind listD).bind (fun l => (g l).map strip) = some d from e')
  obtain ⟨t, et, rfl⟩ := msi e'
  refine ⟨G, env, l, t, sg, en, el, et, fun v H' G' A x o nd n => ?_⟩
  obtain ⟨G2, f, d⟩ := o.freeze x.gh nd
  exact q v H' G2 (f.ext x n) d
end
section
variable {K : W.Frag} {cl : Nat → Option Addr} {G : Hp}
theorem wk_list' {a : Addr} {xs : List V} {ds : List D} (h : RL K G a xs) (hs : Dns K cl G xs ds) : Wk K cl (Itl K a) G ds := by
  intro H G2 i g1 g2
  have hx : SqL K H a xs := (rl_mono (g1.trans g2) h).sql
  refine ⟨fun hi => ⟨xs, hx, by rw [hs.length]; exact Nat.le_of_eq hi.symm⟩, fun d hd => ?_⟩
  obtain ⟨v, hv, dv⟩ := hs.get hd
  refine ⟨⟨xs, v, hx, hv⟩, fun u H' ⟨e, y⟩ => ?_⟩
  subst e
  have := y xs hx
  rw [hv] at this
  cases this
  exact ⟨G2, Ext.refl g2, dv.mono g1⟩
theorem wk_tup {a : Addr} {xs : List V} {ds : List D} (h : G a = some (.tup xs)) (hs : Dns K cl G xs ds) : Wk K cl (Itt K a) G ds := by
  intro H G2 i g1 g2
  have hx : SqT K H a xs := .inl (.inl ((g1.trans g2) _ _ h))
  refine ⟨fun hi => ⟨xs, hx, by rw [hs.length]; exact Nat.le_of_eq hi.symm⟩, fun d hd => ?_⟩
  obtain ⟨v, hv, dv⟩ := hs.get hd
  refine ⟨⟨xs, v, hx, hv⟩, fun u H' ⟨e, y⟩ => ?_⟩
  subst e
  have := y xs hx
  rw [hv] at this
  cases this
  exact ⟨G2, Ext.refl g2, dv.mono g1⟩
theorem wk_rng {lo : Int} {n : Nat} : Wk K cl (Itr lo n) G ((List.range n).map fun (i : Nat) => D.int (lo + i)) := by
  intro H G2 i g1 g2
  refine ⟨fun hi => ?_, fun d hd => ?_⟩
  · rw [List.length_map, List.length_range] at hi
    exact Nat.le_of_eq hi.symm
  · have hi : i < n := by
      have := (List.getElem?_eq_some_iff.mp hd).1
      simpa using this
    refine ⟨hi, fun v H' ⟨e1, e2⟩ => ?_⟩
    subst e1 e2
    rw [List.getElem?_map, List.getElem?_range hi] at hd
    cases hd
    exact ⟨G2, Ext.refl g2, .int _⟩
theorem wk_stp {d : Int} {n : Nat} : Wk K cl (Itrs 0 d n) G ((List.range n).map fun (i : Nat) => D.int (0 + i * d)) := by
  intro H G2 i g1 g2
  refine ⟨fun hi => ?_, fun x hd => ?_⟩
  · rw [List.length_map, List.length_range] at hi
    exact Nat.le_of_eq hi.symm
  · have hi : i < n := by
      have := (List.getElem?_eq_some_iff.mp hd).1
      simpa using this
    refine ⟨hi, fun v H' ⟨e1, e2⟩ => ?_⟩
    subst e1 e2
    rw [List.getElem?_map, List.getElem?_range hi] at hd
    cases hd
    exact ⟨G2, Ext.refl g2, .int _⟩
theorem enumD_get : ∀ {l : List D} {k i : Nat} {d : D}, (enumD k l)[i]? = some d → ∃ x, l[i]? = some x ∧ d = .tup [.int (k + i : Nat), x]
  | [], _, _, _, h => by simp [enumD] at h
  | x :: r, k, 0, d, h => by simp [enumD] at h; exact ⟨x, rfl, by rw [← h]; rfl⟩
  | x :: r, k, i + 1, d, h => by
    obtain ⟨y, e1, e2⟩ := enumD_get (l := r) (k := k + 1) (i := i) (d := d) (by simpa [enumD] using h)
    exact ⟨y, by simpa using e1, by rw [e2, show k + 1 + i = k + (i + 1) by omega]⟩
theorem enumD_length : ∀ {l : List D} {k : Nat}, (enumD k l).length = l.length
  | [], _ => rfl
  | _ :: r, k => by simp [enumD, enumD_length]
theorem wk_enm {a : Addr} {xs : List V} {ds : List D} (h : RL K G a xs) (hs : Dns K cl G xs ds) : Wk K cl (Ite K a) G (enumD 0 ds) := by
  intro H G2 i g1 g2
  have hx : SqL K H a xs := (rl_mono (g1.trans g2) h).sql
  refine ⟨fun hi => ⟨xs, hx, by rw [hs.length, ← enumD_length (k := 0)]; exact Nat.le_of_eq hi.symm⟩, fun d hd => ?_⟩
  obtain ⟨x, hx', rfl⟩ := enumD_get hd
  obtain ⟨v, hv, dv⟩ := hs.get hx'
  refine ⟨⟨xs, v, hx, hv⟩, fun u H' ⟨p, w, e1, hp, e2, y⟩ => ?_⟩
  subst e1 e2
  have := y xs hx
  rw [hv] at this
  cases this
  refine ⟨_, Ext.new g2 hp _, .tup upd_same (.cons ?_ (.cons ?_ .nil))⟩
  · rw [Nat.zero_add]; exact .int _
  · exact dv.mono (g1.trans (same_upd (g2.free hp) _))
theorem zipD_get : ∀ {l m : List D} {i : Nat} {d : D}, (zipD l m)[i]? = some d → ∃ x y, l[i]? = some x ∧ m[i]? = some y ∧ d = .tup [x, y]
  | [], _, _, _, h => by simp [zipD] at h
  | _ :: _, [], _, _, h => by simp [zipD] at h
  | x :: r, y :: t, 0, d, h => by simp [zipD] at h; exact ⟨x, y, rfl, rfl, h.symm⟩
  | x :: r, y :: t, i + 1, d, h => by
    obtain ⟨a, b, e1, e2, e3⟩ := zipD_get (l := r) (m := t) (i := i) (d := d) (by simpa [zipD] using h)
    exact ⟨a, b, by simpa using e1, by simpa using e2, e3⟩
theorem zipD_len : ∀ {l m : List D}, (zipD l m).length = l.length ∨ (zipD l m).length = m.length
  | [], _ => .inl rfl
  | _ :: _, [] => .inr rfl
  | _ :: r, _ :: t => by
    rcases zipD_len (l := r) (m := t) with h | h
    · exact .inl (by simp [zipD, h])
    · exact .inr (by simp [zipD, h])
theorem wk_zip {a b : Addr} {xs ys : List V} {ds es : List D} (h : RL K G a xs) (hs : Dns K cl G xs ds) (h' : RL K G b ys) (hs' : Dns K cl G ys es) : Wk K cl (Itz K a b) G (zipD ds es) := by
  intro H G2 i g1 g2
  have hx : SqL K H a xs := (rl_mono (g1.trans g2) h).sql
  have hy : SqL K H b ys := (rl_mono (g1.trans g2) h').sql
  refine ⟨fun hi => ⟨xs, ys, hx, hy, by rw [hs.length, hs'.length]; rcases zipD_len (l := ds) (m := es) with z | z <;> omega⟩, fun d hd => ?_⟩
  obtain ⟨x, y, hx', hy', rfl⟩ := zipD_get hd
  obtain ⟨v, hv, dv⟩ := hs.get hx'
  obtain ⟨u, hu, du⟩ := hs'.get hy'
  refine ⟨⟨⟨xs, v, hx, hv⟩, ⟨ys, u, hy, hu⟩⟩, fun w H' ⟨p, z1, z2, e1, hp, e2, y1, y2⟩ => ?_⟩
  subst e1 e2
  have q1 := y1 xs hx
  have q2 := y2 ys hy
  rw [hv] at q1
  rw [hu] at q2
  cases q1
  cases q2
  have s2 := g1.trans (same_upd (g2.free hp) (.tup [v, u]))
  exact ⟨_, Ext.new g2 hp _, .tup upd_same (.cons (dv.mono s2) (.cons (du.mono s2) .nil))⟩
end
section
variable {X : Cx} {cl : Nat → Option Addr} {Γ : Tab} {tg : Expr}
theorem pi_seqD {e : Expr} {m : E} (h : PE X e (tV X.K cl Γ m)) (nr : isRng m = false) : PI X tg e (tI X.K cl Γ m) := by
  intro pins s σ H R I ⟨G, env, ds, sg, en, e, q⟩
  obtain ⟨d, e1, e2⟩ := bsi e
  cases d with
  | lst l =>
    cases e2
    refine pi_list h pins s σ H R I ⟨G, env, .lst ds, sg, en, e1, fun v H1 G1 x1 d1 => ?_⟩
    cases d1 with | lst h1 h2 =>
      exact ⟨_, rfl, ⟨_, (rl_mono x1.gh h1).sql⟩, q _ H1 G1 x1 (wk_list' h1 h2) (fun z => by rw [nr] at z; cases z)⟩
  | tup l =>
    cases e2
    refine pi_tup h pins s σ H R I ⟨G, env, .tup ds, sg, en, e1, fun v H1 G1 x1 d1 => ?_⟩
    cases d1 with | tup h1 h2 =>
      exact ⟨_, rfl, ⟨_, .inl (.inl (x1.gh _ _ h1))⟩, q _ H1 G1 x1 (wk_tup h1 h2) (fun z => by rw [nr] at z; cases z)⟩
  | _ => cases e2
theorem rngD_some {lo hi : Int} {l : List D} (h : rngD lo hi = some l) : (-(2 ^ 60) ≤ lo ∧ lo ≤ 2 ^ 60 ∧ -(2 ^ 60) ≤ hi ∧ hi ≤ 2 ^ 60) ∧ l = (List.range (hi - lo).toNat).map fun (i : Nat) => D.int (lo + i) := by
  unfold rngD at h
  split at h
  · rename_i c; cases h; exact ⟨odt c, rfl⟩
  · cases h
theorem pi_rngD {a : Expr} {m : E} {p pos : Pos} (hg : Gl X "range") (hm : X.mg "range" = none) (h : PE X a (tV X.K cl Γ m)) (ok : okE a = true) : PI X tg (.Call (.Name "range" p) [a] [] pos) (tI X.K cl Γ (.rng m)) := by
  refine piI (pi_range1 hg hm (pa_cons h pa_nil (star_of ok _ _)) (star_of ok _ _)) fun σ H R ⟨G, env, ds, sg, en, e, q⟩ => ?_
  obtain ⟨d, e1, e2⟩ := bsi e
  obtain ⟨x, ex, e1⟩ := bsi (show (ev Γ m env).bind (fun x => rng2D (.int 0) x) = some d from e1)
  refine ⟨G, env, x, sg, en, ex, fun v H1 G1 x1 d1 => ?_⟩
  cases x with
  | int n =>
    obtain ⟨l, e3, rfl⟩ := msi e1
    cases e2
    cases d1
    obtain ⟨⟨b1, b2, b3, b4⟩, rfl⟩ := rngD_some e3
    refine ⟨n, rfl, by omega, by omega, q _ H1 G1 x1 ?_ fun _ G2 => ?_⟩
    all_goals
      rw [Int.sub_zero]
      exact wk_rng
  | _ => cases e1
theorem pi_stpD {a b e0 : Expr} {m l : E} {p pos : Pos} (hg : Gl X "range") (hm : X.mg "range" = none) (h0 : PE X e0 (tV X.K cl Γ (.int 0))) (h : PE X a (tV X.K cl Γ m)) (h' : PE X b (tV X.K cl Γ l)) (ok0 : okE e0 = true) (ok : okE a = true) (ok' : okE b = true) : PI X tg (.Call (.Name "range" p) [e0, a, b] [] pos) (tI X.K cl Γ (.rngS m l)) := by
  refine piI (pi_rangeS hg hm (pa_cons h0 (pa_cons h (pa_cons h' pa_nil (star_of ok' _ _)) (star_of ok _ _)) (star_of ok0 _ _)) (star_of ok0 _ _) (star_any (es := [a, b]) (by rw [List.all_cons, List.all_cons, ok, ok']; rfl) _ _)) fun σ H R ⟨G, env, ds, sg, en, e, q⟩ => ?_
  obtain ⟨d, e1, e2⟩ := bsi e
  obtain ⟨x, ex, e1⟩ := bsi (show (ev Γ m env).bind (fun x => (ev Γ l env).bind fun y => stpD x y) = some d from e1)
  obtain ⟨y, ey, e1⟩ := bsi e1
  refine ⟨G, env, .int 0, sg, en, rfl, fun v0 H0 G0 x0 d0 => ⟨G0, env, x, x0.gh, en.mono x0.gg, ex, fun v H1 G1 x1 d1 => ⟨G1, env, y, x1.gh, en.mono (x0.gg.trans x1.gg), ey, fun u H2 G2 x2 d2 => ?_⟩⟩⟩
  cases d0
  cases x with
  | int n =>
    cases y with
    | int k =>
      replace e1 : (if decide (0 ≤ n ∧ n ≤ 1000 ∧ 1 ≤ k ∧ k ≤ 1000) then some (D.lst ((List.range (steps n k)).map fun (i : Nat) => D.int (0 + i * k))) else none) = some d := e1
      split at e1
      · rename_i hb
        have hb := odt hb
        cases e1
        cases e2
        cases d1
        cases d2
        exact ⟨n, k, rfl, hb, q _ H2 G2 ((x0.trans x1).trans x2) wk_stp fun _ _ => wk_stp⟩
      · cases e1
    | _ => cases e1
  | _ => cases e1
theorem isZ0_ok {o : Option E} (h : isZ0 o = true) : o = some (.int 0) := by
  unfold isZ0 at h
  split at h
  · rfl
  · cases h
theorem pi_enmD {elts : List Expr} {k : Nat} {tpos : Pos} {a : Expr} {m : E} {p pos : Pos} (hg : Gl X "enumerate") (hm : X.mg "enumerate" = none) (h : PE X a (tV X.K cl Γ m)) (ok : okE a = true) : PI X (.Tuple elts k tpos) (.Call (.Name "enumerate" p) [a] [] pos) (tI X.K cl Γ (.enm m)) := by
  refine piI (pi_enum hg hm (pa_cons h pa_nil (star_of ok _ _)) (star_of ok _ _)) fun σ H R ⟨G, env, ds, sg, en, e, q⟩ => ?_
  obtain ⟨d, e1, e2⟩ := bsi e
  obtain ⟨x, ex, e1⟩ := bsi (show (ev Γ m env).bind enmD = some d from e1)
  refine ⟨G, env, x, sg, en, ex, fun v H1 G1 x1 d1 => ?_⟩
  cases x with
  | lst l =>
    cases e1
    cases e2
    cases d1 with | lst h1 h2 =>
      exact ⟨_, rfl, ⟨_, (rl_mono x1.gh h1).sql⟩, q _ H1 G1 x1 (wk_enm h1 h2) (fun z => by cases z)⟩
  | _ => cases e1
theorem pi_zpD {elts : List Expr} {k : Nat} {tpos : Pos} {a b : Expr} {m l : E} {p pos : Pos} (hg : Gl X "zip") (hm : X.mg "zip" = none) (h : PE X a (tV X.K cl Γ m)) (h' : PE X b (tV X.K cl Γ l)) (ok : okE a = true) (ok' : okE b = true) : PI X (.Tuple elts k tpos) (.Call (.Name "zip" p) [a, b] [] pos) (tI X.K cl Γ (.zp m l)) := by
  refine piI (pi_zip hg hm (pa_cons h (pa_cons h' pa_nil (star_of ok' _ _)) (star_of ok _ _)) (by rw [star_of ok, star_of ok'] <;> rfl) (star_of ok' _ _)) fun σ H R ⟨G, env, ds, sg, en, e, q⟩ => ?_
  obtain ⟨d, e1, e2⟩ := bsi e
  obtain ⟨x, ex, e1⟩ := bsi (show (ev Γ m env).bind (fun x => (ev Γ l env).bind fun y => zpD x y) = some d from e1)
  obtain ⟨y, ey, e1⟩ := bsi e1
  refine ⟨G, env, x, sg, en, ex, fun v H1 G1 x1 d1 => ⟨G1, env, y, x1.gh, en.mono x1.gg, ey, fun u H2 G2 x2 d2 => ?_⟩⟩
  cases x with
  | lst l1 =>
    cases y with
    | lst l2 =>
      cases e1
      cases e2
      cases d1 with | lst h1 h2 => cases d2 with | lst h1' h2' =>
        exact ⟨_, _, rfl, ⟨_, (rl_mono (x2.gg.trans x2.gh) h1).sql⟩, ⟨_, (rl_mono x2.gh h1').sql⟩, q _ H2 G2 (x1.trans x2) (wk_zip (rl_mono x2.gg h1) (h2.mono x2.gg) h1' h2') (fun z => by cases z)⟩
    | _ => cases e1
  | _ => cases e1
theorem compR_snoc {f : D → Option (Option D)} {d : D} {r : List D} {l : List D} (h : compR f (d :: r) = some l) : ∃ o t, f d = some o ∧ compR f r = some t ∧ l = oc o t := by
  obtain ⟨o, h1, h⟩ := bsi (show (f d).bind (fun o => (compR f r).map fun l => oc o l) = some l from h)
  obtain ⟨t, h2, rfl⟩ := msi h
  exact ⟨o, t, h1, h2, rfl⟩
theorem comp_tV {wi : E} {is : List Nat} {me mc : E} {K : W.Frag} {tt : TT} (htt : ∀ σ H (Q : Bool → Hp → Prop), (∃ G env b, Same G H ∧ EnvD K cl G env σ ∧ cS mc (ev Γ mc env) = some b ∧ ∀ H' G', Ext H G H' G' → Q b H') → tt σ H Q) {σ : St} {H : Hp} {Q : VK} :
    tV K cl Γ (.comp me is wi mc) σ H Q → tComp (tI K cl Γ wi) is tt (tV K cl Γ me) σ H Q := by
  rintro ⟨G, env, d, sg, en, e, q⟩
  obtain ⟨ds, e1, e⟩ := bsi (show ((ev Γ wi env).bind walkD).bind (fun ds => if sz ds.length then (compR (fun d => (cS mc (ev Γ mc (inner env is d))).bind fun b => if b then (ev Γ me (inner env is d)).map some else some none) ds).map .lst else none) = some d from e)
  split at e
  · rename_i hz
    obtain ⟨out, e2, rfl⟩ := msi e
    generalize hf : (fun d => (cS mc (ev Γ mc (inner env is d))).bind fun b => if b then (ev Γ me (inner env is d)).map some else some none) = f at e2
    have hfd : ∀ d, f d = (cS mc (ev Γ mc (inner env is d))).bind fun b => if b then (ev Γ me (inner env is d)).map some else some none := fun d => by rw [← hf]
    clear hf
    have hz' := odt hz
    refine ⟨G, env, ds, sg, en, e1, fun J H1 G1 x1 wk _ D hD => ?_⟩
    have gD : G1 D = none := x1.gh.free hD
    refine ⟨fun i k H2 => k = ds.length - i ∧ i ≤ ds.length ∧ ∃ G2 ys es rest, Ext H1 G1 H2 G2 ∧ H2 D = some (.lst ys) ∧ G2 D = none ∧ Dns K cl G2 ys es ∧ ys.length ≤ i ∧ compR f (ds.drop i) = some rest ∧ es ++ rest = out, ⟨ds.length, by simp, Nat.zero_le _, G1, [], [], out, ⟨same_upd hD _, .refl _, x1.gh.trans (same_upd hD _), fun b o h1 h2 => by rw [h1] at h2; cases h2⟩, upd_same, gD, .nil, by simp, e2, rfl⟩, ?_⟩
    rintro i k H2 ⟨rfl, hi, G2, ys, es, rest, x2, hy, g2D, dy, hle, hr, ho⟩
    obtain ⟨w1, w2⟩ := wk H2 G2 i x2.gg x2.gh
    by_cases hlt : i < ds.length
    · have hd : ds[i]? = some ds[i] := List.getElem?_eq_getElem hlt
      obtain ⟨g, y⟩ := w2 _ hd
      refine .inr ⟨g, fun v H3 yl => ?_⟩
      obtain ⟨G3, x3, d3⟩ := y v H3 yl
      rw [List.drop_eq_getElem_cons hlt] at hr
      obtain ⟨o, t, f1, f2, f3⟩ := compR_snoc hr
      rw [hfd] at f1
      obtain ⟨b, c1, c2⟩ := bsi f1
      have en3 : EnvD K cl G3 (inner env is ds[i]) (compSt σ is (some v)) := (en.mono ((x1.gg.trans x2.gg).trans x3.gg)).inner d3 is
      have g3D : G3 D = none := by
        cases z : G3 D with
        | none => rfl
        | some o => have := x3.nw D o z g2D; rw [hy] at this; cases this
      refine htt _ _ _ ⟨G3, _, b, x3.gh, en3, c1, fun H4 G4 x4 => ?_⟩
      have g4D : G4 D = none := by
        cases z : G4 D with
        | none => rfl
        | some o => have := x4.nw D o z g3D; rw [x3.hh _ _ hy] at this; cases this
      cases b with
      | false =>
        have c2' : some none = some o := c2
        cases c2'
        exact iteF ⟨ds.length - (i + 1), by omega, rfl, hlt, G4, ys, es, t, (x2.trans x3).trans x4, x4.hh _ _ (x3.hh _ _ hy), g4D, dy.mono (x3.gg.trans x4.gg), by omega, f2, by rw [← ho, f3]; rfl⟩
      | true =>
        obtain ⟨z, c3, c4⟩ := msi (show (ev Γ me (inner env is ds[i])).map some = some o from c2)
        subst c4
        refine iteT ⟨G4, _, z, x4.gh, en3.mono x4.gg, c3, fun u H5 G5 x5 d5 => ?_⟩
        have g5D : G5 D = none := by
          cases z : G5 D with
          | none => rfl
          | some o => have := x5.nw D o z g4D; rw [x4.hh _ _ (x3.hh _ _ hy)] at this; cases this
        have hy5 : H5 D = some (.lst ys) := x5.hh _ _ (x4.hh _ _ (x3.hh _ _ hy))
        refine ⟨ys, hy5, by rw [sizeLine_eq]; omega, ds.length - (i + 1), by omega, rfl, hlt, G5, ys ++ [u], es ++ [z], t, ?_, upd_same, g5D, (dy.mono ((x3.gg.trans x4.gg).trans x5.gg)).append (.cons d5 .nil), by rw [List.length_append, List.length_singleton]; omega, f2, by rw [← ho, f3, List.append_assoc]; rfl⟩
        have x25 := ((x2.trans x3).trans x4).trans x5
        exact ⟨fun b o h => by rw [upd_ne (ne_of_none h hD)]; exact x25.hh _ _ h, x25.gg, fun b o h => by rw [upd_ne (ne_of_none h g5D)]; exact x25.gh _ _ h, x25.nw⟩
    · have e0 : i = ds.length := by omega
      subst e0
      refine .inl ⟨w1 rfl, ?_⟩
      rw [List.drop_length] at hr
      have hr' : some [] = some rest := hr
      cases hr'
      rw [List.append_nil] at ho
      subst ho
      have s2 := same_upd g2D (.lst ys)
      refine q _ H2 (upd G2 D (.lst ys)) (x1.trans ⟨x2.hh, x2.gg.trans s2, fun b o h => ?_, fun b o h n => ?_⟩) (.lst (.inl (.inl upd_same)) (dy.mono s2))
      · by_cases eb : b = D
        · subst eb; rw [upd_same] at h; cases h; exact hy
        · rw [upd_ne eb] at h; exact x2.gh _ _ h
      · by_cases eb : b = D
        · subst eb; exact hD
        · rw [upd_ne eb] at h; exact x2.nw _ _ h n
  · cases e
end
theorem relab_glob {env : PySem.Env} : ∀ {names : List (Str × NameKind)} {y : Str}, names.lookup y = some .globalImplicit → (relab env names).lookup y = some .globalImplicit
  | [], _, h => by simp at h
  | (n, k) :: r, y, h => by
    have e : relab env ((n, k) :: r) = (if (k == NameKind.free && env.scope.kind == .function && env.kindOf n == some .cell) = true then (n, NameKind.cell) else (n, k)) :: relab env r := rfl
    rw [e]
    cases hx : y == n with
    | true =>
      simp only [List.lookup_cons, hx] at h
      have hk : k = .globalImplicit := Option.some.inj h
      subst hk
      rw [if_neg (by rw [show (NameKind.globalImplicit == NameKind.free) = false from rfl]; simp)]
      simp only [List.lookup_cons, hx]
    | false =>
      simp only [List.lookup_cons, hx] at h
      by_cases hc : (k == NameKind.free && env.scope.kind == .function && env.kindOf n == some .cell) = true
      · rw [if_pos hc]; simp only [List.lookup_cons, hx]; exact relab_glob h
      · rw [if_neg hc]; simp only [List.lookup_cons, hx]; exact relab_glob h
section
variable {X : Cx} {cl : Nat → Option Addr} {Γ : Tab} {c : CC}
theorem Sees.comp {N : List Str} {sc scope : Scope} {x : Str} {fr : List Str} {is : List Nat} (S : Sees X cl c Γ true N sc) (cs : CompScope sc N scope x fr is) (C : Addr) (s : Shared) (H : Hp) (fp : List Addr) (pins : List (Addr × Obj)) :
    Sees (compCx X scope (x :: fr) C s H fp pins) cl c Γ false (x :: fr) scope := by
  refine ⟨rfl, fun i y hy => ?_, fun y hy => relab_glob hy, (fun h => by cases h), S.calm, S.hu, S.blt, fun x f g h1 h2 => ⟨(S.fn x f g h1 h2).ex⟩, S.gi, S.cls, fun c C k m g h0 h1 h2 => ⟨(S.mth c C k m g h0 h1 h2).ex⟩, S.cn, S.fv⟩
  cases i with
  | zero =>
    have hy' : some x = some y := hy
    cases hy'
    exact .inl (lookup_relabel_local cs.var)
  | succ i =>
    have hy' : fr[i]? = some y := hy
    exact .inr (relab_free (cs.look y (List.mem_of_getElem? hy')))
theorem sset_in {K : W.Frag} {G H : Hp} {z d : D} {v : V} (gh : Same G H) (e : unD .sset z = some d) (dn : Dn K cl G v z) : ∃ ns : List Int, z = .lst (ns.map D.int) ∧ ns.length < 64 ∧ (∃ p, v = .ref p ∧ SqL K H p (ns.map V.int)) ∧ d = .lst ((isort (ddp ns)).map D.int) := by
  cases z with
  | lst l =>
    obtain ⟨ns, e1, e3⟩ := bsi (show (intsD l).bind (fun ns => if decide (ns.length < 64) then some (D.lst ((isort (ddp ns)).map D.int)) else none) = some d from e)
    have e1 := intsD_eq e1
    subst e1
    split at e3
    · rename_i hz
      cases e3
      cases dn with | lst h1 h2 =>
        have e2 := h2.ints
        subst e2
        exact ⟨ns, rfl, odt hz, ⟨_, rfl, (rl_mono gh h1).sql⟩, rfl⟩
    · cases e3
  | _ => cases e
theorem cb_ok {N : List Str} {sc : Scope} {top : Bool} {f : Expr → Option E} {x : Str} {args : List Expr} {m : E} {p pos : Pos} (S : Sees X cl c Γ top N sc) (ih : ∀ e m, f e = some m → PE X e (tV X.K cl Γ m)) (ok : args.all okE = true) (gx : isGl N sc x = true)
    (h : cB (fun y => isGl N sc y && (c.tab.lookup y).isNone) f x args = some m) : PE X (.Call (.Name x p) args [] pos) (tV X.K cl Γ m) := by
  obtain ⟨o1, g1⟩ := isGl_ok gx
  have gg := S.gl x g1
  unfold cB at h
  split at h
  · rename_i a
    rw [List.all_cons, Bool.and_eq_true] at ok
    have oa := ok.1
    split at h
    · rename_i e
      have e : x = "len" := by simpa using e
      subst e
      have plain : ∀ {m : E}, (f a).map (E.un .len) = some m → PE X (.Call (.Name "len" p) [a] [] pos) (tV X.K cl Γ m) := by
        intro m h
        obtain ⟨ma, h1, rfl⟩ := msi h
        exact peI (pe_callB (b_len (cl := cl)) gg (S.blt _ (by decide +kernel)) bt_len (pa_cons (ih a ma h1) pa_nil (star_of oa _ _)) (by decide) (by decide) (star_of oa _ _) rfl) fun σ H Q q => tVB1 (fun _ => rfl) q
      exact plain h
    split at h
    · rename_i e
      have e : x = "list" := by simpa using e
      subst e
      have plain : ∀ {m : E}, (f a).map (E.un .list) = some m → PE X (.Call (.Name "list" p) [a] [] pos) (tV X.K cl Γ m) := by
        intro m h
        obtain ⟨ma, h1, rfl⟩ := msi h
        exact peI (pe_callTy (b_list (cl := cl)) gg (S.blt _ (by decide +kernel)) bt_list (pa_cons (ih a ma h1) pa_nil (star_of oa _ _)) (by decide) (by decide) (star_of oa _ _) rfl) fun σ H Q q => tVB1 (fun _ => rfl) q
      split at h
      · rename_i y py b pb
        split at h
        · rename_i hr
          obtain ⟨hr, ob⟩ := bae hr
          obtain ⟨hr1, hr2⟩ := bae hr
          obtain ⟨hr1, _⟩ := bae hr1
          have e : y = "range" := by simpa using hr2
          subst e
          obtain ⟨mb, h1, rfl⟩ := msi h
          obtain ⟨_, g2⟩ := isGl_ok hr1
          refine peI (pe_callTy (call_list_rng S.calm) gg (S.blt _ (by decide +kernel)) bt_list (pa_cons (pe_callTy call_range1R (S.gl _ g2) (S.blt _ (by decide +kernel)) bt_range (pa_cons (ih b mb h1) pa_nil (star_of ob _ _)) (by decide) (by decide) (star_of ob _ _) rfl) pa_nil rfl) (by decide) (by decide) rfl rfl) fun σ H Q ⟨G, env, d, sg, en, e, q⟩ => ?_
          obtain ⟨z, e1, e⟩ := bsi (show (ev Γ mb env).bind (unD .lrng) = some d from e)
          refine ⟨G, env, z, sg, en, e1, fun v H1 G1 x1 d1 => ?_⟩
          cases z with
          | int n =>
            have e' : (if decide (-(2 ^ 60) ≤ n ∧ n ≤ 1000000) then some (D.lst ((List.range n.toNat).map fun (i : Nat) => D.int i)) else none) = some d := e
            split at e'
            · rename_i hn
              have hn := odt hn
              cases e'
              cases d1
              refine ⟨n, rfl, fun p hp => ?_⟩
              have x2 := Ext.newO x1.gh hp (.rng 0 n)
              refine ⟨p, 0, n, rfl, upd_same, by decide, by decide, by omega, by omega, by omega, fun l hl => ?_⟩
              rw [Int.sub_zero]
              refine endL x2.gh (fun z H3 G3 x3 d3 => q z H3 G3 ((x1.trans x2).trans x3) d3) hl ?_
              have e3 : ((List.range n.toNat).map fun (i : Nat) => V.int (0 + (i : Int))) = ((List.range n.toNat).map fun (i : Nat) => (i : Int)).map V.int := by simp
              have e4 : ((List.range n.toNat).map fun (i : Nat) => D.int (i : Int)) = ((List.range n.toNat).map fun (i : Nat) => (i : Int)).map D.int := by simp
              rw [e3, e4]
              exact dns_ints _
            · cases e'
          | _ => cases e
        · exact plain h
      · exact plain h
    split at h
    · rename_i e
      have e : x = "sorted" := by simpa using e
      subst e
      split at h
      · rename_i y py b pb
        split at h
        · rename_i hr
          obtain ⟨hr, ob⟩ := bae hr
          obtain ⟨hr1, hr2⟩ := bae hr
          obtain ⟨hr1, _⟩ := bae hr1
          have e : y = "set" := by simpa using hr2
          subst e
          obtain ⟨mb, h1, rfl⟩ := msi h
          obtain ⟨_, g2⟩ := isGl_ok hr1
          refine peI (pe_callB (call_sortedX S.calm) gg (S.blt _ (by decide +kernel)) bt_sorted (pa_cons (pe_callTy (call_setX S.calm) (S.gl _ g2) (S.blt _ (by decide +kernel)) bt_set (pa_cons (ih b mb h1) pa_nil (star_of ob _ _)) (by decide) (by decide) (star_of ob _ _) rfl) pa_nil rfl) (by decide) (by decide) rfl rfl) fun σ H Q ⟨G, env, d, sg, en, e, q⟩ => ?_
          obtain ⟨z, e1, e⟩ := bsi (show (ev Γ mb env).bind (unD .sset) = some d from e)
          refine ⟨G, env, z, sg, en, e1, fun v H1 G1 x1 d1 => ?_⟩
          obtain ⟨ns, rfl, hz, ⟨pp, rfl, h2⟩, rfl⟩ := sset_in x1.gh e d1
          refine ⟨_, ns, rfl, h2, hz, fun l hl => ?_⟩
          have x2 := Ext.newO x1.gh hl (.ext (setφ X.prog X.w ns l))
          refine ⟨l, ns, rfl, upd_same, hz, fun l2 ms hl2 a1 a2 a3 => ?_⟩
          rw [isort_ddp a1 a2 a3]
          exact endL x2.gh (fun z H3 G3 x3 d3 => q z H3 G3 ((x1.trans x2).trans x3) d3) hl2 (dns_ints _)
        · cases h
      · cases h
    split at h
    · rename_i e
      have e : x = "all" := by simpa using e
      subst e
      obtain ⟨ma, h1, rfl⟩ := msi h
      exact peI (pe_callB (b_all (cl := cl) S.calm) gg (S.blt _ (by decide +kernel)) bt_all (pa_cons (ih a ma h1) pa_nil (star_of oa _ _)) (by decide) (by decide) (star_of oa _ _) rfl) fun σ H Q q => tVB1 (fun _ => rfl) q
    · cases h
  · rename_i a b
    rw [List.all_cons, Bool.and_eq_true, List.all_cons, Bool.and_eq_true] at ok
    have oa := ok.1
    have ob := ok.2.1
    split at h
    · rename_i e
      have e : x = "min" := by simpa using e
      subst e
      obtain ⟨ma, h1, h⟩ := bsi h
      obtain ⟨mb, h2, rfl⟩ := msi h
      exact peI (pe_callB (b_min2 (cl := cl) S.calm) gg (S.blt _ (by decide +kernel)) bt_min (pa_cons (ih a ma h1) (pa_cons (ih b mb h2) pa_nil (star_of ob _ _)) (star_of oa _ _)) (by decide) (by decide) (star_of oa _ _) (star_any (es := [b]) (by rw [List.all_cons, ob]; rfl) _ _)) fun σ H Q q => tVB2 (fun _ => rfl) q
    split at h
    · rename_i e
      have e : x = "max" := by simpa using e
      subst e
      obtain ⟨ma, h1, h⟩ := bsi h
      obtain ⟨mb, h2, rfl⟩ := msi h
      exact peI (pe_callB (b_max2 (cl := cl) S.calm) gg (S.blt _ (by decide +kernel)) bt_max (pa_cons (ih a ma h1) (pa_cons (ih b mb h2) pa_nil (star_of ob _ _)) (star_of oa _ _)) (by decide) (by decide) (star_of oa _ _) (star_any (es := [b]) (by rw [List.all_cons, ob]; rfl) _ _)) fun σ H Q q => tVB2 (fun _ => rfl) q
    split at h
    · rename_i e
      have e : x = "isinstance" := by simpa using e
      subst e
      split at h
      · rename_i t pt
        split at h
        · rename_i ht
          obtain ⟨ht, _⟩ := bae ht
          obtain ⟨k, hk, h⟩ := bsi h
          obtain ⟨ma, h1, rfl⟩ := msi h
          obtain ⟨ot, gt⟩ := isGl_ok ht
          exact pe_isiD (ih a ma h1) oa gg (S.blt _ (by decide +kernel)) (S.gl t gt) (S.blt _ (tyCode_ok hk).1) hk ot
        · cases h
      · cases h
    · cases h
  · cases h
theorem ci_ok {N : List Str} {sc : Scope} {top : Bool} {f : Expr → Option E} {e : Expr} {m : E} {tg : Expr} {tt : Bool} (S : Sees X cl c Γ top N sc) (ih : ∀ e m, f e = some m → PE X e (tV X.K cl Γ m)) (ht : tt = true → ∃ es k p, tg = .Tuple es k p)
    (h : cI tt (isGl N sc) (fun y => (c.tab.lookup y).isSome) f e = some m) : PI X tg e (tI X.K cl Γ m) := by
  have seq : noR (f e) = some m → PI X tg e (tI X.K cl Γ m) := fun h => by
    obtain ⟨m', h1, h2⟩ := bsi h
    split at h2
    · cases h2
    · rename_i nr
      cases h2
      exact pi_seqD (ih e m h1) (by simpa using nr)
  unfold cI at h
  split at h
  · rename_i x p a pos
    split at h
    · rename_i hx
      obtain ⟨hx, oa⟩ := bae hx
      obtain ⟨hx, e⟩ := bae hx
      obtain ⟨hx, _⟩ := bae hx
      have e : x = "range" := by simpa using e
      subst e
      obtain ⟨ma, h1, rfl⟩ := msi h
      exact pi_rngD (S.gl _ (isGl_ok hx).2) (S.blt _ (by decide +kernel)) (ih a ma h1) oa
    split at h
    · rename_i hx
      obtain ⟨hx, oa⟩ := bae hx
      obtain ⟨hx, e⟩ := bae hx
      obtain ⟨hx, _⟩ := bae hx
      obtain ⟨h2, hx⟩ := bae hx
      have e : x = "enumerate" := by simpa using e
      subst e
      obtain ⟨ma, h1, rfl⟩ := msi h
      obtain ⟨es, k, p', rfl⟩ := ht h2
      exact pi_enmD (S.gl _ (isGl_ok hx).2) (S.blt _ (by decide +kernel)) (ih a ma h1) oa
    · exact seq h
  · rename_i x p a b pos
    split at h
    · rename_i hx
      obtain ⟨hx, oa⟩ := bae hx
      obtain ⟨hx, e⟩ := bae hx
      obtain ⟨hx, _⟩ := bae hx
      obtain ⟨h2, hx⟩ := bae hx
      have e : x = "zip" := by simpa using e
      subst e
      obtain ⟨ma, h1, h⟩ := bsi h
      obtain ⟨mb, h3, rfl⟩ := msi h
      obtain ⟨es, k, p', rfl⟩ := ht h2
      exact pi_zpD (S.gl _ (isGl_ok hx).2) (S.blt _ (by decide +kernel)) (ih a ma h1) (ih b mb h3) (bae oa).1 (bae oa).2
    · exact seq h
  · rename_i x p a s1 s2 pos
    split at h
    · rename_i hx
      obtain ⟨hx, m0⟩ := bae hx
      obtain ⟨hx, oa⟩ := bae hx
      obtain ⟨oa, o2⟩ := bae oa
      obtain ⟨oa, o1⟩ := bae oa
      obtain ⟨hx, e⟩ := bae hx
      obtain ⟨hx, _⟩ := bae hx
      have e : x = "range" := by simpa using e
      subst e
      obtain ⟨ma, h1, h⟩ := bsi h
      obtain ⟨mb, h2, rfl⟩ := msi h
      exact pi_stpD (S.gl _ (isGl_ok hx).2) (S.blt _ (by decide +kernel)) (ih a _ (isZ0_ok m0)) (ih s1 ma h1) (ih s2 mb h2) oa o1 o2
    · exact seq h
  · exact seq h
end
section
variable {cl : Nat → Option Addr} {Γ : Tab} {c : CC} {Lg : Nat → Prop}
theorem pe_cD {X : Cx} {e : Expr} {v : V} {d : D} {m : E} (h : PE X e (tC v)) (hm : ∀ env, ev Γ m env = some d) (hd : ∀ G, Dn X.K cl G v d) : PE X e (tV X.K cl Γ m) :=
  peI h fun σ H Q ⟨G, env, d', sg, en, e, q⟩ => by
    rw [hm] at e
    cases e
    exact q _ H G (Ext.refl sg) (hd G)
theorem nmOf_ok {e : Expr} {x : Str} (h : nmOf e = some x) : ∃ p, e = .Name x p := by
  cases e
  case Name y p => cases h; exact ⟨p, rfl⟩
  all_goals cases h
theorem cE_ok (hΓ : ∀ x f, c.tab.lookup x = some f → ∃ g, Γ f = some g) : ∀ (n : Nat) (top : Bool) (N : List Str) (sc : Scope) (e : Expr) (m : E) (X : Cx), Sees X cl c Γ top N sc → cE c n top N sc e = some m → Both X cl Γ e m := by
  intro n
  induction n with
  | zero => intro top N sc e m X S h; cases h
  | succ n ih =>
    intro top N sc e m X S h
    have ih1 : ∀ e m, cE c n top N sc e = some m → PE X e (tV X.K cl Γ m) := fun e m h => (ih top N sc e m X S h).1
    cases e
    case Name x pos =>
      replace h : cNa c N sc x = some m := h
      unfold cNa at h
      have go : PE X (.Name x pos) (tV X.K cl Γ m) := by
        split at h
        · rename_i ok
          obtain ⟨n1, n2, n3⟩ := okN_ok ok
          split at h
          · rename_i i hi
            cases h
            have hN := nIdx_get hi
            refine peI (pe_var (i := i) (by rw [S.hN]; exact hN) (S.vis i x hN) n1 n2) fun σ H Q ⟨G, env, d, sg, en, e, q⟩ => ?_
            have e' : (env[i]?).join = some d := e
            have e2 : env[i]? = some (some d) := by
              cases z : env[i]? with
              | none => rw [z] at e'; cases e'
              | some o => rw [z] at e'; rw [show o = some d from e']
            obtain ⟨v, h1, h2⟩ := en i d e2
            exact ⟨v, h1, q v H G (Ext.refl sg) h2⟩
          · split at h
            · rename_i hg
              split at h
              rotate_left
              · split at h
                · rename_i fx
                  cases h
                  obtain ⟨fa, m1, m2⟩ := S.fv x (by simpa using fx)
                  refine peI (pe_glob (v := .ref fa) (S.gl x hg) m1 rfl n1) fun σ H Q ⟨G, env, d, sg, en, e, q⟩ => ?_
                  have e' : some (D.fn x) = some d := e
                  cases e'
                  exact q _ H G (Ext.refl sg) (.fn m2)
                · cases h
              rename_i i hi
              cases h
              obtain ⟨t, ht⟩ := S.gi x i hi
              refine peI (pe_glob (v := .int i) (S.gl x hg) ht ⟨t, rfl⟩ n1) fun σ H Q ⟨G, env, d, sg, en, e, q⟩ => ?_
              have e' : some (D.int i) = some d := e
              cases e'
              exact q _ H G (Ext.refl sg) (.int _)
            · cases h
        · cases h
      exact ⟨go, fun _ => pt_of (by intro _; rfl) go⟩
    case Constant k kk pos =>
      replace h : cCo k = some m := h
      cases k
      case int i =>
        cases h
        have go := pe_cD (X := X) (cl := cl) (Γ := Γ) (m := .int i) (pe_int (j := kk) (pos := pos)) (fun _ => rfl) (fun _ => .int _)
        exact ⟨go, fun _ => pt_of (by intro _; rfl) go⟩
      case bool i =>
        cases h
        have go := pe_cD (X := X) (cl := cl) (Γ := Γ) (m := .bl i) (pe_bl (j := kk) (pos := pos)) (fun _ => rfl) (fun _ => .bl _)
        exact ⟨go, fun _ => pt_of (by intro _; rfl) go⟩
      case none =>
        cases h
        have go := pe_cD (X := X) (cl := cl) (Γ := Γ) (m := .non) (pe_non (j := kk) (pos := pos)) (fun _ => rfl) (fun _ => .non)
        exact ⟨go, fun _ => pt_of (by intro _; rfl) go⟩
      case str i =>
        cases h
        have go := pe_cD (X := X) (cl := cl) (Γ := Γ) (m := .str i) (pe_str (j := kk) (pos := pos)) (fun _ => rfl) (fun _ => .str _)
        exact ⟨go, fun _ => pt_of (by intro _; rfl) go⟩
      all_goals cases h
    case BinOp a op b pos =>
      replace h : ((cE c n top N sc a).bind fun m => (cE c n top N sc b).map fun l => E.bin op m l) = some m := h
      obtain ⟨ma, h1, h⟩ := bsi h
      obtain ⟨mb, h2, rfl⟩ := msi h
      have go : PE X (.BinOp a op b pos) (tV X.K cl Γ (.bin op ma mb)) := peI (pe_op (op_bin (cl := cl) op) (ih1 a ma h1) (ih1 b mb h2)) fun σ H Q q => tV2 (fun _ => rfl) q
      exact ⟨go, fun _ => pt_of (by intro _; rfl) go⟩
    case UnaryOp op a pos =>
      cases op
      case USub =>
        replace h : (cE c n top N sc a).map (.un .neg) = some m := h
        obtain ⟨ma, h1, rfl⟩ := msi h
        have go : PE X (.UnaryOp .USub a pos) (tV X.K cl Γ (.un .neg ma)) := peI (pe_un (un_negD (cl := cl)) (ih1 a ma h1)) fun σ H Q q => tV1 (fun _ => rfl) q
        exact ⟨go, fun _ => pt_of (by intro _; rfl) go⟩
      case Not =>
        replace h : (if okT a then (cE c n top N sc a).map .not else none) = some m := h
        split at h
        · rename_i ok
          obtain ⟨ma, h1, rfl⟩ := msi h
          have b := ih top N sc a ma X S h1
          exact ⟨pe_notD b.1, fun _ => pt_notD (b.2 ok)⟩
        · cases h
      all_goals cases h
    case Compare a ops bs pos =>
      replace h : cCm (cE c n top N sc) a ops bs = some m := h
      unfold cCm at h
      split at h
      · rename_i op b
        split at h
        · rename_i ok
          obtain ⟨ma, h1, h⟩ := bsi h
          obtain ⟨mb, h2, rfl⟩ := msi h
          exact ccmp_ok S.hu (ih1 a ma h1) (ih1 b mb h2) ok
        · cases h
      · rename_i op op' b d
        split at h
        · rename_i ok
          obtain ⟨ma, h1, h⟩ := bsi h
          obtain ⟨mb, h2, h⟩ := bsi h
          obtain ⟨md, h3, rfl⟩ := msi h
          exact cch_ok S.hu (ih1 a ma h1) (ih1 b mb h2) (ih1 d md h3) (bae ok).2
        · cases h
      · cases h
    case BoolOp op vs pos =>
      cases op
      case And =>
        replace h : (if 2 ≤ vs.length then cAnd (cE c n top N sc) vs else none) = some m := h
        split at h
        · have b := cand_ok (X := X) (cl := cl) (Γ := Γ) (pos := pos) (fun e _ m h => ih top N sc e m X S h) h
          exact ⟨b.1, fun _ => b.2.pt⟩
        · cases h
      case Or =>
        replace h : (if 2 ≤ vs.length then cOr (cE c n top N sc) vs else none) = some m := h
        split at h
        · have b := cor_ok (X := X) (cl := cl) (Γ := Γ) (pos := pos) (fun e _ m h => ih top N sc e m X S h) h
          exact ⟨b.1, fun _ => b.2.pt⟩
        · cases h
    case IfExp t a b pos =>
      replace h : (if okT t then (cE c n top N sc t).bind fun k => (cE c n top N sc a).bind fun m => (cE c n top N sc b).map fun l => E.ite k m l else none) = some m := h
      split at h
      · rename_i ok
        obtain ⟨mt, h1, h⟩ := bsi h
        obtain ⟨ma, h2, h⟩ := bsi h
        obtain ⟨mb, h3, rfl⟩ := msi h
        exact ⟨pe_iteD ((ih top N sc t mt X S h1).2 ok) (ih1 a ma h2) (ih1 b mb h3), fun z => by cases z⟩
      · cases h
    case Call fn args ks pos =>
      cases ks with
      | cons kw kr =>
        replace h : (none : Option E) = some m := h
        cases h
      | nil =>
      replace h : ((nmOf fn).bind fun x => cCn c N sc (cE c n top N sc) x args) = some m := h
      replace h := bsi h
      obtain ⟨x, h0, h⟩ := h
      obtain ⟨p, rfl⟩ := nmOf_ok h0
      unfold cCn at h
      have go : PE X (.Call (.Name x p) args [] pos) (tV X.K cl Γ m) := by
        split at h
        · rename_i ok
          obtain ⟨ok, gx⟩ := bae ok
          obtain ⟨o1, g1⟩ := isGl_ok gx
          obtain ⟨n1, n2, n3⟩ := okN_ok o1
          split at h
          · rename_i f hf
            split at h
            · cases h
            · rename_i hne
              obtain ⟨ml, h1, rfl⟩ := msi h
              obtain ⟨g, hg⟩ := hΓ x f hf
              cases args with
              | nil => exact absurd rfl hne
              | cons e es => exact pe_callD (S.gl x g1) n1 (S.fn x f g hf hg) hg (clist_ok (fun e _ m h => ih1 e m h) ok h1) ok
          · exact cb_ok S ih1 ok gx h
        · cases h
      exact ⟨go, fun _ => pt_of (by intro _; rfl) go⟩
    case Subscript a b pos =>
      replace h : ((cE c n top N sc a).bind fun m => cSu (cE c n top N sc) m b) = some m := h
      replace h := bsi h
      obtain ⟨ma, h1, h⟩ := h
      unfold cSu at h
      split at h
      · rename_i lo hi st p2
        cases st with
        | some st =>
          replace h : (none : Option E) = some m := h
          cases h
        | none =>
          replace h : ((cOpt (cE c n top N sc) lo).bind fun ml => (cOpt (cE c n top N sc) hi).map fun mh => E.cut ma ml mh) = some m := h
          obtain ⟨ml, h2, h⟩ := bsi h
          obtain ⟨mh, h3, rfl⟩ := msi h
          have go := pe_cutD (p2 := p2) (pos := pos) (ih1 a ma h1) (po_D (fun e _ m h => ih1 e m h) h2) (po_D (fun e _ m h => ih1 e m h) h3)
          exact ⟨go, fun _ => pt_of (by intro _; rfl) go⟩
      · split at h
        · rename_i ok
          obtain ⟨mb, h2, rfl⟩ := msi h
          have go : PE X (.Subscript a b pos) (tV X.K cl Γ (.idx ma mb)) := peI (pe_ix (ix_D (cl := cl)) (ih1 a ma h1) (ih1 b mb h2) (fun _ _ => by cases b <;> first | rfl | cases ok)) fun σ H Q q => tV2 (fun _ => rfl) q
          exact ⟨go, fun _ => pt_of (by intro _; rfl) go⟩
        · cases h
    case List es pos =>
      replace h : (if es.all okE then (cList (cE c n top N sc) es).map .lst else none) = some m := h
      split at h
      · rename_i ok
        obtain ⟨ml, h1, rfl⟩ := msi h
        have go := pe_lstD (pos := pos) (clist_ok (fun e _ m h => ih1 e m h) ok h1)
        exact ⟨go, fun _ => pt_of (by intro _; rfl) go⟩
      · cases h
    case Dict ks vs pos =>
      replace h : (if ks.isEmpty && vs.isEmpty then some E.dic0 else none) = some m := h
      split at h
      · rename_i ok
        obtain ⟨k0, v0⟩ := bae ok
        cases h
        cases ks with
        | cons _ _ => cases k0
        | nil =>
        cases vs with
        | cons _ _ => cases v0
        | nil =>
        have go : PE X (.Dict [] [] pos) (tV X.K cl Γ .dic0) := peI pe_dnewK fun σ H Q ⟨G, env, d, sg, en, e, q⟩ p hp => by
          have e' : some (D.dic []) = some d := e
          cases e'
          exact q (.ref p) _ _ (Ext.new sg hp (.dK [])) (.dic upd_same)
        exact ⟨go, fun _ => pt_of (by intro _; rfl) go⟩
      · cases h
    case Tuple es k pos =>
      replace h : (if es.all okE then (cList (cE c n top N sc) es).map .tup else none) = some m := h
      split at h
      · rename_i ok
        obtain ⟨ml, h1, rfl⟩ := msi h
        have go := pe_tupD (k := k) (pos := pos) (clist_ok (fun e _ m h => ih1 e m h) ok h1)
        exact ⟨go, fun _ => pt_of (by intro _; rfl) go⟩
      · cases h
    case ListComp elt gs scope pos =>
      replace h : (if top then cLc c N sc (cE c n top N sc) (fun N' e => cE c n false N' scope e) elt scope gs else none) = some m := h
      split at h
      · rename_i tp
        subst tp
        unfold cLc at h
        split at h
        · rename_i x px iter ifs
          have go : PE X (.ListComp elt [⟨.Name x px, iter, ifs, 0⟩] scope pos) (tV X.K cl Γ m) := by
            split at h
            · rename_i oi
              obtain ⟨is, h1, h⟩ := bsi h
              split at h
              · rename_i cs
                have cs := compOk_ok cs
                obtain ⟨mi, h2, h⟩ := bsi h
                obtain ⟨me, h3, h⟩ := bsi h
                obtain ⟨mc, h4, rfl⟩ := msi h
                have hi : PI X (.Name x px) iter (tI X.K cl Γ mi) := ci_ok S ih1 (fun z => by cases z) h2
                have he : ∀ C s H fp pins, PE (compCx X scope (x :: frees scope.names) C s H fp pins) elt (tV X.K cl Γ me) := fun C s H fp pins => (ih false _ scope elt me _ (S.comp cs C s H fp pins) h3).1
                have hfs : ∀ v, foldedSetIterable iter X.env v = pure v := by intro v; cases iter <;> first | rfl | cases oi
                have hcs : X.env.scope = sc := S.tp rfl
                cases ifs with
                | nil =>
                  cases h4
                  exact peI (pe_comp S.calm hi he cs hcs S.hN hfs) fun σ H Q q => comp_tV (fun σ H Q ⟨G, env, b, sg, en, e, q⟩ => by
                    have e' : some true = some b := e
                    cases e'
                    exact q H G (Ext.refl sg)) q
                | cons t r =>
                  cases r with
                  | nil =>
                    have h4' : (if okT t then (cE c n false (x :: frees scope.names) scope t).bind fun m => if isNil m then none else some m else none) = some mc := h4
                    split at h4'
                    · rename_i okt
                      obtain ⟨m', h5, h6⟩ := bsi h4'
                      split at h6
                      · cases h6
                      · rename_i nn
                        cases h6
                        have ht : ∀ C s H fp pins, PT (compCx X scope (x :: frees scope.names) C s H fp pins) t (tVT X.K cl Γ mc) := fun C s H fp pins => (ih false _ scope t mc _ (S.comp cs C s H fp pins) h5).2 okt
                        exact peI (pe_compIf S.calm hi ht he cs hcs S.hN hfs) fun σ H Q q => comp_tV (fun σ H Q ⟨G, env, b, sg, en, e, q⟩ => by
                          unfold cS at e
                          rw [if_neg nn] at e
                          exact ⟨G, env, b, sg, en, e, q⟩) q
                    · cases h4'
                  | cons t2 r2 => cases h4
              · cases h
            · cases h
          exact ⟨go, fun _ => pt_of (by intro _; rfl) go⟩
        · cases h
      · cases h
    all_goals cases h
end
noncomputable abbrev TEnv := List (Option T)
noncomputable def dEnv (env : TEnv) : Env := env.map (·.map strip)
noncomputable def shOf : Option T → Option D
  | some (.sh d) => some d
  | _ => none
noncomputable def fEnv (env : TEnv) : Env := env.map shOf
noncomputable def scal : D → Bool
  | .non => true | .bl _ => true | .int _ => true | .str _ => true | _ => false
mutual
noncomputable def flatT : T → Bool
  | .sh d => scal d
  | .ow ts => flatTs ts
  | .ob _ _ ts => flatTs ts
noncomputable def flatTs : List T → Bool
  | [] => true
  | t :: r => flatT t && flatTs r
end
structure Rep (K : W.Frag) (cl : Nat → Option Addr) (H₀ G₀ : Hp) (io : Option (Nat × Addr)) (F : Hp) (A : Nat → List Addr) (σ : St) (env : TEnv) (H : Hp) : Prop where
  slot : ∀ (i : Nat) (t : T), env[i]? = some (some t) → ∃ v, σ[i]? = some (some v) ∧ OT K cl F H v t (A i)
  out : ∀ (i : Nat), (∀ t, env[i]? ≠ some (some t)) → A i = []
  nd : ∀ (i : Nat), (A i).Nodup
  dj : ∀ (i j : Nat) (a : Addr), i ≠ j → a ∈ A i → a ∈ A j → False
  fh : Same F H
  gf : Same G₀ F
  fnew : ∀ b o, F b = some o → G₀ b = none → H₀ b = none
  keep : ∀ b o, H₀ b = some o → (∀ p, io ≠ some (p, b)) → H b = some o
  anew : ∀ (i : Nat) (a : Addr), a ∈ A i → (∃ p, io = some (p, a)) ∨ H₀ a = none
  iok : ∀ p a, io = some (p, a) → ∃ B, A p = a :: B
structure Gro (F : Hp) (A : Nat → List Addr) (H F' : Hp) (A' : Nat → List Addr) (H' : Hp) : Prop where
  hh : Same H H'
  ff : Same F F'
  nw : ∀ b o, F' b = some o → F b = none → (∃ j, b ∈ A j) ∨ H b = none
  aa : ∀ (j : Nat) (a : Addr), a ∈ A' j → a ∈ A j
section
variable {F F' F2 H H' H2 : Hp} {A A' A2 : Nat → List Addr}
theorem Gro.refl : Gro F A H F A H := ⟨.refl _, .refl _, (fun b o h1 h2 => by rw [h1] at h2; cases h2), fun _ _ h => h⟩
theorem Gro.trans (x : Gro F A H F' A' H') (y : Gro F' A' H' F2 A2 H2) : Gro F A H F2 A2 H2 :=
  ⟨x.hh.trans y.hh, x.ff.trans y.ff, fun b o h1 h2 => by
    cases e : F' b with
    | some u => exact x.nw b u e h2
    | none =>
      rcases y.nw b o h1 e with ⟨j, z⟩ | z
      · exact .inl ⟨j, x.aa j b z⟩
      · exact .inr (x.hh.free z), fun j a h => x.aa j a (y.aa j a h)⟩
theorem Gro.of_ext (x : Ext H F H' F') : Gro F A H F' A H' := ⟨x.hh, x.gg, fun b o h1 h2 => .inr (x.nw b o h1 h2), fun _ _ h => h⟩
theorem Gro.of_same (x : Same H H') : Gro F A H F A H' := ⟨x, .refl _, (fun b o h1 h2 => by rw [h1] at h2; cases h2), fun _ _ h => h⟩
end
section
variable {K : W.Frag} {cl : Nat → Option Addr} {H₀ G₀ F H H' F' : Hp} {io : Option (Nat × Addr)} {A : Nat → List Addr} {σ : St} {env : TEnv}
theorem Rep.ioa (R : Rep K cl H₀ G₀ io F A σ env H) {p : Nat} {a : Addr} (h : io = some (p, a)) : a ∈ A p := by
  obtain ⟨B, e⟩ := R.iok p a h
  rw [e]; simp
theorem Rep.at_ (R : Rep K cl H₀ G₀ io F A σ env H) {i : Nat} {a : Addr} (h : a ∈ A i) : F a = none ∧ ∃ o, H a = some o := by
  cases e : env[i]? with
  | none => rw [R.out i (fun t z => by rw [e] at z; cases z)] at h; simp at h
  | some o =>
    cases o with
    | none => rw [R.out i (fun t z => by rw [e] at z; cases z)] at h; simp at h
    | some t =>
      obtain ⟨v, _, ot⟩ := R.slot i t e
      exact ot.free a h
theorem Rep.grow (R : Rep K cl H₀ G₀ io F A σ env H) (hh : Same H H') (gg : Same F F') (gh : Same F' H') (nw : ∀ b o, F' b = some o → F b = none → H b = none) : Rep K cl H₀ G₀ io F' A σ env H' := by
  have free : ∀ i a, a ∈ A i → F' a = none := fun i a ha => by
    obtain ⟨h1, o, h2⟩ := R.at_ ha
    cases e : F' a with
    | none => rfl
    | some u => have := nw a u e h1; rw [h2] at this; cases this
  refine ⟨fun i t e => ?_, R.out, R.nd, R.dj, gh, R.gf.trans gg, fun b o h1 h2 => ?_, fun b o h1 h2 => hh _ _ (R.keep b o h1 h2), R.anew, R.iok⟩
  · obtain ⟨v, h1, h2⟩ := R.slot i t e
    exact ⟨v, h1, h2.move gg (free i) fun a _ o q => hh _ _ q⟩
  · cases e : F b with
    | some u => exact R.fnew b u e h2
    | none =>
      have h3 := nw b o h1 e
      cases e' : H₀ b with
      | none => rfl
      | some u =>
        by_cases hb : ∃ p, io = some (p, b)
        · obtain ⟨p, hb⟩ := hb
          obtain ⟨_, o', h4⟩ := R.at_ (R.ioa hb); rw [h3] at h4; cases h4
        · have := R.keep b u e' (fun p z => hb ⟨p, z⟩); rw [h3] at this; cases this
theorem Rep.see (R : Rep K cl H₀ G₀ io F A σ env H) : EnvD K cl H (dEnv env) σ := fun i d e => by
  unfold dEnv at e
  rw [List.getElem?_map] at e
  cases q : env[i]? with
  | none => rw [q] at e; cases e
  | some o =>
    cases o with
    | none => rw [q] at e; cases e
    | some t =>
      rw [q] at e
      cases e
      obtain ⟨v, h1, h2⟩ := R.slot i t q
      exact ⟨v, h1, h2.see R.fh (R.nd i)⟩
theorem Rep.seeF (R : Rep K cl H₀ G₀ io F A σ env H) : EnvD K cl F (fEnv env) σ := fun i d e => by
  unfold fEnv at e
  rw [List.getElem?_map] at e
  cases q : env[i]? with
  | none => rw [q] at e; cases e
  | some o =>
    cases o with
    | none => rw [q] at e; cases e
    | some t =>
      rw [q] at e
      cases t with
      | sh d' =>
        cases e
        obtain ⟨v, h1, h2⟩ := R.slot i _ q
        generalize A i = B at h2
        cases h2 with | sh h2 => exact ⟨v, h1, h2⟩
      | ow ts => cases e
      | ob c ks ts => cases e
theorem Rep.store (R : Rep K cl H₀ G₀ io F A σ env H) {i : Nat} {v : V} {t : T} {B : List Addr} (hp : ∀ p a, io = some (p, a) → p ≠ i) (hi : i < env.length) (hs : env.length = σ.length) (ot : OT K cl F H v t B) (nd : B.Nodup) (dj : ∀ j a, j ≠ i → a ∈ A j → a ∈ B → False) (an : ∀ a ∈ B, H₀ a = none) :
    Rep K cl H₀ G₀ io F (fun j => if j = i then B else A j) (σ.set i (some v)) (env.set i (some t)) H := by
  refine ⟨fun j u e => ?_, fun j h => ?_, fun j => ?_, fun j k a hjk h1 h2 => ?_, R.fh, R.gf, R.fnew, R.keep, fun j a ha => ?_, fun p a h => by show ∃ B, (if p = i then _ else A p) = a :: B; rw [if_neg (hp p a h)]; exact R.iok p a h⟩
  · by_cases hj : j = i
    · subst hj
      rw [List.getElem?_set_self hi] at e
      cases e
      exact ⟨v, by rw [List.getElem?_set_self (by omega)], by rw [if_pos rfl]; exact ot⟩
    · rw [List.getElem?_set_ne (Ne.symm hj)] at e
      obtain ⟨w, h1, h2⟩ := R.slot j u e
      exact ⟨w, by rw [List.getElem?_set_ne (Ne.symm hj)]; exact h1, by rw [if_neg hj]; exact h2⟩
  · by_cases hj : j = i
    · subst hj; exact absurd (List.getElem?_set_self hi) (h t)
    · show (if j = i then B else A j) = []
      rw [if_neg hj]
      refine R.out j fun u z => h u ?_
      rw [List.getElem?_set_ne (Ne.symm hj)]; exact z
  · show (if j = i then B else A j).Nodup
    split
    · exact nd
    · exact R.nd j
  · have h1' : a ∈ (if j = i then B else A j) := h1
    have h2' : a ∈ (if k = i then B else A k) := h2
    by_cases e1 : j = i
    · rw [if_pos e1] at h1'
      rw [if_neg (fun z => hjk (e1.trans z.symm))] at h2'
      exact dj k a (fun z => hjk (e1.trans z.symm)) h2' h1'
    · rw [if_neg e1] at h1'
      by_cases e2 : k = i
      · rw [if_pos e2] at h2'
        exact dj j a e1 h1' h2'
      · rw [if_neg e2] at h2'
        exact R.dj j k a hjk h1' h2'
  · have ha' : a ∈ (if j = i then B else A j) := ha
    split at ha'
    · exact .inr (an a ha')
    · exact R.anew j a ha'
theorem Rep.drop (R : Rep K cl H₀ G₀ io F A σ env H) (i : Nat) (hp : ∀ p a, io = some (p, a) → p ≠ i) : Rep K cl H₀ G₀ io F (fun j => if j = i then [] else A j) σ (env.set i none) H := by
  refine ⟨fun j u e => ?_, fun j h => ?_, fun j => ?_, fun j k a hjk h1 h2 => ?_, R.fh, R.gf, R.fnew, R.keep, fun j a ha => ?_, fun p a h => by show ∃ B, (if p = i then _ else A p) = a :: B; rw [if_neg (hp p a h)]; exact R.iok p a h⟩
  · by_cases hj : j = i
    · subst hj
      by_cases hl : j < env.length
      · rw [List.getElem?_set_self hl] at e; cases e
      · rw [List.getElem?_eq_none (by simp; omega)] at e; cases e
    · rw [List.getElem?_set_ne (Ne.symm hj)] at e
      obtain ⟨w, h1, h2⟩ := R.slot j u e
      exact ⟨w, h1, by rw [if_neg hj]; exact h2⟩
  · show (if j = i then [] else A j) = []
    split
    · rfl
    · rename_i hj
      refine R.out j fun u z => h u ?_
      rw [List.getElem?_set_ne (Ne.symm hj)]; exact z
  · show (if j = i then [] else A j).Nodup
    split
    · exact List.nodup_nil
    · exact R.nd j
  · have h1' : a ∈ (if j = i then [] else A j) := h1
    have h2' : a ∈ (if k = i then [] else A k) := h2
    split at h1'
    · simp at h1'
    · split at h2'
      · simp at h2'
      · exact R.dj j k a hjk h1' h2'
  · have ha' : a ∈ (if j = i then [] else A j) := ha
    split at ha'
    · simp at ha'
    · exact R.anew j a ha'
theorem Rep.freeze (R : Rep K cl H₀ G₀ io F A σ env H) (i : Nat) (hp : ∀ p a, io = some (p, a) → p ≠ i) {t : T} (e : env[i]? = some (some t)) : ∃ F', Frz F F' H (A i) ∧ Rep K cl H₀ G₀ io F' (fun j => if j = i then [] else A j) σ (env.set i (some (.sh (strip t)))) H := by
  obtain ⟨v, h1, ot⟩ := R.slot i t e
  obtain ⟨F', fz, dn⟩ := ot.freeze R.fh (R.nd i)
  have hi : i < env.length := (List.getElem?_eq_some_iff.mp e).1
  refine ⟨F', fz, fun j u e => ?_, fun j h => ?_, fun j => ?_, fun j k a hjk h1 h2 => ?_, fz.gh, R.gf.trans fz.gg, fun b o q n => ?_, R.keep, fun j a ha => ?_, fun p a h => by show ∃ B, (if p = i then _ else A p) = a :: B; rw [if_neg (hp p a h)]; exact R.iok p a h⟩
  · by_cases hj : j = i
    · subst hj
      rw [List.getElem?_set_self hi] at e
      cases e
      exact ⟨v, h1, by rw [if_pos rfl]; exact .sh dn⟩
    · rw [List.getElem?_set_ne (Ne.symm hj)] at e
      obtain ⟨w, h3, h4⟩ := R.slot j u e
      refine ⟨w, h3, ?_⟩
      rw [if_neg hj]
      exact h4.move fz.gg (fun a ha => by rw [fz.on a fun z => R.dj j i a hj ha z]; exact (h4.free a ha).1) fun _ _ _ q => q
  · show (if j = i then [] else A j) = []
    split
    · rfl
    · rename_i hj
      refine R.out j fun u z => h u ?_
      rw [List.getElem?_set_ne (Ne.symm hj)]; exact z
  · show (if j = i then [] else A j).Nodup
    split
    · exact List.nodup_nil
    · exact R.nd j
  · have h1' : a ∈ (if j = i then [] else A j) := h1
    have h2' : a ∈ (if k = i then [] else A k) := h2
    split at h1'
    · simp at h1'
    · split at h2'
      · simp at h2'
      · exact R.dj j k a hjk h1' h2'
  · by_cases hb : b ∈ A i
    · rcases R.anew i b hb with z | z
      · obtain ⟨p, z⟩ := z
        exact (R.dj p i b (hp p b z) (R.ioa z) hb).elim
      · exact z
    · rw [fz.on b hb] at q; exact R.fnew b o q n
  · have ha' : a ∈ (if j = i then [] else A j) := ha
    split at ha'
    · simp at ha'
    · exact R.anew j a ha'
theorem Rep.write (R : Rep K cl H₀ G₀ io F A σ env H) {i : Nat} {ts ts' : List T} (e : env[i]? = some (some (.ow ts))) {p : Addr} {xs : List V} {B : List Addr} (hA : A i = p :: B) {xs' : List V} {B' : List Addr} (ot : OTs K cl F (upd H p (.lst xs')) xs' ts' B') (nd : (p :: B').Nodup)
    (dj : ∀ j a, j ≠ i → a ∈ A j → a ∈ B' → False) (an : ∀ a ∈ B', H₀ a = none) (hs : σ[i]? = some (some (.ref p))) : Rep K cl H₀ G₀ io F (fun j => if j = i then p :: B' else A j) σ (env.set i (some (.ow ts'))) (upd H p (.lst xs')) := by
  have hi : i < env.length := (List.getElem?_eq_some_iff.mp e).1
  have hp : p ∈ A i := by rw [hA]; simp
  have fp : F p = none := (R.at_ hp).1
  have ne : ∀ j a, j ≠ i → a ∈ A j → a ≠ p := fun j a hj ha z => R.dj j i a hj ha (by rw [z]; exact hp)
  refine ⟨fun j u e' => ?_, fun j h => ?_, fun j => ?_, fun j k a hjk h1 h2 => ?_, fun b o q => ?_, R.gf, R.fnew, fun b o h1 h2 => ?_, fun j a ha => ?_, fun q a h => ?_⟩
  · by_cases hj : j = i
    · subst hj
      rw [List.getElem?_set_self hi] at e'
      cases e'
      exact ⟨_, hs, by rw [if_pos rfl]; exact .ow upd_same fp ot⟩
    · rw [List.getElem?_set_ne (Ne.symm hj)] at e'
      obtain ⟨w, h3, h4⟩ := R.slot j u e'
      refine ⟨w, h3, ?_⟩
      rw [if_neg hj]
      exact h4.move (.refl _) (fun a ha => (h4.free a ha).1) fun a ha o q => by rw [upd_ne (ne j a hj ha)]; exact q
  · by_cases hj : j = i
    · subst hj; exact absurd (List.getElem?_set_self hi) (h _)
    · show (if j = i then p :: B' else A j) = []
      rw [if_neg hj]
      refine R.out j fun u z => h u ?_
      rw [List.getElem?_set_ne (Ne.symm hj)]; exact z
  · show (if j = i then p :: B' else A j).Nodup
    split
    · exact nd
    · exact R.nd j
  · have h1' : a ∈ (if j = i then p :: B' else A j) := h1
    have h2' : a ∈ (if k = i then p :: B' else A k) := h2
    have one : ∀ j, j ≠ i → a ∈ A j → a ∈ p :: B' → False := fun j hj h3 h4 => by
      rcases List.mem_cons.mp h4 with z | z
      · exact ne j a hj h3 z
      · exact dj j a hj h3 z
    by_cases e1 : j = i
    · rw [if_pos e1] at h1'
      rw [if_neg (fun z => hjk (e1.trans z.symm))] at h2'
      exact one k (fun z => hjk (e1.trans z.symm)) h2' h1'
    · rw [if_neg e1] at h1'
      by_cases e2 : k = i
      · rw [if_pos e2] at h2'
        exact one j e1 h1' h2'
      · rw [if_neg e2] at h2'
        exact R.dj j k a hjk h1' h2'
  · rw [upd_ne (ne_of_none q fp)]; exact R.fh _ _ q
  · rw [upd_ne]
    · exact R.keep b o h1 h2
    · rintro rfl
      rcases R.anew i b hp with ⟨q, z⟩ | z
      · exact h2 q z
      · rw [z] at h1; cases h1
  · have ha' : a ∈ (if j = i then p :: B' else A j) := ha
    split at ha'
    · rcases List.mem_cons.mp ha' with z | z
      · rw [z]; exact R.anew i p hp
      · exact .inr (an a z)
    · exact R.anew j a ha'
  · show ∃ B, (if q = i then p :: B' else A q) = a :: B
    obtain ⟨C, h5⟩ := R.iok q a h
    split
    · rename_i hq
      subst hq
      rw [hA] at h5
      injection h5 with h6 _
      exact ⟨B', by rw [h6]⟩
    · exact ⟨C, h5⟩
end
noncomputable def fresh : E → Bool
  | .bin .Add _ _ => true
  | .bin .Mult _ _ => true
  | .cut _ _ _ => true
  | .rev _ => true
  | .lst _ => true
  | .comp _ _ _ _ => true
  | .un .list _ => true
  | .un .lrng _ => true
  | .un .sorted _ => true
  | .un .sset _ => true
  | _ => false
noncomputable def tF (K : W.Frag) (cl : Nat → Option Addr) (Γ : Tab) (m : E) : TE := fun σ H Q => ∃ G env ds, Same G H ∧ EnvD K cl G env σ ∧ ev Γ m env = some (.lst ds) ∧ ∀ p xs H1 G1, Ext H G H1 G1 → H p = none → G1 p = none → H1 p = some (.lst xs) → Dns K cl G1 xs ds → Q (.ref p) H1
theorem upQ {K : W.Frag} {cl : Nat → Option Addr} {G H : Hp} {ds : List D} {Q : VK} (q : ∀ p xs H1 G1, Ext H G H1 G1 → H p = none → G1 p = none → H1 p = some (.lst xs) → Dns K cl G1 xs ds → Q (.ref p) H1) (p : Addr) (xs : List V) (H1 G1 : Hp) (x : Ext H G H1 G1) (hp : H1 p = none) (d : Dns K cl G1 xs ds) : Q (.ref p) (upd H1 p (.lst xs)) :=
  q p xs _ G1 (x.trans (Ext.newO x.gh hp _)) (x.hh.free hp) (x.gh.free hp) upd_same d
section
variable {X : Cx} {cl : Nat → Option Addr} {Γ : Tab} {c : CC}
noncomputable def rF (K : W.Frag) (cl : Nat → Option Addr) (g : D → D → Option D) : R2 := fun v u H Q => ∃ G x y ds, Same G H ∧ Dn K cl G v x ∧ Dn K cl G u y ∧ g x y = some (.lst ds) ∧ ∀ p xs, H p = none → Dns K cl G xs ds → Q (.ref p) (upd H p (.lst xs))
theorem op_binF (op : Operator) : OpR X (binaryOp op) (rF X.K cl (binD op)) := by
  intro pins s σ H x y v u Q I rx ry ⟨G, a, b, ds, sg, da, db, hg, q⟩
  unfold binD at hg
  split at hg
  all_goals try (cases hg; done)
  all_goals try (split at hg <;> first | (cases hg; done) | skip)
  · rename_i hz
    cases hg
    cases da with | @lst p xs _ h1 h2 => cases db with | @lst p' xs' _ h1' h2' =>
      exact op_catR pins s σ H _ _ v u Q I rx ry ⟨_, _, _, _, rfl, rfl, rl_mono sg h1, rl_mono sg h1', sz_le (by rw [h2.length, h2'.length]; exact hz), fun r hr => q r _ hr (h2.append h2')⟩
  · rename_i hz
    cases hg; cases db
    cases da with | @lst p xs _ h1 h2 =>
      obtain ⟨hz1, hz2⟩ := bae hz
      have hz2 := odt hz2
      exact op_repR pins s σ H _ _ v u Q I rx ry ⟨_, _, _, rfl, rfl, rl_mono sg h1, by omega, by omega, sz_le (by rw [h2.length]; exact hz1), fun r hr => q r _ hr (h2.rep _)⟩
theorem tF2 {a b m : E} {g : D → D → Option D} {K : W.Frag} {σ : St} {H : Hp} {Q : VK} (h : ∀ env, ev Γ m env = (ev Γ a env).bind fun x => (ev Γ b env).bind fun y => g x y) : tF K cl Γ m σ H Q → tOp (rF K cl g) (tV K cl Γ a) (tV K cl Γ b) σ H Q := by
  rintro ⟨G, env, d, sg, en, e, q⟩
  have q := upQ q
  rw [h] at e
  obtain ⟨x, ex, e⟩ := bsi e
  obtain ⟨y, ey, e⟩ := bsi e
  exact ⟨G, env, x, sg, en, ex, fun v H1 G1 e1 d1 => ⟨G1, env, y, e1.gh, en.mono e1.gg, ey, fun u H2 G2 e2 d2 => ⟨G2, x, y, d, e2.gh, d1.mono e2.gg, d2, e, fun p xs hp dx => q p xs H2 G2 (e1.trans e2) hp dx⟩⟩⟩
theorem pe_cutF {a : Expr} {lo hi : Option Expr} {ma ml mh : E} {p2 pos : Pos} (ha : PE X a (tV X.K cl Γ ma)) (hl : PO X lo (tVO X.K cl Γ ml)) (hh : PO X hi (tVO X.K cl Γ mh)) : PE X (.Subscript a (.Slice lo hi none p2) pos) (tF X.K cl Γ (.cut ma ml mh)) := by
  refine peI (pe_slice sl_list ha hl hh) fun σ H Q ⟨G, env, ds, sg, en, e, q⟩ => ?_
  have q := upQ q
  obtain ⟨x, ex, e⟩ := bsi (show (ev Γ ma env).bind (fun x => (optS ml (ev Γ ml env)).bind fun l => (optS mh (ev Γ mh env)).bind fun h => cutD x l h) = some (.lst ds) from e)
  obtain ⟨l, el, e⟩ := bsi e
  obtain ⟨h, eh, e⟩ := bsi e
  refine ⟨G, env, x, sg, en, ex, fun v H1 G1 x1 d1 => ⟨G1, env, l, x1.gh, en.mono x1.gg, el, fun H2 G2 x2 => ⟨G2, env, h, x2.gh, en.mono (x1.gg.trans x2.gg), eh, fun H3 G3 x3 => ?_⟩⟩⟩
  unfold cutD at e
  split at e
  · cases e
    cases d1 with | @lst p xs _ h1 h2 =>
      have x123 := (x1.trans x2).trans x3
      refine ⟨p, xs, rfl, (rl_mono (x2.gg.trans (x3.gg.trans x3.gh)) h1).sql, fun r hr => q r _ H3 G3 x123 hr ?_⟩
      have h2 := h2.mono (x2.gg.trans x3.gg)
      unfold cutV cutL
      rw [h2.length]
      exact (h2.drop _).take _
  · cases e
theorem pe_lstF {es : List Expr} {m : E} {pos : Pos} (h : PA X es (tVs X.K cl Γ m)) : PE X (.List es pos) (tF X.K cl Γ (.lst m)) := by
  refine peI (pe_lst h) fun σ H Q ⟨G, env, ds, sg, en, e, q⟩ => ?_
  have q := upQ q
  obtain ⟨l, e1, e⟩ := bsi (show (ev Γ m env).bind szL = some (.lst ds) from e)
  cases l with
  | lst l =>
    have e' : (if sz l.length then some (D.lst l) else none) = some (.lst ds) := e
    split at e'
    · rename_i hz
      cases e'
      exact ⟨G, env, _, sg, en, by unfold evs; rw [e1]; rfl, fun vs H' G' x dv => ⟨sz_le (by rw [dv.length]; exact hz), fun p hp => q p vs H' G' x hp dv⟩⟩
    · cases e'
  | _ => cases e
theorem pe_listF {a : Expr} {ma : E} {p pos : Pos} (gg : Gl X "list") (mg : X.mg "list" = none) (oa : okE a = true) (ha : PE X a (tV X.K cl Γ ma)) : PE X (.Call (.Name "list" p) [a] [] pos) (tF X.K cl Γ (.un .list ma)) := by
  refine peI (pe_callTy call_list_of gg mg bt_list (pa_cons ha pa_nil (star_of oa _ _)) (by decide) (by decide) (star_of oa _ _) rfl) fun σ H Q ⟨G, env, ds, sg, en, e, q⟩ => ?_
  have q := upQ q
  obtain ⟨x, ex, e⟩ := bsi (show (ev Γ ma env).bind (unD .list) = some (.lst ds) from e)
  refine ⟨G, env, x, sg, en, ex, fun v H1 G1 x1 d1 => ?_⟩
  cases x with
  | lst l =>
    cases e
    cases d1 with | lst h1 h2 => exact ⟨_, _, rfl, .inl (rl_mono x1.gh h1).sql, fun l hl => q l _ H1 G1 x1 hl h2⟩
  | tup l =>
    cases e
    cases d1 with | tup h1 h2 => exact ⟨_, _, rfl, .inr (.inl (.inl (x1.gh _ _ h1))), fun l hl => q l _ H1 G1 x1 hl h2⟩
  | _ => cases e
theorem pe_lrngF {b : Expr} {mb : E} {p py pb pos : Pos} (calm : X.calm = true) (gg : Gl X "list") (mg : X.mg "list" = none) (g2 : Gl X "range") (m2 : X.mg "range" = none) (ob : okE b = true) (hb : PE X b (tV X.K cl Γ mb)) : PE X (.Call (.Name "list" p) [.Call (.Name "range" py) [b] [] pb] [] pos) (tF X.K cl Γ (.un .lrng mb)) := by
  refine peI (pe_callTy (call_list_rng calm) gg mg bt_list (pa_cons (pe_callTy call_range1R g2 m2 bt_range (pa_cons hb pa_nil (star_of ob _ _)) (by decide) (by decide) (star_of ob _ _) rfl) pa_nil rfl) (by decide) (by decide) rfl rfl) fun σ H Q ⟨G, env, ds, sg, en, e, q⟩ => ?_
  have q := upQ q
  obtain ⟨z, e1, e⟩ := bsi (show (ev Γ mb env).bind (unD .lrng) = some (.lst ds) from e)
  refine ⟨G, env, z, sg, en, e1, fun v H1 G1 x1 d1 => ?_⟩
  cases z with
  | int n =>
    have e' : (if decide (-(2 ^ 60) ≤ n ∧ n ≤ 1000000) then some (D.lst ((List.range n.toNat).map fun (i : Nat) => D.int i)) else none) = some (.lst ds) := e
    split at e'
    · rename_i hn
      have hn := odt hn
      cases e'
      cases d1
      refine ⟨n, rfl, fun p hp => ?_⟩
      have x2 := Ext.newO x1.gh hp (.rng 0 n)
      refine ⟨p, 0, n, rfl, upd_same, by decide, by decide, by omega, by omega, by omega, fun l hl => ?_⟩
      rw [Int.sub_zero]
      refine q l _ _ _ (x1.trans x2) hl ?_
      have e3 : ((List.range n.toNat).map fun (i : Nat) => V.int (0 + (i : Int))) = ((List.range n.toNat).map fun (i : Nat) => (i : Int)).map V.int := by simp
      have e4 : ((List.range n.toNat).map fun (i : Nat) => D.int (i : Int)) = ((List.range n.toNat).map fun (i : Nat) => (i : Int)).map D.int := by simp
      rw [e3, e4]
      exact dns_ints _
    · cases e'
  | _ => cases e
theorem pe_ssetF {b : Expr} {mb : E} {p py pb pos : Pos} (calm : X.calm = true) (gg : Gl X "sorted") (mg : X.mg "sorted" = none) (g2 : Gl X "set") (m2 : X.mg "set" = none) (ob : okE b = true) (hb : PE X b (tV X.K cl Γ mb)) : PE X (.Call (.Name "sorted" p) [.Call (.Name "set" py) [b] [] pb] [] pos) (tF X.K cl Γ (.un .sset mb)) := by
  refine peI (pe_callB (call_sortedX calm) gg mg bt_sorted (pa_cons (pe_callTy (call_setX calm) g2 m2 bt_set (pa_cons hb pa_nil (star_of ob _ _)) (by decide) (by decide) (star_of ob _ _) rfl) pa_nil rfl) (by decide) (by decide) rfl rfl) fun σ H Q ⟨G, env, ds, sg, en, e, q⟩ => ?_
  have q := upQ q
  obtain ⟨z, e1, e⟩ := bsi (show (ev Γ mb env).bind (unD .sset) = some (.lst ds) from e)
  refine ⟨G, env, z, sg, en, e1, fun v H1 G1 x1 d1 => ?_⟩
  obtain ⟨ns, rfl, hz, ⟨pp, rfl, h1⟩, ed⟩ := sset_in x1.gh e d1
  cases ed
  refine ⟨_, ns, rfl, h1, hz, fun l hl => ?_⟩
  have x2 := Ext.newO x1.gh hl (.ext (setφ X.prog X.w ns l))
  refine ⟨l, ns, rfl, upd_same, hz, fun l2 ms hl2 a1 a2 a3 => ?_⟩
  rw [isort_ddp a1 a2 a3]
  exact q l2 _ _ _ (x1.trans x2) hl2 (dns_ints _)
theorem comp_tF {wi : E} {is : List Nat} {me mc : E} {K : W.Frag} {tt : TT} (htt : ∀ σ H (Q : Bool → Hp → Prop), (∃ G env b, Same G H ∧ EnvD K cl G env σ ∧ cS mc (ev Γ mc env) = some b ∧ ∀ H' G', Ext H G H' G' → Q b H') → tt σ H Q) {σ : St} {H : Hp} {Q : VK} :
    tF K cl Γ (.comp me is wi mc) σ H Q → tComp (tI K cl Γ wi) is tt (tV K cl Γ me) σ H Q := by
  rintro ⟨G, env, out, sg, en, e, q⟩
  obtain ⟨ds, e1, e⟩ := bsi (show ((ev Γ wi env).bind walkD).bind (fun ds => if sz ds.length then (compR (fun d => (cS mc (ev Γ mc (inner env is d))).bind fun b => if b then (ev Γ me (inner env is d)).map some else some none) ds).map D.lst else none) = some (.lst out) from e)
  split at e
  · rename_i hz
    obtain ⟨out', e2, e3⟩ := msi e
    cases e3
    generalize hf : (fun d => (cS mc (ev Γ mc (inner env is d))).bind fun b => if b then (ev Γ me (inner env is d)).map some else some none) = f at e2
    have hfd : ∀ d, f d = (cS mc (ev Γ mc (inner env is d))).bind fun b => if b then (ev Γ me (inner env is d)).map some else some none := fun d => by rw [← hf]
    clear hf
    have hz' := odt hz
    refine ⟨G, env, ds, sg, en, e1, fun J H1 G1 x1 wk _ D hD => ?_⟩
    have gD : G1 D = none := x1.gh.free hD
    refine ⟨fun i k H2 => k = ds.length - i ∧ i ≤ ds.length ∧ ∃ G2 ys es rest, Ext H1 G1 H2 G2 ∧ H2 D = some (.lst ys) ∧ G2 D = none ∧ Dns K cl G2 ys es ∧ ys.length ≤ i ∧ compR f (ds.drop i) = some rest ∧ es ++ rest = out, ⟨ds.length, by simp, Nat.zero_le _, G1, [], [], out, ⟨same_upd hD _, .refl _, x1.gh.trans (same_upd hD _), fun b o h1 h2 => by rw [h1] at h2; cases h2⟩, upd_same, gD, .nil, by simp, e2, rfl⟩, ?_⟩
    rintro i k H2 ⟨rfl, hi, G2, ys, es, rest, x2, hy, g2D, dy, hle, hr, ho⟩
    obtain ⟨w1, w2⟩ := wk H2 G2 i x2.gg x2.gh
    by_cases hlt : i < ds.length
    · have hd : ds[i]? = some ds[i] := List.getElem?_eq_getElem hlt
      obtain ⟨g, y⟩ := w2 _ hd
      refine .inr ⟨g, fun v H3 yl => ?_⟩
      obtain ⟨G3, x3, d3⟩ := y v H3 yl
      rw [List.drop_eq_getElem_cons hlt] at hr
      obtain ⟨o, t, f1, f2, f3⟩ := compR_snoc hr
      rw [hfd] at f1
      obtain ⟨b, c1, c2⟩ := bsi f1
      have en3 : EnvD K cl G3 (inner env is ds[i]) (compSt σ is (some v)) := (en.mono ((x1.gg.trans x2.gg).trans x3.gg)).inner d3 is
      have g3D : G3 D = none := by
        cases z : G3 D with
        | none => rfl
        | some o => have := x3.nw D o z g2D; rw [hy] at this; cases this
      refine htt _ _ _ ⟨G3, _, b, x3.gh, en3, c1, fun H4 G4 x4 => ?_⟩
      have g4D : G4 D = none := by
        cases z : G4 D with
        | none => rfl
        | some o => have := x4.nw D o z g3D; rw [x3.hh _ _ hy] at this; cases this
      cases b with
      | false =>
        have c2' : some none = some o := c2
        cases c2'
        exact iteF ⟨ds.length - (i + 1), by omega, rfl, hlt, G4, ys, es, t, (x2.trans x3).trans x4, x4.hh _ _ (x3.hh _ _ hy), g4D, dy.mono (x3.gg.trans x4.gg), by omega, f2, by rw [← ho, f3]; rfl⟩
      | true =>
        obtain ⟨z, c3, c4⟩ := msi (show (ev Γ me (inner env is ds[i])).map some = some o from c2)
        subst c4
        refine iteT ⟨G4, _, z, x4.gh, en3.mono x4.gg, c3, fun u H5 G5 x5 d5 => ?_⟩
        have g5D : G5 D = none := by
          cases z : G5 D with
          | none => rfl
          | some o => have := x5.nw D o z g4D; rw [x4.hh _ _ (x3.hh _ _ hy)] at this; cases this
        have hy5 : H5 D = some (.lst ys) := x5.hh _ _ (x4.hh _ _ (x3.hh _ _ hy))
        refine ⟨ys, hy5, by rw [sizeLine_eq]; omega, ds.length - (i + 1), by omega, rfl, hlt, G5, ys ++ [u], es ++ [z], t, ?_, upd_same, g5D, (dy.mono ((x3.gg.trans x4.gg).trans x5.gg)).append (.cons d5 .nil), by rw [List.length_append, List.length_singleton]; omega, f2, by rw [← ho, f3, List.append_assoc]; rfl⟩
        have x25 := ((x2.trans x3).trans x4).trans x5
        exact ⟨fun b o h => by rw [upd_ne (ne_of_none h hD)]; exact x25.hh _ _ h, x25.gg, fun b o h => by rw [upd_ne (ne_of_none h g5D)]; exact x25.gh _ _ h, x25.nw⟩
    · have e0 : i = ds.length := by omega
      subst e0
      refine .inl ⟨w1 rfl, ?_⟩
      rw [List.drop_length] at hr
      have hr' : some [] = some rest := hr
      cases hr'
      rw [List.append_nil] at ho
      subst ho
      have x12 := x1.trans x2
      exact q D ys H2 G2 x12 (x1.hh.free hD) g2D hy dy
  · cases e
theorem cand_form {f : Expr → Option E} {es : List Expr} {m : E} (h2 : 2 ≤ es.length) (h : cAnd f es = some m) : ∃ a b, m = .and a b := by
  match es, h2, h with
  | a :: b :: r, _, h =>
    have h' : (if okT a then (f a).bind fun m => (cAnd f (b :: r)).map fun l => .and m l else none) = some m := h
    split at h'
    · obtain ⟨x, _, h'⟩ := bsi h'
      obtain ⟨y, _, rfl⟩ := msi h'
      exact ⟨x, y, rfl⟩
    · cases h'
theorem cor_form {f : Expr → Option E} {es : List Expr} {m : E} (h2 : 2 ≤ es.length) (h : cOr f es = some m) : ∃ a b, m = .or a b := by
  match es, h2, h with
  | a :: b :: r, _, h =>
    have h' : (if okT a then (f a).bind fun m => (cOr f (b :: r)).map fun l => .or m l else none) = some m := h
    split at h'
    · obtain ⟨x, _, h'⟩ := bsi h'
      obtain ⟨y, _, rfl⟩ := msi h'
      exact ⟨x, y, rfl⟩
    · cases h'
noncomputable def isVr : E → Bool
  | .var _ => true
  | _ => false
noncomputable def isCall : E → Bool
  | .call _ _ => true
  | _ => false
noncomputable def hdOk (m : E) : Expr → Bool
  | .Name _ _ => !isCall m && !fresh m
  | .Call _ _ _ _ => !isVr m
  | .BinOp _ _ _ _ => !isVr m && !isCall m
  | .Subscript _ _ _ => !isVr m && !isCall m
  | .List _ _ => !isVr m && !isCall m
  | .ListComp _ _ _ _ => !isVr m && !isCall m
  | _ => !isVr m && !isCall m && !fresh m
theorem cB_head {g : Str → Bool} {f : Expr → Option E} {x : Str} {args : List Expr} {m : E} (h : cB g f x args = some m) : isVr m = false ∧ isCall m = false := by
  unfold cB at h
  split at h
  · repeat' (split at h)
    all_goals first
      | (cases h; done)
      | (obtain ⟨_, _, rfl⟩ := msi h; exact ⟨rfl, rfl⟩)
  · repeat' (split at h)
    all_goals first
      | (cases h; done)
      | (obtain ⟨_, _, rfl⟩ := msi h; exact ⟨rfl, rfl⟩)
      | (obtain ⟨_, _, h⟩ := bsi h
         obtain ⟨_, _, rfl⟩ := msi h; exact ⟨rfl, rfl⟩)
  · cases h
theorem cE_head {c : CC} {n : Nat} {top : Bool} {N : List Str} {sc : Scope} {e : Expr} {m : E} (h : cE c (n + 1) top N sc e = some m) : hdOk m e = true := by
  cases e
  case Name x pos =>
    replace h : cNa c N sc x = some m := h
    unfold cNa at h
    split at h
    · split at h
      · cases h; rfl
      · split at h
        · split at h
          · cases h; rfl
          · split at h
            · cases h; rfl
            · cases h
        · cases h
    · cases h
  case Dict ks vs pos =>
    replace h : (if ks.isEmpty && vs.isEmpty then some E.dic0 else none) = some m := h
    split at h
    · cases h; rfl
    · cases h
  case Constant k kk pos =>
    cases k
    all_goals first | (cases h; rfl) | (cases h; done)
  case BinOp a op b pos =>
    obtain ⟨_, _, h⟩ := bsi h
    obtain ⟨_, _, rfl⟩ := msi h; rfl
  case UnaryOp op a pos =>
    cases op
    case USub => obtain ⟨_, _, rfl⟩ := msi h; rfl
    case Not =>
      replace h : (if okT a then (cE c n top N sc a).map .not else none) = some m := h
      split at h
      · obtain ⟨_, _, rfl⟩ := msi h; rfl
      · cases h
    all_goals cases h
  case Compare a ops bs pos =>
    replace h : cCm (cE c n top N sc) a ops bs = some m := h
    unfold cCm at h
    split at h
    · split at h
      · obtain ⟨_, _, h⟩ := bsi h
        obtain ⟨_, _, rfl⟩ := msi h; rfl
      · cases h
    · split at h
      · obtain ⟨_, _, h⟩ := bsi h
        obtain ⟨_, _, h⟩ := bsi h
        obtain ⟨_, _, rfl⟩ := msi h; rfl
      · cases h
    · cases h
  case BoolOp op vs pos =>
    cases op
    case And =>
      replace h : (if 2 ≤ vs.length then cAnd (cE c n top N sc) vs else none) = some m := h
      split at h
      · rename_i h2; obtain ⟨_, _, rfl⟩ := cand_form h2 h; rfl
      · cases h
    case Or =>
      replace h : (if 2 ≤ vs.length then cOr (cE c n top N sc) vs else none) = some m := h
      split at h
      · rename_i h2; obtain ⟨_, _, rfl⟩ := cor_form h2 h; rfl
      · cases h
  case IfExp t a b pos =>
    replace h : (if okT t then (cE c n top N sc t).bind fun k => (cE c n top N sc a).bind fun m => (cE c n top N sc b).map fun l => E.ite k m l else none) = some m := h
    split at h
    · obtain ⟨_, _, h⟩ := bsi h
      obtain ⟨_, _, h⟩ := bsi h
      obtain ⟨_, _, rfl⟩ := msi h; rfl
    · cases h
  case Call fn args ks pos =>
    cases ks with
    | cons kw kr =>
      replace h : (none : Option E) = some m := h
      cases h
    | nil =>
    replace h : ((nmOf fn).bind fun x => cCn c N sc (cE c n top N sc) x args) = some m := h
    obtain ⟨x, h0, h⟩ := bsi h
    unfold cCn at h
    split at h
    · split at h
      · split at h
        · cases h
        · obtain ⟨_, _, rfl⟩ := msi h; rfl
      · show (!isVr m) = true
        rw [(cB_head h).1]; rfl
    · cases h
  case Subscript a b pos =>
    replace h : ((cE c n top N sc a).bind fun m => cSu (cE c n top N sc) m b) = some m := h
    replace h := bsi h
    obtain ⟨ma, h1, h⟩ := h
    unfold cSu at h
    split at h
    · rename_i lo hi st p2
      cases st with
      | some st =>
        replace h : (none : Option E) = some m := h
        cases h
      | none =>
        obtain ⟨_, _, h⟩ := bsi h
        obtain ⟨_, _, rfl⟩ := msi h; rfl
    · split at h
      · obtain ⟨_, _, rfl⟩ := msi h; rfl
      · cases h
  case List es pos =>
    replace h : (if es.all okE then (cList (cE c n top N sc) es).map .lst else none) = some m := h
    split at h
    · obtain ⟨_, _, rfl⟩ := msi h; rfl
    · cases h
  case Tuple es k pos =>
    replace h : (if es.all okE then (cList (cE c n top N sc) es).map .tup else none) = some m := h
    split at h
    · obtain ⟨_, _, rfl⟩ := msi h; rfl
    · cases h
  case ListComp elt gs scope pos =>
    replace h : (if top then cLc c N sc (cE c n top N sc) (fun N' e => cE c n false N' scope e) elt scope gs else none) = some m := h
    split at h
    · unfold cLc at h
      split at h
      · split at h
        · obtain ⟨is, h1, h⟩ := bsi h
          split at h
          · obtain ⟨mi, h2, h⟩ := bsi h
            obtain ⟨me, h3, h⟩ := bsi h
            obtain ⟨mc, h4, rfl⟩ := msi h; rfl
          · cases h
        · cases h
      · cases h
    · cases h
  all_goals cases h
theorem no_fresh {m : E} {a : Bool} {P : Prop} (hh : (a && !fresh m) = true) (hf : fresh m = true) : P := by
  rw [hf] at hh
  cases a <;> cases hh
theorem cF_ok (hΓ : ∀ x f, c.tab.lookup x = some f → ∃ g, Γ f = some g) {n : Nat} {top : Bool} {N : List Str} {sc : Scope} {e : Expr} {m : E} (S : Sees X cl c Γ top N sc) (h : cE c n top N sc e = some m) (hf : fresh m = true) : PE X e (tF X.K cl Γ m) := by
  cases n with
  | zero => cases h
  | succ n =>
    have ih1 : ∀ e m, cE c n top N sc e = some m → PE X e (tV X.K cl Γ m) := fun e m h => (cE_ok hΓ n top N sc e m X S h).1
    have hh := cE_head h
    cases e
    case BinOp a op b pos =>
      replace h : ((cE c n top N sc a).bind fun m => (cE c n top N sc b).map fun l => E.bin op m l) = some m := h
      obtain ⟨ma, h1, h⟩ := bsi h
      obtain ⟨mb, h2, rfl⟩ := msi h
      exact peI (pe_op (op_binF (cl := cl) op) (ih1 a ma h1) (ih1 b mb h2)) fun σ H Q q => tF2 (fun _ => rfl) q
    case Call fn args ks pos =>
      cases ks with
      | cons kw kr =>
        replace h : (none : Option E) = some m := h
        cases h
      | nil =>
      replace h : ((nmOf fn).bind fun x => cCn c N sc (cE c n top N sc) x args) = some m := h
      replace h := bsi h
      obtain ⟨x, h0, h⟩ := h
      obtain ⟨p, rfl⟩ := nmOf_ok h0
      unfold cCn at h
      split at h
      · rename_i ok
        obtain ⟨ok, gx⟩ := bae ok
        obtain ⟨o1, g1⟩ := isGl_ok gx
        have gg := S.gl x g1
        split at h
        · split at h
          · cases h
          · obtain ⟨_, _, rfl⟩ := msi h; cases hf
        · unfold cB at h
          split at h
          · rename_i a
            rw [List.all_cons, Bool.and_eq_true] at ok
            have oa := ok.1
            split at h
            · obtain ⟨_, _, rfl⟩ := msi h; cases hf
            split at h
            · rename_i e
              have e : x = "list" := by simpa using e
              subst e
              split at h
              · rename_i y py b pb
                split at h
                · rename_i hr
                  obtain ⟨hr, ob⟩ := bae hr
                  obtain ⟨hr1, hr2⟩ := bae hr
                  obtain ⟨hr1, _⟩ := bae hr1
                  have e : y = "range" := by simpa using hr2
                  subst e
                  obtain ⟨mb, h1, rfl⟩ := msi h
                  obtain ⟨_, g2⟩ := isGl_ok hr1
                  exact pe_lrngF S.calm gg (S.blt _ (by decide +kernel)) (S.gl _ g2) (S.blt _ (by decide +kernel)) ob (ih1 b mb h1)
                · obtain ⟨ma, h1, rfl⟩ := msi h
                  exact pe_listF gg (S.blt _ (by decide +kernel)) oa (ih1 _ ma h1)
              · obtain ⟨ma, h1, rfl⟩ := msi h
                exact pe_listF gg (S.blt _ (by decide +kernel)) oa (ih1 _ ma h1)
            split at h
            · rename_i e
              have e : x = "sorted" := by simpa using e
              subst e
              split at h
              · rename_i y py b pb
                split at h
                · rename_i hr
                  obtain ⟨hr, ob⟩ := bae hr
                  obtain ⟨hr1, hr2⟩ := bae hr
                  obtain ⟨hr1, _⟩ := bae hr1
                  have e : y = "set" := by simpa using hr2
                  subst e
                  obtain ⟨mb, h1, rfl⟩ := msi h
                  obtain ⟨_, g2⟩ := isGl_ok hr1
                  exact pe_ssetF S.calm gg (S.blt _ (by decide +kernel)) (S.gl _ g2) (S.blt _ (by decide +kernel)) ob (ih1 b mb h1)
                · cases h
              · cases h
            repeat' (split at h)
            all_goals first
              | (cases h; done)
              | (obtain ⟨_, _, rfl⟩ := msi h; cases hf)
          · repeat' (split at h)
            all_goals first
              | (cases h; done)
              | (obtain ⟨_, _, rfl⟩ := msi h; cases hf; done)
              | (obtain ⟨_, _, h⟩ := bsi h
                 obtain ⟨_, _, rfl⟩ := msi h; cases hf)
          · cases h
      · cases h
    case Subscript a b pos =>
      clear hh
      replace h : ((cE c n top N sc a).bind fun m => cSu (cE c n top N sc) m b) = some m := h
      replace h := bsi h
      obtain ⟨ma, h1, h⟩ := h
      unfold cSu at h
      split at h
      · rename_i lo hi st p2
        cases st with
        | some st =>
          replace h : (none : Option E) = some m := h
          cases h
        | none =>
          replace h : ((cOpt (cE c n top N sc) lo).bind fun ml => (cOpt (cE c n top N sc) hi).map fun mh => E.cut ma ml mh) = some m := h
          obtain ⟨ml, h2, h⟩ := bsi h
          obtain ⟨mh, h3, rfl⟩ := msi h
          exact pe_cutF (ih1 a ma h1) (po_D (fun e _ m h => ih1 e m h) h2) (po_D (fun e _ m h => ih1 e m h) h3)
      · split at h
        · obtain ⟨_, _, rfl⟩ := msi h; cases hf
        · cases h
    case List es pos =>
      replace h : (if es.all okE then (cList (cE c n top N sc) es).map .lst else none) = some m := h
      split at h
      · rename_i ok
        obtain ⟨ml, h1, rfl⟩ := msi h
        exact pe_lstF (clist_ok (fun e _ m h => ih1 e m h) ok h1)
      · cases h
    case ListComp elt gs scope pos =>
      clear hh
      replace h : (if top then cLc c N sc (cE c n top N sc) (fun N' e => cE c n false N' scope e) elt scope gs else none) = some m := h
      split at h
      · rename_i tp
        subst tp
        unfold cLc at h
        split at h
        · rename_i x px iter ifs
          split at h
          · rename_i oi
            obtain ⟨is, h1, h⟩ := bsi h
            split at h
            · rename_i cs
              have cs := compOk_ok cs
              obtain ⟨mi, h2, h⟩ := bsi h
              obtain ⟨me, h3, h⟩ := bsi h
              obtain ⟨mc, h4, rfl⟩ := msi h
              have hi : PI X (.Name x px) iter (tI X.K cl Γ mi) := ci_ok S ih1 (fun z => by cases z) h2
              have he : ∀ C s H fp pins, PE (compCx X scope (x :: frees scope.names) C s H fp pins) elt (tV X.K cl Γ me) := fun C s H fp pins => (cE_ok hΓ n false _ scope elt me _ (S.comp cs C s H fp pins) h3).1
              have hfs : ∀ v, foldedSetIterable iter X.env v = pure v := by intro v; cases iter <;> first | rfl | cases oi
              have hcs : X.env.scope = sc := S.tp rfl
              cases ifs with
              | nil =>
                cases h4
                exact peI (pe_comp S.calm hi he cs hcs S.hN hfs) fun σ H Q q => comp_tF (fun σ H Q ⟨G, env, b, sg, en, e, q⟩ => by
                  have e' : some true = some b := e
                  cases e'
                  exact q H G (Ext.refl sg)) q
              | cons t r =>
                cases r with
                | nil =>
                  have h4' : (if okT t then (cE c n false (x :: frees scope.names) scope t).bind fun m => if isNil m then none else some m else none) = some mc := h4
                  split at h4'
                  · rename_i okt
                    obtain ⟨m', h5, h6⟩ := bsi h4'
                    split at h6
                    · cases h6
                    · rename_i nn
                      cases h6
                      have ht : ∀ C s H fp pins, PT (compCx X scope (x :: frees scope.names) C s H fp pins) t (tVT X.K cl Γ mc) := fun C s H fp pins => (cE_ok hΓ n false _ scope t mc _ (S.comp cs C s H fp pins) h5).2 okt
                      exact peI (pe_compIf S.calm hi ht he cs hcs S.hN hfs) fun σ H Q q => comp_tF (fun σ H Q ⟨G, env, b, sg, en, e, q⟩ => by
                        unfold cS at e
                        rw [if_neg nn] at e
                        exact ⟨G, env, b, sg, en, e, q⟩) q
                  · cases h4'
                | cons t2 r2 => cases h4
            · cases h
          · cases h
        · cases h
      · cases h
    all_goals exact no_fresh hh hf
end
section
variable {K : W.Frag} {cl : Nat → Option Addr} {G G' H H' : Hp}
theorem Dn.scal {v : V} {d : D} (h : Dn K cl G v d) (s : scal d = true) (G' : Hp) : Dn K cl G' v d := by
  cases h with
  | non => exact .non
  | bl b => exact .bl b
  | int b => exact .int b
  | str b => exact .str b
  | lst _ _ => cases s
  | tup _ _ => cases s
  | ins _ _ _ _ => cases s
  | dic _ => cases s
  | fn _ => cases s
  | exc _ _ => cases s
theorem Dns.scal : ∀ {vs : List V} {ds : List D}, Dns K cl G vs ds → ds.all MI.scal = true → (G' : Hp) → Dns K cl G' vs ds
  | _, _, .nil, _, _ => .nil
  | _, _, .cons h t, s, G' => by
    rw [List.all_cons, Bool.and_eq_true] at s
    exact .cons (h.scal s.1 G') (Dns.scal t s.2 G')
mutual
theorem OT.flat : ∀ {v : V} {t : T} {A : List Addr}, OT K cl G H v t A → flatT t = true → (∀ a ∈ A, G' a = none) → OT K cl G' H v t A
  | _, _, _, .sh h, s, _ => .sh (h.scal (by simpa [flatT] using s) _)
  | _, _, _, .ow h1 h2 h3, s, f => .ow h1 (f _ (by simp)) (OTs.flat h3 (by simpa [flatT] using s) fun a ha => f a (by simp [ha]))
  | _, _, _, .ob h1 h2 h3 h4 h5 h6 h7, s, f => .ob h1 h2 h3 h4 (f _ (by simp)) (f _ (by simp)) (OTs.flat h7 (by simpa [flatT] using s) fun a ha => f a (by simp [ha]))
theorem OTs.flat : ∀ {vs : List V} {ts : List T} {A : List Addr}, OTs K cl G H vs ts A → flatTs ts = true → (∀ a ∈ A, G' a = none) → OTs K cl G' H vs ts A
  | _, _, _, .nil, _, _ => .nil
  | _, _, _, .cons h hs, s, f => by
    rw [flatTs, Bool.and_eq_true] at s
    exact .cons (OT.flat h s.1 fun a ha => f a (by simp [ha])) (OTs.flat hs s.2 fun a ha => f a (by simp [ha]))
end
end
noncomputable def vars : E → List Nat
  | .var i => [i]
  | .bin _ a b => vars a ++ vars b
  | .un _ a => vars a
  | .not a => vars a
  | .cmp _ a b => vars a ++ vars b
  | .ch _ _ a b c => vars a ++ vars b ++ vars c
  | .ch3 _ _ _ a b c d => vars a ++ vars b ++ vars c ++ vars d
  | .and a b => vars a ++ vars b
  | .or a b => vars a ++ vars b
  | .ite c a b => vars c ++ vars a ++ vars b
  | .idx a b => vars a ++ vars b
  | .cut a b c => vars a ++ vars b ++ vars c
  | .rev a => vars a
  | .lst a => vars a
  | .tup a => vars a
  | .mn a b => vars a ++ vars b
  | .mx a b => vars a ++ vars b
  | .isi a _ => vars a
  | .comp _ is it _ => vars it ++ is
  | .rng a => vars a
  | .rng2 a b => vars a ++ vars b
  | .rngS a b => vars a ++ vars b
  | .dn a => vars a
  | .mxd a b => vars a ++ vars b
  | .ind a b => vars a ++ vars b
  | .enm a => vars a
  | .zp a b => vars a ++ vars b
  | .rvd a => vars a
  | .call _ a => vars a
  | .fld a _ => vars a
  | .meth o _ a => vars o ++ vars a
  | .isc a _ => vars a
  | .cons a b => vars a ++ vars b
  | _ => []
noncomputable def frz (pio : Option Nat) (env : TEnv) : List Nat → Option TEnv
  | [] => some env
  | i :: r => match env[i]? with
    | some (some (.ow ts)) => if pio = some i then none else frz pio (env.set i (some (.sh (strip (.ow ts))))) r
    | some (some (.ob c ks ts)) => if pio = some i then none else frz pio (env.set i (some (.sh (strip (.ob c ks ts))))) r
    | _ => frz pio env r
noncomputable def evX (Γ : Tab) (pio : Option Nat) (m : E) (env : TEnv) : Option (T × TEnv) := match m with
  | .call f args => (Γ f).bind fun g => (evs Γ args (dEnv env)).bind fun l => (g l).bind fun t => if flatT t then some (t, env) else (frz pio env (vars args)).bind fun env' => (evs Γ args (fEnv env')).bind fun l' => (g l').map fun t' => (t', env')
  | m => (ev Γ m (dEnv env)).bind fun d => if scal d then some (.sh d, env) else
      if fresh m then (listD d).bind fun ds => if ds.all scal then some (.ow (ds.map T.sh), env) else (frz pio env (vars m)).bind fun env' => ((ev Γ m (fEnv env')).bind listD).map fun ds' => (.ow (ds'.map T.sh), env')
      else (frz pio env (vars m)).bind fun env' => (ev Γ m (fEnv env')).map fun d' => (.sh d', env')
theorem evX_call (Γ : Tab) (pio : Option Nat) (f : Nat) (args : E) (env : TEnv) : evX Γ pio (.call f args) env = (Γ f).bind fun g => (evs Γ args (dEnv env)).bind fun l => (g l).bind fun t => if flatT t then some (t, env) else (frz pio env (vars args)).bind fun env' => (evs Γ args (fEnv env')).bind fun l' => (g l').map fun t' => (t', env') := rfl
theorem evX_other {Γ : Tab} {pio : Option Nat} {m : E} {env : TEnv} (h : isCall m = false) : evX Γ pio m env = (ev Γ m (dEnv env)).bind fun d => if scal d then some (.sh d, env) else
      if fresh m then (listD d).bind fun ds => if ds.all scal then some (.ow (ds.map T.sh), env) else (frz pio env (vars m)).bind fun env' => ((ev Γ m (fEnv env')).bind listD).map fun ds' => (.ow (ds'.map T.sh), env')
      else (frz pio env (vars m)).bind fun env' => (ev Γ m (fEnv env')).map fun d' => (.sh d', env') := by
  unfold evX
  split
  · cases h
  · rfl
def Pio (pio : Option Nat) (io : Option (Nat × Addr)) : Prop := ∀ p a, io = some (p, a) → pio = some p
section
variable {K : W.Frag} {cl : Nat → Option Addr} {H₀ G₀ F H H' F' : Hp} {io : Option (Nat × Addr)} {A : Nat → List Addr} {σ : St} {env env' : TEnv} {pio : Option Nat}
theorem frz_ok (hp : Pio pio io) : ∀ {l : List Nat} {F : Hp} {A : Nat → List Addr} {env env' : TEnv}, Rep K cl H₀ G₀ io F A σ env H → frz pio env l = some env' → ∃ F' A', Rep K cl H₀ G₀ io F' A' σ env' H ∧ env'.length = env.length ∧ Gro F A H F' A' H
  | [], F, A, env, env', R, h => by cases h; exact ⟨F, A, R, rfl, .refl⟩
  | i :: r, F, A, env, env', R, h => by
    have go : ∀ {t : T}, env[i]? = some (some t) → ¬ pio = some i → frz pio (env.set i (some (.sh (strip t)))) r = some env' → ∃ F' A', Rep K cl H₀ G₀ io F' A' σ env' H ∧ env'.length = env.length ∧ Gro F A H F' A' H := fun {t} e hn h => by
      obtain ⟨F1, fz, R1⟩ := R.freeze i (fun p a z q => hn (by rw [← q]; exact hp p a z)) e
      obtain ⟨F2, A2, R2, l2, g2⟩ := frz_ok hp R1 h
      refine ⟨F2, A2, R2, by rw [l2, List.length_set], Gro.trans ⟨.refl _, fz.gg, fun b o h1 h2 => ?_, fun j a ha => ?_⟩ g2⟩
      · by_cases hb : b ∈ A i
        · exact .inl ⟨i, hb⟩
        · rw [fz.on b hb, h2] at h1; cases h1
      · have ha' : a ∈ (if j = i then [] else A j) := ha
        split at ha'
        · simp at ha'
        · exact ha'
    unfold frz at h
    split at h
    · rename_i ts e
      split at h
      · cases h
      · rename_i hn
        exact go e hn h
    · rename_i c ks ts e
      split at h
      · cases h
      · rename_i hn
        exact go e hn h
    · exact frz_ok hp R h
theorem Rep.new (R : Rep K cl H₀ G₀ io F A σ env H) {p : Addr} (h : H p = none) : H₀ p = none := by
  cases e : H₀ p with
  | none => rfl
  | some o =>
    by_cases hb : ∃ q, io = some (q, p)
    · obtain ⟨q, hb⟩ := hb
      obtain ⟨_, o', h4⟩ := R.at_ (R.ioa hb); rw [h] at h4; cases h4
    · have := R.keep p o e (fun q z => hb ⟨q, z⟩); rw [h] at this; cases this
theorem Rep.ext (R : Rep K cl H₀ G₀ io F A σ env H) (x : Ext H F H' F') : Rep K cl H₀ G₀ io F' A σ env H' := R.grow x.hh x.gg x.gh x.nw
theorem Rep.same (R : Rep K cl H₀ G₀ io F A σ env H) (x : Same H H') : Rep K cl H₀ G₀ io F A σ env H' := R.grow x (.refl _) (R.fh.trans x) fun b o h1 h2 => by rw [h1] at h2; cases h2
end
noncomputable def tX (K : W.Frag) (cl : Nat → Option Addr) (Γ : Tab) (pio : Option Nat) (m : E) : TE := fun σ H Q => ∃ H₀ G₀ io F A env t env', Pio pio io ∧ env.length = σ.length ∧ Rep K cl H₀ G₀ io F A σ env H ∧ evX Γ pio m env = some (t, env') ∧
  ∀ v H' F' A' B, env'.length = σ.length → Gro F A H F' A' H' → Rep K cl H₀ G₀ io F' A' σ env' H' → OT K cl F' H' v t B → B.Nodup → (∀ a ∈ B, H a = none) → Q v H'
section
variable {X : Cx} {cl : Nat → Option Addr} {Γ : Tab} {c : CC}
theorem call_inv {n : Nat} {top : Bool} {N : List Str} {sc : Scope} {e : Expr} {f : Nat} {args : E} (hΓ : ∀ x f, c.tab.lookup x = some f → ∃ g, Γ f = some g) (S : Sees X cl c Γ top N sc) (h : cE c n top N sc e = some (.call f args)) :
    ∃ g, Γ f = some g ∧ PE X e (fun σ H Q => ∃ G env l t, Same G H ∧ EnvD X.K cl G env σ ∧ evs Γ args env = some l ∧ g l = some t ∧ ∀ v H' G' A, Ext H G H' G' → OT X.K cl G' H' v t A → A.Nodup → (∀ a ∈ A, H a = none) → Q v H') := by
  cases n with
  | zero => cases h
  | succ n =>
    have ih1 : ∀ e m, cE c n top N sc e = some m → PE X e (tV X.K cl Γ m) := fun e m h => (cE_ok hΓ n top N sc e m X S h).1
    have hh := cE_head h
    cases e
    case Call fn args' ks pos =>
      cases ks with
      | cons kw kr =>
        replace h : (none : Option E) = some (.call f args) := h
        cases h
      | nil =>
      replace h : ((nmOf fn).bind fun x => cCn c N sc (cE c n top N sc) x args') = some (.call f args) := h
      replace h := bsi h
      obtain ⟨x, h0, h⟩ := h
      obtain ⟨p, rfl⟩ := nmOf_ok h0
      unfold cCn at h
      split at h
      · rename_i ok
        obtain ⟨ok, gx⟩ := bae ok
        obtain ⟨o1, g1⟩ := isGl_ok gx
        obtain ⟨n1, n2, n3⟩ := okN_ok o1
        split at h
        · rename_i f' hf
          split at h
          · cases h
          · rename_i hne
            obtain ⟨ml, h1, h3⟩ := msi h
            cases h3
            obtain ⟨g, hg⟩ := hΓ x f hf
            cases args' with
            | nil => exact absurd rfl hne
            | cons e es => exact ⟨g, hg, pe_callT (S.gl x g1) n1 (S.fn x f g hf hg) (clist_ok (fun e _ m h => ih1 e m h) ok h1) ok⟩
        · cases (cB_head h).2
      · cases h
    all_goals cases hh
theorem evX_ok (hΓ : ∀ x f, c.tab.lookup x = some f → ∃ g, Γ f = some g) {n : Nat} {top : Bool} {N : List Str} {sc : Scope} {e : Expr} {m : E} {pio : Option Nat} (S : Sees X cl c Γ top N sc) (h : cE c n top N sc e = some m) : PE X e (tX X.K cl Γ pio m) := by
  have pv := (cE_ok hΓ n top N sc e m X S h).1
  intro pins s σ H Q I ⟨H₀, G₀, io, F, A, env, t, env', hp, hl, R, ev', q⟩
  cases hc : isCall m with
  | true =>
    cases m with
    | call f args =>
      obtain ⟨g, hg, pc⟩ := call_inv hΓ S h
      rw [evX_call, hg] at ev'
      obtain ⟨l, el, ev'⟩ := bsi (show (evs Γ args (dEnv env)).bind (fun l => (g l).bind fun t => if flatT t then some (t, env) else (frz pio env (vars args)).bind fun env' => (evs Γ args (fEnv env')).bind fun l' => (g l').map fun t' => (t', env')) = some (t, env') from ev')
      obtain ⟨t1, et, ev'⟩ := bsi ev'
      split at ev'
      · rename_i fl
        cases ev'
        refine pc pins s σ H Q I ⟨H, _, l, t, .refl _, R.see, el, et, fun v H' G' B x o nd nw => ?_⟩
        exact q v H' F A B hl (.of_same x.hh) (R.same x.hh) (o.flat fl fun a ha => R.fh.free (nw a ha)) nd nw
      · obtain ⟨env1, ef, ev'⟩ := bsi ev'
        obtain ⟨l2, el2, ev'⟩ := bsi ev'
        obtain ⟨t2, et2, ev'⟩ := msi ev'
        cases ev'
        obtain ⟨F1, A1, R1, l1, g1⟩ := frz_ok hp R ef
        exact pc pins s σ H Q I ⟨F1, _, l2, t, R1.fh, R1.seeF, el2, et2, fun v H' G' B x o nd nw => q v H' G' A1 B (l1.trans hl) (g1.trans (.of_ext x)) (R1.ext x) o nd nw⟩
    | _ => cases hc
  | false =>
    rw [evX_other hc] at ev'
    obtain ⟨d, ed, ev'⟩ := bsi ev'
    split at ev'
    · rename_i sc'
      cases ev'
      exact pv pins s σ H Q I ⟨H, _, d, .refl _, R.see, ed, fun v H' G' x dv => q v H' F A [] hl (.of_same x.hh) (R.same x.hh) (.sh (dv.scal sc' F)) List.nodup_nil (by simp)⟩
    · split at ev'
      · rename_i fr
        have pf := cF_ok hΓ S h fr
        obtain ⟨ds, e1, ev2⟩ := bsi ev'
        have hd : d = .lst ds := by cases d <;> cases e1; rfl
        subst hd
        clear ev'
        have ev' := ev2
        clear ev2
        split at ev'
        · rename_i al
          cases ev'
          refine pf pins s σ H Q I ⟨H, _, ds, .refl _, R.see, ed, fun p xs H1 G1 x hpn gpn hat dx => ?_⟩
          refine q (.ref p) H1 F A [p] hl (.of_same x.hh) (R.same x.hh) (.ow hat (R.fh.free hpn) (OTs.shs (dx.scal al F))) (by simp) (fun a ha => ?_)
          have e : a = p := by simpa using ha
          rw [e]; exact hpn
        · obtain ⟨env1, ef, ev'⟩ := bsi ev'
          obtain ⟨ds', e2, ev'⟩ := msi ev'
          cases ev'
          obtain ⟨d', e3, e4⟩ := bsi e2
          have hd : d' = .lst ds' := by cases d' <;> cases e4; rfl
          subst hd
          obtain ⟨F1, A1, R1, l1, g1⟩ := frz_ok hp R ef
          refine pf pins s σ H Q I ⟨F1, _, ds', R1.fh, R1.seeF, e3, fun p xs H1 G1 x hpn gpn hat dx => ?_⟩
          refine q (.ref p) H1 G1 A1 [p] (l1.trans hl) (g1.trans (.of_ext x)) (R1.ext x) (.ow hat gpn (OTs.shs dx)) (by simp) (fun a ha => ?_)
          have e : a = p := by simpa using ha
          rw [e]; exact hpn
      · obtain ⟨env1, ef, ev'⟩ := bsi ev'
        obtain ⟨d', e3, ev'⟩ := msi ev'
        cases ev'
        obtain ⟨F1, A1, R1, l1, g1⟩ := frz_ok hp R ef
        exact pv pins s σ H Q I ⟨F1, _, d', R1.fh, R1.seeF, e3, fun v H' G' x dv => q v H' G' A1 [] (l1.trans hl) (g1.trans (.of_ext x)) (R1.ext x) (.sh dv) List.nodup_nil (by simp)⟩
end
inductive Fl where
  | nx | bk | ct | rt (t : T)
inductive S where
  | nop | raise | brk | cnt | retN
  | seq (a b : S)
  | asg (i : Nat) (m : E)
  | asg2 (i j : Nat) (m l : E)
  | asg3 (i j k : Nat) (m l q : E)
  | retAll (f i : Nat) (it : E)
  | set (i : Nat) (k m : E)
  | app (i : Nat) (m : E)
  | appT (o m : E)
  | appAt (i : Nat) (k m : E)
  | ext (i : Nat) (m : E)
  | ins (i : Nat) (k m : E)
  | aug (i : Nat) (op : Operator) (m : E)
  | augS (i : Nat) (op : Operator) (k m : E)
  | ife (c : E) (a b : S)
  | for1 (i : Nat) (it : E) (b : S)
  | for2 (i j : Nat) (it : E) (b : S)
  | forV (i : Nat) (js : List Nat) (b : S)
  | wh (c : E) (b : S)
  | ret (m : E)
  | drop (m : E)
  | ifio (neg : Bool) (f i : Nat) (args : E) (a b : S)
  | dropio (f i : Nat) (args : E)
  | appio (j f i : Nat) (args : E)
  | fst (i : Nat) (f : Str) (m : E)
  | appF (i : Nat) (f : Str) (m : E)
  | popF (i : Nat) (f : Str)
  | appFA (i : Nat) (f : Str) (k m : E)
  | retC (m : E)
  | dic (i j a b r : Nat)
  | augF (i : Nat) (f : Str) (op : Operator) (k m : E)
  | mio (i k : Nat) (args : E)
  | appP (i : Nat) (a b : E)
noncomputable abbrev IOT := Nat → Option (Nat × (List D → Option (T × List D)))
noncomputable def unsh : List T → Option (List D)
  | [] => some []
  | .sh d :: r => (unsh r).map (d :: ·)
  | _ => none
theorem unsh_sh (ds : List D) : unsh (ds.map T.sh) = some ds := by
  induction ds with
  | nil => rfl
  | cons d r ih => show (unsh (r.map T.sh)).map (d :: ·) = _; rw [ih]; rfl
theorem unsh_eq : ∀ {ts : List T} {ds : List D}, unsh ts = some ds → ts = ds.map T.sh
  | [], ds, h => by cases h; rfl
  | .sh d :: r, ds, h => by
    obtain ⟨l, e, rfl⟩ := msi (show (unsh r).map (d :: ·) = some ds from h)
    rw [unsh_eq e]; rfl
  | .ow _ :: r, ds, h => by cases h
noncomputable def isVar (m : E) (i : Nat) : Bool := match m with
  | .var j => j == i
  | _ => false
noncomputable def evA (Γ : Tab) (i : Nat) (ds : List D) (env : Env) : Nat → E → Option (List D)
  | 0, .cons m r => if isVar m i then (evs Γ r env).map fun l => .lst ds :: l else none
  | k + 1, .cons m r => (ev Γ m env).bind fun x => (evA Γ i ds env k r).map fun l => x :: l
  | _, _ => none
noncomputable def evIO (Γ : Tab) (Δ : IOT) (f i : Nat) (args : E) (env : TEnv) : Option (T × TEnv) := (Δ f).bind fun kg => match env[i]? with
  | some (some (.ow ts)) => (unsh ts).bind fun ds => if ds.all scal then (evA Γ i ds (dEnv (env.set i none)) kg.1 args).bind fun l => (kg.2 l).bind fun r => if flatT r.1 && r.2.all scal then some (r.1, env.set i (some (.ow (r.2.map T.sh)))) else none else none
  | _ => none
noncomputable def itX (Γ : Tab) (pio : Option Nat) (m : E) (env : TEnv) : Option (List D × TEnv) := if isRng m then (its Γ m (dEnv env)).map fun l => (l, env) else (frz pio env (vars m)).bind fun env' => (its Γ m (fEnv env')).map fun l => (l, env')
noncomputable def forL (step : D → TEnv → Option (Fl × TEnv)) : List D → TEnv → Option (Fl × TEnv)
  | [], env => some (.nx, env)
  | d :: r, env => (step d env).bind fun q => match q.1 with
    | .nx => forL step r q.2
    | .ct => forL step r q.2
    | .bk => some (.nx, q.2)
    | .rt t => some (.rt t, q.2)
noncomputable def whileL (test : TEnv → Option Bool) (step : TEnv → Option (Fl × TEnv)) : Nat → TEnv → Option (Fl × TEnv)
  | 0, _ => none
  | n + 1, env => (test env).bind fun b => if b then (step env).bind fun q => match q.1 with
      | .nx => whileL test step n q.2
      | .ct => whileL test step n q.2
      | .bk => some (.nx, q.2)
      | .rt t => some (.rt t, q.2)
    else some (.nx, env)
noncomputable def forVL (step : TEnv → Option (Fl × TEnv)) (i : Nat) : List Nat → TEnv → Option (Fl × TEnv)
  | [], env => some (.nx, env)
  | j :: r, env => match env[j]? with
    | some (some t) => (step ((env.set j none).set i (some t))).bind fun q => match q.2[i]? with
      | some (some t') => match q.1 with
        | .nx => forVL step i r ((q.2.set i none).set j (some t'))
        | .rt t => some (.rt t, q.2)
        | _ => none
      | _ => none
    | _ => none
noncomputable def augD (op : Operator) : D → D → Option D
  | .int a, .int b => match op with
    | .Add => some (.int (a + b))
    | .Sub => some (.int (a - b))
    | _ => none
  | _, _ => none
noncomputable def owAt (env : TEnv) (i : Nat) : Option (List T) := match env[i]? with
  | some (some (.ow ts)) => some ts
  | _ => none
noncomputable def intD : D → Option Int
  | .int i => some i
  | _ => none
noncomputable def okI (pio : Option Nat) (env : TEnv) (i : Nat) : Bool := decide (pio ≠ some i ∧ i < env.length)
noncomputable def asgs : S → List Nat
  | .seq a b => asgs a ++ asgs b
  | .asg i _ => [i]
  | .asg2 i j _ _ => [i, j]
  | .asg3 i j k _ _ _ => [i, j, k]
  | .aug i _ _ => [i]
  | .dic i j a b _ => [i, j, a, b]
  | .ife _ a b => asgs a ++ asgs b
  | .for1 i _ b => i :: asgs b
  | .for2 i j _ b => i :: j :: asgs b
  | .forV i _ b => i :: asgs b
  | .wh _ b => asgs b
  | .ifio _ _ _ _ a b => asgs a ++ asgs b
  | _ => []
noncomputable def childs : T → Option (List T)
  | .ow us => some us
  | .sh (.lst ds) => some (ds.map T.sh)
  | _ => none
noncomputable def isOw : T → Option (List T)
  | .ow us => some us
  | _ => none
noncomputable def obAt (env : TEnv) (i : Nat) : Option (Nat × List Str × List T) := match env[i]? with
  | some (some (.ob c ks ts)) => some (c, ks, ts)
  | _ => none
noncomputable def fldAt (f : Str) (o : Nat × List Str × List T) : Option (Nat × List T) := (nIdx o.2.1 f).bind fun j => (o.2.2[j]?).bind fun t => (isOw t).map fun us => (j, us)
noncomputable def cpyT : D → T
  | .lst l => .ow (l.map T.sh)
  | d => .sh d
noncomputable def allL (g : List D → Option (T × List D)) : List D → List D → Option Bool
  | [], _ => some true
  | d :: r, ms => (g [d, .lst ms]).bind fun p => match p.1 with
    | .sh (.bl b) => if p.2.all scal then (allL g r p.2).map (b && ·) else none
    | _ => none
noncomputable def mkD (ns : List Int) : List (Int × Int) := ns.zipIdx.map fun p => (p.1, (p.2 : Int))
noncomputable def cntO (o : Nat × List Str × List T) : Option (List D) := if o.2.1 = [("counts" : Str)] then (fldAt "counts" o).bind fun ju => (unsh ju.2).bind fun ds => if ds.all scal then some ds else none else none
noncomputable def nonT : T → Bool
  | .sh .non => true
  | _ => false
noncomputable def noIns : D → Bool
  | .ins _ _ _ => false
  | .dic _ => false
  | .fn _ => false
  | .exc _ => false
  | _ => true
noncomputable def ex (Γ : Tab) (Δ : IOT) (pio : Option Nat) (n : Nat) : S → TEnv → Option (Fl × TEnv)
  | .nop, env => some (.nx, env)
  | .raise, _ => none
  | .brk, env => some (.bk, env)
  | .cnt, env => some (.ct, env)
  | .retN, env => some (.rt (.sh .non), env)
  | .seq a b, env => (ex Γ Δ pio n a env).bind fun r => match r.1 with
    | .nx => ex Γ Δ pio n b r.2
    | _ => some r
  | .asg i m, env => if okI pio env i then (evX Γ pio m env).map fun r => (.nx, r.2.set i (some r.1)) else none
  | .asg2 i j m l, env => if okI pio env i && okI pio env j && decide (i ≠ j) then (evX Γ pio m env).bind fun r => (evX Γ pio l r.2).map fun q => (.nx, (q.2.set i (some r.1)).set j (some q.1)) else none
  | .asg3 i j k m l q, env => if okI pio env i && okI pio env j && okI pio env k && decide (i ≠ j ∧ i ≠ k ∧ j ≠ k) then (evX Γ pio m env).bind fun r => (evX Γ pio l r.2).bind fun p => (evX Γ pio q p.2).map fun o => (.nx, ((o.2.set i (some r.1)).set j (some p.1)).set k (some o.1)) else none
  | .retAll f i it, env => (Δ f).bind fun kg => if kg.1 = 1 ∧ pio ≠ some i then (itX Γ pio it env).bind fun r => (owAt r.2 i).bind fun ts => (unsh ts).bind fun ms => if ms.all scal && sz r.1.length then (allL kg.2 r.1 ms).map fun b => (.rt (.sh (.bl b)), r.2.set i none) else none else none
  | .set i k m, env => (ev Γ m (dEnv env)).bind fun d => if scal d then ((ev Γ k (dEnv env)).bind intD).bind fun z => (owAt env i).bind fun ts => (ixN ts.length z).map fun j => (.nx, env.set i (some (.ow (ts.set j (.sh d))))) else none
  | .app i m, env => (evX Γ pio m env).bind fun r => (owAt r.2 i).bind fun ts => if sz ts.length then some (.nx, r.2.set i (some (.ow (ts ++ [r.1])))) else none
  | .appT o m, env => (evX Γ pio o env).bind fun r => (isOw r.1).bind fun us => (ev Γ m (dEnv r.2)).bind fun d => if scal d && sz us.length then some (.nx, r.2) else none
  | .appAt i k m, env => ((ev Γ k (dEnv env)).bind intD).bind fun z => (owAt env i).bind fun ts => (ixN ts.length z).bind fun j => (ts[j]?).bind fun t => (isOw t).bind fun us => (ev Γ m (dEnv env)).bind fun d => if scal d && sz us.length then some (.nx, env.set i (some (.ow (ts.set j (.ow (us ++ [.sh d])))))) else none
  | .ext i m, env => (evX Γ pio m env).bind fun r => (childs r.1).bind fun us => (owAt r.2 i).bind fun ts => if sz (ts.length + us.length) then some (.nx, r.2.set i (some (.ow (ts ++ us)))) else none
  | .ins i k m, env => ((ev Γ k (dEnv env)).bind intD).bind fun z => (ev Γ m (dEnv env)).bind fun d => (owAt env i).bind fun ts => if scal d && decide (0 ≤ z ∧ z ≤ ts.length) && sz ts.length then some (.nx, env.set i (some (.ow (ts.take z.toNat ++ .sh d :: ts.drop z.toNat)))) else none
  | .aug i op m, env => if okI pio env i then (((dEnv env)[i]?).join).bind fun a => (ev Γ m (dEnv env)).bind fun b => (augD op a b).map fun d => (.nx, env.set i (some (.sh d))) else none
  | .augS i op k m, env => ((ev Γ k (dEnv env)).bind intD).bind fun z => (owAt env i).bind fun ts => (ixN ts.length z).bind fun j => (ts[j]?).bind fun t => (ev Γ m (dEnv env)).bind fun b => (augD op (strip t) b).map fun d => (.nx, env.set i (some (.ow (ts.set j (.sh d)))))
  | .ife c a b, env => (evB Γ c (dEnv env)).bind fun t => if t then ex Γ Δ pio n a env else ex Γ Δ pio n b env
  | .for1 i it b, env => if okI pio env i then (itX Γ pio it env).bind fun r => forL (fun d e => ex Γ Δ pio n b (e.set i (some (.sh d)))) r.1 r.2 else none
  | .for2 i j it b, env => if okI pio env i && okI pio env j && decide (i ≠ j) then (itX Γ pio it env).bind fun r => forL (fun d e => match d with
      | .tup [x, y] => ex Γ Δ pio n b ((e.set i (some (.sh x))).set j (some (.sh y)))
      | _ => none) r.1 r.2 else none
  | .forV i js b, env => if okI pio env i && js.all (fun j => okI pio env j && decide (j ≠ i)) && (js.all fun j => !(asgs b).contains j) && !(asgs b).contains i && sz js.length && (js.all fun j => ((env[j]?).join).isSome) then forVL (ex Γ Δ pio n b) i js env else none
  | .wh c b, env => whileL (fun e => evB Γ c (dEnv e)) (ex Γ Δ pio n b) n env
  | .ret m, env => match m with
    | .var i => if pio = some i then none else (env[i]?).join.map fun t => (.rt t, env.set i none)
    | _ => (evX Γ pio m env).map fun r => (.rt r.1, r.2)
  | .drop m, env => (evX Γ pio m env).map fun r => (.nx, r.2)
  | .ifio neg f i args a b, env => (evIO Γ Δ f i args env).bind fun r => match r.1 with
    | .sh (.bl t) => if (t != neg) then ex Γ Δ pio n a r.2 else ex Γ Δ pio n b r.2
    | _ => none
  | .dropio f i args, env => (evIO Γ Δ f i args env).map fun r => (.nx, r.2)
  | .fst i f m, env => (evX Γ pio m env).bind fun r => (obAt r.2 i).bind fun o => if !o.2.1.contains f && decide (o.2.1.length < 1000) then some (.nx, r.2.set i (some (.ob o.1 (o.2.1 ++ [f]) (o.2.2 ++ [r.1])))) else none
  | .appF i f m, env => (evX Γ pio m env).bind fun r => (obAt r.2 i).bind fun o => (fldAt f o).bind fun ju => if sz ju.2.length then some (.nx, r.2.set i (some (.ob o.1 o.2.1 (o.2.2.set ju.1 (.ow (ju.2 ++ [r.1])))))) else none
  | .popF i f, env => (obAt env i).bind fun o => (fldAt f o).bind fun ju => if ju.2.isEmpty then none else some (.nx, env.set i (some (.ob o.1 o.2.1 (o.2.2.set ju.1 (.ow ju.2.dropLast)))))
  | .appFA i f k m, env => (obAt env i).bind fun o => (fldAt f o).bind fun ju => ((ev Γ k (dEnv env)).bind intD).bind fun z => (ixN ju.2.length z).bind fun l => (ju.2[l]?).bind fun t => (isOw t).bind fun us => (ev Γ m (dEnv env)).bind fun d => if scal d && sz us.length then some (.nx, env.set i (some (.ob o.1 o.2.1 (o.2.2.set ju.1 (.ow (ju.2.set l (.ow (us ++ [.sh d])))))))) else none
  | .retC m, env => (its Γ m (fEnv env)).bind fun ds => if sz ds.length && ds.all noIns then some (.rt (.ow (ds.map cpyT)), env) else none
  | .dic i j a b r, env => if okI pio env i && okI pio env j && okI pio env a && okI pio env b && decide ([i, j, a, b, r].Nodup) then (((dEnv env)[r]?).join.bind listD).bind fun ds => (intsD ds).bind fun ns => if decide ns.Nodup && sz ns.length then some (.nx, (((env.set a none).set b none).set i (some (.sh (.dic (mkD ns))))).set j (some (.ow []))) else none else none
  | .appP i a b, env => (ev Γ a (dEnv env)).bind fun x => (ev Γ b (dEnv env)).bind fun y => if scal x && scal y then (owAt env i).bind fun ts => if sz ts.length then some (.nx, env.set i (some (.ow (ts ++ [.sh (.tup [x, y])])))) else none else none
  | .augF i f op k m, env => (obAt env i).bind fun o => (fldAt f o).bind fun ju => ((ev Γ k (dEnv env)).bind intD).bind fun z => (ixN ju.2.length z).bind fun l => (ju.2[l]?).bind fun t => (ev Γ m (dEnv env)).bind fun b => (augD op (strip t) b).map fun d => (.nx, env.set i (some (.ob o.1 o.2.1 (o.2.2.set ju.1 (.ow (ju.2.set l (.sh d)))))))
  | .mio i k args, env => (obAt env i).bind fun o => (cntO o).bind fun ds => (evs Γ args (dEnv env)).bind fun l => if l.all scal then (Δ (mid o.1 k)).bind fun kg => if kg.1 = 0 then (kg.2 (.lst ds :: l)).bind fun r => if nonT r.1 && r.2.all scal then some (.nx, env.set i (some (.ob o.1 o.2.1 [.ow (r.2.map T.sh)]))) else none else none else none
  | .appio j f i args, env => if j = i then none else (evIO Γ Δ f i args env).bind fun r => (owAt r.2 j).bind fun ts => if sz ts.length then some (.nx, r.2.set j (some (.ow (ts ++ [r.1])))) else none
section
variable {K : W.Frag} {cl : Nat → Option Addr} {H₀ G₀ F H H' F' : Hp} {io : Option (Nat × Addr)} {A : Nat → List Addr} {σ : St} {env env' : TEnv} {pio : Option Nat}
theorem owAt_eq {i : Nat} {ts : List T} (h : owAt env i = some ts) : env[i]? = some (some (.ow ts)) := by
  unfold owAt at h
  split at h
  · rename_i e; cases h; exact e
  · cases h
theorem Rep.own (R : Rep K cl H₀ G₀ io F A σ env H) {i : Nat} {ts : List T} (h : owAt env i = some ts) : ∃ p xs B, env[i]? = some (some (.ow ts)) ∧ σ[i]? = some (some (.ref p)) ∧ A i = p :: B ∧ H p = some (.lst xs) ∧ F p = none ∧ OTs K cl F H xs ts B := by
  have e := owAt_eq h
  obtain ⟨v, h1, ot⟩ := R.slot i _ e
  generalize hA : A i = B at ot
  cases ot with
  | ow a1 a2 a3 => exact ⟨_, _, _, e, h1, rfl, a1, a2, a3⟩
theorem OTs.snoc : ∀ {xs : List V} {ts : List T} {B C : List Addr} {v : V} {t : T}, OTs K cl F H xs ts B → OT K cl F H v t C → OTs K cl F H (xs ++ [v]) (ts ++ [t]) (B ++ C)
  | _, _, _, C, _, _, .nil, o => by simpa using OTs.cons o .nil
  | _, _, _, C, _, _, .cons (A := A1) (B := B1) a t, o => by rw [List.append_assoc]; exact .cons a (OTs.snoc t o)
theorem OTs.app : ∀ {xs ys : List V} {ts us : List T} {B C : List Addr}, OTs K cl F H xs ts B → OTs K cl F H ys us C → OTs K cl F H (xs ++ ys) (ts ++ us) (B ++ C)
  | _, _, _, _, _, _, .nil, o => o
  | _, _, _, _, _, _, .cons a t, o => by rw [List.append_assoc]; exact .cons a (OTs.app t o)
theorem OTs.put {v : V} {t' : T} {C : List Addr} (o : OT K cl F H v t' C) : ∀ {xs : List V} {ts : List T} {B : List Addr} (j : Nat), OTs K cl F H xs ts B → B.Nodup → C.Nodup → (∀ a ∈ C, a ∈ B → False) → ∃ B', OTs K cl F H (xs.set j v) (ts.set j t') B' ∧ B'.Nodup ∧ ∀ a ∈ B', a ∈ B ∨ a ∈ C
  | _, _, _, _, .nil, nd, nc, _ => ⟨[], .nil, List.nodup_nil, by simp⟩
  | _, _, _, 0, .cons (A := A1) (B := B1) a t, nd, nc, dj => by
    obtain ⟨n1, n2, n3⟩ := List.nodup_append.mp nd
    refine ⟨C ++ B1, .cons o t, List.nodup_append.mpr ⟨nc, n2, fun x hx y hy e => dj x hx (by rw [e]; simp [hy])⟩, fun x hx => ?_⟩
    rcases List.mem_append.mp hx with z | z
    · exact .inr z
    · exact .inl (by simp [z])
  | _, _, _, j + 1, .cons (A := A1) (B := B1) a t, nd, nc, dj => by
    obtain ⟨n1, n2, n3⟩ := List.nodup_append.mp nd
    obtain ⟨B', h1, h2, h3⟩ := OTs.put o j t n2 nc fun x hx hb => dj x hx (by simp [hb])
    refine ⟨A1 ++ B', .cons a h1, List.nodup_append.mpr ⟨n1, h2, fun x hx y hy e => ?_⟩, fun x hx => ?_⟩
    · subst e
      rcases h3 x hy with z | z
      · exact n3 x hx x z rfl
      · exact dj x z (by simp [hx])
    · rcases List.mem_append.mp hx with z | z
      · exact .inl (by simp [z])
      · rcases h3 x z with z | z
        · exact .inl (by simp [z])
        · exact .inr z
theorem OTs.poke {p : Addr} {o : HO} {xs : List V} {ts : List T} {B : List Addr} (h : OTs K cl F H xs ts B) (hp : p ∉ B) : OTs K cl F (upd H p o) xs ts B :=
  h.move (.refl _) (fun a ha => (h.free a ha).1) fun a ha u q => by rw [upd_ne (fun e => hp (by rw [← e]; exact ha))]; exact q
end
def Po (K : W.Frag) (cl : Nat → Option Addr) (H₀ G₀ : Hp) (io : Option (Nat × Addr)) (D : Ends) (fl : Fl) (F₀ : Hp) (σ₀ : St) (as : List Nat) (env' : TEnv) : Prop :=
  ∀ σ' H' F' A', env'.length = σ'.length → σ'.length = σ₀.length → (∀ (k : Nat), k ∉ as → σ'[k]? = σ₀[k]?) → Same F₀ F' → Rep K cl H₀ G₀ io F' A' σ' env' H' → match fl with
    | .nx => D.nx σ' H'
    | .bk => D.bk σ' H'
    | .ct => D.ct σ' H'
    | .rt t => ∀ v B, OT K cl F' H' v t B → B.Nodup → (∀ j a, a ∈ A' j → a ∈ B → False) → (∀ a ∈ B, H₀ a = none) → D.rt v H'
noncomputable def tS (K : W.Frag) (cl : Nat → Option Addr) (Γ : Tab) (Δ : IOT) (pio : Option Nat) (s : S) : TS := fun D σ H => ∃ H₀ G₀ io F A env n fl env', Pio pio io ∧ env.length = σ.length ∧ Rep K cl H₀ G₀ io F A σ env H ∧ ex Γ Δ pio n s env = some (fl, env') ∧ Po K cl H₀ G₀ io D fl F σ (asgs s) env'
section
variable {K : W.Frag} {cl : Nat → Option Addr} {Γ : Tab} {Δ : IOT} {pio : Option Nat} {D : Ends} {σ : St} {H : Hp}
theorem s_nop (h : tS K cl Γ Δ pio .nop D σ H) : tNext D σ H := by
  obtain ⟨H₀, G₀, io, F, A, env, n, fl, env', hp, hl, R, e, po⟩ := h
  cases e
  exact po σ H F A hl rfl (fun _ _ => rfl) (.refl _) R
theorem s_raise (h : tS K cl Γ Δ pio .raise D σ H) : tNever D σ H := by
  obtain ⟨H₀, G₀, io, F, A, env, n, fl, env', hp, hl, R, e, po⟩ := h
  cases e
theorem s_seq {a b : S} (h : tS K cl Γ Δ pio (.seq a b) D σ H) : tSeq (tS K cl Γ Δ pio a) (tS K cl Γ Δ pio b) D σ H := by
  obtain ⟨H₀, G₀, io, F, A, env, n, fl, env', hp, hl, R, e, po⟩ := h
  obtain ⟨⟨fa, ea⟩, h1, h2⟩ := bsi (show (ex Γ Δ pio n a env).bind (fun r => match r.1 with | .nx => ex Γ Δ pio n b r.2 | _ => some r) = some (fl, env') from e)
  refine ⟨H₀, G₀, io, F, A, env, n, fa, ea, hp, hl, R, h1, fun σ' H' F' A' l1 l2 st sf R' => ?_⟩
  have st' : ∀ (k : Nat), k ∉ asgs (.seq a b) → σ'[k]? = σ[k]? := fun k hk => st k fun z => hk (by simp [asgs, z])
  cases fa with
  | nx =>
    refine ⟨H₀, G₀, io, F', A', ea, n, fl, env', hp, l1, R', h2, fun σ2 H2 F2 A2 l3 l4 st2 sf2 R2 => ?_⟩
    exact po σ2 H2 F2 A2 l3 (l4.trans l2) (fun k hk => (st2 k fun z => hk (by simp [asgs, z])).trans (st' k hk)) (sf.trans sf2) R2
  | bk => cases h2; exact po σ' H' F' A' l1 l2 st' sf R'
  | ct => cases h2; exact po σ' H' F' A' l1 l2 st' sf R'
  | rt t => cases h2; exact po σ' H' F' A' l1 l2 st' sf R'
theorem okI_ok {env : TEnv} {i : Nat} (h : okI pio env i = true) : pio ≠ some i ∧ i < env.length := odt h
theorem Pio.ne {io : Option (Nat × Addr)} (hp : Pio pio io) {i : Nat} (h : pio ≠ some i) : ∀ p a, io = some (p, a) → p ≠ i := fun p a e z => h (by rw [← z]; exact hp p a e)
theorem Rep.storeX {H₀ G₀ F F' H' : Hp} {io : Option (Nat × Addr)} {A A' : Nat → List Addr} {env env' : TEnv} {i : Nat} {v : V} {t : T} {B : List Addr} (R : Rep K cl H₀ G₀ io F A σ env H) (g : Gro F A H F' A' H') (R' : Rep K cl H₀ G₀ io F' A' σ env' H') (hp : Pio pio io) (hi : pio ≠ some i) (hl : i < env'.length) (hs : env'.length = σ.length)
    (ot : OT K cl F' H' v t B) (nd : B.Nodup) (nw : ∀ a ∈ B, H a = none) : Rep K cl H₀ G₀ io F' (fun j => if j = i then B else A' j) (σ.set i (some v)) (env'.set i (some t)) H' :=
  R'.store (hp.ne hi) hl hs ot nd (fun j a _ h1 h2 => by
    obtain ⟨_, o, h3⟩ := R.at_ (g.aa j a h1)
    rw [nw a h2] at h3; cases h3) fun a ha => R.new (nw a ha)
theorem set_ne {σ : St} {i k : Nat} {o : Option V} (h : k ∉ [i]) : (σ.set i o)[k]? = σ[k]? := List.getElem?_set_ne (fun e => h (by simp [e]))
theorem s_asg {i : Nat} {m : E} (h : tS K cl Γ Δ pio (.asg i m) D σ H) : tAsg (tX K cl Γ pio m) (gName i) D σ H := by
  obtain ⟨H₀, G₀, io, F, A, env, n, fl, env', hp, hl, R, e, po⟩ := h
  have e' : (if okI pio env i then (evX Γ pio m env).map fun r => (Fl.nx, r.2.set i (some r.1)) else none) = some (fl, env') := e
  split at e'
  · rename_i ok
    obtain ⟨o1, o2⟩ := okI_ok ok
    obtain ⟨⟨t, env1⟩, h1, h2⟩ := msi e'
    cases h2
    refine ⟨H₀, G₀, io, F, A, env, t, env1, hp, hl, R, h1, fun v H' F' A' B l1 g R' ot nd nw => ?_⟩
    exact po _ H' F' _ (by simp [l1]) (by simp) (fun k hk => set_ne hk) g.ff (R.storeX g R' hp o1 (by have l1' : env1.length = σ.length := l1; show i < env1.length; omega) l1 ot nd nw)
  · cases e'
theorem s_ret {m : E} (hv : ∀ i, m ≠ .var i) (h : tS K cl Γ Δ pio (.ret m) D σ H) : tRet (tX K cl Γ pio m) D σ H := by
  obtain ⟨H₀, G₀, io, F, A, env, n, fl, env', hp, hl, R, e, po⟩ := h
  have e' : (evX Γ pio m env).map (fun r => (Fl.rt r.1, r.2)) = some (fl, env') := by
    rw [← e]
    cases m with
    | var i => exact absurd rfl (hv i)
    | _ => rfl
  obtain ⟨⟨t, env1⟩, h1, h2⟩ := msi e'
  cases h2
  refine ⟨H₀, G₀, io, F, A, env, t, env1, hp, hl, R, h1, fun v H' F' A' B l1 g R' ot nd nw => ?_⟩
  exact po σ H' F' A' l1 rfl (fun _ _ => rfl) g.ff R' v B ot nd (fun j a h1 h2 => by
    obtain ⟨_, o, h3⟩ := R.at_ (g.aa j a h1)
    rw [nw a h2] at h3; cases h3) fun a ha => R.new (nw a ha)
theorem s_retV {i : Nat} (h : tS K cl Γ Δ pio (.ret (.var i)) D σ H) : tRet (tVar i) D σ H := by
  obtain ⟨H₀, G₀, io, F, A, env, n, fl, env', hp, hl, R, e, po⟩ := h
  have e' : (if pio = some i then none else (env[i]?).join.map fun t => (Fl.rt t, env.set i none)) = some (fl, env') := e
  split at e'
  · cases e'
  · rename_i hi
    obtain ⟨t, h1, h2⟩ := msi e'
    cases h2
    have h3 : env[i]? = some (some t) := by
      cases z : env[i]? with
      | none => rw [z] at h1; cases h1
      | some o => rw [z] at h1; rw [show o = some t from h1]
    obtain ⟨v, h4, ot⟩ := R.slot i t h3
    refine ⟨v, h4, po σ H F _ (by simp [hl]) rfl (fun _ _ => rfl) (.refl _) (R.drop i (hp.ne hi)) v (A i) ot (R.nd i) (fun j a h1 h2 => ?_) fun a ha => ?_⟩
    · have h1' : a ∈ (if j = i then [] else A j) := h1
      split at h1'
      · simp at h1'
      · rename_i hj; exact R.dj j i a hj h1' h2
    · rcases R.anew i a ha with ⟨p, z⟩ | z
      · exact absurd rfl (fun (_ : p = p) => R.dj p i a (hp.ne hi p a z) (R.ioa z) ha)
      · exact z
theorem s_drop {m : E} (h : tS K cl Γ Δ pio (.drop m) D σ H) : tDrop (tX K cl Γ pio m) D σ H := by
  obtain ⟨H₀, G₀, io, F, A, env, n, fl, env', hp, hl, R, e, po⟩ := h
  obtain ⟨⟨t, env1⟩, h1, h2⟩ := msi (show (evX Γ pio m env).map (fun r => (Fl.nx, r.2)) = some (fl, env') from e)
  cases h2
  exact ⟨H₀, G₀, io, F, A, env, t, env1, hp, hl, R, h1, fun v H' F' A' B l1 g R' ot nd nw => po σ H' F' A' l1 rfl (fun _ _ => rfl) g.ff R'⟩
theorem s_ife {c : E} {a b : S} (h : tS K cl Γ Δ pio (.ife c a b) D σ H) : tIfS (tVT K cl Γ c) (tS K cl Γ Δ pio a) (tS K cl Γ Δ pio b) D σ H := by
  obtain ⟨H₀, G₀, io, F, A, env, n, fl, env', hp, hl, R, e, po⟩ := h
  obtain ⟨t, h1, h2⟩ := bsi (show (evB Γ c (dEnv env)).bind (fun t => if t then ex Γ Δ pio n a env else ex Γ Δ pio n b env) = some (fl, env') from e)
  refine ⟨H, _, t, .refl _, R.see, h1, fun H' G' x => ?_⟩
  cases t with
  | true => exact iteT ⟨H₀, G₀, io, F, A, env, n, fl, env', hp, hl, R.same x.hh, h2, fun σ' H' F' A' l1 l2 st sf R' => po σ' H' F' A' l1 l2 (fun k hk => st k fun z => hk (by simp [asgs, z])) sf R'⟩
  | false => exact iteF ⟨H₀, G₀, io, F, A, env, n, fl, env', hp, hl, R.same x.hh, h2, fun σ' H' F' A' l1 l2 st sf R' => po σ' H' F' A' l1 l2 (fun k hk => st k fun z => hk (by simp [asgs, z])) sf R'⟩
theorem s_wh {c : E} {b : S} (h : tS K cl Γ Δ pio (.wh c b) D σ H) : tWhile (tVT K cl Γ c) (tS K cl Γ Δ pio b) D σ H := by
  obtain ⟨H₀, G₀, io, F, A, env, n, fl, env', hp, hl, R, e, po⟩ := h
  have e' : whileL (fun e => evB Γ c (dEnv e)) (ex Γ Δ pio n b) n env = some (fl, env') := e
  refine ⟨fun m σ' H' => ∃ F2 A e1, Same F F2 ∧ e1.length = σ'.length ∧ σ'.length = σ.length ∧ (∀ (k : Nat), k ∉ asgs b → σ'[k]? = σ[k]?) ∧ Rep K cl H₀ G₀ io F2 A σ' e1 H' ∧ whileL (fun e => evB Γ c (dEnv e)) (ex Γ Δ pio n b) m e1 = some (fl, env'), ⟨n, F, A, env, .refl _, hl, rfl, fun _ _ => rfl, R, e'⟩, ?_⟩
  rintro m σ1 H1 ⟨F1, A1, e1, sf1, l1, l2, st1, R1, w1⟩
  cases m with
  | zero => cases w1
  | succ m =>
    obtain ⟨t, h1, h2⟩ := bsi (show (evB Γ c (dEnv e1)).bind (fun b' => if b' then (ex Γ Δ pio n b e1).bind fun q => match q.1 with
      | .nx => whileL (fun e => evB Γ c (dEnv e)) (ex Γ Δ pio n b) m q.2
      | .ct => whileL (fun e => evB Γ c (dEnv e)) (ex Γ Δ pio n b) m q.2
      | .bk => some (.nx, q.2)
      | .rt t => some (.rt t, q.2)
    else some (.nx, e1)) = some (fl, env') from w1)
    refine ⟨H1, _, t, .refl _, R1.see, h1, fun H2 G2 x => ?_⟩
    cases t with
    | false =>
      cases h2
      exact iteF (po σ1 H2 F1 A1 l1 l2 st1 sf1 (R1.same x.hh))
    | true =>
      obtain ⟨⟨fb, eb⟩, h3, h4⟩ := bsi (show (ex Γ Δ pio n b e1).bind (fun q => match q.1 with
        | .nx => whileL (fun e => evB Γ c (dEnv e)) (ex Γ Δ pio n b) m q.2
        | .ct => whileL (fun e => evB Γ c (dEnv e)) (ex Γ Δ pio n b) m q.2
        | .bk => some (.nx, q.2)
        | .rt t => some (.rt t, q.2)) = some (fl, env') from h2)
      refine iteT ⟨fun σ' H' => ∃ F2 A e1, Same F F2 ∧ e1.length = σ'.length ∧ σ'.length = σ.length ∧ (∀ (k : Nat), k ∉ asgs b → σ'[k]? = σ[k]?) ∧ Rep K cl H₀ G₀ io F2 A σ' e1 H' ∧ whileL (fun e => evB Γ c (dEnv e)) (ex Γ Δ pio n b) m e1 = some (fl, env'), fun σ' H' w => ⟨m, by omega, w⟩, ?_⟩
      refine ⟨H₀, G₀, io, F1, A1, e1, n, fb, eb, hp, l1, R1.same x.hh, h3, fun σ' H' F' A' l3 l4 st sf R' => ?_⟩
      have st' : ∀ (k : Nat), k ∉ asgs b → σ'[k]? = σ[k]? := fun k hk => (st k hk).trans (st1 k hk)
      cases fb with
      | nx => exact ⟨F', A', eb, sf1.trans sf, l3, l4.trans l2, st', R', h4⟩
      | ct => exact ⟨F', A', eb, sf1.trans sf, l3, l4.trans l2, st', R', h4⟩
      | bk => cases h4; exact po σ' H' F' A' l3 (l4.trans l2) st' (sf1.trans sf) R'
      | rt t => cases h4; exact po σ' H' F' A' l3 (l4.trans l2) st' (sf1.trans sf) R'
end
section
variable {K : W.Frag} {cl : Nat → Option Addr} {Γ : Tab} {Δ : IOT} {pio : Option Nat} {En : Ends} {σ : St} {H : Hp}
theorem unX {m : E} {H₀ G₀ F : Hp} {io : Option (Nat × Addr)} {A : Nat → List Addr} {env : TEnv} (R : Rep K cl H₀ G₀ io F A σ env H) {d : D} (e : ev Γ m (dEnv env) = some d) {Q : VK} (q : ∀ v H', Same H H' → Rep K cl H₀ G₀ io F A σ env H' → Dn K cl H' v d → Q v H') : tV K cl Γ m σ H Q :=
  ⟨H, _, d, .refl _, R.see, e, fun v H' G' x dv => q v H' x.hh (R.same x.hh) (dv.mono x.gh)⟩
theorem dn_int {G : Hp} {v : V} {d : D} {z : Int} (h : Dn K cl G v d) (e : intD d = some z) : v = .int z := by
  cases d with
  | int i => cases e; cases h; rfl
  | _ => cases e
theorem Rep.rewrite {H₀ G₀ F : Hp} {io : Option (Nat × Addr)} {A : Nat → List Addr} {env : TEnv} {i : Nat} {ts ts' : List T} {p : Addr} {xs xs' : List V} {B B' C : List Addr} (R : Rep K cl H₀ G₀ io F A σ env H) (e : env[i]? = some (some (.ow ts))) (hs : σ[i]? = some (some (.ref p))) (hA : A i = p :: B)
    (ot : OTs K cl F H xs' ts' B') (nd : B'.Nodup) (sub : ∀ a ∈ B', a ∈ B ∨ a ∈ C) (cn : ∀ a ∈ C, H₀ a = none ∧ a ≠ p ∧ ∀ j, a ∉ A j) : Rep K cl H₀ G₀ io F (fun j => if j = i then p :: B' else A j) σ (env.set i (some (.ow ts'))) (upd H p (.lst xs')) := by
  have ndA := R.nd i
  rw [hA] at ndA
  obtain ⟨np, ndB⟩ := List.nodup_cons.mp ndA
  have np' : p ∉ B' := fun z => by
    rcases sub p z with z | z
    · exact np z
    · exact (cn p z).2.1 rfl
  refine R.write (xs := xs) e hA (ot.poke np') (List.nodup_cons.mpr ⟨np', nd⟩) (fun j a hj h1 h2 => ?_) (fun a ha => ?_) hs
  · rcases sub a h2 with z | z
    · exact R.dj j i a hj h1 (by rw [hA]; simp [z])
    · exact (cn a z).2.2 j h1
  · rcases sub a ha with z | z
    · rcases R.anew i a (by rw [hA]; simp [z]) with ⟨q, w⟩ | w
      · exfalso
        obtain ⟨C', h5⟩ := R.iok q a w
        by_cases hq : q = i
        · subst hq
          rw [hA] at h5
          injection h5 with h6 _
          exact np (by rw [h6]; exact z)
        · exact R.dj q i a hq (R.ioa w) (by rw [hA]; simp [z])
      · exact w
    · exact (cn a z).1
theorem s_set {i : Nat} {k m : E} (h : tS K cl Γ Δ pio (.set i k m) En σ H) : tAsg (tV K cl Γ m) (gSub (tVar i) (tV K cl Γ k) rSetL) En σ H := by
  obtain ⟨H₀, G₀, io, F, A, env, n, fl, env', hp, hl, R, e, po⟩ := h
  obtain ⟨d, h1, e⟩ := bsi (show (ev Γ m (dEnv env)).bind (fun d => if scal d then ((ev Γ k (dEnv env)).bind intD).bind fun z => (owAt env i).bind fun ts => (ixN ts.length z).map fun j => (Fl.nx, env.set i (some (.ow (ts.set j (.sh d))))) else none) = some (fl, env') from e)
  split at e
  · rename_i sd
    obtain ⟨z, h2, e⟩ := bsi e
    obtain ⟨dk, h2, h3⟩ := bsi h2
    obtain ⟨ts, h4, e⟩ := bsi e
    obtain ⟨j, h5, e⟩ := msi e
    cases e
    refine unX R h1 fun v H1 s1 R1 d1 => ?_
    obtain ⟨p, xs, B, h6, h7, hA, hx, fp, os⟩ := R1.own h4
    refine ⟨.ref p, h7, unX R1 h2 fun u H2 s2 R2 d2 => ?_⟩
    have hu := dn_int d2 h3
    subst hu
    obtain ⟨p', xs', B', h6', h7', hA', hx', fp', os'⟩ := R2.own h4
    rw [h7] at h7'
    cases h7'
    rw [hA] at hA'
    cases hA'
    refine ⟨p, xs', z, j, rfl, rfl, hx', by rw [os'.length]; exact h5, ?_⟩
    have ndA := R2.nd i
    rw [hA] at ndA
    obtain ⟨B2, o2, n2, sb⟩ := OTs.put (OT.sh (H := H2) (d1.scal sd F)) j os' (List.nodup_cons.mp ndA).2 List.nodup_nil (by simp)
    exact po σ _ F _ (by simp [hl]) rfl (fun _ _ => rfl) (.refl _) (R2.rewrite (xs := xs') (C := []) h6 h7 hA o2 n2 sb (by simp))
  · cases e
theorem owAt_set {env : TEnv} {i j : Nat} {o : Option T} {ts : List T} (h : owAt (env.set j o) i = some ts) : (i = j ∧ o = some (.ow ts)) ∨ owAt env i = some ts := by
  have e := owAt_eq h
  by_cases hij : j = i
  · subst hij
    by_cases hl : j < env.length
    · rw [List.getElem?_set_self hl] at e; exact .inl ⟨rfl, Option.some.inj e⟩
    · rw [List.getElem?_eq_none (by simp; omega)] at e; cases e
  · rw [List.getElem?_set_ne hij] at e
    exact .inr (by unfold owAt; rw [e])
theorem frz_own : ∀ {l : List Nat} {env env' : TEnv} {i : Nat} {ts : List T}, frz pio env l = some env' → owAt env' i = some ts → owAt env i = some ts
  | [], _, _, _, _, h, o => by cases h; exact o
  | j :: r, env, env', i, ts, h, o => by
    unfold frz at h
    split at h
    · split at h
      · cases h
      · rcases owAt_set (frz_own h o) with ⟨_, z⟩ | z
        · cases z
        · exact z
    · split at h
      · cases h
      · rcases owAt_set (frz_own h o) with ⟨_, z⟩ | z
        · cases z
        · exact z
    · exact frz_own h o
theorem evX_own {m : E} {env env1 : TEnv} {t : T} {i : Nat} {ts : List T} (h : evX Γ pio m env = some (t, env1)) (o : owAt env1 i = some ts) : owAt env i = some ts := by
  cases hc : isCall m with
  | true =>
    cases m with
    | call f args =>
      rw [evX_call] at h
      obtain ⟨g, _, h⟩ := bsi h
      obtain ⟨l, _, h⟩ := bsi h
      obtain ⟨t1, _, h⟩ := bsi h
      split at h
      · cases h; exact o
      · obtain ⟨e1, ef, h⟩ := bsi h
        obtain ⟨l', _, h⟩ := bsi h
        obtain ⟨t2, _, h⟩ := msi h
        cases h
        exact frz_own ef o
    | _ => cases hc
  | false =>
    rw [evX_other hc] at h
    obtain ⟨d, _, h⟩ := bsi h
    split at h
    · cases h; exact o
    · split at h
      · obtain ⟨ds, _, h⟩ := bsi h
        split at h
        · cases h; exact o
        · obtain ⟨e1, ef, h⟩ := bsi h
          obtain ⟨_, _, h⟩ := msi h
          cases h
          exact frz_own ef o
      · obtain ⟨e1, ef, h⟩ := bsi h
        obtain ⟨_, _, h⟩ := msi h
        cases h
        exact frz_own ef o
theorem ty_list {p : Addr} {xs : List V} (h : H p = some (.lst xs)) : tyV K "list" (.ref p) H := .inl ⟨rfl, _, SqL.of h⟩
theorem s_app {i : Nat} {m : E} (h : tS K cl Γ Δ pio (.app i m) En σ H) : tDrop (tBM K "list" rAppend (tVar i) (tCons (tX K cl Γ pio m) tNil)) En σ H := by
  obtain ⟨H₀, G₀, io, F, A, env, n, fl, env', hp, hl, R, e, po⟩ := h
  obtain ⟨⟨t, env1⟩, h1, e⟩ := bsi (show (evX Γ pio m env).bind (fun r => (owAt r.2 i).bind fun ts => if sz ts.length then some (Fl.nx, r.2.set i (some (.ow (ts ++ [r.1])))) else none) = some (fl, env') from e)
  obtain ⟨ts, h2, e⟩ := bsi e
  split at e
  · rename_i hz
    cases e
    obtain ⟨p, xs, _, _, h3, _, h4, _, _⟩ := R.own (evX_own h1 h2)
    refine ⟨.ref p, h3, ty_list h4, H₀, G₀, io, F, A, env, t, env1, hp, hl, R, h1, fun v H' F' A' B l1 g R' ot nd nw => ?_⟩
    obtain ⟨p', xs', B', h6, h7, hA, hx, fp, os⟩ := R'.own h2
    rw [h3] at h7
    cases h7
    have ndA := R'.nd i
    rw [hA] at ndA
    obtain ⟨np, ndB⟩ := List.nodup_cons.mp ndA
    have dis : ∀ a ∈ B, ∀ j, a ∉ A' j := fun a ha j hj => by
      obtain ⟨_, o, h3⟩ := R.at_ (g.aa j a hj)
      rw [nw a ha] at h3; cases h3
    refine ⟨p, xs', v, rfl, rfl, hx, ?_, ?_⟩
    · have := odt hz
      rw [os.length, sizeLine_eq]; omega
    · refine po σ _ F' _ (by simpa using l1) rfl (fun _ _ => rfl) g.ff (R'.rewrite (xs := xs') (C := B) h6 h3 hA (os.snoc ot) ?_ (fun a ha => List.mem_append.mp ha) fun a ha => ⟨R.new (nw a ha), fun z => dis a ha i (by rw [hA, z]; simp), dis a ha⟩)
      exact List.nodup_append.mpr ⟨ndB, nd, fun a ha b hb e => dis b hb i (by rw [hA, ← e]; simp [ha])⟩
  · cases e
end
section
variable {K : W.Frag} {cl : Nat → Option Addr} {Γ : Tab} {Δ : IOT} {pio : Option Nat} {En : Ends} {σ : St} {H : Hp}
end
section
variable {K : W.Frag} {cl : Nat → Option Addr} {Γ : Tab} {Δ : IOT} {pio : Option Nat} {En : Ends} {σ : St} {H : Hp}
theorem OTs.takes : ∀ {xs : List V} {ts : List T} {B : List Addr} {F H : Hp} (k : Nat), OTs K cl F H xs ts B → ∃ B1 B2, B = B1 ++ B2 ∧ OTs K cl F H (xs.take k) (ts.take k) B1 ∧ OTs K cl F H (xs.drop k) (ts.drop k) B2
  | _, _, _, _, _, 0, o => ⟨[], _, rfl, .nil, o⟩
  | _, _, _, _, _, k + 1, .nil => ⟨[], [], rfl, .nil, .nil⟩
  | _, _, _, _, _, k + 1, .cons (A := A1) a r => by
    obtain ⟨B1, B2, e, o1, o2⟩ := OTs.takes k r
    exact ⟨A1 ++ B1, B2, by rw [e, List.append_assoc], .cons a o1, o2⟩
theorem s_ins {i : Nat} {k m : E} (h : tS K cl Γ Δ pio (.ins i k m) En σ H) : tDrop (tBM K "list" rInsert (tVar i) (tCons (tV K cl Γ k) (tCons (tV K cl Γ m) tNil))) En σ H := by
  obtain ⟨H₀, G₀, io, F, A, env, n, fl, env', hp, hl, R, e, po⟩ := h
  obtain ⟨z, h1, e⟩ := bsi (show ((ev Γ k (dEnv env)).bind intD).bind (fun z => (ev Γ m (dEnv env)).bind fun d => (owAt env i).bind fun ts => if scal d && decide (0 ≤ z ∧ z ≤ ts.length) && sz ts.length then some (Fl.nx, env.set i (some (.ow (ts.take z.toNat ++ .sh d :: ts.drop z.toNat)))) else none) = some (fl, env') from e)
  obtain ⟨dk, h1, h2⟩ := bsi h1
  obtain ⟨d, h3, e⟩ := bsi e
  obtain ⟨ts, h4, e⟩ := bsi e
  split at e
  · rename_i hz
    obtain ⟨hz, h6⟩ := bae hz
    obtain ⟨sd, h5⟩ := bae hz
    have h5 := odt h5
    have h6 := odt h6
    cases e
    obtain ⟨p, xs, B, e1, e2, hA, hx, fp, os⟩ := R.own h4
    refine ⟨.ref p, e2, ty_list hx, unX R h1 fun u H1 s1 R1 d1 => unX R1 h3 fun y H2 s2 R2 d2 => ?_⟩
    have hu := dn_int d1 h2
    subst hu
    obtain ⟨p', xs', B', _, e2', hA', hx', fp', os'⟩ := R2.own h4
    rw [e2] at e2'
    cases e2'
    rw [hA] at hA'
    cases hA'
    have ndA := R2.nd i
    rw [hA] at ndA
    obtain ⟨np, ndB⟩ := List.nodup_cons.mp ndA
    refine ⟨p, xs', z, y, rfl, rfl, hx', h5.1, by rw [os'.length]; exact h5.2, by rw [os'.length, sizeLine_eq]; omega, ?_⟩
    obtain ⟨B1, B2, eB, o1, o2⟩ := OTs.takes z.toNat os'
    have o3 := o1.app (OTs.cons (OT.sh (H := H2) (d2.scal sd F)) o2)
    rw [List.nil_append, ← eB] at o3
    exact po σ _ F _ (by simp [hl]) rfl (fun _ _ => rfl) (.refl _) (R2.rewrite (xs := xs') (C := []) e1 e2 hA o3 ndB (fun a ha => .inl ha) (by simp))
  · cases e
end
section
variable {K : W.Frag} {cl : Nat → Option Addr} {Γ : Tab} {Δ : IOT} {pio : Option Nat} {En : Ends} {σ : St} {H : Hp}
theorem two_X {i j : Nat} {m l : E} {Q : V → V → Hp → Prop} (h : ∃ H₀ G₀ io F A env r q, Pio pio io ∧ env.length = σ.length ∧ Rep K cl H₀ G₀ io F A σ env H ∧ evX Γ pio m env = some r ∧ evX Γ pio l r.2 = some q ∧
      ∀ v w H' F' A' B C, q.2.length = σ.length → Same F F' → Rep K cl H₀ G₀ io F' A' σ q.2 H' → OT K cl F' H' v r.1 B → OT K cl F' H' w q.1 C → B.Nodup → C.Nodup → (∀ a ∈ B, H₀ a = none ∧ a ∉ C ∧ ∀ j, a ∉ A' j) → (∀ a ∈ C, H₀ a = none ∧ ∀ j, a ∉ A' j) → Q v w H') :
    tX K cl Γ pio m σ H fun v H1 => tX K cl Γ pio l σ H1 fun w H2 => Q v w H2 := by
  obtain ⟨H₀, G₀, io, F, A, env, ⟨t, env1⟩, ⟨u, env2⟩, hp, hl, R, h1, h2, q⟩ := h
  refine ⟨H₀, G₀, io, F, A, env, t, env1, hp, hl, R, h1, fun v H1 F1 A1 B l1 g R1 ot nd nw => ⟨H₀, G₀, io, F1, A1, env1, u, env2, hp, l1, R1, h2, fun w H2 F2 A2 C l2 g2 R2 ot2 nd2 nw2 => ?_⟩⟩
  have b1 : ∀ a ∈ B, ∀ j, a ∉ A1 j := fun a ha j hj => by
    obtain ⟨_, o, h3⟩ := R.at_ (g.aa j a hj)
    rw [nw a ha] at h3; cases h3
  have hb : ∀ a ∈ B, ∃ o, H1 a = some o := fun a ha => (ot.free a ha).2
  have ot' : OT K cl F2 H2 v t B := ot.move g2.ff (fun a ha => by
    cases e : F2 a with
    | none => rfl
    | some o =>
      rcases g2.nw a o e (ot.free a ha).1 with ⟨j, z⟩ | z
      · exact absurd z (b1 a ha j)
      · obtain ⟨o', z'⟩ := hb a ha
        rw [z] at z'; cases z') fun a _ o q => g2.hh _ _ q
  refine q v w H2 F2 A2 B C l2 (g.ff.trans g2.ff) R2 ot' ot2 nd nd2 (fun a ha => ⟨R.new (nw a ha), fun z => ?_, fun j hj => b1 a ha j (g2.aa j a hj)⟩) fun a ha => ⟨R1.new (nw2 a ha), fun j hj => ?_⟩
  · obtain ⟨o, z'⟩ := hb a ha
    rw [nw2 a z] at z'; cases z'
  · obtain ⟨_, o, h3⟩ := R1.at_ (g2.aa j a hj)
    rw [nw2 a ha] at h3; cases h3
theorem Rep.store2 {H₀ G₀ F : Hp} {io : Option (Nat × Addr)} {A : Nat → List Addr} {env : TEnv} {i j : Nat} {v w : V} {t u : T} {B C : List Addr} (R : Rep K cl H₀ G₀ io F A σ env H) (hp : Pio pio io) (hi : pio ≠ some i) (hj : pio ≠ some j) (li : i < env.length) (lj : j < env.length) (hs : env.length = σ.length) (hij : i ≠ j)
    (o1 : OT K cl F H v t B) (o2 : OT K cl F H w u C) (n1 : B.Nodup) (n2 : C.Nodup) (d1 : ∀ a ∈ B, H₀ a = none ∧ a ∉ C ∧ ∀ j, a ∉ A j) (d2 : ∀ a ∈ C, H₀ a = none ∧ ∀ j, a ∉ A j) :
    ∃ A', Rep K cl H₀ G₀ io F A' ((σ.set i (some v)).set j (some w)) ((env.set i (some t)).set j (some u)) H := by
  have R1 := R.store (hp.ne hi) li hs o1 n1 (fun k a _ h1 h2 => (d1 a h2).2.2 k h1) fun a ha => (d1 a ha).1
  exact ⟨_, R1.store (hp.ne hj) (by simpa using lj) (by simpa using hs) o2 n2 (fun k a hk h1 h2 => by
    have h1' : a ∈ (if k = i then B else A k) := h1
    split at h1'
    · exact (d1 a h1').2.1 h2
    · exact (d2 a h2).2 k h1') fun a ha => (d2 a ha).1⟩
theorem set_ne2 {σ : St} {i j k : Nat} {o p : Option V} (h : k ∉ [i, j]) : ((σ.set i o).set j p)[k]? = σ[k]? := by
  rw [List.getElem?_set_ne (fun e => h (by simp [e])), List.getElem?_set_ne (fun e => h (by simp [e]))]
theorem asg2_X {i j : Nat} {m l : E} (h : tS K cl Γ Δ pio (.asg2 i j m l) En σ H) : tX K cl Γ pio m σ H fun v H1 => tX K cl Γ pio l σ H1 fun w H2 => (∀ p, H2 p = none → En.nx ((σ.set i (some v)).set j (some w)) (upd H2 p (.tup [v, w]))) ∧ En.nx ((σ.set i (some v)).set j (some w)) H2 := by
  obtain ⟨H₀, G₀, io, F, A, env, n, fl, env', hp, hl, R, e, po⟩ := h
  have e' : (if okI pio env i && okI pio env j && decide (i ≠ j) then (evX Γ pio m env).bind fun r => (evX Γ pio l r.2).map fun q => (Fl.nx, (q.2.set i (some r.1)).set j (some q.1)) else none) = some (fl, env') := e
  split at e'
  · rename_i ok
    obtain ⟨ok, hij⟩ := bae ok
    obtain ⟨ok1, ok2⟩ := bae ok
    obtain ⟨r, h1, e'⟩ := bsi e'
    obtain ⟨q, h2, e'⟩ := msi e'
    cases e'
    refine two_X (i := i) (j := j) ⟨H₀, G₀, io, F, A, env, r, q, hp, hl, R, h1, h2, fun v w H' F' A' B C l1 sf R' o1 o2 n1 n2 d1 d2 => ?_⟩
    have i1 := (okI_ok ok1).2
    have i2 := (okI_ok ok2).2
    obtain ⟨A2, R2⟩ := R'.store2 hp (okI_ok ok1).1 (okI_ok ok2).1 (by omega) (by omega) l1 (odt hij) o1 o2 n1 n2 d1 d2
    exact ⟨fun p hp' => po _ _ F' A2 (by simpa using l1) (by simp) (fun k hk => set_ne2 hk) sf (R2.same (same_upd hp' _)), po _ _ F' A2 (by simpa using l1) (by simp) (fun k hk => set_ne2 hk) sf R2⟩
  · cases e'
theorem s_par {i j : Nat} {m l : E} (h : tS K cl Γ Δ pio (.asg2 i j m l) En σ H) : tPar i j (tCons (tX K cl Γ pio m) (tCons (tX K cl Γ pio l) tNil)) En σ H := by
  have q := asg2_X h
  obtain ⟨H₀, G₀, io, F, A, env, t, env1, hp, hl, R, h1, q⟩ := q
  refine ⟨H₀, G₀, io, F, A, env, t, env1, hp, hl, R, h1, fun v H1 F1 A1 B l1 g R1 ot nd nw => ?_⟩
  obtain ⟨H₀', G₀', io', F', A', env', t', env1', hp', hl', R', h1', q'⟩ := q v H1 F1 A1 B l1 g R1 ot nd nw
  exact ⟨H₀', G₀', io', F', A', env', t', env1', hp', hl', R', h1', fun w H2 F2 A2 C l2 g2 R2 ot2 nd2 nw2 => ⟨v, w, rfl, (q' w H2 F2 A2 C l2 g2 R2 ot2 nd2 nw2).2⟩⟩
theorem s_tup2 {i j : Nat} {m l : E} (h : tS K cl Γ Δ pio (.asg2 i j m l) En σ H) : tAsg (tTup (tCons (tX K cl Γ pio m) (tCons (tX K cl Γ pio l) tNil))) (gTup K 2 (gCons (gName i) (gCons (gName j) gNil))) En σ H := by
  have q := asg2_X h
  obtain ⟨H₀, G₀, io, F, A, env, t, env1, hp, hl, R, h1, q⟩ := q
  refine ⟨H₀, G₀, io, F, A, env, t, env1, hp, hl, R, h1, fun v H1 F1 A1 B l1 g R1 ot nd nw => ?_⟩
  obtain ⟨H₀', G₀', io', F', A', env', t', env1', hp', hl', R', h1', q'⟩ := q v H1 F1 A1 B l1 g R1 ot nd nw
  exact ⟨H₀', G₀', io', F', A', env', t', env1', hp', hl', R', h1', fun w H2 F2 A2 C l2 g2 R2 ot2 nd2 nw2 => ⟨two_fits, fun p hp => ⟨p, _, rfl, SqT.of upd_same, rfl, v, [w], rfl, w, [], rfl, rfl, (q' w H2 F2 A2 C l2 g2 R2 ot2 nd2 nw2).1 p hp⟩⟩⟩
theorem it_X {H₀ G₀ F : Hp} {io : Option (Nat × Addr)} {A : Nat → List Addr} {env env' : TEnv} {m : E} {ds : List D} (hp : Pio pio io) (hl : env.length = σ.length) (R : Rep K cl H₀ G₀ io F A σ env H) (h : itX Γ pio m env = some (ds, env')) {Q : It → Hp → Prop}
    (q : ∀ J H' F' A', env'.length = σ.length → Same F F' → Rep K cl H₀ G₀ io F' A' σ env' H' → (∀ (H2 F2 : Hp) (k : Nat), Same F' F2 → Same F2 H2 → (k = ds.length → J.stop k H2) ∧ ∀ d, ds[k]? = some d → J.go k H2 ∧ ∀ v H3, J.yld k H2 v H3 → ∃ F3, Ext H2 F2 H3 F3 ∧ Dn K cl F3 v d) → Q J H') : tI K cl Γ m σ H Q := by
  unfold itX at h
  split at h
  · rename_i hr
    obtain ⟨l, h1, h2⟩ := msi h
    cases h2
    refine ⟨H, _, ds, .refl _, R.see, h1, fun J H' G' x wk wr => q J H' F A hl (.refl _) (R.same x.hh) fun H2 F2 k s1 s2 => wr hr F H2 F2 k s1 s2⟩
  · obtain ⟨env1, h1, h⟩ := bsi h
    obtain ⟨l, h2, h3⟩ := msi h
    cases h3
    obtain ⟨F1, A1, R1, l1, g1⟩ := frz_ok hp R h1
    exact ⟨F1, _, ds, R1.fh, R1.seeF, h2, fun J H' G' x wk _ => q J H' G' A1 (l1.trans hl) (g1.ff.trans x.gg) (R1.ext x) fun H2 F2 k s1 s2 => wk H2 F2 k s1 s2⟩
theorem s_for1 {i : Nat} {it : E} {b : S} (h : tS K cl Γ Δ pio (.for1 i it b) En σ H) : tFor (tI K cl Γ it) (gName i) (tS K cl Γ Δ pio b) En σ H := by
  obtain ⟨H₀, G₀, io, F, A, env, n, fl, env', hp, hl, R, e, po⟩ := h
  have e' : (if okI pio env i then (itX Γ pio it env).bind fun r => forL (fun d e => ex Γ Δ pio n b (e.set i (some (.sh d)))) r.1 r.2 else none) = some (fl, env') := e
  split at e'
  · rename_i ok
    obtain ⟨o1, o2⟩ := okI_ok ok
    obtain ⟨⟨ds, env1⟩, h1, e'⟩ := bsi e'
    refine it_X hp hl R h1 fun J H1 F1 A1 l1 sf1 R1 wk => ?_
    refine ⟨fun k m σ' H' => m = ds.length - k ∧ k ≤ ds.length ∧ ∃ F A e1, Same F1 F ∧ e1.length = σ'.length ∧ σ'.length = σ.length ∧ (∀ (x : Nat), x ∉ i :: asgs b → σ'[x]? = σ[x]?) ∧ Rep K cl H₀ G₀ io F A σ' e1 H' ∧ forL (fun d e => ex Γ Δ pio n b (e.set i (some (.sh d)))) (ds.drop k) e1 = some (fl, env'), ⟨_, rfl, Nat.zero_le _, F1, A1, env1, .refl _, l1, rfl, fun _ _ => rfl, R1, e'⟩, ?_⟩
    rintro k m σ1 H2 ⟨rfl, hk, F2, A2, e1, s2, l2, l3, st, R2, w⟩
    obtain ⟨w1, w2⟩ := wk H2 F2 k s2 R2.fh
    by_cases hlt : k < ds.length
    · obtain ⟨g, y⟩ := w2 ds[k] (List.getElem?_eq_getElem hlt)
      refine .inr ⟨g, fun σ' H' => ∃ F A e1, Same F1 F ∧ e1.length = σ'.length ∧ σ'.length = σ.length ∧ (∀ (x : Nat), x ∉ i :: asgs b → σ'[x]? = σ[x]?) ∧ Rep K cl H₀ G₀ io F A σ' e1 H' ∧ forL (fun d e => ex Γ Δ pio n b (e.set i (some (.sh d)))) (ds.drop (k + 1)) e1 = some (fl, env'), fun σ' H' q => ⟨_, by omega, rfl, hlt, q⟩, fun v H3 yl => ?_⟩
      obtain ⟨F3, x3, d3⟩ := y v H3 yl
      have R3 := R2.ext x3
      rw [List.drop_eq_getElem_cons hlt] at w
      obtain ⟨⟨fb, eb⟩, h3, h4⟩ := bsi (show (ex Γ Δ pio n b (e1.set i (some (.sh ds[k])))).bind (fun q => match q.1 with
        | .nx => forL (fun d e => ex Γ Δ pio n b (e.set i (some (.sh d)))) (ds.drop (k + 1)) q.2
        | .ct => forL (fun d e => ex Γ Δ pio n b (e.set i (some (.sh d)))) (ds.drop (k + 1)) q.2
        | .bk => some (.nx, q.2)
        | .rt t => some (.rt t, q.2)) = some (fl, env') from w)
      have R4 := R3.store (hp.ne o1) (by omega) l2 (.sh d3) List.nodup_nil (fun _ _ _ _ z => by simp at z) (by simp)
      refine ⟨H₀, G₀, io, F3, _, _, n, fb, eb, hp, by simpa using l2, R4, h3, fun σ' H' F' A' l5 l6 st' sf R' => ?_⟩
      have l7 : σ'.length = σ.length := by rw [l6, List.length_set]; exact l3
      have st7 : ∀ (x : Nat), x ∉ i :: asgs b → σ'[x]? = σ[x]? := fun x hx => by
        rw [st' x (fun z => hx (by simp [z])), List.getElem?_set_ne (fun z => hx (by simp [z])), st x hx]
      cases fb with
      | nx => exact ⟨F', A', eb, (s2.trans x3.gg).trans sf, l5, l7, st7, R', h4⟩
      | ct => exact ⟨F', A', eb, (s2.trans x3.gg).trans sf, l5, l7, st7, R', h4⟩
      | bk => cases h4; exact po σ' H' F' A' l5 l7 st7 (sf1.trans ((s2.trans x3.gg).trans sf)) R'
      | rt t => cases h4; exact po σ' H' F' A' l5 l7 st7 (sf1.trans ((s2.trans x3.gg).trans sf)) R'
    · have e0 : k = ds.length := by omega
      subst e0
      rw [List.drop_length] at w
      cases w
      exact .inl ⟨w1 rfl, po σ1 H2 F2 A2 l2 l3 st (sf1.trans s2) R2⟩
  · cases e'
noncomputable def step2 (Γ : Tab) (Δ : IOT) (pio : Option Nat) (n i j : Nat) (b : S) : D → TEnv → Option (Fl × TEnv) := fun d e => match d with
      | .tup [x, y] => ex Γ Δ pio n b ((e.set i (some (.sh x))).set j (some (.sh y)))
      | _ => none
theorem step2_some {n i j : Nat} {b : S} {d : D} {e : TEnv} {r : Fl × TEnv} (h : step2 Γ Δ pio n i j b d e = some r) : ∃ x y, d = .tup [x, y] ∧ ex Γ Δ pio n b ((e.set i (some (.sh x))).set j (some (.sh y))) = some r := by
  unfold step2 at h
  split at h
  · exact ⟨_, _, rfl, h⟩
  · cases h
theorem s_for2 {i j : Nat} {it : E} {b : S} (h : tS K cl Γ Δ pio (.for2 i j it b) En σ H) : tFor (tI K cl Γ it) (gTup K 2 (gCons (gName i) (gCons (gName j) gNil))) (tS K cl Γ Δ pio b) En σ H := by
  obtain ⟨H₀, G₀, io, F, A, env, n, fl, env', hp, hl, R, e, po⟩ := h
  have e' : (if okI pio env i && okI pio env j && decide (i ≠ j) then (itX Γ pio it env).bind fun r => forL (step2 Γ Δ pio n i j b) r.1 r.2 else none) = some (fl, env') := e
  split at e'
  · rename_i ok
    obtain ⟨ok, hij⟩ := bae ok
    obtain ⟨ok1, ok2⟩ := bae ok
    obtain ⟨o1, o2⟩ := okI_ok ok1
    obtain ⟨o3, o4⟩ := okI_ok ok2
    have hij := odt hij
    obtain ⟨⟨ds, env1⟩, h1, e'⟩ := bsi e'
    refine it_X hp hl R h1 fun J H1 F1 A1 l1 sf1 R1 wk => ?_
    refine ⟨fun k m σ' H' => m = ds.length - k ∧ k ≤ ds.length ∧ ∃ F A e1, Same F1 F ∧ e1.length = σ'.length ∧ σ'.length = σ.length ∧ (∀ (x : Nat), x ∉ i :: j :: asgs b → σ'[x]? = σ[x]?) ∧ Rep K cl H₀ G₀ io F A σ' e1 H' ∧ forL (step2 Γ Δ pio n i j b) (ds.drop k) e1 = some (fl, env'), ⟨_, rfl, Nat.zero_le _, F1, A1, env1, .refl _, l1, rfl, fun _ _ => rfl, R1, e'⟩, ?_⟩
    rintro k m σ1 H2 ⟨rfl, hk, F2, A2, e1, s2, l2, l3, st, R2, w⟩
    obtain ⟨w1, w2⟩ := wk H2 F2 k s2 R2.fh
    by_cases hlt : k < ds.length
    · obtain ⟨g, y⟩ := w2 ds[k] (List.getElem?_eq_getElem hlt)
      refine .inr ⟨g, fun σ' H' => ∃ F A e1, Same F1 F ∧ e1.length = σ'.length ∧ σ'.length = σ.length ∧ (∀ (x : Nat), x ∉ i :: j :: asgs b → σ'[x]? = σ[x]?) ∧ Rep K cl H₀ G₀ io F A σ' e1 H' ∧ forL (step2 Γ Δ pio n i j b) (ds.drop (k + 1)) e1 = some (fl, env'), fun σ' H' q => ⟨_, by omega, rfl, hlt, q⟩, fun v H3 yl => ?_⟩
      obtain ⟨F3, x3, d3⟩ := y v H3 yl
      have R3 := R2.ext x3
      rw [List.drop_eq_getElem_cons hlt] at w
      obtain ⟨⟨fb, eb⟩, h3, h4⟩ := bsi (show (step2 Γ Δ pio n i j b ds[k] e1).bind (fun q => match q.1 with
        | .nx => forL (step2 Γ Δ pio n i j b) (ds.drop (k + 1)) q.2
        | .ct => forL (step2 Γ Δ pio n i j b) (ds.drop (k + 1)) q.2
        | .bk => some (.nx, q.2)
        | .rt t => some (.rt t, q.2)) = some (fl, env') from w)
      obtain ⟨x, y, hd, h3⟩ := step2_some h3
      rw [hd] at d3
      cases d3 with | @tup p zs _ t1 t2 =>
      obtain ⟨u1, u2, rfl, du1, du2⟩ := t2.two
      refine ⟨p, _, rfl, SqT.of (x3.gh _ _ t1), rfl, u1, [u2], rfl, u2, [], rfl, rfl, ?_⟩
      obtain ⟨A4, R4⟩ := R3.store2 hp o1 o3 (by omega) (by omega) l2 hij (.sh du1) (.sh du2) List.nodup_nil List.nodup_nil (by simp) (by simp)
      refine ⟨H₀, G₀, io, F3, _, _, n, fb, eb, hp, by simpa using l2, R4, h3, fun σ' H' F' A' l5 l6 st' sf R' => ?_⟩
      have l7 : σ'.length = σ.length := by rw [l6, List.length_set, List.length_set]; exact l3
      have st7 : ∀ (x : Nat), x ∉ i :: j :: asgs b → σ'[x]? = σ[x]? := fun x hx => by
        rw [st' x (fun z => hx (by simp [z])), set_ne2 (fun z => hx (by simp at z ⊢; rcases z with z | z <;> simp [z])), st x hx]
      cases fb with
      | nx => exact ⟨F', A', eb, (s2.trans x3.gg).trans sf, l5, l7, st7, R', h4⟩
      | ct => exact ⟨F', A', eb, (s2.trans x3.gg).trans sf, l5, l7, st7, R', h4⟩
      | bk => cases h4; exact po σ' H' F' A' l5 l7 st7 (sf1.trans ((s2.trans x3.gg).trans sf)) R'
      | rt t => cases h4; exact po σ' H' F' A' l5 l7 st7 (sf1.trans ((s2.trans x3.gg).trans sf)) R'
    · have e0 : k = ds.length := by omega
      subst e0
      rw [List.drop_length] at w
      cases w
      exact .inl ⟨w1 rfl, po σ1 H2 F2 A2 l2 l3 st (sf1.trans s2) R2⟩
  · cases e'
end
end MI
end
noncomputable section
namespace L2
open PySem PySem.Spec PyProof.Rows
section
variable {X : Cx} {pos : Pos}
end
end L2
namespace MI
open PySem L2
section
variable {K : W.Frag} {cl : Nat → Option Addr} {Γ : Tab} {Δ : IOT} {pio : Option Nat} {En : Ends} {σ : St} {H : Hp}
end
noncomputable def spIO (K : W.Frag) (cl : Nat → Option Addr) (k : Nat) (g : List D → Option (T × List D)) : Sp := fun vs H Q _ => ∃ G l a xs ds t ds', Same G H ∧ vs.length = l.length ∧ vs[k]? = some (.ref a) ∧ l[k]? = some (.lst ds) ∧ H a = some (.lst xs) ∧ G a = none ∧ Dns K cl G xs ds ∧
  (∀ (j : Nat) (v : V) (d : D), j ≠ k → vs[j]? = some v → l[j]? = some d → Dn K cl G v d) ∧ g l = some (t, ds') ∧ flatT t = true ∧ ds.all scal = true ∧ ds'.all scal = true ∧
  ∀ v H' G' xs' B, (∀ b o, b ≠ a → H b = some o → H' b = some o) → Same G G' → Same G' H' → (∀ b o, G' b = some o → G b = none → H b = none) → H' a = some (.lst xs') → Dns K cl G' xs' ds' → OT K cl G' H' v t B → B.Nodup → (∀ b ∈ B, H b = none) → Q v H'
structure GoodIO (X : Cx) (cl : Nat → Option Addr) (x : Str) (k : Nat) (g : List D → Option (T × List D)) : Prop where
  ex : ∃ r fa fd ps, FnOk X.prog X.w X.K X.mg X.base CX0 r fa fd ps (spIO X.K cl k g) ∧ Room r X.A ∧ X.mg x = some (.ref fa) ∧ W.keepIn X.K (.ref fa) = true ∧ Binds X.K fd ps []
section
variable {X : Cx} {cl : Nat → Option Addr} {Γ : Tab} {Δ : IOT} {pio : Option Nat} {En : Ends}
noncomputable def tIA (K : W.Frag) (cl : Nat → Option Addr) (Γ : Tab) (i k : Nat) (args : E) : TA := fun σ H Q => ∃ G env ds l a, Same G H ∧ EnvD K cl G env σ ∧ σ[i]? = some (some (.ref a)) ∧ evA Γ i ds env k args = some l ∧
  ∀ vs H' G', Ext H G H' G' → vs.length = l.length → vs[k]? = some (.ref a) → l[k]? = some (.lst ds) → (∀ (j : Nat) (v : V) (d : D), j ≠ k → vs[j]? = some v → l[j]? = some d → Dn K cl G' v d) → Q vs H'
theorem isVar_eq {m : E} {i : Nat} (h : isVar m i = true) : m = .var i := by
  cases m with
  | var j => have : j = i := by simpa [isVar] using h
             rw [this]
  | _ => cases h
theorem pa_io {f : Expr → Option E} (hv : ∀ e i, f e = some (.var i) → PE X e (tVar i)) (ih : ∀ e m, f e = some m → PE X e (tV X.K cl Γ m)) : ∀ {k i : Nat} {es : List Expr} {m : E}, es.all okE = true → cList f es = some m → PA X es (tIA X.K cl Γ i k m)
  | 0, i, [], m, _, h => by
    cases h
    intro pos pins s σ H Q I ⟨G, env, ds, l, a, sg, en, hs, e, q⟩
    cases e
  | k + 1, i, [], m, _, h => by
    cases h
    intro pos pins s σ H Q I ⟨G, env, ds, l, a, sg, en, hs, e, q⟩
    cases e
  | 0, i, e :: r, m, ok, h => by
    rw [List.all_cons, Bool.and_eq_true] at ok
    obtain ⟨ma, h1, h⟩ := bsi h
    obtain ⟨mr, h2, rfl⟩ := msi h
    intro pos pins s σ H Q I ⟨G, env, ds, l, a, sg, en, hs, e, q⟩
    have e' : (if isVar ma i then (evs Γ mr env).map fun l => .lst ds :: l else none) = some l := e
    split at e'
    · rename_i hi
      have := isVar_eq hi
      subst this
      obtain ⟨l', el, rfl⟩ := msi e'
      refine (pa_cons (hv _ i h1) (clist_ok (fun e _ m h => ih e m h) ok.2 h2) (star_of ok.1 _ _)) pos pins s σ H Q I ⟨.ref a, hs, G, env, l', sg, en, el, fun vs H' G' x dv => ?_⟩
      refine q _ H' G' x (by simp [dv.length]) rfl rfl fun j v d hj h3 h4 => ?_
      cases j with
      | zero => exact absurd rfl hj
      | succ j =>
        obtain ⟨v', h5, h6⟩ := dv.get (i := j) (d := d) (by simpa using h4)
        have h3' : vs[j]? = some v := by simpa using h3
        rw [h3'] at h5
        cases h5
        exact h6
    · cases e'
  | k + 1, i, e :: r, m, ok, h => by
    rw [List.all_cons, Bool.and_eq_true] at ok
    obtain ⟨ma, h1, h⟩ := bsi h
    obtain ⟨mr, h2, rfl⟩ := msi h
    intro pos pins s σ H Q I ⟨G, env, ds, l, a, sg, en, hs, e, q⟩
    obtain ⟨x, ex, e⟩ := bsi (show (ev Γ ma env).bind (fun x => (evA Γ i ds env k mr).map fun l => x :: l) = some l from e)
    obtain ⟨l', el, rfl⟩ := msi e
    refine (pa_cons (ih _ ma h1) (pa_io (k := k) (i := i) hv ih ok.2 h2) (star_of ok.1 _ _)) pos pins s σ H Q I ⟨G, env, x, sg, en, ex, fun v H1 G1 x1 d1 => ⟨G1, env, ds, l', a, x1.gh, en.mono x1.gg, hs, el, fun vs H' G' x2 h3 h4 h5 h6 => ?_⟩⟩
    refine q _ H' G' (x1.trans x2) (by simp [h3]) (by simpa using h4) (by simpa using h5) fun j u d hj h7 h8 => ?_
    cases j with
    | zero =>
      have h7' : v = u := by simpa using h7
      have h8' : x = d := by simpa using h8
      subst h7' h8'
      exact d1.mono x2.gg
    | succ j => exact h6 j u d (fun z => hj (by rw [z])) (by simpa using h7) (by simpa using h8)
noncomputable def tIOC (K : W.Frag) (cl : Nat → Option Addr) (Γ : Tab) (Δ : IOT) (pio : Option Nat) (f i : Nat) (args : E) : TE := fun σ H Q => ∃ H₀ G₀ io F A env t env', Pio pio io ∧ env.length = σ.length ∧ Rep K cl H₀ G₀ io F A σ env H ∧ evIO Γ Δ f i args env = some (t, env') ∧
  ∀ v H' A' B, env'.length = σ.length → Rep K cl H₀ G₀ io F A' σ env' H' → OT K cl F H' v t B → B.Nodup → (∀ a ∈ B, H₀ a = none ∧ ∀ j, a ∉ A' j) → Q v H'
noncomputable def but (H : Hp) (a : Addr) : Hp := fun b => if b = a then none else H b
theorem but_same {H : Hp} {a : Addr} : Same (but H a) H := fun b o h => by
  unfold but at h
  split at h
  · cases h
  · exact h
theorem but_at {H : Hp} {a : Addr} : but H a a = none := by unfold but; rw [if_pos rfl]
theorem but_ne {H : Hp} {a b : Addr} (h : b ≠ a) : but H a b = H b := by unfold but; rw [if_neg h]
theorem Rep.seeBut {K : W.Frag} {H₀ G₀ F H : Hp} {io : Option (Nat × Addr)} {A : Nat → List Addr} {σ : St} {env : TEnv} (R : Rep K cl H₀ G₀ io F A σ env H) {i : Nat} {p : Addr} {B : List Addr} (hA : A i = p :: B) : EnvD K cl (but H p) (dEnv (env.set i none)) σ := fun j d e => by
  unfold dEnv at e
  rw [List.getElem?_map] at e
  by_cases hj : j = i
  · subst hj
    by_cases hl : j < env.length
    · rw [List.getElem?_set_self hl] at e; cases e
    · rw [List.getElem?_eq_none (by simp; omega)] at e; cases e
  · rw [List.getElem?_set_ne (Ne.symm hj)] at e
    cases q : env[j]? with
    | none => rw [q] at e; cases e
    | some o =>
      cases o with
      | none => rw [q] at e; cases e
      | some t =>
        rw [q] at e
        cases e
        obtain ⟨v, h1, h2⟩ := R.slot j t q
        obtain ⟨F', fz, dn⟩ := h2.freeze R.fh (R.nd j)
        refine ⟨v, h1, dn.mono fun b o z => ?_⟩
        rw [but_ne]
        · exact fz.gh _ _ z
        · rintro rfl
          have hp : b ∈ A i := by rw [hA]; simp
          rw [fz.on b (fun w => R.dj j i b hj w hp)] at z
          rw [(R.at_ hp).1] at z
          cases z
theorem pe_ioc {x : Str} {f i k : Nat} {g : List D → Option (T × List D)} {e : Expr} {es : List Expr} {m : E} {p pos : Pos} (hg : Gl X x) (hd : (x == ("__debug__" : Str)) = false) (FF : GoodIO X cl x k g) (hf : Δ f = some (k, g)) (ha : PA X (e :: es) (tIA X.K cl Γ i k m)) (ok : (e :: es).all okE = true) :
    PE X (.Call (.Name x p) (e :: es) [] pos) (tIOC X.K cl Γ Δ pio f i m) := by
  obtain ⟨r, fa, fd, ps, F1, F2, F3, F4, F5⟩ := FF.ex
  rw [List.all_cons, Bool.and_eq_true] at ok
  refine peI (pe_call F1 F2 hg F3 F4 F5 .nil pass0 ha hd (star_of ok.1 _ _) (star_any ok.2 _ _)) fun σ H Q ⟨H₀, G₀, io, F, A, env, t, env', hp, hl, R, h1, q⟩ => ?_
  unfold evIO at h1
  rw [hf] at h1
  have h1' : (match env[i]? with
    | some (some (.ow ts)) => (unsh ts).bind fun ds => if ds.all scal then (evA Γ i ds (dEnv (env.set i none)) k m).bind fun l => (g l).bind fun r => if flatT r.1 && r.2.all scal then some (r.1, env.set i (some (.ow (r.2.map T.sh)))) else none else none
    | _ => none) = some (t, env') := h1
  split at h1'
  · rename_i ts he
    obtain ⟨ds, h2, h9⟩ := bsi h1'
    have := unsh_eq h2
    subst this
    split at h9
    · rename_i hs
      obtain ⟨l, h3, h9⟩ := bsi h9
      obtain ⟨⟨t1, ds'⟩, h4, h9⟩ := bsi h9
      split at h9
      · rename_i hfl
        obtain ⟨hfl, hs'⟩ := bae hfl
        cases h9
        obtain ⟨a, xs, B, e1, e2, hA, hx, fp, os⟩ := R.own (show owAt env i = some _ by unfold owAt; rw [he])
        obtain ⟨dx, hB⟩ := os.unsh
        subst hB
        refine ⟨but H a, _, ds, l, a, but_same, R.seeBut hA, e2, h3, fun vs H1 G1 x1 y1 y2 y3 y4 => ?_⟩
        show spIO X.K cl k g (vs ++ []) H1 Q E0
        rw [List.append_nil]
        have R1 := R.same x1.hh
        have ga : G1 a = none := by
          cases z : G1 a with
          | none => rfl
          | some o => have := x1.nw a o z but_at; rw [hx] at this; cases this
        refine ⟨G1, l, a, xs, ds, _, _, x1.gh, y1, y2, y3, x1.hh _ _ hx, ga, dx.scal hs G1, y4, h4, hfl, hs, hs', fun v H' G' xs' B k1 k2 k3 k4 k5 k6 k7 k8 k9 => ?_⟩
        have nB : ∀ b ∈ B, ∀ j, b ∉ A j := fun b hb j hj => by
          obtain ⟨_, o, z⟩ := R1.at_ hj
          rw [k9 b hb] at z; cases z
        have fB : ∀ b ∈ B, F b = none := fun b hb => R1.fh.free (k9 b hb)
        have aA : a ∈ A i := by rw [hA]; simp
        have nea : ∀ j b, j ≠ i → b ∈ A j → b ≠ a := fun j b hj hb z => R.dj j i b hj hb (by rw [z]; exact aA)
        have a0 : ∀ b o, H₀ b = some o → (∀ p, io ≠ some (p, b)) → b ≠ a := fun b o w1 w2 z => by
          rcases R.anew i a aA with ⟨q, w⟩ | w
          · exact w2 q (by rw [z]; exact w)
          · rw [z, w] at w1; cases w1
        refine q v H' A B (by simp [hl]) ⟨fun j u e' => ?_, fun j hh => ?_, R.nd, R.dj, fun b o z => ?_, R.gf, R.fnew, fun b o z1 z2 => ?_, R.anew, R.iok⟩ (k7.flat hfl fB) k8 fun b hb => ⟨R1.new (k9 b hb), nB b hb⟩
        · by_cases hj : j = i
          · subst hj
            rw [List.getElem?_set_self (by rw [hl]; exact (List.getElem?_eq_some_iff.mp e2).1)] at e'
            cases e'
            refine ⟨.ref a, e2, ?_⟩
            rw [hA]
            exact .ow k5 fp (OTs.shs (k6.scal hs' F))
          · rw [List.getElem?_set_ne (Ne.symm hj)] at e'
            obtain ⟨w, z3, z4⟩ := R1.slot j u e'
            exact ⟨w, z3, z4.move (.refl _) (fun b hb => (z4.free b hb).1) fun b hb o qq => k1 b o (nea j b hj hb) qq⟩
        · by_cases hj : j = i
          · subst hj; exact absurd (List.getElem?_set_self (by rw [hl]; exact (List.getElem?_eq_some_iff.mp e2).1)) (hh _)
          · refine R.out j fun u z => hh u ?_
            rw [List.getElem?_set_ne (Ne.symm hj)]; exact z
        · exact k1 b o (ne_of_none z fp) (R1.fh _ _ z)
        · exact k1 b o (a0 b o z1 z2) (R1.keep b o z1 z2)
      · cases h9
    · cases h9
  · cases h1'
end
section
variable {K : W.Frag} {cl : Nat → Option Addr} {Γ : Tab} {Δ : IOT} {pio : Option Nat} {En : Ends} {σ : St} {H : Hp}
theorem s_dropio {f i : Nat} {args : E} (h : tS K cl Γ Δ pio (.dropio f i args) En σ H) : tDrop (tIOC K cl Γ Δ pio f i args) En σ H := by
  obtain ⟨H₀, G₀, io, F, A, env, n, fl, env', hp, hl, R, e, po⟩ := h
  obtain ⟨⟨t, env1⟩, h1, h2⟩ := msi (show (evIO Γ Δ f i args env).map (fun r => (Fl.nx, r.2)) = some (fl, env') from e)
  cases h2
  exact ⟨H₀, G₀, io, F, A, env, t, env1, hp, hl, R, h1, fun v H' A' B l1 R' ot nd nw => po σ H' F A' l1 rfl (fun _ _ => rfl) (.refl _) R'⟩
noncomputable def tNotIf (neg : Bool) (t : TE) : TT := fun σ H Q => t σ H fun v H1 => ∃ b, v = .bl b ∧ Q (b != neg) H1
theorem s_ifio {neg : Bool} {f i : Nat} {args : E} {a b : S} (h : tS K cl Γ Δ pio (.ifio neg f i args a b) En σ H) : tIfS (tNotIf neg (tIOC K cl Γ Δ pio f i args)) (tS K cl Γ Δ pio a) (tS K cl Γ Δ pio b) En σ H := by
  obtain ⟨H₀, G₀, io, F, A, env, n, fl, env', hp, hl, R, e, po⟩ := h
  obtain ⟨⟨t, env1⟩, h1, h2⟩ := bsi (show (evIO Γ Δ f i args env).bind (fun r => match r.1 with
    | .sh (.bl t) => if (t != neg) then ex Γ Δ pio n a r.2 else ex Γ Δ pio n b r.2
    | _ => none) = some (fl, env') from e)
  refine ⟨H₀, G₀, io, F, A, env, t, env1, hp, hl, R, h1, fun v H' A' B l1 R' ot nd nw => ?_⟩
  cases t with
  | ow ts => cases h2
  | ob _ _ _ => cases h2
  | sh d =>
    cases d with
    | bl c =>
      have h2' : (if (c != neg) then ex Γ Δ pio n a env1 else ex Γ Δ pio n b env1) = some (fl, env') := h2
      cases ot with
      | sh dn =>
        cases dn
        refine ⟨c, rfl, ?_⟩
        cases hc : (c != neg) with
        | true =>
          rw [hc] at h2'
          exact iteT ⟨H₀, G₀, io, F, A', env1, n, fl, env', hp, l1, R', h2', fun σ' H' F' A' l1 l2 st sf R' => po σ' H' F' A' l1 l2 (fun k hk => st k fun z => hk (by simp [asgs, z])) sf R'⟩
        | false =>
          rw [hc] at h2'
          exact iteF ⟨H₀, G₀, io, F, A', env1, n, fl, env', hp, l1, R', h2', fun σ' H' F' A' l1 l2 st sf R' => po σ' H' F' A' l1 l2 (fun k hk => st k fun z => hk (by simp [asgs, z])) sf R'⟩
    | _ => cases h2
theorem s_appio {j f i : Nat} {args : E} (h : tS K cl Γ Δ pio (.appio j f i args) En σ H) : tDrop (tBM K "list" rAppend (tVar j) (tCons (tIOC K cl Γ Δ pio f i args) tNil)) En σ H := by
  obtain ⟨H₀, G₀, io, F, A, env, n, fl, env', hp, hl, R, e, po⟩ := h
  have e' : (if j = i then none else (evIO Γ Δ f i args env).bind fun r => (owAt r.2 j).bind fun ts => if sz ts.length then some (Fl.nx, r.2.set j (some (.ow (ts ++ [r.1])))) else none) = some (fl, env') := e
  split at e'
  · cases e'
  · rename_i hji
    obtain ⟨⟨t, env1⟩, h1, e'⟩ := bsi e'
    obtain ⟨ts, h2, e'⟩ := bsi e'
    have h2 : owAt env1 j = some ts := h2
    split at e'
    · rename_i hz
      cases e'
      have h2' : owAt env j = some ts := by
        unfold evIO at h1
        obtain ⟨kg, _, h1⟩ := bsi h1
        split at h1
        · obtain ⟨ds, _, h1⟩ := bsi h1
          split at h1
          · obtain ⟨l, _, h1⟩ := bsi h1
            obtain ⟨r, _, h1⟩ := bsi h1
            split at h1
            · cases h1
              rcases owAt_set h2 with ⟨z, _⟩ | z
              · exact absurd z hji
              · exact z
            · cases h1
          · cases h1
        · cases h1
      obtain ⟨p, xs, _, _, h3, _, h4, _, _⟩ := R.own h2'
      refine ⟨.ref p, h3, ty_list h4, H₀, G₀, io, F, A, env, t, env1, hp, hl, R, h1, fun v H' A' B l1 R' ot nd nw => ?_⟩
      obtain ⟨p', xs', B', h6, h7, hA, hx, fp, os⟩ := R'.own h2
      rw [h3] at h7
      cases h7
      have ndA := R'.nd j
      rw [hA] at ndA
      obtain ⟨np, ndB⟩ := List.nodup_cons.mp ndA
      refine ⟨p, xs', v, rfl, rfl, hx, ?_, ?_⟩
      · have := odt hz
        rw [os.length, sizeLine_eq]; omega
      · refine po σ _ F _ (by simpa using l1) rfl (fun _ _ => rfl) (.refl _) (R'.rewrite (xs := xs') (C := B) h6 h3 hA (os.snoc ot) ?_ (fun a ha => List.mem_append.mp ha) fun a ha => ⟨(nw a ha).1, fun z => (nw a ha).2 j (by rw [hA, z]; simp), (nw a ha).2⟩)
        exact List.nodup_append.mpr ⟨ndB, nd, fun a ha b hb e => (nw b hb).2 j (by rw [hA, ← e]; simp [ha])⟩
    · cases e'
end
section
variable {K : W.Frag} {cl : Nat → Option Addr} {H₀ G₀ F H : Hp} {io : Option (Nat × Addr)} {A : Nat → List Addr} {σ : St} {env : TEnv}
end
section
variable {K : W.Frag} {cl : Nat → Option Addr} {Γ : Tab} {Δ : IOT} {pio : Option Nat} {En : Ends} {σ : St} {H : Hp}
end
section
variable {X : Cx} {cl : Nat → Option Addr} {Γ : Tab} {c : CC}
theorem var_inv {n : Nat} {top : Bool} {N : List Str} {sc : Scope} {e : Expr} {i : Nat} (S : Sees X cl c Γ top N sc) (h : cE c n top N sc e = some (.var i)) : PE X e (tVar i) := by
  cases n with
  | zero => cases h
  | succ n =>
    have hh := cE_head h
    cases e
    case Name x pos =>
      replace h : cNa c N sc x = some (.var i) := h
      unfold cNa at h
      split at h
      · rename_i ok
        obtain ⟨n1, n2, n3⟩ := okN_ok ok
        split at h
        · rename_i j hi
          cases h
          have hN := nIdx_get hi
          exact pe_var (i := i) (by rw [S.hN]; exact hN) (S.vis i _ hN) n1 n2
        · split at h
          · split at h
            · cases h
            · split at h <;> cases h
          · cases h
      · cases h
    all_goals cases hh
theorem comp_inv (hΓ : ∀ x f, c.tab.lookup x = some f → ∃ g, Γ f = some g) {n : Nat} {N : List Str} {sc : Scope} {elt iter : Expr} {x : Str} {px pos : Pos} {ifs : List Expr} {scope : Scope} {m : E} (S : Sees X cl c Γ true N sc) (h : cE c n true N sc (.ListComp elt [⟨.Name x px, iter, ifs, 0⟩] scope pos) = some m) :
    ∃ fr is mi me mc tt, m = .comp me is mi mc ∧ CompScope sc N scope x fr is ∧ PI X (.Name x px) iter (tI X.K cl Γ mi) ∧ (∀ C s H fp pins, PTs (compCx X scope (x :: fr) C s H fp pins) ifs tt) ∧ (∀ C s H fp pins, PE (compCx X scope (x :: fr) C s H fp pins) elt (tV X.K cl Γ me)) ∧
      (∀ σ H (Q : Bool → Hp → Prop), (∃ G env b, Same G H ∧ EnvD X.K cl G env σ ∧ cS mc (ev Γ mc env) = some b ∧ ∀ H' G', Ext H G H' G' → Q b H') → tt σ H Q) ∧ (∀ v, foldedSetIterable iter X.env v = pure v) := by
  cases n with
  | zero => cases h
  | succ n =>
    have ih1 : ∀ e m, cE c n true N sc e = some m → PE X e (tV X.K cl Γ m) := fun e m h => (cE_ok hΓ n true N sc e m X S h).1
    have h' : (if okE iter then (slotsOf N (frees scope.names)).bind fun is => if compOk sc N scope x (frees scope.names) is then
        (cI false (isGl N sc) (fun y => (c.tab.lookup y).isSome) (cE c n true N sc) iter).bind fun mi =>
        (cE c n false (x :: frees scope.names) scope elt).bind fun me => (cIfs (cE c n false (x :: frees scope.names) scope) ifs).map fun mc => .comp me is mi mc
      else none else none) = some m := h
    split at h'
    · rename_i oi
      obtain ⟨is, h1, h⟩ := bsi h'
      split at h
      · rename_i cs
        have cs := compOk_ok cs
        obtain ⟨mi, h2, h⟩ := bsi h
        obtain ⟨me, h3, h⟩ := bsi h
        obtain ⟨mc, h4, rfl⟩ := msi h
        have hi : PI X (.Name x px) iter (tI X.K cl Γ mi) := ci_ok S ih1 (fun z => by cases z) h2
        have he : ∀ C s H fp pins, PE (compCx X scope (x :: frees scope.names) C s H fp pins) elt (tV X.K cl Γ me) := fun C s H fp pins => (cE_ok hΓ n false _ scope elt me _ (S.comp cs C s H fp pins) h3).1
        have hfs : ∀ v, foldedSetIterable iter X.env v = pure v := by intro v; cases iter <;> first | rfl | cases oi
        cases ifs with
        | nil =>
          cases h4
          exact ⟨_, is, mi, me, _, tTrue, rfl, cs, hi, fun _ _ _ _ _ => pts_nil, he, fun σ H Q ⟨G, env, b, sg, en, e, q⟩ => by
            have e' : some true = some b := e
            cases e'
            exact q H G (Ext.refl sg), hfs⟩
        | cons t r =>
          cases r with
          | nil =>
            have h4' : (if okT t then (cE c n false (x :: frees scope.names) scope t).bind fun m => if isNil m then none else some m else none) = some mc := h4
            split at h4'
            · rename_i okt
              obtain ⟨m', h5, h6⟩ := bsi h4'
              split at h6
              · cases h6
              · rename_i nn
                cases h6
                have ht : ∀ C s H fp pins, PT (compCx X scope (x :: frees scope.names) C s H fp pins) t (tVT X.K cl Γ mc) := fun C s H fp pins => (cE_ok hΓ n false _ scope t mc _ (S.comp cs C s H fp pins) h5).2 okt
                exact ⟨_, is, mi, me, mc, tVT X.K cl Γ mc, rfl, cs, hi, fun C s H fp pins => pts_one (ht C s H fp pins), he, fun σ H Q ⟨G, env, b, sg, en, e, q⟩ => by
                  unfold cS at e
                  rw [if_neg nn] at e
                  exact ⟨G, env, b, sg, en, e, q⟩, hfs⟩
            · cases h4'
          | cons t2 r2 => cases h4
      · cases h
    · cases h'
theorem tX_comp {K : W.Frag} {pio : Option Nat} {me mi mc : E} {is : List Nat} {σ : St} {H : Hp} {Q : VK} (h : tX K cl Γ pio (.comp me is mi mc) σ H Q) : tF K cl Γ (.comp me is mi mc) σ H Q := by
  obtain ⟨H₀, G₀, io, F, A, env, t, env', hp, hl, R, ev', q⟩ := h
  rw [evX_other rfl] at ev'
  obtain ⟨d, ed, ev'⟩ := bsi ev'
  have hd : ∃ ds, d = .lst ds := by
    obtain ⟨ds, _, e⟩ := bsi (show ((ev Γ mi (dEnv env)).bind walkD).bind (fun ds => if sz ds.length then (compR (fun d => (cS mc (ev Γ mc (inner (dEnv env) is d))).bind fun b => if b then (ev Γ me (inner (dEnv env) is d)).map some else some none) ds).map D.lst else none) = some d from ed)
    split at e
    · obtain ⟨o, _, rfl⟩ := msi e
      exact ⟨o, rfl⟩
    · cases e
  obtain ⟨ds, rfl⟩ := hd
  rw [if_neg (show ¬ scal (D.lst ds) = true from fnt)] at ev'
  rw [if_pos (show fresh (E.comp me is mi mc) = true from rfl)] at ev'
  obtain ⟨ds2, e1, ev2⟩ := bsi ev'
  cases e1
  split at ev2
  · rename_i al
    cases ev2
    refine ⟨H, _, _, .refl _, R.see, ed, fun p xs H1 G1 x hpn gpn hat dx => ?_⟩
    refine q (.ref p) H1 F A [p] hl (.of_same x.hh) (R.same x.hh) (.ow hat (R.fh.free hpn) (OTs.shs (dx.scal al F))) (by simp) (fun a ha => ?_)
    have e : a = p := by simpa using ha
    rw [e]; exact hpn
  · obtain ⟨env1, ef, ev'⟩ := bsi ev2
    obtain ⟨ds', e2, ev'⟩ := msi ev'
    cases ev'
    obtain ⟨d', e3, e4⟩ := bsi e2
    have hd : d' = .lst ds' := by cases d' <;> cases e4; rfl
    subst hd
    obtain ⟨F1, A1, R1, l1, g1⟩ := frz_ok hp R ef
    refine ⟨F1, _, ds', R1.fh, R1.seeF, e3, fun p xs H1 G1 x hpn gpn hat dx => ?_⟩
    refine q (.ref p) H1 G1 A1 [p] (l1.trans hl) (g1.trans (.of_ext x)) (R1.ext x) (.ow hat gpn (OTs.shs dx)) (by simp) (fun a ha => ?_)
    have e : a = p := by simpa using ha
    rw [e]; exact hpn
end
theorem swaps_comp (elt : Expr) (gs : List Comprehension) (scope : Scope) (pos : Pos) (y : Str) (py : Pos) (l : Nat) (env : PySem.Env) : swapsWith (.ListComp elt gs scope pos) (some (.Name y py)) l env = pure (env.blockKind == .function && env.kindOf y == some .local && py.line == pos.line && !(scope.names.any fun (n, k) => n == y && (k == .local || k == .cell))) := rfl
noncomputable def isComp : Expr → Bool
  | .ListComp _ _ _ _ => true
  | .SetComp _ _ _ _ => true
  | .DictComp _ _ _ _ _ => true
  | _ => false
theorem swaps_not {e : Expr} (h : isComp e = false) (t : Option Expr) (l : Nat) (env : PySem.Env) : swapsWith e t l env = pure false := by
  cases e <;> first | rfl | cases h
section
variable {X : Cx} {cl : Nat → Option Addr} {Γ : Tab} {c : CC}
end
section
variable {K : W.Frag} {cl : Nat → Option Addr} {Γ : Tab} {Δ : IOT} {pio : Option Nat} {En : Ends} {σ : St} {H : Hp}
end
section
variable {K : W.Frag} {cl : Nat → Option Addr} {Γ : Tab} {Δ : IOT} {pio : Option Nat} {En : Ends} {σ : St} {H : Hp}
end
noncomputable def spMIO (K : W.Frag) (cl : Nat → Option Addr) (C : Addr) (g : List D → Option (T × List D)) : Sp := fun vs H Q _ => ∃ G x dx a vs' xs ds l r, Same G H ∧ vs = .ref x :: vs' ∧ H x = some (.ins C dx [("counts", .ref a)]) ∧ H a = some (.lst xs) ∧ G a = none ∧ Dns K cl G xs ds ∧ Dns K cl G vs' l ∧ g (.lst ds :: l) = some r ∧ nonT r.1 = true ∧ ds.all scal = true ∧ r.2.all scal = true ∧
  ∀ H' G' xs', (∀ b o, b ≠ a → H b = some o → H' b = some o) → Same G G' → Same G' H' → (∀ b o, G' b = some o → G b = none → H b = none) → H' a = some (.lst xs') → Dns K cl G' xs' r.2 → Q .non H'
structure GoodMIO (X : Cx) (cl : Nat → Option Addr) (C : Addr) (m : Str) (g : List D → Option (T × List D)) : Prop where
  ex : ∃ k f fd ps, Meth X.K C m f ∧ FnOk X.prog X.w X.K X.mg X.base CX0 k f fd ps (spMIO X.K cl C g) ∧ Room k X.A ∧ Binds X.K fd ps []
section
variable {X : Cx} {cl : Nat → Option Addr} {Γ : Tab} {Δ : IOT} {pio : Option Nat}
end
section
variable {K : W.Frag} {cl : Nat → Option Addr} {Γ : Tab} {Δ : IOT} {pio : Option Nat} {En : Ends} {σ : St} {H : Hp}
end
structure CS where
  cc : CC
  iot : List (Str × Nat × Nat)
noncomputable def cIo (c : CS) (n : Nat) (N : List Str) (sc : Scope) (e : Expr) : Option (Nat × Nat × E) := match e with
  | .Call (.Name x _) args [] _ => if args.all okE && isGl N sc x && !args.isEmpty then (c.iot.lookup x).bind fun fk => (cList (cE c.cc n true N sc) args).bind fun m => ((args[fk.2]?).bind fun a => match a with
      | .Name y _ => nIdx N y
      | _ => none).map fun i => (fk.1, i, m) else none
  | _ => none
noncomputable def cM (c : CS) (n : Nat) (N : List Str) (sc : Scope) (o : Expr) (m : Str) (args : List Expr) : Option S := (nmOf o).bind fun x => match args with
  | [a] => if m == ("append" : Str) then (if okN x then (nIdx N x).bind fun i => match cIo c n N sc a with
        | some (f, j, ma) => some (.appio i f j ma)
        | none => (cE c.cc n true N sc a).map (.app i) else none)
      else none
  | [k, a] => if m == ("insert" : Str) then (if okN x then (nIdx N x).bind fun i => (cE c.cc n true N sc k).bind fun mk => (cE c.cc n true N sc a).map fun ma => .ins i mk ma else none) else none
  | _ => none
noncomputable def cX (c : CS) (n : Nat) (N : List Str) (sc : Scope) (e : Expr) : Option S := match e with
  | .Call (.Attribute o m apos) args [] cpos => if args.all okE && isBm apos cpos && attrOk o then cM c n N sc o m args else none
  | .Call (.Name x p) args [] q => match cIo c n N sc (.Call (.Name x p) args [] q) with
    | some (f, i, m) => some (.dropio f i m)
    | none => (cE c.cc n true N sc (.Call (.Name x p) args [] q)).map .drop
  | _ => none
noncomputable def cTio (c : CS) (n : Nat) (N : List Str) (sc : Scope) (e : Expr) : Option (Bool × Nat × Nat × E) := match e with
  | .UnaryOp .Not a _ => (cIo c n N sc a).map fun r => (true, r)
  | a => (cIo c n N sc a).map fun r => (false, r)
noncomputable def okSw (sc : Scope) (ts : List (Str × Pos)) (vs : List Expr) : Option Bool := match ts with
  | [(x, px), (y, py)] => if decide (sc.names.lookup x = some .local) && decide (sc.names.lookup y = some .local) && px.line == py.line then (if vs.all (foldedForSure 8) then some false else if vs.all (constantsAlone 8) then none else some true) else some false
  | _ => none
noncomputable def cAs (c : CS) (n : Nat) (N : List Str) (sc : Scope) (ts : List Expr) (e : Expr) : Option S := match ts with
  | [.Name x px] => if okN x then (nIdx N x).bind fun i => (cE c.cc n true N sc e).map (.asg i) else none
  | [.Tuple [.Name x px, .Name y py] _ _] => (match e with
    | .Tuple [a, b] _ _ => if okN x && okN y && okE a && okE b then (nIdx N x).bind fun i => (nIdx N y).bind fun j => (cE c.cc n true N sc a).bind fun m => (cE c.cc n true N sc b).bind fun l => (okSw sc [(x, px), (y, py)] [a, b]).map fun _ => .asg2 i j m l else none
    | _ => none)
  | [.Subscript (.Name x _) k _] => if okN x && okE k && !isComp e then (nIdx N x).bind fun i => (cE c.cc n true N sc k).bind fun mk => (cE c.cc n true N sc e).map fun m => .set i mk m else none
  | _ => none
noncomputable def cIs (c : CS) (n : Nat) (N : List Str) (sc : Scope) (rc : List Stmt → Option S) (t : Expr) (a b : List Stmt) : Option S := (rc a).bind fun ma => (rc b).bind fun mb => match cTio c n N sc t with
    | some (ng, f, i, m) => some (.ifio ng f i m ma mb)
    | none => if okT t then (cE c.cc n true N sc t).map fun mt => .ife mt ma mb else none
noncomputable def cFo (c : CS) (n : Nat) (N : List Str) (sc : Scope) (rc : List Stmt → Option S) (t it : Expr) (body : List Stmt) : Option S := match t with
  | .Name x _ => if okN x && okE it then (nIdx N x).bind fun i => (cI false (isGl N sc) (fun y => (c.cc.tab.lookup y).isSome) (cE c.cc n true N sc) it).bind fun mi => (rc body).map fun mb => .for1 i mi mb else none
  | .Tuple [.Name x _, .Name y _] _ _ => if okN x && okN y && okE it then (nIdx N x).bind fun i => (nIdx N y).bind fun j => (cI true (isGl N sc) (fun y => (c.cc.tab.lookup y).isSome) (cE c.cc n true N sc) it).bind fun mi => (rc body).map fun mb => .for2 i j mi mb else none
  | _ => none
noncomputable def cWh (c : CS) (n : Nat) (N : List Str) (sc : Scope) (rc : List Stmt → Option S) (t : Expr) (body : List Stmt) : Option S := if okT t then (cE c.cc n true N sc t).bind fun mt => (rc body).map fun mb => .wh mt mb else none
noncomputable def noEls (els : List Stmt) (o : Option S) : Option S := match els with
  | [] => o
  | _ => none
noncomputable def cS1 (c : CS) (n : Nat) (N : List Str) (sc : Scope) (rc : List Stmt → Option S) (st : Stmt) : Option S := match st with
  | .Pass _ => some .nop
  | .Expr e _ => cX c n N sc e
  | .Assign ts e _ => cAs c n N sc ts e
  | .If t a b _ => cIs c n N sc rc t a b
  | .For t it body els _ => noEls els (cFo c n N sc rc t it body)
  | .While t body els _ => noEls els (cWh c n N sc rc t body)
  | .Return o _ => o.bind fun e => (cE c.cc n true N sc e).map .ret
  | .Raise _ _ _ => some .raise
  | _ => none
noncomputable def cSt (c : CS) : Nat → List Str → Scope → List Stmt → Option S
  | 0, _, _, _ => none
  | n + 1, N, sc, l => match l with
    | [] => some .nop
    | st :: rest => (cS1 c n N sc (cSt c n N sc) st).bind fun a => (cSt c n N sc rest).map fun b => .seq a b
structure SSees (X : Cx) (cl : Nat → Option Addr) (c : CS) (Γ : Tab) (Δ : IOT) (N : List Str) (sc : Scope) : Prop where
  S : Sees X cl c.cc Γ true N sc
  hΓ : ∀ x f, c.cc.tab.lookup x = some f → ∃ g, Γ f = some g
  nd : N.Nodup
  loc : ∀ (i : Nat) (x : Str), N[i]? = some x → Loc X.env.scope x
  fn : ∀ x, X.fn x = true
  kd : X.env.scope.kind = .function
  pw : PassesOwn (model X.prog X.w) X.A X.env X.xe
  io : ∀ x f k, c.iot.lookup x = some (f, k) → ∃ g, Δ f = some (k, g) ∧ GoodIO X cl x k g
  mio : ∀ d C k m g, MTH[k]? = some m → cl d = some C → Δ (mid d k) = some (0, g) → GoodMIO X cl C m g
theorem psI {X : Cx} {st : Stmt} {t t' : TS} (h : PS X st t) (i : ∀ D σ H, t' D σ H → t D σ H) : PS X st t' := fun pins s σ H D I q => h pins s σ H D I (i D σ H q)
theorem pssI {X : Cx} {st : List Stmt} {t t' : TS} (h : PSs X st t) (i : ∀ D σ H, t' D σ H → t D σ H) : PSs X st t' := fun pins s σ H D I q => h pins s σ H D I (i D σ H q)
section
variable {X : Cx} {cl : Nat → Option Addr} {c : CS} {Γ : Tab} {Δ : IOT} {pio : Option Nat} {N : List Str} {sc : Scope}
theorem SSees.bk (S : SSees X cl c Γ Δ N sc) : X.env.blockKind = .function := by unfold PySem.Env.blockKind; rw [S.kd]; rfl
theorem cio_ok (S : SSees X cl c Γ Δ N sc) {n : Nat} {e : Expr} {f i : Nat} {m : E} (h : cIo c n N sc e = some (f, i, m)) : PE X e (tIOC X.K cl Γ Δ pio f i m) := by
  unfold cIo at h
  split at h
  · rename_i x p args q
    split at h
    · rename_i ok
      obtain ⟨ok, ne⟩ := bae ok
      obtain ⟨ok, gx⟩ := bae ok
      obtain ⟨⟨f', k⟩, h1, h⟩ := bsi h
      obtain ⟨m', h2, h⟩ := bsi h
      obtain ⟨i', h3, h4⟩ := msi h
      cases h4
      obtain ⟨g, hg, G⟩ := S.io x _ _ h1
      obtain ⟨o1, g1⟩ := isGl_ok gx
      cases args with
      | nil => cases ne
      | cons e es => exact pe_ioc (S.S.gl x g1) (okN_ok o1).1 G hg (pa_io (fun e i h => var_inv S.S h) (fun e m h => (cE_ok S.hΓ n true N sc e m X S.S h).1) ok h2) ok
    · cases h
  · cases h
theorem base_ok {o : Expr} (h : attrOk o = true) (name : Str) (env : PySem.Env) : attributeBase o name env (eval o env) = eval o env := by
  unfold attributeBase
  split
  · rename_i id p pos
    cases h
  · rfl
theorem pe_meth1 {o a : Expr} {m : Str} {id : String} {r : V → List V → Hp → VK → Prop} {to ta : TE} {apos cpos : Pos} (slot : Slot "list" m id) (hty : typeOf (.builtin id) = pure (.type "method_descriptor")) (hm : MtR X id r) (ho : PE X o to) (ha : PE X a ta) (oa : okE a = true) (bm : isBm apos cpos = true) (ao : attrOk o = true) :
    PE X (.Call (.Attribute o m apos) [a] [] cpos) (tBM X.K "list" r to (tCons ta tNil)) :=
  pe_bm PySem.F.plainAttrs_list slot hty hm ho (pa_cons ha pa_nil (star_of oa _ _)) (base_ok ao _ _) (few_ok (es := [a]) (by rw [List.all_cons, oa]; rfl) _ _ (by simp)) bm (star_of oa _ _) rfl
theorem pe_meth2 {o a b : Expr} {m : Str} {id : String} {r : V → List V → Hp → VK → Prop} {to ta tb : TE} {apos cpos : Pos} (slot : Slot "list" m id) (hty : typeOf (.builtin id) = pure (.type "method_descriptor")) (hm : MtR X id r) (ho : PE X o to) (ha : PE X a ta) (hb : PE X b tb) (oa : okE a = true) (ob : okE b = true) (bm : isBm apos cpos = true) (ao : attrOk o = true) :
    PE X (.Call (.Attribute o m apos) [a, b] [] cpos) (tBM X.K "list" r to (tCons ta (tCons tb tNil))) :=
  pe_bm PySem.F.plainAttrs_list slot hty hm ho (pa_cons ha (pa_cons hb pa_nil (star_of ob _ _)) (star_of oa _ _)) (base_ok ao _ _) (few_ok (es := [a, b]) (by rw [List.all_cons, List.all_cons, oa, ob]; rfl) _ _ (by simp)) bm (star_of oa _ _) (star_any (es := [b]) (by rw [List.all_cons, ob]; rfl) _ _)
end
section
variable {X : Cx} {cl : Nat → Option Addr} {c : CS} {Γ : Tab} {Δ : IOT} {pio : Option Nat} {N : List Str} {sc : Scope}
theorem SSees.pv (S : SSees X cl c Γ Δ N sc) {x : Str} {i : Nat} {p : Pos} (ok : okN x = true) (h : nIdx N x = some i) : PE X (.Name x p) (tVar i) := by
  have hN := nIdx_get h
  obtain ⟨n1, n2, n3⟩ := okN_ok ok
  exact pe_var (by rw [S.S.hN]; exact hN) (S.S.vis i x hN) n1 n2
theorem SSees.pg (S : SSees X cl c Γ Δ N sc) {x : Str} {i : Nat} {p : Pos} (h : nIdx N x = some i) : PG X (.Name x p) (gName i) := by
  have hN := nIdx_get h
  exact pg_name (i := i) (by rw [S.S.hN]; exact S.nd) (by rw [S.S.hN]; exact hN) (S.loc i x hN) (.inl (S.fn x))
theorem cM_ok (S : SSees X cl c Γ Δ N sc) {n : Nat} {o : Expr} {m : Str} {args : List Expr} {s : MI.S} {apos cpos pos : Pos} (ok : args.all okE = true) (bm : isBm apos cpos = true) (ao : attrOk o = true) (h : cM c n N sc o m args = some s) :
    PS X (.Expr (.Call (.Attribute o m apos) args [] cpos) pos) (tS X.K cl Γ Δ pio s) := by
  have pe := fun e m (h : cE c.cc n true N sc e = some m) => (cE_ok S.hΓ n true N sc e m X S.S h).1
  have px := fun e m (h : cE c.cc n true N sc e = some m) => evX_ok (pio := pio) S.hΓ S.S h
  replace h := bsi h
  obtain ⟨x, h0, h⟩ := h
  obtain ⟨p, rfl⟩ := nmOf_ok h0
  split at h
  · rename_i a
    rw [List.all_cons, Bool.and_eq_true] at ok
    split at h
    · rename_i hm
      have hm : m = "append" := by simpa using hm
      rw [hm]
      split at h
      · rename_i ox
        obtain ⟨i, hi, h⟩ := bsi h
        split at h
        · rename_i f j ma hio
          cases h
          exact psI (ps_expr (pe_meth1 PySem.F.slot_list_append PySem.F.type_list_append mt_append (S.pv ox hi) (cio_ok (pio := pio) S hio) ok.1 bm ao) rfl) fun D σ H q => s_appio q
        · obtain ⟨ma, h1, rfl⟩ := msi h
          exact psI (ps_expr (pe_meth1 PySem.F.slot_list_append PySem.F.type_list_append mt_append (S.pv ox hi) (px a ma h1) ok.1 bm ao) rfl) fun D σ H q => s_app q
      · cases h
    · cases h
  · rename_i k a
    rw [List.all_cons, Bool.and_eq_true, List.all_cons, Bool.and_eq_true] at ok
    split at h
    · rename_i hm
      have hm : m = "insert" := by simpa using hm
      rw [hm]
      split at h
      · rename_i ox
        obtain ⟨i, hi, h⟩ := bsi h
        obtain ⟨mk, h1, h⟩ := bsi h
        obtain ⟨ma, h2, rfl⟩ := msi h
        exact psI (ps_expr (pe_meth2 PySem.F.slot_list_insert PySem.F.type_list_insert mt_insert (S.pv ox hi) (pe k mk h1) (pe a ma h2) ok.1 ok.2.1 bm ao) rfl) fun D σ H q => s_ins q
      · cases h
    · cases h
  · cases h
theorem cX_ok (S : SSees X cl c Γ Δ N sc) {n : Nat} {e : Expr} {s : MI.S} {pos : Pos} (h : cX c n N sc e = some s) : PS X (.Expr e pos) (tS X.K cl Γ Δ pio s) := by
  unfold cX at h
  split at h
  · rename_i o m apos args cpos
    split at h
    · rename_i ok
      obtain ⟨ok, ao⟩ := bae ok
      obtain ⟨ok, bm⟩ := bae ok
      exact cM_ok S ok bm ao h
    · cases h
  · rename_i x p args q
    split at h
    · rename_i f i m hio
      cases h
      exact psI (ps_expr (cio_ok (pio := pio) S hio) rfl) fun D σ H q => s_dropio q
    · obtain ⟨m, h1, rfl⟩ := msi h
      exact psI (ps_expr (evX_ok (pio := pio) S.hΓ S.S h1) rfl) fun D σ H q => s_drop q
  · cases h
theorem cTio_ok (S : SSees X cl c Γ Δ N sc) {n : Nat} {e : Expr} {ng : Bool} {f i : Nat} {m : E} (h : cTio c n N sc e = some (ng, f, i, m)) : PT X e (tNotIf ng (tIOC X.K cl Γ Δ pio f i m)) := by
  have plain : ∀ {e : Expr} {f i : Nat} {m : E}, cIo c n N sc e = some (f, i, m) → PT X e (tB (tIOC X.K cl Γ Δ pio f i m)) := by
    intro e f i m h
    have hc : ∃ x p args q, e = .Call (.Name x p) args [] q := by
      unfold cIo at h
      split at h
      · exact ⟨_, _, _, _, rfl⟩
      · cases h
    obtain ⟨x, p, args, q, rfl⟩ := hc
    exact pt_val (cio_ok (pio := pio) S h) (by intro _; rfl)
  unfold cTio at h
  split at h
  · rename_i a pos
    obtain ⟨⟨f', i', m'⟩, h1, h2⟩ := msi h
    cases h2
    refine ptI (pt_not (plain h1)) fun σ H Q q => ?_
    obtain ⟨H₀, G₀, io, F, A, env, t, env', hp, hl, R, e1, q⟩ := q
    refine ⟨H₀, G₀, io, F, A, env, t, env', hp, hl, R, e1, fun v H' A' B l1 R' ot nd nw => ?_⟩
    obtain ⟨b, e2, q2⟩ := q v H' A' B l1 R' ot nd nw
    refine ⟨b, e2, ?_⟩
    cases b <;> exact q2
  · obtain ⟨⟨f', i', m'⟩, h1, h2⟩ := msi h
    cases h2
    refine ptI (plain h1) fun σ H Q q => ?_
    obtain ⟨H₀, G₀, io, F, A, env, t, env', hp, hl, R, e1, q⟩ := q
    refine ⟨H₀, G₀, io, F, A, env, t, env', hp, hl, R, e1, fun v H' A' B l1 R' ot nd nw => ?_⟩
    obtain ⟨b, e2, q2⟩ := q v H' A' B l1 R' ot nd nw
    refine ⟨b, e2, ?_⟩
    cases b <;> exact q2
@[simp] theorem pos_Name (x : Str) (p : Pos) : (Expr.Name x p).pos = p := rfl
theorem swapped_eq {x y : Str} {px py : Pos} {kt : Nat} {pt p2 : Pos} {k2 : Nat} {a b : Expr} {env : PySem.Env} {r : Bool} (hb : env.blockKind = .function) (oa : okE a = true) (ob : okE b = true) (hxy : x ≠ y) (hsc : env.scope = sc) (h : okSw sc [(x, px), (y, py)] [a, b] = some r) :
    swappedStores [.Tuple [.Name x px, .Name y py] kt pt] (.Tuple [a, b] k2 p2) env = pure (if r then some [x, y] else none) ∧ (r = true → sc.names.lookup x = some .local ∧ sc.names.lookup y = some .local) := by
  subst hsc
  have key : ∀ (p : Expr → Bool), (∀ e, okE e = true → p e = false) → ¬ ([a, b].any p) = true := by intro p hp; simp [hp a oa, hp b ob]
  have kx : env.kindOf x = env.scope.names.lookup x := rfl
  have ky : env.kindOf y = env.scope.names.lookup y := rfl
  unfold okSw at h
  simp only at h
  constructor
  · unfold swappedStores
    simp only [hb]
    rw [if_neg (by simp), if_neg (key _ (by intro e he; cases e <;> first | rfl | cases he))]
    simp only [List.head?_cons, Option.map_some, Option.getD_some, pos_Name]
    by_cases cx : List.lookup x env.scope.names = some NameKind.local
    · by_cases cy : List.lookup y env.scope.names = some NameKind.local
      · by_cases cl : px.line = py.line
        · rw [if_pos (by simp [cx, cy, cl])] at h
          have cl' : py.line = px.line := cl.symm
          have ed : ([x, y] : List Str).eraseDups.length = 2 := by
            rw [List.eraseDups_cons]
            simp [hxy, Ne.symm hxy, List.eraseDups_cons]
          simp only [List.filterMap_cons, List.filterMap_nil, kx, ky, cx, cy, cl', beq_self_eq_true, Bool.and_self, if_true]
          rw [if_neg (by rw [ed]; simp)]
          split at h
          · rename_i hf
            cases h
            rw [if_pos hf]
            rfl
          · rename_i hf
            rw [if_neg hf]
            split at h
            · cases h
            · rename_i hk
              cases h
              rw [if_neg hk]
              rfl
        · rw [if_neg (by simp [cl])] at h
          cases h
          have cl' : (py.line == px.line) = false := by simpa using fun z => cl z.symm
          simp only [List.filterMap_cons, List.filterMap_nil, kx, ky, cx, cy, cl', beq_self_eq_true, Bool.and_self, Bool.and_false, if_true, Bool.false_eq_true, if_false]
          rfl
      · rw [if_neg (by simp [cy])] at h
        cases h
        have cy' : (List.lookup y env.scope.names == some NameKind.local) = false := by simpa using cy
        simp only [List.filterMap_cons, List.filterMap_nil, kx, ky, cx, cy', beq_self_eq_true, Bool.and_self, Bool.false_and, if_true, Bool.false_eq_true, if_false]
        rfl
    · rw [if_neg (by simp [cx])] at h
      cases h
      have cx' : (List.lookup x env.scope.names == some NameKind.local) = false := by simpa using cx
      simp only [List.filterMap_cons, List.filterMap_nil, kx, ky, cx', Bool.false_and, Bool.false_eq_true, if_false]
      cases hc : (List.lookup y env.scope.names == some NameKind.local && py.line == px.line)
      · rfl
      · rfl
  · intro hr
    subst hr
    split at h
    · rename_i hc
      obtain ⟨hc, _⟩ := bae hc
      obtain ⟨h1, h2⟩ := bae hc
      exact ⟨odt h1, odt h2⟩
    · cases h
theorem cAsg_ok (S : SSees X cl c Γ Δ N sc) {n : Nat} {x : Str} {px pos : Pos} {e : Expr} {i : Nat} {m : E} (hi : nIdx N x = some i) (h : cE c.cc n true N sc e = some m) : PS X (.Assign [.Name x px] e pos) (tS X.K cl Γ Δ pio (.asg i m)) := by
  have hN := nIdx_get hi
  have nd : X.N.Nodup := by rw [S.S.hN]; exact S.nd
  have hN' : X.N[i]? = some x := by rw [S.S.hN]; exact hN
  have px' := evX_ok (pio := pio) S.hΓ S.S h
  have plain : swapsWith e (some (.Name x px)) pos.line X.env = pure false → PS X (.Assign [.Name x px] e pos) (tS X.K cl Γ Δ pio (.asg i m)) := fun hs =>
    psI (ps_set nd hN' (S.loc i x hN) px' hs (.inl (S.fn x))) fun D σ H q => s_asg q
  cases hc : isComp e with
  | false => exact plain (swaps_not hc _ _ _)
  | true =>
    cases n with
    | zero => cases h
    | succ n =>
      cases e
      case ListComp elt gs scope pos' =>
        have h' : cLc c.cc N sc (cE c.cc n true N sc) (fun N' e => cE c.cc n false N' scope e) elt scope gs = some m := h
        unfold cLc at h'
        split at h'
        · rename_i y py iter ifs
          have h2 : cE c.cc (n + 1) true N sc (.ListComp elt [⟨.Name y py, iter, ifs, 0⟩] scope pos') = some m := h
          obtain ⟨fr, is, mi, me, mc, tt, rfl, cs, hi', ht, he, htt, hfs⟩ := comp_inv S.hΓ S.S h2
          have hsc : X.env.scope = sc := S.S.tp rfl
          have sw := swaps_comp elt [⟨.Name y py, iter, ifs, 0⟩] scope pos' x px pos.line X.env
          cases hb : (X.env.blockKind == .function && X.env.kindOf x == some .local && px.line == pos'.line && !(scope.names.any fun (n, k) => n == x && (k == .local || k == .cell))) with
          | false => rw [hb] at sw; exact plain sw
          | true =>
            rw [hb] at sw
            rw [Bool.and_eq_true, Bool.and_eq_true, Bool.and_eq_true] at hb
            have hy : X.env.kindOf x = some .local := by simpa using hb.1.1.2
            refine psI (ps_setCompI S.S.calm hi' ht he cs nd hN' hy sw hsc S.S.hN hfs) fun D σ H q => ?_
            exact comp_tF htt (tX_comp (s_asg q))
        · cases h'
      all_goals first | (cases hc; done) | (cases h; done)
theorem cS1_ok (S : SSees X cl c Γ Δ N sc) {n : Nat} {rc : List Stmt → Option MI.S} (ih : ∀ l s, rc l = some s → PSs X l (tS X.K cl Γ Δ pio s)) {st : Stmt} {s : MI.S} (h : cS1 c n N sc rc st = some s) : PS X st (tS X.K cl Γ Δ pio s) := by
  have pe := fun e m (h : cE c.cc n true N sc e = some m) => (cE_ok S.hΓ n true N sc e m X S.S h).1
  have pxx := fun e m (h : cE c.cc n true N sc e = some m) => evX_ok (pio := pio) S.hΓ S.S h
  have nd : X.N.Nodup := by rw [S.S.hN]; exact S.nd
  have hsc : X.env.scope = sc := S.S.tp rfl
  have no : (none : Option MI.S) = some s → PS X st (tS X.K cl Γ Δ pio s) := fun z => by cases z
  cases st
  case Pass p =>
    cases h
    exact psI ps_pass fun D σ H q => s_nop q
  case Expr e p =>
    exact cX_ok S h
  case Assign ts e pos =>
    replace h : cAs c n N sc ts e = some s := h
    unfold cAs at h
    split at h
    · split at h
      · obtain ⟨i, hi, h⟩ := bsi h
        obtain ⟨m, h1, rfl⟩ := msi h
        exact cAsg_ok S hi h1
      · cases h
    · rename_i x px y py kt pt
      split at h
      rotate_left
      · cases h
      rename_i a b k2 p2
      split at h
      · rename_i ok
        obtain ⟨ok, ob⟩ := bae ok
        obtain ⟨ok, oa⟩ := bae ok
        obtain ⟨i, hi, h⟩ := bsi h
        obtain ⟨j, hj, h⟩ := bsi h
        obtain ⟨m, h1, h⟩ := bsi h
        obtain ⟨l, h2, h⟩ := bsi h
        obtain ⟨r, h3, rfl⟩ := msi h
        have hNi := nIdx_get hi
        have hNj := nIdx_get hj
        by_cases hij : i = j
        · -- the same name twice: no such row runs
          intro pins s σ H D I q
          obtain ⟨H₀, G₀, io, F, A, env, n', fl, env', hp, hl, R, e, po⟩ := q
          exfalso
          have e' : (if okI pio env i && okI pio env j && decide (i ≠ j) then (evX Γ pio m env).bind fun r => (evX Γ pio l r.2).map fun q => (Fl.nx, (q.2.set i (some r.1)).set j (some q.1)) else none) = some (fl, env') := e
          rw [if_neg (by simp [hij])] at e'
          cases e'
        · have hxy : x ≠ y := fun z => hij (by subst z; rw [hi] at hj; exact Option.some.inj hj)
          obtain ⟨w1, w2⟩ := swapped_eq (kt := kt) (pt := pt) (k2 := k2) (p2 := p2) S.bk oa ob hxy hsc h3
          have pa : PA X [a, b] (tCons (tX X.K cl Γ pio m) (tCons (tX X.K cl Γ pio l) tNil)) := pa_cons (pxx a m h1) (pa_cons (pxx b l h2) pa_nil (star_of ob _ _)) (star_of oa _ _)
          cases r with
          | true =>
            obtain ⟨lx, ly⟩ := w2 rfl
            exact psI (ps_par S.S.calm nd (by rw [S.S.hN]; exact hNi) (by rw [S.S.hN]; exact hNj) hij (by rw [hsc]; exact lx) (by rw [hsc]; exact ly) pa w1 rfl) fun D σ H q => s_par q
          | false =>
            exact psI (ps_asg (pe_tup pa) (pg_tup S.S.calm (pgs_cons (S.pg hi) (pgs_cons (S.pg hj) pgs_nil)) rfl rfl) rfl w1 rfl) fun D σ H q => s_tup2 q
      · cases h
    · rename_i x p1 k p2
      split at h
      · rename_i ok
        obtain ⟨ok, nc⟩ := bae ok
        obtain ⟨ox, okk⟩ := bae ok
        obtain ⟨i, hi, h⟩ := bsi h
        obtain ⟨mk, h1, h⟩ := bsi h
        obtain ⟨m, h2, rfl⟩ := msi h
        have nc' : isComp e = false := by simpa using nc
        exact psI (ps_asg (pe e m h2) (pg_sub (S.pv ox hi) (pe k mk h1) set_list (by intro v; cases k <;> first | rfl | cases okk)) (show swapsWith e (some ((Expr.Name x p1).Subscript k p2)) pos.line X.env = pure false from swaps_not nc' _ _ _) rfl rfl) fun D σ H q => s_set q
      · cases h
    · cases h
  case If t a b p =>
    replace h : cIs c n N sc rc t a b = some s := h
    unfold cIs at h
    obtain ⟨ma, h1, h⟩ := bsi h
    obtain ⟨mb, h2, h⟩ := bsi h
    split at h
    · rename_i ng f i m ht
      cases h
      exact psI (ps_if (cTio_ok (pio := pio) S ht) (ih a ma h1) (ih b mb h2)) fun D σ H q => s_ifio q
    · split at h
      · rename_i ot
        obtain ⟨mt, h3, rfl⟩ := msi h
        exact psI (ps_if ((cE_ok S.hΓ n true N sc t mt X S.S h3).2 ot) (ih a ma h1) (ih b mb h2)) fun D σ H q => s_ife q
      · cases h
  case For t it body els p =>
    cases els
    rotate_left
    · exact no h
    replace h : cFo c n N sc rc t it body = some s := h
    unfold cFo at h
    split at h
    · rename_i x p1
      split at h
      · rename_i ok
        obtain ⟨ox, oi⟩ := bae ok
        obtain ⟨i, hi, h⟩ := bsi h
        obtain ⟨mi, h1, h⟩ := bsi h
        obtain ⟨mb, h2, rfl⟩ := msi h
        exact psI (ps_for S.pw S.S.calm (ci_ok S.S pe (fun z => by cases z) h1) (S.pg hi) (ih body mb h2) (by intro v; cases it <;> first | rfl | cases oi)) fun D σ H q => s_for1 q
      · cases h
    · rename_i x p1 y p2 k p3
      split at h
      · rename_i ok
        obtain ⟨ok, oi⟩ := bae ok
        obtain ⟨i, hi, h⟩ := bsi h
        obtain ⟨j, hj, h⟩ := bsi h
        obtain ⟨mi, h1, h⟩ := bsi h
        obtain ⟨mb, h2, rfl⟩ := msi h
        exact psI (ps_for S.pw S.S.calm (ci_ok S.S pe (fun _ => ⟨_, _, _, rfl⟩) h1) (pg_tup S.S.calm (pgs_cons (S.pg hi) (pgs_cons (S.pg hj) pgs_nil)) rfl rfl) (ih body mb h2) (by intro v; cases it <;> first | rfl | cases oi)) fun D σ H q => s_for2 q
      · cases h
    · cases h
  case While t body els p =>
    cases els
    rotate_left
    · exact no h
    replace h : cWh c n N sc rc t body = some s := h
    unfold cWh at h
    split at h
    · rename_i ot
      obtain ⟨mt, h1, h⟩ := bsi h
      obtain ⟨mb, h2, rfl⟩ := msi h
      exact psI (ps_while S.pw ((cE_ok S.hΓ n true N sc t mt X S.S h1).2 ot) (ih body mb h2)) fun D σ H q => s_wh q
    · cases h
  case Return o p =>
    cases o
    · exact no h
    · rename_i e
      replace h : (cE c.cc n true N sc e).map MI.S.ret = some s := h
      obtain ⟨m, h1, rfl⟩ := msi h
      by_cases hv : ∃ i, m = .var i
      · obtain ⟨i, rfl⟩ := hv
        exact psI (ps_ret (var_inv S.S h1)) fun D σ H q => s_retV q
      · exact psI (ps_ret (pxx e m h1)) fun D σ H q => s_ret (fun i z => hv ⟨i, z⟩) q
  case Raise e c p =>
    cases h
    exact psI ps_never fun D σ H q => s_raise q
  all_goals exact no h
theorem cSt_ok (S : SSees X cl c Γ Δ N sc) : ∀ (n : Nat) (l : List Stmt) (s : MI.S), cSt c n N sc l = some s → PSs X l (tS X.K cl Γ Δ pio s)
  | 0, l, s, h => by cases h
  | n + 1, [], s, h => by
    cases h
    exact pssI pss_nil fun D σ H q => s_nop q
  | n + 1, st :: rest, s, h => by
    replace h : ((cS1 c n N sc (cSt c n N sc) st).bind fun a => (cSt c n N sc rest).map fun b => MI.S.seq a b) = some s := h
    obtain ⟨a, h1, h⟩ := bsi h
    obtain ⟨b, h2, rfl⟩ := msi h
    exact pssI (pss_cons (cS1_ok S (fun l s h => cSt_ok S n l s h) h1) (cSt_ok S n rest b h2)) fun D σ H q => s_seq q
end
end MI
end
noncomputable section
namespace MI
open PySem L2 PyProof.Rows
def GoodFn (P : Program) (w : World) (K : W.Frag) (mg : Str → Option Value) (base : Heap) (cl : Nat → Option Addr) (k : Nat) (x : Str) (g : List D → Option T) : Prop :=
  (∃ fa fd ps, FnOk P w K mg base CX0 k fa fd ps (spP K cl g) ∧ mg x = some (.ref fa) ∧ W.keepIn K (.ref fa) = true ∧ Binds K fd ps []) ∨
    ∃ j C f fd ps, j + 1 ≤ k ∧ Mk K C f ∧ FnOk P w K mg base CX0 j f fd ps (spM K cl C g) ∧ mg x = some (.ref C) ∧ Binds K fd ps []
def GoodMt (P : Program) (w : World) (K : W.Frag) (mg : Str → Option Value) (base : Heap) (cl : Nat → Option Addr) (k : Nat) (C : Addr) (m : Str) (g : List D → Option T) : Prop :=
  ∃ f fd ps, Meth K C m f ∧ FnOk P w K mg base CX0 k f fd ps (spP K cl g) ∧ Binds K fd ps []
def GoodMt1 (P : Program) (w : World) (K : W.Frag) (mg : Str → Option Value) (base : Heap) (cl : Nat → Option Addr) (k : Nat) (C : Addr) (m : Str) (g : List D → Option (T × List D)) : Prop :=
  ∃ f fd ps, Meth K C m f ∧ FnOk P w K mg base CX0 k f fd ps (spMIO K cl C g) ∧ Binds K fd ps []
theorem GoodMt1.mono {P : Program} {w : World} {K : W.Frag} {mg : Str → Option Value} {base : Heap} {cl : Nat → Option Addr} {j k : Nat} {C : Addr} {m : Str} {g : List D → Option (T × List D)} (h : GoodMt1 P w K mg base cl j C m g) (hk : j ≤ k) : GoodMt1 P w K mg base cl k C m g := by
  obtain ⟨f, fd, ps, M, F, B⟩ := h
  exact ⟨f, fd, ps, M, F.mono hk, B⟩
theorem GoodFn.mono {P : Program} {w : World} {K : W.Frag} {mg : Str → Option Value} {base : Heap} {cl : Nat → Option Addr} {j k : Nat} {x : Str} {g : List D → Option T} (h : GoodFn P w K mg base cl j x g) (hk : j ≤ k) : GoodFn P w K mg base cl k x g := by
  rcases h with ⟨fa, fd, ps, F1, F2, F3, F4⟩ | ⟨i, C, f, fd, ps, h0, h⟩
  · exact .inl ⟨fa, fd, ps, F1.mono hk, F2, F3, F4⟩
  · exact .inr ⟨i, C, f, fd, ps, Nat.le_trans h0 hk, h⟩
theorem GoodMt.mono {P : Program} {w : World} {K : W.Frag} {mg : Str → Option Value} {base : Heap} {cl : Nat → Option Addr} {j k : Nat} {C : Addr} {m : Str} {g : List D → Option T} (h : GoodMt P w K mg base cl j C m g) (hk : j ≤ k) : GoodMt P w K mg base cl k C m g := by
  obtain ⟨f, fd, ps, M, F, B⟩ := h
  exact ⟨f, fd, ps, M, F.mono hk, B⟩
structure Lw (P : Program) (w : World) (K : W.Frag) (mg : Str → Option Value) (base : Heap) (cl : Nat → Option Addr) (c : CS) (Γ : Tab) (Δ : IOT) (k : Nat) : Prop where
  fn : ∀ x f, c.cc.tab.lookup x = some f → ∃ g, Γ f = some g ∧ GoodFn P w K mg base cl k x g
  io : ∀ x f i, c.iot.lookup x = some (f, i) → ∃ g, Δ f = some (i, g) ∧ ∃ fa fd ps, FnOk P w K mg base CX0 k fa fd ps (spIO K cl i g) ∧ mg x = some (.ref fa) ∧ W.keepIn K (.ref fa) = true ∧ Binds K fd ps []
  blt : ∀ x ∈ BLT, mg x = none
  gi : ∀ x i, c.cc.gi.lookup x = some i → ∃ t, mg x = some (.int i t)
  cls : ClsOk K cl
  mth : ∀ d C i m g, MTH[i]? = some m → cl d = some C → Γ (mid d i) = some g → GoodMt P w K mg base cl k C m g
  cn : ∀ x j, c.cc.cn.lookup x = some j → ∃ J, cl j = some J ∧ mg x = some (.ref J)
  mio : ∀ d C i m g, MTH[i]? = some m → cl d = some C → Δ (mid d i) = some (0, g) → GoodMt1 P w K mg base cl k C m g
  fv : ∀ x ∈ FV, ∃ a, mg x = some (.ref a) ∧ W.nsIn K mainGlobals x = some (some (.ref a))
noncomputable def startT (N : List Str) (ds : List D) : TEnv := ds.map (fun d => some (.sh d)) ++ List.replicate (N.length - ds.length) none
noncomputable def ioAt (k : Nat) (l : List D) : TEnv := (l.mapIdx fun j d => if j = k then (listD d).map fun ds => T.ow (ds.map T.sh) else some (T.sh d))
noncomputable def startIO (N : List Str) (k : Nat) (l : List D) : TEnv := ioAt k l ++ List.replicate (N.length - l.length) none
section
variable {P : Program} {w : World} {K : W.Frag} {mg : Str → Option Value} {base : Heap} {cl : Nat → Option Addr} {c : CS} {Γ : Tab} {Δ : IOT} {k : Nat}
theorem Lw.sees (L : Lw P w K mg base cl c Γ Δ k) {N ps : List Str} {qual : Str} {scope : Scope} {f : Addr} {cdv : Value} {A : Around} {outer : List PySem.Env} {s : Shared} {H : Hp} {E : XK} (FS : FnScope N ps scope) (loc : ∀ x ∈ N, scope.names.lookup x = some .local ∨ scope.names.lookup x = some .cell) (hr : Room k (A.deeper (envOfC qual scope s.heap.objs.size f cdv))) :
    SSees (cxOf CX0 P w K mg base N qual scope f cdv A outer s H E).nox cl c Γ Δ N scope := by
  refine ⟨⟨rfl, fun i x hx => ?_, fun x hx => hx, fun _ => rfl, rfl, hr.units, L.blt, fun x f g h1 h2 => ?_, L.gi, L.cls, fun d C i m g h0 h1 h2 => ?_, L.cn, L.fv⟩, fun x f h => ?_, FS.nd, fun i x hx => loc x (List.mem_of_getElem? hx), fun _ => rfl, FS.kind, PassesOwn.never, fun x f i h => ?_, fun d C i m g h0 h1 h2 => ?_⟩
  · rcases loc x (List.mem_of_getElem? hx) with z | z
    · exact .inl z
    · exact .inr (.inl z)
  · obtain ⟨g', hg, G⟩ := L.fn x f h1
    rw [h2] at hg
    cases hg
    rcases G with ⟨fa, fd, ps, F1, F2, F3, F4⟩ | ⟨j, C, f, fd, ps, h0, M, F1, F2, F3⟩
    · exact ⟨.inl ⟨k, fa, fd, ps, F1, hr, F2, F3, F4⟩⟩
    · exact ⟨.inr ⟨j, C, f, fd, ps, M, F1, hr.mono h0, F2, F3⟩⟩
  · obtain ⟨f, fd, ps, M, F, B⟩ := L.mth d C i m g h0 h1 h2
    exact ⟨k, f, fd, ps, M, F, hr, B⟩
  · obtain ⟨g', hg, _⟩ := L.fn x f h
    exact ⟨g', hg⟩
  · obtain ⟨g, hg, fa, fd, ps, F1, F2, F3, F4⟩ := L.io x f i h
    exact ⟨g, hg, k, fa, fd, ps, F1, hr, F2, F3, F4⟩
  · obtain ⟨f, fd, ps, M, F, B⟩ := L.mio d C i m g h0 h1 h2
    exact ⟨k, f, fd, ps, M, F, hr, B⟩
theorem start_get {N : List Str} {vs : List V} {i : Nat} {v : V} (h : vs[i]? = some v) : (L2.start N vs)[i]? = some (some v) := by
  have hi := (List.getElem?_eq_some_iff.mp h).1
  unfold L2.start
  rw [List.getElem?_append_left (by simpa using hi), List.getElem?_map, h]
  rfl
theorem startT_get {N : List Str} {ds : List D} {i : Nat} {t : T} (h : (startT N ds)[i]? = some (some t)) : ∃ d, ds[i]? = some d ∧ t = .sh d := by
  unfold startT at h
  by_cases hi : i < ds.length
  · rw [List.getElem?_append_left (by simpa using hi), List.getElem?_map] at h
    cases e : ds[i]? with
    | none => rw [e] at h; cases h
    | some d => rw [e] at h; cases h; exact ⟨d, rfl, rfl⟩
  · rw [List.getElem?_append_right (by simpa using hi), List.getElem?_replicate] at h
    split at h <;> cases h
theorem def_pure (L : Lw P w K mg base cl c Γ Δ k) {x qual : Str} {st : Stmt} {f : Addr} {fd : FuncData} {N ps : List Str} {n : Nat} {body : S} {g : List D → Option T} (F : Fun K x qual st f fd) (FS : FnScope N ps (defScope st)) (loc : ∀ x ∈ N, (defScope st).names.lookup x = some .local ∨ (defScope st).names.lookup x = some .cell)
    (hc : cSt c n N (defScope st) (defBody st) = some body) (ar : ∀ ds t, g ds = some t → ds.length = ps.length)
    (run : ∀ ds t, g ds = some t → ∃ m fl env', ex Γ Δ none m body (startT N ds) = some (fl, env') ∧ (fl = .rt t ∨ (fl = .nx ∧ t = .sh .non))) : FnOk P w K mg base CX0 (k + 1) f fd ps (spP K cl g) := by
  have hpl : ps.length ≤ N.length := by have := congrArg List.length FS.pre; rw [List.length_take] at this; omega
  refine F.ok FS (fun vs H Q E h => ?_) (fun cdv A outer s H vs Q E hr h => ?_)
  · obtain ⟨G, ds, t, sg, dn, hg, _⟩ := h
    rw [dn.length]; exact ar ds t hg
  · obtain ⟨G, ds, t, sg, dn, hg, q⟩ := h
    have SS := L.sees (N := N) (ps := ps) (qual := qual) (f := f) (cdv := cdv) (A := A) (outer := outer) (s := s) (H := H) (E := E) FS loc hr
    refine ⟨_, cSt_ok (pio := none) SS n (defBody st) body hc, ?_⟩
    obtain ⟨m, fl, env', e, hfl⟩ := run ds t hg
    have hl := ar ds t hg
    refine ⟨H, G, none, G, fun _ => [], startT N ds, m, fl, env', (fun p a z => by cases z), ?_, ?_, e, fun σ' H' F' A' l1 l2 st' sf R' => ?_⟩
    · unfold startT L2.start
      simp only [List.length_append, List.length_map, List.length_replicate, dn.length]
    · refine ⟨fun i t' e => ?_, fun _ _ => rfl, fun _ => List.nodup_nil, (fun _ _ _ _ z => by simp at z), sg, .refl _, (fun b o h1 h2 => by rw [h1] at h2; cases h2), fun b o h _ => h, (fun _ _ z => by simp at z), (fun p a z => by cases z)⟩
      obtain ⟨d, h1, rfl⟩ := startT_get e
      obtain ⟨v, h2, h3⟩ := dn.get h1
      exact ⟨v, start_get h2, .sh h3⟩
    · have x : Ext H G H' F' := ⟨fun b o h => R'.keep b o h (fun p z => by cases z), R'.gf, R'.fh, R'.fnew⟩
      rcases hfl with rfl | ⟨rfl, rfl⟩
      · exact fun v B ot nd _ nw => q v H' F' B x ot nd nw
      · exact q .non H' F' [] x (.sh .non) List.nodup_nil (by simp)
theorem ioAt_get {j : Nat} {l : List D} {i : Nat} {t : T} (h : (ioAt j l)[i]? = some (some t)) : (i = j ∧ ∃ ds, l[i]? = some (.lst ds) ∧ t = .ow (ds.map T.sh)) ∨ (i ≠ j ∧ ∃ d, l[i]? = some d ∧ t = .sh d) := by
  unfold ioAt at h
  rw [List.getElem?_mapIdx] at h
  cases e : l[i]? with
  | none => rw [e] at h; cases h
  | some d =>
    rw [e] at h
    have h' : (if i = j then (listD d).map fun ds => T.ow (ds.map T.sh) else some (T.sh d)) = some t := Option.some.inj h
    split at h'
    · rename_i hi
      obtain ⟨ds, h1, rfl⟩ := msi h'
      cases d with
      | lst l' => cases h1; exact .inl ⟨hi, ds, rfl, rfl⟩
      | _ => cases h1
    · rename_i hi
      cases h'
      exact .inr ⟨hi, d, rfl, rfl⟩
theorem startIO_get {N : List Str} {j : Nat} {l : List D} {i : Nat} {t : T} (h : (startIO N j l)[i]? = some (some t)) : (i = j ∧ ∃ ds, l[i]? = some (.lst ds) ∧ t = .ow (ds.map T.sh)) ∨ (i ≠ j ∧ ∃ d, l[i]? = some d ∧ t = .sh d) := by
  unfold startIO at h
  have hl : (ioAt j l).length = l.length := by unfold ioAt; simp
  by_cases hi : i < l.length
  · rw [List.getElem?_append_left (by omega)] at h
    exact ioAt_get h
  · rw [List.getElem?_append_right (by omega), List.getElem?_replicate] at h
    split at h <;> cases h
theorem def_io (L : Lw P w K mg base cl c Γ Δ k) {x qual : Str} {st : Stmt} {f : Addr} {fd : FuncData} {N ps : List Str} {n j : Nat} {body : S} {g : List D → Option (T × List D)} (F : Fun K x qual st f fd) (FS : FnScope N ps (defScope st)) (loc : ∀ x ∈ N, (defScope st).names.lookup x = some .local ∨ (defScope st).names.lookup x = some .cell)
    (hc : cSt c n N (defScope st) (defBody st) = some body) (ar : ∀ l t ds', g l = some (t, ds') → l.length = ps.length)
    (run : ∀ l t ds', g l = some (t, ds') → ∃ m fl env', ex Γ Δ (some j) m body (startIO N j l) = some (fl, env') ∧ (fl = .rt t ∨ (fl = .nx ∧ t = .sh .non)) ∧ env'[j]? = some (some (.ow (ds'.map T.sh)))) : FnOk P w K mg base CX0 (k + 1) f fd ps (spIO K cl j g) := by
  have hpl : ps.length ≤ N.length := by have := congrArg List.length FS.pre; rw [List.length_take] at this; omega
  refine F.ok FS (fun vs H Q E h => ?_) (fun cdv A outer s H vs Q E hr h => ?_)
  · obtain ⟨G, l, a, xs, ds, t, ds', h1, h2, h3, h4, h5, h6, h7, h8, h9, _⟩ := h
    rw [h2]; exact ar l t ds' h9
  · obtain ⟨G, l, a, xs, ds, t, ds', sg, hl, hv, hd, hx, ga, dx, dn, hg, hfl, hs, hs', q⟩ := h
    have SS := L.sees (N := N) (ps := ps) (qual := qual) (f := f) (cdv := cdv) (A := A) (outer := outer) (s := s) (H := H) (E := E) FS loc hr
    refine ⟨_, cSt_ok (pio := some j) SS n (defBody st) body hc, ?_⟩
    obtain ⟨m, fl, env', e, hfl', hj⟩ := run l t ds' hg
    have hlen := ar l t ds' hg
    have hll : (ioAt j l).length = l.length := by unfold ioAt; simp
    refine ⟨H, G, some (j, a), G, fun i => if i = j then [a] else [], startIO N j l, m, fl, env', (fun p b z => by cases z; rfl), ?_, ?_, e, fun σ' H' F' A' l1 l2 st' sf R' => ?_⟩
    · unfold startIO L2.start
      simp only [List.length_append, List.length_map, List.length_replicate, hll, hl]
    · refine ⟨fun i t' e => ?_, fun i hi => ?_, fun i => ?_, fun i i' b hii h1 h2 => ?_, sg, .refl _, (fun b o h1 h2 => by rw [h1] at h2; cases h2), fun b o h _ => h, fun i b hb => ?_, fun p b z => ?_⟩
      · rcases startIO_get e with ⟨rfl, ds2, h1, rfl⟩ | ⟨hi, d, h1, rfl⟩
        · rw [hd] at h1
          cases h1
          refine ⟨.ref a, start_get hv, ?_⟩
          rw [if_pos rfl]
          exact .ow hx ga (OTs.shs dx)
        · have hv' : i < vs.length := by rw [hl]; exact (List.getElem?_eq_some_iff.mp h1).1
          refine ⟨vs[i], start_get (List.getElem?_eq_getElem hv'), ?_⟩
          rw [if_neg hi]
          exact .sh (dn i _ d hi (List.getElem?_eq_getElem hv') h1)
      · show (if i = j then [a] else []) = []
        split
        · rename_i hi'
          exfalso
          subst hi'
          have hjl : i < l.length := (List.getElem?_eq_some_iff.mp hd).1
          refine hi (.ow (ds.map T.sh)) ?_
          unfold startIO
          rw [List.getElem?_append_left (by omega)]
          unfold ioAt
          rw [List.getElem?_mapIdx, hd]
          simp [listD]
        · rfl
      · show (if i = j then [a] else []).Nodup
        split <;> simp
      · have h1' : b ∈ (if i = j then [a] else []) := h1
        have h2' : b ∈ (if i' = j then [a] else []) := h2
        split at h1'
        · split at h2'
          · rename_i e1 e2; exact hii (e1.trans e2.symm)
          · simp at h2'
        · simp at h1'
      · have hb' : b ∈ (if i = j then [a] else []) := hb
        split at hb'
        · have : b = a := by simpa using hb'
          exact .inl ⟨j, by rw [this]⟩
        · simp at hb'
      · cases z
        exact ⟨[], by rw [if_pos rfl]⟩
    · obtain ⟨v', h1, ot'⟩ := R'.slot j _ hj
      obtain ⟨B0, hB0⟩ := R'.iok j a rfl
      rw [hB0] at ot'
      cases ot' with
      | ow a1 a2 a3 =>
        obtain ⟨dx', _⟩ := a3.unsh
        have kp : ∀ b o, b ≠ a → H b = some o → H' b = some o := fun b o hb h => R'.keep b o h (fun p z => by cases z; exact hb rfl)
        rcases hfl' with rfl | ⟨rfl, rfl⟩
        · exact fun v B ot nd _ nw => q v H' F' _ B kp R'.gf R'.fh R'.fnew a1 dx' ot nd nw
        · exact q .non H' F' _ [] kp R'.gf R'.fh R'.fnew a1 dx' (.sh .non) List.nodup_nil (by simp)
theorem Lw.addG (L : Lw P w K mg base cl c Γ Δ k) {x : Str} {f k' : Nat} {g : List D → Option T} (hk : k ≤ k') (hg : Γ f = some g) (F : GoodFn P w K mg base cl k' x g) :
    Lw P w K mg base cl ⟨⟨(x, f) :: c.cc.tab, c.cc.gi, c.cc.cn⟩, c.iot⟩ Γ Δ k' := by
  refine ⟨fun y f' h => ?_, fun y f' i h => ?_, L.blt, L.gi, L.cls, fun d C i m g h0 h1 h2 => (L.mth d C i m g h0 h1 h2).mono hk, L.cn, fun d C i m g h0 h1 h2 => (L.mio d C i m g h0 h1 h2).mono hk, L.fv⟩
  · have h' : ((x, f) :: c.cc.tab).lookup y = some f' := h
    rw [List.lookup_cons] at h'
    split at h'
    · rename_i e
      have e : y = x := by simpa using e
      subst e
      cases h'
      exact ⟨g, hg, F⟩
    · obtain ⟨g', h1, F1⟩ := L.fn y f' h'
      exact ⟨g', h1, F1.mono hk⟩
  · obtain ⟨g', h1, fa', fd', ps', F1, F2, F3, F4⟩ := L.io y f' i h
    exact ⟨g', h1, fa', fd', ps', F1.mono hk, F2, F3, F4⟩
theorem Lw.addIO (L : Lw P w K mg base cl c Γ Δ k) {x : Str} {f j : Nat} {g : List D → Option (T × List D)} {fa : Addr} {fd : FuncData} {ps : List Str} (hg : Δ f = some (j, g)) (F : FnOk P w K mg base CX0 (k + 1) fa fd ps (spIO K cl j g)) (hm : mg x = some (.ref fa)) (hk : W.keepIn K (.ref fa) = true) (hb : Binds K fd ps []) :
    Lw P w K mg base cl ⟨c.cc, (x, f, j) :: c.iot⟩ Γ Δ (k + 1) := by
  refine ⟨fun y f' h => ?_, fun y f' i h => ?_, L.blt, L.gi, L.cls, fun d C i m g h0 h1 h2 => (L.mth d C i m g h0 h1 h2).mono (Nat.le_succ _), L.cn, fun d C i m g h0 h1 h2 => (L.mio d C i m g h0 h1 h2).mono (Nat.le_succ _), L.fv⟩
  · obtain ⟨g', h1, F1⟩ := L.fn y f' h
    exact ⟨g', h1, F1.mono (Nat.le_succ _)⟩
  · have h' : ((x, f, j) :: c.iot).lookup y = some (f', i) := h
    rw [List.lookup_cons] at h'
    split at h'
    · rename_i e
      have e : y = x := by simpa using e
      subst e
      cases h'
      exact ⟨g, hg, fa, fd, ps, F, hm, hk, hb⟩
    · obtain ⟨g', h1, fa', fd', ps', F1, F2, F3, F4⟩ := L.io y f' i h'
      exact ⟨g', h1, fa', fd', ps', F1.mono (Nat.le_succ _), F2, F3, F4⟩
end
end MI
end
noncomputable section
namespace MI
open PySem PySem.Spec PySem.W PyProof.Rows L2
theorem law_callR {P : Program} {w : World} {K : W.Frag} {mg mb : Str → Option Value} {CX : CXT} {k : Nat} {fa a : Addr} {fd : FuncData} {x : Str} {sp : Sp} {s₁ : Shared} {vs : List Value} {ns : List Int}
    (KX : K.In s₁.heap) (hns : s₁.heap.Ns mainGlobals mg) (hb : s₁.heap.Ns builtinsNs mb) (hbb : ∀ x : Str, x ≠ "__name__" → mb x = bootBuiltins x) (hlim : s₁.heap.NoLimit) (hg : s₁.gens = #[])
    (ha : s₁.heap.get? a = some { cls := .type "list", data := .seq vs.toArray }) (hi : IntsAre vs ns) (hl : ns.length ≤ sizeLine) (hr : Room k callerA)
    (F : ∀ base : Heap, K.In base → base.Ns mainGlobals mg → FnOk P w K mg base CX k fa fd [x] sp) (hbind : ∀ (s : Shared) (u : Value), BindsTo s fd ⟨[u], []⟩ [(x, u)])
    (hsp : ∀ H : Hp, RL K H a (ns.map V.int) → sp [.ref a] H (fun v _ => v = .bl true) fun _ _ _ => False)
    (hCX : ∀ H e s', CX [] H s₁ (fun _ _ _ => False) e s' → False) :
    codeAny (model P w) callerA (.call (.ref fa) ⟨[.ref a], []⟩) (fun r s' => r = .ok (.ret (.bool true)) ∧ OldK s₁.heap s'.heap ∧ s'.os = s₁.os ∧ AllBare s'.gens) s₁ := by
  have rv := vals_ints hi
  have lenV := hi.length
  have core : ∀ H : Hp, Only H → RL K H a (ns.map V.int) → HOk P w H s₁.heap → (∀ b, H b ≠ none → b = a) → (H a ≠ none → K.lookup a = none) →
      codeAny (model P w) callerA (.call (.ref fa) ⟨[.ref a], []⟩) (fun r s' => r = .ok (.ret (.bool true)) ∧ OldK s₁.heap s'.heap ∧ s'.os = s₁.os ∧ AllBare s'.gens) s₁ := by
    intro H hO hS hok hA hK
    have base_of : ∀ {b : Addr} {o : Obj}, s₁.heap.get? b = some o → H b = none → (hidT s₁.heap H).get? b = some o := fun e n => hidT_get e n
    have noA : ∀ {b : Addr} {o : Obj} {es : Array DictEntry} {ep : Nat}, s₁.heap.get? b = some o → o.data = .dict es ep → H b = none := fun {b o es ep} e d => by
      cases q : H b with
      | none => rfl
      | some u =>
        have e' : b = a := hA b (by rw [q]; simp)
        subst e'
        rw [ha] at e; cases e
        have d' : Data.seq vs.toArray _ = Data.dict es ep := d
        cases d'
    have nsK : ∀ {b : Addr} {m : Str → Option Value}, s₁.heap.Ns b m → (hidT s₁.heap H).Ns b m := fun {b m} ⟨o, es, ep, e, d, r⟩ => ⟨o, es, ep, base_of e (noA e d), d, r⟩
    have hKb : K.In (hidT s₁.heap H) := fun b o e => base_of (KX b o e) (by
      cases q : H b with
      | none => rfl
      | some u =>
        have e' : b = a := hA b (by rw [q]; simp)
        subst e'
        rw [hK (by rw [q]; simp)] at e; cases e)
    have hM : Mod K mg (hidT s₁.heap H) := ⟨hKb, nsK hns, ⟨mb, nsK hb, hbb⟩, let ⟨mc, h1, h2⟩ := hlim; ⟨mc, nsK h1, h2⟩⟩
    have e0 : Env0 P w K mg (hidT s₁.heap H) callerA [] s₁ H := ⟨rfl, hM, fun b o e => of_hidT e, Nat.le_of_eq (hidT_size _ _), trivial, fun b hb => absurd (show b ∈ ([] : List Addr) from hb) (by simp), hok, .of_eq hg⟩
    refine codeAny_mono ((F _ hKb (nsK hns)).run callerA [] s₁ H ⟨[.ref a], []⟩ [.ref a] [.ref a] _ _ hr e0 (hbind s₁ (.ref a)) (.cons rfl .nil) (hsp H hS)) fun r s' h => ?_
    cases r with
    | error e => exact (hCX H e s' h).elim
    | ok fl =>
      cases fl with
      | next => exact False.elim h
      | brk => exact False.elim h
      | cont => exact False.elim h
      | ret u =>
        obtain ⟨v, H', os, bare, un, hok', r', q⟩ := h
        have q' : v = .bl true := q
        subst q'
        obtain rfl : u = Value.bool true := r'
        refine ⟨rfl, OldK.of_keep fun b o e => ?_, os, bare⟩
        cases q : H b with
        | none => exact un.keep b o e q (by intro z; exact absurd (show b ∈ ([] : List Addr) from z) (by simp)) (by simp)
        | some u =>
          rcases hO b with z | ⟨ob, xs, z⟩
          · rw [q] at z; cases z
          · have z2 := un.frzs b ob _ z
            obtain ⟨e1, _⟩ := hok b _ z
            obtain ⟨e2, _⟩ := hok' b _ z2
            rw [e] at e1; cases e1
            exact e2
  cases hk : K.lookup a with
  | some o =>
    have e := KX a o hk
    rw [ha] at e
    cases e
    refine core (fun _ => none) (fun _ => .inl rfl) (.inr ⟨vs.toArray, _, hk, by rw [List.size_toArray, lenV]; exact hl, by simpa using rv⟩) (fun b u z => by have z' : (none : Option HO) = some u := z; cases z') (fun b z => absurd rfl z) fun z => absurd rfl z
  | none =>
    refine core (fun b => if b = a then some (.frz { cls := .type "list", data := .seq vs.toArray } (.lst (ns.map V.int))) else none) (fun b => ?_) (.inl (.inr ⟨{ cls := .type "list", data := .seq vs.toArray }, if_pos rfl⟩)) (fun b u z => ?_) (fun b z => ?_) fun _ => hk
    · by_cases hb : b = a
      · exact .inr ⟨_, _, if_pos hb⟩
      · exact .inl (if_neg hb)
    · by_cases hb : b = a
      · have z' := (if_pos hb).symm.trans z
        cases z'
        subst hb
        exact ⟨ha, by rw [List.length_map]; exact hl, vs, _, rv, ha⟩
      · have z' := (if_neg hb).symm.trans z
        cases z'
    · by_cases hb : b = a
      · exact hb
      · exact absurd (if_neg hb) z
end MI
end
noncomputable section
namespace MI
open PySem L2
section
variable (Γ : Tab) (env : Env)
@[simp] theorem ev_var (i : Nat) : ev Γ (.var i) env = (env[i]?).join := rfl
@[simp] theorem ev_int (i : Int) : ev Γ (.int i) env = some (.int i) := rfl
@[simp] theorem ev_bl (i : Bool) : ev Γ (.bl i) env = some (.bl i) := rfl
@[simp] theorem ev_non : ev Γ .non env = some .non := rfl
@[simp] theorem ev_str (x : Str) : ev Γ (.str x) env = some (.str x) := rfl
@[simp] theorem ev_bin (op : Operator) (a b : E) : ev Γ (.bin op a b) env = (ev Γ a env).bind fun x => (ev Γ b env).bind fun y => binD op x y := rfl
@[simp] theorem ev_un (f : U) (a : E) : ev Γ (.un f a) env = (ev Γ a env).bind (unD f) := rfl
@[simp] theorem ev_not (a : E) : ev Γ (.not a) env = (ev Γ a env).bind notD := rfl
@[simp] theorem ev_cmp (op : CmpOp) (a b : E) : ev Γ (.cmp op a b) env = (ev Γ a env).bind fun x => (ev Γ b env).bind fun y => cmpD op x y := rfl
@[simp] theorem ev_ch (o1 o2 : CmpOp) (a b c : E) : ev Γ (.ch o1 o2 a b c) env = (ev Γ a env).bind fun x => (ev Γ b env).bind fun y => (cmpD o1 x y).bind fun z => ifB z ((ev Γ c env).bind fun w => cmpD o2 y w) (some (.bl false)) := rfl
@[simp] theorem ev_and (a b : E) : ev Γ (.and a b) env = (ev Γ a env).bind fun x => ifB x (ev Γ b env) (some (.bl false)) := rfl
@[simp] theorem ev_or (a b : E) : ev Γ (.or a b) env = (ev Γ a env).bind fun x => ifB x (some (.bl true)) (ev Γ b env) := rfl
@[simp] theorem ev_ite (c a b : E) : ev Γ (.ite c a b) env = ((ev Γ c env).bind truthD).bind fun x => if x then ev Γ a env else ev Γ b env := rfl
@[simp] theorem ev_idx (a b : E) : ev Γ (.idx a b) env = (ev Γ a env).bind fun x => (ev Γ b env).bind fun y => idxD x y := rfl
@[simp] theorem ev_cut (a lo hi : E) : ev Γ (.cut a lo hi) env = (ev Γ a env).bind fun x => (optS lo (ev Γ lo env)).bind fun l => (optS hi (ev Γ hi env)).bind fun h => cutD x l h := rfl
@[simp] theorem ev_rev (a : E) : ev Γ (.rev a) env = (ev Γ a env).bind revD := rfl
@[simp] theorem ev_lst (a : E) : ev Γ (.lst a) env = (ev Γ a env).bind szL := rfl
@[simp] theorem ev_tup (a : E) : ev Γ (.tup a) env = (ev Γ a env).bind szT := rfl
@[simp] theorem ev_mn (a b : E) : ev Γ (.mn a b) env = (ev Γ a env).bind fun x => (ev Γ b env).bind fun y => min2 x y := rfl
@[simp] theorem ev_mx (a b : E) : ev Γ (.mx a b) env = (ev Γ a env).bind fun x => (ev Γ b env).bind fun y => max2 x y := rfl
@[simp] theorem ev_isi (a : E) (k : Nat) : ev Γ (.isi a k) env = (ev Γ a env).bind fun x => (isiB x k).map .bl := rfl
theorem ev_comp (elt : E) (is : List Nat) (it c : E) : ev Γ (.comp elt is it c) env = ((ev Γ it env).bind walkD).bind fun ds => if sz ds.length then (compR (fun d => (cS c (ev Γ c (inner env is d))).bind fun b => if b then (ev Γ elt (inner env is d)).map some else some none) ds).map .lst else none := rfl
@[simp] theorem ev_call (f : Nat) (args : E) : ev Γ (.call f args) env = (Γ f).bind fun g => ((ev Γ args env).bind listD).bind fun l => (g l).map strip := rfl
@[simp] theorem ev_rng (a : E) : ev Γ (.rng a) env = (ev Γ a env).bind fun x => rng2D (.int 0) x := rfl
@[simp] theorem ev_rng2 (a b : E) : ev Γ (.rng2 a b) env = (ev Γ a env).bind fun x => (ev Γ b env).bind fun y => rng2D x y := rfl
@[simp] theorem ev_enm (a : E) : ev Γ (.enm a) env = (ev Γ a env).bind enmD := rfl
@[simp] theorem ev_zp (a b : E) : ev Γ (.zp a b) env = (ev Γ a env).bind fun x => (ev Γ b env).bind fun y => zpD x y := rfl
@[simp] theorem ev_nil : ev Γ .nil env = some (.lst []) := rfl
@[simp] theorem ev_cons (a r : E) : ev Γ (.cons a r) env = (ev Γ a env).bind fun x => (ev Γ r env).bind fun y => consD x y := rfl
end
@[simp] theorem consD_lst (x : D) (l : List D) : consD x (.lst l) = some (.lst (x :: l)) := rfl
@[simp] theorem listD_lst (l : List D) : listD (.lst l) = some l := rfl
@[simp] theorem walkD_lst (l : List D) : walkD (.lst l) = some l := rfl
@[simp] theorem walkD_tup (l : List D) : walkD (.tup l) = some l := rfl
@[simp] theorem notD_bl (b : Bool) : notD (.bl b) = some (.bl (!b)) := rfl
@[simp] theorem truthD_bl (b : Bool) : truthD (.bl b) = some b := rfl
@[simp] theorem truthD_int (b : Int) : truthD (.int b) = some (b != 0) := rfl
@[simp] theorem ifB_t (a b : Option D) : ifB (.bl true) a b = a := rfl
@[simp] theorem ifB_f (a b : Option D) : ifB (.bl false) a b = b := rfl
@[simp] theorem optS_nil (o : Option D) : optS .nil o = some none := rfl
@[simp] theorem optS_var (i : Nat) (o : Option D) : optS (.var i) o = match o with | some (.int i) => some (some i) | _ => none := rfl
@[simp] theorem cS_nil (o : Option D) : cS .nil o = some true := rfl
@[simp] theorem szL_lst (l : List D) : szL (.lst l) = if sz l.length then some (.lst l) else none := rfl
@[simp] theorem szT_lst (l : List D) : szT (.lst l) = if sz l.length then some (.tup l) else none := rfl
@[simp] theorem len_lst (l : List D) : unD .len (.lst l) = some (.int l.length) := rfl
@[simp] theorem len_tup (l : List D) : unD .len (.tup l) = some (.int l.length) := rfl
@[simp] theorem neg_int' (i : Int) : unD .neg (.int i) = some (.int (-i)) := rfl
@[simp] theorem list_lst (l : List D) : unD .list (.lst l) = some (.lst l) := rfl
@[simp] theorem list_tup (l : List D) : unD .list (.tup l) = some (.lst l) := rfl
@[simp] theorem revD_lst (l : List D) : revD (.lst l) = some (.lst l.reverse) := rfl
@[simp] theorem cutD_lst (l : List D) (a b : Option Int) : cutD (.lst l) a b = some (.lst (cutL l a b)) := rfl
@[simp] theorem idx_lst (l : List D) (i : Int) : idxD (.lst l) (.int i) = L2.atI l i := rfl
@[simp] theorem idx_tup (l : List D) (i : Int) : idxD (.tup l) (.int i) = L2.atI l i := rfl
@[simp] theorem add_ii (i j : Int) : binD .Add (.int i) (.int j) = some (.int (i + j)) := rfl
@[simp] theorem sub_ii (i j : Int) : binD .Sub (.int i) (.int j) = some (.int (i - j)) := rfl
@[simp] theorem add_ll (a b : List D) : binD .Add (.lst a) (.lst b) = if sz (a.length + b.length) then some (.lst (a ++ b)) else none := rfl
@[simp] theorem lt_ii (i j : Int) : cmpD .Lt (.int i) (.int j) = some (.bl (decide (i < j))) := rfl
@[simp] theorem le_ii (i j : Int) : cmpD .LtE (.int i) (.int j) = some (.bl (decide (i ≤ j))) := rfl
@[simp] theorem gt_ii (i j : Int) : cmpD .Gt (.int i) (.int j) = some (.bl (decide (j < i))) := rfl
@[simp] theorem eq_dd (a b : D) : cmpD .Eq a b = (eqD a b).map .bl := by cases a <;> cases b <;> rfl
@[simp] theorem ne_dd (a b : D) : cmpD .NotEq a b = (eqD a b).map fun c => .bl (!c) := by cases a <;> cases b <;> rfl
@[simp] theorem mn_ii (i j : Int) : min2 (.int i) (.int j) = some (.int (if j < i then j else i)) := rfl
@[simp] theorem mx_ii (i j : Int) : max2 (.int i) (.int j) = some (.int (if j > i then j else i)) := rfl
@[simp] theorem rng2D_ii (i j : Int) : rng2D (.int i) (.int j) = (rngD i j).map .lst := rfl
@[simp] theorem enmD_lst (l : List D) : enmD (.lst l) = some (.lst (enumD 0 l)) := rfl
@[simp] theorem zpD_ll (l m : List D) : zpD (.lst l) (.lst m) = some (.lst (zipD l m)) := rfl
@[simp] theorem scal_int (i : Int) : scal (.int i) = true := rfl
@[simp] theorem scal_bl (i : Bool) : scal (.bl i) = true := rfl
@[simp] theorem scal_non : scal .non = true := rfl
@[simp] theorem scal_str (x : Str) : scal (.str x) = true := rfl
@[simp] theorem scal_lst (l : List D) : scal (.lst l) = false := rfl
@[simp] theorem scal_tup (l : List D) : scal (.tup l) = false := rfl
@[simp] theorem strip_sh (d : D) : strip (.sh d) = d := by simp [strip]
@[simp] theorem strip_ow (ts : List T) : strip (.ow ts) = .lst (ts.map strip) := by simp [strip, strips_map]
@[simp] theorem flatT_sh (d : D) : flatT (.sh d) = scal d := by simp [flatT]
theorem flatTs_all (ts : List T) : flatTs ts = ts.all flatT := by
  induction ts with
  | nil => simp [flatTs]
  | cons t r ih => simp [flatTs, ih]
@[simp] theorem flatT_ow (ts : List T) : flatT (.ow ts) = ts.all flatT := by simp [flatT, flatTs_all]
theorem strip_comp_sh : strip ∘ T.sh = id := by funext d; simp
@[simp] theorem map_strip_sh (ds : List D) : (ds.map T.sh).map strip = ds := by rw [List.map_map, strip_comp_sh, List.map_id]
@[simp] theorem dEnv_nil : dEnv [] = [] := rfl
@[simp] theorem dEnv_cons (o : Option T) (r : TEnv) : dEnv (o :: r) = o.map strip :: dEnv r := rfl
@[simp] theorem fEnv_nil : fEnv [] = [] := rfl
@[simp] theorem fEnv_cons (o : Option T) (r : TEnv) : fEnv (o :: r) = shOf o :: fEnv r := rfl
@[simp] theorem shOf_sh (d : D) : shOf (some (.sh d)) = some d := rfl
@[simp] theorem shOf_none : shOf none = none := rfl
section
variable (Γ : Tab) (Δ : IOT) (pio : Option Nat) (n : Nat) (env : TEnv)
@[simp] theorem ex_nop : ex Γ Δ pio n .nop env = some (.nx, env) := rfl
@[simp] theorem ex_retN : ex Γ Δ pio n .retN env = some (.rt (.sh .non), env) := rfl
@[simp] theorem ex_raise : ex Γ Δ pio n .raise env = none := rfl
noncomputable def seqX (r : Option (Fl × TEnv)) (k : TEnv → Option (Fl × TEnv)) : Option (Fl × TEnv) := r.bind fun r => match r.1 with
  | .nx => k r.2
  | _ => some r
@[simp] theorem ex_seq (a b : S) : ex Γ Δ pio n (.seq a b) env = seqX (ex Γ Δ pio n a env) (ex Γ Δ pio n b) := rfl
@[simp] theorem seqX_nx (e : TEnv) (k : TEnv → Option (Fl × TEnv)) : seqX (some (.nx, e)) k = k e := rfl
@[simp] theorem seqX_rt (t : T) (e : TEnv) (k : TEnv → Option (Fl × TEnv)) : seqX (some (.rt t, e)) k = some (.rt t, e) := rfl
@[simp] theorem ex_asg (i : Nat) (m : E) : ex Γ Δ pio n (.asg i m) env = if okI pio env i then (evX Γ pio m env).map fun r => (.nx, r.2.set i (some r.1)) else none := rfl
@[simp] theorem ex_ife (c : E) (a b : S) : ex Γ Δ pio n (.ife c a b) env = (evB Γ c (dEnv env)).bind fun t => if t then ex Γ Δ pio n a env else ex Γ Δ pio n b env := rfl
@[simp] theorem ex_ret (m : E) (h : ∀ i, m ≠ .var i) : ex Γ Δ pio n (.ret m) env = (evX Γ pio m env).map fun r => (.rt r.1, r.2) := by
  cases m with
  | var i => exact absurd rfl (h i)
  | _ => rfl
@[simp] theorem ex_retV (i : Nat) : ex Γ Δ pio n (.ret (.var i)) env = if pio = some i then none else (env[i]?).join.map fun t => (.rt t, env.set i none) := rfl
@[simp] theorem ex_set (i : Nat) (k m : E) : ex Γ Δ pio n (.set i k m) env = (ev Γ m (dEnv env)).bind fun d => if scal d then ((ev Γ k (dEnv env)).bind intD).bind fun z => (owAt env i).bind fun ts => (ixN ts.length z).map fun j => (.nx, env.set i (some (.ow (ts.set j (.sh d))))) else none := rfl
end
@[simp] theorem okI_none (env : TEnv) (i : Nat) : okI none env i = decide (i < env.length) := by simp [okI]
@[simp] theorem okI_some (env : TEnv) (i j : Nat) : okI (some j) env i = decide (j ≠ i ∧ i < env.length) := by simp [okI]
section
variable (Γ : Tab) (Δ : IOT) (pio : Option Nat) (n : Nat) (env : TEnv)
theorem ex_for1 (i : Nat) (it : E) (b : S) : ex Γ Δ pio n (.for1 i it b) env = if okI pio env i then (itX Γ pio it env).bind fun r => forL (fun d e => ex Γ Δ pio n b (e.set i (some (.sh d)))) r.1 r.2 else none := rfl
theorem ex_drop (m : E) : ex Γ Δ pio n (.drop m) env = (evX Γ pio m env).map fun r => (.nx, r.2) := rfl
theorem ex_ifio (neg : Bool) (f i : Nat) (args : E) (a b : S) : ex Γ Δ pio n (.ifio neg f i args a b) env = (evIO Γ Δ f i args env).bind fun r => match r.1 with
    | .sh (.bl t) => if (t != neg) then ex Γ Δ pio n a r.2 else ex Γ Δ pio n b r.2
    | _ => none := rfl
theorem ex_app (i : Nat) (m : E) : ex Γ Δ pio n (.app i m) env = (evX Γ pio m env).bind fun r => (owAt r.2 i).bind fun ts => if sz ts.length then some (.nx, r.2.set i (some (.ow (ts ++ [r.1])))) else none := rfl
end
theorem evX_scal {Γ : Tab} {pio : Option Nat} {m : E} {env : TEnv} {d : D} (hc : isCall m = false) (h : ev Γ m (dEnv env) = some d) (hs : scal d = true) : evX Γ pio m env = some (.sh d, env) := by
  rw [evX_other hc, h]
  show (if scal d then _ else _) = _
  rw [if_pos hs]
theorem evX_flat {Γ : Tab} {pio : Option Nat} {m : E} {env : TEnv} {ds : List D} (hc : isCall m = false) (hf : fresh m = true) (h : ev Γ m (dEnv env) = some (.lst ds)) (hs : ds.all scal = true) : evX Γ pio m env = some (.ow (ds.map T.sh), env) := by
  rw [evX_other hc, h, obs, if_neg (show ¬ scal (.lst ds) = true from fnt), if_pos hf, listD_lst, obs, if_pos hs]
theorem evX_callF {Γ : Tab} {pio : Option Nat} {f : Nat} {args : E} {env : TEnv} {g : List D → Option T} {l : List D} {t : T} (hg : Γ f = some g) (hl : evs Γ args (dEnv env) = some l) (ht : g l = some t) (hf : flatT t = true) : evX Γ pio (.call f args) env = some (t, env) := by
  rw [evX_call, hg]
  show (evs Γ args (dEnv env)).bind _ = _
  rw [hl]
  show (g l).bind _ = _
  rw [ht]
  show (if flatT t then _ else _) = _
  rw [if_pos hf]
@[simp] theorem owAt_0 (ts : List T) (r : TEnv) : owAt (some (.ow ts) :: r) 0 = some ts := rfl
@[simp] theorem owAt_s (o : Option T) (r : TEnv) (i : Nat) : owAt (o :: r) (i + 1) = owAt r i := rfl
@[simp] theorem intD_int (i : Int) : intD (.int i) = some i := rfl
@[simp] theorem childs_ow (ts : List T) : childs (.ow ts) = some ts := rfl
@[simp] theorem childs_sh (ds : List D) : childs (.sh (.lst ds)) = some (ds.map T.sh) := rfl
theorem sz_of {n : Nat} (h : n ≤ 1000000) : sz n = true := dtt h
@[simp] theorem all_scal_ints (ns : List Int) : (ns.map D.int).all scal = true := by simp
@[simp] theorem all_scal_bls (ns : List Bool) : (ns.map D.bl).all scal = true := by simp
noncomputable def gP (Γ : Tab) (Δ : IOT) (m : Nat) (N : List Str) (ar : Nat) (body : S) (ds : List D) : Option T := if ds.length = ar then match ex Γ Δ none m body (startT N ds) with
  | some (.rt t, _) => some t
  | some (.nx, _) => some (.sh .non)
  | _ => none
  else none
noncomputable def flT : Fl → Option T
  | .rt t => some t
  | .nx => some (.sh .non)
  | _ => none
noncomputable def gQ (Γ : Tab) (Δ : IOT) (m : Nat) (N : List Str) (j ar : Nat) (body : S) (l : List D) : Option (T × List D) := if l.length = ar then (ex Γ Δ (some j) m body (startIO N j l)).bind fun r => (flT r.1).bind fun t => (owAt r.2 j).bind fun ts => (unsh ts).map fun ds => (t, ds) else none
noncomputable def extT (Γ : Tab) (f : Nat) (g : List D → Option T) : Tab := fun i => if i = f then some g else Γ i
noncomputable def extI (Δ : IOT) (f j : Nat) (g : List D → Option (T × List D)) : IOT := fun i => if i = f then some (j, g) else Δ i
section
variable {P : Program} {w : World} {K : W.Frag} {mg : Str → Option Value} {base : Heap} {cl : Nat → Option Addr} {c : CS} {Γ : Tab} {Δ : IOT} {k : Nat}
theorem Lw.start (hb : ∀ x ∈ BLT, mg x = none) {gi : List (Str × Int)} {cn : List (Str × Nat)} (hg : ∀ x i, gi.lookup x = some i → ∃ t, mg x = some (.int i t)) (hc : ClsOk K cl) (hn : ∀ x j, cn.lookup x = some j → ∃ J, cl j = some J ∧ mg x = some (.ref J)) (hv : ∀ x ∈ FV, ∃ a, mg x = some (.ref a) ∧ W.nsIn K mainGlobals x = some (some (.ref a))) : Lw P w K mg base cl ⟨⟨[], gi, cn⟩, []⟩ (fun _ => none) (fun _ => none) 0 :=
  ⟨(fun x f h => by simp at h), (fun x f i h => by simp at h), hb, hg, hc, (fun d C i m g _ _ h => by cases h), hn, (fun d C i m g _ _ h => by cases h), hv⟩
theorem Lw.run (L : Lw P w K mg base cl c Γ Δ k) {x qual : Str} {st : Stmt} {fa : Addr} {fd : FuncData} {N ps : List Str} {n m : Nat} {body : S} (F : Fun K x qual st fa fd) (FS : FnScope N ps (defScope st)) (loc : ∀ x ∈ N, (defScope st).names.lookup x = some .local ∨ (defScope st).names.lookup x = some .cell)
    (hc : cSt c n N (defScope st) (defBody st) = some body) : FnOk P w K mg base CX0 (k + 1) fa fd ps (spP K cl (gP Γ Δ m N ps.length body)) := by
  refine def_pure L F FS loc hc (fun ds t h => ?_) (fun ds t h => ?_)
  · unfold gP at h
    split at h
    · assumption
    · cases h
  · unfold gP at h
    split at h
    · split at h
      · rename_i e; cases h; exact ⟨m, _, _, e, .inl rfl⟩
      · rename_i e; cases h; exact ⟨m, _, _, e, .inr ⟨rfl, rfl⟩⟩
      · cases h
    · cases h
theorem Lw.runIO (L : Lw P w K mg base cl c Γ Δ k) {x qual : Str} {st : Stmt} {fa : Addr} {fd : FuncData} {N ps : List Str} {n m j : Nat} {body : S} (F : Fun K x qual st fa fd) (FS : FnScope N ps (defScope st)) (loc : ∀ x ∈ N, (defScope st).names.lookup x = some .local ∨ (defScope st).names.lookup x = some .cell)
    (hc : cSt c n N (defScope st) (defBody st) = some body) : FnOk P w K mg base CX0 (k + 1) fa fd ps (spIO K cl j (gQ Γ Δ m N j ps.length body)) := by
  refine def_io L F FS loc hc (fun ds t ds' h => ?_) (fun ds t ds' h => ?_)
  · unfold gQ at h
    split at h
    · assumption
    · cases h
  · unfold gQ at h
    split at h
    · obtain ⟨⟨fl, env'⟩, e, h⟩ := bsi h
      obtain ⟨t', e2, h⟩ := bsi h
      obtain ⟨ts, e3, h⟩ := bsi h
      obtain ⟨d2, e4, h⟩ := msi h
      cases h
      refine ⟨m, fl, env', e, ?_, ?_⟩
      · cases fl with
        | rt t => cases e2; exact .inl rfl
        | nx => cases e2; exact .inr ⟨rfl, rfl⟩
        | _ => cases e2
      · rw [owAt_eq e3, unsh_eq e4]
    · cases h
theorem lookup_ne {x : Str} {f f' : Nat} : ∀ {tab : List (Str × Nat)}, tab.all (fun p => p.2 != f) = true → tab.lookup x = some f' → f' ≠ f
  | [], _, h => by cases h
  | (y, g) :: r, ha, h => by
    rw [List.all_cons, Bool.and_eq_true] at ha
    rw [List.lookup_cons] at h
    split at h
    · cases h; simpa using ha.1
    · exact lookup_ne ha.2 h
theorem lookup_neI {x : Str} {f f' i : Nat} : ∀ {tab : List (Str × Nat × Nat)}, tab.all (fun p => p.2.1 != f) = true → tab.lookup x = some (f', i) → f' ≠ f
  | [], _, h => by cases h
  | (y, g) :: r, ha, h => by
    rw [List.all_cons, Bool.and_eq_true] at ha
    rw [List.lookup_cons] at h
    split at h
    · cases h; simpa using ha.1
    · exact lookup_neI ha.2 h
theorem Lw.ext (L : Lw P w K mg base cl c Γ Δ k) {f : Nat} {g : List D → Option T} (hf : f < 1000) (hn : c.cc.tab.all (fun p => p.2 != f) = true) : Lw P w K mg base cl c (extT Γ f g) Δ k := by
  refine ⟨fun y f' h => ?_, L.io, L.blt, L.gi, L.cls, fun d C i m g' h0 h1 h2 => ?_, L.cn, L.mio, L.fv⟩
  · obtain ⟨g', h1, r⟩ := L.fn y f' h
    exact ⟨g', by unfold extT; rw [if_neg (lookup_ne hn h)]; exact h1, r⟩
  · refine L.mth d C i m g' h0 h1 ?_
    unfold extT at h2
    rw [if_neg (by unfold mid; omega)] at h2
    exact h2
theorem Lw.join (L : Lw P w K mg base cl c Γ Δ k) {x : Str} {f : Nat} {g : List D → Option T} {fa : Addr} {fd : FuncData} {ps : List Str} (hf : f < 1000) (hn : c.cc.tab.all (fun p => p.2 != f) = true) (F : FnOk P w K mg base CX0 (k + 1) fa fd ps (spP K cl g)) (hm : mg x = some (.ref fa)) (hk : W.keepIn K (.ref fa) = true) (hb : Binds K fd ps []) :
    Lw P w K mg base cl ⟨⟨(x, f) :: c.cc.tab, c.cc.gi, c.cc.cn⟩, c.iot⟩ (extT Γ f g) Δ (k + 1) :=
  (L.ext hf hn).addG (Nat.le_succ _) (by unfold extT; rw [if_pos rfl]) (.inl ⟨fa, fd, ps, F, hm, hk, hb⟩)
theorem Lw.joinIO (L : Lw P w K mg base cl c Γ Δ k) {x : Str} {f j : Nat} {g : List D → Option (T × List D)} {fa : Addr} {fd : FuncData} {ps : List Str} (hf : f < 1000) (hn : c.iot.all (fun p => p.2.1 != f) = true) (F : FnOk P w K mg base CX0 (k + 1) fa fd ps (spIO K cl j g)) (hm : mg x = some (.ref fa)) (hk : W.keepIn K (.ref fa) = true) (hb : Binds K fd ps []) :
    Lw P w K mg base cl ⟨c.cc, (x, f, j) :: c.iot⟩ Γ (extI Δ f j g) (k + 1) := by
  have L' : Lw P w K mg base cl c Γ (extI Δ f j g) k := ⟨L.fn, fun y f' i h => by
    obtain ⟨g', h1, r⟩ := L.io y f' i h
    exact ⟨g', by unfold extI; rw [if_neg (lookup_neI hn h)]; exact h1, r⟩, L.blt, L.gi, L.cls, L.mth, L.cn, fun d C i m g' h0 h1 h2 => L.mio d C i m g' h0 h1 (by unfold extI at h2; rw [if_neg (by unfold mid; omega)] at h2; exact h2), L.fv⟩
  exact L'.addIO (by unfold extI; rw [if_pos rfl]) F hm hk hb
end
theorem gP_rt {Γ : Tab} {Δ : IOT} {m : Nat} {N : List Str} {ar : Nat} {body : S} {ds : List D} {t : T} {env : TEnv} (hl : ds.length = ar) (h : ex Γ Δ none m body (startT N ds) = some (.rt t, env)) : gP Γ Δ m N ar body ds = some t := by
  unfold gP; rw [if_pos hl, h]
theorem gP_nx {Γ : Tab} {Δ : IOT} {m : Nat} {N : List Str} {ar : Nat} {body : S} {ds : List D} {env : TEnv} (hl : ds.length = ar) (h : ex Γ Δ none m body (startT N ds) = some (.nx, env)) : gP Γ Δ m N ar body ds = some (.sh .non) := by
  unfold gP; rw [if_pos hl, h]
theorem gQ_rt {Γ : Tab} {Δ : IOT} {m j : Nat} {N : List Str} {ar : Nat} {body : S} {ds ds' : List D} {t : T} {env : TEnv} (hl : ds.length = ar) (h : ex Γ Δ (some j) m body (startIO N j ds) = some (.rt t, env)) (hj : owAt env j = some (ds'.map T.sh)) : gQ Γ Δ m N j ar body ds = some (t, ds') := by
  unfold gQ; rw [if_pos hl, h]; simp [flT, hj, unsh_sh]
end MI
namespace MI
open PySem L2
section
variable {Γ : Tab} {Δ : IOT} {pio : Option Nat} {n : Nat} {env env2 env3 : TEnv} {k : S}
theorem st_asg {i : Nat} {m : E} {t : T} (ok : okI pio env i = true) (h : evX Γ pio m env = some (t, env2)) : ex Γ Δ pio n (.seq (.asg i m) k) env = ex Γ Δ pio n k (env2.set i (some t)) := by
  rw [ex_seq, ex_asg, if_pos ok, h]; rfl
theorem st_asg2 {i j : Nat} {m l : E} {t u : T} (ok : (okI pio env i && okI pio env j && decide (i ≠ j)) = true) (h : evX Γ pio m env = some (t, env2)) (h2 : evX Γ pio l env2 = some (u, env3)) : ex Γ Δ pio n (.seq (.asg2 i j m l) k) env = ex Γ Δ pio n k ((env3.set i (some t)).set j (some u)) := by
  rw [ex_seq, show ex Γ Δ pio n (.asg2 i j m l) env = if okI pio env i && okI pio env j && decide (i ≠ j) then (evX Γ pio m env).bind fun r => (evX Γ pio l r.2).map fun q => (.nx, (q.2.set i (some r.1)).set j (some q.1)) else none from rfl, if_pos ok, h, obs, show evX Γ pio l (t, env2).2 = _ from h2]; rfl
theorem st_skip {c : E} {a : S} (h : evB Γ c (dEnv env) = some false) : ex Γ Δ pio n (.seq (.ife c a .nop) k) env = ex Γ Δ pio n k env := by
  rw [ex_seq, ex_ife, h]; rfl
theorem st_if {c : E} {a b : S} {t : Bool} (h : evB Γ c (dEnv env) = some t) (h2 : (if t then ex Γ Δ pio n a env else ex Γ Δ pio n b env) = some (.nx, env2)) : ex Γ Δ pio n (.seq (.ife c a b) k) env = ex Γ Δ pio n k env2 := by
  rw [ex_seq, ex_ife, h, obs, h2]; rfl
theorem st_for1 {i : Nat} {it : E} {b : S} {l : List D} (ok : okI pio env i = true) (h : itX Γ pio it env = some (l, env2)) (hf : forL (fun d e => ex Γ Δ pio n b (e.set i (some (.sh d)))) l env2 = some (.nx, env3)) : ex Γ Δ pio n (.seq (.for1 i it b) k) env = ex Γ Δ pio n k env3 := by
  rw [ex_seq, ex_for1, if_pos ok, h, obs, show forL (fun d e => ex Γ Δ pio n b (e.set i (some (.sh d)))) (l, env2).1 (l, env2).2 = _ from hf]; rfl
theorem st_ret {m : E} {t : T} (hm : ∀ i, m ≠ .var i) (h : evX Γ pio m env = some (t, env2)) : ex Γ Δ pio n (.seq (.ret m) k) env = some (.rt t, env2) := by
  rw [ex_seq, ex_ret _ _ _ _ _ _ hm, h]; rfl
theorem st_retV {i : Nat} {t : T} (hp : pio ≠ some i) (h : (env[i]?).join = some t) : ex Γ Δ pio n (.seq (.ret (.var i)) k) env = some (.rt t, env.set i none) := by
  rw [ex_seq, ex_retV, if_neg hp, h]; rfl
theorem st_app {i : Nat} {m : E} {t : T} {ts : List T} (h : evX Γ pio m env = some (t, env2)) (h2 : owAt env2 i = some ts) (hs : sz ts.length = true) : ex Γ Δ pio n (.seq (.app i m) k) env = ex Γ Δ pio n k (env2.set i (some (.ow (ts ++ [t])))) := by
  rw [ex_seq, ex_app, h, obs, show owAt (t, env2).2 i = some ts from h2, obs, if_pos hs]; rfl
theorem st_ins {i : Nat} {q m : E} {d : D} {z : Nat} {ts : List T} (h1 : ev Γ q (dEnv env) = some (.int z)) (h2 : ev Γ m (dEnv env) = some d) (h3 : owAt env i = some ts) (hs : scal d = true) (hz : z ≤ ts.length) (hl : sz ts.length = true) : ex Γ Δ pio n (.seq (.ins i q m) k) env = ex Γ Δ pio n k (env.set i (some (.ow (ts.take z ++ .sh d :: ts.drop z)))) := by
  rw [ex_seq, show ex Γ Δ pio n (.ins i q m) env = ((ev Γ q (dEnv env)).bind intD).bind fun z => (ev Γ m (dEnv env)).bind fun d => (owAt env i).bind fun ts => if scal d && decide (0 ≤ z ∧ z ≤ ts.length) && sz ts.length then some (.nx, env.set i (some (.ow (ts.take z.toNat ++ .sh d :: ts.drop z.toNat)))) else none from rfl, h1, h2, h3]
  simp only [obs, intD_int]
  rw [if_pos (by rw [hs, hl, dtt (by omega)]; rfl), Int.toNat_natCast]; rfl
theorem st_drop {m : E} {t : T} (h : evX Γ pio m env = some (t, env2)) : ex Γ Δ pio n (.seq (.drop m) k) env = ex Γ Δ pio n k env2 := by
  rw [ex_seq, ex_drop, h]; rfl
end
end MI
end
noncomputable section
namespace MI
open PySem L2 LX PyProof.Rows
inductive RE where
  | call (k : Nat) (m : E) | ite (c : E) (a b : RE)
inductive R where
  | rs (x : Str) | xe (e : RE) | dr (k f : Nat) (m : E) (r : R) | ifr (t : E) (a r : R) | non
noncomputable abbrev XT := Nat → Option (List D → Option Str)
noncomputable def rxC (Γ : Tab) (Ξ : XT) (env : List (Option D)) (k : Nat) (m : E) : Option Str := (Ξ k).bind fun g => (evs Γ m env).bind g
noncomputable def rxE (Γ : Tab) (Ξ : XT) (env : List (Option D)) : RE → Option Str
  | .call k m => rxC Γ Ξ env k m
  | .ite c a b => (evB Γ c env).bind fun t => if t = true then rxE Γ Ξ env a else rxE Γ Ξ env b
noncomputable def rx (Γ : Tab) (Ξ : XT) (env : List (Option D)) : R → Option Str
  | .rs x => some x
  | .xe e => rxE Γ Ξ env e
  | .dr k f m r => match rxC Γ Ξ env k m with
    | some x => some x
    | none => (ev Γ (.call f m) env).bind fun _ => rx Γ Ξ env r
  | .ifr t a r => (evB Γ t env).bind fun b => if b = true then rx Γ Ξ env a else rx Γ Ξ env r
  | .non => none
noncomputable def XN : List Str := ["BadRow", "BadNumber", "BadRings", "Unlike", "BadText"]
noncomputable def BMV : List Value := [.type "ValueError", .type "Exception", .type "BaseException", .type "object"]
noncomputable def spX (K : W.Frag) (cl : Nat → Option Addr) (g : List D → Option Str) : Sp := fun vs H _ E => ∃ G l y C, Same G H ∧ Dns K cl G vs l ∧ g l = some y ∧ W.nsIn K mainGlobals y = some (some (.ref C)) ∧ ∀ H', Same H H' → E (.ref C) none H'
structure GoodX (X : Cx) (cl : Nat → Option Addr) (x : Str) (g : List D → Option Str) : Prop where
  ex : ∃ k fa fd ps, FnOk X.prog X.w X.K X.mg X.base (CXE X.prog X.w) k fa fd ps (spX X.K cl g) ∧ Room k X.A ∧ X.mg x = some (.ref fa) ∧ W.keepIn X.K (.ref fa) = true ∧ Binds X.K fd ps []
structure XSees (X : Cx) (E : XK) (cl : Nat → Option Addr) (c : CC) (Γ : Tab) (Ξ : XT) (ξ : List (Str × Nat)) (N : List Str) (sc : Scope) : Prop where
  O : XOut X E
  cm : X.calm = true
  S : Sees X.nox cl c Γ true N sc
  hΓ : ∀ x f, c.tab.lookup x = some f → ∃ g, Γ f = some g
  fx : ∀ x k, ξ.lookup x = some k → ∃ g, Ξ k = some g ∧ GoodX X cl x g
  own : ∀ x ∈ XN, ∃ C, OwnCls x C BMV "ValueError.__new__" X.mg X.base ∧ W.nsIn X.K mainGlobals x = some (some (.ref C))
section
variable (K : W.Frag) (cl : Nat → Option Addr) (Γ : Tab) (Ξ : XT) (E : XK)
noncomputable def tRE (r : RE) : TE := fun σ H _ => ∃ G env y C, Same G H ∧ EnvD K cl G env σ ∧ rxE Γ Ξ env r = some y ∧ W.nsIn K mainGlobals y = some (some (.ref C)) ∧ ∀ H', Same H H' → E (.ref C) none H'
noncomputable def tR (r : R) : TS := fun _ σ H => ∃ G env y C, Same G H ∧ EnvD K cl G env σ ∧ rx Γ Ξ env r = some y ∧ W.nsIn K mainGlobals y = some (some (.ref C)) ∧ ∀ H', Same H H' → E (.ref C) none H'
end
noncomputable def cRC (c : CC) (ξ : List (Str × Nat)) (n : Nat) (N : List Str) (sc : Scope) (x : Str) (args : List Expr) : Option (Nat × E) :=
  if args.all okE && isGl N sc x && !args.isEmpty then (ξ.lookup x).bind fun k => (cList (cE c n true N sc) args).map fun m => (k, m) else none
noncomputable def cRE (c : CC) (ξ : List (Str × Nat)) (N : List Str) (sc : Scope) : Nat → Expr → Option RE
  | 0, _ => none
  | n + 1, e => match e with
    | .Call (.Name x _) args [] _ => (cRC c ξ n N sc x args).map fun km => .call km.1 km.2
    | .IfExp t a b _ => if okT t then (cE c n true N sc t).bind fun mt => (cRE c ξ N sc n a).bind fun ra => (cRE c ξ N sc n b).map fun rb => .ite mt ra rb else none
    | _ => none
noncomputable def cR (c : CC) (ξ : List (Str × Nat)) (N : List Str) (sc : Scope) : Nat → List Stmt → R
  | 0, _ => .non
  | n + 1, l => match l with
    | .Raise (some (.Call (.Name x _) [.Constant (.str w) k p] [] _)) none _ :: _ => if XN.contains x && isGl N sc x then .rs x else .non
    | .Return (some e) _ :: _ => ((cRE c ξ N sc n e).map R.xe).getD .non
    | .Expr (.Call (.Name x _) args [] _) _ :: rest => ((cRC c ξ n N sc x args).bind fun km => (c.tab.lookup x).map fun f => R.dr km.1 f km.2 (cR c ξ N sc n rest)).getD .non
    | .If t a [] _ :: rest => if okT t then ((cE c n true N sc t).map fun mt => R.ifr mt (cR c ξ N sc n a) (cR c ξ N sc n rest)).getD .non else .non
    | _ => .non
section
variable {X : Cx} {E : XK} {cl : Nat → Option Addr} {c : CC} {Γ : Tab} {Ξ : XT} {ξ : List (Str × Nat)} {N : List Str} {sc : Scope}
theorem pe_callX (Z : XSees X E cl c Γ Ξ ξ N sc) {x : Str} {g : List D → Option Str} (F : GoodX X cl x g) {e : Expr} {es : List Expr} {m : MI.E} {p pos : Pos} (hg : Gl X x) (hd : (x == ("__debug__" : Str)) = false) (ha : PA X (e :: es) (tVs X.K cl Γ m)) (ok : (e :: es).all okE = true) :
    PE X (.Call (.Name x p) (e :: es) [] pos) (fun σ H _ => ∃ G env l y C, Same G H ∧ EnvD X.K cl G env σ ∧ evs Γ m env = some l ∧ g l = some y ∧ W.nsIn X.K mainGlobals y = some (some (.ref C)) ∧ ∀ H', Same H H' → E (.ref C) none H') := by
  rw [List.all_cons, Bool.and_eq_true] at ok
  obtain ⟨k, fa, fd, ps, F1, F2, F3, F4, F5⟩ := F.ex
  refine peI (pe_call F1 F2 hg F3 F4 F5 .nil (passes Z.O) ha hd (star_of ok.1 _ _) (star_any ok.2 _ _)) fun σ H Q ⟨G, env, l, y, C, sg, en, e, ey, n, q⟩ => ?_
  refine ⟨G, env, l, sg, en, e, fun vs H1 G1 x1 d1 => ?_⟩
  show spX X.K cl g (vs ++ []) H1 Q E
  rw [List.append_nil]
  exact ⟨G1, l, y, C, x1.gh, d1, ey, n, fun H' s' => q H' (x1.hh.trans s')⟩
theorem cRC_ok (Z : XSees X E cl c Γ Ξ ξ N sc) {n : Nat} {x : Str} {args : List Expr} {km : Nat × MI.E} {p pos : Pos} (h : cRC c ξ n N sc x args = some km) :
    PE X (.Call (.Name x p) args [] pos) (tRE X.K cl Γ Ξ E (.call km.1 km.2)) := by
  unfold cRC at h
  split at h
  · rename_i ok
    obtain ⟨ok, ne⟩ := bae ok
    obtain ⟨ok, gx⟩ := bae ok
    obtain ⟨k, hk, h⟩ := bsi h
    obtain ⟨m, hm, rfl⟩ := msi h
    obtain ⟨g, hg, G⟩ := Z.fx x k hk
    obtain ⟨o1, g1⟩ := isGl_ok gx
    have pa : PA X args (tVs X.K cl Γ m) := clist_ok (fun e _ m h => ((cE_ok Z.hΓ n true N sc e m X.nox Z.S h).1).nox) ok hm
    cases args with
    | nil => cases ne
    | cons e es =>
      refine peI (pe_callX Z G (Z.S.gl x g1) (okN_ok o1).1 pa ok) fun σ H Q ⟨G0, env, y, C, sg, en, e1, n1, q⟩ => ?_
      have e2 : (Ξ k).bind (fun g => (evs Γ m env).bind g) = some y := e1
      rw [hg] at e2
      obtain ⟨l, e3, e4⟩ := bsi (show (evs Γ m env).bind g = some y from e2)
      exact ⟨G0, env, l, y, C, sg, en, e3, e4, n1, q⟩
  · cases h
theorem cRE_ok (Z : XSees X E cl c Γ Ξ ξ N sc) : ∀ (n : Nat) (e : Expr) (r : RE), cRE c ξ N sc n e = some r → PE X e (tRE X.K cl Γ Ξ E r) := by
  intro n
  induction n with
  | zero => intro e r h; cases h
  | succ n ih =>
    intro e r h
    unfold cRE at h
    split at h
    · obtain ⟨km, h1, rfl⟩ := msi h
      exact cRC_ok Z h1
    · split at h
      · rename_i t a b pos ot
        obtain ⟨mt, h1, h⟩ := bsi h
        obtain ⟨ra, h2, h⟩ := bsi h
        obtain ⟨rb, h3, rfl⟩ := msi h
        refine peI (pe_ifExp (((cE_ok Z.hΓ n true N sc t mt X.nox Z.S h1).2 ot).nox) (ih a ra h2) (ih b rb h3)) fun σ H Q ⟨G0, env, y, C, sg, en, e1, n1, q⟩ => ?_
        obtain ⟨tb, e2, e3⟩ := bsi (show (evB Γ mt env).bind (fun t => if t = true then rxE Γ Ξ env ra else rxE Γ Ξ env rb) = some y from e1)
        refine ⟨G0, env, tb, sg, en, e2, fun H1 G1 x1 => ?_⟩
        cases tb with
        | true => exact iteT ⟨G1, env, y, C, x1.gh, en.mono x1.gg, e3, n1, fun H' s' => q H' (x1.hh.trans s')⟩
        | false => exact iteF ⟨G1, env, y, C, x1.gh, en.mono x1.gg, e3, n1, fun H' s' => q H' (x1.hh.trans s')⟩
      · cases h
    · cases h
end
theorem ps_or {X : Cx} {st : Stmt} {t u : TS} (h1 : PS X st t) (h2 : PS X st u) : PS X st (fun D σ H => t D σ H ∨ u D σ H) := fun pins s σ H D I q => by
  rcases q with q | q
  · exact h1 pins s σ H D I q
  · exact h2 pins s σ H D I q
section
variable {X : Cx} {E : XK} {cl : Nat → Option Addr} {c : CC} {Γ : Tab} {Ξ : XT} {ξ : List (Str × Nat)} {N : List Str} {sc : Scope}
theorem pss_stop {l rest : List Stmt} {st : Stmt} {t : TS} (h : PS X st t) (ht : ∀ D D' σ H, t D σ H → t D' σ H) : PSs X (st :: rest) t := by
  intro pins s σ H D I q
  refine wpAny_execs_cons (wpAny_mono (h pins s σ H { nx := fun _ _ => False, rt := fun _ _ => False } I (ht _ _ _ _ q)) (fun f s1 z => ?_) fun _ _ z => z)
  cases f with
  | next => obtain ⟨_, _, _, z⟩ := z; exact z.elim
  | ret u => obtain ⟨_, _, _, _, _, z⟩ := z; exact z.elim
  | brk => obtain ⟨_, _, _, z⟩ := z; exact z.elim
  | cont => obtain ⟨_, _, _, z⟩ := z; exact z.elim
theorem r_non {l : List Stmt} : PSs X l (tR X.K cl Γ Ξ E .non) := fun pins s σ H D I ⟨G0, env, y, C', sg, en, e, n', q⟩ => by cases e
theorem cR_ok (Z : XSees X E cl c Γ Ξ ξ N sc) : ∀ (n : Nat) (l : List Stmt), PSs X l (tR X.K cl Γ Ξ E (cR c ξ N sc n l)) := by
  intro n
  induction n with
  | zero => intro l; exact r_non
  | succ n ih =>
    intro l
    unfold cR
    split
    · rename_i x np w k p cpos pos rest
      split
      · rename_i ok
        obtain ⟨hx, gx⟩ := bae ok
        obtain ⟨o1, g1⟩ := isGl_ok gx
        obtain ⟨C, G, nC⟩ := Z.own x (by simpa using hx)
        have pr := ps_raise (pos := pos) (np := np) (cpos := cpos) Z.O Z.cm G PySem.F.excBase_ValueError (Z.S.gl x g1) (pa_cons (pe_str (X := X) (j := k) (pos := p) (x := w)) pa_nil) rfl rfl (okN_ok o1).1
        refine pssI (pss_stop (l := []) pr fun D D' σ H z => z) fun D σ H ⟨G0, env, y, C', sg, en, e, n', q⟩ => ?_
        cases e
        rw [nC] at n'
        cases n'
        exact ⟨by show 1 ≤ sizeLine; decide, q H (.refl _)⟩
      · exact r_non
    · rename_i e pos rest
      cases h : cRE c ξ N sc n e with
      | none => exact r_non
      | some re => exact pssI (pss_stop (l := []) (ps_ret (cRE_ok Z n e re h)) fun D D' σ H z => z) fun D σ H q => q
    · rename_i x np args cpos pos rest
      cases h1 : cRC c ξ n N sc x args with
      | none => exact r_non
      | some km =>
      cases h2 : c.tab.lookup x with
      | none => exact r_non
      | some f =>
      have pr := ps_expr (pos := pos) (cRC_ok (p := np) (pos := cpos) Z h1) rfl
      have pn : PE X (.Call (.Name x np) args [] cpos) (tV X.K cl Γ (.call f km.2)) := by
        unfold cRC at h1
        split at h1
        · rename_i ok
          obtain ⟨ok, ne⟩ := bae ok
          obtain ⟨ok, gx⟩ := bae ok
          obtain ⟨k, hk, h1⟩ := bsi h1
          obtain ⟨m, hm, rfl⟩ := msi h1
          obtain ⟨o1, g1⟩ := isGl_ok gx
          obtain ⟨g, hg⟩ := Z.hΓ x f h2
          have pa : PA X.nox args (tVs X.K cl Γ m) := clist_ok (fun e _ m h => (cE_ok Z.hΓ n true N sc e m X.nox Z.S h).1) ok hm
          cases args with
          | nil => cases ne
          | cons e es => exact (pe_callD (X := X.nox) (Z.S.gl x g1) (okN_ok o1).1 (Z.S.fn x f g h2 hg) hg pa ok).nox
        · cases h1
      refine pssI (pss_cons (ps_or pr (ps_expr (pos := pos) pn rfl)) (ih rest)) fun D σ H ⟨G0, env, y, C', sg, en, e, n', q⟩ => ?_
      have e' : (match rxC Γ Ξ env km.1 km.2 with | some x => some x | none => (ev Γ (.call f km.2) env).bind fun _ => rx Γ Ξ env (cR c ξ N sc n rest)) = some y := e
      split at e'
      · rename_i z hz
        cases e'
        exact .inl ⟨G0, env, y, C', sg, en, hz, n', q⟩
      · obtain ⟨d, e1, e2⟩ := bsi e'
        refine .inr ⟨G0, env, d, sg, en, e1, fun v H1 G1 x1 dv => ?_⟩
        exact ⟨G1, env, y, C', x1.gh, en.mono x1.gg, e2, n', fun H' s' => q H' (x1.hh.trans s')⟩
    · rename_i t a pos rest
      split
      · rename_i ot
        cases h1 : cE c n true N sc t with
        | none => exact r_non
        | some mt =>
        refine pssI (pss_cons (ps_if (((cE_ok Z.hΓ n true N sc t mt X.nox Z.S h1).2 ot).nox) (ih a) pss_nil) (ih rest)) fun D σ H ⟨G0, env, y, C', sg, en, e, n', q⟩ => ?_
        obtain ⟨tb, e2, e3⟩ := bsi (show (evB Γ mt env).bind (fun b => if b = true then rx Γ Ξ env (cR c ξ N sc n a) else rx Γ Ξ env (cR c ξ N sc n rest)) = some y from e)
        refine ⟨G0, env, tb, sg, en, e2, fun H1 G1 x1 => ?_⟩
        cases tb with
        | true => exact iteT ⟨G1, env, y, C', x1.gh, en.mono x1.gg, e3, n', fun H' s' => q H' (x1.hh.trans s')⟩
        | false => exact iteF ⟨G1, env, y, C', x1.gh, en.mono x1.gg, e3, n', fun H' s' => q H' (x1.hh.trans s')⟩
      · exact r_non
    · exact r_non
end
noncomputable def gX (Γ : Tab) (Ξ : XT) (ar : Nat) (r : R) (l : List D) : Option Str := if l.length = ar then rx Γ Ξ (l.map some) r else none
structure LwX (P : Program) (w : World) (K : W.Frag) (mg : Str → Option Value) (base : Heap) (cl : Nat → Option Addr) (Ξ : XT) (ξ : List (Str × Nat)) (k : Nat) : Prop where
  fx : ∀ x j, ξ.lookup x = some j → ∃ g, Ξ j = some g ∧ ∃ fa fd ps, FnOk P w K mg base (CXE P w) k fa fd ps (spX K cl g) ∧ mg x = some (.ref fa) ∧ W.keepIn K (.ref fa) = true ∧ Binds K fd ps []
  own : ∀ x ∈ XN, ∃ C, OwnCls x C BMV "ValueError.__new__" mg base ∧ W.nsIn K mainGlobals x = some (some (.ref C))
section
variable {P : Program} {w : World} {K : W.Frag} {mg : Str → Option Value} {base : Heap} {cl : Nat → Option Addr} {c : CS} {Γ : Tab} {Δ : IOT} {Ξ : XT} {ξ : List (Str × Nat)} {k : Nat}
theorem LwX.mono (L : LwX P w K mg base cl Ξ ξ k) {k' : Nat} (h : k ≤ k') : LwX P w K mg base cl Ξ ξ k' := ⟨fun x j e => by
  obtain ⟨g, hg, fa, fd, ps, F, r⟩ := L.fx x j e
  exact ⟨g, hg, fa, fd, ps, F.mono h, r⟩, L.own⟩
theorem LwX.add (L : LwX P w K mg base cl Ξ ξ k) {x : Str} {j : Nat} {g : List D → Option Str} {fa : Addr} {fd : FuncData} {ps : List Str} (hk : k ≤ k + 1) (hj : ξ.all (fun p => p.2 != j) = true) (F : FnOk P w K mg base (CXE P w) (k + 1) fa fd ps (spX K cl g)) (hm : mg x = some (.ref fa)) (kp : W.keepIn K (.ref fa) = true) (hb : Binds K fd ps []) :
    LwX P w K mg base cl (fun i => if i = j then some g else Ξ i) ((x, j) :: ξ) (k + 1) := by
  refine ⟨fun y i e => ?_, L.own⟩
  rw [List.lookup_cons] at e
  split at e
  · rename_i z
    cases e
    have z : y = x := by simpa using z
    subst z
    exact ⟨g, if_pos rfl, fa, fd, ps, F, hm, kp, hb⟩
  · obtain ⟨g', hg, fa', fd', ps', F', r⟩ := L.fx y i e
    have ne : i ≠ j := by
      have := List.all_eq_true.mp hj (y, i) (mem_of_lookup e)
      simpa using this
    exact ⟨g', by rw [if_neg ne]; exact hg, fa', fd', ps', F'.mono (Nat.le_succ _), r⟩
theorem env_start {N : List Str} {G : Hp} {vs : List V} {l : List D} (dn : Dns K cl G vs l) : EnvD K cl G (l.map some) (L2.start N vs) := fun i d h => by
  rw [List.getElem?_map] at h
  cases e : l[i]? with
  | none => rw [e] at h; cases h
  | some d' =>
    rw [e] at h
    cases h
    obtain ⟨v, h2, h3⟩ := dn.get e
    exact ⟨v, start_get h2, h3⟩
theorem def_x (L : Lw P w K mg base cl c Γ Δ k) (M : LwX P w K mg base cl Ξ ξ k) {x qual : Str} {st : Stmt} {f : Addr} {fd : FuncData} {N ps : List Str} {n : Nat} {r : R} (F : Fun K x qual st f fd) (FS : FnScope N ps (defScope st)) (loc : ∀ x ∈ N, (defScope st).names.lookup x = some .local ∨ (defScope st).names.lookup x = some .cell)
    (hc : cR c.cc ξ N (defScope st) n (defBody st) = r) : FnOk P w K mg base (CXE P w) (k + 1) f fd ps (spX K cl (gX Γ Ξ ps.length r)) := by
  obtain ⟨oc, od, kV, doc, pm, an, cdv, ct, osl, rfl, lk, hcd⟩ := F.ex
  refine fn_of lk hcd FS (fun vs H Q E h => ?_) fun A outer s H vs Q E hr h => ?_
  · obtain ⟨G, l, y, C, sg, dn, hg, nC, q⟩ := h
    unfold gX at hg
    split at hg
    · rename_i e; rw [dn.length]; exact e
    · cases hg
  · obtain ⟨G, l, y, C, sg, dn, hg, nC, q⟩ := h
    unfold gX at hg
    split at hg
    · have SS := L.sees (N := N) (ps := ps) (qual := qual) (f := f) (cdv := cdv) (A := A) (outer := outer) (s := s) (H := H) (E := E) FS loc hr
      have Z : XSees (cxOf (CXE P w) P w K mg base N qual (defScope st) f cdv A outer s H E) E cl c.cc Γ Ξ ξ N (defScope st) := ⟨XOut.of, rfl, SS.S, SS.hΓ, fun x j e => by
        obtain ⟨g, hg, fa, fd, ps, F, r⟩ := M.fx x j e
        exact ⟨g, hg, ⟨k, fa, fd, ps, F, hr, r⟩⟩, M.own⟩
      subst hc
      exact ⟨_, cR_ok Z n _, G, l.map some, y, C, sg, env_start dn, hg, nC, q⟩
    · cases hg
end
end MI
end
noncomputable section
namespace L2
open PySem PySem.Spec PyProof.Rows LX
structure Room0 (k : Nat) (A : Around) : Prop where
  dp : A.depth + 3 * k + 5 < recursionLimit
  un : A.units + 16 * k + 200 < cLine
theorem Room.r0 {k : Nat} {A : Around} (r : Room k A) {h : Option Value} : Room0 k (A.mark h) := ⟨r.dp, r.un⟩
noncomputable def cxN (P : Program) (w : World) (K : W.Frag) (mg : Str → Option Value) (base : Heap) (N : List Str) (qual : Str) (scope : Scope) (f : Addr) (cd : Value) (A : Around) (outer : List Env) (s : Shared) (H : Hp) : Cx :=
  { cxOf CX0 P w K mg base N qual scope f cd A outer s H E0 with calm := false }
theorem fn_any {P : Program} {w : World} {K : W.Frag} {mg : Str → Option Value} {base : Heap} {x qual : Str} {st : Stmt} {f : Addr} {fd : FuncData} {N ps : List Str} {k : Nat} {A : Around} {outer : List Env} {s : Shared} {H : Hp} {args : Args} {us : List Value} {vs : List V} {Q : VK}
    (F : Fun K x qual st f fd) (S : FnScope N ps (defScope st)) (hr : Room0 (k + 1) A) (e0 : Env0 P w K mg base A outer s H) (hb : BindsTo s fd args (ps.zip us)) (r : Vals vs us) (hl : vs.length = ps.length)
    (hbody : ∀ cdv, ∃ t, PSs (cxN P w K mg base N qual (defScope st) f cdv A outer s H).nox (defBody st) t ∧ t { nx := fun _ H' => Q .non H', rt := Q } (start N vs) H) : codeAny (model P w) A (.call (.ref f) args) (CR CX0 outer P w H s Q E0) s := by
  obtain ⟨oc, od, kV, doc, pm, an, cdv, ct, osl, rfl, lk, hcd⟩ := F.ex
  have kin : K.In s.heap := e0.mod.kin.keeps fun b o z => (e0.bs b o z).1
  have lim : s.heap.NoLimit := e0.mod.nolimit.keeps fun b o z => (e0.bs b o z).1
  have kinds : ∀ y ∈ ps.zip us, (defScope st).names.lookup y.1 = some .local ∨ ((defScope st).names.lookup y.1 = some .cell ∧ ((cellsFrom (s.heap.objs.size + 1) (defScope st).names []).lookup y.1).isSome = true) := fun y hy => by
    obtain ⟨n, v⟩ := y
    rcases S.par n (List.of_mem_zip hy).1 with z | z
    · exact .inl z
    · exact .inr ⟨z, W.cellsFrom_some _ _ _ (.inl z)⟩
  refine codeAny_call_function (by have := hr.dp; omega) (kin _ _ lk) rfl S.co S.gen rfl (W.codeRec_of kin hcd) (hb _ _ _ _ ?_)
  refine wpAny_newFunctionEnv_cells S.kind kinds fun env he s1 z => ?_
  subst he
  refine ⟨lim.keeps z.toInCall.keep, codeAny_func ?_⟩
  obtain ⟨t, ht, q⟩ := hbody cdv
  have e1 : Env0 P w K mg base { A with handled := none } outer s H := ⟨e0.frames, e0.mod, e0.bs, e0.bsz, e0.funs, e0.frf, e0.hok, e0.bare⟩
  have J := inv_start (CX := CX0) (E := E0) (qual := qual) (f := f) (cd := cdv) S rfl e1 hl r z
  have I : Inv (cxN P w K mg base N qual (defScope st) f cdv A outer s H) [] (start N vs) H s1 :=
    ⟨⟨J.ok.mod, J.ok.kind, J.ok.glob, J.ok.blt, J.ok.above, J.ok.inj, J.ok.has, J.ok.cab, (fun z => by cases z), Around.frames_deeper e0.frames, J.ok.stk, J.ok.exf, J.ok.bs, J.ok.bsz, J.ok.noex, J.ok.exfs, J.ok.funs, J.ok.frf⟩, J.os, J.bare, J.base, J.loc, J.cell, J.free, J.freeC, J.pin, J.hok, J.len⟩
  refine wpAny_mono (PSs.nox (X := cxN P w K mg base N qual (defScope st) f cdv A outer s H) ht [] s1 (start N vs) H _ I q) (fun fl s2 hs => ?_) fun e s2 hs => hs
  cases fl with
  | ret u =>
    obtain ⟨v, σ', H', J2, rv, q2⟩ := hs
    exact ⟨v, H', J2.os, J2.bare, J2.base, J2.hok, rv, q2⟩
  | next =>
    obtain ⟨σ', H', J2, q2⟩ := hs
    exact ⟨.non, H', J2.os, J2.bare, J2.base, J2.hok, rfl, q2⟩
  | brk => obtain ⟨_, _, _, z⟩ := hs; exact z.elim
  | cont => obtain ⟨_, _, _, z⟩ := hs; exact z.elim
end L2
end
noncomputable section
namespace MI
open PySem L2 LX PyProof.Rows
theorem call_isx {X : Cx} : CallR X (.builtin "isinstance") (fun xs H Q => ∃ a C w u b, xs = [.ref a, w] ∧ (∀ u', RelV w u' → u' = u) ∧ XCls X.K C ∧ H a = some (.ext (excAt a (.ref C))) ∧ W.kitOne X.K (.ref C) u = some b ∧ Q (.bl b) H) := by
  intro pins s σ H xs us Q I r h
  obtain ⟨a, C, w, u, b, rfl, hu, c, ha, e, q⟩ := h
  obtain ⟨u1, u2, rfl, r1, r2⟩ := r.two
  cases (show u1 = Value.ref a from r1)
  rw [hu u2 r2]
  exact isinst_exc I c ha e fun tk => ⟨.bl b, H, I.tok _, rfl, q⟩
section
variable {X : Cx} {a C : Addr} {b : Bool} {t n : Str} {w : V} {u : Value} {i : Nat} {p1 p2 p3 p4 : Pos}
theorem pe_isx (hg : Gl X "isinstance") (hm : X.mg "isinstance" = none) (hn : PE X (.Name n p2) (tVar i)) (ht : PE X (.Name t p3) (tC w)) (hu : ∀ u', RelV w u' → u' = u) (c : XCls X.K C) (e : W.kitOne X.K (.ref C) u = some b) :
    PE X (.Call (.Name "isinstance" p1) [.Name n p2, .Name t p3] [] p4) (fun σ H Q => σ[i]? = some (some (.ref a)) ∧ H a = some (.ext (excAt a (.ref C))) ∧ Q (.bl b) H) :=
  peI (pe_callB call_isx hg hm bt_isinstance (pa_cons hn (pa_cons ht pa_nil))) fun σ H Q ⟨h1, h2, q⟩ => ⟨.ref a, h1, a, C, w, u, b, rfl, hu, c, h2, e, q⟩
end
noncomputable def KD (y : Str) : List Bool := [y == ("BadRow" : Str), y == ("BadNumber" : Str), y == ("BadRings" : Str), y == ("Unlike" : Str), y == ("BadText" : Str), true]
section
variable {X : Cx} {a C : Addr} {y : Str}
noncomputable def iB (t : Str) (p : Pos × Pos × Pos × Pos) : Expr := .Call (.Name "isinstance" p.1) [.Name "_law_error" p.2.1, .Name t p.2.2.1] [] p.2.2.2
theorem kinds_body (h0 : ∀ p, PE X (.Name "_law_error" p) (tVar 0)) (h1 : ∀ p, PE X (.Name "_law_found" p) (tVar 1)) (hN : X.N.Nodup) (hi : X.N[1]? = some ("_law_found" : Str)) (hl : Loc X.env.scope "_law_found") (hfn : X.fn "_law_found" = true)
    (hg : Gl X "isinstance") (hm : X.mg "isinstance" = none) (c : XCls X.K C) (ht : ∀ t ∈ XN, ∃ J, (∀ p, PE X (.Name t p) (tC (.ref J))) ∧ W.kitOne X.K (.ref C) (.ref J) = some (y == t)) (hv : ∀ p, PE X (.Name "ValueError" p) (tC (.ty "ValueError"))) (kv : W.kitOne X.K (.ref C) (.type "ValueError") = some true)
    {q1 q2 q3 q4 q5 q6 : Pos × Pos × Pos × Pos} {p1 p2 p3 p4 p5 p6 p7 : Pos} :
    PSs X [.Assign [.Name "_law_found" p1] (.List [iB "BadRow" q1, iB "BadNumber" q2, iB "BadRings" q3] p2) p3, .Return (some (.BinOp (.Name "_law_found" p4) .Add (.List [iB "Unlike" q4, iB "BadText" q5, iB "ValueError" q6] p5) p6)) p7]
      (fun D σ H => σ[0]? = some (some (.ref a)) ∧ 1 < σ.length ∧ H a = some (.ext (excAt a (.ref C))) ∧ ∀ p H', Same H H' → H p = none → H' p = some (.lst ((KD y).map V.bl)) → D.rt (.ref p) H') := by
  have is : ∀ t ∈ XN, ∀ q, PE X (iB t q) (fun σ H Q => σ[0]? = some (some (.ref a)) ∧ H a = some (.ext (excAt a (.ref C))) ∧ Q (.bl (y == t)) H) := fun t tm q => by
    obtain ⟨J, j1, j2⟩ := ht t tm
    exact pe_isx hg hm (h0 _) (j1 _) (fun u' r => r) c j2
  have iv : ∀ q, PE X (iB "ValueError" q) (fun σ H Q => σ[0]? = some (some (.ref a)) ∧ H a = some (.ext (excAt a (.ref C))) ∧ Q (.bl true) H) := fun q => pe_isx hg hm (h0 _) (hv _) (fun u' r => r) c kv
  refine pssI (pss_cons (ps_set (i := 1) hN hi hl (pe_lst (pa_cons (is "BadRow" (by decide) q1) (pa_cons (is "BadNumber" (by decide) q2) (pa_cons (is "BadRings" (by decide) q3) pa_nil)))) rfl (.inl hfn)) (pss_one (ps_ret (pe_op op_catR (h1 p4) (pe_lst (pa_cons (is "Unlike" (by decide) q4) (pa_cons (is "BadText" (by decide) q5) (pa_cons (iv q6) pa_nil)))))))) fun D σ H ⟨s0, sl, ha, q⟩ => ?_
  refine ⟨s0, ha, s0, ha, s0, ha, by show 3 ≤ sizeLine; decide, fun p hp => ?_⟩
  have na : a ≠ p := ne_of_none ha hp
  have s1 : (σ.set 1 (some (.ref p)))[0]? = some (some (.ref a)) := by rw [List.getElem?_set_ne (by decide)]; exact s0
  have ha1 : upd H p (.lst [.bl (y == "BadRow"), .bl (y == "BadNumber"), .bl (y == "BadRings")]) a = some (.ext (excAt a (.ref C))) := by rw [upd_ne na]; exact ha
  refine ⟨.ref p, by rw [List.getElem?_set_self sl], s1, ha1, s1, ha1, s1, ha1, by show 3 ≤ sizeLine; decide, fun r hr => ?_⟩
  have npr : p ≠ r := ne_of_none (upd_same (H := H) (a := p)) hr
  refine ⟨p, r, _, _, rfl, rfl, .inl (.inl (by rw [upd_ne npr]; exact upd_same)), .inl (.inl upd_same), by show 6 ≤ sizeLine; decide, fun t ht => ?_⟩
  have nt1 : r ≠ t := ne_of_none (upd_same) ht
  have nt2 : p ≠ t := ne_of_none (show upd (upd H p (.lst [.bl (y == "BadRow"), .bl (y == "BadNumber"), .bl (y == "BadRings")])) r _ p = some _ by rw [upd_ne npr]; exact upd_same) ht
  refine q t _ (fun b o z => ?_) ?_ upd_same
  · have b1 : b ≠ p := ne_of_none z hp
    have b2 : b ≠ r := ne_of_none (show upd H p (.lst [.bl (y == "BadRow"), .bl (y == "BadNumber"), .bl (y == "BadRings")]) b = some o by rw [upd_ne b1]; exact z) hr
    have b3 : b ≠ t := ne_of_none (show upd (upd H p (.lst [.bl (y == "BadRow"), .bl (y == "BadNumber"), .bl (y == "BadRings")])) r (.lst [.bl (y == "Unlike"), .bl (y == "BadText"), .bl true]) b = some o by rw [upd_ne b2, upd_ne b1]; exact z) ht
    rw [upd_ne b3, upd_ne b2, upd_ne b1]
    exact z
  · have := ht
    rw [upd_ne (Ne.symm nt1), upd_ne (Ne.symm nt2)] at this
    exact this
end
structure XKn (K : W.Frag) (mg : Str → Option Value) : Prop where
  cls : ∀ x ∈ XN, ∃ C, W.nsIn K mainGlobals x = some (some (.ref C)) ∧ mg x = some (.ref C) ∧ XCls K C
  sub : ∀ x ∈ XN, ∀ t ∈ XN, ∀ C J, W.nsIn K mainGlobals x = some (some (.ref C)) → W.nsIn K mainGlobals t = some (some (.ref J)) → W.kitOne K (.ref C) (.ref J) = some (x == t)
  val : ∀ x ∈ XN, ∀ C, W.nsIn K mainGlobals x = some (some (.ref C)) → W.kitOne K (.ref C) (.type "ValueError") = some true
  ord : ∃ O, mg "OrderError" = some (.ref O) ∧ ∀ x ∈ XN, ∀ C, W.nsIn K mainGlobals x = some (some (.ref C)) → W.exmOne K (.ref C) (.ref O) = some true
structure Kinds (K : W.Frag) (mg : Str → Option Value) (st : Stmt) (f : Addr) (fd : FuncData) : Prop where
  F : Fun K "_law_kinds" "_law_kinds" st f fd
  S : FnScope ["_law_error", "_law_found"] ["_law_error"] (defScope st)
  le : (defScope st).names.lookup ("_law_error" : Str) = some .local
  lf : (defScope st).names.lookup ("_law_found" : Str) = some .local
  gl : ∀ x ∈ ("isinstance" : Str) :: "ValueError" :: XN, (defScope st).names.lookup x = some .globalImplicit
  mg : mg "_law_kinds" = some (.ref f)
  b : Binds K fd ["_law_error"] []
  body : ∃ q1 q2 q3 q4 q5 q6 p1 p2 p3 p4 p5 p6 p7, defBody st = [.Assign [.Name "_law_found" p1] (.List [iB "BadRow" q1, iB "BadNumber" q2, iB "BadRings" q3] p2) p3, .Return (some (.BinOp (.Name "_law_found" p4) .Add (.List [iB "Unlike" q4, iB "BadText" q5, iB "ValueError" q6] p5) p6)) p7]
theorem xn_db (t : Str) (h : t ∈ XN) : (t == ("__debug__" : Str)) = false := by
  revert h
  revert t
  decide
section
variable {X : Cx} {a C : Addr} {y : Str} {st : Stmt} {f : Addr} {fd : FuncData} {k i : Nat} {p1 p2 p3 : Pos}
theorem pe_kinds (Z : XKn X.K X.mg) (W : Kinds X.K X.mg st f fd) (hr : Room0 (k + 1) X.A) (hmi : X.mg "isinstance" = none) (hmv : X.mg "ValueError" = none) (hg : Gl X "_law_kinds") (he : PE X (.Name "_law_error" p2) (tVar i)) (ym : y ∈ XN) (yn : PySem.W.nsIn X.K mainGlobals y = some (some (.ref C))) :
    PE X (.Call (.Name "_law_kinds" p1) [.Name "_law_error" p2] [] p3) (fun σ H Q => σ[i]? = some (some (.ref a)) ∧ H a = some (.ext (excAt a (.ref C))) ∧ ∀ p H', Same H H' → H p = none → H' p = some (.lst ((KD y).map V.bl)) → Q (.ref p) H') := by
  intro pins s σ H Q I h
  obtain ⟨s0, ha, q⟩ := h
  refine wpAny_Call_Name_kw (ld_glob I hg W.mg ?_ (by decide))
  refine PySem.W.callWith_K (h₀ := X.base) I.ok.mod.kin W.F.kp (thn ((pa_cons he pa_nil rfl : PA X [.Name "_law_error" p2] _) p3 pins s σ H (fun vs H1 => vs = [.ref a] ∧ H1 = H) I ⟨_, s0, rfl, rfl⟩) fun us s1 ⟨vs, H1, I1, r, e1, e2⟩ => ⟨I1.kIn, ?_⟩)
  subst e1 e2
  have hl : us.length = 1 := r.length.symm
  have hbn : BindsTo s1 fd ⟨us, []⟩ ((["_law_error"] : List Str).zip us) := by
    have := W.b s1 us I1.kIn (by rw [List.append_nil]; exact hl)
    rw [List.append_nil] at this
    exact this
  refine wpAny_call (codeAny_mono (fn_any (Q := Q) W.F W.S hr I1.env0 hbn r rfl fun cdv => ?_) fun rs s' hq => ?_)
  · obtain ⟨q1, q2, q3, q4, q5, q6, r1, r2, r3, r4, r5, r6, r7, hb⟩ := W.body
    obtain ⟨C', c1, c2, c3⟩ := Z.cls y ym
    rw [yn] at c1
    cases c1
    rw [hb]
    refine ⟨_, kinds_body (X := (cxN X.prog X.w X.K X.mg X.base ["_law_error", "_law_found"] "_law_kinds" (defScope st) f cdv X.A X.stack s1 _).nox) (a := a) (C := C) (y := y) (fun p => pe_var (i := 0) rfl (.inl W.le) rfl rfl) (fun p => pe_var (i := 1) rfl (.inl W.lf) rfl rfl) (show ((["_law_error", "_law_found"] : List Str)).Nodup by decide) rfl (.inl W.lf) rfl (W.gl "isinstance" (by decide)) hmi c3 (fun t tm => ?_) (fun p => pe_bltn (u := .type "ValueError") (W.gl "ValueError" (by decide)) hmv (by decide +kernel) rfl (by decide) (by decide)) (Z.val y ym C yn), ?_⟩
    · obtain ⟨J, j1, j2, j3⟩ := Z.cls t tm
      exact ⟨J, fun p => pe_glob (W.gl t (by simp [tm])) j2 rfl (xn_db t tm), Z.sub y ym t tm C J yn j1⟩
    · exact ⟨rfl, by show 1 < 2; decide, ha, q⟩
  · cases rs with
    | error e => exact hq.elim
    | ok fl =>
      cases fl with
      | ret u => exact I1.after hq
      | next => exact hq.elim
      | brk => exact hq.elim
      | cont => exact hq.elim
end
section
variable {X : Cx} {st : Stmt} {f : Addr} {fd : FuncData} {k : Nat} {cl : Nat → Option Addr}
theorem try_call {pins : List (Addr × Obj)} {σ : L2.St} {H : Hp} {s : Shared} {E : XK} {xe : Value → Shared → Prop} {Q : Value → Shared → Prop} {g : List D → Option Str} {fa : Addr} {fdx : FuncData} {ps : List Str} {j : Nat} {x : Str} {p pos : Pos} {e : Expr} {es : List Expr} {vs0 : List V} {tn : TE} {ta : TA}
    (F : FnOk X.prog X.w X.K X.mg X.base (CXE X.prog X.w) j fa fdx ps (spX X.K cl g)) (hr : Room j X.A) (kp : W.keepIn X.K (.ref fa) = true) (hb : Binds X.K fdx ps []) (I : Inv X pins σ H s)
    (hn : ∀ xe, PE (X.wish xe) (.Name x p) tn) (hn' : ∀ Q : VK, Q (.ref fa) H → tn σ H Q) (ha : ∀ xe, PA (X.wish xe) (e :: es) ta) (ha' : ∀ Q : List V → Hp → Prop, Q vs0 H → ta σ H Q) (h : spX X.K cl g vs0 H (fun _ _ => False) E)
    (hx : ∀ s1 e s', Inv X pins σ H s1 → XEnd X.prog X.w X.stack H s1 E e s' → xe e s')
    (he : starEach (e :: es) X.env = (false, eval e X.env) :: starEach es X.env := by rfl) (hpl : (backTo pos (starEach es X.env)).any (·.1) = false := by rfl) :
    wpAny (model X.prog X.w) X.A (eval (.Call (.Name x p) (e :: es) [] pos) X.env) Q xe s := by
  refine wpAny_Call_Name_kw (thn (hn xe pins s σ H (fun v H1 => v = .ref fa ∧ H1 = H) (I.wish xe) (hn' _ ⟨rfl, rfl⟩)) fun u s1 ⟨v, H1, I1, rv, e1, e2⟩ => ?_)
  subst e1 e2
  cases (show u = Value.ref fa from rv)
  refine W.callWith_K (h₀ := X.base) I.ok.mod.kin kp (thn (ha xe pos pins s1 σ H1 (fun vs H2 => vs = vs0 ∧ H2 = H1) I1 (ha' _ ⟨rfl, rfl⟩)) fun us s2 ⟨vs, H2, I2, r, e3, e4⟩ => ⟨I2.kIn, ?_⟩) he hpl
  subst e3 e4
  have I3 : Inv X pins σ H2 s2 := I2.unwish
  have hl : us.length = ps.length := by rw [← r.length]; exact F.len _ _ _ _ h
  have hbn : BindsTo s2 fdx ⟨us, []⟩ (ps.zip us) := by
    have := hb s2 us I3.kIn (by rw [List.append_nil]; exact hl)
    rw [List.append_nil] at this
    exact this
  refine wpAny_call (codeAny_mono (F.run X.A X.stack s2 H2 ⟨us, []⟩ us vs (fun _ _ => False) E hr I3.env0 hbn r h) fun rs s' hq => ?_)
  cases rs with
  | error er => exact hx s2 er s' I3 hq
  | ok fl =>
    cases fl with
    | ret u => obtain ⟨_, _, _, _, _, _, _, z⟩ := hq; exact z.elim
    | next => exact hq.elim
    | brk => exact hq.elim
    | cont => exact hq.elim
theorem told_try (ex : X.ex = []) (stk : X.stack = X.env :: X.outer) (fr : X.env.frame = some X.env.locals) (Z : XKn X.K X.mg) (W : Kinds X.K X.mg st f fd) (hr : Room (k + 1) X.A) (hmi : X.mg "isinstance" = none) (hmv : X.mg "ValueError" = none)
    (h0 : ∀ Y : Cx, Y.N = X.N → Y.env = X.env → ∀ p, PE Y (.Name "_law_ask" p) (tVar 0)) (h1 : ∀ Y : Cx, Y.N = X.N → Y.env = X.env → ∀ p, PE Y (.Name "_law_one" p) (tVar 1)) (h2 : ∀ Y : Cx, Y.N = X.N → Y.env = X.env → ∀ p, PE Y (.Name "_law_other" p) (tVar 2)) (h3 : ∀ Y : Cx, Y.N = X.N → Y.env = X.env → ∀ p, PE Y (.Name "_law_error" p) (tVar 3))
    (hN : X.N.Nodup) (hi : X.N[3]? = some ("_law_error" : Str)) (hloc : X.env.scope.names.lookup ("_law_error" : Str) = some .local) (hgO : Gl X "OrderError") (hgk : Gl X "_law_kinds") {a1 a2 a3 a4 a5 a6 a7 a8 a9 a10 a11 a12 : Pos} :
    PS X (.Try [.Expr (.Call (.Name "_law_ask" a1) [.Name "_law_one" a2, .Name "_law_other" a3] [] a4) a5] [.ExceptHandler (some (.Name "OrderError" a6)) (some "_law_error") [.Return (some (.Call (.Name "_law_kinds" a7) [.Name "_law_error" a8] [] a9)) a10] a11] [] [] a12)
      (fun D σ H => ∃ fa v1 v2 G l g y C j fdx ps, σ[0]? = some (some (.ref fa)) ∧ σ[1]? = some (some v1) ∧ σ[2]? = some (some v2) ∧ 3 < σ.length ∧ FnOk X.prog X.w X.K X.mg X.base (CXE X.prog X.w) j fa fdx ps (spX X.K cl g) ∧ Room j X.A ∧ PySem.W.keepIn X.K (.ref fa) = true ∧ Binds X.K fdx ps [] ∧ Same G H ∧ Dns X.K cl G [v1, v2] l ∧ g l = some y ∧ y ∈ XN ∧ PySem.W.nsIn X.K mainGlobals y = some (some (.ref C)) ∧
        ∀ p H', Same H H' → H p = none → H' p = some (.lst ((KD y).map V.bl)) → D.rt (.ref p) H') := by
  intro pins s σ H D I h
  obtain ⟨fa, v1, v2, G, l, g, y, C, j, fdx, ps, s0, s1, s2, sl, F, rj, kp, hb, sg, dn, hg, ym, yn, q⟩ := h
  obtain ⟨O, mO, xO⟩ := Z.ord
  refine wpAny_Try_except (wpAny_execs_cons (wpAny_Expr_any (try_call (E := fun cls _ H' => cls = .ref C ∧ Same H H') (vs0 := [v1, v2]) F rj kp hb I (fun xe => h0 (X.wish xe) rfl rfl a1) (fun Q z => ⟨_, s0, z⟩) (fun xe => pa_cons (h1 (X.wish xe) rfl rfl a2) (pa_cons (h2 (X.wish xe) rfl rfl a3) pa_nil)) (fun Q z => ⟨_, s1, _, s2, z⟩)
    ⟨G, l, y, C, sg, dn, hg, yn, fun H' z => ⟨rfl, z⟩⟩ fun t1 ev t2 I1 hx => ?_) I.quiet rfl))
  obtain ⟨e, T, cls, H', rfl, na, nT, he, hT, fl, os, bare, un, hok, hc, hs⟩ := hx
  subst hc
  have J : Inv X pins σ H' t2 := I1.call' os un hok bare (ch := []) (fun b z => absurd z (by simp))
  have hx := handle_ok (D := D) (cp := a6) (hp := a11) (xe := X.xe) (i := 3) (b₀ := .Return (some (.Call (.Name "_law_kinds" a7) [.Name "_law_error" a8] [] a9)) a10) (suite := []) J ex stk fr fl (I1.s0none ex na) (I1.s0none ex nT) he hT (fun p hp => ⟨fun z => (by have w := (I1.pin p hp).1; rw [z, na] at w; cases w), fun z => (by have w := (I1.pin p hp).1; rw [z, nT] at w; cases w)⟩)
    hN hi hloc hgO mO (by decide) (xO y ym C yn) (pss_one (ps_ret (pe_kinds (X := Xh X e) (a := e) (C := C) (y := y) Z W hr.r0 hmi hmv hgk (h3 (Xh X e) rfl rfl a8) ym yn)))
    ⟨by rw [List.getElem?_set_self sl], upd_same, fun p H2 s2 hp hl => ?_⟩
  · exact hx
  · have np : p ≠ e := fun z => by rw [z, upd_same] at hp; cases hp
    refine q p H2 (fun b o z => s2 b o ?_) ?_ hl
    · rw [upd_ne (fun w => by have := hs b o z; rw [w, he] at this; cases this)]
      exact hs b o z
    · cases z : H p with
      | none => rfl
      | some o =>
        have := hs p o z
        rw [upd_ne np, this] at hp
        cases hp
end
noncomputable def gTold (Ξ : XT) (ξ : List (Str × Nat)) : List D → Option T
  | [.fn x, a, b] => (ξ.lookup x).bind fun j => (Ξ j).bind fun g => (g [a, b]).bind fun y => if XN.contains y then some (.ow (((KD y).map D.bl).map T.sh)) else none
  | _ => none
theorem dns_bl {K : W.Frag} {cl : Nat → Option Addr} {G : Hp} : ∀ l : List Bool, Dns K cl G (l.map V.bl) (l.map D.bl)
  | [] => .nil
  | b :: l => .cons (.bl b) (dns_bl l)
structure ToldS (K : W.Frag) (st : Stmt) (f : Addr) (fd : FuncData) : Prop where
  F : Fun K "_law_told" "_law_told" st f fd
  S : FnScope ["_law_ask", "_law_one", "_law_other", "_law_error"] ["_law_ask", "_law_one", "_law_other"] (defScope st)
  loc : ∀ x ∈ (["_law_ask", "_law_one", "_law_other", "_law_error"] : List Str), (defScope st).names.lookup x = some .local
  gl : ∀ x ∈ (["OrderError", "_law_kinds"] : List Str), (defScope st).names.lookup x = some .globalImplicit
  body : ∃ a1 a2 a3 a4 a5 a6 a7 a8 a9 a10 a11 a12 b1 b2, defBody st = [.Try [.Expr (.Call (.Name "_law_ask" a1) [.Name "_law_one" a2, .Name "_law_other" a3] [] a4) a5] [.ExceptHandler (some (.Name "OrderError" a6)) (some "_law_error") [.Return (some (.Call (.Name "_law_kinds" a7) [.Name "_law_error" a8] [] a9)) a10] a11] [] [] a12, .Return (some (.List [] b1)) b2]
section
variable {P : Program} {w : World} {K : W.Frag} {mg : Str → Option Value} {base : Heap} {cl : Nat → Option Addr} {Ξ : XT} {ξ : List (Str × Nat)} {k : Nat} {st st' : Stmt} {f f' : Addr} {fd fd' : FuncData}
theorem def_told (M : LwX P w K mg base cl Ξ ξ (k + 1)) (Z : XKn K mg) (W : Kinds K mg st' f' fd') (V : ToldS K st f fd) (hns : ∀ x a, PySem.W.nsIn K mainGlobals x = some (some (.ref a)) → mg x = some (.ref a)) (hmi : mg "isinstance" = none) (hmv : mg "ValueError" = none) :
    FnOk P w K mg base CX0 (k + 2) f fd ["_law_ask", "_law_one", "_law_other"] (spP K cl (gTold Ξ ξ)) := by
  refine V.F.ok V.S (fun vs H Q E h => ?_) (fun cdv A outer s H vs Q E hr h => ?_)
  · obtain ⟨G, ds, t, sg, dn, hg, q⟩ := h
    unfold gTold at hg
    split at hg
    · exact dn.length
    · cases hg
  · obtain ⟨G, ds, t, sg, dn, hg, q⟩ := h
    unfold gTold at hg
    split at hg
    · rename_i x a b
      obtain ⟨j, hj, hg⟩ := bsi hg
      obtain ⟨g, hΞ, hg⟩ := bsi hg
      obtain ⟨y, hy, hg⟩ := bsi hg
      split at hg
      · rename_i ym
        have ym : y ∈ XN := by simpa using ym
        cases hg
        obtain ⟨g', hg', fa, fdx, ps, F, mx, kp, hb⟩ := M.fx x j hj
        rw [hΞ] at hg'
        cases hg'
        obtain ⟨C, c1, c2, c3⟩ := Z.cls y ym
        cases dn with
        | @cons va _ _ _ d1 dr =>
        cases dr with
        | @cons v1 _ _ _ d2 dr =>
        cases dr with
        | @cons v2 _ _ _ d3 dr =>
        cases dr
        cases d1 with
        | @fn a0 _ n0 =>
        have ea : a0 = fa := Value.ref.inj (Option.some.inj ((hns x a0 n0).symm.trans mx))
        subst ea
        obtain ⟨a1, a2, a3, a4, a5, a6, a7, a8, a9, a10, a11, a12, b1, b2, hbd⟩ := V.body
        rw [hbd]
        have nm : ∀ (i : Nat) (x : Str), (["_law_ask", "_law_one", "_law_other", "_law_error"] : List Str)[i]? = some x → (x == ("__debug__" : Str)) = false → (x == ("__classdict__" : Str)) = false → ∀ Y : Cx, Y.N = (["_law_ask", "_law_one", "_law_other", "_law_error"] : List Str) → Y.env.scope = defScope st → ∀ p, PE Y (.Name x p) (tVar i) :=
          fun i x hx d1 d2 Y hN hE p => pe_var (by rw [hN]; exact hx) (by rw [hE]; exact .inl (V.loc x (List.mem_of_getElem? hx))) d1 d2
        refine ⟨_, pss_cons (told_try (X := (cxOf CX0 P w K mg base ["_law_ask", "_law_one", "_law_other", "_law_error"] "_law_told" (defScope st) f cdv A outer s H E).nox) (cl := cl) rfl rfl rfl Z W hr hmi hmv
          (fun Y e1 e2 p => nm 0 _ rfl rfl rfl Y e1 (by rw [e2]; rfl) p) (fun Y e1 e2 p => nm 1 _ rfl rfl rfl Y e1 (by rw [e2]; rfl) p) (fun Y e1 e2 p => nm 2 _ rfl rfl rfl Y e1 (by rw [e2]; rfl) p) (fun Y e1 e2 p => nm 3 _ rfl rfl rfl Y e1 (by rw [e2]; rfl) p)
          (show (["_law_ask", "_law_one", "_law_other", "_law_error"] : List Str).Nodup by decide) rfl (V.loc "_law_error" (by decide)) (V.gl "OrderError" (by decide)) (V.gl "_law_kinds" (by decide))) (pss_one (ps_ret (pe_lst pa_nil))), ?_⟩
        refine ⟨a0, v1, v2, G, [a, b], g, y, C, k + 1, fdx, ps, rfl, rfl, rfl, by show 3 < 4; decide, F, hr, kp, hb, sg, .cons d2 (.cons d3 .nil), hy, ym, c1, fun p H' s' hp hl => ?_⟩
        refine q (.ref p) H' G [p] ⟨s', .refl _, sg.trans s', fun b o h1 h2 => by rw [h1] at h2; cases h2⟩ (.ow hl (sg.free hp) (OTs.shs (dns_bl _))) (by simp) (fun z hz => ?_)
        rw [show z = p by simpa using hz]
        exact hp
      · cases hg
    · cases hg
end
end MI
end
noncomputable section
namespace Bo
def IsRow (r : List Nat) : Prop := r.Perm (List.range r.length)
noncomputable def ap (r : List Nat) (i : Nat) : Nat := r.getD i 0
theorem perm_of_sub {l m : List Nat} (nd : l.Nodup) (sub : ∀ x ∈ l, x ∈ m) (len : m.length ≤ l.length) : l.Perm m := by
  induction l generalizing m with
  | nil =>
    have e : m = [] := List.length_eq_zero_iff.mp (by simpa using len)
    rw [e]
  | cons a l ih =>
    obtain ⟨na, nd'⟩ := List.nodup_cons.mp nd
    have ha : a ∈ m := sub a (by simp)
    have p := List.perm_cons_erase ha
    refine (List.Perm.cons a (ih nd' (fun x hx => ?_) ?_)).trans p.symm
    · have hne : x ≠ a := fun e => na (e ▸ hx)
      exact (List.mem_erase_of_ne hne).mpr (sub x (by simp [hx]))
    · rw [List.length_erase_of_mem ha]; simp at len; omega
theorem isRow_of {r : List Nat} (nd : r.Nodup) (lt : ∀ x ∈ r, x < r.length) : IsRow r :=
  perm_of_sub nd (fun x hx => List.mem_range.mpr (lt x hx)) (by simp)
theorem IsRow.nodup {r : List Nat} (h : IsRow r) : r.Nodup := h.nodup_iff.mpr List.nodup_range
theorem IsRow.mem {r : List Nat} (h : IsRow r) {x : Nat} : x ∈ r ↔ x < r.length := by rw [h.mem_iff]; simp
theorem ap_eq {r : List Nat} {i : Nat} (h : i < r.length) : ap r i = r[i] := by simp [ap, h]
theorem ap_get? {r : List Nat} {i : Nat} (h : i < r.length) : r[i]? = some (ap r i) := by rw [ap_eq h]; simp [h]
theorem IsRow.lt {r : List Nat} (h : IsRow r) {i : Nat} (hi : i < r.length) : ap r i < r.length := by
  rw [ap_eq hi]; exact h.mem.mp (List.getElem_mem hi)
theorem IsRow.inj {r : List Nat} (h : IsRow r) {i j : Nat} (hi : i < r.length) (hj : j < r.length) (e : ap r i = ap r j) : i = j := by
  rw [ap_eq hi, ap_eq hj] at e
  exact (List.getElem_inj h.nodup).mp e
theorem isRow_range (n : Nat) : IsRow (List.range n) := by unfold IsRow; rw [List.length_range]
theorem ap_range {n i : Nat} (h : i < n) : ap (List.range n) i = i := by rw [ap_eq (by simpa using h)]; simp
noncomputable def bk (r : List Nat) : List Nat := (List.range r.length).map (fun x => r.idxOf x)
noncomputable def pw (r : List Nat) : Nat → Nat → Nat
  | 0, x => x
  | k + 1, x => ap r (pw r k x)
theorem getD_set {l : List Bool} {i x : Nat} {b : Bool} (hi : i < l.length) : (l.set i b).getD x false = if x = i then b else l.getD x false := by
  by_cases e : x = i
  · subst e; simp [hi]
  · rw [if_neg e]
    simp [Ne.symm e]
structure Made (r : List Nat) (S : List (List Nat)) (k : Nat) (t : List Nat) : Prop where
  len : t.length = r.length
  new : ∀ x ∈ (S.take k).flatten, ap t x = ap r x
  old : ∀ x, x < r.length → x ∉ (S.take k).flatten → ap t x = x
end Bo
end
noncomputable section
namespace MI
open PySem L2
noncomputable def b_is_whole : S := (.seq (.ret (.and (.isi (.var 0) 0) (.not (.isi (.var 0) 1))))
  .nop)
noncomputable def b_first_met : S := (.seq (.ife (.or (.not (.call 0 (.cons (.var 0) .nil))) (.or (.not (.ch .LtE .Lt (.int 0) (.var 0) (.un .len (.var 1)))) (.idx (.var 1) (.var 0))))
  (.seq (.ret (.bl false))
  .nop) .nop)
  (.seq (.set 1 (.var 0) (.bl true))
  (.seq (.ret (.bl true))
  .nop)))
noncomputable def b_is_row : S := (.seq (.ife (.not (.isi (.var 0) 2))
  (.seq (.ret (.bl false))
  .nop) .nop)
  (.seq (.asg 1 (.bin .Mult (.lst (.cons (.bl false) .nil)) (.un .len (.var 0))))
  (.seq (.for1 2 (.var 0)
  (.seq (.ifio true 100 1 (.cons (.var 2) (.cons (.var 1) .nil))
  (.seq (.ret (.bl false))
  .nop) .nop)
  .nop))
  (.seq (.ret (.bl true))
  .nop))))
noncomputable def b_need_row : S := (.seq (.ife (.not (.call 1 (.cons (.var 0) .nil)))
  (.seq .raise
  .nop) .nop)
  .nop)
noncomputable def b_are_parts : S := (.seq (.ife (.not (.isi (.var 1) 2))
  (.seq (.ret (.bl false))
  .nop) .nop)
  (.seq (.asg 2 (.bin .Mult (.lst (.cons (.bl false) .nil)) (.var 0)))
  (.seq (.for1 3 (.var 1)
  (.seq (.ife (.or (.not (.isi (.var 3) 2)) (.cmp .Eq (.un .len (.var 3)) (.int 0)))
  (.seq (.ret (.bl false))
  .nop) .nop)
  (.seq (.for1 4 (.var 3)
  (.seq (.ifio true 100 2 (.cons (.var 4) (.cons (.var 2) .nil))
  (.seq (.ret (.bl false))
  .nop) .nop)
  .nop))
  .nop)))
  (.seq (.ret (.bl true))
  .nop))))
noncomputable def b_back_of : S := (.seq (.asg 1 (.bin .Mult (.lst (.cons (.int 0) .nil)) (.un .len (.var 0))))
  (.seq (.for2 2 3 (.enm (.var 0))
  (.seq (.set 1 (.var 3) (.var 2))
  .nop))
  (.seq (.ret (.var 1))
  .nop)))
noncomputable def b_back : S := (.seq (.drop (.call 2 (.cons (.var 0) .nil)))
  (.seq (.ret (.call 8 (.cons (.var 0) .nil)))
  .nop))
noncomputable def b_ring_from : S := (.seq (.asg 3 (.lst .nil))
  (.seq (.asg 4 (.var 1))
  (.seq (.wh (.not (.idx (.var 2) (.var 4)))
  (.seq (.set 2 (.var 4) (.bl true))
  (.seq (.app 3 (.var 4))
  (.seq (.asg 4 (.idx (.var 0) (.var 4)))
  .nop))))
  (.seq (.ret (.var 3))
  .nop))))
noncomputable def b_rings_of : S := (.seq (.asg 1 (.bin .Mult (.lst (.cons (.bl false) .nil)) (.un .len (.var 0))))
  (.seq (.asg 2 (.lst .nil))
  (.seq (.for1 3 (.rng (.un .len (.var 0)))
  (.seq (.ife (.not (.idx (.var 1) (.var 3)))
  (.seq (.appio 2 101 1 (.cons (.var 0) (.cons (.var 3) (.cons (.var 1) .nil))))
  .nop) .nop)
  .nop))
  (.seq (.ret (.var 2))
  .nop))))
noncomputable def b_rings : S := (.seq (.drop (.call 2 (.cons (.var 0) .nil)))
  (.seq (.ret (.call 13 (.cons (.var 0) .nil)))
  .nop))
noncomputable def b_set_ring : S := (.seq (.for2 3 4 (.zp (.var 1) (.bin .Add (.cut (.var 1) (.var 2) .nil) (.cut (.var 1) .nil (.var 2))))
  (.seq (.set 0 (.var 3) (.var 4))
  .nop))
  .nop)
noncomputable def b_row_of : S := (.seq (.asg 2 (.un .lrng (.var 0)))
  (.seq (.for1 3 (.var 1)
  (.seq (.dropio 102 2 (.cons (.var 2) (.cons (.var 3) (.cons (.int 1) .nil))))
  .nop))
  (.seq (.ret (.var 2))
  .nop)))
noncomputable def b_of_rings : S := (.seq (.ife (.or (.not (.call 0 (.cons (.var 0) .nil))) (.not (.ch .LtE .LtE (.int 0) (.var 0) (.int 1000000))))
  (.seq .raise
  .nop) .nop)
  (.seq (.ife (.not (.call 3 (.cons (.var 0) (.cons (.var 1) .nil))))
  (.seq .raise
  .nop) .nop)
  (.seq (.ret (.call 15 (.cons (.var 0) (.cons (.var 1) .nil))))
  .nop)))
noncomputable def b_greatest_shared : S := (.seq (.wh (.cmp .Gt (.var 1) (.int 0))
  (.seq (.asg 2 (.bin .Mod (.var 0) (.var 1)))
  (.seq (.asg 0 (.var 1))
  (.seq (.asg 1 (.var 2))
  .nop))))
  (.seq (.ret (.var 0))
  .nop))
noncomputable def b_turns_of : S := (.seq (.asg 1 (.int 1))
  (.seq (.for1 2 (.un .sset (.comp (.un .len (.var 0)) [] (.var 0) .nil))
  (.seq (.asg 1 (.bin .Mult (.bin .FloorDiv (.var 1) (.call 17 (.cons (.var 1) (.cons (.var 2) .nil)))) (.var 2)))
  .nop))
  (.seq (.ret (.var 1))
  .nop)))
noncomputable def b_turns : S := (.seq (.drop (.call 2 (.cons (.var 0) .nil)))
  (.seq (.ret (.call 18 (.cons (.call 13 (.cons (.var 0) .nil)) .nil)))
  .nop))
noncomputable def b__law_cell_at : S := (.seq (.ife (.cmp .Lt (.var 1) (.un .len (.var 0)))
  (.seq (.ret (.idx (.var 0) (.var 1)))
  .nop) .nop)
  (.seq (.ret (.int 0))
  .nop))
noncomputable def b__law_draw : S := (.seq (.asg 3 (.tup (.cons (.int 1000003) (.cons (.int 1000033) (.cons (.int 1000037) (.cons (.int 1000039) (.cons (.int 1000081) (.cons (.int 1000099) (.cons (.int 1000117) (.cons (.int 1000121) (.cons (.int 1000133) (.cons (.int 1000151) (.cons (.int 1000159) (.cons (.int 1000171) (.cons (.int 1000183) (.cons (.int 1000187) (.cons (.int 1000193) (.cons (.int 1000199) .nil))))))))))))))))))
  (.seq (.ret (.bin .Mod (.bin .Mod (.bin .Add (.bin .Mult (.var 0) (.int 48271)) (.bin .Mult (.var 1) (.int 69621))) (.idx (.var 3) (.bin .Mod (.var 1) (.int 16)))) (.var 2)))
  .nop))
noncomputable def b__law_row : S := (.seq (.asg2 1 2 (.call 51 (.cons (.call 50 (.cons (.var 0) (.cons (.int 0) .nil))) (.cons (.int 6) (.cons (.int 4) .nil)))) (.lst .nil))
  (.seq (.for1 3 (.rng (.un .len (.var 0)))
  (.seq (.asg 4 (.call 51 (.cons (.idx (.var 0) (.var 3)) (.cons (.bin .Add (.bin .Mod (.var 3) (.int 5)) (.int 1)) (.cons (.bin .Add (.var 3) (.int 1)) .nil)))))
  (.seq (.ife (.cmp .Eq (.var 1) (.int 1))
  (.seq (.asg 4 (.mn (.var 4) (.call 51 (.cons (.idx (.var 0) (.var 3)) (.cons (.bin .Add (.bin .Mod (.var 3) (.int 7)) (.int 1)) (.cons (.int 4) .nil))))))
  .nop) .nop)
  (.seq (.ife (.cmp .Eq (.var 1) (.int 2))
  (.seq (.asg 4 (.mx (.var 4) (.bin .Sub (.var 3) (.call 51 (.cons (.idx (.var 0) (.var 3)) (.cons (.bin .Add (.bin .Mod (.var 3) (.int 7)) (.int 1)) (.cons (.int 4) .nil)))))))
  .nop) .nop)
  (.seq (.ife (.and (.cmp .Eq (.var 1) (.int 3)) (.cmp .Gt (.bin .Mod (.var 4) (.int 3)) (.int 0)))
  (.seq (.asg 4 (.int 0))
  .nop) .nop)
  (.seq (.ins 2 (.bin .Sub (.var 3) (.var 4)) (.var 3))
  .nop))))))
  (.seq (.ret (.var 2))
  .nop)))
noncomputable def b__law_all : S := (.seq (.for1 4 (.var 1)
  (.seq (.ife (.not (.un .all (.comp (.cmp .Eq (.call 76 (.cons (.var 1) (.cons (.var 2) (.cons (.var 0) .nil)))) (.var 3)) [0, 4, 3] (.var 2) .nil)))
  (.seq (.ret (.bl false))
  .nop) .nop)
  .nop))
  (.seq (.ret (.bl true))
  .nop))
noncomputable def b_law : S := (.seq (.asg 1 (.bin .Mod (.call 50 (.cons (.var 0) (.cons (.int 0) .nil))) (.bin .Pow (.int 10) (.int 6))))
  (.seq (.asg 2 (.lst .nil))
  (.seq (.for1 3 (.rng (.int 4))
  (.seq (.app 2 (.lst (.cons (.cmp .Eq (.var 3) (.int 0)) (.cons (.cmp .Eq (.var 3) (.int 1)) (.cons (.cmp .Eq (.var 3) (.int 2)) (.cons (.cmp .Eq (.var 3) (.int 3)) (.cons (.bl false) (.cons (.bl true) .nil))))))))
  .nop))
  (.seq (.asg 4 (.call 52 (.cons (.var 0) .nil)))
  (.seq (.asg2 5 6 (.un .len (.var 4)) (.un .list (.var 4)))
  (.seq (.asg 7 (.lst (.cons .non (.cons (.tup .nil) (.cons (.tup (.cons (.int 0) .nil)) (.cons (.str "0") (.cons .dic0 (.cons (.int 0) (.cons (.lst (.cons .non .nil)) (.cons (.lst (.cons (.str "0") .nil)) (.cons (.lst (.cons (.bl true) .nil)) (.cons (.lst (.cons (.int 1) .nil)) (.cons (.lst (.cons (.un .neg (.int 1)) .nil)) (.cons (.lst (.cons (.int 0) (.cons (.int 0) .nil))) (.cons (.lst (.cons (.int 1) (.cons (.int 1) .nil))) (.cons (.lst (.cons (.int 0) (.cons (.int 2) .nil))) (.cons (.lst (.cons (.int 0) (.cons (.bin .Add (.int 2) (.var 1)) .nil))) (.cons (.lst (.cons (.lst (.cons (.int 0) .nil)) .nil)) .nil))))))))))))))))))
  (.seq (.for1 8 (.rngS (.var 5) (.bin .Add (.int 1) (.bin .FloorDiv (.var 5) (.int 6))))
  (.seq (.app 7 (.bin .Add (.bin .Add (.cut (.var 4) .nil (.var 8)) (.lst (.cons (.idx (.tup (.cons .non (.cons (.str "1") (.cons (.var 5) (.cons (.bin .Add (.var 5) (.var 1)) (.cons (.un .neg (.int 1)) (.cons (.bin .Add (.var 5) (.int 1)) .nil))))))) (.bin .Mod (.var 8) (.int 6))) .nil))) (.cut (.var 4) (.bin .Add (.var 8) (.int 1)) .nil)))
  .nop))
  (.seq (.ife (.cmp .Gt (.var 5) (.int 0))
  (.seq (.app 7 (.bin .Add (.var 4) (.lst (.cons (.idx (.var 4) (.bin .FloorDiv (.var 5) (.int 2))) .nil))))
  .nop) .nop)
  (.seq (.ife (.not (.call 77 (.cons (.gfn "_law_with_row") (.cons (.un .lrng (.int 12)) (.cons (.var 7) (.cons (.idx (.var 2) (.int 0)) .nil))))))
  (.seq (.ret (.bl false))
  .nop) .nop)
  (.seq (.ife (.not (.call 77 (.cons (.gfn "_law_with_number") (.cons (.lst (.cons (.int 0) .nil)) (.cons (.lst (.cons .non (.cons (.str "1") (.cons (.bl true) (.cons (.lst (.cons (.int 1) .nil)) (.cons (.tup (.cons (.int 1) .nil)) .nil)))))) (.cons (.idx (.var 2) (.int 1)) .nil))))))
  (.seq (.ret (.bl false))
  .nop) .nop)
  (.seq (.asg 9 (.lst (.cons .non (.cons (.str "1") (.cons (.un .neg (.int 1)) (.cons (.bin .Sub (.un .neg (.int 1)) (.var 1)) (.cons (.int 1000001) (.cons (.bin .Add (.int 1000001) (.var 1)) (.cons (.bl true) (.cons (.lst (.cons (.int 1) .nil)) .nil))))))))))
  (.seq (.ife (.not (.call 77 (.cons (.gfn "_law_with_number") (.cons (.lst (.cons (.int 1) .nil)) (.cons (.var 9) (.cons (.idx (.var 2) (.int 1)) .nil))))))
  (.seq (.ret (.bl false))
  .nop) .nop)
  (.seq (.asg 10 (.lst (.cons .non (.cons (.tup .nil) (.cons (.str "0") (.cons .dic0 (.cons (.int 5) (.cons (.lst (.cons .non .nil)) (.cons (.lst (.cons (.tup .nil) .nil)) (.cons (.lst (.cons (.lst .nil) .nil)) (.cons (.lst (.cons (.lst (.cons (.int 0) .nil)) (.cons (.lst .nil) .nil))) (.cons (.lst (.cons (.lst (.cons (.int 3) .nil)) .nil)) (.cons (.lst (.cons (.lst (.cons (.bin .Add (.int 3) (.var 1)) .nil)) .nil)) (.cons (.lst (.cons (.lst (.cons (.un .neg (.int 1)) .nil)) .nil)) (.cons (.lst (.cons (.lst (.cons (.int 0) (.cons (.int 0) .nil))) .nil)) (.cons (.lst (.cons (.lst (.cons (.int 0) .nil)) (.cons (.lst (.cons (.int 0) .nil)) .nil))) .nil))))))))))))))))
  (.seq (.asg 10 (.bin .Add (.var 10) (.lst (.cons (.lst (.cons (.lst (.cons (.bl true) (.cons (.int 0) .nil))) .nil)) (.cons (.lst (.cons (.lst (.cons (.str "0") .nil)) .nil)) (.cons (.lst (.cons (.int 0) (.cons (.int 1) .nil))) (.cons (.lst (.cons (.lst (.cons (.int 0) (.cons (.int 1) .nil))) (.cons (.lst (.cons (.int 2) (.cons (.int 1) .nil))) .nil))) (.cons (.lst (.cons (.tup (.cons (.int 0) (.cons (.int 1) .nil))) .nil)) .nil))))))))
  (.seq (.ife (.not (.call 77 (.cons (.gfn "_law_with_rings") (.cons (.lst (.cons (.int 0) .nil)) (.cons (.var 10) (.cons (.idx (.var 2) (.int 2)) .nil))))))
  (.seq (.ret (.bl false))
  .nop) .nop)
  (.seq (.ife (.or (.cmp .NotEq (.call 76 (.cons (.gfn "_law_with_two") (.cons (.var 4) (.cons (.bin .Add (.var 4) (.lst (.cons (.var 5) .nil))) .nil)))) (.idx (.var 2) (.int 3))) (.cmp .NotEq (.call 76 (.cons (.gfn "_law_with_two") (.cons (.bin .Add (.var 4) (.lst (.cons (.var 5) .nil))) (.cons (.var 4) .nil)))) (.idx (.var 2) (.int 3))))
  (.seq (.ret (.bl false))
  .nop) .nop)
  (.seq (.ret (.and (.cmp .Eq (.var 4) (.var 6)) (.and (.cmp .Eq (.call 16 (.cons (.int 0) (.cons (.lst .nil) .nil))) (.lst .nil)) (.and (.cmp .Eq (.call 9 (.cons (.lst .nil) .nil)) (.lst .nil)) (.and (.cmp .Eq (.call 19 (.cons (.lst .nil) .nil)) (.int 1)) (.cmp .Eq (.call 14 (.cons (.lst .nil) .nil)) (.lst .nil)))))))
  .nop)))))))))))))))))
noncomputable def r_need_row : R := (.ifr (.not (.call 1 (.cons (.var 0) .nil))) (.rs "BadRow")
  .non)
noncomputable def r_behind : R := (.dr 0 2 (.cons (.var 0) .nil)
  (.dr 0 2 (.cons (.var 1) .nil)
  (.ifr (.cmp .NotEq (.un .len (.var 0)) (.un .len (.var 1))) (.rs "Unlike")
  .non)))
noncomputable def r_back : R := (.dr 0 2 (.cons (.var 0) .nil)
  .non)
noncomputable def r_wrong : R := (.dr 0 2 (.cons (.var 0) .nil)
  .non)
noncomputable def r_rings : R := (.dr 0 2 (.cons (.var 0) .nil)
  .non)
noncomputable def r_times : R := (.dr 0 2 (.cons (.var 0) .nil)
  (.ifr (.not (.call 0 (.cons (.var 1) .nil))) (.rs "BadNumber")
  .non))
noncomputable def r_turns : R := (.dr 0 2 (.cons (.var 0) .nil)
  .non)
noncomputable def r_written : R := (.dr 0 2 (.cons (.var 0) .nil)
  (.ifr (.cmp .Eq (.un .len (.var 0)) (.int 0)) .non
  .non))
noncomputable def r_exchanged : R := (.dr 0 2 (.cons (.var 0) .nil)
  .non)
noncomputable def r_fronted : R := (.dr 0 2 (.cons (.var 0) .nil)
  .non)
noncomputable def r_ended : R := (.dr 0 2 (.cons (.var 0) .nil)
  .non)
noncomputable def r_put : R := (.dr 0 2 (.cons (.var 0) .nil)
  .non)
noncomputable def r_of_rings : R := (.ifr (.or (.not (.call 0 (.cons (.var 0) .nil))) (.not (.ch .LtE .LtE (.int 0) (.var 0) (.int 1000000)))) (.rs "BadNumber")
  (.ifr (.not (.call 3 (.cons (.var 0) (.cons (.var 1) .nil)))) (.rs "BadRings")
  .non))
noncomputable def r__law_with_row : R := (.ifr (.cmp .Lt (.var 0) (.int 2)) (.xe (.ite (.cmp .Eq (.var 0) (.int 0)) (.call 1 (.cons (.var 1) (.cons (.lst (.cons (.int 0) .nil)) .nil))) (.call 1 (.cons (.lst (.cons (.int 0) .nil)) (.cons (.var 1) .nil)))))
  (.ifr (.cmp .Lt (.var 0) (.int 4)) (.xe (.ite (.cmp .Eq (.var 0) (.int 2)) (.call 2 (.cons (.var 1) .nil)) (.call 3 (.cons (.var 1) .nil))))
  (.ifr (.cmp .Lt (.var 0) (.int 8)) (.xe (.ite (.cmp .Eq (.var 0) (.int 4)) (.call 4 (.cons (.var 1) .nil)) (.ite (.cmp .Eq (.var 0) (.int 5)) (.call 5 (.cons (.var 1) (.cons .non .nil))) (.ite (.cmp .Eq (.var 0) (.int 6)) (.call 6 (.cons (.var 1) .nil)) (.call 7 (.cons (.var 1) .nil))))))
  (.xe (.ite (.cmp .Eq (.var 0) (.int 8)) (.call 8 (.cons (.var 1) .nil)) (.ite (.cmp .Eq (.var 0) (.int 9)) (.call 9 (.cons (.var 1) .nil)) (.ite (.cmp .Eq (.var 0) (.int 10)) (.call 10 (.cons (.var 1) .nil)) (.call 11 (.cons (.var 1) .nil)))))))))
noncomputable def r__law_with_number : R := (.xe (.ite (.cmp .Eq (.var 0) (.int 0)) (.call 5 (.cons (.lst (.cons (.int 1) (.cons (.int 0) .nil))) (.cons (.var 1) .nil))) (.call 12 (.cons (.var 1) (.cons .non .nil)))))
noncomputable def r__law_with_rings : R := (.xe (.call 12 (.cons (.int 3) (.cons (.var 1) .nil))))
noncomputable def r__law_with_two : R := (.xe (.call 1 (.cons (.var 0) (.cons (.var 1) .nil))))
noncomputable def extX (Ξ : XT) (j : Nat) (g : List D → Option Str) : XT := fun i => if i = j then some g else Ξ i
noncomputable def Γ0 : Tab := fun _ => none
noncomputable def Δ0 : IOT := fun _ => none
noncomputable def Ξ0 : XT := fun _ => none
noncomputable def g_is_whole : List D → Option T := gP Γ0 Δ0 100 ["value"] 1 b_is_whole
noncomputable def Γ1 : Tab := extT Γ0 0 g_is_whole
noncomputable def g_first_met : List D → Option (T × List D) := gQ Γ1 Δ0 100 ["thing", "met"] 1 2 b_first_met
noncomputable def Δ1 : IOT := extI Δ0 100 1 g_first_met
noncomputable def g_is_row : List D → Option T := gP Γ1 Δ1 100 ["value", "met", "thing"] 1 b_is_row
noncomputable def Γ2 : Tab := extT Γ1 1 g_is_row
noncomputable def g_need_row : List D → Option T := gP Γ2 Δ1 100 ["value"] 1 b_need_row
noncomputable def Γ3 : Tab := extT Γ2 2 g_need_row
noncomputable def g_are_parts : List D → Option T := gP Γ3 Δ1 100 ["many", "told", "met", "part", "thing"] 2 b_are_parts
noncomputable def Γ4 : Tab := extT Γ3 3 g_are_parts
noncomputable def x_need_row : List D → Option Str := gX Γ4 Ξ0 1 r_need_row
noncomputable def Ξ1 : XT := extX Ξ0 0 x_need_row
noncomputable abbrev ξ0 : List (Str × Nat) := []
noncomputable abbrev ξ1 : List (Str × Nat) := ("need_row", 0) :: ξ0
noncomputable def g_back_of : List D → Option T := gP Γ4 Δ1 100 ["row", "told", "place", "thing"] 1 b_back_of
noncomputable def Γ5 : Tab := extT Γ4 8 g_back_of
noncomputable def g_back : List D → Option T := gP Γ5 Δ1 100 ["row"] 1 b_back
noncomputable def Γ6 : Tab := extT Γ5 9 g_back
noncomputable def g_ring_from : List D → Option (T × List D) := gQ Γ6 Δ1 100 ["row", "first", "met", "ring", "thing"] 2 3 b_ring_from
noncomputable def Δ2 : IOT := extI Δ1 101 2 g_ring_from
noncomputable def g_rings_of : List D → Option T := gP Γ6 Δ2 100 ["row", "met", "found", "thing"] 1 b_rings_of
noncomputable def Γ7 : Tab := extT Γ6 13 g_rings_of
noncomputable def g_rings : List D → Option T := gP Γ7 Δ2 100 ["row"] 1 b_rings
noncomputable def Γ8 : Tab := extT Γ7 14 g_rings
noncomputable def g_set_ring : List D → Option (T × List D) := gQ Γ8 Δ2 100 ["row", "ring", "steps", "thing", "later"] 0 3 b_set_ring
noncomputable def Δ3 : IOT := extI Δ2 102 0 g_set_ring
noncomputable def g_row_of : List D → Option T := gP Γ8 Δ3 100 ["many", "told", "row", "ring"] 2 b_row_of
noncomputable def Γ9 : Tab := extT Γ8 15 g_row_of
noncomputable def g_of_rings : List D → Option T := gP Γ9 Δ3 100 ["many", "told"] 2 b_of_rings
noncomputable def Γ10 : Tab := extT Γ9 16 g_of_rings
noncomputable def g_greatest_shared : List D → Option T := gP Γ10 Δ3 100 ["one", "other", "rest"] 2 b_greatest_shared
noncomputable def Γ11 : Tab := extT Γ10 17 g_greatest_shared
noncomputable def g_turns_of : List D → Option T := gP Γ11 Δ3 100 ["found", "number", "length"] 1 b_turns_of
noncomputable def Γ12 : Tab := extT Γ11 18 g_turns_of
noncomputable def g_turns : List D → Option T := gP Γ12 Δ3 100 ["row"] 1 b_turns
noncomputable def Γ13 : Tab := extT Γ12 19 g_turns
noncomputable def x_behind : List D → Option Str := gX Γ13 Ξ1 2 r_behind
noncomputable def Ξ2 : XT := extX Ξ1 1 x_behind
noncomputable abbrev ξ2 : List (Str × Nat) := ("behind", 1) :: ξ1
noncomputable def x_back : List D → Option Str := gX Γ13 Ξ2 1 r_back
noncomputable def Ξ3 : XT := extX Ξ2 2 x_back
noncomputable abbrev ξ3 : List (Str × Nat) := ("back", 2) :: ξ2
noncomputable def x_wrong : List D → Option Str := gX Γ13 Ξ3 1 r_wrong
noncomputable def Ξ4 : XT := extX Ξ3 3 x_wrong
noncomputable abbrev ξ4 : List (Str × Nat) := ("wrong", 3) :: ξ3
noncomputable def x_rings : List D → Option Str := gX Γ13 Ξ4 1 r_rings
noncomputable def Ξ5 : XT := extX Ξ4 4 x_rings
noncomputable abbrev ξ5 : List (Str × Nat) := ("rings", 4) :: ξ4
noncomputable def x_times : List D → Option Str := gX Γ13 Ξ5 2 r_times
noncomputable def Ξ6 : XT := extX Ξ5 5 x_times
noncomputable abbrev ξ6 : List (Str × Nat) := ("times", 5) :: ξ5
noncomputable def x_turns : List D → Option Str := gX Γ13 Ξ6 1 r_turns
noncomputable def Ξ7 : XT := extX Ξ6 6 x_turns
noncomputable abbrev ξ7 : List (Str × Nat) := ("turns", 6) :: ξ6
noncomputable def x_written : List D → Option Str := gX Γ13 Ξ7 1 r_written
noncomputable def Ξ8 : XT := extX Ξ7 7 x_written
noncomputable abbrev ξ8 : List (Str × Nat) := ("written", 7) :: ξ7
noncomputable def x_exchanged : List D → Option Str := gX Γ13 Ξ8 1 r_exchanged
noncomputable def Ξ9 : XT := extX Ξ8 8 x_exchanged
noncomputable abbrev ξ9 : List (Str × Nat) := ("exchanged", 8) :: ξ8
noncomputable def x_fronted : List D → Option Str := gX Γ13 Ξ9 1 r_fronted
noncomputable def Ξ10 : XT := extX Ξ9 9 x_fronted
noncomputable abbrev ξ10 : List (Str × Nat) := ("fronted", 9) :: ξ9
noncomputable def x_ended : List D → Option Str := gX Γ13 Ξ10 1 r_ended
noncomputable def Ξ11 : XT := extX Ξ10 10 x_ended
noncomputable abbrev ξ11 : List (Str × Nat) := ("ended", 10) :: ξ10
noncomputable def x_put : List D → Option Str := gX Γ13 Ξ11 1 r_put
noncomputable def Ξ12 : XT := extX Ξ11 11 x_put
noncomputable abbrev ξ12 : List (Str × Nat) := ("put", 11) :: ξ11
noncomputable def x_of_rings : List D → Option Str := gX Γ13 Ξ12 2 r_of_rings
noncomputable def Ξ13 : XT := extX Ξ12 12 x_of_rings
noncomputable abbrev ξ13 : List (Str × Nat) := ("of_rings", 12) :: ξ12
noncomputable def x__law_with_row : List D → Option Str := gX Γ13 Ξ13 2 r__law_with_row
noncomputable def Ξ14 : XT := extX Ξ13 13 x__law_with_row
noncomputable abbrev ξ14 : List (Str × Nat) := ("_law_with_row", 13) :: ξ13
noncomputable def x__law_with_number : List D → Option Str := gX Γ13 Ξ14 2 r__law_with_number
noncomputable def Ξ15 : XT := extX Ξ14 14 x__law_with_number
noncomputable abbrev ξ15 : List (Str × Nat) := ("_law_with_number", 14) :: ξ14
noncomputable def x__law_with_rings : List D → Option Str := gX Γ13 Ξ15 2 r__law_with_rings
noncomputable def Ξ16 : XT := extX Ξ15 15 x__law_with_rings
noncomputable abbrev ξ16 : List (Str × Nat) := ("_law_with_rings", 15) :: ξ15
noncomputable def x__law_with_two : List D → Option Str := gX Γ13 Ξ16 2 r__law_with_two
noncomputable def Ξ17 : XT := extX Ξ16 16 x__law_with_two
noncomputable abbrev ξ17 : List (Str × Nat) := ("_law_with_two", 16) :: ξ16
noncomputable def g__law_told : List D → Option T := gTold Ξ17 ξ17
noncomputable def Γ14 : Tab := extT Γ13 76 g__law_told
noncomputable def g__law_cell_at : List D → Option T := gP Γ14 Δ3 100 ["_law_script", "_law_k"] 2 b__law_cell_at
noncomputable def Γ15 : Tab := extT Γ14 50 g__law_cell_at
noncomputable def g__law_draw : List D → Option T := gP Γ15 Δ3 100 ["_law_cell", "_law_k", "_law_many", "_law_primes"] 3 b__law_draw
noncomputable def Γ16 : Tab := extT Γ15 51 g__law_draw
noncomputable def g__law_row : List D → Option T := gP Γ16 Δ3 100 ["_law_script", "_law_kind", "_law_row_here", "_law_k", "_law_away"] 1 b__law_row
noncomputable def Γ17 : Tab := extT Γ16 52 g__law_row
noncomputable def g__law_all : List D → Option T := gP Γ17 Δ3 100 ["_law_ask", "_law_doors", "_law_things", "_law_due", "_law_door"] 4 b__law_all
noncomputable def Γ18 : Tab := extT Γ17 77 g__law_all
noncomputable def g_law : List D → Option T := gP Γ18 Δ3 100 ["_law_script", "_law_far", "_law_due", "_law_k", "_law_row_here", "_law_many", "_law_kept", "_law_rows", "_law_at", "_law_numbers_here", "_law_told_here"] 1 b_law
noncomputable def ci (r : List Nat) : List Int := r.map fun n : Nat => (n : Int)
noncomputable def nl (r : List Nat) : List D := r.map fun n : Nat => D.int n
noncomputable def nD (r : List Nat) : D := .lst (nl r)
noncomputable def nT (r : List Nat) : T := .ow ((nl r).map T.sh)
noncomputable def nDD (R : List (List Nat)) : D := .lst (R.map nD)
noncomputable def nTT (R : List (List Nat)) : T := .ow (R.map nT)
theorem nl_ci (r : List Nat) : nl r = (ci r).map D.int := by simp [nl, ci]
@[simp] theorem nl_length (r : List Nat) : (nl r).length = r.length := by simp [nl]
@[simp] theorem strip_nT (r : List Nat) : strip (nT r) = nD r := by rw [nT, nD, strip_ow, map_strip_sh]
@[simp] theorem strip_nTT (R : List (List Nat)) : strip (nTT R) = nDD R := by
  simp only [nTT, nDD, strip_ow, List.map_map]
  congr 1
  exact List.map_congr_left fun r _ => strip_nT r
@[simp] theorem all_scal_nl (r : List Nat) : (nl r).all scal = true := by simp [nl]
@[simp] theorem flat_nT (r : List Nat) : flatT (nT r) = true := by simp [nT, nl]
@[simp] theorem flat_nTT (R : List (List Nat)) : flatT (nTT R) = true := by simp [nTT]
theorem ci_inj {a b : List Nat} (h : ci a = ci b) : a = b := by
  induction a generalizing b with
  | nil => cases b with
    | nil => rfl
    | cons _ _ => cases h
  | cons x r ih => cases b with
    | nil => cases h
    | cons y t =>
      simp only [ci, List.map_cons, List.cons.injEq] at h
      rw [show x = y by omega, ih h.2]
theorem nl_at {r : List Nat} {i : Nat} (h : i < r.length) : atI (nl r) (i : Int) = some (.int (Bo.ap r i : Nat)) := atI_nat (by rw [nl, List.getElem?_map, Bo.ap_get? h]; rfl)
theorem bl_at {m : List Bool} {i : Nat} (h : i < m.length) : atI (m.map D.bl) (i : Int) = some (.bl (m.getD i false)) := atI_nat (by simp [h])
theorem ixN_nat {n i : Nat} (h : i < n) : ixN n (i : Int) = some i := by
  unfold ixN
  rw [if_pos (by omega), if_pos (by omega), Int.toNat_natCast]
theorem toPys_ints (xs : List Int) : toPys (xs.map D.int) = some (xs.map PyData.int) := by
  induction xs with
  | nil => simp [toPys]
  | cons x r ih => simp [toPys, toPy, ih]
theorem canLay_ints (xs : List Int) : PyData.canLayAll0 (xs.map PyData.int) = true := by
  induction xs with
  | nil => simp [PyData.canLayAll0]
  | cons x r ih => simp [PyData.canLayAll0, PyData.canLay0, ih]
theorem depth_ints (xs : List Int) : PyData.depthAll (xs.map PyData.int) = 0 := by
  induction xs with
  | nil => simp [PyData.depthAll]
  | cons x r ih => simp [PyData.depthAll, PyData.depth, ih]
theorem noMix_ints (xs ys : List Int) : PySem.SeqAt.noMixAll (xs.map PyData.int) (ys.map PyData.int) = true := by
  induction xs generalizing ys with
  | nil => cases ys <;> simp [PySem.SeqAt.noMixAll]
  | cons x r ih => cases ys <;> simp [PySem.SeqAt.noMixAll, PySem.SeqAt.noMix, ih]
theorem same_ints (xs ys : List Int) : PySem.Spec.sameAll (xs.map PyData.int) (ys.map PyData.int) = decide (xs = ys) := by
  induction xs generalizing ys with
  | nil => cases ys <;> simp [PySem.Spec.sameAll]
  | cons x r ih => cases ys with
    | nil => simp [PySem.Spec.sameAll]
    | cons y t =>
      simp [PySem.Spec.sameAll, PySem.Spec.same, ih]
      by_cases e : x = y <;> simp [e]
@[simp] theorem eq_ii (i j : Int) : eqD (.int i) (.int j) = some (decide (i = j)) := by
  have h : ∀ i : Int, PySem.SeqAt.shaped (.int i) = true := fun i => by simp [PySem.SeqAt.shaped, PyData.canLay0, PyData.depth]
  simp [eqD, toPy, h, PySem.SeqAt.noMix, PySem.Spec.same]
  by_cases e : i = j <;> simp [e]
theorem eq_il (xs ys : List Int) : eqD (.lst (xs.map D.int)) (.lst (ys.map D.int)) = some (decide (xs = ys)) := by
  have h : ∀ i : List Int, PySem.SeqAt.shaped (.list (i.map PyData.int)) = true := fun i => by simp [PySem.SeqAt.shaped, PyData.canLay0, PyData.depth, canLay_ints, depth_ints]
  simp [eqD, toPy, toPys_ints, h, PySem.SeqAt.noMix, PySem.Spec.same, noMix_ints, same_ints]
@[simp] theorem eq_nn (a b : List Nat) : eqD (nD a) (nD b) = some (decide (a = b)) := by
  unfold nD
  rw [nl_ci, nl_ci, eq_il]
  congr 1
  by_cases e : a = b
  · simp [e]
  · rw [dff e, dff fun h => e (ci_inj h)]
@[simp] theorem evX_bl (Γ : Tab) (pio : Option Nat) (b : Bool) (env : TEnv) : evX Γ pio (.bl b) env = some (.sh (.bl b), env) := rfl
@[simp] theorem evX_int (Γ : Tab) (pio : Option Nat) (b : Int) (env : TEnv) : evX Γ pio (.int b) env = some (.sh (.int b), env) := rfl
@[simp] theorem evX_nilL (Γ : Tab) (pio : Option Nat) (env : TEnv) : evX Γ pio (.lst .nil) env = some (.ow [], env) := rfl
theorem forL_inv {step : D → TEnv → Option (Fl × TEnv)} (I : Nat → TEnv → Prop) : ∀ (ds : List D) (env : TEnv) (j : Nat), I j env → (∀ k d e, ds[k]? = some d → I (j + k) e → ∃ e', step d e = some (.nx, e') ∧ I (j + k + 1) e') → ∃ e', forL step ds env = some (.nx, e') ∧ I (j + ds.length) e'
  | [], env, j, h0, _ => ⟨env, rfl, h0⟩
  | d :: r, env, j, h0, hs => by
    obtain ⟨e1, h1, h2⟩ := hs 0 d env rfl h0
    obtain ⟨e', h3, h4⟩ := forL_inv I r e1 (j + 1) h2 fun k d' e hd hI => by
      have := hs (k + 1) d' e hd (by rwa [show j + (k + 1) = j + 1 + k by omega])
      rwa [show j + (k + 1) + 1 = j + 1 + k + 1 by omega] at this
    refine ⟨e', ?_, by rwa [List.length_cons, show j + (r.length + 1) = j + 1 + r.length by omega]⟩
    show (step d env).bind _ = _
    rw [h1]
    exact h3
theorem forL_from {step : D → TEnv → Option (Fl × TEnv)} (I : Nat → TEnv → Prop) {ds : List D} {env : TEnv} (h0 : I 0 env) (hs : ∀ k d e, ds[k]? = some d → I k e → ∃ e', step d e = some (.nx, e') ∧ I (k + 1) e') : ∃ e', forL step ds env = some (.nx, e') ∧ I ds.length e' := by
  have := forL_inv I ds env 0 h0 fun k d e hd hI => by
    rw [Nat.zero_add] at hI ⊢
    exact hs k d e hd hI
  rwa [Nat.zero_add] at this
theorem evIO_ok {Γ : Tab} {Δ : IOT} {f i k : Nat} {args : E} {env : TEnv} {g : List D → Option (T × List D)} {ds ds' l : List D} {t : T} (hg : Δ f = some (k, g)) (he : env[i]? = some (some (.ow (ds.map T.sh)))) (hs : ds.all scal = true) (ha : evA Γ i ds (dEnv (env.set i none)) k args = some l) (h : g l = some (t, ds')) (ht : flatT t = true) (hs' : ds'.all scal = true) : evIO Γ Δ f i args env = some (t, env.set i (some (.ow (ds'.map T.sh)))) := by
  unfold evIO
  rw [hg, obs, he]
  show (unsh (ds.map T.sh)).bind _ = _
  rw [unsh_sh, obs, if_pos hs, ha, obs, show (k, g).2 l = some (t, ds') from h, obs, if_pos (by rw [ht, hs']; rfl)]
theorem mul_false {n : Nat} (h : n ≤ 1000000) : binD .Mult (.lst [.bl false]) (.int n) = some (.lst ((List.replicate n false).map D.bl)) := by
  have e : (List.replicate n [D.bl false]).flatten = (List.replicate n false).map D.bl := by
    clear h
    induction n with
    | zero => rfl
    | succ n ih => rw [List.replicate_succ, List.flatten_cons, ih]; rfl
  show (if sz ([D.bl false].length * (n : Int).toNat) && decide (-(2 ^ 62) ≤ (n : Int) ∧ (n : Int) < 2 ^ 62) then some (D.lst (List.replicate (n : Int).toNat [D.bl false]).flatten) else none) = _
  rw [Int.toNat_natCast, if_pos, e]
  rw [Bool.and_eq_true]
  exact ⟨sz_of (by simpa using h), dtt (by omega)⟩
theorem gP_rt1 {Γ : Tab} {Δ : IOT} {m : Nat} {N : List Str} {ar : Nat} {body : S} {ds : List D} {t : T} (hl : ds.length = ar) (h : (ex Γ Δ none m body (startT N ds)).map (·.1) = some (.rt t)) : gP Γ Δ m N ar body ds = some t := by
  obtain ⟨⟨fl, env⟩, h1, h2⟩ := msi h
  cases h2
  exact gP_rt hl h1
theorem gP_nx1 {Γ : Tab} {Δ : IOT} {m : Nat} {N : List Str} {ar : Nat} {body : S} {ds : List D} (hl : ds.length = ar) (h : (ex Γ Δ none m body (startT N ds)).map (·.1) = some .nx) : gP Γ Δ m N ar body ds = some (.sh .non) := by
  obtain ⟨⟨fl, env⟩, h1, h2⟩ := msi h
  cases h2
  exact gP_nx hl h1
structure Mk (n : Nat) (L : List Nat) (met : List Bool) : Prop where
  len : met.length = n
  at' : ∀ y, y < n → met.getD y false = decide (y ∈ L)
theorem Mk.start (n : Nat) : Mk n [] (List.replicate n false) := ⟨by simp, fun y hy => by simp [hy]⟩
theorem Mk.more {n : Nat} {L : List Nat} {met : List Bool} (h : Mk n L met) {x : Nat} (hx : x < n) : Mk n (L ++ [x]) (met.set x true) := ⟨by simp [h.len], fun y hy => by
  rw [Bo.getD_set (by rw [h.len]; exact hx), h.at' y hy]
  by_cases e : y = x <;> simp [e]⟩
@[simp] theorem is_whole_int (i : Int) : g_is_whole [.int i] = some (.sh (.bl true)) := rfl
theorem first_met_ok {x : Nat} {bs : List Bool} (h : x < bs.length) (h0 : bs.getD x false = false) : g_first_met [.int x, .lst (bs.map D.bl)] = some (.sh (.bl true), (bs.set x true).map D.bl) := by
  refine gQ_rt (env := [some (.sh (.int x)), some (.ow (((bs.set x true).map D.bl).map T.sh))]) rfl ?_ (by simp)
  have hs : startIO ["thing", "met"] 1 [D.int x, D.lst (bs.map D.bl)] = [some (.sh (.int x)), some (.ow ((bs.map D.bl).map T.sh))] := by simp [startIO, ioAt, listD]
  have hw : Γ1 0 = some g_is_whole := rfl
  have hlt : (x : Int) < (bs.length : Int) := by omega
  rw [hs]
  unfold b_first_met
  simp only [ex_seq, ex_ife]
  have hc : evB Γ1 (.or (.not (.call 0 (.cons (.var 0) .nil))) (.or (.not (.ch .LtE .Lt (.int 0) (.var 0) (.un .len (.var 1)))) (.idx (.var 1) (.var 0)))) (dEnv [some (.sh (.int x)), some (.ow ((bs.map D.bl).map T.sh))]) = some false := by
    simp only [dEnv_cons, dEnv_nil, Option.map_some, strip_sh, strip_ow, map_strip_sh, evB, ev_or, ev_not, ev_call, ev_cons, ev_nil, ev_var, hw]
    simp [hlt, bl_at h, -List.getD_eq_getElem?_getD]
    simpa using h0
  rw [hc]
  have hi := ixN_nat h
  simp [ex_set, hi]
theorem is_row_ok {r : List Nat} (h : Bo.IsRow r) (hl : r.length ≤ 1000000) : g_is_row [nD r] = some (.sh (.bl true)) := by
  have hs : startT ["value", "met", "thing"] [nD r] = [some (.sh (nD r)), none, none] := rfl
  have e1 : evX Γ1 none (.bin .Mult (.lst (.cons (.bl false) .nil)) (.un .len (.var 0))) [some (.sh (nD r)), none, none] = some (.ow (((List.replicate r.length false).map D.bl).map T.sh), [some (.sh (nD r)), none, none]) := by
    refine evX_flat rfl rfl ?_ (by simp)
    have : sz 1 = true := rfl
    simp [nD, this, mul_false hl, -List.map_replicate]
  obtain ⟨env', hf, x, y, rfl, _⟩ := forL_from (step := fun d e => ex Γ1 Δ1 none 100 (.seq (.ifio true 100 1 (.cons (.var 2) (.cons (.var 1) .nil)) (.seq (.ret (.bl false)) .nop) .nop) .nop) (e.set 2 (some (.sh d)))) (fun k e => ∃ met x, e = [some (.sh (nD r)), some (.ow ((met.map D.bl).map T.sh)), x] ∧ Mk r.length (r.take k) met) (ds := nl r) (env := [some (.sh (nD r)), some (.ow (((List.replicate r.length false).map D.bl).map T.sh)), none]) ⟨_, _, rfl, by simpa using Mk.start _⟩ (fun k d e hd ⟨met, x, he, hm⟩ => by
    subst he
    have hk : k < r.length := by simpa using (List.getElem?_eq_some_iff.mp hd).1
    obtain rfl : d = .int (Bo.ap r k : Nat) := by
      rw [nl, List.getElem?_map, Bo.ap_get? hk] at hd
      exact (Option.some.inj hd).symm
    have hlt := h.lt hk
    have hn : Bo.ap r k ∉ r.take k := fun z => by
      obtain ⟨j, hj, e⟩ := List.getElem_of_mem z
      rw [List.length_take] at hj
      have := h.inj (i := j) (j := k) (by omega) hk (by rw [Bo.ap_eq (show j < r.length by omega), ← e]; simp)
      omega
    have h0 : met.getD (Bo.ap r k) false = false := by rw [hm.at' _ hlt]; simpa using hn
    refine ⟨[some (.sh (nD r)), some (.ow (((met.set (Bo.ap r k) true).map D.bl).map T.sh)), some (.sh (.int (Bo.ap r k : Nat)))], ?_, _, _, rfl, ?_⟩
    · have hio := evIO_ok (Γ := Γ1) (Δ := Δ1) (f := 100) (i := 1) (args := .cons (.var 2) (.cons (.var 1) .nil)) (env := [some (.sh (nD r)), some (.ow ((met.map D.bl).map T.sh)), some (.sh (.int (Bo.ap r k : Nat)))]) (ds := met.map D.bl) (l := [.int (Bo.ap r k : Nat), .lst (met.map D.bl)]) rfl rfl (by simp) rfl (first_met_ok (by rw [hm.len]; exact hlt) h0) rfl (all_scal_bls _)
      simp only [ex_seq, ex_ifio, List.set_cons_succ, List.set_cons_zero]
      rw [hio]
      rfl
    · have := hm.more hlt
      rwa [show r.take k ++ [Bo.ap r k] = r.take (k + 1) by rw [List.take_succ, Bo.ap_get? hk]; rfl] at this)
  have hc : evB Γ1 (.not (.isi (.var 0) 2)) (dEnv [some (.sh (nD r)), none, none]) = some false := rfl
  have hx : itX Γ1 none (.var 0) [some (.sh (nD r)), some (.ow (((List.replicate r.length false).map D.bl).map T.sh)), none] = some (nl r, [some (.sh (nD r)), some (.ow (((List.replicate r.length false).map D.bl).map T.sh)), none]) := rfl
  exact gP_rt rfl ((st_skip hc).trans ((st_asg rfl e1).trans ((st_for1 rfl hx hf).trans (st_ret (by simp) (evX_bl _ _ _ _)))))
theorem need_row_ok {r : List Nat} (h : Bo.IsRow r) (hl : r.length ≤ 1000000) : g_need_row [nD r] = some (.sh .non) := by
  have hs : startT ["value"] [nD r] = [some (.sh (nD r))] := rfl
  have hw : Γ2 1 = some g_is_row := rfl
  refine gP_nx1 rfl ?_
  rw [hs]
  simp [b_need_row, evB, hw, is_row_ok h hl]
theorem nl_get {r : List Nat} {k : Nat} {d : D} (h : (nl r)[k]? = some d) : k < r.length ∧ d = .int (Bo.ap r k : Nat) := by
  have hk : k < r.length := by simpa using (List.getElem?_eq_some_iff.mp h).1
  rw [nl, List.getElem?_map, Bo.ap_get? hk] at h
  exact ⟨hk, (Option.some.inj h).symm⟩
theorem rngD_nat {n : Nat} (h : n ≤ 1000000) : rngD 0 (n : Int) = some (nl (List.range n)) := by
  unfold rngD
  rw [if_pos (dtt (by omega))]
  simp [nl]
theorem ap_range {n k : Nat} (h : k < n) : Bo.ap (List.range n) k = k := Bo.ap_range h
theorem cut_lo {g : List Nat} {s : Nat} (hs : s ≤ g.length) : cutL (nl g) (some (s : Int)) none = nl (g.drop s) := by
  unfold cutL
  rw [HT.sIx_nat, HT.sIx_none, nl_length, Nat.min_eq_left hs]
  rw [List.take_of_length_le (by simp)]
  simp [nl]
theorem cut_hi {g : List Nat} {s : Nat} (hs : s ≤ g.length) : cutL (nl g) none (some (s : Int)) = nl (g.take s) := by
  unfold cutL
  rw [HT.sIx_nat, HT.sIx_none, nl_length, Nat.min_eq_left hs]
  simp [nl]
theorem nl_append (a b : List Nat) : nl a ++ nl b = nl (a ++ b) := by simp [nl]
noncomputable def iD (ns : List Int) : D := .lst (ns.map D.int)
theorem il_at {ns : List Int} {i : Nat} (h : i < ns.length) : ∃ v, atI (ns.map D.int) (i : Int) = some (.int v) := ⟨ns[i], atI_nat (by simp [h])⟩
theorem cell_ok (ns : List Int) (k : Nat) : ∃ v : Int, g__law_cell_at [iD ns, .int k] = some (.sh (.int v)) := by
  by_cases h : k < ns.length
  · obtain ⟨v, hv⟩ := il_at h
    have hc : evB Γ14 (.cmp .Lt (.var 1) (.un .len (.var 0))) (dEnv [some (.sh (iD ns)), some (.sh (.int k))]) = some true := by
      simp [evB, iD, h]
    refine ⟨v, gP_rt1 rfl ?_⟩
    have e : ex Γ14 Δ3 none 100 b__law_cell_at [some (.sh (iD ns)), some (.sh (.int k))] = some (.rt (.sh (.int v)), [some (.sh (iD ns)), some (.sh (.int k))]) := by
      unfold b__law_cell_at
      rw [ex_seq, ex_ife, hc, obs, if_pos rfl, st_ret (by simp) (evX_scal (d := .int v) rfl (by simp [iD, hv]) rfl)]
      rfl
    exact (congrArg _ e).trans rfl
  · have hc : evB Γ14 (.cmp .Lt (.var 1) (.un .len (.var 0))) (dEnv [some (.sh (iD ns)), some (.sh (.int k))]) = some false := by
      simp [evB, iD]; omega
    exact ⟨0, gP_rt rfl ((st_skip hc).trans (st_ret (by simp) (evX_int _ _ _ _)))⟩
theorem mul_small (a : Int) {b : Int} (h : decide (-(2 ^ 64) < b ∧ b < 2 ^ 64) = true) : binD .Mult (.int a) (.int b) = some (.int (a * b)) := by
  show (if mulOk a b then _ else _) = _
  rw [if_pos (by unfold mulOk; rw [h, Bool.or_true])]
theorem mod_pos (a : Int) {b : Int} (h : 0 < b) : binD .Mod (.int a) (.int b) = some (.int (a % b)) := by
  show (if decide (0 < b) then _ else _) = _
  rw [if_pos (dtt h)]
noncomputable def PR : List Int := [1000003, 1000033, 1000037, 1000039, 1000081, 1000099, 1000117, 1000121, 1000133, 1000151, 1000159, 1000171, 1000183, 1000187, 1000193, 1000199]
theorem pr_at (k : Int) : ∃ p : Int, 0 < p ∧ atI (PR.map D.int) (k % 16) = some (.int p) := by
  have h0 : 0 ≤ k % 16 := Int.emod_nonneg _ (by decide)
  have h1 : k % 16 < 16 := Int.emod_lt_of_pos _ (by decide)
  obtain ⟨j, hj⟩ : ∃ j : Nat, k % 16 = j := ⟨(k % 16).toNat, by omega⟩
  rw [hj]
  have hj' : j < PR.length := by show j < 16; omega
  refine ⟨PR[j], ?_, atI_nat (by simp [hj'])⟩
  have : ∀ x ∈ PR, (0 : Int) < x := by decide
  exact this _ (List.getElem_mem _)
theorem draw_ok (c k : Int) {m : Nat} (hm : 0 < m) : ∃ v : Nat, v < m ∧ g__law_draw [.int c, .int k, .int m] = some (.sh (.int v)) := by
  obtain ⟨p, hp, hat⟩ := pr_at k
  have hv0 : 0 ≤ ((c * 48271 + k * 69621) % p) % (m : Int) := Int.emod_nonneg _ (by omega)
  have hv1 : ((c * 48271 + k * 69621) % p) % (m : Int) < m := Int.emod_lt_of_pos _ (by omega)
  refine ⟨(((c * 48271 + k * 69621) % p) % (m : Int)).toNat, by omega, ?_⟩
  rw [show (((((c * 48271 + k * 69621) % p) % (m : Int)).toNat : Nat) : Int) = ((c * 48271 + k * 69621) % p) % (m : Int) by omega]
  have e1 : evX Γ15 none (.tup (.cons (.int 1000003) (.cons (.int 1000033) (.cons (.int 1000037) (.cons (.int 1000039) (.cons (.int 1000081) (.cons (.int 1000099) (.cons (.int 1000117) (.cons (.int 1000121) (.cons (.int 1000133) (.cons (.int 1000151) (.cons (.int 1000159) (.cons (.int 1000171) (.cons (.int 1000183) (.cons (.int 1000187) (.cons (.int 1000193) (.cons (.int 1000199) .nil))))))))))))))))) [some (.sh (.int c)), some (.sh (.int k)), some (.sh (.int m)), none] = some (.sh (.tup (PR.map D.int)), [some (.sh (.int c)), some (.sh (.int k)), some (.sh (.int m)), none]) := rfl
  have e2 : ev Γ15 (.bin .Mod (.bin .Mod (.bin .Add (.bin .Mult (.var 0) (.int 48271)) (.bin .Mult (.var 1) (.int 69621))) (.idx (.var 3) (.bin .Mod (.var 1) (.int 16)))) (.var 2)) (dEnv [some (.sh (.int c)), some (.sh (.int k)), some (.sh (.int m)), some (.sh (.tup (PR.map D.int)))]) = some (.int (((c * 48271 + k * 69621) % p) % (m : Int))) := by
    simp only [dEnv_cons, dEnv_nil, Option.map_some, strip_sh, ev_bin, ev_var, ev_int, ev_idx, List.getElem?_cons_zero, List.getElem?_cons_succ, Option.join_some, obs]
    rw [mul_small c (by decide), mul_small k (by decide), mod_pos k (by decide)]
    simp only [obs, add_ii, idx_tup]
    rw [hat, obs, mod_pos _ hp, obs, mod_pos _ (by omega)]
  exact gP_rt rfl ((st_asg rfl e1).trans (st_ret (by simp) (evX_scal rfl e2 rfl)))
theorem ins_row {r : List Nat} (h : Bo.IsRow r) {z : Nat} : Bo.IsRow (r.take z ++ r.length :: r.drop z) := by
  have p : (r.take z ++ r.length :: r.drop z).Perm (r.length :: r) := by
    have := List.perm_middle (l₁ := r.take z) (l₂ := r.drop z) (a := r.length)
    rwa [List.take_append_drop] at this
  unfold Bo.IsRow
  rw [p.length_eq, List.length_cons, List.range_succ]
  exact p.trans ((h.cons _).trans (List.perm_append_singleton _ _).symm)
theorem row_ok (ns : List Int) (hl : ns.length ≤ 63) : ∃ r, Bo.IsRow r ∧ r.length = ns.length ∧ g__law_row [iD ns] = some (nT r) := by
  have w50 : Γ16 50 = some g__law_cell_at := rfl
  have w51 : Γ16 51 = some g__law_draw := rfl
  obtain ⟨c0, hc0⟩ := cell_ok ns 0
  obtain ⟨kind, hkind, hk0⟩ := draw_ok c0 6 (m := 4) (by decide)
  have e1 : evX Γ16 none (.call 51 (.cons (.call 50 (.cons (.var 0) (.cons (.int 0) .nil))) (.cons (.int 6) (.cons (.int 4) .nil)))) [some (.sh (iD ns)), none, none, none, none] = some (.sh (.int kind), [some (.sh (iD ns)), none, none, none, none]) := by
    refine evX_callF w51 (l := [.int c0, .int 6, .int 4]) ?_ hk0 rfl
    have hc0' : g__law_cell_at [iD ns, .int 0] = some (.sh (.int c0)) := hc0
    simp [evs, w50, hc0']
  obtain ⟨env', hf, r, x, y, rfl, hr, hrl⟩ := forL_from (step := fun d e => ex Γ16 Δ3 none 100 (.seq (.asg 4 (.call 51 (.cons (.idx (.var 0) (.var 3)) (.cons (.bin .Add (.bin .Mod (.var 3) (.int 5)) (.int 1)) (.cons (.bin .Add (.var 3) (.int 1)) .nil)))))
  (.seq (.ife (.cmp .Eq (.var 1) (.int 1))
  (.seq (.asg 4 (.mn (.var 4) (.call 51 (.cons (.idx (.var 0) (.var 3)) (.cons (.bin .Add (.bin .Mod (.var 3) (.int 7)) (.int 1)) (.cons (.int 4) .nil))))))
  .nop) .nop)
  (.seq (.ife (.cmp .Eq (.var 1) (.int 2))
  (.seq (.asg 4 (.mx (.var 4) (.bin .Sub (.var 3) (.call 51 (.cons (.idx (.var 0) (.var 3)) (.cons (.bin .Add (.bin .Mod (.var 3) (.int 7)) (.int 1)) (.cons (.int 4) .nil)))))))
  .nop) .nop)
  (.seq (.ife (.and (.cmp .Eq (.var 1) (.int 3)) (.cmp .Gt (.bin .Mod (.var 4) (.int 3)) (.int 0)))
  (.seq (.asg 4 (.int 0))
  .nop) .nop)
  (.seq (.ins 2 (.bin .Sub (.var 3) (.var 4)) (.var 3))
  .nop))))) (e.set 3 (some (.sh d)))) (fun k e => ∃ r x y, e = [some (.sh (iD ns)), some (.sh (.int kind)), some (nT r), x, y] ∧ Bo.IsRow r ∧ r.length = k) (ds := nl (List.range ns.length)) (env := [some (.sh (iD ns)), some (.sh (.int kind)), some (.ow []), none, none]) ⟨[], _, _, rfl, Bo.isRow_range 0, rfl⟩ (fun k d e hd ⟨r, x, y, he, hr, hrl⟩ => by
    subst he
    obtain ⟨hk, rfl⟩ := nl_get hd
    rw [List.length_range] at hk
    rw [ap_range hk]
    obtain ⟨c, hat⟩ := il_at hk
    have hm5 : ∀ q : Int, 0 < q → binD .Mod (.int k) (.int q) = some (.int ((k : Int) % q)) := fun q hq => mod_pos _ hq
    obtain ⟨a1, ha1, hg1⟩ := draw_ok c ((k : Int) % 5 + 1) (m := k + 1) (by omega)
    obtain ⟨a2, ha2, hg2⟩ := draw_ok c ((k : Int) % 7 + 1) (m := 4) (by omega)
    have s1 : ∀ y, evX Γ16 none (.call 51 (.cons (.idx (.var 0) (.var 3)) (.cons (.bin .Add (.bin .Mod (.var 3) (.int 5)) (.int 1)) (.cons (.bin .Add (.var 3) (.int 1)) .nil)))) [some (.sh (iD ns)), some (.sh (.int kind)), some (nT r), some (.sh (.int k)), y] = some (.sh (.int a1), [some (.sh (iD ns)), some (.sh (.int kind)), some (nT r), some (.sh (.int k)), y]) := fun y => by
      refine evX_callF w51 (l := [.int c, .int ((k : Int) % 5 + 1), .int ((k + 1 : Nat) : Int)]) ?_ hg1 rfl
      simp [evs, iD, hat, hm5]
    have d2 : ∀ y, ev Γ16 (.call 51 (.cons (.idx (.var 0) (.var 3)) (.cons (.bin .Add (.bin .Mod (.var 3) (.int 7)) (.int 1)) (.cons (.int 4) .nil)))) (dEnv [some (.sh (iD ns)), some (.sh (.int kind)), some (nT r), some (.sh (.int k)), y]) = some (.int a2) := fun y => by
      have hg2' : g__law_draw [.int c, .int ((k : Int) % 7 + 1), .int 4] = some (.sh (.int a2)) := hg2
      simp [iD, hat, hm5, w51, hg2']
    have vk : ∀ (q : Int) (t y : Option T), evB Γ16 (.cmp .Eq (.var 1) (.int q)) (dEnv [some (.sh (iD ns)), some (.sh (.int kind)), some (nT r), t, y]) = some (decide ((kind : Int) = q)) := fun q t y => by
      simp [evB]
    have t2 : ∃ b : Nat, b ≤ k ∧ ∀ K, ex Γ16 Δ3 none 100 (.seq (.ife (.cmp .Eq (.var 1) (.int 1))
  (.seq (.asg 4 (.mn (.var 4) (.call 51 (.cons (.idx (.var 0) (.var 3)) (.cons (.bin .Add (.bin .Mod (.var 3) (.int 7)) (.int 1)) (.cons (.int 4) .nil))))))
  .nop) .nop) K) [some (.sh (iD ns)), some (.sh (.int kind)), some (nT r), some (.sh (.int k)), some (.sh (.int a1))] = ex Γ16 Δ3 none 100 K [some (.sh (iD ns)), some (.sh (.int kind)), some (nT r), some (.sh (.int k)), some (.sh (.int b))] := by
      by_cases h : (kind : Int) = 1
      · have hc := vk 1 (some (.sh (.int k))) (some (.sh (.int a1)))
        rw [dtt h] at hc
        refine ⟨if a2 < a1 then a2 else a1, by split <;> omega, fun K => st_if hc (env2 := [some (.sh (iD ns)), some (.sh (.int kind)), some (nT r), some (.sh (.int k)), some (.sh (.int ((if a2 < a1 then a2 else a1 : Nat) : Int)))]) ?_⟩
        rw [if_pos rfl]
        refine (st_asg (t := .sh (.int ((if a2 < a1 then a2 else a1 : Nat) : Int))) rfl (evX_scal rfl ?_ rfl)).trans rfl
        rw [ev_mn, d2]
        simp
        split <;> rfl
      · have hc := vk 1 (some (.sh (.int k))) (some (.sh (.int a1)))
        rw [dff h] at hc
        exact ⟨a1, by omega, fun K => st_skip hc⟩
    obtain ⟨b, hb, h2⟩ := t2
    have t3 : ∃ b' : Nat, b' ≤ k ∧ ∀ K, ex Γ16 Δ3 none 100 (.seq (.ife (.cmp .Eq (.var 1) (.int 2))
  (.seq (.asg 4 (.mx (.var 4) (.bin .Sub (.var 3) (.call 51 (.cons (.idx (.var 0) (.var 3)) (.cons (.bin .Add (.bin .Mod (.var 3) (.int 7)) (.int 1)) (.cons (.int 4) .nil)))))))
  .nop) .nop) K) [some (.sh (iD ns)), some (.sh (.int kind)), some (nT r), some (.sh (.int k)), some (.sh (.int b))] = ex Γ16 Δ3 none 100 K [some (.sh (iD ns)), some (.sh (.int kind)), some (nT r), some (.sh (.int k)), some (.sh (.int b'))] := by
      have hc := vk 2 (some (.sh (.int k))) (some (.sh (.int b)))
      by_cases h : (kind : Int) = 2
      · rw [dtt h] at hc
        have hmx : (if (k : Int) - a2 > b then (k : Int) - a2 else b) = ((if (k : Int) - a2 > b then (k : Int) - a2 else b).toNat : Nat) := by split <;> omega
        refine ⟨(if (k : Int) - a2 > b then (k : Int) - a2 else b).toNat, by split <;> omega, fun K => st_if hc (env2 := [some (.sh (iD ns)), some (.sh (.int kind)), some (nT r), some (.sh (.int k)), some (.sh (.int ((if (k : Int) - a2 > b then (k : Int) - a2 else b).toNat : Nat)))]) ?_⟩
        rw [if_pos rfl, ← hmx]
        refine (st_asg (t := .sh (.int (if (k : Int) - a2 > b then (k : Int) - a2 else b))) rfl (evX_scal rfl ?_ rfl)).trans rfl
        rw [ev_mx, ev_bin, d2]
        simp
      · rw [dff h] at hc
        exact ⟨b, hb, fun K => st_skip hc⟩
    obtain ⟨b', hb', h3⟩ := t3
    have t4 : ∃ b2 : Nat, b2 ≤ k ∧ ∀ K, ex Γ16 Δ3 none 100 (.seq (.ife (.and (.cmp .Eq (.var 1) (.int 3)) (.cmp .Gt (.bin .Mod (.var 4) (.int 3)) (.int 0)))
  (.seq (.asg 4 (.int 0))
  .nop) .nop) K) [some (.sh (iD ns)), some (.sh (.int kind)), some (nT r), some (.sh (.int k)), some (.sh (.int b'))] = ex Γ16 Δ3 none 100 K [some (.sh (iD ns)), some (.sh (.int kind)), some (nT r), some (.sh (.int k)), some (.sh (.int b2))] := by
      have hmod : binD .Mod (.int b') (.int 3) = some (.int ((b' : Int) % 3)) := mod_pos _ (by decide)
      have hc : ∃ t, evB Γ16 (.and (.cmp .Eq (.var 1) (.int 3)) (.cmp .Gt (.bin .Mod (.var 4) (.int 3)) (.int 0))) (dEnv [some (.sh (iD ns)), some (.sh (.int kind)), some (nT r), some (.sh (.int k)), some (.sh (.int b'))]) = some t := by
        by_cases h : (kind : Int) = 3 <;> simp [evB, h, hmod]
      obtain ⟨t, hc⟩ := hc
      cases t with
      | true =>
        refine ⟨0, by omega, fun K => st_if hc (env2 := [some (.sh (iD ns)), some (.sh (.int kind)), some (nT r), some (.sh (.int k)), some (.sh (.int ((0 : Nat) : Int)))]) ?_⟩
        rw [if_pos rfl]
        exact (st_asg rfl (evX_int _ _ _ _)).trans rfl
      | false => exact ⟨b', hb', fun K => st_skip hc⟩
    obtain ⟨b2, hb2, h4⟩ := t4
    refine ⟨[some (.sh (iD ns)), some (.sh (.int kind)), some (nT (r.take (k - b2) ++ r.length :: r.drop (k - b2))), some (.sh (.int k)), some (.sh (.int b2))], ?_, _, _, _, rfl, ins_row hr, by simp; omega⟩
    refine (st_asg rfl (s1 y)).trans ((h2 _).trans ((h3 _).trans ((h4 _).trans ?_)))
    have hz : ev Γ16 (.bin .Sub (.var 3) (.var 4)) (dEnv [some (.sh (iD ns)), some (.sh (.int kind)), some (nT r), some (.sh (.int k)), some (.sh (.int b2))]) = some (.int ((k - b2 : Nat) : Int)) := by
      simp; omega
    refine (st_ins (d := .int k) (ts := (nl r).map T.sh) hz rfl rfl rfl (by simp; omega) (sz_of (by simp; omega))).trans ?_
    have : nT (r.take (k - b2) ++ r.length :: r.drop (k - b2)) = .ow (((nl r).map T.sh).take (k - b2) ++ T.sh (.int k) :: ((nl r).map T.sh).drop (k - b2)) := by
      simp [nT, nl, hrl]
    rw [this]
    rfl)
  rw [nl_length, List.length_range] at hrl
  have hx : itX Γ16 none (.rng (.un .len (.var 0))) [some (.sh (iD ns)), some (.sh (.int kind)), some (.ow []), none, none] = some (nl (List.range ns.length), [some (.sh (iD ns)), some (.sh (.int kind)), some (.ow []), none, none]) := by
    simp [itX, isRng, its, iD, rngD_nat (n := ns.length) (by omega)]
  exact ⟨r, hr, hrl, gP_rt rfl ((st_asg2 rfl e1 (evX_nilL _ _ _)).trans ((st_for1 rfl hx hf).trans (st_retV (by simp) rfl)))⟩
noncomputable def BadAt (n : Nat) (L : List Nat) : D → Prop
  | .int i => ¬ (0 ≤ i ∧ i < (n : Int)) ∨ ∃ x ∈ L, i = (x : Int) ∧ x < n
  | .non => True
  | .bl _ => True
  | .str _ => True
  | .lst _ => True
  | .tup _ => True
  | .dic _ => True
  | _ => False
theorem whole_no {d : D} (h : match d with | .non => True | .bl _ => True | .str _ => True | .lst _ => True | .tup _ => True | .dic _ => True | _ => False) : g_is_whole [d] = some (.sh (.bl false)) := by
  cases d <;> first | rfl | exact h.elim
theorem first_met_no {n : Nat} {L : List Nat} {d : D} {bs : List Bool} (hm : Mk n L bs) (hb : BadAt n L d) : g_first_met [d, .lst (bs.map D.bl)] = some (.sh (.bl false), bs.map D.bl) := by
  refine gQ_rt (env := [some (.sh d), some (.ow ((bs.map D.bl).map T.sh))]) rfl ?_ (by simp)
  have hs : startIO ["thing", "met"] 1 [d, D.lst (bs.map D.bl)] = [some (.sh d), some (.ow ((bs.map D.bl).map T.sh))] := by simp [startIO, ioAt, listD]
  have hw : Γ1 0 = some g_is_whole := rfl
  rw [hs]
  unfold b_first_met
  simp only [ex_seq, ex_ife]
  have hc : evB Γ1 (.or (.not (.call 0 (.cons (.var 0) .nil))) (.or (.not (.ch .LtE .Lt (.int 0) (.var 0) (.un .len (.var 1)))) (.idx (.var 1) (.var 0)))) (dEnv [some (.sh d), some (.ow ((bs.map D.bl).map T.sh))]) = some true := by
    simp only [dEnv_cons, dEnv_nil, Option.map_some, strip_sh, strip_ow, map_strip_sh, evB, ev_or, ev_not, ev_call, ev_cons, ev_nil, ev_var, hw]
    cases d with
    | int i =>
      rcases hb with hb | ⟨x, hx, rfl, hlt⟩
      · have hc : ¬ (0 ≤ i ∧ i < (bs.length : Int)) := by rw [hm.len]; exact hb
        by_cases h0 : 0 ≤ i
        · have h1 : ¬ i < (bs.length : Int) := fun z => hc ⟨h0, z⟩
          simp [h0, h1]
        · simp [h0]
      · have hl : x < bs.length := by rw [hm.len]; exact hlt
        have h1 : ((x : Nat) : Int) < (bs.length : Int) := by omega
        have h2 := hm.at' x hlt
        rw [dtt hx] at h2
        simp [h1, bl_at hl, h2, -List.getD_eq_getElem?_getD]
    | ins _ _ _ => exact hb.elim
    | fn _ => exact hb.elim
    | exc _ => exact hb.elim
    | _ => simp [whole_no]
  rw [hc]
  rfl
theorem forL_stop {step : D → TEnv → Option (Fl × TEnv)} {t : T} (I : Nat → TEnv → Prop) {d : D} {post : List D} : ∀ (pre : List D) (env : TEnv) (j : Nat), I j env → (∀ k x e, pre[k]? = some x → I (j + k) e → ∃ e', step x e = some (.nx, e') ∧ I (j + k + 1) e') → (∀ e, I (j + pre.length) e → ∃ e', step d e = some (.rt t, e')) →
    ∃ e', forL step (pre ++ d :: post) env = some (.rt t, e')
  | [], env, j, h, _, hd => by
    obtain ⟨e', h1⟩ := hd env h
    refine ⟨e', ?_⟩
    show (step d env).bind _ = _
    rw [h1]
    rfl
  | x :: pre, env, j, h, hs, hd => by
    obtain ⟨e1, h1, h2⟩ := hs 0 x env rfl h
    obtain ⟨e', h3⟩ := forL_stop I pre e1 (j + 1) h2 (fun k y e hy hI => by
      obtain ⟨e2, q1, q2⟩ := hs (k + 1) y e hy (by rw [show j + (k + 1) = j + 1 + k by omega]; exact hI)
      exact ⟨e2, q1, by rw [show j + 1 + k + 1 = j + (k + 1) + 1 by omega]; exact q2⟩) (fun e hI => hd e (by rw [List.length_cons, show j + (pre.length + 1) = j + 1 + pre.length by omega]; exact hI))
    refine ⟨e', ?_⟩
    show (step x env).bind _ = _
    rw [h1]
    exact h3
theorem st_for1R {Γ : Tab} {Δ : IOT} {pio : Option Nat} {n : Nat} {k b : S} {env env2 env3 : TEnv} {i : Nat} {it : E} {l : List D} {t : T} (ok : okI pio env i = true) (h : itX Γ pio it env = some (l, env2)) (hf : forL (fun d e => ex Γ Δ pio n b (e.set i (some (.sh d)))) l env2 = some (.rt t, env3)) : ex Γ Δ pio n (.seq (.for1 i it b) k) env = some (.rt t, env3) := by
  rw [ex_seq, ex_for1, if_pos ok, h, obs, show forL (fun d e => ex Γ Δ pio n b (e.set i (some (.sh d)))) (l, env2).1 (l, env2).2 = _ from hf]; rfl
theorem is_row_no {L : List Nat} {d : D} {post l : List D} {n : Nat} (hl : l = nl L ++ d :: post) (hn : l.length = n) (hn2 : n ≤ 1000000) (hL : ∀ x ∈ L, x < n) (nd : L.Nodup) (hb : BadAt n L d) : g_is_row [.lst l] = some (.sh (.bl false)) := by
  subst hn
  have hs : startT ["value", "met", "thing"] [.lst l] = [some (.sh (.lst l)), none, none] := rfl
  have e1 : evX Γ1 none (.bin .Mult (.lst (.cons (.bl false) .nil)) (.un .len (.var 0))) [some (.sh (.lst l)), none, none] = some (.ow (((List.replicate l.length false).map D.bl).map T.sh), [some (.sh (.lst l)), none, none]) := by
    refine evX_flat rfl rfl ?_ (by simp)
    have : sz 1 = true := rfl
    simp [this, mul_false hn2, -List.map_replicate]
  have step : ∃ e', forL (fun d e => ex Γ1 Δ1 none 100 (.seq (.ifio true 100 1 (.cons (.var 2) (.cons (.var 1) .nil)) (.seq (.ret (.bl false)) .nop) .nop) .nop) (e.set 2 (some (.sh d)))) l [some (.sh (.lst l)), some (.ow (((List.replicate l.length false).map D.bl).map T.sh)), none] = some (.rt (.sh (.bl false)), e') := by
    conv => enter [1, e', 1, 2]; rw [hl]
    refine forL_stop (fun k e => ∃ met x, e = [some (.sh (.lst l)), some (.ow ((met.map D.bl).map T.sh)), x] ∧ Mk l.length (L.take k) met) (nl L) _ 0 ⟨_, _, rfl, by simpa using Mk.start _⟩ (fun k d e hd ⟨met, x, he, hm⟩ => ?_) (fun e ⟨met, x, he, hm⟩ => ?_)
    · subst he
      have hk : k < L.length := by simpa using (List.getElem?_eq_some_iff.mp hd).1
      obtain rfl : d = .int (L[k] : Nat) := by
        rw [nl, List.getElem?_map, List.getElem?_eq_getElem hk] at hd
        exact (Option.some.inj hd).symm
      rw [Nat.zero_add] at hm
      have hlt := hL L[k] (List.getElem_mem hk)
      have hnm : L[k] ∉ L.take k := fun z => by
        obtain ⟨j, hj, e⟩ := List.getElem_of_mem z
        rw [List.length_take] at hj
        rw [List.getElem_take] at e
        have := (List.getElem_inj nd).mp e
        omega
      have h0 : met.getD L[k] false = false := by rw [hm.at' _ hlt]; simpa using hnm
      refine ⟨[some (.sh (.lst l)), some (.ow (((met.set L[k] true).map D.bl).map T.sh)), some (.sh (.int (L[k] : Nat)))], ?_, _, _, rfl, ?_⟩
      · have hio := evIO_ok (Γ := Γ1) (Δ := Δ1) (f := 100) (i := 1) (args := .cons (.var 2) (.cons (.var 1) .nil)) (env := [some (.sh (.lst l)), some (.ow ((met.map D.bl).map T.sh)), some (.sh (.int (L[k] : Nat)))]) (ds := met.map D.bl) (l := [.int (L[k] : Nat), .lst (met.map D.bl)]) rfl rfl (by simp) rfl (first_met_ok (by rw [hm.len]; exact hlt) h0) rfl (all_scal_bls _)
        simp only [ex_seq, ex_ifio, List.set_cons_succ, List.set_cons_zero]
        rw [hio]
        rfl
      · have := hm.more hlt
        rw [Nat.zero_add]
        rwa [show L.take k ++ [L[k]] = L.take (k + 1) by rw [List.take_succ, List.getElem?_eq_getElem hk]; rfl] at this
    · subst he
      rw [Nat.zero_add, nl_length, List.take_length] at hm
      have hio := evIO_ok (Γ := Γ1) (Δ := Δ1) (f := 100) (i := 1) (args := .cons (.var 2) (.cons (.var 1) .nil)) (env := [some (.sh (.lst l)), some (.ow ((met.map D.bl).map T.sh)), some (.sh d)]) (ds := met.map D.bl) (l := [d, .lst (met.map D.bl)]) rfl rfl (by simp) rfl (first_met_no hm hb) rfl (all_scal_bls _)
      refine ⟨[some (.sh (.lst l)), some (.ow ((met.map D.bl).map T.sh)), some (.sh d)], ?_⟩
      simp only [ex_seq, ex_ifio, List.set_cons_succ, List.set_cons_zero]
      rw [hio]
      rfl
  obtain ⟨e', hf⟩ := step
  have hc : evB Γ1 (.not (.isi (.var 0) 2)) (dEnv [some (.sh (.lst l)), none, none]) = some false := rfl
  have hx : itX Γ1 none (.var 0) [some (.sh (.lst l)), some (.ow (((List.replicate l.length false).map D.bl).map T.sh)), none] = some (l, [some (.sh (.lst l)), some (.ow (((List.replicate l.length false).map D.bl).map T.sh)), none]) := rfl
  exact gP_rt rfl ((st_skip hc).trans ((st_asg rfl e1).trans (st_for1R rfl hx hf)))
section
variable {Γ : Tab} {Ξ : XT} {env : Env} {k f ar : Nat} {m t : E} {r a : R} {g : List D → Option Str} {l : List D} {y : Str} {d : D}
theorem gX_eq (h : l.length = ar) : gX Γ Ξ ar r l = rx Γ Ξ (l.map some) r := if_pos h
theorem rxC_eq (hk : Ξ k = some g) (he : evs Γ m env = some l) : rxC Γ Ξ env k m = g l := by unfold rxC; rw [hk, he]; rfl
theorem dr_no (hk : Ξ k = some g) (he : evs Γ m env = some l) (hg : g l = some y) : rx Γ Ξ env (.dr k f m r) = some y := by
  show (match rxC Γ Ξ env k m with | some x => some x | none => _) = _
  rw [rxC_eq hk he, hg]
theorem dr_go (hk : Ξ k = some g) (he : evs Γ m env = some l) (hg : g l = none) (hv : ev Γ (.call f m) env = some d) : rx Γ Ξ env (.dr k f m r) = rx Γ Ξ env r := by
  show (match rxC Γ Ξ env k m with | some x => some x | none => (ev Γ (.call f m) env).bind fun _ => rx Γ Ξ env r) = _
  rw [rxC_eq hk he, hg, hv]
  rfl
theorem if_t (h : evB Γ t env = some true) : rx Γ Ξ env (.ifr t a r) = rx Γ Ξ env a := by
  show (evB Γ t env).bind (fun b => if b = true then rx Γ Ξ env a else rx Γ Ξ env r) = _
  rw [h]; rfl
theorem if_f (h : evB Γ t env = some false) : rx Γ Ξ env (.ifr t a r) = rx Γ Ξ env r := by
  show (evB Γ t env).bind (fun b => if b = true then rx Γ Ξ env a else rx Γ Ξ env r) = _
  rw [h]; rfl
theorem xe_c (hk : Ξ k = some g) (he : evs Γ m env = some l) : rx Γ Ξ env (.xe (.call k m)) = g l := rxC_eq hk he
theorem xe_t {p q : RE} (h : evB Γ t env = some true) : rx Γ Ξ env (.xe (.ite t p q)) = rx Γ Ξ env (.xe p) := by
  show (evB Γ t env).bind (fun b => if b = true then rxE Γ Ξ env p else rxE Γ Ξ env q) = _
  rw [h]; rfl
theorem xe_f {p q : RE} (h : evB Γ t env = some false) : rx Γ Ξ env (.xe (.ite t p q)) = rx Γ Ξ env (.xe q) := by
  show (evB Γ t env).bind (fun b => if b = true then rxE Γ Ξ env p else rxE Γ Ξ env q) = _
  rw [h]; rfl
end
noncomputable def bRow : Str := "BadRow"
theorem need_no {d : D} (h : g_is_row [d] = some (.sh (.bl false))) : x_need_row [d] = some bRow := by
  have hw : Γ4 1 = some g_is_row := rfl
  unfold x_need_row r_need_row
  exact (gX_eq rfl).trans ((if_t (by simp [evB, hw, h])).trans rfl)
theorem need_yes {d : D} (h : g_is_row [d] = some (.sh (.bl true))) : x_need_row [d] = none := by
  have hw : Γ4 1 = some g_is_row := rfl
  unfold x_need_row r_need_row
  exact (gX_eq rfl).trans ((if_f (by simp [evB, hw, h])).trans rfl)
section
variable {d e : D} (h : g_is_row [d] = some (.sh (.bl false)))
include h
theorem behind_no : x_behind [d, e] = some bRow := (gX_eq rfl).trans (dr_no (l := [d]) rfl rfl (need_no h))
theorem back_no : x_back [d] = some bRow := (gX_eq rfl).trans (dr_no (l := [d]) rfl rfl (need_no h))
theorem wrong_no : x_wrong [d] = some bRow := (gX_eq rfl).trans (dr_no (l := [d]) rfl rfl (need_no h))
theorem rings_no : x_rings [d] = some bRow := (gX_eq rfl).trans (dr_no (l := [d]) rfl rfl (need_no h))
theorem times_no : x_times [d, e] = some bRow := (gX_eq rfl).trans (dr_no (l := [d]) rfl rfl (need_no h))
theorem turns_no : x_turns [d] = some bRow := (gX_eq rfl).trans (dr_no (l := [d]) rfl rfl (need_no h))
theorem written_no : x_written [d] = some bRow := (gX_eq rfl).trans (dr_no (l := [d]) rfl rfl (need_no h))
theorem exchanged_no : x_exchanged [d] = some bRow := (gX_eq rfl).trans (dr_no (l := [d]) rfl rfl (need_no h))
theorem fronted_no : x_fronted [d] = some bRow := (gX_eq rfl).trans (dr_no (l := [d]) rfl rfl (need_no h))
theorem ended_no : x_ended [d] = some bRow := (gX_eq rfl).trans (dr_no (l := [d]) rfl rfl (need_no h))
theorem put_no : x_put [d] = some bRow := (gX_eq rfl).trans (dr_no (l := [d]) rfl rfl (need_no h))
theorem behind_no2 : x_behind [nD [0], d] = some bRow := by
  have r0 : Bo.IsRow [0] := Bo.isRow_of (by decide) (by decide)
  have hw : Γ13 2 = some g_need_row := rfl
  refine (gX_eq rfl).trans ((dr_go (l := [nD [0]]) (d := .non) rfl rfl (need_yes (is_row_ok r0 (by decide))) ?_).trans (dr_no (l := [d]) rfl rfl (need_no h)))
  rw [ev_call, hw]
  show (g_need_row [nD [0]]).map strip = _
  rw [need_row_ok r0 (by decide)]
  rfl
theorem with_row_no (j : Nat) (hj : j < 12) : x__law_with_row [.int j, d] = some bRow := by
  refine (gX_eq rfl).trans ?_
  unfold r__law_with_row
  rcases j with _ | _ | _ | _ | _ | _ | _ | _ | _ | _ | _ | _ | j
  · exact ((if_t rfl).trans ((xe_t rfl).trans ((xe_c (k := 1) (l := [d, nD [0]]) rfl rfl).trans (behind_no h))))
  · exact ((if_t rfl).trans ((xe_f rfl).trans ((xe_c (k := 1) (l := [nD [0], d]) rfl rfl).trans (behind_no2 h))))
  · exact ((if_f rfl).trans ((if_t rfl).trans ((xe_t rfl).trans ((xe_c (k := 2) (l := [d]) rfl rfl).trans (back_no h)))))
  · exact ((if_f rfl).trans ((if_t rfl).trans ((xe_f rfl).trans ((xe_c (k := 3) (l := [d]) rfl rfl).trans (wrong_no h)))))
  · exact ((if_f rfl).trans ((if_f rfl).trans ((if_t rfl).trans ((xe_t rfl).trans ((xe_c (k := 4) (l := [d]) rfl rfl).trans (rings_no h))))))
  · exact ((if_f rfl).trans ((if_f rfl).trans ((if_t rfl).trans ((xe_f rfl).trans ((xe_t rfl).trans ((xe_c (k := 5) (l := [d, .non]) rfl rfl).trans (times_no h)))))))
  · exact ((if_f rfl).trans ((if_f rfl).trans ((if_t rfl).trans ((xe_f rfl).trans ((xe_f rfl).trans ((xe_t rfl).trans ((xe_c (k := 6) (l := [d]) rfl rfl).trans (turns_no h))))))))
  · exact ((if_f rfl).trans ((if_f rfl).trans ((if_t rfl).trans ((xe_f rfl).trans ((xe_f rfl).trans ((xe_f rfl).trans ((xe_c (k := 7) (l := [d]) rfl rfl).trans (written_no h))))))))
  · exact ((if_f rfl).trans ((if_f rfl).trans ((if_f rfl).trans ((xe_t rfl).trans ((xe_c (k := 8) (l := [d]) rfl rfl).trans (exchanged_no h))))))
  · exact ((if_f rfl).trans ((if_f rfl).trans ((if_f rfl).trans ((xe_f rfl).trans ((xe_t rfl).trans ((xe_c (k := 9) (l := [d]) rfl rfl).trans (fronted_no h)))))))
  · exact ((if_f rfl).trans ((if_f rfl).trans ((if_f rfl).trans ((xe_f rfl).trans ((xe_f rfl).trans ((xe_t rfl).trans ((xe_c (k := 10) (l := [d]) rfl rfl).trans (ended_no h))))))))
  · exact ((if_f rfl).trans ((if_f rfl).trans ((if_f rfl).trans ((xe_f rfl).trans ((xe_f rfl).trans ((xe_f rfl).trans ((xe_c (k := 11) (l := [d]) rfl rfl).trans (put_no h))))))))
  · omega
end
theorem compI {f : D → Option (Option D)} {h : D → D} : ∀ {l : List D}, (∀ x ∈ l, f x = some (some (h x))) → compR f l = some (l.map h)
  | [], _ => rfl
  | x :: l, hf => by
    show (f x).bind (fun o => (compR f l).map fun r => oc o r) = _
    rw [hf x (by simp), obs, compI fun y hy => hf y (by simp [hy])]
    rfl
theorem all_tt {α : Type} (l : List α) : unD .all (.lst (l.map fun _ => D.bl true)) = some (.bl true) := by
  have e : (l.map fun _ => D.bl true) = (l.map fun _ => true).map D.bl := by simp
  show (blsD _).map _ = _
  rw [e, blsD_map]
  simp
theorem comp_tt {Γ : Tab} {env : Env} {elt it : E} {is : List Nat} {α : Type} {l : List α} {ds : List D} (hi : ev Γ it env = some (.lst ds)) (hs : ds.length ≤ 1000000) (h : compR (fun d => (ev Γ elt (inner env is d)).map some) ds = some (l.map fun _ => D.bl true)) : ev Γ (.un .all (.comp elt is it .nil)) env = some (.bl true) := by
  rw [ev_un, ev_comp, hi]
  simp only [obs, walkD_lst, cS_nil]
  rw [if_pos (sz_of hs)]
  simp only [if_true]
  rw [h, Option.map_some, obs, all_tt]
theorem compAll {Γ : Tab} {env : Env} {elt it : E} {is : List Nat} {ds : List D} (hi : ev Γ it env = some (.lst ds)) (hs : ds.length ≤ 1000000) (h : ∀ d ∈ ds, ev Γ elt (inner env is d) = some (.bl true)) : ev Γ (.un .all (.comp elt is it .nil)) env = some (.bl true) :=
  comp_tt (l := ds) hi hs (compI fun d hd => by rw [h d hd]; rfl)
noncomputable def kD (y : Str) : D := .lst ((KD y).map D.bl)
noncomputable def kT (y : Str) : T := .ow (((KD y).map D.bl).map T.sh)
theorem kD_eq {y : Str} (h : y ∈ XN) : eqD (kD y) (kD y) = some true := by
  revert h
  revert y
  decide
theorem told_is {x : Str} {j : Nat} {g : List D → Option Str} {a b : D} {y : Str} (h1 : ξ17.lookup x = some j) (h2 : Ξ17 j = some g) (h3 : g [a, b] = some y) (h4 : y ∈ XN) : g__law_told [.fn x, a, b] = some (kT y) := by
  have h5 : XN.contains y = true := by simpa using h4
  show (ξ17.lookup x).bind (fun j => (Ξ17 j).bind fun g => (g [a, b]).bind fun y => if XN.contains y then some (T.ow (((KD y).map D.bl).map T.sh)) else none) = _
  rw [h1, obs, h2, obs, h3, obs, if_pos h5]
  rfl
theorem all_ok {x : Str} {doors things : List D} {y : Str} (hy : y ∈ XN) (hl : things.length ≤ 1000000) (h : ∀ d ∈ doors, ∀ t ∈ things, g__law_told [.fn x, d, t] = some (kT y)) : g__law_all [.fn x, .lst doors, .lst things, kD y] = some (.sh (.bl true)) := by
  have hw : Γ17 76 = some g__law_told := rfl
  obtain ⟨env', hf, z, rfl⟩ := forL_from (step := fun d e => ex Γ17 Δ3 none 100 (.seq (.ife (.not (.un .all (.comp (.cmp .Eq (.call 76 (.cons (.var 1) (.cons (.var 2) (.cons (.var 0) .nil)))) (.var 3)) [0, 4, 3] (.var 2) .nil))) (.seq (.ret (.bl false)) .nop) .nop) .nop) (e.set 4 (some (.sh d)))) (fun k e => ∃ z, e = [some (.sh (.fn x)), some (.sh (.lst doors)), some (.sh (.lst things)), some (.sh (kD y)), z]) (ds := doors) (env := [some (.sh (.fn x)), some (.sh (.lst doors)), some (.sh (.lst things)), some (.sh (kD y)), none]) ⟨_, rfl⟩ (fun k d e hd ⟨z, he⟩ => by
    subst he
    refine ⟨[some (.sh (.fn x)), some (.sh (.lst doors)), some (.sh (.lst things)), some (.sh (kD y)), some (.sh d)], ?_, _, rfl⟩
    have hc : evB Γ17 (.not (.un .all (.comp (.cmp .Eq (.call 76 (.cons (.var 1) (.cons (.var 2) (.cons (.var 0) .nil)))) (.var 3)) [0, 4, 3] (.var 2) .nil))) (dEnv [some (.sh (.fn x)), some (.sh (.lst doors)), some (.sh (.lst things)), some (.sh (kD y)), some (.sh d)]) = some false := by
      unfold evB
      rw [ev_not, compAll (ds := things) rfl hl fun t ht => ?_]
      · rfl
      · rw [ev_cmp, ev_call, hw]
        show (((g__law_told [.fn x, d, t]).map strip).bind fun a => (some (kD y)).bind fun b => cmpD .Eq a b) = _
        rw [h d (List.mem_of_getElem? hd) t ht, Option.map_some, obs, obs, show strip (kT y) = kD y from strip_ow _ ▸ by rw [map_strip_sh]; rfl, eq_dd, kD_eq hy]
        rfl
    show ex Γ17 Δ3 none 100 _ [some (.sh (.fn x)), some (.sh (.lst doors)), some (.sh (.lst things)), some (.sh (kD y)), some (.sh d)] = _
    rw [st_skip hc]
    rfl)
  have hx : itX Γ17 none (.var 1) [some (.sh (.fn x)), some (.sh (.lst doors)), some (.sh (.lst things)), some (.sh (kD y)), none] = some (doors, [some (.sh (.fn x)), some (.sh (.lst doors)), some (.sh (.lst things)), some (.sh (kD y)), none]) := rfl
  exact gP_rt rfl ((st_for1 rfl hx hf).trans (st_ret (by simp) (evX_bl _ _ _ _)))
noncomputable def bNum : Str := "BadNumber"
noncomputable def bRin : Str := "BadRings"
noncomputable def bUnl : Str := "Unlike"
noncomputable def NoW : D → Bool
  | .non => true | .bl _ => true | .str _ => true | .lst _ => true | .tup _ => true | .dic _ => true | _ => false
theorem noW_ok {d : D} (h : NoW d = true) : g_is_whole [d] = some (.sh (.bl false)) := by
  cases d <;> first | rfl | cases h
theorem times_num {d : D} (h : NoW d = true) : x_times [nD [1, 0], d] = some bNum := by
  have r0 : Bo.IsRow [1, 0] := Bo.isRow_of (by decide) (by decide)
  have hw : Γ13 2 = some g_need_row := rfl
  have hw0 : Γ13 0 = some g_is_whole := rfl
  refine (gX_eq rfl).trans ((dr_go (l := [nD [1, 0]]) (d := .non) rfl rfl (need_yes (is_row_ok r0 (by decide))) ?_).trans ((if_t ?_).trans rfl))
  · rw [ev_call, hw]
    show (g_need_row [nD [1, 0]]).map strip = _
    rw [need_row_ok r0 (by decide)]
    rfl
  · simp [evB, hw0, noW_ok h]
theorem num0_no {d : D} (h : NoW d = true) : x__law_with_number [.int 0, d] = some bNum := (gX_eq rfl).trans ((xe_t rfl).trans ((xe_c (k := 5) (l := [nD [1, 0], d]) rfl rfl).trans (times_num h)))
noncomputable def NoC : D → Bool
  | .int i => !decide (0 ≤ i ∧ i ≤ 1000000)
  | d => NoW d
theorem of_num {d e : D} (h : NoC d = true) : x_of_rings [d, e] = some bNum := by
  have hw0 : Γ13 0 = some g_is_whole := rfl
  refine (gX_eq rfl).trans ((if_t ?_).trans rfl)
  cases d with
  | int i =>
    have h' : ¬ (0 ≤ i ∧ i ≤ 1000000) := fun z => by rw [NoC, dtt z] at h; cases h
    by_cases h0 : 0 ≤ i
    · have h1 : ¬ i ≤ 1000000 := fun z => h' ⟨h0, z⟩
      simp [evB, hw0, h0, h1]
    · simp [evB, hw0, h0]
  | ins _ _ _ => cases h
  | fn _ => cases h
  | exc _ => cases h
  | non => simp [evB, hw0, noW_ok (d := .non) rfl]
  | bl b => simp [evB, hw0, noW_ok (d := .bl b) rfl]
  | str b => simp [evB, hw0, noW_ok (d := .str b) rfl]
  | lst b => simp [evB, hw0, noW_ok (d := .lst b) rfl]
  | tup b => simp [evB, hw0, noW_ok (d := .tup b) rfl]
  | dic b => simp [evB, hw0, noW_ok (d := .dic b) rfl]
theorem num1_no {d : D} (h : NoC d = true) : x__law_with_number [.int 1, d] = some bNum := (gX_eq rfl).trans ((xe_f rfl).trans ((xe_c (k := 12) (l := [d, .non]) rfl rfl).trans (of_num h)))
theorem rin_no {d : D} (h : g_are_parts [.int 3, d] = some (.sh (.bl false))) : x__law_with_rings [.int 0, d] = some bRin := by
  have hw : Γ13 3 = some g_are_parts := rfl
  refine (gX_eq rfl).trans ((xe_c (k := 12) (l := [.int 3, d]) rfl rfl).trans ((gX_eq rfl).trans ((if_f rfl).trans ((if_t ?_).trans rfl))))
  simp [evB, hw, h]
theorem two_no {a b : List Nat} (ha : Bo.IsRow a) (hb : Bo.IsRow b) (la : a.length ≤ 1000000) (lb : b.length ≤ 1000000) (ne : a.length ≠ b.length) : x__law_with_two [nD a, nD b] = some bUnl := by
  have hw : Γ13 2 = some g_need_row := rfl
  have hn : ∀ {r : List Nat}, Bo.IsRow r → r.length ≤ 1000000 → (g_need_row [nD r]).map strip = some .non := fun hr hl => by rw [need_row_ok hr hl]; rfl
  refine (gX_eq rfl).trans ((xe_c (k := 1) (l := [nD a, nD b]) rfl rfl).trans ((gX_eq rfl).trans ((dr_go (l := [nD a]) (d := .non) rfl rfl (need_yes (is_row_ok ha la)) ?_).trans ((dr_go (l := [nD b]) (d := .non) rfl rfl (need_yes (is_row_ok hb lb)) ?_).trans ((if_t ?_).trans rfl)))))
  · rw [ev_call, hw]; exact hn ha la
  · rw [ev_call, hw]; exact hn hb lb
  · have h2 : ¬ ((a.length : Int) = (b.length : Int)) := by omega
    simp [evB, nD, h2]
theorem parts_no : ∀ d ∈ ([.non, .tup [], .str "0", .dic [], .int 5, .lst [.non], .lst [.tup []], .lst [.lst []], .lst [.lst [.int 0], .lst []], .lst [.lst [.int 3]], .lst [.lst [.int (-1)]], .lst [.lst [.int 0, .int 0]], .lst [.lst [.int 0], .lst [.int 0]], .lst [.lst [.bl true, .int 0]], .lst [.lst [.str "0"]], .lst [.int 0, .int 1], .lst [.lst [.int 0, .int 1], .lst [.int 2, .int 1]], .lst [.tup [.int 0, .int 1]]] : List D), g_are_parts [.int 3, d] = some (.sh (.bl false)) := by
  intro d hd
  simp only [List.mem_cons, List.not_mem_nil, or_false] at hd
  rcases hd with rfl | rfl | rfl | rfl | rfl | rfl | rfl | rfl | rfl | rfl | rfl | rfl | rfl | rfl | rfl | rfl | rfl | rfl <;> rfl
theorem parts_far {x : Int} (hx : ¬ (0 ≤ x ∧ x < 3)) : g_are_parts [.int 3, .lst [.lst [.int x]]] = some (.sh (.bl false)) := by
  have m0 : Mk 3 [] (List.replicate 3 false) := Mk.start 3
  have fm := first_met_no (d := .int x) m0 (.inl hx)
  have hio : evIO Γ3 Δ1 100 2 (.cons (.var 4) (.cons (.var 2) .nil)) [some (.sh (.int 3)), some (.sh (.lst [.lst [.int x]])), some (.ow (((List.replicate 3 false).map D.bl).map T.sh)), some (.sh (.lst [.int x])), some (.sh (.int x))] = some (.sh (.bl false), [some (.sh (.int 3)), some (.sh (.lst [.lst [.int x]])), some (.ow (((List.replicate 3 false).map D.bl).map T.sh)), some (.sh (.lst [.int x])), some (.sh (.int x))]) :=
    evIO_ok (Γ := Γ3) (Δ := Δ1) (f := 100) (i := 2) (args := .cons (.var 4) (.cons (.var 2) .nil)) (ds := (List.replicate 3 false).map D.bl) (l := [.int x, .lst ((List.replicate 3 false).map D.bl)]) rfl rfl (by simp) rfl fm rfl (all_scal_bls _)
  have i1 : ex Γ3 Δ1 none 100 (.seq (.ifio true 100 2 (.cons (.var 4) (.cons (.var 2) .nil)) (.seq (.ret (.bl false)) .nop) .nop) .nop) [some (.sh (.int 3)), some (.sh (.lst [.lst [.int x]])), some (.ow (((List.replicate 3 false).map D.bl).map T.sh)), some (.sh (.lst [.int x])), some (.sh (.int x))] = some (.rt (.sh (.bl false)), [some (.sh (.int 3)), some (.sh (.lst [.lst [.int x]])), some (.ow (((List.replicate 3 false).map D.bl).map T.sh)), some (.sh (.lst [.int x])), some (.sh (.int x))]) := by
    simp only [ex_seq, ex_ifio]
    rw [hio]
    rfl
  have i2 : forL (fun d e => ex Γ3 Δ1 none 100 (.seq (.ifio true 100 2 (.cons (.var 4) (.cons (.var 2) .nil)) (.seq (.ret (.bl false)) .nop) .nop) .nop) (e.set 4 (some (.sh d)))) [.int x] [some (.sh (.int 3)), some (.sh (.lst [.lst [.int x]])), some (.ow (((List.replicate 3 false).map D.bl).map T.sh)), some (.sh (.lst [.int x])), none] = some (.rt (.sh (.bl false)), [some (.sh (.int 3)), some (.sh (.lst [.lst [.int x]])), some (.ow (((List.replicate 3 false).map D.bl).map T.sh)), some (.sh (.lst [.int x])), some (.sh (.int x))]) := by
    show (ex Γ3 Δ1 none 100 (.seq (.ifio true 100 2 (.cons (.var 4) (.cons (.var 2) .nil)) (.seq (.ret (.bl false)) .nop) .nop) .nop) [some (.sh (.int 3)), some (.sh (.lst [.lst [.int x]])), some (.ow (((List.replicate 3 false).map D.bl).map T.sh)), some (.sh (.lst [.int x])), some (.sh (.int x))]).bind _ = _
    rw [i1]
    rfl
  have i3 : ex Γ3 Δ1 none 100 (.seq (.ife (.or (.not (.isi (.var 3) 2)) (.cmp .Eq (.un .len (.var 3)) (.int 0))) (.seq (.ret (.bl false)) .nop) .nop) (.seq (.for1 4 (.var 3) (.seq (.ifio true 100 2 (.cons (.var 4) (.cons (.var 2) .nil)) (.seq (.ret (.bl false)) .nop) .nop) .nop)) .nop)) [some (.sh (.int 3)), some (.sh (.lst [.lst [.int x]])), some (.ow (((List.replicate 3 false).map D.bl).map T.sh)), some (.sh (.lst [.int x])), none] = some (.rt (.sh (.bl false)), [some (.sh (.int 3)), some (.sh (.lst [.lst [.int x]])), some (.ow (((List.replicate 3 false).map D.bl).map T.sh)), some (.sh (.lst [.int x])), some (.sh (.int x))]) := (st_skip rfl).trans (st_for1R rfl rfl i2)
  have i4 : forL (fun d e => ex Γ3 Δ1 none 100 (.seq (.ife (.or (.not (.isi (.var 3) 2)) (.cmp .Eq (.un .len (.var 3)) (.int 0))) (.seq (.ret (.bl false)) .nop) .nop) (.seq (.for1 4 (.var 3) (.seq (.ifio true 100 2 (.cons (.var 4) (.cons (.var 2) .nil)) (.seq (.ret (.bl false)) .nop) .nop) .nop)) .nop)) (e.set 3 (some (.sh d)))) [.lst [.int x]] [some (.sh (.int 3)), some (.sh (.lst [.lst [.int x]])), some (.ow (((List.replicate 3 false).map D.bl).map T.sh)), none, none] = some (.rt (.sh (.bl false)), [some (.sh (.int 3)), some (.sh (.lst [.lst [.int x]])), some (.ow (((List.replicate 3 false).map D.bl).map T.sh)), some (.sh (.lst [.int x])), some (.sh (.int x))]) := by
    show (ex Γ3 Δ1 none 100 (.seq (.ife (.or (.not (.isi (.var 3) 2)) (.cmp .Eq (.un .len (.var 3)) (.int 0))) (.seq (.ret (.bl false)) .nop) .nop) (.seq (.for1 4 (.var 3) (.seq (.ifio true 100 2 (.cons (.var 4) (.cons (.var 2) .nil)) (.seq (.ret (.bl false)) .nop) .nop) .nop)) .nop)) [some (.sh (.int 3)), some (.sh (.lst [.lst [.int x]])), some (.ow (((List.replicate 3 false).map D.bl).map T.sh)), some (.sh (.lst [.int x])), none]).bind _ = _
    rw [i3]
    rfl
  exact gP_rt rfl ((st_skip rfl).trans ((st_asg (t := .ow (((List.replicate 3 false).map D.bl).map T.sh)) rfl rfl).trans (st_for1R rfl rfl i4)))
noncomputable def dueT : T := .ow [kT bRow, kT bNum, kT bRin, kT bUnl]
noncomputable abbrev lE (ns : List Int) (far : Int) (r : List Nat) (a3 a7 a8 a9 a10 : Option T) : TEnv := [some (.sh (iD ns)), some (.sh (.int far)), some dueT, a3, some (nT r), some (.sh (.int r.length)), some (nT r), a7, a8, a9, a10]
theorem far_ok (ns : List Int) : ∃ far : Int, 0 ≤ far ∧ ∀ rest : TEnv, evX Γ18 none (.bin .Mod (.call 50 (.cons (.var 0) (.cons (.int 0) .nil))) (.bin .Pow (.int 10) (.int 6))) (some (.sh (iD ns)) :: rest) = some (.sh (.int far), some (.sh (iD ns)) :: rest) := by
  obtain ⟨v, hv⟩ := cell_ok ns 0
  have hw : Γ18 50 = some g__law_cell_at := rfl
  refine ⟨v % 1000000, Int.emod_nonneg _ (by decide), fun rest => evX_scal rfl ?_ rfl⟩
  rw [ev_bin, ev_call, hw]
  show ((g__law_cell_at [iD ns, .int ((0 : Nat) : Int)]).map strip).bind _ = _
  rw [hv]
  exact mod_pos v (b := 1000000) (by decide)
noncomputable def base (far : Int) : List D := [.non, .tup [], .tup [.int 0], .str "0", .dic [], .int 0, .lst [.non], .lst [.str "0"], .lst [.bl true], .lst [.int 1], .lst [.int (-1)], .lst [.int 0, .int 0], .lst [.int 1, .int 1], .lst [.int 0, .int 2], .lst [.int 0, .int (2 + far)], .lst [.lst [.int 0]]]
theorem base_no {far : Int} (hf : 0 ≤ far) : ∀ d ∈ base far, g_is_row [d] = some (.sh (.bl false)) := by
  intro d hd
  simp only [base, List.mem_cons, List.not_mem_nil, or_false] at hd
  rcases hd with rfl | rfl | rfl | rfl | rfl | rfl | rfl | rfl | rfl | rfl | rfl | rfl | rfl | rfl | rfl | rfl
  · rfl
  · rfl
  · rfl
  · rfl
  · rfl
  · rfl
  · rfl
  · rfl
  · rfl
  · rfl
  · rfl
  · rfl
  · rfl
  · rfl
  · exact is_row_no (L := [0]) (d := .int (2 + far)) (post := []) (n := 2) rfl rfl (by decide) (by decide) (by decide) (.inl (by omega))
  · rfl
section
variable {ns : List Int} {far : Int} {r : List Nat} {a3 a7 a9 a10 : Option T}
theorem lE_d {a8 : Option T} : dEnv (lE ns far r a3 a7 a8 a9 a10) = [some (iD ns), some (.int far), some (.lst [kD bRow, kD bNum, kD bRin, kD bUnl]), a3.map strip, some (nD r), some (.int r.length), some (nD r), a7.map strip, a8.map strip, a9.map strip, a10.map strip] := by
  have h : strip dueT = .lst [kD bRow, kD bNum, kD bRin, kD bUnl] := by
    unfold dueT
    rw [strip_ow]
    simp only [List.map_cons, List.map_nil]
    unfold kT kD
    simp only [strip_ow, map_strip_sh]
  simp [dEnv_cons, dEnv_nil, h]
noncomputable abbrev xBad : E := .idx (.tup (.cons .non (.cons (.str "1") (.cons (.var 5) (.cons (.bin .Add (.var 5) (.var 1)) (.cons (.un .neg (.int 1)) (.cons (.bin .Add (.var 5) (.int 1)) .nil))))))) (.bin .Mod (.var 8) (.int 6))
noncomputable abbrev xApp : E := .bin .Add (.bin .Add (.cut (.var 4) .nil (.var 8)) (.lst (.cons xBad .nil))) (.cut (.var 4) (.bin .Add (.var 8) (.int 1)) .nil)
theorem bad_ok {p : Nat} {L : List Nat} (hf : 0 ≤ far) {e1 e2 e3 e4 e5 e6 : Option D} {tl : List (Option D)} : ∃ b, ev Γ18 xBad (e1 :: some (.int far) :: e2 :: e3 :: e4 :: some (.int r.length) :: e5 :: e6 :: some (.int (p : Nat)) :: tl) = some b ∧ scal b = true ∧ BadAt r.length L b := by
  have hm : (p : Int) % 6 = ((p % 6 : Nat) : Int) := by omega
  have ht : ev Γ18 (.tup (.cons .non (.cons (.str "1") (.cons (.var 5) (.cons (.bin .Add (.var 5) (.var 1)) (.cons (.un .neg (.int 1)) (.cons (.bin .Add (.var 5) (.int 1)) .nil))))))) (e1 :: some (.int far) :: e2 :: e3 :: e4 :: some (.int r.length) :: e5 :: e6 :: some (.int (p : Nat)) :: tl) = some (.tup [.non, .str "1", .int r.length, .int (r.length + far), .int (-1), .int (r.length + 1)]) := rfl
  rw [ev_idx, ht, obs, ev_bin]
  show ∃ b, ((binD .Mod (.int (p : Nat)) (.int 6)).bind fun y => idxD _ y) = some b ∧ _
  rw [mod_pos _ (by decide), obs, idx_tup, hm]
  have h6 : p % 6 < 6 := Nat.mod_lt _ (by decide)
  generalize p % 6 = q at h6
  rcases q with _ | _ | _ | _ | _ | _ | q
  · exact ⟨.non, rfl, rfl, trivial⟩
  · exact ⟨.str "1", rfl, rfl, trivial⟩
  · exact ⟨.int r.length, rfl, rfl, .inl (by omega)⟩
  · exact ⟨.int (r.length + far), rfl, rfl, .inl (by omega)⟩
  · exact ⟨.int (-1), rfl, rfl, .inl (by omega)⟩
  · exact ⟨.int (r.length + 1), rfl, rfl, .inl (by omega)⟩
  · omega
theorem app_ok (h : Bo.IsRow r) (hl : r.length ≤ 63) (hf : 0 ≤ far) {p : Nat} (hp : p < r.length) : ∃ l : List D, evX Γ18 none xApp (lE ns far r a3 a7 (some (.sh (.int (p : Nat)))) a9 a10) = some (.ow (l.map T.sh), lE ns far r a3 a7 (some (.sh (.int (p : Nat)))) a9 a10) ∧ g_is_row [.lst l] = some (.sh (.bl false)) := by
  obtain ⟨b, hb, hs, hB⟩ := bad_ok (r := r) (p := p) (L := r.take p) hf (e1 := some (iD ns)) (e2 := some (.lst [kD bRow, kD bNum, kD bRin, kD bUnl])) (e3 := a3.map strip) (e4 := some (nD r)) (e5 := some (nD r)) (e6 := a7.map strip) (tl := [a9.map strip, a10.map strip])
  refine ⟨nl (r.take p) ++ b :: nl (r.drop (p + 1)), evX_flat rfl rfl ?_ ?_, is_row_no (L := r.take p) rfl (n := r.length) ?_ (by omega) (fun x hx => ?_) ?_ hB⟩
  · rw [lE_d, show Option.map strip (some (T.sh (.int (p : Nat)))) = some (.int (p : Nat)) from rfl]
    have c1 : ev Γ18 (.cut (.var 4) .nil (.var 8)) [some (iD ns), some (.int far), some (.lst [kD bRow, kD bNum, kD bRin, kD bUnl]), a3.map strip, some (nD r), some (.int r.length), some (nD r), a7.map strip, some (.int (p : Nat)), a9.map strip, a10.map strip] = some (.lst (nl (r.take p))) := by
      show some (D.lst (cutL (nl r) none (some (p : Int)))) = _
      rw [cut_hi (by omega)]
    have c2 : ev Γ18 (.cut (.var 4) (.bin .Add (.var 8) (.int 1)) .nil) [some (iD ns), some (.int far), some (.lst [kD bRow, kD bNum, kD bRin, kD bUnl]), a3.map strip, some (nD r), some (.int r.length), some (nD r), a7.map strip, some (.int (p : Nat)), a9.map strip, a10.map strip] = some (.lst (nl (r.drop (p + 1)))) := by
      show some (D.lst (cutL (nl r) (some ((p : Int) + 1)) none)) = _
      rw [show (p : Int) + 1 = ((p + 1 : Nat) : Int) by omega, cut_lo (by omega)]
    have c3 : ev Γ18 (.lst (.cons xBad .nil)) [some (iD ns), some (.int far), some (.lst [kD bRow, kD bNum, kD bRin, kD bUnl]), a3.map strip, some (nD r), some (.int r.length), some (nD r), a7.map strip, some (.int (p : Nat)), a9.map strip, a10.map strip] = some (.lst [b]) := by
      rw [ev_lst, ev_cons, hb]
      rfl
    rw [ev_bin, ev_bin, c1, c3, c2, obs, obs, add_ll, if_pos (sz_of (by simp; omega)), obs, obs, add_ll, if_pos (sz_of (by simp; omega))]
    simp
  · simp [hs]
  · simp; omega
  · exact h.mem.mp (List.mem_of_mem_take hx)
  · exact (List.take_sublist _ _).nodup h.nodup
noncomputable abbrev bLoop : S := .seq (.app 7 xApp) .nop
theorem loop_ok (h : Bo.IsRow r) (hl : r.length ≤ 63) (hf : 0 ≤ far) {ts : List T} (ht : ∀ t ∈ ts, g_is_row [strip t] = some (.sh (.bl false))) (hn : ts.length = 16) : ∃ ts' a8', forL (fun d e => ex Γ18 Δ3 none 100 bLoop (e.set 8 (some (.sh d)))) ((List.range (steps r.length (1 + (r.length : Int) / 6))).map fun (i : Nat) => D.int (0 + i * (1 + (r.length : Int) / 6))) (lE ns far r a3 (some (.ow ts)) none a9 a10) = some (.nx, lE ns far r a3 (some (.ow ts')) a8' a9 a10) ∧ (∀ t ∈ ts', g_is_row [strip t] = some (.sh (.bl false))) ∧ ts'.length ≤ 79 := by
  have hd : (1 : Int) ≤ 1 + (r.length : Int) / 6 := by omega
  have hs := steps_le hd (show (0 : Int) ≤ r.length by omega)
  obtain ⟨env', hfl, ts', a8', rfl, h1, h2⟩ := forL_from (step := fun d e => ex Γ18 Δ3 none 100 bLoop (e.set 8 (some (.sh d)))) (fun k e => ∃ ts' a8', e = lE ns far r a3 (some (.ow ts')) a8' a9 a10 ∧ (∀ t ∈ ts', g_is_row [strip t] = some (.sh (.bl false))) ∧ ts'.length = 16 + k) (ds := (List.range (steps r.length (1 + (r.length : Int) / 6))).map fun (i : Nat) => D.int (0 + i * (1 + (r.length : Int) / 6))) (env := lE ns far r a3 (some (.ow ts)) none a9 a10) ⟨ts, none, rfl, ht, hn⟩ (fun k d e hd' ⟨ts1, a8, he, q1, q2⟩ => by
    subst he
    have hk : k < steps r.length (1 + (r.length : Int) / 6) := by simpa using (List.getElem?_eq_some_iff.mp hd').1
    rw [List.getElem?_map, List.getElem?_range hk] at hd'
    have hd2 := Option.some.inj hd'
    have hpos : 0 < r.length := by
      unfold steps at hk
      split at hk
      · omega
      · omega
    have hp : k * (1 + r.length / 6) < r.length := by
      unfold steps at hk
      rw [if_pos (by omega)] at hk
      have e1 : (k : Int) ≤ ((r.length : Int) - 1) / (1 + (r.length : Int) / 6) := by omega
      have e2 := Int.mul_le_of_le_ediv (by omega) e1
      have e3 : ((k * (1 + r.length / 6) : Nat) : Int) = (k : Int) * (1 + (r.length : Int) / 6) := by
        rw [Int.natCast_mul, Int.natCast_add, Int.natCast_ediv]
        rfl
      omega
    have e4 : (0 : Int) + (k : Int) * (1 + (r.length : Int) / 6) = ((k * (1 + r.length / 6) : Nat) : Int) := by
      rw [Int.natCast_mul, Int.natCast_add, Int.natCast_ediv, Int.zero_add]
      rfl
    have hd3 : d = .int ((k * (1 + r.length / 6) : Nat) : Int) := by rw [← hd2]; exact congrArg D.int e4
    subst hd3
    obtain ⟨l, x1, x2⟩ := app_ok (ns := ns) (a3 := a3) (a7 := some (.ow ts1)) (a9 := a9) (a10 := a10) h hl hf hp
    refine ⟨lE ns far r a3 (some (.ow (ts1 ++ [.ow (l.map T.sh)]))) (some (.sh (.int ((k * (1 + r.length / 6) : Nat) : Int)))) a9 a10, ?_, _, _, rfl, fun t ht => ?_, by simp [q2]; omega⟩
    · show ex Γ18 Δ3 none 100 bLoop (lE ns far r a3 (some (.ow ts1)) (some (.sh (.int ((k * (1 + r.length / 6) : Nat) : Int)))) a9 a10) = _
      exact (st_app x1 rfl (sz_of (by omega))).trans rfl
    · rcases List.mem_append.mp ht with ht | ht
      · exact q1 t ht
      · rw [show t = .ow (l.map T.sh) by simpa using ht, strip_ow, map_strip_sh]
        exact x2)
  exact ⟨ts', a8', hfl, h1, by
    have : ((List.range (steps r.length (1 + (r.length : Int) / 6))).map fun (i : Nat) => D.int (0 + i * (1 + (r.length : Int) / 6))).length = steps r.length (1 + (r.length : Int) / 6) := by simp
    rw [h2, this]
    omega⟩
end
theorem div_pos' (a : Int) {b : Int} (h : decide (0 < b ∧ b < 1073741824) = true) : binD .FloorDiv (.int a) (.int b) = some (.int (a / b)) := by
  show (if decide (0 < b ∧ b < 1073741824) = true then some (D.int (a / b)) else none) = _
  rw [if_pos h]
section
variable {ns : List Int} {far : Int} {r : List Nat} {a3 a7 a8 a9 a10 : Option T}
theorem steps_it (hl : r.length ≤ 63) : itX Γ18 none (.rngS (.var 5) (.bin .Add (.int 1) (.bin .FloorDiv (.var 5) (.int 6)))) (lE ns far r a3 a7 a8 a9 a10) = some ((List.range (steps r.length (1 + (r.length : Int) / 6))).map fun (i : Nat) => D.int (0 + i * (1 + (r.length : Int) / 6)), lE ns far r a3 a7 a8 a9 a10) := by
  unfold itX
  rw [if_pos (show isRng (.rngS (.var 5) (.bin .Add (.int 1) (.bin .FloorDiv (.var 5) (.int 6)))) = true from rfl)]
  have e : its Γ18 (.rngS (.var 5) (.bin .Add (.int 1) (.bin .FloorDiv (.var 5) (.int 6)))) (dEnv (lE ns far r a3 a7 a8 a9 a10)) = some ((List.range (steps r.length (1 + (r.length : Int) / 6))).map fun (i : Nat) => D.int (0 + i * (1 + (r.length : Int) / 6))) := by
    rw [lE_d]
    show (((binD .FloorDiv (.int r.length) (.int 6)).bind fun y => binD .Add (.int 1) y).bind fun y => stpD (.int r.length) y).bind walkD = _
    rw [div_pos' _ (by decide)]
    show (if decide (0 ≤ (r.length : Int) ∧ (r.length : Int) ≤ 1000 ∧ 1 ≤ 1 + (r.length : Int) / 6 ∧ 1 + (r.length : Int) / 6 ≤ 1000) = true then some (D.lst ((List.range (steps r.length (1 + (r.length : Int) / 6))).map fun (i : Nat) => D.int (0 + i * (1 + (r.length : Int) / 6)))) else none).bind walkD = _
    rw [if_pos (dtt (by omega))]
    rfl
  rw [e]
  rfl
theorem last_ok (h : Bo.IsRow r) (hl : r.length ≤ 63) (hp : 0 < r.length) : ∃ l : List D, evX Γ18 none (.bin .Add (.var 4) (.lst (.cons (.idx (.var 4) (.bin .FloorDiv (.var 5) (.int 2))) .nil))) (lE ns far r a3 a7 a8 a9 a10) = some (.ow (l.map T.sh), lE ns far r a3 a7 a8 a9 a10) ∧ g_is_row [.lst l] = some (.sh (.bl false)) := by
  have hq : r.length / 2 < r.length := by omega
  refine ⟨nl r ++ [.int (Bo.ap r (r.length / 2) : Nat)], evX_flat rfl rfl ?_ (by simp), is_row_no (L := r) (d := .int (Bo.ap r (r.length / 2) : Nat)) (post := []) rfl (n := r.length + 1) (by simp) (by omega) (fun x hx => by have := h.mem.mp hx; omega) h.nodup (.inr ⟨_, h.mem.mpr (h.lt hq), rfl, by have := h.lt hq; omega⟩)⟩
  rw [lE_d]
  have c1 : ev Γ18 (.idx (.var 4) (.bin .FloorDiv (.var 5) (.int 2))) [some (iD ns), some (.int far), some (.lst [kD bRow, kD bNum, kD bRin, kD bUnl]), a3.map strip, some (nD r), some (.int r.length), some (nD r), a7.map strip, a8.map strip, a9.map strip, a10.map strip] = some (.int (Bo.ap r (r.length / 2) : Nat)) := by
    show (binD .FloorDiv (.int r.length) (.int 2)).bind (fun y => idxD (nD r) y) = _
    rw [div_pos' _ (by decide), obs, show (r.length : Int) / 2 = ((r.length / 2 : Nat) : Int) by omega]
    exact nl_at hq
  rw [ev_bin, ev_lst, ev_cons, c1]
  show (((szL (.lst [.int (Bo.ap r (r.length / 2) : Nat)])).bind fun y => binD .Add (nD r) y)) = _
  rw [szL_lst, if_pos (sz_of (by simp)), obs]
  show binD .Add (.lst (nl r)) (.lst [.int (Bo.ap r (r.length / 2) : Nat)]) = _
  rw [add_ll, if_pos (sz_of (by simp; omega))]
end
noncomputable def nums (far : Int) : List D := [.non, .str "1", .int (-1), .int (-1 - far), .int 1000001, .int (1000001 + far), .bl true, .lst [.int 1]]
theorem nums_no {far : Int} (hf : 0 ≤ far) : ∀ d ∈ nums far, NoC d = true := by
  intro d hd
  simp only [nums, List.mem_cons, List.not_mem_nil, or_false] at hd
  rcases hd with rfl | rfl | rfl | rfl | rfl | rfl | rfl | rfl
  · rfl
  · rfl
  · rfl
  · simp [NoC]; omega
  · rfl
  · simp [NoC]; omega
  · rfl
  · rfl
noncomputable def pars (far : Int) : List D := [.non, .tup [], .str "0", .dic [], .int 5, .lst [.non], .lst [.tup []], .lst [.lst []], .lst [.lst [.int 0], .lst []], .lst [.lst [.int 3]], .lst [.lst [.int (3 + far)]], .lst [.lst [.int (-1)]], .lst [.lst [.int 0, .int 0]], .lst [.lst [.int 0], .lst [.int 0]]]
noncomputable def pars2 : List D := [.lst [.lst [.bl true, .int 0]], .lst [.lst [.str "0"]], .lst [.int 0, .int 1], .lst [.lst [.int 0, .int 1], .lst [.int 2, .int 1]], .lst [.tup [.int 0, .int 1]]]
theorem pars_no {far : Int} (hf : 0 ≤ far) : ∀ d ∈ pars far ++ pars2, g_are_parts [.int 3, d] = some (.sh (.bl false)) := by
  intro d hd
  simp only [pars, pars2, List.cons_append, List.nil_append, List.mem_cons, List.not_mem_nil, or_false] at hd
  by_cases e : d = .lst [.lst [.int (3 + far)]]
  · rw [e]; exact parts_far (by omega)
  · exact parts_no d (by
      simp only [List.mem_cons, List.not_mem_nil, or_false]
      simp only [e, false_or] at hd
      exact hd)
noncomputable abbrev mBase : E := .lst (.cons .non (.cons (.tup .nil) (.cons (.tup (.cons (.int 0) .nil)) (.cons (.str "0") (.cons .dic0 (.cons (.int 0) (.cons (.lst (.cons .non .nil)) (.cons (.lst (.cons (.str "0") .nil)) (.cons (.lst (.cons (.bl true) .nil)) (.cons (.lst (.cons (.int 1) .nil)) (.cons (.lst (.cons (.un .neg (.int 1)) .nil)) (.cons (.lst (.cons (.int 0) (.cons (.int 0) .nil))) (.cons (.lst (.cons (.int 1) (.cons (.int 1) .nil))) (.cons (.lst (.cons (.int 0) (.cons (.int 2) .nil))) (.cons (.lst (.cons (.int 0) (.cons (.bin .Add (.int 2) (.var 1)) .nil))) (.cons (.lst (.cons (.lst (.cons (.int 0) .nil)) .nil)) .nil))))))))))))))))
theorem base_is {ns : List Int} {far : Int} {rest : TEnv} : evX Γ18 none mBase (some (.sh (iD ns)) :: some (.sh (.int far)) :: rest) = some (.ow ((base far).map T.sh), some (.sh (iD ns)) :: some (.sh (.int far)) :: rest) := by
  rw [evX_other rfl]
  have e : ∀ env : Env, ev Γ18 mBase (some (iD ns) :: some (.int far) :: env) = some (.lst (base far)) := fun _ => rfl
  rw [dEnv_cons, dEnv_cons]
  show (ev Γ18 mBase (some (iD ns) :: some (.int far) :: dEnv rest)).bind _ = _
  rw [e, obs, if_neg (show ¬ (scal (.lst (base far)) = true) from fnt)]
  rfl
theorem due_is {ns : List Int} {far : Int} : forL (fun d e => ex Γ18 Δ3 none 100 (.seq (.app 2 (.lst (.cons (.cmp .Eq (.var 3) (.int 0)) (.cons (.cmp .Eq (.var 3) (.int 1)) (.cons (.cmp .Eq (.var 3) (.int 2)) (.cons (.cmp .Eq (.var 3) (.int 3)) (.cons (.bl false) (.cons (.bl true) .nil)))))))) .nop) (e.set 3 (some (.sh d)))) [.int 0, .int 1, .int 2, .int 3] [some (.sh (iD ns)), some (.sh (.int far)), some (.ow []), none, none, none, none, none, none, none, none] = some (.nx, [some (.sh (iD ns)), some (.sh (.int far)), some dueT, some (.sh (.int 3)), none, none, none, none, none, none, none]) := by
  rfl
noncomputable abbrev mNums : E := (.lst (.cons .non (.cons (.str "1") (.cons (.un .neg (.int 1)) (.cons (.bin .Sub (.un .neg (.int 1)) (.var 1)) (.cons (.int 1000001) (.cons (.bin .Add (.int 1000001) (.var 1)) (.cons (.bl true) (.cons (.lst (.cons (.int 1) .nil)) .nil)))))))))
noncomputable abbrev mPars : E := (.lst (.cons .non (.cons (.tup .nil) (.cons (.str "0") (.cons .dic0 (.cons (.int 5) (.cons (.lst (.cons .non .nil)) (.cons (.lst (.cons (.tup .nil) .nil)) (.cons (.lst (.cons (.lst .nil) .nil)) (.cons (.lst (.cons (.lst (.cons (.int 0) .nil)) (.cons (.lst .nil) .nil))) (.cons (.lst (.cons (.lst (.cons (.int 3) .nil)) .nil)) (.cons (.lst (.cons (.lst (.cons (.bin .Add (.int 3) (.var 1)) .nil)) .nil)) (.cons (.lst (.cons (.lst (.cons (.un .neg (.int 1)) .nil)) .nil)) (.cons (.lst (.cons (.lst (.cons (.int 0) (.cons (.int 0) .nil))) .nil)) (.cons (.lst (.cons (.lst (.cons (.int 0) .nil)) (.cons (.lst (.cons (.int 0) .nil)) .nil))) .nil)))))))))))))))
noncomputable abbrev mPar2 : E := (.bin .Add (.var 10) (.lst (.cons (.lst (.cons (.lst (.cons (.bl true) (.cons (.int 0) .nil))) .nil)) (.cons (.lst (.cons (.lst (.cons (.str "0") .nil)) .nil)) (.cons (.lst (.cons (.int 0) (.cons (.int 1) .nil))) (.cons (.lst (.cons (.lst (.cons (.int 0) (.cons (.int 1) .nil))) (.cons (.lst (.cons (.int 2) (.cons (.int 1) .nil))) .nil))) (.cons (.lst (.cons (.tup (.cons (.int 0) (.cons (.int 1) .nil))) .nil)) .nil)))))))
noncomputable abbrev mFin : E := (.and (.cmp .Eq (.var 4) (.var 6)) (.and (.cmp .Eq (.call 16 (.cons (.int 0) (.cons (.lst .nil) .nil))) (.lst .nil)) (.and (.cmp .Eq (.call 9 (.cons (.lst .nil) .nil)) (.lst .nil)) (.and (.cmp .Eq (.call 19 (.cons (.lst .nil) .nil)) (.int 1)) (.cmp .Eq (.call 14 (.cons (.lst .nil) .nil)) (.lst .nil))))))
noncomputable abbrev mC1 : E := (.not (.call 77 (.cons (.gfn "_law_with_row") (.cons (.un .lrng (.int 12)) (.cons (.var 7) (.cons (.idx (.var 2) (.int 0)) .nil))))))
noncomputable abbrev mC2 : E := (.not (.call 77 (.cons (.gfn "_law_with_number") (.cons (.lst (.cons (.int 0) .nil)) (.cons (.lst (.cons .non (.cons (.str "1") (.cons (.bl true) (.cons (.lst (.cons (.int 1) .nil)) (.cons (.tup (.cons (.int 1) .nil)) .nil)))))) (.cons (.idx (.var 2) (.int 1)) .nil))))))
noncomputable abbrev mC3 : E := (.not (.call 77 (.cons (.gfn "_law_with_number") (.cons (.lst (.cons (.int 1) .nil)) (.cons (.var 9) (.cons (.idx (.var 2) (.int 1)) .nil))))))
noncomputable abbrev mC4 : E := (.not (.call 77 (.cons (.gfn "_law_with_rings") (.cons (.lst (.cons (.int 0) .nil)) (.cons (.var 10) (.cons (.idx (.var 2) (.int 2)) .nil))))))
noncomputable abbrev mTwo : E := (.or (.cmp .NotEq (.call 76 (.cons (.gfn "_law_with_two") (.cons (.var 4) (.cons (.bin .Add (.var 4) (.lst (.cons (.var 5) .nil))) .nil)))) (.idx (.var 2) (.int 3))) (.cmp .NotEq (.call 76 (.cons (.gfn "_law_with_two") (.cons (.bin .Add (.var 4) (.lst (.cons (.var 5) .nil))) (.cons (.var 4) .nil)))) (.idx (.var 2) (.int 3))))
theorem nums_is {ns : List Int} {far : Int} {rest : TEnv} : evX Γ18 none mNums (some (.sh (iD ns)) :: some (.sh (.int far)) :: rest) = some (.ow ((nums far).map T.sh), some (.sh (iD ns)) :: some (.sh (.int far)) :: rest) := by
  rw [evX_other rfl]
  have e : ∀ env : Env, ev Γ18 mNums (some (iD ns) :: some (.int far) :: env) = some (.lst (nums far)) := fun _ => rfl
  rw [dEnv_cons, dEnv_cons]
  show (ev Γ18 mNums (some (iD ns) :: some (.int far) :: dEnv rest)).bind _ = _
  rw [e, obs, if_neg (show ¬ (scal (.lst (nums far)) = true) from fnt)]
  rfl
theorem pars_is {ns : List Int} {far : Int} {rest : TEnv} : evX Γ18 none mPars (some (.sh (iD ns)) :: some (.sh (.int far)) :: rest) = some (.ow ((pars far).map T.sh), some (.sh (iD ns)) :: some (.sh (.int far)) :: rest) := by
  rw [evX_other rfl]
  have e : ∀ env : Env, ev Γ18 mPars (some (iD ns) :: some (.int far) :: env) = some (.lst (pars far)) := fun _ => rfl
  rw [dEnv_cons, dEnv_cons]
  show (ev Γ18 mPars (some (iD ns) :: some (.int far) :: dEnv rest)).bind _ = _
  rw [e, obs, if_neg (show ¬ (scal (.lst (pars far)) = true) from fnt)]
  rfl
section
variable {ns : List Int} {far : Int} {r : List Nat} {a3 a7 a8 a9 a10 : Option T}
theorem pars2_is : evX Γ18 none mPar2 (lE ns far r a3 a7 a8 a9 (some (.ow ((pars far).map T.sh)))) = some (.ow ((pars far ++ pars2).map T.sh), lE ns far r a3 a7 a8 a9 (some (.sh (.lst (pars far))))) := by
  rfl
theorem c_all {args : E} {env : Env} {l : List D} (he : evs Γ18 args env = some l) (h : g__law_all l = some (.sh (.bl true))) : evB Γ18 (.not (.call 77 args)) env = some false := by
  have hw : Γ18 77 = some g__law_all := rfl
  have he' : (ev Γ18 args env).bind listD = some l := he
  unfold evB
  rw [ev_not, ev_call, hw, obs, he', obs, h]
  rfl
theorem e1_ok {ts : List T} (ht : ∀ t ∈ ts, g_is_row [strip t] = some (.sh (.bl false))) (hl : ts.length ≤ 80) : evB Γ18 mC1 (dEnv (lE ns far r a3 (some (.ow ts)) a8 a9 a10)) = some false := by
  refine c_all (l := [.fn "_law_with_row", .lst ((List.range 12).map fun (i : Nat) => D.int (0 + i)), .lst (ts.map strip), kD bRow]) ?_ (all_ok (by decide) (by simp; omega) fun d hd t ht' => ?_)
  · rw [lE_d, show Option.map strip (some (T.ow ts)) = some (.lst (ts.map strip)) by rw [Option.map_some, strip_ow]]
    rfl
  · obtain ⟨j, hj, rfl⟩ := List.mem_map.mp hd
    obtain ⟨t0, h0, rfl⟩ := List.mem_map.mp ht'
    have hj := List.mem_range.mp hj
    rw [Int.zero_add]
    exact told_is (j := 13) (g := x__law_with_row) rfl rfl (with_row_no (ht t0 h0) j hj) (by decide)
theorem e2_ok : evB Γ18 mC2 (dEnv (lE ns far r a3 a7 a8 a9 a10)) = some false := by
  refine c_all (l := [.fn "_law_with_number", .lst [.int 0], .lst [.non, .str "1", .bl true, .lst [.int 1], .tup [.int 1]], kD bNum]) ?_ (all_ok (by decide) (by decide) fun d hd t ht' => ?_)
  · rw [lE_d]
    rfl
  · rw [show d = .int 0 by simpa using hd]
    have hw : NoW t = true := by
      simp only [List.mem_cons, List.not_mem_nil, or_false] at ht'
      rcases ht' with rfl | rfl | rfl | rfl | rfl <;> rfl
    exact told_is (j := 14) (g := x__law_with_number) rfl rfl (num0_no hw) (by decide)
theorem e3_ok (hf : 0 ≤ far) : evB Γ18 mC3 (dEnv (lE ns far r a3 a7 a8 (some (.ow ((nums far).map T.sh))) a10)) = some false := by
  refine c_all (l := [.fn "_law_with_number", .lst [.int 1], .lst (nums far), kD bNum]) ?_ (all_ok (by decide) (by show 8 ≤ 1000000; decide) fun d hd t ht' => ?_)
  · rw [lE_d, show Option.map strip (some (T.ow ((nums far).map T.sh))) = some (.lst (nums far)) by rw [Option.map_some, strip_ow, map_strip_sh]]
    rfl
  · rw [show d = .int 1 by simpa using hd]
    exact told_is (j := 14) (g := x__law_with_number) rfl rfl (num1_no (nums_no hf t ht')) (by decide)
theorem e4_ok (hf : 0 ≤ far) : evB Γ18 mC4 (dEnv (lE ns far r a3 a7 a8 a9 (some (.ow ((pars far ++ pars2).map T.sh))))) = some false := by
  refine c_all (l := [.fn "_law_with_rings", .lst [.int 0], .lst (pars far ++ pars2), kD bRin]) ?_ (all_ok (by decide) (by show 19 ≤ 1000000; decide) fun d hd t ht' => ?_)
  · rw [lE_d, show Option.map strip (some (T.ow ((pars far ++ pars2).map T.sh))) = some (.lst (pars far ++ pars2)) by rw [Option.map_some, strip_ow, map_strip_sh]]
    rfl
  · rw [show d = .int 0 by simpa using hd]
    exact told_is (j := 15) (g := x__law_with_rings) rfl rfl (rin_no (pars_no hf t ht')) (by decide)
theorem more_row (h : Bo.IsRow r) : Bo.IsRow (r ++ [r.length]) := Bo.isRow_of (List.nodup_append.mpr ⟨h.nodup, by simp, fun a ha b hb e => by
    have := h.mem.mp ha
    rw [show b = r.length by simpa using hb] at e
    omega⟩) (fun x hx => by
    rcases List.mem_append.mp hx with z | z
    · have := h.mem.mp z; simp; omega
    · rw [show x = r.length by simpa using z]; simp)
theorem two_ok (h : Bo.IsRow r) (hl : r.length ≤ 63) : evB Γ18 mTwo (dEnv (lE ns far r a3 a7 a8 a9 a10)) = some false := by
  have hw : Γ18 76 = some g__law_told := rfl
  have hm := more_row h
  have t1 : g__law_told [.fn "_law_with_two", nD r, nD (r ++ [r.length])] = some (kT bUnl) := told_is (j := 16) (g := x__law_with_two) rfl rfl (two_no h hm (by omega) (by simp; omega) (by simp)) (by decide)
  have t2 : g__law_told [.fn "_law_with_two", nD (r ++ [r.length]), nD r] = some (kT bUnl) := told_is (j := 16) (g := x__law_with_two) rfl rfl (two_no hm h (by simp; omega) (by omega) (by simp)) (by decide)
  have ks : strip (kT bUnl) = kD bUnl := by unfold kT kD; rw [strip_ow, map_strip_sh]
  have ca : ev Γ18 (.bin .Add (.var 4) (.lst (.cons (.var 5) .nil))) [some (iD ns), some (.int far), some (.lst [kD bRow, kD bNum, kD bRin, kD bUnl]), a3.map strip, some (nD r), some (.int r.length), some (nD r), a7.map strip, a8.map strip, a9.map strip, a10.map strip] = some (nD (r ++ [r.length])) := by
    show ((szL (.lst [.int r.length])).bind fun y => binD .Add (nD r) y) = _
    rw [szL_lst, if_pos (sz_of (by simp)), obs]
    show binD .Add (.lst (nl r)) (.lst [.int r.length]) = _
    rw [add_ll, if_pos (sz_of (by simp; omega))]
    unfold nD
    rw [← nl_append]
    rfl
  have u1 : ev Γ18 (.call 76 (.cons (.gfn "_law_with_two") (.cons (.var 4) (.cons (.bin .Add (.var 4) (.lst (.cons (.var 5) .nil))) .nil)))) [some (iD ns), some (.int far), some (.lst [kD bRow, kD bNum, kD bRin, kD bUnl]), a3.map strip, some (nD r), some (.int r.length), some (nD r), a7.map strip, a8.map strip, a9.map strip, a10.map strip] = some (kD bUnl) := by
    rw [ev_call, hw, obs, ev_cons, ev_cons, ev_cons, ca]
    show (g__law_told [.fn "_law_with_two", nD r, nD (r ++ [r.length])]).map strip = _
    rw [t1, Option.map_some, ks]
  have u2 : ev Γ18 (.call 76 (.cons (.gfn "_law_with_two") (.cons (.bin .Add (.var 4) (.lst (.cons (.var 5) .nil))) (.cons (.var 4) .nil)))) [some (iD ns), some (.int far), some (.lst [kD bRow, kD bNum, kD bRin, kD bUnl]), a3.map strip, some (nD r), some (.int r.length), some (nD r), a7.map strip, a8.map strip, a9.map strip, a10.map strip] = some (kD bUnl) := by
    rw [ev_call, hw, obs, ev_cons, ev_cons, ev_cons, ca]
    show (g__law_told [.fn "_law_with_two", nD (r ++ [r.length]), nD r]).map strip = _
    rw [t2, Option.map_some, ks]
  have i3 : ev Γ18 (.idx (.var 2) (.int 3)) [some (iD ns), some (.int far), some (.lst [kD bRow, kD bNum, kD bRin, kD bUnl]), a3.map strip, some (nD r), some (.int r.length), some (nD r), a7.map strip, a8.map strip, a9.map strip, a10.map strip] = some (kD bUnl) := rfl
  rw [lE_d]
  unfold evB
  rw [ev_or, ev_cmp, ev_cmp, u1, u2, i3]
  simp only [obs, ne_dd, kD_eq (show bUnl ∈ XN by decide), Option.map_some]
  rfl
theorem sset_nil : unD .sset (.lst []) = some (.lst []) := by
  have h : isort (ddp []) = [] := by simp [isort, ddp]
  show (if decide (([] : List Int).length < 64) = true then some (D.lst ((isort (ddp [])).map D.int)) else none) = _
  rw [h]
  rfl
theorem turns_of_nil : g_turns_of [.lst []] = some (.sh (.int 1)) := by
  have hx : itX Γ11 none (.un .sset (.comp (.un .len (.var 0)) [] (.var 0) .nil)) [some (.sh (.lst [])), some (.sh (.int 1)), none] = some ([], [some (.sh (.lst [])), some (.sh (.int 1)), none]) := by
    unfold itX
    rw [if_neg (show ¬ (isRng (.un .sset (.comp (.un .len (.var 0)) [] (.var 0) .nil)) = true) from fnt)]
    have hz : frz none [some (.sh (.lst [])), some (.sh (.int 1)), none] (vars (.un .sset (.comp (.un .len (.var 0)) [] (.var 0) .nil))) = some [some (.sh (.lst [])), some (.sh (.int 1)), none] := rfl
    rw [hz, obs]
    show ((((some (D.lst [])).bind (unD .sset)).bind walkD).map fun l => (l, _)) = _
    rw [obs, sset_nil]
    rfl
  exact gP_rt rfl ((st_asg rfl rfl).trans ((st_for1 rfl hx rfl).trans (st_retV (by simp) rfl)))
theorem turns_nil : g_turns [.lst []] = some (.sh (.int 1)) := by
  have h13 : Γ12 13 = some g_rings_of := rfl
  have h18 : Γ12 18 = some g_turns_of := rfl
  have r0 : g_rings_of [.lst []] = some (.ow []) := rfl
  refine gP_rt rfl ((st_drop (t := .sh .non) rfl).trans (st_ret (by simp) (evX_callF h18 (l := [.lst []]) ?_ turns_of_nil rfl)))
  rfl
theorem fin_ok (hl : r.length ≤ 63) : evX Γ18 none mFin (lE ns far r a3 a7 a8 a9 a10) = some (.sh (.bl true), lE ns far r a3 a7 a8 a9 a10) := by
  refine evX_scal rfl ?_ rfl
  rw [lE_d]
  have e1 : ev Γ18 (.cmp .Eq (.var 4) (.var 6)) [some (iD ns), some (.int far), some (.lst [kD bRow, kD bNum, kD bRin, kD bUnl]), a3.map strip, some (nD r), some (.int r.length), some (nD r), a7.map strip, a8.map strip, a9.map strip, a10.map strip] = some (.bl true) := by
    show cmpD .Eq (nD r) (nD r) = _
    rw [eq_dd, eq_nn]
    simp
  have e2 : ev Γ18 (.cmp .Eq (.call 16 (.cons (.int 0) (.cons (.lst .nil) .nil))) (.lst .nil)) [some (iD ns), some (.int far), some (.lst [kD bRow, kD bNum, kD bRin, kD bUnl]), a3.map strip, some (nD r), some (.int r.length), some (nD r), a7.map strip, a8.map strip, a9.map strip, a10.map strip] = some (.bl true) := rfl
  have e3 : ev Γ18 (.cmp .Eq (.call 9 (.cons (.lst .nil) .nil)) (.lst .nil)) [some (iD ns), some (.int far), some (.lst [kD bRow, kD bNum, kD bRin, kD bUnl]), a3.map strip, some (nD r), some (.int r.length), some (nD r), a7.map strip, a8.map strip, a9.map strip, a10.map strip] = some (.bl true) := rfl
  have e4 : ev Γ18 (.cmp .Eq (.call 19 (.cons (.lst .nil) .nil)) (.int 1)) [some (iD ns), some (.int far), some (.lst [kD bRow, kD bNum, kD bRin, kD bUnl]), a3.map strip, some (nD r), some (.int r.length), some (nD r), a7.map strip, a8.map strip, a9.map strip, a10.map strip] = some (.bl true) := by
    have hw : Γ18 19 = some g_turns := rfl
    rw [ev_cmp, ev_call, hw, obs]
    show ((g_turns [.lst []]).map strip).bind _ = _
    rw [turns_nil]
    rfl
  have e5 : ev Γ18 (.cmp .Eq (.call 14 (.cons (.lst .nil) .nil)) (.lst .nil)) [some (iD ns), some (.int far), some (.lst [kD bRow, kD bNum, kD bRin, kD bUnl]), a3.map strip, some (nD r), some (.int r.length), some (nD r), a7.map strip, a8.map strip, a9.map strip, a10.map strip] = some (.bl true) := rfl
  rw [ev_and, e1, obs, ifB_t, ev_and, e2, obs, ifB_t, ev_and, e3, obs, ifB_t, ev_and, e4, obs, ifB_t, e5]
end
theorem law_ok : ∀ ns : List Int, ns.length ≤ 63 → g_law [.lst (ns.map D.int)] = some (.sh (.bl true)) := by
  intro ns hl
  obtain ⟨r, hr, hlen, hrow⟩ := row_ok ns hl
  obtain ⟨far, hf, hfar⟩ := far_ok ns
  have hn : r.length ≤ 63 := by omega
  have hw52 : Γ18 52 = some g__law_row := rfl
  obtain ⟨ts', a8', hloop, hts, htl⟩ := loop_ok (ns := ns) (a3 := some (.sh (.int 3))) (a9 := none) (a10 := none) hr hn hf (ts := (base far).map T.sh) (by
    intro t ht
    obtain ⟨d, hd, rfl⟩ := List.mem_map.mp ht
    rw [strip_sh]
    exact base_no hf d hd) rfl
  have hif : ∃ ts2, (∀ t ∈ ts2, g_is_row [strip t] = some (.sh (.bl false))) ∧ ts2.length ≤ 80 ∧ (if decide (0 < (r.length : Int)) = true then ex Γ18 Δ3 none 100 (.seq (.app 7 (.bin .Add (.var 4) (.lst (.cons (.idx (.var 4) (.bin .FloorDiv (.var 5) (.int 2))) .nil)))) .nop) (lE ns far r (some (.sh (.int 3))) (some (.ow ts')) a8' none none) else ex Γ18 Δ3 none 100 .nop (lE ns far r (some (.sh (.int 3))) (some (.ow ts')) a8' none none)) = some (.nx, lE ns far r (some (.sh (.int 3))) (some (.ow ts2)) a8' none none) := by
    by_cases hp : 0 < r.length
    · obtain ⟨l, x1, x2⟩ := last_ok (ns := ns) (far := far) (a3 := some (.sh (.int 3))) (a7 := some (.ow ts')) (a8 := a8') (a9 := none) (a10 := none) hr hn hp
      refine ⟨ts' ++ [.ow (l.map T.sh)], fun t ht => ?_, by simp; omega, ?_⟩
      · rcases List.mem_append.mp ht with ht | ht
        · exact hts t ht
        · rw [show t = .ow (l.map T.sh) by simpa using ht, strip_ow, map_strip_sh]
          exact x2
      · rw [if_pos (dtt (by omega))]
        exact (st_app x1 rfl (sz_of (by omega))).trans rfl
    · refine ⟨ts', hts, by omega, ?_⟩
      rw [if_neg (by simpa using hp)]
      rfl
  obtain ⟨ts2, ht2, hl2, hif⟩ := hif
  have q1 : evX Γ18 none (.call 52 (.cons (.var 0) .nil)) [some (.sh (iD ns)), some (.sh (.int far)), some dueT, some (.sh (.int 3)), none, none, none, none, none, none, none] = some (nT r, [some (.sh (iD ns)), some (.sh (.int far)), some dueT, some (.sh (.int 3)), none, none, none, none, none, none, none]) := evX_callF hw52 (l := [iD ns]) rfl hrow (flat_nT r)
  have q2 : evX Γ18 none (.un .len (.var 4)) [some (.sh (iD ns)), some (.sh (.int far)), some dueT, some (.sh (.int 3)), some (nT r), none, none, none, none, none, none] = some (.sh (.int r.length), [some (.sh (iD ns)), some (.sh (.int far)), some dueT, some (.sh (.int 3)), some (nT r), none, none, none, none, none, none]) := evX_scal rfl (by simp [dEnv_cons, nD]) rfl
  have q3 : evX Γ18 none (.un .list (.var 4)) [some (.sh (iD ns)), some (.sh (.int far)), some dueT, some (.sh (.int 3)), some (nT r), none, none, none, none, none, none] = some (nT r, [some (.sh (iD ns)), some (.sh (.int far)), some dueT, some (.sh (.int 3)), some (nT r), none, none, none, none, none, none]) := evX_flat (ds := nl r) rfl rfl (by simp [dEnv_cons, nD]) (by simp)
  have q4 : evB Γ18 (.cmp .Gt (.var 5) (.int 0)) (dEnv (lE ns far r (some (.sh (.int 3))) (some (.ow ts')) a8' none none)) = some (decide (0 < (r.length : Int))) := by
    rw [lE_d]
    rfl
  exact gP_rt rfl ((st_asg rfl (hfar _)).trans ((st_asg rfl (evX_nilL _ _ _)).trans ((st_for1 rfl rfl due_is).trans ((st_asg rfl q1).trans ((st_asg2 rfl q2 q3).trans ((st_asg rfl base_is).trans ((st_for1 rfl (steps_it hn) hloop).trans ((st_if q4 hif).trans ((st_skip (e1_ok ht2 hl2)).trans ((st_skip e2_ok).trans ((st_asg rfl nums_is).trans ((st_skip (e3_ok hf)).trans ((st_asg rfl pars_is).trans ((st_asg rfl pars2_is).trans ((st_skip (e4_ok hf)).trans ((st_skip (two_ok hr hn)).trans (st_ret (by simp) (fin_ok hn))))))))))))))))))
end MI
end
noncomputable section
namespace MI
open PySem L2 LX PyProof.Rows
section
variable {P : Program} {w : World} {K : W.Frag} {mg : Str → Option Value} {base : Heap} {cl : Nat → Option Addr} {c : CS} {Γ : Tab} {Δ : IOT} {Ξ : XT} {ξ : List (Str × Nat)} {k k' : Nat}
theorem Lw.mono (L : Lw P w K mg base cl c Γ Δ k) (h : k ≤ k') : Lw P w K mg base cl c Γ Δ k' :=
  ⟨fun x f e => let ⟨g, a, b⟩ := L.fn x f e; ⟨g, a, b.mono h⟩, fun x f i e => let ⟨g, a, fa, fd, ps, F, r⟩ := L.io x f i e; ⟨g, a, fa, fd, ps, F.mono h, r⟩, L.blt, L.gi, L.cls, fun d C i m g h0 h1 h2 => (L.mth d C i m g h0 h1 h2).mono h, L.cn, fun d C i m g h0 h1 h2 => (L.mio d C i m g h0 h1 h2).mono h, L.fv⟩
theorem LwX.start (own : ∀ x ∈ XN, ∃ C, OwnCls x C BMV "ValueError.__new__" mg base ∧ W.nsIn K mainGlobals x = some (some (.ref C))) : LwX P w K mg base cl (fun _ => none) [] k := ⟨fun x j e => (by cases e), own⟩
end
theorem own_in {K : W.Frag} {mg : Str → Option Value} {h : Heap} {x : Str} {C : Addr} {bm : List Value} {id : String} (X : K.In h) (hm : mg x = some (.ref C)) (q : W.excIn K C bm id = true) : OwnCls x C bm id mg h := by
  refine ⟨hm, ?_⟩
  unfold W.excIn at q
  split at q
  · rename_i d0 cd sl look
    split at q
    · rename_i C1 b1 s0 s1 s2 s3 i1 s5 em es
      obtain ⟨q, w6⟩ := bae q
      obtain ⟨q, w5⟩ := bae q
      obtain ⟨q, w4⟩ := bae q
      obtain ⟨q, w3⟩ := bae q
      obtain ⟨w1, w2⟩ := bae q
      have w1 := beq_iff_eq.mp w1
      have w2 := beq_iff_eq.mp w2
      have w6 := beq_iff_eq.mp w6
      subst w1 w2
      obtain ⟨z1, z2, z3, z4, z5, z6, z7, z8, z9, z10, z11⟩ := cd
      have em' : z3 = .ref C1 :: b1 := em
      have w3' : z11 = false := by simpa using w3
      have es' : sl = #[s0, s1, s2, s3, some (.builtin i1), s5] := by
        cases sl
        exact congrArg Array.mk es
      subst em' w3' es'
      exact ⟨b1, z4, z1, z5, z2, z6, z7, z8, z9, z10, d0, s0, s1, s2, s3, s5, _, X _ _ look, .of_isNs (W.isNs_of_in X w5), W.nsMap_none_of_in X w5 w6, W.tail_of_in X w4⟩
    · cases q
  · cases q
noncomputable def xSub (K : W.Frag) (C : Addr) (x t : Str) : Bool := match W.nsIn K mainGlobals t with
  | some (some (.ref J)) => W.kitOne K (.ref C) (.ref J) == some (x == t)
  | _ => false
noncomputable def xOrd (K : W.Frag) (C : Addr) : Bool := match W.nsIn K mainGlobals "OrderError" with
  | some (some (.ref O)) => W.exmOne K (.ref C) (.ref O) == some true
  | _ => false
noncomputable def xCl (K : W.Frag) (C : Addr) : Bool := (W.findIn K (.ref C) "__getattribute__" == some (some (.builtin "BaseException.__getattribute__"))) && (W.findIn K (.ref C) "__getattr__" == some none) && (W.subIn K (.ref C) (.type "BaseException") == some true) && W.hasDictIn K C && (W.findIn K (.ref C) "__class__" == some (some (.builtin "object.__class__"))) && (W.specialIn K (.builtin "object.__class__") "__get__" == some (some (.builtin "getset_descriptor.__get__"))) && (W.takesIn K (.builtin "object.__class__") == some true) && (W.mroIn K C (.type "object") == some true)
noncomputable def xOne (K : W.Frag) (x : Str) : Bool := match W.nsIn K mainGlobals x with
  | some (some (.ref C)) => W.excIn K C BMV "ValueError.__new__" && xCl K C && (W.kitOne K (.ref C) (.type "ValueError") == some true) && XN.all (xSub K C x) && xOrd K C
  | _ => false
noncomputable def fvB (K : W.Frag) (x : Str) : Bool := match W.nsIn K mainGlobals x with
  | some (some (.ref _)) => true
  | _ => false
noncomputable def xB (K : W.Frag) : Bool := XN.all (xOne K) && FV.all (fvB K)
theorem xCl_ok {K : W.Frag} {C : Addr} (h : xCl K C = true) : XCls K C := by
  unfold xCl at h
  obtain ⟨h, w8⟩ := bae h
  obtain ⟨h, w7⟩ := bae h
  obtain ⟨h, w6⟩ := bae h
  obtain ⟨h, w5⟩ := bae h
  obtain ⟨h, w4⟩ := bae h
  obtain ⟨h, w3⟩ := bae h
  obtain ⟨w1, w2⟩ := bae h
  exact ⟨beq_iff_eq.mp w1, beq_iff_eq.mp w2, beq_iff_eq.mp w3, w4, beq_iff_eq.mp w5, beq_iff_eq.mp w6, beq_iff_eq.mp w7, beq_iff_eq.mp w8⟩
theorem xOne_ok {K : W.Frag} {x : Str} (h : xOne K x = true) : ∃ C, W.nsIn K mainGlobals x = some (some (.ref C)) ∧ W.excIn K C BMV "ValueError.__new__" = true ∧ XCls K C ∧ W.kitOne K (.ref C) (.type "ValueError") = some true ∧ (∀ t ∈ XN, xSub K C x t = true) ∧ xOrd K C = true := by
  unfold xOne at h
  split at h
  · rename_i C hC
    obtain ⟨h, w5⟩ := bae h
    obtain ⟨h, w4⟩ := bae h
    obtain ⟨h, w3⟩ := bae h
    obtain ⟨w1, w2⟩ := bae h
    exact ⟨C, hC, w1, xCl_ok w2, beq_iff_eq.mp w3, List.all_eq_true.mp w4, w5⟩
  · cases h
theorem xB_ok {K : W.Frag} {mg : Str → Option Value} (h : xB K = true) (hns : ∀ x a, W.nsIn K mainGlobals x = some (some (.ref a)) → mg x = some (.ref a)) :
    XKn K mg ∧ (∀ base : Heap, K.In base → ∀ x ∈ XN, ∃ C, OwnCls x C BMV "ValueError.__new__" mg base ∧ W.nsIn K mainGlobals x = some (some (.ref C))) ∧ ∀ x ∈ FV, ∃ a, mg x = some (.ref a) ∧ W.nsIn K mainGlobals x = some (some (.ref a)) := by
  obtain ⟨h1, h2⟩ := bae h
  have one := fun x (hx : x ∈ XN) => xOne_ok (List.all_eq_true.mp h1 x hx)
  refine ⟨⟨fun x hx => ?_, fun x hx t ht C J nC nJ => ?_, fun x hx C nC => ?_, ?_⟩, fun base X x hx => ?_, fun x hx => ?_⟩
  · obtain ⟨C, nC, _, c, _⟩ := one x hx
    exact ⟨C, nC, hns x C nC, c⟩
  · obtain ⟨C', nC', _, _, _, s, _⟩ := one x hx
    rw [nC] at nC'
    cases nC'
    have := s t ht
    unfold xSub at this
    rw [nJ] at this
    exact beq_iff_eq.mp this
  · obtain ⟨C', nC', _, _, v, _⟩ := one x hx
    rw [nC] at nC'
    cases nC'
    exact v
  · obtain ⟨C0, n0, _, _, _, _, o0⟩ := one "BadRow" (by decide)
    unfold xOrd at o0
    split at o0
    · rename_i O hO
      refine ⟨O, hns _ O hO, fun x hx C nC => ?_⟩
      obtain ⟨C', nC', _, _, _, _, o⟩ := one x hx
      rw [nC] at nC'
      cases nC'
      unfold xOrd at o
      rw [hO] at o
      exact beq_iff_eq.mp o
    · cases o0
  · obtain ⟨C, nC, e, _⟩ := one x hx
    exact ⟨C, own_in X (hns x C nC) e, nC⟩
  · have := List.all_eq_true.mp h2 x hx
    unfold fvB at this
    split at this
    · rename_i a ha
      exact ⟨a, hns x a ha, ha⟩
    · cases this
end MI
end
noncomputable section
namespace MI
open PySem PySem.Spec PySem.W PyProof.Rows L2
noncomputable def frOf (h : Heap) : W.Frag := (List.range h.objs.size).filterMap fun a => (h.get? a).map fun o => (a, o)
theorem lookup_mem {a : Addr} {o : Obj} : ∀ {K : W.Frag}, K.lookup a = some o → (a, o) ∈ K
  | (b, u) :: r, h => by
    rw [List.lookup_cons] at h
    split at h
    · rename_i e
      cases h
      rw [show a = b by simpa using e]
      exact List.mem_cons_self ..
    · exact List.mem_cons_of_mem _ (lookup_mem h)
theorem frOf_in {h h' : Heap} (k : ∀ b o, h.get? b = some o → h'.get? b = some o) : (frOf h).In h' := fun a o e => by
  obtain ⟨b, _, q⟩ := List.mem_filterMap.mp (lookup_mem e)
  obtain ⟨u, hu, q⟩ := msi q
  cases q
  exact k _ _ hu
structure Fv where
  name : Str
  qual : Str
  args : Arguments
  body : FuncBody
  scope : Scope
  globals : Addr
  closure : List (Str × Addr)
  defaults : Value
  builtins : Addr
  ok : Bool
noncomputable def fOf (K : W.Frag) (a : Addr) (fd : FuncData) : Fv := ⟨fd.name, fd.qualname, fd.params, fd.body, fd.scope, fd.globals, fd.closure, fd.defaults, fd.builtins, W.codeIn K fd.code fd.qualname && W.keepIn K (.ref a)⟩
noncomputable def fSee (K : W.Frag) (x : Str) : Option Fv := match W.nsIn K mainGlobals x with
  | some (some (.ref a)) => (match K.lookup a with
    | some ⟨_, _, .func fd, _⟩ => some (fOf K a fd)
    | _ => none)
  | _ => none
noncomputable def fDue (x : Str) (st : Stmt) : Option Fv := some ⟨x, x, defArgs st, .stmts (defBody st), defScope st, mainGlobals, [], .none, builtinsNs, true⟩
noncomputable def bSee (K : W.Frag) (x : Str) : Bool := match W.nsIn K mainGlobals x with
  | some none => true
  | _ => false
noncomputable def gSee (K : W.Frag) (x : Str) : Option Int := match W.nsIn K mainGlobals x with
  | some (some (.int i _)) => some i
  | _ => none
theorem fSee_ok {K : W.Frag} {x : Str} {st : Stmt} (h : fSee K x = fDue x st) : ∃ (f : Addr) (od an : Option Addr) (sl : Array (Option Value)) (oc kV dc pm cd ct : Value), W.nsIn K mainGlobals x = some (some (.ref f)) ∧
    K.lookup f = some ⟨oc, od, .func (W.fnOf x x (defArgs st) (defBody st) (defScope st) .none kV dc pm an cd ct), sl⟩ ∧ W.codeIn K cd x = true ∧ W.keepIn K (.ref f) = true := by
  unfold fSee fDue at h
  split at h
  · rename_i a ha
    split at h
    · rename_i oc od fd sl hl
      have h := Option.some.inj h
      unfold fOf at h
      obtain ⟨n, q, ps, b, sc, g, c, d, kV, dc, pm, an, cd, ct, bi⟩ := fd
      injection h with h1 h2 h3 h4 h5 h6 h7 h8 h9 h10
      dsimp only at h1 h2 h3 h4 h5 h6 h7 h8 h9 h10
      subst h1 h2 h3 h4 h5 h6 h7 h8 h9
      obtain ⟨k1, k2⟩ := bae h10
      exact ⟨a, od, an, sl, oc, kV, dc, pm, cd, ct, ha, hl, k1, k2⟩
    · cases h
  · cases h
theorem bSee_ok {K : W.Frag} {x : Str} (h : bSee K x = true) : W.nsIn K mainGlobals x = some none := by
  unfold bSee at h
  split at h
  · assumption
  · cases h
theorem gSee_ok {K : W.Frag} {x : Str} {i : Int} (h : gSee K x = some i) : ∃ t, W.nsIn K mainGlobals x = some (some (.int i t)) := by
  unfold gSee at h
  split at h
  · cases h; exact ⟨_, by assumption⟩
  · cases h
noncomputable def cAd (K : W.Frag) (x : Str) : Option Addr := match W.nsIn K mainGlobals x with
  | some (some (.ref a)) => some a
  | _ => none
noncomputable def isBi (o : Option (Option Value)) (s : String) : Bool := match o with
  | some (some (.builtin t)) => t == s
  | _ => false
theorem isBi_ok {o : Option (Option Value)} {s : String} (h : isBi o s = true) : o = some (some (.builtin s)) := by
  unfold isBi at h
  split at h
  · rw [eq_of_beq h]
  · cases h
noncomputable def isNo (o : Option (Option Value)) : Bool := match o with
  | some none => true
  | _ => false
theorem isNo_ok {o : Option (Option Value)} (h : isNo o = true) : o = some none := by
  unfold isNo at h
  split at h
  · rfl
  · cases h
noncomputable def isB (o : Option Bool) (b : Bool) : Bool := match o with
  | some c => c == b
  | none => false
theorem isB_ok {o : Option Bool} {b : Bool} (h : isB o b = true) : o = some b := by
  unfold isB at h
  split at h
  · rw [eq_of_beq h]
  · cases h
noncomputable def clsB (K : W.Frag) (C : Addr) : Bool := W.plainGet K C Str.empty && (W.hasDictIn K C && (W.plainOver K C && (isBi (W.findIn K (.ref C) "__setattr__") "object.__setattr__" && (FLD.all (fun f => isNo (W.findIn K (.ref C) f)) && (isBi (W.findIn K (.ref C) "__class__") "object.__class__" && (isBi (W.specialIn K (.builtin "object.__class__") "__get__") "getset_descriptor.__get__" && (isB (W.takesIn K (.builtin "object.__class__")) true && isB (W.mroIn K C (.type "object")) true)))))))
theorem clsB_ok {K : W.Frag} {C : Addr} (h : clsB K C = true) : Cls K C ∧ (∀ f ∈ FLD, NoAttr K C f) ∧ ClsT K C := by
  unfold clsB at h
  simp only [Bool.and_eq_true] at h
  obtain ⟨h1, h2, h3, h4, h5, h6, h7, h8, h9⟩ := h
  exact ⟨⟨h1, h2, h3, isBi_ok h4⟩, fun f hf => isNo_ok (List.all_eq_true.mp h5 f hf), ⟨isBi_ok h6, isBi_ok h7, isB_ok h8, isB_ok h9⟩⟩
noncomputable def clOf (K : W.Frag) (cs : List Str) (i : Nat) : Option Addr := match cs[i]? with
  | some x => cAd K x
  | none => none
noncomputable def oneB (K : W.Frag) (cs : List Str) (i j : Nat) : Bool := match clOf K cs i, clOf K cs j with
  | some I, some J => isB (W.kitOne K (.ref I) (.ref J)) (subC i j)
  | _, _ => false
noncomputable def eachB (K : W.Frag) (cs : List Str) (i : Nat) : Bool := (match clOf K cs i with
  | some C => clsB K C
  | none => false) && (List.range cs.length).all (oneB K cs i)
noncomputable def allC (K : W.Frag) (cs : List Str) : Bool := (List.range cs.length).all (eachB K cs)
theorem clOf_lt {K : W.Frag} {cs : List Str} {i : Nat} {C : Addr} (h : clOf K cs i = some C) : i < cs.length := by
  unfold clOf at h
  split at h
  · rename_i e; exact (List.getElem?_eq_some_iff.mp e).1
  · cases h
theorem allC_ok {K : W.Frag} {cs : List Str} (h : allC K cs = true) : ClsOk K (clOf K cs) := by
  have A := fun i (hi : i < cs.length) => bae (List.all_eq_true.mp h i (List.mem_range.mpr hi))
  refine ⟨fun i C hC => ?_, fun i I j J hI hJ => ?_⟩
  · have := (A i (clOf_lt hC)).1
    rw [hC] at this
    exact clsB_ok this
  · have := List.all_eq_true.mp (A i (clOf_lt hI)).2 j (List.mem_range.mpr (clOf_lt hJ))
    unfold oneB at this
    rw [hI, hJ] at this
    exact isB_ok this
noncomputable def mkB (K : W.Frag) (x : Str) : Bool := match cAd K x with
  | some C => W.makesIn K C && W.keepIn K (.ref C)
  | none => false
noncomputable def mSee (K : W.Frag) (p : Str × Str) : Option Fv := match cAd K p.1 with
  | some C => (match W.findIn K (.ref C) p.2 with
    | some (some (.ref a)) => (match W.isFn K (.ref a) with
      | true => (match K.lookup a with
        | some ⟨_, _, .func fd, _⟩ => some (fOf K a fd)
        | _ => none)
      | false => none)
    | _ => none)
  | none => none
structure Asks where
  fs : List Str
  ms : List (Str × Str)
  gs : List Str
  bs : List Str
  cs : List Str
  mks : List Str
noncomputable abbrev Look := List (Option Fv) × List (Option Fv) × List (Option Int) × Bool
noncomputable def look (q : Asks) (K : W.Frag) : Look := (q.fs.map (fSee K), q.ms.map (mSee K), q.gs.map (gSee K), q.bs.all (bSee K) && (allC K q.cs && (q.mks.all (mkB K) && xB K)))
noncomputable def lHook (q : Asks) (due : Look) : W.Hook :=
  ⟨_, fun s => look q (frOf s.heap), fun _ => due, fun _ h => ∃ h₀ : Heap, (∀ b o, h₀.get? b = some o → h.get? b = some o) ∧ look q (frOf h₀) = due, fun _ s e => ⟨s.heap, fun _ _ z => z, e⟩, fun _ h h' ⟨h₀, k, e⟩ k' => ⟨h₀, fun b o z => k' b o (k b o z), e⟩⟩
theorem walkL {l : W.OpenLaw} {n k : Nat} {q : Program} {loose : List Str} {XP : (Str → Option Value) → Heap → Prop} {d : DefRec} {a : Asks} {due : Look} {x : Str} {g : List D → Option T}
    (hn : l.most = some n) (hn2 : n ≤ sizeLine) (hdf : d.params.defaults = []) (hr : Room k callerA)
    (F : ∀ (w : World) (mg : Str → Option Value) (fa : Addr) (K : W.Frag) (h : Heap), K.In h → h.Ns mainGlobals mg → mg d.name = some (.ref fa) → look a K = due →
      ∃ (cl : Nat → Option Addr) (fd : FuncData), (∀ (s : Shared) (u : Value), BindsTo s fd ⟨[u], []⟩ [(x, u)]) ∧
        ∀ base : Heap, K.In base → base.Ns mainGlobals mg → FnOk l.prog w K mg base CX0 k fa fd [x] (spP K cl g))
    (hg : ∀ ns : List Int, ns.length ≤ n → g [.lst (ns.map D.int)] = some (.sh (.bl true))) :
    W.WalkO q loose XP (lHook a due).says l.row.toRowW d [] (fun f vs => PySem.call f vs) := by
  refine Att.attach_call hn hdf fun w s₀ s₁ mg mb fa o pm cd doc b vs ns G Y ho hd hcd hmg hobj hints hlen hg' => ?_
  obtain ⟨h₀, kk, e⟩ := Y
  have KX : (frOf h₀).In s₁.heap := frOf_in kk
  obtain ⟨cl, fd, hb, hF⟩ := F w mg fa _ _ KX G.T.g hmg e
  refine law_callR (CX := CX0) (sp := spP (frOf h₀) cl g) KX G.T.g G.T.b G.T.builtins G.T.nolimit hg' hobj hints (Nat.le_trans hlen hn2) hr hF hb (fun H hS => ?_) fun H e s' z => z
  exact ⟨H, _, _, .refl _, .cons (.lst hS (dns_ints ns)) .nil, hg ns hlen, fun v H' G' A e ot nd nw => by cases ot with | sh dn => cases dn; rfl⟩
noncomputable def topRunT (tb : String → Option Builtin) (p : Program) (w : World) (n₀ : Nat) (ann : Option Value) : Nat → SharedT → Thread → Option SharedT
  | 0, _, _ => none
  | n + 1, s, t => match through t with
    | true => some s
    | false => match stepOk n₀ ann t with
      | false => none
      | true => match stepT (denote tb) p w s t with
        | some (s', t') => topRunT tb p w n₀ ann n s' t'
        | none => none
theorem topRun_of {tb : String → Option Builtin} {p : Program} {w : World} {n₀ : Nat} {ann : Option Value} : ∀ {n : Nat} {s s' : SharedT} {t : Thread}, topRunT tb p w n₀ ann n s t = some s' → topRun tb p w n₀ ann n s.abs t = some s'.abs
  | 0, _, _, _, h => by cases h
  | n + 1, s, s', t, h => by
    unfold topRunT at h
    unfold topRun
    cases he : through t with
    | true => rw [he] at h; cases h; rfl
    | false =>
      rw [he] at h
      cases hk : stepOk n₀ ann t with
      | false => rw [hk] at h; cases h
      | true =>
        rw [hk] at h
        cases hs : stepT (denote tb) p w s t with
        | none => rw [hs] at h; cases h
        | some r => obtain ⟨s₂, t₂⟩ := r; rw [hs] at h; rw [stepT_spec hs]; exact topRun_of h
noncomputable def treeOf : List Obj → Nat → BT → BT
  | [], _, t => t
  | o :: r, i, t => treeOf r (i + 1) (t.ins i o)
noncomputable def tree0 (P : Params) : BT := treeOf (boot_heap P).objs.toList 0 .nil
noncomputable def st0 (P : Params) (os : OsState) : SharedT := ⟨tree0 P, 11, (boot_heap P).life, ⟨[]⟩, boot_drawn, boot_toks, os⟩
theorem tree0_ok (P : Params) : absHeap (tree0 P) 11 (boot_heap P).life = boot_heap P := by kernel_rfl
theorem boot_is (P : Params) : ((boot_heap P).isNs mainGlobals && (⟨[]⟩ : Array GenState).size == 0, (boot_heap P).objs.size, (boot_heap P).nsMap mainGlobals "__annotations__") = (true, 11, some (.ref 6)) := by kernel_rfl
noncomputable def frT (s : SharedT) : W.Frag := (List.range s.n).filterMap fun a => (alive ((s.tree.get a).getD default)).map fun o => (a, o)
theorem filterMap_eq {α β : Type} {f g : α → Option β} : ∀ {l : List α}, (∀ x ∈ l, f x = g x) → l.filterMap f = l.filterMap g
  | [], _ => rfl
  | x :: l, h => by rw [List.filterMap_cons, List.filterMap_cons, h x (List.mem_cons_self ..), filterMap_eq fun y hy => h y (List.mem_cons_of_mem _ hy)]
theorem frT_ok (s : SharedT) : frOf s.abs.heap = frT s := by
  unfold frOf frT
  rw [show s.abs.heap.objs.size = s.n from absHeap_size ..]
  refine filterMap_eq fun a ha => ?_
  have h := List.mem_range.mp ha
  have e : s.abs.heap.get? a = alive ((s.tree.get a).getD default) := by
    show (absHeap s.tree s.n s.life).get? a = _
    unfold Heap.get?
    rw [absHeap_at, if_pos h]
    generalize (s.tree.get a).getD default = o
    obtain ⟨c, d, dt, sl⟩ := o
    cases dt <;> rfl
  rw [e]
theorem left_tree {p q : Program} {loose : List Str} {Xt : Shared → Bool} {α : Type} {Yf : Shared → α} {Yt : SharedT → α} {Ya : World → α} {N : Nat} (hY : ∀ s : SharedT, Yf s.abs = Yt s)
    (e : opening p = plainProg p.main.scope.names) (hN : Nat.ble 600 N = true) (f : ∀ s, fenceModules? p s = some s)
    (run : ∀ (w : World) (os : OsState), (topRunT treeTable p w 11 (some (.ref 6)) N (st0 w.params os) (topStub p)).map (fun s => (staticsOk (importedModules p.main.body) (boot_heap w.params) s.abs.heap && namesBound p s.abs.heap && gensDone s.abs && laidKept (boot_heap w.params) s.abs.heap, openSeen q loose (importedModules p.main.body) Xt true s.abs, Yt s)) = some (true, openGood q loose, Ya w)) : LeftO p q loose Xt Yf Ya N := fun w => by
  obtain ⟨⟨h, gs, d, k, os⟩, e0, e'⟩ := msi (boot_open e hN f w)
  obtain ⟨rfl, rfl, rfl, rfl⟩ : h = boot_heap w.params ∧ gs = ⟨[]⟩ ∧ d = boot_drawn ∧ k = boot_toks := by simpa using e'
  obtain ⟨z1, z2, z3⟩ : _ ∧ _ ∧ _ := by simpa only [Prod.mk.injEq] using boot_is w.params
  obtain ⟨s, hs, hv⟩ := msi (run w os)
  obtain ⟨l1, l2, l3⟩ : _ ∧ _ ∧ _ := by simpa only [Prod.mk.injEq] using hv
  have r := topRun_of hs
  rw [show (st0 w.params os).abs = ⟨boot_heap w.params, ⟨[]⟩, boot_drawn, boot_toks, os⟩ by unfold st0 SharedT.abs; dsimp only; rw [tree0_ok]] at r
  have t : topFrom treeTable p w N ⟨boot_heap w.params, ⟨[]⟩, boot_drawn, boot_toks, os⟩ = some s.abs := by
    unfold topFrom
    dsimp only
    rw [z1, z2, z3, r]
    show (match staticsOk (importedModules p.main.body) (boot_heap w.params) s.abs.heap && namesBound p s.abs.heap && gensDone s.abs && laidKept (boot_heap w.params) s.abs.heap with | true => _ | false => _) = _
    rw [l1]
  unfold openEnds
  rw [e0]
  show (topFrom treeTable p w N _).map _ = _
  rw [t]
  exact congrArg some (Prod.ext l2 ((hY s).trans l3))
theorem look_T (q : Asks) (due : Look) (s : SharedT) : (lHook q due).obs s.abs = look q (frT s) := congrArg (look q) (frT_ok s)
end MI
end
noncomputable section
namespace MI
open PySem L2 PyProof.Rows
abbrev LoC (N : List Str) (st : Stmt) : Prop := ∀ x ∈ N, (defScope st).names.lookup x = some .local ∨ (defScope st).names.lookup x = some .cell
noncomputable def fnB (N ps : List Str) (st : Stmt) : Bool := decide ((defScope st).kind = .function ∧ (defScope st).isCoroutine = false ∧ (defScope st).isGenerator = false ∧ N.Nodup ∧ N.take ps.length = ps ∧ (∀ x ∈ ps, (defScope st).names.lookup x = some .local ∨ (defScope st).names.lookup x = some .cell) ∧ (∀ y ∈ (defScope st).names, y.2 ≠ .free) ∧ LoC N st)
theorem fnB_ok {N ps : List Str} {st : Stmt} (h : fnB N ps st = true) : FnScope N ps (defScope st) ∧ LoC N st := by
  obtain ⟨h1, h2, h3, h4, h5, h6, h7, h8⟩ := odt h
  exact ⟨⟨h1, h2, h3, h4, h5, h6, h7⟩, h8⟩
structure Dk (c : CS) (N ps : List Str) (st : Stmt) (l : List Stmt) (b : S) : Prop where
  sc : fnB N ps st = true
  cc : cSt c 40 N (defScope st) l = some b
  bd : ∀ (x q : Str) (kV doc pm : Value) (an : Option Addr) (cdv ct : Value) (us : List Value), us.length = ps.length → bindArgs (W.fnOf x q (defArgs st) (defBody st) (defScope st) .none kV doc pm an cdv ct) ⟨us, []⟩ = pure (ps.zip us)
noncomputable abbrev CS.aT (c : CS) (x : Str) (f : Nat) : CS := ⟨⟨(x, f) :: c.cc.tab, c.cc.gi, c.cc.cn⟩, c.iot⟩
noncomputable abbrev CS.aI (c : CS) (x : Str) (f j : Nat) : CS := ⟨c.cc, (x, f, j) :: c.iot⟩
theorem ar1 {us : List Value} (h : us.length = 1) : ∃ a, us = [a] := List.length_eq_one_iff.mp h
theorem ar2 {us : List Value} (h : us.length = 2) : ∃ a b, us = [a, b] := by
  cases us with
  | nil => cases h
  | cons a r => obtain ⟨b, rfl⟩ := ar1 (Nat.succ.inj h); exact ⟨a, b, rfl⟩
theorem ar3 {us : List Value} (h : us.length = 3) : ∃ a b c, us = [a, b, c] := by
  cases us with
  | nil => cases h
  | cons a r => obtain ⟨b, c, rfl⟩ := ar2 (Nat.succ.inj h); exact ⟨a, b, c, rfl⟩
theorem fG {K : W.Frag} {x : Str} {st : Stmt} {l r : List (Option Fv)} (e : fSee K x :: l = fDue x st :: r) : ∃ f fd, Fun K x x st f fd ∧ W.nsIn K mainGlobals x = some (some (.ref f)) ∧ l = r := by
  obtain ⟨t, e⟩ := List.cons.inj e
  obtain ⟨f, od, an, sl, oc, kV, dc, pm, cd, ct, a, l, c, k⟩ := fSee_ok t
  exact ⟨f, _, fun_mk l c k, a, e⟩
section
variable {P : Program} {w : World} {K : W.Frag} {mg : Str → Option Value} {base : Heap} {cl : Nat → Option Addr} {c : CS} {Γ : Tab} {Δ : IOT} {k : Nat} {x q : Str} {f j : Nat} {st : Stmt} {fa C : Addr} {fd : FuncData} {N ps : List Str} {b : S}
theorem Lw.sP (L : Lw P w K mg base cl c Γ Δ k) (hf : (decide (f < 1000) && c.cc.tab.all (fun p => p.2 != f)) = true) (F : Fun K x x st fa fd) (D : Dk c N ps st (defBody st) b) (hm : mg x = some (.ref fa)) : Lw P w K mg base cl (c.aT x f) (extT Γ f (gP Γ Δ 100 N ps.length b)) Δ (k + 1) := by
  obtain ⟨h1, h2⟩ := bae hf
  exact L.join (odt h1) h2 (L.run (m := 100) F (fnB_ok D.sc).1 (fnB_ok D.sc).2 D.cc) hm F.kp (F.binds (D.bd x x))
theorem Lw.sI (L : Lw P w K mg base cl c Γ Δ k) (hf : (decide (f < 1000) && c.iot.all (fun p => p.2.1 != f)) = true) (F : Fun K x x st fa fd) (D : Dk c N ps st (defBody st) b) (hm : mg x = some (.ref fa)) : Lw P w K mg base cl (c.aI x f j) Γ (extI Δ f j (gQ Γ Δ 100 N j ps.length b)) (k + 1) := by
  obtain ⟨h1, h2⟩ := bae hf
  exact L.joinIO (odt h1) h2 (L.runIO (m := 100) F (fnB_ok D.sc).1 (fnB_ok D.sc).2 D.cc) hm F.kp (F.binds (D.bd x x))
theorem Lw.sL (L : Lw P w K mg base cl c Γ Δ k) (F : Fun K x x st fa fd) (D : Dk c N ps st (defBody st) b) : FnOk P w K mg base CX0 (k + 1) fa fd ps (spP K cl (gP Γ Δ 100 N ps.length b)) := L.run (m := 100) F (fnB_ok D.sc).1 (fnB_ok D.sc).2 D.cc
end
structure Dx (c : CS) (ξ : List (Str × Nat)) (N ps : List Str) (st : Stmt) (r : R) : Prop where
  sc : fnB N ps st = true
  cc : cR c.cc ξ N (defScope st) 40 (defBody st) = r
  bd : ∀ (x q : Str) (kV doc pm : Value) (an : Option Addr) (cdv ct : Value) (us : List Value), us.length = ps.length → bindArgs (W.fnOf x q (defArgs st) (defBody st) (defScope st) .none kV doc pm an cdv ct) ⟨us, []⟩ = pure (ps.zip us)
section
variable {P : Program} {w : World} {K : W.Frag} {mg : Str → Option Value} {base : Heap} {cl : Nat → Option Addr} {c : CS} {Γ : Tab} {Δ : IOT} {Ξ : XT} {ξ : List (Str × Nat)} {k : Nat} {x q : Str} {f j : Nat} {st : Stmt} {fa C : Addr} {fd : FuncData} {N ps : List Str} {r : R}
theorem LwX.sX (M : LwX P w K mg base cl Ξ ξ k) (L : Lw P w K mg base cl c Γ Δ k) (hj : ξ.all (fun p => p.2 != j) = true) (F : Fun K x x st fa fd) (D : Dx c ξ N ps st r) (hm : mg x = some (.ref fa)) : LwX P w K mg base cl (fun i => if i = j then some (gX Γ Ξ ps.length r) else Ξ i) ((x, j) :: ξ) (k + 1) :=
  M.add (Nat.le_succ _) hj (def_x L M F (fnB_ok D.sc).1 (fnB_ok D.sc).2 D.cc) hm F.kp (F.binds (D.bd x x))
end
end MI
end
noncomputable section
namespace MI
open PySem L2
theorem ar4 {us : List Value} (h : us.length = 4) : ∃ a b c d, us = [a, b, c, d] := by
  cases us with
  | nil => cases h
  | cons a r => obtain ⟨b, c, d, rfl⟩ := ar3 (Nat.succ.inj h); exact ⟨a, b, c, d, rfl⟩
noncomputable def top (i : Nat) : Stmt := PySem.Challenge.pw_backorder_k08_refused.main.body.getD i (.Pass ⟨0, 0, 0, 0⟩)
noncomputable abbrev tb0 : CS := ⟨⟨[], [("MOST_THINGS", 1000000)], []⟩, []⟩
noncomputable abbrev s_is_whole : Stmt := top 9
noncomputable abbrev s_first_met : Stmt := top 10
noncomputable abbrev s_is_row : Stmt := top 11
noncomputable abbrev s_need_row : Stmt := top 12
noncomputable abbrev s_are_parts : Stmt := top 13
noncomputable abbrev s_back_of : Stmt := top 30
noncomputable abbrev s_back : Stmt := top 31
noncomputable abbrev s_ring_from : Stmt := top 16
noncomputable abbrev s_rings_of : Stmt := top 17
noncomputable abbrev s_rings : Stmt := top 18
noncomputable abbrev s_set_ring : Stmt := top 19
noncomputable abbrev s_row_of : Stmt := top 20
noncomputable abbrev s_of_rings : Stmt := top 21
noncomputable abbrev s_greatest_shared : Stmt := top 22
noncomputable abbrev s_turns_of : Stmt := top 23
noncomputable abbrev s_turns : Stmt := top 24
noncomputable abbrev s_behind : Stmt := top 29
noncomputable abbrev s_wrong : Stmt := top 33
noncomputable abbrev s_times : Stmt := top 25
noncomputable abbrev s_written : Stmt := top 53
noncomputable abbrev s_exchanged : Stmt := top 43
noncomputable abbrev s_fronted : Stmt := top 44
noncomputable abbrev s_ended : Stmt := top 45
noncomputable abbrev s_put : Stmt := top 50
noncomputable abbrev s__law_with_row : Stmt := top 61
noncomputable abbrev s__law_with_number : Stmt := top 62
noncomputable abbrev s__law_with_rings : Stmt := top 63
noncomputable abbrev s__law_with_two : Stmt := top 64
noncomputable abbrev s__law_kinds : Stmt := top 60
noncomputable abbrev s__law_told : Stmt := top 65
noncomputable abbrev s__law_cell_at : Stmt := top 55
noncomputable abbrev s__law_draw : Stmt := top 56
noncomputable abbrev s__law_row : Stmt := top 57
noncomputable abbrev s__law_all : Stmt := top 66
noncomputable abbrev s_law : Stmt := top 67
theorem ok_is_whole : Dk tb0 ["value"] ["value"] s_is_whole (defBody s_is_whole) b_is_whole := ⟨by kernel_rfl, by kernel_rfl, fun _ _ _ _ _ _ _ _ _ h => by obtain ⟨_, rfl⟩ := ar1 h; rfl⟩
noncomputable abbrev tb1 : CS := tb0.aT "is_whole" 0
theorem ok_first_met : Dk tb1 ["thing", "met"] ["thing", "met"] s_first_met (defBody s_first_met) b_first_met := ⟨by kernel_rfl, by kernel_rfl, fun _ _ _ _ _ _ _ _ _ h => by obtain ⟨_, _, rfl⟩ := ar2 h; rfl⟩
noncomputable abbrev tb2 : CS := tb1.aI "first_met" 100 1
theorem ok_is_row : Dk tb2 ["value", "met", "thing"] ["value"] s_is_row (defBody s_is_row) b_is_row := ⟨by kernel_rfl, by kernel_rfl, fun _ _ _ _ _ _ _ _ _ h => by obtain ⟨_, rfl⟩ := ar1 h; rfl⟩
noncomputable abbrev tb3 : CS := tb2.aT "is_row" 1
theorem ok_need_row : Dk tb3 ["value"] ["value"] s_need_row (defBody s_need_row) b_need_row := ⟨by kernel_rfl, by kernel_rfl, fun _ _ _ _ _ _ _ _ _ h => by obtain ⟨_, rfl⟩ := ar1 h; rfl⟩
noncomputable abbrev tb4 : CS := tb3.aT "need_row" 2
theorem ok_are_parts : Dk tb4 ["many", "told", "met", "part", "thing"] ["many", "told"] s_are_parts (defBody s_are_parts) b_are_parts := ⟨by kernel_rfl, by kernel_rfl, fun _ _ _ _ _ _ _ _ _ h => by obtain ⟨_, _, rfl⟩ := ar2 h; rfl⟩
noncomputable abbrev tb5 : CS := tb4.aT "are_parts" 3
theorem okx_need_row : Dx tb5 ξ0 ["value"] ["value"] s_need_row r_need_row := ⟨by kernel_rfl, by kernel_rfl, fun _ _ _ _ _ _ _ _ _ h => by obtain ⟨_, rfl⟩ := ar1 h; rfl⟩
theorem ok_back_of : Dk tb5 ["row", "told", "place", "thing"] ["row"] s_back_of (defBody s_back_of) b_back_of := ⟨by kernel_rfl, by kernel_rfl, fun _ _ _ _ _ _ _ _ _ h => by obtain ⟨_, rfl⟩ := ar1 h; rfl⟩
noncomputable abbrev tb6 : CS := tb5.aT "back_of" 8
theorem ok_back : Dk tb6 ["row"] ["row"] s_back (defBody s_back) b_back := ⟨by kernel_rfl, by kernel_rfl, fun _ _ _ _ _ _ _ _ _ h => by obtain ⟨_, rfl⟩ := ar1 h; rfl⟩
noncomputable abbrev tb7 : CS := tb6.aT "back" 9
theorem ok_ring_from : Dk tb7 ["row", "first", "met", "ring", "thing"] ["row", "first", "met"] s_ring_from (defBody s_ring_from) b_ring_from := ⟨by kernel_rfl, by kernel_rfl, fun _ _ _ _ _ _ _ _ _ h => by obtain ⟨_, _, _, rfl⟩ := ar3 h; rfl⟩
noncomputable abbrev tb8 : CS := tb7.aI "ring_from" 101 2
theorem ok_rings_of : Dk tb8 ["row", "met", "found", "thing"] ["row"] s_rings_of (defBody s_rings_of) b_rings_of := ⟨by kernel_rfl, by kernel_rfl, fun _ _ _ _ _ _ _ _ _ h => by obtain ⟨_, rfl⟩ := ar1 h; rfl⟩
noncomputable abbrev tb9 : CS := tb8.aT "rings_of" 13
theorem ok_rings : Dk tb9 ["row"] ["row"] s_rings (defBody s_rings) b_rings := ⟨by kernel_rfl, by kernel_rfl, fun _ _ _ _ _ _ _ _ _ h => by obtain ⟨_, rfl⟩ := ar1 h; rfl⟩
noncomputable abbrev tb10 : CS := tb9.aT "rings" 14
theorem ok_set_ring : Dk tb10 ["row", "ring", "steps", "thing", "later"] ["row", "ring", "steps"] s_set_ring (defBody s_set_ring) b_set_ring := ⟨by kernel_rfl, by kernel_rfl, fun _ _ _ _ _ _ _ _ _ h => by obtain ⟨_, _, _, rfl⟩ := ar3 h; rfl⟩
noncomputable abbrev tb11 : CS := tb10.aI "set_ring" 102 0
theorem ok_row_of : Dk tb11 ["many", "told", "row", "ring"] ["many", "told"] s_row_of (defBody s_row_of) b_row_of := ⟨by kernel_rfl, by kernel_rfl, fun _ _ _ _ _ _ _ _ _ h => by obtain ⟨_, _, rfl⟩ := ar2 h; rfl⟩
noncomputable abbrev tb12 : CS := tb11.aT "row_of" 15
theorem ok_of_rings : Dk tb12 ["many", "told"] ["many", "told"] s_of_rings (defBody s_of_rings) b_of_rings := ⟨by kernel_rfl, by kernel_rfl, fun _ _ _ _ _ _ _ _ _ h => by obtain ⟨_, _, rfl⟩ := ar2 h; rfl⟩
noncomputable abbrev tb13 : CS := tb12.aT "of_rings" 16
theorem ok_greatest_shared : Dk tb13 ["one", "other", "rest"] ["one", "other"] s_greatest_shared (defBody s_greatest_shared) b_greatest_shared := ⟨by kernel_rfl, by kernel_rfl, fun _ _ _ _ _ _ _ _ _ h => by obtain ⟨_, _, rfl⟩ := ar2 h; rfl⟩
noncomputable abbrev tb14 : CS := tb13.aT "greatest_shared" 17
theorem ok_turns_of : Dk tb14 ["found", "number", "length"] ["found"] s_turns_of (defBody s_turns_of) b_turns_of := ⟨by kernel_rfl, by kernel_rfl, fun _ _ _ _ _ _ _ _ _ h => by obtain ⟨_, rfl⟩ := ar1 h; rfl⟩
noncomputable abbrev tb15 : CS := tb14.aT "turns_of" 18
theorem ok_turns : Dk tb15 ["row"] ["row"] s_turns (defBody s_turns) b_turns := ⟨by kernel_rfl, by kernel_rfl, fun _ _ _ _ _ _ _ _ _ h => by obtain ⟨_, rfl⟩ := ar1 h; rfl⟩
noncomputable abbrev tb16 : CS := tb15.aT "turns" 19
theorem okx_behind : Dx tb16 ξ1 ["one", "other"] ["one", "other"] s_behind r_behind := ⟨by kernel_rfl, by kernel_rfl, fun _ _ _ _ _ _ _ _ _ h => by obtain ⟨_, _, rfl⟩ := ar2 h; rfl⟩
theorem okx_back : Dx tb16 ξ2 ["row"] ["row"] s_back r_back := ⟨by kernel_rfl, by kernel_rfl, fun _ _ _ _ _ _ _ _ _ h => by obtain ⟨_, rfl⟩ := ar1 h; rfl⟩
theorem okx_wrong : Dx tb16 ξ3 ["row", "pairs", "numbers", "greatest"] ["row"] s_wrong r_wrong := ⟨by kernel_rfl, by kernel_rfl, fun _ _ _ _ _ _ _ _ _ h => by obtain ⟨_, rfl⟩ := ar1 h; rfl⟩
theorem okx_rings : Dx tb16 ξ4 ["row"] ["row"] s_rings r_rings := ⟨by kernel_rfl, by kernel_rfl, fun _ _ _ _ _ _ _ _ _ h => by obtain ⟨_, rfl⟩ := ar1 h; rfl⟩
theorem okx_times : Dx tb16 ξ5 ["row", "number", "found", "rest", "told", "ring"] ["row", "number"] s_times r_times := ⟨by kernel_rfl, by kernel_rfl, fun _ _ _ _ _ _ _ _ _ h => by obtain ⟨_, _, rfl⟩ := ar2 h; rfl⟩
theorem okx_turns : Dx tb16 ξ6 ["row"] ["row"] s_turns r_turns := ⟨by kernel_rfl, by kernel_rfl, fun _ _ _ _ _ _ _ _ _ h => by obtain ⟨_, rfl⟩ := ar1 h; rfl⟩
theorem okx_written : Dx tb16 ξ7 ["row"] ["row"] s_written r_written := ⟨by kernel_rfl, by kernel_rfl, fun _ _ _ _ _ _ _ _ _ h => by obtain ⟨_, rfl⟩ := ar1 h; rfl⟩
theorem okx_exchanged : Dx tb16 ξ8 ["row", "found", "pairs", "ring"] ["row"] s_exchanged r_exchanged := ⟨by kernel_rfl, by kernel_rfl, fun _ _ _ _ _ _ _ _ _ h => by obtain ⟨_, rfl⟩ := ar1 h; rfl⟩
theorem okx_fronted : Dx tb16 ξ9 ["row", "left"] ["row"] s_fronted r_fronted := ⟨by kernel_rfl, by kernel_rfl, fun _ _ _ _ _ _ _ _ _ h => by obtain ⟨_, rfl⟩ := ar1 h; rfl⟩
theorem okx_ended : Dx tb16 ξ10 ["row", "lengths", "longest", "behind_run", "to_front", "to_back"] ["row"] s_ended r_ended := ⟨by kernel_rfl, by kernel_rfl, fun _ _ _ _ _ _ _ _ _ h => by obtain ⟨_, rfl⟩ := ar1 h; rfl⟩
theorem okx_put : Dx tb16 ξ11 ["row", "falls"] ["row"] s_put r_put := ⟨by kernel_rfl, by kernel_rfl, fun _ _ _ _ _ _ _ _ _ h => by obtain ⟨_, rfl⟩ := ar1 h; rfl⟩
theorem okx_of_rings : Dx tb16 ξ12 ["many", "told"] ["many", "told"] s_of_rings r_of_rings := ⟨by kernel_rfl, by kernel_rfl, fun _ _ _ _ _ _ _ _ _ h => by obtain ⟨_, _, rfl⟩ := ar2 h; rfl⟩
theorem okx__law_with_row : Dx tb16 ξ13 ["_law_door", "_law_row_here"] ["_law_door", "_law_row_here"] s__law_with_row r__law_with_row := ⟨by kernel_rfl, by kernel_rfl, fun _ _ _ _ _ _ _ _ _ h => by obtain ⟨_, _, rfl⟩ := ar2 h; rfl⟩
theorem okx__law_with_number : Dx tb16 ξ14 ["_law_door", "_law_thing"] ["_law_door", "_law_thing"] s__law_with_number r__law_with_number := ⟨by kernel_rfl, by kernel_rfl, fun _ _ _ _ _ _ _ _ _ h => by obtain ⟨_, _, rfl⟩ := ar2 h; rfl⟩
theorem okx__law_with_rings : Dx tb16 ξ15 ["_law_door", "_law_thing"] ["_law_door", "_law_thing"] s__law_with_rings r__law_with_rings := ⟨by kernel_rfl, by kernel_rfl, fun _ _ _ _ _ _ _ _ _ h => by obtain ⟨_, _, rfl⟩ := ar2 h; rfl⟩
theorem okx__law_with_two : Dx tb16 ξ16 ["_law_one", "_law_other"] ["_law_one", "_law_other"] s__law_with_two r__law_with_two := ⟨by kernel_rfl, by kernel_rfl, fun _ _ _ _ _ _ _ _ _ h => by obtain ⟨_, _, rfl⟩ := ar2 h; rfl⟩
noncomputable abbrev tb17 : CS := tb16.aT "_law_told" 76
theorem ok__law_cell_at : Dk tb17 ["_law_script", "_law_k"] ["_law_script", "_law_k"] s__law_cell_at (defBody s__law_cell_at) b__law_cell_at := ⟨by kernel_rfl, by kernel_rfl, fun _ _ _ _ _ _ _ _ _ h => by obtain ⟨_, _, rfl⟩ := ar2 h; rfl⟩
noncomputable abbrev tb18 : CS := tb17.aT "_law_cell_at" 50
theorem ok__law_draw : Dk tb18 ["_law_cell", "_law_k", "_law_many", "_law_primes"] ["_law_cell", "_law_k", "_law_many"] s__law_draw (defBody s__law_draw) b__law_draw := ⟨by kernel_rfl, by kernel_rfl, fun _ _ _ _ _ _ _ _ _ h => by obtain ⟨_, _, _, rfl⟩ := ar3 h; rfl⟩
noncomputable abbrev tb19 : CS := tb18.aT "_law_draw" 51
theorem ok__law_row : Dk tb19 ["_law_script", "_law_kind", "_law_row_here", "_law_k", "_law_away"] ["_law_script"] s__law_row (defBody s__law_row) b__law_row := ⟨by kernel_rfl, by kernel_rfl, fun _ _ _ _ _ _ _ _ _ h => by obtain ⟨_, rfl⟩ := ar1 h; rfl⟩
noncomputable abbrev tb20 : CS := tb19.aT "_law_row" 52
theorem ok__law_all : Dk tb20 ["_law_ask", "_law_doors", "_law_things", "_law_due", "_law_door"] ["_law_ask", "_law_doors", "_law_things", "_law_due"] s__law_all (defBody s__law_all) b__law_all := ⟨by kernel_rfl, by kernel_rfl, fun _ _ _ _ _ _ _ _ _ h => by obtain ⟨_, _, _, _, rfl⟩ := ar4 h; rfl⟩
noncomputable abbrev tb21 : CS := tb20.aT "_law_all" 77
theorem ok_law : Dk tb21 ["_law_script", "_law_far", "_law_due", "_law_k", "_law_row_here", "_law_many", "_law_kept", "_law_rows", "_law_at", "_law_numbers_here", "_law_told_here"] ["_law_script"] s_law (defBody s_law) b_law := ⟨by kernel_rfl, by kernel_rfl, fun _ _ _ _ _ _ _ _ _ h => by obtain ⟨_, rfl⟩ := ar1 h; rfl⟩
theorem kinds_b : ∃ q1 q2 q3 q4 q5 q6 p1 p2 p3 p4 p5 p6 p7, defBody s__law_kinds = [.Assign [.Name "_law_found" p1] (.List [iB "BadRow" q1, iB "BadNumber" q2, iB "BadRings" q3] p2) p3, .Return (some (.BinOp (.Name "_law_found" p4) .Add (.List [iB "Unlike" q4, iB "BadText" q5, iB "ValueError" q6] p5) p6)) p7] := ⟨(⟨317, 18, 317, 28⟩, ⟨317, 29, 317, 39⟩, ⟨317, 41, 317, 47⟩, ⟨317, 18, 317, 48⟩), (⟨317, 50, 317, 60⟩, ⟨317, 61, 317, 71⟩, ⟨317, 73, 317, 82⟩, ⟨317, 50, 317, 83⟩), (⟨317, 85, 317, 95⟩, ⟨317, 96, 317, 106⟩, ⟨317, 108, 317, 116⟩, ⟨317, 85, 317, 117⟩), (⟨318, 25, 318, 35⟩, ⟨318, 36, 318, 46⟩, ⟨318, 48, 318, 54⟩, ⟨318, 25, 318, 55⟩), (⟨318, 57, 318, 67⟩, ⟨318, 68, 318, 78⟩, ⟨318, 80, 318, 87⟩, ⟨318, 57, 318, 88⟩), (⟨318, 90, 318, 100⟩, ⟨318, 101, 318, 111⟩, ⟨318, 113, 318, 123⟩, ⟨318, 90, 318, 124⟩), ⟨317, 4, 317, 14⟩, ⟨317, 17, 317, 118⟩, ⟨317, 4, 317, 118⟩, ⟨318, 11, 318, 21⟩, ⟨318, 24, 318, 125⟩, ⟨318, 11, 318, 125⟩, ⟨318, 4, 318, 125⟩, by kernel_rfl⟩
theorem kinds_s : fnB ["_law_error", "_law_found"] ["_law_error"] s__law_kinds = true := by kernel_rfl
theorem kinds_n : ((defScope s__law_kinds).names.lookup ("_law_error" : Str), (defScope s__law_kinds).names.lookup ("_law_found" : Str)) = (some .local, some .local) := by kernel_rfl
theorem kinds_g : ((("isinstance" : Str) :: "ValueError" :: XN).all fun x => decide ((defScope s__law_kinds).names.lookup x = some .globalImplicit)) = true := by kernel_rfl
theorem kinds_ok {K : W.Frag} {mg : Str → Option Value} {f : Addr} {fd : FuncData} (F : Fun K "_law_kinds" "_law_kinds" s__law_kinds f fd) (hm : mg "_law_kinds" = some (.ref f)) : Kinds K mg s__law_kinds f fd := ⟨F, (fnB_ok kinds_s).1, (Prod.mk.inj kinds_n).1, (Prod.mk.inj kinds_n).2, fun x hx => odt (List.all_eq_true.mp kinds_g x hx), hm, F.binds (fun _ _ _ _ _ _ _ h => by obtain ⟨_, rfl⟩ := ar1 h; rfl), kinds_b⟩
theorem told_b : ∃ a1 a2 a3 a4 a5 a6 a7 a8 a9 a10 a11 a12 b1 b2, defBody s__law_told = [.Try [.Expr (.Call (.Name "_law_ask" a1) [.Name "_law_one" a2, .Name "_law_other" a3] [] a4) a5] [.ExceptHandler (some (.Name "OrderError" a6)) (some "_law_error") [.Return (some (.Call (.Name "_law_kinds" a7) [.Name "_law_error" a8] [] a9)) a10] a11] [] [] a12, .Return (some (.List [] b1)) b2] := ⟨⟨335, 8, 335, 16⟩, ⟨335, 17, 335, 25⟩, ⟨335, 27, 335, 37⟩, ⟨335, 8, 335, 38⟩, ⟨335, 8, 335, 38⟩, ⟨336, 11, 336, 21⟩, ⟨337, 15, 337, 25⟩, ⟨337, 26, 337, 36⟩, ⟨337, 15, 337, 37⟩, ⟨337, 8, 337, 37⟩, ⟨336, 4, 337, 37⟩, ⟨334, 4, 337, 37⟩, ⟨338, 11, 338, 13⟩, ⟨338, 4, 338, 13⟩, by kernel_rfl⟩
theorem told_s : fnB ["_law_ask", "_law_one", "_law_other", "_law_error"] ["_law_ask", "_law_one", "_law_other"] s__law_told = true := by kernel_rfl
theorem told_l : ((["_law_ask", "_law_one", "_law_other", "_law_error"] : List Str).all fun x => decide ((defScope s__law_told).names.lookup x = some .local)) = true := by kernel_rfl
theorem told_g : ((["OrderError", "_law_kinds"] : List Str).all fun x => decide ((defScope s__law_told).names.lookup x = some .globalImplicit)) = true := by kernel_rfl
theorem told_ok {K : W.Frag} {f : Addr} {fd : FuncData} (F : Fun K "_law_told" "_law_told" s__law_told f fd) : ToldS K s__law_told f fd := ⟨F, (fnB_ok told_s).1, fun x hx => odt (List.all_eq_true.mp told_l x hx), fun x hx => odt (List.all_eq_true.mp told_g x hx), told_b⟩
theorem told_bd {K : W.Frag} {f : Addr} {fd : FuncData} (F : Fun K "_law_told" "_law_told" s__law_told f fd) : Binds K fd ["_law_ask", "_law_one", "_law_other"] [] := F.binds (fun _ _ _ _ _ _ _ h => by obtain ⟨_, _, _, rfl⟩ := ar3 h; rfl)
end MI
end
noncomputable section
namespace MI
open PySem L2 PyProof.Rows
noncomputable def lQ : Asks := ⟨(["is_whole", "first_met", "is_row", "need_row", "are_parts", "back_of", "back", "ring_from", "rings_of", "rings", "set_ring", "row_of", "of_rings", "greatest_shared", "turns_of", "turns"] : List Str) ++ (["behind", "wrong", "times", "written", "exchanged", "fronted", "ended", "put", "_law_with_row", "_law_with_number", "_law_with_rings", "_law_with_two", "_law_kinds", "_law_told", "_law_cell_at", "_law_draw"] : List Str) ++ (["_law_row", "_law_all", "law"] : List Str), [], ["MOST_THINGS"], BLT ++ (["ValueError"] : List Str), [], []⟩
noncomputable def lDue : Look := ([fDue "is_whole" s_is_whole, fDue "first_met" s_first_met, fDue "is_row" s_is_row, fDue "need_row" s_need_row, fDue "are_parts" s_are_parts, fDue "back_of" s_back_of, fDue "back" s_back, fDue "ring_from" s_ring_from, fDue "rings_of" s_rings_of, fDue "rings" s_rings, fDue "set_ring" s_set_ring, fDue "row_of" s_row_of, fDue "of_rings" s_of_rings, fDue "greatest_shared" s_greatest_shared, fDue "turns_of" s_turns_of, fDue "turns" s_turns, fDue "behind" s_behind, fDue "wrong" s_wrong, fDue "times" s_times, fDue "written" s_written, fDue "exchanged" s_exchanged, fDue "fronted" s_fronted, fDue "ended" s_ended, fDue "put" s_put, fDue "_law_with_row" s__law_with_row, fDue "_law_with_number" s__law_with_number, fDue "_law_with_rings" s__law_with_rings, fDue "_law_with_two" s__law_with_two, fDue "_law_kinds" s__law_kinds, fDue "_law_told" s__law_told, fDue "_law_cell_at" s__law_cell_at, fDue "_law_draw" s__law_draw, fDue "_law_row" s__law_row, fDue "_law_all" s__law_all, fDue "law" s_law], [], [some 1000000], true)
theorem facts {l : W.OpenLaw} {w : World} {mg : Str → Option Value} {fa : Addr} {K : W.Frag} {h : Heap} (X : K.In h) (G : h.Ns mainGlobals mg) (hfa : mg "law" = some (.ref fa)) (e : look lQ K = lDue) : ∃ (cl : Nat → Option Addr) (fd : FuncData), (∀ (s : Shared) (u : Value), BindsTo s fd ⟨[u], []⟩ [("_law_script", u)]) ∧ ∀ base : Heap, K.In base → base.Ns mainGlobals mg → FnOk l.prog w K mg base CX0 39 fa fd ["_law_script"] (spP K cl g_law) := by
  obtain ⟨e1, e⟩ := Prod.mk.inj e
  obtain ⟨e2, e⟩ := Prod.mk.inj e
  obtain ⟨e3, e4⟩ := Prod.mk.inj e
  obtain ⟨e4, e⟩ := bae e4
  obtain ⟨e5, e6⟩ := bae e
  obtain ⟨_, e7⟩ := bae e6
  have hcl : ClsOk K (clOf K []) := allC_ok e5
  have gm : ∀ {x : Str} {a : Addr}, W.nsIn K mainGlobals x = some (some (.ref a)) → mg x = some (.ref a) := fun h => W.mg_of X G h
  obtain ⟨xk, xo, xf⟩ := xB_ok (mg := mg) e7 fun x a h => gm h
  obtain ⟨f1, d1, F1, a1, e1⟩ := fG e1
  obtain ⟨f2, d2, F2, a2, e1⟩ := fG e1
  obtain ⟨f3, d3, F3, a3, e1⟩ := fG e1
  obtain ⟨f4, d4, F4, a4, e1⟩ := fG e1
  obtain ⟨f5, d5, F5, a5, e1⟩ := fG e1
  obtain ⟨f6, d6, F6, a6, e1⟩ := fG e1
  obtain ⟨f7, d7, F7, a7, e1⟩ := fG e1
  obtain ⟨f8, d8, F8, a8, e1⟩ := fG e1
  obtain ⟨f9, d9, F9, a9, e1⟩ := fG e1
  obtain ⟨f10, d10, F10, a10, e1⟩ := fG e1
  obtain ⟨f11, d11, F11, a11, e1⟩ := fG e1
  obtain ⟨f12, d12, F12, a12, e1⟩ := fG e1
  obtain ⟨f13, d13, F13, a13, e1⟩ := fG e1
  obtain ⟨f14, d14, F14, a14, e1⟩ := fG e1
  obtain ⟨f15, d15, F15, a15, e1⟩ := fG e1
  obtain ⟨f16, d16, F16, a16, e1⟩ := fG e1
  obtain ⟨f17, d17, F17, a17, e1⟩ := fG e1
  obtain ⟨f18, d18, F18, a18, e1⟩ := fG e1
  obtain ⟨f19, d19, F19, a19, e1⟩ := fG e1
  obtain ⟨f20, d20, F20, a20, e1⟩ := fG e1
  obtain ⟨f21, d21, F21, a21, e1⟩ := fG e1
  obtain ⟨f22, d22, F22, a22, e1⟩ := fG e1
  obtain ⟨f23, d23, F23, a23, e1⟩ := fG e1
  obtain ⟨f24, d24, F24, a24, e1⟩ := fG e1
  obtain ⟨f25, d25, F25, a25, e1⟩ := fG e1
  obtain ⟨f26, d26, F26, a26, e1⟩ := fG e1
  obtain ⟨f27, d27, F27, a27, e1⟩ := fG e1
  obtain ⟨f28, d28, F28, a28, e1⟩ := fG e1
  obtain ⟨f29, d29, F29, a29, e1⟩ := fG e1
  obtain ⟨f30, d30, F30, a30, e1⟩ := fG e1
  obtain ⟨f31, d31, F31, a31, e1⟩ := fG e1
  obtain ⟨f32, d32, F32, a32, e1⟩ := fG e1
  obtain ⟨f33, d33, F33, a33, e1⟩ := fG e1
  obtain ⟨f34, d34, F34, a34, e1⟩ := fG e1
  obtain ⟨t, e1⟩ := List.cons.inj e1
  obtain ⟨f35, od35, an35, sl35, oc35, kV35, dc35, pm35, cd35, ct35, a35, l35, c35, k35⟩ := fSee_ok t
  have F35 := fun_mk (st := s_law) l35 c35 k35
  have e := hfa.symm.trans (W.mg_of X G a35)
  cases e
  refine ⟨clOf K [], W.fnOf "law" "law" (defArgs s_law) (defBody s_law) (defScope s_law) .none kV35 dc35 pm35 an35 cd35 ct35, fun s v => .of_eq rfl, fun base XB _ => ?_⟩
  have zs0 : ∀ x ∈ BLT ++ (["ValueError"] : List Str), mg x = none := fun x hx => W.mg_none_of X G (bSee_ok (List.all_eq_true.mp e4 x hx))
  have zs : ∀ x ∈ BLT, mg x = none := fun x hx => zs0 x (List.mem_append_left _ hx)
  have hv0 : mg "ValueError" = none := zs0 "ValueError" (by decide)
  have gs : ∀ (x : Str) (i : Int), List.lookup x ([("MOST_THINGS", 1000000)] : List (Str × Int)) = some i → ∃ t, mg x = some (.int i t) := fun x i h => by
    rw [List.lookup_cons] at h
    split at h
    · rename_i q
      have q : x = "MOST_THINGS" := by simpa using q
      subst q
      cases h
      obtain ⟨t, e3⟩ := List.cons.inj e3
      obtain ⟨t, h⟩ := gSee_ok t
      exact ⟨t, W.mg_of X G h⟩
    · cases h
  have co : ∀ (x : Str) (j : Nat), List.lookup x ([] : List (Str × Nat)) = some j → ∃ J, clOf K [] j = some J ∧ mg x = some (.ref J) := fun x j h => by cases h
  have L0 : Lw l.prog w K mg base (clOf K []) ⟨⟨[], [("MOST_THINGS", 1000000)], []⟩, []⟩ Γ0 Δ0 0 := Lw.start zs gs hcl co xf
  have M0 : LwX l.prog w K mg base (clOf K []) Ξ0 ξ0 0 := LwX.start (xo base XB)
  have L1 : Lw _ _ _ _ _ _ _ Γ1 Δ0 _ := L0.sP (f := 0) rfl F1 ok_is_whole (gm a1)
  have M1 := M0.mono (Nat.le_succ _)
  have L2 : Lw _ _ _ _ _ _ _ Γ1 Δ1 _ := L1.sI (f := 100) (j := 1) rfl F2 ok_first_met (gm a2)
  have M2 := M1.mono (Nat.le_succ _)
  have L3 : Lw _ _ _ _ _ _ _ Γ2 Δ1 _ := L2.sP (f := 1) rfl F3 ok_is_row (gm a3)
  have M3 := M2.mono (Nat.le_succ _)
  have L4 : Lw _ _ _ _ _ _ _ Γ3 Δ1 _ := L3.sP (f := 2) rfl F4 ok_need_row (gm a4)
  have M4 := M3.mono (Nat.le_succ _)
  have L5 : Lw _ _ _ _ _ _ _ Γ4 Δ1 _ := L4.sP (f := 3) rfl F5 ok_are_parts (gm a5)
  have M5 := M4.mono (Nat.le_succ _)
  have M6 : LwX _ _ _ _ _ _ Ξ1 ξ1 _ := M5.sX (j := 0) L5 rfl F4 okx_need_row (gm a4)
  have L6 := L5.mono (Nat.le_succ _)
  have L7 : Lw _ _ _ _ _ _ _ Γ5 Δ1 _ := L6.sP (f := 8) rfl F6 ok_back_of (gm a6)
  have M7 := M6.mono (Nat.le_succ _)
  have L8 : Lw _ _ _ _ _ _ _ Γ6 Δ1 _ := L7.sP (f := 9) rfl F7 ok_back (gm a7)
  have M8 := M7.mono (Nat.le_succ _)
  have L9 : Lw _ _ _ _ _ _ _ Γ6 Δ2 _ := L8.sI (f := 101) (j := 2) rfl F8 ok_ring_from (gm a8)
  have M9 := M8.mono (Nat.le_succ _)
  have L10 : Lw _ _ _ _ _ _ _ Γ7 Δ2 _ := L9.sP (f := 13) rfl F9 ok_rings_of (gm a9)
  have M10 := M9.mono (Nat.le_succ _)
  have L11 : Lw _ _ _ _ _ _ _ Γ8 Δ2 _ := L10.sP (f := 14) rfl F10 ok_rings (gm a10)
  have M11 := M10.mono (Nat.le_succ _)
  have L12 : Lw _ _ _ _ _ _ _ Γ8 Δ3 _ := L11.sI (f := 102) (j := 0) rfl F11 ok_set_ring (gm a11)
  have M12 := M11.mono (Nat.le_succ _)
  have L13 : Lw _ _ _ _ _ _ _ Γ9 Δ3 _ := L12.sP (f := 15) rfl F12 ok_row_of (gm a12)
  have M13 := M12.mono (Nat.le_succ _)
  have L14 : Lw _ _ _ _ _ _ _ Γ10 Δ3 _ := L13.sP (f := 16) rfl F13 ok_of_rings (gm a13)
  have M14 := M13.mono (Nat.le_succ _)
  have L15 : Lw _ _ _ _ _ _ _ Γ11 Δ3 _ := L14.sP (f := 17) rfl F14 ok_greatest_shared (gm a14)
  have M15 := M14.mono (Nat.le_succ _)
  have L16 : Lw _ _ _ _ _ _ _ Γ12 Δ3 _ := L15.sP (f := 18) rfl F15 ok_turns_of (gm a15)
  have M16 := M15.mono (Nat.le_succ _)
  have L17 : Lw _ _ _ _ _ _ _ Γ13 Δ3 _ := L16.sP (f := 19) rfl F16 ok_turns (gm a16)
  have M17 := M16.mono (Nat.le_succ _)
  have M18 : LwX _ _ _ _ _ _ Ξ2 ξ2 _ := M17.sX (j := 1) L17 rfl F17 okx_behind (gm a17)
  have L18 := L17.mono (Nat.le_succ _)
  have M19 : LwX _ _ _ _ _ _ Ξ3 ξ3 _ := M18.sX (j := 2) L18 rfl F7 okx_back (gm a7)
  have L19 := L18.mono (Nat.le_succ _)
  have M20 : LwX _ _ _ _ _ _ Ξ4 ξ4 _ := M19.sX (j := 3) L19 rfl F18 okx_wrong (gm a18)
  have L20 := L19.mono (Nat.le_succ _)
  have M21 : LwX _ _ _ _ _ _ Ξ5 ξ5 _ := M20.sX (j := 4) L20 rfl F10 okx_rings (gm a10)
  have L21 := L20.mono (Nat.le_succ _)
  have M22 : LwX _ _ _ _ _ _ Ξ6 ξ6 _ := M21.sX (j := 5) L21 rfl F19 okx_times (gm a19)
  have L22 := L21.mono (Nat.le_succ _)
  have M23 : LwX _ _ _ _ _ _ Ξ7 ξ7 _ := M22.sX (j := 6) L22 rfl F16 okx_turns (gm a16)
  have L23 := L22.mono (Nat.le_succ _)
  have M24 : LwX _ _ _ _ _ _ Ξ8 ξ8 _ := M23.sX (j := 7) L23 rfl F20 okx_written (gm a20)
  have L24 := L23.mono (Nat.le_succ _)
  have M25 : LwX _ _ _ _ _ _ Ξ9 ξ9 _ := M24.sX (j := 8) L24 rfl F21 okx_exchanged (gm a21)
  have L25 := L24.mono (Nat.le_succ _)
  have M26 : LwX _ _ _ _ _ _ Ξ10 ξ10 _ := M25.sX (j := 9) L25 rfl F22 okx_fronted (gm a22)
  have L26 := L25.mono (Nat.le_succ _)
  have M27 : LwX _ _ _ _ _ _ Ξ11 ξ11 _ := M26.sX (j := 10) L26 rfl F23 okx_ended (gm a23)
  have L27 := L26.mono (Nat.le_succ _)
  have M28 : LwX _ _ _ _ _ _ Ξ12 ξ12 _ := M27.sX (j := 11) L27 rfl F24 okx_put (gm a24)
  have L28 := L27.mono (Nat.le_succ _)
  have M29 : LwX _ _ _ _ _ _ Ξ13 ξ13 _ := M28.sX (j := 12) L28 rfl F13 okx_of_rings (gm a13)
  have L29 := L28.mono (Nat.le_succ _)
  have M30 : LwX _ _ _ _ _ _ Ξ14 ξ14 _ := M29.sX (j := 13) L29 rfl F25 okx__law_with_row (gm a25)
  have L30 := L29.mono (Nat.le_succ _)
  have M31 : LwX _ _ _ _ _ _ Ξ15 ξ15 _ := M30.sX (j := 14) L30 rfl F26 okx__law_with_number (gm a26)
  have L31 := L30.mono (Nat.le_succ _)
  have M32 : LwX _ _ _ _ _ _ Ξ16 ξ16 _ := M31.sX (j := 15) L31 rfl F27 okx__law_with_rings (gm a27)
  have L32 := L31.mono (Nat.le_succ _)
  have M33 : LwX _ _ _ _ _ _ Ξ17 ξ17 _ := M32.sX (j := 16) L32 rfl F28 okx__law_with_two (gm a28)
  have L33 := L32.mono (Nat.le_succ _)
  have L34 : Lw _ _ _ _ _ _ tb17 Γ14 Δ3 _ := L33.join (f := 76) (by decide) rfl (def_told M33 xk (kinds_ok F29 (gm a29)) (told_ok F30) (fun x a h => gm h) (zs "isinstance" (by decide)) hv0) (gm a30) F30.kp (told_bd F30)
  have M34 := M33.mono (Nat.le_succ _)
  have L35 : Lw _ _ _ _ _ _ _ Γ15 Δ3 _ := L34.sP (f := 50) rfl F31 ok__law_cell_at (gm a31)
  have M35 := M34.mono (Nat.le_succ _)
  have L36 : Lw _ _ _ _ _ _ _ Γ16 Δ3 _ := L35.sP (f := 51) rfl F32 ok__law_draw (gm a32)
  have M36 := M35.mono (Nat.le_succ _)
  have L37 : Lw _ _ _ _ _ _ _ Γ17 Δ3 _ := L36.sP (f := 52) rfl F33 ok__law_row (gm a33)
  have M37 := M36.mono (Nat.le_succ _)
  have L38 : Lw _ _ _ _ _ _ _ Γ18 Δ3 _ := L37.sP (f := 77) rfl F34 ok__law_all (gm a34)
  have M38 := M37.mono (Nat.le_succ _)
  exact L38.sL F35 ok_law
end MI
end
namespace MI
open PySem PySem.W PyProof.Rows L2
noncomputable def lNames : List Str := (["_wall", "OrderError", "BadRow", "BadNumber", "BadRings", "Unlike", "BadText", "is_whole", "first_met", "is_row", "need_row", "are_parts", "MOST_THINGS", "ring_from", "rings_of", "rings"] : List Str) ++ (["set_ring", "row_of", "of_rings", "greatest_shared", "turns_of", "turns", "times", "Marks", "behind", "back_of", "back", "wrong_by_last_bit", "wrong", "run_lengths", "copied", "Answer"] : List Str) ++ (["Exchanged", "Fronted", "Ended", "Put", "exchanged", "fronted", "ended", "first_greater", "falls_of", "risers", "moves_beside", "put", "NO_THINGS", "written", "_law_cell_at", "_law_draw"] : List Str) ++ (["_law_row", "_law_numbers", "_law_pairs", "_law_kinds", "_law_with_row", "_law_with_number", "_law_with_rings", "_law_with_two", "_law_told", "_law_all"] : List Str)
theorem left : LeftO PySem.Challenge.pw_backorder_k08_refused (view PySem.Challenge.pw_backorder_k08_refused [67]) lNames (fun s => xlAt (view PySem.Challenge.pw_backorder_k08_refused [67]) [] s && recOk (RowW.records PySem.Challenge.rw_backorder_k08_refused.row.toRowW) s) (lHook lQ lDue).obs (lHook lQ lDue).val 12000 := left_tree (look_T lQ lDue) (by kernel_rfl) (by decide) (fun s => by kernel_rfl) fun w os => by kernel_rfl
end MI
open PySem PySem.W PyProof.Rows
set_option maxHeartbeats 0 in
theorem PySem.Challenge.cw_backorder_k08_refused_holds : PySem.Challenge.rw_backorder_k08_refused.Holds := by
  refine holds_law (by kernel_rfl) fun said => ?_
  refine holds_open (q := view PySem.Challenge.pw_backorder_k08_refused [67]) (loose := MI.lNames) (XP := XL (view PySem.Challenge.pw_backorder_k08_refused [67]) []) (YP := (MI.lHook MI.lQ MI.lDue).says) MI.left (MI.lHook MI.lQ MI.lDue).of (MI.lHook MI.lQ MI.lDue).keeps (fun s e => xl_of s (Bool.and_eq_true_iff.mp e).1) XL.keeps (by rfl) (by rfl) (by rfl) (fun s e => recFacts_of (Bool.and_eq_true_iff.mp e).2) (by rfl) (by first | assumption | decide +kernel) (by decide +kernel) ⟨rfl, rfl, rfl, rfl, rfl, by decide +kernel⟩ ?hw ?hc
  case hw => w_witness2
  case hc => exact MI.walkL (l := PySem.Challenge.rw_backorder_k08_refused) (n := 63) (k := 39) (x := "_law_script") (g := MI.g_law) rfl (by decide) rfl ⟨rfl, by decide, by decide⟩ (fun w mg fa K h KX G hmg e => MI.facts KX G hmg e) MI.law_ok
#print axioms PySem.Challenge.cw_backorder_k08_refused_holds
