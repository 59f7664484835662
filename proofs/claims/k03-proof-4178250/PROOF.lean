import PyProof.Rows.All
import Wide.All
import OpenK.AllK
import Wide.FinOn
import PyProof.EqAt
import PyProof.EqKinds
import PyProof.TupleCall
import Lean
import PySem.Challenge.RW_backorder_k03_whole_put
set_option Elab.async false
set_option linter.all false
set_option maxRecDepth 100000
theorem bg{a b:Bool}(h:(a&&b)=true):a=true∧b=true:=(Bool.and_eq_true _ _).mp h
theorem obs{α β:Type}(a:α)(f:α→Option β):(some a).bind f=f a:=rfl
theorem de{p:Prop}[i:Decidable p](h:p):decide p=true:=decide_eq_true h
theorem eC{p:Prop}[i:Decidable p](h:¬p):decide p=false:=decide_eq_false h
theorem fm{p:Prop}[i:Decidable p](h:decide p=true):p:=of_decide_eq_true h
theorem kQ:false≠true:=Bool.false_ne_true
theorem zN{α:Type}{q:α}{P:Prop}(h:none=some q):P:=nomatch h
theorem zF{P:Prop}(h:false=true):P:=nomatch h
theorem zS{α:Type}{a b:α}(h:some a=some b):b=a:=(Option.some.inj h).symm
local macro_rules|`(tactic|cases $h:ident)=>`(tactic|first|exact zN $h|exact zF $h|(replace $h := zS $h;subst $h)|cases ($h))
theorem af{α β:Type}{o:Option α}{f:α→Option β}{b:β}(h:o.bind f=some b):∃a,o=some a∧f a=some b:=Option.bind_eq_some_iff.mp h
theorem aM{α β:Type}{o:Option α}{f:α→β}{b:β}(h:o.map f=some b):∃a,o=some a∧f a=b:=Option.map_eq_some_iff.mp h
noncomputable section
abbrev j4:=@List.getElem?_eq_some_iff
abbrev lT:=@List.mem_cons_of_mem
abbrev aF:=@if_pos
abbrev aK:=@if_neg
abbrev gK:=@List.getElem?_set_ne
abbrev fY:=@List.mem_cons
abbrev lU:=@List.mem_cons_self
abbrev sF:=@List.lookup_cons
abbrev dr:=@Nat.le_refl
abbrev iO:=@List.nodup_cons
abbrev cK:=@List.all_cons
abbrev iR:=@List.size_toArray
abbrev b9:=@List.length_map
abbrev As:=@Option.map_some
abbrev eE:=@List.getElem?_set_self
abbrev cC:=@Option.some.inj
abbrev gL:=@List.length_cons
abbrev fv:=@List.mem_append
abbrev dP:=@List.length_append
abbrev nK:=@List.mem_append_right
abbrev jV:=@List.getElem?_eq_getElem
abbrev eX:=@List.nodup_append
abbrev fu:=@Nat.ne_of_lt
abbrev jU:=@Nat.lt_of_lt_of_le
abbrev MM:=@Array.length_toList
abbrev eK:=@List.getElem?_map
abbrev Gm:=@List.nodup_nil
abbrev Ar:=@List.length_eq_zero_iff
abbrev zc:=@List.filterMap_cons
abbrev nJ:=@List.mem_singleton
abbrev lV:=@List.map_cons
abbrev sN:=@List.length_range
abbrev kY:=@List.mem_range
abbrev v9:=@List.getElem?_append_left
abbrev sJ:=@List.replicate_succ
abbrev kX:=@List.append_nil
abbrev kW:=@List.append_assoc
abbrev uF:=@List.length_singleton
abbrev nI:=@List.all_eq_true
abbrev jT:=@List.flatten_cons
abbrev kU:=@List.length_take
abbrev sH:=@List.contains_iff_mem
abbrev uE:=@List.drop_eq_getElem_cons
abbrev oI:=@List.map_append
abbrev Aq:=@List.mem_append_left
abbrev iQ:=@Nat.zero_le
abbrev jS:=@Nat.le_succ
abbrev nH:=@Nat.le_trans
abbrev qO:=@Nat.zero_add
abbrev zb:=@List.map_map
abbrev Gk:=@List.mem_filter
abbrev v8:=@Int.toNat_natCast
abbrev uD:=@List.mem_of_getElem?
abbrev dS:=@Nat.lt_or_ge
abbrev v7:=@List.mem_map
abbrev v5:=@List.length_reverse
abbrev uC:=@Nat.lt_irrefl
abbrev sG:=@List.length_set
abbrev v3:=@List.length_replicate
abbrev Gj:=@List.length_nil
abbrev Ap:=@List.take_append_drop
end
noncomputable section
namespace L2
open PySem PySem.Spec PyProof.Rows
noncomputable abbrev qN:=Sum Int Str
noncomputable def rL:qN→Value→Bool
 | .inl k,v=>Value.isInt k v
 | .inr x,v=>Value.isStrOf x v
noncomputable def Nf(w:World):qN→Int
 | .inl k=>hashInt k
 | .inr x=>hashStr w x
theorem bP:∀ {k:qN} {v:Value},rL k v=true→(∃i t,k=Sum.inl i∧v=Value.int i t)∨(∃x t,k=Sum.inr x∧v=Value.str x t)
 | .inl i,v,h=>by
   obtain⟨t,e⟩:=Value.isInt_shape (k:=i) (v:=v) h
   exact .inl ⟨i,t,rfl,e⟩
 | .inr x,v,h=>by
   obtain⟨t,e⟩:=Value.isStrOf_shape (x:=x) (v:=v) h
   exact .inr ⟨x,t,rfl,e⟩
theorem zY(i:Int)(t:Tok):rL (.inl i) (.int i t)=true:=by simp [rL,Value.isInt]
theorem zX(x:Str)(t:Tok):rL (.inr x) (.str x t)=true:=by simp [rL,Value.isStrOf]
theorem HR(a b:Int):decide ((Sum.inl a:qN)=Sum.inl b)=(a==b):=by
 by_cases e:a=b
 ·subst e;simp
 ·have h:¬(Sum.inl a:qN)=Sum.inl b:=fun q=>e (Sum.inl.inj q)
  rw [eC h]
  exact(beq_eq_false_iff_ne.mpr e).symm
theorem HN(a b:Str):decide ((Sum.inr a:qN)=Sum.inr b)=decide (a=b):=by
 by_cases e:a=b
 ·subst e;simp
 ·have h:¬(Sum.inr a:qN)=Sum.inr b:=fun q=>e (Sum.inr.inj q)
  rw [eC h,eC e]
theorem HQ(a:Int)(b:Str):decide ((Sum.inl a:qN)=Sum.inr b)=false:=eC (fun q=>nomatch q)
theorem HP(a:Str)(b:Int):decide ((Sum.inr a:qN)=Sum.inl b)=false:=eC (fun q=>nomatch q)
noncomputable def eY(prog:Program)(w:World):PySem.KeyKind prog w qN where
 is:=rL
 hash:=Nf w
 inj:=fun v a b ha hb=>by
  rcases bP ha with⟨i,t,rfl,rfl⟩|⟨x,t,rfl,rfl⟩
  ·rcases bP hb with⟨j,u,rfl,e⟩|⟨y,u,rfl,e⟩
   ·injection e with e1 _;rw [e1]
   ·exact nomatch e
  ·rcases bP hb with⟨j,u,rfl,e⟩|⟨y,u,rfl,e⟩
   ·exact nomatch e
   ·injection e with e1 _;rw [e1]
 byValue:=fun k v h=>by
  rcases bP h with⟨i,t,rfl,rfl⟩|⟨x,t,rfl,rfl⟩<;>rfl
 pyHash:=fun hv h=>by
  rcases bP hv with⟨i,t,rfl,rfl⟩|⟨x,t,rfl,rfl⟩
  ·exact wpAny_pyHash_int h
  ·exact wpAny_pyHash_str h
 eqBool:=fun hu hv h=>by
  rcases bP hu with⟨i,t,rfl,rfl⟩|⟨x,t,rfl,rfl⟩
  ·rcases bP hv with⟨j,u,rfl,rfl⟩|⟨y,u,rfl,rfl⟩
   ·rw [HR]at h;exact wpAny_eqBool_int h
   ·rw [HQ]at h;exact SeqAt.EqAt.int_str i t y u _ _ _ _ h
  ·rcases bP hv with⟨j,u,rfl,rfl⟩|⟨y,u,rfl,rfl⟩
   ·rw [HP]at h;exact SeqAt.EqAt.str_int x t j u _ _ _ _ h
   ·rw [HN]at h;exact wpAny_eqBool_str h
 «strs»:=fun k x t v h=>by
  rcases bP h with⟨i,u,rfl,e⟩|⟨y,u,rfl,e⟩
  ·exact nomatch e
  ·injection e with e1 _
   subst e1
   cases v<;>rfl
theorem vm(prog:Program)(w:World)(i:Int)(t:Tok):(eY prog w).is (.inl i) (.int i t)=true:=zY i t
theorem vj(prog:Program)(w:World)(x:Str)(t:Tok):(eY prog w).is (.inr x) (.str x t)=true:=zX x t
end L2
namespace L2
open PySem PySem.Spec PyProof.Rows
inductive V where
 |non|bl(b:Bool)|int(i:Int)|str(x:Str)|byt(b:Array UInt8)|flt(b:UInt64)|ref(a:Addr)|ty(n:String)
 deriving DecidableEq
noncomputable def aZ:V→Value→Prop
 | .non,u=>u=Value.none
 | .bl b,u=>u=Value.bool b
 | .int i,u=>∃t,u=Value.int i t
 | .str x,u=>∃t,u=Value.str x t
 | .byt b,u=>∃t,u=Value.bytes b t
 | .flt b,u=>∃t,u=Value.float b t
 | .ref a,u=>u=Value.ref a
 | .ty n,u=>u=Value.type n
noncomputable abbrev aJ:List V→List Value→Prop:=Paired aZ
theorem aJ.length(r:aJ xs us):xs.length=us.length:=Paired.length r
theorem aJ.get:∀ {xs:List V} {us:List Value} {i:Nat} {x:V},aJ xs us→xs[i]?=some x→∃u,us[i]?=some u∧aZ x u
 |_,_,_,_,.nil,e=>by simp at e
 |_,_,0,_,.cons r _,e=>by simp at e;subst e;exact⟨_,rfl,r⟩
 |_,_,i+1,x,.cons _ t,e=>by
  obtain⟨u,h1,h2⟩:=aJ.get (i:=i) (x:=x) t (by simpa using e)
  exact⟨u,by simpa using h1,h2⟩
theorem aJ.set(r:aZ x u):∀ {xs:List V} {us:List Value} (i:Nat),aJ xs us→aJ (xs.set i x) (us.set i u)
 |_,_,_,.nil=> .nil
 |_,_,0,.cons _ t=> .cons r t
 |_,_,i+1,.cons q t=> .cons q (aJ.set r i t)
theorem aJ.append:∀ {xs ys:List V} {us ws:List Value},aJ xs us→aJ ys ws→aJ (xs++ys) (us++ws)
 |_,_,_,_,.nil,s=>s
 |_,_,_,_,.cons r t,s=> .cons r (aJ.append t s)
theorem aJ.take:∀ {xs:List V} {us:List Value} (n:Nat),aJ xs us→aJ (xs.take n) (us.take n)
 |_,_,0,_=> .nil
 |_,_,_+1,.nil=> .nil
 |_,_,n+1,.cons r t=> .cons r (aJ.take n t)
theorem aJ.drop:∀ {xs:List V} {us:List Value} (n:Nat),aJ xs us→aJ (xs.drop n) (us.drop n)
 |_,_,0,r=>r
 |_,_,_+1,.nil=> .nil
 |_,_,n+1,.cons _ t=>aJ.drop n t
noncomputable def lR:Option V→Option Value→Prop
 |some v,some u=>aZ v u
 |none,none=>True
 |_,_=>False
noncomputable def KV{κ:Type}:List (κ×V)→List (κ×Value)→Prop:=Paired fun(p:κ×V) (q:κ×Value)=>p.1=q.1∧aZ p.2 q.2
noncomputable def kV:qN→V
 | .inl i=> .int i
 | .inr x=> .str x
inductive HO where
 |lst(xs:List V)
 |tup(xs:List V)
 |dK(kvs:List (qN×V))|dT(kvs:List (List qN×V))
 |set(S:Int→Bool)(n:Nat)
 |ins(C dx:Addr)(fs:List (Str×V))
 |own(x:Addr)
 |xd(fs:List (Str×V))
 |met(f x:Addr)
 |rng(lo hi:Int)
 |frz(o:Obj)(u:HO)
 |tbl(ps:Array Value)
 |ext(φ:Heap→Prop)
noncomputable abbrev Hp:=Addr→Option HO
noncomputable def bp(H:Hp)(a:Addr)(o:HO):Hp:=fun b=>if b=a then some o else H b
theorem ak:bp H a o a=some o:=by unfold bp;rw [aF rfl]
theorem ag(h:b≠a):bp H a o b=H b:=by unfold bp;rw [aK h]
theorem aD{H:Hp}(h:H a=some o)(h':H b=none):a≠b:=by
 intro e;subst e;rw [h]at h';cases h'
section
variable(P:Program)(w:World)
noncomputable def b8(H:Hp)(h:Heap)(a:Addr):HO→Prop
 | .lst xs=>xs.length≤sizeLine∧∃(az:List Value) (n:Nat),aJ xs az∧h.get? a=some {cls:=.type "list",data:=.seq az.toArray n}
 | .tup xs=>xs.length≤sizeLine∧∃az:List Value,aJ xs az∧IsTup h a az.toArray
 | .dK kvs=>kvs.length≤sizeLine∧(a==sysModules)=false∧∃vs,KV kvs vs∧h.DictOf (eY P w) a vs
 | .dT kvs=>kvs.length≤sizeLine∧(a==sysModules)=false∧∃xs:List (List qN×Addr×Value),
    Paired (fun(p:List qN×V) (q:List qN×Addr×Value)=>p.1=q.1∧H q.2.1=some (.tup (p.1.map kV))∧aZ p.2 q.2.2) kvs xs∧
    ∃o es ep,h.get? a=some o∧o.ExactDict∧o.data=.dict es ep∧es.toList=xs.map (entryOfKey (tupleKind (eY P w)))∧(xs.map (·.1)).Nodup
 | .set S n=>h.SetOf (intKind P w) a S n
 | .ins C dx fs=>H dx=some (.own a)∧fs.length≤1000∧dx≠a∧h.get? a=some (W.instObj C dx)∧
    ∃mA,h.Ns1 dx mA∧(∀f,lR (fs.lookup f) (mA f))∧PySem.Within mA (fs.map (·.1))
 | .own _=>∃o,h.get? a=some o
 | .xd fs=>∃mA,h.Ns1 a mA∧∀f,lR (fs.lookup f) (mA f)
 | .rng lo hi=>∃t u v,h.get? a=some {cls:=.type "range",data:=.fields #[.int lo t,.int hi u,.int 1 v]}
 | .frz o u=>h.get? a=some o∧b8 H h a u
 | .tbl ps=>h.get? a=some {cls:=.none,data:=.fields ps}
 | .met f x=>h.get? a=some (W.methodObj (.ref f) (.ref x))
 | .ext φ=>φ h∧(∃o,h.get? a=some o)∧∀h1 h2:Heap,φ h1→(∀o,h1.get? a=some o→h2.get? a=some o)→φ h2
def mU(H:Hp)(h:Heap):Prop:=∀a o,H a=some o→b8 P w H h a o
end
section
variable{P:Program}{w:World}{H H':Hp}{h h':Heap}{a:Addr}{o:HO}
theorem b8.lt(x:b8 P w H h a o):a<h.objs.size:=by
 cases o with
 |lst xs=>obtain⟨_,_,_,_,e⟩:=x;exact Heap.lt_size e
 |tup xs=>obtain⟨_,_,_,p⟩:=x;exact p.lt
 |dK kvs=>obtain⟨_,_,_,_,o,_,_,e,_⟩:=x;exact Heap.lt_size e
 |dT kvs=>obtain⟨_,_,_,_,o,_,_,e,_⟩:=x;exact Heap.lt_size e
 |set S n=>obtain⟨o,_,_,_,e,_⟩:=x;exact Heap.lt_size e
 |ins C dx fs=>obtain⟨_,_,_,e,_⟩:=x;exact Heap.lt_size e
 |own y=>obtain⟨_,e⟩:=x;exact Heap.lt_size e
 |xd fs=>obtain⟨_,⟨_,_,_,e,_⟩,_⟩:=x;exact Heap.lt_size e
 |rng lo hi=>obtain⟨_,_,_,e⟩:=x;exact Heap.lt_size e
 |frz ob u=>obtain⟨e,_⟩:=x;exact Heap.lt_size e
 |tbl ps=>exact Heap.lt_size (show h.get? a=some _ from x)
 |met f y=>exact Heap.lt_size (show h.get? a=some _ from x)
 |ext φ=>obtain⟨_,⟨_,e⟩,_⟩:=x;exact Heap.lt_size e
theorem Paired.Lb{α β:Type}{F G:α→β→Prop}:∀ {l₁:List α} {l₂:List β},Paired F l₁ l₂→(∀a b,F a b→G a b)→Paired G l₁ l₂
 |_,_,.nil,_=> .nil
 |_,_,.cons r t,f=> .cons (f _ _ r) (Paired.Lb t f)
theorem b8.uM(x:b8 P w H h a o)(k:∀b u,(b=a∨H b=some (.own a))→h.get? b=some u→h'.get? b=some u)
 (ho:∀b,H b=some (.own a)→H' b=some (.own a))(ht:∀b xs,H b=some (.tup xs)→H' b=some (.tup xs)):b8 P w H' h' a o:=by
 induction o with
 |lst xs=>obtain⟨z,az,n,r,e⟩:=x;exact⟨z,az,n,r,k _ _ (.inl rfl) e⟩
 |tup xs=>obtain⟨z,az,r,ob,e,c⟩:=x;exact⟨z,az,r,ob,k _ _ (.inl rfl) e,c⟩
 |dK kvs=>obtain⟨z,y,vs,r,ob,es,ep,e,c⟩:=x;exact⟨z,y,vs,r,ob,es,ep,k _ _ (.inl rfl) e,c⟩
 |dT kvs=>
  obtain⟨z,y,xs,r,ob,es,ep,e,c⟩:=x
  exact⟨z,y,xs,Paired.Lb r fun p q z=>⟨z.1,ht _ _ z.2.1,z.2.2⟩,ob,es,ep,k _ _ (.inl rfl) e,c⟩
 |set S n=>obtain⟨ob,es,ep,t,e,c⟩:=x;exact⟨ob,es,ep,t,k _ _ (.inl rfl) e,c⟩
 |ins C dx fs=>
  obtain⟨d,z,ne,e,mA,⟨od,es,ep,e2,c⟩,r⟩:=x
  exact⟨ho _ d,z,ne,k _ _ (.inl rfl) e,mA,⟨od,es,ep,k _ _ (.inr d) e2,c⟩,r⟩
 |own y=>obtain⟨ob,e⟩:=x;exact⟨ob,k _ _ (.inl rfl) e⟩
 |xd fs=>obtain⟨mA,⟨od,es,ep,e,c⟩,r⟩:=x;exact⟨mA,⟨od,es,ep,k _ _ (.inl rfl) e,c⟩,r⟩
 |rng lo hi=>obtain⟨t,u,v,e⟩:=x;exact⟨t,u,v,k _ _ (.inl rfl) e⟩
 |frz ob u ih=>obtain⟨e,q⟩:=x;exact⟨k _ _ (.inl rfl) e,ih q⟩
 |tbl ps=>
  have e:h.get? a=some {cls:=.none,data:=.fields ps}:=x
  show h'.get? a=some {cls:=.none,data:=.fields ps}
  exact k a _ (.inl rfl) e
 |met f y=>
  have e:h.get? a=some (W.methodObj (.ref f) (.ref y)):=x
  show h'.get? a=some (W.methodObj (.ref f) (.ref y))
  exact k a _ (.inl rfl) e
 |ext φ=>obtain⟨p,⟨o,e⟩,st⟩:=x;exact⟨st _ _ p fun o q=>k _ _ (.inl rfl) q,⟨o,k _ _ (.inl rfl) e⟩,st⟩
theorem mU.lt(x:mU P w H h)(e:H a=some o):a<h.objs.size:=(x a o e).lt
theorem mU.fresh(x:mU P w H h)(e:h.objs.size≤a):H a=none:=by
 cases q:H a with
 |none=>rfl
 |some u=>exact absurd (jU (x.lt q) e) (uC _)
theorem mU.kept(x:mU P w H h)(k:∀b u,h.get? b=some u→h'.get? b=some u):mU P w H h':=fun a o e=>
 (x a o e).uM (fun b u _ q=>k b u q) (fun _ q=>q) fun _ _ q=>q
theorem mU.laid(x:mU P w H h)(k:∀b u,h.get? b=some u→h'.get? b=some u)(hp:h.objs.size≤a)(new:b8 P w (bp H a o) h' a o):mU P w (bp H a o) h':=fun b u e=>by
 have hn:=x.fresh hp
 by_cases hb:b=a
 ·subst hb;rw [ak]at e;cases e;exact new
 ·rw [ag hb]at e
  exact(x b u e).uM (fun c v _ q=>k c v q) (fun c q=>by rw [ag (aD q hn)];exact q) fun c xs q=>by rw [ag (aD q hn)];exact q
end
def Rd(H:Hp)(a:Addr)(u:HO):Prop:=H a=some u∨∃o,H a=some (.frz o u)
theorem Rd.ok(r:Rd H a u)(x:mU P w H h):b8 P w H h a u:=by
 rcases r with r|⟨o,r⟩
 ·exact x a u r
 ·obtain⟨_,q⟩:=x a _ r
  exact q
noncomputable def Mp:Option HO→Prop
 |some (.lst _)=>True
 |some (.dK _)=>True
 |some (.dT _)=>True
 |some (.set _ _)=>True
 |some (.ins _ _ _)=>True
 |some (.ext _)=>True
 |_=>False
section
variable{P:Program}{w:World}{H:Hp}{h h':Heap}{x e:Addr}{o':HO}
theorem mU.write(ok:mU P w H h)(mu:Mp (H x))(he:e=x∨H e=some (.own x))(k:∀b u,b≠e→h.get? b=some u→h'.get? b=some u)(heo:∃u,h'.get? e=some u)
 (new:b8 P w (bp H x o') h' x o'):mU P w (bp H x o') h':=fun b u q=>by
 have nown:∀c y,H c=some (.own y)→c≠x:=fun c y r z=>by subst z;rw [r]at mu;exact mu
 have ntup:∀c xs,H c=some (.tup xs)→c≠x:=fun c xs r z=>by subst z;rw [r]at mu;exact mu
 by_cases hb:b=x
 ·subst hb;rw [ak]at q;cases q;exact new
 ·rw [ag hb]at q
  by_cases hbe:b=e
  ·have q':H b=some (.own x):=by
    rcases he with z|z
    ·exact absurd (hbe.trans z) hb
    ·rw [hbe];exact z
   rw [q]at q';cases q'
   obtain⟨v,hv⟩:=heo
   exact⟨v,by rw [hbe];exact hv⟩
  ·refine(ok b u q).uM (fun c v hc r=>k c v ?_ r) (fun c r=>by rw [ag (nown c b r)];exact r) fun c xs r=>by rw [ag (ntup c xs r)];exact r
   rcases hc with rfl|hc
   ·exact hbe
   ·rintro rfl
    rcases he with z|z
    ·exact nown c b hc z
    ·rw [hc]at z;cases z;exact hb rfl
end
structure Un(fs ex:List Addr)(H H':Hp)(h h':Heap):Prop where
 keep:∀b o,h.get? b=some o→H b=none→b∉fs→b∉ex→h'.get? b=some o
 slot:∀b o,h.get? b=some o→H b=none→b∈fs→b∉ex→∃sl,h'.get? b=some {o with slots:=sl}
 free:∀b o,h.get? b=some o→H b=none→b∉ex→H' b=none
 there:∀b o,h.get? b=some o→b∉ex→∃o',h'.get? b=some o'
 tups:∀b xs,H b=some (.tup xs)→H' b=some (.tup xs)
 frzs:∀b o u,H b=some (.frz o u)→H' b=some (.frz o u)
 tbls:∀b ps,H b=some (.tbl ps)→∃more,H' b=some (.tbl (ps++more))
section
variable{fs fs' ex ex':List Addr}{H H1 H2:Hp}{h h1 h2 h':Heap}{a x e:Addr}{o:HO}
theorem Un.any(u:Un fs ex H H1 h h1)(q:h.get? b=some ob)(n:H b=none)(hx:b∉ex):∃sl,h1.get? b=some {ob with slots:=sl}:=by
 by_cases hb:b∈fs
 ·exact u.slot b ob q n hb hx
 ·exact⟨ob.slots,u.keep b ob q n hb hx⟩
theorem Un.kept(k:∀b u,h.get? b=some u→h'.get? b=some u):Un fs ex H H h h':=
 ⟨fun b ob q _ _ _=>k b ob q,fun b ob q _ _ _=>⟨ob.slots,k b ob q⟩,fun _ _ _ n _=>n,fun b ob q _=>⟨ob,k b ob q⟩,fun _ _ q=>q,fun _ _ _ q=>q,fun _ ps q=>⟨#[],by rw [q];simp⟩⟩
theorem Un.refl:Un fs ex H H h h:=Un.kept fun _ _ q=>q
theorem Un.laid(k:∀b u,h.get? b=some u→h'.get? b=some u)(hp:h.objs.size≤a)(hn:H a=none):Un fs ex H (bp H a o) h h' where
 keep:=fun b u q _ _ _=>k b u q
 slot:=fun b u q _ _ _=>⟨u.slots,k b u q⟩
 free:=fun b u q n _=>by rw [ag (fu (jU (Heap.lt_size q) hp))];exact n
 there:=fun b u q _=>⟨u,k b u q⟩
 tups:=fun b xs q=>by rw [ag (aD q hn)];exact q
 frzs:=fun b u xs q=>by rw [ag (aD q hn)];exact q
 tbls:=fun b ps q=>⟨#[],by rw [ag (aD q hn),q];simp⟩
theorem Un.write(mu:Mp (H x))(he:e=x∨H e=some (.own x))(k:∀b u,b≠e→h.get? b=some u→h'.get? b=some u)(heo:∃u,h'.get? e=some u):Un fs ex H (bp H x o) h h':=by
 have hx:∀b,H b=none→b≠x:=fun b n z=>by subst z;rw [n]at mu;exact mu
 have hb:∀b,H b=none→b≠e:=fun b n z=>by
  subst z
  rcases he with r|r
  ·exact hx b n r
  ·rw [n]at r;cases r
 have hm:∀b u,H b=some u→¬Mp (some u)→b≠x:=fun b u q nm z=>by subst z;rw [q]at mu;exact nm mu
 refine⟨fun b u q n _ _=>k b u (hb b n) q,fun b u q n _ _=>⟨u.slots,k b u (hb b n) q⟩,fun b u q n _=>by rw [ag (hx b n)];exact n,fun b u q _=> ?_,
  fun b xs q=>by rw [ag (hm b _ q fun z=>z)];exact q,fun b u xs q=>by rw [ag (hm b _ q fun z=>z)];exact q,fun b ps q=>⟨#[],by rw [ag (hm b _ q fun z=>z),q];simp⟩⟩
 by_cases hbe:b=e
 ·subst hbe;exact heo
 ·exact⟨u,k b u hbe q⟩
end
noncomputable def Mr(h:Heap)(H:Hp):List Addr:=(List.range h.objs.size).filter fun a=>(H a).isSome
noncomputable def tU(h:Heap)(H:Hp):Heap:=W.hideAll h (Mr h H)
theorem z0(h:Heap)(H:Hp):(tU h H).objs.size=h.objs.size:=W.hideAll_size _ _
theorem BU{h:Heap}{H:Hp}(e:h.get? b=some o)(n:H b=none):(tU h H).get? b=some o:=
 W.hideAll_get _ e fun hm=>by
   have q:(H b).isSome=true:=(Gk.mp hm).2
   rw [n]at q;simp at q
theorem Eh(e:(tU h H).get? b=some o):h.get? b=some o∧H b=none:=by
 have e':h.get? b=some o:=W.of_hideAll (Mr h H) e
 refine⟨e',?_⟩
 cases q:H b with
 |none=>rfl
 |some x=>
  have hm:b∈Mr h H:=Gk.mpr ⟨kY.mpr (Heap.lt_size e'),by simp [q]⟩
  have z:(tU h H).get? b=none:=W.hideAll_none (Mr h H) hm
  rw [z]at e;cases e
noncomputable def Fm(g h:Heap)(L:Addr):List (Addr×Obj):=(List.range h.objs.size).filterMap fun a=>if a=L∨(g.get? a).isSome=true then none else(h.get? a).map fun o=>(a,o)
noncomputable def aV(g h:Heap)(L d:Addr):List (Addr×Obj):=(Fm g h L).filter fun p=>decide (p.1≠d)
end L2
namespace L2
open PySem PySem.Spec PyProof.Rows
structure Mod(K:W.Frag)(mg:Str→Option Value)(base:Heap):Prop where
 kin:K.In base
 glob:base.Ns mainGlobals mg
 blt:∃mb,base.Ns builtinsNs mb∧∀x:Str,x≠"__name__"→mb x=bootBuiltins x
 nolimit:base.NoLimit
structure Cx where
 prog:Program
 w:World
 K:W.Frag
 mg:Str→Option Value
 base:Heap
 A:Around
 N:List Str
 s₀:Shared
 H₀:Hp
 env:Env
 outer:List Env
 stack:List Env
 ex:List Addr
 fn:Str→Bool
 calm:Bool
 pn:List (Addr×Obj)
 xe:Value→Shared→Prop
noncomputable def yN(l:List Env):List Addr:=l.filterMap (·.frame)
noncomputable abbrev Cx.fs(X:Cx):List Addr:=yN X.outer
def Ml(sc:Scope)(x:Str):Prop:=sc.names.lookup x=some .local∨sc.names.lookup x=some .cell∨sc.names.lookup x=some .free
def JC(sc:Scope)(x:Str):Prop:=sc.names.lookup x=some .local∨sc.names.lookup x=some .cell
def Am(env:Env)(h:Heap)(m:Str→Option Value)(x:Str)(u:Value):Prop:=
 (env.kindOf x=some .local∧m x=some u)∨((env.kindOf x=some .cell∨env.kindOf x=some .free)∧∃c,env.cells.lookup x=some c∧h.IsCell c (some u))
structure Cx.Ok(X:Cx):Prop where
 mod:Mod X.K X.mg X.base
 kind:X.env.scope.kind=.function
 glob:X.env.globals=mainGlobals
 blt:X.env.builtins=builtinsNs
 above:X.s₀.heap.objs.size≤X.env.locals
 inj:∀x y c,X.env.cells.lookup x=some c→X.env.cells.lookup y=some c→x=y
 has:∀x,(X.env.kindOf x=some .cell∨X.env.kindOf x=some .free)→∃c,X.env.cells.lookup x=some c
 cab:∀x c,X.fn x=true→X.env.cells.lookup x=some c→X.s₀.heap.objs.size≤c
 hd:X.calm=true→X.A.handled=none
 frames:X.A.frames=some X.stack
 stk:X.stack=X.outer∨(X.stack=X.env::X.outer∧X.env.frame=some X.env.locals)
 exf:∀b∈X.ex,b≠X.env.locals∧∀x c,X.env.cells.lookup x=some c→c≠b
 bs:∀b o,X.base.get? b=some o→X.s₀.heap.get? b=some o∧X.H₀ b=none
 bsz:X.base.objs.size≤X.s₀.heap.objs.size
 noex:∀b o,X.base.get? b=some o→b∉X.ex
 exfs:∀b∈X.ex,b∉X.fs
 funs:X.s₀.heap.FunFrames X.base X.outer
 frf:∀b∈X.fs,X.H₀ b=none
structure Inv(X:Cx)(pins:List (Addr×Obj))(σ:List (Option V))(H:Hp)(s:Shared):Prop where
 ok:X.Ok
 os:s.os=X.s₀.os
 bare:AllBare s.gens
 base:Un X.fs X.ex X.H₀ H X.s₀.heap s.heap
 loc:∃m,s.heap.Ns X.env.locals m∧∀(i:Nat) (x:Str) (v:V),X.N[i]?=some x→σ[i]?=some (some v)→Ml X.env.scope x→∃u,aZ v u∧Am X.env s.heap m x u
 cell:∀x c,X.env.cells.lookup x=some c→∃v,s.heap.IsCell c v
 free:H X.env.locals=none
 freeC:∀x c,X.env.cells.lookup x=some c→H c=none
 pin:∀p∈X.pn++pins,s.heap.get? p.1=some p.2∧H p.1=none∧p.1≠X.env.locals∧p.1∉X.fs∧∀v,p.2.data≠.cell v
 hok:mU X.prog X.w H s.heap
 len:σ.length=X.N.length
section
variable{X:Cx}{pins:List (Addr×Obj)}{σ:List (Option V)}{H H':Hp}{s:Shared}{h':Heap}
theorem Cx.Ok.Nb(ok:X.Ok)(e:X.base.get? b=some o):b∉X.fs:=fun hb=>by
 have:=(ok.funs.mem hb).1
 rw [e]at this;cases this
theorem Inv.bs(I:Inv X pins σ H s):∀b o,X.base.get? b=some o→s.heap.get? b=some o∧H b=none:=fun b o e=>
 ⟨I.base.keep b o (I.ok.bs b o e).1 (I.ok.bs b o e).2 (I.ok.Nb e) (I.ok.noex b o e),I.base.free b o (I.ok.bs b o e).1 (I.ok.bs b o e).2 (I.ok.noex b o e)⟩
theorem Inv.bk(I:Inv X pins σ H s):∀b o,X.base.get? b=some o→s.heap.get? b=some o:=fun b o e=>(I.bs b o e).1
theorem Inv.mod(I:Inv X pins σ H s):Mod X.K X.mg X.base:=I.ok.mod
theorem Inv.m3(I:Inv X pins σ H s):X.K.In s.heap:=I.ok.mod.kin.keeps I.bk
theorem Inv.lt(I:Inv X pins σ H s):X.env.locals<s.heap.objs.size:=let ⟨_,hn,_⟩:=I.loc;hn.lt
theorem Inv.sz(I:Inv X pins σ H s):X.s₀.heap.objs.size≤s.heap.objs.size:=nH I.ok.above (Nat.le_of_lt I.lt)
theorem Inv.nofs(I:Inv X pins σ H s)(h:s.heap.objs.size≤a):a∉X.fs:=fun hb=>by
 obtain⟨_,o,ho,_⟩:=I.ok.funs.mem hb
 exact absurd (jU (Heap.lt_size ho) (nH I.sz h)) (uC _)
theorem Inv.cne(I:Inv X pins σ H s):∀x c,X.env.cells.lookup x=some c→c≠X.env.locals:=fun x c e z=>by
 obtain⟨v,o,ho,hd⟩:=I.cell x c e
 obtain⟨m,⟨o',es,ep,ho',hd',_⟩,_⟩:=I.loc
 rw [z,ho']at ho;cases ho;rw [hd']at hd;cases hd
theorem Inv.funs(I:Inv X pins σ H s):s.heap.FunFrames X.base X.outer:=by
 have all:∀(l:List Env),(∀b∈yN l,b∈X.fs)→X.s₀.heap.FunFrames X.base l→s.heap.FunFrames X.base l:=by
  intro l
  induction l with
  |nil=>intro _ _;trivial
  |cons env r ih=>
   intro hs hl
   obtain⟨hk,⟨L,o,hf,hn,ho,hd⟩,hr⟩:=hl
   have hL:L∈X.fs:=hs L (by unfold yN;rw [zc,hf];exact lU)
   obtain⟨sl,e⟩:=I.base.slot L o ho (I.ok.frf L hL) hL fun z=>I.ok.exfs L z hL
   exact⟨hk,⟨L,_,hf,hn,e,hd⟩,ih (fun b hb=>hs b (by unfold yN;rw [zc,hf];exact lT _ hb)) hr⟩
 exact all X.outer (fun _ hb=>hb) I.ok.funs
theorem Inv.stack(I:Inv X pins σ H s):s.heap.FunFrames X.base X.stack:=by
 rcases I.ok.stk with e|⟨e,hf⟩
 ·rw [e];exact I.funs
 ·rw [e]
  obtain⟨m,hn,_⟩:=I.loc
  refine .cons (by rw [I.ok.kind];decide) hf hn ?_ I.funs
  exact Heap.get?_none_of_le (nH I.ok.bsz I.ok.above)
theorem Inv.wA(I:Inv X pins σ H s):∀b∈yN X.stack,b∈X.env.locals::X.fs:=fun b hb=>by
 rcases I.ok.stk with e|⟨e,hf⟩
 ·rw [e]at hb;exact lT _ hb
 ·rw [e]at hb
  unfold yN at hb
  rw [zc,hf]at hb
  exact hb
theorem Inv.x8(I:Inv X pins σ H s):∀b∈yN X.stack,H b=none:=fun b hb=>by
 rcases fY.mp (I.wA b hb)with e|hb
 ·rw [e];exact I.free
 ·obtain⟨_,o,ho,_⟩:=I.ok.funs.mem hb
  exact I.base.free b o ho (I.ok.frf b hb) fun z=>I.ok.exfs b z hb
theorem Inv.step{g':Array GenState}{t':Nat}{d':Drawn}{ch:List Addr}(I:Inv X pins σ H s)
 (hch:∀b∈ch,(b∈X.ex∨X.s₀.heap.objs.size≤b)∧b≠X.env.locals∧(∀x c,X.env.cells.lookup x=some c→c≠b)∧∀p∈X.pn++pins,p.1≠b)
 (keep:∀b o,b≠X.env.locals→b∉X.fs→b∉ch→s.heap.get? b=some o→H b=none→h'.get? b=some o)
 (slot:∀b o,b≠X.env.locals→b∈X.fs→b∉ch→s.heap.get? b=some o→H b=none→∃sl,h'.get? b=some {o with slots:=sl})(free:∀b o,b∉ch→s.heap.get? b=some o→H b=none→H' b=none)
 (there:∀b o,b∉ch→s.heap.get? b=some o→∃o',h'.get? b=some o')
 (tups:∀b xs,H b=some (.tup xs)→H' b=some (.tup xs))(frzs:∀b o u,H b=some (.frz o u)→H' b=some (.frz o u))(tbls:∀b ps,H b=some (.tbl ps)→∃more,H' b=some (.tbl (ps++more)))
 (ns:∀m,s.heap.Ns X.env.locals m→h'.Ns X.env.locals m)(hok:mU X.prog X.w H' h')(hg:AllBare g'):
 Inv X pins σ H' {s with heap:=h',gens:=g',drawn:=d',toks:=t'}:=by
 have HD:∀b o,X.s₀.heap.get? b=some o→b≠X.env.locals:=fun b o e=>fu (jU (Heap.lt_size e) I.ok.above)
 have neC:∀b o,X.s₀.heap.get? b=some o→b∉X.ex→b∉ch:=fun b o e hx hb=>by
  rcases(hch b hb).1 with z|z
  ·exact hx z
  ·exact absurd (jU (Heap.lt_size e) z) (uC _)
 have cellK:∀x c,X.env.cells.lookup x=some c→∀v,s.heap.IsCell c v→h'.IsCell c v:=fun x c e v hp9=>by
  obtain⟨o,ho,hd⟩:=hp9
  have nch:c∉ch:=fun z=>(hch c z).2.2.1 x c e rfl
  by_cases hc:c∈X.fs
  ·obtain⟨sl,q⟩:=slot c o (I.cne x c e) hc nch ho (I.freeC x c e)
   exact⟨_,q,hd⟩
  ·exact⟨o,keep c o (I.cne x c e) hc nch ho (I.freeC x c e),hd⟩
 refine⟨I.ok,I.os,hg,⟨fun b o e n hb hx=> ?_,fun b o e n hb hx=> ?_,fun b o e n hx=> ?_,fun b o e hx=> ?_,fun b xs e=>tups b xs (I.base.tups b xs e),fun b o xs e=>frzs b o xs (I.base.frzs b o xs e),fun b ps e=> ?_⟩,?_,fun x c e=> ?_,?_,fun x c e=> ?_,fun p hp=> ?_,hok,I.len⟩
 ·exact keep b o (HD b o e) hb (neC b o e hx) (I.base.keep b o e n hb hx) (I.base.free b o e n hx)
 ·obtain⟨sl,e1⟩:=I.base.slot b o e n hb hx
  obtain⟨sl',e2⟩:=slot b _ (HD b o e) hb (neC b o e hx) e1 (I.base.free b o e n hx)
  exact⟨sl',e2⟩
 ·obtain⟨o',e1⟩:=I.base.there b o e hx
  exact free b o' (neC b o e hx) e1 (I.base.free b o e n hx)
 ·obtain⟨o',e1⟩:=I.base.there b o e hx
  exact there b o' (neC b o e hx) e1
 ·obtain⟨m1,e1⟩:=I.base.tbls b ps e
  obtain⟨m2,e2⟩:=tbls b _ e1
  exact⟨m1++m2,by rw [e2,Array.append_assoc]⟩
 ·obtain⟨m,hn,hl⟩:=I.loc
  refine⟨m,ns m hn,fun i x v e1 e2 e3=> ?_⟩
  obtain⟨u,r,l⟩:=hl i x v e1 e2 e3
  refine⟨u,r,?_⟩
  rcases l with l|⟨k,c,e,z⟩
  ·exact .inl l
  ·exact .inr ⟨k,c,e,cellK x c e _ z⟩
 ·obtain⟨v,z⟩:=I.cell x c e
  exact⟨v,cellK x c e v z⟩
 ·obtain⟨m,⟨o,_,_,ho,_⟩,_⟩:=I.loc
  exact free _ o (fun z=>(hch _ z).2.1 rfl) ho I.free
 ·obtain⟨v,o,ho,hd⟩:=I.cell x c e
  exact free c o (fun z=>(hch c z).2.2.1 x c e rfl) ho (I.freeC x c e)
 ·obtain⟨e,n,ne,nf,d⟩:=I.pin p hp
  have nch:p.1∉ch:=fun z=>(hch p.1 z).2.2.2 p hp rfl
  exact⟨keep p.1 p.2 ne nf nch e n,free p.1 p.2 nch e n,ne,nf,d⟩
theorem Inv.un{t':Nat}(I:Inv X pins σ H s)(u:Un X.fs [] H H' s.heap h')(hok:mU X.prog X.w H' h'):Inv X pins σ H' {s with heap:=h',toks:=t'}:=by
 obtain⟨m,⟨o,es,ep,ho,r⟩,_⟩:=id I.loc
 obtain⟨sl,hL⟩:=u.any ho I.free (by simp)
 exact I.step (g':=s.gens) (d':=s.drawn) (ch:=[]) (fun _ z=>nomatch z) (fun b o _ hb _ e n=>u.keep b o e n hb (by simp)) (fun b o _ hb _ e n=>u.slot b o e n hb (by simp)) (fun b o _ e n=>u.free b o e n (by simp)) (fun b o _ e=>u.there b o e (by simp)) u.tups u.frzs u.tbls (fun m' hm=>by
  obtain⟨o',es',ep',ho',r'⟩:=hm
  rw [ho]at ho';cases ho'
  exact⟨_,es',ep',hL,r'⟩) hok I.bare
theorem Inv.call{g':Array GenState}{t':Nat}{d':Drawn}{ch:List Addr}(I:Inv X pins σ H s)(u:Un (yN X.stack) ch H H' s.heap h')(hok:mU X.prog X.w H' h')(hg:AllBare g')
 (hch:∀b∈ch,(b∈X.ex∨X.s₀.heap.objs.size≤b)∧b≠X.env.locals∧(∀x c,X.env.cells.lookup x=some c→c≠b)∧∀p∈X.pn++pins,p.1≠b):
 Inv X pins σ H' {s with heap:=h',gens:=g',drawn:=d',toks:=t'}:=by
 obtain⟨m,⟨o,es,ep,ho,r⟩,_⟩:=id I.loc
 obtain⟨sl,hL⟩:=u.any ho I.free fun z=>(hch _ z).2.1 rfl
 exact I.step (ch:=ch) hch (fun b o hL hb hc e n=>u.keep b o e n (fun z=>(fY.mp (I.wA b z)).elim hL hb) hc) (fun b o _ _ hc e n=>u.any e n hc) (fun b o hc e n=>u.free b o e n hc) (fun b o hc e=>u.there b o e hc) u.tups u.frzs u.tbls (fun m' hm=>by
  obtain⟨o',es',ep',ho',r'⟩:=hm
  rw [ho]at ho';cases ho'
  exact⟨_,es',ep',hL,r'⟩) hok hg
theorem Inv.turned{t':Nat}{it:Addr}(I:Inv X pins σ H s)(k:∀b o,b≠it→s.heap.get? b=some o→h'.get? b=some o)(hn:H it=none)(hL:it≠X.env.locals)
 (h1:it∈X.ex∨X.s₀.heap.objs.size≤it)(h2:∀x c,X.env.cells.lookup x=some c→c≠it)(h3:∀p∈X.pn++pins,p.1≠it):Inv X pins σ H {s with heap:=h',toks:=t'}:=by
 have nit:∀b u,H b=some u→b≠it:=fun b u e z=>by rw [z,hn]at e;cases e
 refine I.step (g':=s.gens) (d':=s.drawn) (ch:=[it]) (fun b hb=> ?_) (fun b o _ _ hc e _=>k b o (fun z=>hc (by simp [z])) e) (fun b o _ _ hc e _=>⟨o.slots,k b o (fun z=>hc (by simp [z])) e⟩) (fun _ _ _ _ n=>n)
  (fun b o hc e=>⟨o,k b o (fun z=>hc (by simp [z])) e⟩) (fun _ _ e=>e) (fun _ _ _ e=>e) (fun b ps e=>⟨#[],by rw [e];simp⟩) (fun m hm=> ?_) (fun b u e=> ?_) I.bare
 ·have e:b=it:=by simpa using hb
  subst e
  exact⟨h1,hL,h2,h3⟩
 ·obtain⟨o,es,ep,ho,r⟩:=hm
  exact⟨o,es,ep,k _ o (Ne.symm hL) ho,r⟩
 ·refine(I.hok b u e).uM (fun c v hc q=>k c v ?_ q) (fun _ q=>q) fun _ _ q=>q
  rcases hc with z|z
  ·rw [z];exact nit b u e
  ·exact nit c _ z
theorem Inv.tok(I:Inv X pins σ H s)(t:Nat):Inv X pins σ H {s with toks:=t}:=I.un (h':=s.heap) (t':=t) Un.refl I.hok
theorem Inv.kept(I:Inv X pins σ H s)(k:∀b u,s.heap.get? b=some u→h'.get? b=some u):Inv X pins σ H {s with heap:=h',toks:=t'}:=I.un (Un.kept k) (I.hok.kept k)
theorem Inv.laid(I:Inv X pins σ H s)(k:∀b u,s.heap.get? b=some u→h'.get? b=some u)(hp:s.heap.objs.size≤a)(new:b8 X.prog X.w (bp H a o) h' a o):
 Inv X pins σ (bp H a o) {s with heap:=h',toks:=t'}:=I.un (Un.laid k hp (I.hok.fresh hp)) (I.hok.laid k hp new)
theorem Inv.write(I:Inv X pins σ H s)(mu:Mp (H x))(he:e=x∨H e=some (.own x))(k:∀b u,b≠e→s.heap.get? b=some u→h'.get? b=some u)(heo:∃u,h'.get? e=some u)(new:b8 X.prog X.w (bp H x o) h' x o):Inv X pins σ (bp H x o) {s with heap:=h',toks:=t'}:=I.un (Un.write mu he k heo) (I.hok.write mu he k heo new)
theorem Inv.yk(I:Inv X pins σ H s)(h:∀p∈pins',s.heap.get? p.1=some p.2∧H p.1=none∧p.1≠X.env.locals∧p.1∉X.fs∧∀v,p.2.data≠.cell v):Inv X pins' σ H s:=
 ⟨I.ok,I.os,I.bare,I.base,I.loc,I.cell,I.free,I.freeC,fun p hp=>(fv.mp hp).elim (fun z=>I.pin p (Aq _ z)) (h p),I.hok,I.len⟩
theorem vh{N:List Str}(hN:N.Nodup){i j:Nat}{x:Str}(a:N[i]?=some x)(b:N[j]?=some x):i=j:=by
 obtain⟨h1,e1⟩:=j4.mp a
 obtain⟨h2,e2⟩:=j4.mp b
 exact(List.getElem_inj hN).mp (e1.trans e2.symm)
theorem rm{Q:Unit→Shared→Prop}(I:Inv X pins σ H s)(hN:X.N.Nodup)(hi:X.N[i]?=some x)(hx:JC X.env.scope x)(r:aZ v u)(h:∀s',Inv X pins (σ.set i (some v)) H s'→(∃a,Heap.SameBut a s.heap s'.heap∧(a=X.env.locals∨X.env.cells.lookup x=some a))→Q () s')(hf:X.fn x=true∨X.env.scope.names.lookup x=some .local:=by first|exact .inl rfl|exact .inr rfl|assumption):wpAny M A (storeName X.env x u) Q E s:=by
 obtain⟨m,hn,hl⟩:=id I.loc
 have hcls:(X.env.scope.kind==.class||(X.env.scope.kind==.module&&X.env.locals !=X.env.globals))=false:=by rw [I.ok.kind];rfl
 have hiσ:i<σ.length:=by rw [I.len];exact(j4.mp hi).1
 have cne:=I.cne
 have tracked:∀ {a:Addr} {h':Heap},(∃o,s.heap.get? a=some o∧H a=none)→Heap.SameBut a s.heap h'→mU X.prog X.w H h':=fun {a h'} ha hs b ob e=>by
  obtain⟨_,_,hfree⟩:=ha
  refine(I.hok b ob e).uM (fun c w' hc q=>(hs.2 c ?_).trans q) (fun _ q=>q) fun _ _ q=>q
  rintro rfl
  rcases hc with rfl|hc
  ·rw [hfree]at e;cases e
  ·rw [hfree]at hc;cases hc
 rcases hx with hk|hk
 ·refine wpAny_storeName_local hk hn (fun h' hn' hs=> ?_) hcls
  obtain⟨oL,_,_,hoL,_⟩:=id hn
  refine h _ ⟨I.ok,I.os,I.bare,⟨fun b o e n hb hx=> ?_,fun b o e n hb hx=> ?_,I.base.free,fun b o e hx=> ?_,I.base.tups,I.base.frzs,I.base.tbls⟩,⟨_,hn',fun j y v' e1 e2 e3=> ?_⟩,fun y c e=> ?_,I.free,I.freeC,fun p hp=> ?_,tracked ⟨oL,hoL,I.free⟩ hs,by simpa using I.len⟩ ⟨_,hs,.inl rfl⟩
  ·exact(hs.2 b (fu (jU (Heap.lt_size e) I.ok.above))).trans (I.base.keep b o e n hb hx)
  ·obtain⟨sl,e1⟩:=I.base.slot b o e n hb hx
   exact⟨sl,(hs.2 b (fu (jU (Heap.lt_size e) I.ok.above))).trans e1⟩
  ·obtain⟨o',e1⟩:=I.base.there b o e hx
   exact⟨o',(hs.2 b (fu (jU (Heap.lt_size e) I.ok.above))).trans e1⟩
  ·by_cases hj:j=i
   ·subst hj
    rw [hi]at e1;cases e1
    rw [eE hiσ]at e2
    cases e2
    exact⟨u,r,.inl ⟨hk,by simp⟩⟩
   ·rw [gK (Ne.symm hj)]at e2
    obtain⟨u',r',q⟩:=hl j y v' e1 e2 e3
    refine⟨u',r',?_⟩
    rcases q with⟨k,e⟩|⟨k,c,e,z⟩
    ·refine .inl ⟨k,?_⟩
     have:y≠x:=fun e=>hj (vh hN e1 (e▸hi))
     simp [this,e]
    ·exact .inr ⟨k,c,e,z.sameBut hs (cne y c e)⟩
  ·obtain⟨w',z⟩:=I.cell y c e
   exact⟨w',z.sameBut hs (cne y c e)⟩
  ·obtain⟨e,n,ne,nf,d⟩:=I.pin p hp
   exact⟨(hs.2 p.1 ne).trans e,n,ne,nf,d⟩
 ·have hfn:X.fn x=true:=by
   rcases hf with z|z
   ·exact z
   ·rw [z]at hk;cases hk
  obtain⟨c,hc⟩:=I.ok.has x (.inl hk)
  obtain⟨w',z⟩:=I.cell x c hc
  refine wpAny_storeName_cell I.ok.kind hk hc z (fun h' hc' hs=> ?_)
  obtain⟨oc,hoc,hocd⟩:=id z
  refine h {s with heap:=h'} ⟨I.ok,I.os,I.bare,⟨fun b o e n hb hx=> ?_,fun b o e n hb hx=> ?_,I.base.free,fun b o e hx=> ?_,I.base.tups,I.base.frzs,I.base.tbls⟩,⟨m,hn.sameBut hs (Ne.symm (cne x c hc)),fun j y v' e1 e2 e3=> ?_⟩,fun y c' e=> ?_,I.free,I.freeC,fun p hp=> ?_,tracked ⟨oc,hoc,I.freeC x c hc⟩ hs,by simpa using I.len⟩ ⟨c,hs,.inr hc⟩
  ·exact(hs.2 b (fu (jU (Heap.lt_size e) (I.ok.cab x c hfn hc)))).trans (I.base.keep b o e n hb hx)
  ·obtain⟨sl,e1⟩:=I.base.slot b o e n hb hx
   exact⟨sl,(hs.2 b (fu (jU (Heap.lt_size e) (I.ok.cab x c hfn hc)))).trans e1⟩
  ·obtain⟨o',e1⟩:=I.base.there b o e hx
   exact⟨o',(hs.2 b (fu (jU (Heap.lt_size e) (I.ok.cab x c hfn hc)))).trans e1⟩
  ·by_cases hj:j=i
   ·subst hj
    rw [hi]at e1;cases e1
    rw [eE hiσ]at e2
    cases e2
    exact⟨u,r,.inr ⟨.inl hk,c,hc,hc'⟩⟩
   ·rw [gK (Ne.symm hj)]at e2
    obtain⟨u',r',q⟩:=hl j y v' e1 e2 e3
    refine⟨u',r',?_⟩
    rcases q with q|⟨k,c',e,z'⟩
    ·exact .inl q
    ·refine .inr ⟨k,c',e,z'.sameBut hs ?_⟩
     rintro rfl
     exact hj (vh hN e1 (I.ok.inj _ _ _ e hc▸hi))
  ·by_cases hcc:c'=c
   ·subst hcc;exact⟨_,hc'⟩
   ·obtain⟨w2,z2⟩:=I.cell y c' e
    exact⟨w2,z2.sameBut hs hcc⟩
  ·obtain⟨e,n,ne,nf,d⟩:=I.pin p hp
   refine⟨(hs.2 p.1 ?_).trans e,n,ne,nf,d⟩
   intro q
   rw [q,hoc]at e
   have q':oc=p.2:=cC e
   exact d w' (by rw [←q'];exact hocd)
theorem iX{Q:Unit→Shared→Prop}(I:Inv X pins σ H s)(hN:X.N.Nodup)(hi:X.N[i]?=some x)(hx:JC X.env.scope x)(r:aZ v u)(h:∀s',Inv X pins (σ.set i (some v)) H s'→Q () s')(hf:X.fn x=true∨X.env.scope.names.lookup x=some .local:=by first|exact .inl rfl|exact .inr rfl|assumption):wpAny M A (storeName X.env x u) Q E s:=
 rm I hN hi hx r (fun s' I' _=>h s' I') hf
theorem Inv.LU{s':Shared}(I:Inv X pins σ H s)(ho:s'.os=s.os)(u:Un (yN X.stack) ch H H' s.heap s'.heap)(hok:mU X.prog X.w H' s'.heap)(hg:AllBare s'.gens)(hch:∀b∈ch,(b∈X.ex∨X.s₀.heap.objs.size≤b)∧b≠X.env.locals∧(∀x c,X.env.cells.lookup x=some c→c≠b)∧∀p∈X.pn++pins,p.1≠b):Inv X pins σ H' s':=by
 obtain⟨h',g',d',t',o'⟩:=s'
 have e:o'=s.os:=ho
 subst e
 exact I.call (g':=g') (t':=t') (d':=d') u hok hg hch
end
noncomputable abbrev XK:=Value→Option Addr→Hp→Prop
noncomputable abbrev St:=List (Option V)
noncomputable abbrev VK:=V→Hp→Prop
noncomputable abbrev TE:=St→Hp→VK→Prop
noncomputable abbrev TT:=St→Hp→(Bool→Hp→Prop)→Prop
noncomputable abbrev TA:=St→Hp→(List V→Hp→Prop)→Prop
structure Ends where
 nx:St→Hp→Prop
 rt:VK
 bk:St→Hp→Prop:=fun _ _=>False
 ct:St→Hp→Prop:=fun _ _=>False
noncomputable abbrev TS:=Ends→St→Hp→Prop
def EP(X:Cx)(pins:List (Addr×Obj))(σ:St)(Q:VK)(u:Value)(s':Shared):Prop:=∃v H',Inv X pins σ H' s'∧aZ v u∧Q v H'
def TP(X:Cx)(pins:List (Addr×Obj))(σ:St)(Q:Bool→Hp→Prop)(b:Bool)(s':Shared):Prop:=∃H',Inv X pins σ H' s'∧Q b H'
def AP(X:Cx)(pins:List (Addr×Obj))(σ:St)(Q:List V→Hp→Prop)(us:List Value)(s':Shared):Prop:=∃vs H',Inv X pins σ H' s'∧aJ vs us∧Q vs H'
def SP(X:Cx)(pins:List (Addr×Obj))(D:Ends)(f:Flow)(s':Shared):Prop:=
 match f with
 | .next=>∃σ' H',Inv X pins σ' H' s'∧D.nx σ' H'
 | .brk=>∃σ' H',Inv X pins σ' H' s'∧D.bk σ' H'
 | .cont=>∃σ' H',Inv X pins σ' H' s'∧D.ct σ' H'
 | .ret u=>∃v σ' H',Inv X pins σ' H' s'∧aZ v u∧D.rt v H'
def PE(X:Cx)(e:Expr)(t:TE):Prop:=
 ∀(pins:List (Addr×Obj)) (s:Shared) (σ:St) (H:Hp) (Q:VK),Inv X pins σ H s→t σ H Q→wpAny (model X.prog X.w) X.A (eval e X.env) (EP X pins σ Q) X.xe s
def PT(X:Cx)(e:Expr)(t:TT):Prop:=
 ∀(pins:List (Addr×Obj)) (s:Shared) (σ:St) (H:Hp) (Q:Bool→Hp→Prop),Inv X pins σ H s→t σ H Q→wpAny (model X.prog X.w) X.A (isTrue e X.env (eval e X.env)) (TP X pins σ Q) X.xe s
def PW(X:Cx)(e:Expr)(t:TT):Prop:=
 ∀(whole:Sem Value) (pins:List (Addr×Obj)) (s:Shared) (σ:St) (H:Hp) (Q:Bool→Hp→Prop),Inv X pins σ H s→t σ H Q→wpAny (model X.prog X.w) X.A (isTrue e X.env whole) (TP X pins σ Q) X.xe s
theorem PW.pt(h:PW X e t):PT X e t:=h _
def PA(X:Cx)(es:List Expr)(t:TA):Prop:=
 ∀(pos:Pos) (pins:List (Addr×Obj)) (s:Shared) (σ:St) (H:Hp) (Q:List V→Hp→Prop),Inv X pins σ H s→t σ H Q→wpAny (model X.prog X.w) X.A (spliced (backTo pos (starEach es X.env))) (AP X pins σ Q) X.xe s
def PS(X:Cx)(st:Stmt)(t:TS):Prop:=
 ∀(pins:List (Addr×Obj)) (s:Shared) (σ:St) (H:Hp) (D:Ends),Inv X pins σ H s→t D σ H→wpAny (model X.prog X.w) X.A (exec st X.env) (SP X pins D) X.xe s
def uA(X:Cx)(st:List Stmt)(t:TS):Prop:=
 ∀(pins:List (Addr×Obj)) (s:Shared) (σ:St) (H:Hp) (D:Ends),Inv X pins σ H s→t D σ H→wpAny (model X.prog X.w) X.A (execs st X.env) (SP X pins D) X.xe s
theorem bH{α:Type}{t:Sem α}{Q Q':α→Shared→Prop}{M:Model}{A:Around}{E:Value→Shared→Prop}{s:Shared}(h:wpAny M A t Q E s)(hQ:∀a s,Q a s→Q' a s):wpAny M A t Q' E s:=wpAny_mono h hQ fun _ _ x=>x
end L2
namespace L2
open PySem PySem.Spec PyProof.Rows
section
variable{X:Cx}
noncomputable def eL(i:Nat):TE:=fun σ H Q=>∃v,σ[i]?=some (some v)∧Q v H
noncomputable def tC(v:V):TE:=fun _ H Q=>Q v H
theorem wL(hN:X.N[i]?=some x)(hv:Ml X.env.scope x)(hd:(x==("__debug__":Str))=false:=by decide)(hcd:(x==("__classdict__":Str))=false:=by decide):PE X (.Name x pos) (eL i):=by
 intro pins s σ H Q I h
 obtain⟨v,e,h⟩:=h
 obtain⟨m,hn,hl⟩:=I.loc
 obtain⟨u,r,l⟩:=hl i x v hN e hv
 have fin:EP X pins σ Q u s:=⟨v,H,I,r,h⟩
 rcases l with⟨hk,hm⟩|⟨hk,c,hc,hcell⟩
 ·exact wpAny_Name (wpAny_loadName_local I.ok.kind hk hn hm fin) hd
 ·rcases hk with hk|hk
  ·exact wpAny_Name (wpAny_loadName_cell I.ok.kind hk hc hcell fin) hd
  ·exact wpAny_Name (wpAny_loadName_free I.ok.kind hk hc hcell fin hcd) hd
theorem Hl{i j pos}:PE X (.Constant (.int i) j pos) (tC (.int i)):=fun _ _ _ H _ I h=>wpAny_Constant_int ⟨.int i,H,I.tok _,⟨_,rfl⟩,h⟩
theorem KS{b j pos}:PE X (.Constant (.bool b) j pos) (tC (.bl b)):=fun _ _ _ H _ I h=>Constant_bool ⟨.bl b,H,I,rfl,h⟩
theorem Hj{j pos}:PE X (.Constant .none j pos) (tC .non):=fun _ _ _ H _ I h=>Constant_none ⟨.non,H,I,rfl,h⟩
theorem Hh{x j pos}:PE X (.Constant (.str x) j pos) (tC (.str x)):=fun _ _ _ H _ I h=>Calls.Constant_str ⟨.str x,H,I.tok _,⟨_,rfl⟩,h⟩
def Gl(X:Cx)(x:Str):Prop:=X.env.kindOf x=some .globalImplicit
theorem tM{Q:Value→Shared→Prop}(I:Inv X pins σ H s)(hg:Gl X x)(hm:X.mg x=some u)(h:Q u s)(hd:(x==("__debug__":Str))=false:=by decide):wpAny (model X.prog X.w) X.A (eval (.Name x pos) X.env) Q E s:=
 Calls.Name_function_global I.ok.kind hg (Calls.loadGlobal_global (by rw [I.ok.glob];exact I.mod.glob.keeps I.bk) hm h) hd
theorem jc{Q:Value→Shared→Prop}(I:Inv X pins σ H s)(hg:Gl X x)(hm:X.mg x=none)(hv:bootBuiltins x=some u)(h:Q u s)(hn:x≠"__name__":=by decide)(hd:(x==("__debug__":Str))=false:=by decide):wpAny (model X.prog X.w) X.A (eval (.Name x pos) X.env) Q E s:=by
 obtain⟨mb,h1,h2⟩:=I.mod.blt
 exact Calls.Name_function_global I.ok.kind hg (Calls.loadGlobal_builtin (by rw [I.ok.glob];exact I.mod.glob.keeps I.bk) hm (by rw [I.ok.blt];exact h1.keeps I.bk) ((h2 x hn).trans hv) h) hd
theorem yp(hg:Gl X x)(hm:X.mg x=some u)(r:aZ v u)(hd:(x==("__debug__":Str))=false:=by decide):PE X (.Name x pos) (tC v):=
 fun _ _ _ H _ I h=>tM I hg hm ⟨v,H,I,r,h⟩ hd
theorem D7(hg:Gl X x)(hm:X.mg x=none)(hv:bootBuiltins x=some u)(r:aZ v u)(hn:x≠"__name__":=by decide)(hd:(x==("__debug__":Str))=false:=by decide):PE X (.Name x pos) (tC v):=
 fun _ _ _ H _ I h=>jc I hg hm hv ⟨v,H,I,r,h⟩ hn hd
variable{a b:Expr}{ta tb:TE}{pos:Pos}
noncomputable def tB(t:TE):TT:=fun σ H Q=>t σ H fun x H1=>∃c,x=.bl c∧Q c H1
theorem G6{e:Expr}{t:TE}(h:PE X e t)(he:∀whole,isTrue e X.env whole=(do let v←whole;standAt e.pos;holding [v] (truthy v)):=by intro _;rfl):PT X e (tB t):=by
 intro pins s σ H Q I hw
 refine isTrue_plain (bH (h pins s σ H _ I hw) fun v s1 ⟨x,H1,I1,r1,q1⟩=> ?_) (he _)
 obtain⟨d,rfl,q⟩:=q1
 cases r1
 exact wpAny_truthy_bool ⟨H1,I1,q⟩
variable{tA tB':TT}{aV:List Expr}
noncomputable def MT(t u:TT):TT:=fun σ H Q=>t σ H fun c H1=>if c=true then u σ H1 Q else Q false H1
noncomputable def OK(t u:TT):TT:=fun σ H Q=>t σ H fun c H1=>if c=true then Q true H1 else u σ H1 Q
noncomputable def MR(t:TT):TT:=fun σ H Q=>t σ H fun c H1=>Q (!c) H1
theorem DD(ha:PT X a tA):PW X (.BoolOp .And [a] pos) tA:=by
 intro wh pins s σ H Q I h
 refine isTrue_and (bH (ha pins s σ H Q I h) fun c s1 e=> ?_)
 cases c with
 |true=>exact isTrue_and_nil e
 |false=>exact e
theorem GX(ha:PT X a tA):PW X (.BoolOp .Or [a] pos) tA:=by
 intro wh pins s σ H Q I h
 refine isTrue_or (bH (ha pins s σ H Q I h) fun c s1 e=> ?_)
 cases c with
 |false=>exact isTrue_or_nil e
 |true=>exact e
theorem GY(ha:PT X a tA)(hb:PW X (.BoolOp .And (b::aV) pos) tB'):PW X (.BoolOp .And (a::b::aV) pos) (MT tA tB'):=by
 intro wh pins s σ H Q I h
 refine isTrue_and (bH (ha pins s σ H _ I h) fun c s1 ⟨H1,I1,q1⟩=> ?_)
 cases c with
 |true=>exact hb wh pins s1 σ H1 Q I1 q1
 |false=>exact⟨H1,I1,q1⟩
theorem KL(ha:PT X a tA)(hb:PW X (.BoolOp .Or (b::aV) pos) tB'):PW X (.BoolOp .Or (a::b::aV) pos) (OK tA tB'):=by
 intro wh pins s σ H Q I h
 refine isTrue_or (bH (ha pins s σ H _ I h) fun c s1 ⟨H1,I1,q1⟩=> ?_)
 cases c with
 |true=>exact⟨H1,I1,q1⟩
 |false=>exact hb wh pins s1 σ H1 Q I1 q1
theorem Bg(ha:PT X a tA):PT X (.UnaryOp .Not a pos) (MR tA):=by
 intro pins s σ H Q I h
 exact isTrue_not (ha pins s σ H (fun c H1=>Q (!c) H1) I h)
noncomputable def Kk(ta tb:TE):TE:=fun σ H Q=>ta σ H fun x H1=>∃c,x=.bl c∧if c=true then tb σ H1 Q else Q (.bl false) H1
noncomputable def MQ(ta tb:TE):TE:=fun σ H Q=>ta σ H fun x H1=>∃c,x=.bl c∧if c=true then Q (.bl true) H1 else tb σ H1 Q
noncomputable def Kd(ta:TE):TE:=fun σ H Q=>ta σ H fun x H1=>∃c,x=.bl c∧Q (.bl (!c)) H1
theorem Bq{op}(h:PE X a t):PE X (.BoolOp op [a] pos) t:=fun pins s σ H Q I hw=>BoolOp_one (h pins s σ H Q I hw)
theorem Hm(ha:PE X a ta)(hb:PE X (.BoolOp .And (b::aV) pos) tb):PE X (.BoolOp .And (a::b::aV) pos) (Kk ta tb):=by
 intro pins s σ H Q I h
 refine BoolOp_and (bH (ha pins s σ H _ I h) fun v s1 ⟨x,H1,I1,r1,q1⟩=> ?_)
 obtain⟨c,rfl,q1⟩:=q1
 cases r1
 refine wpAny_truthy_bool ?_
 cases c with
 |true=>exact hb pins s1 σ H1 Q I1 q1
 |false=>exact⟨.bl false,H1,I1,rfl,q1⟩
theorem KQ(ha:PE X a ta)(hb:PE X (.BoolOp .Or (b::aV) pos) tb):PE X (.BoolOp .Or (a::b::aV) pos) (MQ ta tb):=by
 intro pins s σ H Q I h
 refine BoolOp_or (bH (ha pins s σ H _ I h) fun v s1 ⟨x,H1,I1,r1,q1⟩=> ?_)
 obtain⟨c,rfl,q1⟩:=q1
 cases r1
 refine wpAny_truthy_bool ?_
 cases c with
 |false=>exact hb pins s1 σ H1 Q I1 q1
 |true=>exact⟨.bl true,H1,I1,rfl,q1⟩
theorem Hi(ha:PE X a ta):PE X (.UnaryOp .Not a pos) (Kd ta):=by
 intro pins s σ H Q I h
 refine UnaryOp_ (bH (ha pins s σ H _ I h) fun v s1 ⟨x,H1,I1,r1,q1⟩=> ?_)
 obtain⟨c,rfl,q1⟩:=q1
 cases r1
 exact not_of (wpAny_truthy_bool ⟨.bl (!c),H1,I1,rfl,q1⟩)
noncomputable def OL(t:TT)(ta tb:TE):TE:=fun σ H Q=>t σ H fun c H1=>if c=true then ta σ H1 Q else tb σ H1 Q
theorem u4{c:Expr}(hc:PT X c tA)(ha:PE X a ta)(hb:PE X b tb):PE X (.IfExp c a b pos) (OL tA ta tb):=by
 intro pins s σ H Q I h
 refine wpAny_IfExp (bH (hc pins s σ H _ I h) fun d s1 ⟨H1,I1,q1⟩=> ?_)
 cases d with
 |true=>exact ha pins s1 σ H1 Q I1 q1
 |false=>exact hb pins s1 σ H1 Q I1 q1
end
end L2
namespace L2
open PySem PySem.Spec PyProof.Rows
def dQ(K:W.Frag)(H:Hp)(a:Addr)(xs:List V):Prop:=
 Rd H a (.lst xs)∨
  ∃(o:Obj) (az:Array Value) (n:Nat),K.lookup a=some o∧o.cls=.type "list"∧o.dict=none∧o.data=.seq az n∧az.size≤sizeLine∧aJ xs az.toList
def qM(K:W.Frag)(H:Hp)(a:Addr)(xs:List V):Prop:=
 Rd H a (.tup xs)∨
  ∃(o:Obj) (az:Array Value) (n:Nat),K.lookup a=some o∧o.cls=.type "tuple"∧o.data=.seq az n∧az.size≤sizeLine∧aJ xs az.toList
noncomputable def NR:Value→Option V
 | .none=>some .non
 | .bool b=>some (.bl b)
 | .int i _=>some (.int i)
 | .str x _=>some (.str x)
 | .bytes b _=>some (.byt b)
 | .float b _=>some (.flt b)
 | .ref a=>some (.ref a)
 | .type n=>some (.ty n)
 |_=>none
theorem aZ.abs(r:aZ x u):NR u=some x:=by
 cases x with
 |non=>cases r;rfl
 |bl _=>cases r;rfl
 |int _=>obtain⟨t,rfl⟩:=r;rfl
 |str _=>obtain⟨t,rfl⟩:=r;rfl
 |byt _=>obtain⟨t,rfl⟩:=r;rfl
 |flt _=>obtain⟨t,rfl⟩:=r;rfl
 |ref _=>cases r;rfl
 |ty _=>cases r;rfl
theorem aZ.inj(r:aZ x u)(q:aZ y u):x=y:=cC (r.abs.symm.trans q.abs)
theorem aJ.inj:∀ {xs ys:List V} {us:List Value},aJ xs us→aJ ys us→xs=ys
 |_,_,_,.nil,.nil=>rfl
 |_,_,_,.cons r t,.cons r' t'=>by rw [r.inj r',aJ.inj t t']
section
variable{X:Cx}{pins:List (Addr×Obj)}{σ:St}{H:Hp}{s:Shared}{a:Addr}{xs ys:List V}
theorem dQ.of{K:W.Frag}(h:H a=some (.lst xs)):dQ K H a xs:=.inl (.inl h)
theorem qM.of{K:W.Frag}(h:H a=some (.tup xs)):qM K H a xs:=.inl (.inl h)
theorem Inv.list(I:Inv X pins σ H s)(h:dQ X.K H a xs):∃az:List Value,aJ xs az∧PlainL s.heap a az.toArray∧xs.length≤sizeLine:=by
 rcases h with h|⟨o,az,n,hk,hc,hd,hs,hz,r⟩
 ·obtain⟨z,az,n,r,e⟩:=h.ok I.hok
  exact⟨az,r,⟨_,n,e,rfl,rfl,rfl⟩,z⟩
 ·refine⟨az.toList,r,⟨o,n,I.m3 a o hk,hc,hd,by simpa using hs⟩,?_⟩
  have e:=r.length
  simp only [Array.length_toList]at e
  lia
theorem Inv.tuple(I:Inv X pins σ H s)(h:qM X.K H a xs):∃az:List Value,aJ xs az∧IsTup s.heap a az.toArray∧xs.length≤sizeLine:=by
 rcases h with h|⟨o,az,n,hk,hc,hs,hz,r⟩
 ·obtain⟨z,az,r,p⟩:=h.ok I.hok
  exact⟨az,r,p,z⟩
 ·refine⟨az.toList,r,⟨o,I.m3 a o hk,hc,n,by simpa using hs⟩,?_⟩
  have e:=r.length
  simp only [Array.length_toList]at e
  lia
theorem Inv.i9(I:Inv X pins σ H s)(h:dQ X.K H a xs)(h':dQ X.K H a ys):xs=ys:=by
 obtain⟨az,r,⟨o,n,e,_,_,d⟩,_⟩:=I.list h
 obtain⟨its',r',⟨o',n',e',_,_,d'⟩,_⟩:=I.list h'
 rw [e]at e';cases e'
 rw [d]at d'
 injection d' with d1 _
 have:az=its':=by simpa using congrArg Array.toList d1
 subst this
 exact r.inj r'
theorem Inv.zf(I:Inv X pins σ H s)(h:qM X.K H a xs)(h':qM X.K H a ys):xs=ys:=by
 obtain⟨az,r,⟨o,e,_,n,d⟩,_⟩:=I.tuple h
 obtain⟨its',r',⟨o',e',_,n',d'⟩,_⟩:=I.tuple h'
 rw [e]at e';cases e'
 rw [d]at d'
 injection d' with d1 _
 have:az=its':=by simpa using congrArg Array.toList d1
 subst this
 exact r.inj r'
end
noncomputable abbrev Cx.qP(X:Cx)(E:Value→Shared→Prop):Cx:= {X with xe:=E}
noncomputable abbrev Cx.K8(X:Cx):Cx:=X.qP fun _ _=>False
theorem Cx.Ok.qP{X:Cx}(ok:X.Ok)(E:Value→Shared→Prop):(X.qP E).Ok:=
 ⟨ok.mod,ok.kind,ok.glob,ok.blt,ok.above,ok.inj,ok.has,ok.cab,ok.hd,ok.frames,ok.stk,ok.exf,ok.bs,ok.bsz,ok.noex,ok.exfs,ok.funs,ok.frf⟩
theorem Cx.Ok.iT{X:Cx}(ok:(X.qP E).Ok):X.Ok:=
 ⟨ok.mod,ok.kind,ok.glob,ok.blt,ok.above,ok.inj,ok.has,ok.cab,ok.hd,ok.frames,ok.stk,ok.exf,ok.bs,ok.bsz,ok.noex,ok.exfs,ok.funs,ok.frf⟩
section
variable{X:Cx}{pins:List (Addr×Obj)}{σ:St}{H:Hp}{s:Shared}{E:Value→Shared→Prop}
theorem Inv.qP(I:Inv X pins σ H s)(E:Value→Shared→Prop):Inv (X.qP E) pins σ H s:=⟨I.ok.qP E,I.os,I.bare,I.base,I.loc,I.cell,I.free,I.freeC,I.pin,I.hok,I.len⟩
theorem Inv.iT(I:Inv (X.qP E) pins σ H s):Inv X pins σ H s:=⟨I.ok.iT,I.os,I.bare,I.base,I.loc,I.cell,I.free,I.freeC,I.pin,I.hok,I.len⟩
theorem SP.iT(h:SP (X.qP E) pins D f s'):SP X pins D f s':=by
 cases f with
 |next=>obtain⟨σ',H',I,q⟩:=h;exact⟨σ',H',I.iT,q⟩
 |brk=>obtain⟨σ',H',I,q⟩:=h;exact⟨σ',H',I.iT,q⟩
 |cont=>obtain⟨σ',H',I,q⟩:=h;exact⟨σ',H',I.iT,q⟩
 |ret u=>obtain⟨v,σ',H',I,r,q⟩:=h;exact⟨v,σ',H',I.iT,r,q⟩
theorem uA.K8{st:List Stmt}{t:TS}(h:uA X.K8 st t):uA X st t:=fun pins s σ H D I hw=>
 wpAny_mono (h pins s σ H D (I.qP _) hw) (fun _ _ q=>q.iT) fun _ _ z=>False.elim z
end
section
variable{X:Cx}{st:Stmt}{aV:List Stmt}{t u:TS}{e:Expr}{te:TE}{pos:Pos}
noncomputable def xZ:TS:=fun D σ H=>D.nx σ H
noncomputable def Dh(t u:TS):TS:=fun D σ H=>t {D with nx:=u D} σ H
theorem yh:uA X [] xZ:=fun _ _ σ H _ I h=>wpAny_execs_nil ⟨σ,H,I,h⟩
theorem i7(h1:PS X st t)(h2:uA X aV u):uA X (st::aV) (Dh t u):=by
 intro pins s σ H D I h
 refine wpAny_execs_cons (bH (h1 pins s σ H {D with nx:=u D} I h) fun f s1 q=> ?_)
 cases f with
 |next=>
  obtain⟨σ',H',I',q⟩:=q
  exact h2 pins s1 σ' H' D I' q
 |ret v=>exact q
 |brk=>exact q
 |cont=>exact q
theorem DH:PS X (.Pass pos) xZ:=fun _ _ σ H _ I h=>wpAny_Pass ⟨σ,H,I,h⟩
theorem Inv.quiet(I:Inv X pins σ H s):interactive X.env=false:=by simp [interactive,I.ok.kind]
noncomputable def j5(te:TE):TS:=fun D σ H=>te σ H fun _ H1=>D.nx σ H1
theorem eo(he:PE X e te)(hs:swapsWith e none pos.line X.env=pure false:=by rfl):PS X (.Expr e pos) (j5 te):=by
 intro pins s σ H D I h
 exact wpAny_Expr_any (bH (he pins s σ H _ I h) fun v s1 ⟨x,H1,I1,r1,q1⟩=>⟨σ,H1,I1,q1⟩) I.quiet hs
noncomputable def AI(te:TE):TS:=fun D σ H=>te σ H D.rt
theorem sX(he:PE X e te):PS X (.Return (some e) pos) (AI te):=by
 intro pins s σ H D I h
 exact wpAny_Return_some (bH (he pins s σ H _ I h) fun v s1 ⟨x,H1,I1,r1,q1⟩=>⟨x,σ,H1,I1,r1,q1⟩)
noncomputable def Fy:TS:=fun D _ H=>D.rt .non H
theorem DG:PS X (.Return none pos) Fy:=fun _ _ σ H _ I h=>wpAny_Return_none ⟨.non,σ,H,I,rfl,h⟩
noncomputable def GB(c:TT)(t u:TS):TS:=fun D σ H=>c σ H fun b H1=>if b=true then t D σ H1 else u D σ H1
theorem FG{c:Expr}{a b:List Stmt}{tc:TT}(hc:PT X c tc)(ha:uA X a t)(hb:uA X b u):PS X (.If c a b pos) (GB tc t u):=by
 intro pins s σ H D I h
 refine wpAny_If (bH (hc pins s σ H _ I h) fun d s1 ⟨H1,I1,q1⟩=> ?_)
 cases d with
 |true=>exact ha pins s1 σ H1 D I1 q1
 |false=>exact hb pins s1 σ H1 D I1 q1
noncomputable def AK:TS:=fun _ _ _=>False
theorem Bj:PS X st AK:=fun _ _ _ _ _ _ h=>h.elim
end
noncomputable abbrev TG:=V→St→Hp→(St→Hp→Prop)→Prop
noncomputable abbrev JA:=List V→St→Hp→(St→Hp→Prop)→Prop
def PG(X:Cx)(target:Expr)(t:TG):Prop:=
 ∀(pins:List (Addr×Obj)) (s:Shared) (σ:St) (H:Hp) (v:V) (u:Value) (Q:St→Hp→Prop),Inv X pins σ H s→aZ v u→t v σ H Q→
  wpAny (model X.prog X.w) X.A (assign target X.env u) (fun _ s'=>∃σ' H',Inv X pins σ' H' s'∧Q σ' H') X.xe s
def MJ(X:Cx)(ts:List Expr)(t:JA):Prop:=
 ∀(pins:List (Addr×Obj)) (s:Shared) (σ:St) (H:Hp) (vs:List V) (us:List Value) (Q:St→Hp→Prop),Inv X pins σ H s→aJ vs us→t vs σ H Q→
  wpAny (model X.prog X.w) X.A (assignInOrder ((assignEach ts X.env).map (·.2)) us) (fun _ s'=>∃σ' H',Inv X pins σ' H' s'∧Q σ' H') X.xe s
noncomputable abbrev CP:=V→V→V→Hp→(Hp→Prop)→Prop
def Jm(X:Cx)(t:CP):Prop:=
 ∀(pins:List (Addr×Obj)) (s:Shared) (σ:St) (H:Hp) (o i v:V) (ov iv u:Value) (Q:Hp→Prop),Inv X pins σ H s→aZ o ov→aZ i iv→aZ v u→t o i v H Q→
  wpAny (model X.prog X.w) X.A (setItem ov iv u) (fun _ s'=>∃H',Inv X pins σ H' s'∧Q H') X.xe s
noncomputable abbrev Jl:=V→V→Hp→VK→Prop
def Mn(X:Cx)(op:Operator)(t:Jl):Prop:=
 ∀(pins:List (Addr×Obj)) (s:Shared) (σ:St) (H:Hp) (x y:V) (v u:Value) (Q:VK),Inv X pins σ H s→aZ x v→aZ y u→t x y H Q→
  wpAny (model X.prog X.w) X.A (inplaceOp op v u) (EP X pins σ Q) X.xe s
section
variable{X:Cx}{pos:Pos}
noncomputable def fT(i:Nat):TG:=fun v σ H Q=>Q (σ.set i (some v)) H
theorem yn(hN:X.N.Nodup)(hi:X.N[i]?=some x)(hx:JC X.env.scope x)(hf:X.fn x=true∨X.env.scope.names.lookup x=some .local:=by first|exact .inl rfl|exact .inr rfl|assumption):PG X (.Name x pos) (fT i):=by
 intro pins s σ H v u Q I r h
 exact wpAny_assign_Name (iX I hN hi hx r (fun s' I'=>⟨_,H,I',h⟩) hf)
noncomputable def B4:JA:=fun vs σ H Q=>vs=[]∧Q σ H
noncomputable def lF(t:TG)(u:JA):JA:=fun vs σ H Q=>∃v r,vs=v::r∧t v σ H fun σ' H'=>u r σ' H' Q
theorem oh:MJ X [] B4:=by
 intro pins s σ H vs us Q I r h
 obtain⟨e,h⟩:=h
 subst e
 cases r
 exact assignInOrder_nil ⟨σ,H,I,h⟩
theorem eG{e:Expr}{es:List Expr}{t:TG}{u:JA}(h1:PG X e t)(h2:MJ X es u)
 (hs:(assignEach (e::es) X.env).map (·.2)=assign e X.env::(assignEach es X.env).map (·.2):=by rfl):MJ X (e::es) (lF t u):=by
 intro pins s σ H vs us Q I r h
 obtain⟨v,vr,e1,h⟩:=h
 subst e1
 cases r with
 |cons r rr=>
  rw [hs]
  refine assignInOrder_cons (bH (h1 pins s σ H _ _ _ I r h) fun _ s1 ⟨σ1,H1,I1,q1⟩=> ?_)
  exact h2 pins s1 σ1 H1 _ _ Q I1 rr q1
noncomputable def BY(K:W.Frag)(n:Nat)(t:JA):TG:=fun v σ H Q=>∃a xs,v=.ref a∧qM K H a xs∧xs.length=n∧t xs σ H Q
theorem sY(hc:X.calm=true)(h:MJ X es t)(hn:(assignEach es X.env).length=n:=by rfl)(hst:(assignEach es X.env).findIdx? (·.1)=none:=by rfl):PG X (.Tuple es k pos) (BY X.K n t):=by
 intro pins s σ H v u Q I r hw
 obtain⟨a,xs,e1,hq,hl,hw⟩:=hw
 subst e1
 cases r
 obtain⟨az,rv,ht,hz⟩:=I.tuple hq
 refine assign_Tuple_tuple (I.ok.hd hc) ht (by simp [hn,←hl,rv.length]) hst fun h' hx=> ?_
 have I1:Inv X pins σ H {s with heap:=h'}:=I.kept (t':=s.toks) fun b o e=>hx b o (fu (Heap.lt_size e)) e
 exact h pins _ σ H xs _ Q I1 (by simpa using rv) hw
noncomputable def Lv(to ti:TE)(t:CP):TG:=fun v σ H Q=>to σ H fun o H1=>ti σ H1 fun i H2=>t o i v H2 fun H3=>Q σ H3
theorem Hg{o i:Expr}{to ti:TE}{t:CP}(ho:PE X o to)(hi:PE X i ti)(hs:Jm X t)
 (ha:∀v,assign (.Subscript o i pos) X.env v=(do
   let ov←holding [v] (eval o X.env)
   let iv←holding [v,ov] (eval i X.env)
   standAt pos
   holding [v,ov,iv] (setItem ov iv v)
   release [v,ov,iv] []):=by intro _;rfl):PG X (.Subscript o i pos) (Lv to ti t):=by
 intro pins s σ H v u Q I r h
 rw [ha]
 refine wpAny_bind (wpAny_holding (bH (ho pins s σ H _ I h) fun ov s1 ⟨x,H1,I1,r1,q1⟩=> ?_))
 refine wpAny_bind (wpAny_holding (bH (hi pins s1 σ H1 _ I1 q1) fun iv s2 ⟨y,H2,I2,r2,q2⟩=> ?_))
 refine wpAny_bind (wpAny_standAt (wpAny_bind (wpAny_holding (bH (hs pins s2 σ H2 x y v ov iv u _ I2 r1 r2 r q2) fun _ s3 ⟨H3,I3,q3⟩=> ?_))))
 exact wpAny_release ⟨σ,H3,I3,q3⟩
noncomputable def wx(te:TE)(g:TG):TS:=fun D σ H=>te σ H fun x H1=>g x σ H1 D.nx
theorem wK{tg e:Expr}{te:TE}{g:TG}(he:PE X e te)(hg:PG X tg g)(hs:swapsWithSole [tg] e pos.line X.env=pure false:=by rfl)(hw:swappedStores [tg] e X.env=pure none:=by rfl)
 (h1:(assignEach [tg] X.env).map (·.2)=[assign tg X.env]:=by rfl):PS X (.Assign [tg] e pos) (wx te g):=by
 intro pins s σ H D I h
 refine wpAny_Assign_stores (bH (he pins s σ H _ I h) fun v s1 ⟨x,H1,I1,r1,q1⟩=> ?_) hs hw
 rw [h1]
 exact bH (hg pins s1 σ H1 x v _ I1 r1 q1) fun _ s2 q=>q
theorem wI{i:Nat}{x:Str}{e:Expr}{te:TE}{pos':Pos}(hN:X.N.Nodup)(hi:X.N[i]?=some x)(hx:JC X.env.scope x)(he:PE X e te)(hs:swapsWith e (some (.Name x pos')) pos.line X.env=pure false:=by rfl)(hf:X.fn x=true∨X.env.scope.names.lookup x=some .local:=by first|exact .inl rfl|exact .inr rfl|assumption):
 PS X (.Assign [.Name x pos'] e pos) (wx te (fT i)):=by
 intro pins s σ H D I h
 refine wpAny_Assign_Name (bH (he pins s σ H _ I h) fun v s1 ⟨y,H1,I1,r1,q1⟩=> ?_) hs
 exact iX I1 hN hi hx r1 (fun s2 I2=>⟨_,H1,I2,q1⟩) hf
noncomputable def Kc(i j:Nat)(ta:TA):TS:=fun D σ H=>ta σ H fun vs H1=>∃v w,vs=[v,w]∧D.nx ((σ.set i (some v)).set j (some w)) H1
theorem G8{i j:Nat}{x y:Str}{a b:Expr}{ta:TA}{px py pt:Pos}{kt k2 pt2}(hc:X.calm=true)(hN:X.N.Nodup)(hi:X.N[i]?=some x)(hj:X.N[j]?=some y)(hij:i≠j)
 (hx:X.env.scope.names.lookup x=some .local)(hy:X.env.scope.names.lookup y=some .local)(ha:PA X [a,b] ta)
 (hw:swappedStores [.Tuple [.Name x px,.Name y py] kt pt] (.Tuple [a,b] k2 pt2) X.env=pure (some [x,y]))
 (hs:swapsWithSole [.Tuple [.Name x px,.Name y py] kt pt] (.Tuple [a,b] k2 pt2) pos.line X.env=pure false:=by rfl):
 PS X (.Assign [.Tuple [.Name x px,.Name y py] kt pt] (.Tuple [a,b] k2 pt2) pos) (Kc i j ta):=by
 intro pins s σ H D I h
 rw [exec_Assign_arm]
 refine wpAny_bind (wpAny_standAt ?_)
 rw [hs]
 refine wpAny_bind (wpAny_pure ?_)
 rw [aK (by decide)]
 refine wpAny_bind (Tuple_ (bH (ha _ pins s σ H _ I h) fun us s1 ⟨vs,H1,I1,r1,q1⟩=> ?_))
 obtain⟨v,w,e1,q1⟩:=q1
 subst e1
 obtain⟨u1,u2,rfl,rv,rw'⟩:∃u1 u2,us=[u1,u2]∧aZ v u1∧aZ w u2:=by
  cases r1 with
  |cons p q=>
   cases q with
   |cons p' q'=>
    cases q'
    exact⟨_,_,rfl,p,p'⟩
 refine wpAny_newObj_type ?_ (by show 2≤sizeLine;decide)
 have I2:Inv X pins σ H1 {s1 with heap:=s1.heap.push {cls:=.type "tuple",data:=.seq [u1,u2].toArray}}:=I1.kept (t':=s1.toks) fun b o e=>Heap.get?_push_of_some _ e
 rw [hw]
 refine wpAny_bind (wpAny_pure ?_)
 show wpAny (model X.prog X.w) X.A (do rule "assign.swapped-stores";let items←unpackItems (.ref s1.heap.objs.size) 2 none;assignInOrder [fun v=>bindName X.env y v,fun v=>bindName X.env x v] items.reverse;pure Flow.next) _ _ _
 refine wpAny_bind (wpAny_rule (wpAny_bind (unpackItems_tuple (items:= #[u1,u2]) (I.ok.hd hc) (IsTup.new s1.heap _) fun h' hx'=> ?_)))
 have I3:=I2.kept (h':=h') (t':=s1.toks) fun b o e=>hx' b o (fu (Heap.lt_size e)) e
 show wpAny _ _ (assignInOrder [fun v=>bindName X.env y v,fun v=>bindName X.env x v] [u2,u1]>>=fun _=>pure Flow.next) _ _ _
 refine wpAny_bind (assignInOrder_cons (wpAny_bindName (iX I3 hN hj (.inl hy) rw' (fun s2 I4=> ?_) (.inr hy))))
 refine assignInOrder_cons (wpAny_bindName (iX I4 hN hi (.inl hx) rv (fun s3 I5=>assignInOrder_nil (wpAny_pure ?_)) (.inr hx)))
 rw [List.set_comm _ _ (Ne.symm hij)]at I5
 exact⟨_,H1,I5,q1⟩
noncomputable def Kj(i:Nat)(te:TE)(ti:Jl):TS:=fun D σ H=>∃x,σ[i]?=some (some x)∧te σ H fun y H1=>ti x y H1 fun z H2=>D.nx (σ.set i (some z)) H2
theorem Hb{i:Nat}{x:Str}{e:Expr}{te:TE}{op:Operator}{ti:Jl}{pos':Pos}(hN:X.N.Nodup)(hi:X.N[i]?=some x)(hx:JC X.env.scope x)(he:PE X e te)(ho:Mn X op ti)(hf:X.fn x=true∨X.env.scope.names.lookup x=some .local:=by first|exact .inl rfl|exact .inr rfl|assumption):
 PS X (.AugAssign (.Name x pos') op e pos) (Kj i te ti):=by
 intro pins s σ H D I h
 obtain⟨v,e1,h⟩:=h
 obtain⟨m,hn,hl⟩:=I.loc
 have vis:Ml X.env.scope x:=by rcases hx with k|k;exact .inl k;exact .inr (.inl k)
 obtain⟨u,r,l⟩:=hl i x v hi e1 vis
 refine wpAny_AugAssign_Name ?_
 have go:wpAny (model X.prog X.w) X.A (eval e X.env) (fun w s₂=>wpAny (model X.prog X.w) X.A (inplaceOp op u w) (fun r s₃=>wpAny (model X.prog X.w) X.A (storeName X.env x r) (fun _=>SP X pins D .next) X.xe s₃) X.xe s₂) X.xe s:=by
  refine bH (he pins s σ H _ I h) fun w s1 hp9=> ?_
  obtain⟨y,H1,I1,r1,q1⟩:=hp9
  refine bH (ho pins s1 σ H1 v y u w _ I1 r r1 q1) fun z s2 hp9=> ?_
  obtain⟨zv,H2,I2,r2,q2⟩:=hp9
  exact iX I2 hN hi hx r2 (fun s3 I3=>⟨_,H2,I3,q2⟩) hf
 rcases l with⟨hk,hm⟩|⟨hk,c,hc,hcell⟩
 ·exact wpAny_loadName_local I.ok.kind hk hn hm go
 ·rcases hk with hk|hk
  ·exact wpAny_loadName_cell I.ok.kind hk hc hcell go
  ·rcases hx with k|k
   ·have:X.env.scope.names.lookup x=some .free:=hk
    rw [k]at this;cases this
   ·have:X.env.scope.names.lookup x=some .free:=hk
    rw [k]at this;cases this
noncomputable def AN(to ti te:TE)(tget:V→V→Hp→VK→Prop)(tip:Jl)(tset:CP):TS:=fun D σ H=>to σ H fun o H1=>ti σ H1 fun i H2=>tget o i H2 fun x H3=>te σ H3 fun y H4=>tip x y H4 fun z H5=>tset o i z H5 fun H6=>D.nx σ H6
def Mo(X:Cx)(t:V→V→Hp→VK→Prop):Prop:=
 ∀(pins:List (Addr×Obj)) (s:Shared) (σ:St) (H:Hp) (o i:V) (ov iv:Value) (Q:VK),Inv X pins σ H s→aZ o ov→aZ i iv→t o i H Q→
  wpAny (model X.prog X.w) X.A (getItem ov iv) (EP X pins σ Q) X.xe s
theorem yi{o i e:Expr}{to ti te:TE}{tget:V→V→Hp→VK→Prop}{tip:Jl}{tset:CP}{op:Operator}{tpos:Pos}(ho:PE X o to)(hi:PE X i ti)(hg:Mo X tget)(he:PE X e te)(hp:Mn X op tip)(hs:Jm X tset)
 (ha:∀ov iv new,augStore i ov iv new=(do holding [new,ov,iv] (setItem ov iv new);release [new,ov,iv] [];pure .next):=by intros;rfl):PS X (.AugAssign (.Subscript o i tpos) op e pos) (AN to ti te tget tip tset):=by
 intro pins s σ H D I h
 refine wpAny_AugAssign_SubscriptAny (bH (ho pins s σ H _ I h) fun ov s1 ⟨x1,H1,I1,r1,q1⟩=> ?_) ha
 refine bH (hi pins s1 σ H1 _ I1 q1) fun iv s2 hp9=> ?_
 obtain⟨x2,H2,I2,r2,q2⟩:=hp9
 refine bH (hg pins s2 σ H2 x1 x2 ov iv _ I2 r1 r2 q2) fun old s3 hp9=> ?_
 obtain⟨x3,H3,I3,r3,q3⟩:=hp9
 refine bH (he pins s3 σ H3 _ I3 q3) fun v s4 hp9=> ?_
 obtain⟨x4,H4,I4,r4,q4⟩:=hp9
 refine bH (hp pins s4 σ H4 x3 x4 old v _ I4 r3 r4 q4) fun new s5 hp9=> ?_
 obtain⟨x5,H5,I5,r5,q5⟩:=hp9
 exact bH (hs pins s5 σ H5 x1 x2 x5 ov iv new _ I5 r1 r2 r5 q5) fun _ s6 ⟨H6,I6,q6⟩=>⟨σ,H6,I6,q6⟩
noncomputable def Om(f:Int→Int→Int):Jl:=fun x y H Q=>∃i j,x=.int i∧y=.int j∧Q (.int (f i j)) H
theorem Ic:Mn X .Add (Om fun i j=>i+j):=by
 intro pins s σ H x y v u Q I r1 r2 h
 obtain⟨i,j,e1,e2,q⟩:=h
 subst e1;subst e2
 obtain⟨t,rfl⟩:=r1
 obtain⟨t',rfl⟩:=r2
 exact iadd_int ⟨.int _,H,I.tok _,⟨_,rfl⟩,q⟩
theorem Ib:Mn X .Sub (Om fun i j=>i-j):=by
 intro pins s σ H x y v u Q I r1 r2 h
 obtain⟨i,j,e1,e2,q⟩:=h
 subst e1;subst e2
 obtain⟨t,rfl⟩:=r1
 obtain⟨t',rfl⟩:=r2
 exact isub_int ⟨.int _,H,I.tok _,⟨_,rfl⟩,q⟩
end
section
variable{X:Cx}{pos:Pos}
noncomputable def AG(c:TT)(tb:TS):TS:=fun D σ H=>∃W:Nat→St→Hp→Prop,(∃m,W m σ H)∧∀m σ H,W m σ H→
 c σ H fun b H1=>if b=true then∃N:St→Hp→Prop,(∀σ' H',N σ' H'→∃m',m'<m∧W m' σ' H')∧tb {D with nx:=N,ct:=N,bk:=D.nx} σ H1 else D.nx σ H1
theorem Bi{c:Expr}{body:List Stmt}{tc:TT}{tb:TS}(hp:PassesOwn (model X.prog X.w) X.A X.env X.xe)(hc:PT X c tc)(hb:uA X body tb):PS X (.While c body [] pos) (AG tc tb):=by
 intro pins s σ H D I h
 obtain⟨W,⟨m0,w0⟩,turn⟩:=h
 refine wpAny_While (codeAny_whileLoop (fun n s'=>∃σ' H',Inv X pins σ' H' s'∧W n σ' H') ?_ m0 ⟨σ,H,I,w0⟩)
 rintro n s1 ⟨σ1,H1,I1,w1⟩
 refine wpAny_passesOwn hp (bH (hc pins s1 σ1 H1 _ I1 (turn n σ1 H1 w1)) fun b s2 ⟨H2,I2,q2⟩=> ?_)
 cases b with
 |true=>
  obtain⟨N,hN,q2⟩:=q2
  rw [aF rfl]
  refine wpAny_passesOwn hp (bH (hb pins s2 σ1 H2 _ I2 q2) fun f s3 q3=> ?_)
  cases f with
  |next=>
   obtain⟨σ3,H3,I3,n3⟩:=q3
   obtain⟨m',hm,w3⟩:=hN σ3 H3 n3
   exact⟨m',hm,σ3,H3,I3,w3⟩
  |cont=>
   obtain⟨σ3,H3,I3,n3⟩:=q3
   obtain⟨m',hm,w3⟩:=hN σ3 H3 n3
   exact⟨m',hm,σ3,H3,I3,w3⟩
  |brk=>exact q3
  |ret v=>exact q3
 |false=>
  rw [aK kQ]
  exact wpAny_execs_nil ⟨σ1,H2,I2,q2⟩
end
structure It where
 go:Nat→Hp→Prop
 yld:Nat→Hp→V→Hp→Prop
 stop:Nat→Hp→Prop
def j3(X:Cx)(pins:List (Addr×Obj))(H:Hp)(b:Addr):Prop:=
 H b=none∧b≠X.env.locals∧b∉X.fs∧(b∈X.ex∨X.s₀.heap.objs.size≤b)∧(∀x c,X.env.cells.lookup x=some c→c≠b)∧∀p∈X.pn++pins,p.1≠b
theorem Inv.tW{H':Hp}(I:Inv X pins σ H s)(hb:s.heap.objs.size≤b)(hn:H' b=none):j3 X pins H' b:=by
 refine⟨hn,Nat.ne_of_gt (jU I.lt hb),I.nofs hb,.inr (nH I.sz hb),fun x c e z=> ?_,fun p hp z=> ?_⟩
 ·obtain⟨v,q⟩:=I.cell x c e
  exact absurd (jU q.lt (by rw [z];exact hb)) (uC _)
 ·exact absurd (jU (Heap.lt_size (I.pin p hp).1) (by rw [z];exact hb)) (uC _)
structure Turn(P:Program)(w:World)(K:W.Frag)(tg:Expr)(J:It)(fp:List Addr)(it:Addr)(tn:Nat→Heap→Prop):Prop where
 mem:it∈fp
 obj:∀i h,tn i h→∀b∈fp,∃o,h.get? b=some o∧∀v,o.data≠.cell v
 keep:∀i h h',tn i h→(∀b∈fp,∀o,h.get? b=some o→h'.get? b=some o)→tn i h'
 item:∀(X:Cx),X.prog=P→X.w=w→X.K=K→X.calm=true→∀(i:Nat) (pins:List (Addr×Obj)) (s:Shared) (σ:St) (H:Hp) (E:Value→Shared→Prop),Inv X pins σ H s→(∀b∈fp,j3 X pins H b)→tn i s.heap→J.go i H→
  wpAny (model P w) X.A (pyNext (.ref it)) (fun r s1=>∃u,r=some u∧
   wpAny (model P w) X.A (letOwnedTupleGo tg (.ref it) u) (fun _ s2=>∃x H',Inv X pins σ H' s2∧aZ x u∧J.yld i H x H'∧tn (i+1) s2.heap∧∀b∈fp,H' b=none) E s1) E s
 done:∀(X:Cx),X.prog=P→X.w=w→X.K=K→X.calm=true→∀(i:Nat) (pins:List (Addr×Obj)) (s:Shared) (σ:St) (H:Hp) (E:Value→Shared→Prop),Inv X pins σ H s→(∀b∈fp,j3 X pins H b)→tn i s.heap→J.stop i H→
  wpAny (model P w) X.A (pyNext (.ref it)) (fun r s1=>r=none∧Inv X pins σ H s1) E s
 self:∀(A:Around) (i:Nat) (s:Shared) (Q:Value→Shared→Prop) (E:Value→Shared→Prop),tn i s.heap→Q (.ref it) s→wpAny (model P w) A (pyIter (.ref it)) Q E s
noncomputable abbrev TI:=St→Hp→(It→Hp→Prop)→Prop
def OE(X:Cx)(pins:List (Addr×Obj))(σ:St)(tg:Expr)(R:It→Hp→Prop)(itv:Value)(s2:Shared):Prop:=
 ∃(it:Addr) (fp:List Addr) (tn:Nat→Heap→Prop) (J:It) (H':Hp),itv=.ref it∧Inv X pins σ H' s2∧Turn X.prog X.w X.K tg J fp it tn∧tn 0 s2.heap∧(∀b∈fp,j3 X pins H' b)∧R J H'
def PI(X:Cx)(tg iter:Expr)(wi:TI):Prop:=
 ∀(pins:List (Addr×Obj)) (s:Shared) (σ:St) (H:Hp) (R:It→Hp→Prop),Inv X pins σ H s→wi σ H R→
  wpAny (model X.prog X.w) X.A (eval iter X.env) (fun v s1=>wpAny (model X.prog X.w) X.A (pyIter v) (OE X pins σ tg R) X.xe s1) X.xe s
theorem yL{s:Shared}{Q:Unit→Shared→Prop}(ho:s.heap.get? it=some o)(hc:o.cls=.type n)(hd:o.data=.fields vs)(hn:["enumerate","zip","dict_itemiterator","dict_reverseitemiterator","odict_iterator","itertools.zip_longest","itertools.pairwise"].contains n=false)(hQ:Q () s):wpAny M A (letOwnedTupleGo tg (.ref it) u) Q E s:=by
 unfold letOwnedTupleGo
 cases tg<;>first
  |exact wpAny_pure hQ
  |(cases u<;>first
     |exact wpAny_pure hQ
     |(refine wpAny_bind (wpAny_load ho ?_)
       rw [hc,hd]
       show wpAny M A (if(["enumerate","zip","dict_itemiterator","dict_reverseitemiterator","odict_iterator","itertools.zip_longest","itertools.pairwise"].contains n&&vs[0]?==some (rawInt _))=true then _ else _) Q E s
       rw [aK (by intro h;rw [hn,Bool.false_and]at h;cases h)]
       exact wpAny_pure hQ))
noncomputable def NY(K:W.Frag)(a:Addr):It:=
 ⟨fun i H=>∃xs x,dQ K H a xs∧xs[i]?=some x,fun i H x H'=>H'=H∧∀xs,dQ K H a xs→xs[i]?=some x,fun i H=>∃xs,dQ K H a xs∧xs.length≤i⟩
noncomputable def NX(K:W.Frag)(a:Addr):It:=
 ⟨fun i H=>∃xs x,qM K H a xs∧xs[i]?=some x,fun i H x H'=>H'=H∧∀xs,qM K H a xs→xs[i]?=some x,fun i H=>∃xs,qM K H a xs∧xs.length≤i⟩
noncomputable def Mq(lo:Int)(n:Nat):It:=⟨fun i _=>i<n,fun i H x H'=>H'=H∧x=.int (lo+i),fun i _=>n≤i⟩
theorem zd{P:Program}{w:World}{K:W.Frag}{tg:Expr}(a it:Addr):Turn P w K tg (NY K a) [it] it (fun i h=>h.IsListIter it a i) where
 mem:=by simp
 obj:=fun i h st b hb=>by
  have e:b=it:=by simpa using hb
  subst e
  obtain⟨o,e,c,d⟩:=st
  exact⟨o,e,fun v z=>by rw [d]at z;cases z⟩
 keep:=fun i h h' st k=>st.at fun o e=>k it (by simp) o e
 item:=by
  intro X hP hw hK hc i pins s σ H E I hf st hg
  subst hP hw hK
  obtain⟨xs,x,hq,hx⟩:=hg
  obtain⟨az,rv,p,hz⟩:=I.list hq
  obtain⟨u,hu,ru⟩:=rv.get hx
  obtain⟨f0,f1,f2,f3,f4,f5⟩:=hf it (by simp)
  refine wpAny_pyNext_list_item st p.isList (x:=u) (by simpa using hu) fun h' st' sb=> ?_
  have I1:Inv X pins σ H {s with heap:=h'}:=I.turned (t':=s.toks) (fun b o hb e=>(sb.2 b hb).trans e) f0 f1 f3 f4 f5
  obtain⟨o,e,c,d⟩:=id st'
  exact⟨u,rfl,yL (s:= {s with heap:=h'}) e c d (by decide) ⟨x,H,I1,ru,⟨rfl,fun ys hy=>by rw [I.i9 hy hq];exact hx⟩,st',fun b hb=>(hf b hb).1⟩⟩
 done:=by
  intro X hP hw hK hc i pins s σ H E I hf st hg
  subst hP hw hK
  obtain⟨xs,hq,hx⟩:=hg
  obtain⟨az,rv,p,hz⟩:=I.list hq
  obtain⟨f0,f1,f2,f3,f4,f5⟩:=hf it (by simp)
  have hl:=rv.length
  exact wpAny_pyNext_list_end (I.ok.hd hc) st p.isList (by simp;lia) fun h' eb=>⟨rfl,I.turned (t':=s.toks) (fun b o hb e=>eb b o hb e) f0 f1 f3 f4 f5⟩
 self:=fun _ _ _ _ _ st h=>wpAny_pyIter_listiter st h
theorem wj{P:Program}{w:World}{K:W.Frag}{tg:Expr}(a it:Addr):Turn P w K tg (NX K a) [it] it (fun i h=>h.IsTupleIter it a i) where
 mem:=by simp
 obj:=fun i h st b hb=>by
  have e:b=it:=by simpa using hb
  subst e
  obtain⟨o,e,c,d⟩:=st
  exact⟨o,e,fun v z=>by rw [d]at z;cases z⟩
 keep:=fun i h h' st k=>st.at fun o e=>k it (by simp) o e
 item:=by
  intro X hP hw hK hc i pins s σ H E I hf st hg
  subst hP hw hK
  obtain⟨xs,x,hq,hx⟩:=hg
  obtain⟨az,rv,p,hz⟩:=I.tuple hq
  obtain⟨u,hu,ru⟩:=rv.get hx
  obtain⟨f0,f1,f2,f3,f4,f5⟩:=hf it (by simp)
  refine wpAny_pyNext_tuple_item st (show s.heap.IsTuple a az.toArray from p) (x:=u) (by simpa using hu) fun h' st' sb=> ?_
  have I1:Inv X pins σ H {s with heap:=h'}:=I.turned (t':=s.toks) (fun b o hb e=>(sb.2 b hb).trans e) f0 f1 f3 f4 f5
  obtain⟨o,e,c,d⟩:=id st'
  exact⟨u,rfl,yL (s:= {s with heap:=h'}) e c d (by decide) ⟨x,H,I1,ru,⟨rfl,fun ys hy=>by rw [I.zf hy hq];exact hx⟩,st',fun b hb=>(hf b hb).1⟩⟩
 done:=by
  intro X hP hw hK hc i pins s σ H E I hf st hg
  subst hP hw hK
  obtain⟨xs,hq,hx⟩:=hg
  obtain⟨az,rv,p,hz⟩:=I.tuple hq
  obtain⟨f0,f1,f2,f3,f4,f5⟩:=hf it (by simp)
  have hl:=rv.length
  exact wpAny_pyNext_tuple_end (I.ok.hd hc) st (show s.heap.IsTuple a az.toArray from p) (by simp;lia) fun h' eb=>⟨rfl,I.turned (t':=s.toks) (fun b o hb e=>eb b o hb e) f0 f1 f3 f4 f5⟩
 self:=fun _ _ _ _ _ st h=>wpAny_pyIter_tupleiter st h
theorem wo{P:Program}{w:World}{K:W.Frag}{tg:Expr}(it:Addr)(lo:Int)(n:Nat):Turn P w K tg (Mq lo n) [it] it (fun i h=>IsRangeIter h it (lo+(i:Nat)*1) ((n:Int)-(i:Nat)) 1) where
 mem:=by simp
 obj:=fun i h st b hb=>by
  have e:b=it:=by simpa using hb
  subst e
  exact⟨_,st,fun v z=>by
   have z':Data.fields _=Data.cell v:=z
   cases z'⟩
 keep:=fun i h h' st k=>k it (by simp) _ st
 item:=by
  intro X hP hw hK hc i pins s σ H E I hf st hg
  subst hP hw hK
  obtain⟨f0,f1,f2,f3,f4,f5⟩:=hf it (by simp)
  have W:=Walks.range (prog:=X.prog) (w:=X.w) (I.ok.hd hc) it lo 1 n
  refine W.item i s _ _ hg st fun v h' tk hv st' kk=> ?_
  obtain⟨t,rfl⟩:=hv
  have I1:Inv X pins σ H {s with heap:=h',toks:=tk}:=I.turned (fun b o hb e=>kk b o (by simpa using hb) e) f0 f1 f3 f4 f5
  refine⟨_,rfl,yL (s:= {s with heap:=h',toks:=tk}) (n:="range_iterator") st' rfl rfl (by decide) ⟨.int (lo+i),H,I1,⟨t,?_⟩,⟨rfl,rfl⟩,st',fun b hb=>(hf b hb).1⟩⟩
  rw [Int.mul_one]
 done:=by
  intro X hP hw hK hc i pins s σ H E I hf st hg
  subst hP hw hK
  obtain⟨f0,f1,f2,f3,f4,f5⟩:=hf it (by simp)
  exact wpAny_pyNext_range_end (I.ok.hd hc) st (by have:n≤i:=hg;lia) fun h' eb=>⟨rfl,I.turned (t':=s.toks) (fun b o hb e=>eb b o hb e) f0 f1 f3 f4 f5⟩
 self:=fun _ _ _ _ _ st h=>wpAny_pyIter_rangeiter st h
end L2
namespace L2
open PySem PySem.Spec PyProof.Rows
section
variable{X:Cx}{tg:Expr}
noncomputable def Lq(K:W.Frag)(tl:TE):TI:=fun σ H R=>tl σ H fun x H1=>∃a,x=.ref a∧(∃xs,dQ K H1 a xs)∧R (NY K a) H1
noncomputable def Ni(K:W.Frag)(tl:TE):TI:=fun σ H R=>tl σ H fun x H1=>∃a,x=.ref a∧(∃xs,qM K H1 a xs)∧R (NX K a) H1
theorem DO{l:Expr}{tl:TE}(hl:PE X l tl):PI X tg l (Lq X.K tl):=by
 intro pins s σ H R I h
 refine bH (hl pins s σ H _ I h) fun v s1 hp9=> ?_
 obtain⟨x,H1,I1,r1,q1⟩:=hp9
 obtain⟨a,e,⟨xs,hq⟩,q⟩:=q1
 subst e
 cases r1
 obtain⟨az,rv,p,hz⟩:=I1.list hq
 refine wpAny_pyIter_list p.isList ?_
 refine⟨s1.heap.objs.size,[s1.heap.objs.size],_,_,H1,rfl,I1.kept (t':=s1.toks) fun b o e=>Heap.get?_push_of_some _ e,zd a _,⟨_,Heap.get?_push_size _ rfl,rfl,rfl⟩,fun b hb=> ?_,q⟩
 have e:b=s1.heap.objs.size:=by simpa using hb
 subst e
 exact I1.tW (dr _) (I1.hok.fresh (dr _))
theorem He{l:Expr}{tl:TE}(hl:PE X l tl):PI X tg l (Ni X.K tl):=by
 intro pins s σ H R I h
 refine bH (hl pins s σ H _ I h) fun v s1 hp9=> ?_
 obtain⟨x,H1,I1,r1,q1⟩:=hp9
 obtain⟨a,e,⟨xs,hq⟩,q⟩:=q1
 subst e
 cases r1
 obtain⟨az,rv,p,hz⟩:=I1.tuple hq
 refine wpAny_pyIter_tuple (show s1.heap.IsTuple a az.toArray from p) ?_
 refine⟨s1.heap.objs.size,[s1.heap.objs.size],_,_,H1,rfl,I1.kept (t':=s1.toks) fun b o e=>Heap.get?_push_of_some _ e,wj a _,⟨_,Heap.get?_push_size _ rfl,rfl,rfl⟩,fun b hb=> ?_,q⟩
 have e:b=s1.heap.objs.size:=by simpa using hb
 subst e
 exact I1.tW (dr _) (I1.hok.fresh (dr _))
theorem uX{pins:List (Addr×Obj)}{σ:St}{H:Hp}{s:Shared}{R:It→Hp→Prop}{E:Value→Shared→Prop}{lo hi:Int}{t u v:Tok}{tk:Nat}(I:Inv X pins σ H s)(h1:-(2 ^ 62)≤lo)(h2:lo<2 ^ 62)(h3:-(2 ^ 62)≤hi)(h4:hi<2 ^ 62)
 (q:R (Mq lo (hi-lo).toNat) H):wpAny (model X.prog X.w) X.A (pyIter (.ref s.heap.objs.size)) (OE X pins σ tg R) E {s with heap:=s.heap.push {cls:=.type "range",data:=.fields #[.int lo t,.int hi u,.int 1 v]},toks:=tk}:=by
 refine wpAny_pyIter_range (IsRange.new ..) (small_one h1 h2 h3 h4) ?_
 have I1:Inv X pins σ H {s with heap:=s.heap.push {cls:=.type "range",data:=.fields #[.int lo t,.int hi u,.int 1 v]},toks:=tk}:=I.kept fun b o e=>Heap.get?_push_of_some _ e
 refine⟨(s.heap.push {cls:=.type "range",data:=.fields #[.int lo t,.int hi u,.int 1 v]}).objs.size,[(s.heap.push {cls:=.type "range",data:=.fields #[.int lo t,.int hi u,.int 1 v]}).objs.size],_,_,H,rfl,
  I1.kept (t':=tk) fun b o e=>Heap.get?_push_of_some _ e,wo _ lo (hi-lo).toNat,?_,fun b hb=> ?_,q⟩
 ·have e1:lo+((0:Nat):Int)*1=lo:=by simp
  have e2:(((hi-lo).toNat:Nat):Int)-((0:Nat):Int)=Builtin.Range.rangeSize lo hi 1:=by rw [rangeSize_one];split<;>lia
  show IsRangeIter _ _ (lo+((0:Nat):Int)*1) ((((hi-lo).toNat:Nat):Int)-((0:Nat):Int)) 1
  rw [e1,e2]
  exact Heap.get?_push_size _ rfl
 ·have e:b=(s.heap.push {cls:=.type "range",data:=.fields #[.int lo t,.int hi u,.int 1 v]}).objs.size:=by simpa using hb
  subst e
  exact I1.tW (dr _) (I1.hok.fresh (dr _))
noncomputable def Lp(ta:TA):TI:=fun σ H R=>ta σ H fun vs H1=>∃j:Int,vs=[.int j]∧-(2 ^ 62)≤j∧j<2 ^ 62∧R (Mq 0 j.toNat) H1
noncomputable def Lo(ta:TA):TI:=fun σ H R=>ta σ H fun vs H1=>∃i j:Int,vs=[.int i,.int j]∧(-(2 ^ 62)≤i∧i<2 ^ 62∧-(2 ^ 62)≤j∧j<2 ^ 62)∧R (Mq i (j-i).toNat) H1
theorem zA(hg:Gl X "range")(hm:X.mg "range"=none)(ha:PA X [a] ta)(hs:starEach [a] X.env=[(false,eval a X.env)]:=by rfl):PI X tg (.Call (.Name "range" p) [a] [] pos) (Lp ta):=by
 intro pins s σ H R I h
 refine Call_ (jc I hg hm boot_range (PyProof.Rows.callWith_type1 (bH (ha pos pins s σ H _ I h) fun us s1 ⟨vs,H1,I1,r1,q1⟩=> ?_) hs rfl))
 obtain⟨j,e,q1,q2,q⟩:=q1
 subst e
 cases r1 with
 |cons r rr=>
  cases rr
  obtain⟨t,rfl⟩:=r
  exact call_range_1 (uX I1 (by lia) (by lia) q1 q2 (by simpa using q))
theorem zy(hg:Gl X "range")(hm:X.mg "range"=none)(ha:PA X [a,b] ta)(hs:starEach [a,b] X.env=[(false,eval a X.env),(false,eval b X.env)]:=by rfl)(hs2:starEach [b] X.env=[(false,eval b X.env)]:=by rfl):
 PI X tg (.Call (.Name "range" p) [a,b] [] pos) (Lo ta):=by
 intro pins s σ H R I h
 refine Call_ (jc I hg hm boot_range (PyProof.Rows.callWith_type1 (bH (ha pos pins s σ H _ I h) fun us s1 ⟨vs,H1,I1,r1,q1⟩=> ?_) (by rw [hs,hs2]) (by rw [hs2];rfl)))
 obtain⟨i,j,e,⟨q1,q2,q3,q4⟩,q⟩:=q1
 subst e
 cases r1 with
 |cons r rr=>
  cases rr with
  |cons r' rr=>
   cases rr
   obtain⟨t,rfl⟩:=r
   obtain⟨t',rfl⟩:=r'
   exact call_range_2 (uX I1 q1 q2 q3 q4 q)
noncomputable def Dj(wi:TI)(g:TG)(tb:TS):TS:=fun D σ H=>wi σ H fun J H1=>∃W:Nat→Nat→St→Hp→Prop,(∃m,W 0 m σ H1)∧∀i m σ H,W i m σ H→
 (J.stop i H∧D.nx σ H)∨(J.go i H∧∃N:St→Hp→Prop,(∀σ' H',N σ' H'→∃m',m'<m∧W (i+1) m' σ' H')∧∀x H',J.yld i H x H'→g x σ H' fun σ2 H2=>tb {D with nx:=N,ct:=N,bk:=D.nx} σ2 H2)
noncomputable def o7(fp:List Addr)(h:Heap):List (Addr×Obj):=fp.filterMap fun b=>(h.get? b).map fun o=>(b,o)
theorem il{h:Heap}(hb:b∈fp)(e:h.get? b=some o):(b,o)∈o7 fp h:=List.mem_filterMap.mpr ⟨b,hb,by rw [e];rfl⟩
theorem zH(hp:p∈o7 fp h):p.1∈fp∧h.get? p.1=some p.2:=by
 obtain⟨b,hb,e⟩:=List.mem_filterMap.mp hp
 cases q:h.get? b with
 |none=>rw [q]at e;cases e
 |some o=>
  rw [q]at e
  have e':(b,o)=p:=cC e
  subst e'
  exact⟨hb,q⟩
theorem Inv.pinned(I:Inv X pins σ H s)(hf:∀b∈fp,j3 X pins H b)(ho:∀b∈fp,∃o,s.heap.get? b=some o∧∀v,o.data≠.cell v):Inv X (pins++o7 fp s.heap) σ H s:=
 I.yk fun p hp=>(fv.mp hp).elim (fun z=>I.pin p (nK _ z)) fun z=>by
   obtain⟨hb,e⟩:=zH z
   obtain⟨f0,f1,f2,_⟩:=hf p.1 hb
   obtain⟨o,e',d⟩:=ho p.1 hb
   rw [e]at e';cases e'
   exact⟨e,f0,f1,f2,d⟩
theorem Inv.lq(I:Inv X (pins++pl) σ H s):Inv X pins σ H s:=I.yk fun p hp=>I.pin p (nK _ (Aq _ hp))
theorem wJ(hp:PassesOwn (model X.prog X.w) X.A X.env X.xe)(hc:X.calm=true)(hi:PI X tg iter wi)(hg:PG X tg g)(hb:uA X body tb)(hs:∀x,foldedSetIterable iter X.env x=pure x:=by intro _;rfl):PS X (.For tg iter body [] pos) (Dj wi g tb):=by
 intro pins s σ H D I h
 refine wpAny_For (bH (hi pins s σ H _ I h) fun v s1 h1=>bH h1 fun itv s2 h2=> ?_) hs
 obtain⟨it,fp,tn,J,H2,e,I2,T,st2,f2,W,⟨m0,w0⟩,turn⟩:=h2
 subst e
 have stat:∀ {H':Hp},(∀b∈fp,H' b=none)→∀b∈fp,j3 X pins H' b:=fun hn b hb=>⟨hn b hb,(f2 b hb).2⟩
 refine codeAny_forLoop_any (fun n s'=>∃i σ' H',Inv X pins σ' H' s'∧tn i s'.heap∧(∀b∈fp,H' b=none)∧W i n σ' H') ?_ m0 ⟨0,σ,H2,I2,st2,fun b hb=>(f2 b hb).1,w0⟩
 rintro n s3 ⟨i,σ3,H3,I3,st3,fr3,w3⟩
 rcases turn i n σ3 H3 w3 with⟨stop,qn⟩|⟨go,N,hN,step⟩
 ·refine wpAny_passesOwn hp (bH (T.done X rfl rfl rfl hc i pins s3 σ3 H3 X.xe I3 (stat fr3) st3 stop) fun r s4 ⟨hr,I4⟩=> ?_)
  subst hr
  exact wpAny_execs_nil ⟨σ3,H3,I4,qn⟩
 ·refine wpAny_passesOwn hp (bH (T.item X rfl rfl rfl hc i pins s3 σ3 H3 X.xe I3 (stat fr3) st3 go) fun r s4 ⟨u,hr,h4⟩=> ?_)
  subst hr
  refine wpAny_passesOwn hp (bH h4 fun _ s5 ⟨x,H5,I5,r5,y5,st5,fr5⟩=> ?_)
  have I5':=I5.pinned (stat fr5) (T.obj _ _ st5)
  refine wpAny_passesOwn hp (bH (hg _ s5 σ3 H5 x u _ I5' r5 (step x H5 y5)) fun _ s6 ⟨σ6,H6,I6,q6⟩=> ?_)
  refine wpAny_passesOwn hp (bH (hb _ s6 σ6 H6 _ I6 q6) fun f s7 q7=> ?_)
  have again:∀ {σ7:St} {H7:Hp},Inv X (pins++o7 fp s5.heap) σ7 H7 s7→N σ7 H7→∃m,m<n∧∃i σ' H',Inv X pins σ' H' s7∧tn i s7.heap∧(∀b∈fp,H' b=none)∧W i m σ' H':=fun {σ7 H7} I7 n7=>by
   obtain⟨m',hm,w7⟩:=hN σ7 H7 n7
   refine⟨m',hm,i+1,σ7,H7,I7.lq,T.keep _ _ _ st5 fun b hb o e=>(I7.pin (b,o) (nK _ (nK _ (il hb e)))).1,fun b hb=> ?_,w7⟩
   obtain⟨o,e,d⟩:=T.obj _ _ st5 b hb
   exact(I7.pin (b,o) (nK _ (nK _ (il hb e)))).2.1
  cases f with
  |next=>obtain⟨σ7,H7,I7,n7⟩:=q7;exact again I7 n7
  |cont=>obtain⟨σ7,H7,I7,n7⟩:=q7;exact again I7 n7
  |brk=>obtain⟨σ7,H7,I7,q7⟩:=q7;exact⟨σ7,H7,I7.lq,q7⟩
  |ret v=>obtain⟨x7,σ7,H7,I7,r7,q7⟩:=q7;exact⟨x7,σ7,H7,I7.lq,r7,q7⟩
end
end L2
namespace L2
open PySem PySem.Spec PyProof.Rows
noncomputable abbrev R2:=V→V→Hp→VK→Prop
def jx(X:Cx)(f:Value→Value→Sem Value)(r:R2):Prop:=
 ∀(pins:List (Addr×Obj)) (s:Shared) (σ:St) (H:Hp) (x y:V) (v u:Value) (Q:VK),Inv X pins σ H s→aZ x v→aZ y u→r x y H Q→
  wpAny (model X.prog X.w) X.A (f v u) (EP X pins σ Q) X.xe s
def MH(X:Cx)(f:Value→Sem Value)(r:V→Hp→VK→Prop):Prop:=
 ∀(pins:List (Addr×Obj)) (s:Shared) (σ:St) (H:Hp) (x:V) (v:Value) (Q:VK),Inv X pins σ H s→aZ x v→r x H Q→
  wpAny (model X.prog X.w) X.A (f v) (EP X pins σ Q) X.xe s
def cz(X:Cx)(f:Value)(r:List V→Hp→VK→Prop):Prop:=
 ∀(pins:List (Addr×Obj)) (s:Shared) (σ:St) (H:Hp) (xs:List V) (us:List Value) (Q:VK),Inv X pins σ H s→aJ xs us→r xs H Q→
  wpAny (model X.prog X.w) X.A (call f us) (EP X pins σ Q) X.xe s
def NS(X:Cx)(r:V→Hp→(Bool→Hp→Prop)→Prop):Prop:=
 ∀(pins:List (Addr×Obj)) (s:Shared) (σ:St) (H:Hp) (x:V) (v:Value) (Q:Bool→Hp→Prop),Inv X pins σ H s→aZ x v→r x H Q→
  wpAny (model X.prog X.w) X.A (truthy v) (TP X pins σ Q) X.xe s
noncomputable def Fz(r:R2)(ta tb:TE):TE:=fun σ H Q=>ta σ H fun x H1=>tb σ H1 fun y H2=>r x y H2 Q
noncomputable def Od(r:V→Hp→VK→Prop)(ta:TE):TE:=fun σ H Q=>ta σ H fun x H1=>r x H1 Q
noncomputable def rI(C:Int→Int→Prop)(g:Int→Int→V):R2:=fun x y H Q=>∃i j,x=.int i∧y=.int j∧C i j∧Q (g i j) H
noncomputable def DB(g:Int→Int→V):R2:=fun x y H Q=>∃i j,x=.int i∧y=.int j∧Q (g i j) H
noncomputable def rU(g:Int→V):V→Hp→VK→Prop:=fun x H Q=>∃i,x=.int i∧Q (g i) H
section
variable{X:Cx}{a b c:Expr}{ta tb tc:TE}{pos:Pos}
theorem Jb(ha:PE X a ta)(hb:PE X b tb){R:V→V→Hp→Prop}(I:Inv X pins σ H s)(h:ta σ H fun x H1=>tb σ H1 fun y H2=>R x y H2){f:Value→Value→Sem Value}(hf:∀v u s2 x y H2,Inv X pins σ H2 s2→aZ x v→aZ y u→R x y H2→wpAny (model X.prog X.w) X.A (f v u) Q X.xe s2):
 wpAny (model X.prog X.w) X.A (eval a X.env) (fun v s₁=>wpAny (model X.prog X.w) X.A (eval b X.env) (fun u s₂=>wpAny (model X.prog X.w) X.A (f v u) Q X.xe s₂) X.xe s₁) X.xe s:=by
 refine bH (ha pins s σ H _ I h) fun v s1 hp9=> ?_
 obtain⟨x,H1,I1,r1,q1⟩:=hp9
 refine bH (hb pins s1 σ H1 _ I1 q1) fun u s2 hp9=> ?_
 obtain⟨y,H2,I2,r2,q2⟩:=hp9
 exact hf v u s2 x y H2 I2 r1 r2 q2
theorem Bp(ho:jx X (binaryOp op) r)(ha:PE X a ta)(hb:PE X b tb):PE X (.BinOp a op b pos) (Fz r ta tb):=by
 intro pins s σ H Q I h
 exact wpAny_BinOp (Jb ha hb I h fun v u s2 x y H2 I2 rx ry q=>ho pins s2 σ H2 x y v u Q I2 rx ry q)
theorem KO(ho:MH X (unaryOp op) r)(ha:PE X a ta):PE X (.UnaryOp op a pos) (Od r ta):=by
 intro pins s σ H Q I h
 exact UnaryOp_ (bH (ha pins s σ H _ I h) fun v s1 ⟨x,H1,I1,r1,q1⟩=>ho pins s1 σ H1 x v Q I1 r1 q1)
theorem K4{f:Value→Value→Sem Value}{C:Int→Int→Prop}{g:Int→Int→Int}
 (rule:∀(i j:Int) (t u:Tok) (s:Shared) (Q:Value→Shared→Prop) (E:Value→Shared→Prop),C i j→Q (.int (g i j) s.toks) {s with toks:=s.toks+1}→wpAny (model X.prog X.w) X.A (f (.int i t) (.int j u)) Q E s):
 jx X f (rI C fun i j=> .int (g i j)):=by
 intro pins s σ H x y v u Q I rx ry h
 obtain⟨i,j,rfl,rfl,hc,q⟩:=h
 obtain⟨t,rfl⟩:=rx
 obtain⟨t',rfl⟩:=ry
 exact rule i j t t' s _ _ hc ⟨.int (g i j),H,I.tok _,⟨_,rfl⟩,q⟩
theorem Hy{f:Value→Value→Sem Value}{g:Int→Int→Int}
 (rule:∀(i j:Int) (t u:Tok) (s:Shared) (Q:Value→Shared→Prop) (E:Value→Shared→Prop),Q (.int (g i j) s.toks) {s with toks:=s.toks+1}→wpAny (model X.prog X.w) X.A (f (.int i t) (.int j u)) Q E s):
 jx X f (DB fun i j=> .int (g i j)):=by
 intro pins s σ H x y v u Q I rx ry h
 obtain⟨i,j,rfl,rfl,q⟩:=h
 obtain⟨t,rfl⟩:=rx
 obtain⟨t',rfl⟩:=ry
 exact rule i j t t' s _ _ ⟨.int (g i j),H,I.tok _,⟨_,rfl⟩,q⟩
theorem Ef{f:Value→Value→Sem Value}{g:Int→Int→Bool}
 (rule:∀(i j:Int) (t u:Tok) (s:Shared) (Q:Value→Shared→Prop) (E:Value→Shared→Prop),Q (.bool (g i j)) s→wpAny (model X.prog X.w) X.A (f (.int i t) (.int j u)) Q E s):
 jx X f (DB fun i j=> .bl (g i j)):=by
 intro pins s σ H x y v u Q I rx ry h
 obtain⟨i,j,rfl,rfl,q⟩:=h
 obtain⟨t,rfl⟩:=rx
 obtain⟨t',rfl⟩:=ry
 exact rule i j t t' s _ _ ⟨.bl (g i j),H,I,rfl,q⟩
def N0(i j:Int):Prop:=0<j∧j<1073741824
def NZ(i j:Int):Prop:=0≤j∧j≤1000000∧i.natAbs<2 ^ 64
def Jo(i j:Int):Prop:=(-(2 ^ 64)<i∧i<2 ^ 64)∨(-(2 ^ 64)<j∧j<2 ^ 64)
theorem Jo.ok(h:Jo i j):IntMulOk i j:=by
 rcases h with⟨h1,h2⟩|⟨h1,h2⟩
 ·exact .of_left (intBits_le_64 h1 h2)
 ·exact .of_right (intBits_le_64 h1 h2)
theorem wg(k:Nat):(0:Int)≤2 ^ k:=by
 rw [two_pow_cast]
 exact Int.natCast_nonneg _
theorem Hx:jx X (binaryOp .Add) (DB fun i j=> .int (i+j)):=Hy fun _ _ _ _ _ _ _ q=>add_int q
theorem Hn:jx X (binaryOp .Sub) (DB fun i j=> .int (i-j)):=Hy fun _ _ _ _ _ _ _ q=>sub_int q
theorem Hs:jx X (binaryOp .Mult) (rI Jo fun i j=> .int (i*j)):=K4 fun _ _ _ _ _ _ _ hc q=>mul_int q hc.ok
theorem Ed:jx X (binaryOp .FloorDiv) (rI N0 fun i j=> .int (i/j)):=K4 fun i j _ _ _ _ _ hc q=>by
 have h1:(0:Int)<j:=hc.1
 have h2:j<1073741824:=hc.2
 exact floordiv_int (by lia) (by rw [Int.fdiv_eq_ediv_of_nonneg i (by lia)];exact q) (.inl (PyProof.noPylong_small (by lia)))
theorem Ht:jx X (binaryOp .Mod) (rI (fun _ j=>0<j) fun i j=> .int (i % j)):=K4 fun i j _ _ _ _ _ hc q=>by
 have h1:(0:Int)<j:=hc
 exact mod_int' (by lia) (by rw [Int.fmod_eq_emod_of_nonneg i (by lia)];exact q)
theorem Hq:jx X (binaryOp .LShift) (rI NZ fun i j=> .int (i*2 ^ j.toNat)):=K4 fun _ _ _ _ _ _ _ hc q=>lshift_int_small hc.1 hc.2.1 hc.2.2 q
theorem Ho:jx X (binaryOp .RShift) (rI (fun _ j=>0≤j) fun i j=> .int (i/2 ^ j.toNat)):=K4 fun i j _ _ _ _ _ hc q=>
 rshift_int hc (by rw [Int.fdiv_eq_ediv_of_nonneg i (wg _)];exact q)
theorem Hw:jx X (binaryOp .BitAnd) (DB fun i j=> .int (Builtin.bitAnd i j)):=Hy fun _ _ _ _ _ _ _ q=>and_int q
theorem OH{f:Value→Sem Value}{g:Int→Int}
 (rule:∀(i:Int) (t:Tok) (s:Shared) (Q:Value→Shared→Prop) (E:Value→Shared→Prop),Q (.int (g i) s.toks) {s with toks:=s.toks+1}→wpAny (model X.prog X.w) X.A (f (.int i t)) Q E s):
 MH X f (rU fun i=> .int (g i)):=by
 intro pins s σ H x v Q I rx h
 obtain⟨i,rfl,q⟩:=h
 obtain⟨t,rfl⟩:=rx
 exact rule i t s _ _ ⟨.int (g i),H,I.tok _,⟨_,rfl⟩,q⟩
theorem Gw:MH X (unaryOp .USub) (rU fun i=> .int (-i)):=OH fun _ _ _ _ _ q=>neg_int q
end
noncomputable def scal:V→V→Bool
 | .non,.non=>true| .non,.int _=>true| .int _,.non=>true| .non,.bl _=>true| .bl _,.non=>true| .non,.str _=>true| .str _,.non=>true
 | .int _,.int _=>true| .bl _,.bl _=>true| .str _,.str _=>true| .byt _,.byt _=>true
 | .int _,.str _=>true| .str _,.int _=>true| .bl _,.str _=>true| .str _,.bl _=>true
 |_,_=>false
section
variable{X:Cx}{a b c:Expr}{ta tb tc:TE}{pos:Pos}
theorem K0:jx X (compareOp .Lt) (DB fun i j=> .bl (decide (i<j))):=Ef fun _ _ _ _ _ _ _ q=>lt_int q
theorem K1:jx X (compareOp .LtE) (DB fun i j=> .bl (decide (i≤j))):=Ef fun _ _ _ _ _ _ _ q=>le_int q
theorem K2:jx X (compareOp .Gt) (DB fun i j=> .bl (decide (j<i))):=Ef fun _ _ _ _ _ _ _ q=>gt_int q
theorem K3:jx X (compareOp .GtE) (DB fun i j=> .bl (decide (j≤i))):=Ef fun _ _ _ _ _ _ _ q=>ge_int q
theorem D6(ho:jx X (compareOp op) r)(ha:PE X a ta)(hb:PE X b tb)(hm:behindInMarks op b=false):PE X (.Compare a [op] [b] pos) (Fz r ta tb):=by
 intro pins s σ H Q I h
 exact wpAny_Compare1 (Jb ha hb I h fun v u s2 x y H2 I2 rx ry q=>ho pins s2 σ H2 x y v u Q I2 rx ry q) hm
noncomputable def Fx(t:TE):TT:=fun σ H Q=>t σ H fun x H'=>∃k,x=.bl k∧Q k H'
theorem DF(ho:jx X (compareOp op) r)(ha:PE X a ta)(hb:PE X b tb)(hm:behindInMarks op b=false):PT X (.Compare a [op] [b] pos) (Fx (Fz r ta tb)):=by
 intro pins s σ H Q I h
 refine wpAny_isTrue_Compare1 (bH (ha pins s σ H _ I h) fun v s1 ⟨x,H1,I1,r1,q1⟩=>bH (hb pins s1 σ H1 _ I1 q1) fun u s2 ⟨y,H2,I2,r2,q2⟩=>
  bH (ho pins s2 σ H2 x y v u _ I2 r1 r2 q2) fun c s3 ⟨z,H3,I3,r3,k,e,q3⟩=> ?_) hm
 subst e
 cases r3
 exact wpAny_truthy_bool ⟨H3,I3,q3⟩
noncomputable def wu(r r':R2)(ta tb tc:TE):TE:=fun σ H Q=>ta σ H fun x H1=>tb σ H1 fun y H2=>r x y H2 fun z H3=>∃k,z=.bl k∧
 (if k=true then tc σ H3 fun w' H4=>r' y w' H4 Q else Q (.bl false) H3)
theorem Bw(ho:jx X (compareOp op) r)(ho':jx X (compareOp op') r')(ha:PE X a ta)(hb:PE X b tb)(hc:PE X c tc)(hm:lastMarks [op,op'] [b,c]=false:=by with_unfolding_all rfl):PE X (.Compare a [op,op'] [b,c] pos) (wu r r' ta tb tc):=by
 intro pins s σ H Q I h
 refine Compare_chain (bH (ha pins s σ H _ I h) fun v s1 ⟨x,H1,I1,r1,q1⟩=>chain_link (bH (hb pins s1 σ H1 _ I1 q1) fun u s2 ⟨y,H2,I2,r2,q2⟩=>
  bH (ho pins s2 σ H2 x y v u _ I2 r1 r2 q2) fun d s3 ⟨z,H3,I3,r3,k,e,q3⟩=> ?_)) hm
 subst e
 cases r3
 refine wpAny_truthy_bool ?_
 cases k with
 |false=>exact ite_ff ⟨.bl false,H3,I3,rfl,q3⟩
 |true=>exact ite_tt (chain_last (bH (hc pins s3 σ H3 _ I3 q3) fun w' s4 ⟨z',H4,I4,r4,q4⟩=>ho' pins s4 σ H4 y z' u w' Q I4 r2 r4 q4))
theorem Bh(ho:jx X (compareOp op) r)(ho':jx X (compareOp op') r')(ha:PE X a ta)(hb:PE X b tb)(hc:PE X c tc)(hm:lastMarks [op,op'] [b,c]=false:=by with_unfolding_all rfl):PT X (.Compare a [op,op'] [b,c] pos) (Fx (wu r r' ta tb tc)):=by
 intro pins s σ H Q I h
 refine isTrue_chain (bH (ha pins s σ H _ I h) fun v s1 ⟨x,H1,I1,r1,q1⟩=>test_link (bH (hb pins s1 σ H1 _ I1 q1) fun u s2 ⟨y,H2,I2,r2,q2⟩=>
  bH (ho pins s2 σ H2 x y v u _ I2 r1 r2 q2) fun d s3 ⟨z,H3,I3,r3,k,e,q3⟩=> ?_)) hm
 subst e
 cases r3
 refine wpAny_truthy_bool ?_
 cases k with
 |false=>
  obtain⟨k',e',q'⟩:=q3
  cases e'
  exact ite_ff ⟨H3,I3,q'⟩
 |true=>
  refine ite_tt (test_last (bH (hc pins s3 σ H3 _ I3 q3) fun w' s4 ⟨z',H4,I4,r4,q4⟩=>bH (ho' pins s4 σ H4 y z' u w' _ I4 r2 r4 q4) fun d' s5 ⟨z2,H5,I5,r5,k2,e2,q5⟩=> ?_))
  subst e2
  cases r5
  exact wpAny_truthy_bool ⟨H5,I5,q5⟩
def Mm(K:W.Frag)(x:V)(H:Hp)(k:Bool):Prop:=
 match x with
 | .non=>k=false
 | .bl b=>k=b
 | .int i=>k=(i !=0)
 | .str y=>y.length≤sizeLine∧k=((y.length:Int) !=0)
 | .byt y=>y.size≤sizeLine∧k=((y.size:Int) !=0)
 | .ref p=>(∃xs,dQ K H p xs∧k= !xs.isEmpty)∨(∃xs,qM K H p xs∧k= !xs.isEmpty)∨∃kvs,H p=some (.dK kvs)∧k= !kvs.isEmpty
 |_=>False
theorem xp{κ:Type}{kvs:List (κ×V)}{vs:List (κ×Value)}(r:KV kvs vs):(!vs.isEmpty)= !kvs.isEmpty:=by
 cases r<;>rfl
theorem pV(r:aJ xs az):(!az.toArray.isEmpty)= !xs.isEmpty:=by
 cases r<;>simp
theorem ip:(sizeLine:Nat)<2 ^ 63:=by rw [sizeLine_eq];decide
theorem Gz:NS X (fun x H Q=>∃k,Mm X.K x H k∧Q k H):=by
 intro pins s σ H x v Q I rx h
 obtain⟨k,e,q⟩:=h
 have hl:=ip
 have hs:sizeLine=16777216:=sizeLine_eq
 cases x with
 |non=>
  cases rx
  have e':k=false:=e
  subst e'
  exact truthy_none ⟨H,I,q⟩
 |bl b=>
  cases rx
  have e':k=b:=e
  subst e'
  exact wpAny_truthy_bool ⟨H,I,q⟩
 |int i=>
  obtain⟨t,rfl⟩:=rx
  have e':k=(i !=0):=e
  subst e'
  exact PySem.P.truthy_int ⟨H,I,q⟩
 |str y=>
  obtain⟨t,rfl⟩:=rx
  obtain⟨hy,e'⟩:y.length≤sizeLine∧k=((y.length:Int) !=0):=e
  subst e'
  exact PySem.P.truthy_str (by lia) ⟨H,I.tok _,q⟩
 |byt y=>
  obtain⟨t,rfl⟩:=rx
  obtain⟨hy,e'⟩:y.size≤sizeLine∧k=((y.size:Int) !=0):=e
  subst e'
  exact W.truthy_bytes (by lia) ⟨H,I.tok _,q⟩
 |ref p=>
  cases rx
  have e':(∃xs,dQ X.K H p xs∧k= !xs.isEmpty)∨(∃xs,qM X.K H p xs∧k= !xs.isEmpty)∨∃kvs,H p=some (.dK kvs)∧k= !kvs.isEmpty:=e
  rcases e' with⟨xs,hx,e'⟩|⟨xs,hx,e'⟩|⟨kvs,hx,e'⟩
  ·subst e'
   obtain⟨az,r,pl,hz⟩:=I.list hx
   have hlen:=r.length
   exact wpAny_truthy_list pl.isList (by simp only [List.size_toArray];lia) ⟨H,I.tok _,by rw [pV r];exact q⟩
  ·subst e'
   obtain⟨az,r,pl,hz⟩:=I.tuple hx
   have hlen:=r.length
   exact truthy_tuple pl (by simp only [List.size_toArray];lia) ⟨H,I.tok _,by rw [pV r];exact q⟩
  ·subst e'
   obtain⟨hz,hS,vs,r,m⟩:kvs.length≤sizeLine∧(p==sysModules)=false∧∃vs,KV kvs vs∧s.heap.DictOf (eY X.prog X.w) p vs:=I.hok p _ hx
   have hlen:kvs.length=vs.length:=Paired.length r
   exact wpAny_truthy_dict hS m (by lia) ⟨H,I.tok _,by rw [xp r];exact q⟩
 |_=>exact(show False from e).elim
theorem Bf(ha:PE X a ta)(he:∀whole,isTrue a X.env whole=(do let v←whole;standAt a.pos;holding [v] (truthy v))):
 PT X a (fun σ H Q=>ta σ H fun x H'=>∃k,Mm X.K x H' k∧Q k H'):=by
 intro pins s σ H Q I h
 exact isTrue_plain (bH (ha pins s σ H _ I h) fun v s1 ⟨x,H1,I1,r1,q1⟩=>Gz pins s1 σ H1 x v Q I1 r1 q1) (he _)
theorem Ay(r:aJ [x] us):∃u,us=[u]∧aZ x u:=by
 cases r with
 |cons r1 r2=>cases r2;exact⟨_,rfl,r1⟩
theorem Ft(r:aJ [x,y] us):∃u w',us=[u,w']∧aZ x u∧aZ y w':=by
 cases r with
 |cons r1 r2=>
  cases r2 with
  |cons r3 r4=>cases r4;exact⟨_,_,rfl,r1,r3⟩
theorem Aj(hc:X.calm=true):cz X (.builtin "max") (fun xs H Q=>∃i j,xs=[.int i,.int j]∧Q (.int (if j>i then j else i)) H):=by
 intro pins s σ H xs us Q I r h
 obtain⟨i,j,rfl,q⟩:=h
 obtain⟨u,w',rfl,⟨t,rfl⟩,⟨t',rfl⟩⟩:=Ft r
 refine max_two_ints (I.ok.hd hc) fun h' tk k=>⟨_,H,I.kept k,?_,q⟩
 by_cases hj:j>i
 ·rw [aF hj,aF hj];exact⟨_,rfl⟩
 ·rw [aK hj,aK hj];exact⟨_,rfl⟩
theorem Ai(hc:X.calm=true):cz X (.builtin "min") (fun xs H Q=>∃i j,xs=[.int i,.int j]∧Q (.int (if j<i then j else i)) H):=by
 intro pins s σ H xs us Q I r h
 obtain⟨i,j,rfl,q⟩:=h
 obtain⟨u,w',rfl,⟨t,rfl⟩,⟨t',rfl⟩⟩:=Ft r
 refine min_two_ints (I.ok.hd hc) fun h' tk k=>⟨_,H,I.kept k,?_,q⟩
 by_cases hj:j<i
 ·rw [aF hj,aF hj];exact⟨_,rfl⟩
 ·rw [aK hj,aK hj];exact⟨_,rfl⟩
end
end L2
namespace L2
open PySem PySem.Spec PyProof.Rows
structure ObjM(h:Heap)(x dx C:Addr)(mA:Str→Option Value):Prop where
 obj:h.get? x=some (W.instObj C dx)
 ns:h.Ns1 dx mA
 ne:dx≠x
theorem zU{h:Heap}(n:h.Ns1 dx mA):∃od,h.get? dx=some od∧∀name,W.lookIn name od=some (mA name):=by
 obtain⟨o,es,ep,ho,hd,hk,_,hm⟩:=n
 refine⟨o,ho,fun name=> ?_⟩
 have e:=hm name
 unfold nsFind findBy at e
 rw [←Array.find?_toList]at e
 unfold W.lookIn
 rw [hd]
 dsimp only
 split
 ·rename_i y q
  rw [q]at e
  exact congrArg some e
 ·rename_i q
  rw [q]at e
  have a:es.toList.any (·.refKey)=false:=by
   rw [List.any_eq_false]
   intro y hy
   obtain⟨z,t,hkey⟩:=hk y (Array.mem_toList_iff.mp hy)
   simp [DictEntry.refKey,hkey]
  have a':¬es.toList.any (·.refKey)=true:=by rw [a];exact kQ
  rw [aK a']
  exact congrArg some e
theorem ObjM.look(I:ObjM h x dx C mA):∃od,W.InstAt h x (W.instObj C dx) C (some od)∧∀name,W.lookIn name od=some (mA name):=
 let ⟨od,ho,hl⟩:=zU I.ns
 ⟨od,⟨I.obj,rfl,rfl,ho⟩,hl⟩
section
variable{prog:Program}{w:World}{A:Around}{E:Value→Shared→Prop}{s:Shared}{K:W.Frag}{x dx C f:Addr}{mA:Str→Option Value}{name:Str}{v:Value}
theorem EJ{Q:Value→Shared→Prop}(X:K.In s.heap)(I:ObjM s.heap x dx C mA)(hg:W.plainGet K C name=true)(hh:W.hasDictIn K C=true)(ha:W.findIn K (.ref C) name=some none)(hv:mA name=some v)(hv':W.handedIn v=true)(h:Q v {s with toks:=s.toks+1}):
 wpAny (model prog w) A (getAttr (.ref x) name expr) Q E s:=by
 obtain⟨od,J,hl⟩:=I.look
 exact W.get_value X J (W.plainGet_of hg).1 (W.findObj_own hh ha rfl (by rw [hl,hv])) hv' h
theorem BV{Q:Value×List Value→Shared→Prop}(X:K.In s.heap)(I:ObjM s.heap x dx C mA)(hg:W.plainGet K C name=true)(hf:W.findIn K (.ref C) name=some (some (.ref f)))(ht:W.isFn K (.ref f)=true)(hv:mA name=none)(h:Q (.ref f,[.ref x]) s):
 wpAny (model prog w) A (getMethod (.ref x) name pl) Q E s:=by
 obtain⟨od,J,hl⟩:=I.look
 exact W.method_fn X J (W.plainGet_of hg).1 (W.plainGet_of hg).2 hf (beq_iff_eq.mp ht) (by show(W.lookIn name od).map (·.isSome)=some false;rw [hl,hv];rfl) h
theorem Dw{Q:Unit→Shared→Prop}(X:K.In s.heap)(I:ObjM s.heap x dx C mA)(hs:W.findIn K (.ref C) "__setattr__"=some (some (.builtin "object.__setattr__")))(hp:W.plainOver K C=true)(ht:W.takerIn K C name=some none)(hh:W.hasDictIn K C=true)(hw:PySem.Within mA ns)(hsz:ns.length≤sizeLine)(h:∀h',ObjM h' x dx C (fun y=>if y=name then some v else mA y)→Heap.SameBut dx s.heap h'→Q () {s with heap:=h',toks:=s.toks+2}):
 wpAny (model prog w) A (setAttr (.ref x) name v) Q E s:=by
 obtain⟨od,J,hl⟩:=I.look
 refine W.set_plain X J hs (W.osa_open (s:= {s with toks:=s.toks+1}) (r:=none) X J hp ht fun b=> ?_)
 obtain⟨cd,hc,hd'⟩:=W.any_some hh
 have hx:s.heap.get? x=some ⟨.ref C,some dx,.plain, #[]⟩:=I.obj
 refine wpAny_bind (wpAny_pure (wpAny_bind (wpAny_bind (wpAny_loadPart hx (wpAny_bind (W.Looks.here (s:= {s with toks:=s.toks+1}) (W.looks_clsIn X hc) ?_))))))
 rw [hd']
 refine wpAny_pure (a:=some dx) (wpAny_bind (wpAny_pure (wpAny_bind ?_)))
 refine wpAny_nsSet1 (s:= {s with toks:=s.toks+1}) I.ns fun h' hn2 hs2=> ?_
 obtain⟨oD,esD,epD,hoD,hdD,hcD⟩:=hn2.count (PySem.Within.cons name v hw)
 refine wpAny_bind (wpAny_lookBehind hoD (by rw [hdD];exact pastItsLine_dict (nH hcD (by rw [gL];lia))) ?_)
 exact wpAny_pure (h _ ⟨(hs2.2 _ (Ne.symm I.ne)).trans I.obj,hn2,I.ne⟩ hs2)
theorem BK(X:K.In s.heap)(hm:W.makesIn K C=true)(hi:W.findIn K (.ref C) "__init__"=some (some (.ref f)))(hf:W.typeIn K (.ref f)=some (.type "function"))(h:codeAny (model prog w) (A.under (.builtin "type.__call__" ⟨.ref C::vs,kw⟩)) (.call (.ref f) ⟨.ref (s.heap.objs.size+1)::vs,kw⟩) (W.InitBack (s.heap.objs.size+1) R)
 {s with heap:=(s.heap.push W.emptyDict).push (W.instObj C s.heap.objs.size)}):
 codeAny (model prog w) A (.call (.ref C) ⟨vs,kw⟩) R s:=by
 obtain⟨hh,g,d,t,os⟩:=s
 exact W.make_core (W.makes_of X hm) (W.looks_findIn X hi) (fun self=>W.bind_fn X self hf) (.inl rfl) h
end
noncomputable def ig(f:Str)(v:V):List (Str×V)→List (Str×V)
 |[]=>[(f,v)]
 |(g,x)::r=>if g=f then(g,v)::r else(g,x)::ig f v r
theorem mY(f g:Str)(v:V):∀fs:List (Str×V),(ig f v fs).lookup g=if g=f then some v else fs.lookup g
 |[]=>by
  show List.lookup g [(f,v)]=_
  by_cases h:g=f
  ·have hb:(g==f)=true:=beq_iff_eq.mpr h
   simp only [List.lookup,hb,aF h]
  ·have hb:(g==f)=false:=beq_eq_false_iff_ne.mpr h
   simp only [List.lookup,hb,aK h]
 |(k,x)::r=>by
  have ih:=mY f g v r
  rw [show ig f v ((k,x)::r)=(if k=f then(k,v)::r else(k,x)::ig f v r)from rfl]
  by_cases hk:k=f
  ·rw [aF hk]
   by_cases h:g=k
   ·have hb:(g==k)=true:=beq_iff_eq.mpr h
    simp only [List.lookup,hb,aF (h.trans hk)]
   ·have hb:(g==k)=false:=beq_eq_false_iff_ne.mpr h
    simp only [List.lookup,hb,aK (fun e:g=f=>h (e.trans hk.symm))]
  ·rw [aK hk]
   by_cases h:g=k
   ·have hb:(g==k)=true:=beq_iff_eq.mpr h
    simp only [List.lookup,hb,aK (fun e:g=f=>hk (h.symm.trans e))]
   ·have hb:(g==k)=false:=beq_eq_false_iff_ne.mpr h
    simp only [List.lookup,hb]
    exact ih
theorem mH(f:Str)(v:V):∀fs:List (Str×V),f∈(ig f v fs).map (·.1)∧∀g,g∈fs.map (·.1)→g∈(ig f v fs).map (·.1)
 |[]=>⟨by simp [ig],fun g h=>by simp at h⟩
 |(k,x)::r=>by
  obtain⟨i1,i2⟩:=mH f v r
  rw [show ig f v ((k,x)::r)=(if k=f then(k,v)::r else(k,x)::ig f v r)from rfl]
  by_cases hk:k=f
  ·rw [aF hk]
   subst hk
   exact⟨by simp,fun g h=>by simpa using h⟩
  ·rw [aK hk]
   refine⟨?_,fun g h=> ?_⟩
   ·rw [lV]
    exact lT _ i1
   ·rw [lV]at h⊢
    rcases fY.mp h with e|e
    ·exact fY.mpr (.inl e)
    ·exact lT _ (i2 g e)
theorem mZ(f:Str)(v:V):∀fs:List (Str×V),(ig f v fs).length≤fs.length+1
 |[]=>by simp [ig]
 |(k,x)::r=>by
  have ih:=mZ f v r
  rw [show ig f v ((k,x)::r)=(if k=f then(k,v)::r else(k,x)::ig f v r)from rfl]
  by_cases hk:k=f
  ·rw [aF hk,gL,gL];lia
  ·rw [aK hk,gL,gL];lia
theorem lR.some_of(r:lR (some v) o):∃u,o=some u∧aZ v u:=by
 cases o with
 |none=>exact(show False from r).elim
 |some u=>exact⟨u,rfl,r⟩
theorem lR.none_of(r:lR none o):o=none:=by
 cases o with
 |none=>rfl
 |some u=>exact(show False from r).elim
theorem z5(r:aZ v u):W.handedIn u=true:=by
 cases v with
 |non=>cases (show u=Value.none from r);rfl
 |bl b=>cases (show u=Value.bool b from r);rfl
 |int i=>obtain⟨t,e⟩:=(show∃t,u=Value.int i t from r);cases e;rfl
 |str x=>obtain⟨t,e⟩:=(show∃t,u=Value.str x t from r);cases e;rfl
 |byt b=>obtain⟨t,e⟩:=(show∃t,u=Value.bytes b t from r);cases e;rfl
 |flt b=>obtain⟨t,e⟩:=(show∃t,u=Value.float b t from r);cases e;rfl
 |ref a=>cases (show u=Value.ref a from r);rfl
 |ty n=>cases (show u=Value.type n from r);rfl
section
variable{P:Program}{w:World}{H H':Hp}{h h':Heap}{a C dx:Addr}{fs fs':List (Str×V)}
theorem ou(hok:mU P w H h)(e:H a=some (.ins C dx fs)):∃mA,ObjM h a dx C mA∧(∀f,lR (fs.lookup f) (mA f))∧PySem.Within mA (fs.map (·.1))∧fs.length≤1000∧H dx=some (.own a):=by
 obtain⟨d,z,ne,ob,mA,n,r,q⟩:=(show b8 P w H h a (.ins C dx fs)from hok a _ e)
 exact⟨mA,⟨ob,n,ne⟩,r,q,z,d⟩
end
structure Cls(K:W.Frag)(C:Addr):Prop where
 pg:W.plainGet K C Str.empty=true
 hd:W.hasDictIn K C=true
 po:W.plainOver K C=true
 sa:W.findIn K (.ref C) "__setattr__"=some (some (.builtin "object.__setattr__"))
theorem Cls.get{K:W.Frag}{C:Addr}(c:Cls K C)(f:Str):W.plainGet K C f=true:=c.pg
def jy(K:W.Frag)(C:Addr)(f:Str):Prop:=W.findIn K (.ref C) f=some none
theorem jy.J8{K:W.Frag}{C:Addr}{f:Str}(n:jy K C f):W.takerIn K C f=some none:=by
 unfold W.takerIn
 rw [show W.findIn K (.ref C) f=some none from n]
 rfl
structure Meth(K:W.Frag)(C:Addr)(m:Str)(f:Addr):Prop where
 at_:W.findIn K (.ref C) m=some (some (.ref f))
 fn:W.isFn K (.ref f)=true
 kp:W.keepIn K (.ref f)=true
section
variable{X:Cx}{pins:List (Addr×Obj)}{σ:St}{H:Hp}{s:Shared}{a C dx:Addr}{fs:List (Str×V)}{f:Str}{v:V}{A:Around}{E:Value→Shared→Prop}
theorem xt{Q:Value→Shared→Prop}(I:Inv X pins σ H s)(e:H a=some (.ins C dx fs))(c:Cls X.K C)(n:jy X.K C f)(l:fs.lookup f=some v)(h:∀u s',Inv X pins σ H s'→aZ v u→Q u s'):wpAny (model X.prog X.w) A (getAttr (.ref a) f b) Q E s:=by
 obtain⟨mA,O,r,_,_,_⟩:=ou I.hok e
 obtain⟨u,hu,ru⟩:=lR.some_of (v:=v) (o:=mA f) (by rw [←l];exact r f)
 exact EJ I.m3 O (c.get f) c.hd n hu (z5 ru) (h u _ (I.tok _) ru)
theorem xr{Q:Value×List Value→Shared→Prop}(I:Inv X pins σ H s)(e:H a=some (.ins C dx fs))(c:Cls X.K C)(k:Meth X.K C m g)(l:fs.lookup m=none)(h:Q (.ref g,[.ref a]) s):wpAny (model X.prog X.w) A (getMethod (.ref a) m pl) Q E s:=by
 obtain⟨mA,O,r,_,_,_⟩:=ou I.hok e
 have hn:mA m=none:=lR.none_of (by rw [←l];exact r m)
 exact BV I.m3 O (c.get m) k.at_ k.fn hn h
theorem wG{Q:Unit→Shared→Prop}(I:Inv X pins σ H s)(e:H a=some (.ins C dx fs))(c:Cls X.K C)(n:jy X.K C f)(hl:fs.length<1000)(ry:aZ y u)(h:∀s',Inv X pins σ (bp H a (.ins C dx (ig f y fs))) s'→Q () s'):wpAny (model X.prog X.w) A (setAttr (.ref a) f u) Q E s:=by
 obtain⟨mA,O,r,wi,_,ho⟩:=ou I.hok e
 have hz:(fs.map (·.1)).length≤sizeLine:=by rw [b9,sizeLine_eq];lia
 refine Dw I.m3 O c.sa c.po n.J8 c.hd wi hz fun h' O' sb=>h _ ?_
 have hd:∃o,h'.get? dx=some o:=let ⟨o,_,_,e',_⟩:=O'.ns;⟨o,e'⟩
 refine I.write (x:=a) (e:=dx) (by rw [e];exact True.intro) (.inr ho) (fun b q hb z=>(sb.2 b hb).trans z) hd ?_
 refine⟨by rw [ag O.ne];exact ho,?_,O.ne,O'.obj,_,O'.ns,fun g=> ?_,fun g hg=> ?_⟩
 ·have:=mZ f y fs;lia
 ·show lR ((ig f y fs).lookup g) (if g=f then some u else mA g)
  rw [mY]
  by_cases q:g=f
  ·rw [aF q,aF q];exact ry
  ·rw [aK q,aK q];exact r g
 ·by_cases q:g=f
  ·rw [q];exact(mH f y fs).1
  ·refine(mH f y fs).2 g (wi g fun z=>hg ?_)
   show(if g=f then some u else mA g)=none
   rw [aK q];exact z
theorem Inv.made(I:Inv X pins σ H s):Inv X pins σ (bp (bp H s.heap.objs.size (.own (s.heap.objs.size+1))) (s.heap.objs.size+1) (.ins C s.heap.objs.size []))
 {s with heap:=(s.heap.push W.emptyDict).push (W.instObj C s.heap.objs.size)}:=by
 have e1:(s.heap.push W.emptyDict).get? s.heap.objs.size=some W.emptyDict:=Heap.get?_push_size s.heap rfl
 have e2:((s.heap.push W.emptyDict).push (W.instObj C s.heap.objs.size)).get? (s.heap.objs.size+1)=some (W.instObj C s.heap.objs.size):=by
  have:=Heap.get?_push_size (s.heap.push W.emptyDict) (o:=W.instObj C s.heap.objs.size) rfl
  rwa [Heap.size_push]at this
 have e3:(s.heap.push W.emptyDict).Ns s.heap.objs.size (fun _=>none):=⟨W.emptyDict, #[],_,e1,rfl,(fun e he=>absurd he (by simp)),fun _=>rfl⟩
 have I1:=I.laid (a:=s.heap.objs.size) (o:=.own (s.heap.objs.size+1)) (h':=s.heap.push W.emptyDict) (t':=s.toks) (fun b u q=>Heap.get?_push_of_some _ q) (dr _) ⟨_,e1⟩
 refine I1.laid (a:=s.heap.objs.size+1) (o:=.ins C s.heap.objs.size []) (t':=s.toks) (fun b u q=>Heap.get?_push_of_some _ q) (Nat.le_of_eq (Heap.size_push _ _)) ?_
 have ne:s.heap.objs.size≠s.heap.objs.size+1:=fu (Nat.lt_succ_self _)
 refine⟨by rw [ag ne,ak],iQ _,ne,e2,fun _=>none,(Heap.Ns1.of_empty e3).at fun o q=>Heap.get?_push_of_some _ q,fun _=>True.intro,fun y hy=>absurd rfl hy⟩
theorem Fj(hb:attributeBase e f env (eval e env)=eval e env)(h:wpAny (model prog w) A (eval e env) (fun o s₁=>wpAny (model prog w) A (getAttr o f true) Q E s₁) E s):wpAny (model prog w) A (eval (.Attribute e f pos) env) Q E s:=
 Attribute_any_ h (by rw [arm_eval_Attribute,hb])
end
noncomputable def AL(K:W.Frag)(ta:TE)(f:Str):TE:=fun σ H Q=>ta σ H fun x H1=>∃a C dx fs v,x=.ref a∧H1 a=some (.ins C dx fs)∧Cls K C∧jy K C f∧fs.lookup f=some v∧Q v H1
noncomputable def KD(K:W.Frag)(ta tv:TE)(f:Str):TS:=fun D σ H=>tv σ H fun y H1=>ta σ H1 fun x H2=>∃a C dx fs,x=.ref a∧H2 a=some (.ins C dx fs)∧Cls K C∧jy K C f∧fs.length<1000∧
 D.nx σ (bp H2 a (.ins C dx (ig f y fs)))
section
variable{X:Cx}{o e value:Expr}{f:Str}{pos pos' tpos:Pos}{ta tv:TE}
theorem mm(he:PE X e ta)(hb:attributeBase e f X.env (eval e X.env)=eval e X.env):PE X (.Attribute e f pos) (AL X.K ta f):=by
 intro pins s σ H Q I h
 refine Fj hb (bH (he pins s σ H _ I h) fun u s1 ⟨x,H1,I1,rx,a,C,dx,fs,v,ex,ea,c,n,l,q⟩=> ?_)
 subst ex
 obtain rfl:u=Value.ref a:=rx
 exact xt I1 ea c n l fun u' s2 I2 ru=>⟨v,H1,I2,ru,q⟩
theorem Ha(ha:PE X o ta)(hv:PE X value tv)(hs:swapsWith value (some (.Attribute o f pos')) pos.line X.env=pure false):PS X (.Assign [.Attribute o f pos'] value pos) (KD X.K ta tv f):=by
 intro pins s σ H D I h
 refine plainObj_wpAny_Assign_Attribute (bH (hv pins s σ H _ I h) fun u s1 ⟨y,H1,I1,ry,q⟩=>bH (ha pins s1 σ H1 _ I1 q) fun ov s2 ⟨x,H2,I2,rx,a,C,dx,fs,ex,ea,c,n,l,q2⟩=> ?_) hs
 subst ex
 obtain rfl:ov=Value.ref a:=rx
 exact wG I2 ea c n l ry fun s3 I3=>⟨σ,_,I3,q2⟩
end
section
variable{X:Cx}{pins:List (Addr×Obj)}{σ:St}{H:Hp}{s:Shared}{A:Around}{E:Value→Shared→Prop}{Q:Value→Shared→Prop}{c:Value}{b:Bool}
inductive TyOf(K:W.Frag)(H:Hp):V→Value→Prop where
 |non:TyOf K H .non (.type "NoneType")
 |bl (x:Bool):TyOf K H (.bl x) (.type "bool")
 |int (i:Int):TyOf K H (.int i) (.type "int")
 |str (x:Str):TyOf K H (.str x) (.type "str")
 |flt (x:UInt64):TyOf K H (.flt x) (.type "float")
 |lst {a:Addr} {xs:List V} (e:H a=some (.lst xs)):TyOf K H (.ref a) (.type "list")
 |frz {a:Addr} {o:Obj} {xs:List V} (e:H a=some (.frz o (.lst xs))):TyOf K H (.ref a) (.type "list")
 |tup {a:Addr} {xs:List V} (e:H a=some (.tup xs)):TyOf K H (.ref a) (.type "tuple")
 |dK {a:Addr} {kvs:List (qN×V)} (e:H a=some (.dK kvs)):TyOf K H (.ref a) (.type "dict")
 |dT {a:Addr} {kvs:List (List qN×V)} (e:H a=some (.dT kvs)):TyOf K H (.ref a) (.type "dict")
 |ins {a C dx:Addr} {fs:List (Str×V)} (e:H a=some (.ins C dx fs)) (cl:Cls K C) (ha:W.findIn K (.ref C) "__class__"=some (some (.builtin "object.__class__")))
   (hn:W.specialIn K (.builtin "object.__class__") "__get__"=some (some (.builtin "getset_descriptor.__get__"))) (htk:W.takesIn K (.builtin "object.__class__")=some true)
   (hm:W.mroIn K C (.type "object")=some true):TyOf K H (.ref a) (.ref C)
theorem rM(I:Inv X pins σ H s)(rx:aZ x u)(ty:TyOf X.K H x t)(e:W.kitOne X.K t c=some b)(h:∀tk,Q (.bool b) {s with toks:=tk}):
 wpAny (model X.prog X.w) A (call (.builtin "isinstance") [u,c]) Q E s:=by
 cases ty with
 |non=>cases (show u=Value.none from rx);exact W.kia_one W.kitx_none I.m3 True.intro e (fun z=>nomatch z) h
 |bl y=>cases (show u=Value.bool y from rx);exact W.kia_one W.kitx_bool I.m3 True.intro e (fun z=>nomatch z) h
 |int i=>obtain⟨t,q⟩:=(show∃t,u=Value.int i t from rx);cases q;exact W.kia_one W.kitx_int I.m3 True.intro e (fun z=>nomatch z) h
 |str y=>obtain⟨t,q⟩:=(show∃t,u=Value.str y t from rx);cases q;exact W.kia_one W.kitx_str I.m3 True.intro e (fun z=>nomatch z) h
 |flt y=>obtain⟨t,q⟩:=(show∃t,u=Value.float y t from rx);cases q;exact W.kia_one W.kitx_float I.m3 True.intro e (fun z=>nomatch z) h
 | @lst a xs ea=>
   cases (show u=Value.ref a from rx)
   obtain⟨_,_,n,_,h1⟩:=(show b8 X.prog X.w H s.heap a (.lst xs)from I.hok a _ ea)
   exact W.kia_one W.kitx_list I.m3 ⟨_,h1,rfl⟩ e (fun z=>nomatch z) h
 | @frz a ob xs ea=>
   cases (show u=Value.ref a from rx)
   obtain⟨_,_,_,n,_,h1⟩:=(show b8 X.prog X.w H s.heap a (.frz ob (.lst xs))from I.hok a _ ea)
   exact W.kia_one W.kitx_list I.m3 ⟨_,h1,rfl⟩ e (fun z=>nomatch z) h
 | @tup a xs ea=>
   cases (show u=Value.ref a from rx)
   obtain⟨_,_,_,p⟩:=(show b8 X.prog X.w H s.heap a (.tup xs)from I.hok a _ ea)
   obtain⟨o,h1,h2,_⟩:=p
   exact W.kia_one W.kitx_tuple I.m3 ⟨o,h1,h2⟩ e (fun z=>nomatch z) h
 | @dK a kvs ea=>
   cases (show u=Value.ref a from rx)
   obtain⟨_,_,vs,_,p⟩:=(show b8 X.prog X.w H s.heap a (.dK kvs)from I.hok a _ ea)
   obtain⟨o,es,ep,h1,h2,_⟩:=p
   exact W.kia_one W.kitx_dict I.m3 ⟨o,h1,h2.1⟩ e (fun z=>nomatch z) h
 | @dT a kvs ea=>
   cases (show u=Value.ref a from rx)
   obtain⟨_,_,xs,_,o,es,ep,h1,h2,_⟩:=(show b8 X.prog X.w H s.heap a (.dT kvs)from I.hok a _ ea)
   exact W.kia_one W.kitx_dict I.m3 ⟨o,h1,h2.1⟩ e (fun z=>nomatch z) h
 | @ins a C dx fs ea cl ha hn htk hm=>
   cases (show u=Value.ref a from rx)
   obtain⟨mA,O,_⟩:=ou I.hok ea
   obtain⟨od,J,_⟩:=O.look
   exact W.kia_one (W.kitx_own (cl.get _) cl.hd ha hn htk hm) I.m3 J e (fun z=>nomatch z) h
end
end L2
namespace L2
open PySem PySem.Spec PyProof.Rows
structure Room(k:Nat)(A:Around):Prop where
 hd:A.handled=none
 dp:A.depth+3*k+5<recursionLimit
 un:A.units+16*k+200<cLine
theorem Room.mono(r:Room k A)(h:j≤k):Room j A:=⟨r.hd,by have:=r.dp;lia,by have:=r.un;lia⟩
theorem Room.deeper(r:Room (k+1) A)(env:Env):Room k (A.deeper env):=
 ⟨r.hd,by have:=r.dp;show A.depth+1+3*k+5<_;lia,by have:=r.un;show A.units+3+16*k+200<_;lia⟩
theorem xc{A:Around}:(A.under (.builtin "type.__call__" ⟨.ref C::us,kw⟩)).depth=A.depth+1:=by
 first|rfl|simp [Around.under,Code.weight,Code.isCreation,Code.isGuard,Code.isCaller,Code.frames,Code.isFrame,guardIds]
theorem wZ{A:Around}:(A.under (.builtin "type.__call__" ⟨.ref C::us,kw⟩)).units=A.units+1:=by
 first|rfl|simp [Around.under,Code.cUnits,Code.frames,Code.isFrame]
theorem Room.make(r:Room (k+1) A)(C:Addr)(us:List Value)(kw:List (Str×Value)):Room k (A.under (.builtin "type.__call__" ⟨.ref C::us,kw⟩)):=
 ⟨r.hd,by have:=r.dp;rw [xc];lia,by have:=r.un;rw [wZ];lia⟩
theorem Room.depth(r:Room k A):A.depth<recursionLimit:=by have:=r.dp;lia
theorem Room.units(r:Room k A):A.units+64<cLine:=by have:=r.un;lia
noncomputable def fZ:TA:=fun _ H Q=>Q [] H
noncomputable def bI(ta:TE)(tr:TA):TA:=fun σ H Q=>ta σ H fun x H1=>tr σ H1 fun xs H2=>Q (x::xs) H2
section
variable{X:Cx}{e:Expr}{es:List Expr}{te:TE}{t:TA}{pos:Pos}
theorem aY:PA X [] fZ:=fun _ _ _ _ H Q I h=>Calls.spliced_nil ⟨[],H,I,.nil,h⟩
theorem ay(ha:PE X e te)(hr:PA X es t)(hs:starEach (e::es) X.env=(false,eval e X.env)::starEach es X.env:=by rfl):PA X (e::es) (bI te t):=by
 intro pos pins s σ H Q I h
 rw [hs]
 show wpAny _ _ (spliced ((false,eval e X.env)::backTo pos (starEach es X.env))) _ _ s
 refine Calls.spliced_cons (bH (ha pins s σ H _ I h) fun u s1 ⟨x,H1,I1,r1,q1⟩=> ?_)
 exact bH (hr pos pins s1 σ H1 _ I1 q1) fun us s2 ⟨xs,H2,I2,r2,q2⟩=>⟨x::xs,H2,I2,.cons r1 r2,q2⟩
noncomputable def AH(t:TA):TE:=fun σ H Q=>t σ H fun xs H1=>xs.length≤sizeLine∧∀p,H1 p=none→Q (.ref p) (bp H1 p (.tup xs))
noncomputable def Kg(t:TA):TE:=fun σ H Q=>t σ H fun xs H1=>xs.length≤sizeLine∧∀p,H1 p=none→Q (.ref p) (bp H1 p (.lst xs))
theorem sZ{x1}(h:PA X es t):PE X (.Tuple es x1 pos) (AH t):=by
 intro pins s σ H Q I hq
 refine wpAny_Tuple_spliced (bH (h pos pins s σ H _ I hq) fun us s1 ⟨xs,H1,I1,r,z,q⟩=>⟨by rw [←r.length];exact z,?_⟩)
 have hf:H1 s1.heap.objs.size=none:=I1.hok.fresh (dr _)
 refine⟨.ref s1.heap.objs.size,bp H1 s1.heap.objs.size (.tup xs),I1.laid (t':=s1.toks) (fun b u e=>Heap.get?_push_of_some _ e) (dr _) ?_,rfl,q _ hf⟩
 exact⟨z,us,r,⟨_,Heap.get?_push_size _ rfl,rfl,_,rfl⟩⟩
theorem wN(h:PA X es t):PE X (.List es pos) (Kg t):=by
 intro pins s σ H Q I hq
 refine wpAny_List_spliced (bH (h pos pins s σ H _ I hq) fun us s1 ⟨xs,H1,I1,r,z,q⟩=>⟨by rw [←r.length];exact z,?_⟩)
 have hf:H1 s1.heap.objs.size=none:=I1.hok.fresh (dr _)
 refine⟨.ref s1.heap.objs.size,bp H1 s1.heap.objs.size (.lst xs),I1.laid (t':=s1.toks) (fun b u e=>Heap.get?_push_of_some _ e) (dr _) ?_,rfl,q _ hf⟩
 exact⟨z,us,0,r,Heap.get?_push_size _ rfl⟩
end
noncomputable abbrev Sp:=List V→Hp→VK→XK→Prop
noncomputable abbrev C9:=List Env→Hp→Shared→XK→Value→Shared→Prop
structure Env0(P:Program)(w:World)(K:W.Frag)(mg:Str→Option Value)(base:Heap)(A:Around)(outer:List Env)(s:Shared)(H:Hp):Prop where
 frames:A.frames=some outer
 mod:Mod K mg base
 bs:∀b o,base.get? b=some o→s.heap.get? b=some o∧H b=none
 bsz:base.objs.size≤s.heap.objs.size
 funs:s.heap.FunFrames base outer
 frf:∀b∈yN outer,H b=none
 hok:mU P w H s.heap
 bare:AllBare s.gens
def CE(outer:List Env)(P:Program)(w:World)(H:Hp)(s:Shared)(Q:VK)(u:Value)(s':Shared):Prop:=
 ∃v H',s'.os=s.os∧AllBare s'.gens∧Un (yN outer) [] H H' s.heap s'.heap∧mU P w H' s'.heap∧aZ v u∧Q v H'
def CR(CX:C9)(outer:List Env)(P:Program)(w:World)(H:Hp)(s:Shared)(Q:VK)(E:XK)(r:Result)(s':Shared):Prop:=
 match r with
 | .ok (.ret u)=>CE outer P w H s Q u s'
 | .ok _=>False
 | .error e=>CX outer H s E e s'
structure FnOk(P:Program)(w:World)(K:W.Frag)(mg:Str→Option Value)(base:Heap)(CX:C9)(k:Nat)(f:Addr)(fd:FuncData)(ps:List Str)(sp:Sp):Prop where
 len:∀vs H Q E,sp vs H Q E→vs.length=ps.length
 run:∀(A:Around) (outer:List Env) (s:Shared) (H:Hp) (args:Args) (us:List Value) (vs:List V) (Q:VK) (E:XK),Room k A→Env0 P w K mg base A outer s H→BindsTo s fd args (ps.zip us)→aJ vs us→sp vs H Q E→
  codeAny (model P w) A (.call (.ref f) args) (CR CX outer P w H s Q E) s
theorem FnOk.mono{P:Program}{w:World}{K:W.Frag}{mg:Str→Option Value}{base:Heap}{CX:C9}{j k:Nat}{f:Addr}{fd:FuncData}{ps:List Str}{sp:Sp}(F:FnOk P w K mg base CX j f fd ps sp)(h:j≤k):
 FnOk P w K mg base CX k f fd ps sp:=⟨F.len,fun A outer s H args us vs Q E hr=>F.run A outer s H args us vs Q E (hr.mono h)⟩
theorem Env0.make{P:Program}{w:World}{K:W.Frag}{mg:Str→Option Value}{base:Heap}{A:Around}{outer:List Env}{s:Shared}{H:Hp}(e:Env0 P w K mg base A outer s H)(C:Addr)(us:List Value)(kw:List (Str×Value)):
 Env0 P w K mg base (A.under (.builtin "type.__call__" ⟨.ref C::us,kw⟩)) outer s H:=⟨by first|exact e.frames|(simpa [Around.under,Code.envs,Code.isFrame,pushEnvs]using e.frames),e.mod,e.bs,e.bsz,e.funs,e.frf,e.hok,e.bare⟩
section
variable{X:Cx}{pins:List (Addr×Obj)}{σ:St}{H:Hp}{s s':Shared}
theorem Inv.LM(I:Inv X pins σ H s):Env0 X.prog X.w X.K X.mg X.base X.A X.stack s H:=
 ⟨I.ok.frames,I.ok.mod,I.bs,nH I.ok.bsz I.sz,I.stack,I.x8,I.hok,I.bare⟩
theorem Inv.after(I:Inv X pins σ H s)(h:CE X.stack X.prog X.w H s Q u s'):EP X pins σ Q u s':=by
 obtain⟨v,H',os,bare,un,hok,r,q⟩:=h
 obtain⟨hh,g,d,t,os'⟩:=s'
 obtain rfl:os'=s.os:=os
 exact⟨v,H',I.call (h':=hh) (g':=g) (d':=d) (t':=t) (ch:=[]) un hok bare (fun b z=>absurd z (by simp)),r,q⟩
end
noncomputable def FA(sp:Sp)(dvs:List V)(E:XK)(t:TA):TE:=fun σ H Q=>t σ H fun vs H1=>sp (vs++dvs) H1 Q E
noncomputable def Ke(C:Addr)(m:Str)(sp:Sp)(dvs:List V)(E:XK)(ta:TE)(t:TA):TE:=fun σ H Q=>ta σ H fun x H1=>∃a dx fs,x=.ref a∧H1 a=some (.ins C dx fs)∧fs.lookup m=none∧
 t σ H1 fun vs H2=>sp (x::(vs++dvs)) H2 Q E
noncomputable def Kf(C:Addr)(sp:Sp)(dvs:List V)(E:XK)(t:TA):TE:=fun σ H Q=>t σ H fun vs H1=>∀x dx,H1 x=none→H1 dx=none→dx≠x→
 sp (.ref x::(vs++dvs)) (bp (bp H1 dx (.own x)) x (.ins C dx [])) (fun v H2=>v=.non∧Q (.ref x) H2) E
def cA(K:W.Frag)(fd:FuncData)(ps:List Str)(ds:List Value):Prop:=
 ∀(s:Shared) (us:List Value),K.In s.heap→(us++ds).length=ps.length→BindsTo s fd ⟨us,[]⟩ (ps.zip (us++ds))
theorem cA.all{K:W.Frag}{fd:FuncData}{ps:List Str}(h:∀us:List Value,us.length=ps.length→bindArgs fd ⟨us,[]⟩=pure (ps.zip us)):cA K fd ps []:=fun s us _ hl=>by
 rw [kX]at hl⊢
 exact .of_eq (h us hl)
def mS(CX:C9)(X:Cx)(E:XK):Prop:=∀(pins:List (Addr×Obj)) (σ:St) (H:Hp) (s:Shared) (e:Value) (s':Shared),Inv X pins σ H s→CX X.stack H s E e s'→X.xe e s'
section
variable{X:Cx}{CX:C9}{k:Nat}{f C:Addr}{fd:FuncData}{ps:List Str}{sp:Sp}{dvs:List V}{ds:List Value}{E:XK}{x m:Str}{p pos apos:Pos}{e o:Expr}{es:List Expr}{ta:TE}{t:TA}
theorem A9(F:FnOk X.prog X.w X.K X.mg X.base CX k f fd ps sp)(hr:Room k X.A)(hb:cA X.K fd ps ds)(hd:aJ dvs ds)(hx:mS CX X E)(I:Inv X pins σ H s)(r:aJ vs us)(h:sp (vs++dvs) H Q E):wpAny (model X.prog X.w) X.A (call (.ref f) us) (EP X pins σ Q) X.xe s:=by
 have r2:aJ (vs++dvs) (us++ds):=r.append hd
 have hl:(us++ds).length=ps.length:=by rw [←r2.length];exact F.len _ _ _ _ h
 refine wpAny_call (codeAny_mono (F.run X.A X.stack s H ⟨us,[]⟩ (us++ds) (vs++dvs) Q E hr I.LM (hb s us I.m3 hl) r2 h) fun r s' hq=> ?_)
 cases r with
 |error e=>exact hx pins σ H s e s' I hq
 |ok fl=>
  cases fl with
  |ret u=>exact I.after hq
  |next=>exact False.elim hq
  |brk=>exact False.elim hq
  |cont=>exact False.elim hq
theorem tj(F:FnOk X.prog X.w X.K X.mg X.base CX k f fd ps sp)(hr:Room k X.A)(hg:Gl X x)(hm:X.mg x=some (.ref f))(hk:W.keepIn X.K (.ref f)=true)(hb:cA X.K fd ps ds)(hd:aJ dvs ds)(hx:mS CX X E)
 (ha:PA X (e::es) t)(hdb:(x==("__debug__":Str))=false:=by decide)(he:starEach (e::es) X.env=(false,eval e X.env)::starEach es X.env:=by rfl)(hpl:(backTo pos (starEach es X.env)).any (·.1)=false:=by rfl):
 PE X (.Call (.Name x p) (e::es) [] pos) (FA sp dvs E t):=by
 intro pins s σ H Q I h
 refine wpAny_Call_Name_kw (tM I hg hm ?_ hdb)
 refine W.callWith_K (h₀:=X.base) I.ok.mod.kin hk (bH (ha pos pins s σ H _ I h) fun us s1 ⟨vs,H1,I1,r,q⟩=>⟨I1.m3,?_⟩) he hpl
 exact A9 F hr hb hd hx I1 r q
theorem yo(he:PE X o ta)(c:Cls X.K C)(hm:Meth X.K C m f)(F:FnOk X.prog X.w X.K X.mg X.base CX k f fd ps sp)(hr:Room k X.A)(hb:cA X.K fd ps ds)(hd:aJ dvs ds)(hx:mS CX X E)(ha:PA X (e::es) t)(hst:starEach (e::es) X.env=(false,eval e X.env)::starEach es X.env:=by rfl)(hpl:(backTo pos (starEach es X.env)).any (·.1)=false:=by rfl)(ht:eval (.Call (.Attribute o m apos) (e::es) [] pos) X.env=(do
 let ov←eval o X.env
 standAt apos.atName
 let (f,first)←holding [ov] (getMethod ov m pl)
 callWith pos f first (backTo pos (starEach (e::es) X.env)) (backToKw pos (keywordEach [] X.env))):=by rfl):
 PE X (.Call (.Attribute o m apos) (e::es) [] pos) (Ke C m sp dvs E ta t):=by
 intro pins s σ H Q I h
 refine W.methodCall_KW (pl:=pl) (bH (he pins s σ H _ I h) fun u s1 ⟨x,H1,I1,rx,a,dx,fs,ex,ea,l,q⟩=> ?_) ht
 subst ex
 obtain rfl:u=Value.ref a:=rx
 refine xr I1 ea c hm l ?_
 refine W.callWith_K (first:=[.ref a]) (h₀:=X.base) I.ok.mod.kin hm.kp (bH (ha pos pins s1 σ H1 _ I1 q) fun us s2 ⟨vs,H2,I2,r,q2⟩=>⟨I2.m3,?_⟩) hst hpl
 exact A9 (us:=.ref a::us) (vs:=.ref a::vs) F hr hb hd hx I2 (.cons rfl r) q2
structure Mk(K:W.Frag)(C f:Addr):Prop where
 makes:W.makesIn K C=true
 init:W.findIn K (.ref C) "__init__"=some (some (.ref f))
 fn:W.isFn K (.ref f)=true
 kp:W.keepIn K (.ref C)=true
theorem A8{Q:VK}(M:Mk X.K C f)(F:FnOk X.prog X.w X.K X.mg X.base CX k f fd ps sp)(hr:Room (k+1) X.A)(hb:cA X.K fd ps ds)(hd:aJ dvs ds)(hx:mS CX X E)(I:Inv X pins σ H s)(r:aJ vs us)(h:∀x dx,H x=none→H dx=none→dx≠x→sp (.ref x::(vs++dvs)) (bp (bp H dx (.own x)) x (.ins C dx [])) (fun v H2=>v=.non∧Q (.ref x) H2) E):
 wpAny (model X.prog X.w) X.A (call (.ref C) us) (EP X pins σ Q) X.xe s:=by
 have hq:=h (s.heap.objs.size+1) s.heap.objs.size (I.hok.fresh (jS _)) (I.hok.fresh (dr _)) (fu (Nat.lt_succ_self _))
 have I2:=Inv.made (C:=C) I
 have r2:aJ (V.ref (s.heap.objs.size+1)::(vs++dvs)) (Value.ref (s.heap.objs.size+1)::(us++ds)):=.cons rfl (r.append hd)
 have hl:(Value.ref (s.heap.objs.size+1)::us++ds).length=ps.length:=by
  have e:=r2.length
  rw [F.len _ _ _ _ hq]at e
  exact e.symm
 refine wpAny_call (BK (f:=f) I.m3 M.makes M.init (beq_iff_eq.mp M.fn) (codeAny_mono (F.run _ X.stack _ _ ⟨Value.ref (s.heap.objs.size+1)::us,[]⟩ (Value.ref (s.heap.objs.size+1)::(us++ds)) _ _ E (hr.make C us [])
  (I2.LM.make C us []) (hb _ (Value.ref (s.heap.objs.size+1)::us) I2.m3 hl) r2 hq) fun r s' hq'=> ?_))
 cases r with
 |error e=>exact hx pins σ _ _ e s' I2 hq'
 |ok fl=>
  cases fl with
  |ret u=>
   obtain⟨v,H',I3,rv,ev,q3⟩:=I2.after hq'
   subst ev
   exact⟨rv,⟨V.ref (s.heap.objs.size+1),H',I3,rfl,q3⟩⟩
  |next=>exact False.elim hq'
  |brk=>exact False.elim hq'
  |cont=>exact False.elim hq'
theorem DU(M:Mk X.K C f)(F:FnOk X.prog X.w X.K X.mg X.base CX k f fd ps sp)(hr:Room (k+1) X.A)(hg:Gl X x)(hm:X.mg x=some (.ref C))(hb:cA X.K fd ps ds)(hd:aJ dvs ds)(hx:mS CX X E)
 (ha:PA X (e::es) t)(hdb:(x==("__debug__":Str))=false:=by decide)(he:starEach (e::es) X.env=(false,eval e X.env)::starEach es X.env:=by rfl)(hpl:(backTo pos (starEach es X.env)).any (·.1)=false:=by rfl):
 PE X (.Call (.Name x p) (e::es) [] pos) (Kf C sp dvs E t):=by
 intro pins s σ H Q I h
 refine wpAny_Call_Name_kw (tM I hg hm ?_ hdb)
 refine W.callWith_K (h₀:=X.base) I.ok.mod.kin M.kp (bH (ha pos pins s σ H _ I h) fun us s1 ⟨vs,H1,I1,r,q⟩=>⟨I1.m3,?_⟩) he hpl
 exact A8 M F hr hb hd hx I1 r q
end
section
variable{X:Cx}{CX:C9}{k:Nat}{f C:Addr}{fd:FuncData}{ps ks:List Str}{sp:Sp}{E:XK}{x m:Str}{p pos apos kpos:Pos}{e o:Expr}{es:List Expr}{kws:List Keyword}{te ta:TE}{t tk:TA}{nm:Option Str}
variable{g:List Value→List Value→List Value}{gV:List V→List V→List V}
end
structure FnScope(N P:List Str)(sc:Scope):Prop where
 kind:sc.kind=.function
 co:sc.isCoroutine=false
 gen:sc.isGenerator=false
 nd:N.Nodup
 pre:N.take P.length=P
 par:∀x∈P,sc.names.lookup x=some .local∨sc.names.lookup x=some .cell
 nofree:∀y∈sc.names,y.2≠.free
theorem r9{kindOf:Str→Option NameKind}{x:Str}:∀ {binds:List (Str×Value)} {m:Str→Option Value},(∀v,(x,v)∉binds)→bindL kindOf binds m x=m x
 |[],_,_=>rfl
 |(n,v)::r,m,h=>by
  unfold bindL
  rw [r9 fun w hw=>h w (lT _ hw)]
  split
  ·have:x≠n:=by rintro rfl;exact h v lU
   simp [this]
  ·rfl
theorem si{kindOf:Str→Option NameKind}{x:Str}:∀ {binds:List (Str×Value)} {m:Str→Option Value},(∀v,(x,v)∉binds)→bindC kindOf binds m x=m x
 |[],_,_=>rfl
 |(n,v)::r,m,h=>by
  unfold bindC
  rw [si fun w hw=>h w (lT _ hw)]
  split
  ·rfl
  ·have:x≠n:=by rintro rfl;exact h v lU
   simp [this]
theorem se{kindOf:Str→Option NameKind}:∀ {P:List Str} {vs:List Value} {i:Nat} {m:Str→Option Value},P.Nodup→P[i]?=some x→vs[i]?=some v→kindOf x=some .local→
 bindL kindOf (P.zip vs) m x=some v
 |[],_,_,_,_,h,_,_=>by simp at h
 |_::_,[],_,_,_,_,h,_=>by simp at h
 |p::P,w::vs,0,m,nd,h1,h2,hk=>by
  simp at h1 h2;subst h1;subst h2
  show bindL kindOf ((p,w)::P.zip vs) m p=_
  unfold bindL
  rw [r9 fun v hv=>(iO.mp nd).1 (List.of_mem_zip hv).1,aF hk]
  simp
 |p::P,w::vs,i+1,m,nd,h1,h2,hk=>by
  show bindL kindOf ((p,w)::P.zip vs) m x=_
  unfold bindL
  exact se (i:=i) (iO.mp nd).2 (by simpa using h1) (by simpa using h2) hk
theorem sj{kindOf:Str→Option NameKind}:∀ {P:List Str} {vs:List Value} {i:Nat} {m:Str→Option Value},P.Nodup→P[i]?=some x→vs[i]?=some v→kindOf x≠some .local→
 bindC kindOf (P.zip vs) m x=some v
 |[],_,_,_,_,h,_,_=>by simp at h
 |_::_,[],_,_,_,_,h,_=>by simp at h
 |p::P,w::vs,0,m,nd,h1,h2,hk=>by
  simp at h1 h2;subst h1;subst h2
  show bindC kindOf ((p,w)::P.zip vs) m p=_
  unfold bindC
  rw [si fun v hv=>(iO.mp nd).1 (List.of_mem_zip hv).1,aK hk]
  simp
 |p::P,w::vs,i+1,m,nd,h1,h2,hk=>by
  show bindC kindOf ((p,w)::P.zip vs) m x=_
  unfold bindC
  exact sj (i:=i) (iO.mp nd).2 (by simpa using h1) (by simpa using h2) hk
noncomputable def start(N:List Str)(vs:List V):St:=vs.map some++List.replicate (N.length-vs.length) none
noncomputable def xK(CX:C9)(P:Program)(w:World)(K:W.Frag)(mg:Str→Option Value)(base:Heap)(N:List Str)(qual:Str)(scope:Scope)(f:Addr)(cd:Value)(A:Around)(outer:List Env)(s:Shared)(H:Hp)(E:XK):Cx where
 prog:=P
 w:=w
 K:=K
 mg:=mg
 base:=base
 A:=A.deeper (envOfC qual scope s.heap.objs.size f cd)
 N:=N
 s₀:=s
 H₀:=H
 env:=envOfC qual scope s.heap.objs.size f cd
 outer:=outer
 stack:=envOfC qual scope s.heap.objs.size f cd::outer
 ex:=[]
 calm:=true
 fn:=fun _=>true
 pn:=[]
 xe:=fun e s'=>wpAny (model P w) (A.deeper (envOfC qual scope s.heap.objs.size f cd)) (leaving (envOfC qual scope s.heap.objs.size f cd) e) (fun _ s''=>CX outer H s E e s'') (fun e' s''=>CX outer H s E e' s'') s'
theorem vH{sc:Scope}(h:sc.names.lookup x=some .cell):∃c,(cellsFrom n sc.names []).lookup x=some c:=by
 have q:=W.cellsFrom_some sc.names n [] (.inl h)
 exact Option.isSome_iff_exists.mp q
theorem zZ{CX:C9}{P:Program}{w:World}{K:W.Frag}{mg:Str→Option Value}{base:Heap}{N ps:List Str}{qual:Str}{scope:Scope}{f:Addr}{cd:Value}{A:Around}{outer:List Env}{s s1:Shared}{H:Hp}{E:XK}{us:List Value}{vs:List V}
 (S:FnScope N ps scope)(hd:A.handled=none)(e0:Env0 P w K mg base A outer s H)(hl:vs.length=ps.length)(r:aJ vs us)
 (x:InCallC s s.heap.objs.size (bindL (envOfC qual scope s.heap.objs.size f cd).kindOf (ps.zip us) fun _=>none) (cellsFrom (s.heap.objs.size+1) scope.names []) (bindC (envOfC qual scope s.heap.objs.size f cd).kindOf (ps.zip us) fun _=>none) s1):
 Inv (xK CX P w K mg base N qual scope f cd A outer s H E) [] (start N vs) H s1:=by
 have hpl:ps.length≤N.length:=by have:=congrArg List.length S.pre;rw [kU]at this;lia
 obtain⟨h1,tk,rfl,hk⟩:=x.done
 have noA:∀b:Addr,b∉(xK CX P w K mg base N qual scope f cd A outer s H E).ex:=fun b z=>absurd (show b∈([]:List Addr)from z) (by simp)
 refine⟨⟨e0.mod,S.kind,rfl,rfl,dr _,fun y z c h1 h2=> ?_,fun y hy=> ?_,fun y c _ h=> ?_,fun _=>hd,Around.frames_deeper e0.frames,.inr ⟨rfl,rfl⟩,fun b z=>absurd z (noA b),e0.bs,e0.bsz,fun b _ _=>noA b,fun b z=>absurd z (noA b),e0.funs,e0.frf⟩,
  rfl,e0.bare,Un.kept hk,⟨_,x.toInCall.ns,fun i y v h1 h2 h3=> ?_⟩,fun y c h=>⟨_,x.cell y c h⟩,e0.hok.fresh (dr _),fun y c h=> ?_,fun p hp=>absurd (show p∈([]:List (Addr×Obj))from hp) (by simp),e0.hok.kept hk,?_⟩
 ·exact name_of_addr x.apart (PySem.mem_of_lookup h1) (PySem.mem_of_lookup h2)
 ·have hy:scope.names.lookup y=some .cell∨scope.names.lookup y=some .free:=hy
  rcases hy with hy|hy
  ·exact vH hy
  ·exact absurd rfl (S.nofree _ (PySem.mem_of_lookup hy))
 ·exact Nat.le_of_lt (x.above y c (PySem.mem_of_lookup h))
 ·have hi:i<vs.length:=by
   unfold start at h2
   by_cases hi:i<vs.length
   ·exact hi
   ·rw [List.getElem?_append_right (by simpa using hi)]at h2
    rw [List.getElem?_replicate]at h2
    split at h2<;>cases h2
  have ha:vs[i]?=some v:=by
   unfold start at h2
   rw [v9 (by simpa using hi),eK]at h2
   cases e:vs[i]? with
   |none=>rw [e]at h2;cases h2
   |some a=>rw [e]at h2;cases h2;rfl
  obtain⟨u,hu,rv⟩:=r.get ha
  have hp:ps[i]?=some y:=by
   rw [←S.pre,List.getElem?_take_of_lt (by lia)];exact h1
  have ndP:ps.Nodup:=by rw [←S.pre];exact S.nd.sublist (List.take_sublist _ _)
  refine⟨u,rv,?_⟩
  rcases S.par y (uD hp)with k|k
  ·exact .inl ⟨k,se ndP hp hu k⟩
  ·obtain⟨c,e⟩:=vH (n:=s.heap.objs.size+1) k
   refine .inr ⟨.inl k,c,e,?_⟩
   have q:=x.cell y c e
   rw [sj ndP hp hu (by show scope.names.lookup y≠_;rw [k];decide)]at q
   exact q
 ·exact e0.hok.fresh (Nat.le_of_lt (x.above y c (PySem.mem_of_lookup h)))
 ·unfold start
  show _=N.length
  rw [dP,b9,v3]
  lia
theorem Ly{CX:C9}{P:Program}{w:World}{K:W.Frag}{mg:Str→Option Value}{base:Heap}{k:Nat}{f:Addr}{name qual:Str}{params:Arguments}{body:List Stmt}{scope:Scope}{dV kV doc pm cdv ct oc:Value}{an od:Option Addr}
 {osl:Array (Option Value)}{N ps:List Str}{sp:Sp}(lk:K.lookup f=some ⟨oc,od,.func (W.fnOf name qual params body scope dV kV doc pm an cdv ct),osl⟩)(hcd:W.codeIn K cdv qual=true)(S:FnScope N ps scope)
 (len:∀vs H Q E,sp vs H Q E→vs.length=ps.length)
 (hbody:∀(A:Around) (outer:List Env) (s:Shared) (H:Hp) (vs:List V) (Q:VK) (E:XK),Room k (A.deeper (envOfC qual scope s.heap.objs.size f cdv))→sp vs H Q E→
   ∃t,uA (xK CX P w K mg base N qual scope f cdv A outer s H E) body t∧t {nx:=fun _ H'=>Q .non H',rt:=Q} (start N vs) H):
 FnOk P w K mg base CX (k+1) f (W.fnOf name qual params body scope dV kV doc pm an cdv ct) ps sp:=by
 refine⟨len,fun A outer s H args us vs Q E hr e0 hb r hsp=> ?_⟩
 have hl:=len _ _ _ _ hsp
 have KX:K.In s.heap:=e0.mod.kin.keeps fun b o e=>(e0.bs b o e).1
 have lim:s.heap.NoLimit:=e0.mod.nolimit.keeps fun b o e=>(e0.bs b o e).1
 have hkind:∀y∈ps.zip us,scope.names.lookup y.1=some .local∨(scope.names.lookup y.1=some .cell∧((cellsFrom (s.heap.objs.size+1) scope.names []).lookup y.1).isSome=true):=fun⟨n,v⟩ hy=>by
  rcases S.par n (List.of_mem_zip hy).1 with q|q
  ·exact .inl q
  ·exact .inr ⟨q,W.cellsFrom_some _ _ _ (.inl q)⟩
 refine codeAny_call_function hr.depth (KX _ _ lk) rfl S.co S.gen rfl (W.codeRec_of KX hcd) (hb _ _ _ _ ?_)
 refine wpAny_newFunctionEnv_cells S.kind hkind fun env he s1 x=> ?_
 subst he
 refine⟨lim.keeps x.toInCall.keep,codeAny_func ?_⟩
 obtain⟨t,ht,hq⟩:=hbody A outer s H vs Q E (hr.deeper _) hsp
 have I:Inv (xK CX P w K mg base N qual scope f cdv A outer s H E) [] (start N vs) H s1:=zZ S hr.hd e0 hl r x
 refine wpAny_mono (ht [] s1 (start N vs) H _ I hq) (fun fl s' hs=> ?_) fun e s' hs=>hs
 have fin:∀ {σ':St} {H':Hp} {v:V} {u:Value},Inv (xK CX P w K mg base N qual scope f cdv A outer s H E) [] σ' H' s'→aZ v u→Q v H'→CE outer P w H s Q u s':=
  fun {σ' H' v u} J rv q=>⟨v,H',J.os,J.bare,J.base,J.hok,rv,q⟩
 cases fl with
 |ret u=>
  obtain⟨v,σ',H',J,rv,q⟩:=hs
  exact fin J rv q
 |next=>
  obtain⟨σ',H',J,q⟩:=hs
  exact fin (v:=V.non) (u:=Value.none) J rfl q
 |brk=>
  obtain⟨_,_,_,q⟩:=hs
  exact False.elim q
 |cont=>
  obtain⟨_,_,_,q⟩:=hs
  exact False.elim q
end L2
namespace L2
open PySem PySem.Spec PyProof.Rows
section
variable{X:Cx}{x:Str}{p pos:Pos}{e:Expr}{es:List Expr}{t:TA}{id T:String}{r:List V→Hp→VK→Prop}
noncomputable def Kh(r:List V→Hp→VK→Prop)(t:TA):TE:=fun σ H Q=>t σ H fun vs H1=>r vs H1 Q
theorem cF(hc:cz X (.builtin id) r)(hg:Gl X x)(hm:X.mg x=none)(hv:bootBuiltins x=some (.builtin id))(ha:PA X (e::es) t)(hn:x≠"__name__":=by decide)(hdb:(x==("__debug__":Str))=false:=by decide)
 (he:starEach (e::es) X.env=(false,eval e X.env)::starEach es X.env:=by rfl)(hpl:(backTo pos (starEach es X.env)).any (·.1)=false:=by rfl):PE X (.Call (.Name x p) (e::es) [] pos) (Kh r t):=by
 intro pins s σ H Q I h
 refine wpAny_Call_Name_kw (jc I hg hm hv ?_ hn hdb)
 exact PyProof.Rows.callWith_builtin1 (bH (ha pos pins s σ H _ I h) fun us s1 ⟨vs,H1,I1,r1,q1⟩=>hc pins s1 σ H1 vs us Q I1 r1 q1) he hpl
theorem fi(hc:cz X (.type T) r)(hg:Gl X x)(hm:X.mg x=none)(hv:bootBuiltins x=some (.type T))(ha:PA X (e::es) t)(hn:x≠"__name__":=by decide)(hdb:(x==("__debug__":Str))=false:=by decide)
 (he:starEach (e::es) X.env=(false,eval e X.env)::starEach es X.env:=by rfl)(hpl:(backTo pos (starEach es X.env)).any (·.1)=false:=by rfl):PE X (.Call (.Name x p) (e::es) [] pos) (Kh r t):=by
 intro pins s σ H Q I h
 refine wpAny_Call_Name_kw (jc I hg hm hv ?_ hn hdb)
 exact PyProof.Rows.callWith_type1 (bH (ha pos pins s σ H _ I h) fun us s1 ⟨vs,H1,I1,r1,q1⟩=>hc pins s1 σ H1 vs us Q I1 r1 q1) he hpl
end
end L2
namespace HT
open PySem PyProof.Rows
section
open PySem.SeqAt
open PySem.AutoSeq1 (wpAny_loadPart')
open PySem.MeetsSeq PySem.MeetsSeq2 PySem.MeetsSeq3
end
section
variable{prog:Program}{w:World}{A:Around}{E:Value→Shared→Prop}{s:Shared}
noncomputable def sIx(n d:Nat):Option Int→Nat
 |none=>d
 |some v=>if v<0 then(v+(n:Int)).toNat else min v.toNat n
theorem sIx_none(n d:Nat):sIx n d none=d:=rfl
theorem sIx_nat(n d k:Nat):sIx n d (some (k:Int))=min k n:=by
 show(if(k:Int)<0 then((k:Int)+(n:Int)).toNat else min (k:Int).toNat n)=min k n
 rw [aK (by lia),v8]
end
end HT
namespace L2
open PySem PySem.Spec PyProof.Rows
noncomputable abbrev TO:=St→Hp→(Option Int→Hp→Prop)→Prop
def PO(X:Cx)(e:Option Expr)(t:TO):Prop:=
 ∀(pins:List (Addr×Obj)) (s:Shared) (σ:St) (H:Hp) (Q:Option Int→Hp→Prop),Inv X pins σ H s→t σ H Q→
  wpAny (model X.prog X.w) X.A (evalPart e X.env) (fun u s'=>∃o H',Inv X pins σ H' s'∧IsPart u o∧Q o H') X.xe s
noncomputable def Di:TO:=fun _ H Q=>Q none H
noncomputable def Kb(t:TE):TO:=fun σ H Q=>t σ H fun x H1=>∃i,x=.int i∧Q (some i) H1
theorem kJ{ns:List Int}:∀ {us:List Value},aJ (ns.map V.int) us→IntsAre us ns:=by
 induction ns with
 |nil=>intro us r;rw [List.map_nil]at r;cases r;exact .nil
 |cons n ns ih=>
  intro us r
  rw [lV]at r
  cases r with
  |cons r1 r2=>
   obtain⟨t,e⟩:=r1
   subst e
   exact .cons n t (ih r2)
section
variable{X:Cx}{e:Expr}{te:TE}{lo hi:Option Expr}{tl th:TO}{pos p2:Pos}
theorem DJ:PO X none Di:=by
 intro pins s σ H Q I h
 rw [evalPart_none]
 exact wpAny_pure ⟨none,H,I,.none,h⟩
theorem DI(h:PE X e te):PO X (some e) (Kb te):=by
 intro pins s σ H Q I hw
 rw [evalPart_some]
 refine bH (h pins s σ H _ I hw) fun u s1 hp9=> ?_
 obtain⟨x,H1,I1,r1,q1⟩:=hp9
 obtain⟨i,rfl,q⟩:=q1
 obtain⟨t,rfl⟩:=r1
 exact⟨some i,H1,I1,.int i t,q⟩
def NT(X:Cx)(r:V→Option Int→Option Int→Hp→VK→Prop):Prop:=
 ∀(pins:List (Addr×Obj)) (s:Shared) (σ:St) (H:Hp) (x:V) (v vl vu:Value) (lo hi:Option Int) (sl:Addr) (Q:VK),Inv X pins σ H s→aZ x v→s.heap.IsSliceOf sl vl vu .none→IsPart vl lo→IsPart vu hi→r x lo hi H Q→
  ∃T id,typeLookup (.type T) "__getitem__"=pure (some (.builtin id))∧s.TypeIs v T∧wpAny (model X.prog X.w) X.A (getItem v (.ref sl)) (EP X pins σ Q) X.xe s
noncomputable def OJ(r:V→Option Int→Option Int→Hp→VK→Prop)(te:TE)(tl th:TO):TE:=fun σ H Q=>te σ H fun x H1=>tl σ H1 fun l H2=>th σ H2 fun u H3=>r x l u H3 Q
theorem u0(hr:NT X r)(he:PE X e te)(hl:PO X lo tl)(hu:PO X hi th):PE X (.Subscript e (.Slice lo hi none p2) pos) (OJ r te tl th):=by
 intro pins s σ H Q I h
 refine Subscript_ (bH (he pins s σ H _ I h) fun v s1 ⟨x,H1,I1,r1,q1⟩=> ?_)
 refine wpAny_Slice (bH (hl pins s1 σ H1 _ I1 q1) fun vl s2 ⟨l,H2,I2,pl,q2⟩=>bH (hu pins s2 σ H2 _ I2 q2) fun vu s3 ⟨u,H3,I3,pu,q3⟩=> ?_)
 rw [evalPart_none]
 refine wpAny_pure ?_
 have I4:Inv X pins σ H3 {s3 with heap:=s3.heap.push {cls:=.type "slice",data:=.fields #[vl,vu,.none]}}:=I3.kept (t':=s3.toks) fun b ob q=>Heap.get?_push_of_some _ q
 obtain⟨T,id,hT,ht,hg⟩:=hr pins {s3 with heap:=s3.heap.push {cls:=.type "slice",data:=.fields #[vl,vu,.none]}} σ H3 x v vl vu l u s3.heap.objs.size Q I4 r1 (Heap.IsSliceOf.new ..) pl pu q3
 show wpAny (model X.prog X.w) X.A (subscriptTail e (.Slice lo hi none p2) v (.ref s3.heap.objs.size)) (EP X pins σ Q) X.xe {s3 with heap:=s3.heap.push {cls:=.type "slice",data:=.fields #[vl,vu,.none]}}
 exact tail_any (ops:=[.ref s3.heap.objs.size,v]) ht hT hg (by with_unfolding_all rfl)
noncomputable def Ae(xs:List V)(lo hi:Option Int):List V:=(xs.drop (HT.sIx xs.length 0 lo)).take (HT.sIx xs.length xs.length hi-HT.sIx xs.length 0 lo)
theorem vD(xs:List V)(lo hi:Option Int):(Ae xs lo hi).length≤xs.length:=by
 unfold Ae
 rw [kU,List.length_drop]
 lia
end
end L2
namespace L2
open PySem PySem.Spec PyProof.Rows
noncomputable def kH(n:Nat)(i:Int):Option Nat:=if 0≤i then(if i<n then some i.toNat else none)else if-(n:Int)≤i then some (i+n).toNat else none
noncomputable def atI{α:Type}(xs:List α)(i:Int):Option α:=(kH xs.length i).bind fun j=>xs[j]?
theorem yG{n:Nat}(h:kH n i=some j):seqIndex? i n=some j∧j<n∧-(n:Int)≤i∧i<n:=by
 unfold kH at h
 by_cases h0:0≤i
 ·rw [aF h0]at h
  by_cases h1:i<n
  ·rw [aF h1]at h
   have e:i.toNat=j:=cC h
   exact⟨by rw [seqIndex_of h0 h1,e],by lia,by lia,h1⟩
  ·rw [aK h1]at h;cases h
 ·rw [aK h0]at h
  by_cases h1:-(n:Int)≤i
  ·rw [aF h1]at h
   have e:(i+n).toNat=j:=cC h
   exact⟨by rw [seqIndex_neg (by lia) h1,e],by lia,h1,by lia⟩
  ·rw [aK h1]at h;cases h
theorem oG{α:Type}{xs:List α}{v:α}(h:atI xs i=some v):∃j,seqIndex? i xs.length=some j∧xs[j]?=some v∧j<xs.length∧-(xs.length:Int)≤i∧i<xs.length:=by
 unfold atI at h
 cases e:kH xs.length i with
 |none=>rw [e]at h;cases h
 |some j=>
  rw [e]at h
  obtain⟨h1,h2,h3,h4⟩:=yG e
  exact⟨j,h1,h,h2,h3,h4⟩
theorem lP{α:Type}{xs:List α}{j:Nat}{v:α}(h:xs[j]?=some v):atI xs (j:Int)=some v:=by
 have hj:j<xs.length:=(j4.mp h).1
 have e:kH xs.length (j:Int)=some j:=by
  unfold kH
  rw [aF (by lia),aF (by lia)];simp
 unfold atI;rw [e];exact h
def za(b:Expr):Prop:=∀o i,subscripted b false o i=operate [o,i] (getItem o i)
def JD(X:Cx)(r:R2):Prop:=
 ∀(value slice:Expr) (pins:List (Addr×Obj)) (s:Shared) (σ:St) (H:Hp) (x y:V) (v u:Value) (Q:VK),Inv X pins σ H s→aZ x v→aZ y u→r x y H Q→
  subscripted slice false v u=operate [v,u] (getItem v u)→wpAny (model X.prog X.w) X.A (subscriptTail value slice v u) (EP X pins σ Q) X.xe s
def Jn(X:Cx)(id:String)(r:V→List V→Hp→VK→Prop):Prop:=
 ∀(pins:List (Addr×Obj)) (s:Shared) (σ:St) (H:Hp) (x:V) (xs:List V) (v:Value) (us:List Value) (Q:VK),Inv X pins σ H s→aZ x v→aJ xs us→r x xs H Q→
  wpAny (model X.prog X.w) X.A (call (.builtin id) (v::us)) (EP X pins σ Q) X.xe s
section
variable{X:Cx}{a b:Expr}{ta tb:TE}{pos:Pos}
theorem Bu(hr:JD X r)(ha:PE X a ta)(hb:PE X b tb)(hs:za b):PE X (.Subscript a b pos) (Fz r ta tb):=by
 intro pins s σ H Q I h
 exact Subscript_ (Jb ha hb I h fun v u s2 x y H2 I2 rx ry q=>hr a b pins s2 σ H2 x y v u Q I2 rx ry q (hs _ _))
noncomputable def zt(K:W.Frag):R2:=fun x y H Q=>∃p xs i v,x=.ref p∧y=.int i∧dQ K H p xs∧atI xs i=some v∧Q v H
noncomputable def M4(K:W.Frag):R2:=fun x y H Q=>∃p xs i v,x=.ref p∧y=.int i∧qM K H p xs∧atI xs i=some v∧Q v H
noncomputable def M5:R2:=fun x y H Q=>∃z i c,x=.str z∧y=.int i∧z.length≤sizeLine∧atI z.cps.toList i=some c∧Q (.str ⟨#[c]⟩) H
theorem tO:JD X (zt X.K):=by
 intro value slice pins s σ H x y v u Q I rx ry h hs
 obtain⟨p,xs,i,z,rfl,rfl,hq,he,q⟩:=h
 cases rx
 obtain⟨t,rfl⟩:=ry
 obtain⟨az,r,pl,hz⟩:=I.list hq
 obtain⟨j,h1,h2,h3,h4,h5⟩:=oG he
 obtain⟨w,ew,rw'⟩:=r.get h2
 have hl:=r.length
 have hn:=ip
 have fin:EP X pins σ Q w s:=⟨z,H,I,rw',q⟩
 by_cases h0:0≤i
 ·have hj:i.toNat=j:=by
   rw [seqIndex_of h0 h5]at h1
   exact cC h1
  exact item_listR pl.isList h0 (by lia) (by rw [hj];simpa using ew) fin hs
 ·have hj:(i+(az.toArray.size:Int)).toNat=j:=by
   rw [seqIndex_neg (by lia) h4]at h1
   rw [iR,←hl]
   exact cC h1
  exact subscriptTail_builtinR (x:=w) pl.isList.typeIs slot_list_getitem.lookup
   (wpAny_getItem_list_neg (Q:=fun r s'=>r=w∧EP X pins σ Q r s') pl.isList (by lia) (by rw [List.size_toArray]<;>lia) (by lia) (by rw [hj];simpa using ew) ⟨rfl,fin⟩) hs
theorem HU:JD X (M4 X.K):=by
 intro value slice pins s σ H x y v u Q I rx ry h hs
 obtain⟨p,xs,i,z,rfl,rfl,hq,he,q⟩:=h
 cases rx
 obtain⟨t,rfl⟩:=ry
 obtain⟨az,r,pl,hz⟩:=I.tuple hq
 obtain⟨j,h1,h2,h3,h4,h5⟩:=oG he
 obtain⟨w,ew,rw'⟩:=r.get h2
 have hl:=r.length
 have hn:=ip
 have fin:EP X pins σ Q w s:=⟨z,H,I,rw',q⟩
 exact subscriptTail_builtinR (x:=w) pl.typeIs slot_tuple_getitem.lookup
  (getItem_tuple (j:=j) (Q:=fun r s'=>r=w∧EP X pins σ Q r s') pl (by lia) (by lia) (by rw [List.size_toArray,←hl];exact h1) (by simpa using ew) ⟨rfl,fin⟩) hs
theorem HV:JD X M5:=by
 intro value slice pins s σ H x y v u Q I rx ry h hs
 obtain⟨z,i,c,rfl,rfl,hz,he,q⟩:=h
 obtain⟨t,rfl⟩:=rx
 obtain⟨t',rfl⟩:=ry
 obtain⟨j,h1,h2,h3,h4,h5⟩:=oG he
 have hl:z.cps.toList.length=z.length:=by simp [Str.length]
 rw [hl]at h1 h4 h5
 have hn:=ip
 exact tail_any (typeIs_str s z t) slot_str_getitem.lookup (getItem_str (c:=c) (by
  have e1:decide (i< -(2 ^ 63:Int))=false:=eC (by lia)
  have e2:decide (i≥2 ^ 63)=false:=eC (by lia)
  rw [e1,e2,Bool.or_false]) (by rw [h1];simpa using h2) ⟨.str ⟨#[c]⟩,H,I.tok _,⟨_,rfl⟩,q⟩) hs
theorem wY(az:List Value)(n j:Nat)(u:Value):Obj.mapSeq (·.setIfInBounds j u) {cls:=.type "list",data:=.seq az.toArray n}= {cls:=.type "list",data:=.seq (az.set j u).toArray n}:=by
 simp [Obj.mapSeq]
theorem Inv.lst(I:Inv X pins σ H s)(h:H p=some (.lst xs)):
 ∃(az:List Value) (n:Nat),aJ xs az∧s.heap.get? p=some {cls:=.type "list",data:=.seq az.toArray n}∧xs.length≤sizeLine:=by
 obtain⟨z,az,n,r,e⟩:=I.hok p _ h
 exact⟨az,n,r,e,z⟩
theorem Inv.HJ{az its':List Value}{f:Obj→Obj}(I:Inv X pins σ H s)(h:H p=some (.lst xs))(ho:s.heap.get? p=some {cls:=.type "list",data:=.seq az.toArray n})(hf:f {cls:=.type "list",data:=.seq az.toArray n}= {cls:=.type "list",data:=.seq its'.toArray n'})(r:aJ ys its')(hz:ys.length≤sizeLine)(t:Nat):
 Inv X pins σ (bp H p (.lst ys)) {s with heap:=s.heap.update p f,toks:=t}:=by
 have e:(s.heap.update p f).get? p=some {cls:=.type "list",data:=.seq its'.toArray n'}:=by
  rw [Heap.get?_update_self f ho (by rw [hf]<;>rfl),hf]
 refine I.write (x:=p) (e:=p) (by rw [h];trivial) (.inl rfl) (fun b u hb q=>(Heap.get?_update_other _ _ (Ne.symm hb)).trans q) ⟨_,e⟩ ?_
 exact⟨hz,its',n',r,e⟩
noncomputable def yd:V→V→V→Hp→(Hp→Prop)→Prop:=fun o i v H Q=>∃p xs k j,o=.ref p∧i=.int k∧H p=some (.lst xs)∧kH xs.length k=some j∧Q (bp H p (.lst (xs.set j v)))
theorem oT:Jm X yd:=by
 intro pins s σ H o i v ov iv u Q I ro ri rv h
 obtain⟨p,xs,k,j,rfl,rfl,hp,hj,q⟩:=h
 cases ro
 obtain⟨t,rfl⟩:=ri
 obtain⟨az,n,r,ho,hz⟩:=I.lst hp
 obtain⟨h1,h2,h3,h4⟩:=yG hj
 have hl:=r.length
 have hn:=ip
 have I':Inv X pins σ (bp H p (.lst (xs.set j v))) {s with heap:=s.heap.update p (Obj.mapSeq (·.setIfInBounds j u))}:=
  I.HJ hp ho (wY az n j u) (r.set rv j) (by rw [sG];exact hz) s.toks
 by_cases h0:0≤k
 ·have hk:k.toNat=j:=by
   rw [seqIndex_of h0 h4]at h1
   exact cC h1
  exact W.ki_setAt ho h0 (by lia) (by rw [iR,←hl];exact h4) (by rw [hk];exact⟨_,I',q⟩)
 ·have hk:(k+(az.toArray.size:Int)).toNat=j:=by
   rw [seqIndex_neg (by lia) h3]at h1
   rw [iR,←hl]
   exact cC h1
  exact W.ki_setBack ho (by lia) (by rw [iR,←hl];exact h3) (by lia) (by rw [hk];exact⟨_,I',q⟩)
theorem sR(lo hi:Option Int)(n:Nat):(sliceBounds lo hi none n).1=((HT.sIx n 0 lo:Nat):Int)∧(sliceBounds lo hi none n).2.1=((HT.sIx n n hi:Nat):Int)∧(sliceBounds lo hi none n).2.2=1:=by
 refine⟨?_,?_,rfl⟩
 ·cases lo with
  |none=>simp [sliceBounds,HT.sIx]
  |some i=>
   simp only [sliceBounds,HT.sIx,Option.getD_none,show(1:Int)>0 by decide,if_true]
   by_cases h:i<0
   ·simp only [h,if_true]<;>lia
   ·simp only [h,if_false]<;>lia
 ·cases hi with
  |none=>simp [sliceBounds,HT.sIx]
  |some i=>
   simp only [sliceBounds,HT.sIx,Option.getD_none,show(1:Int)>0 by decide,if_true]
   by_cases h:i<0
   ·simp only [h,if_true]<;>lia
   ·simp only [h,if_false]<;>lia
theorem qU(az:List Value)(lo hi:Option Int):slicePick az.toArray lo hi none=((az.drop (HT.sIx az.length 0 lo)).take (HT.sIx az.length az.length hi-HT.sIx az.length 0 lo)).toArray:=by
 obtain⟨h1,h2,h3⟩:=sR lo hi az.toArray.size
 unfold slicePick
 rw [h1,h2,h3]
 simp only [sliceRange_one,pick_run,List.size_toArray]<;>rfl
noncomputable def M3(K:W.Frag):V→Option Int→Option Int→Hp→VK→Prop:=fun x lo hi H Q=>∃a xs,x=.ref a∧dQ K H a xs∧∀p,H p=none→Q (.ref p) (bp H p (.lst (Ae xs lo hi)))
theorem yb:NT X (M3 X.K):=by
 intro pins s σ H x v vl vu lo hi sl Q I rx hs pl pu h
 obtain⟨a,xs,rfl,hx,q⟩:=h
 cases rx
 obtain⟨az,r,ht,hz⟩:=I.list hx
 have hlen:=r.length
 refine⟨"list",_,slot_list_getitem.lookup,ht.isList.typeIs,?_⟩
 refine wpAny_getItem_list_slice ht.isList hs pl pu .none (by simp) ?_ (by rw [List.size_toArray]<;>lia)
 rw [qU,←hlen]
 refine⟨.ref s.heap.objs.size,_,I.laid (t':=s.toks) (o:=.lst (Ae xs lo hi)) (fun b ob q=>Heap.get?_push_of_some _ q) (dr _) ?_,rfl,q _ (I.hok.fresh (dr _))⟩
 exact⟨nH (vD xs lo hi) hz,_,0,(r.drop (HT.sIx xs.length 0 lo)).take (HT.sIx xs.length xs.length hi-HT.sIx xs.length 0 lo),Heap.get?_push_size _ rfl⟩
noncomputable def j8:V→Bool
 | .non=>true
 | .bl _=>true
 | .int _=>true
 | .str _=>true
 |_=>false
noncomputable def CZ:V→V→Bool
 | .non,.non=>true
 | .bl a,.bl b=>a==b
 | .bl a,.int b=>(if a then 1 else 0)==b
 | .int a,.bl b=>a==(if b then 1 else 0)
 | .int a,.int b=>a==b
 | .str a,.str b=>a==b
 |_,_=>false
theorem Iu(ry:aZ y u)(rx:aZ x v)(fy:j8 y=true)(fx:j8 x=true):SeqAt.EqAt A s u v (CZ y x):=by
 cases y with
 |non=>
  cases ry
  cases x with
  |non=>cases rx;exact SeqAt.EqAt.same _
  |bl b=>cases rx;exact SeqAt.EqAt.none_bool b
  |int b=>obtain⟨t,rfl⟩:=rx;exact SeqAt.EqAt.none_int b t
  |str b=>obtain⟨t,rfl⟩:=rx;exact SeqAt.EqAt.none_str b t
  |_=>exact absurd (show false=true from fx) kQ
 |bl a=>
  cases ry
  cases x with
  |non=>cases rx;exact SeqAt.EqAt.bool_none a
  |bl b=>cases rx;exact SeqAt.EqAt.bool_bool a b
  |int b=>obtain⟨t,rfl⟩:=rx;exact SeqAt.EqAt.bool_int a b t
  |str b=>obtain⟨t,rfl⟩:=rx;exact SeqAt.EqAt.bool_str a b t
  |_=>exact absurd (show false=true from fx) kQ
 |int a=>
  obtain⟨t',rfl⟩:=ry
  cases x with
  |non=>cases rx;exact SeqAt.EqAt.int_none a t'
  |bl b=>cases rx;exact SeqAt.EqAt.int_bool a t' b
  |int b=>obtain⟨t,rfl⟩:=rx;exact SeqAt.EqAt.int_int a t' b t
  |str b=>obtain⟨t,rfl⟩:=rx;exact SeqAt.EqAt.int_str a t' b t
  |_=>exact absurd (show false=true from fx) kQ
 |str a=>
  obtain⟨t',rfl⟩:=ry
  cases x with
  |non=>cases rx;exact SeqAt.EqAt.str_none a t'
  |bl b=>cases rx;exact SeqAt.EqAt.str_bool a t' b
  |int b=>obtain⟨t,rfl⟩:=rx;exact SeqAt.EqAt.str_int a t' b t
  |str b=>obtain⟨t,rfl⟩:=rx;exact SeqAt.EqAt.str_str a t' b t
  |_=>exact absurd (show false=true from fx) kQ
 |_=>exact absurd (show false=true from fy) kQ
noncomputable def ES(x:V)(u:Value):Bool:=match u with
 | .none=>CZ .non x
 | .bool b=>CZ (.bl b) x
 | .int i _=>CZ (.int i) x
 | .str z _=>CZ (.str z) x
 |_=>false
theorem Ci(r:aZ y u)(f:j8 y=true):ES x u=CZ y x:=by
 cases y with
 |non=>cases r;rfl
 |bl b=>cases r;rfl
 |int i=>obtain⟨t,rfl⟩:=r;rfl
 |str z=>obtain⟨t,rfl⟩:=r;rfl
 |_=>exact absurd (show false=true from f) kQ
theorem uw:∀ {xs:List V} {us:List Value},aJ xs us→xs.all j8=true→us.any (ES x)=xs.any fun y=>CZ y x
 |_,_,.nil,_=>rfl
 |y::xs,u::us,.cons r t,f=>by
  rw [cK,Bool.and_eq_true]at f
  rw [List.any_cons,List.any_cons,Ci r f.1,uw t f.2]
theorem pJ(rx:aZ x v)(fx:j8 x=true):∀ {xs:List V} {us:List Value},aJ xs us→xs.all j8=true→∀u∈us,SeqAt.EqAt A s u v (ES x u)
 |_,_,.nil,_=>fun u hu=>by cases hu
 |y::xs,u::us,.cons r t,f=>fun u' hu=>by
  rw [cK,Bool.and_eq_true]at f
  rcases fY.mp hu with rfl|hu
  ·rw [Ci r f.1];exact Iu r rx f.1 fx
  ·exact pJ rx fx t f.2 u' hu
noncomputable def inV(x:V)(xs:List V):Bool:=xs.any fun y=>CZ y x
noncomputable def ON(K:W.Frag)(neg:Bool):R2:=fun x y H Q=>∃p xs,y=.ref p∧(dQ K H p xs∨qM K H p xs)∧j8 x=true∧xs.all j8=true∧Q (.bl (if neg then !inV x xs else inV x xs)) H
theorem lz:jx X (compareOp .NotIn) (ON X.K true):=by
 intro pins s σ H x y v u Q I rx ry h
 obtain⟨p,xs,rfl,hq,fx,fs,q⟩:=h
 cases ry
 rcases hq with hq|hq
 ·obtain⟨az,r,pl,hz⟩:=I.list hq
  refine SeqAt.notIn_listAt (ES x) pl.isList (fun w hw=>pJ rx fx r fs w (by simpa using hw)) ⟨.bl _,H,I,rfl,?_⟩
  rw [show az.toArray.any (ES x)=az.any (ES x) by simp,uw r fs]
  exact q
 ·obtain⟨az,r,pl,hz⟩:=I.tuple hq
  refine SeqAt.notIn_tupleAt (ES x) pl (fun w hw=>pJ rx fx r fs w (by simpa using hw)) ⟨.bl _,H,I,rfl,?_⟩
  rw [show az.toArray.any (ES x)=az.any (ES x) by simp,uw r fs]
  exact q
theorem lM:cz X (.builtin "len") (fun xs H Q=>∃p ys,xs=[.ref p]∧(dQ X.K H p ys∨qM X.K H p ys)∧Q (.int ys.length) H):=by
 intro pins s σ H xs us Q I r h
 obtain⟨p,ys,rfl,hq,q⟩:=h
 obtain⟨u,rfl,rx⟩:=Ay r
 cases rx
 have hn:=ip
 rcases hq with hq|hq
 ·obtain⟨az,r',pl,hz⟩:=I.list hq
  have hlen:=r'.length
  exact Calls.call_len_list pl.isList (by simp only [List.size_toArray]<;>lia) ⟨.int ys.length,H,I.tok _,⟨s.toks+1,by rw [List.size_toArray,hlen]⟩,q⟩
 ·obtain⟨az,r',pl,hz⟩:=I.tuple hq
  have hlen:=r'.length
  exact len_tuple pl (by simp only [List.size_toArray]<;>lia) ⟨.int ys.length,H,I.tok _,⟨s.toks+1,by rw [List.size_toArray,hlen]⟩,q⟩
theorem uj:cz X (.builtin "len") (fun xs H Q=>∃z,xs=[.str z]∧z.length≤sizeLine∧Q (.int z.length) H):=by
 intro pins s σ H xs us Q I r h
 obtain⟨z,rfl,hz,q⟩:=h
 obtain⟨u,rfl,t,rfl⟩:=Ay r
 have hn:=ip
 exact len_str (by lia) ⟨.int z.length,H,I.tok _,⟨_,rfl⟩,q⟩
theorem iB:cz X (.type "list") (fun xs H Q=>∃p ys,xs=[.ref p]∧(dQ X.K H p ys∨qM X.K H p ys)∧∀l,H l=none→Q (.ref l) (bp H l (.lst ys))):=by
 intro pins s σ H xs us Q I r h
 obtain⟨p,ys,rfl,hq,q⟩:=h
 obtain⟨u,rfl,rx⟩:=Ay r
 cases rx
 have fin:∀(az:List Value),aJ ys az→ys.length≤sizeLine→∀(h':Heap) (c':Nat),(∀b o',s.heap.get? b=some o'→h'.get? b=some o')→
  h'.get? s.heap.objs.size=some {cls:=.type "list",dict:=none,data:=.seq az.toArray c',slots:= #[]}→EP X pins σ Q (.ref s.heap.objs.size) {s with heap:=h'}:=fun az r' hz h' c' kp e=>
  ⟨.ref s.heap.objs.size,_,I.laid (t':=s.toks) kp (dr _) (show b8 X.prog X.w _ h' _ (.lst ys)from⟨hz,az,c',r',e⟩),rfl,q _ (I.hok.fresh (dr _))⟩
 rcases hq with hq|hq
 ·obtain⟨az,r',pl,hz⟩:=I.list hq
  have hlen:=r'.length
  obtain⟨o,ho,hc,n,hd⟩:=pl.isList
  exact call_list_seq p (.inl rfl) ho hc hd (fun h' c' kp e=>fin az r' hz h' c' kp e) (by simp only [List.size_toArray]<;>lia)
 ·obtain⟨az,r',pl,hz⟩:=I.tuple hq
  have hlen:=r'.length
  obtain⟨o,ho,hc,n,hd⟩:=pl
  exact call_list_seq p (.inr rfl) ho hc hd (fun h' c' kp e=>fin az r' hz h' c' kp e) (by simp only [List.size_toArray]<;>lia)
def JN(K:W.Frag)(T:String)(x:V)(H:Hp):Prop:=match x with
 | .str _=>T="str"
 | .int _=>T="int"
 | .ref p=>(T="list"∧∃xs,dQ K H p xs)∨(T="tuple"∧∃o,K.lookup p=some o∧o.cls=.type "tuple"∧o.dict=none)∨
    (T="dict"∧((∃kvs,H p=some (.dK kvs))∨∃kvs,H p=some (.dT kvs)))∨(T="set"∧∃S n,H p=some (.set S n))
 |_=>False
theorem Az(I:Inv X pins σ H s)(r:aZ x v)(ty:JN X.K T x H):
 s.TypeIs v T∧∀a,v=.ref a→∃ob,s.heap.get? a=some ob∧ob.dict=none:=by
 cases x with
 |str z=>
  obtain⟨t,rfl⟩:=r
  cases (show T="str" from ty)
  exact⟨typeIs_str s z t,fun _ e=>nomatch e⟩
 |int i=>
  obtain⟨t,rfl⟩:=r
  cases (show T="int" from ty)
  exact⟨typeIs_int s i t,fun _ e=>nomatch e⟩
 |ref p=>
  cases r
  rcases ty with⟨rfl,xs,hq⟩|⟨rfl,o,hk,hc,hd⟩|⟨rfl,hk⟩|⟨rfl,S,n,hk⟩
  ·obtain⟨az,_,pl,_⟩:=I.list hq
   refine⟨pl.isList.typeIs,fun a e=> ?_⟩
   cases e
   obtain⟨o,n,e,c,hd,_⟩:=pl
   exact⟨o,e,hd⟩
  ·refine⟨⟨o,I.m3 p o hk,hc⟩,fun a e=> ?_⟩
   cases e
   exact⟨o,I.m3 _ o hk,hd⟩
  ·have z:∃o,s.heap.get? p=some o∧o.ExactDict:=by
    rcases hk with⟨kvs,hk⟩|⟨kvs,hk⟩
    ·obtain⟨_,_,_,_,o,_,_,e,ex,_⟩:=I.hok p _ hk
     exact⟨o,e,ex⟩
    ·obtain⟨_,_,_,_,o,_,_,e,ex,_⟩:=I.hok p _ hk
     exact⟨o,e,ex⟩
   obtain⟨o,e,ex⟩:=z
   refine⟨⟨o,e,ex.1⟩,fun a e2=> ?_⟩
   cases e2
   exact⟨o,e,ex.2.1⟩
  ·obtain⟨o,_,_,_,e,ex,_⟩:=I.hok p _ hk
   refine⟨⟨o,e,ex.1⟩,fun a e2=> ?_⟩
   cases e2
   exact⟨o,e,ex.2.1⟩
 |_=>exact False.elim ty
noncomputable def Ki(K:W.Frag)(T:String)(r:V→List V→Hp→VK→Prop)(to:TE):TE:=fun σ H Q=>to σ H fun x H1=>JN K T x H1∧r x [] H1 Q
noncomputable def CW(K:W.Frag)(T:String)(r:V→List V→Hp→VK→Prop)(to:TE)(t:TA):TE:=fun σ H Q=>to σ H fun x H1=>JN K T x H1∧t σ H1 fun xs H2=>r x xs H2 Q
variable{o e:Expr}{es:List Expr}{to:TE}{t:TA}{name:Str}{apos cpos:Pos}{T id:String}{r:V→List V→Hp→VK→Prop}
theorem By(pa:PlainAttrs T)(slot:Slot T name id)(hty:typeOf (.builtin id)=pure (.type "method_descriptor"))(hm:Jn X id r)(ho:PE X o to)
 (hbase:attributeBase o name X.env (eval o X.env)=eval o X.env:=by rfl)(hline:(apos.endLine==cpos.line)=true:=by rfl):PE X (.Call (.Attribute o name apos) [] [] cpos) (Ki X.K T r to):=by
 intro pins s σ H Q I h
 refine wpAny_Call_method0_late hbase hline (bH (ho pins s σ H _ I h) fun v s1 ⟨x,H1,I1,r1,ty,q1⟩=> ?_)
 obtain⟨h1,h2⟩:=Az I1 r1 ty
 exact⟨T,id,pa,slot,hty,h1,h2,Calls.callWith_builtin rfl (PySem.evalArgs_none (hm pins s1 σ H1 x [] v [] Q I1 r1 .nil q1))⟩
theorem Bz(pa:PlainAttrs T)(slot:Slot T name id)(hty:typeOf (.builtin id)=pure (.type "method_descriptor"))(hm:Jn X id r)(ho:PE X o to)(ha:PA X (e::es) t)
 (hbase:attributeBase o name X.env (eval o X.env)=eval o X.env:=by rfl)
 (hfew:((backTo cpos (starEach (e::es) X.env)).all (fun x=> !x.1)&&(backToKw cpos (keywordEach [] X.env)).all (fun x=>x.1.isSome)
   &&decide ((e::es).length+([]:List Keyword).length+(if([]:List Keyword).isEmpty then 0 else 1)<30))=true:=by rfl)
 (hline:(apos.endLine==cpos.line)=true:=by rfl)(hs:starEach (e::es) X.env=(false,eval e X.env)::starEach es X.env:=by rfl)(hplain:(backTo cpos (starEach es X.env)).any (·.1)=false:=by rfl):
 PE X (.Call (.Attribute o name apos) (e::es) [] cpos) (CW X.K T r to t):=by
 intro pins s σ H Q I h
 refine wpAny_Call_method_late hbase hfew hline rfl (bH (ho pins s σ H _ I h) fun v s1 ⟨x,H1,I1,r1,ty,q1⟩=> ?_)
 obtain⟨h1,h2⟩:=Az I1 r1 ty
 refine⟨T,id,pa,slot,hty,h1,h2,?_⟩
 have hA:=ha cpos pins s1 σ H1 _ I1 q1
 rw [hs]at hA⊢
 refine Calls.callWith_builtin (by show(false||(backTo cpos (starEach es X.env)).any (·.1))=false;rw [hplain]<;>rfl) (Calls.evalArgs_plain ?_)
 exact bH hA fun us s2 ⟨vs,H2,I2,r2,q2⟩=>hm pins s2 σ H2 x vs v us Q I2 r1 r2 q2
/-xs.append(e),list.index on a module's tuple .. are Jn FR of 06m-/
end
end L2
namespace L2
open PySem PySem.Spec PyProof.Rows
def ML(X:Cx)(id:String)(r:V→List V→Hp→VK→Prop):Prop:=
 ∀(pins:List (Addr×Obj)) (s:Shared) (σ:St) (H:Hp) (x:V) (xs:List V) (v:Value) (us:List Value) (Q:VK),Inv X pins σ H s→aZ x v→aJ xs us→r x xs H Q→
  wpAny (model X.prog X.w) X.A (call (.builtin id) (v::us)) (EP X pins σ Q) X.xe s
theorem aJ.one(h:aJ [x] us):∃u,us=[u]∧aZ x u:=by
 cases h with|cons r t=>cases t;exact⟨_,rfl,r⟩
theorem aJ.two(h:aJ [x,y] us):∃u v,us=[u,v]∧aZ x u∧aZ y v:=by
 cases h with|cons r t=>cases t with|cons q t=>cases t;exact⟨_,_,rfl,r,q⟩
theorem aJ.zero:∀ {us:List Value},aJ [] us→us=[]
 |_,.nil=>rfl
theorem aJ.dropLast(h:aJ xs us):aJ xs.dropLast us.dropLast:=by
 induction h with
 |nil=>exact .nil
 |cons r t ih=>
  cases t with
  |nil=>exact .nil
  |cons q t'=>exact .cons r ih
theorem aJ.reverse(h:aJ xs us):aJ xs.reverse us.reverse:=by
 induction h with
 |nil=>exact .nil
 |cons r t ih=>rw [List.reverse_cons,List.reverse_cons];exact aJ.append ih (.cons r .nil)
theorem aJ.rep(h:aJ xs us):∀k:Nat,aJ (List.replicate k xs).flatten (List.replicate k us).flatten
 |0=> .nil
 |k+1=>by
  rw [sJ,sJ,jT,jT]
  exact aJ.append h (aJ.rep h k)
theorem xE{α:Type}(l:List α):l.eraseIdx (l.length-1)=l.dropLast:=by
 induction l with
 |nil=>rfl
 |cons a r ih=>
  cases r with
  |nil=>rfl
  |cons b r=>
   have e:(a::b::r).length-1=((b::r).length-1)+1:=by
    have h1:(a::b::r).length=r.length+2:=rfl
    have h2:(b::r).length=r.length+1:=rfl
    lia
   rw [e,List.eraseIdx_cons_succ,ih]
   all_goals rfl
theorem rQ(az:List Value):∀(k:Nat) (acc:List Value),
 List.foldl (fun x1 x2=>x1++x2) acc.toArray (List.replicate k az.toArray)=(acc++(List.replicate k az).flatten).toArray
 |0,acc=>by simp
 |k+1,acc=>by
  have e:acc.toArray++az.toArray=(acc++az).toArray:=by simp
  have e2:(acc++az)++(List.replicate k az).flatten=acc++(List.replicate (k+1) az).flatten:=by
   rw [sJ,jT,kW]
  rw [←e2,←rQ az k (acc++az),←e,sJ,List.foldl_cons]
section
variable{X:Cx}{pins:List (Addr×Obj)}{σ:St}{H:Hp}{s:Shared}{l b:Addr}{xs ys zs:List V}
theorem Inv.lset{az its':List Value}{f:Array Value→Array Value}(I:Inv X pins σ H s)(hH:H l=some (.lst xs))(e:s.heap.get? l=some {cls:=.type "list",data:=.seq az.toArray n})(hf:f az.toArray=its'.toArray)(hv:aJ ys its')(hz:ys.length≤sizeLine):
 Inv X pins σ (bp H l (.lst ys)) {s with heap:=s.heap.update l (Obj.mapSeq f),toks:=t'}:=by
 have q:=PySem.IsL.update e f
 rw [hf]at q
 refine I.write (x:=l) (e:=l) (by rw [hH];exact trivial) (.inl rfl) (fun b' u hb hu=>(Heap.get?_update_other s.heap (Obj.mapSeq f) (Ne.symm hb)).trans hu) ⟨_,q⟩ ?_
 exact⟨hz,its',_,hv,q⟩
theorem Inv.HL(I:Inv X pins σ H s)(hv:aJ ys az)(hz:ys.length≤sizeLine):
 Inv X pins σ (bp H s.heap.objs.size (.lst ys)) {s with heap:=s.heap.push {cls:=.type "list",data:=.seq az.toArray},toks:=t'}:=
 I.laid (fun _ _ q=>Heap.get?_push_of_some _ q) (dr _) ⟨hz,az,0,hv,Heap.get?_push_size _ rfl⟩
theorem Inv.fresh(I:Inv X pins σ H s):H s.heap.objs.size=none:=I.hok.fresh (dr _)
theorem Inv.Er(I:Inv X pins σ H s)(hH:H l=some (.lst xs)):xs.length≤sizeLine∧∃(az:List Value) (n:Nat),aJ xs az∧xs.length=az.length∧s.heap.get? l=some {cls:=.type "list",data:=.seq az.toArray n}:=by
 obtain⟨z,az,n,r,e⟩:=I.hok l _ hH
 exact⟨z,az,n,r,r.length,e⟩
theorem vg(h:n≤sizeLine):Builtin.List.listTooLong n=false:=by
 unfold Builtin.List.listTooLong
 exact eC (by lia)
end
section
variable{X:Cx}
noncomputable def jI:V→List V→Hp→VK→Prop:=fun x vs H Q=>∃l xs y,x=.ref l∧vs=[y]∧H l=some (.lst xs)∧xs.length<sizeLine∧Q .non (bp H l (.lst (xs++[y])))
theorem ft:ML X "list.append" jI:=by
 intro pins s σ H x vs v us Q I rx rv h
 obtain⟨l,xs,y,rfl,rfl,hH,hz,q⟩:=h
 cases rx
 obtain⟨u,rfl,ru⟩:=rv.one
 obtain⟨z,az,n,r,hl,e⟩:=I.Er hH
 refine call_meets F.slot_list_append ⟨_,e,rfl⟩ F.entry_list_append (F.args_list_append_2 _ _) (PySem.list_append l az.toArray n u (by rw [iR];lia)) ⟨e,?_⟩
 refine⟨.non,_,I.lset (its':=az++[u]) hH e (by simp) (r.append (.cons ru .nil)) ?_,rfl,q⟩
 rw [dP,uF]
 lia
noncomputable def KH:V→List V→Hp→VK→Prop:=fun x vs H Q=>∃l xs y,x=.ref l∧vs=[]∧H l=some (.lst xs)∧xs[xs.length-1]?=some y∧Q y (bp H l (.lst xs.dropLast))
theorem HF:ML X "list.pop" KH:=by
 intro pins s σ H x vs v us Q I rx rv h
 obtain⟨l,xs,y,rfl,rfl,hH,hy,q⟩:=h
 cases rx
 have hus:=rv.zero
 subst hus
 obtain⟨z,az,n,r,hl,e⟩:=I.Er hH
 obtain⟨u,hu,ru⟩:=r.get hy
 have hy':az.toArray[az.toArray.size-1]?=some u:=by
  show az.toArray[az.length-1]?=some u
  rw [←Array.getElem?_toList,←hl]
  exact hu
 refine call_meets F.slot_list_pop ⟨_,e,rfl⟩ F.entry_list_pop (F.args_list_pop_1 _) (MeetsSeq.list_pop_last l az.toArray n u hy' (by rw [iR];lia)) ⟨e,?_⟩
 refine⟨y,_,I.lset (its':=az.dropLast) hH e ?_ r.dropLast ?_,ru,q⟩
 ·show az.toArray.eraseIdxIfInBounds (az.toArray.size-1)=az.dropLast.toArray
  rw [iR,List.eraseIdxIfInBounds_toArray,xE]
 ·rw [List.length_dropLast]
  lia
theorem Eu{α:Type}(xs:List α)(k:Nat):(List.replicate k xs).flatten.length=k*xs.length:=by
 induction k with
 |zero=>simp
 |succ k ih=>rw [sJ,jT,dP,ih,Nat.succ_mul,Nat.add_comm]
end
section
variable{prog:Program}{w:World}{A:Around}{E:Value→Shared→Prop}{s:Shared}
set_option maxRecDepth 100000 in
end
section
variable{X:Cx}
end
end L2
namespace Att
open PySem PySem.W PySem.Calls PyProof.Rows
theorem nW:∀(ns:List Int) (vs:List Value),WellAll P h vs (ns.map WData.int)→IntsAre vs ns:=by
 intro ns
 induction ns with
 |nil=>
  intro vs w
  rw [List.map_nil]at w
  cases w
  exact .nil
 |cons n ns ih=>
  intro vs w
  rw [lV]at w
  cases w with
  |cons a b=>
   cases a
   exact .cons _ _ (ih _ b)
theorem zk{l:OpenLaw}(hn:l.most=some n)(hpre:l.row.toRowW.claim.pre args=true)(hwl:WellAll P h vals args):
 ∃a vs ns,vals=[Value.ref a]∧args=[WData.list (ns.map WData.int)]∧h.get? a=some {cls:=.type "list",data:=.seq vs.toArray}∧IntsAre vs ns∧ns.length≤n:=by
 have hsh:WShape.hasAll [] args [.list .int]=true:=(pre_splitW hpre).1
 have hc:l.pre.holds [] {args:=args}=true:=(pre_splitW hpre).2
 obtain⟨d,r,rfl,h1,h2⟩:=hasAllW_cons hsh
 obtain rfl:=hasAllW_nil h2
 obtain⟨xs,rfl,h3⟩:=hasW_list h1
 obtain⟨ns,rfl⟩:=items_int h3
 have hlen:ns.length≤n:=by
  unfold OpenLaw.pre at hc
  have h4:(WTm.not (.lt (.lit (.int (n:Int))) (.len (.arg 0)))).holds [] {args:=[.list (ns.map .int)]}=true:=by
   have h4:=(holds_andW hc).1
   rw [hn]at h4
   exact h4
  have h5:=condW_of h4 (w_not (w_lt w_lit (w_len_list (w_arg rfl))))
  rw [b9]at h5
  refine Nat.le_of_not_lt fun q=> ?_
  have q':(n:Int)<((ns.length:Nat):Int):=by lia
  first
   |(rw [de q']at h5;exact absurd h5 (by decide))
   |(simp at h5;lia)
 cases hwl with
 |cons w1 w2=>
  cases w2
  cases w1 with
  |list ho hall=>exact⟨_,_,ns,rfl,rfl,ho,nW ns _ hall,hlen⟩
theorem zw(l:OpenLaw)(args:List WData):l.row.toRowW.claim.post args (.bool true) args=true:=
 postW_of (r:=l.row.toRowW) (X:=(true==true))
  (show WShape.has [] (.bool true) .bool=true by first|rfl|decide|simp [WShape.has,WShape.arms,WShape.armsAll])
  (show(WTm.eq .res (.lit (.bool true))).value [] {args:=args,res:=some (.bool true),after:=args}=some (.bool (true==true))from w_eq_bool (w_res rfl) w_lit) rfl
theorem attach_call{l:OpenLaw}{YP:World→Heap→Prop}{d:DefRec}(hn:l.most=some n)(hdf:d.params.defaults=[])(call:∀(w:World) (s₀ s₁:Shared) (mg mb:Str→Option Value) (fa:Addr) (o:Obj) (pm cd doc:Value) (a:Addr) (vs:List Value) (ns:List Int),
 Ground q loose [] XP w s₀ mg mb s₁.heap→YP w s₁.heap→
 s₁.heap.get? fa=some o→o.data=.func (docDef d.name d.params d.body d.scope pm cd doc)→s₁.heap.CodeRec cd d.name→mg d.name=some (.ref fa)→
 s₁.heap.get? a=some {cls:=.type "list",data:=.seq vs.toArray}→IntsAre vs ns→ns.length≤n→s₁.gens= #[]→
 codeAny (model l.prog w) callerA (.call (.ref fa) ⟨[.ref a],[]⟩) (fun r s'=>r=.ok (.ret (.bool true))∧OldK s₁.heap s'.heap∧s'.os=s₁.os∧AllBare s'.gens) s₁):
 WalkO q loose XP YP l.row.toRowW d [] (fun f vs=>PySem.call f vs):=by
 intro w s₀ s₁ mg mb G Y fa o pm cd doc dV kV ho hd hcd hD hmg hg args vals as hpre hlay hrd hwl hlo
 obtain rfl:dV=.none:=Dflts.none hD hdf
 obtain rfl:kV=.none:=Dflts.noKw hD
 obtain⟨a,vs,ns,rfl,rfl,hobj,hints,hlen⟩:=zk hn hpre hwl
 refine enter_call (codeAny_mono (call w s₀ s₁ mg mb fa o pm cd doc a vs ns G Y ho (fd_plain hd) hcd hmg hobj hints hlen hg) fun r s' hq=> ?_)
 obtain⟨rfl,h2,h3,h4⟩:=hq
 exact⟨.inl ⟨.bool true,.bool true,[],rfl,fun _=>rfl,.bool true,zw l _,fun _=>⟨List.Pairwise.nil,fun _ hm=>(nomatch hm)⟩⟩,h2,h3,h4⟩
section
variable{prog:Program}{w:World}{A:Around}{E:Value→Shared→Prop}{s:Shared}{K:Frag}
end
end Att
namespace L2
open PySem PySem.Spec PyProof.Rows
theorem lW:∀ {vs:List Value} {ns:List Int},IntsAre vs ns→aJ (ns.map V.int) vs
 |_,_,.nil=> .nil
 |_,_,.cons n t h=> .cons ⟨t,rfl⟩ (lW h)
def NU(H:Hp):Prop:=∀b,H b=none∨∃o xs,H b=some (.frz o (.lst xs))
end L2
namespace L2
open PySem PySem.Spec PyProof.Rows
noncomputable abbrev OG{K:W.Frag}{h:Heap}(_:K.In h):W.Frag:=K
end L2
/-THE LAST THEOREM (shape;LID,My.*are yours):
  My.Adr:a structure of the addresses that your layer names (classes,functions);My.Txt K t:a structure (Prop) of the equations over K;
  My.txt_mk: {K} {implicit addresses ..} (e1:nsIn K mainGlobals "law"=some (some (.ref f))) (e2:K.lookup f=some ⟨oc,od,.func (fnOf "law" "law" params body scope dV kV doc pm an cdv ct),sl⟩) (e3:codeIn K cdv "law"=true) .. :∃t,My.Txt K t
set_option maxRecDepth 100000 in
set_option maxHeartbeats 0 in
theorem PySem.Challenge.cw_LID_holds : PySem.Challenge.rw_LID.Holds := by
  w_on; o_law; k_head; (case hw => w_witness2)
  k_fill
  refine L2.walk_of (l := PySem.Challenge.rw_LID) (n := 63) (k := 40) (x := "script") (CX := fun w => ..) (sp := fun _ => My.sp_law) rfl (by decide) rfl ⟨rfl, by decide, by decide⟩ (fun w h Y => W.kIn_of Y) ?F ?S ?C
  case F =>
    intro w mg fa h KX G hmg
    have T : ∃ t, My.Txt (L2.OG KX) t := by
      dsimp only [L2.OG]                          -- K must stand as «<heap const> w.params» for k_is
      refine' My.txt_mk ?e1 ?e2 ?e3 ..
      (case e1 => W.k_is)                    -- in the order: a name -> az address -> az object -> az parts
      (case e2 => W.k_is)
      ..
    obtain ⟨t, T⟩ := T
    have e0 := hmg.symm.trans (W.mg_of KX G T.law)
    cases e0                                       -- fa is the law's own address
    exact ⟨_, fun s u => .of_eq rfl, fun base kb nb => My.law_fn T kb nb⟩     -- if «.of_eq rfl» comes too early: refine' ⟨_, ?b, fun base kb nb => My.law_fn T kb nb⟩; exact fun s u => .of_eq rfl
  case S => exact fun w H a ns hl hO hS => ..
  case C => exact ..
(the tactic k_is has no namespace:write k_is)-/
namespace L2
open PySem PySem.Spec PyProof.Rows
noncomputable def eD(s:Stmt):Arguments:=match s with
 | .FunctionDef _ a _ _ _ _ _ _ _ _=>a
 |_=> {posonlyargs:=[],args:=[],vararg:=none,kwonlyargs:=[],kw_defaults:=[],kwarg:=none,defaults:=[]}
noncomputable def aj(s:Stmt):List Stmt:=match s with
 | .FunctionDef _ _ b _ _ _ _ _ _ _=>b
 |_=>[]
noncomputable def ai(s:Stmt):Scope:=match s with
 | .FunctionDef _ _ _ _ _ _ sc _ _ _=>sc
 |_=> {kind:=.function,names:=[],isGenerator:=false,isCoroutine:=false}
noncomputable abbrev km:C9:=fun _ _ _ _ _ _=>False
noncomputable abbrev E0:XK:=fun _ _ _=>False
theorem rC:mS km X E0:=fun _ _ _ _ _ _ _ h=>h.elim
structure Fun(K:W.Frag)(x qual:Str)(st:Stmt)(f:Addr)(fd:FuncData):Prop where
 ex:∃(oc:Value) (od:Option Addr) (kV doc pm:Value) (an:Option Addr) (cdv ct:Value) (osl:Array (Option Value)),
  fd=W.fnOf x qual (eD st) (aj st) (ai st) .none kV doc pm an cdv ct∧K.lookup f=some ⟨oc,od,.func fd,osl⟩∧W.codeIn K cdv qual=true
 kp:W.keepIn K (.ref f)=true
section
variable{P:Program}{w:World}{K:W.Frag}{mg:Str→Option Value}{base:Heap}
theorem Fun.ok{x qual:Str}{st:Stmt}{f:Addr}{fd:FuncData}{N ps:List Str}{k:Nat}{sp:Sp}(F:Fun K x qual st f fd)(S:FnScope N ps (ai st))(len:∀vs H Q E,sp vs H Q E→vs.length=ps.length)
 (hbody:∀(cdv:Value) (A:Around) (outer:List Env) (s:Shared) (H:Hp) (vs:List V) (Q:VK) (E:XK),Room k (A.deeper (envOfC qual (ai st) s.heap.objs.size f cdv))→sp vs H Q E→
   ∃t,uA (xK km P w K mg base N qual (ai st) f cdv A outer s H E).K8 (aj st) t∧t {nx:=fun _ H'=>Q .non H',rt:=Q} (start N vs) H):FnOk P w K mg base km (k+1) f fd ps sp:=by
 obtain⟨oc,od,kV,doc,pm,an,cdv,ct,osl,rfl,lk,hcd⟩:=F.ex
 refine Ly lk hcd S len fun A outer s H vs Q E hr hsp=> ?_
 obtain⟨t,h,q⟩:=hbody cdv A outer s H vs Q E hr hsp
 exact⟨t,h.K8,q⟩
theorem Fun.binds{x qual:Str}{st:Stmt}{f:Addr}{fd:FuncData}{ps:List Str}(F:Fun K x qual st f fd)
 (h:∀(kV doc pm:Value) (an:Option Addr) (cdv ct:Value) (us:List Value),us.length=ps.length→bindArgs (W.fnOf x qual (eD st) (aj st) (ai st) .none kV doc pm an cdv ct) ⟨us,[]⟩=pure (ps.zip us)):cA K fd ps []:=by
 obtain⟨oc,od,kV,doc,pm,an,cdv,ct,osl,rfl,lk,hcd⟩:=F.ex
 exact .all (h kV doc pm an cdv ct)
theorem xu{x qual:Str}{st:Stmt}{f:Addr}{oc:Value}{od an:Option Addr}{osl:Array (Option Value)}{kV doc pm cdv ct:Value}(l:K.lookup f=some ⟨oc,od,.func (W.fnOf x qual (eD st) (aj st) (ai st) .none kV doc pm an cdv ct),osl⟩)
 (c:W.codeIn K cdv qual=true)(k:W.keepIn K (.ref f)=true):Fun K x qual st f (W.fnOf x qual (eD st) (aj st) (ai st) .none kV doc pm an cdv ct):=⟨⟨oc,od,kV,doc,pm,an,cdv,ct,osl,rfl,l,c⟩,k⟩
end
section
variable{X:Cx}
end
theorem nV{A B:Prop}(h:B):if false=true then A else B:=by
 rw [aK kQ]
 exact h
theorem nU{A B:Prop}(h:A):if true=true then A else B:=by
 rw [aF rfl]
 exact h
def aG(H H':Hp):Prop:=∀b o,H b=some o→H' b=some o
theorem aG.refl(H:Hp):aG H H:=fun _ _ h=>h
theorem aG.trans(a:aG H H1)(b:aG H1 H2):aG H H2:=fun c o h=>b c o (a c o h)
theorem aG.free(e:aG H H')(h:H' l=Option.none):H l=Option.none:=by
 cases q:H l with
 |none=>rfl
 |some o=>
  rw [e l o q]at h
  cases h
end L2
end
noncomputable section
namespace L2
open PySem
noncomputable def eW(env:Env):List (Str×NameKind)→List (Str×Addr)→List (Str×Addr)
 |[],acc=>acc
 |(n,k)::r,acc=>eW env r (if k==.free then(n,(env.cells.lookup n).getD 0)::acc else acc)
theorem nZ{scope:Scope}{env:Env}(h:∀n,(n,NameKind.free)∈scope.names→∃c,env.cells.lookup n=some c):closureFor scope env=pure (eW env scope.names []):=by
 have go:∀(names:List (Str×NameKind)) (acc:List (Str×Addr)),(∀n,(n,NameKind.free)∈names→∃c,env.cells.lookup n=some c)→
  (forIn names acc fun(x:Str×NameKind) (cs:List (Str×Addr))=>(match x with
    |(name,kind)=>if(kind==NameKind.free)=true then do
       let c←cellOf env name
       pure (ForInStep.yield ((name,c)::cs))
     else pure (ForInStep.yield cs):Sem (ForInStep (List (Str×Addr)))))=pure (eW env names acc):=by
  intro names
  induction names with
  |nil=>intro acc _;rfl
  |cons x r ih=>
   intro acc hx
   obtain⟨n,k⟩:=x
   rw [List.forIn_cons]
   cases hk:k==NameKind.free with
   |true=>
    have hk':k=.free:=by simpa using hk
    subst hk'
    obtain⟨c,hc⟩:=hx n lU
    have e:cellOf env n=pure c:=by unfold cellOf;rw [hc]
    simp only [hk,if_true,e]
    have e2:eW env ((n,NameKind.free)::r) acc=eW env r ((n,c)::acc):=by
     show eW env r (if(NameKind.free==NameKind.free)=true then(n,(env.cells.lookup n).getD 0)::acc else acc)=_
     rw [aF (by decide),hc];rfl
    rw [e2,←ih ((n,c)::acc) fun m hm=>hx m (lT _ hm)]
    rfl
   |false=>
    simp only [hk,Bool.false_eq_true,if_false]
    have e2:eW env ((n,k)::r) acc=eW env r acc:=by
     show eW env r (if(k==NameKind.free)=true then(n,(env.cells.lookup n).getD 0)::acc else acc)=_
     rw [hk];rfl
    rw [e2,←ih acc fun m hm=>hx m (lT _ hm)]
    rfl
 unfold closureFor
 have e:=go scope.names [] h
 show(forIn scope.names [] _>>=fun cs=>pure cs)=_
 rw [e]
 rfl
theorem lK:∀(names:List (Str×NameKind)) (acc:List (Str×Addr)),
 (eW env names acc).lookup y=if(y,NameKind.free)∈names then some ((env.cells.lookup y).getD 0)else acc.lookup y:=by
 intro names
 induction names with
 |nil=>intro acc;simp [eW]
 |cons x r ih=>
  intro acc
  obtain⟨n,k⟩:=x
  show(eW env r (if(k==NameKind.free)=true then(n,(env.cells.lookup n).getD 0)::acc else acc)).lookup y=_
  rw [ih]
  by_cases h1:(y,NameKind.free)∈r
  ·rw [aF h1,aF (lT _ h1)]
  ·rw [aK h1]
   by_cases hk:k=.free
   ·subst hk
    rw [aF (by decide)]
    by_cases hy:y=n
    ·subst hy
     rw [aF lU]
     simp [List.lookup_cons]
    ·have:(y==n)=false:=by simpa using hy
     rw [sF,this]
     rw [aK]
     intro z
     rcases fY.mp z with e|e
     ·cases e;exact hy rfl
     ·exact h1 e
   ·have hk':(k==NameKind.free)=false:=by simpa using hk
    rw [hk']
    rw [aK (by decide),aK]
    intro z
    rcases fY.mp z with e|e
    ·cases e;exact hk rfl
    ·exact h1 e
noncomputable def iH(env:Env)(names:List (Str×NameKind)):List (Str×NameKind):=names.map fun(n,k)=>if(k==NameKind.free&&env.scope.kind==.function&&env.kindOf n==some .cell)then(n,NameKind.cell)else(n,k)
theorem ic:∀ {names:List (Str×NameKind)} {y:Str},names.lookup y=some .free→(iH env names).lookup y=some .cell∨(iH env names).lookup y=some .free
 |[],_,h=>by simp at h
 |(n,k)::r,y,h=>by
  show List.lookup y ((if(k==NameKind.free&&env.scope.kind==.function&&env.kindOf n==some .cell)=true then(n,NameKind.cell)else(n,k))::iH env r)=_∨List.lookup y ((if(k==NameKind.free&&env.scope.kind==.function&&env.kindOf n==some .cell)=true then(n,NameKind.cell)else(n,k))::iH env r)=_
  cases hx:y==n with
  |true=>
   simp only [List.lookup_cons,hx]at h
   cases h
   by_cases hc:(NameKind.free==NameKind.free&&env.scope.kind==.function&&env.kindOf n==some .cell)=true
   ·rw [aF hc];left;simp only [List.lookup_cons,hx]
   ·rw [aK hc];right;simp only [List.lookup_cons,hx]
  |false=>
   simp only [List.lookup_cons,hx]at h
   by_cases hc:(k==NameKind.free&&env.scope.kind==.function&&env.kindOf n==some .cell)=true
   ·rw [aF hc];simp only [List.lookup_cons,hx];exact ic h
   ·rw [aK hc];simp only [List.lookup_cons,hx];exact ic h
theorem o6:∀ {names:List (Str×NameKind)} {y:Str},(∀z∈names,z.2≠.cell)→((iH env names).lookup y=some .cell∨(iH env names).lookup y=some .free)→(y,NameKind.free)∈names
 |[],_,_,h=>by rcases h with h|h<;>simp [iH]at h
 |(n,k)::r,y,hn,h=>by
  have ih:=@o6 env r y (fun z hz=>hn z (lT _ hz))
  have hk:k≠.cell:=hn (n,k) lU
  have e:iH env ((n,k)::r)=(if(k==NameKind.free&&env.scope.kind==.function&&env.kindOf n==some .cell)=true then(n,NameKind.cell)else(n,k))::iH env r:=rfl
  rw [e]at h
  cases hx:y==n with
  |true=>
   have hy:y=n:=by simpa using hx
   subst hy
   by_cases hc:(k==NameKind.free&&env.scope.kind==.function&&env.kindOf y==some .cell)=true
   ·have:k=.free:=by
     simp only [Bool.and_eq_true,beq_iff_eq]at hc
     exact hc.1.1
    rw [this];exact lU
   ·rw [aK hc]at h
    simp only [List.lookup_cons,hx]at h
    rcases h with h|h
    ·exact absurd (cC h) hk
    ·rw [cC h];exact lU
  |false=>
   by_cases hc:(k==NameKind.free&&env.scope.kind==.function&&env.kindOf n==some .cell)=true
   ·rw [aF hc]at h
    simp only [List.lookup_cons,hx]at h
    exact lT _ (ih h)
   ·rw [aK hc]at h
    simp only [List.lookup_cons,hx]at h
    exact lT _ (ih h)
section
variable{prog:Program}{w:World}{A:Around}{R:Result→Shared→Prop}{s:Shared}
theorem uh(I:Nat→Shared→Prop)(turn:∀n s,I n s→wpAny (model prog w) A (pyNext it) (fun r s₁=>match r with
 |none=>R (.ok .next) s₁
 |some v=>wpAny (model prog w) A (letOwnedTupleGo target it v) (fun _ s₀=>wpAny (model prog w) A (assign target env v) (fun _ s₂=>
   wpAny (model prog w) A (forIn ifs true fun c r=>if r=true then do let ok←isTrue c env (eval c env);pure (ForInStep.yield ok)else pure (ForInStep.yield r)) (fun ok s₃=>
    if ok=true then wpAny (model prog w) A (eval elt env) (fun x s₄=>
     wpAny (model prog w) A (call (.builtin "list.append") [acc,x]) (fun _ s₅=>∃m,m<n∧I m s₅) (fun _ _=>False) s₄) (fun _ _=>False) s₃
    else∃m,m<n∧I m s₃) (fun _ _=>False) s₂) (fun _ _=>False) s₀) (fun _ _=>False) s₁) (fun _ _=>False) s)(n:Nat)(h:I n s):
 codeAny (model prog w) A (.compLoop (.ListComp elt [⟨target,iter,ifs,0⟩] scope pos) 0 it acc env) R s:=by
 refine codeAny_loop rfl I (fun n s hI=> ?_) n h
 show wpAny _ A ((compTurn (.ListComp elt [⟨target,iter,ifs,0⟩] scope pos) 0 it acc env).onRaise (fun x=>do noteFrame x env;theTreesLotGoes x)) _ _ s
 refine wpAny_noted ?_
 rw [compTurn_list]
 have no:∀(E:Value→Shared→Prop) (x:Value) (s':Shared),False→E x s':=fun _ _ _ f=>f.elim
 refine wpAny_bind (wpAny_standAt (wpAny_bind (wpAny_mono (turn n s hI) (fun r s₁ h₁=> ?_) (no _))))
 cases r with
 |none=>exact wpAny_pure h₁
 |some v=>
  refine wpAny_bind (wpAny_mono h₁ (fun _ s₀ h₀=> ?_) (no _))
  refine wpAny_bind (wpAny_mono h₀ (fun _ s₂ h₂=>wpAny_bind (wpAny_mono h₂ (fun ok s₃ h₃=> ?_) (no _))) (no _))
  cases ok with
  |false=>exact wpAny_pure ⟨rfl,h₃⟩
  |true=>
   exact wpAny_bind (wpAny_bind (wpAny_mono h₃ (fun x s₄ h₄=>wpAny_bind (wpAny_mono h₄ (fun _ s₅ h₅=>wpAny_pure (wpAny_pure ⟨rfl,h₅⟩)) (no _))) (no _)))
end
end L2
namespace L2
open PySem
theorem oS(n:Nat):sliceRange ((n:Int)-1) (-1) (-1)=(List.range n).map fun k=>n-1-k:=by
 unfold sliceRange
 have e:(if(-1:Int)>0 then(if(n:Int)-1< -1 then(-1-((n:Int)-1)+-1-1)/ -1 else 0)else(if(n:Int)-1>-1 then((n:Int)-1- -1- -1-1)/ - -1 else 0)).toNat=n:=by
  rw [aK (by decide)]
  split
  ·have:((n:Int)-1- -1- -1-1)/ - -1=n:=by
    rw [show(- -1:Int)=1 from rfl,Int.ediv_one];lia
   rw [this];lia
  ·lia
 show List.map _ (List.range _)=_
 rw [e]
 refine List.map_congr_left fun k hk=> ?_
 have:=kY.mp hk
 lia
theorem zx{α:Type}(l:List α):∀n,n≤l.length→((List.range n).map fun k=>n-1-k).filterMap (fun j=>l[j]?)=(l.take n).reverse:=by
 intro n
 induction n with
 |zero=>intro _;simp
 |succ n ih=>
  intro h
  have e:(List.range (n+1)).map (fun k=>n+1-1-k)=n::(List.range n).map (fun k=>n-1-k):=by
   rw [List.range_succ_eq_map,lV,zb]
   congr 1
   refine List.map_congr_left fun k hk=> ?_
   have:=kY.mp hk
   simp;lia
  have hl:n<l.length:=by lia
  rw [e,zc,jV hl]
  simp only
  rw [ih (by lia),List.take_add_one,jV hl,List.reverse_append]
  rfl
theorem qS(az:List Value):slicePick az.toArray none none (some (-1))=az.reverse.toArray:=by
 unfold slicePick
 have e:sliceBounds none none (some (-1)) az.toArray.size=((az.length:Int)-1,-1,-1):=by
  simp [sliceBounds]
 rw [e]
 simp only [oS]
 have e2:=zx az az.length (dr _)
 rw [List.take_length]at e2
 rw [←e2]
 simp only [List.getElem?_toArray]
end L2
namespace L2
open PySem PySem.Spec PyProof.Rows
structure CompScope(sc:Scope)(N:List Str)(scope:Scope)(x:Str)(fr:List Str)(is:List Nat):Prop where
 kind:scope.kind=.function
 nocell:∀y∈scope.names,y.2≠.cell
 names:∀y∈scope.names,y.2=.local→scope.names.lookup y.1=some .local
 var:scope.names.lookup x=some .local
 nd:(x::fr).Nodup
 free:∀y∈scope.names,y.2=.free→sc.names.lookup y.1=some .cell∨sc.names.lookup y.1=some .free
 look:∀n∈fr,scope.names.lookup n=some .free
 slots:(is.map fun k=>N[k]?)=fr.map some
noncomputable def aS(X:Cx)(scope:Scope)(N':List Str)(C:Addr)(s:Shared)(H:Hp)(fp:List Addr)(pins:List (Addr×Obj)):Cx where
 prog:=X.prog
 w:=X.w
 K:=X.K
 mg:=X.mg
 base:=X.base
 A:=X.A
 N:=N'
 s₀:=s
 H₀:=H
 env:=compEnvC scope (eW X.env scope.names []) C X.env
 outer:=X.stack
 stack:=X.stack
 ex:=fp
 fn:=fun _=>false
 calm:=X.calm
 pn:=X.pn++pins
 xe:=fun _ _=>False
noncomputable def gF(σ:St)(is:List Nat)(o:Option V):St:=o::is.map fun k=>(σ[k]?).join
section
variable{X:Cx}{pins:List (Addr×Obj)}{σ:St}{H:Hp}{s:Shared}{scope:Scope}{x:Str}{fr:List Str}{is:List Nat}{fp:List Addr}
theorem hU(I:Inv X pins σ H s)(cs:CompScope X.env.scope X.N scope x fr is)(h:(eW X.env scope.names []).lookup y=some c):X.env.cells.lookup y=some c∧(y,NameKind.free)∈scope.names:=by
 rw [lK]at h
 by_cases hy:(y,NameKind.free)∈scope.names
 ·rw [aF hy]at h
  obtain⟨d,hd⟩:=I.ok.has y (cs.free _ hy rfl)
  rw [hd]at h
  have e:d=c:=cC h
  exact⟨by rw [hd,e],hy⟩
 ·rw [aK hy]at h
  cases h
theorem qf(I:Inv X pins σ H s)(cs:CompScope X.env.scope X.N scope x fr is)(hy:(y,NameKind.free)∈scope.names):∃c,X.env.cells.lookup y=some c∧(eW X.env scope.names []).lookup y=some c:=by
 obtain⟨d,hd⟩:=I.ok.has y (cs.free _ hy rfl)
 refine⟨d,hd,?_⟩
 rw [lK,aF hy,hd]
 rfl
theorem xN(I:Inv X pins σ H s)(cs:CompScope X.env.scope X.N scope x fr is)(hf:∀b∈fp,j3 X pins H b)(hfp:∀b∈fp,∃o,s.heap.get? b=some o){h':Heap}(hn:h'.Ns s.heap.objs.size m)(hk:∀b o,s.heap.get? b=some o→h'.get? b=some o):
 Inv (aS X scope (x::fr) s.heap.objs.size s H fp pins) [] (gF σ is none) H {s with heap:=h',toks:=t'}:=by
 have lt:∀ {b:Addr} {o:Obj},s.heap.get? b=some o→b≠s.heap.objs.size:=fun e=>fu (Heap.lt_size e)
 have nofs:∀ {b:Addr},b≠X.env.locals→b∉X.fs→b∉yN X.stack:=fun h1 h2 hb=>(fY.mp (I.wA _ hb)).elim h1 h2
 refine⟨⟨I.mod,cs.kind,I.ok.glob,I.ok.blt,dr _,fun y z c h1 h2=> ?_,fun y hy=> ?_,fun y c h=> ?_,I.ok.hd,I.ok.frames,.inl rfl,fun b hb=> ?_,I.bs,nH I.ok.bsz I.sz,fun b o e hb=> ?_,fun b hb=> ?_,I.stack,I.x8⟩,
  rfl,I.bare,Un.kept hk,⟨m,hn,fun i y v h1 h2 h3=> ?_⟩,fun y c h=> ?_,I.hok.fresh (dr _),fun y c h=> ?_,fun p hp=> ?_,I.hok.kept hk,?_⟩
 ·exact I.ok.inj y z c (hU I cs h1).1 (hU I cs h2).1
 ·obtain⟨c,_,e⟩:=qf I cs (o6 cs.nocell hy)
  exact⟨c,e⟩
 ·cases h
 ·obtain⟨o,e⟩:=hfp b hb
  exact⟨lt e,fun y c h=>(hf b hb).2.2.2.2.1 y c (hU I cs h).1⟩
 ·rcases(hf b hb).2.2.2.1 with z|z
  ·exact I.ok.noex b o e z
  ·exact absurd (jU (jU (Heap.lt_size e) I.ok.bsz) z) (uC _)
 ·exact nofs (hf b hb).2.1 (hf b hb).2.2.1
 ·cases i with
  |zero=>
   have h2':(some (none:Option V))=some (some v):=h2
   cases h2'
  |succ i=>
   have h1':fr[i]?=some y:=h1
   have h2':(is.map fun k=>(σ[k]?).join)[i]?=some (some v):=h2
   rw [eK]at h2'
   cases hk':is[i]? with
   |none=>rw [hk']at h2';cases h2'
   |some k=>
    rw [hk']at h2'
    have h2'':(σ[k]?).join=some v:=cC h2'
    have hσ:σ[k]?=some (some v):=by
     cases q:σ[k]? with
     |none=>rw [q]at h2'';cases h2''
     |some o=>rw [q]at h2'';rw [show o=some v from h2'']
    have hN:X.N[k]?=some y:=by
     have e:=congrArg (fun l=>l[i]?) cs.slots
     simp only [eK,hk',h1',Option.map_some]at e
     exact cC e
    have hl:=cs.look y (uD h1')
    have hm:(y,NameKind.free)∈scope.names:=PySem.mem_of_lookup hl
    obtain⟨c,e1,e2⟩:=qf I cs hm
    have hvis:Ml X.env.scope y:=.inr (cs.free _ hm rfl)
    obtain⟨m0,hn0,hl0⟩:=I.loc
    obtain⟨u,r,l⟩:=hl0 k y v hN hσ hvis
    refine⟨u,r,.inr ⟨ic hl,c,e2,?_⟩⟩
    rcases l with⟨k1,_⟩|⟨_,c',e3,z⟩
    ·have k2:X.env.kindOf y=some .cell∨X.env.kindOf y=some .free:=cs.free _ hm rfl
     rw [k1]at k2
     rcases k2 with k2|k2<;>cases k2
    ·rw [e1]at e3
     cases e3
     obtain⟨o,ho,hd⟩:=z
     exact⟨o,hk _ _ ho,hd⟩
 ·obtain⟨v,o,ho,hd⟩:=I.cell y c (hU I cs h).1
  exact⟨v,o,hk _ _ ho,hd⟩
 ·exact I.freeC y c (hU I cs h).1
 ·rw [kX]at hp
  obtain⟨e,n,ne,nf,d⟩:=I.pin p hp
  exact⟨hk _ _ e,n,lt e,nofs ne nf,d⟩
 ·show(none::is.map _).length=(x::fr).length
  have e:=congrArg List.length cs.slots
  simp only [b9]at e
  simp [e]
theorem vF(I:Inv X pins σ H s)(hf:∀b∈fp,j3 X pins H b)(J:Inv (aS X scope (x::fr) s.heap.objs.size s H fp pins) [] σ' H' s')(sb:Heap.SameBut s.heap.objs.size s'.heap h''):
 Inv X pins σ H' {s' with heap:=h''}:=by
 have ne:∀ {b:Addr} {o:Obj},s.heap.get? b=some o→b≠s.heap.objs.size:=fun e=>fu (Heap.lt_size e)
 have fre:H' s.heap.objs.size=none:=J.free
 have u:Un (yN X.stack) fp H H' s.heap s'.heap:=J.base
 refine I.LU (ch:=fp) J.os ⟨fun b o e n hb hx=>(sb.2 b (ne e)).trans (u.keep b o e n hb hx),fun b o e n hb hx=> ?_,u.free,fun b o e hx=> ?_,u.tups,u.frzs,u.tbls⟩ (fun b o e=> ?_) J.bare (fun b hb=> ?_)
 ·obtain⟨sl,q⟩:=u.slot b o e n hb hx
  exact⟨sl,(sb.2 b (ne e)).trans q⟩
 ·obtain⟨o',q⟩:=u.there b o e hx
  exact⟨o',(sb.2 b (ne e)).trans q⟩
 ·have nC:∀ {c:Addr} {v:HO},H' c=some v→c≠s.heap.objs.size:=fun q z=>by rw [z,fre]at q;cases q
  refine(J.hok b o e).uM (fun c v hc q=>(sb.2 c ?_).trans q) (fun _ q=>q) fun _ _ q=>q
  rcases hc with rfl|hc
  ·exact nC e
  ·exact nC hc
 ·exact⟨(hf b hb).2.2.2.1,(hf b hb).2.1,(hf b hb).2.2.2.2.1,(hf b hb).2.2.2.2.2⟩
end
noncomputable def lr(wi:TI)(is:List Nat)(tt:TT)(te:TE):TE:=fun σ H Q=>wi σ H fun J H1=>∀D,H1 D=none→∃W:Nat→Nat→Hp→Prop,(∃m,W 0 m (bp H1 D (.lst [])))∧∀i m H2,W i m H2→
 (J.stop i H2∧Q (.ref D) H2)∨(J.go i H2∧∀x H3,J.yld i H2 x H3→tt (gF σ is (some x)) H3 fun b H4=>if b=true then te (gF σ is (some x)) H4 fun y H5=>∃ys,H5 D=some (.lst ys)∧ys.length<sizeLine∧∃m',m'<m∧W (i+1) m' (bp H5 D (.lst (ys++[y])))
   else∃m',m'<m∧W (i+1) m' H4)
noncomputable def oO:TT:=fun _ H Q=>Q true H
section
variable{X:Cx}{scope:Scope}{x:Str}{px pos:Pos}{fr:List Str}{is:List Nat}{elt iter:Expr}{wi:TI}{te:TE}
def JB(X:Cx)(ifs:List Expr)(t:TT):Prop:=
 ∀(pins:List (Addr×Obj)) (s:Shared) (σ:St) (H:Hp) (Q:Bool→Hp→Prop),Inv X pins σ H s→t σ H Q→
  wpAny (model X.prog X.w) X.A (forIn ifs true fun c r=>if r=true then do let ok←isTrue c X.env (eval c X.env);pure (ForInStep.yield ok)else pure (ForInStep.yield r)) (TP X pins σ Q) X.xe s
theorem sV:JB X [] oO:=fun _ _ _ H _ I h=>wpAny_tests_nil ⟨H,I,h⟩
theorem yf(h:PT X c t):JB X [c] t:=fun pins s σ H Q I q=>wpAny_tests_one (h pins s σ H Q I q)
theorem vE(hc:X.calm=true)(hi:PI X (.Name x px) iter wi)(ht:∀C s H fp pins,JB (aS X scope (x::fr) C s H fp pins) ifs tt)(he:∀C s H fp pins,PE (aS X scope (x::fr) C s H fp pins) elt te)(cs:CompScope X.env.scope X.N scope x fr is)(hfs:∀x,foldedSetIterable iter X.env x=pure x)(I:Inv X pins σ H s)(h:lr wi is tt te σ H Q)(fin:∀(s3:Shared) (H3:Hp) (fp:List Addr) (D:Addr) (σ':St) (H':Hp) (s':Shared),Inv X pins σ H3 s3→(∀b∈fp,j3 X pins H3 b)→Inv (aS X scope (x::fr) s3.heap.objs.size s3 H3 fp pins) [] σ' H' s'→Q (.ref D) H'→
 compPost (model X.prog X.w) X.A X.xe use Qf (.ref D) s3.heap.objs.size (.ok .next) s'):
 wpAny (model X.prog X.w) X.A (comprehension (.ListComp elt [⟨.Name x px,iter,ifs,0⟩] scope pos) scope X.env (firstIterPos [⟨.Name x px,iter,ifs,0⟩] pos) (newList []) false (eval iter X.env) use) Qf X.xe s:=by
 have hclos:closureFor scope X.env=pure (eW X.env scope.names []):=nZ fun n hn=>I.ok.has n (cs.free _ hn rfl)
 refine wpAny_comprehension_free (use:=use) rfl hfs hclos cs.kind cs.names (bH (hi pins s σ H _ I h) fun v s1 h1=>bH h1 fun itv s2 h2=> ?_)
 obtain⟨it,fp,tn,J,H2,e,I2,T,st2,f2,h2⟩:=h2
 subst e
 refine wpAny_newObj_type (hd:=by size_fits) ?_
 have fD:H2 s2.heap.objs.size=none:=I2.fresh
 obtain⟨W,⟨m0,w0⟩,turn⟩:=h2 s2.heap.objs.size fD
 have nD:∀b∈fp,b≠s2.heap.objs.size:=fun b hb=>by
  obtain⟨o,e,_⟩:=T.obj _ _ st2 b hb
  exact fu (Heap.lt_size e)
 have I3:Inv X pins σ (bp H2 s2.heap.objs.size (.lst [])) {s2 with heap:=s2.heap.push {cls:=.type "list",data:=.seq ([]:List Value).toArray}}:=I2.HL (t':=s2.toks) .nil (iQ _)
 have f3:∀b∈fp,j3 X pins (bp H2 s2.heap.objs.size (.lst [])) b:=fun b hb=>⟨by rw [ag (nD b hb)];exact(f2 b hb).1,(f2 b hb).2⟩
 have st3:tn 0 (s2.heap.push {cls:=.type "list",data:=.seq ([]:List Value).toArray}):=T.keep _ _ _ st2 fun b _ o e=>Heap.get?_push_of_some _ e
 generalize hs3:({s2 with heap:=s2.heap.push {cls:=.type "list",data:=.seq ([]:List Value).toArray}}:Shared)=s3 at I3⊢
 have st3':tn 0 s3.heap:=by rw [←hs3];exact st3
 generalize hH3:bp H2 s2.heap.objs.size (.lst [])=H3 at I3 f3 w0
 generalize s2.heap.objs.size=D at*
 refine wpAny_newFunctionEnv cs.nocell (by intro y hy;simp at hy) (fun h4 hn4 sb4=> ?_) cs.kind
 have hk4:∀b o,s3.heap.get? b=some o→h4.get? b=some o:=fun b o e=>sb4.extBut b o (fu (Heap.lt_size e)) (Heap.get?_push_of_some _ e)
 have ob3:∀b∈fp,∃o,s3.heap.get? b=some o:=fun b hb=>let ⟨o,e,_⟩:=T.obj _ _ st3' b hb;⟨o,e⟩
 have I4:=xN (t':=s3.toks+([]:List (Str×Value)).length) I3 cs f3 ob3 hn4 hk4
 have st4:tn 0 h4:=T.keep _ _ _ st3' fun b _ o e=>hk4 b o e
 have stat:∀ {H':Hp},(∀b∈fp,H' b=none)→∀b∈fp,j3 (aS X scope (x::fr) s3.heap.objs.size s3 H3 fp pins) [] H' b:=fun hn b hb=>
  ⟨hn b hb,(I4.ok.exf b hb).1,I4.ok.exfs b hb,.inl hb,(I4.ok.exf b hb).2,fun p hp z=>by
   have hp':p∈X.pn++pins:=by
    have h2:p∈(X.pn++pins)++[]:=hp
    rwa [kX]at h2
   exact(f3 b hb).2.2.2.2.2 p hp' z⟩
 have loop:codeAny (model X.prog X.w) X.A (.compLoop (.ListComp elt [⟨.Name x px,iter,ifs,0⟩] scope pos) 0 (.ref it) (.ref D) (aS X scope (x::fr) s3.heap.objs.size s3 H3 fp pins).env)
  (compPost (model X.prog X.w) X.A X.xe use Qf (.ref D) s3.heap.objs.size) {s3 with heap:=h4,toks:=s3.toks+([]:List (Str×Value)).length}:=by
  refine uh (fun n s'=>∃i o H',Inv (aS X scope (x::fr) s3.heap.objs.size s3 H3 fp pins) [] (gF σ is o) H' s'∧tn i s'.heap∧(∀b∈fp,H' b=none)∧W i n H') ?_ m0 ⟨0,none,H3,I4,st4,fun b hb=>(f3 b hb).1,w0⟩
  rintro n s5 ⟨i,o,H5,I5,st5,fr5,w5⟩
  rcases turn i n H5 w5 with⟨stop,qn⟩|⟨go,step⟩
  ·refine bH (T.done (aS X scope (x::fr) s3.heap.objs.size s3 H3 fp pins) rfl rfl rfl hc i [] s5 _ H5 (fun _ _=>False) I5 (stat fr5) st5 stop) fun r s6 hp9=> ?_
   obtain⟨hr,I6⟩:=hp9
   subst hr
   exact fin s3 H3 fp D _ H5 s6 I3 f3 I6 qn
  ·refine bH (T.item (aS X scope (x::fr) s3.heap.objs.size s3 H3 fp pins) rfl rfl rfl hc i [] s5 _ H5 (fun _ _=>False) I5 (stat fr5) st5 go) fun r s6 hp9=> ?_
   obtain⟨u,hr,h6⟩:=hp9
   subst hr
   refine bH h6 fun _ s7 hp9=> ?_
   obtain⟨v,H7,I7,r7,y7,st7,fr7⟩:=hp9
   have I7':=I7.pinned (stat fr7) (T.obj _ _ st7)
   have gN:PG (aS X scope (x::fr) s3.heap.objs.size s3 H3 fp pins) (.Name x px) (fT 0):=yn (i:=0) cs.nd rfl (.inl (lookup_relabel_local cs.var)) (.inr (lookup_relabel_local cs.var))
   refine bH (gN _ s7 _ H7 v u (fun σ' H'=>σ'=gF σ is (some v)∧H'=H7) I7' r7 ⟨rfl,rfl⟩) fun _ s8 hp9=> ?_
   obtain⟨σ8,H8,I8,e8,e8'⟩:=hp9
   subst e8 e8'
   refine bH (ht s3.heap.objs.size s3 H3 fp pins _ s8 _ H8 _ I8 (step v H8 y7)) fun b s9 hp9=> ?_
   obtain⟨H9,I9,q9⟩:=hp9
   have again:∀ {s':Shared} {H':Hp} {m:Nat},Inv (aS X scope (x::fr) s3.heap.objs.size s3 H3 fp pins) ([]++o7 fp s7.heap) (gF σ is (some v)) H' s'→m<n→W (i+1) m H'→
    ∃m,m<n∧∃i o H',Inv (aS X scope (x::fr) s3.heap.objs.size s3 H3 fp pins) [] (gF σ is o) H' s'∧tn i s'.heap∧(∀b∈fp,H' b=none)∧W i m H':=fun {s' H' m} I' hm w'=>by
    refine⟨m,hm,i+1,some v,H',I'.lq,T.keep _ _ _ st7 fun b hb o e=>(I'.pin (b,o) (nK _ (nK _ (il hb e)))).1,fun b hb=> ?_,w'⟩
    obtain⟨o,e,d⟩:=T.obj _ _ st7 b hb
    exact(I'.pin (b,o) (nK _ (nK _ (il hb e)))).2.1
   cases b with
   |false=>
    obtain⟨m',hm,w9⟩:=q9
    exact again I9 hm w9
   |true=>
    refine bH (he s3.heap.objs.size s3 H3 fp pins _ s9 _ H9 _ I9 q9) fun y s10 hp9=> ?_
    obtain⟨yv,H10,I10,r10,ys,hD,hz,m',hm,w10⟩:=hp9
    refine bH (ft _ s10 _ H10 (.ref D) [yv] (.ref D) [y] (fun _ H'=>H'=bp H10 D (.lst (ys++[yv]))) I10 rfl (.cons r10 .nil) ⟨D,ys,yv,rfl,rfl,hD,hz,rfl⟩) fun _ s11 hp9=> ?_
    obtain⟨_,H11,I11,_,e11⟩:=hp9
    subst e11
    exact again I11 hm w10
 exact codeAny_compStart_list loop (T.self X.A 0 _ _ _ st4 loop)
theorem o8(hc:X.calm=true)(hi:PI X (.Name x px) iter wi)(ht:∀C s H fp pins,JB (aS X scope (x::fr) C s H fp pins) ifs tt)(he:∀C s H fp pins,PE (aS X scope (x::fr) C s H fp pins) elt te)(cs:CompScope sc N scope x fr is)(hsc:X.env.scope=sc:=by rfl)(hN:X.N=N:=by rfl)(hfs:∀x,foldedSetIterable iter X.env x=pure x:=by intro _;rfl):
 PE X (.ListComp elt [⟨.Name x px,iter,ifs,0⟩] scope pos) (lr wi is tt te):=by
 subst hsc hN
 intro pins s σ H Q I h
 rw [eval_ListComp]
 refine vE hc hi ht he cs hfs I h fun s3 H3 fp D σ' H' s' I3 f3 J q=> ?_
 obtain⟨m6,hn6,_⟩:=id J.loc
 exact⟨m6,hn6,fun h7 sb7=>⟨.ref D,H',vF I3 f3 J sb7,rfl,q⟩⟩
theorem uZ{spos:Pos}(hc:X.calm=true)(hi:PI X (.Name x px) iter wi)(ht:∀C s H fp pins,JB (aS X scope (x::fr) C s H fp pins) ifs tt)(he:∀C s H fp pins,PE (aS X scope (x::fr) C s H fp pins) elt te)(cs:CompScope sc N scope x fr is)(hnd:X.N.Nodup)(hk:X.N[k]?=some y)(hy:X.env.scope.names.lookup y=some .local)(hsw:swapsWith (.ListComp elt [⟨.Name x px,iter,ifs,0⟩] scope pos) (some (.Name y py)) spos.line X.env=pure true)(hsc:X.env.scope=sc:=by rfl)(hN:X.N=N:=by rfl)(hfs:∀x,foldedSetIterable iter X.env x=pure x:=by intro _;rfl):
 PS X (.Assign [.Name y py] (.ListComp elt [⟨.Name x px,iter,ifs,0⟩] scope pos) spos) (wx (lr wi is tt te) (fT k)):=by
 subst hsc hN
 intro pins s σ H D I h
 rw [exec_Assign_Name_used _ _ _ _ hsw]
 refine wpAny_bind (wpAny_standAt (wpAny_bind ?_))
 show wpAny _ X.A (do let _←comprehension (.ListComp elt [⟨.Name x px,iter,ifs,0⟩] scope pos) scope X.env (firstIterPos [⟨.Name x px,iter,ifs,0⟩] pos) (newList []) false (eval iter X.env) (some (assign (.Name y py) X.env))) _ _ s
 refine wpAny_bind (bH (vE (use:=some (assign (.Name y py) X.env)) (Qf:=fun _ s'=>SP X pins D .next s') hc hi ht he cs hfs I h fun s3 H3 fp Da σ' H' s' I3 f3 J q=> ?_) fun _ s' hq=>wpAny_pure (wpAny_pure hq))
 have I5:Inv X pins σ H' s':=vF (h'':=s'.heap) I3 f3 J (.refl ..)
 obtain⟨m6,hn6,_⟩:=id J.loc
 have cne:s3.heap.objs.size≠X.env.locals:=Nat.ne_of_gt I3.lt
 have fC:j3 X pins H' s3.heap.objs.size:=I3.tW (dr _) J.free
 refine wpAny_assign_Name (rm (v:=.ref Da) (u:=.ref Da) I5 hnd hk (.inl hy) rfl (fun s7 I7 ch=> ?_) (.inr hy))
 obtain⟨a,sb,ha⟩:=ch
 have nCa:s3.heap.objs.size≠a:=by
  rcases ha with rfl|ha
  ·exact cne
  ·exact fun z=>fC.2.2.2.2.1 y a ha z.symm
 refine⟨m6,hn6.sameBut sb nCa,fun h8 sb8=> ?_⟩
 refine⟨σ.set k (some (.ref Da)),H',?_,q⟩
 exact I7.turned (t':=s7.toks) (fun b o hb e=>(sb8.2 b hb).trans e) J.free cne fC.2.2.2.1 fC.2.2.2.2.1 fC.2.2.2.2.2
theorem tf(hc:X.calm=true)(hi:PI X (.Name x px) iter wi)(he:∀C s H fp pins,PE (aS X scope (x::fr) C s H fp pins) elt te)(cs:CompScope sc N scope x fr is)(hsc:X.env.scope=sc:=by rfl)(hN:X.N=N:=by rfl)(hfs:∀x,foldedSetIterable iter X.env x=pure x:=by intro _;rfl):
 PE X (.ListComp elt [⟨.Name x px,iter,[],0⟩] scope pos) (lr wi is oO te):=o8 hc hi (fun _ _ _ _ _=>sV) he cs hsc hN hfs
theorem rA(hc:X.calm=true)(hi:PI X (.Name x px) iter wi)(ht:∀C s H fp pins,PT (aS X scope (x::fr) C s H fp pins) c tt)(he:∀C s H fp pins,PE (aS X scope (x::fr) C s H fp pins) elt te)(cs:CompScope sc N scope x fr is)(hsc:X.env.scope=sc:=by rfl)(hN:X.N=N:=by rfl)(hfs:∀x,foldedSetIterable iter X.env x=pure x:=by intro _;rfl):
 PE X (.ListComp elt [⟨.Name x px,iter,[c],0⟩] scope pos) (lr wi is tt te):=o8 hc hi (fun C s H fp pins=>yf (ht C s H fp pins)) he cs hsc hN hfs
end
section
variable{X:Cx}{pins:List (Addr×Obj)}{σ:St}{H:Hp}{s:Shared}
theorem Inv.walked{t':Nat}{ch:List Addr}{h':Heap}(I:Inv X pins σ H s)(hf:∀b∈ch,j3 X pins H b)(k:∀b o,b∉ch→s.heap.get? b=some o→h'.get? b=some o):Inv X pins σ H {s with heap:=h',toks:=t'}:=by
 have nit:∀b u,H b=some u→b∉ch:=fun b u e z=>by rw [(hf b z).1]at e;cases e
 refine I.step (g':=s.gens) (d':=s.drawn) (ch:=ch) (fun b hb=>⟨(hf b hb).2.2.2.1,(hf b hb).2.1,(hf b hb).2.2.2.2.1,(hf b hb).2.2.2.2.2⟩) (fun b o _ _ hc e _=>k b o hc e) (fun b o _ _ hc e _=>⟨o.slots,k b o hc e⟩) (fun _ _ _ _ n=>n)
  (fun b o hc e=>⟨o,k b o hc e⟩) (fun _ _ e=>e) (fun _ _ _ e=>e) (fun b ps e=>⟨#[],by rw [e];simp⟩) (fun m hm=> ?_) (fun b u e=> ?_) I.bare
 ·obtain⟨o,es,ep,ho,r⟩:=hm
  exact⟨o,es,ep,k _ o (fun z=>(hf _ z).2.1 rfl) ho,r⟩
 ·refine(I.hok b u e).uM (fun c v hc q=>k c v ?_ q) (fun _ q=>q) fun _ _ q=>q
  rcases hc with z|z
  ·rw [z];exact nit b u e
  ·exact nit c _ z
theorem Inv.Fw(I:Inv X pins σ H s)(hf:j3 X pins H p)(new:b8 X.prog X.w (bp H p o) s.heap p o):Inv X pins σ (bp H p o) s:=by
 have ne:∀ {b:Addr} {u:HO},H b=some u→b≠p:=fun e z=>by rw [z,hf.1]at e;cases e
 refine I.step (g':=s.gens) (d':=s.drawn) (t':=s.toks) (h':=s.heap) (H':=bp H p o) (ch:=[p]) (fun b hb=> ?_) (fun b o _ _ _ e _=>e) (fun b o _ _ _ e _=>⟨o.slots,e⟩) (fun b u hc _ n=> ?_) (fun b o _ e=>⟨o,e⟩)
  (fun b xs e=>by rw [ag (ne e)];exact e) (fun b o u e=>by rw [ag (ne e)];exact e) (fun b ps e=>⟨#[],by rw [ag (ne e),e];simp⟩) (fun m hm=>hm) (fun b u e=> ?_) I.bare
 ·have e:b=p:=by simpa using hb
  subst e
  exact⟨hf.2.2.2.1,hf.2.1,hf.2.2.2.2.1,hf.2.2.2.2.2⟩
 ·rw [ag (fun z=>hc (by simp [z]))];exact n
 ·by_cases hb:b=p
  ·subst hb;rw [ak]at e;cases e;exact new
  ·rw [ag hb]at e
   exact(I.hok b u e).uM (fun _ _ _ q=>q) (fun c q=>by rw [ag (ne q)];exact q) fun c xs q=>by rw [ag (ne q)];exact q
theorem bf{h:Heap}(e:h.get? a=some o)(q:h.get? b=some u)(ce:o.cls=.type A)(cq:u.cls=.type B)(d:A≠B:=by decide):a≠b:=fun z=>by
 subst z
 rw [e]at q
 have e2:o=u:=cC q
 rw [e2,cq]at ce
 injection ce with ce
 exact d ce.symm
end
noncomputable def NV(K:W.Frag)(l1 l2:Addr):It:=
 ⟨fun i H=>(∃xs x,dQ K H l1 xs∧xs[i]?=some x)∧∃ys y,dQ K H l2 ys∧ys[i]?=some y,
  fun i H v H'=>∃p x y,v=.ref p∧H p=none∧H'=bp H p (.tup [x,y])∧(∀xs,dQ K H l1 xs→xs[i]?=some x)∧∀ys,dQ K H l2 ys→ys[i]?=some y,
  fun i H=>∃xs ys,dQ K H l1 xs∧dQ K H l2 ys∧(xs.length≤i∨ys.length≤i)⟩
noncomputable def JE(K:W.Frag)(l:Addr):It:=
 ⟨fun i H=>∃xs x,dQ K H l xs∧xs[i]?=some x,
  fun i H v H'=>∃p x,v=.ref p∧H p=none∧H'=bp H p (.tup [.int i,x])∧∀xs,dQ K H l xs→xs[i]?=some x,
  fun i H=>∃xs,dQ K H l xs∧xs.length≤i⟩
theorem iF{a:Nat}(h:¬a=b):(a:Addr)≠b:=h
theorem iU:2≤sizeLine:=by rw [sizeLine_eq];decide
theorem AA{P:Program}{w:World}{K:W.Frag}{elts:List Expr}{k:Nat}{tpos:Pos}{z TI TO i1 i2 l1 l2:Addr}(n1:TI≠z)(n2:TO≠z)(n3:i1≠z)(n4:i2≠z)(n5:TI≠TO)(n6:i1≠i2):
 Turn P w K (.Tuple elts k tpos) (NV K l1 l2) [z,TI,TO,i1,i2] z (fun i h=>IsZip h z TI TO .none∧IsPair h TI (.ref i1) (.ref i2)∧(∃a b,IsPair h TO a b)∧h.IsListIter i1 l1 i∧h.IsListIter i2 l2 i) where
 mem:=by simp
 obj:=fun i h st b hb=>by
  obtain⟨hz,hTI,⟨a,c,hTO⟩,⟨o1,e1,c1,d1⟩,⟨o2,e2,c2,d2⟩⟩:=st
  simp only [fY,List.not_mem_nil,or_false]at hb
  rcases hb with rfl|rfl|rfl|rfl|rfl
  ·exact⟨_,hz,fun v z=>by have z':Data.fields _=Data.cell v:=z;cases z'⟩
  ·exact⟨_,hTI,fun v z=>by have z':Data.seq _ _=Data.cell v:=z;cases z'⟩
  ·exact⟨_,hTO,fun v z=>by have z':Data.seq _ _=Data.cell v:=z;cases z'⟩
  ·exact⟨o1,e1,fun v z=>by rw [d1]at z;cases z⟩
  ·exact⟨o2,e2,fun v z=>by rw [d2]at z;cases z⟩
 keep:=fun i h h' st kp=>by
  obtain⟨hz,hTI,⟨a,c,hTO⟩,h1,h2⟩:=st
  exact⟨kp z (by simp) _ hz,kp TI (by simp) _ hTI,⟨a,c,kp TO (by simp) _ hTO⟩,h1.at fun o e=>kp i1 (by simp) o e,h2.at fun o e=>kp i2 (by simp) o e⟩
 item:=by
  intro X hP hw hK hc i pins s σ H E I hf st hg
  subst hP hw hK
  obtain⟨hz,hTI,⟨a,c,hTO⟩,h1,h2⟩:=st
  obtain⟨⟨xs,x,hq1,hx⟩,⟨ys,y,hq2,hy⟩⟩:=hg
  obtain⟨its1,rv1,p1,_⟩:=I.list hq1
  obtain⟨its2,rv2,p2,_⟩:=I.list hq2
  obtain⟨u,hu,ru⟩:=rv1.get hx
  obtain⟨v,hv,rv⟩:=rv2.get hy
  obtain⟨o1,e1,c1,d1⟩:=id h1
  obtain⟨o2,e2,c2,d2⟩:=id h2
  obtain⟨ol1,el1,cl1,_⟩:=p1.isList
  obtain⟨ol2,el2,cl2,_⟩:=p2.isList
  have D:ZipApart z TI TO i1 i2 l1 l2:=⟨n1,n2,n3,n4,n5,bf hTI e1 rfl c1,bf hTI e2 rfl c2,bf hTO e1 rfl c1,bf hTO e2 rfl c2,n6,
   bf el1 hz cl1 rfl,bf el1 hTO cl1 rfl,bf el1 e1 cl1 c1,bf el1 e2 cl1 c2,
   bf el2 hz cl2 rfl,bf el2 hTO cl2 rfl,bf el2 e1 cl2 c1,bf el2 e2 cl2 c2⟩
  have fp:j3 X pins H s.heap.objs.size:=I.tW (dr _) I.fresh
  refine wpAny_pyNext_zip_item D hz hTI hTO h1 h2 p1.isList p2.isList (x:=u) (y:=v) (by simpa using hu) (by simpa using hv) fun h' a1 a2 a3 a4 a5 a6 kp=> ?_
  have I1:Inv X pins σ H {s with heap:=h'}:=I.walked (t':=s.toks) hf fun b o hb e=>kp b o (fun q=>hb (by simp [q])) (fun q=>hb (by simp [q])) (fun q=>hb (by simp [q])) (fun q=>hb (by simp [q])) e
  refine⟨_,rfl,wpAny_letOwnedTupleGo_zip a1 fun h'' b1 sb=> ?_⟩
  have nz:s.heap.objs.size≠z:=Nat.ne_of_gt (Heap.lt_size hz)
  have I2:Inv X pins σ H {s with heap:=h''}:=I1.walked (t':=s.toks) (ch:=[z]) (fun b hb=>hf b (by rw [nJ.mp hb];simp)) fun b o hb e=>(sb.2 b (fun q=>hb (by simp [q]))).trans e
  have gT:h''.get? s.heap.objs.size=some {cls:=.type "tuple",data:=.seq #[u,v]}:=(sb.2 _ nz).trans a5
  have I3:=I2.Fw (o:=.tup [x,y]) fp ⟨iU,[u,v],.cons ru (.cons rv .nil),⟨_,gT,rfl,_,rfl⟩⟩
  refine⟨.ref s.heap.objs.size,_,I3,rfl,⟨_,x,y,rfl,fp.1,rfl,fun zs hzs=>by rw [I.i9 hzs hq1];exact hx,fun zs hzs=>by rw [I.i9 hzs hq2];exact hy⟩,?_,fun b hb=> ?_⟩
  ·exact⟨b1,(sb.2 _ n1).trans (kp _ _ D.TIz D.TITO D.TIi1 D.TIi2 hTI),⟨_,_,(sb.2 _ n2).trans a2⟩,a3.at fun o e=>(sb.2 _ n3).trans e,a4.at fun o e=>(sb.2 _ n4).trans e⟩
  ·have lt:∀ {b:Addr} {o:Obj},s.heap.get? b=some o→b≠s.heap.objs.size:=fun e=>fu (Heap.lt_size e)
   rw [ag]
   ·exact(hf b hb).1
   ·simp only [fY,List.not_mem_nil,or_false]at hb
    rcases hb with rfl|rfl|rfl|rfl|rfl
    ·exact lt hz
    ·exact lt hTI
    ·exact lt hTO
    ·exact lt e1
    ·exact lt e2
 done:=by
  intro X hP hw hK hc i pins s σ H E I hf st hg
  subst hP hw hK
  obtain⟨hz,hTI,⟨a,c,hTO⟩,h1,h2⟩:=st
  obtain⟨xs,ys,hq1,hq2,hl⟩:=hg
  obtain⟨its1,rv1,p1,_⟩:=I.list hq1
  obtain⟨its2,rv2,p2,_⟩:=I.list hq2
  obtain⟨o1,e1,c1,d1⟩:=id h1
  obtain⟨o2,e2,c2,d2⟩:=id h2
  obtain⟨ol1,el1,cl1,_⟩:=p1.isList
  obtain⟨ol2,el2,cl2,_⟩:=p2.isList
  have D:ZipApart z TI TO i1 i2 l1 l2:=⟨n1,n2,n3,n4,n5,bf hTI e1 rfl c1,bf hTI e2 rfl c2,bf hTO e1 rfl c1,bf hTO e2 rfl c2,n6,
   bf el1 hz cl1 rfl,bf el1 hTO cl1 rfl,bf el1 e1 cl1 c1,bf el1 e2 cl1 c2,
   bf el2 hz cl2 rfl,bf el2 hTO cl2 rfl,bf el2 e1 cl2 c1,bf el2 e2 cl2 c2⟩
  have l1e:=rv1.length
  have l2e:=rv2.length
  refine wpAny_pyNext_zip_end (I.ok.hd hc) D hz hTI hTO h1 h2 p1.isList p2.isList ?_ fun h' kp=>⟨rfl,I.walked (t':=s.toks) hf fun b o hb e=>kp b o (fun q=>hb (by simp [q])) (fun q=>hb (by simp [q])) (fun q=>hb (by simp [q])) (fun q=>hb (by simp [q])) e⟩
  rcases hl with hl|hl
  ·exact .inl (by simp;lia)
  ·exact .inr (by simp;lia)
 self:=fun _ _ _ _ _ st h=>wpAny_pyIter_zip st.1 h
theorem ze{P:Program}{w:World}{K:W.Frag}{elts:List Expr}{k:Nat}{tpos:Pos}{e it l:Addr}(n1:e≠it):
 Turn P w K (.Tuple elts k tpos) (JE K l) [e,it] e (fun i h=>(∃old,IsEnum h e it (i:Nat) old)∧h.IsListIter it l i) where
 mem:=by simp
 obj:=fun i h st b hb=>by
  obtain⟨⟨old,he⟩,⟨o1,e1,c1,d1⟩⟩:=st
  simp only [fY,List.not_mem_nil,or_false]at hb
  rcases hb with rfl|rfl
  ·exact⟨_,he,fun v z=>by have z':Data.fields _=Data.cell v:=z;cases z'⟩
  ·exact⟨o1,e1,fun v z=>by rw [d1]at z;cases z⟩
 keep:=fun i h h' st kp=>by
  obtain⟨⟨old,he⟩,h1⟩:=st
  exact⟨⟨old,kp e (by simp) _ he⟩,h1.at fun o q=>kp it (by simp) o q⟩
 item:=by
  intro X hP hw hK hc i pins s σ H E I hf st hg
  subst hP hw hK
  obtain⟨⟨old,he⟩,h1⟩:=st
  obtain⟨xs,x,hq1,hx⟩:=hg
  obtain⟨its1,rv1,p1,_⟩:=I.list hq1
  obtain⟨u,hu,ru⟩:=rv1.get hx
  obtain⟨o1,e1,c1,d1⟩:=id h1
  have fp:j3 X pins H s.heap.objs.size:=I.tW (dr _) I.fresh
  refine wpAny_pyNext_enum_item he h1 p1.isList (x:=u) (by simpa using hu) n1 fun h' a1 a2 a3 a4 kp=> ?_
  have I1:Inv X pins σ H {s with heap:=h',toks:=s.toks+1}:=I.walked hf fun b o hb q=>kp b o (fun z=>hb (by simp [z])) (fun z=>hb (by simp [z])) q
  refine⟨_,rfl,wpAny_letOwnedTupleGo_enum a1 fun h'' b1 sb=> ?_⟩
  have nz:s.heap.objs.size≠e:=Nat.ne_of_gt (Heap.lt_size he)
  have I2:Inv X pins σ H {s with heap:=h'',toks:=s.toks+1}:=I1.walked (t':=s.toks+1) (ch:=[e]) (fun b hb=>hf b (by rw [nJ.mp hb];simp)) fun b o hb q=>(sb.2 b (fun z=>hb (by simp [z]))).trans q
  have gT:h''.get? s.heap.objs.size=some {cls:=.type "tuple",data:=.seq #[.int i s.toks,u]}:=(sb.2 _ nz).trans a3
  have I3:=I2.Fw (o:=.tup [.int i,x]) fp ⟨iU,[.int i s.toks,u],.cons ⟨_,rfl⟩ (.cons ru .nil),⟨_,gT,rfl,_,rfl⟩⟩
  refine⟨.ref s.heap.objs.size,_,I3,rfl,⟨_,x,rfl,fp.1,rfl,fun zs hzs=>by rw [I.i9 hzs hq1];exact hx⟩,?_,fun b hb=> ?_⟩
  ·refine⟨⟨u,?_⟩,a2.at fun o q=>(sb.2 _ n1.symm).trans q⟩
   have b1':IsEnum h'' e it ((i:Int)+1) u:=b1
   rw [show(((i+1:Nat):Int))=(i:Int)+1 by lia]
   exact b1'
  ·have lt:∀ {b:Addr} {o:Obj},s.heap.get? b=some o→b≠s.heap.objs.size:=fun q=>fu (Heap.lt_size q)
   rw [ag]
   ·exact(hf b hb).1
   ·simp only [fY,List.not_mem_nil,or_false]at hb
    rcases hb with rfl|rfl
    ·exact lt he
    ·exact lt e1
 done:=by
  intro X hP hw hK hc i pins s σ H E I hf st hg
  subst hP hw hK
  obtain⟨⟨old,he⟩,h1⟩:=st
  obtain⟨xs,hq1,hl⟩:=hg
  obtain⟨its1,rv1,p1,_⟩:=I.list hq1
  have l1e:=rv1.length
  refine wpAny_pyNext_enum_end (I.ok.hd hc) he h1 p1.isList (by simp;lia) fun h' kp=>⟨rfl,I.walked (t':=s.toks) hf fun b o hb q=>kp b o (fun z=>hb (by simp [z])) q⟩
 self:=fun _ _ _ _ _ st h=>let ⟨_,he⟩:=st.1;wpAny_pyIter_enum he h
section
variable{X:Cx}
noncomputable def Nh(K:W.Frag)(ta:TA):TI:=fun σ H R=>ta σ H fun vs H1=>∃a b,vs=[.ref a,.ref b]∧(∃xs,dQ K H1 a xs)∧(∃ys,dQ K H1 b ys)∧R (NV K a b) H1
noncomputable def FM(K:W.Frag)(ta:TA):TI:=fun σ H R=>ta σ H fun vs H1=>∃a,vs=[.ref a]∧(∃xs,dQ K H1 a xs)∧R (JE K a) H1
theorem Ak:bootBuiltins "zip"=some (.type "zip"):=by decide+kernel
theorem n8:bootBuiltins "enumerate"=some (.type "enumerate"):=by decide+kernel
theorem Hd{elts:List Expr}{k:Nat}{tpos:Pos}{a b:Expr}{ta:TA}{p pos:Pos}(hg:Gl X "zip")(hm:X.mg "zip"=none)(ha:PA X [a,b] ta)(hs:starEach [a,b] X.env=[(false,eval a X.env),(false,eval b X.env)]:=by rfl)(hs2:starEach [b] X.env=[(false,eval b X.env)]:=by rfl):
 PI X (.Tuple elts k tpos) (.Call (.Name "zip" p) [a,b] [] pos) (Nh X.K ta):=by
 intro pins s σ H R I h
 refine Call_ (jc I hg hm Ak (PyProof.Rows.callWith_type1 (bH (ha pos pins s σ H _ I h) fun us s1 ⟨vs,H1,I1,r1,q1⟩=> ?_) (by rw [hs,hs2]) (by rw [hs2];rfl)))
 obtain⟨l1,l2,e,⟨xs,hx⟩,⟨ys,hy⟩,q⟩:=q1
 subst e
 obtain⟨u1,u2,rfl,ru1,ru2⟩:=r1.two
 cases ru1
 cases ru2
 obtain⟨its1,rv1,p1,_⟩:=I1.list hx
 obtain⟨its2,rv2,p2,_⟩:=I1.list hy
 refine call_zip_2 p1.isList p2.isList fun h' a1 a2 a3 a4 a5 a6 kp=>wpAny_pyIter_zip a1 ?_
 refine⟨s1.heap.objs.size+4,[s1.heap.objs.size+4,s1.heap.objs.size+2,s1.heap.objs.size+3,s1.heap.objs.size,s1.heap.objs.size+1],_,_,H1,rfl,I1.kept (t':=s1.toks) kp,AA (z:=s1.heap.objs.size+4) (TI:=s1.heap.objs.size+2) (TO:=s1.heap.objs.size+3) (i1:=s1.heap.objs.size) (i2:=s1.heap.objs.size+1) (iF (by omega)) (iF (by omega)) (iF (by omega)) (iF (by omega)) (iF (by omega)) (iF (by omega)),⟨a1,a2,⟨_,_,a3⟩,a4,a5⟩,fun b hb=> ?_,q⟩
 have hb':s1.heap.objs.size≤b:=by
  simp only [fY,List.not_mem_nil,or_false]at hb
  rcases hb with rfl|rfl|rfl|rfl|rfl<;>lia
 exact I1.tW hb' (I1.hok.fresh hb')
theorem ym{elts:List Expr}{k:Nat}{tpos:Pos}{a:Expr}{ta:TA}{p pos:Pos}(hg:Gl X "enumerate")(hm:X.mg "enumerate"=none)(ha:PA X [a] ta)(hs:starEach [a] X.env=[(false,eval a X.env)]:=by rfl):
 PI X (.Tuple elts k tpos) (.Call (.Name "enumerate" p) [a] [] pos) (FM X.K ta):=by
 intro pins s σ H R I h
 refine Call_ (jc I hg hm n8 (PyProof.Rows.callWith_type1 (bH (ha pos pins s σ H _ I h) fun us s1 ⟨vs,H1,I1,r1,q1⟩=> ?_) hs rfl))
 obtain⟨l1,e,⟨xs,hx⟩,q⟩:=q1
 subst e
 obtain⟨u1,rfl,ru1⟩:=r1.one
 cases ru1
 obtain⟨its1,rv1,p1,_⟩:=I1.list hx
 refine call_enumerate_list p1.isList fun h' a1 a2 a3 kp=>wpAny_pyIter_enum a1 ?_
 refine⟨s1.heap.objs.size+1,[s1.heap.objs.size+1,s1.heap.objs.size],_,_,H1,rfl,I1.kept (t':=s1.toks) kp,ze (e:=s1.heap.objs.size+1) (it:=s1.heap.objs.size) (iF (by lia)),⟨⟨_,a1⟩,a2⟩,fun b hb=> ?_,q⟩
 have hb':s1.heap.objs.size≤b:=by
  simp only [fY,List.not_mem_nil,or_false]at hb
  rcases hb with rfl|rfl<;>lia
 exact I1.tW hb' (I1.hok.fresh hb')
end
theorem B5{K:W.Frag}{l:Addr}{xs:List V}{g:TG}{tb:TS}{D:Ends}{σ:St}{H:Hp}(Pv:Nat→St→Hp→Prop)(h0:Pv 0 σ H)(hl:∀i σ H,i≤xs.length→Pv i σ H→dQ K H l xs)
 (hs:∀(i:Nat) x p σ H,xs[i]?=some x→Pv i σ H→H p=none→g (.ref p) σ (bp H p (.tup [.int i,x])) fun σ2 H2=>tb {D with nx:=Pv (i+1),ct:=Pv (i+1),bk:=D.nx} σ2 H2)(hd:∀σ H,Pv xs.length σ H→D.nx σ H):
 ∃W:Nat→Nat→St→Hp→Prop,(∃m,W 0 m σ H)∧∀i m σ H,W i m σ H→
  ((JE K l).stop i H∧D.nx σ H)∨((JE K l).go i H∧∃N:St→Hp→Prop,(∀σ' H',N σ' H'→∃m',m'<m∧W (i+1) m' σ' H')∧∀x H',(JE K l).yld i H x H'→g x σ H' fun σ2 H2=>tb {D with nx:=N,ct:=N,bk:=D.nx} σ2 H2):=by
 refine⟨fun i m σ H=>m=xs.length-i∧i≤xs.length∧Pv i σ H,⟨xs.length,by simp,iQ _,h0⟩,?_⟩
 rintro i m σ H ⟨rfl,hi,p⟩
 have q1:=hl i σ H hi p
 by_cases hlt:i<xs.length
 ·refine .inr ⟨⟨xs,xs[i],q1,by simp [hlt]⟩,Pv (i+1),fun σ' H' p'=>⟨xs.length-(i+1),by lia,rfl,hlt,p'⟩,fun v H' y=> ?_⟩
  obtain⟨a,x,rfl,ha,rfl,y1⟩:=y
  exact hs i x a σ H (y1 xs q1) p ha
 ·have e:i=xs.length:=by lia
  subst e
  exact .inl ⟨⟨xs,q1,dr _⟩,hd σ H p⟩
end L2
end
noncomputable section
namespace L2
open PySem PySem.Spec PySem.SeqAt PyProof.Rows
section
variable{X:Cx}
theorem vI:cz X (.builtin "isinstance") (fun xs H Q=>∃x T t b,xs=[x,.ty T]∧TyOf X.K H x t∧W.kitOne X.K t (.type T)=some b∧Q (.bl b) H):=by
 intro pins s σ H xs us Q I r h
 obtain⟨x,T,t,b,rfl,ty,k,q⟩:=h
 obtain⟨u,v,rfl,ru,rv⟩:=r.two
 cases (show v=Value.type T from rv)
 exact rM I ru ty k fun tk=>⟨.bl b,H,I.tok _,rfl,q⟩
theorem KP(hg:Gl X x)(hm:X.mg x=none)(hv:bootBuiltins x=some (.type T))(hn:x≠"__name__":=by decide)(hd:(x==("__debug__":Str))=false:=by decide):PE X (.Name x pos) (tC (.ty T)):=
 D7 hg hm hv rfl hn hd
theorem lL:cz X (.type "range") (fun xs H Q=>∃j,xs=[.int j]∧∀p,H p=none→Q (.ref p) (bp H p (.rng 0 j))):=by
 intro pins s σ H xs us Q I r h
 obtain⟨j,rfl,q⟩:=h
 obtain⟨u,rfl,ru⟩:=r.one
 obtain⟨t,rfl⟩:=ru
 refine call_range_1 ⟨.ref s.heap.objs.size,_,I.laid (o:=.rng 0 j) (fun b o e=>Heap.get?_push_of_some _ e) (dr _) ⟨_,_,_,Heap.get?_push_size _ rfl⟩,rfl,q _ I.fresh⟩
theorem qQ{lo:Int}:∀(n:Nat) (l:List Value),l.length=n→(∀(j:Nat) (v:Value),l[j]?=some v→∃t,v=Value.int (lo+(j:Int)) t)→aJ ((List.range n).map fun(i:Nat)=>V.int (lo+(i:Int))) l:=by
 intro n
 induction n with
 |zero=>intro l hl _;rw [Ar.mp hl];exact .nil
 |succ n ih=>
  intro l hl h
  obtain⟨l',v,rfl⟩:∃l' v,l=l'++[v]:=by
   rcases List.eq_nil_or_concat l with e|⟨l',v,e⟩
   ·rw [e]at hl;cases hl
   ·exact⟨l',v,by rw [e,List.concat_eq_append]⟩
  have hl':l'.length=n:=by simpa using hl
  rw [List.range_succ,oI]
  refine aJ.append (ih l' hl' fun j w hj=>h j w ?_) (.cons ?_ .nil)
  ·rw [v9]
   ·exact hj
   ·exact(j4.mp hj).1
  ·exact h n v (by rw [←hl'];simp)
theorem ke(hc:X.calm=true):cz X (.type "list") (fun xs H Q=>∃(p:Addr) (lo hi:Int),xs=[.ref p]∧H p=some (.rng lo hi)∧-(2 ^ 62)≤lo∧lo<2 ^ 62∧-(2 ^ 62)≤hi∧hi<2 ^ 62∧(hi-lo).toNat≤2 ^ 24∧
 ∀l,H l=none→Q (.ref l) (bp H l (.lst ((List.range (hi-lo).toNat).map fun(i:Nat)=>V.int (lo+(i:Int)))))):=by
 intro pins s σ H xs us Q I r h
 obtain⟨p,lo,hi,rfl,hp,b1,b2,b3,b4,hz,q⟩:=h
 obtain⟨u,rfl,ru⟩:=r.one
 cases ru
 obtain⟨t,t',t'',e⟩:=(show b8 X.prog X.w H s.heap p (.rng lo hi)from I.hok p _ hp)
 have hsz:Builtin.Range.rangeSize lo hi 1=(((hi-lo).toNat:Nat):Int):=by rw [rangeSize_one];split<;>lia
 refine call_list_range (I.ok.hd hc) e (small_one b1 b2 b3 b4) hsz hz fun h' tk acc' c' hk hS hacc=> ?_
 refine⟨.ref s.heap.objs.size,_,I.laid (o:=.lst ((List.range (hi-lo).toNat).map fun(i:Nat)=>V.int (lo+(i:Int)))) hk (dr _) ⟨?_,acc'.toList,c',?_,by simpa using hS⟩,rfl,q _ I.fresh⟩
 ·rw [b9,sN,sizeLine_eq];lia
 ·refine qQ _ _ (by simpa using hacc.1) fun j v hj=> ?_
  obtain⟨t,rfl⟩:=hacc.2 j v (by simpa using hj)
  exact⟨t,by rw [Int.mul_one]⟩
theorem zq{bs:List Bool}:(List.range bs.length).any (fun i=>bs.getD i false)=bs.any id:=by
 induction bs with
 |nil=>rfl
 |cons b bs ih=>
  rw [gL,List.range_succ_eq_map,List.any_cons,List.any_map,List.any_cons,←ih]
  rfl
theorem zr{bs:List Bool}:(List.range bs.length).all (fun i=>bs.getD i false)=bs.all id:=by
 induction bs with
 |nil=>rfl
 |cons b bs ih=>
  rw [gL,List.range_succ_eq_map,cK,List.all_map,cK,←ih]
  rfl
theorem uK{bs:List Bool}(rv:aJ (bs.map V.bl) az)(A:Around):TruthOf X.prog X.w A (fun i v=>az.toArray[i]?=some v) (fun i=>bs.getD i false):=by
 intro i v s Q E hP hQ
 have hP':az[i]?=some v:=by simpa using hP
 have hi:i<(bs.map V.bl).length:=by rw [rv.length];exact(j4.mp hP').1
 have hi':i<bs.length:=by simpa using hi
 obtain⟨u,hu,ru⟩:=rv.get (i:=i) (x:=V.bl bs[i]) (by simp [hi'])
 rw [hP']at hu
 cases (hu)
 cases (show v=Value.bool bs[i]from ru)
 refine wpAny_truthy_bool ?_
 have e:bs.getD i false=bs[i]:=by simp [hi']
 rw [←e]
 exact hQ
theorem vJ(hc:X.calm=true):cz X (.builtin "any") (fun xs H Q=>∃(p:Addr) (bs:List Bool),xs=[.ref p]∧dQ X.K H p (bs.map V.bl)∧Q (.bl (bs.any id)) H):=by
 intro pins s σ H xs us Q I r h
 obtain⟨p,bs,rfl,hq,q⟩:=h
 obtain⟨u,rfl,ru⟩:=r.one
 cases ru
 obtain⟨az,rv,pl,hz⟩:=I.list hq
 obtain⟨ol,el,cl,_⟩:=pl.isList
 refine call_any_walk (wpAny_pyIter_list pl.isList ?_)
 refine⟨_,_,_,_,_,_,_,rfl,Walks.list (A:=X.A.in1) (I.ok.hd hc) s.heap.objs.size p (fu (Heap.lt_size el)) az.toArray,⟨⟨_,Heap.get?_push_size _ rfl,rfl,rfl⟩,pl.isList.push _⟩,uK rv _,fun h' tk hk=> ?_⟩
 refine⟨.bl _,H,I.kept fun b o e=>hk b o (fun z=>fu (Heap.lt_size e) (by simpa using z)) (Heap.get?_push_of_some _ e),rfl,?_⟩
 have e:az.toArray.size=bs.length:=by rw [iR,←rv.length,b9]
 rw [e,zq]
 exact q
theorem nh(hc:X.calm=true):cz X (.builtin "all") (fun xs H Q=>∃(p:Addr) (bs:List Bool),xs=[.ref p]∧dQ X.K H p (bs.map V.bl)∧Q (.bl (bs.all id)) H):=by
 intro pins s σ H xs us Q I r h
 obtain⟨p,bs,rfl,hq,q⟩:=h
 obtain⟨u,rfl,ru⟩:=r.one
 cases ru
 obtain⟨az,rv,pl,hz⟩:=I.list hq
 obtain⟨ol,el,cl,_⟩:=pl.isList
 refine call_all_walk (wpAny_pyIter_list pl.isList ?_)
 refine⟨_,_,_,_,_,_,_,rfl,Walks.list (A:=X.A.in1) (I.ok.hd hc) s.heap.objs.size p (fu (Heap.lt_size el)) az.toArray,⟨⟨_,Heap.get?_push_size _ rfl,rfl,rfl⟩,pl.isList.push _⟩,uK rv _,fun h' tk hk=> ?_⟩
 refine⟨.bl _,H,I.kept fun b o e=>hk b o (fun z=>fu (Heap.lt_size e) (by simpa using z)) (Heap.get?_push_of_some _ e),rfl,?_⟩
 have e:az.toArray.size=bs.length:=by rw [iR,←rv.length,b9]
 rw [e,zr]
 exact q
theorem hW:cz X (.builtin "sorted") (fun xs H Q=>∃(p:Addr) (ns:List Int),xs=[.ref p]∧dQ X.K H p (ns.map V.int)∧ns.length<64∧∀(l:Addr) (ms:List Int),H l=none→ms.Perm ns→ms.Pairwise (· ≤·)→Q (.ref l) (bp H l (.lst (ms.map V.int)))):=by
 intro pins s σ H xs us Q I r h
 obtain⟨p,ns,rfl,hq,hlt,q⟩:=h
 obtain⟨u,rfl,ru⟩:=r.one
 cases ru
 obtain⟨az,rv,pl,hz⟩:=I.list hq
 have hl:az.length=ns.length:=by rw [←rv.length,b9]
 refine sorted_ints pl.isList (kJ rv) (by lia) fun out ms a1 a2 a3=> ?_
 obtain⟨e,he⟩:=sortedAll_at s.heap az out
 have hfr:H (s.heap.objs.size+1)=none:=I.hok.fresh (jS _)
 refine⟨.ref (s.heap.objs.size+1),_,I.laid (t':=s.toks) (o:=.lst (ms.map V.int)) (fun _ _=>sortedAll_old) (jS _) ⟨?_,out.toList,e,lW a1,by simpa using he⟩,rfl,q _ ms hfr a2 a3⟩
 rw [b9,a2.length_eq,sizeLine_eq];lia
noncomputable def ye:V→List V→Hp→VK→Prop:=fun x vs H Q=>∃(l:Addr) (xs:List V) (i:Int) (y:V),x=.ref l∧vs=[.int i,y]∧H l=some (.lst xs)∧0≤i∧i≤xs.length∧xs.length<sizeLine∧Q .non (bp H l (.lst (xs.take i.toNat++y::xs.drop i.toNat)))
theorem zM:ML X "list.insert" ye:=by
 intro pins s σ H x vs v us Q I rx rv h
 obtain⟨l,xs,i,y,rfl,rfl,hH,h0,hi,hz,q⟩:=h
 cases rx
 obtain⟨u1,u2,rfl,⟨t,ht⟩,ru⟩:=rv.two
 subst ht
 obtain⟨z,az,n,r,hl,e⟩:=I.Er hH
 have fits:¬(!Builtin.List.listFitsIndex i)=true:=by
  have:=ip
  simp [Builtin.List.listFitsIndex]
  lia
 refine call_meets F.slot_list_insert ⟨_,e,rfl⟩ F.entry_list_insert (F.args_list_insert_3 _ _ _) (PySem.AutoListH.list_insert_list_int_val_1 l az.toArray n i t u2 fits (by rw [iR];lia)) ⟨e,?_⟩
 refine⟨.non,_,I.lset (its':=az.take i.toNat++u2::az.drop i.toNat) hH e ?_ ((r.take _).append (.cons ru (r.drop _))) ?_,rfl,q⟩
 ·have h1:¬i<0:=by lia
  have h2:min i.toNat az.length=i.toNat:=by lia
  simp [h1,h2]
  exact List.take_of_length_le (by rw [List.length_drop];exact dr _)
 ·rw [dP,gL,kU,List.length_drop];lia
noncomputable def MP(K:W.Frag)(te ts:TE):TE:=fun σ H Q=>te σ H fun x H1=>ts σ H1 fun k H2=>k=.int (-1)∧∃a xs,x=.ref a∧dQ K H2 a xs∧∀p,H2 p=none→Q (.ref p) (bp H2 p (.lst xs.reverse))
theorem Bn{e st:Expr}{te ts:TE}{p2 pos:Pos}(he:PE X e te)(hst:PE X st ts):PE X (.Subscript e (.Slice none none (some st) p2) pos) (MP X.K te ts):=by
 intro pins s σ H Q I h
 refine Subscript_ (bH (he pins s σ H _ I h) fun v s1 ⟨x,H1,I1,r1,q1⟩=> ?_)
 refine wpAny_Slice ?_
 rw [evalPart_none]
 refine wpAny_pure ?_
 refine wpAny_pure ?_
 rw [evalPart_some]
 refine bH (hst pins s1 σ H1 _ I1 q1) fun vk s2 hp9=> ?_
 obtain⟨k,H2,I2,rk,ek,q2⟩:=hp9
 subst ek
 obtain⟨t,rfl⟩:=rk
 obtain⟨a,xs,rfl,hx,q⟩:=q2
 cases r1
 have I4:Inv X pins σ H2 {s2 with heap:=s2.heap.push {cls:=.type "slice",data:=.fields #[.none,.none,.int (-1) t]}}:=I2.kept (t':=s2.toks) fun b ob q=>Heap.get?_push_of_some _ q
 obtain⟨az,r,ht,hz⟩:=I4.list hx
 have hlen:=r.length
 show wpAny (model X.prog X.w) X.A (subscriptTail e (.Slice none none (some st) p2) (.ref a) (.ref s2.heap.objs.size)) (EP X pins σ Q) X.xe {s2 with heap:=s2.heap.push {cls:=.type "slice",data:=.fields #[.none,.none,.int (-1) t]}}
 refine tail_any (ops:=[.ref a,.ref s2.heap.objs.size]) ht.isList.typeIs slot_list_getitem.lookup ?_ (by with_unfolding_all rfl)
 refine wpAny_getItem_list_slice ht.isList (Heap.IsSliceOf.new ..) .none .none (.int (-1) t) (by simp) ?_ (by rw [List.size_toArray]<;>lia)
 rw [qS]
 refine⟨.ref _,_,I4.laid (t':=s2.toks) (o:=.lst xs.reverse) (fun b ob q=>Heap.get?_push_of_some _ q) (dr _) ?_,rfl,q _ (I4.hok.fresh (dr _))⟩
 exact⟨by rw [v5];exact hz,az.reverse,0,r.reverse,Heap.get?_push_size _ rfl⟩
end
mutual
inductive DV(K:W.Frag)(H:Hp):V→PyData→Prop where
 |non:DV K H .non .none
 |bl (b:Bool):DV K H (.bl b) (.bool b)
 |int (i:Int):DV K H (.int i) (.int i)
 |str (x:Str):DV K H (.str x) (.str x)
 |lst {a:Addr} {xs:List V} {ds:List PyData}:dQ K H a xs→DVs K H xs ds→DV K H (.ref a) (.list ds)
 |tup {a:Addr} {xs:List V} {ds:List PyData}:qM K H a xs→DVs K H xs ds→DV K H (.ref a) (.tuple ds)
inductive DVs(K:W.Frag)(H:Hp):List V→List PyData→Prop where
 |nil:DVs K H [] []
 |cons {x:V} {d:PyData} {xs:List V} {ds:List PyData}:DV K H x d→DVs K H xs ds→DVs K H (x::xs) (d::ds)
end
section
variable{X:Cx}{pins:List (Addr×Obj)}{σ:St}{H:Hp}{s:Shared}
mutual
theorem jl(I:Inv X pins σ H s):∀ {x:V} {d:PyData} {u:Value},DV X.K H x d→aZ x u→∃as,Reads s.heap u d as
 |_,_,u,.non,r=>⟨[],by cases (show u=Value.none from r);exact .none⟩
 |_,_,u,.bl b,r=>⟨[],by cases (show u=Value.bool b from r);exact .bool b⟩
 |_,_,u,.int i,r=>⟨[],by obtain⟨t,rfl⟩:=(show∃t,u=Value.int i t from r);exact .int i t⟩
 |_,_,u,.str x,r=>⟨[],by obtain⟨t,rfl⟩:=(show∃t,u=Value.str x t from r);exact .str x t⟩
 |_,_,u,@DV.lst _ _ a xs ds h hs,r=>by
  cases (show u=Value.ref a from r)
  obtain⟨az,rv,pl,_⟩:=I.list h
  obtain⟨o,ho,hc,n,hd⟩:=pl.isList
  obtain⟨as,ra⟩:=mP I hs rv
  exact⟨a::as,.list ho hc hd (by simpa using ra)⟩
 |_,_,u,@DV.tup _ _ a xs ds h hs,r=>by
  cases (show u=Value.ref a from r)
  obtain⟨az,rv,pl,_⟩:=I.tuple h
  obtain⟨o,ho,hc,n,hd⟩:=pl
  obtain⟨as,ra⟩:=mP I hs rv
  exact⟨as,.tuple ho hc hd (by simpa using ra)⟩
theorem mP(I:Inv X pins σ H s):∀ {xs:List V} {ds:List PyData} {us:List Value},DVs X.K H xs ds→aJ xs us→∃as,ReadsAll s.heap us ds as
 |_,_,_,.nil,.nil=>⟨[],.nil⟩
 |_,_,_,.cons h hs,.cons r rs=>by
  obtain⟨as,ra⟩:=jl I h r
  obtain⟨bs,rb⟩:=mP I hs rs
  exact⟨as++bs,.cons ra rb⟩
end
end
section
variable{X:Cx}
noncomputable def KI(K:W.Frag)(neg:Bool):R2:=fun x y H Q=>∃da db,DV K H x da∧DV K H y db∧shaped da=true∧shaped db=true∧noMix da db=true∧Q (.bl (if neg then !same da db else same da db)) H
theorem Hv(hu:X.A.units+64<cLine):jx X (compareOp .Eq) (KI X.K false):=by
 intro pins s σ H x y v u Q I rx ry h
 obtain⟨da,db,h1,h2,s1,s2,nm,q⟩:=h
 obtain⟨as,ra⟩:=jl I h1 rx
 obtain⟨bs,rb⟩:=jl I h2 ry
 exact eq_dataH_same ra rb s1 s2 hu nm ⟨.bl _,H,I,rfl,q⟩
theorem Hr(hu:X.A.units+64<cLine):jx X (compareOp .NotEq) (KI X.K true):=by
 intro pins s σ H x y v u Q I rx ry h
 obtain⟨da,db,h1,h2,s1,s2,nm,q⟩:=h
 obtain⟨as,ra⟩:=jl I h1 rx
 obtain⟨bs,rb⟩:=jl I h2 ry
 exact ne_dataH_same ra rb s1 s2 hu nm ⟨.bl _,H,I,rfl,q⟩
end
end L2
end
noncomputable section
namespace L2
open PySem PySem.Spec PyProof.Rows
section
variable{X:Cx}
theorem vy:Mo X (zt X.K):=by
 intro pins s σ H o i ov iv Q I ro ri h
 obtain⟨p,xs,k,z,rfl,rfl,hq,he,q⟩:=h
 cases ro
 obtain⟨t,rfl⟩:=ri
 obtain⟨az,r,pl,hz⟩:=I.list hq
 obtain⟨j,h1,h2,h3,h4,h5⟩:=oG he
 obtain⟨w,ew,rw'⟩:=r.get h2
 have hl:=r.length
 have hn:=ip
 have fin:EP X pins σ Q w s:=⟨z,H,I,rw',q⟩
 by_cases h0:0≤k
 ·have hj:k.toNat=j:=by
   rw [seqIndex_of h0 h5]at h1
   exact cC h1
  exact wpAny_getItem_list pl.isList h0 (by lia) (by rw [hj];simpa using ew) fin
 ·have hj:(k+(az.toArray.size:Int)).toNat=j:=by
   rw [seqIndex_neg (by lia) h4]at h1
   rw [iR,←hl]
   exact cC h1
  exact wpAny_getItem_list_neg pl.isList (by lia) (by rw [List.size_toArray]<;>lia) (by lia) (by rw [hj];simpa using ew) fin
end
section
variable{X:Cx}{tg:Expr}
noncomputable def GW(K:W.Frag):V→List V→Hp→VK→Prop:=fun x vs H Q=>∃(l:Addr) (ns:List Int) (k:Int),x=.ref l∧vs=[.int k]∧dQ K H l (ns.map V.int)∧PyData.layable0 (.list (ns.map .int))=true∧k∈ns∧Q (.int (ns.idxOf k:Nat)) H
theorem BF:Jn X "list.index" (GW X.K):=by
 intro pins s σ H x vs v us Q I rx rv h
 obtain⟨l,ns,k,rfl,rfl,hq,hlay,hk,q⟩:=h
 cases rx
 obtain⟨u,rfl,ru⟩:=rv.one
 obtain⟨t,rfl⟩:=ru
 obtain⟨az,rv,pl,hz⟩:=I.list hq
 exact index_list_ints pl.isList (kJ rv) hlay hk ⟨.int _,H,I.tok _,⟨_,rfl⟩,q⟩
noncomputable def NW(K:W.Frag)(a:Addr)(n:Nat):It:=
 ⟨fun i H=>i<n∧∃xs,dQ K H a xs∧xs.length=n,fun i H x H'=>H'=H∧∀xs,dQ K H a xs→xs[n-1-i]?=some x,fun i _=>i=n⟩
theorem AB{P:Program}{w:World}{K:W.Frag}(a it:Addr)(n:Nat):Turn P w K tg (NW K a n) [it] it (fun i h=>i≤n∧h.IsRevIter it a ((n:Int)-1-(i:Nat))) where
 mem:=by simp
 obj:=fun i h st b hb=>by
  rw [show b=it by simpa using hb]
  obtain⟨_,o,e,c,d⟩:=st
  exact⟨o,e,fun v z=>by rw [d]at z;cases z⟩
 keep:=fun i h h' st k=>⟨st.1,st.2.at fun o e=>k it (by simp) o e⟩
 item:=by
  intro X hP hw hK hc i pins s σ H E I hf st hg
  subst hP hw hK
  obtain⟨hi,xs,hq,hn⟩:=hg
  obtain⟨az,rv,p,hz⟩:=I.list hq
  have hx:n-1-i<xs.length:=by lia
  obtain⟨u,hu,ru⟩:=rv.get (jV hx)
  obtain⟨f0,f1,f2,f3,f4,f5⟩:=hf it (by simp)
  have st1:=st.2
  rw [show(n:Int)-1-(i:Nat)=((n-1-i:Nat):Int) by lia]at st1
  refine wpAny_pyNext_rev_item st1 p.isList (x:=u) (by simpa using hu) fun h' st' sb=> ?_
  have I1:Inv X pins σ H {s with heap:=h'}:=I.turned (t':=s.toks) (fun b o hb e=>(sb.2 b hb).trans e) f0 f1 f3 f4 f5
  obtain⟨o,e,c,d⟩:=id st'
  refine⟨u,rfl,yL (s:= {s with heap:=h'}) e c d (by decide) ⟨_,H,I1,ru,⟨rfl,fun ys hy=>by rw [I.i9 hy hq];exact jV hx⟩,⟨hi,?_⟩,fun b hb=>(hf b hb).1⟩⟩
  rw [show(n:Int)-1-((i+1:Nat):Int)=((n-1-i:Nat):Int)-1 by lia]
  exact st'
 done:=by
  intro X hP hw hK hc i pins s σ H E I hf st hg
  subst hP hw hK
  obtain⟨f0,f1,f2,f3,f4,f5⟩:=hf it (by simp)
  have st1:=st.2
  rw [show(n:Int)-1-(i:Nat)=-1 by have:i=n:=hg;lia]at st1
  exact wpAny_pyNext_rev_end (I.ok.hd hc) st1 fun h' eb=>⟨rfl,I.turned (t':=s.toks) (fun b o hb e=>eb b o hb e) f0 f1 f3 f4 f5⟩
 self:=fun _ _ _ _ _ st h=>wpAny_pyIter_revIter st.2 h
noncomputable def Nj(K:W.Frag)(ta:TA):TI:=fun σ H R=>ta σ H fun vs H1=>∃a xs,vs=[.ref a]∧dQ K H1 a xs∧R (NW K a xs.length) H1
theorem q8:bootBuiltins (Str.ofString "reversed")=some (.type "reversed"):=by kernel_rfl
theorem Hf{a:Expr}{ta:TA}{p pos:Pos}(hg:Gl X "reversed")(hm:X.mg "reversed"=none)(ha:PA X [a] ta)(hs:starEach [a] X.env=[(false,eval a X.env)]:=by rfl):PI X tg (.Call (.Name "reversed" p) [a] [] pos) (Nj X.K ta):=by
 intro pins s σ H R I h
 refine Call_ (jc I hg hm q8 (PyProof.Rows.callWith_type1 (bH (ha pos pins s σ H _ I h) fun us s1 ⟨vs,H1,I1,r1,q1⟩=> ?_) hs rfl))
 obtain⟨l,xs,e,hq,q⟩:=q1
 subst e
 obtain⟨u,rfl,ru⟩:=r1.one
 cases ru
 obtain⟨az,rv,pl,hz⟩:=I1.list hq
 refine call_reversed_list pl.isList ?_
 have I2:Inv X pins σ H1 {s1 with heap:=s1.heap.push (revObj l ((az.toArray.size:Int)-1))}:=I1.kept (t':=s1.toks) fun b o e=>Heap.get?_push_of_some _ e
 have st:({s1 with heap:=s1.heap.push (revObj l ((az.toArray.size:Int)-1))}:Shared).heap.IsRevIter s1.heap.objs.size l ((xs.length:Int)-1-(0:Nat)):=⟨_,Heap.get?_push_size _ rfl,rfl,by rw [rv.length];simp [revObj]⟩
 refine wpAny_pyIter_revIter st ⟨s1.heap.objs.size,[s1.heap.objs.size],_,_,H1,rfl,I2,AB l _ xs.length,⟨iQ _,st⟩,fun b hb=> ?_,q⟩
 rw [show b=s1.heap.objs.size by simpa using hb]
 exact I1.tW (dr _) (I1.hok.fresh (dr _))
end
section
variable{prog:Program}{w:World}{A:Around}{R:Result→Shared→Prop}{I S:Addr}{fp wr:List Addr}{n:Nat}{P:Nat→Value→Prop}{St:Nat→Heap→Prop}{bt:Nat→Nat→Bool}{d:Value}
end
section
variable{prog:Program}{w:World}{A:Around}{E:Value→Shared→Prop}{s:Shared}
end
section
variable{κ:Type}[DecidableEq κ]
noncomputable def lh(kvs:List (κ×V))(k:κ):Option V:=(kvs.find? fun kv=>decide (kv.1=k)).map (·.2)
noncomputable def sU(kvs:List (κ×V))(k:κ)(v:V):List (κ×V):=
 if(kvs.any fun kv=>decide (kv.1=k))=true then kvs.map (fun kv=>if kv.1=k then(kv.1,v)else kv)else kvs++[(k,v)]
theorem oM{p:κ×V}(e:p.1=k):lh (p::r) k=some p.2:=by simp [lh,List.find?_cons,e]
theorem oN{p:κ×V}(e:¬p.1=k):lh (p::r) k=lh r k:=by simp [lh,List.find?_cons,e]
theorem uI(k:κ):∀kvs:List (κ×V),(kvs.any fun kv=>decide (kv.1=k))=(lh kvs k).isSome
 |[]=>rfl
 |p::r=>by
  rw [List.any_cons]
  by_cases e:p.1=k
  ·simp only [oM e,de e,Bool.true_or,Option.isSome_some]
  ·rw [oN e,eC e,Bool.false_or];exact uI k r
theorem Be{kvs:List (κ×V)}{k:κ}(v:V)(h:lh kvs k=none):sU kvs k v=kvs++[(k,v)]:=by
 unfold sU
 rw [uI,h]
 exact aK (by decide)
theorem vp(kvs:List (κ×V))(k:κ)(v:V):(sU kvs k v).length≤kvs.length+1:=by
 unfold sU
 split
 ·rw [b9];lia
 ·rw [dP,gL,Gj];lia
theorem lR.rO(r:lR o u):o.isSome=u.isSome:=by
 cases o with
 |none=>cases u with
  |none=>rfl
  |some _=>exact(show False from r).elim
 |some _=>cases u with
  |none=>exact(show False from r).elim
  |some _=>rfl
theorem KV.val(r:KV kvs vs)(k:κ):lR (lh kvs k) (valueAt vs k):=by
 unfold KV at r
 induction r with
 |nil=>exact True.intro
 | @cons p q ps qs h t ih=>
   obtain⟨h1,h2⟩:=h
   by_cases e:p.1=k
   ·have e':q.1=k:=h1.symm.trans e
    have b:valueAt (q::qs) k=some q.2:=by simp [valueAt,List.find?_cons,e']
    rw [oM e,b];exact h2
   ·have e':¬q.1=k:=fun z=>e (h1.trans z)
    have b:valueAt (q::qs) k=valueAt qs k:=by simp [valueAt,List.find?_cons,e']
    rw [oN e,b];exact ih
theorem KV.any(r:KV kvs vs)(k:κ):(kvs.any fun kv=>decide (kv.1=k))=vs.any fun kv=>decide (kv.1=k):=by
 unfold KV at r
 induction r with
 |nil=>rfl
 |cons h t ih=>rw [List.any_cons,List.any_cons,ih,h.1]
theorem KV.MZ(r:KV kvs vs)(k:κ)(ry:aZ y u):
 KV (kvs.map fun kv=>if kv.1=k then(kv.1,y)else kv) (vs.map fun kv=>if kv.1=k then(kv.1,u)else kv):=by
 unfold KV at r⊢
 induction r with
 |nil=>exact .nil
 | @cons p q ps qs h t ih=>
   rw [lV,lV]
   refine .cons ?_ ih
   obtain⟨h1,h2⟩:=h
   by_cases e:p.1=k
   ·rw [aF e,aF (h1.symm.trans e)];exact⟨h1,ry⟩
   ·rw [aK e,aK (fun z=>e (h1.trans z))];exact⟨h1,h2⟩
theorem KV.put(r:KV kvs vs)(k:κ)(ry:aZ y u):KV (sU kvs k y) (stored vs k u):=by
 unfold sU stored
 rw [r.any k]
 by_cases e:(vs.any fun kv=>decide (kv.1=k))=true
 ·rw [aF e,aF e];exact r.MZ k ry
 ·rw [aK e,aK e];exact Paired.snoc r ⟨rfl,ry⟩
theorem KV.length(r:KV kvs vs):kvs.length=vs.length:=Paired.length r
end
theorem yF(r:aZ (kV k) u):(eY P w).is k u=true:=by
 cases k with
 |inl i=>obtain⟨t,e⟩:=(show∃t,u=Value.int i t from r);subst e;exact vm P w i t
 |inr x=>obtain⟨t,e⟩:=(show∃t,u=Value.str x t from r);subst e;exact vj P w x t
section
variable{P:Program}{w:World}{H:Hp}{h:Heap}{a:Addr}
theorem KG(ok:mU P w H h)(e:Rd H a u):b8 P w H h a u:=e.ok ok
theorem yV(ok:mU P w H h)(e:Rd H a (.dK kvs)):kvs.length≤sizeLine∧(a==sysModules)=false∧∃vs,KV kvs vs∧h.DictOf (eY P w) a vs:=
 show b8 P w H h a (.dK kvs)from KG ok e
theorem LQ(ok:mU P w H h)(e:H a=some (.dK kvs)):kvs.length≤sizeLine∧(a==sysModules)=false∧∃vs,KV kvs vs∧h.DictOf (eY P w) a vs:=yV ok (.inl e)
end
section
variable{X:Cx}{pins:List (Addr×Obj)}{σ:St}{H:Hp}{s:Shared}{a:Addr}{y v:V}{u r:Value}{o:Option V}{A:Around}{E:Value→Shared→Prop}
theorem Inv.big(I:Inv X pins σ H s):sysModules<s.heap.objs.size:=by
 have h:mainGlobals<s.heap.objs.size:=(I.mod.glob.keeps I.bk).lt
 exact Nat.lt_trans (by decide) h
theorem EV(I:Inv X pins σ H s)(mu:Mp (H a))(hs:Heap.SameBut a s.heap h')(he:∃q,h'.get? a=some q)(new:b8 X.prog X.w (bp H a ob) h' a ob):
 Inv X pins σ (bp H a ob) {s with heap:=h',toks:=t'}:=
 I.write (x:=a) (e:=a) mu (.inl rfl) (fun b q hb z=>(hs.2 b hb).trans z) he new
theorem Iv{h':Heap}{kvs:List (qN×V)}(z:kvs.length≤sizeLine)(hd:(a==sysModules)=false)(rel:KV kvs vs)(dd:h'.DictOf (eY P w) a vs):
 b8 P w H' h' a (.dK kvs):=⟨z,hd,vs,rel,dd⟩
theorem Ck(h:Heap)(hb:sysModules<h.objs.size):b8 P w H (h.push {cls:=.type "dict",data:=.dict #[]}) h.objs.size (.dK []):=
 ⟨iQ _,beq_eq_false_iff_ne.mpr (Ne.symm (fu hb)),[],.nil,Heap.DictOf.new h⟩
noncomputable def AM:TE:=fun _ H Q=>∀p,H p=none→Q (.ref p) (bp H p (.dK []))
end
section
variable{X:Cx}{pos:Pos}
theorem Bv:PE X (.Dict [] [] pos) AM:=fun pins s σ H Q I h=>
 wpAny_Dict_empty ⟨.ref s.heap.objs.size,_,I.laid (a:=s.heap.objs.size) (o:=.dK []) (t':=s.toks) (fun _ _ q=>Heap.get?_push_of_some _ q) (dr _) (Ck s.heap I.big),rfl,h _ (I.hok.fresh (dr _))⟩
end
section
variable{X:Cx}
theorem BA:jx X (compareOp .In) (fun x y H Q=>∃i a kvs,x=.int i∧y=.ref a∧Rd H a (.dK kvs)∧Q (.bl (lh kvs (Sum.inl i)).isSome) H):=by
 intro pins s σ H x y v u Q I rx ry h
 obtain⟨i,a,kvs,rfl,rfl,e,q⟩:=h
 obtain rfl:u=Value.ref a:=ry
 obtain⟨z,hd,vs,rel,dd⟩:=yV I.hok e
 refine wpAny_in_of (yF (k:=Sum.inl i) rx) hd dd.mapOf ?_
 rw [←(rel.val _).rO]
 exact⟨.bl _,H,I.tok _,rfl,q⟩
theorem va:jx X (compareOp .NotIn) (fun x y H Q=>∃i a kvs,x=.int i∧y=.ref a∧Rd H a (.dK kvs)∧Q (.bl (!(lh kvs (Sum.inl i)).isSome)) H):=by
 intro pins s σ H x y v u Q I rx ry h
 obtain⟨i,a,kvs,rfl,rfl,e,q⟩:=h
 obtain rfl:u=Value.ref a:=ry
 obtain⟨z,hd,vs,rel,dd⟩:=yV I.hok e
 refine wpAny_notIn_of (yF (k:=Sum.inl i) rx) hd dd.mapOf ?_
 rw [←(rel.val _).rO]
 exact⟨.bl _,H,I.tok _,rfl,q⟩
theorem Ll:JD X (fun x y H Q=>∃a i kvs v,x=.ref a∧y=.int i∧Rd H a (.dK kvs)∧lh kvs (Sum.inl i)=some v∧Q v H):=by
 intro value slice pins s σ H x y v u Q I rx ry h hs
 obtain⟨a,i,kvs,z,rfl,rfl,e,l,q⟩:=h
 obtain rfl:v=Value.ref a:=rx
 obtain⟨_,hd,vs,rel,dd⟩:=yV I.hok e
 obtain⟨w',hw,rw'⟩:=lR.some_of (v:=z) (o:=valueAt vs (Sum.inl i)) (by rw [←l];exact rel.val _)
 exact tail_any dd.typeIs PySem.F.slot_dict_getitem.lookup (wpAny_getItem_of (yF (k:=Sum.inl i) ry) dd.mapOf hw ⟨z,H,I.tok _,rw',q⟩) hs
noncomputable def A7(td ty tv:TE):TS:=fun D σ H=>tv σ H fun v H1=>td σ H1 fun x H2=>ty σ H2 fun y H3=>∃a i kvs,x=.ref a∧y=.int i∧H3 a=some (.dK kvs)∧kvs.length<sizeLine∧D.nx σ (bp H3 a (.dK (sU kvs (Sum.inl i) v)))
theorem Bk{pos:Pos}(ho:PE X o td)(hi:PE X i ty)(hv:PE X value tv)(hs:swapsWith value (some (.Subscript o i pos')) pos.line X.env=pure false):
 PS X (.Assign [.Subscript o i pos'] value pos) (A7 td ty tv):=by
 intro pins s σ H D I h
 refine wpAny_Assign_Subscript (bH (hv pins s σ H _ I h) fun r s1 ⟨v,H1,I1,rv,q1⟩=>bH (ho pins s1 σ H1 _ I1 q1) fun u s2 ⟨x,H2,I2,rx,q2⟩=>bH (hi pins s2 σ H2 _ I2 q2) fun iv s3 ⟨y,H3,I3,ry,a,i,kvs,ex,ey,e,l,q3⟩=> ?_) hs
 subst ex ey
 obtain rfl:u=Value.ref a:=rx
 obtain⟨z,hd,vs,rel,dd⟩:=LQ I3.hok e
 have hz:vs.length≤sizeLine:=by rw [←rel.length];exact z
 have hl:(sU kvs (Sum.inl i:qN) v).length≤sizeLine:=by have:=vp kvs (Sum.inl i:qN) v;lia
 refine wpAny_setItem_pairs (hsz:=hz) (yF (k:=Sum.inl i) ry) dd fun h' dd' hs=> ?_
 have he:∃q,h'.get? a=some q:=let ⟨q,_,_,hq,_⟩:=dd';⟨q,hq⟩
 exact⟨σ,_,EV I3 (by rw [e];exact True.intro) hs he (Iv hl hd (rel.put (Sum.inl i) rv) dd'),q3⟩
theorem El:Jn X "int.bit_length" (fun x xs H Q=>∃i,x=.int i∧xs=[]∧Q (.int (Builtin.Int.intBits i:Nat)) H):=by
 intro pins s σ H x xs v us Q I rx rs h
 obtain⟨i,rfl,rfl,q⟩:=h
 cases rs
 obtain⟨t,rfl⟩:=rx
 exact call_int_bit_length ⟨.int _,H,I.tok _,⟨_,rfl⟩,q⟩
end
end L2
end
noncomputable section
namespace MI
open PySem L2
inductive D where
 |non|bl(b:Bool)|int(i:Int)|str(x:Str)
 |lst(l:List D)|tup(l:List D)
 |ins(c:Nat)(ks:List Str)(ds:List D)
 |dic(kvs:List (Int×Int))
 deriving Inhabited
def RL(K:W.Frag)(H:Hp)(a:Addr)(xs:List V):Prop:=
 Rd H a (.lst xs)∨∃(az:Array Value) (n:Nat),K.lookup a=some {cls:=.type "list",data:=.seq az n}∧az.size≤sizeLine∧aJ xs az.toList
theorem DA(e:aG H H')(h:Rd H a u):Rd H' a u:=by
 rcases h with h|⟨o,h⟩
 ·exact .inl (e _ _ h)
 ·exact .inr ⟨o,e _ _ h⟩
theorem aC(e:aG H H')(h:RL K H a xs):RL K H' a xs:=by
 rcases h with h|h
 ·exact .inl (DA e h)
 ·exact .inr h
theorem RL.jX(h:RL K H a xs):dQ K H a xs:=by
 rcases h with h|⟨az,n,h1,h2,h3⟩
 ·exact .inl h
 ·exact .inr ⟨_,az,n,h1,rfl,rfl,rfl,h2,h3⟩
theorem RL.of{H:Hp}(h:H a=some (.lst xs)):RL K H a xs:=.inl (.inl h)
noncomputable def C6(kvs:List (Int×Int)):List (qN×V):=kvs.map fun p=>(Sum.inl p.1,V.int p.2)
mutual
inductive Dn(K:W.Frag)(cl:Nat→Option Addr)(G:Hp):V→D→Prop where
 |non:Dn K cl G .non .non
 |bl (b:Bool):Dn K cl G (.bl b) (.bl b)
 |int (i:Int):Dn K cl G (.int i) (.int i)
 |str (x:Str):Dn K cl G (.str x) (.str x)
 |lst {a:Addr} {xs:List V} {ds:List D}:RL K G a xs→Dns K cl G xs ds→Dn K cl G (.ref a) (.lst ds)
 |tup {a:Addr} {xs:List V} {ds:List D}:G a=some (.tup xs)→Dns K cl G xs ds→Dn K cl G (.ref a) (.tup ds)
 |ins {a C dx:Addr} {c:Nat} {ks:List Str} {vfs:List (Str×V)} {ds:List D}:G a=some (.ins C dx vfs)→cl c=some C→vfs.map (·.1)=ks→Dns K cl G (vfs.map (·.2)) ds→Dn K cl G (.ref a) (.ins c ks ds)
 |dic {a:Addr} {kvs:List (Int×Int)}:G a=some (.dK (C6 kvs))→Dn K cl G (.ref a) (.dic kvs)
inductive Dns(K:W.Frag)(cl:Nat→Option Addr)(G:Hp):List V→List D→Prop where
 |nil:Dns K cl G [] []
 |cons {x:V} {d:D} {xs:List V} {ds:List D}:Dn K cl G x d→Dns K cl G xs ds→Dns K cl G (x::xs) (d::ds)
end
section
variable{K:W.Frag}{cl:Nat→Option Addr}{G G' H:Hp}
mutual
theorem Dn.mono(e:aG G G'):∀ {v:V} {d:D},Dn K cl G v d→Dn K cl G' v d
 |_,_,.non=> .non
 |_,_,.bl b=> .bl b
 |_,_,.int i=> .int i
 |_,_,.str x=> .str x
 |_,_,.lst h hs=> .lst (aC e h) (Dns.mono e hs)
 |_,_,.tup h hs=> .tup (e _ _ h) (Dns.mono e hs)
 |_,_,.ins h hc hk hs=> .ins (e _ _ h) hc hk (Dns.mono e hs)
 |_,_,.dic h=> .dic (e _ _ h)
theorem Dns.mono(e:aG G G'):∀ {vs:List V} {ds:List D},Dns K cl G vs ds→Dns K cl G' vs ds
 |_,_,.nil=> .nil
 |_,_,.cons h hs=> .cons (Dn.mono e h) (Dns.mono e hs)
end
theorem Dns.length(h:Dns K cl G vs ds):vs.length=ds.length:=by
 induction ds generalizing vs with
 |nil=>cases h;rfl
 |cons d r ih=>cases h with|cons a t=>rw [gL,gL,ih t]
theorem Dns.get:∀ {vs:List V} {ds:List D} {i:Nat} {d:D},Dns K cl G vs ds→ds[i]?=some d→∃v,vs[i]?=some v∧Dn K cl G v d
 |_,_,_,_,.nil,h=>by simp at h
 |_,_,0,_,.cons h _,e=>by simp at e;subst e;exact⟨_,rfl,h⟩
 |_,_,i+1,d,.cons _ t,e=>by
  obtain⟨u,h1,h2⟩:=Dns.get (i:=i) (d:=d) t (by simpa using e)
  exact⟨u,by simpa using h1,h2⟩
theorem Dns.append:∀ {xs ys:List V} {us ws:List D},Dns K cl G xs us→Dns K cl G ys ws→Dns K cl G (xs++ys) (us++ws)
 |_,_,_,_,.nil,s=>s
 |_,_,_,_,.cons r t,s=> .cons r (Dns.append t s)
theorem Dns.take:∀ {xs:List V} {us:List D} (n:Nat),Dns K cl G xs us→Dns K cl G (xs.take n) (us.take n)
 |_,_,0,_=> .nil
 |_,_,_+1,.nil=> .nil
 |_,_,n+1,.cons r t=> .cons r (Dns.take n t)
theorem Dns.drop:∀ {xs:List V} {us:List D} (n:Nat),Dns K cl G xs us→Dns K cl G (xs.drop n) (us.drop n)
 |_,_,0,r=>r
 |_,_,_+1,.nil=> .nil
 |_,_,n+1,.cons _ t=>Dns.drop n t
theorem Dns.reverse(h:Dns K cl G xs us):Dns K cl G xs.reverse us.reverse:=by
 induction xs generalizing us with
 |nil=>cases h;exact .nil
 |cons x xs ih=>
  cases h with
  |cons a t=>rw [List.reverse_cons,List.reverse_cons];exact(ih t).append (.cons a .nil)
theorem Dns.rep(h:Dns K cl G xs us):∀k:Nat,Dns K cl G (List.replicate k xs).flatten (List.replicate k us).flatten
 |0=> .nil
 |k+1=>by rw [sJ,sJ,jT,jT];exact h.append (Dns.rep h k)
theorem hR:∀ns:List Int,Dns K cl G (ns.map V.int) (ns.map D.int)
 |[]=> .nil
 |n::r=> .cons (.int n) (hR r)
end
noncomputable def cQ:List D→Option (List Int)
 |[]=>some []
 | .int i::r=>(cQ r).map (i::·)
 |_=>none
noncomputable def qt:List D→Option (List Bool)
 |[]=>some []
 | .bl i::r=>(qt r).map (i::·)
 |_=>none
theorem jJ(ns:List Int):cQ (ns.map D.int)=some ns:=by
 induction ns with
 |nil=>rfl
 |cons n r ih=>show(cQ (r.map D.int)).map (n::·)=_;rw [ih];rfl
theorem qr(ns:List Bool):qt (ns.map D.bl)=some ns:=by
 induction ns with
 |nil=>rfl
 |cons n r ih=>show(qt (r.map D.bl)).map (n::·)=_;rw [ih];rfl
theorem g0:∀ {l:List D} {ns:List Int},cQ l=some ns→l=ns.map D.int
 |[],ns,h=>by cases h;rfl
 |d::r,ns,h=>by
  cases d with
  |int i=>
   have h':(cQ r).map (i::·)=some ns:=h
   cases e:cQ r with
   |none=>rw [e]at h';cases h'
   |some ms=>rw [e]at h';cases h';rw [g0 e];rfl
  |_=>cases h
theorem uq:∀ {l:List D} {ns:List Bool},qt l=some ns→l=ns.map D.bl
 |[],ns,h=>by cases h;rfl
 |d::r,ns,h=>by
  cases d with
  |bl i=>
   have h':(qt r).map (i::·)=some ns:=h
   cases e:qt r with
   |none=>rw [e]at h';cases h'
   |some ms=>rw [e]at h';cases h';rw [uq e];rfl
  |_=>cases h
section
variable{K:W.Frag}{cl:Nat→Option Addr}{G:Hp}
theorem Dns.ints{ns:List Int}(h:Dns K cl G vs (ns.map D.int)):vs=ns.map V.int:=by
 induction ns generalizing vs with
 |nil=>cases h;rfl
 |cons n r ih=>cases h with|cons a t=>cases a;rw [ih t];rfl
theorem Dns.OC{ns:List Bool}(h:Dns K cl G vs (ns.map D.bl)):vs=ns.map V.bl:=by
 induction ns generalizing vs with
 |nil=>cases h;rfl
 |cons n r ih=>cases h with|cons a t=>cases a;rw [ih t];rfl
end
mutual
noncomputable def kn:D→Option PyData
 | .non=>some .none
 | .bl b=>some (.bool b)
 | .int i=>some (.int i)
 | .str x=>some (.str x)
 | .lst l=>(gc l).map .list
 | .tup l=>(gc l).map .tuple
 | .ins _ _ _=>none
 | .dic _=>none
noncomputable def gc:List D→Option (List PyData)
 |[]=>some []
 |d::r=>match kn d,gc r with
  |some x,some y=>some (x::y)
  |_,_=>none
end
noncomputable def xF(a b:D):Option Bool:=match kn a,kn b with
 |some x,some y=>if PySem.SeqAt.shaped x&&PySem.SeqAt.shaped y&&PySem.SeqAt.noMix x y then some (PySem.Spec.same x y)else none
 |_,_=>none
section
variable{K:W.Frag}{cl:Nat→Option Addr}{G:Hp}
mutual
theorem Dn.py:∀ {v:V} {d:D} {x:PyData},Dn K cl G v d→kn d=some x→L2.DV K G v x
 |_,_,_,.non,h=>by cases h;exact .non
 |_,_,_,.bl b,h=>by cases h;exact .bl b
 |_,_,_,.int i,h=>by cases h;exact .int i
 |_,_,_,.str y,h=>by cases h;exact .str y
 |_,_,x,@Dn.lst _ _ _ a xs ds h hs,e=>by
  have e':(gc ds).map PyData.list=some x:=by simpa [kn]using e
  cases q:gc ds with
  |none=>rw [q]at e';cases e'
  |some y=>rw [q]at e';cases e';exact .lst h.jX (Dns.py hs q)
 |_,_,x,@Dn.tup _ _ _ a xs ds h hs,e=>by
  have e':(gc ds).map PyData.tuple=some x:=by simpa [kn]using e
  cases q:gc ds with
  |none=>rw [q]at e';cases e'
  |some y=>rw [q]at e';cases e';exact .tup (.inl (.inl h)) (Dns.py hs q)
 |_,_,_,.ins _ _ _ _,h=>by simp [kn]at h
 |_,_,_,.dic _,h=>by simp [kn]at h
theorem Dns.py:∀ {vs:List V} {ds:List D} {x:List PyData},Dns K cl G vs ds→gc ds=some x→L2.DVs K G vs x
 |_,_,_,.nil,h=>by cases h;exact .nil
 |_,_,x,@Dns.cons _ _ _ v d vs ds h hs,e=>by
  have e':(match kn d,gc ds with|some x,some y=>some (x::y)|_,_=>none)=some x:=by simpa [gc]using e
  cases q1:kn d with
  |none=>rw [q1]at e';cases e'
  |some y=>
   cases q2:gc ds with
   |none=>rw [q1,q2]at e';cases e'
   |some z=>rw [q1,q2]at e';cases e';exact .cons (Dn.py h q1) (Dns.py hs q2)
end
end
structure Ext(H G H' G':Hp):Prop where
 hh:aG H H'
 gg:aG G G'
 gh:aG G' H'
 nw:∀b o,G' b=some o→G b=none→H b=none
section
variable{H G H' G' H2 G2:Hp}
theorem Ext.refl(h:aG G H):Ext H G H G:=⟨.refl _,.refl _,h,fun b o h1 h2=>by rw [h1]at h2;cases h2⟩
theorem Ext.trans(a:Ext H G H' G')(b:Ext H' G' H2 G2):Ext H G H2 G2:=
 ⟨a.hh.trans b.hh,a.gg.trans b.gg,b.gh,fun c o h1 h2=>by
   cases q:G' c with
   |some u=>exact a.nw c u q h2
   |none=>exact a.hh.free (b.nw c o h1 q)⟩
theorem aO{H:Hp}(h:H p=none)(o:HO):aG H (bp H p o):=fun b u q=>by rw [ag (aD q h)];exact q
theorem Ext.new(h:aG G H)(hp:H p=none)(o:HO):Ext H G (bp H p o) (bp G p o):=
 ⟨aO hp o,aO (h.free hp) o,fun b u q=>by
  by_cases e:b=p
  ·subst e;rw [ak]at q⊢;exact q
  ·rw [ag e]at q⊢;exact h _ _ q,fun b u q n=>by
  by_cases e:b=p
  ·subst e;exact hp
  ·rw [ag e]at q;rw [q]at n;cases n⟩
theorem Ext.HB(h:aG G H)(hp:H p=none)(o:HO):Ext H G (bp H p o) G:=
 ⟨aO hp o,.refl _,h.trans (aO hp o),fun b u q n=>by rw [q]at n;cases n⟩
end
inductive rD(K:W.Frag)(cl:Nat→Option Addr)(g:D→D→Option D)(v:V)(u:V)(H:Hp)(Q:VK):Prop where
 |mk (G:Hp) (x:D) (y:D) (d:D):(aG G H)→(Dn K cl G v x)→(Dn K cl G u y)→(g x y=some d)→(∀z H' G',Ext H G H' G'→Dn K cl G' z d→Q z H')→rD K cl g v u H Q
inductive rD1(K:W.Frag)(cl:Nat→Option Addr)(g:D→Option D)(v:V)(H:Hp)(Q:VK):Prop where
 |mk (G:Hp) (x:D) (d:D):(aG G H)→(Dn K cl G v x)→(g x=some d)→(∀z H' G',Ext H G H' G'→Dn K cl G' z d→Q z H')→rD1 K cl g v H Q
inductive rDs(K:W.Frag)(cl:Nat→Option Addr)(g:List D→Option D)(vs:List V)(H:Hp)(Q:VK):Prop where
 |mk (G:Hp) (xs:List D) (d:D):(aG G H)→(Dns K cl G vs xs)→(g xs=some d)→(∀z H' G',Ext H G H' G'→Dn K cl G' z d→Q z H')→rDs K cl g vs H Q
section
variable{X:Cx}{pins:List (Addr×Obj)}{σ:St}{H:Hp}{s:Shared}
theorem oZ(I:Inv X pins σ H s)(h:RL X.K H a xs):xs.length≤sizeLine∧∃(az:List Value) (n:Nat),aJ xs az∧xs.length=az.length∧s.heap.get? a=some {cls:=.type "list",data:=.seq az.toArray n}:=by
 rcases h with h|⟨az,n,h1,h2,h3⟩
 ·obtain⟨z,az,n,r,e⟩:=h.ok I.hok
  exact⟨z,az,n,r,r.length,e⟩
 ·have e:xs.length=az.toList.length:=h3.length
  have e2:az.toList.length=az.size:=MM
  exact⟨by lia,az.toList,n,h3,h3.length,by simpa using I.m3 a _ h1⟩
theorem yw:jx X (binaryOp .Add) (fun x y H Q=>∃l b xs zs,x=.ref l∧y=.ref b∧RL X.K H l xs∧RL X.K H b zs∧xs.length+zs.length≤sizeLine∧∀p,H p=none→Q (.ref p) (bp H p (.lst (xs++zs)))):=by
 intro pins s σ H x y v u Q I rx ry h
 obtain⟨l,b,xs,zs,rfl,rfl,hH,hB,hz,q⟩:=h
 cases rx
 cases ry
 obtain⟨z,az,n,r,hl,e⟩:=oZ I hH
 obtain⟨z2,its2,n2,r2,hl2,e2⟩:=oZ I hB
 refine PySem.P.add_list e e2 ?_ (by rw [iR,iR];lia)
 have ea:az.toArray++its2.toArray=(az++its2).toArray:=by simp
 rw [ea]
 exact⟨.ref _,_,I.HL (t':=s.toks) (r.append r2) (by rw [dP];lia),rfl,q _ I.fresh⟩
theorem yu:jx X (binaryOp .Mult) (fun x y H Q=>∃l k xs,x=.ref l∧y=.int k∧RL X.K H l xs∧-(2 ^ 63)≤k∧k<2 ^ 63∧xs.length*k.toNat≤sizeLine∧
 ∀p,H p=none→Q (.ref p) (bp H p (.lst (List.replicate k.toNat xs).flatten))):=by
 intro pins s σ H x y v u Q I rx ry h
 obtain⟨l,k,xs,rfl,rfl,hH,h1,h2,hz,q⟩:=h
 cases rx
 obtain⟨t,rfl⟩:=ry
 obtain⟨z,az,n,r,hl,e⟩:=oZ I hH
 have hlen:az.toArray.size*k.toNat≤sizeLine:=by rw [iR,←hl];exact hz
 have hcap:¬az.toArray.size*k.toNat>(2 ^ 63-1)/8:=by
  have:(sizeLine:Nat)≤(2 ^ 63-1)/8:=by decide
  lia
 have hfit:¬(!Builtin.List.listFitsIndex k)=true:=by
  rw [fitsIndex_both h1 h2]
  exact kQ
 have hlong:¬Builtin.List.listTooLong (az.toArray.size*k.toNat)=true:=by
  rw [vg hlen]
  exact kQ
 have hnew:List.foldl (fun x1 x2=>x1++x2) #[] (List.replicate (if az.toArray.isEmpty=true then 0 else k.toNat) az.toArray)=(List.replicate k.toNat az).flatten.toArray:=by
  have f0:∀m:Nat,List.foldl (fun x1 x2=>x1++x2) #[] (List.replicate m az.toArray)=(List.replicate m az).flatten.toArray:=fun m=>by
   have:=rQ az m []
   rw [List.nil_append]at this
   exact this
  rw [f0]
  cases az with
  |nil=>simp
  |cons a r'=>rw [aK (by simp)]
 refine wpAny_binaryOp_repeat_ref (T:="list") (U:="int") (by decide) ⟨_,e,rfl⟩ (fun s'=>typeIs_int s' k t) noFill_list_mul F.fills_int_mul F.slot_int_rmul repeat_list F.slot_int_index.lookup
  (call_meets F.slot_int_rmul (typeIs_int s k t) F.entry_int_rmul (F.args_int_rmul_2 _ _) (int___rmul___int_list k t l az.toArray n)
    ⟨e,rfl,⟨_,e,rfl⟩,call_meets F.slot_list_mul ⟨_,e,rfl⟩ F.entry_list_mul (F.args_list_mul_2 _ _) (AutoListH.list___mul___list_int_3 l az.toArray n k t hfit hcap hlong) ⟨e,?_⟩⟩)
 rw [hnew]
 exact⟨.ref _,_,I.HL (t':=s.toks) (r.rep k.toNat) (by rw [Eu,Nat.mul_comm];exact hz),rfl,q _ I.fresh⟩
end
noncomputable def sz(n:Nat):Bool:=decide (n≤1000000)
theorem j6(h:sz n=true):n≤sizeLine:=by
 have:=fm h
 rw [sizeLine_eq];lia
noncomputable def BE(i j:Int):Bool:=decide (-(2 ^ 64)<i∧i<2 ^ 64)||decide (-(2 ^ 64)<j∧j<2 ^ 64)
noncomputable def yj(i j:Int):Bool:=decide (0≤j∧j≤1000000∧i.natAbs<2 ^ 64)
noncomputable def dI:Operator→D→D→Option D
 | .Add,.int i,.int j=>some (.int (i+j))
 | .Add,.lst a,.lst b=>if sz (a.length+b.length)then some (.lst (a++b))else none
 | .Sub,.int i,.int j=>some (.int (i-j))
 | .Mult,.int i,.int j=>if BE i j then some (.int (i*j))else none
 | .Mult,.lst a,.int k=>if sz (a.length*k.toNat)&&decide (-(2 ^ 62)≤k∧k<2 ^ 62)then some (.lst (List.replicate k.toNat a).flatten)else none
 | .FloorDiv,.int i,.int j=>if decide (0<j∧j<1073741824)then some (.int (i/j))else none
 | .Mod,.int i,.int j=>if decide (0<j)then some (.int (i % j))else none
 | .BitAnd,.int i,.int j=>some (.int (Builtin.bitAnd i j))
 | .RShift,.int i,.int j=>if decide (0≤j)then some (.int (i/2 ^ j.toNat))else none
 | .LShift,.int i,.int j=>if yj i j then some (.int (i*2 ^ j.toNat))else none
 |_,_,_=>none
section
variable{X:Cx}{cl:Nat→Option Addr}
theorem cw{Q:VK}(sg:aG G H)(q:∀z H' G',Ext H G H' G'→Dn K cl G' z d→Q z H'){z:V}(hz:Dn K cl G z d):Q z H:=q z H G (Ext.refl sg) hz
theorem ub{Q:VK}(sg:aG G H)(q:∀z H' G',Ext H G H' G'→Dn K cl G' z (.lst ds)→Q z H')(hr:H r=none)(h:Dns K cl G xs ds):Q (.ref r) (bp H r (.lst xs)):=
 have e:=Ext.new sg hr (.lst xs)
 q _ _ _ e (.lst (.inl (.inl ak)) (h.mono e.gg))
theorem NC{Q:VK}(sg:aG G H)(q:∀z H' G',Ext H G H' G'→Dn K cl G' z (.tup ds)→Q z H')(hr:H r=none)(h:Dns K cl G xs ds):Q (.ref r) (bp H r (.tup xs)):=
 have e:=Ext.new sg hr (.tup xs)
 q _ _ _ e (.tup ak (h.mono e.gg))
theorem BB(op:Operator):jx X (binaryOp op) (rD X.K cl (dI op)):=by
 rintro pins s σ H x y v u Q I rx ry ⟨G,a,b,d,sg,da,db,hg,q⟩
 unfold dI at hg
 split at hg
 ·cases hg;cases da;cases db
  exact Hx pins s σ H _ _ v u Q I rx ry ⟨_,_,rfl,rfl,cw sg q (.int _)⟩
 ·split at hg
  ·rename_i hz
   cases hg
   cases da with| @lst p xs _ h1 h2=>cases db with| @lst p' xs' _ h1' h2'=>
    refine yw pins s σ H _ _ v u Q I rx ry ⟨_,_,_,_,rfl,rfl,aC sg h1,aC sg h1',j6 (by rw [h2.length,h2'.length];exact hz),fun r hr=> ?_⟩
    exact ub sg q hr (h2.append h2')
  ·cases hg
 ·cases hg;cases da;cases db
  exact Hn pins s σ H _ _ v u Q I rx ry ⟨_,_,rfl,rfl,cw sg q (.int _)⟩
 ·split at hg
  ·rename_i hz
   cases hg;cases da;cases db
   refine Hs pins s σ H _ _ v u Q I rx ry ⟨_,_,rfl,rfl,?_,cw sg q (.int _)⟩
   have hz':=(Bool.or_eq_true _ _).mp hz
   rcases hz' with h|h
   ·exact .inl (fm h)
   ·exact .inr (fm h)
  ·cases hg
 ·split at hg
  ·rename_i hz
   cases hg;cases db
   cases da with| @lst p xs _ h1 h2=>
    obtain⟨hz1,hz2⟩:=bg hz
    have hz2:=fm hz2
    refine yu pins s σ H _ _ v u Q I rx ry ⟨_,_,_,rfl,rfl,aC sg h1,by lia,by lia,j6 (by rw [h2.length];exact hz1),fun r hr=> ?_⟩
    exact ub sg q hr (h2.rep _)
  ·cases hg
 ·split at hg
  ·rename_i hz
   have hz':=fm hz
   cases hg;cases da;cases db
   exact Ed pins s σ H _ _ v u Q I rx ry ⟨_,_,rfl,rfl,hz',cw sg q (.int _)⟩
  ·cases hg
 ·split at hg
  ·rename_i hz
   cases hg;cases da;cases db
   exact Ht pins s σ H _ _ v u Q I rx ry ⟨_,_,rfl,rfl,fm hz,cw sg q (.int _)⟩
  ·cases hg
 ·cases hg;cases da;cases db
  exact Hw pins s σ H _ _ v u Q I rx ry ⟨_,_,rfl,rfl,cw sg q (.int _)⟩
 ·split at hg
  ·rename_i hz
   cases hg;cases da;cases db
   exact Ho pins s σ H _ _ v u Q I rx ry ⟨_,_,rfl,rfl,fm hz,cw sg q (.int _)⟩
  ·cases hg
 ·split at hg
  ·rename_i hz
   have hz':=fm hz
   cases hg;cases da;cases db
   exact Hq pins s σ H _ _ v u Q I rx ry ⟨_,_,rfl,rfl,hz',cw sg q (.int _)⟩
  ·cases hg
 ·cases hg
end
noncomputable def lG:D→Bool
 | .non=>true| .bl _=>true| .int _=>true| .str _=>true|_=>false
noncomputable def LL:D→D→Bool
 | .non,.non=>true
 | .bl a,.bl b=>a==b
 | .bl a,.int b=>(if a then 1 else 0)==b
 | .int a,.bl b=>a==(if b then 1 else 0)
 | .int a,.int b=>a==b
 | .str a,.str b=>a==b
 |_,_=>false
noncomputable def MB(x:D)(l:List D):Option Bool:=if lG x&&l.all lG then some (l.any fun y=>LL y x)else none
noncomputable def xf(kvs:List (Int×Int))(i:Int):Option Int:=(kvs.find? fun p=>decide (p.1=i)).map (·.2)
theorem iS(i:Int):∀kvs:List (Int×Int),lh (C6 kvs) (Sum.inl i)=(xf kvs i).map V.int
 |[]=>rfl
 |p::r=>by
  show lh ((Sum.inl p.1,V.int p.2)::C6 r) _=_
  unfold xf
  by_cases e:p.1=i
  ·rw [oM (by rw [e]),List.find?_cons,de e];rfl
  ·rw [oN (fun z=>e (Sum.inl.inj z)),iS i r,List.find?_cons,eC e];rfl
noncomputable def HD:D→Bool
 | .lst l=> !l.isEmpty
 |_=>false
noncomputable def bV:CmpOp→D→D→Option D
 | .Lt,.int i,.int j=>some (.bl (decide (i<j)))
 | .LtE,.int i,.int j=>some (.bl (decide (i≤j)))
 | .Gt,.int i,.int j=>some (.bl (decide (j<i)))
 | .GtE,.int i,.int j=>some (.bl (decide (j≤i)))
 | .Eq,a,b=>(xF a b).map .bl
 | .NotEq,a,b=>(xF a b).map fun c=> .bl (!c)
 | .In,.int i,.dic kvs=>some (.bl (xf kvs i).isSome)
 | .NotIn,.int i,.dic kvs=>some (.bl (!(xf kvs i).isSome))
 | .In,.lst a,.lst l=>if a.isEmpty&&l.all HD then some (.bl false)else none
 | .NotIn,a,.lst l=>(MB a l).map fun c=> .bl (!c)
 | .Is,.bl a,.bl b=>some (.bl (a==b))
 | .IsNot,.bl a,.bl b=>some (.bl (a !=b))
 |_,_,_=>none
section
variable{K:W.Frag}{cl:Nat→Option Addr}{G:Hp}
theorem Dn.flat(h:Dn K cl G v d)(f:lG d=true):j8 v=true:=by
 cases h with
 |non=>rfl
 |bl _=>rfl
 |int _=>rfl
 |str _=>rfl
 |_=>cases f
theorem Dn.eqv(h:Dn K cl G v d)(h':Dn K cl G u e)(f:lG d=true)(f':lG e=true):CZ v u=LL d e:=by
 cases h with
 |lst=>cases f
 |tup=>cases f
 |ins=>cases f
 |dic=>cases f
 |non=>cases h' with|lst=>cases f'|tup=>cases f'|ins=>cases f'|dic=>cases f'|_=>rfl
 |bl _=>cases h' with|lst=>cases f'|tup=>cases f'|ins=>cases f'|dic=>cases f'|_=>rfl
 |int _=>cases h' with|lst=>cases f'|tup=>cases f'|ins=>cases f'|dic=>cases f'|_=>rfl
 |str _=>cases h' with|lst=>cases f'|tup=>cases f'|ins=>cases f'|dic=>cases f'|_=>rfl
theorem Dns.flat:∀ {vs:List V} {ds:List D},Dns K cl G vs ds→ds.all lG=true→vs.all j8=true
 |_,_,.nil,_=>rfl
 |_,_,.cons h t,f=>by
  rw [cK,Bool.and_eq_true]at f
  rw [cK,h.flat f.1,Dns.flat t f.2];rfl
theorem Dns.inV(h:Dn K cl G x d)(f:lG d=true):∀ {vs:List V} {ds:List D},Dns K cl G vs ds→ds.all lG=true→inV x vs=ds.any fun y=>LL y d
 |_,_,.nil,_=>rfl
 |_,_,.cons h' t,f'=>by
  rw [cK,Bool.and_eq_true]at f'
  show(CZ _ x||L2.inV x _)=_
  rw [List.any_cons,h'.eqv h f'.1 f,Dns.inV h f t f'.2]
end
section
variable{X:Cx}{cl:Nat→Option Addr}
theorem Cj(h:xF a b=some c):∃x y,kn a=some x∧kn b=some y∧PySem.SeqAt.shaped x=true∧PySem.SeqAt.shaped y=true∧PySem.SeqAt.noMix x y=true∧c=PySem.Spec.same x y:=by
 unfold xF at h
 split at h
 ·rename_i x y h1 h2
  split at h
  ·rename_i h3
   rw [Bool.and_eq_true,Bool.and_eq_true]at h3
   exact⟨x,y,h1,h2,h3.1.1,h3.1.2,h3.2,(cC h).symm⟩
  ·cases h
 ·cases h
theorem Hu:jx X (compareOp .Is) (fun x y H Q=>∃a b,x=.bl a∧y=.bl b∧Q (.bl (a==b)) H):=by
 intro pins s σ H x y v u Q I rx ry h
 obtain⟨a,b,rfl,rfl,q⟩:=h
 cases (show v=Value.bool a from rx)
 cases (show u=Value.bool b from ry)
 exact PyProof.Rows.is_bool ⟨.bl _,H,I,rfl,q⟩
theorem zB:jx X (compareOp .IsNot) (fun x y H Q=>∃a b,x=.bl a∧y=.bl b∧Q (.bl (a !=b)) H):=by
 intro pins s σ H x y v u Q I rx ry h
 obtain⟨a,b,rfl,rfl,q⟩:=h
 cases (show v=Value.bool a from rx)
 cases (show u=Value.bool b from ry)
 exact PyProof.Rows.isnot_bool ⟨.bl _,H,I,rfl,q⟩
theorem Dns.Oh(sg:aG G H):∀ {xs:List V} {ds:List D},Dns K cl G xs ds→ds.all HD=true→∀v∈xs,∃c ys,v=.ref c∧dQ K H c ys∧ys≠[]
 |_,_,.nil,_=>fun v hv=>by simp at hv
 |_,_,.cons h t,f=>by
  rw [cK,Bool.and_eq_true]at f
  intro v hv
  rcases fY.mp hv with rfl|hv
  ·cases h with
   |lst h1 h2=>
    refine⟨_,_,rfl,(aC sg h1).jX,fun z=> ?_⟩
    subst z
    cases h2
    exact absurd f.1 (by decide)
   |_=>exact absurd f.1 (by simp [HD])
  ·exact Dns.Oh sg t f.2 v hv
theorem uH:∀ {xs:List V} {us:List Value},aJ xs us→∀w∈us,∃z∈xs,aZ z w
 |_,_,.nil=>fun w hw=>by cases hw
 |x::xs,u::us,.cons r t=>fun w hw=>by
  rcases fY.mp hw with rfl|hw
  ·exact⟨x,lU ..,r⟩
  ·obtain⟨z,h1,h2⟩:=uH t w hw
   exact⟨z,lT _ h1,h2⟩
theorem zC(hu:X.A.units+64<cLine):jx X (compareOp .In) (fun x y H Q=>∃a b xs,x=.ref a∧y=.ref b∧dQ X.K H a []∧dQ X.K H b xs∧(∀v∈xs,∃c ys,v=.ref c∧dQ X.K H c ys∧ys≠[])∧Q (.bl false) H):=by
 intro pins s σ H x y v u Q I rx ry h
 obtain⟨a,b,xs,rfl,rfl,ha,hb,hn,q⟩:=h
 cases (show v=Value.ref a from rx)
 cases (show u=Value.ref b from ry)
 obtain⟨i1,r1,p1,_⟩:=I.list ha
 obtain⟨i2,r2,p2,_⟩:=I.list hb
 cases r1
 refine SeqAt.in_listAt (fun _=>false) p2.isList (fun w hw=> ?_) ⟨.bl _,H,I,rfl,?_⟩
 ·obtain⟨z,hz,rz⟩:=uH r2 w (by simpa using hw)
  obtain⟨c,ys,rfl,hc,hne⟩:=hn z hz
  cases (show w=Value.ref c from rz)
  obtain⟨i3,r3,p3,_⟩:=I.list hc
  have l3:=r3.length
  have hs:(i3.toArray.size !=([]:List Value).toArray.size)=true:=by
   have:ys.length≠0:=fun z=>hne (Ar.mp z)
   simp;intro z;rw [z]at l3;exact this (by simpa using l3)
  have hu':X.A.in1.units<cLine:=by
   have:X.A.in1.units≤X.A.units+1:=by simp [Around.in1]
   lia
  refine SeqAt.EqAt.of_refs (fun z=> ?_) (SeqAt.RcAt.lists_lengths p3.isList p1.isList hs hu')
  subst z
  obtain⟨o1,g1,c1,n1,d1⟩:=p3.isList
  obtain⟨o2,g2,c2,n2,d2⟩:=p1.isList
  rw [g1]at g2
  cases g2
  rw [d1]at d2
  have:i3.toArray=([]:List Value).toArray:=by cases d2;rfl
  rw [this]at hs
  exact absurd hs (by decide)
 ·rw [show i2.toArray.any (fun _=>false)=false by simp]
  exact q
theorem mv(hu:X.A.units+64<cLine)(op:CmpOp):jx X (compareOp op) (rD X.K cl (bV op)):=by
 rintro pins s σ H x y v u Q I rx ry ⟨G,a,b,d,sg,da,db,hg,q⟩
 unfold bV at hg
 split at hg
 ·cases hg;cases da;cases db
  exact K0 pins s σ H _ _ v u Q I rx ry ⟨_,_,rfl,rfl,cw sg q (.bl _)⟩
 ·cases hg;cases da;cases db
  exact K1 pins s σ H _ _ v u Q I rx ry ⟨_,_,rfl,rfl,cw sg q (.bl _)⟩
 ·cases hg;cases da;cases db
  exact K2 pins s σ H _ _ v u Q I rx ry ⟨_,_,rfl,rfl,cw sg q (.bl _)⟩
 ·cases hg;cases da;cases db
  exact K3 pins s σ H _ _ v u Q I rx ry ⟨_,_,rfl,rfl,cw sg q (.bl _)⟩
 ·cases e:xF a b with
  |none=>rw [e]at hg;cases hg
  |some c=>
   rw [e]at hg;cases hg
   obtain⟨x',y',h1,h2,h3,h4,h5,rfl⟩:=Cj e
   refine Hv hu pins s σ H _ _ v u Q I rx ry ⟨x',y',(da.mono sg).py h1,(db.mono sg).py h2,h3,h4,h5,?_⟩
   rw [aK (by decide)]
   exact cw sg q (.bl _)
 ·cases e:xF a b with
  |none=>rw [e]at hg;cases hg
  |some c=>
   rw [e]at hg;cases hg
   obtain⟨x',y',h1,h2,h3,h4,h5,rfl⟩:=Cj e
   refine Hr hu pins s σ H _ _ v u Q I rx ry ⟨x',y',(da.mono sg).py h1,(db.mono sg).py h2,h3,h4,h5,?_⟩
   rw [aF rfl]
   exact cw sg q (.bl _)
 all_goals first
  |(cases hg;done)
  |(cases hg;cases da;cases db;rename_i h;refine BA pins s σ H _ _ v u Q I rx ry ⟨_,_,_,rfl,rfl,.inl (sg _ _ h),?_⟩;rw [iS,Option.isSome_map];exact cw sg q (.bl _))
  |(cases hg;cases da;cases db;rename_i h;refine va pins s σ H _ _ v u Q I rx ry ⟨_,_,_,rfl,rfl,.inl (sg _ _ h),?_⟩;rw [iS,Option.isSome_map];exact cw sg q (.bl _))
  |(split at hg
    ·rename_i hc
     obtain⟨c1,c2⟩:=bg hc
     cases hg
     cases da with|lst h1 h2=>cases db with|lst h1' h2'=>
      rw [List.isEmpty_iff]at c1
      subst c1
      cases h2
      exact zC hu pins s σ H _ _ v u Q I rx ry ⟨_,_,_,rfl,rfl,(aC sg h1).jX,(aC sg h1').jX,h2'.Oh sg c2,cw sg q (.bl _)⟩
    ·cases hg)
  |(cases hg;cases da;cases db;exact Hu pins s σ H _ _ v u Q I rx ry ⟨_,_,rfl,rfl,cw sg q (.bl _)⟩)
  |(cases hg;cases da;cases db;exact zB pins s σ H _ _ v u Q I rx ry ⟨_,_,rfl,rfl,cw sg q (.bl _)⟩)
  |(rename_i l
    unfold MB at hg
    split at hg
    ·rename_i hf
     obtain⟨f1,f2⟩:=bg hf
     cases hg
     cases db
     rename_i h1 h2
     have e:=Dns.inV da f1 h2 f2
     first
      |(refine op_in_seq pins s σ H _ _ v u Q I rx ry ⟨_,_,rfl,.inl (aC sg h1).jX,da.flat f1,h2.flat f2,?_⟩
        rw [aK (by decide),e];exact cw sg q (.bl _))
      |(refine lz pins s σ H _ _ v u Q I rx ry ⟨_,_,rfl,.inl (aC sg h1).jX,da.flat f1,h2.flat f2,?_⟩
        rw [aF rfl,e];exact cw sg q (.bl _))
      |(refine op_in_seq pins s σ H _ _ v u Q I rx ry ⟨_,_,rfl,.inr (.inl (.inl (sg _ _ h1))),da.flat f1,h2.flat f2,?_⟩
        rw [aK (by decide),e];exact cw sg q (.bl _))
      |(refine lz pins s σ H _ _ v u Q I rx ry ⟨_,_,rfl,.inr (.inl (.inl (sg _ _ h1))),da.flat f1,h2.flat f2,?_⟩
        rw [aF rfl,e];exact cw sg q (.bl _))
    ·cases hg)
end
section
variable{K:W.Frag}{cl:Nat→Option Addr}{G:Hp}
theorem Dns.atI(h:Dns K cl G xs ds)(e:L2.atI ds i=some d):∃v,L2.atI xs i=some v∧Dn K cl G v d:=by
 unfold L2.atI at e⊢
 rw [h.length]
 cases q:kH ds.length i with
 |none=>rw [q]at e;cases e
 |some j=>
  rw [q]at e
  exact h.get e
end
noncomputable def tT:D→D→Option D
 | .lst l,.int i=>L2.atI l i
 | .tup l,.int i=>L2.atI l i
 | .dic kvs,.int i=>(xf kvs i).map .int
 | .str x,.int i=>if sz x.length then(L2.atI x.cps.toList i).map fun c=> .str ⟨#[c]⟩else none
 |_,_=>none
noncomputable def uf{α:Type}(l:List α)(lo hi:Option Int):List α:=(l.drop (HT.sIx l.length 0 lo)).take (HT.sIx l.length l.length hi-HT.sIx l.length 0 lo)
noncomputable def nY:D→Option Int→Option Int→Option D
 | .lst l,lo,hi=>some (.lst (uf l lo hi))
 |_,_,_=>none
noncomputable def uW:D→Option D
 | .lst l=>some (.lst l.reverse)
 |_=>none
section
variable{X:Cx}{cl:Nat→Option Addr}
theorem Ng:JD X (rD X.K cl tT):=by
 rintro value slice pins s σ H x y v u Q I rx ry ⟨G,a,b,d,sg,da,db,hg,q⟩ hs
 unfold tT at hg
 split at hg
 ·cases db
  cases da with|lst h1 h2=>
   obtain⟨z,e1,e2⟩:=h2.atI hg
   exact tO value slice pins s σ H _ _ v u Q I rx ry ⟨_,_,_,z,rfl,rfl,(aC sg h1).jX,e1,cw sg q e2⟩ hs
 ·cases db
  cases da with|tup h1 h2=>
   obtain⟨z,e1,e2⟩:=h2.atI hg
   exact HU value slice pins s σ H _ _ v u Q I rx ry ⟨_,_,_,z,rfl,rfl,.inl (.inl (sg _ _ h1)),e1,cw sg q e2⟩ hs
 ·obtain⟨j,e1,rfl⟩:=aM hg
  cases db
  cases da with|dic h=>
   exact Ll value slice pins s σ H _ _ v u Q I rx ry ⟨_,_,_,V.int j,rfl,rfl,.inl (sg _ _ h),by rw [iS,e1];rfl,cw sg q (.int _)⟩ hs
 ·split at hg
  ·rename_i hz
   cases da;cases db
   obtain⟨c,e1,rfl⟩:=aM hg
   exact HV value slice pins s σ H _ _ v u Q I rx ry ⟨_,_,c,rfl,rfl,j6 hz,e1,cw sg q (.str _)⟩ hs
  ·cases hg
 ·cases hg
noncomputable def KJ(K:W.Frag)(cl:Nat→Option Addr):V→Option Int→Option Int→Hp→VK→Prop:=fun v lo hi H Q=>∃G x d,aG G H∧Dn K cl G v x∧nY x lo hi=some d∧∀z H' G',Ext H G H' G'→Dn K cl G' z d→Q z H'
theorem MV:NT X (KJ X.K cl):=by
 rintro pins s σ H x v vl vu lo hi sl Q I rx hs pl pu ⟨G,a,d,sg,da,hg,q⟩
 unfold nY at hg
 split at hg
 ·cases hg
  cases da with| @lst p xs _ h1 h2=>
   refine yb pins s σ H _ v vl vu _ _ sl Q I rx hs pl pu ⟨p,xs,rfl,(aC sg h1).jX,fun r hr=>ub sg q hr ?_⟩
   unfold Ae uf
   rw [h2.length]
   exact(h2.drop _).take _
 ·cases hg
end
inductive U where
 |len|list|lrng|sorted|sset|any|all|min|neg|sum|max|lset|ldn|bitl
 deriving DecidableEq
noncomputable def m4(ns:List Int):List Int:=ns.mergeSort (fun a b=>decide (a≤b))
noncomputable def Nd:List Int→Option Int
 |[]=>none
 |a::r=>some (r.foldl (fun m x=>if x<m then x else m) a)
noncomputable def La:List Int→Option Int
 |[]=>none
 |a::r=>some (r.foldl (fun m x=>if m<x then x else m) a)
noncomputable def ME:List Int→List Int
 |[]=>[]
 |a::r=>if a∈r then ME r else a::ME r
noncomputable def iG:U→D→Option D
 | .len,.lst l=>some (.int l.length)
 | .len,.tup l=>some (.int l.length)
 | .len,.str x=>if sz x.length then some (.int x.length)else none
 | .list,.lst l=>some (.lst l)
 | .list,.tup l=>some (.lst l)
 | .lrng,.int n=>if decide (-(2 ^ 60)≤n∧n≤1000000)then some (.lst ((List.range n.toNat).map fun(i:Nat)=>D.int i))else none
 | .sorted,.lst l=>(cQ l).bind fun ns=>if decide (ns.length<64)then some (.lst ((m4 ns).map D.int))else none
 | .sset,.lst l=>(cQ l).bind fun ns=>if decide (ns.length<64)then some (.lst ((m4 (ME ns)).map D.int))else none
 | .any,.lst l=>(qt l).map fun bs=> .bl (bs.any id)
 | .all,.lst l=>(qt l).map fun bs=> .bl (bs.all id)
 | .min,.lst l=>(cQ l).bind fun ns=>(Nd ns).map D.int
 | .neg,.int i=>some (.int (-i))
 | .sum,.lst l=>(cQ l).map fun ns=> .int ns.sum
 | .max,.lst l=>(cQ l).bind fun ns=>(La ns).map D.int
 | .lset,.lst l=>(cQ l).bind fun ns=>if decide (ns.length<64)then some (.int (ME ns).length)else none
 | .bitl,.int i=>some (.int (Builtin.Int.intBits i:Nat))
 | .ldn,.int i=>if decide (-(2 ^ 30)≤i∧i≤1000000)then some (.lst ((List.range (i+1).toNat).map fun(j:Nat)=>D.int (i-j)))else none
 |_,_=>none
theorem qR:∀ {l m:List Int},l.Perm m→l.Pairwise (· ≤·)→m.Pairwise (· ≤·)→l=m:=by
 intro l m p h1 h2
 exact p.eq_of_pairwise (fun a b _ _ x y=>Int.le_antisymm x y) h1 h2
theorem xm(ns:List Int):(m4 ns).Perm ns:=List.mergeSort_perm ns _
theorem tP(ns:List Int):(m4 ns).Pairwise (· ≤·):=by
 have h:=List.pairwise_mergeSort (le:=fun a b:Int=>decide (a≤b)) (by intro a b c h1 h2;simp at*;lia) (by intro a b;simp;lia) ns
 exact h.imp (by intro a b h;simpa using h)
theorem pQ{ms:List Int}(p:ms.Perm ns)(h:ms.Pairwise (· ≤·)):ms=m4 ns:=qR (p.trans (xm ns).symm) h (tP ns)
section
variable{X:Cx}{cl:Nat→Option Addr}
noncomputable def one(g:D→Option D):List D→Option D
 |[x]=>g x
 |_=>none
noncomputable def two(g:D→D→Option D):List D→Option D
 |[x,y]=>g x y
 |_=>none
theorem gX(h:one g l=some d):∃x,l=[x]∧g x=some d:=by
 unfold one at h;split at h
 ·exact⟨_,rfl,h⟩
 ·cases h
theorem uJ(h:two g l=some d):∃x y,l=[x,y]∧g x y=some d:=by
 unfold two at h;split at h
 ·exact⟨_,_,rfl,h⟩
 ·cases h
theorem Dns.one(h:Dns K cl G vs [x]):∃v,vs=[v]∧Dn K cl G v x:=by
 cases h with|cons a t=>cases t;exact⟨_,rfl,a⟩
theorem Dns.two(h:Dns K cl G vs [x,y]):∃v u,vs=[v,u]∧Dn K cl G v x∧Dn K cl G u y:=by
 cases h with|cons a t=>cases t with|cons b t=>cases t;exact⟨_,_,rfl,a,b⟩
theorem Me:cz X (.builtin "len") (rDs X.K cl (one (iG .len))):=by
 rintro pins s σ H vs us Q I r ⟨G,xs,d,sg,dx,hg,q⟩
 obtain⟨x,rfl,hg⟩:=gX hg
 obtain⟨v,rfl,da⟩:=dx.one
 cases x with
 |lst l=>
  cases hg
  cases da with|lst h1 h2=>
   refine lM pins s σ H _ us Q I r ⟨_,_,rfl,.inl (aC sg h1).jX,?_⟩
   rw [h2.length];exact cw sg q (.int _)
 |tup l=>
  cases hg
  cases da with|tup h1 h2=>
   refine lM pins s σ H _ us Q I r ⟨_,_,rfl,.inr (.inl (.inl (sg _ _ h1))),?_⟩
   rw [h2.length];exact cw sg q (.int _)
 |str y=>
  have hg':(if sz y.length then some (D.int y.length)else none)=some d:=hg
  split at hg'
  ·rename_i hz
   cases hg';cases da
   exact uj pins s σ H _ us Q I r ⟨_,rfl,j6 hz,cw sg q (.int _)⟩
  ·cases hg'
 |_=>cases hg
theorem Je:cz X (.type "list") (rDs X.K cl (one (iG .list))):=by
 rintro pins s σ H vs us Q I r ⟨G,xs,d,sg,dx,hg,q⟩
 obtain⟨x,rfl,hg⟩:=gX hg
 obtain⟨v,rfl,da⟩:=dx.one
 cases x with
 |lst l=>
  cases hg
  cases da with|lst h1 h2=>
   exact iB pins s σ H _ us Q I r ⟨_,_,rfl,.inl (aC sg h1).jX,fun l hl=>ub sg q hl h2⟩
 |tup l=>
  cases hg
  cases da with|tup h1 h2=>
   exact iB pins s σ H _ us Q I r ⟨_,_,rfl,.inr (.inl (.inl (sg _ _ h1))),fun l hl=>ub sg q hl h2⟩
 |_=>cases hg
theorem CK:cz X (.builtin "sorted") (rDs X.K cl (one (iG .sorted))):=by
 rintro pins s σ H vs us Q I r ⟨G,xs,d,sg,dx,hg,q⟩
 obtain⟨x,rfl,hg1⟩:=gX hg;clear hg
 obtain⟨v,rfl,da⟩:=dx.one
 cases x with
 |lst l=>
  obtain⟨ns,e1,hg⟩:=af hg1;clear hg1
  have e1:=g0 e1
  subst e1
  split at hg
  ·rename_i hz
   cases hg
   cases da with|lst h1 h2=>
    have e2:=h2.ints
    subst e2
    refine hW pins s σ H _ us Q I r ⟨_,ns,rfl,(aC sg h1).jX,fm hz,fun l ms hl p1 p2=> ?_⟩
    rw [pQ p1 p2]
    exact ub sg q hl (hR _)
  ·cases hg
 |_=>cases hg1
theorem Mf(hc:X.calm=true):cz X (.builtin "any") (rDs X.K cl (one (iG .any))):=by
 rintro pins s σ H vs us Q I r ⟨G,xs,d,sg,dx,hg,q⟩
 obtain⟨x,rfl,hg1⟩:=gX hg;clear hg
 obtain⟨v,rfl,da⟩:=dx.one
 cases x with
 |lst l=>
  obtain⟨ns,e1,hg⟩:=aM hg1;clear hg1
  have e1:=uq e1
  subst e1;subst hg
  cases da with|lst h1 h2=>
   have e2:=h2.OC
   subst e2
   exact vJ hc pins s σ H _ us Q I r ⟨_,ns,rfl,(aC sg h1).jX,cw sg q (.bl _)⟩
 |_=>cases hg1
theorem Mg(hc:X.calm=true):cz X (.builtin "all") (rDs X.K cl (one (iG .all))):=by
 rintro pins s σ H vs us Q I r ⟨G,xs,d,sg,dx,hg,q⟩
 obtain⟨x,rfl,hg1⟩:=gX hg;clear hg
 obtain⟨v,rfl,da⟩:=dx.one
 cases x with
 |lst l=>
  obtain⟨ns,e1,hg⟩:=aM hg1;clear hg1
  have e1:=uq e1
  subst e1;subst hg
  cases da with|lst h1 h2=>
   have e2:=h2.OC
   subst e2
   exact nh hc pins s σ H _ us Q I r ⟨_,ns,rfl,(aC sg h1).jX,cw sg q (.bl _)⟩
 |_=>cases hg1
theorem q0(hc:X.calm=true):cz X (.builtin "sum") (fun xs H Q=>∃(p:Addr) (ns:List Int),xs=[.ref p]∧dQ X.K H p (ns.map V.int)∧Q (.int ns.sum) H):=by
 intro pins s σ H xs us Q I r h
 obtain⟨p,ns,rfl,hq,q⟩:=h
 obtain⟨u,rfl,ru⟩:=r.one
 cases ru
 obtain⟨az,rv,pl,hz⟩:=I.list hq
 have hi:=kJ rv
 obtain⟨xs,e⟩:=hi.allInts.items
 have hns:ns=xs.toList.map (·.1):=by
  rw [←hi.numsOf,←PySem.nums_intItems,←e]
 have hl:=pl.isList
 rw [e]at hl
 refine PySem.sum_intListG (I.ok.hd hc) hl fun h' tk t' hk=> ?_
 refine⟨.int _,H,I.kept hk,⟨t',rfl⟩,?_⟩
 rw [PySem.preSum_eq,List.take_of_length_le (by simp),←hns]
 exact q
theorem Md(hc:X.calm=true):cz X (.builtin "sum") (rDs X.K cl (one (iG .sum))):=by
 rintro pins s σ H vs us Q I r ⟨G,xs,d,sg,dx,hg,q⟩
 obtain⟨x,rfl,hg1⟩:=gX hg;clear hg
 obtain⟨v,rfl,da⟩:=dx.one
 cases x with
 |lst l=>
  obtain⟨ns,e1,hg⟩:=aM hg1;clear hg1
  have e1:=g0 e1
  subst e1;subst hg
  cases da with|lst h1 h2=>
   have e2:=h2.ints
   subst e2
   exact q0 hc pins s σ H _ us Q I r ⟨_,ns,rfl,(aC sg h1).jX,cw sg q (.int _)⟩
 |_=>cases hg1
noncomputable def BI:D→D→Option D
 | .int i,.int j=>some (.int (if j<i then j else i))
 |_,_=>none
noncomputable def wX:D→D→Option D
 | .int i,.int j=>some (.int (if j>i then j else i))
 |_,_=>none
theorem Jc(hc:X.calm=true):cz X (.builtin "min") (rDs X.K cl (two BI)):=by
 rintro pins s σ H vs us Q I r ⟨G,xs,d,sg,dx,hg,q⟩
 obtain⟨x,y,rfl,hg1⟩:=uJ hg;clear hg;have hg:=hg1;clear hg1
 obtain⟨v,u,rfl,da,db⟩:=dx.two
 unfold BI at hg
 split at hg
 ·cases hg;cases da;cases db
  exact Ai hc pins s σ H _ us Q I r ⟨_,_,rfl,cw sg q (.int _)⟩
 ·cases hg
theorem Jd(hc:X.calm=true):cz X (.builtin "max") (rDs X.K cl (two wX)):=by
 rintro pins s σ H vs us Q I r ⟨G,xs,d,sg,dx,hg,q⟩
 obtain⟨x,y,rfl,hg1⟩:=uJ hg;clear hg;have hg:=hg1;clear hg1
 obtain⟨v,u,rfl,da,db⟩:=dx.two
 unfold wX at hg
 split at hg
 ·cases hg;cases da;cases db
  exact Aj hc pins s σ H _ us Q I r ⟨_,_,rfl,cw sg q (.int _)⟩
 ·cases hg
theorem Df:MH X (unaryOp .USub) (rD1 X.K cl (iG .neg)):=by
 rintro pins s σ H x v Q I rx ⟨G,a,d,sg,da,hg,q⟩
 cases a with
 |int i=>cases hg;cases da;exact Gw pins s σ H _ v Q I rx ⟨_,rfl,cw sg q (.int _)⟩
 |_=>cases hg
noncomputable def N1:Nat→String
 |0=>"int"|1=>"bool"|2=>"list"|3=>"tuple"|_=>"str"
noncomputable def N2:D→Option String
 | .non=>some "NoneType"| .bl _=>some "bool"| .int _=>some "int"| .str _=>some "str"| .lst _=>some "list"| .tup _=>some "tuple"| .ins _ _ _=>none| .dic _=>none
noncomputable def pR:D→Nat→Option Bool
 | .non,_=>some false
 | .bl _,0=>some true| .bl _,1=>some true| .bl _,_=>some false
 | .int _,0=>some true| .int _,_=>some false
 | .str _,0=>some false| .str _,1=>some false| .str _,2=>some false| .str _,3=>some false| .str _,_=>some true
 | .lst _,2=>some true| .lst _,_=>some false
 | .tup _,3=>some true| .tup _,_=>some false
 | .ins _ _ _,_=>none
 | .dic _,_=>none
theorem Ez(h:pR d k=some b):∃t,N2 d=some t∧∀K:W.Frag,W.kitOne K (.type t) (.type (N1 k))=some b:=by
 rcases k with _|_|_|_|k<;>cases d<;>cases h<;>exact⟨_,rfl,fun K=>rfl⟩
def OD(K:W.Frag)(H:Hp)(x:V)(t:Value):Prop:=TyOf K H x t∨(t=.type "list"∧∃a xs,x=.ref a∧RL K H a xs)
theorem uk:cz X (.builtin "isinstance") (fun xs H Q=>∃x T t b,xs=[x,.ty T]∧OD X.K H x t∧W.kitOne X.K t (.type T)=some b∧Q (.bl b) H):=by
 intro pins s σ H xs us Q I r h
 obtain⟨x,T,t,b,rfl,ty,k,q⟩:=h
 rcases ty with ty|⟨rfl,a,ys,rfl,hr⟩
 ·exact vI pins s σ H _ us Q I r ⟨x,T,t,b,rfl,ty,k,q⟩
 ·obtain⟨u,v,rfl,ru,rv⟩:=r.two
  cases (show v=Value.type T from rv)
  cases (show u=Value.ref a from ru)
  obtain⟨_,az,n,_,_,h1⟩:=oZ I hr
  exact W.kia_one W.kitx_list I.m3 ⟨_,h1,rfl⟩ k (fun z=>nomatch z) fun tk=>⟨.bl b,H,I.tok _,rfl,q⟩
theorem Gx(h:Dn K cl G v d)(sg:aG G H)(e:N2 d=some t):OD K H v (.type t):=by
 cases h with
 |non=>cases e;exact .inl .non
 |bl b=>cases e;exact .inl (.bl b)
 |int b=>cases e;exact .inl (.int b)
 |str b=>cases e;exact .inl (.str b)
 |lst h1 h2=>cases e;exact .inr ⟨rfl,_,_,rfl,aC sg h1⟩
 |tup h1 h2=>cases e;exact .inl (.tup (sg _ _ h1))
 |ins=>cases e
 |dic=>cases e
end
inductive T where
 |sh(d:D)|ow(ts:List T)|ob(c:Nat)(ks:List Str)(ts:List T)
 deriving Inhabited
mutual
noncomputable def strip:T→D
 | .sh d=>d
 | .ow ts=> .lst (iV ts)
 | .ob c ks ts=> .ins c ks (iV ts)
noncomputable def iV:List T→List D
 |[]=>[]
 |t::r=>strip t::iV r
end
theorem oQ(ts:List T):iV ts=ts.map strip:=by
 induction ts with
 |nil=>rfl
 |cons t r ih=>simp [iV,ih]
mutual
inductive OT(K:W.Frag)(cl:Nat→Option Addr)(G H:Hp):V→T→List Addr→Prop where
 |sh {v:V} {d:D}:Dn K cl G v d→OT K cl G H v (.sh d) []
 |ow {a:Addr} {xs:List V} {ts:List T} {A:List Addr}:H a=some (.lst xs)→G a=none→OTs K cl G H xs ts A→OT K cl G H (.ref a) (.ow ts) (a::A)
 |ob {a C dx:Addr} {c:Nat} {ks:List Str} {vfs:List (Str×V)} {ts:List T} {A:List Addr}:H a=some (.ins C dx vfs)→H dx=some (.own a)→cl c=some C→vfs.map (·.1)=ks→G a=none→G dx=none→OTs K cl G H (vfs.map (·.2)) ts A→OT K cl G H (.ref a) (.ob c ks ts) (a::dx::A)
inductive OTs(K:W.Frag)(cl:Nat→Option Addr)(G H:Hp):List V→List T→List Addr→Prop where
 |nil:OTs K cl G H [] [] []
 |cons {x:V} {t:T} {xs:List V} {ts:List T} {A B:List Addr}:OT K cl G H x t A→OTs K cl G H xs ts B→OTs K cl G H (x::xs) (t::ts) (A++B)
end
section
variable{K:W.Frag}{cl:Nat→Option Addr}{G G' H H':Hp}
mutual
theorem OT.move(hg:aG G G'):∀ {v:V} {t:T} {A:List Addr},OT K cl G H v t A→(∀a∈A,G' a=none)→(∀a∈A,∀o,H a=some o→H' a=some o)→OT K cl G' H' v t A
 |_,_,_,.sh h,_,_=> .sh (h.mono hg)
 |_,_,_,.ow h1 h2 h3,f,k=> .ow (k _ (by simp) _ h1) (f _ (by simp)) (OTs.move hg h3 (fun a ha=>f a (by simp [ha])) fun a ha=>k a (by simp [ha]))
 |_,_,_,.ob h1 h2 h3 h4 h5 h6 h7,f,k=> .ob (k _ (by simp) _ h1) (k _ (by simp) _ h2) h3 h4 (f _ (by simp)) (f _ (by simp)) (OTs.move hg h7 (fun a ha=>f a (by simp [ha])) fun a ha=>k a (by simp [ha]))
theorem OTs.move(hg:aG G G'):∀ {vs:List V} {ts:List T} {A:List Addr},OTs K cl G H vs ts A→(∀a∈A,G' a=none)→(∀a∈A,∀o,H a=some o→H' a=some o)→OTs K cl G' H' vs ts A
 |_,_,_,.nil,_,_=> .nil
 |_,_,_,.cons h hs,f,k=> .cons (OT.move hg h (fun a ha=>f a (by simp [ha])) fun a ha=>k a (by simp [ha])) (OTs.move hg hs (fun a ha=>f a (by simp [ha])) fun a ha=>k a (by simp [ha]))
end
mutual
theorem OT.free:∀ {v:V} {t:T} {A:List Addr},OT K cl G H v t A→∀a∈A,G a=none∧∃o,H a=some o
 |_,_,_,.sh h,a,ha=>absurd ha (by simp)
 |_,_,_,.ow h1 h2 h3,b,hb=>by
  rcases fY.mp hb with rfl|hb
  ·exact⟨h2,_,h1⟩
  ·exact OTs.free h3 b hb
 |_,_,_,.ob h1 h2 h3 h4 h5 h6 h7,b,hb=>by
  rcases fY.mp hb with rfl|hb
  ·exact⟨h5,_,h1⟩
  ·rcases fY.mp hb with rfl|hb
   ·exact⟨h6,_,h2⟩
   ·exact OTs.free h7 b hb
theorem OTs.free:∀ {vs:List V} {ts:List T} {A:List Addr},OTs K cl G H vs ts A→∀a∈A,G a=none∧∃o,H a=some o
 |_,_,_,.nil,a,ha=>absurd ha (by simp)
 |_,_,_,.cons h hs,a,ha=>(fv.mp ha).elim (OT.free h a) (OTs.free hs a)
end
theorem OTs.length:∀ {vs:List V} {ts:List T} {A:List Addr},OTs K cl G H vs ts A→vs.length=ts.length
 |_,_,_,.nil=>rfl
 |_,_,_,.cons _ t=>by simp [OTs.length t]
theorem OTs.AY:∀ {vs:List V} {ds:List D},Dns K cl G vs ds→OTs K cl G H vs (ds.map T.sh) []
 |_,_,.nil=> .nil
 |_,_,.cons h t=> .cons (A:=[]) (B:=[]) (.sh h) (OTs.AY t)
theorem OTs.unsh:∀ {vs:List V} {ds:List D} {A:List Addr},OTs K cl G H vs (ds.map T.sh) A→Dns K cl G vs ds∧A=[]
 |_,[],_,.nil=>⟨.nil,rfl⟩
 |_,d::r,_,.cons (.sh h) t=>by
  obtain⟨a,b⟩:=OTs.unsh t
  exact⟨.cons h a,by rw [b];rfl⟩
structure Frz(G G' H:Hp)(A:List Addr):Prop where
 gg:aG G G'
 gh:aG G' H
 on:∀b,b∉A→G' b=G b
mutual
theorem OT.freeze:∀ {G:Hp} {v:V} {t:T} {A:List Addr},aG G H→OT K cl G H v t A→A.Nodup→∃G',Frz G G' H A∧Dn K cl G' v (strip t)
 |G,_,_,_,sg,.sh h,_=>⟨G,⟨.refl _,sg,fun _ _=>rfl⟩,h⟩
 |G,_,_,_,sg,@OT.ow _ _ _ _ a xs ts A h1 h2 h3,nd=>by
  obtain⟨na,nd'⟩:=iO.mp nd
  obtain⟨G1,f1,d1⟩:=OTs.freeze sg h3 nd'
  have e1:G1 a=none:=by rw [f1.on a na];exact h2
  have s1:aG G1 (bp G1 a (.lst xs)):=aO e1 _
  refine⟨bp G1 a (.lst xs),⟨f1.gg.trans s1,fun b o q=> ?_,fun b hb=> ?_⟩,?_⟩
  ·by_cases e:b=a
   ·subst e;rw [ak]at q;cases q;exact h1
   ·rw [ag e]at q;exact f1.gh _ _ q
  ·rw [ag (fun e=>hb (by simp [e]))]
   exact f1.on b fun z=>hb (by simp [z])
  ·show Dn K cl _ _ (.lst (iV ts))
   exact .lst (.inl (.inl ak)) (d1.mono s1)
 |G,_,_,_,sg,@OT.ob _ _ _ _ a C dx c ks vfs ts A h1 h2 h3 h4 h5 h6 h7,nd=>by
  obtain⟨na,nd'⟩:=iO.mp nd
  obtain⟨nx,nd'⟩:=iO.mp nd'
  obtain⟨nax,na⟩:a≠dx∧a∉A:=⟨fun e=>na (by simp [e]),fun e=>na (by simp [e])⟩
  obtain⟨G1,f1,d1⟩:=OTs.freeze sg h7 nd'
  have e1:G1 a=none:=by rw [f1.on a na];exact h5
  have e2:G1 dx=none:=by rw [f1.on dx nx];exact h6
  have s1:aG G1 (bp G1 a (.ins C dx vfs)):=aO e1 _
  have e3:bp G1 a (.ins C dx vfs) dx=none:=by rw [ag (Ne.symm nax)];exact e2
  have s2:aG (bp G1 a (.ins C dx vfs)) (bp (bp G1 a (.ins C dx vfs)) dx (.own a)):=aO e3 _
  refine⟨bp (bp G1 a (.ins C dx vfs)) dx (.own a),⟨f1.gg.trans (s1.trans s2),fun b o q=> ?_,fun b hb=> ?_⟩,?_⟩
  ·by_cases e:b=dx
   ·subst e;rw [ak]at q;cases q;exact h2
   ·rw [ag e]at q
    by_cases e:b=a
    ·subst e;rw [ak]at q;cases q;exact h1
    ·rw [ag e]at q;exact f1.gh _ _ q
  ·rw [ag (fun e=>hb (by simp [e])),ag (fun e=>hb (by simp [e]))]
   exact f1.on b fun z=>hb (by simp [z])
  ·show Dn K cl _ _ (.ins c ks (iV ts))
   exact .ins (by rw [ag nax];exact ak) h3 h4 (d1.mono (s1.trans s2))
theorem OTs.freeze:∀ {G:Hp} {vs:List V} {ts:List T} {A:List Addr},aG G H→OTs K cl G H vs ts A→A.Nodup→∃G',Frz G G' H A∧Dns K cl G' vs (iV ts)
 |G,_,_,_,sg,.nil,_=>⟨G,⟨.refl _,sg,fun _ _=>rfl⟩,.nil⟩
 |G,_,_,_,sg,@OTs.cons _ _ _ _ x t xs ts A B h hs,nd=>by
  obtain⟨n1,n2,n3⟩:=eX.mp nd
  obtain⟨G1,f1,d1⟩:=OT.freeze sg h n1
  have hs':OTs K cl G1 H xs ts B:=OTs.move f1.gg hs (fun a ha=>by
   rw [f1.on a (fun z=>n3 a z a ha rfl)];exact(hs.free a ha).1) fun _ _ _ q=>q
  obtain⟨G2,f2,d2⟩:=OTs.freeze f1.gh hs' n2
  refine⟨G2,⟨f1.gg.trans f2.gg,f2.gh,fun b hb=> ?_⟩,.cons (d1.mono f2.gg) d2⟩
  rw [f2.on b (fun z=>hb (nK _ z)),f1.on b (fun z=>hb (Aq _ z))]
end
theorem Frz.ext(f:Frz G G' H A)(e:Ext H0 G0 H G)(n:∀a∈A,H0 a=none):Ext H0 G0 H G':=
 ⟨e.hh,e.gg.trans f.gg,f.gh,fun b o h1 h2=>by
   by_cases hb:b∈A
   ·exact n b hb
   ·rw [f.on b hb]at h1;exact e.nw b o h1 h2⟩
theorem OT.vY(sg:aG G H)(h:OT K cl G H v t A)(nd:A.Nodup):Dn K cl H v (strip t):=by
 obtain⟨G',f,d⟩:=h.freeze sg nd
 exact d.mono f.gh
end
inductive spP(K:W.Frag)(cl:Nat→Option Addr)(g:List D→Option T)(vs:List V)(H:Hp)(Q:VK)(E9:XK):Prop where
 |mk (G:Hp) (ds:List D) (t:T):(aG G H)→(Dns K cl G vs ds)→(g ds=some t)→(∀v H' G' A,Ext H G H' G'→OT K cl G' H' v t A→A.Nodup→(∀a∈A,H a=none)→Q v H')→spP K cl g vs H Q E9
theorem GG{g:List D→Option T}{Q:VK}(h:∃G ds t,aG G H∧Dns K cl G vs ds∧g ds=some t∧∀v H' G',Ext H G H' G'→Dn K cl G' v (strip t)→Q v H'):spP K cl g vs H Q E:=by
 obtain⟨G,ds,t,sg,dn,hg,q⟩:=h
 refine⟨G,ds,t,sg,dn,hg,fun v H' G' A e o nd n=> ?_⟩
 obtain⟨G2,f,d⟩:=o.freeze e.gh nd
 exact q v H' G2 (f.ext e n) d
inductive E where
 |var(i:Nat)|int(i:Int)|bl(b:Bool)|non|str(x:Str)
 |bin(op:Operator)(a b:E)|un(f:U)(a:E)|not(a:E)
 |cmp(op:CmpOp)(a b:E)|ch(op op':CmpOp)(a b c:E)|ch3(o1 o2 o3:CmpOp)(a b c d:E)
 |and(a b:E)|or(a b:E)|ite(c a b:E)
 |idx(a b:E)|cut(a lo hi:E)|rev(a:E)
 |lst(es:E)|tup(es:E)
 |mn(a b:E)|mx(a b:E)|isi(a:E)(k:Nat)
 |comp(elt:E)(is:List Nat)(it c:E)
 |rng(a:E)|rng2(a b:E)|dn(a:E)|mxd(a d:E)|ind(a b:E)|enm(a:E)|zp(a b:E)|rvd(a:E)
 |call(f:Nat)(args:E)
 |fld(a:E)(f:Str)
 |meth(o:E)(k:Nat)(args:E)
 |isc(a:E)(j:Nat)
 |nil|cons(a r:E)
noncomputable abbrev Env:=List (Option D)
noncomputable abbrev bu:=Nat→Option (List D→Option T)
noncomputable def cT:D→Option Bool
 | .bl b=>some b
 | .int i=>some (i !=0)
 |_=>none
noncomputable def oc:Option D→List D→List D
 |some y,l=>y::l
 |none,l=>l
noncomputable def dq(f:D→Option (Option D)):List D→Option (List D)
 |[]=>some []
 |d::r=>(f d).bind fun o=>(dq f r).map fun l=>oc o l
noncomputable def uT(lo hi:Int):Option (List D):=if decide (-(2 ^ 60)≤lo∧lo≤2 ^ 60∧-(2 ^ 60)≤hi∧hi≤2 ^ 60)then some ((List.range (hi-lo).toNat).map fun(i:Nat)=>D.int (lo+i))else none
noncomputable def dG(k:Nat):List D→List D
 |[]=>[]
 |d::r=> .tup [.int k,d]::dG (k+1) r
noncomputable def jW:List D→List D→List D
 |a::r,b::t=> .tup [a,b]::jW r t
 |_,_=>[]
noncomputable def inner(env:Env)(is:List Nat)(d:D):Env:=some d::is.map fun k=>(env[k]?).join
noncomputable def m8(x:D):D→Option D
 | .lst l=>some (.lst (x::l))
 |_=>none
noncomputable def lD:E→Bool
 | .rng _=>true
 | .rng2 _ _=>true
 | .dn _=>true
 |_=>false
noncomputable def Mx(o:Option E):Option E:=o.bind fun m=>if lD m then none else some m
noncomputable def m5:E→Bool
 | .nil=>true
 |_=>false
noncomputable def mq(m:E)(o:Option D):Option (Option Int):=if m5 m then some none else match o with
 |some (.int i)=>some (some i)
 |_=>none
noncomputable def cS(m:E)(o:Option D):Option Bool:=if m5 m then some true else o.bind cT
noncomputable def bx:D→Option (List D)
 | .lst l=>some l
 |_=>none
noncomputable def kZ:D→Option (List D)
 | .lst l=>some l
 | .tup l=>some l
 |_=>none
noncomputable def wU:D→Option D
 | .bl b=>some (.bl (!b))
 |_=>none
noncomputable def Kl:D→Option D
 | .lst l=>if sz l.length then some (.lst l)else none
 |_=>none
noncomputable def Mt:D→Option D
 | .lst l=>if sz l.length then some (.tup l)else none
 |_=>none
noncomputable def oY:D→D→Option D
 | .int n,.int m=>(uT n m).map .lst
 |_,_=>none
noncomputable def OP(d:Int)(ns:List Int):Int:=(La ns).getD d
noncomputable def K9:D→D→Option D
 | .lst l,.int d=>(cQ l).map fun ns=> .int (OP d ns)
 |_,_=>none
noncomputable def BQ:D→D→Option D
 | .lst l,.int k=>(cQ l).bind fun ns=>if PyData.layable0 (.list (ns.map .int))&&ns.contains k then some (.int (ns.idxOf k:Nat))else none
 |_,_=>none
noncomputable def ET:D→Option D
 | .lst l=>some (.lst (dG 0 l))
 |_=>none
noncomputable def JJ:D→D→Option D
 | .lst l,.lst m=>some (.lst (jW l m))
 |_,_=>none
noncomputable def pW(z:D)(a b:Option D):Option D:=match z with
 | .bl true=>a
 | .bl false=>b
 |_=>none
noncomputable def xx(f:Str):D→Option D
 | .ins _ ks ds=>(ks.zip ds).lookup f
 |_=>none
noncomputable def zh(c j:Nat):Bool:=c==j||(j==0&&decide (1≤c∧c≤4))
noncomputable def EA(j:Nat):D→Option D
 | .ins c _ _=>some (.bl (zh c j))
 |_=>none
noncomputable def uB:List Str:=["shows","unmark","ahead","place_behind"]
noncomputable def jZ(c k:Nat):Nat:=1000+10*c+k
noncomputable def tK(Γ:bu)(k:Nat):D→Option (List D→Option T)
 | .ins c ks _=>if ks.contains (uB.getD k "")then none else Γ (jZ c k)
 |_=>none
noncomputable def ev(Γ:bu):E→Env→Option D
 | .var i,env=>(env[i]?).join
 | .int i,_=>some (.int i)
 | .bl b,_=>some (.bl b)
 | .non,_=>some .non
 | .str x,_=>some (.str x)
 | .bin op a b,env=>(ev Γ a env).bind fun x=>(ev Γ b env).bind fun y=>dI op x y
 | .un f a,env=>(ev Γ a env).bind (iG f)
 | .not a,env=>(ev Γ a env).bind wU
 | .cmp op a b,env=>(ev Γ a env).bind fun x=>(ev Γ b env).bind fun y=>bV op x y
 | .ch o1 o2 a b c,env=>(ev Γ a env).bind fun x=>(ev Γ b env).bind fun y=>(bV o1 x y).bind fun z=>pW z ((ev Γ c env).bind fun w=>bV o2 y w) (some (.bl false))
 | .ch3 o1 o2 o3 a b c d,env=>(ev Γ a env).bind fun x=>(ev Γ b env).bind fun y=>(bV o1 x y).bind fun z=>pW z ((ev Γ c env).bind fun w=>(bV o2 y w).bind fun z2=>pW z2 ((ev Γ d env).bind fun w2=>bV o3 w w2) (some (.bl false))) (some (.bl false))
 | .and a b,env=>(ev Γ a env).bind fun x=>pW x (ev Γ b env) (some (.bl false))
 | .or a b,env=>(ev Γ a env).bind fun x=>pW x (some (.bl true)) (ev Γ b env)
 | .ite c a b,env=>((ev Γ c env).bind cT).bind fun x=>if x then ev Γ a env else ev Γ b env
 | .idx a b,env=>(ev Γ a env).bind fun x=>(ev Γ b env).bind fun y=>tT x y
 | .cut a lo hi,env=>(ev Γ a env).bind fun x=>(mq lo (ev Γ lo env)).bind fun l=>(mq hi (ev Γ hi env)).bind fun h=>nY x l h
 | .rev a,env=>(ev Γ a env).bind uW
 | .lst es,env=>(ev Γ es env).bind Kl
 | .tup es,env=>(ev Γ es env).bind Mt
 | .mn a b,env=>(ev Γ a env).bind fun x=>(ev Γ b env).bind fun y=>BI x y
 | .mx a b,env=>(ev Γ a env).bind fun x=>(ev Γ b env).bind fun y=>wX x y
 | .isi a k,env=>(ev Γ a env).bind fun x=>(pR x k).map .bl
 | .comp elt is it c,env=>((ev Γ it env).bind kZ).bind fun ds=>if sz ds.length then(dq (fun d=>(cS c (ev Γ c (inner env is d))).bind fun b=>if b then(ev Γ elt (inner env is d)).map some else some none) ds).map .lst else none
 | .call f args,env=>(Γ f).bind fun g=>((ev Γ args env).bind bx).bind fun l=>(g l).map strip
 | .rng a,env=>(ev Γ a env).bind fun x=>oY (.int 0) x
 | .rng2 a b,env=>(ev Γ a env).bind fun x=>(ev Γ b env).bind fun y=>oY x y
 | .dn a,env=>(ev Γ a env).bind (iG .ldn)
 | .mxd a d,env=>(ev Γ a env).bind fun x=>(ev Γ d env).bind fun y=>K9 x y
 | .ind a b,env=>(ev Γ a env).bind fun x=>(ev Γ b env).bind fun y=>BQ x y
 | .enm a,env=>(ev Γ a env).bind ET
 | .zp a b,env=>(ev Γ a env).bind fun x=>(ev Γ b env).bind fun y=>JJ x y
 | .rvd a,env=>(ev Γ a env).bind uW
 | .fld a f,env=>(ev Γ a env).bind (xx f)
 | .meth o k args,env=>(ev Γ o env).bind fun x=>(tK Γ k x).bind fun g=>((ev Γ args env).bind bx).bind fun l=>(g (x::l)).map strip
 | .isc a j,env=>(ev Γ a env).bind (EA j)
 | .nil,_=>some (.lst [])
 | .cons a r,env=>(ev Γ a env).bind fun x=>(ev Γ r env).bind fun y=>m8 x y
noncomputable def bG(Γ:bu)(e:E)(env:Env):Option Bool:=(ev Γ e env).bind cT
noncomputable def jM(Γ:bu)(e:E)(env:Env):Option (List D):=(ev Γ e env).bind bx
noncomputable def az(Γ:bu)(e:E)(env:Env):Option (List D):=(ev Γ e env).bind kZ
example (Γ:bu) (a b:E) (env:Env):ev Γ (.idx a b) env=(ev Γ a env).bind fun x=>(ev Γ b env).bind fun y=>tT x y:=rfl
structure CC where
 tab:List (Str×Nat)
 gi:List (Str×Int)
 cn:List (Str×Nat):=[]
noncomputable def cg:List Str→Str→Option Nat
 |[],_=>none
 |y::r,x=>if y==x then some 0 else(cg r x).map (· +1)
theorem cG:∀ {N:List Str} {x:Str} {i:Nat},cg N x=some i→N[i]?=some x
 |[],_,_,h=>by cases h
 |y::r,x,i,h=>by
  unfold cg at h
  split at h
  ·rename_i e
   cases h
   rw [show y=x by simpa using e];rfl
  ·obtain⟨j,e,rfl⟩:=aM h
   simpa using cG e
noncomputable def b5:Expr→Bool
 | .Starred _ _=>false
 | .Set _ _ _=>false
 | .Slice _ _ _ _=>false
 | .Lambda _ _ _ _=>false
 |_=>true
noncomputable def oo:Expr→Bool
 | .IfExp _ _ _ _=>false
 |_=>true
noncomputable def j7(x:Str):Bool:= !(x==("__debug__":Str))&& !(x==("__classdict__":Str))&& !(x==("__name__":Str))
noncomputable def vV:List Str:=["pairs","rings","things","moves","falls","counts"]
noncomputable def eU:Expr→Bool
 | .Call (.Name _ _) [] [] _=>false
 |_=>true
noncomputable def JF:List Str:=["len","list","range","sorted","any","all","min","max","isinstance","int","bool","tuple","str","set","enumerate","zip","reversed","sum"]
noncomputable def sQ(x:Str):Option Nat:=if x==("int":Str)then some 0 else if x==("bool":Str)then some 1 else if x==("list":Str)then some 2 else if x==("tuple":Str)then some 3 else if x==("str":Str)then some 4 else none
noncomputable def gn(f:Expr→Option E):List Expr→Option E
 |[]=>some .nil
 |e::r=>(f e).bind fun m=>(gn f r).map fun l=> .cons m l
noncomputable def vL(f:Expr→Option E):List Expr→Option E
 |[]=>none
 |[a]=>if oo a then f a else none
 |a::b::r=>if oo a then(f a).bind fun m=>(vL f (b::r)).map fun l=> .and m l else none
noncomputable def FX(f:Expr→Option E):List Expr→Option E
 |[]=>none
 |[a]=>if oo a then f a else none
 |a::b::r=>if oo a then(f a).bind fun m=>(FX f (b::r)).map fun l=> .or m l else none
noncomputable def gZ(N:List Str)(sc:Scope)(x:Str):Bool:=j7 x&&(cg N x).isNone&&decide (sc.names.lookup x=some .globalImplicit)
noncomputable def cB(g:Str→Bool)(cn:Str→Option Nat)(f:Expr→Option E)(x:Str):List Expr→Option E
 |[a]=>
  if x==("len":Str)then(f a).map (.un .len)
  else if x==("list":Str)then(match a with
   | .Call (.Name y _) [b] [] _=>if g y&&(y==("range":Str))&&b5 b then(f b).map (.un .lrng)else(f a).map (.un .list)
   |_=>(f a).map (.un .list))
  else if x==("sorted":Str)then(f a).map (.un .sorted)
  else if x==("any":Str)then(f a).map (.un .any)
  else if x==("all":Str)then(f a).map (.un .all)
  else if x==("sum":Str)then(f a).map (.un .sum)
  else none
 |[a,b]=>
  if x==("min":Str)then(f a).bind fun m=>(f b).map fun l=> .mn m l
  else if x==("max":Str)then(f a).bind fun m=>(f b).map fun l=> .mx m l
  else if x==("isinstance":Str)then(match b with
   | .Name t _=>(match cn t with
     |some j=>(f a).map fun m=> .isc m j
     |none=>if g t then(sQ t).bind fun k=>(f a).map fun m=> .isi m k else none)
   |_=>none)
  else none
 |_=>none
noncomputable def cI(tt:Bool)(g:Str→Bool)(own:Str→Bool)(f:Expr→Option E)(e:Expr):Option E:=match e with
 | .Call (.Name x _) [a] [] _=>
   if g x&& !own x&&(x==("range":Str))&&b5 a then(f a).map .rng
   else if tt&&g x&& !own x&&(x==("enumerate":Str))&&b5 a then(f a).map .enm
   else if g x&& !own x&&(x==("reversed":Str))&&b5 a then(f a).map .rvd
   else Mx (f e)
 | .Call (.Name x _) [a,b] [] _=>
   if g x&& !own x&&(x==("range":Str))&&(b5 a&&b5 b)then(f a).bind fun m=>(f b).map fun l=> .rng2 m l
   else if tt&&g x&& !own x&&(x==("zip":Str))&&(b5 a&&b5 b)then(f a).bind fun m=>(f b).map fun l=> .zp m l
   else Mx (f e)
 |_=>Mx (f e)
noncomputable def bK(names:List (Str×NameKind)):List Str:=names.filterMap fun y=>if y.2=.free then some y.1 else none
noncomputable def lu(N:List Str):List Str→Option (List Nat)
 |[]=>some []
 |x::r=>(cg N x).bind fun i=>(lu N r).map fun l=>i::l
noncomputable def qh(sc:Scope)(N:List Str)(scope:Scope)(x:Str)(fr:List Str)(is:List Nat):Bool:=
 decide (scope.kind=.function∧(∀y∈scope.names,y.2≠.cell)∧(∀y∈scope.names,y.2=.local→scope.names.lookup y.1=some .local)∧scope.names.lookup x=some .local∧(x::fr).Nodup∧
  (∀y∈scope.names,y.2=.free→sc.names.lookup y.1=some .cell∨sc.names.lookup y.1=some .free)∧(∀n∈fr,scope.names.lookup n=some .free)∧(is.map fun k=>N[k]?)=fr.map some)
theorem hV(h:qh sc N scope x fr is=true):CompScope sc N scope x fr is:=by
 obtain⟨h1,h2,h3,h4,h5,h6,h7,h8⟩:=fm h
 exact⟨h1,h2,h3,h4,h5,h6,h7,h8⟩
noncomputable def xQ(f:Expr→Option E):Option Expr→Option E
 |none=>some .nil
 |some e=>if b5 e then(f e).bind fun m=>if m5 m then none else some m else none
noncomputable def LX(f:Expr→Option E):List Expr→Option E
 |[]=>some .nil
 |[t]=>if oo t then(f t).bind fun m=>if m5 m then none else some m else none
 |_=>none
noncomputable def IL(c:CC)(N:List Str)(sc:Scope)(x:Str):Option E:=if j7 x then(match cg N x with
 |some i=>some (.var i)
 |none=>if sc.names.lookup x=some .globalImplicit then(c.gi.lookup x).map .int else none)else none
noncomputable def OA:Const→Option E
 | .int i=>some (.int i)
 | .bool b=>some (.bl b)
 | .none=>some .non
 | .str x=>some (.str x)
 |_=>none
noncomputable def OR(r:Expr→Option E)(a:Expr):UnaryOp→Option E
 | .USub=>(r a).map (.un .neg)
 | .Not=>if oo a then(r a).map .not else none
 |_=>none
noncomputable def LY(r:Expr→Option E)(a:Expr):List CmpOp→List Expr→Option E
 |[op],[b]=>if b5 b then(r a).bind fun m=>(r b).map fun l=> .cmp op m l else none
 |[op,op'],[b,d]=>if b5 b&&b5 d then(r a).bind fun m=>(r b).bind fun l=>(r d).map fun k=> .ch op op' m l k else none
 |_,_=>none
noncomputable def OW(r:Expr→Option E)(vs:List Expr):BoolOp→Option E
 | .And=>if 2≤vs.length then vL r vs else none
 | .Or=>if 2≤vs.length then FX r vs else none
noncomputable def E8(c:CC)(N:List Str)(sc:Scope)(r:Expr→Option E)(x:Str)(args:List Expr):Option E:=if args.all b5&&gZ N sc x then(match c.tab.lookup x with
 |some f=>if args.isEmpty then none else(gn r args).map (.call f)
 |none=>cB (fun y=>gZ N sc y&&(c.tab.lookup y).isNone) (fun y=>if gZ N sc y then c.cn.lookup y else none) r x args)else none
noncomputable def zJ:Expr→Option Str
 | .Name x _=>some x
 |_=>none
noncomputable def mJ(apos cpos:Pos):Bool:=apos.endLine==cpos.line
noncomputable def xR:Expr→Option (Str×Pos×Str×Pos)
 | .Attribute (.Name x p) m q=>some (x,p,m,q)
 |_=>none
noncomputable def JL:E→Option Nat
 | .var i=>some i
 |_=>none
noncomputable def FY(r:Expr→Option E)(pos:Pos)(o:Str×Pos×Str×Pos)(args:List Expr):Option E:=if args.all b5&& !args.isEmpty&&mJ o.2.2.2 pos&&decide (args.length<30)then(cg uB o.2.2.1).bind fun k=>((r (.Name o.1 o.2.1)).bind JL).bind fun i=>(gn r args).map fun ml=> .meth (.var i) k ml else none
noncomputable def FZ(r:Expr→Option E)(pos:Pos)(o:Str×Pos×Str×Pos):List Expr→Option E
 |[a]=>if b5 a&&mJ o.2.2.2 pos then((r (.Name o.1 o.2.1)).bind fun mo=>(r a).map fun ma=> .ind mo ma)else none
 |_=>none
noncomputable def OV(c:CC)(N:List Str)(sc:Scope)(r:Expr→Option E)(pos:Pos)(f:Expr)(args:List Expr):List Keyword→Option E
 |[]=>(match xR f with
  |some om=>if om.2.2.1==("index":Str)then FZ r pos om args else FY r pos om args
  |none=>(zJ f).bind fun x=>E8 c N sc r x args)
 |_=>none
noncomputable def OS(r:Expr→Option E)(m:E)(lo hi:Option Expr):Option Expr→Option E
 |none=>(xQ r lo).bind fun ml=>(xQ r hi).map fun mh=> .cut m ml mh
 |some st=>if lo.isNone&&hi.isNone then(match r st with
  |some (.un .neg (.int 1))=>some (.rev m)
  |_=>none)else none
noncomputable def IJ(r:Expr→Option E)(m:E)(e:Expr):Option E:=match e with
 | .Slice lo hi st _=>OS r m lo hi st
 |_=>if b5 e then(r e).map fun l=> .idx m l else none
noncomputable def E2(c:CC)(N:List Str)(sc:Scope)(r:Expr→Option E)(q:List Str→Expr→Option E)(elt:Expr)(scope:Scope):List Comprehension→Option E
 |[⟨.Name x _,iter,ifs,0⟩]=>
  if b5 iter then(lu N (bK scope.names)).bind fun is=>if qh sc N scope x (bK scope.names) is then
   (cI false (gZ N sc) (fun y=>(c.tab.lookup y).isSome) r iter).bind fun mi=>
   (q (x::bK scope.names) elt).bind fun me=>(LX (q (x::bK scope.names)) ifs).map fun mc=> .comp me is mi mc
  else none else none
 |_=>none
noncomputable def cE(c:CC):Nat→Bool→List Str→Scope→Expr→Option E
 |0,_,_,_,_=>none
 |n+1,aQ,N,sc,e=>match e with
  | .Name x _=>IL c N sc x
  | .Constant k _ _=>OA k
  | .BinOp a op b _=>(cE c n aQ N sc a).bind fun m=>(cE c n aQ N sc b).map fun l=> .bin op m l
  | .UnaryOp op a _=>OR (cE c n aQ N sc) a op
  | .Compare a ops bs _=>LY (cE c n aQ N sc) a ops bs
  | .BoolOp op vs _=>OW (cE c n aQ N sc) vs op
  | .IfExp t a b _=>if oo t then(cE c n aQ N sc t).bind fun k=>(cE c n aQ N sc a).bind fun m=>(cE c n aQ N sc b).map fun l=> .ite k m l else none
  | .Call f args ks pos=>OV c N sc (cE c n aQ N sc) pos f args ks
  | .Subscript a b _=>(cE c n aQ N sc a).bind fun m=>IJ (cE c n aQ N sc) m b
  | .List es _=>if es.all b5 then(gn (cE c n aQ N sc) es).map .lst else none
  | .Attribute a f _=>if vV.contains f&&eU a then(cE c n aQ N sc a).map (.fld · f)else none
  | .Tuple es _ _=>if es.all b5 then(gn (cE c n aQ N sc) es).map .tup else none
  | .ListComp elt gs scope _=>if aQ then E2 c N sc (cE c n aQ N sc) (fun N' e=>cE c n false N' scope e) elt scope gs else none
  |_=>none
def eV(K:W.Frag)(cl:Nat→Option Addr)(G:Hp)(env:Env)(σ:St):Prop:=∀(i:Nat) (d:D),env[i]?=some (some d)→∃v,σ[i]?=some (some v)∧Dn K cl G v d
theorem eV.mono(h:eV K cl G env σ)(e:aG G G'):eV K cl G' env σ:=fun i d q=>let ⟨v,a,b⟩:=h i d q;⟨v,a,b.mono e⟩
theorem eV.inner(h:eV K cl G env σ)(hv:Dn K cl G v d)(is:List Nat):eV K cl G (inner env is d) (gF σ is (some v)):=by
 intro i e q
 cases i with
 |zero=>
  have q':some (some d)=some (some e):=q
  cases q'
  exact⟨v,rfl,hv⟩
 |succ i=>
  have q':(is.map fun k=>(env[k]?).join)[i]?=some (some e):=q
  rw [eK]at q'
  cases hk:is[i]? with
  |none=>rw [hk]at q';cases q'
  |some k=>
   rw [hk]at q'
   have q2:(env[k]?).join=some e:=cC q'
   have q3:env[k]?=some (some e):=by
    cases z:env[k]? with
    |none=>rw [z]at q2;cases q2
    |some o=>rw [z]at q2;rw [show o=some e from q2]
   obtain⟨u,h1,h2⟩:=h k e q3
   refine⟨u,?_,h2⟩
   show(is.map fun k=>(σ[k]?).join)[i]?=some (some u)
   rw [eK,hk]
   show some ((σ[k]?).join)=_
   rw [h1];rfl
section
variable(K:W.Frag)(cl:Nat→Option Addr)(Γ:bu)
inductive tV(m:E)(σ:St)(H:Hp)(Q:VK):Prop where
 |mk (G:Hp) (env:Env) (d:D):(aG G H)→(eV K cl G env σ)→(ev Γ m env=some d)→(∀v H' G',Ext H G H' G'→Dn K cl G' v d→Q v H')→tV m σ H Q
inductive tVs(m:E)(σ:St)(H:Hp)(Q:List V→Hp→Prop):Prop where
 |mk (G:Hp) (env:Env) (l:List D):(aG G H)→(eV K cl G env σ)→(jM Γ m env=some l)→(∀vs H' G',Ext H G H' G'→Dns K cl G' vs l→Q vs H')→tVs m σ H Q
inductive tVT(m:E)(σ:St)(H:Hp)(Q:Bool→Hp→Prop):Prop where
 |mk (G:Hp) (env:Env) (b:Bool):(aG G H)→(eV K cl G env σ)→(bG Γ m env=some b)→(∀H' G',Ext H G H' G'→Q b H')→tVT m σ H Q
inductive tVO(m:E)(σ:St)(H:Hp)(Q:Option Int→Hp→Prop):Prop where
 |mk (G:Hp) (env:Env) (o:Option Int):(aG G H)→(eV K cl G env σ)→(mq m (ev Γ m env)=some o)→(∀H' G',Ext H G H' G'→Q o H')→tVO m σ H Q
def Wk(J:It)(G:Hp)(ds:List D):Prop:=∀(H G2:Hp) (i:Nat),aG G G2→aG G2 H→(i=ds.length→J.stop i H)∧∀d,ds[i]?=some d→J.go i H∧∀v H',J.yld i H v H'→∃G3,Ext H G2 H' G3∧Dn K cl G3 v d
inductive tI(m:E)(σ:St)(H:Hp)(R:It→Hp→Prop):Prop where
 |mk (G:Hp) (env:Env) (ds:List D):(aG G H)→(eV K cl G env σ)→(az Γ m env=some ds)→(∀J H' G',Ext H G H' G'→Wk K cl J G' ds→(lD m=true→∀G2,Wk K cl J G2 ds)→R J H')→tI m σ H R
end
theorem fj{t':TE}(h:PE X e t)(i:∀σ H Q,t' σ H Q→t σ H Q):PE X e t':=fun pins s σ H Q I q=>h pins s σ H Q I (i σ H Q q)
theorem Ju{t':TT}(h:PT X e t)(i:∀σ H Q,t' σ H Q→t σ H Q):PT X e t':=fun pins s σ H Q I q=>h pins s σ H Q I (i σ H Q q)
theorem Oe{t':TT}(h:PW X e t)(i:∀σ H Q,t' σ H Q→t σ H Q):PW X e t':=fun w pins s σ H Q I q=>h w pins s σ H Q I (i σ H Q q)
theorem Og{t':TA}(h:PA X e t)(i:∀σ H Q,t' σ H Q→t σ H Q):PA X e t':=fun p pins s σ H Q I q=>h p pins s σ H Q I (i σ H Q q)
theorem KN{t':TI}(h:PI X tg e t)(i:∀σ H Q,t' σ H Q→t σ H Q):PI X tg e t':=fun pins s σ H Q I q=>h pins s σ H Q I (i σ H Q q)
inductive spM(K:W.Frag)(cl:Nat→Option Addr)(C:Addr)(g:List D→Option T)(vs:List V)(H':Hp)(Q:VK)(E9:XK):Prop where
 |mk (H:Hp) (G:Hp) (x:Addr) (dx:Addr) (vs':List V) (ds:List D) (t:T):(vs=.ref x::vs')→(H x=none)→(H dx=none)→(dx≠x)→(H'=bp (bp H dx (.own x)) x (.ins C dx []))→(aG G H)→(Dns K cl G vs' ds)→(g ds=some t)→(∀H2 G2 A,Ext H G H2 G2→OT K cl G2 H2 (.ref x) t A→A.Nodup→(∀a∈A,H a=none)→Q .non H2)→spM K cl C g vs H' Q E9
structure GoodCall(X:Cx)(cl:Nat→Option Addr)(x:Str)(g:List D→Option T):Prop where
 ex:(∃k fa fd ps,FnOk X.prog X.w X.K X.mg X.base km k fa fd ps (spP X.K cl g)∧Room k X.A∧X.mg x=some (.ref fa)∧W.keepIn X.K (.ref fa)=true∧cA X.K fd ps [])∨
  ∃k C f fd ps,Mk X.K C f∧FnOk X.prog X.w X.K X.mg X.base km k f fd ps (spM X.K cl C g)∧Room (k+1) X.A∧X.mg x=some (.ref C)∧cA X.K fd ps []
structure GoodMeth(X:Cx)(cl:Nat→Option Addr)(C:Addr)(m:Str)(g:List D→Option T):Prop where
 ex:∃k f fd ps,Meth X.K C m f∧FnOk X.prog X.w X.K X.mg X.base km k f fd ps (spP X.K cl g)∧Room k X.A∧cA X.K fd ps []
structure ClsT(K:W.Frag)(C:Addr):Prop where
 ha:W.findIn K (.ref C) "__class__"=some (some (.builtin "object.__class__"))
 hn:W.specialIn K (.builtin "object.__class__") "__get__"=some (some (.builtin "getset_descriptor.__get__"))
 htk:W.takesIn K (.builtin "object.__class__")=some true
 hm:W.mroIn K C (.type "object")=some true
def gw(K:W.Frag)(cl:Nat→Option Addr):Prop:=(∀k C,cl k=some C→Cls K C∧(∀f∈vV,jy K C f)∧ClsT K C)∧∀i I j J,cl i=some I→cl j=some J→W.kitOne K (.ref I) (.ref J)=some (zh i j)
structure Sees(X:Cx)(cl:Nat→Option Addr)(c:CC)(Γ:bu)(aQ:Bool)(N:List Str)(sc:Scope):Prop where
 hN:X.N=N
 vis:∀(i:Nat) (x:Str),N[i]?=some x→Ml X.env.scope x
 gl:∀x,sc.names.lookup x=some .globalImplicit→Gl X x
 tp:aQ=true→X.env.scope=sc
 calm:X.calm=true
 hu:X.A.units+64<cLine
 blt:∀x∈JF,X.mg x=none
 fn:∀x f g,c.tab.lookup x=some f→Γ f=some g→GoodCall X cl x g
 gi:∀x i,c.gi.lookup x=some i→∃t,X.mg x=some (.int i t)
 cls:gw X.K cl
 mth:∀c C k m g,uB[k]?=some m→cl c=some C→Γ (jZ c k)=some g→GoodMeth X cl C m g
 cn:∀x j,c.cn.lookup x=some j→∃J,cl j=some J∧X.mg x=some (.ref J)
section
variable{K:W.Frag}{cl:Nat→Option Addr}{Γ:bu}{a b m:E}{σ:St}{H:Hp}{Q:VK}
theorem Ka{g:D→D→Option D}(h:∀env,ev Γ m env=(ev Γ a env).bind fun x=>(ev Γ b env).bind fun y=>g x y):tV K cl Γ m σ H Q→Fz (rD K cl g) (tV K cl Γ a) (tV K cl Γ b) σ H Q:=by
 rintro ⟨G,env,d,sg,en,e,q⟩
 rw [h]at e
 obtain⟨x,ex,e⟩:=af e
 obtain⟨y,ey,e⟩:=af e
 exact⟨G,env,x,sg,en,ex,fun v H1 G1 e1 d1=>⟨G1,env,y,e1.gh,en.mono e1.gg,ey,fun u H2 G2 e2 d2=>⟨G2,x,y,d,e2.gh,d1.mono e2.gg,d2,e,fun z H3 G3 e3 d3=>q z H3 G3 ((e1.trans e2).trans e3) d3⟩⟩⟩
theorem OI(h:∀env,ev Γ m env=(ev Γ a env).bind g):tV K cl Γ m σ H Q→Od (rD1 K cl g) (tV K cl Γ a) σ H Q:=by
 rintro ⟨G,env,d,sg,en,e,q⟩
 rw [h]at e
 obtain⟨x,ex,e⟩:=af e
 exact⟨G,env,x,sg,en,ex,fun v H1 G1 e1 d1=>⟨G1,x,d,e1.gh,d1,e,fun z H3 G3 e3 d3=>q z H3 G3 (e1.trans e3) d3⟩⟩
theorem zg(h:∀env,ev Γ m env=(ev Γ a env).bind g):tV K cl Γ m σ H Q→Kh (rDs K cl (one g)) (bI (tV K cl Γ a) fZ) σ H Q:=by
 rintro ⟨G,env,d,sg,en,e,q⟩
 rw [h]at e
 obtain⟨x,ex,e⟩:=af e
 exact⟨G,env,x,sg,en,ex,fun v H1 G1 e1 d1=>⟨G1,[x],d,e1.gh,.cons d1 .nil,e,fun z H3 G3 e3 d3=>q z H3 G3 (e1.trans e3) d3⟩⟩
theorem J9{g:D→D→Option D}(h:∀env,ev Γ m env=(ev Γ a env).bind fun x=>(ev Γ b env).bind fun y=>g x y):tV K cl Γ m σ H Q→Kh (rDs K cl (two g)) (bI (tV K cl Γ a) (bI (tV K cl Γ b) fZ)) σ H Q:=by
 rintro ⟨G,env,d,sg,en,e,q⟩
 rw [h]at e
 obtain⟨x,ex,e⟩:=af e
 obtain⟨y,ey,e⟩:=af e
 exact⟨G,env,x,sg,en,ex,fun v H1 G1 e1 d1=>⟨G1,env,y,e1.gh,en.mono e1.gg,ey,fun u H2 G2 e2 d2=>⟨G2,[x,y],d,e2.gh,.cons (d1.mono e2.gg) (.cons d2 .nil),e,fun z H3 G3 e3 d3=>q z H3 G3 ((e1.trans e2).trans e3) d3⟩⟩⟩
end
theorem oC(h:bV op x y=some d):∃b,d=.bl b:=by
 unfold bV at h
 split at h
 all_goals first
  |(cases h;exact⟨_,rfl⟩)
  |(cases h;done)
  |(obtain⟨c,_,rfl⟩:=aM h;exact⟨_,rfl⟩)
  |(split at h<;>cases h;exact⟨_,rfl⟩)
theorem ah(h:b5 e=true)(es:List Expr)(env:PySem.Env):starEach (e::es) env=(false,eval e env)::starEach es env:=by
 cases e<;>first|rfl|cases h
theorem cW{es:List Expr}(h:es.all b5=true)(pos:Pos)(env:PySem.Env):(backTo pos (starEach es env)).any (·.1)=false:=by
 induction es with
 |nil=>rfl
 |cons e r ih=>
  rw [cK,Bool.and_eq_true]at h
  rw [ah h.1]
  show(false||(backTo pos (starEach r env)).any (·.1))=false
  rw [ih h.2];rfl
theorem t5{es:List Expr}(h:es.all b5=true)(pos:Pos)(env:PySem.Env)(hl:es.length<30):((backTo pos (starEach es env)).all (fun x=> !x.1)&&(backToKw pos (keywordEach [] env)).all (fun x=>x.1.isSome)&&decide (es.length+([]:List Keyword).length+(if([]:List Keyword).isEmpty then 0 else 1)<30))=true:=by
 have h1:(backTo pos (starEach es env)).all (fun x=> !x.1)=true:=by
  have:=cW h pos env
  rw [nI]
  intro x hx
  have:=List.any_eq_false.mp this x hx
  simpa using this
 rw [h1]
 simp [backToKw,keywordEach]
 exact hl
theorem ik(h:j7 x=true):(x==("__debug__":Str))=false∧(x==("__classdict__":Str))=false∧x≠"__name__":=by
 unfold j7 at h
 rw [Bool.and_eq_true,Bool.and_eq_true]at h
 refine⟨by simpa using h.1.1,by simpa using h.1.2,?_⟩
 have h3:=h.2
 intro e
 subst e
 simp at h3
theorem bQ(h:gZ N sc x=true):j7 x=true∧sc.names.lookup x=some .globalImplicit:=by
 unfold gZ at h
 rw [Bool.and_eq_true,Bool.and_eq_true]at h
 exact⟨h.1.1,fm h.2⟩
theorem I0:bootBuiltins "len"=some (.builtin "len"):=by decide+kernel
theorem oE:bootBuiltins "list"=some (.type "list"):=by decide+kernel
theorem vM:bootBuiltins "range"=some (.type "range"):=by decide+kernel
theorem r8:bootBuiltins "sorted"=some (.builtin "sorted"):=by decide+kernel
theorem Ja:bootBuiltins "any"=some (.builtin "any"):=by decide+kernel
theorem CI:bootBuiltins "all"=some (.builtin "all"):=by decide+kernel
theorem IX:bootBuiltins "sum"=some (.builtin "sum"):=by decide+kernel
theorem IY:bootBuiltins "min"=some (.builtin "min"):=by decide+kernel
theorem IZ:bootBuiltins "max"=some (.builtin "max"):=by decide+kernel
theorem kf:bootBuiltins "isinstance"=some (.builtin "isinstance"):=by decide+kernel
theorem rh(h:sQ x=some k):x∈JF∧bootBuiltins x=some (.type (N1 k)):=by
 unfold sQ at h
 split at h
 ·rename_i e;cases h;rw [show x="int" by simpa using e];exact⟨by decide+kernel,by decide+kernel⟩
 split at h
 ·rename_i e;cases h;rw [show x="bool" by simpa using e];exact⟨by decide+kernel,by decide+kernel⟩
 split at h
 ·rename_i e;cases h;rw [show x="list" by simpa using e];exact⟨by decide+kernel,by decide+kernel⟩
 split at h
 ·rename_i e;cases h;rw [show x="tuple" by simpa using e];exact⟨by decide+kernel,by decide+kernel⟩
 split at h
 ·rename_i e;cases h;rw [show x="str" by simpa using e];exact⟨by decide+kernel,by decide+kernel⟩
 ·cases h
section
variable{X:Cx}{cl:Nat→Option Addr}{Γ:bu}
theorem eF(he:∀whole,isTrue e X.env whole=(do let v←whole;standAt e.pos;holding [v] (truthy v)))(h:PE X e (tV X.K cl Γ m)):PT X e (tVT X.K cl Γ m):=by
 refine Ju (Bf h he) fun σ H Q hp9=> ?_
 obtain⟨G,env,b,sg,en,e,q⟩:=hp9
 obtain⟨d,e1,e2⟩:=af e
 refine⟨G,env,d,sg,en,e1,fun v H' G' ex dv=> ?_⟩
 cases d with
 |bl c=>cases e2;cases dv;exact⟨b,rfl,q H' G' ex⟩
 |int c=>cases e2;cases dv;exact⟨_,rfl,q H' G' ex⟩
 |_=>cases e2
abbrev CQ(X:Cx)(cl:Nat→Option Addr)(Γ:bu)(e:Expr)(m:E):Prop:=PE X e (tV X.K cl Γ m)∧(oo e=true→PT X e (tVT X.K cl Γ m))
theorem dH{f:Expr→Option E}:∀ {es:List Expr} {m:E},(∀e∈es,∀m,f e=some m→PE X e (tV X.K cl Γ m))→es.all b5=true→gn f es=some m→PA X es (tVs X.K cl Γ m)
 |[],m,_,_,h=>by
  cases h
  refine Og aY fun σ H Q hp9=> ?_
  obtain⟨G,env,l,sg,en,e,q⟩:=hp9
  have e':(some []:Option (List D))=some l:=e
  cases e'
  exact q [] H G (Ext.refl sg) .nil
 |e::r,m,ih,ok,h=>by
  rw [cK,Bool.and_eq_true]at ok
  obtain⟨ma,h1,h⟩:=af h
  obtain⟨mr,h2,rfl⟩:=aM h
  refine Og (ay (ih e (by simp) ma h1) (dH (fun e he=>ih e (by simp [he])) ok.2 h2) (ah ok.1 _ _)) fun σ H Q hp9=> ?_
  obtain⟨G,env,l,sg,en,e,q⟩:=hp9
  obtain⟨d,e1,e2⟩:=af e
  obtain⟨x,ex,e1⟩:=af (show(ev Γ ma env).bind (fun x=>(ev Γ mr env).bind fun y=>m8 x y)=some d from e1)
  obtain⟨y,ey,e1⟩:=af e1
  cases y with
  |lst l'=>
   cases e1
   cases e2
   exact⟨G,env,x,sg,en,ex,fun v H1 G1 x1 d1=>⟨G1,env,l',x1.gh,en.mono x1.gg,by unfold jM;rw [ey];rfl,fun vs H2 G2 x2 d2=>q _ H2 G2 (x1.trans x2) (.cons (d1.mono x2.gg) d2)⟩⟩
  |_=>cases e1
theorem yZ{f:Expr→Option E}:∀ {es:List Expr} {m:E},(∀e∈es,∀m,f e=some m→CQ X cl Γ e m)→vL f es=some m→PE X (.BoolOp .And es pos) (tV X.K cl Γ m)∧PW X (.BoolOp .And es pos) (tVT X.K cl Γ m)
 |[],m,_,h=>by cases h
 |[a],m,ih,h=>by
  have h':(if oo a then f a else none)=some m:=h
  split at h'
  ·rename_i ok
   have b:=ih a (by simp) m h'
   exact⟨Bq b.1,DD (b.2 ok)⟩
  ·cases h'
 |a::b::r,m,ih,h=>by
  have h':(if oo a then(f a).bind fun m=>(vL f (b::r)).map fun l=> .and m l else none)=some m:=h
  split at h'
  ·rename_i ok
   obtain⟨ma,h1,h'⟩:=af h'
   obtain⟨mr,h2,rfl⟩:=aM h'
   have ba:=ih a (by simp) ma h1
   obtain⟨p1,p2⟩:=yZ (pos:=pos) (fun e he=>ih e (by simp [he])) h2
   constructor
   ·refine fj (Hm ba.1 p1) fun σ H Q hp9=> ?_
    obtain⟨G,env,d,sg,en,e,q⟩:=hp9
    obtain⟨x,ex,e⟩:=af (show(ev Γ ma env).bind (fun x=>pW x (ev Γ mr env) (some (.bl false)))=some d from e)
    refine⟨G,env,x,sg,en,ex,fun v H1 G1 x1 d1=> ?_⟩
    cases x with
    |bl c=>
     cases d1
     refine⟨c,rfl,?_⟩
     cases c with
     |true=>exact nU ⟨G1,env,d,x1.gh,en.mono x1.gg,e,fun v H2 G2 x2 d2=>q v H2 G2 (x1.trans x2) d2⟩
     |false=>cases e;exact nV (q _ H1 G1 x1 (.bl _))
    |_=>cases e
   ·refine Oe (GY (ba.2 ok) p2) fun σ H Q hp9=> ?_
    obtain⟨G,env,t,sg,en,e,q⟩:=hp9
    obtain⟨d,e,e'⟩:=af e
    obtain⟨x,ex,e⟩:=af (show(ev Γ ma env).bind (fun x=>pW x (ev Γ mr env) (some (.bl false)))=some d from e)
    cases x with
    |bl c=>
     refine⟨G,env,c,sg,en,by unfold bG;rw [ex];rfl,fun H1 G1 x1=> ?_⟩
     cases c with
     |true=>exact nU ⟨G1,env,t,x1.gh,en.mono x1.gg,by unfold bG;rw [show ev Γ mr env=some d from e];exact e',fun H2 G2 x2=>q H2 G2 (x1.trans x2)⟩
     |false=>cases e;cases e';exact nV (q H1 G1 x1)
    |_=>cases e
  ·cases h'
theorem Cu{f:Expr→Option E}:∀ {es:List Expr} {m:E},(∀e∈es,∀m,f e=some m→CQ X cl Γ e m)→FX f es=some m→PE X (.BoolOp .Or es pos) (tV X.K cl Γ m)∧PW X (.BoolOp .Or es pos) (tVT X.K cl Γ m)
 |[],m,_,h=>by cases h
 |[a],m,ih,h=>by
  have h':(if oo a then f a else none)=some m:=h
  split at h'
  ·rename_i ok
   have b:=ih a (by simp) m h'
   exact⟨Bq b.1,GX (b.2 ok)⟩
  ·cases h'
 |a::b::r,m,ih,h=>by
  have h':(if oo a then(f a).bind fun m=>(FX f (b::r)).map fun l=> .or m l else none)=some m:=h
  split at h'
  ·rename_i ok
   obtain⟨ma,h1,h'⟩:=af h'
   obtain⟨mr,h2,rfl⟩:=aM h'
   have ba:=ih a (by simp) ma h1
   obtain⟨p1,p2⟩:=Cu (pos:=pos) (fun e he=>ih e (by simp [he])) h2
   constructor
   ·refine fj (KQ ba.1 p1) fun σ H Q hp9=> ?_
    obtain⟨G,env,d,sg,en,e,q⟩:=hp9
    obtain⟨x,ex,e⟩:=af (show(ev Γ ma env).bind (fun x=>pW x (some (.bl true)) (ev Γ mr env))=some d from e)
    refine⟨G,env,x,sg,en,ex,fun v H1 G1 x1 d1=> ?_⟩
    cases x with
    |bl c=>
     cases d1
     refine⟨c,rfl,?_⟩
     cases c with
     |false=>exact nV ⟨G1,env,d,x1.gh,en.mono x1.gg,e,fun v H2 G2 x2 d2=>q v H2 G2 (x1.trans x2) d2⟩
     |true=>cases e;exact nU (q _ H1 G1 x1 (.bl _))
    |_=>cases e
   ·refine Oe (KL (ba.2 ok) p2) fun σ H Q hp9=> ?_
    obtain⟨G,env,t,sg,en,e,q⟩:=hp9
    obtain⟨d,e,e'⟩:=af e
    obtain⟨x,ex,e⟩:=af (show(ev Γ ma env).bind (fun x=>pW x (some (.bl true)) (ev Γ mr env))=some d from e)
    cases x with
    |bl c=>
     refine⟨G,env,c,sg,en,by unfold bG;rw [ex];rfl,fun H1 G1 x1=> ?_⟩
     cases c with
     |false=>exact nV ⟨G1,env,t,x1.gh,en.mono x1.gg,by unfold bG;rw [show ev Γ mr env=some d from e];exact e',fun H2 G2 x2=>q H2 G2 (x1.trans x2)⟩
     |true=>cases e;cases e';exact nU (q H1 G1 x1)
    |_=>cases e
  ·cases h'
theorem EZ(hu:X.A.units+64<cLine)(ha:PE X a (tV X.K cl Γ ma))(hb:PE X b (tV X.K cl Γ mb))(ok:b5 b=true):CQ X cl Γ (.Compare a [op] [b] pos) (.cmp op ma mb):=by
 have hm:behindInMarks op b=false:=by cases b<;>first|rfl|cases ok
 refine⟨fj (D6 (mv (cl:=cl) hu op) ha hb hm) fun σ H Q h=>Ka (fun _=>rfl) h,fun _=>Ju (DF (mv (cl:=cl) hu op) ha hb hm) fun σ H Q ⟨G,env,t,sg,en,e,q⟩=> ?_⟩
 obtain⟨d,e,e'⟩:=af e
 refine Ka (m:=.cmp op ma mb) (fun _=>rfl) ⟨G,env,d,sg,en,e,fun v H' G' x dv=> ?_⟩
 obtain⟨x,_,e⟩:=af (show(ev Γ ma env).bind (fun x=>(ev Γ mb env).bind fun y=>bV op x y)=some d from e)
 obtain⟨y,_,e⟩:=af e
 obtain⟨c,rfl⟩:=oC e
 cases e'
 cases dv
 exact⟨t,rfl,q H' G' ‹_›⟩
theorem IH(hu:X.A.units+64<cLine)(ha:PE X a (tV X.K cl Γ ma))(hb:PE X b (tV X.K cl Γ mb))(hd:PE X d (tV X.K cl Γ md))(ok:b5 d=true):CQ X cl Γ (.Compare a [o1,o2] [b,d] pos) (.ch o1 o2 ma mb md):=by
 have hm:lastMarks [o1,o2] [b,d]=false:=by
  show behindInMarks o2 d=false
  cases d<;>first|rfl|cases ok
 have go:∀σ H (Q:VK),tV X.K cl Γ (.ch o1 o2 ma mb md) σ H Q→wu (rD X.K cl (bV o1)) (rD X.K cl (bV o2)) (tV X.K cl Γ ma) (tV X.K cl Γ mb) (tV X.K cl Γ md) σ H Q:=by
  rintro σ H Q ⟨G,env,r,sg,en,e,q⟩
  obtain⟨x,ex,e⟩:=af (show(ev Γ ma env).bind (fun x=>(ev Γ mb env).bind fun y=>(bV o1 x y).bind fun z=>pW z ((ev Γ md env).bind fun w=>bV o2 y w) (some (.bl false)))=some r from e)
  obtain⟨y,ey,e⟩:=af e
  obtain⟨z,ez,e⟩:=af e
  obtain⟨c,rfl⟩:=oC ez
  refine⟨G,env,x,sg,en,ex,fun v H1 G1 x1 d1=>⟨G1,env,y,x1.gh,en.mono x1.gg,ey,fun u H2 G2 x2 d2=>⟨G2,x,y,.bl c,x2.gh,d1.mono x2.gg,d2,ez,fun w H3 G3 x3 d3=> ?_⟩⟩⟩
  cases d3
  refine⟨c,rfl,?_⟩
  cases c with
  |false=>cases e;exact nV (q _ H3 G3 ((x1.trans x2).trans x3) (.bl _))
  |true=>
   obtain⟨w,ew,e⟩:=af (show(ev Γ md env).bind (fun w=>bV o2 y w)=some r from e)
   refine nU ⟨G3,env,w,x3.gh,en.mono ((x1.gg.trans x2.gg).trans x3.gg),ew,fun u' H4 G4 x4 d4=>⟨G4,y,w,r,x4.gh,d2.mono (x3.gg.trans x4.gg),d4,e,fun z H5 G5 x5 d5=>q z H5 G5 ((((x1.trans x2).trans x3).trans x4).trans x5) d5⟩⟩
 refine⟨fj (Bw (mv (cl:=cl) hu o1) (mv (cl:=cl) hu o2) ha hb hd hm) go,fun _=>Ju (Bh (mv (cl:=cl) hu o1) (mv (cl:=cl) hu o2) ha hb hd hm) fun σ H Q ⟨G,env,t,sg,en,e,q⟩=> ?_⟩
 obtain⟨r,e,e'⟩:=af e
 refine go σ H _ ⟨G,env,r,sg,en,e,fun v H' G' x dv=> ?_⟩
 cases r with
 |bl c=>cases e';cases dv;exact⟨t,rfl,q H' G' ‹_›⟩
 |int i=>
  exfalso
  obtain⟨x,ex,e⟩:=af (show(ev Γ ma env).bind (fun x=>(ev Γ mb env).bind fun y=>(bV o1 x y).bind fun z=>pW z ((ev Γ md env).bind fun w=>bV o2 y w) (some (.bl false)))=some (.int i)from e)
  obtain⟨y,ey,e⟩:=af e
  obtain⟨z,ez,e⟩:=af e
  obtain⟨c,rfl⟩:=oC ez
  cases c with
  |false=>cases e
  |true=>
   obtain⟨w,ew,e⟩:=af (show(ev Γ md env).bind (fun w=>bV o2 y w)=some (.int i)from e)
   obtain⟨c,e⟩:=oC e
   cases e
 |_=>cases e'
theorem DX(h:PA X es (tVs X.K cl Γ m)):PE X (.List es pos) (tV X.K cl Γ (.lst m)):=by
 refine fj (wN h) fun σ H Q hp9=> ?_
 obtain⟨G,env,d,sg,en,e,q⟩:=hp9
 obtain⟨l,e1,e⟩:=af (show(ev Γ m env).bind Kl=some d from e)
 cases l with
 |lst l=>
  have e':(if sz l.length then some (D.lst l)else none)=some d:=e
  split at e'
  ·rename_i hz
   cases e'
   exact⟨G,env,l,sg,en,by unfold jM;rw [e1];rfl,fun vs H' G' x dv=>⟨j6 (by rw [dv.length];exact hz),fun p hp=>ub x.gh (fun z H2 G2 x2 d2=>q z H2 G2 (x.trans x2) d2) hp dv⟩⟩
  ·cases e'
 |_=>cases e
theorem DQ(h:PA X es (tVs X.K cl Γ m)):PE X (.Tuple es k pos) (tV X.K cl Γ (.tup m)):=by
 refine fj (sZ h) fun σ H Q hp9=> ?_
 obtain⟨G,env,d,sg,en,e,q⟩:=hp9
 obtain⟨l,e1,e⟩:=af (show(ev Γ m env).bind Mt=some d from e)
 cases l with
 |lst l=>
  have e':(if sz l.length then some (D.tup l)else none)=some d:=e
  split at e'
  ·rename_i hz
   cases e'
   exact⟨G,env,l,sg,en,by unfold jM;rw [e1];rfl,fun vs H' G' x dv=>⟨j6 (by rw [dv.length];exact hz),fun p hp=>NC x.gh (fun z H2 G2 x2 d2=>q z H2 G2 (x.trans x2) d2) hp dv⟩⟩
  ·cases e'
 |_=>cases e
theorem DY{t a b:Expr}{mt ma mb:E}{pos:Pos}(ht:PT X t (tVT X.K cl Γ mt))(ha:PE X a (tV X.K cl Γ ma))(hb:PE X b (tV X.K cl Γ mb)):PE X (.IfExp t a b pos) (tV X.K cl Γ (.ite mt ma mb)):=by
 refine fj (u4 ht ha hb) fun σ H Q hp9=> ?_
 obtain⟨G,env,d,sg,en,e,q⟩:=hp9
 obtain⟨c,e1,e⟩:=af (show((ev Γ mt env).bind cT).bind (fun x=>if x then ev Γ ma env else ev Γ mb env)=some d from e)
 refine⟨G,env,c,sg,en,e1,fun H1 G1 x1=> ?_⟩
 cases c with
 |true=>exact nU ⟨G1,env,d,x1.gh,en.mono x1.gg,e,fun v H2 G2 x2 d2=>q v H2 G2 (x1.trans x2) d2⟩
 |false=>exact nV ⟨G1,env,d,x1.gh,en.mono x1.gg,e,fun v H2 G2 x2 d2=>q v H2 G2 (x1.trans x2) d2⟩
theorem DT(h:PE X a (tV X.K cl Γ ma)):PE X (.UnaryOp .Not a pos) (tV X.K cl Γ (.not ma)):=by
 refine fj (Hi h) fun σ H Q hp9=> ?_
 obtain⟨G,env,d,sg,en,e,q⟩:=hp9
 obtain⟨x,e1,e⟩:=af (show(ev Γ ma env).bind wU=some d from e)
 refine⟨G,env,x,sg,en,e1,fun v H1 G1 x1 d1=> ?_⟩
 cases x with
 |bl c=>cases e;cases d1;exact⟨c,rfl,q _ H1 G1 x1 (.bl _)⟩
 |_=>cases e
theorem DE(h:PT X a (tVT X.K cl Γ ma)):PT X (.UnaryOp .Not a pos) (tVT X.K cl Γ (.not ma)):=by
 refine Ju (Bg h) fun σ H Q hp9=> ?_
 obtain⟨G,env,t,sg,en,e,q⟩:=hp9
 obtain⟨d,e,e'⟩:=af e
 obtain⟨x,e1,e⟩:=af (show(ev Γ ma env).bind wU=some d from e)
 cases x with
 |bl c=>cases e;cases e';exact⟨G,env,c,sg,en,by unfold bG;rw [e1];rfl,fun H1 G1 x1=>q H1 G1 x1⟩
 |_=>cases e
theorem DZ(h:PE X a (tV X.K cl Γ ma))(ok:b5 a=true)(hg:Gl X "isinstance")(hm:X.mg "isinstance"=none)(gt:Gl X t)(mt:X.mg t=none)(tc:sQ t=some k)(ot:j7 t=true):
 PE X (.Call (.Name "isinstance" p1) [a,.Name t p2] [] pos) (tV X.K cl Γ (.isi ma k)):=by
 obtain⟨n1,n2,n3⟩:=ik ot
 refine fj (cF uk hg hm kf (ay h (ay (KP gt mt (rh tc).2 n3 n1) aY (by rfl)) (ah ok _ _)) (by decide) (by decide) (ah ok _ _) (by rfl)) fun σ H Q hp9=> ?_
 obtain⟨G,env,d,sg,en,e,q⟩:=hp9
 obtain⟨x,e1,e⟩:=af (show(ev Γ ma env).bind (fun x=>(pR x k).map .bl)=some d from e)
 obtain⟨b,e2,rfl⟩:=aM e
 obtain⟨ty,e3,e4⟩:=Ez e2
 refine⟨G,env,x,sg,en,e1,fun v H1 G1 x1 d1=> ?_⟩
 exact⟨v,_,_,b,rfl,Gx d1 x1.gh e3,e4 _,q _ H1 G1 x1 (.bl _)⟩
theorem DK{f:Expr→Option E}(ih:∀e,o=some e→∀m,f e=some m→PE X e (tV X.K cl Γ m))(h:xQ f o=some m):PO X o (tVO X.K cl Γ m):=by
 cases o with
 |none=>
  cases h
  rintro pins s σ H Q I ⟨G,env,o,sg,en,e,q⟩
  have e':(some none:Option (Option Int))=some o:=e
  cases e'
  exact DJ pins s σ H Q I (q H G (Ext.refl sg))
 |some a=>
  have h':(if b5 a then(f a).bind fun m=>if m5 m then none else some m else none)=some m:=h
  split at h'
  ·obtain⟨m',h1,h2⟩:=af h'
   split at h2
   ·cases h2
   ·rename_i nn
    cases h2
    rintro pins s σ H Q I ⟨G,env,o,sg,en,e,q⟩
    refine DI (ih a rfl m h1) pins s σ H Q I ?_
    unfold mq at e
    rw [aK nn]at e
    split at e
    ·rename_i i ei
     cases e
     refine⟨G,env,_,sg,en,ei,fun v H' G' x dv=> ?_⟩
     cases dv
     exact⟨_,rfl,q H' G' x⟩
    ·cases e
  ·cases h'
theorem D5(ha:PE X a (tV X.K cl Γ ma))(hl:PO X lo (tVO X.K cl Γ ml))(hh:PO X hi (tVO X.K cl Γ mh)):PE X (.Subscript a (.Slice lo hi none p2) pos) (tV X.K cl Γ (.cut ma ml mh)):=by
 refine fj (u0 (MV (cl:=cl)) ha hl hh) fun σ H Q hp9=> ?_
 obtain⟨G,env,d,sg,en,e,q⟩:=hp9
 obtain⟨x,ex,e⟩:=af (show(ev Γ ma env).bind (fun x=>(mq ml (ev Γ ml env)).bind fun l=>(mq mh (ev Γ mh env)).bind fun h=>nY x l h)=some d from e)
 obtain⟨l,el,e⟩:=af e
 obtain⟨h,eh,e⟩:=af e
 exact⟨G,env,x,sg,en,ex,fun v H1 G1 x1 d1=>⟨G1,env,l,x1.gh,en.mono x1.gg,el,fun H2 G2 x2=>⟨G2,env,h,x2.gh,en.mono (x1.gg.trans x2.gg),eh,fun H3 G3 x3=>⟨G3,x,d,x3.gh,d1.mono (x2.gg.trans x3.gg),e,fun z H4 G4 x4 d4=>q z H4 G4 (((x1.trans x2).trans x3).trans x4) d4⟩⟩⟩⟩
theorem DS{ms:E}(ha:PE X a (tV X.K cl Γ ma))(hs:PE X st (tV X.K cl Γ (.un .neg (.int 1)))):PE X (.Subscript a (.Slice none none (some st) p2) pos) (tV X.K cl Γ (.rev ma)):=by
 refine fj (Bn ha hs) fun σ H Q hp9=> ?_
 obtain⟨G,env,d,sg,en,e,q⟩:=hp9
 obtain⟨x,ex,e⟩:=af (show(ev Γ ma env).bind uW=some d from e)
 refine⟨G,env,x,sg,en,ex,fun v H1 G1 x1 d1=>⟨G1,env,.int (-1),x1.gh,en.mono x1.gg,rfl,fun u H2 G2 x2 d2=> ?_⟩⟩
 cases d2
 refine⟨rfl,?_⟩
 cases x with
 |lst l=>
  cases e
  cases d1 with|lst h1 h2=>
   exact⟨_,_,rfl,(aC (x2.gg.trans x2.gh) h1).jX,fun p hp=>ub x2.gh (fun z H3 G3 x3 d3=>q z H3 G3 ((x1.trans x2).trans x3) d3) hp ((h2.mono x2.gg).reverse)⟩
 |_=>cases e
theorem u5(hg:Gl X x)(hd:(x==("__debug__":Str))=false)(F:GoodCall X cl x g)(ha:PA X (e::es) (tVs X.K cl Γ m))(ok:(e::es).all b5=true):
 PE X (.Call (.Name x p) (e::es) [] pos) (fun σ H Q=>∃G env l t,aG G H∧eV X.K cl G env σ∧jM Γ m env=some l∧g l=some t∧∀v H' G' A,Ext H G H' G'→OT X.K cl G' H' v t A→A.Nodup→(∀a∈A,H a=none)→Q v H'):=by
 rw [cK,Bool.and_eq_true]at ok
 rcases F.ex with⟨k,fa,fd,ps,F1,F2,F3,F4,F5⟩|⟨k,C,f,fd,ps,M,F1,F2,F3,F5⟩
 ·refine fj (tj F1 F2 hg F3 F4 F5 .nil rC ha hd (ah ok.1 _ _) (cW ok.2 _ _)) fun σ H Q hp9=> ?_
  obtain⟨G,env,l,t,sg,en,e,et,q⟩:=hp9
  refine⟨G,env,l,sg,en,e,fun vs H1 G1 x1 d1=> ?_⟩
  show spP X.K cl g (vs++[]) H1 Q E0
  rw [kX]
  exact⟨G1,l,t,x1.gh,d1,et,fun v H2 G2 A x2 o nd n=>q v H2 G2 A (x1.trans x2) o nd fun a ha=>x1.hh.free (n a ha)⟩
 ·refine fj (DU M F1 F2 hg F3 F5 .nil rC ha hd (ah ok.1 _ _) (cW ok.2 _ _)) fun σ H Q hp9=> ?_
  obtain⟨G,env,l,t,sg,en,e,et,q⟩:=hp9
  refine⟨G,env,l,sg,en,e,fun vs H1 G1 x1 d1 x dx hx hdx hne=> ?_⟩
  rw [kX]
  exact⟨H1,G1,x,dx,vs,l,t,rfl,hx,hdx,hne,rfl,x1.gh,d1,et,fun H2 G2 A x2 o nd n=>⟨rfl,q (.ref x) H2 G2 A (x1.trans x2) o nd fun a ha=>x1.hh.free (n a ha)⟩⟩
theorem Bx(hg:Gl X x)(hd:(x==("__debug__":Str))=false)(F:GoodCall X cl x g)(hf:Γ f=some g)(ha:PA X (e::es) (tVs X.K cl Γ m))(ok:(e::es).all b5=true):
 PE X (.Call (.Name x p) (e::es) [] pos) (tV X.K cl Γ (.call f m)):=by
 refine fj (u5 hg hd F ha ok) fun σ H Q hp9=> ?_
 obtain⟨G,env,d,sg,en,e,q⟩:=hp9
 have e':(Γ f).bind (fun g=>((ev Γ m env).bind bx).bind fun l=>(g l).map strip)=some d:=e
 rw [hf]at e'
 obtain⟨l,el,e'⟩:=af (show((ev Γ m env).bind bx).bind (fun l=>(g l).map strip)=some d from e')
 obtain⟨t,et,rfl⟩:=aM e'
 refine⟨G,env,l,t,sg,en,el,et,fun v H' G' A x o nd n=> ?_⟩
 obtain⟨G2,f,d⟩:=o.freeze x.gh nd
 exact q v H' G2 (f.ext x n) d
theorem Fb(h:xR e=some o):e=.Attribute (.Name o.1 o.2.1) o.2.2.1 o.2.2.2:=by
 unfold xR at h
 split at h
 ·cases h;rfl
 ·cases h
theorem yA{args:List Expr}(ok:args.all b5=true)(hl:args.length<30)(bm:mJ apos pos=true):eval (.Call (.Attribute (.Name x p) m apos) args [] pos) env=(do
 let ov←eval (.Name x p) env
 standAt apos.atName
 let (f,first)←holding [ov] (getMethod ov m (do return (←importBound (.Name x p) env).getD true))
 callWith pos f first (backTo pos (starEach args env)) (backToKw pos (keywordEach [] env))):=by
 have hform:methodCallForm (args.length+([]:List Keyword).length) (backTo pos (starEach args env)) (backToKw pos (keywordEach [] env))=true:=t5 ok pos env hl
 have hpos:methodCallPos true (.Name x p) env apos pos=pure pos:=by
  unfold methodCallPos
  rw [show(apos.endLine==pos.line)=true from bm]
  rfl
 rw [arm_eval_Call]
 show(do
  let ov←eval (.Name x p) env
  standAt apos.atName
  methodCall (.Name x p) m apos pos env ov (args.length+([]:List Keyword).length) (backTo pos (starEach args env)) (backToKw pos (keywordEach [] env)))=_
 unfold methodCall
 rw [hform,hpos]
 rfl
theorem Br(hc:gw X.K cl)(hm:∀c C k m g,uB[k]?=some m→cl c=some C→Γ (jZ c k)=some g→GoodMeth X cl C m g)(hk:uB[k]?=some m)(ho:PE X (.Name x p) (tV X.K cl Γ (.var i)))(ha:PA X (e::es) (tVs X.K cl Γ ml))(ok:(e::es).all b5=true)(hl:(e::es).length<30)(bm:mJ apos pos=true):
 PE X (.Call (.Attribute (.Name x p) m apos) (e::es) [] pos) (tV X.K cl Γ (.meth (.var i) k ml)):=by
 have ok':=ok
 rw [cK,Bool.and_eq_true]at ok
 rintro pins s σ H Q I ⟨G,env,d,sg,en,e,q⟩
 obtain⟨y,ey,e⟩:=af (show(ev Γ (.var i) env).bind (fun x=>(tK Γ k x).bind fun g=>((ev Γ ml env).bind bx).bind fun l=>(g (x::l)).map strip)=some d from e)
 obtain⟨g,eg,e⟩:=af e
 obtain⟨l,el,e⟩:=af e
 obtain⟨t,et,rfl⟩:=aM e
 cases y with
 |ins c ks ds=>
  have eg':(if ks.contains (uB.getD k "")then none else Γ (jZ c k))=some g:=eg
  split at eg'
  ·cases eg'
  ·rename_i nk
   have hmk:uB.getD k ""=m:=by rw [List.getD_eq_getElem?_getD,hk];rfl
   rw [hmk]at nk
   have e2:env[i]?=some (some (.ins c ks ds)):=by
    have e':(env[i]?).join=some (.ins c ks ds):=ey
    cases z:env[i]? with
    |none=>rw [z]at e';cases e'
    |some o=>rw [z]at e';rw [show o=some _ from e']
   obtain⟨v0,_,dn0⟩:=en i _ e2
   obtain⟨C,hC⟩:∃C,cl c=some C:=by cases dn0 with|ins _ h2 _ _=>exact⟨_,h2⟩
   obtain⟨j,f,fd,ps,M,F1,F2,F3⟩:=(hm c C k m g hk hC eg').ex
   refine yo ho (hc.1 c C hC).1 M F1 F2 F3 .nil rC ha (ah ok.1 _ _) (cW ok.2 _ _) (yA ok' hl bm) pins s σ H Q I ⟨G,env,_,sg,en,ey,fun v H1 G1 x1 d1=> ?_⟩
   have d1':=d1
   cases d1 with
   | @ins a C' dx _ _ vfs _ h1 h2 h3 h4=>
     rw [hC]at h2
     cases h2
     subst h3
     refine⟨a,dx,vfs,rfl,x1.gh _ _ h1,?_,G1,env,l,x1.gh,en.mono x1.gg,el,fun vs H2 G2 x2 d2=> ?_⟩
     ·cases z:vfs.lookup m with
      |none=>rfl
      |some u=>
       refine absurd (sH.mpr ?_) nk
       obtain⟨l1,l2,e,_⟩:=List.lookup_eq_some_iff.mp z
       rw [e];simp
     ·show spP X.K cl g (.ref a::(vs++[])) H2 Q E0
      rw [kX]
      exact GG ⟨G2,_::l,t,x2.gh,.cons (d1'.mono x2.gg) d2,et,fun v H3 G3 x3 d3=>q v H3 G3 ((x1.trans x2).trans x3) d3⟩
 |_=>cases eg
theorem um:cz X (.builtin "isinstance") (fun xs H Q=>∃x J t b,xs=[x,.ref J]∧TyOf X.K H x t∧W.kitOne X.K t (.ref J)=some b∧Q (.bl b) H):=by
 intro pins s σ H xs us Q I r h
 obtain⟨x,J,t,b,rfl,ty,k,q⟩:=h
 obtain⟨u,v,rfl,ru,rv⟩:=r.two
 cases (show v=Value.ref J from rv)
 exact rM I ru ty k fun tk=>⟨.bl b,H,I.tok _,rfl,q⟩
theorem D0(hc:gw X.K cl)(h:PE X a (tV X.K cl Γ ma))(ok:b5 a=true)(hg:Gl X "isinstance")(hm:X.mg "isinstance"=none)(gt:Gl X t)(mt:X.mg t=some (.ref J))(hj:cl j=some J)(ot:j7 t=true):
 PE X (.Call (.Name "isinstance" p1) [a,.Name t p2] [] pos) (tV X.K cl Γ (.isc ma j)):=by
 obtain⟨n1,n2,n3⟩:=ik ot
 refine fj (cF um hg hm kf (ay h (ay (yp (v:=.ref J) gt mt rfl n1) aY (by rfl)) (ah ok _ _)) (by decide) (by decide) (ah ok _ _) (by rfl)) fun σ H Q hp9=> ?_
 obtain⟨G,env,d,sg,en,e,q⟩:=hp9
 obtain⟨x,e1,e⟩:=af (show(ev Γ ma env).bind (EA j)=some d from e)
 refine⟨G,env,x,sg,en,e1,fun v H1 G1 x1 d1=> ?_⟩
 cases x with
 |ins c ks ds=>
  cases e
  cases d1 with
  | @ins a C dx _ _ vfs _ h1 h2 h3 h4=>
    obtain⟨c1,_,c2⟩:=hc.1 c C h2
    exact⟨_,J,_,_,rfl,.ins (x1.gh _ _ h1) c1 c2.ha c2.hn c2.htk c2.hm,hc.2 c C j J h2 hj,q _ H1 G1 x1 (.bl _)⟩
 |_=>cases e
end
section
variable{K:W.Frag}{cl:Nat→Option Addr}{G:Hp}
theorem Aw(h:RL K G a xs)(hs:Dns K cl G xs ds):Wk K cl (NY K a) G ds:=by
 intro H G2 i g1 g2
 have hx:dQ K H a xs:=(aC (g1.trans g2) h).jX
 refine⟨fun hi=>⟨xs,hx,by rw [hs.length];exact Nat.le_of_eq hi.symm⟩,fun d hd=> ?_⟩
 obtain⟨v,hv,dv⟩:=hs.get hd
 refine⟨⟨xs,v,hx,hv⟩,fun u H' ⟨e,y⟩=> ?_⟩
 subst e
 have:=y xs hx
 rw [hv]at this
 cases this
 exact⟨G2,Ext.refl g2,dv.mono g1⟩
theorem Gr(h:G a=some (.tup xs))(hs:Dns K cl G xs ds):Wk K cl (NX K a) G ds:=by
 intro H G2 i g1 g2
 have hx:qM K H a xs:=.inl (.inl ((g1.trans g2) _ _ h))
 refine⟨fun hi=>⟨xs,hx,by rw [hs.length];exact Nat.le_of_eq hi.symm⟩,fun d hd=> ?_⟩
 obtain⟨v,hv,dv⟩:=hs.get hd
 refine⟨⟨xs,v,hx,hv⟩,fun u H' ⟨e,y⟩=> ?_⟩
 subst e
 have:=y xs hx
 rw [hv]at this
 cases this
 exact⟨G2,Ext.refl g2,dv.mono g1⟩
theorem wc:Wk K cl (Mq lo n) G ((List.range n).map fun(i:Nat)=>D.int (lo+i)):=by
 intro H G2 i g1 g2
 refine⟨fun hi=> ?_,fun d hd=> ?_⟩
 ·rw [b9,sN]at hi
  exact Nat.le_of_eq hi.symm
 ·have hi:i<n:=by
   have:=(j4.mp hd).1
   simpa using this
  refine⟨hi,fun v H' ⟨e1,e2⟩=> ?_⟩
  subst e1 e2
  rw [eK,List.getElem?_range hi]at hd
  cases hd
  exact⟨G2,Ext.refl g2,.int _⟩
theorem g9:∀ {l:List D} {k i:Nat} {d:D},(dG k l)[i]?=some d→∃x,l[i]?=some x∧d=.tup [.int (k+i:Nat),x]
 |[],_,_,_,h=>by simp [dG]at h
 |x::r,k,0,d,h=>by simp [dG]at h;exact⟨x,rfl,by rw [←h];rfl⟩
 |x::r,k,i+1,d,h=>by
  obtain⟨y,e1,e2⟩:=g9 (l:=r) (k:=k+1) (i:=i) (d:=d) (by simpa [dG]using h)
  exact⟨y,by simpa using e1,by rw [e2,show k+1+i=k+(i+1) by lia]⟩
theorem e7:∀ {l:List D} {k:Nat},(dG k l).length=l.length
 |[],_=>rfl
 |_::r,k=>by simp [dG,e7]
theorem Gs(h:RL K G a xs)(hs:Dns K cl G xs ds):Wk K cl (NW K a xs.length) G ds.reverse:=by
 intro H G2 i g1 g2
 have hx:dQ K H a xs:=(aC (g1.trans g2) h).jX
 refine⟨fun hi=>by rw [v5]at hi;exact hi.trans hs.length.symm,fun d hd=> ?_⟩
 obtain⟨v,hv,dv⟩:=hs.reverse.get hd
 have hi:i<xs.length:=by simpa using(j4.mp hv).1
 refine⟨⟨hi,xs,hx,rfl⟩,fun u H' ⟨e,y⟩=> ?_⟩
 subst e
 have:=y xs hx
 rw [List.getElem?_reverse hi]at hv
 rw [hv]at this
 cases this
 exact⟨G2,Ext.refl g2,dv.mono g1⟩
theorem Gu(h:RL K G a xs)(hs:Dns K cl G xs ds):Wk K cl (JE K a) G (dG 0 ds):=by
 intro H G2 i g1 g2
 have hx:dQ K H a xs:=(aC (g1.trans g2) h).jX
 refine⟨fun hi=>⟨xs,hx,by rw [hs.length,←e7 (k:=0)];exact Nat.le_of_eq hi.symm⟩,fun d hd=> ?_⟩
 obtain⟨x,hx',rfl⟩:=g9 hd
 obtain⟨v,hv,dv⟩:=hs.get hx'
 refine⟨⟨xs,v,hx,hv⟩,fun u H' ⟨p,w,e1,hp,e2,y⟩=> ?_⟩
 subst e1 e2
 have:=y xs hx
 rw [hv]at this
 cases this
 refine⟨_,Ext.new g2 hp _,.tup ak (.cons ?_ (.cons ?_ .nil))⟩
 ·rw [qO];exact .int _
 ·exact dv.mono (g1.trans (aO (g2.free hp) _))
theorem oJ:∀ {l m:List D} {i:Nat} {d:D},(jW l m)[i]?=some d→∃x y,l[i]?=some x∧m[i]?=some y∧d=.tup [x,y]
 |[],_,_,_,h=>by simp [jW]at h
 |_::_,[],_,_,h=>by simp [jW]at h
 |x::r,y::t,0,d,h=>by simp [jW]at h;exact⟨x,y,rfl,rfl,h.symm⟩
 |x::r,y::t,i+1,d,h=>by
  obtain⟨a,b,e1,e2,e3⟩:=oJ (l:=r) (m:=t) (i:=i) (d:=d) (by simpa [jW]using h)
  exact⟨a,b,by simpa using e1,by simpa using e2,e3⟩
theorem uG:∀ {l m:List D},(jW l m).length=l.length∨(jW l m).length=m.length
 |[],_=> .inl rfl
 |_::_,[]=> .inr rfl
 |_::r,_::t=>by
  rcases uG (l:=r) (m:=t)with h|h
  ·exact .inl (by simp [jW,h])
  ·exact .inr (by simp [jW,h])
theorem Gq(h:RL K G a xs)(hs:Dns K cl G xs ds)(h':RL K G b ys)(hs':Dns K cl G ys es):Wk K cl (NV K a b) G (jW ds es):=by
 intro H G2 i g1 g2
 have hx:dQ K H a xs:=(aC (g1.trans g2) h).jX
 have hy:dQ K H b ys:=(aC (g1.trans g2) h').jX
 refine⟨fun hi=>⟨xs,ys,hx,hy,by rw [hs.length,hs'.length];rcases uG (l:=ds) (m:=es)with z|z<;>lia⟩,fun d hd=> ?_⟩
 obtain⟨x,y,hx',hy',rfl⟩:=oJ hd
 obtain⟨v,hv,dv⟩:=hs.get hx'
 obtain⟨u,hu,du⟩:=hs'.get hy'
 refine⟨⟨⟨xs,v,hx,hv⟩,⟨ys,u,hy,hu⟩⟩,fun w H' ⟨p,z1,z2,e1,hp,e2,y1,y2⟩=> ?_⟩
 subst e1 e2
 have q1:=y1 xs hx
 have q2:=y2 ys hy
 rw [hv]at q1
 rw [hu]at q2
 cases (q1)
 cases (q2)
 have s2:=g1.trans (aO (g2.free hp) (.tup [v,u]))
 exact⟨_,Ext.new g2 hp _,.tup ak (.cons (dv.mono s2) (.cons (du.mono s2) .nil))⟩
end
section
variable{X:Cx}{cl:Nat→Option Addr}{Γ:bu}{tg:Expr}
theorem DL(h:PE X e (tV X.K cl Γ m))(nr:lD m=false):PI X tg e (tI X.K cl Γ m):=by
 rintro pins s σ H R I ⟨G,env,ds,sg,en,e,q⟩
 obtain⟨d,e1,e2⟩:=af e
 cases d with
 |lst l=>
  cases e2
  refine DO h pins s σ H R I ⟨G,env,.lst ds,sg,en,e1,fun v H1 G1 x1 d1=> ?_⟩
  cases d1 with|lst h1 h2=>
   exact⟨_,rfl,⟨_,(aC x1.gh h1).jX⟩,q _ H1 G1 x1 (Aw h1 h2) (fun z=>by rw [nr]at z;cases z)⟩
 |tup l=>
  cases e2
  refine He h pins s σ H R I ⟨G,env,.tup ds,sg,en,e1,fun v H1 G1 x1 d1=> ?_⟩
  cases d1 with|tup h1 h2=>
   exact⟨_,rfl,⟨_,.inl (.inl (x1.gh _ _ h1))⟩,q _ H1 G1 x1 (Gr h1 h2) (fun z=>by rw [nr]at z;cases z)⟩
 |_=>cases e2
theorem rn(h:uT lo hi=some l):(-(2 ^ 60)≤lo∧lo≤2 ^ 60∧-(2 ^ 60)≤hi∧hi≤2 ^ 60)∧l=(List.range (hi-lo).toNat).map fun(i:Nat)=>D.int (lo+i):=by
 unfold uT at h
 split at h
 ·rename_i c;cases h;exact⟨fm c,rfl⟩
 ·cases h
theorem DN(hg:Gl X "range")(hm:X.mg "range"=none)(h:PE X a (tV X.K cl Γ m))(ok:b5 a=true):PI X tg (.Call (.Name "range" p) [a] [] pos) (tI X.K cl Γ (.rng m)):=by
 refine KN (zA hg hm (ay h aY (ah ok _ _)) (ah ok _ _)) fun σ H R hp9=> ?_
 obtain⟨G,env,ds,sg,en,e,q⟩:=hp9
 obtain⟨d,e1,e2⟩:=af e
 obtain⟨x,ex,e1⟩:=af (show(ev Γ m env).bind (fun x=>oY (.int 0) x)=some d from e1)
 refine⟨G,env,x,sg,en,ex,fun v H1 G1 x1 d1=> ?_⟩
 cases x with
 |int n=>
  obtain⟨l,e3,rfl⟩:=aM e1
  cases e2
  cases d1
  obtain⟨⟨b1,b2,b3,b4⟩,rfl⟩:=rn e3
  refine⟨n,rfl,by lia,by lia,q _ H1 G1 x1 ?_ fun _ G2=> ?_⟩
  all_goals
   rw [Int.sub_zero]
   exact wc
 |_=>cases e1
theorem Bm(hg:Gl X "range")(hm:X.mg "range"=none)(h:PE X a (tV X.K cl Γ m))(h':PE X b (tV X.K cl Γ l))(ok:b5 a=true)(ok':b5 b=true):PI X tg (.Call (.Name "range" p) [a,b] [] pos) (tI X.K cl Γ (.rng2 m l)):=by
 refine KN (zy hg hm (ay h (ay h' aY (ah ok' _ _)) (ah ok _ _)) (by rw [ah ok,ah ok']<;>rfl) (ah ok' _ _)) fun σ H R hp9=> ?_
 obtain⟨G,env,ds,sg,en,e,q⟩:=hp9
 obtain⟨d,e1,e2⟩:=af e
 obtain⟨x,ex,e1⟩:=af (show(ev Γ m env).bind (fun x=>(ev Γ l env).bind fun y=>oY x y)=some d from e1)
 obtain⟨y,ey,e1⟩:=af e1
 refine⟨G,env,x,sg,en,ex,fun v H1 G1 x1 d1=>⟨G1,env,y,x1.gh,en.mono x1.gg,ey,fun u H2 G2 x2 d2=> ?_⟩⟩
 cases x with
 |int n=>
  cases y with
  |int k=>
   obtain⟨l,e3,rfl⟩:=aM e1
   cases e2
   cases d1
   cases d2
   obtain⟨⟨b1,b2,b3,b4⟩,rfl⟩:=rn e3
   exact⟨n,k,rfl,⟨by lia,by lia,by lia,by lia⟩,q _ H2 G2 (x1.trans x2) wc fun _ _=>wc⟩
  |_=>cases e1
 |_=>cases e1
theorem DM(hg:Gl X "reversed")(hm:X.mg "reversed"=none)(h:PE X a (tV X.K cl Γ m))(ok:b5 a=true):PI X tg (.Call (.Name "reversed" p) [a] [] pos) (tI X.K cl Γ (.rvd m)):=by
 refine KN (Hf hg hm (ay h aY (ah ok _ _)) (ah ok _ _)) fun σ H R hp9=> ?_
 obtain⟨G,env,ds,sg,en,e,q⟩:=hp9
 obtain⟨d,e1,e2⟩:=af e
 obtain⟨x,ex,e1⟩:=af (show(ev Γ m env).bind uW=some d from e1)
 refine⟨G,env,x,sg,en,ex,fun v H1 G1 x1 d1=> ?_⟩
 cases x with
 |lst l=>
  cases e1
  cases e2
  cases d1 with|lst h1 h2=>
   exact⟨_,_,rfl,(aC x1.gh h1).jX,q _ H1 G1 x1 (Gs h1 h2) (fun z=>by cases z)⟩
 |_=>cases e1
theorem DP(hg:Gl X "enumerate")(hm:X.mg "enumerate"=none)(h:PE X a (tV X.K cl Γ m))(ok:b5 a=true):PI X (.Tuple elts k tpos) (.Call (.Name "enumerate" p) [a] [] pos) (tI X.K cl Γ (.enm m)):=by
 refine KN (ym hg hm (ay h aY (ah ok _ _)) (ah ok _ _)) fun σ H R hp9=> ?_
 obtain⟨G,env,ds,sg,en,e,q⟩:=hp9
 obtain⟨d,e1,e2⟩:=af e
 obtain⟨x,ex,e1⟩:=af (show(ev Γ m env).bind ET=some d from e1)
 refine⟨G,env,x,sg,en,ex,fun v H1 G1 x1 d1=> ?_⟩
 cases x with
 |lst l=>
  cases e1
  cases e2
  cases d1 with|lst h1 h2=>
   exact⟨_,rfl,⟨_,(aC x1.gh h1).jX⟩,q _ H1 G1 x1 (Gu h1 h2) (fun z=>by cases z)⟩
 |_=>cases e1
theorem Hc(hg:Gl X "zip")(hm:X.mg "zip"=none)(h:PE X a (tV X.K cl Γ m))(h':PE X b (tV X.K cl Γ l))(ok:b5 a=true)(ok':b5 b=true):PI X (.Tuple elts k tpos) (.Call (.Name "zip" p) [a,b] [] pos) (tI X.K cl Γ (.zp m l)):=by
 refine KN (Hd hg hm (ay h (ay h' aY (ah ok' _ _)) (ah ok _ _)) (by rw [ah ok,ah ok']<;>rfl) (ah ok' _ _)) fun σ H R hp9=> ?_
 obtain⟨G,env,ds,sg,en,e,q⟩:=hp9
 obtain⟨d,e1,e2⟩:=af e
 obtain⟨x,ex,e1⟩:=af (show(ev Γ m env).bind (fun x=>(ev Γ l env).bind fun y=>JJ x y)=some d from e1)
 obtain⟨y,ey,e1⟩:=af e1
 refine⟨G,env,x,sg,en,ex,fun v H1 G1 x1 d1=>⟨G1,env,y,x1.gh,en.mono x1.gg,ey,fun u H2 G2 x2 d2=> ?_⟩⟩
 cases x with
 |lst l1=>
  cases y with
  |lst l2=>
   cases e1
   cases e2
   cases d1 with|lst h1 h2=>cases d2 with|lst h1' h2'=>
    exact⟨_,_,rfl,⟨_,(aC (x2.gg.trans x2.gh) h1).jX⟩,⟨_,(aC x2.gh h1').jX⟩,q _ H2 G2 (x1.trans x2) (Gq (aC x2.gg h1) (h2.mono x2.gg) h1' h2') (fun z=>by cases z)⟩
  |_=>cases e1
 |_=>cases e1
theorem qg(h:dq f (d::r)=some l):∃o t,f d=some o∧dq f r=some t∧l=oc o t:=by
 obtain⟨o,h1,h⟩:=af (show(f d).bind (fun o=>(dq f r).map fun l=>oc o l)=some l from h)
 obtain⟨t,h2,rfl⟩:=aM h
 exact⟨o,t,h1,h2,rfl⟩
theorem yW{tt:TT}(htt:∀σ H (Q:Bool→Hp→Prop),(∃G env b,aG G H∧eV K cl G env σ∧cS mc (ev Γ mc env)=some b∧∀H' G',Ext H G H' G'→Q b H')→tt σ H Q){σ:St}:
 tV K cl Γ (.comp me is wi mc) σ H Q→lr (tI K cl Γ wi) is tt (tV K cl Γ me) σ H Q:=by
 rintro ⟨G,env,d,sg,en,e,q⟩
 obtain⟨ds,e1,e⟩:=af (show((ev Γ wi env).bind kZ).bind (fun ds=>if sz ds.length then(dq (fun d=>(cS mc (ev Γ mc (inner env is d))).bind fun b=>if b then(ev Γ me (inner env is d)).map some else some none) ds).map .lst else none)=some d from e)
 split at e
 ·rename_i hz
  obtain⟨out,e2,rfl⟩:=aM e
  generalize hf:(fun d=>(cS mc (ev Γ mc (inner env is d))).bind fun b=>if b then(ev Γ me (inner env is d)).map some else some none)=f at e2
  have hfd:∀d,f d=(cS mc (ev Γ mc (inner env is d))).bind fun b=>if b then(ev Γ me (inner env is d)).map some else some none:=fun d=>by rw [←hf]
  clear hf
  have hz':=fm hz
  refine⟨G,env,ds,sg,en,e1,fun J H1 G1 x1 wk _ D hD=> ?_⟩
  have gD:G1 D=none:=x1.gh.free hD
  refine⟨fun i k H2=>k=ds.length-i∧i≤ds.length∧∃G2 ys es aV,Ext H1 G1 H2 G2∧H2 D=some (.lst ys)∧G2 D=none∧Dns K cl G2 ys es∧ys.length≤i∧dq f (ds.drop i)=some aV∧es++aV=out,⟨ds.length,by simp,iQ _,G1,[],[],out,⟨aO hD _,.refl _,x1.gh.trans (aO hD _),fun b o h1 h2=>by rw [h1]at h2;cases h2⟩,ak,gD,.nil,by simp,e2,rfl⟩,?_⟩
  rintro i k H2 ⟨rfl,hi,G2,ys,es,aV,x2,hy,g2D,dy,hle,hr,ho⟩
  obtain⟨w1,w2⟩:=wk H2 G2 i x2.gg x2.gh
  by_cases hlt:i<ds.length
  ·have hd:ds[i]?=some ds[i]:=jV hlt
   obtain⟨g,y⟩:=w2 _ hd
   refine .inr ⟨g,fun v H3 yl=> ?_⟩
   obtain⟨G3,x3,d3⟩:=y v H3 yl
   rw [uE hlt]at hr
   obtain⟨o,t,f1,f2,f3⟩:=qg hr
   rw [hfd]at f1
   obtain⟨b,c1,c2⟩:=af f1
   have en3:eV K cl G3 (inner env is ds[i]) (gF σ is (some v)):=(en.mono ((x1.gg.trans x2.gg).trans x3.gg)).inner d3 is
   have g3D:G3 D=none:=by
    cases z:G3 D with
    |none=>rfl
    |some o=>have:=x3.nw D o z g2D;rw [hy]at this;cases this
   refine htt _ _ _ ⟨G3,_,b,x3.gh,en3,c1,fun H4 G4 x4=> ?_⟩
   have g4D:G4 D=none:=by
    cases z:G4 D with
    |none=>rfl
    |some o=>have:=x4.nw D o z g3D;rw [x3.hh _ _ hy]at this;cases this
   cases b with
   |false=>
    have c2':some none=some o:=c2
    cases c2'
    exact nV ⟨ds.length-(i+1),by lia,rfl,hlt,G4,ys,es,t,(x2.trans x3).trans x4,x4.hh _ _ (x3.hh _ _ hy),g4D,dy.mono (x3.gg.trans x4.gg),by lia,f2,by rw [←ho,f3];rfl⟩
   |true=>
    obtain⟨z,c3,c4⟩:=aM (show(ev Γ me (inner env is ds[i])).map some=some o from c2)
    subst c4
    refine nU ⟨G4,_,z,x4.gh,en3.mono x4.gg,c3,fun u H5 G5 x5 d5=> ?_⟩
    have g5D:G5 D=none:=by
     cases z:G5 D with
     |none=>rfl
     |some o=>have:=x5.nw D o z g4D;rw [x4.hh _ _ (x3.hh _ _ hy)]at this;cases this
    have hy5:H5 D=some (.lst ys):=x5.hh _ _ (x4.hh _ _ (x3.hh _ _ hy))
    refine⟨ys,hy5,by rw [sizeLine_eq];lia,ds.length-(i+1),by lia,rfl,hlt,G5,ys++[u],es++[z],t,?_,ak,g5D,(dy.mono ((x3.gg.trans x4.gg).trans x5.gg)).append (.cons d5 .nil),by rw [dP,uF];lia,f2,by rw [←ho,f3,kW];rfl⟩
    have x25:=((x2.trans x3).trans x4).trans x5
    exact⟨fun b o h=>by rw [ag (aD h hD)];exact x25.hh _ _ h,x25.gg,fun b o h=>by rw [ag (aD h g5D)];exact x25.gh _ _ h,x25.nw⟩
  ·have e0:i=ds.length:=by lia
   subst e0
   refine .inl ⟨w1 rfl,?_⟩
   rw [List.drop_length]at hr
   have hr':some []=some aV:=hr
   cases hr'
   rw [kX]at ho
   subst ho
   have s2:=aO g2D (.lst ys)
   refine q _ H2 (bp G2 D (.lst ys)) (x1.trans ⟨x2.hh,x2.gg.trans s2,fun b o h=> ?_,fun b o h n=> ?_⟩) (.lst (.inl (.inl ak)) (dy.mono s2))
   ·by_cases eb:b=D
    ·subst eb;rw [ak]at h;cases h;exact hy
    ·rw [ag eb]at h;exact x2.gh _ _ h
   ·by_cases eb:b=D
    ·subst eb;exact hD
    ·rw [ag eb]at h;exact x2.nw _ _ h n
 ·cases e
end
theorem kD:∀ {names:List (Str×NameKind)} {y:Str},names.lookup y=some .globalImplicit→(iH env names).lookup y=some .globalImplicit
 |[],_,h=>by simp at h
 |(n,k)::r,y,h=>by
  have e:iH env ((n,k)::r)=(if(k==NameKind.free&&env.scope.kind==.function&&env.kindOf n==some .cell)=true then(n,NameKind.cell)else(n,k))::iH env r:=rfl
  rw [e]
  cases hx:y==n with
  |true=>
   simp only [List.lookup_cons,hx]at h
   have hk:k=.globalImplicit:=cC h
   subst hk
   rw [aK (by rw [show(NameKind.globalImplicit==NameKind.free)=false from rfl];simp)]
   simp only [List.lookup_cons,hx]
  |false=>
   simp only [List.lookup_cons,hx]at h
   by_cases hc:(k==NameKind.free&&env.scope.kind==.function&&env.kindOf n==some .cell)=true
   ·rw [aF hc];simp only [List.lookup_cons,hx];exact kD h
   ·rw [aK hc];simp only [List.lookup_cons,hx];exact kD h
section
variable{X:Cx}{cl:Nat→Option Addr}{Γ:bu}{c:CC}
theorem Sees.comp(S:Sees X cl c Γ true N sc)(cs:CompScope sc N scope x fr is)(C:Addr)(s:Shared)(H:Hp)(fp:List Addr)(pins:List (Addr×Obj)):
 Sees (aS X scope (x::fr) C s H fp pins) cl c Γ false (x::fr) scope:=by
 refine⟨rfl,fun i y hy=> ?_,fun y hy=>kD hy,(fun h=>by cases h),S.calm,S.hu,S.blt,fun x f g h1 h2=>⟨(S.fn x f g h1 h2).ex⟩,S.gi,S.cls,fun c C k m g h0 h1 h2=>⟨(S.mth c C k m g h0 h1 h2).ex⟩,S.cn⟩
 cases i with
 |zero=>
  have hy':some x=some y:=hy
  cases hy'
  exact .inl (lookup_relabel_local cs.var)
 |succ i=>
  have hy':fr[i]?=some y:=hy
  exact .inr (ic (cs.look y (uD hy')))
theorem LS{f:Expr→Option E}{args:List Expr}(S:Sees X cl c Γ aQ N sc)(ih:∀e m,f e=some m→PE X e (tV X.K cl Γ m))(ok:args.all b5=true)(gx:gZ N sc x=true)(h:cB (fun y=>gZ N sc y&&(c.tab.lookup y).isNone) (fun y=>if gZ N sc y then c.cn.lookup y else none) f x args=some m):PE X (.Call (.Name x p) args [] pos) (tV X.K cl Γ m):=by
 obtain⟨o1,g1⟩:=bQ gx
 have gg:=S.gl x g1
 unfold cB at h
 split at h
 ·rename_i a
  rw [cK,Bool.and_eq_true]at ok
  have oa:=ok.1
  split at h
  ·rename_i e
   have e:x="len":=by simpa using e
   subst e
   have plain:∀ {m:E},(f a).map (E.un .len)=some m→PE X (.Call (.Name "len" p) [a] [] pos) (tV X.K cl Γ m):=by
    intro m h
    obtain⟨ma,h1,rfl⟩:=aM h
    exact fj (cF (Me (cl:=cl)) gg (S.blt _ (by decide+kernel)) I0 (ay (ih a ma h1) aY (ah oa _ _)) (by decide) (by decide) (ah oa _ _) rfl) fun σ H Q q=>zg (fun _=>rfl) q
   exact plain h
  split at h
  ·rename_i e
   have e:x="list":=by simpa using e
   subst e
   have plain:∀ {m:E},(f a).map (E.un .list)=some m→PE X (.Call (.Name "list" p) [a] [] pos) (tV X.K cl Γ m):=by
    intro m h
    obtain⟨ma,h1,rfl⟩:=aM h
    exact fj (fi (Je (cl:=cl)) gg (S.blt _ (by decide+kernel)) oE (ay (ih a ma h1) aY (ah oa _ _)) (by decide) (by decide) (ah oa _ _) rfl) fun σ H Q q=>zg (fun _=>rfl) q
   split at h
   ·rename_i y py b pb
    split at h
    ·rename_i hr
     obtain⟨hr,ob⟩:=bg hr
     obtain⟨hr1,hr2⟩:=bg hr
     obtain⟨hr1,_⟩:=bg hr1
     have e:y="range":=by simpa using hr2
     subst e
     obtain⟨mb,h1,rfl⟩:=aM h
     obtain⟨_,g2⟩:=bQ hr1
     refine fj (fi (ke S.calm) gg (S.blt _ (by decide+kernel)) oE (ay (fi lL (S.gl _ g2) (S.blt _ (by decide+kernel)) vM (ay (ih b mb h1) aY (ah ob _ _)) (by decide) (by decide) (ah ob _ _) rfl) aY rfl) (by decide) (by decide) rfl rfl) fun σ H Q hp9=> ?_
     obtain⟨G,env,d,sg,en,e,q⟩:=hp9
     obtain⟨z,e1,e⟩:=af (show(ev Γ mb env).bind (iG .lrng)=some d from e)
     refine⟨G,env,z,sg,en,e1,fun v H1 G1 x1 d1=> ?_⟩
     cases z with
     |int n=>
      have e':(if decide (-(2 ^ 60)≤n∧n≤1000000)then some (D.lst ((List.range n.toNat).map fun(i:Nat)=>D.int i))else none)=some d:=e
      split at e'
      ·rename_i hn
       have hn:=fm hn
       cases e'
       cases d1
       refine⟨n,rfl,fun p hp=> ?_⟩
       have x2:=Ext.HB x1.gh hp (.rng 0 n)
       refine⟨p,0,n,rfl,ak,by decide,by decide,by lia,by lia,by lia,fun l hl=> ?_⟩
       rw [Int.sub_zero]
       refine ub x2.gh (fun z H3 G3 x3 d3=>q z H3 G3 ((x1.trans x2).trans x3) d3) hl ?_
       have e3:((List.range n.toNat).map fun(i:Nat)=>V.int (0+(i:Int)))=((List.range n.toNat).map fun(i:Nat)=>(i:Int)).map V.int:=by simp
       have e4:((List.range n.toNat).map fun(i:Nat)=>D.int (i:Int))=((List.range n.toNat).map fun(i:Nat)=>(i:Int)).map D.int:=by simp
       rw [e3,e4]
       exact hR _
      ·cases e'
     |_=>cases e
    ·exact plain h
   ·exact plain h
  split at h
  ·rename_i e
   have e:x="sorted":=by simpa using e
   subst e
   have plain:∀ {m:E},(f a).map (E.un .sorted)=some m→PE X (.Call (.Name "sorted" p) [a] [] pos) (tV X.K cl Γ m):=by
    intro m h
    obtain⟨ma,h1,rfl⟩:=aM h
    exact fj (cF (CK (cl:=cl)) gg (S.blt _ (by decide+kernel)) r8 (ay (ih a ma h1) aY (ah oa _ _)) (by decide) (by decide) (ah oa _ _) rfl) fun σ H Q q=>zg (fun _=>rfl) q
   exact plain h
  split at h
  ·rename_i e
   have e:x="any":=by simpa using e
   subst e
   obtain⟨ma,h1,rfl⟩:=aM h
   exact fj (cF (Mf (cl:=cl) S.calm) gg (S.blt _ (by decide+kernel)) Ja (ay (ih a ma h1) aY (ah oa _ _)) (by decide) (by decide) (ah oa _ _) rfl) fun σ H Q q=>zg (fun _=>rfl) q
  split at h
  ·rename_i e
   have e:x="all":=by simpa using e
   subst e
   obtain⟨ma,h1,rfl⟩:=aM h
   exact fj (cF (Mg (cl:=cl) S.calm) gg (S.blt _ (by decide+kernel)) CI (ay (ih a ma h1) aY (ah oa _ _)) (by decide) (by decide) (ah oa _ _) rfl) fun σ H Q q=>zg (fun _=>rfl) q
  split at h
  ·rename_i e
   have e:x="sum":=by simpa using e
   subst e
   obtain⟨ma,h1,rfl⟩:=aM h
   exact fj (cF (Md (cl:=cl) S.calm) gg (S.blt _ (by decide+kernel)) IX (ay (ih a ma h1) aY (ah oa _ _)) (by decide) (by decide) (ah oa _ _) rfl) fun σ H Q q=>zg (fun _=>rfl) q
  ·cases h
 ·rename_i a b
  rw [cK,Bool.and_eq_true,cK,Bool.and_eq_true]at ok
  have oa:=ok.1
  have ob:=ok.2.1
  split at h
  ·rename_i e
   have e:x="min":=by simpa using e
   subst e
   obtain⟨ma,h1,h⟩:=af h
   obtain⟨mb,h2,rfl⟩:=aM h
   exact fj (cF (Jc (cl:=cl) S.calm) gg (S.blt _ (by decide+kernel)) IY (ay (ih a ma h1) (ay (ih b mb h2) aY (ah ob _ _)) (ah oa _ _)) (by decide) (by decide) (ah oa _ _) (cW (es:=[b]) (by rw [cK,ob];rfl) _ _)) fun σ H Q q=>J9 (fun _=>rfl) q
  split at h
  ·rename_i e
   have e:x="max":=by simpa using e
   subst e
   obtain⟨ma,h1,h⟩:=af h
   obtain⟨mb,h2,rfl⟩:=aM h
   exact fj (cF (Jd (cl:=cl) S.calm) gg (S.blt _ (by decide+kernel)) IZ (ay (ih a ma h1) (ay (ih b mb h2) aY (ah ob _ _)) (ah oa _ _)) (by decide) (by decide) (ah oa _ _) (cW (es:=[b]) (by rw [cK,ob];rfl) _ _)) fun σ H Q q=>J9 (fun _=>rfl) q
  split at h
  ·rename_i e
   have e:x="isinstance":=by simpa using e
   subst e
   split at h
   ·rename_i t pt
    split at h
    ·rename_i j hj
     obtain⟨ma,h1,rfl⟩:=aM h
     replace hj:(if gZ N sc t then c.cn.lookup t else none)=some j:=hj
     split at hj
     ·rename_i ht
      obtain⟨ot,gt⟩:=bQ ht
      obtain⟨J,hJ,hmg⟩:=S.cn t j hj
      exact D0 S.cls (ih a ma h1) oa gg (S.blt _ (by decide+kernel)) (S.gl t gt) hmg hJ ot
     ·cases hj
    split at h
    ·rename_i ht
     obtain⟨ht,_⟩:=bg ht
     obtain⟨k,hk,h⟩:=af h
     obtain⟨ma,h1,rfl⟩:=aM h
     obtain⟨ot,gt⟩:=bQ ht
     exact DZ (ih a ma h1) oa gg (S.blt _ (by decide+kernel)) (S.gl t gt) (S.blt _ (rh hk).1) hk ot
    ·cases h
   ·cases h
  ·cases h
 ·cases h
theorem qk{f:Expr→Option E}{e:Expr}(S:Sees X cl c Γ aQ N sc)(ih:∀e m,f e=some m→PE X e (tV X.K cl Γ m))(ht:tt=true→∃es k p,tg=.Tuple es k p)(h:cI tt (gZ N sc) (fun y=>(c.tab.lookup y).isSome) f e=some m):PI X tg e (tI X.K cl Γ m):=by
 have seq:Mx (f e)=some m→PI X tg e (tI X.K cl Γ m):=fun h=>by
  obtain⟨m',h1,h2⟩:=af h
  split at h2
  ·cases h2
  ·rename_i nr
   cases h2
   exact DL (ih e m h1) (by simpa using nr)
 unfold cI at h
 split at h
 ·rename_i x p a pos
  split at h
  ·rename_i hx
   obtain⟨hx,oa⟩:=bg hx
   obtain⟨hx,e⟩:=bg hx
   obtain⟨hx,_⟩:=bg hx
   have e:x="range":=by simpa using e
   subst e
   obtain⟨ma,h1,rfl⟩:=aM h
   exact DN (S.gl _ (bQ hx).2) (S.blt _ (by decide+kernel)) (ih a ma h1) oa
  split at h
  ·rename_i hx
   obtain⟨hx,oa⟩:=bg hx
   obtain⟨hx,e⟩:=bg hx
   obtain⟨hx,_⟩:=bg hx
   obtain⟨h2,hx⟩:=bg hx
   have e:x="enumerate":=by simpa using e
   subst e
   obtain⟨ma,h1,rfl⟩:=aM h
   obtain⟨es,k,p',rfl⟩:=ht h2
   exact DP (S.gl _ (bQ hx).2) (S.blt _ (by decide+kernel)) (ih a ma h1) oa
  split at h
  ·rename_i hx
   obtain⟨hx,oa⟩:=bg hx
   obtain⟨hx,e⟩:=bg hx
   obtain⟨hx,_⟩:=bg hx
   have e:x="reversed":=by simpa using e
   subst e
   obtain⟨ma,h1,rfl⟩:=aM h
   exact DM (S.gl _ (bQ hx).2) (S.blt _ (by decide+kernel)) (ih a ma h1) oa
  ·exact seq h
 ·rename_i x p a b pos
  split at h
  ·rename_i hx
   obtain⟨hx,oa⟩:=bg hx
   obtain⟨hx,e⟩:=bg hx
   obtain⟨hx,_⟩:=bg hx
   have e:x="range":=by simpa using e
   subst e
   obtain⟨ma,h1,h⟩:=af h
   obtain⟨mb,h2,rfl⟩:=aM h
   exact Bm (S.gl _ (bQ hx).2) (S.blt _ (by decide+kernel)) (ih a ma h1) (ih b mb h2) (bg oa).1 (bg oa).2
  split at h
  ·rename_i hx
   obtain⟨hx,oa⟩:=bg hx
   obtain⟨hx,e⟩:=bg hx
   obtain⟨hx,_⟩:=bg hx
   obtain⟨h2,hx⟩:=bg hx
   have e:x="zip":=by simpa using e
   subst e
   obtain⟨ma,h1,h⟩:=af h
   obtain⟨mb,h3,rfl⟩:=aM h
   obtain⟨es,k,p',rfl⟩:=ht h2
   exact Hc (S.gl _ (bQ hx).2) (S.blt _ (by decide+kernel)) (ih a ma h1) (ih b mb h3) (bg oa).1 (bg oa).2
  ·exact seq h
 ·exact seq h
theorem JM(h:RL K H a xs):JN K "list" (.ref a) H:=.inl ⟨rfl,xs,h.jX⟩
theorem D1(ho:PE X (.Name x p) (tV X.K cl Γ mo))(ha:PE X a (tV X.K cl Γ ma))(oa:b5 a=true)(bm:mJ apos pos=true):PE X (.Call (.Attribute (.Name x p) "index" apos) [a] [] pos) (tV X.K cl Γ (.ind mo ma)):=by
 refine fj (Bz PySem.F.plainAttrs_list PySem.F.slot_list_index PySem.F.type_list_index BF ho (ay ha aY (ah oa _ _)) rfl (t5 (es:=[a]) (by rw [List.all_cons,oa];rfl) _ _ (by simp)) bm (ah oa _ _) rfl) fun σ H Q hp9=> ?_
 obtain⟨G,env,d,sg,en,e,q⟩:=hp9
 obtain⟨x,ex,e⟩:=af (show(ev Γ mo env).bind (fun x=>(ev Γ ma env).bind fun y=>BQ x y)=some d from e)
 obtain⟨y,ey,e⟩:=af e
 refine⟨G,env,x,sg,en,ex,fun v H1 G1 x1 d1=> ?_⟩
 cases x with
 |lst l=>
  cases y with
  |int k=>
   obtain⟨ns,e1,e3⟩:=af (show(cQ l).bind (fun ns=>if PyData.layable0 (.list (ns.map .int))&&ns.contains k then some (D.int (ns.idxOf k:Nat))else none)=some d from e)
   have e1:=g0 e1
   subst e1
   split at e3
   ·rename_i hc
    obtain⟨c1,c2⟩:=bg hc
    cases e3
    cases d1 with|lst h1 h2=>
     have e2:=h2.ints
     subst e2
     refine⟨JM (aC x1.gh h1),G1,env,.int k,x1.gh,en.mono x1.gg,ey,fun u H2 G2 x2 d2=> ?_⟩
     cases d2
     exact⟨_,ns,k,rfl,rfl,(aC (x2.gg.trans x2.gh) h1).jX,c1,by simpa using c2,cw x2.gh (fun z H3 G3 x3 d3=>q z H3 G3 ((x1.trans x2).trans x3) d3) (.int _)⟩
   ·cases e3
  |_=>cases e
 |_=>cases e
end
section
variable{cl:Nat→Option Addr}{Γ:bu}{c:CC}{Lg:Nat→Prop}
theorem yq(h:PE X e (tC v))(hm:∀env,ev Γ m env=some d)(hd:∀G,Dn X.K cl G v d):PE X e (tV X.K cl Γ m):=
 fj h fun σ H Q hp9=>by
  obtain⟨G,env,d',sg,en,e,q⟩:=hp9
  rw [hm]at e
  cases e
  exact q _ H G (Ext.refl sg) (hd G)
theorem tH(h:zJ e=some x):∃p,e=.Name x p:=by
 cases e
 case Name y p=>cases h;exact⟨p,rfl⟩
 all_goals cases h
theorem yO:∀ {vfs:List (Str×V)} {ds:List D},Dns K cl G (vfs.map (·.2)) ds→((vfs.map (·.1)).zip ds).lookup f=some d→∃v,vfs.lookup f=some v∧Dn K cl G v d
 |[],_,_,h=>by cases h
 |(k,v)::r,ds,hs,h=>by
  cases hs with
  |cons a t=>
   rw [lV,List.zip_cons_cons,sF]at h
   rw [sF]
   cases q:f==k with
   |true=>rw [q]at h;cases h;exact⟨v,rfl,a⟩
   |false=>rw [q]at h;exact yO t h
theorem D2{X:Cx}(hc:gw X.K cl)(hf:vV.contains f=true)(ha:eU e=true)(he:PE X e (tV X.K cl Γ ma)):PE X (.Attribute e f pos) (tV X.K cl Γ (.fld ma f)):=by
 have hb:attributeBase e f X.env (eval e X.env)=eval e X.env:=by
  cases e
  case Call fn args ks p=>
   cases fn
   case Name x px=>
    cases args with
    |nil=>cases ks with
     |nil=>cases ha
     |cons _ _=>rfl
    |cons _ _=>rfl
   all_goals rfl
  all_goals rfl
 refine fj (mm he hb) fun σ H Q h=> ?_
 obtain⟨G,env,d,sg,en,e1,q⟩:=h
 obtain⟨x,ex,e2⟩:=af (show(ev Γ ma env).bind (xx f)=some d from e1)
 refine⟨G,env,x,sg,en,ex,fun v H1 G1 x1 d1=> ?_⟩
 cases x with
 |ins c ks ds=>
  cases d1 with
  | @ins a C dx _ _ vfs _ h1 h2 h3 h4=>
    subst h3
    obtain⟨u,l1,l2⟩:=yO h4 e2
    obtain⟨c1,c2,_⟩:=hc.1 c C h2
    exact⟨a,C,dx,vfs,u,rfl,x1.gh _ _ h1,c1,c2 f (sH.mp hf),l1,q u H1 G1 x1 l2⟩
 |_=>cases e2
theorem dR(hΓ:∀x f,c.tab.lookup x=some f→∃g,Γ f=some g):∀(n:Nat) (aQ:Bool) (N:List Str) (sc:Scope) (e:Expr) (m:E) (X:Cx),Sees X cl c Γ aQ N sc→cE c n aQ N sc e=some m→CQ X cl Γ e m:=by
 intro n
 induction n with
 |zero=>intro aQ N sc e m X S h;cases h
 |succ n ih=>
  intro aQ N sc e m X S h
  have ih1:∀e m,cE c n aQ N sc e=some m→PE X e (tV X.K cl Γ m):=fun e m h=>(ih aQ N sc e m X S h).1
  cases e
  case Name x pos=>
   replace h:IL c N sc x=some m:=h
   unfold IL at h
   have go:PE X (.Name x pos) (tV X.K cl Γ m):=by
    split at h
    ·rename_i ok
     obtain⟨n1,n2,n3⟩:=ik ok
     split at h
     ·rename_i i hi
      cases h
      have hN:=cG hi
      refine fj (wL (i:=i) (by rw [S.hN];exact hN) (S.vis i x hN) n1 n2) fun σ H Q hp9=> ?_
      obtain⟨G,env,d,sg,en,e,q⟩:=hp9
      have e':(env[i]?).join=some d:=e
      have e2:env[i]?=some (some d):=by
       cases z:env[i]? with
       |none=>rw [z]at e';cases e'
       |some o=>rw [z]at e';rw [show o=some d from e']
      obtain⟨v,h1,h2⟩:=en i d e2
      exact⟨v,h1,q v H G (Ext.refl sg) h2⟩
     ·split at h
      ·rename_i hg
       obtain⟨i,hi,rfl⟩:=aM h
       obtain⟨t,ht⟩:=S.gi x i hi
       refine fj (yp (v:=.int i) (S.gl x hg) ht ⟨t,rfl⟩ n1) fun σ H Q hp9=> ?_
       obtain⟨G,env,d,sg,en,e,q⟩:=hp9
       have e':some (D.int i)=some d:=e
       cases e'
       exact q _ H G (Ext.refl sg) (.int _)
      ·cases h
    ·cases h
   exact⟨go,fun _=>eF (by intro _;rfl) go⟩
  case Constant k kk pos=>
   replace h:OA k=some m:=h
   cases k
   case int i=>
    cases h
    have go:=yq (X:=X) (cl:=cl) (Γ:=Γ) (m:=.int i) (Hl (j:=kk) (pos:=pos)) (fun _=>rfl) (fun _=> .int _)
    exact⟨go,fun _=>eF (by intro _;rfl) go⟩
   case bool i=>
    cases h
    have go:=yq (X:=X) (cl:=cl) (Γ:=Γ) (m:=.bl i) (KS (j:=kk) (pos:=pos)) (fun _=>rfl) (fun _=> .bl _)
    exact⟨go,fun _=>eF (by intro _;rfl) go⟩
   case none=>
    cases h
    have go:=yq (X:=X) (cl:=cl) (Γ:=Γ) (m:=.non) (Hj (j:=kk) (pos:=pos)) (fun _=>rfl) (fun _=> .non)
    exact⟨go,fun _=>eF (by intro _;rfl) go⟩
   case str i=>
    cases h
    have go:=yq (X:=X) (cl:=cl) (Γ:=Γ) (m:=.str i) (Hh (j:=kk) (pos:=pos)) (fun _=>rfl) (fun _=> .str _)
    exact⟨go,fun _=>eF (by intro _;rfl) go⟩
   all_goals cases h
  case BinOp a op b pos=>
   replace h:((cE c n aQ N sc a).bind fun m=>(cE c n aQ N sc b).map fun l=>E.bin op m l)=some m:=h
   obtain⟨ma,h1,h⟩:=af h
   obtain⟨mb,h2,rfl⟩:=aM h
   have go:PE X (.BinOp a op b pos) (tV X.K cl Γ (.bin op ma mb)):=fj (Bp (BB (cl:=cl) op) (ih1 a ma h1) (ih1 b mb h2)) fun σ H Q q=>Ka (fun _=>rfl) q
   exact⟨go,fun _=>eF (by intro _;rfl) go⟩
  case UnaryOp op a pos=>
   cases op
   case USub=>
    replace h:(cE c n aQ N sc a).map (.un .neg)=some m:=h
    obtain⟨ma,h1,rfl⟩:=aM h
    have go:PE X (.UnaryOp .USub a pos) (tV X.K cl Γ (.un .neg ma)):=fj (KO (Df (cl:=cl)) (ih1 a ma h1)) fun σ H Q q=>OI (fun _=>rfl) q
    exact⟨go,fun _=>eF (by intro _;rfl) go⟩
   case Not=>
    replace h:(if oo a then(cE c n aQ N sc a).map .not else none)=some m:=h
    split at h
    ·rename_i ok
     obtain⟨ma,h1,rfl⟩:=aM h
     have b:=ih aQ N sc a ma X S h1
     exact⟨DT b.1,fun _=>DE (b.2 ok)⟩
    ·cases h
   all_goals cases h
  case Compare a ops bs pos=>
   replace h:LY (cE c n aQ N sc) a ops bs=some m:=h
   unfold LY at h
   split at h
   ·rename_i op b
    split at h
    ·rename_i ok
     obtain⟨ma,h1,h⟩:=af h
     obtain⟨mb,h2,rfl⟩:=aM h
     exact EZ S.hu (ih1 a ma h1) (ih1 b mb h2) ok
    ·cases h
   ·rename_i op op' b d
    split at h
    ·rename_i ok
     obtain⟨ma,h1,h⟩:=af h
     obtain⟨mb,h2,h⟩:=af h
     obtain⟨md,h3,rfl⟩:=aM h
     exact IH S.hu (ih1 a ma h1) (ih1 b mb h2) (ih1 d md h3) (bg ok).2
    ·cases h
   ·cases h
  case BoolOp op vs pos=>
   cases op
   case And=>
    replace h:(if 2≤vs.length then vL (cE c n aQ N sc) vs else none)=some m:=h
    split at h
    ·have b:=yZ (X:=X) (cl:=cl) (Γ:=Γ) (pos:=pos) (fun e _ m h=>ih aQ N sc e m X S h) h
     exact⟨b.1,fun _=>b.2.pt⟩
    ·cases h
   case Or=>
    replace h:(if 2≤vs.length then FX (cE c n aQ N sc) vs else none)=some m:=h
    split at h
    ·have b:=Cu (X:=X) (cl:=cl) (Γ:=Γ) (pos:=pos) (fun e _ m h=>ih aQ N sc e m X S h) h
     exact⟨b.1,fun _=>b.2.pt⟩
    ·cases h
  case IfExp t a b pos=>
   replace h:(if oo t then(cE c n aQ N sc t).bind fun k=>(cE c n aQ N sc a).bind fun m=>(cE c n aQ N sc b).map fun l=>E.ite k m l else none)=some m:=h
   split at h
   ·rename_i ok
    obtain⟨mt,h1,h⟩:=af h
    obtain⟨ma,h2,h⟩:=af h
    obtain⟨mb,h3,rfl⟩:=aM h
    exact⟨DY ((ih aQ N sc t mt X S h1).2 ok) (ih1 a ma h2) (ih1 b mb h3),fun z=>by cases z⟩
   ·cases h
  case Call fn args ks pos=>
   cases ks with
   |cons _ _=>
    replace h:(none:Option E)=some m:=h
    cases h
   |nil=>
   replace h:(match xR fn with
    |some om=>if om.2.2.1==("index":Str)then FZ (cE c n aQ N sc) pos om args else FY (cE c n aQ N sc) pos om args
    |none=>(zJ fn).bind fun x=>E8 c N sc (cE c n aQ N sc) x args)=some m:=h
   split at h
   ·rename_i om hom
    have e:=Fb hom
    subst e
    split at h
    ·rename_i hi
     have hi:om.2.2.1="index":=by simpa using hi
     unfold FZ at h
     split at h
     ·rename_i a
      split at h
      ·rename_i ok
       obtain⟨oa,bm⟩:=bg ok
       obtain⟨mo,h1,h⟩:=af h
       obtain⟨ma,h2,rfl⟩:=aM h
       rw [hi]
       have go:=D1 (p:=om.2.1) (apos:=om.2.2.2) (pos:=pos) (ih1 _ mo h1) (ih1 a ma h2) oa bm
       exact⟨go,fun _=>eF (by intro _;rfl) go⟩
      ·cases h
     ·cases h
    unfold FY at h
    split at h
    ·rename_i ok
     obtain⟨ok,hl⟩:=bg ok
     obtain⟨ok,bm⟩:=bg ok
     obtain⟨ok,ne⟩:=bg ok
     obtain⟨k,hk,h⟩:=af h
     obtain⟨i,hi,h⟩:=af h
     obtain⟨mo,ho,hv⟩:=af hi
     obtain⟨ml,hml,rfl⟩:=aM h
     have e:mo=.var i:=by cases mo<;>first|(cases hv;rfl)|(cases hv;done)
     subst e
     cases args with
     |nil=>cases ne
     |cons e es=>
      have go:=Br (pos:=pos) (apos:=om.2.2.2) S.cls S.mth (cG hk) (ih1 _ _ ho) (dH (fun e _ m h=>ih1 e m h) ok hml) ok (fm hl) bm
      exact⟨go,fun _=>eF (by intro _;rfl) go⟩
    ·cases h
   replace h:=af h
   obtain⟨x,h0,h⟩:=h
   obtain⟨p,rfl⟩:=tH h0
   unfold E8 at h
   have go:PE X (.Call (.Name x p) args [] pos) (tV X.K cl Γ m):=by
    split at h
    ·rename_i ok
     obtain⟨ok,gx⟩:=bg ok
     obtain⟨o1,g1⟩:=bQ gx
     obtain⟨n1,n2,n3⟩:=ik o1
     split at h
     ·rename_i f hf
      split at h
      ·cases h
      ·rename_i hne
       obtain⟨ml,h1,rfl⟩:=aM h
       obtain⟨g,hg⟩:=hΓ x f hf
       cases args with
       |nil=>exact absurd rfl hne
       |cons e es=>exact Bx (S.gl x g1) n1 (S.fn x f g hf hg) hg (dH (fun e _ m h=>ih1 e m h) ok h1) ok
     ·exact LS S ih1 ok gx h
    ·cases h
   exact⟨go,fun _=>eF (by intro _;rfl) go⟩
  case Subscript a b pos=>
   replace h:((cE c n aQ N sc a).bind fun m=>IJ (cE c n aQ N sc) m b)=some m:=h
   replace h:=af h
   obtain⟨ma,h1,h⟩:=h
   unfold IJ at h
   split at h
   ·rename_i lo hi st p2
    cases st with
    |some st=>
     replace h:(if lo.isNone&&hi.isNone then(match cE c n aQ N sc st with
      |some (.un .neg (.int 1))=>some (.rev ma)
      |_=>none)else none)=some m:=h
     split at h
     ·rename_i hn
      obtain⟨rfl,rfl⟩:lo=none∧hi=none:=by simpa using hn
      split at h
      ·rename_i hs
       cases h
       have go:PE X (.Subscript a (.Slice none none (some st) p2) pos) (tV X.K cl Γ (.rev ma)):=DS (ms:=.nil) (ih1 a ma h1) (ih1 st _ hs)
       exact⟨go,fun _=>eF (by intro _;rfl) go⟩
      ·cases h
     ·cases h
    |none=>
     replace h:((xQ (cE c n aQ N sc) lo).bind fun ml=>(xQ (cE c n aQ N sc) hi).map fun mh=>E.cut ma ml mh)=some m:=h
     obtain⟨ml,h2,h⟩:=af h
     obtain⟨mh,h3,rfl⟩:=aM h
     have go:=D5 (p2:=p2) (pos:=pos) (ih1 a ma h1) (DK (fun e _ m h=>ih1 e m h) h2) (DK (fun e _ m h=>ih1 e m h) h3)
     exact⟨go,fun _=>eF (by intro _;rfl) go⟩
   ·split at h
    ·rename_i ok
     obtain⟨mb,h2,rfl⟩:=aM h
     have go:PE X (.Subscript a b pos) (tV X.K cl Γ (.idx ma mb)):=fj (Bu (Ng (cl:=cl)) (ih1 a ma h1) (ih1 b mb h2) (fun _ _=>by cases b<;>first|rfl|cases ok)) fun σ H Q q=>Ka (fun _=>rfl) q
     exact⟨go,fun _=>eF (by intro _;rfl) go⟩
    ·cases h
  case List es pos=>
   replace h:(if es.all b5 then(gn (cE c n aQ N sc) es).map .lst else none)=some m:=h
   split at h
   ·rename_i ok
    obtain⟨ml,h1,rfl⟩:=aM h
    have go:=DX (pos:=pos) (dH (fun e _ m h=>ih1 e m h) ok h1)
    exact⟨go,fun _=>eF (by intro _;rfl) go⟩
   ·cases h
  case Attribute a f pos=>
   replace h:(if vV.contains f&&eU a then(cE c n aQ N sc a).map (.fld · f)else none)=some m:=h
   split at h
   ·rename_i ok
    obtain⟨hf,ao⟩:=bg ok
    obtain⟨ma,h1,rfl⟩:=aM h
    have go:=D2 (pos:=pos) S.cls hf ao (ih1 a ma h1)
    exact⟨go,fun _=>eF (by intro _;rfl) go⟩
   ·cases h
  case Tuple es k pos=>
   replace h:(if es.all b5 then(gn (cE c n aQ N sc) es).map .tup else none)=some m:=h
   split at h
   ·rename_i ok
    obtain⟨ml,h1,rfl⟩:=aM h
    have go:=DQ (k:=k) (pos:=pos) (dH (fun e _ m h=>ih1 e m h) ok h1)
    exact⟨go,fun _=>eF (by intro _;rfl) go⟩
   ·cases h
  case ListComp elt gs scope pos=>
   replace h:(if aQ then E2 c N sc (cE c n aQ N sc) (fun N' e=>cE c n false N' scope e) elt scope gs else none)=some m:=h
   split at h
   ·rename_i tp
    subst tp
    unfold E2 at h
    split at h
    ·rename_i x px iter ifs
     have go:PE X (.ListComp elt [⟨.Name x px,iter,ifs,0⟩] scope pos) (tV X.K cl Γ m):=by
      split at h
      ·rename_i oi
       obtain⟨is,h1,h⟩:=af h
       split at h
       ·rename_i cs
        have cs:=hV cs
        obtain⟨mi,h2,h⟩:=af h
        obtain⟨me,h3,h⟩:=af h
        obtain⟨mc,h4,rfl⟩:=aM h
        have hi:PI X (.Name x px) iter (tI X.K cl Γ mi):=qk S ih1 (fun z=>by cases z) h2
        have he:∀C s H fp pins,PE (aS X scope (x::bK scope.names) C s H fp pins) elt (tV X.K cl Γ me):=fun C s H fp pins=>(ih false _ scope elt me _ (S.comp cs C s H fp pins) h3).1
        have hfs:∀v,foldedSetIterable iter X.env v=pure v:=by intro v;cases iter<;>first|rfl|cases oi
        have hcs:X.env.scope=sc:=S.tp rfl
        cases ifs with
        |nil=>
         cases h4
         exact fj (tf S.calm hi he cs hcs S.hN hfs) fun σ H Q q=>yW (fun σ H Q hp9=>by
          obtain⟨G,env,b,sg,en,e,q⟩:=hp9
          have e':some true=some b:=e
          cases e'
          exact q H G (Ext.refl sg)) q
        |cons t r=>
         cases r with
         |nil=>
          have h4':(if oo t then(cE c n false (x::bK scope.names) scope t).bind fun m=>if m5 m then none else some m else none)=some mc:=h4
          split at h4'
          ·rename_i okt
           obtain⟨m',h5,h6⟩:=af h4'
           split at h6
           ·cases h6
           ·rename_i nn
            cases h6
            have ht:∀C s H fp pins,PT (aS X scope (x::bK scope.names) C s H fp pins) t (tVT X.K cl Γ mc):=fun C s H fp pins=>(ih false _ scope t mc _ (S.comp cs C s H fp pins) h5).2 okt
            exact fj (rA S.calm hi ht he cs hcs S.hN hfs) fun σ H Q q=>yW (fun σ H Q hp9=>by
             obtain⟨G,env,b,sg,en,e,q⟩:=hp9
             unfold cS at e
             rw [aK nn]at e
             exact⟨G,env,b,sg,en,e,q⟩) q
          ·cases h4'
         |cons t2 r2=>cases h4
       ·cases h
      ·cases h
     exact⟨go,fun _=>eF (by intro _;rfl) go⟩
    ·cases h
   ·cases h
  all_goals cases h
end
noncomputable abbrev av:=List (Option T)
noncomputable def ae(env:av):Env:=env.map (·.map strip)
noncomputable def Dv:Option T→Option D
 |some (.sh d)=>some d
 |_=>none
noncomputable def gC(env:av):Env:=env.map Dv
noncomputable def scal:D→Bool
 | .non=>true| .bl _=>true| .int _=>true| .str _=>true|_=>false
mutual
noncomputable def bN:T→Bool
 | .sh d=>scal d
 | .ow ts=>iz ts
 | .ob _ _ ts=>iz ts
noncomputable def iz:List T→Bool
 |[]=>true
 |t::r=>bN t&&iz r
end
structure Rep(K:W.Frag)(cl:Nat→Option Addr)(H₀ G₀:Hp)(io:Option (Nat×Addr))(F:Hp)(A:Nat→List Addr)(σ:St)(env:av)(H:Hp):Prop where
 slot:∀(i:Nat) (t:T),env[i]?=some (some t)→∃v,σ[i]?=some (some v)∧OT K cl F H v t (A i)
 out:∀(i:Nat),(∀t,env[i]?≠some (some t))→A i=[]
 nd:∀(i:Nat),(A i).Nodup
 dj:∀(i j:Nat) (a:Addr),i≠j→a∈A i→a∈A j→False
 fh:aG F H
 gf:aG G₀ F
 fnew:∀b o,F b=some o→G₀ b=none→H₀ b=none
 keep:∀b o,H₀ b=some o→(∀p,io≠some (p,b))→H b=some o
 anew:∀(i:Nat) (a:Addr),a∈A i→(∃p,io=some (p,a))∨H₀ a=none
 iok:∀p a,io=some (p,a)→∃B,A p=a::B
structure Gro(F:Hp)(A:Nat→List Addr)(H F':Hp)(A':Nat→List Addr)(H':Hp):Prop where
 hh:aG H H'
 ff:aG F F'
 nw:∀b o,F' b=some o→F b=none→(∃j,b∈A j)∨H b=none
 aa:∀(j:Nat) (a:Addr),a∈A' j→a∈A j
section
variable{F F' F2 H H' H2:Hp}{A A' A2:Nat→List Addr}
theorem Gro.refl:Gro F A H F A H:=⟨.refl _,.refl _,(fun b o h1 h2=>by rw [h1]at h2;cases h2),fun _ _ h=>h⟩
theorem Gro.trans(x:Gro F A H F' A' H')(y:Gro F' A' H' F2 A2 H2):Gro F A H F2 A2 H2:=
 ⟨x.hh.trans y.hh,x.ff.trans y.ff,fun b o h1 h2=>by
   cases e:F' b with
   |some u=>exact x.nw b u e h2
   |none=>
    rcases y.nw b o h1 e with⟨j,z⟩|z
    ·exact .inl ⟨j,x.aa j b z⟩
    ·exact .inr (x.hh.free z),fun j a h=>x.aa j a (y.aa j a h)⟩
theorem Gro.tE(x:Ext H F H' F'):Gro F A H F' A H':=⟨x.hh,x.gg,fun b o h1 h2=> .inr (x.nw b o h1 h2),fun _ _ h=>h⟩
theorem Gro.of_same(x:aG H H'):Gro F A H F A H':=⟨x,.refl _,(fun b o h1 h2=>by rw [h1]at h2;cases h2),fun _ _ h=>h⟩
end
section
variable{K:W.Frag}{cl:Nat→Option Addr}{H₀ G₀ F H H' F':Hp}{io:Option (Nat×Addr)}{A:Nat→List Addr}{σ:St}{env:av}
theorem Rep.Jv(R:Rep K cl H₀ G₀ io F A σ env H)(h:io=some (p,a)):a∈A p:=by
 obtain⟨B,e⟩:=R.iok p a h
 rw [e];simp
theorem Rep.at_(R:Rep K cl H₀ G₀ io F A σ env H)(h:a∈A i):F a=none∧∃o,H a=some o:=by
 cases e:env[i]? with
 |none=>rw [R.out i (fun t z=>by rw [e]at z;cases z)]at h;simp at h
 |some o=>
  cases o with
  |none=>rw [R.out i (fun t z=>by rw [e]at z;cases z)]at h;simp at h
  |some t=>
   obtain⟨v,_,ot⟩:=R.slot i t e
   exact ot.free a h
theorem Rep.grow(R:Rep K cl H₀ G₀ io F A σ env H)(hh:aG H H')(gg:aG F F')(gh:aG F' H')(nw:∀b o,F' b=some o→F b=none→H b=none):Rep K cl H₀ G₀ io F' A σ env H':=by
 have free:∀i a,a∈A i→F' a=none:=fun i a ha=>by
  obtain⟨h1,o,h2⟩:=R.at_ ha
  cases e:F' a with
  |none=>rfl
  |some u=>have:=nw a u e h1;rw [h2]at this;cases this
 refine⟨fun i t e=> ?_,R.out,R.nd,R.dj,gh,R.gf.trans gg,fun b o h1 h2=> ?_,fun b o h1 h2=>hh _ _ (R.keep b o h1 h2),R.anew,R.iok⟩
 ·obtain⟨v,h1,h2⟩:=R.slot i t e
  exact⟨v,h1,h2.move gg (free i) fun a _ o q=>hh _ _ q⟩
 ·cases e:F b with
  |some u=>exact R.fnew b u e h2
  |none=>
   have h3:=nw b o h1 e
   cases e':H₀ b with
   |none=>rfl
   |some u=>
    by_cases hb:∃p,io=some (p,b)
    ·obtain⟨p,hb⟩:=hb
     obtain⟨_,o',h4⟩:=R.at_ (R.Jv hb);rw [h3]at h4;cases h4
    ·have:=R.keep b u e' (fun p z=>hb ⟨p,z⟩);rw [h3]at this;cases this
theorem Rep.vY(R:Rep K cl H₀ G₀ io F A σ env H):eV K cl H (ae env) σ:=fun i d e=>by
 unfold ae at e
 rw [eK]at e
 cases q:env[i]? with
 |none=>rw [q]at e;cases e
 |some o=>
  cases o with
  |none=>rw [q]at e;cases e
  |some t=>
   rw [q]at e
   cases e
   obtain⟨v,h1,h2⟩:=R.slot i t q
   exact⟨v,h1,h2.vY R.fh (R.nd i)⟩
theorem Rep.zj(R:Rep K cl H₀ G₀ io F A σ env H):eV K cl F (gC env) σ:=fun i d e=>by
 unfold gC at e
 rw [eK]at e
 cases q:env[i]? with
 |none=>rw [q]at e;cases e
 |some o=>
  cases o with
  |none=>rw [q]at e;cases e
  |some t=>
   rw [q]at e
   cases t with
   |sh d'=>
    cases e
    obtain⟨v,h1,h2⟩:=R.slot i _ q
    generalize A i=B at h2
    cases h2 with|sh h2=>exact⟨v,h1,h2⟩
   |ow ts=>cases e
   |ob c ks ts=>cases e
theorem Rep.store(R:Rep K cl H₀ G₀ io F A σ env H)(hp:∀p a,io=some (p,a)→p≠i)(hi:i<env.length)(hs:env.length=σ.length)(ot:OT K cl F H v t B)(nd:B.Nodup)(dj:∀j a,j≠i→a∈A j→a∈B→False)(an:∀a∈B,H₀ a=none):
 Rep K cl H₀ G₀ io F (fun j=>if j=i then B else A j) (σ.set i (some v)) (env.set i (some t)) H:=by
 refine⟨fun j u e=> ?_,fun j h=> ?_,fun j=> ?_,fun j k a hjk h1 h2=> ?_,R.fh,R.gf,R.fnew,R.keep,fun j a ha=> ?_,fun p a h=>by show∃B,(if p=i then _ else A p)=a::B;rw [aK (hp p a h)];exact R.iok p a h⟩
 ·by_cases hj:j=i
  ·subst hj
   rw [eE hi]at e
   cases e
   exact⟨v,by rw [eE (by lia)],by rw [aF rfl];exact ot⟩
  ·rw [gK (Ne.symm hj)]at e
   obtain⟨w,h1,h2⟩:=R.slot j u e
   exact⟨w,by rw [gK (Ne.symm hj)];exact h1,by rw [aK hj];exact h2⟩
 ·by_cases hj:j=i
  ·subst hj;exact absurd (eE hi) (h t)
  ·show(if j=i then B else A j)=[]
   rw [aK hj]
   refine R.out j fun u z=>h u ?_
   rw [gK (Ne.symm hj)];exact z
 ·show(if j=i then B else A j).Nodup
  split
  ·exact nd
  ·exact R.nd j
 ·have h1':a∈(if j=i then B else A j):=h1
  have h2':a∈(if k=i then B else A k):=h2
  by_cases e1:j=i
  ·rw [aF e1]at h1'
   rw [aK (fun z=>hjk (e1.trans z.symm))]at h2'
   exact dj k a (fun z=>hjk (e1.trans z.symm)) h2' h1'
  ·rw [aK e1]at h1'
   by_cases e2:k=i
   ·rw [aF e2]at h2'
    exact dj j a e1 h1' h2'
   ·rw [aK e2]at h2'
    exact R.dj j k a hjk h1' h2'
 ·have ha':a∈(if j=i then B else A j):=ha
  split at ha'
  ·exact .inr (an a ha')
  ·exact R.anew j a ha'
theorem Rep.drop(R:Rep K cl H₀ G₀ io F A σ env H)(i:Nat)(hp:∀p a,io=some (p,a)→p≠i):Rep K cl H₀ G₀ io F (fun j=>if j=i then []else A j) σ (env.set i none) H:=by
 refine⟨fun j u e=> ?_,fun j h=> ?_,fun j=> ?_,fun j k a hjk h1 h2=> ?_,R.fh,R.gf,R.fnew,R.keep,fun j a ha=> ?_,fun p a h=>by show∃B,(if p=i then _ else A p)=a::B;rw [aK (hp p a h)];exact R.iok p a h⟩
 ·by_cases hj:j=i
  ·subst hj
   by_cases hl:j<env.length
   ·rw [eE hl]at e;cases e
   ·rw [List.getElem?_eq_none (by simp;lia)]at e;cases e
  ·rw [gK (Ne.symm hj)]at e
   obtain⟨w,h1,h2⟩:=R.slot j u e
   exact⟨w,h1,by rw [aK hj];exact h2⟩
 ·show(if j=i then []else A j)=[]
  split
  ·rfl
  ·rename_i hj
   refine R.out j fun u z=>h u ?_
   rw [gK (Ne.symm hj)];exact z
 ·show(if j=i then []else A j).Nodup
  split
  ·exact Gm
  ·exact R.nd j
 ·have h1':a∈(if j=i then []else A j):=h1
  have h2':a∈(if k=i then []else A k):=h2
  split at h1'
  ·simp at h1'
  ·split at h2'
   ·simp at h2'
   ·exact R.dj j k a hjk h1' h2'
 ·have ha':a∈(if j=i then []else A j):=ha
  split at ha'
  ·simp at ha'
  ·exact R.anew j a ha'
theorem Rep.freeze(R:Rep K cl H₀ G₀ io F A σ env H)(i:Nat)(hp:∀p a,io=some (p,a)→p≠i)(e:env[i]?=some (some t)):∃F',Frz F F' H (A i)∧Rep K cl H₀ G₀ io F' (fun j=>if j=i then []else A j) σ (env.set i (some (.sh (strip t)))) H:=by
 obtain⟨v,h1,ot⟩:=R.slot i t e
 obtain⟨F',fz,dn⟩:=ot.freeze R.fh (R.nd i)
 have hi:i<env.length:=(j4.mp e).1
 refine⟨F',fz,fun j u e=> ?_,fun j h=> ?_,fun j=> ?_,fun j k a hjk h1 h2=> ?_,fz.gh,R.gf.trans fz.gg,fun b o q n=> ?_,R.keep,fun j a ha=> ?_,fun p a h=>by show∃B,(if p=i then _ else A p)=a::B;rw [aK (hp p a h)];exact R.iok p a h⟩
 ·by_cases hj:j=i
  ·subst hj
   rw [eE hi]at e
   cases e
   exact⟨v,h1,by rw [aF rfl];exact .sh dn⟩
  ·rw [gK (Ne.symm hj)]at e
   obtain⟨w,h3,h4⟩:=R.slot j u e
   refine⟨w,h3,?_⟩
   rw [aK hj]
   exact h4.move fz.gg (fun a ha=>by rw [fz.on a fun z=>R.dj j i a hj ha z];exact(h4.free a ha).1) fun _ _ _ q=>q
 ·show(if j=i then []else A j)=[]
  split
  ·rfl
  ·rename_i hj
   refine R.out j fun u z=>h u ?_
   rw [gK (Ne.symm hj)];exact z
 ·show(if j=i then []else A j).Nodup
  split
  ·exact Gm
  ·exact R.nd j
 ·have h1':a∈(if j=i then []else A j):=h1
  have h2':a∈(if k=i then []else A k):=h2
  split at h1'
  ·simp at h1'
  ·split at h2'
   ·simp at h2'
   ·exact R.dj j k a hjk h1' h2'
 ·by_cases hb:b∈A i
  ·rcases R.anew i b hb with z|z
   ·obtain⟨p,z⟩:=z
    exact(R.dj p i b (hp p b z) (R.Jv z) hb).elim
   ·exact z
  ·rw [fz.on b hb]at q;exact R.fnew b o q n
 ·have ha':a∈(if j=i then []else A j):=ha
  split at ha'
  ·simp at ha'
  ·exact R.anew j a ha'
theorem Rep.write(R:Rep K cl H₀ G₀ io F A σ env H)(e:env[i]?=some (some (.ow ts))){xs:List V}(hA:A i=p::B)(ot:OTs K cl F (bp H p (.lst xs')) xs' ts' B')(nd:(p::B').Nodup)(dj:∀j a,j≠i→a∈A j→a∈B'→False)(an:∀a∈B',H₀ a=none)(hs:σ[i]?=some (some (.ref p))):Rep K cl H₀ G₀ io F (fun j=>if j=i then p::B' else A j) σ (env.set i (some (.ow ts'))) (bp H p (.lst xs')):=by
 have hi:i<env.length:=(j4.mp e).1
 have hp:p∈A i:=by rw [hA];simp
 have fp:F p=none:=(R.at_ hp).1
 have ne:∀j a,j≠i→a∈A j→a≠p:=fun j a hj ha z=>R.dj j i a hj ha (by rw [z];exact hp)
 refine⟨fun j u e'=> ?_,fun j h=> ?_,fun j=> ?_,fun j k a hjk h1 h2=> ?_,fun b o q=> ?_,R.gf,R.fnew,fun b o h1 h2=> ?_,fun j a ha=> ?_,fun q a h=> ?_⟩
 ·by_cases hj:j=i
  ·subst hj
   rw [eE hi]at e'
   cases e'
   exact⟨_,hs,by rw [aF rfl];exact .ow ak fp ot⟩
  ·rw [gK (Ne.symm hj)]at e'
   obtain⟨w,h3,h4⟩:=R.slot j u e'
   refine⟨w,h3,?_⟩
   rw [aK hj]
   exact h4.move (.refl _) (fun a ha=>(h4.free a ha).1) fun a ha o q=>by rw [ag (ne j a hj ha)];exact q
 ·by_cases hj:j=i
  ·subst hj;exact absurd (eE hi) (h _)
  ·show(if j=i then p::B' else A j)=[]
   rw [aK hj]
   refine R.out j fun u z=>h u ?_
   rw [gK (Ne.symm hj)];exact z
 ·show(if j=i then p::B' else A j).Nodup
  split
  ·exact nd
  ·exact R.nd j
 ·have h1':a∈(if j=i then p::B' else A j):=h1
  have h2':a∈(if k=i then p::B' else A k):=h2
  have one:∀j,j≠i→a∈A j→a∈p::B'→False:=fun j hj h3 h4=>by
   rcases fY.mp h4 with z|z
   ·exact ne j a hj h3 z
   ·exact dj j a hj h3 z
  by_cases e1:j=i
  ·rw [aF e1]at h1'
   rw [aK (fun z=>hjk (e1.trans z.symm))]at h2'
   exact one k (fun z=>hjk (e1.trans z.symm)) h2' h1'
  ·rw [aK e1]at h1'
   by_cases e2:k=i
   ·rw [aF e2]at h2'
    exact one j e1 h1' h2'
   ·rw [aK e2]at h2'
    exact R.dj j k a hjk h1' h2'
 ·rw [ag (aD q fp)];exact R.fh _ _ q
 ·rw [ag]
  ·exact R.keep b o h1 h2
  ·rintro rfl
   rcases R.anew i b hp with⟨q,z⟩|z
   ·exact h2 q z
   ·rw [z]at h1;cases h1
 ·have ha':a∈(if j=i then p::B' else A j):=ha
  split at ha'
  ·rcases fY.mp ha' with z|z
   ·rw [z];exact R.anew i p hp
   ·exact .inr (an a z)
  ·exact R.anew j a ha'
 ·show∃B,(if q=i then p::B' else A q)=a::B
  obtain⟨C,h5⟩:=R.iok q a h
  split
  ·rename_i hq
   subst hq
   rw [hA]at h5
   injection h5 with h6 _
   exact⟨B',by rw [h6]⟩
  ·exact⟨C,h5⟩
end
noncomputable def fresh:E→Bool
 | .bin .Add _ _=>true
 | .bin .Mult _ _=>true
 | .cut _ _ _=>true
 | .rev _=>true
 | .lst _=>true
 | .comp _ _ _ _=>true
 | .un .list _=>true
 | .un .lrng _=>true
 | .un .sorted _=>true
 | .un .sset _=>true
 |_=>false
inductive tF(K:W.Frag)(cl:Nat→Option Addr)(Γ:bu)(m:E)(σ:St)(H:Hp)(Q:VK):Prop where
 |mk (G:Hp) (env:Env) (ds:List D):(aG G H)→(eV K cl G env σ)→(ev Γ m env=some (.lst ds))→(∀p xs H1 G1,Ext H G H1 G1→H p=none→G1 p=none→H1 p=some (.lst xs)→Dns K cl G1 xs ds→Q (.ref p) H1)→tF K cl Γ m σ H Q
theorem Gv{Q:VK}(q:∀p xs H1 G1,Ext H G H1 G1→H p=none→G1 p=none→H1 p=some (.lst xs)→Dns K cl G1 xs ds→Q (.ref p) H1)(p:Addr)(xs:List V)(H1 G1:Hp)(x:Ext H G H1 G1)(hp:H1 p=none)(d:Dns K cl G1 xs ds):Q (.ref p) (bp H1 p (.lst xs)):=
 q p xs _ G1 (x.trans (Ext.HB x.gh hp _)) (x.hh.free hp) (x.gh.free hp) ak d
section
variable{X:Cx}{cl:Nat→Option Addr}{Γ:bu}{c:CC}
inductive rF(K:W.Frag)(cl:Nat→Option Addr)(g:D→D→Option D)(v:V)(u:V)(H:Hp)(Q:VK):Prop where
 |mk (G:Hp) (x:D) (y:D) (ds:List D):(aG G H)→(Dn K cl G v x)→(Dn K cl G u y)→(g x y=some (.lst ds))→(∀p xs,H p=none→Dns K cl G xs ds→Q (.ref p) (bp H p (.lst xs)))→rF K cl g v u H Q
theorem Ee(op:Operator):jx X (binaryOp op) (rF X.K cl (dI op)):=by
 rintro pins s σ H x y v u Q I rx ry ⟨G,a,b,ds,sg,da,db,hg,q⟩
 unfold dI at hg
 split at hg
 all_goals try (cases hg;done)
 all_goals try (split at hg<;>first|(cases hg;done)|skip)
 ·rename_i hz
  cases hg
  cases da with| @lst p xs _ h1 h2=>cases db with| @lst p' xs' _ h1' h2'=>
   exact yw pins s σ H _ _ v u Q I rx ry ⟨_,_,_,_,rfl,rfl,aC sg h1,aC sg h1',j6 (by rw [h2.length,h2'.length];exact hz),fun r hr=>q r _ hr (h2.append h2')⟩
 ·rename_i hz
  cases hg;cases db
  cases da with| @lst p xs _ h1 h2=>
   obtain⟨hz1,hz2⟩:=bg hz
   have hz2:=fm hz2
   exact yu pins s σ H _ _ v u Q I rx ry ⟨_,_,_,rfl,rfl,aC sg h1,by lia,by lia,j6 (by rw [h2.length];exact hz1),fun r hr=>q r _ hr (h2.rep _)⟩
theorem OM{g:D→D→Option D}(h:∀env,ev Γ m env=(ev Γ a env).bind fun x=>(ev Γ b env).bind fun y=>g x y):tF K cl Γ m σ H Q→Fz (rF K cl g) (tV K cl Γ a) (tV K cl Γ b) σ H Q:=by
 rintro ⟨G,env,d,sg,en,e,q⟩
 have q:=Gv q
 rw [h]at e
 obtain⟨x,ex,e⟩:=af e
 obtain⟨y,ey,e⟩:=af e
 exact⟨G,env,x,sg,en,ex,fun v H1 G1 e1 d1=>⟨G1,env,y,e1.gh,en.mono e1.gg,ey,fun u H2 G2 e2 d2=>⟨G2,x,y,d,e2.gh,d1.mono e2.gg,d2,e,fun p xs hp dx=>q p xs H2 G2 (e1.trans e2) hp dx⟩⟩⟩
theorem D3(ha:PE X a (tV X.K cl Γ ma))(hl:PO X lo (tVO X.K cl Γ ml))(hh:PO X hi (tVO X.K cl Γ mh)):PE X (.Subscript a (.Slice lo hi none p2) pos) (tF X.K cl Γ (.cut ma ml mh)):=by
 refine fj (u0 yb ha hl hh) fun σ H Q hp9=> ?_
 obtain⟨G,env,ds,sg,en,e,q⟩:=hp9
 have q:=Gv q
 obtain⟨x,ex,e⟩:=af (show(ev Γ ma env).bind (fun x=>(mq ml (ev Γ ml env)).bind fun l=>(mq mh (ev Γ mh env)).bind fun h=>nY x l h)=some (.lst ds)from e)
 obtain⟨l,el,e⟩:=af e
 obtain⟨h,eh,e⟩:=af e
 refine⟨G,env,x,sg,en,ex,fun v H1 G1 x1 d1=>⟨G1,env,l,x1.gh,en.mono x1.gg,el,fun H2 G2 x2=>⟨G2,env,h,x2.gh,en.mono (x1.gg.trans x2.gg),eh,fun H3 G3 x3=> ?_⟩⟩⟩
 unfold nY at e
 split at e
 ·cases e
  cases d1 with| @lst p xs _ h1 h2=>
   have x123:=(x1.trans x2).trans x3
   refine⟨p,xs,rfl,(aC (x2.gg.trans (x3.gg.trans x3.gh)) h1).jX,fun r hr=>q r _ H3 G3 x123 hr ?_⟩
   have h2:=h2.mono (x2.gg.trans x3.gg)
   unfold Ae uf
   rw [h2.length]
   exact(h2.drop _).take _
 ·cases e
theorem DR(ha:PE X a (tV X.K cl Γ ma))(hs:PE X st (tV X.K cl Γ (.un .neg (.int 1)))):PE X (.Subscript a (.Slice none none (some st) p2) pos) (tF X.K cl Γ (.rev ma)):=by
 refine fj (Bn ha hs) fun σ H Q hp9=> ?_
 obtain⟨G,env,ds,sg,en,e,q⟩:=hp9
 have q:=Gv q
 obtain⟨x,ex,e⟩:=af (show(ev Γ ma env).bind uW=some (.lst ds)from e)
 refine⟨G,env,x,sg,en,ex,fun v H1 G1 x1 d1=>⟨G1,env,.int (-1),x1.gh,en.mono x1.gg,rfl,fun u H2 G2 x2 d2=> ?_⟩⟩
 cases d2
 refine⟨rfl,?_⟩
 cases x with
 |lst l=>
  cases e
  cases d1 with|lst h1 h2=>
   exact⟨_,_,rfl,(aC (x2.gg.trans x2.gh) h1).jX,fun p hp=>q p _ H2 G2 (x1.trans x2) hp ((h2.mono x2.gg).reverse)⟩
 |_=>cases e
theorem DW(h:PA X es (tVs X.K cl Γ m)):PE X (.List es pos) (tF X.K cl Γ (.lst m)):=by
 refine fj (wN h) fun σ H Q hp9=> ?_
 obtain⟨G,env,ds,sg,en,e,q⟩:=hp9
 have q:=Gv q
 obtain⟨l,e1,e⟩:=af (show(ev Γ m env).bind Kl=some (.lst ds)from e)
 cases l with
 |lst l=>
  have e':(if sz l.length then some (D.lst l)else none)=some (.lst ds):=e
  split at e'
  ·rename_i hz
   cases e'
   exact⟨G,env,_,sg,en,by unfold jM;rw [e1];rfl,fun vs H' G' x dv=>⟨j6 (by rw [dv.length];exact hz),fun p hp=>q p vs H' G' x hp dv⟩⟩
  ·cases e'
 |_=>cases e
theorem u3(gg:Gl X "list")(mg:X.mg "list"=none)(oa:b5 a=true)(ha:PE X a (tV X.K cl Γ ma)):PE X (.Call (.Name "list" p) [a] [] pos) (tF X.K cl Γ (.un .list ma)):=by
 refine fj (fi iB gg mg oE (ay ha aY (ah oa _ _)) (by decide) (by decide) (ah oa _ _) rfl) fun σ H Q hp9=> ?_
 obtain⟨G,env,ds,sg,en,e,q⟩:=hp9
 have q:=Gv q
 obtain⟨x,ex,e⟩:=af (show(ev Γ ma env).bind (iG .list)=some (.lst ds)from e)
 refine⟨G,env,x,sg,en,ex,fun v H1 G1 x1 d1=> ?_⟩
 cases x with
 |lst l=>
  cases e
  cases d1 with|lst h1 h2=>exact⟨_,_,rfl,.inl (aC x1.gh h1).jX,fun l hl=>q l _ H1 G1 x1 hl h2⟩
 |tup l=>
  cases e
  cases d1 with|tup h1 h2=>exact⟨_,_,rfl,.inr (.inl (.inl (x1.gh _ _ h1))),fun l hl=>q l _ H1 G1 x1 hl h2⟩
 |_=>cases e
theorem wM(gg:Gl X "sorted")(mg:X.mg "sorted"=none)(oa:b5 a=true)(ha:PE X a (tV X.K cl Γ ma)):PE X (.Call (.Name "sorted" p) [a] [] pos) (tF X.K cl Γ (.un .sorted ma)):=by
 refine fj (cF hW gg mg r8 (ay ha aY (ah oa _ _)) (by decide) (by decide) (ah oa _ _) rfl) fun σ H Q hp9=> ?_
 obtain⟨G,env,ds,sg,en,e,q⟩:=hp9
 have q:=Gv q
 obtain⟨x,ex,e⟩:=af (show(ev Γ ma env).bind (iG .sorted)=some (.lst ds)from e)
 refine⟨G,env,x,sg,en,ex,fun v H1 G1 x1 d1=> ?_⟩
 cases x with
 |lst l=>
  obtain⟨ns,e1,e3⟩:=af (show(cQ l).bind (fun ns=>if decide (ns.length<64)then some (D.lst ((m4 ns).map D.int))else none)=some (.lst ds)from e)
  have e1:=g0 e1
  subst e1
  split at e3
  ·rename_i hz
   cases e3
   cases d1 with|lst h1 h2=>
    have e2:=h2.ints
    subst e2
    refine⟨_,ns,rfl,(aC x1.gh h1).jX,fm hz,fun l ms hl p1 p2=> ?_⟩
    rw [pQ p1 p2]
    exact q l _ H1 G1 x1 hl (hR _)
  ·cases e3
 |_=>cases e
theorem Bt(calm:X.calm=true)(gg:Gl X "list")(mg:X.mg "list"=none)(g2:Gl X "range")(m2:X.mg "range"=none)(ob:b5 b=true)(hb:PE X b (tV X.K cl Γ mb)):PE X (.Call (.Name "list" p) [.Call (.Name "range" py) [b] [] pb] [] pos) (tF X.K cl Γ (.un .lrng mb)):=by
 refine fj (fi (ke calm) gg mg oE (ay (fi lL g2 m2 vM (ay hb aY (ah ob _ _)) (by decide) (by decide) (ah ob _ _) rfl) aY rfl) (by decide) (by decide) rfl rfl) fun σ H Q hp9=> ?_
 obtain⟨G,env,ds,sg,en,e,q⟩:=hp9
 have q:=Gv q
 obtain⟨z,e1,e⟩:=af (show(ev Γ mb env).bind (iG .lrng)=some (.lst ds)from e)
 refine⟨G,env,z,sg,en,e1,fun v H1 G1 x1 d1=> ?_⟩
 cases z with
 |int n=>
  have e':(if decide (-(2 ^ 60)≤n∧n≤1000000)then some (D.lst ((List.range n.toNat).map fun(i:Nat)=>D.int i))else none)=some (.lst ds):=e
  split at e'
  ·rename_i hn
   have hn:=fm hn
   cases e'
   cases d1
   refine⟨n,rfl,fun p hp=> ?_⟩
   have x2:=Ext.HB x1.gh hp (.rng 0 n)
   refine⟨p,0,n,rfl,ak,by decide,by decide,by lia,by lia,by lia,fun l hl=> ?_⟩
   rw [Int.sub_zero]
   refine q l _ _ _ (x1.trans x2) hl ?_
   have e3:((List.range n.toNat).map fun(i:Nat)=>V.int (0+(i:Int)))=((List.range n.toNat).map fun(i:Nat)=>(i:Int)).map V.int:=by simp
   have e4:((List.range n.toNat).map fun(i:Nat)=>D.int (i:Int))=((List.range n.toNat).map fun(i:Nat)=>(i:Int)).map D.int:=by simp
   rw [e3,e4]
   exact hR _
  ·cases e'
 |_=>cases e
theorem ug{tt:TT}(htt:∀σ H (Q:Bool→Hp→Prop),(∃G env b,aG G H∧eV K cl G env σ∧cS mc (ev Γ mc env)=some b∧∀H' G',Ext H G H' G'→Q b H')→tt σ H Q){σ:St}:
 tF K cl Γ (.comp me is wi mc) σ H Q→lr (tI K cl Γ wi) is tt (tV K cl Γ me) σ H Q:=by
 rintro ⟨G,env,out,sg,en,e,q⟩
 obtain⟨ds,e1,e⟩:=af (show((ev Γ wi env).bind kZ).bind (fun ds=>if sz ds.length then(dq (fun d=>(cS mc (ev Γ mc (inner env is d))).bind fun b=>if b then(ev Γ me (inner env is d)).map some else some none) ds).map D.lst else none)=some (.lst out)from e)
 split at e
 ·rename_i hz
  obtain⟨out',e2,e3⟩:=aM e
  cases e3
  generalize hf:(fun d=>(cS mc (ev Γ mc (inner env is d))).bind fun b=>if b then(ev Γ me (inner env is d)).map some else some none)=f at e2
  have hfd:∀d,f d=(cS mc (ev Γ mc (inner env is d))).bind fun b=>if b then(ev Γ me (inner env is d)).map some else some none:=fun d=>by rw [←hf]
  clear hf
  have hz':=fm hz
  refine⟨G,env,ds,sg,en,e1,fun J H1 G1 x1 wk _ D hD=> ?_⟩
  have gD:G1 D=none:=x1.gh.free hD
  refine⟨fun i k H2=>k=ds.length-i∧i≤ds.length∧∃G2 ys es aV,Ext H1 G1 H2 G2∧H2 D=some (.lst ys)∧G2 D=none∧Dns K cl G2 ys es∧ys.length≤i∧dq f (ds.drop i)=some aV∧es++aV=out,⟨ds.length,by simp,iQ _,G1,[],[],out,⟨aO hD _,.refl _,x1.gh.trans (aO hD _),fun b o h1 h2=>by rw [h1]at h2;cases h2⟩,ak,gD,.nil,by simp,e2,rfl⟩,?_⟩
  rintro i k H2 ⟨rfl,hi,G2,ys,es,aV,x2,hy,g2D,dy,hle,hr,ho⟩
  obtain⟨w1,w2⟩:=wk H2 G2 i x2.gg x2.gh
  by_cases hlt:i<ds.length
  ·have hd:ds[i]?=some ds[i]:=jV hlt
   obtain⟨g,y⟩:=w2 _ hd
   refine .inr ⟨g,fun v H3 yl=> ?_⟩
   obtain⟨G3,x3,d3⟩:=y v H3 yl
   rw [uE hlt]at hr
   obtain⟨o,t,f1,f2,f3⟩:=qg hr
   rw [hfd]at f1
   obtain⟨b,c1,c2⟩:=af f1
   have en3:eV K cl G3 (inner env is ds[i]) (gF σ is (some v)):=(en.mono ((x1.gg.trans x2.gg).trans x3.gg)).inner d3 is
   have g3D:G3 D=none:=by
    cases z:G3 D with
    |none=>rfl
    |some o=>have:=x3.nw D o z g2D;rw [hy]at this;cases this
   refine htt _ _ _ ⟨G3,_,b,x3.gh,en3,c1,fun H4 G4 x4=> ?_⟩
   have g4D:G4 D=none:=by
    cases z:G4 D with
    |none=>rfl
    |some o=>have:=x4.nw D o z g3D;rw [x3.hh _ _ hy]at this;cases this
   cases b with
   |false=>
    have c2':some none=some o:=c2
    cases c2'
    exact nV ⟨ds.length-(i+1),by lia,rfl,hlt,G4,ys,es,t,(x2.trans x3).trans x4,x4.hh _ _ (x3.hh _ _ hy),g4D,dy.mono (x3.gg.trans x4.gg),by lia,f2,by rw [←ho,f3];rfl⟩
   |true=>
    obtain⟨z,c3,c4⟩:=aM (show(ev Γ me (inner env is ds[i])).map some=some o from c2)
    subst c4
    refine nU ⟨G4,_,z,x4.gh,en3.mono x4.gg,c3,fun u H5 G5 x5 d5=> ?_⟩
    have g5D:G5 D=none:=by
     cases z:G5 D with
     |none=>rfl
     |some o=>have:=x5.nw D o z g4D;rw [x4.hh _ _ (x3.hh _ _ hy)]at this;cases this
    have hy5:H5 D=some (.lst ys):=x5.hh _ _ (x4.hh _ _ (x3.hh _ _ hy))
    refine⟨ys,hy5,by rw [sizeLine_eq];lia,ds.length-(i+1),by lia,rfl,hlt,G5,ys++[u],es++[z],t,?_,ak,g5D,(dy.mono ((x3.gg.trans x4.gg).trans x5.gg)).append (.cons d5 .nil),by rw [dP,uF];lia,f2,by rw [←ho,f3,kW];rfl⟩
    have x25:=((x2.trans x3).trans x4).trans x5
    exact⟨fun b o h=>by rw [ag (aD h hD)];exact x25.hh _ _ h,x25.gg,fun b o h=>by rw [ag (aD h g5D)];exact x25.gh _ _ h,x25.nw⟩
  ·have e0:i=ds.length:=by lia
   subst e0
   refine .inl ⟨w1 rfl,?_⟩
   rw [List.drop_length]at hr
   have hr':some []=some aV:=hr
   cases hr'
   rw [kX]at ho
   subst ho
   have x12:=x1.trans x2
   exact q D ys H2 G2 x12 (x1.hh.free hD) g2D hy dy
 ·cases e
theorem Ah{es:List Expr}(h2:2≤es.length)(h:vL f es=some m):∃a b,m=.and a b:=by
 match es,h2,h with
 |a::b::r,_,h=>
  have h':(if oo a then(f a).bind fun m=>(vL f (b::r)).map fun l=> .and m l else none)=some m:=h
  split at h'
  ·obtain⟨x,_,h'⟩:=af h'
   obtain⟨y,_,rfl⟩:=aM h'
   exact⟨x,y,rfl⟩
  ·cases h'
theorem Cw{es:List Expr}(h2:2≤es.length)(h:FX f es=some m):∃a b,m=.or a b:=by
 match es,h2,h with
 |a::b::r,_,h=>
  have h':(if oo a then(f a).bind fun m=>(FX f (b::r)).map fun l=> .or m l else none)=some m:=h
  split at h'
  ·obtain⟨x,_,h'⟩:=af h'
   obtain⟨y,_,rfl⟩:=aM h'
   exact⟨x,y,rfl⟩
  ·cases h'
noncomputable def vw:E→Bool
 | .var _=>true
 |_=>false
noncomputable def dg:E→Bool
 | .call _ _=>true
 |_=>false
noncomputable def Nk(m:E):Expr→Bool
 | .Name _ _=> !dg m&& !fresh m
 | .Call _ _ _ _=> !vw m
 | .BinOp _ _ _ _=> !vw m&& !dg m
 | .Subscript _ _ _=> !vw m&& !dg m
 | .List _ _=> !vw m&& !dg m
 | .ListComp _ _ _ _=> !vw m&& !dg m
 |_=> !vw m&& !dg m&& !fresh m
theorem y6(h:cB g cn f x args=some m):vw m=false∧dg m=false:=by
 unfold cB at h
 split at h
 ·repeat' (split at h)
  all_goals first
   |(cases h;done)
   |(obtain⟨_,_,rfl⟩:=aM h;exact⟨rfl,rfl⟩)
 ·repeat' (split at h)
  all_goals first
   |(cases h;done)
   |(obtain⟨_,_,rfl⟩:=aM h;exact⟨rfl,rfl⟩)
   |(obtain⟨_,_,h⟩:=af h
     obtain⟨_,_,rfl⟩:=aM h;exact⟨rfl,rfl⟩)
 ·cases h
theorem qm(h:FY r pos o args=some m):∃i,∃q:Nat×E,m=.meth (.var i) q.1 q.2:=by
 unfold FY at h
 split at h
 ·obtain⟨k,_,h⟩:=af h
  obtain⟨i,_,h⟩:=af h
  obtain⟨ml,_,rfl⟩:=aM h
  exact⟨i,(k,ml),rfl⟩
 ·cases h
theorem qp(h:FZ r pos o args=some m):∃a b,m=.ind a b:=by
 unfold FZ at h
 split at h
 ·split at h
  ·obtain⟨a,_,h⟩:=af h
   obtain⟨b,_,rfl⟩:=aM h
   exact⟨a,b,rfl⟩
  ·cases h
 ·cases h
theorem uo(h:cE c (n+1) aQ N sc e=some m):Nk m e=true:=by
 cases e
 case Name x pos=>
  replace h:IL c N sc x=some m:=h
  unfold IL at h
  split at h
  ·split at h
   ·cases h;rfl
   ·split at h
    ·obtain⟨_,_,rfl⟩:=aM h;rfl
    ·cases h
  ·cases h
 case Constant k kk pos=>
  cases k
  all_goals first|(cases h;rfl)|(cases h;done)
 case BinOp a op b pos=>
  obtain⟨_,_,h⟩:=af h
  obtain⟨_,_,rfl⟩:=aM h;rfl
 case UnaryOp op a pos=>
  cases op
  case USub=>obtain⟨_,_,rfl⟩:=aM h;rfl
  case Not=>
   replace h:(if oo a then(cE c n aQ N sc a).map .not else none)=some m:=h
   split at h
   ·obtain⟨_,_,rfl⟩:=aM h;rfl
   ·cases h
  all_goals cases h
 case Compare a ops bs pos=>
  replace h:LY (cE c n aQ N sc) a ops bs=some m:=h
  unfold LY at h
  split at h
  ·split at h
   ·obtain⟨_,_,h⟩:=af h
    obtain⟨_,_,rfl⟩:=aM h;rfl
   ·cases h
  ·split at h
   ·obtain⟨_,_,h⟩:=af h
    obtain⟨_,_,h⟩:=af h
    obtain⟨_,_,rfl⟩:=aM h;rfl
   ·cases h
  ·cases h
 case BoolOp op vs pos=>
  cases op
  case And=>
   replace h:(if 2≤vs.length then vL (cE c n aQ N sc) vs else none)=some m:=h
   split at h
   ·rename_i h2;obtain⟨_,_,rfl⟩:=Ah h2 h;rfl
   ·cases h
  case Or=>
   replace h:(if 2≤vs.length then FX (cE c n aQ N sc) vs else none)=some m:=h
   split at h
   ·rename_i h2;obtain⟨_,_,rfl⟩:=Cw h2 h;rfl
   ·cases h
 case IfExp t a b pos=>
  replace h:(if oo t then(cE c n aQ N sc t).bind fun k=>(cE c n aQ N sc a).bind fun m=>(cE c n aQ N sc b).map fun l=>E.ite k m l else none)=some m:=h
  split at h
  ·obtain⟨_,_,h⟩:=af h
   obtain⟨_,_,h⟩:=af h
   obtain⟨_,_,rfl⟩:=aM h;rfl
  ·cases h
 case Call fn args ks pos=>
  cases ks with
  |cons _ _=>
   replace h:(none:Option E)=some m:=h
   cases h
  |nil=>
  replace h:(match xR fn with
   |some om=>if om.2.2.1==("index":Str)then FZ (cE c n aQ N sc) pos om args else FY (cE c n aQ N sc) pos om args
   |none=>(zJ fn).bind fun x=>E8 c N sc (cE c n aQ N sc) x args)=some m:=h
  split at h
  ·split at h
   ·obtain⟨_,_,rfl⟩:=qp h;rfl
   ·obtain⟨_,_,rfl⟩:=qm h;rfl
  obtain⟨x,h0,h⟩:=af h
  unfold E8 at h
  split at h
  ·split at h
   ·split at h
    ·cases h
    ·obtain⟨_,_,rfl⟩:=aM h;rfl
   ·show(!vw m)=true
    rw [(y6 h).1];rfl
  ·cases h
 case Subscript a b pos=>
  replace h:((cE c n aQ N sc a).bind fun m=>IJ (cE c n aQ N sc) m b)=some m:=h
  replace h:=af h
  obtain⟨ma,h1,h⟩:=h
  unfold IJ at h
  split at h
  ·rename_i lo hi st p2
   cases st with
   |some st=>
    replace h:(if lo.isNone&&hi.isNone then(match cE c n aQ N sc st with
     |some (.un .neg (.int 1))=>some (.rev ma)
     |_=>none)else none)=some m:=h
    split at h
    ·split at h
     ·cases h;rfl
     ·cases h
    ·cases h
   |none=>
    obtain⟨_,_,h⟩:=af h
    obtain⟨_,_,rfl⟩:=aM h;rfl
  ·split at h
   ·obtain⟨_,_,rfl⟩:=aM h;rfl
   ·cases h
 case List es pos=>
  replace h:(if es.all b5 then(gn (cE c n aQ N sc) es).map .lst else none)=some m:=h
  split at h
  ·obtain⟨_,_,rfl⟩:=aM h;rfl
  ·cases h
 case Attribute a f pos=>
  replace h:(if vV.contains f&&eU a then(cE c n aQ N sc a).map (.fld · f)else none)=some m:=h
  split at h
  ·obtain⟨_,_,rfl⟩:=aM h;rfl
  ·cases h
 case Tuple es k pos=>
  replace h:(if es.all b5 then(gn (cE c n aQ N sc) es).map .tup else none)=some m:=h
  split at h
  ·obtain⟨_,_,rfl⟩:=aM h;rfl
  ·cases h
 case ListComp elt gs scope pos=>
  replace h:(if aQ then E2 c N sc (cE c n aQ N sc) (fun N' e=>cE c n false N' scope e) elt scope gs else none)=some m:=h
  split at h
  ·unfold E2 at h
   split at h
   ·split at h
    ·obtain⟨is,h1,h⟩:=af h
     split at h
     ·obtain⟨mi,h2,h⟩:=af h
      obtain⟨me,h3,h⟩:=af h
      obtain⟨mc,h4,rfl⟩:=aM h;rfl
     ·cases h
    ·cases h
   ·cases h
  ·cases h
 all_goals cases h
theorem BC{P:Prop}(hh:(a&& !fresh m)=true)(hf:fresh m=true):P:=by
 rw [hf]at hh
 cases a<;>cases hh
theorem F0(hΓ:∀x f,c.tab.lookup x=some f→∃g,Γ f=some g)(S:Sees X cl c Γ aQ N sc)(h:cE c n aQ N sc e=some m)(hf:fresh m=true):PE X e (tF X.K cl Γ m):=by
 cases n with
 |zero=>cases h
 |succ n=>
  have ih1:∀e m,cE c n aQ N sc e=some m→PE X e (tV X.K cl Γ m):=fun e m h=>(dR hΓ n aQ N sc e m X S h).1
  have hh:=uo h
  cases e
  case BinOp a op b pos=>
   replace h:((cE c n aQ N sc a).bind fun m=>(cE c n aQ N sc b).map fun l=>E.bin op m l)=some m:=h
   obtain⟨ma,h1,h⟩:=af h
   obtain⟨mb,h2,rfl⟩:=aM h
   exact fj (Bp (Ee (cl:=cl) op) (ih1 a ma h1) (ih1 b mb h2)) fun σ H Q q=>OM (fun _=>rfl) q
  case Call fn args ks pos=>
   cases ks with
   |cons _ _=>
    replace h:(none:Option E)=some m:=h
    cases h
   |nil=>
   replace h:(match xR fn with
    |some om=>if om.2.2.1==("index":Str)then FZ (cE c n aQ N sc) pos om args else FY (cE c n aQ N sc) pos om args
    |none=>(zJ fn).bind fun x=>E8 c N sc (cE c n aQ N sc) x args)=some m:=h
   split at h
   ·split at h
    ·obtain⟨_,_,rfl⟩:=qp h;cases hf
    ·obtain⟨_,_,rfl⟩:=qm h;cases hf
   replace h:=af h
   obtain⟨x,h0,h⟩:=h
   obtain⟨p,rfl⟩:=tH h0
   unfold E8 at h
   split at h
   ·rename_i ok
    obtain⟨ok,gx⟩:=bg ok
    obtain⟨o1,g1⟩:=bQ gx
    have gg:=S.gl x g1
    split at h
    ·split at h
     ·cases h
     ·obtain⟨_,_,rfl⟩:=aM h;cases hf
    ·unfold cB at h
     split at h
     ·rename_i a
      rw [cK,Bool.and_eq_true]at ok
      have oa:=ok.1
      split at h
      ·obtain⟨_,_,rfl⟩:=aM h;cases hf
      split at h
      ·rename_i e
       have e:x="list":=by simpa using e
       subst e
       split at h
       ·rename_i y py b pb
        split at h
        ·rename_i hr
         obtain⟨hr,ob⟩:=bg hr
         obtain⟨hr1,hr2⟩:=bg hr
         obtain⟨hr1,_⟩:=bg hr1
         have e:y="range":=by simpa using hr2
         subst e
         obtain⟨mb,h1,rfl⟩:=aM h
         obtain⟨_,g2⟩:=bQ hr1
         exact Bt S.calm gg (S.blt _ (by decide+kernel)) (S.gl _ g2) (S.blt _ (by decide+kernel)) ob (ih1 b mb h1)
        ·obtain⟨ma,h1,rfl⟩:=aM h
         exact u3 gg (S.blt _ (by decide+kernel)) oa (ih1 _ ma h1)
       ·obtain⟨ma,h1,rfl⟩:=aM h
        exact u3 gg (S.blt _ (by decide+kernel)) oa (ih1 _ ma h1)
      split at h
      ·rename_i e
       have e:x="sorted":=by simpa using e
       subst e
       obtain⟨ma,h1,rfl⟩:=aM h
       exact wM gg (S.blt _ (by decide+kernel)) oa (ih1 _ ma h1)
      repeat' (split at h)
      all_goals first
       |(cases h;done)
       |(obtain⟨_,_,rfl⟩:=aM h;cases hf)
     ·repeat' (split at h)
      all_goals first
       |(cases h;done)
       |(obtain⟨_,_,rfl⟩:=aM h;cases hf;done)
       |(obtain⟨_,_,h⟩:=af h
         obtain⟨_,_,rfl⟩:=aM h;cases hf)
     ·cases h
   ·cases h
  case Subscript a b pos=>
   clear hh
   replace h:((cE c n aQ N sc a).bind fun m=>IJ (cE c n aQ N sc) m b)=some m:=h
   replace h:=af h
   obtain⟨ma,h1,h⟩:=h
   unfold IJ at h
   split at h
   ·rename_i lo hi st p2
    cases st with
    |some st=>
     replace h:(if lo.isNone&&hi.isNone then(match cE c n aQ N sc st with
      |some (.un .neg (.int 1))=>some (.rev ma)
      |_=>none)else none)=some m:=h
     split at h
     ·rename_i hn
      obtain⟨rfl,rfl⟩:lo=none∧hi=none:=by simpa using hn
      split at h
      ·rename_i hs
       cases h
       exact DR (ih1 a ma h1) (ih1 st _ hs)
      ·cases h
     ·cases h
    |none=>
     replace h:((xQ (cE c n aQ N sc) lo).bind fun ml=>(xQ (cE c n aQ N sc) hi).map fun mh=>E.cut ma ml mh)=some m:=h
     obtain⟨ml,h2,h⟩:=af h
     obtain⟨mh,h3,rfl⟩:=aM h
     exact D3 (ih1 a ma h1) (DK (fun e _ m h=>ih1 e m h) h2) (DK (fun e _ m h=>ih1 e m h) h3)
   ·split at h
    ·obtain⟨_,_,rfl⟩:=aM h;cases hf
    ·cases h
  case List es pos=>
   replace h:(if es.all b5 then(gn (cE c n aQ N sc) es).map .lst else none)=some m:=h
   split at h
   ·rename_i ok
    obtain⟨ml,h1,rfl⟩:=aM h
    exact DW (dH (fun e _ m h=>ih1 e m h) ok h1)
   ·cases h
  case ListComp elt gs scope pos=>
   clear hh
   replace h:(if aQ then E2 c N sc (cE c n aQ N sc) (fun N' e=>cE c n false N' scope e) elt scope gs else none)=some m:=h
   split at h
   ·rename_i tp
    subst tp
    unfold E2 at h
    split at h
    ·rename_i x px iter ifs
     split at h
     ·rename_i oi
      obtain⟨is,h1,h⟩:=af h
      split at h
      ·rename_i cs
       have cs:=hV cs
       obtain⟨mi,h2,h⟩:=af h
       obtain⟨me,h3,h⟩:=af h
       obtain⟨mc,h4,rfl⟩:=aM h
       have hi:PI X (.Name x px) iter (tI X.K cl Γ mi):=qk S ih1 (fun z=>by cases z) h2
       have he:∀C s H fp pins,PE (aS X scope (x::bK scope.names) C s H fp pins) elt (tV X.K cl Γ me):=fun C s H fp pins=>(dR hΓ n false _ scope elt me _ (S.comp cs C s H fp pins) h3).1
       have hfs:∀v,foldedSetIterable iter X.env v=pure v:=by intro v;cases iter<;>first|rfl|cases oi
       have hcs:X.env.scope=sc:=S.tp rfl
       cases ifs with
       |nil=>
        cases h4
        exact fj (tf S.calm hi he cs hcs S.hN hfs) fun σ H Q q=>ug (fun σ H Q hp9=>by
         obtain⟨G,env,b,sg,en,e,q⟩:=hp9
         have e':some true=some b:=e
         cases e'
         exact q H G (Ext.refl sg)) q
       |cons t r=>
        cases r with
        |nil=>
         have h4':(if oo t then(cE c n false (x::bK scope.names) scope t).bind fun m=>if m5 m then none else some m else none)=some mc:=h4
         split at h4'
         ·rename_i okt
          obtain⟨m',h5,h6⟩:=af h4'
          split at h6
          ·cases h6
          ·rename_i nn
           cases h6
           have ht:∀C s H fp pins,PT (aS X scope (x::bK scope.names) C s H fp pins) t (tVT X.K cl Γ mc):=fun C s H fp pins=>(dR hΓ n false _ scope t mc _ (S.comp cs C s H fp pins) h5).2 okt
           exact fj (rA S.calm hi ht he cs hcs S.hN hfs) fun σ H Q q=>ug (fun σ H Q hp9=>by
            obtain⟨G,env,b,sg,en,e,q⟩:=hp9
            unfold cS at e
            rw [aK nn]at e
            exact⟨G,env,b,sg,en,e,q⟩) q
         ·cases h4'
        |cons t2 r2=>cases h4
      ·cases h
     ·cases h
    ·cases h
   ·cases h
  all_goals exact BC hh hf
end
section
variable{K:W.Frag}{cl:Nat→Option Addr}{G G' H H':Hp}
theorem Dn.scal(h:Dn K cl G v d)(s:scal d=true)(G':Hp):Dn K cl G' v d:=by
 cases h with
 |non=>exact .non
 |bl b=>exact .bl b
 |int b=>exact .int b
 |str b=>exact .str b
 |lst _ _=>cases s
 |tup _ _=>cases s
 |ins _ _ _ _=>cases s
 |dic _=>cases s
theorem Dns.scal:∀ {vs:List V} {ds:List D},Dns K cl G vs ds→ds.all MI.scal=true→(G':Hp)→Dns K cl G' vs ds
 |_,_,.nil,_,_=> .nil
 |_,_,.cons h t,s,G'=>by
  rw [cK,Bool.and_eq_true]at s
  exact .cons (h.scal s.1 G') (Dns.scal t s.2 G')
mutual
theorem OT.flat:∀ {v:V} {t:T} {A:List Addr},OT K cl G H v t A→bN t=true→(∀a∈A,G' a=none)→OT K cl G' H v t A
 |_,_,_,.sh h,s,_=> .sh (h.scal (by simpa [bN]using s) _)
 |_,_,_,.ow h1 h2 h3,s,f=> .ow h1 (f _ (by simp)) (OTs.flat h3 (by simpa [bN]using s) fun a ha=>f a (by simp [ha]))
 |_,_,_,.ob h1 h2 h3 h4 h5 h6 h7,s,f=> .ob h1 h2 h3 h4 (f _ (by simp)) (f _ (by simp)) (OTs.flat h7 (by simpa [bN]using s) fun a ha=>f a (by simp [ha]))
theorem OTs.flat:∀ {vs:List V} {ts:List T} {A:List Addr},OTs K cl G H vs ts A→iz ts=true→(∀a∈A,G' a=none)→OTs K cl G' H vs ts A
 |_,_,_,.nil,_,_=> .nil
 |_,_,_,.cons h hs,s,f=>by
  rw [iz,Bool.and_eq_true]at s
  exact .cons (OT.flat h s.1 fun a ha=>f a (by simp [ha])) (OTs.flat hs s.2 fun a ha=>f a (by simp [ha]))
end
end
noncomputable def aX:E→List Nat
 | .var i=>[i]
 | .bin _ a b=>aX a++aX b
 | .un _ a=>aX a
 | .not a=>aX a
 | .cmp _ a b=>aX a++aX b
 | .ch _ _ a b c=>aX a++aX b++aX c
 | .ch3 _ _ _ a b c d=>aX a++aX b++aX c++aX d
 | .and a b=>aX a++aX b
 | .or a b=>aX a++aX b
 | .ite c a b=>aX c++aX a++aX b
 | .idx a b=>aX a++aX b
 | .cut a b c=>aX a++aX b++aX c
 | .rev a=>aX a
 | .lst a=>aX a
 | .tup a=>aX a
 | .mn a b=>aX a++aX b
 | .mx a b=>aX a++aX b
 | .isi a _=>aX a
 | .comp _ is it _=>aX it++is
 | .rng a=>aX a
 | .rng2 a b=>aX a++aX b
 | .dn a=>aX a
 | .mxd a b=>aX a++aX b
 | .ind a b=>aX a++aX b
 | .enm a=>aX a
 | .zp a b=>aX a++aX b
 | .rvd a=>aX a
 | .call _ a=>aX a
 | .fld a _=>aX a
 | .meth o _ a=>aX o++aX a
 | .isc a _=>aX a
 | .cons a b=>aX a++aX b
 |_=>[]
noncomputable def frz(pio:Option Nat)(env:av):List Nat→Option av
 |[]=>some env
 |i::r=>match env[i]? with
  |some (some (.ow ts))=>if pio=some i then none else frz pio (env.set i (some (.sh (strip (.ow ts))))) r
  |some (some (.ob c ks ts))=>if pio=some i then none else frz pio (env.set i (some (.sh (strip (.ob c ks ts))))) r
  |_=>frz pio env r
noncomputable def bL(Γ:bu)(pio:Option Nat)(m:E)(env:av):Option (T×av):=match m with
 | .call f args=>(Γ f).bind fun g=>(jM Γ args (ae env)).bind fun l=>(g l).bind fun t=>if bN t then some (t,env)else(frz pio env (aX args)).bind fun env'=>(jM Γ args (gC env')).bind fun l'=>(g l').map fun t'=>(t',env')
 |m=>(ev Γ m (ae env)).bind fun d=>if scal d then some (.sh d,env)else
   if fresh m then(bx d).bind fun ds=>if ds.all scal then some (.ow (ds.map T.sh),env)else(frz pio env (aX m)).bind fun env'=>((ev Γ m (gC env')).bind bx).map fun ds'=>(.ow (ds'.map T.sh),env')
   else(frz pio env (aX m)).bind fun env'=>(ev Γ m (gC env')).map fun d'=>(.sh d',env')
theorem jk(Γ:bu)(pio:Option Nat)(f:Nat)(args:E)(env:av):bL Γ pio (.call f args) env=(Γ f).bind fun g=>(jM Γ args (ae env)).bind fun l=>(g l).bind fun t=>if bN t then some (t,env)else(frz pio env (aX args)).bind fun env'=>(jM Γ args (gC env')).bind fun l'=>(g l').map fun t'=>(t',env'):=rfl
theorem dm(h:dg m=false):bL Γ pio m env=(ev Γ m (ae env)).bind fun d=>if scal d then some (.sh d,env)else
 if fresh m then(bx d).bind fun ds=>if ds.all scal then some (.ow (ds.map T.sh),env)else(frz pio env (aX m)).bind fun env'=>((ev Γ m (gC env')).bind bx).map fun ds'=>(.ow (ds'.map T.sh),env')
 else(frz pio env (aX m)).bind fun env'=>(ev Γ m (gC env')).map fun d'=>(.sh d',env'):=by
 unfold bL
 split
 ·cases h
 ·rfl
def C8(pio:Option Nat)(io:Option (Nat×Addr)):Prop:=∀p a,io=some (p,a)→pio=some p
section
variable{K:W.Frag}{cl:Nat→Option Addr}{H₀ G₀ F H H' F':Hp}{io:Option (Nat×Addr)}{A:Nat→List Addr}{σ:St}{env env':av}{pio:Option Nat}
theorem kP(hp:C8 pio io):∀ {l:List Nat} {F:Hp} {A:Nat→List Addr} {env env':av},Rep K cl H₀ G₀ io F A σ env H→frz pio env l=some env'→∃F' A',Rep K cl H₀ G₀ io F' A' σ env' H∧env'.length=env.length∧Gro F A H F' A' H
 |[],F,A,env,env',R,h=>by cases h;exact⟨F,A,R,rfl,.refl⟩
 |i::r,F,A,env,env',R,h=>by
  have go:∀ {t:T},env[i]?=some (some t)→¬pio=some i→frz pio (env.set i (some (.sh (strip t)))) r=some env'→∃F' A',Rep K cl H₀ G₀ io F' A' σ env' H∧env'.length=env.length∧Gro F A H F' A' H:=fun {t} e hn h=>by
   obtain⟨F1,fz,R1⟩:=R.freeze i (fun p a z q=>hn (by rw [←q];exact hp p a z)) e
   obtain⟨F2,A2,R2,l2,g2⟩:=kP hp R1 h
   refine⟨F2,A2,R2,by rw [l2,sG],Gro.trans ⟨.refl _,fz.gg,fun b o h1 h2=> ?_,fun j a ha=> ?_⟩ g2⟩
   ·by_cases hb:b∈A i
    ·exact .inl ⟨i,hb⟩
    ·rw [fz.on b hb,h2]at h1;cases h1
   ·have ha':a∈(if j=i then []else A j):=ha
    split at ha'
    ·simp at ha'
    ·exact ha'
  unfold frz at h
  split at h
  ·rename_i ts e
   split at h
   ·cases h
   ·rename_i hn
    exact go e hn h
  ·rename_i c ks ts e
   split at h
   ·cases h
   ·rename_i hn
    exact go e hn h
  ·exact kP hp R h
theorem Rep.new(R:Rep K cl H₀ G₀ io F A σ env H)(h:H p=none):H₀ p=none:=by
 cases e:H₀ p with
 |none=>rfl
 |some o=>
  by_cases hb:∃q,io=some (q,p)
  ·obtain⟨q,hb⟩:=hb
   obtain⟨_,o',h4⟩:=R.at_ (R.Jv hb);rw [h]at h4;cases h4
  ·have:=R.keep p o e (fun q z=>hb ⟨q,z⟩);rw [h]at this;cases this
theorem Rep.ext(R:Rep K cl H₀ G₀ io F A σ env H)(x:Ext H F H' F'):Rep K cl H₀ G₀ io F' A σ env H':=R.grow x.hh x.gg x.gh x.nw
theorem Rep.same(R:Rep K cl H₀ G₀ io F A σ env H)(x:aG H H'):Rep K cl H₀ G₀ io F A σ env H':=R.grow x (.refl _) (R.fh.trans x) fun b o h1 h2=>by rw [h1]at h2;cases h2
end
inductive tX(K:W.Frag)(cl:Nat→Option Addr)(Γ:bu)(pio:Option Nat)(m:E)(σ:St)(H:Hp)(Q:VK):Prop where
 |mk (H₀:Hp) (G₀:Hp) (io:Option (Nat×Addr)) (F:Hp) (A:Nat→List Addr) (env:av) (t:T) (env':av):(C8 pio io)→(env.length=σ.length)→(Rep K cl H₀ G₀ io F A σ env H)→(bL Γ pio m env=some (t,env'))→(∀v H' F' A' B,env'.length=σ.length→Gro F A H F' A' H'→Rep K cl H₀ G₀ io F' A' σ env' H'→OT K cl F' H' v t B→B.Nodup→(∀a∈B,H a=none)→Q v H')→tX K cl Γ pio m σ H Q
section
variable{X:Cx}{cl:Nat→Option Addr}{Γ:bu}{c:CC}
theorem CF(hΓ:∀x f,c.tab.lookup x=some f→∃g,Γ f=some g)(S:Sees X cl c Γ aQ N sc)(h:cE c n aQ N sc e=some (.call f args)):
 ∃g,Γ f=some g∧PE X e (fun σ H Q=>∃G env l t,aG G H∧eV X.K cl G env σ∧jM Γ args env=some l∧g l=some t∧∀v H' G' A,Ext H G H' G'→OT X.K cl G' H' v t A→A.Nodup→(∀a∈A,H a=none)→Q v H'):=by
 cases n with
 |zero=>cases h
 |succ n=>
  have ih1:∀e m,cE c n aQ N sc e=some m→PE X e (tV X.K cl Γ m):=fun e m h=>(dR hΓ n aQ N sc e m X S h).1
  have hh:=uo h
  cases e
  case Call fn args' ks pos=>
   cases ks with
   |cons _ _=>
    replace h:(none:Option E)=some (.call f args):=h
    cases h
   |nil=>
   replace h:(match xR fn with
    |some om=>if om.2.2.1==("index":Str)then FZ (cE c n aQ N sc) pos om args' else FY (cE c n aQ N sc) pos om args'
    |none=>(zJ fn).bind fun x=>E8 c N sc (cE c n aQ N sc) x args')=some (.call f args):=h
   split at h
   ·split at h
    ·obtain⟨_,_,e⟩:=qp h;cases e
    ·obtain⟨_,_,e⟩:=qm h;cases e
   replace h:=af h
   obtain⟨x,h0,h⟩:=h
   obtain⟨p,rfl⟩:=tH h0
   unfold E8 at h
   split at h
   ·rename_i ok
    obtain⟨ok,gx⟩:=bg ok
    obtain⟨o1,g1⟩:=bQ gx
    obtain⟨n1,n2,n3⟩:=ik o1
    split at h
    ·rename_i f' hf
     split at h
     ·cases h
     ·rename_i hne
      obtain⟨ml,h1,h3⟩:=aM h
      cases h3
      obtain⟨g,hg⟩:=hΓ x f hf
      cases args' with
      |nil=>exact absurd rfl hne
      |cons e es=>exact⟨g,hg,u5 (S.gl x g1) n1 (S.fn x f g hf hg) (dH (fun e _ m h=>ih1 e m h) ok h1) ok⟩
    ·cases (y6 h).2
   ·cases h
  all_goals cases hh
theorem qc(hΓ:∀x f,c.tab.lookup x=some f→∃g,Γ f=some g)(S:Sees X cl c Γ aQ N sc)(h:cE c n aQ N sc e=some m):PE X e (tX X.K cl Γ pio m):=by
 have pv:=(dR hΓ n aQ N sc e m X S h).1
 rintro pins s σ H Q I ⟨H₀,G₀,io,F,A,env,t,env',hp,hl,R,ev',q⟩
 cases hc:dg m with
 |true=>
  cases m with
  |call f args=>
   obtain⟨g,hg,pc⟩:=CF hΓ S h
   rw [jk,hg]at ev'
   obtain⟨l,el,ev'⟩:=af (show(jM Γ args (ae env)).bind (fun l=>(g l).bind fun t=>if bN t then some (t,env)else(frz pio env (aX args)).bind fun env'=>(jM Γ args (gC env')).bind fun l'=>(g l').map fun t'=>(t',env'))=some (t,env')from ev')
   obtain⟨t1,et,ev'⟩:=af ev'
   split at ev'
   ·rename_i fl
    cases ev'
    refine pc pins s σ H Q I ⟨H,_,l,t,.refl _,R.vY,el,et,fun v H' G' B x o nd nw=> ?_⟩
    exact q v H' F A B hl (.of_same x.hh) (R.same x.hh) (o.flat fl fun a ha=>R.fh.free (nw a ha)) nd nw
   ·obtain⟨env1,ef,ev'⟩:=af ev'
    obtain⟨l2,el2,ev'⟩:=af ev'
    obtain⟨t2,et2,ev'⟩:=aM ev'
    cases ev'
    obtain⟨F1,A1,R1,l1,g1⟩:=kP hp R ef
    exact pc pins s σ H Q I ⟨F1,_,l2,t,R1.fh,R1.zj,el2,et2,fun v H' G' B x o nd nw=>q v H' G' A1 B (l1.trans hl) (g1.trans (.tE x)) (R1.ext x) o nd nw⟩
  |_=>cases hc
 |false=>
  rw [dm hc]at ev'
  obtain⟨d,ed,ev'⟩:=af ev'
  split at ev'
  ·rename_i sc'
   cases ev'
   exact pv pins s σ H Q I ⟨H,_,d,.refl _,R.vY,ed,fun v H' G' x dv=>q v H' F A [] hl (.of_same x.hh) (R.same x.hh) (.sh (dv.scal sc' F)) List.nodup_nil (by simp)⟩
  ·split at ev'
   ·rename_i fr
    have pf:=F0 hΓ S h fr
    obtain⟨ds,e1,ev2⟩:=af ev'
    have hd:d=.lst ds:=by cases d<;>cases e1;rfl
    subst hd
    clear ev'
    have ev':=ev2
    clear ev2
    split at ev'
    ·rename_i al
     cases ev'
     refine pf pins s σ H Q I ⟨H,_,ds,.refl _,R.vY,ed,fun p xs H1 G1 x hpn gpn hat dx=> ?_⟩
     refine q (.ref p) H1 F A [p] hl (.of_same x.hh) (R.same x.hh) (.ow hat (R.fh.free hpn) (OTs.AY (dx.scal al F))) (by simp) (fun a ha=> ?_)
     have e:a=p:=by simpa using ha
     rw [e];exact hpn
    ·obtain⟨env1,ef,ev'⟩:=af ev'
     obtain⟨ds',e2,ev'⟩:=aM ev'
     cases ev'
     obtain⟨d',e3,e4⟩:=af e2
     have hd:d'=.lst ds':=by cases d'<;>cases e4;rfl
     subst hd
     obtain⟨F1,A1,R1,l1,g1⟩:=kP hp R ef
     refine pf pins s σ H Q I ⟨F1,_,ds',R1.fh,R1.zj,e3,fun p xs H1 G1 x hpn gpn hat dx=> ?_⟩
     refine q (.ref p) H1 G1 A1 [p] (l1.trans hl) (g1.trans (.tE x)) (R1.ext x) (.ow hat gpn (OTs.AY dx)) (by simp) (fun a ha=> ?_)
     have e:a=p:=by simpa using ha
     rw [e];exact hpn
   ·obtain⟨env1,ef,ev'⟩:=af ev'
    obtain⟨d',e3,ev'⟩:=aM ev'
    cases ev'
    obtain⟨F1,A1,R1,l1,g1⟩:=kP hp R ef
    exact pv pins s σ H Q I ⟨F1,_,d',R1.fh,R1.zj,e3,fun v H' G' x dv=>q v H' G' A1 [] (l1.trans hl) (g1.trans (.tE x)) (R1.ext x) (.sh dv) List.nodup_nil (by simp)⟩
end
inductive Fl where
 |nx|bk|ct|rt(t:T)
inductive S where
 |nop|raise|brk|cnt|retN
 |seq(a b:S)
 |asg(i:Nat)(m:E)
 |asg2(i j:Nat)(m l:E)
 |asg3(i j k:Nat)(m l q:E)
 |retAll(f i:Nat)(it:E)
 |set(i:Nat)(k m:E)
 |app(i:Nat)(m:E)
 |appT(o m:E)
 |appAt(i:Nat)(k m:E)
 |ext(i:Nat)(m:E)
 |ins(i:Nat)(k m:E)
 |aug(i:Nat)(op:Operator)(m:E)
 |augS(i:Nat)(op:Operator)(k m:E)
 |ife(c:E)(a b:S)
 |for1(i:Nat)(it:E)(b:S)
 |for2(i j:Nat)(it:E)(b:S)
 |forV(i:Nat)(js:List Nat)(b:S)
 |wh(c:E)(b:S)
 |ret(m:E)
 |drop(m:E)
 |ifio(neg:Bool)(f i:Nat)(args:E)(a b:S)
 |dropio(f i:Nat)(args:E)
 |appio(j f i:Nat)(args:E)
 |fst(i:Nat)(f:Str)(m:E)
 |appF(i:Nat)(f:Str)(m:E)
 |popF(i:Nat)(f:Str)
 |appFA(i:Nat)(f:Str)(k m:E)
 |retC(m:E)
 |dic(i j a b r:Nat)
 |augF(i:Nat)(f:Str)(op:Operator)(k m:E)
 |mio(i k:Nat)(args:E)
 |appP(i:Nat)(a b:E)
noncomputable abbrev gH:=Nat→Option (Nat×(List D→Option (T×List D)))
noncomputable def unsh:List T→Option (List D)
 |[]=>some []
 | .sh d::r=>(unsh r).map (d::·)
 |_=>none
theorem ll(ds:List D):unsh (ds.map T.sh)=some ds:=by
 induction ds with
 |nil=>rfl
 |cons d r ih=>show(unsh (r.map T.sh)).map (d::·)=_;rw [ih];rfl
theorem jH:∀ {ts:List T} {ds:List D},unsh ts=some ds→ts=ds.map T.sh
 |[],ds,h=>by cases h;rfl
 | .sh d::r,ds,h=>by
   obtain⟨l,e,rfl⟩:=aM (show(unsh r).map (d::·)=some ds from h)
   rw [jH e];rfl
 | .ow _::r,ds,h=>by cases h
noncomputable def rN(m:E)(i:Nat):Bool:=match m with
 | .var j=>j==i
 |_=>false
noncomputable def Jw(Γ:bu)(i:Nat)(ds:List D)(env:Env):Nat→E→Option (List D)
 |0,.cons m r=>if rN m i then(jM Γ r env).map fun l=> .lst ds::l else none
 |k+1,.cons m r=>(ev Γ m env).bind fun x=>(Jw Γ i ds env k r).map fun l=>x::l
 |_,_=>none
noncomputable def qZ(Γ:bu)(Δ:gH)(f i:Nat)(args:E)(env:av):Option (T×av):=(Δ f).bind fun kg=>match env[i]? with
 |some (some (.ow ts))=>(unsh ts).bind fun ds=>if ds.all scal then(Jw Γ i ds (ae (env.set i none)) kg.1 args).bind fun l=>(kg.2 l).bind fun r=>if bN r.1&&r.2.all scal then some (r.1,env.set i (some (.ow (r.2.map T.sh))))else none else none
 |_=>none
noncomputable def gJ(Γ:bu)(pio:Option Nat)(m:E)(env:av):Option (List D×av):=if lD m then(az Γ m (ae env)).map fun l=>(l,env)else(frz pio env (aX m)).bind fun env'=>(az Γ m (gC env')).map fun l=>(l,env')
noncomputable def forL(step:D→av→Option (Fl×av)):List D→av→Option (Fl×av)
 |[],env=>some (.nx,env)
 |d::r,env=>(step d env).bind fun q=>match q.1 with
  | .nx=>forL step r q.2
  | .ct=>forL step r q.2
  | .bk=>some (.nx,q.2)
  | .rt t=>some (.rt t,q.2)
noncomputable def dU(test:av→Option Bool)(step:av→Option (Fl×av)):Nat→av→Option (Fl×av)
 |0,_=>none
 |n+1,env=>(test env).bind fun b=>if b then(step env).bind fun q=>match q.1 with
   | .nx=>dU test step n q.2
   | .ct=>dU test step n q.2
   | .bk=>some (.nx,q.2)
   | .rt t=>some (.rt t,q.2)
  else some (.nx,env)
noncomputable def FP(step:av→Option (Fl×av))(i:Nat):List Nat→av→Option (Fl×av)
 |[],env=>some (.nx,env)
 |j::r,env=>match env[j]? with
  |some (some t)=>(step ((env.set j none).set i (some t))).bind fun q=>match q.2[i]? with
   |some (some t')=>match q.1 with
    | .nx=>FP step i r ((q.2.set i none).set j (some t'))
    | .rt t=>some (.rt t,q.2)
    |_=>none
   |_=>none
  |_=>none
noncomputable def j2(op:Operator):D→D→Option D
 | .int a,.int b=>match op with
   | .Add=>some (.int (a+b))
   | .Sub=>some (.int (a-b))
   |_=>none
 |_,_=>none
noncomputable def bw(env:av)(i:Nat):Option (List T):=match env[i]? with
 |some (some (.ow ts))=>some ts
 |_=>none
noncomputable def g7:D→Option Int
 | .int i=>some i
 |_=>none
noncomputable def di(pio:Option Nat)(env:av)(i:Nat):Bool:=decide (pio≠some i∧i<env.length)
noncomputable def cZ:S→List Nat
 | .seq a b=>cZ a++cZ b
 | .asg i _=>[i]
 | .asg2 i j _ _=>[i,j]
 | .asg3 i j k _ _ _=>[i,j,k]
 | .aug i _ _=>[i]
 | .dic i j a b _=>[i,j,a,b]
 | .ife _ a b=>cZ a++cZ b
 | .for1 i _ b=>i::cZ b
 | .for2 i j _ b=>i::j::cZ b
 | .forV i _ b=>i::cZ b
 | .wh _ b=>cZ b
 | .ifio _ _ _ _ a b=>cZ a++cZ b
 |_=>[]
noncomputable def jn:T→Option (List T)
 | .ow us=>some us
 | .sh (.lst ds)=>some (ds.map T.sh)
 |_=>none
noncomputable def pU:T→Option (List T)
 | .ow us=>some us
 |_=>none
noncomputable def cm(env:av)(i:Nat):Option (Nat×List Str×List T):=match env[i]? with
 |some (some (.ob c ks ts))=>some (c,ks,ts)
 |_=>none
noncomputable def cR(f:Str)(o:Nat×List Str×List T):Option (Nat×List T):=(cg o.2.1 f).bind fun j=>(o.2.2[j]?).bind fun t=>(pU t).map fun us=>(j,us)
noncomputable def mR:D→T
 | .lst l=> .ow (l.map T.sh)
 |d=> .sh d
noncomputable def qC(g:List D→Option (T×List D)):List D→List D→Option Bool
 |[],_=>some true
 |d::r,ms=>(g [d,.lst ms]).bind fun p=>match p.1 with
  | .sh (.bl b)=>if p.2.all scal then(qC g r p.2).map (b&&·)else none
  |_=>none
noncomputable def pI(ns:List Int):List (Int×Int):=ns.zipIdx.map fun p=>(p.1,(p.2:Int))
noncomputable def xO(o:Nat×List Str×List T):Option (List D):=if o.2.1=[("counts":Str)]then(cR "counts" o).bind fun ju=>(unsh ju.2).bind fun ds=>if ds.all scal then some ds else none else none
noncomputable def Ei:T→Bool
 | .sh .non=>true
 |_=>false
noncomputable def mX:D→Bool
 | .ins _ _ _=>false
 | .dic _=>false
 |_=>true
noncomputable def ex(Γ:bu)(Δ:gH)(pio:Option Nat)(n:Nat):S→av→Option (Fl×av)
 | .nop,env=>some (.nx,env)
 | .raise,_=>none
 | .brk,env=>some (.bk,env)
 | .cnt,env=>some (.ct,env)
 | .retN,env=>some (.rt (.sh .non),env)
 | .seq a b,env=>(ex Γ Δ pio n a env).bind fun r=>match r.1 with
   | .nx=>ex Γ Δ pio n b r.2
   |_=>some r
 | .asg i m,env=>if di pio env i then(bL Γ pio m env).map fun r=>(.nx,r.2.set i (some r.1))else none
 | .asg2 i j m l,env=>if di pio env i&&di pio env j&&decide (i≠j)then(bL Γ pio m env).bind fun r=>(bL Γ pio l r.2).map fun q=>(.nx,(q.2.set i (some r.1)).set j (some q.1))else none
 | .asg3 i j k m l q,env=>if di pio env i&&di pio env j&&di pio env k&&decide (i≠j∧i≠k∧j≠k)then(bL Γ pio m env).bind fun r=>(bL Γ pio l r.2).bind fun p=>(bL Γ pio q p.2).map fun o=>(.nx,((o.2.set i (some r.1)).set j (some p.1)).set k (some o.1))else none
 | .retAll f i it,env=>(Δ f).bind fun kg=>if kg.1=1∧pio≠some i then(gJ Γ pio it env).bind fun r=>(bw r.2 i).bind fun ts=>(unsh ts).bind fun ms=>if ms.all scal&&sz r.1.length then(qC kg.2 r.1 ms).map fun b=>(.rt (.sh (.bl b)),r.2.set i none)else none else none
 | .set i k m,env=>(ev Γ m (ae env)).bind fun d=>if scal d then((ev Γ k (ae env)).bind g7).bind fun z=>(bw env i).bind fun ts=>(kH ts.length z).map fun j=>(.nx,env.set i (some (.ow (ts.set j (.sh d)))))else none
 | .app i m,env=>(bL Γ pio m env).bind fun r=>(bw r.2 i).bind fun ts=>if sz ts.length then some (.nx,r.2.set i (some (.ow (ts++[r.1]))))else none
 | .appT o m,env=>(bL Γ pio o env).bind fun r=>(pU r.1).bind fun us=>(ev Γ m (ae r.2)).bind fun d=>if scal d&&sz us.length then some (.nx,r.2)else none
 | .appAt i k m,env=>((ev Γ k (ae env)).bind g7).bind fun z=>(bw env i).bind fun ts=>(kH ts.length z).bind fun j=>(ts[j]?).bind fun t=>(pU t).bind fun us=>(ev Γ m (ae env)).bind fun d=>if scal d&&sz us.length then some (.nx,env.set i (some (.ow (ts.set j (.ow (us++[.sh d]))))))else none
 | .ext i m,env=>(bL Γ pio m env).bind fun r=>(jn r.1).bind fun us=>(bw r.2 i).bind fun ts=>if sz (ts.length+us.length)then some (.nx,r.2.set i (some (.ow (ts++us))))else none
 | .ins i k m,env=>((ev Γ k (ae env)).bind g7).bind fun z=>(ev Γ m (ae env)).bind fun d=>(bw env i).bind fun ts=>if scal d&&decide (0≤z∧z≤ts.length)&&sz ts.length then some (.nx,env.set i (some (.ow (ts.take z.toNat++.sh d::ts.drop z.toNat))))else none
 | .aug i op m,env=>if di pio env i then(((ae env)[i]?).join).bind fun a=>(ev Γ m (ae env)).bind fun b=>(j2 op a b).map fun d=>(.nx,env.set i (some (.sh d)))else none
 | .augS i op k m,env=>((ev Γ k (ae env)).bind g7).bind fun z=>(bw env i).bind fun ts=>(kH ts.length z).bind fun j=>(ts[j]?).bind fun t=>(ev Γ m (ae env)).bind fun b=>(j2 op (strip t) b).map fun d=>(.nx,env.set i (some (.ow (ts.set j (.sh d)))))
 | .ife c a b,env=>(bG Γ c (ae env)).bind fun t=>if t then ex Γ Δ pio n a env else ex Γ Δ pio n b env
 | .for1 i it b,env=>if di pio env i then(gJ Γ pio it env).bind fun r=>forL (fun d e=>ex Γ Δ pio n b (e.set i (some (.sh d)))) r.1 r.2 else none
 | .for2 i j it b,env=>if di pio env i&&di pio env j&&decide (i≠j)then(gJ Γ pio it env).bind fun r=>forL (fun d e=>match d with
    | .tup [x,y]=>ex Γ Δ pio n b ((e.set i (some (.sh x))).set j (some (.sh y)))
    |_=>none) r.1 r.2 else none
 | .forV i js b,env=>if di pio env i&&js.all (fun j=>di pio env j&&decide (j≠i))&&(js.all fun j=> !(cZ b).contains j)&& !(cZ b).contains i&&sz js.length&&(js.all fun j=>((env[j]?).join).isSome)then FP (ex Γ Δ pio n b) i js env else none
 | .wh c b,env=>dU (fun e=>bG Γ c (ae e)) (ex Γ Δ pio n b) n env
 | .ret m,env=>match m with
   | .var i=>if pio=some i then none else(env[i]?).join.map fun t=>(.rt t,env.set i none)
   |_=>(bL Γ pio m env).map fun r=>(.rt r.1,r.2)
 | .drop m,env=>(bL Γ pio m env).map fun r=>(.nx,r.2)
 | .ifio neg f i args a b,env=>(qZ Γ Δ f i args env).bind fun r=>match r.1 with
   | .sh (.bl t)=>if(t !=neg)then ex Γ Δ pio n a r.2 else ex Γ Δ pio n b r.2
   |_=>none
 | .dropio f i args,env=>(qZ Γ Δ f i args env).map fun r=>(.nx,r.2)
 | .fst i f m,env=>(bL Γ pio m env).bind fun r=>(cm r.2 i).bind fun o=>if !o.2.1.contains f&&decide (o.2.1.length<1000)then some (.nx,r.2.set i (some (.ob o.1 (o.2.1++[f]) (o.2.2++[r.1]))))else none
 | .appF i f m,env=>(bL Γ pio m env).bind fun r=>(cm r.2 i).bind fun o=>(cR f o).bind fun ju=>if sz ju.2.length then some (.nx,r.2.set i (some (.ob o.1 o.2.1 (o.2.2.set ju.1 (.ow (ju.2++[r.1]))))))else none
 | .popF i f,env=>(cm env i).bind fun o=>(cR f o).bind fun ju=>if ju.2.isEmpty then none else some (.nx,env.set i (some (.ob o.1 o.2.1 (o.2.2.set ju.1 (.ow ju.2.dropLast)))))
 | .appFA i f k m,env=>(cm env i).bind fun o=>(cR f o).bind fun ju=>((ev Γ k (ae env)).bind g7).bind fun z=>(kH ju.2.length z).bind fun l=>(ju.2[l]?).bind fun t=>(pU t).bind fun us=>(ev Γ m (ae env)).bind fun d=>if scal d&&sz us.length then some (.nx,env.set i (some (.ob o.1 o.2.1 (o.2.2.set ju.1 (.ow (ju.2.set l (.ow (us++[.sh d]))))))))else none
 | .retC m,env=>(az Γ m (gC env)).bind fun ds=>if sz ds.length&&ds.all mX then some (.rt (.ow (ds.map mR)),env)else none
 | .dic i j a b r,env=>if di pio env i&&di pio env j&&di pio env a&&di pio env b&&decide ([i,j,a,b,r].Nodup)then(((ae env)[r]?).join.bind bx).bind fun ds=>(cQ ds).bind fun ns=>if decide ns.Nodup&&sz ns.length then some (.nx,(((env.set a none).set b none).set i (some (.sh (.dic (pI ns))))).set j (some (.ow [])))else none else none
 | .appP i a b,env=>(ev Γ a (ae env)).bind fun x=>(ev Γ b (ae env)).bind fun y=>if scal x&&scal y then(bw env i).bind fun ts=>if sz ts.length then some (.nx,env.set i (some (.ow (ts++[.sh (.tup [x,y])]))))else none else none
 | .augF i f op k m,env=>(cm env i).bind fun o=>(cR f o).bind fun ju=>((ev Γ k (ae env)).bind g7).bind fun z=>(kH ju.2.length z).bind fun l=>(ju.2[l]?).bind fun t=>(ev Γ m (ae env)).bind fun b=>(j2 op (strip t) b).map fun d=>(.nx,env.set i (some (.ob o.1 o.2.1 (o.2.2.set ju.1 (.ow (ju.2.set l (.sh d)))))))
 | .mio i k args,env=>(cm env i).bind fun o=>(xO o).bind fun ds=>(jM Γ args (ae env)).bind fun l=>if l.all scal then(Δ (jZ o.1 k)).bind fun kg=>if kg.1=0 then(kg.2 (.lst ds::l)).bind fun r=>if Ei r.1&&r.2.all scal then some (.nx,env.set i (some (.ob o.1 o.2.1 [.ow (r.2.map T.sh)])))else none else none else none
 | .appio j f i args,env=>if j=i then none else(qZ Γ Δ f i args env).bind fun r=>(bw r.2 j).bind fun ts=>if sz ts.length then some (.nx,r.2.set j (some (.ow (ts++[r.1]))))else none
section
variable{K:W.Frag}{cl:Nat→Option Addr}{H₀ G₀ F H H' F':Hp}{io:Option (Nat×Addr)}{A:Nat→List Addr}{σ:St}{env env':av}{pio:Option Nat}
theorem oj(h:bw env i=some ts):env[i]?=some (some (.ow ts)):=by
 unfold bw at h
 split at h
 ·rename_i e;cases h;exact e
 ·cases h
inductive OwnI(K:W.Frag)(cl:Nat→Option Addr)(F:Hp)(A:Nat→List Addr)(σ:St)(env:av)(H:Hp)(i:Nat)(ts:List T):Prop where
 |mk (p:Addr) (xs:List V) (B:List Addr):env[i]?=some (some (.ow ts))→σ[i]?=some (some (.ref p))→A i=p::B→H p=some (.lst xs)→F p=none→OTs K cl F H xs ts B→OwnI K cl F A σ env H i ts
theorem Rep.own(R:Rep K cl H₀ G₀ io F A σ env H)(h:bw env i=some ts):OwnI K cl F A σ env H i ts:=by
 have e:=oj h
 obtain⟨v,h1,ot⟩:=R.slot i _ e
 generalize hA:A i=B at ot
 cases ot with
 |ow a1 a2 a3=>exact⟨_,_,_,e,h1,hA,a1,a2,a3⟩
theorem OTs.snoc(h:OTs K cl F H xs ts B)(o:OT K cl F H v t C):OTs K cl F H (xs++[v]) (ts++[t]) (B++C):=by
 have one:OTs K cl F H [v] [t] C:=by simpa using OTs.cons o .nil
 induction ts generalizing xs B with
 |nil=>cases h;exact one
 |cons t r ih=>cases h with|cons a t=>rw [kW];exact .cons a (ih t)
theorem OTs.app(h:OTs K cl F H xs ts B)(o:OTs K cl F H ys us C):OTs K cl F H (xs++ys) (ts++us) (B++C):=by
 induction ts generalizing xs B with
 |nil=>cases h;exact o
 |cons t r ih=>cases h with|cons a t=>rw [kW];exact .cons a (ih t)
theorem OTs.put(o:OT K cl F H v t' C):∀ {xs:List V} {ts:List T} {B:List Addr} (j:Nat),OTs K cl F H xs ts B→B.Nodup→C.Nodup→(∀a∈C,a∈B→False)→∃B',OTs K cl F H (xs.set j v) (ts.set j t') B'∧B'.Nodup∧∀a∈B',a∈B∨a∈C
 |_,_,_,_,.nil,nd,nc,_=>⟨[],.nil,List.nodup_nil,by simp⟩
 |_,_,_,0,.cons (A:=A1) (B:=B1) a t,nd,nc,dj=>by
  obtain⟨n1,n2,n3⟩:=eX.mp nd
  refine⟨C++B1,.cons o t,eX.mpr ⟨nc,n2,fun x hx y hy e=>dj x hx (by rw [e];simp [hy])⟩,fun x hx=> ?_⟩
  rcases fv.mp hx with z|z
  ·exact .inr z
  ·exact .inl (by simp [z])
 |_,_,_,j+1,.cons (A:=A1) (B:=B1) a t,nd,nc,dj=>by
  obtain⟨n1,n2,n3⟩:=eX.mp nd
  obtain⟨B',h1,h2,h3⟩:=OTs.put o j t n2 nc fun x hx hb=>dj x hx (by simp [hb])
  refine⟨A1++B',.cons a h1,eX.mpr ⟨n1,h2,fun x hx y hy e=> ?_⟩,fun x hx=> ?_⟩
  ·subst e
   rcases h3 x hy with z|z
   ·exact n3 x hx x z rfl
   ·exact dj x z (by simp [hx])
  ·rcases fv.mp hx with z|z
   ·exact .inl (by simp [z])
   ·rcases h3 x z with z|z
    ·exact .inl (by simp [z])
    ·exact .inr z
theorem OTs.gS(h:OTs K cl F H xs ts B)(hp:p∉B):OTs K cl F (bp H p o) xs ts B:=
 h.move (.refl _) (fun a ha=>(h.free a ha).1) fun a ha u q=>by rw [ag (fun e=>hp (by rw [←e];exact ha))];exact q
theorem OT.gS(h:OT K cl F H x t B)(hp:p∉B):OT K cl F (bp H p o) x t B:=
 h.move (.refl _) (fun a ha=>(h.free a ha).1) fun a ha u q=>by rw [ag (fun e=>hp (by rw [←e];exact ha))];exact q
theorem Rep.gS(R:Rep K cl H₀ G₀ io F A σ env H)(fp:F p=none)(hp:H₀ p=none)(np:∀j,p∉A j)(o:HO):Rep K cl H₀ G₀ io F A σ env (bp H p o):=by
 refine⟨fun i t e=> ?_,R.out,R.nd,R.dj,fun b u q=> ?_,R.gf,R.fnew,fun b u h1 h2=> ?_,R.anew,R.iok⟩
 ·obtain⟨v,h1,h2⟩:=R.slot i t e
  exact⟨v,h1,h2.gS (np i)⟩
 ·rw [ag (aD q fp)];exact R.fh _ _ q
 ·rw [ag (aD h1 hp)];exact R.keep b u h1 h2
end
theorem wW:ML X "list.extend" (fun x vs H Q=>∃l b xs zs,x=.ref l∧vs=[.ref b]∧H l=some (.lst xs)∧RL X.K H b zs∧xs.length+zs.length≤sizeLine∧Q .non (bp H l (.lst (xs++zs)))):=by
 intro pins s σ H x vs v us Q I rx rv h
 obtain⟨l,b,xs,zs,rfl,rfl,hH,hB,hz,q⟩:=h
 cases rx
 obtain⟨u,rfl,ru⟩:=rv.one
 cases ru
 obtain⟨z,az,n,r,hl,e⟩:=I.Er hH
 obtain⟨z2,its2,n2,r2,hl2,e2⟩:=oZ I hB
 have hsz:az.toArray.size+its2.toArray.size≤sizeLine:=by rw [iR,iR];lia
 have hlong:¬(!az.toArray.isEmpty&&Builtin.List.listTooLong (az.toArray.size+its2.toArray.size))=true:=by
  rw [vg hsz,Bool.and_false]
  exact kQ
 refine call_meets F.slot_list_extend ⟨_,e,rfl⟩ F.entry_list_extend (F.args_list_extend_2 _ _)
  (AutoSeq1.list_extend_list_list_0 l az.toArray n b its2.toArray n2 hlong (by rw [iR];lia) (by lia)) ⟨e,e2,?_⟩
 refine⟨.non,_,I.lset (its':=az++its2) hH e (by simp) (r.append r2) ?_,rfl,q⟩
 rw [dP]
 lia
def Po(K:W.Frag)(cl:Nat→Option Addr)(H₀ G₀:Hp)(io:Option (Nat×Addr))(D:Ends)(fl:Fl)(F₀:Hp)(σ₀:St)(as:List Nat)(env':av):Prop:=
 ∀σ' H' F' A',env'.length=σ'.length→σ'.length=σ₀.length→(∀(k:Nat),k∉as→σ'[k]?=σ₀[k]?)→aG F₀ F'→Rep K cl H₀ G₀ io F' A' σ' env' H'→match fl with
  | .nx=>D.nx σ' H'
  | .bk=>D.bk σ' H'
  | .ct=>D.ct σ' H'
  | .rt t=>∀v B,OT K cl F' H' v t B→B.Nodup→(∀j a,a∈A' j→a∈B→False)→(∀a∈B,H₀ a=none)→D.rt v H'
inductive tS(K:W.Frag)(cl:Nat→Option Addr)(Γ:bu)(Δ:gH)(pio:Option Nat)(s:S)(D9:Ends)(σ:St)(H:Hp):Prop where
 |mk (H₀:Hp) (G₀:Hp) (io:Option (Nat×Addr)) (F:Hp) (A:Nat→List Addr) (env:av) (n:Nat) (fl:Fl) (env':av):(C8 pio io)→(env.length=σ.length)→(Rep K cl H₀ G₀ io F A σ env H)→(ex Γ Δ pio n s env=some (fl,env'))→(Po K cl H₀ G₀ io D9 fl F σ (cZ s) env')→tS K cl Γ Δ pio s D9 σ H
section
variable{K:W.Frag}{cl:Nat→Option Addr}{Γ:bu}{Δ:gH}{pio:Option Nat}{D:Ends}{σ:St}{H:Hp}
theorem FE(h:tS K cl Γ Δ pio .nop D σ H):xZ D σ H:=by
 obtain⟨H₀,G₀,io,F,A,env,n,fl,env',hp,hl,R,e,po⟩:=h
 cases e
 exact po σ H F A hl rfl (fun _ _=>rfl) (.refl _) R
theorem GK(h:tS K cl Γ Δ pio .retN D σ H):Fy D σ H:=by
 obtain⟨H₀,G₀,io,F,A,env,n,fl,env',hp,hl,R,e,po⟩:=h
 cases e
 exact po σ H F A hl rfl (fun _ _=>rfl) (.refl _) R .non [] (.sh .non) List.nodup_nil (by simp) (by simp)
theorem Dx(h:tS K cl Γ Δ pio .raise D σ H):AK D σ H:=by
 obtain⟨H₀,G₀,io,F,A,env,n,fl,env',hp,hl,R,e,po⟩:=h
 cases e
theorem FD(h:tS K cl Γ Δ pio (.seq a b) D σ H):Dh (tS K cl Γ Δ pio a) (tS K cl Γ Δ pio b) D σ H:=by
 obtain⟨H₀,G₀,io,F,A,env,n,fl,env',hp,hl,R,e,po⟩:=h
 obtain⟨⟨fa,ea⟩,h1,h2⟩:=af (show(ex Γ Δ pio n a env).bind (fun r=>match r.1 with| .nx=>ex Γ Δ pio n b r.2|_=>some r)=some (fl,env')from e)
 refine⟨H₀,G₀,io,F,A,env,n,fa,ea,hp,hl,R,h1,fun σ' H' F' A' l1 l2 st sf R'=> ?_⟩
 have st':∀(k:Nat),k∉cZ (.seq a b)→σ'[k]?=σ[k]?:=fun k hk=>st k fun z=>hk (by simp [cZ,z])
 cases fa with
 |nx=>
  refine⟨H₀,G₀,io,F',A',ea,n,fl,env',hp,l1,R',h2,fun σ2 H2 F2 A2 l3 l4 st2 sf2 R2=> ?_⟩
  exact po σ2 H2 F2 A2 l3 (l4.trans l2) (fun k hk=>(st2 k fun z=>hk (by simp [cZ,z])).trans (st' k hk)) (sf.trans sf2) R2
 |bk=>cases h2;exact po σ' H' F' A' l1 l2 st' sf R'
 |ct=>cases h2;exact po σ' H' F' A' l1 l2 st' sf R'
 |rt t=>cases h2;exact po σ' H' F' A' l1 l2 st' sf R'
theorem dX(h:di pio env i=true):pio≠some i∧i<env.length:=fm h
theorem C8.ne(hp:C8 pio io)(h:pio≠some i):∀p a,io=some (p,a)→p≠i:=fun p a e z=>h (by rw [←z];exact hp p a e)
theorem Rep.GC(R:Rep K cl H₀ G₀ io F A σ env H)(g:Gro F A H F' A' H')(R':Rep K cl H₀ G₀ io F' A' σ env' H')(hp:C8 pio io)(hi:pio≠some i)(hl:i<env'.length)(hs:env'.length=σ.length)(ot:OT K cl F' H' v t B)(nd:B.Nodup)(nw:∀a∈B,H a=none):Rep K cl H₀ G₀ io F' (fun j=>if j=i then B else A' j) (σ.set i (some v)) (env'.set i (some t)) H':=
 R'.store (hp.ne hi) hl hs ot nd (fun j a _ h1 h2=>by
   obtain⟨_,o,h3⟩:=R.at_ (g.aa j a h1)
   rw [nw a h2]at h3;cases h3) fun a ha=>R.new (nw a ha)
theorem AZ{σ:St}(h:k∉[i]):(σ.set i o)[k]?=σ[k]?:=gK (fun e=>h (by simp [e]))
theorem A6(h:tS K cl Γ Δ pio (.asg i m) D σ H):wx (tX K cl Γ pio m) (fT i) D σ H:=by
 obtain⟨H₀,G₀,io,F,A,env,n,fl,env',hp,hl,R,e,po⟩:=h
 have e':(if di pio env i then(bL Γ pio m env).map fun r=>(Fl.nx,r.2.set i (some r.1))else none)=some (fl,env'):=e
 split at e'
 ·rename_i ok
  obtain⟨o1,o2⟩:=dX ok
  obtain⟨⟨t,env1⟩,h1,h2⟩:=aM e'
  cases h2
  refine⟨H₀,G₀,io,F,A,env,t,env1,hp,hl,R,h1,fun v H' F' A' B l1 g R' ot nd nw=> ?_⟩
  exact po _ H' F' _ (by simp [l1]) (by simp) (fun k hk=>AZ hk) g.ff (R.GC g R' hp o1 (by have l1':env1.length=σ.length:=l1;show i<env1.length;lia) l1 ot nd nw)
 ·cases e'
theorem Ku(hv:∀i,m≠.var i)(h:tS K cl Γ Δ pio (.ret m) D σ H):AI (tX K cl Γ pio m) D σ H:=by
 obtain⟨H₀,G₀,io,F,A,env,n,fl,env',hp,hl,R,e,po⟩:=h
 have e':(bL Γ pio m env).map (fun r=>(Fl.rt r.1,r.2))=some (fl,env'):=by
  rw [←e]
  cases m with
  |var i=>exact absurd rfl (hv i)
  |_=>rfl
 obtain⟨⟨t,env1⟩,h1,h2⟩:=aM e'
 cases h2
 refine⟨H₀,G₀,io,F,A,env,t,env1,hp,hl,R,h1,fun v H' F' A' B l1 g R' ot nd nw=> ?_⟩
 exact po σ H' F' A' l1 rfl (fun _ _=>rfl) g.ff R' v B ot nd (fun j a h1 h2=>by
  obtain⟨_,o,h3⟩:=R.at_ (g.aa j a h1)
  rw [nw a h2]at h3;cases h3) fun a ha=>R.new (nw a ha)
theorem GJ(h:tS K cl Γ Δ pio (.ret (.var i)) D σ H):AI (eL i) D σ H:=by
 obtain⟨H₀,G₀,io,F,A,env,n,fl,env',hp,hl,R,e,po⟩:=h
 have e':(if pio=some i then none else(env[i]?).join.map fun t=>(Fl.rt t,env.set i none))=some (fl,env'):=e
 split at e'
 ·cases e'
 ·rename_i hi
  obtain⟨t,h1,h2⟩:=aM e'
  cases h2
  have h3:env[i]?=some (some t):=by
   cases z:env[i]? with
   |none=>rw [z]at h1;cases h1
   |some o=>rw [z]at h1;rw [show o=some t from h1]
  obtain⟨v,h4,ot⟩:=R.slot i t h3
  refine⟨v,h4,po σ H F _ (by simp [hl]) rfl (fun _ _=>rfl) (.refl _) (R.drop i (hp.ne hi)) v (A i) ot (R.nd i) (fun j a h1 h2=> ?_) fun a ha=> ?_⟩
  ·have h1':a∈(if j=i then []else A j):=h1
   split at h1'
   ·simp at h1'
   ·rename_i hj;exact R.dj j i a hj h1' h2
  ·rcases R.anew i a ha with⟨p,z⟩|z
   ·exact absurd rfl (fun(_:p=p)=>R.dj p i a (hp.ne hi p a z) (R.Jv z) ha)
   ·exact z
theorem GQ(h:tS K cl Γ Δ pio (.drop m) D σ H):j5 (tX K cl Γ pio m) D σ H:=by
 obtain⟨H₀,G₀,io,F,A,env,n,fl,env',hp,hl,R,e,po⟩:=h
 obtain⟨⟨t,env1⟩,h1,h2⟩:=aM (show(bL Γ pio m env).map (fun r=>(Fl.nx,r.2))=some (fl,env')from e)
 cases h2
 exact⟨H₀,G₀,io,F,A,env,t,env1,hp,hl,R,h1,fun v H' F' A' B l1 g R' ot nd nw=>po σ H' F' A' l1 rfl (fun _ _=>rfl) g.ff R'⟩
theorem Kx(h:tS K cl Γ Δ pio (.ife c a b) D σ H):GB (tVT K cl Γ c) (tS K cl Γ Δ pio a) (tS K cl Γ Δ pio b) D σ H:=by
 obtain⟨H₀,G₀,io,F,A,env,n,fl,env',hp,hl,R,e,po⟩:=h
 obtain⟨t,h1,h2⟩:=af (show(bG Γ c (ae env)).bind (fun t=>if t then ex Γ Δ pio n a env else ex Γ Δ pio n b env)=some (fl,env')from e)
 refine⟨H,_,t,.refl _,R.vY,h1,fun H' G' x=> ?_⟩
 cases t with
 |true=>exact nU ⟨H₀,G₀,io,F,A,env,n,fl,env',hp,hl,R.same x.hh,h2,fun σ' H' F' A' l1 l2 st sf R'=>po σ' H' F' A' l1 l2 (fun k hk=>st k fun z=>hk (by simp [cZ,z])) sf R'⟩
 |false=>exact nV ⟨H₀,G₀,io,F,A,env,n,fl,env',hp,hl,R.same x.hh,h2,fun σ' H' F' A' l1 l2 st sf R'=>po σ' H' F' A' l1 l2 (fun k hk=>st k fun z=>hk (by simp [cZ,z])) sf R'⟩
theorem MX(h:tS K cl Γ Δ pio (.wh c b) D σ H):AG (tVT K cl Γ c) (tS K cl Γ Δ pio b) D σ H:=by
 obtain⟨H₀,G₀,io,F,A,env,n,fl,env',hp,hl,R,e,po⟩:=h
 have e':dU (fun e=>bG Γ c (ae e)) (ex Γ Δ pio n b) n env=some (fl,env'):=e
 refine⟨fun m σ' H'=>∃F2 A e1,aG F F2∧e1.length=σ'.length∧σ'.length=σ.length∧(∀(k:Nat),k∉cZ b→σ'[k]?=σ[k]?)∧Rep K cl H₀ G₀ io F2 A σ' e1 H'∧dU (fun e=>bG Γ c (ae e)) (ex Γ Δ pio n b) m e1=some (fl,env'),⟨n,F,A,env,.refl _,hl,rfl,fun _ _=>rfl,R,e'⟩,?_⟩
 rintro m σ1 H1 ⟨F1,A1,e1,sf1,l1,l2,st1,R1,w1⟩
 cases m with
 |zero=>cases w1
 |succ m=>
  obtain⟨t,h1,h2⟩:=af (show(bG Γ c (ae e1)).bind (fun b'=>if b' then(ex Γ Δ pio n b e1).bind fun q=>match q.1 with
   | .nx=>dU (fun e=>bG Γ c (ae e)) (ex Γ Δ pio n b) m q.2
   | .ct=>dU (fun e=>bG Γ c (ae e)) (ex Γ Δ pio n b) m q.2
   | .bk=>some (.nx,q.2)
   | .rt t=>some (.rt t,q.2)
  else some (.nx,e1))=some (fl,env')from w1)
  refine⟨H1,_,t,.refl _,R1.vY,h1,fun H2 G2 x=> ?_⟩
  cases t with
  |false=>
   cases h2
   exact nV (po σ1 H2 F1 A1 l1 l2 st1 sf1 (R1.same x.hh))
  |true=>
   obtain⟨⟨fb,eb⟩,h3,h4⟩:=af (show(ex Γ Δ pio n b e1).bind (fun q=>match q.1 with
    | .nx=>dU (fun e=>bG Γ c (ae e)) (ex Γ Δ pio n b) m q.2
    | .ct=>dU (fun e=>bG Γ c (ae e)) (ex Γ Δ pio n b) m q.2
    | .bk=>some (.nx,q.2)
    | .rt t=>some (.rt t,q.2))=some (fl,env')from h2)
   refine nU ⟨fun σ' H'=>∃F2 A e1,aG F F2∧e1.length=σ'.length∧σ'.length=σ.length∧(∀(k:Nat),k∉cZ b→σ'[k]?=σ[k]?)∧Rep K cl H₀ G₀ io F2 A σ' e1 H'∧dU (fun e=>bG Γ c (ae e)) (ex Γ Δ pio n b) m e1=some (fl,env'),fun σ' H' w=>⟨m,by lia,w⟩,?_⟩
   refine⟨H₀,G₀,io,F1,A1,e1,n,fb,eb,hp,l1,R1.same x.hh,h3,fun σ' H' F' A' l3 l4 st sf R'=> ?_⟩
   have st':∀(k:Nat),k∉cZ b→σ'[k]?=σ[k]?:=fun k hk=>(st k hk).trans (st1 k hk)
   cases fb with
   |nx=>exact⟨F',A',eb,sf1.trans sf,l3,l4.trans l2,st',R',h4⟩
   |ct=>exact⟨F',A',eb,sf1.trans sf,l3,l4.trans l2,st',R',h4⟩
   |bk=>cases h4;exact po σ' H' F' A' l3 (l4.trans l2) st' (sf1.trans sf) R'
   |rt t=>cases h4;exact po σ' H' F' A' l3 (l4.trans l2) st' (sf1.trans sf) R'
end
section
variable{K:W.Frag}{cl:Nat→Option Addr}{Γ:bu}{Δ:gH}{pio:Option Nat}{En:Ends}{σ:St}{H:Hp}
theorem we(R:Rep K cl H₀ G₀ io F A σ env H)(e:ev Γ m (ae env)=some d){Q:VK}(q:∀v H',aG H H'→Rep K cl H₀ G₀ io F A σ env H'→Dn K cl H' v d→Q v H'):tV K cl Γ m σ H Q:=
 ⟨H,_,d,.refl _,R.vY,e,fun v H' G' x dv=>q v H' x.hh (R.same x.hh) (dv.mono x.gh)⟩
theorem mQ(h:Dn K cl G v d)(e:g7 d=some z):v=.int z:=by
 cases d with
 |int i=>cases e;cases h;rfl
 |_=>cases e
theorem Rep.rewrite{H₀ G₀ F:Hp}{io:Option (Nat×Addr)}{A:Nat→List Addr}{env:av}{i:Nat}{ts ts':List T}{p:Addr}{xs xs':List V}{B B' C:List Addr}(R:Rep K cl H₀ G₀ io F A σ env H)(e:env[i]?=some (some (.ow ts)))(hs:σ[i]?=some (some (.ref p)))(hA:A i=p::B)
 (ot:OTs K cl F H xs' ts' B')(nd:B'.Nodup)(sub:∀a∈B',a∈B∨a∈C)(cn:∀a∈C,H₀ a=none∧a≠p∧∀j,a∉A j):Rep K cl H₀ G₀ io F (fun j=>if j=i then p::B' else A j) σ (env.set i (some (.ow ts'))) (bp H p (.lst xs')):=by
 have ndA:=R.nd i
 rw [hA]at ndA
 obtain⟨np,ndB⟩:=iO.mp ndA
 have np':p∉B':=fun z=>by
  rcases sub p z with z|z
  ·exact np z
  ·exact(cn p z).2.1 rfl
 refine R.write (xs:=xs) e hA (ot.gS np') (iO.mpr ⟨np',nd⟩) (fun j a hj h1 h2=> ?_) (fun a ha=> ?_) hs
 ·rcases sub a h2 with z|z
  ·exact R.dj j i a hj h1 (by rw [hA];simp [z])
  ·exact(cn a z).2.2 j h1
 ·rcases sub a ha with z|z
  ·rcases R.anew i a (by rw [hA];simp [z])with⟨q,w⟩|w
   ·exfalso
    obtain⟨C',h5⟩:=R.iok q a w
    by_cases hq:q=i
    ·subst hq
     rw [hA]at h5
     injection h5 with h6 _
     exact np (by rw [h6];exact z)
    ·exact R.dj q i a hq (R.Jv w) (by rw [hA];simp [z])
   ·exact w
  ·exact(cn a z).1
theorem Kt{i:Nat}{k m:E}(h:tS K cl Γ Δ pio (.set i k m) En σ H):wx (tV K cl Γ m) (Lv (eL i) (tV K cl Γ k) yd) En σ H:=by
 obtain⟨H₀,G₀,io,F,A,env,n,fl,env',hp,hl,R,e,po⟩:=h
 obtain⟨d,h1,e⟩:=af (show(ev Γ m (ae env)).bind (fun d=>if scal d then((ev Γ k (ae env)).bind g7).bind fun z=>(bw env i).bind fun ts=>(kH ts.length z).map fun j=>(Fl.nx,env.set i (some (.ow (ts.set j (.sh d)))))else none)=some (fl,env')from e)
 split at e
 ·rename_i sd
  obtain⟨z,h2,e⟩:=af e
  obtain⟨dk,h2,h3⟩:=af h2
  obtain⟨ts,h4,e⟩:=af e
  obtain⟨j,h5,e⟩:=aM e
  cases e
  refine we R h1 fun v H1 s1 R1 d1=> ?_
  obtain⟨p,xs,B,h6,h7,hA,hx,fp,os⟩:=R1.own h4
  refine⟨.ref p,h7,we R1 h2 fun u H2 s2 R2 d2=> ?_⟩
  have hu:=mQ d2 h3
  subst hu
  obtain⟨p',xs',B',h6',h7',hA',hx',fp',os'⟩:=R2.own h4
  rw [h7]at h7'
  cases h7'
  rw [hA]at hA'
  cases hA'
  refine⟨p,xs',z,j,rfl,rfl,hx',by rw [os'.length];exact h5,?_⟩
  have ndA:=R2.nd i
  rw [hA]at ndA
  obtain⟨B2,o2,n2,sb⟩:=OTs.put (OT.sh (H:=H2) (d1.scal sd F)) j os' (iO.mp ndA).2 List.nodup_nil (by simp)
  exact po σ _ F _ (by simp [hl]) rfl (fun _ _=>rfl) (.refl _) (R2.rewrite (xs:=xs') (C:=[]) h6 h7 hA o2 n2 sb (by simp))
 ·cases e
theorem u9{env:av}(h:bw (env.set j o) i=some ts):(i=j∧o=some (.ow ts))∨bw env i=some ts:=by
 have e:=oj h
 by_cases hij:j=i
 ·subst hij
  by_cases hl:j<env.length
  ·rw [eE hl]at e;exact .inl ⟨rfl,cC e⟩
  ·rw [List.getElem?_eq_none (by simp;lia)]at e;cases e
 ·rw [gK hij]at e
  exact .inr (by unfold bw;rw [e])
theorem jL:∀ {l:List Nat} {env env':av} {i:Nat} {ts:List T},frz pio env l=some env'→bw env' i=some ts→bw env i=some ts
 |[],_,_,_,_,h,o=>by cases h;exact o
 |j::r,env,env',i,ts,h,o=>by
  unfold frz at h
  split at h
  ·split at h
   ·cases h
   ·rcases u9 (jL h o)with⟨_,z⟩|z
    ·cases z
    ·exact z
  ·split at h
   ·cases h
   ·rcases u9 (jL h o)with⟨_,z⟩|z
    ·cases z
    ·exact z
  ·exact jL h o
theorem yS(h:bL Γ pio m env=some (t,env1))(o:bw env1 i=some ts):bw env i=some ts:=by
 cases hc:dg m with
 |true=>
  cases m with
  |call f args=>
   rw [jk]at h
   obtain⟨g,_,h⟩:=af h
   obtain⟨l,_,h⟩:=af h
   obtain⟨t1,_,h⟩:=af h
   split at h
   ·cases h;exact o
   ·obtain⟨e1,ef,h⟩:=af h
    obtain⟨l',_,h⟩:=af h
    obtain⟨t2,_,h⟩:=aM h
    cases h
    exact jL ef o
  |_=>cases hc
 |false=>
  rw [dm hc]at h
  obtain⟨d,_,h⟩:=af h
  split at h
  ·cases h;exact o
  ·split at h
   ·obtain⟨ds,_,h⟩:=af h
    split at h
    ·cases h;exact o
    ·obtain⟨e1,ef,h⟩:=af h
     obtain⟨_,_,h⟩:=aM h
     cases h
     exact jL ef o
   ·obtain⟨e1,ef,h⟩:=af h
    obtain⟨_,_,h⟩:=aM h
    cases h
    exact jL ef o
theorem gb(h:H p=some (.lst xs)):JN K "list" (.ref p) H:=.inl ⟨rfl,_,dQ.of h⟩
theorem KC{i:Nat}{m:E}(h:tS K cl Γ Δ pio (.app i m) En σ H):j5 (CW K "list" jI (eL i) (bI (tX K cl Γ pio m) fZ)) En σ H:=by
 obtain⟨H₀,G₀,io,F,A,env,n,fl,env',hp,hl,R,e,po⟩:=h
 obtain⟨⟨t,env1⟩,h1,e⟩:=af (show(bL Γ pio m env).bind (fun r=>(bw r.2 i).bind fun ts=>if sz ts.length then some (Fl.nx,r.2.set i (some (.ow (ts++[r.1]))))else none)=some (fl,env')from e)
 obtain⟨ts,h2,e⟩:=af e
 split at e
 ·rename_i hz
  cases e
  obtain⟨p,xs,_,_,h3,_,h4,_,_⟩:=R.own (yS h1 h2)
  refine⟨.ref p,h3,gb h4,H₀,G₀,io,F,A,env,t,env1,hp,hl,R,h1,fun v H' F' A' B l1 g R' ot nd nw=> ?_⟩
  obtain⟨p',xs',B',h6,h7,hA,hx,fp,os⟩:=R'.own h2
  rw [h3]at h7
  cases h7
  have ndA:=R'.nd i
  rw [hA]at ndA
  obtain⟨np,ndB⟩:=iO.mp ndA
  have dis:∀a∈B,∀j,a∉A' j:=fun a ha j hj=>by
   obtain⟨_,o,h3⟩:=R.at_ (g.aa j a hj)
   rw [nw a ha]at h3;cases h3
  refine⟨p,xs',v,rfl,rfl,hx,?_,?_⟩
  ·have:=fm hz
   rw [os.length,sizeLine_eq];lia
  ·refine po σ _ F' _ (by simpa using l1) rfl (fun _ _=>rfl) g.ff (R'.rewrite (xs:=xs') (C:=B) h6 h3 hA (os.snoc ot) ?_ (fun a ha=>fv.mp ha) fun a ha=>⟨R.new (nw a ha),fun z=>dis a ha i (by rw [hA,z];simp),dis a ha⟩)
   exact eX.mpr ⟨ndB,nd,fun a ha b hb e=>dis b hb i (by rw [hA,←e];simp [ha])⟩
 ·cases e
end
section
variable{K:W.Frag}{cl:Nat→Option Addr}{Γ:bu}{Δ:gH}{pio:Option Nat}{En:Ends}{σ:St}{H:Hp}
theorem tQ(h:pU t=some us):t=.ow us:=by
 cases t with
 |sh d=>cases h
 |ow ts=>cases h;rfl
 |ob _ _ _=>cases h
theorem Dz(h:tS K cl Γ Δ pio (.appAt i k m) En σ H):j5 (CW K "list" jI (Fz (zt K) (eL i) (tV K cl Γ k)) (bI (tV K cl Γ m) fZ)) En σ H:=by
 obtain⟨H₀,G₀,io,F,A,env,n,fl,env',hp,hl,R,e,po⟩:=h
 obtain⟨z,h1,e⟩:=af (show((ev Γ k (ae env)).bind g7).bind (fun z=>(bw env i).bind fun ts=>(kH ts.length z).bind fun j=>(ts[j]?).bind fun t=>(pU t).bind fun us=>(ev Γ m (ae env)).bind fun d=>if scal d&&sz us.length then some (Fl.nx,env.set i (some (.ow (ts.set j (.ow (us++[.sh d]))))))else none)=some (fl,env')from e)
 obtain⟨dk,h1,h2⟩:=af h1
 obtain⟨ts,h3,e⟩:=af e
 obtain⟨j,h4,e⟩:=af e
 obtain⟨t,h5,e⟩:=af e
 obtain⟨us,h6,e⟩:=af e
 obtain⟨d,h7,e9⟩:=af e
 have ht:=tQ h6
 subst ht
 split at e9
 ·rename_i hz
  obtain⟨sd,hz⟩:=bg hz
  cases e9
  have child:∀ {F H:Hp} {xs:List V} {ts:List T} {B:List Addr} {j:Nat} {us:List T},OTs K cl F H xs ts B→B.Nodup→ts[j]?=some (.ow us)→∃q ys,xs[j]?=some (.ref q)∧H q=some (.lst ys)∧q∈B∧ys.length=us.length∧
   ∀(y:V) (d:D),Dn K cl F y d→∃B',OTs K cl F (bp H q (.lst (ys++[y]))) xs (ts.set j (.ow (us++[.sh d]))) B'∧B'.Nodup∧∀a∈B',a∈B:=by
   intro F H xs
   induction xs with
   |nil=>intro ts B j us o nd h;cases o;simp at h
   |cons x xs ih=>
    intro ts B j us o nd h
    cases o with
    | @cons _ t _ ts' A1 B1 a r=>
      obtain⟨n1,n2,n3⟩:=eX.mp nd
      cases j with
      |zero=>
       have h':t=.ow us:=by simpa using h
       subst h'
       cases a with
       | @ow q ys _ C a1 a2 a3=>
         obtain⟨nq,nC⟩:=iO.mp n1
         refine⟨q,ys,rfl,a1,by simp,a3.length,fun y d hd=>⟨(q::C)++B1,.cons (.ow ak a2 ?_) (r.gS fun z=>n3 q (by simp) q z rfl),nd,fun a ha=>ha⟩⟩
         have s:=(a3.gS (o:=.lst (ys++[y])) nq).snoc (OT.sh (H:=bp H q (.lst (ys++[y]))) hd)
         rw [kX]at s
         exact s
      |succ j=>
       obtain⟨q,ys,g1,g2,g3,g4,g5⟩:=ih r n2 (by simpa using h)
       refine⟨q,ys,by simpa using g1,g2,by simp [g3],g4,fun y d hd=> ?_⟩
       obtain⟨B',o1,o2,o3⟩:=g5 y d hd
       refine⟨A1++B',.cons (a.gS fun z=>n3 q z q g3 rfl) o1,eX.mpr ⟨n1,o2,fun x hx y hy e=>n3 x hx y (o3 y hy) e⟩,fun a ha=> ?_⟩
       rcases fv.mp ha with z|z
       ·simp [z]
       ·simp [o3 a z]
  obtain⟨p,xs,B,e1,e2,hA,hx,fp,os⟩:=R.own h3
  refine⟨.ref p,e2,we R h1 fun u H1 s1 R1 d1=> ?_⟩
  have hu:=mQ d1 h2
  subst hu
  obtain⟨p1,xs1,B1,_,e2',hA1,hx1,fp1,os1⟩:=R1.own h3
  rw [e2]at e2'
  cases e2'
  rw [hA]at hA1
  cases hA1
  have ndA:=R1.nd i
  rw [hA]at ndA
  obtain⟨np,ndB⟩:=iO.mp ndA
  obtain⟨q,ys,g1,g2,g3,g4,g5⟩:=child os1 ndB h5
  refine⟨p,xs1,z,.ref q,rfl,rfl,dQ.of hx1,?_,gb g2,we R1 h7 fun y H2 s2 R2 d2=> ?_⟩
  ·unfold L2.atI
   rw [os1.length,h4]
   exact g1
  ·obtain⟨p2,xs2,B2,_,e3',hA2,hx2,fp2,os2⟩:=R2.own h3
   rw [e2]at e3'
   cases e3'
   rw [hA]at hA2
   cases hA2
   obtain⟨q2,ys2,k1,k2,k3,k4,k5⟩:=child os2 ndB h5
   have hxx:xs2=xs1:=by
    have:=s2 _ _ hx1
    rw [hx2]at this
    cases this;rfl
   subst hxx
   rw [g1]at k1
   cases k1
   refine⟨q,ys2,y,rfl,rfl,k2,?_,?_⟩
   ·have:=fm hz
    rw [k4,sizeLine_eq];lia
   ·obtain⟨B',o1,o2,o3⟩:=k5 y d (d2.scal sd F)
    have pq:q≠p:=fun z=>np (by rw [←z];exact g3)
    have hio:∀r a,io=some (r,a)→a≠q:=fun r a w zz=>by
     obtain⟨C',h5⟩:=R2.iok r a w
     by_cases hr:r=i
     ·subst hr
      rw [hA]at h5
      injection h5 with h6 _
      exact pq (zz▸h6.symm)
     ·exact R2.dj r i a hr (R2.Jv w) (by rw [hA,zz];simp [g3])
    have hq0:H₀ q=none:=by
     rcases R2.anew i q (by rw [hA];simp [g3])with⟨r,w⟩|w
     ·exact absurd rfl (hio r q w)
     ·exact w
    have fq:F q=none:=(os2.free q g3).1
    refine po σ _ F (fun j=>if j=i then p::B' else A j) (by simp [hl]) rfl (fun _ _=>rfl) (.refl _) ⟨fun j' u e'=> ?_,fun j' hh=> ?_,fun j'=> ?_,fun j' k' a hjk y1 y2=> ?_,fun b o qq=> ?_,R2.gf,R2.fnew,fun b o y1 y2=> ?_,fun j' a ha=> ?_,fun r a w=> ?_⟩
    ·by_cases hj:j'=i
     ·subst hj
      rw [eE (by rw [hl];exact(j4.mp e2).1)]at e'
      cases e'
      refine⟨.ref p,e2,?_⟩
      rw [aF rfl]
      exact .ow (by rw [ag (Ne.symm pq)];exact hx2) fp2 o1
     ·rw [gK (Ne.symm hj)]at e'
      obtain⟨w,y3,y4⟩:=R2.slot j' u e'
      refine⟨w,y3,?_⟩
      rw [aK hj]
      exact y4.gS fun z=>R2.dj j' i q hj z (by rw [hA];simp [g3])
    ·by_cases hj:j'=i
     ·subst hj;exact absurd (eE (by rw [hl];exact(j4.mp e2).1)) (hh _)
     ·show(if j'=i then p::B' else A j')=[]
      rw [aK hj]
      refine R2.out j' fun u z=>hh u ?_
      rw [gK (Ne.symm hj)];exact z
    ·show(if j'=i then p::B' else A j').Nodup
     split
     ·exact iO.mpr ⟨fun z=>np (o3 p z),o2⟩
     ·exact R2.nd j'
    ·have y1':a∈(if j'=i then p::B' else A j'):=y1
     have y2':a∈(if k'=i then p::B' else A k'):=y2
     have up:∀r,a∈(if r=i then p::B' else A r)→a∈A r:=fun r hr=>by
      split at hr
      ·rename_i e;subst e;rw [hA]
       rcases fY.mp hr with z|z
       ·simp [z]
       ·simp [o3 a z]
      ·exact hr
     exact R2.dj j' k' a hjk (up j' y1') (up k' y2')
    ·rw [ag (aD qq fq)];exact R2.fh _ _ qq
    ·rw [ag (aD y1 hq0)];exact R2.keep b o y1 y2
    ·have ha':a∈(if j'=i then p::B' else A j'):=ha
     split at ha'
     ·rename_i e;subst e
      refine R2.anew j' a ?_
      rw [hA]
      rcases fY.mp ha' with z|z
      ·simp [z]
      ·simp [o3 a z]
     ·exact R2.anew j' a ha'
    ·show∃B2,(if r=i then p::B' else A r)=a::B2
     obtain⟨C',h5⟩:=R2.iok r a w
     split
     ·rename_i e;subst e
      rw [hA]at h5
      injection h5 with h6 _
      exact⟨B',by rw [h6]⟩
     ·exact⟨C',h5⟩
 ·cases e9
end
section
variable{K:W.Frag}{cl:Nat→Option Addr}{Γ:bu}{Δ:gH}{pio:Option Nat}{En:Ends}{σ:St}{H:Hp}
noncomputable def Bb(K:W.Frag):V→List V→Hp→VK→Prop:=fun x vs H Q=>∃l b xs zs,x=.ref l∧vs=[.ref b]∧H l=some (.lst xs)∧RL K H b zs∧xs.length+zs.length≤sizeLine∧Q .non (bp H l (.lst (xs++zs)))
theorem Kz(h:tS K cl Γ Δ pio (.ext i m) En σ H):j5 (CW K "list" (Bb K) (eL i) (bI (tX K cl Γ pio m) fZ)) En σ H:=by
 obtain⟨H₀,G₀,io,F,A,env,n,fl,env',hp,hl,R,e,po⟩:=h
 obtain⟨⟨t,env1⟩,h1,e⟩:=af (show(bL Γ pio m env).bind (fun r=>(jn r.1).bind fun us=>(bw r.2 i).bind fun ts=>if sz (ts.length+us.length)then some (Fl.nx,r.2.set i (some (.ow (ts++us))))else none)=some (fl,env')from e)
 obtain⟨us,hc,e⟩:=af e
 obtain⟨ts,h2,e⟩:=af e
 have hc:jn t=some us:=hc
 have h2:bw env1 i=some ts:=h2
 split at e
 ·rename_i hz
  cases e
  obtain⟨p,xs,_,_,h3,_,h4,_,_⟩:=R.own (yS h1 h2)
  refine⟨.ref p,h3,gb h4,H₀,G₀,io,F,A,env,t,env1,hp,hl,R,h1,fun v H' F' A' B l1 g R' ot nd nw=> ?_⟩
  obtain⟨p',xs',B',h6,h7,hA,hx,fp,os⟩:=R'.own h2
  rw [h3]at h7
  cases h7
  have ndA:=R'.nd i
  rw [hA]at ndA
  obtain⟨np,ndB⟩:=iO.mp ndA
  have dis:∀a∈B,∀j,a∉A' j:=fun a ha j hj=>by
   obtain⟨_,o,h3⟩:=R.at_ (g.aa j a hj)
   rw [nw a ha]at h3;cases h3
  have kids:∃b ys C,v=.ref b∧RL K H' b ys∧OTs K cl F' H' ys us C∧C.Nodup∧∀a∈C,a∈B:=by
   cases ot with
   | @sh _ d dn=>
     cases d with
     |lst ds=>
      cases hc
      cases dn with
      |lst a1 a2=>exact⟨_,_,[],rfl,aC R'.fh a1,OTs.AY a2,List.nodup_nil,by simp⟩
     |_=>cases hc
   |ob _ _ _ _ _ _ _=>cases hc
   | @ow b ys _ C a1 a2 a3=>
     cases hc
     exact⟨b,ys,C,rfl,.of a1,a3,(iO.mp nd).2,fun a ha=>by simp [ha]⟩
  obtain⟨b,ys,C,rfl,hb,oc,nc,cb⟩:=kids
  refine⟨p,b,xs',ys,rfl,rfl,hx,hb,j6 (by rw [os.length,oc.length];exact hz),?_⟩
  refine po σ _ F' _ (by simpa using l1) rfl (fun _ _=>rfl) g.ff (R'.rewrite (xs:=xs') (C:=C) h6 h3 hA (os.app oc) ?_ (fun a ha=>fv.mp ha) fun a ha=>⟨R.new (nw a (cb a ha)),fun z=>dis a (cb a ha) i (by rw [hA,z];simp),dis a (cb a ha)⟩)
  exact eX.mpr ⟨ndB,nc,fun a ha b hb e=>dis b (cb b hb) i (by rw [hA,←e];simp [ha])⟩
 ·cases e
theorem OTs.takes:∀ {xs:List V} {ts:List T} {B:List Addr} {F H:Hp} (k:Nat),OTs K cl F H xs ts B→∃B1 B2,B=B1++B2∧OTs K cl F H (xs.take k) (ts.take k) B1∧OTs K cl F H (xs.drop k) (ts.drop k) B2
 |_,_,_,_,_,0,o=>⟨[],_,rfl,.nil,o⟩
 |_,_,_,_,_,k+1,.nil=>⟨[],[],rfl,.nil,.nil⟩
 |_,_,_,_,_,k+1,.cons (A:=A1) a r=>by
  obtain⟨B1,B2,e,o1,o2⟩:=OTs.takes k r
  exact⟨A1++B1,B2,by rw [e,kW],.cons a o1,o2⟩
theorem Kw(h:tS K cl Γ Δ pio (.ins i k m) En σ H):j5 (CW K "list" ye (eL i) (bI (tV K cl Γ k) (bI (tV K cl Γ m) fZ))) En σ H:=by
 obtain⟨H₀,G₀,io,F,A,env,n,fl,env',hp,hl,R,e,po⟩:=h
 obtain⟨z,h1,e⟩:=af (show((ev Γ k (ae env)).bind g7).bind (fun z=>(ev Γ m (ae env)).bind fun d=>(bw env i).bind fun ts=>if scal d&&decide (0≤z∧z≤ts.length)&&sz ts.length then some (Fl.nx,env.set i (some (.ow (ts.take z.toNat++.sh d::ts.drop z.toNat))))else none)=some (fl,env')from e)
 obtain⟨dk,h1,h2⟩:=af h1
 obtain⟨d,h3,e⟩:=af e
 obtain⟨ts,h4,e⟩:=af e
 split at e
 ·rename_i hz
  obtain⟨hz,h6⟩:=bg hz
  obtain⟨sd,h5⟩:=bg hz
  have h5:=fm h5
  have h6:=fm h6
  cases e
  obtain⟨p,xs,B,e1,e2,hA,hx,fp,os⟩:=R.own h4
  refine⟨.ref p,e2,gb hx,we R h1 fun u H1 s1 R1 d1=>we R1 h3 fun y H2 s2 R2 d2=> ?_⟩
  have hu:=mQ d1 h2
  subst hu
  obtain⟨p',xs',B',_,e2',hA',hx',fp',os'⟩:=R2.own h4
  rw [e2]at e2'
  cases e2'
  rw [hA]at hA'
  cases hA'
  have ndA:=R2.nd i
  rw [hA]at ndA
  obtain⟨np,ndB⟩:=iO.mp ndA
  refine⟨p,xs',z,y,rfl,rfl,hx',h5.1,by rw [os'.length];exact h5.2,by rw [os'.length,sizeLine_eq];lia,?_⟩
  obtain⟨B1,B2,eB,o1,o2⟩:=OTs.takes z.toNat os'
  have o3:=o1.app (OTs.cons (OT.sh (H:=H2) (d2.scal sd F)) o2)
  rw [List.nil_append,←eB]at o3
  exact po σ _ F _ (by simp [hl]) rfl (fun _ _=>rfl) (.refl _) (R2.rewrite (xs:=xs') (C:=[]) e1 e2 hA o3 ndB (fun a ha=> .inl ha) (by simp))
 ·cases e
theorem qz(h:j2 op a b=some d):∃i j k,a=.int i∧b=.int j∧d=.int k∧((op=.Add∧k=i+j)∨(op=.Sub∧k=i-j)):=by
 cases a with
 |int i=>
  cases b with
  |int j=>
   cases op<;>first|(cases h;exact⟨i,j,_,rfl,rfl,rfl,.inl ⟨rfl,rfl⟩⟩)|(cases h;exact⟨i,j,_,rfl,rfl,rfl,.inr ⟨rfl,rfl⟩⟩)|(cases h;done)
  |_=>cases h
 |_=>cases h
noncomputable def MA(op:Operator):Jl:=fun x y H Q=>∃i j k,x=.int i∧y=.int j∧((op=.Add∧k=i+j)∨(op=.Sub∧k=i-j))∧Q (.int k) H
theorem Ie(op:Operator):Mn X op (MA op):=by
 rintro pins s σ H x y v u Q I r1 r2 ⟨i,j,k,e1,e2,h,q⟩
 rcases h with⟨rfl,rfl⟩|⟨rfl,rfl⟩
 ·exact Ic pins s σ H x y v u Q I r1 r2 ⟨i,j,e1,e2,q⟩
 ·exact Ib pins s σ H x y v u Q I r1 r2 ⟨i,j,e1,e2,q⟩
theorem KB(h:tS K cl Γ Δ pio (.aug i op m) En σ H):Kj i (tV K cl Γ m) (MA op) En σ H:=by
 obtain⟨H₀,G₀,io,F,A,env,n,fl,env',hp,hl,R,e,po⟩:=h
 have e':(if di pio env i then(((ae env)[i]?).join).bind fun a=>(ev Γ m (ae env)).bind fun b=>(j2 op a b).map fun d=>(Fl.nx,env.set i (some (.sh d)))else none)=some (fl,env'):=e
 split at e'
 ·rename_i ok
  obtain⟨o1,o2⟩:=dX ok
  obtain⟨a,h1,e'⟩:=af e'
  obtain⟨b,h2,e'⟩:=af e'
  obtain⟨d,h3,e'⟩:=aM e'
  cases e'
  obtain⟨x,y,w,rfl,rfl,rfl,hop⟩:=qz h3
  have h1':(ae env)[i]?=some (some (.int x)):=by
   cases z:(ae env)[i]? with
   |none=>rw [z]at h1;cases h1
   |some o=>rw [z]at h1;rw [show o=some (.int x)from h1]
  obtain⟨v,h4,h5⟩:=R.vY i _ h1'
  cases h5
  refine⟨.int x,h4,we R h2 fun u H1 s1 R1 d1=> ?_⟩
  cases d1
  refine⟨x,y,w,rfl,rfl,hop,?_⟩
  exact po _ _ F _ (by simp [hl]) (by simp) (fun k hk=>AZ hk) (.refl _) (R1.store (hp.ne o1) o2 hl (.sh (.int w)) List.nodup_nil (fun _ _ _ _ z=>by simp at z) (by simp))
 ·cases e'
theorem GR(h:tS K cl Γ Δ pio (.augS i op k m) En σ H):AN (eL i) (tV K cl Γ k) (tV K cl Γ m) (zt K) (MA op) yd En σ H:=by
 obtain⟨H₀,G₀,io,F,A,env,n,fl,env',hp,hl,R,e,po⟩:=h
 obtain⟨z,h1,e⟩:=af (show((ev Γ k (ae env)).bind g7).bind (fun z=>(bw env i).bind fun ts=>(kH ts.length z).bind fun j=>(ts[j]?).bind fun t=>(ev Γ m (ae env)).bind fun b=>(j2 op (strip t) b).map fun d=>(Fl.nx,env.set i (some (.ow (ts.set j (.sh d))))))=some (fl,env')from e)
 obtain⟨dk,h1,h2⟩:=af h1
 obtain⟨ts,h3,e⟩:=af e
 obtain⟨j,h4,e⟩:=af e
 obtain⟨t,h5,e⟩:=af e
 obtain⟨b,h6,e⟩:=af e
 obtain⟨d,h7,e⟩:=aM e
 cases e
 obtain⟨x,y,w,ex,rfl,rfl,hop⟩:=qz h7
 have get:∀ {F H:Hp} {xs:List V} {ts:List T} {B:List Addr} {j:Nat} {t:T},OTs K cl F H xs ts B→aG F H→B.Nodup→ts[j]?=some t→∃v,xs[j]?=some v∧Dn K cl H v (strip t):=by
  intro F H xs
  induction xs with
  |nil=>intro ts B j t o _ _ h;cases o;simp at h
  |cons v xs ih=>
   intro ts B j t o sf nd h
   cases o with
   |cons a r=>
    obtain⟨n1,n2,_⟩:=eX.mp nd
    cases j with
    |zero=>simp at h;subst h;exact⟨v,rfl,a.vY sf n1⟩
    |succ j=>obtain⟨u,g1,g2⟩:=ih r sf n2 (by simpa using h);exact⟨u,by simpa using g1,g2⟩
 obtain⟨p,xs,B,e1,e2,hA,hx,fp,os⟩:=R.own h3
 refine⟨.ref p,e2,we R h1 fun u H1 s1 R1 d1=> ?_⟩
 have hu:=mQ d1 h2
 subst hu
 obtain⟨p',xs',B',_,e2',hA',hx',fp',os'⟩:=R1.own h3
 rw [e2]at e2'
 cases e2'
 rw [hA]at hA'
 cases hA'
 have ndA:=R1.nd i
 rw [hA]at ndA
 obtain⟨np,ndB⟩:=iO.mp ndA
 obtain⟨v,g1,g2⟩:=get os' R1.fh ndB h5
 rw [ex]at g2
 cases g2
 refine⟨p,xs',z,.int x,rfl,rfl,dQ.of hx',by unfold L2.atI;rw [os'.length,h4];exact g1,we R1 h6 fun u2 H2 s2 R2 d2=> ?_⟩
 cases d2
 refine⟨x,y,w,rfl,rfl,hop,?_⟩
 obtain⟨p2,xs2,B2,_,e3',hA2,hx2,fp2,os2⟩:=R2.own h3
 rw [e2]at e3'
 cases e3'
 rw [hA]at hA2
 cases hA2
 refine⟨p,xs2,z,j,rfl,rfl,hx2,by rw [os2.length];exact h4,?_⟩
 obtain⟨B3,o3,n3,sb⟩:=OTs.put (OT.sh (H:=H2) (G:=F) (K:=K) (cl:=cl) (Dn.int w)) j os2 ndB List.nodup_nil (by simp)
 exact po σ _ F _ (by simp [hl]) rfl (fun _ _=>rfl) (.refl _) (R2.rewrite (xs:=xs2) (C:=[]) e1 e2 hA o3 n3 sb (by simp))
end
section
variable{K:W.Frag}{cl:Nat→Option Addr}{Γ:bu}{Δ:gH}{pio:Option Nat}{En:Ends}{σ:St}{H:Hp}
theorem JO{i j:Nat}{m l:E}{Q:V→V→Hp→Prop}(h:∃H₀ G₀ io F A env r q,C8 pio io∧env.length=σ.length∧Rep K cl H₀ G₀ io F A σ env H∧bL Γ pio m env=some r∧bL Γ pio l r.2=some q∧
 ∀v w H' F' A' B C,q.2.length=σ.length→aG F F'→Rep K cl H₀ G₀ io F' A' σ q.2 H'→OT K cl F' H' v r.1 B→OT K cl F' H' w q.1 C→B.Nodup→C.Nodup→(∀a∈B,H₀ a=none∧a∉C∧∀j,a∉A' j)→(∀a∈C,H₀ a=none∧∀j,a∉A' j)→Q v w H'):
 tX K cl Γ pio m σ H fun v H1=>tX K cl Γ pio l σ H1 fun w H2=>Q v w H2:=by
 obtain⟨H₀,G₀,io,F,A,env,⟨t,env1⟩,⟨u,env2⟩,hp,hl,R,h1,h2,q⟩:=h
 refine⟨H₀,G₀,io,F,A,env,t,env1,hp,hl,R,h1,fun v H1 F1 A1 B l1 g R1 ot nd nw=>⟨H₀,G₀,io,F1,A1,env1,u,env2,hp,l1,R1,h2,fun w H2 F2 A2 C l2 g2 R2 ot2 nd2 nw2=> ?_⟩⟩
 have b1:∀a∈B,∀j,a∉A1 j:=fun a ha j hj=>by
  obtain⟨_,o,h3⟩:=R.at_ (g.aa j a hj)
  rw [nw a ha]at h3;cases h3
 have hb:∀a∈B,∃o,H1 a=some o:=fun a ha=>(ot.free a ha).2
 have ot':OT K cl F2 H2 v t B:=ot.move g2.ff (fun a ha=>by
  cases e:F2 a with
  |none=>rfl
  |some o=>
   rcases g2.nw a o e (ot.free a ha).1 with⟨j,z⟩|z
   ·exact absurd z (b1 a ha j)
   ·obtain⟨o',z'⟩:=hb a ha
    rw [z]at z';cases z') fun a _ o q=>g2.hh _ _ q
 refine q v w H2 F2 A2 B C l2 (g.ff.trans g2.ff) R2 ot' ot2 nd nd2 (fun a ha=>⟨R.new (nw a ha),fun z=> ?_,fun j hj=>b1 a ha j (g2.aa j a hj)⟩) fun a ha=>⟨R1.new (nw2 a ha),fun j hj=> ?_⟩
 ·obtain⟨o,z'⟩:=hb a ha
  rw [nw2 a z]at z';cases z'
 ·obtain⟨_,o,h3⟩:=R1.at_ (g2.aa j a hj)
  rw [nw2 a ha]at h3;cases h3
theorem Rep.AS(R:Rep K cl H₀ G₀ io F A σ env H)(hp:C8 pio io)(hi:pio≠some i)(hj:pio≠some j)(li:i<env.length)(lj:j<env.length)(hs:env.length=σ.length)(hij:i≠j)(o1:OT K cl F H v t B)(o2:OT K cl F H w u C)(n1:B.Nodup)(n2:C.Nodup)(d1:∀a∈B,H₀ a=none∧a∉C∧∀j,a∉A j)(d2:∀a∈C,H₀ a=none∧∀j,a∉A j):
 ∃A',Rep K cl H₀ G₀ io F A' ((σ.set i (some v)).set j (some w)) ((env.set i (some t)).set j (some u)) H:=by
 have R1:=R.store (hp.ne hi) li hs o1 n1 (fun k a _ h1 h2=>(d1 a h2).2.2 k h1) fun a ha=>(d1 a ha).1
 exact⟨_,R1.store (hp.ne hj) (by simpa using lj) (by simpa using hs) o2 n2 (fun k a hk h1 h2=>by
  have h1':a∈(if k=i then B else A k):=h1
  split at h1'
  ·exact(d1 a h1').2.1 h2
  ·exact(d2 a h2).2 k h1') fun a ha=>(d2 a ha).1⟩
theorem sS{σ:St}(h:k∉[i,j]):((σ.set i o).set j p)[k]?=σ[k]?:=by
 rw [gK (fun e=>h (by simp [e])),gK (fun e=>h (by simp [e]))]
theorem CM(h:tS K cl Γ Δ pio (.asg2 i j m l) En σ H):tX K cl Γ pio m σ H fun v H1=>tX K cl Γ pio l σ H1 fun w H2=>(∀p,H2 p=none→En.nx ((σ.set i (some v)).set j (some w)) (bp H2 p (.tup [v,w])))∧En.nx ((σ.set i (some v)).set j (some w)) H2:=by
 obtain⟨H₀,G₀,io,F,A,env,n,fl,env',hp,hl,R,e,po⟩:=h
 have e':(if di pio env i&&di pio env j&&decide (i≠j)then(bL Γ pio m env).bind fun r=>(bL Γ pio l r.2).map fun q=>(Fl.nx,(q.2.set i (some r.1)).set j (some q.1))else none)=some (fl,env'):=e
 split at e'
 ·rename_i ok
  obtain⟨ok,hij⟩:=bg ok
  obtain⟨ok1,ok2⟩:=bg ok
  obtain⟨r,h1,e'⟩:=af e'
  obtain⟨q,h2,e'⟩:=aM e'
  cases e'
  refine JO (i:=i) (j:=j) ⟨H₀,G₀,io,F,A,env,r,q,hp,hl,R,h1,h2,fun v w H' F' A' B C l1 sf R' o1 o2 n1 n2 d1 d2=> ?_⟩
  have i1:=(dX ok1).2
  have i2:=(dX ok2).2
  obtain⟨A2,R2⟩:=R'.AS hp (dX ok1).1 (dX ok2).1 (by lia) (by lia) l1 (fm hij) o1 o2 n1 n2 d1 d2
  exact⟨fun p hp'=>po _ _ F' A2 (by simpa using l1) (by simp) (fun k hk=>sS hk) sf (R2.same (aO hp' _)),po _ _ F' A2 (by simpa using l1) (by simp) (fun k hk=>sS hk) sf R2⟩
 ·cases e'
theorem Kv(h:tS K cl Γ Δ pio (.asg2 i j m l) En σ H):Kc i j (bI (tX K cl Γ pio m) (bI (tX K cl Γ pio l) fZ)) En σ H:=by
 have q:=CM h
 obtain⟨H₀,G₀,io,F,A,env,t,env1,hp,hl,R,h1,q⟩:=q
 refine⟨H₀,G₀,io,F,A,env,t,env1,hp,hl,R,h1,fun v H1 F1 A1 B l1 g R1 ot nd nw=> ?_⟩
 obtain⟨H₀',G₀',io',F',A',env',t',env1',hp',hl',R',h1',q'⟩:=q v H1 F1 A1 B l1 g R1 ot nd nw
 exact⟨H₀',G₀',io',F',A',env',t',env1',hp',hl',R',h1',fun w H2 F2 A2 C l2 g2 R2 ot2 nd2 nw2=>⟨v,w,rfl,(q' w H2 F2 A2 C l2 g2 R2 ot2 nd2 nw2).2⟩⟩
theorem GI(h:tS K cl Γ Δ pio (.asg2 i j m l) En σ H):wx (AH (bI (tX K cl Γ pio m) (bI (tX K cl Γ pio l) fZ))) (BY K 2 (lF (fT i) (lF (fT j) B4))) En σ H:=by
 have q:=CM h
 obtain⟨H₀,G₀,io,F,A,env,t,env1,hp,hl,R,h1,q⟩:=q
 refine⟨H₀,G₀,io,F,A,env,t,env1,hp,hl,R,h1,fun v H1 F1 A1 B l1 g R1 ot nd nw=> ?_⟩
 obtain⟨H₀',G₀',io',F',A',env',t',env1',hp',hl',R',h1',q'⟩:=q v H1 F1 A1 B l1 g R1 ot nd nw
 exact⟨H₀',G₀',io',F',A',env',t',env1',hp',hl',R',h1',fun w H2 F2 A2 C l2 g2 R2 ot2 nd2 nw2=>⟨iU,fun p hp=>⟨p,_,rfl,qM.of ak,rfl,v,[w],rfl,w,[],rfl,rfl,(q' w H2 F2 A2 C l2 g2 R2 ot2 nd2 nw2).1 p hp⟩⟩⟩
theorem HW{env:av}(hp:C8 pio io)(hl:env.length=σ.length)(R:Rep K cl H₀ G₀ io F A σ env H)(h:gJ Γ pio m env=some (ds,env')){Q:It→Hp→Prop}(q:∀J H' F' A',env'.length=σ.length→aG F F'→Rep K cl H₀ G₀ io F' A' σ env' H'→(∀(H2 F2:Hp) (k:Nat),aG F' F2→aG F2 H2→(k=ds.length→J.stop k H2)∧∀d,ds[k]?=some d→J.go k H2∧∀v H3,J.yld k H2 v H3→∃F3,Ext H2 F2 H3 F3∧Dn K cl F3 v d)→Q J H'):tI K cl Γ m σ H Q:=by
 unfold gJ at h
 split at h
 ·rename_i hr
  obtain⟨l,h1,h2⟩:=aM h
  cases h2
  refine⟨H,_,ds,.refl _,R.vY,h1,fun J H' G' x wk wr=>q J H' F A hl (.refl _) (R.same x.hh) fun H2 F2 k s1 s2=>wr hr F H2 F2 k s1 s2⟩
 ·obtain⟨env1,h1,h⟩:=af h
  obtain⟨l,h2,h3⟩:=aM h
  cases h3
  obtain⟨F1,A1,R1,l1,g1⟩:=kP hp R h1
  exact⟨F1,_,ds,R1.fh,R1.zj,h2,fun J H' G' x wk _=>q J H' G' A1 (l1.trans hl) (g1.ff.trans x.gg) (R1.ext x) fun H2 F2 k s1 s2=>wk H2 F2 k s1 s2⟩
theorem GP(h:tS K cl Γ Δ pio (.for1 i it b) En σ H):Dj (tI K cl Γ it) (fT i) (tS K cl Γ Δ pio b) En σ H:=by
 obtain⟨H₀,G₀,io,F,A,env,n,fl,env',hp,hl,R,e,po⟩:=h
 have e':(if di pio env i then(gJ Γ pio it env).bind fun r=>forL (fun d e=>ex Γ Δ pio n b (e.set i (some (.sh d)))) r.1 r.2 else none)=some (fl,env'):=e
 split at e'
 ·rename_i ok
  obtain⟨o1,o2⟩:=dX ok
  obtain⟨⟨ds,env1⟩,h1,e'⟩:=af e'
  refine HW hp hl R h1 fun J H1 F1 A1 l1 sf1 R1 wk=> ?_
  refine⟨fun k m σ' H'=>m=ds.length-k∧k≤ds.length∧∃F A e1,aG F1 F∧e1.length=σ'.length∧σ'.length=σ.length∧(∀(x:Nat),x∉i::cZ b→σ'[x]?=σ[x]?)∧Rep K cl H₀ G₀ io F A σ' e1 H'∧forL (fun d e=>ex Γ Δ pio n b (e.set i (some (.sh d)))) (ds.drop k) e1=some (fl,env'),⟨_,rfl,iQ _,F1,A1,env1,.refl _,l1,rfl,fun _ _=>rfl,R1,e'⟩,?_⟩
  rintro k m σ1 H2 ⟨rfl,hk,F2,A2,e1,s2,l2,l3,st,R2,w⟩
  obtain⟨w1,w2⟩:=wk H2 F2 k s2 R2.fh
  by_cases hlt:k<ds.length
  ·obtain⟨g,y⟩:=w2 ds[k] (jV hlt)
   refine .inr ⟨g,fun σ' H'=>∃F A e1,aG F1 F∧e1.length=σ'.length∧σ'.length=σ.length∧(∀(x:Nat),x∉i::cZ b→σ'[x]?=σ[x]?)∧Rep K cl H₀ G₀ io F A σ' e1 H'∧forL (fun d e=>ex Γ Δ pio n b (e.set i (some (.sh d)))) (ds.drop (k+1)) e1=some (fl,env'),fun σ' H' q=>⟨_,by lia,rfl,hlt,q⟩,fun v H3 yl=> ?_⟩
   obtain⟨F3,x3,d3⟩:=y v H3 yl
   have R3:=R2.ext x3
   rw [uE hlt]at w
   obtain⟨⟨fb,eb⟩,h3,h4⟩:=af (show(ex Γ Δ pio n b (e1.set i (some (.sh ds[k])))).bind (fun q=>match q.1 with
    | .nx=>forL (fun d e=>ex Γ Δ pio n b (e.set i (some (.sh d)))) (ds.drop (k+1)) q.2
    | .ct=>forL (fun d e=>ex Γ Δ pio n b (e.set i (some (.sh d)))) (ds.drop (k+1)) q.2
    | .bk=>some (.nx,q.2)
    | .rt t=>some (.rt t,q.2))=some (fl,env')from w)
   have R4:=R3.store (hp.ne o1) (by lia) l2 (.sh d3) List.nodup_nil (fun _ _ _ _ z=>by simp at z) (by simp)
   refine⟨H₀,G₀,io,F3,_,_,n,fb,eb,hp,by simpa using l2,R4,h3,fun σ' H' F' A' l5 l6 st' sf R'=> ?_⟩
   have l7:σ'.length=σ.length:=by rw [l6,sG];exact l3
   have st7:∀(x:Nat),x∉i::cZ b→σ'[x]?=σ[x]?:=fun x hx=>by
    rw [st' x (fun z=>hx (by simp [z])),gK (fun z=>hx (by simp [z])),st x hx]
   cases fb with
   |nx=>exact⟨F',A',eb,(s2.trans x3.gg).trans sf,l5,l7,st7,R',h4⟩
   |ct=>exact⟨F',A',eb,(s2.trans x3.gg).trans sf,l5,l7,st7,R',h4⟩
   |bk=>cases h4;exact po σ' H' F' A' l5 l7 st7 (sf1.trans ((s2.trans x3.gg).trans sf)) R'
   |rt t=>cases h4;exact po σ' H' F' A' l5 l7 st7 (sf1.trans ((s2.trans x3.gg).trans sf)) R'
  ·have e0:k=ds.length:=by lia
   subst e0
   rw [List.drop_length]at w
   cases w
   exact .inl ⟨w1 rfl,po σ1 H2 F2 A2 l2 l3 st (sf1.trans s2) R2⟩
 ·cases e'
noncomputable def mV(Γ:bu)(Δ:gH)(pio:Option Nat)(n i j:Nat)(b:S):D→av→Option (Fl×av):=fun d e=>match d with
 | .tup [x,y]=>ex Γ Δ pio n b ((e.set i (some (.sh x))).set j (some (.sh y)))
 |_=>none
theorem wB(h:mV Γ Δ pio n i j b d e=some r):∃x y,d=.tup [x,y]∧ex Γ Δ pio n b ((e.set i (some (.sh x))).set j (some (.sh y)))=some r:=by
 unfold mV at h
 split at h
 ·exact⟨_,_,rfl,h⟩
 ·cases h
theorem GO(h:tS K cl Γ Δ pio (.for2 i j it b) En σ H):Dj (tI K cl Γ it) (BY K 2 (lF (fT i) (lF (fT j) B4))) (tS K cl Γ Δ pio b) En σ H:=by
 obtain⟨H₀,G₀,io,F,A,env,n,fl,env',hp,hl,R,e,po⟩:=h
 have e':(if di pio env i&&di pio env j&&decide (i≠j)then(gJ Γ pio it env).bind fun r=>forL (mV Γ Δ pio n i j b) r.1 r.2 else none)=some (fl,env'):=e
 split at e'
 ·rename_i ok
  obtain⟨ok,hij⟩:=bg ok
  obtain⟨ok1,ok2⟩:=bg ok
  obtain⟨o1,o2⟩:=dX ok1
  obtain⟨o3,o4⟩:=dX ok2
  have hij:=fm hij
  obtain⟨⟨ds,env1⟩,h1,e'⟩:=af e'
  refine HW hp hl R h1 fun J H1 F1 A1 l1 sf1 R1 wk=> ?_
  refine⟨fun k m σ' H'=>m=ds.length-k∧k≤ds.length∧∃F A e1,aG F1 F∧e1.length=σ'.length∧σ'.length=σ.length∧(∀(x:Nat),x∉i::j::cZ b→σ'[x]?=σ[x]?)∧Rep K cl H₀ G₀ io F A σ' e1 H'∧forL (mV Γ Δ pio n i j b) (ds.drop k) e1=some (fl,env'),⟨_,rfl,iQ _,F1,A1,env1,.refl _,l1,rfl,fun _ _=>rfl,R1,e'⟩,?_⟩
  rintro k m σ1 H2 ⟨rfl,hk,F2,A2,e1,s2,l2,l3,st,R2,w⟩
  obtain⟨w1,w2⟩:=wk H2 F2 k s2 R2.fh
  by_cases hlt:k<ds.length
  ·obtain⟨g,y⟩:=w2 ds[k] (jV hlt)
   refine .inr ⟨g,fun σ' H'=>∃F A e1,aG F1 F∧e1.length=σ'.length∧σ'.length=σ.length∧(∀(x:Nat),x∉i::j::cZ b→σ'[x]?=σ[x]?)∧Rep K cl H₀ G₀ io F A σ' e1 H'∧forL (mV Γ Δ pio n i j b) (ds.drop (k+1)) e1=some (fl,env'),fun σ' H' q=>⟨_,by lia,rfl,hlt,q⟩,fun v H3 yl=> ?_⟩
   obtain⟨F3,x3,d3⟩:=y v H3 yl
   have R3:=R2.ext x3
   rw [uE hlt]at w
   obtain⟨⟨fb,eb⟩,h3,h4⟩:=af (show(mV Γ Δ pio n i j b ds[k] e1).bind (fun q=>match q.1 with
    | .nx=>forL (mV Γ Δ pio n i j b) (ds.drop (k+1)) q.2
    | .ct=>forL (mV Γ Δ pio n i j b) (ds.drop (k+1)) q.2
    | .bk=>some (.nx,q.2)
    | .rt t=>some (.rt t,q.2))=some (fl,env')from w)
   obtain⟨x,y,hd,h3⟩:=wB h3
   rw [hd]at d3
   cases d3 with| @tup p zs _ t1 t2=>
   obtain⟨u1,u2,rfl,du1,du2⟩:=t2.two
   refine⟨p,_,rfl,qM.of (x3.gh _ _ t1),rfl,u1,[u2],rfl,u2,[],rfl,rfl,?_⟩
   obtain⟨A4,R4⟩:=R3.AS hp o1 o3 (by lia) (by lia) l2 hij (.sh du1) (.sh du2) List.nodup_nil List.nodup_nil (by simp) (by simp)
   refine⟨H₀,G₀,io,F3,_,_,n,fb,eb,hp,by simpa using l2,R4,h3,fun σ' H' F' A' l5 l6 st' sf R'=> ?_⟩
   have l7:σ'.length=σ.length:=by rw [l6,sG,sG];exact l3
   have st7:∀(x:Nat),x∉i::j::cZ b→σ'[x]?=σ[x]?:=fun x hx=>by
    rw [st' x (fun z=>hx (by simp [z])),sS (fun z=>hx (by simp at z⊢;rcases z with z|z<;>simp [z])),st x hx]
   cases fb with
   |nx=>exact⟨F',A',eb,(s2.trans x3.gg).trans sf,l5,l7,st7,R',h4⟩
   |ct=>exact⟨F',A',eb,(s2.trans x3.gg).trans sf,l5,l7,st7,R',h4⟩
   |bk=>cases h4;exact po σ' H' F' A' l5 l7 st7 (sf1.trans ((s2.trans x3.gg).trans sf)) R'
   |rt t=>cases h4;exact po σ' H' F' A' l5 l7 st7 (sf1.trans ((s2.trans x3.gg).trans sf)) R'
  ·have e0:k=ds.length:=by lia
   subst e0
   rw [List.drop_length]at w
   cases w
   exact .inl ⟨w1 rfl,po σ1 H2 F2 A2 l2 l3 st (sf1.trans s2) R2⟩
 ·cases e'
end
end MI
end
noncomputable section
namespace L2
open PySem PySem.Spec PyProof.Rows
section
variable{X:Cx}{pos:Pos}
end
end L2
namespace MI
open PySem L2
section
variable{K:W.Frag}{cl:Nat→Option Addr}{Γ:bu}{Δ:gH}{pio:Option Nat}{En:Ends}{σ:St}{H:Hp}
end
inductive spIO(K:W.Frag)(cl:Nat→Option Addr)(k:Nat)(g:List D→Option (T×List D))(vs:List V)(H:Hp)(Q:VK)(E9:XK):Prop where
 |mk (G:Hp) (l:List D) (a:Addr) (xs:List V) (ds:List D) (t:T) (ds':List D):(aG G H)→(vs.length=l.length)→(vs[k]?=some (.ref a))→(l[k]?=some (.lst ds))→(H a=some (.lst xs))→(G a=none)→(Dns K cl G xs ds)→((∀(j:Nat) (v:V) (d:D),j≠k→vs[j]?=some v→l[j]?=some d→Dn K cl G v d))→(g l=some (t,ds'))→(bN t=true)→(ds.all scal=true)→(ds'.all scal=true)→(∀v H' G' xs' B,(∀b o,b≠a→H b=some o→H' b=some o)→aG G G'→aG G' H'→(∀b o,G' b=some o→G b=none→H b=none)→H' a=some (.lst xs')→Dns K cl G' xs' ds'→OT K cl G' H' v t B→B.Nodup→(∀b∈B,H b=none)→Q v H')→spIO K cl k g vs H Q E9
structure GoodIO(X:Cx)(cl:Nat→Option Addr)(x:Str)(k:Nat)(g:List D→Option (T×List D)):Prop where
 ex:∃r fa fd ps,FnOk X.prog X.w X.K X.mg X.base km r fa fd ps (spIO X.K cl k g)∧Room r X.A∧X.mg x=some (.ref fa)∧W.keepIn X.K (.ref fa)=true∧cA X.K fd ps []
section
variable{X:Cx}{cl:Nat→Option Addr}{Γ:bu}{Δ:gH}{pio:Option Nat}{En:Ends}
inductive tIA(K:W.Frag)(cl:Nat→Option Addr)(Γ:bu)(i k:Nat)(args:E)(σ:St)(H:Hp)(Q:List V→Hp→Prop):Prop where
 |mk (G:Hp) (env:Env) (ds:List D) (l:List D) (a:Addr):(aG G H)→(eV K cl G env σ)→(σ[i]?=some (some (.ref a)))→(Jw Γ i ds env k args=some l)→(∀vs H' G',Ext H G H' G'→vs.length=l.length→vs[k]?=some (.ref a)→l[k]?=some (.lst ds)→(∀(j:Nat) (v:V) (d:D),j≠k→vs[j]?=some v→l[j]?=some d→Dn K cl G' v d)→Q vs H')→tIA K cl Γ i k args σ H Q
theorem pS(h:rN m i=true):m=.var i:=by
 cases m with
 |var j=>have:j=i:=by simpa [rN]using h
         rw [this]
 |_=>cases h
theorem FH{f:Expr→Option E}(hv:∀e i,f e=some (.var i)→PE X e (eL i))(ih:∀e m,f e=some m→PE X e (tV X.K cl Γ m)):∀ {k i:Nat} {es:List Expr} {m:E},es.all b5=true→gn f es=some m→PA X es (tIA X.K cl Γ i k m)
 |0,i,[],m,_,h=>by
  cases h
  rintro pos pins s σ H Q I ⟨G,env,ds,l,a,sg,en,hs,e,q⟩
  cases e
 |k+1,i,[],m,_,h=>by
  cases h
  rintro pos pins s σ H Q I ⟨G,env,ds,l,a,sg,en,hs,e,q⟩
  cases e
 |0,i,e::r,m,ok,h=>by
  rw [cK,Bool.and_eq_true]at ok
  obtain⟨ma,h1,h⟩:=af h
  obtain⟨mr,h2,rfl⟩:=aM h
  rintro pos pins s σ H Q I ⟨G,env,ds,l,a,sg,en,hs,e,q⟩
  have e':(if rN ma i then(jM Γ mr env).map fun l=> .lst ds::l else none)=some l:=e
  split at e'
  ·rename_i hi
   have:=pS hi
   subst this
   obtain⟨l',el,rfl⟩:=aM e'
   refine(ay (hv _ i h1) (dH (fun e _ m h=>ih e m h) ok.2 h2) (ah ok.1 _ _)) pos pins s σ H Q I ⟨.ref a,hs,G,env,l',sg,en,el,fun vs H' G' x dv=> ?_⟩
   refine q _ H' G' x (by simp [dv.length]) rfl rfl fun j v d hj h3 h4=> ?_
   cases j with
   |zero=>exact absurd rfl hj
   |succ j=>
    obtain⟨v',h5,h6⟩:=dv.get (i:=j) (d:=d) (by simpa using h4)
    have h3':vs[j]?=some v:=by simpa using h3
    rw [h3']at h5
    cases h5
    exact h6
  ·cases e'
 |k+1,i,e::r,m,ok,h=>by
  rw [cK,Bool.and_eq_true]at ok
  obtain⟨ma,h1,h⟩:=af h
  obtain⟨mr,h2,rfl⟩:=aM h
  rintro pos pins s σ H Q I ⟨G,env,ds,l,a,sg,en,hs,e,q⟩
  obtain⟨x,ex,e⟩:=af (show(ev Γ ma env).bind (fun x=>(Jw Γ i ds env k mr).map fun l=>x::l)=some l from e)
  obtain⟨l',el,rfl⟩:=aM e
  refine(ay (ih _ ma h1) (FH (k:=k) (i:=i) hv ih ok.2 h2) (ah ok.1 _ _)) pos pins s σ H Q I ⟨G,env,x,sg,en,ex,fun v H1 G1 x1 d1=>⟨G1,env,ds,l',a,x1.gh,en.mono x1.gg,hs,el,fun vs H' G' x2 h3 h4 h5 h6=> ?_⟩⟩
  refine q _ H' G' (x1.trans x2) (by simp [h3]) (by simpa using h4) (by simpa using h5) fun j u d hj h7 h8=> ?_
  cases j with
  |zero=>
   have h7':v=u:=by simpa using h7
   have h8':x=d:=by simpa using h8
   subst h7' h8'
   exact d1.mono x2.gg
  |succ j=>exact h6 j u d (fun z=>hj (by rw [z])) (by simpa using h7) (by simpa using h8)
inductive tIOC(K:W.Frag)(cl:Nat→Option Addr)(Γ:bu)(Δ:gH)(pio:Option Nat)(f i:Nat)(args:E)(σ:St)(H:Hp)(Q:VK):Prop where
 |mk (H₀:Hp) (G₀:Hp) (io:Option (Nat×Addr)) (F:Hp) (A:Nat→List Addr) (env:av) (t:T) (env':av):(C8 pio io)→(env.length=σ.length)→(Rep K cl H₀ G₀ io F A σ env H)→(qZ Γ Δ f i args env=some (t,env'))→(∀v H' A' B,env'.length=σ.length→Rep K cl H₀ G₀ io F A' σ env' H'→OT K cl F H' v t B→B.Nodup→(∀a∈B,H₀ a=none∧∀j,a∉A' j)→Q v H')→tIOC K cl Γ Δ pio f i args σ H Q
noncomputable def Ga(H:Hp)(a:Addr):Hp:=fun b=>if b=a then none else H b
theorem CH:aG (Ga H a) H:=fun b o h=>by
 unfold Ga at h
 split at h
 ·cases h
 ·exact h
theorem IW:Ga H a a=none:=by unfold Ga;rw [aF rfl]
theorem IV(h:b≠a):Ga H a b=H b:=by unfold Ga;rw [aK h]
theorem Rep.GH(R:Rep K cl H₀ G₀ io F A σ env H)(hA:A i=p::B):eV K cl (Ga H p) (ae (env.set i none)) σ:=fun j d e=>by
 unfold ae at e
 rw [eK]at e
 by_cases hj:j=i
 ·subst hj
  by_cases hl:j<env.length
  ·rw [eE hl]at e;cases e
  ·rw [List.getElem?_eq_none (by simp;lia)]at e;cases e
 ·rw [gK (Ne.symm hj)]at e
  cases q:env[j]? with
  |none=>rw [q]at e;cases e
  |some o=>
   cases o with
   |none=>rw [q]at e;cases e
   |some t=>
    rw [q]at e
    cases e
    obtain⟨v,h1,h2⟩:=R.slot j t q
    obtain⟨F',fz,dn⟩:=h2.freeze R.fh (R.nd j)
    refine⟨v,h1,dn.mono fun b o z=> ?_⟩
    rw [IV]
    ·exact fz.gh _ _ z
    ·rintro rfl
     have hp:b∈A i:=by rw [hA];simp
     rw [fz.on b (fun w=>R.dj j i b hj w hp)]at z
     rw [(R.at_ hp).1]at z
     cases z
theorem Hk(hg:Gl X x)(hd:(x==("__debug__":Str))=false)(FF:GoodIO X cl x k g)(hf:Δ f=some (k,g))(ha:PA X (e::es) (tIA X.K cl Γ i k m))(ok:(e::es).all b5=true):
 PE X (.Call (.Name x p) (e::es) [] pos) (tIOC X.K cl Γ Δ pio f i m):=by
 obtain⟨r,fa,fd,ps,F1,F2,F3,F4,F5⟩:=FF.ex
 rw [cK,Bool.and_eq_true]at ok
 refine fj (tj F1 F2 hg F3 F4 F5 .nil rC ha hd (ah ok.1 _ _) (cW ok.2 _ _)) fun σ H Q hp9=> ?_
 obtain⟨H₀,G₀,io,F,A,env,t,env',hp,hl,R,h1,q⟩:=hp9
 unfold qZ at h1
 rw [hf]at h1
 have h1':(match env[i]? with
  |some (some (.ow ts))=>(unsh ts).bind fun ds=>if ds.all scal then(Jw Γ i ds (ae (env.set i none)) k m).bind fun l=>(g l).bind fun r=>if bN r.1&&r.2.all scal then some (r.1,env.set i (some (.ow (r.2.map T.sh))))else none else none
  |_=>none)=some (t,env'):=h1
 split at h1'
 ·rename_i ts he
  obtain⟨ds,h2,h9⟩:=af h1'
  have:=jH h2
  subst this
  split at h9
  ·rename_i hs
   obtain⟨l,h3,h9⟩:=af h9
   obtain⟨⟨t1,ds'⟩,h4,h9⟩:=af h9
   split at h9
   ·rename_i hfl
    obtain⟨hfl,hs'⟩:=bg hfl
    cases h9
    obtain⟨a,xs,B,e1,e2,hA,hx,fp,os⟩:=R.own (show bw env i=some _ by unfold bw;rw [he])
    obtain⟨dx,hB⟩:=os.unsh
    subst hB
    refine⟨Ga H a,_,ds,l,a,CH,R.GH hA,e2,h3,fun vs H1 G1 x1 y1 y2 y3 y4=> ?_⟩
    show spIO X.K cl k g (vs++[]) H1 Q E0
    rw [kX]
    have R1:=R.same x1.hh
    have ga:G1 a=none:=by
     cases z:G1 a with
     |none=>rfl
     |some o=>have:=x1.nw a o z IW;rw [hx]at this;cases this
    refine⟨G1,l,a,xs,ds,_,_,x1.gh,y1,y2,y3,x1.hh _ _ hx,ga,dx.scal hs G1,y4,h4,hfl,hs,hs',fun v H' G' xs' B k1 k2 k3 k4 k5 k6 k7 k8 k9=> ?_⟩
    have nB:∀b∈B,∀j,b∉A j:=fun b hb j hj=>by
     obtain⟨_,o,z⟩:=R1.at_ hj
     rw [k9 b hb]at z;cases z
    have fB:∀b∈B,F b=none:=fun b hb=>R1.fh.free (k9 b hb)
    have aA:a∈A i:=by rw [hA];simp
    have nea:∀j b,j≠i→b∈A j→b≠a:=fun j b hj hb z=>R.dj j i b hj hb (by rw [z];exact aA)
    have a0:∀b o,H₀ b=some o→(∀p,io≠some (p,b))→b≠a:=fun b o w1 w2 z=>by
     rcases R.anew i a aA with⟨q,w⟩|w
     ·exact w2 q (by rw [z];exact w)
     ·rw [z,w]at w1;cases w1
    refine q v H' A B (by simp [hl]) ⟨fun j u e'=> ?_,fun j hh=> ?_,R.nd,R.dj,fun b o z=> ?_,R.gf,R.fnew,fun b o z1 z2=> ?_,R.anew,R.iok⟩ (k7.flat hfl fB) k8 fun b hb=>⟨R1.new (k9 b hb),nB b hb⟩
    ·by_cases hj:j=i
     ·subst hj
      rw [eE (by rw [hl];exact(j4.mp e2).1)]at e'
      cases e'
      refine⟨.ref a,e2,?_⟩
      rw [hA]
      exact .ow k5 fp (OTs.AY (k6.scal hs' F))
     ·rw [gK (Ne.symm hj)]at e'
      obtain⟨w,z3,z4⟩:=R1.slot j u e'
      exact⟨w,z3,z4.move (.refl _) (fun b hb=>(z4.free b hb).1) fun b hb o qq=>k1 b o (nea j b hj hb) qq⟩
    ·by_cases hj:j=i
     ·subst hj;exact absurd (eE (by rw [hl];exact(j4.mp e2).1)) (hh _)
     ·refine R.out j fun u z=>hh u ?_
      rw [gK (Ne.symm hj)];exact z
    ·exact k1 b o (aD z fp) (R1.fh _ _ z)
    ·exact k1 b o (a0 b o z1 z2) (R1.keep b o z1 z2)
   ·cases h9
  ·cases h9
 ·cases h1'
end
section
variable{K:W.Frag}{cl:Nat→Option Addr}{Γ:bu}{Δ:gH}{pio:Option Nat}{En:Ends}{σ:St}{H:Hp}
noncomputable def AJ(neg:Bool)(t:TE):TT:=fun σ H Q=>t σ H fun v H1=>∃b,v=.bl b∧Q (b !=neg) H1
theorem GN(h:tS K cl Γ Δ pio (.ifio neg f i args a b) En σ H):GB (AJ neg (tIOC K cl Γ Δ pio f i args)) (tS K cl Γ Δ pio a) (tS K cl Γ Δ pio b) En σ H:=by
 obtain⟨H₀,G₀,io,F,A,env,n,fl,env',hp,hl,R,e,po⟩:=h
 obtain⟨⟨t,env1⟩,h1,h2⟩:=af (show(qZ Γ Δ f i args env).bind (fun r=>match r.1 with
  | .sh (.bl t)=>if(t !=neg)then ex Γ Δ pio n a r.2 else ex Γ Δ pio n b r.2
  |_=>none)=some (fl,env')from e)
 refine⟨H₀,G₀,io,F,A,env,t,env1,hp,hl,R,h1,fun v H' A' B l1 R' ot nd nw=> ?_⟩
 cases t with
 |ow ts=>cases h2
 |ob _ _ _=>cases h2
 |sh d=>
  cases d with
  |bl c=>
   have h2':(if(c !=neg)then ex Γ Δ pio n a env1 else ex Γ Δ pio n b env1)=some (fl,env'):=h2
   cases ot with
   |sh dn=>
    cases dn
    refine⟨c,rfl,?_⟩
    cases hc:(c !=neg)with
    |true=>
     rw [hc]at h2'
     exact nU ⟨H₀,G₀,io,F,A',env1,n,fl,env',hp,l1,R',h2',fun σ' H' F' A' l1 l2 st sf R'=>po σ' H' F' A' l1 l2 (fun k hk=>st k fun z=>hk (by simp [cZ,z])) sf R'⟩
    |false=>
     rw [hc]at h2'
     exact nV ⟨H₀,G₀,io,F,A',env1,n,fl,env',hp,l1,R',h2',fun σ' H' F' A' l1 l2 st sf R'=>po σ' H' F' A' l1 l2 (fun k hk=>st k fun z=>hk (by simp [cZ,z])) sf R'⟩
  |_=>cases h2
end
section
variable{K:W.Frag}{cl:Nat→Option Addr}{H₀ G₀ F H:Hp}{io:Option (Nat×Addr)}{A:Nat→List Addr}{σ:St}{env:av}
theorem OTs.child:∀ {xs:List V} {ts:List T} {B:List Addr} {j:Nat} {t:T},OTs K cl F H xs ts B→B.Nodup→ts[j]?=some t→∃v C,xs[j]?=some v∧OT K cl F H v t C∧C.Nodup∧(∀a∈C,a∈B)∧
 ∀(H':Hp) (t':T) (C':List Addr),(∀a∈B,a∉C→∀o,H a=some o→H' a=some o)→OT K cl F H' v t' C'→C'.Nodup→(∀a∈C',a∈C∨a∉B)→∃B',OTs K cl F H' xs (ts.set j t') B'∧B'.Nodup∧∀a∈B',a∈B∨a∈C'
 |_,_,_,_,_,.nil,_,h=>by simp at h
 |_,_,_,0,t,@OTs.cons _ _ _ _ x t0 xs ts A1 B1 a r,nd,h=>by
  have e:t0=t:=by simpa using h
  subst e
  obtain⟨n1,n2,n3⟩:=eX.mp nd
  refine⟨x,A1,rfl,a,n1,fun b hb=>by simp [hb],fun H' t' C' k o nc sub=>⟨C'++B1,.cons o ?_,?_,fun b hb=> ?_⟩⟩
  ·exact r.move (.refl _) (fun b hb=>(r.free b hb).1) fun b hb u q=>k b (by simp [hb]) (fun z=>n3 b z b hb rfl) u q
  ·refine eX.mpr ⟨nc,n2,fun b hb y hy e=> ?_⟩
   subst e
   rcases sub b hb with z|z
   ·exact n3 b z b hy rfl
   ·exact z (by simp [hy])
  ·rcases fv.mp hb with z|z
   ·exact .inr z
   ·exact .inl (by simp [z])
 |_,_,_,j+1,t,@OTs.cons _ _ _ _ x t0 xs ts A1 B1 a r,nd,h=>by
  obtain⟨n1,n2,n3⟩:=eX.mp nd
  obtain⟨v,C,g1,g2,g3,g4,g5⟩:=OTs.child (j:=j) (t:=t) r n2 (by simpa using h)
  refine⟨v,C,by simpa using g1,g2,g3,fun b hb=>by simp [g4 b hb],fun H' t' C' k o nc sub=> ?_⟩
  obtain⟨B',o1,o2,o3⟩:=g5 H' t' C' (fun b hb nb u q=>k b (by simp [hb]) nb u q) o nc fun b hb=>by
   rcases sub b hb with z|z
   ·exact .inl z
   ·exact .inr fun w=>z (by simp [w])
  refine⟨A1++B',.cons ?_ o1,eX.mpr ⟨n1,o2,fun b hb y hy e=> ?_⟩,fun b hb=> ?_⟩
  ·exact a.move (.refl _) (fun b hb=>(a.free b hb).1) fun b hb u q=>k b (by simp [hb]) (fun z=>n3 b hb b (g4 b z) rfl) u q
  ·subst e
   rcases o3 b hy with z|z
   ·exact n3 b hb b z rfl
   ·rcases sub b z with w|w
    ·exact n3 b hb b (g4 b w) rfl
    ·exact w (by simp [hb])
  ·rcases fv.mp hb with z|z
   ·exact .inl (by simp [z])
   ·rcases o3 b z with w|w
    ·exact .inl (by simp [w])
    ·exact .inr w
theorem Rep.put(R:Rep K cl H₀ G₀ io F A σ env H)(e:env[i]?=some (some t))(hs:σ[i]?=some (some v))(hA:A i=p::C)(hq:q∈A i)(ot:OT K cl F (bp H q o) v t' (p::B'))(nd:(p::B').Nodup)(sub:∀a∈B',a∈C∨(H₀ a=none∧∀j,a∉A j)):Rep K cl H₀ G₀ io F (fun j=>if j=i then p::B' else A j) σ (env.set i (some t')) (bp H q o):=by
 have hi:i<env.length:=(j4.mp e).1
 have fq:F q=none:=(R.at_ hq).1
 have hp:p∈A i:=by rw [hA];simp
 have ne:∀j a,j≠i→a∈A j→a≠q:=fun j a hj ha z=>R.dj j i a hj ha (by rw [z];exact hq)
 have sub':∀a∈p::B',a∈A i∨(H₀ a=none∧∀j,a∉A j):=fun a ha=>by
  rcases fY.mp ha with z|z
  ·rw [z];exact .inl hp
  ·rcases sub a z with w|w
   ·exact .inl (by rw [hA];simp [w])
   ·exact .inr w
 have one:∀j a,j≠i→a∈A j→a∈p::B'→False:=fun j a hj h3 h4=>by
  rcases sub' a h4 with z|z
  ·exact R.dj j i a hj h3 z
  ·exact z.2 j h3
 refine⟨fun j u e'=> ?_,fun j h=> ?_,fun j=> ?_,fun j k a hjk h1 h2=> ?_,fun b u w=> ?_,R.gf,R.fnew,fun b u h1 h2=> ?_,fun j a ha=> ?_,fun r a h=> ?_⟩
 ·by_cases hj:j=i
  ·subst hj
   rw [eE hi]at e'
   cases e'
   exact⟨_,hs,by rw [aF rfl];exact ot⟩
  ·rw [gK (Ne.symm hj)]at e'
   obtain⟨w,h3,h4⟩:=R.slot j u e'
   refine⟨w,h3,?_⟩
   rw [aK hj]
   exact h4.move (.refl _) (fun a ha=>(h4.free a ha).1) fun a ha o q=>by rw [ag (ne j a hj ha)];exact q
 ·by_cases hj:j=i
  ·subst hj;exact absurd (eE hi) (h _)
  ·show(if j=i then p::B' else A j)=[]
   rw [aK hj]
   refine R.out j fun u z=>h u ?_
   rw [gK (Ne.symm hj)];exact z
 ·show(if j=i then p::B' else A j).Nodup
  split
  ·exact nd
  ·exact R.nd j
 ·have h1':a∈(if j=i then p::B' else A j):=h1
  have h2':a∈(if k=i then p::B' else A k):=h2
  by_cases e1:j=i
  ·rw [aF e1]at h1'
   rw [aK (fun z=>hjk (e1.trans z.symm))]at h2'
   exact one k a (fun z=>hjk (e1.trans z.symm)) h2' h1'
  ·rw [aK e1]at h1'
   by_cases e2:k=i
   ·rw [aF e2]at h2'
    exact one j a e1 h1' h2'
   ·rw [aK e2]at h2'
    exact R.dj j k a hjk h1' h2'
 ·rw [ag (aD w fq)];exact R.fh _ _ w
 ·rw [ag]
  ·exact R.keep b u h1 h2
  ·rintro rfl
   rcases R.anew i b hq with⟨r,z⟩|z
   ·exact h2 r z
   ·rw [z]at h1;cases h1
 ·have ha':a∈(if j=i then p::B' else A j):=ha
  split at ha'
  ·rcases sub' a ha' with z|z
   ·exact R.anew i a z
   ·exact .inr z.1
  ·exact R.anew j a ha'
 ·show∃B,(if r=i then p::B' else A r)=a::B
  obtain⟨C',h5⟩:=R.iok r a h
  split
  ·rename_i hr
   subst hr
   rw [hA]at h5
   injection h5 with h6 _
   exact⟨B',by rw [h6]⟩
  ·exact⟨C',h5⟩
theorem yx(h:cm env i=some o):env[i]?=some (some (.ob o.1 o.2.1 o.2.2)):=by
 unfold cm at h
 split at h
 ·rename_i e;cases h;exact e
 ·cases h
inductive ObjI(K:W.Frag)(cl:Nat→Option Addr)(F:Hp)(A:Nat→List Addr)(σ:St)(env:av)(H:Hp)(i:Nat)(o:Nat×List Str×List T):Prop where
 |mk (a C dx:Addr) (vfs:List (Str×V)) (B:List Addr):env[i]?=some (some (.ob o.1 o.2.1 o.2.2))→σ[i]?=some (some (.ref a))→A i=a::dx::B→H a=some (.ins C dx vfs)→H dx=some (.own a)→cl o.1=some C→vfs.map (·.1)=o.2.1→F a=none→F dx=none→OTs K cl F H (vfs.map (·.2)) o.2.2 B→ObjI K cl F A σ env H i o
theorem Rep.obj(R:Rep K cl H₀ G₀ io F A σ env H)(h:cm env i=some o):ObjI K cl F A σ env H i o:=by
 have e:=yx h
 obtain⟨v,h1,ot⟩:=R.slot i _ e
 generalize hA:A i=B at ot
 cases ot with
 |ob a1 a2 a3 a4 a5 a6 a7=>exact⟨_,_,_,_,_,e,h1,hA,a1,a2,a3,a4,a5,a6,a7⟩
theorem pZ:∀ {vfs:List (Str×V)} {j:Nat} {v:V},cg (vfs.map (·.1)) f=some j→(vfs.map (·.2))[j]?=some v→vfs.lookup f=some v
 |[],_,_,h,_=>by cases h
 |(k,u)::r,j,v,h,g=>by
  rw [lV]at h
  unfold cg at h
  rw [sF]
  split at h
  ·rename_i e
   have e:k=f:=by simpa using e
   subst e
   cases h
   have g':u=v:=by simpa using g
   subst g'
   simp
  ·rename_i e
   obtain⟨j',h',rfl⟩:=aM h
   have ne:(f==k)=false:=by
    cases z:f==k with
    |false=>rfl
    |true=>exact absurd (by rw [show f=k by simpa using z];simp) e
   rw [ne]
   exact pZ h' (by simpa using g)
inductive FldI(K:W.Frag)(cl:Nat→Option Addr)(H₀ G₀:Hp)(io:Option (Nat×Addr))(F:Hp)(A:Nat→List Addr)(σ:St)(env:av)(H:Hp)(i:Nat)(f:Str)(o:Nat×List Str×List T)(ju:Nat×List T):Prop where
 |mk (a C dx:Addr) (vfs:List (Str×V)) (r:Addr) (ys:List V) (Cs:List Addr):σ[i]?=some (some (.ref a))→H a=some (.ins C dx vfs)→cl o.1=some C→vfs.lookup f=some (.ref r)→H r=some (.lst ys)→F r=none→r∉Cs→Cs.Nodup→(∀b∈r::Cs,b∈A i)→OTs K cl F H ys ju.2 Cs→
  (∀(q:Addr) (u:HO) (us':List T) (ys':List V) (B':List Addr),q∈r::Cs→bp H q u r=some (.lst ys')→OTs K cl F (bp H q u) ys' us' B'→(r::B').Nodup→(∀b∈B',b∈Cs∨(H₀ b=none∧∀j,b∉A j))→∃A',Rep K cl H₀ G₀ io F A' σ (env.set i (some (.ob o.1 o.2.1 (o.2.2.set ju.1 (.ow us'))))) (bp H q u))→FldI K cl H₀ G₀ io F A σ env H i f o ju
theorem Rep.fld(R:Rep K cl H₀ G₀ io F A σ env H)(h:cm env i=some o)(hf:cR f o=some ju):FldI K cl H₀ G₀ io F A σ env H i f o ju:=by
 obtain⟨a,C,dx,vfs,B,e,hs,hA,h1,h2,h3,h4,h5,h6,os⟩:=R.obj h
 unfold cR at hf
 obtain⟨j,hj,hf⟩:=af hf
 obtain⟨t,ht,hf⟩:=af hf
 obtain⟨us,hu,hf⟩:=aM hf
 subst hf
 have ht':=tQ hu
 subst ht'
 have ndA:=R.nd i
 rw [hA]at ndA
 obtain⟨na,nd1⟩:=iO.mp ndA
 obtain⟨nx,ndB⟩:=iO.mp nd1
 obtain⟨v,Cv,g1,g2,g3,g4,g5⟩:=os.child ndB ht
 rw [←h4]at hj
 have lk:=pZ hj g1
 cases g2 with
 | @ow r ys _ Cs b1 b2 b3=>
   obtain⟨nr,nC⟩:=iO.mp g3
   have inB:∀b∈r::Cs,b∈B:=g4
   refine⟨a,C,dx,vfs,r,ys,Cs,hs,h1,h3,lk,b1,b2,nr,nC,fun b hb=>by rw [hA];simp [inB b hb],b3,fun q u us' ys' B' hq hr ot nd sub=> ?_⟩
   have qB:q∈B:=inB q hq
   have qa:a≠q:=fun z=>na (by rw [z];simp [qB])
   have qx:dx≠q:=fun z=>nx (by rw [z];exact qB)
   have nb:∀b∈r::B',b∈r::Cs∨(H₀ b=none∧∀j,b∉A j):=fun b hb=>by
    rcases fY.mp hb with z|z
    ·exact .inl (by simp [z])
    ·rcases sub b z with w|w
     ·exact .inl (by simp [w])
     ·exact .inr w
   obtain⟨B2,o1,o2,o3⟩:=g5 (bp H q u) (.ow us') (r::B') (fun b hb n w hw=>by rw [ag (fun z=>n (by rw [z];exact hq))];exact hw) (.ow hr b2 ot) nd fun b hb=>by
    rcases nb b hb with z|z
    ·exact .inl z
    ·exact .inr fun w=>z.2 i (by rw [hA];simp [w])
   have inA:∀b∈B2,b∈B∨(H₀ b=none∧∀j,b∉A j):=fun b hb=>by
    rcases o3 b hb with z|z
    ·exact .inl z
    ·rcases nb b z with w|w
     ·exact .inl (inB b w)
     ·exact .inr w
   have na2:a∉B2:=fun z=>by
    rcases inA a z with w|w
    ·exact na (by simp [w])
    ·exact w.2 i (by rw [hA];simp)
   have nx2:dx∉B2:=fun z=>by
    rcases inA dx z with w|w
    ·exact nx w
    ·exact w.2 i (by rw [hA];simp)
   refine⟨_,R.put (p:=a) (C:=dx::B) (B':=dx::B2) e hs hA (by rw [hA];simp [qB]) (.ob (by rw [ag qa];exact h1) (by rw [ag qx];exact h2) h3 h4 h5 h6 o1) ?_ fun b hb=> ?_⟩
   ·refine iO.mpr ⟨fun z=> ?_,iO.mpr ⟨nx2,o2⟩⟩
    rcases fY.mp z with w|w
    ·exact na (by rw [w];simp)
    ·exact na2 w
   ·rcases fY.mp hb with z|z
    ·exact .inl (by simp [z])
    ·rcases inA b z with w|w
     ·exact .inl (by simp [w])
     ·exact .inr w
theorem mL:∀ {l:List Nat} {env env':av} {i:Nat} {o:Nat×List Str×List T},frz pio env l=some env'→cm env' i=some o→cm env i=some o
 |[],_,_,_,_,h,o=>by cases h;exact o
 |j::r,env,env',i,ts,h,o=>by
  have step:∀ {d:D},cm (env.set j (some (.sh d))) i=some ts→cm env i=some ts:=fun {d} z=>by
   have e:=yx z
   by_cases hij:j=i
   ·subst hij
    by_cases hl:j<env.length
    ·rw [eE hl]at e;cases e
    ·rw [List.getElem?_eq_none (by simp;lia)]at e;cases e
   ·rw [gK hij]at e
    unfold cm;rw [e]
  unfold frz at h
  split at h
  ·split at h
   ·cases h
   ·exact step (mL h o)
  ·split at h
   ·cases h
   ·exact step (mL h o)
  ·exact mL h o
theorem Iq(h:bL Γ pio m env=some (t,env1))(o:cm env1 i=some ts):cm env i=some ts:=by
 cases hc:dg m with
 |true=>
  cases m with
  |call f args=>
   rw [jk]at h
   obtain⟨g,_,h⟩:=af h
   obtain⟨l,_,h⟩:=af h
   obtain⟨t1,_,h⟩:=af h
   split at h
   ·cases h;exact o
   ·obtain⟨e1,ef,h⟩:=af h
    obtain⟨l',_,h⟩:=af h
    obtain⟨t2,_,h⟩:=aM h
    cases h
    exact mL ef o
  |_=>cases hc
 |false=>
  rw [dm hc]at h
  obtain⟨d,_,h⟩:=af h
  split at h
  ·cases h;exact o
  ·split at h
   ·obtain⟨ds,_,h⟩:=af h
    split at h
    ·cases h;exact o
    ·obtain⟨e1,ef,h⟩:=af h
     obtain⟨_,_,h⟩:=aM h
     cases h
     exact mL ef o
   ·obtain⟨e1,ef,h⟩:=af h
    obtain⟨_,_,h⟩:=aM h
    cases h
    exact mL ef o
end
section
variable{K:W.Frag}{cl:Nat→Option Addr}{Γ:bu}{Δ:gH}{pio:Option Nat}{En:Ends}{σ:St}{H:Hp}
theorem uY:∀ {fs:List (Str×V)},f∉fs.map (·.1)→ig f v fs=fs++[(f,v)]
 |[],_=>rfl
 |(k,x)::r,h=>by
  rw [lV,fY,not_or]at h
  rw [show ig f v ((k,x)::r)=(if k=f then(k,v)::r else(k,x)::ig f v r)from rfl,aK (fun z=>h.1 z.symm),uY h.2];rfl
theorem Ky(hc:gw K cl)(hf:vV.contains f=true)(h:tS K cl Γ Δ pio (.fst i f m) En σ H):KD K (eL i) (tX K cl Γ pio m) f En σ H:=by
 obtain⟨H₀,G₀,io,F,A,env,n,fl,env',hp,hl,R,e,po⟩:=h
 obtain⟨⟨t,env1⟩,h1,e⟩:=af (show(bL Γ pio m env).bind (fun r=>(cm r.2 i).bind fun o=>if !o.2.1.contains f&&decide (o.2.1.length<1000)then some (Fl.nx,r.2.set i (some (.ob o.1 (o.2.1++[f]) (o.2.2++[r.1]))))else none)=some (fl,env')from e)
 obtain⟨o,h2,e⟩:=af e
 split at e
 ·rename_i hz
  obtain⟨nk,hlt⟩:=bg hz
  cases e
  refine⟨H₀,G₀,io,F,A,env,t,env1,hp,hl,R,h1,fun v H' F' A' B l1 g R' ot nd nw=> ?_⟩
  obtain⟨a,C,dx,vfs,B0,e1,hs,hA,g1,g2,g3,g4,g5,g6,os⟩:=R'.obj h2
  obtain⟨c1,c2,_⟩:=hc.1 _ C g3
  have nkm:f∉vfs.map (·.1):=by
   rw [g4]
   intro z
   rw [sH.mpr z]at nk
   cases nk
  have dis:∀b∈B,∀j,b∉A' j:=fun b hb j hj=>by
   obtain⟨_,o,h3⟩:=R.at_ (g.aa j b hj)
   rw [nw b hb]at h3;cases h3
  have ndA:=R'.nd i
  rw [hA]at ndA
  obtain⟨na,nd1⟩:=iO.mp ndA
  obtain⟨nx,ndB⟩:=iO.mp nd1
  have aB:a∉B:=fun z=>dis a z i (by rw [hA];simp)
  have ax:dx∉B:=fun z=>dis dx z i (by rw [hA];simp)
  have aB0:a∉B0:=fun z=>na (by simp [z])
  have adx:dx≠a:=fun z=>na (by rw [z];simp)
  refine⟨.ref a,hs,a,C,dx,vfs,rfl,g1,c1,c2 f (sH.mp hf),?_,?_⟩
  ·have:=fm hlt
   rw [←g4,b9]at this;exact this
  ·rw [uY nkm]
   refine po σ _ F' _ (by simpa using l1) rfl (fun _ _=>rfl) g.ff (R'.put (p:=a) (q:=a) (C:=dx::B0) (B':=dx::(B0++B)) e1 hs hA (by rw [hA];simp) (.ob (ks:=o.2.1++[f]) (ts:=o.2.2++[t]) ak (by rw [ag adx];exact g2) g3 (by rw [oI,g4];rfl) g5 g6 ?_) ?_ fun b hb=> ?_)
   ·rw [oI]
    exact(os.gS aB0).snoc (ot.gS aB)
   ·refine iO.mpr ⟨fun z=> ?_,iO.mpr ⟨fun z=> ?_,eX.mpr ⟨ndB,nd,fun b hb y hy e=>dis y hy i (by rw [hA,←e];simp [hb])⟩⟩⟩
    ·rcases fY.mp z with w|w
     ·exact adx w.symm
     ·rcases fv.mp w with w|w
      ·exact aB0 w
      ·exact aB w
    ·rcases fv.mp z with w|w
     ·exact nx w
     ·exact ax w
   ·rcases fY.mp hb with z|z
    ·exact .inl (by simp [z])
    ·rcases fv.mp z with w|w
     ·exact .inl (by simp [w])
     ·exact .inr ⟨R.new (nw b w),dis b w⟩
 ·cases e
theorem GU(hc:gw K cl)(hf:vV.contains f=true)(h:tS K cl Γ Δ pio (.appF i f m) En σ H):j5 (CW K "list" jI (AL K (eL i) f) (bI (tX K cl Γ pio m) fZ)) En σ H:=by
 obtain⟨H₀,G₀,io,F,A,env,n,fl,env',hp,hl,R,e,po⟩:=h
 obtain⟨⟨t,env1⟩,h1,e⟩:=af (show(bL Γ pio m env).bind (fun r=>(cm r.2 i).bind fun o=>(cR f o).bind fun ju=>if sz ju.2.length then some (Fl.nx,r.2.set i (some (.ob o.1 o.2.1 (o.2.2.set ju.1 (.ow (ju.2++[r.1]))))))else none)=some (fl,env')from e)
 obtain⟨o,h2,e⟩:=af e
 obtain⟨ju,h3,e⟩:=af e
 split at e
 ·rename_i hz
  cases e
  obtain⟨a,C,dx,vfs,r,ys,Cs,hs,g1,g3,lk,hr,fr,nr,nC,inA,os,_⟩:=R.fld (Iq h1 h2) h3
  obtain⟨c1,c2,_⟩:=hc.1 _ C g3
  refine⟨.ref a,hs,a,C,dx,vfs,.ref r,rfl,g1,c1,c2 f (sH.mp hf),lk,gb hr,H₀,G₀,io,F,A,env,t,env1,hp,hl,R,h1,fun v H' F' A' B l1 g R' ot nd nw=> ?_⟩
  obtain⟨a',C',dx',vfs',r',ys',Cs',hs',g1',g3',lk',hr',fr',nr',nC',inA',os',fin⟩:=R'.fld h2 h3
  rw [hs]at hs'
  cases hs'
  rw [g.hh _ _ g1]at g1'
  cases g1'
  rw [lk]at lk'
  cases lk'
  have dis:∀b∈B,∀j,b∉A' j:=fun b hb j hj=>by
   obtain⟨_,o,h3⟩:=R.at_ (g.aa j b hj)
   rw [nw b hb]at h3;cases h3
  have rB:r∉B:=fun z=>dis r z i (inA' r (by simp))
  refine⟨r,ys',v,rfl,rfl,hr',?_,?_⟩
  ·have:=fm hz
   rw [os'.length,sizeLine_eq];lia
  ·obtain⟨A2,R2⟩:=fin r (.lst (ys'++[v])) (ju.2++[t]) (ys'++[v]) (Cs'++B) (by simp) ak ((os'.gS nr').snoc (ot.gS rB)) (iO.mpr ⟨fun z=>by
    rcases fv.mp z with w|w
    ·exact nr' w
    ·exact rB w,eX.mpr ⟨nC',nd,fun b hb y hy e=>dis y hy i (by rw [←e];exact inA' b (by simp [hb]))⟩⟩) fun b hb=>by
    rcases fv.mp hb with w|w
    ·exact .inl w
    ·exact .inr ⟨R.new (nw b w),dis b w⟩
   exact po σ _ F' A2 (by simpa using l1) rfl (fun _ _=>rfl) g.ff R2
 ·cases e
theorem OTs.init:∀ {xs:List V} {ts:List T} {B:List Addr} {F H:Hp},OTs K cl F H xs ts B→B.Nodup→∃B',OTs K cl F H xs.dropLast ts.dropLast B'∧B'.Nodup∧∀a∈B',a∈B:=by
 intro xs ts B F H o nd
 obtain⟨B1,B2,rfl,o1,_⟩:=OTs.takes (xs.length-1) o
 obtain⟨n1,_,_⟩:=eX.mp nd
 exact⟨B1,by rw [List.dropLast_eq_take,List.dropLast_eq_take,←o.length];exact o1,n1,fun a ha=>by simp [ha]⟩
theorem GM(hc:gw K cl)(hf:vV.contains f=true)(h:tS K cl Γ Δ pio (.popF i f) En σ H):j5 (Ki K "list" KH (AL K (eL i) f)) En σ H:=by
 obtain⟨H₀,G₀,io,F,A,env,n,fl,env',hp,hl,R,e,po⟩:=h
 obtain⟨o,h2,e⟩:=af (show(cm env i).bind (fun o=>(cR f o).bind fun ju=>if ju.2.isEmpty then none else some (Fl.nx,env.set i (some (.ob o.1 o.2.1 (o.2.2.set ju.1 (.ow ju.2.dropLast))))))=some (fl,env')from e)
 obtain⟨ju,h3,e⟩:=af e
 split at e
 ·cases e
 ·rename_i hz
  cases e
  obtain⟨a,C,dx,vfs,r,ys,Cs,hs,g1,g3,lk,hr,fr,nr,nC,inA,os,fin⟩:=R.fld h2 h3
  obtain⟨c1,c2,_⟩:=hc.1 _ C g3
  have hl0:0<ys.length:=by
   rw [os.length]
   cases z:ju.2 with
   |nil=>rw [z]at hz;exact absurd rfl hz
   |cons _ _=>simp
  obtain⟨B',o1,o2,o3⟩:=os.init nC
  obtain⟨A2,R2⟩:=fin r (.lst ys.dropLast) ju.2.dropLast ys.dropLast B' (by simp) ak (o1.gS fun z=>nr (o3 r z)) (iO.mpr ⟨fun z=>nr (o3 r z),o2⟩) fun b hb=> .inl (o3 b hb)
  exact⟨.ref a,hs,a,C,dx,vfs,.ref r,rfl,g1,c1,c2 f (sH.mp hf),lk,gb hr,r,ys,ys[ys.length-1]'(by lia),rfl,rfl,hr,jV _,po σ _ F A2 (by simpa using hl) rfl (fun _ _=>rfl) (.refl _) R2⟩
theorem Dy(hc:gw K cl)(hf:vV.contains f=true)(h:tS K cl Γ Δ pio (.appFA i f k m) En σ H):j5 (CW K "list" jI (Fz (zt K) (AL K (eL i) f) (tV K cl Γ k)) (bI (tV K cl Γ m) fZ)) En σ H:=by
 obtain⟨H₀,G₀,io,F,A,env,n,fl,env',hp,hl,R,e,po⟩:=h
 obtain⟨o,h2,e⟩:=af (show(cm env i).bind (fun o=>(cR f o).bind fun ju=>((ev Γ k (ae env)).bind g7).bind fun z=>(kH ju.2.length z).bind fun l=>(ju.2[l]?).bind fun t=>(pU t).bind fun us=>(ev Γ m (ae env)).bind fun d=>if scal d&&sz us.length then some (Fl.nx,env.set i (some (.ob o.1 o.2.1 (o.2.2.set ju.1 (.ow (ju.2.set l (.ow (us++[.sh d]))))))))else none)=some (fl,env')from e)
 obtain⟨ju,h3,e⟩:=af e
 obtain⟨z,h4,e⟩:=af e
 obtain⟨dk,h4,h5⟩:=af h4
 obtain⟨l,h6,e⟩:=af e
 obtain⟨t,h7,e⟩:=af e
 obtain⟨us,h8,e⟩:=af e
 obtain⟨d,h9,e9⟩:=af e
 have ht:=tQ h8
 subst ht
 split at e9
 ·rename_i hz
  obtain⟨sd,hz⟩:=bg hz
  cases e9
  obtain⟨a,C,dx,vfs,r,ys,Cs,hs,g1,g3,lk,hr,_,_,_,_,os0,_⟩:=R.fld h2 h3
  obtain⟨c1,c2,_⟩:=hc.1 _ C g3
  refine⟨.ref a,hs,a,C,dx,vfs,.ref r,rfl,g1,c1,c2 f (sH.mp hf),lk,we R h4 fun u H1 s1 R1 d1=> ?_⟩
  have hu:=mQ d1 h5
  subst hu
  obtain⟨q,C0,q1,q2,_⟩:∃q C0,ys[l]?=some (.ref q)∧OT K cl F H (.ref q) (.ow us) C0∧True:=by
   obtain⟨v,C0,w1,w2,_⟩:=os0.child (by assumption) h7
   cases w2 with
   |ow b1 b2 b3=>exact⟨_,_,w1,.ow b1 b2 b3,trivial⟩
  refine⟨r,ys,z,.ref q,rfl,rfl,dQ.of (s1 _ _ hr),?_,?_,?_⟩
  ·unfold atI;rw [show kH ys.length z=some l by rw [os0.length];exact h6];exact q1
  ·cases q2 with
   |ow b1 _ _=>exact gb (s1 _ _ b1)
  ·refine we R1 h9 fun y H2 s2 R2 d2=> ?_
   obtain⟨a',C',dx',vfs',r',ys',Cs',hs',g1',g3',lk',hr',fr',nr',nC',inA',os',fin⟩:=R2.fld h2 h3
   rw [hs]at hs'
   cases hs'
   rw [s2 _ _ (s1 _ _ g1)]at g1'
   cases g1'
   rw [lk]at lk'
   cases lk'
   rw [s2 _ _ (s1 _ _ hr)]at hr'
   cases hr'
   obtain⟨v,Cq,w1,w2,w3,w4,w5⟩:=os'.child nC' h7
   rw [q1]at w1
   cases w1
   cases w2 with
   | @ow _ zs _ Cz b1 b2 b3=>
     obtain⟨nq,nz⟩:=iO.mp w3
     refine⟨q,zs,y,rfl,rfl,b1,?_,?_⟩
     ·have:=fm hz
      rw [b3.length,sizeLine_eq];lia
     ·have sn:=(b3.gS (o:=.lst (zs++[y])) nq).snoc (OT.sh (H:=bp H2 q (.lst (zs++[y]))) (d2.scal sd F))
      rw [kX]at sn
      obtain⟨B',o1,o2,o3⟩:=w5 (bp H2 q (.lst (zs++[y]))) (.ow (us++[.sh d])) (q::Cz) (fun b _ n w hw=>by rw [ag (fun z=>n (by rw [z];simp))];exact hw) (.ow ak b2 sn) w3 fun b hb=> .inl hb
      have o3':∀b∈B',b∈Cs':=fun b hb=>by
       rcases o3 b hb with w|w
       ·exact w
       ·exact w4 b w
      have rq:r≠q:=fun z=>nr' (by rw [z];exact w4 q (by simp))
      obtain⟨A2,R3⟩:=fin q (.lst (zs++[y])) _ ys B' (by simp [w4 q (by simp)]) (by rw [ag rq];exact s2 _ _ (s1 _ _ hr)) o1 (iO.mpr ⟨fun z=>nr' (o3' r z),o2⟩) fun b hb=> .inl (o3' b hb)
      exact po σ _ F A2 (by simpa using hl) rfl (fun _ _=>rfl) (.refl _) R3
 ·cases e9
end
section
variable{X:Cx}{cl:Nat→Option Addr}{Γ:bu}{c:CC}
theorem lg(S:Sees X cl c Γ aQ N sc)(h:cE c n aQ N sc e=some (.var i)):PE X e (eL i):=by
 cases n with
 |zero=>cases h
 |succ n=>
  have hh:=uo h
  cases e
  case Name x pos=>
   replace h:IL c N sc x=some (.var i):=h
   unfold IL at h
   split at h
   ·rename_i ok
    obtain⟨n1,n2,n3⟩:=ik ok
    split at h
    ·rename_i j hi
     cases h
     have hN:=cG hi
     exact wL (i:=i) (by rw [S.hN];exact hN) (S.vis i _ hN) n1 n2
    ·split at h
     ·obtain⟨_,_,h⟩:=aM h;cases h
     ·cases h
   ·cases h
  all_goals cases hh
theorem CB(hΓ:∀x f,c.tab.lookup x=some f→∃g,Γ f=some g){x:Str}(S:Sees X cl c Γ true N sc)(h:cE c n true N sc (.ListComp elt [⟨.Name x px,iter,ifs,0⟩] scope pos)=some m):
 ∃fr is mi me mc tt,m=.comp me is mi mc∧CompScope sc N scope x fr is∧PI X (.Name x px) iter (tI X.K cl Γ mi)∧(∀C s H fp pins,JB (aS X scope (x::fr) C s H fp pins) ifs tt)∧(∀C s H fp pins,PE (aS X scope (x::fr) C s H fp pins) elt (tV X.K cl Γ me))∧
  (∀σ H (Q:Bool→Hp→Prop),(∃G env b,aG G H∧eV X.K cl G env σ∧cS mc (ev Γ mc env)=some b∧∀H' G',Ext H G H' G'→Q b H')→tt σ H Q)∧(∀v,foldedSetIterable iter X.env v=pure v):=by
 cases n with
 |zero=>cases h
 |succ n=>
  have ih1:∀e m,cE c n true N sc e=some m→PE X e (tV X.K cl Γ m):=fun e m h=>(dR hΓ n true N sc e m X S h).1
  have h':(if b5 iter then(lu N (bK scope.names)).bind fun is=>if qh sc N scope x (bK scope.names) is then
   (cI false (gZ N sc) (fun y=>(c.tab.lookup y).isSome) (cE c n true N sc) iter).bind fun mi=>
   (cE c n false (x::bK scope.names) scope elt).bind fun me=>(LX (cE c n false (x::bK scope.names) scope) ifs).map fun mc=> .comp me is mi mc
   else none else none)=some m:=h
  split at h'
  ·rename_i oi
   obtain⟨is,h1,h⟩:=af h'
   split at h
   ·rename_i cs
    have cs:=hV cs
    obtain⟨mi,h2,h⟩:=af h
    obtain⟨me,h3,h⟩:=af h
    obtain⟨mc,h4,rfl⟩:=aM h
    have hi:PI X (.Name x px) iter (tI X.K cl Γ mi):=qk S ih1 (fun z=>by cases z) h2
    have he:∀C s H fp pins,PE (aS X scope (x::bK scope.names) C s H fp pins) elt (tV X.K cl Γ me):=fun C s H fp pins=>(dR hΓ n false _ scope elt me _ (S.comp cs C s H fp pins) h3).1
    have hfs:∀v,foldedSetIterable iter X.env v=pure v:=by intro v;cases iter<;>first|rfl|cases oi
    cases ifs with
    |nil=>
     cases h4
     exact⟨_,is,mi,me,_,oO,rfl,cs,hi,fun _ _ _ _ _=>sV,he,fun σ H Q hp9=>by
      obtain⟨G,env,b,sg,en,e,q⟩:=hp9
      have e':some true=some b:=e
      cases e'
      exact q H G (Ext.refl sg),hfs⟩
    |cons t r=>
     cases r with
     |nil=>
      have h4':(if oo t then(cE c n false (x::bK scope.names) scope t).bind fun m=>if m5 m then none else some m else none)=some mc:=h4
      split at h4'
      ·rename_i okt
       obtain⟨m',h5,h6⟩:=af h4'
       split at h6
       ·cases h6
       ·rename_i nn
        cases h6
        have ht:∀C s H fp pins,PT (aS X scope (x::bK scope.names) C s H fp pins) t (tVT X.K cl Γ mc):=fun C s H fp pins=>(dR hΓ n false _ scope t mc _ (S.comp cs C s H fp pins) h5).2 okt
        exact⟨_,is,mi,me,mc,tVT X.K cl Γ mc,rfl,cs,hi,fun C s H fp pins=>yf (ht C s H fp pins),he,fun σ H Q hp9=>by
         obtain⟨G,env,b,sg,en,e,q⟩:=hp9
         unfold cS at e
         rw [aK nn]at e
         exact⟨G,env,b,sg,en,e,q⟩,hfs⟩
      ·cases h4'
     |cons t2 r2=>cases h4
   ·cases h
  ·cases h'
theorem Dg(h:tX K cl Γ pio (.comp me is mi mc) σ H Q):tF K cl Γ (.comp me is mi mc) σ H Q:=by
 obtain⟨H₀,G₀,io,F,A,env,t,env',hp,hl,R,ev',q⟩:=h
 rw [dm rfl]at ev'
 obtain⟨d,ed,ev'⟩:=af ev'
 have hd:∃ds,d=.lst ds:=by
  obtain⟨ds,_,e⟩:=af (show((ev Γ mi (ae env)).bind kZ).bind (fun ds=>if sz ds.length then(dq (fun d=>(cS mc (ev Γ mc (inner (ae env) is d))).bind fun b=>if b then(ev Γ me (inner (ae env) is d)).map some else some none) ds).map D.lst else none)=some d from ed)
  split at e
  ·obtain⟨o,_,rfl⟩:=aM e
   exact⟨o,rfl⟩
  ·cases e
 obtain⟨ds,rfl⟩:=hd
 rw [aK (show¬scal (D.lst ds)=true from kQ)]at ev'
 rw [aF (show fresh (E.comp me is mi mc)=true from rfl)]at ev'
 obtain⟨ds2,e1,ev2⟩:=af ev'
 cases e1
 split at ev2
 ·rename_i al
  cases ev2
  refine⟨H,_,_,.refl _,R.vY,ed,fun p xs H1 G1 x hpn gpn hat dx=> ?_⟩
  refine q (.ref p) H1 F A [p] hl (.of_same x.hh) (R.same x.hh) (.ow hat (R.fh.free hpn) (OTs.AY (dx.scal al F))) (by simp) (fun a ha=> ?_)
  have e:a=p:=by simpa using ha
  rw [e];exact hpn
 ·obtain⟨env1,ef,ev'⟩:=af ev2
  obtain⟨ds',e2,ev'⟩:=aM ev'
  cases ev'
  obtain⟨d',e3,e4⟩:=af e2
  have hd:d'=.lst ds':=by cases d'<;>cases e4;rfl
  subst hd
  obtain⟨F1,A1,R1,l1,g1⟩:=kP hp R ef
  refine⟨F1,_,ds',R1.fh,R1.zj,e3,fun p xs H1 G1 x hpn gpn hat dx=> ?_⟩
  refine q (.ref p) H1 G1 A1 [p] (l1.trans hl) (g1.trans (.tE x)) (R1.ext x) (.ow hat gpn (OTs.AY dx)) (by simp) (fun a ha=> ?_)
  have e:a=p:=by simpa using ha
  rw [e];exact hpn
end
theorem wy(elt:Expr)(gs:List Comprehension)(scope:Scope)(pos:Pos)(y:Str)(py:Pos)(l:Nat)(env:PySem.Env):swapsWith (.ListComp elt gs scope pos) (some (.Name y py)) l env=pure (env.blockKind==.function&&env.kindOf y==some .local&&py.line==pos.line&& !(scope.names.any fun(n,k)=>n==y&&(k==.local||k==.cell))):=rfl
noncomputable def kI:Expr→Bool
 | .ListComp _ _ _ _=>true
 | .SetComp _ _ _ _=>true
 | .DictComp _ _ _ _ _=>true
 |_=>false
theorem fg(h:kI e=false)(t:Option Expr)(l:Nat)(env:PySem.Env):swapsWith e t l env=pure false:=by
 cases e<;>first|rfl|cases h
noncomputable def Ia:E→Bool
 | .isi (.var 0) 2=>true
 |_=>false
noncomputable def HZ:E→Bool
 | .un .list (.var 0)=>true
 |_=>false
noncomputable def HY:E→Bool
 | .var 0=>true
 |_=>false
theorem EF(h:Ia m=true):m=.isi (.var 0) 2:=by
 unfold Ia at h
 split at h
 ·rfl
 ·cases h
theorem EE(h:HZ m=true):m=.un .list (.var 0):=by
 unfold HZ at h
 split at h
 ·rfl
 ·cases h
theorem ED(h:HY m=true):m=.var 0:=by
 unfold HY at h
 split at h
 ·rfl
 ·cases h
noncomputable def E7(c:CC)(n:Nat)(N:List Str)(sc:Scope)(e:Expr):Option E:=match e with
 | .ListComp (.IfExp t a b _) [⟨.Name x _,iter,[],0⟩] scope _=>
   if b5 iter&&oo t then(lu N (bK scope.names)).bind fun is=>if qh sc N scope x (bK scope.names) is then
    (cI false (gZ N sc) (fun y=>(c.tab.lookup y).isSome) (cE c n true N sc) iter).bind fun mi=>
    (cE c n false (x::bK scope.names) scope t).bind fun mt=>(cE c n false (x::bK scope.names) scope a).bind fun ma=>(cE c n false (x::bK scope.names) scope b).bind fun mb=>
      if Ia mt&&HZ ma&&HY mb then some mi else none
   else none else none
 |_=>none
inductive tCp(K:W.Frag)(cl:Nat→Option Addr)(σ:St)(H:Hp)(Q:VK):Prop where
 |mk (G:Hp) (v:V) (d:D):(aG G H)→(σ[0]?=some (some v))→(Dn K cl G v d)→(mX d=true)→(∀u H' G' B,Ext H G H' G'→OT K cl G' H' u (mR d) B→B.Nodup→(∀a∈B,H a=none)→Q u H')→tCp K cl σ H Q
inductive tCpy(K:W.Frag)(cl:Nat→Option Addr)(Γ:bu)(wi:E)(σ:St)(H:Hp)(Q:VK):Prop where
 |mk (G:Hp) (env:Env) (ds:List D):(aG G H)→(eV K cl G env σ)→(az Γ wi env=some ds)→(sz ds.length=true)→(ds.all mX=true)→(∀p H1 G1 B,Ext H G H1 G1→OT K cl G1 H1 (.ref p) (.ow (ds.map mR)) B→B.Nodup→(∀a∈B,H a=none)→Q (.ref p) H1)→tCpy K cl Γ wi σ H Q
section
variable{X:Cx}{cl:Nat→Option Addr}{Γ:bu}{c:CC}
theorem KR(ht:PT X t (tVT X.K cl Γ (.isi (.var 0) 2)))(ha:PE X a (tF X.K cl Γ (.un .list (.var 0))))(hb:PE X b (eL 0)):PE X (.IfExp t a b pos) (tCp X.K cl):=by
 refine fj (u4 ht ha hb) fun σ H Q hp9=> ?_
 obtain⟨G,v,d,sg,hv,dn,ni,q⟩:=hp9
 have en:∀ {G':Hp},Dn X.K cl G' v d→eV X.K cl G' [some d] σ:=fun {G'} dn' i d' e=>by
  cases i with
  |zero=>
   have e':some (some d)=some (some d'):=e
   cases e'
   exact⟨v,hv,dn'⟩
  |succ i=>simp at e
 by_cases hL:∃l,d=.lst l
 ·obtain⟨l,rfl⟩:=hL
  refine⟨G,[some (.lst l)],true,sg,en dn,rfl,fun H1 G1 x1=>nU ⟨G1,[some (.lst l)],l,x1.gh,en (dn.mono x1.gg),rfl,fun p xs H2 G2 x2 hp gp hat dx=> ?_⟩⟩
  refine q (.ref p) H2 G2 [p] (x1.trans x2) (.ow hat gp (OTs.AY dx)) (by simp) fun a ha=> ?_
  have e:a=p:=by simpa using ha
  rw [e];exact x1.hh.free hp
 ·have e1:bG Γ (.isi (.var 0) 2) [some d]=some false:=by
   cases d with
   |lst l=>exact absurd ⟨l,rfl⟩ hL
   |ins=>cases ni
   |dic=>cases ni
   |_=>rfl
  have e2:mR d=.sh d:=by
   cases d with
   |lst l=>exact absurd ⟨l,rfl⟩ hL
   |_=>rfl
  refine⟨G,[some d],false,sg,en dn,e1,fun H1 G1 x1=>nV ⟨v,hv,?_⟩⟩
  exact q v H1 G1 [] x1 (by rw [e2];exact .sh (dn.mono x1.gg)) List.nodup_nil (by simp)
theorem EW:tCpy K cl Γ wi σ H Q→lr (tI K cl Γ wi) is oO (tCp K cl) σ H Q:=by
 rintro ⟨G,env,ds,sg,en,e1,hz,hn,q⟩
 have hz':=fm hz
 refine⟨G,env,ds,sg,en,e1,fun J H1 G1 x1 wk _ D hD=> ?_⟩
 have gD:G1 D=none:=x1.gh.free hD
 refine⟨fun i k H2=>k=ds.length-i∧i≤ds.length∧∃G2 ys B,Ext H1 G1 H2 G2∧H2 D=some (.lst ys)∧G2 D=none∧OTs K cl G2 H2 ys ((ds.take i).map mR) B∧B.Nodup∧D∉B∧∀a∈B,H1 a=none,
  ⟨ds.length,by simp,iQ _,G1,[],[],⟨aO hD _,.refl _,x1.gh.trans (aO hD _),fun b o h1 h2=>by rw [h1]at h2;cases h2⟩,ak,gD,.nil,List.nodup_nil,by simp,by simp⟩,?_⟩
 rintro i k H2 ⟨rfl,hi,G2,ys,B,x2,hy,g2D,os,nd,nD,nw⟩
 obtain⟨w1,w2⟩:=wk H2 G2 i x2.gg x2.gh
 by_cases hlt:i<ds.length
 ·have hd:ds[i]?=some ds[i]:=jV hlt
  obtain⟨g,y⟩:=w2 _ hd
  refine .inr ⟨g,fun v H3 yl=> ?_⟩
  obtain⟨G3,x3,d3⟩:=y v H3 yl
  unfold oO
  refine Eq.mpr (aF rfl) ?_
  refine⟨G3,v,ds[i],x3.gh,rfl,d3,nI.mp hn _ (List.getElem_mem hlt),fun u H5 G5 C x5 ot ndC nwC=> ?_⟩
  have x25:=x3.trans x5
  have out:∀ {b:Addr} {o:HO},H2 b=some o→G2 b=none→G5 b=none:=fun {b o} h1 h2=>by
   cases z:G5 b with
   |none=>rfl
   |some w=>have:=x25.nw b w z h2;rw [h1]at this;cases this
  have g5D:G5 D=none:=out hy g2D
  have hy5:H5 D=some (.lst ys):=x25.hh _ _ hy
  have DC:D∉C:=fun z=>by have:=nwC D z;rw [x3.hh _ _ hy]at this;cases this
  have os5:OTs K cl G5 H5 ys ((ds.take i).map mR) B:=os.move x25.gg (fun a ha=>by obtain⟨f1,o,f2⟩:=os.free a ha;exact out f2 f1) fun a ha o h=>x25.hh _ _ h
  refine⟨ys,hy5,by rw [sizeLine_eq,os.length,b9,kU];lia,ds.length-(i+1),by lia,rfl,hlt,G5,ys++[u],B++C,?_,ak,g5D,?_,?_,?_,?_⟩
  ·have x:=x2.trans x25
   exact⟨fun b o h=>by rw [ag (aD h hD)];exact x.hh _ _ h,x.gg,fun b o h=>by rw [ag (aD h g5D)];exact x.gh _ _ h,x.nw⟩
  ·have e:(ds.take (i+1)).map mR=(ds.take i).map mR++[mR ds[i]]:=by rw [List.take_succ_eq_append_getElem hlt,oI];rfl
   rw [e]
   exact(os5.gS nD).snoc (ot.gS DC)
  ·refine eX.mpr ⟨nd,ndC,fun a ha b hb e=> ?_⟩
   subst e
   obtain⟨_,o,f2⟩:=os.free a ha
   have:=nwC a hb
   rw [x3.hh _ _ f2]at this;cases this
  ·intro z
   rcases fv.mp z with w|w
   ·exact nD w
   ·exact DC w
  ·intro a ha
   rcases fv.mp ha with w|w
   ·exact nw a w
   ·exact(x2.trans x3).hh.free (nwC a w)
 ·have e0:i=ds.length:=by lia
  subst e0
  rw [List.take_length]at os
  refine .inl ⟨w1 rfl,q D H2 G2 (D::B) (x1.trans x2) (.ow hy g2D os) (iO.mpr ⟨nD,nd⟩) fun a ha=> ?_⟩
  rcases fY.mp ha with w|w
  ·rw [w];exact x1.hh.free hD
  ·exact x1.hh.free (nw a w)
theorem E6(hΓ:∀x f,c.tab.lookup x=some f→∃g,Γ f=some g)(S:Sees X cl c Γ true N sc)(h:E7 c n N sc e=some m):PE X e (tCpy X.K cl Γ m):=by
 unfold E7 at h
 split at h
 ·rename_i t a b p1 x px iter scope pos
  split at h
  ·rename_i ok
   obtain⟨oi,okt⟩:=bg ok
   obtain⟨is,h1,h⟩:=af h
   split at h
   ·rename_i cs
    have cs:=hV cs
    obtain⟨mi,h2,h⟩:=af h
    obtain⟨mt,h3,h⟩:=af h
    obtain⟨ma,h4,h⟩:=af h
    obtain⟨mb,h5,h⟩:=af h
    split at h
    ·rename_i hc
     obtain⟨hc,hc3⟩:=bg hc
     obtain⟨hc1,hc2⟩:=bg hc
     cases h
     rw [EF hc1]at h3
     rw [EE hc2]at h4
     rw [ED hc3]at h5
     have hi:PI X (.Name x px) iter (tI X.K cl Γ m):=qk S (fun e m h=>(dR hΓ n true N sc e m X S h).1) (fun z=>by cases z) h2
     have he:∀C s H fp pins,PE (aS X scope (x::bK scope.names) C s H fp pins) (.IfExp t a b p1) (tCp X.K cl):=fun C s H fp pins=>
      have S2:=S.comp cs C s H fp pins
      KR (X:=aS X scope (x::bK scope.names) C s H fp pins) (Γ:=Γ) ((dR hΓ n false _ scope t _ _ S2 h3).2 okt) (F0 hΓ S2 h4 rfl) (lg S2 h5)
     have hfs:∀v,foldedSetIterable iter X.env v=pure v:=by intro v;cases iter<;>first|rfl|cases oi
     exact fj (tf S.calm hi he cs (S.tp rfl) S.hN hfs) fun σ H Q q=>EW q
    ·cases h
   ·cases h
  ·cases h
 ·cases h
theorem GL(h:tS K cl Γ Δ pio (.retC m) En σ H):AI (tCpy K cl Γ m) En σ H:=by
 obtain⟨H₀,G₀,io,F,A,env,n,fl,env',hp,hl,R,e,po⟩:=h
 obtain⟨ds,h1,e⟩:=af (show(az Γ m (gC env)).bind (fun ds=>if sz ds.length&&ds.all mX then some (Fl.rt (.ow (ds.map mR)),env)else none)=some (fl,env')from e)
 split at e
 ·rename_i hz
  obtain⟨hz,hn⟩:=bg hz
  cases e
  refine⟨F,gC env,ds,R.fh,R.zj,h1,hz,hn,fun p H1 G1 B x ot nd nw=> ?_⟩
  refine po σ H1 G1 A hl rfl (fun _ _=>rfl) x.gg (R.ext x) (.ref p) B ot nd (fun j a h1 h2=> ?_) fun a ha=>R.new (nw a ha)
  obtain⟨_,o,h3⟩:=R.at_ h1
  rw [nw a h2]at h3;cases h3
 ·cases e
end
noncomputable def FB(g:List D→Option (T×List D))(K:W.Frag)(cl:Nat→Option Addr):TE:=FA (spIO K cl 1 g) [] E0 (bI (eL 0) (bI (eL 1) fZ))
noncomputable def M6(K:W.Frag):List V→Hp→VK→Prop:=fun xs H Q=>∃(p:Addr) (bs:List Bool),xs=[.ref p]∧dQ K H p (bs.map V.bl)∧Q (.bl (bs.all id)) H
section
variable{K:W.Frag}{cl:Nat→Option Addr}{Γ:bu}{Δ:gH}{pio:Option Nat}{En:Ends}{σ:St}{H:Hp}
theorem A3{is:List Nat}(hΔ:Δ f=some (1,g))(his:is.head?=some i)(h:tS K cl Γ Δ pio (.retAll f i it) En σ H):AI (Kh (M6 K) (bI (lr (tI K cl Γ it) is oO (FB g K cl)) fZ)) En σ H:=by
 obtain⟨H₀,G₀,io,F,A,env,n,fl,env',hp,hl,R,e,po⟩:=h
 have e':(if(1:Nat)=1∧pio≠some i then(gJ Γ pio it env).bind fun r=>(bw r.2 i).bind fun ts=>(unsh ts).bind fun ms=>if ms.all scal&&sz r.1.length then(qC g r.1 ms).map fun b=>(Fl.rt (.sh (.bl b)),r.2.set i none)else none else none)=some (fl,env'):=by
  rw [←e]
  show _=(Δ f).bind _
  rw [hΔ]
  rfl
 split at e'
 ·rename_i hpi
  obtain⟨⟨ds,env1⟩,h1,e2⟩:=af e'
  clear e' e
  obtain⟨ts,h2,e3⟩:=af e2
  clear e2
  obtain⟨ms,h3,e4⟩:=af e3
  clear e3
  have:=jH h3
  subst this
  split at e4
  ·rename_i hz
   obtain⟨hs,hz⟩:=bg hz
   obtain⟨b,h4,e5⟩:=aM e4
   clear e4
   cases e5
   have hzl:ds.length≤1000000:=fm hz
   refine HW hp hl R h1 fun J H1 F1 A1 l1 sf R1 wk Dl hD=> ?_
   obtain⟨p,xs,B,_,hσ,hA,hx,fp,os⟩:=R1.own h2
   obtain⟨dx,hB⟩:=os.unsh
   have R2:=R1.drop i (hp.ne hpi.2)
   have pH0:H₀ p=none:=by
    rcases R1.anew i p (by rw [hA];simp)with⟨q,z⟩|z
    ·obtain⟨B',z'⟩:=R1.iok q p z
     by_cases hqi:q=i
     ·exact absurd (hp _ _ z) (by rw [hqi];exact hpi.2)
     ·exact(R1.dj q i p hqi (by rw [z'];simp) (by rw [hA];simp)).elim
    ·exact z
   have pA:∀j,p∉(fun j=>if j=i then []else A1 j) j:=fun j z=>by
    have z':p∈(if j=i then []else A1 j):=z
    split at z'
    ·simp at z'
    ·rename_i hj
     exact R1.dj j i p hj z' (by rw [hA];simp)
   have dA:∀j,Dl∉(fun j=>if j=i then []else A1 j) j:=fun j z=>by
    have z':Dl∈(if j=i then []else A1 j):=z
    split at z'
    ·simp at z'
    ·obtain⟨_,o,z2⟩:=R1.at_ z'
     rw [hD]at z2;cases z2
   have dH0:H₀ Dl=none:=R1.new hD
   have dF:F1 Dl=none:=R1.fh.free hD
   have hpD:p≠Dl:=fun z=>by rw [z,hD]at hx;cases hx
   have R3:=R2.gS dF dH0 dA (.lst [])
   refine⟨fun k m H2=>m=ds.length-k∧k≤ds.length∧∃F2 ms bs xs q,aG F1 F2∧Rep K cl H₀ G₀ io F2 (fun j=>if j=i then []else A1 j) σ (env1.set i none) H2∧H2 p=some (.lst xs)∧F2 p=none∧Dns K cl F2 xs ms∧ms.all scal=true∧H2 Dl=some (.lst (bs.map V.bl))∧F2 Dl=none∧bs.length=k∧qC g (ds.drop k) ms=some q∧(bs.all id&&q)=b,⟨ds.length,by simp,iQ _,F1,ms,[],xs,b,.refl _,R3,by rw [ag hpD];exact hx,fp,dx,hs,ak,dF,rfl,h4,by simp⟩,?_⟩
   rintro k m H2 ⟨rfl,hk,F2,ms,bs,xs,q,s2,R4,hx,fp,dx,hs,hd,dF,hb,hq,he⟩
   obtain⟨w1,w2⟩:=wk H2 F2 k s2 R4.fh
   by_cases hlt:k<ds.length
   ·have hdk:ds[k]?=some ds[k]:=jV hlt
    obtain⟨go,y⟩:=w2 _ hdk
    refine .inr ⟨go,fun v H3 yl=> ?_⟩
    obtain⟨F3,x3,d3⟩:=y v H3 yl
    have R5:=R4.ext x3
    have hx3:=x3.hh _ _ hx
    have hd3:=x3.hh _ _ hd
    have fp3:F3 p=none:=by
     cases z:F3 p with
     |none=>rfl
     |some o=>have:=x3.nw p o z fp;rw [hx]at this;cases this
    have dF3:F3 Dl=none:=by
     cases z:F3 Dl with
     |none=>rfl
     |some o=>have:=x3.nw Dl o z dF;rw [hd]at this;cases this
    rw [uE hlt]at hq
    obtain⟨⟨t1,ms'⟩,g1,hq⟩:=af (show(g [ds[k],.lst ms]).bind (fun p=>match p.1 with
     | .sh (.bl b)=>if p.2.all scal then(qC g (ds.drop (k+1)) p.2).map (b&&·)else none
     |_=>none)=some q from hq)
    dsimp only at hq
    split at hq
    ·rename_i b1
     split at hq
     ·rename_i hs'
      obtain⟨q',hq',hqq⟩:=aM hq
      unfold oO
      simp only [if_true]
      refine⟨v,rfl,.ref p,?_,?_⟩
      ·show((is.map fun k=>(σ[k]?).join)[0]?)=some (some (.ref p))
       cases is with
       |nil=>cases his
       |cons i0 r=>
        cases his
        show some ((σ[i]?).join)=_
        rw [hσ];rfl
      ·refine⟨F3,[ds[k],.lst ms],p,xs,ms,.sh (.bl b1),ms',R5.fh,rfl,rfl,rfl,hx3,fp3,dx.mono x3.gg,fun j u d hj h5 h6=> ?_,g1,rfl,hs,hs',fun u H' G' xs' B' kp gg gh nw hx' dx' ot nd nwB=> ?_⟩
       ·cases j with
        |zero=>cases h5;cases h6;exact d3
        |succ j=>
         cases j with
         |zero=>exact absurd rfl hj
         |succ j=>cases h5
       ·cases ot with|sh du=>
        cases du
        have gD:G' Dl=none:=by
         cases z:G' Dl with
         |none=>rfl
         |some o=>have:=nw Dl o z dF3;rw [hd3]at this;cases this
        have gp:G' p=none:=by
         cases z:G' p with
         |none=>rfl
         |some o=>have:=nw p o z fp3;rw [hx3]at this;cases this
        have R6:=(R5.gS fp3 pH0 pA (.lst xs')).grow (H':=H') (F':=G') (fun b o z=>by
         by_cases hbp:b=p
         ·subst hbp
          rw [ak]at z
          cases z;exact hx'
         ·rw [ag hbp]at z
          exact kp b o hbp z) gg gh fun b o z1 z2=>by
         have z3:=nw b o z1 z2
         rw [ag (fun z=>by rw [z,hx3]at z3;cases z3)]
         exact z3
        refine⟨bs.map V.bl,kp _ _ (Ne.symm hpD) hd3,by rw [b9,hb,sizeLine_eq];lia,ds.length-(k+1),by lia,rfl,hlt,G',ms',bs++[b1],xs',q',s2.trans (x3.gg.trans gg),R6.gS gD dH0 dA _,by rw [ag hpD];exact hx',gp,dx',hs',by rw [ak];simp,gD,by simp [hb],hq',?_⟩
        rw [←he,←hqq,List.all_append]
        simp [Bool.and_assoc]
     ·cases hq
    ·cases hq
   ·have hkn:k=ds.length:=by lia
    refine .inl ⟨w1 hkn,Dl,bs,rfl,dQ.of hd,?_⟩
    rw [hkn,List.drop_length]at hq
    cases hq
    rw [Bool.and_true]at he
    rw [he]
    exact po σ H2 F2 _ (by simpa using l1) rfl (fun _ _=>rfl) (sf.trans s2) R4 (.bl b) [] (.sh (.bl b)) List.nodup_nil (by simp) (by simp)
  ·cases e4
 ·cases e'
end
theorem Ec:∀ {ts:List T} {B:List Addr} {j:Nat} {t:T},OTs K cl F H xs ts B→aG F H→B.Nodup→ts[j]?=some t→∃v,xs[j]?=some v∧Dn K cl H v (strip t):=by
 induction xs with
 |nil=>intro ts B j t o _ _ h;cases o;simp at h
 |cons v xs ih=>
  intro ts B j t o sf nd h
  cases o with
  |cons a r=>
   obtain⟨n1,n2,_⟩:=eX.mp nd
   cases j with
   |zero=>simp at h;subst h;exact⟨v,rfl,a.vY sf n1⟩
   |succ j=>obtain⟨u,g1,g2⟩:=ih r sf n2 (by simpa using h);exact⟨u,by simpa using g1,g2⟩
section
variable{K:W.Frag}{cl:Nat→Option Addr}{Γ:bu}{Δ:gH}{pio:Option Nat}{En:Ends}{σ:St}{H:Hp}
theorem GS(hc:gw K cl)(hf:vV.contains f=true)(h:tS K cl Γ Δ pio (.augF i f op k m) En σ H):AN (AL K (eL i) f) (tV K cl Γ k) (tV K cl Γ m) (zt K) (MA op) yd En σ H:=by
 obtain⟨H₀,G₀,io,F,A,env,n,fl,env',hp,hl,R,e,po⟩:=h
 obtain⟨o,h2,e⟩:=af (show(cm env i).bind (fun o=>(cR f o).bind fun ju=>((ev Γ k (ae env)).bind g7).bind fun z=>(kH ju.2.length z).bind fun l=>(ju.2[l]?).bind fun t=>(ev Γ m (ae env)).bind fun b=>(j2 op (strip t) b).map fun d=>(Fl.nx,env.set i (some (.ob o.1 o.2.1 (o.2.2.set ju.1 (.ow (ju.2.set l (.sh d))))))))=some (fl,env')from e)
 obtain⟨ju,h3,e⟩:=af e
 obtain⟨z,h4,e⟩:=af e
 obtain⟨dk,h4,h5⟩:=af h4
 obtain⟨l,h6,e⟩:=af e
 obtain⟨t,h7,e⟩:=af e
 obtain⟨b,h8,e⟩:=af e
 obtain⟨d,h9,e⟩:=aM e
 cases e
 obtain⟨x,y,w,ex,rfl,rfl,hop⟩:=qz h9
 obtain⟨a,C,dx,vfs,r,ys,Cs,hs,g1,g3,lk,hr,fr,nr,nC,inA,os,_⟩:=R.fld h2 h3
 obtain⟨c1,c2,_⟩:=hc.1 _ C g3
 refine⟨.ref a,hs,a,C,dx,vfs,.ref r,rfl,g1,c1,c2 f (sH.mp hf),lk,we R h4 fun u H1 s1 R1 d1=> ?_⟩
 have hu:=mQ d1 h5
 subst hu
 obtain⟨a1,C1,dx1,vfs1,r1,ys1,Cs1,hs1,g11,_,lk1,hr1,_,nr1,nC1,_,os1,_⟩:=R1.fld h2 h3
 rw [hs]at hs1
 cases hs1
 rw [s1 _ _ g1]at g11
 cases g11
 rw [lk]at lk1
 cases lk1
 obtain⟨v,g4,g5⟩:=Ec os1 R1.fh nC1 h7
 rw [ex]at g5
 cases g5
 refine⟨r,ys1,z,.int x,rfl,rfl,dQ.of hr1,by unfold L2.atI;rw [os1.length,h6];exact g4,we R1 h8 fun u2 H2 s2 R2 d2=> ?_⟩
 cases d2
 refine⟨x,y,w,rfl,rfl,hop,?_⟩
 obtain⟨a2,C2,dx2,vfs2,r2,ys2,Cs2,hs2,g12,_,lk2,hr2,_,nr2,nC2,_,os2,fin⟩:=R2.fld h2 h3
 rw [hs]at hs2
 cases hs2
 rw [s2 _ _ (s1 _ _ g1)]at g12
 cases g12
 rw [lk]at lk2
 cases lk2
 refine⟨r,ys2,z,l,rfl,rfl,hr2,by rw [os2.length];exact h6,?_⟩
 obtain⟨B3,o3,n3,sb⟩:=OTs.put (OT.sh (H:=H2) (G:=F) (K:=K) (cl:=cl) (Dn.int w)) l os2 nC2 List.nodup_nil (by simp)
 have sb':∀b∈B3,b∈Cs2:=fun b hb=>(sb b hb).elim id (fun z=>by simp at z)
 have nr3:r∉B3:=fun z=>nr2 (sb' r z)
 obtain⟨A',R'⟩:=fin r (.lst (ys2.set l (.int w))) (ju.2.set l (.sh (.int w))) (ys2.set l (.int w)) B3 (by simp) ak (o3.gS nr3) (iO.mpr ⟨nr3,n3⟩) fun b hb=> .inl (sb' b hb)
 exact po σ _ F A' (by simp [hl]) rfl (fun _ _=>rfl) (.refl _) R'
end
inductive spMIO(K:W.Frag)(cl:Nat→Option Addr)(C:Addr)(g:List D→Option (T×List D))(vs:List V)(H:Hp)(Q:VK)(E9:XK):Prop where
 |mk (G:Hp) (x:Addr) (dx:Addr) (a:Addr) (vs':List V) (xs:List V) (ds:List D) (l:List D) (r:T×List D):(aG G H)→(vs=.ref x::vs')→(H x=some (.ins C dx [("counts",.ref a)]))→(H a=some (.lst xs))→(G a=none)→(Dns K cl G xs ds)→(Dns K cl G vs' l)→(g (.lst ds::l)=some r)→(Ei r.1=true)→(ds.all scal=true)→(r.2.all scal=true)→(∀H' G' xs',(∀b o,b≠a→H b=some o→H' b=some o)→aG G G'→aG G' H'→(∀b o,G' b=some o→G b=none→H b=none)→H' a=some (.lst xs')→Dns K cl G' xs' r.2→Q .non H')→spMIO K cl C g vs H Q E9
structure GoodMIO(X:Cx)(cl:Nat→Option Addr)(C:Addr)(m:Str)(g:List D→Option (T×List D)):Prop where
 ex:∃k f fd ps,Meth X.K C m f∧FnOk X.prog X.w X.K X.mg X.base km k f fd ps (spMIO X.K cl C g)∧Room k X.A∧cA X.K fd ps []
theorem ID(h:xO o=some ds):o.2.1=[("counts":Str)]∧∃ju,cR "counts" o=some ju∧ju.1=0∧unsh ju.2=some ds∧ds.all scal=true:=by
 unfold xO at h
 split at h
 ·rename_i hk
  obtain⟨ju,h1,h⟩:=af h
  obtain⟨ds',h2,h⟩:=af h
  split at h
  ·rename_i hs
   cases h
   refine⟨hk,ju,h1,?_,h2,hs⟩
   unfold cR at h1
   rw [hk]at h1
   obtain⟨j,hj,h1⟩:=af h1
   obtain⟨t,_,h1⟩:=af h1
   obtain⟨us,_,rfl⟩:=aM h1
   have:cg [("counts":Str)] ("counts":Str)=some 0:=by decide+kernel
   rw [this]at hj
   exact(cC hj).symm
  ·cases h
 ·cases h
theorem Es{vfs:List (Str×V)}(h:vfs.map (·.1)=[k])(l:vfs.lookup k=some v):vfs=[(k,v)]:=by
 match vfs,h,l with
 |[(k',v')],h,l=>
  have e:k'=k:=by simpa using h
  subst e
  rw [sF,beq_self_eq_true]at l
  rw [cC l]
section
variable{X:Cx}{cl:Nat→Option Addr}{Γ:bu}{Δ:gH}{pio:Option Nat}
theorem G9{x m:Str}{p apos pos pos':Pos}{k i:Nat}{e:Expr}{es:List Expr}{ml:E}(hc:gw X.K cl)(hm:∀c C k m g,uB[k]?=some m→cl c=some C→Δ (jZ c k)=some (0,g)→GoodMIO X cl C m g)(hk:uB[k]?=some m)(nm:m≠"counts")(ho:PE X (.Name x p) (eL i))(ha:PA X (e::es) (tVs X.K cl Γ ml))(ok:(e::es).all b5=true)(hl:(e::es).length<30)(bm:mJ apos pos=true):
 PS X (.Expr (.Call (.Attribute (.Name x p) m apos) (e::es) [] pos) pos') (tS X.K cl Γ Δ pio (.mio i k ml)):=by
 have ok':=ok
 rw [cK,Bool.and_eq_true]at ok
 intro pins s σ H D I h
 obtain⟨H₀,G₀,io,F,A,env,n,fl,env',hp,hle,R,e,po⟩:=h
 obtain⟨o,h1,e⟩:=af (show(cm env i).bind (fun o=>(xO o).bind fun ds=>(jM Γ ml (ae env)).bind fun l=>if l.all scal then(Δ (jZ o.1 k)).bind fun kg=>if kg.1=0 then(kg.2 (.lst ds::l)).bind fun r=>if Ei r.1&&r.2.all scal then some (Fl.nx,env.set i (some (.ob o.1 o.2.1 [.ow (r.2.map T.sh)])))else none else none else none)=some (fl,env')from e)
 obtain⟨ds,h2,e⟩:=af e
 obtain⟨l,h3,e⟩:=af e
 obtain⟨hk1,ju,h4,h5,h6,sds⟩:=ID h2
 split at e
 rotate_left
 ·cases e
 rename_i sl
 obtain⟨⟨k0,g⟩,hg,e⟩:=af e
 split at e
 rotate_left
 ·cases e
 rename_i k00
 have k00:k0=0:=k00
 subst k00
 obtain⟨r,hr,e⟩:=af e
 split at e
 rotate_left
 ·cases e
 rename_i hz
 obtain⟨hn,sr⟩:=bg hz
 cases e
 obtain⟨a,C,dx,vfs,q,ys,Cs,hs,g1,g3,lk,hq,fq,nq,nC,inA,os,_⟩:=R.fld h1 h4
 obtain⟨a',C',dx',vfs',B',_,hs',_,g1',_,_,g4',_⟩:=R.obj h1
 rw [hs]at hs'
 cases hs'
 rw [g1]at g1'
 cases g1'
 rw [hk1]at g4'
 have ev:=Es g4' lk
 subst ev
 obtain⟨j,f,fd,ps,M,F1,F2,F3⟩:=(hm o.1 C k m g hk g3 hg).ex
 refine eo (yo ho (hc.1 o.1 C g3).1 M F1 F2 F3 .nil rC ha (ah ok.1 _ _) (cW ok.2 _ _) (yA ok' hl bm)) rfl pins s σ H D I ?_
 refine⟨.ref a,hs,a,dx,_,rfl,g1,?_,H,_,l,.refl _,R.vY,h3,fun vs H1 G1 x1 d1=> ?_⟩
 ·rw [sF]
  have:(m==("counts":Str))=false:=by simpa using nm
  rw [this];rfl
 ·rw [jH h6]at os
  obtain⟨dy,_⟩:=os.unsh
  rw [kX]
  have R1:=R.same x1.hh
  refine⟨F,a,dx,q,vs,ys,ds,l,r,R1.fh,rfl,x1.hh _ _ g1,x1.hh _ _ hq,fq,dy,d1.scal sl F,hr,hn,sds,sr,fun H' G' xs' kp gg gh nw hx' dx'=> ?_⟩
  have gq:G' q=none:=by
   cases z:G' q with
   |none=>rfl
   |some u=>have:=nw q u z fq;rw [x1.hh _ _ hq]at this;cases this
  have hh:aG H1 (bp H' q (.lst ys)):=fun b u hb=>by
   by_cases z:b=q
   ·subst z;rw [ak];rw [x1.hh _ _ hq]at hb;exact hb
   ·rw [ag z];exact kp b u z hb
  have gh':aG G' (bp H' q (.lst ys)):=fun b u hb=>by
   rw [ag (aD hb gq)];exact gh _ _ hb
  have R2:=R1.grow hh gg gh' nw
  obtain⟨a2,C2,dx2,vfs2,q2,ys2,Cs2,hs2,g12,_,lk2,hq2,_,nq2,nC2,_,os2,fin⟩:=R2.fld h1 h4
  rw [hs]at hs2
  cases hs2
  rw [hh _ _ (x1.hh _ _ g1)]at g12
  cases g12
  rw [lk]at lk2
  cases lk2
  obtain⟨A',R'⟩:=fin q (.lst xs') (r.2.map T.sh) xs' [] (by simp) ak (OTs.AY dx') (by simp) (by simp)
  have eH:bp (bp H' q (.lst ys)) q (.lst xs')=H':=by
   funext b
   by_cases z:b=q
   ·subst z;rw [ak,hx']
   ·rw [ag z,ag z]
  rw [eH]at R'
  have e2:o.2.2.set ju.1 (.ow (r.2.map T.sh))=[.ow (r.2.map T.sh)]:=by
   have l1:o.2.2.length=1:=by
    obtain⟨_,_,_,vfs3,B3,_,hs3,_,g13,_,_,g43,_,_,os3⟩:=R.obj h1
    rw [←os3.length,b9,←b9 (f:=(·.1)) (as:=vfs3),g43,hk1];rfl
   match h:o.2.2,l1 with
   |[t],_=>rw [h5];rfl
  rw [e2]at R'
  exact po σ H' G' A' (by simp [hle]) rfl (fun _ _=>rfl) gg R'
end
theorem yB(i:Int):∀(l:List Int) (s:Nat),xf ((l.zipIdx s).map fun p=>(p.1,(p.2:Int))) i=if i∈l then some ((s+l.idxOf i:Nat):Int)else none
 |[],s=>by simp [xf]
 |a::r,s=>by
  have ih:=yB i r (s+1)
  unfold xf at ih⊢
  rw [List.zipIdx_cons,lV,List.find?_cons]
  by_cases e:a=i
  ·subst e;simp
  ·rw [eC e]
   have ih':=ih
   simp only [fY]
   rw [ih']
   by_cases hm:i∈r
   ·have eb:(a==i)=false:=by simpa using e
    rw [aF hm,aF (.inr hm),List.idxOf_cons,eb]
    show some _=some _
    congr 2
    simp;lia
   ·rw [aK hm,aK (by rintro (z|z);exact e z.symm;exact hm z)]
theorem yC(l:List Int)(i:Int):xf (pI l) i=if i∈l then some (l.idxOf i:Int)else none:=by
 have:=yB i l 0
 unfold pI
 rw [this];simp
theorem BG(l:List Int)(a:Int):pI (l++[a])=pI l++[(a,(l.length:Int))]:=by
 unfold pI
 rw [List.zipIdx_append,oI];simp
section
variable{K:W.Frag}{cl:Nat→Option Addr}{Γ:bu}{Δ:gH}{pio:Option Nat}{En:Ends}{σ:St}{H:Hp}
theorem Rep.chg{σ':St}(R:Rep K cl H₀ G₀ io F A σ env H)(h:∀(i:Nat) (t:T),env[i]?=some (some t)→σ'[i]?=σ[i]?):Rep K cl H₀ G₀ io F A σ' env H:=
 ⟨fun i t e=>by rw [h i t e];exact R.slot i t e,R.out,R.nd,R.dj,R.fh,R.gf,R.fnew,R.keep,R.anew,R.iok⟩
noncomputable def MS(K:W.Frag)(i j a b r:Nat):TS:=Dh (wx (AH (bI AM (bI (Kg fZ) fZ))) (BY K 2 (lF (fT i) (lF (fT j) B4)))) (Dj (FM K (bI (eL r) fZ)) (BY K 2 (lF (fT a) (lF (fT b) B4))) (Dh (A7 (eL i) (eL b) (eL a)) xZ))
theorem GT(h:tS K cl Γ Δ pio (.appP i a b) En σ H):j5 (CW K "list" jI (eL i) (bI (AH (bI (tV K cl Γ a) (bI (tV K cl Γ b) fZ))) fZ)) En σ H:=by
 obtain⟨H₀,G₀,io,F,A,env,n,fl,env',hp,hl,R,e,po⟩:=h
 obtain⟨x,h1,e⟩:=af (show(ev Γ a (ae env)).bind (fun x=>(ev Γ b (ae env)).bind fun y=>if scal x&&scal y then(bw env i).bind fun ts=>if sz ts.length then some (Fl.nx,env.set i (some (.ow (ts++[.sh (.tup [x,y])]))))else none else none)=some (fl,env')from e)
 obtain⟨y,h2,e⟩:=af e
 split at e
 rotate_left
 ·cases e
 rename_i sc
 obtain⟨sx,sy⟩:=bg sc
 obtain⟨ts,h3,e⟩:=af e
 split at e
 rotate_left
 ·cases e
 rename_i hz
 cases e
 obtain⟨p,xs,_,_,h4,_,h5,_,_⟩:=R.own h3
 refine⟨.ref p,h4,gb h5,we R h1 fun v1 H1 s1 R1 d1=>we R1 h2 fun v2 H2 s2 R2 d2=>⟨iU,fun q hq=> ?_⟩⟩
 have fq:F q=none:=R2.fh.free hq
 have R3:=R2.grow (F':=bp F q (.tup [v1,v2])) (aO hq (.tup [v1,v2])) (aO fq _) (fun c u hc=>by
  by_cases z:c=q
  ·subst z;rw [ak]at hc⊢;exact hc
  ·rw [ag z]at hc⊢;exact R2.fh _ _ hc) (fun c u hc hf=>by
  by_cases z:c=q
  ·subst z;exact hq
  ·rw [ag z,hf]at hc;cases hc)
 obtain⟨p',xs',B',h6,h7,hA,hx,fp,os⟩:=R3.own h3
 rw [h4]at h7
 cases h7
 have ndA:=R3.nd i
 rw [hA]at ndA
 obtain⟨np,ndB⟩:=iO.mp ndA
 refine⟨p,xs',.ref q,rfl,rfl,hx,?_,?_⟩
 ·have:=fm hz
  rw [os.length,sizeLine_eq];lia
 ·refine po σ _ _ _ (by simpa using hl) rfl (fun _ _=>rfl) (aO fq _) (R3.rewrite (xs:=xs') (C:=[]) (B':=B') h6 h4 hA ?_ ndB (fun a ha=> .inl ha) fun a ha=>by simp at ha)
  have:=os.snoc (OT.sh (H:=bp H2 q (.tup [v1,v2])) (G:=bp F q (.tup [v1,v2])) (Dn.tup ak (.cons (d1.scal sx _) (.cons (d2.scal sy _) .nil))))
  rwa [kX]at this
theorem KA(h:tS K cl Γ Δ pio (.dic i j a b r) En σ H):MS K i j a b r En σ H:=by
 obtain⟨H₀,G₀,io,F,A,env,n,fl,env',hp,hl,R,e,po⟩:=h
 have e':(if di pio env i&&di pio env j&&di pio env a&&di pio env b&&decide ([i,j,a,b,r].Nodup)then(((ae env)[r]?).join.bind bx).bind fun ds=>(cQ ds).bind fun ns=>if decide ns.Nodup&&sz ns.length then some (Fl.nx,(((env.set a none).set b none).set i (some (.sh (.dic (pI ns))))).set j (some (.ow [])))else none else none)=some (fl,env'):=e
 clear e
 split at e'
 rotate_left
 ·cases e'
 rename_i ok
 obtain⟨ok,nd⟩:=bg ok
 obtain⟨ok,okb⟩:=bg ok
 obtain⟨ok,oka⟩:=bg ok
 obtain⟨oki,okj⟩:=bg ok
 obtain⟨pi,li⟩:=dX oki
 obtain⟨pj,lj⟩:=dX okj
 obtain⟨pa,la⟩:=dX oka
 obtain⟨pb,lb⟩:=dX okb
 have nd:=fm nd
 simp only [iO,fY,List.not_mem_nil,or_false,not_or]at nd
 obtain⟨⟨ij,ia,ib,ir⟩,⟨ja,jb,jr⟩,⟨ab,ar⟩,br,-⟩:=nd
 obtain⟨ds,h1,e'⟩:=af e'
 obtain⟨d0,h1,h2⟩:=af h1
 obtain⟨ns,h3,e'⟩:=af e'
 split at e'
 rotate_left
 ·cases e'
 rename_i hz
 obtain⟨nn,hz⟩:=bg hz
 have nn:=fm nn
 cases e'
 have h3:=g0 h3
 subst h3
 have hd0:d0=.lst (ns.map D.int):=by
  cases d0 with
  |lst l=>rw [cC h2]
  |_=>cases h2
 subst hd0
 have h1':(ae env)[r]?=some (some (.lst (ns.map D.int))):=by
  cases z:(ae env)[r]? with
  |none=>rw [z]at h1;cases h1
  |some o=>rw [z]at h1;rw [show o=some _ from h1]
 obtain⟨v,hv,dv⟩:=R.vY r _ h1'
 cases dv with
 | @lst l xs _ hrl hdn=>
 have hx:=hdn.ints
 subst hx
 have lσ:∀ {k},k<env.length→k<σ.length:=fun h=>by lia
 refine fun p1 hp1=> ?_
 refine⟨iQ _,fun p2 hp2=>⟨iU,fun p3 hp3=>⟨p3,_,rfl,qM.of ak,rfl,.ref p1,[.ref p2],rfl,.ref p2,[],rfl,rfl,?_⟩⟩⟩
 have n21:p2≠p1:=fun z=>by subst z;rw [ak]at hp2;cases hp2
 have hp2':H p2=none:=by rw [ag n21]at hp2;exact hp2
 have s1:=aO hp1 (.dK [])
 have s2:=s1.trans (aO hp2 (.lst []))
 have s3:=s2.trans (aO hp3 (.tup [.ref p1,.ref p2]))
 have h32:bp (bp H p1 (.dK [])) p2 (.lst []) p1=some (.dK []):=by rw [ag (Ne.symm n21)];exact ak
 have n31:p1≠p3:=fun z=>by rw [←z,h32]at hp3;cases hp3
 have n32:p2≠p3:=fun z=>by rw [←z,ak]at hp3;cases hp3
 have e1r:((σ.set i (some (.ref p1))).set j (some (.ref p2)))[r]?=some (some (.ref l)):=by rw [gK jr,gK ir];exact hv
 refine⟨.ref l,e1r,l,rfl,⟨_,(aC s3 hrl).jX⟩,?_⟩
 refine B5 (xs:=ns.map V.int) (fun k σ' H'=>aG H H'∧H' p1=some (.dK (C6 (pI (ns.take k))))∧H' p2=some (.lst [])∧σ'.length=σ.length∧σ'[i]?=some (some (.ref p1))∧σ'[j]?=some (some (.ref p2))∧∀x,x∉[i,j,a,b]→σ'[x]?=σ[x]?) ?_ ?_ ?_ ?_
 ·refine⟨s3,?_,?_,by simp,?_,?_,fun x hx=> ?_⟩
  ·rw [ag n31];exact h32
  ·rw [ag n32];exact ak
  ·rw [gK (Ne.symm ij)];exact eE (lσ li)
  ·exact eE (by simpa using lσ lj)
  ·simp only [fY,List.not_mem_nil,or_false,not_or]at hx
   rw [gK (Ne.symm hx.2.1),gK (Ne.symm hx.1)]
 ·exact fun k σ' H' _ q=>(aC q.1 hrl).jX
 ·rintro k x p σ' H' hxk ⟨sm,q1,q2,ql,qi,qj,qo⟩ hp'
  have hk:k<ns.length:=by simpa using(j4.mp hxk).1
  rw [eK,jV hk]at hxk
  obtain rfl:V.int ns[k]=x:=cC hxk
  refine⟨p,_,rfl,qM.of ak,rfl,.int k,[.int ns[k]],rfl,.int ns[k],[],rfl,rfl,?_⟩
  have la':a<σ'.length:=by rw [ql];exact lσ la
  have lb':b<(σ'.set a (some (V.int k))).length:=by rw [sG,ql];exact lσ lb
  have hp1p:p1≠p:=fun z=>by rw [z,hp']at q1;cases q1
  refine⟨.int k,?_,.ref p1,?_,.int ns[k],?_,p1,ns[k],_,rfl,rfl,by rw [ag hp1p];exact q1,?_,?_⟩
  ·rw [gK (Ne.symm ab)];exact eE la'
  ·rw [gK (Ne.symm ib),gK (Ne.symm ia)];exact qi
  ·exact eE lb'
  ·have hs:=fm hz
   unfold C6 pI
   rw [b9,b9,List.length_zipIdx,kU,sizeLine_eq];lia
  ·have nm:ns[k]∉ns.take k:=fun hm=>by
    rw [←Ap k ns,uE hk]at nn
    exact(eX.mp nn).2.2 _ hm _ (lU ..) rfl
   have en:lh (C6 (pI (ns.take k))) (Sum.inl ns[k])=none:=by rw [iS,yC,aK nm];rfl
   have ek:sU (C6 (pI (ns.take k))) (Sum.inl ns[k]) (V.int k)=C6 (pI (ns.take (k+1))):=by
    rw [Be _ en,List.take_succ_eq_append_getElem hk,BG]
    unfold C6
    rw [oI,kU,Nat.min_eq_left (Nat.le_of_lt hk)];rfl
   show aG H _∧_
   rw [ek]
   refine⟨fun q u hq=> ?_,ak,?_,by simp [ql],?_,?_,fun x hx=> ?_⟩
   ·rw [ag (aD hq hp1),ag (aD (sm _ _ hq) hp')];exact sm _ _ hq
   ·rw [ag n21,ag (fun z=>by rw [z,hp']at q2;cases q2)];exact q2
   ·rw [gK (Ne.symm ib),gK (Ne.symm ia)];exact qi
   ·rw [gK (Ne.symm jb),gK (Ne.symm ja)];exact qj
   ·have hx':=hx
    simp only [fY,List.not_mem_nil,or_false,not_or]at hx
    rw [gK (Ne.symm hx.2.2.2),gK (Ne.symm hx.2.2.1)];exact qo x hx'
 ·rintro σ' H' ⟨sm,q1,q2,ql,qi,qj,qo⟩
  rw [b9,List.take_length]at q1
  have fp1:F p1=none:=R.fh.free hp1
  have fp2:F p2=none:=R.fh.free hp2'
  have R1:=R.grow (F':=bp F p1 (.dK (C6 (pI ns)))) sm (aO fp1 _) (fun q u hq=>by
   by_cases z:q=p1
   ·subst z;rw [ak]at hq;rw [q1,←hq]
   ·rw [ag z]at hq;exact sm _ _ (R.fh _ _ hq)) (fun q u hq hf=>by
   by_cases z:q=p1
   ·subst z;exact hp1
   ·rw [ag z,hf]at hq;cases hq)
  have R2:=(R1.drop a (hp.ne pa)).drop b (hp.ne pb)
  have R3:=R2.store (i:=i) (v:=.ref p1) (t:=.sh (.dic (pI ns))) (B:=[]) (hp.ne pi) (by simpa using li) (by simpa using hl) (.sh (.dic ak)) List.nodup_nil (fun _ _ _ _ z=>by simp at z) (by simp)
  have R4:=R3.store (i:=j) (v:=.ref p2) (t:=.ow []) (B:=[p2]) (hp.ne pj) (by simpa using lj) (by simpa using hl) (.ow q2 (by rw [ag n21];exact fp2) .nil) (by simp) (fun x c _ h1 h2=>by
   have e:c=p2:=by simpa using h2
   subst e
   have h1':c∈A x:=by
    have h1a:c∈(if x=i then []else(if x=b then []else(if x=a then []else A x))):=h1
    split at h1a
    ·simp at h1a
    ·split at h1a
     ·simp at h1a
     ·split at h1a
      ·simp at h1a
      ·exact h1a
   obtain⟨_,o,h3⟩:=R.at_ h1'
   rw [hp2']at h3;cases h3) (fun c hc=>by rw [show c=p2 by simpa using hc];exact R.new hp2')
  refine po σ' H' _ _ ?_ ql (fun k hk=>qo k hk) (aO fp1 _) (R4.chg (σ':=σ') fun x t hx=> ?_)
  ·simp [hl,ql]
  ·by_cases xj:x=j
   ·subst xj;rw [qj,eE (by simpa using lσ lj)]
   ·rw [gK (Ne.symm xj)]at hx⊢
    by_cases xi:x=i
    ·subst xi;rw [qi,eE (lσ li)]
    ·rw [gK (Ne.symm xi)]at hx⊢
     by_cases xb:x=b
     ·subst xb;rw [eE (by simpa using lb)]at hx;cases hx
     ·rw [gK (Ne.symm xb)]at hx
      by_cases xa:x=a
      ·subst xa;rw [eE la]at hx;cases hx
      ·exact qo x (by simp [xi,xj,xa,xb])
end
structure CS where
 cc:CC
 iot:List (Str×Nat×Nat)
noncomputable def Jz(c:CS)(n:Nat)(N:List Str)(sc:Scope)(e:Expr):Option (Nat×Nat×E):=match e with
 | .Call (.Name x _) args [] _=>if args.all b5&&gZ N sc x&& !args.isEmpty then(c.iot.lookup x).bind fun fk=>(gn (cE c.cc n true N sc) args).bind fun m=>((args[fk.2]?).bind fun a=>match a with
    | .Name y _=>cg N y
    |_=>none).map fun i=>(fk.1,i,m)else none
 |_=>none
noncomputable def c2:Expr→Option (Expr×Expr)
 | .Tuple [a,b] _ _=>some (a,b)
 |_=>none
theorem LZ(h:c2 e=some ab):∃k p,e=.Tuple [ab.1,ab.2] k p:=by
 unfold c2 at h
 split at h
 ·cases h;exact⟨_,_,rfl⟩
 ·cases h
noncomputable def OB(c:CS)(n:Nat)(N:List Str)(sc:Scope)(i:Nat)(a:Expr):Option S:=match c2 a with
 |some ab=>if b5 ab.1&&b5 ab.2 then(cE c.cc n true N sc ab.1).bind fun m1=>(cE c.cc n true N sc ab.2).map fun m2=> .appP i m1 m2 else none
 |none=>(cE c.cc n true N sc a).map (.app i)
noncomputable def vC:Expr→Option (Str×Pos)
 | .Name x p=>some (x,p)
 |_=>none
theorem cV(h:vC e=some q):e=.Name q.1 q.2:=by
 cases e<;>first|(cases h;rfl)|cases h
noncomputable def MF:Expr→Option (List Expr×Nat×Pos)
 | .Tuple a k p=>some (a,k,p)
 |_=>none
theorem xI(h:MF e=some q):e=.Tuple q.1 q.2.1 q.2.2:=by
 cases e<;>first|(cases h;rfl)|cases h
noncomputable def LR:Expr→Option (Expr×List Expr×List Keyword×Pos)
 | .Call f a k p=>some (f,a,k,p)
 |_=>none
theorem ue(h:LR e=some q):e=.Call q.1 q.2.1 q.2.2.1 q.2.2.2:=by
 cases e<;>first|(cases h;rfl)|cases h
noncomputable def MG:Expr→Option (Expr×Str×Pos)
 | .Attribute o m p=>some (o,m,p)
 |_=>none
theorem xJ(h:MG e=some q):e=.Attribute q.1 q.2.1 q.2.2:=by
 cases e<;>first|(cases h;rfl)|cases h
noncomputable def ND:Expr→Option (Expr×Expr×Pos)
 | .Subscript o k p=>some (o,k,p)
 |_=>none
theorem Cp(h:ND e=some q):e=.Subscript q.1 q.2.1 q.2.2:=by
 cases e<;>first|(cases h;rfl)|cases h
noncomputable def Oz:Expr→Option (Expr×Operator×Expr×Pos)
 | .BinOp a o b p=>some (a,o,b,p)
 |_=>none
theorem IC(h:Oz e=some q):e=.BinOp q.1 q.2.1 q.2.2.1 q.2.2.2:=by
 cases e<;>first|(cases h;rfl)|cases h
noncomputable def Oy:Expr→Option (List (Option Expr)×List Expr×Pos)
 | .Dict a b p=>some (a,b,p)
 |_=>none
theorem IB(h:Oy e=some q):e=.Dict q.1 q.2.1 q.2.2:=by
 cases e<;>first|(cases h;rfl)|cases h
noncomputable def Ov:Expr→Option (List Expr×Pos)
 | .List a p=>some (a,p)
 |_=>none
theorem Iy(h:Ov e=some q):e=.List q.1 q.2:=by
 cases e<;>first|(cases h;rfl)|cases h
noncomputable def Ow:Expr→Option (Expr×List Comprehension×Scope×Pos)
 | .ListComp a g s p=>some (a,g,s,p)
 |_=>none
theorem Iz(h:Ow e=some q):e=.ListComp q.1 q.2.1 q.2.2.1 q.2.2.2:=by
 cases e<;>first|(cases h;rfl)|cases h
noncomputable def NF:Stmt→Option (List Expr×Expr×Pos)
 | .Assign a e p=>some (a,e,p)
 |_=>none
theorem Cr(h:NF e=some q):e=.Assign q.1 q.2.1 q.2.2:=by
 cases e<;>first|(cases h;rfl)|cases h
noncomputable def Ox:Stmt→Option (Expr×Expr×List Stmt×List Stmt×Pos)
 | .For a b c d p=>some (a,b,c,d,p)
 |_=>none
theorem IA(h:Ox e=some q):e=.For q.1 q.2.1 q.2.2.1 q.2.2.2.1 q.2.2.2.2:=by
 cases e<;>first|(cases h;rfl)|cases h
noncomputable def l1{α:Type}:List α→Option α
 |[a]=>some a
 |_=>none
theorem lC{α:Type}{l:List α}{a:α}(h:l1 l=some a):l=[a]:=by
 cases l with
 |nil=>cases h
 |cons b l=>
  cases l with
  |nil=>cases h;rfl
  |cons c l=>cases h
noncomputable def l2{α:Type}:List α→Option (α×α)
 |[a,b]=>some (a,b)
 |_=>none
theorem vt{α:Type}{l:List α}{q:α×α}(h:l2 l=some q):l=[q.1,q.2]:=by
 cases l with
 |nil=>cases h
 |cons b l=>
  cases l with
  |nil=>cases h
  |cons c l=>
   cases l with
   |nil=>cases h;rfl
   |cons d l=>cases h
noncomputable def l0{α:Type}(l:List α):Option Unit:=if l.isEmpty then some ()else none
theorem jd{α:Type}{l:List α}(h:l0 l=some u):l=[]:=by
 cases l with
 |nil=>rfl
 |cons b l=>cases h
noncomputable def NI(c:CS)(n:Nat)(N:List Str)(sc:Scope)(x m:Str)(a:Expr):Option S:=
 if m==("append":Str)then(if j7 x then(cg N x).bind fun i=>OB c n N sc i a else none)
 else if m==("extend":Str)then(if j7 x then(cg N x).bind fun i=>(cE c.cc n true N sc a).map (.ext i)else none)
 else if m==("unmark":Str)then(if j7 x then(cg N x).bind fun i=>(gn (cE c.cc n true N sc) [a]).map fun ma=> .mio i 1 ma else none)
 else none
noncomputable def cM(c:CS)(n:Nat)(N:List Str)(sc:Scope)(o:Expr)(m:Str)(args:List Expr):Option S:=match vC o with
 |some x=>(match l1 args with
  |some a=>NI c n N sc x.1 m a
  |none=>(l2 args).bind fun ka=>if m==("insert":Str)then(if j7 x.1 then(cg N x.1).bind fun i=>(cE c.cc n true N sc ka.1).bind fun mk=>(cE c.cc n true N sc ka.2).map fun ma=> .ins i mk ma else none)else none)
 |none=>(match MG o with
  |some q=>(vC q.1).bind fun x=>(match l1 args with
   |some a=>if m==("append":Str)&&j7 x.1&&vV.contains q.2.1 then(cg N x.1).bind fun i=>(cE c.cc n true N sc a).map (.appF i q.2.1)else none
   |none=>(l0 args).bind fun _=>if m==("pop":Str)&&j7 x.1&&vV.contains q.2.1 then(cg N x.1).map fun i=> .popF i q.2.1 else none)
  |none=>(ND o).bind fun q=>(l1 args).bind fun a=>(match vC q.1 with
   |some x=>if m==("append":Str)&&j7 x.1&&b5 q.2.1 then(cg N x.1).bind fun i=>(cE c.cc n true N sc q.2.1).bind fun mk=>(cE c.cc n true N sc a).map fun ma=> .appAt i mk ma else none
   |none=>(MG q.1).bind fun w=>(vC w.1).bind fun x=>if m==("append":Str)&&j7 x.1&&b5 q.2.1&&vV.contains w.2.1 then(cg N x.1).bind fun i=>(cE c.cc n true N sc q.2.1).bind fun mk=>(cE c.cc n true N sc a).map fun ma=> .appFA i w.2.1 mk ma else none))
noncomputable def cX(c:CS)(n:Nat)(N:List Str)(sc:Scope)(e:Expr):Option S:=match e with
 | .Call (.Attribute o m apos) args [] cpos=>if args.all b5&&mJ apos cpos&&eU o then cM c n N sc o m args else none
 | .Call (.Name x p) args [] q=>(cE c.cc n true N sc (.Call (.Name x p) args [] q)).map .drop
 |_=>none
noncomputable def II(c:CS)(n:Nat)(N:List Str)(sc:Scope)(e:Expr):Option (Bool×Nat×Nat×E):=match e with
 | .UnaryOp .Not a _=>(Jz c n N sc a).map fun r=>(true,r)
 |a=>(Jz c n N sc a).map fun r=>(false,r)
noncomputable def Eg(sc:Scope)(ts:List (Str×Pos))(vs:List Expr):Option Bool:=match ts with
 |[(x,px),(y,py)]=>if decide (sc.names.lookup x=some .local)&&decide (sc.names.lookup y=some .local)&&px.line==py.line then(if vs.all (foldedForSure 8)then some false else if vs.all (constantsAlone 8)then none else some true)else some false
 |_=>none
noncomputable def IS(e:Expr):Option ((Str×Str×Str)×(Expr×Expr×Expr)×Scope):=(LR e).bind fun q=>(vC q.1).bind fun a=>(l0 q.2.2.1).bind fun _=>(l1 q.2.1).bind fun b=>(Ow b).bind fun l=>(LR l.1).bind fun d=>(vC d.1).bind fun g=>(l0 d.2.2.1).bind fun _=>(l2 d.2.1).bind fun es=>(l1 l.2.1).bind fun cp=>(vC cp.target).bind fun x=>(l0 cp.ifs).bind fun _=>if cp.is_async=0 then some ((a.1,g.1,x.1),(es.1,es.2,cp.iter),l.2.2.1)else none
theorem Ff(h:IS e=some r):∃pa pg pc px pl p2,e=.Call (.Name r.1.1 pa) [.ListComp (.Call (.Name r.1.2.1 pg) [r.2.1.1,r.2.1.2.1] [] pc) [⟨.Name r.1.2.2 px,r.2.1.2.2,[],0⟩] r.2.2 pl] [] p2:=by
 unfold IS at h
 obtain⟨q,h1,h⟩:=af h
 obtain⟨a,h2,h⟩:=af h
 obtain⟨_,h3,h⟩:=af h
 obtain⟨b,h4,h⟩:=af h
 obtain⟨l,h5,h⟩:=af h
 obtain⟨d,h6,h⟩:=af h
 obtain⟨g,h7,h⟩:=af h
 obtain⟨_,h8,h⟩:=af h
 obtain⟨es,h9,h⟩:=af h
 obtain⟨cp,h10,h⟩:=af h
 obtain⟨x,h11,h⟩:=af h
 obtain⟨_,h12,h⟩:=af h
 split at h
 ·rename_i h13
  cases h
  refine⟨a.2,g.2,d.2.2.2,x.2,l.2.2.2,q.2.2.2,?_⟩
  rw [ue h1,cV h2,jd h3,lC h4,Iz h5,ue h6,cV h7,jd h8,vt h9,lC h10]
  obtain⟨tg,it,ifs,as⟩:=cp
  rw [show tg=_ from cV h11,show ifs=_ from jd h12,show as=0 from h13]
 ·cases h
noncomputable def Fe(c:CS)(n:Nat)(N:List Str)(sc:Scope)(e:Expr):Option (Nat×Nat×E):=(IS e).bind fun r=>
 if gZ N sc r.1.1&&(r.1.1==("all":Str))&&b5 r.2.1.2.2&&(b5 r.2.1.1&&b5 r.2.1.2.1)then(c.iot.lookup r.1.2.1).bind fun fk=>if fk.2==1&&gZ (r.1.2.2::bK r.2.2.names) r.2.2 r.1.2.1 then
  (lu N (bK r.2.2.names)).bind fun is=>if qh sc N r.2.2 r.1.2.2 (bK r.2.2.names) is then
    (cE c.cc n false (r.1.2.2::bK r.2.2.names) r.2.2 r.2.1.1).bind fun m1=>(cE c.cc n false (r.1.2.2::bK r.2.2.names) r.2.2 r.2.1.2.1).bind fun m2=>if rN m1 0&&rN m2 1 then
      (is.head?).bind fun i=>(cI false (gZ N sc) (fun y=>(c.cc.tab.lookup y).isSome) (cE c.cc n true N sc) r.2.1.2.2).map fun mi=>(fk.1,i,mi)else none
  else none else none else none
noncomputable def NN(c:CS)(n:Nat)(N:List Str)(sc:Scope)(e:Expr):Option (E×E):=(Oz e).bind fun q=>(LR q.2.2.1).bind fun d=>(MG d.1).bind fun o=>(l0 d.2.1).bind fun _=>(l0 d.2.2.1).bind fun _=>if decide (q.2.1=.LShift)&&(o.2.1==("bit_length":Str))&&mJ o.2.2 d.2.2.2&&eU o.1 then(cE c.cc n true N sc q.1).bind fun ma=>(cE c.cc n true N sc o.1).map fun mo=>(ma,mo)else none
noncomputable def NM(st:Stmt):Option ((Str×Pos)×(Str×Pos)×Pos×Pos):=(NF st).bind fun q=>(l1 q.1).bind fun tg=>(MF tg).bind fun tu=>(l2 tu.1).bind fun xy=>(vC xy.1).bind fun x=>(vC xy.2).bind fun y=>(MF q.2.1).bind fun tv=>(l2 tv.1).bind fun ab=>(Oy ab.1).bind fun d=>(l0 d.1).bind fun _=>(l0 d.2.1).bind fun _=>(Ov ab.2).bind fun l=>(l0 l.1).map fun _=>(x,y,d.2.2,l.2)
theorem IQ(h:NM st=some r):∃kt pt k2 p3 p4,st=.Assign [.Tuple [.Name r.1.1 r.1.2,.Name r.2.1.1 r.2.1.2] kt pt] (.Tuple [.Dict [] [] r.2.2.1,.List [] r.2.2.2] k2 p3) p4:=by
 unfold NM at h
 obtain⟨q,h1,h⟩:=af h
 obtain⟨tg,h2,h⟩:=af h
 obtain⟨tu,h3,h⟩:=af h
 obtain⟨xy,h4,h⟩:=af h
 obtain⟨x,h5,h⟩:=af h
 obtain⟨y,h6,h⟩:=af h
 obtain⟨tv,h7,h⟩:=af h
 obtain⟨ab,h8,h⟩:=af h
 obtain⟨d,h9,h⟩:=af h
 obtain⟨_,h10,h⟩:=af h
 obtain⟨_,h11,h⟩:=af h
 obtain⟨l,h12,h⟩:=af h
 obtain⟨_,h13,rfl⟩:=aM h
 refine⟨tu.2.1,tu.2.2,tv.2.1,tv.2.2,q.2.2,?_⟩
 rw [Cr h1,lC h2,xI h3,vt h4,cV h5,cV h6,xI h7,vt h8,IB h9,jd h10,jd h11,Iy h12,jd h13]
noncomputable def NL(st:Stmt):Option ((Str×Str×Str×Str)×Str×Str×Str):=(Ox st).bind fun q=>(MF q.1).bind fun tu=>(l2 tu.1).bind fun ab=>(vC ab.1).bind fun a=>(vC ab.2).bind fun b=>(LR q.2.1).bind fun c=>(vC c.1).bind fun en=>(l1 c.2.1).bind fun r0=>(vC r0).bind fun r=>(l0 c.2.2.1).bind fun _=>(l1 q.2.2.1).bind fun s1=>(l0 q.2.2.2.1).bind fun _=>(NF s1).bind fun z=>(l1 z.1).bind fun sb=>(ND sb).bind fun su=>(vC su.1).bind fun x2=>(vC su.2.1).bind fun b2=>(vC z.2.1).map fun a2=>((a.1,b.1,en.1,r.1),x2.1,b2.1,a2.1)
theorem IP(h:NL st=some w):∃pa pb k3 p5 pe pr p6 p7 p8 p9 p10 p11 p12,st=.For (.Tuple [.Name w.1.1 pa,.Name w.1.2.1 pb] k3 p5) (.Call (.Name w.1.2.2.1 pe) [.Name w.1.2.2.2 pr] [] p6) [.Assign [.Subscript (.Name w.2.1 p7) (.Name w.2.2.1 p8) p9] (.Name w.2.2.2 p10) p11] [] p12:=by
 unfold NL at h
 obtain⟨q,h1,h⟩:=af h
 obtain⟨tu,h2,h⟩:=af h
 obtain⟨ab,h3,h⟩:=af h
 obtain⟨a,h4,h⟩:=af h
 obtain⟨b,h5,h⟩:=af h
 obtain⟨c,h6,h⟩:=af h
 obtain⟨en,h7,h⟩:=af h
 obtain⟨r0,h8,h⟩:=af h
 obtain⟨r,h9,h⟩:=af h
 obtain⟨_,h10,h⟩:=af h
 obtain⟨s1,h11,h⟩:=af h
 obtain⟨_,h12,h⟩:=af h
 obtain⟨z,h13,h⟩:=af h
 obtain⟨sb,h14,h⟩:=af h
 obtain⟨su,h15,h⟩:=af h
 obtain⟨x2,h16,h⟩:=af h
 obtain⟨b2,h17,h⟩:=af h
 obtain⟨a2,h18,rfl⟩:=aM h
 refine⟨a.2,b.2,tu.2.1,tu.2.2,en.2,r.2,c.2.2.2,x2.2,b2.2,su.2.2,a2.2,z.2.2,q.2.2.2.2,?_⟩
 rw [IA h1,xI h2,vt h3,cV h4,cV h5,ue h6,cV h7,lC h8,cV h9,jd h10,lC h11,jd h12,Cr h13,lC h14,Cp h15,cV h16,cV h17,cV h18]
noncomputable def E5(N:List Str)(sc:Scope)(st:Stmt)(aV:List Stmt):Option (S×List Stmt):=(aV.head?).bind fun s2=>(NM st).bind fun r=>(NL s2).bind fun w=>
 if(w.1.2.2.1==("enumerate":Str))&&gZ N sc w.1.2.2.1&&(j7 r.1.1&&j7 r.2.1.1&&j7 w.1.1&&j7 w.1.2.1&&j7 w.1.2.2.2)&&(w.2.1==r.1.1&&w.2.2.1==w.1.2.1&&w.2.2.2==w.1.1)&&decide (r.1.1≠r.2.1.1)&&decide (Eg sc [r.1,r.2.1] [.Dict [] [] r.2.2.1,.List [] r.2.2.2]=some false)then
  (cg N r.1.1).bind fun i=>(cg N r.2.1.1).bind fun j=>(cg N w.1.1).bind fun ka=>(cg N w.1.2.1).bind fun kb=>(cg N w.1.2.2.2).map fun kr=>(.dic i j ka kb kr,aV.tail)else none
noncomputable def NP(c:CS)(n:Nat)(N:List Str)(sc:Scope)(ts:List Expr)(e:Expr):Option S:=match ts with
 |[.Name x px]=>if j7 x then(cg N x).bind fun i=>match NN c n N sc e with
  |some q=>some (.asg i (.bin .LShift q.1 (.un .bitl q.2)))
  |none=>(cE c.cc n true N sc e).map (.asg i)else none
 |[.Tuple [.Name x px,.Name y py] _ _]=>(match e with
  | .Tuple [a,b] _ _=>if j7 x&&j7 y&&b5 a&&b5 b then(cg N x).bind fun i=>(cg N y).bind fun j=>(cE c.cc n true N sc a).bind fun m=>(cE c.cc n true N sc b).bind fun l=>(Eg sc [(x,px),(y,py)] [a,b]).map fun _=> .asg2 i j m l else none
  |_=>none)
 |[.Subscript (.Name x _) k _]=>if j7 x&&b5 k&& !kI e then(cg N x).bind fun i=>(cE c.cc n true N sc k).bind fun mk=>(cE c.cc n true N sc e).map fun m=> .set i mk m else none
 |[.Attribute (.Name x _) f _]=>if j7 x&&vV.contains f&& !kI e then(cg N x).bind fun i=>(cE c.cc n true N sc e).map (.fst i f)else none
 |_=>none
noncomputable def NO(c:CS)(n:Nat)(N:List Str)(sc:Scope)(t:Expr)(op:Operator)(e:Expr):Option S:=match t with
 | .Name x _=>if j7 x then(cg N x).bind fun i=>(cE c.cc n true N sc e).map fun m=> .aug i op m else none
 | .Subscript (.Name x _) k _=>if j7 x&&b5 k then(cg N x).bind fun i=>(cE c.cc n true N sc k).bind fun mk=>(cE c.cc n true N sc e).map fun m=> .augS i op mk m else none
 | .Subscript (.Attribute (.Name x _) f _) k _=>if j7 x&&vV.contains f&&b5 k then(cg N x).bind fun i=>(cE c.cc n true N sc k).bind fun mk=>(cE c.cc n true N sc e).map fun m=> .augF i f op mk m else none
 |_=>none
noncomputable def NJ(c:CS)(n:Nat)(N:List Str)(sc:Scope)(rc:List Stmt→Option S)(t:Expr)(a b:List Stmt):Option S:=(rc a).bind fun ma=>(rc b).bind fun mb=>match II c n N sc t with
 |some (ng,f,i,m)=>some (.ifio ng f i m ma mb)
 |none=>if oo t then(cE c.cc n true N sc t).map fun mt=> .ife mt ma mb else none
noncomputable def NK(c:CS)(n:Nat)(N:List Str)(sc:Scope)(rc:List Stmt→Option S)(t it:Expr)(body:List Stmt):Option S:=match t with
 | .Name x _=>if j7 x&&b5 it then(cg N x).bind fun i=>(cI false (gZ N sc) (fun y=>(c.cc.tab.lookup y).isSome) (cE c.cc n true N sc) it).bind fun mi=>(rc body).map fun mb=> .for1 i mi mb else none
 | .Tuple [.Name x _,.Name y _] _ _=>if j7 x&&j7 y&&b5 it then(cg N x).bind fun i=>(cg N y).bind fun j=>(cI true (gZ N sc) (fun y=>(c.cc.tab.lookup y).isSome) (cE c.cc n true N sc) it).bind fun mi=>(rc body).map fun mb=> .for2 i j mi mb else none
 |_=>none
noncomputable def NG(c:CS)(n:Nat)(N:List Str)(sc:Scope)(rc:List Stmt→Option S)(t:Expr)(body:List Stmt):Option S:=if oo t then(cE c.cc n true N sc t).bind fun mt=>(rc body).map fun mb=> .wh mt mb else none
noncomputable def FI(els:List Stmt)(o:Option S):Option S:=match els with
 |[]=>o
 |_=>none
noncomputable def OU(c:CS)(n:Nat)(N:List Str)(sc:Scope)(o:Option Expr):Option S:=match o with
 |some e=>(match E7 c.cc n N sc e with
  |some m=>some (.retC m)
  |none=>(match Fe c n N sc e with
   |some (f,i,m)=>some (.retAll f i m)
   |none=>(cE c.cc n true N sc e).map .ret))
 |none=>some .retN
noncomputable def NH(c:CS)(n:Nat)(N:List Str)(sc:Scope)(rc:List Stmt→Option S)(st:Stmt):Option S:=match st with
 | .Pass _=>some .nop
 | .Expr e _=>cX c n N sc e
 | .Assign ts e _=>NP c n N sc ts e
 | .AugAssign t op e _=>NO c n N sc t op e
 | .If t a b _=>NJ c n N sc rc t a b
 | .For t it body els _=>FI els (NK c n N sc rc t it body)
 | .While t body els _=>FI els (NG c n N sc rc t body)
 | .Return o _=>OU c n N sc o
 | .Raise _ _ _=>some .raise
 |_=>none
noncomputable def vZ(c:CS):Nat→List Str→Scope→List Stmt→Option S
 |0,_,_,_=>none
 |n+1,N,sc,l=>match l with
  |[]=>some .nop
  |st::aV=>match E5 N sc st aV with
   |some q=>(vZ c n N sc q.2).map fun b=> .seq q.1 b
   |none=>(NH c n N sc (vZ c n N sc) st).bind fun a=>(vZ c n N sc aV).map fun b=> .seq a b
structure SSees(X:Cx)(cl:Nat→Option Addr)(c:CS)(Γ:bu)(Δ:gH)(N:List Str)(sc:Scope):Prop where
 S:Sees X cl c.cc Γ true N sc
 hΓ:∀x f,c.cc.tab.lookup x=some f→∃g,Γ f=some g
 nd:N.Nodup
 loc:∀(i:Nat) (x:Str),N[i]?=some x→JC X.env.scope x
 fn:∀x,X.fn x=true
 kd:X.env.scope.kind=.function
 pw:PassesOwn (model X.prog X.w) X.A X.env X.xe
 io:∀x f k,c.iot.lookup x=some (f,k)→∃g,Δ f=some (k,g)∧GoodIO X cl x k g
 mio:∀d C k m g,uB[k]?=some m→cl d=some C→Δ (jZ d k)=some (0,g)→GoodMIO X cl C m g
theorem kE{t':TS}(h:PS X st t)(i:∀D σ H,t' D σ H→t D σ H):PS X st t':=fun pins s σ H D I q=>h pins s σ H D I (i D σ H q)
theorem G7{t':TS}(h:uA X st t)(i:∀D σ H,t' D σ H→t D σ H):uA X st t':=fun pins s σ H D I q=>h pins s σ H D I (i D σ H q)
section
variable{X:Cx}{cl:Nat→Option Addr}{c:CS}{Γ:bu}{Δ:gH}{pio:Option Nat}{N:List Str}{sc:Scope}
theorem SSees.bk(S:SSees X cl c Γ Δ N sc):X.env.blockKind=.function:=by unfold PySem.Env.blockKind;rw [S.kd];rfl
theorem IF(S:SSees X cl c Γ Δ N sc)(h:Jz c n N sc e=some (f,i,m)):PE X e (tIOC X.K cl Γ Δ pio f i m):=by
 unfold Jz at h
 split at h
 ·rename_i x p args q
  split at h
  ·rename_i ok
   obtain⟨ok,ne⟩:=bg ok
   obtain⟨ok,gx⟩:=bg ok
   obtain⟨⟨f',k⟩,h1,h⟩:=af h
   obtain⟨m',h2,h⟩:=af h
   obtain⟨i',h3,h4⟩:=aM h
   cases h4
   obtain⟨g,hg,G⟩:=S.io x _ _ h1
   obtain⟨o1,g1⟩:=bQ gx
   cases args with
   |nil=>cases ne
   |cons e es=>exact Hk (S.S.gl x g1) (ik o1).1 G hg (FH (fun e i h=>lg S.S h) (fun e m h=>(dR S.hΓ n true N sc e m X S.S h).1) ok h2) ok
  ·cases h
 ·cases h
theorem oF(h:eU o=true)(name:Str)(env:PySem.Env):attributeBase o name env (eval o env)=eval o env:=by
 unfold attributeBase
 split
 ·rename_i id p pos
  cases h
 ·rfl
theorem gU{o a:Expr}{m:Str}{id:String}{r:V→List V→Hp→VK→Prop}{to ta:TE}{apos cpos:Pos}(slot:Slot "list" m id)(hty:typeOf (.builtin id)=pure (.type "method_descriptor"))(hm:Jn X id r)(ho:PE X o to)(ha:PE X a ta)(oa:b5 a=true)(bm:mJ apos cpos=true)(ao:eU o=true):
 PE X (.Call (.Attribute o m apos) [a] [] cpos) (CW X.K "list" r to (bI ta fZ)):=
 Bz PySem.F.plainAttrs_list slot hty hm ho (ay ha aY (ah oa _ _)) (oF ao _ _) (t5 (es:=[a]) (by rw [List.all_cons,oa];rfl) _ _ (by simp)) bm (ah oa _ _) rfl
theorem Bs{o a b:Expr}{m:Str}{id:String}{r:V→List V→Hp→VK→Prop}{to ta tb:TE}{apos cpos:Pos}(slot:Slot "list" m id)(hty:typeOf (.builtin id)=pure (.type "method_descriptor"))(hm:Jn X id r)(ho:PE X o to)(ha:PE X a ta)(hb:PE X b tb)(oa:b5 a=true)(ob:b5 b=true)(bm:mJ apos cpos=true)(ao:eU o=true):
 PE X (.Call (.Attribute o m apos) [a,b] [] cpos) (CW X.K "list" r to (bI ta (bI tb fZ))):=
 Bz PySem.F.plainAttrs_list slot hty hm ho (ay ha (ay hb aY (ah ob _ _)) (ah oa _ _)) (oF ao _ _) (t5 (es:=[a,b]) (by rw [List.all_cons,List.all_cons,oa,ob];rfl) _ _ (by simp)) bm (ah oa _ _) (cW (es:=[b]) (by rw [List.all_cons,ob];rfl) _ _)
end
section
variable{X:Cx}{cl:Nat→Option Addr}{c:CS}{Γ:bu}{Δ:gH}{pio:Option Nat}{N:List Str}{sc:Scope}
theorem SSees.pv(S:SSees X cl c Γ Δ N sc)(ok:j7 x=true)(h:cg N x=some i):PE X (.Name x p) (eL i):=by
 have hN:=cG h
 obtain⟨n1,n2,n3⟩:=ik ok
 exact wL (by rw [S.S.hN];exact hN) (S.S.vis i x hN) n1 n2
theorem SSees.pg(S:SSees X cl c Γ Δ N sc)(h:cg N x=some i):PG X (.Name x p) (fT i):=by
 have hN:=cG h
 exact yn (i:=i) (by rw [S.S.hN];exact S.nd) (by rw [S.S.hN];exact hN) (S.loc i x hN) (.inl (S.fn x))
theorem D8(ho:PE X o (tV X.K cl Γ mo))(ao:eU o=true)(bm:mJ apos cpos=true):PE X (.Call (.Attribute o "bit_length" apos) [] [] cpos) (tV X.K cl Γ (.un .bitl mo)):=by
 refine fj (By PySem.F.plainAttrs_int PySem.F.slot_int_bit_length PySem.F.type_int_bit_length El ho (oF ao _ _) bm) fun σ H Q ⟨G,env,d,sg,en,e,q⟩=> ?_
 obtain⟨x,e1,e2⟩:=af (show(ev Γ mo env).bind (iG .bitl)=some d from e)
 refine⟨G,env,x,sg,en,e1,fun v H' G' x1 d1=> ?_⟩
 cases x with
 |int i=>cases e2;cases d1;exact⟨rfl,i,rfl,rfl,q _ H' G' x1 (.int _)⟩
 |_=>cases e2
theorem BL(h:dI .LShift x y=some d):scal d=true:=by
 cases x<;>cases y<;>first
  |(cases h;done)
  |(rename_i i j
    replace h:(if yj i j then some (D.int (i*2 ^ j.toNat))else none)=some d:=h
    split at h
    ·cases h;rfl
    ·cases h)
theorem IR(S:SSees X cl c Γ Δ N sc)(h:NN c n N sc e=some q):PE X e (tX X.K cl Γ pio (.bin .LShift q.1 (.un .bitl q.2)))∧kI e=false:=by
 have pe:=fun e m (h:cE c.cc n true N sc e=some m)=>(dR S.hΓ n true N sc e m X S.S h).1
 unfold NN at h
 obtain⟨⟨a,op,b,pos⟩,k1,h⟩:=af h
 obtain⟨⟨f,as,ks,cpos⟩,k2,h⟩:=af h
 obtain⟨⟨o,m,apos⟩,k3,h⟩:=af h
 obtain⟨_,k4,h⟩:=af h
 obtain⟨_,k5,h⟩:=af h
 split at h
 ·rename_i ok
  obtain⟨ok,ao⟩:=bg ok
  obtain⟨ok,bm⟩:=bg ok
  obtain⟨ho,hm⟩:=bg ok
  have ho:op=.LShift:=fm ho
  have hm:m="bit_length":=by simpa using hm
  have k1:e=.BinOp a op b pos:=IC k1
  have k2:b=.Call f as ks cpos:=ue k2
  have k3:f=.Attribute o m apos:=xJ k3
  have k4:as=[]:=jd k4
  have k5:ks=[]:=jd k5
  rw [k1,k2,k3,k4,k5,ho,hm]
  obtain⟨ma,h1,h⟩:=af h
  obtain⟨mo,h2,rfl⟩:=aM h
  have pv:PE X (.BinOp a .LShift (.Call (.Attribute o "bit_length" apos) [] [] cpos) pos) (tV X.K cl Γ (.bin .LShift ma (.un .bitl mo))):=fj (Bp (BB (cl:=cl) .LShift) (pe a ma h1) (D8 (pe o mo h2) ao bm)) fun σ H Q q=>Ka (fun _=>rfl) q
  refine⟨fun pins s σ H Q I ⟨H₀,G₀,io,F,A,env,t,env',hp,hl,R,ev',q⟩=> ?_,rfl⟩
  rw [dm rfl]at ev'
  obtain⟨d,ed,ev'⟩:=af ev'
  have sc':scal d=true:=by
   obtain⟨x,_,z⟩:=af (show(ev Γ ma (ae env)).bind (fun x=>(ev Γ (.un .bitl mo) (ae env)).bind fun y=>dI .LShift x y)=some d from ed)
   obtain⟨y,_,z⟩:=af z
   exact BL z
  rw [aF sc']at ev'
  cases ev'
  exact pv pins s σ H Q I ⟨H,_,d,.refl _,R.vY,ed,fun v H' G' x dv=>q v H' F A [] hl (.of_same x.hh) (R.same x.hh) (.sh (dv.scal sc' F)) List.nodup_nil (by simp)⟩
 ·cases h
theorem Ol(ok:b5 k=true):za k:=fun _ _=>by cases k<;>first|rfl|cases ok
theorem IM(S:SSees X cl c Γ Δ N sc)(ok:b5 a=true)(bm:mJ apos cpos=true)(ao:eU (.Name x p)=true)(h:NI c n N sc x m a=some s):
 PS X (.Expr (.Call (.Attribute (.Name x p) m apos) [a] [] cpos) pos) (tS X.K cl Γ Δ pio s):=by
 have pe:=fun e m (h:cE c.cc n true N sc e=some m)=>(dR S.hΓ n true N sc e m X S.S h).1
 have px:=fun e m (h:cE c.cc n true N sc e=some m)=>qc (pio:=pio) S.hΓ S.S h
 unfold NI at h
 split at h
 ·rename_i hm
  have hm:m="append":=by simpa using hm
  rw [hm]
  split at h
  ·rename_i ox
   obtain⟨i,hi,h⟩:=af h
   unfold OB at h
   split at h
   ·rename_i ab hab
    split at h
    ·rename_i o12
     obtain⟨o1,o2⟩:=bg o12
     obtain⟨m1,h1,h⟩:=af h
     obtain⟨m2,h2,rfl⟩:=aM h
     obtain⟨k2,p2,ea⟩:=LZ hab
     have pt:PE X a (AH (bI (tV X.K cl Γ m1) (bI (tV X.K cl Γ m2) fZ))):=by rw [ea];exact sZ (ay (pe _ m1 h1) (ay (pe _ m2 h2) aY (ah o2 _ _)) (ah o1 _ _))
     exact kE (eo (gU PySem.F.slot_list_append PySem.F.type_list_append ft (S.pv ox hi) pt ok bm ao) rfl) fun D σ H q=>GT q
    ·cases h
   ·obtain⟨ma,h1,rfl⟩:=aM h
    exact kE (eo (gU PySem.F.slot_list_append PySem.F.type_list_append ft (S.pv ox hi) (px a ma h1) ok bm ao) rfl) fun D σ H q=>KC q
  ·cases h
 ·split at h
  ·rename_i hm
   have hm:m="extend":=by simpa using hm
   rw [hm]
   split at h
   ·rename_i ox
    obtain⟨i,hi,h⟩:=af h
    obtain⟨ma,h1,rfl⟩:=aM h
    exact kE (eo (gU PySem.F.slot_list_extend PySem.F.type_list_extend wW (S.pv ox hi) (px a ma h1) ok bm ao) rfl) fun D σ H q=>Kz q
   ·cases h
  ·split at h
   ·rename_i hm
    have hm:m="unmark":=by simpa using hm
    rw [hm]
    split at h
    ·rename_i ox
     obtain⟨i,hi,h⟩:=af h
     obtain⟨ma,h1,rfl⟩:=aM h
     have ok1:[a].all b5=true:=by rw [cK,ok];rfl
     exact G9 S.S.cls S.mio rfl (by decide) (S.pv ox hi) (dH (fun e _ m h=>pe e m h) ok1 h1) ok1 (by simp) bm
    ·cases h
   ·cases h
theorem LW(S:SSees X cl c Γ Δ N sc){args:List Expr}(ok:args.all b5=true)(bm:mJ apos cpos=true)(ao:eU o=true)(h:cM c n N sc o m args=some s):
 PS X (.Expr (.Call (.Attribute o m apos) args [] cpos) pos) (tS X.K cl Γ Δ pio s):=by
 have pe:=fun e m (h:cE c.cc n true N sc e=some m)=>(dR S.hΓ n true N sc e m X S.S h).1
 have px:=fun e m (h:cE c.cc n true N sc e=some m)=>qc (pio:=pio) S.hΓ S.S h
 have ap:∀ {m:Str} (ok:Bool),(m==("append":Str)&&ok)=true→m="append"∧ok=true:=fun {m} ok h=>by
  obtain⟨h1,h2⟩:=bg h
  exact⟨by simpa using h1,h2⟩
 unfold cM at h
 split at h
 ·rename_i x hx
  have hx:=cV hx
  split at h
  ·rename_i a ha
   have ha:=lC ha
   rw [ha,cK,Bool.and_eq_true]at ok
   rw [hx]at ao
   rw [hx,ha]
   exact IM S ok.1 bm ao h
  ·obtain⟨ka,ha,h⟩:=af h
   have ha:=vt ha
   rw [ha,cK,Bool.and_eq_true,cK,Bool.and_eq_true]at ok
   split at h
   ·rename_i hm
    have hm:m="insert":=by simpa using hm
    split at h
    ·rename_i ox
     obtain⟨i,hi,h⟩:=af h
     obtain⟨mk,h1,h⟩:=af h
     obtain⟨ma,h2,rfl⟩:=aM h
     rw [hx]at ao
     rw [hx,ha,hm]
     exact kE (eo (Bs PySem.F.slot_list_insert PySem.F.type_list_insert zM (S.pv ox hi) (pe _ mk h1) (pe _ ma h2) ok.1 ok.2.1 bm ao) rfl) fun D σ H q=>Kw q
    ·cases h
   ·cases h
 split at h
 ·rename_i q hq
  have hq:=xJ hq
  obtain⟨x,hx,h⟩:=af h
  have hx:=cV hx
  split at h
  ·rename_i a ha
   have ha:=lC ha
   rw [ha,cK,Bool.and_eq_true]at ok
   split at h
   ·rename_i hm
    obtain⟨hm,hf⟩:=bg hm
    obtain⟨hm,ox⟩:=ap _ hm
    obtain⟨i,hi,h⟩:=af h
    obtain⟨ma,h1,rfl⟩:=aM h
    rw [hq,hx]at ao
    rw [hq,hx,ha,hm]
    exact kE (eo (gU PySem.F.slot_list_append PySem.F.type_list_append ft (mm (S.pv ox hi) rfl) (px _ ma h1) ok.1 bm ao) rfl) fun D σ H q=>GU S.S.cls hf q
   ·cases h
  ·obtain⟨_,ha,h⟩:=af h
   have ha:=jd ha
   split at h
   ·rename_i hm
    obtain⟨hm,hf⟩:=bg hm
    obtain⟨hm,ox⟩:=bg hm
    have hm:m="pop":=by simpa using hm
    obtain⟨i,hi,rfl⟩:=aM h
    rw [hq,hx]at ao
    rw [hq,hx,ha,hm]
    exact kE (eo (By PySem.F.plainAttrs_list PySem.F.slot_list_pop PySem.F.type_list_pop HF (mm (S.pv ox hi) rfl) (oF ao _ _) bm) rfl) fun D σ H q=>GM S.S.cls hf q
   ·cases h
 obtain⟨q,hq,h⟩:=af h
 have hq:=Cp hq
 obtain⟨a,ha,h⟩:=af h
 have ha:=lC ha
 rw [ha,cK,Bool.and_eq_true]at ok
 split at h
 ·rename_i x hx
  have hx:=cV hx
  split at h
  ·rename_i hm
   obtain⟨hm,ok2⟩:=bg hm
   obtain⟨hm,ox⟩:=ap _ hm
   obtain⟨i,hi,h⟩:=af h
   obtain⟨mk,h1,h⟩:=af h
   obtain⟨ma,h2,rfl⟩:=aM h
   rw [hq,hx]at ao
   rw [hq,hx,ha,hm]
   exact kE (eo (gU PySem.F.slot_list_append PySem.F.type_list_append ft (Bu tO (S.pv ox hi) (pe _ mk h1) (Ol ok2)) (pe _ ma h2) ok.1 bm ao) rfl) fun D σ H q=>Dz q
  ·cases h
 ·obtain⟨w,hw,h⟩:=af h
  have hw:=xJ hw
  obtain⟨x,hx,h⟩:=af h
  have hx:=cV hx
  split at h
  ·rename_i hm
   obtain⟨hm,hf⟩:=bg hm
   obtain⟨hm,ok2⟩:=bg hm
   obtain⟨hm,ox⟩:=ap _ hm
   obtain⟨i,hi,h⟩:=af h
   obtain⟨mk,h1,h⟩:=af h
   obtain⟨ma,h2,rfl⟩:=aM h
   rw [hq,hw,hx]at ao
   rw [hq,hw,hx,ha,hm]
   exact kE (eo (gU PySem.F.slot_list_append PySem.F.type_list_append ft (Bu tO (mm (S.pv ox hi) rfl) (pe _ mk h1) (Ol ok2)) (pe _ ma h2) ok.1 bm ao) rfl) fun D σ H q=>Dy S.S.cls hf q
  ·cases h
theorem LV(S:SSees X cl c Γ Δ N sc)(h:cX c n N sc e=some s):PS X (.Expr e pos) (tS X.K cl Γ Δ pio s):=by
 unfold cX at h
 split at h
 ·rename_i o m apos args cpos
  split at h
  ·rename_i ok
   obtain⟨ok,ao⟩:=bg ok
   obtain⟨ok,bm⟩:=bg ok
   exact LW S ok bm ao h
  ·cases h
 ·rename_i x p args q
  obtain⟨m,h1,rfl⟩:=aM h
  exact kE (eo (qc (pio:=pio) S.hΓ S.S h1) rfl) fun D σ H q=>GQ q
 ·cases h
theorem E1(S:SSees X cl c Γ Δ N sc)(h:II c n N sc e=some (ng,f,i,m)):PT X e (AJ ng (tIOC X.K cl Γ Δ pio f i m)):=by
 have plain:∀ {e:Expr} {f i:Nat} {m:E},Jz c n N sc e=some (f,i,m)→PT X e (tB (tIOC X.K cl Γ Δ pio f i m)):=by
  intro e f i m h
  have hc:∃x p args q,e=.Call (.Name x p) args [] q:=by
   unfold Jz at h
   split at h
   ·exact⟨_,_,_,_,rfl⟩
   ·cases h
  obtain⟨x,p,args,q,rfl⟩:=hc
  exact G6 (IF (pio:=pio) S h) (by intro _;rfl)
 unfold II at h
 split at h
 ·rename_i a pos
  obtain⟨⟨f',i',m'⟩,h1,h2⟩:=aM h
  cases h2
  refine Ju (Bg (plain h1)) fun σ H Q q=> ?_
  obtain⟨H₀,G₀,io,F,A,env,t,env',hp,hl,R,e1,q⟩:=q
  refine⟨H₀,G₀,io,F,A,env,t,env',hp,hl,R,e1,fun v H' A' B l1 R' ot nd nw=> ?_⟩
  obtain⟨b,e2,q2⟩:=q v H' A' B l1 R' ot nd nw
  refine⟨b,e2,?_⟩
  cases b<;>exact q2
 ·obtain⟨⟨f',i',m'⟩,h1,h2⟩:=aM h
  cases h2
  refine Ju (plain h1) fun σ H Q q=> ?_
  obtain⟨H₀,G₀,io,F,A,env,t,env',hp,hl,R,e1,q⟩:=q
  refine⟨H₀,G₀,io,F,A,env,t,env',hp,hl,R,e1,fun v H' A' B l1 R' ot nd nw=> ?_⟩
  obtain⟨b,e2,q2⟩:=q v H' A' B l1 R' ot nd nw
  refine⟨b,e2,?_⟩
  cases b<;>exact q2
@[simp] theorem Bl(x:Str)(p:Pos):(Expr.Name x p).pos=p:=rfl
theorem oP{env:PySem.Env}(hb:env.blockKind=.function)(oa:b5 a=true)(ob:b5 b=true)(hxy:x≠y)(hsc:env.scope=sc)(h:Eg sc [(x,px),(y,py)] [a,b]=some r):
 swappedStores [.Tuple [.Name x px,.Name y py] kt pt] (.Tuple [a,b] k2 p2) env=pure (if r then some [x,y]else none)∧(r=true→sc.names.lookup x=some .local∧sc.names.lookup y=some .local):=by
 subst hsc
 have key:∀(p:Expr→Bool),(∀e,b5 e=true→p e=false)→¬([a,b].any p)=true:=by intro p hp;simp [hp a oa,hp b ob]
 have kx:env.kindOf x=env.scope.names.lookup x:=rfl
 have ky:env.kindOf y=env.scope.names.lookup y:=rfl
 unfold Eg at h
 simp only at h
 constructor
 ·unfold swappedStores
  simp only [hb]
  rw [aK (by simp),aK (key _ (by intro e he;cases e<;>first|rfl|cases he))]
  simp only [List.head?_cons,Option.map_some,Option.getD_some,Bl]
  by_cases cx:List.lookup x env.scope.names=some NameKind.local
  ·by_cases cy:List.lookup y env.scope.names=some NameKind.local
   ·by_cases cl:px.line=py.line
    ·rw [aF (by simp [cx,cy,cl])]at h
     have cl':py.line=px.line:=cl.symm
     have ed:([x,y]:List Str).eraseDups.length=2:=by
      rw [List.eraseDups_cons]
      simp [hxy,Ne.symm hxy,List.eraseDups_cons]
     simp only [List.filterMap_cons,List.filterMap_nil,kx,ky,cx,cy,cl',beq_self_eq_true,Bool.and_self,if_true]
     rw [aK (by rw [ed];simp)]
     split at h
     ·rename_i hf
      cases h
      rw [aF hf]
      rfl
     ·rename_i hf
      rw [aK hf]
      split at h
      ·cases h
      ·rename_i hk
       cases h
       rw [aK hk]
       rfl
    ·rw [aK (by simp [cl])]at h
     cases h
     have cl':(py.line==px.line)=false:=by simpa using fun z=>cl z.symm
     simp only [List.filterMap_cons,List.filterMap_nil,kx,ky,cx,cy,cl',beq_self_eq_true,Bool.and_self,Bool.and_false,if_true,Bool.false_eq_true,if_false]
     rfl
   ·rw [aK (by simp [cy])]at h
    cases h
    have cy':(List.lookup y env.scope.names==some NameKind.local)=false:=by simpa using cy
    simp only [List.filterMap_cons,List.filterMap_nil,kx,ky,cx,cy',beq_self_eq_true,Bool.and_self,Bool.false_and,if_true,Bool.false_eq_true,if_false]
    rfl
  ·rw [aK (by simp [cx])]at h
   cases h
   have cx':(List.lookup x env.scope.names==some NameKind.local)=false:=by simpa using cx
   simp only [List.filterMap_cons,List.filterMap_nil,kx,ky,cx',Bool.false_and,Bool.false_eq_true,if_false]
   cases hc:(List.lookup y env.scope.names==some NameKind.local&&py.line==px.line)
   ·rfl
   ·rfl
 ·intro hr
  subst hr
  split at h
  ·rename_i hc
   obtain⟨hc,_⟩:=bg hc
   obtain⟨h1,h2⟩:=bg hc
   exact⟨fm h1,fm h2⟩
  ·cases h
theorem Fd(S:SSees X cl c Γ Δ N sc)(h:Fe c n N sc e=some (f,i,m)):PS X (.Return (some e) pos) (tS X.K cl Γ Δ pio (.retAll f i m)):=by
 have hsc:X.env.scope=sc:=S.S.tp rfl
 unfold Fe at h
 obtain⟨⟨⟨a,g,x⟩,⟨e1,e2,iter⟩,scope⟩,h0,h⟩:=af h
 dsimp only at h
 obtain⟨pa,pg,pc,px,pl,p2,ee⟩:=Ff h0
 have ee:e=.Call (.Name a pa) [.ListComp (.Call (.Name g pg) [e1,e2] [] pc) [⟨.Name x px,iter,[],0⟩] scope pl] [] p2:=ee
 rw [ee]
 split at h
 ·rename_i ok
  obtain⟨ok,o12⟩:=bg ok
  obtain⟨o1,o2⟩:=bg o12
  obtain⟨ok,oi⟩:=bg ok
  obtain⟨ga,ha⟩:=bg ok
  have ha:a="all":=by simpa using ha
  obtain⟨⟨f',k'⟩,hfk,h⟩:=af h
  split at h
  ·rename_i ok2
   obtain⟨hk,gg⟩:=bg ok2
   have hk:k'=1:=by simpa using hk
   obtain⟨is,hsl,h⟩:=af h
   split at h
   ·rename_i cs
    have cs:=hV cs
    obtain⟨m1,h1,h⟩:=af h
    obtain⟨m2,h2,h⟩:=af h
    split at h
    ·rename_i hv
     obtain⟨v1,v2⟩:=bg hv
     obtain⟨i',hh,h⟩:=af h
     obtain⟨mi,h3,h⟩:=aM h
     cases h
     rw [pS v1]at h1
     rw [pS v2]at h2
     subst hk
     subst ha
     obtain⟨G,hG,FF⟩:=S.io g f' 1 hfk
     obtain⟨r,fa,fd,ps,F1,F2,F3,F4,F5⟩:=FF.ex
     obtain⟨og,gg'⟩:=bQ gg
     have ih1:∀e m,cE c.cc n true N sc e=some m→PE X e (tV X.K cl Γ m):=fun e m h=>(dR S.hΓ n true N sc e m X S.S h).1
     have hi:PI X (.Name x px) iter (tI X.K cl Γ m):=qk S.S ih1 (fun z=>by cases z) h3
     have he:∀C s H fp pins,PE (aS X scope (x::bK scope.names) C s H fp pins) (.Call (.Name g pg) [e1,e2] [] pc) (FB G X.K cl):=fun C s H fp pins=>by
      have Sin:=S.S.comp cs C s H fp pins
      exact tj (X:=aS X scope (x::bK scope.names) C s H fp pins) F1 F2 (Sin.gl g gg') F3 F4 F5 .nil rC (ay (lg Sin h1) (ay (lg Sin h2) aY (ah o2 _ _)) (ah o1 _ _)) (ik og).1 (ah o1 _ _) (cW (es:=[e2]) (by rw [cK,o2];rfl) _ _)
     have hfs:∀v,foldedSetIterable iter X.env v=pure v:=by intro v;cases iter<;>first|rfl|cases oi
     exact kE (sX (cF (nh S.S.calm) (S.S.gl _ (bQ ga).2) (S.S.blt _ (by decide+kernel)) CI (ay (o8 S.S.calm hi (fun _ _ _ _ _=>sV) he cs hsc S.S.hN hfs) aY rfl) (by decide) (by decide) rfl rfl)) fun D σ H q=>A3 hG hh q
    ·cases h
   ·cases h
  ·cases h
 ·cases h
theorem Fc(S:SSees X cl c Γ Δ N sc)(hi:cg N x=some i)(h:cE c.cc n true N sc e=some m):PS X (.Assign [.Name x px] e pos) (tS X.K cl Γ Δ pio (.asg i m)):=by
 have hN:=cG hi
 have nd:X.N.Nodup:=by rw [S.S.hN];exact S.nd
 have hN':X.N[i]?=some x:=by rw [S.S.hN];exact hN
 have px':=qc (pio:=pio) S.hΓ S.S h
 have plain:swapsWith e (some (.Name x px)) pos.line X.env=pure false→PS X (.Assign [.Name x px] e pos) (tS X.K cl Γ Δ pio (.asg i m)):=fun hs=>
  kE (wI nd hN' (S.loc i x hN) px' hs (.inl (S.fn x))) fun D σ H q=>A6 q
 cases hc:kI e with
 |false=>exact plain (fg hc _ _ _)
 |true=>
  cases n with
  |zero=>cases h
  |succ n=>
   cases e
   case ListComp elt gs scope pos'=>
    have h':E2 c.cc N sc (cE c.cc n true N sc) (fun N' e=>cE c.cc n false N' scope e) elt scope gs=some m:=h
    unfold E2 at h'
    split at h'
    ·rename_i y py iter ifs
     have h2:cE c.cc (n+1) true N sc (.ListComp elt [⟨.Name y py,iter,ifs,0⟩] scope pos')=some m:=h
     obtain⟨fr,is,mi,me,mc,tt,rfl,cs,hi',ht,he,htt,hfs⟩:=CB S.hΓ S.S h2
     have hsc:X.env.scope=sc:=S.S.tp rfl
     have sw:=wy elt [⟨.Name y py,iter,ifs,0⟩] scope pos' x px pos.line X.env
     cases hb:(X.env.blockKind==.function&&X.env.kindOf x==some .local&&px.line==pos'.line&& !(scope.names.any fun(n,k)=>n==x&&(k==.local||k==.cell)))with
     |false=>rw [hb]at sw;exact plain sw
     |true=>
      rw [hb]at sw
      rw [Bool.and_eq_true,Bool.and_eq_true,Bool.and_eq_true]at hb
      have hy:X.env.kindOf x=some .local:=by simpa using hb.1.1.2
      refine kE (uZ S.S.calm hi' ht he cs nd hN' hy sw hsc S.S.hN hfs) fun D σ H q=> ?_
      exact ug htt (Dg (A6 q))
    ·cases h'
   all_goals first|(cases hc;done)|(cases h;done)
theorem IK(S:SSees X cl c Γ Δ N sc){rc:List Stmt→Option MI.S}(ih:∀l s,rc l=some s→uA X l (tS X.K cl Γ Δ pio s))(h:NH c n N sc rc st=some s):PS X st (tS X.K cl Γ Δ pio s):=by
 have pe:=fun e m (h:cE c.cc n true N sc e=some m)=>(dR S.hΓ n true N sc e m X S.S h).1
 have pxx:=fun e m (h:cE c.cc n true N sc e=some m)=>qc (pio:=pio) S.hΓ S.S h
 have nd:X.N.Nodup:=by rw [S.S.hN];exact S.nd
 have hsc:X.env.scope=sc:=S.S.tp rfl
 have no:(none:Option MI.S)=some s→PS X st (tS X.K cl Γ Δ pio s):=fun z=>by cases z
 cases st
 case Pass p=>
  cases h
  exact kE DH fun D σ H q=>FE q
 case Expr e p=>
  exact LV S h
 case Assign ts e pos=>
  replace h:NP c n N sc ts e=some s:=h
  unfold NP at h
  split at h
  ·split at h
   ·obtain⟨i,hi,h⟩:=af h
    split at h
    ·rename_i q hb
     cases h
     have hN:=cG hi
     obtain⟨pq,nc⟩:=IR (pio:=pio) S hb
     exact kE (wI nd (by rw [S.S.hN];exact hN) (S.loc i _ hN) pq (fg nc _ _ _) (.inl (S.fn _))) fun D σ H q=>A6 q
    ·obtain⟨m,h1,rfl⟩:=aM h
     exact Fc S hi h1
   ·cases h
  ·rename_i x px y py kt pt
   split at h
   rotate_left
   ·cases h
   rename_i a b k2 p2
   split at h
   ·rename_i ok
    obtain⟨ok,ob⟩:=bg ok
    obtain⟨ok,oa⟩:=bg ok
    obtain⟨i,hi,h⟩:=af h
    obtain⟨j,hj,h⟩:=af h
    obtain⟨m,h1,h⟩:=af h
    obtain⟨l,h2,h⟩:=af h
    obtain⟨r,h3,rfl⟩:=aM h
    have hNi:=cG hi
    have hNj:=cG hj
    by_cases hij:i=j
    ·--the same name twice:no such row runs
     intro pins s σ H D I q
     obtain⟨H₀,G₀,io,F,A,env,n',fl,env',hp,hl,R,e,po⟩:=q
     exfalso
     have e':(if di pio env i&&di pio env j&&decide (i≠j)then(bL Γ pio m env).bind fun r=>(bL Γ pio l r.2).map fun q=>(Fl.nx,(q.2.set i (some r.1)).set j (some q.1))else none)=some (fl,env'):=e
     rw [aK (by simp [hij])]at e'
     cases e'
    ·have hxy:x≠y:=fun z=>hij (by subst z;rw [hi]at hj;exact cC hj)
     obtain⟨w1,w2⟩:=oP (kt:=kt) (pt:=pt) (k2:=k2) (p2:=p2) S.bk oa ob hxy hsc h3
     have pa:PA X [a,b] (bI (tX X.K cl Γ pio m) (bI (tX X.K cl Γ pio l) fZ)):=ay (pxx a m h1) (ay (pxx b l h2) aY (ah ob _ _)) (ah oa _ _)
     cases r with
     |true=>
      obtain⟨lx,ly⟩:=w2 rfl
      exact kE (G8 S.S.calm nd (by rw [S.S.hN];exact hNi) (by rw [S.S.hN];exact hNj) hij (by rw [hsc];exact lx) (by rw [hsc];exact ly) pa w1 rfl) fun D σ H q=>Kv q
     |false=>
      exact kE (wK (sZ pa) (sY S.S.calm (eG (S.pg hi) (eG (S.pg hj) oh)) rfl rfl) rfl w1 rfl) fun D σ H q=>GI q
   ·cases h
  ·rename_i x p1 k p2
   split at h
   ·rename_i ok
    obtain⟨ok,nc⟩:=bg ok
    obtain⟨ox,okk⟩:=bg ok
    obtain⟨i,hi,h⟩:=af h
    obtain⟨mk,h1,h⟩:=af h
    obtain⟨m,h2,rfl⟩:=aM h
    have nc':kI e=false:=by simpa using nc
    exact kE (wK (pe e m h2) (Hg (S.pv ox hi) (pe k mk h1) oT (by intro v;cases k<;>first|rfl|cases okk)) (show swapsWith e (some ((Expr.Name x p1).Subscript k p2)) pos.line X.env=pure false from fg nc' _ _ _) rfl rfl) fun D σ H q=>Kt q
   ·cases h
  ·rename_i x p1 f p2
   split at h
   ·rename_i ok
    obtain⟨ok,nc⟩:=bg ok
    obtain⟨ox,hf⟩:=bg ok
    obtain⟨i,hi,h⟩:=af h
    obtain⟨m,h2,rfl⟩:=aM h
    have nc':kI e=false:=by simpa using nc
    exact kE (Ha (S.pv ox hi) (pxx e m h2) (fg nc' _ _ _)) fun D σ H q=>Ky S.S.cls hf q
   ·cases h
  ·cases h
 case AugAssign t op e p=>
  replace h:NO c n N sc t op e=some s:=h
  unfold NO at h
  split at h
  ·split at h
   ·rename_i x p1 ox
    obtain⟨i,hi,h⟩:=af h
    obtain⟨m,h1,rfl⟩:=aM h
    have hN:=cG hi
    exact kE (Hb nd (by rw [S.S.hN];exact hN) (S.loc i x hN) (pe e m h1) (Ie op) (.inl (S.fn x))) fun D σ H q=>KB q
   ·cases h
  ·rename_i x p1 k p2
   split at h
   ·rename_i ok
    obtain⟨ox,okk⟩:=bg ok
    obtain⟨i,hi,h⟩:=af h
    obtain⟨mk,h1,h⟩:=af h
    obtain⟨m,h2,rfl⟩:=aM h
    exact kE (yi (S.pv ox hi) (pe k mk h1) vy (pe e m h2) (Ie op) oT (by intros;cases k<;>first|rfl|cases okk)) fun D σ H q=>GR q
   ·cases h
  ·rename_i x p1 f p3 k p2
   split at h
   ·rename_i ok
    obtain⟨ok,okk⟩:=bg ok
    obtain⟨ox,hf⟩:=bg ok
    obtain⟨i,hi,h⟩:=af h
    obtain⟨mk,h1,h⟩:=af h
    obtain⟨m,h2,rfl⟩:=aM h
    exact kE (yi (mm (S.pv ox hi) rfl) (pe k mk h1) vy (pe e m h2) (Ie op) oT (by intros;cases k<;>first|rfl|cases okk)) fun D σ H q=>GS S.S.cls hf q
   ·cases h
  ·cases h
 case If t a b p=>
  replace h:NJ c n N sc rc t a b=some s:=h
  unfold NJ at h
  obtain⟨ma,h1,h⟩:=af h
  obtain⟨mb,h2,h⟩:=af h
  split at h
  ·rename_i ng f i m ht
   cases h
   exact kE (FG (E1 (pio:=pio) S ht) (ih a ma h1) (ih b mb h2)) fun D σ H q=>GN q
  ·split at h
   ·rename_i ot
    obtain⟨mt,h3,rfl⟩:=aM h
    exact kE (FG ((dR S.hΓ n true N sc t mt X S.S h3).2 ot) (ih a ma h1) (ih b mb h2)) fun D σ H q=>Kx q
   ·cases h
 case For t it body els p=>
  cases els
  rotate_left
  ·exact no h
  replace h:NK c n N sc rc t it body=some s:=h
  unfold NK at h
  split at h
  ·rename_i x p1
   split at h
   ·rename_i ok
    obtain⟨ox,oi⟩:=bg ok
    obtain⟨i,hi,h⟩:=af h
    obtain⟨mi,h1,h⟩:=af h
    obtain⟨mb,h2,rfl⟩:=aM h
    exact kE (wJ S.pw S.S.calm (qk S.S pe (fun z=>by cases z) h1) (S.pg hi) (ih body mb h2) (by intro v;cases it<;>first|rfl|cases oi)) fun D σ H q=>GP q
   ·cases h
  ·rename_i x p1 y p2 k p3
   split at h
   ·rename_i ok
    obtain⟨ok,oi⟩:=bg ok
    obtain⟨i,hi,h⟩:=af h
    obtain⟨j,hj,h⟩:=af h
    obtain⟨mi,h1,h⟩:=af h
    obtain⟨mb,h2,rfl⟩:=aM h
    exact kE (wJ S.pw S.S.calm (qk S.S pe (fun _=>⟨_,_,_,rfl⟩) h1) (sY S.S.calm (eG (S.pg hi) (eG (S.pg hj) oh)) rfl rfl) (ih body mb h2) (by intro v;cases it<;>first|rfl|cases oi)) fun D σ H q=>GO q
   ·cases h
  ·cases h
 case While t body els p=>
  cases els
  rotate_left
  ·exact no h
  replace h:NG c n N sc rc t body=some s:=h
  unfold NG at h
  split at h
  ·rename_i ot
   obtain⟨mt,h1,h⟩:=af h
   obtain⟨mb,h2,rfl⟩:=aM h
   exact kE (Bi S.pw ((dR S.hΓ n true N sc t mt X S.S h1).2 ot) (ih body mb h2)) fun D σ H q=>MX q
  ·cases h
 case Return o p=>
  cases o
  ·replace h:(some MI.S.retN:Option MI.S)=some s:=h
   cases h
   exact kE DG fun D σ H q=>GK q
  ·rename_i e
   replace h:(match E7 c.cc n N sc e with
    |some m=>some (.retC m)
    |none=>(match Fe c n N sc e with
     |some (f,i,m)=>some (.retAll f i m)
     |none=>(cE c.cc n true N sc e).map .ret))=some s:=h
   split at h
   ·rename_i m hm
    cases h
    exact kE (sX (E6 S.hΓ S.S hm)) fun D σ H q=>GL q
   split at h
   ·rename_i f i m hm
    cases h
    exact Fd S hm
   obtain⟨m,h1,rfl⟩:=aM h
   by_cases hv:∃i,m=.var i
   ·obtain⟨i,rfl⟩:=hv
    exact kE (sX (lg S.S h1)) fun D σ H q=>GJ q
   ·exact kE (sX (pxx e m h1)) fun D σ H q=>Ku (fun i z=>hv ⟨i,z⟩) q
 case Raise e c p=>
  cases h
  exact kE Bj fun D σ H q=>Dx q
 all_goals exact no h
theorem E3(S:SSees X cl c Γ Δ N sc){st:Stmt}{aV:List Stmt}{q:MI.S×List Stmt}{b:MI.S}(h:E5 N sc st aV=some q)(hb:uA X q.2 (tS X.K cl Γ Δ pio b)):uA X (st::aV) (tS X.K cl Γ Δ pio (.seq q.1 b)):=by
 have hsc:X.env.scope=sc:=S.S.tp rfl
 unfold E5 at h
 obtain⟨s2,hs2,h⟩:=af h
 obtain⟨⟨⟨x,px⟩,⟨y,py⟩,p1,p2⟩,hr,h⟩:=af h
 obtain⟨⟨⟨a,b',en,r⟩,x2,b2,a2⟩,hw,h⟩:=af h
 obtain⟨kt,pt,k2,p3,p4,est⟩:=IQ hr
 obtain⟨pa,pb,k3,p5,pe,pr,p6,p7,p8,p9,p10,p11,p12,es2⟩:=IP hw
 obtain⟨ys,er⟩:=List.head?_eq_some_iff.mp hs2
 dsimp only at h est es2
 split at h
 ·rename_i ok
  obtain⟨ok,sw⟩:=bg ok
  obtain⟨ok,hxy⟩:=bg ok
  obtain⟨ok,es⟩:=bg ok
  obtain⟨ok,os⟩:=bg ok
  obtain⟨he,gl⟩:=bg ok
  obtain⟨es,e3⟩:=bg es
  obtain⟨e1,e2⟩:=bg es
  obtain⟨os,o5⟩:=bg os
  obtain⟨os,o4⟩:=bg os
  obtain⟨os,o3⟩:=bg os
  obtain⟨o1,o2⟩:=bg os
  have he:en="enumerate":=by simpa using he
  have e1:x2=x:=by simpa using e1
  have e2:b2=b':=by simpa using e2
  have e3:a2=a:=by simpa using e3
  have hxy:=fm hxy
  have sw:=fm sw
  obtain⟨i,hi,h⟩:=af h
  obtain⟨j,hj,h⟩:=af h
  obtain⟨ka,hka,h⟩:=af h
  obtain⟨kb,hkb,h⟩:=af h
  obtain⟨kr,hkr,rfl⟩:=aM h
  obtain⟨w1,_⟩:=oP (kt:=kt) (pt:=pt) (k2:=k2) (p2:=p3) S.bk rfl rfl hxy hsc sw
  rw [er]at hb
  rw [est,er,es2,show en=_ from he,show x2=_ from e1,show b2=_ from e2,show a2=_ from e3]
  refine G7 (i7 (wK (sZ (ay Bv (ay (wN aY) aY rfl) rfl)) (sY S.S.calm (eG (S.pg hi) (eG (S.pg hj) oh)) rfl rfl) rfl w1 rfl) (i7 (wJ S.pw S.S.calm (ym (S.S.gl _ (bQ (by rw [←he];exact gl)).2) (S.S.blt _ (by decide+kernel)) (ay (S.pv o5 hkr) aY rfl) rfl) (sY S.S.calm (eG (S.pg hka) (eG (S.pg hkb) oh)) rfl rfl) (i7 (Bk (S.pv o1 hi) (S.pv o4 hkb) (S.pv o3 hka) (fg rfl _ _ _)) yh) (by intro v;rfl)) hb)) fun D σ H q=> ?_
  exact KA (FD q)
 ·cases h
theorem kR(S:SSees X cl c Γ Δ N sc):∀(n:Nat) (l:List Stmt) (s:MI.S),vZ c n N sc l=some s→uA X l (tS X.K cl Γ Δ pio s)
 |0,l,s,h=>by cases h
 |n+1,[],s,h=>by
  cases h
  exact G7 yh fun D σ H q=>FE q
 |n+1,st::aV,s,h=>by
  replace h:(match E5 N sc st aV with
   |some q=>(vZ c n N sc q.2).map fun b=> .seq q.1 b
   |none=>(NH c n N sc (vZ c n N sc) st).bind fun a=>(vZ c n N sc aV).map fun b=> .seq a b)=some s:=h
  split at h
  ·rename_i q hq
   obtain⟨b,h2,rfl⟩:=aM h
   exact E3 S hq (kR S n q.2 b h2)
  obtain⟨a,h1,h⟩:=af h
  obtain⟨b,h2,rfl⟩:=aM h
  exact G7 (i7 (IK S (fun l s h=>kR S n l s h) h1) (kR S n aV b h2)) fun D σ H q=>FD q
end
end MI
end
noncomputable section
namespace MI
open PySem L2 PyProof.Rows
def qK(P:Program)(w:World)(K:W.Frag)(mg:Str→Option Value)(base:Heap)(cl:Nat→Option Addr)(k:Nat)(x:Str)(g:List D→Option T):Prop:=
 (∃fa fd ps,FnOk P w K mg base km k fa fd ps (spP K cl g)∧mg x=some (.ref fa)∧W.keepIn K (.ref fa)=true∧cA K fd ps [])∨
   ∃j C f fd ps,j+1≤k∧Mk K C f∧FnOk P w K mg base km j f fd ps (spM K cl C g)∧mg x=some (.ref C)∧cA K fd ps []
def uz(P:Program)(w:World)(K:W.Frag)(mg:Str→Option Value)(base:Heap)(cl:Nat→Option Addr)(k:Nat)(C:Addr)(m:Str)(g:List D→Option T):Prop:=
 ∃f fd ps,Meth K C m f∧FnOk P w K mg base km k f fd ps (spP K cl g)∧cA K fd ps []
def oH(P:Program)(w:World)(K:W.Frag)(mg:Str→Option Value)(base:Heap)(cl:Nat→Option Addr)(k:Nat)(C:Addr)(m:Str)(g:List D→Option (T×List D)):Prop:=
 ∃f fd ps,Meth K C m f∧FnOk P w K mg base km k f fd ps (spMIO K cl C g)∧cA K fd ps []
theorem oH.mono{P:Program}{w:World}{K:W.Frag}{mg:Str→Option Value}{base:Heap}{cl:Nat→Option Addr}{j k:Nat}{C:Addr}{m:Str}{g:List D→Option (T×List D)}(h:oH P w K mg base cl j C m g)(hk:j≤k):oH P w K mg base cl k C m g:=by
 obtain⟨f,fd,ps,M,F,B⟩:=h
 exact⟨f,fd,ps,M,F.mono hk,B⟩
theorem qK.mono{P:Program}{w:World}{K:W.Frag}{mg:Str→Option Value}{base:Heap}{cl:Nat→Option Addr}{j k:Nat}{x:Str}{g:List D→Option T}(h:qK P w K mg base cl j x g)(hk:j≤k):qK P w K mg base cl k x g:=by
 rcases h with⟨fa,fd,ps,F1,F2,F3,F4⟩|⟨i,C,f,fd,ps,h0,h⟩
 ·exact .inl ⟨fa,fd,ps,F1.mono hk,F2,F3,F4⟩
 ·exact .inr ⟨i,C,f,fd,ps,nH h0 hk,h⟩
theorem uz.mono{P:Program}{w:World}{K:W.Frag}{mg:Str→Option Value}{base:Heap}{cl:Nat→Option Addr}{j k:Nat}{C:Addr}{m:Str}{g:List D→Option T}(h:uz P w K mg base cl j C m g)(hk:j≤k):uz P w K mg base cl k C m g:=by
 obtain⟨f,fd,ps,M,F,B⟩:=h
 exact⟨f,fd,ps,M,F.mono hk,B⟩
structure Lw(P:Program)(w:World)(K:W.Frag)(mg:Str→Option Value)(base:Heap)(cl:Nat→Option Addr)(c:CS)(Γ:bu)(Δ:gH)(k:Nat):Prop where
 fn:∀x f,c.cc.tab.lookup x=some f→∃g,Γ f=some g∧qK P w K mg base cl k x g
 io:∀x f i,c.iot.lookup x=some (f,i)→∃g,Δ f=some (i,g)∧∃fa fd ps,FnOk P w K mg base km k fa fd ps (spIO K cl i g)∧mg x=some (.ref fa)∧W.keepIn K (.ref fa)=true∧cA K fd ps []
 blt:∀x∈JF,mg x=none
 gi:∀x i,c.cc.gi.lookup x=some i→∃t,mg x=some (.int i t)
 cls:gw K cl
 mth:∀d C i m g,uB[i]?=some m→cl d=some C→Γ (jZ d i)=some g→uz P w K mg base cl k C m g
 cn:∀x j,c.cc.cn.lookup x=some j→∃J,cl j=some J∧mg x=some (.ref J)
 mio:∀d C i m g,uB[i]?=some m→cl d=some C→Δ (jZ d i)=some (0,g)→oH P w K mg base cl k C m g
noncomputable def bC(N:List Str)(ds:List D):av:=ds.map (fun d=>some (.sh d))++List.replicate (N.length-ds.length) none
noncomputable def qY(k:Nat)(l:List D):av:=(l.mapIdx fun j d=>if j=k then(bx d).map fun ds=>T.ow (ds.map T.sh)else some (T.sh d))
noncomputable def c7(N:List Str)(k:Nat)(l:List D):av:=qY k l++List.replicate (N.length-l.length) none
section
variable{P:Program}{w:World}{K:W.Frag}{mg:Str→Option Value}{base:Heap}{cl:Nat→Option Addr}{c:CS}{Γ:bu}{Δ:gH}{k:Nat}
theorem Lw.sees(L:Lw P w K mg base cl c Γ Δ k){N ps:List Str}{qual:Str}{scope:Scope}{f:Addr}{cdv:Value}{A:Around}{outer:List PySem.Env}{s:Shared}{H:Hp}{E:XK}(FS:FnScope N ps scope)(loc:∀x∈N,scope.names.lookup x=some .local∨scope.names.lookup x=some .cell)(hr:Room k (A.deeper (envOfC qual scope s.heap.objs.size f cdv))):
 SSees (xK km P w K mg base N qual scope f cdv A outer s H E).K8 cl c Γ Δ N scope:=by
 refine⟨⟨rfl,fun i x hx=> ?_,fun x hx=>hx,fun _=>rfl,rfl,hr.units,L.blt,fun x f g h1 h2=> ?_,L.gi,L.cls,fun d C i m g h0 h1 h2=> ?_,L.cn⟩,fun x f h=> ?_,FS.nd,fun i x hx=>loc x (uD hx),fun _=>rfl,FS.kind,PassesOwn.never,fun x f i h=> ?_,fun d C i m g h0 h1 h2=> ?_⟩
 ·rcases loc x (uD hx)with z|z
  ·exact .inl z
  ·exact .inr (.inl z)
 ·obtain⟨g',hg,G⟩:=L.fn x f h1
  rw [h2]at hg
  cases hg
  rcases G with⟨fa,fd,ps,F1,F2,F3,F4⟩|⟨j,C,f,fd,ps,h0,M,F1,F2,F3⟩
  ·exact⟨.inl ⟨k,fa,fd,ps,F1,hr,F2,F3,F4⟩⟩
  ·exact⟨.inr ⟨j,C,f,fd,ps,M,F1,hr.mono h0,F2,F3⟩⟩
 ·obtain⟨f,fd,ps,M,F,B⟩:=L.mth d C i m g h0 h1 h2
  exact⟨k,f,fd,ps,M,F,hr,B⟩
 ·obtain⟨g',hg,_⟩:=L.fn x f h
  exact⟨g',hg⟩
 ·obtain⟨g,hg,fa,fd,ps,F1,F2,F3,F4⟩:=L.io x f i h
  exact⟨g,hg,k,fa,fd,ps,F1,hr,F2,F3,F4⟩
 ·obtain⟨f,fd,ps,M,F,B⟩:=L.mio d C i m g h0 h1 h2
  exact⟨k,f,fd,ps,M,F,hr,B⟩
theorem gO{N:List Str}{vs:List V}{i:Nat}{v:V}(h:vs[i]?=some v):(L2.start N vs)[i]?=some (some v):=by
 have hi:=(j4.mp h).1
 unfold L2.start
 rw [v9 (by simpa using hi),eK,h]
 rfl
theorem ko{N:List Str}{ds:List D}{i:Nat}{t:T}(h:(bC N ds)[i]?=some (some t)):∃d,ds[i]?=some d∧t=.sh d:=by
 unfold bC at h
 by_cases hi:i<ds.length
 ·rw [v9 (by simpa using hi),eK]at h
  cases e:ds[i]? with
  |none=>rw [e]at h;cases h
  |some d=>rw [e]at h;cases h;exact⟨d,rfl,rfl⟩
 ·rw [List.getElem?_append_right (by simpa using hi),List.getElem?_replicate]at h
  split at h<;>cases h
theorem Cn(L:Lw P w K mg base cl c Γ Δ k){x qual:Str}{st:Stmt}{f:Addr}{fd:FuncData}{N ps:List Str}{n:Nat}{body:S}{g:List D→Option T}(F:Fun K x qual st f fd)(FS:FnScope N ps (ai st))(loc:∀x∈N,(ai st).names.lookup x=some .local∨(ai st).names.lookup x=some .cell)
 (hc:vZ c n N (ai st) (aj st)=some body)(ar:∀ds t,g ds=some t→ds.length=ps.length)
 (run:∀ds t,g ds=some t→∃m fl env',ex Γ Δ none m body (bC N ds)=some (fl,env')∧(fl=.rt t∨(fl=.nx∧t=.sh .non))):FnOk P w K mg base km (k+1) f fd ps (spP K cl g):=by
 have hpl:ps.length≤N.length:=by have:=congrArg List.length FS.pre;rw [kU]at this;lia
 refine F.ok FS (fun vs H Q E h=> ?_) (fun cdv A outer s H vs Q E hr h=> ?_)
 ·obtain⟨G,ds,t,sg,dn,hg,_⟩:=h
  rw [dn.length];exact ar ds t hg
 ·obtain⟨G,ds,t,sg,dn,hg,q⟩:=h
  have SS:=L.sees (N:=N) (ps:=ps) (qual:=qual) (f:=f) (cdv:=cdv) (A:=A) (outer:=outer) (s:=s) (H:=H) (E:=E) FS loc hr
  refine⟨_,kR (pio:=none) SS n (aj st) body hc,?_⟩
  obtain⟨m,fl,env',e,hfl⟩:=run ds t hg
  have hl:=ar ds t hg
  refine⟨H,G,none,G,fun _=>[],bC N ds,m,fl,env',(fun p a z=>by cases z),?_,?_,e,fun σ' H' F' A' l1 l2 st' sf R'=> ?_⟩
  ·unfold bC L2.start
   simp only [dP,b9,v3,dn.length]
  ·refine⟨fun i t' e=> ?_,fun _ _=>rfl,fun _=>List.nodup_nil,(fun _ _ _ _ z=>by simp at z),sg,.refl _,(fun b o h1 h2=>by rw [h1]at h2;cases h2),fun b o h _=>h,(fun _ _ z=>by simp at z),(fun p a z=>by cases z)⟩
   obtain⟨d,h1,rfl⟩:=ko e
   obtain⟨v,h2,h3⟩:=dn.get h1
   exact⟨v,gO h2,.sh h3⟩
  ·have x:Ext H G H' F':=⟨fun b o h=>R'.keep b o h (fun p z=>by cases z),R'.gf,R'.fh,R'.fnew⟩
   rcases hfl with rfl|⟨rfl,rfl⟩
   ·exact fun v B ot nd _ nw=>q v H' F' B x ot nd nw
   ·exact q .non H' F' [] x (.sh .non) List.nodup_nil (by simp)
noncomputable def oR(N:List Str)(c0:Nat)(ds:List D):av:=some (.ob c0 [] [])::bC N.tail ds
theorem Co(L:Lw P w K mg base cl c Γ Δ k){x qual:Str}{st:Stmt}{f C:Addr}{fd:FuncData}{y:Str}{N ps:List Str}{n c0:Nat}{body:S}{g:List D→Option T}(hcl:cl c0=some C)(F:Fun K x qual st f fd)(FS:FnScope (y::N) ps (ai st))(loc:∀x∈y::N,(ai st).names.lookup x=some .local∨(ai st).names.lookup x=some .cell)
 (hc:vZ c n (y::N) (ai st) (aj st)=some body)(h0:0∉cZ body)(ar:∀ds t,g ds=some t→ds.length+1=ps.length)
 (run:∀ds t,g ds=some t→∃m env',ex Γ Δ none m body (oR (y::N) c0 ds)=some (.nx,env')∧env'[0]?=some (some t)):FnOk P w K mg base km (k+1) f fd ps (spM K cl C g):=by
 refine F.ok FS (fun vs H Q E h=> ?_) (fun cdv A outer s H vs Q E hr h=> ?_)
 ·obtain⟨H0,G,x,dx,vs',ds,t,rfl,_,_,_,_,_,dn,hg,_⟩:=h
  rw [gL,dn.length];exact ar ds t hg
 ·obtain⟨H0,G,x,dx,vs',ds,t,rfl,hx,hdx,hne,rfl,sg,dn,hg,q⟩:=h
  have SS:=L.sees (N:=y::N) (ps:=ps) (qual:=qual) (f:=f) (cdv:=cdv) (A:=A) (outer:=outer) (s:=s) (H:=bp (bp H0 dx (.own x)) x (.ins C dx [])) (E:=E) FS loc hr
  refine⟨_,kR (pio:=none) SS n (aj st) body hc,?_⟩
  obtain⟨m,env',e,hj⟩:=run ds t hg
  have gx:G x=none:=sg.free hx
  have gdx:G dx=none:=sg.free hdx
  have kp:∀b o,H0 b=some o→bp (bp H0 dx (.own x)) x (.ins C dx []) b=some o:=fun b o h=>by rw [ag (aD h hx),ag (aD h hdx)];exact h
  have hst:L2.start (y::N) (.ref x::vs')=some (.ref x)::L2.start N vs':=by
   unfold L2.start
   rw [lV,List.cons_append,gL,gL,Nat.add_sub_add_right]
  have at1:bp (bp H0 dx (.own x)) x (.ins C dx []) dx=some (.own x):=by rw [ag hne];exact ak
  refine⟨H0,G,none,G,fun i=>if i=0 then [x,dx]else [],oR (y::N) c0 ds,m,.nx,env',(fun p a z=>by cases z),?_,?_,e,fun σ' H' F' A' l1 l2 st' sf R'=> ?_⟩
  ·rw [hst]
   show(bC N ds).length+1=(L2.start N vs').length+1
   unfold bC L2.start
   simp only [dP,b9,v3,dn.length]
  ·refine⟨fun i t' e=> ?_,fun i hi=> ?_,fun i=> ?_,fun i j a hij h1 h2=> ?_,fun b o h=>kp b o (sg b o h),.refl _,(fun b o h1 h2=>by rw [h1]at h2;cases h2),fun b o h _=>kp b o h,fun i a ha=> ?_,(fun p a z=>by cases z)⟩
   ·rw [hst]
    cases i with
    |zero=>
     have e':some (some (T.ob c0 [] []))=some (some t'):=e
     cases e'
     exact⟨.ref x,rfl,.ob (vfs:=[]) ak at1 hcl rfl gx gdx .nil⟩
    |succ i=>
     have e':(bC N ds)[i]?=some (some t'):=e
     obtain⟨d,h1,rfl⟩:=ko e'
     obtain⟨v,h2,h3⟩:=dn.get h1
     exact⟨v,gO h2,.sh h3⟩
   ·show(if i=0 then [x,dx]else [])=[]
    split
    ·rename_i hi';subst hi';exact absurd rfl (hi (.ob c0 [] []))
    ·rfl
   ·show(if i=0 then [x,dx]else []).Nodup
    split
    ·simp [Ne.symm hne]
    ·exact Gm
   ·have h1':a∈(if i=0 then [x,dx]else []):=h1
    have h2':a∈(if j=0 then [x,dx]else []):=h2
    split at h1'
    ·split at h2'
     ·rename_i e1 e2;exact hij (e1.trans e2.symm)
     ·simp at h2'
    ·simp at h1'
   ·have ha':a∈(if i=0 then [x,dx]else []):=ha
    split at ha'
    ·refine .inr ?_
     rcases fY.mp ha' with z|z
     ·rw [z];exact hx
     ·rw [show a=dx by simpa using z];exact hdx
    ·simp at ha'
  ·have X1:Ext H0 G H' F':=⟨fun b o h=>R'.keep b o h (fun p z=>by cases z),R'.gf,R'.fh,R'.fnew⟩
   obtain⟨v,h1,ot⟩:=R'.slot 0 t hj
   have e0:=st' 0 h0
   rw [hst,h1]at e0
   cases e0
   refine q H' F' (A' 0) X1 ot (R'.nd 0) fun a ha=> ?_
   rcases R'.anew 0 a ha with⟨p,z⟩|z
   ·cases z
   ·exact z
theorem BP(h:(qY j l)[i]?=some (some t)):(i=j∧∃ds,l[i]?=some (.lst ds)∧t=.ow (ds.map T.sh))∨(i≠j∧∃d,l[i]?=some d∧t=.sh d):=by
 unfold qY at h
 rw [List.getElem?_mapIdx]at h
 cases e:l[i]? with
 |none=>rw [e]at h;cases h
 |some d=>
  rw [e]at h
  have h':(if i=j then(bx d).map fun ds=>T.ow (ds.map T.sh)else some (T.sh d))=some t:=cC h
  split at h'
  ·rename_i hi
   obtain⟨ds,h1,rfl⟩:=aM h'
   cases d with
   |lst l'=>cases h1;exact .inl ⟨hi,ds,rfl,rfl⟩
   |_=>cases h1
  ·rename_i hi
   cases h'
   exact .inr ⟨hi,d,rfl,rfl⟩
theorem uN(h:(c7 N j l)[i]?=some (some t)):(i=j∧∃ds,l[i]?=some (.lst ds)∧t=.ow (ds.map T.sh))∨(i≠j∧∃d,l[i]?=some d∧t=.sh d):=by
 unfold c7 at h
 have hl:(qY j l).length=l.length:=by unfold qY;simp
 by_cases hi:i<l.length
 ·rw [v9 (by lia)]at h
  exact BP h
 ·rw [List.getElem?_append_right (by lia),List.getElem?_replicate]at h
  split at h<;>cases h
theorem Iw(L:Lw P w K mg base cl c Γ Δ k){x qual:Str}{st:Stmt}{f:Addr}{fd:FuncData}{N ps:List Str}{n j:Nat}{body:S}{g:List D→Option (T×List D)}(F:Fun K x qual st f fd)(FS:FnScope N ps (ai st))(loc:∀x∈N,(ai st).names.lookup x=some .local∨(ai st).names.lookup x=some .cell)
 (hc:vZ c n N (ai st) (aj st)=some body)(ar:∀l t ds',g l=some (t,ds')→l.length=ps.length)
 (run:∀l t ds',g l=some (t,ds')→∃m fl env',ex Γ Δ (some j) m body (c7 N j l)=some (fl,env')∧(fl=.rt t∨(fl=.nx∧t=.sh .non))∧env'[j]?=some (some (.ow (ds'.map T.sh)))):FnOk P w K mg base km (k+1) f fd ps (spIO K cl j g):=by
 have hpl:ps.length≤N.length:=by have:=congrArg List.length FS.pre;rw [kU]at this;lia
 refine F.ok FS (fun vs H Q E h=> ?_) (fun cdv A outer s H vs Q E hr h=> ?_)
 ·obtain⟨G,l,a,xs,ds,t,ds',h1,h2,h3,h4,h5,h6,h7,h8,h9,_⟩:=h
  rw [h2];exact ar l t ds' h9
 ·obtain⟨G,l,a,xs,ds,t,ds',sg,hl,hv,hd,hx,ga,dx,dn,hg,hfl,hs,hs',q⟩:=h
  have SS:=L.sees (N:=N) (ps:=ps) (qual:=qual) (f:=f) (cdv:=cdv) (A:=A) (outer:=outer) (s:=s) (H:=H) (E:=E) FS loc hr
  refine⟨_,kR (pio:=some j) SS n (aj st) body hc,?_⟩
  obtain⟨m,fl,env',e,hfl',hj⟩:=run l t ds' hg
  have hlen:=ar l t ds' hg
  have hll:(qY j l).length=l.length:=by unfold qY;simp
  refine⟨H,G,some (j,a),G,fun i=>if i=j then [a]else [],c7 N j l,m,fl,env',(fun p b z=>by cases z;rfl),?_,?_,e,fun σ' H' F' A' l1 l2 st' sf R'=> ?_⟩
  ·unfold c7 L2.start
   simp only [dP,b9,v3,hll,hl]
  ·refine⟨fun i t' e=> ?_,fun i hi=> ?_,fun i=> ?_,fun i i' b hii h1 h2=> ?_,sg,.refl _,(fun b o h1 h2=>by rw [h1]at h2;cases h2),fun b o h _=>h,fun i b hb=> ?_,fun p b z=> ?_⟩
   ·rcases uN e with⟨rfl,ds2,h1,rfl⟩|⟨hi,d,h1,rfl⟩
    ·rw [hd]at h1
     cases h1
     refine⟨.ref a,gO hv,?_⟩
     rw [aF rfl]
     exact .ow hx ga (OTs.AY dx)
    ·have hv':i<vs.length:=by rw [hl];exact(j4.mp h1).1
     refine⟨vs[i],gO (jV hv'),?_⟩
     rw [aK hi]
     exact .sh (dn i _ d hi (jV hv') h1)
   ·show(if i=j then [a]else [])=[]
    split
    ·rename_i hi'
     exfalso
     subst hi'
     have hjl:i<l.length:=(j4.mp hd).1
     refine hi (.ow (ds.map T.sh)) ?_
     unfold c7
     rw [v9 (by lia)]
     unfold qY
     rw [List.getElem?_mapIdx,hd]
     simp [bx]
    ·rfl
   ·show(if i=j then [a]else []).Nodup
    split<;>simp
   ·have h1':b∈(if i=j then [a]else []):=h1
    have h2':b∈(if i'=j then [a]else []):=h2
    split at h1'
    ·split at h2'
     ·rename_i e1 e2;exact hii (e1.trans e2.symm)
     ·simp at h2'
    ·simp at h1'
   ·have hb':b∈(if i=j then [a]else []):=hb
    split at hb'
    ·have:b=a:=by simpa using hb'
     exact .inl ⟨j,by rw [this]⟩
    ·simp at hb'
   ·cases z
    exact⟨[],by rw [aF rfl]⟩
  ·obtain⟨v',h1,ot'⟩:=R'.slot j _ hj
   obtain⟨B0,hB0⟩:=R'.iok j a rfl
   rw [hB0]at ot'
   cases ot' with
   |ow a1 a2 a3=>
    obtain⟨dx',_⟩:=a3.unsh
    have kp:∀b o,b≠a→H b=some o→H' b=some o:=fun b o hb h=>R'.keep b o h (fun p z=>by cases z;exact hb rfl)
    rcases hfl' with rfl|⟨rfl,rfl⟩
    ·exact fun v B ot nd _ nw=>q v H' F' _ B kp R'.gf R'.fh R'.fnew a1 dx' ot nd nw
    ·exact q .non H' F' _ [] kp R'.gf R'.fh R'.fnew a1 dx' (.sh .non) List.nodup_nil (by simp)
noncomputable def l8(N:List Str)(j:Nat)(ds args:List D):av:=(none::bC N.tail args).set j (some (.ow (ds.map T.sh)))
noncomputable def yH:Stmt→Bool
 | .Assign [.Name x _] (.Attribute (.Name y _) f _) _=>(x==("counts":Str))&&(f==("counts":Str))&&(y==("self":Str))
 |_=>false
theorem EU(L:Lw P w K mg base cl c Γ Δ k){x qual:Str}{st st1:Stmt}{aV:List Stmt}{f C:Addr}{fd:FuncData}{N ps:List Str}{n j c0:Nat}{body:S}{g:List D→Option (T×List D)}(hcl:cl c0=some C)(F:Fun K x qual st f fd)(FS:FnScope ("self"::N) ps (ai st))(loc:∀x∈("self":Str)::N,(ai st).names.lookup x=some .local∨(ai st).names.lookup x=some .cell)
 (hb:aj st=st1::aV)(h1:yH st1=true)(hj:N[j]?=some "counts")(hjp:ps.length≤j+1)(hc:vZ c n ("self"::N) (ai st) aV=some body)(ar:∀ds l r,g (.lst ds::l)=some r→l.length+1=ps.length)
 (run:∀ds l r,g (.lst ds::l)=some r→∃m env',ex Γ Δ (some (j+1)) m body (l8 ("self"::N) (j+1) ds l)=some (.nx,env')∧env'[j+1]?=some (some (.ow (r.2.map T.sh)))):FnOk P w K mg base km (k+1) f fd ps (spMIO K cl C g):=by
 have hpl:ps.length≤N.length+1:=by have:=congrArg List.length FS.pre;rw [kU]at this;simp only [List.length_cons]at this;lia
 have hjN:j<N.length:=(j4.mp hj).1
 refine F.ok FS (fun vs H Q E h=> ?_) (fun cdv A outer s H vs Q E hr h=> ?_)
 ·obtain⟨G,y,dx,a,vs',xs,ds,l,r,_,rfl,_,_,_,_,dn,hg,_⟩:=h
  rw [gL,dn.length];exact ar ds l r hg
 ·obtain⟨G,y,dx,a,vs',xs,ds,l,r,sg,rfl,hy,ha,ga,dxs,dn,hg,hn,sds,sr,q⟩:=h
  have SS:=L.sees (N:="self"::N) (ps:=ps) (qual:=qual) (f:=f) (cdv:=cdv) (A:=A) (outer:=outer) (s:=s) (H:=H) (E:=E) FS loc hr
  obtain⟨m,env',e,he⟩:=run ds l r hg
  have hlen:=ar ds l r hg
  obtain⟨c1,c2,_⟩:=L.cls.1 c0 C hcl
  have hst:L2.start ("self"::N) (.ref y::vs')=some (.ref y)::L2.start N vs':=by
   unfold L2.start
   rw [lV,List.cons_append,gL,gL,Nat.add_sub_add_right]
  have hl0:(L2.start N vs').length=N.length:=by
   unfold L2.start
   simp only [dP,b9,v3,dn.length];lia
  have hlT:(bC N l).length=N.length:=by
   unfold bC
   simp only [dP,b9,v3];lia
  obtain⟨px,py,pz,pw',e1⟩:∃px py pz pw',st1=.Assign [.Name "counts" px] (.Attribute (.Name "self" py) "counts" pz) pw':=by
   unfold yH at h1
   split at h1
   ·obtain⟨h1,z3⟩:=bg h1
    obtain⟨z1,z2⟩:=bg h1
    have z1:=eq_of_beq z1
    have z2:=eq_of_beq z2
    have z3:=eq_of_beq z3
    subst z1 z2 z3
    exact⟨_,_,_,_,rfl⟩
   ·cases h1
  subst e1
  rw [hb]
  refine⟨_,i7 (wI (i:=j+1) (by rw [SS.S.hN];exact SS.nd) (by rw [SS.S.hN];exact hj) (SS.loc (j+1) _ hj) (mm (SS.pv (i:=0) rfl rfl) rfl) (fg rfl _ _ _) (.inl (SS.fn _))) (kR (pio:=some (j+1)) SS n aV body hc),?_⟩
  rw [hst]
  refine⟨.ref y,rfl,y,C,dx,_,.ref a,rfl,hy,c1,c2 "counts" (by decide),rfl,?_⟩
  refine⟨H,G,some (j+1,a),G,fun i=>if i=j+1 then [a]else [],l8 ("self"::N) (j+1) ds l,m,.nx,env',(fun p b z=>by cases z;rfl),?_,?_,e,fun σ' H' F' A' l1 l2 st' sf R'=> ?_⟩
  ·unfold l8
   simp [hl0,hlT]
  ·have hset:∀i,(l8 ("self"::N) (j+1) ds l)[i]?=if i=j+1 then some (some (.ow (ds.map T.sh)))else(none::bC N l)[i]?:=fun i=>by
    show((none::bC N l).set (j+1) _)[i]?=_
    rw [List.getElem?_set]
    by_cases hi:j+1=i
    ·rw [aF hi,aF hi.symm,aF (by simp [hlT];lia)]
    ·rw [aK hi,aK (fun z=>hi z.symm)]
   refine⟨fun i t' e=> ?_,fun i hi=> ?_,fun i=> ?_,fun i i' b hii h1 h2=> ?_,sg,.refl _,(fun b o h1 h2=>by rw [h1]at h2;cases h2),fun b o h _=>h,fun i b hb=> ?_,fun p b z=> ?_⟩
   ·rw [hset]at e
    rw [List.getElem?_set]
    by_cases hi:i=j+1
    ·rw [aF hi]at e
     cases e
     rw [aF hi.symm,aF (by simp [hl0];lia),aF hi]
     exact⟨.ref a,rfl,.ow ha ga (OTs.AY dxs)⟩
    ·rw [aK hi]at e
     rw [aK (fun z=>hi z.symm),aK hi]
     cases i with
     |zero=>cases e
     |succ i=>
      obtain⟨d,h1,rfl⟩:=ko (show(bC N l)[i]?=some (some t')from e)
      obtain⟨v,h2,h3⟩:=dn.get h1
      exact⟨v,gO h2,.sh h3⟩
   ·show(if i=j+1 then [a]else [])=[]
    split
    ·rename_i hi'
     exact absurd (by rw [hset,aF hi']) (hi (.ow (ds.map T.sh)))
    ·rfl
   ·show(if i=j+1 then [a]else []).Nodup
    split<;>simp
   ·have h1':b∈(if i=j+1 then [a]else []):=h1
    have h2':b∈(if i'=j+1 then [a]else []):=h2
    split at h1'
    ·split at h2'
     ·rename_i e1 e2;exact hii (e1.trans e2.symm)
     ·simp at h2'
    ·simp at h1'
   ·have hb':b∈(if i=j+1 then [a]else []):=hb
    split at hb'
    ·have:b=a:=by simpa using hb'
     exact .inl ⟨j+1,by rw [this]⟩
    ·simp at hb'
   ·cases z
    exact⟨[],by rw [aF rfl]⟩
  ·obtain⟨v',h1,ot'⟩:=R'.slot (j+1) _ he
   obtain⟨B0,hB0⟩:=R'.iok (j+1) a rfl
   rw [hB0]at ot'
   cases ot' with
   |ow a1 a2 a3=>
    obtain⟨dx',_⟩:=a3.unsh
    have kp:∀b o,b≠a→H b=some o→H' b=some o:=fun b o hb h=>R'.keep b o h (fun p z=>by cases z;exact hb rfl)
    exact q H' F' _ kp R'.gf R'.fh R'.fnew a1 dx'
theorem Lw.Mj(L:Lw P w K mg base cl c Γ Δ k)(hk:k≤k')(hg:Γ f=some g)(F:qK P w K mg base cl k' x g):
 Lw P w K mg base cl ⟨⟨(x,f)::c.cc.tab,c.cc.gi,c.cc.cn⟩,c.iot⟩ Γ Δ k':=by
 refine⟨fun y f' h=> ?_,fun y f' i h=> ?_,L.blt,L.gi,L.cls,fun d C i m g h0 h1 h2=>(L.mth d C i m g h0 h1 h2).mono hk,L.cn,fun d C i m g h0 h1 h2=>(L.mio d C i m g h0 h1 h2).mono hk⟩
 ·have h':((x,f)::c.cc.tab).lookup y=some f':=h
  rw [sF]at h'
  split at h'
  ·rename_i e
   have e:y=x:=by simpa using e
   subst e
   cases h'
   exact⟨g,hg,F⟩
  ·obtain⟨g',h1,F1⟩:=L.fn y f' h'
   exact⟨g',h1,F1.mono hk⟩
 ·obtain⟨g',h1,fa',fd',ps',F1,F2,F3,F4⟩:=L.io y f' i h
  exact⟨g',h1,fa',fd',ps',F1.mono hk,F2,F3,F4⟩
theorem Lw.Mi(L:Lw P w K mg base cl c Γ Δ k)(hg:Δ f=some (j,g))(F:FnOk P w K mg base km (k+1) fa fd ps (spIO K cl j g))(hm:mg x=some (.ref fa))(hk:W.keepIn K (.ref fa)=true)(hb:cA K fd ps []):
 Lw P w K mg base cl ⟨c.cc,(x,f,j)::c.iot⟩ Γ Δ (k+1):=by
 refine⟨fun y f' h=> ?_,fun y f' i h=> ?_,L.blt,L.gi,L.cls,fun d C i m g h0 h1 h2=>(L.mth d C i m g h0 h1 h2).mono (jS _),L.cn,fun d C i m g h0 h1 h2=>(L.mio d C i m g h0 h1 h2).mono (jS _)⟩
 ·obtain⟨g',h1,F1⟩:=L.fn y f' h
  exact⟨g',h1,F1.mono (jS _)⟩
 ·have h':((x,f,j)::c.iot).lookup y=some (f',i):=h
  rw [sF]at h'
  split at h'
  ·rename_i e
   have e:y=x:=by simpa using e
   subst e
   cases h'
   exact⟨g,hg,fa,fd,ps,F,hm,hk,hb⟩
  ·obtain⟨g',h1,fa',fd',ps',F1,F2,F3,F4⟩:=L.io y f' i h'
   exact⟨g',h1,fa',fd',ps',F1.mono (jS _),F2,F3,F4⟩
end
end MI
end
noncomputable section
namespace MI
open PySem PySem.Spec PySem.W PyProof.Rows L2
theorem zW{K:W.Frag}{s₁:Shared}{vs:List Value}(KX:K.In s₁.heap)(hns:s₁.heap.Ns mainGlobals mg)(hb:s₁.heap.Ns builtinsNs mb)(hbb:∀x:Str,x≠"__name__"→mb x=bootBuiltins x)(hlim:s₁.heap.NoLimit)(hg:s₁.gens= #[])(ha:s₁.heap.get? a=some {cls:=.type "list",data:=.seq vs.toArray})(hi:IntsAre vs ns)(hl:ns.length≤sizeLine)(hr:Room k callerA)(F:∀base:Heap,K.In base→base.Ns mainGlobals mg→FnOk P w K mg base CX k fa fd [x] sp)(hbind:∀(s:Shared) (u:Value),BindsTo s fd ⟨[u],[]⟩ [(x,u)])(hsp:∀H:Hp,RL K H a (ns.map V.int)→sp [.ref a] H (fun v _=>v=.bl true) fun _ _ _=>False)(hCX:∀H e s',CX [] H s₁ (fun _ _ _=>False) e s'→False):
 codeAny (model P w) callerA (.call (.ref fa) ⟨[.ref a],[]⟩) (fun r s'=>r=.ok (.ret (.bool true))∧OldK s₁.heap s'.heap∧s'.os=s₁.os∧AllBare s'.gens) s₁:=by
 have rv:=lW hi
 have lenV:=hi.length
 have core:∀H:Hp,NU H→RL K H a (ns.map V.int)→mU P w H s₁.heap→(∀b,H b≠none→b=a)→(H a≠none→K.lookup a=none)→
  codeAny (model P w) callerA (.call (.ref fa) ⟨[.ref a],[]⟩) (fun r s'=>r=.ok (.ret (.bool true))∧OldK s₁.heap s'.heap∧s'.os=s₁.os∧AllBare s'.gens) s₁:=by
  intro H hO hS hok hA hK
  have base_of:∀ {b:Addr} {o:Obj},s₁.heap.get? b=some o→H b=none→(tU s₁.heap H).get? b=some o:=fun e n=>BU e n
  have noA:∀ {b:Addr} {o:Obj} {es:Array DictEntry} {ep:Nat},s₁.heap.get? b=some o→o.data=.dict es ep→H b=none:=fun {b o es ep} e d=>by
   cases q:H b with
   |none=>rfl
   |some u=>
    have e':b=a:=hA b (by rw [q];simp)
    subst e'
    rw [ha]at e;cases e
    have d':Data.seq vs.toArray _=Data.dict es ep:=d
    cases d'
  have nsK:∀ {b:Addr} {m:Str→Option Value},s₁.heap.Ns b m→(tU s₁.heap H).Ns b m:=fun {b m} ⟨o,es,ep,e,d,r⟩=>⟨o,es,ep,base_of e (noA e d),d,r⟩
  have hKb:K.In (tU s₁.heap H):=fun b o e=>base_of (KX b o e) (by
   cases q:H b with
   |none=>rfl
   |some u=>
    have e':b=a:=hA b (by rw [q];simp)
    subst e'
    rw [hK (by rw [q];simp)]at e;cases e)
  have hM:Mod K mg (tU s₁.heap H):=⟨hKb,nsK hns,⟨mb,nsK hb,hbb⟩,let ⟨mc,h1,h2⟩:=hlim;⟨mc,nsK h1,h2⟩⟩
  have e0:Env0 P w K mg (tU s₁.heap H) callerA [] s₁ H:=⟨rfl,hM,fun b o e=>Eh e,Nat.le_of_eq (z0 _ _),trivial,fun b hb=>absurd (show b∈([]:List Addr)from hb) (by simp),hok,.of_eq hg⟩
  refine codeAny_mono ((F _ hKb (nsK hns)).run callerA [] s₁ H ⟨[.ref a],[]⟩ [.ref a] [.ref a] _ _ hr e0 (hbind s₁ (.ref a)) (.cons rfl .nil) (hsp H hS)) fun r s' h=> ?_
  cases r with
  |error e=>exact(hCX H e s' h).elim
  |ok fl=>
   cases fl with
   |next=>exact False.elim h
   |brk=>exact False.elim h
   |cont=>exact False.elim h
   |ret u=>
    obtain⟨v,H',os,bare,un,hok',r',q⟩:=h
    have q':v=.bl true:=q
    subst q'
    obtain rfl:u=Value.bool true:=r'
    refine⟨rfl,OldK.of_keep fun b o e=> ?_,os,bare⟩
    cases q:H b with
    |none=>exact un.keep b o e q (by intro z;exact absurd (show b∈([]:List Addr)from z) (by simp)) (by simp)
    |some u=>
     rcases hO b with z|⟨ob,xs,z⟩
     ·rw [q]at z;cases z
     ·have z2:=un.frzs b ob _ z
      obtain⟨e1,_⟩:=hok b _ z
      obtain⟨e2,_⟩:=hok' b _ z2
      rw [e]at e1;cases e1
      exact e2
 cases hk:K.lookup a with
 |some o=>
  have e:=KX a o hk
  rw [ha]at e
  cases e
  refine core (fun _=>none) (fun _=> .inl rfl) (.inr ⟨vs.toArray,_,hk,by rw [List.size_toArray,lenV];exact hl,by simpa using rv⟩) (fun b u z=>by have z':(none:Option HO)=some u:=z;cases z') (fun b z=>absurd rfl z) fun z=>absurd rfl z
 |none=>
  refine core (fun b=>if b=a then some (.frz {cls:=.type "list",data:=.seq vs.toArray} (.lst (ns.map V.int)))else none) (fun b=> ?_) (.inl (.inr ⟨{cls:=.type "list",data:=.seq vs.toArray},aF rfl⟩)) (fun b u z=> ?_) (fun b z=> ?_) fun _=>hk
  ·by_cases hb:b=a
   ·exact .inr ⟨_,_,aF hb⟩
   ·exact .inl (aK hb)
  ·by_cases hb:b=a
   ·have z':=(aF hb).symm.trans z
    cases z'
    subst hb
    exact⟨ha,by rw [b9];exact hl,vs,_,rv,ha⟩
   ·have z':=(aK hb).symm.trans z
    cases z'
  ·by_cases hb:b=a
   ·exact hb
   ·exact absurd (aK hb) z
end MI
end
noncomputable section
namespace Bo
def aw(r:List Nat):Prop:=r.Perm (List.range r.length)
noncomputable def ap(r:List Nat)(i:Nat):Nat:=r.getD i 0
theorem aw.nodup(h:aw r):r.Nodup:=h.nodup_iff.mpr List.nodup_range
theorem aw.mem(h:aw r):x∈r↔x<r.length:=by rw [h.mem_iff];simp
theorem b7{r:List Nat}(h:i<r.length):ap r i=r[i]:=by simp [ap,h]
theorem fc{r:List Nat}(h:i<r.length):r[i]?=some (ap r i):=by rw [b7 h];simp [h]
theorem aw.lt(h:aw r)(hi:i<r.length):ap r i<r.length:=by
 rw [b7 hi];exact h.mem.mp (List.getElem_mem hi)
theorem aw.inj(h:aw r)(hi:i<r.length)(hj:j<r.length)(e:ap r i=ap r j):i=j:=by
 rw [b7 hi,b7 hj]at e
 exact(List.getElem_inj h.nodup).mp e
theorem aw.Na(h:aw r)(hx:x<r.length):∃i,i<r.length∧ap r i=x:=by
 obtain⟨i,hi,e⟩:=List.getElem_of_mem (h.mem.mpr hx)
 exact⟨i,hi,by rw [b7 hi];exact e⟩
theorem Cc{r t:List Nat}(hl:r.length=t.length)(h:∀i,i<r.length→ap r i=ap t i):r=t:=by
 refine List.ext_getElem hl fun i h1 h2=> ?_
 have:=h i h1
 rw [b7 h1,b7 h2]at this
 exact this
theorem vx(n:Nat):aw (List.range n):=by unfold aw;rw [sN]
theorem fW(h:i<n):ap (List.range n) i=i:=by rw [b7 (by simpa using h)];simp
noncomputable def bk(r:List Nat):List Nat:=(List.range r.length).map (fun x=>r.idxOf x)
theorem cO(r:List Nat):(bk r).length=r.length:=by simp [bk]
theorem ap_bk{r:List Nat}(hx:x<r.length):ap (bk r) x=r.idxOf x:=by
 rw [b7 (by simpa [bk]using hx)];simp [bk]
theorem aw.Gb(h:aw r)(hx:x<r.length):ap (bk r) x<r.length:=by
 rw [ap_bk hx];exact List.idxOf_lt_length_iff.mpr (h.mem.mpr hx)
theorem aw.ap_bk(h:aw r)(hx:x<r.length):ap r (ap (bk r) x)=x:=by
 rw [b7 (h.Gb hx)]
 simp only [Bo.ap_bk hx]
 exact List.getElem_idxOf (List.idxOf_lt_length_iff.mpr (h.mem.mpr hx))
theorem aw.Mc(h:aw r)(hi:i<r.length):ap (bk r) (ap r i)=i:=
 h.inj (h.Gb (h.lt hi)) hi (h.ap_bk (h.lt hi))
theorem Mb{t:List Nat}(h:aw r)(hl:t.length=r.length)(ht:∀i,i<r.length→ap t (ap r i)=i):t=bk r:=by
 refine Cc (by rw [cO];exact hl) fun x hx=> ?_
 rw [hl]at hx
 obtain⟨i,hi,rfl⟩:=h.Na hx
 rw [ht i hi,h.Mc hi]
noncomputable def pw(r:List Nat):Nat→Nat→Nat
 |0,x=>x
 |k+1,x=>ap r (pw r k x)
theorem gG{g:List Nat}(h:j<g.length):ap g j∈g:=by rw [b7 h];exact List.getElem_mem h
theorem BW{l:List Bool}(hi:i<l.length):(l.set i b).getD x false=if x=i then b else l.getD x false:=by
 by_cases e:x=i
 ·subst e;simp [hi]
 ·rw [aK e]
  simp [Ne.symm e]
theorem Jg{t:List Nat}(hi:i<t.length):ap (t.set i v) x=if x=i then v else ap t x:=by
 unfold ap
 by_cases e:x=i
 ·subst e;simp [hi]
 ·rw [aK e];simp [Ne.symm e]
noncomputable def sm(n:Nat)(f:Nat→Nat):Nat:=((List.range n).map f).sum
theorem CN{r:List Nat}(h:i<r.length):ap (r++s) i=ap r i:=by
 unfold ap;rw [List.getD_eq_getElem?_getD,List.getD_eq_getElem?_getD,v9 h]
theorem wH(n:Nat):List.range n++[n]=List.range (n+1):=List.range_succ.symm
theorem xo(h:aw r):aw (r++[r.length]):=by
 unfold aw
 rw [dP,uF,←wH]
 exact List.Perm.append h (List.Perm.refl _)
theorem rP(h:aw r):aw r.reverse:=by
 unfold aw
 rw [v5]
 exact(List.reverse_perm r).trans h
noncomputable def OQ(t:List Nat)(x:Nat):List Nat:=x::t.erase x
noncomputable def yN(t:List Nat)(xs:List Nat):List Nat:=xs.foldl OQ t
theorem tZ{t:List Nat}(nd:t.Nodup)(x:Nat)(p:Nat→Bool):(t.erase x).filter p=t.filter (fun y=>p y&&decide (y≠x)):=by
 rw [nd.erase_eq_filter,List.filter_filter]
 refine List.filter_congr fun y _=> ?_
 by_cases e:y=x<;>simp [e]
noncomputable def lw(k:Nat):Nat:=if k % 2=1 then 1 else if k % 4=2 then 2 else if k % 8=4 then 4 else if k % 16=8 then 8 else if k % 32=16 then 16 else if k % 64=32 then 32 else 64
noncomputable def cS(f:Nat→Bool):Nat→Nat
 |0=>0
 |k+1=>cS f k+if f k then 1 else 0
theorem lN(f:Nat→Bool)(h:a≤b):cS f a≤cS f b:=by
 induction b with
 |zero=>rw [show a=0 by lia];exact dr _
 |succ b ih=>
  rcases dS a (b+1)with z|z
  ·exact nH (ih (by lia)) (Nat.le_add_right _ _)
  ·rw [show a=b+1 by lia];exact dr _
theorem vK{f g:Nat→Bool}(h:∀p,p<k→f p=g p):cS f k=cS g k:=by
 induction k with
 |zero=>rfl
 |succ k ih=>rw [cS,cS,ih fun p hp=>h p (by lia),h k (by lia)]
theorem FW{f:Nat→Bool}(h1:a≤p)(h2:p<b)(hp:f p=true):cS f a<cS f b:=by
 have:=lN f h1
 have:=lN f (show p+1≤b by lia)
 have:cS f (p+1)=cS f p+1:=by rw [cS,hp];rfl
 lia
noncomputable def un(f:Nat→Bool)(p:Nat):Nat→Bool:=fun q=>f q&&decide (q≠p)
theorem CG{f:Nat→Bool}(hp:f p=true)(k:Nat):cS (un f p) k+(if p<k then 1 else 0)=cS f k:=by
 induction k with
 |zero=>rfl
 |succ k ih=>
  rw [cS,cS]
  rcases Nat.lt_trichotomy p k with z|z|z
  ·rw [aF z]at ih
   have:un f p k=f k:=by simp [un,show k≠p by lia]
   rw [this,aF (show p<k+1 by lia)];lia
  ·subst z
   rw [aK (by lia)]at ih
   have:un f p p=false:=by simp [un]
   rw [this,hp];simp at ih⊢;exact ih
  ·rw [aK (by lia)]at ih
   have:un f p k=f k:=by simp [un,show k≠p by lia]
   rw [this,aK (show¬p<k+1 by lia)];lia
structure MK(b:Nat)(f:Nat→Bool)(C:List Nat):Prop where
 le:b≤6
 len:C.length=2 ^ b+1
 at':∀k,1≤k→k≤2 ^ b→ap C k+cS f (k-lw k)=cS f k
theorem i8(h:b≤6):1≤2 ^ b∧2 ^ b≤64:=⟨Nat.pos_of_ne_zero (by simp),Nat.pow_le_pow_right (n:=2) (by decide) h⟩
theorem mF(k:Nat):1≤lw k∧lw k≤64:=by unfold lw;(repeat' split)<;>lia
noncomputable def hE(k:Nat):Nat→Nat
 |0=>k-lw k
 |e+1=>if 1≤e∧e+lw e=k then e else hE k e
theorem Nm:∀e,e<64→1≤e→hE (e+lw e) e=e-lw e:=by decide+kernel
theorem Lr:∀k,k<65→1≤k→hE k k=k-1:=by decide+kernel
theorem Nl(h:k≤e):hE k e=hE k k:=by
 induction e with
 |zero=>rw [show k=0 by lia]
 |succ e ih=>
  rcases dS k (e+1)with z|z
  ·rw [hE,aK,ih (by lia)]
   have:=(mF e).1
   lia
  ·rw [show k=e+1 by lia]
theorem FK:∀b,b<7→∀e,e<2 ^ b→1≤e→e+lw e≤2 ^ b:=by decide+kernel
theorem HI:∀e,e<65→∀k,k<65→e<k→1≤e→k<e+lw e→e≤k-lw k:=by decide+kernel
theorem Lc:∀e,e<65→1≤e→e+lw e≤64→e+lw e-lw (e+lw e)≤e-lw e:=by decide+kernel
structure InI(b:Nat)(f:Nat→Bool)(e:Nat)(C:List Nat):Prop where
 le:b≤6
 len:C.length=2 ^ b+1
 at':∀k,1≤k→k≤2 ^ b→ap C k+cS f (k-lw k)=(if f (k-1)then 1 else 0)+cS f (hE k e)
theorem y0(f:Nat→Bool)(h:1≤k):(if f (k-1)then 1 else 0)+cS f (k-1)=cS f k:=by
 obtain⟨j,rfl⟩:∃j,k=j+1:=⟨k-1,by lia⟩
 rw [cS,Nat.add_sub_cancel];lia
theorem InI.start{f:Nat→Bool}{C:List Nat}(h:b≤6)(hl:C.length=2 ^ b+1)(hc:∀k,1≤k→k≤2 ^ b→ap C k=if f (k-1)then 1 else 0):InI b f 1 C:=
 ⟨h,hl,fun k h1 h2=>by rw [hc k h1 h2,show hE k 1=k-lw k from aK (fun q=>absurd q.1 (by decide))]⟩
theorem iE{C:List Nat}(h:i<C.length):ap (C.set i v) k=if k=i then v else ap C k:=by
 unfold ap
 rw [List.getD_eq_getElem?_getD,List.getD_eq_getElem?_getD,List.getElem?_set]
 split
 ·rename_i e;subst e;rw [aF rfl];rfl
 ·rename_i e;rw [aK (fun q=>e q.symm)]
theorem InI.step(I:InI b f e C)(h1:1≤e)(h2:e<2 ^ b):InI b f (e+1) (C.set (e+lw e) (ap C (e+lw e)+ap C e)):=by
 have hp:=i8 I.le
 have hin:=FK b (by have:=I.le;lia) e h2 h1
 have he:=I.at' e h1 (by lia)
 rw [Lr e (by lia) h1,y0 f h1]at he
 refine⟨I.le,by rw [sG];exact I.len,fun k k1 k2=> ?_⟩
 rw [iE (by have:=I.len;lia),show hE k (e+1)=if 1≤e∧e+lw e=k then e else hE k e from rfl]
 by_cases hk:k=e+lw e
 ·rw [aF hk,aF (show 1≤e∧e+lw e=k from⟨h1,hk.symm⟩)]
  have hh:=I.at' k k1 k2
  rw [hk,Nm e (by lia) h1]at hh
  rw [hk]
  lia
 ·rw [aK hk,aK (show¬(1≤e∧e+lw e=k)from fun q=>hk q.2.symm)]
  exact I.at' k k1 k2
theorem InI.done(I:InI b f (2 ^ b) C):MK b f C:=
 ⟨I.le,I.len,fun k h1 h2=>by
   have hp:=i8 I.le
   rw [I.at' k h1 h2,Nl h2,Lr k (by lia) h1,y0 f h1]⟩
structure UnI(b p:Nat)(C:List Nat)(e:Nat)(C':List Nat):Prop where
 len:C'.length=C.length
 low:e≤2 ^ b→e-lw e≤p
 lt:p<e
 at':∀k,ap C' k=if k<e∧k-lw k≤p∧p<k then ap C k-1 else ap C k
theorem UnI.start:UnI b p C (p+1) C:=
 ⟨rfl,fun _=>by have:=(mF (p+1)).1;lia,by lia,fun k=>by rw [aK (by lia)]⟩
theorem UnI.step{C:List Nat}(hb:b≤6)(hl:C.length=2 ^ b+1)(U:UnI b p C e C')(h:e≤2 ^ b):UnI b p C (e+lw e) (C'.set e (ap C' e-1)):=by
 have hp:=i8 hb
 have hlt:=U.lt
 have hlow:=U.low h
 have lp:=(mF e).1
 refine⟨by rw [sG];exact U.len,fun q=>nH (Lc e (by lia) (by lia) (by lia)) hlow,by lia,fun k=> ?_⟩
 rw [iE (by rw [U.len];lia),U.at' e,aK (show¬(e<e∧e-lw e≤p∧p<e)from fun q=>uC _ q.1),U.at' k]
 by_cases hk:k=e
 ·rw [aF hk,hk,aF ⟨by lia,hlow,hlt⟩]
 ·rw [aK hk]
  by_cases hc:k<e∧k-lw k≤p∧p<k
  ·rw [aF hc,aF ⟨by lia,hc.2⟩]
  ·rw [aK hc]
   split
   ·rename_i q
    rcases dS k 65 with z|z
    ·have:=HI e (by lia) k z (by lia) (by lia) q.1
     lia
    ·have:ap C k=0:=by unfold ap;rw [List.getD_eq_getElem?_getD,List.getElem?_eq_none (by lia)];rfl
     lia
   ·rfl
theorem UnI.done(M:MK b f C)(hp:f p=true)(U:UnI b p C e C')(h:2 ^ b<e):MK b (un f p) C':=by
 refine⟨M.le,by rw [U.len];exact M.len,fun k h1 h2=> ?_⟩
 have hm:=M.at' k h1 h2
 have a1:=CG hp k
 have a2:=CG hp (k-lw k)
 have lp:=(mF k).1
 rw [U.at' k]
 by_cases hc:k<e∧k-lw k≤p∧p<k
 ·rw [aF hc]
  rw [aF hc.2.2]at a1
  rw [aK (by lia)]at a2
  have:=FW hc.2.1 hc.2.2 hp
  lia
 ·rw [aK hc]
  by_cases q:p<k
  ·rw [aF q]at a1
   rw [aF (by lia)]at a2
   lia
  ·rw [aK q]at a1
   rw [aK (by lia)]at a2
   lia
theorem UnI.pos(M:MK b f C)(hp:f p=true)(U:UnI b p C e C')(h:e≤2 ^ b):1≤ap C' e:=by
 rw [U.at' e,aK (fun q=>uC _ q.1)]
 have:=M.at' e (by have:=U.lt;lia) h
 have:=FW (U.low h) U.lt hp
 lia
structure PbI(b:Nat)(f:Nat→Bool)(num j place aV:Nat):Prop where
 sum:aV+cS f place=num
 dv:place % 2 ^ j=0
 inn:place+2 ^ j≤2 ^ b
 nx:place+2 ^ j=2 ^ b∨num<cS f (place+2 ^ j)
theorem PbI.start:PbI b f num b 0 num:=⟨by simp [cS],by simp,by lia,.inl (by lia)⟩
theorem HH(hb:b≤6)(hd:place % 2 ^ (j+1)=0)(hi:place+2 ^ (j+1)≤2 ^ b):lw (place+2 ^ j)=2 ^ j:=by
 have hp:=i8 hb
 have hj6:j<6:=by
  rcases dS j 6 with z|z
  ·exact z
  ·have:2 ^ 7≤2 ^ (j+1):=Nat.pow_le_pow_right (by decide) (by lia)
   lia
 have key:∀j,j<6→∀place,place<65→place % 2 ^ (j+1)=0→place+2 ^ j<64→lw (place+2 ^ j)=2 ^ j:=by decide+kernel
 have h2:2 ^ (j+1)=2 ^ j+2 ^ j:=by rw [Nat.pow_succ];lia
 have:1≤2 ^ j:=Nat.pos_of_ne_zero (by simp)
 exact key j hj6 place (by lia) hd (by lia)
theorem PbI.step(M:MK b f C)(I:PbI b f num (j+1) place aV):
 if ap C (place+2 ^ j)≤aV then PbI b f num j (place+2 ^ j) (aV-ap C (place+2 ^ j))else PbI b f num j place aV:=by
 have h2:2 ^ (j+1)=2 ^ j+2 ^ j:=by rw [Nat.pow_succ];lia
 have hj:1≤2 ^ j:=Nat.pos_of_ne_zero (by simp)
 have e:=HH M.le I.dv I.inn
 have inn:=I.inn
 have dv:=I.dv
 have nx:=I.nx
 have sum:=I.sum
 have m:=M.at' (place+2 ^ j) (by lia) (by lia)
 rw [e,Nat.add_sub_cancel]at m
 rw [h2]at inn nx
 have dv0:place % 2 ^ j=0:=by
  have:2 ^ j∣place:=Nat.dvd_trans ⟨2,Nat.pow_succ ..⟩ (Nat.dvd_of_mod_eq_zero dv)
  exact Nat.mod_eq_zero_of_dvd this
 split
 ·rename_i q
  refine⟨by lia,by simp [dv0],by lia,?_⟩
  rcases nx with z|z
  ·exact .inl (by lia)
  ·exact .inr (by rwa [Nat.add_assoc])
 ·exact⟨sum,dv0,by lia,.inr (by lia)⟩
theorem PbI.done(I:PbI b f num 0 place aV):cS f place≤num∧place+1≤2 ^ b∧(place+1=2 ^ b∨num<cS f (place+1)):=
 ⟨by have:=I.sum;lia,I.inn,I.nx⟩
noncomputable def pt(l:List Nat)(m:Nat×Nat):List Nat:=(l.erase m.1).take m.2++m.1::(l.erase m.1).drop m.2
noncomputable def gB(l:List Nat)(ms:List (Nat×Nat)):List Nat:=ms.foldl pt l
section
variable(r:List Nat)(lf:Nat→Bool)
noncomputable def aL:Nat→Nat
 |0=>0
 |t+1=>if lf t then r.idxOf t+1 else aL t
noncomputable def wt(t:Nat)(p:Nat):Bool:=decide (p<r.length)&& !lf (ap r p)&&decide (t≤ap r p)
noncomputable def wT(n t:Nat)(x:Nat):Bool:=decide (x<n)&& !lf x&&decide (t≤x)
noncomputable def cu:Nat→List (Nat×Nat)
 |0=>[]
 |t+1=>if lf t then cu t else cu t++[(t,t+cS (wt r lf (t+1)) (aL r lf t-1))]
noncomputable def ky(t x:Nat):Nat:=64*(if x<t then aL r lf (x+1)else r.idxOf x+1)+x
end
structure Ri(r:List Nat)(lf:Nat→Bool):Prop where
 row:aw r
 le:r.length≤64
 up:∀a b,a<b→b<r.length→lf a=true→lf b=true→r.idxOf a<r.idxOf b
section
variable{r:List Nat}{lf:Nat→Bool}
theorem fO(h:aw r)(hx:x<r.length):r.idxOf x<r.length:=List.idxOf_lt_length_iff.mpr (h.mem.mpr hx)
theorem qA(h:aw r)(hx:x<r.length):ap r (r.idxOf x)=x:=by
 rw [b7 (fO h hx)];exact List.getElem_idxOf _
theorem dZ(h:aw r)(hp:p<r.length):r.idxOf (ap r p)=p:=h.inj (fO h (h.lt hp)) hp (qA h (h.lt hp))
theorem Ri.y9(R:Ri r lf):∀ {s:Nat},s≤t→t<r.length→lf t=true→aL r lf s≤r.idxOf t
 |0,_,_,_=>iQ _
 |s+1,h,ht,hl=>by
  rw [aL]
  split
  ·rename_i q;exact R.up s t (by lia) ht q hl
  ·exact R.y9 (by lia) ht hl
theorem Ri.uy(R:Ri r lf)(h:s≤t)(ht:t≤r.length):aL r lf s≤aL r lf t:=by
 induction t with
 |zero=>rw [show s=0 by lia];exact dr _
 |succ t ih=>
  rcases dS s (t+1)with z|z
  ·have:=ih (by lia) (by lia)
   rw [show aL r lf (t+1)=if lf t then r.idxOf t+1 else aL r lf t from rfl]
   split
   ·rename_i q
    have:=R.y9 (dr t) (by lia) q
    lia
   ·lia
  ·rw [show s=t+1 by lia];exact dr _
theorem qE(h:aw r):∀ {t:Nat},t≤r.length→aL r lf t≤r.length
 |0,_=>iQ _
 |t+1,ht=>by
  rw [aL]
  split
  ·exact fO h (by lia)
  ·exact qE h (by lia)
theorem sO(hl:lf t=true):wt r lf (t+1)=wt r lf t:=by
 funext p
 unfold wt
 rcases Nat.lt_trichotomy (ap r p) t with z|z|z
 ·rw [eC (show¬t+1≤ap r p by lia),eC (show¬t≤ap r p by lia)]
 ·rw [z,hl];simp
 ·rw [de (show t+1≤ap r p by lia),de (show t≤ap r p by lia)]
theorem oK(h:aw r)(ht:t<r.length)(hl:lf t=false):wt r lf (t+1)=un (wt r lf t) (r.idxOf t):=by
 funext p
 show(decide (p<r.length)&& !lf (ap r p)&&decide (t+1≤ap r p))=((decide (p<r.length)&& !lf (ap r p)&&decide (t≤ap r p))&&decide (p≠r.idxOf t))
 by_cases hp:p<r.length
 ·by_cases e:ap r p=t
  ·have:p=r.idxOf t:=by rw [←e,dZ h hp]
   rw [eC (show¬t+1≤ap r p by lia),eC (show¬p≠r.idxOf t from fun q=>q this)];simp
  ·have:p≠r.idxOf t:=fun q=>e (by rw [q,qA h ht])
   rw [de this]
   by_cases z:t≤ap r p
   ·rw [de z,de (show t+1≤ap r p by lia)];simp
   ·rw [eC z,eC (show¬t+1≤ap r p by lia)];simp
 ·rw [eC hp];simp
theorem Av(h:aw r)(ht:t<r.length)(hl:lf t=false):wt r lf t (r.idxOf t)=true:=by
 unfold wt;rw [qA h ht,de (fO h ht),hl];simp
theorem De(hl:lf t=true):wT lf n (t+1)=wT lf n t:=by
 funext p
 unfold wT
 rcases Nat.lt_trichotomy p t with z|z|z
 ·rw [eC (show¬t+1≤p by lia),eC (show¬t≤p by lia)]
 ·rw [z,hl];simp
 ·rw [de (show t+1≤p by lia),de (show t≤p by lia)]
theorem Ax:wT lf n (t+1)=un (wT lf n t) t:=by
 funext p
 show(decide (p<n)&& !lf p&&decide (t+1≤p))=((decide (p<n)&& !lf p&&decide (t≤p))&&decide (p≠t))
 rcases Nat.lt_trichotomy p t with z|z|z
 ·rw [eC (show¬t+1≤p by lia),eC (show¬t≤p by lia)];simp
 ·rw [z];simp
 ·rw [de (show t+1≤p by lia),de (show t≤p by lia),de (show p≠t by lia)];simp
theorem Dd:cS (wT lf n (t+1)) t=0:=by
 have:∀k,k≤t→cS (wT lf n (t+1)) k=0:=fun k=>by
  induction k with
  |zero=>intro _;rfl
  |succ k ih=>
   intro hk
   rw [cS,ih (by lia)]
   unfold wT
   rw [eC (show¬t+1≤k by lia)];simp
 exact this t (dr _)
theorem oq(h:aw r):∀ {t:Nat},t≤r.length→(cu r lf t).length+cS (wt r lf t) r.length=cS (wt r lf 0) r.length
 |0,_=>by simp [cu]
 |t+1,ht=>by
  have ih:=oq h (t:=t) (by lia)
  rw [cu]
  cases hl:lf t with
  |true=>rw [aF rfl,sO hl];exact ih
  |false=>
   rw [aK kQ,oK h ht hl]
   have:=CG (Av h ht hl) r.length
   rw [aF (fO h ht)]at this
   simp only [dP,List.length_singleton]
   lia
theorem Gp(h:aw r):cS (wt r lf r.length) r.length=0:=by
 have:∀k,k≤r.length→cS (wt r lf r.length) k=0:=fun k=>by
  induction k with
  |zero=>intro _;rfl
  |succ k ih=>
   intro hk
   rw [cS,ih (by lia)]
   have:=h.lt (i:=k) hk
   unfold wt
   rw [eC (show¬r.length≤ap r k by lia)];simp
 exact this _ (dr _)
theorem pF(h:aw r)(ht:t≤r.length):(cu r lf t).length+cS (wt r lf t) r.length=(cu r lf r.length).length:=by
 have a:=oq (lf:=lf) h ht
 have b:=oq (lf:=lf) h (dr r.length)
 rw [Gp h]at b
 lia
theorem kc{K:Nat→Nat}:∀ {l:List Nat},l.Pairwise (fun x y=>K x<K y)→(∀x∈l.take (l.countP fun x=>decide (K x<z)),K x<z)∧∀x∈l.drop (l.countP fun x=>decide (K x<z)),z≤K x
 |[],_=>⟨fun _ h=>by simp at h,fun _ h=>by simp at h⟩
 |a::l,h=>by
  obtain⟨h1,h2⟩:=List.pairwise_cons.mp h
  obtain⟨i1,i2⟩:=kc (z:=z) h2
  by_cases q:K a<z
  ·rw [List.countP_cons_of_pos (by simpa using q),List.take_succ_cons,List.drop_succ_cons]
   refine⟨fun x hx=> ?_,i2⟩
   rcases fY.mp hx with e|e
   ·rw [e];exact q
   ·exact i1 x e
  ·have:(a::l).countP (fun x=>decide (K x<z))=0:=List.countP_eq_zero.mpr fun x hx=>by
    rcases fY.mp hx with e|e
    ·rw [e];simpa using q
    ·have:=h1 x e
     simp;lia
   rw [this]
   refine⟨fun _ h=>by simp at h,fun x hx=> ?_⟩
   rcases fY.mp hx with e|e
   ·rw [e];lia
   ·have:=h1 x e;lia
theorem zu{K K':Nat→Nat}{l:List Nat}(nd:l.Nodup)(h:l.Pairwise fun x y=>K x<K y)(hk:∀x∈l,x≠t→K' x=K x∧K x≠K' t):
 (pt l (t,(l.erase t).countP fun x=>decide (K x<K' t))).Pairwise fun x y=>K' x<K' y:=by
 have hs:(l.erase t).Pairwise fun x y=>K x<K y:=h.sublist List.erase_sublist
 have hm:∀x∈l.erase t,K' x=K x∧K x≠K' t:=fun x hx=>by
  obtain⟨h1,h2⟩:=(nd.mem_erase_iff).mp hx
  exact hk x h2 h1
 have hs':(l.erase t).Pairwise fun x y=>K' x<K' y:=hs.imp_of_mem fun {a b} ha hb q=>by rw [(hm a ha).1,(hm b hb).1];exact q
 obtain⟨c1,c2⟩:=kc (z:=K' t) hs
 rw [pt]
 refine List.pairwise_append.mpr ⟨hs'.sublist (List.take_sublist ..),List.pairwise_cons.mpr ⟨fun y hy=> ?_,hs'.sublist (List.drop_sublist ..)⟩,fun x hx y hy=> ?_⟩
 ·have hy':=List.mem_of_mem_drop hy
  have:=c2 y hy
  have:=hm y hy'
  show K' t<K' y
  lia
 ·have hx':=List.mem_of_mem_take hx
  have a:=c1 x hx
  have b:=hm x hx'
  rcases fY.mp hy with e|e
  ·rw [e];show K' x<K' t;lia
  ·have:=c2 y e
   have:=hm y (List.mem_of_mem_drop e)
   lia
theorem yg(h:t∈l):(pt l (t,i)).Perm l:=by
 unfold pt
 refine(List.perm_middle).trans ?_
 rw [Ap]
 exact(List.perm_cons_erase h).symm
theorem jm(g:Nat→Bool)(L:Nat):∀n,(List.range n).countP (fun p=>g p&&decide (p<L))=cS g (min n L)
 |0=>by simp [cS]
 |n+1=>by
  rw [List.range_succ,List.countP_append,jm g L n,List.countP_singleton]
  rcases dS n L with z|z
  ·rw [de z,Bool.and_true,Nat.min_eq_left (by lia),Nat.min_eq_left (by lia),cS]
  ·rw [eC (by lia),Nat.min_eq_right (by lia),Nat.min_eq_right (by lia)];simp
theorem yc:r=(List.range r.length).map (ap r):=by
 refine Cc (by simp) fun i hi=> ?_
 rw [b7 (r:=(List.range r.length).map (ap r)) (by simpa using hi)];simp
theorem rY(h:aw r)(q:Nat→Bool)(hL:L≤r.length):r.countP (fun x=>q x&&decide (r.idxOf x<L))=cS (fun p=>q (ap r p)) L:=by
 have e:r.countP (fun x=>q x&&decide (r.idxOf x<L))=(List.range r.length).countP (fun p=>q (ap r p)&&decide (p<L)):=by
  conv=>lhs;rw [yc (r:=r)]
  rw [List.countP_map]
  refine List.countP_congr fun p hp=> ?_
  have hp':p<r.length:=kY.mp hp
  simp only [Function.comp]
  rw [←yc,dZ h hp']
 rw [e,jm,Nat.min_eq_right hL]
theorem Ag(h:aw r)(ht:t≤r.length):r.countP (fun x=>decide (x<t))=t:=by
 rw [h.countP_eq]
 have:(List.range r.length).countP (fun x=>decide (x<t))=(List.range r.length).countP (fun p=>(fun _=>true) p&&decide (p<t)):=List.countP_congr fun x _=>by simp
 rw [this,jm,Nat.min_eq_right ht]
 clear this ht
 induction t with
 |zero=>rfl
 |succ t ih=>rw [cS,ih];rfl
theorem Af{P Q:Nat→Bool}(l:List Nat)(h:∀x∈l,¬(P x=true∧Q x=true)):l.countP (fun x=>P x||Q x)=l.countP P+l.countP Q:=by
 induction l with
 |nil=>rfl
 |cons a l ih=>
  rw [List.countP_cons,List.countP_cons,List.countP_cons,ih fun x hx=>h x (lT _ hx)]
  have:=h a (lU ..)
  cases hp:P a<;>cases hq:Q a<;>simp [hp,hq]at this⊢<;>lia
theorem Ri.count(R:Ri r lf)(ht:t<r.length)(hl:lf t=false){l:List Nat}(hp:l.Perm r):
 (l.erase t).countP (fun x=>decide (ky r lf t x<ky r lf (t+1) t))=t+cS (wt r lf (t+1)) (aL r lf t-1):=by
 have hrow:=R.row
 have hle:=R.le
 have e1:(l.erase t).countP (fun x=>decide (ky r lf t x<ky r lf (t+1) t))=r.countP (fun x=>decide (x<t)||((!lf x&&decide (t+1≤x))&&decide (r.idxOf x<aL r lf t-1))):=by
  rw [(hp.erase t).countP_eq,List.countP_eq_length_filter,tZ hrow.nodup,←List.countP_eq_length_filter]
  refine List.countP_congr fun x hx=> ?_
  have hx':x<r.length:=hrow.mem.mp hx
  have hz:ky r lf (t+1) t=64*aL r lf t+t:=by
   rw [ky,aF (by lia),aL,aK (by rw [hl];exact kQ)]
  rw [hz]
  rcases Nat.lt_trichotomy x t with z|z|z
  ·have hm:=R.uy (show x+1≤t by lia) (by lia)
   have:ky r lf t x<64*aL r lf t+t:=by rw [ky,aF z];lia
   simp [this,z]
   lia
  ·rw [z];simp;lia
  ·have hk:ky r lf t x=64*(r.idxOf x+1)+x:=by rw [ky,aK (by lia)]
   rw [hk]
   have a1:x≠t:=by lia
   have a2:¬x<t:=by lia
   have a3:t+1≤x:=by lia
   cases hlx:lf x with
   |true=>
    have:=R.y9 (show t≤x by lia) hx' hlx
    have:¬64*(r.idxOf x+1)+x<64*aL r lf t+t:=by lia
    simp [this,a2]
   |false=>
    have:64*(r.idxOf x+1)+x<64*aL r lf t+t↔r.idxOf x<aL r lf t-1:=by lia
    simp [this,a1,a2,a3]
 rw [e1,Af _ (fun x _=>by simp;lia),Ag hrow (by lia),rY hrow _ (by have:=qE (lf:=lf) hrow (t:=t) (by lia);lia)]
 congr 1
 refine vK fun p hp=> ?_
 have:=qE (lf:=lf) hrow (t:=t) (by lia)
 unfold wt
 rw [de (show p<r.length by lia)];simp
theorem rH(l:List Nat)(ms:List (Nat×Nat))(m:Nat×Nat):gB l (ms++[m])=pt (gB l ms) m:=by simp [gB]
theorem Ri.inv(R:Ri r lf):∀ {t:Nat},t≤r.length→(gB r (cu r lf t)).Perm r∧(gB r (cu r lf t)).Pairwise fun x y=>ky r lf t x<ky r lf t y
 |0,_=>by
  refine⟨List.Perm.refl _,?_⟩
  rw [show gB r (cu r lf 0)=r from rfl]
  rw [List.pairwise_iff_getElem]
  intro i j hi hj hij
  have h1:r[i]=ap r i:=(b7 hi).symm
  have h2:r[j]=ap r j:=(b7 hj).symm
  have b1:=R.row.lt hi
  have:=R.le
  rw [h1,h2,ky,ky,aK (by lia),aK (by lia),dZ R.row hi,dZ R.row hj]
  lia
 |t+1,ht=>by
  obtain⟨h1,h2⟩:=R.inv (t:=t) (by lia)
  have hrow:=R.row
  have hle:=R.le
  cases hl:lf t with
  |true=>
   rw [cu,aF hl]
   refine⟨h1,h2.imp_of_mem fun {a b} ha hb q=> ?_⟩
   have key:∀x,ky r lf (t+1) x=ky r lf t x:=fun x=>by
    unfold ky
    rcases Nat.lt_trichotomy x t with z|z|z
    ·rw [aF (by lia),aF z]
    ·rw [z,aF (by lia),aK (by lia),aL,aF hl]
    ·rw [aK (by lia),aK (by lia)]
   rw [key,key];exact q
  |false=>
   rw [cu,aK (by rw [hl];exact kQ),rH,←R.count ht hl h1]
   have nd:(gB r (cu r lf t)).Nodup:=h1.nodup_iff.mpr hrow.nodup
   refine⟨(yg (h1.mem_iff.mpr (hrow.mem.mpr ht))).trans h1,zu nd h2 fun x hx hne=> ?_⟩
   have hx':x<r.length:=hrow.mem.mp (h1.mem_iff.mp hx)
   have k1:ky r lf (t+1) x=ky r lf t x:=by
    unfold ky
    rcases dS x t with z|z
    ·rw [aF (by lia),aF z]
    ·rw [aK (by lia),aK (by lia)]
   refine⟨k1,?_⟩
   unfold ky
   lia
theorem Ri.put(R:Ri r lf):gB r (cu r lf r.length)=List.range r.length:=by
 obtain⟨h1,h2⟩:=R.inv (dr r.length)
 have hp:(gB r (cu r lf r.length)).Perm (List.range r.length):=h1.trans R.row
 have h3:(List.range r.length).Pairwise fun x y=>ky r lf r.length x<ky r lf r.length y:=by
  refine List.pairwise_lt_range.imp_of_mem fun {a b} ha hb q=> ?_
  have ha':=kY.mp ha
  have hb':=kY.mp hb
  rw [ky,ky,aF ha',aF hb']
  have:=R.uy (show a+1≤b+1 by lia) (by lia)
  lia
 exact hp.eq_of_pairwise (fun a b _ _ q1 q2=>by lia) h2 h3
theorem zR:∀ {ms:List (Nat×Nat)},(∀m∈ms,m.1∈s)→(gB s ms).Perm s:=fun {ms}=>by
 induction ms generalizing s with
 |nil=>intro _;exact List.Perm.refl _
 |cons m ms ih=>
  intro h
  have h1:(pt s m).Perm s:=yg (h m (lU ..))
  show(gB (pt s m) ms).Perm s
  exact(ih fun q hq=>h1.mem_iff.mpr (h q (lT _ hq))).trans h1
theorem Ri.mem(R:Ri r lf):∀ {t:Nat},t≤r.length→∀m∈cu r lf t,m.1<t∧lf m.1=false∧m.2<r.length
 |0,_,m,h=>by simp [cu]at h
 |t+1,ht,m,h=>by
  rw [cu]at h
  split at h
  ·have:=R.mem (t:=t) (by lia) m h
   exact⟨by lia,this.2⟩
  ·rename_i q
   rcases fv.mp h with z|z
   ·have:=R.mem (t:=t) (by lia) m z
    exact⟨by lia,this.2⟩
   ·rw [nJ.mp z]
    refine⟨by show t<t+1;lia,by simpa using q,?_⟩
    show t+cS (wt r lf (t+1)) (aL r lf t-1)<r.length
    rw [←R.count ht (by simpa using q) (List.Perm.refl r)]
    refine Nat.lt_of_le_of_lt List.countP_le_length ?_
    rw [List.length_erase_of_mem (R.row.mem.mpr ht)]
    lia
end
noncomputable def fl(F:List (List Nat))(k:Nat):List Nat:=F.getD k []
noncomputable def la(f:List Nat):Nat:=f.getLastD 0
noncomputable def iu(F:List (List Nat)):List Nat:=F.map la
theorem pO(h:f≠[]):la f∈f:=by
 unfold la
 cases f with
 |nil=>exact absurd rfl h
 |cons a f=>rw [List.getLastD_cons];exact List.getLastD_mem_cons
theorem yE(f:List Nat)(t:Nat):la (f++[t])=t:=by unfold la;simp
theorem vq{P:Nat→Nat→Prop}:∀ {f:List Nat},f.Pairwise (fun a b=>b<a∧P a b)→∀a∈f,la f≤a
 |[],_,a,h=>by simp at h
 |[x],_,a,h=>by rw [nJ.mp h];exact dr _
 |x::y::f,hp,a,h=>by
  obtain⟨h1,h2⟩:=List.pairwise_cons.mp hp
  have e:la (x::y::f)=la (y::f):=by unfold la;simp
  rw [e]
  rcases fY.mp h with z|z
  ·rw [z];exact Nat.le_of_lt (h1 _ (pO (by simp))).1
  ·exact vq h2 a z
theorem uv{F:List (List Nat)}(h:k<F.length):ap (iu F) k=la (fl F k):=by
 unfold ap iu fl
 simp [h]
theorem yP{F:List (List Nat)}(h:k<F.length):fl F k=F[k]:=by simp [fl,h]
theorem iA{F:List (List Nat)}(h:k<F.length):fl F k∈F:=by rw [yP h];exact List.getElem_mem h
theorem HG(h:f∈F):∃k,k<F.length∧fl F k=f:=by
 obtain⟨k,hk,e⟩:=List.mem_iff_getElem.mp h
 exact⟨k,hk,by rw [yP hk];exact e⟩
theorem xA{F:List (List Nat)}(h:F.length≤k):fl F k=[]:=by simp [fl,h]
theorem lE(h:aw r):x∈r.take j↔x<r.length∧r.idxOf x<j:=by
 constructor
 ·intro hx
  have hm:=List.mem_of_mem_take hx
  refine⟨h.mem.mp hm,?_⟩
  obtain⟨i,hi,e⟩:=List.mem_iff_getElem.mp hx
  rw [kU]at hi
  rw [List.getElem_take]at e
  have:ap r i=x:=by rw [b7 (by lia)];exact e
  rw [←this,dZ h (by lia)];lia
 ·rintro ⟨h1,h2⟩
  have hl:=fO h h1
  have:(r.take j)[r.idxOf x]'(by rw [kU];lia)=x:=by rw [List.getElem_take];exact List.getElem_idxOf hl
  rw [←this];exact List.getElem_mem _
structure Fa(r:List Nat)(j:Nat)(F:List (List Nat)):Prop where
 ne:∀f∈F,f≠[]
 perm:F.flatten.Perm (r.take j)
 fall:∀f∈F,f.Pairwise (fun a b=>b<a∧r.idxOf a<r.idxOf b)
 rise:∀i j,i<j→j<F.length→ap (iu F) i<ap (iu F) j
 near:∀k,∀t∈fl F (k+1),∃u∈fl F k,u<t∧r.idxOf u<r.idxOf t
theorem Fa.start:Fa r 0 []:=⟨by simp,by simp,by simp,by simp,fun k t h=>by simp [fl]at h⟩
theorem lZ{r:List Nat}(h:j<r.length):r.take (j+1)=r.take j++[ap r j]:=by
 rw [List.take_succ_eq_append_getElem h,b7 h]
theorem Fa.mem(A:Fa r j F)(hf:f∈F)(hx:x∈f):x∈r.take j:=A.perm.mem_iff.mp (List.mem_flatten.mpr ⟨f,hf,hx⟩)
theorem Fa.app(hr:aw r)(hj:j<r.length)(A:Fa r j F)(hk:∀i,i<F.length→ap (iu F) i<ap r j):Fa r (j+1) (F++[[ap r j]]):=by
 have it:=dZ hr hj
 refine⟨fun f hf=> ?_,?_,fun f hf=> ?_,fun a b hab hb=> ?_,fun k t ht=> ?_⟩
 ·rcases fv.mp hf with z|z
  ·exact A.ne f z
  ·rw [nJ.mp z];simp
 ·rw [lZ hj,List.flatten_append]
  exact List.Perm.append A.perm (by simp)
 ·rcases fv.mp hf with z|z
  ·exact A.fall f z
  ·rw [nJ.mp z];simp
 ·have e:iu (F++[[ap r j]])=iu F++[ap r j]:=by simp [iu,la]
  have hl:(iu F).length=F.length:=by simp [iu]
  rw [e]
  rw [dP,uF]at hb
  rw [CN (by lia)]
  rcases dS b F.length with z|z
  ·rw [CN (by lia)];exact A.rise a b hab z
  ·have:ap (iu F++[ap r j]) b=ap r j:=by
    rw [show b=(iu F).length by lia,ap,List.getD_eq_getElem?_getD];simp
   rw [this];exact hk a (by lia)
 ·rcases Nat.lt_trichotomy (k+1) F.length with z|z|z
  ·have e1:fl (F++[[ap r j]]) (k+1)=fl F (k+1):=by simp [fl,List.getElem?_append,z]
   have e2:fl (F++[[ap r j]]) k=fl F k:=by simp [fl,List.getElem?_append,show k<F.length by lia]
   rw [e1]at ht;rw [e2];exact A.near k t ht
  ·have e1:fl (F++[[ap r j]]) (k+1)=[ap r j]:=by rw [z];simp [fl]
   have e2:fl (F++[[ap r j]]) k=fl F k:=by simp [fl,List.getElem?_append,show k<F.length by lia]
   rw [e1]at ht
   rw [nJ.mp ht,e2]
   have hm:=iA (F:=F) (k:=k) (by lia)
   have hl:=pO (A.ne _ hm)
   refine⟨_,hl,?_,?_⟩
   ·rw [←uv (by lia)];exact hk k (by lia)
   ·rw [it];exact((lE hr).mp (A.mem hm hl)).2
  ·rw [xA (by rw [dP];simp;lia)]at ht;simp at ht
theorem A0{F:List (List Nat)}:∀ {k:Nat},k<F.length→(F.set k (fl F k++[t])).flatten.Perm (F.flatten++[t]):=by
 induction F with
 |nil=>intro k h;simp at h
 |cons f F ih=>
  intro k h
  cases k with
  |zero=>
   show(f++[t]++F.flatten).Perm (f++F.flatten++[t])
   rw [kW,kW]
   exact List.Perm.append_left _ List.perm_append_comm
  |succ k=>
   show(f++(F.set k (fl F k++[t])).flatten).Perm (f++F.flatten++[t])
   rw [kW]
   exact List.Perm.append_left _ (ih (by simpa using h))
theorem Ij{F:List (List Nat)}(h:k<F.length):fl (F.set k f) i=if i=k then f else fl F i:=by
 unfold fl
 rw [List.getD_eq_getElem?_getD,List.getD_eq_getElem?_getD,List.getElem?_set]
 by_cases e:k=i
 ·rw [aF e,aF e.symm,aF h];rfl
 ·rw [aK e,aK (fun q=>e q.symm)]
theorem vn{F:List (List Nat)}(h:g∈F.set k f):g=f∨g∈F:=(List.mem_or_eq_of_mem_set h).symm
theorem yD{F:List (List Nat)}:iu (F.set k f)=(iu F).set k (la f):=by simp [iu,List.map_set]
theorem Fa.put(hr:aw r)(hj:j<r.length)(A:Fa r j F)(hk:k<F.length)(h1:∀i,i<k→ap (iu F) i<ap r j)(h2:∀i,k≤i→i<F.length→ap r j<ap (iu F) i):Fa r (j+1) (F.set k (fl F k++[ap r j])):=by
 have it:=dZ hr hj
 have hm:=iA hk
 have hll:(iu F).length=F.length:=by simp [iu]
 refine⟨fun f hf=> ?_,?_,fun f hf=> ?_,fun a b hab hb=> ?_,fun i t ht=> ?_⟩
 ·rcases vn hf with z|z
  ·rw [z];simp
  ·exact A.ne f z
 ·rw [lZ hj]
  exact(A0 hk).trans (List.Perm.append_right _ A.perm)
 ·rcases vn hf with z|z
  ·rw [z]
   refine List.pairwise_append.mpr ⟨A.fall _ hm,by simp,fun a ha b hb=> ?_⟩
   rw [nJ.mp hb]
   refine⟨?_,?_⟩
   ·have:=vq (A.fall _ hm) a ha
    have h3:=h2 k (dr _) hk
    rw [uv hk]at h3
    lia
   ·rw [it];exact((lE hr).mp (A.mem hm ha)).2
  ·exact A.fall f z
 ·rw [sG]at hb
  rw [yD,yE,iE (by lia),iE (by lia)]
  by_cases ea:a=k
  ·rw [aF ea,aK (by lia)];exact h2 b (by lia) hb
  ·rw [aK ea]
   by_cases eb:b=k
   ·rw [aF eb];exact h1 a (by lia)
   ·rw [aK eb];exact A.rise a b hab hb
 ·rw [Ij hk]at ht⊢
  by_cases e1:i+1=k
  ·rw [aF e1]at ht
   rw [aK (by lia)]
   rcases fv.mp ht with z|z
   ·rw [←e1]at z;exact A.near i t z
   ·rw [nJ.mp z]
    have hm':=iA (F:=F) (k:=i) (by lia)
    have hl:=pO (A.ne _ hm')
    refine⟨_,hl,?_,?_⟩
    ·rw [←uv (by lia)];exact h1 i (by lia)
    ·rw [it];exact((lE hr).mp (A.mem hm' hl)).2
  ·rw [aK e1]at ht
   obtain⟨u,hu,q⟩:=A.near i t ht
   by_cases e2:i=k
   ·rw [aF e2];subst e2;exact⟨u,Aq _ hu,q⟩
   ·rw [aK e2];exact⟨u,hu,q⟩
theorem Fa.HC(hr:aw r)(hj:j<r.length)(A:Fa r j F)(hi:i<F.length):ap (iu F) i≠ap r j:=fun e=>by
 have hm:=iA hi
 have hl:=A.mem hm (pO (A.ne _ hm))
 rw [←uv hi,e]at hl
 have:=((lE hr).mp hl).2
 rw [dZ hr hj]at this
 lia
structure Fs(r:List Nat)(F:List (List Nat)):Prop where
 ne:∀f∈F,f≠[]
 perm:F.flatten.Perm (List.range r.length)
 fall:∀f∈F,f.Pairwise (fun a b=>b<a∧r.idxOf a<r.idxOf b)
 near:∀k,∀t∈fl F (k+1),∃u∈fl F k,u<t∧r.idxOf u<r.idxOf t
theorem Fa.done(hr:aw r)(A:Fa r r.length F):Fs r F:=
 ⟨A.ne,by have:=A.perm;rw [List.take_length]at this;exact this.trans hr,A.fall,A.near⟩
theorem Fs.lt(A:Fs r F)(hf:f∈F)(hx:x∈f):x<r.length:=kY.mp (A.perm.mem_iff.mp (List.mem_flatten.mpr ⟨f,hf,hx⟩))
theorem z7{F:List (List Nat)}(nd:F.flatten.Nodup):∀ {i j:Nat},x∈fl F i→x∈fl F j→i=j:=by
 induction F with
 |nil=>intro i j h;simp [fl]at h
 |cons f F ih=>
  rw [jT,eX]at nd
  have key:∀ {k:Nat},x∈fl F k→x∈F.flatten:=fun {k} h=>by
   rcases dS k F.length with z|z
   ·exact List.mem_flatten.mpr ⟨_,iA z,h⟩
   ·rw [xA z]at h;simp at h
  intro i j hi hj
  cases i with
  |zero=>
   cases j with
   |zero=>rfl
   |succ j=>exact absurd rfl (nd.2.2 x hi x (key hj))
  |succ i=>
   cases j with
   |zero=>exact absurd rfl (nd.2.2 x hj x (key hi))
   |succ j=>rw [ih nd.2.1 (i:=i) (j:=j) hi hj]
theorem Fs.uniq(A:Fs r F)(hi:x∈fl F i)(hj:x∈fl F j):i=j:=z7 (A.perm.nodup_iff.mpr List.nodup_range) hi hj
theorem EM{r f:List Nat}(h:f.Pairwise (fun a b=>b<a∧r.idxOf a<r.idxOf b))(hu:u∈f)(hx:x∈f)(hi:r.idxOf u≤r.idxOf x):x≤u:=by
 obtain⟨a,ha,ea⟩:=List.mem_iff_getElem.mp hu
 obtain⟨b,hb,eb⟩:=List.mem_iff_getElem.mp hx
 have hp:=List.pairwise_iff_getElem.mp h
 rcases Nat.lt_trichotomy a b with z|z|z
 ·have:=hp a b ha hb z
  rw [ea,eb]at this;lia
 ·subst z;rw [←ea,←eb];exact dr _
 ·have:=hp b a hb ha z
  rw [ea,eb]at this;lia
noncomputable def aQ(r C:List Nat):Nat:=match C with
 |c::_=>r.idxOf c
 |[]=>r.length
structure RI(r:List Nat)(F:List (List Nat))(q w:Nat)(C:List Nat):Prop where
 len:C.length+w=F.length
 up:C.Pairwise (fun a b=>a<b∧r.idxOf a<r.idxOf b)
 inn:∀x∈C,x<r.length∧q≤r.idxOf x
 hd:∀c D,C=c::D→c∈fl F w
 nx:∀w',w=w'+1→∀x∈fl F w',¬(q≤r.idxOf x∧r.idxOf x<aQ r C)
theorem RI.start:RI r F r.length F.length []:=
 ⟨by simp,by simp,by simp,by simp,fun w' _ x _ h=>by have:=h.2;simp only [aQ]at this;lia⟩
theorem RI.take(hr:aw r)(A:Fs r F)(I:RI r F (q+1) (w+1) C)(hq:q<r.length)(hx:ap r q∈fl F w):RI r F q w (ap r q::C):=by
 have iq:=dZ hr hq
 refine⟨by have:=I.len;simp only [List.length_cons];lia,List.pairwise_cons.mpr ⟨fun c hc=> ?_,I.up⟩,fun x h=> ?_,fun c D e=> ?_,fun w' e x hx' h=> ?_⟩
 ·have key:∀c0 D,C=c0::D→ap r q<c0∧r.idxOf (ap r q)<r.idxOf c0:=fun c0 D e=>by
   obtain⟨u,hu,h1,h2⟩:=A.near w c0 (I.hd c0 D e)
   have hn:=I.nx w rfl u hu
   have ht:aQ r C=r.idxOf c0:=by rw [e];rfl
   rw [ht]at hn
   have hw:w<F.length:=by have:=I.len;lia
   have:=EM (A.fall _ (iA hw)) hu hx (by lia)
   have:=(I.inn c0 (by rw [e];exact lU ..)).2
   lia
  cases C with
  |nil=>simp at hc
  |cons c0 D=>
   have k0:=key c0 D rfl
   rcases fY.mp hc with z|z
   ·rw [z];exact k0
   ·have:=(List.pairwise_cons.mp I.up).1 c z
    lia
 ·rcases fY.mp h with z|z
  ·rw [z];exact⟨hr.lt hq,by lia⟩
  ·have:=I.inn x z;lia
 ·obtain⟨rfl,rfl⟩:=List.cons.inj e;exact hx
 ·have:=h.2;simp only [aQ]at this;lia
theorem RI.skip(hr:aw r)(I:RI r F (q+1) w C)(hq:q<r.length)(hx:∀w',w=w'+1→ap r q∉fl F w')(hF:∀k,∀x∈fl F k,x<r.length):RI r F q w C:=
 ⟨I.len,I.up,fun x h=>by have:=I.inn x h;lia,I.hd,fun w' e x hx' h=>by
   rcases dS q (r.idxOf x)with z|z
   ·exact I.nx w' e x hx' ⟨z,h.2⟩
   ·have:r.idxOf x=q:=by lia
    have:ap r q=x:=by rw [←this];exact qA hr (hF _ x hx')
    exact hx w' e (this▸hx')⟩
theorem Fs.FQ(A:Fs r F)(k x:Nat)(hx:x∈fl F k):x<r.length:=by
 rcases dS k F.length with z|z
 ·exact A.lt (iA z) hx
 ·rw [xA z]at hx;simp at hx
theorem RI.done(hr:aw r)(A:Fs r F)(I:RI r F 0 w C):w=0:=by
 cases w with
 |zero=>rfl
 |succ w=>
  exfalso
  have hw:w<F.length:=by have:=I.len;lia
  have hn:=I.nx w rfl
  cases C with
  |nil=>
   have hm:=iA hw
   have hl:=pO (A.ne _ hm)
   exact hn _ hl ⟨iQ _,fO hr (A.lt hm hl)⟩
  |cons c D=>
   obtain⟨u,hu,_,h2⟩:=A.near w c (I.hd c D rfl)
   exact hn u hu ⟨iQ _,h2⟩
theorem RI.ri(hr:aw r)(hl:r.length≤64)(I:RI r F q w C):Ri r (fun x=>decide (x∈C)):=
 ⟨hr,hl,fun a b hab _ ha hb=>by
  obtain⟨i,hi,ei⟩:=List.mem_iff_getElem.mp (fm ha)
  obtain⟨j,hj,ej⟩:=List.mem_iff_getElem.mp (fm hb)
  have hp:=List.pairwise_iff_getElem.mp I.up
  rcases Nat.lt_trichotomy i j with z|z|z
  ·have:=hp i j hi hj z
   rw [ei,ej]at this;exact this.2
  ·subst z;lia
  ·have:=hp j i hj hi z
   rw [ei,ej]at this;lia⟩
theorem zL{C:List Nat}(hr:aw r)(nd:C.Nodup)(hC:∀x∈C,x<r.length):(cu r (fun x=>decide (x∈C)) r.length).length+C.length=r.length:=by
 have h1:=pF (lf:=fun x=>decide (x∈C)) hr (iQ r.length)
 have h2:cS (wt r (fun x=>decide (x∈C)) 0) r.length=r.countP (fun x=> !decide (x∈C)):=by
  have:=rY hr (fun x=> !decide (x∈C)) (dr r.length)
  rw [vK (g:=fun p=> !decide (ap r p∈C)) fun p hp=>by unfold wt;rw [de hp];simp,←this]
  refine List.countP_congr fun x hx=> ?_
  have:=fO hr (hr.mem.mp hx)
  simp [this]
 have h3:r.countP (fun x=>decide (x∈C))=C.length:=by
  rw [List.countP_eq_length_filter]
  refine(List.perm_ext_iff_of_nodup (hr.nodup.filter _) nd|>.mpr fun x=> ?_).length_eq
  rw [Gk,hr.mem]
  simp only [decide_eq_true_eq]
  exact⟨fun h=>h.2,fun h=>⟨hC x h,h⟩⟩
 have h4:=List.length_eq_countP_add_countP (fun x=>decide (x∈C)) (l:=r)
 simp only [cu,List.length_nil,qO]at h1
 have h5:r.countP (fun x=> !decide (x∈C))=r.countP (fun x=>decide ¬(decide (x∈C)=true)):=List.countP_congr fun x _=>by simp
 lia
theorem RI.nodup(I:RI r F q w C):C.Nodup:=I.up.imp fun h e=>by lia
theorem jK(h:aw r)(hx:x<r.length):r.reverse.idxOf x+r.idxOf x+1=r.length:=by
 have hs:=rP h
 have hl:=fO h hx
 have e:ap r.reverse (r.length-1-r.idxOf x)=x:=by
  rw [b7 (by rw [v5];lia),List.getElem_reverse]
  have:r.length-1-(r.length-1-r.idxOf x)=r.idxOf x:=by lia
  simp only [this]
  exact List.getElem_idxOf hl
 have:=dZ hs (p:=r.length-1-r.idxOf x) (by rw [v5];lia)
 rw [e]at this
 lia
theorem z8{F:List (List Nat)}:(∀f∈F,f≠[])→(∀f∈F,f.length≤1)→F.flatten.length=F.length:=by
 induction F with
 |nil=>intro _ _;rfl
 |cons f F ih=>
  intro h1 h2
  rw [jT,dP,ih (fun g hg=>h1 g (lT _ hg)) (fun g hg=>h2 g (lT _ hg))]
  have:=h2 f (lU ..)
  have:=List.length_pos_iff.mpr (h1 f (lU ..))
  rw [gL];lia
end Bo
end
noncomputable section
namespace MI
open PySem L2
section
variable(Γ:bu)(env:Env)
@[simp] theorem aE(i:Nat):ev Γ (.var i) env=(env[i]?).join:=rfl
@[simp] theorem jj(i:Int):ev Γ (.int i) env=some (.int i):=rfl
@[simp] theorem LJ(i:Bool):ev Γ (.bl i) env=some (.bl i):=rfl
@[simp] theorem Nw:ev Γ .non env=some .non:=rfl
@[simp] theorem Nr(x:Str):ev Γ (.str x) env=some (.str x):=rfl
@[simp] theorem bU(op:Operator)(a b:E):ev Γ (.bin op a b) env=(ev Γ a env).bind fun x=>(ev Γ b env).bind fun y=>dI op x y:=rfl
@[simp] theorem b6(f:U)(a:E):ev Γ (.un f a) env=(ev Γ a env).bind (iG f):=rfl
@[simp] theorem gE(a:E):ev Γ (.not a) env=(ev Γ a env).bind wU:=rfl
@[simp] theorem cv(op:CmpOp)(a b:E):ev Γ (.cmp op a b) env=(ev Γ a env).bind fun x=>(ev Γ b env).bind fun y=>bV op x y:=rfl
@[simp] theorem LI(o1 o2:CmpOp)(a b c:E):ev Γ (.ch o1 o2 a b c) env=(ev Γ a env).bind fun x=>(ev Γ b env).bind fun y=>(bV o1 x y).bind fun z=>pW z ((ev Γ c env).bind fun w=>bV o2 y w) (some (.bl false)):=rfl
@[simp] theorem mN(a b:E):ev Γ (.and a b) env=(ev Γ a env).bind fun x=>pW x (ev Γ b env) (some (.bl false)):=rfl
@[simp] theorem m7(a b:E):ev Γ (.or a b) env=(ev Γ a env).bind fun x=>pW x (some (.bl true)) (ev Γ b env):=rfl
@[simp] theorem Cf(c a b:E):ev Γ (.ite c a b) env=((ev Γ c env).bind cT).bind fun x=>if x then ev Γ a env else ev Γ b env:=rfl
@[simp] theorem bZ(a b:E):ev Γ (.idx a b) env=(ev Γ a env).bind fun x=>(ev Γ b env).bind fun y=>tT x y:=rfl
@[simp] theorem t8(a lo hi:E):ev Γ (.cut a lo hi) env=(ev Γ a env).bind fun x=>(mq lo (ev Γ lo env)).bind fun l=>(mq hi (ev Γ hi env)).bind fun h=>nY x l h:=rfl
@[simp] theorem Nv(a:E):ev Γ (.rev a) env=(ev Γ a env).bind uW:=rfl
@[simp] theorem xC(a:E):ev Γ (.lst a) env=(ev Γ a env).bind Kl:=rfl
@[simp] theorem Io(a:E):ev Γ (.tup a) env=(ev Γ a env).bind Mt:=rfl
@[simp] theorem LH(a b:E):ev Γ (.mn a b) env=(ev Γ a env).bind fun x=>(ev Γ b env).bind fun y=>BI x y:=rfl
@[simp] theorem Ce(a b:E):ev Γ (.mx a b) env=(ev Γ a env).bind fun x=>(ev Γ b env).bind fun y=>wX x y:=rfl
@[simp] theorem Ny(a:E)(k:Nat):ev Γ (.isi a k) env=(ev Γ a env).bind fun x=>(pR x k).map .bl:=rfl
theorem t9(elt:E)(is:List Nat)(it c:E):ev Γ (.comp elt is it c) env=((ev Γ it env).bind kZ).bind fun ds=>if sz ds.length then(dq (fun d=>(cS c (ev Γ c (inner env is d))).bind fun b=>if b then(ev Γ elt (inner env is d)).map some else some none) ds).map .lst else none:=rfl
@[simp] theorem c9(f:Nat)(args:E):ev Γ (.call f args) env=(Γ f).bind fun g=>((ev Γ args env).bind bx).bind fun l=>(g l).map strip:=rfl
@[simp] theorem Nu(a:E):ev Γ (.rng a) env=(ev Γ a env).bind fun x=>oY (.int 0) x:=rfl
@[simp] theorem yR(a b:E):ev Γ (.rng2 a b) env=(ev Γ a env).bind fun x=>(ev Γ b env).bind fun y=>oY x y:=rfl
@[simp] theorem NA(a:E):ev Γ (.enm a) env=(ev Γ a env).bind ET:=rfl
@[simp] theorem Os(a b:E):ev Γ (.zp a b) env=(ev Γ a env).bind fun x=>(ev Γ b env).bind fun y=>JJ x y:=rfl
@[simp] theorem dE:ev Γ .nil env=some (.lst []):=rfl
@[simp] theorem aR(a r:E):ev Γ (.cons a r) env=(ev Γ a env).bind fun x=>(ev Γ r env).bind fun y=>m8 x y:=rfl
end
@[simp] theorem b0(x:D)(l:List D):m8 x (.lst l)=some (.lst (x::l)):=rfl
@[simp] theorem bY(l:List D):bx (.lst l)=some l:=rfl
@[simp] theorem gM(l:List D):kZ (.lst l)=some l:=rfl
@[simp] theorem Js(l:List D):kZ (.tup l)=some l:=rfl
@[simp] theorem tG(b:Bool):wU (.bl b)=some (.bl (!b)):=rfl
@[simp] theorem fe(b:Bool):cT (.bl b)=some b:=rfl
@[simp] theorem Gy(b:Int):cT (.int b)=some (b !=0):=rfl
@[simp] theorem yI(a b:Option D):pW (.bl true) a b=a:=rfl
@[simp] theorem BR(a b:Option D):pW (.bl false) a b=b:=rfl
@[simp] theorem KY(o:Option D):mq .nil o=some none:=rfl
@[simp] theorem KW(i:Nat)(o:Option D):mq (.var i) o=match o with|some (.int i)=>some (some i)|_=>none:=rfl
@[simp] theorem xP(o:Option D):cS .nil o=some true:=rfl
@[simp] theorem x6(l:List D):Kl (.lst l)=if sz l.length then some (.lst l)else none:=rfl
@[simp] theorem Ms(l:List D):Mt (.lst l)=if sz l.length then some (.tup l)else none:=rfl
@[simp] theorem eu(l:List D):iG .len (.lst l)=some (.int l.length):=rfl
@[simp] theorem Mz(l:List D):iG .len (.tup l)=some (.int l.length):=rfl
@[simp] theorem BD(i:Int):iG .neg (.int i)=some (.int (-i)):=rfl
@[simp] theorem Lf(l:List D):iG .list (.lst l)=some (.lst l):=rfl
@[simp] theorem Le(l:List D):iG .list (.tup l)=some (.lst l):=rfl
@[simp] theorem KF(l:List D):uW (.lst l)=some (.lst l.reverse):=rfl
@[simp] theorem lJ(l:List D)(a b:Option Int):nY (.lst l) a b=some (.lst (uf l a b)):=rfl
@[simp] theorem yJ(l:List D)(i:Int):tT (.lst l) (.int i)=L2.atI l i:=rfl
@[simp] theorem EI(l:List D)(i:Int):tT (.tup l) (.int i)=L2.atI l i:=rfl
@[simp] theorem xT(i j:Int):dI .Add (.int i) (.int j)=some (.int (i+j)):=rfl
@[simp] theorem wz(i j:Int):dI .Sub (.int i) (.int j)=some (.int (i-j)):=rfl
@[simp] theorem xS(a b:List D):dI .Add (.lst a) (.lst b)=if sz (a.length+b.length)then some (.lst (a++b))else none:=rfl
@[simp] theorem Ji(i j:Int):dI .BitAnd (.int i) (.int j)=some (.int (Builtin.bitAnd i j)):=rfl
@[simp] theorem Ld(i j:Int):bV .Lt (.int i) (.int j)=some (.bl (decide (i<j))):=rfl
@[simp] theorem Lh(i j:Int):bV .LtE (.int i) (.int j)=some (.bl (decide (i≤j))):=rfl
@[simp] theorem Ls(i j:Int):bV .Gt (.int i) (.int j)=some (.bl (decide (j<i))):=rfl
@[simp] theorem On(i j:Int):bV .GtE (.int i) (.int j)=some (.bl (decide (j≤i))):=rfl
@[simp] theorem vB(a b:D):bV .Eq a b=(xF a b).map .bl:=by cases a<;>cases b<;>rfl
@[simp] theorem FJ(a b:D):bV .NotEq a b=(xF a b).map fun c=> .bl (!c):=by cases a<;>cases b<;>rfl
@[simp] theorem Oj(i j:Int):BI (.int i) (.int j)=some (.int (if j<i then j else i)):=rfl
@[simp] theorem Oi(i j:Int):wX (.int i) (.int j)=some (.int (if j>i then j else i)):=rfl
@[simp] theorem uV(i j:Int):oY (.int i) (.int j)=(uT i j).map .lst:=rfl
@[simp] theorem LN(l:List D):ET (.lst l)=some (.lst (dG 0 l)):=rfl
@[simp] theorem MN(l m:List D):JJ (.lst l) (.lst m)=some (.lst (jW l m)):=rfl
@[simp] theorem Ks(i:Int):scal (.int i)=true:=rfl
@[simp] theorem Mw(i:Bool):scal (.bl i)=true:=rfl
@[simp] theorem Kq:scal .non=true:=rfl
@[simp] theorem Kp(x:Str):scal (.str x)=true:=rfl
@[simp] theorem Kr(l:List D):scal (.lst l)=false:=rfl
@[simp] theorem Ko(l:List D):scal (.tup l)=false:=rfl
@[simp] theorem bh(d:D):strip (.sh d)=d:=by simp [strip]
@[simp] theorem fA(ts:List T):strip (.ow ts)=.lst (ts.map strip):=by simp [strip,oQ]
@[simp] theorem Lz(d:D):bN (.sh d)=scal d:=by simp [bN]
theorem p0(ts:List T):iz ts=ts.all bN:=by
 induction ts with
 |nil=>simp [iz]
 |cons t r ih=>simp [iz,ih]
@[simp] theorem LA(ts:List T):bN (.ow ts)=ts.all bN:=by simp [bN,p0]
theorem gy:strip∘T.sh=id:=by funext d;simp
@[simp] theorem dB(ds:List D):(ds.map T.sh).map strip=ds:=by rw [List.map_map,gy,List.map_id]
@[simp] theorem bS:ae []=[]:=rfl
@[simp] theorem bj(o:Option T)(r:av):ae (o::r)=o.map strip::ae r:=rfl
@[simp] theorem Cb:gC []=[]:=rfl
@[simp] theorem Aa(o:Option T)(r:av):gC (o::r)=Dv o::gC r:=rfl
@[simp] theorem Du(d:D):Dv (some (.sh d))=some d:=rfl
@[simp] theorem Jt:Dv none=none:=rfl
section
variable(Γ:bu)(Δ:gH)(pio:Option Nat)(n:Nat)(env:av)
@[simp] theorem Nq:ex Γ Δ pio n .nop env=some (.nx,env):=rfl
@[simp] theorem MD:ex Γ Δ pio n .retN env=some (.rt (.sh .non),env):=rfl
@[simp] theorem LG:ex Γ Δ pio n .raise env=none:=rfl
noncomputable def qV(r:Option (Fl×av))(k:av→Option (Fl×av)):Option (Fl×av):=r.bind fun r=>match r.1 with
 | .nx=>k r.2
 |_=>some r
@[simp] theorem aN(a b:S):ex Γ Δ pio n (.seq a b) env=qV (ex Γ Δ pio n a env) (ex Γ Δ pio n b):=rfl
@[simp] theorem Mv(e:av)(k:av→Option (Fl×av)):qV (some (.nx,e)) k=k e:=rfl
@[simp] theorem Mu(t:T)(e:av)(k:av→Option (Fl×av)):qV (some (.rt t,e)) k=some (.rt t,e):=rfl
@[simp] theorem Il(i:Nat)(m:E):ex Γ Δ pio n (.asg i m) env=if di pio env i then(bL Γ pio m env).map fun r=>(.nx,r.2.set i (some r.1))else none:=rfl
@[simp] theorem eT(c:E)(a b:S):ex Γ Δ pio n (.ife c a b) env=(bG Γ c (ae env)).bind fun t=>if t then ex Γ Δ pio n a env else ex Γ Δ pio n b env:=rfl
@[simp] theorem Ik(m:E)(h:∀i,m≠.var i):ex Γ Δ pio n (.ret m) env=(bL Γ pio m env).map fun r=>(.rt r.1,r.2):=by
  cases m with
  |var i=>exact absurd rfl (h i)
  |_=>rfl
@[simp] theorem EO(i:Nat):ex Γ Δ pio n (.ret (.var i)) env=if pio=some i then none else(env[i]?).join.map fun t=>(.rt t,env.set i none):=rfl
@[simp] theorem Cd(i:Nat)(k m:E):ex Γ Δ pio n (.set i k m) env=(ev Γ m (ae env)).bind fun d=>if scal d then((ev Γ k (ae env)).bind g7).bind fun z=>(bw env i).bind fun ts=>(kH ts.length z).map fun j=>(.nx,env.set i (some (.ow (ts.set j (.sh d)))))else none:=rfl
end
@[simp] theorem K7(env:av)(i:Nat):di none env i=decide (i<env.length):=by simp [di]
@[simp] theorem K6(env:av)(i j:Nat):di (some j) env i=decide (j≠i∧i<env.length):=by simp [di]
section
variable(Γ:bu)(Δ:gH)(pio:Option Nat)(n:Nat)(env:av)
theorem t7(i:Nat)(it:E)(b:S):ex Γ Δ pio n (.for1 i it b) env=if di pio env i then(gJ Γ pio it env).bind fun r=>forL (fun d e=>ex Γ Δ pio n b (e.set i (some (.sh d)))) r.1 r.2 else none:=rfl
theorem LF(c:E)(b:S):ex Γ Δ pio n (.wh c b) env=dU (fun e=>bG Γ c (ae e)) (ex Γ Δ pio n b) n env:=rfl
theorem ER(m:E):ex Γ Δ pio n (.drop m) env=(bL Γ pio m env).map fun r=>(.nx,r.2):=rfl
theorem t6(neg:Bool)(f i:Nat)(args:E)(a b:S):ex Γ Δ pio n (.ifio neg f i args a b) env=(qZ Γ Δ f i args env).bind fun r=>match r.1 with
 | .sh (.bl t)=>if(t !=neg)then ex Γ Δ pio n a r.2 else ex Γ Δ pio n b r.2
 |_=>none:=rfl
theorem Im(i:Nat)(m:E):ex Γ Δ pio n (.app i m) env=(bL Γ pio m env).bind fun r=>(bw r.2 i).bind fun ts=>if sz ts.length then some (.nx,r.2.set i (some (.ow (ts++[r.1]))))else none:=rfl
end
theorem au(hc:dg m=false)(h:ev Γ m (ae env)=some d)(hs:scal d=true):bL Γ pio m env=some (.sh d,env):=by
 rw [dm hc,h]
 show(if scal d then _ else _)=_
 rw [aF hs]
theorem bB(hc:dg m=false)(hf:fresh m=true)(h:ev Γ m (ae env)=some (.lst ds))(hs:ds.all scal=true):bL Γ pio m env=some (.ow (ds.map T.sh),env):=by
 rw [dm hc,h,obs,aK (show¬scal (.lst ds)=true from kQ),aF hf,bY,obs,aF hs]
theorem aW{Γ:bu}(hg:Γ f=some g)(hl:jM Γ args (ae env)=some l)(ht:g l=some t)(hf:bN t=true):bL Γ pio (.call f args) env=some (t,env):=by
 rw [jk,hg]
 show(jM Γ args (ae env)).bind _=_
 rw [hl]
 show(g l).bind _=_
 rw [ht]
 show(if bN t then _ else _)=_
 rw [aF hf]
@[simp] theorem M9(ts:List T)(r:av):bw (some (.ow ts)::r) 0=some ts:=rfl
@[simp] theorem M8(o:Option T)(r:av)(i:Nat):bw (o::r) (i+1)=bw r i:=rfl
@[simp] theorem je(i:Int):g7 (.int i)=some i:=rfl
@[simp] theorem Jy(ts:List T):jn (.ow ts)=some ts:=rfl
@[simp] theorem Jx(ds:List D):jn (.sh (.lst ds))=some (ds.map T.sh):=rfl
theorem dh(h:n≤1000000):sz n=true:=de h
@[simp] theorem C7(ns:List Int):(ns.map D.int).all scal=true:=by simp
@[simp] theorem ck(ns:List Bool):(ns.map D.bl).all scal=true:=by simp
noncomputable def gP(Γ:bu)(Δ:gH)(m:Nat)(N:List Str)(ar:Nat)(body:S)(ds:List D):Option T:=if ds.length=ar then match ex Γ Δ none m body (bC N ds)with
 |some (.rt t,_)=>some t
 |some (.nx,_)=>some (.sh .non)
 |_=>none
 else none
noncomputable def Oq:Fl→Option T
 | .rt t=>some t
 | .nx=>some (.sh .non)
 |_=>none
noncomputable def gQ(Γ:bu)(Δ:gH)(m:Nat)(N:List Str)(j ar:Nat)(body:S)(l:List D):Option (T×List D):=if l.length=ar then(ex Γ Δ (some j) m body (c7 N j l)).bind fun r=>(Oq r.1).bind fun t=>(bw r.2 j).bind fun ts=>(unsh ts).map fun ds=>(t,ds)else none
noncomputable def bM(Γ:bu)(f:Nat)(g:List D→Option T):bu:=fun i=>if i=f then some g else Γ i
noncomputable def nX(Δ:gH)(f j:Nat)(g:List D→Option (T×List D)):gH:=fun i=>if i=f then some (j,g)else Δ i
section
variable{P:Program}{w:World}{K:W.Frag}{mg:Str→Option Value}{base:Heap}{cl:Nat→Option Addr}{c:CS}{Γ:bu}{Δ:gH}{k:Nat}
theorem Lw.start(hb:∀x∈JF,mg x=none){gi:List (Str×Int)}{cn:List (Str×Nat)}(hg:∀x i,gi.lookup x=some i→∃t,mg x=some (.int i t))(hc:gw K cl)(hn:∀x j,cn.lookup x=some j→∃J,cl j=some J∧mg x=some (.ref J)):Lw P w K mg base cl ⟨⟨[],gi,cn⟩,[]⟩ (fun _=>none) (fun _=>none) 0:=
 ⟨(fun x f h=>by simp at h),(fun x f i h=>by simp at h),hb,hg,hc,(fun d C i m g _ _ h=>by cases h),hn,(fun d C i m g _ _ h=>by cases h)⟩
theorem Lw.run(L:Lw P w K mg base cl c Γ Δ k)(F:Fun K x qual st fa fd)(FS:FnScope N ps (ai st))(loc:∀x∈N,(ai st).names.lookup x=some .local∨(ai st).names.lookup x=some .cell)(hc:vZ c n N (ai st) (aj st)=some body):FnOk P w K mg base km (k+1) fa fd ps (spP K cl (gP Γ Δ m N ps.length body)):=by
 refine Cn L F FS loc hc (fun ds t h=> ?_) (fun ds t h=> ?_)
 ·unfold gP at h
  split at h
  ·assumption
  ·cases h
 ·unfold gP at h
  split at h
  ·split at h
   ·rename_i e;cases h;exact⟨m,_,_,e,.inl rfl⟩
   ·rename_i e;cases h;exact⟨m,_,_,e,.inr ⟨rfl,rfl⟩⟩
   ·cases h
  ·cases h
theorem Lw.KE(L:Lw P w K mg base cl c Γ Δ k)(F:Fun K x qual st fa fd)(FS:FnScope N ps (ai st))(loc:∀x∈N,(ai st).names.lookup x=some .local∨(ai st).names.lookup x=some .cell)(hc:vZ c n N (ai st) (aj st)=some body):FnOk P w K mg base km (k+1) fa fd ps (spIO K cl j (gQ Γ Δ m N j ps.length body)):=by
 refine Iw L F FS loc hc (fun ds t ds' h=> ?_) (fun ds t ds' h=> ?_)
 ·unfold gQ at h
  split at h
  ·assumption
  ·cases h
 ·unfold gQ at h
  split at h
  ·obtain⟨⟨fl,env'⟩,e,h⟩:=af h
   obtain⟨t',e2,h⟩:=af h
   obtain⟨ts,e3,h⟩:=af h
   obtain⟨d2,e4,h⟩:=aM h
   cases h
   refine⟨m,fl,env',e,?_,?_⟩
   ·cases fl with
    |rt t=>cases e2;exact .inl rfl
    |nx=>cases e2;exact .inr ⟨rfl,rfl⟩
    |_=>cases e2
   ·rw [oj e3,jH e4]
  ·cases h
theorem rJ:∀ {tab:List (Str×Nat)},tab.all (fun p=>p.2 !=f)=true→tab.lookup x=some f'→f'≠f
 |[],_,h=>by cases h
 |(y,g)::r,ha,h=>by
  rw [cK,Bool.and_eq_true]at ha
  rw [sF]at h
  split at h
  ·cases h;simpa using ha.1
  ·exact rJ ha.2 h
theorem pL:∀ {tab:List (Str×Nat×Nat)},tab.all (fun p=>p.2.1 !=f)=true→tab.lookup x=some (f',i)→f'≠f
 |[],_,h=>by cases h
 |(y,g)::r,ha,h=>by
  rw [cK,Bool.and_eq_true]at ha
  rw [sF]at h
  split at h
  ·cases h;simpa using ha.1
  ·exact pL ha.2 h
theorem Lw.ext(L:Lw P w K mg base cl c Γ Δ k)(hf:f<1000)(hn:c.cc.tab.all (fun p=>p.2 !=f)=true):Lw P w K mg base cl c (bM Γ f g) Δ k:=by
 refine⟨fun y f' h=> ?_,L.io,L.blt,L.gi,L.cls,fun d C i m g' h0 h1 h2=> ?_,L.cn,L.mio⟩
 ·obtain⟨g',h1,r⟩:=L.fn y f' h
  exact⟨g',by unfold bM;rw [aK (rJ hn h)];exact h1,r⟩
 ·refine L.mth d C i m g' h0 h1 ?_
  unfold bM at h2
  rw [aK (by unfold jZ;lia)]at h2
  exact h2
theorem Lw.join(L:Lw P w K mg base cl c Γ Δ k)(hf:f<1000)(hn:c.cc.tab.all (fun p=>p.2 !=f)=true)(F:FnOk P w K mg base km (k+1) fa fd ps (spP K cl g))(hm:mg x=some (.ref fa))(hk:W.keepIn K (.ref fa)=true)(hb:cA K fd ps []):
 Lw P w K mg base cl ⟨⟨(x,f)::c.cc.tab,c.cc.gi,c.cc.cn⟩,c.iot⟩ (bM Γ f g) Δ (k+1):=
 (L.ext hf hn).Mj (jS _) (by unfold bM;rw [aF rfl]) (.inl ⟨fa,fd,ps,F,hm,hk,hb⟩)
theorem Lw.Lk(L:Lw P w K mg base cl c Γ Δ k)(hf:f<1000)(hn:c.cc.tab.all (fun p=>p.2 !=f)=true)(M:Mk K C fa)(F:FnOk P w K mg base km (k+1) fa fd ps (spM K cl C g))(hm:mg x=some (.ref C))(hb:cA K fd ps []):
 Lw P w K mg base cl ⟨⟨(x,f)::c.cc.tab,c.cc.gi,c.cc.cn⟩,c.iot⟩ (bM Γ f g) Δ (k+2):=
 (L.ext hf hn).Mj (by lia) (by unfold bM;rw [aF rfl]) (.inr ⟨k+1,C,fa,fd,ps,dr _,M,F,hm,hb⟩)
theorem rK:∀ {tab:List (Str×Nat)},tab.all (fun p=>decide (p.2<1000))=true→tab.lookup x=some f'→f'<1000
 |[],_,h=>by cases h
 |(y,g)::r,ha,h=>by
  rw [cK,Bool.and_eq_true]at ha
  rw [sF]at h
  split at h
  ·cases h;exact fm ha.1
  ·exact rK ha.2 h
theorem Lw.joinM(L:Lw P w K mg base cl c Γ Δ k)(hn:c.cc.tab.all (fun p=>decide (p.2<1000))=true)(hi:uB[i]?=some m)(hcl:cl d=some C)(M:Meth K C m fa)(F:FnOk P w K mg base km (k+1) fa fd ps (spP K cl g))(hb:cA K fd ps []):
 Lw P w K mg base cl c (bM Γ (jZ d i) g) Δ (k+1):=by
 have hi4:i<4:=(j4.mp hi).1
 refine⟨fun y f' h=> ?_,fun y f' j h=> ?_,L.blt,L.gi,L.cls,fun d' C' i' m' g' h0 h1 h2=> ?_,L.cn,fun d C i m g h0 h1 h2=>(L.mio d C i m g h0 h1 h2).mono (jS _)⟩
 ·obtain⟨g',h1,r⟩:=L.fn y f' h
  refine⟨g',?_,r.mono (jS _)⟩
  have:=rK hn h
  unfold bM;rw [aK (by unfold jZ;lia)];exact h1
 ·obtain⟨g',h1,fa',fd',ps',F1,F2,F3,F4⟩:=L.io y f' j h
  exact⟨g',h1,fa',fd',ps',F1.mono (jS _),F2,F3,F4⟩
 ·have hi4':i'<4:=(j4.mp h0).1
  unfold bM at h2
  split at h2
  ·rename_i e
   cases h2
   unfold jZ at e
   obtain⟨rfl,rfl⟩:d'=d∧i'=i:=by lia
   rw [hcl]at h1
   cases h1
   rw [hi]at h0
   cases h0
   exact⟨fa,fd,ps,M,F,hb⟩
  ·exact(L.mth d' C' i' m' g' h0 h1 h2).mono (jS _)
theorem Lw.HS(L:Lw P w K mg base cl c Γ Δ k)(hf:f<1000)(hn:c.iot.all (fun p=>p.2.1 !=f)=true)(F:FnOk P w K mg base km (k+1) fa fd ps (spIO K cl j g))(hm:mg x=some (.ref fa))(hk:W.keepIn K (.ref fa)=true)(hb:cA K fd ps []):
 Lw P w K mg base cl ⟨c.cc,(x,f,j)::c.iot⟩ Γ (nX Δ f j g) (k+1):=by
 have L':Lw P w K mg base cl c Γ (nX Δ f j g) k:=⟨L.fn,fun y f' i h=>by
  obtain⟨g',h1,r⟩:=L.io y f' i h
  exact⟨g',by unfold nX;rw [aK (pL hn h)];exact h1,r⟩,L.blt,L.gi,L.cls,L.mth,L.cn,fun d C i m g' h0 h1 h2=>L.mio d C i m g' h0 h1 (by unfold nX at h2;rw [aK (by unfold jZ;lia)]at h2;exact h2)⟩
 exact L'.Mi (by unfold nX;rw [aF rfl]) F hm hk hb
theorem pN:∀ {tab:List (Str×Nat×Nat)},tab.all (fun p=>decide (p.2.1<1000))=true→tab.lookup x=some (f',i)→f'<1000
 |[],_,h=>by cases h
 |(y,g)::r,ha,h=>by
  rw [cK,Bool.and_eq_true]at ha
  rw [sF]at h
  split at h
  ·cases h;exact fm ha.1
  ·exact pN ha.2 h
theorem Lw.Lj(L:Lw P w K mg base cl c Γ Δ k)(hn:c.iot.all (fun p=>decide (p.2.1<1000))=true)(hi:uB[i]?=some m)(hcl:cl d=some C)(M:Meth K C m fa)(F:FnOk P w K mg base km (k+1) fa fd ps (spMIO K cl C g))(hb:cA K fd ps []):
 Lw P w K mg base cl c Γ (nX Δ (jZ d i) 0 g) (k+1):=by
 have hi4:i<4:=(j4.mp hi).1
 refine⟨fun y f' h=> ?_,fun y f' j h=> ?_,L.blt,L.gi,L.cls,fun d C i m g h0 h1 h2=>(L.mth d C i m g h0 h1 h2).mono (jS _),L.cn,fun d' C' i' m' g' h0 h1 h2=> ?_⟩
 ·obtain⟨g',h1,r⟩:=L.fn y f' h
  exact⟨g',h1,r.mono (jS _)⟩
 ·obtain⟨g',h1,fa',fd',ps',F1,F2,F3,F4⟩:=L.io y f' j h
  have:=pN hn h
  exact⟨g',by unfold nX;rw [aK (by unfold jZ;lia)];exact h1,fa',fd',ps',F1.mono (jS _),F2,F3,F4⟩
 ·have hi4':i'<4:=(j4.mp h0).1
  unfold nX at h2
  split at h2
  ·rename_i e
   cases h2
   unfold jZ at e
   obtain⟨rfl,rfl⟩:d'=d∧i'=i:=by lia
   rw [hcl]at h1
   cases h1
   rw [hi]at h0
   cases h0
   exact⟨fa,fd,ps,M,F,hb⟩
  ·exact(L.mio d' C' i' m' g' h0 h1 h2).mono (jS _)
noncomputable def gW(Γ:bu)(Δ:gH)(m:Nat)(N:List Str)(j ar:Nat)(body:S)(l:List D):Option (T×List D):=match l with
 | .lst ds::args=>if args.length+1=ar then(ex Γ Δ (some j) m body (l8 N j ds args)).bind fun r=>match r.1 with
   | .nx=>(bw r.2 j).bind fun ts=>(unsh ts).map fun ds=>(.sh .non,ds)
   |_=>none
   else none
 |_=>none
theorem Lw.MY(L:Lw P w K mg base cl c Γ Δ k){x qual:Str}{st st1:Stmt}{aV:List Stmt}{fa C:Addr}{fd:FuncData}{N ps:List Str}{n m j c0:Nat}{body:S}(hcl:cl c0=some C)(F:Fun K x qual st fa fd)(FS:FnScope ("self"::N) ps (ai st))(loc:∀x∈("self":Str)::N,(ai st).names.lookup x=some .local∨(ai st).names.lookup x=some .cell)
 (hb:aj st=st1::aV)(h1:yH st1=true)(hj:N[j]?=some "counts")(hjp:ps.length≤j+1)(hc:vZ c n ("self"::N) (ai st) aV=some body):FnOk P w K mg base km (k+1) fa fd ps (spMIO K cl C (gW Γ Δ m ("self"::N) (j+1) ps.length body)):=by
 refine EU L hcl F FS loc hb h1 hj hjp hc (fun ds l r h=> ?_) (fun ds l r h=> ?_)
 ·unfold gW at h
  simp only at h
  split at h
  ·assumption
  ·cases h
 ·unfold gW at h
  simp only at h
  split at h
  ·obtain⟨⟨fl,env'⟩,e,h⟩:=af h
   cases fl with
   |nx=>
    obtain⟨ts,e3,h⟩:=af (show(bw env' (j+1)).bind (fun ts=>(unsh ts).map fun ds=>(T.sh D.non,ds))=some r from h)
    obtain⟨d2,e4,h⟩:=aM h
    cases h
    exact⟨m,env',e,by rw [oj e3,jH e4]⟩
   |_=>cases h
  ·cases h
theorem Lu{args ds':List D}(hl:args.length+1=ar)(h:ex Γ Δ (some j) m body (l8 N j ds args)=some (.nx,env))(hj:bw env j=some (ds'.map T.sh)):gW Γ Δ m N j ar body (.lst ds::args)=some (.sh .non,ds'):=by
 unfold gW
 simp only
 rw [aF hl,h];simp [hj,ll]
noncomputable def gI(Γ:bu)(Δ:gH)(m:Nat)(N:List Str)(c0 ar:Nat)(body:S)(ds:List D):Option T:=if ds.length+1=ar then(ex Γ Δ none m body (oR N c0 ds)).bind fun r=>match r.1 with
 | .nx=>(r.2[0]?).join
 |_=>none
 else none
theorem Lw.runC(L:Lw P w K mg base cl c Γ Δ k)(hcl:cl c0=some C)(F:Fun K x qual st fa fd)(FS:FnScope (y::N) ps (ai st))(loc:∀x∈y::N,(ai st).names.lookup x=some .local∨(ai st).names.lookup x=some .cell)(hc:vZ c n (y::N) (ai st) (aj st)=some body)(h0:0∉cZ body):FnOk P w K mg base km (k+1) fa fd ps (spM K cl C (gI Γ Δ m (y::N) c0 ps.length body)):=by
 refine Co L hcl F FS loc hc h0 (fun ds t h=> ?_) (fun ds t h=> ?_)
 ·unfold gI at h
  split at h
  ·assumption
  ·cases h
 ·unfold gI at h
  split at h
  ·obtain⟨⟨fl,env'⟩,e,h⟩:=af h
   cases fl with
   |nx=>
    have h':(env'[0]?).join=some t:=h
    refine⟨m,env',e,?_⟩
    cases z:env'[0]? with
    |none=>rw [z]at h';cases h'
    |some o=>rw [z]at h';rw [show o=some t from h']
   |_=>cases h
  ·cases h
end
theorem bo{ds:List D}(hl:ds.length=ar)(h:ex Γ Δ none m body (bC N ds)=some (.rt t,env)):gP Γ Δ m N ar body ds=some t:=by
 unfold gP;rw [aF hl,h]
theorem Lx{ds:List D}(hl:ds.length=ar)(h:ex Γ Δ none m body (bC N ds)=some (.nx,env)):gP Γ Δ m N ar body ds=some (.sh .non):=by
 unfold gP;rw [aF hl,h]
theorem FN{ds ds':List D}(hl:ds.length=ar)(h:ex Γ Δ (some j) m body (c7 N j ds)=some (.rt t,env))(hj:bw env j=some (ds'.map T.sh)):gQ Γ Δ m N j ar body ds=some (t,ds'):=by
 unfold gQ;rw [aF hl,h];simp [Oq,hj,ll]
end MI
namespace MI
open PySem L2
section
variable{Γ:bu}{Δ:gH}{pio:Option Nat}{n:Nat}{env env2 env3:av}{k:S}
theorem aq(ok:di pio env i=true)(h:bL Γ pio m env=some (t,env2)):ex Γ Δ pio n (.seq (.asg i m) k) env=ex Γ Δ pio n k (env2.set i (some t)):=by
 rw [aN,Il,aF ok,h];rfl
theorem ya(ok:(di pio env i&&di pio env j&&decide (i≠j))=true)(h:bL Γ pio m env=some (t,env2))(h2:bL Γ pio l env2=some (u,env3)):ex Γ Δ pio n (.seq (.asg2 i j m l) k) env=ex Γ Δ pio n k ((env3.set i (some t)).set j (some u)):=by
 rw [aN,show ex Γ Δ pio n (.asg2 i j m l) env=if di pio env i&&di pio env j&&decide (i≠j)then(bL Γ pio m env).bind fun r=>(bL Γ pio l r.2).map fun q=>(.nx,(q.2.set i (some r.1)).set j (some q.1))else none from rfl,aF ok,h,obs,show bL Γ pio l (t,env2).2=_ from h2];rfl
theorem aH(h:bG Γ c (ae env)=some false):ex Γ Δ pio n (.seq (.ife c a .nop) k) env=ex Γ Δ pio n k env:=by
 rw [aN,eT,h];rfl
theorem gR(h:bG Γ c (ae env)=some t)(h2:(if t then ex Γ Δ pio n a env else ex Γ Δ pio n b env)=some (.nx,env2)):ex Γ Δ pio n (.seq (.ife c a b) k) env=ex Γ Δ pio n k env2:=by
 rw [aN,eT,h,obs,h2];rfl
theorem cL(ok:di pio env i=true)(h:gJ Γ pio it env=some (l,env2))(hf:forL (fun d e=>ex Γ Δ pio n b (e.set i (some (.sh d)))) l env2=some (.nx,env3)):ex Γ Δ pio n (.seq (.for1 i it b) k) env=ex Γ Δ pio n k env3:=by
 rw [aN,t7,aF ok,h,obs,show forL (fun d e=>ex Γ Δ pio n b (e.set i (some (.sh d)))) (l,env2).1 (l,env2).2=_ from hf];rfl
noncomputable def lY(f:D→D→av→Option (Fl×av))(d:D)(e:av):Option (Fl×av):=match d with
 | .tup [x,y]=>f x y e
 |_=>none
theorem gd(ok:(di pio env i&&di pio env j&&decide (i≠j))=true)(h:gJ Γ pio it env=some (l,env2))(hf:forL (lY fun x y e=>ex Γ Δ pio n b ((e.set i (some (.sh x))).set j (some (.sh y)))) l env2=some (.nx,env3)):ex Γ Δ pio n (.seq (.for2 i j it b) k) env=ex Γ Δ pio n k env3:=by
 rw [aN,show ex Γ Δ pio n (.for2 i j it b) env=if di pio env i&&di pio env j&&decide (i≠j)then(gJ Γ pio it env).bind fun r=>forL (lY fun x y e=>ex Γ Δ pio n b ((e.set i (some (.sh x))).set j (some (.sh y)))) r.1 r.2 else none from rfl,aF ok,h,obs,show forL (lY fun x y e=>ex Γ Δ pio n b ((e.set i (some (.sh x))).set j (some (.sh y)))) (l,env2).1 (l,env2).2=_ from hf];rfl
theorem x9(h:dU (fun e=>bG Γ c (ae e)) (ex Γ Δ pio n b) n env=some (.nx,env2)):ex Γ Δ pio n (.seq (.wh c b) k) env=ex Γ Δ pio n k env2:=by
 rw [aN,LF,h];rfl
theorem bX(hm:∀i,m≠.var i)(h:bL Γ pio m env=some (t,env2)):ex Γ Δ pio n (.seq (.ret m) k) env=some (.rt t,env2):=by
 rw [aN,Ik _ _ _ _ _ _ hm,h];rfl
theorem ec(hp:pio≠some i)(h:(env[i]?).join=some t):ex Γ Δ pio n (.seq (.ret (.var i)) k) env=some (.rt t,env.set i none):=by
 rw [aN,EO,aK hp,h];rfl
theorem kq(h1:ev Γ m (ae env)=some d)(hs:scal d=true)(h2:ev Γ q (ae env)=some (.int z))(h3:bw env i=some ts)(h4:kH ts.length z=some j):ex Γ Δ pio n (.seq (.set i q m) k) env=ex Γ Δ pio n k (env.set i (some (.ow (ts.set j (.sh d))))):=by
 rw [aN,Cd,h1,obs,aF hs,h2]
 simp [h3,h4]
theorem AX(h:bL Γ pio m env=some (t,env2))(h2:bw env2 i=some ts)(hs:sz ts.length=true):ex Γ Δ pio n (.seq (.app i m) k) env=ex Γ Δ pio n k (env2.set i (some (.ow (ts++[t])))):=by
 rw [aN,Im,h,obs,show bw (t,env2).2 i=some ts from h2,obs,aF hs];rfl
theorem GE(h:bL Γ pio m env=some (t,env2))(hc:jn t=some us)(h2:bw env2 i=some ts)(hs:sz (ts.length+us.length)=true):ex Γ Δ pio n (.seq (.ext i m) k) env=ex Γ Δ pio n k (env2.set i (some (.ow (ts++us)))):=by
 rw [aN,show ex Γ Δ pio n (.ext i m) env=(bL Γ pio m env).bind fun r=>(jn r.1).bind fun us=>(bw r.2 i).bind fun ts=>if sz (ts.length+us.length)then some (.nx,r.2.set i (some (.ow (ts++us))))else none from rfl,h,obs,show jn (t,env2).1=some us from hc,obs,show bw (t,env2).2 i=some ts from h2,obs,aF hs];rfl
theorem GD{i:Nat}{q m:E}{d:D}{z:Nat}{ts:List T}(h1:ev Γ q (ae env)=some (.int z))(h2:ev Γ m (ae env)=some d)(h3:bw env i=some ts)(hs:scal d=true)(hz:z≤ts.length)(hl:sz ts.length=true):ex Γ Δ pio n (.seq (.ins i q m) k) env=ex Γ Δ pio n k (env.set i (some (.ow (ts.take z++.sh d::ts.drop z)))):=by
 rw [aN,show ex Γ Δ pio n (.ins i q m) env=((ev Γ q (ae env)).bind g7).bind fun z=>(ev Γ m (ae env)).bind fun d=>(bw env i).bind fun ts=>if scal d&&decide (0≤z∧z≤ts.length)&&sz ts.length then some (.nx,env.set i (some (.ow (ts.take z.toNat++.sh d::ts.drop z.toNat))))else none from rfl,h1,h2,h3]
 simp only [obs,je]
 rw [aF (by rw [hs,hl,de (by omega)];rfl),v8];rfl
theorem Do(h:bL Γ pio m env=some (t,env2)):ex Γ Δ pio n (.seq (.drop m) k) env=ex Γ Δ pio n k env2:=by
 rw [aN,ER,h];rfl
theorem uO(h:qZ Γ Δ f i args env=some (.sh (.bl true),env2)):ex Γ Δ pio n (.seq (.ifio true f i args a .nop) k) env=ex Γ Δ pio n k env2:=by
 rw [aN,t6,h];rfl
theorem AW(h1:ev Γ q (ae env)=some (.int z))(h2:bw env i=some ts)(h3:kH ts.length z=some j)(h4:ts[j]?=some (.ow us))(h5:ev Γ m (ae env)=some d)(hs:scal d=true)(hl:sz us.length=true):ex Γ Δ pio n (.seq (.appAt i q m) k) env=ex Γ Δ pio n k (env.set i (some (.ow (ts.set j (.ow (us++[.sh d])))))):=by
 rw [aN,show ex Γ Δ pio n (.appAt i q m) env=((ev Γ q (ae env)).bind g7).bind fun z=>(bw env i).bind fun ts=>(kH ts.length z).bind fun j=>(ts[j]?).bind fun t=>(pU t).bind fun us=>(ev Γ m (ae env)).bind fun d=>if scal d&&sz us.length then some (.nx,env.set i (some (.ow (ts.set j (.ow (us++[.sh d]))))))else none from rfl,h1,h2]
 simp only [obs,je,h3,h4,pU,h5]
 rw [aF (by rw [hs,hl];rfl)];rfl
end
noncomputable def qu:S:=(.seq (.ret (.and (.isi (.var 0) 0) (.not (.isi (.var 0) 1))))
 .nop)
noncomputable def gr:S:=(.seq (.ife (.or (.not (.call 0 (.cons (.var 0) .nil))) (.or (.not (.ch .LtE .Lt (.int 0) (.var 0) (.un .len (.var 1)))) (.idx (.var 1) (.var 0))))
 (.seq (.ret (.bl false))
 .nop) .nop)
 (.seq (.set 1 (.var 0) (.bl true))
 (.seq (.ret (.bl true))
 .nop)))
noncomputable def vP:S:=(.seq (.ife (.not (.isi (.var 0) 2))
 (.seq (.ret (.bl false))
 .nop) .nop)
 (.seq (.asg 1 (.bin .Mult (.lst (.cons (.bl false) .nil)) (.un .len (.var 0))))
 (.seq (.for1 2 (.var 0)
 (.seq (.ifio true 100 1 (.cons (.var 2) (.cons (.var 1) .nil))
 (.seq (.ret (.bl false))
 .nop) .nop)
 .nop))
 (.seq (.ret (.bl true))
 .nop))))
noncomputable def kT:S:=(.seq (.ife (.not (.call 1 (.cons (.var 0) .nil)))
 (.seq .raise
 .nop) .nop)
 .nop)
noncomputable def nj:S:=(.seq (.ife (.not (.isi (.var 1) 2))
 (.seq (.ret (.bl false))
 .nop) .nop)
 (.seq (.asg 2 (.bin .Mult (.lst (.cons (.bl false) .nil)) (.var 0)))
 (.seq (.for1 3 (.var 1)
 (.seq (.ife (.or (.not (.isi (.var 3) 2)) (.cmp .Eq (.un .len (.var 3)) (.int 0)))
 (.seq (.ret (.bl false))
 .nop) .nop)
 (.seq (.for1 4 (.var 3)
 (.seq (.ifio true 100 2 (.cons (.var 4) (.cons (.var 2) .nil))
 (.seq (.ret (.bl false))
 .nop) .nop)
 .nop))
 .nop)))
 (.seq (.ret (.bl true))
 .nop))))
noncomputable def gu:S:=(.seq (.ret (.and (.call 3 (.cons (.var 0) (.cons (.var 1) .nil))) (.cmp .Eq (.un .sum (.comp (.un .len (.var 0)) [] (.var 1) .nil)) (.var 0))))
 .nop)
noncomputable def sq:S:=(.seq (.ret (.and (.isi (.var 0) 3) (.and (.cmp .Eq (.un .len (.var 0)) (.int 2)) (.and (.call 0 (.cons (.idx (.var 0) (.int 0)) .nil)) (.call 0 (.cons (.idx (.var 0) (.int 1)) .nil))))))
 .nop)
noncomputable def nt:S:=(.seq (.ret (.and (.isi (.var 0) 2) (.un .all (.comp (.call 5 (.cons (.var 0) .nil)) [] (.var 0) .nil))))
 .nop)
noncomputable def sv:S:=(.seq (.asg 1 (.bin .Mult (.lst (.cons (.int 0) .nil)) (.un .len (.var 0))))
 (.seq (.for2 2 3 (.enm (.var 0))
 (.seq (.set 1 (.var 3) (.var 2))
 .nop))
 (.seq (.ret (.var 1))
 .nop)))
noncomputable def cP:S:=(.seq (.asg 2 (.bin .LShift (.int 1) (.un .bitl (.un .len (.var 1)))))
 (.seq (.fst 0 "counts" (.bin .Add (.bin .Add (.lst (.cons (.int 0) .nil)) (.comp (.ite (.var 0) (.int 1) (.int 0)) [] (.var 1) .nil)) (.bin .Mult (.lst (.cons (.int 0) .nil)) (.bin .Sub (.var 2) (.un .len (.var 1))))))
 (.seq (.for1 3 (.rng2 (.int 1) (.var 2))
 (.seq (.augF 0 "counts" .Add (.bin .Add (.var 3) (.bin .BitAnd (.var 3) (.un .neg (.var 3)))) (.idx (.fld (.var 0) "counts") (.var 3)))
 .nop))
 .nop)))
noncomputable def jw:S:=(.seq (.asg 3 (.un .len (.var 2)))
 (.seq (.asg 4 (.bin .Add (.var 1) (.int 1)))
 (.seq (.wh (.cmp .Lt (.var 4) (.var 3))
 (.seq (.augS 2 .Sub (.var 4) (.int 1))
 (.seq (.aug 4 .Add (.bin .BitAnd (.var 4) (.un .neg (.var 4))))
 .nop)))
 .nop)))
noncomputable def ki:S:=(.seq (.asg 2 (.fld (.var 0) "counts"))
 (.seq (.asg 3 (.int 0))
 (.seq (.asg 4 (.var 1))
 (.seq (.wh (.cmp .Gt (.var 4) (.int 0))
 (.seq (.aug 3 .Add (.idx (.var 2) (.var 4)))
 (.seq (.asg 4 (.bin .BitAnd (.var 4) (.bin .Sub (.var 4) (.int 1))))
 .nop)))
 (.seq (.ret (.var 3))
 .nop)))))
noncomputable def eI:S:=(.seq (.asg 2 (.fld (.var 0) "counts"))
 (.seq (.asg 3 (.var 1))
 (.seq (.asg 4 (.int 0))
 (.seq (.asg 5 (.bin .RShift (.un .len (.var 2)) (.int 1)))
 (.seq (.wh (.cmp .Gt (.var 5) (.int 0))
 (.seq (.asg 6 (.idx (.var 2) (.bin .Add (.var 4) (.var 5))))
 (.seq (.ife (.cmp .LtE (.var 6) (.var 3))
 (.seq (.aug 3 .Sub (.var 6))
 (.seq (.aug 4 .Add (.var 5))
 .nop)) .nop)
 (.seq (.asg 5 (.bin .RShift (.var 5) (.int 1)))
 .nop))))
 (.seq (.ret (.var 4))
 .nop))))))
noncomputable def fU:S:=(.seq (.asg 2 (.un .neg (.int 1)))
 (.seq (.for2 3 4 (.enm (.var 1))
 (.seq (.ife (.cmp .LtE (.var 4) (.var 2))
 (.seq (.ret (.bl false))
 .nop) .nop)
 (.seq (.asg 2 (.mx (.var 2) (.idx (.var 0) (.var 3))))
 .nop)))
 (.seq (.ret (.bl true))
 .nop)))
noncomputable def iI:S:=(.seq (.asg 2 (.bin .Mult (.lst (.cons (.bl false) .nil)) (.var 0)))
 (.seq (.for2 3 4 (.var 1)
 (.seq (.set 2 (.var 3) (.bl true))
 .nop))
 (.seq (.ret (.var 2))
 .nop)))
noncomputable def fV:S:=(.seq (.asg 2 (.call 8 (.cons (.var 0) .nil)))
 (.seq (.asg 3 (.un .list (.var 2)))
 (.seq (.asg 4 (.un .list (.var 2)))
 (.seq (.asg 5 (.call 26 (.cons (.un .len (.var 0)) (.cons (.var 1) .nil))))
 (.seq (.asg 6 (.call 85 (.cons (.var 5) .nil)))
 (.seq (.asg 7 (.call 85 (.cons (.comp (.idx (.var 1) (.var 0)) [5] (.var 0) .nil) .nil)))
 (.seq (.asg 8 (.un .len (.var 1)))
 (.seq (.for2 9 10 (.var 1)
 (.seq (.aug 8 .Sub (.int 1))
 (.seq (.mio 6 1 (.cons (.var 9) .nil))
 (.seq (.mio 7 1 (.cons (.idx (.var 2) (.var 9)) .nil))
 (.seq (.asg 11 (.bin .Sub (.var 9) (.meth (.var 6) 2 (.cons (.var 9) .nil))))
 (.seq (.asg 12 (.bin .Sub (.var 10) (.var 11)))
 (.seq (.ife (.not (.ch .LtE .LtE (.int 0) (.var 12) (.var 8)))
 (.seq (.ret (.bl false))
 .nop) .nop)
 (.seq (.set 3 (.var 9) (.ite (.cmp .Gt (.var 12) (.int 0)) (.meth (.var 7) 3 (.cons (.bin .Sub (.var 12) (.int 1)) .nil)) (.un .neg (.int 1))))
 (.seq (.set 4 (.var 9) (.meth (.var 7) 3 (.cons (.var 12) .nil)))
 .nop)))))))))
 (.seq (.ret (.call 25 (.cons (.var 3) (.cons (.var 4) .nil))))
 .nop)))))))))
noncomputable def vQ:S:=(.seq (.retC (.var 0))
 .nop)
noncomputable def dJ:S:=(.seq (.ife (.not (.isi (.var 1) 2))
 (.seq (.ret (.bl false))
 .nop) .nop)
 (.seq (.asg 2 (.bin .Mult (.lst (.cons (.bl false) .nil)) (.var 0)))
 (.seq (.retAll 100 2 (.var 1))
 .nop)))
noncomputable def iK:S:=(.seq (.for2 2 3 (.zp (.var 0) (.cut (.var 0) (.int 1) .nil))
 (.seq (.ife (.or (.cmp .Lt (.var 2) (.var 3)) (.cmp .Gt (.idx (.var 1) (.var 2)) (.idx (.var 1) (.var 3))))
 (.seq (.ret (.bl false))
 .nop) .nop)
 .nop))
 (.seq (.ret (.bl true))
 .nop))
noncomputable def jq:S:=(.seq (.ife (.not (.call 4 (.cons (.un .len (.var 0)) (.cons (.var 1) .nil))))
 (.seq (.ret (.bl false))
 .nop) .nop)
 (.seq (.asg 2 (.call 8 (.cons (.var 0) .nil)))
 (.seq (.ret (.un .all (.comp (.call 34 (.cons (.var 0) (.cons (.var 1) .nil))) [2] (.var 1) .nil)))
 .nop)))
noncomputable def dN:S:=(.seq (.fst 0 "moves" (.call 28 (.cons (.var 1) .nil)))
 (.seq (.fst 0 "falls" (.call 28 (.cons (.var 2) .nil)))
 .nop))
noncomputable def nv:S:=(.seq (.ife (.or (.not (.call 1 (.cons (.var 1) .nil))) (.or (.not (.call 35 (.cons (.var 1) (.cons (.fld (.var 0) "falls") .nil)))) (.not (.call 6 (.cons (.fld (.var 0) "moves") .nil)))))
 (.seq (.ret (.bl false))
 .nop) .nop)
 (.seq (.ife (.cmp .NotEq (.un .len (.fld (.var 0) "moves")) (.bin .Sub (.un .len (.var 1)) (.un .len (.fld (.var 0) "falls"))))
 (.seq (.ret (.bl false))
 .nop) .nop)
 (.seq (.asg 2 (.comp (.idx (.var 0) (.int 0)) [] (.fld (.var 0) "moves") .nil))
 (.seq (.ret (.and (.call 31 (.cons (.un .len (.var 1)) (.cons (.var 2) .nil))) (.call 27 (.cons (.var 1) (.cons (.fld (.var 0) "moves") .nil)))))
 .nop))))
noncomputable def iJ:S:=(.seq (.asg 2 (.int 0))
 (.seq (.asg 3 (.un .len (.var 0)))
 (.seq (.wh (.cmp .Lt (.var 2) (.var 3))
 (.seq (.asg 4 (.bin .FloorDiv (.bin .Add (.var 2) (.var 3)) (.int 2)))
 (.seq (.ife (.cmp .Lt (.idx (.var 0) (.var 4)) (.var 1))
 (.seq (.asg 2 (.bin .Add (.var 4) (.int 1)))
 .nop) (.seq (.asg 3 (.var 4))
 .nop))
 .nop)))
 (.seq (.ret (.var 2))
 .nop))))
noncomputable def qv:S:=(.seq (.asg 1 (.lst .nil))
 (.seq (.asg 2 (.lst .nil))
 (.seq (.for1 3 (.var 0)
 (.seq (.asg 4 (.call 39 (.cons (.var 2) (.cons (.var 3) .nil))))
 (.seq (.ife (.cmp .Eq (.var 4) (.un .len (.var 1)))
 (.seq (.app 1 (.lst (.cons (.var 3) .nil)))
 (.seq (.app 2 (.var 3))
 .nop)) (.seq (.appAt 1 (.var 4) (.var 3))
 (.seq (.set 2 (.var 4) (.var 3))
 .nop)))
 .nop)))
 (.seq (.ret (.var 1))
 .nop))))
noncomputable def vO:S:=(.seq (.asg 2 (.bin .Mult (.lst (.cons (.int 0) .nil)) (.un .len (.var 0))))
 (.seq (.for2 3 4 (.enm (.var 1))
 (.seq (.for1 5 (.var 4)
 (.seq (.set 2 (.var 5) (.var 3))
 .nop))
 .nop))
 (.seq (.asg 6 (.bin .Mult (.lst (.cons (.bl false) .nil)) (.un .len (.var 0))))
 (.seq (.asg 7 (.bin .Sub (.un .len (.var 1)) (.int 1)))
 (.seq (.for1 5 (.rvd (.var 0))
 (.seq (.ife (.cmp .Eq (.idx (.var 2) (.var 5)) (.var 7))
 (.seq (.set 6 (.var 5) (.bl true))
 (.seq (.aug 7 .Sub (.int 1))
 .nop)) .nop)
 .nop))
 (.seq (.ret (.var 6))
 .nop))))))
noncomputable def jo:S:=(.seq (.asg 2 (.call 8 (.cons (.var 0) .nil)))
 (.seq (.asg 3 (.call 85 (.cons (.comp (.not (.idx (.var 1) (.var 0))) [1] (.var 0) .nil) .nil)))
 (.seq (.asg 4 (.int 0))
 (.seq (.asg 5 (.lst .nil))
 (.seq (.for1 6 (.rng (.un .len (.var 0)))
 (.seq (.ife (.idx (.var 1) (.var 6))
 (.seq (.asg 4 (.idx (.var 2) (.var 6)))
 .nop) (.seq (.mio 3 1 (.cons (.idx (.var 2) (.var 6)) .nil))
 (.seq (.appP 5 (.var 6) (.bin .Add (.var 6) (.meth (.var 3) 2 (.cons (.var 4) .nil))))
 .nop)))
 .nop))
 (.seq (.ret (.var 5))
 .nop))))))
noncomputable def Gc:S:=(.seq (.drop (.call 2 (.cons (.var 0) .nil)))
 (.seq (.asg 1 (.call 40 (.cons (.var 0) .nil)))
 (.seq (.ret (.call 84 (.cons (.call 42 (.cons (.var 0) (.cons (.call 41 (.cons (.var 0) (.cons (.var 1) .nil))) .nil))) (.cons (.var 1) .nil))))
 .nop)))
noncomputable def dM:S:=(.seq (.ife (.cmp .Lt (.var 1) (.un .len (.var 0)))
 (.seq (.ret (.idx (.var 0) (.var 1)))
 .nop) .nop)
 (.seq (.ret (.int 0))
 .nop))
noncomputable def nu:S:=(.seq (.asg 3 (.tup (.cons (.int 1000003) (.cons (.int 1000033) (.cons (.int 1000037) (.cons (.int 1000039) (.cons (.int 1000081) (.cons (.int 1000099) (.cons (.int 1000117) (.cons (.int 1000121) (.cons (.int 1000133) (.cons (.int 1000151) (.cons (.int 1000159) (.cons (.int 1000171) (.cons (.int 1000183) (.cons (.int 1000187) (.cons (.int 1000193) (.cons (.int 1000199) .nil))))))))))))))))))
 (.seq (.ret (.bin .Mod (.bin .Mod (.bin .Add (.bin .Mult (.var 0) (.int 48271)) (.bin .Mult (.var 1) (.int 69621))) (.idx (.var 3) (.bin .Mod (.var 1) (.int 16)))) (.var 2)))
 .nop))
noncomputable def qw:S:=(.seq (.asg2 1 2 (.call 51 (.cons (.call 50 (.cons (.var 0) (.cons (.int 0) .nil))) (.cons (.int 6) (.cons (.int 4) .nil)))) (.lst .nil))
 (.seq (.for1 3 (.rng (.un .len (.var 0)))
 (.seq (.asg 4 (.call 51 (.cons (.idx (.var 0) (.var 3)) (.cons (.bin .Add (.bin .Mod (.var 3) (.int 5)) (.int 1)) (.cons (.bin .Add (.var 3) (.int 1)) .nil)))))
 (.seq (.ife (.cmp .Eq (.var 1) (.int 1))
 (.seq (.asg 4 (.mn (.var 4) (.call 51 (.cons (.idx (.var 0) (.var 3)) (.cons (.bin .Add (.bin .Mod (.var 3) (.int 7)) (.int 1)) (.cons (.int 4) .nil))))))
 .nop) .nop)
 (.seq (.ife (.cmp .Eq (.var 1) (.int 2))
 (.seq (.asg 4 (.mx (.var 4) (.bin .Sub (.var 3) (.call 51 (.cons (.idx (.var 0) (.var 3)) (.cons (.bin .Add (.bin .Mod (.var 3) (.int 7)) (.int 1)) (.cons (.int 4) .nil)))))))
 .nop) .nop)
 (.seq (.ife (.and (.cmp .Eq (.var 1) (.int 3)) (.cmp .Gt (.bin .Mod (.var 4) (.int 3)) (.int 0)))
 (.seq (.asg 4 (.int 0))
 .nop) .nop)
 (.seq (.ins 2 (.bin .Sub (.var 3) (.var 4)) (.var 3))
 .nop))))))
 (.seq (.ret (.var 2))
 .nop)))
noncomputable def jv:S:=(.seq (.ife (.not (.isi (.var 0) 2))
 (.seq (.ret (.bl false))
 .nop) .nop)
 (.seq (.ret (.not (.un .any (.comp (.or (.isi (.var 0) 1) (.not (.isi (.var 0) 0))) [] (.var 0) .nil))))
 .nop))
noncomputable def lO:S:=(.seq (.ife (.or (.not (.isi (.var 0) 2)) (.not (.un .all (.comp (.and (.isi (.var 0) 3) (.cmp .Eq (.un .len (.var 0)) (.int 2))) [] (.var 0) .nil))))
 (.seq (.ret (.bl false))
 .nop) .nop)
 (.seq (.ret (.un .all (.comp (.call 53 (.cons (.un .list (.var 0)) .nil)) [] (.var 0) .nil)))
 .nop))
noncomputable def qy:S:=(.seq (.asg 2 (.un .list (.var 0)))
 (.seq (.for2 3 4 (.var 1)
 (.seq (.ife (.or (.cmp .NotIn (.var 3) (.var 2)) (.not (.ch .LtE .Lt (.int 0) (.var 4) (.un .len (.var 0)))))
 (.seq (.ret (.lst .nil))
 .nop) .nop)
 (.seq (.asg 5 (.ind (.var 2) (.var 3)))
 (.seq (.asg 2 (.bin .Add (.cut (.var 2) .nil (.var 5)) (.cut (.var 2) (.bin .Add (.var 5) (.int 1)) .nil)))
 (.seq (.asg 2 (.bin .Add (.bin .Add (.cut (.var 2) .nil (.var 4)) (.lst (.cons (.var 3) .nil))) (.cut (.var 2) (.var 4) .nil)))
 .nop)))))
 (.seq (.ret (.var 2))
 .nop)))
noncomputable def kh:S:=(.seq (.dic 2 3 4 5 0)
 (.seq (.for1 6 (.var 1)
 (.seq (.ife (.un .any (.comp (.cmp .NotIn (.var 0) (.var 1)) [2] (.var 6) .nil))
 (.seq (.ret (.bl false))
 .nop) .nop)
 (.seq (.for1 7 (.rng2 (.int 1) (.un .len (.var 6)))
 (.seq (.ife (.or (.cmp .GtE (.idx (.var 6) (.var 7)) (.idx (.var 6) (.bin .Sub (.var 7) (.int 1)))) (.cmp .LtE (.idx (.var 2) (.idx (.var 6) (.var 7))) (.idx (.var 2) (.idx (.var 6) (.bin .Sub (.var 7) (.int 1))))))
 (.seq (.ret (.bl false))
 .nop) .nop)
 .nop))
 (.seq (.ext 3 (.var 6))
 .nop))))
 (.seq (.ret (.cmp .Eq (.un .sorted (.var 3)) (.un .lrng (.un .len (.var 0)))))
 .nop)))
noncomputable def jt:S:=(.seq (.ife (.cmp .NotEq (.call 66 (.cons (.var 0) (.cons (.var 1) .nil))) (.un .lrng (.un .len (.var 0))))
 (.seq (.ret (.bl false))
 .nop) .nop)
 (.seq (.ret (.and (.call 67 (.cons (.var 0) (.cons (.var 2) .nil))) (.cmp .Eq (.bin .Add (.un .len (.var 1)) (.un .len (.var 2))) (.un .len (.var 0)))))
 .nop))
noncomputable def Gd:S:=(.seq (.asg 1 (.call 52 (.cons (.var 0) .nil)))
 (.seq (.asg2 2 3 (.un .list (.var 1)) (.rev (.var 1)))
 (.seq (.for1 4 (.rng (.int 2))
 (.seq (.asg 5 (.call 43 (.cons (.var 2) .nil)))
 (.seq (.ife (.or (.cmp .NotEq (.var 2) (.var 1)) (.or (.not (.isc (.var 5) 0)) (.not (.isc (.var 5) 4))))
 (.seq (.ret (.bl false))
 .nop) .nop)
 (.seq (.ife (.or (.isc (.var 5) 1) (.or (.isc (.var 5) 3) (.isc (.var 5) 2)))
 (.seq (.ret (.bl false))
 .nop) .nop)
 (.seq (.ife (.or (.not (.call 54 (.cons (.fld (.var 5) "moves") .nil))) (.not (.isi (.fld (.var 5) "falls") 2)))
 (.seq (.ret (.bl false))
 .nop) .nop)
 (.seq (.ife (.or (.not (.un .all (.comp (.call 53 (.cons (.var 0) .nil)) [] (.fld (.var 5) "falls") .nil))) (.cmp .In (.lst .nil) (.fld (.var 5) "falls")))
 (.seq (.ret (.bl false))
 .nop) .nop)
 (.seq (.ife (.or (.not (.call 68 (.cons (.var 1) (.cons (.fld (.var 5) "moves") (.cons (.fld (.var 5) "falls") .nil))))) (.cmp .IsNot (.meth (.var 5) 0 (.cons (.var 1) .nil)) (.bl true)))
 (.seq (.ret (.bl false))
 .nop) .nop)
 (.seq (.for1 6 (.tup (.cons (.var 3) (.cons (.bin .Add (.var 1) (.lst (.cons (.un .len (.var 1)) .nil))) .nil)))
 (.seq (.ife (.cmp .NotEq (.meth (.var 5) 0 (.cons (.var 6) .nil)) (.call 68 (.cons (.var 6) (.cons (.fld (.var 5) "moves") (.cons (.fld (.var 5) "falls") .nil)))))
 (.seq (.ret (.bl false))
 .nop) .nop)
 .nop))
 (.seq (.appF 5 "falls" (.lst (.cons (.int 0) .nil)))
 (.seq (.ife (.cmp .IsNot (.meth (.var 5) 0 (.cons (.var 1) .nil)) (.bl false))
 (.seq (.ret (.bl false))
 .nop) .nop)
 (.seq (.popF 5 "falls")
 (.seq (.ife (.cmp .NotEq (.var 1) (.lst .nil))
 (.seq (.appFA 5 "falls" (.int 0) (.un .len (.var 1)))
 (.seq (.ife (.cmp .IsNot (.meth (.var 5) 0 (.cons (.var 1) .nil)) (.bl false))
 (.seq (.ret (.bl false))
 .nop) .nop)
 .nop)) .nop)
 .nop))))))))))))
 (.seq (.ret (.bl true))
 .nop))))
noncomputable def Γ0:bu:=fun _=>none
noncomputable def Δ0:gH:=fun _=>none
noncomputable abbrev qG:List Str:=["value"]
noncomputable def fQ:List D→Option T:=gP Γ0 Δ0 100 qG 1 qu
noncomputable def Γ1:bu:=bM Γ0 0 fQ
noncomputable abbrev ny:List Str:=["thing","met"]
noncomputable def bE:List D→Option (T×List D):=gQ Γ1 Δ0 100 ny 1 2 gr
noncomputable def Δ1:gH:=nX Δ0 100 1 bE
noncomputable abbrev vT:List Str:=["value","met","thing"]
noncomputable def jf:List D→Option T:=gP Γ1 Δ1 100 vT 1 vP
noncomputable def Γ2:bu:=bM Γ1 1 jf
noncomputable abbrev qF:List Str:=["value"]
noncomputable def kK:List D→Option T:=gP Γ2 Δ1 100 qF 1 kT
noncomputable def Γ3:bu:=bM Γ2 2 kK
noncomputable abbrev nA:List Str:=["many","told","met","part","thing"]
noncomputable def cJ:List D→Option T:=gP Γ3 Δ1 100 nA 2 nj
noncomputable def Γ4:bu:=bM Γ3 3 cJ
noncomputable abbrev gv:List Str:=["many","told"]
noncomputable def aU:List D→Option T:=gP Γ4 Δ1 100 gv 2 gu
noncomputable def Γ5:bu:=bM Γ4 4 aU
noncomputable abbrev sA:List Str:=["value"]
noncomputable def mK:List D→Option T:=gP Γ5 Δ1 100 sA 1 sq
noncomputable def Γ6:bu:=bM Γ5 5 mK
noncomputable abbrev nE:List Str:=["value"]
noncomputable def jh:List D→Option T:=gP Γ6 Δ1 100 nE 1 nt
noncomputable def Γ7:bu:=bM Γ6 6 jh
noncomputable abbrev sD:List Str:=["row","told","place","thing"]
noncomputable def g8:List D→Option T:=gP Γ7 Δ1 100 sD 1 sv
noncomputable def Γ8:bu:=bM Γ7 8 g8
noncomputable abbrev hX:List Str:=["self","flags","many","end"]
noncomputable def cN:List D→Option T:=gI Γ8 Δ1 100 hX 5 2 cP
noncomputable def Γ9:bu:=bM Γ8 85 cN
noncomputable abbrev jG:List Str:=["self","place","counts","many","end"]
noncomputable def ji:List D→Option (T×List D):=gW Γ9 Δ1 100 jG 2 2 jw
noncomputable def Δ2:gH:=nX Δ1 (jZ 5 1) 0 ji
noncomputable abbrev kl:List Str:=["self","place","counts","number","end"]
noncomputable def eA:List D→Option T:=gP Γ9 Δ2 100 kl 2 ki
noncomputable def Dc:bu:=bM Γ9 (jZ 5 2) eA
noncomputable abbrev eJ:List Str:=["self","number","counts","rest","place","stretch","marked"]
noncomputable def bR:List D→Option T:=gP Dc Δ2 100 eJ 2 eI
noncomputable def xV:bu:=bM Dc (jZ 5 3) bR
noncomputable abbrev jz:List Str:=["waiting_ahead","waiting_behind","furthest","thing","place"]
noncomputable def cH:List D→Option T:=gP xV Δ2 100 jz 2 fU
noncomputable def Jr:bu:=bM xV 25 cH
noncomputable abbrev iL:List Str:=["many","moves","flags","thing","place"]
noncomputable def eQ:List D→Option T:=gP Jr Δ2 100 iL 2 iI
noncomputable def jR:bu:=bM Jr 26 eQ
noncomputable abbrev fX:List Str:=["row","moves","places","waiting_ahead","waiting_behind","flags","waiting_things","waiting_places","waiting","thing","place","lesser_settled","number"]
noncomputable def bJ:List D→Option T:=gP jR Δ2 100 fX 2 fV
noncomputable def JI:bu:=bM jR 27 bJ
noncomputable abbrev vU:List Str:=["told"]
noncomputable def jg:List D→Option T:=gP JI Δ2 100 vU 1 vQ
noncomputable def Jq:bu:=bM JI 28 jg
noncomputable abbrev dO:List Str:=["many","things","met"]
noncomputable def cj:List D→Option T:=gP Jq Δ2 100 dO 2 dJ
noncomputable def Fp:bu:=bM Jq 31 cj
noncomputable abbrev iN:List Str:=["fall","places","thing","later"]
noncomputable def bO:List D→Option T:=gP Fp Δ2 100 iN 2 iK
noncomputable def An:bu:=bM Fp 34 bO
noncomputable abbrev jB:List Str:=["row","told","places"]
noncomputable def bz:List D→Option T:=gP An Δ2 100 jB 2 jq
noncomputable def Fo:bu:=bM An 35 bz
noncomputable abbrev jF:List Str:=["self","moves","falls"]
noncomputable def fR:List D→Option T:=gI Fo Δ2 100 jF 4 3 dN
noncomputable def vX:bu:=bM Fo 84 fR
noncomputable abbrev nG:List Str:=["self","row","things"]
noncomputable def bF:List D→Option T:=gP vX Δ2 100 nG 2 nv
noncomputable def Gi:bu:=bM vX (jZ 4 0) bF
noncomputable abbrev iM:List Str:=["rising","thing","low","high","middle"]
noncomputable def eR:List D→Option T:=gP Gi Δ2 100 iM 2 iJ
noncomputable def CV:bu:=bM Gi 39 eR
noncomputable abbrev qH:List Str:=["row","falls","lasts","thing","number"]
noncomputable def kL:List D→Option T:=gP CV Δ2 100 qH 1 qv
noncomputable def xU:bu:=bM CV 40 kL
noncomputable abbrev vS:List Str:=["row","falls","fall_of","number","fall","thing","left","wanted"]
noncomputable def pX:List D→Option T:=gP xU Δ2 100 vS 2 vO
noncomputable def vW:bu:=bM xU 41 pX
noncomputable abbrev jA:List Str:=["row","left","places","waiting","last_left","moves","thing"]
noncomputable def fP:List D→Option T:=gP vW Δ2 100 jA 2 jo
noncomputable def CU:bu:=bM vW 42 fP
noncomputable abbrev Ge:List Str:=["row","falls"]
noncomputable def yM:List D→Option T:=gP CU Δ2 100 Ge 1 Gc
noncomputable def Jp:bu:=bM CU 43 yM
noncomputable abbrev jE:List Str:=["_law_script","_law_k"]
noncomputable def dD:List D→Option T:=gP Jp Δ2 100 jE 2 dM
noncomputable def JH:bu:=bM Jp 50 dD
noncomputable abbrev nF:List Str:=["_law_cell","_law_k","_law_many","_law_primes"]
noncomputable def gk:List D→Option T:=gP JH Δ2 100 nF 3 nu
noncomputable def sE:bu:=bM JH 51 gk
noncomputable abbrev qI:List Str:=["_law_script","_law_kind","_law_row_here","_law_k","_law_away"]
noncomputable def kM:List D→Option T:=gP sE Δ2 100 qI 1 qw
noncomputable def JG:bu:=bM sE 52 kM
noncomputable abbrev jD:List Str:=["_law_found"]
noncomputable def dC:List D→Option T:=gP JG Δ2 100 jD 1 jv
noncomputable def Gh:bu:=bM JG 53 dC
noncomputable abbrev lS:List Str:=["_law_found"]
noncomputable def iw:List D→Option T:=gP Gh Δ2 100 lS 1 lO
noncomputable def CT:bu:=bM Gh 54 iw
noncomputable abbrev qJ:List Str:=["_law_row_here","_law_moves","_law_found","_law_thing","_law_place","_law_at"]
noncomputable def kN:List D→Option T:=gP CT Δ2 100 qJ 2 qy
noncomputable def qL:bu:=bM CT 66 kN
noncomputable abbrev kj:List Str:=["_law_row_here","_law_falls","_law_places","_law_things","_law_place","_law_thing","_law_fall","_law_k"]
noncomputable def cY:List D→Option T:=gP qL Δ2 100 kj 2 kh
noncomputable def Gg:bu:=bM qL 67 cY
noncomputable abbrev jC:List Str:=["_law_row_here","_law_moves","_law_falls"]
noncomputable def bA:List D→Option T:=gP Gg Δ2 100 jC 3 jt
noncomputable def jQ:bu:=bM Gg 68 bA
noncomputable abbrev Gf:List Str:=["_law_script","_law_row_here","_law_handed","_law_other","_law_again","_law_found","_law_some"]
noncomputable def BX:List D→Option T:=gP jQ Δ2 100 Gf 1 Gd
noncomputable def ci(r:List Nat):List Int:=r.map fun n:Nat=>(n:Int)
noncomputable def nl(r:List Nat):List D:=r.map fun n:Nat=>D.int n
noncomputable def nD(r:List Nat):D:=.lst (nl r)
noncomputable def nT(r:List Nat):T:=.ow ((nl r).map T.sh)
noncomputable def bq(R:List (List Nat)):D:=.lst (R.map nD)
noncomputable def kG(R:List (List Nat)):T:=.ow (R.map nT)
theorem pC(r:List Nat):nl r=(ci r).map D.int:=by simp [nl,ci]
@[simp] theorem bb(r:List Nat):(nl r).length=r.length:=by simp [nl]
@[simp] theorem bW(r:List Nat):strip (nT r)=nD r:=by rw [nT,nD,fA,dB]
@[simp] theorem rl(R:List (List Nat)):strip (kG R)=bq R:=by
  simp only [kG,bq,fA,List.map_map]
  congr 1
  exact List.map_congr_left fun r _=>bW r
@[simp] theorem aP(r:List Nat):(nl r).all scal=true:=by simp [nl]
@[simp] theorem oy(r:List Nat):bN (nT r)=true:=by simp [nT,nl]
@[simp] theorem B6(R:List (List Nat)):bN (kG R)=true:=by simp [kG]
theorem IG(h:ci a=ci b):a=b:=by
 induction a generalizing b with
 |nil=>cases b with
  |nil=>rfl
  |cons _ _=>cases h
 |cons x r ih=>cases b with
  |nil=>cases h
  |cons y t=>
   simp only [ci,List.map_cons,List.cons.injEq]at h
   rw [show x=y by lia,ih h.2]
theorem gj{r:List Nat}{i:Nat}(h:i<r.length):atI (nl r) (i:Int)=some (.int (Bo.ap r i:Nat)):=lP (by rw [nl,eK,Bo.fc h];rfl)
theorem vN{m:List Bool}{i:Nat}(h:i<m.length):atI (m.map D.bl) (i:Int)=some (.bl (m.getD i false)):=lP (by simp [h])
theorem c8{i:Nat}(h:i<n):kH n (i:Int)=some i:=by
 unfold kH
 rw [aF (by lia),aF (by lia),v8]
theorem wq(xs:List Int):gc (xs.map D.int)=some (xs.map PyData.int):=by
 induction xs with
 |nil=>simp [gc]
 |cons x r ih=>simp [gc,kn,ih]
theorem m9(xs:List Int):PyData.canLayAll0 (xs.map PyData.int)=true:=by
 induction xs with
 |nil=>simp [PyData.canLayAll0]
 |cons x r ih=>simp [PyData.canLayAll0,PyData.canLay0,ih]
theorem qe(xs:List Int):PyData.depthAll (xs.map PyData.int)=0:=by
 induction xs with
 |nil=>simp [PyData.depthAll]
 |cons x r ih=>simp [PyData.depthAll,PyData.depth,ih]
theorem wV(xs ys:List Int):PySem.SeqAt.noMixAll (xs.map PyData.int) (ys.map PyData.int)=true:=by
 induction xs generalizing ys with
 |nil=>cases ys<;>simp [PySem.SeqAt.noMixAll]
 |cons x r ih=>cases ys<;>simp [PySem.SeqAt.noMixAll,PySem.SeqAt.noMix,ih]
theorem zl(xs ys:List Int):PySem.Spec.sameAll (xs.map PyData.int) (ys.map PyData.int)=decide (xs=ys):=by
 induction xs generalizing ys with
 |nil=>cases ys<;>simp [PySem.Spec.sameAll]
 |cons x r ih=>cases ys with
  |nil=>simp [PySem.Spec.sameAll]
  |cons y t=>
   simp [PySem.Spec.sameAll,PySem.Spec.same,ih]
   by_cases e:x=y<;>simp [e]
@[simp] theorem vA(i j:Int):xF (.int i) (.int j)=some (decide (i=j)):=by
  have h:∀i:Int,PySem.SeqAt.shaped (.int i)=true:=fun i=>by simp [PySem.SeqAt.shaped,PyData.canLay0,PyData.depth]
  simp [xF,kn,h,PySem.SeqAt.noMix,PySem.Spec.same]
  by_cases e:i=j<;>simp [e]
theorem LK(xs ys:List Int):xF (.lst (xs.map D.int)) (.lst (ys.map D.int))=some (decide (xs=ys)):=by
 have h:∀i:List Int,PySem.SeqAt.shaped (.list (i.map PyData.int))=true:=fun i=>by simp [PySem.SeqAt.shaped,PyData.canLay0,PyData.depth,m9,qe]
 simp [xF,kn,wq,h,PySem.SeqAt.noMix,PySem.Spec.same,wV,zl]
@[simp] theorem Cg(a b:List Nat):xF (nD a) (nD b)=some (decide (a=b)):=by
  unfold nD
  rw [pC,pC,LK]
  congr 1
  by_cases e:a=b
  ·simp [e]
  ·rw [eC e,eC fun h=>e (IG h)]
@[simp] theorem qd(Γ:bu)(pio:Option Nat)(b:Bool)(env:av):bL Γ pio (.bl b) env=some (.sh (.bl b),env):=rfl
@[simp] theorem jN(Γ:bu)(pio:Option Nat)(b:Int)(env:av):bL Γ pio (.int b) env=some (.sh (.int b),env):=rfl
@[simp] theorem lI(Γ:bu)(pio:Option Nat)(env:av):bL Γ pio (.lst .nil) env=some (.ow [],env):=rfl
theorem vz{step:D→av→Option (Fl×av)}(I:Nat→av→Prop):∀(ds:List D) (env:av) (j:Nat),I j env→(∀k d e,ds[k]?=some d→I (j+k) e→∃e',step d e=some (.nx,e')∧I (j+k+1) e')→∃e',forL step ds env=some (.nx,e')∧I (j+ds.length) e'
 |[],env,j,h0,_=>⟨env,rfl,h0⟩
 |d::r,env,j,h0,hs=>by
  obtain⟨e1,h1,h2⟩:=hs 0 d env rfl h0
  obtain⟨e',h3,h4⟩:=vz I r e1 (j+1) h2 fun k d' e hd hI=>by
   have:=hs (k+1) d' e hd (by rwa [show j+(k+1)=j+1+k by lia])
   rwa [show j+(k+1)+1=j+1+k+1 by lia]at this
  refine⟨e',?_,by rwa [gL,show j+(r.length+1)=j+1+r.length by lia]⟩
  show(step d env).bind _=_
  rw [h1]
  exact h3
theorem bc{step:D→av→Option (Fl×av)}(I:Nat→av→Prop){ds:List D}(h0:I 0 env)(hs:∀k d e,ds[k]?=some d→I k e→∃e',step d e=some (.nx,e')∧I (k+1) e'):∃e',forL step ds env=some (.nx,e')∧I ds.length e':=by
 have:=vz I ds env 0 h0 fun k d e hd hI=>by
  rw [qO]at hI⊢
  exact hs k d e hd hI
 rwa [qO]at this
theorem fw{test:av→Option Bool}{step:av→Option (Fl×av)}(I:Nat→av→Prop)(B:Nat)(hb:∀k e,I k e→k≤B)(hs:∀k e,I k e→test e=some false∨(test e=some true∧∃e',step e=some (.nx,e')∧I (k+1) e')):∀(n k:Nat) (env:av),I k env→B<n+k→∃k' e',dU test step n env=some (.nx,e')∧I k' e'∧test e'=some false
 |0,k,env,h,hn=>by have:=hb k env h;lia
 |n+1,k,env,h,hn=>by
  rcases hs k env h with z|⟨z,e',h1,h2⟩
  ·refine⟨k,env,?_,h,z⟩
   show(test env).bind _=_
   rw [z];rfl
  ·obtain⟨k',e2,h3,h4⟩:=fw I B hb hs n (k+1) e' h2 (by lia)
   refine⟨k',e2,?_,h4⟩
   show(test env).bind _=_
   rw [z]
   show(step env).bind _=_
   rw [h1]
   exact h3
theorem oA{Δ:gH}{env:av}{ds:List D}(hg:Δ f=some (k,g))(he:env[i]?=some (some (.ow (ds.map T.sh))))(hs:ds.all scal=true)(ha:Jw Γ i ds (ae (env.set i none)) k args=some l)(h:g l=some (t,ds'))(ht:bN t=true)(hs':ds'.all scal=true):qZ Γ Δ f i args env=some (t,env.set i (some (.ow (ds'.map T.sh)))):=by
 unfold qZ
 rw [hg,obs,he]
 show(unsh (ds.map T.sh)).bind _=_
 rw [ll,obs,aF hs,ha,obs,show(k,g).2 l=some (t,ds')from h,obs,aF (by rw [ht,hs'];rfl)]
theorem fo{n:Nat}(h:n≤1000000):dI .Mult (.lst [.bl false]) (.int n)=some (.lst ((List.replicate n false).map D.bl)):=by
 have e:(List.replicate n [D.bl false]).flatten=(List.replicate n false).map D.bl:=by
  clear h
  induction n with
  |zero=>rfl
  |succ n ih=>rw [sJ,jT,ih];rfl
 show(if sz ([D.bl false].length*(n:Int).toNat)&&decide (-(2 ^ 62)≤(n:Int)∧(n:Int)<2 ^ 62)then some (D.lst (List.replicate (n:Int).toNat [D.bl false]).flatten)else none)=_
 rw [v8,aF,e]
 rw [Bool.and_eq_true]
 exact⟨dh (by simpa using h),de (by lia)⟩
theorem BZ{ds:List D}(hl:ds.length=ar)(h:(ex Γ Δ none m body (bC N ds)).map (·.1)=some (.rt t)):gP Γ Δ m N ar body ds=some t:=by
 obtain⟨⟨fl,env⟩,h1,h2⟩:=aM h
 cases h2
 exact bo hl h1
theorem Ih{ds:List D}(hl:ds.length=ar)(h:(ex Γ Δ none m body (bC N ds)).map (·.1)=some .nx):gP Γ Δ m N ar body ds=some (.sh .non):=by
 obtain⟨⟨fl,env⟩,h1,h2⟩:=aM h
 cases h2
 exact Lx hl h1
structure Mk(n:Nat)(L:List Nat)(met:List Bool):Prop where
 len:met.length=n
 at':∀y,y<n→met.getD y false=decide (y∈L)
theorem Mk.start(n:Nat):Mk n [] (List.replicate n false):=⟨by simp,fun y hy=>by simp [hy]⟩
theorem Mk.more(h:Mk n L met)(hx:x<n):Mk n (L++[x]) (met.set x true):=⟨by simp [h.len],fun y hy=>by
 rw [Bo.BW (by rw [h.len];exact hx),h.at' y hy]
 by_cases e:y=x<;>simp [e]⟩
@[simp] theorem EB(i:Int):fQ [.int i]=some (.sh (.bl true)):=rfl
theorem eZ{bs:List Bool}(h:x<bs.length)(h0:bs.getD x false=false):bE [.int x,.lst (bs.map D.bl)]=some (.sh (.bl true),(bs.set x true).map D.bl):=by
 refine FN (env:=[some (.sh (.int x)),some (.ow (((bs.set x true).map D.bl).map T.sh))]) rfl ?_ (by simp)
 have hs:c7 ["thing","met"] 1 [D.int x,D.lst (bs.map D.bl)]=[some (.sh (.int x)),some (.ow ((bs.map D.bl).map T.sh))]:=by simp [c7,qY,bx]
 have hw:Γ1 0=some fQ:=rfl
 have hlt:(x:Int)<(bs.length:Int):=by lia
 rw [hs]
 unfold gr
 simp only [aN,eT]
 have hc:bG Γ1 (.or (.not (.call 0 (.cons (.var 0) .nil))) (.or (.not (.ch .LtE .Lt (.int 0) (.var 0) (.un .len (.var 1)))) (.idx (.var 1) (.var 0)))) (ae [some (.sh (.int x)),some (.ow ((bs.map D.bl).map T.sh))])=some false:=by
  simp only [bj,bS,Option.map_some,bh,fA,dB,bG,m7,gE,c9,aR,dE,aE,hw]
  simp [hlt,vN h,-List.getD_eq_getElem?_getD]
  simpa using h0
 rw [hc]
 have hi:=c8 h
 simp [Cd,hi]
theorem mI{r:List Nat}(h:Bo.aw r)(hl:r.length≤1000000):jf [nD r]=some (.sh (.bl true)):=by
 have hs:bC ["value","met","thing"] [nD r]=[some (.sh (nD r)),none,none]:=rfl
 have e1:bL Γ1 none (.bin .Mult (.lst (.cons (.bl false) .nil)) (.un .len (.var 0))) [some (.sh (nD r)),none,none]=some (.ow (((List.replicate r.length false).map D.bl).map T.sh),[some (.sh (nD r)),none,none]):=by
  refine bB rfl rfl ?_ (by simp)
  have:sz 1=true:=rfl
  simp [nD,this,fo hl,-List.map_replicate]
 obtain⟨env',hf,x,y,rfl,_⟩:=bc (step:=fun d e=>ex Γ1 Δ1 none 100 (.seq (.ifio true 100 1 (.cons (.var 2) (.cons (.var 1) .nil)) (.seq (.ret (.bl false)) .nop) .nop) .nop) (e.set 2 (some (.sh d)))) (fun k e=>∃met x,e=[some (.sh (nD r)),some (.ow ((met.map D.bl).map T.sh)),x]∧Mk r.length (r.take k) met) (ds:=nl r) (env:=[some (.sh (nD r)),some (.ow (((List.replicate r.length false).map D.bl).map T.sh)),none]) ⟨_,_,rfl,by simpa using Mk.start _⟩ (fun k d e hd ⟨met,x,he,hm⟩=>by
  subst he
  have hk:k<r.length:=by simpa using(j4.mp hd).1
  obtain rfl:d=.int (Bo.ap r k:Nat):=by
   rw [nl,eK,Bo.fc hk]at hd
   exact(cC hd).symm
  have hlt:=h.lt hk
  have hn:Bo.ap r k∉r.take k:=fun z=>by
   obtain⟨j,hj,e⟩:=List.getElem_of_mem z
   rw [kU]at hj
   have:=h.inj (i:=j) (j:=k) (by lia) hk (by rw [Bo.b7 (show j<r.length by lia),←e];simp)
   lia
  have h0:met.getD (Bo.ap r k) false=false:=by rw [hm.at' _ hlt];simpa using hn
  refine⟨[some (.sh (nD r)),some (.ow (((met.set (Bo.ap r k) true).map D.bl).map T.sh)),some (.sh (.int (Bo.ap r k:Nat)))],?_,_,_,rfl,?_⟩
  ·have hio:=oA (Γ:=Γ1) (Δ:=Δ1) (f:=100) (i:=1) (args:=.cons (.var 2) (.cons (.var 1) .nil)) (env:=[some (.sh (nD r)),some (.ow ((met.map D.bl).map T.sh)),some (.sh (.int (Bo.ap r k:Nat)))]) (ds:=met.map D.bl) (l:=[.int (Bo.ap r k:Nat),.lst (met.map D.bl)]) rfl rfl (by simp) rfl (eZ (by rw [hm.len];exact hlt) h0) rfl (ck _)
   simp only [aN,t6,List.set_cons_succ,List.set_cons_zero]
   rw [hio]
   rfl
  ·have:=hm.more hlt
   rwa [show r.take k++[Bo.ap r k]=r.take (k+1) by rw [List.take_succ,Bo.fc hk];rfl]at this)
 have hc:bG Γ1 (.not (.isi (.var 0) 2)) (ae [some (.sh (nD r)),none,none])=some false:=rfl
 have hx:gJ Γ1 none (.var 0) [some (.sh (nD r)),some (.ow (((List.replicate r.length false).map D.bl).map T.sh)),none]=some (nl r,[some (.sh (nD r)),some (.ow (((List.replicate r.length false).map D.bl).map T.sh)),none]):=rfl
 exact bo rfl ((aH hc).trans ((aq rfl e1).trans ((cL rfl hx hf).trans (bX (by simp) (qd _ _ _ _)))))
theorem vi(h:Bo.aw r)(hl:r.length≤1000000):kK [nD r]=some (.sh .non):=by
 have hs:bC ["value"] [nD r]=[some (.sh (nD r))]:=rfl
 have hw:Γ2 1=some jf:=rfl
 refine Ih rfl ?_
 rw [hs]
 simp [kT,bG,hw,mI h hl]
theorem eP(h:(nl r)[k]?=some d):k<r.length∧d=.int (Bo.ap r k:Nat):=by
 have hk:k<r.length:=by simpa using(j4.mp h).1
 rw [nl,eK,Bo.fc hk]at h
 exact⟨hk,(cC h).symm⟩
theorem yz{R:List (List Nat)}{k:Nat}{d:D}(h:(R.map nD)[k]?=some d):∃g,R[k]?=some g∧d=nD g:=by
 rw [eK]at h
 obtain⟨g,h1,h2⟩:=aM h
 exact⟨g,h1,h2.symm⟩
structure Parts(n:Nat)(S:List (List Nat)):Prop where
 ne:∀g∈S,g≠[]
 nd:S.flatten.Nodup
 lt:∀x∈S.flatten,x<n
theorem Parts.sub{n:Nat}{S:List (List Nat)}(P:Parts n S){k:Nat}{g:List Nat}(hg:S[k]?=some g){j:Nat}(hj:j<g.length):Bo.ap g j∉(S.take k).flatten++g.take j:=by
 have hk:=(j4.mp hg).1
 have e:S=S.take k++(g::S.drop (k+1)):=by
  have e1:S[k]=g:=(j4.mp hg).2
  rw [←e1,←uE hk,Ap]
 have e2:g=g.take j++(Bo.ap g j::g.drop (j+1)):=by
  rw [Bo.b7 hj,←uE hj,Ap]
 have e3:S.flatten=((S.take k).flatten++g.take j)++Bo.ap g j::(g.drop (j+1)++(S.drop (k+1)).flatten):=by
  have:S.flatten=(S.take k).flatten++(g++(S.drop (k+1)).flatten):=by
   conv=>lhs;rw [e]
   simp
  rw [this]
  conv=>lhs;rw [e2]
  simp
 have nd:=P.nd
 rw [e3]at nd
 intro z
 exact(eX.mp nd).2.2 _ z _ (lU ..) rfl
theorem ur{n:Nat}{S:List (List Nat)}(hn:n≤1000000)(P:Parts n S):cJ [.int n,bq S]=some (.sh (.bl true)):=by
 have e1:bL Γ3 none (.bin .Mult (.lst (.cons (.bl false) .nil)) (.var 0)) [some (.sh (.int n)),some (.sh (bq S)),none,none,none]=some (.ow (((List.replicate n false).map D.bl).map T.sh),[some (.sh (.int n)),some (.sh (bq S)),none,none,none]):=by
  refine bB rfl rfl ?_ (by simp)
  have:sz 1=true:=rfl
  simp [this,fo hn,-List.map_replicate]
 obtain⟨env',hf,met,x,y,rfl,_⟩:=bc (step:=fun d e=>ex Γ3 Δ1 none 100 (.seq (.ife (.or (.not (.isi (.var 3) 2)) (.cmp .Eq (.un .len (.var 3)) (.int 0))) (.seq (.ret (.bl false)) .nop) .nop) (.seq (.for1 4 (.var 3) (.seq (.ifio true 100 2 (.cons (.var 4) (.cons (.var 2) .nil)) (.seq (.ret (.bl false)) .nop) .nop) .nop)) .nop)) (e.set 3 (some (.sh d)))) (fun k e=>∃met x y,e=[some (.sh (.int n)),some (.sh (bq S)),some (.ow ((met.map D.bl).map T.sh)),x,y]∧Mk n (S.take k).flatten met) (ds:=S.map nD) (env:=[some (.sh (.int n)),some (.sh (bq S)),some (.ow (((List.replicate n false).map D.bl).map T.sh)),none,none]) ⟨_,_,_,rfl,by simpa using Mk.start n⟩ (fun k d e hd ⟨met,x,y,he,hm⟩=>by
  subst he
  obtain⟨g,hg,rfl⟩:=yz hd
  have hgm:g∈S:=uD hg
  have hne:=P.ne g hgm
  have hl:g.length≠0:=fun z=>hne (Ar.mp z)
  have hc:bG Γ3 (.or (.not (.isi (.var 3) 2)) (.cmp .Eq (.un .len (.var 3)) (.int 0))) (ae [some (.sh (.int n)),some (.sh (bq S)),some (.ow ((met.map D.bl).map T.sh)),some (.sh (nD g)),y])=some false:=by
   simp [bG,pR,nD]
   simpa using hne
  obtain⟨env',hf,met',z,rfl,hm'⟩:=bc (step:=fun d e=>ex Γ3 Δ1 none 100 (.seq (.ifio true 100 2 (.cons (.var 4) (.cons (.var 2) .nil)) (.seq (.ret (.bl false)) .nop) .nop) .nop) (e.set 4 (some (.sh d)))) (fun j e=>∃met z,e=[some (.sh (.int n)),some (.sh (bq S)),some (.ow ((met.map D.bl).map T.sh)),some (.sh (nD g)),z]∧Mk n ((S.take k).flatten++g.take j) met) (ds:=nl g) (env:=[some (.sh (.int n)),some (.sh (bq S)),some (.ow ((met.map D.bl).map T.sh)),some (.sh (nD g)),y]) ⟨_,_,rfl,by simpa using hm⟩ (fun j d e hd ⟨met,z,he,hm⟩=>by
   subst he
   obtain⟨hj,rfl⟩:=eP hd
   have hlt:Bo.ap g j<n:=P.lt _ (List.mem_flatten.mpr ⟨g,hgm,Bo.gG hj⟩)
   have h0:met.getD (Bo.ap g j) false=false:=by rw [hm.at' _ hlt];exact eC (P.sub hg hj)
   refine⟨[some (.sh (.int n)),some (.sh (bq S)),some (.ow (((met.set (Bo.ap g j) true).map D.bl).map T.sh)),some (.sh (nD g)),some (.sh (.int (Bo.ap g j:Nat)))],?_,_,_,rfl,?_⟩
   ·have hio:=oA (Γ:=Γ3) (Δ:=Δ1) (f:=100) (i:=2) (args:=.cons (.var 4) (.cons (.var 2) .nil)) (env:=[some (.sh (.int n)),some (.sh (bq S)),some (.ow ((met.map D.bl).map T.sh)),some (.sh (nD g)),some (.sh (.int (Bo.ap g j:Nat)))]) (ds:=met.map D.bl) (l:=[.int (Bo.ap g j:Nat),.lst (met.map D.bl)]) rfl rfl (by simp) rfl (eZ (by rw [hm.len];exact hlt) h0) rfl (ck _)
    exact uO hio
   ·have:=hm.more hlt
    rwa [kW,show g.take j++[Bo.ap g j]=g.take (j+1) by rw [List.take_succ,Bo.fc hj];rfl]at this)
  refine⟨_,(aH hc).trans (cL rfl (show gJ Γ3 none (.var 3) _=some (nl g,_)from rfl) hf),met',_,_,rfl,?_⟩
  rw [bb,List.take_length]at hm'
  rwa [show(S.take k).flatten++g=(S.take (k+1)).flatten by rw [List.take_succ,hg];simp]at hm')
 have hc:bG Γ3 (.not (.isi (.var 1) 2)) (ae [some (.sh (.int n)),some (.sh (bq S)),none,none,none])=some false:=rfl
 exact bo rfl ((aH hc).trans ((aq rfl e1).trans ((cL rfl (show gJ Γ3 none (.var 1) _=some (S.map nD,_)from rfl) hf).trans (bX (by simp) (qd _ _ _ _)))))
theorem uS{n:Nat}(h:n≤1000000):uT 0 (n:Int)=some (nl (List.range n)):=by
 unfold uT
 rw [aF (de (by lia))]
 simp [nl]
theorem vo{n:Nat}(h:n≤1000000):iG .lrng (.int n)=some (nD (List.range n)):=by
 show(if decide (-(2 ^ 60)≤(n:Int)∧(n:Int)≤1000000)then some (D.lst ((List.range (n:Int).toNat).map fun(i:Nat)=>D.int i))else none)=_
 rw [aF (de (by omega)),v8]
 rfl
theorem fW(h:k<n):Bo.ap (List.range n) k=k:=Bo.fW h
theorem Au(h:(jW (nl a) (nl b))[k]?=some d):k<a.length∧k<b.length∧d=.tup [.int (Bo.ap a k:Nat),.int (Bo.ap b k:Nat)]:=by
 obtain⟨x,y,h1,h2,rfl⟩:=oJ h
 obtain⟨h3,rfl⟩:=eP h1
 obtain⟨h4,rfl⟩:=eP h2
 exact⟨h3,h4,rfl⟩
theorem xM{g:List Nat}{s:Nat}(hs:s≤g.length):uf (nl g) (some (s:Int)) none=nl (g.drop s):=by
 unfold uf
 rw [HT.sIx_nat,HT.sIx_none,bb,Nat.min_eq_left hs]
 rw [List.take_of_length_le (by simp)]
 simp [nl]
theorem Ct{g:List Nat}{s:Nat}(hs:s≤g.length):uf (nl g) none (some (s:Int))=nl (g.take s):=by
 unfold uf
 rw [HT.sIx_nat,HT.sIx_none,bb,Nat.min_eq_left hs]
 simp [nl]
theorem mB(a b:List Nat):nl a++nl b=nl (a++b):=by simp [nl]
noncomputable def iD(ns:List Int):D:=.lst (ns.map D.int)
theorem FL{ns:List Int}{i:Nat}(h:i<ns.length):∃v,atI (ns.map D.int) (i:Int)=some (.int v):=⟨ns[i],lP (by simp [h])⟩
theorem EY(ns:List Int)(k:Nat):∃v:Int,dD [iD ns,.int k]=some (.sh (.int v)):=by
 by_cases h:k<ns.length
 ·obtain⟨v,hv⟩:=FL h
  have hc:bG Jp (.cmp .Lt (.var 1) (.un .len (.var 0))) (ae [some (.sh (iD ns)),some (.sh (.int k))])=some true:=by
   simp [bG,iD,h]
  refine⟨v,BZ rfl ?_⟩
  have e:ex Jp Δ2 none 100 dM [some (.sh (iD ns)),some (.sh (.int k))]=some (.rt (.sh (.int v)),[some (.sh (iD ns)),some (.sh (.int k))]):=by
   unfold dM
   rw [aN,eT,hc,obs,aF rfl,bX (by simp) (au (d:=.int v) rfl (by simp [iD,hv]) rfl)]
   rfl
  exact(congrArg _ e).trans rfl
 ·have hc:bG Jp (.cmp .Lt (.var 1) (.un .len (.var 0))) (ae [some (.sh (iD ns)),some (.sh (.int k))])=some false:=by
   simp [bG,iD];lia
  exact⟨0,bo rfl ((aH hc).trans (bX (by simp) (jN _ _ _ _)))⟩
theorem rG(a:Int)(h:decide (-(2 ^ 64)<b∧b<2 ^ 64)=true):dI .Mult (.int a) (.int b)=some (.int (a*b)):=by
 show(if BE a b then _ else _)=_
 rw [aF (by unfold BE;rw [h,Bool.or_true])]
theorem lB(a:Int)(h:0<b):dI .Mod (.int a) (.int b)=some (.int (a % b)):=by
 show(if decide (0<b)then _ else _)=_
 rw [aF (de h)]
noncomputable def PR:List Int:=[1000003,1000033,1000037,1000039,1000081,1000099,1000117,1000121,1000133,1000151,1000159,1000171,1000183,1000187,1000193,1000199]
theorem KM(k:Int):∃p:Int,0<p∧atI (PR.map D.int) (k % 16)=some (.int p):=by
 have h0:0≤k % 16:=Int.emod_nonneg _ (by decide)
 have h1:k % 16<16:=Int.emod_lt_of_pos _ (by decide)
 obtain⟨j,hj⟩:∃j:Nat,k % 16=j:=⟨(k % 16).toNat,by lia⟩
 rw [hj]
 have hj':j<PR.length:=by show j<16;lia
 refine⟨PR[j],?_,lP (by simp [hj'])⟩
 have:∀x∈PR,(0:Int)<x:=by decide
 exact this _ (List.getElem_mem _)
theorem uc(c k:Int)(hm:0<m):∃v:Nat,v<m∧gk [.int c,.int k,.int m]=some (.sh (.int v)):=by
 obtain⟨p,hp,hat⟩:=KM k
 have hv0:0≤((c*48271+k*69621) % p) % (m:Int):=Int.emod_nonneg _ (by lia)
 have hv1:((c*48271+k*69621) % p) % (m:Int)<m:=Int.emod_lt_of_pos _ (by lia)
 refine⟨(((c*48271+k*69621) % p) % (m:Int)).toNat,by lia,?_⟩
 rw [show(((((c*48271+k*69621) % p) % (m:Int)).toNat:Nat):Int)=((c*48271+k*69621) % p) % (m:Int) by lia]
 have e1:bL JH none (.tup (.cons (.int 1000003) (.cons (.int 1000033) (.cons (.int 1000037) (.cons (.int 1000039) (.cons (.int 1000081) (.cons (.int 1000099) (.cons (.int 1000117) (.cons (.int 1000121) (.cons (.int 1000133) (.cons (.int 1000151) (.cons (.int 1000159) (.cons (.int 1000171) (.cons (.int 1000183) (.cons (.int 1000187) (.cons (.int 1000193) (.cons (.int 1000199) .nil))))))))))))))))) [some (.sh (.int c)),some (.sh (.int k)),some (.sh (.int m)),none]=some (.sh (.tup (PR.map D.int)),[some (.sh (.int c)),some (.sh (.int k)),some (.sh (.int m)),none]):=rfl
 have e2:ev JH (.bin .Mod (.bin .Mod (.bin .Add (.bin .Mult (.var 0) (.int 48271)) (.bin .Mult (.var 1) (.int 69621))) (.idx (.var 3) (.bin .Mod (.var 1) (.int 16)))) (.var 2)) (ae [some (.sh (.int c)),some (.sh (.int k)),some (.sh (.int m)),some (.sh (.tup (PR.map D.int)))])=some (.int (((c*48271+k*69621) % p) % (m:Int))):=by
  simp only [bj,bS,Option.map_some,bh,bU,aE,jj,bZ,List.getElem?_cons_zero,List.getElem?_cons_succ,Option.join_some,obs]
  rw [rG c (by decide),rG k (by decide),lB k (by decide)]
  simp only [obs,xT,EI]
  rw [hat,obs,lB _ hp,obs,lB _ (by lia)]
 exact bo rfl ((aq rfl e1).trans (bX (by simp) (au rfl e2 rfl)))
theorem EG(h:Bo.aw r):Bo.aw (r.take z++r.length::r.drop z):=by
 have p:(r.take z++r.length::r.drop z).Perm (r.length::r):=by
  have:=List.perm_middle (l₁:=r.take z) (l₂:=r.drop z) (a:=r.length)
  rwa [Ap]at this
 unfold Bo.aw
 rw [p.length_eq,gL,List.range_succ]
 exact p.trans ((h.cons _).trans (List.perm_append_singleton _ _).symm)
theorem GV(ns:List Int)(hl:ns.length≤63):∃r,Bo.aw r∧r.length=ns.length∧kM [iD ns]=some (nT r):=by
 have w50:sE 50=some dD:=rfl
 have w51:sE 51=some gk:=rfl
 obtain⟨c0,hc0⟩:=EY ns 0
 obtain⟨kind,hkind,hk0⟩:=uc c0 6 (m:=4) (by decide)
 have e1:bL sE none (.call 51 (.cons (.call 50 (.cons (.var 0) (.cons (.int 0) .nil))) (.cons (.int 6) (.cons (.int 4) .nil)))) [some (.sh (iD ns)),none,none,none,none]=some (.sh (.int kind),[some (.sh (iD ns)),none,none,none,none]):=by
  refine aW w51 (l:=[.int c0,.int 6,.int 4]) ?_ hk0 rfl
  have hc0':dD [iD ns,.int 0]=some (.sh (.int c0)):=hc0
  simp [jM,w50,hc0']
 obtain⟨env',hf,r,x,y,rfl,hr,hrl⟩:=bc (step:=fun d e=>ex sE Δ2 none 100 (.seq (.asg 4 (.call 51 (.cons (.idx (.var 0) (.var 3)) (.cons (.bin .Add (.bin .Mod (.var 3) (.int 5)) (.int 1)) (.cons (.bin .Add (.var 3) (.int 1)) .nil)))))
 (.seq (.ife (.cmp .Eq (.var 1) (.int 1))
 (.seq (.asg 4 (.mn (.var 4) (.call 51 (.cons (.idx (.var 0) (.var 3)) (.cons (.bin .Add (.bin .Mod (.var 3) (.int 7)) (.int 1)) (.cons (.int 4) .nil))))))
 .nop) .nop)
 (.seq (.ife (.cmp .Eq (.var 1) (.int 2))
 (.seq (.asg 4 (.mx (.var 4) (.bin .Sub (.var 3) (.call 51 (.cons (.idx (.var 0) (.var 3)) (.cons (.bin .Add (.bin .Mod (.var 3) (.int 7)) (.int 1)) (.cons (.int 4) .nil)))))))
 .nop) .nop)
 (.seq (.ife (.and (.cmp .Eq (.var 1) (.int 3)) (.cmp .Gt (.bin .Mod (.var 4) (.int 3)) (.int 0)))
 (.seq (.asg 4 (.int 0))
 .nop) .nop)
 (.seq (.ins 2 (.bin .Sub (.var 3) (.var 4)) (.var 3))
 .nop))))) (e.set 3 (some (.sh d)))) (fun k e=>∃r x y,e=[some (.sh (iD ns)),some (.sh (.int kind)),some (nT r),x,y]∧Bo.aw r∧r.length=k) (ds:=nl (List.range ns.length)) (env:=[some (.sh (iD ns)),some (.sh (.int kind)),some (.ow []),none,none]) ⟨[],_,_,rfl,Bo.vx 0,rfl⟩ (fun k d e hd ⟨r,x,y,he,hr,hrl⟩=>by
  subst he
  obtain⟨hk,rfl⟩:=eP hd
  rw [sN]at hk
  rw [fW hk]
  obtain⟨c,hat⟩:=FL hk
  have hm5:∀q:Int,0<q→dI .Mod (.int k) (.int q)=some (.int ((k:Int) % q)):=fun q hq=>lB _ hq
  obtain⟨a1,ha1,hg1⟩:=uc c ((k:Int) % 5+1) (m:=k+1) (by lia)
  obtain⟨a2,ha2,hg2⟩:=uc c ((k:Int) % 7+1) (m:=4) (by lia)
  have s1:∀y,bL sE none (.call 51 (.cons (.idx (.var 0) (.var 3)) (.cons (.bin .Add (.bin .Mod (.var 3) (.int 5)) (.int 1)) (.cons (.bin .Add (.var 3) (.int 1)) .nil)))) [some (.sh (iD ns)),some (.sh (.int kind)),some (nT r),some (.sh (.int k)),y]=some (.sh (.int a1),[some (.sh (iD ns)),some (.sh (.int kind)),some (nT r),some (.sh (.int k)),y]):=fun y=>by
   refine aW w51 (l:=[.int c,.int ((k:Int) % 5+1),.int ((k+1:Nat):Int)]) ?_ hg1 rfl
   simp [jM,iD,hat,hm5]
  have d2:∀y,ev sE (.call 51 (.cons (.idx (.var 0) (.var 3)) (.cons (.bin .Add (.bin .Mod (.var 3) (.int 7)) (.int 1)) (.cons (.int 4) .nil)))) (ae [some (.sh (iD ns)),some (.sh (.int kind)),some (nT r),some (.sh (.int k)),y])=some (.int a2):=fun y=>by
   have hg2':gk [.int c,.int ((k:Int) % 7+1),.int 4]=some (.sh (.int a2)):=hg2
   simp [iD,hat,hm5,w51,hg2']
  have vk:∀(q:Int) (t y:Option T),bG sE (.cmp .Eq (.var 1) (.int q)) (ae [some (.sh (iD ns)),some (.sh (.int kind)),some (nT r),t,y])=some (decide ((kind:Int)=q)):=fun q t y=>by
   simp [bG]
  have t2:∃b:Nat,b≤k∧∀K,ex sE Δ2 none 100 (.seq (.ife (.cmp .Eq (.var 1) (.int 1))
 (.seq (.asg 4 (.mn (.var 4) (.call 51 (.cons (.idx (.var 0) (.var 3)) (.cons (.bin .Add (.bin .Mod (.var 3) (.int 7)) (.int 1)) (.cons (.int 4) .nil))))))
 .nop) .nop) K) [some (.sh (iD ns)),some (.sh (.int kind)),some (nT r),some (.sh (.int k)),some (.sh (.int a1))]=ex sE Δ2 none 100 K [some (.sh (iD ns)),some (.sh (.int kind)),some (nT r),some (.sh (.int k)),some (.sh (.int b))]:=by
     by_cases h:(kind:Int)=1
     ·have hc:=vk 1 (some (.sh (.int k))) (some (.sh (.int a1)))
      rw [de h]at hc
      refine⟨if a2<a1 then a2 else a1,by split<;>lia,fun K=>gR hc (env2:=[some (.sh (iD ns)),some (.sh (.int kind)),some (nT r),some (.sh (.int k)),some (.sh (.int ((if a2<a1 then a2 else a1:Nat):Int)))]) ?_⟩
      rw [aF rfl]
      refine(aq (t:=.sh (.int ((if a2<a1 then a2 else a1:Nat):Int))) rfl (au rfl ?_ rfl)).trans rfl
      rw [LH,d2]
      simp
      split<;>rfl
     ·have hc:=vk 1 (some (.sh (.int k))) (some (.sh (.int a1)))
      rw [eC h]at hc
      exact⟨a1,by lia,fun K=>aH hc⟩
  obtain⟨b,hb,h2⟩:=t2
  have t3:∃b':Nat,b'≤k∧∀K,ex sE Δ2 none 100 (.seq (.ife (.cmp .Eq (.var 1) (.int 2))
 (.seq (.asg 4 (.mx (.var 4) (.bin .Sub (.var 3) (.call 51 (.cons (.idx (.var 0) (.var 3)) (.cons (.bin .Add (.bin .Mod (.var 3) (.int 7)) (.int 1)) (.cons (.int 4) .nil)))))))
 .nop) .nop) K) [some (.sh (iD ns)),some (.sh (.int kind)),some (nT r),some (.sh (.int k)),some (.sh (.int b))]=ex sE Δ2 none 100 K [some (.sh (iD ns)),some (.sh (.int kind)),some (nT r),some (.sh (.int k)),some (.sh (.int b'))]:=by
     have hc:=vk 2 (some (.sh (.int k))) (some (.sh (.int b)))
     by_cases h:(kind:Int)=2
     ·rw [de h]at hc
      have hmx:(if(k:Int)-a2>b then(k:Int)-a2 else b)=((if(k:Int)-a2>b then(k:Int)-a2 else b).toNat:Nat):=by split<;>lia
      refine⟨(if(k:Int)-a2>b then(k:Int)-a2 else b).toNat,by split<;>lia,fun K=>gR hc (env2:=[some (.sh (iD ns)),some (.sh (.int kind)),some (nT r),some (.sh (.int k)),some (.sh (.int ((if(k:Int)-a2>b then(k:Int)-a2 else b).toNat:Nat)))]) ?_⟩
      rw [aF rfl,←hmx]
      refine(aq (t:=.sh (.int (if(k:Int)-a2>b then(k:Int)-a2 else b))) rfl (au rfl ?_ rfl)).trans rfl
      rw [Ce,bU,d2]
      simp
     ·rw [eC h]at hc
      exact⟨b,hb,fun K=>aH hc⟩
  obtain⟨b',hb',h3⟩:=t3
  have t4:∃b2:Nat,b2≤k∧∀K,ex sE Δ2 none 100 (.seq (.ife (.and (.cmp .Eq (.var 1) (.int 3)) (.cmp .Gt (.bin .Mod (.var 4) (.int 3)) (.int 0)))
 (.seq (.asg 4 (.int 0))
 .nop) .nop) K) [some (.sh (iD ns)),some (.sh (.int kind)),some (nT r),some (.sh (.int k)),some (.sh (.int b'))]=ex sE Δ2 none 100 K [some (.sh (iD ns)),some (.sh (.int kind)),some (nT r),some (.sh (.int k)),some (.sh (.int b2))]:=by
     have hmod:dI .Mod (.int b') (.int 3)=some (.int ((b':Int) % 3)):=lB _ (by decide)
     have hc:∃t,bG sE (.and (.cmp .Eq (.var 1) (.int 3)) (.cmp .Gt (.bin .Mod (.var 4) (.int 3)) (.int 0))) (ae [some (.sh (iD ns)),some (.sh (.int kind)),some (nT r),some (.sh (.int k)),some (.sh (.int b'))])=some t:=by
      by_cases h:(kind:Int)=3<;>simp [bG,h,hmod]
     obtain⟨t,hc⟩:=hc
     cases t with
     |true=>
      refine⟨0,by lia,fun K=>gR hc (env2:=[some (.sh (iD ns)),some (.sh (.int kind)),some (nT r),some (.sh (.int k)),some (.sh (.int ((0:Nat):Int)))]) ?_⟩
      rw [aF rfl]
      exact(aq rfl (jN _ _ _ _)).trans rfl
     |false=>exact⟨b',hb',fun K=>aH hc⟩
  obtain⟨b2,hb2,h4⟩:=t4
  refine⟨[some (.sh (iD ns)),some (.sh (.int kind)),some (nT (r.take (k-b2)++r.length::r.drop (k-b2))),some (.sh (.int k)),some (.sh (.int b2))],?_,_,_,_,rfl,EG hr,by simp;lia⟩
  refine(aq rfl (s1 y)).trans ((h2 _).trans ((h3 _).trans ((h4 _).trans ?_)))
  have hz:ev sE (.bin .Sub (.var 3) (.var 4)) (ae [some (.sh (iD ns)),some (.sh (.int kind)),some (nT r),some (.sh (.int k)),some (.sh (.int b2))])=some (.int ((k-b2:Nat):Int)):=by
   simp;lia
  refine(GD (d:=.int k) (ts:=(nl r).map T.sh) hz rfl rfl rfl (by simp;lia) (dh (by simp;lia))).trans ?_
  have:nT (r.take (k-b2)++r.length::r.drop (k-b2))=.ow (((nl r).map T.sh).take (k-b2)++T.sh (.int k)::((nl r).map T.sh).drop (k-b2)):=by
   simp [nT,nl,hrl]
  rw [this]
  rfl)
 rw [bb,sN]at hrl
 have hx:gJ sE none (.rng (.un .len (.var 0))) [some (.sh (iD ns)),some (.sh (.int kind)),some (.ow []),none,none]=some (nl (List.range ns.length),[some (.sh (iD ns)),some (.sh (.int kind)),some (.ow []),none,none]):=by
  simp [gJ,lD,az,iD,uS (n:=ns.length) (by lia)]
 exact⟨r,hr,hrl,bo rfl ((ya rfl e1 (lI _ _ _)).trans ((cL rfl hx hf).trans (ec (by simp) rfl)))⟩
theorem vG{f:D→Option (Option D)}{h:Nat→D}:∀ {r:List Nat},(∀x∈r,f (.int (x:Nat))=some (some (h x)))→dq f (nl r)=some (r.map h)
 |[],_=>rfl
 |x::r,H=>by
  show(f (.int x)).bind _=_
  rw [H x (lU ..),obs]
  show(dq f (nl r)).map _=_
  rw [vG fun y hy=>H y (lT _ hy)]
  rfl
theorem yY{f:D→Option (Option D)}{h:List Nat→D}:∀ {R:List (List Nat)},(∀g∈R,f (nD g)=some (some (h g)))→dq f (R.map nD)=some (R.map h)
 |[],_=>rfl
 |x::r,H=>by
  show(f (nD x)).bind _=_
  rw [H x (lU ..),obs]
  show(dq f (r.map nD)).map _=_
  rw [yY fun y hy=>H y (lT _ hy)]
  rfl
theorem Jh{α:Type}(l:List α):iG .any (.lst (l.map fun _=>D.bl false))=some (.bl false):=by
 have e:(l.map fun _=>D.bl false)=(l.map fun _=>false).map D.bl:=by simp
 show(qt _).map _=_
 rw [e,qr]
 simp
theorem Jj{α:Type}(l:List α):iG .all (.lst (l.map fun _=>D.bl true))=some (.bl true):=by
 have e:(l.map fun _=>D.bl true)=(l.map fun _=>true).map D.bl:=by simp
 show(qt _).map _=_
 rw [e,qr]
 simp
theorem yX{α:Type}{l:List α}(hi:ev Γ it env=some (.lst ds))(hs:ds.length≤1000000)(h:dq (fun d=>(ev Γ elt (inner env is d)).map some) ds=some (l.map fun _=>D.bl false)):ev Γ (.un .any (.comp elt is it .nil)) env=some (.bl false):=by
 rw [b6,t9,hi]
 simp only [obs,gM,xP]
 rw [aF (dh hs)]
 simp only [if_true]
 rw [h,As,obs,Jh]
theorem oB{α:Type}{l:List α}(hi:ev Γ it env=some (.lst ds))(hs:ds.length≤1000000)(h:dq (fun d=>(ev Γ elt (inner env is d)).map some) ds=some (l.map fun _=>D.bl true)):ev Γ (.un .all (.comp elt is it .nil)) env=some (.bl true):=by
 rw [b6,t9,hi]
 simp only [obs,gM,xP]
 rw [aF (dh hs)]
 simp only [if_true]
 rw [h,As,obs,Jj]
theorem jO(hi:ev Γ it env=some (.lst ds))(hs:ds.length≤1000000)(h:dq (fun d=>(ev Γ elt (inner env is d)).map some) ds=some l):ev Γ (.comp elt is it .nil) env=some (.lst l):=by
 rw [t9,hi]
 simp only [obs,gM,xP]
 rw [aF (dh hs)]
 simp only [if_true]
 rw [h,As]
theorem pB{r:List Nat}(hl:r.length≤1000000):dC [nD r]=some (.sh (.bl true)):=by
 have c1:bG JG (.not (.isi (.var 0) 2)) (ae [some (.sh (nD r))])=some false:=rfl
 have c2:ev JG (.un .any (.comp (.or (.isi (.var 0) 1) (.not (.isi (.var 0) 0))) [] (.var 0) .nil)) (ae [some (.sh (nD r))])=some (.bl false):=
  yX (l:=r) (ds:=nl r) rfl (by simpa using hl) (vG fun x _=>rfl)
 exact bo rfl ((aH c1).trans (bX (by simp) (au (d:=.bl true) rfl (by rw [gE,c2];rfl) rfl)))
theorem vv{t:List Nat}(p:t.Perm (List.range n)):m4 (ci t)=ci (List.range n):=by
 refine(pQ (List.Perm.map _ p.symm) ?_).symm
 refine List.pairwise_map.mpr ?_
 exact List.Pairwise.imp (fun {a b} (h:a<b)=>by lia) List.pairwise_lt_range
theorem wF{t:List Nat}(h:t.length<64):iG .sorted (nD t)=some (.lst ((m4 (ci t)).map D.int)):=by
 show(cQ (nl t)).bind _=_
 rw [pC,jJ,obs,aF (de (by simpa [ci]using h))]
theorem Ir(g:List Nat):xF (nD g) (.lst [])=some (decide (g=[])):=Cg g []
section
variable(Γ:bu)(env:Env)
@[simp] theorem xD(a:E)(f:Str):ev Γ (.fld a f) env=(ev Γ a env).bind (xx f):=rfl
@[simp] theorem Nz(a:E)(j:Nat):ev Γ (.isc a j) env=(ev Γ a env).bind (EA j):=rfl
@[simp] theorem oz(o:E)(k:Nat)(args:E):ev Γ (.meth o k args) env=(ev Γ o env).bind fun x=>(tK Γ k x).bind fun g=>((ev Γ args env).bind bx).bind fun l=>(g (x::l)).map strip:=rfl
@[simp] theorem NB(o1 o2 o3:CmpOp)(a b c d:E):ev Γ (.ch3 o1 o2 o3 a b c d) env=(ev Γ a env).bind fun x=>(ev Γ b env).bind fun y=>(bV o1 x y).bind fun z=>pW z ((ev Γ c env).bind fun w=>(bV o2 y w).bind fun z2=>pW z2 ((ev Γ d env).bind fun w2=>bV o3 w w2) (some (.bl false))) (some (.bl false)):=rfl
end
@[simp] theorem KZ(i:Int)(o:Option D):mq (.int i) o=match o with|some (.int i)=>some (some i)|_=>none:=rfl
@[simp] theorem Lm(a b:Bool):bV .IsNot (.bl a) (.bl b)=some (.bl (a !=b)):=rfl
@[simp] theorem Ou(a b:Bool):xF (.bl a) (.bl b)=some (a==b):=by cases a<;>cases b<;>rfl
@[simp] theorem Kn(c:Nat)(ks:List Str)(ts:List T):strip (.ob c ks ts)=.ins c ks (ts.map strip):=by simp [strip,oQ]
theorem mO{Γ:bu}(hg:Γ f=some g)(hl:jM Γ args (ae env)=some l)(ht:g l=some t)(hf:bN t=false)(hz:frz pio env (aX args)=some env2)(hl2:jM Γ args (gC env2)=some l):bL Γ pio (.call f args) env=some (t,env2):=by
 rw [jk,hg]
 show(jM Γ args (ae env)).bind _=_
 rw [hl]
 show(g l).bind _=_
 rw [ht]
 show(if bN t then _ else _)=_
 rw [aK (by rw [hf];exact kQ),hz]
 show(jM Γ args (gC env2)).bind _=_
 rw [hl2]
 show(g l).map _=_
 rw [ht];rfl
theorem rX{Γ:bu}(hg:Γ f=some g)(hl:jM Γ args (ae env)=some l)(ht:g l=some t)(hz:frz pio env (aX args)=some env)(hl2:jM Γ args (gC env)=some l):bL Γ pio (.call f args) env=some (t,env):=by
 cases hf:bN t with
 |true=>exact aW hg hl ht hf
 |false=>exact mO hg hl ht hf hz hl2
theorem FO{ds:List D}(env:av)(hl:ds.length=ar)(hs:bC N ds=env)(hv:∀i,m≠.var i)(hc:dg m=false)(h:ev Γ m (ae env)=some d)(hd:scal d=true):gP Γ Δ n N ar (.seq (.ret m) k) ds=some (.sh d):=by
 subst hs
 exact bo hl (bX hv (au hc h hd))
theorem r6{α:Type}{f:D→Option (Option D)}{c h:α→D}:∀ {l:List α},(∀x∈l,f (c x)=some (some (h x)))→dq f (l.map c)=some (l.map h)
 |[],_=>rfl
 |x::r,H=>by
  show(f (c x)).bind _=_
  rw [H x (lU ..),obs]
  show(dq f (r.map c)).map _=_
  rw [r6 fun y hy=>H y (lT _ hy)]
  rfl
theorem j9{bs:List Bool}(h:bs.length≤x∨bs.getD x false=true):bE [.int x,.lst (bs.map D.bl)]=some (.sh (.bl false),bs.map D.bl):=by
 refine FN (env:=[some (.sh (.int x)),some (.ow ((bs.map D.bl).map T.sh))]) rfl ?_ (by simp)
 have hs:c7 ["thing","met"] 1 [D.int x,D.lst (bs.map D.bl)]=[some (.sh (.int x)),some (.ow ((bs.map D.bl).map T.sh))]:=by simp [c7,qY,bx]
 have hw:Γ1 0=some fQ:=rfl
 rw [hs]
 unfold gr
 simp only [aN,eT]
 have hc:bG Γ1 (.or (.not (.call 0 (.cons (.var 0) .nil))) (.or (.not (.ch .LtE .Lt (.int 0) (.var 0) (.un .len (.var 1)))) (.idx (.var 1) (.var 0)))) (ae [some (.sh (.int x)),some (.ow ((bs.map D.bl).map T.sh))])=some true:=by
  simp only [bj,bS,Option.map_some,bh,fA,dB,bG,m7,gE,c9,aR,dE,aE,hw]
  rcases dS x bs.length with z|z
  ·have h0:bs.getD x false=true:=h.resolve_left (by lia)
   have hlt:(x:Int)<(bs.length:Int):=by lia
   simp [hlt,vN z,-List.getD_eq_getElem?_getD]
   simpa using h0
  ·have hlt:¬(x:Int)<(bs.length:Int):=by lia
   simp [hlt]
 rw [hc]
 rfl
def Fr(n:Nat)(L g:List Nat):Prop:=g.Nodup∧∀x∈g,x<n∧x∉L
theorem ix:Fr n L (x::g)↔(x<n∧x∉L)∧Fr n (L++[x]) g:=by
 unfold Fr
 constructor
 ·rintro ⟨nd,h⟩
  obtain⟨h1,h2⟩:=iO.mp nd
  refine⟨h x (lU ..),h2,fun y hy=>⟨(h y (lT _ hy)).1,fun z=> ?_⟩⟩
  rcases fv.mp z with z|z
  ·exact(h y (lT _ hy)).2 z
  ·rw [nJ.mp z]at hy;exact h1 hy
 ·rintro ⟨h1,h2,h3⟩
  refine⟨iO.mpr ⟨fun z=>(h3 x z).2 (nK _ (nJ.mpr rfl)),h2⟩,fun y hy=> ?_⟩
  rcases fY.mp hy with z|z
  ·rw [z];exact h1
  ·exact⟨(h3 y z).1,fun q=>(h3 y z).2 (Aq _ q)⟩
theorem mM:Fr n L (g++t)↔Fr n L g∧Fr n (L++g) t:=by
 induction g generalizing L with
 |nil=>simp [Fr]
 |cons x g ih=>
  rw [List.cons_append,ix,ih,ix,kW,List.singleton_append]
  exact and_assoc.symm
noncomputable abbrev qW:S:=.seq (.ifio true 100 2 (.cons (.var 4) (.cons (.var 2) .nil)) (.seq (.ret (.bl false)) .nop) .nop) .nop
theorem rE:∀(g L:List Nat) (met:List Bool) (z:Option T),Mk n L met→
 (Fr n L g∧∃met' z',forL (fun d e=>ex Γ3 Δ1 none 100 qW (e.set 4 (some (.sh d)))) (nl g) [e0,e1,some (.ow ((met.map D.bl).map T.sh)),e3,z]=some (.nx,[e0,e1,some (.ow ((met'.map D.bl).map T.sh)),e3,z'])∧Mk n (L++g) met')∨
 (¬Fr n L g∧∃e',forL (fun d e=>ex Γ3 Δ1 none 100 qW (e.set 4 (some (.sh d)))) (nl g) [e0,e1,some (.ow ((met.map D.bl).map T.sh)),e3,z]=some (.rt (.sh (.bl false)),e'))
 |[],L,met,z,hm=> .inl ⟨⟨List.nodup_nil,fun x hx=>by simp at hx⟩,met,z,rfl,by simpa using hm⟩
 |x::g,L,met,z,hm=>by
  by_cases hx:x<n∧x∉L
  ·have h0:met.getD x false=false:=by rw [hm.at' _ hx.1];exact eC hx.2
   have hio:=oA (Γ:=Γ3) (Δ:=Δ1) (f:=100) (i:=2) (args:=.cons (.var 4) (.cons (.var 2) .nil)) (env:=[e0,e1,some (.ow ((met.map D.bl).map T.sh)),e3,some (.sh (.int x))]) (ds:=met.map D.bl) (l:=[.int x,.lst (met.map D.bl)]) rfl rfl (by simp) rfl (eZ (by rw [hm.len];exact hx.1) h0) rfl (ck _)
   have st:ex Γ3 Δ1 none 100 qW [e0,e1,some (.ow ((met.map D.bl).map T.sh)),e3,some (.sh (.int x))]=some (.nx,[e0,e1,some (.ow (((met.set x true).map D.bl).map T.sh)),e3,some (.sh (.int x))]):=(uO hio).trans rfl
   have un:forL (fun d e=>ex Γ3 Δ1 none 100 qW (e.set 4 (some (.sh d)))) (nl (x::g)) [e0,e1,some (.ow ((met.map D.bl).map T.sh)),e3,z]=forL (fun d e=>ex Γ3 Δ1 none 100 qW (e.set 4 (some (.sh d)))) (nl g) [e0,e1,some (.ow (((met.set x true).map D.bl).map T.sh)),e3,some (.sh (.int x))]:=by
    show(ex Γ3 Δ1 none 100 qW [e0,e1,some (.ow ((met.map D.bl).map T.sh)),e3,some (.sh (.int x))]).bind _=_
    rw [st];rfl
   rw [un]
   rcases rE g (L++[x]) (met.set x true) (some (.sh (.int x))) (hm.more hx.1)with⟨h1,met',z',h2,h3⟩|⟨h1,e',h2⟩
   ·exact .inl ⟨ix.mpr ⟨hx,h1⟩,met',z',h2,by rwa [kW,List.singleton_append]at h3⟩
   ·exact .inr ⟨fun q=>h1 (ix.mp q).2,e',h2⟩
  ·refine .inr ⟨fun q=>hx (ix.mp q).1,[e0,e1,some (.ow ((met.map D.bl).map T.sh)),e3,some (.sh (.int x))],?_⟩
   have h0:met.length≤x∨met.getD x false=true:=by
    rcases dS x n with q|q
    ·right
     rw [hm.at' _ q]
     exact de (Classical.byContradiction fun w=>hx ⟨q,w⟩)
    ·left;rw [hm.len];exact q
   have hio:=oA (Γ:=Γ3) (Δ:=Δ1) (f:=100) (i:=2) (args:=.cons (.var 4) (.cons (.var 2) .nil)) (env:=[e0,e1,some (.ow ((met.map D.bl).map T.sh)),e3,some (.sh (.int x))]) (ds:=met.map D.bl) (l:=[.int x,.lst (met.map D.bl)]) rfl rfl (by simp) rfl (j9 h0) rfl (ck _)
   show(ex Γ3 Δ1 none 100 qW [e0,e1,some (.ow ((met.map D.bl).map T.sh)),e3,some (.sh (.int x))]).bind _=_
   rw [show ex Γ3 Δ1 none 100 qW [e0,e1,some (.ow ((met.map D.bl).map T.sh)),e3,some (.sh (.int x))]=some (.rt (.sh (.bl false)),[e0,e1,some (.ow ((met.map D.bl).map T.sh)),e3,some (.sh (.int x))]) by
    rw [aN,t6,hio];rfl]
   rfl
noncomputable abbrev mW:S:=.seq (.ife (.or (.not (.isi (.var 3) 2)) (.cmp .Eq (.un .len (.var 3)) (.int 0))) (.seq (.ret (.bl false)) .nop) .nop) (.seq (.for1 4 (.var 3) qW) .nop)
theorem o9:∀(S:List (List Nat)) (L:List Nat) (met:List Bool) (y z:Option T),Mk n L met→
 (((∀g∈S,g≠[])∧Fr n L S.flatten)∧∃e',forL (fun d e=>ex Γ3 Δ1 none 100 mW (e.set 3 (some (.sh d)))) (S.map nD) [e0,e1,some (.ow ((met.map D.bl).map T.sh)),y,z]=some (.nx,e'))∨
 (¬((∀g∈S,g≠[])∧Fr n L S.flatten)∧∃e',forL (fun d e=>ex Γ3 Δ1 none 100 mW (e.set 3 (some (.sh d)))) (S.map nD) [e0,e1,some (.ow ((met.map D.bl).map T.sh)),y,z]=some (.rt (.sh (.bl false)),e'))
 |[],L,met,y,z,hm=> .inl ⟨⟨fun g hg=>by simp at hg,by simp [Fr]⟩,_,rfl⟩
 |g::S,L,met,y,z,hm=>by
  have hc:bG Γ3 (.or (.not (.isi (.var 3) 2)) (.cmp .Eq (.un .len (.var 3)) (.int 0))) (ae [e0,e1,some (.ow ((met.map D.bl).map T.sh)),some (.sh (nD g)),z])=some (decide (g=[])):=by
   simp [bG,pR,nD]
  have un:forL (fun d e=>ex Γ3 Δ1 none 100 mW (e.set 3 (some (.sh d)))) ((g::S).map nD) [e0,e1,some (.ow ((met.map D.bl).map T.sh)),y,z]=(ex Γ3 Δ1 none 100 mW [e0,e1,some (.ow ((met.map D.bl).map T.sh)),some (.sh (nD g)),z]).bind fun q=>match q.1 with
   | .nx=>forL (fun d e=>ex Γ3 Δ1 none 100 mW (e.set 3 (some (.sh d)))) (S.map nD) q.2
   | .ct=>forL (fun d e=>ex Γ3 Δ1 none 100 mW (e.set 3 (some (.sh d)))) (S.map nD) q.2
   | .bk=>some (.nx,q.2)
   | .rt t=>some (.rt t,q.2):=rfl
  rw [un]
  by_cases hg:g=[]
  ·rw [de hg]at hc
   refine .inr ⟨fun q=>q.1 g (lU ..) hg,[e0,e1,some (.ow ((met.map D.bl).map T.sh)),some (.sh (nD g)),z],?_⟩
   rw [show ex Γ3 Δ1 none 100 mW [e0,e1,some (.ow ((met.map D.bl).map T.sh)),some (.sh (nD g)),z]=some (.rt (.sh (.bl false)),[e0,e1,some (.ow ((met.map D.bl).map T.sh)),some (.sh (nD g)),z]) by
    rw [aN,eT,hc];rfl]
   rfl
  ·rw [eC hg]at hc
   have st:ex Γ3 Δ1 none 100 mW [e0,e1,some (.ow ((met.map D.bl).map T.sh)),some (.sh (nD g)),z]=qV (forL (fun d e=>ex Γ3 Δ1 none 100 qW (e.set 4 (some (.sh d)))) (nl g) [e0,e1,some (.ow ((met.map D.bl).map T.sh)),some (.sh (nD g)),z]) (ex Γ3 Δ1 none 100 .nop):=(aH hc).trans rfl
   rw [st]
   rcases rE (e0:=e0) (e1:=e1) (e3:=some (.sh (nD g))) g L met z hm with⟨h1,met',z',h2,h3⟩|⟨h1,e',h2⟩
   ·rw [h2]
    rcases o9 (e0:=e0) (e1:=e1) S (L++g) met' (some (.sh (nD g))) z' h3 with⟨⟨h4,h5⟩,e',h6⟩|⟨h4,e',h6⟩
    ·refine .inl ⟨⟨fun g' hg'=> ?_,by rw [jT];exact mM.mpr ⟨h1,h5⟩⟩,e',h6⟩
     rcases fY.mp hg' with z|z
     ·rw [z];exact hg
     ·exact h4 g' z
    ·refine .inr ⟨fun⟨q1,q2⟩=>h4 ⟨fun g' hg'=>q1 g' (lT _ hg'),?_⟩,e',h6⟩
     rw [jT]at q2
     exact(mM.mp q2).2
   ·rw [h2]
    refine .inr ⟨fun⟨q1,q2⟩=>h1 ?_,e',rfl⟩
    rw [jT]at q2
    exact(mM.mp q2).1
theorem rf{n:Nat}{S:List (List Nat)}(hn:n≤1000000)(P:¬Parts n S):cJ [.int n,bq S]=some (.sh (.bl false)):=by
 have e1:bL Γ3 none (.bin .Mult (.lst (.cons (.bl false) .nil)) (.var 0)) [some (.sh (.int n)),some (.sh (bq S)),none,none,none]=some (.ow (((List.replicate n false).map D.bl).map T.sh),[some (.sh (.int n)),some (.sh (bq S)),none,none,none]):=by
  refine bB rfl rfl ?_ (by simp)
  have:sz 1=true:=rfl
  simp [this,fo hn,-List.map_replicate]
 have hc:bG Γ3 (.not (.isi (.var 1) 2)) (ae [some (.sh (.int n)),some (.sh (bq S)),none,none,none])=some false:=rfl
 rcases o9 (n:=n) (e0:=some (.sh (.int n))) (e1:=some (.sh (bq S))) S [] (List.replicate n false) none none (Mk.start n)with⟨⟨h1,h2⟩,_⟩|⟨_,e',h⟩
 ·exact absurd ⟨h1,h2.1,fun x hx=>(h2.2 x hx).1⟩ P
 ·refine bo (env:=e') rfl ?_
  refine(aH hc).trans ((aq rfl e1).trans ?_)
  rw [aN,t7,aF (show di none _ 3=true from rfl),show gJ Γ3 none (.var 1) _=some (S.map nD,_)from rfl,obs]
  exact(congrArg (fun q=>qV q _) h).trans rfl
theorem AO(S:List (List Nat)):iG .sum (.lst (S.map fun g=>D.int g.length))=some (.int S.flatten.length):=by
 have e:(S.map fun g=>D.int g.length)=(S.map fun g=>(g.length:Int)).map D.int:=by simp
 show(cQ _).map _=_
 rw [e,jJ,As]
 congr 2
 induction S with
 |nil=>rfl
 |cons g S ih=>
  simp only [List.map_cons,List.sum_cons,List.flatten_cons,dP]at ih⊢
  rw [ih (by simp)]
  lia
theorem iC{S:List (List Nat)}(hn:n≤1000000)(hS:S.length≤1000000)(P:Parts n S):aU [.int n,bq S]=some (.sh (.bl (decide (S.flatten.length=n)))):=by
 have hw:Γ4 3=some cJ:=rfl
 have c2:ev Γ4 (.un .sum (.comp (.un .len (.var 0)) [] (.var 1) .nil)) (ae [some (.sh (.int n)),some (.sh (bq S))])=some (.int S.flatten.length):=by
  rw [b6,jO (ds:=S.map nD) (l:=S.map fun g=>D.int g.length) rfl (by simpa using hS) (yY fun g _=>by simp [inner,nD]),obs,AO]
 have c1:ev Γ4 (.call 3 (.cons (.var 0) (.cons (.var 1) .nil))) (ae [some (.sh (.int n)),some (.sh (bq S))])=some (.bl true):=by
  rw [c9,hw]
  show((cJ [.int n,bq S]).map strip)=_
  rw [ur hn P];simp
 refine bo (env:=[some (.sh (.int n)),some (.sh (bq S))]) rfl (bX (by simp) (au rfl ?_ rfl))
 show ev Γ4 (.and _ _) (ae [some (.sh (.int n)),some (.sh (bq S))])=_
 rw [mN,c1,obs,yI,cv,c2]
 show bV .Eq (.int S.flatten.length) (.int n)=_
 rw [vB,vA,As,show decide ((S.flatten.length:Int)=(n:Int))=decide (S.flatten.length=n)from decide_eq_decide.mpr (by lia)]
theorem rd{n:Nat}{S:List (List Nat)}(hn:n≤1000000)(P:¬Parts n S):aU [.int n,bq S]=some (.sh (.bl false)):=by
 have hw:Γ4 3=some cJ:=rfl
 have c1:ev Γ4 (.call 3 (.cons (.var 0) (.cons (.var 1) .nil))) (ae [some (.sh (.int n)),some (.sh (bq S))])=some (.bl false):=by
  rw [c9,hw]
  show((cJ [.int n,bq S]).map strip)=_
  rw [rf hn P];simp
 refine bo (env:=[some (.sh (.int n)),some (.sh (bq S))]) rfl (bX (by simp) (au rfl ?_ rfl))
 show ev Γ4 (.and _ _) (ae [some (.sh (.int n)),some (.sh (bq S))])=_
 rw [mN,c1,obs,BR]
noncomputable def pd(p:Nat×Nat):D:=.tup [.int p.1,.int p.2]
noncomputable def pD(ps:List (Nat×Nat)):D:=.lst (ps.map pd)
noncomputable def pT(ps:List (Nat×Nat)):T:=.ow (ps.map fun p=> .sh (pd p))
@[simp] theorem AR(ps:List (Nat×Nat)):strip (pT ps)=pD ps:=by
  rw [pT,pD,fA,zb]
  exact congrArg D.lst (List.map_congr_left fun p _=>bh _)
theorem xn(p:Nat×Nat):mK [pd p]=some (.sh (.bl true)):=by
 have hw:Γ5 0=some fQ:=rfl
 refine FO [some (.sh (pd p))] rfl rfl (by simp) rfl ?_ rfl
 have a0:atI [D.int p.1,D.int p.2] 0=some (.int p.1):=rfl
 have a1:atI [D.int p.1,D.int p.2] 1=some (.int p.2):=rfl
 simp [pd,pR,hw,a0,a1]
theorem uu{ps:List (Nat×Nat)}(hl:ps.length≤1000000):jh [pD ps]=some (.sh (.bl true)):=by
 have hw:Γ6 5=some mK:=rfl
 refine FO [some (.sh (pD ps))] rfl rfl (by simp) rfl ?_ rfl
 have c2:ev Γ6 (.un .all (.comp (.call 5 (.cons (.var 0) .nil)) [] (.var 0) .nil)) (ae [some (.sh (pD ps))])=some (.bl true):=
  oB (l:=ps) (ds:=ps.map pd) rfl (by simpa using hl) (r6 fun p _=>by simp [inner,hw,xn])
 rw [mN,c2]
 simp [pR,pD]
theorem yr{ps:List (Nat×Nat)}{k:Nat}{d:D}(h:(ps.map pd)[k]?=some d):∃p,ps[k]?=some p∧d=pd p:=by
 rw [eK]at h
 obtain⟨g,h1,h2⟩:=aM h
 exact⟨g,h1,h2.symm⟩
theorem mC(t:List Nat)(i v:Nat):T.ow (((nl t).map T.sh).set i (.sh (.int v)))=nT (t.set i v):=by simp [nT,nl,List.map_set]
theorem tN{ps:List (Nat×Nat)}(hl:ps.length≤1000000):iw [pD ps]=some (.sh (.bl true)):=by
 have hw:Gh 53=some dC:=rfl
 have c1:ev Gh (.un .all (.comp (.and (.isi (.var 0) 3) (.cmp .Eq (.un .len (.var 0)) (.int 2))) [] (.var 0) .nil)) (ae [some (.sh (pD ps))])=some (.bl true):=
  oB (l:=ps) (ds:=ps.map pd) rfl (by simpa using hl) (r6 fun p _=>by simp [inner,pd,pR])
 have c2:ev Gh (.un .all (.comp (.call 53 (.cons (.un .list (.var 0)) .nil)) [] (.var 0) .nil)) (ae [some (.sh (pD ps))])=some (.bl true):=
  oB (l:=ps) (ds:=ps.map pd) rfl (by simpa using hl) (r6 fun p _=>by
   have:=pB (r:=[p.1,p.2]) (by simp)
   rw [show nD [p.1,p.2]=D.lst [.int p.1,.int p.2]from rfl]at this
   simp [inner,pd,hw,this])
 have hc:bG Gh (.or (.not (.isi (.var 0) 2)) (.not (.un .all (.comp (.and (.isi (.var 0) 3) (.cmp .Eq (.un .len (.var 0)) (.int 2))) [] (.var 0) .nil)))) (ae [some (.sh (pD ps))])=some false:=by
  rw [bG,m7,gE,gE,c1]
  simp [pR,pD]
 exact bo rfl ((aH hc).trans (bX (by simp) (au rfl c2 rfl)))
theorem rZ{ds:List D}(hl:ds.length≤1000000)(hn:ds.all mX=true):jg [.lst ds]=some (.ow (ds.map mR)):=by
 refine bo (env:=[some (.sh (.lst ds))]) rfl ?_
 have e:ex JI Δ2 none 100 (.retC (.var 0)) [some (.sh (.lst ds))]=some (.rt (.ow (ds.map mR)),[some (.sh (.lst ds))]):=by
  show(if sz ds.length&&ds.all mX then some (Fl.rt (T.ow (ds.map mR)),_)else none)=_
  rw [aF (by rw [dh hl,hn];rfl)]
 show qV (ex JI Δ2 none 100 (.retC (.var 0)) [some (.sh (.lst ds))]) _=_
 rw [e];rfl
theorem Cy{ps:List (Nat×Nat)}(hl:ps.length≤1000000):jg [pD ps]=some (pT ps):=by
 rw [pD,rZ (by simpa using hl) (by simp [pd,mX]),pT,List.map_map]
 rfl
theorem CA{R:List (List Nat)}(hl:R.length≤1000000):jg [bq R]=some (kG R):=by
 rw [bq,rZ (by simpa using hl) (by simp [nD,mX]),kG,List.map_map]
 rfl
section
variable{Γ:bu}{Δ:gH}{pio:Option Nat}{n:Nat}{env env2 env3:av}{k:S}
theorem wD(h:bL Γ pio m env=some (t,env2))(ho:cm env2 i=some (c,ks,ts))(hk:(!ks.contains f&&decide (ks.length<1000))=true):ex Γ Δ pio n (.seq (.fst i f m) k) env=ex Γ Δ pio n k (env2.set i (some (.ob c (ks++[f]) (ts++[t])))):=by
 rw [aN,show ex Γ Δ pio n (.fst i f m) env=(bL Γ pio m env).bind fun r=>(cm r.2 i).bind fun o=>if !o.2.1.contains f&&decide (o.2.1.length<1000)then some (.nx,r.2.set i (some (.ob o.1 (o.2.1++[f]) (o.2.2++[r.1]))))else none from rfl,h,obs,show cm (t,env2).2 i=_ from ho,obs,aF hk];rfl
end
theorem mE{n:Nat}(h:n≤1000000):dI .Mult (.lst [.int 0]) (.int n)=some (nD (List.replicate n 0)):=by
 have e:(List.replicate n [D.int 0]).flatten=nl (List.replicate n 0):=by
  clear h
  induction n with
  |zero=>rfl
  |succ n ih=>rw [sJ,jT,ih];rfl
 show(if sz ([D.int 0].length*(n:Int).toNat)&&decide (-(2 ^ 62)≤(n:Int)∧(n:Int)<2 ^ 62)then some (D.lst (List.replicate (n:Int).toNat [D.int 0]).flatten)else none)=_
 rw [v8,aF,e]
 ·rfl
 ·rw [Bool.and_eq_true]
  exact⟨dh (by simpa using h),de (by lia)⟩
theorem kS{r:List Nat}(h:Bo.aw r)(hl:r.length≤1000000):g8 [nD r]=some (nT (Bo.bk r)):=by
 have e1:bL Γ7 none (.bin .Mult (.lst (.cons (.int 0) .nil)) (.un .len (.var 0))) [some (.sh (nD r)),none,none,none]=some (nT (List.replicate r.length 0),[some (.sh (nD r)),none,none,none]):=by
  refine bB rfl rfl ?_ (aP _)
  have:sz 1=true:=rfl
  simp [nD,this]
  exact mE hl
 have hx:gJ Γ7 none (.enm (.var 0)) [some (.sh (nD r)),some (nT (List.replicate r.length 0)),none,none]=some (dG 0 (nl r),[some (.sh (nD r)),some (nT (List.replicate r.length 0)),none,none]):=rfl
 obtain⟨env',hf,t,x,y,rfl,ht,hk⟩:=bc (step:=lY fun x y e=>ex Γ7 Δ1 none 100 (.seq (.set 1 (.var 3) (.var 2)) .nop) ((e.set 2 (some (.sh x))).set 3 (some (.sh y)))) (fun k e=>∃t x y,e=[some (.sh (nD r)),some (nT t),x,y]∧t.length=r.length∧∀i,i<k→Bo.ap t (Bo.ap r i)=i) (ds:=dG 0 (nl r)) (env:=[some (.sh (nD r)),some (nT (List.replicate r.length 0)),none,none]) ⟨_,_,_,rfl,by simp,fun i hi=>by lia⟩ (fun k d e hd ⟨t,x,y,he,hlt,ht⟩=>by
  subst he
  obtain⟨z,hz,rfl⟩:=g9 hd
  obtain⟨hk,rfl⟩:=eP hz
  rw [qO]
  have lt:=h.lt hk
  refine⟨[some (.sh (nD r)),some (nT (t.set (Bo.ap r k) k)),some (.sh (.int k)),some (.sh (.int (Bo.ap r k:Nat)))],?_,_,_,_,rfl,by simp [hlt],fun i hi=> ?_⟩
  ·refine(kq (d:=.int k) (z:=(Bo.ap r k:Nat)) (ts:=(nl t).map T.sh) rfl rfl rfl rfl (c8 (by simpa using(by lia)))).trans ?_
   rw [mC]
   rfl
  ·rw [Bo.Jg (by lia)]
   split
   ·rename_i e
    exact(h.inj (by lia) hk e).symm
   ·rename_i e
    exact ht i (by
     rcases dS i k with q|q
     ·exact q
     ·exact absurd (by rw [show i=k by lia]) e))
 rw [e7,bb]at hk
 have e:=Bo.Mb h ht hk
 subst e
 exact bo rfl ((aq rfl e1).trans ((gd rfl hx hf).trans (ec (by simp) rfl)))
section
variable{Γ:bu}{Δ:gH}{pio:Option Nat}{n:Nat}{env env2 env3:av}{k:S}
theorem Ds(h:bL Γ pio m env=some (t,env2))(ho:cm env2 i=some (c,ks,ts))(hf:cR f (c,ks,ts)=some (j,us))(hk:sz us.length=true):ex Γ Δ pio n (.seq (.appF i f m) k) env=ex Γ Δ pio n k (env2.set i (some (.ob c ks (ts.set j (.ow (us++[t])))))):=by
 rw [aN,show ex Γ Δ pio n (.appF i f m) env=(bL Γ pio m env).bind fun r=>(cm r.2 i).bind fun o=>(cR f o).bind fun ju=>if sz ju.2.length then some (.nx,r.2.set i (some (.ob o.1 o.2.1 (o.2.2.set ju.1 (.ow (ju.2++[r.1]))))))else none from rfl,h,obs,show cm (t,env2).2 i=_ from ho,obs,hf,obs,aF hk];rfl
theorem Dm(ho:cm env i=some (c,ks,ts))(hf:cR f (c,ks,ts)=some (j,us))(hk:us.isEmpty=false):ex Γ Δ pio n (.seq (.popF i f) k) env=ex Γ Δ pio n k (env.set i (some (.ob c ks (ts.set j (.ow us.dropLast))))):=by
 rw [aN,show ex Γ Δ pio n (.popF i f) env=(cm env i).bind fun o=>(cR f o).bind fun ju=>if ju.2.isEmpty then none else some (.nx,env.set i (some (.ob o.1 o.2.1 (o.2.2.set ju.1 (.ow ju.2.dropLast)))))from rfl,ho,obs,hf,obs,aK (by rw [hk];exact kQ)];rfl
theorem AV(ho:cm env i=some (c,ks,ts))(hf:cR f (c,ks,ts)=some (j,us))(hz:ev Γ q (ae env)=some (.int z))(hi:kH us.length z=some l)(hu:us[l]?=some (.ow vs))(hd:ev Γ m (ae env)=some d)(hk:(scal d&&sz vs.length)=true):ex Γ Δ pio n (.seq (.appFA i f q m) k) env=ex Γ Δ pio n k (env.set i (some (.ob c ks (ts.set j (.ow (us.set l (.ow (vs++[.sh d])))))))):=by
 rw [aN,show ex Γ Δ pio n (.appFA i f q m) env=(cm env i).bind fun o=>(cR f o).bind fun ju=>((ev Γ q (ae env)).bind g7).bind fun z=>(kH ju.2.length z).bind fun l=>(ju.2[l]?).bind fun t=>(pU t).bind fun us=>(ev Γ m (ae env)).bind fun d=>if scal d&&sz us.length then some (.nx,env.set i (some (.ob o.1 o.2.1 (o.2.2.set ju.1 (.ow (ju.2.set l (.ow (us++[.sh d]))))))))else none from rfl,ho,obs,hf,obs,hz,obs,je,obs,hi,obs,hu,obs,show pU (T.ow vs)=some vs from rfl,obs,hd,obs,aF hk];rfl
end
def Ao(r:List Nat)(t:T):Prop:=t=.sh (nD r)∨t=nT r
theorem Ao.strip(h:Ao r t):strip t=nD r:=by rcases h with h|h<;>simp [h]
theorem Ba(r:List Nat):(nl r).reverse=nl r.reverse:=by simp [nl]
theorem ux:∀(xs L:List Nat) (met:List Bool),Mk n L met→∃b,qC bE (nl xs) (met.map D.bl)=some b∧(b=true↔Fr n L xs)
 |[],L,met,hm=>⟨true,rfl,by simp [Fr]⟩
 |x::xs,L,met,hm=>by
  have un:qC bE (nl (x::xs)) (met.map D.bl)=(bE [.int x,.lst (met.map D.bl)]).bind fun p=>match p.1 with
   | .sh (.bl b)=>if p.2.all scal then(qC bE (nl xs) p.2).map (b&&·)else none
   |_=>none:=rfl
  rw [un]
  by_cases hx:x<n∧x∉L
  ·have h0:met.getD x false=false:=by rw [hm.at' _ hx.1];exact eC hx.2
   obtain⟨b,h1,h2⟩:=ux xs (L++[x]) (met.set x true) (hm.more hx.1)
   rw [eZ (by rw [hm.len];exact hx.1) h0]
   refine⟨b,?_,?_⟩
   ·show(if((met.set x true).map D.bl).all scal then(qC bE (nl xs) ((met.set x true).map D.bl)).map (true&&·)else none)=_
    rw [aF (ck _),h1];simp
   ·rw [h2,ix]
    exact⟨fun z=>⟨hx,z⟩,fun z=>z.2⟩
  ·have h0:met.length≤x∨met.getD x false=true:=by
    rcases dS x n with q|q
    ·right
     rw [hm.at' _ q]
     exact de (Classical.byContradiction fun w=>hx ⟨q,w⟩)
    ·left;rw [hm.len];exact q
   obtain⟨b,h1,h2⟩:=ux xs L met hm
   rw [j9 h0]
   refine⟨false,?_,?_⟩
   ·show(if(met.map D.bl).all scal then(qC bE (nl xs) (met.map D.bl)).map (false&&·)else none)=_
    rw [aF (ck _),h1];simp
   ·rw [ix]
    exact⟨(fun z=>by cases z),fun z=>absurd z.1 hx⟩
theorem ud{n:Nat}{xs:List Nat}(hn:n≤1000000)(hl:xs.length≤1000000):∃b,cj [.int n,nD xs]=some (.sh (.bl b))∧(b=true↔(xs.Nodup∧∀x∈xs,x<n)):=by
 obtain⟨b,h1,h2⟩:=ux xs [] (List.replicate n false) (Mk.start n)
 have e1:bL Jq none (.bin .Mult (.lst (.cons (.bl false) .nil)) (.var 0)) [some (.sh (.int n)),some (.sh (nD xs)),none]=some (.ow (((List.replicate n false).map D.bl).map T.sh),[some (.sh (.int n)),some (.sh (nD xs)),none]):=by
  refine bB rfl rfl ?_ (by simp)
  have:sz 1=true:=rfl
  simp [this,fo hn,-List.map_replicate]
 have hc:bG Jq (.not (.isi (.var 1) 2)) (ae [some (.sh (.int n)),some (.sh (nD xs)),none])=some false:=rfl
 refine⟨b,bo (env:=[some (.sh (.int n)),some (.sh (nD xs)),none]) rfl ((aH hc).trans ((aq rfl e1).trans ?_)),?_⟩
 ·have:ex Jq Δ2 none 100 (.retAll 100 2 (.var 1)) [some (.sh (.int n)),some (.sh (nD xs)),some (.ow (((List.replicate n false).map D.bl).map T.sh))]=some (.rt (.sh (.bl b)),[some (.sh (.int n)),some (.sh (nD xs)),none]):=by
   show(unsh (((List.replicate n false).map D.bl).map T.sh)).bind (fun ms=>if ms.all scal&&sz (nl xs).length then(qC bE (nl xs) ms).map _ else none)=_
   rw [ll,obs,aF (by rw [ck,dh (by simpa using hl)];rfl),h1]
   rfl
  rw [aN]
  exact(congrArg (fun q=>qV q _) this).trans rfl
 ·rw [h2]
  simp [Fr]
section
variable(Γ:bu)(env:Env)
@[simp] theorem Nx(a d:E):ev Γ (.mxd a d) env=(ev Γ a env).bind fun x=>(ev Γ d env).bind fun y=>K9 x y:=rfl
@[simp] theorem Ip(a b:E):ev Γ (.ind a b) env=(ev Γ a env).bind fun x=>(ev Γ b env).bind fun y=>BQ x y:=rfl
@[simp] theorem Ot(a:E):ev Γ (.dn a) env=(ev Γ a env).bind (iG .ldn):=rfl
@[simp] theorem Nt(a:E):ev Γ (.rvd a) env=(ev Γ a env).bind uW:=rfl
end
theorem wd(h:∀x∈s,x≤1000):PyData.weightAll ((ci s).map PyData.int)≤1002*s.length:=by
 induction s with
 |nil=>simp [ci,PyData.weightAll]
 |cons x s ih=>
  have a:=ih fun y hy=>h y (lT _ hy)
  have b:=h x (lU ..)
  have c:PyData.weight (.int (x:Int))≤1001:=by
   rw [PyData.weight]
   split
   ·lia
   ·have:=Nat.log2_le_self (x:Int).natAbs
    have e:(x:Int).natAbs=x:=Int.natAbs_natCast x
    rw [e]at this⊢
    lia
  simp only [ci,List.map_cons,PyData.weightAll,List.length_cons]at a⊢
  lia
theorem Ex(h:∀x∈s,x≤1000)(hl:s.length≤1000):PyData.layable0 (.list ((ci s).map .int))=true:=by
 have a:=wd h
 unfold PyData.layable0
 rw [Bool.and_eq_true,Bool.and_eq_true]
 refine⟨⟨?_,?_⟩,?_⟩
 ·simp [PyData.canLay0,m9]
 ·refine de ?_
  simp [PyData.depth,qe]
 ·refine de ?_
  rw [PyData.weight]
  lia
theorem BS(s:List Nat)(k:Nat):(ci s).idxOf (k:Int)=s.idxOf k:=by
 induction s with
 |nil=>rfl
 |cons x s ih=>
  simp only [ci,List.map_cons,List.idxOf_cons]at ih⊢
  rw [ih]
  by_cases e:x=k
  ·subst e;simp
  ·have e1:((x:Int)==(k:Int))=false:=by rw [beq_eq_false_iff_ne];lia
   have e2:(x==k)=false:=by simpa using e
   rw [e1,e2]
theorem BJ{k:Nat}:(k:Int)∈ci s↔k∈s:=by
 unfold ci
 rw [v7]
 constructor
 ·rintro ⟨x,h1,h2⟩
  rw [show k=x by lia];exact h1
 ·intro h;exact⟨k,h,rfl⟩
theorem EH{s:List Nat}{k:Nat}(h:∀x∈s,x≤1000)(hl:s.length≤1000)(hk:k∈s):BQ (nD s) (.int k)=some (.int (s.idxOf k:Nat)):=by
 show(cQ (nl s)).bind _=_
 rw [pC,jJ,obs,Ex h hl,BS]
 rw [aF]
 rw [Bool.true_and]
 exact sH.mpr (BJ.mpr hk)
section
variable{Γ:bu}{Δ:gH}{pio:Option Nat}{n:Nat}{env env2 env3:av}{k:S}
theorem l9(ok:di pio env i=true)(h1:((ae env)[i]?).join=some a)(h2:ev Γ m (ae env)=some b)(h3:j2 op a b=some d):ex Γ Δ pio n (.seq (.aug i op m) k) env=ex Γ Δ pio n k (env.set i (some (.sh d))):=by
 rw [aN,show ex Γ Δ pio n (.aug i op m) env=if di pio env i then(((ae env)[i]?).join).bind fun a=>(ev Γ m (ae env)).bind fun b=>(j2 op a b).map fun d=>(.nx,env.set i (some (.sh d)))else none from rfl,aF ok,h1,obs,h2,obs,h3];rfl
theorem Dp(h1:ev Γ q (ae env)=some (.int z))(h2:bw env i=some ts)(h3:kH ts.length z=some j)(h4:ts[j]?=some t)(h5:ev Γ m (ae env)=some b)(h6:j2 op (strip t) b=some d):ex Γ Δ pio n (.seq (.augS i op q m) k) env=ex Γ Δ pio n k (env.set i (some (.ow (ts.set j (.sh d))))):=by
 rw [aN,show ex Γ Δ pio n (.augS i op q m) env=((ev Γ q (ae env)).bind g7).bind fun z=>(bw env i).bind fun ts=>(kH ts.length z).bind fun j=>(ts[j]?).bind fun t=>(ev Γ m (ae env)).bind fun b=>(j2 op (strip t) b).map fun d=>(.nx,env.set i (some (.ow (ts.set j (.sh d)))))from rfl,h1,h2]
 simp only [obs,je,h3,h4,h5,h6,Option.map_some];rfl
theorem Dq(ho:cm env i=some (c,ks,ts))(hf:cR f (c,ks,ts)=some (j,us))(hz:ev Γ q (ae env)=some (.int z))(hi:kH us.length z=some l)(hu:us[l]?=some t)(hb:ev Γ m (ae env)=some b)(hd:j2 op (strip t) b=some d):
 ex Γ Δ pio n (.seq (.augF i f op q m) k) env=ex Γ Δ pio n k (env.set i (some (.ob c ks (ts.set j (.ow (us.set l (.sh d))))))):=by
 rw [aN,show ex Γ Δ pio n (.augF i f op q m) env=(cm env i).bind fun o=>(cR f o).bind fun ju=>((ev Γ q (ae env)).bind g7).bind fun z=>(kH ju.2.length z).bind fun l=>(ju.2[l]?).bind fun t=>(ev Γ m (ae env)).bind fun b=>(j2 op (strip t) b).map fun d=>(.nx,env.set i (some (.ob o.1 o.2.1 (o.2.2.set ju.1 (.ow (ju.2.set l (.sh d)))))))from rfl,ho]
 simp only [obs,hf,hz,je,hi,hu,hb,hd,Option.map_some];rfl
theorem wC{ts:List T}{ds:List D}(ho:cm env i=some (c,[("counts":Str)],[.ow (ds.map T.sh)]))(hs:ds.all scal=true)(hl:jM Γ args (ae env)=some l)(hls:l.all scal=true)(hg:Δ (jZ c q)=some (0,g))(h:g (.lst ds::l)=some (.sh .non,ds'))(hs':ds'.all scal=true):
 ex Γ Δ pio n (.seq (.mio i q args) k) env=ex Γ Δ pio n k (env.set i (some (.ob c [("counts":Str)] [.ow (ds'.map T.sh)]))):=by
 have hc:xO (c,[("counts":Str)],[T.ow (ds.map T.sh)])=some ds:=by
  unfold xO
  rw [aF rfl]
  show(unsh (ds.map T.sh)).bind _=_
  rw [ll,obs,aF hs]
 rw [aN,show ex Γ Δ pio n (.mio i q args) env=(cm env i).bind fun o=>(xO o).bind fun ds=>(jM Γ args (ae env)).bind fun l=>if l.all scal then(Δ (jZ o.1 q)).bind fun kg=>if kg.1=0 then(kg.2 (.lst ds::l)).bind fun r=>if Ei r.1&&r.2.all scal then some (.nx,env.set i (some (.ob o.1 o.2.1 [.ow (r.2.map T.sh)])))else none else none else none from rfl,ho]
 simp only [obs,hc,hl]
 rw [aF hls,hg]
 simp only [obs,if_true,h]
 rw [aF (by rw [hs'];rfl)];rfl
theorem uQ(ok:di pio env i=true)(h:gJ Γ pio it env=some (l,env2))(hf:forL (fun d e=>ex Γ Δ pio n b (e.set i (some (.sh d)))) l env2=some (.rt t,env3)):ex Γ Δ pio n (.seq (.for1 i it b) k) env=some (.rt t,env3):=by
 rw [aN,t7,aF ok,h,obs,show forL (fun d e=>ex Γ Δ pio n b (e.set i (some (.sh d)))) (l,env2).1 (l,env2).2=_ from hf];rfl
theorem uP(ok:(di pio env i&&di pio env j&&decide (i≠j))=true)(h:gJ Γ pio it env=some (l,env2))(hf:forL (lY fun x y e=>ex Γ Δ pio n b ((e.set i (some (.sh x))).set j (some (.sh y)))) l env2=some (.rt t,env3)):ex Γ Δ pio n (.seq (.for2 i j it b) k) env=some (.rt t,env3):=by
 rw [aN,show ex Γ Δ pio n (.for2 i j it b) env=if di pio env i&&di pio env j&&decide (i≠j)then(gJ Γ pio it env).bind fun r=>forL (lY fun x y e=>ex Γ Δ pio n b ((e.set i (some (.sh x))).set j (some (.sh y)))) r.1 r.2 else none from rfl,aF ok,h,obs,show forL (lY fun x y e=>ex Γ Δ pio n b ((e.set i (some (.sh x))).set j (some (.sh y)))) (l,env2).1 (l,env2).2=_ from hf];rfl
theorem ua(hc:dg m=false)(hf:fresh m=false)(h:ev Γ m (ae env)=some d)(hs:scal d=false)(hz:frz pio env (aX m)=some env2)(h2:ev Γ m (gC env2)=some d):bL Γ pio m env=some (.sh d,env2):=by
 rw [dm hc,h,obs,aK (by rw [hs];exact kQ),aK (by rw [hf];exact kQ),hz,obs,h2];rfl
end
noncomputable def mT(C:List Nat):T:=.ob 5 ["counts"] [nT C]
noncomputable def mD(C:List Nat):D:=.ins 5 ["counts"] [nD C]
@[simp] theorem iW(C:List Nat):strip (mT C)=mD C:=by simp [mT,mD]
@[simp] theorem xw(C:List Nat):xx "counts" (mD C)=some (nD C):=rfl
@[simp] theorem CJ(i:Int):iG .bitl (.int i)=some (.int (Builtin.Int.intBits i:Nat)):=rfl
@[simp] theorem MW(i:Int):dI .RShift (.int i) (.int 1)=some (.int (i/2)):=rfl
theorem Fh:∀n:Nat,n<64→Builtin.Int.intBits (n:Int)≤6∧n<2 ^ Builtin.Int.intBits (n:Int)∧(1≤n→1≤Builtin.Int.intBits (n:Int)):=by decide+kernel
theorem BM:∀e:Nat,e<65→1≤e→Builtin.bitAnd (e:Int) (-(e:Int))=(Bo.lw e:Int):=by decide+kernel
theorem Et:∀e:Nat,e<65→1≤e→Builtin.bitAnd (e:Int) ((e:Int)-1)=((e-Bo.lw e:Nat):Int):=by decide+kernel
theorem uU{a b:Nat}(h:a≤b)(hb:b≤1000000):uT (a:Int) (b:Int)=some (nl (List.range' a (b-a))):=by
 unfold uT
 rw [aF (de (by lia))]
 congr 1
 rw [show((b:Int)-(a:Int)).toNat=b-a by lia,List.range'_eq_map_range,nl,zb]
 refine List.map_congr_left fun x _=> ?_
 simp [Function.comp]
theorem Dt{b:Nat}(h:b≤6):dI .LShift (.int 1) (.int (b:Nat))=some (.int ((2 ^ b:Nat):Int)):=by
 show(if yj 1 (b:Int)then some (D.int (1*2 ^ (b:Int).toNat))else none)=_
 rw [aF (show yj 1 (b:Int)=true from de ⟨by lia,by lia,by decide⟩),v8]
 simp
noncomputable def c0(bs:List Bool)(N:Nat):List Nat:=0::(bs.map fun b=>if b then 1 else 0)++List.replicate (N-bs.length) 0
theorem Ma(h1:1≤k)(h2:k≤N):Bo.ap (c0 bs N) k=if bs.getD (k-1) false then 1 else 0:=by
 obtain⟨j,rfl⟩:∃j,k=j+1:=⟨k-1,by lia⟩
 unfold c0 Bo.ap
 rw [List.cons_append,List.getD_cons_succ,List.getD_eq_getElem?_getD,List.getElem?_append,Nat.add_sub_cancel]
 split
 ·rename_i z
  have z':j<bs.length:=by simpa using z
  simp [z']
 ·rename_i z
  have z':bs.length≤j:=by simpa using z
  rw [List.getElem?_replicate]
  simp [z']
  split<;>rfl
noncomputable def CY(bs:List Bool):Nat→Bool:=fun p=>bs.getD p false
theorem pK{bs:List Bool}(hl:bs.length<64):∃b C,Bo.MK b (CY bs) C∧bs.length<2 ^ b∧(1≤bs.length→1≤b)∧cN [.lst (bs.map D.bl)]=some (mT C):=by
 obtain⟨hb,hlt,hb1⟩:=Fh bs.length hl
 obtain⟨b,hbe⟩:∃b:Nat,Builtin.Int.intBits (bs.length:Int)=b:=⟨_,rfl⟩
 rw [hbe]at hb hlt hb1
 have hp:=Bo.i8 hb
 have e1:bL Γ8 none (.bin .LShift (.int 1) (.un .bitl (.un .len (.var 1)))) [some (.ob 5 [] []),some (.sh (.lst (bs.map D.bl))),none,none]=some (.sh (.int ((2 ^ b:Nat):Int)),[some (.ob 5 [] []),some (.sh (.lst (bs.map D.bl))),none,none]):=by
  refine au rfl ?_ rfl
  simp only [bj,bS,Option.map_some,bh,bU,b6,aE,jj,List.getElem?_cons_succ,List.getElem?_cons_zero,Option.join_some,obs,eu,b9,CJ,hbe,Dt hb]
 have hcomp:∀env:Env,(env[1]?).join=some (.lst (bs.map D.bl))→ev Γ8 (.comp (.ite (.var 0) (.int 1) (.int 0)) [] (.var 1) .nil) env=some (nD (bs.map fun b=>if b then 1 else 0)):=fun env h=>by
  rw [show nD (bs.map fun b=>if b then 1 else 0)=D.lst (bs.map fun b=>D.int ((if b then 1 else 0:Nat):Int)) by simp [nD,nl]]
  refine jO (ds:=bs.map D.bl) (by rw [aE,h]) (by simp;lia) (r6 fun x _=> ?_)
  cases x<;>simp [inner]
 have e2:bL Γ8 none (.bin .Add (.bin .Add (.lst (.cons (.int 0) .nil)) (.comp (.ite (.var 0) (.int 1) (.int 0)) [] (.var 1) .nil)) (.bin .Mult (.lst (.cons (.int 0) .nil)) (.bin .Sub (.var 2) (.un .len (.var 1))))) [some (.ob 5 [] []),some (.sh (.lst (bs.map D.bl))),some (.sh (.int ((2 ^ b:Nat):Int))),none]=some (nT (c0 bs (2 ^ b)),[some (.ob 5 [] []),some (.sh (.lst (bs.map D.bl))),some (.sh (.int ((2 ^ b:Nat):Int))),none]):=by
  refine bB rfl rfl ?_ (aP _)
  have s1:sz 1=true:=rfl
  have hm:dI .Mult (.lst [.int 0]) (.int (((2 ^ b:Nat):Int)-(bs.length:Int)))=some (nD (List.replicate (2 ^ b-bs.length) 0)):=by
   rw [show(((2 ^ b:Nat):Int)-(bs.length:Int))=((2 ^ b-bs.length:Nat):Int) by lia]
   exact mE (by lia)
  have s2:sz (1+bs.length)=true:=dh (by lia)
  have s3:sz (1+bs.length+(2 ^ b-bs.length))=true:=dh (by lia)
  rw [bU,bU,hcomp _ rfl,bU,xC,aR,dE,jj,bU,b6,aE,aE]
  simp only [bj,bS,Option.map_some,bh,List.getElem?_cons_succ,List.getElem?_cons_zero,Option.join_some,obs,eu,b9,b0,x6,List.length_cons,List.length_nil,qO,s1,if_true,wz,hm,nD,xS,bb,s2,s3,dP,v3]
  show some (D.lst (nl [0]++nl _++nl _))=_
  rw [mB,mB]
  rfl
 have e3:gJ Γ8 none (.rng2 (.int 1) (.var 2)) [some (mT (c0 bs (2 ^ b))),some (.sh (.lst (bs.map D.bl))),some (.sh (.int ((2 ^ b:Nat):Int))),none]=some (nl (List.range' 1 (2 ^ b-1)),[some (mT (c0 bs (2 ^ b))),some (.sh (.lst (bs.map D.bl))),some (.sh (.int ((2 ^ b:Nat):Int))),none]):=by
  have:=uU hp.1 (by lia)
  rw [show((1:Nat):Int)=1 from rfl]at this
  simp only [gJ,lD,if_true,az,bj,bS,Option.map_some,bh,yR,jj,aE,List.getElem?_cons_succ,List.getElem?_cons_zero,Option.join_some,obs,uV,this,gM]
 have hlen:(c0 bs (2 ^ b)).length=2 ^ b+1:=by simp [c0];lia
 obtain⟨env',hf,C,x,rfl,hI⟩:=bc (step:=fun d e=>ex Γ8 Δ1 none 100 (.seq (.augF 0 "counts" .Add (.bin .Add (.var 3) (.bin .BitAnd (.var 3) (.un .neg (.var 3)))) (.idx (.fld (.var 0) "counts") (.var 3))) .nop) (e.set 3 (some (.sh d)))) (fun k e=>∃C x,e=[some (mT C),some (.sh (.lst (bs.map D.bl))),some (.sh (.int ((2 ^ b:Nat):Int))),x]∧Bo.InI b (CY bs) (k+1) C) (ds:=nl (List.range' 1 (2 ^ b-1))) (env:=[some (mT (c0 bs (2 ^ b))),some (.sh (.lst (bs.map D.bl))),some (.sh (.int ((2 ^ b:Nat):Int))),none]) ⟨_,_,rfl,Bo.InI.start hb hlen fun k h1 h2=>Ma h1 h2⟩ (fun k d e hd ⟨C,x,he,hI⟩=>by
  subst he
  obtain⟨hk,rfl⟩:=eP hd
  rw [List.length_range']at hk
  have hap:Bo.ap (List.range' 1 (2 ^ b-1)) k=k+1:=by rw [Bo.b7 (by simpa using hk)];simp;lia
  rw [hap]
  have hin:=Bo.FK b (by lia) (k+1) (by lia) (by lia)
  have hlc:=hI.len
  refine⟨_,(Dq (c:=5) (j:=0) (l:=k+1+Bo.lw (k+1)) (z:=((k+1+Bo.lw (k+1):Nat):Int)) (ks:=["counts"]) (ts:=[nT C]) (us:=(nl C).map T.sh) (t:=.sh (.int (Bo.ap C (k+1+Bo.lw (k+1)):Nat))) (b:=.int (Bo.ap C (k+1):Nat)) (d:=.int ((Bo.ap C (k+1+Bo.lw (k+1))+Bo.ap C (k+1):Nat):Int)) rfl rfl ?_ (c8 (by simp;lia)) ?_ ?_ (by simp [j2])).trans rfl,C.set (k+1+Bo.lw (k+1)) (Bo.ap C (k+1+Bo.lw (k+1))+Bo.ap C (k+1)),some (.sh (.int ((k+1:Nat):Int))),?_,hI.step (by lia) (by lia)⟩
  ·have:=BM (k+1) (by lia) (by lia)
   simp only [List.set_cons_succ,List.set_cons_zero,bj,bS,Option.map_some,bh,bU,b6,aE,List.getElem?_cons_succ,List.getElem?_cons_zero,Option.join_some,obs,BD,Ji,this,xT]
   rfl
  ·rw [eK,nl,eK,Bo.fc (by lia)];rfl
  ·have:=gj (r:=C) (i:=k+1) (by lia)
   rw [bZ,xD]
   show(xx "counts" (strip (mT C))).bind _=_
   rw [iW,xw,obs]
   exact this
  ·show [some (T.ob 5 ["counts"] [T.ow (((nl C).map T.sh).set _ (.sh (.int _)))]),_,_,_]=_
   rw [mC]
   rfl)
 rw [bb,List.length_range']at hI
 rw [show 2 ^ b-1+1=2 ^ b by lia]at hI
 refine⟨b,C,hI.done,hlt,hb1,?_⟩
 have e:ex Γ8 Δ1 none 100 cP (oR ["self","flags","many","end"] 5 [.lst (bs.map D.bl)])=some (.nx,[some (mT C),some (.sh (.lst (bs.map D.bl))),some (.sh (.int ((2 ^ b:Nat):Int))),x]):=
  (aq rfl e1).trans ((wD (c:=5) (ks:=[]) (ts:=[]) e2 rfl rfl).trans ((cL rfl e3 hf).trans rfl))
 show gI Γ8 Δ1 100 ["self","flags","many","end"] 5 2 cP [.lst (bs.map D.bl)]=_
 unfold gI
 rw [aF (show [D.lst (bs.map D.bl)].length+1=2 from rfl),e]
 rfl
theorem vR{b p:Nat}{f:Nat→Bool}{C:List Nat}(M:Bo.MK b f C)(hp:p≤2 ^ b):eA [mD C,.int p]=some (.sh (.int (Bo.cS f p:Nat))):=by
 have h64:=Bo.i8 M.le
 have hlc:=M.len
 have e1:bL Γ9 none (.fld (.var 0) "counts") [some (.sh (mD C)),some (.sh (.int p)),none,none,none]=some (.sh (nD C),[some (.sh (mD C)),some (.sh (.int p)),none,none,none]):=ua rfl rfl rfl rfl rfl rfl
 obtain⟨k,env',hw,⟨num,e,rfl,h1,h2,h3⟩,hq⟩:=fw (test:=fun e=>bG Γ9 (.cmp .Gt (.var 4) (.int 0)) (ae e)) (step:=ex Γ9 Δ2 none 100 (.seq (.aug 3 .Add (.idx (.var 2) (.var 4))) (.seq (.asg 4 (.bin .BitAnd (.var 4) (.bin .Sub (.var 4) (.int 1)))) .nop))) (fun k e=>∃num t:Nat,e=[some (.sh (mD C)),some (.sh (.int p)),some (.sh (nD C)),some (.sh (.int num)),some (.sh (.int t))]∧num+Bo.cS f t=Bo.cS f p∧t≤2 ^ b∧k+t≤p) 64 (fun k e ⟨num,t,_,_,_,h⟩=>by lia) (fun k e ⟨num,t,he,h1,h2,h3⟩=>by
  subst he
  rcases Nat.eq_zero_or_pos t with z|z
  ·left
   rw [z];rfl
  ·right
   refine⟨?_,?_⟩
   ·show some (decide ((0:Int)<(t:Int)))=some true
    rw [de (by lia)]
   ·have hm:=M.at' t z h2
    have hl:=(Bo.mF t).1
    refine⟨_,(l9 (a:=.int (num:Nat)) (b:=.int (Bo.ap C t:Nat)) (d:=.int ((num+Bo.ap C t:Nat):Int)) rfl rfl ?_ (by simp [j2])).trans ((aq (t:=.sh (.int ((t-Bo.lw t:Nat):Int))) rfl (au rfl ?_ rfl)).trans rfl),num+Bo.ap C t,t-Bo.lw t,rfl,by lia,by lia,by lia⟩
    ·rw [bZ]
     exact gj (r:=C) (by lia)
    show some (D.int (Builtin.bitAnd (t:Int) ((t:Int)-1)))=_
    rw [Et t (by lia) z]) 100 0 [some (.sh (mD C)),some (.sh (.int p)),some (.sh (nD C)),some (.sh (.int 0)),some (.sh (.int p))] ⟨0,p,rfl,by simp,hp,by lia⟩ (by lia)
 have ht:e=0:=by
  have:some (decide ((0:Int)<(e:Int)))=some false:=hq
  have:=of_decide_eq_false (cC this)
  lia
 subst ht
 have hn:num=Bo.cS f p:=by simpa [Bo.cS]using h1
 subst hn
 exact bo rfl ((aq rfl e1).trans ((aq rfl (jN _ _ _ _)).trans ((aq (t:=.sh (.int p)) rfl (au rfl rfl rfl)).trans ((x9 hw).trans (ec (by simp) rfl)))))
theorem lX(M:Bo.MK b f C)(hp:f p=true)(hlt:p<2 ^ b):∃C',Bo.MK b (Bo.un f p) C'∧ji [nD C,.int p]=some (.sh .non,nl C'):=by
 have h64:=Bo.i8 M.le
 have hlc:=M.len
 obtain⟨k,env',hw,⟨t,C',rfl,U,h2,h3⟩,hq⟩:=fw (test:=fun e=>bG Γ9 (.cmp .Lt (.var 4) (.var 3)) (ae e)) (step:=ex Γ9 Δ1 (some 2) 100 (.seq (.augS 2 .Sub (.var 4) (.int 1)) (.seq (.aug 4 .Add (.bin .BitAnd (.var 4) (.un .neg (.var 4)))) .nop))) (fun k e=>∃(t:Nat) (C':List Nat),e=[none,some (.sh (.int p)),some (nT C'),some (.sh (.int ((2 ^ b+1:Nat):Int))),some (.sh (.int t))]∧Bo.UnI b p C t C'∧k≤65∧(t≤2 ^ b→k≤t)) 65 (fun k e ⟨t,C',_,_,h,_⟩=>h) (fun k e ⟨t,C',he,U,h2,h3⟩=>by
  subst he
  rcases dS (2 ^ b) t with z|z
  ·left
   show some (decide ((t:Int)<((2 ^ b+1:Nat):Int)))=some false
   rw [eC (by lia)]
  ·right
   refine⟨?_,?_⟩
   ·show some (decide ((t:Int)<((2 ^ b+1:Nat):Int)))=some true
    rw [de (by lia)]
   ·have hl:=(Bo.mF t).1
    have hpos:=U.pos M hp z
    have htp:=U.lt
    have hlc':=U.len
    refine⟨_,(Dp (z:=(t:Int)) (j:=t) (ts:=(nl C').map T.sh) (t:=.sh (.int (Bo.ap C' t:Nat))) (b:=.int 1) (d:=.int ((Bo.ap C' t-1:Nat):Int)) rfl rfl (c8 (by simp;lia)) ?_ rfl ?_).trans ((l9 (a:=.int (t:Nat)) (b:=.int (Bo.lw t:Nat)) (d:=.int ((t+Bo.lw t:Nat):Int)) rfl rfl ?_ (by simp [j2])).trans rfl),t+Bo.lw t,C'.set t (Bo.ap C' t-1),?_,U.step M.le M.len z,by have:=h3 z;lia,by have:=h3 z;lia⟩
    ·rw [eK,nl,eK,Bo.fc (by lia)];rfl
    ·show some (D.int ((Bo.ap C' t:Int)-1))=_
     rw [show((Bo.ap C' t:Int)-1)=((Bo.ap C' t-1:Nat):Int) by lia]
    ·show some (D.int (Builtin.bitAnd (t:Int) (-(t:Int))))=_
     rw [BM t (by lia) (by lia)]
    ·show [none,some (.sh (.int p)),some (T.ow (((nl C').map T.sh).set t (.sh (.int ((Bo.ap C' t-1:Nat):Int))))),_,_]=_
     rw [mC]) 100 0 [none,some (.sh (.int p)),some (nT C),some (.sh (.int ((2 ^ b+1:Nat):Int))),some (.sh (.int ((p+1:Nat):Int)))] ⟨p+1,C,rfl,Bo.UnI.start,by lia,by lia⟩ (by lia)
 have ht:2 ^ b<t:=by
  have:some (decide ((t:Int)<((2 ^ b+1:Nat):Int)))=some false:=hq
  have:=of_decide_eq_false (cC this)
  lia
 refine⟨C',U.done M hp ht,?_⟩
 have e1:bL Γ9 (some 2) (.un .len (.var 2)) [none,some (.sh (.int p)),some (nT C),none,none]=some (.sh (.int ((2 ^ b+1:Nat):Int)),[none,some (.sh (.int p)),some (nT C),none,none]):=by
  refine au rfl ?_ rfl
  rw [b6]
  show iG .len (strip (nT C))=_
  rw [bW,nD,eu,bb,hlc]
 exact Lu (env:=[none,some (.sh (.int p)),some (nT C'),some (.sh (.int ((2 ^ b+1:Nat):Int))),some (.sh (.int t))]) rfl ((aq rfl e1).trans ((aq (t:=.sh (.int ((p+1:Nat):Int))) rfl (au rfl rfl rfl)).trans ((x9 hw).trans rfl))) rfl
theorem sk{b num:Nat}{f:Nat→Bool}{C:List Nat}(M:Bo.MK b f C)(hb:1≤b):∃P:Nat,bR [mD C,.int num]=some (.sh (.int (P:Nat)))∧Bo.cS f P≤num∧P+1≤2 ^ b∧(P+1=2 ^ b∨num<Bo.cS f (P+1)):=by
 have h64:=Bo.i8 M.le
 have hlc:=M.len
 have hb6:=M.le
 have half:∀j,j+1≤b→(2 ^ (j+1)+1)/2=2 ^ j∧2 ^ (j+1)/2=2 ^ j:=fun j _=>by rw [Nat.pow_succ];lia
 have e1:bL Dc none (.fld (.var 0) "counts") [some (.sh (mD C)),some (.sh (.int num)),none,none,none,none,none]=some (.sh (nD C),[some (.sh (mD C)),some (.sh (.int num)),none,none,none,none,none]):=ua rfl rfl rfl rfl rfl rfl
 obtain⟨k,env',hw,⟨place,aV,x,rfl,h1,I⟩,hq⟩:=fw (test:=fun e=>bG Dc (.cmp .Gt (.var 5) (.int 0)) (ae e)) (step:=ex Dc Δ2 none 100 (.seq (.asg 6 (.idx (.var 2) (.bin .Add (.var 4) (.var 5)))) (.seq (.ife (.cmp .LtE (.var 6) (.var 3)) (.seq (.aug 3 .Sub (.var 6)) (.seq (.aug 4 .Add (.var 5)) .nop)) .nop) (.seq (.asg 5 (.bin .RShift (.var 5) (.int 1))) .nop)))) (fun k e=>∃(place aV:Nat) (x:Option T),e=[some (.sh (mD C)),some (.sh (.int num)),some (.sh (nD C)),some (.sh (.int aV)),some (.sh (.int place)),some (.sh (.int ((2 ^ (b-k)/2:Nat):Int))),x]∧k≤b∧Bo.PbI b f num (b-k) place aV) 6 (fun k e ⟨_,_,_,_,h,_⟩=>by lia) (fun k e ⟨place,aV,x,he,h1,I⟩=>by
  subst he
  rcases Nat.eq_zero_or_pos (b-k)with z|z
  ·left
   rw [z];rfl
  ·right
   obtain⟨j,hj⟩:∃j,b-k=j+1:=⟨b-k-1,by lia⟩
   rw [hj]at I⊢
   have hh:=(half j (by lia)).2
   rw [hh]
   have h2j:1≤2 ^ j:=Nat.pos_of_ne_zero (by simp)
   have inn:=I.inn
   have hpw:2 ^ (j+1)=2 ^ j+2 ^ j:=by rw [Nat.pow_succ];lia
   refine⟨?_,?_⟩
   ·show some (decide ((0:Int)<((2 ^ j:Nat):Int)))=some true
    rw [de (by lia)]
   ·have st:=I.step M
    have ej:b-(k+1)=j:=by lia
    have hr:∀e:Env,(e[5]?).join=some (.int ((2 ^ j:Nat):Int))→ev Dc (.bin .RShift (.var 5) (.int 1)) e=some (.int ((2 ^ j/2:Nat):Int)):=fun e he=>by
     rw [bU,aE,he]
     show some (D.int (((2 ^ j:Nat):Int)/2))=_
     rw [show(((2 ^ j:Nat):Int)/2)=((2 ^ j/2:Nat):Int) by lia]
    have hi:ev Dc (.idx (.var 2) (.bin .Add (.var 4) (.var 5))) (ae [some (.sh (mD C)),some (.sh (.int num)),some (.sh (nD C)),some (.sh (.int aV)),some (.sh (.int place)),some (.sh (.int ((2 ^ j:Nat):Int))),x])=some (.int (Bo.ap C (place+2 ^ j):Nat)):=by
     have:=gj (r:=C) (i:=place+2 ^ j) (by lia)
     rw [←this]
     show atI (nl C) ((place:Int)+((2 ^ j:Nat):Int))=_
     rw [show((place:Int)+((2 ^ j:Nat):Int))=((place+2 ^ j:Nat):Int) by lia]
    by_cases hc:Bo.ap C (place+2 ^ j)≤aV
    ·rw [aF hc]at st
     refine⟨_,(aq rfl (au rfl hi rfl)).trans ((gR (t:=true) (env2:=[some (.sh (mD C)),some (.sh (.int num)),some (.sh (nD C)),some (.sh (.int ((aV-Bo.ap C (place+2 ^ j):Nat):Int))),some (.sh (.int ((place+2 ^ j:Nat):Int))),some (.sh (.int ((2 ^ j:Nat):Int))),some (.sh (.int (Bo.ap C (place+2 ^ j):Nat)))]) ?_ ?_).trans ((aq (t:=.sh (.int ((2 ^ j/2:Nat):Int))) rfl (au rfl (hr _ rfl) rfl)).trans rfl)),place+2 ^ j,aV-Bo.ap C (place+2 ^ j),some (.sh (.int (Bo.ap C (place+2 ^ j):Nat))),by rw [ej];rfl,by lia,by rw [ej];exact st⟩
     ·show some (decide ((Bo.ap C (place+2 ^ j):Int)≤(aV:Int)))=some true
      rw [de (by lia)]
     ·rw [aF rfl]
      refine(l9 (a:=.int (aV:Nat)) (b:=.int (Bo.ap C (place+2 ^ j):Nat)) (d:=.int ((aV-Bo.ap C (place+2 ^ j):Nat):Int)) rfl rfl rfl ?_).trans ((l9 (a:=.int (place:Nat)) (b:=.int ((2 ^ j:Nat):Int)) (d:=.int ((place+2 ^ j:Nat):Int)) rfl rfl rfl ?_).trans rfl)
      ·show some (D.int ((aV:Int)-(Bo.ap C (place+2 ^ j):Int)))=_
       rw [show((aV:Int)-(Bo.ap C (place+2 ^ j):Int))=((aV-Bo.ap C (place+2 ^ j):Nat):Int) by lia]
      ·show some (D.int ((place:Int)+((2 ^ j:Nat):Int)))=_
       rw [show((place:Int)+((2 ^ j:Nat):Int))=((place+2 ^ j:Nat):Int) by lia]
    ·rw [aK hc]at st
     refine⟨_,(aq rfl (au rfl hi rfl)).trans ((gR (t:=false) ?_ rfl).trans ((aq (t:=.sh (.int ((2 ^ j/2:Nat):Int))) rfl (au rfl (hr _ rfl) rfl)).trans rfl)),place,aV,some (.sh (.int (Bo.ap C (place+2 ^ j):Nat))),by rw [ej];rfl,by lia,by rw [ej];exact st⟩
     show some (decide ((Bo.ap C (place+2 ^ j):Int)≤(aV:Int)))=some false
     rw [eC (by lia)]) 100 0 [some (.sh (mD C)),some (.sh (.int num)),some (.sh (nD C)),some (.sh (.int num)),some (.sh (.int 0)),some (.sh (.int ((2 ^ b/2:Nat):Int))),none] ⟨0,num,none,rfl,by lia,Bo.PbI.start⟩ (by lia)
 have hk:b-k=0:=by
  rcases Nat.eq_zero_or_pos (b-k)with z|z
  ·exact z
  ·exfalso
   have h:some (decide ((0:Int)<((2 ^ (b-k)/2:Nat):Int)))=some false:=hq
   have h:=of_decide_eq_false (cC h)
   obtain⟨j,hj⟩:∃j,b-k=j+1:=⟨b-k-1,by lia⟩
   rw [hj,(half j (by lia)).2]at h
   have h2j:1≤2 ^ j:=Nat.pos_of_ne_zero (by simp)
   lia
 rw [hk]at I hw
 have e2:ev Dc (.bin .RShift (.un .len (.var 2)) (.int 1)) (ae [some (.sh (mD C)),some (.sh (.int num)),some (.sh (nD C)),some (.sh (.int num)),some (.sh (.int 0)),none,none])=some (.int ((2 ^ b/2:Nat):Int)):=by
  obtain⟨j,hj⟩:∃j,b=j+1:=⟨b-1,by lia⟩
  show some (D.int (((nl C).length:Int)/2))=_
  rw [bb,hlc,hj,(half j (by lia)).2,show(((2 ^ (j+1)+1:Nat):Int)/2)=(((2 ^ (j+1)+1)/2:Nat):Int) by lia,(half j (by lia)).1]
 refine⟨place,bo rfl ((aq rfl e1).trans ((aq (t:=.sh (.int num)) rfl (au rfl rfl rfl)).trans ((aq rfl (jN _ _ _ _)).trans ((aq rfl (au rfl e2 rfl)).trans ((x9 hw).trans (ec (by simp) rfl)))))),I.done⟩
theorem dY(r:List Nat):iG .len (nD r)=some (.int r.length):=by rw [nD,eu,bb]
theorem xh(r:List (Nat×Nat)):iG .len (pD r)=some (.int r.length):=by rw [pD,eu,b9]
noncomputable def bT(bs:List Bool):T:=.ow ((bs.map D.bl).map T.sh)
noncomputable def bD(bs:List Bool):D:=.lst (bs.map D.bl)
@[simp] theorem uL(bs:List Bool):strip (bT bs)=bD bs:=by rw [bT,bD,fA,dB]
@[simp] theorem EL(bs:List Bool):bN (bT bs)=true:=by simp [bT]
noncomputable def zT(zs:List Int):T:=.ow ((zs.map D.int).map T.sh)
@[simp] theorem AQ(zs:List Int):strip (zT zs)=iD zs:=by rw [zT,iD,fA,dB]
@[simp] theorem tY(C:List Nat):bN (mT C)=true:=by simp [mT,bN,iz,nT,p0];simp [nl]
theorem Gn(zs:List Int)(i:Nat)(v:Int):T.ow (((zs.map D.int).map T.sh).set i (.sh (.int v)))=zT (zs.set i v):=by simp [zT,List.map_set]
theorem CL(bs:List Bool)(i:Nat)(v:Bool):T.ow (((bs.map D.bl).map T.sh).set i (.sh (.bl v)))=bT (bs.set i v):=by simp [bT,List.map_set]
inductive Runs(step:D→av→Option (Fl×av)):List D→av→av→Prop where
 |nil (e:av):Runs step [] e e
 |cons {d:D} {l:List D} {e e1 e2:av}:step d e=some (.nx,e1)→Runs step l e1 e2→Runs step (d::l) e e2
theorem Runs.snoc{step:D→av→Option (Fl×av)}{l:List D}{d:D}{e e1 e2:av}(h:Runs step l e e1)(h2:step d e1=some (.nx,e2)):Runs step (l++[d]) e e2:=by
 induction h with
 |nil e=>exact .cons h2 (.nil _)
 |cons h _ ih=>exact .cons h (ih h2)
theorem Runs.forL{step:D→av→Option (Fl×av)}{l:List D}{e e1:av}(h:Runs step l e e1):forL step l e=some (.nx,e1):=by
 induction h with
 |nil e=>rfl
 | @cons d l e e1 e2 h _ ih=>
   show(step d e).bind _=_
   rw [h]
   exact ih
theorem zP(hn:n≤1000000)(h:∀m∈ms,m.1<n):∃bs,Mk n (ms.map (·.1)) bs∧eQ [.int n,pD ms]=some (bT bs):=by
 have e1:bL Jr none (.bin .Mult (.lst (.cons (.bl false) .nil)) (.var 0)) [some (.sh (.int n)),some (.sh (pD ms)),none,none,none]=some (bT (List.replicate n false),[some (.sh (.int n)),some (.sh (pD ms)),none,none,none]):=by
  refine bB rfl rfl ?_ (by simp)
  have:sz 1=true:=rfl
  simp [this,fo hn,-List.map_replicate]
 obtain⟨env',hf,bs,x,y,rfl,hm⟩:=bc (step:=lY fun x y e=>ex Jr Δ2 none 100 (.seq (.set 2 (.var 3) (.bl true)) .nop) ((e.set 3 (some (.sh x))).set 4 (some (.sh y)))) (fun k e=>∃bs x y,e=[some (.sh (.int n)),some (.sh (pD ms)),some (bT bs),x,y]∧Mk n ((ms.take k).map (·.1)) bs) (ds:=ms.map pd) (env:=[some (.sh (.int n)),some (.sh (pD ms)),some (bT (List.replicate n false)),none,none]) ⟨_,_,_,rfl,Mk.start n⟩ (fun k d e hd ⟨bs,x,y,he,hm⟩=>by
  subst he
  obtain⟨p,hp,rfl⟩:=yr hd
  have hlt:=h p (uD hp)
  refine⟨_,(kq (d:=.bl true) (z:=(p.1:Nat)) (j:=p.1) (ts:=(bs.map D.bl).map T.sh) rfl rfl rfl rfl (c8 (by simp [hm.len,hlt]))).trans rfl,bs.set p.1 true,some (.sh (.int p.1)),some (.sh (.int p.2)),?_,?_⟩
  ·show [_,_,some (T.ow (((bs.map D.bl).map T.sh).set p.1 (.sh (.bl true)))),_,_]=_
   rw [CL]
  ·rw [List.take_succ,hp,oI]
   exact hm.more hlt)
 rw [b9,List.take_length]at hm
 exact⟨bs,hm,bo rfl ((aq rfl e1).trans ((gd rfl (show gJ Jr none (.var 1) _=some (ms.map pd,_)from rfl) hf).trans (ec (by simp) rfl)))⟩
theorem Ac(h:(dG 0 (nl l))[k]?=some d):k<l.length∧d=.tup [.int k,.int (Bo.ap l k:Nat)]:=by
 obtain⟨z,hz,rfl⟩:=g9 h
 obtain⟨hk,rfl⟩:=eP hz
 exact⟨hk,by rw [qO]⟩
noncomputable def xX(zs:List Int)(i:Nat):Int:=zs.getD i 0
theorem Ig{zs:List Int}{i:Nat}(h:i<zs.length):atI (zs.map D.int) (i:Int)=some (.int (xX zs i)):=lP (by simp [xX,h])
theorem xW{zs:List Int}(h:i<zs.length):xX (zs.set i v) k=if k=i then v else xX zs k:=by
 unfold xX
 rw [List.getD_eq_getElem?_getD,List.getD_eq_getElem?_getD,List.getElem?_set]
 by_cases e:i=k
 ·rw [aF e,aF e.symm,aF h];rfl
 ·rw [aK e,aK (fun z=>e z.symm)]
theorem AU{wa:List Int}{wb:List Nat}{A:Nat→Nat}(hl:wa.length=wb.length)(h:∀t,t<wb.length→xX wa t<(A (t+1):Int)∧A t≤Bo.ap wb t∧A t≤A (t+1)):cH [iD wa,nD wb]=some (.sh (.bl true)):=by
 have hx:gJ xV none (.enm (.var 1)) [some (.sh (iD wa)),some (.sh (nD wb)),some (.sh (.int (-1))),none,none]=some (dG 0 (nl wb),[some (.sh (iD wa)),some (.sh (nD wb)),some (.sh (.int (-1))),none,none]):=rfl
 obtain⟨env',hf,z,x,y,rfl,_⟩:=bc (step:=lY fun x y e=>ex xV Δ2 none 100 (.seq (.ife (.cmp .LtE (.var 4) (.var 2)) (.seq (.ret (.bl false)) .nop) .nop) (.seq (.asg 2 (.mx (.var 2) (.idx (.var 0) (.var 3)))) .nop)) ((e.set 3 (some (.sh x))).set 4 (some (.sh y)))) (fun k e=>∃(z:Int) (x y:Option T),e=[some (.sh (iD wa)),some (.sh (nD wb)),some (.sh (.int z)),x,y]∧z<(A k:Int)) (ds:=dG 0 (nl wb)) (env:=[some (.sh (iD wa)),some (.sh (nD wb)),some (.sh (.int (-1))),none,none]) ⟨-1,_,_,rfl,by lia⟩ (fun k d e hd ⟨z,x,y,he,hz⟩=>by
  subst he
  obtain⟨hk,rfl⟩:=Ac hd
  obtain⟨h1,h2,h3⟩:=h k hk
  refine⟨_,(aH ?_).trans ((aq (t:=.sh (.int (if xX wa k>z then xX wa k else z))) rfl (au rfl ?_ rfl)).trans rfl),if xX wa k>z then xX wa k else z,some (.sh (.int k)),some (.sh (.int (Bo.ap wb k:Nat))),rfl,?_⟩
  ·show some (decide ((Bo.ap wb k:Int)≤z))=some false
   rw [eC (by lia)]
  ·rw [Ce,bZ]
   show(atI (wa.map D.int) (k:Int)).bind (wX (.int z))=_
   rw [Ig (by lia)];rfl
  ·split<;>lia)
 exact bo rfl ((aq (t:=.sh (.int (-1))) rfl (au rfl rfl rfl)).trans ((gd rfl hx hf).trans (bX (by simp) (qd _ _ _ _))))
theorem zi{wb:List Nat}(hl:2≤wb.length)(h:Bo.ap wb 1≤Bo.ap wb 0):cH [nD wb,nD wb]=some (.sh (.bl false)):=by
 obtain⟨a,b,l,rfl⟩:∃a b l,wb=a::b::l:=by
  match wb,hl with
  |a::b::l,_=>exact⟨a,b,l,rfl⟩
 have h:b≤a:=h
 have hx:gJ xV none (.enm (.var 1)) [some (.sh (nD (a::b::l))),some (.sh (nD (a::b::l))),some (.sh (.int (-1))),none,none]=some (dG 0 (nl (a::b::l)),[some (.sh (nD (a::b::l))),some (.sh (nD (a::b::l))),some (.sh (.int (-1))),none,none]):=rfl
 refine BZ rfl ?_
 have hs:ex xV Δ2 none 100 fU (bC ["waiting_ahead","waiting_behind","furthest","thing","place"] [nD (a::b::l),nD (a::b::l)])=some (.rt (.sh (.bl false)),[some (.sh (nD (a::b::l))),some (.sh (nD (a::b::l))),some (.sh (.int a)),some (.sh (.int 1)),some (.sh (.int b))]):=by
  refine(aq (t:=.sh (.int (-1))) rfl (au rfl rfl rfl)).trans ?_
  have e1:decide ((a:Int)≤-1)=false:=eC (by lia)
  have e2:decide ((b:Int)≤(a:Int))=true:=de (by lia)
  have e3:(if(a:Int)>-1 then(a:Int)else-1)=a:=aF (by lia)
  have a0:bG xV (.cmp .LtE (.var 4) (.var 2)) (ae [some (.sh (nD (a::b::l))),some (.sh (nD (a::b::l))),some (.sh (.int (-1))),some (.sh (.int 0)),some (.sh (.int a))])=some false:=by
   show some (decide ((a:Int)≤-1))=_
   rw [e1]
  have a1:bL xV none (.mx (.var 2) (.idx (.var 0) (.var 3))) [some (.sh (nD (a::b::l))),some (.sh (nD (a::b::l))),some (.sh (.int (-1))),some (.sh (.int 0)),some (.sh (.int a))]=some (.sh (.int a),[some (.sh (nD (a::b::l))),some (.sh (nD (a::b::l))),some (.sh (.int (-1))),some (.sh (.int 0)),some (.sh (.int a))]):=by
   refine au rfl ?_ rfl
   rw [Ce,bZ]
   show(atI (nl (a::b::l)) ((0:Nat):Int)).bind (wX (.int (-1)))=_
   rw [gj (by simp)]
   show some (D.int (if(a:Int)>-1 then(a:Int)else-1))=_
   rw [e3]
  have a2:bG xV (.cmp .LtE (.var 4) (.var 2)) (ae [some (.sh (nD (a::b::l))),some (.sh (nD (a::b::l))),some (.sh (.int a)),some (.sh (.int 1)),some (.sh (.int b))])=some true:=by
   show some (decide ((b:Int)≤(a:Int)))=_
   rw [e2]
  have s0:ex xV Δ2 none 100 (.seq (.ife (.cmp .LtE (.var 4) (.var 2)) (.seq (.ret (.bl false)) .nop) .nop) (.seq (.asg 2 (.mx (.var 2) (.idx (.var 0) (.var 3)))) .nop)) [some (.sh (nD (a::b::l))),some (.sh (nD (a::b::l))),some (.sh (.int (-1))),some (.sh (.int 0)),some (.sh (.int a))]=some (.nx,[some (.sh (nD (a::b::l))),some (.sh (nD (a::b::l))),some (.sh (.int a)),some (.sh (.int 0)),some (.sh (.int a))]):=(aH a0).trans ((aq rfl a1).trans rfl)
  have s1:ex xV Δ2 none 100 (.seq (.ife (.cmp .LtE (.var 4) (.var 2)) (.seq (.ret (.bl false)) .nop) .nop) (.seq (.asg 2 (.mx (.var 2) (.idx (.var 0) (.var 3)))) .nop)) [some (.sh (nD (a::b::l))),some (.sh (nD (a::b::l))),some (.sh (.int a)),some (.sh (.int 1)),some (.sh (.int b))]=some (.rt (.sh (.bl false)),[some (.sh (nD (a::b::l))),some (.sh (nD (a::b::l))),some (.sh (.int a)),some (.sh (.int 1)),some (.sh (.int b))]):=by
   rw [aN,eT,a2];rfl
  refine uP rfl hx ?_
  show(ex xV Δ2 none 100 _ [some (.sh (nD (a::b::l))),some (.sh (nD (a::b::l))),some (.sh (.int (-1))),some (.sh (.int 0)),some (.sh (.int a))]).bind _=_
  rw [s0,obs]
  show(ex xV Δ2 none 100 _ [some (.sh (nD (a::b::l))),some (.sh (nD (a::b::l))),some (.sh (.int a)),some (.sh (.int 1)),some (.sh (.int b))]).bind _=_
  rw [s1,obs]
 rw [hs];rfl
theorem tJ:∀ {t x:Nat},x∈(Bo.cu r lf t).map (·.1)↔x<t∧lf x=false
 |0,x=>by simp [Bo.cu]
 |t+1,x=>by
  have ih:=tJ (r:=r) (lf:=lf) (t:=t) (x:=x)
  rw [Bo.cu]
  cases hl:lf t with
  |true=>
   rw [aF rfl,ih]
   constructor
   ·rintro ⟨h1,h2⟩;exact⟨by lia,h2⟩
   ·rintro ⟨h1,h2⟩
    refine⟨?_,h2⟩
    rcases dS x t with z|z
    ·exact z
    ·rw [show x=t by lia,hl]at h2;cases h2
  |false=>
   rw [aK kQ,oI,fv,ih]
   simp only [List.map_cons,List.map_nil,nJ]
   constructor
   ·rintro (⟨h1,h2⟩|h)
    ·exact⟨by lia,h2⟩
    ·rw [h];exact⟨by lia,hl⟩
   ·rintro ⟨h1,h2⟩
    rcases dS x t with z|z
    ·exact .inl ⟨z,h2⟩
    ·exact .inr (by lia)
theorem pG{r:List Nat}(hm:Mk r.length ((Bo.cu r lf r.length).map (·.1)) bs):CY bs=Bo.wT lf r.length 0:=by
 funext x
 unfold CY Bo.wT
 rcases dS x r.length with z|z
 ·rw [hm.at' x z,de z]
  have:=tJ (r:=r) (lf:=lf) (t:=r.length) (x:=x)
  cases hl:lf x with
  |true=>rw [eC (fun q=>by have:=(this.mp q).2;rw [hl]at this;cases this)];rfl
  |false=>rw [de (this.mpr ⟨z,hl⟩)];simp
 ·rw [eC (by lia)]
  have:bs.length≤x:=by rw [hm.len];exact z
  simp [this]
theorem pH{lf:Nat→Bool}{bs:List Bool}(hr:Bo.aw r)(hb:∀x,x<r.length→bs.getD x false= !lf x):CY (r.map fun x=>bs.getD x false)=Bo.wt r lf 0:=by
 funext p
 unfold CY Bo.wt
 rcases dS p r.length with z|z
 ·rw [de z,←hb _ (hr.lt z)]
  rw [List.getD_eq_getElem?_getD,eK,Bo.fc z]
  simp
 ·rw [eC (by lia),List.getD_eq_getElem?_getD,List.getElem?_eq_none (by simpa using z)];rfl
noncomputable abbrev Of:S:=.seq (.aug 8 .Sub (.int 1))
 (.seq (.mio 6 1 (.cons (.var 9) .nil))
 (.seq (.mio 7 1 (.cons (.idx (.var 2) (.var 9)) .nil))
 (.seq (.asg 11 (.bin .Sub (.var 9) (.meth (.var 6) 2 (.cons (.var 9) .nil))))
 (.seq (.asg 12 (.bin .Sub (.var 10) (.var 11)))
 (.seq (.ife (.not (.ch .LtE .LtE (.int 0) (.var 12) (.var 8)))
 (.seq (.ret (.bl false))
 .nop) .nop)
 (.seq (.set 3 (.var 9) (.ite (.cmp .Gt (.var 12) (.int 0)) (.meth (.var 7) 3 (.cons (.bin .Sub (.var 12) (.int 1)) .nil)) (.un .neg (.int 1))))
 (.seq (.set 4 (.var 9) (.meth (.var 7) 3 (.cons (.var 12) .nil)))
 .nop)))))))
structure PBI(r:List Nat)(lf:Nat→Bool)(t b b':Nat)(C1 C2:List Nat)(wa:List Int)(wb:List Nat):Prop where
 m1:Bo.MK b (Bo.wT lf r.length t) C1
 m2:Bo.MK b' (Bo.wt r lf t) C2
 la:wa.length=r.length
 lb:wb.length=r.length
 at':∀x,x<r.length→(lf x=true→xX wa x=(r.idxOf x:Int)∧Bo.ap wb x=r.idxOf x)∧(lf x=false→x<t→xX wa x<(Bo.aL r lf x:Int)∧Bo.aL r lf x≤Bo.ap wb x)
noncomputable abbrev pE(r:List Nat)(ms:List (Nat×Nat))(bs:Option T)(wa:List Int)(wb C1 C2:List Nat)(w:Nat)(x y z u:Option T):av:=
 [some (.sh (nD r)),some (.sh (pD ms)),some (nT (Bo.bk r)),some (zT wa),some (nT wb),bs,some (mT C1),some (mT C2),some (.sh (.int w)),x,y,z,u]
theorem Em{Γ:bu}(hq:(["counts"]:List Str).contains (uB.getD q "")=false)(h:Γ (jZ 5 q)=some g):tK Γ q (mD C)=some g:=by
 show(if(["counts"]:List Str).contains (uB.getD q "")then none else Γ (jZ 5 q))=_
 rw [hq];exact h
theorem Ea{t:Nat}(R:Bo.Ri r lf)(ht:t<r.length)(hl:lf t=false)(hb1:1≤b')(hbr:r.length<2 ^ b)(hbr':r.length<2 ^ b')(P:PBI r lf t b b' C1 C2 wa wb)(hw:Bo.cS (Bo.wt r lf (t+1)) r.length≤w):
 ∃C1' C2' wa' wb' z' u',ex jR Δ2 none 100 Of (((pE r ms bs wa wb C1 C2 (w+1) x y z u).set 9 (some (.sh (.int (t:Nat))))).set 10 (some (.sh (.int ((t+Bo.cS (Bo.wt r lf (t+1)) (Bo.aL r lf t-1):Nat):Int)))))=some (.nx,pE r ms bs wa' wb' C1' C2' w (some (.sh (.int (t:Nat)))) (some (.sh (.int ((t+Bo.cS (Bo.wt r lf (t+1)) (Bo.aL r lf t-1):Nat):Int)))) z' u')∧PBI r lf (t+1) b b' C1' C2' wa' wb':=by
 have hrow:=R.row
 have hi:=Bo.fO hrow ht
 have hal:=Bo.qE (lf:=lf) hrow (t:=t) (by lia)
 obtain⟨C1',M1,g1⟩:=lX (p:=t) P.m1 (by unfold Bo.wT;rw [de ht,hl];simp) (by lia)
 obtain⟨C2',M2,g2⟩:=lX (p:=r.idxOf t) P.m2 (Bo.Av hrow ht hl) (by lia)
 rw [←Bo.Ax]at M1
 rw [←Bo.oK hrow ht hl]at M2
 obtain⟨n,hn⟩:∃n,Bo.cS (Bo.wt r lf (t+1)) (Bo.aL r lf t-1)=n:=⟨_,rfl⟩
 have hnw:n≤w:=by
  have:=Bo.lN (Bo.wt r lf (t+1)) (show Bo.aL r lf t-1≤r.length by lia)
  lia
 rw [hn]
 obtain⟨Pb,q1,q2,q3,q4⟩:=sk (num:=n) M2 hb1
 have a0:=vR (p:=t) M1 (by lia)
 rw [Bo.Dd]at a0
 obtain⟨A,hA,hA2⟩:∃A:Int,(∀e:Env,(e[7]?).join=some (mD C2')→(e[12]?).join=some (.int (n:Nat))→ev jR (.ite (.cmp .Gt (.var 12) (.int 0)) (.meth (.var 7) 3 (.cons (.bin .Sub (.var 12) (.int 1)) .nil)) (.un .neg (.int 1))) e=some (.int A))∧A<(Bo.aL r lf t:Int):=by
  rcases Nat.eq_zero_or_pos n with z|z
  ·refine⟨-1,fun e h7 h12=> ?_,by lia⟩
   rw [Cf,cv,aE,h12,z];rfl
  ·obtain⟨Pa,p1,p2,p3,p4⟩:=sk (num:=n-1) M2 hb1
   refine⟨Pa,fun e h7 h12=> ?_,?_⟩
   ·have hm:=Em (Γ:=jR) (q:=3) (C:=C2') rfl (show jR (jZ 5 3)=some bR from rfl)
    have hc:(n:Int)-1=((n-1:Nat):Int):=by lia
    have hd:decide ((0:Int)<(n:Int))=true:=de (by lia)
    rw [Cf,cv,oz,aR,bU,aE,aE,h7,h12,jj,jj,dE]
    simp only [obs,Ls,hd,fe,if_true,hm,wz,hc,b0,bY,p1,Option.map_some,bh]
   ·have:Pa<Bo.aL r lf t-1:=by
     rcases dS Pa (Bo.aL r lf t-1)with q|q
     ·exact q
     ·have:=Bo.lN (Bo.wt r lf (t+1)) q
      lia
    lia
 have hB:Bo.aL r lf t≤Pb:=by
  rcases Nat.eq_zero_or_pos (Bo.aL r lf t)with z|z
  ·lia
  ·have h0:Bo.wt r lf (t+1) (Bo.aL r lf t-1)=false:=by
    unfold Bo.wt
    have key:∀s,s≤r.length→0<Bo.aL r lf s→lf (Bo.ap r (Bo.aL r lf s-1))=true:=fun s=>by
     induction s with
     |zero=>intro _ h;exact absurd h (by simp [Bo.aL])
     |succ s ih=>
      intro hs h
      rw [Bo.aL]at h⊢
      cases hls:lf s with
      |true=>rw [aF rfl,Nat.add_sub_cancel,Bo.qA hrow (by lia)];exact hls
      |false=>rw [hls,aK kQ]at h;rw [aK kQ];exact ih (by lia) h
    rw [key t (by lia) z];simp
   have h1:Bo.cS (Bo.wt r lf (t+1)) (Bo.aL r lf t)=n:=by
    obtain⟨a,ha⟩:∃a,Bo.aL r lf t=a+1:=⟨Bo.aL r lf t-1,by lia⟩
    rw [ha,Nat.add_sub_cancel]at h0 hn
    rw [ha,Bo.cS,h0,hn];rfl
   rcases q4 with q|q
   ·lia
   ·rcases dS Pb (Bo.aL r lf t)with v|v
    ·have:=Bo.lN (Bo.wt r lf (t+1)) (show Pb+1≤Bo.aL r lf t by lia)
     lia
    ·exact v
 refine⟨C1',C2',wa.set t A,wb.set t Pb,some (.sh (.int (t:Nat))),some (.sh (.int (n:Nat))),?_,M1,M2,by simp [P.la],by simp [P.lb],fun x hx=>⟨fun hlx=> ?_,fun hlx hxt=> ?_⟩⟩
 ·have hla:=P.la
  have hlb:=P.lb
  refine(l9 (a:=.int ((w+1:Nat):Int)) (b:=.int 1) (d:=.int (w:Nat)) rfl rfl rfl ?_).trans ?_
  ·show some (D.int (((w+1:Nat):Int)-1))=_
   rw [show(((w+1:Nat):Int)-1)=(w:Int) by lia]
  refine(wC (c:=5) (ds:=nl C1) (ds':=nl C1') (l:=[.int (t:Nat)]) (ts:=[]) rfl (aP _) rfl rfl rfl g1 (aP _)).trans ?_
  have ib:∀e:Env,(e[2]?).join=some (nD (Bo.bk r))→(e[9]?).join=some (.int (t:Nat))→ev jR (.idx (.var 2) (.var 9)) e=some (.int (r.idxOf t:Nat)):=fun e h2 h9=>by
   have:=gj (r:=Bo.bk r) (i:=t) (by rw [Bo.cO];exact ht)
   rw [Bo.ap_bk ht]at this
   rw [bZ,aE,aE,h2,h9]
   exact this
  refine(wC (c:=5) (ds:=nl C2) (ds':=nl C2') (l:=[.int (r.idxOf t:Nat)]) (ts:=[]) rfl (aP _) ?_ rfl rfl g2 (aP _)).trans ?_
  ·show((ev jR (.cons (.idx (.var 2) (.var 9)) .nil) _).bind bx)=_
   rw [aR,ib _ (by simp) (by simp)]
   rfl
  have hm:=Em (Γ:=jR) (q:=2) (C:=C1') rfl (show jR (jZ 5 2)=some eA from rfl)
  refine(aq (t:=.sh (.int (t:Nat))) rfl (au rfl ?_ rfl)).trans ?_
  ·rw [bU,oz]
   show((tK jR 2 (strip (mT C1'))).bind (fun g=>(some [D.int (t:Nat)]).bind fun l=>(g (strip (mT C1')::l)).map strip)).bind (dI .Sub (.int (t:Nat)))=_
   rw [iW,hm,obs,obs,a0]
   show some (D.int ((t:Int)-0))=_
   rw [Int.sub_zero]
  refine(aq (t:=.sh (.int (n:Nat))) rfl (au rfl ?_ rfl)).trans ?_
  ·show some (D.int (((t+n:Nat):Int)-(t:Int)))=_
   rw [show(((t+n:Nat):Int)-(t:Int))=(n:Int) by lia]
  refine(aH ?_).trans ?_
  ·show((pW (.bl (decide ((0:Int)≤(n:Int)))) (some (.bl (decide ((n:Int)≤(w:Int))))) (some (.bl false))).bind wU).bind cT=_
   rw [de (by lia),de (by lia)];rfl
  refine(kq (d:=.int A) (z:=(t:Nat)) (j:=t) (ts:=(wa.map D.int).map T.sh) ?_ rfl rfl rfl (c8 (by simp;lia))).trans ?_
  ·exact hA _ (congrArg some (iW C2')) rfl
  have hm3:=Em (Γ:=jR) (q:=3) (C:=C2') rfl (show jR (jZ 5 3)=some bR from rfl)
  refine(kq (d:=.int (Pb:Nat)) (z:=(t:Nat)) (j:=t) (ts:=(nl wb).map T.sh) ?_ rfl rfl rfl (c8 (by simp;lia))).trans ?_
  ·rw [oz]
   show(tK jR 3 (strip (mT C2'))).bind (fun g=>(some [D.int (n:Nat)]).bind fun l=>(g (strip (mT C2')::l)).map strip)=_
   rw [iW,hm3,obs,obs,q1];rfl
  ·rw [Gn,mC];rfl
 ·have hne:x≠t:=fun e=>by rw [e,hl]at hlx;cases hlx
  have:=(P.at' x hx).1 hlx
  rw [xW (by rw [P.la];exact ht),aK hne,Bo.iE (by rw [P.lb];exact ht),aK hne]
  exact this
 ·rw [xW (by rw [P.la];exact ht),Bo.iE (by rw [P.lb];exact ht)]
  by_cases e:x=t
  ·rw [aF e,aF e,e];exact⟨hA2,hB⟩
  ·rw [aK e,aK e];exact(P.at' x hx).2 hlx (by lia)
noncomputable abbrev OO:D→av→Option (Fl×av):=lY fun x y e=>ex jR Δ2 none 100 Of ((e.set 9 (some (.sh x))).set 10 (some (.sh y)))
theorem yt(R:Bo.Ri r lf)(hb1:1≤r.length→1≤b')(hbr:r.length<2 ^ b)(hbr':r.length<2 ^ b')(P:PBI r lf 0 b b' C1 C2 wa wb)(N:Nat)(hN:N=(Bo.cu r lf r.length).length):
 ∀t,t≤r.length→∃C1' C2' wa' wb' x y z u,Runs OO ((Bo.cu r lf t).map pd) (pE r ms bs wa wb C1 C2 N none none none none) (pE r ms bs wa' wb' C1' C2' (N-(Bo.cu r lf t).length) x y z u)∧PBI r lf t b b' C1' C2' wa' wb'
 |0,_=>⟨C1,C2,wa,wb,none,none,none,none,.nil _,P⟩
 |t+1,ht=>by
  obtain⟨C1',C2',wa',wb',x,y,z,u,h1,h2⟩:=yt R hb1 hbr hbr' P N hN t (by lia)
  cases hl:lf t with
  |true=>
   have e:Bo.cu r lf (t+1)=Bo.cu r lf t:=by rw [Bo.cu,aF hl]
   rw [e]
   refine⟨C1',C2',wa',wb',x,y,z,u,h1,?_,?_,h2.la,h2.lb,fun x hx=>⟨(h2.at' x hx).1,fun q hxt=> ?_⟩⟩
   ·rw [Bo.De hl];exact h2.m1
   ·rw [Bo.sO hl];exact h2.m2
   ·have:x≠t:=fun e=>by rw [e,hl]at q;cases q
    exact(h2.at' x hx).2 q (by lia)
  |false=>
   have e:Bo.cu r lf (t+1)=Bo.cu r lf t++[(t,t+Bo.cS (Bo.wt r lf (t+1)) (Bo.aL r lf t-1))]:=by rw [Bo.cu,aK (by rw [hl];exact kQ)]
   have hm:=Bo.pF (lf:=lf) R.row (t:=t+1) ht
   rw [e,dP,uF]at hm
   obtain⟨w,hw⟩:∃w,N-(Bo.cu r lf t).length=w+1:=⟨N-(Bo.cu r lf t).length-1,by lia⟩
   rw [hw]at h1
   obtain⟨C1'',C2'',wa'',wb'',z',u',h3,h4⟩:=Ea (ms:=ms) (bs:=bs) (x:=x) (y:=y) (z:=z) (u:=u) (w:=w) R ht hl (hb1 (by lia)) hbr hbr' h2 (by lia)
   refine⟨C1'',C2'',wa'',wb'',some (.sh (.int (t:Nat))),some (.sh (.int ((t+Bo.cS (Bo.wt r lf (t+1)) (Bo.aL r lf t-1):Nat):Int))),z',u',?_,h4⟩
   rw [e,oI,dP,uF,show N-((Bo.cu r lf t).length+1)=w by lia]
   exact h1.snoc h3
theorem xg(h:((ae env)[i]?).join=some (nD r)):bL Γ none (.un .list (.var i)) env=some (nT r,env):=bB rfl rfl (by rw [b6,aE,h];rfl) (aP _)
theorem yy(r:List Nat):nT r=zT (ci r):=by rw [nT,zT,pC]
theorem Mh{r:List Nat}(h:i<r.length):xX (ci r) i=(Bo.ap r i:Int):=by
 unfold xX ci
 rw [List.getD_eq_getElem?_getD,eK,Bo.fc h];rfl
theorem u6(hs:Bo.aw s)(hl:s.length<64)(hm:∀m∈ms,m.1<s.length):∃bs b b' C1 C2,Mk s.length (ms.map (·.1)) bs∧Bo.MK b (CY bs) C1∧Bo.MK b' (CY (s.map fun x=>bs.getD x false)) C2∧s.length<2 ^ b∧s.length<2 ^ b'∧(1≤s.length→1≤b')∧
 ∀k:S,ex jR Δ2 none 100 (.seq (.asg 2 (.call 8 (.cons (.var 0) .nil))) (.seq (.asg 3 (.un .list (.var 2))) (.seq (.asg 4 (.un .list (.var 2))) (.seq (.asg 5 (.call 26 (.cons (.un .len (.var 0)) (.cons (.var 1) .nil)))) (.seq (.asg 6 (.call 85 (.cons (.var 5) .nil))) (.seq (.asg 7 (.call 85 (.cons (.comp (.idx (.var 1) (.var 0)) [5] (.var 0) .nil) .nil))) (.seq (.asg 8 (.un .len (.var 1))) k))))))) [some (.sh (nD s)),some (.sh (pD ms)),none,none,none,none,none,none,none,none,none,none,none]=ex jR Δ2 none 100 k (pE s ms (some (bT bs)) (ci (Bo.bk s)) (Bo.bk s) C1 C2 ms.length none none none none):=by
 obtain⟨bs,hb,g1⟩:=zP (n:=s.length) (ms:=ms) (by lia) hm
 obtain⟨b,C1,M1,l1,_,g2⟩:=pK (bs:=bs) (by rw [hb.len];exact hl)
 obtain⟨b',C2,M2,l2,l3,g3⟩:=pK (bs:=s.map fun x=>bs.getD x false) (by rw [b9];exact hl)
 rw [hb.len]at l1
 rw [b9]at l2 l3
 refine⟨bs,b,b',C1,C2,hb,M1,M2,l1,l2,l3,fun k=> ?_⟩
 have w8:jR 8=some g8:=rfl
 have w26:jR 26=some eQ:=rfl
 have w85:jR 85=some cN:=rfl
 refine(aq rfl (aW w8 rfl (kS hs (by lia)) (oy _))).trans ?_
 refine(aq rfl (xg (r:=Bo.bk s) (by simp))).trans ?_
 refine(aq rfl (xg (r:=Bo.bk s) (by simp))).trans ?_
 refine(aq (t:=bT bs) rfl (aW w26 (l:=[.int s.length,pD ms]) ?_ g1 (EL _))).trans ?_
 ·show((ev jR (.cons (.un .len (.var 0)) (.cons (.var 1) .nil)) _).bind bx)=_
  rw [aR,b6,aR,aE,aE]
  show(((iG .len (nD s)).bind _).bind bx)=_
  rw [dY];rfl
 refine(aq (t:=mT C1) rfl (aW w85 (l:=[bD bs]) ?_ g2 (tY _))).trans ?_
 ·show((ev jR (.cons (.var 5) .nil) _).bind bx)=_
  rw [aR,aE]
  show(((some (strip (bT bs))).bind _).bind bx)=_
  rw [uL];rfl
 refine(aq (t:=mT C2) rfl (aW w85 (l:=[bD (s.map fun x=>bs.getD x false)]) ?_ g3 (tY _))).trans ?_
 ·have hc:∀env:Env,(env[0]?).join=some (nD s)→(env[5]?).join=some (bD bs)→ev jR (.comp (.idx (.var 1) (.var 0)) [5] (.var 0) .nil) env=some (bD (s.map fun x=>bs.getD x false)):=fun env h0 h5=>by
   rw [show bD (s.map fun x=>bs.getD x false)=D.lst (s.map fun x=>D.bl (bs.getD x false)) by rw [bD,zb];rfl]
   refine jO (ds:=nl s) (by rw [aE,h0];rfl) (by simp;lia) (vG fun x hx=> ?_)
   have hx':=hs.mem.mp hx
   have:=vN (m:=bs) (i:=x) (by rw [hb.len];exact hx')
   have h5':inner env [5] (.int (x:Nat))=[some (.int (x:Nat)),some (bD bs)]:=by
    simp only [inner,List.map_cons,List.map_nil,h5]
   rw [bZ,aE,aE,h5']
   show(atI (bs.map D.bl) (x:Int)).map some=_
   rw [this];rfl
  show((ev jR (.cons (.comp (.idx (.var 1) (.var 0)) [5] (.var 0) .nil) .nil) _).bind bx)=_
  rw [aR,hc _ (by simp) (by simp)];rfl
 refine(aq (t:=.sh (.int ms.length)) rfl (au rfl ?_ rfl)).trans ?_
 ·rw [b6,aE]
  show iG .len (pD ms)=_
  rw [xh]
 ·rw [yy (Bo.bk s)]
  show ex jR Δ2 none 100 k [some (.sh (nD s)),some (.sh (pD ms)),some (zT (ci (Bo.bk s))),some (zT (ci (Bo.bk s))),some (zT (ci (Bo.bk s))),some (bT bs),some (mT C1),some (mT C2),some (.sh (.int ms.length)),none,none,none,none]=_
  rw [←yy (Bo.bk s)]
  show _=ex jR Δ2 none 100 k [some (.sh (nD s)),some (.sh (pD ms)),some (nT (Bo.bk s)),some (zT (ci (Bo.bk s))),some (nT (Bo.bk s)),some (bT bs),some (mT C1),some (mT C2),some (.sh (.int ms.length)),none,none,none,none]
  rw [yy (Bo.bk s)]
theorem KU(R:Bo.Ri r lf)(hl:r.length<64):bJ [nD r,pD (Bo.cu r lf r.length)]=some (.sh (.bl true)):=by
 have hrow:=R.row
 obtain⟨bs,b,b',C1,C2,hb,M1,M2,l1,l2,l3,hst⟩:=u6 (ms:=Bo.cu r lf r.length) hrow hl (fun m hm=>(R.mem (dr _) m hm).1)
 have hbs:∀x,x<r.length→bs.getD x false= !lf x:=fun x hx=>by
  have:=congrFun (pG hb) x
  unfold CY Bo.wT at this
  rw [this,de hx];simp
 rw [pG hb]at M1
 rw [pH hrow hbs]at M2
 obtain⟨C1',C2',wa',wb',x,y,z,u,h1,P⟩:=yt (ms:=Bo.cu r lf r.length) (bs:=some (bT bs)) (wa:=ci (Bo.bk r)) (wb:=Bo.bk r) R l3 l1 l2 ⟨M1,M2,by simp [ci,Bo.cO],Bo.cO r,fun x hx=>⟨fun _=>by rw [Mh (by rw [Bo.cO];exact hx),Bo.ap_bk hx];exact⟨rfl,rfl⟩,fun _ h=>by lia⟩⟩ _ rfl r.length (dr _)
 rw [Nat.sub_self]at h1
 have hs:=AU (wa:=wa') (wb:=wb') (A:=Bo.aL r lf) (by rw [P.la,P.lb]) (fun t ht=>by
  rw [P.lb]at ht
  have hm:=R.uy (show t≤t+1 by lia) ht
  cases hlt:lf t with
  |true=>
   obtain⟨e1,e2⟩:=(P.at' t ht).1 hlt
   have:=R.y9 (dr t) ht hlt
   have e3:Bo.aL r lf (t+1)=r.idxOf t+1:=by rw [Bo.aL,aF hlt]
   exact⟨by lia,by lia,hm⟩
  |false=>
   obtain⟨e1,e2⟩:=(P.at' t ht).2 hlt ht
   have e3:Bo.aL r lf (t+1)=Bo.aL r lf t:=by rw [Bo.aL,aK (by rw [hlt];exact kQ)]
   exact⟨by lia,by lia,hm⟩)
 have w25:jR 25=some cH:=rfl
 refine bo (env:=_) rfl ((hst _).trans ((gd rfl (show gJ jR none (.var 1) _=some ((Bo.cu r lf r.length).map pd,_)from rfl) h1.forL).trans (bX (by simp) (aW w25 (l:=[iD wa',nD wb']) ?_ hs rfl))))
 show((ev jR (.cons (.var 3) (.cons (.var 4) .nil)) _).bind bx)=_
 rw [aR,aR,aE,aE]
 show((some (strip (zT wa'))).bind fun a=>((some (strip (nT wb'))).bind fun b=>(some (D.lst [])).bind fun y=>m8 b y).bind fun y=>m8 a y).bind bx=_
 rw [AQ,bW];rfl
theorem Eb(hs:Bo.aw s)(hl:s.length<64)(h2:2≤s.length)(h:s.idxOf 1≤s.idxOf 0):bJ [nD s,pD []]=some (.sh (.bl false)):=by
 obtain⟨bs,b,b',C1,C2,hb,M1,M2,l1,l2,l3,hst⟩:=u6 (ms:=[]) hs hl (fun m hm=>by simp at hm)
 have hb2:=zi (wb:=Bo.bk s) (by rw [Bo.cO];exact h2) (by rw [Bo.ap_bk (by lia),Bo.ap_bk (by lia)];exact h)
 have w25:jR 25=some cH:=rfl
 refine bo (env:=_) rfl ((hst _).trans ((gd rfl (show gJ jR none (.var 1) _=some (([]:List (Nat×Nat)).map pd,_)from rfl) rfl).trans (bX (by simp) (aW w25 (l:=[nD (Bo.bk s),nD (Bo.bk s)]) ?_ hb2 rfl))))
 show((ev jR (.cons (.var 3) (.cons (.var 4) .nil)) _).bind bx)=_
 rw [aR,aR,aE,aE]
 show((some (strip (zT (ci (Bo.bk s))))).bind fun a=>((some (strip (nT (Bo.bk s)))).bind fun b=>(some (D.lst [])).bind fun y=>m8 b y).bind fun y=>m8 a y).bind bx=_
 rw [←yy,bW];rfl
theorem B7{L:List Nat}(hl:L.length≤64)(hr:∀i j,i<j→j<L.length→Bo.ap L i<Bo.ap L j):∃k,k≤L.length∧(∀i,i<k→Bo.ap L i<t)∧(∀i,k≤i→i<L.length→t≤Bo.ap L i)∧eR [nD L,.int t]=some (.sh (.int (k:Nat))):=by
 obtain⟨k,env',hw,⟨lo,hi,x,rfl,h1,h2,h3,h4,h5⟩,hq⟩:=fw (test:=fun e=>bG Gi (.cmp .Lt (.var 2) (.var 3)) (ae e)) (step:=ex Gi Δ2 none 100 (.seq (.asg 4 (.bin .FloorDiv (.bin .Add (.var 2) (.var 3)) (.int 2))) (.seq (.ife (.cmp .Lt (.idx (.var 0) (.var 4)) (.var 1)) (.seq (.asg 2 (.bin .Add (.var 4) (.int 1))) .nop) (.seq (.asg 3 (.var 4)) .nop)) .nop))) (fun k e=>∃(lo hi:Nat) (x:Option T),e=[some (.sh (nD L)),some (.sh (.int t)),some (.sh (.int lo)),some (.sh (.int hi)),x]∧lo≤hi∧hi≤L.length∧k+(hi-lo)≤L.length∧(∀i,i<lo→Bo.ap L i<t)∧∀i,hi≤i→i<L.length→t≤Bo.ap L i) 64 (fun k e ⟨lo,hi,x,_,_,_,h,_⟩=>by lia) (fun k e ⟨lo,hi,x,he,h1,h2,h3,h4,h5⟩=>by
  subst he
  rcases dS lo hi with z|z
  ·right
   refine⟨?_,?_⟩
   ·show some (decide ((lo:Int)<(hi:Int)))=some true
    rw [de (by lia)]
   ·have hm:(lo+hi)/2<hi∧lo≤(lo+hi)/2:=by lia
    obtain⟨m,em⟩:∃m,(lo+hi)/2=m:=⟨_,rfl⟩
    rw [em]at hm
    have e1:ev Gi (.bin .FloorDiv (.bin .Add (.var 2) (.var 3)) (.int 2)) (ae [some (.sh (nD L)),some (.sh (.int t)),some (.sh (.int lo)),some (.sh (.int hi)),x])=some (.int (m:Nat)):=by
     show some (D.int (((lo:Int)+(hi:Int))/2))=_
     rw [show((lo:Int)+(hi:Int))/2=(m:Int) by lia]
    have e2:bG Gi (.cmp .Lt (.idx (.var 0) (.var 4)) (.var 1)) (ae [some (.sh (nD L)),some (.sh (.int t)),some (.sh (.int lo)),some (.sh (.int hi)),some (.sh (.int (m:Nat)))])=some (decide ((Bo.ap L m:Int)<(t:Int))):=by
     rw [bG,cv,bZ]
     show((atI (nl L) (m:Int)).bind fun x=>bV .Lt x (.int t)).bind cT=_
     rw [gj (by lia)];rfl
    by_cases hc:Bo.ap L m<t
    ·rw [de (by lia)]at e2
     refine⟨_,(aq rfl (au rfl e1 rfl)).trans ((gR (t:=true) e2 ?_).trans rfl),m+1,hi,some (.sh (.int (m:Nat))),rfl,by lia,h2,by lia,fun i hi'=> ?_,h5⟩
     ·rw [aF rfl]
      exact(aq (t:=.sh (.int ((m+1:Nat):Int))) rfl (au rfl rfl rfl)).trans rfl
     ·rcases dS i m with q|q
      ·have:=hr i m q (by lia);lia
      ·rw [show i=m by lia];exact hc
    ·rw [eC (by lia)]at e2
     refine⟨_,(aq rfl (au rfl e1 rfl)).trans ((gR (t:=false) e2 ?_).trans rfl),lo,m,some (.sh (.int (m:Nat))),rfl,by lia,by lia,by lia,h4,fun i hi' hil=> ?_⟩
     ·rw [aK kQ]
      exact(aq (t:=.sh (.int (m:Nat))) rfl (au rfl rfl rfl)).trans rfl
     ·rcases dS m i with q|q
      ·have:=hr m i q hil;lia
      ·rw [show i=m by lia];lia
  ·left
   show some (decide ((lo:Int)<(hi:Int)))=some false
   rw [eC (by lia)]) 100 0 [some (.sh (nD L)),some (.sh (.int t)),some (.sh (.int 0)),some (.sh (.int L.length)),none] ⟨0,L.length,none,rfl,by lia,by lia,by lia,fun i h=>by lia,fun i h1 h2=>by lia⟩ (by lia)
 have he:lo=hi:=by
  have:some (decide ((lo:Int)<(hi:Int)))=some false:=hq
  have:=of_decide_eq_false (cC this)
  lia
 subst he
 refine⟨lo,h2,h4,h5,bo rfl ((aq rfl (jN _ _ _ _)).trans ((aq (t:=.sh (.int L.length)) rfl (au rfl ?_ rfl)).trans ((x9 hw).trans (ec (by simp) rfl))))⟩
 rw [b6,aE]
 exact dY L
theorem Ek(F:List (List Nat))(f:List Nat):T.ow (F.map nT++[nT f])=kG (F++[f]):=by simp [kG]
theorem Ej{F:List (List Nat)}{k t:Nat}:T.ow ((F.map nT).set k (.ow ((nl (Bo.fl F k)).map T.sh++[.sh (.int t)])))=kG (F.set k (Bo.fl F k++[t])):=by
 rw [kG,List.map_set]
 congr 2
 simp [nT,nl]
theorem fN(F:List (List Nat)):(Bo.iu F).length=F.length:=by simp [Bo.iu]
theorem B8(hr:Bo.aw r)(hl:r.length≤63):∃F,Bo.Fs r F∧F.length≤r.length∧kL [nD r]=some (kG F):=by
 have w39:CV 39=some eR:=rfl
 obtain⟨env',hf,F,x,y,rfl,hA,hlen⟩:=bc (step:=fun d e=>ex CV Δ2 none 100 (.seq (.asg 4 (.call 39 (.cons (.var 2) (.cons (.var 3) .nil)))) (.seq (.ife (.cmp .Eq (.var 4) (.un .len (.var 1))) (.seq (.app 1 (.lst (.cons (.var 3) .nil))) (.seq (.app 2 (.var 3)) .nop)) (.seq (.appAt 1 (.var 4) (.var 3)) (.seq (.set 2 (.var 4) (.var 3)) .nop))) .nop)) (e.set 3 (some (.sh d)))) (fun k e=>∃F x y,e=[some (.sh (nD r)),some (kG F),some (nT (Bo.iu F)),x,y]∧Bo.Fa r k F∧F.length≤k) (ds:=nl r) (env:=[some (.sh (nD r)),some (.ow []),some (.ow []),none,none]) ⟨[],none,none,rfl,Bo.Fa.start,dr _⟩ (fun j d e hd ⟨F,x,y,he,A,hlen⟩=>by
  subst he
  obtain⟨hj,rfl⟩:=eP hd
  obtain⟨k,k1,k2,k3,g⟩:=B7 (L:=Bo.iu F) (t:=Bo.ap r j) (by rw [fN];lia) (fun a b hab hb=>A.rise a b hab (by rwa [fN]at hb))
  rw [fN]at k1 k3
  have e1:bL CV none (.call 39 (.cons (.var 2) (.cons (.var 3) .nil))) [some (.sh (nD r)),some (kG F),some (nT (Bo.iu F)),some (.sh (.int (Bo.ap r j:Nat))),y]=some (.sh (.int (k:Nat)),[some (.sh (nD r)),some (kG F),some (nT (Bo.iu F)),some (.sh (.int (Bo.ap r j:Nat))),y]):=by
   refine aW w39 (l:=[nD (Bo.iu F),.int (Bo.ap r j:Nat)]) ?_ g rfl
   show((ev CV (.cons (.var 2) (.cons (.var 3) .nil)) _).bind bx)=_
   rw [aR,aR,aE,aE]
   show((some (strip (nT (Bo.iu F)))).bind _).bind bx=_
   rw [bW];rfl
  have e2:bG CV (.cmp .Eq (.var 4) (.un .len (.var 1))) (ae [some (.sh (nD r)),some (kG F),some (nT (Bo.iu F)),some (.sh (.int (Bo.ap r j:Nat))),some (.sh (.int (k:Nat)))])=some (decide (k=F.length)):=by
   rw [bG,cv,b6]
   show(((iG .len (strip (kG F)))).bind fun y=>bV .Eq (.int (k:Nat)) y).bind cT=_
   rw [rl,bq,eu,b9,obs,vB,vA]
   show some (decide ((k:Int)=(F.length:Int)))=_
   rw [decide_eq_decide.mpr (show(k:Int)=(F.length:Int)↔k=F.length by lia)]
  have ne:∀i,i<F.length→Bo.ap (Bo.iu F) i≠Bo.ap r j:=fun i hi=>A.HC hr hj hi
  by_cases hk:k=F.length
  ·rw [de hk]at e2
   have e3:bL CV none (.lst (.cons (.var 3) .nil)) [some (.sh (nD r)),some (kG F),some (nT (Bo.iu F)),some (.sh (.int (Bo.ap r j:Nat))),some (.sh (.int (k:Nat)))]=some (nT [Bo.ap r j],[some (.sh (nD r)),some (kG F),some (nT (Bo.iu F)),some (.sh (.int (Bo.ap r j:Nat))),some (.sh (.int (k:Nat)))]):=bB rfl rfl rfl (aP [Bo.ap r j])
   refine⟨[some (.sh (nD r)),some (kG (F++[[Bo.ap r j]])),some (nT (Bo.iu (F++[[Bo.ap r j]]))),some (.sh (.int (Bo.ap r j:Nat))),some (.sh (.int (k:Nat)))],(aq rfl e1).trans ((gR (t:=true) e2 ?_).trans rfl),F++[[Bo.ap r j]],_,_,rfl,A.app hr hj fun i hi=>k2 i (by lia),by simp;lia⟩
   rw [aF rfl]
   refine(AX (ts:=F.map nT) e3 rfl (dh (by simp;lia))).trans ((AX (t:=.sh (.int (Bo.ap r j:Nat))) (ts:=(nl (Bo.iu F)).map T.sh) (au rfl rfl rfl) rfl (dh (by simp [fN];lia))).trans ?_)
   rw [Ek]
   have:T.ow ((nl (Bo.iu F)).map T.sh++[.sh (.int (Bo.ap r j:Nat))])=nT (Bo.iu (F++[[Bo.ap r j]])):=by
    simp [nT,nl,Bo.iu,Bo.la]
   rw [this];rfl
  ·rw [eC hk]at e2
   have hk':k<F.length:=by lia
   refine⟨[some (.sh (nD r)),some (kG (F.set k (Bo.fl F k++[Bo.ap r j]))),some (nT (Bo.iu (F.set k (Bo.fl F k++[Bo.ap r j])))),some (.sh (.int (Bo.ap r j:Nat))),some (.sh (.int (k:Nat)))],(aq rfl e1).trans ((gR (t:=false) e2 ?_).trans rfl),F.set k (Bo.fl F k++[Bo.ap r j]),_,_,rfl,A.put hr hj hk' k2 fun i h1 h2=>by
    have:=k3 i h1 h2;have:=ne i h2;lia,by simp;lia⟩
   rw [aK kQ]
   have hfl:(Bo.fl F k).length≤1000000:=by
    have h1:=A.perm.length_eq
    rw [kU]at h1
    have:(Bo.fl F k).length≤F.flatten.length:=(List.sublist_flatten_of_mem (Bo.iA hk')).length_le
    lia
   refine(AW (d:=.int (Bo.ap r j:Nat)) (z:=(k:Nat)) (j:=k) (ts:=F.map nT) (us:=(nl (Bo.fl F k)).map T.sh) rfl rfl (c8 (by simpa using hk')) ?_ rfl rfl (dh (by simpa using hfl))).trans ?_
   ·rw [eK,jV hk',←Bo.yP hk'];rfl
   rw [Ej]
   refine(kq (d:=.int (Bo.ap r j:Nat)) (z:=(k:Nat)) (j:=k) (ts:=(nl (Bo.iu F)).map T.sh) rfl rfl rfl rfl (c8 (by simpa [fN]using hk'))).trans ?_
   rw [mC,Bo.yD,Bo.yE];rfl)
 rw [bb]at hA hlen
 exact⟨F,hA.done hr,hlen,bo rfl ((aq rfl (lI _ _ _)).trans ((aq rfl (lI _ _ _)).trans ((cL rfl (show gJ CV none (.var 0) _=some (nl r,_)from rfl) hf).trans (ec (by simp) rfl))))⟩
theorem Ad{F:List (List Nat)}(h:(dG 0 (F.map nD))[k]?=some d):k<F.length∧d=.tup [.int k,nD (Bo.fl F k)]:=by
 obtain⟨z,hz,rfl⟩:=g9 h
 obtain⟨g,hg,rfl⟩:=yz hz
 have hk:=(j4.mp hg).1
 refine⟨hk,?_⟩
 rw [qO,Bo.yP hk,(j4.mp hg).2]
theorem zO(h:j<(Bo.fl F i).length):Bo.ap (Bo.fl F i) j∈Bo.fl F i:=Bo.gG h
theorem z9(A:Bo.Fs r F)(hk:k<F.length){e0 e1:Option T}{t:List Nat}(ht:t.length=r.length):
 ∃t' x',forL (fun d e=>ex xU Δ2 none 100 (.seq (.set 2 (.var 5) (.var 3)) .nop) (e.set 5 (some (.sh d)))) (nl (Bo.fl F k)) [some (.sh (nD r)),some (.sh (bq F)),some (nT t),some (.sh (.int k)),some (.sh (nD (Bo.fl F k))),x,none,none]=some (.nx,[some (.sh (nD r)),some (.sh (bq F)),some (nT t'),some (.sh (.int k)),some (.sh (nD (Bo.fl F k))),x',none,none])∧t'.length=r.length∧∀y,Bo.ap t' y=if y∈Bo.fl F k then k else Bo.ap t y:=by
 obtain⟨env',hf,t',x',rfl,hl,hat⟩:=bc (step:=fun d e=>ex xU Δ2 none 100 (.seq (.set 2 (.var 5) (.var 3)) .nop) (e.set 5 (some (.sh d)))) (fun j e=>∃t' x',e=[some (.sh (nD r)),some (.sh (bq F)),some (nT t'),some (.sh (.int k)),some (.sh (nD (Bo.fl F k))),x',none,none]∧t'.length=r.length∧∀y,Bo.ap t' y=if y∈(Bo.fl F k).take j then k else Bo.ap t y) (ds:=nl (Bo.fl F k)) (env:=[some (.sh (nD r)),some (.sh (bq F)),some (nT t),some (.sh (.int k)),some (.sh (nD (Bo.fl F k))),x,none,none]) ⟨t,x,rfl,ht,fun y=>by simp⟩ (fun j d e hd ⟨t',x',he,hl,hat⟩=>by
  subst he
  obtain⟨hj,rfl⟩:=eP hd
  have hlt:=A.FQ k _ (zO hj)
  refine⟨_,(kq (d:=.int k) (z:=(Bo.ap (Bo.fl F k) j:Nat)) (j:=Bo.ap (Bo.fl F k) j) (ts:=(nl t').map T.sh) rfl rfl rfl rfl (c8 (by simp;lia))).trans rfl,t'.set (Bo.ap (Bo.fl F k) j) k,some (.sh (.int (Bo.ap (Bo.fl F k) j:Nat))),?_,by simp [hl],fun y=> ?_⟩
  ·show [_,_,some (T.ow (((nl t').map T.sh).set (Bo.ap (Bo.fl F k) j) (.sh (.int k)))),_,_,_,_,_]=_
   rw [mC]
  ·rw [Bo.iE (by lia),hat y,Bo.lZ hj]
   by_cases e:y=Bo.ap (Bo.fl F k) j
   ·rw [aF e,aF (by rw [e];simp)]
   ·rw [aK e]
    have:y∈(Bo.fl F k).take j++[Bo.ap (Bo.fl F k) j]↔y∈(Bo.fl F k).take j:=by simp [e]
    simp only [this])
 rw [bb,List.take_length]at hat
 exact⟨t',x',hf,hl,hat⟩
theorem zm(hr:Bo.aw r)(hl:r.length≤63)(A:Bo.Fs r F)(hF:F.length≤r.length):∃C lef,Bo.RI r F 0 0 C∧Mk r.length C.reverse lef∧pX [nD r,bq F]=some (bT lef):=by
 have e1:bL xU none (.bin .Mult (.lst (.cons (.int 0) .nil)) (.un .len (.var 0))) [some (.sh (nD r)),some (.sh (bq F)),none,none,none,none,none,none]=some (nT (List.replicate r.length 0),[some (.sh (nD r)),some (.sh (bq F)),none,none,none,none,none,none]):=by
  refine bB rfl rfl ?_ (aP _)
  have:sz 1=true:=rfl
  simp [nD,this]
  exact mE (by lia)
 obtain⟨env',hf,t,x,y,z,rfl,ht,hat⟩:=bc (step:=lY fun x y e=>ex xU Δ2 none 100 (.seq (.for1 5 (.var 4) (.seq (.set 2 (.var 5) (.var 3)) .nop)) .nop) ((e.set 3 (some (.sh x))).set 4 (some (.sh y)))) (fun k e=>∃t x y z,e=[some (.sh (nD r)),some (.sh (bq F)),some (nT t),x,y,z,none,none]∧t.length=r.length∧∀i,i<k→∀y∈Bo.fl F i,Bo.ap t y=i) (ds:=dG 0 (F.map nD)) (env:=[some (.sh (nD r)),some (.sh (bq F)),some (nT (List.replicate r.length 0)),none,none,none,none,none]) ⟨_,none,none,none,rfl,by simp,fun i h=>by lia⟩ (fun k d e hd ⟨t,x,y,z,he,ht,hat⟩=>by
  subst he
  obtain⟨hk,rfl⟩:=Ad hd
  obtain⟨t',x',h1,h2,h3⟩:=z9 (e0:=none) (e1:=none) A hk ht (x:=z)
  refine⟨_,(cL rfl (show gJ xU none (.var 4) _=some (nl (Bo.fl F k),_)from rfl) h1).trans rfl,t',_,_,x',rfl,h2,fun i hi y hy=> ?_⟩
  rw [h3 y]
  by_cases e:i=k
  ·rw [aF (by rw [←e];exact hy),e]
  ·rw [aK (fun q=>e (A.uniq hy q))];exact hat i (by lia) y hy)
 rw [e7,b9]at hat
 have hfo:∀x,x<r.length→x∈Bo.fl F (Bo.ap t x):=fun x hx=>by
  have:x∈F.flatten:=A.perm.mem_iff.mpr (kY.mpr hx)
  obtain⟨f,hf,hxf⟩:=List.mem_flatten.mp this
  obtain⟨i,hi,rfl⟩:=Bo.HG hf
  rw [hat i hi x hxf];exact hxf
 have e2:bL xU none (.bin .Mult (.lst (.cons (.bl false) .nil)) (.un .len (.var 0))) [some (.sh (nD r)),some (.sh (bq F)),some (nT t),x,y,z,none,none]=some (bT (List.replicate r.length false),[some (.sh (nD r)),some (.sh (bq F)),some (nT t),x,y,z,none,none]):=by
  refine bB rfl rfl ?_ (by simp)
  have:sz 1=true:=rfl
  simp only [bj,Option.map_some,bh,bU,xC,aR,LJ,dE,b6,aE,List.getElem?_cons_zero,Option.join_some,obs,dY,b0,x6,List.length_cons,List.length_nil,qO,this,if_true,fo (show r.length≤1000000 by lia)]
 have e3:bL xU none (.bin .Sub (.un .len (.var 1)) (.int 1)) [some (.sh (nD r)),some (.sh (bq F)),some (nT t),x,y,z,some (bT (List.replicate r.length false)),none]=some (.sh (.int ((F.length:Int)-1)),[some (.sh (nD r)),some (.sh (bq F)),some (nT t),x,y,z,some (bT (List.replicate r.length false)),none]):=by
  refine au rfl ?_ rfl
  rw [bU,b6]
  show((iG .len (bq F)).bind fun x=>dI .Sub x (.int 1))=_
  rw [bq,eu,b9];rfl
 have hx5:gJ xU none (.rvd (.var 0)) [some (.sh (nD r)),some (.sh (bq F)),some (nT t),x,y,z,some (bT (List.replicate r.length false)),some (.sh (.int ((F.length:Int)-1)))]=some (nl r.reverse,[some (.sh (nD r)),some (.sh (bq F)),some (nT t),x,y,z,some (bT (List.replicate r.length false)),some (.sh (.int ((F.length:Int)-1)))]):=by
  rw [←Ba];rfl
 obtain⟨env',hf2,z',lef,w,C,rfl,hI,hM⟩:=bc (step:=fun d e=>ex xU Δ2 none 100 (.seq (.ife (.cmp .Eq (.idx (.var 2) (.var 5)) (.var 7)) (.seq (.set 6 (.var 5) (.bl true)) (.seq (.aug 7 .Sub (.int 1)) .nop)) .nop) .nop) (e.set 5 (some (.sh d)))) (fun k e=>∃(z':Option T) (lef:List Bool) (w:Nat) (C:List Nat),e=[some (.sh (nD r)),some (.sh (bq F)),some (nT t),x,y,z',some (bT lef),some (.sh (.int ((w:Int)-1)))]∧Bo.RI r F (r.length-k) w C∧Mk r.length C.reverse lef) (ds:=nl r.reverse) (env:=[some (.sh (nD r)),some (.sh (bq F)),some (nT t),x,y,z,some (bT (List.replicate r.length false)),some (.sh (.int ((F.length:Int)-1)))]) ⟨z,_,F.length,[],rfl,Bo.RI.start,Mk.start _⟩ (fun k d e hd ⟨z',lef,w,C,he,hI,hM⟩=>by
  subst he
  obtain⟨hk,rfl⟩:=eP hd
  rw [v5]at hk
  have hap:Bo.ap r.reverse k=Bo.ap r (r.length-(k+1)):=by
   rw [Bo.b7 (by simpa using hk),List.getElem_reverse,Bo.b7 (by lia)]
   congr 1
   lia
  rw [hap]
  obtain⟨q,hq⟩:∃q,r.length-(k+1)=q:=⟨_,rfl⟩
  rw [hq]
  rw [show r.length-k=q+1 by lia]at hI
  have hqr:q<r.length:=by lia
  have hv:=hr.lt hqr
  have e4:bG xU (.cmp .Eq (.idx (.var 2) (.var 5)) (.var 7)) (ae [some (.sh (nD r)),some (.sh (bq F)),some (nT t),x,y,some (.sh (.int (Bo.ap r q:Nat))),some (bT lef),some (.sh (.int ((w:Int)-1)))])=some (decide (w=Bo.ap t (Bo.ap r q)+1)):=by
   rw [bG,cv,bZ]
   show((tT (strip (nT t)) (.int (Bo.ap r q:Nat))).bind fun x=>bV .Eq x (.int ((w:Int)-1))).bind cT=_
   rw [bW,nD,yJ,gj (by lia),obs,vB,vA]
   show some (decide ((Bo.ap t (Bo.ap r q):Int)=(w:Int)-1))=_
   rw [decide_eq_decide.mpr (show(Bo.ap t (Bo.ap r q):Int)=(w:Int)-1↔w=Bo.ap t (Bo.ap r q)+1 by lia)]
  have hin:=hfo _ hv
  by_cases hc:w=Bo.ap t (Bo.ap r q)+1
  ·rw [de hc]at e4
   subst hc
   refine⟨[some (.sh (nD r)),some (.sh (bq F)),some (nT t),x,y,some (.sh (.int (Bo.ap r q:Nat))),some (bT (lef.set (Bo.ap r q) true)),some (.sh (.int ((Bo.ap t (Bo.ap r q):Int)-1)))],(gR (t:=true) e4 ?_).trans rfl,_,_,Bo.ap t (Bo.ap r q),Bo.ap r q::C,rfl,hI.take hr A hqr hin,?_⟩
   ·rw [aF rfl]
    refine(kq (d:=.bl true) (z:=(Bo.ap r q:Nat)) (j:=Bo.ap r q) (ts:=(lef.map D.bl).map T.sh) rfl rfl rfl rfl (c8 (by simp [hM.len,hv]))).trans ?_
    rw [CL]
    refine(l9 (a:=.int (((Bo.ap t (Bo.ap r q)+1:Nat):Int)-1)) (b:=.int 1) (d:=.int ((Bo.ap t (Bo.ap r q):Int)-1)) rfl rfl rfl ?_).trans rfl
    show some (D.int ((((Bo.ap t (Bo.ap r q)+1:Nat):Int)-1)-1))=_
    rw [show((((Bo.ap t (Bo.ap r q)+1:Nat):Int)-1)-1)=(Bo.ap t (Bo.ap r q):Int)-1 by lia]
   ·rw [List.reverse_cons];exact hM.more hv
  ·rw [eC hc]at e4
   exact⟨_,(aH e4).trans rfl,_,lef,w,C,rfl,hI.skip hr hqr (fun w' hw q'=>hc (by rw [hw,A.uniq hin q'])) (fun k x hx=>A.FQ k x hx),hM⟩)
 rw [bb,v5,Nat.sub_self]at hI
 have hw0:=hI.done hr A
 subst hw0
 exact⟨C,lef,hI,hM,bo rfl ((aq rfl e1).trans ((gd rfl (show gJ xU none (.enm (.var 1)) _=some (dG 0 (F.map nD),_)from rfl) hf).trans ((aq rfl e2).trans ((aq rfl e3).trans ((cL rfl hx5 hf2).trans (ec (by simp) rfl))))))⟩
section
variable{Γ:bu}{Δ:gH}{pio:Option Nat}{n:Nat}{env env2 env3:av}{k:S}
theorem Dr(h1:ev Γ a (ae env)=some x)(h2:ev Γ b (ae env)=some y)(sx:scal x=true)(sy:scal y=true)(h3:bw env i=some ts)(hs:sz ts.length=true):ex Γ Δ pio n (.seq (.appP i a b) k) env=ex Γ Δ pio n k (env.set i (some (.ow (ts++[.sh (.tup [x,y])])))):=by
 rw [aN,show ex Γ Δ pio n (.appP i a b) env=(ev Γ a (ae env)).bind fun x=>(ev Γ b (ae env)).bind fun y=>if scal x&&scal y then(bw env i).bind fun ts=>if sz ts.length then some (.nx,env.set i (some (.ow (ts++[.sh (.tup [x,y])]))))else none else none from rfl,h1,obs,h2,obs,aF (by rw [sx,sy];rfl),h3,obs,aF hs];rfl
end
theorem HE:∀s,(Bo.cu r lf s).length≤s:=fun s=>by
 induction s with
 |zero=>simp [Bo.cu]
 |succ s ih=>
  rw [Bo.cu]
  split
  ·lia
  ·rw [dP,uF];lia
theorem Al{lfs:List Nat}{lef:List Bool}(R:Bo.Ri r lf)(hl:r.length≤63)(hlen:lef.length=r.length)(hlf:∀x,x<r.length→lef.getD x false=lf x):fP [nD r,bD lef]=some (pT (Bo.cu r lf r.length)):=by
 have hrow:=R.row
 have w8:vW 8=some g8:=rfl
 have w85:vW 85=some cN:=rfl
 obtain⟨b,C0,M0,l1,_,g3⟩:=pK (bs:=r.map fun x=> !lef.getD x false) (by rw [b9];lia)
 rw [b9]at l1
 have hfe:CY (r.map fun x=> !lef.getD x false)=Bo.wt r lf 0:=by
  have h:=pH (lf:=lf) (bs:=lef.map not) hrow fun x hx=>by
   rw [←hlf x hx,List.getD_eq_getElem?_getD,eK,jV (by lia)]
   simp [show x<lef.length by lia]
  rw [←h]
  congr 1
  refine List.map_congr_left fun x hx=> ?_
  have hx':=hrow.mem.mp hx
  simp [show x<lef.length by lia]
 rw [hfe]at M0
 have hc:∀env:Env,(env[0]?).join=some (nD r)→(env[1]?).join=some (bD lef)→ev vW (.comp (.not (.idx (.var 1) (.var 0))) [1] (.var 0) .nil) env=some (bD (r.map fun x=> !lef.getD x false)):=fun env h0 h1=>by
  rw [show bD (r.map fun x=> !lef.getD x false)=D.lst (r.map fun x=>D.bl (!lef.getD x false)) by rw [bD,zb];rfl]
  refine jO (ds:=nl r) (by rw [aE,h0];rfl) (by simp;lia) (vG fun x hx=> ?_)
  have hx':=hrow.mem.mp hx
  have:=vN (m:=lef) (i:=x) (by lia)
  have h5':inner env [1] (.int (x:Nat))=[some (.int (x:Nat)),some (bD lef)]:=by
   simp only [inner,List.map_cons,List.map_nil,h1]
  rw [gE,bZ,aE,aE,h5']
  show((atI (lef.map D.bl) (x:Int)).bind wU).map some=_
  rw [this];rfl
 have e2:bL vW none (.call 85 (.cons (.comp (.not (.idx (.var 1) (.var 0))) [1] (.var 0) .nil) .nil)) [some (.sh (nD r)),some (.sh (bD lef)),some (nT (Bo.bk r)),none,none,none,none]=some (mT C0,[some (.sh (nD r)),some (.sh (bD lef)),some (nT (Bo.bk r)),none,none,none,none]):=by
  refine aW w85 (l:=[bD (r.map fun x=> !lef.getD x false)]) ?_ g3 (tY _)
  show((ev vW (.cons (.comp (.not (.idx (.var 1) (.var 0))) [1] (.var 0) .nil) .nil) _).bind bx)=_
  rw [aR,hc _ (by simp) (by simp)];rfl
 have hx:gJ vW none (.rng (.un .len (.var 0))) [some (.sh (nD r)),some (.sh (bD lef)),some (nT (Bo.bk r)),some (mT C0),some (.sh (.int 0)),some (.ow []),none]=some (nl (List.range r.length),[some (.sh (nD r)),some (.sh (bD lef)),some (nT (Bo.bk r)),some (mT C0),some (.sh (.int 0)),some (.ow []),none]):=by
  simp [gJ,lD,az,nD,uS (n:=r.length) (by lia)]
 obtain⟨env',hf,C,x,rfl,M⟩:=bc (step:=fun d e=>ex vW Δ2 none 100 (.seq (.ife (.idx (.var 1) (.var 6)) (.seq (.asg 4 (.idx (.var 2) (.var 6))) .nop) (.seq (.mio 3 1 (.cons (.idx (.var 2) (.var 6)) .nil)) (.seq (.appP 5 (.var 6) (.bin .Add (.var 6) (.meth (.var 3) 2 (.cons (.var 4) .nil)))) .nop))) .nop) (e.set 6 (some (.sh d)))) (fun t e=>∃C x,e=[some (.sh (nD r)),some (.sh (bD lef)),some (nT (Bo.bk r)),some (mT C),some (.sh (.int ((Bo.aL r lf t-1:Nat):Int))),some (pT (Bo.cu r lf t)),x]∧Bo.MK b (Bo.wt r lf t) C) (ds:=nl (List.range r.length)) (env:=[some (.sh (nD r)),some (.sh (bD lef)),some (nT (Bo.bk r)),some (mT C0),some (.sh (.int 0)),some (.ow []),none]) ⟨C0,none,rfl,M0⟩ (fun t d e hd ⟨C,x,he,M⟩=>by
  subst he
  obtain⟨ht,rfl⟩:=eP hd
  rw [sN]at ht
  rw [fW ht]
  have hi:=Bo.fO hrow ht
  have e4:bG vW (.idx (.var 1) (.var 6)) (ae [some (.sh (nD r)),some (.sh (bD lef)),some (nT (Bo.bk r)),some (mT C),some (.sh (.int ((Bo.aL r lf t-1:Nat):Int))),some (pT (Bo.cu r lf t)),some (.sh (.int (t:Nat)))])=some (lf t):=by
   rw [bG,bZ]
   show((atI (lef.map D.bl) (t:Int)).bind cT)=_
   rw [vN (by lia),hlf t ht];rfl
  have ib:∀ {C':List Nat} {o:Option T},ev vW (.idx (.var 2) (.var 6)) (ae [some (.sh (nD r)),some (.sh (bD lef)),some (nT (Bo.bk r)),some (mT C'),o,some (pT (Bo.cu r lf t)),some (.sh (.int (t:Nat)))])=some (.int (r.idxOf t:Nat)):=fun {C' o}=>by
   have:=gj (r:=Bo.bk r) (i:=t) (by rw [Bo.cO];exact ht)
   rw [Bo.ap_bk ht]at this
   rw [bZ]
   show(tT (strip (nT (Bo.bk r))) (.int (t:Nat)))=_
   rw [bW,nD,yJ,this]
  cases hlt:lf t with
  |true=>
   rw [hlt]at e4
   refine⟨[some (.sh (nD r)),some (.sh (bD lef)),some (nT (Bo.bk r)),some (mT C),some (.sh (.int ((Bo.aL r lf (t+1)-1:Nat):Int))),some (pT (Bo.cu r lf (t+1))),some (.sh (.int (t:Nat)))],(gR (t:=true) e4 ?_).trans rfl,C,_,rfl,by rw [Bo.sO hlt];exact M⟩
   rw [aF rfl]
   refine(aq rfl (au rfl ib rfl)).trans ?_
   have a1:Bo.aL r lf (t+1)-1=r.idxOf t:=by rw [Bo.aL,aF hlt,Nat.add_sub_cancel]
   have a2:Bo.cu r lf (t+1)=Bo.cu r lf t:=by rw [Bo.cu,aF hlt]
   rw [a1,a2];rfl
  |false=>
   rw [hlt]at e4
   have hal:=Bo.qE (lf:=lf) hrow (t:=t) (by lia)
   obtain⟨C',M',g2⟩:=lX (p:=r.idxOf t) M (Bo.Av hrow ht hlt) (by lia)
   rw [←Bo.oK hrow ht hlt]at M'
   have a0:=vR (p:=Bo.aL r lf t-1) M' (by lia)
   have hm:=Em (Γ:=vW) (q:=2) (C:=C') rfl (show vW (jZ 5 2)=some eA from rfl)
   refine⟨[some (.sh (nD r)),some (.sh (bD lef)),some (nT (Bo.bk r)),some (mT C'),some (.sh (.int ((Bo.aL r lf (t+1)-1:Nat):Int))),some (pT (Bo.cu r lf (t+1))),some (.sh (.int (t:Nat)))],(gR (t:=false) e4 ?_).trans rfl,C',_,rfl,M'⟩
   rw [aK kQ]
   refine(wC (c:=5) (ds:=nl C) (ds':=nl C') (l:=[.int (r.idxOf t:Nat)]) (ts:=[]) rfl (aP _) ?_ rfl rfl g2 (aP _)).trans ?_
   ·show((ev vW (.cons (.idx (.var 2) (.var 6)) .nil) _).bind bx)=_
    rw [aR,ib];rfl
   have hml:=Bo.oq (lf:=lf) hrow (t:=t) (by lia)
   have hml2:=Bo.pF (lf:=lf) hrow (t:=t) (by lia)
   have hmt:(Bo.cu r lf t).length≤1000000:=by
    have:=HE (r:=r) (lf:=lf) t
    lia
   refine(Dr (x:=.int (t:Nat)) (y:=.int ((t+Bo.cS (Bo.wt r lf (t+1)) (Bo.aL r lf t-1):Nat):Int)) (ts:=(Bo.cu r lf t).map fun p=> .sh (pd p)) rfl ?_ rfl rfl rfl (dh (by simpa using hmt))).trans ?_
   ·rw [bU,oz]
    show((tK vW 2 (strip (mT C'))).bind (fun g=>(some [D.int ((Bo.aL r lf t-1:Nat):Int)]).bind fun l=>(g (strip (mT C')::l)).map strip)).bind (dI .Add (.int (t:Nat)))=_
    rw [iW,hm,obs,obs,a0];rfl
   have a1:Bo.aL r lf (t+1)=Bo.aL r lf t:=by rw [Bo.aL,aK (by rw [hlt];exact kQ)]
   have a2:Bo.cu r lf (t+1)=Bo.cu r lf t++[(t,t+Bo.cS (Bo.wt r lf (t+1)) (Bo.aL r lf t-1))]:=by rw [Bo.cu,aK (by rw [hlt];exact kQ)]
   have a3:T.ow ((Bo.cu r lf t).map (fun p=> .sh (pd p))++[.sh (.tup [.int (t:Nat),.int ((t+Bo.cS (Bo.wt r lf (t+1)) (Bo.aL r lf t-1):Nat):Int)])])=pT (Bo.cu r lf (t+1)):=by
    rw [a2,pT,oI];rfl
   rw [a3,a1];rfl)
 rw [bb,sN]at hf
 exact bo rfl ((aq rfl (aW w8 rfl (kS hrow (by lia)) (oy _))).trans ((aq rfl e2).trans ((aq rfl (jN _ _ _ _)).trans ((aq rfl (lI _ _ _)).trans ((cL rfl hx hf).trans (ec (by simp) rfl))))))
theorem Fq(hf:f≠[]):gJ Fp none (.zp (.var 0) (.cut (.var 0) (.int 1) .nil)) [some (.sh (nD f)),some (.sh (nD P)),none,none]=some (jW (nl f) (nl (f.drop 1)),[some (.sh (nD f)),some (.sh (nD P)),none,none]):=by
 have hp:1≤f.length:=List.length_pos_iff.mpr hf
 have hc:=xM (g:=f) (s:=1) hp
 show((JJ (nD f) (.lst (uf (nl f) (some ((1:Nat):Int)) none))).bind kZ).map (fun l=>(l,_))=_
 rw [hc];rfl
theorem xY{P:List Nat}(hf:f≠[])(hlt:∀x∈f,x<P.length)(h:∀k,k+1<f.length→Bo.ap f (k+1)≤Bo.ap f k∧Bo.ap P (Bo.ap f k)≤Bo.ap P (Bo.ap f (k+1))):bO [nD f,nD P]=some (.sh (.bl true)):=by
 obtain⟨env',hfo,x,y,rfl,_⟩:=bc (step:=lY fun x y e=>ex Fp Δ2 none 100 (.seq (.ife (.or (.cmp .Lt (.var 2) (.var 3)) (.cmp .Gt (.idx (.var 1) (.var 2)) (.idx (.var 1) (.var 3)))) (.seq (.ret (.bl false)) .nop) .nop) .nop) ((e.set 2 (some (.sh x))).set 3 (some (.sh y)))) (fun k e=>∃x y,e=[some (.sh (nD f)),some (.sh (nD P)),x,y]∧True) (ds:=jW (nl f) (nl (f.drop 1))) (env:=[some (.sh (nD f)),some (.sh (nD P)),none,none]) ⟨none,none,rfl,trivial⟩ (fun k d e hd ⟨x,y,he,_⟩=>by
  subst he
  obtain⟨k1,k2,rfl⟩:=Au hd
  rw [List.length_drop]at k2
  have e1:Bo.ap (f.drop 1) k=Bo.ap f (k+1):=by
   unfold Bo.ap
   rw [List.getD_eq_getElem?_getD,List.getElem?_drop,List.getD_eq_getElem?_getD,Nat.add_comm]
  rw [e1]
  obtain⟨h1,h2⟩:=h k (by lia)
  refine⟨_,(aH ?_).trans rfl,some (.sh (.int (Bo.ap f k:Nat))),some (.sh (.int (Bo.ap f (k+1):Nat))),rfl,trivial⟩
  rw [bG,m7,cv,cv,bZ,bZ]
  show(pW (.bl (decide ((Bo.ap f k:Int)<(Bo.ap f (k+1):Int)))) (some (.bl true)) ((atI (nl P) (Bo.ap f k:Int)).bind fun x=>(atI (nl P) (Bo.ap f (k+1):Int)).bind fun y=>bV .Gt x y)).bind cT=_
  rw [gj (hlt _ (Bo.gG (by lia))),gj (hlt _ (Bo.gG (by lia))),eC (by lia)]
  show some (decide ((Bo.ap P (Bo.ap f (k+1)):Int)<(Bo.ap P (Bo.ap f k):Int)))=_
  rw [eC (by lia)])
 exact bo rfl ((gd rfl (Fq hf) hfo).trans (bX (by simp) (qd _ _ _ _)))
theorem AC{P:List Nat}(hlt:∀x∈a::b::l,x<P.length)(h:Bo.ap P b<Bo.ap P a):bO [nD (a::b::l),nD P]=some (.sh (.bl false)):=by
 have c0:bG Fp (.or (.cmp .Lt (.var 2) (.var 3)) (.cmp .Gt (.idx (.var 1) (.var 2)) (.idx (.var 1) (.var 3)))) (ae [some (.sh (nD (a::b::l))),some (.sh (nD P)),some (.sh (.int (a:Nat))),some (.sh (.int (b:Nat)))])=some true:=by
  rw [bG,m7,cv,cv,bZ,bZ]
  show(pW (.bl (decide ((a:Int)<(b:Int)))) (some (.bl true)) ((atI (nl P) (a:Int)).bind fun x=>(atI (nl P) (b:Int)).bind fun y=>bV .Gt x y)).bind cT=_
  rw [gj (hlt a (by simp)),gj (hlt b (by simp))]
  cases decide ((a:Int)<(b:Int))with
  |true=>rfl
  |false=>
   show some (decide ((Bo.ap P b:Int)<(Bo.ap P a:Int)))=_
   rw [de (by lia)]
 have s0:ex Fp Δ2 none 100 (.seq (.ife (.or (.cmp .Lt (.var 2) (.var 3)) (.cmp .Gt (.idx (.var 1) (.var 2)) (.idx (.var 1) (.var 3)))) (.seq (.ret (.bl false)) .nop) .nop) .nop) [some (.sh (nD (a::b::l))),some (.sh (nD P)),some (.sh (.int (a:Nat))),some (.sh (.int (b:Nat)))]=some (.rt (.sh (.bl false)),[some (.sh (nD (a::b::l))),some (.sh (nD P)),some (.sh (.int (a:Nat))),some (.sh (.int (b:Nat)))]):=by
  rw [aN,eT,c0];rfl
 refine bo rfl (env:=[some (.sh (nD (a::b::l))),some (.sh (nD P)),some (.sh (.int (a:Nat))),some (.sh (.int (b:Nat)))]) (uP rfl (Fq (by simp)) ?_)
 show(ex Fp Δ2 none 100 _ [some (.sh (nD (a::b::l))),some (.sh (nD P)),some (.sh (.int (a:Nat))),some (.sh (.int (b:Nat)))]).bind _=_
 rw [s0,obs]
theorem Fk:∀l:List Bool,iG .all (.lst (l.map D.bl))=some (.bl (l.all id)):=fun l=>by
 show(qt _).map _=_
 rw [qr];rfl
theorem rS{s:List Nat}{S:List (List Nat)}(h:aU [.int s.length,bq S]=some (.sh (.bl false))):bz [nD s,bq S]=some (.sh (.bl false)):=by
 have w4:An 4=some aU:=rfl
 have hc:bG An (.not (.call 4 (.cons (.un .len (.var 0)) (.cons (.var 1) .nil)))) (ae [some (.sh (nD s)),some (.sh (bq S)),none])=some true:=by
  simp only [bG,bj,bS,Option.map_some,Option.map_none,bh,gE,c9,aR,b6,aE,dE,List.getElem?_cons_zero,List.getElem?_cons_succ,Option.join_some,obs,dY,b0,bY,w4,h,tG,fe];rfl
 refine bo rfl (env:=[some (.sh (nD s)),some (.sh (bq S)),none]) ?_
 show qV (ex An Δ2 none 100 (.ife _ _ _) [some (.sh (nD s)),some (.sh (bq S)),none]) _=_
 rw [eT,hc];rfl
theorem rT{S:List (List Nat)}(hs:Bo.aw s)(hl:s.length≤1000)(hS:S.length≤1000)(h:aU [.int s.length,bq S]=some (.sh (.bl true)))(b:List Nat→Bool)(hb:∀f∈S,bO [nD f,nD (Bo.bk s)]=some (.sh (.bl (b f)))):bz [nD s,bq S]=some (.sh (.bl ((S.map b).all id))):=by
 have w4:An 4=some aU:=rfl
 have w8:An 8=some g8:=rfl
 have w34:An 34=some bO:=rfl
 have hc:bG An (.not (.call 4 (.cons (.un .len (.var 0)) (.cons (.var 1) .nil)))) (ae [some (.sh (nD s)),some (.sh (bq S)),none])=some false:=by
  simp only [bG,bj,bS,Option.map_some,Option.map_none,bh,gE,c9,aR,b6,aE,dE,List.getElem?_cons_zero,List.getElem?_cons_succ,Option.join_some,obs,dY,b0,bY,w4,h,tG,fe];rfl
 have ha:ev An (.un .all (.comp (.call 34 (.cons (.var 0) (.cons (.var 1) .nil))) [2] (.var 1) .nil)) (ae [some (.sh (nD s)),some (.sh (bq S)),some (nT (Bo.bk s))])=some (.bl ((S.map b).all id)):=by
  have hcp:ev An (.comp (.call 34 (.cons (.var 0) (.cons (.var 1) .nil))) [2] (.var 1) .nil) (ae [some (.sh (nD s)),some (.sh (bq S)),some (nT (Bo.bk s))])=some (.lst (S.map fun f=>D.bl (b f))):=by
   refine jO (ds:=S.map nD) (by simp [bq]) (by simp;lia) (yY fun f hf=> ?_)
   have h5':inner (ae [some (.sh (nD s)),some (.sh (bq S)),some (nT (Bo.bk s))]) [2] (nD f)=[some (nD f),some (nD (Bo.bk s))]:=by
    simp [inner]
   rw [h5']
   simp only [c9,aR,aE,dE,List.getElem?_cons_zero,List.getElem?_cons_succ,Option.join_some,obs,b0,bY,w34,hb f hf,Option.map_some,bh]
  rw [b6,hcp,obs]
  have:=Fk (S.map b)
  rwa [zb]at this
 exact bo rfl ((aH hc).trans ((aq rfl (aW w8 rfl (kS hs (by lia)) (oy _))).trans (bX (by simp) (au rfl ha rfl))))
noncomputable def qD(ms:List (Nat×Nat))(F:List (List Nat)):D:=.ins 4 ["moves","falls"] [pD ms,bq F]
noncomputable def qT(ms:List (Nat×Nat))(F:List (List Nat)):T:=.ob 4 ["moves","falls"] [pT ms,kG F]
@[simp] theorem Km(ms:List (Nat×Nat))(F:List (List Nat)):strip (qT ms F)=qD ms F:=by simp [qT,qD]
@[simp] theorem rR(ms:List (Nat×Nat))(F:List (List Nat)):xx "moves" (qD ms F)=some (pD ms):=rfl
@[simp] theorem z6(ms:List (Nat×Nat))(F:List (List Nat)):xx "falls" (qD ms F)=some (bq F):=rfl
theorem Bc{ps:List (Nat×Nat)}{R:List (List Nat)}(h1:ps.length≤1000000)(h2:R.length≤1000000):fR [pD ps,bq R]=some (qT ps R):=by
 have hw:Fo 28=some jg:=rfl
 have e1:bL Fo none (.call 28 (.cons (.var 1) .nil)) [some (.ob 4 [] []),some (.sh (pD ps)),some (.sh (bq R))]=some (pT ps,[some (.ob 4 [] []),some (.sh (pD ps)),some (.sh (bq R))]):=rX hw rfl (Cy h1) rfl rfl
 have e2:bL Fo none (.call 28 (.cons (.var 2) .nil)) [some (.ob 4 ["moves"] [pT ps]),some (.sh (pD ps)),some (.sh (bq R))]=some (kG R,[some (.ob 4 ["moves"] [pT ps]),some (.sh (pD ps)),some (.sh (bq R))]):=rX hw rfl (CA h2) rfl rfl
 have e:ex Fo Δ2 none 100 dN (oR ["self","moves","falls"] 4 [pD ps,bq R])=some (.nx,[some (qT ps R),some (.sh (pD ps)),some (.sh (bq R))]):=
  (wD (c:=4) (ks:=[]) (ts:=[]) e1 rfl rfl).trans ((wD (c:=4) (ks:=["moves"]) (ts:=[pT ps]) e2 rfl rfl).trans rfl)
 show gI Fo Δ2 100 ["self","moves","falls"] 4 3 dN [pD ps,bq R]=_
 unfold gI
 rw [aF (show [pD ps,bq R].length+1=3 from rfl),e]
 rfl
noncomputable abbrev M7:E:=.or (.not (.call 1 (.cons (.var 1) .nil))) (.or (.not (.call 35 (.cons (.var 1) (.cons (.fld (.var 0) "falls") .nil)))) (.not (.call 6 (.cons (.fld (.var 0) "moves") .nil))))
theorem ie{s:List Nat}{ps:List (Nat×Nat)}{S:List (List Nat)}(hr:Bo.aw s)(hl:s.length≤1000000)(h:bz [nD s,bq S]=some (.sh (.bl false))):bF [qD ps S,nD s]=some (.sh (.bl false)):=by
 have w1:vX 1=some jf:=rfl
 have w35:vX 35=some bz:=rfl
 have hc:bG vX M7 (ae [some (.sh (qD ps S)),some (.sh (nD s)),none])=some true:=by
  simp [bG,w1,w35,mI hr hl,h]
 refine bo rfl (env:=[some (.sh (qD ps S)),some (.sh (nD s)),none]) ?_
 show qV (ex vX Δ2 none 100 (.ife M7 _ _) [some (.sh (qD ps S)),some (.sh (nD s)),none]) _=_
 rw [eT,hc];rfl
theorem rp{ps:List (Nat×Nat)}{S:List (List Nat)}(hr:Bo.aw s)(hl:s.length≤1000)(hp:ps.length≤1000)(hS:S.length≤1000)(h:bz [nD s,bq S]=some (.sh (.bl true)))(hn:ps.length+S.length=s.length)(hd:(ps.map (·.1)).Nodup)(hlt:∀m∈ps,m.1<s.length)(hb:bJ [nD s,pD ps]=some (.sh (.bl b))):bF [qD ps S,nD s]=some (.sh (.bl b)):=by
 have w1:vX 1=some jf:=rfl
 have w35:vX 35=some bz:=rfl
 have w6:vX 6=some jh:=rfl
 have w31:vX 31=some cj:=rfl
 have w27:vX 27=some bJ:=rfl
 have hc:bG vX M7 (ae [some (.sh (qD ps S)),some (.sh (nD s)),none])=some false:=by
  simp [bG,w1,w35,w6,mI hr (by lia),h,uu (ps:=ps) (by lia)]
 have hc2:bG vX (.cmp .NotEq (.un .len (.fld (.var 0) "moves")) (.bin .Sub (.un .len (.var 1)) (.un .len (.fld (.var 0) "falls")))) (ae [some (.sh (qD ps S)),some (.sh (nD s)),none])=some false:=by
  simp only [bG,bj,bS,Option.map_some,Option.map_none,bh,cv,b6,xD,aE,bU,List.getElem?_cons_zero,List.getElem?_cons_succ,Option.join_some,obs,rR,z6,xh,dY,bq,eu,b9,wz,FJ,vA,Option.map_some,fe]
  rw [de (by lia)];rfl
 have e1:bL vX none (.comp (.idx (.var 0) (.int 0)) [] (.fld (.var 0) "moves") .nil) [some (.sh (qD ps S)),some (.sh (nD s)),none]=some (nT (ps.map (·.1)),[some (.sh (qD ps S)),some (.sh (nD s)),none]):=by
  refine bB rfl rfl ?_ (aP _)
  rw [show nl (ps.map (·.1))=ps.map fun p=>D.int (p.1:Nat) by simp [nl]]
  refine jO (ds:=ps.map pd) (by simp [pD]) (by simp;lia) (r6 fun p _=> ?_)
  rfl
 obtain⟨c,g1,g2⟩:=ud (n:=s.length) (xs:=ps.map (·.1)) (by lia) (by simp;lia)
 have hct:c=true:=g2.mpr ⟨hd,fun x hx=>by obtain⟨m,hm,rfl⟩:=v7.mp hx;exact hlt m hm⟩
 subst hct
 have e2:ev vX (.and (.call 31 (.cons (.un .len (.var 1)) (.cons (.var 2) .nil))) (.call 27 (.cons (.var 1) (.cons (.fld (.var 0) "moves") .nil)))) (ae [some (.sh (qD ps S)),some (.sh (nD s)),some (nT (ps.map (·.1)))])=some (.bl b):=by
  simp only [bj,bS,Option.map_some,bh,bW,mN,c9,aR,b6,xD,aE,dE,List.getElem?_cons_zero,List.getElem?_cons_succ,Option.join_some,obs,rR,dY,b0,bY,w31,w27,g1,hb,yI,Option.map_some]
 exact bo rfl ((aH hc).trans ((aH hc2).trans ((aq rfl e1).trans (bX (by simp) (au rfl e2 rfl)))))
structure PutIs(r:List Nat)(lf:Nat→Bool)(F:List (List Nat)):Prop where
 R:Bo.Ri r lf
 A:Bo.Fs r F
 len:(Bo.cu r lf r.length).length+F.length=r.length
theorem GZ(hr:Bo.aw r)(hl:r.length≤63):∃lf F,PutIs r lf F∧yM [nD r]=some (qT (Bo.cu r lf r.length) F):=by
 obtain⟨F,A,hF,g1⟩:=B8 hr hl
 obtain⟨C,lef,I,M,g2⟩:=zm hr hl A hF
 have R:=I.ri hr (by lia)
 have hC:C.length=F.length:=by have:=I.len;lia
 have hm:=Bo.zL hr I.nodup (fun x hx=>(I.inn x hx).1)
 refine⟨fun x=>decide (x∈C),F,⟨R,A,by lia⟩,?_⟩
 obtain⟨ms,hms⟩:∃ms,Bo.cu r (fun x=>decide (x∈C)) r.length=ms:=⟨_,rfl⟩
 have g3:=Al (lfs:=[]) R hl M.len (fun x hx=>by rw [M.at' x hx];exact decide_eq_decide.mpr (by rw [List.mem_reverse]))
 rw [hms]at g3 hm⊢
 have w2:CU 2=some kK:=rfl
 have w40:CU 40=some kL:=rfl
 have w41:CU 41=some pX:=rfl
 have w42:CU 42=some fP:=rfl
 have w84:CU 84=some fR:=rfl
 have hi:=Bc (ps:=ms) (R:=F) (by lia) (by lia)
 have ha:∀env:Env,(env[0]?).join=some (nD r)→(env[1]?).join=some (bq F)→jM CU (.cons (.call 42 (.cons (.var 0) (.cons (.call 41 (.cons (.var 0) (.cons (.var 1) .nil))) .nil))) (.cons (.var 1) .nil)) env=some [pD ms,bq F]:=fun env h0 h1=>by
  simp only [jM,aR,c9,aE,dE,h0,h1,obs,b0,bY,w41,w42,g2,Option.map_some,uL,g3,AR]
 have e6:∃env',bL CU none (.call 84 (.cons (.call 42 (.cons (.var 0) (.cons (.call 41 (.cons (.var 0) (.cons (.var 1) .nil))) .nil))) (.cons (.var 1) .nil))) [some (.sh (nD r)),some (kG F)]=some (qT ms F,env'):=by
  have hd:=ha (ae [some (.sh (nD r)),some (kG F)]) (by simp) (by simp)
  cases hf:bN (qT ms F)with
  |true=>exact⟨_,aW w84 hd hi hf⟩
  |false=>
   refine⟨[some (.sh (nD r)),some (.sh (bq F))],mO w84 hd hi hf ?_ (ha _ (by simp) (by simp))⟩
   have s1:strip (T.ow (F.map nT))=bq F:=rl F
   show frz none [some (.sh (nD r)),some (.ow (F.map nT))] [0,0,1,1]=_
   simp [frz,s1]
 obtain⟨env',e6⟩:=e6
 exact bo rfl ((Do (aW w2 rfl (vi hr (by lia)) rfl)).trans ((aq rfl (aW w40 rfl g1 (B6 _))).trans (bX (by simp) e6)))
theorem pY(A:Bo.Fs r F)(hn:r.length≤n):Parts n F:=⟨A.ne,A.perm.nodup_iff.mpr List.nodup_range,fun x hx=>by have:=kY.mp (A.perm.mem_iff.mp hx);lia⟩
theorem kO(A:Bo.Fs r F):F.flatten.length=r.length:=by have:=A.perm.length_eq;rwa [sN]at this
theorem qb{r f:List Nat}(h:f.Pairwise (fun a b=>b<a∧r.idxOf a<r.idxOf b))(hk:k+1<f.length):Bo.ap f (k+1)<Bo.ap f k∧r.idxOf (Bo.ap f k)<r.idxOf (Bo.ap f (k+1)):=by
 have:=List.pairwise_iff_getElem.mp h k (k+1) (by lia) hk (by lia)
 rwa [←Bo.b7,←Bo.b7]at this
theorem PutIs.LB(P:PutIs r lf F)(hl:r.length≤63):bz [nD r,bq F]=some (.sh (.bl true)):=by
 have hr:=P.R.row
 have hF:F.length≤r.length:=by have:=P.len;lia
 have hw:=iC (n:=r.length) (S:=F) (by lia) (by lia) (pY P.A (dr _))
 rw [kO P.A,de rfl]at hw
 have:=rT hr (by lia) (by lia) hw (fun _=>true) (fun f hf=>xY (P.A.ne f hf) (fun x hx=>by rw [Bo.cO];exact P.A.lt hf hx) fun k hk=>by
  obtain⟨h1,h2⟩:=qb (P.A.fall f hf) hk
  rw [Bo.ap_bk (P.A.lt hf (Bo.gG (by lia))),Bo.ap_bk (P.A.lt hf (Bo.gG (by lia)))]
  lia)
 rw [this]
 congr 3
 simp
theorem zK:∀t,((Bo.cu r lf t).map (·.1)).Nodup:=fun t=>by
 induction t with
 |zero=>simp [Bo.cu]
 |succ t ih=>
  rw [Bo.cu]
  split
  ·exact ih
  ·rw [oI]
   refine eX.mpr ⟨ih,by simp,fun x hx y hy e=> ?_⟩
   have:=(tJ.mp hx).1
   have:y=t:=by simpa using hy
   lia
theorem PutIs.FC(P:PutIs r lf F)(hl:r.length≤63):bF [qD (Bo.cu r lf r.length) F,nD r]=some (.sh (.bl true)):=by
 have hlen:=P.len
 exact rp P.R.row (by lia) (by lia) (by lia) (P.LB hl) P.len (zK _) (fun m hm=>(P.R.mem (dr _) m hm).1) (KU P.R (by lia))
theorem zI{k:Nat}(hk:k∈s):bV .NotIn (.int (k:Nat)) (nD s)=some (.bl false):=by
 have h1:(nl s).all lG=true:=by
  rw [nI]
  intro d hd
  obtain⟨x,_,rfl⟩:=v7.mp hd
  rfl
 have h2:(nl s).any (fun y=>LL y (.int (k:Nat)))=true:=List.any_eq_true.mpr ⟨.int (k:Nat),v7.mpr ⟨k,hk,rfl⟩,by simp [LL]⟩
 show(MB (.int (k:Nat)) (nl s)).map (fun c=>D.bl (!c))=_
 unfold MB
 rw [h1,h2];rfl
theorem Ab(l:List Nat)(t:Nat):l.take (l.idxOf t)++l.drop (l.idxOf t+1)=l.erase t:=by
 induction l with
 |nil=>rfl
 |cons a l ih=>
  rw [List.idxOf_cons,List.erase_cons]
  by_cases e:a=t
  ·subst e;simp
  ·have e2:(a==t)=false:=by simpa using e
   rw [e2]
   simp only [cond_false,Bool.false_eq_true,if_false]
   rw [List.take_succ_cons,List.drop_succ_cons,List.cons_append,ih]
theorem CO{a b:List Nat}(h:a.length+b.length≤1000000):dI .Add (nD a) (nD b)=some (nD (a++b)):=by
 rw [nD,nD,xS,bb,bb,aF (dh h),mB];rfl
theorem zQ{ps:List (Nat×Nat)}(h:ps[k]?=some p):Bo.pt (Bo.gB s (ps.take k)) p=Bo.gB s (ps.take (k+1)):=by
 rw [List.take_succ,h]
 exact(Bo.rH _ _ _).symm
theorem xk(hs:Bo.aw s)(hl:s.length≤64)(h:∀p∈ps,p.1<s.length∧p.2<s.length):kN [nD s,pD ps]=some (nT (Bo.gB s ps)):=by
 have hperm:∀k,(Bo.gB s (ps.take k)).Perm s:=fun k=>Bo.zR fun m hm=>hs.mem.mpr (h m (List.mem_of_mem_take hm)).1
 obtain⟨env',hf,x,y,z,rfl⟩:=bc (step:=lY fun x y e=>ex CT Δ2 none 100 (.seq (.ife (.or (.cmp .NotIn (.var 3) (.var 2)) (.not (.ch .LtE .Lt (.int 0) (.var 4) (.un .len (.var 0))))) (.seq (.ret (.lst .nil)) .nop) .nop) (.seq (.asg 5 (.ind (.var 2) (.var 3))) (.seq (.asg 2 (.bin .Add (.cut (.var 2) .nil (.var 5)) (.cut (.var 2) (.bin .Add (.var 5) (.int 1)) .nil))) (.seq (.asg 2 (.bin .Add (.bin .Add (.cut (.var 2) .nil (.var 4)) (.lst (.cons (.var 3) .nil))) (.cut (.var 2) (.var 4) .nil))) .nop)))) ((e.set 3 (some (.sh x))).set 4 (some (.sh y)))) (fun k e=>∃x y z,e=[some (.sh (nD s)),some (.sh (pD ps)),some (nT (Bo.gB s (ps.take k))),x,y,z]) (ds:=ps.map pd) (env:=[some (.sh (nD s)),some (.sh (pD ps)),some (nT s),none,none,none]) ⟨_,_,_,rfl⟩ (fun k d e hd ⟨x,y,z,he⟩=>by
  subst he
  obtain⟨p,hp,rfl⟩:=yr hd
  obtain⟨h1,h2⟩:=h p (uD hp)
  have hpk:=hperm k
  rw [←zQ hp]
  obtain⟨l,hll⟩:∃l,Bo.gB s (ps.take k)=l:=⟨_,rfl⟩
  rw [hll]at hpk⊢
  have hml:p.1∈l:=hpk.mem_iff.mpr (hs.mem.mpr h1)
  have hlen:=hpk.length_eq
  have hle:∀x∈l,x≤1000:=fun x hx=>by have:=hs.mem.mp (hpk.mem_iff.mp hx);lia
  have hidx:l.idxOf p.1<l.length:=List.idxOf_lt_length_iff.mpr hml
  have hel:(l.erase p.1).length+1=l.length:=by rw [List.length_erase_of_mem hml];lia
  have c:bG CT (.or (.cmp .NotIn (.var 3) (.var 2)) (.not (.ch .LtE .Lt (.int 0) (.var 4) (.un .len (.var 0))))) (ae [some (.sh (nD s)),some (.sh (pD ps)),some (nT l),some (.sh (.int p.1)),some (.sh (.int p.2)),z])=some false:=by
   rw [bG,m7,cv]
   show((bV .NotIn (.int p.1) (strip (nT l))).bind fun x=>pW x (some (.bl true)) _).bind cT=_
   rw [bW,zI hml,obs,BR]
   have a1:decide ((0:Int)≤(p.2:Int))=true:=de (by lia)
   have a2:decide ((p.2:Int)<(s.length:Int))=true:=de (by lia)
   simp only [bj,Option.map_some,bh,gE,LI,jj,aE,b6,List.getElem?_cons_zero,List.getElem?_cons_succ,Option.join_some,obs,Lh,Ld,a1,a2,yI,dY,tG,fe];rfl
  have e1:∀z,bL CT none (.ind (.var 2) (.var 3)) [some (.sh (nD s)),some (.sh (pD ps)),some (nT l),some (.sh (.int p.1)),some (.sh (.int p.2)),z]=some (.sh (.int (l.idxOf p.1:Nat)),[some (.sh (nD s)),some (.sh (pD ps)),some (nT l),some (.sh (.int p.1)),some (.sh (.int p.2)),z]):=fun z=>by
   refine au rfl ?_ rfl
   rw [Ip]
   show BQ (strip (nT l)) (.int (p.1:Nat))=_
   rw [bW,EH hle (by lia) hml]
  have e2:bL CT none (.bin .Add (.cut (.var 2) .nil (.var 5)) (.cut (.var 2) (.bin .Add (.var 5) (.int 1)) .nil)) [some (.sh (nD s)),some (.sh (pD ps)),some (nT l),some (.sh (.int p.1)),some (.sh (.int p.2)),some (.sh (.int (l.idxOf p.1:Nat)))]=some (nT (l.erase p.1),[some (.sh (nD s)),some (.sh (pD ps)),some (nT l),some (.sh (.int p.1)),some (.sh (.int p.2)),some (.sh (.int (l.idxOf p.1:Nat)))]):=by
   refine bB rfl rfl ?_ (aP _)
   rw [bU,t8,t8]
   show((some (strip (nT l))).bind fun x=>nY x none (some ((l.idxOf p.1:Nat):Int))).bind (fun a=>((some (strip (nT l))).bind fun x=>nY x (some (((l.idxOf p.1:Nat):Int)+1)) none).bind fun b=>dI .Add a b)=_
   rw [bW,obs,obs,nD,lJ,lJ,show(((l.idxOf p.1:Nat):Int)+1)=((l.idxOf p.1+1:Nat):Int) by lia,Ct (by lia),xM (by lia),obs,obs]
   refine(CO ?_).trans ?_
   ·rw [kU,List.length_drop];lia
   ·rw [Ab];rfl
  have e3:bL CT none (.bin .Add (.bin .Add (.cut (.var 2) .nil (.var 4)) (.lst (.cons (.var 3) .nil))) (.cut (.var 2) (.var 4) .nil)) [some (.sh (nD s)),some (.sh (pD ps)),some (nT (l.erase p.1)),some (.sh (.int p.1)),some (.sh (.int p.2)),some (.sh (.int (l.idxOf p.1:Nat)))]=some (nT (Bo.pt l p),[some (.sh (nD s)),some (.sh (pD ps)),some (nT (l.erase p.1)),some (.sh (.int p.1)),some (.sh (.int p.2)),some (.sh (.int (l.idxOf p.1:Nat)))]):=by
   refine bB rfl rfl ?_ (aP _)
   rw [bU,bU,t8,t8]
   show(((some (strip (nT (l.erase p.1)))).bind fun x=>nY x none (some ((p.2:Nat):Int))).bind (fun a=>(some (nD [p.1])).bind fun b=>dI .Add a b)).bind (fun a=>((some (strip (nT (l.erase p.1)))).bind fun x=>nY x (some ((p.2:Nat):Int)) none).bind fun b=>dI .Add a b)=_
   have add2:∀a b:List Nat,a.length+b.length≤1000000→dI .Add (.lst (nl a)) (.lst (nl b))=some (.lst (nl (a++b))):=fun a b hab=>CO hab
   rw [bW,obs,obs,nD,nD,lJ,lJ,Ct (by lia),xM (by lia),obs,obs,add2 _ _ (by simp;lia),obs,obs,add2 _ _ (by simp;lia)]
   rw [Bo.pt,kW];rfl
  exact⟨_,(aH c).trans ((aq rfl (e1 z)).trans ((aq rfl e2).trans ((aq rfl e3).trans rfl))),some (.sh (.int p.1)),some (.sh (.int p.2)),some (.sh (.int (l.idxOf p.1:Nat))),rfl⟩)
 rw [b9,List.take_length]at hf
 have e1:bL CT none (.un .list (.var 0)) [some (.sh (nD s)),some (.sh (pD ps)),none,none,none,none]=some (nT s,[some (.sh (nD s)),some (.sh (pD ps)),none,none,none,none]):=bB rfl rfl rfl (aP s)
 exact bo rfl ((aq rfl e1).trans ((gd rfl (show gJ CT none (.var 1) _=some (ps.map pd,_)from rfl) hf).trans (ec (by simp) rfl)))
section
variable{Γ:bu}{Δ:gH}{pio:Option Nat}{n:Nat}{env env2 env3:av}{k:S}
theorem GF{ns:List Int}(ok:(di pio env i&&di pio env j&&di pio env a&&di pio env b&&decide ([i,j,a,b,r].Nodup))=true)(h:((ae env)[r]?).join=some (.lst (ns.map D.int)))(nd:ns.Nodup)(hs:sz ns.length=true):
 ex Γ Δ pio n (.seq (.dic i j a b r) k) env=ex Γ Δ pio n k ((((env.set a none).set b none).set i (some (.sh (.dic (pI ns))))).set j (some (.ow []))):=by
 rw [aN,show ex Γ Δ pio n (.dic i j a b r) env=if di pio env i&&di pio env j&&di pio env a&&di pio env b&&decide ([i,j,a,b,r].Nodup)then(((ae env)[r]?).join.bind bx).bind fun ds=>(cQ ds).bind fun ns=>if decide ns.Nodup&&sz ns.length then some (.nx,(((env.set a none).set b none).set i (some (.sh (.dic (pI ns))))).set j (some (.ow [])))else none else none from rfl,aF ok,h,obs,bY,obs,jJ,obs,aF (by rw [de nd,hs];rfl)];rfl
end
noncomputable def sT(s:List Nat):D:=.dic (pI (ci s))
theorem xH(hs:Bo.aw s){x:Nat}(hx:x<s.length):xf (pI (ci s)) (x:Int)=some (s.idxOf x:Int):=by
 rw [yC,aF (BJ.mpr (hs.mem.mpr hx)),BS]
noncomputable abbrev rW:S:=.seq (.ife (.un .any (.comp (.cmp .NotIn (.var 0) (.var 1)) [2] (.var 6) .nil)) (.seq (.ret (.bl false)) .nop) .nop) (.seq (.for1 7 (.rng2 (.int 1) (.un .len (.var 6))) (.seq (.ife (.or (.cmp .GtE (.idx (.var 6) (.var 7)) (.idx (.var 6) (.bin .Sub (.var 7) (.int 1)))) (.cmp .LtE (.idx (.var 2) (.idx (.var 6) (.var 7))) (.idx (.var 2) (.idx (.var 6) (.bin .Sub (.var 7) (.int 1)))))) (.seq (.ret (.bl false)) .nop) .nop) .nop)) (.seq (.ext 3 (.var 6)) .nop))
noncomputable abbrev fC:E:=.or (.cmp .GtE (.idx (.var 6) (.var 7)) (.idx (.var 6) (.bin .Sub (.var 7) (.int 1)))) (.cmp .LtE (.idx (.var 2) (.idx (.var 6) (.var 7))) (.idx (.var 2) (.idx (.var 6) (.bin .Sub (.var 7) (.int 1)))))
noncomputable abbrev fE(s:List Nat)(F:List (List Nat))(acc f:List Nat)(y:Option T):av:=[some (.sh (nD s)),some (.sh (bq F)),some (.sh (sT s)),some (nT acc),none,none,some (.sh (nD f)),y]
theorem FU{f:List Nat}(hs:Bo.aw s)(hf:f.length≤1000)(hlt:∀x∈f,x<s.length):bG qL (.un .any (.comp (.cmp .NotIn (.var 0) (.var 1)) [2] (.var 6) .nil)) (ae (fE s F acc f y))=some false:=by
 have:ev qL (.un .any (.comp (.cmp .NotIn (.var 0) (.var 1)) [2] (.var 6) .nil)) (ae (fE s F acc f y))=some (.bl false):=by
  refine yX (l:=f) (ds:=nl f) (by simp [nD]) (by simp;lia) (vG fun x hx=> ?_)
  have h5:inner (ae (fE s F acc f y)) [2] (.int (x:Nat))=[some (.int (x:Nat)),some (sT s)]:=by simp [inner]
  rw [h5,cv]
  show(some (D.bl (!(xf (pI (ci s)) (x:Int)).isSome))).map some=_
  rw [xH hs (hlt x hx)];rfl
 rw [bG,this];rfl
theorem Ca(hs:Bo.aw s)(hlt:∀x∈f,x<s.length)(hk:k+1<f.length):bG qL fC (ae (fE s F acc f (some (.sh (.int ((k+1:Nat):Int))))))=some (decide (Bo.ap f k≤Bo.ap f (k+1))||decide (s.idxOf (Bo.ap f (k+1))≤s.idxOf (Bo.ap f k))):=by
 have i1:ev qL (.idx (.var 6) (.var 7)) (ae (fE s F acc f (some (.sh (.int ((k+1:Nat):Int))))))=some (.int (Bo.ap f (k+1):Nat)):=by
  rw [bZ]
  exact gj (r:=f) (i:=k+1) hk
 have i0:ev qL (.idx (.var 6) (.bin .Sub (.var 7) (.int 1))) (ae (fE s F acc f (some (.sh (.int ((k+1:Nat):Int))))))=some (.int (Bo.ap f k:Nat)):=by
  rw [bZ,bU]
  show atI (nl f) (((k+1:Nat):Int)-1)=_
  rw [show(((k+1:Nat):Int)-1)=(k:Int) by lia]
  exact gj (r:=f) (i:=k) (by lia)
 have d1:xf (pI (ci s)) (Bo.ap f (k+1):Int)=some (s.idxOf (Bo.ap f (k+1)):Int):=xH hs (hlt _ (Bo.gG hk))
 have d0:xf (pI (ci s)) (Bo.ap f k:Int)=some (s.idxOf (Bo.ap f k):Int):=xH hs (hlt _ (Bo.gG (by lia)))
 rw [bG,m7,cv,cv,bZ _ _ (.var 2),bZ _ _ (.var 2),i1,i0]
 show(pW (.bl (decide ((Bo.ap f k:Int)≤(Bo.ap f (k+1):Int)))) (some (.bl true)) (((xf (pI (ci s)) (Bo.ap f (k+1):Int)).map D.int).bind fun x=>((xf (pI (ci s)) (Bo.ap f k:Int)).map D.int).bind fun y=>bV .LtE x y)).bind cT=_
 rw [d1,d0]
 rw [decide_eq_decide.mpr (show(Bo.ap f k:Int)≤(Bo.ap f (k+1):Int)↔Bo.ap f k≤Bo.ap f (k+1) by lia)]
 cases decide (Bo.ap f k≤Bo.ap f (k+1))with
 |true=>rfl
 |false=>
  show some (decide ((s.idxOf (Bo.ap f (k+1)):Int)≤(s.idxOf (Bo.ap f k):Int)))=_
  rw [decide_eq_decide.mpr (show(s.idxOf (Bo.ap f (k+1)):Int)≤(s.idxOf (Bo.ap f k):Int)↔s.idxOf (Bo.ap f (k+1))≤s.idxOf (Bo.ap f k) by lia)];rfl
theorem FT(hf:f≠[])(hl:f.length≤1000):gJ qL none (.rng2 (.int 1) (.un .len (.var 6))) (fE s F acc f y)=some (nl (List.range' 1 (f.length-1)),fE s F acc f y):=by
 have hp:1≤f.length:=List.length_pos_iff.mpr hf
 have:=uU hp (by lia)
 rw [show((1:Nat):Int)=1 from rfl]at this
 have ln:((ae (fE s F acc f y))[6]?).join=some (nD f):=by simp
 simp only [gJ,lD,if_true,az,yR,jj,b6,aE,ln,obs,dY,uV,this,Option.map_some,gM]
theorem LC{acc:List Nat}(hs:Bo.aw s)(hf:f≠[])(hl:f.length≤1000)(ha:acc.length≤1000)(hlt:∀x∈f,x<s.length)(h:∀k,k+1<f.length→Bo.ap f (k+1)<Bo.ap f k∧s.idxOf (Bo.ap f k)<s.idxOf (Bo.ap f (k+1))):∃y',ex qL Δ2 none 100 rW (fE s F acc f y)=some (.nx,fE s F (acc++f) f y'):=by
 obtain⟨env',hfo,y',rfl,_⟩:=bc (step:=fun d e=>ex qL Δ2 none 100 (.seq (.ife fC (.seq (.ret (.bl false)) .nop) .nop) .nop) (e.set 7 (some (.sh d)))) (fun k e=>∃y',e=fE s F acc f y'∧True) (ds:=nl (List.range' 1 (f.length-1))) (env:=fE s F acc f y) ⟨y,rfl,trivial⟩ (fun k d e hd ⟨y',he,_⟩=>by
  subst he
  obtain⟨hk,rfl⟩:=eP hd
  rw [List.length_range']at hk
  have hap:Bo.ap (List.range' 1 (f.length-1)) k=k+1:=by rw [Bo.b7 (by simpa using hk)];simp;lia
  rw [hap]
  obtain⟨h1,h2⟩:=h k (by lia)
  have hc:=Ca (F:=F) (acc:=acc) hs hlt (k:=k) (by lia)
  rw [eC (by lia),eC (by lia)]at hc
  exact⟨_,(aH hc).trans rfl,_,rfl,trivial⟩)
 refine⟨y',(aH (FU hs hl hlt)).trans ((cL rfl (FT hf hl) hfo).trans ((GE (t:=.sh (nD f)) (ts:=(nl acc).map T.sh) (us:=(nl f).map T.sh) (ua rfl rfl rfl rfl rfl rfl) rfl rfl (dh (by simp;lia))).trans ?_))⟩
 have:T.ow ((nl acc).map T.sh++(nl f).map T.sh)=nT (acc++f):=by simp [nT,nl]
 rw [this];rfl
theorem LD(hs:Bo.aw s)(hl:(a::b::l).length≤1000)(hlt:∀x∈a::b::l,x<s.length)(h:s.idxOf b≤s.idxOf a):∃e,ex qL Δ2 none 100 rW (fE s F acc (a::b::l) y)=some (.rt (.sh (.bl false)),e):=by
 have hc:=Ca (F:=F) (acc:=acc) hs hlt (k:=0) (by simp)
 have hc':bG qL fC (ae (fE s F acc (a::b::l) (some (.sh (.int ((0+1:Nat):Int))))))=some true:=by
  rw [hc]
  show some (_||decide (s.idxOf b≤s.idxOf a))=_
  rw [de h,Bool.or_true]
 have s0:ex qL Δ2 none 100 (.seq (.ife fC (.seq (.ret (.bl false)) .nop) .nop) .nop) (fE s F acc (a::b::l) (some (.sh (.int ((0+1:Nat):Int)))))=some (.rt (.sh (.bl false)),fE s F acc (a::b::l) (some (.sh (.int ((0+1:Nat):Int))))):=by
  rw [aN,eT,hc'];rfl
 refine⟨fE s F acc (a::b::l) (some (.sh (.int ((0+1:Nat):Int)))),(aH (FU hs hl hlt)).trans ?_⟩
 refine uQ rfl (FT (by simp) hl) ?_
 show(ex qL Δ2 none 100 _ (fE s F acc (a::b::l) (some (.sh (.int ((0+1:Nat):Int)))))).bind _=_
 rw [s0,obs]
noncomputable abbrev fS(d:D)(e:av):Option (Fl×av):=ex qL Δ2 none 100 rW (e.set 6 (some (.sh d)))
theorem FV(hs:Bo.aw s):∀(G:List (List Nat)) (acc:List Nat) (x y:Option T),acc.length+G.flatten.length≤1000→(∀f∈G,f≠[]∧(∀x∈f,x<s.length)∧∀k,k+1<f.length→Bo.ap f (k+1)<Bo.ap f k∧s.idxOf (Bo.ap f k)<s.idxOf (Bo.ap f (k+1)))→∃x' y',forL fS (G.map nD) [some (.sh (nD s)),some (.sh (bq F)),some (.sh (sT s)),some (nT acc),none,none,x,y]=some (.nx,[some (.sh (nD s)),some (.sh (bq F)),some (.sh (sT s)),some (nT (acc++G.flatten)),none,none,x',y'])
 |[],acc,x,y,_,_=>⟨x,y,by rw [List.flatten_nil,kX];rfl⟩
 |f::G,acc,x,y,hl,h=>by
  rw [jT,dP]at hl
  obtain⟨h1,h2,h3⟩:=h f (lU ..)
  obtain⟨y1,e1⟩:=LC (F:=F) (acc:=acc) (y:=y) hs h1 (by lia) (by lia) h2 h3
  obtain⟨x',y',e2⟩:=FV hs G (acc++f) (some (.sh (nD f))) y1 (by rw [dP];lia) fun g hg=>h g (lT _ hg)
  refine⟨x',y',?_⟩
  show(ex qL Δ2 none 100 rW (fE s F acc f y)).bind _=_
  rw [e1,obs]
  rw [jT,←kW]
  exact e2
theorem B9(hs:Bo.aw s):∀(G:List (List Nat)) (acc:List Nat) (x y:Option T),acc.length+G.flatten.length≤1000→(∀f∈G,f≠[]∧(∀x∈f,x<s.length)∧∀a b l,f=a::b::l→s.idxOf b≤s.idxOf a)→(∃f∈G,2≤f.length)→∃e,forL fS (G.map nD) [some (.sh (nD s)),some (.sh (bq F)),some (.sh (sT s)),some (nT acc),none,none,x,y]=some (.rt (.sh (.bl false)),e)
 |[],acc,x,y,_,_,⟨f,hf,_⟩=>by simp at hf
 |f::G,acc,x,y,hl,h,hex=>by
  rw [jT,dP]at hl
  obtain⟨h1,h2,h3⟩:=h f (lU ..)
  match f,h1,h2,h3,hl,hex with
  |[],h1,_,_,_,_=>exact absurd rfl h1
  |[a],h1,h2,h3,hl,hex=>
   obtain⟨y1,e1⟩:=LC (F:=F) (f:=[a]) (acc:=acc) (y:=y) hs h1 (by lia) (by lia) h2 (fun k hk=>by simp at hk)
   obtain⟨e,e2⟩:=B9 hs G (acc++[a]) (some (.sh (nD [a]))) y1 (by rw [dP];lia) (fun g hg=>h g (lT _ hg)) (by
    obtain⟨g,hg,hg2⟩:=hex
    rcases fY.mp hg with z|z
    ·rw [z]at hg2;simp at hg2
    ·exact⟨g,z,hg2⟩)
   refine⟨e,?_⟩
   show(ex qL Δ2 none 100 rW (fE s F acc [a] y)).bind _=_
   rw [e1,obs]
   exact e2
  |a::b::l,h1,h2,h3,hl,_=>
   obtain⟨e,e1⟩:=LD (F:=F) (acc:=acc) (y:=y) hs (by lia) h2 (h3 a b l rfl)
   refine⟨e,?_⟩
   show(ex qL Δ2 none 100 rW (fE s F acc (a::b::l) y)).bind _=_
   rw [e1,obs]
theorem CD{s:List Nat}(h:s.Nodup):(ci s).Nodup:=by
 unfold ci
 exact(List.pairwise_map).mpr (h.imp fun hab e=>hab (by lia))
theorem Cm(hs:Bo.aw s)(hl:s.length≤64)(k:S):ex qL Δ2 none 100 (.seq (.dic 2 3 4 5 0) k) [some (.sh (nD s)),some (.sh (bq F)),none,none,none,none,none,none]=ex qL Δ2 none 100 k [some (.sh (nD s)),some (.sh (bq F)),some (.sh (sT s)),some (.ow []),none,none,none,none]:=
 GF (env:=[some (.sh (nD s)),some (.sh (bq F)),none,none,none,none,none,none]) (ns:=ci s) rfl (by show some (nD s)=_;rw [nD,pC]) (CD hs.nodup) (dh (by simp [ci];lia))
theorem Ew(F:List (List Nat)):iG .len (bq F)=some (.int F.length):=by rw [bq,eu,b9]
theorem rV{F:List (List Nat)}(hs:Bo.aw s)(hl:s.length≤64)(hF:F.flatten.Perm (List.range n))(hn:n≤63)(h:∀f∈F,f≠[]∧(∀x∈f,x<s.length)∧∀k,k+1<f.length→Bo.ap f (k+1)<Bo.ap f k∧s.idxOf (Bo.ap f k)<s.idxOf (Bo.ap f (k+1))):cY [nD s,bq F]=some (.sh (.bl (decide (n=s.length)))):=by
 have hfl:=hF.length_eq
 rw [sN]at hfl
 obtain⟨x',y',hf⟩:=FV (F:=F) hs F [] none none (by rw [Gj];lia) h
 rw [List.nil_append]at hf
 have e1:ev qL (.cmp .Eq (.un .sorted (.var 3)) (.un .lrng (.un .len (.var 0)))) (ae [some (.sh (nD s)),some (.sh (bq F)),some (.sh (sT s)),some (nT F.flatten),none,none,x',y'])=some (.bl (decide (n=s.length))):=by
  have a1:iG .sorted (nD F.flatten)=some (nD (List.range n)):=by
   rw [wF (by lia),vv hF,←pC];rfl
  have a3:((ae [some (.sh (nD s)),some (.sh (bq F)),some (.sh (sT s)),some (nT F.flatten),none,none,x',y'])[3]?).join=some (nD F.flatten):=by simp
  have a0:((ae [some (.sh (nD s)),some (.sh (bq F)),some (.sh (sT s)),some (nT F.flatten),none,none,x',y'])[0]?).join=some (nD s):=by simp
  simp only [cv,b6,aE,a3,a0,obs,a1,dY,vo (show s.length≤1000000 by lia),vB,Cg,Option.map_some]
  congr 2
  refine decide_eq_decide.mpr ⟨fun q=>by have:=congrArg List.length q;simpa using this,fun q=>by rw [q]⟩
 refine bo rfl ((Cm hs hl _).trans ((cL (l:=F.map nD) rfl rfl hf).trans (bX (by simp) (au rfl e1 rfl))))
theorem xB{F:List (List Nat)}(hs:Bo.aw s)(hl:s.length≤64)(hF:F.flatten.length≤1000)(h:∀f∈F,f≠[]∧(∀x∈f,x<s.length)∧∀a b l,f=a::b::l→s.idxOf b≤s.idxOf a)(hex:∃f∈F,2≤f.length):cY [nD s,bq F]=some (.sh (.bl false)):=by
 obtain⟨e,hf⟩:=B9 (F:=F) hs F [] none none (by rw [Gj];lia) h hex
 refine bo rfl (env:=e) ((Cm hs hl _).trans ?_)
 exact uQ (l:=F.map nD) rfl rfl hf
noncomputable abbrev LP:E:=.cmp .NotEq (.call 66 (.cons (.var 0) (.cons (.var 1) .nil))) (.un .lrng (.un .len (.var 0)))
theorem yU(hs:Bo.aw s)(hl:s.length≤64)(h:∀p∈ps,p.1<s.length∧p.2<s.length):bG Gg LP (ae [some (.sh (nD s)),some (.sh (pD ps)),some (.sh (bq F))])=some (!decide (Bo.gB s ps=List.range s.length)):=by
 have w66:Gg 66=some kN:=rfl
 simp only [bG,bj,bS,Option.map_some,bh,cv,c9,aR,dE,b6,aE,List.getElem?_cons_zero,List.getElem?_cons_succ,Option.join_some,obs,b0,bY,w66,xk hs hl h,Option.map_some,bW,dY,vo (show s.length≤1000000 by lia),FJ,Cg,fe]
theorem yT(hs:Bo.aw s)(hl:s.length≤64)(h:∀p∈ps,p.1<s.length∧p.2<s.length)(hn:Bo.gB s ps≠List.range s.length):bA [nD s,pD ps,bq F]=some (.sh (.bl false)):=by
 have hc:=yU (F:=F) hs hl h
 rw [eC hn]at hc
 refine bo rfl (env:=[some (.sh (nD s)),some (.sh (pD ps)),some (.sh (bq F))]) ?_
 show qV (ex Gg Δ2 none 100 (.ife LP _ _) [some (.sh (nD s)),some (.sh (pD ps)),some (.sh (bq F))]) _=_
 rw [eT,hc];rfl
theorem xG(hs:Bo.aw s)(hl:s.length≤64)(h:∀p∈ps,p.1<s.length∧p.2<s.length)(hb:cY [nD s,bq F]=some (.sh (.bl b)))(hp:b=true→Bo.gB s ps=List.range s.length)(hlen:b=true→ps.length+F.length=s.length):bA [nD s,pD ps,bq F]=some (.sh (.bl b)):=by
 by_cases hn:Bo.gB s ps=List.range s.length
 ·have hc:=yU (F:=F) hs hl h
  rw [de hn]at hc
  have w67:Gg 67=some cY:=rfl
  refine bo rfl ((aH hc).trans (bX (by simp) (au (d:=.bl b) rfl ?_ rfl)))
  cases b with
  |false=>
   simp only [bj,bS,Option.map_some,bh,mN,c9,aR,dE,aE,List.getElem?_cons_zero,List.getElem?_cons_succ,Option.join_some,obs,b0,bY,w67,hb,BR]
  |true=>
   have a:decide ((ps.length:Int)+(F.length:Int)=(s.length:Int))=true:=de (by have:=hlen rfl;lia)
   simp only [bj,bS,Option.map_some,bh,mN,c9,aR,dE,aE,cv,bU,b6,List.getElem?_cons_zero,List.getElem?_cons_succ,Option.join_some,obs,b0,bY,w67,hb,yI,xh,dY,Ew,xT,vB,vA,a]
 ·cases b with
  |false=>exact yT hs hl h hn
  |true=>exact absurd (hp rfl) hn
theorem iy(ps:List (Nat×Nat))(R:List (List Nat)):cR "falls" (4,["moves","falls"],[pT ps,kG R])=some (1,R.map nT):=rfl
theorem Bd(Γ:bu)(h:Γ (jZ 4 0)=some bF)(ps:List (Nat×Nat))(R:List (List Nat)):tK Γ 0 (qD ps R)=some bF:=h
theorem yK{r:List Nat}{x y:Nat}(h:x∈r):(r++[y]).idxOf x=r.idxOf x:=by rw [List.idxOf_append,aF h]
theorem PutIs.due(P:PutIs r lf F)(hl:r.length≤63):bA [nD r,pD (Bo.cu r lf r.length),bq F]=some (.sh (.bl true)):=by
 have hr:=P.R.row
 have hf:=rV (s:=r) (F:=F) hr (by lia) P.A.perm hl fun f hf=>⟨P.A.ne f hf,fun x hx=>P.A.lt hf hx,fun k hk=>qb (P.A.fall f hf) hk⟩
 rw [de rfl]at hf
 exact xG hr (by lia) (fun p hp=>⟨(P.R.mem (dr _) p hp).1,(P.R.mem (dr _) p hp).2.2⟩) hf (fun _=>P.R.put) (fun _=>P.len)
theorem PutIs.longer{r:List Nat}{lf:Nat→Bool}{F:List (List Nat)}(P:PutIs r lf F)(hl:r.length≤63):bF [qD (Bo.cu r lf r.length) F,nD (r++[r.length])]=some (.sh (.bl false))∧bA [nD (r++[r.length]),pD (Bo.cu r lf r.length),bq F]=some (.sh (.bl false)):=by
 have hr:=P.R.row
 have hs:=Bo.xo hr
 have hsl:(r++[r.length]).length=r.length+1:=by simp
 have hlen:=P.len
 have hw:=iC (n:=r.length+1) (S:=F) (by lia) (by lia) (pY P.A (by lia))
 rw [kO P.A,eC (by lia)]at hw
 refine⟨ie hs (by lia) (rS (by rw [hsl];exact hw)),?_⟩
 have hf:=rV (s:=r++[r.length]) (F:=F) hs (by lia) P.A.perm hl fun f hf=>⟨P.A.ne f hf,fun x hx=>by have:=P.A.lt hf hx;lia,fun k hk=>by
  obtain⟨h1,h2⟩:=qb (P.A.fall f hf) hk
  rw [yK (hr.mem.mpr (P.A.lt hf (Bo.gG (by lia)))),yK (hr.mem.mpr (P.A.lt hf (Bo.gG (by lia))))]
  exact⟨h1,h2⟩⟩
 rw [eC (by lia)]at hf
 exact xG hs (by lia) (fun p hp=>by
  obtain⟨h1,_,h2⟩:=P.R.mem (dr _) p hp
  lia) hf (fun z=>by cases z) (fun z=>by cases z)
theorem zo:∀ {l:List Nat},l.length<2→l.reverse=l
 |[],_=>rfl
 |[_],_=>rfl
theorem PutIs.back(P:PutIs r lf F)(hl:r.length≤63):∃b,bF [qD (Bo.cu r lf r.length) F,nD r.reverse]=some (.sh (.bl b))∧bA [nD r.reverse,pD (Bo.cu r lf r.length),bq F]=some (.sh (.bl b)):=by
 have hr:=P.R.row
 have hs:=Bo.rP hr
 have hsl:r.reverse.length=r.length:=by simp
 have hlen:=P.len
 have hin:∀p∈Bo.cu r lf r.length,p.1<r.reverse.length∧p.2<r.reverse.length:=fun p hp=>by
  obtain⟨h1,_,h2⟩:=P.R.mem (dr _) p hp
  lia
 have hw:=iC (n:=r.length) (S:=F) (by lia) (by lia) (pY P.A (dr _))
 rw [kO P.A,de rfl]at hw
 have hw':aU [.int r.reverse.length,bq F]=some (.sh (.bl true)):=by rw [hsl];exact hw
 have turn:∀f∈F,bO [nD f,nD (Bo.bk r.reverse)]=some (.sh (.bl (decide (f.length≤1)))):=fun f hf=>by
  have hlt:∀x∈f,x<(Bo.bk r.reverse).length:=fun x hx=>by rw [Bo.cO,hsl];exact P.A.lt hf hx
  match f,hf,hlt,P.A.ne f hf,P.A.fall f hf with
  |[],_,_,h,_=>exact absurd rfl h
  |[a],_,hlt,h,_=>exact xY h hlt fun k hk=>by simp at hk
  |a::b::l,hf,hlt,_,hp=>
   rw [eC (by simp)]
   have ha:=P.A.lt hf (x:=a) (by simp)
   have hb:=P.A.lt hf (x:=b) (by simp)
   have:=((List.pairwise_cons.mp hp).1 b (by simp)).2
   refine AC hlt ?_
   rw [Bo.ap_bk (by lia),Bo.ap_bk (by lia)]
   have:=Bo.jK hr ha
   have:=Bo.jK hr hb
   lia
 have hfa:=rT hs (by lia) (by lia) hw' (fun f=>decide (f.length≤1)) turn
 by_cases hex:∃f∈F,2≤f.length
 ·refine⟨false,?_,?_⟩
  ·have:(F.map fun f=>decide (f.length≤1)).all id=false:=by
    obtain⟨f,hf,h2⟩:=hex
    rw [List.all_eq_false]
    exact⟨false,v7.mpr ⟨f,hf,eC (by lia)⟩,by simp⟩
   rw [this]at hfa
   exact ie hs (by lia) hfa
  ·refine xG hs (by lia) hin (xB hs (by lia) (by rw [kO P.A];lia) (fun f hf=>⟨P.A.ne f hf,fun x hx=>by rw [hsl];exact P.A.lt hf hx,fun a b l e=> ?_⟩) hex) (fun z=>by cases z) (fun z=>by cases z)
   subst e
   have ha:=P.A.lt hf (x:=a) (by simp)
   have hb:=P.A.lt hf (x:=b) (by simp)
   have:=((List.pairwise_cons.mp (P.A.fall _ hf)).1 b (by simp)).2
   have:=Bo.jK hr ha
   have:=Bo.jK hr hb
   lia
 ·have hone:∀f∈F,f.length≤1:=fun f hf=>by
   rcases dS f.length 2 with z|z
   ·lia
   ·exact absurd ⟨f,hf,z⟩ hex
  have hFn:=Bo.z8 P.A.ne hone
  rw [kO P.A]at hFn
  have hms:Bo.cu r lf r.length=[]:=Ar.mp (by lia)
  have hput:=P.R.put
  rw [hms]at hput
  have hrr:r=List.range r.length:=hput
  rcases dS r.length 2 with z|z
  ·rw [zo z]
   exact⟨true,P.FC hl,P.due hl⟩
  ·have i0:=Bo.jK hr (x:=0) (by lia)
   have i1:=Bo.jK hr (x:=1) (by lia)
   have j0:r.idxOf 0=0:=by
    have:=Bo.dZ hr (p:=0) (by lia)
    rwa [show Bo.ap r 0=0 by rw [hrr];exact Bo.fW (by lia)]at this
   have j1:r.idxOf 1=1:=by
    have:=Bo.dZ hr (p:=1) (by lia)
    rwa [show Bo.ap r 1=1 by rw [hrr];exact Bo.fW (by lia)]at this
   rw [hms]at hin⊢
   refine⟨false,?_,?_⟩
   ·have:(F.map fun f=>decide (f.length≤1)).all id=true:=by
     rw [nI]
     intro x hx
     obtain⟨f,hf,rfl⟩:=v7.mp hx
     exact de (hone f hf)
    rw [this]at hfa
    exact rp hs (by lia) (by simp) (by lia) hfa (by simp;lia) (by simp) (by simp) (Eb hs (by lia) (by lia) (by lia))
   ·refine yT hs (by lia) hin fun q=> ?_
    have q':r.reverse=List.range r.reverse.length:=q
    have:r.reverse.idxOf 0=0:=by
     have:=Bo.dZ hs (p:=0) (by lia)
     rwa [show Bo.ap r.reverse 0=0 by rw [q'];exact Bo.fW (by lia)]at this
    lia
theorem wO(A:Bo.Fs r F):¬Parts r.length (F++[[0]]):=fun P=>by
 have h0:=P.lt 0 (by simp)
 have nd:=P.nd
 rw [List.flatten_append]at nd
 exact(eX.mp nd).2.2 0 (A.perm.mem_iff.mpr (kY.mpr h0)) 0 (by simp) rfl
theorem u7:¬Parts n ((g++[n])::F):=fun P=>by
 have:=P.lt n (by simp)
 lia
noncomputable abbrev uR:S:=.seq (.ife (.cmp .NotEq (.meth (.var 5) 0 (.cons (.var 6) .nil)) (.call 68 (.cons (.var 6) (.cons (.fld (.var 5) "moves") (.cons (.fld (.var 5) "falls") .nil))))) (.seq (.ret (.bl false)) .nop) .nop) .nop
noncomputable abbrev Li:S:=.seq (.asg 5 (.call 43 (.cons (.var 2) .nil)))
 (.seq (.ife (.or (.cmp .NotEq (.var 2) (.var 1)) (.or (.not (.isc (.var 5) 0)) (.not (.isc (.var 5) 4))))
 (.seq (.ret (.bl false))
 .nop) .nop)
 (.seq (.ife (.or (.isc (.var 5) 1) (.or (.isc (.var 5) 3) (.isc (.var 5) 2)))
 (.seq (.ret (.bl false))
 .nop) .nop)
 (.seq (.ife (.or (.not (.call 54 (.cons (.fld (.var 5) "moves") .nil))) (.not (.isi (.fld (.var 5) "falls") 2)))
 (.seq (.ret (.bl false))
 .nop) .nop)
 (.seq (.ife (.or (.not (.un .all (.comp (.call 53 (.cons (.var 0) .nil)) [] (.fld (.var 5) "falls") .nil))) (.cmp .In (.lst .nil) (.fld (.var 5) "falls")))
 (.seq (.ret (.bl false))
 .nop) .nop)
 (.seq (.ife (.or (.not (.call 68 (.cons (.var 1) (.cons (.fld (.var 5) "moves") (.cons (.fld (.var 5) "falls") .nil))))) (.cmp .IsNot (.meth (.var 5) 0 (.cons (.var 1) .nil)) (.bl true)))
 (.seq (.ret (.bl false))
 .nop) .nop)
 (.seq (.for1 6 (.tup (.cons (.var 3) (.cons (.bin .Add (.var 1) (.lst (.cons (.un .len (.var 1)) .nil))) .nil)))
 uR)
 (.seq (.appF 5 "falls" (.lst (.cons (.int 0) .nil)))
 (.seq (.ife (.cmp .IsNot (.meth (.var 5) 0 (.cons (.var 1) .nil)) (.bl false))
 (.seq (.ret (.bl false))
 .nop) .nop)
 (.seq (.popF 5 "falls")
 (.seq (.ife (.cmp .NotEq (.var 1) (.lst .nil))
 (.seq (.appFA 5 "falls" (.int 0) (.un .len (.var 1)))
 (.seq (.ife (.cmp .IsNot (.meth (.var 5) 0 (.cons (.var 1) .nil)) (.bl false))
 (.seq (.ret (.bl false))
 .nop) .nop)
 .nop)) .nop)
 .nop))))))))))
theorem Ey{r:List Nat}(hl:r.length≤63)(P:PutIs r lf F)(hg:yM [nD r]=some (qT (Bo.cu r lf r.length) F))(h1:Ao r t1)(h2:Ao r t2)(h3:Ao r.reverse t3):
 ∃t1' t2' t3' y' w',Ao r t1'∧Ao r t2'∧Ao r.reverse t3'∧ex jQ Δ2 none 100 Li [some t0,some t1,some t2,some t3,x,y,w]=some (.nx,[some t0,some t1',some t2',some t3',x,y',w']):=by
 have hr:=P.R.row
 have hlen:=P.len
 obtain⟨b,hb1,hb2⟩:=P.back hl
 obtain⟨hg1,hg2⟩:=P.longer hl
 have hsh:=P.FC hl
 have hdu:=P.due hl
 obtain⟨ms,hms⟩:∃ms,Bo.cu r lf r.length=ms:=⟨_,rfl⟩
 rw [hms]at hg hb1 hb2 hg1 hg2 hsh hdu hlen
 have hne:=P.A.ne
 have hflen:∀f∈F,f.length≤1000:=fun f hf=>by
  have:=(List.sublist_flatten_of_mem hf).length_le
  have:=kO P.A
  lia
 have w43:jQ 43=some yM:=rfl
 have w54:jQ 54=some iw:=rfl
 have w53:jQ 53=some dC:=rfl
 have w68:jQ 68=some bA:=rfl
 have wm:∀ps R,tK jQ 0 (qD ps R)=some bF:=Bd jQ rfl
 obtain⟨t2',h2',e1⟩:∃t2',Ao r t2'∧bL jQ none (.call 43 (.cons (.var 2) .nil)) [some t0,some t1,some t2,some t3,x,y,w]=some (qT ms F,[some t0,some t1,some t2',some t3,x,y,w]):=by
  have hd:jM jQ (.cons (.var 2) .nil) (ae [some t0,some t1,some t2,some t3,x,y,w])=some [nD r]:=by simp [jM,h2.strip]
  cases hf:bN (qT ms F)with
  |true=>exact⟨t2,h2,aW w43 hd hg hf⟩
  |false=>
   refine⟨.sh (nD r),.inl rfl,mO w43 hd hg hf ?_ (by simp [jM])⟩
   rcases h2 with rfl|rfl
   ·rfl
   ·show frz none [some t0,some t1,some (nT r),some t3,x,y,w] [2]=_
    simp [frz,nT,nD,gy]
 have D4:∀(ps:List (Nat×Nat)) (S:List (List Nat)) (w:Option T),ae [some t0,some t1,some t2',some t3,x,some (qT ps S),w]=[some (strip t0),some (nD r),some (nD r),some (nD r.reverse),x.map strip,some (qD ps S),w.map strip]:=fun ps S w=>by simp [h1.strip,h2'.strip,h3.strip]
 have i0:∀j,EA j (qD ms F)=some (.bl (zh 4 j)):=fun j=>rfl
 have c1:bG jQ (.or (.cmp .NotEq (.var 2) (.var 1)) (.or (.not (.isc (.var 5) 0)) (.not (.isc (.var 5) 4)))) (ae [some t0,some t1,some t2',some t3,x,some (qT ms F),w])=some false:=by
  rw [D4];simp [bG,i0,zh]
 have c2:bG jQ (.or (.isc (.var 5) 1) (.or (.isc (.var 5) 3) (.isc (.var 5) 2))) (ae [some t0,some t1,some t2',some t3,x,some (qT ms F),w])=some false:=by
  rw [D4];simp [bG,i0,zh]
 have c3:bG jQ (.or (.not (.call 54 (.cons (.fld (.var 5) "moves") .nil))) (.not (.isi (.fld (.var 5) "falls") 2))) (ae [some t0,some t1,some t2',some t3,x,some (qT ms F),w])=some false:=by
  have:pR (bq F) 2=some true:=rfl
  rw [D4];simp [bG,w54,tN (ps:=ms) (by lia),this]
 have c4:bG jQ (.or (.not (.un .all (.comp (.call 53 (.cons (.var 0) .nil)) [] (.fld (.var 5) "falls") .nil))) (.cmp .In (.lst .nil) (.fld (.var 5) "falls"))) (ae [some t0,some t1,some t2',some t3,x,some (qT ms F),w])=some false:=by
  rw [D4]
  have a:ev jQ (.un .all (.comp (.call 53 (.cons (.var 0) .nil)) [] (.fld (.var 5) "falls") .nil)) [some (strip t0),some (nD r),some (nD r),some (nD r.reverse),x.map strip,some (qD ms F),w.map strip]=some (.bl true):=
   oB (l:=F) (ds:=F.map nD) (by simp [bq]) (by simp;lia) (yY fun g hg=>by
    have:=hflen g hg
    simp [inner,w53,pB (r:=g) (by lia)])
  have a2:bV .In (.lst []) (bq F)=some (.bl false):=by
   show(if([]:List D).isEmpty&&(F.map nD).all HD then some (D.bl false)else none)=_
   rw [aF]
   rw [Bool.and_eq_true]
   refine⟨rfl,nI.mpr fun d hd=> ?_⟩
   obtain⟨f,hf,rfl⟩:=v7.mp hd
   have:=hne f hf
   cases f with
   |nil=>exact absurd rfl this
   |cons a f=>rfl
  have s0:sz 0=true:=rfl
  rw [bG,m7,gE,a]
  simp [a2,s0]
 have c5:bG jQ (.or (.not (.call 68 (.cons (.var 1) (.cons (.fld (.var 5) "moves") (.cons (.fld (.var 5) "falls") .nil))))) (.cmp .IsNot (.meth (.var 5) 0 (.cons (.var 1) .nil)) (.bl true))) (ae [some t0,some t1,some t2',some t3,x,some (qT ms F),w])=some false:=by
  rw [D4];simp [bG,wm,w68,hsh,hdu]
 have hx:gJ jQ none (.tup (.cons (.var 3) (.cons (.bin .Add (.var 1) (.lst (.cons (.un .len (.var 1)) .nil))) .nil))) [some t0,some t1,some t2',some t3,x,some (qT ms F),w]=some ([nD r.reverse,nD (r++[r.length])],[some t0,some (.sh (nD r)),some t2',some (.sh (nD r.reverse)),x,some (qT ms F),w]):=by
  have hz:frz none [some t0,some t1,some t2',some t3,x,some (qT ms F),w] [3,1,1]=some [some t0,some (.sh (nD r)),some t2',some (.sh (nD r.reverse)),x,some (qT ms F),w]:=by
   rcases h1 with rfl|rfl<;>rcases h3 with rfl|rfl<;>simp [frz,nT,nD,gy]
  unfold gJ
  rw [aK (by simp [lD]),show aX (.tup (.cons (.var 3) (.cons (.bin .Add (.var 1) (.lst (.cons (.un .len (.var 1)) .nil))) .nil)))=[3,1,1]from rfl,hz,obs]
  have hn:nD (r++[r.length])=.lst (nl r++[.int r.length]):=by simp [nD,nl]
  have ln:iG .len (nD r)=some (.int r.length):=by rw [nD,eu,bb]
  have s1:sz 1=true:=rfl
  have s2:sz 2=true:=rfl
  have s3:sz ((nl r).length+1)=true:=dh (by simp;lia)
  have:az jQ (.tup (.cons (.var 3) (.cons (.bin .Add (.var 1) (.lst (.cons (.un .len (.var 1)) .nil))) .nil))) (gC [some t0,some (.sh (nD r)),some t2',some (.sh (nD r.reverse)),x,some (qT ms F),w])=some [nD r.reverse,nD (r++[r.length])]:=by
   rw [hn]
   simp only [az,Aa,Cb,Du,Io,aR,aE,bU,xC,b6,dE]
   simp [ln,s1,s2]
   rw [show nD r=.lst (nl r)from rfl,xS]
   simp only [List.length_cons,List.length_nil,qO]
   rw [aF s3]
   simp [s2]
  rw [this];rfl
 have so:∀s b,bF [qD ms F,nD s]=some (.sh (.bl b))→bA [nD s,pD ms,bq F]=some (.sh (.bl b))→ex jQ Δ2 none 100 uR [some t0,some (.sh (nD r)),some t2',some (.sh (nD r.reverse)),x,some (qT ms F),some (.sh (nD s))]=some (.nx,[some t0,some (.sh (nD r)),some t2',some (.sh (nD r.reverse)),x,some (qT ms F),some (.sh (nD s))]):=fun s b k1 k2=>by
  refine(aH ?_).trans rfl
  simp [bG,wm,w68,k1,k2,h2'.strip]
 have hf:forL (fun d e=>ex jQ Δ2 none 100 uR (e.set 6 (some (.sh d)))) [nD r.reverse,nD (r++[r.length])] [some t0,some (.sh (nD r)),some t2',some (.sh (nD r.reverse)),x,some (qT ms F),w]=some (.nx,[some t0,some (.sh (nD r)),some t2',some (.sh (nD r.reverse)),x,some (qT ms F),some (.sh (nD (r++[r.length])))]):=by
  show(ex jQ Δ2 none 100 uR [some t0,some (.sh (nD r)),some t2',some (.sh (nD r.reverse)),x,some (qT ms F),some (.sh (nD r.reverse))]).bind _=_
  rw [so _ _ hb1 hb2]
  show(ex jQ Δ2 none 100 uR [some t0,some (.sh (nD r)),some t2',some (.sh (nD r.reverse)),x,some (qT ms F),some (.sh (nD (r++[r.length])))]).bind _=_
  rw [so _ _ hg1 hg2]
  rfl
 have E4:∀(ps:List (Nat×Nat)) (S:List (List Nat)) (w:Option T),ae [some t0,some (.sh (nD r)),some t2',some (.sh (nD r.reverse)),x,some (qT ps S),w]=[some (strip t0),some (nD r),some (nD r),some (nD r.reverse),x.map strip,some (qD ps S),w.map strip]:=fun ps S w=>by simp [h2'.strip]
 have bad:∀(S:List (List Nat)) (w:Option T),¬Parts r.length S→bG jQ (.cmp .IsNot (.meth (.var 5) 0 (.cons (.var 1) .nil)) (.bl false)) (ae [some t0,some (.sh (nD r)),some t2',some (.sh (nD r.reverse)),x,some (qT ms S),w])=some false:=fun S w hS=>by
  rw [E4];simp [bG,wm,ie (ps:=ms) hr (by lia) (rS (rd (by lia) hS))]
 have s0:sz 1=true:=rfl
 have e3:∀w,bL jQ none (.lst (.cons (.int 0) .nil)) [some t0,some (.sh (nD r)),some t2',some (.sh (nD r.reverse)),x,some (qT ms F),w]=some (nT [0],[some t0,some (.sh (nD r)),some t2',some (.sh (nD r.reverse)),x,some (qT ms F),w]):=fun w=>bB (ds:=[.int 0]) rfl rfl (by simp [s0]) rfl
 have o1:T.ob 4 ["moves","falls"] ([pT ms,kG F].set 1 (.ow (F.map nT++[nT [0]])))=qT ms (F++[[0]]):=by simp [qT,kG]
 have o2:T.ob 4 ["moves","falls"] ([pT ms,kG (F++[[0]])].set 1 (.ow ((F++[[0]]).map nT).dropLast))=qT ms F:=by simp [qT,kG]
 have fin:∃y',∀w,ex jQ Δ2 none 100 (.seq (.ife (.cmp .NotEq (.var 1) (.lst .nil)) (.seq (.appFA 5 "falls" (.int 0) (.un .len (.var 1))) (.seq (.ife (.cmp .IsNot (.meth (.var 5) 0 (.cons (.var 1) .nil)) (.bl false)) (.seq (.ret (.bl false)) .nop) .nop) .nop)) .nop) .nop) [some t0,some (.sh (nD r)),some t2',some (.sh (nD r.reverse)),x,some (qT ms F),w]=some (.nx,[some t0,some (.sh (nD r)),some t2',some (.sh (nD r.reverse)),x,y',w]):=by
  have sz0:sz 0=true:=rfl
  have c6:∀w,bG jQ (.cmp .NotEq (.var 1) (.lst .nil)) (ae [some t0,some (.sh (nD r)),some t2',some (.sh (nD r.reverse)),x,some (qT ms F),w])=some (!decide (r=[])):=fun w=>by
   rw [E4];simp [bG,Ir,sz0]
  by_cases hn:r=[]
  ·refine⟨some (qT ms F),fun w=>(aH (by rw [c6,de hn];rfl)).trans rfl⟩
  ·obtain⟨g,F',rfl⟩:∃g F',F=g::F':=by
    cases F with
    |nil=>
     have h:=kO P.A
     exact absurd (Ar.mp h.symm) hn
    |cons g F'=>exact⟨g,F',rfl⟩
   have gl:=hflen g (lU ..)
   have o3:T.ob 4 ["moves","falls"] ([pT ms,kG (g::F')].set 1 (.ow (((g::F').map nT).set 0 (.ow ((nl g).map T.sh++[.sh (.int r.length)])))))=qT ms ((g++[r.length])::F'):=by simp [qT,kG,nT,nl]
   refine⟨some (qT ms ((g++[r.length])::F')),fun w=>(gR (t:=true) (by rw [c6,eC hn];rfl) ?_).trans rfl⟩
   rw [aF rfl]
   refine(AV (l:=0) (vs:=(nl g).map T.sh) (d:=.int r.length) rfl (iy _ _) rfl (c8 (i:=0) (by simp)) rfl ?_ ?_).trans ?_
   ·rw [E4,b6,aE];exact dY r
   ·have:sz ((nl g).map T.sh).length=true:=dh (by simp;lia)
    rw [this];rfl
   ·rw [o3]
    exact(aH (bad _ w u7)).trans rfl
 obtain⟨y',fin⟩:=fin
 refine⟨.sh (nD r),t2',.sh (nD r.reverse),y',some (.sh (nD (r++[r.length]))),.inl rfl,h2',.inl rfl,?_⟩
 refine(aq rfl e1).trans ((aH c1).trans ((aH c2).trans ((aH c3).trans ((aH c4).trans ((aH c5).trans ((cL rfl hx hf).trans ?_))))))
 refine(Ds (e3 _) rfl (iy _ _) (dh (by simp;lia))).trans ?_
 rw [o1]
 refine(aH (bad _ _ (wO P.A))).trans ?_
 refine(Dm rfl (iy _ _) (by simp)).trans ?_
 rw [o2]
 exact fin _
theorem HM:∀ns:List Int,ns.length≤63→BX [.lst (ns.map D.int)]=some (.sh (.bl true)):=fun ns hl=>by
 obtain⟨r,hr,hrl,hrow⟩:=GV ns hl
 obtain⟨lf,F,P,hg⟩:=GZ hr (by lia)
 have w52:jQ 52=some kM:=rfl
 have e1:bL jQ none (.call 52 (.cons (.var 0) .nil)) [some (.sh (iD ns)),none,none,none,none,none,none]=some (nT r,[some (.sh (iD ns)),none,none,none,none,none,none]):=aW w52 rfl hrow (oy r)
 have e2:bL jQ none (.un .list (.var 1)) [some (.sh (iD ns)),some (nT r),none,none,none,none,none]=some (nT r,[some (.sh (iD ns)),some (nT r),none,none,none,none,none]):=xg (r:=r) (by simp)
 have e3:bL jQ none (.rev (.var 1)) [some (.sh (iD ns)),some (nT r),none,none,none,none,none]=some (nT r.reverse,[some (.sh (iD ns)),some (nT r),none,none,none,none,none]):=by
  refine bB (ds:=nl r.reverse) rfl rfl ?_ (aP _)
  simp [nD,Ba]
 obtain⟨env',hf,t1,t2,t3,x,y,w,rfl,_,_,_⟩:=bc (step:=fun d e=>ex jQ Δ2 none 100 Li (e.set 4 (some (.sh d)))) (fun k e=>∃t1 t2 t3 x y w,e=[some (.sh (iD ns)),some t1,some t2,some t3,x,y,w]∧Ao r t1∧Ao r t2∧Ao r.reverse t3) (ds:=nl (List.range 2)) (env:=[some (.sh (iD ns)),some (nT r),some (nT r),some (nT r.reverse),none,none,none]) ⟨_,_,_,_,_,_,rfl,.inr rfl,.inr rfl,.inr rfl⟩ (fun k d e hd ⟨t1,t2,t3,x,y,w,he,h1,h2,h3⟩=>by
  subst he
  obtain⟨t1',t2',t3',y',w',h1',h2',h3',st⟩:=Ey (t0:=.sh (iD ns)) (x:=some (.sh d)) (y:=y) (w:=w) (by lia) P hg h1 h2 h3
  exact⟨_,st,t1',t2',t3',_,y',w',rfl,h1',h2',h3'⟩)
 have hx:gJ jQ none (.rng (.int 2)) [some (.sh (iD ns)),some (nT r),some (nT r),some (nT r.reverse),none,none,none]=some (nl (List.range 2),[some (.sh (iD ns)),some (nT r),some (nT r),some (nT r.reverse),none,none,none]):=rfl
 exact bo rfl ((aq rfl e1).trans ((ya rfl e2 e3).trans ((cL rfl hx hf).trans (bX (by simp) (qd _ _ _ _)))))
end MI
end
noncomputable section
namespace MI
open PySem PySem.Spec PySem.W PyProof.Rows L2
noncomputable def xv(h:Heap):W.Frag:=(List.range h.objs.size).filterMap fun a=>(h.get? a).map fun o=>(a,o)
theorem pM:∀ {K:W.Frag},K.lookup a=some o→(a,o)∈K
 |(b,u)::r,h=>by
  rw [sF]at h
  split at h
  ·rename_i e
   cases h
   rw [show a=b by simpa using e]
   exact lU ..
  ·exact lT _ (pM h)
theorem EK{h h':Heap}(k:∀b o,h.get? b=some o→h'.get? b=some o):(xv h).In h':=fun a o e=>by
 obtain⟨b,_,q⟩:=List.mem_filterMap.mp (pM e)
 obtain⟨u,hu,q⟩:=aM q
 cases q
 exact k _ _ hu
structure Fv where
 name:Str
 qual:Str
 args:Arguments
 body:FuncBody
 scope:Scope
 globals:Addr
 closure:List (Str×Addr)
 defaults:Value
 builtins:Addr
 ok:Bool
noncomputable def MC(K:W.Frag)(a:Addr)(fd:FuncData):Fv:=⟨fd.name,fd.qualname,fd.params,fd.body,fd.scope,fd.globals,fd.closure,fd.defaults,fd.builtins,W.codeIn K fd.code fd.qualname&&W.keepIn K (.ref a)⟩
noncomputable def EN(K:W.Frag)(x:Str):Option Fv:=match W.nsIn K mainGlobals x with
 |some (some (.ref a))=>(match K.lookup a with
  |some ⟨_,_,.func fd,_⟩=>some (MC K a fd)
  |_=>none)
 |_=>none
noncomputable def cU(x:Str)(st:Stmt):Option Fv:=some ⟨x,x,eD st,.stmts (aj st),ai st,mainGlobals,[],.none,builtinsNs,true⟩
noncomputable def Jf(K:W.Frag)(x:Str):Bool:=match W.nsIn K mainGlobals x with
 |some none=>true
 |_=>false
noncomputable def Nn(K:W.Frag)(x:Str):Option Int:=match W.nsIn K mainGlobals x with
 |some (some (.int i _))=>some i
 |_=>none
theorem yQ{K:W.Frag}{x:Str}{st:Stmt}(h:EN K x=cU x st):∃(f:Addr) (od an:Option Addr) (sl:Array (Option Value)) (oc kV dc pm cd ct:Value),W.nsIn K mainGlobals x=some (some (.ref f))∧
 K.lookup f=some ⟨oc,od,.func (W.fnOf x x (eD st) (aj st) (ai st) .none kV dc pm an cd ct),sl⟩∧W.codeIn K cd x=true∧W.keepIn K (.ref f)=true:=by
 unfold EN cU at h
 split at h
 ·rename_i a ha
  split at h
  ·rename_i oc od fd sl hl
   have h:=cC h
   unfold MC at h
   obtain⟨n,q,ps,b,sc,g,c,d,kV,dc,pm,an,cd,ct,bi⟩:=fd
   injection h with h1 h2 h3 h4 h5 h6 h7 h8 h9 h10
   dsimp only at h1 h2 h3 h4 h5 h6 h7 h8 h9 h10
   subst h1 h2 h3 h4 h5 h6 h7 h8 h9
   obtain⟨k1,k2⟩:=bg h10
   exact⟨a,od,an,sl,oc,kV,dc,pm,cd,ct,ha,hl,k1,k2⟩
  ·cases h
 ·cases h
theorem Fi{K:W.Frag}{x:Str}(h:Jf K x=true):W.nsIn K mainGlobals x=some none:=by
 unfold Jf at h
 split at h
 ·assumption
 ·cases h
noncomputable def IU(K:W.Frag)(x:Str):Option Addr:=match W.nsIn K mainGlobals x with
 |some (some (.ref a))=>some a
 |_=>none
theorem IT{K:W.Frag}{x:Str}{C:Addr}(h:IU K x=some C):W.nsIn K mainGlobals x=some (some (.ref C)):=by
 unfold IU at h
 split at h
 ·cases h;assumption
 ·cases h
noncomputable def BO(o:Option (Option Value))(s:String):Bool:=match o with
 |some (some (.builtin t))=>t==s
 |_=>false
theorem tR(h:BO o s=true):o=some (some (.builtin s)):=by
 unfold BO at h
 split at h
 ·rw [eq_of_beq h]
 ·cases h
noncomputable def HX(o:Option (Option Value)):Bool:=match o with
 |some none=>true
 |_=>false
theorem EC(h:HX o=true):o=some none:=by
 unfold HX at h
 split at h
 ·rfl
 ·cases h
noncomputable def Ln(o:Option Bool)(b:Bool):Bool:=match o with
 |some c=>c==b
 |none=>false
theorem xq(h:Ln o b=true):o=some b:=by
 unfold Ln at h
 split at h
 ·rw [eq_of_beq h]
 ·cases h
noncomputable def IE(K:W.Frag)(C:Addr):Bool:=W.plainGet K C Str.empty&&(W.hasDictIn K C&&(W.plainOver K C&&(BO (W.findIn K (.ref C) "__setattr__") "object.__setattr__"&&(vV.all (fun f=>HX (W.findIn K (.ref C) f))&&(BO (W.findIn K (.ref C) "__class__") "object.__class__"&&(BO (W.specialIn K (.builtin "object.__class__") "__get__") "getset_descriptor.__get__"&&(Ln (W.takesIn K (.builtin "object.__class__")) true&&Ln (W.mroIn K C (.type "object")) true)))))))
theorem EX{K:W.Frag}{C:Addr}(h:IE K C=true):Cls K C∧(∀f∈vV,jy K C f)∧ClsT K C:=by
 unfold IE at h
 simp only [Bool.and_eq_true]at h
 obtain⟨h1,h2,h3,h4,h5,h6,h7,h8,h9⟩:=h
 exact⟨⟨h1,h2,h3,tR h4⟩,fun f hf=>EC (nI.mp h5 f hf),⟨tR h6,tR h7,xq h8,xq h9⟩⟩
noncomputable def n0(K:W.Frag)(cs:List Str)(i:Nat):Option Addr:=match cs[i]? with
 |some x=>IU K x
 |none=>none
noncomputable def K5(K:W.Frag)(cs:List Str)(i j:Nat):Bool:=match n0 K cs i,n0 K cs j with
 |some I,some J=>Ln (W.kitOne K (.ref I) (.ref J)) (zh i j)
 |_,_=>false
noncomputable def LO(K:W.Frag)(cs:List Str)(i:Nat):Bool:=(match n0 K cs i with
 |some C=>IE K C
 |none=>false)&&(List.range cs.length).all (K5 K cs i)
noncomputable def Jk(K:W.Frag)(cs:List Str):Bool:=(List.range cs.length).all (LO K cs)
theorem ui{K:W.Frag}{cs:List Str}{i:Nat}{C:Addr}(h:n0 K cs i=some C):i<cs.length:=by
 unfold n0 at h
 split at h
 ·rename_i e;exact(j4.mp e).1
 ·cases h
theorem Fn{K:W.Frag}{cs:List Str}(h:Jk K cs=true):gw K (n0 K cs):=by
 have A:=fun i (hi:i<cs.length)=>bg (nI.mp h i (kY.mpr hi))
 refine⟨fun i C hC=> ?_,fun i I j J hI hJ=> ?_⟩
 ·have:=(A i (ui hC)).1
  rw [hC]at this
  exact EX this
 ·have:=nI.mp (A i (ui hI)).2 j (kY.mpr (ui hJ))
  unfold K5 at this
  rw [hI,hJ]at this
  exact xq this
theorem jP{K:W.Frag}{cs:List Str}(h:Jk K cs=true){i:Nat}{x:Str}(hx:cs[i]?=some x):∃C,n0 K cs i=some C∧W.nsIn K mainGlobals x=some (some (.ref C)):=by
 have hi:=(j4.mp hx).1
 have:=(bg (nI.mp h i (kY.mpr hi))).1
 split at this
 ·rename_i C hC
  refine⟨C,hC,IT ?_⟩
  unfold n0 at hC
  rw [hx]at hC
  exact hC
 ·cases this
noncomputable def Nc(K:W.Frag)(x:Str):Bool:=match IU K x with
 |some C=>W.makesIn K C&&W.keepIn K (.ref C)
 |none=>false
theorem BH{K:W.Frag}{x:Str}{C:Addr}(h:Nc K x=true)(e:W.nsIn K mainGlobals x=some (some (.ref C))):W.makesIn K C=true∧W.keepIn K (.ref C)=true:=by
 unfold Nc IU at h
 rw [e]at h
 exact bg h
noncomputable def Ep(K:W.Frag)(p:Str×Str):Option Fv:=match IU K p.1 with
 |some C=>(match W.findIn K (.ref C) p.2 with
  |some (some (.ref a))=>(match W.isFn K (.ref a)with
   |true=>(match K.lookup a with
    |some ⟨_,_,.func fd,_⟩=>some (MC K a fd)
    |_=>none)
   |false=>none)
  |_=>none)
 |none=>none
noncomputable def tL(m q:Str)(st:Stmt):Option Fv:=some ⟨m,q,eD st,.stmts (aj st),ai st,mainGlobals,[],.none,builtinsNs,true⟩
theorem Eo{K:W.Frag}{x m q:Str}{C:Addr}{st:Stmt}(hC:W.nsIn K mainGlobals x=some (some (.ref C)))(h:Ep K (x,m)=tL m q st):∃(f:Addr) (od an:Option Addr) (sl:Array (Option Value)) (oc kV dc pm cd ct:Value),W.findIn K (.ref C) m=some (some (.ref f))∧W.isFn K (.ref f)=true∧
 K.lookup f=some ⟨oc,od,.func (W.fnOf m q (eD st) (aj st) (ai st) .none kV dc pm an cd ct),sl⟩∧W.codeIn K cd q=true∧W.keepIn K (.ref f)=true:=by
 unfold Ep tL IU at h
 dsimp only at h
 rw [hC]at h
 dsimp only at h
 split at h
 ·rename_i a ha
  split at h
  ·rename_i hf
   split at h
   ·rename_i oc od fd sl hl
    have h:=cC h
    unfold MC at h
    obtain⟨n,q',ps,b,sc,g,c,d,kV,dc,pm,an,cd,ct,bi⟩:=fd
    injection h with h1 h2 h3 h4 h5 h6 h7 h8 h9 h10
    dsimp only at h1 h2 h3 h4 h5 h6 h7 h8 h9 h10
    subst h1 h2 h3 h4 h5 h6 h7 h8 h9
    obtain⟨k1,k2⟩:=bg h10
    exact⟨a,od,an,sl,oc,kV,dc,pm,cd,ct,ha,hf,hl,k1,k2⟩
   ·cases h
  ·cases h
 ·cases h
structure Asks where
 fs:List Str
 ms:List (Str×Str)
 gs:List Str
 bs:List Str
 cs:List Str
 mks:List Str
noncomputable abbrev Am:=List (Option Fv)×List (Option Fv)×List (Option Int)×Bool
noncomputable def look(q:Asks)(K:W.Frag):Am:=(q.fs.map (EN K),q.ms.map (Ep K),q.gs.map (Nn K),q.bs.all (Jf K)&&(Jk K q.cs&&q.mks.all (Nc K)))
noncomputable def pP(q:Asks)(due:Am):W.Hook:=
 ⟨_,fun s=>look q (xv s.heap),fun _=>due,fun _ h=>∃h₀:Heap,(∀b o,h₀.get? b=some o→h.get? b=some o)∧look q (xv h₀)=due,fun _ s e=>⟨s.heap,fun _ _ z=>z,e⟩,fun _ h h' ⟨h₀,k,e⟩ k'=>⟨h₀,fun b o z=>k' b o (k b o z),e⟩⟩
theorem JK{l:W.OpenLaw}{d:DefRec}(hn:l.most=some n)(hn2:n≤sizeLine)(hdf:d.params.defaults=[])(hr:Room k callerA)(F:∀(w:World) (mg:Str→Option Value) (fa:Addr) (K:W.Frag) (h:Heap),K.In h→h.Ns mainGlobals mg→mg d.name=some (.ref fa)→look a K=due→
 ∃(cl:Nat→Option Addr) (fd:FuncData),(∀(s:Shared) (u:Value),BindsTo s fd ⟨[u],[]⟩ [(x,u)])∧
  ∀base:Heap,K.In base→base.Ns mainGlobals mg→FnOk l.prog w K mg base km k fa fd [x] (spP K cl g))(hg:∀ns:List Int,ns.length≤n→g [.lst (ns.map D.int)]=some (.sh (.bl true))):
 W.WalkO q loose XP (pP a due).says l.row.toRowW d [] (fun f vs=>PySem.call f vs):=by
 refine Att.attach_call hn hdf fun w s₀ s₁ mg mb fa o pm cd doc b vs ns G Y ho hd hcd hmg hobj hints hlen hg'=> ?_
 obtain⟨h₀,kk,e⟩:=Y
 have KX:(xv h₀).In s₁.heap:=EK kk
 obtain⟨cl,fd,hb,hF⟩:=F w mg fa _ _ KX G.T.g hmg e
 refine zW (CX:=km) (sp:=spP (xv h₀) cl g) KX G.T.g G.T.b G.T.builtins G.T.nolimit hg' hobj hints (nH hlen hn2) hr hF hb (fun H hS=> ?_) fun H e s' z=>z
 exact⟨H,_,_,.refl _,.cons (.lst hS (hR ns)) .nil,hg ns hlen,fun v H' G' A e ot nd nw=>by cases ot with|sh dn=>cases dn;rfl⟩
noncomputable def oe(tb:String→Option Builtin)(p:Program)(w:World)(n₀:Nat)(ann:Option Value):Nat→SharedT→Thread→Option SharedT
 |0,_,_=>none
 |n+1,s,t=>match through t with
  |true=>some s
  |false=>match stepOk n₀ ann t with
   |false=>none
   |true=>match stepT (denote tb) p w s t with
    |some (s',t')=>oe tb p w n₀ ann n s' t'
    |none=>none
theorem rj:∀ {n:Nat} {s s':SharedT} {t:Thread},oe tb p w n₀ ann n s t=some s'→topRun tb p w n₀ ann n s.abs t=some s'.abs
 |0,_,_,_,h=>by cases h
 |n+1,s,s',t,h=>by
  unfold oe at h
  unfold topRun
  cases he:through t with
  |true=>rw [he]at h;cases h;rfl
  |false=>
   rw [he]at h
   cases hk:stepOk n₀ ann t with
   |false=>rw [hk]at h;cases h
   |true=>
    rw [hk]at h
    cases hs:stepT (denote tb) p w s t with
    |none=>rw [hs]at h;cases h
    |some r=>obtain⟨s₂,t₂⟩:=r;rw [hs]at h;rw [stepT_spec hs];exact rj h
noncomputable def AD:List Obj→Nat→BT→BT
 |[],_,t=>t
 |o::r,i,t=>AD r (i+1) (t.ins i o)
noncomputable def Fu(P:Params):BT:=AD (boot_heap P).objs.toList 0 .nil
noncomputable def MU(P:Params)(os:OsState):SharedT:=⟨Fu P,11,(boot_heap P).life,⟨[]⟩,boot_drawn,boot_toks,os⟩
theorem AE(P:Params):absHeap (Fu P) 11 (boot_heap P).life=boot_heap P:=by kernel_rfl
theorem Fg(P:Params):((boot_heap P).isNs mainGlobals&&(⟨[]⟩:Array GenState).size==0,(boot_heap P).objs.size,(boot_heap P).nsMap mainGlobals "__annotations__")=(true,11,some (.ref 6)):=by kernel_rfl
noncomputable def Np(s:SharedT):W.Frag:=(List.range s.n).filterMap fun a=>(alive ((s.tree.get a).getD default)).map fun o=>(a,o)
theorem lH{α β:Type}{f g:α→Option β}:∀ {l:List α},(∀x∈l,f x=g x)→l.filterMap f=l.filterMap g
 |[],_=>rfl
 |x::l,h=>by rw [zc,zc,h x (lU ..),lH fun y hy=>h y (lT _ hy)]
theorem Ii(s:SharedT):xv s.abs.heap=Np s:=by
 unfold xv Np
 rw [show s.abs.heap.objs.size=s.n from absHeap_size ..]
 refine lH fun a ha=> ?_
 have h:=kY.mp ha
 have e:s.abs.heap.get? a=alive ((s.tree.get a).getD default):=by
  show(absHeap s.tree s.n s.life).get? a=_
  unfold Heap.get?
  rw [absHeap_at,aF h]
  generalize (s.tree.get a).getD default=o
  obtain⟨c,d,dt,sl⟩:=o
  cases dt<;>rfl
 rw [e]
theorem zV{α:Type}{Yf:Shared→α}{Yt:SharedT→α}{Ya:World→α}(hY:∀s:SharedT,Yf s.abs=Yt s)(e:opening p=plainProg p.main.scope.names)(hN:Nat.ble 600 N=true)(f:∀s,fenceModules? p s=some s)(run:∀(w:World) (os:OsState),(oe treeTable p w 11 (some (.ref 6)) N (MU w.params os) (topStub p)).map (fun s=>(staticsOk (importedModules p.main.body) (boot_heap w.params) s.abs.heap&&namesBound p s.abs.heap&&gensDone s.abs&&laidKept (boot_heap w.params) s.abs.heap,openSeen q loose (importedModules p.main.body) Xt true s.abs,Yt s))=some (true,openGood q loose,Ya w)):LeftO p q loose Xt Yf Ya N:=fun w=>by
 obtain⟨⟨h,gs,d,k,os⟩,e0,e'⟩:=aM (boot_open e hN f w)
 obtain⟨rfl,rfl,rfl,rfl⟩:h=boot_heap w.params∧gs=⟨[]⟩∧d=boot_drawn∧k=boot_toks:=by simpa using e'
 obtain⟨z1,z2,z3⟩:_∧_∧_:=by simpa only [Prod.mk.injEq]using Fg w.params
 obtain⟨s,hs,hv⟩:=aM (run w os)
 obtain⟨l1,l2,l3⟩:_∧_∧_:=by simpa only [Prod.mk.injEq]using hv
 have r:=rj hs
 rw [show(MU w.params os).abs=⟨boot_heap w.params,⟨[]⟩,boot_drawn,boot_toks,os⟩ by unfold MU SharedT.abs;dsimp only;rw [AE]]at r
 have t:topFrom treeTable p w N ⟨boot_heap w.params,⟨[]⟩,boot_drawn,boot_toks,os⟩=some s.abs:=by
  unfold topFrom
  dsimp only
  rw [z1,z2,z3,r]
  show(match staticsOk (importedModules p.main.body) (boot_heap w.params) s.abs.heap&&namesBound p s.abs.heap&&gensDone s.abs&&laidKept (boot_heap w.params) s.abs.heap with|true=>_|false=>_)=_
  rw [l1]
 unfold openEnds
 rw [e0]
 show(topFrom treeTable p w N _).map _=_
 rw [t]
 exact congrArg some (Prod.ext l2 ((hY s).trans l3))
theorem HK(q:Asks)(due:Am)(s:SharedT):(pP q due).obs s.abs=look q (Np s):=congrArg (look q) (Ii s)
end MI
end
noncomputable section
namespace MI
open PySem L2 PyProof.Rows
abbrev OF(N:List Str)(st:Stmt):Prop:=∀x∈N,(ai st).names.lookup x=some .local∨(ai st).names.lookup x=some .cell
noncomputable def Oo(N ps:List Str)(st:Stmt):Bool:=decide ((ai st).kind=.function∧(ai st).isCoroutine=false∧(ai st).isGenerator=false∧N.Nodup∧N.take ps.length=ps∧(∀x∈ps,(ai st).names.lookup x=some .local∨(ai st).names.lookup x=some .cell)∧(∀y∈(ai st).names,y.2≠.free)∧OF N st)
theorem eS{N ps:List Str}{st:Stmt}(h:Oo N ps st=true):FnScope N ps (ai st)∧OF N st:=by
 obtain⟨h1,h2,h3,h4,h5,h6,h7,h8⟩:=fm h
 exact⟨⟨h1,h2,h3,h4,h5,h6,h7⟩,h8⟩
structure Dk(c:CS)(N ps:List Str)(st:Stmt)(l:List Stmt)(b:S):Prop where
 sc:Oo N ps st=true
 cc:vZ c 40 N (ai st) l=some b
 bd:∀(x q:Str) (kV doc pm:Value) (an:Option Addr) (cdv ct:Value) (us:List Value),us.length=ps.length→bindArgs (W.fnOf x q (eD st) (aj st) (ai st) .none kV doc pm an cdv ct) ⟨us,[]⟩=pure (ps.zip us)
noncomputable abbrev CS.aT(c:CS)(x:Str)(f:Nat):CS:=⟨⟨(x,f)::c.cc.tab,c.cc.gi,c.cc.cn⟩,c.iot⟩
noncomputable abbrev CS.aI(c:CS)(x:Str)(f j:Nat):CS:=⟨c.cc,(x,f,j)::c.iot⟩
theorem y8{us:List Value}(h:us.length=1):∃a,us=[a]:=List.length_eq_one_iff.mp h
theorem rg{us:List Value}(h:us.length=2):∃a b,us=[a,b]:=by
 cases us with
 |nil=>cases h
 |cons a r=>obtain⟨b,rfl⟩:=y8 (Nat.succ.inj h);exact⟨a,b,rfl⟩
theorem NQ{us:List Value}(h:us.length=3):∃a b c,us=[a,b,c]:=by
 cases us with
 |nil=>cases h
 |cons a r=>obtain⟨b,c,rfl⟩:=rg (Nat.succ.inj h);exact⟨a,b,c,rfl⟩
theorem fG{K:W.Frag}{x:Str}{st:Stmt}{l r:List (Option Fv)}(e:EN K x::l=cU x st::r):∃f fd,Fun K x x st f fd∧W.nsIn K mainGlobals x=some (some (.ref f))∧l=r:=by
 obtain⟨t,e⟩:=List.cons.inj e
 obtain⟨f,od,an,sl,oc,kV,dc,pm,cd,ct,a,l,c,k⟩:=yQ t
 exact⟨f,_,xu l c k,a,e⟩
theorem mG{K:W.Frag}{x m q:Str}{C:Addr}{st:Stmt}{l r:List (Option Fv)}(hC:W.nsIn K mainGlobals x=some (some (.ref C)))(e:Ep K (x,m)::l=tL m q st::r):∃f fd,Fun K m q st f fd∧W.findIn K (.ref C) m=some (some (.ref f))∧W.isFn K (.ref f)=true∧l=r:=by
 obtain⟨t,e⟩:=List.cons.inj e
 obtain⟨f,od,an,sl,oc,kV,dc,pm,cd,ct,a,n,l,c,k⟩:=Eo hC t
 exact⟨f,_,xu l c k,a,n,e⟩
section
variable{P:Program}{w:World}{K:W.Frag}{mg:Str→Option Value}{base:Heap}{cl:Nat→Option Addr}{c:CS}{Γ:bu}{Δ:gH}{k:Nat}{x q:Str}{f j:Nat}{st:Stmt}{fa C:Addr}{fd:FuncData}{N ps:List Str}{b:S}
theorem Lw.sP(L:Lw P w K mg base cl c Γ Δ k)(hf:(decide (f<1000)&&c.cc.tab.all (fun p=>p.2 !=f))=true)(F:Fun K x x st fa fd)(D:Dk c N ps st (aj st) b)(hm:mg x=some (.ref fa)):Lw P w K mg base cl (c.aT x f) (bM Γ f (gP Γ Δ 100 N ps.length b)) Δ (k+1):=by
 obtain⟨h1,h2⟩:=bg hf
 exact L.join (fm h1) h2 (L.run (m:=100) F (eS D.sc).1 (eS D.sc).2 D.cc) hm F.kp (F.binds (D.bd x x))
theorem Lw.sI(L:Lw P w K mg base cl c Γ Δ k)(hf:(decide (f<1000)&&c.iot.all (fun p=>p.2.1 !=f))=true)(F:Fun K x x st fa fd)(D:Dk c N ps st (aj st) b)(hm:mg x=some (.ref fa)):Lw P w K mg base cl (c.aI x f j) Γ (nX Δ f j (gQ Γ Δ 100 N j ps.length b)) (k+1):=by
 obtain⟨h1,h2⟩:=bg hf
 exact L.HS (fm h1) h2 (L.KE (m:=100) F (eS D.sc).1 (eS D.sc).2 D.cc) hm F.kp (F.binds (D.bd x x))
theorem Lw.sC{c0:Nat}(L:Lw P w K mg base cl c Γ Δ k)(hf:(decide (f<1000)&&c.cc.tab.all (fun p=>p.2 !=f))=true)(hcl:cl c0=some C)(M:L2.Mk K C fa)(F:Fun K z q st fa fd)(D:Dk c (y::N) ps st (aj st) b)(h0:0∉cZ b)(hm:mg x=some (.ref C)):Lw P w K mg base cl (c.aT x f) (bM Γ f (gI Γ Δ 100 (y::N) c0 ps.length b)) Δ (k+2):=by
 obtain⟨h1,h2⟩:=bg hf
 exact L.Lk (fm h1) h2 M (L.runC (m:=100) hcl F (eS D.sc).1 (eS D.sc).2 D.cc h0) hm (F.binds (D.bd z q))
theorem Lw.sM(L:Lw P w K mg base cl c Γ Δ k)(hn:c.cc.tab.all (fun p=>decide (p.2<1000))=true)(hi:uB[i]?=some m)(hcl:cl d=some C)(h1:W.findIn K (.ref C) m=some (some (.ref fa)))(h2:W.isFn K (.ref fa)=true)(F:Fun K m q st fa fd)(D:Dk c N ps st (aj st) b):Lw P w K mg base cl c (bM Γ (jZ d i) (gP Γ Δ 100 N ps.length b)) Δ (k+1):=
 L.joinM hn hi hcl ⟨h1,h2,F.kp⟩ (L.run (m:=100) F (eS D.sc).1 (eS D.sc).2 D.cc) (F.binds (D.bd m q))
theorem Lw.sW(L:Lw P w K mg base cl c Γ Δ k)(hn:c.iot.all (fun p=>decide (p.2.1<1000))=true)(hi:uB[i]?=some m)(hcl:cl d=some C)(h1:W.findIn K (.ref C) m=some (some (.ref fa)))(h2:W.isFn K (.ref fa)=true)(F:Fun K m q st fa fd)(D:Dk c ("self"::N) ps st l b)(hb:aj st=st1::l)(h3:yH st1=true)(hj:N[j]?=some "counts")(hjp:ps.length≤j+1):Lw P w K mg base cl c Γ (nX Δ (jZ d i) 0 (gW Γ Δ 100 ("self"::N) (j+1) ps.length b)) (k+1):=
 L.Lj hn hi hcl ⟨h1,h2,F.kp⟩ (L.MY (m:=100) hcl F (eS D.sc).1 (eS D.sc).2 hb h3 hj hjp D.cc) (F.binds (D.bd m q))
theorem Lw.sL(L:Lw P w K mg base cl c Γ Δ k)(F:Fun K x x st fa fd)(D:Dk c N ps st (aj st) b):FnOk P w K mg base km (k+1) fa fd ps (spP K cl (gP Γ Δ 100 N ps.length b)):=L.run (m:=100) F (eS D.sc).1 (eS D.sc).2 D.cc
end
end MI
end
noncomputable section
namespace MI
open PySem L2
noncomputable def mem(st:Stmt)(j:Nat):Stmt:=match st with
 | .ClassDef (body:=b) .. =>b.getD j (.Pass ⟨0,0,0,0⟩)
 |_=> .Pass ⟨0,0,0,0⟩
noncomputable def aQ(i:Nat):Stmt:=PySem.Challenge.pw_backorder_k03_whole_put.main.body.getD i (.Pass ⟨0,0,0,0⟩)
noncomputable abbrev Oc:CS:=⟨⟨[],[],[("Answer",0),("Exchanged",1),("Fronted",2),("Ended",3),("Put",4),("Marks",5)]⟩,[]⟩
noncomputable abbrev kz:Stmt:=aQ 4
theorem vc:Dk Oc qG ["value"] kz (aj kz) qu:=⟨by kernel_rfl,by kernel_rfl,fun _ _ _ _ _ _ _ _ _ h=>by obtain⟨_,rfl⟩:=y8 h;rfl⟩
noncomputable abbrev Ob:CS:=Oc.aT "is_whole" 0
noncomputable abbrev iY:Stmt:=aQ 5
theorem tm:Dk Ob ny ["thing","met"] iY (aj iY) gr:=⟨by kernel_rfl,by kernel_rfl,fun _ _ _ _ _ _ _ _ _ h=>by obtain⟨_,_,rfl⟩:=rg h;rfl⟩
noncomputable abbrev Oa:CS:=Ob.aI "first_met" 100 1
noncomputable abbrev oW:Stmt:=aQ 6
theorem zE:Dk Oa vT ["value"] oW (aj oW) vP:=⟨by kernel_rfl,by kernel_rfl,fun _ _ _ _ _ _ _ _ _ h=>by obtain⟨_,rfl⟩:=y8 h;rfl⟩
noncomputable abbrev N9:CS:=Oa.aT "is_row" 1
noncomputable abbrev ku:Stmt:=aQ 7
theorem vb:Dk N9 qF ["value"] ku (aj ku) kT:=⟨by kernel_rfl,by kernel_rfl,fun _ _ _ _ _ _ _ _ _ h=>by obtain⟨_,rfl⟩:=y8 h;rfl⟩
noncomputable abbrev N8:CS:=N9.aT "need_row" 2
noncomputable abbrev iZ:Stmt:=aQ 8
theorem tq:Dk N8 nA ["many","told"] iZ (aj iZ) nj:=⟨by kernel_rfl,by kernel_rfl,fun _ _ _ _ _ _ _ _ _ h=>by obtain⟨_,_,rfl⟩:=rg h;rfl⟩
noncomputable abbrev N7:CS:=N8.aT "are_parts" 3
noncomputable abbrev dw:Stmt:=aQ 9
theorem kF:Dk N7 gv ["many","told"] dw (aj dw) gu:=⟨by kernel_rfl,by kernel_rfl,fun _ _ _ _ _ _ _ _ _ h=>by obtain⟨_,_,rfl⟩:=rg h;rfl⟩
noncomputable abbrev N6:CS:=N7.aT "are_whole_parts" 4
noncomputable abbrev mf:Stmt:=aQ 10
theorem wQ:Dk N6 sA ["value"] mf (aj mf) sq:=⟨by kernel_rfl,by kernel_rfl,fun _ _ _ _ _ _ _ _ _ h=>by obtain⟨_,rfl⟩:=y8 h;rfl⟩
noncomputable abbrev N5:CS:=N6.aT "is_pair" 5
noncomputable abbrev i4:Stmt:=aQ 11
theorem tw:Dk N5 nE ["value"] i4 (aj i4) nt:=⟨by kernel_rfl,by kernel_rfl,fun _ _ _ _ _ _ _ _ _ h=>by obtain⟨_,rfl⟩:=y8 h;rfl⟩
noncomputable abbrev N4:CS:=N5.aT "are_pairs" 6
noncomputable abbrev mj:Stmt:=aQ 15
theorem wR:Dk N4 sD ["row"] mj (aj mj) sv:=⟨by kernel_rfl,by kernel_rfl,fun _ _ _ _ _ _ _ _ _ h=>by obtain⟨_,rfl⟩:=y8 h;rfl⟩
noncomputable abbrev N3:CS:=N4.aT "back_of" 8
noncomputable abbrev dW:Stmt:=mem (aQ 13) 0
theorem lA:Dk N3 hX ["self","flags"] dW (aj dW) cP:=⟨by kernel_rfl,by kernel_rfl,fun _ _ _ _ _ _ _ _ _ h=>by obtain⟨_,_,rfl⟩:=rg h;rfl⟩
noncomputable abbrev AF:CS:=N3.aT "Marks" 85
noncomputable abbrev dz:Stmt:=mem (aQ 13) 1
noncomputable abbrev n9:Stmt:=(aj dz).headD (.Pass ⟨0,0,0,0⟩)
theorem nS:Dk AF jG ["self","place"] dz (aj dz).tail jw:=⟨by kernel_rfl,by kernel_rfl,fun _ _ _ _ _ _ _ _ _ h=>by obtain⟨_,_,rfl⟩:=rg h;rfl⟩
noncomputable abbrev gA:Stmt:=mem (aQ 13) 2
theorem pk:Dk AF kl ["self","place"] gA (aj gA) ki:=⟨by kernel_rfl,by kernel_rfl,fun _ _ _ _ _ _ _ _ _ h=>by obtain⟨_,_,rfl⟩:=rg h;rfl⟩
noncomputable abbrev cD:Stmt:=mem (aQ 13) 3
theorem iP:Dk AF eJ ["self","number"] cD (aj cD) eI:=⟨by kernel_rfl,by kernel_rfl,fun _ _ _ _ _ _ _ _ _ h=>by obtain⟨_,_,rfl⟩:=rg h;rfl⟩
noncomputable abbrev fF:Stmt:=aQ 22
theorem nL:Dk AF jz ["waiting_ahead","waiting_behind"] fF (aj fF) fU:=⟨by kernel_rfl,by kernel_rfl,fun _ _ _ _ _ _ _ _ _ h=>by obtain⟨_,_,rfl⟩:=rg h;rfl⟩
noncomputable abbrev J7:CS:=AF.aT "stand_rising" 25
noncomputable abbrev eM:Stmt:=aQ 23
theorem mw:Dk J7 iL ["many","moves"] eM (aj eM) iI:=⟨by kernel_rfl,by kernel_rfl,fun _ _ _ _ _ _ _ _ _ h=>by obtain⟨_,_,rfl⟩:=rg h;rfl⟩
noncomputable abbrev J6:CS:=J7.aT "marked_things" 26
noncomputable abbrev df:Stmt:=aQ 24
theorem jY:Dk J6 fX ["row","moves"] df (aj df) fV:=⟨by kernel_rfl,by kernel_rfl,fun _ _ _ _ _ _ _ _ _ h=>by obtain⟨_,_,rfl⟩:=rg h;rfl⟩
noncomputable abbrev J5:CS:=J6.aT "put_brings_order" 27
noncomputable abbrev oX:Stmt:=aQ 29
theorem zG:Dk J5 vU ["told"] oX (aj oX) vQ:=⟨by kernel_rfl,by kernel_rfl,fun _ _ _ _ _ _ _ _ _ h=>by obtain⟨_,rfl⟩:=y8 h;rfl⟩
noncomputable abbrev J4:CS:=J5.aT "copied" 28
noncomputable abbrev cf:Stmt:=aQ 32
theorem gY:Dk J4 dO ["many","things"] cf (aj cf) dJ:=⟨by kernel_rfl,by kernel_rfl,fun _ _ _ _ _ _ _ _ _ h=>by obtain⟨_,_,rfl⟩:=rg h;rfl⟩
noncomputable abbrev J3:CS:=J4.aT "are_different_things" 31
noncomputable abbrev eO:Stmt:=aQ 35
theorem mz:Dk J3 iN ["fall","places"] eO (aj eO) iK:=⟨by kernel_rfl,by kernel_rfl,fun _ _ _ _ _ _ _ _ _ h=>by obtain⟨_,_,rfl⟩:=rg h;rfl⟩
noncomputable abbrev J2:CS:=J3.aT "falls_in_turn" 34
noncomputable abbrev fI:Stmt:=aQ 36
theorem nN:Dk J2 jB ["row","told"] fI (aj fI) jq:=⟨by kernel_rfl,by kernel_rfl,fun _ _ _ _ _ _ _ _ _ h=>by obtain⟨_,_,rfl⟩:=rg h;rfl⟩
noncomputable abbrev J1:CS:=J2.aT "are_falls_of" 35
noncomputable abbrev fM:Stmt:=mem (aQ 41) 0
theorem nR:Dk J1 jF ["self","moves","falls"] fM (aj fM) dN:=⟨by kernel_rfl,by kernel_rfl,fun _ _ _ _ _ _ _ _ _ h=>by obtain⟨_,_,_,rfl⟩:=NQ h;rfl⟩
noncomputable abbrev GA:CS:=J1.aT "Put" 84
noncomputable abbrev i6:Stmt:=mem (aQ 41) 1
theorem tD:Dk GA nG ["self","row"] i6 (aj i6) nv:=⟨by kernel_rfl,by kernel_rfl,fun _ _ _ _ _ _ _ _ _ h=>by obtain⟨_,_,rfl⟩:=rg h;rfl⟩
noncomputable abbrev eN:Stmt:=aQ 43
theorem my:Dk GA iM ["rising","thing"] eN (aj eN) iJ:=⟨by kernel_rfl,by kernel_rfl,fun _ _ _ _ _ _ _ _ _ h=>by obtain⟨_,_,rfl⟩:=rg h;rfl⟩
noncomputable abbrev J0:CS:=GA.aT "first_greater" 39
noncomputable abbrev kA:Stmt:=aQ 44
theorem vd:Dk J0 qH ["row"] kA (aj kA) qv:=⟨by kernel_rfl,by kernel_rfl,fun _ _ _ _ _ _ _ _ _ h=>by obtain⟨_,rfl⟩:=y8 h;rfl⟩
noncomputable abbrev JZ:CS:=J0.aT "falls_of" 40
noncomputable abbrev oU:Stmt:=aQ 45
theorem zD:Dk JZ vS ["row","falls"] oU (aj oU) vO:=⟨by kernel_rfl,by kernel_rfl,fun _ _ _ _ _ _ _ _ _ h=>by obtain⟨_,_,rfl⟩:=rg h;rfl⟩
noncomputable abbrev JY:CS:=JZ.aT "risers" 41
noncomputable abbrev fH:Stmt:=aQ 46
theorem nM:Dk JY jA ["row","left"] fH (aj fH) jo:=⟨by kernel_rfl,by kernel_rfl,fun _ _ _ _ _ _ _ _ _ h=>by obtain⟨_,_,rfl⟩:=rg h;rfl⟩
noncomputable abbrev JX:CS:=JY.aT "moves_beside" 42
noncomputable abbrev A5:Stmt:=aQ 47
theorem Hz:Dk JX Ge ["row"] A5 (aj A5) Gc:=⟨by kernel_rfl,by kernel_rfl,fun _ _ _ _ _ _ _ _ _ h=>by obtain⟨_,rfl⟩:=y8 h;rfl⟩
noncomputable abbrev JW:CS:=JX.aT "put" 43
noncomputable abbrev fL:Stmt:=aQ 49
theorem nQ:Dk JW jE ["_law_script","_law_k"] fL (aj fL) dM:=⟨by kernel_rfl,by kernel_rfl,fun _ _ _ _ _ _ _ _ _ h=>by obtain⟨_,_,rfl⟩:=rg h;rfl⟩
noncomputable abbrev JV:CS:=JW.aT "_law_cell_at" 50
noncomputable abbrev i5:Stmt:=aQ 50
theorem tx:Dk JV nF ["_law_cell","_law_k","_law_many"] i5 (aj i5) nu:=⟨by kernel_rfl,by kernel_rfl,fun _ _ _ _ _ _ _ _ _ h=>by obtain⟨_,_,_,rfl⟩:=NQ h;rfl⟩
noncomputable abbrev JU:CS:=JV.aT "_law_draw" 51
noncomputable abbrev kB:Stmt:=aQ 51
theorem ve:Dk JU qI ["_law_script"] kB (aj kB) qw:=⟨by kernel_rfl,by kernel_rfl,fun _ _ _ _ _ _ _ _ _ h=>by obtain⟨_,rfl⟩:=y8 h;rfl⟩
noncomputable abbrev JT:CS:=JU.aT "_law_row" 52
noncomputable abbrev fK:Stmt:=aQ 52
theorem nP:Dk JT jD ["_law_found"] fK (aj fK) jv:=⟨by kernel_rfl,by kernel_rfl,fun _ _ _ _ _ _ _ _ _ h=>by obtain⟨_,rfl⟩:=y8 h;rfl⟩
noncomputable abbrev JS:CS:=JT.aT "_law_numbers" 53
noncomputable abbrev hZ:Stmt:=aQ 53
theorem qX:Dk JS lS ["_law_found"] hZ (aj hZ) lO:=⟨by kernel_rfl,by kernel_rfl,fun _ _ _ _ _ _ _ _ _ h=>by obtain⟨_,rfl⟩:=y8 h;rfl⟩
noncomputable abbrev JR:CS:=JS.aT "_law_pairs" 54
noncomputable abbrev kC:Stmt:=aQ 54
theorem vf:Dk JR qJ ["_law_row_here","_law_moves"] kC (aj kC) qy:=⟨by kernel_rfl,by kernel_rfl,fun _ _ _ _ _ _ _ _ _ h=>by obtain⟨_,_,rfl⟩:=rg h;rfl⟩
noncomputable abbrev JQ:CS:=JR.aT "_law_put" 66
noncomputable abbrev gz:Stmt:=aQ 55
theorem ph:Dk JQ kj ["_law_row_here","_law_falls"] gz (aj gz) kh:=⟨by kernel_rfl,by kernel_rfl,fun _ _ _ _ _ _ _ _ _ h=>by obtain⟨_,_,rfl⟩:=rg h;rfl⟩
noncomputable abbrev JP:CS:=JQ.aT "_law_fallen" 67
noncomputable abbrev fJ:Stmt:=aQ 56
theorem nO:Dk JP jC ["_law_row_here","_law_moves","_law_falls"] fJ (aj fJ) jt:=⟨by kernel_rfl,by kernel_rfl,fun _ _ _ _ _ _ _ _ _ h=>by obtain⟨_,_,_,rfl⟩:=NQ h;rfl⟩
noncomputable abbrev MO:CS:=JP.aT "_law_put_due" 68
noncomputable abbrev oV:Stmt:=aQ 57
theorem HA:Dk MO Gf ["_law_script"] oV (aj oV) Gd:=⟨by kernel_rfl,by kernel_rfl,fun _ _ _ _ _ _ _ _ _ h=>by obtain⟨_,rfl⟩:=y8 h;rfl⟩
end MI
end
noncomputable section
namespace MI
open PySem L2 PyProof.Rows
noncomputable def lQ:Asks:=⟨(["is_whole","first_met","is_row","need_row","are_parts","are_whole_parts","is_pair","are_pairs","back_of","stand_rising","marked_things","put_brings_order","copied","are_different_things","falls_in_turn","are_falls_of"]:List Str)++(["first_greater","falls_of","risers","moves_beside","put","_law_cell_at","_law_draw","_law_row","_law_numbers","_law_pairs","_law_put","_law_fallen","_law_put_due","law"]:List Str),[("Marks","__init__"),("Marks","unmark"),("Marks","ahead"),("Marks","place_behind"),("Put","__init__"),("Put","shows")],[],JF,["Answer","Exchanged","Fronted","Ended","Put","Marks"],["Marks","Put"]⟩
noncomputable def xl:Am:=([cU "is_whole" kz,cU "first_met" iY,cU "is_row" oW,cU "need_row" ku,cU "are_parts" iZ,cU "are_whole_parts" dw,cU "is_pair" mf,cU "are_pairs" i4,cU "back_of" mj,cU "stand_rising" fF,cU "marked_things" eM,cU "put_brings_order" df,cU "copied" oX,cU "are_different_things" cf,cU "falls_in_turn" eO,cU "are_falls_of" fI,cU "first_greater" eN,cU "falls_of" kA,cU "risers" oU,cU "moves_beside" fH,cU "put" A5,cU "_law_cell_at" fL,cU "_law_draw" i5,cU "_law_row" kB,cU "_law_numbers" fK,cU "_law_pairs" hZ,cU "_law_put" kC,cU "_law_fallen" gz,cU "_law_put_due" fJ,cU "law" oV],[tL "__init__" "Marks.__init__" dW,tL "unmark" "Marks.unmark" dz,tL "ahead" "Marks.ahead" gA,tL "place_behind" "Marks.place_behind" cD,tL "__init__" "Put.__init__" fM,tL "shows" "Put.shows" i6],[],true)
theorem FR{l:W.OpenLaw}{K:W.Frag}(X:K.In h)(G:h.Ns mainGlobals mg)(hfa:mg "law"=some (.ref fa))(e:look lQ K=xl):∃(cl:Nat→Option Addr) (fd:FuncData),(∀(s:Shared) (u:Value),BindsTo s fd ⟨[u],[]⟩ [("_law_script",u)])∧∀base:Heap,K.In base→base.Ns mainGlobals mg→FnOk l.prog w K mg base km 38 fa fd ["_law_script"] (spP K cl BX):=by
 obtain⟨e1,e⟩:=Prod.mk.inj e
 obtain⟨e2,e⟩:=Prod.mk.inj e
 obtain⟨e3,e4⟩:=Prod.mk.inj e
 obtain⟨e4,e⟩:=bg e4
 obtain⟨e5,e6⟩:=bg e
 have hcl:gw K (n0 K ["Answer","Exchanged","Fronted","Ended","Put","Marks"]):=Fn e5
 obtain⟨C0,hC0,nC0⟩:=jP e5 (i:=0) (x:="Answer") rfl
 obtain⟨C1,hC1,nC1⟩:=jP e5 (i:=1) (x:="Exchanged") rfl
 obtain⟨C2,hC2,nC2⟩:=jP e5 (i:=2) (x:="Fronted") rfl
 obtain⟨C3,hC3,nC3⟩:=jP e5 (i:=3) (x:="Ended") rfl
 obtain⟨C4,hC4,nC4⟩:=jP e5 (i:=4) (x:="Put") rfl
 obtain⟨C5,hC5,nC5⟩:=jP e5 (i:=5) (x:="Marks") rfl
 obtain⟨mk5,kp5⟩:=BH (nI.mp e6 "Marks" (by decide)) nC5
 obtain⟨mk4,kp4⟩:=BH (nI.mp e6 "Put" (by decide)) nC4
 obtain⟨f1,d1,F1,a1,e1⟩:=fG e1
 obtain⟨f2,d2,F2,a2,e1⟩:=fG e1
 obtain⟨f3,d3,F3,a3,e1⟩:=fG e1
 obtain⟨f4,d4,F4,a4,e1⟩:=fG e1
 obtain⟨f5,d5,F5,a5,e1⟩:=fG e1
 obtain⟨f6,d6,F6,a6,e1⟩:=fG e1
 obtain⟨f7,d7,F7,a7,e1⟩:=fG e1
 obtain⟨f8,d8,F8,a8,e1⟩:=fG e1
 obtain⟨f9,d9,F9,a9,e1⟩:=fG e1
 obtain⟨f14,d14,F14,a14,e1⟩:=fG e1
 obtain⟨f15,d15,F15,a15,e1⟩:=fG e1
 obtain⟨f16,d16,F16,a16,e1⟩:=fG e1
 obtain⟨f17,d17,F17,a17,e1⟩:=fG e1
 obtain⟨f18,d18,F18,a18,e1⟩:=fG e1
 obtain⟨f19,d19,F19,a19,e1⟩:=fG e1
 obtain⟨f20,d20,F20,a20,e1⟩:=fG e1
 obtain⟨f23,d23,F23,a23,e1⟩:=fG e1
 obtain⟨f24,d24,F24,a24,e1⟩:=fG e1
 obtain⟨f25,d25,F25,a25,e1⟩:=fG e1
 obtain⟨f26,d26,F26,a26,e1⟩:=fG e1
 obtain⟨f27,d27,F27,a27,e1⟩:=fG e1
 obtain⟨f28,d28,F28,a28,e1⟩:=fG e1
 obtain⟨f29,d29,F29,a29,e1⟩:=fG e1
 obtain⟨f30,d30,F30,a30,e1⟩:=fG e1
 obtain⟨f31,d31,F31,a31,e1⟩:=fG e1
 obtain⟨f32,d32,F32,a32,e1⟩:=fG e1
 obtain⟨f33,d33,F33,a33,e1⟩:=fG e1
 obtain⟨f34,d34,F34,a34,e1⟩:=fG e1
 obtain⟨f35,d35,F35,a35,e1⟩:=fG e1
 obtain⟨t,e1⟩:=List.cons.inj e1
 obtain⟨f36,od36,an36,sl36,oc36,kV36,dc36,pm36,cd36,ct36,a36,l36,c36,k36⟩:=yQ t
 have F36:=xu (st:=oV) l36 c36 k36
 obtain⟨f10,d10,F10,a10,n10,e2⟩:=mG nC5 e2
 obtain⟨f11,d11,F11,a11,n11,e2⟩:=mG nC5 e2
 obtain⟨f12,d12,F12,a12,n12,e2⟩:=mG nC5 e2
 obtain⟨f13,d13,F13,a13,n13,e2⟩:=mG nC5 e2
 obtain⟨f21,d21,F21,a21,n21,e2⟩:=mG nC4 e2
 obtain⟨f22,d22,F22,a22,n22,e2⟩:=mG nC4 e2
 have e:=hfa.symm.trans (W.mg_of X G a36)
 cases e
 refine⟨n0 K ["Answer","Exchanged","Fronted","Ended","Put","Marks"],W.fnOf "law" "law" (eD oV) (aj oV) (ai oV) .none kV36 dc36 pm36 an36 cd36 ct36,fun s v=> .of_eq rfl,fun base _ _=> ?_⟩
 have zs:∀x∈JF,mg x=none:=fun x hx=>W.mg_none_of X G (Fi (nI.mp e4 x hx))
 have gs:∀(x:Str) (i:Int),List.lookup x ([]:List (Str×Int))=some i→∃t,mg x=some (.int i t):=fun x i h=>by
  cases h
 have co:∀(x:Str) (j:Nat),List.lookup x ([("Answer",0),("Exchanged",1),("Fronted",2),("Ended",3),("Put",4),("Marks",5)]:List (Str×Nat))=some j→∃J,n0 K ["Answer","Exchanged","Fronted","Ended","Put","Marks"] j=some J∧mg x=some (.ref J):=fun x j h=>by
  rw [sF]at h
  split at h
  ·rename_i q
   have q:x="Answer":=by simpa using q
   subst q
   cases h
   exact⟨_,hC0,W.mg_of X G nC0⟩
  rw [sF]at h
  split at h
  ·rename_i q
   have q:x="Exchanged":=by simpa using q
   subst q
   cases h
   exact⟨_,hC1,W.mg_of X G nC1⟩
  rw [sF]at h
  split at h
  ·rename_i q
   have q:x="Fronted":=by simpa using q
   subst q
   cases h
   exact⟨_,hC2,W.mg_of X G nC2⟩
  rw [sF]at h
  split at h
  ·rename_i q
   have q:x="Ended":=by simpa using q
   subst q
   cases h
   exact⟨_,hC3,W.mg_of X G nC3⟩
  rw [sF]at h
  split at h
  ·rename_i q
   have q:x="Put":=by simpa using q
   subst q
   cases h
   exact⟨_,hC4,W.mg_of X G nC4⟩
  rw [sF]at h
  split at h
  ·rename_i q
   have q:x="Marks":=by simpa using q
   subst q
   cases h
   exact⟨_,hC5,W.mg_of X G nC5⟩
  cases h
 have L0:Lw l.prog w K mg base (n0 K ["Answer","Exchanged","Fronted","Ended","Put","Marks"]) ⟨⟨[],[],[("Answer",0),("Exchanged",1),("Fronted",2),("Ended",3),("Put",4),("Marks",5)]⟩,[]⟩ Γ0 Δ0 0:=Lw.start zs gs hcl co
 have gm:∀ {x:Str} {a:Addr},W.nsIn K mainGlobals x=some (some (.ref a))→mg x=some (.ref a):=fun h=>W.mg_of X G h
 have L1:Lw _ _ _ _ _ _ _ Γ1 Δ0 _:=L0.sP (f:=0) rfl F1 vc (gm a1)
 have L2:Lw _ _ _ _ _ _ _ Γ1 Δ1 _:=L1.sI (f:=100) (j:=1) rfl F2 tm (gm a2)
 have L3:Lw _ _ _ _ _ _ _ Γ2 Δ1 _:=L2.sP (f:=1) rfl F3 zE (gm a3)
 have L4:Lw _ _ _ _ _ _ _ Γ3 Δ1 _:=L3.sP (f:=2) rfl F4 vb (gm a4)
 have L5:Lw _ _ _ _ _ _ _ Γ4 Δ1 _:=L4.sP (f:=3) rfl F5 tq (gm a5)
 have L6:Lw _ _ _ _ _ _ _ Γ5 Δ1 _:=L5.sP (f:=4) rfl F6 kF (gm a6)
 have L7:Lw _ _ _ _ _ _ _ Γ6 Δ1 _:=L6.sP (f:=5) rfl F7 wQ (gm a7)
 have L8:Lw _ _ _ _ _ _ _ Γ7 Δ1 _:=L7.sP (f:=6) rfl F8 tw (gm a8)
 have L9:Lw _ _ _ _ _ _ _ Γ8 Δ1 _:=L8.sP (f:=8) rfl F9 wR (gm a9)
 have L10:Lw _ _ _ _ _ _ _ Γ9 Δ1 _:=L9.sC (x:="Marks") (f:=85) rfl hC5 ⟨mk5,a10,n10,kp5⟩ F10 lA (by decide) (gm nC5)
 have L11:Lw _ _ _ _ _ _ _ Γ9 Δ2 _:=L10.sW (m:="unmark") (i:=1) (d:=5) (j:=1) (st1:=n9) rfl rfl hC5 a11 n11 F11 nS (by kernel_rfl) (by kernel_rfl) rfl (by decide)
 have L12:Lw _ _ _ _ _ _ _ Dc Δ2 _:=L11.sM (i:=2) (d:=5) rfl rfl hC5 a12 n12 F12 pk
 have L13:Lw _ _ _ _ _ _ _ xV Δ2 _:=L12.sM (i:=3) (d:=5) rfl rfl hC5 a13 n13 F13 iP
 have L14:Lw _ _ _ _ _ _ _ Jr Δ2 _:=L13.sP (f:=25) rfl F14 nL (gm a14)
 have L15:Lw _ _ _ _ _ _ _ jR Δ2 _:=L14.sP (f:=26) rfl F15 mw (gm a15)
 have L16:Lw _ _ _ _ _ _ _ JI Δ2 _:=L15.sP (f:=27) rfl F16 jY (gm a16)
 have L17:Lw _ _ _ _ _ _ _ Jq Δ2 _:=L16.sP (f:=28) rfl F17 zG (gm a17)
 have L18:Lw _ _ _ _ _ _ _ Fp Δ2 _:=L17.sP (f:=31) rfl F18 gY (gm a18)
 have L19:Lw _ _ _ _ _ _ _ An Δ2 _:=L18.sP (f:=34) rfl F19 mz (gm a19)
 have L20:Lw _ _ _ _ _ _ _ Fo Δ2 _:=L19.sP (f:=35) rfl F20 nN (gm a20)
 have L21:Lw _ _ _ _ _ _ _ vX Δ2 _:=L20.sC (x:="Put") (f:=84) rfl hC4 ⟨mk4,a21,n21,kp4⟩ F21 nR (by decide) (gm nC4)
 have L22:Lw _ _ _ _ _ _ _ Gi Δ2 _:=L21.sM (i:=0) (d:=4) rfl rfl hC4 a22 n22 F22 tD
 have L23:Lw _ _ _ _ _ _ _ CV Δ2 _:=L22.sP (f:=39) rfl F23 my (gm a23)
 have L24:Lw _ _ _ _ _ _ _ xU Δ2 _:=L23.sP (f:=40) rfl F24 vd (gm a24)
 have L25:Lw _ _ _ _ _ _ _ vW Δ2 _:=L24.sP (f:=41) rfl F25 zD (gm a25)
 have L26:Lw _ _ _ _ _ _ _ CU Δ2 _:=L25.sP (f:=42) rfl F26 nM (gm a26)
 have L27:Lw _ _ _ _ _ _ _ Jp Δ2 _:=L26.sP (f:=43) rfl F27 Hz (gm a27)
 have L28:Lw _ _ _ _ _ _ _ JH Δ2 _:=L27.sP (f:=50) rfl F28 nQ (gm a28)
 have L29:Lw _ _ _ _ _ _ _ sE Δ2 _:=L28.sP (f:=51) rfl F29 tx (gm a29)
 have L30:Lw _ _ _ _ _ _ _ JG Δ2 _:=L29.sP (f:=52) rfl F30 ve (gm a30)
 have L31:Lw _ _ _ _ _ _ _ Gh Δ2 _:=L30.sP (f:=53) rfl F31 nP (gm a31)
 have L32:Lw _ _ _ _ _ _ _ CT Δ2 _:=L31.sP (f:=54) rfl F32 qX (gm a32)
 have L33:Lw _ _ _ _ _ _ _ qL Δ2 _:=L32.sP (f:=66) rfl F33 vf (gm a33)
 have L34:Lw _ _ _ _ _ _ _ Gg Δ2 _:=L33.sP (f:=67) rfl F34 ph (gm a34)
 have L35:Lw _ _ _ _ _ _ _ jQ Δ2 _:=L34.sP (f:=68) rfl F35 nO (gm a35)
 exact L35.sL F36 HA
end MI
end
namespace MI
open PySem PySem.W PyProof.Rows L2
noncomputable def BN:List Str:=(["OrderError","BadRow","is_whole","first_met","is_row","need_row","are_parts","are_whole_parts","is_pair","are_pairs","Marks","back_of","run_lengths","is_in_order","after_exchanges","after_fronting"]:List Str)++(["after_ending","stand_rising","marked_things","put_brings_order","set_ring","row_of","copied","are_rings_of","are_exchanges","are_different_things","are_needed","are_moves_to_ends","falls_in_turn","are_falls_of","Answer","Exchanged"]:List Str)++(["Fronted","Ended","Put","first_greater","falls_of","risers","moves_beside","put","_law_cell_at","_law_draw","_law_row","_law_numbers","_law_pairs","_law_put","_law_fallen","_law_put_due"]:List Str)
theorem left:LeftO PySem.Challenge.pw_backorder_k03_whole_put (view PySem.Challenge.pw_backorder_k03_whole_put [57]) BN (fun s=>xlAt (view PySem.Challenge.pw_backorder_k03_whole_put [57]) [] s&&recOk (RowW.records PySem.Challenge.rw_backorder_k03_whole_put.row.toRowW) s) (pP lQ xl).obs (pP lQ xl).val 8000:=zV (HK lQ xl) (by kernel_rfl) (by decide) (fun s=>by kernel_rfl) fun w os=>by kernel_rfl
end MI
open PySem PySem.W PyProof.Rows
set_option maxHeartbeats 0 in
theorem PySem.Challenge.cw_backorder_k03_whole_put_holds : PySem.Challenge.rw_backorder_k03_whole_put.Holds := by
  refine holds_law (by kernel_rfl) fun said => ?_
  refine holds_open (q := view PySem.Challenge.pw_backorder_k03_whole_put [57]) (loose := MI.BN) (XP := XL (view PySem.Challenge.pw_backorder_k03_whole_put [57]) []) (YP := (MI.pP MI.lQ MI.xl).says) MI.left (MI.pP MI.lQ MI.xl).of (MI.pP MI.lQ MI.xl).keeps (fun s e => xl_of s (Bool.and_eq_true_iff.mp e).1) XL.keeps (by rfl) (by rfl) (by rfl) (fun s e => recFacts_of (Bool.and_eq_true_iff.mp e).2) (by rfl) (by first | assumption | decide +kernel) (by decide +kernel) ⟨rfl, rfl, rfl, rfl, rfl, by decide +kernel⟩ ?hw ?hc
  case hw => w_witness2
  case hc => exact MI.JK (l := PySem.Challenge.rw_backorder_k03_whole_put) (n := 63) (k := 38) (x := "_law_script") (g := MI.BX) rfl (by decide) rfl ⟨rfl, by decide, by decide⟩ (fun w mg fa K h KX G hmg e => MI.FR KX G hmg e) MI.HM
#print axioms PySem.Challenge.cw_backorder_k03_whole_put_holds
