import PyProof.Rows.All
import Wide.All
import OpenK.AllK
import Wide.FinOn
import PyProof.EqAt
import PyProof.EqKinds
import PyProof.TupleCall
import Lean
import PyProof.StationsW
import PyProof.RulesAs
import PyProof.ExcClass3
import PyProof.Rows.SortShell
import KE.KIntText
import KE.KDictOf
import PySem.Challenge.RW_backorder_k07_written
set_option Elab.async false
set_option linter.all false
set_option maxRecDepth 100000
theorem bae{a b:Bool}(h:(a&&b)=true):a=true∧b=true:=(Bool.and_eq_true _ _).mp h
theorem obs{α β:Type}(a:α)(f:α→Option β):(some a).bind f=f a:=rfl
theorem dtt{p:Prop}[i:Decidable p](h:p):decide p=true:=decide_eq_true h
theorem dff{p:Prop}[i:Decidable p](h:¬p):decide p=false:=decide_eq_false h
theorem odt{p:Prop}[i:Decidable p](h:decide p=true):p:=of_decide_eq_true h
theorem fnt:false≠true:=Bool.false_ne_true
theorem bsi{α β:Type}{o:Option α}{f:α→Option β}{b:β}(h:o.bind f=some b):∃a,o=some a∧f a=some b:=Option.bind_eq_some_iff.mp h
theorem msi{α β:Type}{o:Option α}{f:α→β}{b:β}(h:o.map f=some b):∃a,o=some a∧f a=b:=Option.map_eq_some_iff.mp h
noncomputable section
namespace L2
open PySem PySem.Spec PyProof.Rows
noncomputable abbrev Key:=Sum Int Str
noncomputable def keyIs:Key→Value→Bool
 | .inl k,v=>Value.isInt k v
 | .inr x,v=>Value.isStrOf x v
noncomputable def keyH(w:World):Key→Int
 | .inl k=>hashInt k
 | .inr x=>hashStr w x
theorem keyIs_shape:∀ {k:Key} {v:Value},keyIs k v=true→(∃i t,k=Sum.inl i∧v=Value.int i t)∨(∃x t,k=Sum.inr x∧v=Value.str x t)
 | .inl i,v,h=>by
   obtain⟨t,e⟩:=Value.isInt_shape (k:=i) (v:=v) h
   exact .inl ⟨i,t,rfl,e⟩
 | .inr x,v,h=>by
   obtain⟨t,e⟩:=Value.isStrOf_shape (x:=x) (v:=v) h
   exact .inr ⟨x,t,rfl,e⟩
theorem keyIs_int(i:Int)(t:Tok):keyIs (.inl i) (.int i t)=true:=by simp [keyIs,Value.isInt]
theorem keyIs_str(x:Str)(t:Tok):keyIs (.inr x) (.str x t)=true:=by simp [keyIs,Value.isStrOf]
theorem key_ll(a b:Int):decide ((Sum.inl a:Key)=Sum.inl b)=(a==b):=by
 by_cases e:a=b
 ·subst e;simp
 ·have h:¬(Sum.inl a:Key)=Sum.inl b:=fun q=>e (Sum.inl.inj q)
  rw [dff h]
  exact(beq_eq_false_iff_ne.mpr e).symm
theorem key_rr(a b:Str):decide ((Sum.inr a:Key)=Sum.inr b)=decide (a=b):=by
 by_cases e:a=b
 ·subst e;simp
 ·have h:¬(Sum.inr a:Key)=Sum.inr b:=fun q=>e (Sum.inr.inj q)
  rw [dff h,dff e]
theorem key_lr(a:Int)(b:Str):decide ((Sum.inl a:Key)=Sum.inr b)=false:=dff (fun q=>nomatch q)
theorem key_rl(a:Str)(b:Int):decide ((Sum.inr a:Key)=Sum.inl b)=false:=dff (fun q=>nomatch q)
noncomputable def mixKind(prog:Program)(w:World):PySem.KeyKind prog w Key where
 is:=keyIs
 hash:=keyH w
 inj:=fun v a b ha hb=>by
  rcases keyIs_shape ha with⟨i,t,rfl,rfl⟩|⟨x,t,rfl,rfl⟩
  ·rcases keyIs_shape hb with⟨j,u,rfl,e⟩|⟨y,u,rfl,e⟩
   ·injection e with e1 _;rw [e1]
   ·exact nomatch e
  ·rcases keyIs_shape hb with⟨j,u,rfl,e⟩|⟨y,u,rfl,e⟩
   ·exact nomatch e
   ·injection e with e1 _;rw [e1]
 byValue:=fun k v h=>by
  rcases keyIs_shape h with⟨i,t,rfl,rfl⟩|⟨x,t,rfl,rfl⟩<;>rfl
 pyHash:=fun hv h=>by
  rcases keyIs_shape hv with⟨i,t,rfl,rfl⟩|⟨x,t,rfl,rfl⟩
  ·exact wpAny_pyHash_int h
  ·exact wpAny_pyHash_str h
 eqBool:=fun hu hv h=>by
  rcases keyIs_shape hu with⟨i,t,rfl,rfl⟩|⟨x,t,rfl,rfl⟩
  ·rcases keyIs_shape hv with⟨j,u,rfl,rfl⟩|⟨y,u,rfl,rfl⟩
   ·rw [key_ll]at h;exact wpAny_eqBool_int h
   ·rw [key_lr]at h;exact SeqAt.EqAt.int_str i t y u _ _ _ _ h
  ·rcases keyIs_shape hv with⟨j,u,rfl,rfl⟩|⟨y,u,rfl,rfl⟩
   ·rw [key_rl]at h;exact SeqAt.EqAt.str_int x t j u _ _ _ _ h
   ·rw [key_rr]at h;exact wpAny_eqBool_str h
 «strs»:=fun k x t v h=>by
  rcases keyIs_shape h with⟨i,u,rfl,e⟩|⟨y,u,rfl,e⟩
  ·exact nomatch e
  ·injection e with e1 _
   subst e1
   cases v<;>rfl
theorem mixKind_int(prog:Program)(w:World)(i:Int)(t:Tok):(mixKind prog w).is (.inl i) (.int i t)=true:=keyIs_int i t
theorem mixKind_str(prog:Program)(w:World)(x:Str)(t:Tok):(mixKind prog w).is (.inr x) (.str x t)=true:=keyIs_str x t
end L2
namespace L2
open PySem PySem.Spec PyProof.Rows
inductive V where
 |non|bl(b:Bool)|int(i:Int)|str(x:Str)|byt(b:Array UInt8)|flt(b:UInt64)|ref(a:Addr)|ty(n:String)
 deriving DecidableEq
noncomputable def RelV:V→Value→Prop
 | .non,u=>u=Value.none
 | .bl b,u=>u=Value.bool b
 | .int i,u=>∃t,u=Value.int i t
 | .str x,u=>∃t,u=Value.str x t
 | .byt b,u=>∃t,u=Value.bytes b t
 | .flt b,u=>∃t,u=Value.float b t
 | .ref a,u=>u=Value.ref a
 | .ty n,u=>u=Value.type n
noncomputable abbrev Vals:List V→List Value→Prop:=Paired RelV
theorem Vals.length{xs:List V}{us:List Value}(r:Vals xs us):xs.length=us.length:=Paired.length r
theorem Vals.get:∀ {xs:List V} {us:List Value} {i:Nat} {x:V},Vals xs us→xs[i]?=some x→∃u,us[i]?=some u∧RelV x u
 |_,_,_,_,.nil,e=>by simp at e
 |_,_,0,_,.cons r _,e=>by simp at e;subst e;exact⟨_,rfl,r⟩
 |_,_,i+1,x,.cons _ t,e=>by
  obtain⟨u,h1,h2⟩:=Vals.get (i:=i) (x:=x) t (by simpa using e)
  exact⟨u,by simpa using h1,h2⟩
theorem Vals.set{x:V}{u:Value}(r:RelV x u):∀ {xs:List V} {us:List Value} (i:Nat),Vals xs us→Vals (xs.set i x) (us.set i u)
 |_,_,_,.nil=> .nil
 |_,_,0,.cons _ t=> .cons r t
 |_,_,i+1,.cons q t=> .cons q (Vals.set r i t)
theorem Vals.append:∀ {xs ys:List V} {us ws:List Value},Vals xs us→Vals ys ws→Vals (xs++ys) (us++ws)
 |_,_,_,_,.nil,s=>s
 |_,_,_,_,.cons r t,s=> .cons r (Vals.append t s)
theorem Vals.take:∀ {xs:List V} {us:List Value} (n:Nat),Vals xs us→Vals (xs.take n) (us.take n)
 |_,_,0,_=> .nil
 |_,_,_+1,.nil=> .nil
 |_,_,n+1,.cons r t=> .cons r (Vals.take n t)
theorem Vals.drop:∀ {xs:List V} {us:List Value} (n:Nat),Vals xs us→Vals (xs.drop n) (us.drop n)
 |_,_,0,r=>r
 |_,_,_+1,.nil=> .nil
 |_,_,n+1,.cons _ t=>Vals.drop n t
noncomputable def RelO:Option V→Option Value→Prop
 |some v,some u=>RelV v u
 |none,none=>True
 |_,_=>False
noncomputable def KV{κ:Type}:List (κ×V)→List (κ×Value)→Prop:=Paired fun(p:κ×V) (q:κ×Value)=>p.1=q.1∧RelV p.2 q.2
noncomputable def kV:Key→V
 | .inl i=> .int i
 | .inr x=> .str x
inductive HO where
 |lst(xs:List V)
 |tup(xs:List V)
 |dK(kvs:List (Key×V))|dT(kvs:List (List Key×V))
 |set(S:Int→Bool)(n:Nat)
 |ins(C dx:Addr)(fs:List (Str×V))
 |own(x:Addr)
 |xd(fs:List (Str×V))
 |met(f x:Addr)
 |rng(lo hi:Int)
 |frz(o:Obj)(u:HO)
 |tbl(ps:Array Value)
 |ext(φ:Heap→Prop)
noncomputable abbrev Hp:=Addr→Option HO
noncomputable def upd(H:Hp)(a:Addr)(o:HO):Hp:=fun b=>if b=a then some o else H b
theorem upd_same{H:Hp}{a:Addr}{o:HO}:upd H a o a=some o:=by unfold upd;rw [if_pos rfl]
theorem upd_ne{H:Hp}{a b:Addr}{o:HO}(h:b≠a):upd H a o b=H b:=by unfold upd;rw [if_neg h]
theorem ne_of_none{H:Hp}{a b:Addr}{o:HO}(h:H a=some o)(h':H b=none):a≠b:=by
 intro e;subst e;rw [h]at h';cases h'
section
variable(P:Program)(w:World)
noncomputable def ObjOk(H:Hp)(h:Heap)(a:Addr):HO→Prop
 | .lst xs=>xs.length≤sizeLine∧∃(its:List Value) (n:Nat),Vals xs its∧h.get? a=some {cls:=.type "list",data:=.seq its.toArray n}
 | .tup xs=>xs.length≤sizeLine∧∃its:List Value,Vals xs its∧IsTup h a its.toArray
 | .dK kvs=>kvs.length≤sizeLine∧(a==sysModules)=false∧∃vs,KV kvs vs∧h.DictOf (mixKind P w) a vs
 | .dT kvs=>kvs.length≤sizeLine∧(a==sysModules)=false∧∃xs:List (List Key×Addr×Value),
    Paired (fun(p:List Key×V) (q:List Key×Addr×Value)=>p.1=q.1∧H q.2.1=some (.tup (p.1.map kV))∧RelV p.2 q.2.2) kvs xs∧
    ∃o es ep,h.get? a=some o∧o.ExactDict∧o.data=.dict es ep∧es.toList=xs.map (entryOfKey (tupleKind (mixKind P w)))∧(xs.map (·.1)).Nodup
 | .set S n=>h.SetOf (intKind P w) a S n
 | .ins C dx fs=>H dx=some (.own a)∧fs.length≤1000∧dx≠a∧h.get? a=some (W.instObj C dx)∧
    ∃mA,h.Ns1 dx mA∧(∀f,RelO (fs.lookup f) (mA f))∧PySem.Within mA (fs.map (·.1))
 | .own _=>∃o,h.get? a=some o
 | .xd fs=>∃mA,h.Ns1 a mA∧∀f,RelO (fs.lookup f) (mA f)
 | .rng lo hi=>∃t u v,h.get? a=some {cls:=.type "range",data:=.fields #[.int lo t,.int hi u,.int 1 v]}
 | .frz o u=>h.get? a=some o∧ObjOk H h a u
 | .tbl ps=>h.get? a=some {cls:=.none,data:=.fields ps}
 | .met f x=>h.get? a=some (W.methodObj (.ref f) (.ref x))
 | .ext φ=>φ h∧(∃o,h.get? a=some o)∧∀h1 h2:Heap,φ h1→(∀o,h1.get? a=some o→h2.get? a=some o)→φ h2
def HOk(H:Hp)(h:Heap):Prop:=∀a o,H a=some o→ObjOk P w H h a o
end
section
variable{P:Program}{w:World}{H H':Hp}{h h':Heap}{a:Addr}{o:HO}
theorem ObjOk.lt(x:ObjOk P w H h a o):a<h.objs.size:=by
 cases o with
 |lst xs=>obtain⟨_,_,_,_,e⟩:=x;exact Heap.lt_size e
 |tup xs=>obtain⟨_,_,_,p⟩:=x;exact p.lt
 |dK kvs=>obtain⟨_,_,_,_,o,_,_,e,_⟩:=x;exact Heap.lt_size e
 |dT kvs=>obtain⟨_,_,_,_,o,_,_,e,_⟩:=x;exact Heap.lt_size e
 |set S n=>obtain⟨o,_,_,_,e,_⟩:=x;exact Heap.lt_size e
 |ins C dx fs=>obtain⟨_,_,_,e,_⟩:=x;exact Heap.lt_size e
 |own y=>obtain⟨_,e⟩:=x;exact Heap.lt_size e
 |xd fs=>obtain⟨_,⟨_,_,_,e,_⟩,_⟩:=x;exact Heap.lt_size e
 |rng lo hi=>obtain⟨_,_,_,e⟩:=x;exact Heap.lt_size e
 |frz ob u=>obtain⟨e,_⟩:=x;exact Heap.lt_size e
 |tbl ps=>exact Heap.lt_size (show h.get? a=some _ from x)
 |met f y=>exact Heap.lt_size (show h.get? a=some _ from x)
 |ext φ=>obtain⟨_,⟨_,e⟩,_⟩:=x;exact Heap.lt_size e
theorem Paired.mapP{α β:Type}{F G:α→β→Prop}:∀ {l₁:List α} {l₂:List β},Paired F l₁ l₂→(∀a b,F a b→G a b)→Paired G l₁ l₂
 |_,_,.nil,_=> .nil
 |_,_,.cons r t,f=> .cons (f _ _ r) (Paired.mapP t f)
theorem ObjOk.stay(x:ObjOk P w H h a o)(k:∀b u,(b=a∨H b=some (.own a))→h.get? b=some u→h'.get? b=some u)
 (ho:∀b,H b=some (.own a)→H' b=some (.own a))(ht:∀b xs,H b=some (.tup xs)→H' b=some (.tup xs)):ObjOk P w H' h' a o:=by
 induction o with
 |lst xs=>obtain⟨z,its,n,r,e⟩:=x;exact⟨z,its,n,r,k _ _ (.inl rfl) e⟩
 |tup xs=>obtain⟨z,its,r,ob,e,c⟩:=x;exact⟨z,its,r,ob,k _ _ (.inl rfl) e,c⟩
 |dK kvs=>obtain⟨z,y,vs,r,ob,es,ep,e,c⟩:=x;exact⟨z,y,vs,r,ob,es,ep,k _ _ (.inl rfl) e,c⟩
 |dT kvs=>
  obtain⟨z,y,xs,r,ob,es,ep,e,c⟩:=x
  exact⟨z,y,xs,Paired.mapP r fun p q z=>⟨z.1,ht _ _ z.2.1,z.2.2⟩,ob,es,ep,k _ _ (.inl rfl) e,c⟩
 |set S n=>obtain⟨ob,es,ep,t,e,c⟩:=x;exact⟨ob,es,ep,t,k _ _ (.inl rfl) e,c⟩
 |ins C dx fs=>
  obtain⟨d,z,ne,e,mA,⟨od,es,ep,e2,c⟩,r⟩:=x
  exact⟨ho _ d,z,ne,k _ _ (.inl rfl) e,mA,⟨od,es,ep,k _ _ (.inr d) e2,c⟩,r⟩
 |own y=>obtain⟨ob,e⟩:=x;exact⟨ob,k _ _ (.inl rfl) e⟩
 |xd fs=>obtain⟨mA,⟨od,es,ep,e,c⟩,r⟩:=x;exact⟨mA,⟨od,es,ep,k _ _ (.inl rfl) e,c⟩,r⟩
 |rng lo hi=>obtain⟨t,u,v,e⟩:=x;exact⟨t,u,v,k _ _ (.inl rfl) e⟩
 |frz ob u ih=>obtain⟨e,q⟩:=x;exact⟨k _ _ (.inl rfl) e,ih q⟩
 |tbl ps=>
  have e:h.get? a=some {cls:=.none,data:=.fields ps}:=x
  show h'.get? a=some {cls:=.none,data:=.fields ps}
  exact k a _ (.inl rfl) e
 |met f y=>
  have e:h.get? a=some (W.methodObj (.ref f) (.ref y)):=x
  show h'.get? a=some (W.methodObj (.ref f) (.ref y))
  exact k a _ (.inl rfl) e
 |ext φ=>obtain⟨p,⟨o,e⟩,st⟩:=x;exact⟨st _ _ p fun o q=>k _ _ (.inl rfl) q,⟨o,k _ _ (.inl rfl) e⟩,st⟩
theorem HOk.lt(x:HOk P w H h)(e:H a=some o):a<h.objs.size:=(x a o e).lt
theorem HOk.fresh(x:HOk P w H h)(e:h.objs.size≤a):H a=none:=by
 cases q:H a with
 |none=>rfl
 |some u=>exact absurd (Nat.lt_of_lt_of_le (x.lt q) e) (Nat.lt_irrefl _)
theorem HOk.kept(x:HOk P w H h)(k:∀b u,h.get? b=some u→h'.get? b=some u):HOk P w H h':=fun a o e=>
 (x a o e).stay (fun b u _ q=>k b u q) (fun _ q=>q) fun _ _ q=>q
theorem HOk.laid(x:HOk P w H h)(k:∀b u,h.get? b=some u→h'.get? b=some u)(hp:h.objs.size≤a)(new:ObjOk P w (upd H a o) h' a o):HOk P w (upd H a o) h':=fun b u e=>by
 have hn:=x.fresh hp
 by_cases hb:b=a
 ·subst hb;rw [upd_same]at e;cases e;exact new
 ·rw [upd_ne hb]at e
  exact(x b u e).stay (fun c v _ q=>k c v q) (fun c q=>by rw [upd_ne (ne_of_none q hn)];exact q) fun c xs q=>by rw [upd_ne (ne_of_none q hn)];exact q
end
def Rd(H:Hp)(a:Addr)(u:HO):Prop:=H a=some u∨∃o,H a=some (.frz o u)
theorem Rd.ok{P:Program}{w:World}{H:Hp}{h:Heap}{a:Addr}{u:HO}(r:Rd H a u)(x:HOk P w H h):ObjOk P w H h a u:=by
 rcases r with r|⟨o,r⟩
 ·exact x a u r
 ·obtain⟨_,q⟩:=x a _ r
  exact q
noncomputable def Mut:Option HO→Prop
 |some (.lst _)=>True
 |some (.dK _)=>True
 |some (.dT _)=>True
 |some (.set _ _)=>True
 |some (.ins _ _ _)=>True
 |some (.ext _)=>True
 |_=>False
section
variable{P:Program}{w:World}{H:Hp}{h h':Heap}{x e:Addr}{o':HO}
theorem HOk.write(ok:HOk P w H h)(mu:Mut (H x))(he:e=x∨H e=some (.own x))(k:∀b u,b≠e→h.get? b=some u→h'.get? b=some u)(heo:∃u,h'.get? e=some u)
 (new:ObjOk P w (upd H x o') h' x o'):HOk P w (upd H x o') h':=fun b u q=>by
 have nown:∀c y,H c=some (.own y)→c≠x:=fun c y r z=>by subst z;rw [r]at mu;exact mu
 have ntup:∀c xs,H c=some (.tup xs)→c≠x:=fun c xs r z=>by subst z;rw [r]at mu;exact mu
 by_cases hb:b=x
 ·subst hb;rw [upd_same]at q;cases q;exact new
 ·rw [upd_ne hb]at q
  by_cases hbe:b=e
  ·have q':H b=some (.own x):=by
    rcases he with z|z
    ·exact absurd (hbe.trans z) hb
    ·rw [hbe];exact z
   rw [q]at q';cases q'
   obtain⟨v,hv⟩:=heo
   exact⟨v,by rw [hbe];exact hv⟩
  ·refine(ok b u q).stay (fun c v hc r=>k c v ?_ r) (fun c r=>by rw [upd_ne (nown c b r)];exact r) fun c xs r=>by rw [upd_ne (ntup c xs r)];exact r
   rcases hc with rfl|hc
   ·exact hbe
   ·rintro rfl
    rcases he with z|z
    ·exact nown c b hc z
    ·rw [hc]at z;cases z;exact hb rfl
end
structure Un(fs ex:List Addr)(H H':Hp)(h h':Heap):Prop where
 keep:∀b o,h.get? b=some o→H b=none→b∉fs→b∉ex→h'.get? b=some o
 slot:∀b o,h.get? b=some o→H b=none→b∈fs→b∉ex→∃sl,h'.get? b=some {o with slots:=sl}
 free:∀b o,h.get? b=some o→H b=none→b∉ex→H' b=none
 there:∀b o,h.get? b=some o→b∉ex→∃o',h'.get? b=some o'
 tups:∀b xs,H b=some (.tup xs)→H' b=some (.tup xs)
 frzs:∀b o u,H b=some (.frz o u)→H' b=some (.frz o u)
 tbls:∀b ps,H b=some (.tbl ps)→∃more,H' b=some (.tbl (ps++more))
section
variable{fs fs' ex ex':List Addr}{H H1 H2:Hp}{h h1 h2 h':Heap}{a x e:Addr}{o:HO}
theorem Un.any(u:Un fs ex H H1 h h1){b:Addr}{ob:Obj}(q:h.get? b=some ob)(n:H b=none)(hx:b∉ex):∃sl,h1.get? b=some {ob with slots:=sl}:=by
 by_cases hb:b∈fs
 ·exact u.slot b ob q n hb hx
 ·exact⟨ob.slots,u.keep b ob q n hb hx⟩
theorem Un.kept(k:∀b u,h.get? b=some u→h'.get? b=some u):Un fs ex H H h h':=
 ⟨fun b ob q _ _ _=>k b ob q,fun b ob q _ _ _=>⟨ob.slots,k b ob q⟩,fun _ _ _ n _=>n,fun b ob q _=>⟨ob,k b ob q⟩,fun _ _ q=>q,fun _ _ _ q=>q,fun _ ps q=>⟨#[],by rw [q];simp⟩⟩
theorem Un.refl:Un fs ex H H h h:=Un.kept fun _ _ q=>q
theorem Un.laid(k:∀b u,h.get? b=some u→h'.get? b=some u)(hp:h.objs.size≤a)(hn:H a=none):Un fs ex H (upd H a o) h h' where
 keep:=fun b u q _ _ _=>k b u q
 slot:=fun b u q _ _ _=>⟨u.slots,k b u q⟩
 free:=fun b u q n _=>by rw [upd_ne (Nat.ne_of_lt (Nat.lt_of_lt_of_le (Heap.lt_size q) hp))];exact n
 there:=fun b u q _=>⟨u,k b u q⟩
 tups:=fun b xs q=>by rw [upd_ne (ne_of_none q hn)];exact q
 frzs:=fun b u xs q=>by rw [upd_ne (ne_of_none q hn)];exact q
 tbls:=fun b ps q=>⟨#[],by rw [upd_ne (ne_of_none q hn),q];simp⟩
theorem Un.write(mu:Mut (H x))(he:e=x∨H e=some (.own x))(k:∀b u,b≠e→h.get? b=some u→h'.get? b=some u)(heo:∃u,h'.get? e=some u):Un fs ex H (upd H x o) h h':=by
 have hx:∀b,H b=none→b≠x:=fun b n z=>by subst z;rw [n]at mu;exact mu
 have hb:∀b,H b=none→b≠e:=fun b n z=>by
  subst z
  rcases he with r|r
  ·exact hx b n r
  ·rw [n]at r;cases r
 have hm:∀b u,H b=some u→¬Mut (some u)→b≠x:=fun b u q nm z=>by subst z;rw [q]at mu;exact nm mu
 refine⟨fun b u q n _ _=>k b u (hb b n) q,fun b u q n _ _=>⟨u.slots,k b u (hb b n) q⟩,fun b u q n _=>by rw [upd_ne (hx b n)];exact n,fun b u q _=> ?_,
  fun b xs q=>by rw [upd_ne (hm b _ q fun z=>z)];exact q,fun b u xs q=>by rw [upd_ne (hm b _ q fun z=>z)];exact q,fun b ps q=>⟨#[],by rw [upd_ne (hm b _ q fun z=>z),q];simp⟩⟩
 by_cases hbe:b=e
 ·subst hbe;exact heo
 ·exact⟨u,k b u hbe q⟩
end
noncomputable def trk(h:Heap)(H:Hp):List Addr:=(List.range h.objs.size).filter fun a=>(H a).isSome
noncomputable def hidT(h:Heap)(H:Hp):Heap:=W.hideAll h (trk h H)
theorem hidT_size(h:Heap)(H:Hp):(hidT h H).objs.size=h.objs.size:=W.hideAll_size _ _
theorem hidT_get{h:Heap}{H:Hp}{b:Addr}{o:Obj}(e:h.get? b=some o)(n:H b=none):(hidT h H).get? b=some o:=
 W.hideAll_get _ e fun hm=>by
   have q:(H b).isSome=true:=(List.mem_filter.mp hm).2
   rw [n]at q;simp at q
theorem of_hidT{h:Heap}{H:Hp}{b:Addr}{o:Obj}(e:(hidT h H).get? b=some o):h.get? b=some o∧H b=none:=by
 have e':h.get? b=some o:=W.of_hideAll (trk h H) e
 refine⟨e',?_⟩
 cases q:H b with
 |none=>rfl
 |some x=>
  have hm:b∈trk h H:=List.mem_filter.mpr ⟨List.mem_range.mpr (Heap.lt_size e'),by simp [q]⟩
  have z:(hidT h H).get? b=none:=W.hideAll_none (trk h H) hm
  rw [z]at e;cases e
noncomputable def allNews(g h:Heap)(L:Addr):List (Addr×Obj):=(List.range h.objs.size).filterMap fun a=>if a=L∨(g.get? a).isSome=true then none else(h.get? a).map fun o=>(a,o)
noncomputable def rest(g h:Heap)(L d:Addr):List (Addr×Obj):=(allNews g h L).filter fun p=>decide (p.1≠d)
end L2
namespace L2
open PySem PySem.Spec PyProof.Rows
structure Mod(K:W.Frag)(mg:Str→Option Value)(base:Heap):Prop where
 kin:K.In base
 glob:base.Ns mainGlobals mg
 blt:∃mb,base.Ns builtinsNs mb∧∀x:Str,x≠"__name__"→mb x=bootBuiltins x
 nolimit:base.NoLimit
structure Cx where
 prog:Program
 w:World
 K:W.Frag
 mg:Str→Option Value
 base:Heap
 A:Around
 N:List Str
 s₀:Shared
 H₀:Hp
 env:Env
 outer:List Env
 stack:List Env
 ex:List Addr
 fn:Str→Bool
 calm:Bool
 pn:List (Addr×Obj)
 xe:Value→Shared→Prop
noncomputable def frs(l:List Env):List Addr:=l.filterMap (·.frame)
noncomputable abbrev Cx.fs(X:Cx):List Addr:=frs X.outer
def Vis(sc:Scope)(x:Str):Prop:=sc.names.lookup x=some .local∨sc.names.lookup x=some .cell∨sc.names.lookup x=some .free
def Loc(sc:Scope)(x:Str):Prop:=sc.names.lookup x=some .local∨sc.names.lookup x=some .cell
def Look(env:Env)(h:Heap)(m:Str→Option Value)(x:Str)(u:Value):Prop:=
 (env.kindOf x=some .local∧m x=some u)∨((env.kindOf x=some .cell∨env.kindOf x=some .free)∧∃c,env.cells.lookup x=some c∧h.IsCell c (some u))
structure Cx.Ok(X:Cx):Prop where
 mod:Mod X.K X.mg X.base
 kind:X.env.scope.kind=.function
 glob:X.env.globals=mainGlobals
 blt:X.env.builtins=builtinsNs
 above:X.s₀.heap.objs.size≤X.env.locals
 inj:∀x y c,X.env.cells.lookup x=some c→X.env.cells.lookup y=some c→x=y
 has:∀x,(X.env.kindOf x=some .cell∨X.env.kindOf x=some .free)→∃c,X.env.cells.lookup x=some c
 cab:∀x c,X.fn x=true→X.env.cells.lookup x=some c→X.s₀.heap.objs.size≤c
 hd:X.calm=true→X.A.handled=none
 frames:X.A.frames=some X.stack
 stk:X.stack=X.outer∨(X.stack=X.env::X.outer∧X.env.frame=some X.env.locals)
 exf:∀b∈X.ex,b≠X.env.locals∧∀x c,X.env.cells.lookup x=some c→c≠b
 bs:∀b o,X.base.get? b=some o→X.s₀.heap.get? b=some o∧X.H₀ b=none
 bsz:X.base.objs.size≤X.s₀.heap.objs.size
 noex:∀b o,X.base.get? b=some o→b∉X.ex
 exfs:∀b∈X.ex,b∉X.fs
 funs:X.s₀.heap.FunFrames X.base X.outer
 frf:∀b∈X.fs,X.H₀ b=none
structure Inv(X:Cx)(pins:List (Addr×Obj))(σ:List (Option V))(H:Hp)(s:Shared):Prop where
 ok:X.Ok
 os:s.os=X.s₀.os
 bare:AllBare s.gens
 base:Un X.fs X.ex X.H₀ H X.s₀.heap s.heap
 loc:∃m,s.heap.Ns X.env.locals m∧∀(i:Nat) (x:Str) (v:V),X.N[i]?=some x→σ[i]?=some (some v)→Vis X.env.scope x→∃u,RelV v u∧Look X.env s.heap m x u
 cell:∀x c,X.env.cells.lookup x=some c→∃v,s.heap.IsCell c v
 free:H X.env.locals=none
 freeC:∀x c,X.env.cells.lookup x=some c→H c=none
 pin:∀p∈X.pn++pins,s.heap.get? p.1=some p.2∧H p.1=none∧p.1≠X.env.locals∧p.1∉X.fs∧∀v,p.2.data≠.cell v
 hok:HOk X.prog X.w H s.heap
 len:σ.length=X.N.length
section
variable{X:Cx}{pins:List (Addr×Obj)}{σ:List (Option V)}{H H':Hp}{s:Shared}{h':Heap}
theorem Cx.Ok.nofr(ok:X.Ok){b:Addr}{o:Obj}(e:X.base.get? b=some o):b∉X.fs:=fun hb=>by
 have:=(ok.funs.mem hb).1
 rw [e]at this;cases this
theorem Inv.bs(I:Inv X pins σ H s):∀b o,X.base.get? b=some o→s.heap.get? b=some o∧H b=none:=fun b o e=>
 ⟨I.base.keep b o (I.ok.bs b o e).1 (I.ok.bs b o e).2 (I.ok.nofr e) (I.ok.noex b o e),I.base.free b o (I.ok.bs b o e).1 (I.ok.bs b o e).2 (I.ok.noex b o e)⟩
theorem Inv.bk(I:Inv X pins σ H s):∀b o,X.base.get? b=some o→s.heap.get? b=some o:=fun b o e=>(I.bs b o e).1
theorem Inv.mod(I:Inv X pins σ H s):Mod X.K X.mg X.base:=I.ok.mod
theorem Inv.kIn(I:Inv X pins σ H s):X.K.In s.heap:=I.ok.mod.kin.keeps I.bk
theorem Inv.lt(I:Inv X pins σ H s):X.env.locals<s.heap.objs.size:=let ⟨_,hn,_⟩:=I.loc;hn.lt
theorem Inv.sz(I:Inv X pins σ H s):X.s₀.heap.objs.size≤s.heap.objs.size:=Nat.le_trans I.ok.above (Nat.le_of_lt I.lt)
theorem Inv.nofs(I:Inv X pins σ H s){a:Addr}(h:s.heap.objs.size≤a):a∉X.fs:=fun hb=>by
 obtain⟨_,o,ho,_⟩:=I.ok.funs.mem hb
 exact absurd (Nat.lt_of_lt_of_le (Heap.lt_size ho) (Nat.le_trans I.sz h)) (Nat.lt_irrefl _)
theorem Inv.cne(I:Inv X pins σ H s):∀x c,X.env.cells.lookup x=some c→c≠X.env.locals:=fun x c e z=>by
 obtain⟨v,o,ho,hd⟩:=I.cell x c e
 obtain⟨m,⟨o',es,ep,ho',hd',_⟩,_⟩:=I.loc
 rw [z,ho']at ho;cases ho;rw [hd']at hd;cases hd
theorem Inv.funs(I:Inv X pins σ H s):s.heap.FunFrames X.base X.outer:=by
 have all:∀(l:List Env),(∀b∈frs l,b∈X.fs)→X.s₀.heap.FunFrames X.base l→s.heap.FunFrames X.base l:=by
  intro l
  induction l with
  |nil=>intro _ _;trivial
  |cons env r ih=>
   intro hs hl
   obtain⟨hk,⟨L,o,hf,hn,ho,hd⟩,hr⟩:=hl
   have hL:L∈X.fs:=hs L (by unfold frs;rw [List.filterMap_cons,hf];exact List.mem_cons_self)
   obtain⟨sl,e⟩:=I.base.slot L o ho (I.ok.frf L hL) hL fun z=>I.ok.exfs L z hL
   exact⟨hk,⟨L,_,hf,hn,e,hd⟩,ih (fun b hb=>hs b (by unfold frs;rw [List.filterMap_cons,hf];exact List.mem_cons_of_mem _ hb)) hr⟩
 exact all X.outer (fun _ hb=>hb) I.ok.funs
theorem Inv.stack(I:Inv X pins σ H s):s.heap.FunFrames X.base X.stack:=by
 rcases I.ok.stk with e|⟨e,hf⟩
 ·rw [e];exact I.funs
 ·rw [e]
  obtain⟨m,hn,_⟩:=I.loc
  refine .cons (by rw [I.ok.kind];decide) hf hn ?_ I.funs
  exact Heap.get?_none_of_le (Nat.le_trans I.ok.bsz I.ok.above)
theorem Inv.stkSub(I:Inv X pins σ H s):∀b∈frs X.stack,b∈X.env.locals::X.fs:=fun b hb=>by
 rcases I.ok.stk with e|⟨e,hf⟩
 ·rw [e]at hb;exact List.mem_cons_of_mem _ hb
 ·rw [e]at hb
  unfold frs at hb
  rw [List.filterMap_cons,hf]at hb
  exact hb
theorem Inv.stkFree(I:Inv X pins σ H s):∀b∈frs X.stack,H b=none:=fun b hb=>by
 rcases List.mem_cons.mp (I.stkSub b hb)with e|hb
 ·rw [e];exact I.free
 ·obtain⟨_,o,ho,_⟩:=I.ok.funs.mem hb
  exact I.base.free b o ho (I.ok.frf b hb) fun z=>I.ok.exfs b z hb
theorem Inv.step{g':Array GenState}{t':Nat}{d':Drawn}{ch:List Addr}(I:Inv X pins σ H s)
 (hch:∀b∈ch,(b∈X.ex∨X.s₀.heap.objs.size≤b)∧b≠X.env.locals∧(∀x c,X.env.cells.lookup x=some c→c≠b)∧∀p∈X.pn++pins,p.1≠b)
 (keep:∀b o,b≠X.env.locals→b∉X.fs→b∉ch→s.heap.get? b=some o→H b=none→h'.get? b=some o)
 (slot:∀b o,b≠X.env.locals→b∈X.fs→b∉ch→s.heap.get? b=some o→H b=none→∃sl,h'.get? b=some {o with slots:=sl})(free:∀b o,b∉ch→s.heap.get? b=some o→H b=none→H' b=none)
 (there:∀b o,b∉ch→s.heap.get? b=some o→∃o',h'.get? b=some o')
 (tups:∀b xs,H b=some (.tup xs)→H' b=some (.tup xs))(frzs:∀b o u,H b=some (.frz o u)→H' b=some (.frz o u))(tbls:∀b ps,H b=some (.tbl ps)→∃more,H' b=some (.tbl (ps++more)))
 (ns:∀m,s.heap.Ns X.env.locals m→h'.Ns X.env.locals m)(hok:HOk X.prog X.w H' h')(hg:AllBare g'):
 Inv X pins σ H' {s with heap:=h',gens:=g',drawn:=d',toks:=t'}:=by
 have neL:∀b o,X.s₀.heap.get? b=some o→b≠X.env.locals:=fun b o e=>Nat.ne_of_lt (Nat.lt_of_lt_of_le (Heap.lt_size e) I.ok.above)
 have neC:∀b o,X.s₀.heap.get? b=some o→b∉X.ex→b∉ch:=fun b o e hx hb=>by
  rcases(hch b hb).1 with z|z
  ·exact hx z
  ·exact absurd (Nat.lt_of_lt_of_le (Heap.lt_size e) z) (Nat.lt_irrefl _)
 have cellK:∀x c,X.env.cells.lookup x=some c→∀v,s.heap.IsCell c v→h'.IsCell c v:=fun x c e v ⟨o,ho,hd⟩=>by
  have nch:c∉ch:=fun z=>(hch c z).2.2.1 x c e rfl
  by_cases hc:c∈X.fs
  ·obtain⟨sl,q⟩:=slot c o (I.cne x c e) hc nch ho (I.freeC x c e)
   exact⟨_,q,hd⟩
  ·exact⟨o,keep c o (I.cne x c e) hc nch ho (I.freeC x c e),hd⟩
 refine⟨I.ok,I.os,hg,⟨fun b o e n hb hx=> ?_,fun b o e n hb hx=> ?_,fun b o e n hx=> ?_,fun b o e hx=> ?_,fun b xs e=>tups b xs (I.base.tups b xs e),fun b o xs e=>frzs b o xs (I.base.frzs b o xs e),fun b ps e=> ?_⟩,?_,fun x c e=> ?_,?_,fun x c e=> ?_,fun p hp=> ?_,hok,I.len⟩
 ·exact keep b o (neL b o e) hb (neC b o e hx) (I.base.keep b o e n hb hx) (I.base.free b o e n hx)
 ·obtain⟨sl,e1⟩:=I.base.slot b o e n hb hx
  obtain⟨sl',e2⟩:=slot b _ (neL b o e) hb (neC b o e hx) e1 (I.base.free b o e n hx)
  exact⟨sl',e2⟩
 ·obtain⟨o',e1⟩:=I.base.there b o e hx
  exact free b o' (neC b o e hx) e1 (I.base.free b o e n hx)
 ·obtain⟨o',e1⟩:=I.base.there b o e hx
  exact there b o' (neC b o e hx) e1
 ·obtain⟨m1,e1⟩:=I.base.tbls b ps e
  obtain⟨m2,e2⟩:=tbls b _ e1
  exact⟨m1++m2,by rw [e2,Array.append_assoc]⟩
 ·obtain⟨m,hn,hl⟩:=I.loc
  refine⟨m,ns m hn,fun i x v e1 e2 e3=> ?_⟩
  obtain⟨u,r,l⟩:=hl i x v e1 e2 e3
  refine⟨u,r,?_⟩
  rcases l with l|⟨k,c,e,z⟩
  ·exact .inl l
  ·exact .inr ⟨k,c,e,cellK x c e _ z⟩
 ·obtain⟨v,z⟩:=I.cell x c e
  exact⟨v,cellK x c e v z⟩
 ·obtain⟨m,⟨o,_,_,ho,_⟩,_⟩:=I.loc
  exact free _ o (fun z=>(hch _ z).2.1 rfl) ho I.free
 ·obtain⟨v,o,ho,hd⟩:=I.cell x c e
  exact free c o (fun z=>(hch c z).2.2.1 x c e rfl) ho (I.freeC x c e)
 ·obtain⟨e,n,ne,nf,d⟩:=I.pin p hp
  have nch:p.1∉ch:=fun z=>(hch p.1 z).2.2.2 p hp rfl
  exact⟨keep p.1 p.2 ne nf nch e n,free p.1 p.2 nch e n,ne,nf,d⟩
theorem Inv.un{t':Nat}(I:Inv X pins σ H s)(u:Un X.fs [] H H' s.heap h')(hok:HOk X.prog X.w H' h'):Inv X pins σ H' {s with heap:=h',toks:=t'}:=by
 obtain⟨m,⟨o,es,ep,ho,r⟩,_⟩:=id I.loc
 obtain⟨sl,hL⟩:=u.any ho I.free (by simp)
 exact I.step (g':=s.gens) (d':=s.drawn) (ch:=[]) (fun _ z=>nomatch z) (fun b o _ hb _ e n=>u.keep b o e n hb (by simp)) (fun b o _ hb _ e n=>u.slot b o e n hb (by simp)) (fun b o _ e n=>u.free b o e n (by simp)) (fun b o _ e=>u.there b o e (by simp)) u.tups u.frzs u.tbls (fun m' hm=>by
  obtain⟨o',es',ep',ho',r'⟩:=hm
  rw [ho]at ho';cases ho'
  exact⟨_,es',ep',hL,r'⟩) hok I.bare
theorem Inv.call{g':Array GenState}{t':Nat}{d':Drawn}{ch:List Addr}(I:Inv X pins σ H s)(u:Un (frs X.stack) ch H H' s.heap h')(hok:HOk X.prog X.w H' h')(hg:AllBare g')
 (hch:∀b∈ch,(b∈X.ex∨X.s₀.heap.objs.size≤b)∧b≠X.env.locals∧(∀x c,X.env.cells.lookup x=some c→c≠b)∧∀p∈X.pn++pins,p.1≠b):
 Inv X pins σ H' {s with heap:=h',gens:=g',drawn:=d',toks:=t'}:=by
 obtain⟨m,⟨o,es,ep,ho,r⟩,_⟩:=id I.loc
 obtain⟨sl,hL⟩:=u.any ho I.free fun z=>(hch _ z).2.1 rfl
 exact I.step (ch:=ch) hch (fun b o hL hb hc e n=>u.keep b o e n (fun z=>(List.mem_cons.mp (I.stkSub b z)).elim hL hb) hc) (fun b o _ _ hc e n=>u.any e n hc) (fun b o hc e n=>u.free b o e n hc) (fun b o hc e=>u.there b o e hc) u.tups u.frzs u.tbls (fun m' hm=>by
  obtain⟨o',es',ep',ho',r'⟩:=hm
  rw [ho]at ho';cases ho'
  exact⟨_,es',ep',hL,r'⟩) hok hg
theorem Inv.turned{t':Nat}{it:Addr}(I:Inv X pins σ H s)(k:∀b o,b≠it→s.heap.get? b=some o→h'.get? b=some o)(hn:H it=none)(hL:it≠X.env.locals)
 (h1:it∈X.ex∨X.s₀.heap.objs.size≤it)(h2:∀x c,X.env.cells.lookup x=some c→c≠it)(h3:∀p∈X.pn++pins,p.1≠it):Inv X pins σ H {s with heap:=h',toks:=t'}:=by
 have nit:∀b u,H b=some u→b≠it:=fun b u e z=>by rw [z,hn]at e;cases e
 refine I.step (g':=s.gens) (d':=s.drawn) (ch:=[it]) (fun b hb=> ?_) (fun b o _ _ hc e _=>k b o (fun z=>hc (by simp [z])) e) (fun b o _ _ hc e _=>⟨o.slots,k b o (fun z=>hc (by simp [z])) e⟩) (fun _ _ _ _ n=>n)
  (fun b o hc e=>⟨o,k b o (fun z=>hc (by simp [z])) e⟩) (fun _ _ e=>e) (fun _ _ _ e=>e) (fun b ps e=>⟨#[],by rw [e];simp⟩) (fun m hm=> ?_) (fun b u e=> ?_) I.bare
 ·have e:b=it:=by simpa using hb
  subst e
  exact⟨h1,hL,h2,h3⟩
 ·obtain⟨o,es,ep,ho,r⟩:=hm
  exact⟨o,es,ep,k _ o (Ne.symm hL) ho,r⟩
 ·refine(I.hok b u e).stay (fun c v hc q=>k c v ?_ q) (fun _ q=>q) fun _ _ q=>q
  rcases hc with z|z
  ·rw [z];exact nit b u e
  ·exact nit c _ z
theorem Inv.tok(I:Inv X pins σ H s)(t:Nat):Inv X pins σ H {s with toks:=t}:=I.un (h':=s.heap) (t':=t) Un.refl I.hok
theorem Inv.kept{t':Nat}(I:Inv X pins σ H s)(k:∀b u,s.heap.get? b=some u→h'.get? b=some u):Inv X pins σ H {s with heap:=h',toks:=t'}:=I.un (Un.kept k) (I.hok.kept k)
theorem Inv.laid{a:Addr}{o:HO}{t':Nat}(I:Inv X pins σ H s)(k:∀b u,s.heap.get? b=some u→h'.get? b=some u)(hp:s.heap.objs.size≤a)(new:ObjOk X.prog X.w (upd H a o) h' a o):
 Inv X pins σ (upd H a o) {s with heap:=h',toks:=t'}:=I.un (Un.laid k hp (I.hok.fresh hp)) (I.hok.laid k hp new)
theorem Inv.write{x e:Addr}{o:HO}{t':Nat}(I:Inv X pins σ H s)(mu:Mut (H x))(he:e=x∨H e=some (.own x))(k:∀b u,b≠e→s.heap.get? b=some u→h'.get? b=some u)(heo:∃u,h'.get? e=some u)
 (new:ObjOk X.prog X.w (upd H x o) h' x o):Inv X pins σ (upd H x o) {s with heap:=h',toks:=t'}:=I.un (Un.write mu he k heo) (I.hok.write mu he k heo new)
theorem Inv.pins_of{pins':List (Addr×Obj)}(I:Inv X pins σ H s)(h:∀p∈pins',s.heap.get? p.1=some p.2∧H p.1=none∧p.1≠X.env.locals∧p.1∉X.fs∧∀v,p.2.data≠.cell v):Inv X pins' σ H s:=
 ⟨I.ok,I.os,I.bare,I.base,I.loc,I.cell,I.free,I.freeC,fun p hp=>(List.mem_append.mp hp).elim (fun z=>I.pin p (List.mem_append_left _ z)) (h p),I.hok,I.len⟩
theorem nodup_ix{N:List Str}(hN:N.Nodup){i j:Nat}{x:Str}(a:N[i]?=some x)(b:N[j]?=some x):i=j:=by
 obtain⟨h1,e1⟩:=List.getElem?_eq_some_iff.mp a
 obtain⟨h2,e2⟩:=List.getElem?_eq_some_iff.mp b
 exact(List.getElem_inj hN).mp (e1.trans e2.symm)
theorem store_ok2{M:Model}{A:Around}{E:Value→Shared→Prop}{i:Nat}{x:Str}{v:V}{u:Value}{Q:Unit→Shared→Prop}(I:Inv X pins σ H s)(hN:X.N.Nodup)(hi:X.N[i]?=some x)(hx:Loc X.env.scope x)(r:RelV v u)
 (h:∀s',Inv X pins (σ.set i (some v)) H s'→(∃a,Heap.SameBut a s.heap s'.heap∧(a=X.env.locals∨X.env.cells.lookup x=some a))→Q () s')(hf:X.fn x=true∨X.env.scope.names.lookup x=some .local:=by first|exact .inl rfl|exact .inr rfl|assumption):wpAny M A (storeName X.env x u) Q E s:=by
 obtain⟨m,hn,hl⟩:=id I.loc
 have hcls:(X.env.scope.kind==.class||(X.env.scope.kind==.module&&X.env.locals !=X.env.globals))=false:=by rw [I.ok.kind];rfl
 have hiσ:i<σ.length:=by rw [I.len];exact(List.getElem?_eq_some_iff.mp hi).1
 have cne:=I.cne
 have tracked:∀ {a:Addr} {h':Heap},(∃o,s.heap.get? a=some o∧H a=none)→Heap.SameBut a s.heap h'→HOk X.prog X.w H h':=fun {a h'} ha hs b ob e=>by
  obtain⟨_,_,hfree⟩:=ha
  refine(I.hok b ob e).stay (fun c w' hc q=>(hs.2 c ?_).trans q) (fun _ q=>q) fun _ _ q=>q
  rintro rfl
  rcases hc with rfl|hc
  ·rw [hfree]at e;cases e
  ·rw [hfree]at hc;cases hc
 rcases hx with hk|hk
 ·refine wpAny_storeName_local hk hn (fun h' hn' hs=> ?_) hcls
  obtain⟨oL,_,_,hoL,_⟩:=id hn
  refine h _ ⟨I.ok,I.os,I.bare,⟨fun b o e n hb hx=> ?_,fun b o e n hb hx=> ?_,I.base.free,fun b o e hx=> ?_,I.base.tups,I.base.frzs,I.base.tbls⟩,⟨_,hn',fun j y v' e1 e2 e3=> ?_⟩,fun y c e=> ?_,I.free,I.freeC,fun p hp=> ?_,tracked ⟨oL,hoL,I.free⟩ hs,by simpa using I.len⟩ ⟨_,hs,.inl rfl⟩
  ·exact(hs.2 b (Nat.ne_of_lt (Nat.lt_of_lt_of_le (Heap.lt_size e) I.ok.above))).trans (I.base.keep b o e n hb hx)
  ·obtain⟨sl,e1⟩:=I.base.slot b o e n hb hx
   exact⟨sl,(hs.2 b (Nat.ne_of_lt (Nat.lt_of_lt_of_le (Heap.lt_size e) I.ok.above))).trans e1⟩
  ·obtain⟨o',e1⟩:=I.base.there b o e hx
   exact⟨o',(hs.2 b (Nat.ne_of_lt (Nat.lt_of_lt_of_le (Heap.lt_size e) I.ok.above))).trans e1⟩
  ·by_cases hj:j=i
   ·subst hj
    rw [hi]at e1;cases e1
    rw [List.getElem?_set_self hiσ]at e2
    cases e2
    exact⟨u,r,.inl ⟨hk,by simp⟩⟩
   ·rw [List.getElem?_set_ne (Ne.symm hj)]at e2
    obtain⟨u',r',q⟩:=hl j y v' e1 e2 e3
    refine⟨u',r',?_⟩
    rcases q with⟨k,e⟩|⟨k,c,e,z⟩
    ·refine .inl ⟨k,?_⟩
     have:y≠x:=fun e=>hj (nodup_ix hN e1 (e▸hi))
     simp [this,e]
    ·exact .inr ⟨k,c,e,z.sameBut hs (cne y c e)⟩
  ·obtain⟨w',z⟩:=I.cell y c e
   exact⟨w',z.sameBut hs (cne y c e)⟩
  ·obtain⟨e,n,ne,nf,d⟩:=I.pin p hp
   exact⟨(hs.2 p.1 ne).trans e,n,ne,nf,d⟩
 ·have hfn:X.fn x=true:=by
   rcases hf with z|z
   ·exact z
   ·rw [z]at hk;cases hk
  obtain⟨c,hc⟩:=I.ok.has x (.inl hk)
  obtain⟨w',z⟩:=I.cell x c hc
  refine wpAny_storeName_cell I.ok.kind hk hc z (fun h' hc' hs=> ?_)
  obtain⟨oc,hoc,hocd⟩:=id z
  refine h {s with heap:=h'} ⟨I.ok,I.os,I.bare,⟨fun b o e n hb hx=> ?_,fun b o e n hb hx=> ?_,I.base.free,fun b o e hx=> ?_,I.base.tups,I.base.frzs,I.base.tbls⟩,⟨m,hn.sameBut hs (Ne.symm (cne x c hc)),fun j y v' e1 e2 e3=> ?_⟩,fun y c' e=> ?_,I.free,I.freeC,fun p hp=> ?_,tracked ⟨oc,hoc,I.freeC x c hc⟩ hs,by simpa using I.len⟩ ⟨c,hs,.inr hc⟩
  ·exact(hs.2 b (Nat.ne_of_lt (Nat.lt_of_lt_of_le (Heap.lt_size e) (I.ok.cab x c hfn hc)))).trans (I.base.keep b o e n hb hx)
  ·obtain⟨sl,e1⟩:=I.base.slot b o e n hb hx
   exact⟨sl,(hs.2 b (Nat.ne_of_lt (Nat.lt_of_lt_of_le (Heap.lt_size e) (I.ok.cab x c hfn hc)))).trans e1⟩
  ·obtain⟨o',e1⟩:=I.base.there b o e hx
   exact⟨o',(hs.2 b (Nat.ne_of_lt (Nat.lt_of_lt_of_le (Heap.lt_size e) (I.ok.cab x c hfn hc)))).trans e1⟩
  ·by_cases hj:j=i
   ·subst hj
    rw [hi]at e1;cases e1
    rw [List.getElem?_set_self hiσ]at e2
    cases e2
    exact⟨u,r,.inr ⟨.inl hk,c,hc,hc'⟩⟩
   ·rw [List.getElem?_set_ne (Ne.symm hj)]at e2
    obtain⟨u',r',q⟩:=hl j y v' e1 e2 e3
    refine⟨u',r',?_⟩
    rcases q with q|⟨k,c',e,z'⟩
    ·exact .inl q
    ·refine .inr ⟨k,c',e,z'.sameBut hs ?_⟩
     rintro rfl
     exact hj (nodup_ix hN e1 (I.ok.inj _ _ _ e hc▸hi))
  ·by_cases hcc:c'=c
   ·subst hcc;exact⟨_,hc'⟩
   ·obtain⟨w2,z2⟩:=I.cell y c' e
    exact⟨w2,z2.sameBut hs hcc⟩
  ·obtain⟨e,n,ne,nf,d⟩:=I.pin p hp
   refine⟨(hs.2 p.1 ?_).trans e,n,ne,nf,d⟩
   intro q
   rw [q,hoc]at e
   have q':oc=p.2:=Option.some.inj e
   exact d w' (by rw [←q'];exact hocd)
theorem store_ok{M:Model}{A:Around}{E:Value→Shared→Prop}{i:Nat}{x:Str}{v:V}{u:Value}{Q:Unit→Shared→Prop}(I:Inv X pins σ H s)(hN:X.N.Nodup)(hi:X.N[i]?=some x)(hx:Loc X.env.scope x)(r:RelV v u)
 (h:∀s',Inv X pins (σ.set i (some v)) H s'→Q () s')(hf:X.fn x=true∨X.env.scope.names.lookup x=some .local:=by first|exact .inl rfl|exact .inr rfl|assumption):wpAny M A (storeName X.env x u) Q E s:=
 store_ok2 I hN hi hx r (fun s' I' _=>h s' I') hf
theorem Inv.call'{s':Shared}{ch:List Addr}(I:Inv X pins σ H s)(ho:s'.os=s.os)(u:Un (frs X.stack) ch H H' s.heap s'.heap)(hok:HOk X.prog X.w H' s'.heap)(hg:AllBare s'.gens)
 (hch:∀b∈ch,(b∈X.ex∨X.s₀.heap.objs.size≤b)∧b≠X.env.locals∧(∀x c,X.env.cells.lookup x=some c→c≠b)∧∀p∈X.pn++pins,p.1≠b):Inv X pins σ H' s':=by
 obtain⟨h',g',d',t',o'⟩:=s'
 have e:o'=s.os:=ho
 subst e
 exact I.call (g':=g') (t':=t') (d':=d') u hok hg hch
end
noncomputable abbrev XK:=Value→Option Addr→Hp→Prop
noncomputable abbrev St:=List (Option V)
noncomputable abbrev VK:=V→Hp→Prop
noncomputable abbrev TE:=St→Hp→VK→Prop
noncomputable abbrev TT:=St→Hp→(Bool→Hp→Prop)→Prop
noncomputable abbrev TA:=St→Hp→(List V→Hp→Prop)→Prop
structure Ends where
 nx:St→Hp→Prop
 rt:VK
 bk:St→Hp→Prop:=fun _ _=>False
 ct:St→Hp→Prop:=fun _ _=>False
noncomputable abbrev TS:=Ends→St→Hp→Prop
def EP(X:Cx)(pins:List (Addr×Obj))(σ:St)(Q:VK)(u:Value)(s':Shared):Prop:=∃v H',Inv X pins σ H' s'∧RelV v u∧Q v H'
def TP(X:Cx)(pins:List (Addr×Obj))(σ:St)(Q:Bool→Hp→Prop)(b:Bool)(s':Shared):Prop:=∃H',Inv X pins σ H' s'∧Q b H'
def AP(X:Cx)(pins:List (Addr×Obj))(σ:St)(Q:List V→Hp→Prop)(us:List Value)(s':Shared):Prop:=∃vs H',Inv X pins σ H' s'∧Vals vs us∧Q vs H'
def SP(X:Cx)(pins:List (Addr×Obj))(D:Ends)(f:Flow)(s':Shared):Prop:=
 match f with
 | .next=>∃σ' H',Inv X pins σ' H' s'∧D.nx σ' H'
 | .brk=>∃σ' H',Inv X pins σ' H' s'∧D.bk σ' H'
 | .cont=>∃σ' H',Inv X pins σ' H' s'∧D.ct σ' H'
 | .ret u=>∃v σ' H',Inv X pins σ' H' s'∧RelV v u∧D.rt v H'
def PE(X:Cx)(e:Expr)(t:TE):Prop:=
 ∀(pins:List (Addr×Obj)) (s:Shared) (σ:St) (H:Hp) (Q:VK),Inv X pins σ H s→t σ H Q→wpAny (model X.prog X.w) X.A (eval e X.env) (EP X pins σ Q) X.xe s
def PT(X:Cx)(e:Expr)(t:TT):Prop:=
 ∀(pins:List (Addr×Obj)) (s:Shared) (σ:St) (H:Hp) (Q:Bool→Hp→Prop),Inv X pins σ H s→t σ H Q→wpAny (model X.prog X.w) X.A (isTrue e X.env (eval e X.env)) (TP X pins σ Q) X.xe s
def PW(X:Cx)(e:Expr)(t:TT):Prop:=
 ∀(whole:Sem Value) (pins:List (Addr×Obj)) (s:Shared) (σ:St) (H:Hp) (Q:Bool→Hp→Prop),Inv X pins σ H s→t σ H Q→wpAny (model X.prog X.w) X.A (isTrue e X.env whole) (TP X pins σ Q) X.xe s
theorem PW.pt{X:Cx}{e:Expr}{t:TT}(h:PW X e t):PT X e t:=h _
def PA(X:Cx)(es:List Expr)(t:TA):Prop:=
 ∀(pos:Pos) (pins:List (Addr×Obj)) (s:Shared) (σ:St) (H:Hp) (Q:List V→Hp→Prop),Inv X pins σ H s→t σ H Q→wpAny (model X.prog X.w) X.A (spliced (backTo pos (starEach es X.env))) (AP X pins σ Q) X.xe s
def PS(X:Cx)(st:Stmt)(t:TS):Prop:=
 ∀(pins:List (Addr×Obj)) (s:Shared) (σ:St) (H:Hp) (D:Ends),Inv X pins σ H s→t D σ H→wpAny (model X.prog X.w) X.A (exec st X.env) (SP X pins D) X.xe s
def PSs(X:Cx)(st:List Stmt)(t:TS):Prop:=
 ∀(pins:List (Addr×Obj)) (s:Shared) (σ:St) (H:Hp) (D:Ends),Inv X pins σ H s→t D σ H→wpAny (model X.prog X.w) X.A (execs st X.env) (SP X pins D) X.xe s
theorem thn{α:Type}{t:Sem α}{Q Q':α→Shared→Prop}{M:Model}{A:Around}{E:Value→Shared→Prop}{s:Shared}(h:wpAny M A t Q E s)(hQ:∀a s,Q a s→Q' a s):wpAny M A t Q' E s:=wpAny_mono h hQ fun _ _ x=>x
end L2
namespace L2
open PySem PySem.Spec PyProof.Rows
section
variable{X:Cx}
noncomputable def tVar(i:Nat):TE:=fun σ H Q=>∃v,σ[i]?=some (some v)∧Q v H
noncomputable def tC(v:V):TE:=fun _ H Q=>Q v H
theorem pe_var{i:Nat}{x:Str}{pos:Pos}(hN:X.N[i]?=some x)(hv:Vis X.env.scope x)(hd:(x==("__debug__":Str))=false:=by decide)(hcd:(x==("__classdict__":Str))=false:=by decide):PE X (.Name x pos) (tVar i):=by
 intro pins s σ H Q I h
 obtain⟨v,e,h⟩:=h
 obtain⟨m,hn,hl⟩:=I.loc
 obtain⟨u,r,l⟩:=hl i x v hN e hv
 have fin:EP X pins σ Q u s:=⟨v,H,I,r,h⟩
 rcases l with⟨hk,hm⟩|⟨hk,c,hc,hcell⟩
 ·exact wpAny_Name (wpAny_loadName_local I.ok.kind hk hn hm fin) hd
 ·rcases hk with hk|hk
  ·exact wpAny_Name (wpAny_loadName_cell I.ok.kind hk hc hcell fin) hd
  ·exact wpAny_Name (wpAny_loadName_free I.ok.kind hk hc hcell fin hcd) hd
theorem pe_int{i j pos}:PE X (.Constant (.int i) j pos) (tC (.int i)):=fun _ _ _ H _ I h=>wpAny_Constant_int ⟨.int i,H,I.tok _,⟨_,rfl⟩,h⟩
theorem pe_bl{b j pos}:PE X (.Constant (.bool b) j pos) (tC (.bl b)):=fun _ _ _ H _ I h=>Constant_bool ⟨.bl b,H,I,rfl,h⟩
theorem pe_non{j pos}:PE X (.Constant .none j pos) (tC .non):=fun _ _ _ H _ I h=>Constant_none ⟨.non,H,I,rfl,h⟩
theorem pe_str{x j pos}:PE X (.Constant (.str x) j pos) (tC (.str x)):=fun _ _ _ H _ I h=>Calls.Constant_str ⟨.str x,H,I.tok _,⟨_,rfl⟩,h⟩
def Gl(X:Cx)(x:Str):Prop:=X.env.kindOf x=some .globalImplicit
theorem ld_glob{E:Value→Shared→Prop}{pins:List (Addr×Obj)}{s:Shared}{σ:St}{H:Hp}{x:Str}{u:Value}{pos:Pos}{Q:Value→Shared→Prop}(I:Inv X pins σ H s)(hg:Gl X x)(hm:X.mg x=some u)(h:Q u s)
 (hd:(x==("__debug__":Str))=false:=by decide):wpAny (model X.prog X.w) X.A (eval (.Name x pos) X.env) Q E s:=
 Calls.Name_function_global I.ok.kind hg (Calls.loadGlobal_global (by rw [I.ok.glob];exact I.mod.glob.keeps I.bk) hm h) hd
theorem ld_blt{E:Value→Shared→Prop}{pins:List (Addr×Obj)}{s:Shared}{σ:St}{H:Hp}{x:Str}{u:Value}{pos:Pos}{Q:Value→Shared→Prop}(I:Inv X pins σ H s)(hg:Gl X x)(hm:X.mg x=none)(hv:bootBuiltins x=some u)(h:Q u s)
 (hn:x≠"__name__":=by decide)(hd:(x==("__debug__":Str))=false:=by decide):wpAny (model X.prog X.w) X.A (eval (.Name x pos) X.env) Q E s:=by
 obtain⟨mb,h1,h2⟩:=I.mod.blt
 exact Calls.Name_function_global I.ok.kind hg (Calls.loadGlobal_builtin (by rw [I.ok.glob];exact I.mod.glob.keeps I.bk) hm (by rw [I.ok.blt];exact h1.keeps I.bk) ((h2 x hn).trans hv) h) hd
theorem pe_glob{x:Str}{v:V}{u:Value}{pos:Pos}(hg:Gl X x)(hm:X.mg x=some u)(r:RelV v u)(hd:(x==("__debug__":Str))=false:=by decide):PE X (.Name x pos) (tC v):=
 fun _ _ _ H _ I h=>ld_glob I hg hm ⟨v,H,I,r,h⟩ hd
theorem pe_bltn{x:Str}{v:V}{u:Value}{pos:Pos}(hg:Gl X x)(hm:X.mg x=none)(hv:bootBuiltins x=some u)(r:RelV v u)(hn:x≠"__name__":=by decide)(hd:(x==("__debug__":Str))=false:=by decide):PE X (.Name x pos) (tC v):=
 fun _ _ _ H _ I h=>ld_blt I hg hm hv ⟨v,H,I,r,h⟩ hn hd
variable{a b:Expr}{ta tb:TE}{pos:Pos}
noncomputable def tB(t:TE):TT:=fun σ H Q=>t σ H fun x H1=>∃c,x=.bl c∧Q c H1
theorem pt_val{e:Expr}{t:TE}(h:PE X e t)(he:∀whole,isTrue e X.env whole=(do let v←whole;standAt e.pos;holding [v] (truthy v)):=by intro _;rfl):PT X e (tB t):=by
 intro pins s σ H Q I hw
 refine isTrue_plain (thn (h pins s σ H _ I hw) fun v s1 ⟨x,H1,I1,r1,q1⟩=> ?_) (he _)
 obtain⟨d,rfl,q⟩:=q1
 cases r1
 exact wpAny_truthy_bool ⟨H1,I1,q⟩
variable{tA tB':TT}{rest:List Expr}
noncomputable def tAnd(t u:TT):TT:=fun σ H Q=>t σ H fun c H1=>if c=true then u σ H1 Q else Q false H1
noncomputable def tOr(t u:TT):TT:=fun σ H Q=>t σ H fun c H1=>if c=true then Q true H1 else u σ H1 Q
noncomputable def tNot(t:TT):TT:=fun σ H Q=>t σ H fun c H1=>Q (!c) H1
theorem pw_and1(ha:PT X a tA):PW X (.BoolOp .And [a] pos) tA:=by
 intro wh pins s σ H Q I h
 refine isTrue_and (thn (ha pins s σ H Q I h) fun c s1 e=> ?_)
 cases c with
 |true=>exact isTrue_and_nil e
 |false=>exact e
theorem pw_or1(ha:PT X a tA):PW X (.BoolOp .Or [a] pos) tA:=by
 intro wh pins s σ H Q I h
 refine isTrue_or (thn (ha pins s σ H Q I h) fun c s1 e=> ?_)
 cases c with
 |false=>exact isTrue_or_nil e
 |true=>exact e
theorem pw_and(ha:PT X a tA)(hb:PW X (.BoolOp .And (b::rest) pos) tB'):PW X (.BoolOp .And (a::b::rest) pos) (tAnd tA tB'):=by
 intro wh pins s σ H Q I h
 refine isTrue_and (thn (ha pins s σ H _ I h) fun c s1 ⟨H1,I1,q1⟩=> ?_)
 cases c with
 |true=>exact hb wh pins s1 σ H1 Q I1 q1
 |false=>exact⟨H1,I1,q1⟩
theorem pw_or(ha:PT X a tA)(hb:PW X (.BoolOp .Or (b::rest) pos) tB'):PW X (.BoolOp .Or (a::b::rest) pos) (tOr tA tB'):=by
 intro wh pins s σ H Q I h
 refine isTrue_or (thn (ha pins s σ H _ I h) fun c s1 ⟨H1,I1,q1⟩=> ?_)
 cases c with
 |true=>exact⟨H1,I1,q1⟩
 |false=>exact hb wh pins s1 σ H1 Q I1 q1
theorem pt_not(ha:PT X a tA):PT X (.UnaryOp .Not a pos) (tNot tA):=by
 intro pins s σ H Q I h
 exact isTrue_not (ha pins s σ H (fun c H1=>Q (!c) H1) I h)
noncomputable def tAndV(ta tb:TE):TE:=fun σ H Q=>ta σ H fun x H1=>∃c,x=.bl c∧if c=true then tb σ H1 Q else Q (.bl false) H1
noncomputable def tOrV(ta tb:TE):TE:=fun σ H Q=>ta σ H fun x H1=>∃c,x=.bl c∧if c=true then Q (.bl true) H1 else tb σ H1 Q
noncomputable def tNotV(ta:TE):TE:=fun σ H Q=>ta σ H fun x H1=>∃c,x=.bl c∧Q (.bl (!c)) H1
theorem pe_one{op}{t:TE}(h:PE X a t):PE X (.BoolOp op [a] pos) t:=fun pins s σ H Q I hw=>BoolOp_one (h pins s σ H Q I hw)
theorem pe_and(ha:PE X a ta)(hb:PE X (.BoolOp .And (b::rest) pos) tb):PE X (.BoolOp .And (a::b::rest) pos) (tAndV ta tb):=by
 intro pins s σ H Q I h
 refine BoolOp_and (thn (ha pins s σ H _ I h) fun v s1 ⟨x,H1,I1,r1,q1⟩=> ?_)
 obtain⟨c,rfl,q1⟩:=q1
 cases r1
 refine wpAny_truthy_bool ?_
 cases c with
 |true=>exact hb pins s1 σ H1 Q I1 q1
 |false=>exact⟨.bl false,H1,I1,rfl,q1⟩
theorem pe_or(ha:PE X a ta)(hb:PE X (.BoolOp .Or (b::rest) pos) tb):PE X (.BoolOp .Or (a::b::rest) pos) (tOrV ta tb):=by
 intro pins s σ H Q I h
 refine BoolOp_or (thn (ha pins s σ H _ I h) fun v s1 ⟨x,H1,I1,r1,q1⟩=> ?_)
 obtain⟨c,rfl,q1⟩:=q1
 cases r1
 refine wpAny_truthy_bool ?_
 cases c with
 |false=>exact hb pins s1 σ H1 Q I1 q1
 |true=>exact⟨.bl true,H1,I1,rfl,q1⟩
theorem pe_not(ha:PE X a ta):PE X (.UnaryOp .Not a pos) (tNotV ta):=by
 intro pins s σ H Q I h
 refine UnaryOp_ (thn (ha pins s σ H _ I h) fun v s1 ⟨x,H1,I1,r1,q1⟩=> ?_)
 obtain⟨c,rfl,q1⟩:=q1
 cases r1
 exact not_of (wpAny_truthy_bool ⟨.bl (!c),H1,I1,rfl,q1⟩)
noncomputable def tIf(t:TT)(ta tb:TE):TE:=fun σ H Q=>t σ H fun c H1=>if c=true then ta σ H1 Q else tb σ H1 Q
theorem pe_ifExp{c:Expr}(hc:PT X c tA)(ha:PE X a ta)(hb:PE X b tb):PE X (.IfExp c a b pos) (tIf tA ta tb):=by
 intro pins s σ H Q I h
 refine wpAny_IfExp (thn (hc pins s σ H _ I h) fun d s1 ⟨H1,I1,q1⟩=> ?_)
 cases d with
 |true=>exact ha pins s1 σ H1 Q I1 q1
 |false=>exact hb pins s1 σ H1 Q I1 q1
end
end L2
namespace L2
open PySem PySem.Spec PyProof.Rows
def SqL(K:W.Frag)(H:Hp)(a:Addr)(xs:List V):Prop:=
 Rd H a (.lst xs)∨
  ∃(o:Obj) (its:Array Value) (n:Nat),K.lookup a=some o∧o.cls=.type "list"∧o.dict=none∧o.data=.seq its n∧its.size≤sizeLine∧Vals xs its.toList
def SqT(K:W.Frag)(H:Hp)(a:Addr)(xs:List V):Prop:=
 Rd H a (.tup xs)∨
  ∃(o:Obj) (its:Array Value) (n:Nat),K.lookup a=some o∧o.cls=.type "tuple"∧o.data=.seq its n∧its.size≤sizeLine∧Vals xs its.toList
noncomputable def absV:Value→Option V
 | .none=>some .non
 | .bool b=>some (.bl b)
 | .int i _=>some (.int i)
 | .str x _=>some (.str x)
 | .bytes b _=>some (.byt b)
 | .float b _=>some (.flt b)
 | .ref a=>some (.ref a)
 | .type n=>some (.ty n)
 |_=>none
theorem RelV.abs{x:V}{u:Value}(r:RelV x u):absV u=some x:=by
 cases x with
 |non=>cases r;rfl
 |bl _=>cases r;rfl
 |int _=>obtain⟨t,rfl⟩:=r;rfl
 |str _=>obtain⟨t,rfl⟩:=r;rfl
 |byt _=>obtain⟨t,rfl⟩:=r;rfl
 |flt _=>obtain⟨t,rfl⟩:=r;rfl
 |ref _=>cases r;rfl
 |ty _=>cases r;rfl
theorem RelV.inj{x y:V}{u:Value}(r:RelV x u)(q:RelV y u):x=y:=Option.some.inj (r.abs.symm.trans q.abs)
theorem Vals.inj:∀ {xs ys:List V} {us:List Value},Vals xs us→Vals ys us→xs=ys
 |_,_,_,.nil,.nil=>rfl
 |_,_,_,.cons r t,.cons r' t'=>by rw [r.inj r',Vals.inj t t']
section
variable{X:Cx}{pins:List (Addr×Obj)}{σ:St}{H:Hp}{s:Shared}{a:Addr}{xs ys:List V}
theorem SqL.of{K:W.Frag}(h:H a=some (.lst xs)):SqL K H a xs:=.inl (.inl h)
theorem SqT.of{K:W.Frag}(h:H a=some (.tup xs)):SqT K H a xs:=.inl (.inl h)
theorem Inv.list(I:Inv X pins σ H s)(h:SqL X.K H a xs):∃its:List Value,Vals xs its∧PlainL s.heap a its.toArray∧xs.length≤sizeLine:=by
 rcases h with h|⟨o,its,n,hk,hc,hd,hs,hz,r⟩
 ·obtain⟨z,its,n,r,e⟩:=h.ok I.hok
  exact⟨its,r,⟨_,n,e,rfl,rfl,rfl⟩,z⟩
 ·refine⟨its.toList,r,⟨o,n,I.kIn a o hk,hc,hd,by simpa using hs⟩,?_⟩
  have e:=r.length
  simp only [Array.length_toList]at e
  lia
theorem Inv.tuple(I:Inv X pins σ H s)(h:SqT X.K H a xs):∃its:List Value,Vals xs its∧IsTup s.heap a its.toArray∧xs.length≤sizeLine:=by
 rcases h with h|⟨o,its,n,hk,hc,hs,hz,r⟩
 ·obtain⟨z,its,r,p⟩:=h.ok I.hok
  exact⟨its,r,p,z⟩
 ·refine⟨its.toList,r,⟨o,I.kIn a o hk,hc,n,by simpa using hs⟩,?_⟩
  have e:=r.length
  simp only [Array.length_toList]at e
  lia
theorem Inv.list_inj(I:Inv X pins σ H s)(h:SqL X.K H a xs)(h':SqL X.K H a ys):xs=ys:=by
 obtain⟨its,r,⟨o,n,e,_,_,d⟩,_⟩:=I.list h
 obtain⟨its',r',⟨o',n',e',_,_,d'⟩,_⟩:=I.list h'
 rw [e]at e';cases e'
 rw [d]at d'
 injection d' with d1 _
 have:its=its':=by simpa using congrArg Array.toList d1
 subst this
 exact r.inj r'
theorem Inv.tuple_inj(I:Inv X pins σ H s)(h:SqT X.K H a xs)(h':SqT X.K H a ys):xs=ys:=by
 obtain⟨its,r,⟨o,e,_,n,d⟩,_⟩:=I.tuple h
 obtain⟨its',r',⟨o',e',_,n',d'⟩,_⟩:=I.tuple h'
 rw [e]at e';cases e'
 rw [d]at d'
 injection d' with d1 _
 have:its=its':=by simpa using congrArg Array.toList d1
 subst this
 exact r.inj r'
end
noncomputable abbrev Cx.wish(X:Cx)(E:Value→Shared→Prop):Cx:= {X with xe:=E}
noncomputable abbrev Cx.nox(X:Cx):Cx:=X.wish fun _ _=>False
theorem Cx.Ok.wish{X:Cx}(ok:X.Ok)(E:Value→Shared→Prop):(X.wish E).Ok:=
 ⟨ok.mod,ok.kind,ok.glob,ok.blt,ok.above,ok.inj,ok.has,ok.cab,ok.hd,ok.frames,ok.stk,ok.exf,ok.bs,ok.bsz,ok.noex,ok.exfs,ok.funs,ok.frf⟩
theorem Cx.Ok.unwish{X:Cx}{E:Value→Shared→Prop}(ok:(X.wish E).Ok):X.Ok:=
 ⟨ok.mod,ok.kind,ok.glob,ok.blt,ok.above,ok.inj,ok.has,ok.cab,ok.hd,ok.frames,ok.stk,ok.exf,ok.bs,ok.bsz,ok.noex,ok.exfs,ok.funs,ok.frf⟩
section
variable{X:Cx}{pins:List (Addr×Obj)}{σ:St}{H:Hp}{s:Shared}{E:Value→Shared→Prop}
theorem Inv.wish(I:Inv X pins σ H s)(E:Value→Shared→Prop):Inv (X.wish E) pins σ H s:=⟨I.ok.wish E,I.os,I.bare,I.base,I.loc,I.cell,I.free,I.freeC,I.pin,I.hok,I.len⟩
theorem Inv.unwish(I:Inv (X.wish E) pins σ H s):Inv X pins σ H s:=⟨I.ok.unwish,I.os,I.bare,I.base,I.loc,I.cell,I.free,I.freeC,I.pin,I.hok,I.len⟩
theorem SP.unwish{D:Ends}{f:Flow}{s':Shared}(h:SP (X.wish E) pins D f s'):SP X pins D f s':=by
 cases f with
 |next=>obtain⟨σ',H',I,q⟩:=h;exact⟨σ',H',I.unwish,q⟩
 |brk=>obtain⟨σ',H',I,q⟩:=h;exact⟨σ',H',I.unwish,q⟩
 |cont=>obtain⟨σ',H',I,q⟩:=h;exact⟨σ',H',I.unwish,q⟩
 |ret u=>obtain⟨v,σ',H',I,r,q⟩:=h;exact⟨v,σ',H',I.unwish,r,q⟩
theorem PE.nox{e:Expr}{t:TE}(h:PE X.nox e t):PE X e t:=fun pins s σ H Q I hw=>
 wpAny_mono (h pins s σ H Q (I.wish _) hw) (fun _ _ ⟨v,H',I',r,q⟩=>⟨v,H',I'.unwish,r,q⟩) fun _ _ z=>False.elim z
theorem PT.nox{e:Expr}{t:TT}(h:PT X.nox e t):PT X e t:=fun pins s σ H Q I hw=>
 wpAny_mono (h pins s σ H Q (I.wish _) hw) (fun _ _ ⟨H',I',q⟩=>⟨H',I'.unwish,q⟩) fun _ _ z=>False.elim z
theorem PSs.nox{st:List Stmt}{t:TS}(h:PSs X.nox st t):PSs X st t:=fun pins s σ H D I hw=>
 wpAny_mono (h pins s σ H D (I.wish _) hw) (fun _ _ q=>q.unwish) fun _ _ z=>False.elim z
end
section
variable{X:Cx}{st:Stmt}{rest:List Stmt}{t u:TS}{e:Expr}{te:TE}{pos:Pos}
noncomputable def tNext:TS:=fun D σ H=>D.nx σ H
noncomputable def tSeq(t u:TS):TS:=fun D σ H=>t {D with nx:=u D} σ H
theorem pss_nil:PSs X [] tNext:=fun _ _ σ H _ I h=>wpAny_execs_nil ⟨σ,H,I,h⟩
theorem pss_cons(h1:PS X st t)(h2:PSs X rest u):PSs X (st::rest) (tSeq t u):=by
 intro pins s σ H D I h
 refine wpAny_execs_cons (thn (h1 pins s σ H {D with nx:=u D} I h) fun f s1 q=> ?_)
 cases f with
 |next=>
  obtain⟨σ',H',I',q⟩:=q
  exact h2 pins s1 σ' H' D I' q
 |ret v=>exact q
 |brk=>exact q
 |cont=>exact q
theorem pss_one(h1:PS X st t):PSs X [st] t:=by
 intro pins s σ H D I h
 refine wpAny_execs_cons (thn (h1 pins s σ H D I h) fun f s1 q=> ?_)
 cases f with
 |next=>exact wpAny_execs_nil q
 |ret v=>exact q
 |brk=>exact q
 |cont=>exact q
theorem ps_pass:PS X (.Pass pos) tNext:=fun _ _ σ H _ I h=>wpAny_Pass ⟨σ,H,I,h⟩
theorem Inv.quiet{pins:List (Addr×Obj)}{σ:St}{H:Hp}{s:Shared}(I:Inv X pins σ H s):interactive X.env=false:=by simp [interactive,I.ok.kind]
noncomputable def tDrop(te:TE):TS:=fun D σ H=>te σ H fun _ H1=>D.nx σ H1
theorem ps_expr(he:PE X e te)(hs:swapsWith e none pos.line X.env=pure false:=by rfl):PS X (.Expr e pos) (tDrop te):=by
 intro pins s σ H D I h
 exact wpAny_Expr_any (thn (he pins s σ H _ I h) fun v s1 ⟨x,H1,I1,r1,q1⟩=>⟨σ,H1,I1,q1⟩) I.quiet hs
noncomputable def tRet(te:TE):TS:=fun D σ H=>te σ H D.rt
theorem ps_ret(he:PE X e te):PS X (.Return (some e) pos) (tRet te):=by
 intro pins s σ H D I h
 exact wpAny_Return_some (thn (he pins s σ H _ I h) fun v s1 ⟨x,H1,I1,r1,q1⟩=>⟨x,σ,H1,I1,r1,q1⟩)
noncomputable def tIfS(c:TT)(t u:TS):TS:=fun D σ H=>c σ H fun b H1=>if b=true then t D σ H1 else u D σ H1
theorem ps_if{c:Expr}{a b:List Stmt}{tc:TT}(hc:PT X c tc)(ha:PSs X a t)(hb:PSs X b u):PS X (.If c a b pos) (tIfS tc t u):=by
 intro pins s σ H D I h
 refine wpAny_If (thn (hc pins s σ H _ I h) fun d s1 ⟨H1,I1,q1⟩=> ?_)
 cases d with
 |true=>exact ha pins s1 σ H1 D I1 q1
 |false=>exact hb pins s1 σ H1 D I1 q1
noncomputable def tNever:TS:=fun _ _ _=>False
theorem ps_never:PS X st tNever:=fun _ _ _ _ _ _ h=>h.elim
end
noncomputable abbrev TG:=V→St→Hp→(St→Hp→Prop)→Prop
noncomputable abbrev TGs:=List V→St→Hp→(St→Hp→Prop)→Prop
def PG(X:Cx)(target:Expr)(t:TG):Prop:=
 ∀(pins:List (Addr×Obj)) (s:Shared) (σ:St) (H:Hp) (v:V) (u:Value) (Q:St→Hp→Prop),Inv X pins σ H s→RelV v u→t v σ H Q→
  wpAny (model X.prog X.w) X.A (assign target X.env u) (fun _ s'=>∃σ' H',Inv X pins σ' H' s'∧Q σ' H') X.xe s
def PGs(X:Cx)(ts:List Expr)(t:TGs):Prop:=
 ∀(pins:List (Addr×Obj)) (s:Shared) (σ:St) (H:Hp) (vs:List V) (us:List Value) (Q:St→Hp→Prop),Inv X pins σ H s→Vals vs us→t vs σ H Q→
  wpAny (model X.prog X.w) X.A (assignInOrder ((assignEach ts X.env).map (·.2)) us) (fun _ s'=>∃σ' H',Inv X pins σ' H' s'∧Q σ' H') X.xe s
noncomputable abbrev TSet:=V→V→V→Hp→(Hp→Prop)→Prop
def PSet(X:Cx)(t:TSet):Prop:=
 ∀(pins:List (Addr×Obj)) (s:Shared) (σ:St) (H:Hp) (o i v:V) (ov iv u:Value) (Q:Hp→Prop),Inv X pins σ H s→RelV o ov→RelV i iv→RelV v u→t o i v H Q→
  wpAny (model X.prog X.w) X.A (setItem ov iv u) (fun _ s'=>∃H',Inv X pins σ H' s'∧Q H') X.xe s
section
variable{X:Cx}{pos:Pos}
noncomputable def gName(i:Nat):TG:=fun v σ H Q=>Q (σ.set i (some v)) H
theorem pg_name{i:Nat}{x:Str}(hN:X.N.Nodup)(hi:X.N[i]?=some x)(hx:Loc X.env.scope x)(hf:X.fn x=true∨X.env.scope.names.lookup x=some .local:=by first|exact .inl rfl|exact .inr rfl|assumption):PG X (.Name x pos) (gName i):=by
 intro pins s σ H v u Q I r h
 exact wpAny_assign_Name (store_ok I hN hi hx r (fun s' I'=>⟨_,H,I',h⟩) hf)
noncomputable def gNil:TGs:=fun vs σ H Q=>vs=[]∧Q σ H
noncomputable def gCons(t:TG)(u:TGs):TGs:=fun vs σ H Q=>∃v r,vs=v::r∧t v σ H fun σ' H'=>u r σ' H' Q
theorem pgs_nil:PGs X [] gNil:=by
 intro pins s σ H vs us Q I r h
 obtain⟨e,h⟩:=h
 subst e
 cases r
 exact assignInOrder_nil ⟨σ,H,I,h⟩
theorem pgs_cons{e:Expr}{es:List Expr}{t:TG}{u:TGs}(h1:PG X e t)(h2:PGs X es u)
 (hs:(assignEach (e::es) X.env).map (·.2)=assign e X.env::(assignEach es X.env).map (·.2):=by rfl):PGs X (e::es) (gCons t u):=by
 intro pins s σ H vs us Q I r h
 obtain⟨v,vr,e1,h⟩:=h
 subst e1
 cases r with
 |cons r rr=>
  rw [hs]
  refine assignInOrder_cons (thn (h1 pins s σ H _ _ _ I r h) fun _ s1 ⟨σ1,H1,I1,q1⟩=> ?_)
  exact h2 pins s1 σ1 H1 _ _ Q I1 rr q1
noncomputable def gTup(K:W.Frag)(n:Nat)(t:TGs):TG:=fun v σ H Q=>∃a xs,v=.ref a∧SqT K H a xs∧xs.length=n∧t xs σ H Q
theorem pg_tup{es:List Expr}{k:Nat}{t:TGs}{n:Nat}(hc:X.calm=true)(h:PGs X es t)
 (hn:(assignEach es X.env).length=n:=by rfl)(hst:(assignEach es X.env).findIdx? (·.1)=none:=by rfl):PG X (.Tuple es k pos) (gTup X.K n t):=by
 intro pins s σ H v u Q I r hw
 obtain⟨a,xs,e1,hq,hl,hw⟩:=hw
 subst e1
 cases r
 obtain⟨its,rv,ht,hz⟩:=I.tuple hq
 refine assign_Tuple_tuple (I.ok.hd hc) ht (by simp [hn,←hl,rv.length]) hst fun h' hx=> ?_
 have I1:Inv X pins σ H {s with heap:=h'}:=I.kept (t':=s.toks) fun b o e=>hx b o (Nat.ne_of_lt (Heap.lt_size e)) e
 exact h pins _ σ H xs _ Q I1 (by simpa using rv) hw
noncomputable def gSub(to ti:TE)(t:TSet):TG:=fun v σ H Q=>to σ H fun o H1=>ti σ H1 fun i H2=>t o i v H2 fun H3=>Q σ H3
theorem pg_sub{o i:Expr}{to ti:TE}{t:TSet}(ho:PE X o to)(hi:PE X i ti)(hs:PSet X t)
 (ha:∀v,assign (.Subscript o i pos) X.env v=(do
   let ov←holding [v] (eval o X.env)
   let iv←holding [v,ov] (eval i X.env)
   standAt pos
   holding [v,ov,iv] (setItem ov iv v)
   release [v,ov,iv] []):=by intro _;rfl):PG X (.Subscript o i pos) (gSub to ti t):=by
 intro pins s σ H v u Q I r h
 rw [ha]
 refine wpAny_bind (wpAny_holding (thn (ho pins s σ H _ I h) fun ov s1 ⟨x,H1,I1,r1,q1⟩=> ?_))
 refine wpAny_bind (wpAny_holding (thn (hi pins s1 σ H1 _ I1 q1) fun iv s2 ⟨y,H2,I2,r2,q2⟩=> ?_))
 refine wpAny_bind (wpAny_standAt (wpAny_bind (wpAny_holding (thn (hs pins s2 σ H2 x y v ov iv u _ I2 r1 r2 r q2) fun _ s3 ⟨H3,I3,q3⟩=> ?_))))
 exact wpAny_release ⟨σ,H3,I3,q3⟩
noncomputable def tAsg(te:TE)(g:TG):TS:=fun D σ H=>te σ H fun x H1=>g x σ H1 D.nx
theorem ps_asg{tg e:Expr}{te:TE}{g:TG}(he:PE X e te)(hg:PG X tg g)(hs:swapsWithSole [tg] e pos.line X.env=pure false:=by rfl)(hw:swappedStores [tg] e X.env=pure none:=by rfl)
 (h1:(assignEach [tg] X.env).map (·.2)=[assign tg X.env]:=by rfl):PS X (.Assign [tg] e pos) (tAsg te g):=by
 intro pins s σ H D I h
 refine wpAny_Assign_stores (thn (he pins s σ H _ I h) fun v s1 ⟨x,H1,I1,r1,q1⟩=> ?_) hs hw
 rw [h1]
 exact thn (hg pins s1 σ H1 x v _ I1 r1 q1) fun _ s2 q=>q
theorem ps_set{i:Nat}{x:Str}{e:Expr}{te:TE}{pos':Pos}(hN:X.N.Nodup)(hi:X.N[i]?=some x)(hx:Loc X.env.scope x)(he:PE X e te)(hs:swapsWith e (some (.Name x pos')) pos.line X.env=pure false:=by rfl)(hf:X.fn x=true∨X.env.scope.names.lookup x=some .local:=by first|exact .inl rfl|exact .inr rfl|assumption):
 PS X (.Assign [.Name x pos'] e pos) (tAsg te (gName i)):=by
 intro pins s σ H D I h
 refine wpAny_Assign_Name (thn (he pins s σ H _ I h) fun v s1 ⟨y,H1,I1,r1,q1⟩=> ?_) hs
 exact store_ok I1 hN hi hx r1 (fun s2 I2=>⟨_,H1,I2,q1⟩) hf
noncomputable def tPar(i j:Nat)(ta:TA):TS:=fun D σ H=>ta σ H fun vs H1=>∃v w,vs=[v,w]∧D.nx ((σ.set i (some v)).set j (some w)) H1
theorem ps_par{i j:Nat}{x y:Str}{a b:Expr}{ta:TA}{px py pt:Pos}{kt k2 pt2}(hc:X.calm=true)(hN:X.N.Nodup)(hi:X.N[i]?=some x)(hj:X.N[j]?=some y)(hij:i≠j)
 (hx:X.env.scope.names.lookup x=some .local)(hy:X.env.scope.names.lookup y=some .local)(ha:PA X [a,b] ta)
 (hw:swappedStores [.Tuple [.Name x px,.Name y py] kt pt] (.Tuple [a,b] k2 pt2) X.env=pure (some [x,y]))
 (hs:swapsWithSole [.Tuple [.Name x px,.Name y py] kt pt] (.Tuple [a,b] k2 pt2) pos.line X.env=pure false:=by rfl):
 PS X (.Assign [.Tuple [.Name x px,.Name y py] kt pt] (.Tuple [a,b] k2 pt2) pos) (tPar i j ta):=by
 intro pins s σ H D I h
 rw [exec_Assign_arm]
 refine wpAny_bind (wpAny_standAt ?_)
 rw [hs]
 refine wpAny_bind (wpAny_pure ?_)
 rw [if_neg (by decide)]
 refine wpAny_bind (Tuple_ (thn (ha _ pins s σ H _ I h) fun us s1 ⟨vs,H1,I1,r1,q1⟩=> ?_))
 obtain⟨v,w,e1,q1⟩:=q1
 subst e1
 obtain⟨u1,u2,rfl,rv,rw'⟩:∃u1 u2,us=[u1,u2]∧RelV v u1∧RelV w u2:=by
  cases r1 with
  |cons p q=>
   cases q with
   |cons p' q'=>
    cases q'
    exact⟨_,_,rfl,p,p'⟩
 refine wpAny_newObj_type ?_ (by show 2≤sizeLine;decide)
 have I2:Inv X pins σ H1 {s1 with heap:=s1.heap.push {cls:=.type "tuple",data:=.seq [u1,u2].toArray}}:=I1.kept (t':=s1.toks) fun b o e=>Heap.get?_push_of_some _ e
 rw [hw]
 refine wpAny_bind (wpAny_pure ?_)
 show wpAny (model X.prog X.w) X.A (do rule "assign.swapped-stores";let items←unpackItems (.ref s1.heap.objs.size) 2 none;assignInOrder [fun v=>bindName X.env y v,fun v=>bindName X.env x v] items.reverse;pure Flow.next) _ _ _
 refine wpAny_bind (wpAny_rule (wpAny_bind (unpackItems_tuple (items:= #[u1,u2]) (I.ok.hd hc) (IsTup.new s1.heap _) fun h' hx'=> ?_)))
 have I3:=I2.kept (h':=h') (t':=s1.toks) fun b o e=>hx' b o (Nat.ne_of_lt (Heap.lt_size e)) e
 show wpAny _ _ (assignInOrder [fun v=>bindName X.env y v,fun v=>bindName X.env x v] [u2,u1]>>=fun _=>pure Flow.next) _ _ _
 refine wpAny_bind (assignInOrder_cons (wpAny_bindName (store_ok I3 hN hj (.inl hy) rw' (fun s2 I4=> ?_) (.inr hy))))
 refine assignInOrder_cons (wpAny_bindName (store_ok I4 hN hi (.inl hx) rv (fun s3 I5=>assignInOrder_nil (wpAny_pure ?_)) (.inr hx)))
 rw [List.set_comm _ _ (Ne.symm hij)]at I5
 exact⟨_,H1,I5,q1⟩
end
section
variable{X:Cx}{pos:Pos}
noncomputable def tWhile(c:TT)(tb:TS):TS:=fun D σ H=>∃W:Nat→St→Hp→Prop,(∃m,W m σ H)∧∀m σ H,W m σ H→
 c σ H fun b H1=>if b=true then∃N:St→Hp→Prop,(∀σ' H',N σ' H'→∃m',m'<m∧W m' σ' H')∧tb {D with nx:=N,ct:=N,bk:=D.nx} σ H1 else D.nx σ H1
theorem ps_while{c:Expr}{body:List Stmt}{tc:TT}{tb:TS}(hp:PassesOwn (model X.prog X.w) X.A X.env X.xe)(hc:PT X c tc)(hb:PSs X body tb):PS X (.While c body [] pos) (tWhile tc tb):=by
 intro pins s σ H D I h
 obtain⟨W,⟨m0,w0⟩,turn⟩:=h
 refine wpAny_While (codeAny_whileLoop (fun n s'=>∃σ' H',Inv X pins σ' H' s'∧W n σ' H') ?_ m0 ⟨σ,H,I,w0⟩)
 rintro n s1 ⟨σ1,H1,I1,w1⟩
 refine wpAny_passesOwn hp (thn (hc pins s1 σ1 H1 _ I1 (turn n σ1 H1 w1)) fun b s2 ⟨H2,I2,q2⟩=> ?_)
 cases b with
 |true=>
  obtain⟨N,hN,q2⟩:=q2
  rw [if_pos rfl]
  refine wpAny_passesOwn hp (thn (hb pins s2 σ1 H2 _ I2 q2) fun f s3 q3=> ?_)
  cases f with
  |next=>
   obtain⟨σ3,H3,I3,n3⟩:=q3
   obtain⟨m',hm,w3⟩:=hN σ3 H3 n3
   exact⟨m',hm,σ3,H3,I3,w3⟩
  |cont=>
   obtain⟨σ3,H3,I3,n3⟩:=q3
   obtain⟨m',hm,w3⟩:=hN σ3 H3 n3
   exact⟨m',hm,σ3,H3,I3,w3⟩
  |brk=>exact q3
  |ret v=>exact q3
 |false=>
  rw [if_neg fnt]
  exact wpAny_execs_nil ⟨σ1,H2,I2,q2⟩
end
structure It where
 go:Nat→Hp→Prop
 yld:Nat→Hp→V→Hp→Prop
 stop:Nat→Hp→Prop
def FpOk(X:Cx)(pins:List (Addr×Obj))(H:Hp)(b:Addr):Prop:=
 H b=none∧b≠X.env.locals∧b∉X.fs∧(b∈X.ex∨X.s₀.heap.objs.size≤b)∧(∀x c,X.env.cells.lookup x=some c→c≠b)∧∀p∈X.pn++pins,p.1≠b
theorem Inv.fpOk{X:Cx}{pins:List (Addr×Obj)}{σ:St}{H H':Hp}{s:Shared}{b:Addr}(I:Inv X pins σ H s)(hb:s.heap.objs.size≤b)(hn:H' b=none):FpOk X pins H' b:=by
 refine⟨hn,Nat.ne_of_gt (Nat.lt_of_lt_of_le I.lt hb),I.nofs hb,.inr (Nat.le_trans I.sz hb),fun x c e z=> ?_,fun p hp z=> ?_⟩
 ·obtain⟨v,q⟩:=I.cell x c e
  exact absurd (Nat.lt_of_lt_of_le q.lt (by rw [z];exact hb)) (Nat.lt_irrefl _)
 ·exact absurd (Nat.lt_of_lt_of_le (Heap.lt_size (I.pin p hp).1) (by rw [z];exact hb)) (Nat.lt_irrefl _)
structure Turn(P:Program)(w:World)(K:W.Frag)(tg:Expr)(J:It)(fp:List Addr)(it:Addr)(tn:Nat→Heap→Prop):Prop where
 mem:it∈fp
 obj:∀i h,tn i h→∀b∈fp,∃o,h.get? b=some o∧∀v,o.data≠.cell v
 keep:∀i h h',tn i h→(∀b∈fp,∀o,h.get? b=some o→h'.get? b=some o)→tn i h'
 item:∀(X:Cx),X.prog=P→X.w=w→X.K=K→X.calm=true→∀(i:Nat) (pins:List (Addr×Obj)) (s:Shared) (σ:St) (H:Hp) (E:Value→Shared→Prop),Inv X pins σ H s→(∀b∈fp,FpOk X pins H b)→tn i s.heap→J.go i H→
  wpAny (model P w) X.A (pyNext (.ref it)) (fun r s1=>∃u,r=some u∧
   wpAny (model P w) X.A (letOwnedTupleGo tg (.ref it) u) (fun _ s2=>∃x H',Inv X pins σ H' s2∧RelV x u∧J.yld i H x H'∧tn (i+1) s2.heap∧∀b∈fp,H' b=none) E s1) E s
 done:∀(X:Cx),X.prog=P→X.w=w→X.K=K→X.calm=true→∀(i:Nat) (pins:List (Addr×Obj)) (s:Shared) (σ:St) (H:Hp) (E:Value→Shared→Prop),Inv X pins σ H s→(∀b∈fp,FpOk X pins H b)→tn i s.heap→J.stop i H→
  wpAny (model P w) X.A (pyNext (.ref it)) (fun r s1=>r=none∧Inv X pins σ H s1) E s
 self:∀(A:Around) (i:Nat) (s:Shared) (Q:Value→Shared→Prop) (E:Value→Shared→Prop),tn i s.heap→Q (.ref it) s→wpAny (model P w) A (pyIter (.ref it)) Q E s
noncomputable abbrev TI:=St→Hp→(It→Hp→Prop)→Prop
def PIE(X:Cx)(pins:List (Addr×Obj))(σ:St)(tg:Expr)(R:It→Hp→Prop)(itv:Value)(s2:Shared):Prop:=
 ∃(it:Addr) (fp:List Addr) (tn:Nat→Heap→Prop) (J:It) (H':Hp),itv=.ref it∧Inv X pins σ H' s2∧Turn X.prog X.w X.K tg J fp it tn∧tn 0 s2.heap∧(∀b∈fp,FpOk X pins H' b)∧R J H'
def PI(X:Cx)(tg iter:Expr)(wi:TI):Prop:=
 ∀(pins:List (Addr×Obj)) (s:Shared) (σ:St) (H:Hp) (R:It→Hp→Prop),Inv X pins σ H s→wi σ H R→
  wpAny (model X.prog X.w) X.A (eval iter X.env) (fun v s1=>wpAny (model X.prog X.w) X.A (pyIter v) (PIE X pins σ tg R) X.xe s1) X.xe s
theorem go_of{M:Model}{A:Around}{E:Value→Shared→Prop}{s:Shared}{tg:Expr}{it:Addr}{u:Value}{o:Obj}{n:String}{vs:Array Value}{Q:Unit→Shared→Prop}(ho:s.heap.get? it=some o)(hc:o.cls=.type n)(hd:o.data=.fields vs)
 (hn:["enumerate","zip","dict_itemiterator","dict_reverseitemiterator","odict_iterator","itertools.zip_longest","itertools.pairwise"].contains n=false)(hQ:Q () s):wpAny M A (letOwnedTupleGo tg (.ref it) u) Q E s:=by
 unfold letOwnedTupleGo
 cases tg<;>first
  |exact wpAny_pure hQ
  |(cases u<;>first
     |exact wpAny_pure hQ
     |(refine wpAny_bind (wpAny_load ho ?_)
       rw [hc,hd]
       show wpAny M A (if(["enumerate","zip","dict_itemiterator","dict_reverseitemiterator","odict_iterator","itertools.zip_longest","itertools.pairwise"].contains n&&vs[0]?==some (rawInt _))=true then _ else _) Q E s
       rw [if_neg (by intro h;rw [hn,Bool.false_and]at h;cases h)]
       exact wpAny_pure hQ))
noncomputable def Itl(K:W.Frag)(a:Addr):It:=
 ⟨fun i H=>∃xs x,SqL K H a xs∧xs[i]?=some x,fun i H x H'=>H'=H∧∀xs,SqL K H a xs→xs[i]?=some x,fun i H=>∃xs,SqL K H a xs∧xs.length≤i⟩
noncomputable def Itt(K:W.Frag)(a:Addr):It:=
 ⟨fun i H=>∃xs x,SqT K H a xs∧xs[i]?=some x,fun i H x H'=>H'=H∧∀xs,SqT K H a xs→xs[i]?=some x,fun i H=>∃xs,SqT K H a xs∧xs.length≤i⟩
noncomputable def Itr(lo:Int)(n:Nat):It:=⟨fun i _=>i<n,fun i H x H'=>H'=H∧x=.int (lo+i),fun i _=>n≤i⟩
theorem turn_list{P:Program}{w:World}{K:W.Frag}{tg:Expr}(a it:Addr):Turn P w K tg (Itl K a) [it] it (fun i h=>h.IsListIter it a i) where
 mem:=by simp
 obj:=fun i h st b hb=>by
  have e:b=it:=by simpa using hb
  subst e
  obtain⟨o,e,c,d⟩:=st
  exact⟨o,e,fun v z=>by rw [d]at z;cases z⟩
 keep:=fun i h h' st k=>st.at fun o e=>k it (by simp) o e
 item:=by
  intro X hP hw hK hc i pins s σ H E I hf st hg
  subst hP hw hK
  obtain⟨xs,x,hq,hx⟩:=hg
  obtain⟨its,rv,p,hz⟩:=I.list hq
  obtain⟨u,hu,ru⟩:=rv.get hx
  obtain⟨f0,f1,f2,f3,f4,f5⟩:=hf it (by simp)
  refine wpAny_pyNext_list_item st p.isList (x:=u) (by simpa using hu) fun h' st' sb=> ?_
  have I1:Inv X pins σ H {s with heap:=h'}:=I.turned (t':=s.toks) (fun b o hb e=>(sb.2 b hb).trans e) f0 f1 f3 f4 f5
  obtain⟨o,e,c,d⟩:=id st'
  exact⟨u,rfl,go_of (s:= {s with heap:=h'}) e c d (by decide) ⟨x,H,I1,ru,⟨rfl,fun ys hy=>by rw [I.list_inj hy hq];exact hx⟩,st',fun b hb=>(hf b hb).1⟩⟩
 done:=by
  intro X hP hw hK hc i pins s σ H E I hf st hg
  subst hP hw hK
  obtain⟨xs,hq,hx⟩:=hg
  obtain⟨its,rv,p,hz⟩:=I.list hq
  obtain⟨f0,f1,f2,f3,f4,f5⟩:=hf it (by simp)
  have hl:=rv.length
  exact wpAny_pyNext_list_end (I.ok.hd hc) st p.isList (by simp;lia) fun h' eb=>⟨rfl,I.turned (t':=s.toks) (fun b o hb e=>eb b o hb e) f0 f1 f3 f4 f5⟩
 self:=fun _ _ _ _ _ st h=>wpAny_pyIter_listiter st h
theorem turn_tuple{P:Program}{w:World}{K:W.Frag}{tg:Expr}(a it:Addr):Turn P w K tg (Itt K a) [it] it (fun i h=>h.IsTupleIter it a i) where
 mem:=by simp
 obj:=fun i h st b hb=>by
  have e:b=it:=by simpa using hb
  subst e
  obtain⟨o,e,c,d⟩:=st
  exact⟨o,e,fun v z=>by rw [d]at z;cases z⟩
 keep:=fun i h h' st k=>st.at fun o e=>k it (by simp) o e
 item:=by
  intro X hP hw hK hc i pins s σ H E I hf st hg
  subst hP hw hK
  obtain⟨xs,x,hq,hx⟩:=hg
  obtain⟨its,rv,p,hz⟩:=I.tuple hq
  obtain⟨u,hu,ru⟩:=rv.get hx
  obtain⟨f0,f1,f2,f3,f4,f5⟩:=hf it (by simp)
  refine wpAny_pyNext_tuple_item st (show s.heap.IsTuple a its.toArray from p) (x:=u) (by simpa using hu) fun h' st' sb=> ?_
  have I1:Inv X pins σ H {s with heap:=h'}:=I.turned (t':=s.toks) (fun b o hb e=>(sb.2 b hb).trans e) f0 f1 f3 f4 f5
  obtain⟨o,e,c,d⟩:=id st'
  exact⟨u,rfl,go_of (s:= {s with heap:=h'}) e c d (by decide) ⟨x,H,I1,ru,⟨rfl,fun ys hy=>by rw [I.tuple_inj hy hq];exact hx⟩,st',fun b hb=>(hf b hb).1⟩⟩
 done:=by
  intro X hP hw hK hc i pins s σ H E I hf st hg
  subst hP hw hK
  obtain⟨xs,hq,hx⟩:=hg
  obtain⟨its,rv,p,hz⟩:=I.tuple hq
  obtain⟨f0,f1,f2,f3,f4,f5⟩:=hf it (by simp)
  have hl:=rv.length
  exact wpAny_pyNext_tuple_end (I.ok.hd hc) st (show s.heap.IsTuple a its.toArray from p) (by simp;lia) fun h' eb=>⟨rfl,I.turned (t':=s.toks) (fun b o hb e=>eb b o hb e) f0 f1 f3 f4 f5⟩
 self:=fun _ _ _ _ _ st h=>wpAny_pyIter_tupleiter st h
theorem turn_range{P:Program}{w:World}{K:PySem.W.Frag}{tg:Expr}(it:Addr)(lo:Int)(n:Nat):Turn P w K tg (Itr lo n) [it] it (fun i h=>IsRangeIter h it (lo+(i:Nat)*1) ((n:Int)-(i:Nat)) 1) where
 mem:=by simp
 obj:=fun i h st b hb=>by
  have e:b=it:=by simpa using hb
  subst e
  exact⟨_,st,fun v z=>by
   have z':Data.fields _=Data.cell v:=z
   cases z'⟩
 keep:=fun i h h' st k=>k it (by simp) _ st
 item:=by
  intro X hP hw hK hc i pins s σ H E I hf st hg
  subst hP hw hK
  obtain⟨f0,f1,f2,f3,f4,f5⟩:=hf it (by simp)
  have W:=Walks.range (prog:=X.prog) (w:=X.w) (I.ok.hd hc) it lo 1 n
  refine W.item i s _ _ hg st fun v h' tk hv st' kk=> ?_
  obtain⟨t,rfl⟩:=hv
  have I1:Inv X pins σ H {s with heap:=h',toks:=tk}:=I.turned (fun b o hb e=>kk b o (by simpa using hb) e) f0 f1 f3 f4 f5
  refine⟨_,rfl,go_of (s:= {s with heap:=h',toks:=tk}) (n:="range_iterator") st' rfl rfl (by decide) ⟨.int (lo+i),H,I1,⟨t,?_⟩,⟨rfl,rfl⟩,st',fun b hb=>(hf b hb).1⟩⟩
  rw [Int.mul_one]
 done:=by
  intro X hP hw hK hc i pins s σ H E I hf st hg
  subst hP hw hK
  obtain⟨f0,f1,f2,f3,f4,f5⟩:=hf it (by simp)
  exact wpAny_pyNext_range_end (I.ok.hd hc) st (by have:n≤i:=hg;lia) fun h' eb=>⟨rfl,I.turned (t':=s.toks) (fun b o hb e=>eb b o hb e) f0 f1 f3 f4 f5⟩
 self:=fun _ _ _ _ _ st h=>wpAny_pyIter_rangeiter st h
end L2
namespace L2
open PySem PySem.Spec PyProof.Rows
section
variable{X:Cx}{tg:Expr}
noncomputable def iList(K:W.Frag)(tl:TE):TI:=fun σ H R=>tl σ H fun x H1=>∃a,x=.ref a∧(∃xs,SqL K H1 a xs)∧R (Itl K a) H1
noncomputable def iTup(K:W.Frag)(tl:TE):TI:=fun σ H R=>tl σ H fun x H1=>∃a,x=.ref a∧(∃xs,SqT K H1 a xs)∧R (Itt K a) H1
theorem pi_list{l:Expr}{tl:TE}(hl:PE X l tl):PI X tg l (iList X.K tl):=by
 intro pins s σ H R I h
 refine thn (hl pins s σ H _ I h) fun v s1 ⟨x,H1,I1,r1,q1⟩=> ?_
 obtain⟨a,e,⟨xs,hq⟩,q⟩:=q1
 subst e
 cases r1
 obtain⟨its,rv,p,hz⟩:=I1.list hq
 refine wpAny_pyIter_list p.isList ?_
 refine⟨s1.heap.objs.size,[s1.heap.objs.size],_,_,H1,rfl,I1.kept (t':=s1.toks) fun b o e=>Heap.get?_push_of_some _ e,turn_list a _,⟨_,Heap.get?_push_size _ rfl,rfl,rfl⟩,fun b hb=> ?_,q⟩
 have e:b=s1.heap.objs.size:=by simpa using hb
 subst e
 exact I1.fpOk (Nat.le_refl _) (I1.hok.fresh (Nat.le_refl _))
theorem pi_tup{l:Expr}{tl:TE}(hl:PE X l tl):PI X tg l (iTup X.K tl):=by
 intro pins s σ H R I h
 refine thn (hl pins s σ H _ I h) fun v s1 ⟨x,H1,I1,r1,q1⟩=> ?_
 obtain⟨a,e,⟨xs,hq⟩,q⟩:=q1
 subst e
 cases r1
 obtain⟨its,rv,p,hz⟩:=I1.tuple hq
 refine wpAny_pyIter_tuple (show s1.heap.IsTuple a its.toArray from p) ?_
 refine⟨s1.heap.objs.size,[s1.heap.objs.size],_,_,H1,rfl,I1.kept (t':=s1.toks) fun b o e=>Heap.get?_push_of_some _ e,turn_tuple a _,⟨_,Heap.get?_push_size _ rfl,rfl,rfl⟩,fun b hb=> ?_,q⟩
 have e:b=s1.heap.objs.size:=by simpa using hb
 subst e
 exact I1.fpOk (Nat.le_refl _) (I1.hok.fresh (Nat.le_refl _))
theorem range_it{pins:List (Addr×Obj)}{σ:St}{H:Hp}{s:Shared}{R:It→Hp→Prop}{E:Value→Shared→Prop}{lo hi:Int}{t u v:Tok}{tk:Nat}(I:Inv X pins σ H s)(h1:-(2 ^ 62)≤lo)(h2:lo<2 ^ 62)(h3:-(2 ^ 62)≤hi)(h4:hi<2 ^ 62)
 (q:R (Itr lo (hi-lo).toNat) H):wpAny (model X.prog X.w) X.A (pyIter (.ref s.heap.objs.size)) (PIE X pins σ tg R) E {s with heap:=s.heap.push {cls:=.type "range",data:=.fields #[.int lo t,.int hi u,.int 1 v]},toks:=tk}:=by
 refine wpAny_pyIter_range (IsRange.new ..) (small_one h1 h2 h3 h4) ?_
 have I1:Inv X pins σ H {s with heap:=s.heap.push {cls:=.type "range",data:=.fields #[.int lo t,.int hi u,.int 1 v]},toks:=tk}:=I.kept fun b o e=>Heap.get?_push_of_some _ e
 refine⟨(s.heap.push {cls:=.type "range",data:=.fields #[.int lo t,.int hi u,.int 1 v]}).objs.size,[(s.heap.push {cls:=.type "range",data:=.fields #[.int lo t,.int hi u,.int 1 v]}).objs.size],_,_,H,rfl,
  I1.kept (t':=tk) fun b o e=>Heap.get?_push_of_some _ e,turn_range _ lo (hi-lo).toNat,?_,fun b hb=> ?_,q⟩
 ·have e1:lo+((0:Nat):Int)*1=lo:=by simp
  have e2:(((hi-lo).toNat:Nat):Int)-((0:Nat):Int)=Builtin.Range.rangeSize lo hi 1:=by rw [rangeSize_one];split<;>lia
  show IsRangeIter _ _ (lo+((0:Nat):Int)*1) ((((hi-lo).toNat:Nat):Int)-((0:Nat):Int)) 1
  rw [e1,e2]
  exact Heap.get?_push_size _ rfl
 ·have e:b=(s.heap.push {cls:=.type "range",data:=.fields #[.int lo t,.int hi u,.int 1 v]}).objs.size:=by simpa using hb
  subst e
  exact I1.fpOk (Nat.le_refl _) (I1.hok.fresh (Nat.le_refl _))
noncomputable def iRng1(ta:TA):TI:=fun σ H R=>ta σ H fun vs H1=>∃j:Int,vs=[.int j]∧-(2 ^ 62)≤j∧j<2 ^ 62∧R (Itr 0 j.toNat) H1
theorem pi_range1{a:Expr}{ta:TA}{p pos:Pos}(hg:Gl X "range")(hm:X.mg "range"=none)(ha:PA X [a] ta)(hs:starEach [a] X.env=[(false,eval a X.env)]:=by rfl):PI X tg (.Call (.Name "range" p) [a] [] pos) (iRng1 ta):=by
 intro pins s σ H R I h
 refine Call_ (ld_blt I hg hm boot_range (PyProof.Rows.callWith_type1 (thn (ha pos pins s σ H _ I h) fun us s1 ⟨vs,H1,I1,r1,q1⟩=> ?_) hs rfl))
 obtain⟨j,e,q1,q2,q⟩:=q1
 subst e
 cases r1 with
 |cons r rr=>
  cases rr
  obtain⟨t,rfl⟩:=r
  exact call_range_1 (range_it I1 (by lia) (by lia) q1 q2 (by simpa using q))
noncomputable def tFor(wi:TI)(g:TG)(tb:TS):TS:=fun D σ H=>wi σ H fun J H1=>∃W:Nat→Nat→St→Hp→Prop,(∃m,W 0 m σ H1)∧∀i m σ H,W i m σ H→
 (J.stop i H∧D.nx σ H)∨(J.go i H∧∃N:St→Hp→Prop,(∀σ' H',N σ' H'→∃m',m'<m∧W (i+1) m' σ' H')∧∀x H',J.yld i H x H'→g x σ H' fun σ2 H2=>tb {D with nx:=N,ct:=N,bk:=D.nx} σ2 H2)
noncomputable def pinsAt(fp:List Addr)(h:Heap):List (Addr×Obj):=fp.filterMap fun b=>(h.get? b).map fun o=>(b,o)
theorem mem_pinsAt{fp:List Addr}{h:Heap}{b:Addr}{o:Obj}(hb:b∈fp)(e:h.get? b=some o):(b,o)∈pinsAt fp h:=List.mem_filterMap.mpr ⟨b,hb,by rw [e];rfl⟩
theorem of_pinsAt{fp:List Addr}{h:Heap}{p:Addr×Obj}(hp:p∈pinsAt fp h):p.1∈fp∧h.get? p.1=some p.2:=by
 obtain⟨b,hb,e⟩:=List.mem_filterMap.mp hp
 cases q:h.get? b with
 |none=>rw [q]at e;cases e
 |some o=>
  rw [q]at e
  have e':(b,o)=p:=Option.some.inj e
  subst e'
  exact⟨hb,q⟩
theorem Inv.pinned{pins:List (Addr×Obj)}{σ:St}{H:Hp}{s:Shared}{fp:List Addr}(I:Inv X pins σ H s)(hf:∀b∈fp,FpOk X pins H b)(ho:∀b∈fp,∃o,s.heap.get? b=some o∧∀v,o.data≠.cell v):Inv X (pins++pinsAt fp s.heap) σ H s:=
 I.pins_of fun p hp=>(List.mem_append.mp hp).elim (fun z=>I.pin p (List.mem_append_right _ z)) fun z=>by
   obtain⟨hb,e⟩:=of_pinsAt z
   obtain⟨f0,f1,f2,_⟩:=hf p.1 hb
   obtain⟨o,e',d⟩:=ho p.1 hb
   rw [e]at e';cases e'
   exact⟨e,f0,f1,f2,d⟩
theorem Inv.unpinned{pins pl:List (Addr×Obj)}{σ:St}{H:Hp}{s:Shared}(I:Inv X (pins++pl) σ H s):Inv X pins σ H s:=I.pins_of fun p hp=>I.pin p (List.mem_append_right _ (List.mem_append_left _ hp))
theorem ps_for{iter:Expr}{body:List Stmt}{wi:TI}{g:TG}{tb:TS}{pos:Pos}(hp:PassesOwn (model X.prog X.w) X.A X.env X.xe)(hc:X.calm=true)(hi:PI X tg iter wi)(hg:PG X tg g)(hb:PSs X body tb)
 (hs:∀x,foldedSetIterable iter X.env x=pure x:=by intro _;rfl):PS X (.For tg iter body [] pos) (tFor wi g tb):=by
 intro pins s σ H D I h
 refine wpAny_For (thn (hi pins s σ H _ I h) fun v s1 h1=>thn h1 fun itv s2 h2=> ?_) hs
 obtain⟨it,fp,tn,J,H2,e,I2,T,st2,f2,W,⟨m0,w0⟩,turn⟩:=h2
 subst e
 have stat:∀ {H':Hp},(∀b∈fp,H' b=none)→∀b∈fp,FpOk X pins H' b:=fun hn b hb=>⟨hn b hb,(f2 b hb).2⟩
 refine codeAny_forLoop_any (fun n s'=>∃i σ' H',Inv X pins σ' H' s'∧tn i s'.heap∧(∀b∈fp,H' b=none)∧W i n σ' H') ?_ m0 ⟨0,σ,H2,I2,st2,fun b hb=>(f2 b hb).1,w0⟩
 rintro n s3 ⟨i,σ3,H3,I3,st3,fr3,w3⟩
 rcases turn i n σ3 H3 w3 with⟨stop,qn⟩|⟨go,N,hN,step⟩
 ·refine wpAny_passesOwn hp (thn (T.done X rfl rfl rfl hc i pins s3 σ3 H3 X.xe I3 (stat fr3) st3 stop) fun r s4 ⟨hr,I4⟩=> ?_)
  subst hr
  exact wpAny_execs_nil ⟨σ3,H3,I4,qn⟩
 ·refine wpAny_passesOwn hp (thn (T.item X rfl rfl rfl hc i pins s3 σ3 H3 X.xe I3 (stat fr3) st3 go) fun r s4 ⟨u,hr,h4⟩=> ?_)
  subst hr
  refine wpAny_passesOwn hp (thn h4 fun _ s5 ⟨x,H5,I5,r5,y5,st5,fr5⟩=> ?_)
  have I5':=I5.pinned (stat fr5) (T.obj _ _ st5)
  refine wpAny_passesOwn hp (thn (hg _ s5 σ3 H5 x u _ I5' r5 (step x H5 y5)) fun _ s6 ⟨σ6,H6,I6,q6⟩=> ?_)
  refine wpAny_passesOwn hp (thn (hb _ s6 σ6 H6 _ I6 q6) fun f s7 q7=> ?_)
  have again:∀ {σ7:St} {H7:Hp},Inv X (pins++pinsAt fp s5.heap) σ7 H7 s7→N σ7 H7→∃m,m<n∧∃i σ' H',Inv X pins σ' H' s7∧tn i s7.heap∧(∀b∈fp,H' b=none)∧W i m σ' H':=fun {σ7 H7} I7 n7=>by
   obtain⟨m',hm,w7⟩:=hN σ7 H7 n7
   refine⟨m',hm,i+1,σ7,H7,I7.unpinned,T.keep _ _ _ st5 fun b hb o e=>(I7.pin (b,o) (List.mem_append_right _ (List.mem_append_right _ (mem_pinsAt hb e)))).1,fun b hb=> ?_,w7⟩
   obtain⟨o,e,d⟩:=T.obj _ _ st5 b hb
   exact(I7.pin (b,o) (List.mem_append_right _ (List.mem_append_right _ (mem_pinsAt hb e)))).2.1
  cases f with
  |next=>obtain⟨σ7,H7,I7,n7⟩:=q7;exact again I7 n7
  |cont=>obtain⟨σ7,H7,I7,n7⟩:=q7;exact again I7 n7
  |brk=>obtain⟨σ7,H7,I7,q7⟩:=q7;exact⟨σ7,H7,I7.unpinned,q7⟩
  |ret v=>obtain⟨x7,σ7,H7,I7,r7,q7⟩:=q7;exact⟨x7,σ7,H7,I7.unpinned,r7,q7⟩
end
theorem for_list{K:PySem.W.Frag}{a:Addr}{xs:List V}{g:TG}{tb:TS}{D:Ends}{σ:St}{H:Hp}(Pv:Nat→St→Hp→Prop)(h0:Pv 0 σ H)(hl:∀i σ H,i≤xs.length→Pv i σ H→SqL K H a xs)
 (hs:∀i x σ H,xs[i]?=some x→Pv i σ H→g x σ H fun σ2 H2=>tb {D with nx:=Pv (i+1),ct:=Pv (i+1),bk:=D.nx} σ2 H2)(hd:∀σ H,Pv xs.length σ H→D.nx σ H):
 ∃W:Nat→Nat→St→Hp→Prop,(∃m,W 0 m σ H)∧∀i m σ H,W i m σ H→
  ((Itl K a).stop i H∧D.nx σ H)∨((Itl K a).go i H∧∃N:St→Hp→Prop,(∀σ' H',N σ' H'→∃m',m'<m∧W (i+1) m' σ' H')∧∀x H',(Itl K a).yld i H x H'→g x σ H' fun σ2 H2=>tb {D with nx:=N,ct:=N,bk:=D.nx} σ2 H2):=by
 refine⟨fun i m σ H=>m=xs.length-i∧i≤xs.length∧Pv i σ H,⟨xs.length,by simp,Nat.zero_le _,h0⟩,?_⟩
 rintro i m σ H ⟨rfl,hi,p⟩
 have q:=hl i σ H hi p
 by_cases hlt:i<xs.length
 ·refine .inr ⟨⟨xs,xs[i],q,by simp [hlt]⟩,Pv (i+1),fun σ' H' p'=>⟨xs.length-(i+1),by lia,rfl,hlt,p'⟩,fun x H' y=> ?_⟩
  obtain⟨e,y⟩:=y
  subst e
  exact hs i x σ _ (y xs q) p
 ·have e:i=xs.length:=by lia
  subst e
  exact .inl ⟨⟨xs,q,Nat.le_refl _⟩,hd σ H p⟩
end L2
namespace L2
open PySem PySem.Spec PyProof.Rows
noncomputable abbrev R2:=V→V→Hp→VK→Prop
def OpR(X:Cx)(f:Value→Value→Sem Value)(r:R2):Prop:=
 ∀(pins:List (Addr×Obj)) (s:Shared) (σ:St) (H:Hp) (x y:V) (v u:Value) (Q:VK),Inv X pins σ H s→RelV x v→RelV y u→r x y H Q→
  wpAny (model X.prog X.w) X.A (f v u) (EP X pins σ Q) X.xe s
def UnR(X:Cx)(f:Value→Sem Value)(r:V→Hp→VK→Prop):Prop:=
 ∀(pins:List (Addr×Obj)) (s:Shared) (σ:St) (H:Hp) (x:V) (v:Value) (Q:VK),Inv X pins σ H s→RelV x v→r x H Q→
  wpAny (model X.prog X.w) X.A (f v) (EP X pins σ Q) X.xe s
def CallR(X:Cx)(f:Value)(r:List V→Hp→VK→Prop):Prop:=
 ∀(pins:List (Addr×Obj)) (s:Shared) (σ:St) (H:Hp) (xs:List V) (us:List Value) (Q:VK),Inv X pins σ H s→Vals xs us→r xs H Q→
  wpAny (model X.prog X.w) X.A (call f us) (EP X pins σ Q) X.xe s
def TruR(X:Cx)(r:V→Hp→(Bool→Hp→Prop)→Prop):Prop:=
 ∀(pins:List (Addr×Obj)) (s:Shared) (σ:St) (H:Hp) (x:V) (v:Value) (Q:Bool→Hp→Prop),Inv X pins σ H s→RelV x v→r x H Q→
  wpAny (model X.prog X.w) X.A (truthy v) (TP X pins σ Q) X.xe s
noncomputable def tOp(r:R2)(ta tb:TE):TE:=fun σ H Q=>ta σ H fun x H1=>tb σ H1 fun y H2=>r x y H2 Q
noncomputable def tUn(r:V→Hp→VK→Prop)(ta:TE):TE:=fun σ H Q=>ta σ H fun x H1=>r x H1 Q
noncomputable def rI(C:Int→Int→Prop)(g:Int→Int→V):R2:=fun x y H Q=>∃i j,x=.int i∧y=.int j∧C i j∧Q (g i j) H
noncomputable def rI0(g:Int→Int→V):R2:=fun x y H Q=>∃i j,x=.int i∧y=.int j∧Q (g i j) H
noncomputable def rU(g:Int→V):V→Hp→VK→Prop:=fun x H Q=>∃i,x=.int i∧Q (g i) H
section
variable{X:Cx}{a b c:Expr}{ta tb tc:TE}{pos:Pos}
theorem binT(ha:PE X a ta)(hb:PE X b tb){pins:List (Addr×Obj)}{s:Shared}{σ:St}{H:Hp}{R:V→V→Hp→Prop}(I:Inv X pins σ H s)
 (h:ta σ H fun x H1=>tb σ H1 fun y H2=>R x y H2){Q:Value→Shared→Prop}{f:Value→Value→Sem Value}
 (hf:∀v u s2 x y H2,Inv X pins σ H2 s2→RelV x v→RelV y u→R x y H2→wpAny (model X.prog X.w) X.A (f v u) Q X.xe s2):
 wpAny (model X.prog X.w) X.A (eval a X.env) (fun v s₁=>wpAny (model X.prog X.w) X.A (eval b X.env) (fun u s₂=>wpAny (model X.prog X.w) X.A (f v u) Q X.xe s₂) X.xe s₁) X.xe s:=by
 refine thn (ha pins s σ H _ I h) fun v s1 ⟨x,H1,I1,r1,q1⟩=> ?_
 refine thn (hb pins s1 σ H1 _ I1 q1) fun u s2 ⟨y,H2,I2,r2,q2⟩=> ?_
 exact hf v u s2 x y H2 I2 r1 r2 q2
theorem pe_op{op:Operator}{r:R2}(ho:OpR X (binaryOp op) r)(ha:PE X a ta)(hb:PE X b tb):PE X (.BinOp a op b pos) (tOp r ta tb):=by
 intro pins s σ H Q I h
 exact wpAny_BinOp (binT ha hb I h fun v u s2 x y H2 I2 rx ry q=>ho pins s2 σ H2 x y v u Q I2 rx ry q)
theorem pe_un{op:UnaryOp}{r:V→Hp→VK→Prop}(ho:UnR X (unaryOp op) r)(ha:PE X a ta):PE X (.UnaryOp op a pos) (tUn r ta):=by
 intro pins s σ H Q I h
 exact UnaryOp_ (thn (ha pins s σ H _ I h) fun v s1 ⟨x,H1,I1,r1,q1⟩=>ho pins s1 σ H1 x v Q I1 r1 q1)
theorem opI{f:Value→Value→Sem Value}{C:Int→Int→Prop}{g:Int→Int→Int}
 (rule:∀(i j:Int) (t u:Tok) (s:Shared) (Q:Value→Shared→Prop) (E:Value→Shared→Prop),C i j→Q (.int (g i j) s.toks) {s with toks:=s.toks+1}→wpAny (model X.prog X.w) X.A (f (.int i t) (.int j u)) Q E s):
 OpR X f (rI C fun i j=> .int (g i j)):=by
 intro pins s σ H x y v u Q I rx ry h
 obtain⟨i,j,rfl,rfl,hc,q⟩:=h
 obtain⟨t,rfl⟩:=rx
 obtain⟨t',rfl⟩:=ry
 exact rule i j t t' s _ _ hc ⟨.int (g i j),H,I.tok _,⟨_,rfl⟩,q⟩
theorem opI0{f:Value→Value→Sem Value}{g:Int→Int→Int}
 (rule:∀(i j:Int) (t u:Tok) (s:Shared) (Q:Value→Shared→Prop) (E:Value→Shared→Prop),Q (.int (g i j) s.toks) {s with toks:=s.toks+1}→wpAny (model X.prog X.w) X.A (f (.int i t) (.int j u)) Q E s):
 OpR X f (rI0 fun i j=> .int (g i j)):=by
 intro pins s σ H x y v u Q I rx ry h
 obtain⟨i,j,rfl,rfl,q⟩:=h
 obtain⟨t,rfl⟩:=rx
 obtain⟨t',rfl⟩:=ry
 exact rule i j t t' s _ _ ⟨.int (g i j),H,I.tok _,⟨_,rfl⟩,q⟩
theorem opB0{f:Value→Value→Sem Value}{g:Int→Int→Bool}
 (rule:∀(i j:Int) (t u:Tok) (s:Shared) (Q:Value→Shared→Prop) (E:Value→Shared→Prop),Q (.bool (g i j)) s→wpAny (model X.prog X.w) X.A (f (.int i t) (.int j u)) Q E s):
 OpR X f (rI0 fun i j=> .bl (g i j)):=by
 intro pins s σ H x y v u Q I rx ry h
 obtain⟨i,j,rfl,rfl,q⟩:=h
 obtain⟨t,rfl⟩:=rx
 obtain⟨t',rfl⟩:=ry
 exact rule i j t t' s _ _ ⟨.bl (g i j),H,I,rfl,q⟩
def CDiv(i j:Int):Prop:=0<j∧j<1073741824
def CPow(i j:Int):Prop:=0≤j∧j≤1000000∧i.natAbs<2 ^ 64
def CMul(i j:Int):Prop:=(-(2 ^ 64)<i∧i<2 ^ 64)∨(-(2 ^ 64)<j∧j<2 ^ 64)
theorem CMul.ok{i j:Int}(h:CMul i j):IntMulOk i j:=by
 rcases h with⟨h1,h2⟩|⟨h1,h2⟩
 ·exact .of_left (intBits_le_64 h1 h2)
 ·exact .of_right (intBits_le_64 h1 h2)
theorem op_add:OpR X (binaryOp .Add) (rI0 fun i j=> .int (i+j)):=opI0 fun _ _ _ _ _ _ _ q=>add_int q
theorem op_sub:OpR X (binaryOp .Sub) (rI0 fun i j=> .int (i-j)):=opI0 fun _ _ _ _ _ _ _ q=>sub_int q
theorem op_mul:OpR X (binaryOp .Mult) (rI CMul fun i j=> .int (i*j)):=opI fun _ _ _ _ _ _ _ hc q=>mul_int q hc.ok
theorem op_fdiv:OpR X (binaryOp .FloorDiv) (rI CDiv fun i j=> .int (i/j)):=opI fun i j _ _ _ _ _ hc q=>by
 have h1:(0:Int)<j:=hc.1
 have h2:j<1073741824:=hc.2
 exact floordiv_int (by lia) (by rw [Int.fdiv_eq_ediv_of_nonneg i (by lia)];exact q) (.inl (PyProof.noPylong_small (by lia)))
theorem op_mod:OpR X (binaryOp .Mod) (rI (fun _ j=>0<j) fun i j=> .int (i % j)):=opI fun i j _ _ _ _ _ hc q=>by
 have h1:(0:Int)<j:=hc
 exact mod_int' (by lia) (by rw [Int.fmod_eq_emod_of_nonneg i (by lia)];exact q)
theorem op_pow:OpR X (binaryOp .Pow) (rI CPow fun i j=> .int (i ^ j.toNat)):=opI fun _ _ _ _ _ _ _ hc q=>pow_int_small hc.1 hc.2.1 hc.2.2 q
theorem unI{f:Value→Sem Value}{g:Int→Int}
 (rule:∀(i:Int) (t:Tok) (s:Shared) (Q:Value→Shared→Prop) (E:Value→Shared→Prop),Q (.int (g i) s.toks) {s with toks:=s.toks+1}→wpAny (model X.prog X.w) X.A (f (.int i t)) Q E s):
 UnR X f (rU fun i=> .int (g i)):=by
 intro pins s σ H x v Q I rx h
 obtain⟨i,rfl,q⟩:=h
 obtain⟨t,rfl⟩:=rx
 exact rule i t s _ _ ⟨.int (g i),H,I.tok _,⟨_,rfl⟩,q⟩
theorem un_neg:UnR X (unaryOp .USub) (rU fun i=> .int (-i)):=unI fun _ _ _ _ _ q=>neg_int q
end
noncomputable def scal:V→V→Bool
 | .non,.non=>true| .non,.int _=>true| .int _,.non=>true| .non,.bl _=>true| .bl _,.non=>true| .non,.str _=>true| .str _,.non=>true
 | .int _,.int _=>true| .bl _,.bl _=>true| .str _,.str _=>true| .byt _,.byt _=>true
 | .int _,.str _=>true| .str _,.int _=>true| .bl _,.str _=>true| .str _,.bl _=>true
 |_,_=>false
section
variable{X:Cx}{a b c:Expr}{ta tb tc:TE}{pos:Pos}
theorem fin_bl{pins:List (Addr×Obj)}{σ:St}{H:Hp}{s:Shared}{Q:VK}{k k':Bool}(I:Inv X pins σ H s)(q:Q (.bl k) H)(e:k=k'):EP X pins σ Q (.bool k') s:=by
 subst e
 exact⟨.bl k,H,I,rfl,q⟩
theorem op_lt:OpR X (compareOp .Lt) (rI0 fun i j=> .bl (decide (i<j))):=opB0 fun _ _ _ _ _ _ _ q=>lt_int q
theorem op_le:OpR X (compareOp .LtE) (rI0 fun i j=> .bl (decide (i≤j))):=opB0 fun _ _ _ _ _ _ _ q=>le_int q
theorem op_gt:OpR X (compareOp .Gt) (rI0 fun i j=> .bl (decide (j<i))):=opB0 fun _ _ _ _ _ _ _ q=>gt_int q
theorem op_isN:OpR X (compareOp .Is) (fun x y H Q=>y=.non∧Q (.bl (decide (x=.non))) H):=by
 intro pins s σ H x y v u Q I rx ry h
 obtain⟨rfl,q⟩:=h
 cases ry
 refine is_none_gen (fin_bl I q ?_)
 cases x<;>first
  |(cases rx;rfl)
  |(obtain⟨t,rfl⟩:=rx;rfl)
theorem pe_cmpR{op:CmpOp}{r:R2}(ho:OpR X (compareOp op) r)(ha:PE X a ta)(hb:PE X b tb)(hm:behindInMarks op b=false):PE X (.Compare a [op] [b] pos) (tOp r ta tb):=by
 intro pins s σ H Q I h
 exact wpAny_Compare1 (binT ha hb I h fun v u s2 x y H2 I2 rx ry q=>ho pins s2 σ H2 x y v u Q I2 rx ry q) hm
noncomputable def tTest(t:TE):TT:=fun σ H Q=>t σ H fun x H'=>∃k,x=.bl k∧Q k H'
theorem pt_cmpR{op:CmpOp}{r:R2}(ho:OpR X (compareOp op) r)(ha:PE X a ta)(hb:PE X b tb)(hm:behindInMarks op b=false):PT X (.Compare a [op] [b] pos) (tTest (tOp r ta tb)):=by
 intro pins s σ H Q I h
 refine wpAny_isTrue_Compare1 (thn (ha pins s σ H _ I h) fun v s1 ⟨x,H1,I1,r1,q1⟩=>thn (hb pins s1 σ H1 _ I1 q1) fun u s2 ⟨y,H2,I2,r2,q2⟩=>
  thn (ho pins s2 σ H2 x y v u _ I2 r1 r2 q2) fun c s3 ⟨z,H3,I3,r3,k,e,q3⟩=> ?_) hm
 subst e
 cases r3
 exact wpAny_truthy_bool ⟨H3,I3,q3⟩
noncomputable def tChain(r r':R2)(ta tb tc:TE):TE:=fun σ H Q=>ta σ H fun x H1=>tb σ H1 fun y H2=>r x y H2 fun z H3=>∃k,z=.bl k∧
 (if k=true then tc σ H3 fun w' H4=>r' y w' H4 Q else Q (.bl false) H3)
theorem pe_chain{op op':CmpOp}{r r':R2}(ho:OpR X (compareOp op) r)(ho':OpR X (compareOp op') r')(ha:PE X a ta)(hb:PE X b tb)(hc:PE X c tc)
 (hm:lastMarks [op,op'] [b,c]=false:=by with_unfolding_all rfl):PE X (.Compare a [op,op'] [b,c] pos) (tChain r r' ta tb tc):=by
 intro pins s σ H Q I h
 refine Compare_chain (thn (ha pins s σ H _ I h) fun v s1 ⟨x,H1,I1,r1,q1⟩=>chain_link (thn (hb pins s1 σ H1 _ I1 q1) fun u s2 ⟨y,H2,I2,r2,q2⟩=>
  thn (ho pins s2 σ H2 x y v u _ I2 r1 r2 q2) fun d s3 ⟨z,H3,I3,r3,k,e,q3⟩=> ?_)) hm
 subst e
 cases r3
 refine wpAny_truthy_bool ?_
 cases k with
 |false=>exact ite_ff ⟨.bl false,H3,I3,rfl,q3⟩
 |true=>exact ite_tt (chain_last (thn (hc pins s3 σ H3 _ I3 q3) fun w' s4 ⟨z',H4,I4,r4,q4⟩=>ho' pins s4 σ H4 y z' u w' Q I4 r2 r4 q4))
theorem pt_chain{op op':CmpOp}{r r':R2}(ho:OpR X (compareOp op) r)(ho':OpR X (compareOp op') r')(ha:PE X a ta)(hb:PE X b tb)(hc:PE X c tc)
 (hm:lastMarks [op,op'] [b,c]=false:=by with_unfolding_all rfl):PT X (.Compare a [op,op'] [b,c] pos) (tTest (tChain r r' ta tb tc)):=by
 intro pins s σ H Q I h
 refine isTrue_chain (thn (ha pins s σ H _ I h) fun v s1 ⟨x,H1,I1,r1,q1⟩=>test_link (thn (hb pins s1 σ H1 _ I1 q1) fun u s2 ⟨y,H2,I2,r2,q2⟩=>
  thn (ho pins s2 σ H2 x y v u _ I2 r1 r2 q2) fun d s3 ⟨z,H3,I3,r3,k,e,q3⟩=> ?_)) hm
 subst e
 cases r3
 refine wpAny_truthy_bool ?_
 cases k with
 |false=>
  obtain⟨k',e',q'⟩:=q3
  cases e'
  exact ite_ff ⟨H3,I3,q'⟩
 |true=>
  refine ite_tt (test_last (thn (hc pins s3 σ H3 _ I3 q3) fun w' s4 ⟨z',H4,I4,r4,q4⟩=>thn (ho' pins s4 σ H4 y z' u w' _ I4 r2 r4 q4) fun d' s5 ⟨z2,H5,I5,r5,k2,e2,q5⟩=> ?_))
  subst e2
  cases r5
  exact wpAny_truthy_bool ⟨H5,I5,q5⟩
def TruV(K:W.Frag)(x:V)(H:Hp)(k:Bool):Prop:=
 match x with
 | .non=>k=false
 | .bl b=>k=b
 | .int i=>k=(i !=0)
 | .str y=>y.length≤sizeLine∧k=((y.length:Int) !=0)
 | .byt y=>y.size≤sizeLine∧k=((y.size:Int) !=0)
 | .ref p=>(∃xs,SqL K H p xs∧k= !xs.isEmpty)∨(∃xs,SqT K H p xs∧k= !xs.isEmpty)∨∃kvs,H p=some (.dK kvs)∧k= !kvs.isEmpty
 |_=>False
theorem isEmpty_kv{κ:Type}{kvs:List (κ×V)}{vs:List (κ×Value)}(r:KV kvs vs):(!vs.isEmpty)= !kvs.isEmpty:=by
 cases r<;>rfl
theorem isEmpty_of{xs:List V}{its:List Value}(r:Vals xs its):(!its.toArray.isEmpty)= !xs.isEmpty:=by
 cases r<;>simp
theorem line63:(sizeLine:Nat)<2 ^ 63:=by rw [sizeLine_eq];decide
theorem tru_ok:TruR X (fun x H Q=>∃k,TruV X.K x H k∧Q k H):=by
 intro pins s σ H x v Q I rx h
 obtain⟨k,e,q⟩:=h
 have hl:=line63
 have hs:sizeLine=16777216:=sizeLine_eq
 cases x with
 |non=>
  cases rx
  have e':k=false:=e
  subst e'
  exact truthy_none ⟨H,I,q⟩
 |bl b=>
  cases rx
  have e':k=b:=e
  subst e'
  exact wpAny_truthy_bool ⟨H,I,q⟩
 |int i=>
  obtain⟨t,rfl⟩:=rx
  have e':k=(i !=0):=e
  subst e'
  exact PySem.P.truthy_int ⟨H,I,q⟩
 |str y=>
  obtain⟨t,rfl⟩:=rx
  obtain⟨hy,e'⟩:y.length≤sizeLine∧k=((y.length:Int) !=0):=e
  subst e'
  exact PySem.P.truthy_str (by lia) ⟨H,I.tok _,q⟩
 |byt y=>
  obtain⟨t,rfl⟩:=rx
  obtain⟨hy,e'⟩:y.size≤sizeLine∧k=((y.size:Int) !=0):=e
  subst e'
  exact W.truthy_bytes (by lia) ⟨H,I.tok _,q⟩
 |ref p=>
  cases rx
  have e':(∃xs,SqL X.K H p xs∧k= !xs.isEmpty)∨(∃xs,SqT X.K H p xs∧k= !xs.isEmpty)∨∃kvs,H p=some (.dK kvs)∧k= !kvs.isEmpty:=e
  rcases e' with⟨xs,hx,e'⟩|⟨xs,hx,e'⟩|⟨kvs,hx,e'⟩
  ·subst e'
   obtain⟨its,r,pl,hz⟩:=I.list hx
   have hlen:=r.length
   exact wpAny_truthy_list pl.isList (by simp only [List.size_toArray];lia) ⟨H,I.tok _,by rw [isEmpty_of r];exact q⟩
  ·subst e'
   obtain⟨its,r,pl,hz⟩:=I.tuple hx
   have hlen:=r.length
   exact truthy_tuple pl (by simp only [List.size_toArray];lia) ⟨H,I.tok _,by rw [isEmpty_of r];exact q⟩
  ·subst e'
   obtain⟨hz,hS,vs,r,m⟩:kvs.length≤sizeLine∧(p==sysModules)=false∧∃vs,KV kvs vs∧s.heap.DictOf (mixKind X.prog X.w) p vs:=I.hok p _ hx
   have hlen:kvs.length=vs.length:=Paired.length r
   exact wpAny_truthy_dict hS m (by lia) ⟨H,I.tok _,by rw [isEmpty_kv r];exact q⟩
 |_=>exact(show False from e).elim
theorem pt_truth(ha:PE X a ta)(he:∀whole,isTrue a X.env whole=(do let v←whole;standAt a.pos;holding [v] (truthy v))):
 PT X a (fun σ H Q=>ta σ H fun x H'=>∃k,TruV X.K x H' k∧Q k H'):=by
 intro pins s σ H Q I h
 exact isTrue_plain (thn (ha pins s σ H _ I h) fun v s1 ⟨x,H1,I1,r1,q1⟩=>tru_ok pins s1 σ H1 x v Q I1 r1 q1) (he _)
theorem op_add_str:OpR X (binaryOp .Add) (fun x y H Q=>∃i j,x=.str i∧y=.str j∧i.length+j.length≤sizeLine∧Q (.str (i++j)) H):=by
 intro pins s σ H x y v u Q I rx ry h
 obtain⟨i,j,rfl,rfl,hz,q⟩:=h
 obtain⟨t,rfl⟩:=rx
 obtain⟨t',rfl⟩:=ry
 exact add_str (fun t' tk=>⟨.str (i++j),H,I.tok _,⟨_,rfl⟩,q⟩) hz
theorem vals1{x:V}{us:List Value}(r:Vals [x] us):∃u,us=[u]∧RelV x u:=by
 cases r with
 |cons r1 r2=>cases r2;exact⟨_,rfl,r1⟩
theorem vals2{x y:V}{us:List Value}(r:Vals [x,y] us):∃u w',us=[u,w']∧RelV x u∧RelV y w':=by
 cases r with
 |cons r1 r2=>
  cases r2 with
  |cons r3 r4=>cases r4;exact⟨_,_,rfl,r1,r3⟩
theorem call_max2(hc:X.calm=true):CallR X (.builtin "max") (fun xs H Q=>∃i j,xs=[.int i,.int j]∧Q (.int (if j>i then j else i)) H):=by
 intro pins s σ H xs us Q I r h
 obtain⟨i,j,rfl,q⟩:=h
 obtain⟨u,w',rfl,⟨t,rfl⟩,⟨t',rfl⟩⟩:=vals2 r
 refine max_two_ints (I.ok.hd hc) fun h' tk k=>⟨_,H,I.kept k,?_,q⟩
 by_cases hj:j>i
 ·rw [if_pos hj,if_pos hj];exact⟨_,rfl⟩
 ·rw [if_neg hj,if_neg hj];exact⟨_,rfl⟩
theorem call_min2(hc:X.calm=true):CallR X (.builtin "min") (fun xs H Q=>∃i j,xs=[.int i,.int j]∧Q (.int (if j<i then j else i)) H):=by
 intro pins s σ H xs us Q I r h
 obtain⟨i,j,rfl,q⟩:=h
 obtain⟨u,w',rfl,⟨t,rfl⟩,⟨t',rfl⟩⟩:=vals2 r
 refine min_two_ints (I.ok.hd hc) fun h' tk k=>⟨_,H,I.kept k,?_,q⟩
 by_cases hj:j<i
 ·rw [if_pos hj,if_pos hj];exact⟨_,rfl⟩
 ·rw [if_neg hj,if_neg hj];exact⟨_,rfl⟩
theorem call_str_int:CallR X (.type "str") (fun xs H Q=>∃i,xs=[.int i]∧i.natAbs.log2<1920∧Q (.str (toString i)) H):=by
 intro pins s σ H xs us Q I r h
 obtain⟨i,rfl,hz,q⟩:=h
 obtain⟨u,rfl,t,rfl⟩:=vals1 r
 exact PySem.P.str_of_int hz ⟨.str _,H,I.tok _,⟨_,rfl⟩,q⟩
end
end L2
namespace L2
open PySem PySem.Spec PyProof.Rows
structure ObjM(h:Heap)(x dx C:Addr)(mA:Str→Option Value):Prop where
 obj:h.get? x=some (W.instObj C dx)
 ns:h.Ns1 dx mA
 ne:dx≠x
theorem lookIn_ns{h:Heap}{dx:Addr}{mA:Str→Option Value}(n:h.Ns1 dx mA):∃od,h.get? dx=some od∧∀name,W.lookIn name od=some (mA name):=by
 obtain⟨o,es,ep,ho,hd,hk,_,hm⟩:=n
 refine⟨o,ho,fun name=> ?_⟩
 have e:=hm name
 unfold nsFind findBy at e
 rw [←Array.find?_toList]at e
 unfold W.lookIn
 rw [hd]
 dsimp only
 split
 ·rename_i y q
  rw [q]at e
  exact congrArg some e
 ·rename_i q
  rw [q]at e
  have a:es.toList.any (·.refKey)=false:=by
   rw [List.any_eq_false]
   intro y hy
   obtain⟨z,t,hkey⟩:=hk y (Array.mem_toList_iff.mp hy)
   simp [DictEntry.refKey,hkey]
  have a':¬es.toList.any (·.refKey)=true:=by rw [a];exact fnt
  rw [if_neg a']
  exact congrArg some e
theorem ObjM.look{h:Heap}{x dx C:Addr}{mA:Str→Option Value}(I:ObjM h x dx C mA):∃od,W.InstAt h x (W.instObj C dx) C (some od)∧∀name,W.lookIn name od=some (mA name):=
 let ⟨od,ho,hl⟩:=lookIn_ns I.ns
 ⟨od,⟨I.obj,rfl,rfl,ho⟩,hl⟩
section
variable{prog:Program}{w:World}{A:Around}{E:Value→Shared→Prop}{s:Shared}{K:W.Frag}{x dx C f:Addr}{mA:Str→Option Value}{name:Str}{v:Value}
theorem make_map{R:Result→Shared→Prop}{vs:List Value}{kw:List (Str×Value)}(X:K.In s.heap)(hm:W.makesIn K C=true)
 (hi:W.findIn K (.ref C) "__init__"=some (some (.ref f)))(hf:W.typeIn K (.ref f)=some (.type "function"))
 (h:codeAny (model prog w) (A.under (.builtin "type.__call__" ⟨.ref C::vs,kw⟩)) (.call (.ref f) ⟨.ref (s.heap.objs.size+1)::vs,kw⟩) (W.InitBack (s.heap.objs.size+1) R)
   {s with heap:=(s.heap.push W.emptyDict).push (W.instObj C s.heap.objs.size)}):
 codeAny (model prog w) A (.call (.ref C) ⟨vs,kw⟩) R s:=by
 obtain⟨hh,g,d,t,os⟩:=s
 exact W.make_core (W.makes_of X hm) (W.looks_findIn X hi) (fun self=>W.bind_fn X self hf) (.inl rfl) h
end
theorem RelO.some_of{v:V}{o:Option Value}(r:RelO (some v) o):∃u,o=some u∧RelV v u:=by
 cases o with
 |none=>exact(show False from r).elim
 |some u=>exact⟨u,rfl,r⟩
section
variable{P:Program}{w:World}{H H':Hp}{h h':Heap}{a C dx:Addr}{fs fs':List (Str×V)}
theorem ins_get(hok:HOk P w H h)(e:H a=some (.ins C dx fs)):∃mA,ObjM h a dx C mA∧(∀f,RelO (fs.lookup f) (mA f))∧PySem.Within mA (fs.map (·.1))∧fs.length≤1000∧H dx=some (.own a):=by
 obtain⟨d,z,ne,ob,mA,n,r,q⟩:=(show ObjOk P w H h a (.ins C dx fs)from hok a _ e)
 exact⟨mA,⟨ob,n,ne⟩,r,q,z,d⟩
end
structure Cls(K:W.Frag)(C:Addr):Prop where
 pg:W.plainGet K C Str.empty=true
 hd:W.hasDictIn K C=true
 po:W.plainOver K C=true
 sa:W.findIn K (.ref C) "__setattr__"=some (some (.builtin "object.__setattr__"))
theorem Cls.get{K:W.Frag}{C:Addr}(c:Cls K C)(f:Str):W.plainGet K C f=true:=c.pg
def NoAttr(K:W.Frag)(C:Addr)(f:Str):Prop:=W.findIn K (.ref C) f=some none
structure Meth(K:W.Frag)(C:Addr)(m:Str)(f:Addr):Prop where
 at_:W.findIn K (.ref C) m=some (some (.ref f))
 fn:W.isFn K (.ref f)=true
 kp:W.keepIn K (.ref f)=true
section
variable{X:Cx}{pins:List (Addr×Obj)}{σ:St}{H:Hp}{s:Shared}{a C dx:Addr}{fs:List (Str×V)}{f:Str}{v:V}{A:Around}{E:Value→Shared→Prop}
theorem Inv.made(I:Inv X pins σ H s):Inv X pins σ (upd (upd H s.heap.objs.size (.own (s.heap.objs.size+1))) (s.heap.objs.size+1) (.ins C s.heap.objs.size []))
 {s with heap:=(s.heap.push W.emptyDict).push (W.instObj C s.heap.objs.size)}:=by
 have e1:(s.heap.push W.emptyDict).get? s.heap.objs.size=some W.emptyDict:=Heap.get?_push_size s.heap rfl
 have e2:((s.heap.push W.emptyDict).push (W.instObj C s.heap.objs.size)).get? (s.heap.objs.size+1)=some (W.instObj C s.heap.objs.size):=by
  have:=Heap.get?_push_size (s.heap.push W.emptyDict) (o:=W.instObj C s.heap.objs.size) rfl
  rwa [Heap.size_push]at this
 have e3:(s.heap.push W.emptyDict).Ns s.heap.objs.size (fun _=>none):=⟨W.emptyDict, #[],_,e1,rfl,(fun e he=>absurd he (by simp)),fun _=>rfl⟩
 have I1:=I.laid (a:=s.heap.objs.size) (o:=.own (s.heap.objs.size+1)) (h':=s.heap.push W.emptyDict) (t':=s.toks) (fun b u q=>Heap.get?_push_of_some _ q) (Nat.le_refl _) ⟨_,e1⟩
 refine I1.laid (a:=s.heap.objs.size+1) (o:=.ins C s.heap.objs.size []) (t':=s.toks) (fun b u q=>Heap.get?_push_of_some _ q) (Nat.le_of_eq (Heap.size_push _ _)) ?_
 have ne:s.heap.objs.size≠s.heap.objs.size+1:=Nat.ne_of_lt (Nat.lt_succ_self _)
 refine⟨by rw [upd_ne ne,upd_same],Nat.zero_le _,ne,e2,fun _=>none,(Heap.Ns1.of_empty e3).at fun o q=>Heap.get?_push_of_some _ q,fun _=>True.intro,fun y hy=>absurd rfl hy⟩
end
section
variable{X:Cx}{o e value:Expr}{f:Str}{pos pos' tpos:Pos}{ta tv:TE}
end
section
variable{X:Cx}{pins:List (Addr×Obj)}{σ:St}{H:Hp}{s:Shared}{A:Around}{E:Value→Shared→Prop}{Q:Value→Shared→Prop}{c:Value}{b:Bool}
inductive TyOf(K:W.Frag)(H:Hp):V→Value→Prop where
 |non:TyOf K H .non (.type "NoneType")
 |bl (x:Bool):TyOf K H (.bl x) (.type "bool")
 |int (i:Int):TyOf K H (.int i) (.type "int")
 |str (x:Str):TyOf K H (.str x) (.type "str")
 |flt (x:UInt64):TyOf K H (.flt x) (.type "float")
 |lst {a:Addr} {xs:List V} (e:H a=some (.lst xs)):TyOf K H (.ref a) (.type "list")
 |frz {a:Addr} {o:Obj} {xs:List V} (e:H a=some (.frz o (.lst xs))):TyOf K H (.ref a) (.type "list")
 |tup {a:Addr} {xs:List V} (e:H a=some (.tup xs)):TyOf K H (.ref a) (.type "tuple")
 |dK {a:Addr} {kvs:List (Key×V)} (e:H a=some (.dK kvs)):TyOf K H (.ref a) (.type "dict")
 |dT {a:Addr} {kvs:List (List Key×V)} (e:H a=some (.dT kvs)):TyOf K H (.ref a) (.type "dict")
 |ins {a C dx:Addr} {fs:List (Str×V)} (e:H a=some (.ins C dx fs)) (cl:Cls K C) (ha:W.findIn K (.ref C) "__class__"=some (some (.builtin "object.__class__")))
   (hn:W.specialIn K (.builtin "object.__class__") "__get__"=some (some (.builtin "getset_descriptor.__get__"))) (htk:W.takesIn K (.builtin "object.__class__")=some true)
   (hm:W.mroIn K C (.type "object")=some true):TyOf K H (.ref a) (.ref C)
theorem isinst_ok{x:V}{u t:Value}(I:Inv X pins σ H s)(rx:RelV x u)(ty:TyOf X.K H x t)(e:W.kitOne X.K t c=some b)(h:∀tk,Q (.bool b) {s with toks:=tk}):
 wpAny (model X.prog X.w) A (call (.builtin "isinstance") [u,c]) Q E s:=by
 cases ty with
 |non=>cases (show u=Value.none from rx);exact W.kia_one W.kitx_none I.kIn True.intro e (fun z=>nomatch z) h
 |bl y=>cases (show u=Value.bool y from rx);exact W.kia_one W.kitx_bool I.kIn True.intro e (fun z=>nomatch z) h
 |int i=>obtain⟨t,q⟩:=(show∃t,u=Value.int i t from rx);cases q;exact W.kia_one W.kitx_int I.kIn True.intro e (fun z=>nomatch z) h
 |str y=>obtain⟨t,q⟩:=(show∃t,u=Value.str y t from rx);cases q;exact W.kia_one W.kitx_str I.kIn True.intro e (fun z=>nomatch z) h
 |flt y=>obtain⟨t,q⟩:=(show∃t,u=Value.float y t from rx);cases q;exact W.kia_one W.kitx_float I.kIn True.intro e (fun z=>nomatch z) h
 | @lst a xs ea=>
   cases (show u=Value.ref a from rx)
   obtain⟨_,_,n,_,h1⟩:=(show ObjOk X.prog X.w H s.heap a (.lst xs)from I.hok a _ ea)
   exact W.kia_one W.kitx_list I.kIn ⟨_,h1,rfl⟩ e (fun z=>nomatch z) h
 | @frz a ob xs ea=>
   cases (show u=Value.ref a from rx)
   obtain⟨_,_,_,n,_,h1⟩:=(show ObjOk X.prog X.w H s.heap a (.frz ob (.lst xs))from I.hok a _ ea)
   exact W.kia_one W.kitx_list I.kIn ⟨_,h1,rfl⟩ e (fun z=>nomatch z) h
 | @tup a xs ea=>
   cases (show u=Value.ref a from rx)
   obtain⟨_,_,_,p⟩:=(show ObjOk X.prog X.w H s.heap a (.tup xs)from I.hok a _ ea)
   obtain⟨o,h1,h2,_⟩:=p
   exact W.kia_one W.kitx_tuple I.kIn ⟨o,h1,h2⟩ e (fun z=>nomatch z) h
 | @dK a kvs ea=>
   cases (show u=Value.ref a from rx)
   obtain⟨_,_,vs,_,p⟩:=(show ObjOk X.prog X.w H s.heap a (.dK kvs)from I.hok a _ ea)
   obtain⟨o,es,ep,h1,h2,_⟩:=p
   exact W.kia_one W.kitx_dict I.kIn ⟨o,h1,h2.1⟩ e (fun z=>nomatch z) h
 | @dT a kvs ea=>
   cases (show u=Value.ref a from rx)
   obtain⟨_,_,xs,_,o,es,ep,h1,h2,_⟩:=(show ObjOk X.prog X.w H s.heap a (.dT kvs)from I.hok a _ ea)
   exact W.kia_one W.kitx_dict I.kIn ⟨o,h1,h2.1⟩ e (fun z=>nomatch z) h
 | @ins a C dx fs ea cl ha hn htk hm=>
   cases (show u=Value.ref a from rx)
   obtain⟨mA,O,_⟩:=ins_get I.hok ea
   obtain⟨od,J,_⟩:=O.look
   exact W.kia_one (W.kitx_own (cl.get _) cl.hd ha hn htk hm) I.kIn J e (fun z=>nomatch z) h
end
end L2
namespace L2
open PySem PySem.Spec PyProof.Rows
structure Room(k:Nat)(A:Around):Prop where
 hd:A.handled=none
 dp:A.depth+3*k+5<recursionLimit
 un:A.units+16*k+200<cLine
theorem Room.mono{j k:Nat}{A:Around}(r:Room k A)(h:j≤k):Room j A:=⟨r.hd,by have:=r.dp;lia,by have:=r.un;lia⟩
theorem Room.deeper{k:Nat}{A:Around}(r:Room (k+1) A)(env:Env):Room k (A.deeper env):=
 ⟨r.hd,by have:=r.dp;show A.depth+1+3*k+5<_;lia,by have:=r.un;show A.units+3+16*k+200<_;lia⟩
theorem make_depth{A:Around}{C:Addr}{us:List Value}{kw:List (Str×Value)}:(A.under (.builtin "type.__call__" ⟨.ref C::us,kw⟩)).depth=A.depth+1:=by
 first|rfl|simp [Around.under,Code.weight,Code.isCreation,Code.isGuard,Code.isCaller,Code.frames,Code.isFrame,guardIds]
theorem make_units{A:Around}{C:Addr}{us:List Value}{kw:List (Str×Value)}:(A.under (.builtin "type.__call__" ⟨.ref C::us,kw⟩)).units=A.units+1:=by
 first|rfl|simp [Around.under,Code.cUnits,Code.frames,Code.isFrame]
theorem Room.make{k:Nat}{A:Around}(r:Room (k+1) A)(C:Addr)(us:List Value)(kw:List (Str×Value)):Room k (A.under (.builtin "type.__call__" ⟨.ref C::us,kw⟩)):=
 ⟨r.hd,by have:=r.dp;rw [make_depth];lia,by have:=r.un;rw [make_units];lia⟩
theorem Room.depth{k:Nat}{A:Around}(r:Room k A):A.depth<recursionLimit:=by have:=r.dp;lia
theorem Room.units{k:Nat}{A:Around}(r:Room k A):A.units+64<cLine:=by have:=r.un;lia
noncomputable def tNil:TA:=fun _ H Q=>Q [] H
noncomputable def tCons(ta:TE)(tr:TA):TA:=fun σ H Q=>ta σ H fun x H1=>tr σ H1 fun xs H2=>Q (x::xs) H2
section
variable{X:Cx}{e:Expr}{es:List Expr}{te:TE}{t:TA}{pos:Pos}
theorem pa_nil:PA X [] tNil:=fun _ _ _ _ H Q I h=>Calls.spliced_nil ⟨[],H,I,.nil,h⟩
theorem pa_cons(ha:PE X e te)(hr:PA X es t)(hs:starEach (e::es) X.env=(false,eval e X.env)::starEach es X.env:=by rfl):PA X (e::es) (tCons te t):=by
 intro pos pins s σ H Q I h
 rw [hs]
 show wpAny _ _ (spliced ((false,eval e X.env)::backTo pos (starEach es X.env))) _ _ s
 refine Calls.spliced_cons (thn (ha pins s σ H _ I h) fun u s1 ⟨x,H1,I1,r1,q1⟩=> ?_)
 exact thn (hr pos pins s1 σ H1 _ I1 q1) fun us s2 ⟨xs,H2,I2,r2,q2⟩=>⟨x::xs,H2,I2,.cons r1 r2,q2⟩
noncomputable def tTup(t:TA):TE:=fun σ H Q=>t σ H fun xs H1=>xs.length≤sizeLine∧∀p,H1 p=none→Q (.ref p) (upd H1 p (.tup xs))
noncomputable def tLst(t:TA):TE:=fun σ H Q=>t σ H fun xs H1=>xs.length≤sizeLine∧∀p,H1 p=none→Q (.ref p) (upd H1 p (.lst xs))
theorem pe_tup{x1}(h:PA X es t):PE X (.Tuple es x1 pos) (tTup t):=by
 intro pins s σ H Q I hq
 refine wpAny_Tuple_spliced (thn (h pos pins s σ H _ I hq) fun us s1 ⟨xs,H1,I1,r,z,q⟩=>⟨by rw [←r.length];exact z,?_⟩)
 have hf:H1 s1.heap.objs.size=none:=I1.hok.fresh (Nat.le_refl _)
 refine⟨.ref s1.heap.objs.size,upd H1 s1.heap.objs.size (.tup xs),I1.laid (t':=s1.toks) (fun b u e=>Heap.get?_push_of_some _ e) (Nat.le_refl _) ?_,rfl,q _ hf⟩
 exact⟨z,us,r,⟨_,Heap.get?_push_size _ rfl,rfl,_,rfl⟩⟩
theorem pe_lst(h:PA X es t):PE X (.List es pos) (tLst t):=by
 intro pins s σ H Q I hq
 refine wpAny_List_spliced (thn (h pos pins s σ H _ I hq) fun us s1 ⟨xs,H1,I1,r,z,q⟩=>⟨by rw [←r.length];exact z,?_⟩)
 have hf:H1 s1.heap.objs.size=none:=I1.hok.fresh (Nat.le_refl _)
 refine⟨.ref s1.heap.objs.size,upd H1 s1.heap.objs.size (.lst xs),I1.laid (t':=s1.toks) (fun b u e=>Heap.get?_push_of_some _ e) (Nat.le_refl _) ?_,rfl,q _ hf⟩
 exact⟨z,us,0,r,Heap.get?_push_size _ rfl⟩
end
noncomputable abbrev Sp:=List V→Hp→VK→XK→Prop
noncomputable abbrev CXT:=List Env→Hp→Shared→XK→Value→Shared→Prop
structure Env0(P:Program)(w:World)(K:W.Frag)(mg:Str→Option Value)(base:Heap)(A:Around)(outer:List Env)(s:Shared)(H:Hp):Prop where
 frames:A.frames=some outer
 mod:Mod K mg base
 bs:∀b o,base.get? b=some o→s.heap.get? b=some o∧H b=none
 bsz:base.objs.size≤s.heap.objs.size
 funs:s.heap.FunFrames base outer
 frf:∀b∈frs outer,H b=none
 hok:HOk P w H s.heap
 bare:AllBare s.gens
def CE(outer:List Env)(P:Program)(w:World)(H:Hp)(s:Shared)(Q:VK)(u:Value)(s':Shared):Prop:=
 ∃v H',s'.os=s.os∧AllBare s'.gens∧Un (frs outer) [] H H' s.heap s'.heap∧HOk P w H' s'.heap∧RelV v u∧Q v H'
def CR(CX:CXT)(outer:List Env)(P:Program)(w:World)(H:Hp)(s:Shared)(Q:VK)(E:XK)(r:Result)(s':Shared):Prop:=
 match r with
 | .ok (.ret u)=>CE outer P w H s Q u s'
 | .ok _=>False
 | .error e=>CX outer H s E e s'
structure FnOk(P:Program)(w:World)(K:W.Frag)(mg:Str→Option Value)(base:Heap)(CX:CXT)(k:Nat)(f:Addr)(fd:FuncData)(ps:List Str)(sp:Sp):Prop where
 len:∀vs H Q E,sp vs H Q E→vs.length=ps.length
 run:∀(A:Around) (outer:List Env) (s:Shared) (H:Hp) (args:Args) (us:List Value) (vs:List V) (Q:VK) (E:XK),Room k A→Env0 P w K mg base A outer s H→BindsTo s fd args (ps.zip us)→Vals vs us→sp vs H Q E→
  codeAny (model P w) A (.call (.ref f) args) (CR CX outer P w H s Q E) s
theorem FnOk.mono{P:Program}{w:World}{K:W.Frag}{mg:Str→Option Value}{base:Heap}{CX:CXT}{j k:Nat}{f:Addr}{fd:FuncData}{ps:List Str}{sp:Sp}(F:FnOk P w K mg base CX j f fd ps sp)(h:j≤k):
 FnOk P w K mg base CX k f fd ps sp:=⟨F.len,fun A outer s H args us vs Q E hr=>F.run A outer s H args us vs Q E (hr.mono h)⟩
theorem Env0.make{P:Program}{w:World}{K:W.Frag}{mg:Str→Option Value}{base:Heap}{A:Around}{outer:List Env}{s:Shared}{H:Hp}(e:Env0 P w K mg base A outer s H)(C:Addr)(us:List Value)(kw:List (Str×Value)):
 Env0 P w K mg base (A.under (.builtin "type.__call__" ⟨.ref C::us,kw⟩)) outer s H:=⟨by first|exact e.frames|(simpa [Around.under,Code.envs,Code.isFrame,pushEnvs]using e.frames),e.mod,e.bs,e.bsz,e.funs,e.frf,e.hok,e.bare⟩
section
variable{X:Cx}{pins:List (Addr×Obj)}{σ:St}{H:Hp}{s s':Shared}
theorem Inv.env0(I:Inv X pins σ H s):Env0 X.prog X.w X.K X.mg X.base X.A X.stack s H:=
 ⟨I.ok.frames,I.ok.mod,I.bs,Nat.le_trans I.ok.bsz I.sz,I.stack,I.stkFree,I.hok,I.bare⟩
theorem Inv.after{Q:VK}{u:Value}(I:Inv X pins σ H s)(h:CE X.stack X.prog X.w H s Q u s'):EP X pins σ Q u s':=by
 obtain⟨v,H',os,bare,un,hok,r,q⟩:=h
 obtain⟨hh,g,d,t,os'⟩:=s'
 obtain rfl:os'=s.os:=os
 exact⟨v,H',I.call (h':=hh) (g':=g) (d':=d) (t':=t) (ch:=[]) un hok bare (fun b z=>absurd z (by simp)),r,q⟩
end
noncomputable def tCall(sp:Sp)(dvs:List V)(E:XK)(t:TA):TE:=fun σ H Q=>t σ H fun vs H1=>sp (vs++dvs) H1 Q E
noncomputable def tMake(C:Addr)(sp:Sp)(dvs:List V)(E:XK)(t:TA):TE:=fun σ H Q=>t σ H fun vs H1=>∀x dx,H1 x=none→H1 dx=none→dx≠x→
 sp (.ref x::(vs++dvs)) (upd (upd H1 dx (.own x)) x (.ins C dx [])) (fun v H2=>v=.non∧Q (.ref x) H2) E
def Binds(K:W.Frag)(fd:FuncData)(ps:List Str)(ds:List Value):Prop:=
 ∀(s:Shared) (us:List Value),K.In s.heap→(us++ds).length=ps.length→BindsTo s fd ⟨us,[]⟩ (ps.zip (us++ds))
theorem Binds.all{K:W.Frag}{fd:FuncData}{ps:List Str}(h:∀us:List Value,us.length=ps.length→bindArgs fd ⟨us,[]⟩=pure (ps.zip us)):Binds K fd ps []:=fun s us _ hl=>by
 rw [List.append_nil]at hl⊢
 exact .of_eq (h us hl)
def Passes(CX:CXT)(X:Cx)(E:XK):Prop:=∀(pins:List (Addr×Obj)) (σ:St) (H:Hp) (s:Shared) (e:Value) (s':Shared),Inv X pins σ H s→CX X.stack H s E e s'→X.xe e s'
section
variable{X:Cx}{CX:CXT}{k:Nat}{f C:Addr}{fd:FuncData}{ps:List Str}{sp:Sp}{dvs:List V}{ds:List Value}{E:XK}{x m:Str}{p pos apos:Pos}{e o:Expr}{es:List Expr}{ta:TE}{t:TA}
theorem run_fn{pins:List (Addr×Obj)}{σ:St}{H:Hp}{s:Shared}{Q:VK}{us:List Value}{vs:List V}(F:FnOk X.prog X.w X.K X.mg X.base CX k f fd ps sp)(hr:Room k X.A)(hb:Binds X.K fd ps ds)(hd:Vals dvs ds)(hx:Passes CX X E)
 (I:Inv X pins σ H s)(r:Vals vs us)(h:sp (vs++dvs) H Q E):wpAny (model X.prog X.w) X.A (call (.ref f) us) (EP X pins σ Q) X.xe s:=by
 have r2:Vals (vs++dvs) (us++ds):=r.append hd
 have hl:(us++ds).length=ps.length:=by rw [←r2.length];exact F.len _ _ _ _ h
 refine wpAny_call (codeAny_mono (F.run X.A X.stack s H ⟨us,[]⟩ (us++ds) (vs++dvs) Q E hr I.env0 (hb s us I.kIn hl) r2 h) fun r s' hq=> ?_)
 cases r with
 |error e=>exact hx pins σ H s e s' I hq
 |ok fl=>
  cases fl with
  |ret u=>exact I.after hq
  |next=>exact False.elim hq
  |brk=>exact False.elim hq
  |cont=>exact False.elim hq
theorem pe_call(F:FnOk X.prog X.w X.K X.mg X.base CX k f fd ps sp)(hr:Room k X.A)(hg:Gl X x)(hm:X.mg x=some (.ref f))(hk:W.keepIn X.K (.ref f)=true)(hb:Binds X.K fd ps ds)(hd:Vals dvs ds)(hx:Passes CX X E)
 (ha:PA X (e::es) t)(hdb:(x==("__debug__":Str))=false:=by decide)(he:starEach (e::es) X.env=(false,eval e X.env)::starEach es X.env:=by rfl)(hpl:(backTo pos (starEach es X.env)).any (·.1)=false:=by rfl):
 PE X (.Call (.Name x p) (e::es) [] pos) (tCall sp dvs E t):=by
 intro pins s σ H Q I h
 refine wpAny_Call_Name_kw (ld_glob I hg hm ?_ hdb)
 refine W.callWith_K (h₀:=X.base) I.ok.mod.kin hk (thn (ha pos pins s σ H _ I h) fun us s1 ⟨vs,H1,I1,r,q⟩=>⟨I1.kIn,?_⟩) he hpl
 exact run_fn F hr hb hd hx I1 r q
theorem pe_call0(F:FnOk X.prog X.w X.K X.mg X.base CX k f fd ps sp)(hr:Room k X.A)(hg:Gl X x)(hm:X.mg x=some (.ref f))(hk:W.keepIn X.K (.ref f)=true)(hb:Binds X.K fd ps ds)(hd:Vals dvs ds)(hx:Passes CX X E)
 (hdb:(x==("__debug__":Str))=false:=by decide):PE X (.Call (.Name x p) [] [] pos) (tCall sp dvs E tNil):=by
 intro pins s σ H Q I h
 refine wpAny_Call_Name_kw (ld_glob I hg hm ?_ hdb)
 exact W.callWith_K0 I.kIn hk (run_fn (us:=[]) F hr hb hd hx I .nil h)
structure Mk(K:W.Frag)(C f:Addr):Prop where
 makes:W.makesIn K C=true
 init:W.findIn K (.ref C) "__init__"=some (some (.ref f))
 fn:W.isFn K (.ref f)=true
 kp:W.keepIn K (.ref C)=true
theorem run_make{pins:List (Addr×Obj)}{σ:St}{H:Hp}{s:Shared}{Q:VK}{us:List Value}{vs:List V}(M:Mk X.K C f)(F:FnOk X.prog X.w X.K X.mg X.base CX k f fd ps sp)(hr:Room (k+1) X.A)(hb:Binds X.K fd ps ds)(hd:Vals dvs ds)
 (hx:Passes CX X E)(I:Inv X pins σ H s)(r:Vals vs us)
 (h:∀x dx,H x=none→H dx=none→dx≠x→sp (.ref x::(vs++dvs)) (upd (upd H dx (.own x)) x (.ins C dx [])) (fun v H2=>v=.non∧Q (.ref x) H2) E):
 wpAny (model X.prog X.w) X.A (call (.ref C) us) (EP X pins σ Q) X.xe s:=by
 have hq:=h (s.heap.objs.size+1) s.heap.objs.size (I.hok.fresh (Nat.le_succ _)) (I.hok.fresh (Nat.le_refl _)) (Nat.ne_of_lt (Nat.lt_succ_self _))
 have I2:=Inv.made (C:=C) I
 have r2:Vals (V.ref (s.heap.objs.size+1)::(vs++dvs)) (Value.ref (s.heap.objs.size+1)::(us++ds)):=.cons rfl (r.append hd)
 have hl:(Value.ref (s.heap.objs.size+1)::us++ds).length=ps.length:=by
  have e:=r2.length
  rw [F.len _ _ _ _ hq]at e
  exact e.symm
 refine wpAny_call (make_map (f:=f) I.kIn M.makes M.init (beq_iff_eq.mp M.fn) (codeAny_mono (F.run _ X.stack _ _ ⟨Value.ref (s.heap.objs.size+1)::us,[]⟩ (Value.ref (s.heap.objs.size+1)::(us++ds)) _ _ E (hr.make C us [])
  (I2.env0.make C us []) (hb _ (Value.ref (s.heap.objs.size+1)::us) I2.kIn hl) r2 hq) fun r s' hq'=> ?_))
 cases r with
 |error e=>exact hx pins σ _ _ e s' I2 hq'
 |ok fl=>
  cases fl with
  |ret u=>
   obtain⟨v,H',I3,rv,ev,q3⟩:=I2.after hq'
   subst ev
   exact⟨rv,⟨V.ref (s.heap.objs.size+1),H',I3,rfl,q3⟩⟩
  |next=>exact False.elim hq'
  |brk=>exact False.elim hq'
  |cont=>exact False.elim hq'
theorem pe_make(M:Mk X.K C f)(F:FnOk X.prog X.w X.K X.mg X.base CX k f fd ps sp)(hr:Room (k+1) X.A)(hg:Gl X x)(hm:X.mg x=some (.ref C))(hb:Binds X.K fd ps ds)(hd:Vals dvs ds)(hx:Passes CX X E)
 (ha:PA X (e::es) t)(hdb:(x==("__debug__":Str))=false:=by decide)(he:starEach (e::es) X.env=(false,eval e X.env)::starEach es X.env:=by rfl)(hpl:(backTo pos (starEach es X.env)).any (·.1)=false:=by rfl):
 PE X (.Call (.Name x p) (e::es) [] pos) (tMake C sp dvs E t):=by
 intro pins s σ H Q I h
 refine wpAny_Call_Name_kw (ld_glob I hg hm ?_ hdb)
 refine W.callWith_K (h₀:=X.base) I.ok.mod.kin M.kp (thn (ha pos pins s σ H _ I h) fun us s1 ⟨vs,H1,I1,r,q⟩=>⟨I1.kIn,?_⟩) he hpl
 exact run_make M F hr hb hd hx I1 r q
theorem pe_make0(M:Mk X.K C f)(F:FnOk X.prog X.w X.K X.mg X.base CX k f fd ps sp)(hr:Room (k+1) X.A)(hg:Gl X x)(hm:X.mg x=some (.ref C))(hb:Binds X.K fd ps ds)(hd:Vals dvs ds)(hx:Passes CX X E)
 (hdb:(x==("__debug__":Str))=false:=by decide):PE X (.Call (.Name x p) [] [] pos) (tMake C sp dvs E tNil):=by
 intro pins s σ H Q I h
 refine wpAny_Call_Name_kw (ld_glob I hg hm ?_ hdb)
 exact W.callWith_K0 I.kIn M.kp (run_make (us:=[]) M F hr hb hd hx I .nil h)
end
section
variable{X:Cx}{CX:CXT}{k:Nat}{f C:Addr}{fd:FuncData}{ps ks:List Str}{sp:Sp}{E:XK}{x m:Str}{p pos apos kpos:Pos}{e o:Expr}{es:List Expr}{kws:List Keyword}{te ta:TE}{t tk:TA}{nm:Option Str}
variable{g:List Value→List Value→List Value}{gV:List V→List V→List V}
end
structure FnScope(N P:List Str)(sc:Scope):Prop where
 kind:sc.kind=.function
 co:sc.isCoroutine=false
 gen:sc.isGenerator=false
 nd:N.Nodup
 pre:N.take P.length=P
 par:∀x∈P,sc.names.lookup x=some .local∨sc.names.lookup x=some .cell
 nofree:∀y∈sc.names,y.2≠.free
theorem bindL_out{kindOf:Str→Option NameKind}{x:Str}:∀ {binds:List (Str×Value)} {m:Str→Option Value},(∀v,(x,v)∉binds)→bindL kindOf binds m x=m x
 |[],_,_=>rfl
 |(n,v)::r,m,h=>by
  unfold bindL
  rw [bindL_out fun w hw=>h w (List.mem_cons_of_mem _ hw)]
  split
  ·have:x≠n:=by rintro rfl;exact h v List.mem_cons_self
   simp [this]
  ·rfl
theorem bindC_out{kindOf:Str→Option NameKind}{x:Str}:∀ {binds:List (Str×Value)} {m:Str→Option Value},(∀v,(x,v)∉binds)→bindC kindOf binds m x=m x
 |[],_,_=>rfl
 |(n,v)::r,m,h=>by
  unfold bindC
  rw [bindC_out fun w hw=>h w (List.mem_cons_of_mem _ hw)]
  split
  ·rfl
  ·have:x≠n:=by rintro rfl;exact h v List.mem_cons_self
   simp [this]
theorem bindL_get{kindOf:Str→Option NameKind}{x:Str}{v:Value}:∀ {P:List Str} {vs:List Value} {i:Nat} {m:Str→Option Value},P.Nodup→P[i]?=some x→vs[i]?=some v→kindOf x=some .local→
 bindL kindOf (P.zip vs) m x=some v
 |[],_,_,_,_,h,_,_=>by simp at h
 |_::_,[],_,_,_,_,h,_=>by simp at h
 |p::P,w::vs,0,m,nd,h1,h2,hk=>by
  simp at h1 h2;subst h1;subst h2
  show bindL kindOf ((p,w)::P.zip vs) m p=_
  unfold bindL
  rw [bindL_out fun v hv=>(List.nodup_cons.mp nd).1 (List.of_mem_zip hv).1,if_pos hk]
  simp
 |p::P,w::vs,i+1,m,nd,h1,h2,hk=>by
  show bindL kindOf ((p,w)::P.zip vs) m x=_
  unfold bindL
  exact bindL_get (i:=i) (List.nodup_cons.mp nd).2 (by simpa using h1) (by simpa using h2) hk
theorem bindC_get{kindOf:Str→Option NameKind}{x:Str}{v:Value}:∀ {P:List Str} {vs:List Value} {i:Nat} {m:Str→Option Value},P.Nodup→P[i]?=some x→vs[i]?=some v→kindOf x≠some .local→
 bindC kindOf (P.zip vs) m x=some v
 |[],_,_,_,_,h,_,_=>by simp at h
 |_::_,[],_,_,_,_,h,_=>by simp at h
 |p::P,w::vs,0,m,nd,h1,h2,hk=>by
  simp at h1 h2;subst h1;subst h2
  show bindC kindOf ((p,w)::P.zip vs) m p=_
  unfold bindC
  rw [bindC_out fun v hv=>(List.nodup_cons.mp nd).1 (List.of_mem_zip hv).1,if_neg hk]
  simp
 |p::P,w::vs,i+1,m,nd,h1,h2,hk=>by
  show bindC kindOf ((p,w)::P.zip vs) m x=_
  unfold bindC
  exact bindC_get (i:=i) (List.nodup_cons.mp nd).2 (by simpa using h1) (by simpa using h2) hk
noncomputable def start(N:List Str)(vs:List V):St:=vs.map some++List.replicate (N.length-vs.length) none
noncomputable def cxOf(CX:CXT)(P:Program)(w:World)(K:W.Frag)(mg:Str→Option Value)(base:Heap)(N:List Str)(qual:Str)(scope:Scope)(f:Addr)(cd:Value)(A:Around)(outer:List Env)(s:Shared)(H:Hp)(E:XK):Cx where
 prog:=P
 w:=w
 K:=K
 mg:=mg
 base:=base
 A:=A.deeper (envOfC qual scope s.heap.objs.size f cd)
 N:=N
 s₀:=s
 H₀:=H
 env:=envOfC qual scope s.heap.objs.size f cd
 outer:=outer
 stack:=envOfC qual scope s.heap.objs.size f cd::outer
 ex:=[]
 calm:=true
 fn:=fun _=>true
 pn:=[]
 xe:=fun e s'=>wpAny (model P w) (A.deeper (envOfC qual scope s.heap.objs.size f cd)) (leaving (envOfC qual scope s.heap.objs.size f cd) e) (fun _ s''=>CX outer H s E e s'') (fun e' s''=>CX outer H s E e' s'') s'
theorem cell_has{sc:Scope}{n:Nat}{x:Str}(h:sc.names.lookup x=some .cell):∃c,(cellsFrom n sc.names []).lookup x=some c:=by
 have q:=W.cellsFrom_some sc.names n [] (.inl h)
 exact Option.isSome_iff_exists.mp q
theorem inv_start{CX:CXT}{P:Program}{w:World}{K:W.Frag}{mg:Str→Option Value}{base:Heap}{N ps:List Str}{qual:Str}{scope:Scope}{f:Addr}{cd:Value}{A:Around}{outer:List Env}{s s1:Shared}{H:Hp}{E:XK}{us:List Value}{vs:List V}
 (S:FnScope N ps scope)(hd:A.handled=none)(e0:Env0 P w K mg base A outer s H)(hl:vs.length=ps.length)(r:Vals vs us)
 (x:InCallC s s.heap.objs.size (bindL (envOfC qual scope s.heap.objs.size f cd).kindOf (ps.zip us) fun _=>none) (cellsFrom (s.heap.objs.size+1) scope.names []) (bindC (envOfC qual scope s.heap.objs.size f cd).kindOf (ps.zip us) fun _=>none) s1):
 Inv (cxOf CX P w K mg base N qual scope f cd A outer s H E) [] (start N vs) H s1:=by
 have hpl:ps.length≤N.length:=by have:=congrArg List.length S.pre;rw [List.length_take]at this;lia
 obtain⟨h1,tk,rfl,hk⟩:=x.done
 have noA:∀b:Addr,b∉(cxOf CX P w K mg base N qual scope f cd A outer s H E).ex:=fun b z=>absurd (show b∈([]:List Addr)from z) (by simp)
 refine⟨⟨e0.mod,S.kind,rfl,rfl,Nat.le_refl _,fun y z c h1 h2=> ?_,fun y hy=> ?_,fun y c _ h=> ?_,fun _=>hd,Around.frames_deeper e0.frames,.inr ⟨rfl,rfl⟩,fun b z=>absurd z (noA b),e0.bs,e0.bsz,fun b _ _=>noA b,fun b z=>absurd z (noA b),e0.funs,e0.frf⟩,
  rfl,e0.bare,Un.kept hk,⟨_,x.toInCall.ns,fun i y v h1 h2 h3=> ?_⟩,fun y c h=>⟨_,x.cell y c h⟩,e0.hok.fresh (Nat.le_refl _),fun y c h=> ?_,fun p hp=>absurd (show p∈([]:List (Addr×Obj))from hp) (by simp),e0.hok.kept hk,?_⟩
 ·exact name_of_addr x.apart (PySem.mem_of_lookup h1) (PySem.mem_of_lookup h2)
 ·have hy:scope.names.lookup y=some .cell∨scope.names.lookup y=some .free:=hy
  rcases hy with hy|hy
  ·exact cell_has hy
  ·exact absurd rfl (S.nofree _ (PySem.mem_of_lookup hy))
 ·exact Nat.le_of_lt (x.above y c (PySem.mem_of_lookup h))
 ·have hi:i<vs.length:=by
   unfold start at h2
   by_cases hi:i<vs.length
   ·exact hi
   ·rw [List.getElem?_append_right (by simpa using hi)]at h2
    rw [List.getElem?_replicate]at h2
    split at h2<;>cases h2
  have ha:vs[i]?=some v:=by
   unfold start at h2
   rw [List.getElem?_append_left (by simpa using hi),List.getElem?_map]at h2
   cases e:vs[i]? with
   |none=>rw [e]at h2;cases h2
   |some a=>rw [e]at h2;cases h2;rfl
  obtain⟨u,hu,rv⟩:=r.get ha
  have hp:ps[i]?=some y:=by
   rw [←S.pre,List.getElem?_take_of_lt (by lia)];exact h1
  have ndP:ps.Nodup:=by rw [←S.pre];exact S.nd.sublist (List.take_sublist _ _)
  refine⟨u,rv,?_⟩
  rcases S.par y (List.mem_of_getElem? hp)with k|k
  ·exact .inl ⟨k,bindL_get ndP hp hu k⟩
  ·obtain⟨c,e⟩:=cell_has (n:=s.heap.objs.size+1) k
   refine .inr ⟨.inl k,c,e,?_⟩
   have q:=x.cell y c e
   rw [bindC_get ndP hp hu (by show scope.names.lookup y≠_;rw [k];decide)]at q
   exact q
 ·exact e0.hok.fresh (Nat.le_of_lt (x.above y c (PySem.mem_of_lookup h)))
 ·unfold start
  show _=N.length
  rw [List.length_append,List.length_map,List.length_replicate]
  lia
theorem fn_of{CX:CXT}{P:Program}{w:World}{K:W.Frag}{mg:Str→Option Value}{base:Heap}{k:Nat}{f:Addr}{name qual:Str}{params:Arguments}{body:List Stmt}{scope:Scope}{dV kV doc pm cdv ct oc:Value}{an od:Option Addr}
 {osl:Array (Option Value)}{N ps:List Str}{sp:Sp}(lk:K.lookup f=some ⟨oc,od,.func (W.fnOf name qual params body scope dV kV doc pm an cdv ct),osl⟩)(hcd:W.codeIn K cdv qual=true)(S:FnScope N ps scope)
 (len:∀vs H Q E,sp vs H Q E→vs.length=ps.length)
 (hbody:∀(A:Around) (outer:List Env) (s:Shared) (H:Hp) (vs:List V) (Q:VK) (E:XK),Room k (A.deeper (envOfC qual scope s.heap.objs.size f cdv))→sp vs H Q E→
   ∃t,PSs (cxOf CX P w K mg base N qual scope f cdv A outer s H E) body t∧t {nx:=fun _ H'=>Q .non H',rt:=Q} (start N vs) H):
 FnOk P w K mg base CX (k+1) f (W.fnOf name qual params body scope dV kV doc pm an cdv ct) ps sp:=by
 refine⟨len,fun A outer s H args us vs Q E hr e0 hb r hsp=> ?_⟩
 have hl:=len _ _ _ _ hsp
 have KX:K.In s.heap:=e0.mod.kin.keeps fun b o e=>(e0.bs b o e).1
 have lim:s.heap.NoLimit:=e0.mod.nolimit.keeps fun b o e=>(e0.bs b o e).1
 have hkind:∀y∈ps.zip us,scope.names.lookup y.1=some .local∨(scope.names.lookup y.1=some .cell∧((cellsFrom (s.heap.objs.size+1) scope.names []).lookup y.1).isSome=true):=fun⟨n,v⟩ hy=>by
  rcases S.par n (List.of_mem_zip hy).1 with q|q
  ·exact .inl q
  ·exact .inr ⟨q,W.cellsFrom_some _ _ _ (.inl q)⟩
 refine codeAny_call_function hr.depth (KX _ _ lk) rfl S.co S.gen rfl (W.codeRec_of KX hcd) (hb _ _ _ _ ?_)
 refine wpAny_newFunctionEnv_cells S.kind hkind fun env he s1 x=> ?_
 subst he
 refine⟨lim.keeps x.toInCall.keep,codeAny_func ?_⟩
 obtain⟨t,ht,hq⟩:=hbody A outer s H vs Q E (hr.deeper _) hsp
 have I:Inv (cxOf CX P w K mg base N qual scope f cdv A outer s H E) [] (start N vs) H s1:=inv_start S hr.hd e0 hl r x
 refine wpAny_mono (ht [] s1 (start N vs) H _ I hq) (fun fl s' hs=> ?_) fun e s' hs=>hs
 have fin:∀ {σ':St} {H':Hp} {v:V} {u:Value},Inv (cxOf CX P w K mg base N qual scope f cdv A outer s H E) [] σ' H' s'→RelV v u→Q v H'→CE outer P w H s Q u s':=
  fun {σ' H' v u} J rv q=>⟨v,H',J.os,J.bare,J.base,J.hok,rv,q⟩
 cases fl with
 |ret u=>
  obtain⟨v,σ',H',J,rv,q⟩:=hs
  exact fin J rv q
 |next=>
  obtain⟨σ',H',J,q⟩:=hs
  exact fin (v:=V.non) (u:=Value.none) J rfl q
 |brk=>
  obtain⟨_,_,_,q⟩:=hs
  exact False.elim q
 |cont=>
  obtain⟨_,_,_,q⟩:=hs
  exact False.elim q
end L2
namespace L2
open PySem PySem.Spec PyProof.Rows
section
variable{X:Cx}{x:Str}{p pos:Pos}{e:Expr}{es:List Expr}{t:TA}{id T:String}{r:List V→Hp→VK→Prop}
noncomputable def tCB(r:List V→Hp→VK→Prop)(t:TA):TE:=fun σ H Q=>t σ H fun vs H1=>r vs H1 Q
theorem pe_callB(hc:CallR X (.builtin id) r)(hg:Gl X x)(hm:X.mg x=none)(hv:bootBuiltins x=some (.builtin id))(ha:PA X (e::es) t)(hn:x≠"__name__":=by decide)(hdb:(x==("__debug__":Str))=false:=by decide)
 (he:starEach (e::es) X.env=(false,eval e X.env)::starEach es X.env:=by rfl)(hpl:(backTo pos (starEach es X.env)).any (·.1)=false:=by rfl):PE X (.Call (.Name x p) (e::es) [] pos) (tCB r t):=by
 intro pins s σ H Q I h
 refine wpAny_Call_Name_kw (ld_blt I hg hm hv ?_ hn hdb)
 exact PyProof.Rows.callWith_builtin1 (thn (ha pos pins s σ H _ I h) fun us s1 ⟨vs,H1,I1,r1,q1⟩=>hc pins s1 σ H1 vs us Q I1 r1 q1) he hpl
theorem pe_callTy(hc:CallR X (.type T) r)(hg:Gl X x)(hm:X.mg x=none)(hv:bootBuiltins x=some (.type T))(ha:PA X (e::es) t)(hn:x≠"__name__":=by decide)(hdb:(x==("__debug__":Str))=false:=by decide)
 (he:starEach (e::es) X.env=(false,eval e X.env)::starEach es X.env:=by rfl)(hpl:(backTo pos (starEach es X.env)).any (·.1)=false:=by rfl):PE X (.Call (.Name x p) (e::es) [] pos) (tCB r t):=by
 intro pins s σ H Q I h
 refine wpAny_Call_Name_kw (ld_blt I hg hm hv ?_ hn hdb)
 exact PyProof.Rows.callWith_type1 (thn (ha pos pins s σ H _ I h) fun us s1 ⟨vs,H1,I1,r1,q1⟩=>hc pins s1 σ H1 vs us Q I1 r1 q1) he hpl
end
end L2
namespace HT
open PySem PyProof.Rows
section
open PySem.SeqAt
open PySem.AutoSeq1 (wpAny_loadPart')
open PySem.MeetsSeq PySem.MeetsSeq2 PySem.MeetsSeq3
end
section
variable{prog:Program}{w:World}{A:Around}{E:Value→Shared→Prop}{s:Shared}
noncomputable def sIx(n d:Nat):Option Int→Nat
 |none=>d
 |some v=>if v<0 then(v+(n:Int)).toNat else min v.toNat n
end
end HT
namespace L2
open PySem PySem.Spec PyProof.Rows
noncomputable abbrev TO:=St→Hp→(Option Int→Hp→Prop)→Prop
def PO(X:Cx)(e:Option Expr)(t:TO):Prop:=
 ∀(pins:List (Addr×Obj)) (s:Shared) (σ:St) (H:Hp) (Q:Option Int→Hp→Prop),Inv X pins σ H s→t σ H Q→
  wpAny (model X.prog X.w) X.A (evalPart e X.env) (fun u s'=>∃o H',Inv X pins σ H' s'∧IsPart u o∧Q o H') X.xe s
noncomputable def tNoPart:TO:=fun _ H Q=>Q none H
noncomputable def tPart(t:TE):TO:=fun σ H Q=>t σ H fun x H1=>∃i,x=.int i∧Q (some i) H1
theorem intsAre_of{ns:List Int}:∀ {us:List Value},Vals (ns.map V.int) us→IntsAre us ns:=by
 induction ns with
 |nil=>intro us r;rw [List.map_nil]at r;cases r;exact .nil
 |cons n ns ih=>
  intro us r
  rw [List.map_cons]at r
  cases r with
  |cons r1 r2=>
   obtain⟨t,e⟩:=r1
   subst e
   exact .cons n t (ih r2)
section
variable{X:Cx}{e:Expr}{te:TE}{lo hi:Option Expr}{tl th:TO}{pos p2:Pos}
theorem po_none:PO X none tNoPart:=by
 intro pins s σ H Q I h
 rw [evalPart_none]
 exact wpAny_pure ⟨none,H,I,.none,h⟩
theorem po_some(h:PE X e te):PO X (some e) (tPart te):=by
 intro pins s σ H Q I hw
 rw [evalPart_some]
 refine thn (h pins s σ H _ I hw) fun u s1 ⟨x,H1,I1,r1,q1⟩=> ?_
 obtain⟨i,rfl,q⟩:=q1
 obtain⟨t,rfl⟩:=r1
 exact⟨some i,H1,I1,.int i t,q⟩
def SlR(X:Cx)(r:V→Option Int→Option Int→Hp→VK→Prop):Prop:=
 ∀(pins:List (Addr×Obj)) (s:Shared) (σ:St) (H:Hp) (x:V) (v vl vu:Value) (lo hi:Option Int) (sl:Addr) (Q:VK),Inv X pins σ H s→RelV x v→s.heap.IsSliceOf sl vl vu .none→IsPart vl lo→IsPart vu hi→r x lo hi H Q→
  ∃T id,typeLookup (.type T) "__getitem__"=pure (some (.builtin id))∧s.TypeIs v T∧wpAny (model X.prog X.w) X.A (getItem v (.ref sl)) (EP X pins σ Q) X.xe s
noncomputable def tSl(r:V→Option Int→Option Int→Hp→VK→Prop)(te:TE)(tl th:TO):TE:=fun σ H Q=>te σ H fun x H1=>tl σ H1 fun l H2=>th σ H2 fun u H3=>r x l u H3 Q
theorem pe_slice{r:V→Option Int→Option Int→Hp→VK→Prop}(hr:SlR X r)(he:PE X e te)(hl:PO X lo tl)(hu:PO X hi th):PE X (.Subscript e (.Slice lo hi none p2) pos) (tSl r te tl th):=by
 intro pins s σ H Q I h
 refine Subscript_ (thn (he pins s σ H _ I h) fun v s1 ⟨x,H1,I1,r1,q1⟩=> ?_)
 refine wpAny_Slice (thn (hl pins s1 σ H1 _ I1 q1) fun vl s2 ⟨l,H2,I2,pl,q2⟩=>thn (hu pins s2 σ H2 _ I2 q2) fun vu s3 ⟨u,H3,I3,pu,q3⟩=> ?_)
 rw [evalPart_none]
 refine wpAny_pure ?_
 have I4:Inv X pins σ H3 {s3 with heap:=s3.heap.push {cls:=.type "slice",data:=.fields #[vl,vu,.none]}}:=I3.kept (t':=s3.toks) fun b ob q=>Heap.get?_push_of_some _ q
 obtain⟨T,id,hT,ht,hg⟩:=hr pins {s3 with heap:=s3.heap.push {cls:=.type "slice",data:=.fields #[vl,vu,.none]}} σ H3 x v vl vu l u s3.heap.objs.size Q I4 r1 (Heap.IsSliceOf.new ..) pl pu q3
 show wpAny (model X.prog X.w) X.A (subscriptTail e (.Slice lo hi none p2) v (.ref s3.heap.objs.size)) (EP X pins σ Q) X.xe {s3 with heap:=s3.heap.push {cls:=.type "slice",data:=.fields #[vl,vu,.none]}}
 exact tail_any (ops:=[.ref s3.heap.objs.size,v]) ht hT hg (by with_unfolding_all rfl)
noncomputable def cutV(xs:List V)(lo hi:Option Int):List V:=(xs.drop (HT.sIx xs.length 0 lo)).take (HT.sIx xs.length xs.length hi-HT.sIx xs.length 0 lo)
theorem cutV_length(xs:List V)(lo hi:Option Int):(cutV xs lo hi).length≤xs.length:=by
 unfold cutV
 rw [List.length_take,List.length_drop]
 lia
end
end L2
namespace L2
open PySem PySem.Spec PyProof.Rows
noncomputable def ixN(n:Nat)(i:Int):Option Nat:=if 0≤i then(if i<n then some i.toNat else none)else if-(n:Int)≤i then some (i+n).toNat else none
noncomputable def atI{α:Type}(xs:List α)(i:Int):Option α:=(ixN xs.length i).bind fun j=>xs[j]?
theorem ixN_seq{n:Nat}{i:Int}{j:Nat}(h:ixN n i=some j):seqIndex? i n=some j∧j<n∧-(n:Int)≤i∧i<n:=by
 unfold ixN at h
 by_cases h0:0≤i
 ·rw [if_pos h0]at h
  by_cases h1:i<n
  ·rw [if_pos h1]at h
   have e:i.toNat=j:=Option.some.inj h
   exact⟨by rw [seqIndex_of h0 h1,e],by lia,by lia,h1⟩
  ·rw [if_neg h1]at h;cases h
 ·rw [if_neg h0]at h
  by_cases h1:-(n:Int)≤i
  ·rw [if_pos h1]at h
   have e:(i+n).toNat=j:=Option.some.inj h
   exact⟨by rw [seqIndex_neg (by lia) h1,e],by lia,h1,by lia⟩
  ·rw [if_neg h1]at h;cases h
theorem atI_get{α:Type}{xs:List α}{i:Int}{v:α}(h:atI xs i=some v):∃j,seqIndex? i xs.length=some j∧xs[j]?=some v∧j<xs.length∧-(xs.length:Int)≤i∧i<xs.length:=by
 unfold atI at h
 cases e:ixN xs.length i with
 |none=>rw [e]at h;cases h
 |some j=>
  rw [e]at h
  obtain⟨h1,h2,h3,h4⟩:=ixN_seq e
  exact⟨j,h1,h,h2,h3,h4⟩
theorem atI_nat{α:Type}{xs:List α}{j:Nat}{v:α}(h:xs[j]?=some v):atI xs (j:Int)=some v:=by
 have hj:j<xs.length:=(List.getElem?_eq_some_iff.mp h).1
 have e:ixN xs.length (j:Int)=some j:=by
  unfold ixN
  rw [if_pos (by lia),if_pos (by lia)];simp
 unfold atI;rw [e];exact h
def PlainIx(b:Expr):Prop:=∀o i,subscripted b false o i=operate [o,i] (getItem o i)
def IxR(X:Cx)(r:R2):Prop:=
 ∀(value slice:Expr) (pins:List (Addr×Obj)) (s:Shared) (σ:St) (H:Hp) (x y:V) (v u:Value) (Q:VK),Inv X pins σ H s→RelV x v→RelV y u→r x y H Q→
  subscripted slice false v u=operate [v,u] (getItem v u)→wpAny (model X.prog X.w) X.A (subscriptTail value slice v u) (EP X pins σ Q) X.xe s
def MtR(X:Cx)(id:String)(r:V→List V→Hp→VK→Prop):Prop:=
 ∀(pins:List (Addr×Obj)) (s:Shared) (σ:St) (H:Hp) (x:V) (xs:List V) (v:Value) (us:List Value) (Q:VK),Inv X pins σ H s→RelV x v→Vals xs us→r x xs H Q→
  wpAny (model X.prog X.w) X.A (call (.builtin id) (v::us)) (EP X pins σ Q) X.xe s
section
variable{X:Cx}{a b:Expr}{ta tb:TE}{pos:Pos}
theorem pe_ix{r:R2}(hr:IxR X r)(ha:PE X a ta)(hb:PE X b tb)(hs:PlainIx b):PE X (.Subscript a b pos) (tOp r ta tb):=by
 intro pins s σ H Q I h
 exact Subscript_ (binT ha hb I h fun v u s2 x y H2 I2 rx ry q=>hr a b pins s2 σ H2 x y v u Q I2 rx ry q (hs _ _))
noncomputable def rIxL(K:W.Frag):R2:=fun x y H Q=>∃p xs i v,x=.ref p∧y=.int i∧SqL K H p xs∧atI xs i=some v∧Q v H
noncomputable def rIxT(K:W.Frag):R2:=fun x y H Q=>∃p xs i v,x=.ref p∧y=.int i∧SqT K H p xs∧atI xs i=some v∧Q v H
noncomputable def rIxS:R2:=fun x y H Q=>∃z i c,x=.str z∧y=.int i∧z.length≤sizeLine∧atI z.cps.toList i=some c∧Q (.str ⟨#[c]⟩) H
theorem ix_list:IxR X (rIxL X.K):=by
 intro value slice pins s σ H x y v u Q I rx ry h hs
 obtain⟨p,xs,i,z,rfl,rfl,hq,he,q⟩:=h
 cases rx
 obtain⟨t,rfl⟩:=ry
 obtain⟨its,r,pl,hz⟩:=I.list hq
 obtain⟨j,h1,h2,h3,h4,h5⟩:=atI_get he
 obtain⟨w,ew,rw'⟩:=r.get h2
 have hl:=r.length
 have hn:=line63
 have fin:EP X pins σ Q w s:=⟨z,H,I,rw',q⟩
 by_cases h0:0≤i
 ·have hj:i.toNat=j:=by
   rw [seqIndex_of h0 h5]at h1
   exact Option.some.inj h1
  exact item_listR pl.isList h0 (by lia) (by rw [hj];simpa using ew) fin hs
 ·have hj:(i+(its.toArray.size:Int)).toNat=j:=by
   rw [seqIndex_neg (by lia) h4]at h1
   rw [List.size_toArray,←hl]
   exact Option.some.inj h1
  exact subscriptTail_builtinR (x:=w) pl.isList.typeIs slot_list_getitem.lookup
   (wpAny_getItem_list_neg (Q:=fun r s'=>r=w∧EP X pins σ Q r s') pl.isList (by lia) (by rw [List.size_toArray]<;>lia) (by lia) (by rw [hj];simpa using ew) ⟨rfl,fin⟩) hs
theorem ix_tup:IxR X (rIxT X.K):=by
 intro value slice pins s σ H x y v u Q I rx ry h hs
 obtain⟨p,xs,i,z,rfl,rfl,hq,he,q⟩:=h
 cases rx
 obtain⟨t,rfl⟩:=ry
 obtain⟨its,r,pl,hz⟩:=I.tuple hq
 obtain⟨j,h1,h2,h3,h4,h5⟩:=atI_get he
 obtain⟨w,ew,rw'⟩:=r.get h2
 have hl:=r.length
 have hn:=line63
 have fin:EP X pins σ Q w s:=⟨z,H,I,rw',q⟩
 exact subscriptTail_builtinR (x:=w) pl.typeIs slot_tuple_getitem.lookup
  (getItem_tuple (j:=j) (Q:=fun r s'=>r=w∧EP X pins σ Q r s') pl (by lia) (by lia) (by rw [List.size_toArray,←hl];exact h1) (by simpa using ew) ⟨rfl,fin⟩) hs
theorem ix_str:IxR X rIxS:=by
 intro value slice pins s σ H x y v u Q I rx ry h hs
 obtain⟨z,i,c,rfl,rfl,hz,he,q⟩:=h
 obtain⟨t,rfl⟩:=rx
 obtain⟨t',rfl⟩:=ry
 obtain⟨j,h1,h2,h3,h4,h5⟩:=atI_get he
 have hl:z.cps.toList.length=z.length:=by simp [Str.length]
 rw [hl]at h1 h4 h5
 have hn:=line63
 exact tail_any (typeIs_str s z t) slot_str_getitem.lookup (getItem_str (c:=c) (by
  have e1:decide (i< -(2 ^ 63:Int))=false:=dff (by lia)
  have e2:decide (i≥2 ^ 63)=false:=dff (by lia)
  rw [e1,e2,Bool.or_false]) (by rw [h1];simpa using h2) ⟨.str ⟨#[c]⟩,H,I.tok _,⟨_,rfl⟩,q⟩) hs
theorem mapSeq_set(its:List Value)(n j:Nat)(u:Value):Obj.mapSeq (·.setIfInBounds j u) {cls:=.type "list",data:=.seq its.toArray n}= {cls:=.type "list",data:=.seq (its.set j u).toArray n}:=by
 simp [Obj.mapSeq]
theorem Inv.lst{pins:List (Addr×Obj)}{σ:St}{H:Hp}{s:Shared}{p:Addr}{xs:List V}(I:Inv X pins σ H s)(h:H p=some (.lst xs)):
 ∃(its:List Value) (n:Nat),Vals xs its∧s.heap.get? p=some {cls:=.type "list",data:=.seq its.toArray n}∧xs.length≤sizeLine:=by
 obtain⟨z,its,n,r,e⟩:=I.hok p _ h
 exact⟨its,n,r,e,z⟩
theorem Inv.lstUpd{pins:List (Addr×Obj)}{σ:St}{H:Hp}{s:Shared}{p:Addr}{xs ys:List V}{its its':List Value}{n n':Nat}{f:Obj→Obj}(I:Inv X pins σ H s)(h:H p=some (.lst xs))
 (ho:s.heap.get? p=some {cls:=.type "list",data:=.seq its.toArray n})(hf:f {cls:=.type "list",data:=.seq its.toArray n}= {cls:=.type "list",data:=.seq its'.toArray n'})(r:Vals ys its')(hz:ys.length≤sizeLine)(t:Nat):
 Inv X pins σ (upd H p (.lst ys)) {s with heap:=s.heap.update p f,toks:=t}:=by
 have e:(s.heap.update p f).get? p=some {cls:=.type "list",data:=.seq its'.toArray n'}:=by
  rw [Heap.get?_update_self f ho (by rw [hf]<;>rfl),hf]
 refine I.write (x:=p) (e:=p) (by rw [h];trivial) (.inl rfl) (fun b u hb q=>(Heap.get?_update_other _ _ (Ne.symm hb)).trans q) ⟨_,e⟩ ?_
 exact⟨hz,its',n',r,e⟩
noncomputable def rSetL:V→V→V→Hp→(Hp→Prop)→Prop:=fun o i v H Q=>∃p xs k j,o=.ref p∧i=.int k∧H p=some (.lst xs)∧ixN xs.length k=some j∧Q (upd H p (.lst (xs.set j v)))
theorem set_list:PSet X rSetL:=by
 intro pins s σ H o i v ov iv u Q I ro ri rv h
 obtain⟨p,xs,k,j,rfl,rfl,hp,hj,q⟩:=h
 cases ro
 obtain⟨t,rfl⟩:=ri
 obtain⟨its,n,r,ho,hz⟩:=I.lst hp
 obtain⟨h1,h2,h3,h4⟩:=ixN_seq hj
 have hl:=r.length
 have hn:=line63
 have I':Inv X pins σ (upd H p (.lst (xs.set j v))) {s with heap:=s.heap.update p (Obj.mapSeq (·.setIfInBounds j u))}:=
  I.lstUpd hp ho (mapSeq_set its n j u) (r.set rv j) (by rw [List.length_set];exact hz) s.toks
 by_cases h0:0≤k
 ·have hk:k.toNat=j:=by
   rw [seqIndex_of h0 h4]at h1
   exact Option.some.inj h1
  exact W.ki_setAt ho h0 (by lia) (by rw [List.size_toArray,←hl];exact h4) (by rw [hk];exact⟨_,I',q⟩)
 ·have hk:(k+(its.toArray.size:Int)).toNat=j:=by
   rw [seqIndex_neg (by lia) h3]at h1
   rw [List.size_toArray,←hl]
   exact Option.some.inj h1
  exact W.ki_setBack ho (by lia) (by rw [List.size_toArray,←hl];exact h3) (by lia) (by rw [hk];exact⟨_,I',q⟩)
theorem slice_bounds(lo hi:Option Int)(n:Nat):(sliceBounds lo hi none n).1=((HT.sIx n 0 lo:Nat):Int)∧(sliceBounds lo hi none n).2.1=((HT.sIx n n hi:Nat):Int)∧(sliceBounds lo hi none n).2.2=1:=by
 refine⟨?_,?_,rfl⟩
 ·cases lo with
  |none=>simp [sliceBounds,HT.sIx]
  |some i=>
   simp only [sliceBounds,HT.sIx,Option.getD_none,show(1:Int)>0 by decide,if_true]
   by_cases h:i<0
   ·simp only [h,if_true]<;>lia
   ·simp only [h,if_false]<;>lia
 ·cases hi with
  |none=>simp [sliceBounds,HT.sIx]
  |some i=>
   simp only [sliceBounds,HT.sIx,Option.getD_none,show(1:Int)>0 by decide,if_true]
   by_cases h:i<0
   ·simp only [h,if_true]<;>lia
   ·simp only [h,if_false]<;>lia
theorem slicePick_cut(its:List Value)(lo hi:Option Int):slicePick its.toArray lo hi none=((its.drop (HT.sIx its.length 0 lo)).take (HT.sIx its.length its.length hi-HT.sIx its.length 0 lo)).toArray:=by
 obtain⟨h1,h2,h3⟩:=slice_bounds lo hi its.toArray.size
 unfold slicePick
 rw [h1,h2,h3]
 simp only [sliceRange_one,pick_run,List.size_toArray]<;>rfl
noncomputable def rSlL(K:W.Frag):V→Option Int→Option Int→Hp→VK→Prop:=fun x lo hi H Q=>∃a xs,x=.ref a∧SqL K H a xs∧∀p,H p=none→Q (.ref p) (upd H p (.lst (cutV xs lo hi)))
theorem sl_list:SlR X (rSlL X.K):=by
 intro pins s σ H x v vl vu lo hi sl Q I rx hs pl pu h
 obtain⟨a,xs,rfl,hx,q⟩:=h
 cases rx
 obtain⟨its,r,ht,hz⟩:=I.list hx
 have hlen:=r.length
 refine⟨"list",_,slot_list_getitem.lookup,ht.isList.typeIs,?_⟩
 refine wpAny_getItem_list_slice ht.isList hs pl pu .none (by simp) ?_ (by rw [List.size_toArray]<;>lia)
 rw [slicePick_cut,←hlen]
 refine⟨.ref s.heap.objs.size,_,I.laid (t':=s.toks) (o:=.lst (cutV xs lo hi)) (fun b ob q=>Heap.get?_push_of_some _ q) (Nat.le_refl _) ?_,rfl,q _ (I.hok.fresh (Nat.le_refl _))⟩
 exact⟨Nat.le_trans (cutV_length xs lo hi) hz,_,0,(r.drop (HT.sIx xs.length 0 lo)).take (HT.sIx xs.length xs.length hi-HT.sIx xs.length 0 lo),Heap.get?_push_size _ rfl⟩
noncomputable def flatV:V→Bool
 | .non=>true
 | .bl _=>true
 | .int _=>true
 | .str _=>true
 |_=>false
noncomputable def eqV:V→V→Bool
 | .non,.non=>true
 | .bl a,.bl b=>a==b
 | .bl a,.int b=>(if a then 1 else 0)==b
 | .int a,.bl b=>a==(if b then 1 else 0)
 | .int a,.int b=>a==b
 | .str a,.str b=>a==b
 |_,_=>false
theorem eqAt_V{A:Around}{s:Shared}{y x:V}{u v:Value}(ry:RelV y u)(rx:RelV x v)(fy:flatV y=true)(fx:flatV x=true):SeqAt.EqAt A s u v (eqV y x):=by
 cases y with
 |non=>
  cases ry
  cases x with
  |non=>cases rx;exact SeqAt.EqAt.same _
  |bl b=>cases rx;exact SeqAt.EqAt.none_bool b
  |int b=>obtain⟨t,rfl⟩:=rx;exact SeqAt.EqAt.none_int b t
  |str b=>obtain⟨t,rfl⟩:=rx;exact SeqAt.EqAt.none_str b t
  |_=>exact absurd (show false=true from fx) fnt
 |bl a=>
  cases ry
  cases x with
  |non=>cases rx;exact SeqAt.EqAt.bool_none a
  |bl b=>cases rx;exact SeqAt.EqAt.bool_bool a b
  |int b=>obtain⟨t,rfl⟩:=rx;exact SeqAt.EqAt.bool_int a b t
  |str b=>obtain⟨t,rfl⟩:=rx;exact SeqAt.EqAt.bool_str a b t
  |_=>exact absurd (show false=true from fx) fnt
 |int a=>
  obtain⟨t',rfl⟩:=ry
  cases x with
  |non=>cases rx;exact SeqAt.EqAt.int_none a t'
  |bl b=>cases rx;exact SeqAt.EqAt.int_bool a t' b
  |int b=>obtain⟨t,rfl⟩:=rx;exact SeqAt.EqAt.int_int a t' b t
  |str b=>obtain⟨t,rfl⟩:=rx;exact SeqAt.EqAt.int_str a t' b t
  |_=>exact absurd (show false=true from fx) fnt
 |str a=>
  obtain⟨t',rfl⟩:=ry
  cases x with
  |non=>cases rx;exact SeqAt.EqAt.str_none a t'
  |bl b=>cases rx;exact SeqAt.EqAt.str_bool a t' b
  |int b=>obtain⟨t,rfl⟩:=rx;exact SeqAt.EqAt.str_int a t' b t
  |str b=>obtain⟨t,rfl⟩:=rx;exact SeqAt.EqAt.str_str a t' b t
  |_=>exact absurd (show false=true from fx) fnt
 |_=>exact absurd (show false=true from fy) fnt
noncomputable def eqU(x:V)(u:Value):Bool:=match u with
 | .none=>eqV .non x
 | .bool b=>eqV (.bl b) x
 | .int i _=>eqV (.int i) x
 | .str z _=>eqV (.str z) x
 |_=>false
theorem eqU_of{x y:V}{u:Value}(r:RelV y u)(f:flatV y=true):eqU x u=eqV y x:=by
 cases y with
 |non=>cases r;rfl
 |bl b=>cases r;rfl
 |int i=>obtain⟨t,rfl⟩:=r;rfl
 |str z=>obtain⟨t,rfl⟩:=r;rfl
 |_=>exact absurd (show false=true from f) fnt
theorem any_eqU{x:V}:∀ {xs:List V} {us:List Value},Vals xs us→xs.all flatV=true→us.any (eqU x)=xs.any fun y=>eqV y x
 |_,_,.nil,_=>rfl
 |y::xs,u::us,.cons r t,f=>by
  rw [List.all_cons,Bool.and_eq_true]at f
  rw [List.any_cons,List.any_cons,eqU_of r f.1,any_eqU t f.2]
theorem mem_eqAt{A:Around}{s:Shared}{x:V}{v:Value}(rx:RelV x v)(fx:flatV x=true):∀ {xs:List V} {us:List Value},Vals xs us→xs.all flatV=true→∀u∈us,SeqAt.EqAt A s u v (eqU x u)
 |_,_,.nil,_=>fun u hu=>by cases hu
 |y::xs,u::us,.cons r t,f=>fun u' hu=>by
  rw [List.all_cons,Bool.and_eq_true]at f
  rcases List.mem_cons.mp hu with rfl|hu
  ·rw [eqU_of r f.1];exact eqAt_V r rx f.1 fx
  ·exact mem_eqAt rx fx t f.2 u' hu
noncomputable def inV(x:V)(xs:List V):Bool:=xs.any fun y=>eqV y x
noncomputable def rIn(K:W.Frag)(neg:Bool):R2:=fun x y H Q=>∃p xs,y=.ref p∧(SqL K H p xs∨SqT K H p xs)∧flatV x=true∧xs.all flatV=true∧Q (.bl (if neg then !inV x xs else inV x xs)) H
theorem op_in_seq:OpR X (compareOp .In) (rIn X.K false):=by
 intro pins s σ H x y v u Q I rx ry h
 obtain⟨p,xs,rfl,hq,fx,fs,q⟩:=h
 cases ry
 rcases hq with hq|hq
 ·obtain⟨its,r,pl,hz⟩:=I.list hq
  refine SeqAt.in_listAt (eqU x) pl.isList (fun w hw=>mem_eqAt rx fx r fs w (by simpa using hw)) ⟨.bl _,H,I,rfl,?_⟩
  rw [show its.toArray.any (eqU x)=its.any (eqU x) by simp,any_eqU r fs]
  exact q
 ·obtain⟨its,r,pl,hz⟩:=I.tuple hq
  refine SeqAt.in_tupleAt (eqU x) pl (fun w hw=>mem_eqAt rx fx r fs w (by simpa using hw)) ⟨.bl _,H,I,rfl,?_⟩
  rw [show its.toArray.any (eqU x)=its.any (eqU x) by simp,any_eqU r fs]
  exact q
theorem call_len_seq:CallR X (.builtin "len") (fun xs H Q=>∃p ys,xs=[.ref p]∧(SqL X.K H p ys∨SqT X.K H p ys)∧Q (.int ys.length) H):=by
 intro pins s σ H xs us Q I r h
 obtain⟨p,ys,rfl,hq,q⟩:=h
 obtain⟨u,rfl,rx⟩:=vals1 r
 cases rx
 have hn:=line63
 rcases hq with hq|hq
 ·obtain⟨its,r',pl,hz⟩:=I.list hq
  have hlen:=r'.length
  exact Calls.call_len_list pl.isList (by simp only [List.size_toArray]<;>lia) ⟨.int ys.length,H,I.tok _,⟨s.toks+1,by rw [List.size_toArray,hlen]⟩,q⟩
 ·obtain⟨its,r',pl,hz⟩:=I.tuple hq
  have hlen:=r'.length
  exact len_tuple pl (by simp only [List.size_toArray]<;>lia) ⟨.int ys.length,H,I.tok _,⟨s.toks+1,by rw [List.size_toArray,hlen]⟩,q⟩
theorem call_len_str:CallR X (.builtin "len") (fun xs H Q=>∃z,xs=[.str z]∧z.length≤sizeLine∧Q (.int z.length) H):=by
 intro pins s σ H xs us Q I r h
 obtain⟨z,rfl,hz,q⟩:=h
 obtain⟨u,rfl,t,rfl⟩:=vals1 r
 have hn:=line63
 exact len_str (by lia) ⟨.int z.length,H,I.tok _,⟨_,rfl⟩,q⟩
theorem CallR.or{f:Value}{r r':List V→Hp→VK→Prop}(h:CallR X f r)(h':CallR X f r'):CallR X f (fun xs H Q=>r xs H Q∨r' xs H Q):=by
 intro pins s σ H xs us Q I rs q
 rcases q with q|q
 ·exact h pins s σ H xs us Q I rs q
 ·exact h' pins s σ H xs us Q I rs q
theorem call_list_of:CallR X (.type "list") (fun xs H Q=>∃p ys,xs=[.ref p]∧(SqL X.K H p ys∨SqT X.K H p ys)∧∀l,H l=none→Q (.ref l) (upd H l (.lst ys))):=by
 intro pins s σ H xs us Q I r h
 obtain⟨p,ys,rfl,hq,q⟩:=h
 obtain⟨u,rfl,rx⟩:=vals1 r
 cases rx
 have fin:∀(its:List Value),Vals ys its→ys.length≤sizeLine→∀(h':Heap) (c':Nat),(∀b o',s.heap.get? b=some o'→h'.get? b=some o')→
  h'.get? s.heap.objs.size=some {cls:=.type "list",dict:=none,data:=.seq its.toArray c',slots:= #[]}→EP X pins σ Q (.ref s.heap.objs.size) {s with heap:=h'}:=fun its r' hz h' c' kp e=>
  ⟨.ref s.heap.objs.size,_,I.laid (t':=s.toks) kp (Nat.le_refl _) (show ObjOk X.prog X.w _ h' _ (.lst ys)from⟨hz,its,c',r',e⟩),rfl,q _ (I.hok.fresh (Nat.le_refl _))⟩
 rcases hq with hq|hq
 ·obtain⟨its,r',pl,hz⟩:=I.list hq
  have hlen:=r'.length
  obtain⟨o,ho,hc,n,hd⟩:=pl.isList
  exact call_list_seq p (.inl rfl) ho hc hd (fun h' c' kp e=>fin its r' hz h' c' kp e) (by simp only [List.size_toArray]<;>lia)
 ·obtain⟨its,r',pl,hz⟩:=I.tuple hq
  have hlen:=r'.length
  obtain⟨o,ho,hc,n,hd⟩:=pl
  exact call_list_seq p (.inr rfl) ho hc hd (fun h' c' kp e=>fin its r' hz h' c' kp e) (by simp only [List.size_toArray]<;>lia)
def tyV(K:W.Frag)(T:String)(x:V)(H:Hp):Prop:=match x with
 | .str _=>T="str"
 | .int _=>T="int"
 | .ref p=>(T="list"∧∃xs,SqL K H p xs)∨(T="tuple"∧∃o,K.lookup p=some o∧o.cls=.type "tuple"∧o.dict=none)∨
    (T="dict"∧((∃kvs,H p=some (.dK kvs))∨∃kvs,H p=some (.dT kvs)))∨(T="set"∧∃S n,H p=some (.set S n))
 |_=>False
theorem tyV_is{pins:List (Addr×Obj)}{σ:St}{H:Hp}{s:Shared}{T:String}{x:V}{v:Value}(I:Inv X pins σ H s)(r:RelV x v)(ty:tyV X.K T x H):
 s.TypeIs v T∧∀a,v=.ref a→∃ob,s.heap.get? a=some ob∧ob.dict=none:=by
 cases x with
 |str z=>
  obtain⟨t,rfl⟩:=r
  cases (show T="str" from ty)
  exact⟨typeIs_str s z t,fun _ e=>nomatch e⟩
 |int i=>
  obtain⟨t,rfl⟩:=r
  cases (show T="int" from ty)
  exact⟨typeIs_int s i t,fun _ e=>nomatch e⟩
 |ref p=>
  cases r
  rcases ty with⟨rfl,xs,hq⟩|⟨rfl,o,hk,hc,hd⟩|⟨rfl,hk⟩|⟨rfl,S,n,hk⟩
  ·obtain⟨its,_,pl,_⟩:=I.list hq
   refine⟨pl.isList.typeIs,fun a e=> ?_⟩
   cases e
   obtain⟨o,n,e,c,hd,_⟩:=pl
   exact⟨o,e,hd⟩
  ·refine⟨⟨o,I.kIn p o hk,hc⟩,fun a e=> ?_⟩
   cases e
   exact⟨o,I.kIn _ o hk,hd⟩
  ·have z:∃o,s.heap.get? p=some o∧o.ExactDict:=by
    rcases hk with⟨kvs,hk⟩|⟨kvs,hk⟩
    ·obtain⟨_,_,_,_,o,_,_,e,ex,_⟩:=I.hok p _ hk
     exact⟨o,e,ex⟩
    ·obtain⟨_,_,_,_,o,_,_,e,ex,_⟩:=I.hok p _ hk
     exact⟨o,e,ex⟩
   obtain⟨o,e,ex⟩:=z
   refine⟨⟨o,e,ex.1⟩,fun a e2=> ?_⟩
   cases e2
   exact⟨o,e,ex.2.1⟩
  ·obtain⟨o,_,_,_,e,ex,_⟩:=I.hok p _ hk
   refine⟨⟨o,e,ex.1⟩,fun a e2=> ?_⟩
   cases e2
   exact⟨o,e,ex.2.1⟩
 |_=>exact False.elim ty
noncomputable def tBM(K:W.Frag)(T:String)(r:V→List V→Hp→VK→Prop)(to:TE)(t:TA):TE:=fun σ H Q=>to σ H fun x H1=>tyV K T x H1∧t σ H1 fun xs H2=>r x xs H2 Q
variable{o e:Expr}{es:List Expr}{to:TE}{t:TA}{name:Str}{apos cpos:Pos}{T id:String}{r:V→List V→Hp→VK→Prop}
theorem pe_bm(pa:PlainAttrs T)(slot:Slot T name id)(hty:typeOf (.builtin id)=pure (.type "method_descriptor"))(hm:MtR X id r)(ho:PE X o to)(ha:PA X (e::es) t)
 (hbase:attributeBase o name X.env (eval o X.env)=eval o X.env:=by rfl)
 (hfew:((backTo cpos (starEach (e::es) X.env)).all (fun x=> !x.1)&&(backToKw cpos (keywordEach [] X.env)).all (fun x=>x.1.isSome)
   &&decide ((e::es).length+([]:List Keyword).length+(if([]:List Keyword).isEmpty then 0 else 1)<30))=true:=by rfl)
 (hline:(apos.endLine==cpos.line)=true:=by rfl)(hs:starEach (e::es) X.env=(false,eval e X.env)::starEach es X.env:=by rfl)(hplain:(backTo cpos (starEach es X.env)).any (·.1)=false:=by rfl):
 PE X (.Call (.Attribute o name apos) (e::es) [] cpos) (tBM X.K T r to t):=by
 intro pins s σ H Q I h
 refine wpAny_Call_method_late hbase hfew hline rfl (thn (ho pins s σ H _ I h) fun v s1 ⟨x,H1,I1,r1,ty,q1⟩=> ?_)
 obtain⟨h1,h2⟩:=tyV_is I1 r1 ty
 refine⟨T,id,pa,slot,hty,h1,h2,?_⟩
 have hA:=ha cpos pins s1 σ H1 _ I1 q1
 rw [hs]at hA⊢
 refine Calls.callWith_builtin (by show(false||(backTo cpos (starEach es X.env)).any (·.1))=false;rw [hplain]<;>rfl) (Calls.evalArgs_plain ?_)
 exact thn hA fun us s2 ⟨vs,H2,I2,r2,q2⟩=>hm pins s2 σ H2 x vs v us Q I2 r1 r2 q2
/-xs.append(e),list.index on a module's tuple .. are MtR facts of 06m-/
end
end L2
namespace L2
open PySem PySem.Spec PyProof.Rows
def MtM(X:Cx)(id:String)(r:V→List V→Hp→VK→Prop):Prop:=
 ∀(pins:List (Addr×Obj)) (s:Shared) (σ:St) (H:Hp) (x:V) (xs:List V) (v:Value) (us:List Value) (Q:VK),Inv X pins σ H s→RelV x v→Vals xs us→r x xs H Q→
  wpAny (model X.prog X.w) X.A (call (.builtin id) (v::us)) (EP X pins σ Q) X.xe s
theorem Vals.one:∀ {x:V} {us:List Value},Vals [x] us→∃u,us=[u]∧RelV x u
 |_,_,.cons r .nil=>⟨_,rfl,r⟩
theorem Vals.two:∀ {x y:V} {us:List Value},Vals [x,y] us→∃u v,us=[u,v]∧RelV x u∧RelV y v
 |_,_,_,.cons r (.cons q .nil)=>⟨_,_,rfl,r,q⟩
theorem Vals.rep{xs:List V}{us:List Value}(h:Vals xs us):∀k:Nat,Vals (List.replicate k xs).flatten (List.replicate k us).flatten
 |0=> .nil
 |k+1=>by
  rw [List.replicate_succ,List.replicate_succ,List.flatten_cons,List.flatten_cons]
  exact Vals.append h (Vals.rep h k)
theorem foldl_rep(its:List Value):∀(k:Nat) (acc:List Value),
 List.foldl (fun x1 x2=>x1++x2) acc.toArray (List.replicate k its.toArray)=(acc++(List.replicate k its).flatten).toArray
 |0,acc=>by simp
 |k+1,acc=>by
  have e:acc.toArray++its.toArray=(acc++its).toArray:=by simp
  have e2:(acc++its)++(List.replicate k its).flatten=acc++(List.replicate (k+1) its).flatten:=by
   rw [List.replicate_succ,List.flatten_cons,List.append_assoc]
  rw [←e2,←foldl_rep its k (acc++its),←e,List.replicate_succ,List.foldl_cons]
section
variable{X:Cx}{pins:List (Addr×Obj)}{σ:St}{H:Hp}{s:Shared}{l b:Addr}{xs ys zs:List V}
theorem Inv.lset{its its':List Value}{n:Nat}{f:Array Value→Array Value}{t':Nat}(I:Inv X pins σ H s)(hH:H l=some (.lst xs))
 (e:s.heap.get? l=some {cls:=.type "list",data:=.seq its.toArray n})(hf:f its.toArray=its'.toArray)(hv:Vals ys its')(hz:ys.length≤sizeLine):
 Inv X pins σ (upd H l (.lst ys)) {s with heap:=s.heap.update l (Obj.mapSeq f),toks:=t'}:=by
 have q:=PySem.IsL.update e f
 rw [hf]at q
 refine I.write (x:=l) (e:=l) (by rw [hH];exact trivial) (.inl rfl) (fun b' u hb hu=>(Heap.get?_update_other s.heap (Obj.mapSeq f) (Ne.symm hb)).trans hu) ⟨_,q⟩ ?_
 exact⟨hz,its',_,hv,q⟩
theorem Inv.lnew{its:List Value}{t':Nat}(I:Inv X pins σ H s)(hv:Vals ys its)(hz:ys.length≤sizeLine):
 Inv X pins σ (upd H s.heap.objs.size (.lst ys)) {s with heap:=s.heap.push {cls:=.type "list",data:=.seq its.toArray},toks:=t'}:=
 I.laid (fun _ _ q=>Heap.get?_push_of_some _ q) (Nat.le_refl _) ⟨hz,its,0,hv,Heap.get?_push_size _ rfl⟩
theorem Inv.fresh(I:Inv X pins σ H s):H s.heap.objs.size=none:=I.hok.fresh (Nat.le_refl _)
theorem Inv.lstM(I:Inv X pins σ H s)(hH:H l=some (.lst xs)):xs.length≤sizeLine∧∃(its:List Value) (n:Nat),Vals xs its∧xs.length=its.length∧s.heap.get? l=some {cls:=.type "list",data:=.seq its.toArray n}:=by
 obtain⟨z,its,n,r,e⟩:=I.hok l _ hH
 exact⟨z,its,n,r,r.length,e⟩
theorem notLongL{n:Nat}(h:n≤sizeLine):Builtin.List.listTooLong n=false:=by
 unfold Builtin.List.listTooLong
 exact dff (by lia)
end
section
variable{X:Cx}
noncomputable def rAppend:V→List V→Hp→VK→Prop:=fun x vs H Q=>∃l xs y,x=.ref l∧vs=[y]∧H l=some (.lst xs)∧xs.length<sizeLine∧Q .non (upd H l (.lst (xs++[y])))
theorem mt_append:MtM X "list.append" rAppend:=by
 intro pins s σ H x vs v us Q I rx rv h
 obtain⟨l,xs,y,rfl,rfl,hH,hz,q⟩:=h
 cases rx
 obtain⟨u,rfl,ru⟩:=rv.one
 obtain⟨z,its,n,r,hl,e⟩:=I.lstM hH
 refine call_meets F.slot_list_append ⟨_,e,rfl⟩ F.entry_list_append (F.args_list_append_2 _ _) (PySem.list_append l its.toArray n u (by rw [List.size_toArray];lia)) ⟨e,?_⟩
 refine⟨.non,_,I.lset (its':=its++[u]) hH e (by simp) (r.append (.cons ru .nil)) ?_,rfl,q⟩
 rw [List.length_append,List.length_singleton]
 lia
theorem len_rep{α:Type}(xs:List α)(k:Nat):(List.replicate k xs).flatten.length=k*xs.length:=by
 induction k with
 |zero=>simp
 |succ k ih=>rw [List.replicate_succ,List.flatten_cons,List.length_append,ih,Nat.succ_mul,Nat.add_comm]
end
section
variable{prog:Program}{w:World}{A:Around}{E:Value→Shared→Prop}{s:Shared}
set_option maxRecDepth 100000 in
end
section
variable{X:Cx}
end
end L2
namespace Att
open PySem PySem.W PySem.Calls PyProof.Rows
theorem ints_of_wellAll{P:Params}{h:Heap}:∀(ns:List Int) (vs:List Value),WellAll P h vs (ns.map WData.int)→IntsAre vs ns:=by
 intro ns
 induction ns with
 |nil=>
  intro vs w
  rw [List.map_nil]at w
  cases w
  exact .nil
 |cons n ns ih=>
  intro vs w
  rw [List.map_cons]at w
  cases w with
  |cons a b=>
   cases a
   exact .cons _ _ (ih _ b)
theorem script_of{l:OpenLaw}{n:Nat}(hn:l.most=some n){P:Params}{h:Heap}{args:List WData}{vals:List Value}
 (hpre:l.row.toRowW.claim.pre args=true)(hwl:WellAll P h vals args):
 ∃a vs ns,vals=[Value.ref a]∧args=[WData.list (ns.map WData.int)]∧h.get? a=some {cls:=.type "list",data:=.seq vs.toArray}∧IntsAre vs ns∧ns.length≤n:=by
 have hsh:WShape.hasAll [] args [.list .int]=true:=(pre_splitW hpre).1
 have hc:l.pre.holds [] {args:=args}=true:=(pre_splitW hpre).2
 obtain⟨d,r,rfl,h1,h2⟩:=hasAllW_cons hsh
 obtain rfl:=hasAllW_nil h2
 obtain⟨xs,rfl,h3⟩:=hasW_list h1
 obtain⟨ns,rfl⟩:=items_int h3
 have hlen:ns.length≤n:=by
  unfold OpenLaw.pre at hc
  have h4:(WTm.not (.lt (.lit (.int (n:Int))) (.len (.arg 0)))).holds [] {args:=[.list (ns.map .int)]}=true:=by
   have h4:=(holds_andW hc).1
   rw [hn]at h4
   exact h4
  have h5:=condW_of h4 (w_not (w_lt w_lit (w_len_list (w_arg rfl))))
  rw [List.length_map]at h5
  refine Nat.le_of_not_lt fun q=> ?_
  have q':(n:Int)<((ns.length:Nat):Int):=by lia
  first
   |(rw [dtt q']at h5;exact absurd h5 (by decide))
   |(simp at h5;lia)
 cases hwl with
 |cons w1 w2=>
  cases w2
  cases w1 with
  |list ho hall=>exact⟨_,_,ns,rfl,rfl,ho,ints_of_wellAll ns _ hall,hlen⟩
theorem post_true(l:OpenLaw)(args:List WData):l.row.toRowW.claim.post args (.bool true) args=true:=
 postW_of (r:=l.row.toRowW) (X:=(true==true))
  (show WShape.has [] (.bool true) .bool=true by first|rfl|decide|simp [WShape.has,WShape.arms,WShape.armsAll])
  (show(WTm.eq .res (.lit (.bool true))).value [] {args:=args,res:=some (.bool true),after:=args}=some (.bool (true==true))from w_eq_bool (w_res rfl) w_lit) rfl
theorem attach_call{l:OpenLaw}{n:Nat}{q:Program}{loose:List Str}{XP:(Str→Option Value)→Heap→Prop}{YP:World→Heap→Prop}{d:DefRec}
 (hn:l.most=some n)(hdf:d.params.defaults=[])
 (call:∀(w:World) (s₀ s₁:Shared) (mg mb:Str→Option Value) (fa:Addr) (o:Obj) (pm cd doc:Value) (a:Addr) (vs:List Value) (ns:List Int),
   Ground q loose [] XP w s₀ mg mb s₁.heap→YP w s₁.heap→
   s₁.heap.get? fa=some o→o.data=.func (docDef d.name d.params d.body d.scope pm cd doc)→s₁.heap.CodeRec cd d.name→mg d.name=some (.ref fa)→
   s₁.heap.get? a=some {cls:=.type "list",data:=.seq vs.toArray}→IntsAre vs ns→ns.length≤n→s₁.gens= #[]→
   codeAny (model l.prog w) callerA (.call (.ref fa) ⟨[.ref a],[]⟩) (fun r s'=>r=.ok (.ret (.bool true))∧OldK s₁.heap s'.heap∧s'.os=s₁.os∧AllBare s'.gens) s₁):
 WalkO q loose XP YP l.row.toRowW d [] (fun f vs=>PySem.call f vs):=by
 intro w s₀ s₁ mg mb G Y fa o pm cd doc dV kV ho hd hcd hD hmg hg args vals as hpre hlay hrd hwl hlo
 obtain rfl:dV=.none:=Dflts.none hD hdf
 obtain rfl:kV=.none:=Dflts.noKw hD
 obtain⟨a,vs,ns,rfl,rfl,hobj,hints,hlen⟩:=script_of hn hpre hwl
 refine enter_call (codeAny_mono (call w s₀ s₁ mg mb fa o pm cd doc a vs ns G Y ho (fd_plain hd) hcd hmg hobj hints hlen hg) fun r s' hq=> ?_)
 obtain⟨rfl,h2,h3,h4⟩:=hq
 exact⟨.inl ⟨.bool true,.bool true,[],rfl,fun _=>rfl,.bool true,post_true l _,fun _=>⟨List.Pairwise.nil,fun _ hm=>(nomatch hm)⟩⟩,h2,h3,h4⟩
section
variable{prog:Program}{w:World}{A:Around}{E:Value→Shared→Prop}{s:Shared}{K:Frag}
end
end Att
namespace L2
open PySem PySem.Spec PyProof.Rows
theorem vals_ints:∀ {vs:List Value} {ns:List Int},IntsAre vs ns→Vals (ns.map V.int) vs
 |_,_,.nil=> .nil
 |_,_,.cons n t h=> .cons ⟨t,rfl⟩ (vals_ints h)
def Only(H:Hp):Prop:=∀b,H b=none∨∃o xs,H b=some (.frz o (.lst xs))
end L2
namespace L2
open PySem PySem.Spec PyProof.Rows
noncomputable abbrev KOf{K:W.Frag}{h:Heap}(_:K.In h):W.Frag:=K
end L2
/-THE LAST THEOREM (shape;LID,My.*are yours):
  My.Adr:a structure of the addresses that your layer names (classes,functions);My.Txt K t:a structure (Prop) of the equations over K;
  My.txt_mk: {K} {implicit addresses ..} (e1:nsIn K mainGlobals "law"=some (some (.ref f))) (e2:K.lookup f=some ⟨oc,od,.func (fnOf "law" "law" params body scope dV kV doc pm an cdv ct),sl⟩) (e3:codeIn K cdv "law"=true) .. :∃t,My.Txt K t
set_option maxRecDepth 100000 in
set_option maxHeartbeats 0 in
theorem PySem.Challenge.cw_LID_holds : PySem.Challenge.rw_LID.Holds := by
  w_on; o_law; k_head; (case hw => w_witness2)
  k_fill
  refine L2.walk_of (l := PySem.Challenge.rw_LID) (n := 63) (k := 40) (x := "script") (CX := fun w => ..) (sp := fun _ => My.sp_law) rfl (by decide) rfl ⟨rfl, by decide, by decide⟩ (fun w h Y => W.kIn_of Y) ?F ?S ?C
  case F =>
    intro w mg fa h KX G hmg
    have T : ∃ t, My.Txt (L2.KOf KX) t := by
      dsimp only [L2.KOf]                          -- K must stand as «<heap const> w.params» for k_is
      refine' My.txt_mk ?e1 ?e2 ?e3 ..
      (case e1 => W.k_is)                    -- in the order: a name -> its address -> its object -> its parts
      (case e2 => W.k_is)
      ..
    obtain ⟨t, T⟩ := T
    have e0 := hmg.symm.trans (W.mg_of KX G T.law)
    cases e0                                       -- fa is the law's own address
    exact ⟨_, fun s u => .of_eq rfl, fun base kb nb => My.law_fn T kb nb⟩     -- if «.of_eq rfl» comes too early: refine' ⟨_, ?b, fun base kb nb => My.law_fn T kb nb⟩; exact fun s u => .of_eq rfl
  case S => exact fun w H a ns hl hO hS => ..
  case C => exact ..
(the tactic k_is has no namespace:write k_is)-/
namespace L2
open PySem PySem.Spec PyProof.Rows
noncomputable def defArgs(s:Stmt):Arguments:=match s with
 | .FunctionDef _ a _ _ _ _ _ _ _ _=>a
 |_=> {posonlyargs:=[],args:=[],vararg:=none,kwonlyargs:=[],kw_defaults:=[],kwarg:=none,defaults:=[]}
noncomputable def defBody(s:Stmt):List Stmt:=match s with
 | .FunctionDef _ _ b _ _ _ _ _ _ _=>b
 |_=>[]
noncomputable def defScope(s:Stmt):Scope:=match s with
 | .FunctionDef _ _ _ _ _ _ sc _ _ _=>sc
 |_=> {kind:=.function,names:=[],isGenerator:=false,isCoroutine:=false}
noncomputable abbrev CX0:CXT:=fun _ _ _ _ _ _=>False
noncomputable abbrev E0:XK:=fun _ _ _=>False
theorem pass0{X:Cx}:Passes CX0 X E0:=fun _ _ _ _ _ _ _ h=>h.elim
structure Fun(K:W.Frag)(x qual:Str)(st:Stmt)(f:Addr)(fd:FuncData):Prop where
 ex:∃(oc:Value) (od:Option Addr) (kV doc pm:Value) (an:Option Addr) (cdv ct:Value) (osl:Array (Option Value)),
  fd=W.fnOf x qual (defArgs st) (defBody st) (defScope st) .none kV doc pm an cdv ct∧K.lookup f=some ⟨oc,od,.func fd,osl⟩∧W.codeIn K cdv qual=true
 kp:W.keepIn K (.ref f)=true
section
variable{P:Program}{w:World}{K:W.Frag}{mg:Str→Option Value}{base:Heap}
theorem Fun.ok{x qual:Str}{st:Stmt}{f:Addr}{fd:FuncData}{N ps:List Str}{k:Nat}{sp:Sp}(F:Fun K x qual st f fd)(S:FnScope N ps (defScope st))(len:∀vs H Q E,sp vs H Q E→vs.length=ps.length)
 (hbody:∀(cdv:Value) (A:Around) (outer:List Env) (s:Shared) (H:Hp) (vs:List V) (Q:VK) (E:XK),Room k (A.deeper (envOfC qual (defScope st) s.heap.objs.size f cdv))→sp vs H Q E→
   ∃t,PSs (cxOf CX0 P w K mg base N qual (defScope st) f cdv A outer s H E).nox (defBody st) t∧t {nx:=fun _ H'=>Q .non H',rt:=Q} (start N vs) H):FnOk P w K mg base CX0 (k+1) f fd ps sp:=by
 obtain⟨oc,od,kV,doc,pm,an,cdv,ct,osl,rfl,lk,hcd⟩:=F.ex
 refine fn_of lk hcd S len fun A outer s H vs Q E hr hsp=> ?_
 obtain⟨t,h,q⟩:=hbody cdv A outer s H vs Q E hr hsp
 exact⟨t,h.nox,q⟩
theorem Fun.binds{x qual:Str}{st:Stmt}{f:Addr}{fd:FuncData}{ps:List Str}(F:Fun K x qual st f fd)
 (h:∀(kV doc pm:Value) (an:Option Addr) (cdv ct:Value) (us:List Value),us.length=ps.length→bindArgs (W.fnOf x qual (defArgs st) (defBody st) (defScope st) .none kV doc pm an cdv ct) ⟨us,[]⟩=pure (ps.zip us)):Binds K fd ps []:=by
 obtain⟨oc,od,kV,doc,pm,an,cdv,ct,osl,rfl,lk,hcd⟩:=F.ex
 exact .all (h kV doc pm an cdv ct)
theorem fun_mk{x qual:Str}{st:Stmt}{f:Addr}{oc:Value}{od an:Option Addr}{osl:Array (Option Value)}{kV doc pm cdv ct:Value}(l:K.lookup f=some ⟨oc,od,.func (W.fnOf x qual (defArgs st) (defBody st) (defScope st) .none kV doc pm an cdv ct),osl⟩)
 (c:W.codeIn K cdv qual=true)(k:W.keepIn K (.ref f)=true):Fun K x qual st f (W.fnOf x qual (defArgs st) (defBody st) (defScope st) .none kV doc pm an cdv ct):=⟨⟨oc,od,kV,doc,pm,an,cdv,ct,osl,rfl,l,c⟩,k⟩
end
section
variable{X:Cx}
end
theorem iteF{A B:Prop}(h:B):if false=true then A else B:=by
 rw [if_neg fnt]
 exact h
theorem iteT{A B:Prop}(h:A):if true=true then A else B:=by
 rw [if_pos rfl]
 exact h
def Same(H H':Hp):Prop:=∀b o,H b=some o→H' b=some o
theorem Same.refl(H:Hp):Same H H:=fun _ _ h=>h
theorem Same.trans{H H1 H2:Hp}(a:Same H H1)(b:Same H1 H2):Same H H2:=fun c o h=>b c o (a c o h)
theorem Same.free{H H':Hp}(e:Same H H'){l:Addr}(h:H' l=Option.none):H l=Option.none:=by
 cases q:H l with
 |none=>rfl
 |some o=>
  rw [e l o q]at h
  cases h
end L2
end
noncomputable section
namespace LX
open PySem
def NoCtx(h:Heap)(k:Addr):Prop:=∃o vs,h.get? k=some o∧o.data=.fields vs∧vs[2]?=some .none
def CtxAt(h:Heap)(vs:Array Value)(e T:Addr)(cx:Option Addr):Prop:=vs[2]?=some (cx.elim .none Value.ref)∧∀k,cx=some k→k≠e∧k≠T∧NoCtx h k
theorem CtxAt.at{h h':Heap}{vs vs':Array Value}{e T T':Addr}{cx:Option Addr}(x:CtxAt h vs e T cx)(hv:vs'[2]?=vs[2]?)(hk:∀k o us,h.get? k=some o→o.data=.fields us→k≠e→k≠T→h'.get? k=some o∧k≠T'):CtxAt h' vs' e T' cx:=by
 refine⟨hv.trans x.1,fun k z=> ?_⟩
 obtain⟨x2,x3,o,us,k1,k2,k3⟩:=x.2 k z
 obtain⟨z1,z2⟩:=hk k o us k1 k2 x2 x3
 exact⟨x2,z2,o,us,z1,k2,k3⟩
inductive Fly(h:Heap)(e T:Addr)(cls fl:Value)(cx:Option Addr):Prop where
 |mk (oe:Obj) (vs:Array Value) (oT:Obj) (ts:Array Value):h.get? e=some oe→oe.cls=cls→oe.dict=none→oe.data=.fields vs→vs[1]?=some (.ref T)→T≠e→h.get? T=some oT→oT.data=.fields ts→ts[3]?=some fl→CtxAt h vs e T cx→Fly h e T cls fl cx
inductive Made(h:Heap)(e:Addr)(cls:Value)(cx:Option Addr):Prop where
 |mk (oe:Obj) (vs:Array Value):h.get? e=some oe→oe.cls=cls→oe.dict=none→oe.data=.fields vs→vs[1]?=some .none→CtxAt h vs e e cx→Made h e cls cx
structure Mv(fs:List Addr)(e T:Addr)(h h':Heap):Prop where
 keep:∀b o,h.get? b=some o→b∉fs→b≠e→b≠T→h'.get? b=some o
 slot:∀b o,h.get? b=some o→b∈fs→b≠e→b≠T→∃sl,h'.get? b=some {o with slots:=sl}
 there:∀b o,h.get? b=some o→∃o',h'.get? b=some o'
theorem Mv.trans{fs:List Addr}{e T T':Addr}{h h1 h2:Heap}(a:Mv fs e T h h1)(b:Mv fs e T' h1 h2)(n:h.get? T'=none∨T'=T):Mv fs e T h h2 where
 keep:=fun c o q hf he ht=>b.keep c o (a.keep c o q hf he ht) hf he (fun z=>by
  rcases n with n|n
  ·rw [z,n]at q;cases q
  ·exact ht (z.trans n))
 slot:=fun c o q hf he ht=>by
  have hT:c≠T':=fun z=>by
   rcases n with n|n
   ·rw [z,n]at q;cases q
   ·exact ht (z.trans n)
  obtain⟨sl,q1⟩:=a.slot c o q hf he ht
  obtain⟨sl2,q2⟩:=b.slot c _ q1 hf he hT
  exact⟨sl2,q2⟩
 there:=fun c o q=>let ⟨_,q1⟩:=a.there c o q;b.there c _ q1
theorem dict_mapFields(f:Array Value→Array Value)(o:Obj):(Obj.mapFields f o).dict=o.dict:=by
 obtain⟨c,d,dt,sl⟩:=o
 cases dt<;>rfl
theorem upd_there{h:Heap}{a:Addr}{f:Array Value→Array Value}{oa:Obj}{vs:Array Value}(ha:h.get? a=some oa)(hd:oa.data=.fields vs):∀b o,h.get? b=some o→∃o',(h.update a (Obj.mapFields f)).get? b=some o':=fun b o q=>by
 by_cases z:b=a
 ·subst z
  exact⟨_,Heap.get?_update_self _ ha (Obj.isFreed_of_fields (Obj.data_mapFields hd f))⟩
 ·exact⟨o,by rw [Heap.get?_update_other _ _ (Ne.symm z)];exact q⟩
section
variable{M:Model}{A:Around}{E:Value→Shared→Prop}{s:Shared}{base:Heap}{env:Env}{outer:List Env}{L e T:Addr}{cls fl:Value}{cx:Option Addr}
theorem entry_ok{oe:Obj}{vs:Array Value}{head:Value}{hadNext:Bool}{Q:Unit→Shared→Prop}
 (hfr:A.frames=some (env::outer))(hl:s.heap.FunFrames base (env::outer))(hf:env.frame=some L)
 (he:s.heap.get? e=some oe)(hdc:oe.dict=none)(hd:oe.data=.fields vs)(hsz:1<vs.size)(hcx:CtxAt s.heap vs e e cx)
 (h:∀h' T',s.heap.get? T'=none→Fly h' e T' oe.cls (rawInt L) cx→Mv ((env::outer).filterMap (·.frame)) e e s.heap h'→Q () {s with heap:=h'}):
 wpAny M A (do let a←frameOf env;let pl←entryPlaceOf L hadNext;let b←EntryCells.newEntry head a .none (rawInt L) .none pl;setField (.ref e) 1 b) Q E s:=by
 have hene:e∉(env::outer).filterMap (·.frame):=fun hm=>by
  obtain⟨_,o,ho,hnf⟩:=hl.mem hm
  rw [he]at ho
  cases ho
  exact hnf vs hd
 refine wpAny_bind (wpAny_frameOf_fun hfr hl hf fun h1 s1=> ?_)
 refine wpAny_bind (wpAny_entryPlaceOf fun pl hpl=> ?_)
 unfold EntryCells.newEntry newFields
 refine wpAny_bind (wpAny_newObj_type ?_ (hpl.sizeOk5 _ _ _ _ _))
 have e1:h1.get? e=some oe:=(s1.2.1 e hene).trans he
 have e2:=Heap.get?_push_of_some (h:=h1) {cls:=.type "traceback",dict:=none,data:=.fields ([head,.ref L,.none,rawInt L,.none]++(if pl.isEmpty then List.replicate 6 Value.none else pl)).toArray} e1
 refine wpAny_setField e2 hd hsz (h _ h1.objs.size (Heap.get?_none_of_le (by rw [s1.1];exact Nat.le_refl _)) ?_ ?_)
 ·have d3:=Obj.data_mapFields hd (·.setIfInBounds 1 (Value.ref h1.objs.size))
  have ne:h1.objs.size≠e:=Nat.ne_of_gt (Heap.lt_size e1)
  have e3:=Heap.get?_update_self (Obj.mapFields (·.setIfInBounds 1 (Value.ref h1.objs.size))) e2 (Obj.isFreed_of_fields d3)
  refine⟨_,_,_,_,e3,Obj.cls_mapFields _ _,(dict_mapFields _ _).trans hdc,d3,by simp [hsz],ne,(Heap.get?_update_other _ _ (Ne.symm ne)).trans (Heap.get?_push_size h1 rfl),rfl,?_,?_⟩
  ·first
   |(simp;done)
   |(rcases hpl with rfl|⟨_,_,_,_,_,_,_,rfl⟩<;>simp)
  ·refine hcx.at (by rw [Array.getElem?_setIfInBounds_ne (by decide)]) fun k o us k1 k2 ke _=> ?_
   have kf:k∉(env::outer).filterMap (·.frame):=fun hm=>by
    obtain⟨_,o',ho',hnf⟩:=hl.mem hm
    rw [k1]at ho'
    cases ho'
    exact hnf us k2
   have k3:h1.get? k=some o:=(s1.2.1 k kf).trans k1
   exact⟨(Heap.get?_update_other _ _ (Ne.symm ke)).trans (Heap.get?_push_of_some _ k3),Nat.ne_of_lt (Heap.lt_size k3)⟩
 ·refine⟨fun b o q hb ne _=> ?_,fun b o q hb ne _=> ?_,fun b o q=> ?_⟩
  ·rw [Heap.get?_update_other _ _ (Ne.symm ne)]
   exact Heap.get?_push_of_some _ ((s1.2.1 b hb).trans q)
  ·obtain⟨sl,q1⟩:=s1.2.2 b o q
   exact⟨sl,by rw [Heap.get?_update_other _ _ (Ne.symm ne)];exact Heap.get?_push_of_some _ q1⟩
  ·obtain⟨sl,q1⟩:=s1.2.2 b o q
   exact upd_there e2 hd b _ (Heap.get?_push_of_some _ q1)
theorem note_new{Q:Unit→Shared→Prop}(hfr:A.frames=some (env::outer))(hl:s.heap.FunFrames base (env::outer))(hf:env.frame=some L)(x:Made s.heap e cls cx)
 (h:∀h' T',s.heap.get? T'=none→Fly h' e T' cls (rawInt L) cx→Mv ((env::outer).filterMap (·.frame)) e e s.heap h'→Q () {s with heap:=h'}):wpAny M A (noteFrame (.ref e) env) Q E s:=by
 obtain⟨oe,vs,he,rfl,hdc,hd,h1,hcx⟩:=x
 unfold noteFrame
 simp only [hf]
 refine wpAny_bind (wpAny_field he hd h1 ?_)
 rw [if_neg (by decide)]
 exact entry_ok hfr hl hf he hdc hd (Array.getElem?_eq_some_iff.mp h1).1 hcx h
theorem note_on{Q:Unit→Shared→Prop}(hfr:A.frames=some (env::outer))(hl:s.heap.FunFrames base (env::outer))(hf:env.frame=some L)(x:Fly s.heap e T cls .none cx)
 (h:∀h' T',s.heap.get? T'=none→Fly h' e T' cls (rawInt L) cx→Mv ((env::outer).filterMap (·.frame)) e T s.heap h'→Q () {s with heap:=h'}):wpAny M A (noteFrame (.ref e) env) Q E s:=by
 obtain⟨oe,vs,oT,ts,he,rfl,hdc,hd,h1,hTe,hT,hdT,h3,hcx⟩:=x
 unfold noteFrame
 simp only [hf]
 refine wpAny_bind (wpAny_field he hd h1 ?_)
 rw [if_pos (show(Value.ref T !=Value.none)=true by simp)]
 refine wpAny_bind (wpAny_field hT hdT h3 ?_)
 rw [if_neg (show¬((Value.none==rawInt L)=true) by simp [rawInt])]
 refine wpAny_bind (wpAny_setField hT hdT (Array.getElem?_eq_some_iff.mp h3).1 ?_)
 have ot:∀b,b≠T→(s.heap.update T (Obj.mapFields (·.setIfInBounds 3 Value.none))).get? b=s.heap.get? b:=fun b hb=>Heap.get?_update_other _ _ (Ne.symm hb)
 have nr:∀b o,s.heap.get? b=some o→(∀vs,o.data≠.fields vs)→b≠T:=fun b o hb hnf q=>by
  rw [q,hT]at hb;cases hb;exact hnf ts hdT
 have th:=upd_there (f:=(·.setIfInBounds 3 Value.none)) hT hdT
 have fsT:∀b∈(env::outer).filterMap (·.frame),b≠T:=fun b hb=>by
  obtain⟨_,o,ho,hnf⟩:=hl.mem hb
  exact nr b o ho hnf
 refine entry_ok (s:= {s with heap:=s.heap.update T (Obj.mapFields (·.setIfInBounds 3 Value.none))}) hfr (hl.of_keeps fun b o hb hnf=>⟨o,(ot b (nr b o hb hnf)).trans hb,rfl⟩) hf ((ot e (Ne.symm hTe)).trans he) hdc hd (Array.getElem?_eq_some_iff.mp h1).1 (hcx.at rfl fun k o us k1 k2 ke kT=>⟨(ot k kT).trans k1,ke⟩) fun h' T' n f m=> ?_
 have nT:s.heap.get? T'=none:=by
  cases q:s.heap.get? T' with
  |none=>rfl
  |some o=>obtain⟨o',q'⟩:=th T' o q;exact absurd (q'.symm.trans n) (by simp)
 refine h h' T' nT f ⟨fun b o q hb ne nt=>m.keep b o ((ot b nt).trans q) hb ne ne,fun b o q hb ne nt=>m.slot b o ((ot b nt).trans q) hb ne ne,fun b o q=> ?_⟩
 obtain⟨o',q'⟩:=th b o q
 exact m.there b o' q'
theorem land{Q:Unit→Shared→Prop}{fs:List Addr}(x:Fly s.heap e T cls fl cx)(h:∀h',Fly h' e T cls .none cx→Mv fs e T s.heap h'→Q () {s with heap:=h'}):wpAny M A (setFlight (.ref e) none) Q E s:=by
 obtain⟨oe,vs,oT,ts,he,rfl,hdc,hd,h1,hTe,hT,hdT,h3,hcx⟩:=x
 have sz:3<ts.size:=(Array.getElem?_eq_some_iff.mp h3).1
 unfold setFlight
 refine wpAny_bind (wpAny_field he hd h1 ?_)
 rw [if_pos (show(Value.ref T !=Value.none)=true by simp)]
 have dT:=Obj.data_mapFields hdT (·.setIfInBounds 3 ((none:Option Addr).elim Value.none fun f=>rawInt f))
 refine wpAny_setField hT hdT sz (h _ ⟨oe,vs,_,_,?_,rfl,hdc,hd,h1,hTe,Heap.get?_update_self _ hT (Obj.isFreed_of_fields dT),dT,by simp [sz],hcx.at rfl fun k o us k1 k2 ke kT=>⟨(Heap.get?_update_other _ _ (Ne.symm kT)).trans k1,kT⟩⟩ ⟨fun b o q _ _ nt=> ?_,fun b o q _ _ nt=>⟨o.slots,?_⟩,upd_there hT hdT⟩)
 ·rw [Heap.get?_update_other _ _ hTe];exact he
 ·rw [Heap.get?_update_other _ _ (Ne.symm nt)];exact q
 ·rw [Heap.get?_update_other _ _ (Ne.symm nt)];exact q
theorem leave_new{Q:Unit→Shared→Prop}(hfr:A.frames=some (env::outer))(hl:s.heap.FunFrames base (env::outer))(hf:env.frame=some L)(x:Made s.heap e cls cx)
 (h:∀h' T',s.heap.get? T'=none→Fly h' e T' cls .none cx→Mv ((env::outer).filterMap (·.frame)) e e s.heap h'→Q () {s with heap:=h'}):wpAny M A (leaving env (.ref e)) Q E s:=by
 unfold leaving
 refine wpAny_bind (note_new hfr hl hf x fun h1 T' n f m=>land (fs:=(env::outer).filterMap (·.frame)) (s:= {s with heap:=h1}) f fun h2 f2 m2=>h h2 T' n f2 (m.trans m2 (.inl n)))
theorem leave_on{Q:Unit→Shared→Prop}(hfr:A.frames=some (env::outer))(hl:s.heap.FunFrames base (env::outer))(hf:env.frame=some L)(x:Fly s.heap e T cls .none cx)
 (h:∀h' T',s.heap.get? T'=none→Fly h' e T' cls .none cx→Mv ((env::outer).filterMap (·.frame)) e T s.heap h'→Q () {s with heap:=h'}):wpAny M A (leaving env (.ref e)) Q E s:=by
 unfold leaving
 refine wpAny_bind (note_on hfr hl hf x fun h1 T' n f m=>land (fs:=(env::outer).filterMap (·.frame)) (s:= {s with heap:=h1}) f fun h2 f2 m2=>h h2 T' n f2 (m.trans m2 (.inl n)))
end
end LX
end
noncomputable section
namespace L2
open PySem PySem.Spec PyProof.Rows LX
inductive XEnd(P:Program)(w:World)(outer:List Env)(H:Hp)(s:Shared)(E:XK)(e:Value)(s':Shared):Prop where
 |mk (a T:Addr) (cls:Value) (H':Hp) (cx:Option Addr):e=.ref a→s.heap.get? a=none→s.heap.get? T=none→H' a=none→H' T=none→Fly s'.heap a T cls .none cx→(∀k,cx=some k→s.heap.get? k=none∧H' k=none)→s'.os=s.os→AllBare s'.gens→Un (frs outer) [] H H' s.heap s'.heap→HOk P w H' s'.heap→E cls none H'→XEnd P w outer H s E e s'
noncomputable def CXE(P:Program)(w:World):CXT:=XEnd P w
section
variable{P:Program}{w:World}{fs fs':List Addr}{H H₀ H':Hp}{h h₀ h':Heap}{e T a:Addr}{o:HO}
theorem hok_mv(x:HOk P w H h)(m:Mv fs e T h h')(hf:∀b∈fs,H b=none)(he:H e=none)(hT:H T=none):HOk P w H h':=fun a o q=>
 (x a o q).stay (fun b u hb z=>by
   have hn:H b≠none:=by
    rcases hb with rfl|hb
    ·rw [q];simp
    ·rw [hb];simp
   exact m.keep b u z (fun k=>hn (hf b k)) (fun k=>hn (k▸he)) (fun k=>hn (k▸hT))) (fun _ q=>q) fun _ _ q=>q
theorem un_mv(u:Un fs [] H₀ H h₀ h)(m:Mv fs' e T h h')(sub:∀b∈fs,b∈fs')(only:∀b∈fs',∀o,h₀.get? b=some o→b∈fs)(he:h₀.get? e=none)(hT:h₀.get? T=none):Un fs [] H₀ H h₀ h':=by
 have ne:∀b o,h₀.get? b=some o→b≠e∧b≠T:=fun b o q=>⟨fun z=>(by rw [z,he]at q;cases q),fun z=>(by rw [z,hT]at q;cases q)⟩
 refine⟨fun b o q n hb hx=>m.keep b o (u.keep b o q n hb hx) (fun z=>hb (only b z o q)) (ne b o q).1 (ne b o q).2,fun b o q n hb hx=> ?_,u.free,fun b o q hx=> ?_,u.tups,u.frzs,u.tbls⟩
 ·obtain⟨sl,q1⟩:=u.slot b o q n hb hx
  obtain⟨sl2,q2⟩:=m.slot b _ q1 (sub b hb) (ne b o q).1 (ne b o q).2
  exact⟨sl2,q2⟩
 ·obtain⟨o',q1⟩:=u.there b o q hx
  exact m.there b o' q1
theorem ObjOk.there(x:ObjOk P w H h a o):∃u,h.get? a=some u:=by
 cases o with
 |lst xs=>obtain⟨_,_,_,_,e⟩:=x;exact⟨_,e⟩
 |tup xs=>obtain⟨_,_,_,ob,e,_⟩:=x;exact⟨_,e⟩
 |dK kvs=>obtain⟨_,_,_,_,o,_,_,e,_⟩:=x;exact⟨_,e⟩
 |dT kvs=>obtain⟨_,_,_,_,o,_,_,e,_⟩:=x;exact⟨_,e⟩
 |set S n=>obtain⟨o,_,_,_,e,_⟩:=x;exact⟨_,e⟩
 |ins C dx fs=>obtain⟨_,_,_,e,_⟩:=x;exact⟨_,e⟩
 |own y=>exact x
 |xd fs=>obtain⟨_,⟨od,_,_,e,_⟩,_⟩:=x;exact⟨_,e⟩
 |rng lo hi=>obtain⟨_,_,_,e⟩:=x;exact⟨_,e⟩
 |frz ob u=>exact⟨_,x.1⟩
 |tbl ps=>exact⟨_,x⟩
 |met f y=>exact⟨_,x⟩
 |ext φ=>exact x.2.1
theorem HOk.none(x:HOk P w H h)(n:h.get? a=none):H a=none:=by
 cases q:H a with
 |none=>rfl
 |some o=>obtain⟨u,z⟩:=(x a o q).there;rw [n]at z;cases z
end
structure XOut(X:Cx)(E:XK):Prop where
 ex:X.ex=[]
 stk:X.stack=X.env::X.outer
 fr:X.env.frame=some X.env.locals
 xe:∀e s',wpAny (model X.prog X.w) X.A (leaving X.env e) (fun _ s''=>CXE X.prog X.w X.outer X.H₀ X.s₀ E e s'') (fun e' s''=>CXE X.prog X.w X.outer X.H₀ X.s₀ E e' s'') s'→X.xe e s'
theorem XOut.of{P:Program}{w:World}{K:W.Frag}{mg:Str→Option Value}{base:Heap}{N:List Str}{qual:Str}{scope:Scope}{f:Addr}{cd:Value}{A:Around}{outer:List Env}{s:Shared}{H:Hp}{E:XK}:
 XOut (cxOf (CXE P w) P w K mg base N qual scope f cd A outer s H E) E:=⟨rfl,rfl,rfl,fun _ _ h=>h⟩
section
variable{X:Cx}{E:XK}{pins:List (Addr×Obj)}{σ:St}{H H':Hp}{s s':Shared}{e T:Addr}{cls:Value}
theorem Inv.s0none(I:Inv X pins σ H s)(x:X.ex=[]){b:Addr}(n:s.heap.get? b=none):X.s₀.heap.get? b=none:=by
 cases q:X.s₀.heap.get? b with
 |none=>rfl
 |some o=>obtain⟨o',z⟩:=I.base.there b o q (by rw [x];simp);rw [n]at z;cases z
theorem leave_end(O:XOut X E)(J:Inv X pins σ H s){h':Heap}{e T T':Addr}(m:Mv (frs X.stack) e T s.heap h'){cx:Option Addr}(f:Fly h' e T' cls .none cx)(hcx:∀k,cx=some k→X.s₀.heap.get? k=none∧H k=none)(e0:X.s₀.heap.get? e=none)(t0:X.s₀.heap.get? T=none)(t1:X.s₀.heap.get? T'=none)
 (he:H e=none)(hT:H T=none)(hT':H T'=none)(hE:E cls none H):CXE X.prog X.w X.outer X.H₀ X.s₀ E (.ref e) {s with heap:=h'}:=by
 have u:Un X.fs [] X.H₀ H X.s₀.heap s.heap:=by have:=J.base;rw [O.ex]at this;exact this
 refine⟨e,T',cls,H,cx,rfl,e0,t1,he,hT',f,hcx,J.os,J.bare,un_mv u m (fun b hb=> ?_) (fun b hb o q=> ?_) e0 t0,hok_mv J.hok m J.stkFree he hT,hE⟩
 ·rw [O.stk]
  unfold frs
  rw [List.filterMap_cons,O.fr]
  exact List.mem_cons_of_mem _ hb
 ·rcases List.mem_cons.mp (J.stkSub b hb)with z|z
  ·exact absurd (Nat.lt_of_lt_of_le (Heap.lt_size q) J.ok.above) (by rw [z];exact Nat.lt_irrefl _)
  ·exact z
theorem leave_made(O:XOut X E)(I:Inv X pins σ H s){h':Heap}(k:∀b o,s.heap.get? b=some o→h'.get? b=some o)(n:s.heap.get? e=none){cx:Option Addr}(x:Made h' e cls cx)(hcx:∀k,cx=some k→X.s₀.heap.get? k=none∧H k=none)(hE:E cls none H):X.xe (.ref e) {s with heap:=h'}:=by
 have J:Inv X pins σ H {s with heap:=h'}:=I.kept (t':=s.toks) k
 refine O.xe _ _ (leave_new (base:=X.base) (L:=X.env.locals) (outer:=X.outer) (by rw [J.ok.frames,O.stk]) (by have:=J.stack;rw [O.stk]at this;exact this) O.fr x fun h2 T' nT f m=> ?_)
 have m':Mv (frs X.stack) e e h' h2:=by rw [O.stk];exact m
 exact leave_end O J m' f hcx (I.s0none O.ex n) (I.s0none O.ex n) (J.s0none O.ex nT) (I.hok.none n) (I.hok.none n) (J.hok.none nT) hE
theorem passes(O:XOut X E):Passes (CXE X.prog X.w) X E:=fun pins σ H s e s' I h=>by
 obtain⟨a,T,cls,H',cx,rfl,na,nT,ha,hT,fl,hcx,os,bare,un,hok,hE⟩:=h
 have J:Inv X pins σ H' s':=I.call' os un hok bare (ch:=[]) (fun b z=>absurd z (by simp))
 refine O.xe _ _ (leave_on (base:=X.base) (L:=X.env.locals) (outer:=X.outer) (by rw [J.ok.frames,O.stk]) (by have:=J.stack;rw [O.stk]at this;exact this) O.fr fl fun h2 T' nT' f m=> ?_)
 have m':Mv (frs X.stack) a T s'.heap h2:=by rw [O.stk];exact m
 exact leave_end O J m' f (fun k z=>⟨I.s0none O.ex (hcx k z).1,(hcx k z).2⟩) (I.s0none O.ex na) (I.s0none O.ex nT) (J.s0none O.ex nT') ha hT (J.hok.none nT') hE
end
section
variable{X:Cx}{E:XK}{x:Str}{C:Addr}{bm:List Value}{newId B initId:String}{e₀:Expr}{rest:List Expr}{t:TA}{np cpos pos:Pos}
theorem ps_raise(O:XOut X E)(hc:X.calm=true)(G:OwnCls x C bm newId X.mg X.base)(FB:ExcBaseFacts B newId initId bm)(hg:Gl X x)(ha:PA X (e₀::rest) t)
 (he:starEach (e₀::rest) X.env=(false,eval e₀ X.env)::starEach rest X.env:=by rfl)(hpl:(backTo cpos (starEach rest X.env)).any (·.1)=false:=by rfl)(hdb:(x==("__debug__":Str))=false:=by decide):
 PS X (.Raise (some (.Call (.Name x np) (e₀::rest) [] cpos)) none pos) (fun _ σ H=>t σ H fun vs H1=>vs.length≤sizeLine∧E (.ref C) none H1):=by
 intro pins s σ H D I h
 obtain⟨tl,N,nm,q,bs,hdct,sn,sub,ab,col,dd,k0,k1,k2,k3,k5,mN,hC,hN,hni,T⟩:=G.obj
 refine wpAny_Raise_call_subT (C:=C) (nm:=nm) (q:=q) (N:=N) (bs:=bs) (bm:=tl) (hdct:=hdct) (sn:=sn) (sub:=sub) (ab:=ab) (col:=col) (dd:=dd) (k0:=k0) (k1:=k1) (k2:=k2) (k3:=k3) (k5:=k5)
  FB (mN:=mN) (T.hasType FB.hasBase) (I.ok.hd hc) (by rw [he];show(false||(backTo cpos (starEach rest X.env)).any (·.1))=false;rw [hpl];rfl) hni (ld_glob I hg G.bound ⟨rfl,?_⟩ hdb)
 have h':=ha cpos pins s σ H _ I h
 rw [he]at h'⊢
 refine Calls.evalArgs_plain (wpAny_mono h' (fun us s2 ⟨vs,H2,I2,r,z,q⟩=>⟨rfl,by rw [←r.length];exact z,I2.bk _ _ hC,hN.keeps I2.bk,T.keeps I2.bk,fun h' e m=> ?_⟩) fun _ _ y=>y)
 obtain⟨t0,ht,_⟩:=m.there
 exact leave_made O I2 m.keeps m.new (cx:=none) ⟨_,_,ht,rfl,rfl,rfl,rfl,rfl,fun k z=>nomatch z⟩ (fun k z=>nomatch z) q
end
section
variable{X:Cx}{pins:List (Addr×Obj)}{σ:St}{H:Hp}{s:Shared}{e T:Addr}{h':Heap}
theorem Inv.moved(J:Inv X pins σ H s)(x:X.ex=[]){fs:List Addr}(hfs:∀b∈fs,b∈frs X.stack)(m:Mv fs e T s.heap h')(e0:X.s₀.heap.get? e=none)(t0:X.s₀.heap.get? T=none)(he:H e=none)(hT:H T=none)
 (fe:∃o vs,s.heap.get? e=some o∧o.data=.fields vs)(fT:∃o vs,s.heap.get? T=some o∧o.data=.fields vs)(pe:∀p∈X.pn++pins,p.1≠e∧p.1≠T):Inv X pins σ H {s with heap:=h'}:=by
 have nf:∀b o,s.heap.get? b=some o→(∀vs,o.data≠.fields vs)→b≠e∧b≠T:=fun b o q hn=>by
  obtain⟨oe,ve,q1,d1⟩:=fe
  obtain⟨oT,vT,q2,d2⟩:=fT
  refine⟨fun z=> ?_,fun z=> ?_⟩
  ·rw [z,q1]at q;cases q;exact hn _ d1
  ·rw [z,q2]at q;cases q;exact hn _ d2
 have go:∀b o,s.heap.get? b=some o→(∀vs,o.data≠.fields vs)→∃sl,h'.get? b=some {o with slots:=sl}:=fun b o q hn=>by
  obtain⟨n1,n2⟩:=nf b o q hn
  by_cases hb:b∈fs
  ·exact m.slot b o q hb n1 n2
  ·exact⟨o.slots,m.keep b o q hb n1 n2⟩
 have cellK:∀c v,s.heap.IsCell c v→h'.IsCell c v:=fun c v ⟨o,ho,hd⟩=>by
  obtain⟨sl,q⟩:=go c o ho (fun vs z=>by rw [hd]at z;cases z)
  exact⟨_,q,hd⟩
 have un:Un X.fs X.ex X.H₀ H X.s₀.heap h':=by
  have u:=J.base
  rw [x]at u⊢
  have ne:∀b o,X.s₀.heap.get? b=some o→b≠e∧b≠T:=fun b o q=>⟨fun z=>(by rw [z,e0]at q;cases q),fun z=>(by rw [z,t0]at q;cases q)⟩
  have only:∀b∈fs,∀o,X.s₀.heap.get? b=some o→b∈X.fs:=fun b hb o q=>by
   rcases List.mem_cons.mp (J.stkSub b (hfs b hb))with z|z
   ·exact absurd (Nat.lt_of_lt_of_le (Heap.lt_size q) J.ok.above) (by rw [z];exact Nat.lt_irrefl _)
   ·exact z
  refine⟨fun b o q n hb hx=>m.keep b o (u.keep b o q n hb hx) (fun z=>hb (only b z o q)) (ne b o q).1 (ne b o q).2,fun b o q n hb hx=> ?_,u.free,fun b o q hx=> ?_,u.tups,u.frzs,u.tbls⟩
  ·obtain⟨sl,q1⟩:=u.slot b o q n hb hx
   by_cases hb2:b∈fs
   ·obtain⟨sl2,q2⟩:=m.slot b _ q1 hb2 (ne b o q).1 (ne b o q).2
    exact⟨sl2,q2⟩
   ·exact⟨sl,m.keep b _ q1 hb2 (ne b o q).1 (ne b o q).2⟩
  ·obtain⟨o',q1⟩:=u.there b o q hx
   exact m.there b o' q1
 refine⟨J.ok,J.os,J.bare,un,?_,fun y c q=> ?_,J.free,J.freeC,fun p hp=> ?_,hok_mv J.hok m (fun b hb=>J.stkFree b (hfs b hb)) he hT,J.len⟩
 ·obtain⟨mm,⟨o,es,ep,ho,hd,r⟩,hl⟩:=J.loc
  obtain⟨sl,q⟩:=go _ o ho (fun vs z=>by rw [hd]at z;cases z)
  refine⟨mm,⟨_,es,ep,q,hd,r⟩,fun i y v h1 h2 h3=> ?_⟩
  obtain⟨u,rv,l⟩:=hl i y v h1 h2 h3
  refine⟨u,rv,?_⟩
  rcases l with l|⟨k,c,e1,z⟩
  ·exact .inl l
  ·exact .inr ⟨k,c,e1,cellK c _ z⟩
 ·obtain⟨v,z⟩:=J.cell y c q
  exact⟨v,cellK c v z⟩
 ·obtain⟨q,n,ne,nfs,d⟩:=J.pin p hp
  refine⟨m.keep p.1 p.2 q (fun z=> ?_) (pe p hp).1 (pe p hp).2,n,ne,nfs,d⟩
  rcases List.mem_cons.mp (J.stkSub _ (hfs _ z))with z|z
  ·exact ne z
  ·exact nfs z
theorem Inv.trackX(J:Inv X pins σ H s)(x:X.ex=[]){φ:Heap→Prop}(e0:X.s₀.heap.get? e=none)(he:H e=none)(fe:∃o vs,s.heap.get? e=some o∧o.data=.fields vs)(pe:∀p∈X.pn++pins,p.1≠e)
 (hφ:φ s.heap)(st:∀h1 h2:Heap,φ h1→(∀o,h1.get? e=some o→h2.get? e=some o)→φ h2):Inv X pins σ (upd H e (.ext φ)) s:=by
 obtain⟨oe,ve,q1,d1⟩:=fe
 have nf:∀b o,s.heap.get? b=some o→(∀vs,o.data≠.fields vs)→b≠e:=fun b o q hn z=>by
  rw [z,q1]at q;cases q;exact hn _ d1
 have ne0:∀b o,X.s₀.heap.get? b=some o→b≠e:=fun b o q z=>by rw [z,e0]at q;cases q
 have nH:∀ {b o},H b=some o→b≠e:=fun q z=>by rw [z,he]at q;cases q
 have u:=J.base
 refine⟨J.ok,J.os,J.bare,⟨u.keep,u.slot,fun b o q n hx=> ?_,u.there,fun b xs q=> ?_,fun b o v q=> ?_,fun b ps q=> ?_⟩,J.loc,J.cell,?_,fun y c q=> ?_,fun p hp=> ?_,fun a o q=> ?_,J.len⟩
 ·rw [upd_ne (ne0 b o q)];exact u.free b o q n hx
 ·have:=u.tups b xs q;rw [upd_ne (nH this)];exact this
 ·have:=u.frzs b o v q;rw [upd_ne (nH this)];exact this
 ·obtain⟨more,z⟩:=u.tbls b ps q;exact⟨more,by rw [upd_ne (nH z)];exact z⟩
 ·obtain⟨mm,⟨o,es,ep,ho,hd,r⟩,hl⟩:=J.loc
  rw [upd_ne (nf _ o ho (fun vs z=>by rw [hd]at z;cases z))];exact J.free
 ·obtain⟨v,o,ho,hd⟩:=J.cell y c q
  rw [upd_ne (nf _ o ho (fun vs z=>by rw [hd]at z;cases z))];exact J.freeC y c q
 ·obtain⟨q,n,ne,nfs,d⟩:=J.pin p hp
  exact⟨q,by rw [upd_ne (pe p hp)];exact n,ne,nfs,d⟩
 ·by_cases z:a=e
  ·subst z
   rw [upd_same]at q
   cases q
   exact⟨hφ,⟨_,q1⟩,st⟩
  ·rw [upd_ne z]at q
   exact(J.hok a o q).stay (fun b u _ k=>k) (fun b k=>by rw [upd_ne (nH k)];exact k) (fun b xs k=>by rw [upd_ne (nH k)];exact k)
end
noncomputable def Xh(X:Cx)(e:Addr):Cx:= {X with A:=X.A.mark (some (.ref e)),calm:=false,xe:=fun _ _=>False}
def excAt(e:Addr)(cls:Value)(h:Heap):Prop:=∃o vs,h.get? e=some o∧o.cls=cls∧o.dict=none∧o.data=.fields vs
section
variable{X:Cx}{pins:List (Addr×Obj)}{σ:St}{H:Hp}{s:Shared}{e T:Addr}{cls fl:Value}{cx:Option Addr}
theorem Inv.inH(J:Inv X pins σ H s):Inv (Xh X e) pins σ H s:=
 ⟨⟨J.ok.mod,J.ok.kind,J.ok.glob,J.ok.blt,J.ok.above,J.ok.inj,J.ok.has,J.ok.cab,(fun z=>by cases z),J.ok.frames,J.ok.stk,J.ok.exf,J.ok.bs,J.ok.bsz,J.ok.noex,J.ok.exfs,J.ok.funs,J.ok.frf⟩,J.os,J.bare,J.base,J.loc,J.cell,J.free,J.freeC,J.pin,J.hok,J.len⟩
theorem Inv.forget{h':Heap}{t':Nat}{m':Str→Option Value}{σ':St}(ok:X.Ok)(J:Inv (Xh X e) pins σ H s)(hn:h'.Ns X.env.locals m')(k:Heap.SameBut X.env.locals s.heap h')(hl:σ'.length=σ.length)(hσ:∀(i:Nat) (v:V),σ'[i]?≠some (some v)):
 Inv X pins σ' H {s with heap:=h',toks:=t'}:=by
 have u:Un X.fs X.ex X.H₀ H X.s₀.heap s.heap:=J.base
 have neL:∀b o,X.s₀.heap.get? b=some o→b≠X.env.locals:=fun b o q=>Nat.ne_of_lt (Nat.lt_of_lt_of_le (Heap.lt_size q) ok.above)
 refine⟨ok,J.os,J.bare,⟨fun b o q n hb hx=> ?_,fun b o q n hb hx=> ?_,u.free,fun b o q hx=> ?_,u.tups,u.frzs,u.tbls⟩,⟨m',hn,fun i x v _ z _=>absurd z (hσ i v)⟩,fun x c q=> ?_,J.free,J.freeC,fun p hp=> ?_,fun a o q=> ?_,by rw [hl];exact J.len⟩
 ·exact(k.2 b (neL b o q)).trans (u.keep b o q n hb hx)
 ·obtain⟨sl,z⟩:=u.slot b o q n hb hx
  exact⟨sl,(k.2 b (neL b o q)).trans z⟩
 ·obtain⟨o',z⟩:=u.there b o q hx
  exact⟨o',(k.2 b (neL b o q)).trans z⟩
 ·obtain⟨v,o,ho,hd⟩:=J.cell x c q
  exact⟨v,o,(k.2 c (J.cne x c q)).trans ho,hd⟩
 ·obtain⟨q,n,ne,nfs,d⟩:=J.pin p hp
  exact⟨(k.2 _ ne).trans q,n,ne,nfs,d⟩
 ·refine(J.hok a o q).stay (fun b v hb z=>(k.2 b (fun w=> ?_)).trans z) (fun _ z=>z) fun _ _ z=>z
  have hL:H b=none:=by rw [w];exact J.free
  rcases hb with hb|hb
  ·rw [hb,q]at hL;cases hL
  ·rw [hb]at hL;cases hL
theorem _root_.LX.Fly.fe{h:Heap}(x:Fly h e T cls fl cx):(∃o vs,h.get? e=some o∧o.data=.fields vs)∧(∃o vs,h.get? T=some o∧o.data=.fields vs)∧excAt e cls h:=by
 obtain⟨oe,vs,oT,ts,he,hc,hdc,hd,h1,hTe,hT,hdT,h3,_⟩:=x
 exact⟨⟨oe,vs,he,hd⟩,⟨oT,ts,hT,hdT⟩,oe,vs,he,hc,hdc,hd⟩
end
end L2
end
noncomputable section
namespace L2
open PySem PySem.Spec PySem.W PyProof.Rows LX
structure XCls(K:W.Frag)(D:Addr):Prop where
 ga:findIn K (.ref D) "__getattribute__"=some (some (.builtin "BaseException.__getattribute__"))
 gn:findIn K (.ref D) "__getattr__"=some none
 sb:subIn K (.ref D) (.type "BaseException")=some true
 hdct:hasDictIn K D=true
 ha:findIn K (.ref D) "__class__"=some (some (.builtin "object.__class__"))
 hn:specialIn K (.builtin "object.__class__") "__get__"=some (some (.builtin "getset_descriptor.__get__"))
 htk:takesIn K (.builtin "object.__class__")=some true
 hm:mroIn K D (.type "object")=some true
theorem excAt.inst{h:Heap}{e D:Addr}(x:excAt e (.ref D) h):∃ox,InstAt h e ox D none:=by
 obtain⟨o,vs,h1,h2,h3,h4⟩:=x
 refine⟨o,h1,h2,?_,?_⟩
 ·obtain⟨c,d,dt,sl⟩:=o
  cases h4
  rfl
 ·rw [h3]
  trivial
theorem XCls.obj{K:W.Frag}{D:Addr}(c:XCls K D):∃c1 d1 cd sl,K.lookup D=some ⟨c1,d1,.cls cd,sl⟩∧clsIn K D=some cd:=by
 obtain⟨cd,h,_⟩:=any_some c.hdct
 have h':=h
 unfold clsIn at h'
 split at h'
 ·rename_i a1 a2 a3 a4 e
  cases h'
  exact⟨a1,a2,cd,a4,e,h⟩
 ·cases h'
section
variable{prog:Program}{w:World}{A:Around}{E:Value→Shared→Prop}{s:Shared}{K:W.Frag}{x D:Addr}{ox:Obj}{tk:Tok}
theorem XCls.find(c:XCls K D):findObj K D none "__class__"=some (.bind (.builtin "getset_descriptor.__get__") (.builtin "object.__class__")):=by
 obtain⟨c1,d1,cd,sl1,e,ec⟩:=c.obj
 unfold findObj
 rw [ec,obs,c.ha,obs]
 simp [c.hn,c.htk]
theorem ga_class{Q:Fin→Shared→Prop}(X:K.In s.heap)(I:InstAt s.heap x ox D none)(c:XCls K D)(h:Q (.done (.ret (.ref D))) s):wpAny (model prog w) A (Builtin.«object.__getattribute__» ⟨[.ref x,.str "__class__" tk],[]⟩) Q E s:=by
 obtain⟨hh,g,d,t,os⟩:=s
 have L0:=I.type (M:=model prog w)
 have L1:=looks_find (M:=model prog w) X I c.find
 unfold Builtin.«object.__getattribute__»
 refine wpAny_bind (wpAny_pure (wpAny_bind (wpAny_pure (wpAny_bind (L0.at (wpAny_bind (L1.at ?_)))))))
 show wpAny _ _ (Builtin.ObjectAttr.bindTo _ _ _ _) _ _ _
 show wpAny _ _ (holding [.builtin "object.__class__"] (call (.builtin "getset_descriptor.__get__") [.builtin "object.__class__",.ref x,.ref D])>>=ret) _ _ _
 refine wpAny_bind (wpAny_holding (wpAny_call (class_get (s:=⟨hh,g,d,t,os⟩) (ox:=ox) (od:=none) X I c.hm ?_)))
 exact wpAny_pure h
theorem check_class{M:Model}{nv:Value}{Q:Unit→Shared→Prop}(X:K.In s.heap)(I:InstAt s.heap x ox D none)(c:XCls K D)(h:Q () s):wpAny M A (checkBuiltinCall "BaseException.__getattribute__" ⟨[.ref x,nv],[]⟩) Q E s:=by
 obtain⟨hh,g,d,t,os⟩:=s
 have L0:=I.type (M:=M)
 have L1:=looks_subIn (M:=M) X c.sb
 have ha:=F.args_bexc_ga (.ref x) nv
 have hk:builtinKind "BaseException.__getattribute__"=some .slot:=by decide+kernel
 have hs:splitId "BaseException.__getattribute__"=some ("BaseException","__getattribute__"):=by decide+kernel
 simp only [checkBuiltinCall,hk,hs]
 refine wpAny_bind ((L0.andThen L1).at ?_)
 rw [if_neg (by decide)]
 exact wpAny_of_eq ha h
theorem class_of_exc{Q:Option Value→Shared→Prop}(X:K.In s.heap)(I:InstAt s.heap x ox D none)(c:XCls K D)(h:Q (some (.ref D)) {s with toks:=s.toks+1}):wpAny (model prog w) A (getAttr? (.ref x) "__class__") Q E s:=by
 obtain⟨hh,g,d,t,os⟩:=s
 have L0:=I.type (M:=model prog w)
 have L1:=looks_findIn (M:=model prog w) X c.ga
 have L2:=looks_findIn (M:=model prog w) X c.gn
 unfold getAttr? getAttrBy? getAttrBy
 refine wpAny_bind (wpAny_mkText (wpAny_bind (wpAny_attempt (wpAny_holding (wpAny_bind (L0.at (wpAny_bind (L1.at ?_))))))))
 have hx:(Value.builtin "BaseException.__getattribute__"==Value.builtin "object.__getattribute__")=false:=by decide+kernel
 dsimp only
 rw [if_neg (by rw [hx,Bool.and_false];decide)]
 unfold getAttrByItsOwn hookBefore
 refine wpAny_bind ?_
 rw [if_pos (show onTheHeap (Value.ref D)=true from rfl)]
 refine L2.at ?_
 refine wpAny_bind (wpAny_attempt (wpAny_holding ?_))
 unfold callGetattribute boundAndCalled
 rw [if_neg (show¬((false&&onTheHeap (Value.builtin "BaseException.__getattribute__"))=true) by decide),F.attrBase_ValueError.ga.bind (.ref x)]
 refine wpAny_bind (wpAny_pure ?_)
 refine wpAny_call (codeAny_call_builtin F.attrBase_ValueError.ga.plain F.entry_bexc_ga (check_class (s:=⟨hh,g,d,t+1,os⟩) X I c (ga_class (s:=⟨hh,g,d,t+1,os⟩) X I c ?_)))
 exact handed_on rfl (wpAny_pure h)
end
theorem kitx_exc{K:W.Frag}{x D:Addr}{ox:Obj}(c:XCls K D):KitX K (.ref x) (.ref D) (fun h=>InstAt h x ox D none):=by
 obtain⟨c1,d1,cd,sl1,e,ec⟩:=c.obj
 refine⟨fun _ _ _ I=>I.type,fun M h X _ A Q E s k q=> ?_,fun h tp dd its n sl X htp=> ?_,fun {prog w A E Q s} X I h=>class_of_exc X I c h⟩
 ·have e1:s.heap.get? D=some ⟨c1,d1,.cls cd,sl1⟩:=k _ _ (X _ _ e)
  unfold isType loadHead
  refine wpAny_bind (wpAny_loadPart e1 ?_)
  exact wpAny_pure q
 ·rw [beq_eq_false_iff_ne]
  intro z
  have e1:=X _ _ e
  rw [Value.ref.inj z,htp]at e1
  cases e1
section
variable{X:Cx}{pins:List (Addr×Obj)}{σ:L2.St}{H:Hp}{s:Shared}{A:Around}{E:Value→Shared→Prop}{Q:Value→Shared→Prop}{c:Value}{b:Bool}
end
end L2
end
noncomputable section
namespace L2
open PySem
noncomputable def closL(env:Env):List (Str×NameKind)→List (Str×Addr)→List (Str×Addr)
 |[],acc=>acc
 |(n,k)::r,acc=>closL env r (if k==.free then(n,(env.cells.lookup n).getD 0)::acc else acc)
theorem closureFor_some{scope:Scope}{env:Env}(h:∀n,(n,NameKind.free)∈scope.names→∃c,env.cells.lookup n=some c):closureFor scope env=pure (closL env scope.names []):=by
 have go:∀(names:List (Str×NameKind)) (acc:List (Str×Addr)),(∀n,(n,NameKind.free)∈names→∃c,env.cells.lookup n=some c)→
  (forIn names acc fun(x:Str×NameKind) (cs:List (Str×Addr))=>(match x with
    |(name,kind)=>if(kind==NameKind.free)=true then do
       let c←cellOf env name
       pure (ForInStep.yield ((name,c)::cs))
     else pure (ForInStep.yield cs):Sem (ForInStep (List (Str×Addr)))))=pure (closL env names acc):=by
  intro names
  induction names with
  |nil=>intro acc _;rfl
  |cons x r ih=>
   intro acc hx
   obtain⟨n,k⟩:=x
   rw [List.forIn_cons]
   cases hk:k==NameKind.free with
   |true=>
    have hk':k=.free:=by simpa using hk
    subst hk'
    obtain⟨c,hc⟩:=hx n List.mem_cons_self
    have e:cellOf env n=pure c:=by unfold cellOf;rw [hc]
    simp only [hk,if_true,e]
    have e2:closL env ((n,NameKind.free)::r) acc=closL env r ((n,c)::acc):=by
     show closL env r (if(NameKind.free==NameKind.free)=true then(n,(env.cells.lookup n).getD 0)::acc else acc)=_
     rw [if_pos (by decide),hc];rfl
    rw [e2,←ih ((n,c)::acc) fun m hm=>hx m (List.mem_cons_of_mem _ hm)]
    rfl
   |false=>
    simp only [hk,Bool.false_eq_true,if_false]
    have e2:closL env ((n,k)::r) acc=closL env r acc:=by
     show closL env r (if(k==NameKind.free)=true then(n,(env.cells.lookup n).getD 0)::acc else acc)=_
     rw [hk];rfl
    rw [e2,←ih acc fun m hm=>hx m (List.mem_cons_of_mem _ hm)]
    rfl
 unfold closureFor
 have e:=go scope.names [] h
 show(forIn scope.names [] _>>=fun cs=>pure cs)=_
 rw [e]
 rfl
theorem closL_lookup{env:Env}{y:Str}:∀(names:List (Str×NameKind)) (acc:List (Str×Addr)),
 (closL env names acc).lookup y=if(y,NameKind.free)∈names then some ((env.cells.lookup y).getD 0)else acc.lookup y:=by
 intro names
 induction names with
 |nil=>intro acc;simp [closL]
 |cons x r ih=>
  intro acc
  obtain⟨n,k⟩:=x
  show(closL env r (if(k==NameKind.free)=true then(n,(env.cells.lookup n).getD 0)::acc else acc)).lookup y=_
  rw [ih]
  by_cases h1:(y,NameKind.free)∈r
  ·rw [if_pos h1,if_pos (List.mem_cons_of_mem _ h1)]
  ·rw [if_neg h1]
   by_cases hk:k=.free
   ·subst hk
    rw [if_pos (by decide)]
    by_cases hy:y=n
    ·subst hy
     rw [if_pos List.mem_cons_self]
     simp [List.lookup_cons]
    ·have:(y==n)=false:=by simpa using hy
     rw [List.lookup_cons,this]
     rw [if_neg]
     intro z
     rcases List.mem_cons.mp z with e|e
     ·cases e;exact hy rfl
     ·exact h1 e
   ·have hk':(k==NameKind.free)=false:=by simpa using hk
    rw [hk']
    rw [if_neg (by decide),if_neg]
    intro z
    rcases List.mem_cons.mp z with e|e
    ·cases e;exact hk rfl
    ·exact h1 e
noncomputable def relab(env:Env)(names:List (Str×NameKind)):List (Str×NameKind):=names.map fun(n,k)=>if(k==NameKind.free&&env.scope.kind==.function&&env.kindOf n==some .cell)then(n,NameKind.cell)else(n,k)
theorem relab_free{env:Env}:∀ {names:List (Str×NameKind)} {y:Str},names.lookup y=some .free→(relab env names).lookup y=some .cell∨(relab env names).lookup y=some .free
 |[],_,h=>by simp at h
 |(n,k)::r,y,h=>by
  show List.lookup y ((if(k==NameKind.free&&env.scope.kind==.function&&env.kindOf n==some .cell)=true then(n,NameKind.cell)else(n,k))::relab env r)=_∨List.lookup y ((if(k==NameKind.free&&env.scope.kind==.function&&env.kindOf n==some .cell)=true then(n,NameKind.cell)else(n,k))::relab env r)=_
  cases hx:y==n with
  |true=>
   simp only [List.lookup_cons,hx]at h
   cases h
   by_cases hc:(NameKind.free==NameKind.free&&env.scope.kind==.function&&env.kindOf n==some .cell)=true
   ·rw [if_pos hc];left;simp only [List.lookup_cons,hx]
   ·rw [if_neg hc];right;simp only [List.lookup_cons,hx]
  |false=>
   simp only [List.lookup_cons,hx]at h
   by_cases hc:(k==NameKind.free&&env.scope.kind==.function&&env.kindOf n==some .cell)=true
   ·rw [if_pos hc];simp only [List.lookup_cons,hx];exact relab_free h
   ·rw [if_neg hc];simp only [List.lookup_cons,hx];exact relab_free h
theorem relab_back{env:Env}:∀ {names:List (Str×NameKind)} {y:Str},(∀z∈names,z.2≠.cell)→((relab env names).lookup y=some .cell∨(relab env names).lookup y=some .free)→(y,NameKind.free)∈names
 |[],_,_,h=>by rcases h with h|h<;>simp [relab]at h
 |(n,k)::r,y,hn,h=>by
  have ih:=@relab_back env r y (fun z hz=>hn z (List.mem_cons_of_mem _ hz))
  have hk:k≠.cell:=hn (n,k) List.mem_cons_self
  have e:relab env ((n,k)::r)=(if(k==NameKind.free&&env.scope.kind==.function&&env.kindOf n==some .cell)=true then(n,NameKind.cell)else(n,k))::relab env r:=rfl
  rw [e]at h
  cases hx:y==n with
  |true=>
   have hy:y=n:=by simpa using hx
   subst hy
   by_cases hc:(k==NameKind.free&&env.scope.kind==.function&&env.kindOf y==some .cell)=true
   ·have:k=.free:=by
     simp only [Bool.and_eq_true,beq_iff_eq]at hc
     exact hc.1.1
    rw [this];exact List.mem_cons_self
   ·rw [if_neg hc]at h
    simp only [List.lookup_cons,hx]at h
    rcases h with h|h
    ·exact absurd (Option.some.inj h) hk
    ·rw [Option.some.inj h];exact List.mem_cons_self
  |false=>
   by_cases hc:(k==NameKind.free&&env.scope.kind==.function&&env.kindOf n==some .cell)=true
   ·rw [if_pos hc]at h
    simp only [List.lookup_cons,hx]at h
    exact List.mem_cons_of_mem _ (ih h)
   ·rw [if_neg hc]at h
    simp only [List.lookup_cons,hx]at h
    exact List.mem_cons_of_mem _ (ih h)
section
variable{prog:Program}{w:World}{A:Around}{R:Result→Shared→Prop}{s:Shared}
theorem compLoop_all{elt target iter:Expr}{ifs:List Expr}{scope:Scope}{pos:Pos}{it acc:Value}{env:Env}(I:Nat→Shared→Prop)
 (turn:∀n s,I n s→wpAny (model prog w) A (pyNext it) (fun r s₁=>match r with
   |none=>R (.ok .next) s₁
   |some v=>wpAny (model prog w) A (letOwnedTupleGo target it v) (fun _ s₀=>wpAny (model prog w) A (assign target env v) (fun _ s₂=>
     wpAny (model prog w) A (forIn ifs true fun c r=>if r=true then do let ok←isTrue c env (eval c env);pure (ForInStep.yield ok)else pure (ForInStep.yield r)) (fun ok s₃=>
      if ok=true then wpAny (model prog w) A (eval elt env) (fun x s₄=>
       wpAny (model prog w) A (call (.builtin "list.append") [acc,x]) (fun _ s₅=>∃m,m<n∧I m s₅) (fun _ _=>False) s₄) (fun _ _=>False) s₃
      else∃m,m<n∧I m s₃) (fun _ _=>False) s₂) (fun _ _=>False) s₀) (fun _ _=>False) s₁) (fun _ _=>False) s)
 (n:Nat)(h:I n s):
 codeAny (model prog w) A (.compLoop (.ListComp elt [⟨target,iter,ifs,0⟩] scope pos) 0 it acc env) R s:=by
 refine codeAny_loop rfl I (fun n s hI=> ?_) n h
 show wpAny _ A ((compTurn (.ListComp elt [⟨target,iter,ifs,0⟩] scope pos) 0 it acc env).onRaise (fun x=>do noteFrame x env;theTreesLotGoes x)) _ _ s
 refine wpAny_noted ?_
 rw [compTurn_list]
 have no:∀(E:Value→Shared→Prop) (x:Value) (s':Shared),False→E x s':=fun _ _ _ f=>f.elim
 refine wpAny_bind (wpAny_standAt (wpAny_bind (wpAny_mono (turn n s hI) (fun r s₁ h₁=> ?_) (no _))))
 cases r with
 |none=>exact wpAny_pure h₁
 |some v=>
  refine wpAny_bind (wpAny_mono h₁ (fun _ s₀ h₀=> ?_) (no _))
  refine wpAny_bind (wpAny_mono h₀ (fun _ s₂ h₂=>wpAny_bind (wpAny_mono h₂ (fun ok s₃ h₃=> ?_) (no _))) (no _))
  cases ok with
  |false=>exact wpAny_pure ⟨rfl,h₃⟩
  |true=>
   exact wpAny_bind (wpAny_bind (wpAny_mono h₃ (fun x s₄ h₄=>wpAny_bind (wpAny_mono h₄ (fun _ s₅ h₅=>wpAny_pure (wpAny_pure ⟨rfl,h₅⟩)) (no _))) (no _)))
end
end L2
namespace L2
open PySem
end L2
namespace L2
open PySem PySem.Spec PyProof.Rows
structure CompScope(sc:Scope)(N:List Str)(scope:Scope)(x:Str)(fr:List Str)(is:List Nat):Prop where
 kind:scope.kind=.function
 nocell:∀y∈scope.names,y.2≠.cell
 names:∀y∈scope.names,y.2=.local→scope.names.lookup y.1=some .local
 var:scope.names.lookup x=some .local
 nd:(x::fr).Nodup
 free:∀y∈scope.names,y.2=.free→sc.names.lookup y.1=some .cell∨sc.names.lookup y.1=some .free
 look:∀n∈fr,scope.names.lookup n=some .free
 slots:(is.map fun k=>N[k]?)=fr.map some
noncomputable def compCx(X:Cx)(scope:Scope)(N':List Str)(C:Addr)(s:Shared)(H:Hp)(fp:List Addr)(pins:List (Addr×Obj)):Cx where
 prog:=X.prog
 w:=X.w
 K:=X.K
 mg:=X.mg
 base:=X.base
 A:=X.A
 N:=N'
 s₀:=s
 H₀:=H
 env:=compEnvC scope (closL X.env scope.names []) C X.env
 outer:=X.stack
 stack:=X.stack
 ex:=fp
 fn:=fun _=>false
 calm:=X.calm
 pn:=X.pn++pins
 xe:=fun _ _=>False
noncomputable def compSt(σ:St)(is:List Nat)(o:Option V):St:=o::is.map fun k=>(σ[k]?).join
section
variable{X:Cx}{pins:List (Addr×Obj)}{σ:St}{H:Hp}{s:Shared}{scope:Scope}{x:Str}{fr:List Str}{is:List Nat}{fp:List Addr}
theorem comp_cell(I:Inv X pins σ H s)(cs:CompScope X.env.scope X.N scope x fr is){y:Str}{c:Addr}(h:(closL X.env scope.names []).lookup y=some c):X.env.cells.lookup y=some c∧(y,NameKind.free)∈scope.names:=by
 rw [closL_lookup]at h
 by_cases hy:(y,NameKind.free)∈scope.names
 ·rw [if_pos hy]at h
  obtain⟨d,hd⟩:=I.ok.has y (cs.free _ hy rfl)
  rw [hd]at h
  have e:d=c:=Option.some.inj h
  exact⟨by rw [hd,e],hy⟩
 ·rw [if_neg hy]at h
  cases h
theorem comp_cell'(I:Inv X pins σ H s)(cs:CompScope X.env.scope X.N scope x fr is){y:Str}(hy:(y,NameKind.free)∈scope.names):∃c,X.env.cells.lookup y=some c∧(closL X.env scope.names []).lookup y=some c:=by
 obtain⟨d,hd⟩:=I.ok.has y (cs.free _ hy rfl)
 refine⟨d,hd,?_⟩
 rw [closL_lookup,if_pos hy,hd]
 rfl
theorem comp_start(I:Inv X pins σ H s)(cs:CompScope X.env.scope X.N scope x fr is)(hf:∀b∈fp,FpOk X pins H b)(hfp:∀b∈fp,∃o,s.heap.get? b=some o){h':Heap}{m:Str→Option Value}{t':Nat}(hn:h'.Ns s.heap.objs.size m)
 (hk:∀b o,s.heap.get? b=some o→h'.get? b=some o):
 Inv (compCx X scope (x::fr) s.heap.objs.size s H fp pins) [] (compSt σ is none) H {s with heap:=h',toks:=t'}:=by
 have lt:∀ {b:Addr} {o:Obj},s.heap.get? b=some o→b≠s.heap.objs.size:=fun e=>Nat.ne_of_lt (Heap.lt_size e)
 have nofs:∀ {b:Addr},b≠X.env.locals→b∉X.fs→b∉frs X.stack:=fun h1 h2 hb=>(List.mem_cons.mp (I.stkSub _ hb)).elim h1 h2
 refine⟨⟨I.mod,cs.kind,I.ok.glob,I.ok.blt,Nat.le_refl _,fun y z c h1 h2=> ?_,fun y hy=> ?_,fun y c h=> ?_,I.ok.hd,I.ok.frames,.inl rfl,fun b hb=> ?_,I.bs,Nat.le_trans I.ok.bsz I.sz,fun b o e hb=> ?_,fun b hb=> ?_,I.stack,I.stkFree⟩,
  rfl,I.bare,Un.kept hk,⟨m,hn,fun i y v h1 h2 h3=> ?_⟩,fun y c h=> ?_,I.hok.fresh (Nat.le_refl _),fun y c h=> ?_,fun p hp=> ?_,I.hok.kept hk,?_⟩
 ·exact I.ok.inj y z c (comp_cell I cs h1).1 (comp_cell I cs h2).1
 ·obtain⟨c,_,e⟩:=comp_cell' I cs (relab_back cs.nocell hy)
  exact⟨c,e⟩
 ·cases h
 ·obtain⟨o,e⟩:=hfp b hb
  exact⟨lt e,fun y c h=>(hf b hb).2.2.2.2.1 y c (comp_cell I cs h).1⟩
 ·rcases(hf b hb).2.2.2.1 with z|z
  ·exact I.ok.noex b o e z
  ·exact absurd (Nat.lt_of_lt_of_le (Nat.lt_of_lt_of_le (Heap.lt_size e) I.ok.bsz) z) (Nat.lt_irrefl _)
 ·exact nofs (hf b hb).2.1 (hf b hb).2.2.1
 ·cases i with
  |zero=>
   have h2':(some (none:Option V))=some (some v):=h2
   cases h2'
  |succ i=>
   have h1':fr[i]?=some y:=h1
   have h2':(is.map fun k=>(σ[k]?).join)[i]?=some (some v):=h2
   rw [List.getElem?_map]at h2'
   cases hk':is[i]? with
   |none=>rw [hk']at h2';cases h2'
   |some k=>
    rw [hk']at h2'
    have h2'':(σ[k]?).join=some v:=Option.some.inj h2'
    have hσ:σ[k]?=some (some v):=by
     cases q:σ[k]? with
     |none=>rw [q]at h2'';cases h2''
     |some o=>rw [q]at h2'';rw [show o=some v from h2'']
    have hN:X.N[k]?=some y:=by
     have e:=congrArg (fun l=>l[i]?) cs.slots
     simp only [List.getElem?_map,hk',h1',Option.map_some]at e
     exact Option.some.inj e
    have hl:=cs.look y (List.mem_of_getElem? h1')
    have hm:(y,NameKind.free)∈scope.names:=PySem.mem_of_lookup hl
    obtain⟨c,e1,e2⟩:=comp_cell' I cs hm
    have hvis:Vis X.env.scope y:=.inr (cs.free _ hm rfl)
    obtain⟨m0,hn0,hl0⟩:=I.loc
    obtain⟨u,r,l⟩:=hl0 k y v hN hσ hvis
    refine⟨u,r,.inr ⟨relab_free hl,c,e2,?_⟩⟩
    rcases l with⟨k1,_⟩|⟨_,c',e3,z⟩
    ·have k2:X.env.kindOf y=some .cell∨X.env.kindOf y=some .free:=cs.free _ hm rfl
     rw [k1]at k2
     rcases k2 with k2|k2<;>cases k2
    ·rw [e1]at e3
     cases e3
     obtain⟨o,ho,hd⟩:=z
     exact⟨o,hk _ _ ho,hd⟩
 ·obtain⟨v,o,ho,hd⟩:=I.cell y c (comp_cell I cs h).1
  exact⟨v,o,hk _ _ ho,hd⟩
 ·exact I.freeC y c (comp_cell I cs h).1
 ·rw [List.append_nil]at hp
  obtain⟨e,n,ne,nf,d⟩:=I.pin p hp
  exact⟨hk _ _ e,n,lt e,nofs ne nf,d⟩
 ·show(none::is.map _).length=(x::fr).length
  have e:=congrArg List.length cs.slots
  simp only [List.length_map]at e
  simp [e]
theorem comp_end{σ':St}{H':Hp}{s':Shared}{h'':Heap}(I:Inv X pins σ H s)(hf:∀b∈fp,FpOk X pins H b)(J:Inv (compCx X scope (x::fr) s.heap.objs.size s H fp pins) [] σ' H' s')(sb:Heap.SameBut s.heap.objs.size s'.heap h''):
 Inv X pins σ H' {s' with heap:=h''}:=by
 have ne:∀ {b:Addr} {o:Obj},s.heap.get? b=some o→b≠s.heap.objs.size:=fun e=>Nat.ne_of_lt (Heap.lt_size e)
 have fre:H' s.heap.objs.size=none:=J.free
 have u:Un (frs X.stack) fp H H' s.heap s'.heap:=J.base
 refine I.call' (ch:=fp) J.os ⟨fun b o e n hb hx=>(sb.2 b (ne e)).trans (u.keep b o e n hb hx),fun b o e n hb hx=> ?_,u.free,fun b o e hx=> ?_,u.tups,u.frzs,u.tbls⟩ (fun b o e=> ?_) J.bare (fun b hb=> ?_)
 ·obtain⟨sl,q⟩:=u.slot b o e n hb hx
  exact⟨sl,(sb.2 b (ne e)).trans q⟩
 ·obtain⟨o',q⟩:=u.there b o e hx
  exact⟨o',(sb.2 b (ne e)).trans q⟩
 ·have nC:∀ {c:Addr} {v:HO},H' c=some v→c≠s.heap.objs.size:=fun q z=>by rw [z,fre]at q;cases q
  refine(J.hok b o e).stay (fun c v hc q=>(sb.2 c ?_).trans q) (fun _ q=>q) fun _ _ q=>q
  rcases hc with rfl|hc
  ·exact nC e
  ·exact nC hc
 ·exact⟨(hf b hb).2.2.2.1,(hf b hb).2.1,(hf b hb).2.2.2.2.1,(hf b hb).2.2.2.2.2⟩
end
noncomputable def tComp(wi:TI)(is:List Nat)(tt:TT)(te:TE):TE:=fun σ H Q=>wi σ H fun J H1=>∀D,H1 D=none→∃W:Nat→Nat→Hp→Prop,(∃m,W 0 m (upd H1 D (.lst [])))∧∀i m H2,W i m H2→
 (J.stop i H2∧Q (.ref D) H2)∨(J.go i H2∧∀x H3,J.yld i H2 x H3→tt (compSt σ is (some x)) H3 fun b H4=>if b=true then te (compSt σ is (some x)) H4 fun y H5=>∃ys,H5 D=some (.lst ys)∧ys.length<sizeLine∧∃m',m'<m∧W (i+1) m' (upd H5 D (.lst (ys++[y])))
   else∃m',m'<m∧W (i+1) m' H4)
noncomputable def tTrue:TT:=fun _ H Q=>Q true H
section
variable{X:Cx}{scope:Scope}{x:Str}{px pos:Pos}{fr:List Str}{is:List Nat}{elt iter:Expr}{wi:TI}{te:TE}
def PTs(X:Cx)(ifs:List Expr)(t:TT):Prop:=
 ∀(pins:List (Addr×Obj)) (s:Shared) (σ:St) (H:Hp) (Q:Bool→Hp→Prop),Inv X pins σ H s→t σ H Q→
  wpAny (model X.prog X.w) X.A (forIn ifs true fun c r=>if r=true then do let ok←isTrue c X.env (eval c X.env);pure (ForInStep.yield ok)else pure (ForInStep.yield r)) (TP X pins σ Q) X.xe s
theorem pts_nil:PTs X [] tTrue:=fun _ _ _ H _ I h=>wpAny_tests_nil ⟨H,I,h⟩
theorem pts_one{c:Expr}{t:TT}(h:PT X c t):PTs X [c] t:=fun pins s σ H Q I q=>wpAny_tests_one (h pins s σ H Q I q)
theorem comp_run{ifs:List Expr}{tt:TT}{pins:List (Addr×Obj)}{s:Shared}{σ:St}{H:Hp}{Q:VK}{use:Option (Value→Sem Unit)}{Qf:Value→Shared→Prop}(hc:X.calm=true)(hi:PI X (.Name x px) iter wi)(ht:∀C s H fp pins,PTs (compCx X scope (x::fr) C s H fp pins) ifs tt)
 (he:∀C s H fp pins,PE (compCx X scope (x::fr) C s H fp pins) elt te)(cs:CompScope X.env.scope X.N scope x fr is)(hfs:∀x,foldedSetIterable iter X.env x=pure x)(I:Inv X pins σ H s)(h:tComp wi is tt te σ H Q)
 (fin:∀(s3:Shared) (H3:Hp) (fp:List Addr) (D:Addr) (σ':St) (H':Hp) (s':Shared),Inv X pins σ H3 s3→(∀b∈fp,FpOk X pins H3 b)→Inv (compCx X scope (x::fr) s3.heap.objs.size s3 H3 fp pins) [] σ' H' s'→Q (.ref D) H'→
   compPost (model X.prog X.w) X.A X.xe use Qf (.ref D) s3.heap.objs.size (.ok .next) s'):
 wpAny (model X.prog X.w) X.A (comprehension (.ListComp elt [⟨.Name x px,iter,ifs,0⟩] scope pos) scope X.env (firstIterPos [⟨.Name x px,iter,ifs,0⟩] pos) (newList []) false (eval iter X.env) use) Qf X.xe s:=by
 have hclos:closureFor scope X.env=pure (closL X.env scope.names []):=closureFor_some fun n hn=>I.ok.has n (cs.free _ hn rfl)
 refine wpAny_comprehension_free (use:=use) rfl hfs hclos cs.kind cs.names (thn (hi pins s σ H _ I h) fun v s1 h1=>thn h1 fun itv s2 h2=> ?_)
 obtain⟨it,fp,tn,J,H2,e,I2,T,st2,f2,h2⟩:=h2
 subst e
 refine wpAny_newObj_type (hd:=by size_fits) ?_
 have fD:H2 s2.heap.objs.size=none:=I2.fresh
 obtain⟨W,⟨m0,w0⟩,turn⟩:=h2 s2.heap.objs.size fD
 have nD:∀b∈fp,b≠s2.heap.objs.size:=fun b hb=>by
  obtain⟨o,e,_⟩:=T.obj _ _ st2 b hb
  exact Nat.ne_of_lt (Heap.lt_size e)
 have I3:Inv X pins σ (upd H2 s2.heap.objs.size (.lst [])) {s2 with heap:=s2.heap.push {cls:=.type "list",data:=.seq ([]:List Value).toArray}}:=I2.lnew (t':=s2.toks) .nil (Nat.zero_le _)
 have f3:∀b∈fp,FpOk X pins (upd H2 s2.heap.objs.size (.lst [])) b:=fun b hb=>⟨by rw [upd_ne (nD b hb)];exact(f2 b hb).1,(f2 b hb).2⟩
 have st3:tn 0 (s2.heap.push {cls:=.type "list",data:=.seq ([]:List Value).toArray}):=T.keep _ _ _ st2 fun b _ o e=>Heap.get?_push_of_some _ e
 generalize hs3:({s2 with heap:=s2.heap.push {cls:=.type "list",data:=.seq ([]:List Value).toArray}}:Shared)=s3 at I3⊢
 have st3':tn 0 s3.heap:=by rw [←hs3];exact st3
 generalize hH3:upd H2 s2.heap.objs.size (.lst [])=H3 at I3 f3 w0
 generalize s2.heap.objs.size=D at*
 refine wpAny_newFunctionEnv cs.nocell (by intro y hy;simp at hy) (fun h4 hn4 sb4=> ?_) cs.kind
 have hk4:∀b o,s3.heap.get? b=some o→h4.get? b=some o:=fun b o e=>sb4.extBut b o (Nat.ne_of_lt (Heap.lt_size e)) (Heap.get?_push_of_some _ e)
 have ob3:∀b∈fp,∃o,s3.heap.get? b=some o:=fun b hb=>let ⟨o,e,_⟩:=T.obj _ _ st3' b hb;⟨o,e⟩
 have I4:=comp_start (t':=s3.toks+([]:List (Str×Value)).length) I3 cs f3 ob3 hn4 hk4
 have st4:tn 0 h4:=T.keep _ _ _ st3' fun b _ o e=>hk4 b o e
 have stat:∀ {H':Hp},(∀b∈fp,H' b=none)→∀b∈fp,FpOk (compCx X scope (x::fr) s3.heap.objs.size s3 H3 fp pins) [] H' b:=fun hn b hb=>
  ⟨hn b hb,(I4.ok.exf b hb).1,I4.ok.exfs b hb,.inl hb,(I4.ok.exf b hb).2,fun p hp z=>by
   have hp':p∈X.pn++pins:=by
    have h2:p∈(X.pn++pins)++[]:=hp
    rwa [List.append_nil]at h2
   exact(f3 b hb).2.2.2.2.2 p hp' z⟩
 have loop:codeAny (model X.prog X.w) X.A (.compLoop (.ListComp elt [⟨.Name x px,iter,ifs,0⟩] scope pos) 0 (.ref it) (.ref D) (compCx X scope (x::fr) s3.heap.objs.size s3 H3 fp pins).env)
  (compPost (model X.prog X.w) X.A X.xe use Qf (.ref D) s3.heap.objs.size) {s3 with heap:=h4,toks:=s3.toks+([]:List (Str×Value)).length}:=by
  refine compLoop_all (fun n s'=>∃i o H',Inv (compCx X scope (x::fr) s3.heap.objs.size s3 H3 fp pins) [] (compSt σ is o) H' s'∧tn i s'.heap∧(∀b∈fp,H' b=none)∧W i n H') ?_ m0 ⟨0,none,H3,I4,st4,fun b hb=>(f3 b hb).1,w0⟩
  rintro n s5 ⟨i,o,H5,I5,st5,fr5,w5⟩
  rcases turn i n H5 w5 with⟨stop,qn⟩|⟨go,step⟩
  ·refine thn (T.done (compCx X scope (x::fr) s3.heap.objs.size s3 H3 fp pins) rfl rfl rfl hc i [] s5 _ H5 (fun _ _=>False) I5 (stat fr5) st5 stop) fun r s6 ⟨hr,I6⟩=> ?_
   subst hr
   exact fin s3 H3 fp D _ H5 s6 I3 f3 I6 qn
  ·refine thn (T.item (compCx X scope (x::fr) s3.heap.objs.size s3 H3 fp pins) rfl rfl rfl hc i [] s5 _ H5 (fun _ _=>False) I5 (stat fr5) st5 go) fun r s6 ⟨u,hr,h6⟩=> ?_
   subst hr
   refine thn h6 fun _ s7 ⟨v,H7,I7,r7,y7,st7,fr7⟩=> ?_
   have I7':=I7.pinned (stat fr7) (T.obj _ _ st7)
   have gN:PG (compCx X scope (x::fr) s3.heap.objs.size s3 H3 fp pins) (.Name x px) (gName 0):=pg_name (i:=0) cs.nd rfl (.inl (lookup_relabel_local cs.var)) (.inr (lookup_relabel_local cs.var))
   refine thn (gN _ s7 _ H7 v u (fun σ' H'=>σ'=compSt σ is (some v)∧H'=H7) I7' r7 ⟨rfl,rfl⟩) fun _ s8 ⟨σ8,H8,I8,e8,e8'⟩=> ?_
   subst e8 e8'
   refine thn (ht s3.heap.objs.size s3 H3 fp pins _ s8 _ H8 _ I8 (step v H8 y7)) fun b s9 ⟨H9,I9,q9⟩=> ?_
   have again:∀ {s':Shared} {H':Hp} {m:Nat},Inv (compCx X scope (x::fr) s3.heap.objs.size s3 H3 fp pins) ([]++pinsAt fp s7.heap) (compSt σ is (some v)) H' s'→m<n→W (i+1) m H'→
    ∃m,m<n∧∃i o H',Inv (compCx X scope (x::fr) s3.heap.objs.size s3 H3 fp pins) [] (compSt σ is o) H' s'∧tn i s'.heap∧(∀b∈fp,H' b=none)∧W i m H':=fun {s' H' m} I' hm w'=>by
    refine⟨m,hm,i+1,some v,H',I'.unpinned,T.keep _ _ _ st7 fun b hb o e=>(I'.pin (b,o) (List.mem_append_right _ (List.mem_append_right _ (mem_pinsAt hb e)))).1,fun b hb=> ?_,w'⟩
    obtain⟨o,e,d⟩:=T.obj _ _ st7 b hb
    exact(I'.pin (b,o) (List.mem_append_right _ (List.mem_append_right _ (mem_pinsAt hb e)))).2.1
   cases b with
   |false=>
    obtain⟨m',hm,w9⟩:=q9
    exact again I9 hm w9
   |true=>
    refine thn (he s3.heap.objs.size s3 H3 fp pins _ s9 _ H9 _ I9 q9) fun y s10 ⟨yv,H10,I10,r10,ys,hD,hz,m',hm,w10⟩=> ?_
    refine thn (mt_append _ s10 _ H10 (.ref D) [yv] (.ref D) [y] (fun _ H'=>H'=upd H10 D (.lst (ys++[yv]))) I10 rfl (.cons r10 .nil) ⟨D,ys,yv,rfl,rfl,hD,hz,rfl⟩) fun _ s11 ⟨_,H11,I11,_,e11⟩=> ?_
    subst e11
    exact again I11 hm w10
 exact codeAny_compStart_list loop (T.self X.A 0 _ _ _ st4 loop)
theorem pe_compI{ifs:List Expr}{tt:TT}(hc:X.calm=true)(hi:PI X (.Name x px) iter wi)(ht:∀C s H fp pins,PTs (compCx X scope (x::fr) C s H fp pins) ifs tt)(he:∀C s H fp pins,PE (compCx X scope (x::fr) C s H fp pins) elt te)
 {sc:Scope}{N:List Str}(cs:CompScope sc N scope x fr is)(hsc:X.env.scope=sc:=by rfl)(hN:X.N=N:=by rfl)(hfs:∀x,foldedSetIterable iter X.env x=pure x:=by intro _;rfl):
 PE X (.ListComp elt [⟨.Name x px,iter,ifs,0⟩] scope pos) (tComp wi is tt te):=by
 subst hsc hN
 intro pins s σ H Q I h
 rw [eval_ListComp]
 refine comp_run hc hi ht he cs hfs I h fun s3 H3 fp D σ' H' s' I3 f3 J q=> ?_
 obtain⟨m6,hn6,_⟩:=id J.loc
 exact⟨m6,hn6,fun h7 sb7=>⟨.ref D,H',comp_end I3 f3 J sb7,rfl,q⟩⟩
theorem ps_setCompI{ifs:List Expr}{tt:TT}{y:Str}{py spos:Pos}{k:Nat}(hc:X.calm=true)(hi:PI X (.Name x px) iter wi)(ht:∀C s H fp pins,PTs (compCx X scope (x::fr) C s H fp pins) ifs tt)(he:∀C s H fp pins,PE (compCx X scope (x::fr) C s H fp pins) elt te)
 {sc:Scope}{N:List Str}(cs:CompScope sc N scope x fr is)(hnd:X.N.Nodup)(hk:X.N[k]?=some y)(hy:X.env.scope.names.lookup y=some .local)
 (hsw:swapsWith (.ListComp elt [⟨.Name x px,iter,ifs,0⟩] scope pos) (some (.Name y py)) spos.line X.env=pure true)(hsc:X.env.scope=sc:=by rfl)(hN:X.N=N:=by rfl)(hfs:∀x,foldedSetIterable iter X.env x=pure x:=by intro _;rfl):
 PS X (.Assign [.Name y py] (.ListComp elt [⟨.Name x px,iter,ifs,0⟩] scope pos) spos) (tAsg (tComp wi is tt te) (gName k)):=by
 subst hsc hN
 intro pins s σ H D I h
 rw [exec_Assign_Name_used _ _ _ _ hsw]
 refine wpAny_bind (wpAny_standAt (wpAny_bind ?_))
 show wpAny _ X.A (do let _←comprehension (.ListComp elt [⟨.Name x px,iter,ifs,0⟩] scope pos) scope X.env (firstIterPos [⟨.Name x px,iter,ifs,0⟩] pos) (newList []) false (eval iter X.env) (some (assign (.Name y py) X.env))) _ _ s
 refine wpAny_bind (thn (comp_run (use:=some (assign (.Name y py) X.env)) (Qf:=fun _ s'=>SP X pins D .next s') hc hi ht he cs hfs I h fun s3 H3 fp Da σ' H' s' I3 f3 J q=> ?_) fun _ s' hq=>wpAny_pure (wpAny_pure hq))
 have I5:Inv X pins σ H' s':=comp_end (h'':=s'.heap) I3 f3 J (.refl ..)
 obtain⟨m6,hn6,_⟩:=id J.loc
 have cne:s3.heap.objs.size≠X.env.locals:=Nat.ne_of_gt I3.lt
 have fC:FpOk X pins H' s3.heap.objs.size:=I3.fpOk (Nat.le_refl _) J.free
 refine wpAny_assign_Name (store_ok2 (v:=.ref Da) (u:=.ref Da) I5 hnd hk (.inl hy) rfl (fun s7 I7 ch=> ?_) (.inr hy))
 obtain⟨a,sb,ha⟩:=ch
 have nCa:s3.heap.objs.size≠a:=by
  rcases ha with rfl|ha
  ·exact cne
  ·exact fun z=>fC.2.2.2.2.1 y a ha z.symm
 refine⟨m6,hn6.sameBut sb nCa,fun h8 sb8=> ?_⟩
 refine⟨σ.set k (some (.ref Da)),H',?_,q⟩
 exact I7.turned (t':=s7.toks) (fun b o hb e=>(sb8.2 b hb).trans e) J.free cne fC.2.2.2.1 fC.2.2.2.2.1 fC.2.2.2.2.2
theorem pe_comp(hc:X.calm=true)(hi:PI X (.Name x px) iter wi)(he:∀C s H fp pins,PE (compCx X scope (x::fr) C s H fp pins) elt te)
 {sc:Scope}{N:List Str}(cs:CompScope sc N scope x fr is)(hsc:X.env.scope=sc:=by rfl)(hN:X.N=N:=by rfl)(hfs:∀x,foldedSetIterable iter X.env x=pure x:=by intro _;rfl):
 PE X (.ListComp elt [⟨.Name x px,iter,[],0⟩] scope pos) (tComp wi is tTrue te):=pe_compI hc hi (fun _ _ _ _ _=>pts_nil) he cs hsc hN hfs
theorem pe_compIf{c:Expr}{tt:TT}(hc:X.calm=true)(hi:PI X (.Name x px) iter wi)(ht:∀C s H fp pins,PT (compCx X scope (x::fr) C s H fp pins) c tt)(he:∀C s H fp pins,PE (compCx X scope (x::fr) C s H fp pins) elt te)
 {sc:Scope}{N:List Str}(cs:CompScope sc N scope x fr is)(hsc:X.env.scope=sc:=by rfl)(hN:X.N=N:=by rfl)(hfs:∀x,foldedSetIterable iter X.env x=pure x:=by intro _;rfl):
 PE X (.ListComp elt [⟨.Name x px,iter,[c],0⟩] scope pos) (tComp wi is tt te):=pe_compI hc hi (fun C s H fp pins=>pts_one (ht C s H fp pins)) he cs hsc hN hfs
end
section
variable{X:Cx}{pins:List (Addr×Obj)}{σ:St}{H:Hp}{s:Shared}
end
theorem two_fits:2≤sizeLine:=by rw [sizeLine_eq];decide
section
variable{X:Cx}
end
end L2
end
noncomputable section
namespace L2
open PySem PySem.Spec PySem.SeqAt PyProof.Rows
section
variable{X:Cx}
theorem call_isinst:CallR X (.builtin "isinstance") (fun xs H Q=>∃x T t b,xs=[x,.ty T]∧TyOf X.K H x t∧W.kitOne X.K t (.type T)=some b∧Q (.bl b) H):=by
 intro pins s σ H xs us Q I r h
 obtain⟨x,T,t,b,rfl,ty,k,q⟩:=h
 obtain⟨u,v,rfl,ru,rv⟩:=r.two
 cases (show v=Value.type T from rv)
 exact isinst_ok I ru ty k fun tk=>⟨.bl b,H,I.tok _,rfl,q⟩
theorem pe_ty{x:Str}{T:String}{pos:Pos}(hg:Gl X x)(hm:X.mg x=none)(hv:bootBuiltins x=some (.type T))(hn:x≠"__name__":=by decide)(hd:(x==("__debug__":Str))=false:=by decide):PE X (.Name x pos) (tC (.ty T)):=
 pe_bltn hg hm hv rfl hn hd
theorem call_range1R:CallR X (.type "range") (fun xs H Q=>∃j,xs=[.int j]∧∀p,H p=none→Q (.ref p) (upd H p (.rng 0 j))):=by
 intro pins s σ H xs us Q I r h
 obtain⟨j,rfl,q⟩:=h
 obtain⟨u,rfl,ru⟩:=r.one
 obtain⟨t,rfl⟩:=ru
 refine call_range_1 ⟨.ref s.heap.objs.size,_,I.laid (o:=.rng 0 j) (fun b o e=>Heap.get?_push_of_some _ e) (Nat.le_refl _) ⟨_,_,_,Heap.get?_push_size _ rfl⟩,rfl,q _ I.fresh⟩
theorem vals_of_items{lo:Int}:∀(n:Nat) (l:List Value),l.length=n→(∀(j:Nat) (v:Value),l[j]?=some v→∃t,v=Value.int (lo+(j:Int)) t)→Vals ((List.range n).map fun(i:Nat)=>V.int (lo+(i:Int))) l:=by
 intro n
 induction n with
 |zero=>intro l hl _;rw [List.length_eq_zero_iff.mp hl];exact .nil
 |succ n ih=>
  intro l hl h
  obtain⟨l',v,rfl⟩:∃l' v,l=l'++[v]:=by
   rcases List.eq_nil_or_concat l with e|⟨l',v,e⟩
   ·rw [e]at hl;cases hl
   ·exact⟨l',v,by rw [e,List.concat_eq_append]⟩
  have hl':l'.length=n:=by simpa using hl
  rw [List.range_succ,List.map_append]
  refine Vals.append (ih l' hl' fun j w hj=>h j w ?_) (.cons ?_ .nil)
  ·rw [List.getElem?_append_left]
   ·exact hj
   ·exact(List.getElem?_eq_some_iff.mp hj).1
  ·exact h n v (by rw [←hl'];simp)
theorem call_list_rng(hc:X.calm=true):CallR X (.type "list") (fun xs H Q=>∃(p:Addr) (lo hi:Int),xs=[.ref p]∧H p=some (.rng lo hi)∧-(2 ^ 62)≤lo∧lo<2 ^ 62∧-(2 ^ 62)≤hi∧hi<2 ^ 62∧(hi-lo).toNat≤2 ^ 24∧
 ∀l,H l=none→Q (.ref l) (upd H l (.lst ((List.range (hi-lo).toNat).map fun(i:Nat)=>V.int (lo+(i:Int)))))):=by
 intro pins s σ H xs us Q I r h
 obtain⟨p,lo,hi,rfl,hp,b1,b2,b3,b4,hz,q⟩:=h
 obtain⟨u,rfl,ru⟩:=r.one
 cases ru
 obtain⟨t,t',t'',e⟩:=(show ObjOk X.prog X.w H s.heap p (.rng lo hi)from I.hok p _ hp)
 have hsz:Builtin.Range.rangeSize lo hi 1=(((hi-lo).toNat:Nat):Int):=by rw [rangeSize_one];split<;>lia
 refine call_list_range (I.ok.hd hc) e (small_one b1 b2 b3 b4) hsz hz fun h' tk acc' c' hk hS hacc=> ?_
 refine⟨.ref s.heap.objs.size,_,I.laid (o:=.lst ((List.range (hi-lo).toNat).map fun(i:Nat)=>V.int (lo+(i:Int)))) hk (Nat.le_refl _) ⟨?_,acc'.toList,c',?_,by simpa using hS⟩,rfl,q _ I.fresh⟩
 ·rw [List.length_map,List.length_range,sizeLine_eq];lia
 ·refine vals_of_items _ _ (by simpa using hacc.1) fun j v hj=> ?_
  obtain⟨t,rfl⟩:=hacc.2 j v (by simpa using hj)
  exact⟨t,by rw [Int.mul_one]⟩
theorem range_any{bs:List Bool}:(List.range bs.length).any (fun i=>bs.getD i false)=bs.any id:=by
 induction bs with
 |nil=>rfl
 |cons b bs ih=>
  rw [List.length_cons,List.range_succ_eq_map,List.any_cons,List.any_map,List.any_cons,←ih]
  rfl
theorem range_all{bs:List Bool}:(List.range bs.length).all (fun i=>bs.getD i false)=bs.all id:=by
 induction bs with
 |nil=>rfl
 |cons b bs ih=>
  rw [List.length_cons,List.range_succ_eq_map,List.all_cons,List.all_map,List.all_cons,←ih]
  rfl
theorem truth_bl{bs:List Bool}{its:List Value}(rv:Vals (bs.map V.bl) its)(A:Around):TruthOf X.prog X.w A (fun i v=>its.toArray[i]?=some v) (fun i=>bs.getD i false):=by
 intro i v s Q E hP hQ
 have hP':its[i]?=some v:=by simpa using hP
 have hi:i<(bs.map V.bl).length:=by rw [rv.length];exact(List.getElem?_eq_some_iff.mp hP').1
 have hi':i<bs.length:=by simpa using hi
 obtain⟨u,hu,ru⟩:=rv.get (i:=i) (x:=V.bl bs[i]) (by simp [hi'])
 rw [hP']at hu
 cases hu
 cases (show v=Value.bool bs[i]from ru)
 refine wpAny_truthy_bool ?_
 have e:bs.getD i false=bs[i]:=by simp [hi']
 rw [←e]
 exact hQ
theorem call_all_bl(hc:X.calm=true):CallR X (.builtin "all") (fun xs H Q=>∃(p:Addr) (bs:List Bool),xs=[.ref p]∧SqL X.K H p (bs.map V.bl)∧Q (.bl (bs.all id)) H):=by
 intro pins s σ H xs us Q I r h
 obtain⟨p,bs,rfl,hq,q⟩:=h
 obtain⟨u,rfl,ru⟩:=r.one
 cases ru
 obtain⟨its,rv,pl,hz⟩:=I.list hq
 obtain⟨ol,el,cl,_⟩:=pl.isList
 refine call_all_walk (wpAny_pyIter_list pl.isList ?_)
 refine⟨_,_,_,_,_,_,_,rfl,Walks.list (A:=X.A.in1) (I.ok.hd hc) s.heap.objs.size p (Nat.ne_of_lt (Heap.lt_size el)) its.toArray,⟨⟨_,Heap.get?_push_size _ rfl,rfl,rfl⟩,pl.isList.push _⟩,truth_bl rv _,fun h' tk hk=> ?_⟩
 refine⟨.bl _,H,I.kept fun b o e=>hk b o (fun z=>Nat.ne_of_lt (Heap.lt_size e) (by simpa using z)) (Heap.get?_push_of_some _ e),rfl,?_⟩
 have e:its.toArray.size=bs.length:=by rw [List.size_toArray,←rv.length,List.length_map]
 rw [e,range_all]
 exact q
theorem call_sorted_ints:CallR X (.builtin "sorted") (fun xs H Q=>∃(p:Addr) (ns:List Int),xs=[.ref p]∧SqL X.K H p (ns.map V.int)∧ns.length<64∧∀(l:Addr) (ms:List Int),H l=none→ms.Perm ns→ms.Pairwise (· ≤·)→Q (.ref l) (upd H l (.lst (ms.map V.int)))):=by
 intro pins s σ H xs us Q I r h
 obtain⟨p,ns,rfl,hq,hlt,q⟩:=h
 obtain⟨u,rfl,ru⟩:=r.one
 cases ru
 obtain⟨its,rv,pl,hz⟩:=I.list hq
 have hl:its.length=ns.length:=by rw [←rv.length,List.length_map]
 refine sorted_ints pl.isList (intsAre_of rv) (by lia) fun out ms a1 a2 a3=> ?_
 obtain⟨e,he⟩:=sortedAll_at s.heap its out
 have hfr:H (s.heap.objs.size+1)=none:=I.hok.fresh (Nat.le_succ _)
 refine⟨.ref (s.heap.objs.size+1),_,I.laid (t':=s.toks) (o:=.lst (ms.map V.int)) (fun _ _=>sortedAll_old) (Nat.le_succ _) ⟨?_,out.toList,e,vals_ints a1,by simpa using he⟩,rfl,q _ ms hfr a2 a3⟩
 rw [List.length_map,a2.length_eq,sizeLine_eq];lia
noncomputable def rInsert:V→List V→Hp→VK→Prop:=fun x vs H Q=>∃(l:Addr) (xs:List V) (i:Int) (y:V),x=.ref l∧vs=[.int i,y]∧H l=some (.lst xs)∧0≤i∧i≤xs.length∧xs.length<sizeLine∧Q .non (upd H l (.lst (xs.take i.toNat++y::xs.drop i.toNat)))
theorem mt_insert:MtM X "list.insert" rInsert:=by
 intro pins s σ H x vs v us Q I rx rv h
 obtain⟨l,xs,i,y,rfl,rfl,hH,h0,hi,hz,q⟩:=h
 cases rx
 obtain⟨u1,u2,rfl,⟨t,ht⟩,ru⟩:=rv.two
 subst ht
 obtain⟨z,its,n,r,hl,e⟩:=I.lstM hH
 have fits:¬(!Builtin.List.listFitsIndex i)=true:=by
  have:=line63
  simp [Builtin.List.listFitsIndex]
  lia
 refine call_meets F.slot_list_insert ⟨_,e,rfl⟩ F.entry_list_insert (F.args_list_insert_3 _ _ _) (PySem.AutoListH.list_insert_list_int_val_1 l its.toArray n i t u2 fits (by rw [List.size_toArray];lia)) ⟨e,?_⟩
 refine⟨.non,_,I.lset (its':=its.take i.toNat++u2::its.drop i.toNat) hH e ?_ ((r.take _).append (.cons ru (r.drop _))) ?_,rfl,q⟩
 ·have h1:¬i<0:=by lia
  have h2:min i.toNat its.length=i.toNat:=by lia
  simp [h1,h2]
  exact List.take_of_length_le (by rw [List.length_drop];exact Nat.le_refl _)
 ·rw [List.length_append,List.length_cons,List.length_take,List.length_drop];lia
end
mutual
inductive DV(K:W.Frag)(H:Hp):V→PyData→Prop where
 |non:DV K H .non .none
 |bl (b:Bool):DV K H (.bl b) (.bool b)
 |int (i:Int):DV K H (.int i) (.int i)
 |str (x:Str):DV K H (.str x) (.str x)
 |lst {a:Addr} {xs:List V} {ds:List PyData}:SqL K H a xs→DVs K H xs ds→DV K H (.ref a) (.list ds)
 |tup {a:Addr} {xs:List V} {ds:List PyData}:SqT K H a xs→DVs K H xs ds→DV K H (.ref a) (.tuple ds)
inductive DVs(K:W.Frag)(H:Hp):List V→List PyData→Prop where
 |nil:DVs K H [] []
 |cons {x:V} {d:PyData} {xs:List V} {ds:List PyData}:DV K H x d→DVs K H xs ds→DVs K H (x::xs) (d::ds)
end
section
variable{X:Cx}{pins:List (Addr×Obj)}{σ:St}{H:Hp}{s:Shared}
mutual
theorem dv_reads(I:Inv X pins σ H s):∀ {x:V} {d:PyData} {u:Value},DV X.K H x d→RelV x u→∃as,Reads s.heap u d as
 |_,_,u,.non,r=>⟨[],by cases (show u=Value.none from r);exact .none⟩
 |_,_,u,.bl b,r=>⟨[],by cases (show u=Value.bool b from r);exact .bool b⟩
 |_,_,u,.int i,r=>⟨[],by obtain⟨t,rfl⟩:=(show∃t,u=Value.int i t from r);exact .int i t⟩
 |_,_,u,.str x,r=>⟨[],by obtain⟨t,rfl⟩:=(show∃t,u=Value.str x t from r);exact .str x t⟩
 |_,_,u,@DV.lst _ _ a xs ds h hs,r=>by
  cases (show u=Value.ref a from r)
  obtain⟨its,rv,pl,_⟩:=I.list h
  obtain⟨o,ho,hc,n,hd⟩:=pl.isList
  obtain⟨as,ra⟩:=dvs_reads I hs rv
  exact⟨a::as,.list ho hc hd (by simpa using ra)⟩
 |_,_,u,@DV.tup _ _ a xs ds h hs,r=>by
  cases (show u=Value.ref a from r)
  obtain⟨its,rv,pl,_⟩:=I.tuple h
  obtain⟨o,ho,hc,n,hd⟩:=pl
  obtain⟨as,ra⟩:=dvs_reads I hs rv
  exact⟨as,.tuple ho hc hd (by simpa using ra)⟩
theorem dvs_reads(I:Inv X pins σ H s):∀ {xs:List V} {ds:List PyData} {us:List Value},DVs X.K H xs ds→Vals xs us→∃as,ReadsAll s.heap us ds as
 |_,_,_,.nil,.nil=>⟨[],.nil⟩
 |_,_,_,.cons h hs,.cons r rs=>by
  obtain⟨as,ra⟩:=dv_reads I h r
  obtain⟨bs,rb⟩:=dvs_reads I hs rs
  exact⟨as++bs,.cons ra rb⟩
end
end
section
variable{X:Cx}
noncomputable def rEqD(K:W.Frag)(neg:Bool):R2:=fun x y H Q=>∃da db,DV K H x da∧DV K H y db∧shaped da=true∧shaped db=true∧noMix da db=true∧Q (.bl (if neg then !same da db else same da db)) H
theorem op_eqD(hu:X.A.units+64<cLine):OpR X (compareOp .Eq) (rEqD X.K false):=by
 intro pins s σ H x y v u Q I rx ry h
 obtain⟨da,db,h1,h2,s1,s2,nm,q⟩:=h
 obtain⟨as,ra⟩:=dv_reads I h1 rx
 obtain⟨bs,rb⟩:=dv_reads I h2 ry
 exact eq_dataH_same ra rb s1 s2 hu nm ⟨.bl _,H,I,rfl,q⟩
theorem op_neD(hu:X.A.units+64<cLine):OpR X (compareOp .NotEq) (rEqD X.K true):=by
 intro pins s σ H x y v u Q I rx ry h
 obtain⟨da,db,h1,h2,s1,s2,nm,q⟩:=h
 obtain⟨as,ra⟩:=dv_reads I h1 rx
 obtain⟨bs,rb⟩:=dv_reads I h2 ry
 exact ne_dataH_same ra rb s1 s2 hu nm ⟨.bl _,H,I,rfl,q⟩
end
end L2
end
noncomputable section
namespace SW
open PySem
end SW
end
noncomputable section
namespace SW
open PySem
noncomputable def toI:Value→Int
 | .int i _=>i
 |_=>0
noncomputable def keys(es:Array (Int×Value)):List Int:=es.toList.map fun e=>toI e.2
section
variable{prog:Program}{w:World}{A:Around}{E:Value→Shared→Prop}{s:Shared}{a:Addr}{es:Array (Int×Value)}{ep:Nat}{t:SetTable}
end
end SW
end
noncomputable section
namespace SW
open PySem
section
variable{prog:Program}{w:World}{A:Around}{R:Result→Shared→Prop}{I:Addr}{fp wr:List Addr}{G:Array GenState→Array GenState→Prop}{n:Nat}{P:Nat→Value→Prop}{St:Nat→Shared→Prop}
end
section
variable{prog:Program}{w:World}{A:Around}{E:Value→Shared→Prop}{s:Shared}
end
end SW
end
noncomputable section
namespace SW
open PySem
section
variable{prog:Program}{w:World}{A:Around}{E:Value→Shared→Prop}{s:Shared}
set_option maxHeartbeats 3200000 in
end
end SW
end
noncomputable section
namespace SW
open PySem
noncomputable def dr(es:Array (Int×Value))(t:SetTable):Bool:= !t.plain&&decide (es.size>1)
section
variable{prog:Program}{w:World}{A:Around}{E:Value→Shared→Prop}{s:Shared}{I S:Addr}{es:Array (Int×Value)}{ep:Nat}{t:SetTable}
end
end SW
end
noncomputable section
namespace SW
open PySem
section
variable{prog:Program}{w:World}{A:Around}{E:Value→Shared→Prop}{s:Shared}{I S:Addr}{es:Array (Int×Value)}{ep:Nat}{t:SetTable}
end
end SW
end
noncomputable section
namespace SW
open PySem
section
variable{prog:Program}{w:World}{A:Around}{E:Value→Shared→Prop}{s:Shared}{I S T:Addr}{es:Array (Int×Value)}{ep:Nat}{t:SetTable}{Ls:List (Int×Value)}
end
end SW
end
noncomputable section
namespace SW
open PySem
section
variable{prog:Program}{w:World}{A:Around}{E:Value→Shared→Prop}{s:Shared}{S:Addr}{es:Array (Int×Value)}{ep:Nat}{t:SetTable}
end
end SW
end
noncomputable section
namespace SW
open PySem
section
variable{prog:Program}{w:World}{A:Around}{E:Value→Shared→Prop}{s:Shared}{S:Addr}{es:Array (Int×Value)}{ep:Nat}{t:SetTable}
end
end SW
end
noncomputable section
namespace L2
open PySem PyProof.Rows
section
variable{X:Cx}
end
end L2
end
noncomputable section
namespace L2
open PySem PySem.Spec PyProof.Rows
section
variable{X:Cx}
end
section
variable{X:Cx}{tg:Expr}
end
section
variable{prog:Program}{w:World}{A:Around}{R:Result→Shared→Prop}{I S:Addr}{fp wr:List Addr}{n:Nat}{P:Nat→Value→Prop}{St:Nat→Heap→Prop}{bt:Nat→Nat→Bool}{d:Value}
end
section
variable{prog:Program}{w:World}{A:Around}{E:Value→Shared→Prop}{s:Shared}
end
section
variable{κ:Type}[DecidableEq κ]
noncomputable def valV(kvs:List (κ×V))(k:κ):Option V:=(kvs.find? fun kv=>decide (kv.1=k)).map (·.2)
theorem valV_pos{p:κ×V}{r:List (κ×V)}{k:κ}(e:p.1=k):valV (p::r) k=some p.2:=by simp [valV,List.find?_cons,e]
theorem valV_neg{p:κ×V}{r:List (κ×V)}{k:κ}(e:¬p.1=k):valV (p::r) k=valV r k:=by simp [valV,List.find?_cons,e]
theorem KV.val{kvs:List (κ×V)}{vs:List (κ×Value)}(r:KV kvs vs)(k:κ):RelO (valV kvs k) (valueAt vs k):=by
 unfold KV at r
 induction r with
 |nil=>exact True.intro
 | @cons p q ps qs h t ih=>
   obtain⟨h1,h2⟩:=h
   by_cases e:p.1=k
   ·have e':q.1=k:=h1.symm.trans e
    have b:valueAt (q::qs) k=some q.2:=by simp [valueAt,List.find?_cons,e']
    rw [valV_pos e,b];exact h2
   ·have e':¬q.1=k:=fun z=>e (h1.trans z)
    have b:valueAt (q::qs) k=valueAt qs k:=by simp [valueAt,List.find?_cons,e']
    rw [valV_neg e,b];exact ih
theorem KV.length{kvs:List (κ×V)}{vs:List (κ×Value)}(r:KV kvs vs):kvs.length=vs.length:=Paired.length r
end
theorem kV_is{P:Program}{w:World}{k:Key}{u:Value}(r:RelV (kV k) u):(mixKind P w).is k u=true:=by
 cases k with
 |inl i=>obtain⟨t,e⟩:=(show∃t,u=Value.int i t from r);subst e;exact mixKind_int P w i t
 |inr x=>obtain⟨t,e⟩:=(show∃t,u=Value.str x t from r);subst e;exact mixKind_str P w x t
section
variable{P:Program}{w:World}{H:Hp}{h:Heap}{a:Addr}
theorem rd_of{u:HO}(ok:HOk P w H h)(e:Rd H a u):ObjOk P w H h a u:=e.ok ok
theorem dk_rd{kvs:List (Key×V)}(ok:HOk P w H h)(e:Rd H a (.dK kvs)):kvs.length≤sizeLine∧(a==sysModules)=false∧∃vs,KV kvs vs∧h.DictOf (mixKind P w) a vs:=
 show ObjOk P w H h a (.dK kvs)from rd_of ok e
theorem dk_of{kvs:List (Key×V)}(ok:HOk P w H h)(e:H a=some (.dK kvs)):kvs.length≤sizeLine∧(a==sysModules)=false∧∃vs,KV kvs vs∧h.DictOf (mixKind P w) a vs:=dk_rd ok (.inl e)
end
section
variable{X:Cx}{pins:List (Addr×Obj)}{σ:St}{H:Hp}{s:Shared}{a:Addr}{y v:V}{u r:Value}{o:Option V}{A:Around}{E:Value→Shared→Prop}
theorem Inv.big(I:Inv X pins σ H s):sysModules<s.heap.objs.size:=by
 have h:mainGlobals<s.heap.objs.size:=(I.mod.glob.keeps I.bk).lt
 exact Nat.lt_trans (by decide) h
theorem d_write{h':Heap}{t':Nat}{ob:HO}(I:Inv X pins σ H s)(mu:Mut (H a))(hs:Heap.SameBut a s.heap h')(he:∃q,h'.get? a=some q)(new:ObjOk X.prog X.w (upd H a ob) h' a ob):
 Inv X pins σ (upd H a ob) {s with heap:=h',toks:=t'}:=
 I.write (x:=a) (e:=a) mu (.inl rfl) (fun b q hb z=>(hs.2 b hb).trans z) he new
theorem dk_new{P:Program}{w:World}{H':Hp}{h':Heap}{kvs:List (Key×V)}{vs:List (Key×Value)}(z:kvs.length≤sizeLine)(hd:(a==sysModules)=false)(rel:KV kvs vs)(dd:h'.DictOf (mixKind P w) a vs):
 ObjOk P w H' h' a (.dK kvs):=⟨z,hd,vs,rel,dd⟩
end
section
variable{X:Cx}{pos:Pos}
end
section
variable{X:Cx}
theorem ix_dK:IxR X (fun x y H Q=>∃a i kvs v,x=.ref a∧y=.int i∧Rd H a (.dK kvs)∧valV kvs (Sum.inl i)=some v∧Q v H):=by
 intro value slice pins s σ H x y v u Q I rx ry h hs
 obtain⟨a,i,kvs,z,rfl,rfl,e,l,q⟩:=h
 obtain rfl:v=Value.ref a:=rx
 obtain⟨_,hd,vs,rel,dd⟩:=dk_rd I.hok e
 obtain⟨w',hw,rw'⟩:=RelO.some_of (v:=z) (o:=valueAt vs (Sum.inl i)) (by rw [←l];exact rel.val _)
 exact tail_any dd.typeIs PySem.F.slot_dict_getitem.lookup (wpAny_getItem_of (kV_is (k:=Sum.inl i) ry) dd.mapOf hw ⟨z,H,I.tok _,rw',q⟩) hs
end
end L2
end
noncomputable section
namespace L2
open PySem PySem.Spec PyProof.Rows LX
noncomputable def steps(j d:Int):Nat:=if 0<j then((j-1)/d+1).toNat else 0
section
variable{X:Cx}{tg:Expr}
end
end L2
end
noncomputable section
namespace So
open PySem PyProof.Rows
structure WB(a₀:Array Keyed)(p:Array (Nat×Nat×Nat))(st:SortSt):Prop where
 perm:(arrOf st).Perm a₀
 kind:kindOf st=oneType'
 failed:failedOf st=none
 pend:pendingOf st=p
theorem WB.size{a₀:Array Keyed}{p:Array (Nat×Nat×Nat)}{st:SortSt}(h:WB a₀ p st):(arrOf st).size=a₀.size:=h.perm.size_eq
theorem WB.setArr{a₀:Array Keyed}{p:Array (Nat×Nat×Nat)}{st:SortSt}(h:WB a₀ p st){xs:Array Keyed}(hp:xs.Perm (arrOf st)):WB a₀ p (setArr st xs):=⟨hp.trans h.perm,h.kind,h.failed,h.pend⟩
def isI(p:Keyed):Prop:=∃n t,p.1=.int n t
theorem WB.at{a₀:Array Keyed}{p:Array (Nat×Nat×Nat)}{st:SortSt}(h:WB a₀ p st)(h0:IntKeys a₀){i:Nat}(hi:i<a₀.size):∃q,(arrOf st)[i]?=some q∧isI q:=by
 have hi':i<(arrOf st).size:=by rw [h.size];exact hi
 have hm:(arrOf st)[i]∈a₀.toList:=(Array.perm_iff_toList_perm.mp h.perm).mem_iff.mp (by simp)
 exact⟨_,getElem?_pos _ i hi',h0 _ hm⟩
section
variable{prog:Program}{w:World}{A:Around}{E:Value→Shared→Prop}{s:Shared}{a₀:Array Keyed}{pd:Array (Nat×Nat×Nat)}
theorem wpS_ltI{st:SortSt}{p q:Keyed}{Q:Option Bool→SortSt→Prop}(hk:kindOf st=oneType')(hp:isI p)(hq:isI q)(h:∀b,Q (some b) st):wpS (model prog w) A E s (lt' p q) Q st:=by
 obtain⟨n,t,e1⟩:=hp
 obtain⟨m,u,e2⟩:=hq
 rw [lt'_eq]
 refine wpS_bind (wpS_get ?_)
 rw [hk,keyLt'_oneType,e1,e2]
 refine wpS_bind (wpS_lift (wpAny_attempt (oneLt_int ⟨rfl,?_⟩)))
 exact wpS_pure (h _)
theorem wpS_elem{st:SortSt}{xs:Array Keyed}{i:Nat}{p:Keyed}{Q:Keyed→SortSt→Prop}(e:xs[i]?=some p)(h:Q p st):wpS (model prog w) A E s (elem' xs i) Q st:=by
 rw [elem'_eq,e];exact wpS_pure h
theorem wpS_ltW{st:SortSt}{i j:Nat}{Q:Option Bool→SortSt→Prop}(hB:WB a₀ pd st)(h0:IntKeys a₀)(hi:i<a₀.size)(hj:j<a₀.size)(h:∀b,Q (some b) st):wpS (model prog w) A E s (ltAt' i j) Q st:=by
 obtain⟨p,e1,i1⟩:=hB.at h0 hi
 obtain⟨q,e2,i2⟩:=hB.at h0 hj
 rw [ltAt'_eq]
 refine wpS_bind (wpS_get ?_)
 exact wpS_bind (wpS_elem e1 (wpS_bind (wpS_elem e2 (wpS_ltI hB.kind i1 i2 h))))
theorem wpS_revW{st:SortSt}{i j:Nat}{Q:Unit→SortSt→Prop}(hB:WB a₀ pd st)(h:∀st',WB a₀ pd st'→Q () st'):wpS (model prog w) A E s (reverseSlice' i j) Q st:=
 wpS_reverse (h _ (hB.setArr (mirror_perm _ _ _ _)))
theorem wpS_movW{st:SortSt}{i j:Nat}{Q:Unit→SortSt→Prop}(hB:WB a₀ pd st)(h:∀st',WB a₀ pd st'→Q () st'):wpS (model prog w) A E s (moveDown' i j) Q st:=by
 rw [moveDown'_eq];exact wpS_modify (h _ (hB.setArr (bubble_perm _ _ _)))
theorem wpS_binW{st:SortSt}{lo n ok:Nat}{Q:Bool→SortSt→Prop}(h0:IntKeys a₀)(hn:lo+n≤a₀.size)(hB:WB a₀ pd st)(h:∀st',WB a₀ pd st'→Q true st'):wpS (model prog w) A E s (binarySort' lo n ok) Q st:=by
 rw [binarySort'_eq]
 refine wpS_bind (wpS_mono (wpS_forRange (I:=fun k c st'=>c=(none,())∧WB a₀ pd st') (Q:=fun c st'=>c=(none,())∧WB a₀ pd st') ?step ?fin ⟨rfl,hB⟩) ?post)
 case post=>rintro c st' ⟨rfl,hB'⟩;exact wpS_pure (h st' hB')
 case fin=>exact fun c st' z=>z
 case step=>
  rintro k c st' hak hkn ⟨rfl,hB'⟩
  refine wpS_bind (wpS_mono (wpS_forRange (I:=fun x c st''=>st''=st'∧∃l r,c=(none,l,r)∧r≤k) (Q:=fun c st''=>st''=st'∧∃l r,c=(none,l,r)) ?istep ?ifin ⟨rfl,0,k,rfl,by lia⟩) ?ipost)
  case ifin=>rintro c st'' ⟨rfl,l,r,rfl,_⟩;exact⟨rfl,l,r,rfl⟩
  case istep=>
   rintro x c st'' _ hxk ⟨rfl,l,r,rfl,hr⟩
   dsimp only
   by_cases hge:l≥r
   ·rw [if_pos hge];exact wpS_pure ⟨rfl,l,r,rfl⟩
   ·rw [if_neg hge]
    refine wpS_bind (wpS_ltW hB' h0 (by lia) (by lia) fun b=> ?_)
    cases b
    ·exact wpS_pure ⟨rfl,_,_,rfl,hr⟩
    ·exact wpS_pure ⟨rfl,_,_,rfl,by lia⟩
  case ipost=>
   rintro c st'' ⟨rfl,l,r,rfl⟩
   exact wpS_bind (wpS_movW hB' fun st3 hB3=>wpS_pure ⟨rfl,hB3⟩)
theorem wpS_cntW{st:SortSt}{lo nrem:Nat}{Q:Option Nat→SortSt→Prop}(h0:IntKeys a₀)(hn:lo+nrem≤a₀.size)(h1:1≤nrem)(hB:WB a₀ pd st)(h:∀m st',WB a₀ pd st'→1≤m→m≤nrem→Q (some m) st'):wpS (model prog w) A E s (countRun' lo nrem) Q st:=by
 rw [countRun'_eq]
 refine wpS_bind (wpS_mono (wpS_forRange (I:=fun x c st'=>st'=st∧∃n,c=(none,n)∧1≤n∧n≤x) (Q:=fun c st'=>st'=st∧∃n,c=(none,n)∧1≤n∧n≤nrem) ?s1 ?f1 ⟨rfl,1,rfl,by lia,by lia⟩) ?p1)
 case f1=>rintro c st' ⟨rfl,n,rfl,n1,n2⟩;exact⟨rfl,n,rfl,n1,by lia⟩
 case s1=>
  rintro x c st' hx1 hx2 ⟨rfl,n,rfl,n1,n2⟩
  refine wpS_bind (wpS_ltW hB h0 (by lia) (by lia) fun b=> ?_)
  cases b
  ·exact wpS_pure ⟨rfl,n+1,rfl,by lia,by lia⟩
  ·exact wpS_pure ⟨rfl,n,rfl,n1,by lia⟩
 case p1=>
  rintro c st' ⟨rfl,n,rfl,n1,n2⟩
  dsimp only
  by_cases e:n=nrem
  ·rw [if_pos (by simpa using e)];exact wpS_pure (h n _ hB n1 n2)
  rw [if_neg (by simpa using e)]
  by_cases hgt:n>1
  ·rw [if_pos hgt]
   refine wpS_bind (wpS_ltW hB h0 (by lia) (by lia) fun b=> ?_)
   cases b
   ·refine wpS_bind (wpS_revW hB fun st2 hB2=> ?_)
    refine wpS_bind (wpS_lift (wpAny_rule ⟨rfl,?_⟩))
    refine wpS_bind (wpS_mono (wpS_forRange (I:=fun x c st'=>WB a₀ pd st'∧∃m q,c=(none,m,q)∧1≤m∧m≤x) (Q:=fun c st'=>WB a₀ pd st'∧∃m q,c=(none,m,q)∧1≤m∧m≤nrem) ?_ ?_ ⟨hB2,n+1,0,rfl,by lia,by lia⟩) ?_)
    ·rintro x c st3 hx1 hx2 ⟨hB3,m,q,rfl,m1,m2⟩
     dsimp only
     refine wpS_bind (wpS_ltW hB3 h0 (by lia) (by lia) fun b=> ?_)
     cases b
     ·refine wpS_bind (wpS_ltW hB3 h0 (by lia) (by lia) fun b=> ?_)
      cases b
      ·exact wpS_pure ⟨hB3,m+1,q+1,rfl,by lia,by lia⟩
      ·exact wpS_pure ⟨hB3,m,q,rfl,by lia,by lia⟩
     ·by_cases hq:q>0
      ·simp only [if_true,hq]
       exact wpS_bind (wpS_revW hB3 fun st4 hB4=>wpS_pure ⟨hB4,m+1,0,rfl,by lia,by lia⟩)
      ·simp only [if_true,hq,if_false]
       exact wpS_pure ⟨hB3,m+1,0,rfl,by lia,by lia⟩
    ·rintro c st3 ⟨hB3,m,q,rfl,m1,m2⟩;exact⟨hB3,m,q,rfl,by lia,by lia⟩
    ·rintro c st3 ⟨hB3,m,q,rfl,m1,m2⟩
     dsimp only
     by_cases hq:q>0
     ·rw [if_pos hq]
      refine wpS_bind (wpS_revW hB3 fun st5 hB5=> ?_)
      refine wpS_bind (wpS_revW hB5 fun st6 hB6=> ?_)
      refine wpS_bind (wpS_mono (wpS_forRange (I:=fun x c st'=>st'=st6∧∃m',c=(none,m')∧1≤m'∧m'≤x) (Q:=fun c st'=>st'=st6∧∃m',c=(none,m')∧1≤m'∧m'≤nrem) ?_ ?_ ⟨rfl,m,rfl,by lia,by lia⟩) ?_)
      ·rintro x c st' hx1 hx2 ⟨rfl,m',rfl,k1,k2⟩
       dsimp only
       refine wpS_bind (wpS_ltW hB6 h0 (by lia) (by lia) fun b=> ?_)
       cases b
       ·exact wpS_pure ⟨rfl,m'+1,rfl,by lia,by lia⟩
       ·exact wpS_pure ⟨rfl,m',rfl,k1,by lia⟩
      ·rintro c st' ⟨rfl,m',rfl,k1,k2⟩;exact⟨rfl,m',rfl,k1,by lia⟩
      ·rintro c st' ⟨rfl,m',rfl,k1,k2⟩
       exact wpS_pure (h m' _ hB6 k1 k2)
     ·rw [if_neg hq]
      have hB5:=hB3
      refine wpS_bind (wpS_revW hB5 fun st6 hB6=> ?_)
      refine wpS_bind (wpS_mono (wpS_forRange (I:=fun x c st'=>st'=st6∧∃m',c=(none,m')∧1≤m'∧m'≤x) (Q:=fun c st'=>st'=st6∧∃m',c=(none,m')∧1≤m'∧m'≤nrem) ?_ ?_ ⟨rfl,m,rfl,by lia,by lia⟩) ?_)
      ·rintro x c st' hx1 hx2 ⟨rfl,m',rfl,k1,k2⟩
       dsimp only
       refine wpS_bind (wpS_ltW hB6 h0 (by lia) (by lia) fun b=> ?_)
       cases b
       ·exact wpS_pure ⟨rfl,m'+1,rfl,by lia,by lia⟩
       ·exact wpS_pure ⟨rfl,m',rfl,k1,by lia⟩
      ·rintro c st' ⟨rfl,m',rfl,k1,k2⟩;exact⟨rfl,m',rfl,k1,by lia⟩
      ·rintro c st' ⟨rfl,m',rfl,k1,k2⟩
       exact wpS_pure (h m' _ hB6 k1 k2)
   ·exact wpS_pure (h n _ hB n1 n2)
  ·rw [if_neg hgt]
   have hB2:=hB
   refine wpS_bind (wpS_lift (wpAny_rule ⟨rfl,?_⟩))
   refine wpS_bind (wpS_mono (wpS_forRange (I:=fun x c st'=>WB a₀ pd st'∧∃m q,c=(none,m,q)∧1≤m∧m≤x) (Q:=fun c st'=>WB a₀ pd st'∧∃m q,c=(none,m,q)∧1≤m∧m≤nrem) ?_ ?_ ⟨hB2,n+1,0,rfl,by lia,by lia⟩) ?_)
   ·rintro x c st3 hx1 hx2 ⟨hB3,m,q,rfl,m1,m2⟩
    dsimp only
    refine wpS_bind (wpS_ltW hB3 h0 (by lia) (by lia) fun b=> ?_)
    cases b
    ·refine wpS_bind (wpS_ltW hB3 h0 (by lia) (by lia) fun b=> ?_)
     cases b
     ·exact wpS_pure ⟨hB3,m+1,q+1,rfl,by lia,by lia⟩
     ·exact wpS_pure ⟨hB3,m,q,rfl,by lia,by lia⟩
    ·by_cases hq:q>0
     ·simp only [if_true,hq]
      exact wpS_bind (wpS_revW hB3 fun st4 hB4=>wpS_pure ⟨hB4,m+1,0,rfl,by lia,by lia⟩)
     ·simp only [if_true,hq,if_false]
      exact wpS_pure ⟨hB3,m+1,0,rfl,by lia,by lia⟩
   ·rintro c st3 ⟨hB3,m,q,rfl,m1,m2⟩;exact⟨hB3,m,q,rfl,by lia,by lia⟩
   ·rintro c st3 ⟨hB3,m,q,rfl,m1,m2⟩
    dsimp only
    by_cases hq:q>0
    ·rw [if_pos hq]
     refine wpS_bind (wpS_revW hB3 fun st5 hB5=> ?_)
     refine wpS_bind (wpS_revW hB5 fun st6 hB6=> ?_)
     refine wpS_bind (wpS_mono (wpS_forRange (I:=fun x c st'=>st'=st6∧∃m',c=(none,m')∧1≤m'∧m'≤x) (Q:=fun c st'=>st'=st6∧∃m',c=(none,m')∧1≤m'∧m'≤nrem) ?_ ?_ ⟨rfl,m,rfl,by lia,by lia⟩) ?_)
     ·rintro x c st' hx1 hx2 ⟨rfl,m',rfl,k1,k2⟩
      dsimp only
      refine wpS_bind (wpS_ltW hB6 h0 (by lia) (by lia) fun b=> ?_)
      cases b
      ·exact wpS_pure ⟨rfl,m'+1,rfl,by lia,by lia⟩
      ·exact wpS_pure ⟨rfl,m',rfl,k1,by lia⟩
     ·rintro c st' ⟨rfl,m',rfl,k1,k2⟩;exact⟨rfl,m',rfl,k1,by lia⟩
     ·rintro c st' ⟨rfl,m',rfl,k1,k2⟩
      exact wpS_pure (h m' _ hB6 k1 k2)
    ·rw [if_neg hq]
     have hB5:=hB3
     refine wpS_bind (wpS_revW hB5 fun st6 hB6=> ?_)
     refine wpS_bind (wpS_mono (wpS_forRange (I:=fun x c st'=>st'=st6∧∃m',c=(none,m')∧1≤m'∧m'≤x) (Q:=fun c st'=>st'=st6∧∃m',c=(none,m')∧1≤m'∧m'≤nrem) ?_ ?_ ⟨rfl,m,rfl,by lia,by lia⟩) ?_)
     ·rintro x c st' hx1 hx2 ⟨rfl,m',rfl,k1,k2⟩
      dsimp only
      refine wpS_bind (wpS_ltW hB6 h0 (by lia) (by lia) fun b=> ?_)
      cases b
      ·exact wpS_pure ⟨rfl,m'+1,rfl,by lia,by lia⟩
      ·exact wpS_pure ⟨rfl,m',rfl,k1,by lia⟩
     ·rintro c st' ⟨rfl,m',rfl,k1,k2⟩;exact⟨rfl,m',rfl,k1,by lia⟩
     ·rintro c st' ⟨rfl,m',rfl,k1,k2⟩
      exact wpS_pure (h m' _ hB6 k1 k2)
end
end So
end
noncomputable section
namespace So
open PySem PyProof.Rows
noncomputable def gallop':Bool→Keyed→Array Keyed→Nat→Nat→Nat→StateT SortSt Sem (Option Nat):=sortPriv% PySem.Builtin.gallop
noncomputable def setMinGallop':Nat→StateT SortSt Sem Unit:=sortPriv% PySem.Builtin.setMinGallop
noncomputable def beyond'(left:Bool)(key:Keyed)(arr:Array Keyed)(base i:Nat):StateT SortSt Sem (Option Bool):=do
 let x←elem' arr (base+i)
 if left then lt' x key else return (←lt' key x).map (!·)
theorem gallop'_eq(left:Bool)(key:Keyed)(arr:Array Keyed)(base n hint:Nat):gallop' left key arr base n hint=(do
 let mut lastofs:=0
 let mut ofs:=1
 let mut lo:=0
 let mut hi:=0
 let some right←beyond' left key arr base hint|return none
 if right then
  let maxofs:=n-hint
  for _ in [0:n] do
   if ofs≥maxofs then break
   let some more←beyond' left key arr base (hint+ofs)|return none
   if !more then break
   lastofs:=ofs
   ofs:=2*ofs+1
  lo:=hint+lastofs+1
  hi:=hint+min ofs maxofs
 else
  let maxofs:=hint+1
  for _ in [0:n] do
   if ofs≥maxofs then break
   let some found←beyond' left key arr base (hint-ofs)|return none
   if found then break
   lastofs:=ofs
   ofs:=2*ofs+1
  lo:=hint+1-min ofs maxofs
  hi:=hint-lastofs
 for _ in [0:n] do
  if lo≥hi then break
  let m:=lo+(hi-lo)/2
  let some more←beyond' left key arr base m|return none
  if more then lo:=m+1 else hi:=m
 return some hi):=rfl
def AI(xs:Array Keyed):Prop:=∀p,p∈xs.toList→isI p
theorem AI.at{xs:Array Keyed}(h:AI xs){i:Nat}(hi:i<xs.size):∃q,xs[i]?=some q∧isI q:=⟨_,getElem?_pos _ i hi,h _ (by simp)⟩
section
variable{prog:Program}{w:World}{A:Around}{E:Value→Shared→Prop}{s:Shared}
theorem wpS_bey{st:SortSt}{left:Bool}{key:Keyed}{arr:Array Keyed}{base i:Nat}{Q:Option Bool→SortSt→Prop}(hk:kindOf st=oneType')(ha:AI arr)(ik:isI key)(hi:base+i<arr.size)(h:∀b,Q (some b) st):wpS (model prog w) A E s (beyond' left key arr base i) Q st:=by
 obtain⟨q,e,iq⟩:=ha.at hi
 unfold beyond'
 refine wpS_bind (wpS_elem e ?_)
 cases left
 ·exact wpS_bind (wpS_ltI hk ik iq fun b=>wpS_pure (h _))
 ·exact wpS_ltI hk iq ik h
theorem wpS_gal{st:SortSt}{left:Bool}{key:Keyed}{arr:Array Keyed}{base n hint:Nat}{Q:Option Nat→SortSt→Prop}(hk:kindOf st=oneType')(ha:AI arr)(ik:isI key)(hb:base+n≤arr.size)(hh:hint<n)(h:∀k,k≤n→Q (some k) st):wpS (model prog w) A E s (gallop' left key arr base n hint) Q st:=by
 rw [gallop'_eq]
 dsimp only
 refine wpS_bind (wpS_bey hk ha ik (by lia) fun b=> ?_)
 cases b
 ·dsimp only
  rw [if_neg (by simp)]
  refine wpS_bind (wpS_mono (wpS_forRange (I:=fun x c st'=>st=st'∧∃l r,c=(none,l,r)∧l≤r) (Q:=fun c st'=>st=st'∧∃l r,c=(none,l,r)∧l≤r) ?_ (fun c st' z=>z) ⟨rfl,_,_,rfl,by lia⟩) ?_)
  ·rintro x c st' hx1 hx2 ⟨rfl,l,r,rfl,hr⟩
   dsimp only
   by_cases hge:r≥hint+1
   ·rw [if_pos hge];exact wpS_pure ⟨rfl,l,r,rfl,hr⟩
   ·rw [if_neg hge]
    refine wpS_bind (wpS_bey hk ha ik (by lia) fun b=> ?_)
    cases b
    ·exact wpS_pure ⟨rfl,_,_,rfl,by lia⟩
    ·exact wpS_pure ⟨rfl,_,_,rfl,by lia⟩
  ·rintro c st' ⟨rfl,l,r,rfl,hr⟩
   dsimp only
   refine wpS_bind (wpS_mono (wpS_forRange (I:=fun x c st'=>st=st'∧∃l r,c=(none,l,r)∧r≤n) (Q:=fun c st'=>st=st'∧∃l r,c=(none,l,r)∧r≤n) ?_ (fun c st' z=>z) ⟨rfl,_,_,rfl,by lia⟩) ?_)
   ·rintro x c st' hx1 hx2 ⟨rfl,l,r,rfl,hr⟩
    dsimp only
    by_cases hge:l≥r
    ·rw [if_pos hge];exact wpS_pure ⟨rfl,l,r,rfl,hr⟩
    ·rw [if_neg hge]
     refine wpS_bind (wpS_bey hk ha ik (by lia) fun b=> ?_)
     cases b
     ·exact wpS_pure ⟨rfl,_,_,rfl,by lia⟩
     ·exact wpS_pure ⟨rfl,_,_,rfl,by lia⟩
   ·rintro c st' ⟨rfl,l,r,rfl,hr⟩
    exact wpS_pure (h r hr)
 ·dsimp only
  rw [if_pos rfl]
  refine wpS_bind (wpS_mono (wpS_forRange (I:=fun x c st'=>st=st'∧∃l r,c=(none,l,r)∧l≤r) (Q:=fun c st'=>st=st'∧∃l r,c=(none,l,r)∧l≤r) ?_ (fun c st' z=>z) ⟨rfl,_,_,rfl,by lia⟩) ?_)
  ·rintro x c st' hx1 hx2 ⟨rfl,l,r,rfl,hr⟩
   dsimp only
   by_cases hge:r≥n-hint
   ·rw [if_pos hge];exact wpS_pure ⟨rfl,l,r,rfl,hr⟩
   ·rw [if_neg hge]
    refine wpS_bind (wpS_bey hk ha ik (by lia) fun b=> ?_)
    cases b
    ·exact wpS_pure ⟨rfl,_,_,rfl,by lia⟩
    ·exact wpS_pure ⟨rfl,_,_,rfl,by lia⟩
  ·rintro c st' ⟨rfl,l,r,rfl,hr⟩
   dsimp only
   refine wpS_bind (wpS_mono (wpS_forRange (I:=fun x c st'=>st=st'∧∃l r,c=(none,l,r)∧r≤n) (Q:=fun c st'=>st=st'∧∃l r,c=(none,l,r)∧r≤n) ?_ (fun c st' z=>z) ⟨rfl,_,_,rfl,by lia⟩) ?_)
   ·rintro x c st' hx1 hx2 ⟨rfl,l,r,rfl,hr⟩
    dsimp only
    by_cases hge:l≥r
    ·rw [if_pos hge];exact wpS_pure ⟨rfl,l,r,rfl,hr⟩
    ·rw [if_neg hge]
     refine wpS_bind (wpS_bey hk ha ik (by lia) fun b=> ?_)
     cases b
     ·exact wpS_pure ⟨rfl,_,_,rfl,by lia⟩
     ·exact wpS_pure ⟨rfl,_,_,rfl,by lia⟩
   ·rintro c st' ⟨rfl,l,r,rfl,hr⟩
    exact wpS_pure (h r hr)
end
end So
end
noncomputable section
namespace So
open PySem PyProof.Rows
noncomputable def mergeLo':Array Keyed→Array Keyed→StateT SortSt Sem (Array Keyed):=sortPriv% PySem.Builtin.mergeLo
noncomputable def mergeHi':Array Keyed→Array Keyed→StateT SortSt Sem (Array Keyed):=sortPriv% PySem.Builtin.mergeHi
theorem setMinGallop'_eq(g:Nat):setMinGallop' g=modify fun s=>SortSt.mk' (kindOf s) (arrOf s) (pendingOf s) g (failedOf s):=rfl
theorem mergeLo'_eq(a b:Array Keyed):mergeLo' a b=(do
 rule "list.sort.merge-lo"
 let total:=a.size+b.size
 let done (out:Array Keyed) (ia ib:Nat):=out++a.extract ia a.size++b.extract ib b.size
 let lastOfA (out:Array Keyed) (ia ib:Nat):=out++b.extract ib b.size++a.extract ia a.size
 let mut out:Array Keyed:= #[←elem' b 0]
 let mut ia:=0
 let mut ib:=1
 if ib==b.size then return done out ia ib
 if ia+1==a.size then return lastOfA out ia ib
 let mut minGallop:=gallopOf (←get)
 for _ in [0:total] do
  let mut acount:=0
  let mut bcount:=0
  for _ in [0:total] do
   let some bWins←lt' (←elem' b ib) (←elem' a ia)|return done out ia ib
   if bWins then
    out:=out.push (←elem' b ib);ib:=ib+1;bcount:=bcount+1;acount:=0
    if ib==b.size then return done out ia ib
    if bcount≥minGallop then break
   else
    out:=out.push (←elem' a ia);ia:=ia+1;acount:=acount+1;bcount:=0
    if ia+1==a.size then return lastOfA out ia ib
    if acount≥minGallop then break
  rule "list.sort.gallop"
  minGallop:=minGallop+1
  for _ in [0:total] do
   if minGallop>1 then minGallop:=minGallop-1
   setMinGallop' minGallop
   let some k←gallop' false (←elem' b ib) a ia (a.size-ia) 0|return done out ia ib
   acount:=k
   if k>0 then
    out:=out++a.extract ia (ia+k);ia:=ia+k
    if ia+1==a.size then return lastOfA out ia ib
    if ia==a.size then return done out ia ib
   out:=out.push (←elem' b ib);ib:=ib+1
   if ib==b.size then return done out ia ib
   let some k←gallop' true (←elem' a ia) b ib (b.size-ib) 0|return done out ia ib
   bcount:=k
   if k>0 then
    out:=out++b.extract ib (ib+k);ib:=ib+k
    if ib==b.size then return done out ia ib
   out:=out.push (←elem' a ia);ia:=ia+1
   if ia+1==a.size then return lastOfA out ia ib
   if acount<7&&bcount<7 then break
  minGallop:=minGallop+1
  setMinGallop' minGallop
 unsupported "internal:list.sort.merge-bound"):=rfl
def MP(a b out:Array Keyed)(ia ib:Nat):Prop:=(out.toList++(a.toList.drop ia++b.toList.drop ib)).Perm (a.toList++b.toList)
theorem ext_drop(xs:Array Keyed)(i:Nat):(xs.extract i xs.size).toList=xs.toList.drop i:=by
 rw [Array.toList_extract,List.extract_eq_take_drop]
 exact List.take_of_length_le (by simp)
theorem MP.done{a b out:Array Keyed}{ia ib:Nat}(h:MP a b out ia ib):(out++a.extract ia a.size++b.extract ib b.size).Perm (a++b):=by
 rw [Array.perm_iff_toList_perm,Array.toList_append,Array.toList_append,Array.toList_append,ext_drop,ext_drop,List.append_assoc]
 exact h
theorem MP.last{a b out:Array Keyed}{ia ib:Nat}(h:MP a b out ia ib):(out++b.extract ib b.size++a.extract ia a.size).Perm (a++b):=by
 rw [Array.perm_iff_toList_perm,Array.toList_append,Array.toList_append,Array.toList_append,ext_drop,ext_drop,List.append_assoc]
 have h2:(out.toList++(b.toList.drop ib++a.toList.drop ia)).Perm (a.toList++b.toList):=(List.Perm.append_left _ List.perm_append_comm).trans h
 exact h2
theorem MP.pushB{a b out:Array Keyed}{ia ib:Nat}{p:Keyed}(h:MP a b out ia ib)(e:b[ib]?=some p):MP a b (out.push p) ia (ib+1):=by
 unfold MP at h⊢
 have e2:b.toList.drop ib=p::b.toList.drop (ib+1):=by
  have:b.toList[ib]?=some p:=by simpa using e
  exact List.drop_eq_getElem?_toList_append.trans (by rw [this];rfl)
 rw [e2]at h
 refine List.Perm.trans ?_ h
 rw [Array.toList_push,List.append_assoc]
 exact List.Perm.append_left _ (show(p::(a.toList.drop ia++b.toList.drop (ib+1))).Perm _ from List.perm_middle.symm)
theorem MP.pushA{a b out:Array Keyed}{ia ib:Nat}{p:Keyed}(h:MP a b out ia ib)(e:a[ia]?=some p):MP a b (out.push p) (ia+1) ib:=by
 unfold MP at h⊢
 have e2:a.toList.drop ia=p::a.toList.drop (ia+1):=by
  have:a.toList[ia]?=some p:=by simpa using e
  exact List.drop_eq_getElem?_toList_append.trans (by rw [this];rfl)
 rw [e2]at h
 rw [Array.toList_push,List.append_assoc]
 exact h
theorem MP.cutA{a b out:Array Keyed}{ia ib k:Nat}(h:MP a b out ia ib):MP a b (out++a.extract ia (ia+k)) (ia+k) ib:=by
 unfold MP at h⊢
 have e2:a.toList.drop ia=(a.toList.drop ia).take k++a.toList.drop (ia+k):=by rw [←List.drop_drop,List.take_append_drop]
 rw [e2]at h
 simpa [List.extract_eq_take_drop]using h
theorem MP.cutB{a b out:Array Keyed}{ia ib k:Nat}(h:MP a b out ia ib):MP a b (out++b.extract ib (ib+k)) ia (ib+k):=by
 unfold MP at h⊢
 have e2:b.toList.drop ib=(b.toList.drop ib).take k++b.toList.drop (ib+k):=by rw [←List.drop_drop,List.take_append_drop]
 rw [e2]at h
 have h2:(out.toList++((b.toList.drop ib).take k++(a.toList.drop ia++b.toList.drop (ib+k)))).Perm (a.toList++b.toList):=by
  refine List.Perm.trans (List.Perm.append_left _ ?_) h
  rw [←List.append_assoc,←List.append_assoc]
  exact List.Perm.append_right _ List.perm_append_comm
 simpa [List.extract_eq_take_drop]using h2
end So
end
noncomputable section
namespace So
open PySem PyProof.Rows
structure SG(st st':SortSt):Prop where
 a:arrOf st'=arrOf st
 k:kindOf st'=kindOf st
 p:pendingOf st'=pendingOf st
 f:failedOf st'=failedOf st
theorem SG.refl(st:SortSt):SG st st:=⟨rfl,rfl,rfl,rfl⟩
theorem SG.trans{s1 s2 s3:SortSt}(h:SG s1 s2)(h':SG s2 s3):SG s1 s3:=⟨h'.a.trans h.a,h'.k.trans h.k,h'.p.trans h.p,h'.f.trans h.f⟩
section
variable{prog:Program}{w:World}{A:Around}{E:Value→Shared→Prop}{s:Shared}
theorem wpS_setG{st:SortSt}{g:Nat}{Q:Unit→SortSt→Prop}(h:∀st',SG st st'→Q () st'):wpS (model prog w) A E s (setMinGallop' g) Q st:=by
 rw [setMinGallop'_eq];exact wpS_modify (h _ ⟨rfl,rfl,rfl,rfl⟩)
theorem wpS_mLo{st:SortSt}{a b:Array Keyed}{Q:Array Keyed→SortSt→Prop}(ha:AI a)(hb:AI b)(a1:1≤a.size)(b1:1≤b.size)(hk:kindOf st=oneType')(h:∀out st',SG st st'→out.Perm (a++b)→Q out st'):wpS (model prog w) A E s (mergeLo' a b) Q st:=by
 rw [mergeLo'_eq]
 refine wpS_bind (wpS_lift (wpAny_rule ⟨rfl,?_⟩))
 obtain⟨p0,e0,i0⟩:=hb.at (i:=0) (by lia)
 refine wpS_bind (wpS_elem e0 ?_)
 dsimp only
 have m0:MP a b #[p0] 0 1:=(show MP a b #[] 0 0 from List.Perm.refl _).pushB e0
 by_cases c1:1=b.size
 ·rw [if_pos (by simpa using c1)];exact wpS_pure (h _ _ (.refl _) m0.done)
 rw [if_neg (by simpa using c1)]
 by_cases c2:1=a.size
 ·rw [if_pos (by simpa using c2)];exact wpS_pure (h _ _ (.refl _) m0.last)
 rw [if_neg (by simpa using c2)]
 refine wpS_bind (wpS_get ?_)
 refine wpS_bind (wpS_mono (wpS_forRange (I:=fun x c st'=>SG st st'∧∃out ia ib g,c=(none,out,ia,ib,g)∧MP a b out ia ib∧ia+1<a.size∧ib<b.size∧x+1≤ia+ib) (Q:=fun c st'=>SG st st'∧∃r:Array Keyed,c.1=some r∧r.Perm (a++b)) ?step ?fin ⟨.refl _,_,_,_,_,rfl,m0,by lia,by lia,by lia⟩) ?post)
 case fin=>
  rintro c st' ⟨_,out,ia,ib,g,rfl,m,x1,x2,x3⟩
  lia
 case post=>
  rintro c st' ⟨sg,r,e,hp⟩
  rw [e]
  exact wpS_pure (h r _ sg hp)
 case step=>
  rintro x c st1 hx1 hx2 ⟨sg,out,ia,ib,g,rfl,m,l1,l2,l3⟩
  dsimp only
  refine wpS_bind (wpS_mono (wpS_forRange (I:=fun y c st'=>st1=st'∧∃out ia ib ac bc,c=(none,out,ia,ib,ac,bc)∧MP a b out ia ib∧ia+1<a.size∧ib<b.size∧x+1≤ia+ib) (Q:=fun c st'=>st1=st'∧((∃r:Array Keyed,c.1=some r∧r.Perm (a++b))∨(∃out ia ib ac bc,c=(none,out,ia,ib,ac,bc)∧MP a b out ia ib∧ia+1<a.size∧ib<b.size∧x+1≤ia+ib))) ?istep ?ifin ⟨rfl,_,_,_,_,_,rfl,m,l1,l2,l3⟩) ?ipost)
  case ifin=>
   rintro c st' ⟨rfl,z⟩;exact⟨rfl,.inr z⟩
  case istep=>
   rintro y c st' _ _ ⟨rfl,out,ia,ib,ac,bc,rfl,m,l1,l2,l3⟩
   obtain⟨pb,eb,jb⟩:=hb.at l2
   obtain⟨pa,ea,ja⟩:=ha.at (i:=ia) (by lia)
   dsimp only
   refine wpS_bind (wpS_elem eb (wpS_bind (wpS_elem ea (wpS_bind (wpS_ltI (sg.k.trans hk) jb ja fun bw=> ?_)))))
   cases bw
   ·simp only [Bool.false_eq_true,if_false]
    refine wpS_bind (wpS_elem ea ?_)
    by_cases c3:ia+1+1=a.size
    ·rw [if_pos (by simpa using c3)];exact wpS_pure ⟨rfl,.inl ⟨_,rfl,(m.pushA ea).last⟩⟩
    rw [if_neg (by simpa using c3)]
    split
    ·exact wpS_pure ⟨rfl,.inr ⟨_,_,_,_,_,rfl,m.pushA ea,by lia,l2,by lia⟩⟩
    ·exact wpS_pure ⟨rfl,_,_,_,_,_,rfl,m.pushA ea,by lia,l2,by lia⟩
   ·simp only [if_true]
    refine wpS_bind (wpS_elem eb ?_)
    by_cases c3:ib+1=b.size
    ·rw [if_pos (by simpa using c3)];exact wpS_pure ⟨rfl,.inl ⟨_,rfl,(m.pushB eb).done⟩⟩
    rw [if_neg (by simpa using c3)]
    split
    ·exact wpS_pure ⟨rfl,.inr ⟨_,_,_,_,_,rfl,m.pushB eb,l1,by lia,by lia⟩⟩
    ·exact wpS_pure ⟨rfl,_,_,_,_,_,rfl,m.pushB eb,l1,by lia,by lia⟩
  case ipost=>
   rintro c st' ⟨rfl,z⟩
   rcases z with⟨r,er,hp⟩|⟨out,ia,ib,ac,bc,rfl,m,l1,l2,l3⟩
   ·rw [er];exact wpS_pure ⟨sg,r,rfl,hp⟩
   dsimp only
   refine wpS_bind (wpS_lift (wpAny_rule ⟨rfl,?_⟩))
   refine wpS_bind (wpS_mono (wpS_forRange (I:=fun y c st'=>SG st st'∧∃out ia ib g ac bc,c=(none,out,ia,ib,g,ac,bc)∧MP a b out ia ib∧ia+1<a.size∧ib<b.size∧x+1+min y 1≤ia+ib) (Q:=fun c st'=>SG st st'∧((∃r:Array Keyed,c.1=some r∧r.Perm (a++b))∨(∃out ia ib g ac bc,c=(none,out,ia,ib,g,ac,bc)∧MP a b out ia ib∧ia+1<a.size∧ib<b.size∧x+2≤ia+ib))) ?gstep ?gfin ⟨sg,_,_,_,_,_,_,rfl,m,l1,l2,by lia⟩) ?gpost)
   case gfin=>
    rintro c st' ⟨sg,out,ia,ib,g,ac,bc,rfl,m,l1,l2,l3⟩;exact⟨sg,.inr ⟨_,_,_,_,_,_,rfl,m,l1,l2,by lia⟩⟩
   case gpost=>
    rintro c st' ⟨sg,z⟩
    rcases z with⟨r,er,hp⟩|⟨out,ia,ib,g,ac,bc,rfl,m,l1,l2,l3⟩
    ·rw [er];exact wpS_pure ⟨sg,r,rfl,hp⟩
    dsimp only
    exact wpS_bind (wpS_setG fun st'' sg'=>wpS_pure ⟨sg.trans sg',_,_,_,_,rfl,m,l1,l2,by lia⟩)
   case gstep=>
    rintro y c st' _ _ ⟨sg,out,ia,ib,g,ac,bc,rfl,m,l1,l2,l3⟩
    obtain⟨pb,eb,jb⟩:=hb.at l2
    dsimp only
    by_cases g1:g>1
    ·rw [if_pos g1]
     refine wpS_bind (wpS_setG fun st2 sg1=> ?_)
     have sg2:=sg.trans sg1
     refine wpS_bind (wpS_elem eb (wpS_bind (wpS_gal (sg2.k.trans hk) ha jb (by lia) (by lia) fun k hk1=> ?_)))
     dsimp only
     by_cases k0:k>0
     ·rw [if_pos k0]
      have m1:=m.cutA (k:=k)
      by_cases c1:ia+k+1=a.size
      ·rw [if_pos (by simpa using c1)];exact wpS_pure ⟨sg2,.inl ⟨_,rfl,m1.last⟩⟩
      rw [if_neg (by simpa using c1)]
      by_cases c2:ia+k=a.size
      ·rw [if_pos (by simpa using c2)];exact wpS_pure ⟨sg2,.inl ⟨_,rfl,m1.done⟩⟩
      rw [if_neg (by simpa using c2)]
      refine wpS_bind (wpS_elem eb ?_)
      have m2:=m1.pushB eb
      by_cases c3:ib+1=b.size
      ·rw [if_pos (by simpa using c3)];exact wpS_pure ⟨sg2,.inl ⟨_,rfl,m2.done⟩⟩
      rw [if_neg (by simpa using c3)]
      obtain⟨pa,ea,ja⟩:=ha.at (i:=(ia+k)) (by lia)
      refine wpS_bind (wpS_elem ea (wpS_bind (wpS_gal (sg2.k.trans hk) hb ja (by lia) (by lia) fun k2 hk2=> ?_)))
      dsimp only
      by_cases k20:k2>0
      ·rw [if_pos k20]
       have m3:=m2.cutB (k:=k2)
       by_cases c4:ib+1+k2=b.size
       ·rw [if_pos (by simpa using c4)];exact wpS_pure ⟨sg2,.inl ⟨_,rfl,m3.done⟩⟩
       rw [if_neg (by simpa using c4)]
       refine wpS_bind (wpS_elem ea ?_)
       by_cases c5:(ia+k)+1+1=a.size
       ·rw [if_pos (by simpa using c5)];exact wpS_pure ⟨sg2,.inl ⟨_,rfl,(m3.pushA ea).last⟩⟩
       rw [if_neg (by simpa using c5)]
       split
       ·exact wpS_pure ⟨sg2,.inr ⟨_,_,_,_,_,_,rfl,m3.pushA ea,by lia,by lia,by lia⟩⟩
       ·exact wpS_pure ⟨sg2,_,_,_,_,_,_,rfl,m3.pushA ea,by lia,by lia,by lia⟩
      ·rw [if_neg k20]
       have m3:=m2
       refine wpS_bind (wpS_elem ea ?_)
       by_cases c5:(ia+k)+1+1=a.size
       ·rw [if_pos (by simpa using c5)];exact wpS_pure ⟨sg2,.inl ⟨_,rfl,(m3.pushA ea).last⟩⟩
       rw [if_neg (by simpa using c5)]
       split
       ·exact wpS_pure ⟨sg2,.inr ⟨_,_,_,_,_,_,rfl,m3.pushA ea,by lia,by lia,by lia⟩⟩
       ·exact wpS_pure ⟨sg2,_,_,_,_,_,_,rfl,m3.pushA ea,by lia,by lia,by lia⟩
     ·rw [if_neg k0]
      have m1:=m
      refine wpS_bind (wpS_elem eb ?_)
      have m2:=m1.pushB eb
      by_cases c3:ib+1=b.size
      ·rw [if_pos (by simpa using c3)];exact wpS_pure ⟨sg2,.inl ⟨_,rfl,m2.done⟩⟩
      rw [if_neg (by simpa using c3)]
      obtain⟨pa,ea,ja⟩:=ha.at (i:=ia) (by lia)
      refine wpS_bind (wpS_elem ea (wpS_bind (wpS_gal (sg2.k.trans hk) hb ja (by lia) (by lia) fun k2 hk2=> ?_)))
      dsimp only
      by_cases k20:k2>0
      ·rw [if_pos k20]
       have m3:=m2.cutB (k:=k2)
       by_cases c4:ib+1+k2=b.size
       ·rw [if_pos (by simpa using c4)];exact wpS_pure ⟨sg2,.inl ⟨_,rfl,m3.done⟩⟩
       rw [if_neg (by simpa using c4)]
       refine wpS_bind (wpS_elem ea ?_)
       by_cases c5:ia+1+1=a.size
       ·rw [if_pos (by simpa using c5)];exact wpS_pure ⟨sg2,.inl ⟨_,rfl,(m3.pushA ea).last⟩⟩
       rw [if_neg (by simpa using c5)]
       split
       ·exact wpS_pure ⟨sg2,.inr ⟨_,_,_,_,_,_,rfl,m3.pushA ea,by lia,by lia,by lia⟩⟩
       ·exact wpS_pure ⟨sg2,_,_,_,_,_,_,rfl,m3.pushA ea,by lia,by lia,by lia⟩
      ·rw [if_neg k20]
       have m3:=m2
       refine wpS_bind (wpS_elem ea ?_)
       by_cases c5:ia+1+1=a.size
       ·rw [if_pos (by simpa using c5)];exact wpS_pure ⟨sg2,.inl ⟨_,rfl,(m3.pushA ea).last⟩⟩
       rw [if_neg (by simpa using c5)]
       split
       ·exact wpS_pure ⟨sg2,.inr ⟨_,_,_,_,_,_,rfl,m3.pushA ea,by lia,by lia,by lia⟩⟩
       ·exact wpS_pure ⟨sg2,_,_,_,_,_,_,rfl,m3.pushA ea,by lia,by lia,by lia⟩
    ·rw [if_neg g1]
     refine wpS_bind (wpS_setG fun st2 sg1=> ?_)
     have sg2:=sg.trans sg1
     refine wpS_bind (wpS_elem eb (wpS_bind (wpS_gal (sg2.k.trans hk) ha jb (by lia) (by lia) fun k hk1=> ?_)))
     dsimp only
     by_cases k0:k>0
     ·rw [if_pos k0]
      have m1:=m.cutA (k:=k)
      by_cases c1:ia+k+1=a.size
      ·rw [if_pos (by simpa using c1)];exact wpS_pure ⟨sg2,.inl ⟨_,rfl,m1.last⟩⟩
      rw [if_neg (by simpa using c1)]
      by_cases c2:ia+k=a.size
      ·rw [if_pos (by simpa using c2)];exact wpS_pure ⟨sg2,.inl ⟨_,rfl,m1.done⟩⟩
      rw [if_neg (by simpa using c2)]
      refine wpS_bind (wpS_elem eb ?_)
      have m2:=m1.pushB eb
      by_cases c3:ib+1=b.size
      ·rw [if_pos (by simpa using c3)];exact wpS_pure ⟨sg2,.inl ⟨_,rfl,m2.done⟩⟩
      rw [if_neg (by simpa using c3)]
      obtain⟨pa,ea,ja⟩:=ha.at (i:=(ia+k)) (by lia)
      refine wpS_bind (wpS_elem ea (wpS_bind (wpS_gal (sg2.k.trans hk) hb ja (by lia) (by lia) fun k2 hk2=> ?_)))
      dsimp only
      by_cases k20:k2>0
      ·rw [if_pos k20]
       have m3:=m2.cutB (k:=k2)
       by_cases c4:ib+1+k2=b.size
       ·rw [if_pos (by simpa using c4)];exact wpS_pure ⟨sg2,.inl ⟨_,rfl,m3.done⟩⟩
       rw [if_neg (by simpa using c4)]
       refine wpS_bind (wpS_elem ea ?_)
       by_cases c5:(ia+k)+1+1=a.size
       ·rw [if_pos (by simpa using c5)];exact wpS_pure ⟨sg2,.inl ⟨_,rfl,(m3.pushA ea).last⟩⟩
       rw [if_neg (by simpa using c5)]
       split
       ·exact wpS_pure ⟨sg2,.inr ⟨_,_,_,_,_,_,rfl,m3.pushA ea,by lia,by lia,by lia⟩⟩
       ·exact wpS_pure ⟨sg2,_,_,_,_,_,_,rfl,m3.pushA ea,by lia,by lia,by lia⟩
      ·rw [if_neg k20]
       have m3:=m2
       refine wpS_bind (wpS_elem ea ?_)
       by_cases c5:(ia+k)+1+1=a.size
       ·rw [if_pos (by simpa using c5)];exact wpS_pure ⟨sg2,.inl ⟨_,rfl,(m3.pushA ea).last⟩⟩
       rw [if_neg (by simpa using c5)]
       split
       ·exact wpS_pure ⟨sg2,.inr ⟨_,_,_,_,_,_,rfl,m3.pushA ea,by lia,by lia,by lia⟩⟩
       ·exact wpS_pure ⟨sg2,_,_,_,_,_,_,rfl,m3.pushA ea,by lia,by lia,by lia⟩
     ·rw [if_neg k0]
      have m1:=m
      refine wpS_bind (wpS_elem eb ?_)
      have m2:=m1.pushB eb
      by_cases c3:ib+1=b.size
      ·rw [if_pos (by simpa using c3)];exact wpS_pure ⟨sg2,.inl ⟨_,rfl,m2.done⟩⟩
      rw [if_neg (by simpa using c3)]
      obtain⟨pa,ea,ja⟩:=ha.at (i:=ia) (by lia)
      refine wpS_bind (wpS_elem ea (wpS_bind (wpS_gal (sg2.k.trans hk) hb ja (by lia) (by lia) fun k2 hk2=> ?_)))
      dsimp only
      by_cases k20:k2>0
      ·rw [if_pos k20]
       have m3:=m2.cutB (k:=k2)
       by_cases c4:ib+1+k2=b.size
       ·rw [if_pos (by simpa using c4)];exact wpS_pure ⟨sg2,.inl ⟨_,rfl,m3.done⟩⟩
       rw [if_neg (by simpa using c4)]
       refine wpS_bind (wpS_elem ea ?_)
       by_cases c5:ia+1+1=a.size
       ·rw [if_pos (by simpa using c5)];exact wpS_pure ⟨sg2,.inl ⟨_,rfl,(m3.pushA ea).last⟩⟩
       rw [if_neg (by simpa using c5)]
       split
       ·exact wpS_pure ⟨sg2,.inr ⟨_,_,_,_,_,_,rfl,m3.pushA ea,by lia,by lia,by lia⟩⟩
       ·exact wpS_pure ⟨sg2,_,_,_,_,_,_,rfl,m3.pushA ea,by lia,by lia,by lia⟩
      ·rw [if_neg k20]
       have m3:=m2
       refine wpS_bind (wpS_elem ea ?_)
       by_cases c5:ia+1+1=a.size
       ·rw [if_pos (by simpa using c5)];exact wpS_pure ⟨sg2,.inl ⟨_,rfl,(m3.pushA ea).last⟩⟩
       rw [if_neg (by simpa using c5)]
       split
       ·exact wpS_pure ⟨sg2,.inr ⟨_,_,_,_,_,_,rfl,m3.pushA ea,by lia,by lia,by lia⟩⟩
       ·exact wpS_pure ⟨sg2,_,_,_,_,_,_,rfl,m3.pushA ea,by lia,by lia,by lia⟩
end
end So
end
noncomputable section
namespace So
open PySem PyProof.Rows
theorem mergeHi'_eq(a b:Array Keyed):mergeHi' a b=(do
 rule "list.sort.merge-hi"
 let total:=a.size+b.size
 let done (out:Array Keyed) (na nb:Nat):=a.extract 0 na++b.extract 0 nb++out.reverse
 let firstOfB (out:Array Keyed) (na nb:Nat):=b.extract 0 nb++a.extract 0 na++out.reverse
 let mut na:=a.size-1
 let mut nb:=b.size
 let mut out:Array Keyed:= #[←elem' a na]
 if na==0 then return done out na nb
 if nb==1 then return firstOfB out na nb
 let mut minGallop:=gallopOf (←get)
 for _ in [0:total] do
  let mut acount:=0
  let mut bcount:=0
  for _ in [0:total] do
   let some aWins←lt' (←elem' b (nb-1)) (←elem' a (na-1))|return done out na nb
   if aWins then
    na:=na-1;out:=out.push (←elem' a na);acount:=acount+1;bcount:=0
    if na==0 then return done out na nb
    if acount≥minGallop then break
   else
    nb:=nb-1;out:=out.push (←elem' b nb);bcount:=bcount+1;acount:=0
    if nb==1 then return firstOfB out na nb
    if bcount≥minGallop then break
  rule "list.sort.gallop"
  minGallop:=minGallop+1
  for _ in [0:total] do
   if minGallop>1 then minGallop:=minGallop-1
   setMinGallop' minGallop
   let some at_←gallop' false (←elem' b (nb-1)) a 0 na (na-1)|return done out na nb
   let k:=na-at_
   acount:=k
   if k>0 then
    out:=out++(a.extract at_ na).reverse;na:=at_
    if na==0 then return done out na nb
   nb:=nb-1;out:=out.push (←elem' b nb)
   if nb==1 then return firstOfB out na nb
   let some at_←gallop' true (←elem' a (na-1)) b 0 nb (nb-1)|return done out na nb
   let k:=nb-at_
   bcount:=k
   if k>0 then
    out:=out++(b.extract at_ nb).reverse;nb:=at_
    if nb==1 then return firstOfB out na nb
    if nb==0 then return done out na nb
   na:=na-1;out:=out.push (←elem' a na)
   if na==0 then return done out na nb
   if acount<7&&bcount<7 then break
  minGallop:=minGallop+1
  setMinGallop' minGallop
 unsupported "internal:list.sort.merge-bound"):=rfl
def MH(a b out:Array Keyed)(na nb:Nat):Prop:=(out.toList++(a.toList.take na++b.toList.take nb)).Perm (a.toList++b.toList)
theorem ext_take(xs:Array Keyed)(i:Nat):(xs.extract 0 i).toList=xs.toList.take i:=by
 rw [Array.toList_extract,List.extract_eq_take_drop,List.drop_zero,Nat.sub_zero]
theorem MH.done{a b out:Array Keyed}{na nb:Nat}(h:MH a b out na nb):(a.extract 0 na++b.extract 0 nb++out.reverse).Perm (a++b):=by
 rw [Array.perm_iff_toList_perm,Array.toList_append,Array.toList_append,Array.toList_append,ext_take,ext_take,Array.toList_reverse]
 exact(List.perm_append_comm.trans (List.Perm.append_right _ (List.reverse_perm _))).trans h
theorem MH.last{a b out:Array Keyed}{na nb:Nat}(h:MH a b out na nb):(b.extract 0 nb++a.extract 0 na++out.reverse).Perm (a++b):=by
 rw [Array.perm_iff_toList_perm,Array.toList_append,Array.toList_append,Array.toList_append,ext_take,ext_take,Array.toList_reverse]
 exact((List.perm_append_comm.trans (List.Perm.append_right _ (List.reverse_perm _))).trans (List.Perm.append_left _ List.perm_append_comm)).trans h
theorem take_cut{l:List Keyed}{i n:Nat}(h:i≤n):(l.take n).Perm ((l.take n).drop i++l.take i):=by
 have e:l.take i=(l.take n).take i:=by rw [List.take_take,Nat.min_eq_left h]
 rw [e]
 exact(List.perm_append_comm.trans (by rw [List.take_append_drop])).symm
theorem MH.cutA{a b out:Array Keyed}{na nb i:Nat}(h:MH a b out na nb)(hi:i≤na):MH a b (out++(a.extract i na).reverse) i nb:=by
 unfold MH at h⊢
 refine List.Perm.trans ?_ h
 rw [Array.toList_append,Array.toList_reverse,Array.toList_extract,List.extract_eq_take_drop,List.append_assoc,←List.append_assoc (bs:=a.toList.take i)]
 refine List.Perm.append_left _ (List.Perm.append_right _ ?_)
 refine List.Perm.trans (List.Perm.append_right _ (List.reverse_perm _)) ?_
 have:=take_cut (l:=a.toList) hi
 rw [List.drop_take]at this
 exact this.symm
theorem MH.cutB{a b out:Array Keyed}{na nb i:Nat}(h:MH a b out na nb)(hi:i≤nb):MH a b (out++(b.extract i nb).reverse) na i:=by
 unfold MH at h⊢
 refine List.Perm.trans ?_ h
 rw [Array.toList_append,Array.toList_reverse,Array.toList_extract,List.extract_eq_take_drop,List.append_assoc]
 refine List.Perm.append_left _ ?_
 have:=take_cut (l:=b.toList) hi
 rw [List.drop_take]at this
 refine List.Perm.trans ?_ (List.Perm.append_left _ this.symm)
 rw [←List.append_assoc,←List.append_assoc]
 exact List.Perm.append_right _ (List.perm_append_comm.trans (List.Perm.append_left _ (List.reverse_perm _)))
theorem ext_one{xs:Array Keyed}{i:Nat}{p:Keyed}(e:xs[i]?=some p):(xs.extract i (i+1)).reverse= #[p]:=by
 have h:i<xs.size:=by
  rcases Nat.lt_or_ge i xs.size with h|h
  ·exact h
  ·rw [Array.getElem?_eq_none h]at e;cases e
 have e2:xs[i]=p:=by rw [getElem?_pos xs i h]at e;exact Option.some.inj e
 apply Array.ext'
 rw [Array.toList_reverse,Array.toList_extract,List.extract_eq_take_drop,show i+1-i=1 by lia,List.take_one]
 simp [List.head?_drop,e]
theorem MH.pushA{a b out:Array Keyed}{na nb:Nat}{p:Keyed}(h:MH a b out (na+1) nb)(e:a[na]?=some p):MH a b (out.push p) na nb:=by
 have:=h.cutA (i:=na) (by lia)
 rw [ext_one e]at this
 exact this
theorem MH.pushB{a b out:Array Keyed}{na nb:Nat}{p:Keyed}(h:MH a b out na (nb+1))(e:b[nb]?=some p):MH a b (out.push p) na nb:=by
 have:=h.cutB (i:=nb) (by lia)
 rw [ext_one e]at this
 exact this
end So
end
noncomputable section
namespace So
open PySem PyProof.Rows
section
variable{prog:Program}{w:World}{A:Around}{E:Value→Shared→Prop}{s:Shared}
theorem MH.downA{a b out:Array Keyed}{na nb:Nat}{p:Keyed}(h:MH a b out na nb)(n1:0<na)(e:a[na-1]?=some p):MH a b (out.push p) (na-1) nb:=by
 obtain⟨k,rfl⟩:∃k,na=k+1:=⟨na-1,by lia⟩
 exact h.pushA e
theorem MH.downB{a b out:Array Keyed}{na nb:Nat}{p:Keyed}(h:MH a b out na nb)(n1:0<nb)(e:b[nb-1]?=some p):MH a b (out.push p) na (nb-1):=by
 obtain⟨k,rfl⟩:∃k,nb=k+1:=⟨nb-1,by lia⟩
 exact h.pushB e
theorem wpS_mHi{st:SortSt}{a b:Array Keyed}{Q:Array Keyed→SortSt→Prop}(ha:AI a)(hb:AI b)(a1:1≤a.size)(b1:1≤b.size)(hk:kindOf st=oneType')(h:∀out st',SG st st'→out.Perm (a++b)→Q out st'):wpS (model prog w) A E s (mergeHi' a b) Q st:=by
 rw [mergeHi'_eq]
 refine wpS_bind (wpS_lift (wpAny_rule ⟨rfl,?_⟩))
 obtain⟨p0,e0,i0⟩:=ha.at (i:=a.size-1) (by lia)
 dsimp only
 refine wpS_bind (wpS_elem e0 ?_)
 have m0:MH a b #[p0] (a.size-1) b.size:=(show MH a b #[] a.size b.size from by unfold MH;rw [List.take_of_length_le (by simp),List.take_of_length_le (by simp)];exact List.Perm.refl _).downA (by lia) e0
 by_cases c1:a.size-1=0
 ·rw [if_pos (by simpa using c1)];exact wpS_pure (h _ _ (.refl _) m0.done)
 rw [if_neg (by simpa using c1)]
 by_cases c2:b.size=1
 ·rw [if_pos (by simpa using c2)];exact wpS_pure (h _ _ (.refl _) m0.last)
 rw [if_neg (by simpa using c2)]
 refine wpS_bind (wpS_get ?_)
 refine wpS_bind (wpS_mono (wpS_forRange (I:=fun x c st'=>SG st st'∧∃na nb out g,c=(none,na,nb,out,g)∧MH a b out na nb∧0<na∧1<nb∧na≤a.size∧nb≤b.size∧x+1+(na+nb)≤a.size+b.size) (Q:=fun c st'=>SG st st'∧∃r:Array Keyed,c.1=some r∧r.Perm (a++b)) ?step ?fin ⟨.refl _,_,_,_,_,rfl,m0,by lia,by lia,by lia,by lia,by lia⟩) ?post)
 case fin=>
  rintro c st' ⟨_,na,nb,out,g,rfl,m,x1,x2,x3,x4,x5⟩
  lia
 case post=>
  rintro c st' ⟨sg,r,e,hp⟩
  rw [e]
  exact wpS_pure (h r _ sg hp)
 case step=>
  rintro x c st1 hx1 hx2 ⟨sg,na,nb,out,g,rfl,m,l1,l2,l4,l5,l3⟩
  dsimp only
  refine wpS_bind (wpS_mono (wpS_forRange (I:=fun y c st'=>st1=st'∧∃na nb out ac bc,c=(none,na,nb,out,ac,bc)∧MH a b out na nb∧0<na∧1<nb∧na≤a.size∧nb≤b.size∧x+1+(na+nb)≤a.size+b.size) (Q:=fun c st'=>st1=st'∧((∃r:Array Keyed,c.1=some r∧r.Perm (a++b))∨(∃na nb out ac bc,c=(none,na,nb,out,ac,bc)∧MH a b out na nb∧0<na∧1<nb∧na≤a.size∧nb≤b.size∧x+1+(na+nb)≤a.size+b.size))) ?istep ?ifin ⟨rfl,_,_,_,_,_,rfl,m,l1,l2,l4,l5,l3⟩) ?ipost)
  case ifin=>
   rintro c st' ⟨rfl,z⟩;exact⟨rfl,.inr z⟩
  case istep=>
   rintro y c st' _ _ ⟨rfl,na,nb,out,ac,bc,rfl,m,l1,l2,l4,l5,l3⟩
   obtain⟨pb,eb,jb⟩:=hb.at (i:=nb-1) (by lia)
   obtain⟨pa,ea,ja⟩:=ha.at (i:=na-1) (by lia)
   dsimp only
   refine wpS_bind (wpS_elem eb (wpS_bind (wpS_elem ea (wpS_bind (wpS_ltI (sg.k.trans hk) jb ja fun bw=> ?_)))))
   cases bw
   ·simp only [Bool.false_eq_true,if_false]
    refine wpS_bind (wpS_elem eb ?_)
    have m2:=m.downB (by lia) eb
    by_cases c3:nb-1=1
    ·rw [if_pos (by simpa using c3)];exact wpS_pure ⟨rfl,.inl ⟨_,rfl,m2.last⟩⟩
    rw [if_neg (by simpa using c3)]
    split
    ·exact wpS_pure ⟨rfl,.inr ⟨_,_,_,_,_,rfl,m2,by lia,by lia,by lia,by lia,by lia⟩⟩
    ·exact wpS_pure ⟨rfl,_,_,_,_,_,rfl,m2,by lia,by lia,by lia,by lia,by lia⟩
   ·simp only [if_true]
    refine wpS_bind (wpS_elem ea ?_)
    have m2:=m.downA (by lia) ea
    by_cases c3:na-1=0
    ·rw [if_pos (by simpa using c3)];exact wpS_pure ⟨rfl,.inl ⟨_,rfl,m2.done⟩⟩
    rw [if_neg (by simpa using c3)]
    split
    ·exact wpS_pure ⟨rfl,.inr ⟨_,_,_,_,_,rfl,m2,by lia,by lia,by lia,by lia,by lia⟩⟩
    ·exact wpS_pure ⟨rfl,_,_,_,_,_,rfl,m2,by lia,by lia,by lia,by lia,by lia⟩
  case ipost=>
   rintro c st' ⟨rfl,z⟩
   rcases z with⟨r,er,hp⟩|⟨na,nb,out,ac,bc,rfl,m,l1,l2,l4,l5,l3⟩
   ·rw [er];exact wpS_pure ⟨sg,r,rfl,hp⟩
   dsimp only
   refine wpS_bind (wpS_lift (wpAny_rule ⟨rfl,?_⟩))
   refine wpS_bind (wpS_mono (wpS_forRange (I:=fun y c st'=>SG st st'∧∃na nb out g ac bc,c=(none,na,nb,out,g,ac,bc)∧MH a b out na nb∧0<na∧1<nb∧na≤a.size∧nb≤b.size∧x+1+min y 1+(na+nb)≤a.size+b.size) (Q:=fun c st'=>SG st st'∧((∃r:Array Keyed,c.1=some r∧r.Perm (a++b))∨(∃na nb out g ac bc,c=(none,na,nb,out,g,ac,bc)∧MH a b out na nb∧0<na∧1<nb∧na≤a.size∧nb≤b.size∧x+2+(na+nb)≤a.size+b.size))) ?gstep ?gfin ⟨sg,_,_,_,_,_,_,rfl,m,l1,l2,l4,l5,by lia⟩) ?gpost)
   case gfin=>
    rintro c st' ⟨sg,na,nb,out,g,ac,bc,rfl,m,l1,l2,l4,l5,l3⟩;exact⟨sg,.inr ⟨_,_,_,_,_,_,rfl,m,l1,l2,l4,l5,by lia⟩⟩
   case gpost=>
    rintro c st' ⟨sg,z⟩
    rcases z with⟨r,er,hp⟩|⟨na,nb,out,g,ac,bc,rfl,m,l1,l2,l4,l5,l3⟩
    ·rw [er];exact wpS_pure ⟨sg,r,rfl,hp⟩
    dsimp only
    exact wpS_bind (wpS_setG fun st'' sg'=>wpS_pure ⟨sg.trans sg',_,_,_,_,rfl,m,l1,l2,l4,l5,by lia⟩)
   case gstep=>
    rintro y c st' _ _ ⟨sg,na,nb,out,g,ac,bc,rfl,m,l1,l2,l4,l5,l3⟩
    obtain⟨pb,eb,jb⟩:=hb.at (i:=nb-1) (by lia)
    dsimp only
    by_cases g1:g>1
    ·rw [if_pos g1]
     refine wpS_bind (wpS_setG fun st2 sg1=> ?_)
     have sg2:=sg.trans sg1
     refine wpS_bind (wpS_elem eb (wpS_bind (wpS_gal (sg2.k.trans hk) ha jb (by lia) (by lia) fun k hk1=> ?_)))
     dsimp only
     by_cases k0:na-k>0
     ·rw [if_pos k0]
      have m1:=m.cutA (i:=k) hk1
      by_cases c1:k=0
      ·rw [if_pos (by simpa using c1)];exact wpS_pure ⟨sg2,.inl ⟨_,rfl,m1.done⟩⟩
      rw [if_neg (by simpa using c1)]
      refine wpS_bind (wpS_elem eb ?_)
      have m2:=m1.downB (by lia) eb
      by_cases c3:nb-1=1
      ·rw [if_pos (by simpa using c3)];exact wpS_pure ⟨sg2,.inl ⟨_,rfl,m2.last⟩⟩
      rw [if_neg (by simpa using c3)]
      obtain⟨pa,ea,ja⟩:=ha.at (i:=k-1) (by lia)
      refine wpS_bind (wpS_elem ea (wpS_bind (wpS_gal (sg2.k.trans hk) hb ja (by lia) (by lia) fun k2 hk2=> ?_)))
      dsimp only
      by_cases k20:nb-1-k2>0
      ·rw [if_pos k20]
       have m3:=m2.cutB (i:=k2) hk2
       by_cases c4:k2=1
       ·rw [if_pos (by simpa using c4)];exact wpS_pure ⟨sg2,.inl ⟨_,rfl,m3.last⟩⟩
       rw [if_neg (by simpa using c4)]
       by_cases c6:k2=0
       ·rw [if_pos (by simpa using c6)];exact wpS_pure ⟨sg2,.inl ⟨_,rfl,m3.done⟩⟩
       rw [if_neg (by simpa using c6)]
       refine wpS_bind (wpS_elem ea ?_)
       have m4:=m3.downA (by lia) ea
       by_cases c5:k-1=0
       ·rw [if_pos (by simpa using c5)];exact wpS_pure ⟨sg2,.inl ⟨_,rfl,m4.done⟩⟩
       rw [if_neg (by simpa using c5)]
       split
       ·exact wpS_pure ⟨sg2,.inr ⟨_,_,_,_,_,_,rfl,m4,by lia,by lia,by lia,by lia,by lia⟩⟩
       ·exact wpS_pure ⟨sg2,_,_,_,_,_,_,rfl,m4,by lia,by lia,by lia,by lia,by lia⟩
      ·rw [if_neg k20]
       have m3:=m2
       refine wpS_bind (wpS_elem ea ?_)
       have m4:=m3.downA (by lia) ea
       by_cases c5:k-1=0
       ·rw [if_pos (by simpa using c5)];exact wpS_pure ⟨sg2,.inl ⟨_,rfl,m4.done⟩⟩
       rw [if_neg (by simpa using c5)]
       split
       ·exact wpS_pure ⟨sg2,.inr ⟨_,_,_,_,_,_,rfl,m4,by lia,by lia,by lia,by lia,by lia⟩⟩
       ·exact wpS_pure ⟨sg2,_,_,_,_,_,_,rfl,m4,by lia,by lia,by lia,by lia,by lia⟩
     ·rw [if_neg k0]
      have m1:=m
      refine wpS_bind (wpS_elem eb ?_)
      have m2:=m1.downB (by lia) eb
      by_cases c3:nb-1=1
      ·rw [if_pos (by simpa using c3)];exact wpS_pure ⟨sg2,.inl ⟨_,rfl,m2.last⟩⟩
      rw [if_neg (by simpa using c3)]
      obtain⟨pa,ea,ja⟩:=ha.at (i:=na-1) (by lia)
      refine wpS_bind (wpS_elem ea (wpS_bind (wpS_gal (sg2.k.trans hk) hb ja (by lia) (by lia) fun k2 hk2=> ?_)))
      dsimp only
      by_cases k20:nb-1-k2>0
      ·rw [if_pos k20]
       have m3:=m2.cutB (i:=k2) hk2
       by_cases c4:k2=1
       ·rw [if_pos (by simpa using c4)];exact wpS_pure ⟨sg2,.inl ⟨_,rfl,m3.last⟩⟩
       rw [if_neg (by simpa using c4)]
       by_cases c6:k2=0
       ·rw [if_pos (by simpa using c6)];exact wpS_pure ⟨sg2,.inl ⟨_,rfl,m3.done⟩⟩
       rw [if_neg (by simpa using c6)]
       refine wpS_bind (wpS_elem ea ?_)
       have m4:=m3.downA (by lia) ea
       by_cases c5:na-1=0
       ·rw [if_pos (by simpa using c5)];exact wpS_pure ⟨sg2,.inl ⟨_,rfl,m4.done⟩⟩
       rw [if_neg (by simpa using c5)]
       split
       ·exact wpS_pure ⟨sg2,.inr ⟨_,_,_,_,_,_,rfl,m4,by lia,by lia,by lia,by lia,by lia⟩⟩
       ·exact wpS_pure ⟨sg2,_,_,_,_,_,_,rfl,m4,by lia,by lia,by lia,by lia,by lia⟩
      ·rw [if_neg k20]
       have m3:=m2
       refine wpS_bind (wpS_elem ea ?_)
       have m4:=m3.downA (by lia) ea
       by_cases c5:na-1=0
       ·rw [if_pos (by simpa using c5)];exact wpS_pure ⟨sg2,.inl ⟨_,rfl,m4.done⟩⟩
       rw [if_neg (by simpa using c5)]
       split
       ·exact wpS_pure ⟨sg2,.inr ⟨_,_,_,_,_,_,rfl,m4,by lia,by lia,by lia,by lia,by lia⟩⟩
       ·exact wpS_pure ⟨sg2,_,_,_,_,_,_,rfl,m4,by lia,by lia,by lia,by lia,by lia⟩
    ·rw [if_neg g1]
     refine wpS_bind (wpS_setG fun st2 sg1=> ?_)
     have sg2:=sg.trans sg1
     refine wpS_bind (wpS_elem eb (wpS_bind (wpS_gal (sg2.k.trans hk) ha jb (by lia) (by lia) fun k hk1=> ?_)))
     dsimp only
     by_cases k0:na-k>0
     ·rw [if_pos k0]
      have m1:=m.cutA (i:=k) hk1
      by_cases c1:k=0
      ·rw [if_pos (by simpa using c1)];exact wpS_pure ⟨sg2,.inl ⟨_,rfl,m1.done⟩⟩
      rw [if_neg (by simpa using c1)]
      refine wpS_bind (wpS_elem eb ?_)
      have m2:=m1.downB (by lia) eb
      by_cases c3:nb-1=1
      ·rw [if_pos (by simpa using c3)];exact wpS_pure ⟨sg2,.inl ⟨_,rfl,m2.last⟩⟩
      rw [if_neg (by simpa using c3)]
      obtain⟨pa,ea,ja⟩:=ha.at (i:=k-1) (by lia)
      refine wpS_bind (wpS_elem ea (wpS_bind (wpS_gal (sg2.k.trans hk) hb ja (by lia) (by lia) fun k2 hk2=> ?_)))
      dsimp only
      by_cases k20:nb-1-k2>0
      ·rw [if_pos k20]
       have m3:=m2.cutB (i:=k2) hk2
       by_cases c4:k2=1
       ·rw [if_pos (by simpa using c4)];exact wpS_pure ⟨sg2,.inl ⟨_,rfl,m3.last⟩⟩
       rw [if_neg (by simpa using c4)]
       by_cases c6:k2=0
       ·rw [if_pos (by simpa using c6)];exact wpS_pure ⟨sg2,.inl ⟨_,rfl,m3.done⟩⟩
       rw [if_neg (by simpa using c6)]
       refine wpS_bind (wpS_elem ea ?_)
       have m4:=m3.downA (by lia) ea
       by_cases c5:k-1=0
       ·rw [if_pos (by simpa using c5)];exact wpS_pure ⟨sg2,.inl ⟨_,rfl,m4.done⟩⟩
       rw [if_neg (by simpa using c5)]
       split
       ·exact wpS_pure ⟨sg2,.inr ⟨_,_,_,_,_,_,rfl,m4,by lia,by lia,by lia,by lia,by lia⟩⟩
       ·exact wpS_pure ⟨sg2,_,_,_,_,_,_,rfl,m4,by lia,by lia,by lia,by lia,by lia⟩
      ·rw [if_neg k20]
       have m3:=m2
       refine wpS_bind (wpS_elem ea ?_)
       have m4:=m3.downA (by lia) ea
       by_cases c5:k-1=0
       ·rw [if_pos (by simpa using c5)];exact wpS_pure ⟨sg2,.inl ⟨_,rfl,m4.done⟩⟩
       rw [if_neg (by simpa using c5)]
       split
       ·exact wpS_pure ⟨sg2,.inr ⟨_,_,_,_,_,_,rfl,m4,by lia,by lia,by lia,by lia,by lia⟩⟩
       ·exact wpS_pure ⟨sg2,_,_,_,_,_,_,rfl,m4,by lia,by lia,by lia,by lia,by lia⟩
     ·rw [if_neg k0]
      have m1:=m
      refine wpS_bind (wpS_elem eb ?_)
      have m2:=m1.downB (by lia) eb
      by_cases c3:nb-1=1
      ·rw [if_pos (by simpa using c3)];exact wpS_pure ⟨sg2,.inl ⟨_,rfl,m2.last⟩⟩
      rw [if_neg (by simpa using c3)]
      obtain⟨pa,ea,ja⟩:=ha.at (i:=na-1) (by lia)
      refine wpS_bind (wpS_elem ea (wpS_bind (wpS_gal (sg2.k.trans hk) hb ja (by lia) (by lia) fun k2 hk2=> ?_)))
      dsimp only
      by_cases k20:nb-1-k2>0
      ·rw [if_pos k20]
       have m3:=m2.cutB (i:=k2) hk2
       by_cases c4:k2=1
       ·rw [if_pos (by simpa using c4)];exact wpS_pure ⟨sg2,.inl ⟨_,rfl,m3.last⟩⟩
       rw [if_neg (by simpa using c4)]
       by_cases c6:k2=0
       ·rw [if_pos (by simpa using c6)];exact wpS_pure ⟨sg2,.inl ⟨_,rfl,m3.done⟩⟩
       rw [if_neg (by simpa using c6)]
       refine wpS_bind (wpS_elem ea ?_)
       have m4:=m3.downA (by lia) ea
       by_cases c5:na-1=0
       ·rw [if_pos (by simpa using c5)];exact wpS_pure ⟨sg2,.inl ⟨_,rfl,m4.done⟩⟩
       rw [if_neg (by simpa using c5)]
       split
       ·exact wpS_pure ⟨sg2,.inr ⟨_,_,_,_,_,_,rfl,m4,by lia,by lia,by lia,by lia,by lia⟩⟩
       ·exact wpS_pure ⟨sg2,_,_,_,_,_,_,rfl,m4,by lia,by lia,by lia,by lia,by lia⟩
      ·rw [if_neg k20]
       have m3:=m2
       refine wpS_bind (wpS_elem ea ?_)
       have m4:=m3.downA (by lia) ea
       by_cases c5:na-1=0
       ·rw [if_pos (by simpa using c5)];exact wpS_pure ⟨sg2,.inl ⟨_,rfl,m4.done⟩⟩
       rw [if_neg (by simpa using c5)]
       split
       ·exact wpS_pure ⟨sg2,.inr ⟨_,_,_,_,_,_,rfl,m4,by lia,by lia,by lia,by lia,by lia⟩⟩
       ·exact wpS_pure ⟨sg2,_,_,_,_,_,_,rfl,m4,by lia,by lia,by lia,by lia,by lia⟩
end
end So
end
noncomputable section
namespace So
open PySem PyProof.Rows
theorem mergeAt'_eq(i:Nat):mergeAt' i=(do
 let s←get
 let (some (sa,na,power),some (sb,nb,_)):=((pendingOf s)[i]?,(pendingOf s)[i+1]?)|unsupported "internal:list.sort.pending"
 set (setPending s (((pendingOf s).setIfInBounds i (sa,na+nb,power)).eraseIdxIfInBounds (i+1)))
 let some k←gallop' false (←elem' (arrOf s) sb) (arrOf s) sa na 0|return false
 let (sa,na):=(sa+k,na-k)
 if na==0 then return true
 let some nb←gallop' true (←elem' (arrOf s) (sa+na-1)) (arrOf s) sb nb (nb-1)|return false
 if nb==0 then return true
 let x:=(arrOf s).extract sa sb
 let y:=(arrOf s).extract sb (sb+nb)
 let merged←if na≤nb then mergeLo' x y else mergeHi' x y
 modify fun s=>setArr s (merged.toList.zipIdx.foldl (fun a (p,j)=>a.setIfInBounds (sa+j) p) (arrOf s))
 return (failedOf (←get)).isNone):=rfl
theorem foldl_set(l:List Keyed):∀(k:Nat) (xs:Array Keyed) (b:Nat),b+k+l.length≤xs.size→
 ((l.zipIdx k).foldl (fun a (p,j)=>a.setIfInBounds (b+j) p) xs).toList=xs.toList.take (b+k)++l++xs.toList.drop (b+k+l.length):=by
 induction l with
 |nil=>intro k xs b h;simp
 |cons p l ih=>
  intro k xs b h
  rw [List.zipIdx_cons,List.foldl_cons]
  show((l.zipIdx (k+1)).foldl _ (xs.setIfInBounds (b+k) p)).toList=_
  rw [List.length_cons]at h
  rw [ih (k+1) _ b (by rw [Array.size_setIfInBounds];lia)]
  rw [Array.toList_setIfInBounds]
  have hl:b+k<xs.toList.length:=by rw [Array.length_toList];lia
  rw [show b+(k+1)=(b+k)+1 by lia]
  rw [List.drop_set_of_lt (by lia),List.take_add_one,List.take_set_of_le (Nat.le_refl _),List.getElem?_set_self hl,List.length_cons,show b+k+1+l.length=b+k+(l.length+1) by lia]
  simp
section
variable{prog:Program}{w:World}{A:Around}{E:Value→Shared→Prop}{s:Shared}{a₀:Array Keyed}
theorem AI.ext{xs:Array Keyed}(h:AI xs)(i j:Nat):AI (xs.extract i j):=fun p hp=>h p (by
 rw [Array.toList_extract]at hp
 exact List.mem_of_mem_drop (List.mem_of_mem_take (by simpa [List.extract]using hp)))
theorem cut_perm{xs:Array Keyed}{sa sb nb:Nat}{m:Array Keyed}(h1:sa≤sb)(h2:sb+nb≤xs.size)(hp:m.Perm (xs.extract sa sb++xs.extract sb (sb+nb))):(m.toList.zipIdx.foldl (fun a (p,j)=>a.setIfInBounds (sa+j) p) xs).Perm xs:=by
 have hm:m.toList.length=sb+nb-sa:=by
  rw [Array.length_toList,hp.size_eq,Array.size_append,Array.size_extract,Array.size_extract];lia
 rw [Array.perm_iff_toList_perm,foldl_set _ 0 _ _ (by lia)]
 have hp':=Array.perm_iff_toList_perm.mp hp
 have e:(xs.extract sa sb++xs.extract sb (sb+nb)).toList=(xs.toList.drop sa).take (sb+nb-sa):=by
  rw [Array.extract_append_extract,Nat.min_eq_left h1,Nat.max_eq_right (by lia),Array.toList_extract]
 rw [e]at hp'
 have e2:xs.toList=xs.toList.take (sa+0)++(xs.toList.drop sa).take (sb+nb-sa)++xs.toList.drop (sa+0+m.toList.length):=by
  rw [hm,Nat.add_zero,List.append_assoc]
  conv=>lhs;rw [←List.take_append_drop sa xs.toList,←List.take_append_drop (sb+nb-sa) (xs.toList.drop sa),List.drop_drop]
 conv=>rhs;rw [e2]
 exact(hp'.append_left _).append_right _
theorem wpS_set{st st':SortSt}{Q:PUnit→SortSt→Prop}(h:Q ⟨⟩ st'):wpS (model prog w) A E s (set st':StateT SortSt Sem PUnit) Q st:=by
 unfold wpS;rw [StateT.run_set];exact wpAny_pure ⟨rfl,h⟩
theorem wpS_mAt{st:SortSt}{n1 n2 pw:Nat}{Q:Bool→SortSt→Prop}(h0:IntKeys a₀)(hB:WB a₀ #[(0,n1,pw),(n1,n2,0)] st)(hn:n1+n2=a₀.size)(l1:1≤n1)(l2:1≤n2)
 (h:∀st',WB a₀ #[(0,n1+n2,pw)] st'→Q true st'):wpS (model prog w) A E s (mergeAt' 0) Q st:=by
 have hA:AI (arrOf st):=fun p hp=>h0 p ((Array.perm_iff_toList_perm.mp hB.perm).mem_iff.mp hp)
 have hsz:=hB.size
 rw [mergeAt'_eq]
 refine wpS_bind (wpS_get ?_)
 rw [hB.pend]
 dsimp only
 simp only [List.getElem?_toArray,List.getElem?_cons_zero,List.getElem?_cons_succ,Nat.zero_add]
 have hB2:WB a₀ #[(0,n1+n2,pw)] (setPending st #[(0,n1+n2,pw)]):=⟨hB.perm,hB.kind,hB.failed,rfl⟩
 refine wpS_bind (wpS_set ?_)
 have e0:(setPending st ((#[(0,n1,pw),(n1,n2,0)].setIfInBounds 0 (0,n1+n2,pw)).eraseIdxIfInBounds 1))=setPending st #[(0,n1+n2,pw)]:=by
  congr 1;simp [Array.setIfInBounds,Array.eraseIdxIfInBounds,Array.eraseIdx_eq_take_drop_succ]
 simp only [e0]
 obtain⟨p1,e1,i1⟩:=hA.at (i:=n1) (by lia)
 refine wpS_bind (wpS_elem e1 (wpS_bind (wpS_gal hB2.kind hA i1 (by lia) (by lia) fun k hk=> ?_)))
 dsimp only
 by_cases c1:n1-k=0
 ·rw [if_pos (by simpa using c1)];exact wpS_pure (h _ hB2)
 rw [if_neg (by simpa using c1)]
 obtain⟨p2,e2,i2⟩:=hA.at (i:=k+(n1-k)-1) (by lia)
 refine wpS_bind (wpS_elem e2 (wpS_bind (wpS_gal hB2.kind hA i2 (by lia) (by lia) fun m hm=> ?_)))
 dsimp only
 by_cases c2:m=0
 ·rw [if_pos (by simpa using c2)];exact wpS_pure (h _ hB2)
 rw [if_neg (by simpa using c2)]
 have z1:1≤((arrOf st).extract k n1).size:=by rw [Array.size_extract];lia
 have z2:1≤((arrOf st).extract n1 (n1+m)).size:=by rw [Array.size_extract];lia
 have fin:∀(out:Array Keyed) (st':SortSt),SG (setPending st #[(0,n1+n2,pw)]) st'→out.Perm ((arrOf st).extract k n1++(arrOf st).extract n1 (n1+m))→
  wpS (model prog w) A E s (do
   modify fun s=>setArr s (out.toList.zipIdx.foldl (fun a (p,j)=>a.setIfInBounds (k+j) p) (arrOf s))
   return (failedOf (←get)).isNone) Q st':=by
  intro out st' sg hp
  have hB3:WB a₀ #[(0,n1+n2,pw)] st':=⟨by rw [sg.a];exact hB2.perm,sg.k.trans hB2.kind,sg.f.trans hB2.failed,sg.p.trans hB2.pend⟩
  refine wpS_bind (wpS_modify (wpS_bind (wpS_get ?_)))
  have hq:WB a₀ #[(0,n1+n2,pw)] (setArr st' (out.toList.zipIdx.foldl (fun a (p,j)=>a.setIfInBounds (k+j) p) (arrOf st'))):=hB3.setArr (by
   have ea:arrOf st'=arrOf st:=sg.a
   rw [ea]
   exact cut_perm (by lia) (by lia) hp)
  rw [hq.failed]
  exact wpS_pure (h _ hq)
 split
 ·exact wpS_bind (wpS_mLo (hA.ext _ _) (hA.ext _ _) z1 z2 hB2.kind fin)
 ·exact wpS_bind (wpS_mHi (hA.ext _ _) (hA.ext _ _) z1 z2 hB2.kind fin)
end
end So
end
noncomputable section
namespace So
open PySem PyProof.Rows
section
variable{prog:Program}{w:World}{A:Around}{E:Value→Shared→Prop}{s:Shared}{a₀:Array Keyed}
def RI(a₀:Array Keyed)(x lo:Nat)(st:SortSt):Prop:=
 (x=0∧lo=0∧WB a₀ #[] st)∨(x=1∧32≤lo∧lo≤64∧WB a₀ #[(0,lo,0)] st)∨(x=2∧lo=64∧∃n1 pw,1≤n1∧n1<64∧WB a₀ #[(0,n1,pw),(n1,64-n1,0)] st)
def RE(a₀:Array Keyed)(st:SortSt):Prop:=(∃pw,WB a₀ #[(0,64,pw)] st)∨∃n1 pw,1≤n1∧n1<64∧WB a₀ #[(0,n1,pw),(n1,64-n1,0)] st
theorem WB.setP{p p':Array (Nat×Nat×Nat)}{st:SortSt}(h:WB a₀ p st):WB a₀ p' (setPending st p'):=⟨h.perm,h.kind,h.failed,rfl⟩
theorem wpS_runs64{st:SortSt}{Q:Unit→SortSt→Prop}(h0:IntKeys a₀)(hB:WB a₀ #[] st)(h64:a₀.size=64)
 (h:∀st',(arrOf st').Perm a₀→failedOf st'=none→Q () st'):wpS (model prog w) A E s sortRuns' Q st:=by
 rw [sortRuns'_eq]
 refine wpS_bind (wpS_get ?_)
 dsimp only
 have hmr:minRun' 64 64 0=32:=by
  rw [minRun'_succ,if_neg (by decide),minRun'_succ,if_pos (by decide)];rfl
 simp only [hB.size,h64,hmr]
 refine wpS_bind (wpS_mono (wpS_forRange
  (I:=fun x c st'=>c.1=none∧RI a₀ x c.2 st')
  (Q:=fun c st'=>c.1=none∧RE a₀ st') ?step ?fin ⟨rfl,.inl ⟨rfl,rfl,hB⟩⟩) ?post)
 case fin=>
  rintro ⟨r,lo⟩ st' ⟨e,⟨hx,_,_⟩|⟨hx,l1,l2,hD⟩|⟨hx,_,z⟩⟩
  ·exact absurd hx (by decide)
  ·exact absurd hx (by decide)
  ·exact absurd hx (by decide)
 case step=>
  rintro x ⟨r,lo⟩ st' _ hx ⟨e,z⟩
  cases e
  dsimp only
  by_cases hlo:lo≥64
  ·rw [if_pos hlo]
   refine wpS_pure ⟨rfl,?_⟩
   rcases z with⟨_,rfl,_⟩|⟨_,l1,l2,hD⟩|⟨_,_,z⟩
   ·lia
   ·have:lo=64:=by dsimp only at l2;lia
    subst this;exact .inl ⟨_,hD⟩
   ·exact .inr z
  rw [if_neg hlo]
  rcases z with⟨rfl,rfl,hB'⟩|⟨hx1,l1,l2,hB'⟩|⟨_,l,_⟩
  ·refine wpS_bind (wpS_cntW h0 (by lia) (by lia) hB' fun m st2 hB2 hm1 hm2=> ?_)
   dsimp only
   by_cases hlt:m<32
   ·rw [if_pos hlt]
    refine wpS_bind (wpS_lift (wpAny_rule ⟨rfl,?_⟩))
    refine wpS_bind (wpS_binW h0 (by lia) hB2 fun st3 hB3=> ?_)
    simp only [Bool.not_true,Bool.false_eq_true,if_false]
    refine wpS_bind (wpS_get ?_)
    have hb:(pendingOf st3).back?=none:=by rw [hB3.pend];rfl
    rw [hb]
    dsimp only
    refine wpS_bind (wpS_modify (wpS_pure ⟨rfl,.inr (.inl ⟨by lia,by dsimp only;lia,by dsimp only;lia,?_⟩)⟩))
    rw [hB3.pend];exact hB3.setP
   ·rw [if_neg hlt]
    refine wpS_bind (wpS_get ?_)
    have hb:(pendingOf st2).back?=none:=by rw [hB2.pend];rfl
    rw [hb]
    dsimp only
    refine wpS_bind (wpS_modify (wpS_pure ⟨rfl,.inr (.inl ⟨by lia,by dsimp only;lia,by dsimp only;lia,?_⟩)⟩))
    rw [hB2.pend,Nat.zero_add];exact hB2.setP
  ·dsimp only at l1 l2 hB'
   refine wpS_bind (wpS_cntW h0 (by lia) (by lia) hB' fun m st2 hB2 hm1 hm2=> ?_)
   dsimp only
   by_cases hlt:m<32
   ·rw [if_pos hlt]
    refine wpS_bind (wpS_lift (wpAny_rule ⟨rfl,?_⟩))
    refine wpS_bind (wpS_binW h0 (by lia) hB2 fun st3 hB3=> ?_)
    simp only [Bool.not_true,Bool.false_eq_true,if_false]
    refine wpS_bind (wpS_get ?_)
    have hb:(pendingOf st3).back?=some (0,lo,0):=by rw [hB3.pend];rfl
    rw [hb]
    dsimp only
    generalize power' 64 (2*0+lo) (2*0+lo+lo+min (64-lo) 32) 64=pw
    refine wpS_bind (wpS_mono (wpS_forRange (I:=fun _ c st''=>st''=st3∧c=(none,())) (Q:=fun c st''=>st''=st3∧c=(none,())) ?_ (fun _ _ hh=>hh) ⟨rfl,rfl⟩) ?_)
    ·rintro y c st'' _ _ ⟨rfl,rfl⟩
     refine wpS_bind (wpS_get ?_)
     rw [hB3.pend]
     exact wpS_pure ⟨rfl,rfl⟩
    ·rintro c st'' ⟨rfl,rfl⟩
     dsimp only
     refine wpS_bind (wpS_modify (wpS_bind (wpS_modify (wpS_pure ⟨rfl,.inr (.inr ⟨by lia,by dsimp only;lia,lo,pw,by lia,by lia,?_⟩)⟩))))
     rw [hB3.pend,show min (64-lo) 32=64-lo by lia]
     exact hB3.setP.setP (p':= #[(0,lo,pw),(lo,64-lo,0)])
   ·rw [if_neg hlt]
    refine wpS_bind (wpS_get ?_)
    have hb:(pendingOf st2).back?=some (0,lo,0):=by rw [hB2.pend];rfl
    rw [hb]
    dsimp only
    generalize power' 64 (2*0+lo) (2*0+lo+lo+m) 64=pw
    refine wpS_bind (wpS_mono (wpS_forRange (I:=fun _ c st''=>st''=st2∧c=(none,())) (Q:=fun c st''=>st''=st2∧c=(none,())) ?_ (fun _ _ hh=>hh) ⟨rfl,rfl⟩) ?_)
    ·rintro y c st'' _ _ ⟨rfl,rfl⟩
     refine wpS_bind (wpS_get ?_)
     rw [hB2.pend]
     exact wpS_pure ⟨rfl,rfl⟩
    ·rintro c st'' ⟨rfl,rfl⟩
     dsimp only
     refine wpS_bind (wpS_modify (wpS_bind (wpS_modify (wpS_pure ⟨rfl,.inr (.inr ⟨by lia,by dsimp only;lia,lo,pw,by lia,by lia,?_⟩)⟩))))
     rw [hB2.pend,show m=64-lo by lia]
     exact hB2.setP.setP (p':= #[(0,lo,pw),(lo,64-lo,0)])
  ·exact absurd l (by dsimp only;lia)
 case post=>
  rintro ⟨r,lo⟩ st' ⟨e,hD⟩
  cases e
  dsimp only
  refine wpS_bind (wpS_mono (wpS_forRange (I:=fun x c st''=>c=(none,())∧((x=0∧RE a₀ st'')∨∃pw,WB a₀ #[(0,64,pw)] st'')) (Q:=fun c st''=>c=(none,())∧∃pw,WB a₀ #[(0,64,pw)] st'') ?_ ?_ ⟨rfl,.inl ⟨rfl,hD⟩⟩) ?_)
  ·have one:∀(x:Nat) st'' pw,WB a₀ #[(0,64,pw)] st''→(pendingOf st'').size≤1:=fun x st'' pw hq=>by rw [hq.pend];exact Nat.le_refl 1
   rintro x c st'' _ _ ⟨rfl,z⟩
   refine wpS_bind (wpS_get ?_)
   rcases z with⟨_,⟨pw,hq⟩|⟨n1,pw,a1,a2,hq⟩⟩|⟨pw,hq⟩
   ·rw [if_pos (one x _ _ hq)];exact wpS_pure ⟨rfl,pw,hq⟩
   ·rw [hq.pend,if_neg (by simp)]
    refine wpS_bind (wpS_mAt (n1:=n1) (n2:=64-n1) (pw:=pw) h0 hq (by lia) a1 (by lia) fun st4 hB4=> ?_)
    rw [show n1+(64-n1)=64 by lia]at hB4
    simp only [Bool.not_true,Bool.false_eq_true,if_false]
    exact wpS_pure ⟨rfl,.inr ⟨pw,hB4⟩⟩
   ·rw [if_pos (one x _ _ hq)];exact wpS_pure ⟨rfl,pw,hq⟩
  ·rintro c st'' ⟨rfl,⟨z,_⟩|z⟩
   ·exact absurd z (by decide)
   ·exact⟨rfl,z⟩
  ·rintro c st'' ⟨rfl,pw,hq⟩
   exact wpS_pure (h _ hq.perm hq.failed)
end
end So
end
noncomputable section
namespace So
open PySem PyProof.Rows
theorem perm_out{vs:List Value}{ns:List Int}(hI:IntsAre vs ns){xs:Array Keyed}(hp:xs.Perm (pairsOf vs)):
 ∃ns',IntsAre (xs.map (·.2)).toList ns'∧ns'.Perm ns:=by
 have hl:xs.toList.Perm (vs.zip vs):=by rw [←pairsOf_toList];exact Array.perm_iff_toList_perm.mp hp
 have hmem:∀p,p∈xs.toList→p.1=p.2∧p.1∈vs:=fun p hp'=>mem_zip_self (hl.mem_iff.mp hp')
 refine⟨xs.toList.map (fun p=>numOf p.1),?_,?_⟩
 ·have e:(xs.map (·.2)).toList=xs.toList.map (·.1):=by
   rw [Array.toList_map];exact List.map_congr_left fun p hp'=>(hmem p hp').1.symm
  rw [e]
  have h1:=intsAre_map (xs.toList.map (·.1)) (by
   intro v hv
   obtain⟨p,hp',rfl⟩:=List.mem_map.mp hv
   exact hI.all _ (hmem p hp').2)
  rwa [List.map_map]at h1
 ·have h1:=hl.map (fun p=>numOf p.1)
  have e2:(vs.zip vs).map (fun p=>numOf p.1)=ns:=by
   have:(vs.zip vs).map (fun p=>numOf p.1)=((vs.zip vs).map Prod.fst).map numOf:=by rw [List.map_map];rfl
   rw [this,List.map_fst_zip (Nat.le_refl _),hI.nums]
  rwa [e2]at h1
section
variable{prog:Program}{w:World}{A:Around}{E:Value→Shared→Prop}{s:Shared}
theorem sort64{a:Addr}{vs:List Value}{ns:List Int}{n:Nat}{P:Fin→Shared→Prop}(ho:s.heap.get? a=some (seqObj "list" vs.toArray n))
 (hI:IntsAre vs ns)(h64:vs.length=64)
 (h:∀(out:Array Value) (ns':List Int),IntsAre out.toList ns'→ns'.Perm ns→P (.done (.ret .none)) {s with heap:=sortedHeap s.heap a vs out}):
 wpAny (model prog w) A (Builtin.«list.sort» ⟨[.ref a],[]⟩) P E s:=by
 rw [list_sort_plain]
 have ha:a<s.heap.objs.size:=Heap.lt_size ho
 refine wpAny_bind (listItems_at ho rfl ?_)
 refine wpAny_bind (listUpdate_at ho rfl ?_)
 obtain⟨e1,ho1⟩:∃e1,(s.heap.update a (Obj.mapSeq fun _=> #[])).get? a=some (seqObj "list" #[] e1):=⟨_,get?_update_seq ho (fun _=> #[])⟩
 refine wpAny_bind (seqEpoch_at ho1 rfl (wpAny_bind (wpAny_newTuple (wpAny_bind (wpAny_newList (wpAny_holding ?_))))))
 have ho6:(((s.heap.update a (Obj.mapSeq fun _=> #[])).push (seqObj "tuple" vs.toArray 0)).push (seqObj "list" #[] 0)).get? a=some (seqObj "list" #[] e1):=by
  rw [Heap.get?_push_ne _ _ _ (by rw [size_push',Heap.size_update];exact Nat.ne_of_lt (Nat.lt_succ_of_lt ha)),Heap.get?_push_ne _ _ _ (by rw [Heap.size_update];exact Nat.ne_of_lt ha)]
  exact ho1
 show wpAny (model prog w) A _ P E {s with heap:=((s.heap.update a (Obj.mapSeq fun _=> #[])).push (seqObj "tuple" vs.toArray 0)).push (seqObj "list" #[] 0)}
 dsimp only
 have hsz:vs.toArray.size=64:=by rw [List.size_toArray];exact h64
 rw [if_neg (by lia),if_neg (by lia)]
 obtain⟨v₁,v₂,rest,rfl⟩:∃v₁ v₂ rest,vs=v₁::v₂::rest:=by
  match vs,h64 with
  |v₁::v₂::rest,_=>exact⟨v₁,v₂,rest,rfl⟩
 rw [keyKind_ints hI]
 refine wpAny_bind (wpAny_pure ?_)
 refine wpAny_bind (wpAny_mono (wpS_runs64 (a₀:=pairsOf (v₁::v₂::rest)) (st:=SortSt.mk' oneType' ((v₁::v₂::rest).toArray.zip (v₁::v₂::rest).toArray) #[] 7 none)
  (Q:=fun _ st'=>(arrOf st').Perm (pairsOf (v₁::v₂::rest))∧failedOf st'=none)
  hI.intKeys ⟨Array.Perm.refl _,rfl,rfl,rfl⟩ (by rw [pairsOf_size];exact h64) fun st' a1 a2=>⟨a1,a2⟩) ?_ fun _ _ e=>e)
 rintro ⟨⟨⟩,st'⟩ s' ⟨rfl,hp,hf⟩
 dsimp only
 refine wpAny_bind (seqEpoch_at ho6 rfl ?_)
 refine wpAny_bind (listUpdate_at ho6 rfl ?_ (hsz2:=by refine Nat.le_trans (Nat.le_of_eq ((Array.size_map ..).trans (hp.size_eq.trans (pairsOf_size _)))) ?_;rw [sizeLine_eq];lia))
 rw [hf]
 simp only [bne_self_eq_false,Bool.false_eq_true,if_false]
 obtain⟨ns',h1,h2⟩:=perm_out hI hp
 exact wpAny_pure (h _ ns' h1 h2)
theorem sorted64{l:Addr}{vs:List Value}{ns:List Int}{Q:Value→Shared→Prop}(hl:s.heap.IsList l vs.toArray)(hI:IntsAre vs ns)(h64:vs.length=64)
 (h:∀(out:Array Value) (ns':List Int),IntsAre out.toList ns'→ns'.Perm ns→Q (.ref (s.heap.objs.size+1)) {s with heap:=sortedAll s.heap vs out}):
 wpAny (model prog w) A (call (.builtin "sorted") [.ref l]) Q E s:=by
 refine Calls.call_function_entry kind_sorted plain_sorted entry_sorted (args_sorted1 _) ?_
 unfold Builtin.«sorted»
 refine wpAny_bind (m:=checkCount "sorted" 1 1 _) (wpAny_pure ?_)
 refine wpAny_bind (collect_list hl ?_ (by rw [sizeLine_eq];lia))
 refine wpAny_bind (wpAny_newList ?_)
 have hsz:((s.heap.push (seqObj "list" #[] 0)).update s.heap.objs.size (Obj.mapSeq (· ++vs.toArray))).objs.size=s.heap.objs.size+1:=by
  rw [Heap.size_update,size_push']
 have hoL:(((s.heap.push (seqObj "list" #[] 0)).update s.heap.objs.size (Obj.mapSeq (· ++vs.toArray))).push (seqObj "list" vs.toArray 0)).get? (s.heap.objs.size+1)=some (seqObj "list" vs.toArray 0):=by
  rw [←hsz];exact Heap.get?_push_size _ rfl
 show wpAny _ _ _ _ _ {s with heap:=((s.heap.push (seqObj "list" #[] 0)).update s.heap.objs.size (Obj.mapSeq (· ++vs.toArray))).push (seqObj "list" vs.toArray 0)}
 rw [hsz]
 refine wpAny_bind (wpAny_holding (wpAny_call_entry slot_list_sort ⟨_,hoL,rfl⟩ entry_list_sort (sort64 hoL hI h64 fun out ns' a1 a2=>⟨_,rfl,?_⟩) (args_list_sort _)))
 exact wpAny_pure ⟨_,rfl,h out ns' a1 a2⟩
end
end So
end
noncomputable section
namespace LX
open PySem
theorem entry_unchain:entryFor table "proto.unchain"=some Builtin.«proto.unchain»:=entryFor_of_tree (by kernel_rfl)
section
variable{prog:Program}{w:World}{A:Around}{E:Value→Shared→Prop}{s:Shared}
theorem unchain_ok{e k:Addr}{Q:Value→Shared→Prop}(hk:NoCtx s.heap k)(h:Q .none s):wpAny (model prog w) A (runValue (.builtin "proto.unchain" ⟨[.ref e,.ref k,.ref k,.bool false],[]⟩)) Q E s:=by
 obtain⟨o,vs,ho,hd,h2⟩:=hk
 refine wpAny_runValue (codeAny_builtin entry_unchain ?_)
 unfold Builtin.«proto.unchain»
 show wpAny _ _ (field (.ref k) 2>>=_) _ _ _
 refine wpAny_bind (wpAny_field ho hd h2 ?_)
 exact wpAny_pure h
theorem raiseNew_in{α:Type}{e k:Addr}{oe:Obj}{vs:Array Value}{Q:α→Shared→Prop}(hh:A.handled=some (.ref k))(hk:NoCtx s.heap k)(ne:k≠e)(he:s.heap.get? e=some oe)(hd:oe.data=.fields vs)(hz:2<vs.size)
 (h:E (.ref e) {s with heap:=s.heap.update e (Obj.mapFields (·.setIfInBounds 2 (.ref k)))}):wpAny (model prog w) A (raiseNew (.ref e):Sem α) Q E s:=by
 unfold raiseNew
 refine wpAny_bind (wpAny_handled ?_)
 rw [hh]
 dsimp only
 rw [if_pos (by simpa using ne)]
 refine wpAny_bind (wpAny_holding (unchain_ok hk ?_))
 exact wpAny_bind (show wpAny _ _ (setField (.ref e) 2 (.ref k)) _ _ _ from wpAny_setField he hd hz (wpAny_throw h))
variable{env:Env}{nm q:Str}{C N k:Addr}{bs bm:List Value}{hdct:Bool}{sn:List Str}{sub:List Value}{ab:Bool}{col:Option Bool}{dd:Option Addr}{k0 k1 k2 k3 k5:Option Value}{B newId initId:String}
theorem raiseStmt_from{x c:Sem Value}{Q:Flow→Shared→Prop}(hbase:bm.contains (.type "BaseException")=true)(hh:A.handled=some (.ref k))(hc:∀(s:Shared) (Q:Value→Shared→Prop),Q .none s→wpAny (model prog w) A c Q E s)
 (h:wpAny (model prog w) A x (fun v s₁=>∃e t,v=.ref e∧s₁.heap.get? C=some (excClassObj nm q C N bs bm hdct sn sub ab col dd k0 k1 k2 k3 k5 newId)∧
   s₁.heap.get? e=some {cls:=.ref C,data:=.fields #[.ref t,.none,.none,.none,.bool false,.none]}∧k≠e∧C≠e∧NoCtx s₁.heap k∧
   ∀h',(∀b,b≠e→h'.get? b=s₁.heap.get? b)→h'.get? e=some {cls:=.ref C,data:=.fields #[.ref t,.none,.ref k,.none,.bool true,.none]}→E (.ref e) {s₁ with heap:=h'}) E s):
 wpAny (model prog w) A (raiseStmt env (some x) (some c)) Q E s:=by
 have hcB:(Value.ref C::bm).contains (.type "BaseException")=true:=by rw [List.contains_cons,hbase,Bool.or_true]
 unfold raiseStmt
 refine wpAny_bind (wpAny_mono h (fun v s₁ h₁=> ?_) fun _ _ x=>x)
 obtain⟨e,t,rfl,hC,he,ne,nC,hk,hE⟩:=h₁
 refine wpAny_bind (wpAny_holding (hc _ _ (wpAny_bind (wpAny_pure ?_))))
 obtain⟨hp,g,d,tk,os⟩:=s₁
 dsimp only
 refine wpAny_bind (wpAny_holding ?_)
 unfold excFromValue
 repeat (first|with_reducible refine wpAny_loadPart_at he ?_|with_reducible refine wpAny_loadPart_at hC ?_|(with_reducible refine wpAny_isSubtype_exc hC ?_;rw [hcB])|wp_step)
 have u1:=Heap.get?_update_self (Obj.mapFields (·.setIfInBounds 3 Value.none)) he rfl
 have u2:=Heap.get?_update_self (Obj.mapFields (·.setIfInBounds 4 (Value.bool true))) u1 rfl
 have u3:=Heap.get?_update_self (Obj.mapFields (·.setIfInBounds 2 (Value.ref k))) u2 rfl
 have o3:∀b,b≠e→(((hp.update e (Obj.mapFields (·.setIfInBounds 3 Value.none))).update e (Obj.mapFields (·.setIfInBounds 4 (Value.bool true)))).get? b=hp.get? b):=fun b hb=>by
  rw [Heap.get?_update_other _ _ (Ne.symm hb),Heap.get?_update_other _ _ (Ne.symm hb)]
 refine raiseNew_in hh (s:=⟨_,g,d,tk,os⟩) ?_ ne u2 rfl (by show 2<6;decide) (hE _ (fun b hb=> ?_) u3)
 ·obtain⟨ok,vk,h1,h2⟩:=hk
  exact⟨ok,vk,(o3 k ne).trans h1,h2⟩
 ·rw [Heap.get?_update_other _ _ (Ne.symm hb)]
  exact o3 b hb
variable{bmB:List Value}{mN:Str→Option Value}{x:Str}{np cpos pos cp:Pos}{cj:Nat}{args:List Expr}
theorem Raise_call_from(F:ExcBaseFacts B newId initId bmB){Q:Flow→Shared→Prop}
 (hbase:bm.contains (.type "BaseException")=true)(hh:A.handled=some (.ref k))(hplain:(backTo cpos (starEach args env)).any (·.1)=false)(hni:mN "__init__"=none)
 (h:wpAny (model prog w) A (eval (.Name x np) env) (fun f s₁=>f=.ref C∧wpAny (model prog w) A (evalArgs (.ref C) true (backTo cpos (starEach args env)) [])
   (fun a s₂=>a.kw=[]∧a.pos.length≤sizeLine∧s₂.heap.get? C=some (excClassObj nm q C N bs bm hdct sn sub ab col dd k0 k1 k2 k3 k5 newId)∧s₂.heap.Ns N mN∧OwnTail s₂.heap bmB bm∧NoCtx s₂.heap k∧
     ∀h' e,(∀b o,s₂.heap.get? b=some o→h'.get? b=some o)→s₂.heap.get? e=none→(∃t,h'.get? e=some {cls:=.ref C,data:=.fields #[.ref t,.none,.ref k,.none,.bool true,.none]})→E (.ref e) {s₂ with heap:=h'}) E s₁) E s):
 wpAny (model prog w) A (exec (.Raise (some (.Call (.Name x np) args [] cpos)) (some (.Constant .none cj cp)) pos) env) Q E s:=by
 rw [arm_exec_Raise]
 simp only [evalOpt,Option.map]
 refine wpAny_bind (wpAny_standAt (raiseStmt_from (C:=C) (nm:=nm) (q:=q) (N:=N) (bs:=bs) (bm:=bm) (hdct:=hdct) (sn:=sn) (sub:=sub) (ab:=ab) (col:=col) (dd:=dd) (k0:=k0) (k1:=k1) (k2:=k2) (k3:=k3) (k5:=k5) (newId:=newId) hbase hh (fun s' Q' q'=>wpAny_bind (PyProof.Rows.Constant_none (wpAny_bind (wpAny_standAt (wpAny_pure q'))))) ?_))
 refine wpAny_bind (wpAny_mono (wpAny_Call_ofName (wpAny_mono h (fun f s₁ h₁=> ?_) fun _ _ x=>x)) (fun v s₃ h₃=>wpAny_bind (wpAny_standAt (wpAny_pure h₃))) fun _ _ x=>x)
 obtain⟨rfl,h₁⟩:=h₁
 unfold callWith
 refine wpAny_bind (wpAny_holding (wpAny_mono h₁ (fun a s₂ h₂=>wpAny_bind (wpAny_standAt ?_)) fun _ _ x=>x))
 obtain⟨apos,akw⟩:=a
 obtain⟨hkw,hlen,hC,hn,T,hk,h₂⟩:=h₂
 obtain rfl:akw=[]:=hkw
 obtain⟨hp,g,d,tk,os⟩:=s₂
 simp only [hplain]
 refine wpAny_bind (wpAny_keeperOf_exc hC ?_)
 refine wpAny_bind (wpAny_call_exc_subT (hrest:=hlen) F T hC hn hni fun h' e hm=>wpAny_bind (wpAny_holding (wpAny_point (wpAny_pure ?_))))
 obtain⟨t,ht,_,_⟩:=hm.there
 obtain⟨ok,vk,k1,k2⟩:=hk
 have ne:∀b o,hp.get? b=some o→b≠e:=fun b o z w=>by have:=hm.new;rw [←w]at this;exact absurd (z.symm.trans this) (by simp)
 exact⟨e,t,rfl,hm.keeps _ _ hC,ht,ne _ _ k1,ne _ _ hC,⟨ok,vk,hm.keeps _ _ k1,k2⟩,fun h2 o2 e2=>h₂ h2 e (fun b o z=>(o2 b (ne b o z)).trans (hm.keeps b o z)) hm.new ⟨t,e2⟩⟩
end
end LX
end
noncomputable section
namespace LX
open PySem
inductive FlyK(h:Heap)(e T:Addr)(cls fl:Value):Prop where
 |mk (oe:Obj) (vs:Array Value) (oT:Obj) (ts:Array Value):h.get? e=some oe→oe.cls=cls→oe.data=.fields vs→vs[1]?=some (.ref T)→vs[2]?=some .none→T≠e→h.get? T=some oT→oT.data=.fields ts→ts[3]?=some fl→FlyK h e T cls fl
inductive MadeK(h:Heap)(e:Addr)(cls:Value):Prop where
 |mk (oe:Obj) (vs:Array Value):h.get? e=some oe→oe.cls=cls→oe.data=.fields vs→vs[1]?=some .none→vs[2]?=some .none→MadeK h e cls
section
variable{M:Model}{A:Around}{E:Value→Shared→Prop}{s:Shared}{base:Heap}{env:Env}{outer:List Env}{L e T:Addr}{cls fl:Value}
theorem note_newK{Q:Unit→Shared→Prop}(hfr:A.frames=some (env::outer))(hl:s.heap.FunFrames base (env::outer))(hf:env.frame=some L)(x:MadeK s.heap e cls)
 (h:∀h' T',s.heap.get? T'=none→FlyK h' e T' cls (rawInt L)→Mv ((env::outer).filterMap (·.frame)) e e s.heap h'→Q () {s with heap:=h'}):wpAny M A (noteFrame (.ref e) env) Q E s:=by
 obtain⟨oe,vs,he,rfl,hd,h1,hc2⟩:=x
 have hsz:1<vs.size:=(Array.getElem?_eq_some_iff.mp h1).1
 unfold noteFrame
 simp only [hf]
 refine wpAny_bind (wpAny_field he hd h1 ?_)
 rw [if_neg (by decide)]
 have hene:e∉(env::outer).filterMap (·.frame):=fun hm=>by
  obtain⟨_,o,ho,hnf⟩:=hl.mem hm
  rw [he]at ho
  cases ho
  exact hnf vs hd
 refine wpAny_bind (wpAny_frameOf_fun hfr hl hf fun h1 s1=> ?_)
 refine wpAny_bind (wpAny_entryPlaceOf fun pl hpl=> ?_)
 unfold EntryCells.newEntry newFields
 refine wpAny_bind (wpAny_newObj_type ?_ (hpl.sizeOk5 _ _ _ _ _))
 have e1:h1.get? e=some oe:=(s1.2.1 e hene).trans he
 have e2:=Heap.get?_push_of_some (h:=h1) {cls:=.type "traceback",dict:=none,data:=.fields ([Value.none,.ref L,.none,rawInt L,.none]++(if pl.isEmpty then List.replicate 6 Value.none else pl)).toArray} e1
 refine wpAny_setField e2 hd hsz (h _ h1.objs.size (Heap.get?_none_of_le (by rw [s1.1];exact Nat.le_refl _)) ?_ ?_)
 ·have d3:=Obj.data_mapFields hd (·.setIfInBounds 1 (Value.ref h1.objs.size))
  have ne:h1.objs.size≠e:=Nat.ne_of_gt (Heap.lt_size e1)
  have e3:=Heap.get?_update_self (Obj.mapFields (·.setIfInBounds 1 (Value.ref h1.objs.size))) e2 (Obj.isFreed_of_fields d3)
  refine⟨_,_,_,_,e3,Obj.cls_mapFields _ _,d3,by simp [hsz],?_,ne,(Heap.get?_update_other _ _ (Ne.symm ne)).trans (Heap.get?_push_size h1 rfl),rfl,?_⟩
  ·rw [Array.getElem?_setIfInBounds_ne (by decide)];exact hc2
  ·first
   |(simp;done)
   |(rcases hpl with rfl|⟨_,_,_,_,_,_,_,rfl⟩<;>simp)
 ·refine⟨fun b o q hb ne _=> ?_,fun b o q hb ne _=> ?_,fun b o q=> ?_⟩
  ·rw [Heap.get?_update_other _ _ (Ne.symm ne)]
   exact Heap.get?_push_of_some _ ((s1.2.1 b hb).trans q)
  ·obtain⟨sl,q1⟩:=s1.2.2 b o q
   exact⟨sl,by rw [Heap.get?_update_other _ _ (Ne.symm ne)];exact Heap.get?_push_of_some _ q1⟩
  ·obtain⟨sl,q1⟩:=s1.2.2 b o q
   exact upd_there e2 hd b _ (Heap.get?_push_of_some _ q1)
theorem landK{Q:Unit→Shared→Prop}{fs:List Addr}(x:FlyK s.heap e T cls fl)(h:∀h',FlyK h' e T cls .none→Mv fs e T s.heap h'→Q () {s with heap:=h'}):wpAny M A (setFlight (.ref e) none) Q E s:=by
 obtain⟨oe,vs,oT,ts,he,rfl,hd,h1,hc2,hTe,hT,hdT,h3⟩:=x
 have sz:3<ts.size:=(Array.getElem?_eq_some_iff.mp h3).1
 unfold setFlight
 refine wpAny_bind (wpAny_field he hd h1 ?_)
 rw [if_pos (show(Value.ref T !=Value.none)=true by simp)]
 have dT:=Obj.data_mapFields hdT (·.setIfInBounds 3 ((none:Option Addr).elim Value.none fun f=>rawInt f))
 refine wpAny_setField hT hdT sz (h _ ⟨oe,vs,_,_,?_,rfl,hd,h1,hc2,hTe,Heap.get?_update_self _ hT (Obj.isFreed_of_fields dT),dT,by simp [sz]⟩ ⟨fun b o q _ _ nt=> ?_,fun b o q _ _ nt=>⟨o.slots,?_⟩,upd_there hT hdT⟩)
 ·rw [Heap.get?_update_other _ _ hTe];exact he
 ·rw [Heap.get?_update_other _ _ (Ne.symm nt)];exact q
 ·rw [Heap.get?_update_other _ _ (Ne.symm nt)];exact q
theorem FlyK.fe{h:Heap}(x:FlyK h e T cls fl):(∃o vs,h.get? e=some o∧o.data=.fields vs)∧(∃o vs,h.get? T=some o∧o.data=.fields vs)∧NoCtx h e∧∃o,h.get? e=some o∧o.cls=cls:=by
 obtain⟨oe,vs,oT,ts,he,hc,hd,h1,hc2,hTe,hT,hdT,h3⟩:=x
 exact⟨⟨oe,vs,he,hd⟩,⟨oT,ts,hT,hdT⟩,⟨oe,vs,he,hd,hc2⟩,oe,he,hc⟩
theorem MadeK.fe{h:Heap}(x:MadeK h e cls):∃o vs,h.get? e=some o∧o.data=.fields vs:=by
 obtain⟨oe,vs,he,hc,hd,h1,hc2⟩:=x
 exact⟨oe,vs,he,hd⟩
end
theorem keyErr_exc:isSubtype (.type "KeyError") (.type "BaseException")=pure true:=by rw [isSubtype_type];kernel_rfl
theorem keyErr_tup:isSubtype (.type ((Manifest.find? "KeyError").elim "type" fun x=>x.metatype)) (.type "tuple")=pure false:=by
 rw [show((Manifest.find? "KeyError").elim "type" fun x=>x.metatype)="type" by decide+kernel,isSubtype_type];kernel_rfl
theorem keyErr_self:isSubtype (.type "KeyError") (.type "KeyError")=pure true:=by rw [isSubtype_type];kernel_rfl
end LX
namespace L2
open PySem PySem.Spec PyProof.Rows LX
def XKey(X:Cx)(H0:Hp)(e:Value)(s':Shared):Prop:=∃a pins σ H,e=.ref a∧Same H0 H∧Inv X pins σ H s'∧X.s₀.heap.get? a=none∧H a=none∧(∀p∈X.pn++pins,p.1≠a)∧MadeK s'.heap a (.type "KeyError")
noncomputable def Xg(X:Cx)(e:Addr):Cx:= {X with A:=X.A.mark (some (.ref e)),calm:=false}
section
variable{X:Cx}{E:XK}{pins:List (Addr×Obj)}{σ:St}{H:Hp}{s:Shared}{e:Addr}
theorem Inv.inG(J:Inv X pins σ H s):Inv (Xg X e) pins σ H s:=
 ⟨⟨J.ok.mod,J.ok.kind,J.ok.glob,J.ok.blt,J.ok.above,J.ok.inj,J.ok.has,J.ok.cab,(fun z=>by cases z),J.ok.frames,J.ok.stk,J.ok.exf,J.ok.bs,J.ok.bsz,J.ok.noex,J.ok.exfs,J.ok.funs,J.ok.frf⟩,J.os,J.bare,J.base,J.loc,J.cell,J.free,J.freeC,J.pin,J.hok,J.len⟩
theorem ps_try_ok{body:List Stmt}{h₀:ExceptHandler}{hs:List ExceptHandler}{t:TS}{pos:Pos}(hb:PSs X.nox body t):PS X (.Try body (h₀::hs) [] [] pos) t:=by
 intro pins s σ H D I q
 refine wpAny_Try_except (wpAny_mono (hb pins s σ H D (I.wish _) q) (fun f s1 z=> ?_) fun _ _ z=>z.elim)
 cases f with
 |next=>exact wpAny_execs_nil z.unwish
 |ret u=>exact z.unwish
 |brk=>exact z.unwish
 |cont=>exact z.unwish
variable{x:Str}{C:Addr}{bm:List Value}{newId B initId:String}{body:List Stmt}{w:Str}
theorem ps_try_key{tb:Hp→TS}{np cpos rp cp kp hp tp ap:Pos}{cj aj:Nat}(O:XOut X E)(PO:∀k,PassesOwnAt (model X.prog X.w) (X.A.mark (some (.ref k))) X.A X.env X.xe)(G:OwnCls x C bm newId X.mg X.base)(FB:ExcBaseFacts B newId initId bm)(hg:Gl X x)(hgk:Gl X "KeyError")(hmk:X.mg "KeyError"=none)
 (hb:∀H0,PSs (X.wish (XKey X H0)) body (tb H0))(hdb:(x==("__debug__":Str))=false:=by decide):
 PS X (.Try body [.ExceptHandler (some (.Name "KeyError" kp)) none [.Raise (some (.Call (.Name x np) [.Constant (.str w) aj ap] [] cpos)) (some (.Constant .none cj cp)) rp] hp] [] [] tp)
  (fun _ σ H=>tb H {nx:=fun _ _=>False,rt:=fun _ _=>False} σ H∧∀H',Same H H'→E (.ref C) none H'):=by
 intro pins s σ H D I ⟨q1,q2⟩
 refine wpAny_Try_except (wpAny_mono (hb H pins s σ H _ (I.wish _) q1) (fun f s1 z=> ?_) fun ev s1 hx=> ?_)
 ·cases f with
  |next=>obtain⟨_,_,_,z⟩:=z;exact z.elim
  |ret u=>obtain⟨_,_,_,_,_,z⟩:=z;exact z.elim
  |brk=>obtain⟨_,_,_,z⟩:=z;exact z.elim
  |cont=>obtain⟨_,_,_,z⟩:=z;exact z.elim
 obtain⟨e,pins',σ',H',rfl,sh,J,e0,he,pe,mk⟩:=hx
 have ok:=J.ok
 have hfr:X.A.frames=some (X.env::X.outer):=by rw [ok.frames,O.stk]
 have hstk:(X.env::X.outer).filterMap (·.frame)=frs X.stack:=by rw [O.stk];rfl
 have pe1:∀p∈X.pn++pins',p.1≠e∧p.1≠e:=fun p hp=>⟨pe p hp,pe p hp⟩
 refine note_newK (base:=X.base) hfr (by have:=J.stack;rw [O.stk]at this;exact this) O.fr mk fun h1 T1 n1 f1 m1=> ?_
 rw [hstk]at m1
 have J1:=J.moved O.ex (fun b hb=>hb) m1 e0 e0 he he mk.fe mk.fe pe1
 have t10:X.s₀.heap.get? T1=none:=J.s0none O.ex n1
 have hT1:H' T1=none:=J.hok.none n1
 have pe2:∀p∈X.pn++pins',p.1≠e∧p.1≠T1:=fun p hp=>⟨pe p hp,fun z=>by have:=(J.pin p hp).1;rw [z,n1]at this;cases this⟩
 refine landK (fs:=[]) (s:= {s1 with heap:=h1}) f1 fun h2 f2 m2=> ?_
 have J2:=J1.moved O.ex (fs:=[]) (fun b hb=>absurd hb (by simp)) m2 e0 t10 he hT1 f1.fe.1 f1.fe.2.1 pe2
 refine wpAny_handleBy_cons (codeAny_handlers_test (ld_blt (X:=Xg X e) (u:=.type "KeyError") J2.inG hgk hmk (by decide+kernel) ?_)) (by intro z;cases z)
 obtain⟨oe,ho,hc⟩:=f2.fe.2.2.2
 refine wpAny_excMatches_type (X:="KeyError") ⟨oe,ho,hc⟩ keyErr_exc keyErr_tup keyErr_self ?_
 refine codeAny_handlers_suite ?_
 refine landK (fs:=[]) (s:= {s1 with heap:=h2}) f2 fun h3 f3 m3=> ?_
 have J3:=J2.moved O.ex (fs:=[]) (fun b hb=>absurd hb (by simp)) m3 e0 t10 he hT1 f2.fe.1 f2.fe.2.1 pe2
 refine wpAny_passesOwnAt (PO e) (wpAny_execs_cons ?_)
 obtain⟨tl,N,nm,q,bs,hdct,sn,sub,ab,col,dd,k0,k1,k2,k3,k5,mN,hC,hN,hni,T⟩:=G.obj
 refine Raise_call_from (C:=C) (nm:=nm) (q:=q) (N:=N) (bs:=bs) (bm:=tl) (hdct:=hdct) (sn:=sn) (sub:=sub) (ab:=ab) (col:=col) (dd:=dd) (k0:=k0) (k1:=k1) (k2:=k2) (k3:=k3) (k5:=k5)
  FB (mN:=mN) (T.hasType FB.hasBase) rfl rfl hni (ld_glob (X:=Xg X e) J3.inG hg G.bound ⟨rfl,?_⟩ hdb)
 refine Calls.evalArgs_plain (Calls.spliced_cons (Calls.Constant_str (k:=aj) (pos:=ap) (Calls.spliced_nil ?_)))
 have I2:Inv X pins' σ' H' {s1 with heap:=h3,toks:=s1.toks+1}:=J3.tok _
 exact⟨rfl,by show 1≤sizeLine;decide,I2.bk _ _ hC,hN.keeps I2.bk,T.keeps I2.bk,f3.fe.2.2.1,fun h' b k n ⟨t0,ht⟩=>(by
  obtain⟨ok,vk,k1,k2,k3⟩:=f3.fe.2.2.1
  have eb:e≠b:=fun z=>by rw [←z]at n;exact absurd (k1.symm.trans n) (by simp)
  exact leave_made O I2 k n (cx:=some e) ⟨_,_,ht,rfl,rfl,rfl,rfl,rfl,fun k' z=>by cases z;exact⟨eb,eb,ok,vk,k _ _ k1,k2,k3⟩⟩ (fun k' z=>by cases z;exact⟨e0,he⟩) (q2 _ sh))⟩
end
end L2
end
noncomputable section
namespace LX
open PySem
def Chain(h:Heap)(e:Addr)(o:Option Addr):Prop:=∃ob vs,h.get? e=some ob∧ob.data=.fields vs∧vs[2]?=some (o.elim .none Value.ref)∧∀k,o=some k→NoCtx h k
section
variable{prog:Program}{w:World}{A:Around}{E:Value→Shared→Prop}{s:Shared}
theorem unchain2{n e:Addr}{o:Option Addr}{Q:Value→Shared→Prop}(hc:Chain s.heap e o)(ne:∀k,o=some k→k≠n∧k≠e)(h:Q .none s):wpAny (model prog w) A (runValue (.builtin "proto.unchain" ⟨[.ref n,.ref e,.ref e,.bool false],[]⟩)) Q E s:=by
 obtain⟨ob,vs,ho,hd,h2,hk⟩:=hc
 cases o with
 |none=>exact unchain_ok ⟨ob,vs,ho,hd,h2⟩ h
 |some k=>
  obtain⟨n1,n2⟩:=ne k rfl
  obtain⟨ok,vk,k1,k2,k3⟩:=hk k rfl
  refine wpAny_runValue (codeAny_builtin entry_unchain ?_)
  unfold Builtin.«proto.unchain»
  show wpAny _ _ (field (.ref e) 2>>=_) _ _ _
  have h2:vs[2]?=some (Value.ref k):=h2
  refine wpAny_bind (wpAny_field ho hd h2 ?_)
  rw [if_neg (show¬((Value.ref k==Value.none)=true) by simp)]
  rw [if_neg (show¬((Value.ref k==Value.ref n)=true) by simpa using n1),if_neg (show¬((Value.ref k==Value.ref e)=true) by simpa using n2)]
  refine wpAny_bind (wpAny_pure (wpAny_pure ⟨Code.quiet_builtin _ (by decide+kernel),codeAny_builtin entry_unchain ?_⟩))
  unfold Builtin.«proto.unchain»
  show wpAny _ _ (field (.ref k) 2>>=_) _ _ _
  refine wpAny_bind (wpAny_field k1 k2 k3 ?_)
  exact wpAny_pure h
theorem list_endH{it l e:Addr}{i:Nat}{items}{o:Option Addr}{Q:Option Value→Shared→Prop}(hh:A.handled=some (.ref e))(hc:Chain s.heap e o)(ie:it≠e)(ik:∀k,o=some k→k≠it∧k≠e)
 (hit:s.heap.IsListIter it l i)(hl:s.heap.IsList l items)(hx:items[i]?=none)
 (hQ:∀h',Heap.ExtBut it s.heap h'→Q none {s with heap:=h'}):wpAny (model prog w) A (pyNext (.ref it)) Q E s:=by
 obtain⟨oi,ho,hcl,hd⟩:=id hit
 obtain⟨ol,hol,_,nl,hdl⟩:=hl
 unfold pyNext
 refine wpAny_bind (wpAny_attempt (wpAny_callSpecial?_slot (name:=Str.ofString "__next__") hit.typeIs slot_listiter_next
  (wpAny_call_entry slot_listiter_next hit.typeIs entry_listiter_next ?_ (args_listiter_next _))))
 show wpAny _ _ (field (.ref it) 0>>=_) _ _ s
 refine wpAny_bind (wpAny_field ho hd (x:=.ref l) rfl ?_)
 show wpAny _ _ (if(Value.ref l==Value.none)=true then _ else _) _ _ s
 rw [if_neg (show¬((Value.ref l==Value.none)=true)from fnt)]
 show wpAny _ _ (field (.ref it) 1>>=_) _ _ s
 refine wpAny_bind (wpAny_field ho hd (x:=.int i 0) rfl ?_)
 show wpAny _ _ (seqItems? (.ref l)>>=_) _ _ s
 refine wpAny_bind (wpAny_seqItems hol hdl ?_)
 simp only [Int.toNat_natCast,hx]
 refine wpAny_bind (wpAny_rule (wpAny_bind (wpAny_setField ho hd (by simp) ?_)))
 show wpAny _ _ (newExc (.type "StopIteration") []>>=_) _ _ _
 refine wpAny_bind ?_
 simp only [newExc,newTuple]
 refine wpAny_bind (wpAny_newObj_type ?_ (by size_fits))
 refine wpAny_bind (m:=firstArgMember _ _) (wpAny_of_eq (a:=Value.none) (by first|rfl|(simp only [firstArgMember];rfl)) ?_)
 refine wpAny_newObj_type ?_ (by size_fits)
 simp only [raiseNew]
 refine wpAny_bind (wpAny_handled ?_)
 rw [show A.in1.handled=some (.ref e)from hh]
 have u1:∀b,b≠it→(s.heap.update it (Obj.mapFields fun x=>x.setIfInBounds 0 Value.none)).get? b=s.heap.get? b:=fun b hb=>Heap.get?_update_other _ _ (Ne.symm hb)
 have k1:∀(Z:Obj) b ob,s.heap.get? b=some ob→b≠it→(((s.heap.update it (Obj.mapFields fun x=>x.setIfInBounds 0 Value.none)).push {cls:=.type "tuple",data:=.seq #[]}).push Z).get? b=some ob:=fun Z b ob z nb=>Heap.get?_push_of_some _ (Heap.get?_push_of_some _ ((u1 b nb).trans z))
 have lt:∀b ob,s.heap.get? b=some ob→b≠((s.heap.update it (Obj.mapFields fun x=>x.setIfInBounds 0 Value.none)).push {cls:=.type "tuple",data:=.seq #[]}).objs.size:=fun b ob z=>Nat.ne_of_lt (by rw [Heap.size_push,Heap.size_update];exact Nat.lt_succ_of_lt (Heap.lt_size z))
 obtain⟨ob,vs,c1,c2,c3,c4⟩:=hc
 dsimp only
 rw [if_pos (show(Value.ref e !=Value.ref _)=true by simpa using lt e ob c1)]
 refine wpAny_bind (wpAny_holding (unchain2 (o:=o) ⟨ob,vs,k1 _ e ob c1 (Ne.symm ie),c2,c3,fun k hk=> ?_⟩ (fun k hk=>⟨?_,(ik k hk).2⟩) ?_))
 ·obtain⟨ok,vk,z1,z2⟩:=c4 k hk
  exact⟨ok,vk,k1 _ k ok z1 (ik k hk).1,z2⟩
 ·obtain⟨ok,vk,z1,z2⟩:=c4 k hk
  exact lt k ok z1
 refine wpAny_bind (show wpAny _ _ (setField (.ref _) 2 (.ref e)) _ _ _ from wpAny_setField (Heap.get?_push_size _ rfl) rfl (by rw [Array.size_append];exact Nat.lt_of_lt_of_le (by decide:2<6) (Nat.le_add_right ..)) (wpAny_throw ?_))
 refine wpAny_bind (wpAny_isInstance (T:="StopIteration") (b:=true) ⟨_,Heap.get?_update_self _ (Heap.get?_push_size _ rfl) rfl,rfl⟩ isSubtype_stop ?_)
 exact wpAny_pure (hQ _ fun b ob nb z=>(Heap.get?_update_other _ _ (Ne.symm (lt b ob z))).trans (k1 _ b ob z nb))
theorem Walks.listH{prog:Program}{w:World}{A:Around}{e:Addr}{o:Option Addr}(hh:A.handled=some (.ref e))(I ax:Addr)(hne:ax≠I)(ie:I≠e)(ik:∀k,o=some k→k≠I∧k≠e)(items:Array Value):
 Walks prog w A I (I::ax::e::o.toList) [I] items.size (fun i v=>items[i]?=some v) (fun i h=>h.IsListIter I ax i∧h.IsList ax items∧Chain h e o) where
 sub:=fun b hb=>by simp at hb;simp [hb]
 frame:=fun _ _ _ st hk=>by
  obtain⟨s1,s2,ob,vs,c1,c2,c3,c4⟩:=st
  refine⟨s1.at fun o e=>hk I (by simp) o e,s2.at fun o e=>hk ax (by simp) o e,ob,vs,hk e (by simp) ob c1,c2,c3,fun k z=> ?_⟩
  obtain⟨ok,vk,k1,k2⟩:=c4 k z
  exact⟨ok,vk,hk k (by simp [z]) ok k1,k2⟩
 item:=fun i s Q E hi st hQ=>by
  obtain⟨s1,s2,ob,vs,c1,c2,c3,c4⟩:=st
  refine wpAny_pyNext_list_item s1 s2 (x:=items[i]) (by simp [hi]) fun h' hit' hs'=> ?_
  refine hQ _ h' s.toks (by simp [hi]) ⟨hit',s2.extBut hs'.extBut hne,ob,vs,hs'.extBut e ob (Ne.symm ie) c1,c2,c3,fun k z=> ?_⟩ fun b o hb e=>hs'.extBut b o (fun h=>hb (by simp [h])) e
  obtain⟨ok,vk,k1,k2⟩:=c4 k z
  exact⟨ok,vk,hs'.extBut k ok (ik k z).1 k1,k2⟩
 done:=fun s Q E st hQ=>list_endH hh st.2.2 ie ik st.1 st.2.1 (by simp) fun h' he'=>hQ h' s.toks fun b o hb e=>he' b o (fun h=>hb (by simp [h])) e
 self:=fun _ _ _ _ st hQ=>wpAny_pyIter_listiter st.1 hQ
end
end LX
namespace L2
open PySem PySem.Spec PyProof.Rows LX
def excAtC(e:Addr)(cls:Value)(o:Option Addr)(h:Heap):Prop:=∃ob vs,h.get? e=some ob∧ob.cls=cls∧ob.dict=none∧ob.data=.fields vs∧vs[2]?=some (o.elim .none Value.ref)
theorem excAtC.at{e:Addr}{cls:Value}{o:Option Addr}{h:Heap}(x:excAtC e cls o h):excAt e cls h:=by
 obtain⟨ob,vs,h1,h2,h3,h4,_⟩:=x
 exact⟨ob,vs,h1,h2,h3,h4⟩
def Held(H:Hp)(e:Addr)(cls:Value)(o:Option Addr):Prop:=H e=some (.ext (excAtC e cls o))∧∀k,o=some k→k≠e∧H k=some (.ext fun h=>NoCtx h k)
section
variable{X:Cx}{e:Addr}{cls:Value}{o:Option Addr}
theorem call_anyH(hh:X.A.handled=some (.ref e)):CallR X (.builtin "any") (fun xs H Q=>∃(p:Addr) (bs:List Bool),xs=[.ref p]∧SqL X.K H p (bs.map V.bl)∧Held H e cls o∧Q (.bl (bs.any id)) H):=by
 intro pins s σ H xs us Q I r h
 obtain⟨p,bs,rfl,hq,⟨he,hk⟩,q⟩:=h
 obtain⟨u,rfl,ru⟩:=r.one
 cases ru
 obtain⟨its,rv,pl,hz⟩:=I.list hq
 obtain⟨ol,el,cl,_⟩:=pl.isList
 obtain⟨⟨ob,vs,c1,_,_,c2,c3⟩,_⟩:=(show ObjOk X.prog X.w H s.heap e (.ext (excAtC e cls o))from I.hok e _ he)
 have c4:∀k,o=some k→NoCtx s.heap k:=fun k z=>(show ObjOk X.prog X.w H s.heap k (.ext fun h=>NoCtx h k)from I.hok k _ (hk k z).2).1
 have nI:∀b ob,s.heap.get? b=some ob→b≠s.heap.objs.size:=fun b ob z=>Nat.ne_of_lt (Heap.lt_size z)
 refine call_any_walk (wpAny_pyIter_list pl.isList ?_)
 refine⟨_,_,_,_,_,_,_,rfl,Walks.listH (A:=X.A.in1) (e:=e) (o:=o) hh s.heap.objs.size p (nI _ _ el) (Ne.symm (nI _ _ c1)) (fun k z=> ?_) its.toArray,⟨⟨_,Heap.get?_push_size _ rfl,rfl,rfl⟩,pl.isList.push _,ob,vs,Heap.get?_push_of_some _ c1,c2,c3,fun k z=> ?_⟩,truth_bl rv _,fun h' tk hk=> ?_⟩
 ·obtain⟨ok,vk,k1,_⟩:=c4 k z
  exact⟨nI k ok k1,(hk k z).1⟩
 ·obtain⟨ok,vk,k1,k2⟩:=c4 k z
  exact⟨ok,vk,Heap.get?_push_of_some _ k1,k2⟩
 refine⟨.bl _,H,I.kept fun b o e=>hk b o (fun z=>Nat.ne_of_lt (Heap.lt_size e) (by simpa using z)) (Heap.get?_push_of_some _ e),rfl,?_⟩
 have e:its.toArray.size=bs.length:=by rw [List.size_toArray,←rv.length,List.length_map]
 rw [e,range_any]
 exact q
end
theorem same_up{H:Hp}{p:Addr}{o:HO}(h:H p=none):Same H (upd H p o):=fun b u q=>by rw [upd_ne (ne_of_none q h)];exact q
section
variable{X:Cx}{pins:List (Addr×Obj)}{σ:St}{H:Hp}{s:Shared}{e T:Addr}{cls fl:Value}{cx:Option Addr}
theorem _root_.LX.Fly.ctx{h:Heap}(x:Fly h e T cls fl cx):excAtC e cls cx h∧∀k,cx=some k→k≠e∧NoCtx h k:=by
 obtain⟨oe,vs,oT,ts,he,hc,hdc,hd,h1,hTe,hT,hdT,h3,hx⟩:=x
 exact⟨⟨oe,vs,he,hc,hdc,hd,hx.1⟩,fun k z=>⟨(hx.2 k z).1,(hx.2 k z).2.2⟩⟩
theorem handle_okC{D:Ends}{n:Str}{i:Nat}{c:Str}{cv:Value}{cp hp:Pos}{b₀:Stmt}{suite:List Stmt}{ts:TS}{xe:Value→Shared→Prop}(J:Inv X pins σ H s)(x:X.ex=[])(stk:X.stack=X.env::X.outer)(fr:X.env.frame=some X.env.locals)
 (f0:Fly s.heap e T cls .none cx)(e0:X.s₀.heap.get? e=none)(t0:X.s₀.heap.get? T=none)(he:H e=none)(hT:H T=none)(pe:∀p∈X.pn++pins,p.1≠e∧p.1≠T)(hk:∀k,cx=some k→X.s₀.heap.get? k=none∧H k=none∧∀p∈X.pn++pins,p.1≠k)
 (hN:X.N.Nodup)(hi:X.N[i]?=some n)(hloc:X.env.scope.names.lookup n=some .local)(hg:Gl X c)(hm:X.mg c=some cv)(hcb:(c==("__debug__":Str))=false)(hx:W.exmOne X.K cls cv=some true)
 (hs:PSs (Xh X e) (b₀::suite) ts)(q:∀H5,Same H H5→Held H5 e cls cx→ts {nx:=fun _ _=>False,rt:=D.rt} (σ.set i (some (.ref e))) H5):
 wpAny (model X.prog X.w) X.A (noteFrame (.ref e) X.env) (fun _ s₂=>wpAny (model X.prog X.w) X.A (setFlight (.ref e) none) (fun _ s₃=>wpAny (model X.prog X.w) X.A (handleBy (.ref e) X.env [.ExceptHandler (some (.Name c cp)) (some n) (b₀::suite) hp]) (SP X pins D) xe s₃) xe s₂) xe s:=by
 have hfr:X.A.frames=some (X.env::X.outer):=by rw [J.ok.frames,stk]
 have hL:X.Ok:=J.ok
 have hstk:(X.env::X.outer).filterMap (·.frame)=frs X.stack:=by rw [stk];rfl
 refine note_on (base:=X.base) hfr (by have:=J.stack;rw [stk]at this;exact this) fr f0 fun h1 T1 n1 f1 m1=> ?_
 rw [hstk]at m1
 have J1:=J.moved x (fun b hb=>hb) m1 e0 t0 he hT f0.fe.1 f0.fe.2.1 pe
 have t10:X.s₀.heap.get? T1=none:=J.s0none x n1
 have hT1:H T1=none:=J.hok.none n1
 have pe1:∀p∈X.pn++pins,p.1≠e∧p.1≠T1:=fun p hp=>⟨(pe p hp).1,fun z=>by have:=(J.pin p hp).1;rw [z,n1]at this;cases this⟩
 refine land (fs:=[]) (s:= {s with heap:=h1}) f1 fun h2 f2 m2=> ?_
 have J2:=J1.moved x (fs:=[]) (fun b hb=>absurd hb (by simp)) m2 e0 t10 he hT1 f1.fe.1 f1.fe.2.1 pe1
 refine wpAny_handleBy_cons (codeAny_handlers_test (ld_glob (X:=Xh X e) J2.inH hg hm ?_ hcb)) (by intro z;cases z)
 obtain⟨oe,_,ho,hc,_⟩:=f2.fe.2.2
 have lt:W.Looks (model X.prog X.w) h2 (typeOf (.ref e)) cls:=hc▸(W.Looks.ld ho).andThen .now
 refine(W.exm_one J2.kIn lt hx).here (s:= {s with heap:=h2}) ?_
 refine codeAny_handlers_suite_as ?_
 refine land (fs:=[]) (s:= {s with heap:=h2}) f2 fun h3 f3 m3=> ?_
 have J3:=J2.moved x (fs:=[]) (fun b hb=>absurd hb (by simp)) m3 e0 t10 he hT1 f2.fe.1 f2.fe.2.1 pe1
 refine store_ok2 (X:=Xh X e) (v:=.ref e) J3.inH hN hi (.inl hloc) rfl (fun s4 J4 k4=> ?_) (.inr hloc)
 obtain⟨ka,ks,kk⟩:=k4
 have nfl:∀b o us,h3.get? b=some o→o.data=.fields us→b≠ka:=fun b o us q3 d3 z=>by
  rcases kk with kk|kk
  ·obtain⟨mm,⟨ol,es,ep,hol,hdl,_⟩,_⟩:=J3.loc
   have q4:some ol=some o:=by rw [←hol,←show ka=X.env.locals from kk,←z];exact q3
   cases q4
   rw [d3]at hdl
   cases hdl
  ·obtain⟨vv,oc,hoc,hdc⟩:=J3.cell n ka kk
   have q4:some oc=some o:=by rw [←hoc,←z];exact q3
   cases q4
   rw [d3]at hdc
   cases hdc
 obtain⟨⟨oc,vc,c1,c2,c3,c4,c5⟩,hkx⟩:=f3.ctx
 have g4:s4.heap.get? e=some oc:=(ks.2 e (nfl e oc vc c1 c4)).trans c1
 have J5:=J4.trackX (φ:=excAtC e cls cx) x e0 he ⟨oc,vc,g4,c4⟩ (fun p hp=>(pe p hp).1) ⟨oc,vc,g4,c2,c3,c4,c5⟩ (fun a b ⟨o,ve,z1,z2⟩ k=>⟨o,ve,k o z1,z2⟩)
 obtain⟨H5,J6,sm,hd⟩:∃H5,Inv (Xh X e) pins (σ.set i (some (.ref e))) H5 s4∧Same H H5∧Held H5 e cls cx:=by
  cases cx with
  |none=>exact⟨_,J5,same_up he,upd_same,fun k z=>nomatch z⟩
  |some k=>
   obtain⟨k0,hk0,pk⟩:=hk k rfl
   obtain⟨nke,ok,vk,k1,k2,k3⟩:=hkx k rfl
   have g5:s4.heap.get? k=some ok:=(ks.2 k (nfl k ok vk k1 k2)).trans k1
   have hke:upd H e (.ext (excAtC e cls (some k))) k=none:=by rw [upd_ne nke];exact hk0
   have J6:=J5.trackX (φ:=fun h=>NoCtx h k) x k0 hke ⟨ok,vk,g5,k2⟩ (fun p hp=>pk p hp) ⟨ok,vk,g5,k2,k3⟩ (fun a b ⟨o,ve,z1,z2⟩ kk=>⟨o,ve,kk o z1,z2⟩)
   refine⟨_,J6,fun b o z=> ?_,by rw [upd_ne (Ne.symm nke)];exact upd_same,fun k' z=>by cases z;exact⟨nke,upd_same⟩⟩
   rw [upd_ne (fun w=>by rw [w,hk0]at z;cases z),upd_ne (fun w=>by rw [w,he]at z;cases z)]
   exact z
 refine wpAny_mono (hs pins s4 _ H5 _ J6 (q H5 sm hd)) (fun f s5 h5=> ?_) (fun _ _ z=>z.elim)
 cases f with
 |ret u=>
  obtain⟨v,σ',H',J7,rv,qv⟩:=h5
  obtain⟨mm,hn,_⟩:=J7.loc
  have kd:X.env.scope.kind=.function:=hL.kind
  refine wpAny_nameGoes hloc hn (by rw [kd];rfl) fun h7 m7 hn7 k7=> ?_
  exact⟨v,List.replicate σ'.length none,H',J7.forget (t':=s5.toks+1) hL hn7 k7 (by simp) (fun i v z=>by
   rw [List.getElem?_replicate]at z
   split at z<;>cases z),rv,qv⟩
 |next=>obtain⟨_,_,_,z⟩:=h5;exact z.elim
 |brk=>obtain⟨_,_,_,z⟩:=h5;exact z.elim
 |cont=>obtain⟨_,_,_,z⟩:=h5;exact z.elim
end
end L2
end
noncomputable section
namespace L2
open PySem PySem.Spec PyProof.Rows
section
variable{X:Cx}
theorem op_mul_str:OpR X (binaryOp .Mult) (fun x y H Q=>∃z n,x=.str z∧y=.int n∧0≤n∧n≤100000∧z.length≤100∧Q (.str (Txt.mul z n)) H):=by
 intro pins s σ H x y v u Q I rx ry h
 obtain⟨z,n,rfl,rfl,h0,h1,h2,q⟩:=h
 obtain⟨t,rfl⟩:=rx
 obtain⟨t',rfl⟩:=ry
 exact SB.mul (mulOk_of 100 100000 h2 h1 (by lia) (by decide) (by decide)) fun t' k=>⟨.str _,H,I.tok _,⟨_,rfl⟩,q⟩
theorem call_int_str:CallR X (.type "int") (fun xs H Q=>∃z n,xs=[.str z]∧intText? z=some n∧z.length≤640∧Q (.int n) H):=by
 intro pins s σ H xs us Q I r h
 obtain⟨z,n,rfl,hn,hl,q⟩:=h
 obtain⟨u,rfl,t,rfl⟩:=vals1 r
 exact W.KIN.call_text hn hl ⟨.int n,H,I.tok _,⟨_,rfl⟩,q⟩
theorem mt_strip:MtR X "str.strip" (fun x xs H Q=>∃z y,x=.str z∧xs=[.str y]∧z.length≤sizeLine∧Q (.str (Txt.stripChars z y)) H):=by
 intro pins s σ H x xs v us Q I rx r h
 obtain⟨z,y,rfl,rfl,hz,q⟩:=h
 obtain⟨t,rfl⟩:=rx
 obtain⟨u,rfl,t',rfl⟩:=vals1 r
 exact SC.stripChars (fun t' k=>⟨.str _,H,I.tok _,⟨_,rfl⟩,q⟩) hz
theorem vals_strs:∀ {l:List Str} {us:List Value},Vals (l.map V.str) us→∃ts:List (Str×Tok),us=strValues ts∧ts.map (·.1)=l
 |[],_,.nil=>⟨[],rfl,rfl⟩
 |x::l,u::_,.cons ru r=>by
  obtain⟨t,rfl⟩:=(show∃t,u=Value.str x t from ru)
  obtain⟨ts,rfl,e⟩:=vals_strs r
  exact⟨(x,t)::ts,rfl,by rw [List.map_cons,e]⟩
theorem strs_vals:∀ts:List (Str×Tok),Vals ((ts.map (·.1)).map V.str) (strValues ts)
 |[]=> .nil
 |(x,t)::ts=> .cons ⟨t,rfl⟩ (strs_vals ts)
theorem mt_join:MtR X "str.join" (fun x xs H Q=>∃z a l,x=.str z∧xs=[.ref a]∧SqL X.K H a (l.map V.str)∧JoinOk z l=true∧Q (.str (Txt.join z l)) H):=by
 intro pins s σ H x xs v us Q I rx r h
 obtain⟨z,a,l,rfl,rfl,hl,hok,q⟩:=h
 obtain⟨t,rfl⟩:=rx
 obtain⟨u,rfl,ru⟩:=vals1 r
 cases (show u=Value.ref a from ru)
 obtain⟨its,rv,pl,_⟩:=I.list hl
 obtain⟨ts,rfl,e⟩:=vals_strs rv
 exact SC.join pl.isList e hok fun t' k=>⟨.str _,H,I.tok _,⟨_,rfl⟩,q⟩
end
section
open Builtin Builtin.Str
variable{prog:Program}{w:World}{A:Around}{E:Value→Shared→Prop}{s:Shared}{x y:Str}{t u:Tok}{Q:Value→Shared→Prop}
theorem split_at(hy:(y.length==0)=false)(hsz:x.length+2≤sizeLine)
 (hq:∀(l:List (Str×Tok)) k,l.map (·.1)=Txt.split x y→Q (.ref s.heap.objs.size) {s with heap:=s.heap.push {cls:=.type "list",data:=.seq (strValues l).toArray},toks:=k}):
 wpAny (model prog w) A (call (.builtin "str.split") [.str x t,.str y u]) Q E s:=by
 cases h1:(decide (x.length<y.length)||decide (strKind x<strKind y))
 ·cases hf:(occurrences x y 0 x.length (x.length+1)).isEmpty
  ·have e:Txt.split x y=partsBetween x (occurrences x y 0 x.length (x.length+1)) y.length:=(if_neg (ne_true_of_eq_false h1)).trans (if_neg (ne_true_of_eq_false hf))
   have hs2:(partsBetween x (occurrences x y 0 x.length (x.length+1)) y.length).length≤sizeLine:=by
    rw [←e];exact Nat.le_trans (split_le x y) hsz
   refine call_meets F.slot_str_split (typeIs_str _ _ _) F.entry_str_split (F.args_str_split_2 _ _) (meets_str_split_sep x y t u h1 hy hf (by lia) hs2) ?_
   show wants Q E _ {s with toks:=_,heap:=s.heap.push {cls:=.type "list",data:=.seq (strsFrom s.toks (partsBetween x (occurrences x y 0 x.length (x.length+1)) y.length)).toArray}}
   rw [strsFrom_eq]
   exact hq (numbered s.toks _) _ ((numbered_texts _ _).trans e.symm)
  ·exact call_meets F.slot_str_split (typeIs_str _ _ _) F.entry_str_split (F.args_str_split_2 _ _) (meets_str_split_not_found x y t u h1 hy hf)
    (hq [(x,t)] s.toks ((if_neg (ne_true_of_eq_false h1)).trans (if_pos hf)).symm)
 ·exact call_meets F.slot_str_split (typeIs_str _ _ _) F.entry_str_split (F.args_str_split_2 _ _) (meets_str_split_cannot_occur x y t u h1)
   (hq [(x,t)] s.toks (if_pos h1).symm)
end
section
variable{X:Cx}
theorem mt_split:MtR X "str.split" (fun x xs H Q=>∃z y,x=.str z∧xs=[.str y]∧(y.length==0)=false∧z.length+2≤sizeLine∧∀p,H p=none→Q (.ref p) (upd H p (.lst ((Txt.split z y).map V.str)))):=by
 intro pins s σ H x xs v us Q I rx r h
 obtain⟨z,y,rfl,rfl,hy,hz,q⟩:=h
 obtain⟨t,rfl⟩:=rx
 obtain⟨u,rfl,t',rfl⟩:=vals1 r
 refine split_at hy hz fun l k e=> ?_
 refine⟨.ref s.heap.objs.size,_,I.laid (t':=k) (o:=.lst ((Txt.split z y).map V.str)) (fun b ob q=>Heap.get?_push_of_some _ q) (Nat.le_refl _) ?_,rfl,q _ (I.hok.fresh (Nat.le_refl _))⟩
 refine⟨?_,_,0,?_,Heap.get?_push_size _ rfl⟩
 ·rw [List.length_map];exact Nat.le_trans (split_le z y) hz
 ·rw [←e];exact strs_vals l
theorem sl_str:SlR X (fun x lo hi H Q=>∃z,x=.str z∧z.length≤sizeLine∧Q (.str (Txt.slice z lo hi)) H):=by
 intro pins s σ H x v vl vu lo hi sl Q I rx hs pl pu h
 obtain⟨z,rfl,hz,q⟩:=h
 obtain⟨t,rfl⟩:=rx
 refine⟨"str",_,F.slot_str_getitem.lookup,typeIs_str _ _ _,?_⟩
 have go:∀l u:Option (Int×Tok),s.heap.IsSlice sl l u none→lo=l.map (·.1)→hi=u.map (·.1)→wpAny (model X.prog X.w) X.A (getItem (.str z t) (.ref sl)) (EP X pins σ Q) X.xe s:=fun l u is e1 e2=>by
  subst e1 e2
  exact wpAny_getItem_str_slice (l:=l) (u:=u) (st:=none) is rfl (post_val_or_str ⟨Nat.le_trans (Txt.slice_le z _ _) hz,fun t' k=>⟨.str _,H,I.tok _,⟨_,rfl⟩,q⟩⟩)
 cases pl with
 |none=>cases pu with
  |none=>exact go none none hs rfl rfl
  |int i k=>exact go none (some (i,k)) hs rfl rfl
 |int j kj=>cases pu with
  |none=>exact go (some (j,kj)) none hs rfl rfl
  |int i k=>exact go (some (j,kj)) (some (i,k)) hs rfl rfl
end
end L2
end
noncomputable section
namespace LT
open PySem PySem.Spec PyProof.Rows L2
theorem entry_loop:entryFor table "dict.update.loop"=some Builtin.«dict.update.loop»:=entryFor_of_tree (by kernel_rfl)
theorem miss_keys:typeLookup (.type "list") "keys"=pure none:=am_miss_of_fast (by decide+kernel)
section
variable{prog:Program}{w:World}{A:Around}{E:Value→Shared→Prop}{s:Shared}
theorem no_keys{a:Addr}{xs:Array Value}{k:Nat}{Q:Option Value→Shared→Prop}(hx:s.heap.get? a=some {cls:=.type "list",data:=.seq xs k})(hA:A.handled=none)
 (h:∀h' tk,(∀b o,s.heap.get? b=some o→h'.get? b=some o)→Q none {s with heap:=h',toks:=tk}):wpAny (model prog w) A (getAttr? (.ref a) "keys") Q E s:=by
 obtain⟨hp,g,d,tk,os⟩:=s
 have hT:∀tk',(⟨hp,g,d,tk',os⟩:Shared).TypeIs (.ref a) "list":=fun _=>⟨_,hx,rfl⟩
 have f1:=sub_AttributeError
 have f3:=F.slot_list_getattribute.lookup
 have f4:=F.slot_list_getattribute.bind (.ref a)
 have f5:=am_list_getattr_none
 unfold getAttr? getAttrBy? getAttrBy
 repeat (any_goals (first|assumption|exact hT _|((with_reducible show wpAny _ _ (call (Value.builtin "list.__getattribute__") _ _) _ _ _);refine call_meets F.slot_list_getattribute (hT _) am_entry_list_getattribute (F.args_list_getattribute_2 _ _) (meets_getattribute_miss_list a xs k #[] "keys" _ miss_keys (by decide) (by decide)) ⟨hx,hA,fun h' tk' e hx'=> ?_⟩)|wp_step))
 obtain⟨t',u',he⟩:=hx'.there
 show wpAny _ _ (getattributeRaised _ _ _ _ _ _ _) _ _ _
 unfold getattributeRaised
 repeat (any_goals (first|assumption|wp_step))
 exact h _ _ hx'.keeps
abbrev Kept(h h':Heap):Prop:=∀b o,h.get? b=some o→h'.get? b=some o
variable{h0:Heap}{d it l:Addr}{items:List Value}{ps:List (Key×Value)}
def PairsAt(prog:Program)(w:World)(h0:Heap)(items:List Value)(ps:List (Key×Value)):Prop:=Paired (fun v (p:Key×Value)=>∃t a,v=.ref t∧IsTup h0 t #[a,p.2]∧(mixKind prog w).is p.1 a=true) items ps
theorem paired_get{α β:Type}{F:α→β→Prop}:∀ {l:List α} {m:List β} {i:Nat} {x:α},Paired F l m→l[i]?=some x→∃y,m[i]?=some y∧F x y
 |_,_,_,_,.nil,h=>by simp at h
 |_,_,0,_,.cons r _,h=>by simp at h;subst h;exact⟨_,rfl,r⟩
 |_,_,i+1,_,.cons _ t,h=>by
  obtain⟨y,h1,h2⟩:=paired_get (i:=i) t (by simpa using h)
  exact⟨y,by simpa using h1,h2⟩
theorem loop(hA:A.handled=none)(hp:PairsAt prog w h0 items ps)(hl:h0.IsList l items.toArray)(nd:h0.get? d=none)(ni:h0.get? it=none)(dit:d≠it)(hsz:ps.length≤sizeLine){R:Except Value Flow→Shared→Prop}:
 ∀(n i:Nat) (s:Shared) (t0:Tok),i+n=items.length→s.heap.IsListIter it l i→s.heap.DictOf (mixKind prog w) d (merged [] (ps.take i))→Kept h0 s.heap→
  (∀h' tk,h'.DictOf (mixKind prog w) d (merged [] ps)→Kept h0 h'→R (.ok (.ret .none)) {s with heap:=h',toks:=tk})→
  codeAny (model prog w) A (.builtin "dict.update.loop" ⟨[.ref d,.ref it,.int i t0,.none],[]⟩) R s:=by
 have keepIt:∀ {h h':Heap},Kept h0 h→(∀b o,b≠it→h.get? b=some o→h'.get? b=some o)→Kept h0 h':=fun k x b o z=>x b o (fun e=>by rw [e,ni]at z;cases z) (k b o z)
 have keepD:∀ {h h':Heap},Kept h0 h→(∀b o,b≠d→h.get? b=some o→h'.get? b=some o)→Kept h0 h':=fun k x b o z=>x b o (fun e=>by rw [e,nd]at z;cases z) (k b o z)
 have lists:∀ {h:Heap},Kept h0 h→h.IsList l items.toArray:=fun k=>by
  obtain⟨o,ho,r⟩:=hl
  exact⟨o,k l o ho,r⟩
 have dicts:∀ {h h':Heap} {kvs:List (Key×Value)},h.DictOf (mixKind prog w) d kvs→(∀b o,b≠it→h.get? b=some o→h'.get? b=some o)→h'.DictOf (mixKind prog w) d kvs:=fun x k=>by
  obtain⟨o,es,ep,ho,r⟩:=x
  exact⟨o,es,ep,k d o dit ho,r⟩
 intro n
 induction n with
 |zero=>
  intro i s t0 hi hit hd hk h
  refine codeAny_builtin entry_loop ?_
  unfold Builtin.«dict.update.loop»
  show wpAny _ _ (pyNext (.ref it)>>=_) _ _ _
  refine wpAny_bind (wpAny_pyNext_list_end (items:=items.toArray) hA hit (lists hk) (by simp;lia) fun h' hx=> ?_)
  dsimp only
  have e:ps.take i=ps:=List.take_of_length_le (by have:=hp.length;lia)
  rw [e]at hd
  refine wpAny_bind (m:=Builtin.Dict.addKeywords d []) (wpAny_pure (wpAny_pure (h h' s.toks (dicts hd hx) (keepIt hk hx))))
 |succ n ih=>
  intro i s t0 hi hit hd hk h
  refine codeAny_builtin entry_loop ?_
  unfold Builtin.«dict.update.loop»
  show wpAny _ _ (pyNext (.ref it)>>=_) _ _ _
  have hil:i<items.length:=by lia
  obtain⟨p,hpi,t,a,ev,tp,ka⟩:∃p,ps[i]?=some p∧∃t a,items[i]=Value.ref t∧IsTup h0 t #[a,p.2]∧(mixKind prog w).is p.1 a=true:=by
   obtain⟨p,h1,h2⟩:=paired_get hp (i:=i) (x:=items[i]) (List.getElem?_eq_getElem hil)
   exact⟨p,h1,h2⟩
  refine wpAny_bind (wpAny_pyNext_list_item (items:=items.toArray) hit (lists hk) (x:=items[i]) (by simp) fun h1 hit1 s1=> ?_)
  have k1:∀b o,b≠it→s.heap.get? b=some o→h1.get? b=some o:=fun b o nb z=>(s1.2 b nb).trans z
  dsimp only
  rw [ev]
  obtain⟨ot,hot,oc,nn,od⟩:=tp
  have hk1:=keepIt hk k1
  have ht1:=hk1 t ot hot
  refine wpAny_bind (wpAny_holding ?_)
  refine wpAny_bind (wpAny_tryCatch ?_)
  unfold Builtin.Dict.pairItems
  refine wpAny_bind (wpAny_typeOf (T:="tuple") ⟨ot,ht1,oc⟩ ?_)
  rw [if_pos (by decide)]
  refine wpAny_bind (wpAny_seqItems ht1 od (wpAny_pure ?_))
  show wpAny _ _ (holding [a,p.2] (dictSet d a p.2)) _ _ _
  refine wpAny_holding (wpAny_dictSet_pairs ka (dicts hd k1) (fun h2 hd2 s2=> ?_) ?_)
  ·refine wpAny_pure ⟨Code.quiet_builtin _ (by decide+kernel),?_⟩
   have k2:∀b o,b≠d→h1.get? b=some o→h2.get? b=some o:=fun b o nb z=>(s2.2 b nb).trans z
   have hk2:=keepD hk1 k2
   have e3:stored (merged [] (ps.take i)) p.1 p.2=merged [] (ps.take (i+1)):=(merged_take_succ [] ps i p hpi).symm
   rw [e3]at hd2
   obtain⟨oi,hoi,ri⟩:=hit1
   exact ih (i+1) {s with heap:=h2,toks:=s.toks+1} 0 (by lia) ⟨oi,k2 it oi (Ne.symm dit) hoi,ri⟩ hd2 hk2 h
  ·refine Nat.le_trans (merged_length_le [] (ps.take i)) ?_
   rw [List.length_take,List.length_nil]
   lia
theorem dict_pairs{n:Nat}{Q:Value→Shared→Prop}(hA:A.handled=none)(ho:s.heap.get? l=some {cls:=.type "list",data:=.seq items.toArray n})(hp:PairsAt prog w s.heap items ps)(hn:(ps.map (·.1)).Nodup)(hsz:ps.length≤sizeLine)
 (h:∀h' tk,h'.DictOf (mixKind prog w) s.heap.objs.size ps→Kept s.heap h'→Q (.ref s.heap.objs.size) {s with heap:=h',toks:=tk}):
 wpAny (model prog w) A (call (.type "dict") [.ref l]) Q E s:=by
 refine callType_codes (Q₁:=fun obj s₁=>obj=.ref s.heap.objs.size∧s₁= {s with heap:=s.heap.push {cls:=.type "dict",data:=.dict #[]}}) F.kt_called_dict (F.kt_typeCall_dict_1 _) F.entry_dict_init (kt_code_dict_new _ ⟨rfl,rfl⟩) ?_
 rintro obj s₁ ⟨rfl,rfl⟩
 have hnew:(s.heap.push {cls:=.type "dict",data:=.dict #[]}).DictOf (mixKind prog w) s.heap.objs.size []:=Heap.DictOf.new s.heap
 have k0:Kept s.heap (s.heap.push {cls:=.type "dict",data:=.dict #[]}):=fun b o z=>Heap.get?_push_of_some _ z
 refine⟨hnew.typeIs,F.args_dict_init_2 _ _,?_⟩
 unfold Builtin.«dict.__init__»
 refine wpAny_bind ?_
 unfold Builtin.Dict.selfAndRest
 refine wpAny_bind (wpAny_notOrdered_dict hnew.typeIs ?_)
 show wpAny _ _ (pure (s.heap.objs.size,[Value.ref l])) _ _ _
 refine wpAny_pure ?_
 show wpAny _ _ (Builtin.Dict.updateFrom "dict.__init__" s.heap.objs.size (.ref l) [] .none) _ _ _
 unfold Builtin.Dict.updateFrom
 refine wpAny_bind (wpAny_typeOf (T:="list") ⟨_,k0 _ _ ho,rfl⟩ ?_)
 rw [if_pos (by decide)]
 refine wpAny_bind (no_keys (k0 _ _ ho) hA fun h1 t1 k1=> ?_)
 have k01:Kept s.heap h1:=fun b o z=>k1 b o (k0 b o z)
 rw [if_pos (by rfl)]
 refine wpAny_bind (wpAny_rule ?_)
 have hl1:h1.IsList l items.toArray:=⟨_,k01 _ _ ho,rfl,_,rfl⟩
 refine wpAny_bind (wpAny_pyIter_list (items:=items.toArray) hl1 ?_)
 refine wpAny_pure ⟨Code.quiet_builtin _ (by decide+kernel),?_⟩
 have nd:s.heap.get? s.heap.objs.size=none:=Heap.get?_none_of_le (Nat.le_refl _)
 obtain⟨od,es,ep,hod,rd⟩:=hnew
 have d1:=k1 _ _ hod
 have dit:s.heap.objs.size≠h1.objs.size:=Nat.ne_of_lt (Heap.lt_size d1)
 have ni:s.heap.get? h1.objs.size=none:=by
  cases z:s.heap.get? h1.objs.size with
  |none=>rfl
  |some o=>exact absurd (Heap.lt_size (k01 _ _ z)) (Nat.lt_irrefl _)
 refine loop (A:=A.in1) hA hp ⟨_,ho,rfl,_,rfl⟩ nd ni dit hsz items.length 0 ⟨h1.push {cls:=.type "list_iterator",data:=.fields #[.ref l,.int 0 0]},s.gens,s.drawn,t1,s.os⟩ 0 (by lia) ⟨_,Heap.get?_push_size _ rfl,rfl,rfl⟩ ⟨od,es,ep,Heap.get?_push_of_some _ d1,rd⟩ (fun b o z=>Heap.get?_push_of_some _ (k01 b o z)) fun h' tk hd hk=> ?_
 rw [merged_nil_of_nodup ps hn]at hd
 exact⟨rfl,h h' tk hd hk⟩
end
end LT
end
noncomputable section
namespace L2
open PySem PySem.Spec PyProof.Rows LX LT
section
variable{X:Cx}
def KT(H:Hp)(v:V)(p:Key×V):Prop:=∃t,v=.ref t∧Rd H t (.tup [kV p.1,p.2])
theorem vals_pairs{pins:List (Addr×Obj)}{σ:St}{H:Hp}{s:Shared}(I:Inv X pins σ H s):∀ {ts:List V} {its:List Value} {kvs:List (Key×V)},Vals ts its→Paired (KT H) ts kvs→∃ps,KV kvs ps∧PairsAt X.prog X.w s.heap its ps
 |[],[],_,.nil,.nil=>⟨[],.nil,.nil⟩
 |v::ts,u::its,p::kvs,.cons r rs,.cons k ks=>by
  obtain⟨ps,h1,h2⟩:=vals_pairs I rs ks
  obtain⟨t,rfl,rd⟩:=k
  cases (show u=Value.ref t from r)
  obtain⟨_,us,rv,tp⟩:=(show ObjOk X.prog X.w H s.heap t (.tup [kV p.1,p.2])from rd.ok I.hok)
  obtain⟨a,b,rfl,ra,rb⟩:=rv.two
  exact⟨(p.1,b)::ps,.cons ⟨rfl,rb⟩ h1,.cons ⟨t,a,rfl,tp,kV_is ra⟩ h2⟩
theorem KV.keys{kvs:List (Key×V)}{ps:List (Key×Value)}(r:KV kvs ps):ps.map (·.1)=kvs.map (·.1):=by
 unfold KV at r
 induction r with
 |nil=>rfl
 |cons h t ih=>rw [List.map_cons,List.map_cons,ih,h.1]
theorem call_dict(hc:X.calm=true):CallR X (.type "dict") (fun xs H Q=>∃p ts kvs,xs=[.ref p]∧Rd H p (.lst ts)∧Paired (KT H) ts kvs∧(kvs.map (·.1)).Nodup∧∀q,H q=none→Q (.ref q) (upd H q (.dK kvs))):=by
 intro pins s σ H xs us Q I r h
 obtain⟨p,ts,kvs,rfl,rd,hp,hn,q⟩:=h
 obtain⟨u,rfl,ru⟩:=vals1 r
 cases (show u=Value.ref p from ru)
 obtain⟨z,its,n,rv,ho⟩:=(show ObjOk X.prog X.w H s.heap p (.lst ts)from rd.ok I.hok)
 obtain⟨ps,kv,pa⟩:=vals_pairs I rv hp
 have l1:kvs.length≤sizeLine:=by rw [←hp.length];exact z
 refine dict_pairs (I.ok.hd hc) ho pa (by rw [kv.keys];exact hn) (by rw [←kv.length];exact l1) fun h' tk hd hk=> ?_
 exact⟨.ref s.heap.objs.size,_,I.laid (t':=tk) (o:=.dK kvs) hk (Nat.le_refl _) (dk_new l1 (beq_eq_false_iff_ne.mpr (Ne.symm (Nat.ne_of_lt I.big))) kv hd),rfl,q _ (I.hok.fresh (Nat.le_refl _))⟩
noncomputable def delK(kvs:List (Key×V))(k:Key):List (Key×V):=kvs.filter fun p=>decide (p.1≠k)
theorem KV.del{kvs:List (Key×V)}{ps:List (Key×Value)}(r:KV kvs ps)(k:Key):KV (delK kvs k) (without ps k):=by
 unfold KV at r⊢
 induction r with
 |nil=>exact .nil
 | @cons p q l m h t ih=>
   unfold delK without at ih⊢
   rw [List.filter_cons,List.filter_cons,h.1]
   split
   ·exact .cons h ih
   ·exact ih
theorem key_part(x:Str)(t:Tok):(keyPart (.str x t)).isSome=true:=rfl
theorem mt_popD:MtR X "dict.pop" (fun x xs H Q=>∃d k kvs v,x=.ref d∧xs=[.str k]∧H d=some (.dK kvs)∧valV kvs (Sum.inr k)=some v∧Q v (upd H d (.dK (delK kvs (Sum.inr k))))):=by
 intro pins s σ H x xs v us Q I rx r h
 obtain⟨d,k,kvs,y,rfl,rfl,hd,hv,q⟩:=h
 cases (show v=Value.ref d from rx)
 obtain⟨u,rfl,ru⟩:=vals1 r
 obtain⟨z,hs,ps,kv,dd⟩:=dk_of I.hok hd
 have hr:=kv.val (Sum.inr k)
 rw [hv]at hr
 cases hy:valueAt ps (Sum.inr k)with
 |none=>rw [hy]at hr;exact(show False from hr).elim
 |some yv=>
 rw [hy]at hr
 obtain⟨t,rfl⟩:=(show∃t,u=Value.str k t from ru)
 refine call_meetsIn PySem.F.slot_dict_pop dd.typeIs PySem.F.entry_dict_pop (PySem.F.args_dict_pop_2 _ _) (meets_dict_pop_there (mixKind X.prog X.w) d (mixKind_str _ _ k t) [] (.inl rfl) (key_part k t)) ⟨ps,yv,dd,by rw [←kv.length];exact z,hy,fun h' hm sb=> ?_⟩
 have dn:(delK kvs (Sum.inr k)).length≤sizeLine:=Nat.le_trans (List.length_filter_le ..) z
 refine⟨y,_,d_write (t':=s.toks+1) I ?_ sb ?_ (dk_new dn hs (kv.del _) hm),hr,q⟩
 ·rw [hd];trivial
 ·obtain⟨o,_,_,ho,_⟩:=hm
  exact⟨o,ho⟩
theorem mt_popX{H0:Hp}(hx:X.ex=[])(hc:X.calm=true):MtR (X.wish (XKey X H0)) "dict.pop" (fun x xs H _=>∃d k kvs,x=.ref d∧xs=[.str k]∧H d=some (.dK kvs)∧valV kvs (Sum.inr k)=none∧Same H0 H):=by
 intro pins s σ H x xs v us Q I rx r h
 obtain⟨d,k,kvs,rfl,rfl,hd,hv,sh⟩:=h
 cases (show v=Value.ref d from rx)
 obtain⟨u,rfl,ru⟩:=vals1 r
 obtain⟨z,hs,ps,kv,dd⟩:=dk_of I.hok hd
 have hr:=kv.val (Sum.inr k)
 rw [hv]at hr
 cases hy:valueAt ps (Sum.inr k)with
 |some yv=>rw [hy]at hr;exact(show False from hr).elim
 |none=>
 obtain⟨t,rfl⟩:=(show∃t,u=Value.str k t from ru)
 have J:Inv X pins σ H s:=I.unwish
 refine call_meetsIn PySem.F.slot_dict_pop dd.typeIs PySem.F.entry_dict_pop (PySem.F.args_dict_pop_2 _ _) (meets_dict_pop_missing (mixKind X.prog X.w) d (mixKind_str _ _ k t) hs (key_part k t)) ⟨J.ok.hd hc,ps,dd,hy,fun h' e ne=> ?_⟩
 obtain⟨ob,t0,ho,hcl,hdt⟩:=ne.there
 refine⟨e,pins,σ,H,rfl,sh,J.kept (t':=s.toks+1) ne.keeps,J.s0none hx ne.new,J.hok.none ne.new,fun p hp z=> ?_,⟨ob,_,ho,hcl,hdt,rfl,rfl⟩⟩
 have:=(J.pin p hp).1
 rw [z]at this
 exact absurd (this.symm.trans ne.new) (by simp)
end
end L2
end
noncomputable section
namespace MI
open PySem L2
inductive D where
 |non|bl(b:Bool)|int(i:Int)|str(x:Str)
 |lst(l:List D)|tup(l:List D)
 |ins(c:Nat)(ks:List Str)(ds:List D)
 |dic(kvs:List (Int×Int))
 |fn(x:Str)|exc(x:Str)
 deriving Inhabited
def RL(K:W.Frag)(H:Hp)(a:Addr)(xs:List V):Prop:=
 Rd H a (.lst xs)∨∃(its:Array Value) (n:Nat),K.lookup a=some {cls:=.type "list",data:=.seq its n}∧its.size≤sizeLine∧Vals xs its.toList
theorem rd_mono{H H':Hp}{a:Addr}{u:HO}(e:Same H H')(h:Rd H a u):Rd H' a u:=by
 rcases h with h|⟨o,h⟩
 ·exact .inl (e _ _ h)
 ·exact .inr ⟨o,e _ _ h⟩
theorem rl_mono{K:W.Frag}{H H':Hp}{a:Addr}{xs:List V}(e:Same H H')(h:RL K H a xs):RL K H' a xs:=by
 rcases h with h|h
 ·exact .inl (rd_mono e h)
 ·exact .inr h
theorem RL.sql{K:W.Frag}{H:Hp}{a:Addr}{xs:List V}(h:RL K H a xs):SqL K H a xs:=by
 rcases h with h|⟨its,n,h1,h2,h3⟩
 ·exact .inl h
 ·exact .inr ⟨_,its,n,h1,rfl,rfl,rfl,h2,h3⟩
noncomputable def dKV(kvs:List (Int×Int)):List (Key×V):=kvs.map fun p=>(Sum.inl p.1,V.int p.2)
mutual
inductive Dn(K:W.Frag)(cl:Nat→Option Addr)(G:Hp):V→D→Prop where
 |non:Dn K cl G .non .non
 |bl (b:Bool):Dn K cl G (.bl b) (.bl b)
 |int (i:Int):Dn K cl G (.int i) (.int i)
 |str (x:Str):Dn K cl G (.str x) (.str x)
 |lst {a:Addr} {xs:List V} {ds:List D}:RL K G a xs→Dns K cl G xs ds→Dn K cl G (.ref a) (.lst ds)
 |tup {a:Addr} {xs:List V} {ds:List D}:G a=some (.tup xs)→Dns K cl G xs ds→Dn K cl G (.ref a) (.tup ds)
 |ins {a C dx:Addr} {c:Nat} {ks:List Str} {vfs:List (Str×V)} {ds:List D}:G a=some (.ins C dx vfs)→cl c=some C→vfs.map (·.1)=ks→Dns K cl G (vfs.map (·.2)) ds→Dn K cl G (.ref a) (.ins c ks ds)
 |dic {a:Addr} {kvs:List (Int×Int)}:G a=some (.dK (dKV kvs))→Dn K cl G (.ref a) (.dic kvs)
 |fn {a:Addr} {x:Str}:W.nsIn K mainGlobals x=some (some (.ref a))→Dn K cl G (.ref a) (.fn x)
 |exc {a C:Addr} {x:Str}:G a=some (.ext (excAt a (.ref C)))→W.nsIn K mainGlobals x=some (some (.ref C))→Dn K cl G (.ref a) (.exc x)
inductive Dns(K:W.Frag)(cl:Nat→Option Addr)(G:Hp):List V→List D→Prop where
 |nil:Dns K cl G [] []
 |cons {x:V} {d:D} {xs:List V} {ds:List D}:Dn K cl G x d→Dns K cl G xs ds→Dns K cl G (x::xs) (d::ds)
end
section
variable{K:W.Frag}{cl:Nat→Option Addr}{G G' H:Hp}
mutual
theorem Dn.mono(e:Same G G'):∀ {v:V} {d:D},Dn K cl G v d→Dn K cl G' v d
 |_,_,.non=> .non
 |_,_,.bl b=> .bl b
 |_,_,.int i=> .int i
 |_,_,.str x=> .str x
 |_,_,.lst h hs=> .lst (rl_mono e h) (Dns.mono e hs)
 |_,_,.tup h hs=> .tup (e _ _ h) (Dns.mono e hs)
 |_,_,.ins h hc hk hs=> .ins (e _ _ h) hc hk (Dns.mono e hs)
 |_,_,.dic h=> .dic (e _ _ h)
 |_,_,.fn h=> .fn h
 |_,_,.exc h h2=> .exc (e _ _ h) h2
theorem Dns.mono(e:Same G G'):∀ {vs:List V} {ds:List D},Dns K cl G vs ds→Dns K cl G' vs ds
 |_,_,.nil=> .nil
 |_,_,.cons h hs=> .cons (Dn.mono e h) (Dns.mono e hs)
end
theorem Dns.length:∀ {vs:List V} {ds:List D},Dns K cl G vs ds→vs.length=ds.length
 |_,_,.nil=>rfl
 |_,_,.cons _ t=>by simp [Dns.length t]
theorem Dns.get:∀ {vs:List V} {ds:List D} {i:Nat} {d:D},Dns K cl G vs ds→ds[i]?=some d→∃v,vs[i]?=some v∧Dn K cl G v d
 |_,_,_,_,.nil,h=>by simp at h
 |_,_,0,_,.cons h _,e=>by simp at e;subst e;exact⟨_,rfl,h⟩
 |_,_,i+1,d,.cons _ t,e=>by
  obtain⟨u,h1,h2⟩:=Dns.get (i:=i) (d:=d) t (by simpa using e)
  exact⟨u,by simpa using h1,h2⟩
theorem Dns.append:∀ {xs ys:List V} {us ws:List D},Dns K cl G xs us→Dns K cl G ys ws→Dns K cl G (xs++ys) (us++ws)
 |_,_,_,_,.nil,s=>s
 |_,_,_,_,.cons r t,s=> .cons r (Dns.append t s)
theorem Dns.take:∀ {xs:List V} {us:List D} (n:Nat),Dns K cl G xs us→Dns K cl G (xs.take n) (us.take n)
 |_,_,0,_=> .nil
 |_,_,_+1,.nil=> .nil
 |_,_,n+1,.cons r t=> .cons r (Dns.take n t)
theorem Dns.drop:∀ {xs:List V} {us:List D} (n:Nat),Dns K cl G xs us→Dns K cl G (xs.drop n) (us.drop n)
 |_,_,0,r=>r
 |_,_,_+1,.nil=> .nil
 |_,_,n+1,.cons _ t=>Dns.drop n t
theorem Dns.rep{xs:List V}{us:List D}(h:Dns K cl G xs us):∀k:Nat,Dns K cl G (List.replicate k xs).flatten (List.replicate k us).flatten
 |0=> .nil
 |k+1=>by rw [List.replicate_succ,List.replicate_succ,List.flatten_cons,List.flatten_cons];exact h.append (Dns.rep h k)
theorem dns_ints:∀ns:List Int,Dns K cl G (ns.map V.int) (ns.map D.int)
 |[]=> .nil
 |n::r=> .cons (.int n) (dns_ints r)
end
noncomputable def intsD:List D→Option (List Int)
 |[]=>some []
 | .int i::r=>(intsD r).map (i::·)
 |_=>none
noncomputable def blsD:List D→Option (List Bool)
 |[]=>some []
 | .bl i::r=>(blsD r).map (i::·)
 |_=>none
theorem intsD_map(ns:List Int):intsD (ns.map D.int)=some ns:=by
 induction ns with
 |nil=>rfl
 |cons n r ih=>show(intsD (r.map D.int)).map (n::·)=_;rw [ih];rfl
noncomputable def strsD:List D→Option (List Str)
 |[]=>some []
 | .str i::r=>(strsD r).map (i::·)
 |_=>none
theorem strsD_map(ns:List Str):strsD (ns.map D.str)=some ns:=by
 induction ns with
 |nil=>rfl
 |cons n r ih=>show(strsD (r.map D.str)).map (n::·)=_;rw [ih];rfl
theorem strsD_eq:∀ {l:List D} {ns:List Str},strsD l=some ns→l=ns.map D.str
 |[],ns,h=>by cases h;rfl
 |d::r,ns,h=>by
  cases d with
  |str i=>
   have h':(strsD r).map (i::·)=some ns:=h
   cases e:strsD r with
   |none=>rw [e]at h';cases h'
   |some ms=>rw [e]at h';cases h';rw [strsD_eq e];rfl
  |_=>cases h
theorem blsD_map(ns:List Bool):blsD (ns.map D.bl)=some ns:=by
 induction ns with
 |nil=>rfl
 |cons n r ih=>show(blsD (r.map D.bl)).map (n::·)=_;rw [ih];rfl
theorem intsD_eq:∀ {l:List D} {ns:List Int},intsD l=some ns→l=ns.map D.int
 |[],ns,h=>by cases h;rfl
 |d::r,ns,h=>by
  cases d with
  |int i=>
   have h':(intsD r).map (i::·)=some ns:=h
   cases e:intsD r with
   |none=>rw [e]at h';cases h'
   |some ms=>rw [e]at h';cases h';rw [intsD_eq e];rfl
  |_=>cases h
theorem blsD_eq:∀ {l:List D} {ns:List Bool},blsD l=some ns→l=ns.map D.bl
 |[],ns,h=>by cases h;rfl
 |d::r,ns,h=>by
  cases d with
  |bl i=>
   have h':(blsD r).map (i::·)=some ns:=h
   cases e:blsD r with
   |none=>rw [e]at h';cases h'
   |some ms=>rw [e]at h';cases h';rw [blsD_eq e];rfl
  |_=>cases h
section
variable{K:W.Frag}{cl:Nat→Option Addr}{G:Hp}
theorem Dns.ints:∀ {vs:List V} {ns:List Int},Dns K cl G vs (ns.map D.int)→vs=ns.map V.int
 |_,[],.nil=>rfl
 |_,n::r,.cons (.int _) t=>by rw [Dns.ints t];rfl
theorem Dns.strs:∀ {vs:List V} {ns:List Str},Dns K cl G vs (ns.map D.str)→vs=ns.map V.str
 |_,[],.nil=>rfl
 |_,n::r,.cons (.str _) t=>by rw [Dns.strs t];rfl
theorem dns_strs:∀ns:List Str,Dns K cl G (ns.map V.str) (ns.map D.str)
 |[]=> .nil
 |n::r=> .cons (.str n) (dns_strs r)
theorem Dns.bls:∀ {vs:List V} {ns:List Bool},Dns K cl G vs (ns.map D.bl)→vs=ns.map V.bl
 |_,[],.nil=>rfl
 |_,n::r,.cons (.bl _) t=>by rw [Dns.bls t];rfl
end
mutual
noncomputable def toPy:D→Option PyData
 | .non=>some .none
 | .bl b=>some (.bool b)
 | .int i=>some (.int i)
 | .str x=>some (.str x)
 | .lst l=>(toPys l).map .list
 | .tup l=>(toPys l).map .tuple
 | .ins _ _ _=>none
 | .dic _=>none
 | .fn _=>none
 | .exc _=>none
noncomputable def toPys:List D→Option (List PyData)
 |[]=>some []
 |d::r=>match toPy d,toPys r with
  |some x,some y=>some (x::y)
  |_,_=>none
end
noncomputable def eqD(a b:D):Option Bool:=match toPy a,toPy b with
 |some x,some y=>if PySem.SeqAt.shaped x&&PySem.SeqAt.shaped y&&PySem.SeqAt.noMix x y then some (PySem.Spec.same x y)else none
 |_,_=>none
section
variable{K:W.Frag}{cl:Nat→Option Addr}{G:Hp}
mutual
theorem Dn.py:∀ {v:V} {d:D} {x:PyData},Dn K cl G v d→toPy d=some x→L2.DV K G v x
 |_,_,_,.non,h=>by cases h;exact .non
 |_,_,_,.bl b,h=>by cases h;exact .bl b
 |_,_,_,.int i,h=>by cases h;exact .int i
 |_,_,_,.str y,h=>by cases h;exact .str y
 |_,_,x,@Dn.lst _ _ _ a xs ds h hs,e=>by
  have e':(toPys ds).map PyData.list=some x:=by simpa [toPy]using e
  cases q:toPys ds with
  |none=>rw [q]at e';cases e'
  |some y=>rw [q]at e';cases e';exact .lst h.sql (Dns.py hs q)
 |_,_,x,@Dn.tup _ _ _ a xs ds h hs,e=>by
  have e':(toPys ds).map PyData.tuple=some x:=by simpa [toPy]using e
  cases q:toPys ds with
  |none=>rw [q]at e';cases e'
  |some y=>rw [q]at e';cases e';exact .tup (.inl (.inl h)) (Dns.py hs q)
 |_,_,_,.ins _ _ _ _,h=>by simp [toPy]at h
 |_,_,_,.dic _,h=>by simp [toPy]at h
 |_,_,_,.fn _,h=>by simp [toPy]at h
 |_,_,_,.exc _ _,h=>by simp [toPy]at h
theorem Dns.py:∀ {vs:List V} {ds:List D} {x:List PyData},Dns K cl G vs ds→toPys ds=some x→L2.DVs K G vs x
 |_,_,_,.nil,h=>by cases h;exact .nil
 |_,_,x,@Dns.cons _ _ _ v d vs ds h hs,e=>by
  have e':(match toPy d,toPys ds with|some x,some y=>some (x::y)|_,_=>none)=some x:=by simpa [toPys]using e
  cases q1:toPy d with
  |none=>rw [q1]at e';cases e'
  |some y=>
   cases q2:toPys ds with
   |none=>rw [q1,q2]at e';cases e'
   |some z=>rw [q1,q2]at e';cases e';exact .cons (Dn.py h q1) (Dns.py hs q2)
end
end
structure Ext(H G H' G':Hp):Prop where
 hh:Same H H'
 gg:Same G G'
 gh:Same G' H'
 nw:∀b o,G' b=some o→G b=none→H b=none
section
variable{H G H' G' H2 G2:Hp}
theorem Ext.refl(h:Same G H):Ext H G H G:=⟨.refl _,.refl _,h,fun b o h1 h2=>by rw [h1]at h2;cases h2⟩
theorem Ext.trans(a:Ext H G H' G')(b:Ext H' G' H2 G2):Ext H G H2 G2:=
 ⟨a.hh.trans b.hh,a.gg.trans b.gg,b.gh,fun c o h1 h2=>by
   cases q:G' c with
   |some u=>exact a.nw c u q h2
   |none=>exact a.hh.free (b.nw c o h1 q)⟩
theorem same_upd{H:Hp}{p:Addr}(h:H p=none)(o:HO):Same H (upd H p o):=fun b u q=>by rw [upd_ne (ne_of_none q h)];exact q
theorem Ext.new(h:Same G H){p:Addr}(hp:H p=none)(o:HO):Ext H G (upd H p o) (upd G p o):=
 ⟨same_upd hp o,same_upd (h.free hp) o,fun b u q=>by
  by_cases e:b=p
  ·subst e;rw [upd_same]at q⊢;exact q
  ·rw [upd_ne e]at q⊢;exact h _ _ q,fun b u q n=>by
  by_cases e:b=p
  ·subst e;exact hp
  ·rw [upd_ne e]at q;rw [q]at n;cases n⟩
theorem Ext.newO(h:Same G H){p:Addr}(hp:H p=none)(o:HO):Ext H G (upd H p o) G:=
 ⟨same_upd hp o,.refl _,h.trans (same_upd hp o),fun b u q n=>by rw [q]at n;cases n⟩
end
noncomputable def rD(K:W.Frag)(cl:Nat→Option Addr)(g:D→D→Option D):R2:=fun v u H Q=>∃G x y d,Same G H∧Dn K cl G v x∧Dn K cl G u y∧g x y=some d∧∀z H' G',Ext H G H' G'→Dn K cl G' z d→Q z H'
noncomputable def rD1(K:W.Frag)(cl:Nat→Option Addr)(g:D→Option D):V→Hp→VK→Prop:=fun v H Q=>∃G x d,Same G H∧Dn K cl G v x∧g x=some d∧∀z H' G',Ext H G H' G'→Dn K cl G' z d→Q z H'
noncomputable def rDs(K:W.Frag)(cl:Nat→Option Addr)(g:List D→Option D):List V→Hp→VK→Prop:=fun vs H Q=>∃G xs d,Same G H∧Dns K cl G vs xs∧g xs=some d∧∀z H' G',Ext H G H' G'→Dn K cl G' z d→Q z H'
section
variable{X:Cx}{pins:List (Addr×Obj)}{σ:St}{H:Hp}{s:Shared}
theorem rl_lst(I:Inv X pins σ H s){a:Addr}{xs:List V}(h:RL X.K H a xs):xs.length≤sizeLine∧∃(its:List Value) (n:Nat),Vals xs its∧xs.length=its.length∧s.heap.get? a=some {cls:=.type "list",data:=.seq its.toArray n}:=by
 rcases h with h|⟨its,n,h1,h2,h3⟩
 ·obtain⟨z,its,n,r,e⟩:=h.ok I.hok
  exact⟨z,its,n,r,r.length,e⟩
 ·have e:xs.length=its.toList.length:=h3.length
  have e2:its.toList.length=its.size:=Array.length_toList
  exact⟨by lia,its.toList,n,h3,h3.length,by simpa using I.kIn a _ h1⟩
theorem op_catR:OpR X (binaryOp .Add) (fun x y H Q=>∃l b xs zs,x=.ref l∧y=.ref b∧RL X.K H l xs∧RL X.K H b zs∧xs.length+zs.length≤sizeLine∧∀p,H p=none→Q (.ref p) (upd H p (.lst (xs++zs)))):=by
 intro pins s σ H x y v u Q I rx ry h
 obtain⟨l,b,xs,zs,rfl,rfl,hH,hB,hz,q⟩:=h
 cases rx
 cases ry
 obtain⟨z,its,n,r,hl,e⟩:=rl_lst I hH
 obtain⟨z2,its2,n2,r2,hl2,e2⟩:=rl_lst I hB
 refine PySem.P.add_list e e2 ?_ (by rw [List.size_toArray,List.size_toArray];lia)
 have ea:its.toArray++its2.toArray=(its++its2).toArray:=by simp
 rw [ea]
 exact⟨.ref _,_,I.lnew (t':=s.toks) (r.append r2) (by rw [List.length_append];lia),rfl,q _ I.fresh⟩
theorem op_repR:OpR X (binaryOp .Mult) (fun x y H Q=>∃l k xs,x=.ref l∧y=.int k∧RL X.K H l xs∧-(2 ^ 63)≤k∧k<2 ^ 63∧xs.length*k.toNat≤sizeLine∧
 ∀p,H p=none→Q (.ref p) (upd H p (.lst (List.replicate k.toNat xs).flatten))):=by
 intro pins s σ H x y v u Q I rx ry h
 obtain⟨l,k,xs,rfl,rfl,hH,h1,h2,hz,q⟩:=h
 cases rx
 obtain⟨t,rfl⟩:=ry
 obtain⟨z,its,n,r,hl,e⟩:=rl_lst I hH
 have hlen:its.toArray.size*k.toNat≤sizeLine:=by rw [List.size_toArray,←hl];exact hz
 have hcap:¬its.toArray.size*k.toNat>(2 ^ 63-1)/8:=by
  have:(sizeLine:Nat)≤(2 ^ 63-1)/8:=by decide
  lia
 have hfit:¬(!Builtin.List.listFitsIndex k)=true:=by
  rw [fitsIndex_both h1 h2]
  exact fnt
 have hlong:¬Builtin.List.listTooLong (its.toArray.size*k.toNat)=true:=by
  rw [notLongL hlen]
  exact fnt
 have hnew:List.foldl (fun x1 x2=>x1++x2) #[] (List.replicate (if its.toArray.isEmpty=true then 0 else k.toNat) its.toArray)=(List.replicate k.toNat its).flatten.toArray:=by
  have f0:∀m:Nat,List.foldl (fun x1 x2=>x1++x2) #[] (List.replicate m its.toArray)=(List.replicate m its).flatten.toArray:=fun m=>by
   have:=foldl_rep its m []
   rw [List.nil_append]at this
   exact this
  rw [f0]
  cases its with
  |nil=>simp
  |cons a r'=>rw [if_neg (by simp)]
 refine wpAny_binaryOp_repeat_ref (T:="list") (U:="int") (by decide) ⟨_,e,rfl⟩ (fun s'=>typeIs_int s' k t) noFill_list_mul F.fills_int_mul F.slot_int_rmul repeat_list F.slot_int_index.lookup
  (call_meets F.slot_int_rmul (typeIs_int s k t) F.entry_int_rmul (F.args_int_rmul_2 _ _) (int___rmul___int_list k t l its.toArray n)
    ⟨e,rfl,⟨_,e,rfl⟩,call_meets F.slot_list_mul ⟨_,e,rfl⟩ F.entry_list_mul (F.args_list_mul_2 _ _) (AutoListH.list___mul___list_int_3 l its.toArray n k t hfit hcap hlong) ⟨e,?_⟩⟩)
 rw [hnew]
 exact⟨.ref _,_,I.lnew (t':=s.toks) (r.rep k.toNat) (by rw [len_rep,Nat.mul_comm];exact hz),rfl,q _ I.fresh⟩
end
noncomputable def sz(n:Nat):Bool:=decide (n≤1000000)
theorem sz_le{n:Nat}(h:sz n=true):n≤sizeLine:=by
 have:=odt h
 rw [sizeLine_eq];lia
noncomputable def mulOk(i j:Int):Bool:=decide (-(2 ^ 64)<i∧i<2 ^ 64)||decide (-(2 ^ 64)<j∧j<2 ^ 64)
noncomputable def powOk(i j:Int):Bool:=decide (0≤j∧j≤1000000∧i.natAbs<2 ^ 64)
noncomputable def binD:Operator→D→D→Option D
 | .Add,.int i,.int j=>some (.int (i+j))
 | .Add,.lst a,.lst b=>if sz (a.length+b.length)then some (.lst (a++b))else none
 | .Add,.str a,.str b=>if sz (a.length+b.length)then some (.str (a++b))else none
 | .Sub,.int i,.int j=>some (.int (i-j))
 | .Mult,.int i,.int j=>if mulOk i j then some (.int (i*j))else none
 | .Mult,.lst a,.int k=>if sz (a.length*k.toNat)&&decide (-(2 ^ 62)≤k∧k<2 ^ 62)then some (.lst (List.replicate k.toNat a).flatten)else none
 | .Mult,.str x,.int k=>if decide (0≤k∧k≤100000∧x.length≤100)then some (.str (Txt.mul x k))else none
 | .FloorDiv,.int i,.int j=>if decide (0<j∧j<1073741824)then some (.int (i/j))else none
 | .Mod,.int i,.int j=>if decide (0<j)then some (.int (i % j))else none
 | .Pow,.int i,.int j=>if powOk i j then some (.int (i ^ j.toNat))else none
 |_,_,_=>none
section
variable{X:Cx}{cl:Nat→Option Addr}
theorem endS{G H:Hp}{Q:VK}{d:D}{K:W.Frag}(sg:Same G H)(q:∀z H' G',Ext H G H' G'→Dn K cl G' z d→Q z H'){z:V}(hz:Dn K cl G z d):Q z H:=q z H G (Ext.refl sg) hz
theorem endL{G H:Hp}{Q:VK}{ds:List D}{xs:List V}{K:W.Frag}(sg:Same G H)(q:∀z H' G',Ext H G H' G'→Dn K cl G' z (.lst ds)→Q z H'){r:Addr}(hr:H r=none)(h:Dns K cl G xs ds):Q (.ref r) (upd H r (.lst xs)):=
 have e:=Ext.new sg hr (.lst xs)
 q _ _ _ e (.lst (.inl (.inl upd_same)) (h.mono e.gg))
theorem endT{G H:Hp}{Q:VK}{ds:List D}{xs:List V}{K:W.Frag}(sg:Same G H)(q:∀z H' G',Ext H G H' G'→Dn K cl G' z (.tup ds)→Q z H'){r:Addr}(hr:H r=none)(h:Dns K cl G xs ds):Q (.ref r) (upd H r (.tup xs)):=
 have e:=Ext.new sg hr (.tup xs)
 q _ _ _ e (.tup upd_same (h.mono e.gg))
theorem op_bin(op:Operator):OpR X (binaryOp op) (rD X.K cl (binD op)):=by
 intro pins s σ H x y v u Q I rx ry ⟨G,a,b,d,sg,da,db,hg,q⟩
 unfold binD at hg
 split at hg
 ·cases hg;cases da;cases db
  exact op_add pins s σ H _ _ v u Q I rx ry ⟨_,_,rfl,rfl,endS sg q (.int _)⟩
 ·split at hg
  ·rename_i hz
   cases hg
   cases da with| @lst p xs _ h1 h2=>cases db with| @lst p' xs' _ h1' h2'=>
    refine op_catR pins s σ H _ _ v u Q I rx ry ⟨_,_,_,_,rfl,rfl,rl_mono sg h1,rl_mono sg h1',sz_le (by rw [h2.length,h2'.length];exact hz),fun r hr=> ?_⟩
    exact endL sg q hr (h2.append h2')
  ·cases hg
 ·split at hg
  ·rename_i hz
   cases hg;cases da;cases db
   exact op_add_str pins s σ H _ _ v u Q I rx ry ⟨_,_,rfl,rfl,sz_le hz,endS sg q (.str _)⟩
  ·cases hg
 ·cases hg;cases da;cases db
  exact op_sub pins s σ H _ _ v u Q I rx ry ⟨_,_,rfl,rfl,endS sg q (.int _)⟩
 ·split at hg
  ·rename_i hz
   cases hg;cases da;cases db
   refine op_mul pins s σ H _ _ v u Q I rx ry ⟨_,_,rfl,rfl,?_,endS sg q (.int _)⟩
   have hz':=(Bool.or_eq_true _ _).mp hz
   rcases hz' with h|h
   ·exact .inl (odt h)
   ·exact .inr (odt h)
  ·cases hg
 ·split at hg
  ·rename_i hz
   cases hg;cases db
   cases da with| @lst p xs _ h1 h2=>
    obtain⟨hz1,hz2⟩:=bae hz
    have hz2:=odt hz2
    refine op_repR pins s σ H _ _ v u Q I rx ry ⟨_,_,_,rfl,rfl,rl_mono sg h1,by lia,by lia,sz_le (by rw [h2.length];exact hz1),fun r hr=> ?_⟩
    exact endL sg q hr (h2.rep _)
  ·cases hg
 ·split at hg
  ·rename_i hz
   obtain⟨z1,z2,z3⟩:=odt hz
   cases hg;cases da;cases db
   exact op_mul_str pins s σ H _ _ v u Q I rx ry ⟨_,_,rfl,rfl,z1,z2,z3,endS sg q (.str _)⟩
  ·cases hg
 ·split at hg
  ·rename_i hz
   have hz':=odt hz
   cases hg;cases da;cases db
   exact op_fdiv pins s σ H _ _ v u Q I rx ry ⟨_,_,rfl,rfl,hz',endS sg q (.int _)⟩
  ·cases hg
 ·split at hg
  ·rename_i hz
   cases hg;cases da;cases db
   exact op_mod pins s σ H _ _ v u Q I rx ry ⟨_,_,rfl,rfl,odt hz,endS sg q (.int _)⟩
  ·cases hg
 ·split at hg
  ·rename_i hz
   have hz':=odt hz
   cases hg;cases da;cases db
   exact op_pow pins s σ H _ _ v u Q I rx ry ⟨_,_,rfl,rfl,hz',endS sg q (.int _)⟩
  ·cases hg
 ·cases hg
end
noncomputable def flatD:D→Bool
 | .non=>true| .bl _=>true| .int _=>true| .str _=>true|_=>false
noncomputable def eqF:D→D→Bool
 | .non,.non=>true
 | .bl a,.bl b=>a==b
 | .bl a,.int b=>(if a then 1 else 0)==b
 | .int a,.bl b=>a==(if b then 1 else 0)
 | .int a,.int b=>a==b
 | .str a,.str b=>a==b
 |_,_=>false
noncomputable def inD(x:D)(l:List D):Option Bool:=if flatD x&&l.all flatD then some (l.any fun y=>eqF y x)else none
noncomputable def lkp(kvs:List (Int×Int))(i:Int):Option Int:=(kvs.find? fun p=>decide (p.1=i)).map (·.2)
theorem valV_dKV(i:Int):∀kvs:List (Int×Int),valV (dKV kvs) (Sum.inl i)=(lkp kvs i).map V.int
 |[]=>rfl
 |p::r=>by
  show valV ((Sum.inl p.1,V.int p.2)::dKV r) _=_
  unfold lkp
  by_cases e:p.1=i
  ·rw [valV_pos (by rw [e]),List.find?_cons,dtt e];rfl
  ·rw [valV_neg (fun z=>e (Sum.inl.inj z)),valV_dKV i r,List.find?_cons,dff e];rfl
noncomputable def neL:D→Bool
 | .lst l=> !l.isEmpty
 |_=>false
noncomputable def cmpD:CmpOp→D→D→Option D
 | .Lt,.int i,.int j=>some (.bl (decide (i<j)))
 | .LtE,.int i,.int j=>some (.bl (decide (i≤j)))
 | .Gt,.int i,.int j=>some (.bl (decide (j<i)))
 | .Eq,a,b=>(eqD a b).map .bl
 | .NotEq,a,b=>(eqD a b).map fun c=> .bl (!c)
 | .In,a,.lst l=>(inD a l).map .bl
 | .Is,.non,.non=>some (.bl true)
 | .Is,.lst _,.non=>some (.bl false)
 |_,_,_=>none
section
variable{K:W.Frag}{cl:Nat→Option Addr}{G:Hp}
theorem Dn.flat{v:V}{d:D}(h:Dn K cl G v d)(f:flatD d=true):flatV v=true:=by
 cases h with
 |non=>rfl
 |bl _=>rfl
 |int _=>rfl
 |str _=>rfl
 |_=>cases f
theorem Dn.eqv{v u:V}{d e:D}(h:Dn K cl G v d)(h':Dn K cl G u e)(f:flatD d=true)(f':flatD e=true):eqV v u=eqF d e:=by
 cases h with
 |lst=>cases f
 |tup=>cases f
 |ins=>cases f
 |dic=>cases f
 |fn=>cases f
 |exc=>cases f
 |non=>cases h' with|lst=>cases f'|tup=>cases f'|ins=>cases f'|dic=>cases f'|fn=>cases f'|exc=>cases f'|_=>rfl
 |bl _=>cases h' with|lst=>cases f'|tup=>cases f'|ins=>cases f'|dic=>cases f'|fn=>cases f'|exc=>cases f'|_=>rfl
 |int _=>cases h' with|lst=>cases f'|tup=>cases f'|ins=>cases f'|dic=>cases f'|fn=>cases f'|exc=>cases f'|_=>rfl
 |str _=>cases h' with|lst=>cases f'|tup=>cases f'|ins=>cases f'|dic=>cases f'|fn=>cases f'|exc=>cases f'|_=>rfl
theorem Dns.flat:∀ {vs:List V} {ds:List D},Dns K cl G vs ds→ds.all flatD=true→vs.all flatV=true
 |_,_,.nil,_=>rfl
 |_,_,.cons h t,f=>by
  rw [List.all_cons,Bool.and_eq_true]at f
  rw [List.all_cons,h.flat f.1,Dns.flat t f.2];rfl
theorem Dns.inV{x:V}{d:D}(h:Dn K cl G x d)(f:flatD d=true):∀ {vs:List V} {ds:List D},Dns K cl G vs ds→ds.all flatD=true→inV x vs=ds.any fun y=>eqF y d
 |_,_,.nil,_=>rfl
 |_,_,.cons h' t,f'=>by
  rw [List.all_cons,Bool.and_eq_true]at f'
  show(eqV _ x||L2.inV x _)=_
  rw [List.any_cons,h'.eqv h f'.1 f,Dns.inV h f t f'.2]
end
section
variable{X:Cx}{cl:Nat→Option Addr}
theorem eqD_ok{a b:D}{c:Bool}(h:eqD a b=some c):∃x y,toPy a=some x∧toPy b=some y∧PySem.SeqAt.shaped x=true∧PySem.SeqAt.shaped y=true∧PySem.SeqAt.noMix x y=true∧c=PySem.Spec.same x y:=by
 unfold eqD at h
 split at h
 ·rename_i x y h1 h2
  split at h
  ·rename_i h3
   rw [Bool.and_eq_true,Bool.and_eq_true]at h3
   exact⟨x,y,h1,h2,h3.1.1,h3.1.2,h3.2,(Option.some.inj h).symm⟩
  ·cases h
 ·cases h
theorem op_cmp(hu:X.A.units+64<cLine)(op:CmpOp):OpR X (compareOp op) (rD X.K cl (cmpD op)):=by
 intro pins s σ H x y v u Q I rx ry ⟨G,a,b,d,sg,da,db,hg,q⟩
 unfold cmpD at hg
 split at hg
 ·cases hg;cases da;cases db
  exact op_lt pins s σ H _ _ v u Q I rx ry ⟨_,_,rfl,rfl,endS sg q (.bl _)⟩
 ·cases hg;cases da;cases db
  exact op_le pins s σ H _ _ v u Q I rx ry ⟨_,_,rfl,rfl,endS sg q (.bl _)⟩
 ·cases hg;cases da;cases db
  exact op_gt pins s σ H _ _ v u Q I rx ry ⟨_,_,rfl,rfl,endS sg q (.bl _)⟩
 ·cases e:eqD a b with
  |none=>rw [e]at hg;cases hg
  |some c=>
   rw [e]at hg;cases hg
   obtain⟨x',y',h1,h2,h3,h4,h5,rfl⟩:=eqD_ok e
   refine op_eqD hu pins s σ H _ _ v u Q I rx ry ⟨x',y',(da.mono sg).py h1,(db.mono sg).py h2,h3,h4,h5,?_⟩
   rw [if_neg (by decide)]
   exact endS sg q (.bl _)
 ·cases e:eqD a b with
  |none=>rw [e]at hg;cases hg
  |some c=>
   rw [e]at hg;cases hg
   obtain⟨x',y',h1,h2,h3,h4,h5,rfl⟩:=eqD_ok e
   refine op_neD hu pins s σ H _ _ v u Q I rx ry ⟨x',y',(da.mono sg).py h1,(db.mono sg).py h2,h3,h4,h5,?_⟩
   rw [if_pos rfl]
   exact endS sg q (.bl _)
 ·rename_i l
  unfold inD at hg
  split at hg
  ·rename_i hf
   obtain⟨f1,f2⟩:=bae hf
   cases hg
   cases db
   rename_i h1 h2
   have e:=Dns.inV da f1 h2 f2
   refine op_in_seq pins s σ H _ _ v u Q I rx ry ⟨_,_,rfl,.inl (rl_mono sg h1).sql,da.flat f1,h2.flat f2,?_⟩
   rw [if_neg (by decide),e];exact endS sg q (.bl _)
  ·cases hg
 ·cases hg;cases da;cases db
  exact op_isN pins s σ H _ _ v u Q I rx ry ⟨rfl,endS sg q (.bl _)⟩
 ·cases hg;cases da;cases db
  exact op_isN pins s σ H _ _ v u Q I rx ry ⟨rfl,endS sg q (.bl _)⟩
 ·cases hg
end
section
variable{K:W.Frag}{cl:Nat→Option Addr}{G:Hp}
theorem Dns.atI{xs:List V}{ds:List D}(h:Dns K cl G xs ds){i:Int}{d:D}(e:L2.atI ds i=some d):∃v,L2.atI xs i=some v∧Dn K cl G v d:=by
 unfold L2.atI at e⊢
 rw [h.length]
 cases q:ixN ds.length i with
 |none=>rw [q]at e;cases e
 |some j=>
  rw [q]at e
  exact h.get e
end
noncomputable def idxD:D→D→Option D
 | .lst l,.int i=>L2.atI l i
 | .tup l,.int i=>L2.atI l i
 | .dic kvs,.int i=>(lkp kvs i).map .int
 | .str x,.int i=>if sz x.length then(L2.atI x.cps.toList i).map fun c=> .str ⟨#[c]⟩else none
 |_,_=>none
noncomputable def cutL{α:Type}(l:List α)(lo hi:Option Int):List α:=(l.drop (HT.sIx l.length 0 lo)).take (HT.sIx l.length l.length hi-HT.sIx l.length 0 lo)
noncomputable def cutD:D→Option Int→Option Int→Option D
 | .lst l,lo,hi=>some (.lst (cutL l lo hi))
 | .str x,lo,hi=>if sz x.length then some (.str (Txt.slice x lo hi))else none
 |_,_,_=>none
noncomputable def revD:D→Option D
 | .lst l=>some (.lst l.reverse)
 |_=>none
section
variable{X:Cx}{cl:Nat→Option Addr}
theorem ix_D:IxR X (rD X.K cl idxD):=by
 intro value slice pins s σ H x y v u Q I rx ry ⟨G,a,b,d,sg,da,db,hg,q⟩ hs
 unfold idxD at hg
 split at hg
 ·cases db
  cases da with|lst h1 h2=>
   obtain⟨z,e1,e2⟩:=h2.atI hg
   exact ix_list value slice pins s σ H _ _ v u Q I rx ry ⟨_,_,_,z,rfl,rfl,(rl_mono sg h1).sql,e1,endS sg q e2⟩ hs
 ·cases db
  cases da with|tup h1 h2=>
   obtain⟨z,e1,e2⟩:=h2.atI hg
   exact ix_tup value slice pins s σ H _ _ v u Q I rx ry ⟨_,_,_,z,rfl,rfl,.inl (.inl (sg _ _ h1)),e1,endS sg q e2⟩ hs
 ·obtain⟨j,e1,rfl⟩:=msi hg
  cases db
  cases da with|dic h=>
   exact ix_dK value slice pins s σ H _ _ v u Q I rx ry ⟨_,_,_,V.int j,rfl,rfl,.inl (sg _ _ h),by rw [valV_dKV,e1];rfl,endS sg q (.int _)⟩ hs
 ·split at hg
  ·rename_i hz
   cases da;cases db
   obtain⟨c,e1,rfl⟩:=msi hg
   exact ix_str value slice pins s σ H _ _ v u Q I rx ry ⟨_,_,c,rfl,rfl,sz_le hz,e1,endS sg q (.str _)⟩ hs
  ·cases hg
 ·cases hg
noncomputable def rCutD(K:W.Frag)(cl:Nat→Option Addr):V→Option Int→Option Int→Hp→VK→Prop:=fun v lo hi H Q=>∃G x d,Same G H∧Dn K cl G v x∧cutD x lo hi=some d∧∀z H' G',Ext H G H' G'→Dn K cl G' z d→Q z H'
theorem sl_D:SlR X (rCutD X.K cl):=by
 intro pins s σ H x v vl vu lo hi sl Q I rx hs pl pu ⟨G,a,d,sg,da,hg,q⟩
 unfold cutD at hg
 split at hg
 ·cases hg
  cases da with| @lst p xs _ h1 h2=>
   refine sl_list pins s σ H _ v vl vu _ _ sl Q I rx hs pl pu ⟨p,xs,rfl,(rl_mono sg h1).sql,fun r hr=>endL sg q hr ?_⟩
   unfold cutV cutL
   rw [h2.length]
   exact(h2.drop _).take _
 ·split at hg
  ·rename_i hz
   cases hg
   cases da
   exact sl_str pins s σ H _ v vl vu _ _ sl Q I rx hs pl pu ⟨_,rfl,sz_le hz,endS sg q (.str _)⟩
  ·cases hg
 ·cases hg
end
inductive U where
 |len|list|lrng|sorted|sset|any|all|min|neg|sum|max|lset|ldn|bitl|stri|inti|joi|spl|stp
 deriving DecidableEq
noncomputable def isort(ns:List Int):List Int:=ns.mergeSort (fun a b=>decide (a≤b))
noncomputable def minL:List Int→Option Int
 |[]=>none
 |a::r=>some (r.foldl (fun m x=>if x<m then x else m) a)
noncomputable def maxL:List Int→Option Int
 |[]=>none
 |a::r=>some (r.foldl (fun m x=>if m<x then x else m) a)
noncomputable def ddp:List Int→List Int
 |[]=>[]
 |a::r=>if a∈r then ddp r else a::ddp r
noncomputable def BLK:Str:=" "
noncomputable def FIG:Str:="0123456789"
noncomputable def unD:U→D→Option D
 | .len,.lst l=>some (.int l.length)
 | .len,.tup l=>some (.int l.length)
 | .len,.str x=>if sz x.length then some (.int x.length)else none
 | .list,.lst l=>some (.lst l)
 | .list,.tup l=>some (.lst l)
 | .lrng,.int n=>if decide (-(2 ^ 60)≤n∧n≤1000000)then some (.lst ((List.range n.toNat).map fun(i:Nat)=>D.int i))else none
 | .sorted,.lst l=>(intsD l).bind fun ns=>if decide (ns.length<64)then some (.lst ((isort ns).map D.int))else none
 | .sset,.lst l=>(intsD l).bind fun ns=>if decide (ns.length<64)then some (.lst ((isort (ddp ns)).map D.int))else none
 | .any,.lst l=>(blsD l).map fun bs=> .bl (bs.any id)
 | .all,.lst l=>(blsD l).map fun bs=> .bl (bs.all id)
 | .min,.lst l=>(intsD l).bind fun ns=>(minL ns).map D.int
 | .neg,.int i=>some (.int (-i))
 | .stri,.int i=>if decide (0≤i∧i<1000000)then some (.str (Str.ofString (toString i)))else none
 | .inti,.str x=>if decide (x.length≤640)then(intText? x).map .int else none
 | .joi,.lst l=>(strsD l).bind fun xs=>if JoinOk BLK xs then some (.str (Txt.join BLK xs))else none
 | .spl,.str x=>if sz (x.length+2)then some (.lst ((Txt.split x BLK).map .str))else none
 | .stp,.str x=>if sz x.length then some (.str (Txt.stripChars x FIG))else none
 | .sum,.lst l=>(intsD l).map fun ns=> .int ns.sum
 | .max,.lst l=>(intsD l).bind fun ns=>(maxL ns).map D.int
 | .lset,.lst l=>(intsD l).bind fun ns=>if decide (ns.length<64)then some (.int (ddp ns).length)else none
 | .bitl,.int i=>some (.int (Builtin.Int.intBits i:Nat))
 | .ldn,.int i=>if decide (-(2 ^ 30)≤i∧i≤1000000)then some (.lst ((List.range (i+1).toNat).map fun(j:Nat)=>D.int (i-j)))else none
 |_,_=>none
theorem sorted_unique:∀ {l m:List Int},l.Perm m→l.Pairwise (· ≤·)→m.Pairwise (· ≤·)→l=m:=by
 intro l m p h1 h2
 exact p.eq_of_pairwise (fun a b _ _ x y=>Int.le_antisymm x y) h1 h2
theorem isort_perm(ns:List Int):(isort ns).Perm ns:=List.mergeSort_perm ns _
theorem isort_sorted(ns:List Int):(isort ns).Pairwise (· ≤·):=by
 have h:=List.pairwise_mergeSort (le:=fun a b:Int=>decide (a≤b)) (by intro a b c h1 h2;simp at*;lia) (by intro a b;simp;lia) ns
 exact h.imp (by intro a b h;simpa using h)
theorem isort_eq{ns ms:List Int}(p:ms.Perm ns)(h:ms.Pairwise (· ≤·)):ms=isort ns:=sorted_unique (p.trans (isort_perm ns).symm) h (isort_sorted ns)
section
variable{X:Cx}{cl:Nat→Option Addr}
noncomputable def one(g:D→Option D):List D→Option D
 |[x]=>g x
 |_=>none
noncomputable def two(g:D→D→Option D):List D→Option D
 |[x,y]=>g x y
 |_=>none
theorem one_some{g:D→Option D}{l:List D}{d:D}(h:one g l=some d):∃x,l=[x]∧g x=some d:=by
 unfold one at h;split at h
 ·exact⟨_,rfl,h⟩
 ·cases h
theorem two_some{g:D→D→Option D}{l:List D}{d:D}(h:two g l=some d):∃x y,l=[x,y]∧g x y=some d:=by
 unfold two at h;split at h
 ·exact⟨_,_,rfl,h⟩
 ·cases h
theorem Dns.one{K:W.Frag}{G:Hp}{vs:List V}{x:D}(h:Dns K cl G vs [x]):∃v,vs=[v]∧Dn K cl G v x:=by
 cases h with|cons a t=>cases t;exact⟨_,rfl,a⟩
theorem Dns.two{K:W.Frag}{G:Hp}{vs:List V}{x y:D}(h:Dns K cl G vs [x,y]):∃v u,vs=[v,u]∧Dn K cl G v x∧Dn K cl G u y:=by
 cases h with|cons a t=>cases t with|cons b t=>cases t;exact⟨_,_,rfl,a,b⟩
theorem b_len:CallR X (.builtin "len") (rDs X.K cl (one (unD .len))):=by
 intro pins s σ H vs us Q I r ⟨G,xs,d,sg,dx,hg,q⟩
 obtain⟨x,rfl,hg⟩:=one_some hg
 obtain⟨v,rfl,da⟩:=dx.one
 cases x with
 |lst l=>
  cases hg
  cases da with|lst h1 h2=>
   refine call_len_seq pins s σ H _ us Q I r ⟨_,_,rfl,.inl (rl_mono sg h1).sql,?_⟩
   rw [h2.length];exact endS sg q (.int _)
 |tup l=>
  cases hg
  cases da with|tup h1 h2=>
   refine call_len_seq pins s σ H _ us Q I r ⟨_,_,rfl,.inr (.inl (.inl (sg _ _ h1))),?_⟩
   rw [h2.length];exact endS sg q (.int _)
 |str y=>
  have hg':(if sz y.length then some (D.int y.length)else none)=some d:=hg
  split at hg'
  ·rename_i hz
   cases hg';cases da
   exact call_len_str pins s σ H _ us Q I r ⟨_,rfl,sz_le hz,endS sg q (.int _)⟩
  ·cases hg'
 |_=>cases hg
theorem log_small{i:Int}(h0:0≤i)(h1:i<1000000):i.natAbs.log2<1920:=by
 by_cases z:i.natAbs=0
 ·rw [z];decide
 ·refine(Nat.log2_lt z).mpr (Nat.lt_of_lt_of_le (m:=2 ^ 20) (by lia) (Nat.pow_le_pow_right (by decide) (by decide)))
theorem b_str:CallR X (.type "str") (rDs X.K cl (one (unD .stri))):=by
 intro pins s σ H vs us Q I r ⟨G,xs,d,sg,dx,hg,q⟩
 obtain⟨x,rfl,hg⟩:=one_some hg
 obtain⟨v,rfl,da⟩:=dx.one
 cases x with
 |int i=>
  have hg':(if decide (0≤i∧i<1000000)then some (D.str (Str.ofString (toString i)))else none)=some d:=hg
  split at hg'
  ·rename_i hz
   obtain⟨z1,z2⟩:=odt hz
   cases hg';cases da
   exact call_str_int pins s σ H _ us Q I r ⟨_,rfl,log_small z1 z2,endS sg q (.str _)⟩
  ·cases hg'
 |_=>cases hg
theorem b_int:CallR X (.type "int") (rDs X.K cl (one (unD .inti))):=by
 intro pins s σ H vs us Q I r ⟨G,xs,d,sg,dx,hg,q⟩
 obtain⟨x,rfl,hg⟩:=one_some hg
 obtain⟨v,rfl,da⟩:=dx.one
 cases x with
 |str i=>
  have hg':(if decide (i.length≤640)then(intText? i).map D.int else none)=some d:=hg
  split at hg'
  ·rename_i hz
   obtain⟨n,e1,rfl⟩:=msi hg'
   cases da
   exact call_int_str pins s σ H _ us Q I r ⟨_,n,rfl,e1,odt hz,endS sg q (.int _)⟩
  ·cases hg'
 |_=>cases hg
theorem b_list:CallR X (.type "list") (rDs X.K cl (one (unD .list))):=by
 intro pins s σ H vs us Q I r ⟨G,xs,d,sg,dx,hg,q⟩
 obtain⟨x,rfl,hg⟩:=one_some hg
 obtain⟨v,rfl,da⟩:=dx.one
 cases x with
 |lst l=>
  cases hg
  cases da with|lst h1 h2=>
   exact call_list_of pins s σ H _ us Q I r ⟨_,_,rfl,.inl (rl_mono sg h1).sql,fun l hl=>endL sg q hl h2⟩
 |tup l=>
  cases hg
  cases da with|tup h1 h2=>
   exact call_list_of pins s σ H _ us Q I r ⟨_,_,rfl,.inr (.inl (.inl (sg _ _ h1))),fun l hl=>endL sg q hl h2⟩
 |_=>cases hg
theorem b_all(hc:X.calm=true):CallR X (.builtin "all") (rDs X.K cl (one (unD .all))):=by
 intro pins s σ H vs us Q I r ⟨G,xs,d,sg,dx,hg,q⟩
 obtain⟨x,rfl,hg1⟩:=one_some hg;clear hg
 obtain⟨v,rfl,da⟩:=dx.one
 cases x with
 |lst l=>
  obtain⟨ns,e1,hg⟩:=msi hg1;clear hg1
  have e1:=blsD_eq e1
  subst e1;subst hg
  cases da with|lst h1 h2=>
   have e2:=h2.bls
   subst e2
   exact call_all_bl hc pins s σ H _ us Q I r ⟨_,ns,rfl,(rl_mono sg h1).sql,endS sg q (.bl _)⟩
 |_=>cases hg1
noncomputable def min2:D→D→Option D
 | .int i,.int j=>some (.int (if j<i then j else i))
 |_,_=>none
noncomputable def max2:D→D→Option D
 | .int i,.int j=>some (.int (if j>i then j else i))
 |_,_=>none
theorem b_min2(hc:X.calm=true):CallR X (.builtin "min") (rDs X.K cl (two min2)):=by
 intro pins s σ H vs us Q I r ⟨G,xs,d,sg,dx,hg,q⟩
 obtain⟨x,y,rfl,hg1⟩:=two_some hg;clear hg;have hg:=hg1;clear hg1
 obtain⟨v,u,rfl,da,db⟩:=dx.two
 unfold min2 at hg
 split at hg
 ·cases hg;cases da;cases db
  exact call_min2 hc pins s σ H _ us Q I r ⟨_,_,rfl,endS sg q (.int _)⟩
 ·cases hg
theorem b_max2(hc:X.calm=true):CallR X (.builtin "max") (rDs X.K cl (two max2)):=by
 intro pins s σ H vs us Q I r ⟨G,xs,d,sg,dx,hg,q⟩
 obtain⟨x,y,rfl,hg1⟩:=two_some hg;clear hg;have hg:=hg1;clear hg1
 obtain⟨v,u,rfl,da,db⟩:=dx.two
 unfold max2 at hg
 split at hg
 ·cases hg;cases da;cases db
  exact call_max2 hc pins s σ H _ us Q I r ⟨_,_,rfl,endS sg q (.int _)⟩
 ·cases hg
theorem un_negD:UnR X (unaryOp .USub) (rD1 X.K cl (unD .neg)):=by
 intro pins s σ H x v Q I rx ⟨G,a,d,sg,da,hg,q⟩
 cases a with
 |int i=>cases hg;cases da;exact un_neg pins s σ H _ v Q I rx ⟨_,rfl,endS sg q (.int _)⟩
 |_=>cases hg
noncomputable def tyS:Nat→String
 |0=>"int"|1=>"bool"|2=>"list"|3=>"tuple"|_=>"str"
noncomputable def tyD:D→Option String
 | .non=>some "NoneType"| .bl _=>some "bool"| .int _=>some "int"| .str _=>some "str"| .lst _=>some "list"| .tup _=>some "tuple"| .ins _ _ _=>none| .dic _=>some "dict"| .fn _=>none| .exc _=>none
noncomputable def isiB:D→Nat→Option Bool
 | .non,_=>some false
 | .bl _,0=>some true| .bl _,1=>some true| .bl _,_=>some false
 | .int _,0=>some true| .int _,_=>some false
 | .str _,0=>some false| .str _,1=>some false| .str _,2=>some false| .str _,3=>some false| .str _,_=>some true
 | .lst _,2=>some true| .lst _,_=>some false
 | .tup _,3=>some true| .tup _,_=>some false
 | .ins _ _ _,_=>none
 | .dic _,_=>some false
 | .fn _,_=>none
 | .exc _,_=>none
theorem isiB_ok{d:D}{k:Nat}{b:Bool}(h:isiB d k=some b):∃t,tyD d=some t∧∀K:W.Frag,W.kitOne K (.type t) (.type (tyS k))=some b:=by
 rcases k with _|_|_|_|k<;>cases d<;>cases h<;>exact⟨_,rfl,fun K=>rfl⟩
def TyR(K:W.Frag)(H:Hp)(x:V)(t:Value):Prop:=TyOf K H x t∨(t=.type "list"∧∃a xs,x=.ref a∧RL K H a xs)
theorem call_isinstR:CallR X (.builtin "isinstance") (fun xs H Q=>∃x T t b,xs=[x,.ty T]∧TyR X.K H x t∧W.kitOne X.K t (.type T)=some b∧Q (.bl b) H):=by
 intro pins s σ H xs us Q I r h
 obtain⟨x,T,t,b,rfl,ty,k,q⟩:=h
 rcases ty with ty|⟨rfl,a,ys,rfl,hr⟩
 ·exact call_isinst pins s σ H _ us Q I r ⟨x,T,t,b,rfl,ty,k,q⟩
 ·obtain⟨u,v,rfl,ru,rv⟩:=r.two
  cases (show v=Value.type T from rv)
  cases (show u=Value.ref a from ru)
  obtain⟨_,its,n,_,_,h1⟩:=rl_lst I hr
  exact W.kia_one W.kitx_list I.kIn ⟨_,h1,rfl⟩ k (fun z=>nomatch z) fun tk=>⟨.bl b,H,I.tok _,rfl,q⟩
theorem tyD_ok{K:W.Frag}{G H:Hp}{v:V}{d:D}{t:String}(h:Dn K cl G v d)(sg:Same G H)(e:tyD d=some t):TyR K H v (.type t):=by
 cases h with
 |non=>cases e;exact .inl .non
 |bl b=>cases e;exact .inl (.bl b)
 |int b=>cases e;exact .inl (.int b)
 |str b=>cases e;exact .inl (.str b)
 |lst h1 h2=>cases e;exact .inr ⟨rfl,_,_,rfl,rl_mono sg h1⟩
 |tup h1 h2=>cases e;exact .inl (.tup (sg _ _ h1))
 |ins=>cases e
 |dic h=>cases e;exact .inl (.dK (sg _ _ h))
 |fn=>cases e
 |exc=>cases e
end
inductive T where
 |sh(d:D)|ow(ts:List T)|ob(c:Nat)(ks:List Str)(ts:List T)
 deriving Inhabited
mutual
noncomputable def strip:T→D
 | .sh d=>d
 | .ow ts=> .lst (strips ts)
 | .ob c ks ts=> .ins c ks (strips ts)
noncomputable def strips:List T→List D
 |[]=>[]
 |t::r=>strip t::strips r
end
theorem strips_map(ts:List T):strips ts=ts.map strip:=by
 induction ts with
 |nil=>rfl
 |cons t r ih=>simp [strips,ih]
mutual
inductive OT(K:W.Frag)(cl:Nat→Option Addr)(G H:Hp):V→T→List Addr→Prop where
 |sh {v:V} {d:D}:Dn K cl G v d→OT K cl G H v (.sh d) []
 |ow {a:Addr} {xs:List V} {ts:List T} {A:List Addr}:H a=some (.lst xs)→G a=none→OTs K cl G H xs ts A→OT K cl G H (.ref a) (.ow ts) (a::A)
 |ob {a C dx:Addr} {c:Nat} {ks:List Str} {vfs:List (Str×V)} {ts:List T} {A:List Addr}:H a=some (.ins C dx vfs)→H dx=some (.own a)→cl c=some C→vfs.map (·.1)=ks→G a=none→G dx=none→OTs K cl G H (vfs.map (·.2)) ts A→OT K cl G H (.ref a) (.ob c ks ts) (a::dx::A)
inductive OTs(K:W.Frag)(cl:Nat→Option Addr)(G H:Hp):List V→List T→List Addr→Prop where
 |nil:OTs K cl G H [] [] []
 |cons {x:V} {t:T} {xs:List V} {ts:List T} {A B:List Addr}:OT K cl G H x t A→OTs K cl G H xs ts B→OTs K cl G H (x::xs) (t::ts) (A++B)
end
section
variable{K:W.Frag}{cl:Nat→Option Addr}{G G' H H':Hp}
mutual
theorem OT.move(hg:Same G G'):∀ {v:V} {t:T} {A:List Addr},OT K cl G H v t A→(∀a∈A,G' a=none)→(∀a∈A,∀o,H a=some o→H' a=some o)→OT K cl G' H' v t A
 |_,_,_,.sh h,_,_=> .sh (h.mono hg)
 |_,_,_,.ow h1 h2 h3,f,k=> .ow (k _ (by simp) _ h1) (f _ (by simp)) (OTs.move hg h3 (fun a ha=>f a (by simp [ha])) fun a ha=>k a (by simp [ha]))
 |_,_,_,.ob h1 h2 h3 h4 h5 h6 h7,f,k=> .ob (k _ (by simp) _ h1) (k _ (by simp) _ h2) h3 h4 (f _ (by simp)) (f _ (by simp)) (OTs.move hg h7 (fun a ha=>f a (by simp [ha])) fun a ha=>k a (by simp [ha]))
theorem OTs.move(hg:Same G G'):∀ {vs:List V} {ts:List T} {A:List Addr},OTs K cl G H vs ts A→(∀a∈A,G' a=none)→(∀a∈A,∀o,H a=some o→H' a=some o)→OTs K cl G' H' vs ts A
 |_,_,_,.nil,_,_=> .nil
 |_,_,_,.cons h hs,f,k=> .cons (OT.move hg h (fun a ha=>f a (by simp [ha])) fun a ha=>k a (by simp [ha])) (OTs.move hg hs (fun a ha=>f a (by simp [ha])) fun a ha=>k a (by simp [ha]))
end
mutual
theorem OT.free:∀ {v:V} {t:T} {A:List Addr},OT K cl G H v t A→∀a∈A,G a=none∧∃o,H a=some o
 |_,_,_,.sh h,a,ha=>absurd ha (by simp)
 |_,_,_,.ow h1 h2 h3,b,hb=>by
  rcases List.mem_cons.mp hb with rfl|hb
  ·exact⟨h2,_,h1⟩
  ·exact OTs.free h3 b hb
 |_,_,_,.ob h1 h2 h3 h4 h5 h6 h7,b,hb=>by
  rcases List.mem_cons.mp hb with rfl|hb
  ·exact⟨h5,_,h1⟩
  ·rcases List.mem_cons.mp hb with rfl|hb
   ·exact⟨h6,_,h2⟩
   ·exact OTs.free h7 b hb
theorem OTs.free:∀ {vs:List V} {ts:List T} {A:List Addr},OTs K cl G H vs ts A→∀a∈A,G a=none∧∃o,H a=some o
 |_,_,_,.nil,a,ha=>absurd ha (by simp)
 |_,_,_,.cons h hs,a,ha=>(List.mem_append.mp ha).elim (OT.free h a) (OTs.free hs a)
end
theorem OTs.length:∀ {vs:List V} {ts:List T} {A:List Addr},OTs K cl G H vs ts A→vs.length=ts.length
 |_,_,_,.nil=>rfl
 |_,_,_,.cons _ t=>by simp [OTs.length t]
theorem OTs.shs:∀ {vs:List V} {ds:List D},Dns K cl G vs ds→OTs K cl G H vs (ds.map T.sh) []
 |_,_,.nil=> .nil
 |_,_,.cons h t=> .cons (A:=[]) (B:=[]) (.sh h) (OTs.shs t)
theorem OTs.unsh:∀ {vs:List V} {ds:List D} {A:List Addr},OTs K cl G H vs (ds.map T.sh) A→Dns K cl G vs ds∧A=[]
 |_,[],_,.nil=>⟨.nil,rfl⟩
 |_,d::r,_,.cons (.sh h) t=>by
  obtain⟨a,b⟩:=OTs.unsh t
  exact⟨.cons h a,by rw [b];rfl⟩
structure Frz(G G' H:Hp)(A:List Addr):Prop where
 gg:Same G G'
 gh:Same G' H
 on:∀b,b∉A→G' b=G b
mutual
theorem OT.freeze:∀ {G:Hp} {v:V} {t:T} {A:List Addr},Same G H→OT K cl G H v t A→A.Nodup→∃G',Frz G G' H A∧Dn K cl G' v (strip t)
 |G,_,_,_,sg,.sh h,_=>⟨G,⟨.refl _,sg,fun _ _=>rfl⟩,h⟩
 |G,_,_,_,sg,@OT.ow _ _ _ _ a xs ts A h1 h2 h3,nd=>by
  obtain⟨na,nd'⟩:=List.nodup_cons.mp nd
  obtain⟨G1,f1,d1⟩:=OTs.freeze sg h3 nd'
  have e1:G1 a=none:=by rw [f1.on a na];exact h2
  have s1:Same G1 (upd G1 a (.lst xs)):=same_upd e1 _
  refine⟨upd G1 a (.lst xs),⟨f1.gg.trans s1,fun b o q=> ?_,fun b hb=> ?_⟩,?_⟩
  ·by_cases e:b=a
   ·subst e;rw [upd_same]at q;cases q;exact h1
   ·rw [upd_ne e]at q;exact f1.gh _ _ q
  ·rw [upd_ne (fun e=>hb (by simp [e]))]
   exact f1.on b fun z=>hb (by simp [z])
  ·show Dn K cl _ _ (.lst (strips ts))
   exact .lst (.inl (.inl upd_same)) (d1.mono s1)
 |G,_,_,_,sg,@OT.ob _ _ _ _ a C dx c ks vfs ts A h1 h2 h3 h4 h5 h6 h7,nd=>by
  obtain⟨na,nd'⟩:=List.nodup_cons.mp nd
  obtain⟨nx,nd'⟩:=List.nodup_cons.mp nd'
  obtain⟨nax,na⟩:a≠dx∧a∉A:=⟨fun e=>na (by simp [e]),fun e=>na (by simp [e])⟩
  obtain⟨G1,f1,d1⟩:=OTs.freeze sg h7 nd'
  have e1:G1 a=none:=by rw [f1.on a na];exact h5
  have e2:G1 dx=none:=by rw [f1.on dx nx];exact h6
  have s1:Same G1 (upd G1 a (.ins C dx vfs)):=same_upd e1 _
  have e3:upd G1 a (.ins C dx vfs) dx=none:=by rw [upd_ne (Ne.symm nax)];exact e2
  have s2:Same (upd G1 a (.ins C dx vfs)) (upd (upd G1 a (.ins C dx vfs)) dx (.own a)):=same_upd e3 _
  refine⟨upd (upd G1 a (.ins C dx vfs)) dx (.own a),⟨f1.gg.trans (s1.trans s2),fun b o q=> ?_,fun b hb=> ?_⟩,?_⟩
  ·by_cases e:b=dx
   ·subst e;rw [upd_same]at q;cases q;exact h2
   ·rw [upd_ne e]at q
    by_cases e:b=a
    ·subst e;rw [upd_same]at q;cases q;exact h1
    ·rw [upd_ne e]at q;exact f1.gh _ _ q
  ·rw [upd_ne (fun e=>hb (by simp [e])),upd_ne (fun e=>hb (by simp [e]))]
   exact f1.on b fun z=>hb (by simp [z])
  ·show Dn K cl _ _ (.ins c ks (strips ts))
   exact .ins (by rw [upd_ne nax];exact upd_same) h3 h4 (d1.mono (s1.trans s2))
theorem OTs.freeze:∀ {G:Hp} {vs:List V} {ts:List T} {A:List Addr},Same G H→OTs K cl G H vs ts A→A.Nodup→∃G',Frz G G' H A∧Dns K cl G' vs (strips ts)
 |G,_,_,_,sg,.nil,_=>⟨G,⟨.refl _,sg,fun _ _=>rfl⟩,.nil⟩
 |G,_,_,_,sg,@OTs.cons _ _ _ _ x t xs ts A B h hs,nd=>by
  obtain⟨n1,n2,n3⟩:=List.nodup_append.mp nd
  obtain⟨G1,f1,d1⟩:=OT.freeze sg h n1
  have hs':OTs K cl G1 H xs ts B:=OTs.move f1.gg hs (fun a ha=>by
   rw [f1.on a (fun z=>n3 a z a ha rfl)];exact(hs.free a ha).1) fun _ _ _ q=>q
  obtain⟨G2,f2,d2⟩:=OTs.freeze f1.gh hs' n2
  refine⟨G2,⟨f1.gg.trans f2.gg,f2.gh,fun b hb=> ?_⟩,.cons (d1.mono f2.gg) d2⟩
  rw [f2.on b (fun z=>hb (List.mem_append_right _ z)),f1.on b (fun z=>hb (List.mem_append_left _ z))]
end
theorem Frz.ext{A:List Addr}{H0 G0:Hp}(f:Frz G G' H A)(e:Ext H0 G0 H G)(n:∀a∈A,H0 a=none):Ext H0 G0 H G':=
 ⟨e.hh,e.gg.trans f.gg,f.gh,fun b o h1 h2=>by
   by_cases hb:b∈A
   ·exact n b hb
   ·rw [f.on b hb]at h1;exact e.nw b o h1 h2⟩
theorem OT.see{v:V}{t:T}{A:List Addr}(sg:Same G H)(h:OT K cl G H v t A)(nd:A.Nodup):Dn K cl H v (strip t):=by
 obtain⟨G',f,d⟩:=h.freeze sg nd
 exact d.mono f.gh
end
noncomputable def spP(K:W.Frag)(cl:Nat→Option Addr)(g:List D→Option T):Sp:=fun vs H Q _=>∃G ds t,Same G H∧Dns K cl G vs ds∧g ds=some t∧∀v H' G' A,Ext H G H' G'→OT K cl G' H' v t A→A.Nodup→(∀a∈A,H a=none)→Q v H'
inductive E where
 |var(i:Nat)|int(i:Int)|bl(b:Bool)|non|str(x:Str)
 |bin(op:Operator)(a b:E)|un(f:U)(a:E)|not(a:E)
 |cmp(op:CmpOp)(a b:E)|ch(op op':CmpOp)(a b c:E)|ch3(o1 o2 o3:CmpOp)(a b c d:E)
 |and(a b:E)|or(a b:E)|ite(c a b:E)
 |idx(a b:E)|cut(a lo hi:E)|rev(a:E)
 |lst(es:E)|tup(es:E)
 |mn(a b:E)|mx(a b:E)|isi(a:E)(k:Nat)
 |comp(elt:E)(is:List Nat)(it c:E)
 |rng(a:E)|rng2(a b:E)|dn(a:E)|mxd(a d:E)|ind(a b:E)|enm(a:E)|zp(a b:E)|rvd(a:E)
 |call(f:Nat)(args:E)
 |fld(a:E)(f:Str)
 |meth(o:E)(k:Nat)(args:E)
 |isc(a:E)(j:Nat)
 |nil|cons(a r:E)
 |gfn(x:Str)|dic0|rngS(a b:E)|sne(a b:E)
noncomputable abbrev Env:=List (Option D)
noncomputable abbrev Tab:=Nat→Option (List D→Option T)
noncomputable def truthD:D→Option Bool
 | .bl b=>some b
 | .int i=>some (i !=0)
 |_=>none
noncomputable def oc:Option D→List D→List D
 |some y,l=>y::l
 |none,l=>l
noncomputable def compR(f:D→Option (Option D)):List D→Option (List D)
 |[]=>some []
 |d::r=>(f d).bind fun o=>(compR f r).map fun l=>oc o l
noncomputable def rngD(lo hi:Int):Option (List D):=if decide (-(2 ^ 60)≤lo∧lo≤2 ^ 60∧-(2 ^ 60)≤hi∧hi≤2 ^ 60)then some ((List.range (hi-lo).toNat).map fun(i:Nat)=>D.int (lo+i))else none
noncomputable def enumD(k:Nat):List D→List D
 |[]=>[]
 |d::r=> .tup [.int k,d]::enumD (k+1) r
noncomputable def zipD:List D→List D→List D
 |a::r,b::t=> .tup [a,b]::zipD r t
 |_,_=>[]
noncomputable def inner(env:Env)(is:List Nat)(d:D):Env:=some d::is.map fun k=>(env[k]?).join
noncomputable def consD(x:D):D→Option D
 | .lst l=>some (.lst (x::l))
 |_=>none
noncomputable def isRng:E→Bool
 | .rng _=>true
 | .rng2 _ _=>true
 | .dn _=>true
 | .rngS _ _=>true
 |_=>false
noncomputable def noR(o:Option E):Option E:=o.bind fun m=>if isRng m then none else some m
noncomputable def isNil:E→Bool
 | .nil=>true
 |_=>false
noncomputable def optS(m:E)(o:Option D):Option (Option Int):=if isNil m then some none else match o with
 |some (.int i)=>some (some i)
 |_=>none
noncomputable def cS(m:E)(o:Option D):Option Bool:=if isNil m then some true else o.bind truthD
noncomputable def listD:D→Option (List D)
 | .lst l=>some l
 |_=>none
noncomputable def walkD:D→Option (List D)
 | .lst l=>some l
 | .tup l=>some l
 |_=>none
noncomputable def notD:D→Option D
 | .bl b=>some (.bl (!b))
 |_=>none
noncomputable def szL:D→Option D
 | .lst l=>if sz l.length then some (.lst l)else none
 |_=>none
noncomputable def szT:D→Option D
 | .lst l=>if sz l.length then some (.tup l)else none
 |_=>none
noncomputable def rng2D:D→D→Option D
 | .int n,.int m=>(rngD n m).map .lst
 |_,_=>none
noncomputable def mxL(d:Int)(ns:List Int):Int:=(maxL ns).getD d
noncomputable def mxdD:D→D→Option D
 | .lst l,.int d=>(intsD l).map fun ns=> .int (mxL d ns)
 |_,_=>none
noncomputable def indD:D→D→Option D
 | .lst l,.int k=>(intsD l).bind fun ns=>if PyData.layable0 (.list (ns.map .int))&&ns.contains k then some (.int (ns.idxOf k:Nat))else none
 |_,_=>none
noncomputable def enmD:D→Option D
 | .lst l=>some (.lst (enumD 0 l))
 |_=>none
noncomputable def zpD:D→D→Option D
 | .lst l,.lst m=>some (.lst (zipD l m))
 |_,_=>none
noncomputable def ifB(z:D)(a b:Option D):Option D:=match z with
 | .bl true=>a
 | .bl false=>b
 |_=>none
noncomputable def fldD(f:Str):D→Option D
 | .ins _ ks ds=>(ks.zip ds).lookup f
 |_=>none
noncomputable def subC(c j:Nat):Bool:=c==j||(j==0&&decide (1≤c∧c≤4))
noncomputable def iscD(j:Nat):D→Option D
 | .ins c _ _=>some (.bl (subC c j))
 |_=>none
noncomputable def MTH:List Str:=["shows","unmark","ahead","place_behind"]
noncomputable def mid(c k:Nat):Nat:=1000+10*c+k
noncomputable def metG(Γ:Tab)(k:Nat):D→Option (List D→Option T)
 | .ins c ks _=>if ks.contains (MTH.getD k "")then none else Γ (mid c k)
 |_=>none
noncomputable def stpD:D→D→Option D
 | .int j,.int d=>if decide (0≤j∧j≤1000∧1≤d∧d≤1000)then some (.lst ((List.range (steps j d)).map fun(i:Nat)=>D.int (0+i*d)))else none
 |_,_=>none
noncomputable def sneD:D→D→Option D
 | .lst l,.lst m=>(intsD l).bind fun ns=>(intsD m).bind fun ms=>if decide (ns.length<64)then some (.bl (!decide (isort ns=ms)))else if decide (ns.length=64)&& !ns.isPerm ms then some (.bl true)else none
 |_,_=>none
noncomputable def ev(Γ:Tab):E→Env→Option D
 | .var i,env=>(env[i]?).join
 | .int i,_=>some (.int i)
 | .bl b,_=>some (.bl b)
 | .non,_=>some .non
 | .str x,_=>some (.str x)
 | .bin op a b,env=>(ev Γ a env).bind fun x=>(ev Γ b env).bind fun y=>binD op x y
 | .un f a,env=>(ev Γ a env).bind (unD f)
 | .not a,env=>(ev Γ a env).bind notD
 | .cmp op a b,env=>(ev Γ a env).bind fun x=>(ev Γ b env).bind fun y=>cmpD op x y
 | .ch o1 o2 a b c,env=>(ev Γ a env).bind fun x=>(ev Γ b env).bind fun y=>(cmpD o1 x y).bind fun z=>ifB z ((ev Γ c env).bind fun w=>cmpD o2 y w) (some (.bl false))
 | .ch3 o1 o2 o3 a b c d,env=>(ev Γ a env).bind fun x=>(ev Γ b env).bind fun y=>(cmpD o1 x y).bind fun z=>ifB z ((ev Γ c env).bind fun w=>(cmpD o2 y w).bind fun z2=>ifB z2 ((ev Γ d env).bind fun w2=>cmpD o3 w w2) (some (.bl false))) (some (.bl false))
 | .and a b,env=>(ev Γ a env).bind fun x=>ifB x (ev Γ b env) (some (.bl false))
 | .or a b,env=>(ev Γ a env).bind fun x=>ifB x (some (.bl true)) (ev Γ b env)
 | .ite c a b,env=>((ev Γ c env).bind truthD).bind fun x=>if x then ev Γ a env else ev Γ b env
 | .idx a b,env=>(ev Γ a env).bind fun x=>(ev Γ b env).bind fun y=>idxD x y
 | .cut a lo hi,env=>(ev Γ a env).bind fun x=>(optS lo (ev Γ lo env)).bind fun l=>(optS hi (ev Γ hi env)).bind fun h=>cutD x l h
 | .rev a,env=>(ev Γ a env).bind revD
 | .lst es,env=>(ev Γ es env).bind szL
 | .tup es,env=>(ev Γ es env).bind szT
 | .mn a b,env=>(ev Γ a env).bind fun x=>(ev Γ b env).bind fun y=>min2 x y
 | .mx a b,env=>(ev Γ a env).bind fun x=>(ev Γ b env).bind fun y=>max2 x y
 | .isi a k,env=>(ev Γ a env).bind fun x=>(isiB x k).map .bl
 | .comp elt is it c,env=>((ev Γ it env).bind walkD).bind fun ds=>if sz ds.length then(compR (fun d=>(cS c (ev Γ c (inner env is d))).bind fun b=>if b then(ev Γ elt (inner env is d)).map some else some none) ds).map .lst else none
 | .call f args,env=>(Γ f).bind fun g=>((ev Γ args env).bind listD).bind fun l=>(g l).map strip
 | .rng a,env=>(ev Γ a env).bind fun x=>rng2D (.int 0) x
 | .rng2 a b,env=>(ev Γ a env).bind fun x=>(ev Γ b env).bind fun y=>rng2D x y
 | .dn a,env=>(ev Γ a env).bind (unD .ldn)
 | .mxd a d,env=>(ev Γ a env).bind fun x=>(ev Γ d env).bind fun y=>mxdD x y
 | .ind a b,env=>(ev Γ a env).bind fun x=>(ev Γ b env).bind fun y=>indD x y
 | .enm a,env=>(ev Γ a env).bind enmD
 | .zp a b,env=>(ev Γ a env).bind fun x=>(ev Γ b env).bind fun y=>zpD x y
 | .rvd a,env=>(ev Γ a env).bind revD
 | .fld a f,env=>(ev Γ a env).bind (fldD f)
 | .meth o k args,env=>(ev Γ o env).bind fun x=>(metG Γ k x).bind fun g=>((ev Γ args env).bind listD).bind fun l=>(g (x::l)).map strip
 | .isc a j,env=>(ev Γ a env).bind (iscD j)
 | .nil,_=>some (.lst [])
 | .gfn x,_=>some (.fn x)
 | .dic0,_=>some (.dic [])
 | .sne a b,env=>(ev Γ a env).bind fun x=>(ev Γ b env).bind fun y=>sneD x y
 | .rngS a b,env=>(ev Γ a env).bind fun x=>(ev Γ b env).bind fun y=>stpD x y
 | .cons a r,env=>(ev Γ a env).bind fun x=>(ev Γ r env).bind fun y=>consD x y
noncomputable def evB(Γ:Tab)(e:E)(env:Env):Option Bool:=(ev Γ e env).bind truthD
noncomputable def evs(Γ:Tab)(e:E)(env:Env):Option (List D):=(ev Γ e env).bind listD
noncomputable def its(Γ:Tab)(e:E)(env:Env):Option (List D):=(ev Γ e env).bind walkD
example (Γ:Tab) (a b:E) (env:Env):ev Γ (.idx a b) env=(ev Γ a env).bind fun x=>(ev Γ b env).bind fun y=>idxD x y:=rfl
structure CC where
 tab:List (Str×Nat)
 gi:List (Str×Int)
 cn:List (Str×Nat):=[]
noncomputable def nIdx:List Str→Str→Option Nat
 |[],_=>none
 |y::r,x=>if y==x then some 0 else(nIdx r x).map (· +1)
theorem nIdx_get:∀ {N:List Str} {x:Str} {i:Nat},nIdx N x=some i→N[i]?=some x
 |[],_,_,h=>by cases h
 |y::r,x,i,h=>by
  unfold nIdx at h
  split at h
  ·rename_i e
   cases h
   rw [show y=x by simpa using e];rfl
  ·obtain⟨j,e,rfl⟩:=msi h
   simpa using nIdx_get e
noncomputable def okE:Expr→Bool
 | .Starred _ _=>false
 | .Set _ _ _=>false
 | .Slice _ _ _ _=>false
 | .Lambda _ _ _ _=>false
 |_=>true
noncomputable def okT:Expr→Bool
 | .IfExp _ _ _ _=>false
 |_=>true
noncomputable def okN(x:Str):Bool:= !(x==("__debug__":Str))&& !(x==("__classdict__":Str))&& !(x==("__name__":Str))
noncomputable def FLD:List Str:=["pairs","rings","things","moves","falls","counts"]
noncomputable def GS:List (Str×Str):=[("NO_THINGS","-")]
noncomputable def attrOk:Expr→Bool
 | .Call (.Name _ _) [] [] _=>false
 |_=>true
noncomputable def BLT:List Str:=["len","list","range","sorted","any","all","min","max","isinstance","int","bool","tuple","str","set","enumerate","zip","reversed","sum"]
noncomputable def tyCode(x:Str):Option Nat:=if x==("int":Str)then some 0 else if x==("bool":Str)then some 1 else if x==("list":Str)then some 2 else if x==("tuple":Str)then some 3 else if x==("str":Str)then some 4 else none
noncomputable def cList(f:Expr→Option E):List Expr→Option E
 |[]=>some .nil
 |e::r=>(f e).bind fun m=>(cList f r).map fun l=> .cons m l
noncomputable def cAnd(f:Expr→Option E):List Expr→Option E
 |[]=>none
 |[a]=>if okT a then f a else none
 |a::b::r=>if okT a then(f a).bind fun m=>(cAnd f (b::r)).map fun l=> .and m l else none
noncomputable def cOr(f:Expr→Option E):List Expr→Option E
 |[]=>none
 |[a]=>if okT a then f a else none
 |a::b::r=>if okT a then(f a).bind fun m=>(cOr f (b::r)).map fun l=> .or m l else none
noncomputable def isGl(N:List Str)(sc:Scope)(x:Str):Bool:=okN x&&(nIdx N x).isNone&&decide (sc.names.lookup x=some .globalImplicit)
noncomputable def cB(g:Str→Bool)(f:Expr→Option E)(x:Str):List Expr→Option E
 |[a]=>
  if x==("len":Str)then(f a).map (.un .len)
  else if x==("list":Str)then(match a with
   | .Call (.Name y _) [b] [] _=>if g y&&(y==("range":Str))&&okE b then(f b).map (.un .lrng)else(f a).map (.un .list)
   |_=>(f a).map (.un .list))
  else if x==("str":Str)then(f a).map (.un .stri)
  else if x==("int":Str)then(f a).map (.un .inti)
  else if x==("all":Str)then(f a).map (.un .all)
  else none
 |[a,b]=>
  if x==("min":Str)then(f a).bind fun m=>(f b).map fun l=> .mn m l
  else if x==("max":Str)then(f a).bind fun m=>(f b).map fun l=> .mx m l
  else if x==("isinstance":Str)then(match b with
   | .Name t _=>if g t then(tyCode t).bind fun k=>(f a).map fun m=> .isi m k else none
   |_=>none)
  else none
 |_=>none
noncomputable def cI(tt:Bool)(g:Str→Bool)(own:Str→Bool)(f:Expr→Option E)(e:Expr):Option E:=match e with
 | .Call (.Name x _) [a] [] _=>
   if g x&& !own x&&(x==("range":Str))&&okE a then(f a).map .rng
   else noR (f e)
 |_=>noR (f e)
noncomputable def frees(names:List (Str×NameKind)):List Str:=names.filterMap fun y=>if y.2=.free then some y.1 else none
noncomputable def slotsOf(N:List Str):List Str→Option (List Nat)
 |[]=>some []
 |x::r=>(nIdx N x).bind fun i=>(slotsOf N r).map fun l=>i::l
noncomputable def compOk(sc:Scope)(N:List Str)(scope:Scope)(x:Str)(fr:List Str)(is:List Nat):Bool:=
 decide (scope.kind=.function∧(∀y∈scope.names,y.2≠.cell)∧(∀y∈scope.names,y.2=.local→scope.names.lookup y.1=some .local)∧scope.names.lookup x=some .local∧(x::fr).Nodup∧
  (∀y∈scope.names,y.2=.free→sc.names.lookup y.1=some .cell∨sc.names.lookup y.1=some .free)∧(∀n∈fr,scope.names.lookup n=some .free)∧(is.map fun k=>N[k]?)=fr.map some)
theorem compOk_ok{sc:Scope}{N:List Str}{scope:Scope}{x:Str}{fr:List Str}{is:List Nat}(h:compOk sc N scope x fr is=true):CompScope sc N scope x fr is:=by
 obtain⟨h1,h2,h3,h4,h5,h6,h7,h8⟩:=odt h
 exact⟨h1,h2,h3,h4,h5,h6,h7,h8⟩
noncomputable def cOpt(f:Expr→Option E):Option Expr→Option E
 |none=>some .nil
 |some e=>if okE e then(f e).bind fun m=>if isNil m then none else some m else none
noncomputable def cIfs(f:Expr→Option E):List Expr→Option E
 |[]=>some .nil
 |[t]=>if okT t then(f t).bind fun m=>if isNil m then none else some m else none
 |_=>none
noncomputable def cNa(c:CC)(N:List Str)(sc:Scope)(x:Str):Option E:=if okN x then(match nIdx N x with
 |some i=>some (.var i)
 |none=>if sc.names.lookup x=some .globalImplicit then(match c.gi.lookup x with
  |some i=>some (.int i)
  |none=>(GS.lookup x).map .str)else none)else none
noncomputable def cCo:Const→Option E
 | .int i=>some (.int i)
 | .bool b=>some (.bl b)
 | .none=>some .non
 | .str x=>some (.str x)
 |_=>none
noncomputable def cUn(r:Expr→Option E)(a:Expr):UnaryOp→Option E
 | .USub=>(r a).map (.un .neg)
 | .Not=>if okT a then(r a).map .not else none
 |_=>none
noncomputable def cCm(r:Expr→Option E)(a:Expr):List CmpOp→List Expr→Option E
 |[op],[b]=>if okE b then(r a).bind fun m=>(r b).map fun l=> .cmp op m l else none
 |[op,op'],[b,d]=>if okE b&&okE d then(r a).bind fun m=>(r b).bind fun l=>(r d).map fun k=> .ch op op' m l k else none
 |_,_=>none
noncomputable def cBo(r:Expr→Option E)(vs:List Expr):BoolOp→Option E
 | .And=>if 2≤vs.length then cAnd r vs else none
 | .Or=>if 2≤vs.length then cOr r vs else none
noncomputable def cCn(c:CC)(N:List Str)(sc:Scope)(r:Expr→Option E)(x:Str)(args:List Expr):Option E:=if args.all okE&&isGl N sc x then(match c.tab.lookup x with
 |some f=>(cList r args).map (.call f)
 |none=>cB (fun y=>isGl N sc y&&(c.tab.lookup y).isNone) r x args)else none
noncomputable def nmOf:Expr→Option Str
 | .Name x _=>some x
 |_=>none
noncomputable def isBm(apos cpos:Pos):Bool:=apos.endLine==cpos.line
noncomputable def cTx(r:Expr→Option E)(pos:Pos):Expr→List Expr→Option E
 | .Attribute (.Constant (.str z) _ _) m apos,[a]=>if(z==BLK)&&(m==("join":Str))&&okE a&&isBm apos pos then(r a).map (.un .joi)else none
 | .Attribute (.Name x p) m apos,[.Constant (.str z) _ _]=>if isBm apos pos then(if(m==("split":Str))&&(z==BLK)then(r (.Name x p)).map (.un .spl)else if(m==("strip":Str))&&(z==FIG)then(r (.Name x p)).map (.un .stp)else none)else none
 |_,_=>none
noncomputable def cSne(g:Str→Bool)(r:Expr→Option E):Expr→List CmpOp→List Expr→Option E
 | .Call (.Name y _) [x] [] _,[.NotEq],[b]=>if g y&&(y==("sorted":Str))&&okE x&&okE b then(r x).bind fun m=>(r b).map fun l=> .sne m l else none
 |_,_,_=>none
noncomputable def cCa(c:CC)(N:List Str)(sc:Scope)(r:Expr→Option E)(pos:Pos)(f:Expr)(args:List Expr):List Keyword→Option E
 |[]=>(match nmOf f with
  |some x=>cCn c N sc r x args
  |none=>cTx r pos f args)
 |_=>none
noncomputable def cSl(r:Expr→Option E)(m:E)(lo hi:Option Expr):Option Expr→Option E
 |none=>(cOpt r lo).bind fun ml=>(cOpt r hi).map fun mh=> .cut m ml mh
 |some _=>none
noncomputable def cSu(r:Expr→Option E)(m:E)(e:Expr):Option E:=match e with
 | .Slice lo hi st _=>cSl r m lo hi st
 |_=>if okE e then(r e).map fun l=> .idx m l else none
noncomputable def cLc(c:CC)(N:List Str)(sc:Scope)(r:Expr→Option E)(q:List Str→Expr→Option E)(elt:Expr)(scope:Scope):List Comprehension→Option E
 |[⟨.Name x _,iter,ifs,0⟩]=>
  if okE iter then(slotsOf N (frees scope.names)).bind fun is=>if compOk sc N scope x (frees scope.names) is then
   (cI false (isGl N sc) (fun y=>(c.tab.lookup y).isSome) r iter).bind fun mi=>
   (q (x::frees scope.names) elt).bind fun me=>(cIfs (q (x::frees scope.names)) ifs).map fun mc=> .comp me is mi mc
  else none else none
 |_=>none
noncomputable def cE(c:CC):Nat→Bool→List Str→Scope→Expr→Option E
 |0,_,_,_,_=>none
 |n+1,top,N,sc,e=>match e with
  | .Name x _=>cNa c N sc x
  | .Constant k _ _=>cCo k
  | .BinOp a op b _=>(cE c n top N sc a).bind fun m=>(cE c n top N sc b).map fun l=> .bin op m l
  | .UnaryOp op a _=>cUn (cE c n top N sc) a op
  | .Compare a ops bs _=>(match cSne (fun y=>isGl N sc y&&(c.tab.lookup y).isNone) (cE c n top N sc) a ops bs with
    |some m=>some m
    |none=>cCm (cE c n top N sc) a ops bs)
  | .BoolOp op vs _=>cBo (cE c n top N sc) vs op
  | .IfExp t a b _=>if okT t then(cE c n top N sc t).bind fun k=>(cE c n top N sc a).bind fun m=>(cE c n top N sc b).map fun l=> .ite k m l else none
  | .Call f args ks pos=>cCa c N sc (cE c n top N sc) pos f args ks
  | .Subscript a b _=>(cE c n top N sc a).bind fun m=>cSu (cE c n top N sc) m b
  | .List es _=>if es.all okE then(cList (cE c n top N sc) es).map .lst else none
  | .Tuple es _ _=>if es.all okE then(cList (cE c n top N sc) es).map .tup else none
  | .ListComp elt gs scope _=>if top then cLc c N sc (cE c n top N sc) (fun N' e=>cE c n false N' scope e) elt scope gs else none
  |_=>none
def EnvD(K:W.Frag)(cl:Nat→Option Addr)(G:Hp)(env:Env)(σ:St):Prop:=∀(i:Nat) (d:D),env[i]?=some (some d)→∃v,σ[i]?=some (some v)∧Dn K cl G v d
theorem EnvD.mono{K:W.Frag}{cl:Nat→Option Addr}{G G':Hp}{env:Env}{σ:St}(h:EnvD K cl G env σ)(e:Same G G'):EnvD K cl G' env σ:=fun i d q=>let ⟨v,a,b⟩:=h i d q;⟨v,a,b.mono e⟩
theorem EnvD.inner{K:W.Frag}{cl:Nat→Option Addr}{G:Hp}{env:Env}{σ:St}(h:EnvD K cl G env σ){d:D}{v:V}(hv:Dn K cl G v d)(is:List Nat):EnvD K cl G (inner env is d) (compSt σ is (some v)):=by
 intro i e q
 cases i with
 |zero=>
  have q':some (some d)=some (some e):=q
  cases q'
  exact⟨v,rfl,hv⟩
 |succ i=>
  have q':(is.map fun k=>(env[k]?).join)[i]?=some (some e):=q
  rw [List.getElem?_map]at q'
  cases hk:is[i]? with
  |none=>rw [hk]at q';cases q'
  |some k=>
   rw [hk]at q'
   have q2:(env[k]?).join=some e:=Option.some.inj q'
   have q3:env[k]?=some (some e):=by
    cases z:env[k]? with
    |none=>rw [z]at q2;cases q2
    |some o=>rw [z]at q2;rw [show o=some e from q2]
   obtain⟨u,h1,h2⟩:=h k e q3
   refine⟨u,?_,h2⟩
   show(is.map fun k=>(σ[k]?).join)[i]?=some (some u)
   rw [List.getElem?_map,hk]
   show some ((σ[k]?).join)=_
   rw [h1];rfl
section
variable(K:W.Frag)(cl:Nat→Option Addr)(Γ:Tab)
noncomputable def tV(m:E):TE:=fun σ H Q=>∃G env d,Same G H∧EnvD K cl G env σ∧ev Γ m env=some d∧∀v H' G',Ext H G H' G'→Dn K cl G' v d→Q v H'
noncomputable def tVs(m:E):TA:=fun σ H Q=>∃G env l,Same G H∧EnvD K cl G env σ∧evs Γ m env=some l∧∀vs H' G',Ext H G H' G'→Dns K cl G' vs l→Q vs H'
noncomputable def tVT(m:E):TT:=fun σ H Q=>∃G env b,Same G H∧EnvD K cl G env σ∧evB Γ m env=some b∧∀H' G',Ext H G H' G'→Q b H'
noncomputable def tVO(m:E):TO:=fun σ H Q=>∃G env o,Same G H∧EnvD K cl G env σ∧optS m (ev Γ m env)=some o∧∀H' G',Ext H G H' G'→Q o H'
def Wk(J:It)(G:Hp)(ds:List D):Prop:=∀(H G2:Hp) (i:Nat),Same G G2→Same G2 H→(i=ds.length→J.stop i H)∧∀d,ds[i]?=some d→J.go i H∧∀v H',J.yld i H v H'→∃G3,Ext H G2 H' G3∧Dn K cl G3 v d
noncomputable def tI(m:E):TI:=fun σ H R=>∃G env ds,Same G H∧EnvD K cl G env σ∧its Γ m env=some ds∧∀J H' G',Ext H G H' G'→Wk K cl J G' ds→(isRng m=true→∀G2,Wk K cl J G2 ds)→R J H'
end
theorem peI{X:Cx}{e:Expr}{t t':TE}(h:PE X e t)(i:∀σ H Q,t' σ H Q→t σ H Q):PE X e t':=fun pins s σ H Q I q=>h pins s σ H Q I (i σ H Q q)
theorem ptI{X:Cx}{e:Expr}{t t':TT}(h:PT X e t)(i:∀σ H Q,t' σ H Q→t σ H Q):PT X e t':=fun pins s σ H Q I q=>h pins s σ H Q I (i σ H Q q)
theorem pwI{X:Cx}{e:Expr}{t t':TT}(h:PW X e t)(i:∀σ H Q,t' σ H Q→t σ H Q):PW X e t':=fun w pins s σ H Q I q=>h w pins s σ H Q I (i σ H Q q)
theorem paI{X:Cx}{e:List Expr}{t t':TA}(h:PA X e t)(i:∀σ H Q,t' σ H Q→t σ H Q):PA X e t':=fun p pins s σ H Q I q=>h p pins s σ H Q I (i σ H Q q)
theorem piI{X:Cx}{tg e:Expr}{t t':TI}(h:PI X tg e t)(i:∀σ H Q,t' σ H Q→t σ H Q):PI X tg e t':=fun pins s σ H Q I q=>h pins s σ H Q I (i σ H Q q)
noncomputable def spM(K:W.Frag)(cl:Nat→Option Addr)(C:Addr)(g:List D→Option T):Sp:=fun vs H' Q _=>∃H G x dx vs' ds t,vs=.ref x::vs'∧H x=none∧H dx=none∧dx≠x∧H'=upd (upd H dx (.own x)) x (.ins C dx [])∧Same G H∧Dns K cl G vs' ds∧g ds=some t∧
 ∀H2 G2 A,Ext H G H2 G2→OT K cl G2 H2 (.ref x) t A→A.Nodup→(∀a∈A,H a=none)→Q .non H2
structure GoodCall(X:Cx)(cl:Nat→Option Addr)(x:Str)(g:List D→Option T):Prop where
 ex:(∃k fa fd ps,FnOk X.prog X.w X.K X.mg X.base CX0 k fa fd ps (spP X.K cl g)∧Room k X.A∧X.mg x=some (.ref fa)∧W.keepIn X.K (.ref fa)=true∧Binds X.K fd ps [])∨
  ∃k C f fd ps,Mk X.K C f∧FnOk X.prog X.w X.K X.mg X.base CX0 k f fd ps (spM X.K cl C g)∧Room (k+1) X.A∧X.mg x=some (.ref C)∧Binds X.K fd ps []
structure GoodMeth(X:Cx)(cl:Nat→Option Addr)(C:Addr)(m:Str)(g:List D→Option T):Prop where
 ex:∃k f fd ps,Meth X.K C m f∧FnOk X.prog X.w X.K X.mg X.base CX0 k f fd ps (spP X.K cl g)∧Room k X.A∧Binds X.K fd ps []
structure ClsT(K:W.Frag)(C:Addr):Prop where
 ha:W.findIn K (.ref C) "__class__"=some (some (.builtin "object.__class__"))
 hn:W.specialIn K (.builtin "object.__class__") "__get__"=some (some (.builtin "getset_descriptor.__get__"))
 htk:W.takesIn K (.builtin "object.__class__")=some true
 hm:W.mroIn K C (.type "object")=some true
def ClsOk(K:W.Frag)(cl:Nat→Option Addr):Prop:=(∀k C,cl k=some C→Cls K C∧(∀f∈FLD,NoAttr K C f)∧ClsT K C)∧∀i I j J,cl i=some I→cl j=some J→W.kitOne K (.ref I) (.ref J)=some (subC i j)
structure Sees(X:Cx)(cl:Nat→Option Addr)(c:CC)(Γ:Tab)(top:Bool)(N:List Str)(sc:Scope):Prop where
 hN:X.N=N
 vis:∀(i:Nat) (x:Str),N[i]?=some x→Vis X.env.scope x
 gl:∀x,sc.names.lookup x=some .globalImplicit→Gl X x
 tp:top=true→X.env.scope=sc
 calm:X.calm=true
 hu:X.A.units+64<cLine
 blt:∀x∈BLT,X.mg x=none
 fn:∀x f g,c.tab.lookup x=some f→Γ f=some g→GoodCall X cl x g
 gi:∀x i,c.gi.lookup x=some i→∃t,X.mg x=some (.int i t)
 cls:ClsOk X.K cl
 mth:∀c C k m g,MTH[k]?=some m→cl c=some C→Γ (mid c k)=some g→GoodMeth X cl C m g
 cn:∀x j,c.cn.lookup x=some j→∃J,cl j=some J∧X.mg x=some (.ref J)
 fv:∀x z,GS.lookup x=some z→∃t,X.mg x=some (.str z t)
section
variable{K:W.Frag}{cl:Nat→Option Addr}{Γ:Tab}{a b m:E}{σ:St}{H:Hp}{Q:VK}
theorem tV2{g:D→D→Option D}(h:∀env,ev Γ m env=(ev Γ a env).bind fun x=>(ev Γ b env).bind fun y=>g x y):tV K cl Γ m σ H Q→tOp (rD K cl g) (tV K cl Γ a) (tV K cl Γ b) σ H Q:=by
 rintro ⟨G,env,d,sg,en,e,q⟩
 rw [h]at e
 obtain⟨x,ex,e⟩:=bsi e
 obtain⟨y,ey,e⟩:=bsi e
 exact⟨G,env,x,sg,en,ex,fun v H1 G1 e1 d1=>⟨G1,env,y,e1.gh,en.mono e1.gg,ey,fun u H2 G2 e2 d2=>⟨G2,x,y,d,e2.gh,d1.mono e2.gg,d2,e,fun z H3 G3 e3 d3=>q z H3 G3 ((e1.trans e2).trans e3) d3⟩⟩⟩
theorem tV1{g:D→Option D}(h:∀env,ev Γ m env=(ev Γ a env).bind g):tV K cl Γ m σ H Q→tUn (rD1 K cl g) (tV K cl Γ a) σ H Q:=by
 rintro ⟨G,env,d,sg,en,e,q⟩
 rw [h]at e
 obtain⟨x,ex,e⟩:=bsi e
 exact⟨G,env,x,sg,en,ex,fun v H1 G1 e1 d1=>⟨G1,x,d,e1.gh,d1,e,fun z H3 G3 e3 d3=>q z H3 G3 (e1.trans e3) d3⟩⟩
theorem tVB1{g:D→Option D}(h:∀env,ev Γ m env=(ev Γ a env).bind g):tV K cl Γ m σ H Q→tCB (rDs K cl (one g)) (tCons (tV K cl Γ a) tNil) σ H Q:=by
 rintro ⟨G,env,d,sg,en,e,q⟩
 rw [h]at e
 obtain⟨x,ex,e⟩:=bsi e
 exact⟨G,env,x,sg,en,ex,fun v H1 G1 e1 d1=>⟨G1,[x],d,e1.gh,.cons d1 .nil,e,fun z H3 G3 e3 d3=>q z H3 G3 (e1.trans e3) d3⟩⟩
theorem tVB2{g:D→D→Option D}(h:∀env,ev Γ m env=(ev Γ a env).bind fun x=>(ev Γ b env).bind fun y=>g x y):tV K cl Γ m σ H Q→tCB (rDs K cl (two g)) (tCons (tV K cl Γ a) (tCons (tV K cl Γ b) tNil)) σ H Q:=by
 rintro ⟨G,env,d,sg,en,e,q⟩
 rw [h]at e
 obtain⟨x,ex,e⟩:=bsi e
 obtain⟨y,ey,e⟩:=bsi e
 exact⟨G,env,x,sg,en,ex,fun v H1 G1 e1 d1=>⟨G1,env,y,e1.gh,en.mono e1.gg,ey,fun u H2 G2 e2 d2=>⟨G2,[x,y],d,e2.gh,.cons (d1.mono e2.gg) (.cons d2 .nil),e,fun z H3 G3 e3 d3=>q z H3 G3 ((e1.trans e2).trans e3) d3⟩⟩⟩
end
theorem cmpD_bl{op:CmpOp}{x y d:D}(h:cmpD op x y=some d):∃b,d=.bl b:=by
 unfold cmpD at h
 split at h
 all_goals first
  |(cases h;exact⟨_,rfl⟩)
  |(cases h;done)
  |(obtain⟨c,_,rfl⟩:=msi h;exact⟨_,rfl⟩)
  |(split at h<;>cases h;exact⟨_,rfl⟩)
theorem star_of{e:Expr}(h:okE e=true)(es:List Expr)(env:PySem.Env):starEach (e::es) env=(false,eval e env)::starEach es env:=by
 cases e<;>first|rfl|cases h
theorem star_any{es:List Expr}(h:es.all okE=true)(pos:Pos)(env:PySem.Env):(backTo pos (starEach es env)).any (·.1)=false:=by
 induction es with
 |nil=>rfl
 |cons e r ih=>
  rw [List.all_cons,Bool.and_eq_true]at h
  rw [star_of h.1]
  show(false||(backTo pos (starEach r env)).any (·.1))=false
  rw [ih h.2];rfl
theorem few_ok{es:List Expr}(h:es.all okE=true)(pos:Pos)(env:PySem.Env)(hl:es.length<30):((backTo pos (starEach es env)).all (fun x=> !x.1)&&(backToKw pos (keywordEach [] env)).all (fun x=>x.1.isSome)&&decide (es.length+([]:List Keyword).length+(if([]:List Keyword).isEmpty then 0 else 1)<30))=true:=by
 have h1:(backTo pos (starEach es env)).all (fun x=> !x.1)=true:=by
  have:=star_any h pos env
  rw [List.all_eq_true]
  intro x hx
  have:=List.any_eq_false.mp this x hx
  simpa using this
 rw [h1]
 simp [backToKw,keywordEach]
 exact hl
theorem okN_ok{x:Str}(h:okN x=true):(x==("__debug__":Str))=false∧(x==("__classdict__":Str))=false∧x≠"__name__":=by
 unfold okN at h
 rw [Bool.and_eq_true,Bool.and_eq_true]at h
 refine⟨by simpa using h.1.1,by simpa using h.1.2,?_⟩
 have h3:=h.2
 intro e
 subst e
 simp at h3
theorem isGl_ok{N:List Str}{sc:Scope}{x:Str}(h:isGl N sc x=true):okN x=true∧sc.names.lookup x=some .globalImplicit:=by
 unfold isGl at h
 rw [Bool.and_eq_true,Bool.and_eq_true]at h
 exact⟨h.1.1,odt h.2⟩
theorem bt_str:bootBuiltins "str"=some (.type "str"):=by decide+kernel
theorem bt_int:bootBuiltins "int"=some (.type "int"):=by decide+kernel
theorem bt_len:bootBuiltins "len"=some (.builtin "len"):=by decide+kernel
theorem bt_list:bootBuiltins "list"=some (.type "list"):=by decide+kernel
theorem bt_range:bootBuiltins "range"=some (.type "range"):=by decide+kernel
theorem bt_sorted:bootBuiltins "sorted"=some (.builtin "sorted"):=by decide+kernel
theorem bt_any:bootBuiltins "any"=some (.builtin "any"):=by decide+kernel
theorem bt_all:bootBuiltins "all"=some (.builtin "all"):=by decide+kernel
theorem bt_min:bootBuiltins "min"=some (.builtin "min"):=by decide+kernel
theorem bt_max:bootBuiltins "max"=some (.builtin "max"):=by decide+kernel
theorem bt_isinstance:bootBuiltins "isinstance"=some (.builtin "isinstance"):=by decide+kernel
theorem tyCode_ok{x:Str}{k:Nat}(h:tyCode x=some k):x∈BLT∧bootBuiltins x=some (.type (tyS k)):=by
 unfold tyCode at h
 split at h
 ·rename_i e;cases h;rw [show x="int" by simpa using e];exact⟨by decide+kernel,by decide+kernel⟩
 split at h
 ·rename_i e;cases h;rw [show x="bool" by simpa using e];exact⟨by decide+kernel,by decide+kernel⟩
 split at h
 ·rename_i e;cases h;rw [show x="list" by simpa using e];exact⟨by decide+kernel,by decide+kernel⟩
 split at h
 ·rename_i e;cases h;rw [show x="tuple" by simpa using e];exact⟨by decide+kernel,by decide+kernel⟩
 split at h
 ·rename_i e;cases h;rw [show x="str" by simpa using e];exact⟨by decide+kernel,by decide+kernel⟩
 ·cases h
section
variable{X:Cx}{cl:Nat→Option Addr}{Γ:Tab}
theorem pt_of{e:Expr}{m:E}(he:∀whole,isTrue e X.env whole=(do let v←whole;standAt e.pos;holding [v] (truthy v)))(h:PE X e (tV X.K cl Γ m)):PT X e (tVT X.K cl Γ m):=by
 refine ptI (pt_truth h he) fun σ H Q ⟨G,env,b,sg,en,e,q⟩=> ?_
 obtain⟨d,e1,e2⟩:=bsi e
 refine⟨G,env,d,sg,en,e1,fun v H' G' ex dv=> ?_⟩
 cases d with
 |bl c=>cases e2;cases dv;exact⟨b,rfl,q H' G' ex⟩
 |int c=>cases e2;cases dv;exact⟨_,rfl,q H' G' ex⟩
 |_=>cases e2
abbrev Both(X:Cx)(cl:Nat→Option Addr)(Γ:Tab)(e:Expr)(m:E):Prop:=PE X e (tV X.K cl Γ m)∧(okT e=true→PT X e (tVT X.K cl Γ m))
theorem clist_ok{f:Expr→Option E}:∀ {es:List Expr} {m:E},(∀e∈es,∀m,f e=some m→PE X e (tV X.K cl Γ m))→es.all okE=true→cList f es=some m→PA X es (tVs X.K cl Γ m)
 |[],m,_,_,h=>by
  cases h
  refine paI pa_nil fun σ H Q ⟨G,env,l,sg,en,e,q⟩=> ?_
  have e':(some []:Option (List D))=some l:=e
  cases e'
  exact q [] H G (Ext.refl sg) .nil
 |e::r,m,ih,ok,h=>by
  rw [List.all_cons,Bool.and_eq_true]at ok
  obtain⟨ma,h1,h⟩:=bsi h
  obtain⟨mr,h2,rfl⟩:=msi h
  refine paI (pa_cons (ih e (by simp) ma h1) (clist_ok (fun e he=>ih e (by simp [he])) ok.2 h2) (star_of ok.1 _ _)) fun σ H Q ⟨G,env,l,sg,en,e,q⟩=> ?_
  obtain⟨d,e1,e2⟩:=bsi e
  obtain⟨x,ex,e1⟩:=bsi (show(ev Γ ma env).bind (fun x=>(ev Γ mr env).bind fun y=>consD x y)=some d from e1)
  obtain⟨y,ey,e1⟩:=bsi e1
  cases y with
  |lst l'=>
   cases e1
   cases e2
   exact⟨G,env,x,sg,en,ex,fun v H1 G1 x1 d1=>⟨G1,env,l',x1.gh,en.mono x1.gg,by unfold evs;rw [ey];rfl,fun vs H2 G2 x2 d2=>q _ H2 G2 (x1.trans x2) (.cons (d1.mono x2.gg) d2)⟩⟩
  |_=>cases e1
theorem cand_ok{f:Expr→Option E}{pos:Pos}:∀ {es:List Expr} {m:E},(∀e∈es,∀m,f e=some m→Both X cl Γ e m)→cAnd f es=some m→PE X (.BoolOp .And es pos) (tV X.K cl Γ m)∧PW X (.BoolOp .And es pos) (tVT X.K cl Γ m)
 |[],m,_,h=>by cases h
 |[a],m,ih,h=>by
  have h':(if okT a then f a else none)=some m:=h
  split at h'
  ·rename_i ok
   have b:=ih a (by simp) m h'
   exact⟨pe_one b.1,pw_and1 (b.2 ok)⟩
  ·cases h'
 |a::b::r,m,ih,h=>by
  have h':(if okT a then(f a).bind fun m=>(cAnd f (b::r)).map fun l=> .and m l else none)=some m:=h
  split at h'
  ·rename_i ok
   obtain⟨ma,h1,h'⟩:=bsi h'
   obtain⟨mr,h2,rfl⟩:=msi h'
   have ba:=ih a (by simp) ma h1
   obtain⟨p1,p2⟩:=cand_ok (pos:=pos) (fun e he=>ih e (by simp [he])) h2
   constructor
   ·refine peI (pe_and ba.1 p1) fun σ H Q ⟨G,env,d,sg,en,e,q⟩=> ?_
    obtain⟨x,ex,e⟩:=bsi (show(ev Γ ma env).bind (fun x=>ifB x (ev Γ mr env) (some (.bl false)))=some d from e)
    refine⟨G,env,x,sg,en,ex,fun v H1 G1 x1 d1=> ?_⟩
    cases x with
    |bl c=>
     cases d1
     refine⟨c,rfl,?_⟩
     cases c with
     |true=>exact iteT ⟨G1,env,d,x1.gh,en.mono x1.gg,e,fun v H2 G2 x2 d2=>q v H2 G2 (x1.trans x2) d2⟩
     |false=>cases e;exact iteF (q _ H1 G1 x1 (.bl _))
    |_=>cases e
   ·refine pwI (pw_and (ba.2 ok) p2) fun σ H Q ⟨G,env,t,sg,en,e,q⟩=> ?_
    obtain⟨d,e,e'⟩:=bsi e
    obtain⟨x,ex,e⟩:=bsi (show(ev Γ ma env).bind (fun x=>ifB x (ev Γ mr env) (some (.bl false)))=some d from e)
    cases x with
    |bl c=>
     refine⟨G,env,c,sg,en,by unfold evB;rw [ex];rfl,fun H1 G1 x1=> ?_⟩
     cases c with
     |true=>exact iteT ⟨G1,env,t,x1.gh,en.mono x1.gg,by unfold evB;rw [show ev Γ mr env=some d from e];exact e',fun H2 G2 x2=>q H2 G2 (x1.trans x2)⟩
     |false=>cases e;cases e';exact iteF (q H1 G1 x1)
    |_=>cases e
  ·cases h'
theorem cor_ok{f:Expr→Option E}{pos:Pos}:∀ {es:List Expr} {m:E},(∀e∈es,∀m,f e=some m→Both X cl Γ e m)→cOr f es=some m→PE X (.BoolOp .Or es pos) (tV X.K cl Γ m)∧PW X (.BoolOp .Or es pos) (tVT X.K cl Γ m)
 |[],m,_,h=>by cases h
 |[a],m,ih,h=>by
  have h':(if okT a then f a else none)=some m:=h
  split at h'
  ·rename_i ok
   have b:=ih a (by simp) m h'
   exact⟨pe_one b.1,pw_or1 (b.2 ok)⟩
  ·cases h'
 |a::b::r,m,ih,h=>by
  have h':(if okT a then(f a).bind fun m=>(cOr f (b::r)).map fun l=> .or m l else none)=some m:=h
  split at h'
  ·rename_i ok
   obtain⟨ma,h1,h'⟩:=bsi h'
   obtain⟨mr,h2,rfl⟩:=msi h'
   have ba:=ih a (by simp) ma h1
   obtain⟨p1,p2⟩:=cor_ok (pos:=pos) (fun e he=>ih e (by simp [he])) h2
   constructor
   ·refine peI (pe_or ba.1 p1) fun σ H Q ⟨G,env,d,sg,en,e,q⟩=> ?_
    obtain⟨x,ex,e⟩:=bsi (show(ev Γ ma env).bind (fun x=>ifB x (some (.bl true)) (ev Γ mr env))=some d from e)
    refine⟨G,env,x,sg,en,ex,fun v H1 G1 x1 d1=> ?_⟩
    cases x with
    |bl c=>
     cases d1
     refine⟨c,rfl,?_⟩
     cases c with
     |false=>exact iteF ⟨G1,env,d,x1.gh,en.mono x1.gg,e,fun v H2 G2 x2 d2=>q v H2 G2 (x1.trans x2) d2⟩
     |true=>cases e;exact iteT (q _ H1 G1 x1 (.bl _))
    |_=>cases e
   ·refine pwI (pw_or (ba.2 ok) p2) fun σ H Q ⟨G,env,t,sg,en,e,q⟩=> ?_
    obtain⟨d,e,e'⟩:=bsi e
    obtain⟨x,ex,e⟩:=bsi (show(ev Γ ma env).bind (fun x=>ifB x (some (.bl true)) (ev Γ mr env))=some d from e)
    cases x with
    |bl c=>
     refine⟨G,env,c,sg,en,by unfold evB;rw [ex];rfl,fun H1 G1 x1=> ?_⟩
     cases c with
     |false=>exact iteF ⟨G1,env,t,x1.gh,en.mono x1.gg,by unfold evB;rw [show ev Γ mr env=some d from e];exact e',fun H2 G2 x2=>q H2 G2 (x1.trans x2)⟩
     |true=>cases e;cases e';exact iteT (q H1 G1 x1)
    |_=>cases e
  ·cases h'
theorem ccmp_ok(hu:X.A.units+64<cLine){op:CmpOp}{a b:Expr}{ma mb:E}{pos:Pos}(ha:PE X a (tV X.K cl Γ ma))(hb:PE X b (tV X.K cl Γ mb))(ok:okE b=true):Both X cl Γ (.Compare a [op] [b] pos) (.cmp op ma mb):=by
 have hm:behindInMarks op b=false:=by cases b<;>first|rfl|cases ok
 refine⟨peI (pe_cmpR (op_cmp (cl:=cl) hu op) ha hb hm) fun σ H Q h=>tV2 (fun _=>rfl) h,fun _=>ptI (pt_cmpR (op_cmp (cl:=cl) hu op) ha hb hm) fun σ H Q ⟨G,env,t,sg,en,e,q⟩=> ?_⟩
 obtain⟨d,e,e'⟩:=bsi e
 refine tV2 (m:=.cmp op ma mb) (fun _=>rfl) ⟨G,env,d,sg,en,e,fun v H' G' x dv=> ?_⟩
 obtain⟨x,_,e⟩:=bsi (show(ev Γ ma env).bind (fun x=>(ev Γ mb env).bind fun y=>cmpD op x y)=some d from e)
 obtain⟨y,_,e⟩:=bsi e
 obtain⟨c,rfl⟩:=cmpD_bl e
 cases e'
 cases dv
 exact⟨t,rfl,q H' G' ‹_›⟩
theorem cch_ok(hu:X.A.units+64<cLine){o1 o2:CmpOp}{a b d:Expr}{ma mb md:E}{pos:Pos}(ha:PE X a (tV X.K cl Γ ma))(hb:PE X b (tV X.K cl Γ mb))(hd:PE X d (tV X.K cl Γ md))(ok:okE d=true):Both X cl Γ (.Compare a [o1,o2] [b,d] pos) (.ch o1 o2 ma mb md):=by
 have hm:lastMarks [o1,o2] [b,d]=false:=by
  show behindInMarks o2 d=false
  cases d<;>first|rfl|cases ok
 have go:∀σ H (Q:VK),tV X.K cl Γ (.ch o1 o2 ma mb md) σ H Q→tChain (rD X.K cl (cmpD o1)) (rD X.K cl (cmpD o2)) (tV X.K cl Γ ma) (tV X.K cl Γ mb) (tV X.K cl Γ md) σ H Q:=by
  rintro σ H Q ⟨G,env,r,sg,en,e,q⟩
  obtain⟨x,ex,e⟩:=bsi (show(ev Γ ma env).bind (fun x=>(ev Γ mb env).bind fun y=>(cmpD o1 x y).bind fun z=>ifB z ((ev Γ md env).bind fun w=>cmpD o2 y w) (some (.bl false)))=some r from e)
  obtain⟨y,ey,e⟩:=bsi e
  obtain⟨z,ez,e⟩:=bsi e
  obtain⟨c,rfl⟩:=cmpD_bl ez
  refine⟨G,env,x,sg,en,ex,fun v H1 G1 x1 d1=>⟨G1,env,y,x1.gh,en.mono x1.gg,ey,fun u H2 G2 x2 d2=>⟨G2,x,y,.bl c,x2.gh,d1.mono x2.gg,d2,ez,fun w H3 G3 x3 d3=> ?_⟩⟩⟩
  cases d3
  refine⟨c,rfl,?_⟩
  cases c with
  |false=>cases e;exact iteF (q _ H3 G3 ((x1.trans x2).trans x3) (.bl _))
  |true=>
   obtain⟨w,ew,e⟩:=bsi (show(ev Γ md env).bind (fun w=>cmpD o2 y w)=some r from e)
   refine iteT ⟨G3,env,w,x3.gh,en.mono ((x1.gg.trans x2.gg).trans x3.gg),ew,fun u' H4 G4 x4 d4=>⟨G4,y,w,r,x4.gh,d2.mono (x3.gg.trans x4.gg),d4,e,fun z H5 G5 x5 d5=>q z H5 G5 ((((x1.trans x2).trans x3).trans x4).trans x5) d5⟩⟩
 refine⟨peI (pe_chain (op_cmp (cl:=cl) hu o1) (op_cmp (cl:=cl) hu o2) ha hb hd hm) go,fun _=>ptI (pt_chain (op_cmp (cl:=cl) hu o1) (op_cmp (cl:=cl) hu o2) ha hb hd hm) fun σ H Q ⟨G,env,t,sg,en,e,q⟩=> ?_⟩
 obtain⟨r,e,e'⟩:=bsi e
 refine go σ H _ ⟨G,env,r,sg,en,e,fun v H' G' x dv=> ?_⟩
 cases r with
 |bl c=>cases e';cases dv;exact⟨t,rfl,q H' G' ‹_›⟩
 |int i=>
  exfalso
  obtain⟨x,ex,e⟩:=bsi (show(ev Γ ma env).bind (fun x=>(ev Γ mb env).bind fun y=>(cmpD o1 x y).bind fun z=>ifB z ((ev Γ md env).bind fun w=>cmpD o2 y w) (some (.bl false)))=some (.int i)from e)
  obtain⟨y,ey,e⟩:=bsi e
  obtain⟨z,ez,e⟩:=bsi e
  obtain⟨c,rfl⟩:=cmpD_bl ez
  cases c with
  |false=>cases e
  |true=>
   obtain⟨w,ew,e⟩:=bsi (show(ev Γ md env).bind (fun w=>cmpD o2 y w)=some (.int i)from e)
   obtain⟨c,e⟩:=cmpD_bl e
   cases e
 |_=>cases e'
theorem pe_lstD{es:List Expr}{m:E}{pos:Pos}(h:PA X es (tVs X.K cl Γ m)):PE X (.List es pos) (tV X.K cl Γ (.lst m)):=by
 refine peI (pe_lst h) fun σ H Q ⟨G,env,d,sg,en,e,q⟩=> ?_
 obtain⟨l,e1,e⟩:=bsi (show(ev Γ m env).bind szL=some d from e)
 cases l with
 |lst l=>
  have e':(if sz l.length then some (D.lst l)else none)=some d:=e
  split at e'
  ·rename_i hz
   cases e'
   exact⟨G,env,l,sg,en,by unfold evs;rw [e1];rfl,fun vs H' G' x dv=>⟨sz_le (by rw [dv.length];exact hz),fun p hp=>endL x.gh (fun z H2 G2 x2 d2=>q z H2 G2 (x.trans x2) d2) hp dv⟩⟩
  ·cases e'
 |_=>cases e
theorem pe_tupD{es:List Expr}{m:E}{k:Nat}{pos:Pos}(h:PA X es (tVs X.K cl Γ m)):PE X (.Tuple es k pos) (tV X.K cl Γ (.tup m)):=by
 refine peI (pe_tup h) fun σ H Q ⟨G,env,d,sg,en,e,q⟩=> ?_
 obtain⟨l,e1,e⟩:=bsi (show(ev Γ m env).bind szT=some d from e)
 cases l with
 |lst l=>
  have e':(if sz l.length then some (D.tup l)else none)=some d:=e
  split at e'
  ·rename_i hz
   cases e'
   exact⟨G,env,l,sg,en,by unfold evs;rw [e1];rfl,fun vs H' G' x dv=>⟨sz_le (by rw [dv.length];exact hz),fun p hp=>endT x.gh (fun z H2 G2 x2 d2=>q z H2 G2 (x.trans x2) d2) hp dv⟩⟩
  ·cases e'
 |_=>cases e
theorem pe_iteD{t a b:Expr}{mt ma mb:E}{pos:Pos}(ht:PT X t (tVT X.K cl Γ mt))(ha:PE X a (tV X.K cl Γ ma))(hb:PE X b (tV X.K cl Γ mb)):PE X (.IfExp t a b pos) (tV X.K cl Γ (.ite mt ma mb)):=by
 refine peI (pe_ifExp ht ha hb) fun σ H Q ⟨G,env,d,sg,en,e,q⟩=> ?_
 obtain⟨c,e1,e⟩:=bsi (show((ev Γ mt env).bind truthD).bind (fun x=>if x then ev Γ ma env else ev Γ mb env)=some d from e)
 refine⟨G,env,c,sg,en,e1,fun H1 G1 x1=> ?_⟩
 cases c with
 |true=>exact iteT ⟨G1,env,d,x1.gh,en.mono x1.gg,e,fun v H2 G2 x2 d2=>q v H2 G2 (x1.trans x2) d2⟩
 |false=>exact iteF ⟨G1,env,d,x1.gh,en.mono x1.gg,e,fun v H2 G2 x2 d2=>q v H2 G2 (x1.trans x2) d2⟩
theorem pe_notD{a:Expr}{ma:E}{pos:Pos}(h:PE X a (tV X.K cl Γ ma)):PE X (.UnaryOp .Not a pos) (tV X.K cl Γ (.not ma)):=by
 refine peI (pe_not h) fun σ H Q ⟨G,env,d,sg,en,e,q⟩=> ?_
 obtain⟨x,e1,e⟩:=bsi (show(ev Γ ma env).bind notD=some d from e)
 refine⟨G,env,x,sg,en,e1,fun v H1 G1 x1 d1=> ?_⟩
 cases x with
 |bl c=>cases e;cases d1;exact⟨c,rfl,q _ H1 G1 x1 (.bl _)⟩
 |_=>cases e
theorem pt_notD{a:Expr}{ma:E}{pos:Pos}(h:PT X a (tVT X.K cl Γ ma)):PT X (.UnaryOp .Not a pos) (tVT X.K cl Γ (.not ma)):=by
 refine ptI (pt_not h) fun σ H Q ⟨G,env,t,sg,en,e,q⟩=> ?_
 obtain⟨d,e,e'⟩:=bsi e
 obtain⟨x,e1,e⟩:=bsi (show(ev Γ ma env).bind notD=some d from e)
 cases x with
 |bl c=>cases e;cases e';exact⟨G,env,c,sg,en,by unfold evB;rw [e1];rfl,fun H1 G1 x1=>q H1 G1 x1⟩
 |_=>cases e
theorem pe_isiD{a:Expr}{ma:E}{t:Str}{k:Nat}{p1 p2 pos:Pos}(h:PE X a (tV X.K cl Γ ma))(ok:okE a=true)(hg:Gl X "isinstance")(hm:X.mg "isinstance"=none)(gt:Gl X t)(mt:X.mg t=none)(tc:tyCode t=some k)(ot:okN t=true):
 PE X (.Call (.Name "isinstance" p1) [a,.Name t p2] [] pos) (tV X.K cl Γ (.isi ma k)):=by
 obtain⟨n1,n2,n3⟩:=okN_ok ot
 refine peI (pe_callB call_isinstR hg hm bt_isinstance (pa_cons h (pa_cons (pe_ty gt mt (tyCode_ok tc).2 n3 n1) pa_nil (by rfl)) (star_of ok _ _)) (by decide) (by decide) (star_of ok _ _) (by rfl)) fun σ H Q ⟨G,env,d,sg,en,e,q⟩=> ?_
 obtain⟨x,e1,e⟩:=bsi (show(ev Γ ma env).bind (fun x=>(isiB x k).map .bl)=some d from e)
 obtain⟨b,e2,rfl⟩:=msi e
 obtain⟨ty,e3,e4⟩:=isiB_ok e2
 refine⟨G,env,x,sg,en,e1,fun v H1 G1 x1 d1=> ?_⟩
 exact⟨v,_,_,b,rfl,tyD_ok d1 x1.gh e3,e4 _,q _ H1 G1 x1 (.bl _)⟩
theorem po_D{o:Option Expr}{m:E}{f:Expr→Option E}(ih:∀e,o=some e→∀m,f e=some m→PE X e (tV X.K cl Γ m))(h:cOpt f o=some m):PO X o (tVO X.K cl Γ m):=by
 cases o with
 |none=>
  cases h
  intro pins s σ H Q I ⟨G,env,o,sg,en,e,q⟩
  have e':(some none:Option (Option Int))=some o:=e
  cases e'
  exact po_none pins s σ H Q I (q H G (Ext.refl sg))
 |some a=>
  have h':(if okE a then(f a).bind fun m=>if isNil m then none else some m else none)=some m:=h
  split at h'
  ·obtain⟨m',h1,h2⟩:=bsi h'
   split at h2
   ·cases h2
   ·rename_i nn
    cases h2
    intro pins s σ H Q I ⟨G,env,o,sg,en,e,q⟩
    refine po_some (ih a rfl m h1) pins s σ H Q I ?_
    unfold optS at e
    rw [if_neg nn]at e
    split at e
    ·rename_i i ei
     cases e
     refine⟨G,env,_,sg,en,ei,fun v H' G' x dv=> ?_⟩
     cases dv
     exact⟨_,rfl,q H' G' x⟩
    ·cases e
  ·cases h'
theorem pe_cutD{a:Expr}{lo hi:Option Expr}{ma ml mh:E}{p2 pos:Pos}(ha:PE X a (tV X.K cl Γ ma))(hl:PO X lo (tVO X.K cl Γ ml))(hh:PO X hi (tVO X.K cl Γ mh)):PE X (.Subscript a (.Slice lo hi none p2) pos) (tV X.K cl Γ (.cut ma ml mh)):=by
 refine peI (pe_slice (sl_D (cl:=cl)) ha hl hh) fun σ H Q ⟨G,env,d,sg,en,e,q⟩=> ?_
 obtain⟨x,ex,e⟩:=bsi (show(ev Γ ma env).bind (fun x=>(optS ml (ev Γ ml env)).bind fun l=>(optS mh (ev Γ mh env)).bind fun h=>cutD x l h)=some d from e)
 obtain⟨l,el,e⟩:=bsi e
 obtain⟨h,eh,e⟩:=bsi e
 exact⟨G,env,x,sg,en,ex,fun v H1 G1 x1 d1=>⟨G1,env,l,x1.gh,en.mono x1.gg,el,fun H2 G2 x2=>⟨G2,env,h,x2.gh,en.mono (x1.gg.trans x2.gg),eh,fun H3 G3 x3=>⟨G3,x,d,x3.gh,d1.mono (x2.gg.trans x3.gg),e,fun z H4 G4 x4 d4=>q z H4 G4 (((x1.trans x2).trans x3).trans x4) d4⟩⟩⟩⟩
theorem pe_callT{x:Str}{g:List D→Option T}{e:Expr}{es:List Expr}{m:E}{p pos:Pos}(hg:Gl X x)(hd:(x==("__debug__":Str))=false)(F:GoodCall X cl x g)(ha:PA X (e::es) (tVs X.K cl Γ m))(ok:(e::es).all okE=true):
 PE X (.Call (.Name x p) (e::es) [] pos) (fun σ H Q=>∃G env l t,Same G H∧EnvD X.K cl G env σ∧evs Γ m env=some l∧g l=some t∧∀v H' G' A,Ext H G H' G'→OT X.K cl G' H' v t A→A.Nodup→(∀a∈A,H a=none)→Q v H'):=by
 rw [List.all_cons,Bool.and_eq_true]at ok
 rcases F.ex with⟨k,fa,fd,ps,F1,F2,F3,F4,F5⟩|⟨k,C,f,fd,ps,M,F1,F2,F3,F5⟩
 ·refine peI (pe_call F1 F2 hg F3 F4 F5 .nil pass0 ha hd (star_of ok.1 _ _) (star_any ok.2 _ _)) fun σ H Q ⟨G,env,l,t,sg,en,e,et,q⟩=> ?_
  refine⟨G,env,l,sg,en,e,fun vs H1 G1 x1 d1=> ?_⟩
  show spP X.K cl g (vs++[]) H1 Q E0
  rw [List.append_nil]
  exact⟨G1,l,t,x1.gh,d1,et,fun v H2 G2 A x2 o nd n=>q v H2 G2 A (x1.trans x2) o nd fun a ha=>x1.hh.free (n a ha)⟩
 ·refine peI (pe_make M F1 F2 hg F3 F5 .nil pass0 ha hd (star_of ok.1 _ _) (star_any ok.2 _ _)) fun σ H Q ⟨G,env,l,t,sg,en,e,et,q⟩=> ?_
  refine⟨G,env,l,sg,en,e,fun vs H1 G1 x1 d1 x dx hx hdx hne=> ?_⟩
  rw [List.append_nil]
  exact⟨H1,G1,x,dx,vs,l,t,rfl,hx,hdx,hne,rfl,x1.gh,d1,et,fun H2 G2 A x2 o nd n=>⟨rfl,q (.ref x) H2 G2 A (x1.trans x2) o nd fun a ha=>x1.hh.free (n a ha)⟩⟩
theorem pe_callT0{x:Str}{g:List D→Option T}{p pos:Pos}(hg:Gl X x)(hd:(x==("__debug__":Str))=false)(F:GoodCall X cl x g):
 PE X (.Call (.Name x p) [] [] pos) (fun σ H Q=>∃G env l t,Same G H∧EnvD X.K cl G env σ∧evs Γ .nil env=some l∧g l=some t∧∀v H' G' A,Ext H G H' G'→OT X.K cl G' H' v t A→A.Nodup→(∀a∈A,H a=none)→Q v H'):=by
 rcases F.ex with⟨k,fa,fd,ps,F1,F2,F3,F4,F5⟩|⟨k,C,f,fd,ps,M,F1,F2,F3,F5⟩
 ·refine peI (pe_call0 F1 F2 hg F3 F4 F5 .nil pass0 hd) fun σ H Q ⟨G,env,l,t,sg,en,e,et,q⟩=> ?_
  have e':some []=some l:=e
  cases e'
  exact⟨G,[],t,sg,.nil,et,q⟩
 ·refine peI (pe_make0 M F1 F2 hg F3 F5 .nil pass0 hd) fun σ H Q ⟨G,env,l,t,sg,en,e,et,q⟩=> ?_
  have e':some []=some l:=e
  cases e'
  intro x dx hx hdx hne
  exact⟨H,G,x,dx,[],[],t,rfl,hx,hdx,hne,rfl,sg,.nil,et,fun H2 G2 A x2 o nd n=>⟨rfl,q (.ref x) H2 G2 A x2 o nd n⟩⟩
theorem pe_callD0{x:Str}{f:Nat}{g:List D→Option T}{p pos:Pos}(hg:Gl X x)(hd:(x==("__debug__":Str))=false)(F:GoodCall X cl x g)(hf:Γ f=some g):PE X (.Call (.Name x p) [] [] pos) (tV X.K cl Γ (.call f .nil)):=by
 refine peI (pe_callT0 (Γ:=Γ) hg hd F) fun σ H Q ⟨G,env,d,sg,en,e,q⟩=> ?_
 have e':(Γ f).bind (fun g=>((ev Γ .nil env).bind listD).bind fun l=>(g l).map strip)=some d:=e
 rw [hf]at e'
 obtain⟨l,el,e'⟩:=bsi (show((ev Γ .nil env).bind listD).bind (fun l=>(g l).map strip)=some d from e')
 obtain⟨t,et,rfl⟩:=msi e'
 refine⟨G,env,l,t,sg,en,el,et,fun v H' G' A x o nd n=> ?_⟩
 obtain⟨G2,f,d⟩:=o.freeze x.gh nd
 exact q v H' G2 (f.ext x n) d
theorem pe_callD{x:Str}{f:Nat}{g:List D→Option T}{e:Expr}{es:List Expr}{m:E}{p pos:Pos}(hg:Gl X x)(hd:(x==("__debug__":Str))=false)(F:GoodCall X cl x g)(hf:Γ f=some g)(ha:PA X (e::es) (tVs X.K cl Γ m))(ok:(e::es).all okE=true):
 PE X (.Call (.Name x p) (e::es) [] pos) (tV X.K cl Γ (.call f m)):=by
 refine peI (pe_callT hg hd F ha ok) fun σ H Q ⟨G,env,d,sg,en,e,q⟩=> ?_
 have e':(Γ f).bind (fun g=>((ev Γ m env).bind listD).bind fun l=>(g l).map strip)=some d:=e
 rw [hf]at e'
 obtain⟨l,el,e'⟩:=bsi (show((ev Γ m env).bind listD).bind (fun l=>(g l).map strip)=some d from e')
 obtain⟨t,et,rfl⟩:=msi e'
 refine⟨G,env,l,t,sg,en,el,et,fun v H' G' A x o nd n=> ?_⟩
 obtain⟨G2,f,d⟩:=o.freeze x.gh nd
 exact q v H' G2 (f.ext x n) d
end
section
variable{K:W.Frag}{cl:Nat→Option Addr}{G:Hp}
theorem wk_list'{a:Addr}{xs:List V}{ds:List D}(h:RL K G a xs)(hs:Dns K cl G xs ds):Wk K cl (Itl K a) G ds:=by
 intro H G2 i g1 g2
 have hx:SqL K H a xs:=(rl_mono (g1.trans g2) h).sql
 refine⟨fun hi=>⟨xs,hx,by rw [hs.length];exact Nat.le_of_eq hi.symm⟩,fun d hd=> ?_⟩
 obtain⟨v,hv,dv⟩:=hs.get hd
 refine⟨⟨xs,v,hx,hv⟩,fun u H' ⟨e,y⟩=> ?_⟩
 subst e
 have:=y xs hx
 rw [hv]at this
 cases this
 exact⟨G2,Ext.refl g2,dv.mono g1⟩
theorem wk_tup{a:Addr}{xs:List V}{ds:List D}(h:G a=some (.tup xs))(hs:Dns K cl G xs ds):Wk K cl (Itt K a) G ds:=by
 intro H G2 i g1 g2
 have hx:SqT K H a xs:=.inl (.inl ((g1.trans g2) _ _ h))
 refine⟨fun hi=>⟨xs,hx,by rw [hs.length];exact Nat.le_of_eq hi.symm⟩,fun d hd=> ?_⟩
 obtain⟨v,hv,dv⟩:=hs.get hd
 refine⟨⟨xs,v,hx,hv⟩,fun u H' ⟨e,y⟩=> ?_⟩
 subst e
 have:=y xs hx
 rw [hv]at this
 cases this
 exact⟨G2,Ext.refl g2,dv.mono g1⟩
theorem wk_rng{lo:Int}{n:Nat}:Wk K cl (Itr lo n) G ((List.range n).map fun(i:Nat)=>D.int (lo+i)):=by
 intro H G2 i g1 g2
 refine⟨fun hi=> ?_,fun d hd=> ?_⟩
 ·rw [List.length_map,List.length_range]at hi
  exact Nat.le_of_eq hi.symm
 ·have hi:i<n:=by
   have:=(List.getElem?_eq_some_iff.mp hd).1
   simpa using this
  refine⟨hi,fun v H' ⟨e1,e2⟩=> ?_⟩
  subst e1 e2
  rw [List.getElem?_map,List.getElem?_range hi]at hd
  cases hd
  exact⟨G2,Ext.refl g2,.int _⟩
end
section
variable{X:Cx}{cl:Nat→Option Addr}{Γ:Tab}{tg:Expr}
theorem pi_seqD{e:Expr}{m:E}(h:PE X e (tV X.K cl Γ m))(nr:isRng m=false):PI X tg e (tI X.K cl Γ m):=by
 intro pins s σ H R I ⟨G,env,ds,sg,en,e,q⟩
 obtain⟨d,e1,e2⟩:=bsi e
 cases d with
 |lst l=>
  cases e2
  refine pi_list h pins s σ H R I ⟨G,env,.lst ds,sg,en,e1,fun v H1 G1 x1 d1=> ?_⟩
  cases d1 with|lst h1 h2=>
   exact⟨_,rfl,⟨_,(rl_mono x1.gh h1).sql⟩,q _ H1 G1 x1 (wk_list' h1 h2) (fun z=>by rw [nr]at z;cases z)⟩
 |tup l=>
  cases e2
  refine pi_tup h pins s σ H R I ⟨G,env,.tup ds,sg,en,e1,fun v H1 G1 x1 d1=> ?_⟩
  cases d1 with|tup h1 h2=>
   exact⟨_,rfl,⟨_,.inl (.inl (x1.gh _ _ h1))⟩,q _ H1 G1 x1 (wk_tup h1 h2) (fun z=>by rw [nr]at z;cases z)⟩
 |_=>cases e2
theorem rngD_some{lo hi:Int}{l:List D}(h:rngD lo hi=some l):(-(2 ^ 60)≤lo∧lo≤2 ^ 60∧-(2 ^ 60)≤hi∧hi≤2 ^ 60)∧l=(List.range (hi-lo).toNat).map fun(i:Nat)=>D.int (lo+i):=by
 unfold rngD at h
 split at h
 ·rename_i c;cases h;exact⟨odt c,rfl⟩
 ·cases h
theorem pi_rngD{a:Expr}{m:E}{p pos:Pos}(hg:Gl X "range")(hm:X.mg "range"=none)(h:PE X a (tV X.K cl Γ m))(ok:okE a=true):PI X tg (.Call (.Name "range" p) [a] [] pos) (tI X.K cl Γ (.rng m)):=by
 refine piI (pi_range1 hg hm (pa_cons h pa_nil (star_of ok _ _)) (star_of ok _ _)) fun σ H R ⟨G,env,ds,sg,en,e,q⟩=> ?_
 obtain⟨d,e1,e2⟩:=bsi e
 obtain⟨x,ex,e1⟩:=bsi (show(ev Γ m env).bind (fun x=>rng2D (.int 0) x)=some d from e1)
 refine⟨G,env,x,sg,en,ex,fun v H1 G1 x1 d1=> ?_⟩
 cases x with
 |int n=>
  obtain⟨l,e3,rfl⟩:=msi e1
  cases e2
  cases d1
  obtain⟨⟨b1,b2,b3,b4⟩,rfl⟩:=rngD_some e3
  refine⟨n,rfl,by lia,by lia,q _ H1 G1 x1 ?_ fun _ G2=> ?_⟩
  all_goals
   rw [Int.sub_zero]
   exact wk_rng
 |_=>cases e1
theorem compR_snoc{f:D→Option (Option D)}{d:D}{r:List D}{l:List D}(h:compR f (d::r)=some l):∃o t,f d=some o∧compR f r=some t∧l=oc o t:=by
 obtain⟨o,h1,h⟩:=bsi (show(f d).bind (fun o=>(compR f r).map fun l=>oc o l)=some l from h)
 obtain⟨t,h2,rfl⟩:=msi h
 exact⟨o,t,h1,h2,rfl⟩
theorem comp_tV{wi:E}{is:List Nat}{me mc:E}{K:W.Frag}{tt:TT}(htt:∀σ H (Q:Bool→Hp→Prop),(∃G env b,Same G H∧EnvD K cl G env σ∧cS mc (ev Γ mc env)=some b∧∀H' G',Ext H G H' G'→Q b H')→tt σ H Q){σ:St}{H:Hp}{Q:VK}:
 tV K cl Γ (.comp me is wi mc) σ H Q→tComp (tI K cl Γ wi) is tt (tV K cl Γ me) σ H Q:=by
 rintro ⟨G,env,d,sg,en,e,q⟩
 obtain⟨ds,e1,e⟩:=bsi (show((ev Γ wi env).bind walkD).bind (fun ds=>if sz ds.length then(compR (fun d=>(cS mc (ev Γ mc (inner env is d))).bind fun b=>if b then(ev Γ me (inner env is d)).map some else some none) ds).map .lst else none)=some d from e)
 split at e
 ·rename_i hz
  obtain⟨out,e2,rfl⟩:=msi e
  generalize hf:(fun d=>(cS mc (ev Γ mc (inner env is d))).bind fun b=>if b then(ev Γ me (inner env is d)).map some else some none)=f at e2
  have hfd:∀d,f d=(cS mc (ev Γ mc (inner env is d))).bind fun b=>if b then(ev Γ me (inner env is d)).map some else some none:=fun d=>by rw [←hf]
  clear hf
  have hz':=odt hz
  refine⟨G,env,ds,sg,en,e1,fun J H1 G1 x1 wk _ D hD=> ?_⟩
  have gD:G1 D=none:=x1.gh.free hD
  refine⟨fun i k H2=>k=ds.length-i∧i≤ds.length∧∃G2 ys es rest,Ext H1 G1 H2 G2∧H2 D=some (.lst ys)∧G2 D=none∧Dns K cl G2 ys es∧ys.length≤i∧compR f (ds.drop i)=some rest∧es++rest=out,⟨ds.length,by simp,Nat.zero_le _,G1,[],[],out,⟨same_upd hD _,.refl _,x1.gh.trans (same_upd hD _),fun b o h1 h2=>by rw [h1]at h2;cases h2⟩,upd_same,gD,.nil,by simp,e2,rfl⟩,?_⟩
  rintro i k H2 ⟨rfl,hi,G2,ys,es,rest,x2,hy,g2D,dy,hle,hr,ho⟩
  obtain⟨w1,w2⟩:=wk H2 G2 i x2.gg x2.gh
  by_cases hlt:i<ds.length
  ·have hd:ds[i]?=some ds[i]:=List.getElem?_eq_getElem hlt
   obtain⟨g,y⟩:=w2 _ hd
   refine .inr ⟨g,fun v H3 yl=> ?_⟩
   obtain⟨G3,x3,d3⟩:=y v H3 yl
   rw [List.drop_eq_getElem_cons hlt]at hr
   obtain⟨o,t,f1,f2,f3⟩:=compR_snoc hr
   rw [hfd]at f1
   obtain⟨b,c1,c2⟩:=bsi f1
   have en3:EnvD K cl G3 (inner env is ds[i]) (compSt σ is (some v)):=(en.mono ((x1.gg.trans x2.gg).trans x3.gg)).inner d3 is
   have g3D:G3 D=none:=by
    cases z:G3 D with
    |none=>rfl
    |some o=>have:=x3.nw D o z g2D;rw [hy]at this;cases this
   refine htt _ _ _ ⟨G3,_,b,x3.gh,en3,c1,fun H4 G4 x4=> ?_⟩
   have g4D:G4 D=none:=by
    cases z:G4 D with
    |none=>rfl
    |some o=>have:=x4.nw D o z g3D;rw [x3.hh _ _ hy]at this;cases this
   cases b with
   |false=>
    have c2':some none=some o:=c2
    cases c2'
    exact iteF ⟨ds.length-(i+1),by lia,rfl,hlt,G4,ys,es,t,(x2.trans x3).trans x4,x4.hh _ _ (x3.hh _ _ hy),g4D,dy.mono (x3.gg.trans x4.gg),by lia,f2,by rw [←ho,f3];rfl⟩
   |true=>
    obtain⟨z,c3,c4⟩:=msi (show(ev Γ me (inner env is ds[i])).map some=some o from c2)
    subst c4
    refine iteT ⟨G4,_,z,x4.gh,en3.mono x4.gg,c3,fun u H5 G5 x5 d5=> ?_⟩
    have g5D:G5 D=none:=by
     cases z:G5 D with
     |none=>rfl
     |some o=>have:=x5.nw D o z g4D;rw [x4.hh _ _ (x3.hh _ _ hy)]at this;cases this
    have hy5:H5 D=some (.lst ys):=x5.hh _ _ (x4.hh _ _ (x3.hh _ _ hy))
    refine⟨ys,hy5,by rw [sizeLine_eq];lia,ds.length-(i+1),by lia,rfl,hlt,G5,ys++[u],es++[z],t,?_,upd_same,g5D,(dy.mono ((x3.gg.trans x4.gg).trans x5.gg)).append (.cons d5 .nil),by rw [List.length_append,List.length_singleton];lia,f2,by rw [←ho,f3,List.append_assoc];rfl⟩
    have x25:=((x2.trans x3).trans x4).trans x5
    exact⟨fun b o h=>by rw [upd_ne (ne_of_none h hD)];exact x25.hh _ _ h,x25.gg,fun b o h=>by rw [upd_ne (ne_of_none h g5D)];exact x25.gh _ _ h,x25.nw⟩
  ·have e0:i=ds.length:=by lia
   subst e0
   refine .inl ⟨w1 rfl,?_⟩
   rw [List.drop_length]at hr
   have hr':some []=some rest:=hr
   cases hr'
   rw [List.append_nil]at ho
   subst ho
   have s2:=same_upd g2D (.lst ys)
   refine q _ H2 (upd G2 D (.lst ys)) (x1.trans ⟨x2.hh,x2.gg.trans s2,fun b o h=> ?_,fun b o h n=> ?_⟩) (.lst (.inl (.inl upd_same)) (dy.mono s2))
   ·by_cases eb:b=D
    ·subst eb;rw [upd_same]at h;cases h;exact hy
    ·rw [upd_ne eb]at h;exact x2.gh _ _ h
   ·by_cases eb:b=D
    ·subst eb;exact hD
    ·rw [upd_ne eb]at h;exact x2.nw _ _ h n
 ·cases e
end
theorem relab_glob{env:PySem.Env}:∀ {names:List (Str×NameKind)} {y:Str},names.lookup y=some .globalImplicit→(relab env names).lookup y=some .globalImplicit
 |[],_,h=>by simp at h
 |(n,k)::r,y,h=>by
  have e:relab env ((n,k)::r)=(if(k==NameKind.free&&env.scope.kind==.function&&env.kindOf n==some .cell)=true then(n,NameKind.cell)else(n,k))::relab env r:=rfl
  rw [e]
  cases hx:y==n with
  |true=>
   simp only [List.lookup_cons,hx]at h
   have hk:k=.globalImplicit:=Option.some.inj h
   subst hk
   rw [if_neg (by rw [show(NameKind.globalImplicit==NameKind.free)=false from rfl];simp)]
   simp only [List.lookup_cons,hx]
  |false=>
   simp only [List.lookup_cons,hx]at h
   by_cases hc:(k==NameKind.free&&env.scope.kind==.function&&env.kindOf n==some .cell)=true
   ·rw [if_pos hc];simp only [List.lookup_cons,hx];exact relab_glob h
   ·rw [if_neg hc];simp only [List.lookup_cons,hx];exact relab_glob h
section
variable{X:Cx}{cl:Nat→Option Addr}{Γ:Tab}{c:CC}
theorem Sees.comp{N:List Str}{sc scope:Scope}{x:Str}{fr:List Str}{is:List Nat}(S:Sees X cl c Γ true N sc)(cs:CompScope sc N scope x fr is)(C:Addr)(s:Shared)(H:Hp)(fp:List Addr)(pins:List (Addr×Obj)):
 Sees (compCx X scope (x::fr) C s H fp pins) cl c Γ false (x::fr) scope:=by
 refine⟨rfl,fun i y hy=> ?_,fun y hy=>relab_glob hy,(fun h=>by cases h),S.calm,S.hu,S.blt,fun x f g h1 h2=>⟨(S.fn x f g h1 h2).ex⟩,S.gi,S.cls,fun c C k m g h0 h1 h2=>⟨(S.mth c C k m g h0 h1 h2).ex⟩,S.cn,S.fv⟩
 cases i with
 |zero=>
  have hy':some x=some y:=hy
  cases hy'
  exact .inl (lookup_relabel_local cs.var)
 |succ i=>
  have hy':fr[i]?=some y:=hy
  exact .inr (relab_free (cs.look y (List.mem_of_getElem? hy')))
theorem toPys_ints(xs:List Int):toPys (xs.map D.int)=some (xs.map PyData.int):=by
 induction xs with
 |nil=>simp [toPys]
 |cons x r ih=>simp [toPys,toPy,ih]
theorem canLay_ints(xs:List Int):PyData.canLayAll0 (xs.map PyData.int)=true:=by
 induction xs with
 |nil=>simp [PyData.canLayAll0]
 |cons x r ih=>simp [PyData.canLayAll0,PyData.canLay0,ih]
theorem depth_ints(xs:List Int):PyData.depthAll (xs.map PyData.int)=0:=by
 induction xs with
 |nil=>simp [PyData.depthAll]
 |cons x r ih=>simp [PyData.depthAll,PyData.depth,ih]
theorem noMix_ints(xs ys:List Int):PySem.SeqAt.noMixAll (xs.map PyData.int) (ys.map PyData.int)=true:=by
 induction xs generalizing ys with
 |nil=>cases ys<;>simp [PySem.SeqAt.noMixAll]
 |cons x r ih=>cases ys<;>simp [PySem.SeqAt.noMixAll,PySem.SeqAt.noMix,ih]
theorem same_ints(xs ys:List Int):PySem.Spec.sameAll (xs.map PyData.int) (ys.map PyData.int)=decide (xs=ys):=by
 induction xs generalizing ys with
 |nil=>cases ys<;>simp [PySem.Spec.sameAll]
 |cons x r ih=>cases ys with
  |nil=>simp [PySem.Spec.sameAll]
  |cons y t=>
   simp [PySem.Spec.sameAll,PySem.Spec.same,ih]
   by_cases e:x=y<;>simp [e]
theorem eq_ints(xs ys:List Int):eqD (.lst (xs.map D.int)) (.lst (ys.map D.int))=some (decide (xs=ys)):=by
 have h:∀i:List Int,PySem.SeqAt.shaped (.list (i.map PyData.int))=true:=fun i=>by simp [PySem.SeqAt.shaped,PyData.canLay0,PyData.depth,canLay_ints,depth_ints]
 simp [eqD,toPy,toPys_ints,h,PySem.SeqAt.noMix,PySem.Spec.same,noMix_ints,same_ints]
theorem call_srt64:CallR X (.builtin "sorted") (fun xs H Q=>∃(p:Addr) (ns:List Int),xs=[.ref p]∧SqL X.K H p (ns.map V.int)∧ns.length=64∧∀(l:Addr) (ms:List Int),H l=none→ms.Perm ns→Q (.ref l) (upd H l (.lst (ms.map V.int)))):=by
 intro pins s σ H xs us Q I r h
 obtain⟨p,ns,rfl,hq,hlt,q⟩:=h
 obtain⟨u,rfl,ru⟩:=r.one
 cases ru
 obtain⟨its,rv,pl,hz⟩:=I.list hq
 have hl:its.length=ns.length:=by rw [←rv.length,List.length_map]
 refine So.sorted64 pl.isList (intsAre_of rv) (by lia) fun out ms a1 a2=> ?_
 obtain⟨e,he⟩:=PyProof.Rows.sortedAll_at s.heap its out
 have hfr:H (s.heap.objs.size+1)=none:=I.hok.fresh (Nat.le_succ _)
 refine⟨.ref (s.heap.objs.size+1),_,I.laid (t':=s.toks) (o:=.lst (ms.map V.int)) (fun _ _=>PyProof.Rows.sortedAll_old) (Nat.le_succ _) ⟨?_,out.toList,e,vals_ints a1,by simpa using he⟩,rfl,q _ ms hfr a2⟩
 rw [List.length_map,a2.length_eq,sizeLine_eq];lia
theorem pe_srt{a:Expr}{ma:E}{p pos:Pos}(gg:Gl X "sorted")(mg:X.mg "sorted"=none)(oa:okE a=true)(ha:PE X a (tV X.K cl Γ ma)):
 PE X (.Call (.Name "sorted" p) [a] [] pos) (fun σ H Q=>∃G env ns,Same G H∧EnvD X.K cl G env σ∧ev Γ ma env=some (.lst (ns.map D.int))∧ns.length≤64∧∀ms v H' G',ms.Perm ns→(ns.length<64→ms=isort ns)→Ext H G H' G'→Dn X.K cl G' v (.lst (ms.map D.int))→Q v H'):=by
 refine peI (pe_callB (call_sorted_ints.or call_srt64) gg mg bt_sorted (pa_cons ha pa_nil (star_of oa _ _)) (by decide) (by decide) (star_of oa _ _) rfl) fun σ H Q ⟨G,env,ns,sg,en,e,hl,q⟩=> ?_
 refine⟨G,env,_,sg,en,e,fun v H1 G1 x1 d1=> ?_⟩
 cases d1 with|lst h1 h2=>
  have e2:=h2.ints
  subst e2
  by_cases h64:ns.length<64
  ·refine .inl ⟨_,ns,rfl,(rl_mono x1.gh h1).sql,h64,fun l ms hl p1 p2=> ?_⟩
   exact endL x1.gh (fun z H3 G3 x3 d3=>q ms z H3 G3 p1 (fun _=>isort_eq p1 p2) (x1.trans x3) d3) hl (dns_ints _)
  ·refine .inr ⟨_,ns,rfl,(rl_mono x1.gh h1).sql,by lia,fun l ms hl p1=> ?_⟩
   exact endL x1.gh (fun z H3 G3 x3 d3=>q ms z H3 G3 p1 (fun z=>absurd z h64) (x1.trans x3) d3) hl (dns_ints _)
theorem sneD_in{x y d:D}(h:sneD x y=some d):∃ns ms,x=.lst (ns.map D.int)∧y=.lst (ms.map D.int)∧ns.length≤64∧∀ks:List Int,ks.Perm ns→(ns.length<64→ks=isort ns)→d=.bl (!decide (ks=ms)):=by
 unfold sneD at h
 split at h
 ·rename_i l m
  obtain⟨ns,e1,h⟩:=bsi h
  obtain⟨ms,e2,h⟩:=bsi h
  refine⟨ns,ms,by rw [intsD_eq e1],by rw [intsD_eq e2],?_⟩
  split at h
  ·rename_i hz
   have hz:=odt hz
   cases h
   exact⟨by lia,fun ks _ hk=>by rw [hk hz]⟩
  ·split at h
   ·rename_i hz
    obtain⟨h1,h2⟩:=bae hz
    have h1:=odt h1
    cases h
    refine⟨by lia,fun ks hp _=> ?_⟩
    have:ks≠ms:=fun z=>by
     subst z
     have:=List.isPerm_iff.mpr hp.symm
     rw [this]at h2
     cases h2
    rw [dff this];rfl
   ·cases h
 ·cases h
theorem pe_sne{a b:Expr}{ma mb:E}{p p2 pos:Pos}(hu:X.A.units+64<cLine)(gg:Gl X "sorted")(mg:X.mg "sorted"=none)(oa:okE a=true)(ob:okE b=true)(ha:PE X a (tV X.K cl Γ ma))(hb:PE X b (tV X.K cl Γ mb)):
 Both X cl Γ (.Compare (.Call (.Name "sorted" p) [a] [] p2) [.NotEq] [b] pos) (.sne ma mb):=by
 have hp:=pe_srt (p:=p) (pos:=p2) gg mg oa ha
 have key:∀ {σ H} {Q:VK},tV X.K cl Γ (.sne ma mb) σ H Q→tOp (rD X.K cl (cmpD .NotEq)) (fun σ H Q=>∃G env ns,Same G H∧EnvD X.K cl G env σ∧ev Γ ma env=some (.lst (ns.map D.int))∧ns.length≤64∧∀ms v H' G',ms.Perm ns→(ns.length<64→ms=isort ns)→Ext H G H' G'→Dn X.K cl G' v (.lst (ms.map D.int))→Q v H') (tV X.K cl Γ mb) σ H Q:=by
  rintro σ H Q ⟨G,env,d,sg,en,e,q⟩
  obtain⟨x,ex,e⟩:=bsi (show(ev Γ ma env).bind (fun x=>(ev Γ mb env).bind fun y=>sneD x y)=some d from e)
  obtain⟨y,ey,e⟩:=bsi e
  obtain⟨ns,ms,rfl,rfl,hl,hk⟩:=sneD_in e
  refine⟨G,env,ns,sg,en,ex,hl,fun ks v H1 G1 hp hs x1 d1=>⟨G1,env,_,x1.gh,en.mono x1.gg,ey,fun u H2 G2 x2 d2=> ?_⟩⟩
  refine⟨G2,_,_,_,x2.gh,d1.mono x2.gg,d2,?_,fun z H3 G3 x3 d3=>q z H3 G3 ((x1.trans x2).trans x3) d3⟩
  show(eqD _ _).map _=some d
  rw [eq_ints,hk ks hp hs];rfl
 have hm:behindInMarks .NotEq b=false:=by cases b<;>first|rfl|cases ob
 refine⟨peI (pe_cmpR (op_cmp (cl:=cl) hu .NotEq) hp hb hm) fun σ H Q h=>key h,fun _=>ptI (pt_cmpR (op_cmp (cl:=cl) hu .NotEq) hp hb hm) fun σ H Q ⟨G,env,t,sg,en,e,q⟩=> ?_⟩
 obtain⟨d,e,e'⟩:=bsi e
 refine key ⟨G,env,d,sg,en,e,fun v H' G' x dv=> ?_⟩
 obtain⟨x,_,e⟩:=bsi (show(ev Γ ma env).bind (fun x=>(ev Γ mb env).bind fun y=>sneD x y)=some d from e)
 obtain⟨y,_,e⟩:=bsi e
 obtain⟨ns,ms,_,_,_,hk⟩:=sneD_in e
 have hd:∃c,d=.bl c:=by
  by_cases h64:ns.length<64
  ·exact⟨_,hk (isort ns) (isort_perm ns) fun _=>rfl⟩
  ·exact⟨_,hk ns (List.Perm.refl _) fun z=>absurd z h64⟩
 obtain⟨c,rfl⟩:=hd
 cases e'
 cases dv
 exact⟨t,rfl,q H' G' ‹_›⟩
theorem few1{a:Expr}{cpos:Pos}{env:PySem.Env}(oa:okE a=true):((backTo cpos (starEach [a] env)).all (fun x=> !x.1)&&(backToKw cpos (keywordEach [] env)).all (fun x=>x.1.isSome)
 &&decide (([a]:List Expr).length+([]:List Keyword).length+(if([]:List Keyword).isEmpty then 0 else 1)<30))=true:=by
 rw [star_of oa];rfl
theorem pe_joiD{a:Expr}{ma:E}{apos cpos cp:Pos}{cj:Nat}(oa:okE a=true)(bm:isBm apos cpos=true)(ha:PE X a (tV X.K cl Γ ma)):
 PE X (.Call (.Attribute (.Constant (.str BLK) cj cp) "join" apos) [a] [] cpos) (tV X.K cl Γ (.un .joi ma)):=by
 refine peI (pe_bm PySem.F.plainAttrs_str PySem.F.slot_str_join PySem.F.type_str_join mt_join pe_str (pa_cons ha pa_nil (star_of oa _ _)) rfl (few1 oa) bm (star_of oa _ _) rfl) fun σ H Q ⟨G,env,d,sg,en,e,q⟩=> ?_
 obtain⟨x,ex,e⟩:=bsi (show(ev Γ ma env).bind (unD .joi)=some d from e)
 refine⟨rfl,G,env,x,sg,en,ex,fun v H1 G1 x1 d1=> ?_⟩
 cases x with
 |lst l=>
  obtain⟨xs,e1,e2⟩:=bsi (show(strsD l).bind (fun xs=>if JoinOk BLK xs then some (D.str (Txt.join BLK xs))else none)=some d from e)
  clear e
  have e1:=strsD_eq e1
  subst e1
  split at e2
  ·rename_i hj
   cases e2
   cases d1 with|lst h1 h2=>
    have e2:=h2.strs
    subst e2
    exact⟨BLK,_,xs,rfl,rfl,(rl_mono x1.gh h1).sql,hj,q _ H1 G1 x1 (.str _)⟩
  ·cases e2
 |_=>cases e
theorem pe_splD{o:Expr}{mo:E}{apos cpos cp:Pos}{cj:Nat}(hb:∀env,attributeBase o "split" env (eval o env)=eval o env)(bm:isBm apos cpos=true)(ho:PE X o (tV X.K cl Γ mo)):
 PE X (.Call (.Attribute o "split" apos) [.Constant (.str BLK) cj cp] [] cpos) (tV X.K cl Γ (.un .spl mo)):=by
 refine peI (pe_bm PySem.F.plainAttrs_str PySem.F.slot_str_split PySem.F.type_str_split mt_split ho (pa_cons (pe_str (x:=BLK)) pa_nil rfl) (hb _) rfl bm rfl rfl) fun σ H Q ⟨G,env,d,sg,en,e,q⟩=> ?_
 obtain⟨x,ex,e⟩:=bsi (show(ev Γ mo env).bind (unD .spl)=some d from e)
 refine⟨G,env,x,sg,en,ex,fun v H1 G1 x1 d1=> ?_⟩
 cases x with
 |str z=>
  have e':(if sz (z.length+2)then some (D.lst ((Txt.split z BLK).map D.str))else none)=some d:=e
  split at e'
  ·rename_i hz
   cases e'
   cases d1
   exact⟨rfl,z,BLK,rfl,rfl,rfl,sz_le hz,fun p hp=>endL x1.gh (fun z H3 G3 x3 d3=>q z H3 G3 (x1.trans x3) d3) hp (dns_strs _)⟩
  ·cases e'
 |_=>cases e
theorem pe_stpD{o:Expr}{mo:E}{apos cpos cp:Pos}{cj:Nat}(hb:∀env,attributeBase o "strip" env (eval o env)=eval o env)(bm:isBm apos cpos=true)(ho:PE X o (tV X.K cl Γ mo)):
 PE X (.Call (.Attribute o "strip" apos) [.Constant (.str FIG) cj cp] [] cpos) (tV X.K cl Γ (.un .stp mo)):=by
 refine peI (pe_bm PySem.F.plainAttrs_str PySem.F.slot_str_strip PySem.F.type_str_strip mt_strip ho (pa_cons (pe_str (x:=FIG)) pa_nil rfl) (hb _) rfl bm rfl rfl) fun σ H Q ⟨G,env,d,sg,en,e,q⟩=> ?_
 obtain⟨x,ex,e⟩:=bsi (show(ev Γ mo env).bind (unD .stp)=some d from e)
 refine⟨G,env,x,sg,en,ex,fun v H1 G1 x1 d1=> ?_⟩
 cases x with
 |str z=>
  have e':(if sz z.length then some (D.str (Txt.stripChars z FIG))else none)=some d:=e
  split at e'
  ·rename_i hz
   cases e'
   cases d1
   exact⟨rfl,z,FIG,rfl,rfl,sz_le hz,endS x1.gh (fun z H3 G3 x3 d3=>q z H3 G3 (x1.trans x3) d3) (.str _)⟩
  ·cases e'
 |_=>cases e
theorem cb_ok{N:List Str}{sc:Scope}{top:Bool}{f:Expr→Option E}{x:Str}{args:List Expr}{m:E}{p pos:Pos}(S:Sees X cl c Γ top N sc)(ih:∀e m,f e=some m→PE X e (tV X.K cl Γ m))(ok:args.all okE=true)(gx:isGl N sc x=true)
 (h:cB (fun y=>isGl N sc y&&(c.tab.lookup y).isNone) f x args=some m):PE X (.Call (.Name x p) args [] pos) (tV X.K cl Γ m):=by
 obtain⟨o1,g1⟩:=isGl_ok gx
 have gg:=S.gl x g1
 unfold cB at h
 split at h
 ·rename_i a
  rw [List.all_cons,Bool.and_eq_true]at ok
  have oa:=ok.1
  split at h
  ·rename_i e
   have e:x="len":=by simpa using e
   subst e
   have plain:∀ {m:E},(f a).map (E.un .len)=some m→PE X (.Call (.Name "len" p) [a] [] pos) (tV X.K cl Γ m):=by
    intro m h
    obtain⟨ma,h1,rfl⟩:=msi h
    exact peI (pe_callB (b_len (cl:=cl)) gg (S.blt _ (by decide+kernel)) bt_len (pa_cons (ih a ma h1) pa_nil (star_of oa _ _)) (by decide) (by decide) (star_of oa _ _) rfl) fun σ H Q q=>tVB1 (fun _=>rfl) q
   exact plain h
  split at h
  ·rename_i e
   have e:x="list":=by simpa using e
   subst e
   have plain:∀ {m:E},(f a).map (E.un .list)=some m→PE X (.Call (.Name "list" p) [a] [] pos) (tV X.K cl Γ m):=by
    intro m h
    obtain⟨ma,h1,rfl⟩:=msi h
    exact peI (pe_callTy (b_list (cl:=cl)) gg (S.blt _ (by decide+kernel)) bt_list (pa_cons (ih a ma h1) pa_nil (star_of oa _ _)) (by decide) (by decide) (star_of oa _ _) rfl) fun σ H Q q=>tVB1 (fun _=>rfl) q
   split at h
   ·rename_i y py b pb
    split at h
    ·rename_i hr
     obtain⟨hr,ob⟩:=bae hr
     obtain⟨hr1,hr2⟩:=bae hr
     obtain⟨hr1,_⟩:=bae hr1
     have e:y="range":=by simpa using hr2
     subst e
     obtain⟨mb,h1,rfl⟩:=msi h
     obtain⟨_,g2⟩:=isGl_ok hr1
     refine peI (pe_callTy (call_list_rng S.calm) gg (S.blt _ (by decide+kernel)) bt_list (pa_cons (pe_callTy call_range1R (S.gl _ g2) (S.blt _ (by decide+kernel)) bt_range (pa_cons (ih b mb h1) pa_nil (star_of ob _ _)) (by decide) (by decide) (star_of ob _ _) rfl) pa_nil rfl) (by decide) (by decide) rfl rfl) fun σ H Q ⟨G,env,d,sg,en,e,q⟩=> ?_
     obtain⟨z,e1,e⟩:=bsi (show(ev Γ mb env).bind (unD .lrng)=some d from e)
     refine⟨G,env,z,sg,en,e1,fun v H1 G1 x1 d1=> ?_⟩
     cases z with
     |int n=>
      have e':(if decide (-(2 ^ 60)≤n∧n≤1000000)then some (D.lst ((List.range n.toNat).map fun(i:Nat)=>D.int i))else none)=some d:=e
      split at e'
      ·rename_i hn
       have hn:=odt hn
       cases e'
       cases d1
       refine⟨n,rfl,fun p hp=> ?_⟩
       have x2:=Ext.newO x1.gh hp (.rng 0 n)
       refine⟨p,0,n,rfl,upd_same,by decide,by decide,by lia,by lia,by lia,fun l hl=> ?_⟩
       rw [Int.sub_zero]
       refine endL x2.gh (fun z H3 G3 x3 d3=>q z H3 G3 ((x1.trans x2).trans x3) d3) hl ?_
       have e3:((List.range n.toNat).map fun(i:Nat)=>V.int (0+(i:Int)))=((List.range n.toNat).map fun(i:Nat)=>(i:Int)).map V.int:=by simp
       have e4:((List.range n.toNat).map fun(i:Nat)=>D.int (i:Int))=((List.range n.toNat).map fun(i:Nat)=>(i:Int)).map D.int:=by simp
       rw [e3,e4]
       exact dns_ints _
      ·cases e'
     |_=>cases e
    ·exact plain h
   ·exact plain h
  split at h
  ·rename_i e
   have e:x="str":=by simpa using e
   subst e
   obtain⟨ma,h1,rfl⟩:=msi h
   exact peI (pe_callTy (b_str (cl:=cl)) gg (S.blt _ (by decide+kernel)) bt_str (pa_cons (ih a ma h1) pa_nil (star_of oa _ _)) (by decide) (by decide) (star_of oa _ _) rfl) fun σ H Q q=>tVB1 (fun _=>rfl) q
  split at h
  ·rename_i e
   have e:x="int":=by simpa using e
   subst e
   obtain⟨ma,h1,rfl⟩:=msi h
   exact peI (pe_callTy (b_int (cl:=cl)) gg (S.blt _ (by decide+kernel)) bt_int (pa_cons (ih a ma h1) pa_nil (star_of oa _ _)) (by decide) (by decide) (star_of oa _ _) rfl) fun σ H Q q=>tVB1 (fun _=>rfl) q
  split at h
  ·rename_i e
   have e:x="all":=by simpa using e
   subst e
   obtain⟨ma,h1,rfl⟩:=msi h
   exact peI (pe_callB (b_all (cl:=cl) S.calm) gg (S.blt _ (by decide+kernel)) bt_all (pa_cons (ih a ma h1) pa_nil (star_of oa _ _)) (by decide) (by decide) (star_of oa _ _) rfl) fun σ H Q q=>tVB1 (fun _=>rfl) q
  ·cases h
 ·rename_i a b
  rw [List.all_cons,Bool.and_eq_true,List.all_cons,Bool.and_eq_true]at ok
  have oa:=ok.1
  have ob:=ok.2.1
  split at h
  ·rename_i e
   have e:x="min":=by simpa using e
   subst e
   obtain⟨ma,h1,h⟩:=bsi h
   obtain⟨mb,h2,rfl⟩:=msi h
   exact peI (pe_callB (b_min2 (cl:=cl) S.calm) gg (S.blt _ (by decide+kernel)) bt_min (pa_cons (ih a ma h1) (pa_cons (ih b mb h2) pa_nil (star_of ob _ _)) (star_of oa _ _)) (by decide) (by decide) (star_of oa _ _) (star_any (es:=[b]) (by rw [List.all_cons,ob];rfl) _ _)) fun σ H Q q=>tVB2 (fun _=>rfl) q
  split at h
  ·rename_i e
   have e:x="max":=by simpa using e
   subst e
   obtain⟨ma,h1,h⟩:=bsi h
   obtain⟨mb,h2,rfl⟩:=msi h
   exact peI (pe_callB (b_max2 (cl:=cl) S.calm) gg (S.blt _ (by decide+kernel)) bt_max (pa_cons (ih a ma h1) (pa_cons (ih b mb h2) pa_nil (star_of ob _ _)) (star_of oa _ _)) (by decide) (by decide) (star_of oa _ _) (star_any (es:=[b]) (by rw [List.all_cons,ob];rfl) _ _)) fun σ H Q q=>tVB2 (fun _=>rfl) q
  split at h
  ·rename_i e
   have e:x="isinstance":=by simpa using e
   subst e
   split at h
   ·rename_i t pt
    split at h
    ·rename_i ht
     obtain⟨ht,_⟩:=bae ht
     obtain⟨k,hk,h⟩:=bsi h
     obtain⟨ma,h1,rfl⟩:=msi h
     obtain⟨ot,gt⟩:=isGl_ok ht
     exact pe_isiD (ih a ma h1) oa gg (S.blt _ (by decide+kernel)) (S.gl t gt) (S.blt _ (tyCode_ok hk).1) hk ot
    ·cases h
   ·cases h
  ·cases h
 ·cases h
theorem ci_ok{N:List Str}{sc:Scope}{top:Bool}{f:Expr→Option E}{e:Expr}{m:E}{tg:Expr}{tt:Bool}(S:Sees X cl c Γ top N sc)(ih:∀e m,f e=some m→PE X e (tV X.K cl Γ m))(ht:tt=true→∃es k p,tg=.Tuple es k p)
 (h:cI tt (isGl N sc) (fun y=>(c.tab.lookup y).isSome) f e=some m):PI X tg e (tI X.K cl Γ m):=by
 have seq:noR (f e)=some m→PI X tg e (tI X.K cl Γ m):=fun h=>by
  obtain⟨m',h1,h2⟩:=bsi h
  split at h2
  ·cases h2
  ·rename_i nr
   cases h2
   exact pi_seqD (ih e m h1) (by simpa using nr)
 unfold cI at h
 split at h
 ·rename_i x p a pos
  split at h
  ·rename_i hx
   obtain⟨hx,oa⟩:=bae hx
   obtain⟨hx,e⟩:=bae hx
   obtain⟨hx,_⟩:=bae hx
   have e:x="range":=by simpa using e
   subst e
   obtain⟨ma,h1,rfl⟩:=msi h
   exact pi_rngD (S.gl _ (isGl_ok hx).2) (S.blt _ (by decide+kernel)) (ih a ma h1) oa
  ·exact seq h
 ·exact seq h
end
section
variable{cl:Nat→Option Addr}{Γ:Tab}{c:CC}{Lg:Nat→Prop}
theorem pe_cD{X:Cx}{e:Expr}{v:V}{d:D}{m:E}(h:PE X e (tC v))(hm:∀env,ev Γ m env=some d)(hd:∀G,Dn X.K cl G v d):PE X e (tV X.K cl Γ m):=
 peI h fun σ H Q ⟨G,env,d',sg,en,e,q⟩=>by
  rw [hm]at e
  cases e
  exact q _ H G (Ext.refl sg) (hd G)
theorem nmOf_ok{e:Expr}{x:Str}(h:nmOf e=some x):∃p,e=.Name x p:=by
 cases e
 case Name y p=>cases h;exact⟨p,rfl⟩
 all_goals cases h
theorem cE_ok(hΓ:∀x f,c.tab.lookup x=some f→∃g,Γ f=some g):∀(n:Nat) (top:Bool) (N:List Str) (sc:Scope) (e:Expr) (m:E) (X:Cx),Sees X cl c Γ top N sc→cE c n top N sc e=some m→Both X cl Γ e m:=by
 intro n
 induction n with
 |zero=>intro top N sc e m X S h;cases h
 |succ n ih=>
  intro top N sc e m X S h
  have ih1:∀e m,cE c n top N sc e=some m→PE X e (tV X.K cl Γ m):=fun e m h=>(ih top N sc e m X S h).1
  cases e
  case Name x pos=>
   replace h:cNa c N sc x=some m:=h
   unfold cNa at h
   have go:PE X (.Name x pos) (tV X.K cl Γ m):=by
    split at h
    ·rename_i ok
     obtain⟨n1,n2,n3⟩:=okN_ok ok
     split at h
     ·rename_i i hi
      cases h
      have hN:=nIdx_get hi
      refine peI (pe_var (i:=i) (by rw [S.hN];exact hN) (S.vis i x hN) n1 n2) fun σ H Q ⟨G,env,d,sg,en,e,q⟩=> ?_
      have e':(env[i]?).join=some d:=e
      have e2:env[i]?=some (some d):=by
       cases z:env[i]? with
       |none=>rw [z]at e';cases e'
       |some o=>rw [z]at e';rw [show o=some d from e']
      obtain⟨v,h1,h2⟩:=en i d e2
      exact⟨v,h1,q v H G (Ext.refl sg) h2⟩
     ·split at h
      ·rename_i hg
       split at h
       rotate_left
       ·obtain⟨z,hz,rfl⟩:=msi h
        obtain⟨t,ht⟩:=S.fv x z hz
        refine peI (pe_glob (v:=.str z) (S.gl x hg) ht ⟨t,rfl⟩ n1) fun σ H Q ⟨G,env,d,sg,en,e,q⟩=> ?_
        have e':some (D.str z)=some d:=e
        cases e'
        exact q _ H G (Ext.refl sg) (.str _)
       rename_i i hi
       cases h
       obtain⟨t,ht⟩:=S.gi x i hi
       refine peI (pe_glob (v:=.int i) (S.gl x hg) ht ⟨t,rfl⟩ n1) fun σ H Q ⟨G,env,d,sg,en,e,q⟩=> ?_
       have e':some (D.int i)=some d:=e
       cases e'
       exact q _ H G (Ext.refl sg) (.int _)
      ·cases h
    ·cases h
   exact⟨go,fun _=>pt_of (by intro _;rfl) go⟩
  case Constant k kk pos=>
   replace h:cCo k=some m:=h
   cases k
   case int i=>
    cases h
    have go:=pe_cD (X:=X) (cl:=cl) (Γ:=Γ) (m:=.int i) (pe_int (j:=kk) (pos:=pos)) (fun _=>rfl) (fun _=> .int _)
    exact⟨go,fun _=>pt_of (by intro _;rfl) go⟩
   case bool i=>
    cases h
    have go:=pe_cD (X:=X) (cl:=cl) (Γ:=Γ) (m:=.bl i) (pe_bl (j:=kk) (pos:=pos)) (fun _=>rfl) (fun _=> .bl _)
    exact⟨go,fun _=>pt_of (by intro _;rfl) go⟩
   case none=>
    cases h
    have go:=pe_cD (X:=X) (cl:=cl) (Γ:=Γ) (m:=.non) (pe_non (j:=kk) (pos:=pos)) (fun _=>rfl) (fun _=> .non)
    exact⟨go,fun _=>pt_of (by intro _;rfl) go⟩
   case str i=>
    cases h
    have go:=pe_cD (X:=X) (cl:=cl) (Γ:=Γ) (m:=.str i) (pe_str (j:=kk) (pos:=pos)) (fun _=>rfl) (fun _=> .str _)
    exact⟨go,fun _=>pt_of (by intro _;rfl) go⟩
   all_goals cases h
  case BinOp a op b pos=>
   replace h:((cE c n top N sc a).bind fun m=>(cE c n top N sc b).map fun l=>E.bin op m l)=some m:=h
   obtain⟨ma,h1,h⟩:=bsi h
   obtain⟨mb,h2,rfl⟩:=msi h
   have go:PE X (.BinOp a op b pos) (tV X.K cl Γ (.bin op ma mb)):=peI (pe_op (op_bin (cl:=cl) op) (ih1 a ma h1) (ih1 b mb h2)) fun σ H Q q=>tV2 (fun _=>rfl) q
   exact⟨go,fun _=>pt_of (by intro _;rfl) go⟩
  case UnaryOp op a pos=>
   cases op
   case USub=>
    replace h:(cE c n top N sc a).map (.un .neg)=some m:=h
    obtain⟨ma,h1,rfl⟩:=msi h
    have go:PE X (.UnaryOp .USub a pos) (tV X.K cl Γ (.un .neg ma)):=peI (pe_un (un_negD (cl:=cl)) (ih1 a ma h1)) fun σ H Q q=>tV1 (fun _=>rfl) q
    exact⟨go,fun _=>pt_of (by intro _;rfl) go⟩
   case Not=>
    replace h:(if okT a then(cE c n top N sc a).map .not else none)=some m:=h
    split at h
    ·rename_i ok
     obtain⟨ma,h1,rfl⟩:=msi h
     have b:=ih top N sc a ma X S h1
     exact⟨pe_notD b.1,fun _=>pt_notD (b.2 ok)⟩
    ·cases h
   all_goals cases h
  case Compare a ops bs pos=>
   replace h:(match cSne (fun y=>isGl N sc y&&(c.tab.lookup y).isNone) (cE c n top N sc) a ops bs with
    |some m=>some m
    |none=>cCm (cE c n top N sc) a ops bs)=some m:=h
   split at h
   ·rename_i m' hs
    cases h
    unfold cSne at hs
    split at hs
    ·rename_i y py x pc b
     split at hs
     ·rename_i ok
      obtain⟨ok,ob⟩:=bae ok
      obtain⟨ok,ox⟩:=bae ok
      obtain⟨ok,ey⟩:=bae ok
      obtain⟨gy,_⟩:=bae ok
      have ey:y="sorted":=by simpa using ey
      subst ey
      obtain⟨mx,h1,hs⟩:=bsi hs
      obtain⟨mb,h2,rfl⟩:=msi hs
      exact pe_sne S.hu (S.gl _ (isGl_ok gy).2) (S.blt _ (by decide+kernel)) ox ob (ih1 x mx h1) (ih1 b mb h2)
     ·cases hs
    ·cases hs
   rename_i hs0
   clear hs0
   unfold cCm at h
   split at h
   ·rename_i op b
    split at h
    ·rename_i ok
     obtain⟨ma,h1,h⟩:=bsi h
     obtain⟨mb,h2,rfl⟩:=msi h
     exact ccmp_ok S.hu (ih1 a ma h1) (ih1 b mb h2) ok
    ·cases h
   ·rename_i op op' b d
    split at h
    ·rename_i ok
     obtain⟨ma,h1,h⟩:=bsi h
     obtain⟨mb,h2,h⟩:=bsi h
     obtain⟨md,h3,rfl⟩:=msi h
     exact cch_ok S.hu (ih1 a ma h1) (ih1 b mb h2) (ih1 d md h3) (bae ok).2
    ·cases h
   ·cases h
  case BoolOp op vs pos=>
   cases op
   case And=>
    replace h:(if 2≤vs.length then cAnd (cE c n top N sc) vs else none)=some m:=h
    split at h
    ·have b:=cand_ok (X:=X) (cl:=cl) (Γ:=Γ) (pos:=pos) (fun e _ m h=>ih top N sc e m X S h) h
     exact⟨b.1,fun _=>b.2.pt⟩
    ·cases h
   case Or=>
    replace h:(if 2≤vs.length then cOr (cE c n top N sc) vs else none)=some m:=h
    split at h
    ·have b:=cor_ok (X:=X) (cl:=cl) (Γ:=Γ) (pos:=pos) (fun e _ m h=>ih top N sc e m X S h) h
     exact⟨b.1,fun _=>b.2.pt⟩
    ·cases h
  case IfExp t a b pos=>
   replace h:(if okT t then(cE c n top N sc t).bind fun k=>(cE c n top N sc a).bind fun m=>(cE c n top N sc b).map fun l=>E.ite k m l else none)=some m:=h
   split at h
   ·rename_i ok
    obtain⟨mt,h1,h⟩:=bsi h
    obtain⟨ma,h2,h⟩:=bsi h
    obtain⟨mb,h3,rfl⟩:=msi h
    exact⟨pe_iteD ((ih top N sc t mt X S h1).2 ok) (ih1 a ma h2) (ih1 b mb h3),fun z=>by cases z⟩
   ·cases h
  case Call fn args ks pos=>
   cases ks with
   |cons kw kr=>
    replace h:(none:Option E)=some m:=h
    cases h
   |nil=>
   replace h:(match nmOf fn with
    |some x=>cCn c N sc (cE c n top N sc) x args
    |none=>cTx (cE c n top N sc) pos fn args)=some m:=h
   split at h
   rotate_left
   ·rename_i hn0
    clear hn0
    unfold cTx at h
    have go:PE X (.Call fn args [] pos) (tV X.K cl Γ m):=by
     split at h
     ·rename_i z cj cp mm apos a
      split at h
      ·rename_i ok
       obtain⟨ok,bm⟩:=bae ok
       obtain⟨ok,oa⟩:=bae ok
       obtain⟨ez,em⟩:=bae ok
       have ez:z=BLK:=by simpa using ez
       have em:mm="join":=by simpa using em
       subst ez em
       obtain⟨ma,h1,rfl⟩:=msi h
       exact pe_joiD oa bm (ih1 a ma h1)
      ·cases h
     ·rename_i x p mm apos z cj cp
      split at h
      ·rename_i bm
       split at h
       ·rename_i ok
        obtain⟨em,ez⟩:=bae ok
        have ez:z=BLK:=by simpa using ez
        have em:mm="split":=by simpa using em
        subst ez em
        obtain⟨ma,h1,rfl⟩:=msi h
        exact pe_splD (fun _=>rfl) bm (ih1 _ ma h1)
       ·split at h
        ·rename_i ok
         obtain⟨em,ez⟩:=bae ok
         have ez:z=FIG:=by simpa using ez
         have em:mm="strip":=by simpa using em
         subst ez em
         obtain⟨ma,h1,rfl⟩:=msi h
         exact pe_stpD (fun _=>rfl) bm (ih1 _ ma h1)
        ·cases h
      ·cases h
     ·cases h
    exact⟨go,fun _=>pt_of (by intro _;rfl) go⟩
   rename_i x h0
   obtain⟨p,rfl⟩:=nmOf_ok h0
   unfold cCn at h
   have go:PE X (.Call (.Name x p) args [] pos) (tV X.K cl Γ m):=by
    split at h
    ·rename_i ok
     obtain⟨ok,gx⟩:=bae ok
     obtain⟨o1,g1⟩:=isGl_ok gx
     obtain⟨n1,n2,n3⟩:=okN_ok o1
     split at h
     ·rename_i f hf
      ·obtain⟨ml,h1,rfl⟩:=msi h
       obtain⟨g,hg⟩:=hΓ x f hf
       cases args with
       |nil=>
        cases h1
        exact pe_callD0 (S.gl x g1) n1 (S.fn x f g hf hg) hg
       |cons e es=>exact pe_callD (S.gl x g1) n1 (S.fn x f g hf hg) hg (clist_ok (fun e _ m h=>ih1 e m h) ok h1) ok
     ·exact cb_ok S ih1 ok gx h
    ·cases h
   exact⟨go,fun _=>pt_of (by intro _;rfl) go⟩
  case Subscript a b pos=>
   replace h:((cE c n top N sc a).bind fun m=>cSu (cE c n top N sc) m b)=some m:=h
   replace h:=bsi h
   obtain⟨ma,h1,h⟩:=h
   unfold cSu at h
   split at h
   ·rename_i lo hi st p2
    cases st with
    |some st=>
     replace h:(none:Option E)=some m:=h
     cases h
    |none=>
     replace h:((cOpt (cE c n top N sc) lo).bind fun ml=>(cOpt (cE c n top N sc) hi).map fun mh=>E.cut ma ml mh)=some m:=h
     obtain⟨ml,h2,h⟩:=bsi h
     obtain⟨mh,h3,rfl⟩:=msi h
     have go:=pe_cutD (p2:=p2) (pos:=pos) (ih1 a ma h1) (po_D (fun e _ m h=>ih1 e m h) h2) (po_D (fun e _ m h=>ih1 e m h) h3)
     exact⟨go,fun _=>pt_of (by intro _;rfl) go⟩
   ·split at h
    ·rename_i ok
     obtain⟨mb,h2,rfl⟩:=msi h
     have go:PE X (.Subscript a b pos) (tV X.K cl Γ (.idx ma mb)):=peI (pe_ix (ix_D (cl:=cl)) (ih1 a ma h1) (ih1 b mb h2) (fun _ _=>by cases b<;>first|rfl|cases ok)) fun σ H Q q=>tV2 (fun _=>rfl) q
     exact⟨go,fun _=>pt_of (by intro _;rfl) go⟩
    ·cases h
  case List es pos=>
   replace h:(if es.all okE then(cList (cE c n top N sc) es).map .lst else none)=some m:=h
   split at h
   ·rename_i ok
    obtain⟨ml,h1,rfl⟩:=msi h
    have go:=pe_lstD (pos:=pos) (clist_ok (fun e _ m h=>ih1 e m h) ok h1)
    exact⟨go,fun _=>pt_of (by intro _;rfl) go⟩
   ·cases h
  case Tuple es k pos=>
   replace h:(if es.all okE then(cList (cE c n top N sc) es).map .tup else none)=some m:=h
   split at h
   ·rename_i ok
    obtain⟨ml,h1,rfl⟩:=msi h
    have go:=pe_tupD (k:=k) (pos:=pos) (clist_ok (fun e _ m h=>ih1 e m h) ok h1)
    exact⟨go,fun _=>pt_of (by intro _;rfl) go⟩
   ·cases h
  case ListComp elt gs scope pos=>
   replace h:(if top then cLc c N sc (cE c n top N sc) (fun N' e=>cE c n false N' scope e) elt scope gs else none)=some m:=h
   split at h
   ·rename_i tp
    subst tp
    unfold cLc at h
    split at h
    ·rename_i x px iter ifs
     have go:PE X (.ListComp elt [⟨.Name x px,iter,ifs,0⟩] scope pos) (tV X.K cl Γ m):=by
      split at h
      ·rename_i oi
       obtain⟨is,h1,h⟩:=bsi h
       split at h
       ·rename_i cs
        have cs:=compOk_ok cs
        obtain⟨mi,h2,h⟩:=bsi h
        obtain⟨me,h3,h⟩:=bsi h
        obtain⟨mc,h4,rfl⟩:=msi h
        have hi:PI X (.Name x px) iter (tI X.K cl Γ mi):=ci_ok S ih1 (fun z=>by cases z) h2
        have he:∀C s H fp pins,PE (compCx X scope (x::frees scope.names) C s H fp pins) elt (tV X.K cl Γ me):=fun C s H fp pins=>(ih false _ scope elt me _ (S.comp cs C s H fp pins) h3).1
        have hfs:∀v,foldedSetIterable iter X.env v=pure v:=by intro v;cases iter<;>first|rfl|cases oi
        have hcs:X.env.scope=sc:=S.tp rfl
        cases ifs with
        |nil=>
         cases h4
         exact peI (pe_comp S.calm hi he cs hcs S.hN hfs) fun σ H Q q=>comp_tV (fun σ H Q ⟨G,env,b,sg,en,e,q⟩=>by
          have e':some true=some b:=e
          cases e'
          exact q H G (Ext.refl sg)) q
        |cons t r=>
         cases r with
         |nil=>
          have h4':(if okT t then(cE c n false (x::frees scope.names) scope t).bind fun m=>if isNil m then none else some m else none)=some mc:=h4
          split at h4'
          ·rename_i okt
           obtain⟨m',h5,h6⟩:=bsi h4'
           split at h6
           ·cases h6
           ·rename_i nn
            cases h6
            have ht:∀C s H fp pins,PT (compCx X scope (x::frees scope.names) C s H fp pins) t (tVT X.K cl Γ mc):=fun C s H fp pins=>(ih false _ scope t mc _ (S.comp cs C s H fp pins) h5).2 okt
            exact peI (pe_compIf S.calm hi ht he cs hcs S.hN hfs) fun σ H Q q=>comp_tV (fun σ H Q ⟨G,env,b,sg,en,e,q⟩=>by
             unfold cS at e
             rw [if_neg nn]at e
             exact⟨G,env,b,sg,en,e,q⟩) q
          ·cases h4'
         |cons t2 r2=>cases h4
       ·cases h
      ·cases h
     exact⟨go,fun _=>pt_of (by intro _;rfl) go⟩
    ·cases h
   ·cases h
  all_goals cases h
end
noncomputable abbrev TEnv:=List (Option T)
noncomputable def dEnv(env:TEnv):Env:=env.map (·.map strip)
noncomputable def shOf:Option T→Option D
 |some (.sh d)=>some d
 |_=>none
noncomputable def fEnv(env:TEnv):Env:=env.map shOf
noncomputable def scal:D→Bool
 | .non=>true| .bl _=>true| .int _=>true| .str _=>true|_=>false
mutual
noncomputable def flatT:T→Bool
 | .sh d=>scal d
 | .ow ts=>flatTs ts
 | .ob _ _ ts=>flatTs ts
noncomputable def flatTs:List T→Bool
 |[]=>true
 |t::r=>flatT t&&flatTs r
end
structure Rep(K:W.Frag)(cl:Nat→Option Addr)(H₀ G₀:Hp)(io:Option (Nat×Addr))(F:Hp)(A:Nat→List Addr)(σ:St)(env:TEnv)(H:Hp):Prop where
 slot:∀(i:Nat) (t:T),env[i]?=some (some t)→∃v,σ[i]?=some (some v)∧OT K cl F H v t (A i)
 out:∀(i:Nat),(∀t,env[i]?≠some (some t))→A i=[]
 nd:∀(i:Nat),(A i).Nodup
 dj:∀(i j:Nat) (a:Addr),i≠j→a∈A i→a∈A j→False
 fh:Same F H
 gf:Same G₀ F
 fnew:∀b o,F b=some o→G₀ b=none→H₀ b=none
 keep:∀b o,H₀ b=some o→(∀p,io≠some (p,b))→H b=some o
 anew:∀(i:Nat) (a:Addr),a∈A i→(∃p,io=some (p,a))∨H₀ a=none
 iok:∀p a,io=some (p,a)→∃B,A p=a::B
structure Gro(F:Hp)(A:Nat→List Addr)(H F':Hp)(A':Nat→List Addr)(H':Hp):Prop where
 hh:Same H H'
 ff:Same F F'
 nw:∀b o,F' b=some o→F b=none→(∃j,b∈A j)∨H b=none
 aa:∀(j:Nat) (a:Addr),a∈A' j→a∈A j
section
variable{F F' F2 H H' H2:Hp}{A A' A2:Nat→List Addr}
theorem Gro.refl:Gro F A H F A H:=⟨.refl _,.refl _,(fun b o h1 h2=>by rw [h1]at h2;cases h2),fun _ _ h=>h⟩
theorem Gro.trans(x:Gro F A H F' A' H')(y:Gro F' A' H' F2 A2 H2):Gro F A H F2 A2 H2:=
 ⟨x.hh.trans y.hh,x.ff.trans y.ff,fun b o h1 h2=>by
   cases e:F' b with
   |some u=>exact x.nw b u e h2
   |none=>
    rcases y.nw b o h1 e with⟨j,z⟩|z
    ·exact .inl ⟨j,x.aa j b z⟩
    ·exact .inr (x.hh.free z),fun j a h=>x.aa j a (y.aa j a h)⟩
theorem Gro.of_ext(x:Ext H F H' F'):Gro F A H F' A H':=⟨x.hh,x.gg,fun b o h1 h2=> .inr (x.nw b o h1 h2),fun _ _ h=>h⟩
theorem Gro.of_same(x:Same H H'):Gro F A H F A H':=⟨x,.refl _,(fun b o h1 h2=>by rw [h1]at h2;cases h2),fun _ _ h=>h⟩
end
section
variable{K:W.Frag}{cl:Nat→Option Addr}{H₀ G₀ F H H' F':Hp}{io:Option (Nat×Addr)}{A:Nat→List Addr}{σ:St}{env:TEnv}
theorem Rep.ioa(R:Rep K cl H₀ G₀ io F A σ env H){p:Nat}{a:Addr}(h:io=some (p,a)):a∈A p:=by
 obtain⟨B,e⟩:=R.iok p a h
 rw [e];simp
theorem Rep.at_(R:Rep K cl H₀ G₀ io F A σ env H){i:Nat}{a:Addr}(h:a∈A i):F a=none∧∃o,H a=some o:=by
 cases e:env[i]? with
 |none=>rw [R.out i (fun t z=>by rw [e]at z;cases z)]at h;simp at h
 |some o=>
  cases o with
  |none=>rw [R.out i (fun t z=>by rw [e]at z;cases z)]at h;simp at h
  |some t=>
   obtain⟨v,_,ot⟩:=R.slot i t e
   exact ot.free a h
theorem Rep.grow(R:Rep K cl H₀ G₀ io F A σ env H)(hh:Same H H')(gg:Same F F')(gh:Same F' H')(nw:∀b o,F' b=some o→F b=none→H b=none):Rep K cl H₀ G₀ io F' A σ env H':=by
 have free:∀i a,a∈A i→F' a=none:=fun i a ha=>by
  obtain⟨h1,o,h2⟩:=R.at_ ha
  cases e:F' a with
  |none=>rfl
  |some u=>have:=nw a u e h1;rw [h2]at this;cases this
 refine⟨fun i t e=> ?_,R.out,R.nd,R.dj,gh,R.gf.trans gg,fun b o h1 h2=> ?_,fun b o h1 h2=>hh _ _ (R.keep b o h1 h2),R.anew,R.iok⟩
 ·obtain⟨v,h1,h2⟩:=R.slot i t e
  exact⟨v,h1,h2.move gg (free i) fun a _ o q=>hh _ _ q⟩
 ·cases e:F b with
  |some u=>exact R.fnew b u e h2
  |none=>
   have h3:=nw b o h1 e
   cases e':H₀ b with
   |none=>rfl
   |some u=>
    by_cases hb:∃p,io=some (p,b)
    ·obtain⟨p,hb⟩:=hb
     obtain⟨_,o',h4⟩:=R.at_ (R.ioa hb);rw [h3]at h4;cases h4
    ·have:=R.keep b u e' (fun p z=>hb ⟨p,z⟩);rw [h3]at this;cases this
theorem Rep.see(R:Rep K cl H₀ G₀ io F A σ env H):EnvD K cl H (dEnv env) σ:=fun i d e=>by
 unfold dEnv at e
 rw [List.getElem?_map]at e
 cases q:env[i]? with
 |none=>rw [q]at e;cases e
 |some o=>
  cases o with
  |none=>rw [q]at e;cases e
  |some t=>
   rw [q]at e
   cases e
   obtain⟨v,h1,h2⟩:=R.slot i t q
   exact⟨v,h1,h2.see R.fh (R.nd i)⟩
theorem Rep.seeF(R:Rep K cl H₀ G₀ io F A σ env H):EnvD K cl F (fEnv env) σ:=fun i d e=>by
 unfold fEnv at e
 rw [List.getElem?_map]at e
 cases q:env[i]? with
 |none=>rw [q]at e;cases e
 |some o=>
  cases o with
  |none=>rw [q]at e;cases e
  |some t=>
   rw [q]at e
   cases t with
   |sh d'=>
    cases e
    obtain⟨v,h1,h2⟩:=R.slot i _ q
    generalize A i=B at h2
    cases h2 with|sh h2=>exact⟨v,h1,h2⟩
   |ow ts=>cases e
   |ob c ks ts=>cases e
theorem Rep.store(R:Rep K cl H₀ G₀ io F A σ env H){i:Nat}{v:V}{t:T}{B:List Addr}(hp:∀p a,io=some (p,a)→p≠i)(hi:i<env.length)(hs:env.length=σ.length)(ot:OT K cl F H v t B)(nd:B.Nodup)(dj:∀j a,j≠i→a∈A j→a∈B→False)(an:∀a∈B,H₀ a=none):
 Rep K cl H₀ G₀ io F (fun j=>if j=i then B else A j) (σ.set i (some v)) (env.set i (some t)) H:=by
 refine⟨fun j u e=> ?_,fun j h=> ?_,fun j=> ?_,fun j k a hjk h1 h2=> ?_,R.fh,R.gf,R.fnew,R.keep,fun j a ha=> ?_,fun p a h=>by show∃B,(if p=i then _ else A p)=a::B;rw [if_neg (hp p a h)];exact R.iok p a h⟩
 ·by_cases hj:j=i
  ·subst hj
   rw [List.getElem?_set_self hi]at e
   cases e
   exact⟨v,by rw [List.getElem?_set_self (by lia)],by rw [if_pos rfl];exact ot⟩
  ·rw [List.getElem?_set_ne (Ne.symm hj)]at e
   obtain⟨w,h1,h2⟩:=R.slot j u e
   exact⟨w,by rw [List.getElem?_set_ne (Ne.symm hj)];exact h1,by rw [if_neg hj];exact h2⟩
 ·by_cases hj:j=i
  ·subst hj;exact absurd (List.getElem?_set_self hi) (h t)
  ·show(if j=i then B else A j)=[]
   rw [if_neg hj]
   refine R.out j fun u z=>h u ?_
   rw [List.getElem?_set_ne (Ne.symm hj)];exact z
 ·show(if j=i then B else A j).Nodup
  split
  ·exact nd
  ·exact R.nd j
 ·have h1':a∈(if j=i then B else A j):=h1
  have h2':a∈(if k=i then B else A k):=h2
  by_cases e1:j=i
  ·rw [if_pos e1]at h1'
   rw [if_neg (fun z=>hjk (e1.trans z.symm))]at h2'
   exact dj k a (fun z=>hjk (e1.trans z.symm)) h2' h1'
  ·rw [if_neg e1]at h1'
   by_cases e2:k=i
   ·rw [if_pos e2]at h2'
    exact dj j a e1 h1' h2'
   ·rw [if_neg e2]at h2'
    exact R.dj j k a hjk h1' h2'
 ·have ha':a∈(if j=i then B else A j):=ha
  split at ha'
  ·exact .inr (an a ha')
  ·exact R.anew j a ha'
theorem Rep.drop(R:Rep K cl H₀ G₀ io F A σ env H)(i:Nat)(hp:∀p a,io=some (p,a)→p≠i):Rep K cl H₀ G₀ io F (fun j=>if j=i then []else A j) σ (env.set i none) H:=by
 refine⟨fun j u e=> ?_,fun j h=> ?_,fun j=> ?_,fun j k a hjk h1 h2=> ?_,R.fh,R.gf,R.fnew,R.keep,fun j a ha=> ?_,fun p a h=>by show∃B,(if p=i then _ else A p)=a::B;rw [if_neg (hp p a h)];exact R.iok p a h⟩
 ·by_cases hj:j=i
  ·subst hj
   by_cases hl:j<env.length
   ·rw [List.getElem?_set_self hl]at e;cases e
   ·rw [List.getElem?_eq_none (by simp;lia)]at e;cases e
  ·rw [List.getElem?_set_ne (Ne.symm hj)]at e
   obtain⟨w,h1,h2⟩:=R.slot j u e
   exact⟨w,h1,by rw [if_neg hj];exact h2⟩
 ·show(if j=i then []else A j)=[]
  split
  ·rfl
  ·rename_i hj
   refine R.out j fun u z=>h u ?_
   rw [List.getElem?_set_ne (Ne.symm hj)];exact z
 ·show(if j=i then []else A j).Nodup
  split
  ·exact List.nodup_nil
  ·exact R.nd j
 ·have h1':a∈(if j=i then []else A j):=h1
  have h2':a∈(if k=i then []else A k):=h2
  split at h1'
  ·simp at h1'
  ·split at h2'
   ·simp at h2'
   ·exact R.dj j k a hjk h1' h2'
 ·have ha':a∈(if j=i then []else A j):=ha
  split at ha'
  ·simp at ha'
  ·exact R.anew j a ha'
theorem Rep.freeze(R:Rep K cl H₀ G₀ io F A σ env H)(i:Nat)(hp:∀p a,io=some (p,a)→p≠i){t:T}(e:env[i]?=some (some t)):∃F',Frz F F' H (A i)∧Rep K cl H₀ G₀ io F' (fun j=>if j=i then []else A j) σ (env.set i (some (.sh (strip t)))) H:=by
 obtain⟨v,h1,ot⟩:=R.slot i t e
 obtain⟨F',fz,dn⟩:=ot.freeze R.fh (R.nd i)
 have hi:i<env.length:=(List.getElem?_eq_some_iff.mp e).1
 refine⟨F',fz,fun j u e=> ?_,fun j h=> ?_,fun j=> ?_,fun j k a hjk h1 h2=> ?_,fz.gh,R.gf.trans fz.gg,fun b o q n=> ?_,R.keep,fun j a ha=> ?_,fun p a h=>by show∃B,(if p=i then _ else A p)=a::B;rw [if_neg (hp p a h)];exact R.iok p a h⟩
 ·by_cases hj:j=i
  ·subst hj
   rw [List.getElem?_set_self hi]at e
   cases e
   exact⟨v,h1,by rw [if_pos rfl];exact .sh dn⟩
  ·rw [List.getElem?_set_ne (Ne.symm hj)]at e
   obtain⟨w,h3,h4⟩:=R.slot j u e
   refine⟨w,h3,?_⟩
   rw [if_neg hj]
   exact h4.move fz.gg (fun a ha=>by rw [fz.on a fun z=>R.dj j i a hj ha z];exact(h4.free a ha).1) fun _ _ _ q=>q
 ·show(if j=i then []else A j)=[]
  split
  ·rfl
  ·rename_i hj
   refine R.out j fun u z=>h u ?_
   rw [List.getElem?_set_ne (Ne.symm hj)];exact z
 ·show(if j=i then []else A j).Nodup
  split
  ·exact List.nodup_nil
  ·exact R.nd j
 ·have h1':a∈(if j=i then []else A j):=h1
  have h2':a∈(if k=i then []else A k):=h2
  split at h1'
  ·simp at h1'
  ·split at h2'
   ·simp at h2'
   ·exact R.dj j k a hjk h1' h2'
 ·by_cases hb:b∈A i
  ·rcases R.anew i b hb with z|z
   ·obtain⟨p,z⟩:=z
    exact(R.dj p i b (hp p b z) (R.ioa z) hb).elim
   ·exact z
  ·rw [fz.on b hb]at q;exact R.fnew b o q n
 ·have ha':a∈(if j=i then []else A j):=ha
  split at ha'
  ·simp at ha'
  ·exact R.anew j a ha'
theorem Rep.write(R:Rep K cl H₀ G₀ io F A σ env H){i:Nat}{ts ts':List T}(e:env[i]?=some (some (.ow ts))){p:Addr}{xs:List V}{B:List Addr}(hA:A i=p::B){xs':List V}{B':List Addr}(ot:OTs K cl F (upd H p (.lst xs')) xs' ts' B')(nd:(p::B').Nodup)
 (dj:∀j a,j≠i→a∈A j→a∈B'→False)(an:∀a∈B',H₀ a=none)(hs:σ[i]?=some (some (.ref p))):Rep K cl H₀ G₀ io F (fun j=>if j=i then p::B' else A j) σ (env.set i (some (.ow ts'))) (upd H p (.lst xs')):=by
 have hi:i<env.length:=(List.getElem?_eq_some_iff.mp e).1
 have hp:p∈A i:=by rw [hA];simp
 have fp:F p=none:=(R.at_ hp).1
 have ne:∀j a,j≠i→a∈A j→a≠p:=fun j a hj ha z=>R.dj j i a hj ha (by rw [z];exact hp)
 refine⟨fun j u e'=> ?_,fun j h=> ?_,fun j=> ?_,fun j k a hjk h1 h2=> ?_,fun b o q=> ?_,R.gf,R.fnew,fun b o h1 h2=> ?_,fun j a ha=> ?_,fun q a h=> ?_⟩
 ·by_cases hj:j=i
  ·subst hj
   rw [List.getElem?_set_self hi]at e'
   cases e'
   exact⟨_,hs,by rw [if_pos rfl];exact .ow upd_same fp ot⟩
  ·rw [List.getElem?_set_ne (Ne.symm hj)]at e'
   obtain⟨w,h3,h4⟩:=R.slot j u e'
   refine⟨w,h3,?_⟩
   rw [if_neg hj]
   exact h4.move (.refl _) (fun a ha=>(h4.free a ha).1) fun a ha o q=>by rw [upd_ne (ne j a hj ha)];exact q
 ·by_cases hj:j=i
  ·subst hj;exact absurd (List.getElem?_set_self hi) (h _)
  ·show(if j=i then p::B' else A j)=[]
   rw [if_neg hj]
   refine R.out j fun u z=>h u ?_
   rw [List.getElem?_set_ne (Ne.symm hj)];exact z
 ·show(if j=i then p::B' else A j).Nodup
  split
  ·exact nd
  ·exact R.nd j
 ·have h1':a∈(if j=i then p::B' else A j):=h1
  have h2':a∈(if k=i then p::B' else A k):=h2
  have one:∀j,j≠i→a∈A j→a∈p::B'→False:=fun j hj h3 h4=>by
   rcases List.mem_cons.mp h4 with z|z
   ·exact ne j a hj h3 z
   ·exact dj j a hj h3 z
  by_cases e1:j=i
  ·rw [if_pos e1]at h1'
   rw [if_neg (fun z=>hjk (e1.trans z.symm))]at h2'
   exact one k (fun z=>hjk (e1.trans z.symm)) h2' h1'
  ·rw [if_neg e1]at h1'
   by_cases e2:k=i
   ·rw [if_pos e2]at h2'
    exact one j e1 h1' h2'
   ·rw [if_neg e2]at h2'
    exact R.dj j k a hjk h1' h2'
 ·rw [upd_ne (ne_of_none q fp)];exact R.fh _ _ q
 ·rw [upd_ne]
  ·exact R.keep b o h1 h2
  ·rintro rfl
   rcases R.anew i b hp with⟨q,z⟩|z
   ·exact h2 q z
   ·rw [z]at h1;cases h1
 ·have ha':a∈(if j=i then p::B' else A j):=ha
  split at ha'
  ·rcases List.mem_cons.mp ha' with z|z
   ·rw [z];exact R.anew i p hp
   ·exact .inr (an a z)
  ·exact R.anew j a ha'
 ·show∃B,(if q=i then p::B' else A q)=a::B
  obtain⟨C,h5⟩:=R.iok q a h
  split
  ·rename_i hq
   subst hq
   rw [hA]at h5
   injection h5 with h6 _
   exact⟨B',by rw [h6]⟩
  ·exact⟨C,h5⟩
end
noncomputable def fresh:E→Bool
 | .bin .Add _ _=>true
 | .bin .Mult _ _=>true
 | .cut _ _ _=>true
 | .rev _=>true
 | .lst _=>true
 | .comp _ _ _ _=>true
 | .un .list _=>true
 | .un .lrng _=>true
 |_=>false
noncomputable def tF(K:W.Frag)(cl:Nat→Option Addr)(Γ:Tab)(m:E):TE:=fun σ H Q=>∃G env ds,Same G H∧EnvD K cl G env σ∧ev Γ m env=some (.lst ds)∧∀p xs H1 G1,Ext H G H1 G1→H p=none→G1 p=none→H1 p=some (.lst xs)→Dns K cl G1 xs ds→Q (.ref p) H1
theorem upQ{K:W.Frag}{cl:Nat→Option Addr}{G H:Hp}{ds:List D}{Q:VK}(q:∀p xs H1 G1,Ext H G H1 G1→H p=none→G1 p=none→H1 p=some (.lst xs)→Dns K cl G1 xs ds→Q (.ref p) H1)(p:Addr)(xs:List V)(H1 G1:Hp)(x:Ext H G H1 G1)(hp:H1 p=none)(d:Dns K cl G1 xs ds):Q (.ref p) (upd H1 p (.lst xs)):=
 q p xs _ G1 (x.trans (Ext.newO x.gh hp _)) (x.hh.free hp) (x.gh.free hp) upd_same d
section
variable{X:Cx}{cl:Nat→Option Addr}{Γ:Tab}{c:CC}
noncomputable def rF(K:W.Frag)(cl:Nat→Option Addr)(g:D→D→Option D):R2:=fun v u H Q=>∃G x y ds,Same G H∧Dn K cl G v x∧Dn K cl G u y∧g x y=some (.lst ds)∧∀p xs,H p=none→Dns K cl G xs ds→Q (.ref p) (upd H p (.lst xs))
theorem op_binF(op:Operator):OpR X (binaryOp op) (rF X.K cl (binD op)):=by
 intro pins s σ H x y v u Q I rx ry ⟨G,a,b,ds,sg,da,db,hg,q⟩
 unfold binD at hg
 split at hg
 all_goals try (cases hg;done)
 all_goals try (split at hg<;>first|(cases hg;done)|skip)
 ·rename_i hz
  cases hg
  cases da with| @lst p xs _ h1 h2=>cases db with| @lst p' xs' _ h1' h2'=>
   exact op_catR pins s σ H _ _ v u Q I rx ry ⟨_,_,_,_,rfl,rfl,rl_mono sg h1,rl_mono sg h1',sz_le (by rw [h2.length,h2'.length];exact hz),fun r hr=>q r _ hr (h2.append h2')⟩
 ·rename_i hz
  cases hg;cases db
  cases da with| @lst p xs _ h1 h2=>
   obtain⟨hz1,hz2⟩:=bae hz
   have hz2:=odt hz2
   exact op_repR pins s σ H _ _ v u Q I rx ry ⟨_,_,_,rfl,rfl,rl_mono sg h1,by lia,by lia,sz_le (by rw [h2.length];exact hz1),fun r hr=>q r _ hr (h2.rep _)⟩
theorem tF2{a b m:E}{g:D→D→Option D}{K:W.Frag}{σ:St}{H:Hp}{Q:VK}(h:∀env,ev Γ m env=(ev Γ a env).bind fun x=>(ev Γ b env).bind fun y=>g x y):tF K cl Γ m σ H Q→tOp (rF K cl g) (tV K cl Γ a) (tV K cl Γ b) σ H Q:=by
 rintro ⟨G,env,d,sg,en,e,q⟩
 have q:=upQ q
 rw [h]at e
 obtain⟨x,ex,e⟩:=bsi e
 obtain⟨y,ey,e⟩:=bsi e
 exact⟨G,env,x,sg,en,ex,fun v H1 G1 e1 d1=>⟨G1,env,y,e1.gh,en.mono e1.gg,ey,fun u H2 G2 e2 d2=>⟨G2,x,y,d,e2.gh,d1.mono e2.gg,d2,e,fun p xs hp dx=>q p xs H2 G2 (e1.trans e2) hp dx⟩⟩⟩
theorem pe_cutF{a:Expr}{lo hi:Option Expr}{ma ml mh:E}{p2 pos:Pos}(ha:PE X a (tV X.K cl Γ ma))(hl:PO X lo (tVO X.K cl Γ ml))(hh:PO X hi (tVO X.K cl Γ mh)):PE X (.Subscript a (.Slice lo hi none p2) pos) (tF X.K cl Γ (.cut ma ml mh)):=by
 refine peI (pe_slice sl_list ha hl hh) fun σ H Q ⟨G,env,ds,sg,en,e,q⟩=> ?_
 have q:=upQ q
 obtain⟨x,ex,e⟩:=bsi (show(ev Γ ma env).bind (fun x=>(optS ml (ev Γ ml env)).bind fun l=>(optS mh (ev Γ mh env)).bind fun h=>cutD x l h)=some (.lst ds)from e)
 obtain⟨l,el,e⟩:=bsi e
 obtain⟨h,eh,e⟩:=bsi e
 refine⟨G,env,x,sg,en,ex,fun v H1 G1 x1 d1=>⟨G1,env,l,x1.gh,en.mono x1.gg,el,fun H2 G2 x2=>⟨G2,env,h,x2.gh,en.mono (x1.gg.trans x2.gg),eh,fun H3 G3 x3=> ?_⟩⟩⟩
 unfold cutD at e
 split at e
 ·cases e
  cases d1 with| @lst p xs _ h1 h2=>
   have x123:=(x1.trans x2).trans x3
   refine⟨p,xs,rfl,(rl_mono (x2.gg.trans (x3.gg.trans x3.gh)) h1).sql,fun r hr=>q r _ H3 G3 x123 hr ?_⟩
   have h2:=h2.mono (x2.gg.trans x3.gg)
   unfold cutV cutL
   rw [h2.length]
   exact(h2.drop _).take _
 ·split at e<;>cases e
 ·cases e
theorem pe_lstF{es:List Expr}{m:E}{pos:Pos}(h:PA X es (tVs X.K cl Γ m)):PE X (.List es pos) (tF X.K cl Γ (.lst m)):=by
 refine peI (pe_lst h) fun σ H Q ⟨G,env,ds,sg,en,e,q⟩=> ?_
 have q:=upQ q
 obtain⟨l,e1,e⟩:=bsi (show(ev Γ m env).bind szL=some (.lst ds)from e)
 cases l with
 |lst l=>
  have e':(if sz l.length then some (D.lst l)else none)=some (.lst ds):=e
  split at e'
  ·rename_i hz
   cases e'
   exact⟨G,env,_,sg,en,by unfold evs;rw [e1];rfl,fun vs H' G' x dv=>⟨sz_le (by rw [dv.length];exact hz),fun p hp=>q p vs H' G' x hp dv⟩⟩
  ·cases e'
 |_=>cases e
theorem pe_listF{a:Expr}{ma:E}{p pos:Pos}(gg:Gl X "list")(mg:X.mg "list"=none)(oa:okE a=true)(ha:PE X a (tV X.K cl Γ ma)):PE X (.Call (.Name "list" p) [a] [] pos) (tF X.K cl Γ (.un .list ma)):=by
 refine peI (pe_callTy call_list_of gg mg bt_list (pa_cons ha pa_nil (star_of oa _ _)) (by decide) (by decide) (star_of oa _ _) rfl) fun σ H Q ⟨G,env,ds,sg,en,e,q⟩=> ?_
 have q:=upQ q
 obtain⟨x,ex,e⟩:=bsi (show(ev Γ ma env).bind (unD .list)=some (.lst ds)from e)
 refine⟨G,env,x,sg,en,ex,fun v H1 G1 x1 d1=> ?_⟩
 cases x with
 |lst l=>
  cases e
  cases d1 with|lst h1 h2=>exact⟨_,_,rfl,.inl (rl_mono x1.gh h1).sql,fun l hl=>q l _ H1 G1 x1 hl h2⟩
 |tup l=>
  cases e
  cases d1 with|tup h1 h2=>exact⟨_,_,rfl,.inr (.inl (.inl (x1.gh _ _ h1))),fun l hl=>q l _ H1 G1 x1 hl h2⟩
 |_=>cases e
theorem pe_lrngF{b:Expr}{mb:E}{p py pb pos:Pos}(calm:X.calm=true)(gg:Gl X "list")(mg:X.mg "list"=none)(g2:Gl X "range")(m2:X.mg "range"=none)(ob:okE b=true)(hb:PE X b (tV X.K cl Γ mb)):PE X (.Call (.Name "list" p) [.Call (.Name "range" py) [b] [] pb] [] pos) (tF X.K cl Γ (.un .lrng mb)):=by
 refine peI (pe_callTy (call_list_rng calm) gg mg bt_list (pa_cons (pe_callTy call_range1R g2 m2 bt_range (pa_cons hb pa_nil (star_of ob _ _)) (by decide) (by decide) (star_of ob _ _) rfl) pa_nil rfl) (by decide) (by decide) rfl rfl) fun σ H Q ⟨G,env,ds,sg,en,e,q⟩=> ?_
 have q:=upQ q
 obtain⟨z,e1,e⟩:=bsi (show(ev Γ mb env).bind (unD .lrng)=some (.lst ds)from e)
 refine⟨G,env,z,sg,en,e1,fun v H1 G1 x1 d1=> ?_⟩
 cases z with
 |int n=>
  have e':(if decide (-(2 ^ 60)≤n∧n≤1000000)then some (D.lst ((List.range n.toNat).map fun(i:Nat)=>D.int i))else none)=some (.lst ds):=e
  split at e'
  ·rename_i hn
   have hn:=odt hn
   cases e'
   cases d1
   refine⟨n,rfl,fun p hp=> ?_⟩
   have x2:=Ext.newO x1.gh hp (.rng 0 n)
   refine⟨p,0,n,rfl,upd_same,by decide,by decide,by lia,by lia,by lia,fun l hl=> ?_⟩
   rw [Int.sub_zero]
   refine q l _ _ _ (x1.trans x2) hl ?_
   have e3:((List.range n.toNat).map fun(i:Nat)=>V.int (0+(i:Int)))=((List.range n.toNat).map fun(i:Nat)=>(i:Int)).map V.int:=by simp
   have e4:((List.range n.toNat).map fun(i:Nat)=>D.int (i:Int))=((List.range n.toNat).map fun(i:Nat)=>(i:Int)).map D.int:=by simp
   rw [e3,e4]
   exact dns_ints _
  ·cases e'
 |_=>cases e
theorem comp_tF{wi:E}{is:List Nat}{me mc:E}{K:W.Frag}{tt:TT}(htt:∀σ H (Q:Bool→Hp→Prop),(∃G env b,Same G H∧EnvD K cl G env σ∧cS mc (ev Γ mc env)=some b∧∀H' G',Ext H G H' G'→Q b H')→tt σ H Q){σ:St}{H:Hp}{Q:VK}:
 tF K cl Γ (.comp me is wi mc) σ H Q→tComp (tI K cl Γ wi) is tt (tV K cl Γ me) σ H Q:=by
 rintro ⟨G,env,out,sg,en,e,q⟩
 obtain⟨ds,e1,e⟩:=bsi (show((ev Γ wi env).bind walkD).bind (fun ds=>if sz ds.length then(compR (fun d=>(cS mc (ev Γ mc (inner env is d))).bind fun b=>if b then(ev Γ me (inner env is d)).map some else some none) ds).map D.lst else none)=some (.lst out)from e)
 split at e
 ·rename_i hz
  obtain⟨out',e2,e3⟩:=msi e
  cases e3
  generalize hf:(fun d=>(cS mc (ev Γ mc (inner env is d))).bind fun b=>if b then(ev Γ me (inner env is d)).map some else some none)=f at e2
  have hfd:∀d,f d=(cS mc (ev Γ mc (inner env is d))).bind fun b=>if b then(ev Γ me (inner env is d)).map some else some none:=fun d=>by rw [←hf]
  clear hf
  have hz':=odt hz
  refine⟨G,env,ds,sg,en,e1,fun J H1 G1 x1 wk _ D hD=> ?_⟩
  have gD:G1 D=none:=x1.gh.free hD
  refine⟨fun i k H2=>k=ds.length-i∧i≤ds.length∧∃G2 ys es rest,Ext H1 G1 H2 G2∧H2 D=some (.lst ys)∧G2 D=none∧Dns K cl G2 ys es∧ys.length≤i∧compR f (ds.drop i)=some rest∧es++rest=out,⟨ds.length,by simp,Nat.zero_le _,G1,[],[],out,⟨same_upd hD _,.refl _,x1.gh.trans (same_upd hD _),fun b o h1 h2=>by rw [h1]at h2;cases h2⟩,upd_same,gD,.nil,by simp,e2,rfl⟩,?_⟩
  rintro i k H2 ⟨rfl,hi,G2,ys,es,rest,x2,hy,g2D,dy,hle,hr,ho⟩
  obtain⟨w1,w2⟩:=wk H2 G2 i x2.gg x2.gh
  by_cases hlt:i<ds.length
  ·have hd:ds[i]?=some ds[i]:=List.getElem?_eq_getElem hlt
   obtain⟨g,y⟩:=w2 _ hd
   refine .inr ⟨g,fun v H3 yl=> ?_⟩
   obtain⟨G3,x3,d3⟩:=y v H3 yl
   rw [List.drop_eq_getElem_cons hlt]at hr
   obtain⟨o,t,f1,f2,f3⟩:=compR_snoc hr
   rw [hfd]at f1
   obtain⟨b,c1,c2⟩:=bsi f1
   have en3:EnvD K cl G3 (inner env is ds[i]) (compSt σ is (some v)):=(en.mono ((x1.gg.trans x2.gg).trans x3.gg)).inner d3 is
   have g3D:G3 D=none:=by
    cases z:G3 D with
    |none=>rfl
    |some o=>have:=x3.nw D o z g2D;rw [hy]at this;cases this
   refine htt _ _ _ ⟨G3,_,b,x3.gh,en3,c1,fun H4 G4 x4=> ?_⟩
   have g4D:G4 D=none:=by
    cases z:G4 D with
    |none=>rfl
    |some o=>have:=x4.nw D o z g3D;rw [x3.hh _ _ hy]at this;cases this
   cases b with
   |false=>
    have c2':some none=some o:=c2
    cases c2'
    exact iteF ⟨ds.length-(i+1),by lia,rfl,hlt,G4,ys,es,t,(x2.trans x3).trans x4,x4.hh _ _ (x3.hh _ _ hy),g4D,dy.mono (x3.gg.trans x4.gg),by lia,f2,by rw [←ho,f3];rfl⟩
   |true=>
    obtain⟨z,c3,c4⟩:=msi (show(ev Γ me (inner env is ds[i])).map some=some o from c2)
    subst c4
    refine iteT ⟨G4,_,z,x4.gh,en3.mono x4.gg,c3,fun u H5 G5 x5 d5=> ?_⟩
    have g5D:G5 D=none:=by
     cases z:G5 D with
     |none=>rfl
     |some o=>have:=x5.nw D o z g4D;rw [x4.hh _ _ (x3.hh _ _ hy)]at this;cases this
    have hy5:H5 D=some (.lst ys):=x5.hh _ _ (x4.hh _ _ (x3.hh _ _ hy))
    refine⟨ys,hy5,by rw [sizeLine_eq];lia,ds.length-(i+1),by lia,rfl,hlt,G5,ys++[u],es++[z],t,?_,upd_same,g5D,(dy.mono ((x3.gg.trans x4.gg).trans x5.gg)).append (.cons d5 .nil),by rw [List.length_append,List.length_singleton];lia,f2,by rw [←ho,f3,List.append_assoc];rfl⟩
    have x25:=((x2.trans x3).trans x4).trans x5
    exact⟨fun b o h=>by rw [upd_ne (ne_of_none h hD)];exact x25.hh _ _ h,x25.gg,fun b o h=>by rw [upd_ne (ne_of_none h g5D)];exact x25.gh _ _ h,x25.nw⟩
  ·have e0:i=ds.length:=by lia
   subst e0
   refine .inl ⟨w1 rfl,?_⟩
   rw [List.drop_length]at hr
   have hr':some []=some rest:=hr
   cases hr'
   rw [List.append_nil]at ho
   subst ho
   have x12:=x1.trans x2
   exact q D ys H2 G2 x12 (x1.hh.free hD) g2D hy dy
 ·cases e
theorem cand_form{f:Expr→Option E}{es:List Expr}{m:E}(h2:2≤es.length)(h:cAnd f es=some m):∃a b,m=.and a b:=by
 match es,h2,h with
 |a::b::r,_,h=>
  have h':(if okT a then(f a).bind fun m=>(cAnd f (b::r)).map fun l=> .and m l else none)=some m:=h
  split at h'
  ·obtain⟨x,_,h'⟩:=bsi h'
   obtain⟨y,_,rfl⟩:=msi h'
   exact⟨x,y,rfl⟩
  ·cases h'
theorem cor_form{f:Expr→Option E}{es:List Expr}{m:E}(h2:2≤es.length)(h:cOr f es=some m):∃a b,m=.or a b:=by
 match es,h2,h with
 |a::b::r,_,h=>
  have h':(if okT a then(f a).bind fun m=>(cOr f (b::r)).map fun l=> .or m l else none)=some m:=h
  split at h'
  ·obtain⟨x,_,h'⟩:=bsi h'
   obtain⟨y,_,rfl⟩:=msi h'
   exact⟨x,y,rfl⟩
  ·cases h'
noncomputable def isVr:E→Bool
 | .var _=>true
 |_=>false
noncomputable def isCall:E→Bool
 | .call _ _=>true
 |_=>false
noncomputable def hdOk(m:E):Expr→Bool
 | .Name _ _=> !isCall m&& !fresh m
 | .Call _ _ _ _=> !isVr m
 | .BinOp _ _ _ _=> !isVr m&& !isCall m
 | .Subscript _ _ _=> !isVr m&& !isCall m
 | .List _ _=> !isVr m&& !isCall m
 | .ListComp _ _ _ _=> !isVr m&& !isCall m
 |_=> !isVr m&& !isCall m&& !fresh m
theorem cB_head{g:Str→Bool}{f:Expr→Option E}{x:Str}{args:List Expr}{m:E}(h:cB g f x args=some m):isVr m=false∧isCall m=false:=by
 unfold cB at h
 split at h
 ·repeat' (split at h)
  all_goals first
   |(cases h;done)
   |(obtain⟨_,_,rfl⟩:=msi h;exact⟨rfl,rfl⟩)
 ·repeat' (split at h)
  all_goals first
   |(cases h;done)
   |(obtain⟨_,_,rfl⟩:=msi h;exact⟨rfl,rfl⟩)
   |(obtain⟨_,_,h⟩:=bsi h
     obtain⟨_,_,rfl⟩:=msi h;exact⟨rfl,rfl⟩)
 ·cases h
theorem cTx_form{r:Expr→Option E}{pos:Pos}{f:Expr}{args:List Expr}{m:E}(h:cTx r pos f args=some m):∃a,m=.un .joi a∨m=.un .spl a∨m=.un .stp a:=by
 unfold cTx at h
 split at h
 ·split at h
  ·obtain⟨a,_,rfl⟩:=msi h;exact⟨a,.inl rfl⟩
  ·cases h
 ·split at h
  ·split at h
   ·obtain⟨a,_,rfl⟩:=msi h;exact⟨a,.inr (.inl rfl)⟩
   ·split at h
    ·obtain⟨a,_,rfl⟩:=msi h;exact⟨a,.inr (.inr rfl)⟩
    ·cases h
  ·cases h
 ·cases h
theorem cE_head{c:CC}{n:Nat}{top:Bool}{N:List Str}{sc:Scope}{e:Expr}{m:E}(h:cE c (n+1) top N sc e=some m):hdOk m e=true:=by
 cases e
 case Name x pos=>
  replace h:cNa c N sc x=some m:=h
  unfold cNa at h
  split at h
  ·split at h
   ·cases h;rfl
   ·split at h
    ·split at h
     ·cases h;rfl
     ·obtain⟨_,_,rfl⟩:=msi h;rfl
    ·cases h
  ·cases h
 case Constant k kk pos=>
  cases k
  all_goals first|(cases h;rfl)|(cases h;done)
 case BinOp a op b pos=>
  obtain⟨_,_,h⟩:=bsi h
  obtain⟨_,_,rfl⟩:=msi h;rfl
 case UnaryOp op a pos=>
  cases op
  case USub=>obtain⟨_,_,rfl⟩:=msi h;rfl
  case Not=>
   replace h:(if okT a then(cE c n top N sc a).map .not else none)=some m:=h
   split at h
   ·obtain⟨_,_,rfl⟩:=msi h;rfl
   ·cases h
  all_goals cases h
 case Compare a ops bs pos=>
  replace h:(match cSne (fun y=>isGl N sc y&&(c.tab.lookup y).isNone) (cE c n top N sc) a ops bs with
   |some m=>some m
   |none=>cCm (cE c n top N sc) a ops bs)=some m:=h
  split at h
  ·rename_i m' hs
   cases h
   unfold cSne at hs
   split at hs
   ·split at hs
    ·obtain⟨_,_,hs⟩:=bsi hs
     obtain⟨_,_,rfl⟩:=msi hs;rfl
    ·cases hs
   ·cases hs
  unfold cCm at h
  split at h
  ·split at h
   ·obtain⟨_,_,h⟩:=bsi h
    obtain⟨_,_,rfl⟩:=msi h;rfl
   ·cases h
  ·split at h
   ·obtain⟨_,_,h⟩:=bsi h
    obtain⟨_,_,h⟩:=bsi h
    obtain⟨_,_,rfl⟩:=msi h;rfl
   ·cases h
  ·cases h
 case BoolOp op vs pos=>
  cases op
  case And=>
   replace h:(if 2≤vs.length then cAnd (cE c n top N sc) vs else none)=some m:=h
   split at h
   ·rename_i h2;obtain⟨_,_,rfl⟩:=cand_form h2 h;rfl
   ·cases h
  case Or=>
   replace h:(if 2≤vs.length then cOr (cE c n top N sc) vs else none)=some m:=h
   split at h
   ·rename_i h2;obtain⟨_,_,rfl⟩:=cor_form h2 h;rfl
   ·cases h
 case IfExp t a b pos=>
  replace h:(if okT t then(cE c n top N sc t).bind fun k=>(cE c n top N sc a).bind fun m=>(cE c n top N sc b).map fun l=>E.ite k m l else none)=some m:=h
  split at h
  ·obtain⟨_,_,h⟩:=bsi h
   obtain⟨_,_,h⟩:=bsi h
   obtain⟨_,_,rfl⟩:=msi h;rfl
  ·cases h
 case Call fn args ks pos=>
  cases ks with
  |cons kw kr=>
   replace h:(none:Option E)=some m:=h
   cases h
  |nil=>
  replace h:(match nmOf fn with
   |some x=>cCn c N sc (cE c n top N sc) x args
   |none=>cTx (cE c n top N sc) pos fn args)=some m:=h
  split at h
  rotate_left
  ·obtain⟨_,rfl|rfl|rfl⟩:=cTx_form h<;>rfl
  rename_i x h0
  unfold cCn at h
  split at h
  ·split at h
   ·obtain⟨_,_,rfl⟩:=msi h;rfl
   ·show(!isVr m)=true
    rw [(cB_head h).1];rfl
  ·cases h
 case Subscript a b pos=>
  replace h:((cE c n top N sc a).bind fun m=>cSu (cE c n top N sc) m b)=some m:=h
  replace h:=bsi h
  obtain⟨ma,h1,h⟩:=h
  unfold cSu at h
  split at h
  ·rename_i lo hi st p2
   cases st with
   |some st=>
    replace h:(none:Option E)=some m:=h
    cases h
   |none=>
    obtain⟨_,_,h⟩:=bsi h
    obtain⟨_,_,rfl⟩:=msi h;rfl
  ·split at h
   ·obtain⟨_,_,rfl⟩:=msi h;rfl
   ·cases h
 case List es pos=>
  replace h:(if es.all okE then(cList (cE c n top N sc) es).map .lst else none)=some m:=h
  split at h
  ·obtain⟨_,_,rfl⟩:=msi h;rfl
  ·cases h
 case Tuple es k pos=>
  replace h:(if es.all okE then(cList (cE c n top N sc) es).map .tup else none)=some m:=h
  split at h
  ·obtain⟨_,_,rfl⟩:=msi h;rfl
  ·cases h
 case ListComp elt gs scope pos=>
  replace h:(if top then cLc c N sc (cE c n top N sc) (fun N' e=>cE c n false N' scope e) elt scope gs else none)=some m:=h
  split at h
  ·unfold cLc at h
   split at h
   ·split at h
    ·obtain⟨is,h1,h⟩:=bsi h
     split at h
     ·obtain⟨mi,h2,h⟩:=bsi h
      obtain⟨me,h3,h⟩:=bsi h
      obtain⟨mc,h4,rfl⟩:=msi h;rfl
     ·cases h
    ·cases h
   ·cases h
  ·cases h
 all_goals cases h
theorem no_fresh{m:E}{a:Bool}{P:Prop}(hh:(a&& !fresh m)=true)(hf:fresh m=true):P:=by
 rw [hf]at hh
 cases a<;>cases hh
theorem cF_ok(hΓ:∀x f,c.tab.lookup x=some f→∃g,Γ f=some g){n:Nat}{top:Bool}{N:List Str}{sc:Scope}{e:Expr}{m:E}(S:Sees X cl c Γ top N sc)(h:cE c n top N sc e=some m)(hf:fresh m=true):PE X e (tF X.K cl Γ m):=by
 cases n with
 |zero=>cases h
 |succ n=>
  have ih1:∀e m,cE c n top N sc e=some m→PE X e (tV X.K cl Γ m):=fun e m h=>(cE_ok hΓ n top N sc e m X S h).1
  have hh:=cE_head h
  cases e
  case BinOp a op b pos=>
   replace h:((cE c n top N sc a).bind fun m=>(cE c n top N sc b).map fun l=>E.bin op m l)=some m:=h
   obtain⟨ma,h1,h⟩:=bsi h
   obtain⟨mb,h2,rfl⟩:=msi h
   exact peI (pe_op (op_binF (cl:=cl) op) (ih1 a ma h1) (ih1 b mb h2)) fun σ H Q q=>tF2 (fun _=>rfl) q
  case Call fn args ks pos=>
   cases ks with
   |cons kw kr=>
    replace h:(none:Option E)=some m:=h
    cases h
   |nil=>
   replace h:(match nmOf fn with
    |some x=>cCn c N sc (cE c n top N sc) x args
    |none=>cTx (cE c n top N sc) pos fn args)=some m:=h
   split at h
   rotate_left
   ·obtain⟨_,rfl|rfl|rfl⟩:=cTx_form h<;>cases hf
   rename_i x h0
   obtain⟨p,rfl⟩:=nmOf_ok h0
   unfold cCn at h
   split at h
   ·rename_i ok
    obtain⟨ok,gx⟩:=bae ok
    obtain⟨o1,g1⟩:=isGl_ok gx
    have gg:=S.gl x g1
    split at h
    ·obtain⟨_,_,rfl⟩:=msi h;cases hf
    ·unfold cB at h
     split at h
     ·rename_i a
      rw [List.all_cons,Bool.and_eq_true]at ok
      have oa:=ok.1
      split at h
      ·obtain⟨_,_,rfl⟩:=msi h;cases hf
      split at h
      ·rename_i e
       have e:x="list":=by simpa using e
       subst e
       split at h
       ·rename_i y py b pb
        split at h
        ·rename_i hr
         obtain⟨hr,ob⟩:=bae hr
         obtain⟨hr1,hr2⟩:=bae hr
         obtain⟨hr1,_⟩:=bae hr1
         have e:y="range":=by simpa using hr2
         subst e
         obtain⟨mb,h1,rfl⟩:=msi h
         obtain⟨_,g2⟩:=isGl_ok hr1
         exact pe_lrngF S.calm gg (S.blt _ (by decide+kernel)) (S.gl _ g2) (S.blt _ (by decide+kernel)) ob (ih1 b mb h1)
        ·obtain⟨ma,h1,rfl⟩:=msi h
         exact pe_listF gg (S.blt _ (by decide+kernel)) oa (ih1 _ ma h1)
       ·obtain⟨ma,h1,rfl⟩:=msi h
        exact pe_listF gg (S.blt _ (by decide+kernel)) oa (ih1 _ ma h1)
      repeat' (split at h)
      all_goals first
       |(cases h;done)
       |(obtain⟨_,_,rfl⟩:=msi h;cases hf)
     ·repeat' (split at h)
      all_goals first
       |(cases h;done)
       |(obtain⟨_,_,rfl⟩:=msi h;cases hf;done)
       |(obtain⟨_,_,h⟩:=bsi h
         obtain⟨_,_,rfl⟩:=msi h;cases hf)
     ·cases h
   ·cases h
  case Subscript a b pos=>
   clear hh
   replace h:((cE c n top N sc a).bind fun m=>cSu (cE c n top N sc) m b)=some m:=h
   replace h:=bsi h
   obtain⟨ma,h1,h⟩:=h
   unfold cSu at h
   split at h
   ·rename_i lo hi st p2
    cases st with
    |some st=>
     replace h:(none:Option E)=some m:=h
     cases h
    |none=>
     replace h:((cOpt (cE c n top N sc) lo).bind fun ml=>(cOpt (cE c n top N sc) hi).map fun mh=>E.cut ma ml mh)=some m:=h
     obtain⟨ml,h2,h⟩:=bsi h
     obtain⟨mh,h3,rfl⟩:=msi h
     exact pe_cutF (ih1 a ma h1) (po_D (fun e _ m h=>ih1 e m h) h2) (po_D (fun e _ m h=>ih1 e m h) h3)
   ·split at h
    ·obtain⟨_,_,rfl⟩:=msi h;cases hf
    ·cases h
  case List es pos=>
   replace h:(if es.all okE then(cList (cE c n top N sc) es).map .lst else none)=some m:=h
   split at h
   ·rename_i ok
    obtain⟨ml,h1,rfl⟩:=msi h
    exact pe_lstF (clist_ok (fun e _ m h=>ih1 e m h) ok h1)
   ·cases h
  case ListComp elt gs scope pos=>
   clear hh
   replace h:(if top then cLc c N sc (cE c n top N sc) (fun N' e=>cE c n false N' scope e) elt scope gs else none)=some m:=h
   split at h
   ·rename_i tp
    subst tp
    unfold cLc at h
    split at h
    ·rename_i x px iter ifs
     split at h
     ·rename_i oi
      obtain⟨is,h1,h⟩:=bsi h
      split at h
      ·rename_i cs
       have cs:=compOk_ok cs
       obtain⟨mi,h2,h⟩:=bsi h
       obtain⟨me,h3,h⟩:=bsi h
       obtain⟨mc,h4,rfl⟩:=msi h
       have hi:PI X (.Name x px) iter (tI X.K cl Γ mi):=ci_ok S ih1 (fun z=>by cases z) h2
       have he:∀C s H fp pins,PE (compCx X scope (x::frees scope.names) C s H fp pins) elt (tV X.K cl Γ me):=fun C s H fp pins=>(cE_ok hΓ n false _ scope elt me _ (S.comp cs C s H fp pins) h3).1
       have hfs:∀v,foldedSetIterable iter X.env v=pure v:=by intro v;cases iter<;>first|rfl|cases oi
       have hcs:X.env.scope=sc:=S.tp rfl
       cases ifs with
       |nil=>
        cases h4
        exact peI (pe_comp S.calm hi he cs hcs S.hN hfs) fun σ H Q q=>comp_tF (fun σ H Q ⟨G,env,b,sg,en,e,q⟩=>by
         have e':some true=some b:=e
         cases e'
         exact q H G (Ext.refl sg)) q
       |cons t r=>
        cases r with
        |nil=>
         have h4':(if okT t then(cE c n false (x::frees scope.names) scope t).bind fun m=>if isNil m then none else some m else none)=some mc:=h4
         split at h4'
         ·rename_i okt
          obtain⟨m',h5,h6⟩:=bsi h4'
          split at h6
          ·cases h6
          ·rename_i nn
           cases h6
           have ht:∀C s H fp pins,PT (compCx X scope (x::frees scope.names) C s H fp pins) t (tVT X.K cl Γ mc):=fun C s H fp pins=>(cE_ok hΓ n false _ scope t mc _ (S.comp cs C s H fp pins) h5).2 okt
           exact peI (pe_compIf S.calm hi ht he cs hcs S.hN hfs) fun σ H Q q=>comp_tF (fun σ H Q ⟨G,env,b,sg,en,e,q⟩=>by
            unfold cS at e
            rw [if_neg nn]at e
            exact⟨G,env,b,sg,en,e,q⟩) q
         ·cases h4'
        |cons t2 r2=>cases h4
      ·cases h
     ·cases h
    ·cases h
   ·cases h
  all_goals exact no_fresh hh hf
end
section
variable{K:W.Frag}{cl:Nat→Option Addr}{G G' H H':Hp}
theorem Dn.scal{v:V}{d:D}(h:Dn K cl G v d)(s:scal d=true)(G':Hp):Dn K cl G' v d:=by
 cases h with
 |non=>exact .non
 |bl b=>exact .bl b
 |int b=>exact .int b
 |str b=>exact .str b
 |lst _ _=>cases s
 |tup _ _=>cases s
 |ins _ _ _ _=>cases s
 |dic _=>cases s
 |fn _=>cases s
 |exc _ _=>cases s
theorem Dns.scal:∀ {vs:List V} {ds:List D},Dns K cl G vs ds→ds.all MI.scal=true→(G':Hp)→Dns K cl G' vs ds
 |_,_,.nil,_,_=> .nil
 |_,_,.cons h t,s,G'=>by
  rw [List.all_cons,Bool.and_eq_true]at s
  exact .cons (h.scal s.1 G') (Dns.scal t s.2 G')
mutual
theorem OT.flat:∀ {v:V} {t:T} {A:List Addr},OT K cl G H v t A→flatT t=true→(∀a∈A,G' a=none)→OT K cl G' H v t A
 |_,_,_,.sh h,s,_=> .sh (h.scal (by simpa [flatT]using s) _)
 |_,_,_,.ow h1 h2 h3,s,f=> .ow h1 (f _ (by simp)) (OTs.flat h3 (by simpa [flatT]using s) fun a ha=>f a (by simp [ha]))
 |_,_,_,.ob h1 h2 h3 h4 h5 h6 h7,s,f=> .ob h1 h2 h3 h4 (f _ (by simp)) (f _ (by simp)) (OTs.flat h7 (by simpa [flatT]using s) fun a ha=>f a (by simp [ha]))
theorem OTs.flat:∀ {vs:List V} {ts:List T} {A:List Addr},OTs K cl G H vs ts A→flatTs ts=true→(∀a∈A,G' a=none)→OTs K cl G' H vs ts A
 |_,_,_,.nil,_,_=> .nil
 |_,_,_,.cons h hs,s,f=>by
  rw [flatTs,Bool.and_eq_true]at s
  exact .cons (OT.flat h s.1 fun a ha=>f a (by simp [ha])) (OTs.flat hs s.2 fun a ha=>f a (by simp [ha]))
end
end
noncomputable def vars:E→List Nat
 | .var i=>[i]
 | .bin _ a b=>vars a++vars b
 | .un _ a=>vars a
 | .not a=>vars a
 | .cmp _ a b=>vars a++vars b
 | .ch _ _ a b c=>vars a++vars b++vars c
 | .ch3 _ _ _ a b c d=>vars a++vars b++vars c++vars d
 | .and a b=>vars a++vars b
 | .or a b=>vars a++vars b
 | .ite c a b=>vars c++vars a++vars b
 | .idx a b=>vars a++vars b
 | .cut a b c=>vars a++vars b++vars c
 | .rev a=>vars a
 | .lst a=>vars a
 | .tup a=>vars a
 | .mn a b=>vars a++vars b
 | .mx a b=>vars a++vars b
 | .isi a _=>vars a
 | .comp _ is it _=>vars it++is
 | .rng a=>vars a
 | .rng2 a b=>vars a++vars b
 | .rngS a b=>vars a++vars b
 | .sne a b=>vars a++vars b
 | .dn a=>vars a
 | .mxd a b=>vars a++vars b
 | .ind a b=>vars a++vars b
 | .enm a=>vars a
 | .zp a b=>vars a++vars b
 | .rvd a=>vars a
 | .call _ a=>vars a
 | .fld a _=>vars a
 | .meth o _ a=>vars o++vars a
 | .isc a _=>vars a
 | .cons a b=>vars a++vars b
 |_=>[]
noncomputable def frz(pio:Option Nat)(env:TEnv):List Nat→Option TEnv
 |[]=>some env
 |i::r=>match env[i]? with
  |some (some (.ow ts))=>if pio=some i then none else frz pio (env.set i (some (.sh (strip (.ow ts))))) r
  |some (some (.ob c ks ts))=>if pio=some i then none else frz pio (env.set i (some (.sh (strip (.ob c ks ts))))) r
  |_=>frz pio env r
noncomputable def evX(Γ:Tab)(pio:Option Nat)(m:E)(env:TEnv):Option (T×TEnv):=match m with
 | .call f args=>(Γ f).bind fun g=>(evs Γ args (dEnv env)).bind fun l=>(g l).bind fun t=>if flatT t then some (t,env)else(frz pio env (vars args)).bind fun env'=>(evs Γ args (fEnv env')).bind fun l'=>(g l').map fun t'=>(t',env')
 |m=>(ev Γ m (dEnv env)).bind fun d=>if scal d then some (.sh d,env)else
   if fresh m then(listD d).bind fun ds=>if ds.all scal then some (.ow (ds.map T.sh),env)else(frz pio env (vars m)).bind fun env'=>((ev Γ m (fEnv env')).bind listD).map fun ds'=>(.ow (ds'.map T.sh),env')
   else(frz pio env (vars m)).bind fun env'=>(ev Γ m (fEnv env')).map fun d'=>(.sh d',env')
theorem evX_call(Γ:Tab)(pio:Option Nat)(f:Nat)(args:E)(env:TEnv):evX Γ pio (.call f args) env=(Γ f).bind fun g=>(evs Γ args (dEnv env)).bind fun l=>(g l).bind fun t=>if flatT t then some (t,env)else(frz pio env (vars args)).bind fun env'=>(evs Γ args (fEnv env')).bind fun l'=>(g l').map fun t'=>(t',env'):=rfl
theorem evX_other{Γ:Tab}{pio:Option Nat}{m:E}{env:TEnv}(h:isCall m=false):evX Γ pio m env=(ev Γ m (dEnv env)).bind fun d=>if scal d then some (.sh d,env)else
 if fresh m then(listD d).bind fun ds=>if ds.all scal then some (.ow (ds.map T.sh),env)else(frz pio env (vars m)).bind fun env'=>((ev Γ m (fEnv env')).bind listD).map fun ds'=>(.ow (ds'.map T.sh),env')
 else(frz pio env (vars m)).bind fun env'=>(ev Γ m (fEnv env')).map fun d'=>(.sh d',env'):=by
 unfold evX
 split
 ·cases h
 ·rfl
def Pio(pio:Option Nat)(io:Option (Nat×Addr)):Prop:=∀p a,io=some (p,a)→pio=some p
section
variable{K:W.Frag}{cl:Nat→Option Addr}{H₀ G₀ F H H' F':Hp}{io:Option (Nat×Addr)}{A:Nat→List Addr}{σ:St}{env env':TEnv}{pio:Option Nat}
theorem frz_ok(hp:Pio pio io):∀ {l:List Nat} {F:Hp} {A:Nat→List Addr} {env env':TEnv},Rep K cl H₀ G₀ io F A σ env H→frz pio env l=some env'→∃F' A',Rep K cl H₀ G₀ io F' A' σ env' H∧env'.length=env.length∧Gro F A H F' A' H
 |[],F,A,env,env',R,h=>by cases h;exact⟨F,A,R,rfl,.refl⟩
 |i::r,F,A,env,env',R,h=>by
  have go:∀ {t:T},env[i]?=some (some t)→¬pio=some i→frz pio (env.set i (some (.sh (strip t)))) r=some env'→∃F' A',Rep K cl H₀ G₀ io F' A' σ env' H∧env'.length=env.length∧Gro F A H F' A' H:=fun {t} e hn h=>by
   obtain⟨F1,fz,R1⟩:=R.freeze i (fun p a z q=>hn (by rw [←q];exact hp p a z)) e
   obtain⟨F2,A2,R2,l2,g2⟩:=frz_ok hp R1 h
   refine⟨F2,A2,R2,by rw [l2,List.length_set],Gro.trans ⟨.refl _,fz.gg,fun b o h1 h2=> ?_,fun j a ha=> ?_⟩ g2⟩
   ·by_cases hb:b∈A i
    ·exact .inl ⟨i,hb⟩
    ·rw [fz.on b hb,h2]at h1;cases h1
   ·have ha':a∈(if j=i then []else A j):=ha
    split at ha'
    ·simp at ha'
    ·exact ha'
  unfold frz at h
  split at h
  ·rename_i ts e
   split at h
   ·cases h
   ·rename_i hn
    exact go e hn h
  ·rename_i c ks ts e
   split at h
   ·cases h
   ·rename_i hn
    exact go e hn h
  ·exact frz_ok hp R h
theorem Rep.new(R:Rep K cl H₀ G₀ io F A σ env H){p:Addr}(h:H p=none):H₀ p=none:=by
 cases e:H₀ p with
 |none=>rfl
 |some o=>
  by_cases hb:∃q,io=some (q,p)
  ·obtain⟨q,hb⟩:=hb
   obtain⟨_,o',h4⟩:=R.at_ (R.ioa hb);rw [h]at h4;cases h4
  ·have:=R.keep p o e (fun q z=>hb ⟨q,z⟩);rw [h]at this;cases this
theorem Rep.ext(R:Rep K cl H₀ G₀ io F A σ env H)(x:Ext H F H' F'):Rep K cl H₀ G₀ io F' A σ env H':=R.grow x.hh x.gg x.gh x.nw
theorem Rep.same(R:Rep K cl H₀ G₀ io F A σ env H)(x:Same H H'):Rep K cl H₀ G₀ io F A σ env H':=R.grow x (.refl _) (R.fh.trans x) fun b o h1 h2=>by rw [h1]at h2;cases h2
end
noncomputable def tX(K:W.Frag)(cl:Nat→Option Addr)(Γ:Tab)(pio:Option Nat)(m:E):TE:=fun σ H Q=>∃H₀ G₀ io F A env t env',Pio pio io∧env.length=σ.length∧Rep K cl H₀ G₀ io F A σ env H∧evX Γ pio m env=some (t,env')∧
 ∀v H' F' A' B,env'.length=σ.length→Gro F A H F' A' H'→Rep K cl H₀ G₀ io F' A' σ env' H'→OT K cl F' H' v t B→B.Nodup→(∀a∈B,H a=none)→Q v H'
section
variable{X:Cx}{cl:Nat→Option Addr}{Γ:Tab}{c:CC}
theorem call_inv{n:Nat}{top:Bool}{N:List Str}{sc:Scope}{e:Expr}{f:Nat}{args:E}(hΓ:∀x f,c.tab.lookup x=some f→∃g,Γ f=some g)(S:Sees X cl c Γ top N sc)(h:cE c n top N sc e=some (.call f args)):
 ∃g,Γ f=some g∧PE X e (fun σ H Q=>∃G env l t,Same G H∧EnvD X.K cl G env σ∧evs Γ args env=some l∧g l=some t∧∀v H' G' A,Ext H G H' G'→OT X.K cl G' H' v t A→A.Nodup→(∀a∈A,H a=none)→Q v H'):=by
 cases n with
 |zero=>cases h
 |succ n=>
  have ih1:∀e m,cE c n top N sc e=some m→PE X e (tV X.K cl Γ m):=fun e m h=>(cE_ok hΓ n top N sc e m X S h).1
  have hh:=cE_head h
  cases e
  case Call fn args' ks pos=>
   cases ks with
   |cons kw kr=>
    replace h:(none:Option E)=some (.call f args):=h
    cases h
   |nil=>
   replace h:(match nmOf fn with
    |some x=>cCn c N sc (cE c n top N sc) x args'
    |none=>cTx (cE c n top N sc) pos fn args')=some (.call f args):=h
   split at h
   rotate_left
   ·obtain⟨_,z|z|z⟩:=cTx_form h<;>cases z
   rename_i x h0
   obtain⟨p,rfl⟩:=nmOf_ok h0
   unfold cCn at h
   split at h
   ·rename_i ok
    obtain⟨ok,gx⟩:=bae ok
    obtain⟨o1,g1⟩:=isGl_ok gx
    obtain⟨n1,n2,n3⟩:=okN_ok o1
    split at h
    ·rename_i f' hf
     ·obtain⟨ml,h1,h3⟩:=msi h
      cases h3
      obtain⟨g,hg⟩:=hΓ x f hf
      cases args' with
      |nil=>
       cases h1
       exact⟨g,hg,pe_callT0 (S.gl x g1) n1 (S.fn x f g hf hg)⟩
      |cons e es=>exact⟨g,hg,pe_callT (S.gl x g1) n1 (S.fn x f g hf hg) (clist_ok (fun e _ m h=>ih1 e m h) ok h1) ok⟩
    ·cases (cB_head h).2
   ·cases h
  all_goals cases hh
theorem evX_ok(hΓ:∀x f,c.tab.lookup x=some f→∃g,Γ f=some g){n:Nat}{top:Bool}{N:List Str}{sc:Scope}{e:Expr}{m:E}{pio:Option Nat}(S:Sees X cl c Γ top N sc)(h:cE c n top N sc e=some m):PE X e (tX X.K cl Γ pio m):=by
 have pv:=(cE_ok hΓ n top N sc e m X S h).1
 intro pins s σ H Q I ⟨H₀,G₀,io,F,A,env,t,env',hp,hl,R,ev',q⟩
 cases hc:isCall m with
 |true=>
  cases m with
  |call f args=>
   obtain⟨g,hg,pc⟩:=call_inv hΓ S h
   rw [evX_call,hg]at ev'
   obtain⟨l,el,ev'⟩:=bsi (show(evs Γ args (dEnv env)).bind (fun l=>(g l).bind fun t=>if flatT t then some (t,env)else(frz pio env (vars args)).bind fun env'=>(evs Γ args (fEnv env')).bind fun l'=>(g l').map fun t'=>(t',env'))=some (t,env')from ev')
   obtain⟨t1,et,ev'⟩:=bsi ev'
   split at ev'
   ·rename_i fl
    cases ev'
    refine pc pins s σ H Q I ⟨H,_,l,t,.refl _,R.see,el,et,fun v H' G' B x o nd nw=> ?_⟩
    exact q v H' F A B hl (.of_same x.hh) (R.same x.hh) (o.flat fl fun a ha=>R.fh.free (nw a ha)) nd nw
   ·obtain⟨env1,ef,ev'⟩:=bsi ev'
    obtain⟨l2,el2,ev'⟩:=bsi ev'
    obtain⟨t2,et2,ev'⟩:=msi ev'
    cases ev'
    obtain⟨F1,A1,R1,l1,g1⟩:=frz_ok hp R ef
    exact pc pins s σ H Q I ⟨F1,_,l2,t,R1.fh,R1.seeF,el2,et2,fun v H' G' B x o nd nw=>q v H' G' A1 B (l1.trans hl) (g1.trans (.of_ext x)) (R1.ext x) o nd nw⟩
  |_=>cases hc
 |false=>
  rw [evX_other hc]at ev'
  obtain⟨d,ed,ev'⟩:=bsi ev'
  split at ev'
  ·rename_i sc'
   cases ev'
   exact pv pins s σ H Q I ⟨H,_,d,.refl _,R.see,ed,fun v H' G' x dv=>q v H' F A [] hl (.of_same x.hh) (R.same x.hh) (.sh (dv.scal sc' F)) List.nodup_nil (by simp)⟩
  ·split at ev'
   ·rename_i fr
    have pf:=cF_ok hΓ S h fr
    obtain⟨ds,e1,ev2⟩:=bsi ev'
    have hd:d=.lst ds:=by cases d<;>cases e1;rfl
    subst hd
    clear ev'
    have ev':=ev2
    clear ev2
    split at ev'
    ·rename_i al
     cases ev'
     refine pf pins s σ H Q I ⟨H,_,ds,.refl _,R.see,ed,fun p xs H1 G1 x hpn gpn hat dx=> ?_⟩
     refine q (.ref p) H1 F A [p] hl (.of_same x.hh) (R.same x.hh) (.ow hat (R.fh.free hpn) (OTs.shs (dx.scal al F))) (by simp) (fun a ha=> ?_)
     have e:a=p:=by simpa using ha
     rw [e];exact hpn
    ·obtain⟨env1,ef,ev'⟩:=bsi ev'
     obtain⟨ds',e2,ev'⟩:=msi ev'
     cases ev'
     obtain⟨d',e3,e4⟩:=bsi e2
     have hd:d'=.lst ds':=by cases d'<;>cases e4;rfl
     subst hd
     obtain⟨F1,A1,R1,l1,g1⟩:=frz_ok hp R ef
     refine pf pins s σ H Q I ⟨F1,_,ds',R1.fh,R1.seeF,e3,fun p xs H1 G1 x hpn gpn hat dx=> ?_⟩
     refine q (.ref p) H1 G1 A1 [p] (l1.trans hl) (g1.trans (.of_ext x)) (R1.ext x) (.ow hat gpn (OTs.shs dx)) (by simp) (fun a ha=> ?_)
     have e:a=p:=by simpa using ha
     rw [e];exact hpn
   ·obtain⟨env1,ef,ev'⟩:=bsi ev'
    obtain⟨d',e3,ev'⟩:=msi ev'
    cases ev'
    obtain⟨F1,A1,R1,l1,g1⟩:=frz_ok hp R ef
    exact pv pins s σ H Q I ⟨F1,_,d',R1.fh,R1.seeF,e3,fun v H' G' x dv=>q v H' G' A1 [] (l1.trans hl) (g1.trans (.of_ext x)) (R1.ext x) (.sh dv) List.nodup_nil (by simp)⟩
end
inductive Fl where
 |nx|bk|ct|rt(t:T)
inductive S where
 |nop|raise|brk|cnt|retN
 |seq(a b:S)
 |asg(i:Nat)(m:E)
 |asg2(i j:Nat)(m l:E)
 |asg3(i j k:Nat)(m l q:E)
 |retAll(f i:Nat)(it:E)
 |set(i:Nat)(k m:E)
 |app(i:Nat)(m:E)
 |appT(o m:E)
 |appAt(i:Nat)(k m:E)
 |ext(i:Nat)(m:E)
 |ins(i:Nat)(k m:E)
 |aug(i:Nat)(op:Operator)(m:E)
 |augS(i:Nat)(op:Operator)(k m:E)
 |ife(c:E)(a b:S)
 |for1(i:Nat)(it:E)(b:S)
 |for2(i j:Nat)(it:E)(b:S)
 |forV(i:Nat)(js:List Nat)(b:S)
 |wh(c:E)(b:S)
 |ret(m:E)
 |drop(m:E)
 |ifio(neg:Bool)(f i:Nat)(args:E)(a b:S)
 |dropio(f i:Nat)(args:E)
 |appio(j f i:Nat)(args:E)
 |fst(i:Nat)(f:Str)(m:E)
 |appF(i:Nat)(f:Str)(m:E)
 |popF(i:Nat)(f:Str)
 |appFA(i:Nat)(f:Str)(k m:E)
 |retC(m:E)
 |dic(i j a b r:Nat)
 |augF(i:Nat)(f:Str)(op:Operator)(k m:E)
 |mio(i k:Nat)(args:E)
 |appP(i:Nat)(a b:E)
noncomputable abbrev IOT:=Nat→Option (Nat×(List D→Option (T×List D)))
noncomputable def unsh:List T→Option (List D)
 |[]=>some []
 | .sh d::r=>(unsh r).map (d::·)
 |_=>none
theorem unsh_sh(ds:List D):unsh (ds.map T.sh)=some ds:=by
 induction ds with
 |nil=>rfl
 |cons d r ih=>show(unsh (r.map T.sh)).map (d::·)=_;rw [ih];rfl
theorem unsh_eq:∀ {ts:List T} {ds:List D},unsh ts=some ds→ts=ds.map T.sh
 |[],ds,h=>by cases h;rfl
 | .sh d::r,ds,h=>by
   obtain⟨l,e,rfl⟩:=msi (show(unsh r).map (d::·)=some ds from h)
   rw [unsh_eq e];rfl
 | .ow _::r,ds,h=>by cases h
noncomputable def isVar(m:E)(i:Nat):Bool:=match m with
 | .var j=>j==i
 |_=>false
noncomputable def evA(Γ:Tab)(i:Nat)(ds:List D)(env:Env):Nat→E→Option (List D)
 |0,.cons m r=>if isVar m i then(evs Γ r env).map fun l=> .lst ds::l else none
 |k+1,.cons m r=>(ev Γ m env).bind fun x=>(evA Γ i ds env k r).map fun l=>x::l
 |_,_=>none
noncomputable def evIO(Γ:Tab)(Δ:IOT)(f i:Nat)(args:E)(env:TEnv):Option (T×TEnv):=(Δ f).bind fun kg=>match env[i]? with
 |some (some (.ow ts))=>(unsh ts).bind fun ds=>if ds.all scal then(evA Γ i ds (dEnv (env.set i none)) kg.1 args).bind fun l=>(kg.2 l).bind fun r=>if flatT r.1&&r.2.all scal then some (r.1,env.set i (some (.ow (r.2.map T.sh))))else none else none
 |_=>none
noncomputable def itX(Γ:Tab)(pio:Option Nat)(m:E)(env:TEnv):Option (List D×TEnv):=if isRng m then(its Γ m (dEnv env)).map fun l=>(l,env)else(frz pio env (vars m)).bind fun env'=>(its Γ m (fEnv env')).map fun l=>(l,env')
noncomputable def forL(step:D→TEnv→Option (Fl×TEnv)):List D→TEnv→Option (Fl×TEnv)
 |[],env=>some (.nx,env)
 |d::r,env=>(step d env).bind fun q=>match q.1 with
  | .nx=>forL step r q.2
  | .ct=>forL step r q.2
  | .bk=>some (.nx,q.2)
  | .rt t=>some (.rt t,q.2)
noncomputable def whileL(test:TEnv→Option Bool)(step:TEnv→Option (Fl×TEnv)):Nat→TEnv→Option (Fl×TEnv)
 |0,_=>none
 |n+1,env=>(test env).bind fun b=>if b then(step env).bind fun q=>match q.1 with
   | .nx=>whileL test step n q.2
   | .ct=>whileL test step n q.2
   | .bk=>some (.nx,q.2)
   | .rt t=>some (.rt t,q.2)
  else some (.nx,env)
noncomputable def forVL(step:TEnv→Option (Fl×TEnv))(i:Nat):List Nat→TEnv→Option (Fl×TEnv)
 |[],env=>some (.nx,env)
 |j::r,env=>match env[j]? with
  |some (some t)=>(step ((env.set j none).set i (some t))).bind fun q=>match q.2[i]? with
   |some (some t')=>match q.1 with
    | .nx=>forVL step i r ((q.2.set i none).set j (some t'))
    | .rt t=>some (.rt t,q.2)
    |_=>none
   |_=>none
  |_=>none
noncomputable def augD(op:Operator):D→D→Option D
 | .int a,.int b=>match op with
   | .Add=>some (.int (a+b))
   | .Sub=>some (.int (a-b))
   |_=>none
 |_,_=>none
noncomputable def owAt(env:TEnv)(i:Nat):Option (List T):=match env[i]? with
 |some (some (.ow ts))=>some ts
 |_=>none
noncomputable def intD:D→Option Int
 | .int i=>some i
 |_=>none
noncomputable def okI(pio:Option Nat)(env:TEnv)(i:Nat):Bool:=decide (pio≠some i∧i<env.length)
noncomputable def asgs:S→List Nat
 | .seq a b=>asgs a++asgs b
 | .asg i _=>[i]
 | .asg2 i j _ _=>[i,j]
 | .asg3 i j k _ _ _=>[i,j,k]
 | .aug i _ _=>[i]
 | .dic i j a b _=>[i,j,a,b]
 | .ife _ a b=>asgs a++asgs b
 | .for1 i _ b=>i::asgs b
 | .for2 i j _ b=>i::j::asgs b
 | .forV i _ b=>i::asgs b
 | .wh _ b=>asgs b
 | .ifio _ _ _ _ a b=>asgs a++asgs b
 |_=>[]
noncomputable def childs:T→Option (List T)
 | .ow us=>some us
 | .sh (.lst ds)=>some (ds.map T.sh)
 |_=>none
noncomputable def isOw:T→Option (List T)
 | .ow us=>some us
 |_=>none
noncomputable def obAt(env:TEnv)(i:Nat):Option (Nat×List Str×List T):=match env[i]? with
 |some (some (.ob c ks ts))=>some (c,ks,ts)
 |_=>none
noncomputable def fldAt(f:Str)(o:Nat×List Str×List T):Option (Nat×List T):=(nIdx o.2.1 f).bind fun j=>(o.2.2[j]?).bind fun t=>(isOw t).map fun us=>(j,us)
noncomputable def cpyT:D→T
 | .lst l=> .ow (l.map T.sh)
 |d=> .sh d
noncomputable def allL(g:List D→Option (T×List D)):List D→List D→Option Bool
 |[],_=>some true
 |d::r,ms=>(g [d,.lst ms]).bind fun p=>match p.1 with
  | .sh (.bl b)=>if p.2.all scal then(allL g r p.2).map (b&&·)else none
  |_=>none
noncomputable def mkD(ns:List Int):List (Int×Int):=ns.zipIdx.map fun p=>(p.1,(p.2:Int))
noncomputable def cntO(o:Nat×List Str×List T):Option (List D):=if o.2.1=[("counts":Str)]then(fldAt "counts" o).bind fun ju=>(unsh ju.2).bind fun ds=>if ds.all scal then some ds else none else none
noncomputable def nonT:T→Bool
 | .sh .non=>true
 |_=>false
noncomputable def noIns:D→Bool
 | .ins _ _ _=>false
 | .dic _=>false
 | .fn _=>false
 | .exc _=>false
 |_=>true
noncomputable def ex(Γ:Tab)(Δ:IOT)(pio:Option Nat)(n:Nat):S→TEnv→Option (Fl×TEnv)
 | .nop,env=>some (.nx,env)
 | .raise,_=>none
 | .brk,env=>some (.bk,env)
 | .cnt,env=>some (.ct,env)
 | .retN,env=>some (.rt (.sh .non),env)
 | .seq a b,env=>(ex Γ Δ pio n a env).bind fun r=>match r.1 with
   | .nx=>ex Γ Δ pio n b r.2
   |_=>some r
 | .asg i m,env=>if okI pio env i then(evX Γ pio m env).map fun r=>(.nx,r.2.set i (some r.1))else none
 | .asg2 i j m l,env=>if okI pio env i&&okI pio env j&&decide (i≠j)then(evX Γ pio m env).bind fun r=>(evX Γ pio l r.2).map fun q=>(.nx,(q.2.set i (some r.1)).set j (some q.1))else none
 | .asg3 i j k m l q,env=>if okI pio env i&&okI pio env j&&okI pio env k&&decide (i≠j∧i≠k∧j≠k)then(evX Γ pio m env).bind fun r=>(evX Γ pio l r.2).bind fun p=>(evX Γ pio q p.2).map fun o=>(.nx,((o.2.set i (some r.1)).set j (some p.1)).set k (some o.1))else none
 | .retAll f i it,env=>(Δ f).bind fun kg=>if kg.1=1∧pio≠some i then(itX Γ pio it env).bind fun r=>(owAt r.2 i).bind fun ts=>(unsh ts).bind fun ms=>if ms.all scal&&sz r.1.length then(allL kg.2 r.1 ms).map fun b=>(.rt (.sh (.bl b)),r.2.set i none)else none else none
 | .set i k m,env=>(ev Γ m (dEnv env)).bind fun d=>if scal d then((ev Γ k (dEnv env)).bind intD).bind fun z=>(owAt env i).bind fun ts=>(ixN ts.length z).map fun j=>(.nx,env.set i (some (.ow (ts.set j (.sh d)))))else none
 | .app i m,env=>(evX Γ pio m env).bind fun r=>(owAt r.2 i).bind fun ts=>if sz ts.length then some (.nx,r.2.set i (some (.ow (ts++[r.1]))))else none
 | .appT o m,env=>(evX Γ pio o env).bind fun r=>(isOw r.1).bind fun us=>(ev Γ m (dEnv r.2)).bind fun d=>if scal d&&sz us.length then some (.nx,r.2)else none
 | .appAt i k m,env=>((ev Γ k (dEnv env)).bind intD).bind fun z=>(owAt env i).bind fun ts=>(ixN ts.length z).bind fun j=>(ts[j]?).bind fun t=>(isOw t).bind fun us=>(ev Γ m (dEnv env)).bind fun d=>if scal d&&sz us.length then some (.nx,env.set i (some (.ow (ts.set j (.ow (us++[.sh d]))))))else none
 | .ext i m,env=>(evX Γ pio m env).bind fun r=>(childs r.1).bind fun us=>(owAt r.2 i).bind fun ts=>if sz (ts.length+us.length)then some (.nx,r.2.set i (some (.ow (ts++us))))else none
 | .ins i k m,env=>((ev Γ k (dEnv env)).bind intD).bind fun z=>(ev Γ m (dEnv env)).bind fun d=>(owAt env i).bind fun ts=>if scal d&&decide (0≤z∧z≤ts.length)&&sz ts.length then some (.nx,env.set i (some (.ow (ts.take z.toNat++.sh d::ts.drop z.toNat))))else none
 | .aug i op m,env=>if okI pio env i then(((dEnv env)[i]?).join).bind fun a=>(ev Γ m (dEnv env)).bind fun b=>(augD op a b).map fun d=>(.nx,env.set i (some (.sh d)))else none
 | .augS i op k m,env=>((ev Γ k (dEnv env)).bind intD).bind fun z=>(owAt env i).bind fun ts=>(ixN ts.length z).bind fun j=>(ts[j]?).bind fun t=>(ev Γ m (dEnv env)).bind fun b=>(augD op (strip t) b).map fun d=>(.nx,env.set i (some (.ow (ts.set j (.sh d)))))
 | .ife c a b,env=>(evB Γ c (dEnv env)).bind fun t=>if t then ex Γ Δ pio n a env else ex Γ Δ pio n b env
 | .for1 i it b,env=>if okI pio env i then(itX Γ pio it env).bind fun r=>forL (fun d e=>ex Γ Δ pio n b (e.set i (some (.sh d)))) r.1 r.2 else none
 | .for2 i j it b,env=>if okI pio env i&&okI pio env j&&decide (i≠j)then(itX Γ pio it env).bind fun r=>forL (fun d e=>match d with
    | .tup [x,y]=>ex Γ Δ pio n b ((e.set i (some (.sh x))).set j (some (.sh y)))
    |_=>none) r.1 r.2 else none
 | .forV i js b,env=>if okI pio env i&&js.all (fun j=>okI pio env j&&decide (j≠i))&&(js.all fun j=> !(asgs b).contains j)&& !(asgs b).contains i&&sz js.length&&(js.all fun j=>((env[j]?).join).isSome)then forVL (ex Γ Δ pio n b) i js env else none
 | .wh c b,env=>whileL (fun e=>evB Γ c (dEnv e)) (ex Γ Δ pio n b) n env
 | .ret m,env=>match m with
   | .var i=>if pio=some i then none else(env[i]?).join.map fun t=>(.rt t,env.set i none)
   |_=>(evX Γ pio m env).map fun r=>(.rt r.1,r.2)
 | .drop m,env=>(evX Γ pio m env).map fun r=>(.nx,r.2)
 | .ifio neg f i args a b,env=>(evIO Γ Δ f i args env).bind fun r=>match r.1 with
   | .sh (.bl t)=>if(t !=neg)then ex Γ Δ pio n a r.2 else ex Γ Δ pio n b r.2
   |_=>none
 | .dropio f i args,env=>(evIO Γ Δ f i args env).map fun r=>(.nx,r.2)
 | .fst i f m,env=>(evX Γ pio m env).bind fun r=>(obAt r.2 i).bind fun o=>if !o.2.1.contains f&&decide (o.2.1.length<1000)then some (.nx,r.2.set i (some (.ob o.1 (o.2.1++[f]) (o.2.2++[r.1]))))else none
 | .appF i f m,env=>(evX Γ pio m env).bind fun r=>(obAt r.2 i).bind fun o=>(fldAt f o).bind fun ju=>if sz ju.2.length then some (.nx,r.2.set i (some (.ob o.1 o.2.1 (o.2.2.set ju.1 (.ow (ju.2++[r.1]))))))else none
 | .popF i f,env=>(obAt env i).bind fun o=>(fldAt f o).bind fun ju=>if ju.2.isEmpty then none else some (.nx,env.set i (some (.ob o.1 o.2.1 (o.2.2.set ju.1 (.ow ju.2.dropLast)))))
 | .appFA i f k m,env=>(obAt env i).bind fun o=>(fldAt f o).bind fun ju=>((ev Γ k (dEnv env)).bind intD).bind fun z=>(ixN ju.2.length z).bind fun l=>(ju.2[l]?).bind fun t=>(isOw t).bind fun us=>(ev Γ m (dEnv env)).bind fun d=>if scal d&&sz us.length then some (.nx,env.set i (some (.ob o.1 o.2.1 (o.2.2.set ju.1 (.ow (ju.2.set l (.ow (us++[.sh d]))))))))else none
 | .retC m,env=>(its Γ m (fEnv env)).bind fun ds=>if sz ds.length&&ds.all noIns then some (.rt (.ow (ds.map cpyT)),env)else none
 | .dic i j a b r,env=>if okI pio env i&&okI pio env j&&okI pio env a&&okI pio env b&&decide ([i,j,a,b,r].Nodup)then(((dEnv env)[r]?).join.bind listD).bind fun ds=>(intsD ds).bind fun ns=>if decide ns.Nodup&&sz ns.length then some (.nx,(((env.set a none).set b none).set i (some (.sh (.dic (mkD ns))))).set j (some (.ow [])))else none else none
 | .appP i a b,env=>(ev Γ a (dEnv env)).bind fun x=>(ev Γ b (dEnv env)).bind fun y=>if scal x&&scal y then(owAt env i).bind fun ts=>if sz ts.length then some (.nx,env.set i (some (.ow (ts++[.sh (.tup [x,y])]))))else none else none
 | .augF i f op k m,env=>(obAt env i).bind fun o=>(fldAt f o).bind fun ju=>((ev Γ k (dEnv env)).bind intD).bind fun z=>(ixN ju.2.length z).bind fun l=>(ju.2[l]?).bind fun t=>(ev Γ m (dEnv env)).bind fun b=>(augD op (strip t) b).map fun d=>(.nx,env.set i (some (.ob o.1 o.2.1 (o.2.2.set ju.1 (.ow (ju.2.set l (.sh d)))))))
 | .mio i k args,env=>(obAt env i).bind fun o=>(cntO o).bind fun ds=>(evs Γ args (dEnv env)).bind fun l=>if l.all scal then(Δ (mid o.1 k)).bind fun kg=>if kg.1=0 then(kg.2 (.lst ds::l)).bind fun r=>if nonT r.1&&r.2.all scal then some (.nx,env.set i (some (.ob o.1 o.2.1 [.ow (r.2.map T.sh)])))else none else none else none
 | .appio j f i args,env=>if j=i then none else(evIO Γ Δ f i args env).bind fun r=>(owAt r.2 j).bind fun ts=>if sz ts.length then some (.nx,r.2.set j (some (.ow (ts++[r.1]))))else none
section
variable{K:W.Frag}{cl:Nat→Option Addr}{H₀ G₀ F H H' F':Hp}{io:Option (Nat×Addr)}{A:Nat→List Addr}{σ:St}{env env':TEnv}{pio:Option Nat}
theorem owAt_eq{i:Nat}{ts:List T}(h:owAt env i=some ts):env[i]?=some (some (.ow ts)):=by
 unfold owAt at h
 split at h
 ·rename_i e;cases h;exact e
 ·cases h
theorem Rep.own(R:Rep K cl H₀ G₀ io F A σ env H){i:Nat}{ts:List T}(h:owAt env i=some ts):∃p xs B,env[i]?=some (some (.ow ts))∧σ[i]?=some (some (.ref p))∧A i=p::B∧H p=some (.lst xs)∧F p=none∧OTs K cl F H xs ts B:=by
 have e:=owAt_eq h
 obtain⟨v,h1,ot⟩:=R.slot i _ e
 generalize hA:A i=B at ot
 cases ot with
 |ow a1 a2 a3=>exact⟨_,_,_,e,h1,rfl,a1,a2,a3⟩
theorem OTs.snoc:∀ {xs:List V} {ts:List T} {B C:List Addr} {v:V} {t:T},OTs K cl F H xs ts B→OT K cl F H v t C→OTs K cl F H (xs++[v]) (ts++[t]) (B++C)
 |_,_,_,C,_,_,.nil,o=>by simpa using OTs.cons o .nil
 |_,_,_,C,_,_,.cons (A:=A1) (B:=B1) a t,o=>by rw [List.append_assoc];exact .cons a (OTs.snoc t o)
theorem OTs.app:∀ {xs ys:List V} {ts us:List T} {B C:List Addr},OTs K cl F H xs ts B→OTs K cl F H ys us C→OTs K cl F H (xs++ys) (ts++us) (B++C)
 |_,_,_,_,_,_,.nil,o=>o
 |_,_,_,_,_,_,.cons a t,o=>by rw [List.append_assoc];exact .cons a (OTs.app t o)
theorem OTs.put{v:V}{t':T}{C:List Addr}(o:OT K cl F H v t' C):∀ {xs:List V} {ts:List T} {B:List Addr} (j:Nat),OTs K cl F H xs ts B→B.Nodup→C.Nodup→(∀a∈C,a∈B→False)→∃B',OTs K cl F H (xs.set j v) (ts.set j t') B'∧B'.Nodup∧∀a∈B',a∈B∨a∈C
 |_,_,_,_,.nil,nd,nc,_=>⟨[],.nil,List.nodup_nil,by simp⟩
 |_,_,_,0,.cons (A:=A1) (B:=B1) a t,nd,nc,dj=>by
  obtain⟨n1,n2,n3⟩:=List.nodup_append.mp nd
  refine⟨C++B1,.cons o t,List.nodup_append.mpr ⟨nc,n2,fun x hx y hy e=>dj x hx (by rw [e];simp [hy])⟩,fun x hx=> ?_⟩
  rcases List.mem_append.mp hx with z|z
  ·exact .inr z
  ·exact .inl (by simp [z])
 |_,_,_,j+1,.cons (A:=A1) (B:=B1) a t,nd,nc,dj=>by
  obtain⟨n1,n2,n3⟩:=List.nodup_append.mp nd
  obtain⟨B',h1,h2,h3⟩:=OTs.put o j t n2 nc fun x hx hb=>dj x hx (by simp [hb])
  refine⟨A1++B',.cons a h1,List.nodup_append.mpr ⟨n1,h2,fun x hx y hy e=> ?_⟩,fun x hx=> ?_⟩
  ·subst e
   rcases h3 x hy with z|z
   ·exact n3 x hx x z rfl
   ·exact dj x z (by simp [hx])
  ·rcases List.mem_append.mp hx with z|z
   ·exact .inl (by simp [z])
   ·rcases h3 x z with z|z
    ·exact .inl (by simp [z])
    ·exact .inr z
theorem OTs.poke{p:Addr}{o:HO}{xs:List V}{ts:List T}{B:List Addr}(h:OTs K cl F H xs ts B)(hp:p∉B):OTs K cl F (upd H p o) xs ts B:=
 h.move (.refl _) (fun a ha=>(h.free a ha).1) fun a ha u q=>by rw [upd_ne (fun e=>hp (by rw [←e];exact ha))];exact q
end
def Po(K:W.Frag)(cl:Nat→Option Addr)(H₀ G₀:Hp)(io:Option (Nat×Addr))(D:Ends)(fl:Fl)(F₀:Hp)(σ₀:St)(as:List Nat)(env':TEnv):Prop:=
 ∀σ' H' F' A',env'.length=σ'.length→σ'.length=σ₀.length→(∀(k:Nat),k∉as→σ'[k]?=σ₀[k]?)→Same F₀ F'→Rep K cl H₀ G₀ io F' A' σ' env' H'→match fl with
  | .nx=>D.nx σ' H'
  | .bk=>D.bk σ' H'
  | .ct=>D.ct σ' H'
  | .rt t=>∀v B,OT K cl F' H' v t B→B.Nodup→(∀j a,a∈A' j→a∈B→False)→(∀a∈B,H₀ a=none)→D.rt v H'
noncomputable def tS(K:W.Frag)(cl:Nat→Option Addr)(Γ:Tab)(Δ:IOT)(pio:Option Nat)(s:S):TS:=fun D σ H=>∃H₀ G₀ io F A env n fl env',Pio pio io∧env.length=σ.length∧Rep K cl H₀ G₀ io F A σ env H∧ex Γ Δ pio n s env=some (fl,env')∧Po K cl H₀ G₀ io D fl F σ (asgs s) env'
section
variable{K:W.Frag}{cl:Nat→Option Addr}{Γ:Tab}{Δ:IOT}{pio:Option Nat}{D:Ends}{σ:St}{H:Hp}
theorem s_nop(h:tS K cl Γ Δ pio .nop D σ H):tNext D σ H:=by
 obtain⟨H₀,G₀,io,F,A,env,n,fl,env',hp,hl,R,e,po⟩:=h
 cases e
 exact po σ H F A hl rfl (fun _ _=>rfl) (.refl _) R
theorem s_raise(h:tS K cl Γ Δ pio .raise D σ H):tNever D σ H:=by
 obtain⟨H₀,G₀,io,F,A,env,n,fl,env',hp,hl,R,e,po⟩:=h
 cases e
theorem s_seq{a b:S}(h:tS K cl Γ Δ pio (.seq a b) D σ H):tSeq (tS K cl Γ Δ pio a) (tS K cl Γ Δ pio b) D σ H:=by
 obtain⟨H₀,G₀,io,F,A,env,n,fl,env',hp,hl,R,e,po⟩:=h
 obtain⟨⟨fa,ea⟩,h1,h2⟩:=bsi (show(ex Γ Δ pio n a env).bind (fun r=>match r.1 with| .nx=>ex Γ Δ pio n b r.2|_=>some r)=some (fl,env')from e)
 refine⟨H₀,G₀,io,F,A,env,n,fa,ea,hp,hl,R,h1,fun σ' H' F' A' l1 l2 st sf R'=> ?_⟩
 have st':∀(k:Nat),k∉asgs (.seq a b)→σ'[k]?=σ[k]?:=fun k hk=>st k fun z=>hk (by simp [asgs,z])
 cases fa with
 |nx=>
  refine⟨H₀,G₀,io,F',A',ea,n,fl,env',hp,l1,R',h2,fun σ2 H2 F2 A2 l3 l4 st2 sf2 R2=> ?_⟩
  exact po σ2 H2 F2 A2 l3 (l4.trans l2) (fun k hk=>(st2 k fun z=>hk (by simp [asgs,z])).trans (st' k hk)) (sf.trans sf2) R2
 |bk=>cases h2;exact po σ' H' F' A' l1 l2 st' sf R'
 |ct=>cases h2;exact po σ' H' F' A' l1 l2 st' sf R'
 |rt t=>cases h2;exact po σ' H' F' A' l1 l2 st' sf R'
theorem okI_ok{env:TEnv}{i:Nat}(h:okI pio env i=true):pio≠some i∧i<env.length:=odt h
theorem Pio.ne{io:Option (Nat×Addr)}(hp:Pio pio io){i:Nat}(h:pio≠some i):∀p a,io=some (p,a)→p≠i:=fun p a e z=>h (by rw [←z];exact hp p a e)
theorem Rep.storeX{H₀ G₀ F F' H':Hp}{io:Option (Nat×Addr)}{A A':Nat→List Addr}{env env':TEnv}{i:Nat}{v:V}{t:T}{B:List Addr}(R:Rep K cl H₀ G₀ io F A σ env H)(g:Gro F A H F' A' H')(R':Rep K cl H₀ G₀ io F' A' σ env' H')(hp:Pio pio io)(hi:pio≠some i)(hl:i<env'.length)(hs:env'.length=σ.length)
 (ot:OT K cl F' H' v t B)(nd:B.Nodup)(nw:∀a∈B,H a=none):Rep K cl H₀ G₀ io F' (fun j=>if j=i then B else A' j) (σ.set i (some v)) (env'.set i (some t)) H':=
 R'.store (hp.ne hi) hl hs ot nd (fun j a _ h1 h2=>by
   obtain⟨_,o,h3⟩:=R.at_ (g.aa j a h1)
   rw [nw a h2]at h3;cases h3) fun a ha=>R.new (nw a ha)
theorem set_ne{σ:St}{i k:Nat}{o:Option V}(h:k∉[i]):(σ.set i o)[k]?=σ[k]?:=List.getElem?_set_ne (fun e=>h (by simp [e]))
theorem s_asg{i:Nat}{m:E}(h:tS K cl Γ Δ pio (.asg i m) D σ H):tAsg (tX K cl Γ pio m) (gName i) D σ H:=by
 obtain⟨H₀,G₀,io,F,A,env,n,fl,env',hp,hl,R,e,po⟩:=h
 have e':(if okI pio env i then(evX Γ pio m env).map fun r=>(Fl.nx,r.2.set i (some r.1))else none)=some (fl,env'):=e
 split at e'
 ·rename_i ok
  obtain⟨o1,o2⟩:=okI_ok ok
  obtain⟨⟨t,env1⟩,h1,h2⟩:=msi e'
  cases h2
  refine⟨H₀,G₀,io,F,A,env,t,env1,hp,hl,R,h1,fun v H' F' A' B l1 g R' ot nd nw=> ?_⟩
  exact po _ H' F' _ (by simp [l1]) (by simp) (fun k hk=>set_ne hk) g.ff (R.storeX g R' hp o1 (by have l1':env1.length=σ.length:=l1;show i<env1.length;lia) l1 ot nd nw)
 ·cases e'
theorem s_ret{m:E}(hv:∀i,m≠.var i)(h:tS K cl Γ Δ pio (.ret m) D σ H):tRet (tX K cl Γ pio m) D σ H:=by
 obtain⟨H₀,G₀,io,F,A,env,n,fl,env',hp,hl,R,e,po⟩:=h
 have e':(evX Γ pio m env).map (fun r=>(Fl.rt r.1,r.2))=some (fl,env'):=by
  rw [←e]
  cases m with
  |var i=>exact absurd rfl (hv i)
  |_=>rfl
 obtain⟨⟨t,env1⟩,h1,h2⟩:=msi e'
 cases h2
 refine⟨H₀,G₀,io,F,A,env,t,env1,hp,hl,R,h1,fun v H' F' A' B l1 g R' ot nd nw=> ?_⟩
 exact po σ H' F' A' l1 rfl (fun _ _=>rfl) g.ff R' v B ot nd (fun j a h1 h2=>by
  obtain⟨_,o,h3⟩:=R.at_ (g.aa j a h1)
  rw [nw a h2]at h3;cases h3) fun a ha=>R.new (nw a ha)
theorem s_retV{i:Nat}(h:tS K cl Γ Δ pio (.ret (.var i)) D σ H):tRet (tVar i) D σ H:=by
 obtain⟨H₀,G₀,io,F,A,env,n,fl,env',hp,hl,R,e,po⟩:=h
 have e':(if pio=some i then none else(env[i]?).join.map fun t=>(Fl.rt t,env.set i none))=some (fl,env'):=e
 split at e'
 ·cases e'
 ·rename_i hi
  obtain⟨t,h1,h2⟩:=msi e'
  cases h2
  have h3:env[i]?=some (some t):=by
   cases z:env[i]? with
   |none=>rw [z]at h1;cases h1
   |some o=>rw [z]at h1;rw [show o=some t from h1]
  obtain⟨v,h4,ot⟩:=R.slot i t h3
  refine⟨v,h4,po σ H F _ (by simp [hl]) rfl (fun _ _=>rfl) (.refl _) (R.drop i (hp.ne hi)) v (A i) ot (R.nd i) (fun j a h1 h2=> ?_) fun a ha=> ?_⟩
  ·have h1':a∈(if j=i then []else A j):=h1
   split at h1'
   ·simp at h1'
   ·rename_i hj;exact R.dj j i a hj h1' h2
  ·rcases R.anew i a ha with⟨p,z⟩|z
   ·exact absurd rfl (fun(_:p=p)=>R.dj p i a (hp.ne hi p a z) (R.ioa z) ha)
   ·exact z
theorem s_drop{m:E}(h:tS K cl Γ Δ pio (.drop m) D σ H):tDrop (tX K cl Γ pio m) D σ H:=by
 obtain⟨H₀,G₀,io,F,A,env,n,fl,env',hp,hl,R,e,po⟩:=h
 obtain⟨⟨t,env1⟩,h1,h2⟩:=msi (show(evX Γ pio m env).map (fun r=>(Fl.nx,r.2))=some (fl,env')from e)
 cases h2
 exact⟨H₀,G₀,io,F,A,env,t,env1,hp,hl,R,h1,fun v H' F' A' B l1 g R' ot nd nw=>po σ H' F' A' l1 rfl (fun _ _=>rfl) g.ff R'⟩
theorem s_ife{c:E}{a b:S}(h:tS K cl Γ Δ pio (.ife c a b) D σ H):tIfS (tVT K cl Γ c) (tS K cl Γ Δ pio a) (tS K cl Γ Δ pio b) D σ H:=by
 obtain⟨H₀,G₀,io,F,A,env,n,fl,env',hp,hl,R,e,po⟩:=h
 obtain⟨t,h1,h2⟩:=bsi (show(evB Γ c (dEnv env)).bind (fun t=>if t then ex Γ Δ pio n a env else ex Γ Δ pio n b env)=some (fl,env')from e)
 refine⟨H,_,t,.refl _,R.see,h1,fun H' G' x=> ?_⟩
 cases t with
 |true=>exact iteT ⟨H₀,G₀,io,F,A,env,n,fl,env',hp,hl,R.same x.hh,h2,fun σ' H' F' A' l1 l2 st sf R'=>po σ' H' F' A' l1 l2 (fun k hk=>st k fun z=>hk (by simp [asgs,z])) sf R'⟩
 |false=>exact iteF ⟨H₀,G₀,io,F,A,env,n,fl,env',hp,hl,R.same x.hh,h2,fun σ' H' F' A' l1 l2 st sf R'=>po σ' H' F' A' l1 l2 (fun k hk=>st k fun z=>hk (by simp [asgs,z])) sf R'⟩
theorem s_wh{c:E}{b:S}(h:tS K cl Γ Δ pio (.wh c b) D σ H):tWhile (tVT K cl Γ c) (tS K cl Γ Δ pio b) D σ H:=by
 obtain⟨H₀,G₀,io,F,A,env,n,fl,env',hp,hl,R,e,po⟩:=h
 have e':whileL (fun e=>evB Γ c (dEnv e)) (ex Γ Δ pio n b) n env=some (fl,env'):=e
 refine⟨fun m σ' H'=>∃F2 A e1,Same F F2∧e1.length=σ'.length∧σ'.length=σ.length∧(∀(k:Nat),k∉asgs b→σ'[k]?=σ[k]?)∧Rep K cl H₀ G₀ io F2 A σ' e1 H'∧whileL (fun e=>evB Γ c (dEnv e)) (ex Γ Δ pio n b) m e1=some (fl,env'),⟨n,F,A,env,.refl _,hl,rfl,fun _ _=>rfl,R,e'⟩,?_⟩
 rintro m σ1 H1 ⟨F1,A1,e1,sf1,l1,l2,st1,R1,w1⟩
 cases m with
 |zero=>cases w1
 |succ m=>
  obtain⟨t,h1,h2⟩:=bsi (show(evB Γ c (dEnv e1)).bind (fun b'=>if b' then(ex Γ Δ pio n b e1).bind fun q=>match q.1 with
   | .nx=>whileL (fun e=>evB Γ c (dEnv e)) (ex Γ Δ pio n b) m q.2
   | .ct=>whileL (fun e=>evB Γ c (dEnv e)) (ex Γ Δ pio n b) m q.2
   | .bk=>some (.nx,q.2)
   | .rt t=>some (.rt t,q.2)
  else some (.nx,e1))=some (fl,env')from w1)
  refine⟨H1,_,t,.refl _,R1.see,h1,fun H2 G2 x=> ?_⟩
  cases t with
  |false=>
   cases h2
   exact iteF (po σ1 H2 F1 A1 l1 l2 st1 sf1 (R1.same x.hh))
  |true=>
   obtain⟨⟨fb,eb⟩,h3,h4⟩:=bsi (show(ex Γ Δ pio n b e1).bind (fun q=>match q.1 with
    | .nx=>whileL (fun e=>evB Γ c (dEnv e)) (ex Γ Δ pio n b) m q.2
    | .ct=>whileL (fun e=>evB Γ c (dEnv e)) (ex Γ Δ pio n b) m q.2
    | .bk=>some (.nx,q.2)
    | .rt t=>some (.rt t,q.2))=some (fl,env')from h2)
   refine iteT ⟨fun σ' H'=>∃F2 A e1,Same F F2∧e1.length=σ'.length∧σ'.length=σ.length∧(∀(k:Nat),k∉asgs b→σ'[k]?=σ[k]?)∧Rep K cl H₀ G₀ io F2 A σ' e1 H'∧whileL (fun e=>evB Γ c (dEnv e)) (ex Γ Δ pio n b) m e1=some (fl,env'),fun σ' H' w=>⟨m,by lia,w⟩,?_⟩
   refine⟨H₀,G₀,io,F1,A1,e1,n,fb,eb,hp,l1,R1.same x.hh,h3,fun σ' H' F' A' l3 l4 st sf R'=> ?_⟩
   have st':∀(k:Nat),k∉asgs b→σ'[k]?=σ[k]?:=fun k hk=>(st k hk).trans (st1 k hk)
   cases fb with
   |nx=>exact⟨F',A',eb,sf1.trans sf,l3,l4.trans l2,st',R',h4⟩
   |ct=>exact⟨F',A',eb,sf1.trans sf,l3,l4.trans l2,st',R',h4⟩
   |bk=>cases h4;exact po σ' H' F' A' l3 (l4.trans l2) st' (sf1.trans sf) R'
   |rt t=>cases h4;exact po σ' H' F' A' l3 (l4.trans l2) st' (sf1.trans sf) R'
end
section
variable{K:W.Frag}{cl:Nat→Option Addr}{Γ:Tab}{Δ:IOT}{pio:Option Nat}{En:Ends}{σ:St}{H:Hp}
theorem unX{m:E}{H₀ G₀ F:Hp}{io:Option (Nat×Addr)}{A:Nat→List Addr}{env:TEnv}(R:Rep K cl H₀ G₀ io F A σ env H){d:D}(e:ev Γ m (dEnv env)=some d){Q:VK}(q:∀v H',Same H H'→Rep K cl H₀ G₀ io F A σ env H'→Dn K cl H' v d→Q v H'):tV K cl Γ m σ H Q:=
 ⟨H,_,d,.refl _,R.see,e,fun v H' G' x dv=>q v H' x.hh (R.same x.hh) (dv.mono x.gh)⟩
theorem dn_int{G:Hp}{v:V}{d:D}{z:Int}(h:Dn K cl G v d)(e:intD d=some z):v=.int z:=by
 cases d with
 |int i=>cases e;cases h;rfl
 |_=>cases e
theorem Rep.rewrite{H₀ G₀ F:Hp}{io:Option (Nat×Addr)}{A:Nat→List Addr}{env:TEnv}{i:Nat}{ts ts':List T}{p:Addr}{xs xs':List V}{B B' C:List Addr}(R:Rep K cl H₀ G₀ io F A σ env H)(e:env[i]?=some (some (.ow ts)))(hs:σ[i]?=some (some (.ref p)))(hA:A i=p::B)
 (ot:OTs K cl F H xs' ts' B')(nd:B'.Nodup)(sub:∀a∈B',a∈B∨a∈C)(cn:∀a∈C,H₀ a=none∧a≠p∧∀j,a∉A j):Rep K cl H₀ G₀ io F (fun j=>if j=i then p::B' else A j) σ (env.set i (some (.ow ts'))) (upd H p (.lst xs')):=by
 have ndA:=R.nd i
 rw [hA]at ndA
 obtain⟨np,ndB⟩:=List.nodup_cons.mp ndA
 have np':p∉B':=fun z=>by
  rcases sub p z with z|z
  ·exact np z
  ·exact(cn p z).2.1 rfl
 refine R.write (xs:=xs) e hA (ot.poke np') (List.nodup_cons.mpr ⟨np',nd⟩) (fun j a hj h1 h2=> ?_) (fun a ha=> ?_) hs
 ·rcases sub a h2 with z|z
  ·exact R.dj j i a hj h1 (by rw [hA];simp [z])
  ·exact(cn a z).2.2 j h1
 ·rcases sub a ha with z|z
  ·rcases R.anew i a (by rw [hA];simp [z])with⟨q,w⟩|w
   ·exfalso
    obtain⟨C',h5⟩:=R.iok q a w
    by_cases hq:q=i
    ·subst hq
     rw [hA]at h5
     injection h5 with h6 _
     exact np (by rw [h6];exact z)
    ·exact R.dj q i a hq (R.ioa w) (by rw [hA];simp [z])
   ·exact w
  ·exact(cn a z).1
theorem s_set{i:Nat}{k m:E}(h:tS K cl Γ Δ pio (.set i k m) En σ H):tAsg (tV K cl Γ m) (gSub (tVar i) (tV K cl Γ k) rSetL) En σ H:=by
 obtain⟨H₀,G₀,io,F,A,env,n,fl,env',hp,hl,R,e,po⟩:=h
 obtain⟨d,h1,e⟩:=bsi (show(ev Γ m (dEnv env)).bind (fun d=>if scal d then((ev Γ k (dEnv env)).bind intD).bind fun z=>(owAt env i).bind fun ts=>(ixN ts.length z).map fun j=>(Fl.nx,env.set i (some (.ow (ts.set j (.sh d)))))else none)=some (fl,env')from e)
 split at e
 ·rename_i sd
  obtain⟨z,h2,e⟩:=bsi e
  obtain⟨dk,h2,h3⟩:=bsi h2
  obtain⟨ts,h4,e⟩:=bsi e
  obtain⟨j,h5,e⟩:=msi e
  cases e
  refine unX R h1 fun v H1 s1 R1 d1=> ?_
  obtain⟨p,xs,B,h6,h7,hA,hx,fp,os⟩:=R1.own h4
  refine⟨.ref p,h7,unX R1 h2 fun u H2 s2 R2 d2=> ?_⟩
  have hu:=dn_int d2 h3
  subst hu
  obtain⟨p',xs',B',h6',h7',hA',hx',fp',os'⟩:=R2.own h4
  rw [h7]at h7'
  cases h7'
  rw [hA]at hA'
  cases hA'
  refine⟨p,xs',z,j,rfl,rfl,hx',by rw [os'.length];exact h5,?_⟩
  have ndA:=R2.nd i
  rw [hA]at ndA
  obtain⟨B2,o2,n2,sb⟩:=OTs.put (OT.sh (H:=H2) (d1.scal sd F)) j os' (List.nodup_cons.mp ndA).2 List.nodup_nil (by simp)
  exact po σ _ F _ (by simp [hl]) rfl (fun _ _=>rfl) (.refl _) (R2.rewrite (xs:=xs') (C:=[]) h6 h7 hA o2 n2 sb (by simp))
 ·cases e
theorem owAt_set{env:TEnv}{i j:Nat}{o:Option T}{ts:List T}(h:owAt (env.set j o) i=some ts):(i=j∧o=some (.ow ts))∨owAt env i=some ts:=by
 have e:=owAt_eq h
 by_cases hij:j=i
 ·subst hij
  by_cases hl:j<env.length
  ·rw [List.getElem?_set_self hl]at e;exact .inl ⟨rfl,Option.some.inj e⟩
  ·rw [List.getElem?_eq_none (by simp;lia)]at e;cases e
 ·rw [List.getElem?_set_ne hij]at e
  exact .inr (by unfold owAt;rw [e])
theorem frz_own:∀ {l:List Nat} {env env':TEnv} {i:Nat} {ts:List T},frz pio env l=some env'→owAt env' i=some ts→owAt env i=some ts
 |[],_,_,_,_,h,o=>by cases h;exact o
 |j::r,env,env',i,ts,h,o=>by
  unfold frz at h
  split at h
  ·split at h
   ·cases h
   ·rcases owAt_set (frz_own h o)with⟨_,z⟩|z
    ·cases z
    ·exact z
  ·split at h
   ·cases h
   ·rcases owAt_set (frz_own h o)with⟨_,z⟩|z
    ·cases z
    ·exact z
  ·exact frz_own h o
theorem evX_own{m:E}{env env1:TEnv}{t:T}{i:Nat}{ts:List T}(h:evX Γ pio m env=some (t,env1))(o:owAt env1 i=some ts):owAt env i=some ts:=by
 cases hc:isCall m with
 |true=>
  cases m with
  |call f args=>
   rw [evX_call]at h
   obtain⟨g,_,h⟩:=bsi h
   obtain⟨l,_,h⟩:=bsi h
   obtain⟨t1,_,h⟩:=bsi h
   split at h
   ·cases h;exact o
   ·obtain⟨e1,ef,h⟩:=bsi h
    obtain⟨l',_,h⟩:=bsi h
    obtain⟨t2,_,h⟩:=msi h
    cases h
    exact frz_own ef o
  |_=>cases hc
 |false=>
  rw [evX_other hc]at h
  obtain⟨d,_,h⟩:=bsi h
  split at h
  ·cases h;exact o
  ·split at h
   ·obtain⟨ds,_,h⟩:=bsi h
    split at h
    ·cases h;exact o
    ·obtain⟨e1,ef,h⟩:=bsi h
     obtain⟨_,_,h⟩:=msi h
     cases h
     exact frz_own ef o
   ·obtain⟨e1,ef,h⟩:=bsi h
    obtain⟨_,_,h⟩:=msi h
    cases h
    exact frz_own ef o
theorem ty_list{p:Addr}{xs:List V}(h:H p=some (.lst xs)):tyV K "list" (.ref p) H:=.inl ⟨rfl,_,SqL.of h⟩
theorem s_app{i:Nat}{m:E}(h:tS K cl Γ Δ pio (.app i m) En σ H):tDrop (tBM K "list" rAppend (tVar i) (tCons (tX K cl Γ pio m) tNil)) En σ H:=by
 obtain⟨H₀,G₀,io,F,A,env,n,fl,env',hp,hl,R,e,po⟩:=h
 obtain⟨⟨t,env1⟩,h1,e⟩:=bsi (show(evX Γ pio m env).bind (fun r=>(owAt r.2 i).bind fun ts=>if sz ts.length then some (Fl.nx,r.2.set i (some (.ow (ts++[r.1]))))else none)=some (fl,env')from e)
 obtain⟨ts,h2,e⟩:=bsi e
 split at e
 ·rename_i hz
  cases e
  obtain⟨p,xs,_,_,h3,_,h4,_,_⟩:=R.own (evX_own h1 h2)
  refine⟨.ref p,h3,ty_list h4,H₀,G₀,io,F,A,env,t,env1,hp,hl,R,h1,fun v H' F' A' B l1 g R' ot nd nw=> ?_⟩
  obtain⟨p',xs',B',h6,h7,hA,hx,fp,os⟩:=R'.own h2
  rw [h3]at h7
  cases h7
  have ndA:=R'.nd i
  rw [hA]at ndA
  obtain⟨np,ndB⟩:=List.nodup_cons.mp ndA
  have dis:∀a∈B,∀j,a∉A' j:=fun a ha j hj=>by
   obtain⟨_,o,h3⟩:=R.at_ (g.aa j a hj)
   rw [nw a ha]at h3;cases h3
  refine⟨p,xs',v,rfl,rfl,hx,?_,?_⟩
  ·have:=odt hz
   rw [os.length,sizeLine_eq];lia
  ·refine po σ _ F' _ (by simpa using l1) rfl (fun _ _=>rfl) g.ff (R'.rewrite (xs:=xs') (C:=B) h6 h3 hA (os.snoc ot) ?_ (fun a ha=>List.mem_append.mp ha) fun a ha=>⟨R.new (nw a ha),fun z=>dis a ha i (by rw [hA,z];simp),dis a ha⟩)
   exact List.nodup_append.mpr ⟨ndB,nd,fun a ha b hb e=>dis b hb i (by rw [hA,←e];simp [ha])⟩
 ·cases e
end
section
variable{K:W.Frag}{cl:Nat→Option Addr}{Γ:Tab}{Δ:IOT}{pio:Option Nat}{En:Ends}{σ:St}{H:Hp}
end
section
variable{K:W.Frag}{cl:Nat→Option Addr}{Γ:Tab}{Δ:IOT}{pio:Option Nat}{En:Ends}{σ:St}{H:Hp}
theorem OTs.takes:∀ {xs:List V} {ts:List T} {B:List Addr} {F H:Hp} (k:Nat),OTs K cl F H xs ts B→∃B1 B2,B=B1++B2∧OTs K cl F H (xs.take k) (ts.take k) B1∧OTs K cl F H (xs.drop k) (ts.drop k) B2
 |_,_,_,_,_,0,o=>⟨[],_,rfl,.nil,o⟩
 |_,_,_,_,_,k+1,.nil=>⟨[],[],rfl,.nil,.nil⟩
 |_,_,_,_,_,k+1,.cons (A:=A1) a r=>by
  obtain⟨B1,B2,e,o1,o2⟩:=OTs.takes k r
  exact⟨A1++B1,B2,by rw [e,List.append_assoc],.cons a o1,o2⟩
theorem s_ins{i:Nat}{k m:E}(h:tS K cl Γ Δ pio (.ins i k m) En σ H):tDrop (tBM K "list" rInsert (tVar i) (tCons (tV K cl Γ k) (tCons (tV K cl Γ m) tNil))) En σ H:=by
 obtain⟨H₀,G₀,io,F,A,env,n,fl,env',hp,hl,R,e,po⟩:=h
 obtain⟨z,h1,e⟩:=bsi (show((ev Γ k (dEnv env)).bind intD).bind (fun z=>(ev Γ m (dEnv env)).bind fun d=>(owAt env i).bind fun ts=>if scal d&&decide (0≤z∧z≤ts.length)&&sz ts.length then some (Fl.nx,env.set i (some (.ow (ts.take z.toNat++.sh d::ts.drop z.toNat))))else none)=some (fl,env')from e)
 obtain⟨dk,h1,h2⟩:=bsi h1
 obtain⟨d,h3,e⟩:=bsi e
 obtain⟨ts,h4,e⟩:=bsi e
 split at e
 ·rename_i hz
  obtain⟨hz,h6⟩:=bae hz
  obtain⟨sd,h5⟩:=bae hz
  have h5:=odt h5
  have h6:=odt h6
  cases e
  obtain⟨p,xs,B,e1,e2,hA,hx,fp,os⟩:=R.own h4
  refine⟨.ref p,e2,ty_list hx,unX R h1 fun u H1 s1 R1 d1=>unX R1 h3 fun y H2 s2 R2 d2=> ?_⟩
  have hu:=dn_int d1 h2
  subst hu
  obtain⟨p',xs',B',_,e2',hA',hx',fp',os'⟩:=R2.own h4
  rw [e2]at e2'
  cases e2'
  rw [hA]at hA'
  cases hA'
  have ndA:=R2.nd i
  rw [hA]at ndA
  obtain⟨np,ndB⟩:=List.nodup_cons.mp ndA
  refine⟨p,xs',z,y,rfl,rfl,hx',h5.1,by rw [os'.length];exact h5.2,by rw [os'.length,sizeLine_eq];lia,?_⟩
  obtain⟨B1,B2,eB,o1,o2⟩:=OTs.takes z.toNat os'
  have o3:=o1.app (OTs.cons (OT.sh (H:=H2) (d2.scal sd F)) o2)
  rw [List.nil_append,←eB]at o3
  exact po σ _ F _ (by simp [hl]) rfl (fun _ _=>rfl) (.refl _) (R2.rewrite (xs:=xs') (C:=[]) e1 e2 hA o3 ndB (fun a ha=> .inl ha) (by simp))
 ·cases e
end
section
variable{K:W.Frag}{cl:Nat→Option Addr}{Γ:Tab}{Δ:IOT}{pio:Option Nat}{En:Ends}{σ:St}{H:Hp}
theorem two_X{i j:Nat}{m l:E}{Q:V→V→Hp→Prop}(h:∃H₀ G₀ io F A env r q,Pio pio io∧env.length=σ.length∧Rep K cl H₀ G₀ io F A σ env H∧evX Γ pio m env=some r∧evX Γ pio l r.2=some q∧
 ∀v w H' F' A' B C,q.2.length=σ.length→Same F F'→Rep K cl H₀ G₀ io F' A' σ q.2 H'→OT K cl F' H' v r.1 B→OT K cl F' H' w q.1 C→B.Nodup→C.Nodup→(∀a∈B,H₀ a=none∧a∉C∧∀j,a∉A' j)→(∀a∈C,H₀ a=none∧∀j,a∉A' j)→Q v w H'):
 tX K cl Γ pio m σ H fun v H1=>tX K cl Γ pio l σ H1 fun w H2=>Q v w H2:=by
 obtain⟨H₀,G₀,io,F,A,env,⟨t,env1⟩,⟨u,env2⟩,hp,hl,R,h1,h2,q⟩:=h
 refine⟨H₀,G₀,io,F,A,env,t,env1,hp,hl,R,h1,fun v H1 F1 A1 B l1 g R1 ot nd nw=>⟨H₀,G₀,io,F1,A1,env1,u,env2,hp,l1,R1,h2,fun w H2 F2 A2 C l2 g2 R2 ot2 nd2 nw2=> ?_⟩⟩
 have b1:∀a∈B,∀j,a∉A1 j:=fun a ha j hj=>by
  obtain⟨_,o,h3⟩:=R.at_ (g.aa j a hj)
  rw [nw a ha]at h3;cases h3
 have hb:∀a∈B,∃o,H1 a=some o:=fun a ha=>(ot.free a ha).2
 have ot':OT K cl F2 H2 v t B:=ot.move g2.ff (fun a ha=>by
  cases e:F2 a with
  |none=>rfl
  |some o=>
   rcases g2.nw a o e (ot.free a ha).1 with⟨j,z⟩|z
   ·exact absurd z (b1 a ha j)
   ·obtain⟨o',z'⟩:=hb a ha
    rw [z]at z';cases z') fun a _ o q=>g2.hh _ _ q
 refine q v w H2 F2 A2 B C l2 (g.ff.trans g2.ff) R2 ot' ot2 nd nd2 (fun a ha=>⟨R.new (nw a ha),fun z=> ?_,fun j hj=>b1 a ha j (g2.aa j a hj)⟩) fun a ha=>⟨R1.new (nw2 a ha),fun j hj=> ?_⟩
 ·obtain⟨o,z'⟩:=hb a ha
  rw [nw2 a z]at z';cases z'
 ·obtain⟨_,o,h3⟩:=R1.at_ (g2.aa j a hj)
  rw [nw2 a ha]at h3;cases h3
theorem Rep.store2{H₀ G₀ F:Hp}{io:Option (Nat×Addr)}{A:Nat→List Addr}{env:TEnv}{i j:Nat}{v w:V}{t u:T}{B C:List Addr}(R:Rep K cl H₀ G₀ io F A σ env H)(hp:Pio pio io)(hi:pio≠some i)(hj:pio≠some j)(li:i<env.length)(lj:j<env.length)(hs:env.length=σ.length)(hij:i≠j)
 (o1:OT K cl F H v t B)(o2:OT K cl F H w u C)(n1:B.Nodup)(n2:C.Nodup)(d1:∀a∈B,H₀ a=none∧a∉C∧∀j,a∉A j)(d2:∀a∈C,H₀ a=none∧∀j,a∉A j):
 ∃A',Rep K cl H₀ G₀ io F A' ((σ.set i (some v)).set j (some w)) ((env.set i (some t)).set j (some u)) H:=by
 have R1:=R.store (hp.ne hi) li hs o1 n1 (fun k a _ h1 h2=>(d1 a h2).2.2 k h1) fun a ha=>(d1 a ha).1
 exact⟨_,R1.store (hp.ne hj) (by simpa using lj) (by simpa using hs) o2 n2 (fun k a hk h1 h2=>by
  have h1':a∈(if k=i then B else A k):=h1
  split at h1'
  ·exact(d1 a h1').2.1 h2
  ·exact(d2 a h2).2 k h1') fun a ha=>(d2 a ha).1⟩
theorem set_ne2{σ:St}{i j k:Nat}{o p:Option V}(h:k∉[i,j]):((σ.set i o).set j p)[k]?=σ[k]?:=by
 rw [List.getElem?_set_ne (fun e=>h (by simp [e])),List.getElem?_set_ne (fun e=>h (by simp [e]))]
theorem asg2_X{i j:Nat}{m l:E}(h:tS K cl Γ Δ pio (.asg2 i j m l) En σ H):tX K cl Γ pio m σ H fun v H1=>tX K cl Γ pio l σ H1 fun w H2=>(∀p,H2 p=none→En.nx ((σ.set i (some v)).set j (some w)) (upd H2 p (.tup [v,w])))∧En.nx ((σ.set i (some v)).set j (some w)) H2:=by
 obtain⟨H₀,G₀,io,F,A,env,n,fl,env',hp,hl,R,e,po⟩:=h
 have e':(if okI pio env i&&okI pio env j&&decide (i≠j)then(evX Γ pio m env).bind fun r=>(evX Γ pio l r.2).map fun q=>(Fl.nx,(q.2.set i (some r.1)).set j (some q.1))else none)=some (fl,env'):=e
 split at e'
 ·rename_i ok
  obtain⟨ok,hij⟩:=bae ok
  obtain⟨ok1,ok2⟩:=bae ok
  obtain⟨r,h1,e'⟩:=bsi e'
  obtain⟨q,h2,e'⟩:=msi e'
  cases e'
  refine two_X (i:=i) (j:=j) ⟨H₀,G₀,io,F,A,env,r,q,hp,hl,R,h1,h2,fun v w H' F' A' B C l1 sf R' o1 o2 n1 n2 d1 d2=> ?_⟩
  have i1:=(okI_ok ok1).2
  have i2:=(okI_ok ok2).2
  obtain⟨A2,R2⟩:=R'.store2 hp (okI_ok ok1).1 (okI_ok ok2).1 (by lia) (by lia) l1 (odt hij) o1 o2 n1 n2 d1 d2
  exact⟨fun p hp'=>po _ _ F' A2 (by simpa using l1) (by simp) (fun k hk=>set_ne2 hk) sf (R2.same (same_upd hp' _)),po _ _ F' A2 (by simpa using l1) (by simp) (fun k hk=>set_ne2 hk) sf R2⟩
 ·cases e'
theorem s_par{i j:Nat}{m l:E}(h:tS K cl Γ Δ pio (.asg2 i j m l) En σ H):tPar i j (tCons (tX K cl Γ pio m) (tCons (tX K cl Γ pio l) tNil)) En σ H:=by
 have q:=asg2_X h
 obtain⟨H₀,G₀,io,F,A,env,t,env1,hp,hl,R,h1,q⟩:=q
 refine⟨H₀,G₀,io,F,A,env,t,env1,hp,hl,R,h1,fun v H1 F1 A1 B l1 g R1 ot nd nw=> ?_⟩
 obtain⟨H₀',G₀',io',F',A',env',t',env1',hp',hl',R',h1',q'⟩:=q v H1 F1 A1 B l1 g R1 ot nd nw
 exact⟨H₀',G₀',io',F',A',env',t',env1',hp',hl',R',h1',fun w H2 F2 A2 C l2 g2 R2 ot2 nd2 nw2=>⟨v,w,rfl,(q' w H2 F2 A2 C l2 g2 R2 ot2 nd2 nw2).2⟩⟩
theorem s_tup2{i j:Nat}{m l:E}(h:tS K cl Γ Δ pio (.asg2 i j m l) En σ H):tAsg (tTup (tCons (tX K cl Γ pio m) (tCons (tX K cl Γ pio l) tNil))) (gTup K 2 (gCons (gName i) (gCons (gName j) gNil))) En σ H:=by
 have q:=asg2_X h
 obtain⟨H₀,G₀,io,F,A,env,t,env1,hp,hl,R,h1,q⟩:=q
 refine⟨H₀,G₀,io,F,A,env,t,env1,hp,hl,R,h1,fun v H1 F1 A1 B l1 g R1 ot nd nw=> ?_⟩
 obtain⟨H₀',G₀',io',F',A',env',t',env1',hp',hl',R',h1',q'⟩:=q v H1 F1 A1 B l1 g R1 ot nd nw
 exact⟨H₀',G₀',io',F',A',env',t',env1',hp',hl',R',h1',fun w H2 F2 A2 C l2 g2 R2 ot2 nd2 nw2=>⟨two_fits,fun p hp=>⟨p,_,rfl,SqT.of upd_same,rfl,v,[w],rfl,w,[],rfl,rfl,(q' w H2 F2 A2 C l2 g2 R2 ot2 nd2 nw2).1 p hp⟩⟩⟩
theorem it_X{H₀ G₀ F:Hp}{io:Option (Nat×Addr)}{A:Nat→List Addr}{env env':TEnv}{m:E}{ds:List D}(hp:Pio pio io)(hl:env.length=σ.length)(R:Rep K cl H₀ G₀ io F A σ env H)(h:itX Γ pio m env=some (ds,env')){Q:It→Hp→Prop}
 (q:∀J H' F' A',env'.length=σ.length→Same F F'→Rep K cl H₀ G₀ io F' A' σ env' H'→(∀(H2 F2:Hp) (k:Nat),Same F' F2→Same F2 H2→(k=ds.length→J.stop k H2)∧∀d,ds[k]?=some d→J.go k H2∧∀v H3,J.yld k H2 v H3→∃F3,Ext H2 F2 H3 F3∧Dn K cl F3 v d)→Q J H'):tI K cl Γ m σ H Q:=by
 unfold itX at h
 split at h
 ·rename_i hr
  obtain⟨l,h1,h2⟩:=msi h
  cases h2
  refine⟨H,_,ds,.refl _,R.see,h1,fun J H' G' x wk wr=>q J H' F A hl (.refl _) (R.same x.hh) fun H2 F2 k s1 s2=>wr hr F H2 F2 k s1 s2⟩
 ·obtain⟨env1,h1,h⟩:=bsi h
  obtain⟨l,h2,h3⟩:=msi h
  cases h3
  obtain⟨F1,A1,R1,l1,g1⟩:=frz_ok hp R h1
  exact⟨F1,_,ds,R1.fh,R1.seeF,h2,fun J H' G' x wk _=>q J H' G' A1 (l1.trans hl) (g1.ff.trans x.gg) (R1.ext x) fun H2 F2 k s1 s2=>wk H2 F2 k s1 s2⟩
theorem s_for1{i:Nat}{it:E}{b:S}(h:tS K cl Γ Δ pio (.for1 i it b) En σ H):tFor (tI K cl Γ it) (gName i) (tS K cl Γ Δ pio b) En σ H:=by
 obtain⟨H₀,G₀,io,F,A,env,n,fl,env',hp,hl,R,e,po⟩:=h
 have e':(if okI pio env i then(itX Γ pio it env).bind fun r=>forL (fun d e=>ex Γ Δ pio n b (e.set i (some (.sh d)))) r.1 r.2 else none)=some (fl,env'):=e
 split at e'
 ·rename_i ok
  obtain⟨o1,o2⟩:=okI_ok ok
  obtain⟨⟨ds,env1⟩,h1,e'⟩:=bsi e'
  refine it_X hp hl R h1 fun J H1 F1 A1 l1 sf1 R1 wk=> ?_
  refine⟨fun k m σ' H'=>m=ds.length-k∧k≤ds.length∧∃F A e1,Same F1 F∧e1.length=σ'.length∧σ'.length=σ.length∧(∀(x:Nat),x∉i::asgs b→σ'[x]?=σ[x]?)∧Rep K cl H₀ G₀ io F A σ' e1 H'∧forL (fun d e=>ex Γ Δ pio n b (e.set i (some (.sh d)))) (ds.drop k) e1=some (fl,env'),⟨_,rfl,Nat.zero_le _,F1,A1,env1,.refl _,l1,rfl,fun _ _=>rfl,R1,e'⟩,?_⟩
  rintro k m σ1 H2 ⟨rfl,hk,F2,A2,e1,s2,l2,l3,st,R2,w⟩
  obtain⟨w1,w2⟩:=wk H2 F2 k s2 R2.fh
  by_cases hlt:k<ds.length
  ·obtain⟨g,y⟩:=w2 ds[k] (List.getElem?_eq_getElem hlt)
   refine .inr ⟨g,fun σ' H'=>∃F A e1,Same F1 F∧e1.length=σ'.length∧σ'.length=σ.length∧(∀(x:Nat),x∉i::asgs b→σ'[x]?=σ[x]?)∧Rep K cl H₀ G₀ io F A σ' e1 H'∧forL (fun d e=>ex Γ Δ pio n b (e.set i (some (.sh d)))) (ds.drop (k+1)) e1=some (fl,env'),fun σ' H' q=>⟨_,by lia,rfl,hlt,q⟩,fun v H3 yl=> ?_⟩
   obtain⟨F3,x3,d3⟩:=y v H3 yl
   have R3:=R2.ext x3
   rw [List.drop_eq_getElem_cons hlt]at w
   obtain⟨⟨fb,eb⟩,h3,h4⟩:=bsi (show(ex Γ Δ pio n b (e1.set i (some (.sh ds[k])))).bind (fun q=>match q.1 with
    | .nx=>forL (fun d e=>ex Γ Δ pio n b (e.set i (some (.sh d)))) (ds.drop (k+1)) q.2
    | .ct=>forL (fun d e=>ex Γ Δ pio n b (e.set i (some (.sh d)))) (ds.drop (k+1)) q.2
    | .bk=>some (.nx,q.2)
    | .rt t=>some (.rt t,q.2))=some (fl,env')from w)
   have R4:=R3.store (hp.ne o1) (by lia) l2 (.sh d3) List.nodup_nil (fun _ _ _ _ z=>by simp at z) (by simp)
   refine⟨H₀,G₀,io,F3,_,_,n,fb,eb,hp,by simpa using l2,R4,h3,fun σ' H' F' A' l5 l6 st' sf R'=> ?_⟩
   have l7:σ'.length=σ.length:=by rw [l6,List.length_set];exact l3
   have st7:∀(x:Nat),x∉i::asgs b→σ'[x]?=σ[x]?:=fun x hx=>by
    rw [st' x (fun z=>hx (by simp [z])),List.getElem?_set_ne (fun z=>hx (by simp [z])),st x hx]
   cases fb with
   |nx=>exact⟨F',A',eb,(s2.trans x3.gg).trans sf,l5,l7,st7,R',h4⟩
   |ct=>exact⟨F',A',eb,(s2.trans x3.gg).trans sf,l5,l7,st7,R',h4⟩
   |bk=>cases h4;exact po σ' H' F' A' l5 l7 st7 (sf1.trans ((s2.trans x3.gg).trans sf)) R'
   |rt t=>cases h4;exact po σ' H' F' A' l5 l7 st7 (sf1.trans ((s2.trans x3.gg).trans sf)) R'
  ·have e0:k=ds.length:=by lia
   subst e0
   rw [List.drop_length]at w
   cases w
   exact .inl ⟨w1 rfl,po σ1 H2 F2 A2 l2 l3 st (sf1.trans s2) R2⟩
 ·cases e'
noncomputable def step2(Γ:Tab)(Δ:IOT)(pio:Option Nat)(n i j:Nat)(b:S):D→TEnv→Option (Fl×TEnv):=fun d e=>match d with
 | .tup [x,y]=>ex Γ Δ pio n b ((e.set i (some (.sh x))).set j (some (.sh y)))
 |_=>none
theorem step2_some{n i j:Nat}{b:S}{d:D}{e:TEnv}{r:Fl×TEnv}(h:step2 Γ Δ pio n i j b d e=some r):∃x y,d=.tup [x,y]∧ex Γ Δ pio n b ((e.set i (some (.sh x))).set j (some (.sh y)))=some r:=by
 unfold step2 at h
 split at h
 ·exact⟨_,_,rfl,h⟩
 ·cases h
theorem s_for2{i j:Nat}{it:E}{b:S}(h:tS K cl Γ Δ pio (.for2 i j it b) En σ H):tFor (tI K cl Γ it) (gTup K 2 (gCons (gName i) (gCons (gName j) gNil))) (tS K cl Γ Δ pio b) En σ H:=by
 obtain⟨H₀,G₀,io,F,A,env,n,fl,env',hp,hl,R,e,po⟩:=h
 have e':(if okI pio env i&&okI pio env j&&decide (i≠j)then(itX Γ pio it env).bind fun r=>forL (step2 Γ Δ pio n i j b) r.1 r.2 else none)=some (fl,env'):=e
 split at e'
 ·rename_i ok
  obtain⟨ok,hij⟩:=bae ok
  obtain⟨ok1,ok2⟩:=bae ok
  obtain⟨o1,o2⟩:=okI_ok ok1
  obtain⟨o3,o4⟩:=okI_ok ok2
  have hij:=odt hij
  obtain⟨⟨ds,env1⟩,h1,e'⟩:=bsi e'
  refine it_X hp hl R h1 fun J H1 F1 A1 l1 sf1 R1 wk=> ?_
  refine⟨fun k m σ' H'=>m=ds.length-k∧k≤ds.length∧∃F A e1,Same F1 F∧e1.length=σ'.length∧σ'.length=σ.length∧(∀(x:Nat),x∉i::j::asgs b→σ'[x]?=σ[x]?)∧Rep K cl H₀ G₀ io F A σ' e1 H'∧forL (step2 Γ Δ pio n i j b) (ds.drop k) e1=some (fl,env'),⟨_,rfl,Nat.zero_le _,F1,A1,env1,.refl _,l1,rfl,fun _ _=>rfl,R1,e'⟩,?_⟩
  rintro k m σ1 H2 ⟨rfl,hk,F2,A2,e1,s2,l2,l3,st,R2,w⟩
  obtain⟨w1,w2⟩:=wk H2 F2 k s2 R2.fh
  by_cases hlt:k<ds.length
  ·obtain⟨g,y⟩:=w2 ds[k] (List.getElem?_eq_getElem hlt)
   refine .inr ⟨g,fun σ' H'=>∃F A e1,Same F1 F∧e1.length=σ'.length∧σ'.length=σ.length∧(∀(x:Nat),x∉i::j::asgs b→σ'[x]?=σ[x]?)∧Rep K cl H₀ G₀ io F A σ' e1 H'∧forL (step2 Γ Δ pio n i j b) (ds.drop (k+1)) e1=some (fl,env'),fun σ' H' q=>⟨_,by lia,rfl,hlt,q⟩,fun v H3 yl=> ?_⟩
   obtain⟨F3,x3,d3⟩:=y v H3 yl
   have R3:=R2.ext x3
   rw [List.drop_eq_getElem_cons hlt]at w
   obtain⟨⟨fb,eb⟩,h3,h4⟩:=bsi (show(step2 Γ Δ pio n i j b ds[k] e1).bind (fun q=>match q.1 with
    | .nx=>forL (step2 Γ Δ pio n i j b) (ds.drop (k+1)) q.2
    | .ct=>forL (step2 Γ Δ pio n i j b) (ds.drop (k+1)) q.2
    | .bk=>some (.nx,q.2)
    | .rt t=>some (.rt t,q.2))=some (fl,env')from w)
   obtain⟨x,y,hd,h3⟩:=step2_some h3
   rw [hd]at d3
   cases d3 with| @tup p zs _ t1 t2=>
   obtain⟨u1,u2,rfl,du1,du2⟩:=t2.two
   refine⟨p,_,rfl,SqT.of (x3.gh _ _ t1),rfl,u1,[u2],rfl,u2,[],rfl,rfl,?_⟩
   obtain⟨A4,R4⟩:=R3.store2 hp o1 o3 (by lia) (by lia) l2 hij (.sh du1) (.sh du2) List.nodup_nil List.nodup_nil (by simp) (by simp)
   refine⟨H₀,G₀,io,F3,_,_,n,fb,eb,hp,by simpa using l2,R4,h3,fun σ' H' F' A' l5 l6 st' sf R'=> ?_⟩
   have l7:σ'.length=σ.length:=by rw [l6,List.length_set,List.length_set];exact l3
   have st7:∀(x:Nat),x∉i::j::asgs b→σ'[x]?=σ[x]?:=fun x hx=>by
    rw [st' x (fun z=>hx (by simp [z])),set_ne2 (fun z=>hx (by simp at z⊢;rcases z with z|z<;>simp [z])),st x hx]
   cases fb with
   |nx=>exact⟨F',A',eb,(s2.trans x3.gg).trans sf,l5,l7,st7,R',h4⟩
   |ct=>exact⟨F',A',eb,(s2.trans x3.gg).trans sf,l5,l7,st7,R',h4⟩
   |bk=>cases h4;exact po σ' H' F' A' l5 l7 st7 (sf1.trans ((s2.trans x3.gg).trans sf)) R'
   |rt t=>cases h4;exact po σ' H' F' A' l5 l7 st7 (sf1.trans ((s2.trans x3.gg).trans sf)) R'
  ·have e0:k=ds.length:=by lia
   subst e0
   rw [List.drop_length]at w
   cases w
   exact .inl ⟨w1 rfl,po σ1 H2 F2 A2 l2 l3 st (sf1.trans s2) R2⟩
 ·cases e'
end
end MI
end
noncomputable section
namespace L2
open PySem PySem.Spec PyProof.Rows
section
variable{X:Cx}{pos:Pos}
end
end L2
namespace MI
open PySem L2
section
variable{K:W.Frag}{cl:Nat→Option Addr}{Γ:Tab}{Δ:IOT}{pio:Option Nat}{En:Ends}{σ:St}{H:Hp}
end
noncomputable def spIO(K:W.Frag)(cl:Nat→Option Addr)(k:Nat)(g:List D→Option (T×List D)):Sp:=fun vs H Q _=>∃G l a xs ds t ds',Same G H∧vs.length=l.length∧vs[k]?=some (.ref a)∧l[k]?=some (.lst ds)∧H a=some (.lst xs)∧G a=none∧Dns K cl G xs ds∧
 (∀(j:Nat) (v:V) (d:D),j≠k→vs[j]?=some v→l[j]?=some d→Dn K cl G v d)∧g l=some (t,ds')∧flatT t=true∧ds.all scal=true∧ds'.all scal=true∧
 ∀v H' G' xs' B,(∀b o,b≠a→H b=some o→H' b=some o)→Same G G'→Same G' H'→(∀b o,G' b=some o→G b=none→H b=none)→H' a=some (.lst xs')→Dns K cl G' xs' ds'→OT K cl G' H' v t B→B.Nodup→(∀b∈B,H b=none)→Q v H'
structure GoodIO(X:Cx)(cl:Nat→Option Addr)(x:Str)(k:Nat)(g:List D→Option (T×List D)):Prop where
 ex:∃r fa fd ps,FnOk X.prog X.w X.K X.mg X.base CX0 r fa fd ps (spIO X.K cl k g)∧Room r X.A∧X.mg x=some (.ref fa)∧W.keepIn X.K (.ref fa)=true∧Binds X.K fd ps []
section
variable{X:Cx}{cl:Nat→Option Addr}{Γ:Tab}{Δ:IOT}{pio:Option Nat}{En:Ends}
noncomputable def tIA(K:W.Frag)(cl:Nat→Option Addr)(Γ:Tab)(i k:Nat)(args:E):TA:=fun σ H Q=>∃G env ds l a,Same G H∧EnvD K cl G env σ∧σ[i]?=some (some (.ref a))∧evA Γ i ds env k args=some l∧
 ∀vs H' G',Ext H G H' G'→vs.length=l.length→vs[k]?=some (.ref a)→l[k]?=some (.lst ds)→(∀(j:Nat) (v:V) (d:D),j≠k→vs[j]?=some v→l[j]?=some d→Dn K cl G' v d)→Q vs H'
theorem isVar_eq{m:E}{i:Nat}(h:isVar m i=true):m=.var i:=by
 cases m with
 |var j=>have:j=i:=by simpa [isVar]using h
         rw [this]
 |_=>cases h
theorem pa_io{f:Expr→Option E}(hv:∀e i,f e=some (.var i)→PE X e (tVar i))(ih:∀e m,f e=some m→PE X e (tV X.K cl Γ m)):∀ {k i:Nat} {es:List Expr} {m:E},es.all okE=true→cList f es=some m→PA X es (tIA X.K cl Γ i k m)
 |0,i,[],m,_,h=>by
  cases h
  intro pos pins s σ H Q I ⟨G,env,ds,l,a,sg,en,hs,e,q⟩
  cases e
 |k+1,i,[],m,_,h=>by
  cases h
  intro pos pins s σ H Q I ⟨G,env,ds,l,a,sg,en,hs,e,q⟩
  cases e
 |0,i,e::r,m,ok,h=>by
  rw [List.all_cons,Bool.and_eq_true]at ok
  obtain⟨ma,h1,h⟩:=bsi h
  obtain⟨mr,h2,rfl⟩:=msi h
  intro pos pins s σ H Q I ⟨G,env,ds,l,a,sg,en,hs,e,q⟩
  have e':(if isVar ma i then(evs Γ mr env).map fun l=> .lst ds::l else none)=some l:=e
  split at e'
  ·rename_i hi
   have:=isVar_eq hi
   subst this
   obtain⟨l',el,rfl⟩:=msi e'
   refine(pa_cons (hv _ i h1) (clist_ok (fun e _ m h=>ih e m h) ok.2 h2) (star_of ok.1 _ _)) pos pins s σ H Q I ⟨.ref a,hs,G,env,l',sg,en,el,fun vs H' G' x dv=> ?_⟩
   refine q _ H' G' x (by simp [dv.length]) rfl rfl fun j v d hj h3 h4=> ?_
   cases j with
   |zero=>exact absurd rfl hj
   |succ j=>
    obtain⟨v',h5,h6⟩:=dv.get (i:=j) (d:=d) (by simpa using h4)
    have h3':vs[j]?=some v:=by simpa using h3
    rw [h3']at h5
    cases h5
    exact h6
  ·cases e'
 |k+1,i,e::r,m,ok,h=>by
  rw [List.all_cons,Bool.and_eq_true]at ok
  obtain⟨ma,h1,h⟩:=bsi h
  obtain⟨mr,h2,rfl⟩:=msi h
  intro pos pins s σ H Q I ⟨G,env,ds,l,a,sg,en,hs,e,q⟩
  obtain⟨x,ex,e⟩:=bsi (show(ev Γ ma env).bind (fun x=>(evA Γ i ds env k mr).map fun l=>x::l)=some l from e)
  obtain⟨l',el,rfl⟩:=msi e
  refine(pa_cons (ih _ ma h1) (pa_io (k:=k) (i:=i) hv ih ok.2 h2) (star_of ok.1 _ _)) pos pins s σ H Q I ⟨G,env,x,sg,en,ex,fun v H1 G1 x1 d1=>⟨G1,env,ds,l',a,x1.gh,en.mono x1.gg,hs,el,fun vs H' G' x2 h3 h4 h5 h6=> ?_⟩⟩
  refine q _ H' G' (x1.trans x2) (by simp [h3]) (by simpa using h4) (by simpa using h5) fun j u d hj h7 h8=> ?_
  cases j with
  |zero=>
   have h7':v=u:=by simpa using h7
   have h8':x=d:=by simpa using h8
   subst h7' h8'
   exact d1.mono x2.gg
  |succ j=>exact h6 j u d (fun z=>hj (by rw [z])) (by simpa using h7) (by simpa using h8)
noncomputable def tIOC(K:W.Frag)(cl:Nat→Option Addr)(Γ:Tab)(Δ:IOT)(pio:Option Nat)(f i:Nat)(args:E):TE:=fun σ H Q=>∃H₀ G₀ io F A env t env',Pio pio io∧env.length=σ.length∧Rep K cl H₀ G₀ io F A σ env H∧evIO Γ Δ f i args env=some (t,env')∧
 ∀v H' A' B,env'.length=σ.length→Rep K cl H₀ G₀ io F A' σ env' H'→OT K cl F H' v t B→B.Nodup→(∀a∈B,H₀ a=none∧∀j,a∉A' j)→Q v H'
noncomputable def but(H:Hp)(a:Addr):Hp:=fun b=>if b=a then none else H b
theorem but_same{H:Hp}{a:Addr}:Same (but H a) H:=fun b o h=>by
 unfold but at h
 split at h
 ·cases h
 ·exact h
theorem but_at{H:Hp}{a:Addr}:but H a a=none:=by unfold but;rw [if_pos rfl]
theorem but_ne{H:Hp}{a b:Addr}(h:b≠a):but H a b=H b:=by unfold but;rw [if_neg h]
theorem Rep.seeBut{K:W.Frag}{H₀ G₀ F H:Hp}{io:Option (Nat×Addr)}{A:Nat→List Addr}{σ:St}{env:TEnv}(R:Rep K cl H₀ G₀ io F A σ env H){i:Nat}{p:Addr}{B:List Addr}(hA:A i=p::B):EnvD K cl (but H p) (dEnv (env.set i none)) σ:=fun j d e=>by
 unfold dEnv at e
 rw [List.getElem?_map]at e
 by_cases hj:j=i
 ·subst hj
  by_cases hl:j<env.length
  ·rw [List.getElem?_set_self hl]at e;cases e
  ·rw [List.getElem?_eq_none (by simp;lia)]at e;cases e
 ·rw [List.getElem?_set_ne (Ne.symm hj)]at e
  cases q:env[j]? with
  |none=>rw [q]at e;cases e
  |some o=>
   cases o with
   |none=>rw [q]at e;cases e
   |some t=>
    rw [q]at e
    cases e
    obtain⟨v,h1,h2⟩:=R.slot j t q
    obtain⟨F',fz,dn⟩:=h2.freeze R.fh (R.nd j)
    refine⟨v,h1,dn.mono fun b o z=> ?_⟩
    rw [but_ne]
    ·exact fz.gh _ _ z
    ·rintro rfl
     have hp:b∈A i:=by rw [hA];simp
     rw [fz.on b (fun w=>R.dj j i b hj w hp)]at z
     rw [(R.at_ hp).1]at z
     cases z
theorem pe_ioc{x:Str}{f i k:Nat}{g:List D→Option (T×List D)}{e:Expr}{es:List Expr}{m:E}{p pos:Pos}(hg:Gl X x)(hd:(x==("__debug__":Str))=false)(FF:GoodIO X cl x k g)(hf:Δ f=some (k,g))(ha:PA X (e::es) (tIA X.K cl Γ i k m))(ok:(e::es).all okE=true):
 PE X (.Call (.Name x p) (e::es) [] pos) (tIOC X.K cl Γ Δ pio f i m):=by
 obtain⟨r,fa,fd,ps,F1,F2,F3,F4,F5⟩:=FF.ex
 rw [List.all_cons,Bool.and_eq_true]at ok
 refine peI (pe_call F1 F2 hg F3 F4 F5 .nil pass0 ha hd (star_of ok.1 _ _) (star_any ok.2 _ _)) fun σ H Q ⟨H₀,G₀,io,F,A,env,t,env',hp,hl,R,h1,q⟩=> ?_
 unfold evIO at h1
 rw [hf]at h1
 have h1':(match env[i]? with
  |some (some (.ow ts))=>(unsh ts).bind fun ds=>if ds.all scal then(evA Γ i ds (dEnv (env.set i none)) k m).bind fun l=>(g l).bind fun r=>if flatT r.1&&r.2.all scal then some (r.1,env.set i (some (.ow (r.2.map T.sh))))else none else none
  |_=>none)=some (t,env'):=h1
 split at h1'
 ·rename_i ts he
  obtain⟨ds,h2,h9⟩:=bsi h1'
  have:=unsh_eq h2
  subst this
  split at h9
  ·rename_i hs
   obtain⟨l,h3,h9⟩:=bsi h9
   obtain⟨⟨t1,ds'⟩,h4,h9⟩:=bsi h9
   split at h9
   ·rename_i hfl
    obtain⟨hfl,hs'⟩:=bae hfl
    cases h9
    obtain⟨a,xs,B,e1,e2,hA,hx,fp,os⟩:=R.own (show owAt env i=some _ by unfold owAt;rw [he])
    obtain⟨dx,hB⟩:=os.unsh
    subst hB
    refine⟨but H a,_,ds,l,a,but_same,R.seeBut hA,e2,h3,fun vs H1 G1 x1 y1 y2 y3 y4=> ?_⟩
    show spIO X.K cl k g (vs++[]) H1 Q E0
    rw [List.append_nil]
    have R1:=R.same x1.hh
    have ga:G1 a=none:=by
     cases z:G1 a with
     |none=>rfl
     |some o=>have:=x1.nw a o z but_at;rw [hx]at this;cases this
    refine⟨G1,l,a,xs,ds,_,_,x1.gh,y1,y2,y3,x1.hh _ _ hx,ga,dx.scal hs G1,y4,h4,hfl,hs,hs',fun v H' G' xs' B k1 k2 k3 k4 k5 k6 k7 k8 k9=> ?_⟩
    have nB:∀b∈B,∀j,b∉A j:=fun b hb j hj=>by
     obtain⟨_,o,z⟩:=R1.at_ hj
     rw [k9 b hb]at z;cases z
    have fB:∀b∈B,F b=none:=fun b hb=>R1.fh.free (k9 b hb)
    have aA:a∈A i:=by rw [hA];simp
    have nea:∀j b,j≠i→b∈A j→b≠a:=fun j b hj hb z=>R.dj j i b hj hb (by rw [z];exact aA)
    have a0:∀b o,H₀ b=some o→(∀p,io≠some (p,b))→b≠a:=fun b o w1 w2 z=>by
     rcases R.anew i a aA with⟨q,w⟩|w
     ·exact w2 q (by rw [z];exact w)
     ·rw [z,w]at w1;cases w1
    refine q v H' A B (by simp [hl]) ⟨fun j u e'=> ?_,fun j hh=> ?_,R.nd,R.dj,fun b o z=> ?_,R.gf,R.fnew,fun b o z1 z2=> ?_,R.anew,R.iok⟩ (k7.flat hfl fB) k8 fun b hb=>⟨R1.new (k9 b hb),nB b hb⟩
    ·by_cases hj:j=i
     ·subst hj
      rw [List.getElem?_set_self (by rw [hl];exact(List.getElem?_eq_some_iff.mp e2).1)]at e'
      cases e'
      refine⟨.ref a,e2,?_⟩
      rw [hA]
      exact .ow k5 fp (OTs.shs (k6.scal hs' F))
     ·rw [List.getElem?_set_ne (Ne.symm hj)]at e'
      obtain⟨w,z3,z4⟩:=R1.slot j u e'
      exact⟨w,z3,z4.move (.refl _) (fun b hb=>(z4.free b hb).1) fun b hb o qq=>k1 b o (nea j b hj hb) qq⟩
    ·by_cases hj:j=i
     ·subst hj;exact absurd (List.getElem?_set_self (by rw [hl];exact(List.getElem?_eq_some_iff.mp e2).1)) (hh _)
     ·refine R.out j fun u z=>hh u ?_
      rw [List.getElem?_set_ne (Ne.symm hj)];exact z
    ·exact k1 b o (ne_of_none z fp) (R1.fh _ _ z)
    ·exact k1 b o (a0 b o z1 z2) (R1.keep b o z1 z2)
   ·cases h9
  ·cases h9
 ·cases h1'
end
section
variable{K:W.Frag}{cl:Nat→Option Addr}{Γ:Tab}{Δ:IOT}{pio:Option Nat}{En:Ends}{σ:St}{H:Hp}
theorem s_dropio{f i:Nat}{args:E}(h:tS K cl Γ Δ pio (.dropio f i args) En σ H):tDrop (tIOC K cl Γ Δ pio f i args) En σ H:=by
 obtain⟨H₀,G₀,io,F,A,env,n,fl,env',hp,hl,R,e,po⟩:=h
 obtain⟨⟨t,env1⟩,h1,h2⟩:=msi (show(evIO Γ Δ f i args env).map (fun r=>(Fl.nx,r.2))=some (fl,env')from e)
 cases h2
 exact⟨H₀,G₀,io,F,A,env,t,env1,hp,hl,R,h1,fun v H' A' B l1 R' ot nd nw=>po σ H' F A' l1 rfl (fun _ _=>rfl) (.refl _) R'⟩
noncomputable def tNotIf(neg:Bool)(t:TE):TT:=fun σ H Q=>t σ H fun v H1=>∃b,v=.bl b∧Q (b !=neg) H1
theorem s_ifio{neg:Bool}{f i:Nat}{args:E}{a b:S}(h:tS K cl Γ Δ pio (.ifio neg f i args a b) En σ H):tIfS (tNotIf neg (tIOC K cl Γ Δ pio f i args)) (tS K cl Γ Δ pio a) (tS K cl Γ Δ pio b) En σ H:=by
 obtain⟨H₀,G₀,io,F,A,env,n,fl,env',hp,hl,R,e,po⟩:=h
 obtain⟨⟨t,env1⟩,h1,h2⟩:=bsi (show(evIO Γ Δ f i args env).bind (fun r=>match r.1 with
  | .sh (.bl t)=>if(t !=neg)then ex Γ Δ pio n a r.2 else ex Γ Δ pio n b r.2
  |_=>none)=some (fl,env')from e)
 refine⟨H₀,G₀,io,F,A,env,t,env1,hp,hl,R,h1,fun v H' A' B l1 R' ot nd nw=> ?_⟩
 cases t with
 |ow ts=>cases h2
 |ob _ _ _=>cases h2
 |sh d=>
  cases d with
  |bl c=>
   have h2':(if(c !=neg)then ex Γ Δ pio n a env1 else ex Γ Δ pio n b env1)=some (fl,env'):=h2
   cases ot with
   |sh dn=>
    cases dn
    refine⟨c,rfl,?_⟩
    cases hc:(c !=neg)with
    |true=>
     rw [hc]at h2'
     exact iteT ⟨H₀,G₀,io,F,A',env1,n,fl,env',hp,l1,R',h2',fun σ' H' F' A' l1 l2 st sf R'=>po σ' H' F' A' l1 l2 (fun k hk=>st k fun z=>hk (by simp [asgs,z])) sf R'⟩
    |false=>
     rw [hc]at h2'
     exact iteF ⟨H₀,G₀,io,F,A',env1,n,fl,env',hp,l1,R',h2',fun σ' H' F' A' l1 l2 st sf R'=>po σ' H' F' A' l1 l2 (fun k hk=>st k fun z=>hk (by simp [asgs,z])) sf R'⟩
  |_=>cases h2
theorem s_appio{j f i:Nat}{args:E}(h:tS K cl Γ Δ pio (.appio j f i args) En σ H):tDrop (tBM K "list" rAppend (tVar j) (tCons (tIOC K cl Γ Δ pio f i args) tNil)) En σ H:=by
 obtain⟨H₀,G₀,io,F,A,env,n,fl,env',hp,hl,R,e,po⟩:=h
 have e':(if j=i then none else(evIO Γ Δ f i args env).bind fun r=>(owAt r.2 j).bind fun ts=>if sz ts.length then some (Fl.nx,r.2.set j (some (.ow (ts++[r.1]))))else none)=some (fl,env'):=e
 split at e'
 ·cases e'
 ·rename_i hji
  obtain⟨⟨t,env1⟩,h1,e'⟩:=bsi e'
  obtain⟨ts,h2,e'⟩:=bsi e'
  have h2:owAt env1 j=some ts:=h2
  split at e'
  ·rename_i hz
   cases e'
   have h2':owAt env j=some ts:=by
    unfold evIO at h1
    obtain⟨kg,_,h1⟩:=bsi h1
    split at h1
    ·obtain⟨ds,_,h1⟩:=bsi h1
     split at h1
     ·obtain⟨l,_,h1⟩:=bsi h1
      obtain⟨r,_,h1⟩:=bsi h1
      split at h1
      ·cases h1
       rcases owAt_set h2 with⟨z,_⟩|z
       ·exact absurd z hji
       ·exact z
      ·cases h1
     ·cases h1
    ·cases h1
   obtain⟨p,xs,_,_,h3,_,h4,_,_⟩:=R.own h2'
   refine⟨.ref p,h3,ty_list h4,H₀,G₀,io,F,A,env,t,env1,hp,hl,R,h1,fun v H' A' B l1 R' ot nd nw=> ?_⟩
   obtain⟨p',xs',B',h6,h7,hA,hx,fp,os⟩:=R'.own h2
   rw [h3]at h7
   cases h7
   have ndA:=R'.nd j
   rw [hA]at ndA
   obtain⟨np,ndB⟩:=List.nodup_cons.mp ndA
   refine⟨p,xs',v,rfl,rfl,hx,?_,?_⟩
   ·have:=odt hz
    rw [os.length,sizeLine_eq];lia
   ·refine po σ _ F _ (by simpa using l1) rfl (fun _ _=>rfl) (.refl _) (R'.rewrite (xs:=xs') (C:=B) h6 h3 hA (os.snoc ot) ?_ (fun a ha=>List.mem_append.mp ha) fun a ha=>⟨(nw a ha).1,fun z=>(nw a ha).2 j (by rw [hA,z];simp),(nw a ha).2⟩)
    exact List.nodup_append.mpr ⟨ndB,nd,fun a ha b hb e=>(nw b hb).2 j (by rw [hA,←e];simp [ha])⟩
  ·cases e'
end
section
variable{K:W.Frag}{cl:Nat→Option Addr}{H₀ G₀ F H:Hp}{io:Option (Nat×Addr)}{A:Nat→List Addr}{σ:St}{env:TEnv}
end
section
variable{K:W.Frag}{cl:Nat→Option Addr}{Γ:Tab}{Δ:IOT}{pio:Option Nat}{En:Ends}{σ:St}{H:Hp}
end
section
variable{X:Cx}{cl:Nat→Option Addr}{Γ:Tab}{c:CC}
theorem var_inv{n:Nat}{top:Bool}{N:List Str}{sc:Scope}{e:Expr}{i:Nat}(S:Sees X cl c Γ top N sc)(h:cE c n top N sc e=some (.var i)):PE X e (tVar i):=by
 cases n with
 |zero=>cases h
 |succ n=>
  have hh:=cE_head h
  cases e
  case Name x pos=>
   replace h:cNa c N sc x=some (.var i):=h
   unfold cNa at h
   split at h
   ·rename_i ok
    obtain⟨n1,n2,n3⟩:=okN_ok ok
    split at h
    ·rename_i j hi
     cases h
     have hN:=nIdx_get hi
     exact pe_var (i:=i) (by rw [S.hN];exact hN) (S.vis i _ hN) n1 n2
    ·split at h
     ·split at h
      ·cases h
      ·obtain⟨_,_,h⟩:=msi h;cases h
     ·cases h
   ·cases h
  all_goals cases hh
theorem comp_inv(hΓ:∀x f,c.tab.lookup x=some f→∃g,Γ f=some g){n:Nat}{N:List Str}{sc:Scope}{elt iter:Expr}{x:Str}{px pos:Pos}{ifs:List Expr}{scope:Scope}{m:E}(S:Sees X cl c Γ true N sc)(h:cE c n true N sc (.ListComp elt [⟨.Name x px,iter,ifs,0⟩] scope pos)=some m):
 ∃fr is mi me mc tt,m=.comp me is mi mc∧CompScope sc N scope x fr is∧PI X (.Name x px) iter (tI X.K cl Γ mi)∧(∀C s H fp pins,PTs (compCx X scope (x::fr) C s H fp pins) ifs tt)∧(∀C s H fp pins,PE (compCx X scope (x::fr) C s H fp pins) elt (tV X.K cl Γ me))∧
  (∀σ H (Q:Bool→Hp→Prop),(∃G env b,Same G H∧EnvD X.K cl G env σ∧cS mc (ev Γ mc env)=some b∧∀H' G',Ext H G H' G'→Q b H')→tt σ H Q)∧(∀v,foldedSetIterable iter X.env v=pure v):=by
 cases n with
 |zero=>cases h
 |succ n=>
  have ih1:∀e m,cE c n true N sc e=some m→PE X e (tV X.K cl Γ m):=fun e m h=>(cE_ok hΓ n true N sc e m X S h).1
  have h':(if okE iter then(slotsOf N (frees scope.names)).bind fun is=>if compOk sc N scope x (frees scope.names) is then
   (cI false (isGl N sc) (fun y=>(c.tab.lookup y).isSome) (cE c n true N sc) iter).bind fun mi=>
   (cE c n false (x::frees scope.names) scope elt).bind fun me=>(cIfs (cE c n false (x::frees scope.names) scope) ifs).map fun mc=> .comp me is mi mc
   else none else none)=some m:=h
  split at h'
  ·rename_i oi
   obtain⟨is,h1,h⟩:=bsi h'
   split at h
   ·rename_i cs
    have cs:=compOk_ok cs
    obtain⟨mi,h2,h⟩:=bsi h
    obtain⟨me,h3,h⟩:=bsi h
    obtain⟨mc,h4,rfl⟩:=msi h
    have hi:PI X (.Name x px) iter (tI X.K cl Γ mi):=ci_ok S ih1 (fun z=>by cases z) h2
    have he:∀C s H fp pins,PE (compCx X scope (x::frees scope.names) C s H fp pins) elt (tV X.K cl Γ me):=fun C s H fp pins=>(cE_ok hΓ n false _ scope elt me _ (S.comp cs C s H fp pins) h3).1
    have hfs:∀v,foldedSetIterable iter X.env v=pure v:=by intro v;cases iter<;>first|rfl|cases oi
    cases ifs with
    |nil=>
     cases h4
     exact⟨_,is,mi,me,_,tTrue,rfl,cs,hi,fun _ _ _ _ _=>pts_nil,he,fun σ H Q ⟨G,env,b,sg,en,e,q⟩=>by
      have e':some true=some b:=e
      cases e'
      exact q H G (Ext.refl sg),hfs⟩
    |cons t r=>
     cases r with
     |nil=>
      have h4':(if okT t then(cE c n false (x::frees scope.names) scope t).bind fun m=>if isNil m then none else some m else none)=some mc:=h4
      split at h4'
      ·rename_i okt
       obtain⟨m',h5,h6⟩:=bsi h4'
       split at h6
       ·cases h6
       ·rename_i nn
        cases h6
        have ht:∀C s H fp pins,PT (compCx X scope (x::frees scope.names) C s H fp pins) t (tVT X.K cl Γ mc):=fun C s H fp pins=>(cE_ok hΓ n false _ scope t mc _ (S.comp cs C s H fp pins) h5).2 okt
        exact⟨_,is,mi,me,mc,tVT X.K cl Γ mc,rfl,cs,hi,fun C s H fp pins=>pts_one (ht C s H fp pins),he,fun σ H Q ⟨G,env,b,sg,en,e,q⟩=>by
         unfold cS at e
         rw [if_neg nn]at e
         exact⟨G,env,b,sg,en,e,q⟩,hfs⟩
      ·cases h4'
     |cons t2 r2=>cases h4
   ·cases h
  ·cases h'
theorem tX_comp{K:W.Frag}{pio:Option Nat}{me mi mc:E}{is:List Nat}{σ:St}{H:Hp}{Q:VK}(h:tX K cl Γ pio (.comp me is mi mc) σ H Q):tF K cl Γ (.comp me is mi mc) σ H Q:=by
 obtain⟨H₀,G₀,io,F,A,env,t,env',hp,hl,R,ev',q⟩:=h
 rw [evX_other rfl]at ev'
 obtain⟨d,ed,ev'⟩:=bsi ev'
 have hd:∃ds,d=.lst ds:=by
  obtain⟨ds,_,e⟩:=bsi (show((ev Γ mi (dEnv env)).bind walkD).bind (fun ds=>if sz ds.length then(compR (fun d=>(cS mc (ev Γ mc (inner (dEnv env) is d))).bind fun b=>if b then(ev Γ me (inner (dEnv env) is d)).map some else some none) ds).map D.lst else none)=some d from ed)
  split at e
  ·obtain⟨o,_,rfl⟩:=msi e
   exact⟨o,rfl⟩
  ·cases e
 obtain⟨ds,rfl⟩:=hd
 rw [if_neg (show¬scal (D.lst ds)=true from fnt)]at ev'
 rw [if_pos (show fresh (E.comp me is mi mc)=true from rfl)]at ev'
 obtain⟨ds2,e1,ev2⟩:=bsi ev'
 cases e1
 split at ev2
 ·rename_i al
  cases ev2
  refine⟨H,_,_,.refl _,R.see,ed,fun p xs H1 G1 x hpn gpn hat dx=> ?_⟩
  refine q (.ref p) H1 F A [p] hl (.of_same x.hh) (R.same x.hh) (.ow hat (R.fh.free hpn) (OTs.shs (dx.scal al F))) (by simp) (fun a ha=> ?_)
  have e:a=p:=by simpa using ha
  rw [e];exact hpn
 ·obtain⟨env1,ef,ev'⟩:=bsi ev2
  obtain⟨ds',e2,ev'⟩:=msi ev'
  cases ev'
  obtain⟨d',e3,e4⟩:=bsi e2
  have hd:d'=.lst ds':=by cases d'<;>cases e4;rfl
  subst hd
  obtain⟨F1,A1,R1,l1,g1⟩:=frz_ok hp R ef
  refine⟨F1,_,ds',R1.fh,R1.seeF,e3,fun p xs H1 G1 x hpn gpn hat dx=> ?_⟩
  refine q (.ref p) H1 G1 A1 [p] (l1.trans hl) (g1.trans (.of_ext x)) (R1.ext x) (.ow hat gpn (OTs.shs dx)) (by simp) (fun a ha=> ?_)
  have e:a=p:=by simpa using ha
  rw [e];exact hpn
end
theorem swaps_comp(elt:Expr)(gs:List Comprehension)(scope:Scope)(pos:Pos)(y:Str)(py:Pos)(l:Nat)(env:PySem.Env):swapsWith (.ListComp elt gs scope pos) (some (.Name y py)) l env=pure (env.blockKind==.function&&env.kindOf y==some .local&&py.line==pos.line&& !(scope.names.any fun(n,k)=>n==y&&(k==.local||k==.cell))):=rfl
noncomputable def isComp:Expr→Bool
 | .ListComp _ _ _ _=>true
 | .SetComp _ _ _ _=>true
 | .DictComp _ _ _ _ _=>true
 |_=>false
theorem swaps_not{e:Expr}(h:isComp e=false)(t:Option Expr)(l:Nat)(env:PySem.Env):swapsWith e t l env=pure false:=by
 cases e<;>first|rfl|cases h
section
variable{X:Cx}{cl:Nat→Option Addr}{Γ:Tab}{c:CC}
end
section
variable{K:W.Frag}{cl:Nat→Option Addr}{Γ:Tab}{Δ:IOT}{pio:Option Nat}{En:Ends}{σ:St}{H:Hp}
end
section
variable{K:W.Frag}{cl:Nat→Option Addr}{Γ:Tab}{Δ:IOT}{pio:Option Nat}{En:Ends}{σ:St}{H:Hp}
end
noncomputable def spMIO(K:W.Frag)(cl:Nat→Option Addr)(C:Addr)(g:List D→Option (T×List D)):Sp:=fun vs H Q _=>∃G x dx a vs' xs ds l r,Same G H∧vs=.ref x::vs'∧H x=some (.ins C dx [("counts",.ref a)])∧H a=some (.lst xs)∧G a=none∧Dns K cl G xs ds∧Dns K cl G vs' l∧g (.lst ds::l)=some r∧nonT r.1=true∧ds.all scal=true∧r.2.all scal=true∧
 ∀H' G' xs',(∀b o,b≠a→H b=some o→H' b=some o)→Same G G'→Same G' H'→(∀b o,G' b=some o→G b=none→H b=none)→H' a=some (.lst xs')→Dns K cl G' xs' r.2→Q .non H'
structure GoodMIO(X:Cx)(cl:Nat→Option Addr)(C:Addr)(m:Str)(g:List D→Option (T×List D)):Prop where
 ex:∃k f fd ps,Meth X.K C m f∧FnOk X.prog X.w X.K X.mg X.base CX0 k f fd ps (spMIO X.K cl C g)∧Room k X.A∧Binds X.K fd ps []
section
variable{X:Cx}{cl:Nat→Option Addr}{Γ:Tab}{Δ:IOT}{pio:Option Nat}
end
section
variable{K:W.Frag}{cl:Nat→Option Addr}{Γ:Tab}{Δ:IOT}{pio:Option Nat}{En:Ends}{σ:St}{H:Hp}
end
structure CS where
 cc:CC
 iot:List (Str×Nat×Nat)
noncomputable def cIo(c:CS)(n:Nat)(N:List Str)(sc:Scope)(e:Expr):Option (Nat×Nat×E):=match e with
 | .Call (.Name x _) args [] _=>if args.all okE&&isGl N sc x&& !args.isEmpty then(c.iot.lookup x).bind fun fk=>(cList (cE c.cc n true N sc) args).bind fun m=>((args[fk.2]?).bind fun a=>match a with
    | .Name y _=>nIdx N y
    |_=>none).map fun i=>(fk.1,i,m)else none
 |_=>none
noncomputable def cM(c:CS)(n:Nat)(N:List Str)(sc:Scope)(o:Expr)(m:Str)(args:List Expr):Option S:=(nmOf o).bind fun x=>match args with
 |[a]=>if m==("append":Str)then(if okN x then(nIdx N x).bind fun i=>match cIo c n N sc a with
     |some (f,j,ma)=>some (.appio i f j ma)
     |none=>(cE c.cc n true N sc a).map (.app i)else none)
    else none
 |[k,a]=>if m==("insert":Str)then(if okN x then(nIdx N x).bind fun i=>(cE c.cc n true N sc k).bind fun mk=>(cE c.cc n true N sc a).map fun ma=> .ins i mk ma else none)else none
 |_=>none
noncomputable def cX(c:CS)(n:Nat)(N:List Str)(sc:Scope)(e:Expr):Option S:=match e with
 | .Call (.Attribute o m apos) args [] cpos=>if args.all okE&&isBm apos cpos&&attrOk o then cM c n N sc o m args else none
 | .Call (.Name x p) args [] q=>match cIo c n N sc (.Call (.Name x p) args [] q)with
   |some (f,i,m)=>some (.dropio f i m)
   |none=>(cE c.cc n true N sc (.Call (.Name x p) args [] q)).map .drop
 |_=>none
noncomputable def cTio(c:CS)(n:Nat)(N:List Str)(sc:Scope)(e:Expr):Option (Bool×Nat×Nat×E):=match e with
 | .UnaryOp .Not a _=>(cIo c n N sc a).map fun r=>(true,r)
 |a=>(cIo c n N sc a).map fun r=>(false,r)
noncomputable def okSw(sc:Scope)(ts:List (Str×Pos))(vs:List Expr):Option Bool:=match ts with
 |[(x,px),(y,py)]=>if decide (sc.names.lookup x=some .local)&&decide (sc.names.lookup y=some .local)&&px.line==py.line then(if vs.all (foldedForSure 8)then some false else if vs.all (constantsAlone 8)then none else some true)else some false
 |_=>none
noncomputable def cAs(c:CS)(n:Nat)(N:List Str)(sc:Scope)(ts:List Expr)(e:Expr):Option S:=match ts with
 |[.Name x px]=>if okN x then(nIdx N x).bind fun i=>(cE c.cc n true N sc e).map (.asg i)else none
 |[.Tuple [.Name x px,.Name y py] _ _]=>(match e with
  | .Tuple [a,b] _ _=>if okN x&&okN y&&okE a&&okE b then(nIdx N x).bind fun i=>(nIdx N y).bind fun j=>(cE c.cc n true N sc a).bind fun m=>(cE c.cc n true N sc b).bind fun l=>(okSw sc [(x,px),(y,py)] [a,b]).map fun _=> .asg2 i j m l else none
  |_=>none)
 |[.Subscript (.Name x _) k _]=>if okN x&&okE k&& !isComp e then(nIdx N x).bind fun i=>(cE c.cc n true N sc k).bind fun mk=>(cE c.cc n true N sc e).map fun m=> .set i mk m else none
 |_=>none
noncomputable def cIs(c:CS)(n:Nat)(N:List Str)(sc:Scope)(rc:List Stmt→Option S)(t:Expr)(a b:List Stmt):Option S:=(rc a).bind fun ma=>(rc b).bind fun mb=>match cTio c n N sc t with
 |some (ng,f,i,m)=>some (.ifio ng f i m ma mb)
 |none=>if okT t then(cE c.cc n true N sc t).map fun mt=> .ife mt ma mb else none
noncomputable def cFo(c:CS)(n:Nat)(N:List Str)(sc:Scope)(rc:List Stmt→Option S)(t it:Expr)(body:List Stmt):Option S:=match t with
 | .Name x _=>if okN x&&okE it then(nIdx N x).bind fun i=>(cI false (isGl N sc) (fun y=>(c.cc.tab.lookup y).isSome) (cE c.cc n true N sc) it).bind fun mi=>(rc body).map fun mb=> .for1 i mi mb else none
 | .Tuple [.Name x _,.Name y _] _ _=>if okN x&&okN y&&okE it then(nIdx N x).bind fun i=>(nIdx N y).bind fun j=>(cI true (isGl N sc) (fun y=>(c.cc.tab.lookup y).isSome) (cE c.cc n true N sc) it).bind fun mi=>(rc body).map fun mb=> .for2 i j mi mb else none
 |_=>none
noncomputable def cWh(c:CS)(n:Nat)(N:List Str)(sc:Scope)(rc:List Stmt→Option S)(t:Expr)(body:List Stmt):Option S:=if okT t then(cE c.cc n true N sc t).bind fun mt=>(rc body).map fun mb=> .wh mt mb else none
noncomputable def noEls(els:List Stmt)(o:Option S):Option S:=match els with
 |[]=>o
 |_=>none
noncomputable def cS1(c:CS)(n:Nat)(N:List Str)(sc:Scope)(rc:List Stmt→Option S)(st:Stmt):Option S:=match st with
 | .Pass _=>some .nop
 | .Expr e _=>cX c n N sc e
 | .Assign ts e _=>cAs c n N sc ts e
 | .If t a b _=>cIs c n N sc rc t a b
 | .For t it body els _=>noEls els (cFo c n N sc rc t it body)
 | .While t body els _=>noEls els (cWh c n N sc rc t body)
 | .Return o _=>o.bind fun e=>(cE c.cc n true N sc e).map .ret
 | .Raise _ _ _=>some .raise
 |_=>none
noncomputable def cSt(c:CS):Nat→List Str→Scope→List Stmt→Option S
 |0,_,_,_=>none
 |n+1,N,sc,l=>match l with
  |[]=>some .nop
  |st::rest=>(cS1 c n N sc (cSt c n N sc) st).bind fun a=>(cSt c n N sc rest).map fun b=> .seq a b
structure SSees(X:Cx)(cl:Nat→Option Addr)(c:CS)(Γ:Tab)(Δ:IOT)(N:List Str)(sc:Scope):Prop where
 S:Sees X cl c.cc Γ true N sc
 hΓ:∀x f,c.cc.tab.lookup x=some f→∃g,Γ f=some g
 nd:N.Nodup
 loc:∀(i:Nat) (x:Str),N[i]?=some x→Loc X.env.scope x
 fn:∀x,X.fn x=true
 kd:X.env.scope.kind=.function
 pw:PassesOwn (model X.prog X.w) X.A X.env X.xe
 io:∀x f k,c.iot.lookup x=some (f,k)→∃g,Δ f=some (k,g)∧GoodIO X cl x k g
 mio:∀d C k m g,MTH[k]?=some m→cl d=some C→Δ (mid d k)=some (0,g)→GoodMIO X cl C m g
theorem psI{X:Cx}{st:Stmt}{t t':TS}(h:PS X st t)(i:∀D σ H,t' D σ H→t D σ H):PS X st t':=fun pins s σ H D I q=>h pins s σ H D I (i D σ H q)
theorem pssI{X:Cx}{st:List Stmt}{t t':TS}(h:PSs X st t)(i:∀D σ H,t' D σ H→t D σ H):PSs X st t':=fun pins s σ H D I q=>h pins s σ H D I (i D σ H q)
section
variable{X:Cx}{cl:Nat→Option Addr}{c:CS}{Γ:Tab}{Δ:IOT}{pio:Option Nat}{N:List Str}{sc:Scope}
theorem SSees.bk(S:SSees X cl c Γ Δ N sc):X.env.blockKind=.function:=by unfold PySem.Env.blockKind;rw [S.kd];rfl
theorem cio_ok(S:SSees X cl c Γ Δ N sc){n:Nat}{e:Expr}{f i:Nat}{m:E}(h:cIo c n N sc e=some (f,i,m)):PE X e (tIOC X.K cl Γ Δ pio f i m):=by
 unfold cIo at h
 split at h
 ·rename_i x p args q
  split at h
  ·rename_i ok
   obtain⟨ok,ne⟩:=bae ok
   obtain⟨ok,gx⟩:=bae ok
   obtain⟨⟨f',k⟩,h1,h⟩:=bsi h
   obtain⟨m',h2,h⟩:=bsi h
   obtain⟨i',h3,h4⟩:=msi h
   cases h4
   obtain⟨g,hg,G⟩:=S.io x _ _ h1
   obtain⟨o1,g1⟩:=isGl_ok gx
   cases args with
   |nil=>cases ne
   |cons e es=>exact pe_ioc (S.S.gl x g1) (okN_ok o1).1 G hg (pa_io (fun e i h=>var_inv S.S h) (fun e m h=>(cE_ok S.hΓ n true N sc e m X S.S h).1) ok h2) ok
  ·cases h
 ·cases h
theorem base_ok{o:Expr}(h:attrOk o=true)(name:Str)(env:PySem.Env):attributeBase o name env (eval o env)=eval o env:=by
 unfold attributeBase
 split
 ·rename_i id p pos
  cases h
 ·rfl
theorem pe_meth1{o a:Expr}{m:Str}{id:String}{r:V→List V→Hp→VK→Prop}{to ta:TE}{apos cpos:Pos}(slot:Slot "list" m id)(hty:typeOf (.builtin id)=pure (.type "method_descriptor"))(hm:MtR X id r)(ho:PE X o to)(ha:PE X a ta)(oa:okE a=true)(bm:isBm apos cpos=true)(ao:attrOk o=true):
 PE X (.Call (.Attribute o m apos) [a] [] cpos) (tBM X.K "list" r to (tCons ta tNil)):=
 pe_bm PySem.F.plainAttrs_list slot hty hm ho (pa_cons ha pa_nil (star_of oa _ _)) (base_ok ao _ _) (few_ok (es:=[a]) (by rw [List.all_cons,oa];rfl) _ _ (by simp)) bm (star_of oa _ _) rfl
theorem pe_meth2{o a b:Expr}{m:Str}{id:String}{r:V→List V→Hp→VK→Prop}{to ta tb:TE}{apos cpos:Pos}(slot:Slot "list" m id)(hty:typeOf (.builtin id)=pure (.type "method_descriptor"))(hm:MtR X id r)(ho:PE X o to)(ha:PE X a ta)(hb:PE X b tb)(oa:okE a=true)(ob:okE b=true)(bm:isBm apos cpos=true)(ao:attrOk o=true):
 PE X (.Call (.Attribute o m apos) [a,b] [] cpos) (tBM X.K "list" r to (tCons ta (tCons tb tNil))):=
 pe_bm PySem.F.plainAttrs_list slot hty hm ho (pa_cons ha (pa_cons hb pa_nil (star_of ob _ _)) (star_of oa _ _)) (base_ok ao _ _) (few_ok (es:=[a,b]) (by rw [List.all_cons,List.all_cons,oa,ob];rfl) _ _ (by simp)) bm (star_of oa _ _) (star_any (es:=[b]) (by rw [List.all_cons,ob];rfl) _ _)
end
section
variable{X:Cx}{cl:Nat→Option Addr}{c:CS}{Γ:Tab}{Δ:IOT}{pio:Option Nat}{N:List Str}{sc:Scope}
theorem SSees.pv(S:SSees X cl c Γ Δ N sc){x:Str}{i:Nat}{p:Pos}(ok:okN x=true)(h:nIdx N x=some i):PE X (.Name x p) (tVar i):=by
 have hN:=nIdx_get h
 obtain⟨n1,n2,n3⟩:=okN_ok ok
 exact pe_var (by rw [S.S.hN];exact hN) (S.S.vis i x hN) n1 n2
theorem SSees.pg(S:SSees X cl c Γ Δ N sc){x:Str}{i:Nat}{p:Pos}(h:nIdx N x=some i):PG X (.Name x p) (gName i):=by
 have hN:=nIdx_get h
 exact pg_name (i:=i) (by rw [S.S.hN];exact S.nd) (by rw [S.S.hN];exact hN) (S.loc i x hN) (.inl (S.fn x))
theorem cM_ok(S:SSees X cl c Γ Δ N sc){n:Nat}{o:Expr}{m:Str}{args:List Expr}{s:MI.S}{apos cpos pos:Pos}(ok:args.all okE=true)(bm:isBm apos cpos=true)(ao:attrOk o=true)(h:cM c n N sc o m args=some s):
 PS X (.Expr (.Call (.Attribute o m apos) args [] cpos) pos) (tS X.K cl Γ Δ pio s):=by
 have pe:=fun e m (h:cE c.cc n true N sc e=some m)=>(cE_ok S.hΓ n true N sc e m X S.S h).1
 have px:=fun e m (h:cE c.cc n true N sc e=some m)=>evX_ok (pio:=pio) S.hΓ S.S h
 replace h:=bsi h
 obtain⟨x,h0,h⟩:=h
 obtain⟨p,rfl⟩:=nmOf_ok h0
 split at h
 ·rename_i a
  rw [List.all_cons,Bool.and_eq_true]at ok
  split at h
  ·rename_i hm
   have hm:m="append":=by simpa using hm
   rw [hm]
   split at h
   ·rename_i ox
    obtain⟨i,hi,h⟩:=bsi h
    split at h
    ·rename_i f j ma hio
     cases h
     exact psI (ps_expr (pe_meth1 PySem.F.slot_list_append PySem.F.type_list_append mt_append (S.pv ox hi) (cio_ok (pio:=pio) S hio) ok.1 bm ao) rfl) fun D σ H q=>s_appio q
    ·obtain⟨ma,h1,rfl⟩:=msi h
     exact psI (ps_expr (pe_meth1 PySem.F.slot_list_append PySem.F.type_list_append mt_append (S.pv ox hi) (px a ma h1) ok.1 bm ao) rfl) fun D σ H q=>s_app q
   ·cases h
  ·cases h
 ·rename_i k a
  rw [List.all_cons,Bool.and_eq_true,List.all_cons,Bool.and_eq_true]at ok
  split at h
  ·rename_i hm
   have hm:m="insert":=by simpa using hm
   rw [hm]
   split at h
   ·rename_i ox
    obtain⟨i,hi,h⟩:=bsi h
    obtain⟨mk,h1,h⟩:=bsi h
    obtain⟨ma,h2,rfl⟩:=msi h
    exact psI (ps_expr (pe_meth2 PySem.F.slot_list_insert PySem.F.type_list_insert mt_insert (S.pv ox hi) (pe k mk h1) (pe a ma h2) ok.1 ok.2.1 bm ao) rfl) fun D σ H q=>s_ins q
   ·cases h
  ·cases h
 ·cases h
theorem cX_ok(S:SSees X cl c Γ Δ N sc){n:Nat}{e:Expr}{s:MI.S}{pos:Pos}(h:cX c n N sc e=some s):PS X (.Expr e pos) (tS X.K cl Γ Δ pio s):=by
 unfold cX at h
 split at h
 ·rename_i o m apos args cpos
  split at h
  ·rename_i ok
   obtain⟨ok,ao⟩:=bae ok
   obtain⟨ok,bm⟩:=bae ok
   exact cM_ok S ok bm ao h
  ·cases h
 ·rename_i x p args q
  split at h
  ·rename_i f i m hio
   cases h
   exact psI (ps_expr (cio_ok (pio:=pio) S hio) rfl) fun D σ H q=>s_dropio q
  ·obtain⟨m,h1,rfl⟩:=msi h
   exact psI (ps_expr (evX_ok (pio:=pio) S.hΓ S.S h1) rfl) fun D σ H q=>s_drop q
 ·cases h
theorem cTio_ok(S:SSees X cl c Γ Δ N sc){n:Nat}{e:Expr}{ng:Bool}{f i:Nat}{m:E}(h:cTio c n N sc e=some (ng,f,i,m)):PT X e (tNotIf ng (tIOC X.K cl Γ Δ pio f i m)):=by
 have plain:∀ {e:Expr} {f i:Nat} {m:E},cIo c n N sc e=some (f,i,m)→PT X e (tB (tIOC X.K cl Γ Δ pio f i m)):=by
  intro e f i m h
  have hc:∃x p args q,e=.Call (.Name x p) args [] q:=by
   unfold cIo at h
   split at h
   ·exact⟨_,_,_,_,rfl⟩
   ·cases h
  obtain⟨x,p,args,q,rfl⟩:=hc
  exact pt_val (cio_ok (pio:=pio) S h) (by intro _;rfl)
 unfold cTio at h
 split at h
 ·rename_i a pos
  obtain⟨⟨f',i',m'⟩,h1,h2⟩:=msi h
  cases h2
  refine ptI (pt_not (plain h1)) fun σ H Q q=> ?_
  obtain⟨H₀,G₀,io,F,A,env,t,env',hp,hl,R,e1,q⟩:=q
  refine⟨H₀,G₀,io,F,A,env,t,env',hp,hl,R,e1,fun v H' A' B l1 R' ot nd nw=> ?_⟩
  obtain⟨b,e2,q2⟩:=q v H' A' B l1 R' ot nd nw
  refine⟨b,e2,?_⟩
  cases b<;>exact q2
 ·obtain⟨⟨f',i',m'⟩,h1,h2⟩:=msi h
  cases h2
  refine ptI (plain h1) fun σ H Q q=> ?_
  obtain⟨H₀,G₀,io,F,A,env,t,env',hp,hl,R,e1,q⟩:=q
  refine⟨H₀,G₀,io,F,A,env,t,env',hp,hl,R,e1,fun v H' A' B l1 R' ot nd nw=> ?_⟩
  obtain⟨b,e2,q2⟩:=q v H' A' B l1 R' ot nd nw
  refine⟨b,e2,?_⟩
  cases b<;>exact q2
@[simp] theorem pos_Name(x:Str)(p:Pos):(Expr.Name x p).pos=p:=rfl
theorem swapped_eq{x y:Str}{px py:Pos}{kt:Nat}{pt p2:Pos}{k2:Nat}{a b:Expr}{env:PySem.Env}{r:Bool}(hb:env.blockKind=.function)(oa:okE a=true)(ob:okE b=true)(hxy:x≠y)(hsc:env.scope=sc)(h:okSw sc [(x,px),(y,py)] [a,b]=some r):
 swappedStores [.Tuple [.Name x px,.Name y py] kt pt] (.Tuple [a,b] k2 p2) env=pure (if r then some [x,y]else none)∧(r=true→sc.names.lookup x=some .local∧sc.names.lookup y=some .local):=by
 subst hsc
 have key:∀(p:Expr→Bool),(∀e,okE e=true→p e=false)→¬([a,b].any p)=true:=by intro p hp;simp [hp a oa,hp b ob]
 have kx:env.kindOf x=env.scope.names.lookup x:=rfl
 have ky:env.kindOf y=env.scope.names.lookup y:=rfl
 unfold okSw at h
 simp only at h
 constructor
 ·unfold swappedStores
  simp only [hb]
  rw [if_neg (by simp),if_neg (key _ (by intro e he;cases e<;>first|rfl|cases he))]
  simp only [List.head?_cons,Option.map_some,Option.getD_some,pos_Name]
  by_cases cx:List.lookup x env.scope.names=some NameKind.local
  ·by_cases cy:List.lookup y env.scope.names=some NameKind.local
   ·by_cases cl:px.line=py.line
    ·rw [if_pos (by simp [cx,cy,cl])]at h
     have cl':py.line=px.line:=cl.symm
     have ed:([x,y]:List Str).eraseDups.length=2:=by
      rw [List.eraseDups_cons]
      simp [hxy,Ne.symm hxy,List.eraseDups_cons]
     simp only [List.filterMap_cons,List.filterMap_nil,kx,ky,cx,cy,cl',beq_self_eq_true,Bool.and_self,if_true]
     rw [if_neg (by rw [ed];simp)]
     split at h
     ·rename_i hf
      cases h
      rw [if_pos hf]
      rfl
     ·rename_i hf
      rw [if_neg hf]
      split at h
      ·cases h
      ·rename_i hk
       cases h
       rw [if_neg hk]
       rfl
    ·rw [if_neg (by simp [cl])]at h
     cases h
     have cl':(py.line==px.line)=false:=by simpa using fun z=>cl z.symm
     simp only [List.filterMap_cons,List.filterMap_nil,kx,ky,cx,cy,cl',beq_self_eq_true,Bool.and_self,Bool.and_false,if_true,Bool.false_eq_true,if_false]
     rfl
   ·rw [if_neg (by simp [cy])]at h
    cases h
    have cy':(List.lookup y env.scope.names==some NameKind.local)=false:=by simpa using cy
    simp only [List.filterMap_cons,List.filterMap_nil,kx,ky,cx,cy',beq_self_eq_true,Bool.and_self,Bool.false_and,if_true,Bool.false_eq_true,if_false]
    rfl
  ·rw [if_neg (by simp [cx])]at h
   cases h
   have cx':(List.lookup x env.scope.names==some NameKind.local)=false:=by simpa using cx
   simp only [List.filterMap_cons,List.filterMap_nil,kx,ky,cx',Bool.false_and,Bool.false_eq_true,if_false]
   cases hc:(List.lookup y env.scope.names==some NameKind.local&&py.line==px.line)
   ·rfl
   ·rfl
 ·intro hr
  subst hr
  split at h
  ·rename_i hc
   obtain⟨hc,_⟩:=bae hc
   obtain⟨h1,h2⟩:=bae hc
   exact⟨odt h1,odt h2⟩
  ·cases h
theorem cAsg_ok(S:SSees X cl c Γ Δ N sc){n:Nat}{x:Str}{px pos:Pos}{e:Expr}{i:Nat}{m:E}(hi:nIdx N x=some i)(h:cE c.cc n true N sc e=some m):PS X (.Assign [.Name x px] e pos) (tS X.K cl Γ Δ pio (.asg i m)):=by
 have hN:=nIdx_get hi
 have nd:X.N.Nodup:=by rw [S.S.hN];exact S.nd
 have hN':X.N[i]?=some x:=by rw [S.S.hN];exact hN
 have px':=evX_ok (pio:=pio) S.hΓ S.S h
 have plain:swapsWith e (some (.Name x px)) pos.line X.env=pure false→PS X (.Assign [.Name x px] e pos) (tS X.K cl Γ Δ pio (.asg i m)):=fun hs=>
  psI (ps_set nd hN' (S.loc i x hN) px' hs (.inl (S.fn x))) fun D σ H q=>s_asg q
 cases hc:isComp e with
 |false=>exact plain (swaps_not hc _ _ _)
 |true=>
  cases n with
  |zero=>cases h
  |succ n=>
   cases e
   case ListComp elt gs scope pos'=>
    have h':cLc c.cc N sc (cE c.cc n true N sc) (fun N' e=>cE c.cc n false N' scope e) elt scope gs=some m:=h
    unfold cLc at h'
    split at h'
    ·rename_i y py iter ifs
     have h2:cE c.cc (n+1) true N sc (.ListComp elt [⟨.Name y py,iter,ifs,0⟩] scope pos')=some m:=h
     obtain⟨fr,is,mi,me,mc,tt,rfl,cs,hi',ht,he,htt,hfs⟩:=comp_inv S.hΓ S.S h2
     have hsc:X.env.scope=sc:=S.S.tp rfl
     have sw:=swaps_comp elt [⟨.Name y py,iter,ifs,0⟩] scope pos' x px pos.line X.env
     cases hb:(X.env.blockKind==.function&&X.env.kindOf x==some .local&&px.line==pos'.line&& !(scope.names.any fun(n,k)=>n==x&&(k==.local||k==.cell)))with
     |false=>rw [hb]at sw;exact plain sw
     |true=>
      rw [hb]at sw
      rw [Bool.and_eq_true,Bool.and_eq_true,Bool.and_eq_true]at hb
      have hy:X.env.kindOf x=some .local:=by simpa using hb.1.1.2
      refine psI (ps_setCompI S.S.calm hi' ht he cs nd hN' hy sw hsc S.S.hN hfs) fun D σ H q=> ?_
      exact comp_tF htt (tX_comp (s_asg q))
    ·cases h'
   all_goals first|(cases hc;done)|(cases h;done)
theorem cS1_ok(S:SSees X cl c Γ Δ N sc){n:Nat}{rc:List Stmt→Option MI.S}(ih:∀l s,rc l=some s→PSs X l (tS X.K cl Γ Δ pio s)){st:Stmt}{s:MI.S}(h:cS1 c n N sc rc st=some s):PS X st (tS X.K cl Γ Δ pio s):=by
 have pe:=fun e m (h:cE c.cc n true N sc e=some m)=>(cE_ok S.hΓ n true N sc e m X S.S h).1
 have pxx:=fun e m (h:cE c.cc n true N sc e=some m)=>evX_ok (pio:=pio) S.hΓ S.S h
 have nd:X.N.Nodup:=by rw [S.S.hN];exact S.nd
 have hsc:X.env.scope=sc:=S.S.tp rfl
 have no:(none:Option MI.S)=some s→PS X st (tS X.K cl Γ Δ pio s):=fun z=>by cases z
 cases st
 case Pass p=>
  cases h
  exact psI ps_pass fun D σ H q=>s_nop q
 case Expr e p=>
  exact cX_ok S h
 case Assign ts e pos=>
  replace h:cAs c n N sc ts e=some s:=h
  unfold cAs at h
  split at h
  ·split at h
   ·obtain⟨i,hi,h⟩:=bsi h
    obtain⟨m,h1,rfl⟩:=msi h
    exact cAsg_ok S hi h1
   ·cases h
  ·rename_i x px y py kt pt
   split at h
   rotate_left
   ·cases h
   rename_i a b k2 p2
   split at h
   ·rename_i ok
    obtain⟨ok,ob⟩:=bae ok
    obtain⟨ok,oa⟩:=bae ok
    obtain⟨i,hi,h⟩:=bsi h
    obtain⟨j,hj,h⟩:=bsi h
    obtain⟨m,h1,h⟩:=bsi h
    obtain⟨l,h2,h⟩:=bsi h
    obtain⟨r,h3,rfl⟩:=msi h
    have hNi:=nIdx_get hi
    have hNj:=nIdx_get hj
    by_cases hij:i=j
    ·--the same name twice:no such row runs
     intro pins s σ H D I q
     obtain⟨H₀,G₀,io,F,A,env,n',fl,env',hp,hl,R,e,po⟩:=q
     exfalso
     have e':(if okI pio env i&&okI pio env j&&decide (i≠j)then(evX Γ pio m env).bind fun r=>(evX Γ pio l r.2).map fun q=>(Fl.nx,(q.2.set i (some r.1)).set j (some q.1))else none)=some (fl,env'):=e
     rw [if_neg (by simp [hij])]at e'
     cases e'
    ·have hxy:x≠y:=fun z=>hij (by subst z;rw [hi]at hj;exact Option.some.inj hj)
     obtain⟨w1,w2⟩:=swapped_eq (kt:=kt) (pt:=pt) (k2:=k2) (p2:=p2) S.bk oa ob hxy hsc h3
     have pa:PA X [a,b] (tCons (tX X.K cl Γ pio m) (tCons (tX X.K cl Γ pio l) tNil)):=pa_cons (pxx a m h1) (pa_cons (pxx b l h2) pa_nil (star_of ob _ _)) (star_of oa _ _)
     cases r with
     |true=>
      obtain⟨lx,ly⟩:=w2 rfl
      exact psI (ps_par S.S.calm nd (by rw [S.S.hN];exact hNi) (by rw [S.S.hN];exact hNj) hij (by rw [hsc];exact lx) (by rw [hsc];exact ly) pa w1 rfl) fun D σ H q=>s_par q
     |false=>
      exact psI (ps_asg (pe_tup pa) (pg_tup S.S.calm (pgs_cons (S.pg hi) (pgs_cons (S.pg hj) pgs_nil)) rfl rfl) rfl w1 rfl) fun D σ H q=>s_tup2 q
   ·cases h
  ·rename_i x p1 k p2
   split at h
   ·rename_i ok
    obtain⟨ok,nc⟩:=bae ok
    obtain⟨ox,okk⟩:=bae ok
    obtain⟨i,hi,h⟩:=bsi h
    obtain⟨mk,h1,h⟩:=bsi h
    obtain⟨m,h2,rfl⟩:=msi h
    have nc':isComp e=false:=by simpa using nc
    exact psI (ps_asg (pe e m h2) (pg_sub (S.pv ox hi) (pe k mk h1) set_list (by intro v;cases k<;>first|rfl|cases okk)) (show swapsWith e (some ((Expr.Name x p1).Subscript k p2)) pos.line X.env=pure false from swaps_not nc' _ _ _) rfl rfl) fun D σ H q=>s_set q
   ·cases h
  ·cases h
 case If t a b p=>
  replace h:cIs c n N sc rc t a b=some s:=h
  unfold cIs at h
  obtain⟨ma,h1,h⟩:=bsi h
  obtain⟨mb,h2,h⟩:=bsi h
  split at h
  ·rename_i ng f i m ht
   cases h
   exact psI (ps_if (cTio_ok (pio:=pio) S ht) (ih a ma h1) (ih b mb h2)) fun D σ H q=>s_ifio q
  ·split at h
   ·rename_i ot
    obtain⟨mt,h3,rfl⟩:=msi h
    exact psI (ps_if ((cE_ok S.hΓ n true N sc t mt X S.S h3).2 ot) (ih a ma h1) (ih b mb h2)) fun D σ H q=>s_ife q
   ·cases h
 case For t it body els p=>
  cases els
  rotate_left
  ·exact no h
  replace h:cFo c n N sc rc t it body=some s:=h
  unfold cFo at h
  split at h
  ·rename_i x p1
   split at h
   ·rename_i ok
    obtain⟨ox,oi⟩:=bae ok
    obtain⟨i,hi,h⟩:=bsi h
    obtain⟨mi,h1,h⟩:=bsi h
    obtain⟨mb,h2,rfl⟩:=msi h
    exact psI (ps_for S.pw S.S.calm (ci_ok S.S pe (fun z=>by cases z) h1) (S.pg hi) (ih body mb h2) (by intro v;cases it<;>first|rfl|cases oi)) fun D σ H q=>s_for1 q
   ·cases h
  ·rename_i x p1 y p2 k p3
   split at h
   ·rename_i ok
    obtain⟨ok,oi⟩:=bae ok
    obtain⟨i,hi,h⟩:=bsi h
    obtain⟨j,hj,h⟩:=bsi h
    obtain⟨mi,h1,h⟩:=bsi h
    obtain⟨mb,h2,rfl⟩:=msi h
    exact psI (ps_for S.pw S.S.calm (ci_ok S.S pe (fun _=>⟨_,_,_,rfl⟩) h1) (pg_tup S.S.calm (pgs_cons (S.pg hi) (pgs_cons (S.pg hj) pgs_nil)) rfl rfl) (ih body mb h2) (by intro v;cases it<;>first|rfl|cases oi)) fun D σ H q=>s_for2 q
   ·cases h
  ·cases h
 case While t body els p=>
  cases els
  rotate_left
  ·exact no h
  replace h:cWh c n N sc rc t body=some s:=h
  unfold cWh at h
  split at h
  ·rename_i ot
   obtain⟨mt,h1,h⟩:=bsi h
   obtain⟨mb,h2,rfl⟩:=msi h
   exact psI (ps_while S.pw ((cE_ok S.hΓ n true N sc t mt X S.S h1).2 ot) (ih body mb h2)) fun D σ H q=>s_wh q
  ·cases h
 case Return o p=>
  cases o
  ·exact no h
  ·rename_i e
   replace h:(cE c.cc n true N sc e).map MI.S.ret=some s:=h
   obtain⟨m,h1,rfl⟩:=msi h
   by_cases hv:∃i,m=.var i
   ·obtain⟨i,rfl⟩:=hv
    exact psI (ps_ret (var_inv S.S h1)) fun D σ H q=>s_retV q
   ·exact psI (ps_ret (pxx e m h1)) fun D σ H q=>s_ret (fun i z=>hv ⟨i,z⟩) q
 case Raise e c p=>
  cases h
  exact psI ps_never fun D σ H q=>s_raise q
 all_goals exact no h
theorem cSt_ok(S:SSees X cl c Γ Δ N sc):∀(n:Nat) (l:List Stmt) (s:MI.S),cSt c n N sc l=some s→PSs X l (tS X.K cl Γ Δ pio s)
 |0,l,s,h=>by cases h
 |n+1,[],s,h=>by
  cases h
  exact pssI pss_nil fun D σ H q=>s_nop q
 |n+1,st::rest,s,h=>by
  replace h:((cS1 c n N sc (cSt c n N sc) st).bind fun a=>(cSt c n N sc rest).map fun b=>MI.S.seq a b)=some s:=h
  obtain⟨a,h1,h⟩:=bsi h
  obtain⟨b,h2,rfl⟩:=msi h
  exact pssI (pss_cons (cS1_ok S (fun l s h=>cSt_ok S n l s h) h1) (cSt_ok S n rest b h2)) fun D σ H q=>s_seq q
end
end MI
end
noncomputable section
namespace MI
open PySem L2 PyProof.Rows
def GoodFn(P:Program)(w:World)(K:W.Frag)(mg:Str→Option Value)(base:Heap)(cl:Nat→Option Addr)(k:Nat)(x:Str)(g:List D→Option T):Prop:=
 (∃fa fd ps,FnOk P w K mg base CX0 k fa fd ps (spP K cl g)∧mg x=some (.ref fa)∧W.keepIn K (.ref fa)=true∧Binds K fd ps [])∨
   ∃j C f fd ps,j+1≤k∧Mk K C f∧FnOk P w K mg base CX0 j f fd ps (spM K cl C g)∧mg x=some (.ref C)∧Binds K fd ps []
def GoodMt(P:Program)(w:World)(K:W.Frag)(mg:Str→Option Value)(base:Heap)(cl:Nat→Option Addr)(k:Nat)(C:Addr)(m:Str)(g:List D→Option T):Prop:=
 ∃f fd ps,Meth K C m f∧FnOk P w K mg base CX0 k f fd ps (spP K cl g)∧Binds K fd ps []
def GoodMt1(P:Program)(w:World)(K:W.Frag)(mg:Str→Option Value)(base:Heap)(cl:Nat→Option Addr)(k:Nat)(C:Addr)(m:Str)(g:List D→Option (T×List D)):Prop:=
 ∃f fd ps,Meth K C m f∧FnOk P w K mg base CX0 k f fd ps (spMIO K cl C g)∧Binds K fd ps []
theorem GoodMt1.mono{P:Program}{w:World}{K:W.Frag}{mg:Str→Option Value}{base:Heap}{cl:Nat→Option Addr}{j k:Nat}{C:Addr}{m:Str}{g:List D→Option (T×List D)}(h:GoodMt1 P w K mg base cl j C m g)(hk:j≤k):GoodMt1 P w K mg base cl k C m g:=by
 obtain⟨f,fd,ps,M,F,B⟩:=h
 exact⟨f,fd,ps,M,F.mono hk,B⟩
theorem GoodFn.mono{P:Program}{w:World}{K:W.Frag}{mg:Str→Option Value}{base:Heap}{cl:Nat→Option Addr}{j k:Nat}{x:Str}{g:List D→Option T}(h:GoodFn P w K mg base cl j x g)(hk:j≤k):GoodFn P w K mg base cl k x g:=by
 rcases h with⟨fa,fd,ps,F1,F2,F3,F4⟩|⟨i,C,f,fd,ps,h0,h⟩
 ·exact .inl ⟨fa,fd,ps,F1.mono hk,F2,F3,F4⟩
 ·exact .inr ⟨i,C,f,fd,ps,Nat.le_trans h0 hk,h⟩
theorem GoodMt.mono{P:Program}{w:World}{K:W.Frag}{mg:Str→Option Value}{base:Heap}{cl:Nat→Option Addr}{j k:Nat}{C:Addr}{m:Str}{g:List D→Option T}(h:GoodMt P w K mg base cl j C m g)(hk:j≤k):GoodMt P w K mg base cl k C m g:=by
 obtain⟨f,fd,ps,M,F,B⟩:=h
 exact⟨f,fd,ps,M,F.mono hk,B⟩
structure Lw(P:Program)(w:World)(K:W.Frag)(mg:Str→Option Value)(base:Heap)(cl:Nat→Option Addr)(c:CS)(Γ:Tab)(Δ:IOT)(k:Nat):Prop where
 fn:∀x f,c.cc.tab.lookup x=some f→∃g,Γ f=some g∧GoodFn P w K mg base cl k x g
 io:∀x f i,c.iot.lookup x=some (f,i)→∃g,Δ f=some (i,g)∧∃fa fd ps,FnOk P w K mg base CX0 k fa fd ps (spIO K cl i g)∧mg x=some (.ref fa)∧W.keepIn K (.ref fa)=true∧Binds K fd ps []
 blt:∀x∈BLT,mg x=none
 gi:∀x i,c.cc.gi.lookup x=some i→∃t,mg x=some (.int i t)
 cls:ClsOk K cl
 mth:∀d C i m g,MTH[i]?=some m→cl d=some C→Γ (mid d i)=some g→GoodMt P w K mg base cl k C m g
 cn:∀x j,c.cc.cn.lookup x=some j→∃J,cl j=some J∧mg x=some (.ref J)
 mio:∀d C i m g,MTH[i]?=some m→cl d=some C→Δ (mid d i)=some (0,g)→GoodMt1 P w K mg base cl k C m g
 fv:∀x z,GS.lookup x=some z→∃t,mg x=some (.str z t)
noncomputable def startT(N:List Str)(ds:List D):TEnv:=ds.map (fun d=>some (.sh d))++List.replicate (N.length-ds.length) none
noncomputable def ioAt(k:Nat)(l:List D):TEnv:=(l.mapIdx fun j d=>if j=k then(listD d).map fun ds=>T.ow (ds.map T.sh)else some (T.sh d))
noncomputable def startIO(N:List Str)(k:Nat)(l:List D):TEnv:=ioAt k l++List.replicate (N.length-l.length) none
section
variable{P:Program}{w:World}{K:W.Frag}{mg:Str→Option Value}{base:Heap}{cl:Nat→Option Addr}{c:CS}{Γ:Tab}{Δ:IOT}{k:Nat}
theorem Lw.sees(L:Lw P w K mg base cl c Γ Δ k){N ps:List Str}{qual:Str}{scope:Scope}{f:Addr}{cdv:Value}{A:Around}{outer:List PySem.Env}{s:Shared}{H:Hp}{E:XK}(FS:FnScope N ps scope)(loc:∀x∈N,scope.names.lookup x=some .local∨scope.names.lookup x=some .cell)(hr:Room k (A.deeper (envOfC qual scope s.heap.objs.size f cdv))):
 SSees (cxOf CX0 P w K mg base N qual scope f cdv A outer s H E).nox cl c Γ Δ N scope:=by
 refine⟨⟨rfl,fun i x hx=> ?_,fun x hx=>hx,fun _=>rfl,rfl,hr.units,L.blt,fun x f g h1 h2=> ?_,L.gi,L.cls,fun d C i m g h0 h1 h2=> ?_,L.cn,L.fv⟩,fun x f h=> ?_,FS.nd,fun i x hx=>loc x (List.mem_of_getElem? hx),fun _=>rfl,FS.kind,PassesOwn.never,fun x f i h=> ?_,fun d C i m g h0 h1 h2=> ?_⟩
 ·rcases loc x (List.mem_of_getElem? hx)with z|z
  ·exact .inl z
  ·exact .inr (.inl z)
 ·obtain⟨g',hg,G⟩:=L.fn x f h1
  rw [h2]at hg
  cases hg
  rcases G with⟨fa,fd,ps,F1,F2,F3,F4⟩|⟨j,C,f,fd,ps,h0,M,F1,F2,F3⟩
  ·exact⟨.inl ⟨k,fa,fd,ps,F1,hr,F2,F3,F4⟩⟩
  ·exact⟨.inr ⟨j,C,f,fd,ps,M,F1,hr.mono h0,F2,F3⟩⟩
 ·obtain⟨f,fd,ps,M,F,B⟩:=L.mth d C i m g h0 h1 h2
  exact⟨k,f,fd,ps,M,F,hr,B⟩
 ·obtain⟨g',hg,_⟩:=L.fn x f h
  exact⟨g',hg⟩
 ·obtain⟨g,hg,fa,fd,ps,F1,F2,F3,F4⟩:=L.io x f i h
  exact⟨g,hg,k,fa,fd,ps,F1,hr,F2,F3,F4⟩
 ·obtain⟨f,fd,ps,M,F,B⟩:=L.mio d C i m g h0 h1 h2
  exact⟨k,f,fd,ps,M,F,hr,B⟩
theorem start_get{N:List Str}{vs:List V}{i:Nat}{v:V}(h:vs[i]?=some v):(L2.start N vs)[i]?=some (some v):=by
 have hi:=(List.getElem?_eq_some_iff.mp h).1
 unfold L2.start
 rw [List.getElem?_append_left (by simpa using hi),List.getElem?_map,h]
 rfl
theorem startT_get{N:List Str}{ds:List D}{i:Nat}{t:T}(h:(startT N ds)[i]?=some (some t)):∃d,ds[i]?=some d∧t=.sh d:=by
 unfold startT at h
 by_cases hi:i<ds.length
 ·rw [List.getElem?_append_left (by simpa using hi),List.getElem?_map]at h
  cases e:ds[i]? with
  |none=>rw [e]at h;cases h
  |some d=>rw [e]at h;cases h;exact⟨d,rfl,rfl⟩
 ·rw [List.getElem?_append_right (by simpa using hi),List.getElem?_replicate]at h
  split at h<;>cases h
theorem def_pure(L:Lw P w K mg base cl c Γ Δ k){x qual:Str}{st:Stmt}{f:Addr}{fd:FuncData}{N ps:List Str}{n:Nat}{body:S}{g:List D→Option T}(F:Fun K x qual st f fd)(FS:FnScope N ps (defScope st))(loc:∀x∈N,(defScope st).names.lookup x=some .local∨(defScope st).names.lookup x=some .cell)
 (hc:cSt c n N (defScope st) (defBody st)=some body)(ar:∀ds t,g ds=some t→ds.length=ps.length)
 (run:∀ds t,g ds=some t→∃m fl env',ex Γ Δ none m body (startT N ds)=some (fl,env')∧(fl=.rt t∨(fl=.nx∧t=.sh .non))):FnOk P w K mg base CX0 (k+1) f fd ps (spP K cl g):=by
 have hpl:ps.length≤N.length:=by have:=congrArg List.length FS.pre;rw [List.length_take]at this;lia
 refine F.ok FS (fun vs H Q E h=> ?_) (fun cdv A outer s H vs Q E hr h=> ?_)
 ·obtain⟨G,ds,t,sg,dn,hg,_⟩:=h
  rw [dn.length];exact ar ds t hg
 ·obtain⟨G,ds,t,sg,dn,hg,q⟩:=h
  have SS:=L.sees (N:=N) (ps:=ps) (qual:=qual) (f:=f) (cdv:=cdv) (A:=A) (outer:=outer) (s:=s) (H:=H) (E:=E) FS loc hr
  refine⟨_,cSt_ok (pio:=none) SS n (defBody st) body hc,?_⟩
  obtain⟨m,fl,env',e,hfl⟩:=run ds t hg
  have hl:=ar ds t hg
  refine⟨H,G,none,G,fun _=>[],startT N ds,m,fl,env',(fun p a z=>by cases z),?_,?_,e,fun σ' H' F' A' l1 l2 st' sf R'=> ?_⟩
  ·unfold startT L2.start
   simp only [List.length_append,List.length_map,List.length_replicate,dn.length]
  ·refine⟨fun i t' e=> ?_,fun _ _=>rfl,fun _=>List.nodup_nil,(fun _ _ _ _ z=>by simp at z),sg,.refl _,(fun b o h1 h2=>by rw [h1]at h2;cases h2),fun b o h _=>h,(fun _ _ z=>by simp at z),(fun p a z=>by cases z)⟩
   obtain⟨d,h1,rfl⟩:=startT_get e
   obtain⟨v,h2,h3⟩:=dn.get h1
   exact⟨v,start_get h2,.sh h3⟩
  ·have x:Ext H G H' F':=⟨fun b o h=>R'.keep b o h (fun p z=>by cases z),R'.gf,R'.fh,R'.fnew⟩
   rcases hfl with rfl|⟨rfl,rfl⟩
   ·exact fun v B ot nd _ nw=>q v H' F' B x ot nd nw
   ·exact q .non H' F' [] x (.sh .non) List.nodup_nil (by simp)
theorem ioAt_get{j:Nat}{l:List D}{i:Nat}{t:T}(h:(ioAt j l)[i]?=some (some t)):(i=j∧∃ds,l[i]?=some (.lst ds)∧t=.ow (ds.map T.sh))∨(i≠j∧∃d,l[i]?=some d∧t=.sh d):=by
 unfold ioAt at h
 rw [List.getElem?_mapIdx]at h
 cases e:l[i]? with
 |none=>rw [e]at h;cases h
 |some d=>
  rw [e]at h
  have h':(if i=j then(listD d).map fun ds=>T.ow (ds.map T.sh)else some (T.sh d))=some t:=Option.some.inj h
  split at h'
  ·rename_i hi
   obtain⟨ds,h1,rfl⟩:=msi h'
   cases d with
   |lst l'=>cases h1;exact .inl ⟨hi,ds,rfl,rfl⟩
   |_=>cases h1
  ·rename_i hi
   cases h'
   exact .inr ⟨hi,d,rfl,rfl⟩
theorem startIO_get{N:List Str}{j:Nat}{l:List D}{i:Nat}{t:T}(h:(startIO N j l)[i]?=some (some t)):(i=j∧∃ds,l[i]?=some (.lst ds)∧t=.ow (ds.map T.sh))∨(i≠j∧∃d,l[i]?=some d∧t=.sh d):=by
 unfold startIO at h
 have hl:(ioAt j l).length=l.length:=by unfold ioAt;simp
 by_cases hi:i<l.length
 ·rw [List.getElem?_append_left (by lia)]at h
  exact ioAt_get h
 ·rw [List.getElem?_append_right (by lia),List.getElem?_replicate]at h
  split at h<;>cases h
theorem def_io(L:Lw P w K mg base cl c Γ Δ k){x qual:Str}{st:Stmt}{f:Addr}{fd:FuncData}{N ps:List Str}{n j:Nat}{body:S}{g:List D→Option (T×List D)}(F:Fun K x qual st f fd)(FS:FnScope N ps (defScope st))(loc:∀x∈N,(defScope st).names.lookup x=some .local∨(defScope st).names.lookup x=some .cell)
 (hc:cSt c n N (defScope st) (defBody st)=some body)(ar:∀l t ds',g l=some (t,ds')→l.length=ps.length)
 (run:∀l t ds',g l=some (t,ds')→∃m fl env',ex Γ Δ (some j) m body (startIO N j l)=some (fl,env')∧(fl=.rt t∨(fl=.nx∧t=.sh .non))∧env'[j]?=some (some (.ow (ds'.map T.sh)))):FnOk P w K mg base CX0 (k+1) f fd ps (spIO K cl j g):=by
 have hpl:ps.length≤N.length:=by have:=congrArg List.length FS.pre;rw [List.length_take]at this;lia
 refine F.ok FS (fun vs H Q E h=> ?_) (fun cdv A outer s H vs Q E hr h=> ?_)
 ·obtain⟨G,l,a,xs,ds,t,ds',h1,h2,h3,h4,h5,h6,h7,h8,h9,_⟩:=h
  rw [h2];exact ar l t ds' h9
 ·obtain⟨G,l,a,xs,ds,t,ds',sg,hl,hv,hd,hx,ga,dx,dn,hg,hfl,hs,hs',q⟩:=h
  have SS:=L.sees (N:=N) (ps:=ps) (qual:=qual) (f:=f) (cdv:=cdv) (A:=A) (outer:=outer) (s:=s) (H:=H) (E:=E) FS loc hr
  refine⟨_,cSt_ok (pio:=some j) SS n (defBody st) body hc,?_⟩
  obtain⟨m,fl,env',e,hfl',hj⟩:=run l t ds' hg
  have hlen:=ar l t ds' hg
  have hll:(ioAt j l).length=l.length:=by unfold ioAt;simp
  refine⟨H,G,some (j,a),G,fun i=>if i=j then [a]else [],startIO N j l,m,fl,env',(fun p b z=>by cases z;rfl),?_,?_,e,fun σ' H' F' A' l1 l2 st' sf R'=> ?_⟩
  ·unfold startIO L2.start
   simp only [List.length_append,List.length_map,List.length_replicate,hll,hl]
  ·refine⟨fun i t' e=> ?_,fun i hi=> ?_,fun i=> ?_,fun i i' b hii h1 h2=> ?_,sg,.refl _,(fun b o h1 h2=>by rw [h1]at h2;cases h2),fun b o h _=>h,fun i b hb=> ?_,fun p b z=> ?_⟩
   ·rcases startIO_get e with⟨rfl,ds2,h1,rfl⟩|⟨hi,d,h1,rfl⟩
    ·rw [hd]at h1
     cases h1
     refine⟨.ref a,start_get hv,?_⟩
     rw [if_pos rfl]
     exact .ow hx ga (OTs.shs dx)
    ·have hv':i<vs.length:=by rw [hl];exact(List.getElem?_eq_some_iff.mp h1).1
     refine⟨vs[i],start_get (List.getElem?_eq_getElem hv'),?_⟩
     rw [if_neg hi]
     exact .sh (dn i _ d hi (List.getElem?_eq_getElem hv') h1)
   ·show(if i=j then [a]else [])=[]
    split
    ·rename_i hi'
     exfalso
     subst hi'
     have hjl:i<l.length:=(List.getElem?_eq_some_iff.mp hd).1
     refine hi (.ow (ds.map T.sh)) ?_
     unfold startIO
     rw [List.getElem?_append_left (by lia)]
     unfold ioAt
     rw [List.getElem?_mapIdx,hd]
     simp [listD]
    ·rfl
   ·show(if i=j then [a]else []).Nodup
    split<;>simp
   ·have h1':b∈(if i=j then [a]else []):=h1
    have h2':b∈(if i'=j then [a]else []):=h2
    split at h1'
    ·split at h2'
     ·rename_i e1 e2;exact hii (e1.trans e2.symm)
     ·simp at h2'
    ·simp at h1'
   ·have hb':b∈(if i=j then [a]else []):=hb
    split at hb'
    ·have:b=a:=by simpa using hb'
     exact .inl ⟨j,by rw [this]⟩
    ·simp at hb'
   ·cases z
    exact⟨[],by rw [if_pos rfl]⟩
  ·obtain⟨v',h1,ot'⟩:=R'.slot j _ hj
   obtain⟨B0,hB0⟩:=R'.iok j a rfl
   rw [hB0]at ot'
   cases ot' with
   |ow a1 a2 a3=>
    obtain⟨dx',_⟩:=a3.unsh
    have kp:∀b o,b≠a→H b=some o→H' b=some o:=fun b o hb h=>R'.keep b o h (fun p z=>by cases z;exact hb rfl)
    rcases hfl' with rfl|⟨rfl,rfl⟩
    ·exact fun v B ot nd _ nw=>q v H' F' _ B kp R'.gf R'.fh R'.fnew a1 dx' ot nd nw
    ·exact q .non H' F' _ [] kp R'.gf R'.fh R'.fnew a1 dx' (.sh .non) List.nodup_nil (by simp)
theorem Lw.addG(L:Lw P w K mg base cl c Γ Δ k){x:Str}{f k':Nat}{g:List D→Option T}(hk:k≤k')(hg:Γ f=some g)(F:GoodFn P w K mg base cl k' x g):
 Lw P w K mg base cl ⟨⟨(x,f)::c.cc.tab,c.cc.gi,c.cc.cn⟩,c.iot⟩ Γ Δ k':=by
 refine⟨fun y f' h=> ?_,fun y f' i h=> ?_,L.blt,L.gi,L.cls,fun d C i m g h0 h1 h2=>(L.mth d C i m g h0 h1 h2).mono hk,L.cn,fun d C i m g h0 h1 h2=>(L.mio d C i m g h0 h1 h2).mono hk,L.fv⟩
 ·have h':((x,f)::c.cc.tab).lookup y=some f':=h
  rw [List.lookup_cons]at h'
  split at h'
  ·rename_i e
   have e:y=x:=by simpa using e
   subst e
   cases h'
   exact⟨g,hg,F⟩
  ·obtain⟨g',h1,F1⟩:=L.fn y f' h'
   exact⟨g',h1,F1.mono hk⟩
 ·obtain⟨g',h1,fa',fd',ps',F1,F2,F3,F4⟩:=L.io y f' i h
  exact⟨g',h1,fa',fd',ps',F1.mono hk,F2,F3,F4⟩
theorem Lw.addIO(L:Lw P w K mg base cl c Γ Δ k){x:Str}{f j:Nat}{g:List D→Option (T×List D)}{fa:Addr}{fd:FuncData}{ps:List Str}(hg:Δ f=some (j,g))(F:FnOk P w K mg base CX0 (k+1) fa fd ps (spIO K cl j g))(hm:mg x=some (.ref fa))(hk:W.keepIn K (.ref fa)=true)(hb:Binds K fd ps []):
 Lw P w K mg base cl ⟨c.cc,(x,f,j)::c.iot⟩ Γ Δ (k+1):=by
 refine⟨fun y f' h=> ?_,fun y f' i h=> ?_,L.blt,L.gi,L.cls,fun d C i m g h0 h1 h2=>(L.mth d C i m g h0 h1 h2).mono (Nat.le_succ _),L.cn,fun d C i m g h0 h1 h2=>(L.mio d C i m g h0 h1 h2).mono (Nat.le_succ _),L.fv⟩
 ·obtain⟨g',h1,F1⟩:=L.fn y f' h
  exact⟨g',h1,F1.mono (Nat.le_succ _)⟩
 ·have h':((x,f,j)::c.iot).lookup y=some (f',i):=h
  rw [List.lookup_cons]at h'
  split at h'
  ·rename_i e
   have e:y=x:=by simpa using e
   subst e
   cases h'
   exact⟨g,hg,fa,fd,ps,F,hm,hk,hb⟩
  ·obtain⟨g',h1,fa',fd',ps',F1,F2,F3,F4⟩:=L.io y f' i h'
   exact⟨g',h1,fa',fd',ps',F1.mono (Nat.le_succ _),F2,F3,F4⟩
end
end MI
end
noncomputable section
namespace MI
open PySem PySem.Spec PySem.W PyProof.Rows L2
theorem law_callR{P:Program}{w:World}{K:W.Frag}{mg mb:Str→Option Value}{CX:CXT}{k:Nat}{fa a:Addr}{fd:FuncData}{x:Str}{sp:Sp}{s₁:Shared}{vs:List Value}{ns:List Int}
 (KX:K.In s₁.heap)(hns:s₁.heap.Ns mainGlobals mg)(hb:s₁.heap.Ns builtinsNs mb)(hbb:∀x:Str,x≠"__name__"→mb x=bootBuiltins x)(hlim:s₁.heap.NoLimit)(hg:s₁.gens= #[])
 (ha:s₁.heap.get? a=some {cls:=.type "list",data:=.seq vs.toArray})(hi:IntsAre vs ns)(hl:ns.length≤sizeLine)(hr:Room k callerA)
 (F:∀base:Heap,K.In base→base.Ns mainGlobals mg→FnOk P w K mg base CX k fa fd [x] sp)(hbind:∀(s:Shared) (u:Value),BindsTo s fd ⟨[u],[]⟩ [(x,u)])
 (hsp:∀H:Hp,RL K H a (ns.map V.int)→sp [.ref a] H (fun v _=>v=.bl true) fun _ _ _=>False)
 (hCX:∀H e s',CX [] H s₁ (fun _ _ _=>False) e s'→False):
 codeAny (model P w) callerA (.call (.ref fa) ⟨[.ref a],[]⟩) (fun r s'=>r=.ok (.ret (.bool true))∧OldK s₁.heap s'.heap∧s'.os=s₁.os∧AllBare s'.gens) s₁:=by
 have rv:=vals_ints hi
 have lenV:=hi.length
 have core:∀H:Hp,Only H→RL K H a (ns.map V.int)→HOk P w H s₁.heap→(∀b,H b≠none→b=a)→(H a≠none→K.lookup a=none)→
  codeAny (model P w) callerA (.call (.ref fa) ⟨[.ref a],[]⟩) (fun r s'=>r=.ok (.ret (.bool true))∧OldK s₁.heap s'.heap∧s'.os=s₁.os∧AllBare s'.gens) s₁:=by
  intro H hO hS hok hA hK
  have base_of:∀ {b:Addr} {o:Obj},s₁.heap.get? b=some o→H b=none→(hidT s₁.heap H).get? b=some o:=fun e n=>hidT_get e n
  have noA:∀ {b:Addr} {o:Obj} {es:Array DictEntry} {ep:Nat},s₁.heap.get? b=some o→o.data=.dict es ep→H b=none:=fun {b o es ep} e d=>by
   cases q:H b with
   |none=>rfl
   |some u=>
    have e':b=a:=hA b (by rw [q];simp)
    subst e'
    rw [ha]at e;cases e
    have d':Data.seq vs.toArray _=Data.dict es ep:=d
    cases d'
  have nsK:∀ {b:Addr} {m:Str→Option Value},s₁.heap.Ns b m→(hidT s₁.heap H).Ns b m:=fun {b m} ⟨o,es,ep,e,d,r⟩=>⟨o,es,ep,base_of e (noA e d),d,r⟩
  have hKb:K.In (hidT s₁.heap H):=fun b o e=>base_of (KX b o e) (by
   cases q:H b with
   |none=>rfl
   |some u=>
    have e':b=a:=hA b (by rw [q];simp)
    subst e'
    rw [hK (by rw [q];simp)]at e;cases e)
  have hM:Mod K mg (hidT s₁.heap H):=⟨hKb,nsK hns,⟨mb,nsK hb,hbb⟩,let ⟨mc,h1,h2⟩:=hlim;⟨mc,nsK h1,h2⟩⟩
  have e0:Env0 P w K mg (hidT s₁.heap H) callerA [] s₁ H:=⟨rfl,hM,fun b o e=>of_hidT e,Nat.le_of_eq (hidT_size _ _),trivial,fun b hb=>absurd (show b∈([]:List Addr)from hb) (by simp),hok,.of_eq hg⟩
  refine codeAny_mono ((F _ hKb (nsK hns)).run callerA [] s₁ H ⟨[.ref a],[]⟩ [.ref a] [.ref a] _ _ hr e0 (hbind s₁ (.ref a)) (.cons rfl .nil) (hsp H hS)) fun r s' h=> ?_
  cases r with
  |error e=>exact(hCX H e s' h).elim
  |ok fl=>
   cases fl with
   |next=>exact False.elim h
   |brk=>exact False.elim h
   |cont=>exact False.elim h
   |ret u=>
    obtain⟨v,H',os,bare,un,hok',r',q⟩:=h
    have q':v=.bl true:=q
    subst q'
    obtain rfl:u=Value.bool true:=r'
    refine⟨rfl,OldK.of_keep fun b o e=> ?_,os,bare⟩
    cases q:H b with
    |none=>exact un.keep b o e q (by intro z;exact absurd (show b∈([]:List Addr)from z) (by simp)) (by simp)
    |some u=>
     rcases hO b with z|⟨ob,xs,z⟩
     ·rw [q]at z;cases z
     ·have z2:=un.frzs b ob _ z
      obtain⟨e1,_⟩:=hok b _ z
      obtain⟨e2,_⟩:=hok' b _ z2
      rw [e]at e1;cases e1
      exact e2
 cases hk:K.lookup a with
 |some o=>
  have e:=KX a o hk
  rw [ha]at e
  cases e
  refine core (fun _=>none) (fun _=> .inl rfl) (.inr ⟨vs.toArray,_,hk,by rw [List.size_toArray,lenV];exact hl,by simpa using rv⟩) (fun b u z=>by have z':(none:Option HO)=some u:=z;cases z') (fun b z=>absurd rfl z) fun z=>absurd rfl z
 |none=>
  refine core (fun b=>if b=a then some (.frz {cls:=.type "list",data:=.seq vs.toArray} (.lst (ns.map V.int)))else none) (fun b=> ?_) (.inl (.inr ⟨{cls:=.type "list",data:=.seq vs.toArray},if_pos rfl⟩)) (fun b u z=> ?_) (fun b z=> ?_) fun _=>hk
  ·by_cases hb:b=a
   ·exact .inr ⟨_,_,if_pos hb⟩
   ·exact .inl (if_neg hb)
  ·by_cases hb:b=a
   ·have z':=(if_pos hb).symm.trans z
    cases z'
    subst hb
    exact⟨ha,by rw [List.length_map];exact hl,vs,_,rv,ha⟩
   ·have z':=(if_neg hb).symm.trans z
    cases z'
  ·by_cases hb:b=a
   ·exact hb
   ·exact absurd (if_neg hb) z
end MI
end
noncomputable section
namespace MI
open PySem L2
section
variable(Γ:Tab)(env:Env)
@[simp] theorem ev_var(i:Nat):ev Γ (.var i) env=(env[i]?).join:=rfl
@[simp] theorem ev_int(i:Int):ev Γ (.int i) env=some (.int i):=rfl
@[simp] theorem ev_bl(i:Bool):ev Γ (.bl i) env=some (.bl i):=rfl
@[simp] theorem ev_non:ev Γ .non env=some .non:=rfl
@[simp] theorem ev_str(x:Str):ev Γ (.str x) env=some (.str x):=rfl
@[simp] theorem ev_bin(op:Operator)(a b:E):ev Γ (.bin op a b) env=(ev Γ a env).bind fun x=>(ev Γ b env).bind fun y=>binD op x y:=rfl
@[simp] theorem ev_un(f:U)(a:E):ev Γ (.un f a) env=(ev Γ a env).bind (unD f):=rfl
@[simp] theorem ev_not(a:E):ev Γ (.not a) env=(ev Γ a env).bind notD:=rfl
@[simp] theorem ev_cmp(op:CmpOp)(a b:E):ev Γ (.cmp op a b) env=(ev Γ a env).bind fun x=>(ev Γ b env).bind fun y=>cmpD op x y:=rfl
@[simp] theorem ev_ch(o1 o2:CmpOp)(a b c:E):ev Γ (.ch o1 o2 a b c) env=(ev Γ a env).bind fun x=>(ev Γ b env).bind fun y=>(cmpD o1 x y).bind fun z=>ifB z ((ev Γ c env).bind fun w=>cmpD o2 y w) (some (.bl false)):=rfl
@[simp] theorem ev_and(a b:E):ev Γ (.and a b) env=(ev Γ a env).bind fun x=>ifB x (ev Γ b env) (some (.bl false)):=rfl
@[simp] theorem ev_or(a b:E):ev Γ (.or a b) env=(ev Γ a env).bind fun x=>ifB x (some (.bl true)) (ev Γ b env):=rfl
@[simp] theorem ev_ite(c a b:E):ev Γ (.ite c a b) env=((ev Γ c env).bind truthD).bind fun x=>if x then ev Γ a env else ev Γ b env:=rfl
@[simp] theorem ev_idx(a b:E):ev Γ (.idx a b) env=(ev Γ a env).bind fun x=>(ev Γ b env).bind fun y=>idxD x y:=rfl
@[simp] theorem ev_cut(a lo hi:E):ev Γ (.cut a lo hi) env=(ev Γ a env).bind fun x=>(optS lo (ev Γ lo env)).bind fun l=>(optS hi (ev Γ hi env)).bind fun h=>cutD x l h:=rfl
@[simp] theorem ev_rev(a:E):ev Γ (.rev a) env=(ev Γ a env).bind revD:=rfl
@[simp] theorem ev_lst(a:E):ev Γ (.lst a) env=(ev Γ a env).bind szL:=rfl
@[simp] theorem ev_tup(a:E):ev Γ (.tup a) env=(ev Γ a env).bind szT:=rfl
@[simp] theorem ev_mn(a b:E):ev Γ (.mn a b) env=(ev Γ a env).bind fun x=>(ev Γ b env).bind fun y=>min2 x y:=rfl
@[simp] theorem ev_mx(a b:E):ev Γ (.mx a b) env=(ev Γ a env).bind fun x=>(ev Γ b env).bind fun y=>max2 x y:=rfl
@[simp] theorem ev_isi(a:E)(k:Nat):ev Γ (.isi a k) env=(ev Γ a env).bind fun x=>(isiB x k).map .bl:=rfl
theorem ev_comp(elt:E)(is:List Nat)(it c:E):ev Γ (.comp elt is it c) env=((ev Γ it env).bind walkD).bind fun ds=>if sz ds.length then(compR (fun d=>(cS c (ev Γ c (inner env is d))).bind fun b=>if b then(ev Γ elt (inner env is d)).map some else some none) ds).map .lst else none:=rfl
@[simp] theorem ev_call(f:Nat)(args:E):ev Γ (.call f args) env=(Γ f).bind fun g=>((ev Γ args env).bind listD).bind fun l=>(g l).map strip:=rfl
@[simp] theorem ev_rng(a:E):ev Γ (.rng a) env=(ev Γ a env).bind fun x=>rng2D (.int 0) x:=rfl
@[simp] theorem ev_rng2(a b:E):ev Γ (.rng2 a b) env=(ev Γ a env).bind fun x=>(ev Γ b env).bind fun y=>rng2D x y:=rfl
@[simp] theorem ev_enm(a:E):ev Γ (.enm a) env=(ev Γ a env).bind enmD:=rfl
@[simp] theorem ev_zp(a b:E):ev Γ (.zp a b) env=(ev Γ a env).bind fun x=>(ev Γ b env).bind fun y=>zpD x y:=rfl
@[simp] theorem ev_nil:ev Γ .nil env=some (.lst []):=rfl
@[simp] theorem ev_cons(a r:E):ev Γ (.cons a r) env=(ev Γ a env).bind fun x=>(ev Γ r env).bind fun y=>consD x y:=rfl
end
@[simp] theorem consD_lst(x:D)(l:List D):consD x (.lst l)=some (.lst (x::l)):=rfl
@[simp] theorem listD_lst(l:List D):listD (.lst l)=some l:=rfl
@[simp] theorem walkD_lst(l:List D):walkD (.lst l)=some l:=rfl
@[simp] theorem walkD_tup(l:List D):walkD (.tup l)=some l:=rfl
@[simp] theorem notD_bl(b:Bool):notD (.bl b)=some (.bl (!b)):=rfl
@[simp] theorem truthD_bl(b:Bool):truthD (.bl b)=some b:=rfl
@[simp] theorem truthD_int(b:Int):truthD (.int b)=some (b !=0):=rfl
@[simp] theorem ifB_t(a b:Option D):ifB (.bl true) a b=a:=rfl
@[simp] theorem ifB_f(a b:Option D):ifB (.bl false) a b=b:=rfl
theorem ifB_bl(c:Bool)(a b:Option D):ifB (.bl c) a b=if c then a else b:=by cases c<;>rfl
@[simp] theorem optS_nil(o:Option D):optS .nil o=some none:=rfl
@[simp] theorem optS_var(i:Nat)(o:Option D):optS (.var i) o=match o with|some (.int i)=>some (some i)|_=>none:=rfl
@[simp] theorem cS_nil(o:Option D):cS .nil o=some true:=rfl
@[simp] theorem szL_lst(l:List D):szL (.lst l)=if sz l.length then some (.lst l)else none:=rfl
@[simp] theorem szT_lst(l:List D):szT (.lst l)=if sz l.length then some (.tup l)else none:=rfl
@[simp] theorem len_lst(l:List D):unD .len (.lst l)=some (.int l.length):=rfl
@[simp] theorem len_tup(l:List D):unD .len (.tup l)=some (.int l.length):=rfl
@[simp] theorem neg_int'(i:Int):unD .neg (.int i)=some (.int (-i)):=rfl
@[simp] theorem list_lst(l:List D):unD .list (.lst l)=some (.lst l):=rfl
@[simp] theorem list_tup(l:List D):unD .list (.tup l)=some (.lst l):=rfl
@[simp] theorem revD_lst(l:List D):revD (.lst l)=some (.lst l.reverse):=rfl
@[simp] theorem cutD_lst(l:List D)(a b:Option Int):cutD (.lst l) a b=some (.lst (cutL l a b)):=rfl
@[simp] theorem idx_lst(l:List D)(i:Int):idxD (.lst l) (.int i)=L2.atI l i:=rfl
@[simp] theorem idx_tup(l:List D)(i:Int):idxD (.tup l) (.int i)=L2.atI l i:=rfl
@[simp] theorem add_ii(i j:Int):binD .Add (.int i) (.int j)=some (.int (i+j)):=rfl
@[simp] theorem sub_ii(i j:Int):binD .Sub (.int i) (.int j)=some (.int (i-j)):=rfl
@[simp] theorem add_ll(a b:List D):binD .Add (.lst a) (.lst b)=if sz (a.length+b.length)then some (.lst (a++b))else none:=rfl
@[simp] theorem lt_ii(i j:Int):cmpD .Lt (.int i) (.int j)=some (.bl (decide (i<j))):=rfl
@[simp] theorem le_ii(i j:Int):cmpD .LtE (.int i) (.int j)=some (.bl (decide (i≤j))):=rfl
@[simp] theorem gt_ii(i j:Int):cmpD .Gt (.int i) (.int j)=some (.bl (decide (j<i))):=rfl
@[simp] theorem eq_dd(a b:D):cmpD .Eq a b=(eqD a b).map .bl:=by cases a<;>cases b<;>rfl
@[simp] theorem ne_dd(a b:D):cmpD .NotEq a b=(eqD a b).map fun c=> .bl (!c):=by cases a<;>cases b<;>rfl
@[simp] theorem mn_ii(i j:Int):min2 (.int i) (.int j)=some (.int (if j<i then j else i)):=rfl
@[simp] theorem mx_ii(i j:Int):max2 (.int i) (.int j)=some (.int (if j>i then j else i)):=rfl
@[simp] theorem rng2D_ii(i j:Int):rng2D (.int i) (.int j)=(rngD i j).map .lst:=rfl
@[simp] theorem enmD_lst(l:List D):enmD (.lst l)=some (.lst (enumD 0 l)):=rfl
@[simp] theorem zpD_ll(l m:List D):zpD (.lst l) (.lst m)=some (.lst (zipD l m)):=rfl
@[simp] theorem scal_int(i:Int):scal (.int i)=true:=rfl
@[simp] theorem scal_bl(i:Bool):scal (.bl i)=true:=rfl
@[simp] theorem scal_non:scal .non=true:=rfl
@[simp] theorem scal_str(x:Str):scal (.str x)=true:=rfl
@[simp] theorem scal_lst(l:List D):scal (.lst l)=false:=rfl
@[simp] theorem scal_tup(l:List D):scal (.tup l)=false:=rfl
@[simp] theorem strip_sh(d:D):strip (.sh d)=d:=by simp [strip]
@[simp] theorem strip_ow(ts:List T):strip (.ow ts)=.lst (ts.map strip):=by simp [strip,strips_map]
@[simp] theorem flatT_sh(d:D):flatT (.sh d)=scal d:=by simp [flatT]
theorem flatTs_all(ts:List T):flatTs ts=ts.all flatT:=by
 induction ts with
 |nil=>simp [flatTs]
 |cons t r ih=>simp [flatTs,ih]
@[simp] theorem flatT_ow(ts:List T):flatT (.ow ts)=ts.all flatT:=by simp [flatT,flatTs_all]
theorem strip_comp_sh:strip∘T.sh=id:=by funext d;simp
@[simp] theorem map_strip_sh(ds:List D):(ds.map T.sh).map strip=ds:=by rw [List.map_map,strip_comp_sh,List.map_id]
@[simp] theorem dEnv_nil:dEnv []=[]:=rfl
@[simp] theorem dEnv_cons(o:Option T)(r:TEnv):dEnv (o::r)=o.map strip::dEnv r:=rfl
@[simp] theorem fEnv_nil:fEnv []=[]:=rfl
@[simp] theorem fEnv_cons(o:Option T)(r:TEnv):fEnv (o::r)=shOf o::fEnv r:=rfl
@[simp] theorem shOf_sh(d:D):shOf (some (.sh d))=some d:=rfl
@[simp] theorem shOf_none:shOf none=none:=rfl
section
variable(Γ:Tab)(Δ:IOT)(pio:Option Nat)(n:Nat)(env:TEnv)
@[simp] theorem ex_nop:ex Γ Δ pio n .nop env=some (.nx,env):=rfl
@[simp] theorem ex_retN:ex Γ Δ pio n .retN env=some (.rt (.sh .non),env):=rfl
@[simp] theorem ex_raise:ex Γ Δ pio n .raise env=none:=rfl
noncomputable def seqX(r:Option (Fl×TEnv))(k:TEnv→Option (Fl×TEnv)):Option (Fl×TEnv):=r.bind fun r=>match r.1 with
 | .nx=>k r.2
 |_=>some r
@[simp] theorem ex_seq(a b:S):ex Γ Δ pio n (.seq a b) env=seqX (ex Γ Δ pio n a env) (ex Γ Δ pio n b):=rfl
@[simp] theorem seqX_nx(e:TEnv)(k:TEnv→Option (Fl×TEnv)):seqX (some (.nx,e)) k=k e:=rfl
@[simp] theorem seqX_rt(t:T)(e:TEnv)(k:TEnv→Option (Fl×TEnv)):seqX (some (.rt t,e)) k=some (.rt t,e):=rfl
@[simp] theorem ex_asg(i:Nat)(m:E):ex Γ Δ pio n (.asg i m) env=if okI pio env i then(evX Γ pio m env).map fun r=>(.nx,r.2.set i (some r.1))else none:=rfl
@[simp] theorem ex_ife(c:E)(a b:S):ex Γ Δ pio n (.ife c a b) env=(evB Γ c (dEnv env)).bind fun t=>if t then ex Γ Δ pio n a env else ex Γ Δ pio n b env:=rfl
@[simp] theorem ex_ret(m:E)(h:∀i,m≠.var i):ex Γ Δ pio n (.ret m) env=(evX Γ pio m env).map fun r=>(.rt r.1,r.2):=by
  cases m with
  |var i=>exact absurd rfl (h i)
  |_=>rfl
@[simp] theorem ex_retV(i:Nat):ex Γ Δ pio n (.ret (.var i)) env=if pio=some i then none else(env[i]?).join.map fun t=>(.rt t,env.set i none):=rfl
@[simp] theorem ex_set(i:Nat)(k m:E):ex Γ Δ pio n (.set i k m) env=(ev Γ m (dEnv env)).bind fun d=>if scal d then((ev Γ k (dEnv env)).bind intD).bind fun z=>(owAt env i).bind fun ts=>(ixN ts.length z).map fun j=>(.nx,env.set i (some (.ow (ts.set j (.sh d)))))else none:=rfl
end
@[simp] theorem okI_none(env:TEnv)(i:Nat):okI none env i=decide (i<env.length):=by simp [okI]
@[simp] theorem okI_some(env:TEnv)(i j:Nat):okI (some j) env i=decide (j≠i∧i<env.length):=by simp [okI]
section
variable(Γ:Tab)(Δ:IOT)(pio:Option Nat)(n:Nat)(env:TEnv)
theorem ex_for1(i:Nat)(it:E)(b:S):ex Γ Δ pio n (.for1 i it b) env=if okI pio env i then(itX Γ pio it env).bind fun r=>forL (fun d e=>ex Γ Δ pio n b (e.set i (some (.sh d)))) r.1 r.2 else none:=rfl
theorem ex_drop(m:E):ex Γ Δ pio n (.drop m) env=(evX Γ pio m env).map fun r=>(.nx,r.2):=rfl
theorem ex_ifio(neg:Bool)(f i:Nat)(args:E)(a b:S):ex Γ Δ pio n (.ifio neg f i args a b) env=(evIO Γ Δ f i args env).bind fun r=>match r.1 with
 | .sh (.bl t)=>if(t !=neg)then ex Γ Δ pio n a r.2 else ex Γ Δ pio n b r.2
 |_=>none:=rfl
theorem ex_app(i:Nat)(m:E):ex Γ Δ pio n (.app i m) env=(evX Γ pio m env).bind fun r=>(owAt r.2 i).bind fun ts=>if sz ts.length then some (.nx,r.2.set i (some (.ow (ts++[r.1]))))else none:=rfl
end
theorem evX_scal{Γ:Tab}{pio:Option Nat}{m:E}{env:TEnv}{d:D}(hc:isCall m=false)(h:ev Γ m (dEnv env)=some d)(hs:scal d=true):evX Γ pio m env=some (.sh d,env):=by
 rw [evX_other hc,h]
 show(if scal d then _ else _)=_
 rw [if_pos hs]
theorem evX_flat{Γ:Tab}{pio:Option Nat}{m:E}{env:TEnv}{ds:List D}(hc:isCall m=false)(hf:fresh m=true)(h:ev Γ m (dEnv env)=some (.lst ds))(hs:ds.all scal=true):evX Γ pio m env=some (.ow (ds.map T.sh),env):=by
 rw [evX_other hc,h,obs,if_neg (show¬scal (.lst ds)=true from fnt),if_pos hf,listD_lst,obs,if_pos hs]
theorem evX_callF{Γ:Tab}{pio:Option Nat}{f:Nat}{args:E}{env:TEnv}{g:List D→Option T}{l:List D}{t:T}(hg:Γ f=some g)(hl:evs Γ args (dEnv env)=some l)(ht:g l=some t)(hf:flatT t=true):evX Γ pio (.call f args) env=some (t,env):=by
 rw [evX_call,hg]
 show(evs Γ args (dEnv env)).bind _=_
 rw [hl]
 show(g l).bind _=_
 rw [ht]
 show(if flatT t then _ else _)=_
 rw [if_pos hf]
@[simp] theorem owAt_0(ts:List T)(r:TEnv):owAt (some (.ow ts)::r) 0=some ts:=rfl
@[simp] theorem owAt_s(o:Option T)(r:TEnv)(i:Nat):owAt (o::r) (i+1)=owAt r i:=rfl
@[simp] theorem intD_int(i:Int):intD (.int i)=some i:=rfl
@[simp] theorem childs_ow(ts:List T):childs (.ow ts)=some ts:=rfl
@[simp] theorem childs_sh(ds:List D):childs (.sh (.lst ds))=some (ds.map T.sh):=rfl
theorem sz_of{n:Nat}(h:n≤1000000):sz n=true:=dtt h
@[simp] theorem all_scal_ints(ns:List Int):(ns.map D.int).all scal=true:=by simp
@[simp] theorem all_scal_bls(ns:List Bool):(ns.map D.bl).all scal=true:=by simp
noncomputable def gP(Γ:Tab)(Δ:IOT)(m:Nat)(N:List Str)(ar:Nat)(body:S)(ds:List D):Option T:=if ds.length=ar then match ex Γ Δ none m body (startT N ds)with
 |some (.rt t,_)=>some t
 |some (.nx,_)=>some (.sh .non)
 |_=>none
 else none
noncomputable def flT:Fl→Option T
 | .rt t=>some t
 | .nx=>some (.sh .non)
 |_=>none
noncomputable def gQ(Γ:Tab)(Δ:IOT)(m:Nat)(N:List Str)(j ar:Nat)(body:S)(l:List D):Option (T×List D):=if l.length=ar then(ex Γ Δ (some j) m body (startIO N j l)).bind fun r=>(flT r.1).bind fun t=>(owAt r.2 j).bind fun ts=>(unsh ts).map fun ds=>(t,ds)else none
noncomputable def extT(Γ:Tab)(f:Nat)(g:List D→Option T):Tab:=fun i=>if i=f then some g else Γ i
noncomputable def extI(Δ:IOT)(f j:Nat)(g:List D→Option (T×List D)):IOT:=fun i=>if i=f then some (j,g)else Δ i
section
variable{P:Program}{w:World}{K:W.Frag}{mg:Str→Option Value}{base:Heap}{cl:Nat→Option Addr}{c:CS}{Γ:Tab}{Δ:IOT}{k:Nat}
theorem Lw.start(hb:∀x∈BLT,mg x=none){gi:List (Str×Int)}{cn:List (Str×Nat)}(hg:∀x i,gi.lookup x=some i→∃t,mg x=some (.int i t))(hc:ClsOk K cl)(hn:∀x j,cn.lookup x=some j→∃J,cl j=some J∧mg x=some (.ref J))(hv:∀x z,GS.lookup x=some z→∃t,mg x=some (.str z t)):Lw P w K mg base cl ⟨⟨[],gi,cn⟩,[]⟩ (fun _=>none) (fun _=>none) 0:=
 ⟨(fun x f h=>by simp at h),(fun x f i h=>by simp at h),hb,hg,hc,(fun d C i m g _ _ h=>by cases h),hn,(fun d C i m g _ _ h=>by cases h),hv⟩
theorem Lw.run(L:Lw P w K mg base cl c Γ Δ k){x qual:Str}{st:Stmt}{fa:Addr}{fd:FuncData}{N ps:List Str}{n m:Nat}{body:S}(F:Fun K x qual st fa fd)(FS:FnScope N ps (defScope st))(loc:∀x∈N,(defScope st).names.lookup x=some .local∨(defScope st).names.lookup x=some .cell)
 (hc:cSt c n N (defScope st) (defBody st)=some body):FnOk P w K mg base CX0 (k+1) fa fd ps (spP K cl (gP Γ Δ m N ps.length body)):=by
 refine def_pure L F FS loc hc (fun ds t h=> ?_) (fun ds t h=> ?_)
 ·unfold gP at h
  split at h
  ·assumption
  ·cases h
 ·unfold gP at h
  split at h
  ·split at h
   ·rename_i e;cases h;exact⟨m,_,_,e,.inl rfl⟩
   ·rename_i e;cases h;exact⟨m,_,_,e,.inr ⟨rfl,rfl⟩⟩
   ·cases h
  ·cases h
theorem Lw.runIO(L:Lw P w K mg base cl c Γ Δ k){x qual:Str}{st:Stmt}{fa:Addr}{fd:FuncData}{N ps:List Str}{n m j:Nat}{body:S}(F:Fun K x qual st fa fd)(FS:FnScope N ps (defScope st))(loc:∀x∈N,(defScope st).names.lookup x=some .local∨(defScope st).names.lookup x=some .cell)
 (hc:cSt c n N (defScope st) (defBody st)=some body):FnOk P w K mg base CX0 (k+1) fa fd ps (spIO K cl j (gQ Γ Δ m N j ps.length body)):=by
 refine def_io L F FS loc hc (fun ds t ds' h=> ?_) (fun ds t ds' h=> ?_)
 ·unfold gQ at h
  split at h
  ·assumption
  ·cases h
 ·unfold gQ at h
  split at h
  ·obtain⟨⟨fl,env'⟩,e,h⟩:=bsi h
   obtain⟨t',e2,h⟩:=bsi h
   obtain⟨ts,e3,h⟩:=bsi h
   obtain⟨d2,e4,h⟩:=msi h
   cases h
   refine⟨m,fl,env',e,?_,?_⟩
   ·cases fl with
    |rt t=>cases e2;exact .inl rfl
    |nx=>cases e2;exact .inr ⟨rfl,rfl⟩
    |_=>cases e2
   ·rw [owAt_eq e3,unsh_eq e4]
  ·cases h
theorem lookup_ne{x:Str}{f f':Nat}:∀ {tab:List (Str×Nat)},tab.all (fun p=>p.2 !=f)=true→tab.lookup x=some f'→f'≠f
 |[],_,h=>by cases h
 |(y,g)::r,ha,h=>by
  rw [List.all_cons,Bool.and_eq_true]at ha
  rw [List.lookup_cons]at h
  split at h
  ·cases h;simpa using ha.1
  ·exact lookup_ne ha.2 h
theorem lookup_neI{x:Str}{f f' i:Nat}:∀ {tab:List (Str×Nat×Nat)},tab.all (fun p=>p.2.1 !=f)=true→tab.lookup x=some (f',i)→f'≠f
 |[],_,h=>by cases h
 |(y,g)::r,ha,h=>by
  rw [List.all_cons,Bool.and_eq_true]at ha
  rw [List.lookup_cons]at h
  split at h
  ·cases h;simpa using ha.1
  ·exact lookup_neI ha.2 h
theorem Lw.ext(L:Lw P w K mg base cl c Γ Δ k){f:Nat}{g:List D→Option T}(hf:f<1000)(hn:c.cc.tab.all (fun p=>p.2 !=f)=true):Lw P w K mg base cl c (extT Γ f g) Δ k:=by
 refine⟨fun y f' h=> ?_,L.io,L.blt,L.gi,L.cls,fun d C i m g' h0 h1 h2=> ?_,L.cn,L.mio,L.fv⟩
 ·obtain⟨g',h1,r⟩:=L.fn y f' h
  exact⟨g',by unfold extT;rw [if_neg (lookup_ne hn h)];exact h1,r⟩
 ·refine L.mth d C i m g' h0 h1 ?_
  unfold extT at h2
  rw [if_neg (by unfold mid;lia)]at h2
  exact h2
theorem Lw.join(L:Lw P w K mg base cl c Γ Δ k){x:Str}{f:Nat}{g:List D→Option T}{fa:Addr}{fd:FuncData}{ps:List Str}(hf:f<1000)(hn:c.cc.tab.all (fun p=>p.2 !=f)=true)(F:FnOk P w K mg base CX0 (k+1) fa fd ps (spP K cl g))(hm:mg x=some (.ref fa))(hk:W.keepIn K (.ref fa)=true)(hb:Binds K fd ps []):
 Lw P w K mg base cl ⟨⟨(x,f)::c.cc.tab,c.cc.gi,c.cc.cn⟩,c.iot⟩ (extT Γ f g) Δ (k+1):=
 (L.ext hf hn).addG (Nat.le_succ _) (by unfold extT;rw [if_pos rfl]) (.inl ⟨fa,fd,ps,F,hm,hk,hb⟩)
theorem Lw.joinIO(L:Lw P w K mg base cl c Γ Δ k){x:Str}{f j:Nat}{g:List D→Option (T×List D)}{fa:Addr}{fd:FuncData}{ps:List Str}(hf:f<1000)(hn:c.iot.all (fun p=>p.2.1 !=f)=true)(F:FnOk P w K mg base CX0 (k+1) fa fd ps (spIO K cl j g))(hm:mg x=some (.ref fa))(hk:W.keepIn K (.ref fa)=true)(hb:Binds K fd ps []):
 Lw P w K mg base cl ⟨c.cc,(x,f,j)::c.iot⟩ Γ (extI Δ f j g) (k+1):=by
 have L':Lw P w K mg base cl c Γ (extI Δ f j g) k:=⟨L.fn,fun y f' i h=>by
  obtain⟨g',h1,r⟩:=L.io y f' i h
  exact⟨g',by unfold extI;rw [if_neg (lookup_neI hn h)];exact h1,r⟩,L.blt,L.gi,L.cls,L.mth,L.cn,fun d C i m g' h0 h1 h2=>L.mio d C i m g' h0 h1 (by unfold extI at h2;rw [if_neg (by unfold mid;lia)]at h2;exact h2),L.fv⟩
 exact L'.addIO (by unfold extI;rw [if_pos rfl]) F hm hk hb
end
theorem gP_rt{Γ:Tab}{Δ:IOT}{m:Nat}{N:List Str}{ar:Nat}{body:S}{ds:List D}{t:T}{env:TEnv}(hl:ds.length=ar)(h:ex Γ Δ none m body (startT N ds)=some (.rt t,env)):gP Γ Δ m N ar body ds=some t:=by
 unfold gP;rw [if_pos hl,h]
theorem gP_nx{Γ:Tab}{Δ:IOT}{m:Nat}{N:List Str}{ar:Nat}{body:S}{ds:List D}{env:TEnv}(hl:ds.length=ar)(h:ex Γ Δ none m body (startT N ds)=some (.nx,env)):gP Γ Δ m N ar body ds=some (.sh .non):=by
 unfold gP;rw [if_pos hl,h]
theorem gQ_rt{Γ:Tab}{Δ:IOT}{m j:Nat}{N:List Str}{ar:Nat}{body:S}{ds ds':List D}{t:T}{env:TEnv}(hl:ds.length=ar)(h:ex Γ Δ (some j) m body (startIO N j ds)=some (.rt t,env))(hj:owAt env j=some (ds'.map T.sh)):gQ Γ Δ m N j ar body ds=some (t,ds'):=by
 unfold gQ;rw [if_pos hl,h];simp [flT,hj,unsh_sh]
end MI
namespace MI
open PySem L2
section
variable{Γ:Tab}{Δ:IOT}{pio:Option Nat}{n:Nat}{env env2 env3:TEnv}{k:S}
theorem st_asg{i:Nat}{m:E}{t:T}(ok:okI pio env i=true)(h:evX Γ pio m env=some (t,env2)):ex Γ Δ pio n (.seq (.asg i m) k) env=ex Γ Δ pio n k (env2.set i (some t)):=by
 rw [ex_seq,ex_asg,if_pos ok,h];rfl
theorem st_asg2{i j:Nat}{m l:E}{t u:T}(ok:(okI pio env i&&okI pio env j&&decide (i≠j))=true)(h:evX Γ pio m env=some (t,env2))(h2:evX Γ pio l env2=some (u,env3)):ex Γ Δ pio n (.seq (.asg2 i j m l) k) env=ex Γ Δ pio n k ((env3.set i (some t)).set j (some u)):=by
 rw [ex_seq,show ex Γ Δ pio n (.asg2 i j m l) env=if okI pio env i&&okI pio env j&&decide (i≠j)then(evX Γ pio m env).bind fun r=>(evX Γ pio l r.2).map fun q=>(.nx,(q.2.set i (some r.1)).set j (some q.1))else none from rfl,if_pos ok,h,obs,show evX Γ pio l (t,env2).2=_ from h2];rfl
theorem st_skip{c:E}{a:S}(h:evB Γ c (dEnv env)=some false):ex Γ Δ pio n (.seq (.ife c a .nop) k) env=ex Γ Δ pio n k env:=by
 rw [ex_seq,ex_ife,h];rfl
theorem st_if{c:E}{a b:S}{t:Bool}(h:evB Γ c (dEnv env)=some t)(h2:(if t then ex Γ Δ pio n a env else ex Γ Δ pio n b env)=some (.nx,env2)):ex Γ Δ pio n (.seq (.ife c a b) k) env=ex Γ Δ pio n k env2:=by
 rw [ex_seq,ex_ife,h,obs,h2];rfl
theorem st_for1{i:Nat}{it:E}{b:S}{l:List D}(ok:okI pio env i=true)(h:itX Γ pio it env=some (l,env2))(hf:forL (fun d e=>ex Γ Δ pio n b (e.set i (some (.sh d)))) l env2=some (.nx,env3)):ex Γ Δ pio n (.seq (.for1 i it b) k) env=ex Γ Δ pio n k env3:=by
 rw [ex_seq,ex_for1,if_pos ok,h,obs,show forL (fun d e=>ex Γ Δ pio n b (e.set i (some (.sh d)))) (l,env2).1 (l,env2).2=_ from hf];rfl
theorem st_ret{m:E}{t:T}(hm:∀i,m≠.var i)(h:evX Γ pio m env=some (t,env2)):ex Γ Δ pio n (.seq (.ret m) k) env=some (.rt t,env2):=by
 rw [ex_seq,ex_ret _ _ _ _ _ _ hm,h];rfl
theorem st_retV{i:Nat}{t:T}(hp:pio≠some i)(h:(env[i]?).join=some t):ex Γ Δ pio n (.seq (.ret (.var i)) k) env=some (.rt t,env.set i none):=by
 rw [ex_seq,ex_retV,if_neg hp,h];rfl
theorem st_app{i:Nat}{m:E}{t:T}{ts:List T}(h:evX Γ pio m env=some (t,env2))(h2:owAt env2 i=some ts)(hs:sz ts.length=true):ex Γ Δ pio n (.seq (.app i m) k) env=ex Γ Δ pio n k (env2.set i (some (.ow (ts++[t])))):=by
 rw [ex_seq,ex_app,h,obs,show owAt (t,env2).2 i=some ts from h2,obs,if_pos hs];rfl
theorem st_ins{i:Nat}{q m:E}{d:D}{z:Nat}{ts:List T}(h1:ev Γ q (dEnv env)=some (.int z))(h2:ev Γ m (dEnv env)=some d)(h3:owAt env i=some ts)(hs:scal d=true)(hz:z≤ts.length)(hl:sz ts.length=true):ex Γ Δ pio n (.seq (.ins i q m) k) env=ex Γ Δ pio n k (env.set i (some (.ow (ts.take z++.sh d::ts.drop z)))):=by
 rw [ex_seq,show ex Γ Δ pio n (.ins i q m) env=((ev Γ q (dEnv env)).bind intD).bind fun z=>(ev Γ m (dEnv env)).bind fun d=>(owAt env i).bind fun ts=>if scal d&&decide (0≤z∧z≤ts.length)&&sz ts.length then some (.nx,env.set i (some (.ow (ts.take z.toNat++.sh d::ts.drop z.toNat))))else none from rfl,h1,h2,h3]
 simp only [obs,intD_int]
 rw [if_pos (by rw [hs,hl,dtt (by lia)];rfl),Int.toNat_natCast];rfl
theorem st_drop{m:E}{t:T}(h:evX Γ pio m env=some (t,env2)):ex Γ Δ pio n (.seq (.drop m) k) env=ex Γ Δ pio n k env2:=by
 rw [ex_seq,ex_drop,h];rfl
end
theorem un_stri(i:Int):unD .stri (.int i)=if decide (0≤i∧i<1000000)then some (.str (Str.ofString (toString i)))else none:=rfl
theorem un_inti(x:Str):unD .inti (.str x)=if decide (x.length≤640)then(intText? x).map .int else none:=rfl
theorem un_joi(l:List D):unD .joi (.lst l)=(strsD l).bind fun xs=>if JoinOk BLK xs then some (.str (Txt.join BLK xs))else none:=rfl
theorem un_spl(x:Str):unD .spl (.str x)=if sz (x.length+2)then some (.lst ((Txt.split x BLK).map .str))else none:=rfl
theorem un_stp(x:Str):unD .stp (.str x)=if sz x.length then some (.str (Txt.stripChars x FIG))else none:=rfl
theorem len_str'(x:Str):unD .len (.str x)=if sz x.length then some (.int x.length)else none:=rfl
theorem add_ss(a b:Str):binD .Add (.str a) (.str b)=if sz (a.length+b.length)then some (.str (a++b))else none:=rfl
theorem mul_si(x:Str)(k:Int):binD .Mult (.str x) (.int k)=if decide (0≤k∧k≤100000∧x.length≤100)then some (.str (Txt.mul x k))else none:=rfl
theorem cut_str(x:Str)(a b:Option Int):cutD (.str x) a b=if sz x.length then some (.str (Txt.slice x a b))else none:=rfl
theorem idx_str(x:Str)(i:Int):idxD (.str x) (.int i)=if sz x.length then(L2.atI x.cps.toList i).map fun c=> .str ⟨#[c]⟩else none:=rfl
@[simp] theorem is_nn:cmpD .Is .non .non=some (.bl true):=rfl
@[simp] theorem is_ln(l:List D):cmpD .Is (.lst l) .non=some (.bl false):=rfl
theorem in_l(a:D)(l:List D):cmpD .In a (.lst l)=(inD a l).map .bl:=by cases a<;>rfl
theorem ev_sne(Γ:Tab)(env:Env)(a b:E):ev Γ (.sne a b) env=(ev Γ a env).bind fun x=>(ev Γ b env).bind fun y=>sneD x y:=rfl
theorem sneD_ll(l m:List D):sneD (.lst l) (.lst m)=(intsD l).bind fun ns=>(intsD m).bind fun ms=>if decide (ns.length<64)then some (.bl (!decide (isort ns=ms)))else if decide (ns.length=64)&& !ns.isPerm ms then some (.bl true)else none:=rfl
end MI
end
noncomputable section
namespace MI
open PySem L2 LX PyProof.Rows
inductive RE where
 |call(k:Nat)(m:E)|ite(c:E)(a b:RE)
inductive R where
 |rs(x:Str)|xe(e:RE)|dr(k f:Nat)(m:E)(r:R)|ifr(t:E)(a r:R)|non
noncomputable abbrev XT:=Nat→Option (List D→Option Str)
noncomputable def rxC(Γ:Tab)(Ξ:XT)(env:List (Option D))(k:Nat)(m:E):Option Str:=(Ξ k).bind fun g=>(evs Γ m env).bind g
noncomputable def rxE(Γ:Tab)(Ξ:XT)(env:List (Option D)):RE→Option Str
 | .call k m=>rxC Γ Ξ env k m
 | .ite c a b=>(evB Γ c env).bind fun t=>if t=true then rxE Γ Ξ env a else rxE Γ Ξ env b
noncomputable def rx(Γ:Tab)(Ξ:XT)(env:List (Option D)):R→Option Str
 | .rs x=>some x
 | .xe e=>rxE Γ Ξ env e
 | .dr k f m r=>match rxC Γ Ξ env k m with
   |some x=>some x
   |none=>(ev Γ (.call f m) env).bind fun _=>rx Γ Ξ env r
 | .ifr t a r=>(evB Γ t env).bind fun b=>if b=true then rx Γ Ξ env a else rx Γ Ξ env r
 | .non=>none
noncomputable def XN:List Str:=["BadRow","BadNumber","BadRings","Unlike","BadText"]
noncomputable def BMV:List Value:=[.type "ValueError",.type "Exception",.type "BaseException",.type "object"]
noncomputable def spX(K:W.Frag)(cl:Nat→Option Addr)(g:List D→Option Str):Sp:=fun vs H _ E=>∃G l y C,Same G H∧Dns K cl G vs l∧g l=some y∧W.nsIn K mainGlobals y=some (some (.ref C))∧∀H',Same H H'→E (.ref C) none H'
structure GoodX(X:Cx)(cl:Nat→Option Addr)(x:Str)(g:List D→Option Str):Prop where
 ex:∃k fa fd ps,FnOk X.prog X.w X.K X.mg X.base (CXE X.prog X.w) k fa fd ps (spX X.K cl g)∧Room k X.A∧X.mg x=some (.ref fa)∧W.keepIn X.K (.ref fa)=true∧Binds X.K fd ps []
structure XSees(X:Cx)(E:XK)(cl:Nat→Option Addr)(c:CC)(Γ:Tab)(Ξ:XT)(ξ:List (Str×Nat))(N:List Str)(sc:Scope):Prop where
 O:XOut X E
 cm:X.calm=true
 S:Sees X.nox cl c Γ true N sc
 hΓ:∀x f,c.tab.lookup x=some f→∃g,Γ f=some g
 fx:∀x k,ξ.lookup x=some k→∃g,Ξ k=some g∧GoodX X cl x g
 own:∀x∈XN,∃C,OwnCls x C BMV "ValueError.__new__" X.mg X.base∧W.nsIn X.K mainGlobals x=some (some (.ref C))
section
variable(K:W.Frag)(cl:Nat→Option Addr)(Γ:Tab)(Ξ:XT)(E:XK)
noncomputable def tRE(r:RE):TE:=fun σ H _=>∃G env y C,Same G H∧EnvD K cl G env σ∧rxE Γ Ξ env r=some y∧W.nsIn K mainGlobals y=some (some (.ref C))∧∀H',Same H H'→E (.ref C) none H'
noncomputable def tR(r:R):TS:=fun _ σ H=>∃G env y C,Same G H∧EnvD K cl G env σ∧rx Γ Ξ env r=some y∧W.nsIn K mainGlobals y=some (some (.ref C))∧∀H',Same H H'→E (.ref C) none H'
end
noncomputable def cRC(c:CC)(ξ:List (Str×Nat))(n:Nat)(N:List Str)(sc:Scope)(x:Str)(args:List Expr):Option (Nat×E):=
 if args.all okE&&isGl N sc x&& !args.isEmpty then(ξ.lookup x).bind fun k=>(cList (cE c n true N sc) args).map fun m=>(k,m)else none
noncomputable def cRE(c:CC)(ξ:List (Str×Nat))(N:List Str)(sc:Scope):Nat→Expr→Option RE
 |0,_=>none
 |n+1,e=>match e with
  | .Call (.Name x _) args [] _=>(cRC c ξ n N sc x args).map fun km=> .call km.1 km.2
  | .IfExp t a b _=>if okT t then(cE c n true N sc t).bind fun mt=>(cRE c ξ N sc n a).bind fun ra=>(cRE c ξ N sc n b).map fun rb=> .ite mt ra rb else none
  |_=>none
noncomputable def cR(c:CC)(ξ:List (Str×Nat))(N:List Str)(sc:Scope):Nat→List Stmt→R
 |0,_=> .non
 |n+1,l=>match l with
  | .Raise (some (.Call (.Name x _) [.Constant (.str w) k p] [] _)) none _::_=>if XN.contains x&&isGl N sc x then .rs x else .non
  | .Return (some e) _::_=>((cRE c ξ N sc n e).map R.xe).getD .non
  | .Expr (.Call (.Name x _) args [] _) _::rest=>((cRC c ξ n N sc x args).bind fun km=>(c.tab.lookup x).map fun f=>R.dr km.1 f km.2 (cR c ξ N sc n rest)).getD .non
  | .If t a [] _::rest=>if okT t then((cE c n true N sc t).map fun mt=>R.ifr mt (cR c ξ N sc n a) (cR c ξ N sc n rest)).getD .non else .non
  |_=> .non
section
variable{X:Cx}{E:XK}{cl:Nat→Option Addr}{c:CC}{Γ:Tab}{Ξ:XT}{ξ:List (Str×Nat)}{N:List Str}{sc:Scope}
theorem pe_callX(Z:XSees X E cl c Γ Ξ ξ N sc){x:Str}{g:List D→Option Str}(F:GoodX X cl x g){e:Expr}{es:List Expr}{m:MI.E}{p pos:Pos}(hg:Gl X x)(hd:(x==("__debug__":Str))=false)(ha:PA X (e::es) (tVs X.K cl Γ m))(ok:(e::es).all okE=true):
 PE X (.Call (.Name x p) (e::es) [] pos) (fun σ H _=>∃G env l y C,Same G H∧EnvD X.K cl G env σ∧evs Γ m env=some l∧g l=some y∧W.nsIn X.K mainGlobals y=some (some (.ref C))∧∀H',Same H H'→E (.ref C) none H'):=by
 rw [List.all_cons,Bool.and_eq_true]at ok
 obtain⟨k,fa,fd,ps,F1,F2,F3,F4,F5⟩:=F.ex
 refine peI (pe_call F1 F2 hg F3 F4 F5 .nil (passes Z.O) ha hd (star_of ok.1 _ _) (star_any ok.2 _ _)) fun σ H Q ⟨G,env,l,y,C,sg,en,e,ey,n,q⟩=> ?_
 refine⟨G,env,l,sg,en,e,fun vs H1 G1 x1 d1=> ?_⟩
 show spX X.K cl g (vs++[]) H1 Q E
 rw [List.append_nil]
 exact⟨G1,l,y,C,x1.gh,d1,ey,n,fun H' s'=>q H' (x1.hh.trans s')⟩
theorem cRC_ok(Z:XSees X E cl c Γ Ξ ξ N sc){n:Nat}{x:Str}{args:List Expr}{km:Nat×MI.E}{p pos:Pos}(h:cRC c ξ n N sc x args=some km):
 PE X (.Call (.Name x p) args [] pos) (tRE X.K cl Γ Ξ E (.call km.1 km.2)):=by
 unfold cRC at h
 split at h
 ·rename_i ok
  obtain⟨ok,ne⟩:=bae ok
  obtain⟨ok,gx⟩:=bae ok
  obtain⟨k,hk,h⟩:=bsi h
  obtain⟨m,hm,rfl⟩:=msi h
  obtain⟨g,hg,G⟩:=Z.fx x k hk
  obtain⟨o1,g1⟩:=isGl_ok gx
  have pa:PA X args (tVs X.K cl Γ m):=clist_ok (fun e _ m h=>((cE_ok Z.hΓ n true N sc e m X.nox Z.S h).1).nox) ok hm
  cases args with
  |nil=>cases ne
  |cons e es=>
   refine peI (pe_callX Z G (Z.S.gl x g1) (okN_ok o1).1 pa ok) fun σ H Q ⟨G0,env,y,C,sg,en,e1,n1,q⟩=> ?_
   have e2:(Ξ k).bind (fun g=>(evs Γ m env).bind g)=some y:=e1
   rw [hg]at e2
   obtain⟨l,e3,e4⟩:=bsi (show(evs Γ m env).bind g=some y from e2)
   exact⟨G0,env,l,y,C,sg,en,e3,e4,n1,q⟩
 ·cases h
theorem cRE_ok(Z:XSees X E cl c Γ Ξ ξ N sc):∀(n:Nat) (e:Expr) (r:RE),cRE c ξ N sc n e=some r→PE X e (tRE X.K cl Γ Ξ E r):=by
 intro n
 induction n with
 |zero=>intro e r h;cases h
 |succ n ih=>
  intro e r h
  unfold cRE at h
  split at h
  ·obtain⟨km,h1,rfl⟩:=msi h
   exact cRC_ok Z h1
  ·split at h
   ·rename_i t a b pos ot
    obtain⟨mt,h1,h⟩:=bsi h
    obtain⟨ra,h2,h⟩:=bsi h
    obtain⟨rb,h3,rfl⟩:=msi h
    refine peI (pe_ifExp (((cE_ok Z.hΓ n true N sc t mt X.nox Z.S h1).2 ot).nox) (ih a ra h2) (ih b rb h3)) fun σ H Q ⟨G0,env,y,C,sg,en,e1,n1,q⟩=> ?_
    obtain⟨tb,e2,e3⟩:=bsi (show(evB Γ mt env).bind (fun t=>if t=true then rxE Γ Ξ env ra else rxE Γ Ξ env rb)=some y from e1)
    refine⟨G0,env,tb,sg,en,e2,fun H1 G1 x1=> ?_⟩
    cases tb with
    |true=>exact iteT ⟨G1,env,y,C,x1.gh,en.mono x1.gg,e3,n1,fun H' s'=>q H' (x1.hh.trans s')⟩
    |false=>exact iteF ⟨G1,env,y,C,x1.gh,en.mono x1.gg,e3,n1,fun H' s'=>q H' (x1.hh.trans s')⟩
   ·cases h
  ·cases h
end
theorem ps_or{X:Cx}{st:Stmt}{t u:TS}(h1:PS X st t)(h2:PS X st u):PS X st (fun D σ H=>t D σ H∨u D σ H):=fun pins s σ H D I q=>by
 rcases q with q|q
 ·exact h1 pins s σ H D I q
 ·exact h2 pins s σ H D I q
section
variable{X:Cx}{E:XK}{cl:Nat→Option Addr}{c:CC}{Γ:Tab}{Ξ:XT}{ξ:List (Str×Nat)}{N:List Str}{sc:Scope}
theorem pss_stop{l rest:List Stmt}{st:Stmt}{t:TS}(h:PS X st t)(ht:∀D D' σ H,t D σ H→t D' σ H):PSs X (st::rest) t:=by
 intro pins s σ H D I q
 refine wpAny_execs_cons (wpAny_mono (h pins s σ H {nx:=fun _ _=>False,rt:=fun _ _=>False} I (ht _ _ _ _ q)) (fun f s1 z=> ?_) fun _ _ z=>z)
 cases f with
 |next=>obtain⟨_,_,_,z⟩:=z;exact z.elim
 |ret u=>obtain⟨_,_,_,_,_,z⟩:=z;exact z.elim
 |brk=>obtain⟨_,_,_,z⟩:=z;exact z.elim
 |cont=>obtain⟨_,_,_,z⟩:=z;exact z.elim
theorem r_non{l:List Stmt}:PSs X l (tR X.K cl Γ Ξ E .non):=fun pins s σ H D I ⟨G0,env,y,C',sg,en,e,n',q⟩=>by cases e
theorem cR_ok(Z:XSees X E cl c Γ Ξ ξ N sc):∀(n:Nat) (l:List Stmt),PSs X l (tR X.K cl Γ Ξ E (cR c ξ N sc n l)):=by
 intro n
 induction n with
 |zero=>intro l;exact r_non
 |succ n ih=>
  intro l
  unfold cR
  split
  ·rename_i x np w k p cpos pos rest
   split
   ·rename_i ok
    obtain⟨hx,gx⟩:=bae ok
    obtain⟨o1,g1⟩:=isGl_ok gx
    obtain⟨C,G,nC⟩:=Z.own x (by simpa using hx)
    have pr:=ps_raise (pos:=pos) (np:=np) (cpos:=cpos) Z.O Z.cm G PySem.F.excBase_ValueError (Z.S.gl x g1) (pa_cons (pe_str (X:=X) (j:=k) (pos:=p) (x:=w)) pa_nil) rfl rfl (okN_ok o1).1
    refine pssI (pss_stop (l:=[]) pr fun D D' σ H z=>z) fun D σ H ⟨G0,env,y,C',sg,en,e,n',q⟩=> ?_
    cases e
    rw [nC]at n'
    cases n'
    exact⟨by show 1≤sizeLine;decide,q H (.refl _)⟩
   ·exact r_non
  ·rename_i e pos rest
   cases h:cRE c ξ N sc n e with
   |none=>exact r_non
   |some re=>exact pssI (pss_stop (l:=[]) (ps_ret (cRE_ok Z n e re h)) fun D D' σ H z=>z) fun D σ H q=>q
  ·rename_i x np args cpos pos rest
   cases h1:cRC c ξ n N sc x args with
   |none=>exact r_non
   |some km=>
   cases h2:c.tab.lookup x with
   |none=>exact r_non
   |some f=>
   have pr:=ps_expr (pos:=pos) (cRC_ok (p:=np) (pos:=cpos) Z h1) rfl
   have pn:PE X (.Call (.Name x np) args [] cpos) (tV X.K cl Γ (.call f km.2)):=by
    unfold cRC at h1
    split at h1
    ·rename_i ok
     obtain⟨ok,ne⟩:=bae ok
     obtain⟨ok,gx⟩:=bae ok
     obtain⟨k,hk,h1⟩:=bsi h1
     obtain⟨m,hm,rfl⟩:=msi h1
     obtain⟨o1,g1⟩:=isGl_ok gx
     obtain⟨g,hg⟩:=Z.hΓ x f h2
     have pa:PA X.nox args (tVs X.K cl Γ m):=clist_ok (fun e _ m h=>(cE_ok Z.hΓ n true N sc e m X.nox Z.S h).1) ok hm
     cases args with
     |nil=>cases ne
     |cons e es=>exact(pe_callD (X:=X.nox) (Z.S.gl x g1) (okN_ok o1).1 (Z.S.fn x f g h2 hg) hg pa ok).nox
    ·cases h1
   refine pssI (pss_cons (ps_or pr (ps_expr (pos:=pos) pn rfl)) (ih rest)) fun D σ H ⟨G0,env,y,C',sg,en,e,n',q⟩=> ?_
   have e':(match rxC Γ Ξ env km.1 km.2 with|some x=>some x|none=>(ev Γ (.call f km.2) env).bind fun _=>rx Γ Ξ env (cR c ξ N sc n rest))=some y:=e
   split at e'
   ·rename_i z hz
    cases e'
    exact .inl ⟨G0,env,y,C',sg,en,hz,n',q⟩
   ·obtain⟨d,e1,e2⟩:=bsi e'
    refine .inr ⟨G0,env,d,sg,en,e1,fun v H1 G1 x1 dv=> ?_⟩
    exact⟨G1,env,y,C',x1.gh,en.mono x1.gg,e2,n',fun H' s'=>q H' (x1.hh.trans s')⟩
  ·rename_i t a pos rest
   split
   ·rename_i ot
    cases h1:cE c n true N sc t with
    |none=>exact r_non
    |some mt=>
    refine pssI (pss_cons (ps_if (((cE_ok Z.hΓ n true N sc t mt X.nox Z.S h1).2 ot).nox) (ih a) pss_nil) (ih rest)) fun D σ H ⟨G0,env,y,C',sg,en,e,n',q⟩=> ?_
    obtain⟨tb,e2,e3⟩:=bsi (show(evB Γ mt env).bind (fun b=>if b=true then rx Γ Ξ env (cR c ξ N sc n a)else rx Γ Ξ env (cR c ξ N sc n rest))=some y from e)
    refine⟨G0,env,tb,sg,en,e2,fun H1 G1 x1=> ?_⟩
    cases tb with
    |true=>exact iteT ⟨G1,env,y,C',x1.gh,en.mono x1.gg,e3,n',fun H' s'=>q H' (x1.hh.trans s')⟩
    |false=>exact iteF ⟨G1,env,y,C',x1.gh,en.mono x1.gg,e3,n',fun H' s'=>q H' (x1.hh.trans s')⟩
   ·exact r_non
  ·exact r_non
end
noncomputable def gX(Γ:Tab)(Ξ:XT)(ar:Nat)(r:R)(l:List D):Option Str:=if l.length=ar then rx Γ Ξ (l.map some) r else none
structure LwX(P:Program)(w:World)(K:W.Frag)(mg:Str→Option Value)(base:Heap)(cl:Nat→Option Addr)(Ξ:XT)(ξ:List (Str×Nat))(k:Nat):Prop where
 fx:∀x j,ξ.lookup x=some j→∃g,Ξ j=some g∧∃fa fd ps,FnOk P w K mg base (CXE P w) k fa fd ps (spX K cl g)∧mg x=some (.ref fa)∧W.keepIn K (.ref fa)=true∧Binds K fd ps []
 own:∀x∈XN,∃C,OwnCls x C BMV "ValueError.__new__" mg base∧W.nsIn K mainGlobals x=some (some (.ref C))
section
variable{P:Program}{w:World}{K:W.Frag}{mg:Str→Option Value}{base:Heap}{cl:Nat→Option Addr}{c:CS}{Γ:Tab}{Δ:IOT}{Ξ:XT}{ξ:List (Str×Nat)}{k:Nat}
theorem LwX.mono(L:LwX P w K mg base cl Ξ ξ k){k':Nat}(h:k≤k'):LwX P w K mg base cl Ξ ξ k':=⟨fun x j e=>by
 obtain⟨g,hg,fa,fd,ps,F,r⟩:=L.fx x j e
 exact⟨g,hg,fa,fd,ps,F.mono h,r⟩,L.own⟩
theorem LwX.add(L:LwX P w K mg base cl Ξ ξ k){x:Str}{j:Nat}{g:List D→Option Str}{fa:Addr}{fd:FuncData}{ps:List Str}(hk:k≤k+1)(hj:ξ.all (fun p=>p.2 !=j)=true)(F:FnOk P w K mg base (CXE P w) (k+1) fa fd ps (spX K cl g))(hm:mg x=some (.ref fa))(kp:W.keepIn K (.ref fa)=true)(hb:Binds K fd ps []):
 LwX P w K mg base cl (fun i=>if i=j then some g else Ξ i) ((x,j)::ξ) (k+1):=by
 refine⟨fun y i e=> ?_,L.own⟩
 rw [List.lookup_cons]at e
 split at e
 ·rename_i z
  cases e
  have z:y=x:=by simpa using z
  subst z
  exact⟨g,if_pos rfl,fa,fd,ps,F,hm,kp,hb⟩
 ·obtain⟨g',hg,fa',fd',ps',F',r⟩:=L.fx y i e
  have ne:i≠j:=by
   have:=List.all_eq_true.mp hj (y,i) (mem_of_lookup e)
   simpa using this
  exact⟨g',by rw [if_neg ne];exact hg,fa',fd',ps',F'.mono (Nat.le_succ _),r⟩
theorem env_start{N:List Str}{G:Hp}{vs:List V}{l:List D}(dn:Dns K cl G vs l):EnvD K cl G (l.map some) (L2.start N vs):=fun i d h=>by
 rw [List.getElem?_map]at h
 cases e:l[i]? with
 |none=>rw [e]at h;cases h
 |some d'=>
  rw [e]at h
  cases h
  obtain⟨v,h2,h3⟩:=dn.get e
  exact⟨v,start_get h2,h3⟩
theorem def_x(L:Lw P w K mg base cl c Γ Δ k)(M:LwX P w K mg base cl Ξ ξ k){x qual:Str}{st:Stmt}{f:Addr}{fd:FuncData}{N ps:List Str}{n:Nat}{r:R}(F:Fun K x qual st f fd)(FS:FnScope N ps (defScope st))(loc:∀x∈N,(defScope st).names.lookup x=some .local∨(defScope st).names.lookup x=some .cell)
 (hc:cR c.cc ξ N (defScope st) n (defBody st)=r):FnOk P w K mg base (CXE P w) (k+1) f fd ps (spX K cl (gX Γ Ξ ps.length r)):=by
 obtain⟨oc,od,kV,doc,pm,an,cdv,ct,osl,rfl,lk,hcd⟩:=F.ex
 refine fn_of lk hcd FS (fun vs H Q E h=> ?_) fun A outer s H vs Q E hr h=> ?_
 ·obtain⟨G,l,y,C,sg,dn,hg,nC,q⟩:=h
  unfold gX at hg
  split at hg
  ·rename_i e;rw [dn.length];exact e
  ·cases hg
 ·obtain⟨G,l,y,C,sg,dn,hg,nC,q⟩:=h
  unfold gX at hg
  split at hg
  ·have SS:=L.sees (N:=N) (ps:=ps) (qual:=qual) (f:=f) (cdv:=cdv) (A:=A) (outer:=outer) (s:=s) (H:=H) (E:=E) FS loc hr
   have Z:XSees (cxOf (CXE P w) P w K mg base N qual (defScope st) f cdv A outer s H E) E cl c.cc Γ Ξ ξ N (defScope st):=⟨XOut.of,rfl,SS.S,SS.hΓ,fun x j e=>by
    obtain⟨g,hg,fa,fd,ps,F,r⟩:=M.fx x j e
    exact⟨g,hg,⟨k,fa,fd,ps,F,hr,r⟩⟩,M.own⟩
   subst hc
   exact⟨_,cR_ok Z n _,G,l.map some,y,C,sg,env_start dn,hg,nC,q⟩
  ·cases hg
end
noncomputable def lkS(kvs:List (Str×Int))(x:Str):Option Int:=(kvs.find? fun p=>decide (p.1=x)).map (·.2)
noncomputable def delS(kvs:List (Str×Int))(x:Str):List (Str×Int):=kvs.filter fun p=>decide (p.1≠x)
noncomputable def popAll:List (Str×Int)→List Str→Option (List Int)
 |_,[]=>some []
 |kvs,x::r=>(lkS kvs x).bind fun v=>(popAll (delS kvs x) r).map (v::·)
noncomputable def figS(i:Nat):Str:=Str.ofString (toString (i:Int))
noncomputable def tabS(n:Nat):List (Str×Int):=(List.range n).map fun(i:Nat)=>(figS i,(i:Int))
noncomputable def gRow:List D→Option T
 |[.lst l]=>(strsD l).bind fun xs=>if decide (xs.length≤100000)then(popAll (tabS xs.length) xs).map fun ns=> .ow (ns.map fun i=>T.sh (.int i))else none
 |_=>none
noncomputable def xRow:List D→Option Str
 |[.lst l]=>(strsD l).bind fun xs=>if decide (xs.length≤100000)&&(popAll (tabS xs.length) xs).isNone then some "BadText" else none
 |_=>none
noncomputable def dS(kvs:List (Str×Int)):List (Key×V):=kvs.map fun p=>(Sum.inr p.1,V.int p.2)
theorem valV_dS(x:Str):∀kvs:List (Str×Int),valV (dS kvs) (Sum.inr x)=(lkS kvs x).map V.int
 |[]=>rfl
 |p::r=>by
  show valV ((Sum.inr p.1,V.int p.2)::dS r) _=_
  unfold lkS
  by_cases e:p.1=x
  ·rw [valV_pos (by rw [e]),List.find?_cons,dtt e];rfl
  ·rw [valV_neg (fun z=>e (Sum.inr.inj z)),valV_dS x r,List.find?_cons,dff e];rfl
theorem delK_dS(x:Str)(kvs:List (Str×Int)):delK (dS kvs) (Sum.inr x)=dS (delS kvs x):=by
 unfold delK dS delS
 rw [List.filter_map]
 congr 1
 refine List.filter_congr fun p _=> ?_
 simp
noncomputable def mRow:E:=.comp (.tup (.cons (.un .stri (.var 0)) (.cons (.var 0) .nil))) [] (.rng (.un .len (.var 0))) .nil
noncomputable def tabD(n:Nat):List D:=(tabS n).map fun p=>D.tup [.str p.1,.int p.2]
theorem figS_inj{i j:Nat}(h:figS i=figS j):i=j:=by
 have h1:=W.KIN.signs_num i
 have h2:=W.KIN.signs_num j
 have:(Nat.toDigits 10 i).map Char.toNat=(Nat.toDigits 10 j).map Char.toNat:=by rw [←h1,←h2];exact congrArg (fun z:Str=>z.cps.toList) h
 rw [←W.KIN.val_back i,←W.KIN.val_back j,this]
theorem tabS_nodup(n:Nat):((dS (tabS n)).map (·.1)).Nodup:=by
 have e:(dS (tabS n)).map (·.1)=(List.range n).map fun i=>(Sum.inr (figS i):Key):=by
  unfold dS tabS
  simp
 rw [e]
 exact List.nodup_range.map _ fun i j ne z=>ne (figS_inj (Sum.inr.inj z))
theorem ev_mRow{Γ:Tab}{env:Env}{xs:List Str}(h0:(env[0]?).join=some (.lst (xs.map D.str)))(hl:xs.length≤100000):ev Γ mRow env=some (.lst (tabD xs.length)):=by
 have go:∀l:List Nat,(∀i∈l,i<1000000)→compR (fun d=>(cS .nil (ev Γ .nil (inner env [] d))).bind fun b=>if b then(ev Γ (.tup (.cons (.un .stri (.var 0)) (.cons (.var 0) .nil))) (inner env [] d)).map some else some none) (l.map fun(i:Nat)=>D.int (0+(i:Int)))=some (l.map fun i=>D.tup [.str (figS i),.int i]):=by
  intro l
  induction l with
  |nil=>intro _;rfl
  |cons i l ih=>
   intro h
   have hi:((0:Int)+(i:Int))=(i:Int):=by lia
   have h1:ev Γ (.tup (.cons (.un .stri (.var 0)) (.cons (.var 0) .nil))) (inner env [] (D.int (0+(i:Int))))=some (.tup [.str (figS i),.int i]):=by
    have h2:unD .stri (.int (i:Int))=some (.str (figS i)):=by
     rw [un_stri,if_pos (dtt ⟨by lia,by have:=h i (List.mem_cons_self ..);lia⟩)];rfl
    have h3:((inner env [] (D.int (i:Int)))[0]?).join=some (.int i):=rfl
    rw [hi,ev_tup,ev_cons,ev_un,ev_var,h3,obs,h2,obs,ev_cons,ev_var,h3,obs,ev_nil,obs,consD_lst,obs,consD_lst,obs,szT_lst,if_pos (sz_of (by show 2≤1000000;decide))]
   rw [List.map_cons,List.map_cons]
   unfold compR
   rw [cS_nil,obs,if_pos rfl,h1,Option.map_some,obs,ih fun j hj=>h j (List.mem_cons_of_mem _ hj),Option.map_some]
   rfl
 have e1:ev Γ (.rng (.un .len (.var 0))) env=some (.lst ((List.range xs.length).map fun(i:Nat)=>D.int (0+(i:Int)))):=by
  rw [ev_rng,ev_un,ev_var,h0,obs,len_lst,obs,rng2D_ii,List.length_map]
  unfold rngD
  rw [if_pos (dtt ⟨by decide,by decide,by lia,by lia⟩),show((xs.length:Int)-0).toNat=xs.length by lia]
  rfl
 unfold mRow
 rw [ev_comp,e1,obs,walkD_lst,obs,if_pos,go _ (fun i hi=>by have:=List.mem_range.mp hi;lia)]
 ·unfold tabD tabS
  simp
 ·rw [List.length_map,List.length_range];unfold sz;simp;lia
section
variable{K:W.Frag}{cl:Nat→Option Addr}{G H:Hp}
theorem tab_pairs(sg:Same G H):∀(kvs:List (Str×Int)) {xs:List V},Dns K cl G xs (kvs.map fun p=>D.tup [.str p.1,.int p.2])→Paired (KT H) xs (dS kvs)
 |[],_,.nil=> .nil
 |p::r,_,.cons (.tup h hs) t=>by
  refine .cons ⟨_,rfl,.inl ?_⟩ (tab_pairs sg r t)
  cases hs with|cons a b=>cases b with|cons b c=>cases a;cases b;cases c;exact sg _ _ h
end
noncomputable abbrev NR:List Str:=["parts","numbers","row","part"]
noncomputable def popE(a1 a2 a3 a4 a5 a6 a7:Pos):Expr:=.Call (.Attribute (.Name "row" a1) "append" a2) [.Call (.Attribute (.Name "numbers" a3) "pop" a4) [.Name "part" a5] [] a6] [] a7
structure RSt(a q r:Addr)(σ:L2.St):Prop where
 len:σ.length=4
 s0:σ[0]?=some (some (.ref a))
 s1:σ[1]?=some (some (.ref q))
 s2:σ[2]?=some (some (.ref r))
theorem RSt.put{a q r:Addr}{σ:L2.St}(h:RSt a q r σ)(v:V):RSt a q r (σ.set 3 (some v))∧(σ.set 3 (some v))[3]?=some (some v):=
 ⟨⟨by rw [List.length_set];exact h.len,by rw [List.getElem?_set_ne (by decide)];exact h.s0,by rw [List.getElem?_set_ne (by decide)];exact h.s1,by rw [List.getElem?_set_ne (by decide)];exact h.s2⟩,by rw [List.getElem?_set_self (by rw [h.len];decide)]⟩
section
variable{X:Cx}{a1 a2 a3 a4 a5 a6 a7:Pos}
theorem pe_popOk(h1:∀p,PE X (.Name "numbers" p) (tVar 1))(h2:∀p,PE X (.Name "row" p) (tVar 2))(h3:∀p,PE X (.Name "part" p) (tVar 3))(b1:(a2.endLine==a7.line)=true)(b2:(a4.endLine==a6.line)=true):
 PE X (popE a1 a2 a3 a4 a5 a6 a7) (fun σ H Q=>∃a q r x kvs v l,RSt a q r σ∧σ[3]?=some (some (.str x))∧H q=some (.dK kvs)∧valV kvs (Sum.inr x)=some v∧H r=some (.lst l)∧l.length<sizeLine∧Q .non (upd (upd H q (.dK (delK kvs (Sum.inr x)))) r (.lst (l++[v])))):=by
 refine peI (pe_bm PySem.F.plainAttrs_list PySem.F.slot_list_append PySem.F.type_list_append mt_append (h2 a1) (pa_cons (pe_bm PySem.F.plainAttrs_dict PySem.F.slot_dict_pop PySem.F.type_dict_pop mt_popD (h1 a3) (pa_cons (h3 a5) pa_nil) rfl rfl b2) pa_nil) rfl rfl b1) fun σ H Q ⟨a,q,r,x,kvs,v,l,st,s3,hq,hv,hr,hl,z⟩=> ?_
 have ne:r≠q:=fun e=>by rw [e,hq]at hr;cases hr
 refine⟨.ref r,st.s2,.inl ⟨rfl,l,.inl (.inl hr)⟩,.ref q,st.s1,.inr (.inr (.inl ⟨rfl,.inl ⟨kvs,hq⟩⟩)),.str x,s3,q,x,kvs,v,rfl,rfl,hq,hv,r,l,v,rfl,rfl,by rw [upd_ne ne];exact hr,hl,z⟩
theorem pe_popNo{H0:Hp}(hx:X.ex=[])(hc:X.calm=true)(h1:∀p,PE (X.wish (XKey X H0)) (.Name "numbers" p) (tVar 1))(h2:∀p,PE (X.wish (XKey X H0)) (.Name "row" p) (tVar 2))(h3:∀p,PE (X.wish (XKey X H0)) (.Name "part" p) (tVar 3))(b1:(a2.endLine==a7.line)=true)(b2:(a4.endLine==a6.line)=true):
 PE (X.wish (XKey X H0)) (popE a1 a2 a3 a4 a5 a6 a7) (fun σ H Q=>∃a q r x kvs l,RSt a q r σ∧σ[3]?=some (some (.str x))∧H q=some (.dK kvs)∧valV kvs (Sum.inr x)=none∧H r=some (.lst l)∧Same H0 H):=by
 refine peI (pe_bm PySem.F.plainAttrs_list PySem.F.slot_list_append PySem.F.type_list_append mt_append (h2 a1) (pa_cons (pe_bm PySem.F.plainAttrs_dict PySem.F.slot_dict_pop PySem.F.type_dict_pop (mt_popX hx hc) (h1 a3) (pa_cons (h3 a5) pa_nil) rfl rfl b2) pa_nil) rfl rfl b1) fun σ H Q ⟨a,q,r,x,kvs,l,st,s3,hq,hv,hr,sh⟩=> ?_
 exact⟨.ref r,st.s2,.inl ⟨rfl,l,.inl (.inl hr)⟩,.ref q,st.s1,.inr (.inr (.inl ⟨rfl,.inl ⟨kvs,hq⟩⟩)),.str x,s3,q,x,kvs,rfl,rfl,hq,hv,sh⟩
end
noncomputable def keyH(P:Nat→Pos)(w:Str)(aj cj:Nat):ExceptHandler:=.ExceptHandler (some (.Name "KeyError" (P 0))) none [.Raise (some (.Call (.Name "BadText" (P 1)) [.Constant (.str w) aj (P 2)] [] (P 3))) (some (.Constant .none cj (P 4))) (P 5)] (P 6)
noncomputable def tryB(P:Nat→Pos)(w:Str)(aj cj:Nat):Stmt:=.Try [.Expr (popE (P 7) (P 8) (P 9) (P 10) (P 11) (P 12) (P 13)) (P 14)] [keyH P w aj cj] [] [] (P 15)
noncomputable def rowB(P:Nat→Pos)(ce:Expr)(w:Str)(aj cj:Nat):List Stmt:=
 [.Assign [.Name "numbers" (P 16)] (.Call (.Name "dict" (P 17)) [ce] [] (P 18)) (P 19),.Assign [.Name "row" (P 20)] (.List [] (P 21)) (P 22),
  .For (.Name "part" (P 23)) (.Name "parts" (P 24)) [tryB P w aj cj] [] (P 25),.Return (some (.Name "row" (P 26))) (P 27)]
theorem bt_dict:bootBuiltins "dict"=some (.type "dict"):=by decide+kernel
section
variable{X:Cx}{cl:Nat→Option Addr}{Γ:Tab}{P:Nat→Pos}{ce:Expr}{w:Str}{aj cj:Nat}
theorem row_body(hN:X.N=NR)(loc:∀x∈NR,X.env.scope.names.lookup x=some .local)(hfn:∀x,X.fn x=true)(hgd:Gl X "dict")(hmd:X.mg "dict"=none)(calm:X.calm=true)(hp:PassesOwn (model X.prog X.w) X.A X.env X.xe)(hce:PE X ce (tF X.K cl Γ mRow))(oce:okE ce=true){tb:TS}(hb:PSs X [tryB P w aj cj] tb):
 PSs X (rowB P ce w aj cj) (fun En σ H=>∃(G:Hp) (a:Addr) (xs:List Str),Same G H∧σ=[some (.ref a),none,none,none]∧Dn X.K cl G (.ref a) (.lst (xs.map D.str))∧xs.length≤100000∧
  ∀q r H3 σ3,Same H H3→H q=none→H r=none→q≠r→H3 q=some (.dK (dS (tabS xs.length)))→H3 r=some (.lst [])→RSt a q r σ3→
   ∃Pv:Nat→L2.St→Hp→Prop,Pv 0 σ3 H3∧(∀i σ H',Pv i σ H'→Same H H')∧(∀i x σ H' D',xs[i]?=some x→Pv i σ H'→D'.nx=Pv (i+1)→tb D' (σ.set 3 (some (.str x))) H')∧∀σ H',Pv xs.length σ H'→∃v,σ[2]?=some (some v)∧En.rt v H'):=by
 have nd:X.N.Nodup:=by rw [hN];decide
 have pv:∀(i:Nat) (x:Str),NR[i]?=some x→(x==("__debug__":Str))=false→(x==("__classdict__":Str))=false→∀p,PE X (.Name x p) (tVar i):=fun i x hx d1 d2 p=>pe_var (by rw [hN];exact hx) (.inl (loc x (List.mem_of_getElem? hx))) d1 d2
 have lc:∀x∈NR,Loc X.env.scope x:=fun x hx=> .inl (loc x hx)
 refine pssI (pss_cons (ps_set (i:=1) nd (by rw [hN];rfl) (lc _ (by decide)) (pe_callTy (call_dict calm) hgd hmd bt_dict (pa_cons hce pa_nil (star_of oce _ _)) (by decide) (by decide) (star_of oce _ _) rfl) rfl (.inl (hfn _)))
  (pss_cons (ps_set (i:=2) nd (by rw [hN];rfl) (lc _ (by decide)) (pe_lst pa_nil) rfl (.inl (hfn _)))
  (pss_cons (ps_for hp calm (pi_list (pv 0 "parts" rfl rfl rfl (P 24))) (pg_name (i:=3) nd (by rw [hN];rfl) (lc _ (by decide)) (.inl (hfn _))) hb) (pss_one (ps_ret (pv 2 "row" rfl rfl rfl (P 26))))))) fun En σ H ⟨G,a,xs,sg,es,dn,hl,z⟩=> ?_
 subst es
 have en:EnvD X.K cl G [some (.lst (xs.map D.str)),none,none,none] [some (.ref a),none,none,none]:=by
  intro i d h
  match i,h with
  |0,h=>cases h;exact⟨_,rfl,dn⟩
  |1,h=>cases h
  |2,h=>cases h
  |3,h=>cases h
 refine⟨G,_,tabD xs.length,sg,en,ev_mRow rfl hl,fun p ts H1 G1 x1 hp0 hg1 h1 dts=> ?_⟩
 refine⟨p,ts,dS (tabS xs.length),rfl,.inl h1,tab_pairs x1.gh _ dts,tabS_nodup _,fun q hq=> ?_⟩
 refine⟨by show 0≤sizeLine;exact Nat.zero_le _,fun r hr=> ?_⟩
 have nqr:q≠r:=ne_of_none upd_same hr
 have hr1:H1 r=none:=by have:=hr;rw [upd_ne (Ne.symm nqr)]at this;exact this
 have s3:Same H (upd (upd H1 q (.dK (dS (tabS xs.length)))) r (.lst [])):=(x1.hh.trans (same_upd hq _)).trans (same_upd hr _)
 obtain⟨Pv,p0,pk,pt,pe⟩:=z q r _ [some (.ref a),some (.ref q),some (.ref r),none] s3 (x1.hh.free hq) (x1.hh.free hr1) nqr (by rw [upd_ne nqr];exact upd_same) upd_same ⟨rfl,rfl,rfl,rfl⟩
 have lst:∀H',Same H H'→SqL X.K H' a (xs.map V.str):=fun H' sh=>by
  cases dn with|lst h1 h2=>
   have e2:=h2.strs
   subst e2
   exact(rl_mono (sg.trans sh) h1).sql
 refine⟨.ref a,rfl,a,rfl,⟨_,lst _ s3⟩,for_list (xs:=xs.map V.str) Pv p0 (fun i σ H' _ h=>lst _ (pk i σ H' h)) (fun i x σ H' hx h=> ?_) (fun σ H' h=> ?_)⟩
 ·rw [List.getElem?_map]at hx
  obtain⟨y,hy,rfl⟩:=msi hx
  exact pt i y σ H' _ hy h rfl
 ·rw [List.length_map]at h
  exact pe σ H' h
end
structure RowS(K:W.Frag)(c:CS)(st:Stmt)(f:Addr)(fd:FuncData):Prop where
 F:Fun K "row_of_figures" "row_of_figures" st f fd
 S:FnScope NR ["parts"] (defScope st)
 loc:∀x∈NR,(defScope st).names.lookup x=some .local
 gl:∀x∈(["dict","KeyError","BadText"]:List Str),(defScope st).names.lookup x=some .globalImplicit
 body:∃P ce w aj cj n,defBody st=rowB P ce w aj cj∧cE c.cc n true NR (defScope st) ce=some mRow∧okE ce=true∧((P 8).endLine==(P 13).line)=true∧((P 10).endLine==(P 12).line)=true
theorem same_two{H H':Hp}{q r:Addr}{o u:HO}(s:Same H H')(hq:H q=none)(hr:H r=none):Same H (upd (upd H' q o) r u):=fun b z h=>by
 rw [upd_ne (fun e=>by rw [e,hr]at h;cases h),upd_ne (fun e=>by rw [e,hq]at h;cases h)]
 exact s b z h
structure RI(H:Hp)(a q r:Addr)(i:Nat)(kvs:List (Str×Int))(acc:List Int)(σ:L2.St)(H':Hp):Prop where
 st:RSt a q r σ
 same:Same H H'
 hq:H' q=some (.dK (dS kvs))
 hr:H' r=some (.lst (acc.map V.int))
 len:acc.length=i
theorem RI.turn{H H':Hp}{a q r:Addr}{i:Nat}{kvs:List (Str×Int)}{acc:List Int}{σ:L2.St}{x:Str}{v:Int}(h:RI H a q r i kvs acc σ H')(q0:H q=none)(r0:H r=none)(nqr:q≠r):
 RI H a q r (i+1) (delS kvs x) (acc++[v]) (σ.set 3 (some (.str x))) (upd (upd H' q (.dK (delK (dS kvs) (Sum.inr x)))) r (.lst (acc.map V.int++[V.int v]))):=
 ⟨(h.st.put _).1,same_two h.same q0 r0,by rw [upd_ne nqr,delK_dS];exact upd_same,by rw [List.map_append];exact upd_same,by rw [List.length_append,h.len];rfl⟩
theorem popAll_cons{kvs:List (Str×Int)}{x:Str}{r:List Str}:popAll kvs (x::r)=(lkS kvs x).bind fun v=>(popAll (delS kvs x) r).map (v::·):=rfl
theorem drop_at{α:Type}{l:List α}{i:Nat}{x:α}(h:l[i]?=some x):l.drop i=x::l.drop (i+1):=by
 obtain⟨hl,rfl⟩:=List.getElem?_eq_some_iff.mp h
 exact List.drop_eq_getElem_cons hl
section
variable{P:Program}{w:World}{K:W.Frag}{mg:Str→Option Value}{base:Heap}{cl:Nat→Option Addr}{c:CS}{Γ:Tab}{Δ:IOT}{Ξ:XT}{ξ:List (Str×Nat)}{k:Nat}{st:Stmt}{f:Addr}{fd:FuncData}
theorem dns_ts{G H:Hp}:∀l:List Int,OTs K cl G H (l.map V.int) (l.map fun i=>T.sh (.int i)) []
 |[]=> .nil
 |i::l=> .cons (A:=[]) (B:=[]) (.sh (.int i)) (dns_ts l)
theorem def_row(L:Lw P w K mg base cl c Γ Δ k)(W:RowS K c st f fd)(hmd:mg "dict"=none):FnOk P w K mg base CX0 (k+1) f fd ["parts"] (spP K cl gRow):=by
 refine W.F.ok W.S (fun vs H Q E h=> ?_) (fun cdv A outer s H vs Q E hr h=> ?_)
 ·obtain⟨G,ds,t,sg,dn,hg,q⟩:=h
  unfold gRow at hg
  split at hg
  ·exact dn.length
  ·cases hg
 ·obtain⟨G,ds,t,sg,dn,hg,z⟩:=h
  unfold gRow at hg
  split at hg
  ·rename_i l
   obtain⟨xs,e1,hg2⟩:=bsi hg
   clear hg
   have e1:=strsD_eq e1
   subst e1
   split at hg2
   ·rename_i hl
    have hl:=odt hl
    obtain⟨ns,en,rfl⟩:=msi hg2
    obtain⟨v,rfl,dv⟩:=dn.one
    obtain⟨Q',ce,w',aj,cj,n,hb,hce,oce,b1,b2⟩:=W.body
    rw [hb]
    have SS:=L.sees (N:=NR) (ps:=["parts"]) (qual:="row_of_figures") (f:=f) (cdv:=cdv) (A:=A) (outer:=outer) (s:=s) (H:=H) (E:=E) W.S (fun x hx=> .inl (W.loc x hx)) hr
    have pv:∀(i:Nat) (x:Str),NR[i]?=some x→(x==("__debug__":Str))=false→(x==("__classdict__":Str))=false→∀p,PE (cxOf CX0 P w K mg base NR "row_of_figures" (defScope st) f cdv A outer s H E).nox (.Name x p) (tVar i):=
     fun i x hx d1 d2 p=>pe_var hx (.inl (W.loc x (List.mem_of_getElem? hx))) d1 d2
    have tr:PSs (cxOf CX0 P w K mg base NR "row_of_figures" (defScope st) f cdv A outer s H E).nox [tryB Q' w' aj cj] _:=pss_one (ps_try_ok (pss_one (ps_expr (pe_popOk (pv 1 "numbers" rfl rfl rfl) (pv 2 "row" rfl rfl rfl) (pv 3 "part" rfl rfl rfl) b1 b2) rfl)))
    refine⟨_,row_body (X:=(cxOf CX0 P w K mg base NR "row_of_figures" (defScope st) f cdv A outer s H E).nox) (cl:=cl) (Γ:=Γ) rfl W.loc (fun _=>rfl) (W.gl "dict" (by decide)) hmd rfl PassesOwn.never (cF_ok SS.hΓ SS.S hce rfl) oce tr,?_⟩
    cases dv with| @lst a vs' _ h1 h2=>
    refine⟨G,a,xs,sg,rfl,.lst h1 h2,hl,fun q r H3 σ3 s3 q0 r0 nqr hq3 hr3 st3=> ?_⟩
    refine⟨fun i σ H'=>∃kvs acc rest,RI H a q r i kvs acc σ H'∧popAll kvs (xs.drop i)=some rest∧acc++rest=ns,⟨_,[],ns,⟨st3,s3,hq3,hr3,rfl⟩,en,rfl⟩,fun i σ H' ⟨_,_,_,I,_⟩=>I.same,fun i x σ H' D' hx ⟨kvs,acc,rest,I,hp,ha⟩ hD=> ?_,fun σ H' ⟨kvs,acc,rest,I,hp,ha⟩=> ?_⟩
    ·rw [drop_at hx,popAll_cons]at hp
     obtain⟨v,hv,hp⟩:=bsi hp
     obtain⟨r2,hp2,rfl⟩:=msi hp
     have hi:=(List.getElem?_eq_some_iff.mp hx).1
     refine⟨a,q,r,x,dS kvs,.int v,acc.map V.int,(I.st.put _).1,(I.st.put _).2,I.hq,by rw [valV_dS,hv];rfl,I.hr,by rw [List.length_map,I.len,sizeLine_eq];lia,?_⟩
     rw [hD]
     exact⟨_,_,r2,I.turn q0 r0 nqr,hp2,by rw [←ha,List.append_assoc,List.singleton_append]⟩
    ·rw [List.drop_length]at hp
     have hp':some []=some rest:=hp
     cases hp'
     rw [List.append_nil]at ha
     subst ha
     refine⟨.ref r,I.st.s2,z (.ref r) H' G [r] ⟨I.same,.refl _,sg.trans I.same,fun b o g1 g2=>by rw [g1]at g2;cases g2⟩ (.ow I.hr (sg.free r0) (dns_ts _)) (by simp) fun b hb=> ?_⟩
     rw [show b=r by simpa using hb]
     exact r0
   ·cases hg2
  ·cases hg
theorem def_rowX(L:Lw P w K mg base cl c Γ Δ k)(M:LwX P w K mg base cl Ξ ξ k)(W:RowS K c st f fd)(hmd:mg "dict"=none)(hmk:mg "KeyError"=none):FnOk P w K mg base (CXE P w) (k+1) f fd ["parts"] (spX K cl xRow):=by
 obtain⟨oc,od,kV,doc,pm,an,cdv,ct,osl,rfl,lk,hcd⟩:=W.F.ex
 refine fn_of lk hcd W.S (fun vs H Q E h=> ?_) fun A outer s H vs Q E hr h=> ?_
 ·obtain⟨G,l,y,C,sg,dn,hg,nC,q⟩:=h
  unfold xRow at hg
  split at hg
  ·exact dn.length
  ·cases hg
 ·obtain⟨G,ds,y,C,sg,dn,hg,nC,z⟩:=h
  unfold xRow at hg
  split at hg
  ·rename_i l
   obtain⟨xs,e1,hg2⟩:=bsi hg
   clear hg
   have e1:=strsD_eq e1
   subst e1
   split at hg2
   ·rename_i hl
    obtain⟨hl,hno⟩:=bae hl
    have hl:=odt hl
    have hno:popAll (tabS xs.length) xs=none:=by simpa using hno
    cases hg2
    obtain⟨v,rfl,dv⟩:=dn.one
    obtain⟨C',G',nC'⟩:=M.own "BadText" (by decide)
    rw [nC]at nC'
    cases nC'
    obtain⟨Q',ce,w',aj,cj,n,hb,hce,oce,b1,b2⟩:=W.body
    rw [hb]
    have SS:=L.sees (N:=NR) (ps:=["parts"]) (qual:="row_of_figures") (f:=f) (cdv:=cdv) (A:=A) (outer:=outer) (s:=s) (H:=H) (E:=E) W.S (fun x hx=> .inl (W.loc x hx)) hr
    have pv:∀(Y:Cx),Y.N=NR→Y.env.scope=defScope st→∀(i:Nat) (x:Str),NR[i]?=some x→(x==("__debug__":Str))=false→(x==("__classdict__":Str))=false→∀p,PE Y (.Name x p) (tVar i):=
     fun Y h1 h2 i x hx d1 d2 p=>pe_var (by rw [h1];exact hx) (by rw [h2];exact .inl (W.loc x (List.mem_of_getElem? hx))) d1 d2
    have tr:PSs (cxOf (CXE P w) P w K mg base NR "row_of_figures" (defScope st) f cdv A outer s H E) [tryB Q' w' aj cj] _:=pss_one (ps_or
     (ps_try_ok (pss_one (ps_expr (pe_popOk (pv _ rfl rfl 1 "numbers" rfl rfl rfl) (pv _ rfl rfl 2 "row" rfl rfl rfl) (pv _ rfl rfl 3 "part" rfl rfl rfl) b1 b2) rfl)))
     (ps_try_key (E:=E) XOut.of (fun k=>PassesOwnAt.leaving) G' PySem.F.excBase_ValueError (W.gl "BadText" (by decide)) (W.gl "KeyError" (by decide)) hmk (fun H0=>pss_one (ps_expr (pe_popNo (H0:=H0) rfl rfl (pv _ rfl rfl 1 "numbers" rfl rfl rfl) (pv _ rfl rfl 2 "row" rfl rfl rfl) (pv _ rfl rfl 3 "part" rfl rfl rfl) b1 b2) rfl))))
    refine⟨_,row_body (X:=cxOf (CXE P w) P w K mg base NR "row_of_figures" (defScope st) f cdv A outer s H E) (cl:=cl) (Γ:=Γ) rfl W.loc (fun _=>rfl) (W.gl "dict" (by decide)) hmd rfl PassesOwn.leaving (PE.nox (X:=cxOf (CXE P w) P w K mg base NR "row_of_figures" (defScope st) f cdv A outer s H E) (cF_ok SS.hΓ SS.S hce rfl)) oce tr,?_⟩
    cases dv with| @lst a vs' _ h1 h2=>
    refine⟨G,a,xs,sg,rfl,.lst h1 h2,hl,fun q r H3 σ3 s3 q0 r0 nqr hq3 hr3 st3=> ?_⟩
    refine⟨fun i σ H'=>∃kvs acc,RI H a q r i kvs acc σ H'∧popAll kvs (xs.drop i)=none,⟨_,[],⟨st3,s3,hq3,hr3,rfl⟩,hno⟩,fun i σ H' ⟨_,_,I,_⟩=>I.same,fun i x σ H' D' hx ⟨kvs,acc,I,hp⟩ hD=> ?_,fun σ H' ⟨kvs,acc,I,hp⟩=> ?_⟩
    ·rw [drop_at hx,popAll_cons]at hp
     have hi:=(List.getElem?_eq_some_iff.mp hx).1
     cases hv:lkS kvs x with
     |some v=>
      rw [hv]at hp
      have hp:(popAll (delS kvs x) (xs.drop (i+1))).map (v::·)=none:=hp
      refine .inl ⟨a,q,r,x,dS kvs,.int v,acc.map V.int,(I.st.put _).1,(I.st.put _).2,I.hq,by rw [valV_dS,hv];rfl,I.hr,by rw [List.length_map,I.len,sizeLine_eq];lia,?_⟩
      rw [hD]
      exact⟨_,_,I.turn q0 r0 nqr,by simpa using hp⟩
     |none=>
      exact .inr ⟨⟨a,q,r,x,dS kvs,acc.map V.int,(I.st.put _).1,(I.st.put _).2,I.hq,by rw [valV_dS,hv];rfl,I.hr,.refl _⟩,fun H'' s''=>z H'' (I.same.trans s'')⟩
    ·rw [List.drop_length]at hp
     cases hp
   ·cases hg2
  ·cases hg
end
structure XKn(K:W.Frag)(mg:Str→Option Value):Prop where
 cls:∀x∈XN,∃C,W.nsIn K mainGlobals x=some (some (.ref C))∧mg x=some (.ref C)∧XCls K C
 sub:∀x∈XN,∀t∈XN,∀C J,W.nsIn K mainGlobals x=some (some (.ref C))→W.nsIn K mainGlobals t=some (some (.ref J))→W.kitOne K (.ref C) (.ref J)=some (x==t)
 val:∀x∈XN,∀C,W.nsIn K mainGlobals x=some (some (.ref C))→W.kitOne K (.ref C) (.type "ValueError")=some true
 ord:∃O,mg "OrderError"=some (.ref O)∧∀x∈XN,∀C,W.nsIn K mainGlobals x=some (some (.ref C))→W.exmOne K (.ref C) (.ref O)=some true
theorem xn_db(t:Str)(h:t∈XN):(t==("__debug__":Str))=false:=by
 revert h
 revert t
 decide
theorem call_isy{X:Cx}:CallR X (.builtin "isinstance") (fun xs H Q=>∃a C φ w u b,xs=[.ref a,w]∧(∀u',RelV w u'→u'=u)∧XCls X.K C∧H a=some (.ext φ)∧(∀h,φ h→excAt a (.ref C) h)∧W.kitOne X.K (.ref C) u=some b∧Q (.bl b) H):=by
 intro pins s σ H xs us Q I r h
 obtain⟨a,C,φ,w,u,b,rfl,hu,c,ha,hφ,e,q⟩:=h
 obtain⟨u1,u2,rfl,r1,r2⟩:=r.two
 cases (show u1=Value.ref a from r1)
 rw [hu u2 r2]
 obtain⟨ox,J⟩:=(hφ _ (show ObjOk X.prog X.w H s.heap a (.ext φ)from I.hok a _ ha).1).inst
 exact W.kia_one (kitx_exc c) I.kIn J e (fun z=>nomatch z) fun tk=>⟨.bl b,H,I.tok _,rfl,q⟩
theorem _root_.L2.Held.upd{H:Hp}{e p:Addr}{cls:Value}{cx:Option Addr}{o:HO}(h:Held H e cls cx)(hp:H p=none):Held (L2.upd H p o) e cls cx:=
 ⟨by rw [upd_ne (ne_of_none h.1 hp)];exact h.1,fun k z=>⟨(h.2 k z).1,by rw [upd_ne (ne_of_none (h.2 k z).2 hp)];exact(h.2 k z).2⟩⟩
noncomputable abbrev NF:List Str:=["_law_text","error","_law_others"]
section
variable{X:Cx}{a C:Addr}{cx:Option Addr}{cl:Nat→Option Addr}{st:Stmt}{f:Addr}{fd:FuncData}{k:Nat}
noncomputable def eB(t:Str)(P:Nat→Pos)(k:Nat):Expr:=.Call (.Name "isinstance" (P (4*k))) [.Name "error" (P (4*k+1)),.Name t (P (4*k+2))] [] (P (4*k+3))
noncomputable def refB(P:Nat→Pos):List Stmt:=
 [.Assign [.Name "_law_others" (P 24)] (.List [eB "BadNumber" P 0,eB "BadRings" P 1,eB "BadRow" P 2] (P 25)) (P 26),
  .Assign [.Name "_law_others" (P 27)] (.BinOp (.Name "_law_others" (P 28)) .Add (.List [eB "Unlike" P 3,.UnaryOp .Not (eB "ValueError" P 4) (P 29)] (P 30)) (P 31)) (P 32),
  .Return (some (.BoolOp .And [eB "BadText" P 5,.UnaryOp .Not (.Call (.Name "any" (P 33)) [.Name "_law_others" (P 34)] [] (P 35)) (P 36)] (P 37))) (P 38)]
theorem ref_suite{P:Nat→Pos}(hh:X.A.handled=some (.ref a))(h1:∀p,PE X (.Name "error" p) (tVar 1))(h2:∀p,PE X (.Name "_law_others" p) (tVar 2))(hN:X.N.Nodup)(hi:X.N[2]?=some ("_law_others":Str))(hl:Loc X.env.scope "_law_others")(hfn:X.fn "_law_others"=true)
 (hg:Gl X "isinstance")(hm:X.mg "isinstance"=none)(hga:Gl X "any")(hma:X.mg "any"=none)(c:XCls X.K C)(ht:∀t∈XN,∃J,(∀p,PE X (.Name t p) (tC (.ref J)))∧W.kitOne X.K (.ref C) (.ref J)=some (("BadText":Str)==t))(hv:∀p,PE X (.Name "ValueError" p) (tC (.ty "ValueError")))(kv:W.kitOne X.K (.ref C) (.type "ValueError")=some true):
 PSs X (refB P) (fun En σ H=>σ[1]?=some (some (.ref a))∧2<σ.length∧Held H a (.ref C) cx∧∀H',Same H H'→En.rt (.bl true) H'):=by
 have is:∀t∈XN,∀k,PE X (eB t P k) (fun σ H Q=>σ[1]?=some (some (.ref a))∧Held H a (.ref C) cx∧Q (.bl (("BadText":Str)==t)) H):=fun t tm k=>by
  obtain⟨J,j1,j2⟩:=ht t tm
  exact peI (pe_callB call_isy hg hm bt_isinstance (pa_cons (h1 _) (pa_cons (j1 _) pa_nil))) fun σ H Q ⟨z1,z2,q⟩=>⟨.ref a,z1,a,C,_,_,_,_,rfl,fun u' r=>r,c,z2.1,fun h x=>x.at,j2,q⟩
 have iv:PE X (eB "ValueError" P 4) (fun σ H Q=>σ[1]?=some (some (.ref a))∧Held H a (.ref C) cx∧Q (.bl true) H):=peI (pe_callB call_isy hg hm bt_isinstance (pa_cons (h1 _) (pa_cons (hv _) pa_nil))) fun σ H Q ⟨z1,z2,q⟩=>⟨.ref a,z1,a,C,_,_,_,_,rfl,fun u' r=>r,c,z2.1,fun h x=>x.at,kv,q⟩
 refine pssI (pss_cons (ps_set (i:=2) hN hi hl (pe_lst (pa_cons (is "BadNumber" (by decide) 0) (pa_cons (is "BadRings" (by decide) 1) (pa_cons (is "BadRow" (by decide) 2) pa_nil)))) rfl (.inl hfn))
  (pss_cons (ps_set (i:=2) hN hi hl (pe_op op_catR (h2 _) (pe_lst (pa_cons (is "Unlike" (by decide) 3) (pa_cons (pe_not iv) pa_nil)))) rfl (.inl hfn))
  (pss_one (ps_ret (pe_and (is "BadText" (by decide) 5) (pe_one (pe_not (pe_callB (call_anyH (cls:=.ref C) (o:=cx) hh) hga hma bt_any (pa_cons (h2 _) pa_nil))))))))) fun En σ H ⟨s0,sl,ha,q⟩=> ?_
 refine⟨s0,ha,s0,ha,s0,ha,by show 3≤sizeLine;decide,fun p hp=> ?_⟩
 have s1:(σ.set 2 (some (.ref p)))[1]?=some (some (.ref a)):=by rw [List.getElem?_set_ne (by decide)];exact s0
 have ha1:=ha.upd (o:=.lst [.bl false,.bl false,.bl false]) hp
 refine⟨.ref p,by rw [List.getElem?_set_self sl],s1,ha1,s1,ha1,true,rfl,by show 2≤sizeLine;decide,fun r hr=> ?_⟩
 have npr:p≠r:=ne_of_none (upd_same (H:=H) (a:=p)) hr
 refine⟨p,r,_,_,rfl,rfl,.inl (.inl (by rw [upd_ne npr];exact upd_same)),.inl (.inl upd_same),by show 5≤sizeLine;decide,fun u hu=> ?_⟩
 have ha2:=(ha1.upd (o:=.lst [.bl false,.bl false]) hr).upd (o:=.lst [.bl false,.bl false,.bl false,.bl false,.bl false]) hu
 have s2:((σ.set 2 (some (.ref p))).set 2 (some (.ref u)))[1]?=some (some (.ref a)):=by rw [List.getElem?_set_ne (by decide)];exact s1
 refine⟨s2,ha2,true,rfl,?_⟩
 refine⟨.ref u,by rw [List.getElem?_set_self (by rw [List.length_set];exact sl)],u,[false,false,false,false,false],rfl,.inl (.inl upd_same),ha2,false,rfl,q _ ?_⟩
 exact((same_up hp).trans (same_up hr)).trans (same_up hu)
theorem try_call{pins:List (Addr×Obj)}{σ:L2.St}{H:Hp}{s:Shared}{E:XK}{xe:Value→Shared→Prop}{Q:Value→Shared→Prop}{g:List D→Option Str}{fa:Addr}{fdx:FuncData}{ps:List Str}{j:Nat}{x:Str}{p pos:Pos}{e:Expr}{es:List Expr}{vs0:List V}{tn:TE}{ta:TA}
 (F:FnOk X.prog X.w X.K X.mg X.base (CXE X.prog X.w) j fa fdx ps (spX X.K cl g))(hr:Room j X.A)(kp:W.keepIn X.K (.ref fa)=true)(hb:Binds X.K fdx ps [])(I:Inv X pins σ H s)
 (hn:∀xe,PE (X.wish xe) (.Name x p) tn)(hn':∀Q:VK,Q (.ref fa) H→tn σ H Q)(ha:∀xe,PA (X.wish xe) (e::es) ta)(ha':∀Q:List V→Hp→Prop,Q vs0 H→ta σ H Q)(h:spX X.K cl g vs0 H (fun _ _=>False) E)
 (hx:∀s1 e s',Inv X pins σ H s1→XEnd X.prog X.w X.stack H s1 E e s'→xe e s')
 (he:starEach (e::es) X.env=(false,eval e X.env)::starEach es X.env:=by rfl)(hpl:(backTo pos (starEach es X.env)).any (·.1)=false:=by rfl):
 wpAny (model X.prog X.w) X.A (eval (.Call (.Name x p) (e::es) [] pos) X.env) Q xe s:=by
 refine wpAny_Call_Name_kw (thn (hn xe pins s σ H (fun v H1=>v=.ref fa∧H1=H) (I.wish xe) (hn' _ ⟨rfl,rfl⟩)) fun u s1 ⟨v,H1,I1,rv,e1,e2⟩=> ?_)
 subst e1 e2
 cases (show u=Value.ref fa from rv)
 refine W.callWith_K (h₀:=X.base) I.ok.mod.kin kp (thn (ha xe pos pins s1 σ H1 (fun vs H2=>vs=vs0∧H2=H1) I1 (ha' _ ⟨rfl,rfl⟩)) fun us s2 ⟨vs,H2,I2,r,e3,e4⟩=>⟨I2.kIn,?_⟩) he hpl
 subst e3 e4
 have I3:Inv X pins σ H2 s2:=I2.unwish
 have hl:us.length=ps.length:=by rw [←r.length];exact F.len _ _ _ _ h
 have hbn:BindsTo s2 fdx ⟨us,[]⟩ (ps.zip us):=by
  have:=hb s2 us I3.kIn (by rw [List.append_nil];exact hl)
  rw [List.append_nil]at this
  exact this
 refine wpAny_call (codeAny_mono (F.run X.A X.stack s2 H2 ⟨us,[]⟩ us vs (fun _ _=>False) E hr I3.env0 hbn r h) fun rs s' hq=> ?_)
 cases rs with
 |error er=>exact hx s2 er s' I3 hq
 |ok fl=>
  cases fl with
  |ret u=>obtain⟨_,_,_,_,_,_,_,z⟩:=hq;exact z.elim
  |next=>exact hq.elim
  |brk=>exact hq.elim
  |cont=>exact hq.elim
noncomputable def refT(P:Nat→Pos):Stmt:=.Try [.Expr (.Call (.Name "read" (P 39)) [.Name "_law_text" (P 40)] [] (P 41)) (P 42)] [.ExceptHandler (some (.Name "OrderError" (P 43))) (some "error") (refB P) (P 44)] [] [] (P 45)
theorem ref_try{P:Nat→Pos}{g:List D→Option Str}{fa:Addr}{fdx:FuncData}{ps:List Str}{j:Nat}(ex:X.ex=[])(stk:X.stack=X.env::X.outer)(fr:X.env.frame=some X.env.locals)(Z:XKn X.K X.mg)(hmi:X.mg "isinstance"=none)(hma:X.mg "any"=none)(hmv:X.mg "ValueError"=none)
 (hN:X.N=NF)(loc:∀x∈NF,X.env.scope.names.lookup x=some .local)(hfn:∀x,X.fn x=true)(gl:∀x∈("isinstance":Str)::"any"::"ValueError"::"OrderError"::"read"::XN,Gl X x)
 (F:FnOk X.prog X.w X.K X.mg X.base (CXE X.prog X.w) j fa fdx ps (spX X.K cl g))(rj:Room j X.A)(mx:X.mg "read"=some (.ref fa))(kp:W.keepIn X.K (.ref fa)=true)(hb:Binds X.K fdx ps []):
 PS X (refT P) (fun En σ H=>∃v G d C,σ[0]?=some (some v)∧σ.length=3∧Same G H∧Dn X.K cl G v d∧g [d]=some "BadText"∧W.nsIn X.K mainGlobals "BadText"=some (some (.ref C))∧∀H',Same H H'→En.rt (.bl true) H'):=by
 intro pins s σ H En I ⟨v,G,d,C,s0,sl,sg,dn,hg,yn,q⟩
 obtain⟨O,mO,xO⟩:=Z.ord
 obtain⟨C',c1,c2,c3⟩:=Z.cls "BadText" (by decide)
 rw [yn]at c1
 cases c1
 have pv:∀(Y:Cx),Y.N=NF→Y.env.scope=X.env.scope→∀(i:Nat) (x:Str),NF[i]?=some x→(x==("__debug__":Str))=false→(x==("__classdict__":Str))=false→∀p,PE Y (.Name x p) (tVar i):=
  fun Y h1 h2 i x hx d1 d2 p=>pe_var (by rw [h1];exact hx) (by rw [h2];exact .inl (loc x (List.mem_of_getElem? hx))) d1 d2
 refine wpAny_Try_except (wpAny_execs_cons (wpAny_Expr_any (try_call (E:=fun cls _ H'=>cls=.ref C∧Same H H') (vs0:=[v]) (tn:=tC (.ref fa)) F rj kp hb I (fun xe=>pe_glob (X:=X.wish xe) (gl "read" (by decide)) mx rfl (by decide)) (fun Q z=>z) (fun xe=>pa_cons (pv (X.wish xe) hN rfl 0 "_law_text" rfl rfl rfl _) pa_nil) (fun Q z=>⟨_,s0,z⟩)
  ⟨G,[d],"BadText",C,sg,.cons dn .nil,hg,yn,fun H' z=>⟨rfl,z⟩⟩ fun t1 ev t2 I1 hx=> ?_) I.quiet rfl))
 obtain⟨e,T,cls,H',cx,rfl,na,nT,he,hT,fl,hcx,os,bare,un,hok,hc,hs⟩:=hx
 subst hc
 have J:Inv X pins σ H' t2:=I1.call' os un hok bare (ch:=[]) (fun b z=>absurd z (by simp))
 have pn:∀b,t1.heap.get? b=none→∀p∈X.pn++pins,p.1≠b:=fun b nb p hp z=>(by have w:=(I1.pin p hp).1;rw [z,nb]at w;cases w)
 refine handle_okC (D:=En) (n:="error") (i:=1) (c:="OrderError") (cp:=P 43) (hp:=P 44) J ex stk fr fl (I1.s0none ex na) (I1.s0none ex nT) he hT (fun p hp=>⟨pn e na p hp,pn T nT p hp⟩) (fun k z=>⟨I1.s0none ex (hcx k z).1,(hcx k z).2,pn k (hcx k z).1⟩)
  (by rw [hN];decide) (by rw [hN];rfl) (loc "error" (by decide)) (gl "OrderError" (by decide)) mO (by decide) (xO "BadText" (by decide) C yn)
  (ref_suite (X:=Xh X e) (P:=P) (a:=e) (C:=C) (cx:=cx) rfl (pv (Xh X e) hN rfl 1 "error" rfl rfl rfl) (pv (Xh X e) hN rfl 2 "_law_others" rfl rfl rfl) (by show X.N.Nodup;rw [hN];decide) (by show X.N[2]?=_;rw [hN];rfl) (.inl (loc "_law_others" (by decide))) (hfn _)
    (gl "isinstance" (by decide)) hmi (gl "any" (by decide)) hma c3 (fun t tm=> ?_) (fun p=>pe_bltn (u:=.type "ValueError") (gl "ValueError" (by decide)) hmv (by decide+kernel) rfl (by decide) (by decide)) (Z.val "BadText" (by decide) C yn)) fun H5 sm hd=> ?_
 ·obtain⟨J',j1,j2,j3⟩:=Z.cls t tm
  exact⟨J',fun p=>pe_glob (X:=Xh X e) (gl t (by simp [tm])) j2 rfl (xn_db t tm),Z.sub "BadText" (by decide) t tm C J' yn j1⟩
 ·exact⟨by rw [List.getElem?_set_self (by rw [sl];decide)],by rw [List.length_set,sl];decide,hd,fun H6 s6=>q H6 ((hs.trans sm).trans s6)⟩
end
noncomputable def gRef(g:List D→Option Str):List D→Option T
 |[d]=>(g [d]).bind fun y=>if y==("BadText":Str)then some (.sh (.bl true))else none
 |_=>none
structure RefS(K:W.Frag)(st:Stmt)(f:Addr)(fd:FuncData):Prop where
 F:Fun K "_law_refused" "_law_refused" st f fd
 S:FnScope NF ["_law_text"] (defScope st)
 loc:∀x∈NF,(defScope st).names.lookup x=some .local
 gl:∀x∈("isinstance":Str)::"any"::"ValueError"::"OrderError"::"read"::XN,(defScope st).names.lookup x=some .globalImplicit
 body:∃P j,defBody st=[refT P,.Return (some (.Constant (.bool false) j (P 46))) (P 47)]
section
variable{P:Program}{w:World}{K:W.Frag}{mg:Str→Option Value}{base:Heap}{cl:Nat→Option Addr}{Ξ:XT}{ξ:List (Str×Nat)}{k:Nat}{st:Stmt}{f:Addr}{fd:FuncData}{g:List D→Option Str}{j:Nat}
theorem def_ref(M:LwX P w K mg base cl Ξ ξ k)(Z:XKn K mg)(W:RefS K st f fd)(hj:ξ.lookup ("read":Str)=some j)(hg:Ξ j=some g)(hmi:mg "isinstance"=none)(hma:mg "any"=none)(hmv:mg "ValueError"=none):FnOk P w K mg base CX0 (k+1) f fd ["_law_text"] (spP K cl (gRef g)):=by
 refine W.F.ok W.S (fun vs H Q E h=> ?_) (fun cdv A outer s H vs Q E hr h=> ?_)
 ·obtain⟨G,ds,t,sg,dn,hg,q⟩:=h
  unfold gRef at hg
  split at hg
  ·exact dn.length
  ·cases hg
 ·obtain⟨G,ds,t,sg,dn,hgt,q⟩:=h
  unfold gRef at hgt
  split at hgt
  ·rename_i d
   obtain⟨y,hy,hgt2⟩:=bsi hgt
   clear hgt
   split at hgt2
   ·rename_i ey
    have ey:y="BadText":=by simpa using ey
    subst ey
    cases hgt2
    obtain⟨g',hg',fa,fdx,ps,F,mx,kp,hb⟩:=M.fx "read" j hj
    rw [hg]at hg'
    cases hg'
    obtain⟨C,c1,c2,c3⟩:=Z.cls "BadText" (by decide)
    obtain⟨v,rfl,dv⟩:=dn.one
    obtain⟨P',j',hbd⟩:=W.body
    rw [hbd]
    refine⟨_,pss_cons (ref_try (X:=(cxOf CX0 P w K mg base NF "_law_refused" (defScope st) f cdv A outer s H E).nox) (cl:=cl) (P:=P') rfl rfl rfl Z hmi hma hmv rfl W.loc (fun _=>rfl) (fun x hx=>W.gl x hx) F hr mx kp hb) (pss_one (ps_ret pe_bl)),?_⟩
    refine⟨v,G,d,C,rfl,rfl,sg,dv,hy,c1,fun H' s'=> ?_⟩
    exact q (.bl true) H' G [] ⟨s',.refl _,sg.trans s',fun b o h1 h2=>by rw [h1]at h2;cases h2⟩ (.sh (.bl true)) List.nodup_nil (fun b hb=>by simp at hb)
   ·cases hgt2
  ·cases hgt
end
end MI
end
noncomputable section
namespace Bo
def IsRow(r:List Nat):Prop:=r.Perm (List.range r.length)
noncomputable def ap(r:List Nat)(i:Nat):Nat:=r.getD i 0
theorem perm_of_sub{l m:List Nat}(nd:l.Nodup)(sub:∀x∈l,x∈m)(len:m.length≤l.length):l.Perm m:=by
 induction l generalizing m with
 |nil=>
  have e:m=[]:=List.length_eq_zero_iff.mp (by simpa using len)
  rw [e]
 |cons a l ih=>
  obtain⟨na,nd'⟩:=List.nodup_cons.mp nd
  have ha:a∈m:=sub a (by simp)
  have p:=List.perm_cons_erase ha
  refine(List.Perm.cons a (ih nd' (fun x hx=> ?_) ?_)).trans p.symm
  ·have hne:x≠a:=fun e=>na (e▸hx)
   exact(List.mem_erase_of_ne hne).mpr (sub x (by simp [hx]))
  ·rw [List.length_erase_of_mem ha];simp at len;lia
theorem isRow_of{r:List Nat}(nd:r.Nodup)(lt:∀x∈r,x<r.length):IsRow r:=
 perm_of_sub nd (fun x hx=>List.mem_range.mpr (lt x hx)) (by simp)
theorem IsRow.nodup{r:List Nat}(h:IsRow r):r.Nodup:=h.nodup_iff.mpr List.nodup_range
theorem IsRow.mem{r:List Nat}(h:IsRow r){x:Nat}:x∈r↔x<r.length:=by rw [h.mem_iff];simp
theorem ap_eq{r:List Nat}{i:Nat}(h:i<r.length):ap r i=r[i]:=by simp [ap,h]
theorem ap_get?{r:List Nat}{i:Nat}(h:i<r.length):r[i]?=some (ap r i):=by rw [ap_eq h];simp [h]
theorem IsRow.lt{r:List Nat}(h:IsRow r){i:Nat}(hi:i<r.length):ap r i<r.length:=by
 rw [ap_eq hi];exact h.mem.mp (List.getElem_mem hi)
theorem IsRow.inj{r:List Nat}(h:IsRow r){i j:Nat}(hi:i<r.length)(hj:j<r.length)(e:ap r i=ap r j):i=j:=by
 rw [ap_eq hi,ap_eq hj]at e
 exact(List.getElem_inj h.nodup).mp e
theorem isRow_range(n:Nat):IsRow (List.range n):=by unfold IsRow;rw [List.length_range]
theorem ap_range{n i:Nat}(h:i<n):ap (List.range n) i=i:=by rw [ap_eq (by simpa using h)];simp
noncomputable def bk(r:List Nat):List Nat:=(List.range r.length).map (fun x=>r.idxOf x)
noncomputable def pw(r:List Nat):Nat→Nat→Nat
 |0,x=>x
 |k+1,x=>ap r (pw r k x)
theorem getD_set{l:List Bool}{i x:Nat}{b:Bool}(hi:i<l.length):(l.set i b).getD x false=if x=i then b else l.getD x false:=by
 by_cases e:x=i
 ·subst e;simp [hi]
 ·rw [if_neg e]
  simp [Ne.symm e]
structure Made(r:List Nat)(S:List (List Nat))(k:Nat)(t:List Nat):Prop where
 len:t.length=r.length
 new:∀x∈(S.take k).flatten,ap t x=ap r x
 old:∀x,x<r.length→x∉(S.take k).flatten→ap t x=x
noncomputable def sm(n:Nat)(f:Nat→Nat):Nat:=((List.range n).map f).sum
end Bo
end
noncomputable section
namespace MI
open PySem L2
noncomputable def b_is_whole:S:=(.seq (.ret (.and (.isi (.var 0) 0) (.not (.isi (.var 0) 1))))
 .nop)
noncomputable def b_first_met:S:=(.seq (.ife (.or (.not (.call 0 (.cons (.var 0) .nil))) (.or (.not (.ch .LtE .Lt (.int 0) (.var 0) (.un .len (.var 1)))) (.idx (.var 1) (.var 0))))
 (.seq (.ret (.bl false))
 .nop) .nop)
 (.seq (.set 1 (.var 0) (.bl true))
 (.seq (.ret (.bl true))
 .nop)))
noncomputable def b_is_row:S:=(.seq (.ife (.not (.isi (.var 0) 2))
 (.seq (.ret (.bl false))
 .nop) .nop)
 (.seq (.asg 1 (.bin .Mult (.lst (.cons (.bl false) .nil)) (.un .len (.var 0))))
 (.seq (.for1 2 (.var 0)
 (.seq (.ifio true 100 1 (.cons (.var 2) (.cons (.var 1) .nil))
 (.seq (.ret (.bl false))
 .nop) .nop)
 .nop))
 (.seq (.ret (.bl true))
 .nop))))
noncomputable def b_need_row:S:=(.seq (.ife (.not (.call 1 (.cons (.var 0) .nil)))
 (.seq .raise
 .nop) .nop)
 .nop)
noncomputable def b_written:S:=(.seq (.drop (.call 2 (.cons (.var 0) .nil)))
 (.seq (.ife (.cmp .Eq (.un .len (.var 0)) (.int 0))
 (.seq (.ret (.str "-"))
 .nop) .nop)
 (.seq (.ret (.un .joi (.comp (.un .stri (.var 0)) [] (.var 0) .nil)))
 .nop)))
noncomputable def b_read:S:=(.seq (.ife (.not (.isi (.var 0) 4))
 (.seq .raise
 .nop) .nop)
 (.seq (.ife (.cmp .Eq (.var 0) (.str "-"))
 (.seq (.ret (.lst .nil))
 .nop) .nop)
 (.seq (.ret (.call 45 (.cons (.un .spl (.var 0)) .nil)))
 .nop)))
noncomputable def b__law_cell_at:S:=(.seq (.ife (.cmp .Lt (.var 1) (.un .len (.var 0)))
 (.seq (.ret (.idx (.var 0) (.var 1)))
 .nop) .nop)
 (.seq (.ret (.int 0))
 .nop))
noncomputable def b__law_draw:S:=(.seq (.asg 3 (.tup (.cons (.int 1000003) (.cons (.int 1000033) (.cons (.int 1000037) (.cons (.int 1000039) (.cons (.int 1000081) (.cons (.int 1000099) (.cons (.int 1000117) (.cons (.int 1000121) (.cons (.int 1000133) (.cons (.int 1000151) (.cons (.int 1000159) (.cons (.int 1000171) (.cons (.int 1000183) (.cons (.int 1000187) (.cons (.int 1000193) (.cons (.int 1000199) .nil))))))))))))))))))
 (.seq (.ret (.bin .Mod (.bin .Mod (.bin .Add (.bin .Mult (.var 0) (.int 48271)) (.bin .Mult (.var 1) (.int 69621))) (.idx (.var 3) (.bin .Mod (.var 1) (.int 16)))) (.var 2)))
 .nop))
noncomputable def b__law_row:S:=(.seq (.asg2 1 2 (.call 51 (.cons (.call 50 (.cons (.var 0) (.cons (.int 0) .nil))) (.cons (.int 6) (.cons (.int 4) .nil)))) (.lst .nil))
 (.seq (.for1 3 (.rng (.un .len (.var 0)))
 (.seq (.asg 4 (.call 51 (.cons (.idx (.var 0) (.var 3)) (.cons (.bin .Add (.bin .Mod (.var 3) (.int 5)) (.int 1)) (.cons (.bin .Add (.var 3) (.int 1)) .nil)))))
 (.seq (.ife (.cmp .Eq (.var 1) (.int 1))
 (.seq (.asg 4 (.mn (.var 4) (.call 51 (.cons (.idx (.var 0) (.var 3)) (.cons (.bin .Add (.bin .Mod (.var 3) (.int 7)) (.int 1)) (.cons (.int 4) .nil))))))
 .nop) .nop)
 (.seq (.ife (.cmp .Eq (.var 1) (.int 2))
 (.seq (.asg 4 (.mx (.var 4) (.bin .Sub (.var 3) (.call 51 (.cons (.idx (.var 0) (.var 3)) (.cons (.bin .Add (.bin .Mod (.var 3) (.int 7)) (.int 1)) (.cons (.int 4) .nil)))))))
 .nop) .nop)
 (.seq (.ife (.and (.cmp .Eq (.var 1) (.int 3)) (.cmp .Gt (.bin .Mod (.var 4) (.int 3)) (.int 0)))
 (.seq (.asg 4 (.int 0))
 .nop) .nop)
 (.seq (.ins 2 (.bin .Sub (.var 3) (.var 4)) (.var 3))
 .nop))))))
 (.seq (.ret (.var 2))
 .nop)))
noncomputable def b__law_number:S:=(.seq (.ife (.or (.cmp .Eq (.var 0) (.str "")) (.or (.cmp .Gt (.un .len (.var 0)) (.int 6)) (.or (.cmp .NotEq (.un .stp (.var 0)) (.str "")) (.and (.cmp .Eq (.idx (.var 0) (.int 0)) (.str "0")) (.cmp .NotEq (.var 0) (.str "0"))))))
 (.seq (.ret .non)
 .nop) .nop)
 (.seq (.ret (.un .inti (.var 0)))
 .nop))
noncomputable def b__law_in:S:=(.seq (.ife (.cmp .Eq (.var 0) (.str "-"))
 (.seq (.ret (.lst .nil))
 .nop) .nop)
 (.seq (.asg 1 (.comp (.call 76 (.cons (.var 0) .nil)) [] (.un .spl (.var 0)) .nil))
 (.seq (.ife (.or (.cmp .In .non (.var 1)) (.sne (.var 1) (.un .lrng (.un .len (.var 1)))))
 (.seq (.ret .non)
 .nop) .nop)
 (.seq (.ret (.var 1))
 .nop))))
noncomputable def b__law_right:S:=(.seq (.asg 1 (.call 77 (.cons (.var 0) .nil)))
 (.seq (.ife (.cmp .Is (.var 1) .non)
 (.seq (.ret (.call 78 (.cons (.var 0) .nil)))
 .nop) .nop)
 (.seq (.asg 2 (.call 46 (.cons (.var 0) .nil)))
 (.seq (.ife (.or (.not (.isi (.var 2) 2)) (.or (.cmp .NotEq (.var 2) (.var 1)) (.cmp .NotEq (.call 44 (.cons (.var 2) .nil)) (.var 0))))
 (.seq (.ret (.bl false))
 .nop) .nop)
 (.seq (.app 2 (.int 0))
 (.seq (.ret (.cmp .Eq (.call 46 (.cons (.var 0) .nil)) (.var 1)))
 .nop))))))
noncomputable def b__law_few:S:=(.seq (.asg 0 (.lst (.cons (.str "") (.cons (.str "-") (.cons (.str " ") (.cons (.str "--") (.cons (.str "0") (.cons (.str "00") (.cons (.str "1") (.cons (.str "-0") (.cons (.str "0 1") (.cons (.str "1 0") (.cons (.str "0 0") (.cons (.str "0 2") (.cons (.str "0 1 ") (.cons (.str " 0 1") (.cons (.str "0  1") (.cons (.str "0,1") (.cons (.str "+0") .nil)))))))))))))))))))
 (.seq (.asg 0 (.bin .Add (.var 0) (.lst (.cons (.str "0 01") (.cons (.str "2 0 1") (.cons (.str "2 1") (.cons (.str "0\n") (.cons (.str "0\t1") (.cons (.str "1 0\n") (.cons (.str "x") (.cons (.str "0 1 2 3 4 5 6 7 8 9 10") .nil)))))))))))
 (.seq (.app 0 (.str "0 1 2 3 4 5 6 7 8 9 11"))
 (.seq (.ret (.bin .Add (.var 0) (.lst (.cons (.bin .Mult (.str "9") (.int 4000)) (.cons (.bin .Add (.str "0 ") (.bin .Mult (.str "9") (.int 4000))) (.cons (.str "1_0 0") (.cons (.str "0 -1") (.cons (.str "- 0") (.cons (.str "1.0 0") .nil)))))))))
 .nop))))
noncomputable def b_law:S:=(.seq (.asg 1 (.call 52 (.cons (.var 0) .nil)))
 (.seq (.asg 2 (.ite (.cmp .NotEq (.var 1) (.lst .nil)) (.un .joi (.comp (.un .stri (.var 0)) [] (.var 1) .nil)) (.str "-")))
 (.seq (.asg 3 (.un .list (.var 1)))
 (.seq (.ife (.or (.cmp .NotEq (.call 44 (.cons (.var 3) .nil)) (.var 2)) (.or (.cmp .NotEq (.var 3) (.var 1)) (.not (.call 79 (.cons (.var 2) .nil)))))
 (.seq (.ret (.bl false))
 .nop) .nop)
 (.seq (.asg 4 (.bin .Add (.call 50 (.cons (.var 0) (.cons (.int 3) .nil))) (.bin .Mult (.int 7) (.call 50 (.cons (.var 0) (.cons (.int 0) .nil))))))
 (.seq (.for1 5 (.rng (.int 2))
 (.seq (.asg 6 (.call 51 (.cons (.bin .Add (.var 4) (.var 5)) (.cons (.int 1) (.cons (.bin .Add (.un .len (.var 2)) (.int 1)) .nil)))))
 (.seq (.asg 7 (.idx (.tup (.cons (.str "") (.cons (.idx (.str "0123456789 -x") (.call 51 (.cons (.bin .Add (.var 4) (.var 5)) (.cons (.int 2) (.cons (.int 13) .nil))))) .nil))) (.call 51 (.cons (.bin .Add (.var 4) (.var 5)) (.cons (.int 3) (.cons (.int 2) .nil))))))
 (.seq (.ife (.not (.call 79 (.cons (.bin .Add (.bin .Add (.cut (.var 2) .nil (.var 6)) (.var 7)) (.cut (.var 2) (.bin .Add (.var 6) (.call 51 (.cons (.bin .Add (.var 4) (.var 5)) (.cons (.int 4) (.cons (.int 2) .nil))))) .nil)) .nil)))
 (.seq (.ret (.bl false))
 .nop) .nop)
 .nop))))
 (.seq (.ife (.not (.un .all (.comp (.call 79 (.cons (.var 0) .nil)) [] (.call 80 .nil) .nil)))
 (.seq (.ret (.bl false))
 .nop) .nop)
 (.seq (.ret (.un .all (.comp (.call 78 (.cons (.var 0) .nil)) [] (.lst (.cons .non (.cons (.int 5) (.cons (.lst (.cons (.str "0") .nil)) (.cons (.bl true) .nil))))) .nil)))
 .nop))))))))
noncomputable def r_read:R:=(.ifr (.not (.isi (.var 0) 4)) (.rs "BadText")
 (.ifr (.cmp .Eq (.var 0) (.str "-")) .non
 (.xe (.call 0 (.cons (.un .spl (.var 0)) .nil)))))
noncomputable def extX(Ξ:XT)(j:Nat)(g:List D→Option Str):XT:=fun i=>if i=j then some g else Ξ i
noncomputable def Γ0:Tab:=fun _=>none
noncomputable def Δ0:IOT:=fun _=>none
noncomputable def Ξ0:XT:=fun _=>none
noncomputable abbrev ξ0:List (Str×Nat):=[]
noncomputable def g_is_whole:List D→Option T:=gP Γ0 Δ0 100 ["value"] 1 b_is_whole
noncomputable def Γ1:Tab:=extT Γ0 0 g_is_whole
noncomputable def g_first_met:List D→Option (T×List D):=gQ Γ1 Δ0 100 ["thing","met"] 1 2 b_first_met
noncomputable def Δ1:IOT:=extI Δ0 100 1 g_first_met
noncomputable def g_is_row:List D→Option T:=gP Γ1 Δ1 100 ["value","met","thing"] 1 b_is_row
noncomputable def Γ2:Tab:=extT Γ1 1 g_is_row
noncomputable def g_need_row:List D→Option T:=gP Γ2 Δ1 100 ["value"] 1 b_need_row
noncomputable def Γ3:Tab:=extT Γ2 2 g_need_row
noncomputable def g_written:List D→Option T:=gP Γ3 Δ1 100 ["row"] 1 b_written
noncomputable def Γ4:Tab:=extT Γ3 44 g_written
noncomputable def g_row_of_figures:List D→Option T:=gRow
noncomputable def Γ5:Tab:=extT Γ4 45 g_row_of_figures
noncomputable def x_row_of_figures:List D→Option Str:=xRow
noncomputable def Ξ1:XT:=extX Ξ0 0 x_row_of_figures
noncomputable abbrev ξ1:List (Str×Nat):=("row_of_figures",0)::ξ0
noncomputable def g_read:List D→Option T:=gP Γ5 Δ1 100 ["text"] 1 b_read
noncomputable def Γ6:Tab:=extT Γ5 46 g_read
noncomputable def x_read:List D→Option Str:=gX Γ6 Ξ1 1 r_read
noncomputable def Ξ2:XT:=extX Ξ1 1 x_read
noncomputable abbrev ξ2:List (Str×Nat):=("read",1)::ξ1
noncomputable def g__law_cell_at:List D→Option T:=gP Γ6 Δ1 100 ["_law_script","_law_k"] 2 b__law_cell_at
noncomputable def Γ7:Tab:=extT Γ6 50 g__law_cell_at
noncomputable def g__law_draw:List D→Option T:=gP Γ7 Δ1 100 ["_law_cell","_law_k","_law_many","_law_primes"] 3 b__law_draw
noncomputable def Γ8:Tab:=extT Γ7 51 g__law_draw
noncomputable def g__law_row:List D→Option T:=gP Γ8 Δ1 100 ["_law_script","_law_kind","_law_row_here","_law_k","_law_away"] 1 b__law_row
noncomputable def Γ9:Tab:=extT Γ8 52 g__law_row
noncomputable def g__law_number:List D→Option T:=gP Γ9 Δ1 100 ["_law_text"] 1 b__law_number
noncomputable def Γ10:Tab:=extT Γ9 76 g__law_number
noncomputable def g__law_in:List D→Option T:=gP Γ10 Δ1 100 ["_law_text","_law_found"] 1 b__law_in
noncomputable def Γ11:Tab:=extT Γ10 77 g__law_in
noncomputable def g__law_refused:List D→Option T:=gRef x_read
noncomputable def Γ12:Tab:=extT Γ11 78 g__law_refused
noncomputable def g__law_right:List D→Option T:=gP Γ12 Δ1 100 ["_law_text","_law_due","_law_found"] 1 b__law_right
noncomputable def Γ13:Tab:=extT Γ12 79 g__law_right
noncomputable def g__law_few:List D→Option T:=gP Γ13 Δ1 100 ["_law_some"] 0 b__law_few
noncomputable def Γ14:Tab:=extT Γ13 80 g__law_few
noncomputable def g_law:List D→Option T:=gP Γ14 Δ1 100 ["_law_script","_law_row_here","_law_text","_law_handed","_law_cell","_law_k","_law_at","_law_sign"] 1 b_law
noncomputable def ci(r:List Nat):List Int:=r.map fun n:Nat=>(n:Int)
noncomputable def nl(r:List Nat):List D:=r.map fun n:Nat=>D.int n
noncomputable def nD(r:List Nat):D:=.lst (nl r)
noncomputable def nT(r:List Nat):T:=.ow ((nl r).map T.sh)
noncomputable def nDD(R:List (List Nat)):D:=.lst (R.map nD)
noncomputable def nTT(R:List (List Nat)):T:=.ow (R.map nT)
theorem nl_ci(r:List Nat):nl r=(ci r).map D.int:=by simp [nl,ci]
@[simp] theorem nl_length(r:List Nat):(nl r).length=r.length:=by simp [nl]
@[simp] theorem strip_nT(r:List Nat):strip (nT r)=nD r:=by rw [nT,nD,strip_ow,map_strip_sh]
@[simp] theorem strip_nTT(R:List (List Nat)):strip (nTT R)=nDD R:=by
  simp only [nTT,nDD,strip_ow,List.map_map]
  congr 1
  exact List.map_congr_left fun r _=>strip_nT r
@[simp] theorem all_scal_nl(r:List Nat):(nl r).all scal=true:=by simp [nl]
@[simp] theorem flat_nT(r:List Nat):flatT (nT r)=true:=by simp [nT,nl]
@[simp] theorem flat_nTT(R:List (List Nat)):flatT (nTT R)=true:=by simp [nTT]
theorem ci_inj{a b:List Nat}(h:ci a=ci b):a=b:=by
 induction a generalizing b with
 |nil=>cases b with
  |nil=>rfl
  |cons _ _=>cases h
 |cons x r ih=>cases b with
  |nil=>cases h
  |cons y t=>
   simp only [ci,List.map_cons,List.cons.injEq]at h
   rw [show x=y by lia,ih h.2]
theorem bl_at{m:List Bool}{i:Nat}(h:i<m.length):atI (m.map D.bl) (i:Int)=some (.bl (m.getD i false)):=atI_nat (by simp [h])
theorem ixN_nat{n i:Nat}(h:i<n):ixN n (i:Int)=some i:=by
 unfold ixN
 rw [if_pos (by lia),if_pos (by lia),Int.toNat_natCast]
@[simp] theorem eq_ii(i j:Int):eqD (.int i) (.int j)=some (decide (i=j)):=by
  have h:∀i:Int,PySem.SeqAt.shaped (.int i)=true:=fun i=>by simp [PySem.SeqAt.shaped,PyData.canLay0,PyData.depth]
  simp [eqD,toPy,h,PySem.SeqAt.noMix,PySem.Spec.same]
  by_cases e:i=j<;>simp [e]
@[simp] theorem eq_nn(a b:List Nat):eqD (nD a) (nD b)=some (decide (a=b)):=by
  unfold nD
  rw [nl_ci,nl_ci,eq_ints]
  congr 1
  by_cases e:a=b
  ·simp [e]
  ·rw [dff e,dff fun h=>e (ci_inj h)]
@[simp] theorem evX_bl(Γ:Tab)(pio:Option Nat)(b:Bool)(env:TEnv):evX Γ pio (.bl b) env=some (.sh (.bl b),env):=rfl
@[simp] theorem evX_int(Γ:Tab)(pio:Option Nat)(b:Int)(env:TEnv):evX Γ pio (.int b) env=some (.sh (.int b),env):=rfl
@[simp] theorem evX_nilL(Γ:Tab)(pio:Option Nat)(env:TEnv):evX Γ pio (.lst .nil) env=some (.ow [],env):=rfl
theorem forL_inv{step:D→TEnv→Option (Fl×TEnv)}(I:Nat→TEnv→Prop):∀(ds:List D) (env:TEnv) (j:Nat),I j env→(∀k d e,ds[k]?=some d→I (j+k) e→∃e',step d e=some (.nx,e')∧I (j+k+1) e')→∃e',forL step ds env=some (.nx,e')∧I (j+ds.length) e'
 |[],env,j,h0,_=>⟨env,rfl,h0⟩
 |d::r,env,j,h0,hs=>by
  obtain⟨e1,h1,h2⟩:=hs 0 d env rfl h0
  obtain⟨e',h3,h4⟩:=forL_inv I r e1 (j+1) h2 fun k d' e hd hI=>by
   have:=hs (k+1) d' e hd (by rwa [show j+(k+1)=j+1+k by lia])
   rwa [show j+(k+1)+1=j+1+k+1 by lia]at this
  refine⟨e',?_,by rwa [List.length_cons,show j+(r.length+1)=j+1+r.length by lia]⟩
  show(step d env).bind _=_
  rw [h1]
  exact h3
theorem forL_from{step:D→TEnv→Option (Fl×TEnv)}(I:Nat→TEnv→Prop){ds:List D}{env:TEnv}(h0:I 0 env)(hs:∀k d e,ds[k]?=some d→I k e→∃e',step d e=some (.nx,e')∧I (k+1) e'):∃e',forL step ds env=some (.nx,e')∧I ds.length e':=by
 have:=forL_inv I ds env 0 h0 fun k d e hd hI=>by
  rw [Nat.zero_add]at hI⊢
  exact hs k d e hd hI
 rwa [Nat.zero_add]at this
theorem evIO_ok{Γ:Tab}{Δ:IOT}{f i k:Nat}{args:E}{env:TEnv}{g:List D→Option (T×List D)}{ds ds' l:List D}{t:T}(hg:Δ f=some (k,g))(he:env[i]?=some (some (.ow (ds.map T.sh))))(hs:ds.all scal=true)(ha:evA Γ i ds (dEnv (env.set i none)) k args=some l)(h:g l=some (t,ds'))(ht:flatT t=true)(hs':ds'.all scal=true):evIO Γ Δ f i args env=some (t,env.set i (some (.ow (ds'.map T.sh)))):=by
 unfold evIO
 rw [hg,obs,he]
 show(unsh (ds.map T.sh)).bind _=_
 rw [unsh_sh,obs,if_pos hs,ha,obs,show(k,g).2 l=some (t,ds')from h,obs,if_pos (by rw [ht,hs'];rfl)]
theorem mul_false{n:Nat}(h:n≤1000000):binD .Mult (.lst [.bl false]) (.int n)=some (.lst ((List.replicate n false).map D.bl)):=by
 have e:(List.replicate n [D.bl false]).flatten=(List.replicate n false).map D.bl:=by
  clear h
  induction n with
  |zero=>rfl
  |succ n ih=>rw [List.replicate_succ,List.flatten_cons,ih];rfl
 show(if sz ([D.bl false].length*(n:Int).toNat)&&decide (-(2 ^ 62)≤(n:Int)∧(n:Int)<2 ^ 62)then some (D.lst (List.replicate (n:Int).toNat [D.bl false]).flatten)else none)=_
 rw [Int.toNat_natCast,if_pos,e]
 rw [Bool.and_eq_true]
 exact⟨sz_of (by simpa using h),dtt (by lia)⟩
theorem gP_rt1{Γ:Tab}{Δ:IOT}{m:Nat}{N:List Str}{ar:Nat}{body:S}{ds:List D}{t:T}(hl:ds.length=ar)(h:(ex Γ Δ none m body (startT N ds)).map (·.1)=some (.rt t)):gP Γ Δ m N ar body ds=some t:=by
 obtain⟨⟨fl,env⟩,h1,h2⟩:=msi h
 cases h2
 exact gP_rt hl h1
theorem gP_nx1{Γ:Tab}{Δ:IOT}{m:Nat}{N:List Str}{ar:Nat}{body:S}{ds:List D}(hl:ds.length=ar)(h:(ex Γ Δ none m body (startT N ds)).map (·.1)=some .nx):gP Γ Δ m N ar body ds=some (.sh .non):=by
 obtain⟨⟨fl,env⟩,h1,h2⟩:=msi h
 cases h2
 exact gP_nx hl h1
structure Mk(n:Nat)(L:List Nat)(met:List Bool):Prop where
 len:met.length=n
 at':∀y,y<n→met.getD y false=decide (y∈L)
theorem Mk.start(n:Nat):Mk n [] (List.replicate n false):=⟨by simp,fun y hy=>by simp [hy]⟩
theorem Mk.more{n:Nat}{L:List Nat}{met:List Bool}(h:Mk n L met){x:Nat}(hx:x<n):Mk n (L++[x]) (met.set x true):=⟨by simp [h.len],fun y hy=>by
 rw [Bo.getD_set (by rw [h.len];exact hx),h.at' y hy]
 by_cases e:y=x<;>simp [e]⟩
@[simp] theorem is_whole_int(i:Int):g_is_whole [.int i]=some (.sh (.bl true)):=rfl
theorem first_met_ok{x:Nat}{bs:List Bool}(h:x<bs.length)(h0:bs.getD x false=false):g_first_met [.int x,.lst (bs.map D.bl)]=some (.sh (.bl true),(bs.set x true).map D.bl):=by
 refine gQ_rt (env:=[some (.sh (.int x)),some (.ow (((bs.set x true).map D.bl).map T.sh))]) rfl ?_ (by simp)
 have hs:startIO ["thing","met"] 1 [D.int x,D.lst (bs.map D.bl)]=[some (.sh (.int x)),some (.ow ((bs.map D.bl).map T.sh))]:=by simp [startIO,ioAt,listD]
 have hw:Γ1 0=some g_is_whole:=rfl
 have hlt:(x:Int)<(bs.length:Int):=by lia
 rw [hs]
 unfold b_first_met
 simp only [ex_seq,ex_ife]
 have hc:evB Γ1 (.or (.not (.call 0 (.cons (.var 0) .nil))) (.or (.not (.ch .LtE .Lt (.int 0) (.var 0) (.un .len (.var 1)))) (.idx (.var 1) (.var 0)))) (dEnv [some (.sh (.int x)),some (.ow ((bs.map D.bl).map T.sh))])=some false:=by
  simp only [dEnv_cons,dEnv_nil,Option.map_some,strip_sh,strip_ow,map_strip_sh,evB,ev_or,ev_not,ev_call,ev_cons,ev_nil,ev_var,hw]
  simp [hlt,bl_at h,-List.getD_eq_getElem?_getD]
  simpa using h0
 rw [hc]
 have hi:=ixN_nat h
 simp [ex_set,hi]
theorem is_row_ok{r:List Nat}(h:Bo.IsRow r)(hl:r.length≤1000000):g_is_row [nD r]=some (.sh (.bl true)):=by
 have hs:startT ["value","met","thing"] [nD r]=[some (.sh (nD r)),none,none]:=rfl
 have e1:evX Γ1 none (.bin .Mult (.lst (.cons (.bl false) .nil)) (.un .len (.var 0))) [some (.sh (nD r)),none,none]=some (.ow (((List.replicate r.length false).map D.bl).map T.sh),[some (.sh (nD r)),none,none]):=by
  refine evX_flat rfl rfl ?_ (by simp)
  have:sz 1=true:=rfl
  simp [nD,this,mul_false hl,-List.map_replicate]
 obtain⟨env',hf,x,y,rfl,_⟩:=forL_from (step:=fun d e=>ex Γ1 Δ1 none 100 (.seq (.ifio true 100 1 (.cons (.var 2) (.cons (.var 1) .nil)) (.seq (.ret (.bl false)) .nop) .nop) .nop) (e.set 2 (some (.sh d)))) (fun k e=>∃met x,e=[some (.sh (nD r)),some (.ow ((met.map D.bl).map T.sh)),x]∧Mk r.length (r.take k) met) (ds:=nl r) (env:=[some (.sh (nD r)),some (.ow (((List.replicate r.length false).map D.bl).map T.sh)),none]) ⟨_,_,rfl,by simpa using Mk.start _⟩ (fun k d e hd ⟨met,x,he,hm⟩=>by
  subst he
  have hk:k<r.length:=by simpa using(List.getElem?_eq_some_iff.mp hd).1
  obtain rfl:d=.int (Bo.ap r k:Nat):=by
   rw [nl,List.getElem?_map,Bo.ap_get? hk]at hd
   exact(Option.some.inj hd).symm
  have hlt:=h.lt hk
  have hn:Bo.ap r k∉r.take k:=fun z=>by
   obtain⟨j,hj,e⟩:=List.getElem_of_mem z
   rw [List.length_take]at hj
   have:=h.inj (i:=j) (j:=k) (by lia) hk (by rw [Bo.ap_eq (show j<r.length by lia),←e];simp)
   lia
  have h0:met.getD (Bo.ap r k) false=false:=by rw [hm.at' _ hlt];simpa using hn
  refine⟨[some (.sh (nD r)),some (.ow (((met.set (Bo.ap r k) true).map D.bl).map T.sh)),some (.sh (.int (Bo.ap r k:Nat)))],?_,_,_,rfl,?_⟩
  ·have hio:=evIO_ok (Γ:=Γ1) (Δ:=Δ1) (f:=100) (i:=1) (args:=.cons (.var 2) (.cons (.var 1) .nil)) (env:=[some (.sh (nD r)),some (.ow ((met.map D.bl).map T.sh)),some (.sh (.int (Bo.ap r k:Nat)))]) (ds:=met.map D.bl) (l:=[.int (Bo.ap r k:Nat),.lst (met.map D.bl)]) rfl rfl (by simp) rfl (first_met_ok (by rw [hm.len];exact hlt) h0) rfl (all_scal_bls _)
   simp only [ex_seq,ex_ifio,List.set_cons_succ,List.set_cons_zero]
   rw [hio]
   rfl
  ·have:=hm.more hlt
   rwa [show r.take k++[Bo.ap r k]=r.take (k+1) by rw [List.take_succ,Bo.ap_get? hk];rfl]at this)
 have hc:evB Γ1 (.not (.isi (.var 0) 2)) (dEnv [some (.sh (nD r)),none,none])=some false:=rfl
 have hx:itX Γ1 none (.var 0) [some (.sh (nD r)),some (.ow (((List.replicate r.length false).map D.bl).map T.sh)),none]=some (nl r,[some (.sh (nD r)),some (.ow (((List.replicate r.length false).map D.bl).map T.sh)),none]):=rfl
 exact gP_rt rfl ((st_skip hc).trans ((st_asg rfl e1).trans ((st_for1 rfl hx hf).trans (st_ret (by simp) (evX_bl _ _ _ _)))))
theorem need_row_ok{r:List Nat}(h:Bo.IsRow r)(hl:r.length≤1000000):g_need_row [nD r]=some (.sh .non):=by
 have hs:startT ["value"] [nD r]=[some (.sh (nD r))]:=rfl
 have hw:Γ2 1=some g_is_row:=rfl
 refine gP_nx1 rfl ?_
 rw [hs]
 simp [b_need_row,evB,hw,is_row_ok h hl]
theorem nl_get{r:List Nat}{k:Nat}{d:D}(h:(nl r)[k]?=some d):k<r.length∧d=.int (Bo.ap r k:Nat):=by
 have hk:k<r.length:=by simpa using(List.getElem?_eq_some_iff.mp h).1
 rw [nl,List.getElem?_map,Bo.ap_get? hk]at h
 exact⟨hk,(Option.some.inj h).symm⟩
theorem rngD_nat{n:Nat}(h:n≤1000000):rngD 0 (n:Int)=some (nl (List.range n)):=by
 unfold rngD
 rw [if_pos (dtt (by lia))]
 simp [nl]
theorem lrng_nat{n:Nat}(h:n≤1000000):unD .lrng (.int n)=some (nD (List.range n)):=by
 show(if decide (-(2 ^ 60)≤(n:Int)∧(n:Int)≤1000000)then some (D.lst ((List.range (n:Int).toNat).map fun(i:Nat)=>D.int i))else none)=_
 rw [if_pos (dtt (by lia)),Int.toNat_natCast]
 rfl
theorem ap_range{n k:Nat}(h:k<n):Bo.ap (List.range n) k=k:=Bo.ap_range h
noncomputable def iD(ns:List Int):D:=.lst (ns.map D.int)
theorem il_at{ns:List Int}{i:Nat}(h:i<ns.length):∃v,atI (ns.map D.int) (i:Int)=some (.int v):=⟨ns[i],atI_nat (by simp [h])⟩
theorem cell_ok(ns:List Int)(k:Nat):∃v:Int,g__law_cell_at [iD ns,.int k]=some (.sh (.int v)):=by
 by_cases h:k<ns.length
 ·obtain⟨v,hv⟩:=il_at h
  have hc:evB Γ6 (.cmp .Lt (.var 1) (.un .len (.var 0))) (dEnv [some (.sh (iD ns)),some (.sh (.int k))])=some true:=by
   simp [evB,iD,h]
  refine⟨v,gP_rt1 rfl ?_⟩
  have e:ex Γ6 Δ1 none 100 b__law_cell_at [some (.sh (iD ns)),some (.sh (.int k))]=some (.rt (.sh (.int v)),[some (.sh (iD ns)),some (.sh (.int k))]):=by
   unfold b__law_cell_at
   rw [ex_seq,ex_ife,hc,obs,if_pos rfl,st_ret (by simp) (evX_scal (d:=.int v) rfl (by simp [iD,hv]) rfl)]
   rfl
  exact(congrArg _ e).trans rfl
 ·have hc:evB Γ6 (.cmp .Lt (.var 1) (.un .len (.var 0))) (dEnv [some (.sh (iD ns)),some (.sh (.int k))])=some false:=by
   simp [evB,iD];lia
  exact⟨0,gP_rt rfl ((st_skip hc).trans (st_ret (by simp) (evX_int _ _ _ _)))⟩
theorem mul_small(a:Int){b:Int}(h:decide (-(2 ^ 64)<b∧b<2 ^ 64)=true):binD .Mult (.int a) (.int b)=some (.int (a*b)):=by
 show(if mulOk a b then _ else _)=_
 rw [if_pos (by unfold mulOk;rw [h,Bool.or_true])]
theorem mod_pos(a:Int){b:Int}(h:0<b):binD .Mod (.int a) (.int b)=some (.int (a % b)):=by
 show(if decide (0<b)then _ else _)=_
 rw [if_pos (dtt h)]
noncomputable def PR:List Int:=[1000003,1000033,1000037,1000039,1000081,1000099,1000117,1000121,1000133,1000151,1000159,1000171,1000183,1000187,1000193,1000199]
theorem pr_at(k:Int):∃p:Int,0<p∧atI (PR.map D.int) (k % 16)=some (.int p):=by
 have h0:0≤k % 16:=Int.emod_nonneg _ (by decide)
 have h1:k % 16<16:=Int.emod_lt_of_pos _ (by decide)
 obtain⟨j,hj⟩:∃j:Nat,k % 16=j:=⟨(k % 16).toNat,by lia⟩
 rw [hj]
 have hj':j<PR.length:=by show j<16;lia
 refine⟨PR[j],?_,atI_nat (by simp [hj'])⟩
 have:∀x∈PR,(0:Int)<x:=by decide
 exact this _ (List.getElem_mem _)
theorem draw_ok(c k:Int){m:Nat}(hm:0<m):∃v:Nat,v<m∧g__law_draw [.int c,.int k,.int m]=some (.sh (.int v)):=by
 obtain⟨p,hp,hat⟩:=pr_at k
 have hv0:0≤((c*48271+k*69621) % p) % (m:Int):=Int.emod_nonneg _ (by lia)
 have hv1:((c*48271+k*69621) % p) % (m:Int)<m:=Int.emod_lt_of_pos _ (by lia)
 refine⟨(((c*48271+k*69621) % p) % (m:Int)).toNat,by lia,?_⟩
 rw [show(((((c*48271+k*69621) % p) % (m:Int)).toNat:Nat):Int)=((c*48271+k*69621) % p) % (m:Int) by lia]
 have e1:evX Γ7 none (.tup (.cons (.int 1000003) (.cons (.int 1000033) (.cons (.int 1000037) (.cons (.int 1000039) (.cons (.int 1000081) (.cons (.int 1000099) (.cons (.int 1000117) (.cons (.int 1000121) (.cons (.int 1000133) (.cons (.int 1000151) (.cons (.int 1000159) (.cons (.int 1000171) (.cons (.int 1000183) (.cons (.int 1000187) (.cons (.int 1000193) (.cons (.int 1000199) .nil))))))))))))))))) [some (.sh (.int c)),some (.sh (.int k)),some (.sh (.int m)),none]=some (.sh (.tup (PR.map D.int)),[some (.sh (.int c)),some (.sh (.int k)),some (.sh (.int m)),none]):=rfl
 have e2:ev Γ7 (.bin .Mod (.bin .Mod (.bin .Add (.bin .Mult (.var 0) (.int 48271)) (.bin .Mult (.var 1) (.int 69621))) (.idx (.var 3) (.bin .Mod (.var 1) (.int 16)))) (.var 2)) (dEnv [some (.sh (.int c)),some (.sh (.int k)),some (.sh (.int m)),some (.sh (.tup (PR.map D.int)))])=some (.int (((c*48271+k*69621) % p) % (m:Int))):=by
  simp only [dEnv_cons,dEnv_nil,Option.map_some,strip_sh,ev_bin,ev_var,ev_int,ev_idx,List.getElem?_cons_zero,List.getElem?_cons_succ,Option.join_some,obs]
  rw [mul_small c (by decide),mul_small k (by decide),mod_pos k (by decide)]
  simp only [obs,add_ii,idx_tup]
  rw [hat,obs,mod_pos _ hp,obs,mod_pos _ (by lia)]
 exact gP_rt rfl ((st_asg rfl e1).trans (st_ret (by simp) (evX_scal rfl e2 rfl)))
theorem ins_row{r:List Nat}(h:Bo.IsRow r){z:Nat}:Bo.IsRow (r.take z++r.length::r.drop z):=by
 have p:(r.take z++r.length::r.drop z).Perm (r.length::r):=by
  have:=List.perm_middle (l₁:=r.take z) (l₂:=r.drop z) (a:=r.length)
  rwa [List.take_append_drop]at this
 unfold Bo.IsRow
 rw [p.length_eq,List.length_cons,List.range_succ]
 exact p.trans ((h.cons _).trans (List.perm_append_singleton _ _).symm)
theorem row_ok(ns:List Int)(hl:ns.length≤63):∃r,Bo.IsRow r∧r.length=ns.length∧g__law_row [iD ns]=some (nT r):=by
 have w50:Γ8 50=some g__law_cell_at:=rfl
 have w51:Γ8 51=some g__law_draw:=rfl
 obtain⟨c0,hc0⟩:=cell_ok ns 0
 obtain⟨kind,hkind,hk0⟩:=draw_ok c0 6 (m:=4) (by decide)
 have e1:evX Γ8 none (.call 51 (.cons (.call 50 (.cons (.var 0) (.cons (.int 0) .nil))) (.cons (.int 6) (.cons (.int 4) .nil)))) [some (.sh (iD ns)),none,none,none,none]=some (.sh (.int kind),[some (.sh (iD ns)),none,none,none,none]):=by
  refine evX_callF w51 (l:=[.int c0,.int 6,.int 4]) ?_ hk0 rfl
  have hc0':g__law_cell_at [iD ns,.int 0]=some (.sh (.int c0)):=hc0
  simp [evs,w50,hc0']
 obtain⟨env',hf,r,x,y,rfl,hr,hrl⟩:=forL_from (step:=fun d e=>ex Γ8 Δ1 none 100 (.seq (.asg 4 (.call 51 (.cons (.idx (.var 0) (.var 3)) (.cons (.bin .Add (.bin .Mod (.var 3) (.int 5)) (.int 1)) (.cons (.bin .Add (.var 3) (.int 1)) .nil)))))
 (.seq (.ife (.cmp .Eq (.var 1) (.int 1))
 (.seq (.asg 4 (.mn (.var 4) (.call 51 (.cons (.idx (.var 0) (.var 3)) (.cons (.bin .Add (.bin .Mod (.var 3) (.int 7)) (.int 1)) (.cons (.int 4) .nil))))))
 .nop) .nop)
 (.seq (.ife (.cmp .Eq (.var 1) (.int 2))
 (.seq (.asg 4 (.mx (.var 4) (.bin .Sub (.var 3) (.call 51 (.cons (.idx (.var 0) (.var 3)) (.cons (.bin .Add (.bin .Mod (.var 3) (.int 7)) (.int 1)) (.cons (.int 4) .nil)))))))
 .nop) .nop)
 (.seq (.ife (.and (.cmp .Eq (.var 1) (.int 3)) (.cmp .Gt (.bin .Mod (.var 4) (.int 3)) (.int 0)))
 (.seq (.asg 4 (.int 0))
 .nop) .nop)
 (.seq (.ins 2 (.bin .Sub (.var 3) (.var 4)) (.var 3))
 .nop))))) (e.set 3 (some (.sh d)))) (fun k e=>∃r x y,e=[some (.sh (iD ns)),some (.sh (.int kind)),some (nT r),x,y]∧Bo.IsRow r∧r.length=k) (ds:=nl (List.range ns.length)) (env:=[some (.sh (iD ns)),some (.sh (.int kind)),some (.ow []),none,none]) ⟨[],_,_,rfl,Bo.isRow_range 0,rfl⟩ (fun k d e hd ⟨r,x,y,he,hr,hrl⟩=>by
  subst he
  obtain⟨hk,rfl⟩:=nl_get hd
  rw [List.length_range]at hk
  rw [ap_range hk]
  obtain⟨c,hat⟩:=il_at hk
  have hm5:∀q:Int,0<q→binD .Mod (.int k) (.int q)=some (.int ((k:Int) % q)):=fun q hq=>mod_pos _ hq
  obtain⟨a1,ha1,hg1⟩:=draw_ok c ((k:Int) % 5+1) (m:=k+1) (by lia)
  obtain⟨a2,ha2,hg2⟩:=draw_ok c ((k:Int) % 7+1) (m:=4) (by lia)
  have s1:∀y,evX Γ8 none (.call 51 (.cons (.idx (.var 0) (.var 3)) (.cons (.bin .Add (.bin .Mod (.var 3) (.int 5)) (.int 1)) (.cons (.bin .Add (.var 3) (.int 1)) .nil)))) [some (.sh (iD ns)),some (.sh (.int kind)),some (nT r),some (.sh (.int k)),y]=some (.sh (.int a1),[some (.sh (iD ns)),some (.sh (.int kind)),some (nT r),some (.sh (.int k)),y]):=fun y=>by
   refine evX_callF w51 (l:=[.int c,.int ((k:Int) % 5+1),.int ((k+1:Nat):Int)]) ?_ hg1 rfl
   simp [evs,iD,hat,hm5]
  have d2:∀y,ev Γ8 (.call 51 (.cons (.idx (.var 0) (.var 3)) (.cons (.bin .Add (.bin .Mod (.var 3) (.int 7)) (.int 1)) (.cons (.int 4) .nil)))) (dEnv [some (.sh (iD ns)),some (.sh (.int kind)),some (nT r),some (.sh (.int k)),y])=some (.int a2):=fun y=>by
   have hg2':g__law_draw [.int c,.int ((k:Int) % 7+1),.int 4]=some (.sh (.int a2)):=hg2
   simp [iD,hat,hm5,w51,hg2']
  have vk:∀(q:Int) (t y:Option T),evB Γ8 (.cmp .Eq (.var 1) (.int q)) (dEnv [some (.sh (iD ns)),some (.sh (.int kind)),some (nT r),t,y])=some (decide ((kind:Int)=q)):=fun q t y=>by
   simp [evB]
  have t2:∃b:Nat,b≤k∧∀K,ex Γ8 Δ1 none 100 (.seq (.ife (.cmp .Eq (.var 1) (.int 1))
 (.seq (.asg 4 (.mn (.var 4) (.call 51 (.cons (.idx (.var 0) (.var 3)) (.cons (.bin .Add (.bin .Mod (.var 3) (.int 7)) (.int 1)) (.cons (.int 4) .nil))))))
 .nop) .nop) K) [some (.sh (iD ns)),some (.sh (.int kind)),some (nT r),some (.sh (.int k)),some (.sh (.int a1))]=ex Γ8 Δ1 none 100 K [some (.sh (iD ns)),some (.sh (.int kind)),some (nT r),some (.sh (.int k)),some (.sh (.int b))]:=by
     by_cases h:(kind:Int)=1
     ·have hc:=vk 1 (some (.sh (.int k))) (some (.sh (.int a1)))
      rw [dtt h]at hc
      refine⟨if a2<a1 then a2 else a1,by split<;>lia,fun K=>st_if hc (env2:=[some (.sh (iD ns)),some (.sh (.int kind)),some (nT r),some (.sh (.int k)),some (.sh (.int ((if a2<a1 then a2 else a1:Nat):Int)))]) ?_⟩
      rw [if_pos rfl]
      refine(st_asg (t:=.sh (.int ((if a2<a1 then a2 else a1:Nat):Int))) rfl (evX_scal rfl ?_ rfl)).trans rfl
      rw [ev_mn,d2]
      simp
      split<;>rfl
     ·have hc:=vk 1 (some (.sh (.int k))) (some (.sh (.int a1)))
      rw [dff h]at hc
      exact⟨a1,by lia,fun K=>st_skip hc⟩
  obtain⟨b,hb,h2⟩:=t2
  have t3:∃b':Nat,b'≤k∧∀K,ex Γ8 Δ1 none 100 (.seq (.ife (.cmp .Eq (.var 1) (.int 2))
 (.seq (.asg 4 (.mx (.var 4) (.bin .Sub (.var 3) (.call 51 (.cons (.idx (.var 0) (.var 3)) (.cons (.bin .Add (.bin .Mod (.var 3) (.int 7)) (.int 1)) (.cons (.int 4) .nil)))))))
 .nop) .nop) K) [some (.sh (iD ns)),some (.sh (.int kind)),some (nT r),some (.sh (.int k)),some (.sh (.int b))]=ex Γ8 Δ1 none 100 K [some (.sh (iD ns)),some (.sh (.int kind)),some (nT r),some (.sh (.int k)),some (.sh (.int b'))]:=by
     have hc:=vk 2 (some (.sh (.int k))) (some (.sh (.int b)))
     by_cases h:(kind:Int)=2
     ·rw [dtt h]at hc
      have hmx:(if(k:Int)-a2>b then(k:Int)-a2 else b)=((if(k:Int)-a2>b then(k:Int)-a2 else b).toNat:Nat):=by split<;>lia
      refine⟨(if(k:Int)-a2>b then(k:Int)-a2 else b).toNat,by split<;>lia,fun K=>st_if hc (env2:=[some (.sh (iD ns)),some (.sh (.int kind)),some (nT r),some (.sh (.int k)),some (.sh (.int ((if(k:Int)-a2>b then(k:Int)-a2 else b).toNat:Nat)))]) ?_⟩
      rw [if_pos rfl,←hmx]
      refine(st_asg (t:=.sh (.int (if(k:Int)-a2>b then(k:Int)-a2 else b))) rfl (evX_scal rfl ?_ rfl)).trans rfl
      rw [ev_mx,ev_bin,d2]
      simp
     ·rw [dff h]at hc
      exact⟨b,hb,fun K=>st_skip hc⟩
  obtain⟨b',hb',h3⟩:=t3
  have t4:∃b2:Nat,b2≤k∧∀K,ex Γ8 Δ1 none 100 (.seq (.ife (.and (.cmp .Eq (.var 1) (.int 3)) (.cmp .Gt (.bin .Mod (.var 4) (.int 3)) (.int 0)))
 (.seq (.asg 4 (.int 0))
 .nop) .nop) K) [some (.sh (iD ns)),some (.sh (.int kind)),some (nT r),some (.sh (.int k)),some (.sh (.int b'))]=ex Γ8 Δ1 none 100 K [some (.sh (iD ns)),some (.sh (.int kind)),some (nT r),some (.sh (.int k)),some (.sh (.int b2))]:=by
     have hmod:binD .Mod (.int b') (.int 3)=some (.int ((b':Int) % 3)):=mod_pos _ (by decide)
     have hc:∃t,evB Γ8 (.and (.cmp .Eq (.var 1) (.int 3)) (.cmp .Gt (.bin .Mod (.var 4) (.int 3)) (.int 0))) (dEnv [some (.sh (iD ns)),some (.sh (.int kind)),some (nT r),some (.sh (.int k)),some (.sh (.int b'))])=some t:=by
      by_cases h:(kind:Int)=3<;>simp [evB,h,hmod]
     obtain⟨t,hc⟩:=hc
     cases t with
     |true=>
      refine⟨0,by lia,fun K=>st_if hc (env2:=[some (.sh (iD ns)),some (.sh (.int kind)),some (nT r),some (.sh (.int k)),some (.sh (.int ((0:Nat):Int)))]) ?_⟩
      rw [if_pos rfl]
      exact(st_asg rfl (evX_int _ _ _ _)).trans rfl
     |false=>exact⟨b',hb',fun K=>st_skip hc⟩
  obtain⟨b2,hb2,h4⟩:=t4
  refine⟨[some (.sh (iD ns)),some (.sh (.int kind)),some (nT (r.take (k-b2)++r.length::r.drop (k-b2))),some (.sh (.int k)),some (.sh (.int b2))],?_,_,_,_,rfl,ins_row hr,by simp;lia⟩
  refine(st_asg rfl (s1 y)).trans ((h2 _).trans ((h3 _).trans ((h4 _).trans ?_)))
  have hz:ev Γ8 (.bin .Sub (.var 3) (.var 4)) (dEnv [some (.sh (iD ns)),some (.sh (.int kind)),some (nT r),some (.sh (.int k)),some (.sh (.int b2))])=some (.int ((k-b2:Nat):Int)):=by
   simp;lia
  refine(st_ins (d:=.int k) (ts:=(nl r).map T.sh) hz rfl rfl rfl (by simp;lia) (sz_of (by simp;lia))).trans ?_
  have:nT (r.take (k-b2)++r.length::r.drop (k-b2))=.ow (((nl r).map T.sh).take (k-b2)++T.sh (.int k)::((nl r).map T.sh).drop (k-b2)):=by
   simp [nT,nl,hrl]
  rw [this]
  rfl)
 rw [nl_length,List.length_range]at hrl
 have hx:itX Γ8 none (.rng (.un .len (.var 0))) [some (.sh (iD ns)),some (.sh (.int kind)),some (.ow []),none,none]=some (nl (List.range ns.length),[some (.sh (iD ns)),some (.sh (.int kind)),some (.ow []),none,none]):=by
  simp [itX,isRng,its,iD,rngD_nat (n:=ns.length) (by lia)]
 exact⟨r,hr,hrl,gP_rt rfl ((st_asg2 rfl e1 (evX_nilL _ _ _)).trans ((st_for1 rfl hx hf).trans (st_retV (by simp) rfl)))⟩
end MI
end
noncomputable section
namespace MI
open PySem L2
open PySem.NumText (AllDigits digitsVal)
theorem fig_is(c:Nat):FIG.cps.contains c=decide (48≤c∧c≤57):=by
 have e:FIG.cps= #[48,49,50,51,52,53,54,55,56,57]:=by decide+kernel
 rw [e,Bool.eq_iff_iff]
 simp
 omega
theorem str_nil{x:Str}:x=("":Str)↔x.cps.toList=[]:=by
 have e:("":Str).cps= #[]:=by decide+kernel
 constructor
 ·intro h;rw [h,e]
 ·intro h
  obtain⟨a⟩:=x
  have:a= #[]:=by simpa using h
  rw [this]
  show _=_
  have e2:(⟨#[]⟩:Str)=("":Str):=by rw [←e]
  exact e2
theorem str_ext{x y:Str}(h:x.cps.toList=y.cps.toList):x=y:=by
 obtain⟨a⟩:=x
 obtain⟨b⟩:=y
 have:a=b:=by simpa using h
 rw [this]
theorem tw_all{p:Nat→Bool}:∀ {l:List Nat},(∀c∈l,p c=true)→l.takeWhile p=l
 |[],_=>rfl
 |c::l,h=>by rw [List.takeWhile_cons_of_pos (h c (List.mem_cons_self ..)),tw_all fun d hd=>h d (List.mem_cons_of_mem _ hd)]
theorem tw_len{p:Nat→Bool}{l:List Nat}(h:(l.takeWhile p).length=l.length):∀c∈l,p c=true:=fun c hc=>by
 have e:l.takeWhile p=l:=(List.takeWhile_prefix p).eq_of_length h
 rw [←e]at hc
 exact List.all_eq_true.mp List.all_takeWhile c hc
theorem strip_nil(x:Str):Txt.stripChars x FIG=("":Str)↔AllDigits x.cps.toList:=by
 have hx:x.length=x.cps.toList.length:=by simp [Str.length]
 unfold Txt.stripChars
 rw [PyProof.Rows.stripBy_eq,str_nil]
 show(x.cps.extract _ _).toList=[]↔_
 rw [Array.toList_extract]
 unfold stripHi stripLo
 simp only [if_true]
 generalize x.cps.toList=l at hx⊢
 rw [hx]
 constructor
 ·intro h c hc
  have key:(l.takeWhile FIG.cps.contains).length=l.length:=by
   apply Classical.byContradiction
   intro ne
   have le:(l.takeWhile FIG.cps.contains).length≤l.length:=(List.takeWhile_prefix _).length_le
   have hne:((l.drop (l.takeWhile FIG.cps.contains).length).reverse.takeWhile FIG.cps.contains).length≠(l.drop (l.takeWhile FIG.cps.contains).length).length:=fun z=>by
    have h1:∀c∈(l.drop (l.takeWhile FIG.cps.contains).length),FIG.cps.contains c=true:=fun c hc=>by
     have:=tw_len (p:=FIG.cps.contains) (l:=(l.drop (l.takeWhile FIG.cps.contains).length).reverse) (by rw [z,List.length_reverse])
     exact this c (List.mem_reverse.mpr hc)
    have h2:l.drop (l.takeWhile FIG.cps.contains).length=l.dropWhile FIG.cps.contains:=by
     have:=List.takeWhile_append_dropWhile (p:=FIG.cps.contains) (l:=l)
     conv=>lhs;arg 2;rw [←this]
     rw [List.drop_left']
     rfl
    rw [h2]at h1
    cases hd:l.dropWhile FIG.cps.contains with
    |nil=>
     have:=List.takeWhile_append_dropWhile (p:=FIG.cps.contains) (l:=l)
     rw [hd,List.append_nil]at this
     exact ne (by rw [this])
    |cons a r=>
     have h3:=List.head?_dropWhile_not FIG.cps.contains l
     rw [hd]at h1 h3
     have h4:=h1 a (List.mem_cons_self ..)
     simp only [List.head?_cons]at h3
     rw [h4]at h3
     cases h3
   have le2:((l.drop (l.takeWhile FIG.cps.contains).length).reverse.takeWhile FIG.cps.contains).length≤(l.drop (l.takeWhile FIG.cps.contains).length).length:=by
    have:=(List.takeWhile_prefix FIG.cps.contains (l:=(l.drop (l.takeWhile FIG.cps.contains).length).reverse)).length_le
    rwa [List.length_reverse]at this
   have h5:=congrArg List.length h
   rw [List.length_drop]at hne le2
   simp only [List.extract,List.length_take,List.length_drop,List.length_nil]at h5
   lia
  have:=tw_len key c hc
  rw [fig_is]at this
  exact odt this
 ·intro h
  have e:l.takeWhile FIG.cps.contains=l:=tw_all fun c hc=>by rw [fig_is];exact dtt (h c hc)
  rw [e]
  simp [List.extract]
theorem dig_back:∀d:Nat,d<10→(Nat.digitChar d).toNat=d+48:=by decide
theorem canon:∀(n:Nat) (l:List Nat),l.length=n→AllDigits l→l≠[]→(l.head?≠some 48∨l=[48])→l=(Nat.toDigits 10 (digitsVal l)).map Char.toNat:=by
 intro n
 induction n with
 |zero=>intro l h _ hne;exact absurd (List.length_eq_zero_iff.mp h) hne
 |succ n ih=>
  intro l hl hd hne h0
  obtain⟨u,c,rfl⟩:∃u c,l=u++[c]:=⟨l.dropLast,l.getLast hne,(List.dropLast_concat_getLast hne).symm⟩
  have hc:=hd c (by simp)
  rw [PySem.NumText.digitsVal_snoc]
  by_cases hu:u=[]
  ·subst hu
   have e:digitsVal []*10+(c-48)=c-48:=by show 0*10+(c-48)=_;lia
   rw [e,Nat.toDigits_of_lt_base (by lia)]
   show [c]=[(Nat.digitChar (c-48)).toNat]
   rw [dig_back _ (by lia),Nat.sub_add_cancel hc.1]
  ·have hh:u.head?≠some 48:=by
    rcases h0 with h0|h0
    ·cases u with
     |nil=>exact absurd rfl hu
     |cons a r=>exact h0
    ·have:=congrArg List.length h0
     rw [List.length_append,List.length_singleton,List.length_singleton]at this
     exact absurd (List.length_eq_zero_iff.mp (by lia)) hu
   have iu:=ih u (by rw [List.length_append,List.length_singleton]at hl;lia) (fun d h=>hd d (by simp [h])) hu (.inl hh)
   have pos:0<digitsVal u:=by
    apply Nat.pos_of_ne_zero
    intro z
    rw [z]at iu
    rw [iu]at hh
    exact hh rfl
   have t:Nat.toDigits 10 (digitsVal u)++Nat.toDigits 10 (c-48)=Nat.toDigits 10 (10*digitsVal u+(c-48)):=Nat.toDigits_append_toDigits (by decide) pos (by lia)
   rw [show digitsVal u*10+(c-48)=10*digitsVal u+(c-48) by lia,←t,List.map_append,←iu,Nat.toDigits_of_lt_base (by lia)]
   show u++[c]=u++[(Nat.digitChar (c-48)).toNat]
   rw [dig_back _ (by lia),Nat.sub_add_cancel hc.1]
theorem figS_list(n:Nat):(figS n).cps.toList=(Nat.toDigits 10 n).map Char.toNat:=W.KIN.signs_num n
theorem canon_fig{x:Str}(hd:AllDigits x.cps.toList)(hne:x≠("":Str))(h0:x.cps.toList.head?≠some 48∨x.cps.toList=[48]):x=figS (digitsVal x.cps.toList):=
 str_ext (by rw [figS_list];exact canon _ _ rfl hd (fun z=>hne (str_nil.mpr z)) h0)
theorem figS_val(n:Nat):digitsVal (figS n).cps.toList=n:=by rw [figS_list];exact W.KIN.val_back n
theorem figS_digits(n:Nat):AllDigits (figS n).cps.toList:=fun c hc=>by
 rw [figS_list]at hc
 obtain⟨ch,hch,e⟩:=List.mem_map.mp hc
 have r:=PyProof.Rows.digit_range (Nat.isDigit_of_mem_toDigits (by decide) (by decide) hch)
 rw [←e]
 exact r
theorem st_take{Γ:Tab}{Δ:IOT}{pio:Option Nat}{n:Nat}{env env2:TEnv}{c:E}{a k:S}{t:T}(h:evB Γ c (dEnv env)=some true)(h2:ex Γ Δ pio n a env=some (.rt t,env2)):ex Γ Δ pio n (.seq (.ife c a .nop) k) env=some (.rt t,env2):=by
 rw [ex_seq]
 have:ex Γ Δ pio n (.ife c a .nop) env=some (.rt t,env2):=by
  show(evB Γ c (dEnv env)).bind _=_
  rw [h]
  exact h2
 rw [this]
 rfl
def okS(x:Str):Prop:=∀c∈x.cps.toList,c<1114112
theorem okS.ok{x:Str}(h:okS x):PyData.strOk x=true:=by
 unfold PyData.strOk
 rw [←Array.all_toList,List.all_eq_true]
 exact fun c hc=>dtt (h c hc)
theorem eq_ss{x y:Str}(hx:okS x)(hy:okS y):eqD (.str x) (.str y)=some (decide (x=y)):=by
 have h:∀i:Str,okS i→PySem.SeqAt.shaped (.str i)=true:=fun i hi=>by simp [PySem.SeqAt.shaped,PyData.canLay0,PyData.depth,hi.ok]
 simp [eqD,toPy,h x hx,h y hy,PySem.SeqAt.noMix,PySem.Spec.same]
 by_cases e:x=y<;>simp [e]
instance (x:Str):Decidable (okS x):=inferInstanceAs (Decidable (∀c∈x.cps.toList,c<1114112))
theorem okS_nil:okS ("":Str):=by decide+kernel
theorem okS_0:okS ("0":Str):=by decide+kernel
theorem okS_m:okS ("-":Str):=by decide+kernel
theorem okS_sub{x y:Str}(h:okS x)(hs:∀c∈y.cps.toList,c∈x.cps.toList):okS y:=fun c hc=>h c (hs c hc)
theorem okS_strip{x:Str}(h:okS x):okS (Txt.stripChars x FIG):=okS_sub h fun c hc=>by
 unfold Txt.stripChars at hc
 rw [PyProof.Rows.stripBy_eq]at hc
 change c∈(x.cps.extract _ _).toList at hc
 rw [Array.toList_extract]at hc
 exact List.mem_of_mem_drop (List.mem_of_mem_take (by simpa [List.extract]using hc))
theorem okS_fig(n:Nat):okS (figS n):=fun c hc=>by have:=figS_digits n c hc;lia
noncomputable def badW(x:Str):Bool:=decide (x=("":Str))||(decide (6<x.length)||(!decide (Txt.stripChars x FIG=("":Str))||(decide (x.cps.toList.head?=some 48)&& !decide (x=("0":Str)))))
noncomputable def numD(x:Str):D:=if badW x then .non else .int (digitsVal x.cps.toList:Nat)
theorem nl0:("0":Str).cps.toList=[48]:=by decide+kernel
theorem badW_good{x:Str}(h:badW x=false):x=figS (digitsVal x.cps.toList)∧x.length≤6:=by
 unfold badW at h
 rw [Bool.or_eq_false_iff,Bool.or_eq_false_iff,Bool.or_eq_false_iff,Bool.and_eq_false_iff]at h
 obtain⟨h1,h2,h3,h4⟩:=h
 have h1:=of_decide_eq_false h1
 have h2:=of_decide_eq_false h2
 have h3:Txt.stripChars x FIG=("":Str):=by simpa using h3
 refine⟨canon_fig ((strip_nil x).mp h3) h1 ?_,by lia⟩
 rcases h4 with h4|h4
 ·exact .inl (of_decide_eq_false h4)
 ·have:x=("0":Str):=by simpa using h4
  exact .inr (by rw [this];exact nl0)
theorem fig_len{n:Nat}(h:n<1000000):(figS n).length≤6:=by
 have e:(figS n).length=(Nat.toDigits 10 n).length:=by
  have:=congrArg List.length (figS_list n)
  simpa [Str.length]using this
 rw [e]
 exact(Nat.length_toDigits_le_iff (by decide) (by decide)).mpr h
theorem fig_ne(n:Nat):(figS n).cps.toList≠[]:=by
 rw [figS_list]
 intro z
 exact Nat.toDigits_ne_nil (List.map_eq_nil_iff.mp z)
theorem fig_zero{n:Nat}(h:(figS n).cps.toList.head?=some 48):n=0:=by
 rw [figS_list]at h
 have go:∀m:Nat,((Nat.toDigits 10 m).map Char.toNat).head?=some 48→m=0:=by
  intro m
  induction m using Nat.strongRecOn with
  |_ m ih=>
   intro h
   by_cases hm:m<10
   ·rw [Nat.toDigits_of_lt_base hm]at h
    have:(Nat.digitChar m).toNat=48:=by simpa using h
    rw [dig_back m hm]at this
    lia
   ·rw [Nat.toDigits_eq_if (by decide),if_neg hm,List.map_append]at h
    have hne:(Nat.toDigits 10 (m/10)).map Char.toNat≠[]:=fun z=>Nat.toDigits_ne_nil (List.map_eq_nil_iff.mp z)
    cases hq:(Nat.toDigits 10 (m/10)).map Char.toNat with
    |nil=>exact absurd hq hne
    |cons a r=>
     rw [hq]at h
     have:=ih (m/10) (by lia) (by rw [hq];exact h)
     lia
 exact go n h
theorem badW_fig{n:Nat}(h:n<1000000):badW (figS n)=false:=by
 have h1:¬figS n=("":Str):=fun z=>fig_ne n (str_nil.mp z)
 have h2:¬6<(figS n).length:=by have:=fig_len h;lia
 have h3:Txt.stripChars (figS n) FIG=("":Str):=(strip_nil _).mpr (figS_digits n)
 unfold badW
 rw [dff h1,dff h2,dtt h3]
 by_cases h4:(figS n).cps.toList.head?=some 48
 ·have z:=fig_zero h4
  subst z
  decide+kernel
 ·rw [dff h4];rfl
theorem num_ok(x:Str)(hx:x.length≤1000000)(ox:okS x):g__law_number [.str x]=some (.sh (numD x)):=by
 have sz1:sz x.length=true:=sz_of hx
 have hb:evB Γ9 (.or (.cmp .Eq (.var 0) (.str "")) (.or (.cmp .Gt (.un .len (.var 0)) (.int 6)) (.or (.cmp .NotEq (.un .stp (.var 0)) (.str "")) (.and (.cmp .Eq (.idx (.var 0) (.int 0)) (.str "0")) (.cmp .NotEq (.var 0) (.str "0")))))) (dEnv [some (.sh (.str x))])=some (badW x):=by
  have a1:ev Γ9 (.cmp .Eq (.var 0) (.str "")) (dEnv [some (.sh (.str x))])=some (.bl (decide (x=("":Str)))):=by
   show cmpD .Eq (.str x) (.str "")=_
   rw [eq_dd,eq_ss ox okS_nil];rfl
  have a2:ev Γ9 (.cmp .Gt (.un .len (.var 0)) (.int 6)) (dEnv [some (.sh (.str x))])=some (.bl (decide (6<x.length))):=by
   rw [ev_cmp,ev_un]
   show((unD .len (.str x)).bind _)=_
   rw [len_str',if_pos sz1,obs,ev_int,obs,gt_ii]
   congr 2
   simp
   lia
  have a3:ev Γ9 (.cmp .NotEq (.un .stp (.var 0)) (.str "")) (dEnv [some (.sh (.str x))])=some (.bl (!decide (Txt.stripChars x FIG=("":Str)))):=by
   rw [ev_cmp,ev_un]
   show((unD .stp (.str x)).bind _)=_
   rw [un_stp,if_pos sz1,obs,ev_str,obs,ne_dd,eq_ss (okS_strip ox) okS_nil];rfl
  have a4:x≠("":Str)→ev Γ9 (.cmp .Eq (.idx (.var 0) (.int 0)) (.str "0")) (dEnv [some (.sh (.str x))])=some (.bl (decide (x.cps.toList.head?=some 48))):=fun hne=>by
   rw [ev_cmp,ev_idx]
   show((idxD (.str x) (.int 0)).bind _)=_
   cases hl:x.cps.toList with
   |nil=>exact absurd (str_nil.mpr hl) hne
   |cons c r=>
    rw [idx_str,if_pos sz1,hl]
    have:L2.atI (c::r) 0=some c:=atI_nat (xs:=c::r) (j:=0) rfl
    rw [this]
    show cmpD .Eq (.str ⟨#[c]⟩) (.str "0")=_
    have oc:okS ⟨#[c]⟩:=fun d hd=>ox d (by rw [hl];simp at hd;simp [hd])
    rw [eq_dd,eq_ss oc okS_0]
    have:((⟨#[c]⟩:Str)=("0":Str))↔c=48:=⟨fun z=>by
     have:=congrArg (fun s:Str=>s.cps.toList) z
     rw [show(("0":Str).cps.toList)=[48]from nl0]at this
     simpa using this,fun z=>str_ext (by rw [nl0,z])⟩
    simp [this]
  have a5:ev Γ9 (.cmp .NotEq (.var 0) (.str "0")) (dEnv [some (.sh (.str x))])=some (.bl (!decide (x=("0":Str)))):=by
   show cmpD .NotEq (.str x) (.str "0")=_
   rw [ne_dd,eq_ss ox okS_0];rfl
  unfold evB
  rw [ev_or,a1,obs,ifB_bl]
  by_cases e1:x=("":Str)
  ·unfold badW;rw [dtt e1];rfl
  ·rw [dff e1,if_neg (by decide),ev_or,a2,obs,ifB_bl]
   unfold badW
   rw [dff e1]
   by_cases e2:6<x.length
   ·rw [dtt e2];rfl
   ·rw [dff e2,if_neg (by decide),ev_or,a3,obs,ifB_bl]
    by_cases e3:Txt.stripChars x FIG=("":Str)
    ·rw [dtt e3,if_neg (by decide),ev_and,a4 e1,obs,ifB_bl]
     by_cases e4:x.cps.toList.head?=some 48
     ·rw [dtt e4,if_pos rfl,a5];rfl
     ·rw [dff e4];rfl
    ·rw [dff e3];rfl
 cases hw:badW x with
 |true=>
  rw [hw]at hb
  unfold numD
  rw [hw]
  exact gP_rt rfl (st_take hb (st_ret (by simp) (evX_scal rfl (ev_non _ _) rfl)))
 |false=>
  rw [hw]at hb
  obtain⟨e1,e2⟩:=badW_good hw
  have hi:ev Γ9 (.un .inti (.var 0)) (dEnv [some (.sh (.str x))])=some (.int (digitsVal x.cps.toList:Nat)):=by
   rw [ev_un]
   show unD .inti (.str x)=_
   rw [un_inti,if_pos (dtt (by lia))]
   have hd:AllDigits x.cps.toList:=by rw [e1];exact figS_digits _
   have hn:x.cps.toList≠[]:=by rw [e1];exact fig_ne _
   rw [PySem.intText_digits hd hn (by lia)];rfl
  unfold numD
  rw [hw]
  exact gP_rt rfl ((st_skip hb).trans (st_ret (by simp) (evX_scal rfl hi rfl)))
noncomputable def tabL(L:List Nat):List (Str×Int):=L.map fun i=>(figS i,(i:Int))
theorem lk_some{x:Str}{v:Int}:∀ {L:List Nat},lkS (tabL L) x=some v→∃i∈L,figS i=x∧v=i
 |[],h=>by cases h
 |a::L,h=>by
  unfold lkS tabL at h
  rw [List.map_cons,List.find?_cons]at h
  by_cases e:figS a=x
  ·rw [dtt e]at h
   cases h
   exact⟨a,by simp,e,rfl⟩
  ·rw [dff e]at h
   obtain⟨i,h1,h2⟩:=lk_some (L:=L) h
   exact⟨i,by simp [h1],h2⟩
theorem lk_at{m:Nat}:∀ {L:List Nat},m∈L→lkS (tabL L) (figS m)=some (m:Int)
 |a::L,h=>by
  unfold lkS tabL
  rw [List.map_cons,List.find?_cons]
  by_cases e:figS a=figS m
  ·rw [dtt e,figS_inj e];rfl
  ·rw [dff e]
   have:m∈L:=by
    rcases List.mem_cons.mp h with z|z
    ·exact absurd (by rw [z]) e
    ·exact z
   exact lk_at this
theorem del_tab(L:List Nat)(m:Nat):delS (tabL L) (figS m)=tabL (L.filter fun j=>decide (j≠m)):=by
 unfold delS tabL
 rw [List.filter_map]
 congr 1
 refine List.filter_congr fun j _=> ?_
 simp only [Function.comp]
 by_cases e:j=m
 ·simp [e]
 ·have:¬figS j=figS m:=fun z=>e (figS_inj z)
  simp [e,this]
theorem pop_some:∀(ws:List Str) (L:List Nat) {ns:List Int},popAll (tabL L) ws=some ns→∃ms:List Nat,ws=ms.map figS∧ns=ci ms∧ms.Nodup∧∀m∈ms,m∈L
 |[],L,ns,h=>by cases h;exact⟨[],rfl,rfl,List.nodup_nil,by simp⟩
 |x::r,L,ns,h=>by
  rw [popAll_cons]at h
  obtain⟨v,hv,h⟩:=bsi h
  obtain⟨n2,h2,rfl⟩:=msi h
  obtain⟨i,hi,rfl,rfl⟩:=lk_some hv
  rw [del_tab]at h2
  obtain⟨ms,rfl,rfl,nd,sub⟩:=pop_some r _ h2
  refine⟨i::ms,rfl,rfl,List.nodup_cons.mpr ⟨fun z=> ?_,nd⟩,fun m hm=> ?_⟩
  ·have:=sub i z
   simp at this
  ·rcases List.mem_cons.mp hm with z|z
   ·rw [z];exact hi
   ·exact(List.mem_filter.mp (sub m z)).1
theorem pop_at:∀(ms L:List Nat),ms.Nodup→(∀m∈ms,m∈L)→popAll (tabL L) (ms.map figS)=some (ci ms)
 |[],L,_,_=>rfl
 |m::ms,L,nd,sub=>by
  obtain⟨h1,h2⟩:=List.nodup_cons.mp nd
  rw [List.map_cons,popAll_cons,lk_at (sub m (by simp)),obs,del_tab,pop_at ms _ h2 fun k hk=> ?_]
  ·rfl
  ·refine List.mem_filter.mpr ⟨sub k (by simp [hk]),?_⟩
   exact dtt fun z=>h1 (z▸hk)
def Good(ws:List Str)(ms:List Nat):Prop:=ws=ms.map figS∧ms.Perm (List.range ws.length)
theorem Good.len{ws:List Str}{ms:List Nat}(h:Good ws ms):ms.length=ws.length:=by rw [h.1,List.length_map]
theorem Good.pop{ws:List Str}{ms:List Nat}(h:Good ws ms):popAll (tabS ws.length) ws=some (ci ms):=by
 have e:popAll (tabS ws.length) ws=popAll (tabL (List.range ws.length)) (ms.map figS):=by rw [←h.1];rfl
 rw [e]
 exact pop_at ms _ (h.2.nodup_iff.mpr List.nodup_range) fun m hm=>h.2.mem_iff.mp hm
theorem not_good{ws:List Str}(h:∀ms,¬Good ws ms):popAll (tabS ws.length) ws=none:=by
 cases e:popAll (tabS ws.length) ws with
 |none=>rfl
 |some ns=>
  obtain⟨ms,h1,h2,nd,sub⟩:=pop_some ws (List.range ws.length) e
  refine absurd ⟨h1,?_⟩ (h ms)
  have hl:ms.length=ws.length:=by rw [h1,List.length_map]
  have:=Bo.isRow_of nd fun m hm=>by rw [hl];exact List.mem_range.mp (sub m hm)
  unfold Bo.IsRow at this
  rwa [hl]at this
theorem compI{f:D→Option (Option D)}{h:D→D}:∀ {l:List D},(∀x∈l,f x=some (some (h x)))→compR f l=some (l.map h)
 |[],_=>rfl
 |x::l,hf=>by
  unfold compR
  rw [hf x (List.mem_cons_self ..),obs,compI fun y hy=>hf y (List.mem_cons_of_mem _ hy)]
  rfl
structure Ask(t:Str):Prop where
 len:t.length≤10000
 ok:okS t
 few:(Txt.split t BLK).length≤64
 no:∀ms,(Txt.split t BLK).length=64→¬Good (Txt.split t BLK) ms
 wl:∀w∈Txt.split t BLK,w.length≤1000000∧okS w
theorem spl_ok{t:Str}(h:Ask t):unD .spl (.str t)=some (.lst ((Txt.split t BLK).map D.str)):=by
 rw [un_spl,if_pos (sz_of (by have:=h.len;lia))]
theorem numD_scal(x:Str):scal (numD x)=true∧flatD (numD x)=true∧eqF (numD x) .non=badW x:=by
 unfold numD
 cases badW x<;>exact⟨rfl,rfl,rfl⟩
theorem found_ok{t:Str}(h:Ask t){o:Option T}:ev Γ10 (.comp (.call 76 (.cons (.var 0) .nil)) [] (.un .spl (.var 0)) .nil) (dEnv [some (.sh (.str t)),o])=some (.lst ((Txt.split t BLK).map numD)):=by
 have w76:Γ10 76=some g__law_number:=rfl
 have e1:ev Γ10 (.un .spl (.var 0)) (dEnv [some (.sh (.str t)),o])=some (.lst ((Txt.split t BLK).map D.str)):=by
  rw [ev_un]
  show unD .spl (.str t)=_
  exact spl_ok h
 rw [ev_comp,e1,obs,walkD_lst,obs,if_pos (sz_of (by rw [List.length_map];have:=h.few;lia)),compI (h:=fun d=>match d with| .str x=>numD x|d=>d) ?_]
 ·rw [Option.map_some,List.map_map];rfl
 ·intro d hd
  obtain⟨w,hw,rfl⟩:=List.mem_map.mp hd
  obtain⟨l1,l2⟩:=h.wl w hw
  have e2:ev Γ10 (.call 76 (.cons (.var 0) .nil)) (inner (dEnv [some (.sh (.str t)),o]) [] (.str w))=some (numD w):=by
   rw [ev_call,w76,obs]
   show(g__law_number [.str w]).map strip=_
   rw [num_ok w l1 l2,Option.map_some,strip_sh]
  rw [cS_nil,obs,if_pos rfl,e2];rfl
theorem Good.row{ws:List Str}{ms:List Nat}(h:Good ws ms):Bo.IsRow ms:=by
 unfold Bo.IsRow;rw [h.len];exact h.2
theorem Good.lt{ws:List Str}{ms:List Nat}(h:Good ws ms){m:Nat}(hm:m∈ms):m<ws.length:=List.mem_range.mp (h.2.mem_iff.mp hm)
theorem Good.uniq{ws:List Str}{ms ks:List Nat}(h:Good ws ms)(h':ws=ks.map figS):ks=ms:=by
 have e:(ks.map figS).map (fun x=>digitsVal x.cps.toList)=(ms.map figS).map fun x=>digitsVal x.cps.toList:=by rw [←h',h.1]
 have e2:∀l:List Nat,(l.map figS).map (fun x=>digitsVal x.cps.toList)=l:=fun l=>by
  rw [List.map_map]
  conv=>rhs;rw [←List.map_id l]
  exact List.map_congr_left fun m _=>figS_val m
 rw [e2,e2]at e
 exact e
theorem nat_good{ws:List Str}(h:∀w∈ws,badW w=false):∃ms:List Nat,ws=ms.map figS∧ws.map numD=nl ms:=by
 refine⟨ws.map fun x=>digitsVal x.cps.toList,?_,?_⟩
 ·rw [List.map_map]
  conv=>lhs;rw [←List.map_id ws]
  exact List.map_congr_left fun w hw=>(badW_good (h w hw)).1
 ·unfold nl
  rw [List.map_map]
  refine List.map_congr_left fun w hw=> ?_
  unfold numD
  rw [h w hw];rfl
theorem sort_range{ms:List Nat}{n:Nat}(hn:ms.length=n):isort (ci ms)=ci (List.range n)↔ms.Perm (List.range n):=by
 have sorted:(ci (List.range n)).Pairwise (· ≤·):=by
  unfold ci
  rw [List.pairwise_map]
  exact(List.pairwise_lt_range).imp fun h=>by lia
 constructor
 ·intro h
  have p:(ci ms).Perm (ci (List.range n)):=by rw [←h];exact(isort_perm _).symm
  have:=p.map Int.toNat
  unfold ci at this
  rw [List.map_map,List.map_map]at this
  have e:∀l:List Nat,l.map (Int.toNat∘fun n:Nat=>(n:Int))=l:=fun l=>by
   conv=>rhs;rw [←List.map_id l]
   exact List.map_congr_left fun m _=>by simp
  rwa [e,e]at this
 ·intro h
  exact(isort_eq ((h.map fun n:Nat=>(n:Int)).symm) sorted).symm
theorem in_non(ws:List Str):inD .non (ws.map numD)=some (ws.any badW):=by
 unfold inD
 have h1:(ws.map numD).all flatD=true:=by
  rw [List.all_eq_true]
  intro d hd
  obtain⟨w,_,rfl⟩:=List.mem_map.mp hd
  exact(numD_scal w).2.1
 rw [if_pos (by rw [h1];rfl),List.any_map]
 congr 2
 funext w
 exact(numD_scal w).2.2
noncomputable abbrev cIn:E:=.or (.cmp .In .non (.var 1)) (.sne (.var 1) (.un .lrng (.un .len (.var 1))))
theorem cond_ev{t:Str}(h:Ask t)(b:Bool)(h0:(Txt.split t BLK).any badW=true→b=true)(h1:∀ms,Txt.split t BLK=ms.map figS→sneD (nD ms) (nD (List.range ms.length))=some (.bl b)):evB Γ10 cIn (dEnv [some (.sh (.str t)),some (.ow (((Txt.split t BLK).map numD).map T.sh))])=some b:=by
 have e0:dEnv [some (.sh (.str t)),some (.ow (((Txt.split t BLK).map numD).map T.sh))]=[some (.str t),some (.lst ((Txt.split t BLK).map numD))]:=by
  rw [dEnv_cons,dEnv_cons,dEnv_nil,Option.map_some,Option.map_some,strip_sh,strip_ow,map_strip_sh]
 have v1:ev Γ10 (.var 1) [some (.str t),some (.lst ((Txt.split t BLK).map numD))]=some (.lst ((Txt.split t BLK).map numD)):=rfl
 rw [e0]
 unfold evB cIn
 rw [ev_or,ev_cmp,ev_non,obs,v1,obs,in_l,in_non,Option.map_some,obs,ifB_bl]
 cases hb:(Txt.split t BLK).any badW with
 |true=>rw [if_pos rfl,h0 hb];rfl
 |false=>
  rw [if_neg (by decide)]
  obtain⟨ms,e1,e2⟩:=nat_good (ws:=Txt.split t BLK) fun w hw=>by
   cases z:badW w with
   |false=>rfl
   |true=>rw [List.any_eq_true.mpr ⟨w,hw,z⟩]at hb;cases hb
  have hl:ms.length≤64:=by have:=h.few;rw [e1,List.length_map]at this;exact this
  rw [ev_sne,v1,obs,ev_un,ev_un,v1,obs,len_lst,obs,e2,show(nl ms).length=ms.length by simp [nl],lrng_nat (by lia),obs]
  have:=h1 ms e1
  unfold nD at this⊢
  rw [this];rfl
theorem in_bad{t:Str}(h:Ask t)(ht:t≠("-":Str))(hb:∀ms,¬Good (Txt.split t BLK) ms):g__law_in [.str t]=some (.sh .non):=by
 have b0:evB Γ10 (.cmp .Eq (.var 0) (.str "-")) (dEnv [some (.sh (.str t)),none])=some false:=by
  show((eqD (.str t) (.str "-")).map D.bl).bind truthD=_
  rw [eq_ss h.ok okS_m,dff ht]
  rfl
 have a1:=evX_flat (Γ:=Γ10) (pio:=none) (m:=.comp (.call 76 (.cons (.var 0) .nil)) [] (.un .spl (.var 0)) .nil) rfl rfl (found_ok h (o:=none)) (List.all_eq_true.mpr fun d hd=>by obtain⟨w,_,rfl⟩:=List.mem_map.mp hd;exact(numD_scal w).1)
 have c1:=cond_ev h true (fun _=>rfl) fun ms e=>by
  have hl:(Txt.split t BLK).length=ms.length:=by rw [e,List.length_map]
  have hf:=h.few
  rw [hl]at hf
  have np:¬ms.Perm (List.range ms.length):=fun p=>hb ms ⟨e,by rw [hl];exact p⟩
  unfold nD
  rw [sneD_ll,nl_ci,nl_ci,intsD_map,obs,intsD_map,obs,show(ci ms).length=ms.length by simp [ci]]
  by_cases h64:ms.length<64
  ·rw [if_pos (dtt h64),dff fun z=>np ((sort_range rfl).mp z)];rfl
  ·rw [if_neg (by simpa using h64),if_pos]
   rw [Bool.and_eq_true]
   refine⟨dtt (by lia),?_⟩
   cases hp:(ci ms).isPerm (ci (List.range ms.length))with
   |false=>rfl
   |true=>
    have p:=List.isPerm_iff.mp hp
    exact absurd ((sort_range rfl).mp ((isort_eq (p.symm) (by unfold ci;rw [List.pairwise_map];exact(List.pairwise_lt_range).imp fun h=>by lia)).symm)) np
 exact gP_rt rfl ((st_skip b0).trans ((st_asg rfl a1).trans (st_take c1 (st_ret (by simp) (evX_scal rfl (ev_non _ _) rfl)))))
theorem in_good{t:Str}(h:Ask t)(ht:t≠("-":Str)){ms:List Nat}(hg:Good (Txt.split t BLK) ms):g__law_in [.str t]=some (nT ms):=by
 have b0:evB Γ10 (.cmp .Eq (.var 0) (.str "-")) (dEnv [some (.sh (.str t)),none])=some false:=by
  show((eqD (.str t) (.str "-")).map D.bl).bind truthD=_
  rw [eq_ss h.ok okS_m,dff ht]
  rfl
 have a1:=evX_flat (Γ:=Γ10) (pio:=none) (m:=.comp (.call 76 (.cons (.var 0) .nil)) [] (.un .spl (.var 0)) .nil) rfl rfl (found_ok h (o:=none)) (List.all_eq_true.mpr fun d hd=>by obtain⟨w,_,rfl⟩:=List.mem_map.mp hd;exact(numD_scal w).1)
 have hf:=h.few
 have lt:ms.length<64:=by
  have:=h.no ms
  have hl:=hg.len
  apply Classical.byContradiction
  intro z
  exact this (by lia) hg
 have nb:∀w∈Txt.split t BLK,badW w=false:=fun w hw=>by
  have hw':=hw
  rw [hg.1]at hw'
  obtain⟨m,hm,rfl⟩:=List.mem_map.mp hw'
  exact badW_fig (by have:=hg.lt hm;lia)
 have c1:=cond_ev h false (fun z=>by
  obtain⟨w,hw,hz⟩:=List.any_eq_true.mp z
  rw [nb w hw]at hz
  cases hz) fun ks e=>by
  have:=hg.uniq e
  subst this
  unfold nD
  rw [sneD_ll,nl_ci,nl_ci,intsD_map,obs,intsD_map,obs,show(ci ks).length=ks.length by simp [ci],if_pos (dtt lt),dtt ((sort_range rfl).mpr (by have:=hg.2;rwa [←hg.len]at this))];rfl
 have e3:(Txt.split t BLK).map numD=nl ms:=by
  obtain⟨ks,e1,e2⟩:=nat_good nb
  rw [e2,hg.uniq e1]
 rw [e3]at a1 c1
 exact gP_rt rfl ((st_skip b0).trans ((st_asg rfl a1).trans ((st_skip c1).trans (st_retV (by simp) rfl))))
theorem in_none:g__law_in [.str "-"]=some (.ow []):=by
 have hb:evB Γ10 (.cmp .Eq (.var 0) (.str "-")) (dEnv [some (.sh (.str "-")),none])=some true:=by
  show((eqD (.str "-") (.str "-")).map D.bl).bind truthD=_
  rw [eq_ss okS_m okS_m]
  rfl
 exact gP_rt rfl (st_take hb (st_ret (by simp) (evX_flat (ds:=[]) rfl rfl rfl rfl)))
theorem isi_str(Γ:Tab)(t:Str):evB Γ (.not (.isi (.var 0) 4)) (dEnv [some (.sh (.str t))])=some false:=rfl
theorem rd_none:g_read [.str "-"]=some (.ow []):=by
 have hb:evB Γ5 (.cmp .Eq (.var 0) (.str "-")) (dEnv [some (.sh (.str "-"))])=some true:=by
  show((eqD (.str "-") (.str "-")).map D.bl).bind truthD=_
  rw [eq_ss okS_m okS_m]
  rfl
 exact gP_rt rfl ((st_skip (isi_str _ _)).trans (st_take hb (st_ret (by simp) (evX_flat (ds:=[]) rfl rfl rfl rfl))))
theorem spl_ev{Γ:Tab}{t:Str}(h:Ask t):evs Γ (.cons (.un .spl (.var 0)) .nil) [some (.str t)]=some [.lst ((Txt.split t BLK).map D.str)]:=by
 unfold evs
 rw [ev_cons,ev_un]
 show((unD .spl (.str t)).bind _).bind _=_
 rw [spl_ok h];rfl
theorem rd_good{t:Str}(h:Ask t)(ht:t≠("-":Str)){ms:List Nat}(hg:Good (Txt.split t BLK) ms):g_read [.str t]=some (nT ms):=by
 have b0:evB Γ5 (.cmp .Eq (.var 0) (.str "-")) (dEnv [some (.sh (.str t))])=some false:=by
  show((eqD (.str t) (.str "-")).map D.bl).bind truthD=_
  rw [eq_ss h.ok okS_m,dff ht]
  rfl
 have w45:Γ5 45=some gRow:=rfl
 have hg2:gRow [.lst ((Txt.split t BLK).map D.str)]=some (nT ms):=by
  show(strsD _).bind _=_
  rw [strsD_map,obs,if_pos (dtt (by have:=h.few;lia)),hg.pop,Option.map_some]
  unfold nT nl ci
  rw [List.map_map,List.map_map]
  rfl
 exact gP_rt rfl ((st_skip (isi_str _ _)).trans ((st_skip b0).trans (st_ret (by simp) (evX_callF w45 (spl_ev h) hg2 (flat_nT ms)))))
theorem rd_bad{t:Str}(h:Ask t)(ht:t≠("-":Str))(hb:∀ms,¬Good (Txt.split t BLK) ms):x_read [.str t]=some ("BadText":Str):=by
 have b0:evB Γ6 (.cmp .Eq (.var 0) (.str "-")) [some (.str t)]=some false:=by
  show((eqD (.str t) (.str "-")).map D.bl).bind truthD=_
  rw [eq_ss h.ok okS_m,dff ht]
  rfl
 have b1:evB Γ6 (.not (.isi (.var 0) 4)) [some (.str t)]=some false:=rfl
 have hx:xRow [.lst ((Txt.split t BLK).map D.str)]=some ("BadText":Str):=by
  show(strsD _).bind _=_
  rw [strsD_map,obs,if_pos]
  rw [not_good hb,Bool.and_eq_true]
  exact⟨dtt (by have:=h.few;lia),rfl⟩
 have:x_read [.str t]=rx Γ6 Ξ1 [some (.str t)] r_read:=by
  unfold x_read gX
  rw [if_pos (show [D.str t].length=1 from rfl)]
  rfl
 rw [this]
 unfold r_read
 show(evB Γ6 (.not (.isi (.var 0) 4)) [some (.str t)]).bind _=_
 rw [b1,obs,if_neg (by decide)]
 show(evB Γ6 (.cmp .Eq (.var 0) (.str "-")) [some (.str t)]).bind _=_
 rw [b0,obs,if_neg (by decide)]
 show(evs Γ6 (.cons (.un .spl (.var 0)) .nil) [some (.str t)]).bind xRow=_
 rw [spl_ev h,obs,hx]
theorem join_ev{Γ:Tab}{env:Env}{i:Nat}{r:List Nat}(h:Bo.IsRow r)(hl:r.length≤64)(hv:(env[i]?).join=some (nD r)):ev Γ (.un .joi (.comp (.un .stri (.var 0)) [] (.var i) .nil)) env=some (.str (Txt.join BLK (r.map figS))):=by
 have hc:ev Γ (.comp (.un .stri (.var 0)) [] (.var i) .nil) env=some (.lst ((r.map figS).map D.str)):=by
  rw [ev_comp,ev_var,hv,obs]
  show(some (nl r)).bind _=_
  rw [obs,if_pos (sz_of (by simp [nl];lia)),compI (h:=fun d=>match d with| .int n=> .str (figS n.toNat)|d=>d) ?_]
  ·rw [Option.map_some]
   unfold nl
   rw [List.map_map,List.map_map]
   congr 2
  ·intro d hd
   unfold nl at hd
   obtain⟨m,hm,rfl⟩:=List.mem_map.mp hd
   have lt:=h.mem.mp hm
   have h3:((inner env [] (D.int (m:Int)))[0]?).join=some (.int m):=rfl
   rw [cS_nil,obs,if_pos rfl,ev_un,ev_var,h3,obs,un_stri,if_pos (dtt ⟨by lia,by lia⟩)]
   rfl
 rw [ev_un,hc,obs,un_joi,strsD_map,obs,if_pos]
 unfold JoinOk
 have:=PySem.StrLaws.joinFits (sep:=BLK) (texts:=r.map figS) (B:=6) (fun y hy=>by
  obtain⟨m,hm,rfl⟩:=List.mem_map.mp hy
  exact fig_len (by have:=h.mem.mp hm;lia)) (by
  have e:BLK.length=1:=by decide+kernel
  rw [List.length_map,e];lia)
 rw [this];rfl
theorem written_ok{r:List Nat}(h:Bo.IsRow r)(hl:r.length≤64):g_written [nD r]=some (.sh (.str (if r=[]then("-":Str)else Txt.join BLK (r.map figS)))):=by
 have w2:Γ3 2=some g_need_row:=rfl
 have d1:evX Γ3 none (.call 2 (.cons (.var 0) .nil)) [some (.sh (nD r))]=some (.sh .non,[some (.sh (nD r))]):=evX_callF w2 rfl (need_row_ok h (by lia)) (by rw [flatT_sh];rfl)
 have b1:evB Γ3 (.cmp .Eq (.un .len (.var 0)) (.int 0)) (dEnv [some (.sh (nD r))])=some (decide (r=[])):=by
  unfold evB
  rw [ev_cmp,ev_un]
  show((unD .len (.lst (nl r))).bind _).bind _=_
  rw [len_lst,obs,ev_int,obs,eq_dd,eq_ii,Option.map_some,obs,truthD_bl]
  congr 1
  cases r<;>simp [nl]
  lia
 by_cases hr:r=[]
 ·rw [dtt hr]at b1
  rw [if_pos hr]
  exact gP_rt rfl ((st_drop d1).trans (st_take b1 (st_ret (by simp) (evX_scal rfl (ev_str _ _ _) rfl))))
 ·rw [dff hr]at b1
  rw [if_neg hr]
  have e2:ev Γ3 (.un .joi (.comp (.un .stri (.var 0)) [] (.var 0) .nil)) (dEnv [some (.sh (nD r))])=some (.str (Txt.join BLK (r.map figS))):=join_ev h hl rfl
  exact gP_rt rfl ((st_drop d1).trans ((st_skip b1).trans (st_ret (by simp) (evX_scal rfl e2 rfl))))
theorem blk_is:BLK=⟨#[32]⟩:=by decide+kernel
theorem join_parts(t:Str):Txt.join BLK (Txt.split t BLK)=t:=by
 show Builtin.Str.glued _ _=t
 rw [StrLaws.glued_eq_join,StrLaws.join_split]
theorem app_list(a b:Str):(a++b).cps.toList=a.cps.toList++b.cps.toList:=by
 show(a.cps++b.cps).toList=_
 exact Array.toList_append
theorem app_len(a b:Str):(a++b).length=a.length+b.length:=by
 show(a.cps++b.cps).size=_
 exact Array.size_append
theorem join_len:∀(l:List Str),l≠[]→(Str.join BLK l).length+1=(l.map (·.length)).sum+l.length
 |[],h=>absurd rfl h
 |[x],_=>by simp [Str.join]
 |x::y::r,_=>by
  have ih:=join_len (y::r) (by simp)
  have e:Str.join BLK (x::y::r)=x++BLK++Str.join BLK (y::r):=rfl
  have eb:BLK.length=1:=by rw [blk_is];rfl
  rw [e,app_len,app_len,eb,List.map_cons,List.sum_cons,List.length_cons]
  lia
theorem mem_join{w:Str}{c:Nat}(hc:c∈w.cps.toList):∀ {l:List Str},w∈l→c∈(Str.join BLK l).cps.toList
 |[x],h=>by
  rw [List.mem_singleton]at h
  subst h
  exact hc
 |x::y::r,h=>by
  have e:Str.join BLK (x::y::r)=x++BLK++Str.join BLK (y::r):=rfl
  rw [e,app_list,app_list]
  rcases List.mem_cons.mp h with z|z
  ·subst z
   simp [hc]
  ·have:=mem_join hc z
   simp [this]
theorem len_join{w:Str}:∀ {l:List Str},w∈l→w.length≤(Str.join BLK l).length
 |[x],h=>by
  rw [List.mem_singleton]at h
  subst h
  exact Nat.le_refl _
 |x::y::r,h=>by
  have e:Str.join BLK (x::y::r)=x++BLK++Str.join BLK (y::r):=rfl
  rw [e,app_len,app_len]
  rcases List.mem_cons.mp h with z|z
  ·subst z;lia
  ·have:=len_join z
   lia
theorem cnt_count(c:Nat):∀l:List Nat,PyProof.Rows.cnt c l=(l.count c:Nat)
 |[]=>rfl
 |a::l=>by
  rw [PyProof.Rows.cnt_cons,cnt_count c l,List.count_cons]
  by_cases e:a=c<;>simp [e]<;>lia
theorem split_count(t:Str):(Txt.split t BLK).length=1+t.cps.toList.count 32:=by
 have:=PyProof.Rows.split_len t 32
 rw [←blk_is,cnt_count]at this
 lia
theorem sum_perm{l m:List Nat}(h:l.Perm m):l.sum=m.sum:=by
 induction h with
 |nil=>rfl
 |cons x _ ih=>rw [List.sum_cons,List.sum_cons,ih]
 |swap x y l=>rw [List.sum_cons,List.sum_cons,List.sum_cons,List.sum_cons];lia
 |trans _ _ a b=>exact a.trans b
theorem mk_ask{t:Str}(hl:t.length≤10000)(ho:okS t)(hc:t.cps.toList.count 32≤63)(h63:t.cps.toList.count 32=63→t.length≤180):Ask t:=by
 have jp:=join_parts t
 have jp':Str.join BLK (Txt.split t BLK)=t:=StrLaws.join_split t BLK
 refine⟨hl,ho,by rw [split_count];lia,fun ms h64 hg=> ?_,fun w hw=>⟨?_,fun c hcw=>ho c ?_⟩⟩
 ·rw [split_count]at h64
  have h1:=h63 (by lia)
  have h2:(Txt.split t BLK).length=64:=by rw [split_count];lia
  have h3:=join_len (Txt.split t BLK) (fun z=>by rw [z]at h2;cases h2)
  rw [jp',h2]at h3
  have h4:((Txt.split t BLK).map (·.length)).sum=((List.range 64).map fun m=>(figS m).length).sum:=by
   have p:=hg.2
   rw [h2]at p
   rw [hg.1,List.map_map]
   exact sum_perm (p.map _)
  have h5:((List.range 64).map fun m=>(figS m).length).sum=118:=by decide+kernel
  rw [h4,h5]at h3
  lia
 ·have:=len_join hw
  rw [jp']at this
  lia
 ·have:=mem_join hcw hw
  rwa [jp']at this
theorem right_of{t:Str}{ms:List Nat}(ho:okS t)(hi:g__law_in [.str t]=some (nT ms))(hr:g_read [.str t]=some (nT ms))(row:Bo.IsRow ms)(hl:ms.length≤63)(hw:(if ms=[]then("-":Str)else Txt.join BLK (ms.map figS))=t):g__law_right [.str t]=some (.sh (.bl true)):=by
 have w77:Γ12 77=some g__law_in:=rfl
 have w46:Γ12 46=some g_read:=rfl
 have w44:Γ12 44=some g_written:=rfl
 have a1:evX Γ12 none (.call 77 (.cons (.var 0) .nil)) [some (.sh (.str t)),none,none]=some (nT ms,[some (.sh (.str t)),none,none]):=evX_callF w77 rfl hi (flat_nT ms)
 have b1:evB Γ12 (.cmp .Is (.var 1) .non) (dEnv [some (.sh (.str t)),some (nT ms),none])=some false:=by
  unfold evB
  rw [dEnv_cons,dEnv_cons,Option.map_some,Option.map_some,strip_nT]
  rfl
 have a2:evX Γ12 none (.call 46 (.cons (.var 0) .nil)) [some (.sh (.str t)),some (nT ms),none]=some (nT ms,[some (.sh (.str t)),some (nT ms),none]):=evX_callF w46 rfl hr (flat_nT ms)
 have de:dEnv [some (.sh (.str t)),some (nT ms),some (nT ms)]=[some (.str t),some (nD ms),some (nD ms)]:=by
  rw [dEnv_cons,dEnv_cons,dEnv_cons,dEnv_nil,Option.map_some,Option.map_some,strip_nT,strip_sh]
 have b2:evB Γ12 (.or (.not (.isi (.var 2) 2)) (.or (.cmp .NotEq (.var 2) (.var 1)) (.cmp .NotEq (.call 44 (.cons (.var 2) .nil)) (.var 0)))) (dEnv [some (.sh (.str t)),some (nT ms),some (nT ms)])=some false:=by
  rw [de]
  have e1:ev Γ12 (.not (.isi (.var 2) 2)) [some (.str t),some (nD ms),some (nD ms)]=some (.bl false):=rfl
  have e2:ev Γ12 (.cmp .NotEq (.var 2) (.var 1)) [some (.str t),some (nD ms),some (nD ms)]=some (.bl false):=by
   rw [ev_cmp]
   show cmpD .NotEq (nD ms) (nD ms)=_
   rw [ne_dd,eq_nn,dtt rfl];rfl
  have e3:ev Γ12 (.cmp .NotEq (.call 44 (.cons (.var 2) .nil)) (.var 0)) [some (.str t),some (nD ms),some (nD ms)]=some (.bl false):=by
   have e4:ev Γ12 (.call 44 (.cons (.var 2) .nil)) [some (.str t),some (nD ms),some (nD ms)]=some (.str t):=by
    rw [ev_call,w44,obs]
    show(g_written [nD ms]).map strip=_
    rw [written_ok row (by lia),hw,Option.map_some,strip_sh]
   rw [ev_cmp,e4,obs]
   show cmpD .NotEq (.str t) (.str t)=_
   rw [ne_dd,eq_ss ho ho,dtt rfl];rfl
  unfold evB
  rw [ev_or,e1,obs,ifB_f,ev_or,e2,obs,ifB_f,e3];rfl
 have a3:evX Γ12 none (.int 0) [some (.sh (.str t)),some (nT ms),some (nT ms)]=some (.sh (.int 0),[some (.sh (.str t)),some (nT ms),some (nT ms)]):=evX_scal rfl (ev_int _ _ _) rfl
 have r1:ev Γ12 (.cmp .Eq (.call 46 (.cons (.var 0) .nil)) (.var 1)) (dEnv [some (.sh (.str t)),some (nT ms),some (.ow ((nl ms).map T.sh++[.sh (.int 0)]))])=some (.bl true):=by
  have e4:ev Γ12 (.call 46 (.cons (.var 0) .nil)) (dEnv [some (.sh (.str t)),some (nT ms),some (.ow ((nl ms).map T.sh++[.sh (.int 0)]))])=some (nD ms):=by
   rw [ev_call,w46,obs]
   rw [dEnv_cons,Option.map_some,strip_sh]
   show(g_read [.str t]).map strip=_
   rw [hr,Option.map_some,strip_nT]
  rw [ev_cmp,e4,obs,dEnv_cons,dEnv_cons,Option.map_some,Option.map_some,strip_nT]
  show cmpD .Eq (nD ms) (nD ms)=_
  rw [eq_dd,eq_nn,dtt rfl];rfl
 exact gP_rt rfl ((st_asg rfl a1).trans ((st_skip b1).trans ((st_asg rfl a2).trans ((st_skip b2).trans ((st_app (ts:=(nl ms).map T.sh) a3 rfl (sz_of (by simp [nl];lia))).trans (st_ret (by simp) (evX_scal rfl r1 rfl)))))))
theorem right_ok{t:Str}(h:Ask t):g__law_right [.str t]=some (.sh (.bl true)):=by
 by_cases ht:t=("-":Str)
 ·subst ht
  exact right_of (ms:=[]) okS_m in_none rd_none (Bo.isRow_range 0) (by decide) rfl
 ·by_cases hg:∃ms,Good (Txt.split t BLK) ms
  ·obtain⟨ms,hg⟩:=hg
   have hl:=hg.len
   have hf:=h.few
   have hp:=split_count t
   have n64:(Txt.split t BLK).length≠64:=fun z=>h.no ms z hg
   refine right_of h.ok (in_good h ht hg) (rd_good h ht hg) hg.row (by lia) ?_
   rw [if_neg (fun z=>by rw [z,List.length_nil]at hl;lia),←hg.1]
   exact join_parts t
  ·have hb:∀ms,¬Good (Txt.split t BLK) ms:=fun ms z=>hg ⟨ms,z⟩
   have w77:Γ12 77=some g__law_in:=rfl
   have w78:Γ12 78=some (gRef x_read):=rfl
   have a1:evX Γ12 none (.call 77 (.cons (.var 0) .nil)) [some (.sh (.str t)),none,none]=some (.sh .non,[some (.sh (.str t)),none,none]):=evX_callF w77 rfl (in_bad h ht hb) (by rw [flatT_sh];rfl)
   have b1:evB Γ12 (.cmp .Is (.var 1) .non) (dEnv [some (.sh (.str t)),some (.sh .non),none])=some true:=rfl
   have hr:gRef x_read [.str t]=some (.sh (.bl true)):=by
    show(x_read [.str t]).bind _=_
    rw [rd_bad h ht hb]
    rfl
   exact gP_rt rfl ((st_asg rfl a1).trans (st_take b1 (st_ret (by simp) (evX_callF w78 rfl hr (by rw [flatT_sh];rfl)))))
end MI
end
noncomputable section
namespace MI
open PySem L2
theorem take_slice{x:Str}{a:Nat}(h:a≤x.length):(Txt.slice x none (some (a:Int))).cps.toList=x.cps.toList.take a:=by
 have:=beq_iff_eq.mp (PyProof.Rows.slice_closes_toL (x:=x) (j:=(a:Int)) (by lia) (by lia))
 rw [this]
 simp
theorem drop_slice{x:Str}{b:Nat}:(Txt.slice x (some (b:Int)) none).cps.toList=x.cps.toList.drop b:=by
 have e:x.length=x.cps.toList.length:=by simp [Str.length]
 by_cases h:b≤x.length
 ·rw [PyProof.Rows.slice_from_eq (b:=(x.length:Int)) (by lia) (by lia) rfl]
  simp only [Int.toNat_natCast]
  rw [List.take_of_length_le]
  rw [List.length_drop];lia
 ·rw [PyProof.Rows.slice_beyond (by lia),List.drop_of_length_le (by lia)]
  rfl
theorem ask_new{t s:Str}{a b:Nat}(hl:t.length≤178)(ho:okS t)(hc:t.cps.toList.count 32≤62)(ha:a≤t.length)(hb:a≤b)(hs:s.length≤1)(hso:okS s):Ask (Txt.slice t none (some (a:Int))++s++Txt.slice t (some (b:Int)) none):=by
 have el:∀x:Str,x.length=x.cps.toList.length:=fun x=>by simp [Str.length]
 have e:(Txt.slice t none (some (a:Int))++s++Txt.slice t (some (b:Int)) none).cps.toList=t.cps.toList.take a++s.cps.toList++t.cps.toList.drop b:=by
  rw [app_list,app_list,take_slice ha,drop_slice]
 have len:(Txt.slice t none (some (a:Int))++s++Txt.slice t (some (b:Int)) none).length≤179:=by
  rw [el,e,List.length_append,List.length_append,List.length_take,List.length_drop,←el,←el]
  lia
 have c1:(t.cps.toList.take a).count 32+(t.cps.toList.drop b).count 32≤t.cps.toList.count 32:=by
  have h1:(t.cps.toList.drop b).count 32≤(t.cps.toList.drop a).count 32:=by
   have:t.cps.toList.drop b=(t.cps.toList.drop a).drop (b-a):=by rw [List.drop_drop];congr 1;lia
   rw [this]
   exact(List.drop_sublist _ _).count_le _
  have h2:=List.count_append (a:=32) (l₁:=t.cps.toList.take a) (l₂:=t.cps.toList.drop a)
  rw [List.take_append_drop]at h2
  lia
 have c2:s.cps.toList.count 32≤1:=Nat.le_trans List.count_le_length (by rw [←el];exact hs)
 refine mk_ask (by lia) (fun c hc=> ?_) ?_ (fun _=>by lia)
 ·rw [e]at hc
  rcases List.mem_append.mp hc with hc|hc
  ·rcases List.mem_append.mp hc with hc|hc
   ·exact ho c (List.mem_of_mem_take hc)
   ·exact hso c hc
  ·exact ho c (List.mem_of_mem_drop hc)
 ·rw [e,List.count_append,List.count_append]
  lia
noncomputable def nines:Str:=Txt.mul "9" 4000
theorem fold_app(a:Array Nat):∀(n:Nat) (b:Array Nat),((List.replicate n a).foldl (· ++·) b).toList=b.toList++(List.replicate n a.toList).flatten
 |0,b=>by simp
 |n+1,b=>by rw [List.replicate_succ,List.foldl_cons,fold_app a n,List.replicate_succ,List.flatten_cons,Array.toList_append,List.append_assoc]
theorem nines_list:nines.cps.toList=List.replicate 4000 57:=by
 have e9:("9":Str).cps= #[57]:=by decide+kernel
 have e1:nines=⟨(List.replicate 4000 ("9":Str).cps).foldl (· ++·) #[]⟩:=by
  unfold nines Txt.mul
  rw [if_neg (by decide),if_neg (by decide+kernel)]
  rfl
 rw [e1,fold_app,e9]
 simp
theorem nines_len:nines.length=4000:=by
 have:nines.length=nines.cps.toList.length:=by simp [Str.length]
 rw [this,nines_list,List.length_replicate]
theorem ask_nines:Ask nines:=by
 refine mk_ask (by rw [nines_len];decide) (fun c hc=> ?_) ?_ ?_
 ·rw [nines_list]at hc
  have:=List.eq_of_mem_replicate hc
  lia
 ·rw [nines_list,List.count_replicate];decide
 ·rw [nines_list,List.count_replicate];intro h;exact absurd h (by decide)
theorem z_list:("0 ":Str).cps.toList=[48,32]:=by decide+kernel
theorem ask_nines2:Ask (("0 ":Str)++nines):=by
 have e:(("0 ":Str)++nines).cps.toList=[48,32]++List.replicate 4000 57:=by rw [app_list,z_list,nines_list]
 have hl:(("0 ":Str)++nines).length=4002:=by
  have:(("0 ":Str)++nines).length=(("0 ":Str)++nines).cps.toList.length:=by simp [Str.length]
  rw [this,e,List.length_append,List.length_replicate];rfl
 refine mk_ask (by rw [hl];decide) (fun c hc=> ?_) ?_ ?_
 ·rw [e]at hc
  rcases List.mem_append.mp hc with hc|hc
  ·have:∀x∈([48,32]:List Nat),x<1114112:=by decide
   exact this c hc
  ·have:=List.eq_of_mem_replicate hc
   lia
 ·rw [e,List.count_append,List.count_replicate];decide
 ·rw [e,List.count_append,List.count_replicate];intro h;exact absurd h (by decide)
noncomputable def F1:List Str:=["","-"," ","--","0","00","1","-0","0 1","1 0","0 0","0 2","0 1 "," 0 1","0  1","0,1","+0"]
noncomputable def F2:List Str:=["0 01","2 0 1","2 1","0\n","0\t1","1 0\n","x","0 1 2 3 4 5 6 7 8 9 10"]
noncomputable def F3:List Str:=["0 1 2 3 4 5 6 7 8 9 11"]
noncomputable def F4:List Str:=["1_0 0","0 -1","- 0","1.0 0"]
noncomputable def FEW:List Str:=F1++F2++F3++([nines,("0 ":Str)++nines]++F4)
theorem lits_ok:(F1++F2++F3++F4).all (fun t=>decide (t.length≤100)&&decide (okS t)&&decide (t.cps.toList.count 32≤20))=true:=by decide+kernel
theorem ask_few{t:Str}(h:t∈FEW):Ask t:=by
 have lit:t∈F1++F2++F3++F4→Ask t:=fun h=>by
  have:=List.all_eq_true.mp lits_ok t h
  rw [Bool.and_eq_true,Bool.and_eq_true]at this
  obtain⟨⟨h1,h2⟩,h3⟩:=this
  have h1:=odt h1
  have h3:=odt h3
  exact mk_ask (by lia) (odt h2) (by lia) (fun z=>by lia)
 unfold FEW at h
 rcases List.mem_append.mp h with h|h
 ·exact lit (List.mem_append_left _ h)
 ·rcases List.mem_append.mp h with h|h
  ·rcases List.mem_cons.mp h with h|h
   ·rw [h];exact ask_nines
   ·rw [List.mem_singleton.mp h];exact ask_nines2
  ·exact lit (List.mem_append_right _ h)
theorem fewL_ok:g__law_few []=some (.ow ((FEW.map D.str).map T.sh)):=by
 have sc:∀l:List Str,(l.map D.str).all scal=true:=fun l=>by rw [List.all_map];exact List.all_eq_true.mpr fun _ _=>rfl
 have m9:binD .Mult (.str "9") (.int 4000)=some (.str nines):=by
  rw [mul_si,if_pos (dtt (by decide+kernel))];rfl
 have d9:binD .Add (.str "0 ") (.str nines)=some (.str (("0 ":Str)++nines)):=by
  rw [add_ss,if_pos]
  rw [nines_len]
  decide+kernel
 have v0:∀ts:List Str,dEnv [some (.ow ((ts.map D.str).map T.sh))]=[some (.lst (ts.map D.str))]:=fun ts=>by
  rw [dEnv_cons,dEnv_nil,Option.map_some,strip_ow,map_strip_sh]
 refine gP_rt rfl ((st_asg (env2:=[none]) rfl (evX_flat (ds:=F1.map D.str) rfl rfl ?_ (sc _))).trans ((st_asg (env2:=[some (.ow ((F1.map D.str).map T.sh))]) rfl (evX_flat (ds:=(F1++F2).map D.str) rfl rfl ?_ (sc _))).trans ((st_app (env2:=[some (.ow (((F1++F2).map D.str).map T.sh))]) (t:=.sh (.str "0 1 2 3 4 5 6 7 8 9 11")) (ts:=((F1++F2).map D.str).map T.sh) (evX_scal rfl (ev_str _ _ _) rfl) rfl (by decide+kernel)).trans (st_ret (t:=.ow ((FEW.map D.str).map T.sh)) (env2:=[some (.ow (((F1++F2++F3).map D.str).map T.sh))]) (by simp) (evX_flat rfl rfl ?_ (sc _))))))
 ·rfl
 ·rw [v0,ev_bin]
  rfl
 ·have e:(((F1++F2).map D.str).map T.sh++[T.sh (.str "0 1 2 3 4 5 6 7 8 9 11")])=((F1++F2++F3).map D.str).map T.sh:=rfl
  show ev Γ13 _ (dEnv [some (.ow (((F1++F2++F3).map D.str).map T.sh))])=_
  rw [v0,ev_bin]
  simp only [ev_var,ev_lst,ev_cons,ev_bin,ev_str,ev_int,ev_nil,obs,m9,d9,consD_lst,szL_lst]
  rfl
noncomputable def txt(r:List Nat):Str:=if r=[]then("-":Str)else Txt.join BLK (r.map figS)
theorem join_count:∀(l:List Nat),l≠[]→(Str.join BLK (l.map figS)).cps.toList.count 32+1≤l.length:=by
 have z:∀n,(figS n).cps.toList.count 32=0:=fun n=>List.count_eq_zero.mpr fun h=>by have:=figS_digits n 32 h;lia
 intro l
 induction l with
 |nil=>intro h;exact absurd rfl h
 |cons a r ih=>
  intro _
  cases r with
  |nil=>simp [Str.join,z]
  |cons b r=>
   have e:Str.join BLK ((a::b::r).map figS)=figS a++BLK++Str.join BLK ((b::r).map figS):=rfl
   have eb:BLK.cps.toList.count 32=1:=by rw [blk_is];rfl
   have:=ih (by simp)
   rw [e,app_list,app_list,List.count_append,List.count_append,z,eb,List.length_cons]
   lia
theorem join_ok':∀(l:List Nat),okS (Str.join BLK (l.map figS)):=by
 intro l
 induction l with
 |nil=>intro c hc;exact absurd hc (by simp [Str.join,Str.empty])
 |cons a r ih=>
  cases r with
  |nil=>exact okS_fig a
  |cons b r=>
   have e:Str.join BLK ((a::b::r).map figS)=figS a++BLK++Str.join BLK ((b::r).map figS):=rfl
   intro c hc
   rw [e,app_list,app_list]at hc
   rcases List.mem_append.mp hc with hc|hc
   ·rcases List.mem_append.mp hc with hc|hc
    ·exact okS_fig a c hc
    ·rw [blk_is]at hc
     have:c=32:=by simpa using hc
     lia
   ·exact ih c hc
theorem fig_sum:∀n,n≤63→((List.range n).map fun m=>(figS m).length).sum≤116:=by
 have:(List.range 64).all (fun n=>decide (((List.range n).map fun m=>(figS m).length).sum≤116))=true:=by decide+kernel
 intro n hn
 exact odt (List.all_eq_true.mp this n (List.mem_range.mpr (by lia)))
theorem txt_facts{r:List Nat}(h:Bo.IsRow r)(hl:r.length≤63):(txt r).length≤178∧okS (txt r)∧(txt r).cps.toList.count 32≤62:=by
 unfold txt
 by_cases e:r=[]
 ·rw [if_pos e]
  exact⟨by decide+kernel,okS_m,by decide+kernel⟩
 ·rw [if_neg e]
  have ej:Txt.join BLK (r.map figS)=Str.join BLK (r.map figS):=StrLaws.glued_eq_join _ _
  rw [ej]
  have h1:=join_len (r.map figS) (by simpa using e)
  have h2:((r.map figS).map (·.length)).sum≤116:=by
   rw [List.map_map]
   have p:=sum_perm (h.map fun m=>(figS m).length)
   have:=fig_sum r.length hl
   show(r.map fun m=>(figS m).length).sum≤116
   lia
  rw [List.length_map]at h1
  have h3:=join_count r e
  exact⟨by lia,join_ok' r,by lia⟩
theorem mul_smallL{a:Int}(b:Int)(h:decide (-(2 ^ 64)<a∧a<2 ^ 64)=true):binD .Mult (.int a) (.int b)=some (.int (a*b)):=by
 show(if mulOk a b then _ else _)=_
 rw [if_pos (by unfold mulOk;rw [h,Bool.true_or])]
noncomputable def SIG:Str:="0123456789 -x"
theorem sig_at{v:Nat}(h:v<13):∃c,c<1114112∧idxD (.str SIG) (.int (v:Int))=some (.str ⟨#[c]⟩):=by
 have e:SIG.cps.toList=[48,49,50,51,52,53,54,55,56,57,32,45,120]:=by decide+kernel
 have hl:v<([48,49,50,51,52,53,54,55,56,57,32,45,120]:List Nat).length:=h
 refine⟨([48,49,50,51,52,53,54,55,56,57,32,45,120]:List Nat)[v],?_,?_⟩
 ·have:∀x∈([48,49,50,51,52,53,54,55,56,57,32,45,120]:List Nat),x<1114112:=by decide
  exact this _ (List.getElem_mem _)
 ·rw [idx_str,if_pos (by decide+kernel),e,atI_nat (List.getElem?_eq_getElem hl)];rfl
noncomputable abbrev bLaw:S:=.seq (.asg 6 (.call 51 (.cons (.bin .Add (.var 4) (.var 5)) (.cons (.int 1) (.cons (.bin .Add (.un .len (.var 2)) (.int 1)) .nil)))))
 (.seq (.asg 7 (.idx (.tup (.cons (.str "") (.cons (.idx (.str "0123456789 -x") (.call 51 (.cons (.bin .Add (.var 4) (.var 5)) (.cons (.int 2) (.cons (.int 13) .nil))))) .nil))) (.call 51 (.cons (.bin .Add (.var 4) (.var 5)) (.cons (.int 3) (.cons (.int 2) .nil))))))
 (.seq (.ife (.not (.call 79 (.cons (.bin .Add (.bin .Add (.cut (.var 2) .nil (.var 6)) (.var 7)) (.cut (.var 2) (.bin .Add (.var 6) (.call 51 (.cons (.bin .Add (.var 4) (.var 5)) (.cons (.int 4) (.cons (.int 2) .nil))))) .nil)) .nil)))
 (.seq (.ret (.bl false))
 .nop) .nop)
 .nop))
theorem turn_ok{ns:List Int}{r:List Nat}(h:Bo.IsRow r)(hl:r.length≤63)(c k:Int)(o6 o7:Option T):
 ∃o6' o7',ex Γ14 Δ1 none 100 bLaw [some (.sh (iD ns)),some (nT r),some (.sh (.str (txt r))),some (nT r),some (.sh (.int c)),some (.sh (.int k)),o6,o7]=some (.nx,[some (.sh (iD ns)),some (nT r),some (.sh (.str (txt r))),some (nT r),some (.sh (.int c)),some (.sh (.int k)),o6',o7']):=by
 obtain⟨tl,to,tc⟩:=txt_facts h hl
 have w51:Γ14 51=some g__law_draw:=rfl
 have w79:Γ14 79=some g__law_right:=rfl
 have szt:sz (txt r).length=true:=sz_of (by lia)
 obtain⟨v1,hv1,d1⟩:=draw_ok (c+k) 1 (m:=(txt r).length+1) (by lia)
 obtain⟨v2,hv2,d2⟩:=draw_ok (c+k) 2 (m:=13) (by decide)
 obtain⟨v3,hv3,d3⟩:=draw_ok (c+k) 3 (m:=2) (by decide)
 obtain⟨v4,hv4,d4⟩:=draw_ok (c+k) 4 (m:=2) (by decide)
 obtain⟨cc,hcc,hsig⟩:=sig_at hv2
 have e0:∀o6 o7:Option T,dEnv [some (.sh (iD ns)),some (nT r),some (.sh (.str (txt r))),some (nT r),some (.sh (.int c)),some (.sh (.int k)),o6,o7]=[some (iD ns),some (nD r),some (.str (txt r)),some (nD r),some (.int c),some (.int k),o6.map strip,o7.map strip]:=fun o6 o7=>by
  simp only [dEnv_cons,dEnv_nil,Option.map_some,strip_sh,strip_nT]
 have dr:∀(o6 o7:Option D) (q m:Int) (v:Nat),g__law_draw [.int (c+k),.int q,.int m]=some (.sh (.int v))→ev Γ14 (.call 51 (.cons (.bin .Add (.var 4) (.var 5)) (.cons (.int q) (.cons (.int m) .nil)))) [some (iD ns),some (nD r),some (.str (txt r)),some (nD r),some (.int c),some (.int k),o6,o7]=some (.int v):=fun o6 o7 q m v hv=>by
  rw [ev_call,w51,obs]
  show(g__law_draw [.int (c+k),.int q,.int m]).map strip=_
  rw [hv,Option.map_some,strip_sh]
 have d1':g__law_draw [.int (c+k),.int 1,.int ((txt r).length+1:Nat)]=some (.sh (.int v1)):=d1
 have a1:∀o6 o7,evX Γ14 none (.call 51 (.cons (.bin .Add (.var 4) (.var 5)) (.cons (.int 1) (.cons (.bin .Add (.un .len (.var 2)) (.int 1)) .nil)))) [some (.sh (iD ns)),some (nT r),some (.sh (.str (txt r))),some (nT r),some (.sh (.int c)),some (.sh (.int k)),o6,o7]=some (.sh (.int v1),[some (.sh (iD ns)),some (nT r),some (.sh (.str (txt r))),some (nT r),some (.sh (.int c)),some (.sh (.int k)),o6,o7]):=fun o6 o7=>by
  refine evX_callF w51 (l:=[.int (c+k),.int 1,.int ((txt r).length+1:Nat)]) ?_ d1' (by rw [flatT_sh];rfl)
  rw [e0]
  unfold evs
  simp only [ev_cons,ev_bin,ev_var,ev_int,ev_un,ev_nil,List.getElem?_cons_zero,List.getElem?_cons_succ,Option.join_some,obs,add_ii]
  rw [len_str',if_pos szt]
  rfl
 have hs:∃s:Str,s.length≤1∧okS s∧L2.atI [D.str "",D.str ⟨#[cc]⟩] (v3:Int)=some (.str s):=by
  rcases Nat.lt_succ_iff_lt_or_eq.mp hv3 with z|z
  ·have:v3=0:=by lia
   subst this
   exact⟨"",by decide+kernel,okS_nil,atI_nat rfl⟩
  ·subst z
   exact⟨⟨#[cc]⟩,Nat.le_refl 1,fun d hd=>by simp at hd;lia,atI_nat rfl⟩
 obtain⟨s,hs1,hs2,hs3⟩:=hs
 have a2:evX Γ14 none (.idx (.tup (.cons (.str "") (.cons (.idx (.str "0123456789 -x") (.call 51 (.cons (.bin .Add (.var 4) (.var 5)) (.cons (.int 2) (.cons (.int 13) .nil))))) .nil))) (.call 51 (.cons (.bin .Add (.var 4) (.var 5)) (.cons (.int 3) (.cons (.int 2) .nil))))) [some (.sh (iD ns)),some (nT r),some (.sh (.str (txt r))),some (nT r),some (.sh (.int c)),some (.sh (.int k)),some (.sh (.int v1)),o7]=some (.sh (.str s),[some (.sh (iD ns)),some (nT r),some (.sh (.str (txt r))),some (nT r),some (.sh (.int c)),some (.sh (.int k)),some (.sh (.int v1)),o7]):=by
  refine evX_scal rfl ?_ rfl
  rw [e0,ev_idx,ev_tup,ev_cons,ev_str,obs,ev_cons,ev_idx,ev_str,obs,dr _ _ 2 13 v2 d2,obs]
  have hsig':idxD (.str "0123456789 -x") (.int (v2:Int))=some (.str ⟨#[cc]⟩):=hsig
  rw [hsig',obs,ev_nil,obs,consD_lst,obs,consD_lst,obs,szT_lst,if_pos (sz_of (by show 2≤1000000;decide)),obs,dr _ _ 3 2 v3 d3,obs,idx_tup,hs3]
 have hask:=ask_new (t:=txt r) (s:=s) (a:=v1) (b:=v1+v4) tl to tc (by lia) (by lia) hs1 hs2
 have b3:evB Γ14 (.not (.call 79 (.cons (.bin .Add (.bin .Add (.cut (.var 2) .nil (.var 6)) (.var 7)) (.cut (.var 2) (.bin .Add (.var 6) (.call 51 (.cons (.bin .Add (.var 4) (.var 5)) (.cons (.int 4) (.cons (.int 2) .nil))))) .nil)) .nil))) (dEnv [some (.sh (iD ns)),some (nT r),some (.sh (.str (txt r))),some (nT r),some (.sh (.int c)),some (.sh (.int k)),some (.sh (.int v1)),some (.sh (.str s))])=some false:=by
  rw [e0,Option.map_some,Option.map_some,strip_sh,strip_sh]
  have x1:ev Γ14 (.cut (.var 2) .nil (.var 6)) [some (iD ns),some (nD r),some (.str (txt r)),some (nD r),some (.int c),some (.int k),some (.int v1),some (.str s)]=some (.str (Txt.slice (txt r) none (some (v1:Int)))):=by
   rw [ev_cut]
   show cutD (.str (txt r)) none (some (v1:Int))=_
   rw [cut_str,if_pos szt]
  have x2:ev Γ14 (.cut (.var 2) (.bin .Add (.var 6) (.call 51 (.cons (.bin .Add (.var 4) (.var 5)) (.cons (.int 4) (.cons (.int 2) .nil))))) .nil) [some (iD ns),some (nD r),some (.str (txt r)),some (nD r),some (.int c),some (.int k),some (.int v1),some (.str s)]=some (.str (Txt.slice (txt r) (some ((v1+v4:Nat):Int)) none)):=by
   rw [ev_cut,ev_bin,dr _ _ 4 2 v4 d4]
   show cutD (.str (txt r)) (some ((v1:Int)+(v4:Int))) none=_
   rw [cut_str,if_pos szt]
   rfl
  have l1:(Txt.slice (txt r) none (some (v1:Int))).length≤178:=Nat.le_trans (Txt.slice_le _ _ _) tl
  have l2:(Txt.slice (txt r) (some ((v1+v4:Nat):Int)) none).length≤178:=Nat.le_trans (Txt.slice_le _ _ _) tl
  have x3:ev Γ14 (.call 79 (.cons (.bin .Add (.bin .Add (.cut (.var 2) .nil (.var 6)) (.var 7)) (.cut (.var 2) (.bin .Add (.var 6) (.call 51 (.cons (.bin .Add (.var 4) (.var 5)) (.cons (.int 4) (.cons (.int 2) .nil))))) .nil)) .nil)) [some (iD ns),some (nD r),some (.str (txt r)),some (nD r),some (.int c),some (.int k),some (.int v1),some (.str s)]=some (.bl true):=by
   rw [ev_call,w79,obs,ev_cons,ev_bin,ev_bin,x1,obs]
   show((((binD .Add (.str _) (.str s)).bind _).bind _).bind _).bind _=_
   rw [add_ss,if_pos (sz_of (by lia)),obs,x2,obs,add_ss,if_pos (sz_of (by rw [app_len];lia)),obs]
   show(g__law_right [.str _]).map strip=_
   rw [right_ok hask,Option.map_some,strip_sh]
  unfold evB
  rw [ev_not,x3];rfl
 exact⟨some (.sh (.int v1)),some (.sh (.str s)),(st_asg rfl (a1 o6 o7)).trans ((st_asg rfl a2).trans ((st_skip b3).trans rfl))⟩
theorem all_tt{α:Type}(l:List α):unD .all (.lst (l.map fun _=>D.bl true))=some (.bl true):=by
 have e:(l.map fun _=>D.bl true)=(l.map fun _=>true).map D.bl:=by simp
 show(blsD _).map _=_
 rw [e,blsD_map]
 simp
theorem compAll{Γ:Tab}{env:Env}{elt it:E}{is:List Nat}{ds:List D}(hi:ev Γ it env=some (.lst ds))(hs:ds.length≤1000000)(h:∀d∈ds,ev Γ elt (inner env is d)=some (.bl true)):ev Γ (.un .all (.comp elt is it .nil)) env=some (.bl true):=by
 rw [ev_un,ev_comp,hi,obs,walkD_lst,obs,if_pos (sz_of hs),compI (h:=fun _=>D.bl true) fun d hd=>by rw [cS_nil,obs,if_pos rfl,h d hd];rfl]
 exact all_tt ds
theorem law_ok(ns:List Int)(hn:ns.length≤63):g_law [.lst (ns.map D.int)]=some (.sh (.bl true)):=by
 show g_law [iD ns]=_
 obtain⟨r,hr,hl0,hrow⟩:=row_ok ns hn
 have hl:r.length≤63:=by lia
 obtain⟨tl,to,tc⟩:=txt_facts hr hl
 have w52:Γ14 52=some g__law_row:=rfl
 have w44:Γ14 44=some g_written:=rfl
 have w79:Γ14 79=some g__law_right:=rfl
 have w50:Γ14 50=some g__law_cell_at:=rfl
 have w80:Γ14 80=some g__law_few:=rfl
 have w78:Γ14 78=some (gRef x_read):=rfl
 obtain⟨c3,hc3⟩:=cell_ok ns 3
 obtain⟨c0,hc0⟩:=cell_ok ns 0
 have a1:evX Γ14 none (.call 52 (.cons (.var 0) .nil)) [some (.sh (iD ns)),none,none,none,none,none,none,none]=some (nT r,[some (.sh (iD ns)),none,none,none,none,none,none,none]):=evX_callF w52 rfl hrow (flat_nT r)
 have e1:dEnv [some (.sh (iD ns)),some (nT r),none,none,none,none,none,none]=[some (iD ns),some (nD r),none,none,none,none,none,none]:=by
  simp only [dEnv_cons,dEnv_nil,Option.map_some,Option.map_none,strip_sh,strip_nT]
 have a2:evX Γ14 none (.ite (.cmp .NotEq (.var 1) (.lst .nil)) (.un .joi (.comp (.un .stri (.var 0)) [] (.var 1) .nil)) (.str "-")) [some (.sh (iD ns)),some (nT r),none,none,none,none,none,none]=some (.sh (.str (txt r)),[some (.sh (iD ns)),some (nT r),none,none,none,none,none,none]):=by
  refine evX_scal rfl ?_ rfl
  have b0:ev Γ14 (.cmp .NotEq (.var 1) (.lst .nil)) [some (iD ns),some (nD r),none,none,none,none,none,none]=some (.bl (!decide (r=[]))):=by
   rw [ev_cmp]
   show cmpD .NotEq (nD r) (nD [])=_
   rw [ne_dd,eq_nn];rfl
  rw [e1,ev_ite,b0,obs,truthD_bl,obs]
  unfold txt
  by_cases e:r=[]
  ·rw [dtt e,if_pos e];rfl
  ·rw [dff e,if_neg e]
   exact join_ev hr (by lia) rfl
 have e2:dEnv [some (.sh (iD ns)),some (nT r),some (.sh (.str (txt r))),none,none,none,none,none]=[some (iD ns),some (nD r),some (.str (txt r)),none,none,none,none,none]:=by
  simp only [dEnv_cons,dEnv_nil,Option.map_some,Option.map_none,strip_sh,strip_nT]
 have a3:evX Γ14 none (.un .list (.var 1)) [some (.sh (iD ns)),some (nT r),some (.sh (.str (txt r))),none,none,none,none,none]=some (nT r,[some (.sh (iD ns)),some (nT r),some (.sh (.str (txt r))),none,none,none,none,none]):=by
  refine evX_flat (ds:=nl r) rfl rfl ?_ (all_scal_nl r)
  rw [e2]
  rfl
 have e3:dEnv [some (.sh (iD ns)),some (nT r),some (.sh (.str (txt r))),some (nT r),none,none,none,none]=[some (iD ns),some (nD r),some (.str (txt r)),some (nD r),none,none,none,none]:=by
  simp only [dEnv_cons,dEnv_nil,Option.map_some,Option.map_none,strip_sh,strip_nT]
 have b4:evB Γ14 (.or (.cmp .NotEq (.call 44 (.cons (.var 3) .nil)) (.var 2)) (.or (.cmp .NotEq (.var 3) (.var 1)) (.not (.call 79 (.cons (.var 2) .nil))))) (dEnv [some (.sh (iD ns)),some (nT r),some (.sh (.str (txt r))),some (nT r),none,none,none,none])=some false:=by
  rw [e3]
  have x1:ev Γ14 (.cmp .NotEq (.call 44 (.cons (.var 3) .nil)) (.var 2)) [some (iD ns),some (nD r),some (.str (txt r)),some (nD r),none,none,none,none]=some (.bl false):=by
   have y1:ev Γ14 (.call 44 (.cons (.var 3) .nil)) [some (iD ns),some (nD r),some (.str (txt r)),some (nD r),none,none,none,none]=some (.str (txt r)):=by
    rw [ev_call,w44,obs]
    show(g_written [nD r]).map strip=_
    rw [written_ok hr (by lia),Option.map_some,strip_sh];rfl
   rw [ev_cmp,y1,obs]
   show cmpD .NotEq (.str (txt r)) (.str (txt r))=_
   rw [ne_dd,eq_ss to to,dtt rfl];rfl
  have x2:ev Γ14 (.cmp .NotEq (.var 3) (.var 1)) [some (iD ns),some (nD r),some (.str (txt r)),some (nD r),none,none,none,none]=some (.bl false):=by
   rw [ev_cmp]
   show cmpD .NotEq (nD r) (nD r)=_
   rw [ne_dd,eq_nn,dtt rfl];rfl
  have x3:ev Γ14 (.not (.call 79 (.cons (.var 2) .nil))) [some (iD ns),some (nD r),some (.str (txt r)),some (nD r),none,none,none,none]=some (.bl false):=by
   rw [ev_not,ev_call,w79,obs]
   show((g__law_right [.str (txt r)]).map strip).bind notD=_
   rw [right_ok (mk_ask (by lia) to (by lia) (fun z=>by lia)),Option.map_some,strip_sh];rfl
  unfold evB
  rw [ev_or,x1,obs,ifB_f,ev_or,x2,obs,ifB_f,x3];rfl
 have a5:evX Γ14 none (.bin .Add (.call 50 (.cons (.var 0) (.cons (.int 3) .nil))) (.bin .Mult (.int 7) (.call 50 (.cons (.var 0) (.cons (.int 0) .nil))))) [some (.sh (iD ns)),some (nT r),some (.sh (.str (txt r))),some (nT r),none,none,none,none]=some (.sh (.int (c3+7*c0)),[some (.sh (iD ns)),some (nT r),some (.sh (.str (txt r))),some (nT r),none,none,none,none]):=by
  refine evX_scal rfl ?_ rfl
  have hc3':g__law_cell_at [iD ns,.int 3]=some (.sh (.int c3)):=hc3
  have hc0':g__law_cell_at [iD ns,.int 0]=some (.sh (.int c0)):=hc0
  have y3:ev Γ14 (.call 50 (.cons (.var 0) (.cons (.int 3) .nil))) [some (iD ns),some (nD r),some (.str (txt r)),some (nD r),none,none,none,none]=some (.int c3):=by
   rw [ev_call,w50,obs]
   show(g__law_cell_at [iD ns,.int 3]).map strip=_
   rw [hc3',Option.map_some,strip_sh]
  have y0:ev Γ14 (.call 50 (.cons (.var 0) (.cons (.int 0) .nil))) [some (iD ns),some (nD r),some (.str (txt r)),some (nD r),none,none,none,none]=some (.int c0):=by
   rw [ev_call,w50,obs]
   show(g__law_cell_at [iD ns,.int 0]).map strip=_
   rw [hc0',Option.map_some,strip_sh]
  rw [e3,ev_bin,y3,obs,ev_bin,ev_int,obs,y0,obs,mul_smallL _ (by decide),obs,add_ii]
 obtain⟨env',hf,o5,o6,o7,rfl⟩:=forL_from (step:=fun d e=>ex Γ14 Δ1 none 100 bLaw (e.set 5 (some (.sh d)))) (fun k e=>∃o5 o6 o7,e=[some (.sh (iD ns)),some (nT r),some (.sh (.str (txt r))),some (nT r),some (.sh (.int (c3+7*c0))),o5,o6,o7]) (ds:=nl (List.range 2)) (env:=[some (.sh (iD ns)),some (nT r),some (.sh (.str (txt r))),some (nT r),some (.sh (.int (c3+7*c0))),none,none,none]) ⟨_,_,_,rfl⟩ fun k d e hd he=>by
  obtain⟨o5,o6,o7,rfl⟩:=he
  obtain⟨hk,rfl⟩:=nl_get hd
  obtain⟨o6',o7',h⟩:=turn_ok (ns:=ns) hr hl (c3+7*c0) ((Bo.ap (List.range 2) k:Nat):Int) o6 o7
  exact⟨_,h,_,_,_,rfl⟩
 have i6:itX Γ14 none (.rng (.int 2)) [some (.sh (iD ns)),some (nT r),some (.sh (.str (txt r))),some (nT r),some (.sh (.int (c3+7*c0))),none,none,none]=some (nl (List.range 2),[some (.sh (iD ns)),some (nT r),some (.sh (.str (txt r))),some (nT r),some (.sh (.int (c3+7*c0))),none,none,none]):=rfl
 have few:∀env:Env,ev Γ14 (.un .all (.comp (.call 79 (.cons (.var 0) .nil)) [] (.call 80 .nil) .nil)) env=some (.bl true):=fun env=>by
  refine compAll (ds:=FEW.map D.str) ?_ (by rw [List.length_map];decide+kernel) fun d hd=> ?_
  ·rw [ev_call,w80,obs,ev_nil,obs,listD_lst,obs,fewL_ok,Option.map_some,strip_ow,map_strip_sh]
  ·obtain⟨t,ht,rfl⟩:=List.mem_map.mp hd
   have v0:((inner env [] (D.str t))[0]?).join=some (.str t):=rfl
   rw [ev_call,w79,obs,ev_cons,ev_var,v0,obs,ev_nil,obs,consD_lst,obs,listD_lst,obs,right_ok (ask_few ht),Option.map_some,strip_sh]
 have b7:∀env:TEnv,evB Γ14 (.not (.un .all (.comp (.call 79 (.cons (.var 0) .nil)) [] (.call 80 .nil) .nil))) (dEnv env)=some false:=fun env=>by
  unfold evB
  rw [ev_not,few];rfl
 have r8:∀env:TEnv,evX Γ14 none (.un .all (.comp (.call 78 (.cons (.var 0) .nil)) [] (.lst (.cons .non (.cons (.int 5) (.cons (.lst (.cons (.str "0") .nil)) (.cons (.bl true) .nil))))) .nil)) env=some (.sh (.bl true),env):=fun env=>by
  refine evX_scal rfl ?_ rfl
  refine compAll (ds:=[.non,.int 5,.lst [.str "0"],.bl true]) rfl (by decide) fun d hd=> ?_
  have hx:gRef x_read [d]=some (.sh (.bl true)):=by
   simp only [List.mem_cons,List.not_mem_nil,or_false]at hd
   rcases hd with rfl|rfl|rfl|rfl<;>rfl
  rw [ev_call,w78,obs]
  show(gRef x_read [d]).map strip=_
  rw [hx,Option.map_some,strip_sh]
 exact gP_rt rfl ((st_asg rfl a1).trans ((st_asg rfl a2).trans ((st_asg rfl a3).trans ((st_skip b4).trans ((st_asg rfl a5).trans ((st_for1 rfl i6 hf).trans ((st_skip (b7 _)).trans (st_ret (by simp) (r8 _)))))))))
end MI
end
noncomputable section
namespace MI
open PySem L2 LX PyProof.Rows
section
variable{P:Program}{w:World}{K:W.Frag}{mg:Str→Option Value}{base:Heap}{cl:Nat→Option Addr}{c:CS}{Γ:Tab}{Δ:IOT}{Ξ:XT}{ξ:List (Str×Nat)}{k k':Nat}
theorem Lw.mono(L:Lw P w K mg base cl c Γ Δ k)(h:k≤k'):Lw P w K mg base cl c Γ Δ k':=
 ⟨fun x f e=>let ⟨g,a,b⟩:=L.fn x f e;⟨g,a,b.mono h⟩,fun x f i e=>let ⟨g,a,fa,fd,ps,F,r⟩:=L.io x f i e;⟨g,a,fa,fd,ps,F.mono h,r⟩,L.blt,L.gi,L.cls,fun d C i m g h0 h1 h2=>(L.mth d C i m g h0 h1 h2).mono h,L.cn,fun d C i m g h0 h1 h2=>(L.mio d C i m g h0 h1 h2).mono h,L.fv⟩
theorem LwX.start(own:∀x∈XN,∃C,OwnCls x C BMV "ValueError.__new__" mg base∧W.nsIn K mainGlobals x=some (some (.ref C))):LwX P w K mg base cl (fun _=>none) [] k:=⟨fun x j e=>(by cases e),own⟩
end
theorem own_in{K:W.Frag}{mg:Str→Option Value}{h:Heap}{x:Str}{C:Addr}{bm:List Value}{id:String}(X:K.In h)(hm:mg x=some (.ref C))(q:W.excIn K C bm id=true):OwnCls x C bm id mg h:=by
 refine⟨hm,?_⟩
 unfold W.excIn at q
 split at q
 ·rename_i d0 cd sl look
  split at q
  ·rename_i C1 b1 s0 s1 s2 s3 i1 s5 em es
   obtain⟨q,w6⟩:=bae q
   obtain⟨q,w5⟩:=bae q
   obtain⟨q,w4⟩:=bae q
   obtain⟨q,w3⟩:=bae q
   obtain⟨w1,w2⟩:=bae q
   have w1:=beq_iff_eq.mp w1
   have w2:=beq_iff_eq.mp w2
   have w6:=beq_iff_eq.mp w6
   subst w1 w2
   obtain⟨z1,z2,z3,z4,z5,z6,z7,z8,z9,z10,z11⟩:=cd
   have em':z3=.ref C1::b1:=em
   have w3':z11=false:=by simpa using w3
   have es':sl= #[s0,s1,s2,s3,some (.builtin i1),s5]:=by
    cases sl
    exact congrArg Array.mk es
   subst em' w3' es'
   exact⟨b1,z4,z1,z5,z2,z6,z7,z8,z9,z10,d0,s0,s1,s2,s3,s5,_,X _ _ look,.of_isNs (W.isNs_of_in X w5),W.nsMap_none_of_in X w5 w6,W.tail_of_in X w4⟩
  ·cases q
 ·cases q
noncomputable def xSub(K:W.Frag)(C:Addr)(x t:Str):Bool:=match W.nsIn K mainGlobals t with
 |some (some (.ref J))=>W.kitOne K (.ref C) (.ref J)==some (x==t)
 |_=>false
noncomputable def xOrd(K:W.Frag)(C:Addr):Bool:=match W.nsIn K mainGlobals "OrderError" with
 |some (some (.ref O))=>W.exmOne K (.ref C) (.ref O)==some true
 |_=>false
noncomputable def xCl(K:W.Frag)(C:Addr):Bool:=(W.findIn K (.ref C) "__getattribute__"==some (some (.builtin "BaseException.__getattribute__")))&&(W.findIn K (.ref C) "__getattr__"==some none)&&(W.subIn K (.ref C) (.type "BaseException")==some true)&&W.hasDictIn K C&&(W.findIn K (.ref C) "__class__"==some (some (.builtin "object.__class__")))&&(W.specialIn K (.builtin "object.__class__") "__get__"==some (some (.builtin "getset_descriptor.__get__")))&&(W.takesIn K (.builtin "object.__class__")==some true)&&(W.mroIn K C (.type "object")==some true)
noncomputable def xOne(K:W.Frag)(x:Str):Bool:=match W.nsIn K mainGlobals x with
 |some (some (.ref C))=>W.excIn K C BMV "ValueError.__new__"&&xCl K C&&(W.kitOne K (.ref C) (.type "ValueError")==some true)&&XN.all (xSub K C x)&&xOrd K C
 |_=>false
noncomputable def gsB(K:W.Frag)(p:Str×Str):Bool:=match W.nsIn K mainGlobals p.1 with
 |some (some (.str z _))=>z==p.2
 |_=>false
noncomputable def xB(K:W.Frag):Bool:=XN.all (xOne K)&&GS.all (gsB K)
theorem look_mem{x z:Str}:∀ {l:List (Str×Str)},l.lookup x=some z→(x,z)∈l
 |(a,b)::r,h=>by
  rw [List.lookup_cons]at h
  split at h
  ·rename_i e
   cases h
   rw [show x=a by simpa using e]
   exact List.mem_cons_self ..
  ·exact List.mem_cons_of_mem _ (look_mem h)
theorem xCl_ok{K:W.Frag}{C:Addr}(h:xCl K C=true):XCls K C:=by
 unfold xCl at h
 obtain⟨h,w8⟩:=bae h
 obtain⟨h,w7⟩:=bae h
 obtain⟨h,w6⟩:=bae h
 obtain⟨h,w5⟩:=bae h
 obtain⟨h,w4⟩:=bae h
 obtain⟨h,w3⟩:=bae h
 obtain⟨w1,w2⟩:=bae h
 exact⟨beq_iff_eq.mp w1,beq_iff_eq.mp w2,beq_iff_eq.mp w3,w4,beq_iff_eq.mp w5,beq_iff_eq.mp w6,beq_iff_eq.mp w7,beq_iff_eq.mp w8⟩
theorem xOne_ok{K:W.Frag}{x:Str}(h:xOne K x=true):∃C,W.nsIn K mainGlobals x=some (some (.ref C))∧W.excIn K C BMV "ValueError.__new__"=true∧XCls K C∧W.kitOne K (.ref C) (.type "ValueError")=some true∧(∀t∈XN,xSub K C x t=true)∧xOrd K C=true:=by
 unfold xOne at h
 split at h
 ·rename_i C hC
  obtain⟨h,w5⟩:=bae h
  obtain⟨h,w4⟩:=bae h
  obtain⟨h,w3⟩:=bae h
  obtain⟨w1,w2⟩:=bae h
  exact⟨C,hC,w1,xCl_ok w2,beq_iff_eq.mp w3,List.all_eq_true.mp w4,w5⟩
 ·cases h
theorem xB_ok{K:W.Frag}{mg:Str→Option Value}(h:xB K=true)(hns:∀x a,W.nsIn K mainGlobals x=some (some (.ref a))→mg x=some (.ref a))(hnt:∀x z t,W.nsIn K mainGlobals x=some (some (.str z t))→mg x=some (.str z t)):
 XKn K mg∧(∀base:Heap,K.In base→∀x∈XN,∃C,OwnCls x C BMV "ValueError.__new__" mg base∧W.nsIn K mainGlobals x=some (some (.ref C)))∧∀x z,GS.lookup x=some z→∃t,mg x=some (.str z t):=by
 obtain⟨h1,h2⟩:=bae h
 have one:=fun x (hx:x∈XN)=>xOne_ok (List.all_eq_true.mp h1 x hx)
 refine⟨⟨fun x hx=> ?_,fun x hx t ht C J nC nJ=> ?_,fun x hx C nC=> ?_,?_⟩,fun base X x hx=> ?_,fun x z hx=> ?_⟩
 ·obtain⟨C,nC,_,c,_⟩:=one x hx
  exact⟨C,nC,hns x C nC,c⟩
 ·obtain⟨C',nC',_,_,_,s,_⟩:=one x hx
  rw [nC]at nC'
  cases nC'
  have:=s t ht
  unfold xSub at this
  rw [nJ]at this
  exact beq_iff_eq.mp this
 ·obtain⟨C',nC',_,_,v,_⟩:=one x hx
  rw [nC]at nC'
  cases nC'
  exact v
 ·obtain⟨C0,n0,_,_,_,_,o0⟩:=one "BadRow" (by decide)
  unfold xOrd at o0
  split at o0
  ·rename_i O hO
   refine⟨O,hns _ O hO,fun x hx C nC=> ?_⟩
   obtain⟨C',nC',_,_,_,_,o⟩:=one x hx
   rw [nC]at nC'
   cases nC'
   unfold xOrd at o
   rw [hO]at o
   exact beq_iff_eq.mp o
  ·cases o0
 ·obtain⟨C,nC,e,_⟩:=one x hx
  exact⟨C,own_in X (hns x C nC) e,nC⟩
 ·have:=List.all_eq_true.mp h2 (x,z) (look_mem hx)
  unfold gsB at this
  split at this
  ·rename_i z' t ha
   have e:z'=z:=by simpa using this
   subst e
   exact⟨t,hnt x z' t ha⟩
  ·cases this
end MI
end
noncomputable section
namespace MI
open PySem PySem.Spec PySem.W PyProof.Rows L2
noncomputable def frOf(h:Heap):W.Frag:=(List.range h.objs.size).filterMap fun a=>(h.get? a).map fun o=>(a,o)
theorem lookup_mem{a:Addr}{o:Obj}:∀ {K:W.Frag},K.lookup a=some o→(a,o)∈K
 |(b,u)::r,h=>by
  rw [List.lookup_cons]at h
  split at h
  ·rename_i e
   cases h
   rw [show a=b by simpa using e]
   exact List.mem_cons_self ..
  ·exact List.mem_cons_of_mem _ (lookup_mem h)
theorem frOf_in{h h':Heap}(k:∀b o,h.get? b=some o→h'.get? b=some o):(frOf h).In h':=fun a o e=>by
 obtain⟨b,_,q⟩:=List.mem_filterMap.mp (lookup_mem e)
 obtain⟨u,hu,q⟩:=msi q
 cases q
 exact k _ _ hu
structure Fv where
 name:Str
 qual:Str
 args:Arguments
 body:FuncBody
 scope:Scope
 globals:Addr
 closure:List (Str×Addr)
 defaults:Value
 builtins:Addr
 ok:Bool
noncomputable def fOf(K:W.Frag)(a:Addr)(fd:FuncData):Fv:=⟨fd.name,fd.qualname,fd.params,fd.body,fd.scope,fd.globals,fd.closure,fd.defaults,fd.builtins,W.codeIn K fd.code fd.qualname&&W.keepIn K (.ref a)⟩
noncomputable def fSee(K:W.Frag)(x:Str):Option Fv:=match W.nsIn K mainGlobals x with
 |some (some (.ref a))=>(match K.lookup a with
  |some ⟨_,_,.func fd,_⟩=>some (fOf K a fd)
  |_=>none)
 |_=>none
noncomputable def fDue(x:Str)(st:Stmt):Option Fv:=some ⟨x,x,defArgs st,.stmts (defBody st),defScope st,mainGlobals,[],.none,builtinsNs,true⟩
noncomputable def bSee(K:W.Frag)(x:Str):Bool:=match W.nsIn K mainGlobals x with
 |some none=>true
 |_=>false
noncomputable def gSee(K:W.Frag)(x:Str):Option Int:=match W.nsIn K mainGlobals x with
 |some (some (.int i _))=>some i
 |_=>none
theorem fSee_ok{K:W.Frag}{x:Str}{st:Stmt}(h:fSee K x=fDue x st):∃(f:Addr) (od an:Option Addr) (sl:Array (Option Value)) (oc kV dc pm cd ct:Value),W.nsIn K mainGlobals x=some (some (.ref f))∧
 K.lookup f=some ⟨oc,od,.func (W.fnOf x x (defArgs st) (defBody st) (defScope st) .none kV dc pm an cd ct),sl⟩∧W.codeIn K cd x=true∧W.keepIn K (.ref f)=true:=by
 unfold fSee fDue at h
 split at h
 ·rename_i a ha
  split at h
  ·rename_i oc od fd sl hl
   have h:=Option.some.inj h
   unfold fOf at h
   obtain⟨n,q,ps,b,sc,g,c,d,kV,dc,pm,an,cd,ct,bi⟩:=fd
   injection h with h1 h2 h3 h4 h5 h6 h7 h8 h9 h10
   dsimp only at h1 h2 h3 h4 h5 h6 h7 h8 h9 h10
   subst h1 h2 h3 h4 h5 h6 h7 h8 h9
   obtain⟨k1,k2⟩:=bae h10
   exact⟨a,od,an,sl,oc,kV,dc,pm,cd,ct,ha,hl,k1,k2⟩
  ·cases h
 ·cases h
theorem bSee_ok{K:W.Frag}{x:Str}(h:bSee K x=true):W.nsIn K mainGlobals x=some none:=by
 unfold bSee at h
 split at h
 ·assumption
 ·cases h
noncomputable def cAd(K:W.Frag)(x:Str):Option Addr:=match W.nsIn K mainGlobals x with
 |some (some (.ref a))=>some a
 |_=>none
noncomputable def isBi(o:Option (Option Value))(s:String):Bool:=match o with
 |some (some (.builtin t))=>t==s
 |_=>false
theorem isBi_ok{o:Option (Option Value)}{s:String}(h:isBi o s=true):o=some (some (.builtin s)):=by
 unfold isBi at h
 split at h
 ·rw [eq_of_beq h]
 ·cases h
noncomputable def isNo(o:Option (Option Value)):Bool:=match o with
 |some none=>true
 |_=>false
theorem isNo_ok{o:Option (Option Value)}(h:isNo o=true):o=some none:=by
 unfold isNo at h
 split at h
 ·rfl
 ·cases h
noncomputable def isB(o:Option Bool)(b:Bool):Bool:=match o with
 |some c=>c==b
 |none=>false
theorem isB_ok{o:Option Bool}{b:Bool}(h:isB o b=true):o=some b:=by
 unfold isB at h
 split at h
 ·rw [eq_of_beq h]
 ·cases h
noncomputable def clsB(K:W.Frag)(C:Addr):Bool:=W.plainGet K C Str.empty&&(W.hasDictIn K C&&(W.plainOver K C&&(isBi (W.findIn K (.ref C) "__setattr__") "object.__setattr__"&&(FLD.all (fun f=>isNo (W.findIn K (.ref C) f))&&(isBi (W.findIn K (.ref C) "__class__") "object.__class__"&&(isBi (W.specialIn K (.builtin "object.__class__") "__get__") "getset_descriptor.__get__"&&(isB (W.takesIn K (.builtin "object.__class__")) true&&isB (W.mroIn K C (.type "object")) true)))))))
theorem clsB_ok{K:W.Frag}{C:Addr}(h:clsB K C=true):Cls K C∧(∀f∈FLD,NoAttr K C f)∧ClsT K C:=by
 unfold clsB at h
 simp only [Bool.and_eq_true]at h
 obtain⟨h1,h2,h3,h4,h5,h6,h7,h8,h9⟩:=h
 exact⟨⟨h1,h2,h3,isBi_ok h4⟩,fun f hf=>isNo_ok (List.all_eq_true.mp h5 f hf),⟨isBi_ok h6,isBi_ok h7,isB_ok h8,isB_ok h9⟩⟩
noncomputable def clOf(K:W.Frag)(cs:List Str)(i:Nat):Option Addr:=match cs[i]? with
 |some x=>cAd K x
 |none=>none
noncomputable def oneB(K:W.Frag)(cs:List Str)(i j:Nat):Bool:=match clOf K cs i,clOf K cs j with
 |some I,some J=>isB (W.kitOne K (.ref I) (.ref J)) (subC i j)
 |_,_=>false
noncomputable def eachB(K:W.Frag)(cs:List Str)(i:Nat):Bool:=(match clOf K cs i with
 |some C=>clsB K C
 |none=>false)&&(List.range cs.length).all (oneB K cs i)
noncomputable def allC(K:W.Frag)(cs:List Str):Bool:=(List.range cs.length).all (eachB K cs)
theorem clOf_lt{K:W.Frag}{cs:List Str}{i:Nat}{C:Addr}(h:clOf K cs i=some C):i<cs.length:=by
 unfold clOf at h
 split at h
 ·rename_i e;exact(List.getElem?_eq_some_iff.mp e).1
 ·cases h
theorem allC_ok{K:W.Frag}{cs:List Str}(h:allC K cs=true):ClsOk K (clOf K cs):=by
 have A:=fun i (hi:i<cs.length)=>bae (List.all_eq_true.mp h i (List.mem_range.mpr hi))
 refine⟨fun i C hC=> ?_,fun i I j J hI hJ=> ?_⟩
 ·have:=(A i (clOf_lt hC)).1
  rw [hC]at this
  exact clsB_ok this
 ·have:=List.all_eq_true.mp (A i (clOf_lt hI)).2 j (List.mem_range.mpr (clOf_lt hJ))
  unfold oneB at this
  rw [hI,hJ]at this
  exact isB_ok this
noncomputable def mkB(K:W.Frag)(x:Str):Bool:=match cAd K x with
 |some C=>W.makesIn K C&&W.keepIn K (.ref C)
 |none=>false
noncomputable def mSee(K:W.Frag)(p:Str×Str):Option Fv:=match cAd K p.1 with
 |some C=>(match W.findIn K (.ref C) p.2 with
  |some (some (.ref a))=>(match W.isFn K (.ref a)with
   |true=>(match K.lookup a with
    |some ⟨_,_,.func fd,_⟩=>some (fOf K a fd)
    |_=>none)
   |false=>none)
  |_=>none)
 |none=>none
structure Asks where
 fs:List Str
 ms:List (Str×Str)
 gs:List Str
 bs:List Str
 cs:List Str
 mks:List Str
noncomputable abbrev Look:=List (Option Fv)×List (Option Fv)×List (Option Int)×Bool
noncomputable def look(q:Asks)(K:W.Frag):Look:=(q.fs.map (fSee K),q.ms.map (mSee K),q.gs.map (gSee K),q.bs.all (bSee K)&&(allC K q.cs&&(q.mks.all (mkB K)&&xB K)))
noncomputable def lHook(q:Asks)(due:Look):W.Hook:=
 ⟨_,fun s=>look q (frOf s.heap),fun _=>due,fun _ h=>∃h₀:Heap,(∀b o,h₀.get? b=some o→h.get? b=some o)∧look q (frOf h₀)=due,fun _ s e=>⟨s.heap,fun _ _ z=>z,e⟩,fun _ h h' ⟨h₀,k,e⟩ k'=>⟨h₀,fun b o z=>k' b o (k b o z),e⟩⟩
theorem walkL{l:W.OpenLaw}{n k:Nat}{q:Program}{loose:List Str}{XP:(Str→Option Value)→Heap→Prop}{d:DefRec}{a:Asks}{due:Look}{x:Str}{g:List D→Option T}
 (hn:l.most=some n)(hn2:n≤sizeLine)(hdf:d.params.defaults=[])(hr:Room k callerA)
 (F:∀(w:World) (mg:Str→Option Value) (fa:Addr) (K:W.Frag) (h:Heap),K.In h→h.Ns mainGlobals mg→mg d.name=some (.ref fa)→look a K=due→
   ∃(cl:Nat→Option Addr) (fd:FuncData),(∀(s:Shared) (u:Value),BindsTo s fd ⟨[u],[]⟩ [(x,u)])∧
    ∀base:Heap,K.In base→base.Ns mainGlobals mg→FnOk l.prog w K mg base CX0 k fa fd [x] (spP K cl g))
 (hg:∀ns:List Int,ns.length≤n→g [.lst (ns.map D.int)]=some (.sh (.bl true))):
 W.WalkO q loose XP (lHook a due).says l.row.toRowW d [] (fun f vs=>PySem.call f vs):=by
 refine Att.attach_call hn hdf fun w s₀ s₁ mg mb fa o pm cd doc b vs ns G Y ho hd hcd hmg hobj hints hlen hg'=> ?_
 obtain⟨h₀,kk,e⟩:=Y
 have KX:(frOf h₀).In s₁.heap:=frOf_in kk
 obtain⟨cl,fd,hb,hF⟩:=F w mg fa _ _ KX G.T.g hmg e
 refine law_callR (CX:=CX0) (sp:=spP (frOf h₀) cl g) KX G.T.g G.T.b G.T.builtins G.T.nolimit hg' hobj hints (Nat.le_trans hlen hn2) hr hF hb (fun H hS=> ?_) fun H e s' z=>z
 exact⟨H,_,_,.refl _,.cons (.lst hS (dns_ints ns)) .nil,hg ns hlen,fun v H' G' A e ot nd nw=>by cases ot with|sh dn=>cases dn;rfl⟩
noncomputable def topRunT(tb:String→Option Builtin)(p:Program)(w:World)(n₀:Nat)(ann:Option Value):Nat→SharedT→Thread→Option SharedT
 |0,_,_=>none
 |n+1,s,t=>match through t with
  |true=>some s
  |false=>match stepOk n₀ ann t with
   |false=>none
   |true=>match stepT (denote tb) p w s t with
    |some (s',t')=>topRunT tb p w n₀ ann n s' t'
    |none=>none
theorem topRun_of{tb:String→Option Builtin}{p:Program}{w:World}{n₀:Nat}{ann:Option Value}:∀ {n:Nat} {s s':SharedT} {t:Thread},topRunT tb p w n₀ ann n s t=some s'→topRun tb p w n₀ ann n s.abs t=some s'.abs
 |0,_,_,_,h=>by cases h
 |n+1,s,s',t,h=>by
  unfold topRunT at h
  unfold topRun
  cases he:through t with
  |true=>rw [he]at h;cases h;rfl
  |false=>
   rw [he]at h
   cases hk:stepOk n₀ ann t with
   |false=>rw [hk]at h;cases h
   |true=>
    rw [hk]at h
    cases hs:stepT (denote tb) p w s t with
    |none=>rw [hs]at h;cases h
    |some r=>obtain⟨s₂,t₂⟩:=r;rw [hs]at h;rw [stepT_spec hs];exact topRun_of h
noncomputable def treeOf:List Obj→Nat→BT→BT
 |[],_,t=>t
 |o::r,i,t=>treeOf r (i+1) (t.ins i o)
noncomputable def tree0(P:Params):BT:=treeOf (boot_heap P).objs.toList 0 .nil
noncomputable def st0(P:Params)(os:OsState):SharedT:=⟨tree0 P,11,(boot_heap P).life,⟨[]⟩,boot_drawn,boot_toks,os⟩
theorem tree0_ok(P:Params):absHeap (tree0 P) 11 (boot_heap P).life=boot_heap P:=by kernel_rfl
theorem boot_is(P:Params):((boot_heap P).isNs mainGlobals&&(⟨[]⟩:Array GenState).size==0,(boot_heap P).objs.size,(boot_heap P).nsMap mainGlobals "__annotations__")=(true,11,some (.ref 6)):=by kernel_rfl
noncomputable def frT(s:SharedT):W.Frag:=(List.range s.n).filterMap fun a=>(alive ((s.tree.get a).getD default)).map fun o=>(a,o)
theorem filterMap_eq{α β:Type}{f g:α→Option β}:∀ {l:List α},(∀x∈l,f x=g x)→l.filterMap f=l.filterMap g
 |[],_=>rfl
 |x::l,h=>by rw [List.filterMap_cons,List.filterMap_cons,h x (List.mem_cons_self ..),filterMap_eq fun y hy=>h y (List.mem_cons_of_mem _ hy)]
theorem frT_ok(s:SharedT):frOf s.abs.heap=frT s:=by
 unfold frOf frT
 rw [show s.abs.heap.objs.size=s.n from absHeap_size ..]
 refine filterMap_eq fun a ha=> ?_
 have h:=List.mem_range.mp ha
 have e:s.abs.heap.get? a=alive ((s.tree.get a).getD default):=by
  show(absHeap s.tree s.n s.life).get? a=_
  unfold Heap.get?
  rw [absHeap_at,if_pos h]
  generalize (s.tree.get a).getD default=o
  obtain⟨c,d,dt,sl⟩:=o
  cases dt<;>rfl
 rw [e]
theorem left_tree{p q:Program}{loose:List Str}{Xt:Shared→Bool}{α:Type}{Yf:Shared→α}{Yt:SharedT→α}{Ya:World→α}{N:Nat}(hY:∀s:SharedT,Yf s.abs=Yt s)
 (e:opening p=plainProg p.main.scope.names)(hN:Nat.ble 600 N=true)(f:∀s,fenceModules? p s=some s)
 (run:∀(w:World) (os:OsState),(topRunT treeTable p w 11 (some (.ref 6)) N (st0 w.params os) (topStub p)).map (fun s=>(staticsOk (importedModules p.main.body) (boot_heap w.params) s.abs.heap&&namesBound p s.abs.heap&&gensDone s.abs&&laidKept (boot_heap w.params) s.abs.heap,openSeen q loose (importedModules p.main.body) Xt true s.abs,Yt s))=some (true,openGood q loose,Ya w)):LeftO p q loose Xt Yf Ya N:=fun w=>by
 obtain⟨⟨h,gs,d,k,os⟩,e0,e'⟩:=msi (boot_open e hN f w)
 obtain⟨rfl,rfl,rfl,rfl⟩:h=boot_heap w.params∧gs=⟨[]⟩∧d=boot_drawn∧k=boot_toks:=by simpa using e'
 obtain⟨z1,z2,z3⟩:_∧_∧_:=by simpa only [Prod.mk.injEq]using boot_is w.params
 obtain⟨s,hs,hv⟩:=msi (run w os)
 obtain⟨l1,l2,l3⟩:_∧_∧_:=by simpa only [Prod.mk.injEq]using hv
 have r:=topRun_of hs
 rw [show(st0 w.params os).abs=⟨boot_heap w.params,⟨[]⟩,boot_drawn,boot_toks,os⟩ by unfold st0 SharedT.abs;dsimp only;rw [tree0_ok]]at r
 have t:topFrom treeTable p w N ⟨boot_heap w.params,⟨[]⟩,boot_drawn,boot_toks,os⟩=some s.abs:=by
  unfold topFrom
  dsimp only
  rw [z1,z2,z3,r]
  show(match staticsOk (importedModules p.main.body) (boot_heap w.params) s.abs.heap&&namesBound p s.abs.heap&&gensDone s.abs&&laidKept (boot_heap w.params) s.abs.heap with|true=>_|false=>_)=_
  rw [l1]
 unfold openEnds
 rw [e0]
 show(topFrom treeTable p w N _).map _=_
 rw [t]
 exact congrArg some (Prod.ext l2 ((hY s).trans l3))
theorem look_T(q:Asks)(due:Look)(s:SharedT):(lHook q due).obs s.abs=look q (frT s):=congrArg (look q) (frT_ok s)
end MI
end
noncomputable section
namespace MI
open PySem L2 PyProof.Rows
abbrev LoC(N:List Str)(st:Stmt):Prop:=∀x∈N,(defScope st).names.lookup x=some .local∨(defScope st).names.lookup x=some .cell
noncomputable def fnB(N ps:List Str)(st:Stmt):Bool:=decide ((defScope st).kind=.function∧(defScope st).isCoroutine=false∧(defScope st).isGenerator=false∧N.Nodup∧N.take ps.length=ps∧(∀x∈ps,(defScope st).names.lookup x=some .local∨(defScope st).names.lookup x=some .cell)∧(∀y∈(defScope st).names,y.2≠.free)∧LoC N st)
theorem fnB_ok{N ps:List Str}{st:Stmt}(h:fnB N ps st=true):FnScope N ps (defScope st)∧LoC N st:=by
 obtain⟨h1,h2,h3,h4,h5,h6,h7,h8⟩:=odt h
 exact⟨⟨h1,h2,h3,h4,h5,h6,h7⟩,h8⟩
structure Dk(c:CS)(N ps:List Str)(st:Stmt)(l:List Stmt)(b:S):Prop where
 sc:fnB N ps st=true
 cc:cSt c 40 N (defScope st) l=some b
 bd:∀(x q:Str) (kV doc pm:Value) (an:Option Addr) (cdv ct:Value) (us:List Value),us.length=ps.length→bindArgs (W.fnOf x q (defArgs st) (defBody st) (defScope st) .none kV doc pm an cdv ct) ⟨us,[]⟩=pure (ps.zip us)
noncomputable abbrev CS.aT(c:CS)(x:Str)(f:Nat):CS:=⟨⟨(x,f)::c.cc.tab,c.cc.gi,c.cc.cn⟩,c.iot⟩
noncomputable abbrev CS.aI(c:CS)(x:Str)(f j:Nat):CS:=⟨c.cc,(x,f,j)::c.iot⟩
theorem ar1{us:List Value}(h:us.length=1):∃a,us=[a]:=List.length_eq_one_iff.mp h
theorem ar2{us:List Value}(h:us.length=2):∃a b,us=[a,b]:=by
 cases us with
 |nil=>cases h
 |cons a r=>obtain⟨b,rfl⟩:=ar1 (Nat.succ.inj h);exact⟨a,b,rfl⟩
theorem ar3{us:List Value}(h:us.length=3):∃a b c,us=[a,b,c]:=by
 cases us with
 |nil=>cases h
 |cons a r=>obtain⟨b,c,rfl⟩:=ar2 (Nat.succ.inj h);exact⟨a,b,c,rfl⟩
theorem fG{K:W.Frag}{x:Str}{st:Stmt}{l r:List (Option Fv)}(e:fSee K x::l=fDue x st::r):∃f fd,Fun K x x st f fd∧W.nsIn K mainGlobals x=some (some (.ref f))∧l=r:=by
 obtain⟨t,e⟩:=List.cons.inj e
 obtain⟨f,od,an,sl,oc,kV,dc,pm,cd,ct,a,l,c,k⟩:=fSee_ok t
 exact⟨f,_,fun_mk l c k,a,e⟩
section
variable{P:Program}{w:World}{K:W.Frag}{mg:Str→Option Value}{base:Heap}{cl:Nat→Option Addr}{c:CS}{Γ:Tab}{Δ:IOT}{k:Nat}{x q:Str}{f j:Nat}{st:Stmt}{fa C:Addr}{fd:FuncData}{N ps:List Str}{b:S}
theorem Lw.sP(L:Lw P w K mg base cl c Γ Δ k)(hf:(decide (f<1000)&&c.cc.tab.all (fun p=>p.2 !=f))=true)(F:Fun K x x st fa fd)(D:Dk c N ps st (defBody st) b)(hm:mg x=some (.ref fa)):Lw P w K mg base cl (c.aT x f) (extT Γ f (gP Γ Δ 100 N ps.length b)) Δ (k+1):=by
 obtain⟨h1,h2⟩:=bae hf
 exact L.join (odt h1) h2 (L.run (m:=100) F (fnB_ok D.sc).1 (fnB_ok D.sc).2 D.cc) hm F.kp (F.binds (D.bd x x))
theorem Lw.sI(L:Lw P w K mg base cl c Γ Δ k)(hf:(decide (f<1000)&&c.iot.all (fun p=>p.2.1 !=f))=true)(F:Fun K x x st fa fd)(D:Dk c N ps st (defBody st) b)(hm:mg x=some (.ref fa)):Lw P w K mg base cl (c.aI x f j) Γ (extI Δ f j (gQ Γ Δ 100 N j ps.length b)) (k+1):=by
 obtain⟨h1,h2⟩:=bae hf
 exact L.joinIO (odt h1) h2 (L.runIO (m:=100) F (fnB_ok D.sc).1 (fnB_ok D.sc).2 D.cc) hm F.kp (F.binds (D.bd x x))
theorem Lw.sL(L:Lw P w K mg base cl c Γ Δ k)(F:Fun K x x st fa fd)(D:Dk c N ps st (defBody st) b):FnOk P w K mg base CX0 (k+1) fa fd ps (spP K cl (gP Γ Δ 100 N ps.length b)):=L.run (m:=100) F (fnB_ok D.sc).1 (fnB_ok D.sc).2 D.cc
end
structure Dx(c:CS)(ξ:List (Str×Nat))(N ps:List Str)(st:Stmt)(r:R):Prop where
 sc:fnB N ps st=true
 cc:cR c.cc ξ N (defScope st) 40 (defBody st)=r
 bd:∀(x q:Str) (kV doc pm:Value) (an:Option Addr) (cdv ct:Value) (us:List Value),us.length=ps.length→bindArgs (W.fnOf x q (defArgs st) (defBody st) (defScope st) .none kV doc pm an cdv ct) ⟨us,[]⟩=pure (ps.zip us)
section
variable{P:Program}{w:World}{K:W.Frag}{mg:Str→Option Value}{base:Heap}{cl:Nat→Option Addr}{c:CS}{Γ:Tab}{Δ:IOT}{Ξ:XT}{ξ:List (Str×Nat)}{k:Nat}{x q:Str}{f j:Nat}{st:Stmt}{fa C:Addr}{fd:FuncData}{N ps:List Str}{r:R}
theorem LwX.sX(M:LwX P w K mg base cl Ξ ξ k)(L:Lw P w K mg base cl c Γ Δ k)(hj:ξ.all (fun p=>p.2 !=j)=true)(F:Fun K x x st fa fd)(D:Dx c ξ N ps st r)(hm:mg x=some (.ref fa)):LwX P w K mg base cl (fun i=>if i=j then some (gX Γ Ξ ps.length r)else Ξ i) ((x,j)::ξ) (k+1):=
 M.add (Nat.le_succ _) hj (def_x L M F (fnB_ok D.sc).1 (fnB_ok D.sc).2 D.cc) hm F.kp (F.binds (D.bd x x))
end
end MI
end
noncomputable section
namespace MI
open PySem L2
theorem ar0{us:List Value}(h:us.length=0):us=[]:=List.length_eq_zero_iff.mp h
noncomputable def top(i:Nat):Stmt:=PySem.Challenge.pw_backorder_k07_written.main.body.getD i (.Pass ⟨0,0,0,0⟩)
noncomputable abbrev tb0:CS:=⟨⟨[],[],[]⟩,[]⟩
noncomputable abbrev s_is_whole:Stmt:=top 8
noncomputable abbrev s_first_met:Stmt:=top 9
noncomputable abbrev s_is_row:Stmt:=top 10
noncomputable abbrev s_need_row:Stmt:=top 11
noncomputable abbrev s_written:Stmt:=top 14
noncomputable abbrev s_row_of_figures:Stmt:=top 15
noncomputable abbrev s_read:Stmt:=top 16
noncomputable abbrev s__law_cell_at:Stmt:=top 18
noncomputable abbrev s__law_draw:Stmt:=top 19
noncomputable abbrev s__law_row:Stmt:=top 20
noncomputable abbrev s__law_number:Stmt:=top 23
noncomputable abbrev s__law_in:Stmt:=top 24
noncomputable abbrev s__law_refused:Stmt:=top 25
noncomputable abbrev s__law_right:Stmt:=top 26
noncomputable abbrev s__law_few:Stmt:=top 27
noncomputable abbrev s_law:Stmt:=top 28
theorem ok_is_whole:Dk tb0 ["value"] ["value"] s_is_whole (defBody s_is_whole) b_is_whole:=⟨by kernel_rfl,by kernel_rfl,fun _ _ _ _ _ _ _ _ _ h=>by obtain⟨_,rfl⟩:=ar1 h;rfl⟩
noncomputable abbrev tb1:CS:=tb0.aT "is_whole" 0
theorem ok_first_met:Dk tb1 ["thing","met"] ["thing","met"] s_first_met (defBody s_first_met) b_first_met:=⟨by kernel_rfl,by kernel_rfl,fun _ _ _ _ _ _ _ _ _ h=>by obtain⟨_,_,rfl⟩:=ar2 h;rfl⟩
noncomputable abbrev tb2:CS:=tb1.aI "first_met" 100 1
theorem ok_is_row:Dk tb2 ["value","met","thing"] ["value"] s_is_row (defBody s_is_row) b_is_row:=⟨by kernel_rfl,by kernel_rfl,fun _ _ _ _ _ _ _ _ _ h=>by obtain⟨_,rfl⟩:=ar1 h;rfl⟩
noncomputable abbrev tb3:CS:=tb2.aT "is_row" 1
theorem ok_need_row:Dk tb3 ["value"] ["value"] s_need_row (defBody s_need_row) b_need_row:=⟨by kernel_rfl,by kernel_rfl,fun _ _ _ _ _ _ _ _ _ h=>by obtain⟨_,rfl⟩:=ar1 h;rfl⟩
noncomputable abbrev tb4:CS:=tb3.aT "need_row" 2
theorem ok_written:Dk tb4 ["row"] ["row"] s_written (defBody s_written) b_written:=⟨by kernel_rfl,by kernel_rfl,fun _ _ _ _ _ _ _ _ _ h=>by obtain⟨_,rfl⟩:=ar1 h;rfl⟩
noncomputable abbrev tb5:CS:=tb4.aT "written" 44
noncomputable abbrev tb6:CS:=tb5.aT "row_of_figures" 45
theorem ok_read:Dk tb6 ["text"] ["text"] s_read (defBody s_read) b_read:=⟨by kernel_rfl,by kernel_rfl,fun _ _ _ _ _ _ _ _ _ h=>by obtain⟨_,rfl⟩:=ar1 h;rfl⟩
noncomputable abbrev tb7:CS:=tb6.aT "read" 46
theorem okx_read:Dx tb7 ξ1 ["text"] ["text"] s_read r_read:=⟨by kernel_rfl,by kernel_rfl,fun _ _ _ _ _ _ _ _ _ h=>by obtain⟨_,rfl⟩:=ar1 h;rfl⟩
theorem ok__law_cell_at:Dk tb7 ["_law_script","_law_k"] ["_law_script","_law_k"] s__law_cell_at (defBody s__law_cell_at) b__law_cell_at:=⟨by kernel_rfl,by kernel_rfl,fun _ _ _ _ _ _ _ _ _ h=>by obtain⟨_,_,rfl⟩:=ar2 h;rfl⟩
noncomputable abbrev tb8:CS:=tb7.aT "_law_cell_at" 50
theorem ok__law_draw:Dk tb8 ["_law_cell","_law_k","_law_many","_law_primes"] ["_law_cell","_law_k","_law_many"] s__law_draw (defBody s__law_draw) b__law_draw:=⟨by kernel_rfl,by kernel_rfl,fun _ _ _ _ _ _ _ _ _ h=>by obtain⟨_,_,_,rfl⟩:=ar3 h;rfl⟩
noncomputable abbrev tb9:CS:=tb8.aT "_law_draw" 51
theorem ok__law_row:Dk tb9 ["_law_script","_law_kind","_law_row_here","_law_k","_law_away"] ["_law_script"] s__law_row (defBody s__law_row) b__law_row:=⟨by kernel_rfl,by kernel_rfl,fun _ _ _ _ _ _ _ _ _ h=>by obtain⟨_,rfl⟩:=ar1 h;rfl⟩
noncomputable abbrev tb10:CS:=tb9.aT "_law_row" 52
theorem ok__law_number:Dk tb10 ["_law_text"] ["_law_text"] s__law_number (defBody s__law_number) b__law_number:=⟨by kernel_rfl,by kernel_rfl,fun _ _ _ _ _ _ _ _ _ h=>by obtain⟨_,rfl⟩:=ar1 h;rfl⟩
noncomputable abbrev tb11:CS:=tb10.aT "_law_number" 76
theorem ok__law_in:Dk tb11 ["_law_text","_law_found"] ["_law_text"] s__law_in (defBody s__law_in) b__law_in:=⟨by kernel_rfl,by kernel_rfl,fun _ _ _ _ _ _ _ _ _ h=>by obtain⟨_,rfl⟩:=ar1 h;rfl⟩
noncomputable abbrev tb12:CS:=tb11.aT "_law_in" 77
noncomputable abbrev tb13:CS:=tb12.aT "_law_refused" 78
theorem ok__law_right:Dk tb13 ["_law_text","_law_due","_law_found"] ["_law_text"] s__law_right (defBody s__law_right) b__law_right:=⟨by kernel_rfl,by kernel_rfl,fun _ _ _ _ _ _ _ _ _ h=>by obtain⟨_,rfl⟩:=ar1 h;rfl⟩
noncomputable abbrev tb14:CS:=tb13.aT "_law_right" 79
theorem ok__law_few:Dk tb14 ["_law_some"] [] s__law_few (defBody s__law_few) b__law_few:=⟨by kernel_rfl,by kernel_rfl,fun _ _ _ _ _ _ _ _ _ h=>by obtain rfl:=ar0 h;rfl⟩
noncomputable abbrev tb15:CS:=tb14.aT "_law_few" 80
theorem ok_law:Dk tb15 ["_law_script","_law_row_here","_law_text","_law_handed","_law_cell","_law_k","_law_at","_law_sign"] ["_law_script"] s_law (defBody s_law) b_law:=⟨by kernel_rfl,by kernel_rfl,fun _ _ _ _ _ _ _ _ _ h=>by obtain⟨_,rfl⟩:=ar1 h;rfl⟩
noncomputable def pR(i:Nat):Pos:=[⟨46,15,46,23⟩,⟨47,18,47,25⟩,⟨47,26,47,101⟩,⟨47,18,47,102⟩,⟨47,108,47,112⟩,⟨47,12,47,112⟩,⟨46,8,47,112⟩,⟨45,12,45,15⟩,⟨45,12,45,22⟩,⟨45,23,45,30⟩,⟨45,23,45,34⟩,⟨45,35,45,39⟩,⟨45,23,45,40⟩,⟨45,12,45,41⟩,⟨45,12,45,41⟩,⟨44,8,47,112⟩,⟨41,4,41,11⟩,⟨41,14,41,18⟩,⟨41,14,41,75⟩,⟨41,4,41,75⟩,⟨42,4,42,7⟩,⟨42,10,42,12⟩,⟨42,4,42,12⟩,⟨43,8,43,12⟩,⟨43,16,43,21⟩,⟨43,4,47,112⟩,⟨48,11,48,14⟩,⟨48,4,48,14⟩].getD i ⟨0,0,0,0⟩
noncomputable def ceR:Expr:=match (defBody s_row_of_figures).headD (.Pass ⟨0,0,0,0⟩)with
 | .Assign _ (.Call _ [a] _ _) _=>a
 |_=> .Name "" ⟨0,0,0,0⟩
theorem row_b:defBody s_row_of_figures=rowB pR ceR "a row's numbers are written once each, in figures, with one blank between" 0 0:=by kernel_rfl
theorem row_c:(cE tb5.cc 40 true NR (defScope s_row_of_figures) ceR,okE ceR)=(some mRow,true):=by kernel_rfl
theorem row_s:fnB NR ["parts"] s_row_of_figures=true:=by kernel_rfl
theorem row_l:(NR.all fun x=>decide ((defScope s_row_of_figures).names.lookup x=some .local))=true:=by kernel_rfl
theorem row_g:((["dict","KeyError","BadText"]:List Str).all fun x=>decide ((defScope s_row_of_figures).names.lookup x=some .globalImplicit))=true:=by kernel_rfl
theorem rowS_ok{K:W.Frag}{f:Addr}{fd:FuncData}(F:Fun K "row_of_figures" "row_of_figures" s_row_of_figures f fd):RowS K tb5 s_row_of_figures f fd:=⟨F,(fnB_ok row_s).1,fun x hx=>odt (List.all_eq_true.mp row_l x hx),fun x hx=>odt (List.all_eq_true.mp row_g x hx),pR,ceR,_,0,0,40,row_b,(Prod.mk.inj row_c).1,(Prod.mk.inj row_c).2,rfl,rfl⟩
theorem row_bd{K:W.Frag}{f:Addr}{fd:FuncData}(F:Fun K "row_of_figures" "row_of_figures" s_row_of_figures f fd):Binds K fd ["parts"] []:=F.binds (fun _ _ _ _ _ _ _ h=>by obtain⟨_,rfl⟩:=ar1 h;rfl)
noncomputable def pF(i:Nat):Pos:=[⟨98,23,98,33⟩,⟨98,34,98,39⟩,⟨98,41,98,50⟩,⟨98,23,98,51⟩,⟨98,53,98,63⟩,⟨98,64,98,69⟩,⟨98,71,98,79⟩,⟨98,53,98,80⟩,⟨98,82,98,92⟩,⟨98,93,98,98⟩,⟨98,100,98,106⟩,⟨98,82,98,107⟩,⟨99,37,99,47⟩,⟨99,48,99,53⟩,⟨99,55,99,61⟩,⟨99,37,99,62⟩,⟨99,68,99,78⟩,⟨99,79,99,84⟩,⟨99,86,99,96⟩,⟨99,68,99,97⟩,⟨100,15,100,25⟩,⟨100,26,100,31⟩,⟨100,33,100,40⟩,⟨100,15,100,41⟩,⟨98,8,98,19⟩,⟨98,22,98,108⟩,⟨98,8,98,108⟩,⟨99,8,99,19⟩,⟨99,22,99,33⟩,⟨99,64,99,97⟩,⟨99,36,99,98⟩,⟨99,22,99,98⟩,⟨99,8,99,98⟩,⟨100,51,100,54⟩,⟨100,55,100,66⟩,⟨100,51,100,67⟩,⟨100,47,100,67⟩,⟨100,15,100,68⟩,⟨100,8,100,68⟩,⟨96,8,96,12⟩,⟨96,13,96,22⟩,⟨96,8,96,23⟩,⟨96,8,96,23⟩,⟨97,11,97,21⟩,⟨97,4,100,68⟩,⟨95,4,100,68⟩,⟨101,11,101,16⟩,⟨101,4,101,16⟩].getD i ⟨0,0,0,0⟩
theorem ref_b:defBody s__law_refused=[refT pF,.Return (some (.Constant (.bool false) 0 (pF 46))) (pF 47)]:=by kernel_rfl
theorem ref_s:fnB NF ["_law_text"] s__law_refused=true:=by kernel_rfl
theorem ref_l:(NF.all fun x=>decide ((defScope s__law_refused).names.lookup x=some .local))=true:=by kernel_rfl
theorem ref_g:((("isinstance":Str)::"any"::"ValueError"::"OrderError"::"read"::XN).all fun x=>decide ((defScope s__law_refused).names.lookup x=some .globalImplicit))=true:=by kernel_rfl
theorem refS_ok{K:W.Frag}{f:Addr}{fd:FuncData}(F:Fun K "_law_refused" "_law_refused" s__law_refused f fd):RefS K s__law_refused f fd:=⟨F,(fnB_ok ref_s).1,fun x hx=>odt (List.all_eq_true.mp ref_l x hx),fun x hx=>odt (List.all_eq_true.mp ref_g x hx),pF,0,ref_b⟩
theorem ref_bd{K:W.Frag}{f:Addr}{fd:FuncData}(F:Fun K "_law_refused" "_law_refused" s__law_refused f fd):Binds K fd ["_law_text"] []:=F.binds (fun _ _ _ _ _ _ _ h=>by obtain⟨_,rfl⟩:=ar1 h;rfl)
end MI
end
noncomputable section
namespace MI
open PySem L2 PyProof.Rows
noncomputable def lQ:Asks:=⟨(["is_whole","first_met","is_row","need_row","written","row_of_figures","read","_law_cell_at","_law_draw","_law_row","_law_number","_law_in","_law_refused","_law_right","_law_few","law"]:List Str),[],[],BLT++(["ValueError","dict","KeyError"]:List Str),[],[]⟩
noncomputable def lDue:Look:=([fDue "is_whole" s_is_whole,fDue "first_met" s_first_met,fDue "is_row" s_is_row,fDue "need_row" s_need_row,fDue "written" s_written,fDue "row_of_figures" s_row_of_figures,fDue "read" s_read,fDue "_law_cell_at" s__law_cell_at,fDue "_law_draw" s__law_draw,fDue "_law_row" s__law_row,fDue "_law_number" s__law_number,fDue "_law_in" s__law_in,fDue "_law_refused" s__law_refused,fDue "_law_right" s__law_right,fDue "_law_few" s__law_few,fDue "law" s_law],[],[],true)
theorem facts{l:W.OpenLaw}{w:World}{mg:Str→Option Value}{fa:Addr}{K:W.Frag}{h:Heap}(X:K.In h)(G:h.Ns mainGlobals mg)(hfa:mg "law"=some (.ref fa))(e:look lQ K=lDue):∃(cl:Nat→Option Addr) (fd:FuncData),(∀(s:Shared) (u:Value),BindsTo s fd ⟨[u],[]⟩ [("_law_script",u)])∧∀base:Heap,K.In base→base.Ns mainGlobals mg→FnOk l.prog w K mg base CX0 18 fa fd ["_law_script"] (spP K cl g_law):=by
 obtain⟨e1,e⟩:=Prod.mk.inj e
 obtain⟨e2,e⟩:=Prod.mk.inj e
 obtain⟨e3,e4⟩:=Prod.mk.inj e
 obtain⟨e4,e⟩:=bae e4
 obtain⟨e5,e6⟩:=bae e
 obtain⟨_,e7⟩:=bae e6
 have hcl:ClsOk K (clOf K []):=allC_ok e5
 have gm:∀ {x:Str} {a:Addr},W.nsIn K mainGlobals x=some (some (.ref a))→mg x=some (.ref a):=fun h=>W.mg_of X G h
 obtain⟨xk,xo,xf⟩:=xB_ok (mg:=mg) e7 (fun x a h=>gm h) (fun x z t h=>W.mg_of X G h)
 obtain⟨f1,d1,F1,a1,e1⟩:=fG e1
 obtain⟨f2,d2,F2,a2,e1⟩:=fG e1
 obtain⟨f3,d3,F3,a3,e1⟩:=fG e1
 obtain⟨f4,d4,F4,a4,e1⟩:=fG e1
 obtain⟨f5,d5,F5,a5,e1⟩:=fG e1
 obtain⟨f6,d6,F6,a6,e1⟩:=fG e1
 obtain⟨f7,d7,F7,a7,e1⟩:=fG e1
 obtain⟨f8,d8,F8,a8,e1⟩:=fG e1
 obtain⟨f9,d9,F9,a9,e1⟩:=fG e1
 obtain⟨f10,d10,F10,a10,e1⟩:=fG e1
 obtain⟨f11,d11,F11,a11,e1⟩:=fG e1
 obtain⟨f12,d12,F12,a12,e1⟩:=fG e1
 obtain⟨f13,d13,F13,a13,e1⟩:=fG e1
 obtain⟨f14,d14,F14,a14,e1⟩:=fG e1
 obtain⟨f15,d15,F15,a15,e1⟩:=fG e1
 obtain⟨t,e1⟩:=List.cons.inj e1
 obtain⟨f16,od16,an16,sl16,oc16,kV16,dc16,pm16,cd16,ct16,a16,l16,c16,k16⟩:=fSee_ok t
 have F16:=fun_mk (st:=s_law) l16 c16 k16
 have e:=hfa.symm.trans (W.mg_of X G a16)
 cases e
 refine⟨clOf K [],W.fnOf "law" "law" (defArgs s_law) (defBody s_law) (defScope s_law) .none kV16 dc16 pm16 an16 cd16 ct16,fun s v=> .of_eq rfl,fun base XB _=> ?_⟩
 have zs0:∀x∈BLT++(["ValueError","dict","KeyError"]:List Str),mg x=none:=fun x hx=>W.mg_none_of X G (bSee_ok (List.all_eq_true.mp e4 x hx))
 have zs:∀x∈BLT,mg x=none:=fun x hx=>zs0 x (List.mem_append_left _ hx)
 have hv0:mg "ValueError"=none:=zs0 "ValueError" (by decide)
 have hd0:mg "dict"=none:=zs0 "dict" (by decide)
 have hk0:mg "KeyError"=none:=zs0 "KeyError" (by decide)
 have gs:∀(x:Str) (i:Int),List.lookup x ([]:List (Str×Int))=some i→∃t,mg x=some (.int i t):=fun x i h=>by cases h
 have co:∀(x:Str) (j:Nat),List.lookup x ([]:List (Str×Nat))=some j→∃J,clOf K [] j=some J∧mg x=some (.ref J):=fun x j h=>by cases h
 have L0:Lw l.prog w K mg base (clOf K []) ⟨⟨[],[],[]⟩,[]⟩ Γ0 Δ0 0:=Lw.start zs gs hcl co xf
 have M0:LwX l.prog w K mg base (clOf K []) Ξ0 ξ0 0:=LwX.start (xo base XB)
 have L1:Lw _ _ _ _ _ _ _ Γ1 Δ0 _:=L0.sP (f:=0) rfl F1 ok_is_whole (gm a1)
 have M1:=M0.mono (Nat.le_succ _)
 have L2:Lw _ _ _ _ _ _ _ Γ1 Δ1 _:=L1.sI (f:=100) (j:=1) rfl F2 ok_first_met (gm a2)
 have M2:=M1.mono (Nat.le_succ _)
 have L3:Lw _ _ _ _ _ _ _ Γ2 Δ1 _:=L2.sP (f:=1) rfl F3 ok_is_row (gm a3)
 have M3:=M2.mono (Nat.le_succ _)
 have L4:Lw _ _ _ _ _ _ _ Γ3 Δ1 _:=L3.sP (f:=2) rfl F4 ok_need_row (gm a4)
 have M4:=M3.mono (Nat.le_succ _)
 have L5:Lw _ _ _ _ _ _ _ Γ4 Δ1 _:=L4.sP (f:=44) rfl F5 ok_written (gm a5)
 have M5:=M4.mono (Nat.le_succ _)
 have M6:LwX _ _ _ _ _ _ Ξ1 ξ1 _:=M5.add (j:=0) (Nat.le_succ _) rfl (def_rowX L5 M5 (rowS_ok F6) hd0 hk0) (gm a6) F6.kp (row_bd F6)
 have L6:=L5.mono (Nat.le_succ _)
 have L7:Lw _ _ _ _ _ _ tb6 Γ5 Δ1 _:=L6.join (f:=45) (by decide) rfl (def_row L6 (rowS_ok F6) hd0) (gm a6) F6.kp (row_bd F6)
 have M7:=M6.mono (Nat.le_succ _)
 have L8:Lw _ _ _ _ _ _ _ Γ6 Δ1 _:=L7.sP (f:=46) rfl F7 ok_read (gm a7)
 have M8:=M7.mono (Nat.le_succ _)
 have M9:LwX _ _ _ _ _ _ Ξ2 ξ2 _:=M8.sX (j:=1) L8 rfl F7 okx_read (gm a7)
 have L9:=L8.mono (Nat.le_succ _)
 have L10:Lw _ _ _ _ _ _ _ Γ7 Δ1 _:=L9.sP (f:=50) rfl F8 ok__law_cell_at (gm a8)
 have M10:=M9.mono (Nat.le_succ _)
 have L11:Lw _ _ _ _ _ _ _ Γ8 Δ1 _:=L10.sP (f:=51) rfl F9 ok__law_draw (gm a9)
 have M11:=M10.mono (Nat.le_succ _)
 have L12:Lw _ _ _ _ _ _ _ Γ9 Δ1 _:=L11.sP (f:=52) rfl F10 ok__law_row (gm a10)
 have M12:=M11.mono (Nat.le_succ _)
 have L13:Lw _ _ _ _ _ _ _ Γ10 Δ1 _:=L12.sP (f:=76) rfl F11 ok__law_number (gm a11)
 have M13:=M12.mono (Nat.le_succ _)
 have L14:Lw _ _ _ _ _ _ _ Γ11 Δ1 _:=L13.sP (f:=77) rfl F12 ok__law_in (gm a12)
 have M14:=M13.mono (Nat.le_succ _)
 have L15:Lw _ _ _ _ _ _ tb13 Γ12 Δ1 _:=L14.join (f:=78) (by decide) rfl (def_ref (g:=x_read) (j:=1) M14 xk (refS_ok F13) rfl rfl (zs "isinstance" (by decide)) (zs "any" (by decide)) hv0) (gm a13) F13.kp (ref_bd F13)
 have M15:=M14.mono (Nat.le_succ _)
 have L16:Lw _ _ _ _ _ _ _ Γ13 Δ1 _:=L15.sP (f:=79) rfl F14 ok__law_right (gm a14)
 have M16:=M15.mono (Nat.le_succ _)
 have L17:Lw _ _ _ _ _ _ _ Γ14 Δ1 _:=L16.sP (f:=80) rfl F15 ok__law_few (gm a15)
 have M17:=M16.mono (Nat.le_succ _)
 exact L17.sL F16 ok_law
end MI
end
namespace MI
open PySem PySem.W PyProof.Rows L2
noncomputable def lNames:List Str:=(["OrderError","BadRow","BadNumber","BadRings","Unlike","BadText","is_whole","first_met","is_row","need_row","NO_THINGS","written","row_of_figures","read","_law_cell_at","_law_draw"]:List Str)++(["_law_row","_law_numbers","_law_pairs","_law_number","_law_in","_law_refused","_law_right","_law_few"]:List Str)
theorem left:LeftO PySem.Challenge.pw_backorder_k07_written (view PySem.Challenge.pw_backorder_k07_written [28]) lNames (fun s=>xlAt (view PySem.Challenge.pw_backorder_k07_written [28]) [] s&&recOk (RowW.records PySem.Challenge.rw_backorder_k07_written.row.toRowW) s) (lHook lQ lDue).obs (lHook lQ lDue).val 12000:=left_tree (look_T lQ lDue) (by kernel_rfl) (by decide) (fun s=>by kernel_rfl) fun w os=>by kernel_rfl
end MI
open PySem PySem.W PyProof.Rows
set_option maxHeartbeats 0 in
theorem PySem.Challenge.cw_backorder_k07_written_holds : PySem.Challenge.rw_backorder_k07_written.Holds := by
  refine holds_law (by kernel_rfl) fun said => ?_
  refine holds_open (q := view PySem.Challenge.pw_backorder_k07_written [28]) (loose := MI.lNames) (XP := XL (view PySem.Challenge.pw_backorder_k07_written [28]) []) (YP := (MI.lHook MI.lQ MI.lDue).says) MI.left (MI.lHook MI.lQ MI.lDue).of (MI.lHook MI.lQ MI.lDue).keeps (fun s e => xl_of s (Bool.and_eq_true_iff.mp e).1) XL.keeps (by rfl) (by rfl) (by rfl) (fun s e => recFacts_of (Bool.and_eq_true_iff.mp e).2) (by rfl) (by first | assumption | decide +kernel) (by decide +kernel) ⟨rfl, rfl, rfl, rfl, rfl, by decide +kernel⟩ ?hw ?hc
  case hw => w_witness2
  case hc => exact MI.walkL (l := PySem.Challenge.rw_backorder_k07_written) (n := 63) (k := 18) (x := "_law_script") (g := MI.g_law) rfl (by decide) rfl ⟨rfl, by decide, by decide⟩ (fun w mg fa K h KX G hmg e => MI.facts KX G hmg e) MI.law_ok
#print axioms PySem.Challenge.cw_backorder_k07_written_holds
