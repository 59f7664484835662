import PyProof.Rows.All
import Wide.All
import OpenK.AllK
import Wide.FinOn
import PyProof.EqAt
import PyProof.EqKinds
import PyProof.TupleCall
import Lean
import PySem.Challenge.RW_backorder_k02_whole_to_the_ends
set_option Elab.async false
set_option linter.all false
set_option maxRecDepth 100000
theorem bsi{α β:Type}{o:Option α}{f:α→Option β}{b:β}(h:o.bind f=some b):∃a,o=some a∧f a=some b:=Option.bind_eq_some_iff.mp h
theorem msi{α β:Type}{o:Option α}{f:α→β}{b:β}(h:o.map f=some b):∃a,o=some a∧f a=b:=Option.map_eq_some_iff.mp h
noncomputable section
namespace L2
open PySem PySem.Spec PyProof.Rows
noncomputable abbrev Key:=Sum Int Str
noncomputable def keyIs:Key→Value→Bool
 | .inl k,v=>Value.isInt k v
 | .inr x,v=>Value.isStrOf x v
noncomputable def keyH(w:World):Key→Int
 | .inl k=>hashInt k
 | .inr x=>hashStr w x
theorem keyIs_shape:∀ {k:Key} {v:Value},keyIs k v=true→(∃i t,k=Sum.inl i∧v=Value.int i t)∨(∃x t,k=Sum.inr x∧v=Value.str x t)
 | .inl i,v,h=>by
   obtain⟨t,e⟩:=Value.isInt_shape (k:=i) (v:=v) h
   exact .inl ⟨i,t,rfl,e⟩
 | .inr x,v,h=>by
   obtain⟨t,e⟩:=Value.isStrOf_shape (x:=x) (v:=v) h
   exact .inr ⟨x,t,rfl,e⟩
theorem key_ll(a b:Int):decide ((Sum.inl a:Key)=Sum.inl b)=(a==b):=by
 by_cases e:a=b
 ·subst e;simp
 ·have h:¬(Sum.inl a:Key)=Sum.inl b:=fun q=>e (Sum.inl.inj q)
  rw [decide_eq_false h]
  exact(beq_eq_false_iff_ne.mpr e).symm
theorem key_rr(a b:Str):decide ((Sum.inr a:Key)=Sum.inr b)=decide (a=b):=by
 by_cases e:a=b
 ·subst e;simp
 ·have h:¬(Sum.inr a:Key)=Sum.inr b:=fun q=>e (Sum.inr.inj q)
  rw [decide_eq_false h,decide_eq_false e]
theorem key_lr(a:Int)(b:Str):decide ((Sum.inl a:Key)=Sum.inr b)=false:=decide_eq_false (fun q=>nomatch q)
theorem key_rl(a:Str)(b:Int):decide ((Sum.inr a:Key)=Sum.inl b)=false:=decide_eq_false (fun q=>nomatch q)
noncomputable def mixKind(prog:Program)(w:World):PySem.KeyKind prog w Key where
 is:=keyIs
 hash:=keyH w
 inj:=fun v a b ha hb=>by
  rcases keyIs_shape ha with⟨i,t,rfl,rfl⟩|⟨x,t,rfl,rfl⟩
  ·rcases keyIs_shape hb with⟨j,u,rfl,e⟩|⟨y,u,rfl,e⟩
   ·injection e with e1 _;rw [e1]
   ·exact nomatch e
  ·rcases keyIs_shape hb with⟨j,u,rfl,e⟩|⟨y,u,rfl,e⟩
   ·exact nomatch e
   ·injection e with e1 _;rw [e1]
 byValue:=fun k v h=>by
  rcases keyIs_shape h with⟨i,t,rfl,rfl⟩|⟨x,t,rfl,rfl⟩<;>rfl
 pyHash:=fun hv h=>by
  rcases keyIs_shape hv with⟨i,t,rfl,rfl⟩|⟨x,t,rfl,rfl⟩
  ·exact wpAny_pyHash_int h
  ·exact wpAny_pyHash_str h
 eqBool:=fun hu hv h=>by
  rcases keyIs_shape hu with⟨i,t,rfl,rfl⟩|⟨x,t,rfl,rfl⟩
  ·rcases keyIs_shape hv with⟨j,u,rfl,rfl⟩|⟨y,u,rfl,rfl⟩
   ·rw [key_ll]at h;exact wpAny_eqBool_int h
   ·rw [key_lr]at h;exact SeqAt.EqAt.int_str i t y u _ _ _ _ h
  ·rcases keyIs_shape hv with⟨j,u,rfl,rfl⟩|⟨y,u,rfl,rfl⟩
   ·rw [key_rl]at h;exact SeqAt.EqAt.str_int x t j u _ _ _ _ h
   ·rw [key_rr]at h;exact wpAny_eqBool_str h
 «strs»:=fun k x t v h=>by
  rcases keyIs_shape h with⟨i,u,rfl,e⟩|⟨y,u,rfl,e⟩
  ·exact nomatch e
  ·injection e with e1 _
   subst e1
   cases v<;>rfl
end L2
namespace L2
open PySem PySem.Spec PyProof.Rows
inductive V where
 |non|bl(b:Bool)|int(i:Int)|str(x:Str)|byt(b:Array UInt8)|flt(b:UInt64)|ref(a:Addr)|ty(n:String)
 deriving DecidableEq
noncomputable def RelV:V→Value→Prop
 | .non,u=>u=Value.none
 | .bl b,u=>u=Value.bool b
 | .int i,u=>∃t,u=Value.int i t
 | .str x,u=>∃t,u=Value.str x t
 | .byt b,u=>∃t,u=Value.bytes b t
 | .flt b,u=>∃t,u=Value.float b t
 | .ref a,u=>u=Value.ref a
 | .ty n,u=>u=Value.type n
noncomputable abbrev Vals:List V→List Value→Prop:=Paired RelV
theorem Vals.length{xs:List V}{us:List Value}(r:Vals xs us):xs.length=us.length:=Paired.length r
theorem Vals.get:∀ {xs:List V} {us:List Value} {i:Nat} {x:V},Vals xs us→xs[i]?=some x→∃u,us[i]?=some u∧RelV x u
 |_,_,_,_,.nil,e=>by simp at e
 |_,_,0,_,.cons r _,e=>by simp at e;subst e;exact⟨_,rfl,r⟩
 |_,_,i+1,x,.cons _ t,e=>by
  obtain⟨u,h1,h2⟩:=Vals.get (i:=i) (x:=x) t (by simpa using e)
  exact⟨u,by simpa using h1,h2⟩
theorem Vals.set{x:V}{u:Value}(r:RelV x u):∀ {xs:List V} {us:List Value} (i:Nat),Vals xs us→Vals (xs.set i x) (us.set i u)
 |_,_,_,.nil=> .nil
 |_,_,0,.cons _ t=> .cons r t
 |_,_,i+1,.cons q t=> .cons q (Vals.set r i t)
theorem Vals.append:∀ {xs ys:List V} {us ws:List Value},Vals xs us→Vals ys ws→Vals (xs++ys) (us++ws)
 |_,_,_,_,.nil,s=>s
 |_,_,_,_,.cons r t,s=> .cons r (Vals.append t s)
theorem Vals.take:∀ {xs:List V} {us:List Value} (n:Nat),Vals xs us→Vals (xs.take n) (us.take n)
 |_,_,0,_=> .nil
 |_,_,_+1,.nil=> .nil
 |_,_,n+1,.cons r t=> .cons r (Vals.take n t)
theorem Vals.drop:∀ {xs:List V} {us:List Value} (n:Nat),Vals xs us→Vals (xs.drop n) (us.drop n)
 |_,_,0,r=>r
 |_,_,_+1,.nil=> .nil
 |_,_,n+1,.cons _ t=>Vals.drop n t
noncomputable def RelO:Option V→Option Value→Prop
 |some v,some u=>RelV v u
 |none,none=>True
 |_,_=>False
noncomputable def KV{κ:Type}:List (κ×V)→List (κ×Value)→Prop:=Paired fun(p:κ×V) (q:κ×Value)=>p.1=q.1∧RelV p.2 q.2
noncomputable def kV:Key→V
 | .inl i=> .int i
 | .inr x=> .str x
inductive HO where
 |lst(xs:List V)
 |tup(xs:List V)
 |dK(kvs:List (Key×V))|dT(kvs:List (List Key×V))
 |set(S:Int→Bool)(n:Nat)
 |ins(C dx:Addr)(fs:List (Str×V))
 |own(x:Addr)
 |xd(fs:List (Str×V))
 |met(f x:Addr)
 |rng(lo hi:Int)
 |frz(o:Obj)(u:HO)
 |tbl(ps:Array Value)
 |ext(φ:Heap→Prop)
noncomputable abbrev Hp:=Addr→Option HO
noncomputable def upd(H:Hp)(a:Addr)(o:HO):Hp:=fun b=>if b=a then some o else H b
theorem upd_same{H:Hp}{a:Addr}{o:HO}:upd H a o a=some o:=by unfold upd;rw [if_pos rfl]
theorem upd_ne{H:Hp}{a b:Addr}{o:HO}(h:b≠a):upd H a o b=H b:=by unfold upd;rw [if_neg h]
theorem ne_of_none{H:Hp}{a b:Addr}{o:HO}(h:H a=some o)(h':H b=none):a≠b:=by
 intro e;subst e;rw [h]at h';cases h'
section
variable(P:Program)(w:World)
noncomputable def ObjOk(H:Hp)(h:Heap)(a:Addr):HO→Prop
 | .lst xs=>xs.length≤sizeLine∧∃(its:List Value) (n:Nat),Vals xs its∧h.get? a=some {cls:=.type "list",data:=.seq its.toArray n}
 | .tup xs=>xs.length≤sizeLine∧∃its:List Value,Vals xs its∧IsTup h a its.toArray
 | .dK kvs=>kvs.length≤sizeLine∧(a==sysModules)=false∧∃vs,KV kvs vs∧h.DictOf (mixKind P w) a vs
 | .dT kvs=>kvs.length≤sizeLine∧(a==sysModules)=false∧∃xs:List (List Key×Addr×Value),
    Paired (fun(p:List Key×V) (q:List Key×Addr×Value)=>p.1=q.1∧H q.2.1=some (.tup (p.1.map kV))∧RelV p.2 q.2.2) kvs xs∧
    ∃o es ep,h.get? a=some o∧o.ExactDict∧o.data=.dict es ep∧es.toList=xs.map (entryOfKey (tupleKind (mixKind P w)))∧(xs.map (·.1)).Nodup
 | .set S n=>h.SetOf (intKind P w) a S n
 | .ins C dx fs=>H dx=some (.own a)∧fs.length≤1000∧dx≠a∧h.get? a=some (PySem.W.instObj C dx)∧
    ∃mA,h.Ns1 dx mA∧(∀f,RelO (fs.lookup f) (mA f))∧PySem.Within mA (fs.map (·.1))
 | .own _=>∃o,h.get? a=some o
 | .xd fs=>∃mA,h.Ns1 a mA∧∀f,RelO (fs.lookup f) (mA f)
 | .rng lo hi=>∃t u v,h.get? a=some {cls:=.type "range",data:=.fields #[.int lo t,.int hi u,.int 1 v]}
 | .frz o u=>h.get? a=some o∧ObjOk H h a u
 | .tbl ps=>h.get? a=some {cls:=.none,data:=.fields ps}
 | .met f x=>h.get? a=some (PySem.W.methodObj (.ref f) (.ref x))
 | .ext φ=>φ h∧(∃o,h.get? a=some o)∧∀h1 h2:Heap,φ h1→(∀o,h1.get? a=some o→h2.get? a=some o)→φ h2
noncomputable def HOk(H:Hp)(h:Heap):Prop:=∀a o,H a=some o→ObjOk P w H h a o
end
section
variable{P:Program}{w:World}{H H':Hp}{h h':Heap}{a:Addr}{o:HO}
theorem ObjOk.lt(x:ObjOk P w H h a o):a<h.objs.size:=by
 cases o with
 |lst xs=>obtain⟨_,_,_,_,e⟩:=x;exact Heap.lt_size e
 |tup xs=>obtain⟨_,_,_,p⟩:=x;exact p.lt
 |dK kvs=>obtain⟨_,_,_,_,o,_,_,e,_⟩:=x;exact Heap.lt_size e
 |dT kvs=>obtain⟨_,_,_,_,o,_,_,e,_⟩:=x;exact Heap.lt_size e
 |set S n=>obtain⟨o,_,_,_,e,_⟩:=x;exact Heap.lt_size e
 |ins C dx fs=>obtain⟨_,_,_,e,_⟩:=x;exact Heap.lt_size e
 |own y=>obtain⟨_,e⟩:=x;exact Heap.lt_size e
 |xd fs=>obtain⟨_,⟨_,_,_,e,_⟩,_⟩:=x;exact Heap.lt_size e
 |rng lo hi=>obtain⟨_,_,_,e⟩:=x;exact Heap.lt_size e
 |frz ob u=>obtain⟨e,_⟩:=x;exact Heap.lt_size e
 |tbl ps=>exact Heap.lt_size (show h.get? a=some _ from x)
 |met f y=>exact Heap.lt_size (show h.get? a=some _ from x)
 |ext φ=>obtain⟨_,⟨_,e⟩,_⟩:=x;exact Heap.lt_size e
theorem Paired.mapP{α β:Type}{F G:α→β→Prop}:∀ {l₁:List α} {l₂:List β},Paired F l₁ l₂→(∀a b,F a b→G a b)→Paired G l₁ l₂
 |_,_,.nil,_=> .nil
 |_,_,.cons r t,f=> .cons (f _ _ r) (Paired.mapP t f)
theorem ObjOk.stay(x:ObjOk P w H h a o)(k:∀b u,(b=a∨H b=some (.own a))→h.get? b=some u→h'.get? b=some u)
 (ho:∀b,H b=some (.own a)→H' b=some (.own a))(ht:∀b xs,H b=some (.tup xs)→H' b=some (.tup xs)):ObjOk P w H' h' a o:=by
 induction o with
 |lst xs=>obtain⟨z,its,n,r,e⟩:=x;exact⟨z,its,n,r,k _ _ (.inl rfl) e⟩
 |tup xs=>obtain⟨z,its,r,ob,e,c⟩:=x;exact⟨z,its,r,ob,k _ _ (.inl rfl) e,c⟩
 |dK kvs=>obtain⟨z,y,vs,r,ob,es,ep,e,c⟩:=x;exact⟨z,y,vs,r,ob,es,ep,k _ _ (.inl rfl) e,c⟩
 |dT kvs=>
  obtain⟨z,y,xs,r,ob,es,ep,e,c⟩:=x
  exact⟨z,y,xs,Paired.mapP r fun p q z=>⟨z.1,ht _ _ z.2.1,z.2.2⟩,ob,es,ep,k _ _ (.inl rfl) e,c⟩
 |set S n=>obtain⟨ob,es,ep,t,e,c⟩:=x;exact⟨ob,es,ep,t,k _ _ (.inl rfl) e,c⟩
 |ins C dx fs=>
  obtain⟨d,z,ne,e,mA,⟨od,es,ep,e2,c⟩,r⟩:=x
  exact⟨ho _ d,z,ne,k _ _ (.inl rfl) e,mA,⟨od,es,ep,k _ _ (.inr d) e2,c⟩,r⟩
 |own y=>obtain⟨ob,e⟩:=x;exact⟨ob,k _ _ (.inl rfl) e⟩
 |xd fs=>obtain⟨mA,⟨od,es,ep,e,c⟩,r⟩:=x;exact⟨mA,⟨od,es,ep,k _ _ (.inl rfl) e,c⟩,r⟩
 |rng lo hi=>obtain⟨t,u,v,e⟩:=x;exact⟨t,u,v,k _ _ (.inl rfl) e⟩
 |frz ob u ih=>obtain⟨e,q⟩:=x;exact⟨k _ _ (.inl rfl) e,ih q⟩
 |tbl ps=>
  have e:h.get? a=some {cls:=.none,data:=.fields ps}:=x
  show h'.get? a=some {cls:=.none,data:=.fields ps}
  exact k a _ (.inl rfl) e
 |met f y=>
  have e:h.get? a=some (PySem.W.methodObj (.ref f) (.ref y)):=x
  show h'.get? a=some (PySem.W.methodObj (.ref f) (.ref y))
  exact k a _ (.inl rfl) e
 |ext φ=>obtain⟨p,⟨o,e⟩,st⟩:=x;exact⟨st _ _ p fun o q=>k _ _ (.inl rfl) q,⟨o,k _ _ (.inl rfl) e⟩,st⟩
theorem HOk.lt(x:HOk P w H h)(e:H a=some o):a<h.objs.size:=(x a o e).lt
theorem HOk.fresh(x:HOk P w H h)(e:h.objs.size≤a):H a=none:=by
 cases q:H a with
 |none=>rfl
 |some u=>exact absurd (Nat.lt_of_lt_of_le (x.lt q) e) (Nat.lt_irrefl _)
theorem HOk.kept(x:HOk P w H h)(k:∀b u,h.get? b=some u→h'.get? b=some u):HOk P w H h':=fun a o e=>
 (x a o e).stay (fun b u _ q=>k b u q) (fun _ q=>q) fun _ _ q=>q
theorem HOk.laid(x:HOk P w H h)(k:∀b u,h.get? b=some u→h'.get? b=some u)(hp:h.objs.size≤a)(new:ObjOk P w (upd H a o) h' a o):HOk P w (upd H a o) h':=fun b u e=>by
 have hn:=x.fresh hp
 by_cases hb:b=a
 ·subst hb;rw [upd_same]at e;cases e;exact new
 ·rw [upd_ne hb]at e
  exact(x b u e).stay (fun c v _ q=>k c v q) (fun c q=>by rw [upd_ne (ne_of_none q hn)];exact q) fun c xs q=>by rw [upd_ne (ne_of_none q hn)];exact q
end
noncomputable def Rd(H:Hp)(a:Addr)(u:HO):Prop:=H a=some u∨∃o,H a=some (.frz o u)
theorem Rd.ok{P:Program}{w:World}{H:Hp}{h:Heap}{a:Addr}{u:HO}(r:Rd H a u)(x:HOk P w H h):ObjOk P w H h a u:=by
 rcases r with r|⟨o,r⟩
 ·exact x a u r
 ·obtain⟨_,q⟩:=x a _ r
  exact q
noncomputable def Mut:Option HO→Prop
 |some (.lst _)=>True
 |some (.dK _)=>True
 |some (.dT _)=>True
 |some (.set _ _)=>True
 |some (.ins _ _ _)=>True
 |some (.ext _)=>True
 |_=>False
section
variable{P:Program}{w:World}{H:Hp}{h h':Heap}{x e:Addr}{o':HO}
theorem HOk.write(ok:HOk P w H h)(mu:Mut (H x))(he:e=x∨H e=some (.own x))(k:∀b u,b≠e→h.get? b=some u→h'.get? b=some u)(heo:∃u,h'.get? e=some u)
 (new:ObjOk P w (upd H x o') h' x o'):HOk P w (upd H x o') h':=fun b u q=>by
 have nown:∀c y,H c=some (.own y)→c≠x:=fun c y r z=>by subst z;rw [r]at mu;exact mu
 have ntup:∀c xs,H c=some (.tup xs)→c≠x:=fun c xs r z=>by subst z;rw [r]at mu;exact mu
 by_cases hb:b=x
 ·subst hb;rw [upd_same]at q;cases q;exact new
 ·rw [upd_ne hb]at q
  by_cases hbe:b=e
  ·have q':H b=some (.own x):=by
    rcases he with z|z
    ·exact absurd (hbe.trans z) hb
    ·rw [hbe];exact z
   rw [q]at q';cases q'
   obtain⟨v,hv⟩:=heo
   exact⟨v,by rw [hbe];exact hv⟩
  ·refine(ok b u q).stay (fun c v hc r=>k c v ?_ r) (fun c r=>by rw [upd_ne (nown c b r)];exact r) fun c xs r=>by rw [upd_ne (ntup c xs r)];exact r
   rcases hc with rfl|hc
   ·exact hbe
   ·rintro rfl
    rcases he with z|z
    ·exact nown c b hc z
    ·rw [hc]at z;cases z;exact hb rfl
end
structure Un(fs ex:List Addr)(H H':Hp)(h h':Heap):Prop where
 keep:∀b o,h.get? b=some o→H b=none→b∉fs→b∉ex→h'.get? b=some o
 slot:∀b o,h.get? b=some o→H b=none→b∈fs→b∉ex→∃sl,h'.get? b=some {o with slots:=sl}
 free:∀b o,h.get? b=some o→H b=none→b∉ex→H' b=none
 there:∀b o,h.get? b=some o→b∉ex→∃o',h'.get? b=some o'
 tups:∀b xs,H b=some (.tup xs)→H' b=some (.tup xs)
 frzs:∀b o u,H b=some (.frz o u)→H' b=some (.frz o u)
 tbls:∀b ps,H b=some (.tbl ps)→∃more,H' b=some (.tbl (ps++more))
section
variable{fs fs' ex ex':List Addr}{H H1 H2:Hp}{h h1 h2 h':Heap}{a x e:Addr}{o:HO}
theorem Un.any(u:Un fs ex H H1 h h1){b:Addr}{ob:Obj}(q:h.get? b=some ob)(n:H b=none)(hx:b∉ex):∃sl,h1.get? b=some {ob with slots:=sl}:=by
 by_cases hb:b∈fs
 ·exact u.slot b ob q n hb hx
 ·exact⟨ob.slots,u.keep b ob q n hb hx⟩
theorem Un.kept(k:∀b u,h.get? b=some u→h'.get? b=some u):Un fs ex H H h h':=
 ⟨fun b ob q _ _ _=>k b ob q,fun b ob q _ _ _=>⟨ob.slots,k b ob q⟩,fun _ _ _ n _=>n,fun b ob q _=>⟨ob,k b ob q⟩,fun _ _ q=>q,fun _ _ _ q=>q,fun _ ps q=>⟨#[],by rw [q];simp⟩⟩
theorem Un.refl:Un fs ex H H h h:=Un.kept fun _ _ q=>q
theorem Un.laid(k:∀b u,h.get? b=some u→h'.get? b=some u)(hp:h.objs.size≤a)(hn:H a=none):Un fs ex H (upd H a o) h h' where
 keep:=fun b u q _ _ _=>k b u q
 slot:=fun b u q _ _ _=>⟨u.slots,k b u q⟩
 free:=fun b u q n _=>by rw [upd_ne (Nat.ne_of_lt (Nat.lt_of_lt_of_le (Heap.lt_size q) hp))];exact n
 there:=fun b u q _=>⟨u,k b u q⟩
 tups:=fun b xs q=>by rw [upd_ne (ne_of_none q hn)];exact q
 frzs:=fun b u xs q=>by rw [upd_ne (ne_of_none q hn)];exact q
 tbls:=fun b ps q=>⟨#[],by rw [upd_ne (ne_of_none q hn),q];simp⟩
theorem Un.write(mu:Mut (H x))(he:e=x∨H e=some (.own x))(k:∀b u,b≠e→h.get? b=some u→h'.get? b=some u)(heo:∃u,h'.get? e=some u):Un fs ex H (upd H x o) h h':=by
 have hx:∀b,H b=none→b≠x:=fun b n z=>by subst z;rw [n]at mu;exact mu
 have hb:∀b,H b=none→b≠e:=fun b n z=>by
  subst z
  rcases he with r|r
  ·exact hx b n r
  ·rw [n]at r;cases r
 have hm:∀b u,H b=some u→¬Mut (some u)→b≠x:=fun b u q nm z=>by subst z;rw [q]at mu;exact nm mu
 refine⟨fun b u q n _ _=>k b u (hb b n) q,fun b u q n _ _=>⟨u.slots,k b u (hb b n) q⟩,fun b u q n _=>by rw [upd_ne (hx b n)];exact n,fun b u q _=> ?_,
  fun b xs q=>by rw [upd_ne (hm b _ q fun z=>z)];exact q,fun b u xs q=>by rw [upd_ne (hm b _ q fun z=>z)];exact q,fun b ps q=>⟨#[],by rw [upd_ne (hm b _ q fun z=>z),q];simp⟩⟩
 by_cases hbe:b=e
 ·subst hbe;exact heo
 ·exact⟨u,k b u hbe q⟩
end
noncomputable def trk(h:Heap)(H:Hp):List Addr:=(List.range h.objs.size).filter fun a=>(H a).isSome
noncomputable def hidT(h:Heap)(H:Hp):Heap:=PySem.W.hideAll h (trk h H)
theorem hidT_size(h:Heap)(H:Hp):(hidT h H).objs.size=h.objs.size:=PySem.W.hideAll_size _ _
theorem hidT_get{h:Heap}{H:Hp}{b:Addr}{o:Obj}(e:h.get? b=some o)(n:H b=none):(hidT h H).get? b=some o:=
 PySem.W.hideAll_get _ e fun hm=>by
  have q:(H b).isSome=true:=(List.mem_filter.mp hm).2
  rw [n]at q;simp at q
theorem of_hidT{h:Heap}{H:Hp}{b:Addr}{o:Obj}(e:(hidT h H).get? b=some o):h.get? b=some o∧H b=none:=by
 have e':h.get? b=some o:=PySem.W.of_hideAll (trk h H) e
 refine⟨e',?_⟩
 cases q:H b with
 |none=>rfl
 |some x=>
  have hm:b∈trk h H:=List.mem_filter.mpr ⟨List.mem_range.mpr (Heap.lt_size e'),by simp [q]⟩
  have z:(hidT h H).get? b=none:=PySem.W.hideAll_none (trk h H) hm
  rw [z]at e;cases e
noncomputable def allNews(g h:Heap)(L:Addr):List (Addr×Obj):=(List.range h.objs.size).filterMap fun a=>if a=L∨(g.get? a).isSome=true then none else(h.get? a).map fun o=>(a,o)
noncomputable def rest(g h:Heap)(L d:Addr):List (Addr×Obj):=(allNews g h L).filter fun p=>decide (p.1≠d)
end L2
namespace L2
open PySem PySem.Spec PyProof.Rows
structure Mod(K:PySem.W.Frag)(mg:Str→Option Value)(base:Heap):Prop where
 kin:K.In base
 glob:base.Ns mainGlobals mg
 blt:∃mb,base.Ns builtinsNs mb∧∀x:Str,x≠"__name__"→mb x=bootBuiltins x
 nolimit:base.NoLimit
structure Cx where
 prog:Program
 w:World
 K:PySem.W.Frag
 mg:Str→Option Value
 base:Heap
 A:Around
 N:List Str
 s₀:Shared
 H₀:Hp
 env:Env
 outer:List Env
 stack:List Env
 ex:List Addr
 fn:Str→Bool
 calm:Bool
 pn:List (Addr×Obj)
 xe:Value→Shared→Prop
noncomputable def frs(l:List Env):List Addr:=l.filterMap (·.frame)
noncomputable abbrev Cx.fs(X:Cx):List Addr:=frs X.outer
noncomputable def Vis(sc:Scope)(x:Str):Prop:=sc.names.lookup x=some .local∨sc.names.lookup x=some .cell∨sc.names.lookup x=some .free
noncomputable def Loc(sc:Scope)(x:Str):Prop:=sc.names.lookup x=some .local∨sc.names.lookup x=some .cell
noncomputable def Look(env:Env)(h:Heap)(m:Str→Option Value)(x:Str)(u:Value):Prop:=
 (env.kindOf x=some .local∧m x=some u)∨((env.kindOf x=some .cell∨env.kindOf x=some .free)∧∃c,env.cells.lookup x=some c∧h.IsCell c (some u))
structure Cx.Ok(X:Cx):Prop where
 mod:Mod X.K X.mg X.base
 kind:X.env.scope.kind=.function
 glob:X.env.globals=mainGlobals
 blt:X.env.builtins=builtinsNs
 above:X.s₀.heap.objs.size≤X.env.locals
 inj:∀x y c,X.env.cells.lookup x=some c→X.env.cells.lookup y=some c→x=y
 has:∀x,(X.env.kindOf x=some .cell∨X.env.kindOf x=some .free)→∃c,X.env.cells.lookup x=some c
 cab:∀x c,X.fn x=true→X.env.cells.lookup x=some c→X.s₀.heap.objs.size≤c
 hd:X.calm=true→X.A.handled=none
 frames:X.A.frames=some X.stack
 stk:X.stack=X.outer∨(X.stack=X.env::X.outer∧X.env.frame=some X.env.locals)
 exf:∀b∈X.ex,b≠X.env.locals∧∀x c,X.env.cells.lookup x=some c→c≠b
 bs:∀b o,X.base.get? b=some o→X.s₀.heap.get? b=some o∧X.H₀ b=none
 bsz:X.base.objs.size≤X.s₀.heap.objs.size
 noex:∀b o,X.base.get? b=some o→b∉X.ex
 exfs:∀b∈X.ex,b∉X.fs
 funs:X.s₀.heap.FunFrames X.base X.outer
 frf:∀b∈X.fs,X.H₀ b=none
structure Inv(X:Cx)(pins:List (Addr×Obj))(σ:List (Option V))(H:Hp)(s:Shared):Prop where
 ok:X.Ok
 os:s.os=X.s₀.os
 bare:AllBare s.gens
 base:Un X.fs X.ex X.H₀ H X.s₀.heap s.heap
 loc:∃m,s.heap.Ns X.env.locals m∧∀(i:Nat) (x:Str) (v:V),X.N[i]?=some x→σ[i]?=some (some v)→Vis X.env.scope x→∃u,RelV v u∧Look X.env s.heap m x u
 cell:∀x c,X.env.cells.lookup x=some c→∃v,s.heap.IsCell c v
 free:H X.env.locals=none
 freeC:∀x c,X.env.cells.lookup x=some c→H c=none
 pin:∀p∈X.pn++pins,s.heap.get? p.1=some p.2∧H p.1=none∧p.1≠X.env.locals∧p.1∉X.fs∧∀v,p.2.data≠.cell v
 hok:HOk X.prog X.w H s.heap
 len:σ.length=X.N.length
section
variable{X:Cx}{pins:List (Addr×Obj)}{σ:List (Option V)}{H H':Hp}{s:Shared}{h':Heap}
theorem Cx.Ok.nofr(ok:X.Ok){b:Addr}{o:Obj}(e:X.base.get? b=some o):b∉X.fs:=fun hb=>by
 have:=(ok.funs.mem hb).1
 rw [e]at this;cases this
theorem Inv.bs(I:Inv X pins σ H s):∀b o,X.base.get? b=some o→s.heap.get? b=some o∧H b=none:=fun b o e=>
 ⟨I.base.keep b o (I.ok.bs b o e).1 (I.ok.bs b o e).2 (I.ok.nofr e) (I.ok.noex b o e),I.base.free b o (I.ok.bs b o e).1 (I.ok.bs b o e).2 (I.ok.noex b o e)⟩
theorem Inv.bk(I:Inv X pins σ H s):∀b o,X.base.get? b=some o→s.heap.get? b=some o:=fun b o e=>(I.bs b o e).1
theorem Inv.mod(I:Inv X pins σ H s):Mod X.K X.mg X.base:=I.ok.mod
theorem Inv.kIn(I:Inv X pins σ H s):X.K.In s.heap:=I.ok.mod.kin.keeps I.bk
theorem Inv.lt(I:Inv X pins σ H s):X.env.locals<s.heap.objs.size:=let ⟨_,hn,_⟩:=I.loc;hn.lt
theorem Inv.sz(I:Inv X pins σ H s):X.s₀.heap.objs.size≤s.heap.objs.size:=Nat.le_trans I.ok.above (Nat.le_of_lt I.lt)
theorem Inv.nofs(I:Inv X pins σ H s){a:Addr}(h:s.heap.objs.size≤a):a∉X.fs:=fun hb=>by
 obtain⟨_,o,ho,_⟩:=I.ok.funs.mem hb
 exact absurd (Nat.lt_of_lt_of_le (Heap.lt_size ho) (Nat.le_trans I.sz h)) (Nat.lt_irrefl _)
theorem Inv.cne(I:Inv X pins σ H s):∀x c,X.env.cells.lookup x=some c→c≠X.env.locals:=fun x c e z=>by
 obtain⟨v,o,ho,hd⟩:=I.cell x c e
 obtain⟨m,⟨o',es,ep,ho',hd',_⟩,_⟩:=I.loc
 rw [z,ho']at ho;cases ho;rw [hd']at hd;cases hd
theorem Inv.funs(I:Inv X pins σ H s):s.heap.FunFrames X.base X.outer:=by
 have all:∀(l:List Env),(∀b∈frs l,b∈X.fs)→X.s₀.heap.FunFrames X.base l→s.heap.FunFrames X.base l:=by
  intro l
  induction l with
  |nil=>intro _ _;trivial
  |cons env r ih=>
   intro hs hl
   obtain⟨hk,⟨L,o,hf,hn,ho,hd⟩,hr⟩:=hl
   have hL:L∈X.fs:=hs L (by unfold frs;rw [List.filterMap_cons,hf];exact List.mem_cons_self)
   obtain⟨sl,e⟩:=I.base.slot L o ho (I.ok.frf L hL) hL fun z=>I.ok.exfs L z hL
   exact⟨hk,⟨L,_,hf,hn,e,hd⟩,ih (fun b hb=>hs b (by unfold frs;rw [List.filterMap_cons,hf];exact List.mem_cons_of_mem _ hb)) hr⟩
 exact all X.outer (fun _ hb=>hb) I.ok.funs
theorem Inv.stack(I:Inv X pins σ H s):s.heap.FunFrames X.base X.stack:=by
 rcases I.ok.stk with e|⟨e,hf⟩
 ·rw [e];exact I.funs
 ·rw [e]
  obtain⟨m,hn,_⟩:=I.loc
  refine .cons (by rw [I.ok.kind];decide) hf hn ?_ I.funs
  exact Heap.get?_none_of_le (Nat.le_trans I.ok.bsz I.ok.above)
theorem Inv.stkSub(I:Inv X pins σ H s):∀b∈frs X.stack,b∈X.env.locals::X.fs:=fun b hb=>by
 rcases I.ok.stk with e|⟨e,hf⟩
 ·rw [e]at hb;exact List.mem_cons_of_mem _ hb
 ·rw [e]at hb
  unfold frs at hb
  rw [List.filterMap_cons,hf]at hb
  exact hb
theorem Inv.stkFree(I:Inv X pins σ H s):∀b∈frs X.stack,H b=none:=fun b hb=>by
 rcases List.mem_cons.mp (I.stkSub b hb)with e|hb
 ·rw [e];exact I.free
 ·obtain⟨_,o,ho,_⟩:=I.ok.funs.mem hb
  exact I.base.free b o ho (I.ok.frf b hb) fun z=>I.ok.exfs b z hb
theorem Inv.step{g':Array GenState}{t':Nat}{d':Drawn}{ch:List Addr}(I:Inv X pins σ H s)
 (hch:∀b∈ch,(b∈X.ex∨X.s₀.heap.objs.size≤b)∧b≠X.env.locals∧(∀x c,X.env.cells.lookup x=some c→c≠b)∧∀p∈X.pn++pins,p.1≠b)
 (keep:∀b o,b≠X.env.locals→b∉X.fs→b∉ch→s.heap.get? b=some o→H b=none→h'.get? b=some o)
 (slot:∀b o,b≠X.env.locals→b∈X.fs→b∉ch→s.heap.get? b=some o→H b=none→∃sl,h'.get? b=some {o with slots:=sl})(free:∀b o,b∉ch→s.heap.get? b=some o→H b=none→H' b=none)
 (there:∀b o,b∉ch→s.heap.get? b=some o→∃o',h'.get? b=some o')
 (tups:∀b xs,H b=some (.tup xs)→H' b=some (.tup xs))(frzs:∀b o u,H b=some (.frz o u)→H' b=some (.frz o u))(tbls:∀b ps,H b=some (.tbl ps)→∃more,H' b=some (.tbl (ps++more)))
 (ns:∀m,s.heap.Ns X.env.locals m→h'.Ns X.env.locals m)(hok:HOk X.prog X.w H' h')(hg:AllBare g'):
 Inv X pins σ H' {s with heap:=h',gens:=g',drawn:=d',toks:=t'}:=by
 have neL:∀b o,X.s₀.heap.get? b=some o→b≠X.env.locals:=fun b o e=>Nat.ne_of_lt (Nat.lt_of_lt_of_le (Heap.lt_size e) I.ok.above)
 have neC:∀b o,X.s₀.heap.get? b=some o→b∉X.ex→b∉ch:=fun b o e hx hb=>by
  rcases(hch b hb).1 with z|z
  ·exact hx z
  ·exact absurd (Nat.lt_of_lt_of_le (Heap.lt_size e) z) (Nat.lt_irrefl _)
 have cellK:∀x c,X.env.cells.lookup x=some c→∀v,s.heap.IsCell c v→h'.IsCell c v:=fun x c e v ⟨o,ho,hd⟩=>by
  have nch:c∉ch:=fun z=>(hch c z).2.2.1 x c e rfl
  by_cases hc:c∈X.fs
  ·obtain⟨sl,q⟩:=slot c o (I.cne x c e) hc nch ho (I.freeC x c e)
   exact⟨_,q,hd⟩
  ·exact⟨o,keep c o (I.cne x c e) hc nch ho (I.freeC x c e),hd⟩
 refine⟨I.ok,I.os,hg,⟨fun b o e n hb hx=> ?_,fun b o e n hb hx=> ?_,fun b o e n hx=> ?_,fun b o e hx=> ?_,fun b xs e=>tups b xs (I.base.tups b xs e),fun b o xs e=>frzs b o xs (I.base.frzs b o xs e),fun b ps e=> ?_⟩,?_,fun x c e=> ?_,?_,fun x c e=> ?_,fun p hp=> ?_,hok,I.len⟩
 ·exact keep b o (neL b o e) hb (neC b o e hx) (I.base.keep b o e n hb hx) (I.base.free b o e n hx)
 ·obtain⟨sl,e1⟩:=I.base.slot b o e n hb hx
  obtain⟨sl',e2⟩:=slot b _ (neL b o e) hb (neC b o e hx) e1 (I.base.free b o e n hx)
  exact⟨sl',e2⟩
 ·obtain⟨o',e1⟩:=I.base.there b o e hx
  exact free b o' (neC b o e hx) e1 (I.base.free b o e n hx)
 ·obtain⟨o',e1⟩:=I.base.there b o e hx
  exact there b o' (neC b o e hx) e1
 ·obtain⟨m1,e1⟩:=I.base.tbls b ps e
  obtain⟨m2,e2⟩:=tbls b _ e1
  exact⟨m1++m2,by rw [e2,Array.append_assoc]⟩
 ·obtain⟨m,hn,hl⟩:=I.loc
  refine⟨m,ns m hn,fun i x v e1 e2 e3=> ?_⟩
  obtain⟨u,r,l⟩:=hl i x v e1 e2 e3
  refine⟨u,r,?_⟩
  rcases l with l|⟨k,c,e,z⟩
  ·exact .inl l
  ·exact .inr ⟨k,c,e,cellK x c e _ z⟩
 ·obtain⟨v,z⟩:=I.cell x c e
  exact⟨v,cellK x c e v z⟩
 ·obtain⟨m,⟨o,_,_,ho,_⟩,_⟩:=I.loc
  exact free _ o (fun z=>(hch _ z).2.1 rfl) ho I.free
 ·obtain⟨v,o,ho,hd⟩:=I.cell x c e
  exact free c o (fun z=>(hch c z).2.2.1 x c e rfl) ho (I.freeC x c e)
 ·obtain⟨e,n,ne,nf,d⟩:=I.pin p hp
  have nch:p.1∉ch:=fun z=>(hch p.1 z).2.2.2 p hp rfl
  exact⟨keep p.1 p.2 ne nf nch e n,free p.1 p.2 nch e n,ne,nf,d⟩
theorem Inv.un{t':Nat}(I:Inv X pins σ H s)(u:Un X.fs [] H H' s.heap h')(hok:HOk X.prog X.w H' h'):Inv X pins σ H' {s with heap:=h',toks:=t'}:=by
 obtain⟨m,⟨o,es,ep,ho,r⟩,_⟩:=id I.loc
 obtain⟨sl,hL⟩:=u.any ho I.free (by simp)
 exact I.step (g':=s.gens) (d':=s.drawn) (ch:=[]) (fun _ z=>nomatch z) (fun b o _ hb _ e n=>u.keep b o e n hb (by simp)) (fun b o _ hb _ e n=>u.slot b o e n hb (by simp)) (fun b o _ e n=>u.free b o e n (by simp)) (fun b o _ e=>u.there b o e (by simp)) u.tups u.frzs u.tbls (fun m' hm=>by
  obtain⟨o',es',ep',ho',r'⟩:=hm
  rw [ho]at ho';cases ho'
  exact⟨_,es',ep',hL,r'⟩) hok I.bare
theorem Inv.call{g':Array GenState}{t':Nat}{d':Drawn}{ch:List Addr}(I:Inv X pins σ H s)(u:Un (frs X.stack) ch H H' s.heap h')(hok:HOk X.prog X.w H' h')(hg:AllBare g')
 (hch:∀b∈ch,(b∈X.ex∨X.s₀.heap.objs.size≤b)∧b≠X.env.locals∧(∀x c,X.env.cells.lookup x=some c→c≠b)∧∀p∈X.pn++pins,p.1≠b):
 Inv X pins σ H' {s with heap:=h',gens:=g',drawn:=d',toks:=t'}:=by
 obtain⟨m,⟨o,es,ep,ho,r⟩,_⟩:=id I.loc
 obtain⟨sl,hL⟩:=u.any ho I.free fun z=>(hch _ z).2.1 rfl
 exact I.step (ch:=ch) hch (fun b o hL hb hc e n=>u.keep b o e n (fun z=>(List.mem_cons.mp (I.stkSub b z)).elim hL hb) hc) (fun b o _ _ hc e n=>u.any e n hc) (fun b o hc e n=>u.free b o e n hc) (fun b o hc e=>u.there b o e hc) u.tups u.frzs u.tbls (fun m' hm=>by
  obtain⟨o',es',ep',ho',r'⟩:=hm
  rw [ho]at ho';cases ho'
  exact⟨_,es',ep',hL,r'⟩) hok hg
theorem Inv.turned{t':Nat}{it:Addr}(I:Inv X pins σ H s)(k:∀b o,b≠it→s.heap.get? b=some o→h'.get? b=some o)(hn:H it=none)(hL:it≠X.env.locals)
 (h1:it∈X.ex∨X.s₀.heap.objs.size≤it)(h2:∀x c,X.env.cells.lookup x=some c→c≠it)(h3:∀p∈X.pn++pins,p.1≠it):Inv X pins σ H {s with heap:=h',toks:=t'}:=by
 have nit:∀b u,H b=some u→b≠it:=fun b u e z=>by rw [z,hn]at e;cases e
 refine I.step (g':=s.gens) (d':=s.drawn) (ch:=[it]) (fun b hb=> ?_) (fun b o _ _ hc e _=>k b o (fun z=>hc (by simp [z])) e) (fun b o _ _ hc e _=>⟨o.slots,k b o (fun z=>hc (by simp [z])) e⟩) (fun _ _ _ _ n=>n)
  (fun b o hc e=>⟨o,k b o (fun z=>hc (by simp [z])) e⟩) (fun _ _ e=>e) (fun _ _ _ e=>e) (fun b ps e=>⟨#[],by rw [e];simp⟩) (fun m hm=> ?_) (fun b u e=> ?_) I.bare
 ·have e:b=it:=by simpa using hb
  subst e
  exact⟨h1,hL,h2,h3⟩
 ·obtain⟨o,es,ep,ho,r⟩:=hm
  exact⟨o,es,ep,k _ o (Ne.symm hL) ho,r⟩
 ·refine(I.hok b u e).stay (fun c v hc q=>k c v ?_ q) (fun _ q=>q) fun _ _ q=>q
  rcases hc with z|z
  ·rw [z];exact nit b u e
  ·exact nit c _ z
theorem Inv.tok(I:Inv X pins σ H s)(t:Nat):Inv X pins σ H {s with toks:=t}:=I.un (h':=s.heap) (t':=t) Un.refl I.hok
theorem Inv.kept{t':Nat}(I:Inv X pins σ H s)(k:∀b u,s.heap.get? b=some u→h'.get? b=some u):Inv X pins σ H {s with heap:=h',toks:=t'}:=I.un (Un.kept k) (I.hok.kept k)
theorem Inv.laid{a:Addr}{o:HO}{t':Nat}(I:Inv X pins σ H s)(k:∀b u,s.heap.get? b=some u→h'.get? b=some u)(hp:s.heap.objs.size≤a)(new:ObjOk X.prog X.w (upd H a o) h' a o):
 Inv X pins σ (upd H a o) {s with heap:=h',toks:=t'}:=I.un (Un.laid k hp (I.hok.fresh hp)) (I.hok.laid k hp new)
theorem Inv.write{x e:Addr}{o:HO}{t':Nat}(I:Inv X pins σ H s)(mu:Mut (H x))(he:e=x∨H e=some (.own x))(k:∀b u,b≠e→s.heap.get? b=some u→h'.get? b=some u)(heo:∃u,h'.get? e=some u)
 (new:ObjOk X.prog X.w (upd H x o) h' x o):Inv X pins σ (upd H x o) {s with heap:=h',toks:=t'}:=I.un (Un.write mu he k heo) (I.hok.write mu he k heo new)
theorem Inv.pins_of{pins':List (Addr×Obj)}(I:Inv X pins σ H s)(h:∀p∈pins',s.heap.get? p.1=some p.2∧H p.1=none∧p.1≠X.env.locals∧p.1∉X.fs∧∀v,p.2.data≠.cell v):Inv X pins' σ H s:=
 ⟨I.ok,I.os,I.bare,I.base,I.loc,I.cell,I.free,I.freeC,fun p hp=>(List.mem_append.mp hp).elim (fun z=>I.pin p (List.mem_append_left _ z)) (h p),I.hok,I.len⟩
theorem nodup_ix{N:List Str}(hN:N.Nodup){i j:Nat}{x:Str}(a:N[i]?=some x)(b:N[j]?=some x):i=j:=by
 obtain⟨h1,e1⟩:=List.getElem?_eq_some_iff.mp a
 obtain⟨h2,e2⟩:=List.getElem?_eq_some_iff.mp b
 exact(List.getElem_inj hN).mp (e1.trans e2.symm)
theorem store_ok2{M:Model}{A:Around}{E:Value→Shared→Prop}{i:Nat}{x:Str}{v:V}{u:Value}{Q:Unit→Shared→Prop}(I:Inv X pins σ H s)(hN:X.N.Nodup)(hi:X.N[i]?=some x)(hx:Loc X.env.scope x)(r:RelV v u)
 (h:∀s',Inv X pins (σ.set i (some v)) H s'→(∃a,Heap.SameBut a s.heap s'.heap∧(a=X.env.locals∨X.env.cells.lookup x=some a))→Q () s')(hf:X.fn x=true∨X.env.scope.names.lookup x=some .local:=by first|exact .inl rfl|exact .inr rfl|assumption):wpAny M A (storeName X.env x u) Q E s:=by
 obtain⟨m,hn,hl⟩:=id I.loc
 have hcls:(X.env.scope.kind==.class||(X.env.scope.kind==.module&&X.env.locals !=X.env.globals))=false:=by rw [I.ok.kind];rfl
 have hiσ:i<σ.length:=by rw [I.len];exact(List.getElem?_eq_some_iff.mp hi).1
 have cne:=I.cne
 have tracked:∀ {a:Addr} {h':Heap},(∃o,s.heap.get? a=some o∧H a=none)→Heap.SameBut a s.heap h'→HOk X.prog X.w H h':=fun {a h'} ha hs b ob e=>by
  obtain⟨_,_,hfree⟩:=ha
  refine(I.hok b ob e).stay (fun c w' hc q=>(hs.2 c ?_).trans q) (fun _ q=>q) fun _ _ q=>q
  rintro rfl
  rcases hc with rfl|hc
  ·rw [hfree]at e;cases e
  ·rw [hfree]at hc;cases hc
 rcases hx with hk|hk
 ·refine wpAny_storeName_local hk hn (fun h' hn' hs=> ?_) hcls
  obtain⟨oL,_,_,hoL,_⟩:=id hn
  refine h _ ⟨I.ok,I.os,I.bare,⟨fun b o e n hb hx=> ?_,fun b o e n hb hx=> ?_,I.base.free,fun b o e hx=> ?_,I.base.tups,I.base.frzs,I.base.tbls⟩,⟨_,hn',fun j y v' e1 e2 e3=> ?_⟩,fun y c e=> ?_,I.free,I.freeC,fun p hp=> ?_,tracked ⟨oL,hoL,I.free⟩ hs,by simpa using I.len⟩ ⟨_,hs,.inl rfl⟩
  ·exact(hs.2 b (Nat.ne_of_lt (Nat.lt_of_lt_of_le (Heap.lt_size e) I.ok.above))).trans (I.base.keep b o e n hb hx)
  ·obtain⟨sl,e1⟩:=I.base.slot b o e n hb hx
   exact⟨sl,(hs.2 b (Nat.ne_of_lt (Nat.lt_of_lt_of_le (Heap.lt_size e) I.ok.above))).trans e1⟩
  ·obtain⟨o',e1⟩:=I.base.there b o e hx
   exact⟨o',(hs.2 b (Nat.ne_of_lt (Nat.lt_of_lt_of_le (Heap.lt_size e) I.ok.above))).trans e1⟩
  ·by_cases hj:j=i
   ·subst hj
    rw [hi]at e1;cases e1
    rw [List.getElem?_set_self hiσ]at e2
    cases e2
    exact⟨u,r,.inl ⟨hk,by simp⟩⟩
   ·rw [List.getElem?_set_ne (Ne.symm hj)]at e2
    obtain⟨u',r',q⟩:=hl j y v' e1 e2 e3
    refine⟨u',r',?_⟩
    rcases q with⟨k,e⟩|⟨k,c,e,z⟩
    ·refine .inl ⟨k,?_⟩
     have:y≠x:=fun e=>hj (nodup_ix hN e1 (e▸hi))
     simp [this,e]
    ·exact .inr ⟨k,c,e,z.sameBut hs (cne y c e)⟩
  ·obtain⟨w',z⟩:=I.cell y c e
   exact⟨w',z.sameBut hs (cne y c e)⟩
  ·obtain⟨e,n,ne,nf,d⟩:=I.pin p hp
   exact⟨(hs.2 p.1 ne).trans e,n,ne,nf,d⟩
 ·have hfn:X.fn x=true:=by
   rcases hf with z|z
   ·exact z
   ·rw [z]at hk;cases hk
  obtain⟨c,hc⟩:=I.ok.has x (.inl hk)
  obtain⟨w',z⟩:=I.cell x c hc
  refine wpAny_storeName_cell I.ok.kind hk hc z (fun h' hc' hs=> ?_)
  obtain⟨oc,hoc,hocd⟩:=id z
  refine h {s with heap:=h'} ⟨I.ok,I.os,I.bare,⟨fun b o e n hb hx=> ?_,fun b o e n hb hx=> ?_,I.base.free,fun b o e hx=> ?_,I.base.tups,I.base.frzs,I.base.tbls⟩,⟨m,hn.sameBut hs (Ne.symm (cne x c hc)),fun j y v' e1 e2 e3=> ?_⟩,fun y c' e=> ?_,I.free,I.freeC,fun p hp=> ?_,tracked ⟨oc,hoc,I.freeC x c hc⟩ hs,by simpa using I.len⟩ ⟨c,hs,.inr hc⟩
  ·exact(hs.2 b (Nat.ne_of_lt (Nat.lt_of_lt_of_le (Heap.lt_size e) (I.ok.cab x c hfn hc)))).trans (I.base.keep b o e n hb hx)
  ·obtain⟨sl,e1⟩:=I.base.slot b o e n hb hx
   exact⟨sl,(hs.2 b (Nat.ne_of_lt (Nat.lt_of_lt_of_le (Heap.lt_size e) (I.ok.cab x c hfn hc)))).trans e1⟩
  ·obtain⟨o',e1⟩:=I.base.there b o e hx
   exact⟨o',(hs.2 b (Nat.ne_of_lt (Nat.lt_of_lt_of_le (Heap.lt_size e) (I.ok.cab x c hfn hc)))).trans e1⟩
  ·by_cases hj:j=i
   ·subst hj
    rw [hi]at e1;cases e1
    rw [List.getElem?_set_self hiσ]at e2
    cases e2
    exact⟨u,r,.inr ⟨.inl hk,c,hc,hc'⟩⟩
   ·rw [List.getElem?_set_ne (Ne.symm hj)]at e2
    obtain⟨u',r',q⟩:=hl j y v' e1 e2 e3
    refine⟨u',r',?_⟩
    rcases q with q|⟨k,c',e,z'⟩
    ·exact .inl q
    ·refine .inr ⟨k,c',e,z'.sameBut hs ?_⟩
     rintro rfl
     exact hj (nodup_ix hN e1 (I.ok.inj _ _ _ e hc▸hi))
  ·by_cases hcc:c'=c
   ·subst hcc;exact⟨_,hc'⟩
   ·obtain⟨w2,z2⟩:=I.cell y c' e
    exact⟨w2,z2.sameBut hs hcc⟩
  ·obtain⟨e,n,ne,nf,d⟩:=I.pin p hp
   refine⟨(hs.2 p.1 ?_).trans e,n,ne,nf,d⟩
   intro q
   rw [q,hoc]at e
   have q':oc=p.2:=Option.some.inj e
   exact d w' (by rw [←q'];exact hocd)
theorem store_ok{M:Model}{A:Around}{E:Value→Shared→Prop}{i:Nat}{x:Str}{v:V}{u:Value}{Q:Unit→Shared→Prop}(I:Inv X pins σ H s)(hN:X.N.Nodup)(hi:X.N[i]?=some x)(hx:Loc X.env.scope x)(r:RelV v u)
 (h:∀s',Inv X pins (σ.set i (some v)) H s'→Q () s')(hf:X.fn x=true∨X.env.scope.names.lookup x=some .local:=by first|exact .inl rfl|exact .inr rfl|assumption):wpAny M A (storeName X.env x u) Q E s:=
 store_ok2 I hN hi hx r (fun s' I' _=>h s' I') hf
theorem Inv.call'{s':Shared}{ch:List Addr}(I:Inv X pins σ H s)(ho:s'.os=s.os)(u:Un (frs X.stack) ch H H' s.heap s'.heap)(hok:HOk X.prog X.w H' s'.heap)(hg:AllBare s'.gens)
 (hch:∀b∈ch,(b∈X.ex∨X.s₀.heap.objs.size≤b)∧b≠X.env.locals∧(∀x c,X.env.cells.lookup x=some c→c≠b)∧∀p∈X.pn++pins,p.1≠b):Inv X pins σ H' s':=by
 obtain⟨h',g',d',t',o'⟩:=s'
 have e:o'=s.os:=ho
 subst e
 exact I.call (g':=g') (t':=t') (d':=d') u hok hg hch
end
noncomputable abbrev XK:=Value→Option Addr→Hp→Prop
noncomputable abbrev St:=List (Option V)
noncomputable abbrev VK:=V→Hp→Prop
noncomputable abbrev TE:=St→Hp→VK→Prop
noncomputable abbrev TT:=St→Hp→(Bool→Hp→Prop)→Prop
noncomputable abbrev TA:=St→Hp→(List V→Hp→Prop)→Prop
structure Ends where
 nx:St→Hp→Prop
 rt:VK
 bk:St→Hp→Prop:=fun _ _=>False
 ct:St→Hp→Prop:=fun _ _=>False
noncomputable abbrev TS:=Ends→St→Hp→Prop
noncomputable def EP(X:Cx)(pins:List (Addr×Obj))(σ:St)(Q:VK)(u:Value)(s':Shared):Prop:=∃v H',Inv X pins σ H' s'∧RelV v u∧Q v H'
noncomputable def TP(X:Cx)(pins:List (Addr×Obj))(σ:St)(Q:Bool→Hp→Prop)(b:Bool)(s':Shared):Prop:=∃H',Inv X pins σ H' s'∧Q b H'
noncomputable def AP(X:Cx)(pins:List (Addr×Obj))(σ:St)(Q:List V→Hp→Prop)(us:List Value)(s':Shared):Prop:=∃vs H',Inv X pins σ H' s'∧Vals vs us∧Q vs H'
noncomputable def SP(X:Cx)(pins:List (Addr×Obj))(D:Ends)(f:Flow)(s':Shared):Prop:=
 match f with
 | .next=>∃σ' H',Inv X pins σ' H' s'∧D.nx σ' H'
 | .brk=>∃σ' H',Inv X pins σ' H' s'∧D.bk σ' H'
 | .cont=>∃σ' H',Inv X pins σ' H' s'∧D.ct σ' H'
 | .ret u=>∃v σ' H',Inv X pins σ' H' s'∧RelV v u∧D.rt v H'
noncomputable def PE(X:Cx)(e:Expr)(t:TE):Prop:=
 ∀(pins:List (Addr×Obj)) (s:Shared) (σ:St) (H:Hp) (Q:VK),Inv X pins σ H s→t σ H Q→wpAny (model X.prog X.w) X.A (eval e X.env) (EP X pins σ Q) X.xe s
noncomputable def PT(X:Cx)(e:Expr)(t:TT):Prop:=
 ∀(pins:List (Addr×Obj)) (s:Shared) (σ:St) (H:Hp) (Q:Bool→Hp→Prop),Inv X pins σ H s→t σ H Q→wpAny (model X.prog X.w) X.A (isTrue e X.env (eval e X.env)) (TP X pins σ Q) X.xe s
noncomputable def PW(X:Cx)(e:Expr)(t:TT):Prop:=
 ∀(whole:Sem Value) (pins:List (Addr×Obj)) (s:Shared) (σ:St) (H:Hp) (Q:Bool→Hp→Prop),Inv X pins σ H s→t σ H Q→wpAny (model X.prog X.w) X.A (isTrue e X.env whole) (TP X pins σ Q) X.xe s
theorem PW.pt{X:Cx}{e:Expr}{t:TT}(h:PW X e t):PT X e t:=h _
noncomputable def PA(X:Cx)(es:List Expr)(t:TA):Prop:=
 ∀(pos:Pos) (pins:List (Addr×Obj)) (s:Shared) (σ:St) (H:Hp) (Q:List V→Hp→Prop),Inv X pins σ H s→t σ H Q→wpAny (model X.prog X.w) X.A (spliced (backTo pos (starEach es X.env))) (AP X pins σ Q) X.xe s
noncomputable def PS(X:Cx)(st:Stmt)(t:TS):Prop:=
 ∀(pins:List (Addr×Obj)) (s:Shared) (σ:St) (H:Hp) (D:Ends),Inv X pins σ H s→t D σ H→wpAny (model X.prog X.w) X.A (exec st X.env) (SP X pins D) X.xe s
noncomputable def PSs(X:Cx)(st:List Stmt)(t:TS):Prop:=
 ∀(pins:List (Addr×Obj)) (s:Shared) (σ:St) (H:Hp) (D:Ends),Inv X pins σ H s→t D σ H→wpAny (model X.prog X.w) X.A (execs st X.env) (SP X pins D) X.xe s
theorem thn{α:Type}{t:Sem α}{Q Q':α→Shared→Prop}{M:Model}{A:Around}{E:Value→Shared→Prop}{s:Shared}(h:wpAny M A t Q E s)(hQ:∀a s,Q a s→Q' a s):wpAny M A t Q' E s:=wpAny_mono h hQ fun _ _ x=>x
end L2
namespace L2
open PySem PySem.Spec PyProof.Rows
section
variable{X:Cx}
noncomputable def tVar(i:Nat):TE:=fun σ H Q=>∃v,σ[i]?=some (some v)∧Q v H
noncomputable def tC(v:V):TE:=fun _ H Q=>Q v H
theorem pe_var{i:Nat}{x:Str}{pos:Pos}(hN:X.N[i]?=some x)(hv:Vis X.env.scope x)(hd:(x==("__debug__":Str))=false:=by decide)(hcd:(x==("__classdict__":Str))=false:=by decide):PE X (.Name x pos) (tVar i):=by
 intro pins s σ H Q I h
 obtain⟨v,e,h⟩:=h
 obtain⟨m,hn,hl⟩:=I.loc
 obtain⟨u,r,l⟩:=hl i x v hN e hv
 have fin:EP X pins σ Q u s:=⟨v,H,I,r,h⟩
 rcases l with⟨hk,hm⟩|⟨hk,c,hc,hcell⟩
 ·exact wpAny_Name (wpAny_loadName_local I.ok.kind hk hn hm fin) hd
 ·rcases hk with hk|hk
  ·exact wpAny_Name (wpAny_loadName_cell I.ok.kind hk hc hcell fin) hd
  ·exact wpAny_Name (wpAny_loadName_free I.ok.kind hk hc hcell fin hcd) hd
theorem pe_int{i j pos}:PE X (.Constant (.int i) j pos) (tC (.int i)):=fun _ _ _ H _ I h=>wpAny_Constant_int ⟨.int i,H,I.tok _,⟨_,rfl⟩,h⟩
theorem pe_bl{b j pos}:PE X (.Constant (.bool b) j pos) (tC (.bl b)):=fun _ _ _ H _ I h=>Constant_bool ⟨.bl b,H,I,rfl,h⟩
theorem pe_non{j pos}:PE X (.Constant .none j pos) (tC .non):=fun _ _ _ H _ I h=>Constant_none ⟨.non,H,I,rfl,h⟩
theorem pe_str{x j pos}:PE X (.Constant (.str x) j pos) (tC (.str x)):=fun _ _ _ H _ I h=>Calls.Constant_str ⟨.str x,H,I.tok _,⟨_,rfl⟩,h⟩
noncomputable def Gl(X:Cx)(x:Str):Prop:=X.env.kindOf x=some .globalImplicit
theorem ld_glob{E:Value→Shared→Prop}{pins:List (Addr×Obj)}{s:Shared}{σ:St}{H:Hp}{x:Str}{u:Value}{pos:Pos}{Q:Value→Shared→Prop}(I:Inv X pins σ H s)(hg:Gl X x)(hm:X.mg x=some u)(h:Q u s)
 (hd:(x==("__debug__":Str))=false:=by decide):wpAny (model X.prog X.w) X.A (eval (.Name x pos) X.env) Q E s:=
 Calls.Name_function_global I.ok.kind hg (Calls.loadGlobal_global (by rw [I.ok.glob];exact I.mod.glob.keeps I.bk) hm h) hd
theorem ld_blt{E:Value→Shared→Prop}{pins:List (Addr×Obj)}{s:Shared}{σ:St}{H:Hp}{x:Str}{u:Value}{pos:Pos}{Q:Value→Shared→Prop}(I:Inv X pins σ H s)(hg:Gl X x)(hm:X.mg x=none)(hv:bootBuiltins x=some u)(h:Q u s)
 (hn:x≠"__name__":=by decide)(hd:(x==("__debug__":Str))=false:=by decide):wpAny (model X.prog X.w) X.A (eval (.Name x pos) X.env) Q E s:=by
 obtain⟨mb,h1,h2⟩:=I.mod.blt
 exact Calls.Name_function_global I.ok.kind hg (Calls.loadGlobal_builtin (by rw [I.ok.glob];exact I.mod.glob.keeps I.bk) hm (by rw [I.ok.blt];exact h1.keeps I.bk) ((h2 x hn).trans hv) h) hd
theorem pe_glob{x:Str}{v:V}{u:Value}{pos:Pos}(hg:Gl X x)(hm:X.mg x=some u)(r:RelV v u)(hd:(x==("__debug__":Str))=false:=by decide):PE X (.Name x pos) (tC v):=
 fun _ _ _ H _ I h=>ld_glob I hg hm ⟨v,H,I,r,h⟩ hd
theorem pe_bltn{x:Str}{v:V}{u:Value}{pos:Pos}(hg:Gl X x)(hm:X.mg x=none)(hv:bootBuiltins x=some u)(r:RelV v u)(hn:x≠"__name__":=by decide)(hd:(x==("__debug__":Str))=false:=by decide):PE X (.Name x pos) (tC v):=
 fun _ _ _ H _ I h=>ld_blt I hg hm hv ⟨v,H,I,r,h⟩ hn hd
noncomputable def t2I(ta tb:TE)(k:Int→Int→Hp→Prop):St→Hp→Prop:=fun σ H=>ta σ H fun x H1=>tb σ H1 fun y H2=>∃i j,x=.int i∧y=.int j∧k i j H2
noncomputable def tAdd(ta tb:TE):TE:=fun σ H Q=>t2I ta tb (fun i j H2=>Q (.int (i+j)) H2) σ H
noncomputable def tSub(ta tb:TE):TE:=fun σ H Q=>t2I ta tb (fun i j H2=>Q (.int (i-j)) H2) σ H
noncomputable def tMul(ta tb:TE):TE:=fun σ H Q=>t2I ta tb (fun i j H2=>(-(2 ^ 64)<i∧i<2 ^ 64)∧Q (.int (i*j)) H2) σ H
variable{a b:Expr}{ta tb:TE}{pos:Pos}
noncomputable def PC(X:Cx)(op:CmpOp)(a b:Expr)(t:TE):Prop:=
 ∀(pins:List (Addr×Obj)) (s:Shared) (σ:St) (H:Hp) (Q:VK),Inv X pins σ H s→t σ H Q→
  wpAny (model X.prog X.w) X.A (eval a X.env) (fun v s₁=>wpAny (model X.prog X.w) X.A (eval b X.env) (fun u s₂=>wpAny (model X.prog X.w) X.A (compareOp op v u) (EP X pins σ Q) X.xe s₂) X.xe s₁) X.xe s
noncomputable def tCmp(p:Int→Int→Bool)(ta tb:TE):TE:=fun σ H Q=>t2I ta tb (fun i j H2=>Q (.bl (p i j)) H2) σ H
noncomputable abbrev tLt:TE→TE→TE:=tCmp fun i j=>decide (i<j)
noncomputable abbrev tLe:TE→TE→TE:=tCmp fun i j=>decide (i≤j)
noncomputable abbrev tGt:TE→TE→TE:=tCmp fun i j=>decide (j<i)
noncomputable abbrev tGe:TE→TE→TE:=tCmp fun i j=>decide (j≤i)
noncomputable abbrev tEqI:TE→TE→TE:=tCmp fun i j=>decide (i=j)
noncomputable abbrev tNeI:TE→TE→TE:=tCmp fun i j=> !decide (i=j)
noncomputable def tIsN(ta:TE):TE:=fun σ H Q=>ta σ H fun x H1=>Q (.bl (decide (x=.non))) H1
noncomputable def tNotN(ta:TE):TE:=fun σ H Q=>ta σ H fun x H1=>Q (.bl (!decide (x=.non))) H1
noncomputable def tB(t:TE):TT:=fun σ H Q=>t σ H fun x H1=>∃c,x=.bl c∧Q c H1
theorem pt_val{e:Expr}{t:TE}(h:PE X e t)(he:∀whole,isTrue e X.env whole=(do let v←whole;standAt e.pos;holding [v] (truthy v)):=by intro _;rfl):PT X e (tB t):=by
 intro pins s σ H Q I hw
 refine isTrue_plain (thn (h pins s σ H _ I hw) fun v s1 ⟨x,H1,I1,r1,q1⟩=> ?_) (he _)
 obtain⟨d,rfl,q⟩:=q1
 cases r1
 exact wpAny_truthy_bool ⟨H1,I1,q⟩
variable{tA tB':TT}{rest:List Expr}
noncomputable def tAnd(t u:TT):TT:=fun σ H Q=>t σ H fun c H1=>if c=true then u σ H1 Q else Q false H1
noncomputable def tOr(t u:TT):TT:=fun σ H Q=>t σ H fun c H1=>if c=true then Q true H1 else u σ H1 Q
noncomputable def tNot(t:TT):TT:=fun σ H Q=>t σ H fun c H1=>Q (!c) H1
theorem pw_and1(ha:PT X a tA):PW X (.BoolOp .And [a] pos) tA:=by
 intro wh pins s σ H Q I h
 refine isTrue_and (thn (ha pins s σ H Q I h) fun c s1 e=> ?_)
 cases c with
 |true=>exact isTrue_and_nil e
 |false=>exact e
theorem pw_or1(ha:PT X a tA):PW X (.BoolOp .Or [a] pos) tA:=by
 intro wh pins s σ H Q I h
 refine isTrue_or (thn (ha pins s σ H Q I h) fun c s1 e=> ?_)
 cases c with
 |false=>exact isTrue_or_nil e
 |true=>exact e
theorem pw_and(ha:PT X a tA)(hb:PW X (.BoolOp .And (b::rest) pos) tB'):PW X (.BoolOp .And (a::b::rest) pos) (tAnd tA tB'):=by
 intro wh pins s σ H Q I h
 refine isTrue_and (thn (ha pins s σ H _ I h) fun c s1 ⟨H1,I1,q1⟩=> ?_)
 cases c with
 |true=>exact hb wh pins s1 σ H1 Q I1 q1
 |false=>exact⟨H1,I1,q1⟩
theorem pw_or(ha:PT X a tA)(hb:PW X (.BoolOp .Or (b::rest) pos) tB'):PW X (.BoolOp .Or (a::b::rest) pos) (tOr tA tB'):=by
 intro wh pins s σ H Q I h
 refine isTrue_or (thn (ha pins s σ H _ I h) fun c s1 ⟨H1,I1,q1⟩=> ?_)
 cases c with
 |true=>exact⟨H1,I1,q1⟩
 |false=>exact hb wh pins s1 σ H1 Q I1 q1
theorem pt_not(ha:PT X a tA):PT X (.UnaryOp .Not a pos) (tNot tA):=by
 intro pins s σ H Q I h
 exact isTrue_not (ha pins s σ H (fun c H1=>Q (!c) H1) I h)
noncomputable def tAndV(ta tb:TE):TE:=fun σ H Q=>ta σ H fun x H1=>∃c,x=.bl c∧if c=true then tb σ H1 Q else Q (.bl false) H1
noncomputable def tOrV(ta tb:TE):TE:=fun σ H Q=>ta σ H fun x H1=>∃c,x=.bl c∧if c=true then Q (.bl true) H1 else tb σ H1 Q
noncomputable def tNotV(ta:TE):TE:=fun σ H Q=>ta σ H fun x H1=>∃c,x=.bl c∧Q (.bl (!c)) H1
theorem pe_one{op}{t:TE}(h:PE X a t):PE X (.BoolOp op [a] pos) t:=fun pins s σ H Q I hw=>BoolOp_one (h pins s σ H Q I hw)
theorem pe_and(ha:PE X a ta)(hb:PE X (.BoolOp .And (b::rest) pos) tb):PE X (.BoolOp .And (a::b::rest) pos) (tAndV ta tb):=by
 intro pins s σ H Q I h
 refine BoolOp_and (thn (ha pins s σ H _ I h) fun v s1 ⟨x,H1,I1,r1,q1⟩=> ?_)
 obtain⟨c,rfl,q1⟩:=q1
 cases r1
 refine wpAny_truthy_bool ?_
 cases c with
 |true=>exact hb pins s1 σ H1 Q I1 q1
 |false=>exact⟨.bl false,H1,I1,rfl,q1⟩
theorem pe_or(ha:PE X a ta)(hb:PE X (.BoolOp .Or (b::rest) pos) tb):PE X (.BoolOp .Or (a::b::rest) pos) (tOrV ta tb):=by
 intro pins s σ H Q I h
 refine BoolOp_or (thn (ha pins s σ H _ I h) fun v s1 ⟨x,H1,I1,r1,q1⟩=> ?_)
 obtain⟨c,rfl,q1⟩:=q1
 cases r1
 refine wpAny_truthy_bool ?_
 cases c with
 |false=>exact hb pins s1 σ H1 Q I1 q1
 |true=>exact⟨.bl true,H1,I1,rfl,q1⟩
theorem pe_not(ha:PE X a ta):PE X (.UnaryOp .Not a pos) (tNotV ta):=by
 intro pins s σ H Q I h
 refine UnaryOp_ (thn (ha pins s σ H _ I h) fun v s1 ⟨x,H1,I1,r1,q1⟩=> ?_)
 obtain⟨c,rfl,q1⟩:=q1
 cases r1
 exact not_of (wpAny_truthy_bool ⟨.bl (!c),H1,I1,rfl,q1⟩)
noncomputable def tIf(t:TT)(ta tb:TE):TE:=fun σ H Q=>t σ H fun c H1=>if c=true then ta σ H1 Q else tb σ H1 Q
theorem pe_ifExp{c:Expr}(hc:PT X c tA)(ha:PE X a ta)(hb:PE X b tb):PE X (.IfExp c a b pos) (tIf tA ta tb):=by
 intro pins s σ H Q I h
 refine wpAny_IfExp (thn (hc pins s σ H _ I h) fun d s1 ⟨H1,I1,q1⟩=> ?_)
 cases d with
 |true=>exact ha pins s1 σ H1 Q I1 q1
 |false=>exact hb pins s1 σ H1 Q I1 q1
end
end L2
namespace L2
open PySem PySem.Spec PyProof.Rows
noncomputable def SqL(K:PySem.W.Frag)(H:Hp)(a:Addr)(xs:List V):Prop:=
 Rd H a (.lst xs)∨
  ∃(o:Obj) (its:Array Value) (n:Nat),K.lookup a=some o∧o.cls=.type "list"∧o.dict=none∧o.data=.seq its n∧its.size≤sizeLine∧Vals xs its.toList
noncomputable def SqT(K:PySem.W.Frag)(H:Hp)(a:Addr)(xs:List V):Prop:=
 Rd H a (.tup xs)∨
  ∃(o:Obj) (its:Array Value) (n:Nat),K.lookup a=some o∧o.cls=.type "tuple"∧o.data=.seq its n∧its.size≤sizeLine∧Vals xs its.toList
noncomputable def absV:Value→Option V
 | .none=>some .non
 | .bool b=>some (.bl b)
 | .int i _=>some (.int i)
 | .str x _=>some (.str x)
 | .bytes b _=>some (.byt b)
 | .float b _=>some (.flt b)
 | .ref a=>some (.ref a)
 | .type n=>some (.ty n)
 |_=>none
theorem RelV.abs{x:V}{u:Value}(r:RelV x u):absV u=some x:=by
 cases x with
 |non=>cases r;rfl
 |bl _=>cases r;rfl
 |int _=>obtain⟨t,rfl⟩:=r;rfl
 |str _=>obtain⟨t,rfl⟩:=r;rfl
 |byt _=>obtain⟨t,rfl⟩:=r;rfl
 |flt _=>obtain⟨t,rfl⟩:=r;rfl
 |ref _=>cases r;rfl
 |ty _=>cases r;rfl
theorem RelV.inj{x y:V}{u:Value}(r:RelV x u)(q:RelV y u):x=y:=Option.some.inj (r.abs.symm.trans q.abs)
theorem Vals.inj:∀ {xs ys:List V} {us:List Value},Vals xs us→Vals ys us→xs=ys
 |_,_,_,.nil,.nil=>rfl
 |_,_,_,.cons r t,.cons r' t'=>by rw [r.inj r',Vals.inj t t']
section
variable{X:Cx}{pins:List (Addr×Obj)}{σ:St}{H:Hp}{s:Shared}{a:Addr}{xs ys:List V}
theorem SqL.of{K:PySem.W.Frag}(h:H a=some (.lst xs)):SqL K H a xs:=.inl (.inl h)
theorem SqT.of{K:PySem.W.Frag}(h:H a=some (.tup xs)):SqT K H a xs:=.inl (.inl h)
theorem Inv.list(I:Inv X pins σ H s)(h:SqL X.K H a xs):∃its:List Value,Vals xs its∧PlainL s.heap a its.toArray∧xs.length≤sizeLine:=by
 rcases h with h|⟨o,its,n,hk,hc,hd,hs,hz,r⟩
 ·obtain⟨z,its,n,r,e⟩:=h.ok I.hok
  exact⟨its,r,⟨_,n,e,rfl,rfl,rfl⟩,z⟩
 ·refine⟨its.toList,r,⟨o,n,I.kIn a o hk,hc,hd,by simpa using hs⟩,?_⟩
  have e:=r.length
  simp only [Array.length_toList]at e
  omega
theorem Inv.tuple(I:Inv X pins σ H s)(h:SqT X.K H a xs):∃its:List Value,Vals xs its∧IsTup s.heap a its.toArray∧xs.length≤sizeLine:=by
 rcases h with h|⟨o,its,n,hk,hc,hs,hz,r⟩
 ·obtain⟨z,its,r,p⟩:=h.ok I.hok
  exact⟨its,r,p,z⟩
 ·refine⟨its.toList,r,⟨o,I.kIn a o hk,hc,n,by simpa using hs⟩,?_⟩
  have e:=r.length
  simp only [Array.length_toList]at e
  omega
theorem Inv.list_inj(I:Inv X pins σ H s)(h:SqL X.K H a xs)(h':SqL X.K H a ys):xs=ys:=by
 obtain⟨its,r,⟨o,n,e,_,_,d⟩,_⟩:=I.list h
 obtain⟨its',r',⟨o',n',e',_,_,d'⟩,_⟩:=I.list h'
 rw [e]at e';cases e'
 rw [d]at d'
 injection d' with d1 _
 have:its=its':=by simpa using congrArg Array.toList d1
 subst this
 exact r.inj r'
theorem Inv.tuple_inj(I:Inv X pins σ H s)(h:SqT X.K H a xs)(h':SqT X.K H a ys):xs=ys:=by
 obtain⟨its,r,⟨o,e,_,n,d⟩,_⟩:=I.tuple h
 obtain⟨its',r',⟨o',e',_,n',d'⟩,_⟩:=I.tuple h'
 rw [e]at e';cases e'
 rw [d]at d'
 injection d' with d1 _
 have:its=its':=by simpa using congrArg Array.toList d1
 subst this
 exact r.inj r'
end
noncomputable abbrev Cx.wish(X:Cx)(E:Value→Shared→Prop):Cx:= {X with xe:=E}
noncomputable abbrev Cx.nox(X:Cx):Cx:=X.wish fun _ _=>False
theorem Cx.Ok.wish{X:Cx}(ok:X.Ok)(E:Value→Shared→Prop):(X.wish E).Ok:=
 ⟨ok.mod,ok.kind,ok.glob,ok.blt,ok.above,ok.inj,ok.has,ok.cab,ok.hd,ok.frames,ok.stk,ok.exf,ok.bs,ok.bsz,ok.noex,ok.exfs,ok.funs,ok.frf⟩
theorem Cx.Ok.unwish{X:Cx}{E:Value→Shared→Prop}(ok:(X.wish E).Ok):X.Ok:=
 ⟨ok.mod,ok.kind,ok.glob,ok.blt,ok.above,ok.inj,ok.has,ok.cab,ok.hd,ok.frames,ok.stk,ok.exf,ok.bs,ok.bsz,ok.noex,ok.exfs,ok.funs,ok.frf⟩
section
variable{X:Cx}{pins:List (Addr×Obj)}{σ:St}{H:Hp}{s:Shared}{E:Value→Shared→Prop}
theorem Inv.wish(I:Inv X pins σ H s)(E:Value→Shared→Prop):Inv (X.wish E) pins σ H s:=⟨I.ok.wish E,I.os,I.bare,I.base,I.loc,I.cell,I.free,I.freeC,I.pin,I.hok,I.len⟩
theorem Inv.unwish(I:Inv (X.wish E) pins σ H s):Inv X pins σ H s:=⟨I.ok.unwish,I.os,I.bare,I.base,I.loc,I.cell,I.free,I.freeC,I.pin,I.hok,I.len⟩
theorem SP.unwish{D:Ends}{f:Flow}{s':Shared}(h:SP (X.wish E) pins D f s'):SP X pins D f s':=by
 cases f with
 |next=>obtain⟨σ',H',I,q⟩:=h;exact⟨σ',H',I.unwish,q⟩
 |brk=>obtain⟨σ',H',I,q⟩:=h;exact⟨σ',H',I.unwish,q⟩
 |cont=>obtain⟨σ',H',I,q⟩:=h;exact⟨σ',H',I.unwish,q⟩
 |ret u=>obtain⟨v,σ',H',I,r,q⟩:=h;exact⟨v,σ',H',I.unwish,r,q⟩
theorem PSs.nox{st:List Stmt}{t:TS}(h:PSs X.nox st t):PSs X st t:=fun pins s σ H D I hw=>
 wpAny_mono (h pins s σ H D (I.wish _) hw) (fun _ _ q=>q.unwish) fun _ _ z=>False.elim z
end
section
variable{X:Cx}{st:Stmt}{rest:List Stmt}{t u:TS}{e:Expr}{te:TE}{pos:Pos}
noncomputable def tNext:TS:=fun D σ H=>D.nx σ H
noncomputable def tSeq(t u:TS):TS:=fun D σ H=>t {D with nx:=u D} σ H
theorem pss_nil:PSs X [] tNext:=fun _ _ σ H _ I h=>wpAny_execs_nil ⟨σ,H,I,h⟩
theorem pss_cons(h1:PS X st t)(h2:PSs X rest u):PSs X (st::rest) (tSeq t u):=by
 intro pins s σ H D I h
 refine wpAny_execs_cons (thn (h1 pins s σ H {D with nx:=u D} I h) fun f s1 q=> ?_)
 cases f with
 |next=>
  obtain⟨σ',H',I',q⟩:=q
  exact h2 pins s1 σ' H' D I' q
 |ret v=>exact q
 |brk=>exact q
 |cont=>exact q
noncomputable def tBreak:TS:=fun D σ H=>D.bk σ H
noncomputable def tCont:TS:=fun D σ H=>D.ct σ H
theorem ps_pass:PS X (.Pass pos) tNext:=fun _ _ σ H _ I h=>wpAny_Pass ⟨σ,H,I,h⟩
theorem Inv.quiet{pins:List (Addr×Obj)}{σ:St}{H:Hp}{s:Shared}(I:Inv X pins σ H s):interactive X.env=false:=by simp [interactive,I.ok.kind]
noncomputable def tDrop(te:TE):TS:=fun D σ H=>te σ H fun _ H1=>D.nx σ H1
theorem ps_expr(he:PE X e te)(hs:swapsWith e none pos.line X.env=pure false:=by rfl):PS X (.Expr e pos) (tDrop te):=by
 intro pins s σ H D I h
 exact wpAny_Expr_any (thn (he pins s σ H _ I h) fun v s1 ⟨x,H1,I1,r1,q1⟩=>⟨σ,H1,I1,q1⟩) I.quiet hs
noncomputable def tRet(te:TE):TS:=fun D σ H=>te σ H D.rt
theorem ps_ret(he:PE X e te):PS X (.Return (some e) pos) (tRet te):=by
 intro pins s σ H D I h
 exact wpAny_Return_some (thn (he pins s σ H _ I h) fun v s1 ⟨x,H1,I1,r1,q1⟩=>⟨x,σ,H1,I1,r1,q1⟩)
noncomputable def tRetN:TS:=fun D _ H=>D.rt .non H
theorem ps_retN:PS X (.Return none pos) tRetN:=fun _ _ σ H _ I h=>wpAny_Return_none ⟨.non,σ,H,I,rfl,h⟩
noncomputable def tIfS(c:TT)(t u:TS):TS:=fun D σ H=>c σ H fun b H1=>if b=true then t D σ H1 else u D σ H1
theorem ps_if{c:Expr}{a b:List Stmt}{tc:TT}(hc:PT X c tc)(ha:PSs X a t)(hb:PSs X b u):PS X (.If c a b pos) (tIfS tc t u):=by
 intro pins s σ H D I h
 refine wpAny_If (thn (hc pins s σ H _ I h) fun d s1 ⟨H1,I1,q1⟩=> ?_)
 cases d with
 |true=>exact ha pins s1 σ H1 D I1 q1
 |false=>exact hb pins s1 σ H1 D I1 q1
noncomputable def tNever:TS:=fun _ _ _=>False
theorem ps_never:PS X st tNever:=fun _ _ _ _ _ _ h=>h.elim
end
noncomputable abbrev TG:=V→St→Hp→(St→Hp→Prop)→Prop
noncomputable abbrev TGs:=List V→St→Hp→(St→Hp→Prop)→Prop
noncomputable def PG(X:Cx)(target:Expr)(t:TG):Prop:=
 ∀(pins:List (Addr×Obj)) (s:Shared) (σ:St) (H:Hp) (v:V) (u:Value) (Q:St→Hp→Prop),Inv X pins σ H s→RelV v u→t v σ H Q→
  wpAny (model X.prog X.w) X.A (assign target X.env u) (fun _ s'=>∃σ' H',Inv X pins σ' H' s'∧Q σ' H') X.xe s
noncomputable def PGs(X:Cx)(ts:List Expr)(t:TGs):Prop:=
 ∀(pins:List (Addr×Obj)) (s:Shared) (σ:St) (H:Hp) (vs:List V) (us:List Value) (Q:St→Hp→Prop),Inv X pins σ H s→Vals vs us→t vs σ H Q→
  wpAny (model X.prog X.w) X.A (assignInOrder ((assignEach ts X.env).map (·.2)) us) (fun _ s'=>∃σ' H',Inv X pins σ' H' s'∧Q σ' H') X.xe s
noncomputable abbrev TSet:=V→V→V→Hp→(Hp→Prop)→Prop
noncomputable def PSet(X:Cx)(t:TSet):Prop:=
 ∀(pins:List (Addr×Obj)) (s:Shared) (σ:St) (H:Hp) (o i v:V) (ov iv u:Value) (Q:Hp→Prop),Inv X pins σ H s→RelV o ov→RelV i iv→RelV v u→t o i v H Q→
  wpAny (model X.prog X.w) X.A (setItem ov iv u) (fun _ s'=>∃H',Inv X pins σ H' s'∧Q H') X.xe s
noncomputable abbrev TIp:=V→V→Hp→VK→Prop
noncomputable def PIp(X:Cx)(op:Operator)(t:TIp):Prop:=
 ∀(pins:List (Addr×Obj)) (s:Shared) (σ:St) (H:Hp) (x y:V) (v u:Value) (Q:VK),Inv X pins σ H s→RelV x v→RelV y u→t x y H Q→
  wpAny (model X.prog X.w) X.A (inplaceOp op v u) (EP X pins σ Q) X.xe s
section
variable{X:Cx}{pos:Pos}
noncomputable def gName(i:Nat):TG:=fun v σ H Q=>Q (σ.set i (some v)) H
theorem pg_name{i:Nat}{x:Str}(hN:X.N.Nodup)(hi:X.N[i]?=some x)(hx:Loc X.env.scope x)(hf:X.fn x=true∨X.env.scope.names.lookup x=some .local:=by first|exact .inl rfl|exact .inr rfl|assumption):PG X (.Name x pos) (gName i):=by
 intro pins s σ H v u Q I r h
 exact wpAny_assign_Name (store_ok I hN hi hx r (fun s' I'=>⟨_,H,I',h⟩) hf)
noncomputable def gNil:TGs:=fun vs σ H Q=>vs=[]∧Q σ H
noncomputable def gCons(t:TG)(u:TGs):TGs:=fun vs σ H Q=>∃v r,vs=v::r∧t v σ H fun σ' H'=>u r σ' H' Q
theorem pgs_nil:PGs X [] gNil:=by
 intro pins s σ H vs us Q I r h
 obtain⟨e,h⟩:=h
 subst e
 cases r
 exact assignInOrder_nil ⟨σ,H,I,h⟩
theorem pgs_cons{e:Expr}{es:List Expr}{t:TG}{u:TGs}(h1:PG X e t)(h2:PGs X es u)
 (hs:(assignEach (e::es) X.env).map (·.2)=assign e X.env::(assignEach es X.env).map (·.2):=by rfl):PGs X (e::es) (gCons t u):=by
 intro pins s σ H vs us Q I r h
 obtain⟨v,vr,e1,h⟩:=h
 subst e1
 cases r with
 |cons r rr=>
  rw [hs]
  refine assignInOrder_cons (thn (h1 pins s σ H _ _ _ I r h) fun _ s1 ⟨σ1,H1,I1,q1⟩=> ?_)
  exact h2 pins s1 σ1 H1 _ _ Q I1 rr q1
noncomputable def gTup(K:PySem.W.Frag)(n:Nat)(t:TGs):TG:=fun v σ H Q=>∃a xs,v=.ref a∧SqT K H a xs∧xs.length=n∧t xs σ H Q
theorem pg_tup{es:List Expr}{k:Nat}{t:TGs}{n:Nat}(hc:X.calm=true)(h:PGs X es t)
 (hn:(assignEach es X.env).length=n:=by rfl)(hst:(assignEach es X.env).findIdx? (·.1)=none:=by rfl):PG X (.Tuple es k pos) (gTup X.K n t):=by
 intro pins s σ H v u Q I r hw
 obtain⟨a,xs,e1,hq,hl,hw⟩:=hw
 subst e1
 cases r
 obtain⟨its,rv,ht,hz⟩:=I.tuple hq
 refine assign_Tuple_tuple (I.ok.hd hc) ht (by simp [hn,←hl,rv.length]) hst fun h' hx=> ?_
 have I1:Inv X pins σ H {s with heap:=h'}:=I.kept (t':=s.toks) fun b o e=>hx b o (Nat.ne_of_lt (Heap.lt_size e)) e
 exact h pins _ σ H xs _ Q I1 (by simpa using rv) hw
noncomputable def gSub(to ti:TE)(t:TSet):TG:=fun v σ H Q=>to σ H fun o H1=>ti σ H1 fun i H2=>t o i v H2 fun H3=>Q σ H3
theorem pg_sub{o i:Expr}{to ti:TE}{t:TSet}(ho:PE X o to)(hi:PE X i ti)(hs:PSet X t)
 (ha:∀v,assign (.Subscript o i pos) X.env v=(do
   let ov←holding [v] (eval o X.env)
   let iv←holding [v,ov] (eval i X.env)
   standAt pos
   holding [v,ov,iv] (setItem ov iv v)
   release [v,ov,iv] []):=by intro _;rfl):PG X (.Subscript o i pos) (gSub to ti t):=by
 intro pins s σ H v u Q I r h
 rw [ha]
 refine wpAny_bind (wpAny_holding (thn (ho pins s σ H _ I h) fun ov s1 ⟨x,H1,I1,r1,q1⟩=> ?_))
 refine wpAny_bind (wpAny_holding (thn (hi pins s1 σ H1 _ I1 q1) fun iv s2 ⟨y,H2,I2,r2,q2⟩=> ?_))
 refine wpAny_bind (wpAny_standAt (wpAny_bind (wpAny_holding (thn (hs pins s2 σ H2 x y v ov iv u _ I2 r1 r2 r q2) fun _ s3 ⟨H3,I3,q3⟩=> ?_))))
 exact wpAny_release ⟨σ,H3,I3,q3⟩
noncomputable def tAsg(te:TE)(g:TG):TS:=fun D σ H=>te σ H fun x H1=>g x σ H1 D.nx
theorem ps_asg{tg e:Expr}{te:TE}{g:TG}(he:PE X e te)(hg:PG X tg g)(hs:swapsWithSole [tg] e pos.line X.env=pure false:=by rfl)(hw:swappedStores [tg] e X.env=pure none:=by rfl)
 (h1:(assignEach [tg] X.env).map (·.2)=[assign tg X.env]:=by rfl):PS X (.Assign [tg] e pos) (tAsg te g):=by
 intro pins s σ H D I h
 refine wpAny_Assign_stores (thn (he pins s σ H _ I h) fun v s1 ⟨x,H1,I1,r1,q1⟩=> ?_) hs hw
 rw [h1]
 exact thn (hg pins s1 σ H1 x v _ I1 r1 q1) fun _ s2 q=>q
theorem ps_set{i:Nat}{x:Str}{e:Expr}{te:TE}{pos':Pos}(hN:X.N.Nodup)(hi:X.N[i]?=some x)(hx:Loc X.env.scope x)(he:PE X e te)(hs:swapsWith e (some (.Name x pos')) pos.line X.env=pure false:=by rfl)(hf:X.fn x=true∨X.env.scope.names.lookup x=some .local:=by first|exact .inl rfl|exact .inr rfl|assumption):
 PS X (.Assign [.Name x pos'] e pos) (tAsg te (gName i)):=by
 intro pins s σ H D I h
 refine wpAny_Assign_Name (thn (he pins s σ H _ I h) fun v s1 ⟨y,H1,I1,r1,q1⟩=> ?_) hs
 exact store_ok I1 hN hi hx r1 (fun s2 I2=>⟨_,H1,I2,q1⟩) hf
noncomputable def tPar(i j:Nat)(ta:TA):TS:=fun D σ H=>ta σ H fun vs H1=>∃v w,vs=[v,w]∧D.nx ((σ.set i (some v)).set j (some w)) H1
theorem ps_par{i j:Nat}{x y:Str}{a b:Expr}{ta:TA}{px py pt:Pos}{kt k2 pt2}(hc:X.calm=true)(hN:X.N.Nodup)(hi:X.N[i]?=some x)(hj:X.N[j]?=some y)(hij:i≠j)
 (hx:X.env.scope.names.lookup x=some .local)(hy:X.env.scope.names.lookup y=some .local)(ha:PA X [a,b] ta)
 (hw:swappedStores [.Tuple [.Name x px,.Name y py] kt pt] (.Tuple [a,b] k2 pt2) X.env=pure (some [x,y]))
 (hs:swapsWithSole [.Tuple [.Name x px,.Name y py] kt pt] (.Tuple [a,b] k2 pt2) pos.line X.env=pure false:=by rfl):
 PS X (.Assign [.Tuple [.Name x px,.Name y py] kt pt] (.Tuple [a,b] k2 pt2) pos) (tPar i j ta):=by
 intro pins s σ H D I h
 rw [exec_Assign_arm]
 refine wpAny_bind (wpAny_standAt ?_)
 rw [hs]
 refine wpAny_bind (wpAny_pure ?_)
 rw [if_neg (by decide)]
 refine wpAny_bind (Tuple_ (thn (ha _ pins s σ H _ I h) fun us s1 ⟨vs,H1,I1,r1,q1⟩=> ?_))
 obtain⟨v,w,e1,q1⟩:=q1
 subst e1
 obtain⟨u1,u2,rfl,rv,rw'⟩:∃u1 u2,us=[u1,u2]∧RelV v u1∧RelV w u2:=by
  cases r1 with
  |cons p q=>
   cases q with
   |cons p' q'=>
    cases q'
    exact⟨_,_,rfl,p,p'⟩
 refine wpAny_newObj_type ?_ (by show 2≤sizeLine;decide)
 have I2:Inv X pins σ H1 {s1 with heap:=s1.heap.push {cls:=.type "tuple",data:=.seq [u1,u2].toArray}}:=I1.kept (t':=s1.toks) fun b o e=>Heap.get?_push_of_some _ e
 rw [hw]
 refine wpAny_bind (wpAny_pure ?_)
 show wpAny (model X.prog X.w) X.A (do rule "assign.swapped-stores";let items←unpackItems (.ref s1.heap.objs.size) 2 none;assignInOrder [fun v=>bindName X.env y v,fun v=>bindName X.env x v] items.reverse;pure Flow.next) _ _ _
 refine wpAny_bind (wpAny_rule (wpAny_bind (unpackItems_tuple (items:= #[u1,u2]) (I.ok.hd hc) (IsTup.new s1.heap _) fun h' hx'=> ?_)))
 have I3:=I2.kept (h':=h') (t':=s1.toks) fun b o e=>hx' b o (Nat.ne_of_lt (Heap.lt_size e)) e
 show wpAny _ _ (assignInOrder [fun v=>bindName X.env y v,fun v=>bindName X.env x v] [u2,u1]>>=fun _=>pure Flow.next) _ _ _
 refine wpAny_bind (assignInOrder_cons (wpAny_bindName (store_ok I3 hN hj (.inl hy) rw' (fun s2 I4=> ?_) (.inr hy))))
 refine assignInOrder_cons (wpAny_bindName (store_ok I4 hN hi (.inl hx) rv (fun s3 I5=>assignInOrder_nil (wpAny_pure ?_)) (.inr hx)))
 rw [List.set_comm _ _ (Ne.symm hij)]at I5
 exact⟨_,H1,I5,q1⟩
noncomputable def tAug(i:Nat)(te:TE)(ti:TIp):TS:=fun D σ H=>∃x,σ[i]?=some (some x)∧te σ H fun y H1=>ti x y H1 fun z H2=>D.nx (σ.set i (some z)) H2
noncomputable def tAugS(to ti te:TE)(tget:V→V→Hp→VK→Prop)(tip:TIp)(tset:TSet):TS:=fun D σ H=>to σ H fun o H1=>ti σ H1 fun i H2=>tget o i H2 fun x H3=>te σ H3 fun y H4=>tip x y H4 fun z H5=>tset o i z H5 fun H6=>D.nx σ H6
noncomputable def PGet(X:Cx)(t:V→V→Hp→VK→Prop):Prop:=
 ∀(pins:List (Addr×Obj)) (s:Shared) (σ:St) (H:Hp) (o i:V) (ov iv:Value) (Q:VK),Inv X pins σ H s→RelV o ov→RelV i iv→t o i H Q→
  wpAny (model X.prog X.w) X.A (getItem ov iv) (EP X pins σ Q) X.xe s
noncomputable def ipI(f:Int→Int→Int):TIp:=fun x y H Q=>∃i j,x=.int i∧y=.int j∧Q (.int (f i j)) H
end
section
variable{X:Cx}{pos:Pos}
noncomputable def tWhile(c:TT)(tb:TS):TS:=fun D σ H=>∃W:Nat→St→Hp→Prop,(∃m,W m σ H)∧∀m σ H,W m σ H→
 c σ H fun b H1=>if b=true then∃N:St→Hp→Prop,(∀σ' H',N σ' H'→∃m',m'<m∧W m' σ' H')∧tb {D with nx:=N,ct:=N,bk:=D.nx} σ H1 else D.nx σ H1
end
structure It where
 go:Nat→Hp→Prop
 yld:Nat→Hp→V→Hp→Prop
 stop:Nat→Hp→Prop
noncomputable def FpOk(X:Cx)(pins:List (Addr×Obj))(H:Hp)(b:Addr):Prop:=
 H b=none∧b≠X.env.locals∧b∉X.fs∧(b∈X.ex∨X.s₀.heap.objs.size≤b)∧(∀x c,X.env.cells.lookup x=some c→c≠b)∧∀p∈X.pn++pins,p.1≠b
theorem Inv.fpOk{X:Cx}{pins:List (Addr×Obj)}{σ:St}{H H':Hp}{s:Shared}{b:Addr}(I:Inv X pins σ H s)(hb:s.heap.objs.size≤b)(hn:H' b=none):FpOk X pins H' b:=by
 refine⟨hn,Nat.ne_of_gt (Nat.lt_of_lt_of_le I.lt hb),I.nofs hb,.inr (Nat.le_trans I.sz hb),fun x c e z=> ?_,fun p hp z=> ?_⟩
 ·obtain⟨v,q⟩:=I.cell x c e
  exact absurd (Nat.lt_of_lt_of_le q.lt (by rw [z];exact hb)) (Nat.lt_irrefl _)
 ·exact absurd (Nat.lt_of_lt_of_le (Heap.lt_size (I.pin p hp).1) (by rw [z];exact hb)) (Nat.lt_irrefl _)
structure Turn(P:Program)(w:World)(K:PySem.W.Frag)(tg:Expr)(J:It)(fp:List Addr)(it:Addr)(tn:Nat→Heap→Prop):Prop where
 mem:it∈fp
 obj:∀i h,tn i h→∀b∈fp,∃o,h.get? b=some o∧∀v,o.data≠.cell v
 keep:∀i h h',tn i h→(∀b∈fp,∀o,h.get? b=some o→h'.get? b=some o)→tn i h'
 item:∀(X:Cx),X.prog=P→X.w=w→X.K=K→X.calm=true→∀(i:Nat) (pins:List (Addr×Obj)) (s:Shared) (σ:St) (H:Hp) (E:Value→Shared→Prop),Inv X pins σ H s→(∀b∈fp,FpOk X pins H b)→tn i s.heap→J.go i H→
  wpAny (model P w) X.A (pyNext (.ref it)) (fun r s1=>∃u,r=some u∧
   wpAny (model P w) X.A (letOwnedTupleGo tg (.ref it) u) (fun _ s2=>∃x H',Inv X pins σ H' s2∧RelV x u∧J.yld i H x H'∧tn (i+1) s2.heap∧∀b∈fp,H' b=none) E s1) E s
 done:∀(X:Cx),X.prog=P→X.w=w→X.K=K→X.calm=true→∀(i:Nat) (pins:List (Addr×Obj)) (s:Shared) (σ:St) (H:Hp) (E:Value→Shared→Prop),Inv X pins σ H s→(∀b∈fp,FpOk X pins H b)→tn i s.heap→J.stop i H→
  wpAny (model P w) X.A (pyNext (.ref it)) (fun r s1=>r=none∧Inv X pins σ H s1) E s
 self:∀(A:Around) (i:Nat) (s:Shared) (Q:Value→Shared→Prop) (E:Value→Shared→Prop),tn i s.heap→Q (.ref it) s→wpAny (model P w) A (pyIter (.ref it)) Q E s
noncomputable abbrev TI:=St→Hp→(It→Hp→Prop)→Prop
noncomputable def PIE(X:Cx)(pins:List (Addr×Obj))(σ:St)(tg:Expr)(R:It→Hp→Prop)(itv:Value)(s2:Shared):Prop:=
 ∃(it:Addr) (fp:List Addr) (tn:Nat→Heap→Prop) (J:It) (H':Hp),itv=.ref it∧Inv X pins σ H' s2∧Turn X.prog X.w X.K tg J fp it tn∧tn 0 s2.heap∧(∀b∈fp,FpOk X pins H' b)∧R J H'
noncomputable def PI(X:Cx)(tg iter:Expr)(wi:TI):Prop:=
 ∀(pins:List (Addr×Obj)) (s:Shared) (σ:St) (H:Hp) (R:It→Hp→Prop),Inv X pins σ H s→wi σ H R→
  wpAny (model X.prog X.w) X.A (eval iter X.env) (fun v s1=>wpAny (model X.prog X.w) X.A (pyIter v) (PIE X pins σ tg R) X.xe s1) X.xe s
theorem go_of{M:Model}{A:Around}{E:Value→Shared→Prop}{s:Shared}{tg:Expr}{it:Addr}{u:Value}{o:Obj}{n:String}{vs:Array Value}{Q:Unit→Shared→Prop}(ho:s.heap.get? it=some o)(hc:o.cls=.type n)(hd:o.data=.fields vs)
 (hn:["enumerate","zip","dict_itemiterator","dict_reverseitemiterator","odict_iterator","itertools.zip_longest","itertools.pairwise"].contains n=false)(hQ:Q () s):wpAny M A (letOwnedTupleGo tg (.ref it) u) Q E s:=by
 unfold letOwnedTupleGo
 cases tg<;>first
  |exact wpAny_pure hQ
  |(cases u<;>first
     |exact wpAny_pure hQ
     |(refine wpAny_bind (wpAny_load ho ?_)
       rw [hc,hd]
       show wpAny M A (if(["enumerate","zip","dict_itemiterator","dict_reverseitemiterator","odict_iterator","itertools.zip_longest","itertools.pairwise"].contains n&&vs[0]?==some (rawInt _))=true then _ else _) Q E s
       rw [if_neg (by intro h;rw [hn,Bool.false_and]at h;cases h)]
       exact wpAny_pure hQ))
noncomputable def Itl(K:PySem.W.Frag)(a:Addr):It:=
 ⟨fun i H=>∃xs x,SqL K H a xs∧xs[i]?=some x,fun i H x H'=>H'=H∧∀xs,SqL K H a xs→xs[i]?=some x,fun i H=>∃xs,SqL K H a xs∧xs.length≤i⟩
noncomputable def Itt(K:PySem.W.Frag)(a:Addr):It:=
 ⟨fun i H=>∃xs x,SqT K H a xs∧xs[i]?=some x,fun i H x H'=>H'=H∧∀xs,SqT K H a xs→xs[i]?=some x,fun i H=>∃xs,SqT K H a xs∧xs.length≤i⟩
noncomputable def Itr(lo:Int)(n:Nat):It:=⟨fun i _=>i<n,fun i H x H'=>H'=H∧x=.int (lo+i),fun i _=>n≤i⟩
theorem turn_list{P:Program}{w:World}{K:PySem.W.Frag}{tg:Expr}(a it:Addr):Turn P w K tg (Itl K a) [it] it (fun i h=>h.IsListIter it a i) where
 mem:=by simp
 obj:=fun i h st b hb=>by
  have e:b=it:=by simpa using hb
  subst e
  obtain⟨o,e,c,d⟩:=st
  exact⟨o,e,fun v z=>by rw [d]at z;cases z⟩
 keep:=fun i h h' st k=>st.at fun o e=>k it (by simp) o e
 item:=by
  intro X hP hw hK hc i pins s σ H E I hf st hg
  subst hP hw hK
  obtain⟨xs,x,hq,hx⟩:=hg
  obtain⟨its,rv,p,hz⟩:=I.list hq
  obtain⟨u,hu,ru⟩:=rv.get hx
  obtain⟨f0,f1,f2,f3,f4,f5⟩:=hf it (by simp)
  refine wpAny_pyNext_list_item st p.isList (x:=u) (by simpa using hu) fun h' st' sb=> ?_
  have I1:Inv X pins σ H {s with heap:=h'}:=I.turned (t':=s.toks) (fun b o hb e=>(sb.2 b hb).trans e) f0 f1 f3 f4 f5
  obtain⟨o,e,c,d⟩:=id st'
  exact⟨u,rfl,go_of (s:= {s with heap:=h'}) e c d (by decide) ⟨x,H,I1,ru,⟨rfl,fun ys hy=>by rw [I.list_inj hy hq];exact hx⟩,st',fun b hb=>(hf b hb).1⟩⟩
 done:=by
  intro X hP hw hK hc i pins s σ H E I hf st hg
  subst hP hw hK
  obtain⟨xs,hq,hx⟩:=hg
  obtain⟨its,rv,p,hz⟩:=I.list hq
  obtain⟨f0,f1,f2,f3,f4,f5⟩:=hf it (by simp)
  have hl:=rv.length
  exact wpAny_pyNext_list_end (I.ok.hd hc) st p.isList (by simp;omega) fun h' eb=>⟨rfl,I.turned (t':=s.toks) (fun b o hb e=>eb b o hb e) f0 f1 f3 f4 f5⟩
 self:=fun _ _ _ _ _ st h=>wpAny_pyIter_listiter st h
theorem turn_tuple{P:Program}{w:World}{K:PySem.W.Frag}{tg:Expr}(a it:Addr):Turn P w K tg (Itt K a) [it] it (fun i h=>h.IsTupleIter it a i) where
 mem:=by simp
 obj:=fun i h st b hb=>by
  have e:b=it:=by simpa using hb
  subst e
  obtain⟨o,e,c,d⟩:=st
  exact⟨o,e,fun v z=>by rw [d]at z;cases z⟩
 keep:=fun i h h' st k=>st.at fun o e=>k it (by simp) o e
 item:=by
  intro X hP hw hK hc i pins s σ H E I hf st hg
  subst hP hw hK
  obtain⟨xs,x,hq,hx⟩:=hg
  obtain⟨its,rv,p,hz⟩:=I.tuple hq
  obtain⟨u,hu,ru⟩:=rv.get hx
  obtain⟨f0,f1,f2,f3,f4,f5⟩:=hf it (by simp)
  refine wpAny_pyNext_tuple_item st (show s.heap.IsTuple a its.toArray from p) (x:=u) (by simpa using hu) fun h' st' sb=> ?_
  have I1:Inv X pins σ H {s with heap:=h'}:=I.turned (t':=s.toks) (fun b o hb e=>(sb.2 b hb).trans e) f0 f1 f3 f4 f5
  obtain⟨o,e,c,d⟩:=id st'
  exact⟨u,rfl,go_of (s:= {s with heap:=h'}) e c d (by decide) ⟨x,H,I1,ru,⟨rfl,fun ys hy=>by rw [I.tuple_inj hy hq];exact hx⟩,st',fun b hb=>(hf b hb).1⟩⟩
 done:=by
  intro X hP hw hK hc i pins s σ H E I hf st hg
  subst hP hw hK
  obtain⟨xs,hq,hx⟩:=hg
  obtain⟨its,rv,p,hz⟩:=I.tuple hq
  obtain⟨f0,f1,f2,f3,f4,f5⟩:=hf it (by simp)
  have hl:=rv.length
  exact wpAny_pyNext_tuple_end (I.ok.hd hc) st (show s.heap.IsTuple a its.toArray from p) (by simp;omega) fun h' eb=>⟨rfl,I.turned (t':=s.toks) (fun b o hb e=>eb b o hb e) f0 f1 f3 f4 f5⟩
 self:=fun _ _ _ _ _ st h=>wpAny_pyIter_tupleiter st h
theorem turn_range{P:Program}{w:World}{K:PySem.W.Frag}{tg:Expr}(it:Addr)(lo:Int)(n:Nat):Turn P w K tg (Itr lo n) [it] it (fun i h=>IsRangeIter h it (lo+(i:Nat)*1) ((n:Int)-(i:Nat)) 1) where
 mem:=by simp
 obj:=fun i h st b hb=>by
  have e:b=it:=by simpa using hb
  subst e
  exact⟨_,st,fun v z=>by
   have z':Data.fields _=Data.cell v:=z
   cases z'⟩
 keep:=fun i h h' st k=>k it (by simp) _ st
 item:=by
  intro X hP hw hK hc i pins s σ H E I hf st hg
  subst hP hw hK
  obtain⟨f0,f1,f2,f3,f4,f5⟩:=hf it (by simp)
  have W:=Walks.range (prog:=X.prog) (w:=X.w) (I.ok.hd hc) it lo 1 n
  refine W.item i s _ _ hg st fun v h' tk hv st' kk=> ?_
  obtain⟨t,rfl⟩:=hv
  have I1:Inv X pins σ H {s with heap:=h',toks:=tk}:=I.turned (fun b o hb e=>kk b o (by simpa using hb) e) f0 f1 f3 f4 f5
  refine⟨_,rfl,go_of (s:= {s with heap:=h',toks:=tk}) (n:="range_iterator") st' rfl rfl (by decide) ⟨.int (lo+i),H,I1,⟨t,?_⟩,⟨rfl,rfl⟩,st',fun b hb=>(hf b hb).1⟩⟩
  rw [Int.mul_one]
 done:=by
  intro X hP hw hK hc i pins s σ H E I hf st hg
  subst hP hw hK
  obtain⟨f0,f1,f2,f3,f4,f5⟩:=hf it (by simp)
  exact wpAny_pyNext_range_end (I.ok.hd hc) st (by have:n≤i:=hg;omega) fun h' eb=>⟨rfl,I.turned (t':=s.toks) (fun b o hb e=>eb b o hb e) f0 f1 f3 f4 f5⟩
 self:=fun _ _ _ _ _ st h=>wpAny_pyIter_rangeiter st h
end L2
namespace L2
open PySem PySem.Spec PyProof.Rows
section
variable{X:Cx}{tg:Expr}
noncomputable def iList(K:PySem.W.Frag)(tl:TE):TI:=fun σ H R=>tl σ H fun x H1=>∃a,x=.ref a∧(∃xs,SqL K H1 a xs)∧R (Itl K a) H1
noncomputable def iTup(K:PySem.W.Frag)(tl:TE):TI:=fun σ H R=>tl σ H fun x H1=>∃a,x=.ref a∧(∃xs,SqT K H1 a xs)∧R (Itt K a) H1
theorem pi_list{l:Expr}{tl:TE}(hl:PE X l tl):PI X tg l (iList X.K tl):=by
 intro pins s σ H R I h
 refine thn (hl pins s σ H _ I h) fun v s1 ⟨x,H1,I1,r1,q1⟩=> ?_
 obtain⟨a,e,⟨xs,hq⟩,q⟩:=q1
 subst e
 cases r1
 obtain⟨its,rv,p,hz⟩:=I1.list hq
 refine wpAny_pyIter_list p.isList ?_
 refine⟨s1.heap.objs.size,[s1.heap.objs.size],_,_,H1,rfl,I1.kept (t':=s1.toks) fun b o e=>Heap.get?_push_of_some _ e,turn_list a _,⟨_,Heap.get?_push_size _ rfl,rfl,rfl⟩,fun b hb=> ?_,q⟩
 have e:b=s1.heap.objs.size:=by simpa using hb
 subst e
 exact I1.fpOk (Nat.le_refl _) (I1.hok.fresh (Nat.le_refl _))
theorem pi_tup{l:Expr}{tl:TE}(hl:PE X l tl):PI X tg l (iTup X.K tl):=by
 intro pins s σ H R I h
 refine thn (hl pins s σ H _ I h) fun v s1 ⟨x,H1,I1,r1,q1⟩=> ?_
 obtain⟨a,e,⟨xs,hq⟩,q⟩:=q1
 subst e
 cases r1
 obtain⟨its,rv,p,hz⟩:=I1.tuple hq
 refine wpAny_pyIter_tuple (show s1.heap.IsTuple a its.toArray from p) ?_
 refine⟨s1.heap.objs.size,[s1.heap.objs.size],_,_,H1,rfl,I1.kept (t':=s1.toks) fun b o e=>Heap.get?_push_of_some _ e,turn_tuple a _,⟨_,Heap.get?_push_size _ rfl,rfl,rfl⟩,fun b hb=> ?_,q⟩
 have e:b=s1.heap.objs.size:=by simpa using hb
 subst e
 exact I1.fpOk (Nat.le_refl _) (I1.hok.fresh (Nat.le_refl _))
theorem range_it{pins:List (Addr×Obj)}{σ:St}{H:Hp}{s:Shared}{R:It→Hp→Prop}{E:Value→Shared→Prop}{lo hi:Int}{t u v:Tok}{tk:Nat}(I:Inv X pins σ H s)(h1:-(2 ^ 62)≤lo)(h2:lo<2 ^ 62)(h3:-(2 ^ 62)≤hi)(h4:hi<2 ^ 62)
 (q:R (Itr lo (hi-lo).toNat) H):wpAny (model X.prog X.w) X.A (pyIter (.ref s.heap.objs.size)) (PIE X pins σ tg R) E {s with heap:=s.heap.push {cls:=.type "range",data:=.fields #[.int lo t,.int hi u,.int 1 v]},toks:=tk}:=by
 refine wpAny_pyIter_range (IsRange.new ..) (small_one h1 h2 h3 h4) ?_
 have I1:Inv X pins σ H {s with heap:=s.heap.push {cls:=.type "range",data:=.fields #[.int lo t,.int hi u,.int 1 v]},toks:=tk}:=I.kept fun b o e=>Heap.get?_push_of_some _ e
 refine⟨(s.heap.push {cls:=.type "range",data:=.fields #[.int lo t,.int hi u,.int 1 v]}).objs.size,[(s.heap.push {cls:=.type "range",data:=.fields #[.int lo t,.int hi u,.int 1 v]}).objs.size],_,_,H,rfl,
  I1.kept (t':=tk) fun b o e=>Heap.get?_push_of_some _ e,turn_range _ lo (hi-lo).toNat,?_,fun b hb=> ?_,q⟩
 ·have e1:lo+((0:Nat):Int)*1=lo:=by simp
  have e2:(((hi-lo).toNat:Nat):Int)-((0:Nat):Int)=Builtin.Range.rangeSize lo hi 1:=by rw [rangeSize_one];split<;>omega
  show IsRangeIter _ _ (lo+((0:Nat):Int)*1) ((((hi-lo).toNat:Nat):Int)-((0:Nat):Int)) 1
  rw [e1,e2]
  exact Heap.get?_push_size _ rfl
 ·have e:b=(s.heap.push {cls:=.type "range",data:=.fields #[.int lo t,.int hi u,.int 1 v]}).objs.size:=by simpa using hb
  subst e
  exact I1.fpOk (Nat.le_refl _) (I1.hok.fresh (Nat.le_refl _))
noncomputable def iRng1(ta:TA):TI:=fun σ H R=>ta σ H fun vs H1=>∃j:Int,vs=[.int j]∧-(2 ^ 62)≤j∧j<2 ^ 62∧R (Itr 0 j.toNat) H1
noncomputable def iRng2(ta:TA):TI:=fun σ H R=>ta σ H fun vs H1=>∃i j:Int,vs=[.int i,.int j]∧(-(2 ^ 62)≤i∧i<2 ^ 62∧-(2 ^ 62)≤j∧j<2 ^ 62)∧R (Itr i (j-i).toNat) H1
theorem pi_range1{a:Expr}{ta:TA}{p pos:Pos}(hg:Gl X "range")(hm:X.mg "range"=none)(ha:PA X [a] ta)(hs:starEach [a] X.env=[(false,eval a X.env)]:=by rfl):PI X tg (.Call (.Name "range" p) [a] [] pos) (iRng1 ta):=by
 intro pins s σ H R I h
 refine Call_ (ld_blt I hg hm boot_range (PyProof.Rows.callWith_type1 (thn (ha pos pins s σ H _ I h) fun us s1 ⟨vs,H1,I1,r1,q1⟩=> ?_) hs rfl))
 obtain⟨j,e,q1,q2,q⟩:=q1
 subst e
 cases r1 with
 |cons r rr=>
  cases rr
  obtain⟨t,rfl⟩:=r
  exact call_range_1 (range_it I1 (by omega) (by omega) q1 q2 (by simpa using q))
theorem pi_range2{a b:Expr}{ta:TA}{p pos:Pos}(hg:Gl X "range")(hm:X.mg "range"=none)(ha:PA X [a,b] ta)(hs:starEach [a,b] X.env=[(false,eval a X.env),(false,eval b X.env)]:=by rfl)(hs2:starEach [b] X.env=[(false,eval b X.env)]:=by rfl):
 PI X tg (.Call (.Name "range" p) [a,b] [] pos) (iRng2 ta):=by
 intro pins s σ H R I h
 refine Call_ (ld_blt I hg hm boot_range (PyProof.Rows.callWith_type1 (thn (ha pos pins s σ H _ I h) fun us s1 ⟨vs,H1,I1,r1,q1⟩=> ?_) (by rw [hs,hs2]) (by rw [hs2];rfl)))
 obtain⟨i,j,e,⟨q1,q2,q3,q4⟩,q⟩:=q1
 subst e
 cases r1 with
 |cons r rr=>
  cases rr with
  |cons r' rr=>
   cases rr
   obtain⟨t,rfl⟩:=r
   obtain⟨t',rfl⟩:=r'
   exact call_range_2 (range_it I1 q1 q2 q3 q4 q)
noncomputable def tFor(wi:TI)(g:TG)(tb:TS):TS:=fun D σ H=>wi σ H fun J H1=>∃W:Nat→Nat→St→Hp→Prop,(∃m,W 0 m σ H1)∧∀i m σ H,W i m σ H→
 (J.stop i H∧D.nx σ H)∨(J.go i H∧∃N:St→Hp→Prop,(∀σ' H',N σ' H'→∃m',m'<m∧W (i+1) m' σ' H')∧∀x H',J.yld i H x H'→g x σ H' fun σ2 H2=>tb {D with nx:=N,ct:=N,bk:=D.nx} σ2 H2)
noncomputable def pinsAt(fp:List Addr)(h:Heap):List (Addr×Obj):=fp.filterMap fun b=>(h.get? b).map fun o=>(b,o)
theorem mem_pinsAt{fp:List Addr}{h:Heap}{b:Addr}{o:Obj}(hb:b∈fp)(e:h.get? b=some o):(b,o)∈pinsAt fp h:=List.mem_filterMap.mpr ⟨b,hb,by rw [e];rfl⟩
theorem of_pinsAt{fp:List Addr}{h:Heap}{p:Addr×Obj}(hp:p∈pinsAt fp h):p.1∈fp∧h.get? p.1=some p.2:=by
 obtain⟨b,hb,e⟩:=List.mem_filterMap.mp hp
 cases q:h.get? b with
 |none=>rw [q]at e;cases e
 |some o=>
  rw [q]at e
  have e':(b,o)=p:=Option.some.inj e
  subst e'
  exact⟨hb,q⟩
theorem Inv.pinned{pins:List (Addr×Obj)}{σ:St}{H:Hp}{s:Shared}{fp:List Addr}(I:Inv X pins σ H s)(hf:∀b∈fp,FpOk X pins H b)(ho:∀b∈fp,∃o,s.heap.get? b=some o∧∀v,o.data≠.cell v):Inv X (pins++pinsAt fp s.heap) σ H s:=
 I.pins_of fun p hp=>(List.mem_append.mp hp).elim (fun z=>I.pin p (List.mem_append_right _ z)) fun z=>by
   obtain⟨hb,e⟩:=of_pinsAt z
   obtain⟨f0,f1,f2,_⟩:=hf p.1 hb
   obtain⟨o,e',d⟩:=ho p.1 hb
   rw [e]at e';cases e'
   exact⟨e,f0,f1,f2,d⟩
theorem Inv.unpinned{pins pl:List (Addr×Obj)}{σ:St}{H:Hp}{s:Shared}(I:Inv X (pins++pl) σ H s):Inv X pins σ H s:=I.pins_of fun p hp=>I.pin p (List.mem_append_right _ (List.mem_append_left _ hp))
theorem ps_for{iter:Expr}{body:List Stmt}{wi:TI}{g:TG}{tb:TS}{pos:Pos}(hp:PassesOwn (model X.prog X.w) X.A X.env X.xe)(hc:X.calm=true)(hi:PI X tg iter wi)(hg:PG X tg g)(hb:PSs X body tb)
 (hs:∀x,foldedSetIterable iter X.env x=pure x:=by intro _;rfl):PS X (.For tg iter body [] pos) (tFor wi g tb):=by
 intro pins s σ H D I h
 refine wpAny_For (thn (hi pins s σ H _ I h) fun v s1 h1=>thn h1 fun itv s2 h2=> ?_) hs
 obtain⟨it,fp,tn,J,H2,e,I2,T,st2,f2,W,⟨m0,w0⟩,turn⟩:=h2
 subst e
 have stat:∀ {H':Hp},(∀b∈fp,H' b=none)→∀b∈fp,FpOk X pins H' b:=fun hn b hb=>⟨hn b hb,(f2 b hb).2⟩
 refine codeAny_forLoop_any (fun n s'=>∃i σ' H',Inv X pins σ' H' s'∧tn i s'.heap∧(∀b∈fp,H' b=none)∧W i n σ' H') ?_ m0 ⟨0,σ,H2,I2,st2,fun b hb=>(f2 b hb).1,w0⟩
 rintro n s3 ⟨i,σ3,H3,I3,st3,fr3,w3⟩
 rcases turn i n σ3 H3 w3 with⟨stop,qn⟩|⟨go,N,hN,step⟩
 ·refine wpAny_passesOwn hp (thn (T.done X rfl rfl rfl hc i pins s3 σ3 H3 X.xe I3 (stat fr3) st3 stop) fun r s4 ⟨hr,I4⟩=> ?_)
  subst hr
  exact wpAny_execs_nil ⟨σ3,H3,I4,qn⟩
 ·refine wpAny_passesOwn hp (thn (T.item X rfl rfl rfl hc i pins s3 σ3 H3 X.xe I3 (stat fr3) st3 go) fun r s4 ⟨u,hr,h4⟩=> ?_)
  subst hr
  refine wpAny_passesOwn hp (thn h4 fun _ s5 ⟨x,H5,I5,r5,y5,st5,fr5⟩=> ?_)
  have I5':=I5.pinned (stat fr5) (T.obj _ _ st5)
  refine wpAny_passesOwn hp (thn (hg _ s5 σ3 H5 x u _ I5' r5 (step x H5 y5)) fun _ s6 ⟨σ6,H6,I6,q6⟩=> ?_)
  refine wpAny_passesOwn hp (thn (hb _ s6 σ6 H6 _ I6 q6) fun f s7 q7=> ?_)
  have again:∀ {σ7:St} {H7:Hp},Inv X (pins++pinsAt fp s5.heap) σ7 H7 s7→N σ7 H7→∃m,m<n∧∃i σ' H',Inv X pins σ' H' s7∧tn i s7.heap∧(∀b∈fp,H' b=none)∧W i m σ' H':=fun {σ7 H7} I7 n7=>by
   obtain⟨m',hm,w7⟩:=hN σ7 H7 n7
   refine⟨m',hm,i+1,σ7,H7,I7.unpinned,T.keep _ _ _ st5 fun b hb o e=>(I7.pin (b,o) (List.mem_append_right _ (List.mem_append_right _ (mem_pinsAt hb e)))).1,fun b hb=> ?_,w7⟩
   obtain⟨o,e,d⟩:=T.obj _ _ st5 b hb
   exact(I7.pin (b,o) (List.mem_append_right _ (List.mem_append_right _ (mem_pinsAt hb e)))).2.1
  cases f with
  |next=>obtain⟨σ7,H7,I7,n7⟩:=q7;exact again I7 n7
  |cont=>obtain⟨σ7,H7,I7,n7⟩:=q7;exact again I7 n7
  |brk=>obtain⟨σ7,H7,I7,q7⟩:=q7;exact⟨σ7,H7,I7.unpinned,q7⟩
  |ret v=>obtain⟨x7,σ7,H7,I7,r7,q7⟩:=q7;exact⟨x7,σ7,H7,I7.unpinned,r7,q7⟩
end
end L2
namespace L2
open PySem PySem.Spec PyProof.Rows
noncomputable abbrev R2:=V→V→Hp→VK→Prop
noncomputable def OpR(X:Cx)(f:Value→Value→Sem Value)(r:R2):Prop:=
 ∀(pins:List (Addr×Obj)) (s:Shared) (σ:St) (H:Hp) (x y:V) (v u:Value) (Q:VK),Inv X pins σ H s→RelV x v→RelV y u→r x y H Q→
  wpAny (model X.prog X.w) X.A (f v u) (EP X pins σ Q) X.xe s
noncomputable def UnR(X:Cx)(f:Value→Sem Value)(r:V→Hp→VK→Prop):Prop:=
 ∀(pins:List (Addr×Obj)) (s:Shared) (σ:St) (H:Hp) (x:V) (v:Value) (Q:VK),Inv X pins σ H s→RelV x v→r x H Q→
  wpAny (model X.prog X.w) X.A (f v) (EP X pins σ Q) X.xe s
noncomputable def CallR(X:Cx)(f:Value)(r:List V→Hp→VK→Prop):Prop:=
 ∀(pins:List (Addr×Obj)) (s:Shared) (σ:St) (H:Hp) (xs:List V) (us:List Value) (Q:VK),Inv X pins σ H s→Vals xs us→r xs H Q→
  wpAny (model X.prog X.w) X.A (call f us) (EP X pins σ Q) X.xe s
noncomputable def TruR(X:Cx)(r:V→Hp→(Bool→Hp→Prop)→Prop):Prop:=
 ∀(pins:List (Addr×Obj)) (s:Shared) (σ:St) (H:Hp) (x:V) (v:Value) (Q:Bool→Hp→Prop),Inv X pins σ H s→RelV x v→r x H Q→
  wpAny (model X.prog X.w) X.A (truthy v) (TP X pins σ Q) X.xe s
noncomputable def tOp(r:R2)(ta tb:TE):TE:=fun σ H Q=>ta σ H fun x H1=>tb σ H1 fun y H2=>r x y H2 Q
noncomputable def tUn(r:V→Hp→VK→Prop)(ta:TE):TE:=fun σ H Q=>ta σ H fun x H1=>r x H1 Q
noncomputable def rI(C:Int→Int→Prop)(g:Int→Int→V):R2:=fun x y H Q=>∃i j,x=.int i∧y=.int j∧C i j∧Q (g i j) H
noncomputable def rI0(g:Int→Int→V):R2:=fun x y H Q=>∃i j,x=.int i∧y=.int j∧Q (g i j) H
noncomputable def rU(g:Int→V):V→Hp→VK→Prop:=fun x H Q=>∃i,x=.int i∧Q (g i) H
section
variable{X:Cx}{a b c:Expr}{ta tb tc:TE}{pos:Pos}
theorem binT(ha:PE X a ta)(hb:PE X b tb){pins:List (Addr×Obj)}{s:Shared}{σ:St}{H:Hp}{R:V→V→Hp→Prop}(I:Inv X pins σ H s)
 (h:ta σ H fun x H1=>tb σ H1 fun y H2=>R x y H2){Q:Value→Shared→Prop}{f:Value→Value→Sem Value}
 (hf:∀v u s2 x y H2,Inv X pins σ H2 s2→RelV x v→RelV y u→R x y H2→wpAny (model X.prog X.w) X.A (f v u) Q X.xe s2):
 wpAny (model X.prog X.w) X.A (eval a X.env) (fun v s₁=>wpAny (model X.prog X.w) X.A (eval b X.env) (fun u s₂=>wpAny (model X.prog X.w) X.A (f v u) Q X.xe s₂) X.xe s₁) X.xe s:=by
 refine thn (ha pins s σ H _ I h) fun v s1 ⟨x,H1,I1,r1,q1⟩=> ?_
 refine thn (hb pins s1 σ H1 _ I1 q1) fun u s2 ⟨y,H2,I2,r2,q2⟩=> ?_
 exact hf v u s2 x y H2 I2 r1 r2 q2
theorem pe_op{op:Operator}{r:R2}(ho:OpR X (binaryOp op) r)(ha:PE X a ta)(hb:PE X b tb):PE X (.BinOp a op b pos) (tOp r ta tb):=by
 intro pins s σ H Q I h
 exact wpAny_BinOp (binT ha hb I h fun v u s2 x y H2 I2 rx ry q=>ho pins s2 σ H2 x y v u Q I2 rx ry q)
theorem pe_un{op:UnaryOp}{r:V→Hp→VK→Prop}(ho:UnR X (unaryOp op) r)(ha:PE X a ta):PE X (.UnaryOp op a pos) (tUn r ta):=by
 intro pins s σ H Q I h
 exact UnaryOp_ (thn (ha pins s σ H _ I h) fun v s1 ⟨x,H1,I1,r1,q1⟩=>ho pins s1 σ H1 x v Q I1 r1 q1)
theorem opI{f:Value→Value→Sem Value}{C:Int→Int→Prop}{g:Int→Int→Int}
 (rule:∀(i j:Int) (t u:Tok) (s:Shared) (Q:Value→Shared→Prop) (E:Value→Shared→Prop),C i j→Q (.int (g i j) s.toks) {s with toks:=s.toks+1}→wpAny (model X.prog X.w) X.A (f (.int i t) (.int j u)) Q E s):
 OpR X f (rI C fun i j=> .int (g i j)):=by
 intro pins s σ H x y v u Q I rx ry h
 obtain⟨i,j,rfl,rfl,hc,q⟩:=h
 obtain⟨t,rfl⟩:=rx
 obtain⟨t',rfl⟩:=ry
 exact rule i j t t' s _ _ hc ⟨.int (g i j),H,I.tok _,⟨_,rfl⟩,q⟩
theorem opI0{f:Value→Value→Sem Value}{g:Int→Int→Int}
 (rule:∀(i j:Int) (t u:Tok) (s:Shared) (Q:Value→Shared→Prop) (E:Value→Shared→Prop),Q (.int (g i j) s.toks) {s with toks:=s.toks+1}→wpAny (model X.prog X.w) X.A (f (.int i t) (.int j u)) Q E s):
 OpR X f (rI0 fun i j=> .int (g i j)):=by
 intro pins s σ H x y v u Q I rx ry h
 obtain⟨i,j,rfl,rfl,q⟩:=h
 obtain⟨t,rfl⟩:=rx
 obtain⟨t',rfl⟩:=ry
 exact rule i j t t' s _ _ ⟨.int (g i j),H,I.tok _,⟨_,rfl⟩,q⟩
theorem opB0{f:Value→Value→Sem Value}{g:Int→Int→Bool}
 (rule:∀(i j:Int) (t u:Tok) (s:Shared) (Q:Value→Shared→Prop) (E:Value→Shared→Prop),Q (.bool (g i j)) s→wpAny (model X.prog X.w) X.A (f (.int i t) (.int j u)) Q E s):
 OpR X f (rI0 fun i j=> .bl (g i j)):=by
 intro pins s σ H x y v u Q I rx ry h
 obtain⟨i,j,rfl,rfl,q⟩:=h
 obtain⟨t,rfl⟩:=rx
 obtain⟨t',rfl⟩:=ry
 exact rule i j t t' s _ _ ⟨.bl (g i j),H,I,rfl,q⟩
noncomputable def CDiv(i j:Int):Prop:=0<j∧j<1073741824
noncomputable def CDivN(i j:Int):Prop:=j≠0∧j.natAbs<1073741824
noncomputable def CPow(i j:Int):Prop:=0≤j∧j≤1000000∧i.natAbs<2 ^ 64
noncomputable def CMul(i j:Int):Prop:=(-(2 ^ 64)<i∧i<2 ^ 64)∨(-(2 ^ 64)<j∧j<2 ^ 64)
theorem CMul.ok{i j:Int}(h:CMul i j):IntMulOk i j:=by
 rcases h with⟨h1,h2⟩|⟨h1,h2⟩
 ·exact .of_left (intBits_le_64 h1 h2)
 ·exact .of_right (intBits_le_64 h1 h2)
theorem two_pow_nn(k:Nat):(0:Int)≤2 ^ k:=by
 rw [two_pow_cast]
 exact Int.natCast_nonneg _
theorem op_add:OpR X (binaryOp .Add) (rI0 fun i j=> .int (i+j)):=opI0 fun _ _ _ _ _ _ _ q=>add_int q
theorem op_sub:OpR X (binaryOp .Sub) (rI0 fun i j=> .int (i-j)):=opI0 fun _ _ _ _ _ _ _ q=>sub_int q
theorem op_mul:OpR X (binaryOp .Mult) (rI CMul fun i j=> .int (i*j)):=opI fun _ _ _ _ _ _ _ hc q=>mul_int q hc.ok
theorem op_fdiv:OpR X (binaryOp .FloorDiv) (rI CDiv fun i j=> .int (i/j)):=opI fun i j _ _ _ _ _ hc q=>by
 have h1:(0:Int)<j:=hc.1
 have h2:j<1073741824:=hc.2
 exact floordiv_int (by omega) (by rw [Int.fdiv_eq_ediv_of_nonneg i (by omega)];exact q) (.inl (PyProof.noPylong_small (by omega)))
theorem op_mod:OpR X (binaryOp .Mod) (rI (fun _ j=>0<j) fun i j=> .int (i % j)):=opI fun i j _ _ _ _ _ hc q=>by
 have h1:(0:Int)<j:=hc
 exact mod_int' (by omega) (by rw [Int.fmod_eq_emod_of_nonneg i (by omega)];exact q)
theorem op_pow:OpR X (binaryOp .Pow) (rI CPow fun i j=> .int (i ^ j.toNat)):=opI fun _ _ _ _ _ _ _ hc q=>pow_int_small hc.1 hc.2.1 hc.2.2 q
theorem op_shl:OpR X (binaryOp .LShift) (rI CPow fun i j=> .int (i*2 ^ j.toNat)):=opI fun _ _ _ _ _ _ _ hc q=>lshift_int_small hc.1 hc.2.1 hc.2.2 q
theorem op_shr:OpR X (binaryOp .RShift) (rI (fun _ j=>0≤j) fun i j=> .int (i/2 ^ j.toNat)):=opI fun i j _ _ _ _ _ hc q=>
 rshift_int hc (by rw [Int.fdiv_eq_ediv_of_nonneg i (two_pow_nn _)];exact q)
theorem op_and:OpR X (binaryOp .BitAnd) (rI0 fun i j=> .int (Builtin.bitAnd i j)):=opI0 fun _ _ _ _ _ _ _ q=>and_int q
theorem unI{f:Value→Sem Value}{g:Int→Int}
 (rule:∀(i:Int) (t:Tok) (s:Shared) (Q:Value→Shared→Prop) (E:Value→Shared→Prop),Q (.int (g i) s.toks) {s with toks:=s.toks+1}→wpAny (model X.prog X.w) X.A (f (.int i t)) Q E s):
 UnR X f (rU fun i=> .int (g i)):=by
 intro pins s σ H x v Q I rx h
 obtain⟨i,rfl,q⟩:=h
 obtain⟨t,rfl⟩:=rx
 exact rule i t s _ _ ⟨.int (g i),H,I.tok _,⟨_,rfl⟩,q⟩
theorem un_neg:UnR X (unaryOp .USub) (rU fun i=> .int (-i)):=unI fun _ _ _ _ _ q=>neg_int q
end
noncomputable def scal:V→V→Bool
 | .non,.non=>true| .non,.int _=>true| .int _,.non=>true| .non,.bl _=>true| .bl _,.non=>true| .non,.str _=>true| .str _,.non=>true
 | .int _,.int _=>true| .bl _,.bl _=>true| .str _,.str _=>true| .byt _,.byt _=>true
 | .int _,.str _=>true| .str _,.int _=>true| .bl _,.str _=>true| .str _,.bl _=>true
 |_,_=>false
noncomputable def rEq:R2:=fun x y H Q=>scal x y=true∧Q (.bl (decide (x=y))) H
noncomputable def rNe:R2:=fun x y H Q=>scal x y=true∧Q (.bl (!decide (x=y))) H
section
variable{X:Cx}{a b c:Expr}{ta tb tc:TE}{pos:Pos}
theorem op_lt:OpR X (compareOp .Lt) (rI0 fun i j=> .bl (decide (i<j))):=opB0 fun _ _ _ _ _ _ _ q=>lt_int q
theorem op_le:OpR X (compareOp .LtE) (rI0 fun i j=> .bl (decide (i≤j))):=opB0 fun _ _ _ _ _ _ _ q=>le_int q
theorem op_gt:OpR X (compareOp .Gt) (rI0 fun i j=> .bl (decide (j<i))):=opB0 fun _ _ _ _ _ _ _ q=>gt_int q
theorem op_ge:OpR X (compareOp .GtE) (rI0 fun i j=> .bl (decide (j≤i))):=opB0 fun _ _ _ _ _ _ _ q=>ge_int q
noncomputable def isObj:HO→Bool
 | .lst _=>true
 | .ins _ _ _=>true
 |_=>false
theorem pe_cmpR{op:CmpOp}{r:R2}(ho:OpR X (compareOp op) r)(ha:PE X a ta)(hb:PE X b tb)(hm:behindInMarks op b=false):PE X (.Compare a [op] [b] pos) (tOp r ta tb):=by
 intro pins s σ H Q I h
 exact wpAny_Compare1 (binT ha hb I h fun v u s2 x y H2 I2 rx ry q=>ho pins s2 σ H2 x y v u Q I2 rx ry q) hm
noncomputable def tTest(t:TE):TT:=fun σ H Q=>t σ H fun x H'=>∃k,x=.bl k∧Q k H'
theorem pt_cmpR{op:CmpOp}{r:R2}(ho:OpR X (compareOp op) r)(ha:PE X a ta)(hb:PE X b tb)(hm:behindInMarks op b=false):PT X (.Compare a [op] [b] pos) (tTest (tOp r ta tb)):=by
 intro pins s σ H Q I h
 refine wpAny_isTrue_Compare1 (thn (ha pins s σ H _ I h) fun v s1 ⟨x,H1,I1,r1,q1⟩=>thn (hb pins s1 σ H1 _ I1 q1) fun u s2 ⟨y,H2,I2,r2,q2⟩=>
  thn (ho pins s2 σ H2 x y v u _ I2 r1 r2 q2) fun c s3 ⟨z,H3,I3,r3,k,e,q3⟩=> ?_) hm
 subst e
 cases r3
 exact wpAny_truthy_bool ⟨H3,I3,q3⟩
noncomputable def tChain(r r':R2)(ta tb tc:TE):TE:=fun σ H Q=>ta σ H fun x H1=>tb σ H1 fun y H2=>r x y H2 fun z H3=>∃k,z=.bl k∧
 (if k=true then tc σ H3 fun w' H4=>r' y w' H4 Q else Q (.bl false) H3)
theorem pe_chain{op op':CmpOp}{r r':R2}(ho:OpR X (compareOp op) r)(ho':OpR X (compareOp op') r')(ha:PE X a ta)(hb:PE X b tb)(hc:PE X c tc)
 (hm:lastMarks [op,op'] [b,c]=false:=by with_unfolding_all rfl):PE X (.Compare a [op,op'] [b,c] pos) (tChain r r' ta tb tc):=by
 intro pins s σ H Q I h
 refine Compare_chain (thn (ha pins s σ H _ I h) fun v s1 ⟨x,H1,I1,r1,q1⟩=>chain_link (thn (hb pins s1 σ H1 _ I1 q1) fun u s2 ⟨y,H2,I2,r2,q2⟩=>
  thn (ho pins s2 σ H2 x y v u _ I2 r1 r2 q2) fun d s3 ⟨z,H3,I3,r3,k,e,q3⟩=> ?_)) hm
 subst e
 cases r3
 refine wpAny_truthy_bool ?_
 cases k with
 |false=>exact ite_ff ⟨.bl false,H3,I3,rfl,q3⟩
 |true=>exact ite_tt (chain_last (thn (hc pins s3 σ H3 _ I3 q3) fun w' s4 ⟨z',H4,I4,r4,q4⟩=>ho' pins s4 σ H4 y z' u w' Q I4 r2 r4 q4))
theorem pt_chain{op op':CmpOp}{r r':R2}(ho:OpR X (compareOp op) r)(ho':OpR X (compareOp op') r')(ha:PE X a ta)(hb:PE X b tb)(hc:PE X c tc)
 (hm:lastMarks [op,op'] [b,c]=false:=by with_unfolding_all rfl):PT X (.Compare a [op,op'] [b,c] pos) (tTest (tChain r r' ta tb tc)):=by
 intro pins s σ H Q I h
 refine isTrue_chain (thn (ha pins s σ H _ I h) fun v s1 ⟨x,H1,I1,r1,q1⟩=>test_link (thn (hb pins s1 σ H1 _ I1 q1) fun u s2 ⟨y,H2,I2,r2,q2⟩=>
  thn (ho pins s2 σ H2 x y v u _ I2 r1 r2 q2) fun d s3 ⟨z,H3,I3,r3,k,e,q3⟩=> ?_)) hm
 subst e
 cases r3
 refine wpAny_truthy_bool ?_
 cases k with
 |false=>
  obtain⟨k',e',q'⟩:=q3
  cases e'
  exact ite_ff ⟨H3,I3,q'⟩
 |true=>
  refine ite_tt (test_last (thn (hc pins s3 σ H3 _ I3 q3) fun w' s4 ⟨z',H4,I4,r4,q4⟩=>thn (ho' pins s4 σ H4 y z' u w' _ I4 r2 r4 q4) fun d' s5 ⟨z2,H5,I5,r5,k2,e2,q5⟩=> ?_))
  subst e2
  cases r5
  exact wpAny_truthy_bool ⟨H5,I5,q5⟩
noncomputable def TruV(K:PySem.W.Frag)(x:V)(H:Hp)(k:Bool):Prop:=
 match x with
 | .non=>k=false
 | .bl b=>k=b
 | .int i=>k=(i !=0)
 | .str y=>y.length≤sizeLine∧k=((y.length:Int) !=0)
 | .byt y=>y.size≤sizeLine∧k=((y.size:Int) !=0)
 | .ref p=>(∃xs,SqL K H p xs∧k= !xs.isEmpty)∨(∃xs,SqT K H p xs∧k= !xs.isEmpty)∨∃kvs,H p=some (.dK kvs)∧k= !kvs.isEmpty
 |_=>False
theorem isEmpty_kv{κ:Type}{kvs:List (κ×V)}{vs:List (κ×Value)}(r:KV kvs vs):(!vs.isEmpty)= !kvs.isEmpty:=by
 cases r<;>rfl
theorem isEmpty_of{xs:List V}{its:List Value}(r:Vals xs its):(!its.toArray.isEmpty)= !xs.isEmpty:=by
 cases r<;>simp
theorem line63:(sizeLine:Nat)<2 ^ 63:=by rw [sizeLine_eq];decide
theorem tru_ok:TruR X (fun x H Q=>∃k,TruV X.K x H k∧Q k H):=by
 intro pins s σ H x v Q I rx h
 obtain⟨k,e,q⟩:=h
 have hl:=line63
 have hs:sizeLine=16777216:=sizeLine_eq
 cases x with
 |non=>
  cases rx
  have e':k=false:=e
  subst e'
  exact truthy_none ⟨H,I,q⟩
 |bl b=>
  cases rx
  have e':k=b:=e
  subst e'
  exact wpAny_truthy_bool ⟨H,I,q⟩
 |int i=>
  obtain⟨t,rfl⟩:=rx
  have e':k=(i !=0):=e
  subst e'
  exact PySem.P.truthy_int ⟨H,I,q⟩
 |str y=>
  obtain⟨t,rfl⟩:=rx
  obtain⟨hy,e'⟩:y.length≤sizeLine∧k=((y.length:Int) !=0):=e
  subst e'
  exact PySem.P.truthy_str (by omega) ⟨H,I.tok _,q⟩
 |byt y=>
  obtain⟨t,rfl⟩:=rx
  obtain⟨hy,e'⟩:y.size≤sizeLine∧k=((y.size:Int) !=0):=e
  subst e'
  exact PySem.W.truthy_bytes (by omega) ⟨H,I.tok _,q⟩
 |ref p=>
  cases rx
  have e':(∃xs,SqL X.K H p xs∧k= !xs.isEmpty)∨(∃xs,SqT X.K H p xs∧k= !xs.isEmpty)∨∃kvs,H p=some (.dK kvs)∧k= !kvs.isEmpty:=e
  rcases e' with⟨xs,hx,e'⟩|⟨xs,hx,e'⟩|⟨kvs,hx,e'⟩
  ·subst e'
   obtain⟨its,r,pl,hz⟩:=I.list hx
   have hlen:=r.length
   exact wpAny_truthy_list pl.isList (by simp only [List.size_toArray];omega) ⟨H,I.tok _,by rw [isEmpty_of r];exact q⟩
  ·subst e'
   obtain⟨its,r,pl,hz⟩:=I.tuple hx
   have hlen:=r.length
   exact truthy_tuple pl (by simp only [List.size_toArray];omega) ⟨H,I.tok _,by rw [isEmpty_of r];exact q⟩
  ·subst e'
   obtain⟨hz,hS,vs,r,m⟩:kvs.length≤sizeLine∧(p==sysModules)=false∧∃vs,KV kvs vs∧s.heap.DictOf (mixKind X.prog X.w) p vs:=I.hok p _ hx
   have hlen:kvs.length=vs.length:=Paired.length r
   exact wpAny_truthy_dict hS m (by omega) ⟨H,I.tok _,by rw [isEmpty_kv r];exact q⟩
 |_=>exact(show False from e).elim
theorem pt_truth(ha:PE X a ta)(he:∀whole,isTrue a X.env whole=(do let v←whole;standAt a.pos;holding [v] (truthy v))):
 PT X a (fun σ H Q=>ta σ H fun x H'=>∃k,TruV X.K x H' k∧Q k H'):=by
 intro pins s σ H Q I h
 exact isTrue_plain (thn (ha pins s σ H _ I h) fun v s1 ⟨x,H1,I1,r1,q1⟩=>tru_ok pins s1 σ H1 x v Q I1 r1 q1) (he _)
theorem op_add_str:OpR X (binaryOp .Add) (fun x y H Q=>∃i j,x=.str i∧y=.str j∧i.length+j.length≤sizeLine∧Q (.str (i++j)) H):=by
 intro pins s σ H x y v u Q I rx ry h
 obtain⟨i,j,rfl,rfl,hz,q⟩:=h
 obtain⟨t,rfl⟩:=rx
 obtain⟨t',rfl⟩:=ry
 exact add_str (fun t' tk=>⟨.str (i++j),H,I.tok _,⟨_,rfl⟩,q⟩) hz
noncomputable def PlainIxT(b:Expr):Prop:=∀o i,subscripted b false o i=operate [o,i] (getItem o i)
theorem vals1{x:V}{us:List Value}(r:Vals [x] us):∃u,us=[u]∧RelV x u:=by
 cases r with
 |cons r1 r2=>cases r2;exact⟨_,rfl,r1⟩
theorem vals2{x y:V}{us:List Value}(r:Vals [x,y] us):∃u w',us=[u,w']∧RelV x u∧RelV y w':=by
 cases r with
 |cons r1 r2=>
  cases r2 with
  |cons r3 r4=>cases r4;exact⟨_,_,rfl,r1,r3⟩
theorem call_max2(hc:X.calm=true):CallR X (.builtin "max") (fun xs H Q=>∃i j,xs=[.int i,.int j]∧Q (.int (if j>i then j else i)) H):=by
 intro pins s σ H xs us Q I r h
 obtain⟨i,j,rfl,q⟩:=h
 obtain⟨u,w',rfl,⟨t,rfl⟩,⟨t',rfl⟩⟩:=vals2 r
 refine max_two_ints (I.ok.hd hc) fun h' tk k=>⟨_,H,I.kept k,?_,q⟩
 by_cases hj:j>i
 ·rw [if_pos hj,if_pos hj];exact⟨_,rfl⟩
 ·rw [if_neg hj,if_neg hj];exact⟨_,rfl⟩
theorem call_min2(hc:X.calm=true):CallR X (.builtin "min") (fun xs H Q=>∃i j,xs=[.int i,.int j]∧Q (.int (if j<i then j else i)) H):=by
 intro pins s σ H xs us Q I r h
 obtain⟨i,j,rfl,q⟩:=h
 obtain⟨u,w',rfl,⟨t,rfl⟩,⟨t',rfl⟩⟩:=vals2 r
 refine min_two_ints (I.ok.hd hc) fun h' tk k=>⟨_,H,I.kept k,?_,q⟩
 by_cases hj:j<i
 ·rw [if_pos hj,if_pos hj];exact⟨_,rfl⟩
 ·rw [if_neg hj,if_neg hj];exact⟨_,rfl⟩
noncomputable def LenV(K:PySem.W.Frag)(x:V)(H:Hp)(n:Nat):Prop:=
 match x with
 | .str y=>y.length≤sizeLine∧n=y.length
 | .byt y=>y.size≤sizeLine∧n=y.size
 | .ref p=>(∃xs,SqL K H p xs∧n=xs.length)∨∃xs,SqT K H p xs∧n=xs.length
 |_=>False
end
end L2
namespace L2
open PySem PySem.Spec PyProof.Rows
structure ObjM(h:Heap)(x dx C:Addr)(mA:Str→Option Value):Prop where
 obj:h.get? x=some (PySem.W.instObj C dx)
 ns:h.Ns1 dx mA
 ne:dx≠x
theorem lookIn_ns{h:Heap}{dx:Addr}{mA:Str→Option Value}(n:h.Ns1 dx mA):∃od,h.get? dx=some od∧∀name,PySem.W.lookIn name od=some (mA name):=by
 obtain⟨o,es,ep,ho,hd,hk,_,hm⟩:=n
 refine⟨o,ho,fun name=> ?_⟩
 have e:=hm name
 unfold nsFind findBy at e
 rw [←Array.find?_toList]at e
 unfold PySem.W.lookIn
 rw [hd]
 dsimp only
 split
 ·rename_i y q
  rw [q]at e
  exact congrArg some e
 ·rename_i q
  rw [q]at e
  have a:es.toList.any (·.refKey)=false:=by
   rw [List.any_eq_false]
   intro y hy
   obtain⟨z,t,hkey⟩:=hk y (Array.mem_toList_iff.mp hy)
   simp [DictEntry.refKey,hkey]
  have a':¬es.toList.any (·.refKey)=true:=by rw [a];exact Bool.false_ne_true
  rw [if_neg a']
  exact congrArg some e
theorem ObjM.look{h:Heap}{x dx C:Addr}{mA:Str→Option Value}(I:ObjM h x dx C mA):∃od,PySem.W.InstAt h x (PySem.W.instObj C dx) C (some od)∧∀name,PySem.W.lookIn name od=some (mA name):=
 let ⟨od,ho,hl⟩:=lookIn_ns I.ns
 ⟨od,⟨I.obj,rfl,rfl,ho⟩,hl⟩
section
variable{prog:Program}{w:World}{A:Around}{E:Value→Shared→Prop}{s:Shared}{K:PySem.W.Frag}{x dx C f:Addr}{mA:Str→Option Value}{name:Str}{v:Value}
theorem get_map{expr:Bool}{Q:Value→Shared→Prop}(X:K.In s.heap)(I:ObjM s.heap x dx C mA)(hg:PySem.W.plainGet K C name=true)(hh:PySem.W.hasDictIn K C=true)
 (ha:PySem.W.findIn K (.ref C) name=some none)(hv:mA name=some v)(hv':PySem.W.handedIn v=true)(h:Q v {s with toks:=s.toks+1}):
 wpAny (model prog w) A (getAttr (.ref x) name expr) Q E s:=by
 obtain⟨od,J,hl⟩:=I.look
 exact PySem.W.get_value X J (PySem.W.plainGet_of hg).1 (PySem.W.findObj_own hh ha rfl (by rw [hl,hv])) hv' h
theorem get_meth{pl:Sem Bool}{Q:Value×List Value→Shared→Prop}(X:K.In s.heap)(I:ObjM s.heap x dx C mA)(hg:PySem.W.plainGet K C name=true)
 (hf:PySem.W.findIn K (.ref C) name=some (some (.ref f)))(ht:PySem.W.isFn K (.ref f)=true)(hv:mA name=none)(h:Q (.ref f,[.ref x]) s):
 wpAny (model prog w) A (getMethod (.ref x) name pl) Q E s:=by
 obtain⟨od,J,hl⟩:=I.look
 exact PySem.W.method_fn X J (PySem.W.plainGet_of hg).1 (PySem.W.plainGet_of hg).2 hf (beq_iff_eq.mp ht) (by show(PySem.W.lookIn name od).map (·.isSome)=some false;rw [hl,hv];rfl) h
theorem set_map{ns:List Str}{Q:Unit→Shared→Prop}(X:K.In s.heap)(I:ObjM s.heap x dx C mA)
 (hs:PySem.W.findIn K (.ref C) "__setattr__"=some (some (.builtin "object.__setattr__")))(hp:PySem.W.plainOver K C=true)(ht:PySem.W.takerIn K C name=some none)(hh:PySem.W.hasDictIn K C=true)
 (hw:PySem.Within mA ns)(hsz:ns.length≤sizeLine)
 (h:∀h',ObjM h' x dx C (fun y=>if y=name then some v else mA y)→Heap.SameBut dx s.heap h'→Q () {s with heap:=h',toks:=s.toks+2}):
 wpAny (model prog w) A (setAttr (.ref x) name v) Q E s:=by
 obtain⟨od,J,hl⟩:=I.look
 refine PySem.W.set_plain X J hs (PySem.W.osa_open (s:= {s with toks:=s.toks+1}) (r:=none) X J hp ht fun b=> ?_)
 obtain⟨cd,hc,hd'⟩:=PySem.W.any_some hh
 have hx:s.heap.get? x=some ⟨.ref C,some dx,.plain, #[]⟩:=I.obj
 refine wpAny_bind (wpAny_pure (wpAny_bind (wpAny_bind (wpAny_loadPart hx (wpAny_bind (PySem.W.Looks.here (s:= {s with toks:=s.toks+1}) (PySem.W.looks_clsIn X hc) ?_))))))
 rw [hd']
 refine wpAny_pure (a:=some dx) (wpAny_bind (wpAny_pure (wpAny_bind ?_)))
 refine wpAny_nsSet1 (s:= {s with toks:=s.toks+1}) I.ns fun h' hn2 hs2=> ?_
 obtain⟨oD,esD,epD,hoD,hdD,hcD⟩:=hn2.count (PySem.Within.cons name v hw)
 refine wpAny_bind (wpAny_lookBehind hoD (by rw [hdD];exact pastItsLine_dict (Nat.le_trans hcD (by rw [List.length_cons];omega))) ?_)
 exact wpAny_pure (h _ ⟨(hs2.2 _ (Ne.symm I.ne)).trans I.obj,hn2,I.ne⟩ hs2)
theorem make_map{R:Result→Shared→Prop}{vs:List Value}{kw:List (Str×Value)}(X:K.In s.heap)(hm:PySem.W.makesIn K C=true)
 (hi:PySem.W.findIn K (.ref C) "__init__"=some (some (.ref f)))(hf:PySem.W.typeIn K (.ref f)=some (.type "function"))
 (h:codeAny (model prog w) (A.under (.builtin "type.__call__" ⟨.ref C::vs,kw⟩)) (.call (.ref f) ⟨.ref (s.heap.objs.size+1)::vs,kw⟩) (PySem.W.InitBack (s.heap.objs.size+1) R)
   {s with heap:=(s.heap.push PySem.W.emptyDict).push (PySem.W.instObj C s.heap.objs.size)}):
 codeAny (model prog w) A (.call (.ref C) ⟨vs,kw⟩) R s:=by
 obtain⟨hh,g,d,t,os⟩:=s
 exact PySem.W.make_core (PySem.W.makes_of X hm) (PySem.W.looks_findIn X hi) (fun self=>PySem.W.bind_fn X self hf) (.inl rfl) h
end
noncomputable def putF(f:Str)(v:V):List (Str×V)→List (Str×V)
 |[]=>[(f,v)]
 |(g,x)::r=>if g=f then(g,v)::r else(g,x)::putF f v r
theorem lookup_putF(f g:Str)(v:V):∀fs:List (Str×V),(putF f v fs).lookup g=if g=f then some v else fs.lookup g
 |[]=>by
  show List.lookup g [(f,v)]=_
  by_cases h:g=f
  ·have hb:(g==f)=true:=beq_iff_eq.mpr h
   simp only [List.lookup,hb,if_pos h]
  ·have hb:(g==f)=false:=beq_eq_false_iff_ne.mpr h
   simp only [List.lookup,hb,if_neg h]
 |(k,x)::r=>by
  have ih:=lookup_putF f g v r
  rw [show putF f v ((k,x)::r)=(if k=f then(k,v)::r else(k,x)::putF f v r)from rfl]
  by_cases hk:k=f
  ·rw [if_pos hk]
   by_cases h:g=k
   ·have hb:(g==k)=true:=beq_iff_eq.mpr h
    simp only [List.lookup,hb,if_pos (h.trans hk)]
   ·have hb:(g==k)=false:=beq_eq_false_iff_ne.mpr h
    simp only [List.lookup,hb,if_neg (fun e:g=f=>h (e.trans hk.symm))]
  ·rw [if_neg hk]
   by_cases h:g=k
   ·have hb:(g==k)=true:=beq_iff_eq.mpr h
    simp only [List.lookup,hb,if_neg (fun e:g=f=>hk (h.symm.trans e))]
   ·have hb:(g==k)=false:=beq_eq_false_iff_ne.mpr h
    simp only [List.lookup,hb]
    exact ih
theorem keys_putF(f:Str)(v:V):∀fs:List (Str×V),f∈(putF f v fs).map (·.1)∧∀g,g∈fs.map (·.1)→g∈(putF f v fs).map (·.1)
 |[]=>⟨by simp [putF],fun g h=>by simp at h⟩
 |(k,x)::r=>by
  obtain⟨i1,i2⟩:=keys_putF f v r
  rw [show putF f v ((k,x)::r)=(if k=f then(k,v)::r else(k,x)::putF f v r)from rfl]
  by_cases hk:k=f
  ·rw [if_pos hk]
   subst hk
   exact⟨by simp,fun g h=>by simpa using h⟩
  ·rw [if_neg hk]
   refine⟨?_,fun g h=> ?_⟩
   ·rw [List.map_cons]
    exact List.mem_cons_of_mem _ i1
   ·rw [List.map_cons]at h⊢
    rcases List.mem_cons.mp h with e|e
    ·exact List.mem_cons.mpr (.inl e)
    ·exact List.mem_cons_of_mem _ (i2 g e)
theorem length_putF(f:Str)(v:V):∀fs:List (Str×V),(putF f v fs).length≤fs.length+1
 |[]=>by simp [putF]
 |(k,x)::r=>by
  have ih:=length_putF f v r
  rw [show putF f v ((k,x)::r)=(if k=f then(k,v)::r else(k,x)::putF f v r)from rfl]
  by_cases hk:k=f
  ·rw [if_pos hk,List.length_cons,List.length_cons];omega
  ·rw [if_neg hk,List.length_cons,List.length_cons];omega
theorem RelO.some_of{v:V}{o:Option Value}(r:RelO (some v) o):∃u,o=some u∧RelV v u:=by
 cases o with
 |none=>exact(show False from r).elim
 |some u=>exact⟨u,rfl,r⟩
theorem RelO.none_of{o:Option Value}(r:RelO none o):o=none:=by
 cases o with
 |none=>rfl
 |some u=>exact(show False from r).elim
theorem handed_of{v:V}{u:Value}(r:RelV v u):PySem.W.handedIn u=true:=by
 cases v with
 |non=>cases (show u=Value.none from r);rfl
 |bl b=>cases (show u=Value.bool b from r);rfl
 |int i=>obtain⟨t,e⟩:=(show∃t,u=Value.int i t from r);cases e;rfl
 |str x=>obtain⟨t,e⟩:=(show∃t,u=Value.str x t from r);cases e;rfl
 |byt b=>obtain⟨t,e⟩:=(show∃t,u=Value.bytes b t from r);cases e;rfl
 |flt b=>obtain⟨t,e⟩:=(show∃t,u=Value.float b t from r);cases e;rfl
 |ref a=>cases (show u=Value.ref a from r);rfl
 |ty n=>cases (show u=Value.type n from r);rfl
section
variable{P:Program}{w:World}{H H':Hp}{h h':Heap}{a C dx:Addr}{fs fs':List (Str×V)}
theorem ins_get(hok:HOk P w H h)(e:H a=some (.ins C dx fs)):∃mA,ObjM h a dx C mA∧(∀f,RelO (fs.lookup f) (mA f))∧PySem.Within mA (fs.map (·.1))∧fs.length≤1000∧H dx=some (.own a):=by
 obtain⟨d,z,ne,ob,mA,n,r,q⟩:=(show ObjOk P w H h a (.ins C dx fs)from hok a _ e)
 exact⟨mA,⟨ob,n,ne⟩,r,q,z,d⟩
end
structure Cls(K:PySem.W.Frag)(C:Addr):Prop where
 pg:PySem.W.plainGet K C Str.empty=true
 hd:PySem.W.hasDictIn K C=true
 po:PySem.W.plainOver K C=true
 sa:PySem.W.findIn K (.ref C) "__setattr__"=some (some (.builtin "object.__setattr__"))
theorem Cls.get{K:PySem.W.Frag}{C:Addr}(c:Cls K C)(f:Str):PySem.W.plainGet K C f=true:=c.pg
noncomputable def NoAttr(K:PySem.W.Frag)(C:Addr)(f:Str):Prop:=PySem.W.findIn K (.ref C) f=some none
theorem NoAttr.taker{K:PySem.W.Frag}{C:Addr}{f:Str}(n:NoAttr K C f):PySem.W.takerIn K C f=some none:=by
 unfold PySem.W.takerIn
 rw [show PySem.W.findIn K (.ref C) f=some none from n]
 rfl
structure Con(K:PySem.W.Frag)(C:Addr)(f:Str)(v:V)(u:Value):Prop where
 at_:PySem.W.findIn K (.ref C) f=some (some u)
 rel:RelV v u
 get:PySem.W.specialIn K u "__get__"=some none
 cp:PySem.W.copiedNames.contains f=false
structure Meth(K:PySem.W.Frag)(C:Addr)(m:Str)(f:Addr):Prop where
 at_:PySem.W.findIn K (.ref C) m=some (some (.ref f))
 fn:PySem.W.isFn K (.ref f)=true
 kp:PySem.W.keepIn K (.ref f)=true
section
variable{X:Cx}{pins:List (Addr×Obj)}{σ:St}{H:Hp}{s:Shared}{a C dx:Addr}{fs:List (Str×V)}{f:Str}{v:V}{A:Around}{E:Value→Shared→Prop}
theorem getattr_ok{b:Bool}{Q:Value→Shared→Prop}(I:Inv X pins σ H s)(e:H a=some (.ins C dx fs))(c:Cls X.K C)(n:NoAttr X.K C f)(l:fs.lookup f=some v)
 (h:∀u s',Inv X pins σ H s'→RelV v u→Q u s'):wpAny (model X.prog X.w) A (getAttr (.ref a) f b) Q E s:=by
 obtain⟨mA,O,r,_,_,_⟩:=ins_get I.hok e
 obtain⟨u,hu,ru⟩:=RelO.some_of (v:=v) (o:=mA f) (by rw [←l];exact r f)
 exact get_map I.kIn O (c.get f) c.hd n hu (handed_of ru) (h u _ (I.tok _) ru)
theorem getmeth_ok{m:Str}{g:Addr}{pl:Sem Bool}{Q:Value×List Value→Shared→Prop}(I:Inv X pins σ H s)(e:H a=some (.ins C dx fs))(c:Cls X.K C)(k:Meth X.K C m g)(l:fs.lookup m=none)
 (h:Q (.ref g,[.ref a]) s):wpAny (model X.prog X.w) A (getMethod (.ref a) m pl) Q E s:=by
 obtain⟨mA,O,r,_,_,_⟩:=ins_get I.hok e
 have hn:mA m=none:=RelO.none_of (by rw [←l];exact r m)
 exact get_meth I.kIn O (c.get m) k.at_ k.fn hn h
theorem setattr_ok{y:V}{u:Value}{Q:Unit→Shared→Prop}(I:Inv X pins σ H s)(e:H a=some (.ins C dx fs))(c:Cls X.K C)(n:NoAttr X.K C f)(hl:fs.length<1000)(ry:RelV y u)
 (h:∀s',Inv X pins σ (upd H a (.ins C dx (putF f y fs))) s'→Q () s'):wpAny (model X.prog X.w) A (setAttr (.ref a) f u) Q E s:=by
 obtain⟨mA,O,r,wi,_,ho⟩:=ins_get I.hok e
 have hz:(fs.map (·.1)).length≤sizeLine:=by rw [List.length_map,sizeLine_eq];omega
 refine set_map I.kIn O c.sa c.po n.taker c.hd wi hz fun h' O' sb=>h _ ?_
 have hd:∃o,h'.get? dx=some o:=let ⟨o,_,_,e',_⟩:=O'.ns;⟨o,e'⟩
 refine I.write (x:=a) (e:=dx) (by rw [e];exact True.intro) (.inr ho) (fun b q hb z=>(sb.2 b hb).trans z) hd ?_
 refine⟨by rw [upd_ne O.ne];exact ho,?_,O.ne,O'.obj,_,O'.ns,fun g=> ?_,fun g hg=> ?_⟩
 ·have:=length_putF f y fs;omega
 ·show RelO ((putF f y fs).lookup g) (if g=f then some u else mA g)
  rw [lookup_putF]
  by_cases q:g=f
  ·rw [if_pos q,if_pos q];exact ry
  ·rw [if_neg q,if_neg q];exact r g
 ·by_cases q:g=f
  ·rw [q];exact(keys_putF f y fs).1
  ·refine(keys_putF f y fs).2 g (wi g fun z=>hg ?_)
   show(if g=f then some u else mA g)=none
   rw [if_neg q];exact z
theorem Inv.made(I:Inv X pins σ H s):Inv X pins σ (upd (upd H s.heap.objs.size (.own (s.heap.objs.size+1))) (s.heap.objs.size+1) (.ins C s.heap.objs.size []))
 {s with heap:=(s.heap.push PySem.W.emptyDict).push (PySem.W.instObj C s.heap.objs.size)}:=by
 have e1:(s.heap.push PySem.W.emptyDict).get? s.heap.objs.size=some PySem.W.emptyDict:=Heap.get?_push_size s.heap rfl
 have e2:((s.heap.push PySem.W.emptyDict).push (PySem.W.instObj C s.heap.objs.size)).get? (s.heap.objs.size+1)=some (PySem.W.instObj C s.heap.objs.size):=by
  have:=Heap.get?_push_size (s.heap.push PySem.W.emptyDict) (o:=PySem.W.instObj C s.heap.objs.size) rfl
  rwa [Heap.size_push]at this
 have e3:(s.heap.push PySem.W.emptyDict).Ns s.heap.objs.size (fun _=>none):=⟨PySem.W.emptyDict, #[],_,e1,rfl,(fun e he=>absurd he (by simp)),fun _=>rfl⟩
 have I1:=I.laid (a:=s.heap.objs.size) (o:=.own (s.heap.objs.size+1)) (h':=s.heap.push PySem.W.emptyDict) (t':=s.toks) (fun b u q=>Heap.get?_push_of_some _ q) (Nat.le_refl _) ⟨_,e1⟩
 refine I1.laid (a:=s.heap.objs.size+1) (o:=.ins C s.heap.objs.size []) (t':=s.toks) (fun b u q=>Heap.get?_push_of_some _ q) (Nat.le_of_eq (Heap.size_push _ _)) ?_
 have ne:s.heap.objs.size≠s.heap.objs.size+1:=Nat.ne_of_lt (Nat.lt_succ_self _)
 refine⟨by rw [upd_ne ne,upd_same],Nat.zero_le _,ne,e2,fun _=>none,(Heap.Ns1.of_empty e3).at fun o q=>Heap.get?_push_of_some _ q,fun _=>True.intro,fun y hy=>absurd rfl hy⟩
theorem attr_of{prog:Program}{w:World}{env:Env}{e:Expr}{f:Str}{pos:Pos}{s:Shared}{Q:Value→Shared→Prop}(hb:attributeBase e f env (eval e env)=eval e env)
 (h:wpAny (model prog w) A (eval e env) (fun o s₁=>wpAny (model prog w) A (getAttr o f true) Q E s₁) E s):wpAny (model prog w) A (eval (.Attribute e f pos) env) Q E s:=
 Attribute_any_ h (by rw [arm_eval_Attribute,hb])
end
noncomputable def tFld(K:PySem.W.Frag)(ta:TE)(f:Str):TE:=fun σ H Q=>ta σ H fun x H1=>∃a C dx fs v,x=.ref a∧H1 a=some (.ins C dx fs)∧Cls K C∧NoAttr K C f∧fs.lookup f=some v∧Q v H1
noncomputable def tCon(K:PySem.W.Frag)(ta:TE)(f:Str):TE:=fun σ H Q=>ta σ H fun x H1=>∃a C dx fs v u,x=.ref a∧H1 a=some (.ins C dx fs)∧Cls K C∧Con K C f v u∧fs.lookup f=none∧Q v H1
noncomputable def sFld(K:PySem.W.Frag)(ta tv:TE)(f:Str):TS:=fun D σ H=>tv σ H fun y H1=>ta σ H1 fun x H2=>∃a C dx fs,x=.ref a∧H2 a=some (.ins C dx fs)∧Cls K C∧NoAttr K C f∧fs.length<1000∧
 D.nx σ (upd H2 a (.ins C dx (putF f y fs)))
noncomputable def InOp(X:Cx)(op:Operator)(rd:V→V→Hp→VK→Prop):Prop:=
 ∀(pins:List (Addr×Obj)) (s:Shared) (σ:St) (H:Hp) (x y:V) (u v:Value) (Q:VK),Inv X pins σ H s→RelV x u→RelV y v→rd x y H Q→wpAny (model X.prog X.w) X.A (inplaceOp op u v) (EP X pins σ Q) X.xe s
noncomputable def sFldAug(K:PySem.W.Frag)(ta tv:TE)(rd:V→V→Hp→VK→Prop)(f:Str):TS:=fun D σ H=>ta σ H fun x H1=>∃a C dx fs v,x=.ref a∧H1 a=some (.ins C dx fs)∧Cls K C∧NoAttr K C f∧fs.lookup f=some v∧
 tv σ H1 fun y H2=>rd v y H2 fun z H3=>∃dx' fs',H3 a=some (.ins C dx' fs')∧fs'.length<1000∧D.nx σ (upd H3 a (.ins C dx' (putF f z fs')))
section
variable{X:Cx}{o e value:Expr}{f:Str}{pos pos' tpos:Pos}{ta tv:TE}
theorem pe_fld(he:PE X e ta)(hb:attributeBase e f X.env (eval e X.env)=eval e X.env):PE X (.Attribute e f pos) (tFld X.K ta f):=by
 intro pins s σ H Q I h
 refine attr_of hb (thn (he pins s σ H _ I h) fun u s1 ⟨x,H1,I1,rx,a,C,dx,fs,v,ex,ea,c,n,l,q⟩=> ?_)
 subst ex
 obtain rfl:u=Value.ref a:=rx
 exact getattr_ok I1 ea c n l fun u' s2 I2 ru=>⟨v,H1,I2,ru,q⟩
theorem ps_fld(ha:PE X o ta)(hv:PE X value tv)(hs:swapsWith value (some (.Attribute o f pos')) pos.line X.env=pure false):PS X (.Assign [.Attribute o f pos'] value pos) (sFld X.K ta tv f):=by
 intro pins s σ H D I h
 refine plainObj_wpAny_Assign_Attribute (thn (hv pins s σ H _ I h) fun u s1 ⟨y,H1,I1,ry,q⟩=>thn (ha pins s1 σ H1 _ I1 q) fun ov s2 ⟨x,H2,I2,rx,a,C,dx,fs,ex,ea,c,n,l,q2⟩=> ?_) hs
 subst ex
 obtain rfl:ov=Value.ref a:=rx
 exact setattr_ok I2 ea c n l ry fun s3 I3=>⟨σ,_,I3,q2⟩
noncomputable def rAdd:V→V→Hp→VK→Prop:=fun x y H Q=>∃i j,x=.int i∧y=.int j∧Q (.int (i+j)) H
noncomputable def rSub:V→V→Hp→VK→Prop:=fun x y H Q=>∃i j,x=.int i∧y=.int j∧Q (.int (i-j)) H
end
section
variable{X:Cx}{pins:List (Addr×Obj)}{σ:St}{H:Hp}{s:Shared}{A:Around}{E:Value→Shared→Prop}{Q:Value→Shared→Prop}{c:Value}{b:Bool}
inductive TyOf(K:PySem.W.Frag)(H:Hp):V→Value→Prop where
 |non:TyOf K H .non (.type "NoneType")
 |bl (x:Bool):TyOf K H (.bl x) (.type "bool")
 |int (i:Int):TyOf K H (.int i) (.type "int")
 |str (x:Str):TyOf K H (.str x) (.type "str")
 |flt (x:UInt64):TyOf K H (.flt x) (.type "float")
 |lst {a:Addr} {xs:List V} (e:H a=some (.lst xs)):TyOf K H (.ref a) (.type "list")
 |frz {a:Addr} {o:Obj} {xs:List V} (e:H a=some (.frz o (.lst xs))):TyOf K H (.ref a) (.type "list")
 |tup {a:Addr} {xs:List V} (e:H a=some (.tup xs)):TyOf K H (.ref a) (.type "tuple")
 |dK {a:Addr} {kvs:List (Key×V)} (e:H a=some (.dK kvs)):TyOf K H (.ref a) (.type "dict")
 |dT {a:Addr} {kvs:List (List Key×V)} (e:H a=some (.dT kvs)):TyOf K H (.ref a) (.type "dict")
 |ins {a C dx:Addr} {fs:List (Str×V)} (e:H a=some (.ins C dx fs)) (cl:Cls K C) (ha:PySem.W.findIn K (.ref C) "__class__"=some (some (.builtin "object.__class__")))
   (hn:PySem.W.specialIn K (.builtin "object.__class__") "__get__"=some (some (.builtin "getset_descriptor.__get__"))) (htk:PySem.W.takesIn K (.builtin "object.__class__")=some true)
   (hm:PySem.W.mroIn K C (.type "object")=some true):TyOf K H (.ref a) (.ref C)
theorem isinst_ok{x:V}{u t:Value}(I:Inv X pins σ H s)(rx:RelV x u)(ty:TyOf X.K H x t)(e:PySem.W.kitOne X.K t c=some b)(h:∀tk,Q (.bool b) {s with toks:=tk}):
 wpAny (model X.prog X.w) A (call (.builtin "isinstance") [u,c]) Q E s:=by
 cases ty with
 |non=>cases (show u=Value.none from rx);exact PySem.W.kia_one PySem.W.kitx_none I.kIn True.intro e (fun z=>nomatch z) h
 |bl y=>cases (show u=Value.bool y from rx);exact PySem.W.kia_one PySem.W.kitx_bool I.kIn True.intro e (fun z=>nomatch z) h
 |int i=>obtain⟨t,q⟩:=(show∃t,u=Value.int i t from rx);cases q;exact PySem.W.kia_one PySem.W.kitx_int I.kIn True.intro e (fun z=>nomatch z) h
 |str y=>obtain⟨t,q⟩:=(show∃t,u=Value.str y t from rx);cases q;exact PySem.W.kia_one PySem.W.kitx_str I.kIn True.intro e (fun z=>nomatch z) h
 |flt y=>obtain⟨t,q⟩:=(show∃t,u=Value.float y t from rx);cases q;exact PySem.W.kia_one PySem.W.kitx_float I.kIn True.intro e (fun z=>nomatch z) h
 | @lst a xs ea=>
   cases (show u=Value.ref a from rx)
   obtain⟨_,_,n,_,h1⟩:=(show ObjOk X.prog X.w H s.heap a (.lst xs)from I.hok a _ ea)
   exact PySem.W.kia_one PySem.W.kitx_list I.kIn ⟨_,h1,rfl⟩ e (fun z=>nomatch z) h
 | @frz a ob xs ea=>
   cases (show u=Value.ref a from rx)
   obtain⟨_,_,_,n,_,h1⟩:=(show ObjOk X.prog X.w H s.heap a (.frz ob (.lst xs))from I.hok a _ ea)
   exact PySem.W.kia_one PySem.W.kitx_list I.kIn ⟨_,h1,rfl⟩ e (fun z=>nomatch z) h
 | @tup a xs ea=>
   cases (show u=Value.ref a from rx)
   obtain⟨_,_,_,p⟩:=(show ObjOk X.prog X.w H s.heap a (.tup xs)from I.hok a _ ea)
   obtain⟨o,h1,h2,_⟩:=p
   exact PySem.W.kia_one PySem.W.kitx_tuple I.kIn ⟨o,h1,h2⟩ e (fun z=>nomatch z) h
 | @dK a kvs ea=>
   cases (show u=Value.ref a from rx)
   obtain⟨_,_,vs,_,p⟩:=(show ObjOk X.prog X.w H s.heap a (.dK kvs)from I.hok a _ ea)
   obtain⟨o,es,ep,h1,h2,_⟩:=p
   exact PySem.W.kia_one PySem.W.kitx_dict I.kIn ⟨o,h1,h2.1⟩ e (fun z=>nomatch z) h
 | @dT a kvs ea=>
   cases (show u=Value.ref a from rx)
   obtain⟨_,_,xs,_,o,es,ep,h1,h2,_⟩:=(show ObjOk X.prog X.w H s.heap a (.dT kvs)from I.hok a _ ea)
   exact PySem.W.kia_one PySem.W.kitx_dict I.kIn ⟨o,h1,h2.1⟩ e (fun z=>nomatch z) h
 | @ins a C dx fs ea cl ha hn htk hm=>
   cases (show u=Value.ref a from rx)
   obtain⟨mA,O,_⟩:=ins_get I.hok ea
   obtain⟨od,J,_⟩:=O.look
   exact PySem.W.kia_one (PySem.W.kitx_own (cl.get _) cl.hd ha hn htk hm) I.kIn J e (fun z=>nomatch z) h
end
end L2
namespace L2
open PySem PySem.Spec PyProof.Rows
structure Room(k:Nat)(A:Around):Prop where
 hd:A.handled=none
 dp:A.depth+3*k+5<recursionLimit
 un:A.units+16*k+200<cLine
theorem Room.mono{j k:Nat}{A:Around}(r:Room k A)(h:j≤k):Room j A:=⟨r.hd,by have:=r.dp;omega,by have:=r.un;omega⟩
theorem Room.deeper{k:Nat}{A:Around}(r:Room (k+1) A)(env:Env):Room k (A.deeper env):=
 ⟨r.hd,by have:=r.dp;show A.depth+1+3*k+5<_;omega,by have:=r.un;show A.units+3+16*k+200<_;omega⟩
theorem make_depth{A:Around}{C:Addr}{us:List Value}{kw:List (Str×Value)}:(A.under (.builtin "type.__call__" ⟨.ref C::us,kw⟩)).depth=A.depth+1:=by
 first|rfl|simp [Around.under,Code.weight,Code.isCreation,Code.isGuard,Code.isCaller,Code.frames,Code.isFrame,guardIds]
theorem make_units{A:Around}{C:Addr}{us:List Value}{kw:List (Str×Value)}:(A.under (.builtin "type.__call__" ⟨.ref C::us,kw⟩)).units=A.units+1:=by
 first|rfl|simp [Around.under,Code.cUnits,Code.frames,Code.isFrame]
theorem Room.make{k:Nat}{A:Around}(r:Room (k+1) A)(C:Addr)(us:List Value)(kw:List (Str×Value)):Room k (A.under (.builtin "type.__call__" ⟨.ref C::us,kw⟩)):=
 ⟨r.hd,by have:=r.dp;rw [make_depth];omega,by have:=r.un;rw [make_units];omega⟩
theorem Room.depth{k:Nat}{A:Around}(r:Room k A):A.depth<recursionLimit:=by have:=r.dp;omega
theorem Room.units{k:Nat}{A:Around}(r:Room k A):A.units+64<cLine:=by have:=r.un;omega
noncomputable def tNil:TA:=fun _ H Q=>Q [] H
noncomputable def tCons(ta:TE)(tr:TA):TA:=fun σ H Q=>ta σ H fun x H1=>tr σ H1 fun xs H2=>Q (x::xs) H2
section
variable{X:Cx}{e:Expr}{es:List Expr}{te:TE}{t:TA}{pos:Pos}
theorem pa_nil:PA X [] tNil:=fun _ _ _ _ H Q I h=>Calls.spliced_nil ⟨[],H,I,.nil,h⟩
theorem pa_cons(ha:PE X e te)(hr:PA X es t)(hs:starEach (e::es) X.env=(false,eval e X.env)::starEach es X.env:=by rfl):PA X (e::es) (tCons te t):=by
 intro pos pins s σ H Q I h
 rw [hs]
 show wpAny _ _ (spliced ((false,eval e X.env)::backTo pos (starEach es X.env))) _ _ s
 refine Calls.spliced_cons (thn (ha pins s σ H _ I h) fun u s1 ⟨x,H1,I1,r1,q1⟩=> ?_)
 exact thn (hr pos pins s1 σ H1 _ I1 q1) fun us s2 ⟨xs,H2,I2,r2,q2⟩=>⟨x::xs,H2,I2,.cons r1 r2,q2⟩
noncomputable def tTup(t:TA):TE:=fun σ H Q=>t σ H fun xs H1=>xs.length≤sizeLine∧∀p,H1 p=none→Q (.ref p) (upd H1 p (.tup xs))
noncomputable def tLst(t:TA):TE:=fun σ H Q=>t σ H fun xs H1=>xs.length≤sizeLine∧∀p,H1 p=none→Q (.ref p) (upd H1 p (.lst xs))
theorem pe_tup{x1}(h:PA X es t):PE X (.Tuple es x1 pos) (tTup t):=by
 intro pins s σ H Q I hq
 refine wpAny_Tuple_spliced (thn (h pos pins s σ H _ I hq) fun us s1 ⟨xs,H1,I1,r,z,q⟩=>⟨by rw [←r.length];exact z,?_⟩)
 have hf:H1 s1.heap.objs.size=none:=I1.hok.fresh (Nat.le_refl _)
 refine⟨.ref s1.heap.objs.size,upd H1 s1.heap.objs.size (.tup xs),I1.laid (t':=s1.toks) (fun b u e=>Heap.get?_push_of_some _ e) (Nat.le_refl _) ?_,rfl,q _ hf⟩
 exact⟨z,us,r,⟨_,Heap.get?_push_size _ rfl,rfl,_,rfl⟩⟩
theorem pe_lst(h:PA X es t):PE X (.List es pos) (tLst t):=by
 intro pins s σ H Q I hq
 refine wpAny_List_spliced (thn (h pos pins s σ H _ I hq) fun us s1 ⟨xs,H1,I1,r,z,q⟩=>⟨by rw [←r.length];exact z,?_⟩)
 have hf:H1 s1.heap.objs.size=none:=I1.hok.fresh (Nat.le_refl _)
 refine⟨.ref s1.heap.objs.size,upd H1 s1.heap.objs.size (.lst xs),I1.laid (t':=s1.toks) (fun b u e=>Heap.get?_push_of_some _ e) (Nat.le_refl _) ?_,rfl,q _ hf⟩
 exact⟨z,us,0,r,Heap.get?_push_size _ rfl⟩
end
noncomputable abbrev Sp:=List V→Hp→VK→XK→Prop
noncomputable abbrev CXT:=List Env→Hp→Shared→XK→Value→Shared→Prop
structure Env0(P:Program)(w:World)(K:PySem.W.Frag)(mg:Str→Option Value)(base:Heap)(A:Around)(outer:List Env)(s:Shared)(H:Hp):Prop where
 frames:A.frames=some outer
 mod:Mod K mg base
 bs:∀b o,base.get? b=some o→s.heap.get? b=some o∧H b=none
 bsz:base.objs.size≤s.heap.objs.size
 funs:s.heap.FunFrames base outer
 frf:∀b∈frs outer,H b=none
 hok:HOk P w H s.heap
 bare:AllBare s.gens
noncomputable def CE(outer:List Env)(P:Program)(w:World)(H:Hp)(s:Shared)(Q:VK)(u:Value)(s':Shared):Prop:=
 ∃v H',s'.os=s.os∧AllBare s'.gens∧Un (frs outer) [] H H' s.heap s'.heap∧HOk P w H' s'.heap∧RelV v u∧Q v H'
noncomputable def CR(CX:CXT)(outer:List Env)(P:Program)(w:World)(H:Hp)(s:Shared)(Q:VK)(E:XK)(r:Result)(s':Shared):Prop:=
 match r with
 | .ok (.ret u)=>CE outer P w H s Q u s'
 | .ok _=>False
 | .error e=>CX outer H s E e s'
structure FnOk(P:Program)(w:World)(K:PySem.W.Frag)(mg:Str→Option Value)(base:Heap)(CX:CXT)(k:Nat)(f:Addr)(fd:FuncData)(ps:List Str)(sp:Sp):Prop where
 len:∀vs H Q E,sp vs H Q E→vs.length=ps.length
 run:∀(A:Around) (outer:List Env) (s:Shared) (H:Hp) (args:Args) (us:List Value) (vs:List V) (Q:VK) (E:XK),Room k A→Env0 P w K mg base A outer s H→BindsTo s fd args (ps.zip us)→Vals vs us→sp vs H Q E→
  codeAny (model P w) A (.call (.ref f) args) (CR CX outer P w H s Q E) s
theorem FnOk.mono{P:Program}{w:World}{K:PySem.W.Frag}{mg:Str→Option Value}{base:Heap}{CX:CXT}{j k:Nat}{f:Addr}{fd:FuncData}{ps:List Str}{sp:Sp}(F:FnOk P w K mg base CX j f fd ps sp)(h:j≤k):
 FnOk P w K mg base CX k f fd ps sp:=⟨F.len,fun A outer s H args us vs Q E hr=>F.run A outer s H args us vs Q E (hr.mono h)⟩
theorem Env0.make{P:Program}{w:World}{K:PySem.W.Frag}{mg:Str→Option Value}{base:Heap}{A:Around}{outer:List Env}{s:Shared}{H:Hp}(e:Env0 P w K mg base A outer s H)(C:Addr)(us:List Value)(kw:List (Str×Value)):
 Env0 P w K mg base (A.under (.builtin "type.__call__" ⟨.ref C::us,kw⟩)) outer s H:=⟨by first|exact e.frames|(simpa [Around.under,Code.envs,Code.isFrame,pushEnvs]using e.frames),e.mod,e.bs,e.bsz,e.funs,e.frf,e.hok,e.bare⟩
section
variable{X:Cx}{pins:List (Addr×Obj)}{σ:St}{H:Hp}{s s':Shared}
theorem Inv.env0(I:Inv X pins σ H s):Env0 X.prog X.w X.K X.mg X.base X.A X.stack s H:=
 ⟨I.ok.frames,I.ok.mod,I.bs,Nat.le_trans I.ok.bsz I.sz,I.stack,I.stkFree,I.hok,I.bare⟩
theorem Inv.after{Q:VK}{u:Value}(I:Inv X pins σ H s)(h:CE X.stack X.prog X.w H s Q u s'):EP X pins σ Q u s':=by
 obtain⟨v,H',os,bare,un,hok,r,q⟩:=h
 obtain⟨hh,g,d,t,os'⟩:=s'
 obtain rfl:os'=s.os:=os
 exact⟨v,H',I.call (h':=hh) (g':=g) (d':=d) (t':=t) (ch:=[]) un hok bare (fun b z=>absurd z (by simp)),r,q⟩
end
noncomputable def tCall(sp:Sp)(dvs:List V)(E:XK)(t:TA):TE:=fun σ H Q=>t σ H fun vs H1=>sp (vs++dvs) H1 Q E
noncomputable def tMeth(C:Addr)(m:Str)(sp:Sp)(dvs:List V)(E:XK)(ta:TE)(t:TA):TE:=fun σ H Q=>ta σ H fun x H1=>∃a dx fs,x=.ref a∧H1 a=some (.ins C dx fs)∧fs.lookup m=none∧
 t σ H1 fun vs H2=>sp (x::(vs++dvs)) H2 Q E
noncomputable def tMake(C:Addr)(sp:Sp)(dvs:List V)(E:XK)(t:TA):TE:=fun σ H Q=>t σ H fun vs H1=>∀x dx,H1 x=none→H1 dx=none→dx≠x→
 sp (.ref x::(vs++dvs)) (upd (upd H1 dx (.own x)) x (.ins C dx [])) (fun v H2=>v=.non∧Q (.ref x) H2) E
noncomputable def Binds(K:PySem.W.Frag)(fd:FuncData)(ps:List Str)(ds:List Value):Prop:=
 ∀(s:Shared) (us:List Value),K.In s.heap→(us++ds).length=ps.length→BindsTo s fd ⟨us,[]⟩ (ps.zip (us++ds))
theorem Binds.all{K:PySem.W.Frag}{fd:FuncData}{ps:List Str}(h:∀us:List Value,us.length=ps.length→bindArgs fd ⟨us,[]⟩=pure (ps.zip us)):Binds K fd ps []:=fun s us _ hl=>by
 rw [List.append_nil]at hl⊢
 exact .of_eq (h us hl)
noncomputable def Passes(CX:CXT)(X:Cx)(E:XK):Prop:=∀(pins:List (Addr×Obj)) (σ:St) (H:Hp) (s:Shared) (e:Value) (s':Shared),Inv X pins σ H s→CX X.stack H s E e s'→X.xe e s'
section
variable{X:Cx}{CX:CXT}{k:Nat}{f C:Addr}{fd:FuncData}{ps:List Str}{sp:Sp}{dvs:List V}{ds:List Value}{E:XK}{x m:Str}{p pos apos:Pos}{e o:Expr}{es:List Expr}{ta:TE}{t:TA}
theorem run_fn{pins:List (Addr×Obj)}{σ:St}{H:Hp}{s:Shared}{Q:VK}{us:List Value}{vs:List V}(F:FnOk X.prog X.w X.K X.mg X.base CX k f fd ps sp)(hr:Room k X.A)(hb:Binds X.K fd ps ds)(hd:Vals dvs ds)(hx:Passes CX X E)
 (I:Inv X pins σ H s)(r:Vals vs us)(h:sp (vs++dvs) H Q E):wpAny (model X.prog X.w) X.A (call (.ref f) us) (EP X pins σ Q) X.xe s:=by
 have r2:Vals (vs++dvs) (us++ds):=r.append hd
 have hl:(us++ds).length=ps.length:=by rw [←r2.length];exact F.len _ _ _ _ h
 refine wpAny_call (codeAny_mono (F.run X.A X.stack s H ⟨us,[]⟩ (us++ds) (vs++dvs) Q E hr I.env0 (hb s us I.kIn hl) r2 h) fun r s' hq=> ?_)
 cases r with
 |error e=>exact hx pins σ H s e s' I hq
 |ok fl=>
  cases fl with
  |ret u=>exact I.after hq
  |next=>exact False.elim hq
  |brk=>exact False.elim hq
  |cont=>exact False.elim hq
theorem pe_call(F:FnOk X.prog X.w X.K X.mg X.base CX k f fd ps sp)(hr:Room k X.A)(hg:Gl X x)(hm:X.mg x=some (.ref f))(hk:PySem.W.keepIn X.K (.ref f)=true)(hb:Binds X.K fd ps ds)(hd:Vals dvs ds)(hx:Passes CX X E)
 (ha:PA X (e::es) t)(hdb:(x==("__debug__":Str))=false:=by decide)(he:starEach (e::es) X.env=(false,eval e X.env)::starEach es X.env:=by rfl)(hpl:(backTo pos (starEach es X.env)).any (·.1)=false:=by rfl):
 PE X (.Call (.Name x p) (e::es) [] pos) (tCall sp dvs E t):=by
 intro pins s σ H Q I h
 refine wpAny_Call_Name_kw (ld_glob I hg hm ?_ hdb)
 refine PySem.W.callWith_K (h₀:=X.base) I.ok.mod.kin hk (thn (ha pos pins s σ H _ I h) fun us s1 ⟨vs,H1,I1,r,q⟩=>⟨I1.kIn,?_⟩) he hpl
 exact run_fn F hr hb hd hx I1 r q
theorem pe_meth{pl:Sem Bool}(he:PE X o ta)(c:Cls X.K C)(hm:Meth X.K C m f)(F:FnOk X.prog X.w X.K X.mg X.base CX k f fd ps sp)(hr:Room k X.A)(hb:Binds X.K fd ps ds)(hd:Vals dvs ds)(hx:Passes CX X E)(ha:PA X (e::es) t)
 (hst:starEach (e::es) X.env=(false,eval e X.env)::starEach es X.env:=by rfl)(hpl:(backTo pos (starEach es X.env)).any (·.1)=false:=by rfl)
 (ht:eval (.Call (.Attribute o m apos) (e::es) [] pos) X.env=(do
   let ov←eval o X.env
   standAt apos.atName
   let (f,first)←holding [ov] (getMethod ov m pl)
   callWith pos f first (backTo pos (starEach (e::es) X.env)) (backToKw pos (keywordEach [] X.env))):=by rfl):
 PE X (.Call (.Attribute o m apos) (e::es) [] pos) (tMeth C m sp dvs E ta t):=by
 intro pins s σ H Q I h
 refine PySem.W.methodCall_KW (pl:=pl) (thn (he pins s σ H _ I h) fun u s1 ⟨x,H1,I1,rx,a,dx,fs,ex,ea,l,q⟩=> ?_) ht
 subst ex
 obtain rfl:u=Value.ref a:=rx
 refine getmeth_ok I1 ea c hm l ?_
 refine PySem.W.callWith_K (first:=[.ref a]) (h₀:=X.base) I.ok.mod.kin hm.kp (thn (ha pos pins s1 σ H1 _ I1 q) fun us s2 ⟨vs,H2,I2,r,q2⟩=>⟨I2.kIn,?_⟩) hst hpl
 exact run_fn (us:=.ref a::us) (vs:=.ref a::vs) F hr hb hd hx I2 (.cons rfl r) q2
structure Mk(K:PySem.W.Frag)(C f:Addr):Prop where
 makes:PySem.W.makesIn K C=true
 init:PySem.W.findIn K (.ref C) "__init__"=some (some (.ref f))
 fn:PySem.W.isFn K (.ref f)=true
 kp:PySem.W.keepIn K (.ref C)=true
theorem run_make{pins:List (Addr×Obj)}{σ:St}{H:Hp}{s:Shared}{Q:VK}{us:List Value}{vs:List V}(M:Mk X.K C f)(F:FnOk X.prog X.w X.K X.mg X.base CX k f fd ps sp)(hr:Room (k+1) X.A)(hb:Binds X.K fd ps ds)(hd:Vals dvs ds)
 (hx:Passes CX X E)(I:Inv X pins σ H s)(r:Vals vs us)
 (h:∀x dx,H x=none→H dx=none→dx≠x→sp (.ref x::(vs++dvs)) (upd (upd H dx (.own x)) x (.ins C dx [])) (fun v H2=>v=.non∧Q (.ref x) H2) E):
 wpAny (model X.prog X.w) X.A (call (.ref C) us) (EP X pins σ Q) X.xe s:=by
 have hq:=h (s.heap.objs.size+1) s.heap.objs.size (I.hok.fresh (Nat.le_succ _)) (I.hok.fresh (Nat.le_refl _)) (Nat.ne_of_lt (Nat.lt_succ_self _))
 have I2:=Inv.made (C:=C) I
 have r2:Vals (V.ref (s.heap.objs.size+1)::(vs++dvs)) (Value.ref (s.heap.objs.size+1)::(us++ds)):=.cons rfl (r.append hd)
 have hl:(Value.ref (s.heap.objs.size+1)::us++ds).length=ps.length:=by
  have e:=r2.length
  rw [F.len _ _ _ _ hq]at e
  exact e.symm
 refine wpAny_call (make_map (f:=f) I.kIn M.makes M.init (beq_iff_eq.mp M.fn) (codeAny_mono (F.run _ X.stack _ _ ⟨Value.ref (s.heap.objs.size+1)::us,[]⟩ (Value.ref (s.heap.objs.size+1)::(us++ds)) _ _ E (hr.make C us [])
  (I2.env0.make C us []) (hb _ (Value.ref (s.heap.objs.size+1)::us) I2.kIn hl) r2 hq) fun r s' hq'=> ?_))
 cases r with
 |error e=>exact hx pins σ _ _ e s' I2 hq'
 |ok fl=>
  cases fl with
  |ret u=>
   obtain⟨v,H',I3,rv,ev,q3⟩:=I2.after hq'
   subst ev
   exact⟨rv,⟨V.ref (s.heap.objs.size+1),H',I3,rfl,q3⟩⟩
  |next=>exact False.elim hq'
  |brk=>exact False.elim hq'
  |cont=>exact False.elim hq'
theorem pe_make(M:Mk X.K C f)(F:FnOk X.prog X.w X.K X.mg X.base CX k f fd ps sp)(hr:Room (k+1) X.A)(hg:Gl X x)(hm:X.mg x=some (.ref C))(hb:Binds X.K fd ps ds)(hd:Vals dvs ds)(hx:Passes CX X E)
 (ha:PA X (e::es) t)(hdb:(x==("__debug__":Str))=false:=by decide)(he:starEach (e::es) X.env=(false,eval e X.env)::starEach es X.env:=by rfl)(hpl:(backTo pos (starEach es X.env)).any (·.1)=false:=by rfl):
 PE X (.Call (.Name x p) (e::es) [] pos) (tMake C sp dvs E t):=by
 intro pins s σ H Q I h
 refine wpAny_Call_Name_kw (ld_glob I hg hm ?_ hdb)
 refine PySem.W.callWith_K (h₀:=X.base) I.ok.mod.kin M.kp (thn (ha pos pins s σ H _ I h) fun us s1 ⟨vs,H1,I1,r,q⟩=>⟨I1.kIn,?_⟩) he hpl
 exact run_make M F hr hb hd hx I1 r q
end
noncomputable def PK(X:Cx)(kws:List Keyword)(t:TA):Prop:=
 ∀(pos:Pos) (pins:List (Addr×Obj)) (s:Shared) (σ:St) (H:Hp) (Q:List V→Hp→Prop),Inv X pins σ H s→t σ H Q→wpAny (model X.prog X.w) X.A (evalAll ((backToKw pos (keywordEach kws X.env)).map (·.2))) (AP X pins σ Q) X.xe s
section
variable{X:Cx}{CX:CXT}{k:Nat}{f C:Addr}{fd:FuncData}{ps ks:List Str}{sp:Sp}{E:XK}{x m:Str}{p pos apos kpos:Pos}{e o:Expr}{es:List Expr}{kws:List Keyword}{te ta:TE}{t tk:TA}{nm:Option Str}
theorem pk_nil:PK X [] tNil:=fun _ _ _ _ H Q I h=>wpAny_evalAll_nil ⟨[],H,I,.nil,h⟩
theorem pk_cons(ha:PE X e te)(hr:PK X kws t):PK X (⟨nm,e,kpos⟩::kws) (tCons te t):=by
 intro pos pins s σ H Q I h
 show wpAny _ _ (evalAll ((do let v←eval e X.env;standAt pos;pure v)::(backToKw pos (keywordEach kws X.env)).map (·.2))) _ _ s
 refine wpAny_evalAll_cons (wpAny_bind (thn (ha pins s σ H _ I h) fun u s1 ⟨x,H1,I1,r1,q1⟩=>wpAny_bind (wpAny_standAt (wpAny_pure ?_))))
 exact thn (hr pos pins s1 σ H1 _ I1 q1) fun us s2 ⟨xs,H2,I2,r2,q2⟩=>⟨x::xs,H2,I2,.cons r1 r2,q2⟩
structure KBinds(K:PySem.W.Frag)(fd:FuncData)(ps ks:List Str)(g:List Value→List Value→List Value)(gV:List V→List V→List V):Prop where
 to:∀(s:Shared) (us ws:List Value),K.In s.heap→(g us ws).length=ps.length→BindsTo s fd ⟨us,ks.zip ws⟩ (ps.zip (g us ws))
 rel:∀ {vs:List V} {us:List Value} {zs:List V} {ws:List Value},Vals vs us→Vals zs ws→Vals (gV vs zs) (g us ws)
noncomputable def tCallK(sp:Sp)(gV:List V→List V→List V)(E:XK)(t tk:TA):TE:=fun σ H Q=>t σ H fun vs H1=>tk σ H1 fun zs H2=>sp (gV vs zs) H2 Q E
variable{g:List Value→List Value→List Value}{gV:List V→List V→List V}
end
structure FnScope(N P:List Str)(sc:Scope):Prop where
 kind:sc.kind=.function
 co:sc.isCoroutine=false
 gen:sc.isGenerator=false
 nd:N.Nodup
 pre:N.take P.length=P
 par:∀x∈P,sc.names.lookup x=some .local∨sc.names.lookup x=some .cell
 nofree:∀y∈sc.names,y.2≠.free
theorem bindL_out{kindOf:Str→Option NameKind}{x:Str}:∀ {binds:List (Str×Value)} {m:Str→Option Value},(∀v,(x,v)∉binds)→bindL kindOf binds m x=m x
 |[],_,_=>rfl
 |(n,v)::r,m,h=>by
  unfold bindL
  rw [bindL_out fun w hw=>h w (List.mem_cons_of_mem _ hw)]
  split
  ·have:x≠n:=by rintro rfl;exact h v List.mem_cons_self
   simp [this]
  ·rfl
theorem bindC_out{kindOf:Str→Option NameKind}{x:Str}:∀ {binds:List (Str×Value)} {m:Str→Option Value},(∀v,(x,v)∉binds)→bindC kindOf binds m x=m x
 |[],_,_=>rfl
 |(n,v)::r,m,h=>by
  unfold bindC
  rw [bindC_out fun w hw=>h w (List.mem_cons_of_mem _ hw)]
  split
  ·rfl
  ·have:x≠n:=by rintro rfl;exact h v List.mem_cons_self
   simp [this]
theorem bindL_get{kindOf:Str→Option NameKind}{x:Str}{v:Value}:∀ {P:List Str} {vs:List Value} {i:Nat} {m:Str→Option Value},P.Nodup→P[i]?=some x→vs[i]?=some v→kindOf x=some .local→
 bindL kindOf (P.zip vs) m x=some v
 |[],_,_,_,_,h,_,_=>by simp at h
 |_::_,[],_,_,_,_,h,_=>by simp at h
 |p::P,w::vs,0,m,nd,h1,h2,hk=>by
  simp at h1 h2;subst h1;subst h2
  show bindL kindOf ((p,w)::P.zip vs) m p=_
  unfold bindL
  rw [bindL_out fun v hv=>(List.nodup_cons.mp nd).1 (List.of_mem_zip hv).1,if_pos hk]
  simp
 |p::P,w::vs,i+1,m,nd,h1,h2,hk=>by
  show bindL kindOf ((p,w)::P.zip vs) m x=_
  unfold bindL
  exact bindL_get (i:=i) (List.nodup_cons.mp nd).2 (by simpa using h1) (by simpa using h2) hk
theorem bindC_get{kindOf:Str→Option NameKind}{x:Str}{v:Value}:∀ {P:List Str} {vs:List Value} {i:Nat} {m:Str→Option Value},P.Nodup→P[i]?=some x→vs[i]?=some v→kindOf x≠some .local→
 bindC kindOf (P.zip vs) m x=some v
 |[],_,_,_,_,h,_,_=>by simp at h
 |_::_,[],_,_,_,_,h,_=>by simp at h
 |p::P,w::vs,0,m,nd,h1,h2,hk=>by
  simp at h1 h2;subst h1;subst h2
  show bindC kindOf ((p,w)::P.zip vs) m p=_
  unfold bindC
  rw [bindC_out fun v hv=>(List.nodup_cons.mp nd).1 (List.of_mem_zip hv).1,if_neg hk]
  simp
 |p::P,w::vs,i+1,m,nd,h1,h2,hk=>by
  show bindC kindOf ((p,w)::P.zip vs) m x=_
  unfold bindC
  exact bindC_get (i:=i) (List.nodup_cons.mp nd).2 (by simpa using h1) (by simpa using h2) hk
noncomputable def start(N:List Str)(vs:List V):St:=vs.map some++List.replicate (N.length-vs.length) none
noncomputable def cxOf(CX:CXT)(P:Program)(w:World)(K:PySem.W.Frag)(mg:Str→Option Value)(base:Heap)(N:List Str)(qual:Str)(scope:Scope)(f:Addr)(cd:Value)(A:Around)(outer:List Env)(s:Shared)(H:Hp)(E:XK):Cx where
 prog:=P
 w:=w
 K:=K
 mg:=mg
 base:=base
 A:=A.deeper (envOfC qual scope s.heap.objs.size f cd)
 N:=N
 s₀:=s
 H₀:=H
 env:=envOfC qual scope s.heap.objs.size f cd
 outer:=outer
 stack:=envOfC qual scope s.heap.objs.size f cd::outer
 ex:=[]
 calm:=true
 fn:=fun _=>true
 pn:=[]
 xe:=fun e s'=>wpAny (model P w) (A.deeper (envOfC qual scope s.heap.objs.size f cd)) (leaving (envOfC qual scope s.heap.objs.size f cd) e) (fun _ s''=>CX outer H s E e s'') (fun e' s''=>CX outer H s E e' s'') s'
theorem cell_has{sc:Scope}{n:Nat}{x:Str}(h:sc.names.lookup x=some .cell):∃c,(cellsFrom n sc.names []).lookup x=some c:=by
 have q:=PySem.W.cellsFrom_some sc.names n [] (.inl h)
 exact Option.isSome_iff_exists.mp q
theorem inv_start{CX:CXT}{P:Program}{w:World}{K:PySem.W.Frag}{mg:Str→Option Value}{base:Heap}{N ps:List Str}{qual:Str}{scope:Scope}{f:Addr}{cd:Value}{A:Around}{outer:List Env}{s s1:Shared}{H:Hp}{E:XK}{us:List Value}{vs:List V}
 (S:FnScope N ps scope)(hd:A.handled=none)(e0:Env0 P w K mg base A outer s H)(hl:vs.length=ps.length)(r:Vals vs us)
 (x:InCallC s s.heap.objs.size (bindL (envOfC qual scope s.heap.objs.size f cd).kindOf (ps.zip us) fun _=>none) (cellsFrom (s.heap.objs.size+1) scope.names []) (bindC (envOfC qual scope s.heap.objs.size f cd).kindOf (ps.zip us) fun _=>none) s1):
 Inv (cxOf CX P w K mg base N qual scope f cd A outer s H E) [] (start N vs) H s1:=by
 have hpl:ps.length≤N.length:=by have:=congrArg List.length S.pre;rw [List.length_take]at this;omega
 obtain⟨h1,tk,rfl,hk⟩:=x.done
 have noA:∀b:Addr,b∉(cxOf CX P w K mg base N qual scope f cd A outer s H E).ex:=fun b z=>absurd (show b∈([]:List Addr)from z) (by simp)
 refine⟨⟨e0.mod,S.kind,rfl,rfl,Nat.le_refl _,fun y z c h1 h2=> ?_,fun y hy=> ?_,fun y c _ h=> ?_,fun _=>hd,Around.frames_deeper e0.frames,.inr ⟨rfl,rfl⟩,fun b z=>absurd z (noA b),e0.bs,e0.bsz,fun b _ _=>noA b,fun b z=>absurd z (noA b),e0.funs,e0.frf⟩,
  rfl,e0.bare,Un.kept hk,⟨_,x.toInCall.ns,fun i y v h1 h2 h3=> ?_⟩,fun y c h=>⟨_,x.cell y c h⟩,e0.hok.fresh (Nat.le_refl _),fun y c h=> ?_,fun p hp=>absurd (show p∈([]:List (Addr×Obj))from hp) (by simp),e0.hok.kept hk,?_⟩
 ·exact name_of_addr x.apart (PySem.mem_of_lookup h1) (PySem.mem_of_lookup h2)
 ·have hy:scope.names.lookup y=some .cell∨scope.names.lookup y=some .free:=hy
  rcases hy with hy|hy
  ·exact cell_has hy
  ·exact absurd rfl (S.nofree _ (PySem.mem_of_lookup hy))
 ·exact Nat.le_of_lt (x.above y c (PySem.mem_of_lookup h))
 ·have hi:i<vs.length:=by
   unfold start at h2
   by_cases hi:i<vs.length
   ·exact hi
   ·rw [List.getElem?_append_right (by simpa using hi)]at h2
    rw [List.getElem?_replicate]at h2
    split at h2<;>cases h2
  have ha:vs[i]?=some v:=by
   unfold start at h2
   rw [List.getElem?_append_left (by simpa using hi),List.getElem?_map]at h2
   cases e:vs[i]? with
   |none=>rw [e]at h2;cases h2
   |some a=>rw [e]at h2;cases h2;rfl
  obtain⟨u,hu,rv⟩:=r.get ha
  have hp:ps[i]?=some y:=by
   rw [←S.pre,List.getElem?_take_of_lt (by omega)];exact h1
  have ndP:ps.Nodup:=by rw [←S.pre];exact S.nd.sublist (List.take_sublist _ _)
  refine⟨u,rv,?_⟩
  rcases S.par y (List.mem_of_getElem? hp)with k|k
  ·exact .inl ⟨k,bindL_get ndP hp hu k⟩
  ·obtain⟨c,e⟩:=cell_has (n:=s.heap.objs.size+1) k
   refine .inr ⟨.inl k,c,e,?_⟩
   have q:=x.cell y c e
   rw [bindC_get ndP hp hu (by show scope.names.lookup y≠_;rw [k];decide)]at q
   exact q
 ·exact e0.hok.fresh (Nat.le_of_lt (x.above y c (PySem.mem_of_lookup h)))
 ·unfold start
  show _=N.length
  rw [List.length_append,List.length_map,List.length_replicate]
  omega
theorem fn_of{CX:CXT}{P:Program}{w:World}{K:PySem.W.Frag}{mg:Str→Option Value}{base:Heap}{k:Nat}{f:Addr}{name qual:Str}{params:Arguments}{body:List Stmt}{scope:Scope}{dV kV doc pm cdv ct oc:Value}{an od:Option Addr}
 {osl:Array (Option Value)}{N ps:List Str}{sp:Sp}(lk:K.lookup f=some ⟨oc,od,.func (PySem.W.fnOf name qual params body scope dV kV doc pm an cdv ct),osl⟩)(hcd:PySem.W.codeIn K cdv qual=true)(S:FnScope N ps scope)
 (len:∀vs H Q E,sp vs H Q E→vs.length=ps.length)
 (hbody:∀(A:Around) (outer:List Env) (s:Shared) (H:Hp) (vs:List V) (Q:VK) (E:XK),Room k (A.deeper (envOfC qual scope s.heap.objs.size f cdv))→sp vs H Q E→
   ∃t,PSs (cxOf CX P w K mg base N qual scope f cdv A outer s H E) body t∧t {nx:=fun _ H'=>Q .non H',rt:=Q} (start N vs) H):
 FnOk P w K mg base CX (k+1) f (PySem.W.fnOf name qual params body scope dV kV doc pm an cdv ct) ps sp:=by
 refine⟨len,fun A outer s H args us vs Q E hr e0 hb r hsp=> ?_⟩
 have hl:=len _ _ _ _ hsp
 have KX:K.In s.heap:=e0.mod.kin.keeps fun b o e=>(e0.bs b o e).1
 have lim:s.heap.NoLimit:=e0.mod.nolimit.keeps fun b o e=>(e0.bs b o e).1
 have hkind:∀y∈ps.zip us,scope.names.lookup y.1=some .local∨(scope.names.lookup y.1=some .cell∧((cellsFrom (s.heap.objs.size+1) scope.names []).lookup y.1).isSome=true):=fun⟨n,v⟩ hy=>by
  rcases S.par n (List.of_mem_zip hy).1 with q|q
  ·exact .inl q
  ·exact .inr ⟨q,PySem.W.cellsFrom_some _ _ _ (.inl q)⟩
 refine codeAny_call_function hr.depth (KX _ _ lk) rfl S.co S.gen rfl (PySem.W.codeRec_of KX hcd) (hb _ _ _ _ ?_)
 refine wpAny_newFunctionEnv_cells S.kind hkind fun env he s1 x=> ?_
 subst he
 refine⟨lim.keeps x.toInCall.keep,codeAny_func ?_⟩
 obtain⟨t,ht,hq⟩:=hbody A outer s H vs Q E (hr.deeper _) hsp
 have I:Inv (cxOf CX P w K mg base N qual scope f cdv A outer s H E) [] (start N vs) H s1:=inv_start S hr.hd e0 hl r x
 refine wpAny_mono (ht [] s1 (start N vs) H _ I hq) (fun fl s' hs=> ?_) fun e s' hs=>hs
 have fin:∀ {σ':St} {H':Hp} {v:V} {u:Value},Inv (cxOf CX P w K mg base N qual scope f cdv A outer s H E) [] σ' H' s'→RelV v u→Q v H'→CE outer P w H s Q u s':=
  fun {σ' H' v u} J rv q=>⟨v,H',J.os,J.bare,J.base,J.hok,rv,q⟩
 cases fl with
 |ret u=>
  obtain⟨v,σ',H',J,rv,q⟩:=hs
  exact fin J rv q
 |next=>
  obtain⟨σ',H',J,q⟩:=hs
  exact fin (v:=V.non) (u:=Value.none) J rfl q
 |brk=>
  obtain⟨_,_,_,q⟩:=hs
  exact False.elim q
 |cont=>
  obtain⟨_,_,_,q⟩:=hs
  exact False.elim q
end L2
namespace L2
open PySem PySem.Spec PyProof.Rows
section
variable{X:Cx}{x:Str}{p pos:Pos}{e:Expr}{es:List Expr}{t:TA}{id T:String}{r:List V→Hp→VK→Prop}
noncomputable def tCB(r:List V→Hp→VK→Prop)(t:TA):TE:=fun σ H Q=>t σ H fun vs H1=>r vs H1 Q
theorem pe_callB(hc:CallR X (.builtin id) r)(hg:Gl X x)(hm:X.mg x=none)(hv:bootBuiltins x=some (.builtin id))(ha:PA X (e::es) t)(hn:x≠"__name__":=by decide)(hdb:(x==("__debug__":Str))=false:=by decide)
 (he:starEach (e::es) X.env=(false,eval e X.env)::starEach es X.env:=by rfl)(hpl:(backTo pos (starEach es X.env)).any (·.1)=false:=by rfl):PE X (.Call (.Name x p) (e::es) [] pos) (tCB r t):=by
 intro pins s σ H Q I h
 refine wpAny_Call_Name_kw (ld_blt I hg hm hv ?_ hn hdb)
 exact PyProof.Rows.callWith_builtin1 (thn (ha pos pins s σ H _ I h) fun us s1 ⟨vs,H1,I1,r1,q1⟩=>hc pins s1 σ H1 vs us Q I1 r1 q1) he hpl
theorem pe_callTy(hc:CallR X (.type T) r)(hg:Gl X x)(hm:X.mg x=none)(hv:bootBuiltins x=some (.type T))(ha:PA X (e::es) t)(hn:x≠"__name__":=by decide)(hdb:(x==("__debug__":Str))=false:=by decide)
 (he:starEach (e::es) X.env=(false,eval e X.env)::starEach es X.env:=by rfl)(hpl:(backTo pos (starEach es X.env)).any (·.1)=false:=by rfl):PE X (.Call (.Name x p) (e::es) [] pos) (tCB r t):=by
 intro pins s σ H Q I h
 refine wpAny_Call_Name_kw (ld_blt I hg hm hv ?_ hn hdb)
 exact PyProof.Rows.callWith_type1 (thn (ha pos pins s σ H _ I h) fun us s1 ⟨vs,H1,I1,r1,q1⟩=>hc pins s1 σ H1 vs us Q I1 r1 q1) he hpl
end
end L2
namespace HT
open PySem PyProof.Rows
noncomputable def lexLt:List Int→List Int→Bool
 |[],[]=>false
 |[],_::_=>true
 |_::_,[]=>false
 |x::xs,y::ys=>if x=y then lexLt xs ys else decide (x<y)
section
open PySem.SeqAt
open PySem.AutoSeq1 (wpAny_loadPart')
open PySem.MeetsSeq PySem.MeetsSeq2 PySem.MeetsSeq3
end
section
variable{prog:Program}{w:World}{A:Around}{E:Value→Shared→Prop}{s:Shared}
noncomputable def sIx(n d:Nat):Option Int→Nat
 |none=>d
 |some v=>if v<0 then(v+(n:Int)).toNat else min v.toNat n
theorem sIx_none(n d:Nat):sIx n d none=d:=rfl
theorem sIx_nat(n d k:Nat):sIx n d (some (k:Int))=min k n:=by
 show(if(k:Int)<0 then((k:Int)+(n:Int)).toNat else min (k:Int).toNat n)=min k n
 rw [if_neg (by omega),Int.toNat_natCast]
end
end HT
namespace L2
open PySem PySem.Spec PyProof.Rows
noncomputable abbrev TO:=St→Hp→(Option Int→Hp→Prop)→Prop
noncomputable def PO(X:Cx)(e:Option Expr)(t:TO):Prop:=
 ∀(pins:List (Addr×Obj)) (s:Shared) (σ:St) (H:Hp) (Q:Option Int→Hp→Prop),Inv X pins σ H s→t σ H Q→
  wpAny (model X.prog X.w) X.A (evalPart e X.env) (fun u s'=>∃o H',Inv X pins σ H' s'∧IsPart u o∧Q o H') X.xe s
noncomputable def tNoPart:TO:=fun _ H Q=>Q none H
noncomputable def tPart(t:TE):TO:=fun σ H Q=>t σ H fun x H1=>∃i,x=.int i∧Q (some i) H1
theorem intsAre_of{ns:List Int}:∀ {us:List Value},Vals (ns.map V.int) us→IntsAre us ns:=by
 induction ns with
 |nil=>intro us r;rw [List.map_nil]at r;cases r;exact .nil
 |cons n ns ih=>
  intro us r
  rw [List.map_cons]at r
  cases r with
  |cons r1 r2=>
   obtain⟨t,e⟩:=r1
   subst e
   exact .cons n t (ih r2)
section
variable{X:Cx}{e:Expr}{te:TE}{lo hi:Option Expr}{tl th:TO}{pos p2:Pos}
theorem po_none:PO X none tNoPart:=by
 intro pins s σ H Q I h
 rw [evalPart_none]
 exact wpAny_pure ⟨none,H,I,.none,h⟩
theorem po_some(h:PE X e te):PO X (some e) (tPart te):=by
 intro pins s σ H Q I hw
 rw [evalPart_some]
 refine thn (h pins s σ H _ I hw) fun u s1 ⟨x,H1,I1,r1,q1⟩=> ?_
 obtain⟨i,rfl,q⟩:=q1
 obtain⟨t,rfl⟩:=r1
 exact⟨some i,H1,I1,.int i t,q⟩
noncomputable def SlR(X:Cx)(r:V→Option Int→Option Int→Hp→VK→Prop):Prop:=
 ∀(pins:List (Addr×Obj)) (s:Shared) (σ:St) (H:Hp) (x:V) (v vl vu:Value) (lo hi:Option Int) (sl:Addr) (Q:VK),Inv X pins σ H s→RelV x v→s.heap.IsSliceOf sl vl vu .none→IsPart vl lo→IsPart vu hi→r x lo hi H Q→
  ∃T id,typeLookup (.type T) "__getitem__"=pure (some (.builtin id))∧s.TypeIs v T∧wpAny (model X.prog X.w) X.A (getItem v (.ref sl)) (EP X pins σ Q) X.xe s
noncomputable def tSl(r:V→Option Int→Option Int→Hp→VK→Prop)(te:TE)(tl th:TO):TE:=fun σ H Q=>te σ H fun x H1=>tl σ H1 fun l H2=>th σ H2 fun u H3=>r x l u H3 Q
theorem pe_slice{r:V→Option Int→Option Int→Hp→VK→Prop}(hr:SlR X r)(he:PE X e te)(hl:PO X lo tl)(hu:PO X hi th):PE X (.Subscript e (.Slice lo hi none p2) pos) (tSl r te tl th):=by
 intro pins s σ H Q I h
 refine Subscript_ (thn (he pins s σ H _ I h) fun v s1 ⟨x,H1,I1,r1,q1⟩=> ?_)
 refine wpAny_Slice (thn (hl pins s1 σ H1 _ I1 q1) fun vl s2 ⟨l,H2,I2,pl,q2⟩=>thn (hu pins s2 σ H2 _ I2 q2) fun vu s3 ⟨u,H3,I3,pu,q3⟩=> ?_)
 rw [evalPart_none]
 refine wpAny_pure ?_
 have I4:Inv X pins σ H3 {s3 with heap:=s3.heap.push {cls:=.type "slice",data:=.fields #[vl,vu,.none]}}:=I3.kept (t':=s3.toks) fun b ob q=>Heap.get?_push_of_some _ q
 obtain⟨T,id,hT,ht,hg⟩:=hr pins {s3 with heap:=s3.heap.push {cls:=.type "slice",data:=.fields #[vl,vu,.none]}} σ H3 x v vl vu l u s3.heap.objs.size Q I4 r1 (Heap.IsSliceOf.new ..) pl pu q3
 show wpAny (model X.prog X.w) X.A (subscriptTail e (.Slice lo hi none p2) v (.ref s3.heap.objs.size)) (EP X pins σ Q) X.xe {s3 with heap:=s3.heap.push {cls:=.type "slice",data:=.fields #[vl,vu,.none]}}
 exact tail_any (ops:=[.ref s3.heap.objs.size,v]) ht hT hg (by with_unfolding_all rfl)
noncomputable def cutV(xs:List V)(lo hi:Option Int):List V:=(xs.drop (HT.sIx xs.length 0 lo)).take (HT.sIx xs.length xs.length hi-HT.sIx xs.length 0 lo)
theorem cutV_length(xs:List V)(lo hi:Option Int):(cutV xs lo hi).length≤xs.length:=by
 unfold cutV
 rw [List.length_take,List.length_drop]
 omega
noncomputable def rSlT(K:PySem.W.Frag):V→Option Int→Option Int→Hp→VK→Prop:=fun x lo hi H Q=>∃a xs,x=.ref a∧SqT K H a xs∧
 ¬(HT.sIx xs.length 0 lo=0∧HT.sIx xs.length xs.length hi=xs.length)∧∀p,H p=none→Q (.ref p) (upd H p (.tup (cutV xs lo hi)))
noncomputable def rLtT(K:PySem.W.Frag):R2:=fun x y H Q=>∃a b ns ms,x=.ref a∧y=.ref b∧SqT K H a (ns.map V.int)∧SqT K H b (ms.map V.int)∧Q (.bl (HT.lexLt ns ms)) H
noncomputable def rCatT(K:PySem.W.Frag):R2:=fun x y H Q=>∃a b xs ys,x=.ref a∧y=.ref b∧SqT K H a xs∧SqT K H b ys∧xs≠[]∧xs.length+ys.length≤sizeLine∧
 (ys=[]→Q (.ref a) H)∧(ys≠[]→∀p,H p=none→Q (.ref p) (upd H p (.tup (xs++ys))))
end
end L2
namespace L2
open PySem PySem.Spec PyProof.Rows
noncomputable def ixN(n:Nat)(i:Int):Option Nat:=if 0≤i then(if i<n then some i.toNat else none)else if-(n:Int)≤i then some (i+n).toNat else none
noncomputable def atI{α:Type}(xs:List α)(i:Int):Option α:=(ixN xs.length i).bind fun j=>xs[j]?
theorem ixN_seq{n:Nat}{i:Int}{j:Nat}(h:ixN n i=some j):seqIndex? i n=some j∧j<n∧-(n:Int)≤i∧i<n:=by
 unfold ixN at h
 by_cases h0:0≤i
 ·rw [if_pos h0]at h
  by_cases h1:i<n
  ·rw [if_pos h1]at h
   have e:i.toNat=j:=Option.some.inj h
   exact⟨by rw [seqIndex_of h0 h1,e],by omega,by omega,h1⟩
  ·rw [if_neg h1]at h;cases h
 ·rw [if_neg h0]at h
  by_cases h1:-(n:Int)≤i
  ·rw [if_pos h1]at h
   have e:(i+n).toNat=j:=Option.some.inj h
   exact⟨by rw [seqIndex_neg (by omega) h1,e],by omega,h1,by omega⟩
  ·rw [if_neg h1]at h;cases h
theorem atI_get{α:Type}{xs:List α}{i:Int}{v:α}(h:atI xs i=some v):∃j,seqIndex? i xs.length=some j∧xs[j]?=some v∧j<xs.length∧-(xs.length:Int)≤i∧i<xs.length:=by
 unfold atI at h
 cases e:ixN xs.length i with
 |none=>rw [e]at h;cases h
 |some j=>
  rw [e]at h
  obtain⟨h1,h2,h3,h4⟩:=ixN_seq e
  exact⟨j,h1,h,h2,h3,h4⟩
theorem atI_nat{α:Type}{xs:List α}{j:Nat}{v:α}(h:xs[j]?=some v):atI xs (j:Int)=some v:=by
 have hj:j<xs.length:=(List.getElem?_eq_some_iff.mp h).1
 have e:ixN xs.length (j:Int)=some j:=by
  unfold ixN
  rw [if_pos (by omega),if_pos (by omega)];simp
 unfold atI;rw [e];exact h
noncomputable def PlainIx(b:Expr):Prop:=∀o i,subscripted b false o i=operate [o,i] (getItem o i)
noncomputable def IxR(X:Cx)(r:R2):Prop:=
 ∀(value slice:Expr) (pins:List (Addr×Obj)) (s:Shared) (σ:St) (H:Hp) (x y:V) (v u:Value) (Q:VK),Inv X pins σ H s→RelV x v→RelV y u→r x y H Q→
  subscripted slice false v u=operate [v,u] (getItem v u)→wpAny (model X.prog X.w) X.A (subscriptTail value slice v u) (EP X pins σ Q) X.xe s
noncomputable def MtR(X:Cx)(id:String)(r:V→List V→Hp→VK→Prop):Prop:=
 ∀(pins:List (Addr×Obj)) (s:Shared) (σ:St) (H:Hp) (x:V) (xs:List V) (v:Value) (us:List Value) (Q:VK),Inv X pins σ H s→RelV x v→Vals xs us→r x xs H Q→
  wpAny (model X.prog X.w) X.A (call (.builtin id) (v::us)) (EP X pins σ Q) X.xe s
section
variable{X:Cx}{a b:Expr}{ta tb:TE}{pos:Pos}
theorem pe_ix{r:R2}(hr:IxR X r)(ha:PE X a ta)(hb:PE X b tb)(hs:PlainIx b):PE X (.Subscript a b pos) (tOp r ta tb):=by
 intro pins s σ H Q I h
 exact Subscript_ (binT ha hb I h fun v u s2 x y H2 I2 rx ry q=>hr a b pins s2 σ H2 x y v u Q I2 rx ry q (hs _ _))
noncomputable def rIxL(K:PySem.W.Frag):R2:=fun x y H Q=>∃p xs i v,x=.ref p∧y=.int i∧SqL K H p xs∧atI xs i=some v∧Q v H
noncomputable def rIxT(K:PySem.W.Frag):R2:=fun x y H Q=>∃p xs i v,x=.ref p∧y=.int i∧SqT K H p xs∧atI xs i=some v∧Q v H
noncomputable def rIxS:R2:=fun x y H Q=>∃z i c,x=.str z∧y=.int i∧z.length≤sizeLine∧atI z.cps.toList i=some c∧Q (.str ⟨#[c]⟩) H
theorem ix_list:IxR X (rIxL X.K):=by
 intro value slice pins s σ H x y v u Q I rx ry h hs
 obtain⟨p,xs,i,z,rfl,rfl,hq,he,q⟩:=h
 cases rx
 obtain⟨t,rfl⟩:=ry
 obtain⟨its,r,pl,hz⟩:=I.list hq
 obtain⟨j,h1,h2,h3,h4,h5⟩:=atI_get he
 obtain⟨w,ew,rw'⟩:=r.get h2
 have hl:=r.length
 have hn:=line63
 have fin:EP X pins σ Q w s:=⟨z,H,I,rw',q⟩
 by_cases h0:0≤i
 ·have hj:i.toNat=j:=by
   rw [seqIndex_of h0 h5]at h1
   exact Option.some.inj h1
  exact item_listR pl.isList h0 (by omega) (by rw [hj];simpa using ew) fin hs
 ·have hj:(i+(its.toArray.size:Int)).toNat=j:=by
   rw [seqIndex_neg (by omega) h4]at h1
   rw [List.size_toArray,←hl]
   exact Option.some.inj h1
  exact subscriptTail_builtinR (x:=w) pl.isList.typeIs slot_list_getitem.lookup
   (wpAny_getItem_list_neg (Q:=fun r s'=>r=w∧EP X pins σ Q r s') pl.isList (by omega) (by rw [List.size_toArray]<;>omega) (by omega) (by rw [hj];simpa using ew) ⟨rfl,fin⟩) hs
theorem ix_tup:IxR X (rIxT X.K):=by
 intro value slice pins s σ H x y v u Q I rx ry h hs
 obtain⟨p,xs,i,z,rfl,rfl,hq,he,q⟩:=h
 cases rx
 obtain⟨t,rfl⟩:=ry
 obtain⟨its,r,pl,hz⟩:=I.tuple hq
 obtain⟨j,h1,h2,h3,h4,h5⟩:=atI_get he
 obtain⟨w,ew,rw'⟩:=r.get h2
 have hl:=r.length
 have hn:=line63
 have fin:EP X pins σ Q w s:=⟨z,H,I,rw',q⟩
 exact subscriptTail_builtinR (x:=w) pl.typeIs slot_tuple_getitem.lookup
  (getItem_tuple (j:=j) (Q:=fun r s'=>r=w∧EP X pins σ Q r s') pl (by omega) (by omega) (by rw [List.size_toArray,←hl];exact h1) (by simpa using ew) ⟨rfl,fin⟩) hs
theorem ix_str:IxR X rIxS:=by
 intro value slice pins s σ H x y v u Q I rx ry h hs
 obtain⟨z,i,c,rfl,rfl,hz,he,q⟩:=h
 obtain⟨t,rfl⟩:=rx
 obtain⟨t',rfl⟩:=ry
 obtain⟨j,h1,h2,h3,h4,h5⟩:=atI_get he
 have hl:z.cps.toList.length=z.length:=by simp [Str.length]
 rw [hl]at h1 h4 h5
 have hn:=line63
 exact tail_any (typeIs_str s z t) slot_str_getitem.lookup (getItem_str (c:=c) (by
  have e1:decide (i< -(2 ^ 63:Int))=false:=decide_eq_false (by omega)
  have e2:decide (i≥2 ^ 63)=false:=decide_eq_false (by omega)
  rw [e1,e2,Bool.or_false]) (by rw [h1];simpa using h2) ⟨.str ⟨#[c]⟩,H,I.tok _,⟨_,rfl⟩,q⟩) hs
noncomputable def rIx(K:PySem.W.Frag):R2:=fun x y H Q=>rIxL K x y H Q∨rIxT K x y H Q∨rIxS x y H Q
theorem mapSeq_set(its:List Value)(n j:Nat)(u:Value):Obj.mapSeq (·.setIfInBounds j u) {cls:=.type "list",data:=.seq its.toArray n}= {cls:=.type "list",data:=.seq (its.set j u).toArray n}:=by
 simp [Obj.mapSeq]
theorem Inv.lst{pins:List (Addr×Obj)}{σ:St}{H:Hp}{s:Shared}{p:Addr}{xs:List V}(I:Inv X pins σ H s)(h:H p=some (.lst xs)):
 ∃(its:List Value) (n:Nat),Vals xs its∧s.heap.get? p=some {cls:=.type "list",data:=.seq its.toArray n}∧xs.length≤sizeLine:=by
 obtain⟨z,its,n,r,e⟩:=I.hok p _ h
 exact⟨its,n,r,e,z⟩
theorem Inv.lstUpd{pins:List (Addr×Obj)}{σ:St}{H:Hp}{s:Shared}{p:Addr}{xs ys:List V}{its its':List Value}{n n':Nat}{f:Obj→Obj}(I:Inv X pins σ H s)(h:H p=some (.lst xs))
 (ho:s.heap.get? p=some {cls:=.type "list",data:=.seq its.toArray n})(hf:f {cls:=.type "list",data:=.seq its.toArray n}= {cls:=.type "list",data:=.seq its'.toArray n'})(r:Vals ys its')(hz:ys.length≤sizeLine)(t:Nat):
 Inv X pins σ (upd H p (.lst ys)) {s with heap:=s.heap.update p f,toks:=t}:=by
 have e:(s.heap.update p f).get? p=some {cls:=.type "list",data:=.seq its'.toArray n'}:=by
  rw [Heap.get?_update_self f ho (by rw [hf]<;>rfl),hf]
 refine I.write (x:=p) (e:=p) (by rw [h];trivial) (.inl rfl) (fun b u hb q=>(Heap.get?_update_other _ _ (Ne.symm hb)).trans q) ⟨_,e⟩ ?_
 exact⟨hz,its',n',r,e⟩
noncomputable def rSetL:V→V→V→Hp→(Hp→Prop)→Prop:=fun o i v H Q=>∃p xs k j,o=.ref p∧i=.int k∧H p=some (.lst xs)∧ixN xs.length k=some j∧Q (upd H p (.lst (xs.set j v)))
theorem set_list:PSet X rSetL:=by
 intro pins s σ H o i v ov iv u Q I ro ri rv h
 obtain⟨p,xs,k,j,rfl,rfl,hp,hj,q⟩:=h
 cases ro
 obtain⟨t,rfl⟩:=ri
 obtain⟨its,n,r,ho,hz⟩:=I.lst hp
 obtain⟨h1,h2,h3,h4⟩:=ixN_seq hj
 have hl:=r.length
 have hn:=line63
 have I':Inv X pins σ (upd H p (.lst (xs.set j v))) {s with heap:=s.heap.update p (Obj.mapSeq (·.setIfInBounds j u))}:=
  I.lstUpd hp ho (mapSeq_set its n j u) (r.set rv j) (by rw [List.length_set];exact hz) s.toks
 by_cases h0:0≤k
 ·have hk:k.toNat=j:=by
   rw [seqIndex_of h0 h4]at h1
   exact Option.some.inj h1
  exact PySem.W.ki_setAt ho h0 (by omega) (by rw [List.size_toArray,←hl];exact h4) (by rw [hk];exact⟨_,I',q⟩)
 ·have hk:(k+(its.toArray.size:Int)).toNat=j:=by
   rw [seqIndex_neg (by omega) h3]at h1
   rw [List.size_toArray,←hl]
   exact Option.some.inj h1
  exact PySem.W.ki_setBack ho (by omega) (by rw [List.size_toArray,←hl];exact h3) (by omega) (by rw [hk];exact⟨_,I',q⟩)
theorem slice_bounds(lo hi:Option Int)(n:Nat):(sliceBounds lo hi none n).1=((HT.sIx n 0 lo:Nat):Int)∧(sliceBounds lo hi none n).2.1=((HT.sIx n n hi:Nat):Int)∧(sliceBounds lo hi none n).2.2=1:=by
 refine⟨?_,?_,rfl⟩
 ·cases lo with
  |none=>simp [sliceBounds,HT.sIx]
  |some i=>
   simp only [sliceBounds,HT.sIx,Option.getD_none,show(1:Int)>0 by decide,if_true]
   by_cases h:i<0
   ·simp only [h,if_true]<;>omega
   ·simp only [h,if_false]<;>omega
 ·cases hi with
  |none=>simp [sliceBounds,HT.sIx]
  |some i=>
   simp only [sliceBounds,HT.sIx,Option.getD_none,show(1:Int)>0 by decide,if_true]
   by_cases h:i<0
   ·simp only [h,if_true]<;>omega
   ·simp only [h,if_false]<;>omega
theorem slicePick_cut(its:List Value)(lo hi:Option Int):slicePick its.toArray lo hi none=((its.drop (HT.sIx its.length 0 lo)).take (HT.sIx its.length its.length hi-HT.sIx its.length 0 lo)).toArray:=by
 obtain⟨h1,h2,h3⟩:=slice_bounds lo hi its.toArray.size
 unfold slicePick
 rw [h1,h2,h3]
 simp only [sliceRange_one,pick_run,List.size_toArray]<;>rfl
noncomputable def rSlL(K:PySem.W.Frag):V→Option Int→Option Int→Hp→VK→Prop:=fun x lo hi H Q=>∃a xs,x=.ref a∧SqL K H a xs∧∀p,H p=none→Q (.ref p) (upd H p (.lst (cutV xs lo hi)))
theorem sl_list:SlR X (rSlL X.K):=by
 intro pins s σ H x v vl vu lo hi sl Q I rx hs pl pu h
 obtain⟨a,xs,rfl,hx,q⟩:=h
 cases rx
 obtain⟨its,r,ht,hz⟩:=I.list hx
 have hlen:=r.length
 refine⟨"list",_,slot_list_getitem.lookup,ht.isList.typeIs,?_⟩
 refine wpAny_getItem_list_slice ht.isList hs pl pu .none (by simp) ?_ (by rw [List.size_toArray]<;>omega)
 rw [slicePick_cut,←hlen]
 refine⟨.ref s.heap.objs.size,_,I.laid (t':=s.toks) (o:=.lst (cutV xs lo hi)) (fun b ob q=>Heap.get?_push_of_some _ q) (Nat.le_refl _) ?_,rfl,q _ (I.hok.fresh (Nat.le_refl _))⟩
 exact⟨Nat.le_trans (cutV_length xs lo hi) hz,_,0,(r.drop (HT.sIx xs.length 0 lo)).take (HT.sIx xs.length xs.length hi-HT.sIx xs.length 0 lo),Heap.get?_push_size _ rfl⟩
noncomputable def flatV:V→Bool
 | .non=>true
 | .bl _=>true
 | .int _=>true
 | .str _=>true
 |_=>false
noncomputable def eqV:V→V→Bool
 | .non,.non=>true
 | .bl a,.bl b=>a==b
 | .bl a,.int b=>(if a then 1 else 0)==b
 | .int a,.bl b=>a==(if b then 1 else 0)
 | .int a,.int b=>a==b
 | .str a,.str b=>a==b
 |_,_=>false
theorem eqAt_V{A:Around}{s:Shared}{y x:V}{u v:Value}(ry:RelV y u)(rx:RelV x v)(fy:flatV y=true)(fx:flatV x=true):SeqAt.EqAt A s u v (eqV y x):=by
 cases y with
 |non=>
  cases ry
  cases x with
  |non=>cases rx;exact SeqAt.EqAt.same _
  |bl b=>cases rx;exact SeqAt.EqAt.none_bool b
  |int b=>obtain⟨t,rfl⟩:=rx;exact SeqAt.EqAt.none_int b t
  |str b=>obtain⟨t,rfl⟩:=rx;exact SeqAt.EqAt.none_str b t
  |_=>exact absurd (show false=true from fx) Bool.false_ne_true
 |bl a=>
  cases ry
  cases x with
  |non=>cases rx;exact SeqAt.EqAt.bool_none a
  |bl b=>cases rx;exact SeqAt.EqAt.bool_bool a b
  |int b=>obtain⟨t,rfl⟩:=rx;exact SeqAt.EqAt.bool_int a b t
  |str b=>obtain⟨t,rfl⟩:=rx;exact SeqAt.EqAt.bool_str a b t
  |_=>exact absurd (show false=true from fx) Bool.false_ne_true
 |int a=>
  obtain⟨t',rfl⟩:=ry
  cases x with
  |non=>cases rx;exact SeqAt.EqAt.int_none a t'
  |bl b=>cases rx;exact SeqAt.EqAt.int_bool a t' b
  |int b=>obtain⟨t,rfl⟩:=rx;exact SeqAt.EqAt.int_int a t' b t
  |str b=>obtain⟨t,rfl⟩:=rx;exact SeqAt.EqAt.int_str a t' b t
  |_=>exact absurd (show false=true from fx) Bool.false_ne_true
 |str a=>
  obtain⟨t',rfl⟩:=ry
  cases x with
  |non=>cases rx;exact SeqAt.EqAt.str_none a t'
  |bl b=>cases rx;exact SeqAt.EqAt.str_bool a t' b
  |int b=>obtain⟨t,rfl⟩:=rx;exact SeqAt.EqAt.str_int a t' b t
  |str b=>obtain⟨t,rfl⟩:=rx;exact SeqAt.EqAt.str_str a t' b t
  |_=>exact absurd (show false=true from fx) Bool.false_ne_true
 |_=>exact absurd (show false=true from fy) Bool.false_ne_true
noncomputable def eqU(x:V)(u:Value):Bool:=match u with
 | .none=>eqV .non x
 | .bool b=>eqV (.bl b) x
 | .int i _=>eqV (.int i) x
 | .str z _=>eqV (.str z) x
 |_=>false
theorem eqU_of{x y:V}{u:Value}(r:RelV y u)(f:flatV y=true):eqU x u=eqV y x:=by
 cases y with
 |non=>cases r;rfl
 |bl b=>cases r;rfl
 |int i=>obtain⟨t,rfl⟩:=r;rfl
 |str z=>obtain⟨t,rfl⟩:=r;rfl
 |_=>exact absurd (show false=true from f) Bool.false_ne_true
theorem any_eqU{x:V}:∀ {xs:List V} {us:List Value},Vals xs us→xs.all flatV=true→us.any (eqU x)=xs.any fun y=>eqV y x
 |_,_,.nil,_=>rfl
 |y::xs,u::us,.cons r t,f=>by
  rw [List.all_cons,Bool.and_eq_true]at f
  rw [List.any_cons,List.any_cons,eqU_of r f.1,any_eqU t f.2]
theorem mem_eqAt{A:Around}{s:Shared}{x:V}{v:Value}(rx:RelV x v)(fx:flatV x=true):∀ {xs:List V} {us:List Value},Vals xs us→xs.all flatV=true→∀u∈us,SeqAt.EqAt A s u v (eqU x u)
 |_,_,.nil,_=>fun u hu=>by cases hu
 |y::xs,u::us,.cons r t,f=>fun u' hu=>by
  rw [List.all_cons,Bool.and_eq_true]at f
  rcases List.mem_cons.mp hu with rfl|hu
  ·rw [eqU_of r f.1];exact eqAt_V r rx f.1 fx
  ·exact mem_eqAt rx fx t f.2 u' hu
noncomputable def inV(x:V)(xs:List V):Bool:=xs.any fun y=>eqV y x
noncomputable def rIn(K:PySem.W.Frag)(neg:Bool):R2:=fun x y H Q=>∃p xs,y=.ref p∧(SqL K H p xs∨SqT K H p xs)∧flatV x=true∧xs.all flatV=true∧Q (.bl (if neg then !inV x xs else inV x xs)) H
theorem op_in_seq:OpR X (compareOp .In) (rIn X.K false):=by
 intro pins s σ H x y v u Q I rx ry h
 obtain⟨p,xs,rfl,hq,fx,fs,q⟩:=h
 cases ry
 rcases hq with hq|hq
 ·obtain⟨its,r,pl,hz⟩:=I.list hq
  refine SeqAt.in_listAt (eqU x) pl.isList (fun w hw=>mem_eqAt rx fx r fs w (by simpa using hw)) ⟨.bl _,H,I,rfl,?_⟩
  rw [show its.toArray.any (eqU x)=its.any (eqU x) by simp,any_eqU r fs]
  exact q
 ·obtain⟨its,r,pl,hz⟩:=I.tuple hq
  refine SeqAt.in_tupleAt (eqU x) pl (fun w hw=>mem_eqAt rx fx r fs w (by simpa using hw)) ⟨.bl _,H,I,rfl,?_⟩
  rw [show its.toArray.any (eqU x)=its.any (eqU x) by simp,any_eqU r fs]
  exact q
theorem op_notIn_seq:OpR X (compareOp .NotIn) (rIn X.K true):=by
 intro pins s σ H x y v u Q I rx ry h
 obtain⟨p,xs,rfl,hq,fx,fs,q⟩:=h
 cases ry
 rcases hq with hq|hq
 ·obtain⟨its,r,pl,hz⟩:=I.list hq
  refine SeqAt.notIn_listAt (eqU x) pl.isList (fun w hw=>mem_eqAt rx fx r fs w (by simpa using hw)) ⟨.bl _,H,I,rfl,?_⟩
  rw [show its.toArray.any (eqU x)=its.any (eqU x) by simp,any_eqU r fs]
  exact q
 ·obtain⟨its,r,pl,hz⟩:=I.tuple hq
  refine SeqAt.notIn_tupleAt (eqU x) pl (fun w hw=>mem_eqAt rx fx r fs w (by simpa using hw)) ⟨.bl _,H,I,rfl,?_⟩
  rw [show its.toArray.any (eqU x)=its.any (eqU x) by simp,any_eqU r fs]
  exact q
theorem call_len_seq:CallR X (.builtin "len") (fun xs H Q=>∃p ys,xs=[.ref p]∧(SqL X.K H p ys∨SqT X.K H p ys)∧Q (.int ys.length) H):=by
 intro pins s σ H xs us Q I r h
 obtain⟨p,ys,rfl,hq,q⟩:=h
 obtain⟨u,rfl,rx⟩:=vals1 r
 cases rx
 have hn:=line63
 rcases hq with hq|hq
 ·obtain⟨its,r',pl,hz⟩:=I.list hq
  have hlen:=r'.length
  exact Calls.call_len_list pl.isList (by simp only [List.size_toArray]<;>omega) ⟨.int ys.length,H,I.tok _,⟨s.toks+1,by rw [List.size_toArray,hlen]⟩,q⟩
 ·obtain⟨its,r',pl,hz⟩:=I.tuple hq
  have hlen:=r'.length
  exact len_tuple pl (by simp only [List.size_toArray]<;>omega) ⟨.int ys.length,H,I.tok _,⟨s.toks+1,by rw [List.size_toArray,hlen]⟩,q⟩
theorem call_len_str:CallR X (.builtin "len") (fun xs H Q=>∃z,xs=[.str z]∧z.length≤sizeLine∧Q (.int z.length) H):=by
 intro pins s σ H xs us Q I r h
 obtain⟨z,rfl,hz,q⟩:=h
 obtain⟨u,rfl,t,rfl⟩:=vals1 r
 have hn:=line63
 exact len_str (by omega) ⟨.int z.length,H,I.tok _,⟨_,rfl⟩,q⟩
theorem call_list_of:CallR X (.type "list") (fun xs H Q=>∃p ys,xs=[.ref p]∧(SqL X.K H p ys∨SqT X.K H p ys)∧∀l,H l=none→Q (.ref l) (upd H l (.lst ys))):=by
 intro pins s σ H xs us Q I r h
 obtain⟨p,ys,rfl,hq,q⟩:=h
 obtain⟨u,rfl,rx⟩:=vals1 r
 cases rx
 have fin:∀(its:List Value),Vals ys its→ys.length≤sizeLine→∀(h':Heap) (c':Nat),(∀b o',s.heap.get? b=some o'→h'.get? b=some o')→
  h'.get? s.heap.objs.size=some {cls:=.type "list",dict:=none,data:=.seq its.toArray c',slots:= #[]}→EP X pins σ Q (.ref s.heap.objs.size) {s with heap:=h'}:=fun its r' hz h' c' kp e=>
  ⟨.ref s.heap.objs.size,_,I.laid (t':=s.toks) kp (Nat.le_refl _) (show ObjOk X.prog X.w _ h' _ (.lst ys)from⟨hz,its,c',r',e⟩),rfl,q _ (I.hok.fresh (Nat.le_refl _))⟩
 rcases hq with hq|hq
 ·obtain⟨its,r',pl,hz⟩:=I.list hq
  have hlen:=r'.length
  obtain⟨o,ho,hc,n,hd⟩:=pl.isList
  exact call_list_seq p (.inl rfl) ho hc hd (fun h' c' kp e=>fin its r' hz h' c' kp e) (by simp only [List.size_toArray]<;>omega)
 ·obtain⟨its,r',pl,hz⟩:=I.tuple hq
  have hlen:=r'.length
  obtain⟨o,ho,hc,n,hd⟩:=pl
  exact call_list_seq p (.inr rfl) ho hc hd (fun h' c' kp e=>fin its r' hz h' c' kp e) (by simp only [List.size_toArray]<;>omega)
noncomputable def tyV(K:PySem.W.Frag)(T:String)(x:V)(H:Hp):Prop:=match x with
 | .str _=>T="str"
 | .int _=>T="int"
 | .ref p=>(T="list"∧∃xs,SqL K H p xs)∨(T="tuple"∧∃o,K.lookup p=some o∧o.cls=.type "tuple"∧o.dict=none)∨
    (T="dict"∧((∃kvs,H p=some (.dK kvs))∨∃kvs,H p=some (.dT kvs)))∨(T="set"∧∃S n,H p=some (.set S n))
 |_=>False
theorem tyV_is{pins:List (Addr×Obj)}{σ:St}{H:Hp}{s:Shared}{T:String}{x:V}{v:Value}(I:Inv X pins σ H s)(r:RelV x v)(ty:tyV X.K T x H):
 s.TypeIs v T∧∀a,v=.ref a→∃ob,s.heap.get? a=some ob∧ob.dict=none:=by
 cases x with
 |str z=>
  obtain⟨t,rfl⟩:=r
  cases (show T="str" from ty)
  exact⟨typeIs_str s z t,fun _ e=>nomatch e⟩
 |int i=>
  obtain⟨t,rfl⟩:=r
  cases (show T="int" from ty)
  exact⟨typeIs_int s i t,fun _ e=>nomatch e⟩
 |ref p=>
  cases r
  rcases ty with⟨rfl,xs,hq⟩|⟨rfl,o,hk,hc,hd⟩|⟨rfl,hk⟩|⟨rfl,S,n,hk⟩
  ·obtain⟨its,_,pl,_⟩:=I.list hq
   refine⟨pl.isList.typeIs,fun a e=> ?_⟩
   cases e
   obtain⟨o,n,e,c,hd,_⟩:=pl
   exact⟨o,e,hd⟩
  ·refine⟨⟨o,I.kIn p o hk,hc⟩,fun a e=> ?_⟩
   cases e
   exact⟨o,I.kIn _ o hk,hd⟩
  ·have z:∃o,s.heap.get? p=some o∧o.ExactDict:=by
    rcases hk with⟨kvs,hk⟩|⟨kvs,hk⟩
    ·obtain⟨_,_,_,_,o,_,_,e,ex,_⟩:=I.hok p _ hk
     exact⟨o,e,ex⟩
    ·obtain⟨_,_,_,_,o,_,_,e,ex,_⟩:=I.hok p _ hk
     exact⟨o,e,ex⟩
   obtain⟨o,e,ex⟩:=z
   refine⟨⟨o,e,ex.1⟩,fun a e2=> ?_⟩
   cases e2
   exact⟨o,e,ex.2.1⟩
  ·obtain⟨o,_,_,_,e,ex,_⟩:=I.hok p _ hk
   refine⟨⟨o,e,ex.1⟩,fun a e2=> ?_⟩
   cases e2
   exact⟨o,e,ex.2.1⟩
 |_=>exact False.elim ty
noncomputable def tBM0(K:PySem.W.Frag)(T:String)(r:V→List V→Hp→VK→Prop)(to:TE):TE:=fun σ H Q=>to σ H fun x H1=>tyV K T x H1∧r x [] H1 Q
noncomputable def tBM(K:PySem.W.Frag)(T:String)(r:V→List V→Hp→VK→Prop)(to:TE)(t:TA):TE:=fun σ H Q=>to σ H fun x H1=>tyV K T x H1∧t σ H1 fun xs H2=>r x xs H2 Q
variable{o e:Expr}{es:List Expr}{to:TE}{t:TA}{name:Str}{apos cpos:Pos}{T id:String}{r:V→List V→Hp→VK→Prop}
theorem pe_bm(pa:PlainAttrs T)(slot:Slot T name id)(hty:typeOf (.builtin id)=pure (.type "method_descriptor"))(hm:MtR X id r)(ho:PE X o to)(ha:PA X (e::es) t)
 (hbase:attributeBase o name X.env (eval o X.env)=eval o X.env:=by rfl)
 (hfew:((backTo cpos (starEach (e::es) X.env)).all (fun x=> !x.1)&&(backToKw cpos (keywordEach [] X.env)).all (fun x=>x.1.isSome)
   &&decide ((e::es).length+([]:List Keyword).length+(if([]:List Keyword).isEmpty then 0 else 1)<30))=true:=by rfl)
 (hline:(apos.endLine==cpos.line)=true:=by rfl)(hs:starEach (e::es) X.env=(false,eval e X.env)::starEach es X.env:=by rfl)(hplain:(backTo cpos (starEach es X.env)).any (·.1)=false:=by rfl):
 PE X (.Call (.Attribute o name apos) (e::es) [] cpos) (tBM X.K T r to t):=by
 intro pins s σ H Q I h
 refine wpAny_Call_method_late hbase hfew hline rfl (thn (ho pins s σ H _ I h) fun v s1 ⟨x,H1,I1,r1,ty,q1⟩=> ?_)
 obtain⟨h1,h2⟩:=tyV_is I1 r1 ty
 refine⟨T,id,pa,slot,hty,h1,h2,?_⟩
 have hA:=ha cpos pins s1 σ H1 _ I1 q1
 rw [hs]at hA⊢
 refine Calls.callWith_builtin (by show(false||(backTo cpos (starEach es X.env)).any (·.1))=false;rw [hplain]<;>rfl) (Calls.evalArgs_plain ?_)
 exact thn hA fun us s2 ⟨vs,H2,I2,r2,q2⟩=>hm pins s2 σ H2 x vs v us Q I2 r1 r2 q2
/-xs.append(e),list.index on a module's tuple .. are MtR facts of 06m-/
end
end L2
namespace L2
open PySem PySem.Spec PyProof.Rows
noncomputable def MtM(X:Cx)(id:String)(r:V→List V→Hp→VK→Prop):Prop:=
 ∀(pins:List (Addr×Obj)) (s:Shared) (σ:St) (H:Hp) (x:V) (xs:List V) (v:Value) (us:List Value) (Q:VK),Inv X pins σ H s→RelV x v→Vals xs us→r x xs H Q→
  wpAny (model X.prog X.w) X.A (call (.builtin id) (v::us)) (EP X pins σ Q) X.xe s
theorem Vals.one:∀ {x:V} {us:List Value},Vals [x] us→∃u,us=[u]∧RelV x u
 |_,_,.cons r .nil=>⟨_,rfl,r⟩
theorem Vals.two:∀ {x y:V} {us:List Value},Vals [x,y] us→∃u v,us=[u,v]∧RelV x u∧RelV y v
 |_,_,_,.cons r (.cons q .nil)=>⟨_,_,rfl,r,q⟩
theorem Vals.reverse{xs:List V}{us:List Value}(h:Vals xs us):Vals xs.reverse us.reverse:=by
 induction h with
 |nil=>exact .nil
 |cons r t ih=>rw [List.reverse_cons,List.reverse_cons];exact Vals.append ih (.cons r .nil)
theorem Vals.rep{xs:List V}{us:List Value}(h:Vals xs us):∀k:Nat,Vals (List.replicate k xs).flatten (List.replicate k us).flatten
 |0=> .nil
 |k+1=>by
  rw [List.replicate_succ,List.replicate_succ,List.flatten_cons,List.flatten_cons]
  exact Vals.append h (Vals.rep h k)
theorem foldl_rep(its:List Value):∀(k:Nat) (acc:List Value),
 List.foldl (fun x1 x2=>x1++x2) acc.toArray (List.replicate k its.toArray)=(acc++(List.replicate k its).flatten).toArray
 |0,acc=>by simp
 |k+1,acc=>by
  have e:acc.toArray++its.toArray=(acc++its).toArray:=by simp
  have e2:(acc++its)++(List.replicate k its).flatten=acc++(List.replicate (k+1) its).flatten:=by
   rw [List.replicate_succ,List.flatten_cons,List.append_assoc]
  rw [←e2,←foldl_rep its k (acc++its),←e,List.replicate_succ,List.foldl_cons]
section
variable{X:Cx}{pins:List (Addr×Obj)}{σ:St}{H:Hp}{s:Shared}{l b:Addr}{xs ys zs:List V}
theorem Inv.lset{its its':List Value}{n:Nat}{f:Array Value→Array Value}{t':Nat}(I:Inv X pins σ H s)(hH:H l=some (.lst xs))
 (e:s.heap.get? l=some {cls:=.type "list",data:=.seq its.toArray n})(hf:f its.toArray=its'.toArray)(hv:Vals ys its')(hz:ys.length≤sizeLine):
 Inv X pins σ (upd H l (.lst ys)) {s with heap:=s.heap.update l (Obj.mapSeq f),toks:=t'}:=by
 have q:=PySem.IsL.update e f
 rw [hf]at q
 refine I.write (x:=l) (e:=l) (by rw [hH];exact trivial) (.inl rfl) (fun b' u hb hu=>(Heap.get?_update_other s.heap (Obj.mapSeq f) (Ne.symm hb)).trans hu) ⟨_,q⟩ ?_
 exact⟨hz,its',_,hv,q⟩
theorem Inv.lnew{its:List Value}{t':Nat}(I:Inv X pins σ H s)(hv:Vals ys its)(hz:ys.length≤sizeLine):
 Inv X pins σ (upd H s.heap.objs.size (.lst ys)) {s with heap:=s.heap.push {cls:=.type "list",data:=.seq its.toArray},toks:=t'}:=
 I.laid (fun _ _ q=>Heap.get?_push_of_some _ q) (Nat.le_refl _) ⟨hz,its,0,hv,Heap.get?_push_size _ rfl⟩
theorem Inv.fresh(I:Inv X pins σ H s):H s.heap.objs.size=none:=I.hok.fresh (Nat.le_refl _)
theorem Inv.lstM(I:Inv X pins σ H s)(hH:H l=some (.lst xs)):xs.length≤sizeLine∧∃(its:List Value) (n:Nat),Vals xs its∧xs.length=its.length∧s.heap.get? l=some {cls:=.type "list",data:=.seq its.toArray n}:=by
 obtain⟨z,its,n,r,e⟩:=I.hok l _ hH
 exact⟨z,its,n,r,r.length,e⟩
theorem notLongL{n:Nat}(h:n≤sizeLine):Builtin.List.listTooLong n=false:=by
 unfold Builtin.List.listTooLong
 exact decide_eq_false (by omega)
end
section
variable{X:Cx}
noncomputable def rAppend:V→List V→Hp→VK→Prop:=fun x vs H Q=>∃l xs y,x=.ref l∧vs=[y]∧H l=some (.lst xs)∧xs.length<sizeLine∧Q .non (upd H l (.lst (xs++[y])))
theorem mt_append:MtM X "list.append" rAppend:=by
 intro pins s σ H x vs v us Q I rx rv h
 obtain⟨l,xs,y,rfl,rfl,hH,hz,q⟩:=h
 cases rx
 obtain⟨u,rfl,ru⟩:=rv.one
 obtain⟨z,its,n,r,hl,e⟩:=I.lstM hH
 refine call_meets F.slot_list_append ⟨_,e,rfl⟩ F.entry_list_append (F.args_list_append_2 _ _) (PySem.list_append l its.toArray n u (by rw [List.size_toArray];omega)) ⟨e,?_⟩
 refine⟨.non,_,I.lset (its':=its++[u]) hH e (by simp) (r.append (.cons ru .nil)) ?_,rfl,q⟩
 rw [List.length_append,List.length_singleton]
 omega
noncomputable def rExtend:V→List V→Hp→VK→Prop:=fun x vs H Q=>∃l b xs zs,x=.ref l∧vs=[.ref b]∧H l=some (.lst xs)∧H b=some (.lst zs)∧xs.length+zs.length≤sizeLine∧Q .non (upd H l (.lst (xs++zs)))
noncomputable def rPop:V→List V→Hp→VK→Prop:=fun x vs H Q=>∃l xs y,x=.ref l∧vs=[]∧H l=some (.lst xs)∧xs[xs.length-1]?=some y∧Q y (upd H l (.lst xs.dropLast))
noncomputable def rPopAt:V→List V→Hp→VK→Prop:=fun x vs H Q=>∃l xs i k y,x=.ref l∧vs=[.int i]∧H l=some (.lst xs)∧-(2 ^ 63)≤i∧i<2 ^ 63∧seqIndex? i xs.length=some k∧xs[k]?=some y∧Q y (upd H l (.lst (xs.eraseIdx k)))
noncomputable def rReverse:V→List V→Hp→VK→Prop:=fun x vs H Q=>∃l xs,x=.ref l∧vs=[]∧H l=some (.lst xs)∧Q .non (upd H l (.lst xs.reverse))
noncomputable def rClear:V→List V→Hp→VK→Prop:=fun x vs H Q=>∃l xs,x=.ref l∧vs=[]∧H l=some (.lst xs)∧Q .non (upd H l (.lst []))
noncomputable def rCat:R2:=fun x y H Q=>∃l b xs zs,x=.ref l∧y=.ref b∧H l=some (.lst xs)∧H b=some (.lst zs)∧xs.length+zs.length≤sizeLine∧∀p,H p=none→Q (.ref p) (upd H p (.lst (xs++zs)))
noncomputable def rRep:R2:=fun x y H Q=>∃l k xs,x=.ref l∧y=.int k∧H l=some (.lst xs)∧-(2 ^ 63)≤k∧k<2 ^ 63∧xs.length*k.toNat≤sizeLine∧
 ∀p,H p=none→Q (.ref p) (upd H p (.lst (List.replicate k.toNat xs).flatten))
theorem len_rep{α:Type}(xs:List α)(k:Nat):(List.replicate k xs).flatten.length=k*xs.length:=by
 induction k with
 |zero=>simp
 |succ k ih=>rw [List.replicate_succ,List.flatten_cons,List.length_append,ih,Nat.succ_mul,Nat.add_comm]
end
section
variable{prog:Program}{w:World}{A:Around}{E:Value→Shared→Prop}{s:Shared}
set_option maxRecDepth 100000 in
end
section
variable{X:Cx}
end
end L2
namespace Att
open PySem PySem.W PySem.Calls PyProof.Rows
theorem ints_of_wellAll{P:Params}{h:Heap}:∀(ns:List Int) (vs:List Value),WellAll P h vs (ns.map WData.int)→IntsAre vs ns:=by
 intro ns
 induction ns with
 |nil=>
  intro vs w
  rw [List.map_nil]at w
  cases w
  exact .nil
 |cons n ns ih=>
  intro vs w
  rw [List.map_cons]at w
  cases w with
  |cons a b=>
   cases a
   exact .cons _ _ (ih _ b)
theorem script_of{l:OpenLaw}{n:Nat}(hn:l.most=some n){P:Params}{h:Heap}{args:List WData}{vals:List Value}
 (hpre:l.row.toRowW.claim.pre args=true)(hwl:WellAll P h vals args):
 ∃a vs ns,vals=[Value.ref a]∧args=[WData.list (ns.map WData.int)]∧h.get? a=some {cls:=.type "list",data:=.seq vs.toArray}∧IntsAre vs ns∧ns.length≤n:=by
 have hsh:WShape.hasAll [] args [.list .int]=true:=(pre_splitW hpre).1
 have hc:l.pre.holds [] {args:=args}=true:=(pre_splitW hpre).2
 obtain⟨d,r,rfl,h1,h2⟩:=hasAllW_cons hsh
 obtain rfl:=hasAllW_nil h2
 obtain⟨xs,rfl,h3⟩:=hasW_list h1
 obtain⟨ns,rfl⟩:=items_int h3
 have hlen:ns.length≤n:=by
  unfold OpenLaw.pre at hc
  have h4:(WTm.not (.lt (.lit (.int (n:Int))) (.len (.arg 0)))).holds [] {args:=[.list (ns.map .int)]}=true:=by
   have h4:=(holds_andW hc).1
   rw [hn]at h4
   exact h4
  have h5:=condW_of h4 (w_not (w_lt w_lit (w_len_list (w_arg rfl))))
  rw [List.length_map]at h5
  refine Nat.le_of_not_lt fun q=> ?_
  have q':(n:Int)<((ns.length:Nat):Int):=by omega
  first
   |(rw [decide_eq_true q']at h5;exact absurd h5 (by decide))
   |(simp at h5;omega)
 cases hwl with
 |cons w1 w2=>
  cases w2
  cases w1 with
  |list ho hall=>exact⟨_,_,ns,rfl,rfl,ho,ints_of_wellAll ns _ hall,hlen⟩
theorem post_true(l:OpenLaw)(args:List WData):l.row.toRowW.claim.post args (.bool true) args=true:=
 postW_of (r:=l.row.toRowW) (X:=(true==true))
  (show WShape.has [] (.bool true) .bool=true by first|rfl|decide|simp [WShape.has,WShape.arms,WShape.armsAll])
  (show(WTm.eq .res (.lit (.bool true))).value [] {args:=args,res:=some (.bool true),after:=args}=some (.bool (true==true))from w_eq_bool (w_res rfl) w_lit) rfl
theorem attach_call{l:OpenLaw}{n:Nat}{q:Program}{loose:List Str}{XP:(Str→Option Value)→Heap→Prop}{YP:World→Heap→Prop}{d:DefRec}
 (hn:l.most=some n)(hdf:d.params.defaults=[])
 (call:∀(w:World) (s₀ s₁:Shared) (mg mb:Str→Option Value) (fa:Addr) (o:Obj) (pm cd doc:Value) (a:Addr) (vs:List Value) (ns:List Int),
   Ground q loose [] XP w s₀ mg mb s₁.heap→YP w s₁.heap→
   s₁.heap.get? fa=some o→o.data=.func (docDef d.name d.params d.body d.scope pm cd doc)→s₁.heap.CodeRec cd d.name→mg d.name=some (.ref fa)→
   s₁.heap.get? a=some {cls:=.type "list",data:=.seq vs.toArray}→IntsAre vs ns→ns.length≤n→s₁.gens= #[]→
   codeAny (model l.prog w) callerA (.call (.ref fa) ⟨[.ref a],[]⟩) (fun r s'=>r=.ok (.ret (.bool true))∧OldK s₁.heap s'.heap∧s'.os=s₁.os∧AllBare s'.gens) s₁):
 WalkO q loose XP YP l.row.toRowW d [] (fun f vs=>PySem.call f vs):=by
 intro w s₀ s₁ mg mb G Y fa o pm cd doc dV kV ho hd hcd hD hmg hg args vals as hpre hlay hrd hwl hlo
 obtain rfl:dV=.none:=Dflts.none hD hdf
 obtain rfl:kV=.none:=Dflts.noKw hD
 obtain⟨a,vs,ns,rfl,rfl,hobj,hints,hlen⟩:=script_of hn hpre hwl
 refine enter_call (codeAny_mono (call w s₀ s₁ mg mb fa o pm cd doc a vs ns G Y ho (fd_plain hd) hcd hmg hobj hints hlen hg) fun r s' hq=> ?_)
 obtain⟨rfl,h2,h3,h4⟩:=hq
 exact⟨.inl ⟨.bool true,.bool true,[],rfl,fun _=>rfl,.bool true,post_true l _,fun _=>⟨List.Pairwise.nil,fun _ hm=>(nomatch hm)⟩⟩,h2,h3,h4⟩
section
variable{prog:Program}{w:World}{A:Around}{E:Value→Shared→Prop}{s:Shared}{K:Frag}
noncomputable def noObjs(h:Heap):Heap:= {h with objs:= #[]}
noncomputable def ledger(h:Heap)(L d:Addr):List (Addr×Obj):=(List.range h.objs.size).filterMap fun a=>if a=L∨a=d then none else(h.get? a).map fun o=>(a,o)
end
end Att
namespace L2
open PySem PySem.Spec PyProof.Rows
theorem vals_ints:∀ {vs:List Value} {ns:List Int},IntsAre vs ns→Vals (ns.map V.int) vs
 |_,_,.nil=> .nil
 |_,_,.cons n t h=> .cons ⟨t,rfl⟩ (vals_ints h)
noncomputable def Only(H:Hp):Prop:=∀b,H b=none∨∃o xs,H b=some (.frz o (.lst xs))
end L2
namespace L2
open PySem PySem.Spec PyProof.Rows
noncomputable abbrev KOf{K:PySem.W.Frag}{h:Heap}(_:K.In h):PySem.W.Frag:=K
end L2
/-THE LAST THEOREM (shape;LID,My.*are yours):
  My.Adr:a structure of the addresses that your layer names (classes,functions);My.Txt K t:a structure (Prop) of the equations over K;
  My.txt_mk: {K} {implicit addresses ..} (e1:nsIn K mainGlobals "law"=some (some (.ref f))) (e2:K.lookup f=some ⟨oc,od,.func (fnOf "law" "law" params body scope dV kV doc pm an cdv ct),sl⟩) (e3:codeIn K cdv "law"=true) .. :∃t,My.Txt K t
set_option maxRecDepth 100000 in
set_option maxHeartbeats 0 in
theorem PySem.Challenge.cw_LID_holds : PySem.Challenge.rw_LID.Holds := by
  w_on; o_law; k_head; (case hw => w_witness2)
  k_fill
  refine L2.walk_of (l := PySem.Challenge.rw_LID) (n := 63) (k := 40) (x := "script") (CX := fun w => ..) (sp := fun _ => My.sp_law) rfl (by decide) rfl ⟨rfl, by decide, by decide⟩ (fun w h Y => PySem.W.kIn_of Y) ?F ?S ?C
  case F =>
    intro w mg fa h KX G hmg
    have T : ∃ t, My.Txt (L2.KOf KX) t := by
      dsimp only [L2.KOf]                          -- K must stand as «<heap const> w.params» for k_is
      refine' My.txt_mk ?e1 ?e2 ?e3 ..
      (case e1 => PySem.W.k_is)                    -- in the order: a name -> its address -> its object -> its parts
      (case e2 => PySem.W.k_is)
      ..
    obtain ⟨t, T⟩ := T
    have e0 := hmg.symm.trans (PySem.W.mg_of KX G T.law)
    cases e0                                       -- fa is the law's own address
    exact ⟨_, fun s u => .of_eq rfl, fun base kb nb => My.law_fn T kb nb⟩     -- if «.of_eq rfl» comes too early: refine' ⟨_, ?b, fun base kb nb => My.law_fn T kb nb⟩; exact fun s u => .of_eq rfl
  case S => exact fun w H a ns hl hO hS => ..
  case C => exact ..
(the tactic k_is has no namespace:write k_is)-/
namespace L2
open PySem PySem.Spec PyProof.Rows
noncomputable def inClass(s:Stmt)(j:Nat):Stmt:=match s with
 | .ClassDef _ _ _ body _ _ _ _ _ _ _=>body.getD j (.Pass ⟨0,0,0,0⟩)
 |_=> .Pass ⟨0,0,0,0⟩
noncomputable def defArgs(s:Stmt):Arguments:=match s with
 | .FunctionDef _ a _ _ _ _ _ _ _ _=>a
 |_=> {posonlyargs:=[],args:=[],vararg:=none,kwonlyargs:=[],kw_defaults:=[],kwarg:=none,defaults:=[]}
noncomputable def defBody(s:Stmt):List Stmt:=match s with
 | .FunctionDef _ _ b _ _ _ _ _ _ _=>b
 |_=>[]
noncomputable def defScope(s:Stmt):Scope:=match s with
 | .FunctionDef _ _ _ _ _ _ sc _ _ _=>sc
 |_=> {kind:=.function,names:=[],isGenerator:=false,isCoroutine:=false}
noncomputable abbrev CX0:CXT:=fun _ _ _ _ _ _=>False
noncomputable abbrev E0:XK:=fun _ _ _=>False
theorem pass0{X:Cx}:Passes CX0 X E0:=fun _ _ _ _ _ _ _ h=>h.elim
structure Fun(K:PySem.W.Frag)(x qual:Str)(st:Stmt)(f:Addr)(fd:FuncData):Prop where
 ex:∃(oc:Value) (od:Option Addr) (kV doc pm:Value) (an:Option Addr) (cdv ct:Value) (osl:Array (Option Value)),
  fd=PySem.W.fnOf x qual (defArgs st) (defBody st) (defScope st) .none kV doc pm an cdv ct∧K.lookup f=some ⟨oc,od,.func fd,osl⟩∧PySem.W.codeIn K cdv qual=true
 kp:PySem.W.keepIn K (.ref f)=true
section
variable{P:Program}{w:World}{K:PySem.W.Frag}{mg:Str→Option Value}{base:Heap}
theorem Fun.ok{x qual:Str}{st:Stmt}{f:Addr}{fd:FuncData}{N ps:List Str}{k:Nat}{sp:Sp}(F:Fun K x qual st f fd)(S:FnScope N ps (defScope st))(len:∀vs H Q E,sp vs H Q E→vs.length=ps.length)
 (hbody:∀(cdv:Value) (A:Around) (outer:List Env) (s:Shared) (H:Hp) (vs:List V) (Q:VK) (E:XK),Room k (A.deeper (envOfC qual (defScope st) s.heap.objs.size f cdv))→sp vs H Q E→
   ∃t,PSs (cxOf CX0 P w K mg base N qual (defScope st) f cdv A outer s H E).nox (defBody st) t∧t {nx:=fun _ H'=>Q .non H',rt:=Q} (start N vs) H):FnOk P w K mg base CX0 (k+1) f fd ps sp:=by
 obtain⟨oc,od,kV,doc,pm,an,cdv,ct,osl,rfl,lk,hcd⟩:=F.ex
 refine fn_of lk hcd S len fun A outer s H vs Q E hr hsp=> ?_
 obtain⟨t,h,q⟩:=hbody cdv A outer s H vs Q E hr hsp
 exact⟨t,h.nox,q⟩
theorem Fun.binds{x qual:Str}{st:Stmt}{f:Addr}{fd:FuncData}{ps:List Str}(F:Fun K x qual st f fd)
 (h:∀(kV doc pm:Value) (an:Option Addr) (cdv ct:Value) (us:List Value),us.length=ps.length→bindArgs (PySem.W.fnOf x qual (defArgs st) (defBody st) (defScope st) .none kV doc pm an cdv ct) ⟨us,[]⟩=pure (ps.zip us)):Binds K fd ps []:=by
 obtain⟨oc,od,kV,doc,pm,an,cdv,ct,osl,rfl,lk,hcd⟩:=F.ex
 exact .all (h kV doc pm an cdv ct)
theorem fun_mk{x qual:Str}{st:Stmt}{f:Addr}{oc:Value}{od an:Option Addr}{osl:Array (Option Value)}{kV doc pm cdv ct:Value}(l:K.lookup f=some ⟨oc,od,.func (PySem.W.fnOf x qual (defArgs st) (defBody st) (defScope st) .none kV doc pm an cdv ct),osl⟩)
 (c:PySem.W.codeIn K cdv qual=true)(k:PySem.W.keepIn K (.ref f)=true):Fun K x qual st f (PySem.W.fnOf x qual (defArgs st) (defBody st) (defScope st) .none kV doc pm an cdv ct):=⟨⟨oc,od,kV,doc,pm,an,cdv,ct,osl,rfl,l,c⟩,k⟩
end
section
variable{X:Cx}
end
theorem iteF{A B:Prop}(h:B):if false=true then A else B:=by
 rw [if_neg Bool.false_ne_true]
 exact h
theorem iteT{A B:Prop}(h:A):if true=true then A else B:=by
 rw [if_pos rfl]
 exact h
noncomputable def Same(H H':Hp):Prop:=∀b o,H b=some o→H' b=some o
theorem Same.refl(H:Hp):Same H H:=fun _ _ h=>h
theorem Same.trans{H H1 H2:Hp}(a:Same H H1)(b:Same H1 H2):Same H H2:=fun c o h=>b c o (a c o h)
theorem Same.free{H H':Hp}(e:Same H H'){l:Addr}(h:H' l=Option.none):H l=Option.none:=by
 cases q:H l with
 |none=>rfl
 |some o=>
  rw [e l o q]at h
  cases h
end L2
end
noncomputable section
namespace L2
open PySem
noncomputable def closL(env:Env):List (Str×NameKind)→List (Str×Addr)→List (Str×Addr)
 |[],acc=>acc
 |(n,k)::r,acc=>closL env r (if k==.free then(n,(env.cells.lookup n).getD 0)::acc else acc)
theorem closureFor_some{scope:Scope}{env:Env}(h:∀n,(n,NameKind.free)∈scope.names→∃c,env.cells.lookup n=some c):closureFor scope env=pure (closL env scope.names []):=by
 have go:∀(names:List (Str×NameKind)) (acc:List (Str×Addr)),(∀n,(n,NameKind.free)∈names→∃c,env.cells.lookup n=some c)→
  (forIn names acc fun(x:Str×NameKind) (cs:List (Str×Addr))=>(match x with
    |(name,kind)=>if(kind==NameKind.free)=true then do
       let c←cellOf env name
       pure (ForInStep.yield ((name,c)::cs))
     else pure (ForInStep.yield cs):Sem (ForInStep (List (Str×Addr)))))=pure (closL env names acc):=by
  intro names
  induction names with
  |nil=>intro acc _;rfl
  |cons x r ih=>
   intro acc hx
   obtain⟨n,k⟩:=x
   rw [List.forIn_cons]
   cases hk:k==NameKind.free with
   |true=>
    have hk':k=.free:=by simpa using hk
    subst hk'
    obtain⟨c,hc⟩:=hx n List.mem_cons_self
    have e:cellOf env n=pure c:=by unfold cellOf;rw [hc]
    simp only [hk,if_true,e]
    have e2:closL env ((n,NameKind.free)::r) acc=closL env r ((n,c)::acc):=by
     show closL env r (if(NameKind.free==NameKind.free)=true then(n,(env.cells.lookup n).getD 0)::acc else acc)=_
     rw [if_pos (by decide),hc];rfl
    rw [e2,←ih ((n,c)::acc) fun m hm=>hx m (List.mem_cons_of_mem _ hm)]
    rfl
   |false=>
    simp only [hk,Bool.false_eq_true,if_false]
    have e2:closL env ((n,k)::r) acc=closL env r acc:=by
     show closL env r (if(k==NameKind.free)=true then(n,(env.cells.lookup n).getD 0)::acc else acc)=_
     rw [hk];rfl
    rw [e2,←ih acc fun m hm=>hx m (List.mem_cons_of_mem _ hm)]
    rfl
 unfold closureFor
 have e:=go scope.names [] h
 show(forIn scope.names [] _>>=fun cs=>pure cs)=_
 rw [e]
 rfl
theorem closL_lookup{env:Env}{y:Str}:∀(names:List (Str×NameKind)) (acc:List (Str×Addr)),
 (closL env names acc).lookup y=if(y,NameKind.free)∈names then some ((env.cells.lookup y).getD 0)else acc.lookup y:=by
 intro names
 induction names with
 |nil=>intro acc;simp [closL]
 |cons x r ih=>
  intro acc
  obtain⟨n,k⟩:=x
  show(closL env r (if(k==NameKind.free)=true then(n,(env.cells.lookup n).getD 0)::acc else acc)).lookup y=_
  rw [ih]
  by_cases h1:(y,NameKind.free)∈r
  ·rw [if_pos h1,if_pos (List.mem_cons_of_mem _ h1)]
  ·rw [if_neg h1]
   by_cases hk:k=.free
   ·subst hk
    rw [if_pos (by decide)]
    by_cases hy:y=n
    ·subst hy
     rw [if_pos List.mem_cons_self]
     simp [List.lookup_cons]
    ·have:(y==n)=false:=by simpa using hy
     rw [List.lookup_cons,this]
     rw [if_neg]
     intro z
     rcases List.mem_cons.mp z with e|e
     ·cases e;exact hy rfl
     ·exact h1 e
   ·have hk':(k==NameKind.free)=false:=by simpa using hk
    rw [hk']
    rw [if_neg (by decide),if_neg]
    intro z
    rcases List.mem_cons.mp z with e|e
    ·cases e;exact hk rfl
    ·exact h1 e
noncomputable def relab(env:Env)(names:List (Str×NameKind)):List (Str×NameKind):=names.map fun(n,k)=>if(k==NameKind.free&&env.scope.kind==.function&&env.kindOf n==some .cell)then(n,NameKind.cell)else(n,k)
theorem relab_free{env:Env}:∀ {names:List (Str×NameKind)} {y:Str},names.lookup y=some .free→(relab env names).lookup y=some .cell∨(relab env names).lookup y=some .free
 |[],_,h=>by simp at h
 |(n,k)::r,y,h=>by
  show List.lookup y ((if(k==NameKind.free&&env.scope.kind==.function&&env.kindOf n==some .cell)=true then(n,NameKind.cell)else(n,k))::relab env r)=_∨List.lookup y ((if(k==NameKind.free&&env.scope.kind==.function&&env.kindOf n==some .cell)=true then(n,NameKind.cell)else(n,k))::relab env r)=_
  cases hx:y==n with
  |true=>
   simp only [List.lookup_cons,hx]at h
   cases h
   by_cases hc:(NameKind.free==NameKind.free&&env.scope.kind==.function&&env.kindOf n==some .cell)=true
   ·rw [if_pos hc];left;simp only [List.lookup_cons,hx]
   ·rw [if_neg hc];right;simp only [List.lookup_cons,hx]
  |false=>
   simp only [List.lookup_cons,hx]at h
   by_cases hc:(k==NameKind.free&&env.scope.kind==.function&&env.kindOf n==some .cell)=true
   ·rw [if_pos hc];simp only [List.lookup_cons,hx];exact relab_free h
   ·rw [if_neg hc];simp only [List.lookup_cons,hx];exact relab_free h
theorem relab_back{env:Env}:∀ {names:List (Str×NameKind)} {y:Str},(∀z∈names,z.2≠.cell)→((relab env names).lookup y=some .cell∨(relab env names).lookup y=some .free)→(y,NameKind.free)∈names
 |[],_,_,h=>by rcases h with h|h<;>simp [relab]at h
 |(n,k)::r,y,hn,h=>by
  have ih:=@relab_back env r y (fun z hz=>hn z (List.mem_cons_of_mem _ hz))
  have hk:k≠.cell:=hn (n,k) List.mem_cons_self
  have e:relab env ((n,k)::r)=(if(k==NameKind.free&&env.scope.kind==.function&&env.kindOf n==some .cell)=true then(n,NameKind.cell)else(n,k))::relab env r:=rfl
  rw [e]at h
  cases hx:y==n with
  |true=>
   have hy:y=n:=by simpa using hx
   subst hy
   by_cases hc:(k==NameKind.free&&env.scope.kind==.function&&env.kindOf y==some .cell)=true
   ·have:k=.free:=by
     simp only [Bool.and_eq_true,beq_iff_eq]at hc
     exact hc.1.1
    rw [this];exact List.mem_cons_self
   ·rw [if_neg hc]at h
    simp only [List.lookup_cons,hx]at h
    rcases h with h|h
    ·exact absurd (Option.some.inj h) hk
    ·rw [Option.some.inj h];exact List.mem_cons_self
  |false=>
   by_cases hc:(k==NameKind.free&&env.scope.kind==.function&&env.kindOf n==some .cell)=true
   ·rw [if_pos hc]at h
    simp only [List.lookup_cons,hx]at h
    exact List.mem_cons_of_mem _ (ih h)
   ·rw [if_neg hc]at h
    simp only [List.lookup_cons,hx]at h
    exact List.mem_cons_of_mem _ (ih h)
section
variable{prog:Program}{w:World}{A:Around}{R:Result→Shared→Prop}{s:Shared}
theorem compLoop_all{elt target iter:Expr}{ifs:List Expr}{scope:Scope}{pos:Pos}{it acc:Value}{env:Env}(I:Nat→Shared→Prop)
 (turn:∀n s,I n s→wpAny (model prog w) A (pyNext it) (fun r s₁=>match r with
   |none=>R (.ok .next) s₁
   |some v=>wpAny (model prog w) A (letOwnedTupleGo target it v) (fun _ s₀=>wpAny (model prog w) A (assign target env v) (fun _ s₂=>
     wpAny (model prog w) A (forIn ifs true fun c r=>if r=true then do let ok←isTrue c env (eval c env);pure (ForInStep.yield ok)else pure (ForInStep.yield r)) (fun ok s₃=>
      if ok=true then wpAny (model prog w) A (eval elt env) (fun x s₄=>
       wpAny (model prog w) A (call (.builtin "list.append") [acc,x]) (fun _ s₅=>∃m,m<n∧I m s₅) (fun _ _=>False) s₄) (fun _ _=>False) s₃
      else∃m,m<n∧I m s₃) (fun _ _=>False) s₂) (fun _ _=>False) s₀) (fun _ _=>False) s₁) (fun _ _=>False) s)
 (n:Nat)(h:I n s):
 codeAny (model prog w) A (.compLoop (.ListComp elt [⟨target,iter,ifs,0⟩] scope pos) 0 it acc env) R s:=by
 refine codeAny_loop rfl I (fun n s hI=> ?_) n h
 show wpAny _ A ((compTurn (.ListComp elt [⟨target,iter,ifs,0⟩] scope pos) 0 it acc env).onRaise (fun x=>do noteFrame x env;theTreesLotGoes x)) _ _ s
 refine wpAny_noted ?_
 rw [compTurn_list]
 have no:∀(E:Value→Shared→Prop) (x:Value) (s':Shared),False→E x s':=fun _ _ _ f=>f.elim
 refine wpAny_bind (wpAny_standAt (wpAny_bind (wpAny_mono (turn n s hI) (fun r s₁ h₁=> ?_) (no _))))
 cases r with
 |none=>exact wpAny_pure h₁
 |some v=>
  refine wpAny_bind (wpAny_mono h₁ (fun _ s₀ h₀=> ?_) (no _))
  refine wpAny_bind (wpAny_mono h₀ (fun _ s₂ h₂=>wpAny_bind (wpAny_mono h₂ (fun ok s₃ h₃=> ?_) (no _))) (no _))
  cases ok with
  |false=>exact wpAny_pure ⟨rfl,h₃⟩
  |true=>
   exact wpAny_bind (wpAny_bind (wpAny_mono h₃ (fun x s₄ h₄=>wpAny_bind (wpAny_mono h₄ (fun _ s₅ h₅=>wpAny_pure (wpAny_pure ⟨rfl,h₅⟩)) (no _))) (no _)))
end
end L2
namespace L2
open PySem
theorem sliceRange_rev(n:Nat):sliceRange ((n:Int)-1) (-1) (-1)=(List.range n).map fun k=>n-1-k:=by
 unfold sliceRange
 have e:(if(-1:Int)>0 then(if(n:Int)-1< -1 then(-1-((n:Int)-1)+-1-1)/ -1 else 0)else(if(n:Int)-1>-1 then((n:Int)-1- -1- -1-1)/ - -1 else 0)).toNat=n:=by
  rw [if_neg (by decide)]
  split
  ·have:((n:Int)-1- -1- -1-1)/ - -1=n:=by
    rw [show(- -1:Int)=1 from rfl,Int.ediv_one];omega
   rw [this];omega
  ·omega
 show List.map _ (List.range _)=_
 rw [e]
 refine List.map_congr_left fun k hk=> ?_
 have:=List.mem_range.mp hk
 omega
theorem pick_back{α:Type}(l:List α):∀n,n≤l.length→((List.range n).map fun k=>n-1-k).filterMap (fun j=>l[j]?)=(l.take n).reverse:=by
 intro n
 induction n with
 |zero=>intro _;simp
 |succ n ih=>
  intro h
  have e:(List.range (n+1)).map (fun k=>n+1-1-k)=n::(List.range n).map (fun k=>n-1-k):=by
   rw [List.range_succ_eq_map,List.map_cons,List.map_map]
   congr 1
   refine List.map_congr_left fun k hk=> ?_
   have:=List.mem_range.mp hk
   simp;omega
  have hl:n<l.length:=by omega
  rw [e,List.filterMap_cons,List.getElem?_eq_getElem hl]
  simp only
  rw [ih (by omega),List.take_add_one,List.getElem?_eq_getElem hl,List.reverse_append]
  rfl
theorem slicePick_rev(its:List Value):slicePick its.toArray none none (some (-1))=its.reverse.toArray:=by
 unfold slicePick
 have e:sliceBounds none none (some (-1)) its.toArray.size=((its.length:Int)-1,-1,-1):=by
  simp [sliceBounds]
 rw [e]
 simp only [sliceRange_rev]
 have e2:=pick_back its its.length (Nat.le_refl _)
 rw [List.take_length]at e2
 rw [←e2]
 simp only [List.getElem?_toArray]
end L2
namespace L2
open PySem PySem.Spec PyProof.Rows
structure CompScope(sc:Scope)(N:List Str)(scope:Scope)(x:Str)(fr:List Str)(is:List Nat):Prop where
 kind:scope.kind=.function
 nocell:∀y∈scope.names,y.2≠.cell
 names:∀y∈scope.names,y.2=.local→scope.names.lookup y.1=some .local
 var:scope.names.lookup x=some .local
 nd:(x::fr).Nodup
 free:∀y∈scope.names,y.2=.free→sc.names.lookup y.1=some .cell∨sc.names.lookup y.1=some .free
 look:∀n∈fr,scope.names.lookup n=some .free
 slots:(is.map fun k=>N[k]?)=fr.map some
noncomputable def compCx(X:Cx)(scope:Scope)(N':List Str)(C:Addr)(s:Shared)(H:Hp)(fp:List Addr)(pins:List (Addr×Obj)):Cx where
 prog:=X.prog
 w:=X.w
 K:=X.K
 mg:=X.mg
 base:=X.base
 A:=X.A
 N:=N'
 s₀:=s
 H₀:=H
 env:=compEnvC scope (closL X.env scope.names []) C X.env
 outer:=X.stack
 stack:=X.stack
 ex:=fp
 fn:=fun _=>false
 calm:=X.calm
 pn:=X.pn++pins
 xe:=fun _ _=>False
noncomputable def compSt(σ:St)(is:List Nat)(o:Option V):St:=o::is.map fun k=>(σ[k]?).join
section
variable{X:Cx}{pins:List (Addr×Obj)}{σ:St}{H:Hp}{s:Shared}{scope:Scope}{x:Str}{fr:List Str}{is:List Nat}{fp:List Addr}
theorem comp_cell(I:Inv X pins σ H s)(cs:CompScope X.env.scope X.N scope x fr is){y:Str}{c:Addr}(h:(closL X.env scope.names []).lookup y=some c):X.env.cells.lookup y=some c∧(y,NameKind.free)∈scope.names:=by
 rw [closL_lookup]at h
 by_cases hy:(y,NameKind.free)∈scope.names
 ·rw [if_pos hy]at h
  obtain⟨d,hd⟩:=I.ok.has y (cs.free _ hy rfl)
  rw [hd]at h
  have e:d=c:=Option.some.inj h
  exact⟨by rw [hd,e],hy⟩
 ·rw [if_neg hy]at h
  cases h
theorem comp_cell'(I:Inv X pins σ H s)(cs:CompScope X.env.scope X.N scope x fr is){y:Str}(hy:(y,NameKind.free)∈scope.names):∃c,X.env.cells.lookup y=some c∧(closL X.env scope.names []).lookup y=some c:=by
 obtain⟨d,hd⟩:=I.ok.has y (cs.free _ hy rfl)
 refine⟨d,hd,?_⟩
 rw [closL_lookup,if_pos hy,hd]
 rfl
theorem comp_start(I:Inv X pins σ H s)(cs:CompScope X.env.scope X.N scope x fr is)(hf:∀b∈fp,FpOk X pins H b)(hfp:∀b∈fp,∃o,s.heap.get? b=some o){h':Heap}{m:Str→Option Value}{t':Nat}(hn:h'.Ns s.heap.objs.size m)
 (hk:∀b o,s.heap.get? b=some o→h'.get? b=some o):
 Inv (compCx X scope (x::fr) s.heap.objs.size s H fp pins) [] (compSt σ is none) H {s with heap:=h',toks:=t'}:=by
 have lt:∀ {b:Addr} {o:Obj},s.heap.get? b=some o→b≠s.heap.objs.size:=fun e=>Nat.ne_of_lt (Heap.lt_size e)
 have nofs:∀ {b:Addr},b≠X.env.locals→b∉X.fs→b∉frs X.stack:=fun h1 h2 hb=>(List.mem_cons.mp (I.stkSub _ hb)).elim h1 h2
 refine⟨⟨I.mod,cs.kind,I.ok.glob,I.ok.blt,Nat.le_refl _,fun y z c h1 h2=> ?_,fun y hy=> ?_,fun y c h=> ?_,I.ok.hd,I.ok.frames,.inl rfl,fun b hb=> ?_,I.bs,Nat.le_trans I.ok.bsz I.sz,fun b o e hb=> ?_,fun b hb=> ?_,I.stack,I.stkFree⟩,
  rfl,I.bare,Un.kept hk,⟨m,hn,fun i y v h1 h2 h3=> ?_⟩,fun y c h=> ?_,I.hok.fresh (Nat.le_refl _),fun y c h=> ?_,fun p hp=> ?_,I.hok.kept hk,?_⟩
 ·exact I.ok.inj y z c (comp_cell I cs h1).1 (comp_cell I cs h2).1
 ·obtain⟨c,_,e⟩:=comp_cell' I cs (relab_back cs.nocell hy)
  exact⟨c,e⟩
 ·cases h
 ·obtain⟨o,e⟩:=hfp b hb
  exact⟨lt e,fun y c h=>(hf b hb).2.2.2.2.1 y c (comp_cell I cs h).1⟩
 ·rcases(hf b hb).2.2.2.1 with z|z
  ·exact I.ok.noex b o e z
  ·exact absurd (Nat.lt_of_lt_of_le (Nat.lt_of_lt_of_le (Heap.lt_size e) I.ok.bsz) z) (Nat.lt_irrefl _)
 ·exact nofs (hf b hb).2.1 (hf b hb).2.2.1
 ·cases i with
  |zero=>
   have h2':(some (none:Option V))=some (some v):=h2
   cases h2'
  |succ i=>
   have h1':fr[i]?=some y:=h1
   have h2':(is.map fun k=>(σ[k]?).join)[i]?=some (some v):=h2
   rw [List.getElem?_map]at h2'
   cases hk':is[i]? with
   |none=>rw [hk']at h2';cases h2'
   |some k=>
    rw [hk']at h2'
    have h2'':(σ[k]?).join=some v:=Option.some.inj h2'
    have hσ:σ[k]?=some (some v):=by
     cases q:σ[k]? with
     |none=>rw [q]at h2'';cases h2''
     |some o=>rw [q]at h2'';rw [show o=some v from h2'']
    have hN:X.N[k]?=some y:=by
     have e:=congrArg (fun l=>l[i]?) cs.slots
     simp only [List.getElem?_map,hk',h1',Option.map_some]at e
     exact Option.some.inj e
    have hl:=cs.look y (List.mem_of_getElem? h1')
    have hm:(y,NameKind.free)∈scope.names:=PySem.mem_of_lookup hl
    obtain⟨c,e1,e2⟩:=comp_cell' I cs hm
    have hvis:Vis X.env.scope y:=.inr (cs.free _ hm rfl)
    obtain⟨m0,hn0,hl0⟩:=I.loc
    obtain⟨u,r,l⟩:=hl0 k y v hN hσ hvis
    refine⟨u,r,.inr ⟨relab_free hl,c,e2,?_⟩⟩
    rcases l with⟨k1,_⟩|⟨_,c',e3,z⟩
    ·have k2:X.env.kindOf y=some .cell∨X.env.kindOf y=some .free:=cs.free _ hm rfl
     rw [k1]at k2
     rcases k2 with k2|k2<;>cases k2
    ·rw [e1]at e3
     cases e3
     obtain⟨o,ho,hd⟩:=z
     exact⟨o,hk _ _ ho,hd⟩
 ·obtain⟨v,o,ho,hd⟩:=I.cell y c (comp_cell I cs h).1
  exact⟨v,o,hk _ _ ho,hd⟩
 ·exact I.freeC y c (comp_cell I cs h).1
 ·rw [List.append_nil]at hp
  obtain⟨e,n,ne,nf,d⟩:=I.pin p hp
  exact⟨hk _ _ e,n,lt e,nofs ne nf,d⟩
 ·show(none::is.map _).length=(x::fr).length
  have e:=congrArg List.length cs.slots
  simp only [List.length_map]at e
  simp [e]
theorem comp_end{σ':St}{H':Hp}{s':Shared}{h'':Heap}(I:Inv X pins σ H s)(hf:∀b∈fp,FpOk X pins H b)(J:Inv (compCx X scope (x::fr) s.heap.objs.size s H fp pins) [] σ' H' s')(sb:Heap.SameBut s.heap.objs.size s'.heap h''):
 Inv X pins σ H' {s' with heap:=h''}:=by
 have ne:∀ {b:Addr} {o:Obj},s.heap.get? b=some o→b≠s.heap.objs.size:=fun e=>Nat.ne_of_lt (Heap.lt_size e)
 have fre:H' s.heap.objs.size=none:=J.free
 have u:Un (frs X.stack) fp H H' s.heap s'.heap:=J.base
 refine I.call' (ch:=fp) J.os ⟨fun b o e n hb hx=>(sb.2 b (ne e)).trans (u.keep b o e n hb hx),fun b o e n hb hx=> ?_,u.free,fun b o e hx=> ?_,u.tups,u.frzs,u.tbls⟩ (fun b o e=> ?_) J.bare (fun b hb=> ?_)
 ·obtain⟨sl,q⟩:=u.slot b o e n hb hx
  exact⟨sl,(sb.2 b (ne e)).trans q⟩
 ·obtain⟨o',q⟩:=u.there b o e hx
  exact⟨o',(sb.2 b (ne e)).trans q⟩
 ·have nC:∀ {c:Addr} {v:HO},H' c=some v→c≠s.heap.objs.size:=fun q z=>by rw [z,fre]at q;cases q
  refine(J.hok b o e).stay (fun c v hc q=>(sb.2 c ?_).trans q) (fun _ q=>q) fun _ _ q=>q
  rcases hc with rfl|hc
  ·exact nC e
  ·exact nC hc
 ·exact⟨(hf b hb).2.2.2.1,(hf b hb).2.1,(hf b hb).2.2.2.2.1,(hf b hb).2.2.2.2.2⟩
end
noncomputable def tComp(wi:TI)(is:List Nat)(tt:TT)(te:TE):TE:=fun σ H Q=>wi σ H fun J H1=>∀D,H1 D=none→∃W:Nat→Nat→Hp→Prop,(∃m,W 0 m (upd H1 D (.lst [])))∧∀i m H2,W i m H2→
 (J.stop i H2∧Q (.ref D) H2)∨(J.go i H2∧∀x H3,J.yld i H2 x H3→tt (compSt σ is (some x)) H3 fun b H4=>if b=true then te (compSt σ is (some x)) H4 fun y H5=>∃ys,H5 D=some (.lst ys)∧ys.length<sizeLine∧∃m',m'<m∧W (i+1) m' (upd H5 D (.lst (ys++[y])))
   else∃m',m'<m∧W (i+1) m' H4)
noncomputable def tTrue:TT:=fun _ H Q=>Q true H
section
variable{X:Cx}{scope:Scope}{x:Str}{px pos:Pos}{fr:List Str}{is:List Nat}{elt iter:Expr}{wi:TI}{te:TE}
noncomputable def PTs(X:Cx)(ifs:List Expr)(t:TT):Prop:=
 ∀(pins:List (Addr×Obj)) (s:Shared) (σ:St) (H:Hp) (Q:Bool→Hp→Prop),Inv X pins σ H s→t σ H Q→
  wpAny (model X.prog X.w) X.A (forIn ifs true fun c r=>if r=true then do let ok←isTrue c X.env (eval c X.env);pure (ForInStep.yield ok)else pure (ForInStep.yield r)) (TP X pins σ Q) X.xe s
theorem pts_nil:PTs X [] tTrue:=fun _ _ _ H _ I h=>wpAny_tests_nil ⟨H,I,h⟩
theorem pts_one{c:Expr}{t:TT}(h:PT X c t):PTs X [c] t:=fun pins s σ H Q I q=>wpAny_tests_one (h pins s σ H Q I q)
theorem comp_run{ifs:List Expr}{tt:TT}{pins:List (Addr×Obj)}{s:Shared}{σ:St}{H:Hp}{Q:VK}{use:Option (Value→Sem Unit)}{Qf:Value→Shared→Prop}(hc:X.calm=true)(hi:PI X (.Name x px) iter wi)(ht:∀C s H fp pins,PTs (compCx X scope (x::fr) C s H fp pins) ifs tt)
 (he:∀C s H fp pins,PE (compCx X scope (x::fr) C s H fp pins) elt te)(cs:CompScope X.env.scope X.N scope x fr is)(hfs:∀x,foldedSetIterable iter X.env x=pure x)(I:Inv X pins σ H s)(h:tComp wi is tt te σ H Q)
 (fin:∀(s3:Shared) (H3:Hp) (fp:List Addr) (D:Addr) (σ':St) (H':Hp) (s':Shared),Inv X pins σ H3 s3→(∀b∈fp,FpOk X pins H3 b)→Inv (compCx X scope (x::fr) s3.heap.objs.size s3 H3 fp pins) [] σ' H' s'→Q (.ref D) H'→
   compPost (model X.prog X.w) X.A X.xe use Qf (.ref D) s3.heap.objs.size (.ok .next) s'):
 wpAny (model X.prog X.w) X.A (comprehension (.ListComp elt [⟨.Name x px,iter,ifs,0⟩] scope pos) scope X.env (firstIterPos [⟨.Name x px,iter,ifs,0⟩] pos) (newList []) false (eval iter X.env) use) Qf X.xe s:=by
 have hclos:closureFor scope X.env=pure (closL X.env scope.names []):=closureFor_some fun n hn=>I.ok.has n (cs.free _ hn rfl)
 refine wpAny_comprehension_free (use:=use) rfl hfs hclos cs.kind cs.names (thn (hi pins s σ H _ I h) fun v s1 h1=>thn h1 fun itv s2 h2=> ?_)
 obtain⟨it,fp,tn,J,H2,e,I2,T,st2,f2,h2⟩:=h2
 subst e
 refine wpAny_newObj_type (hd:=by size_fits) ?_
 have fD:H2 s2.heap.objs.size=none:=I2.fresh
 obtain⟨W,⟨m0,w0⟩,turn⟩:=h2 s2.heap.objs.size fD
 have nD:∀b∈fp,b≠s2.heap.objs.size:=fun b hb=>by
  obtain⟨o,e,_⟩:=T.obj _ _ st2 b hb
  exact Nat.ne_of_lt (Heap.lt_size e)
 have I3:Inv X pins σ (upd H2 s2.heap.objs.size (.lst [])) {s2 with heap:=s2.heap.push {cls:=.type "list",data:=.seq ([]:List Value).toArray}}:=I2.lnew (t':=s2.toks) .nil (Nat.zero_le _)
 have f3:∀b∈fp,FpOk X pins (upd H2 s2.heap.objs.size (.lst [])) b:=fun b hb=>⟨by rw [upd_ne (nD b hb)];exact(f2 b hb).1,(f2 b hb).2⟩
 have st3:tn 0 (s2.heap.push {cls:=.type "list",data:=.seq ([]:List Value).toArray}):=T.keep _ _ _ st2 fun b _ o e=>Heap.get?_push_of_some _ e
 generalize hs3:({s2 with heap:=s2.heap.push {cls:=.type "list",data:=.seq ([]:List Value).toArray}}:Shared)=s3 at I3⊢
 have st3':tn 0 s3.heap:=by rw [←hs3];exact st3
 generalize hH3:upd H2 s2.heap.objs.size (.lst [])=H3 at I3 f3 w0
 generalize s2.heap.objs.size=D at*
 refine wpAny_newFunctionEnv cs.nocell (by intro y hy;simp at hy) (fun h4 hn4 sb4=> ?_) cs.kind
 have hk4:∀b o,s3.heap.get? b=some o→h4.get? b=some o:=fun b o e=>sb4.extBut b o (Nat.ne_of_lt (Heap.lt_size e)) (Heap.get?_push_of_some _ e)
 have ob3:∀b∈fp,∃o,s3.heap.get? b=some o:=fun b hb=>let ⟨o,e,_⟩:=T.obj _ _ st3' b hb;⟨o,e⟩
 have I4:=comp_start (t':=s3.toks+([]:List (Str×Value)).length) I3 cs f3 ob3 hn4 hk4
 have st4:tn 0 h4:=T.keep _ _ _ st3' fun b _ o e=>hk4 b o e
 have stat:∀ {H':Hp},(∀b∈fp,H' b=none)→∀b∈fp,FpOk (compCx X scope (x::fr) s3.heap.objs.size s3 H3 fp pins) [] H' b:=fun hn b hb=>
  ⟨hn b hb,(I4.ok.exf b hb).1,I4.ok.exfs b hb,.inl hb,(I4.ok.exf b hb).2,fun p hp z=>by
   have hp':p∈X.pn++pins:=by
    have h2:p∈(X.pn++pins)++[]:=hp
    rwa [List.append_nil]at h2
   exact(f3 b hb).2.2.2.2.2 p hp' z⟩
 have loop:codeAny (model X.prog X.w) X.A (.compLoop (.ListComp elt [⟨.Name x px,iter,ifs,0⟩] scope pos) 0 (.ref it) (.ref D) (compCx X scope (x::fr) s3.heap.objs.size s3 H3 fp pins).env)
  (compPost (model X.prog X.w) X.A X.xe use Qf (.ref D) s3.heap.objs.size) {s3 with heap:=h4,toks:=s3.toks+([]:List (Str×Value)).length}:=by
  refine compLoop_all (fun n s'=>∃i o H',Inv (compCx X scope (x::fr) s3.heap.objs.size s3 H3 fp pins) [] (compSt σ is o) H' s'∧tn i s'.heap∧(∀b∈fp,H' b=none)∧W i n H') ?_ m0 ⟨0,none,H3,I4,st4,fun b hb=>(f3 b hb).1,w0⟩
  rintro n s5 ⟨i,o,H5,I5,st5,fr5,w5⟩
  rcases turn i n H5 w5 with⟨stop,qn⟩|⟨go,step⟩
  ·refine thn (T.done (compCx X scope (x::fr) s3.heap.objs.size s3 H3 fp pins) rfl rfl rfl hc i [] s5 _ H5 (fun _ _=>False) I5 (stat fr5) st5 stop) fun r s6 ⟨hr,I6⟩=> ?_
   subst hr
   exact fin s3 H3 fp D _ H5 s6 I3 f3 I6 qn
  ·refine thn (T.item (compCx X scope (x::fr) s3.heap.objs.size s3 H3 fp pins) rfl rfl rfl hc i [] s5 _ H5 (fun _ _=>False) I5 (stat fr5) st5 go) fun r s6 ⟨u,hr,h6⟩=> ?_
   subst hr
   refine thn h6 fun _ s7 ⟨v,H7,I7,r7,y7,st7,fr7⟩=> ?_
   have I7':=I7.pinned (stat fr7) (T.obj _ _ st7)
   have gN:PG (compCx X scope (x::fr) s3.heap.objs.size s3 H3 fp pins) (.Name x px) (gName 0):=pg_name (i:=0) cs.nd rfl (.inl (lookup_relabel_local cs.var)) (.inr (lookup_relabel_local cs.var))
   refine thn (gN _ s7 _ H7 v u (fun σ' H'=>σ'=compSt σ is (some v)∧H'=H7) I7' r7 ⟨rfl,rfl⟩) fun _ s8 ⟨σ8,H8,I8,e8,e8'⟩=> ?_
   subst e8 e8'
   refine thn (ht s3.heap.objs.size s3 H3 fp pins _ s8 _ H8 _ I8 (step v H8 y7)) fun b s9 ⟨H9,I9,q9⟩=> ?_
   have again:∀ {s':Shared} {H':Hp} {m:Nat},Inv (compCx X scope (x::fr) s3.heap.objs.size s3 H3 fp pins) ([]++pinsAt fp s7.heap) (compSt σ is (some v)) H' s'→m<n→W (i+1) m H'→
    ∃m,m<n∧∃i o H',Inv (compCx X scope (x::fr) s3.heap.objs.size s3 H3 fp pins) [] (compSt σ is o) H' s'∧tn i s'.heap∧(∀b∈fp,H' b=none)∧W i m H':=fun {s' H' m} I' hm w'=>by
    refine⟨m,hm,i+1,some v,H',I'.unpinned,T.keep _ _ _ st7 fun b hb o e=>(I'.pin (b,o) (List.mem_append_right _ (List.mem_append_right _ (mem_pinsAt hb e)))).1,fun b hb=> ?_,w'⟩
    obtain⟨o,e,d⟩:=T.obj _ _ st7 b hb
    exact(I'.pin (b,o) (List.mem_append_right _ (List.mem_append_right _ (mem_pinsAt hb e)))).2.1
   cases b with
   |false=>
    obtain⟨m',hm,w9⟩:=q9
    exact again I9 hm w9
   |true=>
    refine thn (he s3.heap.objs.size s3 H3 fp pins _ s9 _ H9 _ I9 q9) fun y s10 ⟨yv,H10,I10,r10,ys,hD,hz,m',hm,w10⟩=> ?_
    refine thn (mt_append _ s10 _ H10 (.ref D) [yv] (.ref D) [y] (fun _ H'=>H'=upd H10 D (.lst (ys++[yv]))) I10 rfl (.cons r10 .nil) ⟨D,ys,yv,rfl,rfl,hD,hz,rfl⟩) fun _ s11 ⟨_,H11,I11,_,e11⟩=> ?_
    subst e11
    exact again I11 hm w10
 exact codeAny_compStart_list loop (T.self X.A 0 _ _ _ st4 loop)
theorem pe_compI{ifs:List Expr}{tt:TT}(hc:X.calm=true)(hi:PI X (.Name x px) iter wi)(ht:∀C s H fp pins,PTs (compCx X scope (x::fr) C s H fp pins) ifs tt)(he:∀C s H fp pins,PE (compCx X scope (x::fr) C s H fp pins) elt te)
 {sc:Scope}{N:List Str}(cs:CompScope sc N scope x fr is)(hsc:X.env.scope=sc:=by rfl)(hN:X.N=N:=by rfl)(hfs:∀x,foldedSetIterable iter X.env x=pure x:=by intro _;rfl):
 PE X (.ListComp elt [⟨.Name x px,iter,ifs,0⟩] scope pos) (tComp wi is tt te):=by
 subst hsc hN
 intro pins s σ H Q I h
 rw [eval_ListComp]
 refine comp_run hc hi ht he cs hfs I h fun s3 H3 fp D σ' H' s' I3 f3 J q=> ?_
 obtain⟨m6,hn6,_⟩:=id J.loc
 exact⟨m6,hn6,fun h7 sb7=>⟨.ref D,H',comp_end I3 f3 J sb7,rfl,q⟩⟩
theorem ps_setCompI{ifs:List Expr}{tt:TT}{y:Str}{py spos:Pos}{k:Nat}(hc:X.calm=true)(hi:PI X (.Name x px) iter wi)(ht:∀C s H fp pins,PTs (compCx X scope (x::fr) C s H fp pins) ifs tt)(he:∀C s H fp pins,PE (compCx X scope (x::fr) C s H fp pins) elt te)
 {sc:Scope}{N:List Str}(cs:CompScope sc N scope x fr is)(hnd:X.N.Nodup)(hk:X.N[k]?=some y)(hy:X.env.scope.names.lookup y=some .local)
 (hsw:swapsWith (.ListComp elt [⟨.Name x px,iter,ifs,0⟩] scope pos) (some (.Name y py)) spos.line X.env=pure true)(hsc:X.env.scope=sc:=by rfl)(hN:X.N=N:=by rfl)(hfs:∀x,foldedSetIterable iter X.env x=pure x:=by intro _;rfl):
 PS X (.Assign [.Name y py] (.ListComp elt [⟨.Name x px,iter,ifs,0⟩] scope pos) spos) (tAsg (tComp wi is tt te) (gName k)):=by
 subst hsc hN
 intro pins s σ H D I h
 rw [exec_Assign_Name_used _ _ _ _ hsw]
 refine wpAny_bind (wpAny_standAt (wpAny_bind ?_))
 show wpAny _ X.A (do let _←comprehension (.ListComp elt [⟨.Name x px,iter,ifs,0⟩] scope pos) scope X.env (firstIterPos [⟨.Name x px,iter,ifs,0⟩] pos) (newList []) false (eval iter X.env) (some (assign (.Name y py) X.env))) _ _ s
 refine wpAny_bind (thn (comp_run (use:=some (assign (.Name y py) X.env)) (Qf:=fun _ s'=>SP X pins D .next s') hc hi ht he cs hfs I h fun s3 H3 fp Da σ' H' s' I3 f3 J q=> ?_) fun _ s' hq=>wpAny_pure (wpAny_pure hq))
 have I5:Inv X pins σ H' s':=comp_end (h'':=s'.heap) I3 f3 J (.refl ..)
 obtain⟨m6,hn6,_⟩:=id J.loc
 have cne:s3.heap.objs.size≠X.env.locals:=Nat.ne_of_gt I3.lt
 have fC:FpOk X pins H' s3.heap.objs.size:=I3.fpOk (Nat.le_refl _) J.free
 refine wpAny_assign_Name (store_ok2 (v:=.ref Da) (u:=.ref Da) I5 hnd hk (.inl hy) rfl (fun s7 I7 ch=> ?_) (.inr hy))
 obtain⟨a,sb,ha⟩:=ch
 have nCa:s3.heap.objs.size≠a:=by
  rcases ha with rfl|ha
  ·exact cne
  ·exact fun z=>fC.2.2.2.2.1 y a ha z.symm
 refine⟨m6,hn6.sameBut sb nCa,fun h8 sb8=> ?_⟩
 refine⟨σ.set k (some (.ref Da)),H',?_,q⟩
 exact I7.turned (t':=s7.toks) (fun b o hb e=>(sb8.2 b hb).trans e) J.free cne fC.2.2.2.1 fC.2.2.2.2.1 fC.2.2.2.2.2
theorem pe_comp(hc:X.calm=true)(hi:PI X (.Name x px) iter wi)(he:∀C s H fp pins,PE (compCx X scope (x::fr) C s H fp pins) elt te)
 {sc:Scope}{N:List Str}(cs:CompScope sc N scope x fr is)(hsc:X.env.scope=sc:=by rfl)(hN:X.N=N:=by rfl)(hfs:∀x,foldedSetIterable iter X.env x=pure x:=by intro _;rfl):
 PE X (.ListComp elt [⟨.Name x px,iter,[],0⟩] scope pos) (tComp wi is tTrue te):=pe_compI hc hi (fun _ _ _ _ _=>pts_nil) he cs hsc hN hfs
theorem pe_compIf{c:Expr}{tt:TT}(hc:X.calm=true)(hi:PI X (.Name x px) iter wi)(ht:∀C s H fp pins,PT (compCx X scope (x::fr) C s H fp pins) c tt)(he:∀C s H fp pins,PE (compCx X scope (x::fr) C s H fp pins) elt te)
 {sc:Scope}{N:List Str}(cs:CompScope sc N scope x fr is)(hsc:X.env.scope=sc:=by rfl)(hN:X.N=N:=by rfl)(hfs:∀x,foldedSetIterable iter X.env x=pure x:=by intro _;rfl):
 PE X (.ListComp elt [⟨.Name x px,iter,[c],0⟩] scope pos) (tComp wi is tt te):=pe_compI hc hi (fun C s H fp pins=>pts_one (ht C s H fp pins)) he cs hsc hN hfs
end
noncomputable def CW(P:Addr→Nat→List V→Hp→Prop)(H:Hp)(n:Nat)(D:Addr)(i m:Nat)(H2:Hp):Prop:=m=n-i∧i≤n∧Same H H2∧∃ys,H2 D=some (.lst ys)∧ys.length≤i∧P D i ys H2
noncomputable def CNext(P:Addr→Nat→List V→Hp→Prop)(H:Hp)(n:Nat)(D:Addr)(i:Nat):VK:=fun y H5=>∃ys,H5 D=some (.lst ys)∧ys.length<sizeLine∧∃m',m'<n-i∧CW P H n D (i+1) m' (upd H5 D (.lst (ys++[y])))
noncomputable def CSkip(P:Addr→Nat→List V→Hp→Prop)(H:Hp)(n:Nat)(D:Addr)(i:Nat)(H4:Hp):Prop:=∃m',m'<n-i∧CW P H n D (i+1) m' H4
end L2
end
noncomputable section
namespace L2
open PySem PySem.Spec PyProof.Rows
section
variable{X:Cx}{pins:List (Addr×Obj)}{σ:St}{H:Hp}{s:Shared}
theorem Inv.walked{t':Nat}{ch:List Addr}{h':Heap}(I:Inv X pins σ H s)(hf:∀b∈ch,FpOk X pins H b)(k:∀b o,b∉ch→s.heap.get? b=some o→h'.get? b=some o):Inv X pins σ H {s with heap:=h',toks:=t'}:=by
 have nit:∀b u,H b=some u→b∉ch:=fun b u e z=>by rw [(hf b z).1]at e;cases e
 refine I.step (g':=s.gens) (d':=s.drawn) (ch:=ch) (fun b hb=>⟨(hf b hb).2.2.2.1,(hf b hb).2.1,(hf b hb).2.2.2.2.1,(hf b hb).2.2.2.2.2⟩) (fun b o _ _ hc e _=>k b o hc e) (fun b o _ _ hc e _=>⟨o.slots,k b o hc e⟩) (fun _ _ _ _ n=>n)
  (fun b o hc e=>⟨o,k b o hc e⟩) (fun _ _ e=>e) (fun _ _ _ e=>e) (fun b ps e=>⟨#[],by rw [e];simp⟩) (fun m hm=> ?_) (fun b u e=> ?_) I.bare
 ·obtain⟨o,es,ep,ho,r⟩:=hm
  exact⟨o,es,ep,k _ o (fun z=>(hf _ z).2.1 rfl) ho,r⟩
 ·refine(I.hok b u e).stay (fun c v hc q=>k c v ?_ q) (fun _ q=>q) fun _ _ q=>q
  rcases hc with z|z
  ·rw [z];exact nit b u e
  ·exact nit c _ z
theorem Inv.track{p:Addr}{o:HO}(I:Inv X pins σ H s)(hf:FpOk X pins H p)(new:ObjOk X.prog X.w (upd H p o) s.heap p o):Inv X pins σ (upd H p o) s:=by
 have ne:∀ {b:Addr} {u:HO},H b=some u→b≠p:=fun e z=>by rw [z,hf.1]at e;cases e
 refine I.step (g':=s.gens) (d':=s.drawn) (t':=s.toks) (h':=s.heap) (H':=upd H p o) (ch:=[p]) (fun b hb=> ?_) (fun b o _ _ _ e _=>e) (fun b o _ _ _ e _=>⟨o.slots,e⟩) (fun b u hc _ n=> ?_) (fun b o _ e=>⟨o,e⟩)
  (fun b xs e=>by rw [upd_ne (ne e)];exact e) (fun b o u e=>by rw [upd_ne (ne e)];exact e) (fun b ps e=>⟨#[],by rw [upd_ne (ne e),e];simp⟩) (fun m hm=>hm) (fun b u e=> ?_) I.bare
 ·have e:b=p:=by simpa using hb
  subst e
  exact⟨hf.2.2.2.1,hf.2.1,hf.2.2.2.2.1,hf.2.2.2.2.2⟩
 ·rw [upd_ne (fun z=>hc (by simp [z]))];exact n
 ·by_cases hb:b=p
  ·subst hb;rw [upd_same]at e;cases e;exact new
  ·rw [upd_ne hb]at e
   exact(I.hok b u e).stay (fun _ _ _ q=>q) (fun c q=>by rw [upd_ne (ne q)];exact q) fun c xs q=>by rw [upd_ne (ne q)];exact q
end
noncomputable def Itz(K:PySem.W.Frag)(l1 l2:Addr):It:=
 ⟨fun i H=>(∃xs x,SqL K H l1 xs∧xs[i]?=some x)∧∃ys y,SqL K H l2 ys∧ys[i]?=some y,
  fun i H v H'=>∃p x y,v=.ref p∧H p=none∧H'=upd H p (.tup [x,y])∧(∀xs,SqL K H l1 xs→xs[i]?=some x)∧∀ys,SqL K H l2 ys→ys[i]?=some y,
  fun i H=>∃xs ys,SqL K H l1 xs∧SqL K H l2 ys∧(xs.length≤i∨ys.length≤i)⟩
noncomputable def Ite(K:PySem.W.Frag)(l:Addr):It:=
 ⟨fun i H=>∃xs x,SqL K H l xs∧xs[i]?=some x,
  fun i H v H'=>∃p x,v=.ref p∧H p=none∧H'=upd H p (.tup [.int i,x])∧∀xs,SqL K H l xs→xs[i]?=some x,
  fun i H=>∃xs,SqL K H l xs∧xs.length≤i⟩
theorem addr_ne{a b:Nat}(h:¬a=b):(a:Addr)≠b:=h
theorem two_fits:2≤sizeLine:=by rw [sizeLine_eq];decide
theorem turn_enum{P:Program}{w:World}{K:PySem.W.Frag}{elts:List Expr}{k:Nat}{tpos:Pos}{e it l:Addr}(n1:e≠it):
 Turn P w K (.Tuple elts k tpos) (Ite K l) [e,it] e (fun i h=>(∃old,IsEnum h e it (i:Nat) old)∧h.IsListIter it l i) where
 mem:=by simp
 obj:=fun i h st b hb=>by
  obtain⟨⟨old,he⟩,⟨o1,e1,c1,d1⟩⟩:=st
  simp only [List.mem_cons,List.not_mem_nil,or_false]at hb
  rcases hb with rfl|rfl
  ·exact⟨_,he,fun v z=>by have z':Data.fields _=Data.cell v:=z;cases z'⟩
  ·exact⟨o1,e1,fun v z=>by rw [d1]at z;cases z⟩
 keep:=fun i h h' st kp=>by
  obtain⟨⟨old,he⟩,h1⟩:=st
  exact⟨⟨old,kp e (by simp) _ he⟩,h1.at fun o q=>kp it (by simp) o q⟩
 item:=by
  intro X hP hw hK hc i pins s σ H E I hf st hg
  subst hP hw hK
  obtain⟨⟨old,he⟩,h1⟩:=st
  obtain⟨xs,x,hq1,hx⟩:=hg
  obtain⟨its1,rv1,p1,_⟩:=I.list hq1
  obtain⟨u,hu,ru⟩:=rv1.get hx
  obtain⟨o1,e1,c1,d1⟩:=id h1
  have fp:FpOk X pins H s.heap.objs.size:=I.fpOk (Nat.le_refl _) I.fresh
  refine wpAny_pyNext_enum_item he h1 p1.isList (x:=u) (by simpa using hu) n1 fun h' a1 a2 a3 a4 kp=> ?_
  have I1:Inv X pins σ H {s with heap:=h',toks:=s.toks+1}:=I.walked hf fun b o hb q=>kp b o (fun z=>hb (by simp [z])) (fun z=>hb (by simp [z])) q
  refine⟨_,rfl,wpAny_letOwnedTupleGo_enum a1 fun h'' b1 sb=> ?_⟩
  have nz:s.heap.objs.size≠e:=Nat.ne_of_gt (Heap.lt_size he)
  have I2:Inv X pins σ H {s with heap:=h'',toks:=s.toks+1}:=I1.walked (t':=s.toks+1) (ch:=[e]) (fun b hb=>hf b (by rw [List.mem_singleton.mp hb];simp)) fun b o hb q=>(sb.2 b (fun z=>hb (by simp [z]))).trans q
  have gT:h''.get? s.heap.objs.size=some {cls:=.type "tuple",data:=.seq #[.int i s.toks,u]}:=(sb.2 _ nz).trans a3
  have I3:=I2.track (o:=.tup [.int i,x]) fp ⟨two_fits,[.int i s.toks,u],.cons ⟨_,rfl⟩ (.cons ru .nil),⟨_,gT,rfl,_,rfl⟩⟩
  refine⟨.ref s.heap.objs.size,_,I3,rfl,⟨_,x,rfl,fp.1,rfl,fun zs hzs=>by rw [I.list_inj hzs hq1];exact hx⟩,?_,fun b hb=> ?_⟩
  ·refine⟨⟨u,?_⟩,a2.at fun o q=>(sb.2 _ n1.symm).trans q⟩
   have b1':IsEnum h'' e it ((i:Int)+1) u:=b1
   rw [show(((i+1:Nat):Int))=(i:Int)+1 by omega]
   exact b1'
  ·have lt:∀ {b:Addr} {o:Obj},s.heap.get? b=some o→b≠s.heap.objs.size:=fun q=>Nat.ne_of_lt (Heap.lt_size q)
   rw [upd_ne]
   ·exact(hf b hb).1
   ·simp only [List.mem_cons,List.not_mem_nil,or_false]at hb
    rcases hb with rfl|rfl
    ·exact lt he
    ·exact lt e1
 done:=by
  intro X hP hw hK hc i pins s σ H E I hf st hg
  subst hP hw hK
  obtain⟨⟨old,he⟩,h1⟩:=st
  obtain⟨xs,hq1,hl⟩:=hg
  obtain⟨its1,rv1,p1,_⟩:=I.list hq1
  have l1e:=rv1.length
  refine wpAny_pyNext_enum_end (I.ok.hd hc) he h1 p1.isList (by simp;omega) fun h' kp=>⟨rfl,I.walked (t':=s.toks) hf fun b o hb q=>kp b o (fun z=>hb (by simp [z])) q⟩
 self:=fun _ _ _ _ _ st h=>let ⟨_,he⟩:=st.1;wpAny_pyIter_enum he h
section
variable{X:Cx}
noncomputable def iZip(K:PySem.W.Frag)(ta:TA):TI:=fun σ H R=>ta σ H fun vs H1=>∃a b,vs=[.ref a,.ref b]∧(∃xs,SqL K H1 a xs)∧(∃ys,SqL K H1 b ys)∧R (Itz K a b) H1
noncomputable def iEnum(K:PySem.W.Frag)(ta:TA):TI:=fun σ H R=>ta σ H fun vs H1=>∃a,vs=[.ref a]∧(∃xs,SqL K H1 a xs)∧R (Ite K a) H1
theorem boot_enumerate':bootBuiltins "enumerate"=some (.type "enumerate"):=by decide+kernel
theorem pi_enum{elts:List Expr}{k:Nat}{tpos:Pos}{a:Expr}{ta:TA}{p pos:Pos}(hg:Gl X "enumerate")(hm:X.mg "enumerate"=none)(ha:PA X [a] ta)(hs:starEach [a] X.env=[(false,eval a X.env)]:=by rfl):
 PI X (.Tuple elts k tpos) (.Call (.Name "enumerate" p) [a] [] pos) (iEnum X.K ta):=by
 intro pins s σ H R I h
 refine Call_ (ld_blt I hg hm boot_enumerate' (PyProof.Rows.callWith_type1 (thn (ha pos pins s σ H _ I h) fun us s1 ⟨vs,H1,I1,r1,q1⟩=> ?_) hs rfl))
 obtain⟨l1,e,⟨xs,hx⟩,q⟩:=q1
 subst e
 obtain⟨u1,rfl,ru1⟩:=r1.one
 cases ru1
 obtain⟨its1,rv1,p1,_⟩:=I1.list hx
 refine call_enumerate_list p1.isList fun h' a1 a2 a3 kp=>wpAny_pyIter_enum a1 ?_
 refine⟨s1.heap.objs.size+1,[s1.heap.objs.size+1,s1.heap.objs.size],_,_,H1,rfl,I1.kept (t':=s1.toks) kp,turn_enum (e:=s1.heap.objs.size+1) (it:=s1.heap.objs.size) (addr_ne (by omega)),⟨⟨_,a1⟩,a2⟩,fun b hb=> ?_,q⟩
 have hb':s1.heap.objs.size≤b:=by
  simp only [List.mem_cons,List.not_mem_nil,or_false]at hb
  rcases hb with rfl|rfl<;>omega
 exact I1.fpOk hb' (I1.hok.fresh hb')
end
end L2
end
noncomputable section
namespace L2
open PySem PySem.Spec PySem.SeqAt PyProof.Rows
section
variable{X:Cx}
theorem call_isinst:CallR X (.builtin "isinstance") (fun xs H Q=>∃x T t b,xs=[x,.ty T]∧TyOf X.K H x t∧PySem.W.kitOne X.K t (.type T)=some b∧Q (.bl b) H):=by
 intro pins s σ H xs us Q I r h
 obtain⟨x,T,t,b,rfl,ty,k,q⟩:=h
 obtain⟨u,v,rfl,ru,rv⟩:=r.two
 cases (show v=Value.type T from rv)
 exact isinst_ok I ru ty k fun tk=>⟨.bl b,H,I.tok _,rfl,q⟩
theorem pe_ty{x:Str}{T:String}{pos:Pos}(hg:Gl X x)(hm:X.mg x=none)(hv:bootBuiltins x=some (.type T))(hn:x≠"__name__":=by decide)(hd:(x==("__debug__":Str))=false:=by decide):PE X (.Name x pos) (tC (.ty T)):=
 pe_bltn hg hm hv rfl hn hd
theorem call_range1R:CallR X (.type "range") (fun xs H Q=>∃j,xs=[.int j]∧∀p,H p=none→Q (.ref p) (upd H p (.rng 0 j))):=by
 intro pins s σ H xs us Q I r h
 obtain⟨j,rfl,q⟩:=h
 obtain⟨u,rfl,ru⟩:=r.one
 obtain⟨t,rfl⟩:=ru
 refine call_range_1 ⟨.ref s.heap.objs.size,_,I.laid (o:=.rng 0 j) (fun b o e=>Heap.get?_push_of_some _ e) (Nat.le_refl _) ⟨_,_,_,Heap.get?_push_size _ rfl⟩,rfl,q _ I.fresh⟩
theorem vals_of_items{lo:Int}:∀(n:Nat) (l:List Value),l.length=n→(∀(j:Nat) (v:Value),l[j]?=some v→∃t,v=Value.int (lo+(j:Int)) t)→Vals ((List.range n).map fun(i:Nat)=>V.int (lo+(i:Int))) l:=by
 intro n
 induction n with
 |zero=>intro l hl _;rw [List.length_eq_zero_iff.mp hl];exact .nil
 |succ n ih=>
  intro l hl h
  obtain⟨l',v,rfl⟩:∃l' v,l=l'++[v]:=by
   rcases List.eq_nil_or_concat l with e|⟨l',v,e⟩
   ·rw [e]at hl;cases hl
   ·exact⟨l',v,by rw [e,List.concat_eq_append]⟩
  have hl':l'.length=n:=by simpa using hl
  rw [List.range_succ,List.map_append]
  refine Vals.append (ih l' hl' fun j w hj=>h j w ?_) (.cons ?_ .nil)
  ·rw [List.getElem?_append_left]
   ·exact hj
   ·exact(List.getElem?_eq_some_iff.mp hj).1
  ·exact h n v (by rw [←hl'];simp)
theorem call_list_rng(hc:X.calm=true):CallR X (.type "list") (fun xs H Q=>∃(p:Addr) (lo hi:Int),xs=[.ref p]∧H p=some (.rng lo hi)∧-(2 ^ 62)≤lo∧lo<2 ^ 62∧-(2 ^ 62)≤hi∧hi<2 ^ 62∧(hi-lo).toNat≤2 ^ 24∧
 ∀l,H l=none→Q (.ref l) (upd H l (.lst ((List.range (hi-lo).toNat).map fun(i:Nat)=>V.int (lo+(i:Int)))))):=by
 intro pins s σ H xs us Q I r h
 obtain⟨p,lo,hi,rfl,hp,b1,b2,b3,b4,hz,q⟩:=h
 obtain⟨u,rfl,ru⟩:=r.one
 cases ru
 obtain⟨t,t',t'',e⟩:=(show ObjOk X.prog X.w H s.heap p (.rng lo hi)from I.hok p _ hp)
 have hsz:Builtin.Range.rangeSize lo hi 1=(((hi-lo).toNat:Nat):Int):=by rw [rangeSize_one];split<;>omega
 refine call_list_range (I.ok.hd hc) e (small_one b1 b2 b3 b4) hsz hz fun h' tk acc' c' hk hS hacc=> ?_
 refine⟨.ref s.heap.objs.size,_,I.laid (o:=.lst ((List.range (hi-lo).toNat).map fun(i:Nat)=>V.int (lo+(i:Int)))) hk (Nat.le_refl _) ⟨?_,acc'.toList,c',?_,by simpa using hS⟩,rfl,q _ I.fresh⟩
 ·rw [List.length_map,List.length_range,sizeLine_eq];omega
 ·refine vals_of_items _ _ (by simpa using hacc.1) fun j v hj=> ?_
  obtain⟨t,rfl⟩:=hacc.2 j v (by simpa using hj)
  exact⟨t,by rw [Int.mul_one]⟩
theorem range_any{bs:List Bool}:(List.range bs.length).any (fun i=>bs.getD i false)=bs.any id:=by
 induction bs with
 |nil=>rfl
 |cons b bs ih=>
  rw [List.length_cons,List.range_succ_eq_map,List.any_cons,List.any_map,List.any_cons,←ih]
  rfl
theorem range_all{bs:List Bool}:(List.range bs.length).all (fun i=>bs.getD i false)=bs.all id:=by
 induction bs with
 |nil=>rfl
 |cons b bs ih=>
  rw [List.length_cons,List.range_succ_eq_map,List.all_cons,List.all_map,List.all_cons,←ih]
  rfl
theorem truth_bl{bs:List Bool}{its:List Value}(rv:Vals (bs.map V.bl) its)(A:Around):TruthOf X.prog X.w A (fun i v=>its.toArray[i]?=some v) (fun i=>bs.getD i false):=by
 intro i v s Q E hP hQ
 have hP':its[i]?=some v:=by simpa using hP
 have hi:i<(bs.map V.bl).length:=by rw [rv.length];exact(List.getElem?_eq_some_iff.mp hP').1
 have hi':i<bs.length:=by simpa using hi
 obtain⟨u,hu,ru⟩:=rv.get (i:=i) (x:=V.bl bs[i]) (by simp [hi'])
 rw [hP']at hu
 cases hu
 cases (show v=Value.bool bs[i]from ru)
 refine wpAny_truthy_bool ?_
 have e:bs.getD i false=bs[i]:=by simp [hi']
 rw [←e]
 exact hQ
theorem call_any_bl(hc:X.calm=true):CallR X (.builtin "any") (fun xs H Q=>∃(p:Addr) (bs:List Bool),xs=[.ref p]∧SqL X.K H p (bs.map V.bl)∧Q (.bl (bs.any id)) H):=by
 intro pins s σ H xs us Q I r h
 obtain⟨p,bs,rfl,hq,q⟩:=h
 obtain⟨u,rfl,ru⟩:=r.one
 cases ru
 obtain⟨its,rv,pl,hz⟩:=I.list hq
 obtain⟨ol,el,cl,_⟩:=pl.isList
 refine call_any_walk (wpAny_pyIter_list pl.isList ?_)
 refine⟨_,_,_,_,_,_,_,rfl,Walks.list (A:=X.A.in1) (I.ok.hd hc) s.heap.objs.size p (Nat.ne_of_lt (Heap.lt_size el)) its.toArray,⟨⟨_,Heap.get?_push_size _ rfl,rfl,rfl⟩,pl.isList.push _⟩,truth_bl rv _,fun h' tk hk=> ?_⟩
 refine⟨.bl _,H,I.kept fun b o e=>hk b o (fun z=>Nat.ne_of_lt (Heap.lt_size e) (by simpa using z)) (Heap.get?_push_of_some _ e),rfl,?_⟩
 have e:its.toArray.size=bs.length:=by rw [List.size_toArray,←rv.length,List.length_map]
 rw [e,range_any]
 exact q
theorem call_all_bl(hc:X.calm=true):CallR X (.builtin "all") (fun xs H Q=>∃(p:Addr) (bs:List Bool),xs=[.ref p]∧SqL X.K H p (bs.map V.bl)∧Q (.bl (bs.all id)) H):=by
 intro pins s σ H xs us Q I r h
 obtain⟨p,bs,rfl,hq,q⟩:=h
 obtain⟨u,rfl,ru⟩:=r.one
 cases ru
 obtain⟨its,rv,pl,hz⟩:=I.list hq
 obtain⟨ol,el,cl,_⟩:=pl.isList
 refine call_all_walk (wpAny_pyIter_list pl.isList ?_)
 refine⟨_,_,_,_,_,_,_,rfl,Walks.list (A:=X.A.in1) (I.ok.hd hc) s.heap.objs.size p (Nat.ne_of_lt (Heap.lt_size el)) its.toArray,⟨⟨_,Heap.get?_push_size _ rfl,rfl,rfl⟩,pl.isList.push _⟩,truth_bl rv _,fun h' tk hk=> ?_⟩
 refine⟨.bl _,H,I.kept fun b o e=>hk b o (fun z=>Nat.ne_of_lt (Heap.lt_size e) (by simpa using z)) (Heap.get?_push_of_some _ e),rfl,?_⟩
 have e:its.toArray.size=bs.length:=by rw [List.size_toArray,←rv.length,List.length_map]
 rw [e,range_all]
 exact q
noncomputable def rInsert:V→List V→Hp→VK→Prop:=fun x vs H Q=>∃(l:Addr) (xs:List V) (i:Int) (y:V),x=.ref l∧vs=[.int i,y]∧H l=some (.lst xs)∧0≤i∧i≤xs.length∧xs.length<sizeLine∧Q .non (upd H l (.lst (xs.take i.toNat++y::xs.drop i.toNat)))
theorem mt_insert:MtM X "list.insert" rInsert:=by
 intro pins s σ H x vs v us Q I rx rv h
 obtain⟨l,xs,i,y,rfl,rfl,hH,h0,hi,hz,q⟩:=h
 cases rx
 obtain⟨u1,u2,rfl,⟨t,ht⟩,ru⟩:=rv.two
 subst ht
 obtain⟨z,its,n,r,hl,e⟩:=I.lstM hH
 have fits:¬(!Builtin.List.listFitsIndex i)=true:=by
  have:=line63
  simp [Builtin.List.listFitsIndex]
  omega
 refine call_meets F.slot_list_insert ⟨_,e,rfl⟩ F.entry_list_insert (F.args_list_insert_3 _ _ _) (PySem.AutoListH.list_insert_list_int_val_1 l its.toArray n i t u2 fits (by rw [List.size_toArray];omega)) ⟨e,?_⟩
 refine⟨.non,_,I.lset (its':=its.take i.toNat++u2::its.drop i.toNat) hH e ?_ ((r.take _).append (.cons ru (r.drop _))) ?_,rfl,q⟩
 ·have h1:¬i<0:=by omega
  have h2:min i.toNat its.length=i.toNat:=by omega
  simp [h1,h2]
  exact List.take_of_length_le (by rw [List.length_drop];exact Nat.le_refl _)
 ·rw [List.length_append,List.length_cons,List.length_take,List.length_drop];omega
noncomputable def tRev(K:PySem.W.Frag)(te ts:TE):TE:=fun σ H Q=>te σ H fun x H1=>ts σ H1 fun k H2=>k=.int (-1)∧∃a xs,x=.ref a∧SqL K H2 a xs∧∀p,H2 p=none→Q (.ref p) (upd H2 p (.lst xs.reverse))
theorem pe_rev{e st:Expr}{te ts:TE}{p2 pos:Pos}(he:PE X e te)(hst:PE X st ts):PE X (.Subscript e (.Slice none none (some st) p2) pos) (tRev X.K te ts):=by
 intro pins s σ H Q I h
 refine Subscript_ (thn (he pins s σ H _ I h) fun v s1 ⟨x,H1,I1,r1,q1⟩=> ?_)
 refine wpAny_Slice ?_
 rw [evalPart_none]
 refine wpAny_pure ?_
 refine wpAny_pure ?_
 rw [evalPart_some]
 refine thn (hst pins s1 σ H1 _ I1 q1) fun vk s2 ⟨k,H2,I2,rk,ek,q2⟩=> ?_
 subst ek
 obtain⟨t,rfl⟩:=rk
 obtain⟨a,xs,rfl,hx,q⟩:=q2
 cases r1
 have I4:Inv X pins σ H2 {s2 with heap:=s2.heap.push {cls:=.type "slice",data:=.fields #[.none,.none,.int (-1) t]}}:=I2.kept (t':=s2.toks) fun b ob q=>Heap.get?_push_of_some _ q
 obtain⟨its,r,ht,hz⟩:=I4.list hx
 have hlen:=r.length
 show wpAny (model X.prog X.w) X.A (subscriptTail e (.Slice none none (some st) p2) (.ref a) (.ref s2.heap.objs.size)) (EP X pins σ Q) X.xe {s2 with heap:=s2.heap.push {cls:=.type "slice",data:=.fields #[.none,.none,.int (-1) t]}}
 refine tail_any (ops:=[.ref a,.ref s2.heap.objs.size]) ht.isList.typeIs slot_list_getitem.lookup ?_ (by with_unfolding_all rfl)
 refine wpAny_getItem_list_slice ht.isList (Heap.IsSliceOf.new ..) .none .none (.int (-1) t) (by simp) ?_ (by rw [List.size_toArray]<;>omega)
 rw [slicePick_rev]
 refine⟨.ref _,_,I4.laid (t':=s2.toks) (o:=.lst xs.reverse) (fun b ob q=>Heap.get?_push_of_some _ q) (Nat.le_refl _) ?_,rfl,q _ (I4.hok.fresh (Nat.le_refl _))⟩
 exact⟨by rw [List.length_reverse];exact hz,its.reverse,0,r.reverse,Heap.get?_push_size _ rfl⟩
end
mutual
inductive DV(K:PySem.W.Frag)(H:Hp):V→PyData→Prop where
 |non:DV K H .non .none
 |bl (b:Bool):DV K H (.bl b) (.bool b)
 |int (i:Int):DV K H (.int i) (.int i)
 |str (x:Str):DV K H (.str x) (.str x)
 |lst {a:Addr} {xs:List V} {ds:List PyData}:SqL K H a xs→DVs K H xs ds→DV K H (.ref a) (.list ds)
 |tup {a:Addr} {xs:List V} {ds:List PyData}:SqT K H a xs→DVs K H xs ds→DV K H (.ref a) (.tuple ds)
inductive DVs(K:PySem.W.Frag)(H:Hp):List V→List PyData→Prop where
 |nil:DVs K H [] []
 |cons {x:V} {d:PyData} {xs:List V} {ds:List PyData}:DV K H x d→DVs K H xs ds→DVs K H (x::xs) (d::ds)
end
section
variable{X:Cx}{pins:List (Addr×Obj)}{σ:St}{H:Hp}{s:Shared}
mutual
theorem dv_reads(I:Inv X pins σ H s):∀ {x:V} {d:PyData} {u:Value},DV X.K H x d→RelV x u→∃as,Reads s.heap u d as
 |_,_,u,.non,r=>⟨[],by cases (show u=Value.none from r);exact .none⟩
 |_,_,u,.bl b,r=>⟨[],by cases (show u=Value.bool b from r);exact .bool b⟩
 |_,_,u,.int i,r=>⟨[],by obtain⟨t,rfl⟩:=(show∃t,u=Value.int i t from r);exact .int i t⟩
 |_,_,u,.str x,r=>⟨[],by obtain⟨t,rfl⟩:=(show∃t,u=Value.str x t from r);exact .str x t⟩
 |_,_,u,@DV.lst _ _ a xs ds h hs,r=>by
  cases (show u=Value.ref a from r)
  obtain⟨its,rv,pl,_⟩:=I.list h
  obtain⟨o,ho,hc,n,hd⟩:=pl.isList
  obtain⟨as,ra⟩:=dvs_reads I hs rv
  exact⟨a::as,.list ho hc hd (by simpa using ra)⟩
 |_,_,u,@DV.tup _ _ a xs ds h hs,r=>by
  cases (show u=Value.ref a from r)
  obtain⟨its,rv,pl,_⟩:=I.tuple h
  obtain⟨o,ho,hc,n,hd⟩:=pl
  obtain⟨as,ra⟩:=dvs_reads I hs rv
  exact⟨as,.tuple ho hc hd (by simpa using ra)⟩
theorem dvs_reads(I:Inv X pins σ H s):∀ {xs:List V} {ds:List PyData} {us:List Value},DVs X.K H xs ds→Vals xs us→∃as,ReadsAll s.heap us ds as
 |_,_,_,.nil,.nil=>⟨[],.nil⟩
 |_,_,_,.cons h hs,.cons r rs=>by
  obtain⟨as,ra⟩:=dv_reads I h r
  obtain⟨bs,rb⟩:=dvs_reads I hs rs
  exact⟨as++bs,.cons ra rb⟩
end
end
section
variable{X:Cx}
noncomputable def rEqD(K:PySem.W.Frag)(neg:Bool):R2:=fun x y H Q=>∃da db,DV K H x da∧DV K H y db∧shaped da=true∧shaped db=true∧noMix da db=true∧Q (.bl (if neg then !same da db else same da db)) H
theorem op_eqD(hu:X.A.units+64<cLine):OpR X (compareOp .Eq) (rEqD X.K false):=by
 intro pins s σ H x y v u Q I rx ry h
 obtain⟨da,db,h1,h2,s1,s2,nm,q⟩:=h
 obtain⟨as,ra⟩:=dv_reads I h1 rx
 obtain⟨bs,rb⟩:=dv_reads I h2 ry
 exact eq_dataH_same ra rb s1 s2 hu nm ⟨.bl _,H,I,rfl,q⟩
theorem op_neD(hu:X.A.units+64<cLine):OpR X (compareOp .NotEq) (rEqD X.K true):=by
 intro pins s σ H x y v u Q I rx ry h
 obtain⟨da,db,h1,h2,s1,s2,nm,q⟩:=h
 obtain⟨as,ra⟩:=dv_reads I h1 rx
 obtain⟨bs,rb⟩:=dv_reads I h2 ry
 exact ne_dataH_same ra rb s1 s2 hu nm ⟨.bl _,H,I,rfl,q⟩
noncomputable def rEqL(K:PySem.W.Frag)(neg:Bool):R2:=fun x y H Q=>∃(a b:Addr) (ns ms:List Int),x=.ref a∧y=.ref b∧SqL K H a (ns.map V.int)∧SqL K H b (ms.map V.int)∧Q (.bl (if neg then !decide (ns=ms)else decide (ns=ms))) H
end
end L2
end
noncomputable section
namespace SW
open PySem
noncomputable def Rise(xs:Array Nat):Prop:=xs.toList.Pairwise (· <·)
theorem Rise.lt{xs:Array Nat}(h:Rise xs){i j a b:Nat}(hij:i<j)(ha:xs[i]?=some a)(hb:xs[j]?=some b):a<b:=by
 rw [←Array.getElem?_toList]at ha hb
 obtain⟨h1,rfl⟩:=List.getElem?_eq_some_iff.mp ha
 obtain⟨h2,rfl⟩:=List.getElem?_eq_some_iff.mp hb
 exact List.pairwise_iff_getElem.mp h i j h1 h2 hij
theorem go_ok{xs:Array Nat}(h:Rise xs)(j:Nat):∀(fuel lo hi:Nat),hi≤xs.size→lo≤hi→hi-lo≤fuel→(∀k a,k<lo→xs[k]?=some a→a<j)→(∀k a,hi≤k→xs[k]?=some a→j≤a)→
 SetTable.below.go xs j fuel lo hi≤xs.size∧(∀k a,k<SetTable.below.go xs j fuel lo hi→xs[k]?=some a→a<j)∧(∀k a,SetTable.below.go xs j fuel lo hi≤k→xs[k]?=some a→j≤a)
 |0,lo,hi,hs,hl,hf,h1,h2=>by
  have e:lo=hi:=by omega
  subst e
  exact⟨hs,h1,h2⟩
 |fuel+1,lo,hi,hs,hl,hf,h1,h2=>by
  unfold SetTable.below.go
  split
  ·rename_i lt
   have hm:(lo+hi)/2<xs.size:=by omega
   have hg:xs[(lo+hi)/2]?=some (xs.getD ((lo+hi)/2) j):=by simp [hm]
   dsimp only
   by_cases c:xs.getD ((lo+hi)/2) j<j
   ·rw [if_pos c]
    refine go_ok h j fuel ((lo+hi)/2+1) hi hs (by omega) (by omega) (fun k a hk ha=> ?_) h2
    rcases Nat.lt_or_ge k ((lo+hi)/2)with hk'|hk'
    ·exact Nat.lt_trans (h.lt hk' ha hg) c
    ·have e:k=(lo+hi)/2:=by omega
     subst e
     rw [hg]at ha;cases ha;exact c
   ·rw [if_neg c]
    refine go_ok h j fuel lo ((lo+hi)/2) (by omega) (by omega) (by omega) h1 (fun k a hk ha=> ?_)
    rcases Nat.lt_or_ge ((lo+hi)/2) k with hk'|hk'
    ·have:=h.lt hk' hg ha;omega
    ·have e:k=(lo+hi)/2:=by omega
     subst e
     rw [hg]at ha;cases ha;omega
  ·have e:lo=hi:=by omega
   subst e
   exact⟨hs,h1,h2⟩
theorem below_ok{xs:Array Nat}(h:Rise xs)(j:Nat):SetTable.below xs j≤xs.size∧(∀k a,k<SetTable.below xs j→xs[k]?=some a→a<j)∧(∀k a,SetTable.below xs j≤k→xs[k]?=some a→j≤a):=
 go_ok h j _ 0 _ (Nat.le_refl _) (Nat.zero_le _) (by omega) (fun k a hk _=>by omega) (fun k a hk ha=>by rw [Array.getElem?_eq_none hk]at ha;cases ha)
theorem rise_put{xs:Array Nat}(h:Rise xs){j:Nat}(hn:xs[SetTable.below xs j]?≠some j):Rise (SetTable.insertAt xs (SetTable.below xs j) j):=by
 obtain⟨b0,b1,b2⟩:=below_ok h j
 have h':xs.toList.Pairwise (· <·):=h
 show(SetTable.insertAt xs (SetTable.below xs j) j).toList.Pairwise (· <·)
 rw [SetTable.toList_insertAt]
 have hd:∀a∈xs.toList.drop (SetTable.below xs j),j<a:=fun a ha=>by
  obtain⟨k,hk,e⟩:=List.getElem_of_mem ha
  have g:xs[SetTable.below xs j+k]?=some a:=by
   rw [←Array.getElem?_toList,←List.getElem?_drop,List.getElem?_eq_some_iff];exact⟨hk,e⟩
  have le:=b2 _ _ (Nat.le_add_right _ _) g
  rcases Nat.lt_or_eq_of_le le with q|q
  ·exact q
  ·subst q
   cases k with
   |zero=>exact absurd g hn
   |succ k=>
    have hs:SetTable.below xs j<xs.size:=by
     rcases Nat.lt_or_ge (SetTable.below xs j) xs.size with q|q
     ·exact q
     ·rw [Array.getElem?_eq_none (by omega)]at g;cases g
    have g0:xs[SetTable.below xs j]?=some xs[SetTable.below xs j]:=by simp [hs]
    have c1:=h.lt (by omega) g0 g
    have c2:=b2 _ _ (Nat.le_refl _) g0
    omega
 have ht:∀a∈xs.toList.take (SetTable.below xs j),a<j:=fun a ha=>by
  obtain⟨k,hk,e⟩:=List.getElem_of_mem ha
  have hk':k<SetTable.below xs j:=by rw [List.length_take]at hk;omega
  have g:xs[k]?=some a:=by
   rw [←Array.getElem?_toList,←List.getElem?_take_of_lt hk',List.getElem?_eq_some_iff];exact⟨hk,e⟩
  exact b1 k a hk' g
 refine List.pairwise_append.mpr ⟨h'.sublist (List.take_sublist _ _),List.pairwise_cons.mpr ⟨hd,h'.sublist (List.drop_sublist _ _)⟩,fun a ha b hb=> ?_⟩
 rcases List.mem_cons.mp hb with rfl|hb
 ·exact ht a ha
 ·exact Nat.lt_trans (ht a ha) (hd b hb)
noncomputable def Off(t:SetTable)(j:Nat):Prop:=t.place[SetTable.below t.place j]?≠some j
theorem off_empty{t:SetTable}{j:Nat}(h:t.slot j=.empty):Off t j:=fun e=>by
 unfold SetTable.slot at h
 simp only [e,beq_self_eq_true,if_true]at h
 cases h
theorem off_dummy{t:SetTable}{j:Nat}(h:t.slot j=.dummy):Off t j:=fun e=>by
 unfold SetTable.slot at h
 simp only [e,beq_self_eq_true,if_true]at h
 cases h
theorem adv_dummy(t:SetTable)(p:SetTable.Probe):(t.advance p).dummy=p.dummy:=by
 unfold SetTable.advance
 split<;>rfl
theorem probe_off{t:SetTable}{f:Nat→Int}{h:Int}:∀(fuel:Nat) (p:SetTable.Probe) {j:Nat} {d:Option Nat},(∀x,p.dummy=some x→Off t x)→SetTable.probe.go t f h fuel p=some (.empty j d)→Off t j∧∀x,d=some x→Off t x
 |0,_,_,_,_,e=>by cases e
 |fuel+1,p,j,d,hd,e=>by
  unfold SetTable.probe.go at e
  split at e
  ·rename_i q
   cases e
   exact⟨off_empty q,hd⟩
  ·rename_i q
   refine probe_off fuel _ (fun x hx=> ?_) e
   rw [adv_dummy]at hx
   cases hx
   exact off_dummy q
  ·split at e
   ·cases e
   ·refine probe_off fuel _ (fun x hx=> ?_) e
    rw [adv_dummy]at hx
    exact hd x hx
theorem freeSlot_off{t:SetTable}{h:Int}{slot:Nat}{b:Bool}(e:t.freeSlot h=some (slot,b)):Off t slot:=by
 unfold SetTable.freeSlot at e
 split at e
 ·rename_i j d q
  obtain⟨o1,o2⟩:=probe_off _ _ (fun x hx=>by cases hx) q
  cases e
  cases d with
  |none=>exact o1
  |some x=>exact o2 x rfl
 ·cases e
structure Gd(bt:Bool)(t:SetTable):Prop where
 led:bt=false→t.led=true
 rise:t.plain=true→Rise t.place
theorem gd_fresh(bt:Bool):Gd bt (.fresh 0 0 (!bt)):=⟨fun h=>by rw [h];rfl,fun _=>List.Pairwise.nil⟩
theorem Gd.off{bt:Bool}{t:SetTable}(g:Gd bt t)(n:Nat):Gd bt (t.standIn n):=⟨g.led,fun h=>by cases h⟩
theorem gd_layNew{bt:Bool}{t:SetTable}(g:Gd bt t)(es:Array (Int×Value))(h:Int)(x:Value):Gd bt (layNew t es h x).2.1:=by
 unfold layNew
 split
 ·rename_i slot wd e
  have o:=freeSlot_off e
  show Gd bt ((t.put slot).1.orStandIn _)
  unfold SetTable.orStandIn
  have g1:Gd bt (t.put slot).1:=⟨g.led,fun hp=>rise_put (g.rise hp) o⟩
  split
  ·exact g1
  ·exact g1.off _
 ·exact g.off _
theorem rise_range{n:Nat}{f:Nat→Option Nat}:((List.range n).filterMap fun j=>(f j).map (j,·)).Pairwise (fun a b=>a.1<b.1):=by
 refine List.pairwise_filterMap.mpr ((List.pairwise_lt_range (n:=n)).imp fun {a b} hab x hx y hy=> ?_)
 obtain⟨_,_,rfl⟩:=msi hx
 obtain⟨_,_,rfl⟩:=msi hy
 exact hab
theorem gd_relaid{bt:Bool}{t t':SetTable}(g:Gd bt t){hs:Array Int}{wt:Nat}{order:Array Nat}(e:t.relaid hs wt=some (t',order)):Gd bt t':=by
 unfold SetTable.relaid SetTable.laid at e
 obtain⟨owner,_,e⟩:=bsi e
 cases e
 exact⟨g.led,fun _=>List.pairwise_map.mpr rise_range⟩
theorem gd_relayAll{bt:Bool}{t:SetTable}(g:Gd bt t)(es:Array (Int×Value))(wt:Nat):Gd bt (relayAll t es wt).2.1:=by
 unfold relayAll
 split
 ·rename_i t' order e
  have g':=gd_relaid g e
  dsimp only
  split
  ·exact g'
  ·exact g.off _
 ·exact g.off _
end SW
end
noncomputable section
namespace SW
open PySem
noncomputable def toI:Value→Int
 | .int i _=>i
 |_=>0
noncomputable def keys(es:Array (Int×Value)):List Int:=es.toList.map fun e=>toI e.2
noncomputable def byT(w:World):Bool:=w.params.followText "set-order"
structure At(prog:Program)(w:World)(h:Heap)(a:Addr)(es:Array (Int×Value))(ep:Nat)(t:SetTable):Prop where
 obj:h.get? a=some {cls:=.type "set",dict:=none,data:=.set es ep t,slots:= #[]}
 fit:t.fits es.size=true
 gd:Gd (byT w) t
 el:ElemsOf (intKind prog w) es.toList
 bnd:es.size<scanBound
 nd:(keys es).Nodup
section
variable{prog:Program}{w:World}{A:Around}{E:Value→Shared→Prop}{s:Shared}{a:Addr}{es:Array (Int×Value)}{ep:Nat}{t:SetTable}
theorem At.keep{h h':Heap}(H:At prog w h a es ep t)(k:∀o,h.get? a=some o→h'.get? a=some o):At prog w h' a es ep t:=⟨k _ H.obj,H.fit,H.gd,H.el,H.bnd,H.nd⟩
theorem elem_int{l:List (Int×Value)}(h:ElemsOf (intKind prog w) l){e:Int×Value}(he:e∈l):∃tk,e.2=.int (toI e.2) tk:=by
 obtain⟨⟨k,hk,_⟩,_⟩:=h e he
 obtain⟨tk,e2⟩:=Value.isInt_shape (k:=k) (v:=e.2) hk
 rw [e2];exact⟨tk,rfl⟩
theorem is_toI{l:List (Int×Value)}(h:ElemsOf (intKind prog w) l){e:Int×Value}(he:e∈l)(k:Int):(intKind prog w).is k e.2=true↔toI e.2=k:=by
 constructor
 ·intro q
  obtain⟨tk,e2⟩:=Value.isInt_shape (k:=k) (v:=e.2) q
  rw [e2];rfl
 ·intro q
  obtain⟨tk,e2⟩:=elem_int h he
  rw [e2,q];exact intKind_is _ _ _ _
noncomputable def Plus(ks:List Int)(k:Int)(ks':List Int):Prop:=ks'.Nodup∧∀x,x∈ks'↔x∈ks∨x=k
theorem laid_at{o:Obj}{es':Array (Int×Value)}{t':SetTable}(ho:s.heap.get? a=some {cls:=.type "set",dict:=none,data:=.set es ep t,slots:= #[]}):
 (s.heap.update a (Obj.putSet es' t')).get? a=some {cls:=.type "set",dict:=none,data:=.set es' (ep+1) t',slots:= #[]}:=by
 have:=Heap.get?_update_self (Obj.putSet es' t') ho rfl
 exact this
theorem keys_perm{x y:Array (Int×Value)}(p:x.toList.Perm y.toList):(keys x).Perm (keys y):=p.map _
theorem plus_perm{ks ks' ks2:List Int}{k:Int}(p:Plus ks k ks')(q:ks2.Perm ks'):Plus ks k ks2:=⟨q.nodup_iff.mpr p.1,fun x=>q.mem_iff.trans (p.2 x)⟩
theorem add_ok{k:Int}{tk:Tok}{Q:Bool→Shared→Prop}(H:At prog w s.heap a es ep t)(room:es.size+1<scanBound)
 (h:∀b h' es' ep' t',Heap.SameBut a s.heap h'→At prog w h' a es' ep' t'→es'.size≤es.size+1→Plus (keys es) k (keys es')→Q b {s with heap:=h'}):
 wpAny (model prog w) A (setAddHashed a (.int k tk) ((intKind prog w).hash k)) Q E s:=by
 have hk:=intKind_is prog w k tk
 have hsc:(Value.int k tk).scannable=true:=rfl
 unfold setAddHashed setAddHashedIn
 refine wpAny_holding (wpAny_bind (wpAny_setState_of H.obj rfl H.fit ?_))
 dsimp only
 rw [byScan_of hsc H.bnd H.el,if_pos rfl]
 unfold setAddByScan
 refine wpAny_bind (wpAny_bind (wpAny_rule (wpAny_bind (wpAny_setScan_of hk H.obj rfl H.fit H.el ?_))))
 cases hr:List.findIdx? (fun e=>(intKind prog w).is k e.2) es.toList with
 |some j=>
  obtain⟨hj,pj,_⟩:=List.findIdx?_eq_some_iff_getElem.mp hr
  have hm:=List.getElem_mem hj
  have kk:k∈keys es:=List.mem_map.mpr ⟨_,hm,(is_toI H.el hm k).mp pj⟩
  dsimp only
  refine wpAny_pure (wpAny_pure ?_)
  have:=h false s.heap es ep t (Heap.SameBut.refl a s.heap) H (Nat.le_succ _) ⟨H.nd,fun x=>⟨.inl,fun z=>z.elim id fun z=>z▸kk⟩⟩
  exact this
 |none=>
  have nk:k∉keys es:=fun z=>by
   obtain⟨e,he,q⟩:=List.mem_map.mp z
   have:=List.findIdx?_eq_none_iff.mp hr e he
   rw [(is_toI H.el he k).mpr q]at this;cases this
  have gw:∀(b:Bool) {s₁:Shared} {Q':Unit→Shared→Prop},Q' () s₁→wpAny (model prog w) A (match b with|true=>rule "set.scan.the-table-gave-way"|false=>pure ()) Q' E s₁:=
   fun b s₁ Q' hq=>by cases b<;>first|exact wpAny_pure hq|exact wpAny_rule hq
  dsimp only
  have hp:=layNew_perm t es ((intKind prog w).hash k) (.int k tk)
  have hf:=layNew_fits t es ((intKind prog w).hash k) (.int k tk)
  have hg:=gd_layNew H.gd es ((intKind prog w).hash k) (.int k tk)
  generalize layNew t es ((intKind prog w).hash k) (.int k tk)=L at hp hf hg⊢
  obtain⟨es1,t1,wd,gv⟩:=L
  dsimp only at hp hf hg⊢
  have z1:es1.size=es.size+1:=by rw [←Array.length_toList,hp.length_eq];simp
  rw [Array.toList_push]at hp
  have el1:ElemsOf (intKind prog w) es1.toList:=(H.el.push hk hsc).perm hp
  have pl:Plus (keys es) k (keys es1):=by
   have p1:(keys es1).Perm (keys es++[k]):=by
    have:=hp.map fun e=>toI e.2
    rw [List.map_append]at this
    exact this
   refine⟨p1.nodup_iff.mpr (List.nodup_append.mpr ⟨H.nd,by simp,fun x hx y hy=> ?_⟩),fun x=> ?_⟩
   ·rw [List.mem_singleton]at hy
    subst hy
    exact fun e=>nk (e▸hx)
   ·rw [p1.mem_iff,List.mem_append,List.mem_singleton]
  refine wpAny_bind (gw _ ?_)
  have hv:(if t1.plain=true then hashByValue 8 (Value.int k tk)else pure true)=pure true:=by
   split
   ·rw [hashByValue_scannable 8 hsc];rfl
   ·rfl
  have tail:wpAny (model prog w) A (do
   storeSet a es1 t1
   if(!wd&&t1.tooFull)=true then do
      (match (relayAll t1 es1 (SetTable.grown es1.size)).2.2 with|true=>rule "set.scan.the-table-gave-way"|false=>pure ())
      storeSet a (relayAll t1 es1 (SetTable.grown es1.size)).1 (relayAll t1 es1 (SetTable.grown es1.size)).2.1
      pure (some true)
    else pure (some true)) (fun r s'=>r=some true∧∃h' es' ep' t',s'= {s with heap:=h'}∧Heap.SameBut a s.heap h'∧At prog w h' a es' ep' t'∧es'.size≤es.size+1∧Plus (keys es) k (keys es')) E s:=by
   refine wpAny_bind (wpAny_storeSet_of H.obj rfl ?_ (fits_of_scanBound (by omega)))
   have o1:=laid_at (s:=s) (o:= {cls:=.none,data:=.dict #[] 0}) (es':=es1) (t':=t1) H.obj
   have b1:=Heap.SameBut.update s.heap a (Obj.putSet es1 t1)
   split
   ·have rp:=relayAll_perm t1 es1 (SetTable.grown es1.size)
    have rf:=relayAll_fits t1 es1 (SetTable.grown es1.size)
    have rg:=gd_relayAll hg es1 (SetTable.grown es1.size)
    generalize relayAll t1 es1 (SetTable.grown es1.size)=L at rp rf rg⊢
    obtain⟨es2,t2,gv2⟩:=L
    dsimp only at rp rf rg⊢
    have z2:es2.size=es1.size:=by rw [←Array.length_toList,rp.length_eq,Array.length_toList]
    refine wpAny_bind (gw _ (wpAny_bind (wpAny_storeSet_of o1 rfl ?_ (fits_of_scanBound (by omega)))))
    have o2:=laid_at (s:= {s with heap:=s.heap.update a (Obj.putSet es1 t1)}) (o:= {cls:=.none,data:=.dict #[] 0}) (es':=es2) (t':=t2) o1
    have p2:=plus_perm pl (keys_perm rp)
    exact wpAny_pure ⟨rfl,_,es2,_,t2,rfl,b1.trans (Heap.SameBut.update _ a _),⟨o2,rf,rg,el1.perm rp,by omega,p2.1⟩,by omega,p2⟩
   ·exact wpAny_pure ⟨rfl,_,es1,_,t1,rfl,b1,⟨o1,hf,hg,el1,by omega,pl.1⟩,by omega,pl⟩
  have fin:∀r s',(r=some true∧∃h' es' ep' t',s'= {s with heap:=h'}∧Heap.SameBut a s.heap h'∧At prog w h' a es' ep' t'∧es'.size≤es.size+1∧Plus (keys es) k (keys es'))→
   wpAny (model prog w) A (match r with|some added=>pure added|none=>setAddHashedIn a (.int k tk) ((intKind prog w).hash k) 99999) Q E s':=by
   rintro r s' ⟨rfl,h',es',ep',t',rfl,q1,q2,q3,q4⟩
   exact wpAny_pure (h true h' es' ep' t' q1 q2 q3 q4)
  have hv2:(if true=true then t1 else({t1 with plain:=false}:SetTable))=t1:=if_pos rfl
  split
  ·refine wpAny_bind ?_
   rw [hashByValue_scannable 8 hsc]
   refine wpAny_pure ?_
   exact wpAny_mono tail fin fun _ _ z=>z
  ·refine wpAny_bind (wpAny_pure ?_)
   exact wpAny_mono tail fin fun _ _ z=>z
end
end SW
end
noncomputable section
namespace SW
open PySem
section
variable{prog:Program}{w:World}{A:Around}{R:Result→Shared→Prop}{I:Addr}{fp wr:List Addr}{G:Array GenState→Array GenState→Prop}{n:Nat}{P:Nat→Value→Prop}{St:Nat→Shared→Prop}
theorem loop_ok(W:WalksS prog w A.in1 I fp wr G n P St)(S:Addr)(hSf:S∉fp)(val:Nat→Int)(hval:∀i v,P i v→∃t,v=.int (val i) t)(hb:n+1<scanBound):
 ∀(k i:Nat) (s:Shared) (es:Array (Int×Value)) (ep:Nat) (t:SetTable),n-i=k→i≤n→St i s→At prog w s.heap S es ep t→es.size≤i→(∀x,x∈keys es↔∃j,j<i∧val j=x)→
  (∀s' es' ep' t',Moved (S::wr) G s s'→At prog w s'.heap S es' ep' t'→es'.size≤n→(∀x,x∈keys es'↔∃j,j<n∧val j=x)→R (.ok (.ret .none)) s')→
  codeAny (model prog w) A (.builtin "set.update.loop" ⟨[.ref S,.ref I],[]⟩) R s:=by
 have hSw:S∉wr:=fun h=>hSf (W.sub _ h)
 have up:∀b∈wr,b∈S::wr:=fun b hb=>List.mem_cons_of_mem _ hb
 intro k
 induction k with
 |zero=>
  intro i s es ep t hk hi hst H z m hR
  have e:i=n:=by omega
  subst e
  refine codeAny_builtin PyProof.Rows.F.entry_set_update_loop ?_
  rw [Around.under_plainId PyProof.Rows.F.plain_set_update_loop _]
  refine wpAny_bind (m:=pyNext (.ref I)) (W.done s _ _ hst fun s' hm=> ?_)
  exact wpAny_pure (hR s' es ep t (hm.mono up) (H.keep fun o e=>hm.heap S o hSw e) z m)
 |succ k ih=>
  intro i s es ep t hk hi hst H z m hR
  have lt:i<n:=by omega
  refine codeAny_builtin PyProof.Rows.F.entry_set_update_loop ?_
  rw [Around.under_plainId PyProof.Rows.F.plain_set_update_loop _]
  refine wpAny_bind (m:=pyNext (.ref I)) (W.item i s _ _ lt hst fun v s' hP st' hm=> ?_)
  obtain⟨tk,rfl⟩:=hval i v hP
  have H':At prog w s'.heap S es ep t:=H.keep fun o e=>hm.heap S o hSw e
  refine wpAny_bind (m:=holding [Value.int (val i) tk] (setAdd S (.int (val i) tk))) (wpAny_holding ?_)
  unfold setAdd
  refine wpAny_holding (wpAny_bind ((intKind prog w).pyHash (k:=val i) (intKind_is _ _ _ _) ?_))
  refine add_ok (s:= {s' with toks:=s'.toks+1}) H' (by omega) fun b h' es' ep' t' sb H2 z2 pl=> ?_
  refine wpAny_pure ⟨plainId_quiet PyProof.Rows.F.plain_set_update_loop _,ih (i+1) _ es' ep' t' (by omega) lt (W.frame _ s' _ _ st' (Nat.le_succ _) fun b hb o e=> ?_) H2 (by omega) (fun x=> ?_) fun s'' es2 ep2 t2 m2 H3 z3 q3=> ?_⟩
  ·rw [sb.2 b (fun h:b=S=>hSf (by rw [←h];exact hb))];exact e
  ·rw [pl.2 x,m x]
   constructor
   ·rintro (⟨j,hj,e⟩|rfl)
    ·exact⟨j,by omega,e⟩
    ·exact⟨i,by omega,rfl⟩
   ·rintro ⟨j,hj,e⟩
    rcases Nat.lt_or_ge j i with q|q
    ·exact .inl ⟨j,q,e⟩
    ·exact .inr (by rw [←e,show j=i by omega])
  ·refine hR s'' es2 ep2 t2 (Moved.trans W.gtrans ((hm.mono up).then_heap (Nat.le_succ _) fun b o hb e=> ?_) m2) H3 z3 q3
   rw [sb.2 b (fun h:b=S=>hb (by rw [h];exact List.mem_cons_self))];exact e
end
section
variable{prog:Program}{w:World}{A:Around}{E:Value→Shared→Prop}{s:Shared}
noncomputable abbrev newObj0(w:World):Obj:= {cls:=.type "set",dict:=none,data:=.set #[] 0 (.fresh 0 0 (!byT w))}
theorem new_ok(a:Value){Q:Value→Shared→Prop}(h:Q (.ref s.heap.objs.size) {s with heap:=s.heap.push (newObj0 w)}):
 codeAny (model prog w) A (.call (.builtin "set.__new__") ⟨[.type "set",a],[]⟩) (wants Q E) s:=by
 refine codeAny_of_tree ?_
 refine wpAny_bind (m:=checkBuiltinCall "set.__new__" ⟨[.type "set",a],[]⟩) (wpAny_of_eq (F.newCall_set_1 a) (wpAny_pure ⟨plainId_quiet F.plain_set_new _,codeAny_builtin F.entry_set_new ?_⟩))
 rw [Around.under_plainId F.plain_set_new _]
 unfold Builtin.«set.__new__» Builtin.Frozenset.newClass
 have hsub:=sub_set_self
 obtain⟨hp,g,d,tk,os⟩:=s
 dsimp only
 wp_walk
 refine wpAny_askSetting (wpAny_pure ?_)
 dsimp only
 simp only [newObj]
 exact wpAny_bind (wpAny_alloc (wpAny_pure (wpAny_pure h)))
end
end SW
end
noncomputable section
namespace SW
open PySem
section
variable{prog:Program}{w:World}{A:Around}{E:Value→Shared→Prop}{s:Shared}
noncomputable def Done(prog:Program)(w:World)(s:Shared)(ns:List Int)(s₂:Shared):Prop:=
 ∃h' tk es ep t,s₂= {s with heap:=h',toks:=tk}∧At prog w h' s.heap.objs.size es ep t∧es.size≤ns.length∧(∀x,x∈keys es↔x∈ns)∧(∀b o,b<s.heap.objs.size→s.heap.get? b=some o→h'.get? b=some o)
theorem mem_getD{ns:List Int}(x:Int):(∃j,j<ns.length∧ns.getD j 0=x)↔x∈ns:=by
 constructor
 ·rintro ⟨j,hj,e⟩
  rw [←e,show ns.getD j 0=ns[j] by simp [hj]];exact List.getElem_mem hj
 ·intro h
  obtain⟨j,hj,e⟩:=List.getElem_of_mem h
  exact⟨j,hj,by rw [show ns.getD j 0=ns[j] by simp [hj]];exact e⟩
theorem init_ok{l:Addr}{items:Array Value}{ns:List Int}(hh:A.handled=none)(hl:s.heap.IsList l items)(hi:PyProof.Rows.IntsAre items.toList ns)(hb:items.size+1<scanBound):
 codeAny (model prog w) A (.call (.builtin "set.__init__") ⟨[.ref s.heap.objs.size,.ref l],[]⟩) (wants (fun r s₂=>r=.none∧Done prog w s ns s₂) E) {s with heap:=s.heap.push (newObj0 w)}:=by
 have hS:(s.heap.push (newObj0 w)).get? s.heap.objs.size=some (newObj0 w):=Heap.get?_push_size _ rfl
 have hT:Shared.TypeIs {s with heap:=s.heap.push (newObj0 w)} (.ref s.heap.objs.size) "set":=⟨_,hS,rfl⟩
 refine codeAny_call_builtin F.called_set.init.plain F.entry_set_init (check_set_init_1 hT ?_)
 obtain⟨ol,hol,hcl,nl,hdl⟩:=hl
 obtain⟨ocls,odict,odata,oslots⟩:=ol
 dsimp only at hcl hdl
 subst hcl;subst hdl
 have lS:l<s.heap.objs.size:=Heap.lt_size hol
 have hol':(s.heap.push (newObj0 w)).get? l=some {cls:=.type "list",dict:=odict,data:=.seq items nl,slots:=oslots}:=Heap.get?_push_of_some _ hol
 have q1:=F.sub_list_set
 have q2:=F.sub_list_frozenset
 have q3:(Value.type "list"==Value.type "dict")=false:=by decide
 have hl1:(s.heap.push (newObj0 w)).IsList l items:=⟨_,hol',rfl,nl,rfl⟩
 unfold Builtin.«set.__init__» noKeywords Builtin.Frozenset.updateFrom
 generalize hPI:pyIter=PI
 wp_walk
 subst hPI
 refine wpAny_pyIter_list hl1 (wpAny_bind (wpAny_runValue ?_))
 have len:items.size=ns.length:=by have:=hi.length;rw [Array.length_toList]at this;exact this
 refine loop_ok ((Walks.list (A:=A.in1.in1) (by simp [hh]) _ l ?_ items).toS) s.heap.objs.size ?_ (fun i=>ns.getD i 0) (fun i v hv=>PyProof.Rows.IntsAre.int_at hi i v (by rw [Array.getElem?_toList];exact hv)) hb (items.size-0) 0 _ #[] 0 (.fresh 0 0 (!byT w)) (by omega) (Nat.zero_le _)
  ?_ ⟨?_,rfl,gd_fresh _,fun e he=>by simp at he,by decide,by simp [keys]⟩ (Nat.le_refl _) (fun x=>by simp [keys]) ?_
 ·rw [Heap.size_push];exact Nat.ne_of_lt (Nat.lt_succ_of_lt lS)
 ·rw [Heap.size_push];simp only [List.mem_cons,List.mem_singleton,List.not_mem_nil,or_false,not_or]
  exact⟨Nat.ne_of_lt (Nat.lt_succ_self _),Nat.ne_of_gt lS⟩
 ·exact⟨⟨_,Heap.get?_push_size _ rfl,rfl,rfl⟩,(hl1.push _)⟩
 ·exact Heap.get?_push_of_some _ hS
 ·intro s' es' ep' t' hm H z m
  obtain⟨h',g',d',tk',os'⟩:=s'
  have eg:g'=s.gens:=hm.gens
  have ed:d'=s.drawn:=hm.drawn
  have eo:os'=s.os:=hm.os
  subst eg;subst ed;subst eo
  refine wpAny_pure (wpAny_pure ⟨rfl,h',tk',es',ep',t',rfl,H,by omega,fun x=> ?_,fun b o hb e=> ?_⟩)
  ·rw [m x,len];exact mem_getD x
  ·refine hm.heap b o ?_ (Heap.get?_push_of_some _ (Heap.get?_push_of_some _ e))
   simp only [List.mem_cons,List.mem_singleton,List.not_mem_nil,or_false,not_or,Heap.size_push]
   exact⟨Nat.ne_of_lt hb,Nat.ne_of_lt (Nat.lt_succ_of_lt hb)⟩
set_option maxHeartbeats 3200000 in
theorem set_ok{l:Addr}{items:Array Value}{ns:List Int}{Q:Value→Shared→Prop}(hh:A.handled=none)(hl:s.heap.IsList l items)(hi:PyProof.Rows.IntsAre items.toList ns)(hb:items.size+1<scanBound)
 (h:∀s₂,Done prog w s ns s₂→Q (.ref s.heap.objs.size) s₂):wpAny (model prog w) A (call (.type "set") [.ref l]) Q E s:=by
 obtain⟨c,tl,hmro⟩:=F.called_set.mro
 have hmade:=F.called_set.made
 have hsub:=F.called_set.sub
 refine wpAny_call (codeAny_of_tree ?_)
 show wpAny _ _ (callAny (.type "set") _) _ _ _
 refine wpAny_pure ⟨Code.quiet_builtin _ (by decide+kernel),codeAny_builtin F.entry_type_call ?_⟩
 rw [Around.under_plain (weight_type_call_type "set" [.ref l] []) rfl]
 have h1:=F.called_set.notType
 have h2:=F.called_set.canCreate
 have hct:=F.typeCall_set_1 (.ref l)
 repeat (any_goals (first|assumption|wp_step))
 refine codeAny_mono (new_ok (.ref l) (E:=E) (Q:=fun obj s₁=>obj=.ref s.heap.objs.size∧s₁= {s with heap:=s.heap.push (newObj0 w)}) ⟨rfl,rfl⟩) fun r s₁ hr=> ?_
 cases r with
 |error e=>exact hr
 |ok fl=>
  cases fl with
  |ret obj=>
   obtain⟨rfl,rfl⟩:=hr
   have hS:(s.heap.push (newObj0 w)).get? s.heap.objs.size=some (newObj0 w):=Heap.get?_push_size _ rfl
   have hT:Shared.TypeIs {s with heap:=s.heap.push (newObj0 w)} (.ref s.heap.objs.size) "set":=⟨_,hS,rfl⟩
   have hli:=F.called_set.init.lookup
   have hbi:=F.called_set.init.bind (.ref s.heap.objs.size)
   repeat (any_goals (first|assumption|wp_step))
   refine codeAny_mono (init_ok (E:=E) (ns:=ns) ?_ hl hi hb) fun r₂ s₂ hr₂=> ?_
   ·simp [hh]
   ·cases r₂ with
    |error e=>exact hr₂
    |ok fl₂=>
     cases fl₂ with
     |ret r=>
      obtain⟨rfl,D⟩:=hr₂
      repeat (any_goals (first|assumption|wp_step))
      exact h _ D
     |_=>exact hr₂.elim
  |_=>exact hr.elim
end
end SW
end
noncomputable section
namespace SW
open PySem
noncomputable abbrev itO(first:Value)(i:Nat)(S:Addr)(n ep:Nat):Obj:= {cls:=.type "set_iterator",data:=.fields #[first,.int i 0,.ref S,.int n 0,.int ep 0]}
noncomputable def dr(es:Array (Int×Value))(t:SetTable):Bool:= !t.plain&&decide (es.size>1)
inductive Md(w:World)(S:Addr)(es:Array (Int×Value))(ep:Nat)(t:SetTable)(h:Heap):Value→Nat→Option (Value×Value)→Prop
 |text (i:Nat) (b:byT w=true):Md w S es ep t h (.int 0 0) i (((pickOrder (w.params.setOrder S ep) es)[i]?).map fun e=>(e.2,.int 0 0))
 |place (i slot:Nat) (b:byT w=false) (d:dr es t=false) (e:SetTable.below t.place slot=i) (l:t.led=true∨es= #[]):Md w S es ep t h (.int slot 0) i ((es[i]?).map fun e=>(e.2,.int ((t.place.getD i 0+1:Nat):Int) 0))
 |draw (i:Nat) (T:Addr) (L:List Nat) (ho:h.get? T=some {cls:=.type "tuple",data:=.seq (L.map fun(k:Nat)=>rawInt k).toArray}) (lt:∀k∈L,k<es.size):
   Md w S es ep t h (.ref T) i ((L[i]?).bind fun k=>(es[k]?).map fun e=>(e.2,.ref T))
section
variable{prog:Program}{w:World}{A:Around}{E:Value→Shared→Prop}{s:Shared}{I S:Addr}{es:Array (Int×Value)}{ep:Nat}{t:SetTable}
end
end SW
end
noncomputable section
namespace SW
open PySem
section
variable{prog:Program}{w:World}{A:Around}{E:Value→Shared→Prop}{s:Shared}{I S:Addr}{es:Array (Int×Value)}{ep:Nat}{t:SetTable}
end
end SW
end
noncomputable section
namespace SW
open PySem
noncomputable abbrev tupO(L:List Nat):Obj:= {cls:=.type "tuple",data:=.seq (L.map fun(k:Nat)=>rawInt k).toArray}
inductive Go(w:World)(S T:Addr)(es:Array (Int×Value))(ep:Nat)(t:SetTable)(h:Heap):List (Int×Value)→Value→Nat→Prop
 |text (i:Nat) (b:byT w=true):Go w S T es ep t h (pickOrder (w.params.setOrder S ep) es).toList (.int 0 0) i
 |place (i slot:Nat) (b:byT w=false) (d:dr es t=false) (l:t.led=true∨es= #[]) (r:Rise t.place) (e:SetTable.below t.place slot=i):Go w S T es ep t h es.toList (.int slot 0) i
 |draw (i:Nat) (L:List Nat) (ho:h.get? T=some (tupO L)) (lt:∀k∈L,k<es.size):Go w S T es ep t h (L.filterMap fun k=>es[k]?) (.ref T) i
section
variable{prog:Program}{w:World}{A:Around}{E:Value→Shared→Prop}{s:Shared}{I S T:Addr}{es:Array (Int×Value)}{ep:Nat}{t:SetTable}{Ls:List (Int×Value)}
noncomputable def Sw(prog:Program)(w:World)(I S T:Addr)(es:Array (Int×Value))(ep:Nat)(t:SetTable)(Ls:List (Int×Value))(i:Nat)(s:Shared):Prop:=
 ∃f,s.heap.get? I=some (itO f i S es.size ep)∧At prog w s.heap S es ep t∧Go w S T es ep t s.heap Ls f i
end
end SW
end
noncomputable section
namespace SW
open PySem
section
variable{prog:Program}{w:World}{A:Around}{E:Value→Shared→Prop}{s:Shared}{S:Addr}{es:Array (Int×Value)}{ep:Nat}{t:SetTable}
noncomputable def Lk(s s':Shared):Prop:=s'.gens=s.gens∧s'.os=s.os∧s.toks≤s'.toks
end
end SW
end
noncomputable section
namespace SW
open PySem
section
variable{prog:Program}{w:World}{A:Around}{E:Value→Shared→Prop}{s:Shared}{S:Addr}{es:Array (Int×Value)}{ep:Nat}{t:SetTable}
end
end SW
end
noncomputable section
namespace L2
open PySem PyProof.Rows
section
variable{X:Cx}
noncomputable def setφ(P:Program)(w:World)(ns:List Int)(a:Addr)(h:Heap):Prop:=∃es ep t,SW.At P w h a es ep t∧es.size≤ns.length∧∀x,x∈SW.keys es↔x∈ns
theorem call_setX(hc:X.calm=true):CallR X (.type "set") (fun xs H Q=>∃(p:Addr) (ns:List Int),xs=[.ref p]∧SqL X.K H p (ns.map V.int)∧ns.length<64∧∀l,H l=none→Q (.ref l) (upd H l (.ext (setφ X.prog X.w ns l)))):=by
 intro pins s σ H xs us Q I r h
 obtain⟨p,ns,rfl,hq,hlt,q⟩:=h
 obtain⟨u,rfl,ru⟩:=r.one
 cases ru
 obtain⟨its,rv,pl,hz⟩:=I.list hq
 have hl:its.length=ns.length:=by rw [←rv.length,List.length_map]
 refine SW.set_ok (items:=its.toArray) (ns:=ns) (I.ok.hd hc) pl.isList (by simpa using intsAre_of rv) (by unfold scanBound;simp;omega) fun s₂ D=> ?_
 obtain⟨h',tk,es,ep,t,rfl,H1,z,m,k⟩:=D
 refine⟨.ref s.heap.objs.size,_,I.laid (o:=.ext (setφ X.prog X.w ns s.heap.objs.size)) (fun b o e=>k b o (Heap.lt_size e) e) (Nat.le_refl _) ⟨⟨es,ep,t,H1,z,m⟩,⟨_,H1.obj⟩,fun h1 h2 ⟨es,ep,t,a1,a2,a3⟩ kk=>⟨es,ep,t,a1.keep kk,a2,a3⟩⟩,rfl,q _ I.fresh⟩
end
end L2
end
noncomputable section
namespace L2
open PySem PySem.Spec PyProof.Rows
section
variable{X:Cx}
end
end L2
end
noncomputable section
namespace L2
open PySem PySem.Spec PyProof.Rows
section
variable{X:Cx}{tg:Expr}
theorem call_max_ints(hc:X.calm=true):CallR X (.builtin "max") (fun xs H Q=>∃(p:Addr) (ns:List Int),xs=[.ref p]∧SqL X.K H p (ns.map V.int)∧0<ns.length∧∀M,M∈ns→(∀a∈ns,a≤M)→Q (.int M) H):=by
 intro pins s σ H xs us Q I r h
 obtain⟨p,ns,rfl,hq,hlt,q⟩:=h
 obtain⟨u,rfl,ru⟩:=r.one
 cases ru
 obtain⟨its,rv,pl,hz⟩:=I.list hq
 have hi:=intsAre_of rv
 obtain⟨xs,e⟩:=hi.allInts.items
 have hns:ns=xs.toList.map (·.1):=by
  rw [←hi.numsOf,←nums_intItems,←e]
 have hsz:0<xs.size:=by
  have h3:=hlt;rw [hns,List.length_map,Array.length_toList]at h3;exact h3
 have hl:=pl.isList
 rw [e]at hl
 refine max_intList (I.ok.hd hc) hl hsz fun v h' tk hv hk=> ?_
 obtain⟨t,rfl⟩:=intItems_at hv
 obtain⟨h1,h2⟩:=argBest_gt (numAt xs) (xs.size-1)
 refine⟨.int _,H,I.kept hk,⟨t,rfl⟩,q _ ?_ fun a ha=> ?_⟩
 ·rw [hns,numAt_eq];exact getD_mem (by rw [List.length_map,Array.length_toList];omega)
 ·rw [hns]at ha
  obtain⟨j,hj,rfl⟩:=mem_getD ha
  rw [List.length_map,Array.length_toList]at hj
  rw [←numAt_eq];exact h2 j (by omega)
noncomputable def rIndex(K:PySem.W.Frag):V→List V→Hp→VK→Prop:=fun x vs H Q=>∃(l:Addr) (ns:List Int) (k:Int),x=.ref l∧vs=[.int k]∧SqL K H l (ns.map V.int)∧PyData.layable0 (.list (ns.map .int))=true∧k∈ns∧Q (.int (ns.idxOf k:Nat)) H
theorem mt_index:MtR X "list.index" (rIndex X.K):=by
 intro pins s σ H x vs v us Q I rx rv h
 obtain⟨l,ns,k,rfl,rfl,hq,hlay,hk,q⟩:=h
 cases rx
 obtain⟨u,rfl,ru⟩:=rv.one
 obtain⟨t,rfl⟩:=ru
 obtain⟨its,rv,pl,hz⟩:=I.list hq
 exact index_list_ints pl.isList (intsAre_of rv) hlay hk ⟨.int _,H,I.tok _,⟨_,rfl⟩,q⟩
theorem call_lenX:CallR X (.builtin "len") (fun xs H Q=>∃(p:Addr) (ns:List Int),xs=[.ref p]∧H p=some (.ext (setφ X.prog X.w ns p))∧ns.length<64∧∀ms:List Int,ms.Nodup→(∀x,x∈ms↔x∈ns)→Q (.int ms.length) H):=by
 intro pins s σ H xs us Q I r h
 obtain⟨p,ns,rfl,hp,hlt,q⟩:=h
 obtain⟨u,rfl,ru⟩:=r.one
 cases ru
 obtain⟨⟨es,ep,t,H1,z,m⟩,_,_⟩:=(show ObjOk X.prog X.w H s.heap p (.ext (setφ X.prog X.w ns p))from I.hok p _ hp)
 have e:(SW.keys es).length=es.size:=by unfold SW.keys;rw [List.length_map,Array.length_toList]
 refine call_len_set H1.obj ⟨rfl,rfl,rfl⟩ rfl H1.fit (by omega) ⟨.int (SW.keys es).length,H,I.tok _,⟨_,by rw [e]⟩,q _ H1.nd m⟩
noncomputable def dnφ(i:Int)(a:Addr)(h:Heap):Prop:=∃t u v,IsRange h a i (-1) (-1) t u v
theorem call_range3R:CallR X (.type "range") (fun xs H Q=>∃i,xs=[.int i,.int (-1),.int (-1)]∧-(2 ^ 30)≤i∧i<2 ^ 30∧∀p,H p=none→Q (.ref p) (upd H p (.ext (dnφ i p)))):=by
 intro pins s σ H xs us Q I r h
 obtain⟨i,rfl,h1,h2,q⟩:=h
 cases r with
 |cons r1 rr=>cases rr with
  |cons r2 rr=>cases rr with
   |cons r3 rr=>
    cases rr
    obtain⟨t,rfl⟩:=r1
    obtain⟨t',rfl⟩:=r2
    obtain⟨t'',rfl⟩:=r3
    refine call_range_3 (by decide) ⟨.ref s.heap.objs.size,_,I.laid (o:=.ext (dnφ i s.heap.objs.size)) (fun b o e=>Heap.get?_push_of_some _ e) (Nat.le_refl _) ⟨⟨_,_,_,Heap.get?_push_size _ rfl⟩,⟨_,Heap.get?_push_size _ rfl⟩,fun h1 h2 ⟨t,u,v,a1⟩ kk=>⟨t,u,v,kk _ a1⟩⟩,rfl,q _ I.fresh⟩
theorem size_dn{i:Int}:Builtin.Range.rangeSize i (-1) (-1)=(((i+1).toNat:Nat):Int):=by
 unfold Builtin.Range.rangeSize
 rw [if_neg (by decide),show(- -1:Int)=1 by decide,Int.ediv_one]
 split<;>omega
theorem small_dn{i:Int}(h1:-(2 ^ 30)≤i)(h2:i<2 ^ 30):Builtin.Range.small i (-1) (-1)=true:=by
 unfold Builtin.Range.small
 rw [size_dn]
 simp only [Builtin.Range.rangeFitsLong,Bool.and_eq_true,Bool.or_eq_true,decide_eq_true_eq,beq_iff_eq,show¬((-1:Int)>0) by decide,if_false]
 omega
theorem vals_dn{i:Int}:∀(n:Nat) (l:List Value),l.length=n→(∀(j:Nat) (v:Value),l[j]?=some v→∃t,v=Value.int (i+(j:Int)*-1) t)→Vals ((List.range n).map fun(j:Nat)=>V.int (i-(j:Int))) l:=by
 intro n
 induction n with
 |zero=>intro l hl _;rw [List.length_eq_zero_iff.mp hl];exact .nil
 |succ n ih=>
  intro l hl h
  obtain⟨l',v,rfl⟩:∃l' v,l=l'++[v]:=by
   rcases List.eq_nil_or_concat l with e|⟨l',v,e⟩
   ·rw [e]at hl;cases hl
   ·exact⟨l',v,by rw [e,List.concat_eq_append]⟩
  have hl':l'.length=n:=by simpa using hl
  rw [List.range_succ,List.map_append]
  refine Vals.append (ih l' hl' fun j w hj=>h j w ?_) (.cons ?_ .nil)
  ·rw [List.getElem?_append_left]
   ·exact hj
   ·exact(List.getElem?_eq_some_iff.mp hj).1
  ·obtain⟨t,e⟩:=h n v (by rw [←hl'];simp)
   exact⟨t,by rw [e];congr 1;omega⟩
theorem call_list_dn(hc:X.calm=true):CallR X (.type "list") (fun xs H Q=>∃(p:Addr) (i:Int),xs=[.ref p]∧H p=some (.ext (dnφ i p))∧-(2 ^ 30)≤i∧i≤1000000∧
 ∀l,H l=none→Q (.ref l) (upd H l (.lst ((List.range (i+1).toNat).map fun(j:Nat)=>V.int (i-(j:Int)))))):=by
 intro pins s σ H xs us Q I r h
 obtain⟨p,i,rfl,hp,b1,b2,q⟩:=h
 obtain⟨u,rfl,ru⟩:=r.one
 cases ru
 obtain⟨⟨t,t',t'',e⟩,_,_⟩:=(show ObjOk X.prog X.w H s.heap p (.ext (dnφ i p))from I.hok p _ hp)
 refine call_list_range (I.ok.hd hc) e (small_dn b1 (by omega)) size_dn (by omega) fun h' tk acc' c' hk hS hacc=> ?_
 refine⟨.ref s.heap.objs.size,_,I.laid (o:=.lst ((List.range (i+1).toNat).map fun(j:Nat)=>V.int (i-(j:Int)))) hk (Nat.le_refl _) ⟨?_,acc'.toList,c',?_,by simpa using hS⟩,rfl,q _ I.fresh⟩
 ·rw [List.length_map,List.length_range,sizeLine_eq];omega
 ·exact vals_dn _ _ (by simpa using hacc.1) fun j v hj=>hacc.2 j v (by simpa using hj)
noncomputable def Itd(hi:Int)(n:Nat):It:=⟨fun i _=>i<n,fun i H x H'=>H'=H∧x=.int (hi-i),fun i _=>n≤i⟩
theorem turn_down{P:Program}{w:World}{K:PySem.W.Frag}(it:Addr)(hi:Int)(n:Nat):Turn P w K tg (Itd hi n) [it] it (fun i h=>IsRangeIter h it (hi+(i:Nat)*-1) ((n:Int)-(i:Nat)) (-1)) where
 mem:=by simp
 obj:=fun i h st b hb=>by
  rw [show b=it by simpa using hb]
  exact⟨_,st,fun v z=>by
   have z':Data.fields _=Data.cell v:=z
   cases z'⟩
 keep:=fun i h h' st k=>k it (by simp) _ st
 item:=by
  intro X hP hw hK hc i pins s σ H E I hf st hg
  subst hP hw hK
  obtain⟨f0,f1,f2,f3,f4,f5⟩:=hf it (by simp)
  refine(Walks.range (prog:=X.prog) (w:=X.w) (I.ok.hd hc) it hi (-1) n).item i s _ _ hg st fun v h' tk hv st' kk=> ?_
  obtain⟨t,rfl⟩:=hv
  refine⟨_,rfl,go_of (s:= {s with heap:=h',toks:=tk}) (n:="range_iterator") st' rfl rfl (by decide) ⟨.int (hi-i),H,I.turned (fun b o hb e=>kk b o (by simpa using hb) e) f0 f1 f3 f4 f5,⟨t,?_⟩,⟨rfl,rfl⟩,st',fun b hb=>(hf b hb).1⟩⟩
  congr 1;omega
 done:=by
  intro X hP hw hK hc i pins s σ H E I hf st hg
  subst hP hw hK
  obtain⟨f0,f1,f2,f3,f4,f5⟩:=hf it (by simp)
  exact wpAny_pyNext_range_end (I.ok.hd hc) st (by have:n≤i:=hg;omega) fun h' eb=>⟨rfl,I.turned (t':=s.toks) (fun b o hb e=>eb b o hb e) f0 f1 f3 f4 f5⟩
 self:=fun _ _ _ _ _ st h=>wpAny_pyIter_rangeiter st h
noncomputable def iRng3(ta:TA):TI:=fun σ H R=>ta σ H fun vs H1=>∃i:Int,vs=[.int i,.int (-1),.int (-1)]∧-(2 ^ 30)≤i∧i<2 ^ 30∧R (Itd i (i+1).toNat) H1
theorem pi_range3{a b c:Expr}{ta:TA}{p pos:Pos}(hg:Gl X "range")(hm:X.mg "range"=none)(ha:PA X [a,b,c] ta)(hs:starEach [a,b,c] X.env=[(false,eval a X.env),(false,eval b X.env),(false,eval c X.env)]:=by rfl)(hs2:starEach [b,c] X.env=[(false,eval b X.env),(false,eval c X.env)]:=by rfl):
 PI X tg (.Call (.Name "range" p) [a,b,c] [] pos) (iRng3 ta):=by
 intro pins s σ H R I h
 refine Call_ (ld_blt I hg hm boot_range (PyProof.Rows.callWith_type1 (thn (ha pos pins s σ H _ I h) fun us s1 ⟨vs,H1,I1,r1,q1⟩=> ?_) (by rw [hs,hs2]) (by rw [hs2];rfl)))
 obtain⟨i,e,b1,b2,q⟩:=q1
 subst e
 cases r1 with
 |cons r rr=>cases rr with
  |cons r' rr=>cases rr with
   |cons r'' rr=>
    cases rr
    obtain⟨t,rfl⟩:=r
    obtain⟨t',rfl⟩:=r'
    obtain⟨t'',rfl⟩:=r''
    refine call_range_3 (by decide) ?_
    refine wpAny_pyIter_range (IsRange.new ..) (small_dn b1 b2) ?_
    have I2:Inv X pins σ H1 {s1 with heap:=s1.heap.push {cls:=.type "range",data:=.fields #[.int i t,.int (-1) t',.int (-1) t'']}}:=I1.kept (t':=s1.toks) fun b o e=>Heap.get?_push_of_some _ e
    refine⟨_,[_],_,_,H1,rfl,I2.kept (t':=s1.toks) fun b o e=>Heap.get?_push_of_some _ e,turn_down _ i (i+1).toNat,?_,fun b hb=> ?_,q⟩
    ·show IsRangeIter _ _ (i+((0:Nat):Int)*-1) ((((i+1).toNat:Nat):Int)-((0:Nat):Int)) (-1)
     rw [show i+((0:Nat):Int)*-1=i by omega,show(((i+1).toNat:Nat):Int)-((0:Nat):Int)=Builtin.Range.rangeSize i (-1) (-1) by rw [size_dn];omega]
     exact Heap.get?_push_size _ rfl
    ·have e:b=(s1.heap.push {cls:=.type "range",data:=.fields #[.int i t,.int (-1) t',.int (-1) t'']}).objs.size:=by simpa using hb
     subst e
     exact I2.fpOk (Nat.le_refl _) (I2.hok.fresh (Nat.le_refl _))
noncomputable def Itv(K:PySem.W.Frag)(a:Addr)(n:Nat):It:=
 ⟨fun i H=>i<n∧∃xs,SqL K H a xs∧xs.length=n,fun i H x H'=>H'=H∧∀xs,SqL K H a xs→xs[n-1-i]?=some x,fun i _=>i=n⟩
theorem turn_rev{P:Program}{w:World}{K:PySem.W.Frag}(a it:Addr)(n:Nat):Turn P w K tg (Itv K a n) [it] it (fun i h=>i≤n∧h.IsRevIter it a ((n:Int)-1-(i:Nat))) where
 mem:=by simp
 obj:=fun i h st b hb=>by
  rw [show b=it by simpa using hb]
  obtain⟨_,o,e,c,d⟩:=st
  exact⟨o,e,fun v z=>by rw [d]at z;cases z⟩
 keep:=fun i h h' st k=>⟨st.1,st.2.at fun o e=>k it (by simp) o e⟩
 item:=by
  intro X hP hw hK hc i pins s σ H E I hf st hg
  subst hP hw hK
  obtain⟨hi,xs,hq,hn⟩:=hg
  obtain⟨its,rv,p,hz⟩:=I.list hq
  have hx:n-1-i<xs.length:=by omega
  obtain⟨u,hu,ru⟩:=rv.get (List.getElem?_eq_getElem hx)
  obtain⟨f0,f1,f2,f3,f4,f5⟩:=hf it (by simp)
  have st1:=st.2
  rw [show(n:Int)-1-(i:Nat)=((n-1-i:Nat):Int) by omega]at st1
  refine wpAny_pyNext_rev_item st1 p.isList (x:=u) (by simpa using hu) fun h' st' sb=> ?_
  have I1:Inv X pins σ H {s with heap:=h'}:=I.turned (t':=s.toks) (fun b o hb e=>(sb.2 b hb).trans e) f0 f1 f3 f4 f5
  obtain⟨o,e,c,d⟩:=id st'
  refine⟨u,rfl,go_of (s:= {s with heap:=h'}) e c d (by decide) ⟨_,H,I1,ru,⟨rfl,fun ys hy=>by rw [I.list_inj hy hq];exact List.getElem?_eq_getElem hx⟩,⟨hi,?_⟩,fun b hb=>(hf b hb).1⟩⟩
  rw [show(n:Int)-1-((i+1:Nat):Int)=((n-1-i:Nat):Int)-1 by omega]
  exact st'
 done:=by
  intro X hP hw hK hc i pins s σ H E I hf st hg
  subst hP hw hK
  obtain⟨f0,f1,f2,f3,f4,f5⟩:=hf it (by simp)
  have st1:=st.2
  rw [show(n:Int)-1-(i:Nat)=-1 by have:i=n:=hg;omega]at st1
  exact wpAny_pyNext_rev_end (I.ok.hd hc) st1 fun h' eb=>⟨rfl,I.turned (t':=s.toks) (fun b o hb e=>eb b o hb e) f0 f1 f3 f4 f5⟩
 self:=fun _ _ _ _ _ st h=>wpAny_pyIter_revIter st.2 h
noncomputable def iRev(K:PySem.W.Frag)(ta:TA):TI:=fun σ H R=>ta σ H fun vs H1=>∃a xs,vs=[.ref a]∧SqL K H1 a xs∧R (Itv K a xs.length) H1
theorem boot_reversed:bootBuiltins (Str.ofString "reversed")=some (.type "reversed"):=by kernel_rfl
theorem pi_rev{a:Expr}{ta:TA}{p pos:Pos}(hg:Gl X "reversed")(hm:X.mg "reversed"=none)(ha:PA X [a] ta)(hs:starEach [a] X.env=[(false,eval a X.env)]:=by rfl):PI X tg (.Call (.Name "reversed" p) [a] [] pos) (iRev X.K ta):=by
 intro pins s σ H R I h
 refine Call_ (ld_blt I hg hm boot_reversed (PyProof.Rows.callWith_type1 (thn (ha pos pins s σ H _ I h) fun us s1 ⟨vs,H1,I1,r1,q1⟩=> ?_) hs rfl))
 obtain⟨l,xs,e,hq,q⟩:=q1
 subst e
 obtain⟨u,rfl,ru⟩:=r1.one
 cases ru
 obtain⟨its,rv,pl,hz⟩:=I1.list hq
 refine call_reversed_list pl.isList ?_
 have I2:Inv X pins σ H1 {s1 with heap:=s1.heap.push (revObj l ((its.toArray.size:Int)-1))}:=I1.kept (t':=s1.toks) fun b o e=>Heap.get?_push_of_some _ e
 have st:({s1 with heap:=s1.heap.push (revObj l ((its.toArray.size:Int)-1))}:Shared).heap.IsRevIter s1.heap.objs.size l ((xs.length:Int)-1-(0:Nat)):=⟨_,Heap.get?_push_size _ rfl,rfl,by rw [rv.length];simp [revObj]⟩
 refine wpAny_pyIter_revIter st ⟨s1.heap.objs.size,[s1.heap.objs.size],_,_,H1,rfl,I2,turn_rev l _ xs.length,⟨Nat.zero_le _,st⟩,fun b hb=> ?_,q⟩
 rw [show b=s1.heap.objs.size by simpa using hb]
 exact I1.fpOk (Nat.le_refl _) (I1.hok.fresh (Nat.le_refl _))
end
end L2
end
noncomputable section
namespace L2
open PySem PySem.Spec PyProof.Rows
noncomputable abbrev lsObj(vs:Array Value)(c:Nat):Obj:= {cls:=.type "list",dict:=none,data:=.seq vs c,slots:= #[]}
noncomputable abbrev mxArgs(I S:Addr)(d:Value):Args:=⟨[.ref I,.none,.ref S],[("default",d)]⟩
section
variable{prog:Program}{w:World}{A:Around}{R:Result→Shared→Prop}{I S:Addr}{fp wr:List Addr}{n:Nat}{P:Nat→Value→Prop}{St:Nat→Heap→Prop}{bt:Nat→Nat→Bool}{d:Value}
theorem mx_name:(toString "max"++toString ".loop":String)="max.loop":=by decide
theorem maxd_none(W:Walks prog w A.in1 I fp wr 0 P St)(hS:S∉fp){s:Shared}{c:Nat}(st:St 0 s.heap)(o:s.heap.get? S=some (lsObj #[] c))
 (q:∀h' tk,(∀b o,b∉wr→s.heap.get? b=some o→h'.get? b=some o)→R (.ok (.ret d)) {s with heap:=h',toks:=tk}):codeAny (model prog w) A (.builtin "max.loop" (mxArgs I S d)) R s:=by
 refine codeAny_builtin F.entry_max_loop ?_
 rw [Around.under_plainId F.plain_max_loop _]
 show wpAny _ _ (seqItems? (.ref S)>>=_) _ _ _
 refine wpAny_bind (wpAny_seqItems o rfl ?_)
 show wpAny _ _ (tryCatch (pyNext (.ref I)) _>>=_) _ _ _
 refine wpAny_bind (wpAny_tryCatch (W.done s _ _ st fun h' tk k=> ?_))
 exact wpAny_bind (wpAny_rule (wpAny_pure (q h' tk k)))
theorem maxd_more(W:Walks prog w A.in1 I fp wr n P St)(hcmp:CmpOf prog w A.in1 .Gt P bt)(hS:S∉fp):∀(m j:Nat) (s:Shared) (vb:Value) (c:Nat),j+1+m=n→St (j+1) s.heap→P (argBest bt j) vb→s.heap.get? S=some (lsObj #[vb,vb] c)→
 (∀v h' tk,P (argBest bt (n-1)) v→(∀b o,b∉wr→b≠S→s.heap.get? b=some o→h'.get? b=some o)→R (.ok (.ret v)) {s with heap:=h',toks:=tk})→codeAny (model prog w) A (.builtin "max.loop" (mxArgs I S d)) R s
 |0,j,s,vb,c,e,st,pb,o,q=>by
  obtain rfl:j+1=n:=e
  refine codeAny_builtin F.entry_max_loop ?_
  rw [Around.under_plainId F.plain_max_loop _]
  show wpAny _ _ (seqItems? (.ref S)>>=_) _ _ _
  refine wpAny_bind (wpAny_seqItems o rfl ?_)
  show wpAny _ _ (tryCatch (pyNext (.ref I)) _>>=_) _ _ _
  refine wpAny_bind (wpAny_tryCatch (W.done s _ _ st fun h' tk k=> ?_))
  show wpAny _ _ (updateSeq S (fun _=> #[])>>=_) _ _ _
  refine wpAny_bind (wpAny_updateSeq (k S _ (fun z=>hS (W.sub _ z)) o) rfl (wpAny_bind (wpAny_letGo (wpAny_pure ?_))))
  exact q vb _ tk pb fun b o bw bS e=>(Heap.get?_update_other _ _ (Ne.symm bS)).trans (k b o bw e)
 |m+1,j,s,vb,c,e,st,pb,o,q=>by
  refine codeAny_builtin F.entry_max_loop ?_
  rw [Around.under_plainId F.plain_max_loop _]
  show wpAny _ _ (seqItems? (.ref S)>>=_) _ _ _
  refine wpAny_bind (wpAny_seqItems o rfl ?_)
  show wpAny _ _ (tryCatch (pyNext (.ref I)) _>>=_) _ _ _
  refine wpAny_bind (wpAny_tryCatch (W.item (j+1) s _ _ (by omega) st fun v h' tk pv st' k=> ?_))
  have o':=k S _ (fun z=>hS (W.sub _ z)) o
  show wpAny _ _ (tryCatch (holding [v,v] (richCompare .Gt v vb>>=_)) _>>=_) _ _ _
  refine wpAny_bind (wpAny_tryCatch (wpAny_holding (wpAny_bind (hcmp (j+1) (argBest bt j) v vb _ _ _ pv pb ?_))))
  refine wpAny_bind (wpAny_holding (wpAny_truthy_bool ?_))
  refine wpAny_bind (wpAny_letGo (wpAny_pure ?_))
  cases hb:bt (j+1) (argBest bt j)with
  |true=>
   simp only [if_true]
   refine wpAny_bind (wpAny_updateSeq o' rfl (wpAny_bind (wpAny_letGo ?_)))
   rw [mx_name]
   refine wpAny_pure ⟨plainId_quiet F.plain_max_loop _,maxd_more W hcmp hS m (j+1) _ v _ (by omega) (W.frame _ _ _ st' fun b bf x ex=> ?_) (by rw [argBest,if_pos hb];exact pv) (Heap.get?_update_self _ o' rfl) fun v' h2 t2 p2 k2=> ?_⟩
   ·exact(Heap.get?_update_other _ _ (fun z:S=b=>hS (z▸bf))).trans ex
   ·exact q v' h2 t2 p2 fun b x bw bS ex=>k2 b x bw bS ((Heap.get?_update_other _ _ (Ne.symm bS)).trans (k b x bw ex))
  |false=>
   simp only [Bool.false_eq_true,if_false]
   refine wpAny_bind (wpAny_letGo ?_)
   rw [mx_name]
   exact wpAny_pure ⟨plainId_quiet F.plain_max_loop _,maxd_more W hcmp hS m (j+1) _ vb c (by omega) st' (by rw [argBest,if_neg (by rw [hb];exact Bool.false_ne_true)];exact pb) o' fun v' h2 t2 p2 k2=>q v' h2 t2 p2 fun b x bw bS ex=>k2 b x bw bS (k b x bw ex)⟩
theorem maxd_first(W:Walks prog w A.in1 I fp wr (n+1) P St)(hcmp:CmpOf prog w A.in1 .Gt P bt)(hS:S∉fp){s:Shared}{c:Nat}(st:St 0 s.heap)(o:s.heap.get? S=some (lsObj #[] c))
 (q:∀v h' tk,P (argBest bt n) v→(∀b o,b∉wr→b≠S→s.heap.get? b=some o→h'.get? b=some o)→R (.ok (.ret v)) {s with heap:=h',toks:=tk}):codeAny (model prog w) A (.builtin "max.loop" (mxArgs I S d)) R s:=by
 refine codeAny_builtin F.entry_max_loop ?_
 rw [Around.under_plainId F.plain_max_loop _]
 show wpAny _ _ (seqItems? (.ref S)>>=_) _ _ _
 refine wpAny_bind (wpAny_seqItems o rfl ?_)
 show wpAny _ _ (tryCatch (pyNext (.ref I)) _>>=_) _ _ _
 refine wpAny_bind (wpAny_tryCatch (W.item 0 s _ _ (by omega) st fun v h' tk pv st' k=> ?_))
 have o':=k S _ (fun z=>hS (W.sub _ z)) o
 show wpAny _ _ (updateSeq S (fun _=> #[v,v])>>=_) _ _ _
 refine wpAny_bind (wpAny_updateSeq o' rfl ?_)
 rw [mx_name]
 refine wpAny_pure ⟨plainId_quiet F.plain_max_loop _,maxd_more W hcmp hS n 0 _ v _ (by omega) (W.frame _ _ _ st' fun b bf x ex=> ?_) pv (Heap.get?_update_self _ o' rfl) fun v' h2 t2 p2 k2=> ?_⟩
 ·exact(Heap.get?_update_other _ _ (fun z:S=b=>hS (z▸bf))).trans ex
 ·exact q v' h2 t2 p2 fun b x bw bS ex=>k2 b x bw bS ((Heap.get?_update_other _ _ (Ne.symm bS)).trans (k b x bw ex))
end
theorem args_maxd(a d:Value):argsOk "max" ⟨[a],[("default",d)]⟩:=by unfold argsOk;kernel_rfl
section
variable{prog:Program}{w:World}{A:Around}{E:Value→Shared→Prop}{s:Shared}
theorem call_maxd{l:Addr}{xs:Array (Int×Tok)}{d:Value}{Q:Value→Shared→Prop}(hh:A.handled=none)(hl:s.heap.IsList l (intItems xs))
 (h0:xs.size=0→∀h' tk,(∀b o,s.heap.get? b=some o→h'.get? b=some o)→Q d {s with heap:=h',toks:=tk})
 (h:0<xs.size→∀v h' tk,(intItems xs)[argBest (fun i j=>decide (numAt xs i>numAt xs j)) (xs.size-1)]?=some v→(∀b o,s.heap.get? b=some o→h'.get? b=some o)→Q v {s with heap:=h',toks:=tk}):
 wpAny (model prog w) A (call (.builtin "max") [.ref l] [("default",d)]) Q E s:=by
 have B:wpAny (model prog w) A.in1 (Builtin.«max» ⟨[.ref l],[("default",d)]⟩) (fun fin s'=>match fin with
  | .done f=>(match (Except.ok f:Result)with| .ok (.ret v)=>Q v s'| .ok _=>False| .error e=>E e s')
  | .again c'=>c'.quiet=true∧codeAny (model prog w) A c' (fun r s'=>match r with| .ok (.ret v)=>Q v s'| .ok _=>False| .error e=>E e s') s') E s:=by
  show wpAny _ _ (Builtin.Builtins.bindParams "max" ["key","default"] 0 ⟨[],[("default",d)]⟩>>=_) _ _ _
  refine wpAny_bind (wpAny_of_eq (show Builtin.Builtins.bindParams "max" ["key","default"] 0 ⟨[],[("default",d)]⟩=pure [none,some d]from rfl) ?_)
  refine wpAny_bind (wpAny_pure (wpAny_bind (iter_intList hl fun s₂ e st hfp hlI=> ?_)))
  subst e
  refine wpAny_bind (wpAny_newObj_type ?_)
  have W:=Walks.list (prog:=prog) (w:=w) (A:=A.in1) hh _ l hlI (intItems xs)
  have hz:(intItems xs).size=xs.size:=by simp [intItems]
  rw [hz]at W
  rw [mx_name]
  have hSf:=fun hm=>Nat.lt_irrefl _ (hfp _ hm)
  refine wpAny_pure ⟨plainId_quiet F.plain_max_loop _,?_⟩
  cases hn:xs.size with
  |zero=>
   rw [hn]at W
   exact maxd_none W hSf (W.frame _ _ _ st fun b _ o e=>Heap.get?_push_of_some _ e) (Heap.get?_push_size _ rfl) fun h' tk k=>h0 hn h' tk (old_kept fun b o bw e=>k b o bw (Heap.get?_push_of_some _ e))
  |succ n=>
   rw [hn]at W
   refine maxd_first W (CmpOf.ints_gt (numAt xs) (fun _ _=>intItems_at)) hSf (W.frame _ _ _ st fun b _ o e=>Heap.get?_push_of_some _ e) (Heap.get?_push_size _ rfl) fun v h' tk pv k=>h (by omega) v h' tk (by rw [hn];exact pv) (old_kept fun b o bw e=>k b o bw (Nat.ne_of_lt (Heap.lt_size e)) (Heap.get?_push_of_some _ e))
 refine wpAny_call (codeAny_call_builtin F.plain_max F.entry_max ?_)
 simp only [checkBuiltinCall,F.kind_max]
 cases hsig:Manifest.signature? "max" with
 |none=>exact wpAny_pure B
 |some sig=>
  have ha:=args_maxd (.ref l) d
  simp only [argsOk,hsig]at ha
  show wpAny _ _ (Bind.checkArgs "max" sig ⟨[.ref l],[("default",d)]⟩) _ _ s
  rw [show Bind.checkArgs "max" sig ⟨[.ref l],[("default",d)]⟩=pure ()from ha]
  exact wpAny_pure B
end
end L2
end
noncomputable section
namespace MI
open PySem L2
inductive D where
 |non|bl(b:Bool)|int(i:Int)|str(x:Str)
 |lst(l:List D)|tup(l:List D)
 |ins(c:Nat)(ks:List Str)(ds:List D)
 deriving Inhabited
noncomputable def RL(K:PySem.W.Frag)(H:Hp)(a:Addr)(xs:List V):Prop:=
 Rd H a (.lst xs)∨∃(its:Array Value) (n:Nat),K.lookup a=some {cls:=.type "list",data:=.seq its n}∧its.size≤sizeLine∧Vals xs its.toList
theorem rd_mono{H H':Hp}{a:Addr}{u:HO}(e:Same H H')(h:Rd H a u):Rd H' a u:=by
 rcases h with h|⟨o,h⟩
 ·exact .inl (e _ _ h)
 ·exact .inr ⟨o,e _ _ h⟩
theorem rl_mono{K:PySem.W.Frag}{H H':Hp}{a:Addr}{xs:List V}(e:Same H H')(h:RL K H a xs):RL K H' a xs:=by
 rcases h with h|h
 ·exact .inl (rd_mono e h)
 ·exact .inr h
theorem RL.sql{K:PySem.W.Frag}{H:Hp}{a:Addr}{xs:List V}(h:RL K H a xs):SqL K H a xs:=by
 rcases h with h|⟨its,n,h1,h2,h3⟩
 ·exact .inl h
 ·exact .inr ⟨_,its,n,h1,rfl,rfl,rfl,h2,h3⟩
mutual
inductive Dn(K:PySem.W.Frag)(cl:Nat→Option Addr)(G:Hp):V→D→Prop where
 |non:Dn K cl G .non .non
 |bl (b:Bool):Dn K cl G (.bl b) (.bl b)
 |int (i:Int):Dn K cl G (.int i) (.int i)
 |str (x:Str):Dn K cl G (.str x) (.str x)
 |lst {a:Addr} {xs:List V} {ds:List D}:RL K G a xs→Dns K cl G xs ds→Dn K cl G (.ref a) (.lst ds)
 |tup {a:Addr} {xs:List V} {ds:List D}:G a=some (.tup xs)→Dns K cl G xs ds→Dn K cl G (.ref a) (.tup ds)
 |ins {a C dx:Addr} {c:Nat} {ks:List Str} {vfs:List (Str×V)} {ds:List D}:G a=some (.ins C dx vfs)→cl c=some C→vfs.map (·.1)=ks→Dns K cl G (vfs.map (·.2)) ds→Dn K cl G (.ref a) (.ins c ks ds)
inductive Dns(K:PySem.W.Frag)(cl:Nat→Option Addr)(G:Hp):List V→List D→Prop where
 |nil:Dns K cl G [] []
 |cons {x:V} {d:D} {xs:List V} {ds:List D}:Dn K cl G x d→Dns K cl G xs ds→Dns K cl G (x::xs) (d::ds)
end
section
variable{K:PySem.W.Frag}{cl:Nat→Option Addr}{G G' H:Hp}
mutual
theorem Dn.mono(e:Same G G'):∀ {v:V} {d:D},Dn K cl G v d→Dn K cl G' v d
 |_,_,.non=> .non
 |_,_,.bl b=> .bl b
 |_,_,.int i=> .int i
 |_,_,.str x=> .str x
 |_,_,.lst h hs=> .lst (rl_mono e h) (Dns.mono e hs)
 |_,_,.tup h hs=> .tup (e _ _ h) (Dns.mono e hs)
 |_,_,.ins h hc hk hs=> .ins (e _ _ h) hc hk (Dns.mono e hs)
theorem Dns.mono(e:Same G G'):∀ {vs:List V} {ds:List D},Dns K cl G vs ds→Dns K cl G' vs ds
 |_,_,.nil=> .nil
 |_,_,.cons h hs=> .cons (Dn.mono e h) (Dns.mono e hs)
end
theorem Dns.length:∀ {vs:List V} {ds:List D},Dns K cl G vs ds→vs.length=ds.length
 |_,_,.nil=>rfl
 |_,_,.cons _ t=>by simp [Dns.length t]
theorem Dns.get:∀ {vs:List V} {ds:List D} {i:Nat} {d:D},Dns K cl G vs ds→ds[i]?=some d→∃v,vs[i]?=some v∧Dn K cl G v d
 |_,_,_,_,.nil,h=>by simp at h
 |_,_,0,_,.cons h _,e=>by simp at e;subst e;exact⟨_,rfl,h⟩
 |_,_,i+1,d,.cons _ t,e=>by
  obtain⟨u,h1,h2⟩:=Dns.get (i:=i) (d:=d) t (by simpa using e)
  exact⟨u,by simpa using h1,h2⟩
theorem Dns.append:∀ {xs ys:List V} {us ws:List D},Dns K cl G xs us→Dns K cl G ys ws→Dns K cl G (xs++ys) (us++ws)
 |_,_,_,_,.nil,s=>s
 |_,_,_,_,.cons r t,s=> .cons r (Dns.append t s)
theorem Dns.take:∀ {xs:List V} {us:List D} (n:Nat),Dns K cl G xs us→Dns K cl G (xs.take n) (us.take n)
 |_,_,0,_=> .nil
 |_,_,_+1,.nil=> .nil
 |_,_,n+1,.cons r t=> .cons r (Dns.take n t)
theorem Dns.drop:∀ {xs:List V} {us:List D} (n:Nat),Dns K cl G xs us→Dns K cl G (xs.drop n) (us.drop n)
 |_,_,0,r=>r
 |_,_,_+1,.nil=> .nil
 |_,_,n+1,.cons _ t=>Dns.drop n t
theorem Dns.reverse{xs:List V}{us:List D}(h:Dns K cl G xs us):Dns K cl G xs.reverse us.reverse:=by
 induction xs generalizing us with
 |nil=>cases h;exact .nil
 |cons x xs ih=>
  cases h with
  |cons a t=>rw [List.reverse_cons,List.reverse_cons];exact(ih t).append (.cons a .nil)
theorem Dns.rep{xs:List V}{us:List D}(h:Dns K cl G xs us):∀k:Nat,Dns K cl G (List.replicate k xs).flatten (List.replicate k us).flatten
 |0=> .nil
 |k+1=>by rw [List.replicate_succ,List.replicate_succ,List.flatten_cons,List.flatten_cons];exact h.append (Dns.rep h k)
theorem dns_ints:∀ns:List Int,Dns K cl G (ns.map V.int) (ns.map D.int)
 |[]=> .nil
 |n::r=> .cons (.int n) (dns_ints r)
end
noncomputable def intsD:List D→Option (List Int)
 |[]=>some []
 | .int i::r=>(intsD r).map (i::·)
 |_=>none
noncomputable def blsD:List D→Option (List Bool)
 |[]=>some []
 | .bl i::r=>(blsD r).map (i::·)
 |_=>none
theorem intsD_map(ns:List Int):intsD (ns.map D.int)=some ns:=by
 induction ns with
 |nil=>rfl
 |cons n r ih=>show(intsD (r.map D.int)).map (n::·)=_;rw [ih];rfl
theorem blsD_map(ns:List Bool):blsD (ns.map D.bl)=some ns:=by
 induction ns with
 |nil=>rfl
 |cons n r ih=>show(blsD (r.map D.bl)).map (n::·)=_;rw [ih];rfl
theorem intsD_eq:∀ {l:List D} {ns:List Int},intsD l=some ns→l=ns.map D.int
 |[],ns,h=>by cases h;rfl
 |d::r,ns,h=>by
  cases d with
  |int i=>
   have h':(intsD r).map (i::·)=some ns:=h
   cases e:intsD r with
   |none=>rw [e]at h';cases h'
   |some ms=>rw [e]at h';cases h';rw [intsD_eq e];rfl
  |_=>cases h
theorem blsD_eq:∀ {l:List D} {ns:List Bool},blsD l=some ns→l=ns.map D.bl
 |[],ns,h=>by cases h;rfl
 |d::r,ns,h=>by
  cases d with
  |bl i=>
   have h':(blsD r).map (i::·)=some ns:=h
   cases e:blsD r with
   |none=>rw [e]at h';cases h'
   |some ms=>rw [e]at h';cases h';rw [blsD_eq e];rfl
  |_=>cases h
section
variable{K:PySem.W.Frag}{cl:Nat→Option Addr}{G:Hp}
theorem Dns.ints:∀ {vs:List V} {ns:List Int},Dns K cl G vs (ns.map D.int)→vs=ns.map V.int
 |_,[],.nil=>rfl
 |_,n::r,.cons (.int _) t=>by rw [Dns.ints t];rfl
theorem Dns.bls:∀ {vs:List V} {ns:List Bool},Dns K cl G vs (ns.map D.bl)→vs=ns.map V.bl
 |_,[],.nil=>rfl
 |_,n::r,.cons (.bl _) t=>by rw [Dns.bls t];rfl
end
mutual
noncomputable def toPy:D→Option PyData
 | .non=>some .none
 | .bl b=>some (.bool b)
 | .int i=>some (.int i)
 | .str x=>some (.str x)
 | .lst l=>(toPys l).map .list
 | .tup l=>(toPys l).map .tuple
 | .ins _ _ _=>none
noncomputable def toPys:List D→Option (List PyData)
 |[]=>some []
 |d::r=>match toPy d,toPys r with
  |some x,some y=>some (x::y)
  |_,_=>none
end
noncomputable def eqD(a b:D):Option Bool:=match toPy a,toPy b with
 |some x,some y=>if PySem.SeqAt.shaped x&&PySem.SeqAt.shaped y&&PySem.SeqAt.noMix x y then some (PySem.Spec.same x y)else none
 |_,_=>none
section
variable{K:PySem.W.Frag}{cl:Nat→Option Addr}{G:Hp}
mutual
theorem Dn.py:∀ {v:V} {d:D} {x:PyData},Dn K cl G v d→toPy d=some x→L2.DV K G v x
 |_,_,_,.non,h=>by cases h;exact .non
 |_,_,_,.bl b,h=>by cases h;exact .bl b
 |_,_,_,.int i,h=>by cases h;exact .int i
 |_,_,_,.str y,h=>by cases h;exact .str y
 |_,_,x,@Dn.lst _ _ _ a xs ds h hs,e=>by
  have e':(toPys ds).map PyData.list=some x:=by simpa [toPy]using e
  cases q:toPys ds with
  |none=>rw [q]at e';cases e'
  |some y=>rw [q]at e';cases e';exact .lst h.sql (Dns.py hs q)
 |_,_,x,@Dn.tup _ _ _ a xs ds h hs,e=>by
  have e':(toPys ds).map PyData.tuple=some x:=by simpa [toPy]using e
  cases q:toPys ds with
  |none=>rw [q]at e';cases e'
  |some y=>rw [q]at e';cases e';exact .tup (.inl (.inl h)) (Dns.py hs q)
 |_,_,_,.ins _ _ _ _,h=>by simp [toPy]at h
theorem Dns.py:∀ {vs:List V} {ds:List D} {x:List PyData},Dns K cl G vs ds→toPys ds=some x→L2.DVs K G vs x
 |_,_,_,.nil,h=>by cases h;exact .nil
 |_,_,x,@Dns.cons _ _ _ v d vs ds h hs,e=>by
  have e':(match toPy d,toPys ds with|some x,some y=>some (x::y)|_,_=>none)=some x:=by simpa [toPys]using e
  cases q1:toPy d with
  |none=>rw [q1]at e';cases e'
  |some y=>
   cases q2:toPys ds with
   |none=>rw [q1,q2]at e';cases e'
   |some z=>rw [q1,q2]at e';cases e';exact .cons (Dn.py h q1) (Dns.py hs q2)
end
end
structure Ext(H G H' G':Hp):Prop where
 hh:Same H H'
 gg:Same G G'
 gh:Same G' H'
 nw:∀b o,G' b=some o→G b=none→H b=none
section
variable{H G H' G' H2 G2:Hp}
theorem Ext.refl(h:Same G H):Ext H G H G:=⟨.refl _,.refl _,h,fun b o h1 h2=>by rw [h1]at h2;cases h2⟩
theorem Ext.trans(a:Ext H G H' G')(b:Ext H' G' H2 G2):Ext H G H2 G2:=
 ⟨a.hh.trans b.hh,a.gg.trans b.gg,b.gh,fun c o h1 h2=>by
   cases q:G' c with
   |some u=>exact a.nw c u q h2
   |none=>exact a.hh.free (b.nw c o h1 q)⟩
theorem same_upd{H:Hp}{p:Addr}(h:H p=none)(o:HO):Same H (upd H p o):=fun b u q=>by rw [upd_ne (ne_of_none q h)];exact q
theorem Ext.new(h:Same G H){p:Addr}(hp:H p=none)(o:HO):Ext H G (upd H p o) (upd G p o):=
 ⟨same_upd hp o,same_upd (h.free hp) o,fun b u q=>by
  by_cases e:b=p
  ·subst e;rw [upd_same]at q⊢;exact q
  ·rw [upd_ne e]at q⊢;exact h _ _ q,fun b u q n=>by
  by_cases e:b=p
  ·subst e;exact hp
  ·rw [upd_ne e]at q;rw [q]at n;cases n⟩
theorem Ext.newO(h:Same G H){p:Addr}(hp:H p=none)(o:HO):Ext H G (upd H p o) G:=
 ⟨same_upd hp o,.refl _,h.trans (same_upd hp o),fun b u q n=>by rw [q]at n;cases n⟩
end
noncomputable def rD(K:PySem.W.Frag)(cl:Nat→Option Addr)(g:D→D→Option D):R2:=fun v u H Q=>∃G x y d,Same G H∧Dn K cl G v x∧Dn K cl G u y∧g x y=some d∧∀z H' G',Ext H G H' G'→Dn K cl G' z d→Q z H'
noncomputable def rD1(K:PySem.W.Frag)(cl:Nat→Option Addr)(g:D→Option D):V→Hp→VK→Prop:=fun v H Q=>∃G x d,Same G H∧Dn K cl G v x∧g x=some d∧∀z H' G',Ext H G H' G'→Dn K cl G' z d→Q z H'
noncomputable def rDs(K:PySem.W.Frag)(cl:Nat→Option Addr)(g:List D→Option D):List V→Hp→VK→Prop:=fun vs H Q=>∃G xs d,Same G H∧Dns K cl G vs xs∧g xs=some d∧∀z H' G',Ext H G H' G'→Dn K cl G' z d→Q z H'
end MI
end
noncomputable section
namespace MI
open PySem L2
section
variable{X:Cx}{pins:List (Addr×Obj)}{σ:St}{H:Hp}{s:Shared}
theorem rl_lst(I:Inv X pins σ H s){a:Addr}{xs:List V}(h:RL X.K H a xs):xs.length≤sizeLine∧∃(its:List Value) (n:Nat),Vals xs its∧xs.length=its.length∧s.heap.get? a=some {cls:=.type "list",data:=.seq its.toArray n}:=by
 rcases h with h|⟨its,n,h1,h2,h3⟩
 ·obtain⟨z,its,n,r,e⟩:=h.ok I.hok
  exact⟨z,its,n,r,r.length,e⟩
 ·have e:xs.length=its.toList.length:=h3.length
  have e2:its.toList.length=its.size:=Array.length_toList
  exact⟨by omega,its.toList,n,h3,h3.length,by simpa using I.kIn a _ h1⟩
theorem op_catR:OpR X (binaryOp .Add) (fun x y H Q=>∃l b xs zs,x=.ref l∧y=.ref b∧RL X.K H l xs∧RL X.K H b zs∧xs.length+zs.length≤sizeLine∧∀p,H p=none→Q (.ref p) (upd H p (.lst (xs++zs)))):=by
 intro pins s σ H x y v u Q I rx ry h
 obtain⟨l,b,xs,zs,rfl,rfl,hH,hB,hz,q⟩:=h
 cases rx
 cases ry
 obtain⟨z,its,n,r,hl,e⟩:=rl_lst I hH
 obtain⟨z2,its2,n2,r2,hl2,e2⟩:=rl_lst I hB
 refine PySem.P.add_list e e2 ?_ (by rw [List.size_toArray,List.size_toArray];omega)
 have ea:its.toArray++its2.toArray=(its++its2).toArray:=by simp
 rw [ea]
 exact⟨.ref _,_,I.lnew (t':=s.toks) (r.append r2) (by rw [List.length_append];omega),rfl,q _ I.fresh⟩
theorem op_repR:OpR X (binaryOp .Mult) (fun x y H Q=>∃l k xs,x=.ref l∧y=.int k∧RL X.K H l xs∧-(2 ^ 63)≤k∧k<2 ^ 63∧xs.length*k.toNat≤sizeLine∧
 ∀p,H p=none→Q (.ref p) (upd H p (.lst (List.replicate k.toNat xs).flatten))):=by
 intro pins s σ H x y v u Q I rx ry h
 obtain⟨l,k,xs,rfl,rfl,hH,h1,h2,hz,q⟩:=h
 cases rx
 obtain⟨t,rfl⟩:=ry
 obtain⟨z,its,n,r,hl,e⟩:=rl_lst I hH
 have hlen:its.toArray.size*k.toNat≤sizeLine:=by rw [List.size_toArray,←hl];exact hz
 have hcap:¬its.toArray.size*k.toNat>(2 ^ 63-1)/8:=by
  have:(sizeLine:Nat)≤(2 ^ 63-1)/8:=by decide
  omega
 have hfit:¬(!Builtin.List.listFitsIndex k)=true:=by
  rw [fitsIndex_both h1 h2]
  exact Bool.false_ne_true
 have hlong:¬Builtin.List.listTooLong (its.toArray.size*k.toNat)=true:=by
  rw [notLongL hlen]
  exact Bool.false_ne_true
 have hnew:List.foldl (fun x1 x2=>x1++x2) #[] (List.replicate (if its.toArray.isEmpty=true then 0 else k.toNat) its.toArray)=(List.replicate k.toNat its).flatten.toArray:=by
  have f0:∀m:Nat,List.foldl (fun x1 x2=>x1++x2) #[] (List.replicate m its.toArray)=(List.replicate m its).flatten.toArray:=fun m=>by
   have:=foldl_rep its m []
   rw [List.nil_append]at this
   exact this
  rw [f0]
  cases its with
  |nil=>simp
  |cons a r'=>rw [if_neg (by simp)]
 refine wpAny_binaryOp_repeat_ref (T:="list") (U:="int") (by decide) ⟨_,e,rfl⟩ (fun s'=>typeIs_int s' k t) noFill_list_mul F.fills_int_mul F.slot_int_rmul repeat_list F.slot_int_index.lookup
  (call_meets F.slot_int_rmul (typeIs_int s k t) F.entry_int_rmul (F.args_int_rmul_2 _ _) (int___rmul___int_list k t l its.toArray n)
    ⟨e,rfl,⟨_,e,rfl⟩,call_meets F.slot_list_mul ⟨_,e,rfl⟩ F.entry_list_mul (F.args_list_mul_2 _ _) (AutoListH.list___mul___list_int_3 l its.toArray n k t hfit hcap hlong) ⟨e,?_⟩⟩)
 rw [hnew]
 exact⟨.ref _,_,I.lnew (t':=s.toks) (r.rep k.toNat) (by rw [len_rep,Nat.mul_comm];exact hz),rfl,q _ I.fresh⟩
end
noncomputable def sz(n:Nat):Bool:=decide (n≤1000000)
theorem sz_le{n:Nat}(h:sz n=true):n≤sizeLine:=by
 have:=of_decide_eq_true h
 rw [sizeLine_eq];omega
noncomputable def mulOk(i j:Int):Bool:=decide (-(2 ^ 64)<i∧i<2 ^ 64)||decide (-(2 ^ 64)<j∧j<2 ^ 64)
noncomputable def powOk(i j:Int):Bool:=decide (0≤j∧j≤1000000∧i.natAbs<2 ^ 64)
noncomputable def binD:Operator→D→D→Option D
 | .Add,.int i,.int j=>some (.int (i+j))
 | .Add,.lst a,.lst b=>if sz (a.length+b.length)then some (.lst (a++b))else none
 | .Add,.str a,.str b=>if sz (a.length+b.length)then some (.str (a++b))else none
 | .Sub,.int i,.int j=>some (.int (i-j))
 | .Mult,.int i,.int j=>if mulOk i j then some (.int (i*j))else none
 | .Mult,.lst a,.int k=>if sz (a.length*k.toNat)&&decide (-(2 ^ 62)≤k∧k<2 ^ 62)then some (.lst (List.replicate k.toNat a).flatten)else none
 | .FloorDiv,.int i,.int j=>if decide (0<j∧j<1073741824)then some (.int (i/j))else none
 | .Mod,.int i,.int j=>if decide (0<j)then some (.int (i % j))else none
 | .BitAnd,.int i,.int j=>some (.int (Builtin.bitAnd i j))
 | .RShift,.int i,.int j=>if decide (0≤j)then some (.int (i/2 ^ j.toNat))else none
 | .LShift,.int i,.int j=>if powOk i j then some (.int (i*2 ^ j.toNat))else none
 | .Pow,.int i,.int j=>if powOk i j then some (.int (i ^ j.toNat))else none
 |_,_,_=>none
section
variable{X:Cx}{cl:Nat→Option Addr}
theorem endS{G H:Hp}{Q:VK}{d:D}{K:PySem.W.Frag}(sg:Same G H)(q:∀z H' G',Ext H G H' G'→Dn K cl G' z d→Q z H'){z:V}(hz:Dn K cl G z d):Q z H:=q z H G (Ext.refl sg) hz
theorem endL{G H:Hp}{Q:VK}{ds:List D}{xs:List V}{K:PySem.W.Frag}(sg:Same G H)(q:∀z H' G',Ext H G H' G'→Dn K cl G' z (.lst ds)→Q z H'){r:Addr}(hr:H r=none)(h:Dns K cl G xs ds):Q (.ref r) (upd H r (.lst xs)):=
 have e:=Ext.new sg hr (.lst xs)
 q _ _ _ e (.lst (.inl (.inl upd_same)) (h.mono e.gg))
theorem endT{G H:Hp}{Q:VK}{ds:List D}{xs:List V}{K:PySem.W.Frag}(sg:Same G H)(q:∀z H' G',Ext H G H' G'→Dn K cl G' z (.tup ds)→Q z H'){r:Addr}(hr:H r=none)(h:Dns K cl G xs ds):Q (.ref r) (upd H r (.tup xs)):=
 have e:=Ext.new sg hr (.tup xs)
 q _ _ _ e (.tup upd_same (h.mono e.gg))
theorem op_bin(op:Operator):OpR X (binaryOp op) (rD X.K cl (binD op)):=by
 intro pins s σ H x y v u Q I rx ry ⟨G,a,b,d,sg,da,db,hg,q⟩
 unfold binD at hg
 split at hg
 ·cases hg;cases da;cases db
  exact op_add pins s σ H _ _ v u Q I rx ry ⟨_,_,rfl,rfl,endS sg q (.int _)⟩
 ·split at hg
  ·rename_i hz
   cases hg
   cases da with| @lst p xs _ h1 h2=>cases db with| @lst p' xs' _ h1' h2'=>
    refine op_catR pins s σ H _ _ v u Q I rx ry ⟨_,_,_,_,rfl,rfl,rl_mono sg h1,rl_mono sg h1',sz_le (by rw [h2.length,h2'.length];exact hz),fun r hr=> ?_⟩
    exact endL sg q hr (h2.append h2')
  ·cases hg
 ·split at hg
  ·rename_i hz
   cases hg;cases da;cases db
   exact op_add_str pins s σ H _ _ v u Q I rx ry ⟨_,_,rfl,rfl,sz_le hz,endS sg q (.str _)⟩
  ·cases hg
 ·cases hg;cases da;cases db
  exact op_sub pins s σ H _ _ v u Q I rx ry ⟨_,_,rfl,rfl,endS sg q (.int _)⟩
 ·split at hg
  ·rename_i hz
   cases hg;cases da;cases db
   refine op_mul pins s σ H _ _ v u Q I rx ry ⟨_,_,rfl,rfl,?_,endS sg q (.int _)⟩
   have hz':=(Bool.or_eq_true _ _).mp hz
   rcases hz' with h|h
   ·exact .inl (of_decide_eq_true h)
   ·exact .inr (of_decide_eq_true h)
  ·cases hg
 ·split at hg
  ·rename_i hz
   cases hg;cases db
   cases da with| @lst p xs _ h1 h2=>
    obtain⟨hz1,hz2⟩:=(Bool.and_eq_true _ _).mp hz
    have hz2:=of_decide_eq_true hz2
    refine op_repR pins s σ H _ _ v u Q I rx ry ⟨_,_,_,rfl,rfl,rl_mono sg h1,by omega,by omega,sz_le (by rw [h2.length];exact hz1),fun r hr=> ?_⟩
    exact endL sg q hr (h2.rep _)
  ·cases hg
 ·split at hg
  ·rename_i hz
   have hz':=of_decide_eq_true hz
   cases hg;cases da;cases db
   exact op_fdiv pins s σ H _ _ v u Q I rx ry ⟨_,_,rfl,rfl,hz',endS sg q (.int _)⟩
  ·cases hg
 ·split at hg
  ·rename_i hz
   cases hg;cases da;cases db
   exact op_mod pins s σ H _ _ v u Q I rx ry ⟨_,_,rfl,rfl,of_decide_eq_true hz,endS sg q (.int _)⟩
  ·cases hg
 ·cases hg;cases da;cases db
  exact op_and pins s σ H _ _ v u Q I rx ry ⟨_,_,rfl,rfl,endS sg q (.int _)⟩
 ·split at hg
  ·rename_i hz
   cases hg;cases da;cases db
   exact op_shr pins s σ H _ _ v u Q I rx ry ⟨_,_,rfl,rfl,of_decide_eq_true hz,endS sg q (.int _)⟩
  ·cases hg
 ·split at hg
  ·rename_i hz
   have hz':=of_decide_eq_true hz
   cases hg;cases da;cases db
   exact op_shl pins s σ H _ _ v u Q I rx ry ⟨_,_,rfl,rfl,hz',endS sg q (.int _)⟩
  ·cases hg
 ·split at hg
  ·rename_i hz
   have hz':=of_decide_eq_true hz
   cases hg;cases da;cases db
   exact op_pow pins s σ H _ _ v u Q I rx ry ⟨_,_,rfl,rfl,hz',endS sg q (.int _)⟩
  ·cases hg
 ·cases hg
end
noncomputable def flatD:D→Bool
 | .non=>true| .bl _=>true| .int _=>true| .str _=>true|_=>false
noncomputable def eqF:D→D→Bool
 | .non,.non=>true
 | .bl a,.bl b=>a==b
 | .bl a,.int b=>(if a then 1 else 0)==b
 | .int a,.bl b=>a==(if b then 1 else 0)
 | .int a,.int b=>a==b
 | .str a,.str b=>a==b
 |_,_=>false
noncomputable def inD(x:D)(l:List D):Option Bool:=if flatD x&&l.all flatD then some (l.any fun y=>eqF y x)else none
noncomputable def isD:D→D→Option Bool
 | .non,.non=>some true
 | .bl a,.bl b=>some (a==b)
 |_,_=>none
noncomputable def cmpD:CmpOp→D→D→Option D
 | .Lt,.int i,.int j=>some (.bl (decide (i<j)))
 | .LtE,.int i,.int j=>some (.bl (decide (i≤j)))
 | .Gt,.int i,.int j=>some (.bl (decide (j<i)))
 | .GtE,.int i,.int j=>some (.bl (decide (j≤i)))
 | .Eq,a,b=>(eqD a b).map .bl
 | .NotEq,a,b=>(eqD a b).map fun c=> .bl (!c)
 | .In,a,.lst l=>(inD a l).map .bl
 | .In,a,.tup l=>(inD a l).map .bl
 | .NotIn,a,.lst l=>(inD a l).map fun c=> .bl (!c)
 | .NotIn,a,.tup l=>(inD a l).map fun c=> .bl (!c)
 | .Is,.bl a,.bl b=>some (.bl (a==b))
 | .IsNot,.bl a,.bl b=>some (.bl (a !=b))
 |_,_,_=>none
section
variable{K:PySem.W.Frag}{cl:Nat→Option Addr}{G:Hp}
theorem Dn.flat{v:V}{d:D}(h:Dn K cl G v d)(f:flatD d=true):flatV v=true:=by
 cases h with
 |non=>rfl
 |bl _=>rfl
 |int _=>rfl
 |str _=>rfl
 |_=>cases f
theorem Dn.eqv{v u:V}{d e:D}(h:Dn K cl G v d)(h':Dn K cl G u e)(f:flatD d=true)(f':flatD e=true):eqV v u=eqF d e:=by
 cases h with
 |lst=>cases f
 |tup=>cases f
 |ins=>cases f
 |non=>cases h' with|lst=>cases f'|tup=>cases f'|ins=>cases f'|_=>rfl
 |bl _=>cases h' with|lst=>cases f'|tup=>cases f'|ins=>cases f'|_=>rfl
 |int _=>cases h' with|lst=>cases f'|tup=>cases f'|ins=>cases f'|_=>rfl
 |str _=>cases h' with|lst=>cases f'|tup=>cases f'|ins=>cases f'|_=>rfl
theorem Dns.flat:∀ {vs:List V} {ds:List D},Dns K cl G vs ds→ds.all flatD=true→vs.all flatV=true
 |_,_,.nil,_=>rfl
 |_,_,.cons h t,f=>by
  rw [List.all_cons,Bool.and_eq_true]at f
  rw [List.all_cons,h.flat f.1,Dns.flat t f.2];rfl
theorem Dns.inV{x:V}{d:D}(h:Dn K cl G x d)(f:flatD d=true):∀ {vs:List V} {ds:List D},Dns K cl G vs ds→ds.all flatD=true→inV x vs=ds.any fun y=>eqF y d
 |_,_,.nil,_=>rfl
 |_,_,.cons h' t,f'=>by
  rw [List.all_cons,Bool.and_eq_true]at f'
  show(eqV _ x||L2.inV x _)=_
  rw [List.any_cons,h'.eqv h f'.1 f,Dns.inV h f t f'.2]
end
section
variable{X:Cx}{cl:Nat→Option Addr}
theorem eqD_ok{a b:D}{c:Bool}(h:eqD a b=some c):∃x y,toPy a=some x∧toPy b=some y∧PySem.SeqAt.shaped x=true∧PySem.SeqAt.shaped y=true∧PySem.SeqAt.noMix x y=true∧c=PySem.Spec.same x y:=by
 unfold eqD at h
 split at h
 ·rename_i x y h1 h2
  split at h
  ·rename_i h3
   rw [Bool.and_eq_true,Bool.and_eq_true]at h3
   exact⟨x,y,h1,h2,h3.1.1,h3.1.2,h3.2,(Option.some.inj h).symm⟩
  ·cases h
 ·cases h
theorem op_isB:OpR X (compareOp .Is) (fun x y H Q=>∃a b,x=.bl a∧y=.bl b∧Q (.bl (a==b)) H):=by
 intro pins s σ H x y v u Q I rx ry h
 obtain⟨a,b,rfl,rfl,q⟩:=h
 cases (show v=Value.bool a from rx)
 cases (show u=Value.bool b from ry)
 exact PyProof.Rows.is_bool ⟨.bl _,H,I,rfl,q⟩
theorem op_isnotB:OpR X (compareOp .IsNot) (fun x y H Q=>∃a b,x=.bl a∧y=.bl b∧Q (.bl (a !=b)) H):=by
 intro pins s σ H x y v u Q I rx ry h
 obtain⟨a,b,rfl,rfl,q⟩:=h
 cases (show v=Value.bool a from rx)
 cases (show u=Value.bool b from ry)
 exact PyProof.Rows.isnot_bool ⟨.bl _,H,I,rfl,q⟩
theorem op_cmp(hu:X.A.units+64<cLine)(op:CmpOp):OpR X (compareOp op) (rD X.K cl (cmpD op)):=by
 intro pins s σ H x y v u Q I rx ry ⟨G,a,b,d,sg,da,db,hg,q⟩
 unfold cmpD at hg
 split at hg
 ·cases hg;cases da;cases db
  exact op_lt pins s σ H _ _ v u Q I rx ry ⟨_,_,rfl,rfl,endS sg q (.bl _)⟩
 ·cases hg;cases da;cases db
  exact op_le pins s σ H _ _ v u Q I rx ry ⟨_,_,rfl,rfl,endS sg q (.bl _)⟩
 ·cases hg;cases da;cases db
  exact op_gt pins s σ H _ _ v u Q I rx ry ⟨_,_,rfl,rfl,endS sg q (.bl _)⟩
 ·cases hg;cases da;cases db
  exact op_ge pins s σ H _ _ v u Q I rx ry ⟨_,_,rfl,rfl,endS sg q (.bl _)⟩
 ·cases e:eqD a b with
  |none=>rw [e]at hg;cases hg
  |some c=>
   rw [e]at hg;cases hg
   obtain⟨x',y',h1,h2,h3,h4,h5,rfl⟩:=eqD_ok e
   refine op_eqD hu pins s σ H _ _ v u Q I rx ry ⟨x',y',(da.mono sg).py h1,(db.mono sg).py h2,h3,h4,h5,?_⟩
   rw [if_neg (by decide)]
   exact endS sg q (.bl _)
 ·cases e:eqD a b with
  |none=>rw [e]at hg;cases hg
  |some c=>
   rw [e]at hg;cases hg
   obtain⟨x',y',h1,h2,h3,h4,h5,rfl⟩:=eqD_ok e
   refine op_neD hu pins s σ H _ _ v u Q I rx ry ⟨x',y',(da.mono sg).py h1,(db.mono sg).py h2,h3,h4,h5,?_⟩
   rw [if_pos rfl]
   exact endS sg q (.bl _)
 all_goals first
  |(cases hg;done)
  |(cases hg;cases da;cases db;exact op_isB pins s σ H _ _ v u Q I rx ry ⟨_,_,rfl,rfl,endS sg q (.bl _)⟩)
  |(cases hg;cases da;cases db;exact op_isnotB pins s σ H _ _ v u Q I rx ry ⟨_,_,rfl,rfl,endS sg q (.bl _)⟩)
  |(rename_i l
    unfold inD at hg
    split at hg
    ·rename_i hf
     obtain⟨f1,f2⟩:=(Bool.and_eq_true _ _).mp hf
     cases hg
     cases db
     rename_i h1 h2
     have e:=Dns.inV da f1 h2 f2
     first
      |(refine op_in_seq pins s σ H _ _ v u Q I rx ry ⟨_,_,rfl,.inl (rl_mono sg h1).sql,da.flat f1,h2.flat f2,?_⟩
        rw [if_neg (by decide),e];exact endS sg q (.bl _))
      |(refine op_notIn_seq pins s σ H _ _ v u Q I rx ry ⟨_,_,rfl,.inl (rl_mono sg h1).sql,da.flat f1,h2.flat f2,?_⟩
        rw [if_pos rfl,e];exact endS sg q (.bl _))
      |(refine op_in_seq pins s σ H _ _ v u Q I rx ry ⟨_,_,rfl,.inr (.inl (.inl (sg _ _ h1))),da.flat f1,h2.flat f2,?_⟩
        rw [if_neg (by decide),e];exact endS sg q (.bl _))
      |(refine op_notIn_seq pins s σ H _ _ v u Q I rx ry ⟨_,_,rfl,.inr (.inl (.inl (sg _ _ h1))),da.flat f1,h2.flat f2,?_⟩
        rw [if_pos rfl,e];exact endS sg q (.bl _))
    ·cases hg)
end
end MI
end
noncomputable section
namespace MI
open PySem L2
section
variable{K:PySem.W.Frag}{cl:Nat→Option Addr}{G:Hp}
theorem Dns.atI{xs:List V}{ds:List D}(h:Dns K cl G xs ds){i:Int}{d:D}(e:L2.atI ds i=some d):∃v,L2.atI xs i=some v∧Dn K cl G v d:=by
 unfold L2.atI at e⊢
 rw [h.length]
 cases q:ixN ds.length i with
 |none=>rw [q]at e;cases e
 |some j=>
  rw [q]at e
  exact h.get e
end
noncomputable def idxD:D→D→Option D
 | .lst l,.int i=>L2.atI l i
 | .tup l,.int i=>L2.atI l i
 | .str x,.int i=>if sz x.length then(L2.atI x.cps.toList i).map fun c=> .str ⟨#[c]⟩else none
 |_,_=>none
noncomputable def cutL{α:Type}(l:List α)(lo hi:Option Int):List α:=(l.drop (HT.sIx l.length 0 lo)).take (HT.sIx l.length l.length hi-HT.sIx l.length 0 lo)
noncomputable def cutD:D→Option Int→Option Int→Option D
 | .lst l,lo,hi=>some (.lst (cutL l lo hi))
 |_,_,_=>none
noncomputable def revD:D→Option D
 | .lst l=>some (.lst l.reverse)
 |_=>none
section
variable{X:Cx}{cl:Nat→Option Addr}
theorem ix_D:IxR X (rD X.K cl idxD):=by
 intro value slice pins s σ H x y v u Q I rx ry ⟨G,a,b,d,sg,da,db,hg,q⟩ hs
 unfold idxD at hg
 split at hg
 ·cases db
  cases da with|lst h1 h2=>
   obtain⟨z,e1,e2⟩:=h2.atI hg
   exact ix_list value slice pins s σ H _ _ v u Q I rx ry ⟨_,_,_,z,rfl,rfl,(rl_mono sg h1).sql,e1,endS sg q e2⟩ hs
 ·cases db
  cases da with|tup h1 h2=>
   obtain⟨z,e1,e2⟩:=h2.atI hg
   exact ix_tup value slice pins s σ H _ _ v u Q I rx ry ⟨_,_,_,z,rfl,rfl,.inl (.inl (sg _ _ h1)),e1,endS sg q e2⟩ hs
 ·split at hg
  ·rename_i hz
   cases da;cases db
   obtain⟨c,e1,rfl⟩:=msi hg
   exact ix_str value slice pins s σ H _ _ v u Q I rx ry ⟨_,_,c,rfl,rfl,sz_le hz,e1,endS sg q (.str _)⟩ hs
  ·cases hg
 ·cases hg
noncomputable def rCutD(K:PySem.W.Frag)(cl:Nat→Option Addr):V→Option Int→Option Int→Hp→VK→Prop:=fun v lo hi H Q=>∃G x d,Same G H∧Dn K cl G v x∧cutD x lo hi=some d∧∀z H' G',Ext H G H' G'→Dn K cl G' z d→Q z H'
theorem sl_D:SlR X (rCutD X.K cl):=by
 intro pins s σ H x v vl vu lo hi sl Q I rx hs pl pu ⟨G,a,d,sg,da,hg,q⟩
 unfold cutD at hg
 split at hg
 ·cases hg
  cases da with| @lst p xs _ h1 h2=>
   refine sl_list pins s σ H _ v vl vu _ _ sl Q I rx hs pl pu ⟨p,xs,rfl,(rl_mono sg h1).sql,fun r hr=>endL sg q hr ?_⟩
   unfold cutV cutL
   rw [h2.length]
   exact(h2.drop _).take _
 ·cases hg
end
inductive U where
 |len|list|lrng|sorted|sset|any|all|min|neg|sum|max|lset|ldn
 deriving DecidableEq
noncomputable def isort(ns:List Int):List Int:=ns.mergeSort (fun a b=>decide (a≤b))
noncomputable def minL:List Int→Option Int
 |[]=>none
 |a::r=>some (r.foldl (fun m x=>if x<m then x else m) a)
noncomputable def maxL:List Int→Option Int
 |[]=>none
 |a::r=>some (r.foldl (fun m x=>if m<x then x else m) a)
noncomputable def ddp:List Int→List Int
 |[]=>[]
 |a::r=>if a∈r then ddp r else a::ddp r
theorem ddp_mem{x:Int}:∀ {l:List Int},x∈ddp l↔x∈l
 |[]=>Iff.rfl
 |a::r=>by
  unfold ddp
  have ih:=ddp_mem (x:=x) (l:=r)
  split
  ·rename_i h
   rw [ih,List.mem_cons]
   exact⟨.inr,fun z=>z.elim (fun e=>e▸h) id⟩
  ·rw [List.mem_cons,List.mem_cons,ih]
theorem ddp_nodup:∀(l:List Int),(ddp l).Nodup
 |[]=>List.nodup_nil
 |a::r=>by
  unfold ddp
  split
  ·exact ddp_nodup r
  ·rename_i h
   exact List.nodup_cons.mpr ⟨fun z=>h (ddp_mem.mp z),ddp_nodup r⟩
noncomputable def unD:U→D→Option D
 | .len,.lst l=>some (.int l.length)
 | .len,.tup l=>some (.int l.length)
 | .len,.str x=>if sz x.length then some (.int x.length)else none
 | .list,.lst l=>some (.lst l)
 | .list,.tup l=>some (.lst l)
 | .lrng,.int n=>if decide (-(2 ^ 60)≤n∧n≤1000000)then some (.lst ((List.range n.toNat).map fun(i:Nat)=>D.int i))else none
 | .sorted,.lst l=>(intsD l).bind fun ns=>if decide (ns.length<64)then some (.lst ((isort ns).map D.int))else none
 | .sset,.lst l=>(intsD l).bind fun ns=>if decide (ns.length<64)then some (.lst ((isort (ddp ns)).map D.int))else none
 | .any,.lst l=>(blsD l).map fun bs=> .bl (bs.any id)
 | .all,.lst l=>(blsD l).map fun bs=> .bl (bs.all id)
 | .min,.lst l=>(intsD l).bind fun ns=>(minL ns).map D.int
 | .neg,.int i=>some (.int (-i))
 | .sum,.lst l=>(intsD l).map fun ns=> .int ns.sum
 | .max,.lst l=>(intsD l).bind fun ns=>(maxL ns).map D.int
 | .lset,.lst l=>(intsD l).bind fun ns=>if decide (ns.length<64)then some (.int (ddp ns).length)else none
 | .ldn,.int i=>if decide (-(2 ^ 30)≤i∧i≤1000000)then some (.lst ((List.range (i+1).toNat).map fun(j:Nat)=>D.int (i-j)))else none
 |_,_=>none
theorem maxL_spec{ns:List Int}{m:Int}(h:maxL ns=some m):m∈ns∧∀a∈ns,a≤m:=by
 have go:∀(r:List Int) (a:Int),(r.foldl (fun m x=>if m<x then x else m) a∈a::r)∧(∀b∈a::r,b≤r.foldl (fun m x=>if m<x then x else m) a):=by
  intro r
  induction r with
  |nil=>intro a;simp
  |cons x r ih=>
   intro a
   simp only [List.foldl_cons]
   obtain⟨h1,h2⟩:=ih (if a<x then x else a)
   by_cases hx:a<x
   ·rw [if_pos hx]at h1 h2⊢
    refine⟨List.mem_cons_of_mem _ h1,fun b hb=> ?_⟩
    have hxx:=h2 x (List.mem_cons_self ..)
    rcases List.mem_cons.mp hb with z|z
    ·omega
    ·exact h2 b z
   ·rw [if_neg hx]at h1 h2⊢
    have haa:=h2 a (List.mem_cons_self ..)
    refine⟨?_,fun b hb=> ?_⟩
    ·rcases List.mem_cons.mp h1 with z|z
     ·rw [z];exact List.mem_cons_self ..
     ·exact List.mem_cons_of_mem _ (List.mem_cons_of_mem _ z)
    ·rcases List.mem_cons.mp hb with z|z
     ·omega
     ·rcases List.mem_cons.mp z with z|z
      ·omega
      ·exact h2 b (List.mem_cons_of_mem _ z)
 cases ns with
 |nil=>cases h
 |cons a r=>cases h;exact go r a
theorem maxL_unique{ns:List Int}{m k:Int}(h:maxL ns=some m)(h1:k∈ns)(h2:∀a∈ns,a≤k):k=m:=by
 obtain⟨a,b⟩:=maxL_spec h
 have:=b k h1
 have:=h2 m a
 omega
section
variable{X:Cx}{cl:Nat→Option Addr}
noncomputable def one(g:D→Option D):List D→Option D
 |[x]=>g x
 |_=>none
noncomputable def two(g:D→D→Option D):List D→Option D
 |[x,y]=>g x y
 |_=>none
theorem one_some{g:D→Option D}{l:List D}{d:D}(h:one g l=some d):∃x,l=[x]∧g x=some d:=by
 unfold one at h;split at h
 ·exact⟨_,rfl,h⟩
 ·cases h
theorem two_some{g:D→D→Option D}{l:List D}{d:D}(h:two g l=some d):∃x y,l=[x,y]∧g x y=some d:=by
 unfold two at h;split at h
 ·exact⟨_,_,rfl,h⟩
 ·cases h
theorem Dns.one{K:PySem.W.Frag}{G:Hp}{vs:List V}{x:D}(h:Dns K cl G vs [x]):∃v,vs=[v]∧Dn K cl G v x:=by
 cases h with|cons a t=>cases t;exact⟨_,rfl,a⟩
theorem Dns.two{K:PySem.W.Frag}{G:Hp}{vs:List V}{x y:D}(h:Dns K cl G vs [x,y]):∃v u,vs=[v,u]∧Dn K cl G v x∧Dn K cl G u y:=by
 cases h with|cons a t=>cases t with|cons b t=>cases t;exact⟨_,_,rfl,a,b⟩
theorem b_len:CallR X (.builtin "len") (rDs X.K cl (one (unD .len))):=by
 intro pins s σ H vs us Q I r ⟨G,xs,d,sg,dx,hg,q⟩
 obtain⟨x,rfl,hg⟩:=one_some hg
 obtain⟨v,rfl,da⟩:=dx.one
 cases x with
 |lst l=>
  cases hg
  cases da with|lst h1 h2=>
   refine call_len_seq pins s σ H _ us Q I r ⟨_,_,rfl,.inl (rl_mono sg h1).sql,?_⟩
   rw [h2.length];exact endS sg q (.int _)
 |tup l=>
  cases hg
  cases da with|tup h1 h2=>
   refine call_len_seq pins s σ H _ us Q I r ⟨_,_,rfl,.inr (.inl (.inl (sg _ _ h1))),?_⟩
   rw [h2.length];exact endS sg q (.int _)
 |str y=>
  have hg':(if sz y.length then some (D.int y.length)else none)=some d:=hg
  split at hg'
  ·rename_i hz
   cases hg';cases da
   exact call_len_str pins s σ H _ us Q I r ⟨_,rfl,sz_le hz,endS sg q (.int _)⟩
  ·cases hg'
 |_=>cases hg
theorem b_list:CallR X (.type "list") (rDs X.K cl (one (unD .list))):=by
 intro pins s σ H vs us Q I r ⟨G,xs,d,sg,dx,hg,q⟩
 obtain⟨x,rfl,hg⟩:=one_some hg
 obtain⟨v,rfl,da⟩:=dx.one
 cases x with
 |lst l=>
  cases hg
  cases da with|lst h1 h2=>
   exact call_list_of pins s σ H _ us Q I r ⟨_,_,rfl,.inl (rl_mono sg h1).sql,fun l hl=>endL sg q hl h2⟩
 |tup l=>
  cases hg
  cases da with|tup h1 h2=>
   exact call_list_of pins s σ H _ us Q I r ⟨_,_,rfl,.inr (.inl (.inl (sg _ _ h1))),fun l hl=>endL sg q hl h2⟩
 |_=>cases hg
theorem b_any(hc:X.calm=true):CallR X (.builtin "any") (rDs X.K cl (one (unD .any))):=by
 intro pins s σ H vs us Q I r ⟨G,xs,d,sg,dx,hg,q⟩
 obtain⟨x,rfl,hg1⟩:=one_some hg;clear hg
 obtain⟨v,rfl,da⟩:=dx.one
 cases x with
 |lst l=>
  obtain⟨ns,e1,hg⟩:=msi hg1;clear hg1
  have e1:=blsD_eq e1
  subst e1;subst hg
  cases da with|lst h1 h2=>
   have e2:=h2.bls
   subst e2
   exact call_any_bl hc pins s σ H _ us Q I r ⟨_,ns,rfl,(rl_mono sg h1).sql,endS sg q (.bl _)⟩
 |_=>cases hg1
theorem b_all(hc:X.calm=true):CallR X (.builtin "all") (rDs X.K cl (one (unD .all))):=by
 intro pins s σ H vs us Q I r ⟨G,xs,d,sg,dx,hg,q⟩
 obtain⟨x,rfl,hg1⟩:=one_some hg;clear hg
 obtain⟨v,rfl,da⟩:=dx.one
 cases x with
 |lst l=>
  obtain⟨ns,e1,hg⟩:=msi hg1;clear hg1
  have e1:=blsD_eq e1
  subst e1;subst hg
  cases da with|lst h1 h2=>
   have e2:=h2.bls
   subst e2
   exact call_all_bl hc pins s σ H _ us Q I r ⟨_,ns,rfl,(rl_mono sg h1).sql,endS sg q (.bl _)⟩
 |_=>cases hg1
theorem b_max(hc:X.calm=true):CallR X (.builtin "max") (rDs X.K cl (one (unD .max))):=by
 intro pins s σ H vs us Q I r ⟨G,xs,d,sg,dx,hg,q⟩
 obtain⟨x,rfl,hg1⟩:=one_some hg;clear hg
 obtain⟨v,rfl,da⟩:=dx.one
 cases x with
 |lst l=>
  obtain⟨ns,e1,hg⟩:=bsi hg1;clear hg1
  have e1:=intsD_eq e1
  subst e1
  obtain⟨m,e3,rfl⟩:=msi hg
  cases da with|lst h1 h2=>
   have e2:=h2.ints
   subst e2
   refine call_max_ints hc pins s σ H _ us Q I r ⟨_,ns,rfl,(rl_mono sg h1).sql,?_,fun M h1 h2=> ?_⟩
   ·cases ns with
    |nil=>cases e3
    |cons=>simp
   ·rw [maxL_unique e3 h1 h2];exact endS sg q (.int _)
 |_=>cases hg1
noncomputable def min2:D→D→Option D
 | .int i,.int j=>some (.int (if j<i then j else i))
 |_,_=>none
noncomputable def max2:D→D→Option D
 | .int i,.int j=>some (.int (if j>i then j else i))
 |_,_=>none
theorem b_min2(hc:X.calm=true):CallR X (.builtin "min") (rDs X.K cl (two min2)):=by
 intro pins s σ H vs us Q I r ⟨G,xs,d,sg,dx,hg,q⟩
 obtain⟨x,y,rfl,hg1⟩:=two_some hg;clear hg;have hg:=hg1;clear hg1
 obtain⟨v,u,rfl,da,db⟩:=dx.two
 unfold min2 at hg
 split at hg
 ·cases hg;cases da;cases db
  exact call_min2 hc pins s σ H _ us Q I r ⟨_,_,rfl,endS sg q (.int _)⟩
 ·cases hg
theorem b_max2(hc:X.calm=true):CallR X (.builtin "max") (rDs X.K cl (two max2)):=by
 intro pins s σ H vs us Q I r ⟨G,xs,d,sg,dx,hg,q⟩
 obtain⟨x,y,rfl,hg1⟩:=two_some hg;clear hg;have hg:=hg1;clear hg1
 obtain⟨v,u,rfl,da,db⟩:=dx.two
 unfold max2 at hg
 split at hg
 ·cases hg;cases da;cases db
  exact call_max2 hc pins s σ H _ us Q I r ⟨_,_,rfl,endS sg q (.int _)⟩
 ·cases hg
theorem un_negD:UnR X (unaryOp .USub) (rD1 X.K cl (unD .neg)):=by
 intro pins s σ H x v Q I rx ⟨G,a,d,sg,da,hg,q⟩
 cases a with
 |int i=>cases hg;cases da;exact un_neg pins s σ H _ v Q I rx ⟨_,rfl,endS sg q (.int _)⟩
 |_=>cases hg
noncomputable def tyS:Nat→String
 |0=>"int"|1=>"bool"|2=>"list"|3=>"tuple"|_=>"str"
noncomputable def tyD:D→Option String
 | .non=>some "NoneType"| .bl _=>some "bool"| .int _=>some "int"| .str _=>some "str"| .lst _=>some "list"| .tup _=>some "tuple"| .ins _ _ _=>none
noncomputable def isiB:D→Nat→Option Bool
 | .non,_=>some false
 | .bl _,0=>some true| .bl _,1=>some true| .bl _,_=>some false
 | .int _,0=>some true| .int _,_=>some false
 | .str _,0=>some false| .str _,1=>some false| .str _,2=>some false| .str _,3=>some false| .str _,_=>some true
 | .lst _,2=>some true| .lst _,_=>some false
 | .tup _,3=>some true| .tup _,_=>some false
 | .ins _ _ _,_=>none
theorem isiB_ok{d:D}{k:Nat}{b:Bool}(h:isiB d k=some b):∃t,tyD d=some t∧∀K:PySem.W.Frag,PySem.W.kitOne K (.type t) (.type (tyS k))=some b:=by
 rcases k with _|_|_|_|k<;>cases d<;>cases h<;>exact⟨_,rfl,fun K=>rfl⟩
noncomputable def TyR(K:PySem.W.Frag)(H:Hp)(x:V)(t:Value):Prop:=TyOf K H x t∨(t=.type "list"∧∃a xs,x=.ref a∧RL K H a xs)
theorem call_isinstR:CallR X (.builtin "isinstance") (fun xs H Q=>∃x T t b,xs=[x,.ty T]∧TyR X.K H x t∧PySem.W.kitOne X.K t (.type T)=some b∧Q (.bl b) H):=by
 intro pins s σ H xs us Q I r h
 obtain⟨x,T,t,b,rfl,ty,k,q⟩:=h
 rcases ty with ty|⟨rfl,a,ys,rfl,hr⟩
 ·exact call_isinst pins s σ H _ us Q I r ⟨x,T,t,b,rfl,ty,k,q⟩
 ·obtain⟨u,v,rfl,ru,rv⟩:=r.two
  cases (show v=Value.type T from rv)
  cases (show u=Value.ref a from ru)
  obtain⟨_,its,n,_,_,h1⟩:=rl_lst I hr
  exact PySem.W.kia_one PySem.W.kitx_list I.kIn ⟨_,h1,rfl⟩ k (fun z=>nomatch z) fun tk=>⟨.bl b,H,I.tok _,rfl,q⟩
theorem tyD_ok{K:PySem.W.Frag}{G H:Hp}{v:V}{d:D}{t:String}(h:Dn K cl G v d)(sg:Same G H)(e:tyD d=some t):TyR K H v (.type t):=by
 cases h with
 |non=>cases e;exact .inl .non
 |bl b=>cases e;exact .inl (.bl b)
 |int b=>cases e;exact .inl (.int b)
 |str b=>cases e;exact .inl (.str b)
 |lst h1 h2=>cases e;exact .inr ⟨rfl,_,_,rfl,rl_mono sg h1⟩
 |tup h1 h2=>cases e;exact .inl (.tup (sg _ _ h1))
 |ins=>cases e
end
end MI
end
noncomputable section
namespace MI
open PySem L2
inductive T where
 |sh(d:D)|ow(ts:List T)|ob(c:Nat)(ks:List Str)(ts:List T)
 deriving Inhabited
mutual
noncomputable def strip:T→D
 | .sh d=>d
 | .ow ts=> .lst (strips ts)
 | .ob c ks ts=> .ins c ks (strips ts)
noncomputable def strips:List T→List D
 |[]=>[]
 |t::r=>strip t::strips r
end
theorem strips_map(ts:List T):strips ts=ts.map strip:=by
 induction ts with
 |nil=>rfl
 |cons t r ih=>simp [strips,ih]
mutual
inductive OT(K:PySem.W.Frag)(cl:Nat→Option Addr)(G H:Hp):V→T→List Addr→Prop where
 |sh {v:V} {d:D}:Dn K cl G v d→OT K cl G H v (.sh d) []
 |ow {a:Addr} {xs:List V} {ts:List T} {A:List Addr}:H a=some (.lst xs)→G a=none→OTs K cl G H xs ts A→OT K cl G H (.ref a) (.ow ts) (a::A)
 |ob {a C dx:Addr} {c:Nat} {ks:List Str} {vfs:List (Str×V)} {ts:List T} {A:List Addr}:H a=some (.ins C dx vfs)→H dx=some (.own a)→cl c=some C→vfs.map (·.1)=ks→G a=none→G dx=none→OTs K cl G H (vfs.map (·.2)) ts A→OT K cl G H (.ref a) (.ob c ks ts) (a::dx::A)
inductive OTs(K:PySem.W.Frag)(cl:Nat→Option Addr)(G H:Hp):List V→List T→List Addr→Prop where
 |nil:OTs K cl G H [] [] []
 |cons {x:V} {t:T} {xs:List V} {ts:List T} {A B:List Addr}:OT K cl G H x t A→OTs K cl G H xs ts B→OTs K cl G H (x::xs) (t::ts) (A++B)
end
section
variable{K:PySem.W.Frag}{cl:Nat→Option Addr}{G G' H H':Hp}
mutual
theorem OT.move(hg:Same G G'):∀ {v:V} {t:T} {A:List Addr},OT K cl G H v t A→(∀a∈A,G' a=none)→(∀a∈A,∀o,H a=some o→H' a=some o)→OT K cl G' H' v t A
 |_,_,_,.sh h,_,_=> .sh (h.mono hg)
 |_,_,_,.ow h1 h2 h3,f,k=> .ow (k _ (by simp) _ h1) (f _ (by simp)) (OTs.move hg h3 (fun a ha=>f a (by simp [ha])) fun a ha=>k a (by simp [ha]))
 |_,_,_,.ob h1 h2 h3 h4 h5 h6 h7,f,k=> .ob (k _ (by simp) _ h1) (k _ (by simp) _ h2) h3 h4 (f _ (by simp)) (f _ (by simp)) (OTs.move hg h7 (fun a ha=>f a (by simp [ha])) fun a ha=>k a (by simp [ha]))
theorem OTs.move(hg:Same G G'):∀ {vs:List V} {ts:List T} {A:List Addr},OTs K cl G H vs ts A→(∀a∈A,G' a=none)→(∀a∈A,∀o,H a=some o→H' a=some o)→OTs K cl G' H' vs ts A
 |_,_,_,.nil,_,_=> .nil
 |_,_,_,.cons h hs,f,k=> .cons (OT.move hg h (fun a ha=>f a (by simp [ha])) fun a ha=>k a (by simp [ha])) (OTs.move hg hs (fun a ha=>f a (by simp [ha])) fun a ha=>k a (by simp [ha]))
end
mutual
theorem OT.free:∀ {v:V} {t:T} {A:List Addr},OT K cl G H v t A→∀a∈A,G a=none∧∃o,H a=some o
 |_,_,_,.sh h,a,ha=>absurd ha (by simp)
 |_,_,_,.ow h1 h2 h3,b,hb=>by
  rcases List.mem_cons.mp hb with rfl|hb
  ·exact⟨h2,_,h1⟩
  ·exact OTs.free h3 b hb
 |_,_,_,.ob h1 h2 h3 h4 h5 h6 h7,b,hb=>by
  rcases List.mem_cons.mp hb with rfl|hb
  ·exact⟨h5,_,h1⟩
  ·rcases List.mem_cons.mp hb with rfl|hb
   ·exact⟨h6,_,h2⟩
   ·exact OTs.free h7 b hb
theorem OTs.free:∀ {vs:List V} {ts:List T} {A:List Addr},OTs K cl G H vs ts A→∀a∈A,G a=none∧∃o,H a=some o
 |_,_,_,.nil,a,ha=>absurd ha (by simp)
 |_,_,_,.cons h hs,a,ha=>(List.mem_append.mp ha).elim (OT.free h a) (OTs.free hs a)
end
theorem OTs.length:∀ {vs:List V} {ts:List T} {A:List Addr},OTs K cl G H vs ts A→vs.length=ts.length
 |_,_,_,.nil=>rfl
 |_,_,_,.cons _ t=>by simp [OTs.length t]
theorem OTs.shs:∀ {vs:List V} {ds:List D},Dns K cl G vs ds→OTs K cl G H vs (ds.map T.sh) []
 |_,_,.nil=> .nil
 |_,_,.cons h t=> .cons (A:=[]) (B:=[]) (.sh h) (OTs.shs t)
theorem OTs.unsh:∀ {vs:List V} {ds:List D} {A:List Addr},OTs K cl G H vs (ds.map T.sh) A→Dns K cl G vs ds∧A=[]
 |_,[],_,.nil=>⟨.nil,rfl⟩
 |_,d::r,_,.cons (.sh h) t=>by
  obtain⟨a,b⟩:=OTs.unsh t
  exact⟨.cons h a,by rw [b];rfl⟩
structure Frz(G G' H:Hp)(A:List Addr):Prop where
 gg:Same G G'
 gh:Same G' H
 on:∀b,b∉A→G' b=G b
mutual
theorem OT.freeze:∀ {G:Hp} {v:V} {t:T} {A:List Addr},Same G H→OT K cl G H v t A→A.Nodup→∃G',Frz G G' H A∧Dn K cl G' v (strip t)
 |G,_,_,_,sg,.sh h,_=>⟨G,⟨.refl _,sg,fun _ _=>rfl⟩,h⟩
 |G,_,_,_,sg,@OT.ow _ _ _ _ a xs ts A h1 h2 h3,nd=>by
  obtain⟨na,nd'⟩:=List.nodup_cons.mp nd
  obtain⟨G1,f1,d1⟩:=OTs.freeze sg h3 nd'
  have e1:G1 a=none:=by rw [f1.on a na];exact h2
  have s1:Same G1 (upd G1 a (.lst xs)):=same_upd e1 _
  refine⟨upd G1 a (.lst xs),⟨f1.gg.trans s1,fun b o q=> ?_,fun b hb=> ?_⟩,?_⟩
  ·by_cases e:b=a
   ·subst e;rw [upd_same]at q;cases q;exact h1
   ·rw [upd_ne e]at q;exact f1.gh _ _ q
  ·rw [upd_ne (fun e=>hb (by simp [e]))]
   exact f1.on b fun z=>hb (by simp [z])
  ·show Dn K cl _ _ (.lst (strips ts))
   exact .lst (.inl (.inl upd_same)) (d1.mono s1)
 |G,_,_,_,sg,@OT.ob _ _ _ _ a C dx c ks vfs ts A h1 h2 h3 h4 h5 h6 h7,nd=>by
  obtain⟨na,nd'⟩:=List.nodup_cons.mp nd
  obtain⟨nx,nd'⟩:=List.nodup_cons.mp nd'
  obtain⟨nax,na⟩:a≠dx∧a∉A:=⟨fun e=>na (by simp [e]),fun e=>na (by simp [e])⟩
  obtain⟨G1,f1,d1⟩:=OTs.freeze sg h7 nd'
  have e1:G1 a=none:=by rw [f1.on a na];exact h5
  have e2:G1 dx=none:=by rw [f1.on dx nx];exact h6
  have s1:Same G1 (upd G1 a (.ins C dx vfs)):=same_upd e1 _
  have e3:upd G1 a (.ins C dx vfs) dx=none:=by rw [upd_ne (Ne.symm nax)];exact e2
  have s2:Same (upd G1 a (.ins C dx vfs)) (upd (upd G1 a (.ins C dx vfs)) dx (.own a)):=same_upd e3 _
  refine⟨upd (upd G1 a (.ins C dx vfs)) dx (.own a),⟨f1.gg.trans (s1.trans s2),fun b o q=> ?_,fun b hb=> ?_⟩,?_⟩
  ·by_cases e:b=dx
   ·subst e;rw [upd_same]at q;cases q;exact h2
   ·rw [upd_ne e]at q
    by_cases e:b=a
    ·subst e;rw [upd_same]at q;cases q;exact h1
    ·rw [upd_ne e]at q;exact f1.gh _ _ q
  ·rw [upd_ne (fun e=>hb (by simp [e])),upd_ne (fun e=>hb (by simp [e]))]
   exact f1.on b fun z=>hb (by simp [z])
  ·show Dn K cl _ _ (.ins c ks (strips ts))
   exact .ins (by rw [upd_ne nax];exact upd_same) h3 h4 (d1.mono (s1.trans s2))
theorem OTs.freeze:∀ {G:Hp} {vs:List V} {ts:List T} {A:List Addr},Same G H→OTs K cl G H vs ts A→A.Nodup→∃G',Frz G G' H A∧Dns K cl G' vs (strips ts)
 |G,_,_,_,sg,.nil,_=>⟨G,⟨.refl _,sg,fun _ _=>rfl⟩,.nil⟩
 |G,_,_,_,sg,@OTs.cons _ _ _ _ x t xs ts A B h hs,nd=>by
  obtain⟨n1,n2,n3⟩:=List.nodup_append.mp nd
  obtain⟨G1,f1,d1⟩:=OT.freeze sg h n1
  have hs':OTs K cl G1 H xs ts B:=OTs.move f1.gg hs (fun a ha=>by
   rw [f1.on a (fun z=>n3 a z a ha rfl)];exact(hs.free a ha).1) fun _ _ _ q=>q
  obtain⟨G2,f2,d2⟩:=OTs.freeze f1.gh hs' n2
  refine⟨G2,⟨f1.gg.trans f2.gg,f2.gh,fun b hb=> ?_⟩,.cons (d1.mono f2.gg) d2⟩
  rw [f2.on b (fun z=>hb (List.mem_append_right _ z)),f1.on b (fun z=>hb (List.mem_append_left _ z))]
end
theorem Frz.ext{A:List Addr}{H0 G0:Hp}(f:Frz G G' H A)(e:Ext H0 G0 H G)(n:∀a∈A,H0 a=none):Ext H0 G0 H G':=
 ⟨e.hh,e.gg.trans f.gg,f.gh,fun b o h1 h2=>by
   by_cases hb:b∈A
   ·exact n b hb
   ·rw [f.on b hb]at h1;exact e.nw b o h1 h2⟩
theorem OT.see{v:V}{t:T}{A:List Addr}(sg:Same G H)(h:OT K cl G H v t A)(nd:A.Nodup):Dn K cl H v (strip t):=by
 obtain⟨G',f,d⟩:=h.freeze sg nd
 exact d.mono f.gh
end
noncomputable def spP(K:PySem.W.Frag)(cl:Nat→Option Addr)(g:List D→Option T):Sp:=fun vs H Q _=>∃G ds t,Same G H∧Dns K cl G vs ds∧g ds=some t∧∀v H' G' A,Ext H G H' G'→OT K cl G' H' v t A→A.Nodup→(∀a∈A,H a=none)→Q v H'
theorem spP_sh{K:PySem.W.Frag}{cl:Nat→Option Addr}{g:List D→Option T}{vs:List V}{H:Hp}{Q:VK}{E:XK}(h:∃G ds t,Same G H∧Dns K cl G vs ds∧g ds=some t∧∀v H' G',Ext H G H' G'→Dn K cl G' v (strip t)→Q v H'):spP K cl g vs H Q E:=by
 obtain⟨G,ds,t,sg,dn,hg,q⟩:=h
 refine⟨G,ds,t,sg,dn,hg,fun v H' G' A e o nd n=> ?_⟩
 obtain⟨G2,f,d⟩:=o.freeze e.gh nd
 exact q v H' G2 (f.ext e n) d
end MI
end
noncomputable section
namespace MI
open PySem L2
inductive E where
 |var(i:Nat)|int(i:Int)|bl(b:Bool)|non|str(x:Str)
 |bin(op:Operator)(a b:E)|un(f:U)(a:E)|not(a:E)
 |cmp(op:CmpOp)(a b:E)|ch(op op':CmpOp)(a b c:E)|ch3(o1 o2 o3:CmpOp)(a b c d:E)
 |and(a b:E)|or(a b:E)|ite(c a b:E)
 |idx(a b:E)|cut(a lo hi:E)|rev(a:E)
 |lst(es:E)|tup(es:E)
 |mn(a b:E)|mx(a b:E)|isi(a:E)(k:Nat)
 |comp(elt:E)(is:List Nat)(it c:E)
 |rng(a:E)|rng2(a b:E)|dn(a:E)|mxd(a d:E)|ind(a b:E)|enm(a:E)|zp(a b:E)|rvd(a:E)
 |call(f:Nat)(args:E)
 |fld(a:E)(f:Str)
 |meth(o:E)(k:Nat)(args:E)
 |isc(a:E)(j:Nat)
 |nil|cons(a r:E)
noncomputable abbrev Env:=List (Option D)
noncomputable abbrev Tab:=Nat→Option (List D→Option T)
noncomputable def truthD:D→Option Bool
 | .bl b=>some b
 | .int i=>some (i !=0)
 |_=>none
noncomputable def oc:Option D→List D→List D
 |some y,l=>y::l
 |none,l=>l
noncomputable def compR(f:D→Option (Option D)):List D→Option (List D)
 |[]=>some []
 |d::r=>(f d).bind fun o=>(compR f r).map fun l=>oc o l
noncomputable def rngD(lo hi:Int):Option (List D):=if decide (-(2 ^ 60)≤lo∧lo≤2 ^ 60∧-(2 ^ 60)≤hi∧hi≤2 ^ 60)then some ((List.range (hi-lo).toNat).map fun(i:Nat)=>D.int (lo+i))else none
noncomputable def enumD(k:Nat):List D→List D
 |[]=>[]
 |d::r=> .tup [.int k,d]::enumD (k+1) r
noncomputable def zipD:List D→List D→List D
 |a::r,b::t=> .tup [a,b]::zipD r t
 |_,_=>[]
noncomputable def inner(env:Env)(is:List Nat)(d:D):Env:=some d::is.map fun k=>(env[k]?).join
noncomputable def consD(x:D):D→Option D
 | .lst l=>some (.lst (x::l))
 |_=>none
noncomputable def isRng:E→Bool
 | .rng _=>true
 | .rng2 _ _=>true
 | .dn _=>true
 |_=>false
noncomputable def noR(o:Option E):Option E:=o.bind fun m=>if isRng m then none else some m
noncomputable def isNil:E→Bool
 | .nil=>true
 |_=>false
noncomputable def optS(m:E)(o:Option D):Option (Option Int):=if isNil m then some none else match o with
 |some (.int i)=>some (some i)
 |_=>none
noncomputable def cS(m:E)(o:Option D):Option Bool:=if isNil m then some true else o.bind truthD
noncomputable def listD:D→Option (List D)
 | .lst l=>some l
 |_=>none
noncomputable def walkD:D→Option (List D)
 | .lst l=>some l
 | .tup l=>some l
 |_=>none
noncomputable def notD:D→Option D
 | .bl b=>some (.bl (!b))
 |_=>none
noncomputable def szL:D→Option D
 | .lst l=>if sz l.length then some (.lst l)else none
 |_=>none
noncomputable def szT:D→Option D
 | .lst l=>if sz l.length then some (.tup l)else none
 |_=>none
noncomputable def rng2D:D→D→Option D
 | .int n,.int m=>(rngD n m).map .lst
 |_,_=>none
noncomputable def mxL(d:Int)(ns:List Int):Int:=(maxL ns).getD d
noncomputable def mxdD:D→D→Option D
 | .lst l,.int d=>(intsD l).map fun ns=> .int (mxL d ns)
 |_,_=>none
noncomputable def indD:D→D→Option D
 | .lst l,.int k=>(intsD l).bind fun ns=>if PyData.layable0 (.list (ns.map .int))&&ns.contains k then some (.int (ns.idxOf k:Nat))else none
 |_,_=>none
noncomputable def enmD:D→Option D
 | .lst l=>some (.lst (enumD 0 l))
 |_=>none
noncomputable def zpD:D→D→Option D
 | .lst l,.lst m=>if l.length=m.length then some (.lst (zipD l m))else none
 |_,_=>none
noncomputable def ifB(z:D)(a b:Option D):Option D:=match z with
 | .bl true=>a
 | .bl false=>b
 |_=>none
noncomputable def fldD(f:Str):D→Option D
 | .ins _ ks ds=>(ks.zip ds).lookup f
 |_=>none
noncomputable def subC(c j:Nat):Bool:=c==j||(j==0&&decide (1≤c∧c≤4))
noncomputable def iscD(j:Nat):D→Option D
 | .ins c _ _=>some (.bl (subC c j))
 |_=>none
noncomputable def MTH:List Str:=["shows","unmark","ahead","place_behind"]
noncomputable def mid(c k:Nat):Nat:=1000+10*c+k
noncomputable def metG(Γ:Tab)(k:Nat):D→Option (List D→Option T)
 | .ins c ks _=>if ks.contains (MTH.getD k "")then none else Γ (mid c k)
 |_=>none
noncomputable def ev(Γ:Tab):E→Env→Option D
 | .var i,env=>(env[i]?).join
 | .int i,_=>some (.int i)
 | .bl b,_=>some (.bl b)
 | .non,_=>some .non
 | .str x,_=>some (.str x)
 | .bin op a b,env=>(ev Γ a env).bind fun x=>(ev Γ b env).bind fun y=>binD op x y
 | .un f a,env=>(ev Γ a env).bind (unD f)
 | .not a,env=>(ev Γ a env).bind notD
 | .cmp op a b,env=>(ev Γ a env).bind fun x=>(ev Γ b env).bind fun y=>cmpD op x y
 | .ch o1 o2 a b c,env=>(ev Γ a env).bind fun x=>(ev Γ b env).bind fun y=>(cmpD o1 x y).bind fun z=>ifB z ((ev Γ c env).bind fun w=>cmpD o2 y w) (some (.bl false))
 | .ch3 o1 o2 o3 a b c d,env=>(ev Γ a env).bind fun x=>(ev Γ b env).bind fun y=>(cmpD o1 x y).bind fun z=>ifB z ((ev Γ c env).bind fun w=>(cmpD o2 y w).bind fun z2=>ifB z2 ((ev Γ d env).bind fun w2=>cmpD o3 w w2) (some (.bl false))) (some (.bl false))
 | .and a b,env=>(ev Γ a env).bind fun x=>ifB x (ev Γ b env) (some (.bl false))
 | .or a b,env=>(ev Γ a env).bind fun x=>ifB x (some (.bl true)) (ev Γ b env)
 | .ite c a b,env=>((ev Γ c env).bind truthD).bind fun x=>if x then ev Γ a env else ev Γ b env
 | .idx a b,env=>(ev Γ a env).bind fun x=>(ev Γ b env).bind fun y=>idxD x y
 | .cut a lo hi,env=>(ev Γ a env).bind fun x=>(optS lo (ev Γ lo env)).bind fun l=>(optS hi (ev Γ hi env)).bind fun h=>cutD x l h
 | .rev a,env=>(ev Γ a env).bind revD
 | .lst es,env=>(ev Γ es env).bind szL
 | .tup es,env=>(ev Γ es env).bind szT
 | .mn a b,env=>(ev Γ a env).bind fun x=>(ev Γ b env).bind fun y=>min2 x y
 | .mx a b,env=>(ev Γ a env).bind fun x=>(ev Γ b env).bind fun y=>max2 x y
 | .isi a k,env=>(ev Γ a env).bind fun x=>(isiB x k).map .bl
 | .comp elt is it c,env=>((ev Γ it env).bind walkD).bind fun ds=>if sz ds.length then(compR (fun d=>(cS c (ev Γ c (inner env is d))).bind fun b=>if b then(ev Γ elt (inner env is d)).map some else some none) ds).map .lst else none
 | .call f args,env=>(Γ f).bind fun g=>((ev Γ args env).bind listD).bind fun l=>(g l).map strip
 | .rng a,env=>(ev Γ a env).bind fun x=>rng2D (.int 0) x
 | .rng2 a b,env=>(ev Γ a env).bind fun x=>(ev Γ b env).bind fun y=>rng2D x y
 | .dn a,env=>(ev Γ a env).bind (unD .ldn)
 | .mxd a d,env=>(ev Γ a env).bind fun x=>(ev Γ d env).bind fun y=>mxdD x y
 | .ind a b,env=>(ev Γ a env).bind fun x=>(ev Γ b env).bind fun y=>indD x y
 | .enm a,env=>(ev Γ a env).bind enmD
 | .zp a b,env=>(ev Γ a env).bind fun x=>(ev Γ b env).bind fun y=>zpD x y
 | .rvd a,env=>(ev Γ a env).bind revD
 | .fld a f,env=>(ev Γ a env).bind (fldD f)
 | .meth o k args,env=>(ev Γ o env).bind fun x=>(metG Γ k x).bind fun g=>((ev Γ args env).bind listD).bind fun l=>(g (x::l)).map strip
 | .isc a j,env=>(ev Γ a env).bind (iscD j)
 | .nil,_=>some (.lst [])
 | .cons a r,env=>(ev Γ a env).bind fun x=>(ev Γ r env).bind fun y=>consD x y
noncomputable def evB(Γ:Tab)(e:E)(env:Env):Option Bool:=(ev Γ e env).bind truthD
noncomputable def evs(Γ:Tab)(e:E)(env:Env):Option (List D):=(ev Γ e env).bind listD
noncomputable def its(Γ:Tab)(e:E)(env:Env):Option (List D):=(ev Γ e env).bind walkD
example (Γ:Tab) (a b:E) (env:Env):ev Γ (.idx a b) env=(ev Γ a env).bind fun x=>(ev Γ b env).bind fun y=>idxD x y:=rfl
end MI
end
noncomputable section
namespace MI
open PySem L2
structure CC where
 tab:List (Str×Nat)
 gi:List (Str×Int)
 cn:List (Str×Nat):=[]
noncomputable def nIdx:List Str→Str→Option Nat
 |[],_=>none
 |y::r,x=>if y==x then some 0 else(nIdx r x).map (· +1)
theorem nIdx_get:∀ {N:List Str} {x:Str} {i:Nat},nIdx N x=some i→N[i]?=some x
 |[],_,_,h=>by cases h
 |y::r,x,i,h=>by
  unfold nIdx at h
  split at h
  ·rename_i e
   cases h
   rw [show y=x by simpa using e];rfl
  ·obtain⟨j,e,rfl⟩:=msi h
   simpa using nIdx_get e
noncomputable def okE:Expr→Bool
 | .Starred _ _=>false
 | .Set _ _ _=>false
 | .Slice _ _ _ _=>false
 | .Lambda _ _ _ _=>false
 |_=>true
noncomputable def okT:Expr→Bool
 | .IfExp _ _ _ _=>false
 |_=>true
noncomputable def okN(x:Str):Bool:= !(x==("__debug__":Str))&& !(x==("__classdict__":Str))&& !(x==("__name__":Str))
noncomputable def FLD:List Str:=["pairs","rings","things","moves","falls","counts"]
noncomputable def attrOk:Expr→Bool
 | .Call (.Name _ _) [] [] _=>false
 |_=>true
noncomputable def BLT:List Str:=["len","list","range","sorted","any","all","min","max","isinstance","int","bool","tuple","str","set","enumerate","zip","reversed","sum"]
noncomputable def tyCode(x:Str):Option Nat:=if x==("int":Str)then some 0 else if x==("bool":Str)then some 1 else if x==("list":Str)then some 2 else if x==("tuple":Str)then some 3 else if x==("str":Str)then some 4 else none
noncomputable def cList(f:Expr→Option E):List Expr→Option E
 |[]=>some .nil
 |e::r=>(f e).bind fun m=>(cList f r).map fun l=> .cons m l
noncomputable def cAnd(f:Expr→Option E):List Expr→Option E
 |[]=>none
 |[a]=>if okT a then f a else none
 |a::b::r=>if okT a then(f a).bind fun m=>(cAnd f (b::r)).map fun l=> .and m l else none
noncomputable def cOr(f:Expr→Option E):List Expr→Option E
 |[]=>none
 |[a]=>if okT a then f a else none
 |a::b::r=>if okT a then(f a).bind fun m=>(cOr f (b::r)).map fun l=> .or m l else none
noncomputable def isGl(N:List Str)(sc:Scope)(x:Str):Bool:=okN x&&(nIdx N x).isNone&&decide (sc.names.lookup x=some .globalImplicit)
noncomputable def isM1(o:Option E):Bool:=match o with
 |some (.un .neg (.int 1))=>true
 |_=>false
noncomputable def cB(g:Str→Bool)(cn:Str→Option Nat)(f:Expr→Option E)(x:Str):List Expr→Option E
 |[a]=>
  if x==("len":Str)then(match a with
   | .Call (.Name y _) [b] [] _=>if g y&&(y==("set":Str))&&okE b then(f b).map (.un .lset)else(f a).map (.un .len)
   |_=>(f a).map (.un .len))
  else if x==("list":Str)then(match a with
   | .Call (.Name y _) [b] [] _=>if g y&&(y==("range":Str))&&okE b then(f b).map (.un .lrng)else(f a).map (.un .list)
   | .Call (.Name y _) [b,s1,s2] [] _=>if g y&&(y==("range":Str))&&(okE b&&okE s1&&okE s2)&&isM1 (f s1)&&isM1 (f s2)then(f b).map (.un .ldn)else(f a).map (.un .list)
   |_=>(f a).map (.un .list))
  else if x==("any":Str)then(f a).map (.un .any)
  else if x==("all":Str)then(f a).map (.un .all)
  else if x==("max":Str)then(f a).map (.un .max)
  else none
 |[a,b]=>
  if x==("min":Str)then(f a).bind fun m=>(f b).map fun l=> .mn m l
  else if x==("max":Str)then(f a).bind fun m=>(f b).map fun l=> .mx m l
  else if x==("isinstance":Str)then(match b with
   | .Name t _=>(match cn t with
     |some j=>(f a).map fun m=> .isc m j
     |none=>if g t then(tyCode t).bind fun k=>(f a).map fun m=> .isi m k else none)
   |_=>none)
  else none
 |_=>none
noncomputable def cI(tt:Bool)(g:Str→Bool)(own:Str→Bool)(f:Expr→Option E)(e:Expr):Option E:=match e with
 | .Call (.Name x _) [a] [] _=>
   if g x&& !own x&&(x==("range":Str))&&okE a then(f a).map .rng
   else if tt&&g x&& !own x&&(x==("enumerate":Str))&&okE a then(f a).map .enm
   else if g x&& !own x&&(x==("reversed":Str))&&okE a then(f a).map .rvd
   else noR (f e)
 | .Call (.Name x _) [a,b] [] _=>
   if g x&& !own x&&(x==("range":Str))&&(okE a&&okE b)then(f a).bind fun m=>(f b).map fun l=> .rng2 m l
   else noR (f e)
 | .Call (.Name x _) [a,s1,s2] [] _=>
   if g x&& !own x&&(x==("range":Str))&&(okE a&&okE s1&&okE s2)&&isM1 (f s1)&&isM1 (f s2)then(f a).map .dn
   else noR (f e)
 |_=>noR (f e)
noncomputable def frees(names:List (Str×NameKind)):List Str:=names.filterMap fun y=>if y.2=.free then some y.1 else none
noncomputable def slotsOf(N:List Str):List Str→Option (List Nat)
 |[]=>some []
 |x::r=>(nIdx N x).bind fun i=>(slotsOf N r).map fun l=>i::l
noncomputable def compOk(sc:Scope)(N:List Str)(scope:Scope)(x:Str)(fr:List Str)(is:List Nat):Bool:=
 decide (scope.kind=.function∧(∀y∈scope.names,y.2≠.cell)∧(∀y∈scope.names,y.2=.local→scope.names.lookup y.1=some .local)∧scope.names.lookup x=some .local∧(x::fr).Nodup∧
  (∀y∈scope.names,y.2=.free→sc.names.lookup y.1=some .cell∨sc.names.lookup y.1=some .free)∧(∀n∈fr,scope.names.lookup n=some .free)∧(is.map fun k=>N[k]?)=fr.map some)
theorem compOk_ok{sc:Scope}{N:List Str}{scope:Scope}{x:Str}{fr:List Str}{is:List Nat}(h:compOk sc N scope x fr is=true):CompScope sc N scope x fr is:=by
 obtain⟨h1,h2,h3,h4,h5,h6,h7,h8⟩:=of_decide_eq_true h
 exact⟨h1,h2,h3,h4,h5,h6,h7,h8⟩
noncomputable def cOpt(f:Expr→Option E):Option Expr→Option E
 |none=>some .nil
 |some e=>if okE e then(f e).bind fun m=>if isNil m then none else some m else none
noncomputable def cIfs(f:Expr→Option E):List Expr→Option E
 |[]=>some .nil
 |[t]=>if okT t then(f t).bind fun m=>if isNil m then none else some m else none
 |_=>none
noncomputable def okOp:CmpOp→Bool
 | .In=>true| .NotIn=>true| .Lt=>true| .LtE=>true| .Gt=>true| .GtE=>true| .Eq=>true| .NotEq=>true|_=>false
noncomputable def cNa(c:CC)(N:List Str)(sc:Scope)(x:Str):Option E:=if okN x then(match nIdx N x with
 |some i=>some (.var i)
 |none=>if sc.names.lookup x=some .globalImplicit then(c.gi.lookup x).map .int else none)else none
noncomputable def cCo:Const→Option E
 | .int i=>some (.int i)
 | .bool b=>some (.bl b)
 | .none=>some .non
 | .str x=>some (.str x)
 |_=>none
noncomputable def cUn(r:Expr→Option E)(a:Expr):UnaryOp→Option E
 | .USub=>(r a).map (.un .neg)
 | .Not=>if okT a then(r a).map .not else none
 |_=>none
noncomputable def cCm(r:Expr→Option E)(a:Expr):List CmpOp→List Expr→Option E
 |[op],[b]=>if okE b then(r a).bind fun m=>(r b).map fun l=> .cmp op m l else none
 |[op,op'],[b,d]=>if okE b&&okE d then(r a).bind fun m=>(r b).bind fun l=>(r d).map fun k=> .ch op op' m l k else none
 |_,_=>none
noncomputable def cBo(r:Expr→Option E)(vs:List Expr):BoolOp→Option E
 | .And=>if 2≤vs.length then cAnd r vs else none
 | .Or=>if 2≤vs.length then cOr r vs else none
noncomputable def cCn(c:CC)(N:List Str)(sc:Scope)(r:Expr→Option E)(x:Str)(args:List Expr):Option E:=if args.all okE&&isGl N sc x then(match c.tab.lookup x with
 |some f=>if args.isEmpty then none else(cList r args).map (.call f)
 |none=>cB (fun y=>isGl N sc y&&(c.tab.lookup y).isNone) (fun y=>if isGl N sc y then c.cn.lookup y else none) r x args)else none
noncomputable def nmOf:Expr→Option Str
 | .Name x _=>some x
 |_=>none
noncomputable def isBm(apos cpos:Pos):Bool:=apos.endLine==cpos.line
noncomputable def cAtt:Expr→Option (Str×Pos×Str×Pos)
 | .Attribute (.Name x p) m q=>some (x,p,m,q)
 |_=>none
noncomputable def varOf:E→Option Nat
 | .var i=>some i
 |_=>none
noncomputable def cMe(r:Expr→Option E)(pos:Pos)(o:Str×Pos×Str×Pos)(args:List Expr):Option E:=if args.all okE&& !args.isEmpty&&isBm o.2.2.2 pos&&decide (args.length<30)then(nIdx MTH o.2.2.1).bind fun k=>((r (.Name o.1 o.2.1)).bind varOf).bind fun i=>(cList r args).map fun ml=> .meth (.var i) k ml else none
noncomputable def cIx(r:Expr→Option E)(pos:Pos)(o:Str×Pos×Str×Pos):List Expr→Option E
 |[a]=>if okE a&&isBm o.2.2.2 pos then((r (.Name o.1 o.2.1)).bind fun mo=>(r a).map fun ma=> .ind mo ma)else none
 |_=>none
noncomputable def cKw(c:CC)(N:List Str)(sc:Scope)(r:Expr→Option E)(k:Option Str)(d:Expr)(f:Expr):List Expr→Option E
 |[a]=>(nmOf f).bind fun x=>if decide (k=some ("default":Str))&&(x==("max":Str))&&isGl N sc x&&(c.tab.lookup x).isNone&&okE a then(r a).bind fun m=>(r d).map fun l=> .mxd m l else none
 |_=>none
noncomputable def cCa(c:CC)(N:List Str)(sc:Scope)(r:Expr→Option E)(pos:Pos)(f:Expr)(args:List Expr):List Keyword→Option E
 |[]=>(match cAtt f with
  |some om=>if om.2.2.1==("index":Str)then cIx r pos om args else cMe r pos om args
  |none=>(nmOf f).bind fun x=>cCn c N sc r x args)
 |[⟨k,d,_⟩]=>cKw c N sc r k d f args
 |_=>none
noncomputable def cSl(r:Expr→Option E)(m:E)(lo hi:Option Expr):Option Expr→Option E
 |none=>(cOpt r lo).bind fun ml=>(cOpt r hi).map fun mh=> .cut m ml mh
 |some st=>if lo.isNone&&hi.isNone then(match r st with
  |some (.un .neg (.int 1))=>some (.rev m)
  |_=>none)else none
noncomputable def cSu(r:Expr→Option E)(m:E)(e:Expr):Option E:=match e with
 | .Slice lo hi st _=>cSl r m lo hi st
 |_=>if okE e then(r e).map fun l=> .idx m l else none
noncomputable def cLc(c:CC)(N:List Str)(sc:Scope)(r:Expr→Option E)(q:List Str→Expr→Option E)(elt:Expr)(scope:Scope):List Comprehension→Option E
 |[⟨.Name x _,iter,ifs,0⟩]=>
  if okE iter then(slotsOf N (frees scope.names)).bind fun is=>if compOk sc N scope x (frees scope.names) is then
   (cI false (isGl N sc) (fun y=>(c.tab.lookup y).isSome) r iter).bind fun mi=>
   (q (x::frees scope.names) elt).bind fun me=>(cIfs (q (x::frees scope.names)) ifs).map fun mc=> .comp me is mi mc
  else none else none
 |_=>none
noncomputable def cE(c:CC):Nat→Bool→List Str→Scope→Expr→Option E
 |0,_,_,_,_=>none
 |n+1,top,N,sc,e=>match e with
  | .Name x _=>cNa c N sc x
  | .Constant k _ _=>cCo k
  | .BinOp a op b _=>(cE c n top N sc a).bind fun m=>(cE c n top N sc b).map fun l=> .bin op m l
  | .UnaryOp op a _=>cUn (cE c n top N sc) a op
  | .Compare a ops bs _=>cCm (cE c n top N sc) a ops bs
  | .BoolOp op vs _=>cBo (cE c n top N sc) vs op
  | .IfExp t a b _=>if okT t then(cE c n top N sc t).bind fun k=>(cE c n top N sc a).bind fun m=>(cE c n top N sc b).map fun l=> .ite k m l else none
  | .Call f args ks pos=>cCa c N sc (cE c n top N sc) pos f args ks
  | .Subscript a b _=>(cE c n top N sc a).bind fun m=>cSu (cE c n top N sc) m b
  | .List es _=>if es.all okE then(cList (cE c n top N sc) es).map .lst else none
  | .Attribute a f _=>if FLD.contains f&&attrOk a then(cE c n top N sc a).map (.fld · f)else none
  | .Tuple es _ _=>if es.all okE then(cList (cE c n top N sc) es).map .tup else none
  | .ListComp elt gs scope _=>if top then cLc c N sc (cE c n top N sc) (fun N' e=>cE c n false N' scope e) elt scope gs else none
  |_=>none
end MI
end
noncomputable section
namespace MI
open PySem L2
noncomputable def EnvD(K:PySem.W.Frag)(cl:Nat→Option Addr)(G:Hp)(env:Env)(σ:St):Prop:=∀(i:Nat) (d:D),env[i]?=some (some d)→∃v,σ[i]?=some (some v)∧Dn K cl G v d
theorem EnvD.mono{K:PySem.W.Frag}{cl:Nat→Option Addr}{G G':Hp}{env:Env}{σ:St}(h:EnvD K cl G env σ)(e:Same G G'):EnvD K cl G' env σ:=fun i d q=>let ⟨v,a,b⟩:=h i d q;⟨v,a,b.mono e⟩
theorem EnvD.inner{K:PySem.W.Frag}{cl:Nat→Option Addr}{G:Hp}{env:Env}{σ:St}(h:EnvD K cl G env σ){d:D}{v:V}(hv:Dn K cl G v d)(is:List Nat):EnvD K cl G (inner env is d) (compSt σ is (some v)):=by
 intro i e q
 cases i with
 |zero=>
  have q':some (some d)=some (some e):=q
  cases q'
  exact⟨v,rfl,hv⟩
 |succ i=>
  have q':(is.map fun k=>(env[k]?).join)[i]?=some (some e):=q
  rw [List.getElem?_map]at q'
  cases hk:is[i]? with
  |none=>rw [hk]at q';cases q'
  |some k=>
   rw [hk]at q'
   have q2:(env[k]?).join=some e:=Option.some.inj q'
   have q3:env[k]?=some (some e):=by
    cases z:env[k]? with
    |none=>rw [z]at q2;cases q2
    |some o=>rw [z]at q2;rw [show o=some e from q2]
   obtain⟨u,h1,h2⟩:=h k e q3
   refine⟨u,?_,h2⟩
   show(is.map fun k=>(σ[k]?).join)[i]?=some (some u)
   rw [List.getElem?_map,hk]
   show some ((σ[k]?).join)=_
   rw [h1];rfl
section
variable(K:PySem.W.Frag)(cl:Nat→Option Addr)(Γ:Tab)
noncomputable def tV(m:E):TE:=fun σ H Q=>∃G env d,Same G H∧EnvD K cl G env σ∧ev Γ m env=some d∧∀v H' G',Ext H G H' G'→Dn K cl G' v d→Q v H'
noncomputable def tVs(m:E):TA:=fun σ H Q=>∃G env l,Same G H∧EnvD K cl G env σ∧evs Γ m env=some l∧∀vs H' G',Ext H G H' G'→Dns K cl G' vs l→Q vs H'
noncomputable def tVT(m:E):TT:=fun σ H Q=>∃G env b,Same G H∧EnvD K cl G env σ∧evB Γ m env=some b∧∀H' G',Ext H G H' G'→Q b H'
noncomputable def tVO(m:E):TO:=fun σ H Q=>∃G env o,Same G H∧EnvD K cl G env σ∧optS m (ev Γ m env)=some o∧∀H' G',Ext H G H' G'→Q o H'
noncomputable def Wk(J:It)(G:Hp)(ds:List D):Prop:=∀(H G2:Hp) (i:Nat),Same G G2→Same G2 H→(i=ds.length→J.stop i H)∧∀d,ds[i]?=some d→J.go i H∧∀v H',J.yld i H v H'→∃G3,Ext H G2 H' G3∧Dn K cl G3 v d
noncomputable def tI(m:E):TI:=fun σ H R=>∃G env ds,Same G H∧EnvD K cl G env σ∧its Γ m env=some ds∧∀J H' G',Ext H G H' G'→Wk K cl J G' ds→(isRng m=true→∀G2,Wk K cl J G2 ds)→R J H'
end
theorem peI{X:Cx}{e:Expr}{t t':TE}(h:PE X e t)(i:∀σ H Q,t' σ H Q→t σ H Q):PE X e t':=fun pins s σ H Q I q=>h pins s σ H Q I (i σ H Q q)
theorem ptI{X:Cx}{e:Expr}{t t':TT}(h:PT X e t)(i:∀σ H Q,t' σ H Q→t σ H Q):PT X e t':=fun pins s σ H Q I q=>h pins s σ H Q I (i σ H Q q)
theorem pwI{X:Cx}{e:Expr}{t t':TT}(h:PW X e t)(i:∀σ H Q,t' σ H Q→t σ H Q):PW X e t':=fun w pins s σ H Q I q=>h w pins s σ H Q I (i σ H Q q)
theorem paI{X:Cx}{e:List Expr}{t t':TA}(h:PA X e t)(i:∀σ H Q,t' σ H Q→t σ H Q):PA X e t':=fun p pins s σ H Q I q=>h p pins s σ H Q I (i σ H Q q)
theorem piI{X:Cx}{tg e:Expr}{t t':TI}(h:PI X tg e t)(i:∀σ H Q,t' σ H Q→t σ H Q):PI X tg e t':=fun pins s σ H Q I q=>h pins s σ H Q I (i σ H Q q)
noncomputable def spM(K:PySem.W.Frag)(cl:Nat→Option Addr)(C:Addr)(g:List D→Option T):Sp:=fun vs H' Q _=>∃H G x dx vs' ds t,vs=.ref x::vs'∧H x=none∧H dx=none∧dx≠x∧H'=upd (upd H dx (.own x)) x (.ins C dx [])∧Same G H∧Dns K cl G vs' ds∧g ds=some t∧
 ∀H2 G2 A,Ext H G H2 G2→OT K cl G2 H2 (.ref x) t A→A.Nodup→(∀a∈A,H a=none)→Q .non H2
structure GoodCall(X:Cx)(cl:Nat→Option Addr)(x:Str)(g:List D→Option T):Prop where
 ex:(∃k fa fd ps,FnOk X.prog X.w X.K X.mg X.base CX0 k fa fd ps (spP X.K cl g)∧Room k X.A∧X.mg x=some (.ref fa)∧PySem.W.keepIn X.K (.ref fa)=true∧Binds X.K fd ps [])∨
  ∃k C f fd ps,Mk X.K C f∧FnOk X.prog X.w X.K X.mg X.base CX0 k f fd ps (spM X.K cl C g)∧Room (k+1) X.A∧X.mg x=some (.ref C)∧Binds X.K fd ps []
structure GoodMeth(X:Cx)(cl:Nat→Option Addr)(C:Addr)(m:Str)(g:List D→Option T):Prop where
 ex:∃k f fd ps,Meth X.K C m f∧FnOk X.prog X.w X.K X.mg X.base CX0 k f fd ps (spP X.K cl g)∧Room k X.A∧Binds X.K fd ps []
structure ClsT(K:PySem.W.Frag)(C:Addr):Prop where
 ha:PySem.W.findIn K (.ref C) "__class__"=some (some (.builtin "object.__class__"))
 hn:PySem.W.specialIn K (.builtin "object.__class__") "__get__"=some (some (.builtin "getset_descriptor.__get__"))
 htk:PySem.W.takesIn K (.builtin "object.__class__")=some true
 hm:PySem.W.mroIn K C (.type "object")=some true
noncomputable def ClsOk(K:PySem.W.Frag)(cl:Nat→Option Addr):Prop:=(∀k C,cl k=some C→Cls K C∧(∀f∈FLD,NoAttr K C f)∧ClsT K C)∧∀i I j J,cl i=some I→cl j=some J→PySem.W.kitOne K (.ref I) (.ref J)=some (subC i j)
structure Sees(X:Cx)(cl:Nat→Option Addr)(c:CC)(Γ:Tab)(top:Bool)(N:List Str)(sc:Scope):Prop where
 hN:X.N=N
 vis:∀(i:Nat) (x:Str),N[i]?=some x→Vis X.env.scope x
 gl:∀x,sc.names.lookup x=some .globalImplicit→Gl X x
 tp:top=true→X.env.scope=sc
 calm:X.calm=true
 hu:X.A.units+64<cLine
 blt:∀x∈BLT,X.mg x=none
 fn:∀x f g,c.tab.lookup x=some f→Γ f=some g→GoodCall X cl x g
 gi:∀x i,c.gi.lookup x=some i→∃t,X.mg x=some (.int i t)
 cls:ClsOk X.K cl
 mth:∀c C k m g,MTH[k]?=some m→cl c=some C→Γ (mid c k)=some g→GoodMeth X cl C m g
 cn:∀x j,c.cn.lookup x=some j→∃J,cl j=some J∧X.mg x=some (.ref J)
section
variable{K:PySem.W.Frag}{cl:Nat→Option Addr}{Γ:Tab}{a b m:E}{σ:St}{H:Hp}{Q:VK}
theorem tV2{g:D→D→Option D}(h:∀env,ev Γ m env=(ev Γ a env).bind fun x=>(ev Γ b env).bind fun y=>g x y):tV K cl Γ m σ H Q→tOp (rD K cl g) (tV K cl Γ a) (tV K cl Γ b) σ H Q:=by
 rintro ⟨G,env,d,sg,en,e,q⟩
 rw [h]at e
 obtain⟨x,ex,e⟩:=bsi e
 obtain⟨y,ey,e⟩:=bsi e
 exact⟨G,env,x,sg,en,ex,fun v H1 G1 e1 d1=>⟨G1,env,y,e1.gh,en.mono e1.gg,ey,fun u H2 G2 e2 d2=>⟨G2,x,y,d,e2.gh,d1.mono e2.gg,d2,e,fun z H3 G3 e3 d3=>q z H3 G3 ((e1.trans e2).trans e3) d3⟩⟩⟩
theorem tV1{g:D→Option D}(h:∀env,ev Γ m env=(ev Γ a env).bind g):tV K cl Γ m σ H Q→tUn (rD1 K cl g) (tV K cl Γ a) σ H Q:=by
 rintro ⟨G,env,d,sg,en,e,q⟩
 rw [h]at e
 obtain⟨x,ex,e⟩:=bsi e
 exact⟨G,env,x,sg,en,ex,fun v H1 G1 e1 d1=>⟨G1,x,d,e1.gh,d1,e,fun z H3 G3 e3 d3=>q z H3 G3 (e1.trans e3) d3⟩⟩
theorem tVB1{g:D→Option D}(h:∀env,ev Γ m env=(ev Γ a env).bind g):tV K cl Γ m σ H Q→tCB (rDs K cl (one g)) (tCons (tV K cl Γ a) tNil) σ H Q:=by
 rintro ⟨G,env,d,sg,en,e,q⟩
 rw [h]at e
 obtain⟨x,ex,e⟩:=bsi e
 exact⟨G,env,x,sg,en,ex,fun v H1 G1 e1 d1=>⟨G1,[x],d,e1.gh,.cons d1 .nil,e,fun z H3 G3 e3 d3=>q z H3 G3 (e1.trans e3) d3⟩⟩
theorem tVB2{g:D→D→Option D}(h:∀env,ev Γ m env=(ev Γ a env).bind fun x=>(ev Γ b env).bind fun y=>g x y):tV K cl Γ m σ H Q→tCB (rDs K cl (two g)) (tCons (tV K cl Γ a) (tCons (tV K cl Γ b) tNil)) σ H Q:=by
 rintro ⟨G,env,d,sg,en,e,q⟩
 rw [h]at e
 obtain⟨x,ex,e⟩:=bsi e
 obtain⟨y,ey,e⟩:=bsi e
 exact⟨G,env,x,sg,en,ex,fun v H1 G1 e1 d1=>⟨G1,env,y,e1.gh,en.mono e1.gg,ey,fun u H2 G2 e2 d2=>⟨G2,[x,y],d,e2.gh,.cons (d1.mono e2.gg) (.cons d2 .nil),e,fun z H3 G3 e3 d3=>q z H3 G3 ((e1.trans e2).trans e3) d3⟩⟩⟩
end
theorem cmpD_bl{op:CmpOp}{x y d:D}(h:cmpD op x y=some d):∃b,d=.bl b:=by
 unfold cmpD at h
 split at h
 all_goals first
  |(cases h;exact⟨_,rfl⟩)
  |(cases h;done)
  |(obtain⟨c,_,rfl⟩:=msi h;exact⟨_,rfl⟩)
theorem star_of{e:Expr}(h:okE e=true)(es:List Expr)(env:PySem.Env):starEach (e::es) env=(false,eval e env)::starEach es env:=by
 cases e<;>first|rfl|cases h
theorem star_any{es:List Expr}(h:es.all okE=true)(pos:Pos)(env:PySem.Env):(backTo pos (starEach es env)).any (·.1)=false:=by
 induction es with
 |nil=>rfl
 |cons e r ih=>
  rw [List.all_cons,Bool.and_eq_true]at h
  rw [star_of h.1]
  show(false||(backTo pos (starEach r env)).any (·.1))=false
  rw [ih h.2];rfl
theorem few_ok{es:List Expr}(h:es.all okE=true)(pos:Pos)(env:PySem.Env)(hl:es.length<30):((backTo pos (starEach es env)).all (fun x=> !x.1)&&(backToKw pos (keywordEach [] env)).all (fun x=>x.1.isSome)&&decide (es.length+([]:List Keyword).length+(if([]:List Keyword).isEmpty then 0 else 1)<30))=true:=by
 have h1:(backTo pos (starEach es env)).all (fun x=> !x.1)=true:=by
  have:=star_any h pos env
  rw [List.all_eq_true]
  intro x hx
  have:=List.any_eq_false.mp this x hx
  simpa using this
 rw [h1]
 simp [backToKw,keywordEach]
 exact hl
theorem okN_ok{x:Str}(h:okN x=true):(x==("__debug__":Str))=false∧(x==("__classdict__":Str))=false∧x≠"__name__":=by
 unfold okN at h
 rw [Bool.and_eq_true,Bool.and_eq_true]at h
 refine⟨by simpa using h.1.1,by simpa using h.1.2,?_⟩
 have h3:=h.2
 intro e
 subst e
 simp at h3
theorem isGl_ok{N:List Str}{sc:Scope}{x:Str}(h:isGl N sc x=true):okN x=true∧sc.names.lookup x=some .globalImplicit:=by
 unfold isGl at h
 rw [Bool.and_eq_true,Bool.and_eq_true]at h
 exact⟨h.1.1,of_decide_eq_true h.2⟩
theorem bt_len:bootBuiltins "len"=some (.builtin "len"):=by decide+kernel
theorem bt_list:bootBuiltins "list"=some (.type "list"):=by decide+kernel
theorem bt_range:bootBuiltins "range"=some (.type "range"):=by decide+kernel
theorem bt_set:bootBuiltins "set"=some (.type "set"):=by decide+kernel
theorem bt_any:bootBuiltins "any"=some (.builtin "any"):=by decide+kernel
theorem bt_all:bootBuiltins "all"=some (.builtin "all"):=by decide+kernel
theorem bt_min:bootBuiltins "min"=some (.builtin "min"):=by decide+kernel
theorem bt_max:bootBuiltins "max"=some (.builtin "max"):=by decide+kernel
theorem bt_isinstance:bootBuiltins "isinstance"=some (.builtin "isinstance"):=by decide+kernel
theorem tyCode_ok{x:Str}{k:Nat}(h:tyCode x=some k):x∈BLT∧bootBuiltins x=some (.type (tyS k)):=by
 unfold tyCode at h
 split at h
 ·rename_i e;cases h;rw [show x="int" by simpa using e];exact⟨by decide+kernel,by decide+kernel⟩
 split at h
 ·rename_i e;cases h;rw [show x="bool" by simpa using e];exact⟨by decide+kernel,by decide+kernel⟩
 split at h
 ·rename_i e;cases h;rw [show x="list" by simpa using e];exact⟨by decide+kernel,by decide+kernel⟩
 split at h
 ·rename_i e;cases h;rw [show x="tuple" by simpa using e];exact⟨by decide+kernel,by decide+kernel⟩
 split at h
 ·rename_i e;cases h;rw [show x="str" by simpa using e];exact⟨by decide+kernel,by decide+kernel⟩
 ·cases h
end MI
end
noncomputable section
namespace MI
open PySem L2
section
variable{X:Cx}{cl:Nat→Option Addr}{Γ:Tab}
theorem pt_of{e:Expr}{m:E}(he:∀whole,isTrue e X.env whole=(do let v←whole;standAt e.pos;holding [v] (truthy v)))(h:PE X e (tV X.K cl Γ m)):PT X e (tVT X.K cl Γ m):=by
 refine ptI (pt_truth h he) fun σ H Q ⟨G,env,b,sg,en,e,q⟩=> ?_
 obtain⟨d,e1,e2⟩:=bsi e
 refine⟨G,env,d,sg,en,e1,fun v H' G' ex dv=> ?_⟩
 cases d with
 |bl c=>cases e2;cases dv;exact⟨b,rfl,q H' G' ex⟩
 |int c=>cases e2;cases dv;exact⟨_,rfl,q H' G' ex⟩
 |_=>cases e2
noncomputable abbrev Both(X:Cx)(cl:Nat→Option Addr)(Γ:Tab)(e:Expr)(m:E):Prop:=PE X e (tV X.K cl Γ m)∧(okT e=true→PT X e (tVT X.K cl Γ m))
theorem clist_ok{f:Expr→Option E}:∀ {es:List Expr} {m:E},(∀e∈es,∀m,f e=some m→PE X e (tV X.K cl Γ m))→es.all okE=true→cList f es=some m→PA X es (tVs X.K cl Γ m)
 |[],m,_,_,h=>by
  cases h
  refine paI pa_nil fun σ H Q ⟨G,env,l,sg,en,e,q⟩=> ?_
  have e':(some []:Option (List D))=some l:=e
  cases e'
  exact q [] H G (Ext.refl sg) .nil
 |e::r,m,ih,ok,h=>by
  rw [List.all_cons,Bool.and_eq_true]at ok
  obtain⟨ma,h1,h⟩:=bsi h
  obtain⟨mr,h2,rfl⟩:=msi h
  refine paI (pa_cons (ih e (by simp) ma h1) (clist_ok (fun e he=>ih e (by simp [he])) ok.2 h2) (star_of ok.1 _ _)) fun σ H Q ⟨G,env,l,sg,en,e,q⟩=> ?_
  obtain⟨d,e1,e2⟩:=bsi e
  obtain⟨x,ex,e1⟩:=bsi (show(ev Γ ma env).bind (fun x=>(ev Γ mr env).bind fun y=>consD x y)=some d from e1)
  obtain⟨y,ey,e1⟩:=bsi e1
  cases y with
  |lst l'=>
   cases e1
   cases e2
   exact⟨G,env,x,sg,en,ex,fun v H1 G1 x1 d1=>⟨G1,env,l',x1.gh,en.mono x1.gg,by unfold evs;rw [ey];rfl,fun vs H2 G2 x2 d2=>q _ H2 G2 (x1.trans x2) (.cons (d1.mono x2.gg) d2)⟩⟩
  |_=>cases e1
theorem cand_ok{f:Expr→Option E}{pos:Pos}:∀ {es:List Expr} {m:E},(∀e∈es,∀m,f e=some m→Both X cl Γ e m)→cAnd f es=some m→PE X (.BoolOp .And es pos) (tV X.K cl Γ m)∧PW X (.BoolOp .And es pos) (tVT X.K cl Γ m)
 |[],m,_,h=>by cases h
 |[a],m,ih,h=>by
  have h':(if okT a then f a else none)=some m:=h
  split at h'
  ·rename_i ok
   have b:=ih a (by simp) m h'
   exact⟨pe_one b.1,pw_and1 (b.2 ok)⟩
  ·cases h'
 |a::b::r,m,ih,h=>by
  have h':(if okT a then(f a).bind fun m=>(cAnd f (b::r)).map fun l=> .and m l else none)=some m:=h
  split at h'
  ·rename_i ok
   obtain⟨ma,h1,h'⟩:=bsi h'
   obtain⟨mr,h2,rfl⟩:=msi h'
   have ba:=ih a (by simp) ma h1
   obtain⟨p1,p2⟩:=cand_ok (pos:=pos) (fun e he=>ih e (by simp [he])) h2
   constructor
   ·refine peI (pe_and ba.1 p1) fun σ H Q ⟨G,env,d,sg,en,e,q⟩=> ?_
    obtain⟨x,ex,e⟩:=bsi (show(ev Γ ma env).bind (fun x=>ifB x (ev Γ mr env) (some (.bl false)))=some d from e)
    refine⟨G,env,x,sg,en,ex,fun v H1 G1 x1 d1=> ?_⟩
    cases x with
    |bl c=>
     cases d1
     refine⟨c,rfl,?_⟩
     cases c with
     |true=>exact iteT ⟨G1,env,d,x1.gh,en.mono x1.gg,e,fun v H2 G2 x2 d2=>q v H2 G2 (x1.trans x2) d2⟩
     |false=>cases e;exact iteF (q _ H1 G1 x1 (.bl _))
    |_=>cases e
   ·refine pwI (pw_and (ba.2 ok) p2) fun σ H Q ⟨G,env,t,sg,en,e,q⟩=> ?_
    obtain⟨d,e,e'⟩:=bsi e
    obtain⟨x,ex,e⟩:=bsi (show(ev Γ ma env).bind (fun x=>ifB x (ev Γ mr env) (some (.bl false)))=some d from e)
    cases x with
    |bl c=>
     refine⟨G,env,c,sg,en,by unfold evB;rw [ex];rfl,fun H1 G1 x1=> ?_⟩
     cases c with
     |true=>exact iteT ⟨G1,env,t,x1.gh,en.mono x1.gg,by unfold evB;rw [show ev Γ mr env=some d from e];exact e',fun H2 G2 x2=>q H2 G2 (x1.trans x2)⟩
     |false=>cases e;cases e';exact iteF (q H1 G1 x1)
    |_=>cases e
  ·cases h'
theorem cor_ok{f:Expr→Option E}{pos:Pos}:∀ {es:List Expr} {m:E},(∀e∈es,∀m,f e=some m→Both X cl Γ e m)→cOr f es=some m→PE X (.BoolOp .Or es pos) (tV X.K cl Γ m)∧PW X (.BoolOp .Or es pos) (tVT X.K cl Γ m)
 |[],m,_,h=>by cases h
 |[a],m,ih,h=>by
  have h':(if okT a then f a else none)=some m:=h
  split at h'
  ·rename_i ok
   have b:=ih a (by simp) m h'
   exact⟨pe_one b.1,pw_or1 (b.2 ok)⟩
  ·cases h'
 |a::b::r,m,ih,h=>by
  have h':(if okT a then(f a).bind fun m=>(cOr f (b::r)).map fun l=> .or m l else none)=some m:=h
  split at h'
  ·rename_i ok
   obtain⟨ma,h1,h'⟩:=bsi h'
   obtain⟨mr,h2,rfl⟩:=msi h'
   have ba:=ih a (by simp) ma h1
   obtain⟨p1,p2⟩:=cor_ok (pos:=pos) (fun e he=>ih e (by simp [he])) h2
   constructor
   ·refine peI (pe_or ba.1 p1) fun σ H Q ⟨G,env,d,sg,en,e,q⟩=> ?_
    obtain⟨x,ex,e⟩:=bsi (show(ev Γ ma env).bind (fun x=>ifB x (some (.bl true)) (ev Γ mr env))=some d from e)
    refine⟨G,env,x,sg,en,ex,fun v H1 G1 x1 d1=> ?_⟩
    cases x with
    |bl c=>
     cases d1
     refine⟨c,rfl,?_⟩
     cases c with
     |false=>exact iteF ⟨G1,env,d,x1.gh,en.mono x1.gg,e,fun v H2 G2 x2 d2=>q v H2 G2 (x1.trans x2) d2⟩
     |true=>cases e;exact iteT (q _ H1 G1 x1 (.bl _))
    |_=>cases e
   ·refine pwI (pw_or (ba.2 ok) p2) fun σ H Q ⟨G,env,t,sg,en,e,q⟩=> ?_
    obtain⟨d,e,e'⟩:=bsi e
    obtain⟨x,ex,e⟩:=bsi (show(ev Γ ma env).bind (fun x=>ifB x (some (.bl true)) (ev Γ mr env))=some d from e)
    cases x with
    |bl c=>
     refine⟨G,env,c,sg,en,by unfold evB;rw [ex];rfl,fun H1 G1 x1=> ?_⟩
     cases c with
     |false=>exact iteF ⟨G1,env,t,x1.gh,en.mono x1.gg,by unfold evB;rw [show ev Γ mr env=some d from e];exact e',fun H2 G2 x2=>q H2 G2 (x1.trans x2)⟩
     |true=>cases e;cases e';exact iteT (q H1 G1 x1)
    |_=>cases e
  ·cases h'
theorem ccmp_ok(hu:X.A.units+64<cLine){op:CmpOp}{a b:Expr}{ma mb:E}{pos:Pos}(ha:PE X a (tV X.K cl Γ ma))(hb:PE X b (tV X.K cl Γ mb))(ok:okE b=true):Both X cl Γ (.Compare a [op] [b] pos) (.cmp op ma mb):=by
 have hm:behindInMarks op b=false:=by cases b<;>first|rfl|cases ok
 refine⟨peI (pe_cmpR (op_cmp (cl:=cl) hu op) ha hb hm) fun σ H Q h=>tV2 (fun _=>rfl) h,fun _=>ptI (pt_cmpR (op_cmp (cl:=cl) hu op) ha hb hm) fun σ H Q ⟨G,env,t,sg,en,e,q⟩=> ?_⟩
 obtain⟨d,e,e'⟩:=bsi e
 refine tV2 (m:=.cmp op ma mb) (fun _=>rfl) ⟨G,env,d,sg,en,e,fun v H' G' x dv=> ?_⟩
 obtain⟨x,_,e⟩:=bsi (show(ev Γ ma env).bind (fun x=>(ev Γ mb env).bind fun y=>cmpD op x y)=some d from e)
 obtain⟨y,_,e⟩:=bsi e
 obtain⟨c,rfl⟩:=cmpD_bl e
 cases e'
 cases dv
 exact⟨t,rfl,q H' G' ‹_›⟩
theorem cch_ok(hu:X.A.units+64<cLine){o1 o2:CmpOp}{a b d:Expr}{ma mb md:E}{pos:Pos}(ha:PE X a (tV X.K cl Γ ma))(hb:PE X b (tV X.K cl Γ mb))(hd:PE X d (tV X.K cl Γ md))(ok:okE d=true):Both X cl Γ (.Compare a [o1,o2] [b,d] pos) (.ch o1 o2 ma mb md):=by
 have hm:lastMarks [o1,o2] [b,d]=false:=by
  show behindInMarks o2 d=false
  cases d<;>first|rfl|cases ok
 have go:∀σ H (Q:VK),tV X.K cl Γ (.ch o1 o2 ma mb md) σ H Q→tChain (rD X.K cl (cmpD o1)) (rD X.K cl (cmpD o2)) (tV X.K cl Γ ma) (tV X.K cl Γ mb) (tV X.K cl Γ md) σ H Q:=by
  rintro σ H Q ⟨G,env,r,sg,en,e,q⟩
  obtain⟨x,ex,e⟩:=bsi (show(ev Γ ma env).bind (fun x=>(ev Γ mb env).bind fun y=>(cmpD o1 x y).bind fun z=>ifB z ((ev Γ md env).bind fun w=>cmpD o2 y w) (some (.bl false)))=some r from e)
  obtain⟨y,ey,e⟩:=bsi e
  obtain⟨z,ez,e⟩:=bsi e
  obtain⟨c,rfl⟩:=cmpD_bl ez
  refine⟨G,env,x,sg,en,ex,fun v H1 G1 x1 d1=>⟨G1,env,y,x1.gh,en.mono x1.gg,ey,fun u H2 G2 x2 d2=>⟨G2,x,y,.bl c,x2.gh,d1.mono x2.gg,d2,ez,fun w H3 G3 x3 d3=> ?_⟩⟩⟩
  cases d3
  refine⟨c,rfl,?_⟩
  cases c with
  |false=>cases e;exact iteF (q _ H3 G3 ((x1.trans x2).trans x3) (.bl _))
  |true=>
   obtain⟨w,ew,e⟩:=bsi (show(ev Γ md env).bind (fun w=>cmpD o2 y w)=some r from e)
   refine iteT ⟨G3,env,w,x3.gh,en.mono ((x1.gg.trans x2.gg).trans x3.gg),ew,fun u' H4 G4 x4 d4=>⟨G4,y,w,r,x4.gh,d2.mono (x3.gg.trans x4.gg),d4,e,fun z H5 G5 x5 d5=>q z H5 G5 ((((x1.trans x2).trans x3).trans x4).trans x5) d5⟩⟩
 refine⟨peI (pe_chain (op_cmp (cl:=cl) hu o1) (op_cmp (cl:=cl) hu o2) ha hb hd hm) go,fun _=>ptI (pt_chain (op_cmp (cl:=cl) hu o1) (op_cmp (cl:=cl) hu o2) ha hb hd hm) fun σ H Q ⟨G,env,t,sg,en,e,q⟩=> ?_⟩
 obtain⟨r,e,e'⟩:=bsi e
 refine go σ H _ ⟨G,env,r,sg,en,e,fun v H' G' x dv=> ?_⟩
 cases r with
 |bl c=>cases e';cases dv;exact⟨t,rfl,q H' G' ‹_›⟩
 |int i=>
  exfalso
  obtain⟨x,ex,e⟩:=bsi (show(ev Γ ma env).bind (fun x=>(ev Γ mb env).bind fun y=>(cmpD o1 x y).bind fun z=>ifB z ((ev Γ md env).bind fun w=>cmpD o2 y w) (some (.bl false)))=some (.int i)from e)
  obtain⟨y,ey,e⟩:=bsi e
  obtain⟨z,ez,e⟩:=bsi e
  obtain⟨c,rfl⟩:=cmpD_bl ez
  cases c with
  |false=>cases e
  |true=>
   obtain⟨w,ew,e⟩:=bsi (show(ev Γ md env).bind (fun w=>cmpD o2 y w)=some (.int i)from e)
   obtain⟨c,e⟩:=cmpD_bl e
   cases e
 |_=>cases e'
theorem pe_lstD{es:List Expr}{m:E}{pos:Pos}(h:PA X es (tVs X.K cl Γ m)):PE X (.List es pos) (tV X.K cl Γ (.lst m)):=by
 refine peI (pe_lst h) fun σ H Q ⟨G,env,d,sg,en,e,q⟩=> ?_
 obtain⟨l,e1,e⟩:=bsi (show(ev Γ m env).bind szL=some d from e)
 cases l with
 |lst l=>
  have e':(if sz l.length then some (D.lst l)else none)=some d:=e
  split at e'
  ·rename_i hz
   cases e'
   exact⟨G,env,l,sg,en,by unfold evs;rw [e1];rfl,fun vs H' G' x dv=>⟨sz_le (by rw [dv.length];exact hz),fun p hp=>endL x.gh (fun z H2 G2 x2 d2=>q z H2 G2 (x.trans x2) d2) hp dv⟩⟩
  ·cases e'
 |_=>cases e
theorem pe_tupD{es:List Expr}{m:E}{k:Nat}{pos:Pos}(h:PA X es (tVs X.K cl Γ m)):PE X (.Tuple es k pos) (tV X.K cl Γ (.tup m)):=by
 refine peI (pe_tup h) fun σ H Q ⟨G,env,d,sg,en,e,q⟩=> ?_
 obtain⟨l,e1,e⟩:=bsi (show(ev Γ m env).bind szT=some d from e)
 cases l with
 |lst l=>
  have e':(if sz l.length then some (D.tup l)else none)=some d:=e
  split at e'
  ·rename_i hz
   cases e'
   exact⟨G,env,l,sg,en,by unfold evs;rw [e1];rfl,fun vs H' G' x dv=>⟨sz_le (by rw [dv.length];exact hz),fun p hp=>endT x.gh (fun z H2 G2 x2 d2=>q z H2 G2 (x.trans x2) d2) hp dv⟩⟩
  ·cases e'
 |_=>cases e
theorem pe_iteD{t a b:Expr}{mt ma mb:E}{pos:Pos}(ht:PT X t (tVT X.K cl Γ mt))(ha:PE X a (tV X.K cl Γ ma))(hb:PE X b (tV X.K cl Γ mb)):PE X (.IfExp t a b pos) (tV X.K cl Γ (.ite mt ma mb)):=by
 refine peI (pe_ifExp ht ha hb) fun σ H Q ⟨G,env,d,sg,en,e,q⟩=> ?_
 obtain⟨c,e1,e⟩:=bsi (show((ev Γ mt env).bind truthD).bind (fun x=>if x then ev Γ ma env else ev Γ mb env)=some d from e)
 refine⟨G,env,c,sg,en,e1,fun H1 G1 x1=> ?_⟩
 cases c with
 |true=>exact iteT ⟨G1,env,d,x1.gh,en.mono x1.gg,e,fun v H2 G2 x2 d2=>q v H2 G2 (x1.trans x2) d2⟩
 |false=>exact iteF ⟨G1,env,d,x1.gh,en.mono x1.gg,e,fun v H2 G2 x2 d2=>q v H2 G2 (x1.trans x2) d2⟩
theorem pe_notD{a:Expr}{ma:E}{pos:Pos}(h:PE X a (tV X.K cl Γ ma)):PE X (.UnaryOp .Not a pos) (tV X.K cl Γ (.not ma)):=by
 refine peI (pe_not h) fun σ H Q ⟨G,env,d,sg,en,e,q⟩=> ?_
 obtain⟨x,e1,e⟩:=bsi (show(ev Γ ma env).bind notD=some d from e)
 refine⟨G,env,x,sg,en,e1,fun v H1 G1 x1 d1=> ?_⟩
 cases x with
 |bl c=>cases e;cases d1;exact⟨c,rfl,q _ H1 G1 x1 (.bl _)⟩
 |_=>cases e
theorem pt_notD{a:Expr}{ma:E}{pos:Pos}(h:PT X a (tVT X.K cl Γ ma)):PT X (.UnaryOp .Not a pos) (tVT X.K cl Γ (.not ma)):=by
 refine ptI (pt_not h) fun σ H Q ⟨G,env,t,sg,en,e,q⟩=> ?_
 obtain⟨d,e,e'⟩:=bsi e
 obtain⟨x,e1,e⟩:=bsi (show(ev Γ ma env).bind notD=some d from e)
 cases x with
 |bl c=>cases e;cases e';exact⟨G,env,c,sg,en,by unfold evB;rw [e1];rfl,fun H1 G1 x1=>q H1 G1 x1⟩
 |_=>cases e
theorem pe_isiD{a:Expr}{ma:E}{t:Str}{k:Nat}{p1 p2 pos:Pos}(h:PE X a (tV X.K cl Γ ma))(ok:okE a=true)(hg:Gl X "isinstance")(hm:X.mg "isinstance"=none)(gt:Gl X t)(mt:X.mg t=none)(tc:tyCode t=some k)(ot:okN t=true):
 PE X (.Call (.Name "isinstance" p1) [a,.Name t p2] [] pos) (tV X.K cl Γ (.isi ma k)):=by
 obtain⟨n1,n2,n3⟩:=okN_ok ot
 refine peI (pe_callB call_isinstR hg hm bt_isinstance (pa_cons h (pa_cons (pe_ty gt mt (tyCode_ok tc).2 n3 n1) pa_nil (by rfl)) (star_of ok _ _)) (by decide) (by decide) (star_of ok _ _) (by rfl)) fun σ H Q ⟨G,env,d,sg,en,e,q⟩=> ?_
 obtain⟨x,e1,e⟩:=bsi (show(ev Γ ma env).bind (fun x=>(isiB x k).map .bl)=some d from e)
 obtain⟨b,e2,rfl⟩:=msi e
 obtain⟨ty,e3,e4⟩:=isiB_ok e2
 refine⟨G,env,x,sg,en,e1,fun v H1 G1 x1 d1=> ?_⟩
 exact⟨v,_,_,b,rfl,tyD_ok d1 x1.gh e3,e4 _,q _ H1 G1 x1 (.bl _)⟩
theorem po_D{o:Option Expr}{m:E}{f:Expr→Option E}(ih:∀e,o=some e→∀m,f e=some m→PE X e (tV X.K cl Γ m))(h:cOpt f o=some m):PO X o (tVO X.K cl Γ m):=by
 cases o with
 |none=>
  cases h
  intro pins s σ H Q I ⟨G,env,o,sg,en,e,q⟩
  have e':(some none:Option (Option Int))=some o:=e
  cases e'
  exact po_none pins s σ H Q I (q H G (Ext.refl sg))
 |some a=>
  have h':(if okE a then(f a).bind fun m=>if isNil m then none else some m else none)=some m:=h
  split at h'
  ·obtain⟨m',h1,h2⟩:=bsi h'
   split at h2
   ·cases h2
   ·rename_i nn
    cases h2
    intro pins s σ H Q I ⟨G,env,o,sg,en,e,q⟩
    refine po_some (ih a rfl m h1) pins s σ H Q I ?_
    unfold optS at e
    rw [if_neg nn]at e
    split at e
    ·rename_i i ei
     cases e
     refine⟨G,env,_,sg,en,ei,fun v H' G' x dv=> ?_⟩
     cases dv
     exact⟨_,rfl,q H' G' x⟩
    ·cases e
  ·cases h'
theorem pe_cutD{a:Expr}{lo hi:Option Expr}{ma ml mh:E}{p2 pos:Pos}(ha:PE X a (tV X.K cl Γ ma))(hl:PO X lo (tVO X.K cl Γ ml))(hh:PO X hi (tVO X.K cl Γ mh)):PE X (.Subscript a (.Slice lo hi none p2) pos) (tV X.K cl Γ (.cut ma ml mh)):=by
 refine peI (pe_slice (sl_D (cl:=cl)) ha hl hh) fun σ H Q ⟨G,env,d,sg,en,e,q⟩=> ?_
 obtain⟨x,ex,e⟩:=bsi (show(ev Γ ma env).bind (fun x=>(optS ml (ev Γ ml env)).bind fun l=>(optS mh (ev Γ mh env)).bind fun h=>cutD x l h)=some d from e)
 obtain⟨l,el,e⟩:=bsi e
 obtain⟨h,eh,e⟩:=bsi e
 exact⟨G,env,x,sg,en,ex,fun v H1 G1 x1 d1=>⟨G1,env,l,x1.gh,en.mono x1.gg,el,fun H2 G2 x2=>⟨G2,env,h,x2.gh,en.mono (x1.gg.trans x2.gg),eh,fun H3 G3 x3=>⟨G3,x,d,x3.gh,d1.mono (x2.gg.trans x3.gg),e,fun z H4 G4 x4 d4=>q z H4 G4 (((x1.trans x2).trans x3).trans x4) d4⟩⟩⟩⟩
theorem pe_revD{a st:Expr}{ma ms:E}{p2 pos:Pos}(ha:PE X a (tV X.K cl Γ ma))(hs:PE X st (tV X.K cl Γ (.un .neg (.int 1)))):PE X (.Subscript a (.Slice none none (some st) p2) pos) (tV X.K cl Γ (.rev ma)):=by
 refine peI (pe_rev ha hs) fun σ H Q ⟨G,env,d,sg,en,e,q⟩=> ?_
 obtain⟨x,ex,e⟩:=bsi (show(ev Γ ma env).bind revD=some d from e)
 refine⟨G,env,x,sg,en,ex,fun v H1 G1 x1 d1=>⟨G1,env,.int (-1),x1.gh,en.mono x1.gg,rfl,fun u H2 G2 x2 d2=> ?_⟩⟩
 cases d2
 refine⟨rfl,?_⟩
 cases x with
 |lst l=>
  cases e
  cases d1 with|lst h1 h2=>
   exact⟨_,_,rfl,(rl_mono (x2.gg.trans x2.gh) h1).sql,fun p hp=>endL x2.gh (fun z H3 G3 x3 d3=>q z H3 G3 ((x1.trans x2).trans x3) d3) hp ((h2.mono x2.gg).reverse)⟩
 |_=>cases e
theorem pe_callT{x:Str}{g:List D→Option T}{e:Expr}{es:List Expr}{m:E}{p pos:Pos}(hg:Gl X x)(hd:(x==("__debug__":Str))=false)(F:GoodCall X cl x g)(ha:PA X (e::es) (tVs X.K cl Γ m))(ok:(e::es).all okE=true):
 PE X (.Call (.Name x p) (e::es) [] pos) (fun σ H Q=>∃G env l t,Same G H∧EnvD X.K cl G env σ∧evs Γ m env=some l∧g l=some t∧∀v H' G' A,Ext H G H' G'→OT X.K cl G' H' v t A→A.Nodup→(∀a∈A,H a=none)→Q v H'):=by
 rw [List.all_cons,Bool.and_eq_true]at ok
 rcases F.ex with⟨k,fa,fd,ps,F1,F2,F3,F4,F5⟩|⟨k,C,f,fd,ps,M,F1,F2,F3,F5⟩
 ·refine peI (pe_call F1 F2 hg F3 F4 F5 .nil pass0 ha hd (star_of ok.1 _ _) (star_any ok.2 _ _)) fun σ H Q ⟨G,env,l,t,sg,en,e,et,q⟩=> ?_
  refine⟨G,env,l,sg,en,e,fun vs H1 G1 x1 d1=> ?_⟩
  show spP X.K cl g (vs++[]) H1 Q E0
  rw [List.append_nil]
  exact⟨G1,l,t,x1.gh,d1,et,fun v H2 G2 A x2 o nd n=>q v H2 G2 A (x1.trans x2) o nd fun a ha=>x1.hh.free (n a ha)⟩
 ·refine peI (pe_make M F1 F2 hg F3 F5 .nil pass0 ha hd (star_of ok.1 _ _) (star_any ok.2 _ _)) fun σ H Q ⟨G,env,l,t,sg,en,e,et,q⟩=> ?_
  refine⟨G,env,l,sg,en,e,fun vs H1 G1 x1 d1 x dx hx hdx hne=> ?_⟩
  rw [List.append_nil]
  exact⟨H1,G1,x,dx,vs,l,t,rfl,hx,hdx,hne,rfl,x1.gh,d1,et,fun H2 G2 A x2 o nd n=>⟨rfl,q (.ref x) H2 G2 A (x1.trans x2) o nd fun a ha=>x1.hh.free (n a ha)⟩⟩
theorem pe_callD{x:Str}{f:Nat}{g:List D→Option T}{e:Expr}{es:List Expr}{m:E}{p pos:Pos}(hg:Gl X x)(hd:(x==("__debug__":Str))=false)(F:GoodCall X cl x g)(hf:Γ f=some g)(ha:PA X (e::es) (tVs X.K cl Γ m))(ok:(e::es).all okE=true):
 PE X (.Call (.Name x p) (e::es) [] pos) (tV X.K cl Γ (.call f m)):=by
 refine peI (pe_callT hg hd F ha ok) fun σ H Q ⟨G,env,d,sg,en,e,q⟩=> ?_
 have e':(Γ f).bind (fun g=>((ev Γ m env).bind listD).bind fun l=>(g l).map strip)=some d:=e
 rw [hf]at e'
 obtain⟨l,el,e'⟩:=bsi (show((ev Γ m env).bind listD).bind (fun l=>(g l).map strip)=some d from e')
 obtain⟨t,et,rfl⟩:=msi e'
 refine⟨G,env,l,t,sg,en,el,et,fun v H' G' A x o nd n=> ?_⟩
 obtain⟨G2,f,d⟩:=o.freeze x.gh nd
 exact q v H' G2 (f.ext x n) d
theorem cAtt_ok{e:Expr}{o:Str×Pos×Str×Pos}(h:cAtt e=some o):e=.Attribute (.Name o.1 o.2.1) o.2.2.1 o.2.2.2:=by
 unfold cAtt at h
 split at h
 ·cases h;rfl
 ·cases h
theorem meth_ht{x m:Str}{p apos pos:Pos}{args:List Expr}{env:PySem.Env}(ok:args.all okE=true)(hl:args.length<30)(bm:isBm apos pos=true):eval (.Call (.Attribute (.Name x p) m apos) args [] pos) env=(do
 let ov←eval (.Name x p) env
 standAt apos.atName
 let (f,first)←holding [ov] (getMethod ov m (do return (←importBound (.Name x p) env).getD true))
 callWith pos f first (backTo pos (starEach args env)) (backToKw pos (keywordEach [] env))):=by
 have hform:methodCallForm (args.length+([]:List Keyword).length) (backTo pos (starEach args env)) (backToKw pos (keywordEach [] env))=true:=few_ok ok pos env hl
 have hpos:methodCallPos true (.Name x p) env apos pos=pure pos:=by
  unfold methodCallPos
  rw [show(apos.endLine==pos.line)=true from bm]
  rfl
 rw [arm_eval_Call]
 show(do
  let ov←eval (.Name x p) env
  standAt apos.atName
  methodCall (.Name x p) m apos pos env ov (args.length+([]:List Keyword).length) (backTo pos (starEach args env)) (backToKw pos (keywordEach [] env)))=_
 unfold methodCall
 rw [hform,hpos]
 rfl
theorem pe_methD{x m:Str}{p apos pos:Pos}{k i:Nat}{e:Expr}{es:List Expr}{ml:E}(hc:ClsOk X.K cl)(hm:∀c C k m g,MTH[k]?=some m→cl c=some C→Γ (mid c k)=some g→GoodMeth X cl C m g)(hk:MTH[k]?=some m)(ho:PE X (.Name x p) (tV X.K cl Γ (.var i)))(ha:PA X (e::es) (tVs X.K cl Γ ml))(ok:(e::es).all okE=true)(hl:(e::es).length<30)(bm:isBm apos pos=true):
 PE X (.Call (.Attribute (.Name x p) m apos) (e::es) [] pos) (tV X.K cl Γ (.meth (.var i) k ml)):=by
 have ok':=ok
 rw [List.all_cons,Bool.and_eq_true]at ok
 intro pins s σ H Q I ⟨G,env,d,sg,en,e,q⟩
 obtain⟨y,ey,e⟩:=bsi (show(ev Γ (.var i) env).bind (fun x=>(metG Γ k x).bind fun g=>((ev Γ ml env).bind listD).bind fun l=>(g (x::l)).map strip)=some d from e)
 obtain⟨g,eg,e⟩:=bsi e
 obtain⟨l,el,e⟩:=bsi e
 obtain⟨t,et,rfl⟩:=msi e
 cases y with
 |ins c ks ds=>
  have eg':(if ks.contains (MTH.getD k "")then none else Γ (mid c k))=some g:=eg
  split at eg'
  ·cases eg'
  ·rename_i nk
   have hmk:MTH.getD k ""=m:=by rw [List.getD_eq_getElem?_getD,hk];rfl
   rw [hmk]at nk
   have e2:env[i]?=some (some (.ins c ks ds)):=by
    have e':(env[i]?).join=some (.ins c ks ds):=ey
    cases z:env[i]? with
    |none=>rw [z]at e';cases e'
    |some o=>rw [z]at e';rw [show o=some _ from e']
   obtain⟨v0,_,dn0⟩:=en i _ e2
   obtain⟨C,hC⟩:∃C,cl c=some C:=by cases dn0 with|ins _ h2 _ _=>exact⟨_,h2⟩
   obtain⟨j,f,fd,ps,M,F1,F2,F3⟩:=(hm c C k m g hk hC eg').ex
   refine pe_meth ho (hc.1 c C hC).1 M F1 F2 F3 .nil pass0 ha (star_of ok.1 _ _) (star_any ok.2 _ _) (meth_ht ok' hl bm) pins s σ H Q I ⟨G,env,_,sg,en,ey,fun v H1 G1 x1 d1=> ?_⟩
   have d1':=d1
   cases d1 with
   | @ins a C' dx _ _ vfs _ h1 h2 h3 h4=>
     rw [hC]at h2
     cases h2
     subst h3
     refine⟨a,dx,vfs,rfl,x1.gh _ _ h1,?_,G1,env,l,x1.gh,en.mono x1.gg,el,fun vs H2 G2 x2 d2=> ?_⟩
     ·cases z:vfs.lookup m with
      |none=>rfl
      |some u=>
       refine absurd (List.contains_iff_mem.mpr ?_) nk
       obtain⟨l1,l2,e,_⟩:=List.lookup_eq_some_iff.mp z
       rw [e];simp
     ·show spP X.K cl g (.ref a::(vs++[])) H2 Q E0
      rw [List.append_nil]
      exact spP_sh ⟨G2,_::l,t,x2.gh,.cons (d1'.mono x2.gg) d2,et,fun v H3 G3 x3 d3=>q v H3 G3 ((x1.trans x2).trans x3) d3⟩
 |_=>cases eg
theorem call_isinstC:CallR X (.builtin "isinstance") (fun xs H Q=>∃x J t b,xs=[x,.ref J]∧TyOf X.K H x t∧PySem.W.kitOne X.K t (.ref J)=some b∧Q (.bl b) H):=by
 intro pins s σ H xs us Q I r h
 obtain⟨x,J,t,b,rfl,ty,k,q⟩:=h
 obtain⟨u,v,rfl,ru,rv⟩:=r.two
 cases (show v=Value.ref J from rv)
 exact isinst_ok I ru ty k fun tk=>⟨.bl b,H,I.tok _,rfl,q⟩
theorem pe_iscD{a:Expr}{ma:E}{t:Str}{j:Nat}{J:Addr}{p1 p2 pos:Pos}(hc:ClsOk X.K cl)(h:PE X a (tV X.K cl Γ ma))(ok:okE a=true)(hg:Gl X "isinstance")(hm:X.mg "isinstance"=none)(gt:Gl X t)(mt:X.mg t=some (.ref J))(hj:cl j=some J)(ot:okN t=true):
 PE X (.Call (.Name "isinstance" p1) [a,.Name t p2] [] pos) (tV X.K cl Γ (.isc ma j)):=by
 obtain⟨n1,n2,n3⟩:=okN_ok ot
 refine peI (pe_callB call_isinstC hg hm bt_isinstance (pa_cons h (pa_cons (pe_glob (v:=.ref J) gt mt rfl n1) pa_nil (by rfl)) (star_of ok _ _)) (by decide) (by decide) (star_of ok _ _) (by rfl)) fun σ H Q ⟨G,env,d,sg,en,e,q⟩=> ?_
 obtain⟨x,e1,e⟩:=bsi (show(ev Γ ma env).bind (iscD j)=some d from e)
 refine⟨G,env,x,sg,en,e1,fun v H1 G1 x1 d1=> ?_⟩
 cases x with
 |ins c ks ds=>
  cases e
  cases d1 with
  | @ins a C dx _ _ vfs _ h1 h2 h3 h4=>
    obtain⟨c1,_,c2⟩:=hc.1 c C h2
    exact⟨_,J,_,_,rfl,.ins (x1.gh _ _ h1) c1 c2.ha c2.hn c2.htk c2.hm,hc.2 c C j J h2 hj,q _ H1 G1 x1 (.bl _)⟩
 |_=>cases e
noncomputable def tChain3(r1 r2 r3:R2)(ta tb tc td:TE):TE:=fun σ H Q=>ta σ H fun x H1=>tb σ H1 fun y H2=>r1 x y H2 fun z H3=>∃k,z=.bl k∧
 (if k=true then tc σ H3 fun w H4=>r2 y w H4 fun z2 H5=>∃k2,z2=.bl k2∧(if k2=true then td σ H5 fun u H6=>r3 w u H6 Q else Q (.bl false) H5)else Q (.bl false) H3)
end
end MI
end
noncomputable section
namespace MI
open PySem L2
section
variable{K:PySem.W.Frag}{cl:Nat→Option Addr}{G:Hp}
theorem wk_list'{a:Addr}{xs:List V}{ds:List D}(h:RL K G a xs)(hs:Dns K cl G xs ds):Wk K cl (Itl K a) G ds:=by
 intro H G2 i g1 g2
 have hx:SqL K H a xs:=(rl_mono (g1.trans g2) h).sql
 refine⟨fun hi=>⟨xs,hx,by rw [hs.length];exact Nat.le_of_eq hi.symm⟩,fun d hd=> ?_⟩
 obtain⟨v,hv,dv⟩:=hs.get hd
 refine⟨⟨xs,v,hx,hv⟩,fun u H' ⟨e,y⟩=> ?_⟩
 subst e
 have:=y xs hx
 rw [hv]at this
 cases this
 exact⟨G2,Ext.refl g2,dv.mono g1⟩
theorem wk_tup{a:Addr}{xs:List V}{ds:List D}(h:G a=some (.tup xs))(hs:Dns K cl G xs ds):Wk K cl (Itt K a) G ds:=by
 intro H G2 i g1 g2
 have hx:SqT K H a xs:=.inl (.inl ((g1.trans g2) _ _ h))
 refine⟨fun hi=>⟨xs,hx,by rw [hs.length];exact Nat.le_of_eq hi.symm⟩,fun d hd=> ?_⟩
 obtain⟨v,hv,dv⟩:=hs.get hd
 refine⟨⟨xs,v,hx,hv⟩,fun u H' ⟨e,y⟩=> ?_⟩
 subst e
 have:=y xs hx
 rw [hv]at this
 cases this
 exact⟨G2,Ext.refl g2,dv.mono g1⟩
theorem wk_rng{lo:Int}{n:Nat}:Wk K cl (Itr lo n) G ((List.range n).map fun(i:Nat)=>D.int (lo+i)):=by
 intro H G2 i g1 g2
 refine⟨fun hi=> ?_,fun d hd=> ?_⟩
 ·rw [List.length_map,List.length_range]at hi
  exact Nat.le_of_eq hi.symm
 ·have hi:i<n:=by
   have:=(List.getElem?_eq_some_iff.mp hd).1
   simpa using this
  refine⟨hi,fun v H' ⟨e1,e2⟩=> ?_⟩
  subst e1 e2
  rw [List.getElem?_map,List.getElem?_range hi]at hd
  cases hd
  exact⟨G2,Ext.refl g2,.int _⟩
theorem enumD_get:∀ {l:List D} {k i:Nat} {d:D},(enumD k l)[i]?=some d→∃x,l[i]?=some x∧d=.tup [.int (k+i:Nat),x]
 |[],_,_,_,h=>by simp [enumD]at h
 |x::r,k,0,d,h=>by simp [enumD]at h;exact⟨x,rfl,by rw [←h];rfl⟩
 |x::r,k,i+1,d,h=>by
  obtain⟨y,e1,e2⟩:=enumD_get (l:=r) (k:=k+1) (i:=i) (d:=d) (by simpa [enumD]using h)
  exact⟨y,by simpa using e1,by rw [e2,show k+1+i=k+(i+1) by omega]⟩
theorem enumD_length:∀ {l:List D} {k:Nat},(enumD k l).length=l.length
 |[],_=>rfl
 |_::r,k=>by simp [enumD,enumD_length]
theorem wk_dn{hi:Int}{n:Nat}:Wk K cl (Itd hi n) G ((List.range n).map fun(j:Nat)=>D.int (hi-j)):=by
 intro H G2 i g1 g2
 refine⟨fun hn=> ?_,fun d hd=> ?_⟩
 ·rw [List.length_map,List.length_range]at hn
  exact Nat.le_of_eq hn.symm
 ·have hn:i<n:=by
   have:=(List.getElem?_eq_some_iff.mp hd).1
   simpa using this
  refine⟨hn,fun v H' ⟨e1,e2⟩=> ?_⟩
  subst e1 e2
  rw [List.getElem?_map,List.getElem?_range hn]at hd
  cases hd
  exact⟨G2,Ext.refl g2,.int _⟩
theorem wk_rev{a:Addr}{xs:List V}{ds:List D}(h:RL K G a xs)(hs:Dns K cl G xs ds):Wk K cl (Itv K a xs.length) G ds.reverse:=by
 intro H G2 i g1 g2
 have hx:SqL K H a xs:=(rl_mono (g1.trans g2) h).sql
 refine⟨fun hi=>by rw [List.length_reverse]at hi;exact hi.trans hs.length.symm,fun d hd=> ?_⟩
 obtain⟨v,hv,dv⟩:=hs.reverse.get hd
 have hi:i<xs.length:=by simpa using(List.getElem?_eq_some_iff.mp hv).1
 refine⟨⟨hi,xs,hx,rfl⟩,fun u H' ⟨e,y⟩=> ?_⟩
 subst e
 have:=y xs hx
 rw [List.getElem?_reverse hi]at hv
 rw [hv]at this
 cases this
 exact⟨G2,Ext.refl g2,dv.mono g1⟩
theorem wk_enm{a:Addr}{xs:List V}{ds:List D}(h:RL K G a xs)(hs:Dns K cl G xs ds):Wk K cl (Ite K a) G (enumD 0 ds):=by
 intro H G2 i g1 g2
 have hx:SqL K H a xs:=(rl_mono (g1.trans g2) h).sql
 refine⟨fun hi=>⟨xs,hx,by rw [hs.length,←enumD_length (k:=0)];exact Nat.le_of_eq hi.symm⟩,fun d hd=> ?_⟩
 obtain⟨x,hx',rfl⟩:=enumD_get hd
 obtain⟨v,hv,dv⟩:=hs.get hx'
 refine⟨⟨xs,v,hx,hv⟩,fun u H' ⟨p,w,e1,hp,e2,y⟩=> ?_⟩
 subst e1 e2
 have:=y xs hx
 rw [hv]at this
 cases this
 refine⟨_,Ext.new g2 hp _,.tup upd_same (.cons ?_ (.cons ?_ .nil))⟩
 ·rw [Nat.zero_add];exact .int _
 ·exact dv.mono (g1.trans (same_upd (g2.free hp) _))
end
section
variable{X:Cx}{cl:Nat→Option Addr}{Γ:Tab}{tg:Expr}
theorem pi_seqD{e:Expr}{m:E}(h:PE X e (tV X.K cl Γ m))(nr:isRng m=false):PI X tg e (tI X.K cl Γ m):=by
 intro pins s σ H R I ⟨G,env,ds,sg,en,e,q⟩
 obtain⟨d,e1,e2⟩:=bsi e
 cases d with
 |lst l=>
  cases e2
  refine pi_list h pins s σ H R I ⟨G,env,.lst ds,sg,en,e1,fun v H1 G1 x1 d1=> ?_⟩
  cases d1 with|lst h1 h2=>
   exact⟨_,rfl,⟨_,(rl_mono x1.gh h1).sql⟩,q _ H1 G1 x1 (wk_list' h1 h2) (fun z=>by rw [nr]at z;cases z)⟩
 |tup l=>
  cases e2
  refine pi_tup h pins s σ H R I ⟨G,env,.tup ds,sg,en,e1,fun v H1 G1 x1 d1=> ?_⟩
  cases d1 with|tup h1 h2=>
   exact⟨_,rfl,⟨_,.inl (.inl (x1.gh _ _ h1))⟩,q _ H1 G1 x1 (wk_tup h1 h2) (fun z=>by rw [nr]at z;cases z)⟩
 |_=>cases e2
theorem rngD_some{lo hi:Int}{l:List D}(h:rngD lo hi=some l):(-(2 ^ 60)≤lo∧lo≤2 ^ 60∧-(2 ^ 60)≤hi∧hi≤2 ^ 60)∧l=(List.range (hi-lo).toNat).map fun(i:Nat)=>D.int (lo+i):=by
 unfold rngD at h
 split at h
 ·rename_i c;cases h;exact⟨of_decide_eq_true c,rfl⟩
 ·cases h
theorem pi_rngD{a:Expr}{m:E}{p pos:Pos}(hg:Gl X "range")(hm:X.mg "range"=none)(h:PE X a (tV X.K cl Γ m))(ok:okE a=true):PI X tg (.Call (.Name "range" p) [a] [] pos) (tI X.K cl Γ (.rng m)):=by
 refine piI (pi_range1 hg hm (pa_cons h pa_nil (star_of ok _ _)) (star_of ok _ _)) fun σ H R ⟨G,env,ds,sg,en,e,q⟩=> ?_
 obtain⟨d,e1,e2⟩:=bsi e
 obtain⟨x,ex,e1⟩:=bsi (show(ev Γ m env).bind (fun x=>rng2D (.int 0) x)=some d from e1)
 refine⟨G,env,x,sg,en,ex,fun v H1 G1 x1 d1=> ?_⟩
 cases x with
 |int n=>
  obtain⟨l,e3,rfl⟩:=msi e1
  cases e2
  cases d1
  obtain⟨⟨b1,b2,b3,b4⟩,rfl⟩:=rngD_some e3
  refine⟨n,rfl,by omega,by omega,q _ H1 G1 x1 ?_ fun _ G2=> ?_⟩
  all_goals
   rw [Int.sub_zero]
   exact wk_rng
 |_=>cases e1
theorem pi_rng2D{a b:Expr}{m l:E}{p pos:Pos}(hg:Gl X "range")(hm:X.mg "range"=none)(h:PE X a (tV X.K cl Γ m))(h':PE X b (tV X.K cl Γ l))(ok:okE a=true)(ok':okE b=true):PI X tg (.Call (.Name "range" p) [a,b] [] pos) (tI X.K cl Γ (.rng2 m l)):=by
 refine piI (pi_range2 hg hm (pa_cons h (pa_cons h' pa_nil (star_of ok' _ _)) (star_of ok _ _)) (by rw [star_of ok,star_of ok']<;>rfl) (star_of ok' _ _)) fun σ H R ⟨G,env,ds,sg,en,e,q⟩=> ?_
 obtain⟨d,e1,e2⟩:=bsi e
 obtain⟨x,ex,e1⟩:=bsi (show(ev Γ m env).bind (fun x=>(ev Γ l env).bind fun y=>rng2D x y)=some d from e1)
 obtain⟨y,ey,e1⟩:=bsi e1
 refine⟨G,env,x,sg,en,ex,fun v H1 G1 x1 d1=>⟨G1,env,y,x1.gh,en.mono x1.gg,ey,fun u H2 G2 x2 d2=> ?_⟩⟩
 cases x with
 |int n=>
  cases y with
  |int k=>
   obtain⟨l,e3,rfl⟩:=msi e1
   cases e2
   cases d1
   cases d2
   obtain⟨⟨b1,b2,b3,b4⟩,rfl⟩:=rngD_some e3
   exact⟨n,k,rfl,⟨by omega,by omega,by omega,by omega⟩,q _ H2 G2 (x1.trans x2) wk_rng fun _ _=>wk_rng⟩
  |_=>cases e1
 |_=>cases e1
theorem dn_some{x d:D}(h:unD .ldn x=some d):∃i:Int,x=.int i∧-(2 ^ 30)≤i∧i≤1000000∧d=.lst ((List.range (i+1).toNat).map fun(j:Nat)=>D.int (i-j)):=by
 cases x with
 |int i=>
  replace h:(if decide (-(2 ^ 30)≤i∧i≤1000000)then some (D.lst ((List.range (i+1).toNat).map fun(j:Nat)=>D.int (i-j)))else none)=some d:=h
  split at h
  ·rename_i c
   cases h
   exact⟨i,rfl,(of_decide_eq_true c).1,(of_decide_eq_true c).2,rfl⟩
  ·cases h
 |_=>cases h
theorem pi_dnD{a s1 s2:Expr}{m:E}{p pos:Pos}(hg:Gl X "range")(hm:X.mg "range"=none)(h:PE X a (tV X.K cl Γ m))(h1:PE X s1 (tV X.K cl Γ (.un .neg (.int 1))))(h2:PE X s2 (tV X.K cl Γ (.un .neg (.int 1))))(ok:okE a=true)(ok1:okE s1=true)(ok2:okE s2=true):PI X tg (.Call (.Name "range" p) [a,s1,s2] [] pos) (tI X.K cl Γ (.dn m)):=by
 refine piI (pi_range3 hg hm (pa_cons h (pa_cons h1 (pa_cons h2 pa_nil (star_of ok2 _ _)) (star_of ok1 _ _)) (star_of ok _ _)) (by rw [star_of ok,star_of ok1,star_of ok2]<;>rfl) (by rw [star_of ok1,star_of ok2]<;>rfl)) fun σ H R ⟨G,env,ds,sg,en,e,q⟩=> ?_
 obtain⟨d,e1,e2⟩:=bsi e
 obtain⟨x,ex,e1⟩:=bsi (show(ev Γ m env).bind (unD .ldn)=some d from e1)
 obtain⟨i,rfl,b1,b2,rfl⟩:=dn_some e1
 cases e2
 refine⟨G,env,_,sg,en,ex,fun v H1 G1 x1 d1=>⟨G1,env,.int (-1),x1.gh,en.mono x1.gg,rfl,fun u H2 G2 x2 d2=>⟨G2,env,.int (-1),x2.gh,(en.mono x1.gg).mono x2.gg,rfl,fun t H3 G3 x3 d3=> ?_⟩⟩⟩
 cases d1
 cases d2
 cases d3
 exact⟨i,rfl,b1,by omega,q _ H3 G3 ((x1.trans x2).trans x3) wk_dn fun _ _=>wk_dn⟩
theorem pi_rvdD{a:Expr}{m:E}{p pos:Pos}(hg:Gl X "reversed")(hm:X.mg "reversed"=none)(h:PE X a (tV X.K cl Γ m))(ok:okE a=true):PI X tg (.Call (.Name "reversed" p) [a] [] pos) (tI X.K cl Γ (.rvd m)):=by
 refine piI (pi_rev hg hm (pa_cons h pa_nil (star_of ok _ _)) (star_of ok _ _)) fun σ H R ⟨G,env,ds,sg,en,e,q⟩=> ?_
 obtain⟨d,e1,e2⟩:=bsi e
 obtain⟨x,ex,e1⟩:=bsi (show(ev Γ m env).bind revD=some d from e1)
 refine⟨G,env,x,sg,en,ex,fun v H1 G1 x1 d1=> ?_⟩
 cases x with
 |lst l=>
  cases e1
  cases e2
  cases d1 with|lst h1 h2=>
   exact⟨_,_,rfl,(rl_mono x1.gh h1).sql,q _ H1 G1 x1 (wk_rev h1 h2) (fun z=>by cases z)⟩
 |_=>cases e1
theorem pi_enmD{elts:List Expr}{k:Nat}{tpos:Pos}{a:Expr}{m:E}{p pos:Pos}(hg:Gl X "enumerate")(hm:X.mg "enumerate"=none)(h:PE X a (tV X.K cl Γ m))(ok:okE a=true):PI X (.Tuple elts k tpos) (.Call (.Name "enumerate" p) [a] [] pos) (tI X.K cl Γ (.enm m)):=by
 refine piI (pi_enum hg hm (pa_cons h pa_nil (star_of ok _ _)) (star_of ok _ _)) fun σ H R ⟨G,env,ds,sg,en,e,q⟩=> ?_
 obtain⟨d,e1,e2⟩:=bsi e
 obtain⟨x,ex,e1⟩:=bsi (show(ev Γ m env).bind enmD=some d from e1)
 refine⟨G,env,x,sg,en,ex,fun v H1 G1 x1 d1=> ?_⟩
 cases x with
 |lst l=>
  cases e1
  cases e2
  cases d1 with|lst h1 h2=>
   exact⟨_,rfl,⟨_,(rl_mono x1.gh h1).sql⟩,q _ H1 G1 x1 (wk_enm h1 h2) (fun z=>by cases z)⟩
 |_=>cases e1
theorem compR_snoc{f:D→Option (Option D)}{d:D}{r:List D}{l:List D}(h:compR f (d::r)=some l):∃o t,f d=some o∧compR f r=some t∧l=oc o t:=by
 obtain⟨o,h1,h⟩:=bsi (show(f d).bind (fun o=>(compR f r).map fun l=>oc o l)=some l from h)
 obtain⟨t,h2,rfl⟩:=msi h
 exact⟨o,t,h1,h2,rfl⟩
theorem comp_tV{wi:E}{is:List Nat}{me mc:E}{K:PySem.W.Frag}{tt:TT}(htt:∀σ H (Q:Bool→Hp→Prop),(∃G env b,Same G H∧EnvD K cl G env σ∧cS mc (ev Γ mc env)=some b∧∀H' G',Ext H G H' G'→Q b H')→tt σ H Q){σ:St}{H:Hp}{Q:VK}:
 tV K cl Γ (.comp me is wi mc) σ H Q→tComp (tI K cl Γ wi) is tt (tV K cl Γ me) σ H Q:=by
 rintro ⟨G,env,d,sg,en,e,q⟩
 obtain⟨ds,e1,e⟩:=bsi (show((ev Γ wi env).bind walkD).bind (fun ds=>if sz ds.length then(compR (fun d=>(cS mc (ev Γ mc (inner env is d))).bind fun b=>if b then(ev Γ me (inner env is d)).map some else some none) ds).map .lst else none)=some d from e)
 split at e
 ·rename_i hz
  obtain⟨out,e2,rfl⟩:=msi e
  generalize hf:(fun d=>(cS mc (ev Γ mc (inner env is d))).bind fun b=>if b then(ev Γ me (inner env is d)).map some else some none)=f at e2
  have hfd:∀d,f d=(cS mc (ev Γ mc (inner env is d))).bind fun b=>if b then(ev Γ me (inner env is d)).map some else some none:=fun d=>by rw [←hf]
  clear hf
  have hz':=of_decide_eq_true hz
  refine⟨G,env,ds,sg,en,e1,fun J H1 G1 x1 wk _ D hD=> ?_⟩
  have gD:G1 D=none:=x1.gh.free hD
  refine⟨fun i k H2=>k=ds.length-i∧i≤ds.length∧∃G2 ys es rest,Ext H1 G1 H2 G2∧H2 D=some (.lst ys)∧G2 D=none∧Dns K cl G2 ys es∧ys.length≤i∧compR f (ds.drop i)=some rest∧es++rest=out,⟨ds.length,by simp,Nat.zero_le _,G1,[],[],out,⟨same_upd hD _,.refl _,x1.gh.trans (same_upd hD _),fun b o h1 h2=>by rw [h1]at h2;cases h2⟩,upd_same,gD,.nil,by simp,e2,rfl⟩,?_⟩
  rintro i k H2 ⟨rfl,hi,G2,ys,es,rest,x2,hy,g2D,dy,hle,hr,ho⟩
  obtain⟨w1,w2⟩:=wk H2 G2 i x2.gg x2.gh
  by_cases hlt:i<ds.length
  ·have hd:ds[i]?=some ds[i]:=List.getElem?_eq_getElem hlt
   obtain⟨g,y⟩:=w2 _ hd
   refine .inr ⟨g,fun v H3 yl=> ?_⟩
   obtain⟨G3,x3,d3⟩:=y v H3 yl
   rw [List.drop_eq_getElem_cons hlt]at hr
   obtain⟨o,t,f1,f2,f3⟩:=compR_snoc hr
   rw [hfd]at f1
   obtain⟨b,c1,c2⟩:=bsi f1
   have en3:EnvD K cl G3 (inner env is ds[i]) (compSt σ is (some v)):=(en.mono ((x1.gg.trans x2.gg).trans x3.gg)).inner d3 is
   have g3D:G3 D=none:=by
    cases z:G3 D with
    |none=>rfl
    |some o=>have:=x3.nw D o z g2D;rw [hy]at this;cases this
   refine htt _ _ _ ⟨G3,_,b,x3.gh,en3,c1,fun H4 G4 x4=> ?_⟩
   have g4D:G4 D=none:=by
    cases z:G4 D with
    |none=>rfl
    |some o=>have:=x4.nw D o z g3D;rw [x3.hh _ _ hy]at this;cases this
   cases b with
   |false=>
    have c2':some none=some o:=c2
    cases c2'
    exact iteF ⟨ds.length-(i+1),by omega,rfl,hlt,G4,ys,es,t,(x2.trans x3).trans x4,x4.hh _ _ (x3.hh _ _ hy),g4D,dy.mono (x3.gg.trans x4.gg),by omega,f2,by rw [←ho,f3];rfl⟩
   |true=>
    obtain⟨z,c3,c4⟩:=msi (show(ev Γ me (inner env is ds[i])).map some=some o from c2)
    subst c4
    refine iteT ⟨G4,_,z,x4.gh,en3.mono x4.gg,c3,fun u H5 G5 x5 d5=> ?_⟩
    have g5D:G5 D=none:=by
     cases z:G5 D with
     |none=>rfl
     |some o=>have:=x5.nw D o z g4D;rw [x4.hh _ _ (x3.hh _ _ hy)]at this;cases this
    have hy5:H5 D=some (.lst ys):=x5.hh _ _ (x4.hh _ _ (x3.hh _ _ hy))
    refine⟨ys,hy5,by rw [sizeLine_eq];omega,ds.length-(i+1),by omega,rfl,hlt,G5,ys++[u],es++[z],t,?_,upd_same,g5D,(dy.mono ((x3.gg.trans x4.gg).trans x5.gg)).append (.cons d5 .nil),by rw [List.length_append,List.length_singleton];omega,f2,by rw [←ho,f3,List.append_assoc];rfl⟩
    have x25:=((x2.trans x3).trans x4).trans x5
    exact⟨fun b o h=>by rw [upd_ne (ne_of_none h hD)];exact x25.hh _ _ h,x25.gg,fun b o h=>by rw [upd_ne (ne_of_none h g5D)];exact x25.gh _ _ h,x25.nw⟩
  ·have e0:i=ds.length:=by omega
   subst e0
   refine .inl ⟨w1 rfl,?_⟩
   rw [List.drop_length]at hr
   have hr':some []=some rest:=hr
   cases hr'
   rw [List.append_nil]at ho
   subst ho
   have s2:=same_upd g2D (.lst ys)
   refine q _ H2 (upd G2 D (.lst ys)) (x1.trans ⟨x2.hh,x2.gg.trans s2,fun b o h=> ?_,fun b o h n=> ?_⟩) (.lst (.inl (.inl upd_same)) (dy.mono s2))
   ·by_cases eb:b=D
    ·subst eb;rw [upd_same]at h;cases h;exact hy
    ·rw [upd_ne eb]at h;exact x2.gh _ _ h
   ·by_cases eb:b=D
    ·subst eb;exact hD
    ·rw [upd_ne eb]at h;exact x2.nw _ _ h n
 ·cases e
end
end MI
end
noncomputable section
namespace MI
open PySem L2
theorem relab_glob{env:PySem.Env}:∀ {names:List (Str×NameKind)} {y:Str},names.lookup y=some .globalImplicit→(relab env names).lookup y=some .globalImplicit
 |[],_,h=>by simp at h
 |(n,k)::r,y,h=>by
  have e:relab env ((n,k)::r)=(if(k==NameKind.free&&env.scope.kind==.function&&env.kindOf n==some .cell)=true then(n,NameKind.cell)else(n,k))::relab env r:=rfl
  rw [e]
  cases hx:y==n with
  |true=>
   simp only [List.lookup_cons,hx]at h
   have hk:k=.globalImplicit:=Option.some.inj h
   subst hk
   rw [if_neg (by rw [show(NameKind.globalImplicit==NameKind.free)=false from rfl];simp)]
   simp only [List.lookup_cons,hx]
  |false=>
   simp only [List.lookup_cons,hx]at h
   by_cases hc:(k==NameKind.free&&env.scope.kind==.function&&env.kindOf n==some .cell)=true
   ·rw [if_pos hc];simp only [List.lookup_cons,hx];exact relab_glob h
   ·rw [if_neg hc];simp only [List.lookup_cons,hx];exact relab_glob h
section
variable{X:Cx}{cl:Nat→Option Addr}{Γ:Tab}{c:CC}
theorem Sees.comp{N:List Str}{sc scope:Scope}{x:Str}{fr:List Str}{is:List Nat}(S:Sees X cl c Γ true N sc)(cs:CompScope sc N scope x fr is)(C:Addr)(s:Shared)(H:Hp)(fp:List Addr)(pins:List (Addr×Obj)):
 Sees (compCx X scope (x::fr) C s H fp pins) cl c Γ false (x::fr) scope:=by
 refine⟨rfl,fun i y hy=> ?_,fun y hy=>relab_glob hy,(fun h=>by cases h),S.calm,S.hu,S.blt,fun x f g h1 h2=>⟨(S.fn x f g h1 h2).ex⟩,S.gi,S.cls,fun c C k m g h0 h1 h2=>⟨(S.mth c C k m g h0 h1 h2).ex⟩,S.cn⟩
 cases i with
 |zero=>
  have hy':some x=some y:=hy
  cases hy'
  exact .inl (lookup_relabel_local cs.var)
 |succ i=>
  have hy':fr[i]?=some y:=hy
  exact .inr (relab_free (cs.look y (List.mem_of_getElem? hy')))
theorem lset_in{K:PySem.W.Frag}{G H:Hp}{z d:D}{v:V}(gh:Same G H)(e:unD .lset z=some d)(dn:Dn K cl G v z):∃ns:List Int,z=.lst (ns.map D.int)∧ns.length<64∧(∃p,v=.ref p∧SqL K H p (ns.map V.int))∧d=.int (ddp ns).length:=by
 cases z with
 |lst l=>
  obtain⟨ns,e1,e3⟩:=bsi (show(intsD l).bind (fun ns=>if decide (ns.length<64)then some (D.int (ddp ns).length)else none)=some d from e)
  have e1:=intsD_eq e1
  subst e1
  split at e3
  ·rename_i hz
   cases e3
   cases dn with|lst h1 h2=>
    have e2:=h2.ints
    subst e2
    exact⟨ns,rfl,of_decide_eq_true hz,⟨_,rfl,(rl_mono gh h1).sql⟩,rfl⟩
  ·cases e3
 |_=>cases e
theorem isM1_ok{o:Option E}(h:isM1 o=true):o=some (.un .neg (.int 1)):=by
 unfold isM1 at h
 split at h
 ·rfl
 ·cases h
theorem cb_ok{N:List Str}{sc:Scope}{top:Bool}{f:Expr→Option E}{x:Str}{args:List Expr}{m:E}{p pos:Pos}(S:Sees X cl c Γ top N sc)(ih:∀e m,f e=some m→PE X e (tV X.K cl Γ m))(ok:args.all okE=true)(gx:isGl N sc x=true)
 (h:cB (fun y=>isGl N sc y&&(c.tab.lookup y).isNone) (fun y=>if isGl N sc y then c.cn.lookup y else none) f x args=some m):PE X (.Call (.Name x p) args [] pos) (tV X.K cl Γ m):=by
 obtain⟨o1,g1⟩:=isGl_ok gx
 have gg:=S.gl x g1
 unfold cB at h
 split at h
 ·rename_i a
  rw [List.all_cons,Bool.and_eq_true]at ok
  have oa:=ok.1
  split at h
  ·rename_i e
   have e:x="len":=by simpa using e
   subst e
   have plain:∀ {m:E},(f a).map (E.un .len)=some m→PE X (.Call (.Name "len" p) [a] [] pos) (tV X.K cl Γ m):=by
    intro m h
    obtain⟨ma,h1,rfl⟩:=msi h
    exact peI (pe_callB (b_len (cl:=cl)) gg (S.blt _ (by decide+kernel)) bt_len (pa_cons (ih a ma h1) pa_nil (star_of oa _ _)) (by decide) (by decide) (star_of oa _ _) rfl) fun σ H Q q=>tVB1 (fun _=>rfl) q
   split at h
   ·rename_i y py b pb
    split at h
    ·rename_i hr
     obtain⟨hr,ob⟩:=(Bool.and_eq_true _ _).mp hr
     obtain⟨hr1,hr2⟩:=(Bool.and_eq_true _ _).mp hr
     obtain⟨hr1,_⟩:=(Bool.and_eq_true _ _).mp hr1
     have e:y="set":=by simpa using hr2
     subst e
     obtain⟨mb,h1,rfl⟩:=msi h
     obtain⟨_,g2⟩:=isGl_ok hr1
     refine peI (pe_callB call_lenX gg (S.blt _ (by decide+kernel)) bt_len (pa_cons (pe_callTy (call_setX S.calm) (S.gl _ g2) (S.blt _ (by decide+kernel)) bt_set (pa_cons (ih b mb h1) pa_nil (star_of ob _ _)) (by decide) (by decide) (star_of ob _ _) rfl) pa_nil rfl) (by decide) (by decide) rfl rfl) fun σ H Q ⟨G,env,d,sg,en,e,q⟩=> ?_
     obtain⟨z,e1,e⟩:=bsi (show(ev Γ mb env).bind (unD .lset)=some d from e)
     refine⟨G,env,z,sg,en,e1,fun v H1 G1 x1 d1=> ?_⟩
     obtain⟨ns,rfl,hz,⟨pp,rfl,h2⟩,rfl⟩:=lset_in x1.gh e d1
     refine⟨_,ns,rfl,h2,hz,fun l hl=> ?_⟩
     have x2:=Ext.newO x1.gh hl (.ext (setφ X.prog X.w ns l))
     refine⟨l,ns,rfl,upd_same,hz,fun ms a1 a2=> ?_⟩
     rw [((List.perm_ext_iff_of_nodup a1 (ddp_nodup ns)).mpr fun x=>(a2 x).trans ddp_mem.symm).length_eq]
     exact endS x2.gh (fun z H3 G3 x3 d3=>q z H3 G3 ((x1.trans x2).trans x3) d3) (.int _)
    ·exact plain h
   ·exact plain h
  split at h
  ·rename_i e
   have e:x="list":=by simpa using e
   subst e
   have plain:∀ {m:E},(f a).map (E.un .list)=some m→PE X (.Call (.Name "list" p) [a] [] pos) (tV X.K cl Γ m):=by
    intro m h
    obtain⟨ma,h1,rfl⟩:=msi h
    exact peI (pe_callTy (b_list (cl:=cl)) gg (S.blt _ (by decide+kernel)) bt_list (pa_cons (ih a ma h1) pa_nil (star_of oa _ _)) (by decide) (by decide) (star_of oa _ _) rfl) fun σ H Q q=>tVB1 (fun _=>rfl) q
   split at h
   ·rename_i y py b pb
    split at h
    ·rename_i hr
     obtain⟨hr,ob⟩:=(Bool.and_eq_true _ _).mp hr
     obtain⟨hr1,hr2⟩:=(Bool.and_eq_true _ _).mp hr
     obtain⟨hr1,_⟩:=(Bool.and_eq_true _ _).mp hr1
     have e:y="range":=by simpa using hr2
     subst e
     obtain⟨mb,h1,rfl⟩:=msi h
     obtain⟨_,g2⟩:=isGl_ok hr1
     refine peI (pe_callTy (call_list_rng S.calm) gg (S.blt _ (by decide+kernel)) bt_list (pa_cons (pe_callTy call_range1R (S.gl _ g2) (S.blt _ (by decide+kernel)) bt_range (pa_cons (ih b mb h1) pa_nil (star_of ob _ _)) (by decide) (by decide) (star_of ob _ _) rfl) pa_nil rfl) (by decide) (by decide) rfl rfl) fun σ H Q ⟨G,env,d,sg,en,e,q⟩=> ?_
     obtain⟨z,e1,e⟩:=bsi (show(ev Γ mb env).bind (unD .lrng)=some d from e)
     refine⟨G,env,z,sg,en,e1,fun v H1 G1 x1 d1=> ?_⟩
     cases z with
     |int n=>
      have e':(if decide (-(2 ^ 60)≤n∧n≤1000000)then some (D.lst ((List.range n.toNat).map fun(i:Nat)=>D.int i))else none)=some d:=e
      split at e'
      ·rename_i hn
       have hn:=of_decide_eq_true hn
       cases e'
       cases d1
       refine⟨n,rfl,fun p hp=> ?_⟩
       have x2:=Ext.newO x1.gh hp (.rng 0 n)
       refine⟨p,0,n,rfl,upd_same,by decide,by decide,by omega,by omega,by omega,fun l hl=> ?_⟩
       rw [Int.sub_zero]
       refine endL x2.gh (fun z H3 G3 x3 d3=>q z H3 G3 ((x1.trans x2).trans x3) d3) hl ?_
       have e3:((List.range n.toNat).map fun(i:Nat)=>V.int (0+(i:Int)))=((List.range n.toNat).map fun(i:Nat)=>(i:Int)).map V.int:=by simp
       have e4:((List.range n.toNat).map fun(i:Nat)=>D.int (i:Int))=((List.range n.toNat).map fun(i:Nat)=>(i:Int)).map D.int:=by simp
       rw [e3,e4]
       exact dns_ints _
      ·cases e'
     |_=>cases e
    ·exact plain h
   ·rename_i y py b s1 s2 pb
    split at h
    ·rename_i hr
     obtain⟨hr,m2⟩:=(Bool.and_eq_true _ _).mp hr
     obtain⟨hr,m1⟩:=(Bool.and_eq_true _ _).mp hr
     obtain⟨hr,ob⟩:=(Bool.and_eq_true _ _).mp hr
     obtain⟨ob,o2⟩:=(Bool.and_eq_true _ _).mp ob
     obtain⟨ob,o1⟩:=(Bool.and_eq_true _ _).mp ob
     obtain⟨hr1,hr2⟩:=(Bool.and_eq_true _ _).mp hr
     obtain⟨hr1,_⟩:=(Bool.and_eq_true _ _).mp hr1
     have e:y="range":=by simpa using hr2
     subst e
     obtain⟨mb,h1,rfl⟩:=msi h
     obtain⟨_,g2⟩:=isGl_ok hr1
     refine peI (pe_callTy (call_list_dn S.calm) gg (S.blt _ (by decide+kernel)) bt_list (pa_cons (pe_callTy call_range3R (S.gl _ g2) (S.blt _ (by decide+kernel)) bt_range (pa_cons (ih b mb h1) (pa_cons (ih s1 _ (isM1_ok m1)) (pa_cons (ih s2 _ (isM1_ok m2)) pa_nil (star_of o2 _ _)) (star_of o1 _ _)) (star_of ob _ _)) (by decide) (by decide) (star_of ob _ _) (star_any (es:=[s1,s2]) (by rw [List.all_cons,List.all_cons,o1,o2];rfl) _ _)) pa_nil rfl) (by decide) (by decide) rfl rfl) fun σ H Q ⟨G,env,d,sg,en,e,q⟩=> ?_
     obtain⟨z,e1,e⟩:=bsi (show(ev Γ mb env).bind (unD .ldn)=some d from e)
     obtain⟨i,rfl,b1,b2,rfl⟩:=dn_some e
     refine⟨G,env,_,sg,en,e1,fun v H1 G1 x1 d1=>⟨G1,env,.int (-1),x1.gh,en.mono x1.gg,rfl,fun u H2 G2 x2 d2=>⟨G2,env,.int (-1),x2.gh,(en.mono x1.gg).mono x2.gg,rfl,fun t H3 G3 x3 d3=> ?_⟩⟩⟩
     cases d1
     cases d2
     cases d3
     refine⟨i,rfl,b1,by omega,fun p hp=> ?_⟩
     have x4:=Ext.newO x3.gh hp (.ext (dnφ i p))
     refine⟨p,i,rfl,upd_same,b1,b2,fun l hl=> ?_⟩
     refine endL x4.gh (fun z H5 G5 x5 d5=>q z H5 G5 ((((x1.trans x2).trans x3).trans x4).trans x5) d5) hl ?_
     have e3:((List.range (i+1).toNat).map fun(j:Nat)=>V.int (i-(j:Int)))=((List.range (i+1).toNat).map fun(j:Nat)=>i-(j:Int)).map V.int:=by simp
     have e4:((List.range (i+1).toNat).map fun(j:Nat)=>D.int (i-(j:Int)))=((List.range (i+1).toNat).map fun(j:Nat)=>i-(j:Int)).map D.int:=by simp
     rw [e3,e4]
     exact dns_ints _
    ·exact plain h
   ·exact plain h
  split at h
  ·rename_i e
   have e:x="any":=by simpa using e
   subst e
   obtain⟨ma,h1,rfl⟩:=msi h
   exact peI (pe_callB (b_any (cl:=cl) S.calm) gg (S.blt _ (by decide+kernel)) bt_any (pa_cons (ih a ma h1) pa_nil (star_of oa _ _)) (by decide) (by decide) (star_of oa _ _) rfl) fun σ H Q q=>tVB1 (fun _=>rfl) q
  split at h
  ·rename_i e
   have e:x="all":=by simpa using e
   subst e
   obtain⟨ma,h1,rfl⟩:=msi h
   exact peI (pe_callB (b_all (cl:=cl) S.calm) gg (S.blt _ (by decide+kernel)) bt_all (pa_cons (ih a ma h1) pa_nil (star_of oa _ _)) (by decide) (by decide) (star_of oa _ _) rfl) fun σ H Q q=>tVB1 (fun _=>rfl) q
  split at h
  ·rename_i e
   have e:x="max":=by simpa using e
   subst e
   obtain⟨ma,h1,rfl⟩:=msi h
   exact peI (pe_callB (b_max (cl:=cl) S.calm) gg (S.blt _ (by decide+kernel)) bt_max (pa_cons (ih a ma h1) pa_nil (star_of oa _ _)) (by decide) (by decide) (star_of oa _ _) rfl) fun σ H Q q=>tVB1 (fun _=>rfl) q
  ·cases h
 ·rename_i a b
  rw [List.all_cons,Bool.and_eq_true,List.all_cons,Bool.and_eq_true]at ok
  have oa:=ok.1
  have ob:=ok.2.1
  split at h
  ·rename_i e
   have e:x="min":=by simpa using e
   subst e
   obtain⟨ma,h1,h⟩:=bsi h
   obtain⟨mb,h2,rfl⟩:=msi h
   exact peI (pe_callB (b_min2 (cl:=cl) S.calm) gg (S.blt _ (by decide+kernel)) bt_min (pa_cons (ih a ma h1) (pa_cons (ih b mb h2) pa_nil (star_of ob _ _)) (star_of oa _ _)) (by decide) (by decide) (star_of oa _ _) (star_any (es:=[b]) (by rw [List.all_cons,ob];rfl) _ _)) fun σ H Q q=>tVB2 (fun _=>rfl) q
  split at h
  ·rename_i e
   have e:x="max":=by simpa using e
   subst e
   obtain⟨ma,h1,h⟩:=bsi h
   obtain⟨mb,h2,rfl⟩:=msi h
   exact peI (pe_callB (b_max2 (cl:=cl) S.calm) gg (S.blt _ (by decide+kernel)) bt_max (pa_cons (ih a ma h1) (pa_cons (ih b mb h2) pa_nil (star_of ob _ _)) (star_of oa _ _)) (by decide) (by decide) (star_of oa _ _) (star_any (es:=[b]) (by rw [List.all_cons,ob];rfl) _ _)) fun σ H Q q=>tVB2 (fun _=>rfl) q
  split at h
  ·rename_i e
   have e:x="isinstance":=by simpa using e
   subst e
   split at h
   ·rename_i t pt
    split at h
    ·rename_i j hj
     obtain⟨ma,h1,rfl⟩:=msi h
     replace hj:(if isGl N sc t then c.cn.lookup t else none)=some j:=hj
     split at hj
     ·rename_i ht
      obtain⟨ot,gt⟩:=isGl_ok ht
      obtain⟨J,hJ,hmg⟩:=S.cn t j hj
      exact pe_iscD S.cls (ih a ma h1) oa gg (S.blt _ (by decide+kernel)) (S.gl t gt) hmg hJ ot
     ·cases hj
    split at h
    ·rename_i ht
     obtain⟨ht,_⟩:=(Bool.and_eq_true _ _).mp ht
     obtain⟨k,hk,h⟩:=bsi h
     obtain⟨ma,h1,rfl⟩:=msi h
     obtain⟨ot,gt⟩:=isGl_ok ht
     exact pe_isiD (ih a ma h1) oa gg (S.blt _ (by decide+kernel)) (S.gl t gt) (S.blt _ (tyCode_ok hk).1) hk ot
    ·cases h
   ·cases h
  ·cases h
 ·cases h
theorem ci_ok{N:List Str}{sc:Scope}{top:Bool}{f:Expr→Option E}{e:Expr}{m:E}{tg:Expr}{tt:Bool}(S:Sees X cl c Γ top N sc)(ih:∀e m,f e=some m→PE X e (tV X.K cl Γ m))(ht:tt=true→∃es k p,tg=.Tuple es k p)
 (h:cI tt (isGl N sc) (fun y=>(c.tab.lookup y).isSome) f e=some m):PI X tg e (tI X.K cl Γ m):=by
 have seq:noR (f e)=some m→PI X tg e (tI X.K cl Γ m):=fun h=>by
  obtain⟨m',h1,h2⟩:=bsi h
  split at h2
  ·cases h2
  ·rename_i nr
   cases h2
   exact pi_seqD (ih e m h1) (by simpa using nr)
 unfold cI at h
 split at h
 ·rename_i x p a pos
  split at h
  ·rename_i hx
   obtain⟨hx,oa⟩:=(Bool.and_eq_true _ _).mp hx
   obtain⟨hx,e⟩:=(Bool.and_eq_true _ _).mp hx
   obtain⟨hx,_⟩:=(Bool.and_eq_true _ _).mp hx
   have e:x="range":=by simpa using e
   subst e
   obtain⟨ma,h1,rfl⟩:=msi h
   exact pi_rngD (S.gl _ (isGl_ok hx).2) (S.blt _ (by decide+kernel)) (ih a ma h1) oa
  split at h
  ·rename_i hx
   obtain⟨hx,oa⟩:=(Bool.and_eq_true _ _).mp hx
   obtain⟨hx,e⟩:=(Bool.and_eq_true _ _).mp hx
   obtain⟨hx,_⟩:=(Bool.and_eq_true _ _).mp hx
   obtain⟨h2,hx⟩:=(Bool.and_eq_true _ _).mp hx
   have e:x="enumerate":=by simpa using e
   subst e
   obtain⟨ma,h1,rfl⟩:=msi h
   obtain⟨es,k,p',rfl⟩:=ht h2
   exact pi_enmD (S.gl _ (isGl_ok hx).2) (S.blt _ (by decide+kernel)) (ih a ma h1) oa
  split at h
  ·rename_i hx
   obtain⟨hx,oa⟩:=(Bool.and_eq_true _ _).mp hx
   obtain⟨hx,e⟩:=(Bool.and_eq_true _ _).mp hx
   obtain⟨hx,_⟩:=(Bool.and_eq_true _ _).mp hx
   have e:x="reversed":=by simpa using e
   subst e
   obtain⟨ma,h1,rfl⟩:=msi h
   exact pi_rvdD (S.gl _ (isGl_ok hx).2) (S.blt _ (by decide+kernel)) (ih a ma h1) oa
  ·exact seq h
 ·rename_i x p a b pos
  split at h
  ·rename_i hx
   obtain⟨hx,oa⟩:=(Bool.and_eq_true _ _).mp hx
   obtain⟨hx,e⟩:=(Bool.and_eq_true _ _).mp hx
   obtain⟨hx,_⟩:=(Bool.and_eq_true _ _).mp hx
   have e:x="range":=by simpa using e
   subst e
   obtain⟨ma,h1,h⟩:=bsi h
   obtain⟨mb,h2,rfl⟩:=msi h
   exact pi_rng2D (S.gl _ (isGl_ok hx).2) (S.blt _ (by decide+kernel)) (ih a ma h1) (ih b mb h2) ((Bool.and_eq_true _ _).mp oa).1 ((Bool.and_eq_true _ _).mp oa).2
  ·exact seq h
 ·rename_i x p a s1 s2 pos
  split at h
  ·rename_i hx
   obtain⟨hx,m2⟩:=(Bool.and_eq_true _ _).mp hx
   obtain⟨hx,m1⟩:=(Bool.and_eq_true _ _).mp hx
   obtain⟨hx,oa⟩:=(Bool.and_eq_true _ _).mp hx
   obtain⟨oa,o2⟩:=(Bool.and_eq_true _ _).mp oa
   obtain⟨oa,o1⟩:=(Bool.and_eq_true _ _).mp oa
   obtain⟨hx,e⟩:=(Bool.and_eq_true _ _).mp hx
   obtain⟨hx,_⟩:=(Bool.and_eq_true _ _).mp hx
   have e:x="range":=by simpa using e
   subst e
   obtain⟨ma,h1,rfl⟩:=msi h
   exact pi_dnD (S.gl _ (isGl_ok hx).2) (S.blt _ (by decide+kernel)) (ih a ma h1) (ih s1 _ (isM1_ok m1)) (ih s2 _ (isM1_ok m2)) oa o1 o2
  ·exact seq h
 ·exact seq h
theorem ty_RL{K:PySem.W.Frag}{H:Hp}{a:Addr}{xs:List V}(h:RL K H a xs):tyV K "list" (.ref a) H:=.inl ⟨rfl,xs,h.sql⟩
theorem pe_indD{x:Str}{p apos pos:Pos}{a:Expr}{mo ma:E}(ho:PE X (.Name x p) (tV X.K cl Γ mo))(ha:PE X a (tV X.K cl Γ ma))(oa:okE a=true)(bm:isBm apos pos=true):PE X (.Call (.Attribute (.Name x p) "index" apos) [a] [] pos) (tV X.K cl Γ (.ind mo ma)):=by
 refine peI (pe_bm PySem.F.plainAttrs_list PySem.F.slot_list_index PySem.F.type_list_index mt_index ho (pa_cons ha pa_nil (star_of oa _ _)) rfl (few_ok (es:=[a]) (by rw [List.all_cons,oa];rfl) _ _ (by simp)) bm (star_of oa _ _) rfl) fun σ H Q ⟨G,env,d,sg,en,e,q⟩=> ?_
 obtain⟨x,ex,e⟩:=bsi (show(ev Γ mo env).bind (fun x=>(ev Γ ma env).bind fun y=>indD x y)=some d from e)
 obtain⟨y,ey,e⟩:=bsi e
 refine⟨G,env,x,sg,en,ex,fun v H1 G1 x1 d1=> ?_⟩
 cases x with
 |lst l=>
  cases y with
  |int k=>
   obtain⟨ns,e1,e3⟩:=bsi (show(intsD l).bind (fun ns=>if PyData.layable0 (.list (ns.map .int))&&ns.contains k then some (D.int (ns.idxOf k:Nat))else none)=some d from e)
   have e1:=intsD_eq e1
   subst e1
   split at e3
   ·rename_i hc
    obtain⟨c1,c2⟩:=(Bool.and_eq_true _ _).mp hc
    cases e3
    cases d1 with|lst h1 h2=>
     have e2:=h2.ints
     subst e2
     refine⟨ty_RL (rl_mono x1.gh h1),G1,env,.int k,x1.gh,en.mono x1.gg,ey,fun u H2 G2 x2 d2=> ?_⟩
     cases d2
     exact⟨_,ns,k,rfl,rfl,(rl_mono (x2.gg.trans x2.gh) h1).sql,c1,by simpa using c2,endS x2.gh (fun z H3 G3 x3 d3=>q z H3 G3 ((x1.trans x2).trans x3) d3) (.int _)⟩
   ·cases e3
  |_=>cases e
 |_=>cases e
noncomputable def tMxd(K:PySem.W.Frag)(ta td:TA):TE:=fun σ H Q=>ta σ H fun vs H1=>td σ H1 fun zs H2=>∃(p:Addr) (ns:List Int) (j:Int),vs=[.ref p]∧zs=[.int j]∧SqL K H2 p (ns.map V.int)∧∀M,(ns=[]→M=j)→(ns≠[]→M∈ns∧∀a∈ns,a≤M)→Q (.int M) H2
theorem pe_maxd{a d:Expr}{ta td:TE}{p pos kp:Pos}(hc:X.calm=true)(hg:Gl X "max")(hm:X.mg "max"=none)(ha:PE X a ta)(hd:PE X d td)(oa:okE a=true):PE X (.Call (.Name "max" p) [a] [⟨some ("default":Str),d,kp⟩] pos) (tMxd X.K (tCons ta tNil) (tCons td tNil)):=by
 intro pins s σ H Q I h
 refine wpAny_Call_Name_kw (ld_blt I hg hm bt_max ?_ (by decide) (by decide))
 refine PyProof.Rows.callWith_kw (thn (pa_cons ha pa_nil (star_of oa _ _) pos pins s σ H _ I h) fun us s1 ⟨vs,H1,I1,r1,q1⟩=> ?_) (by rw [star_of oa]<;>rfl) (by rw [star_of oa]<;>rfl) rfl rfl
 refine thn (pk_cons hd pk_nil pos pins s1 σ H1 _ I1 q1) fun ws s2 ⟨zs,H2,I2,rz,q2⟩=> ?_
 obtain⟨l,ns,j,rfl,rfl,hq,q⟩:=q2
 obtain⟨u,rfl,ru⟩:=r1.one
 cases ru
 obtain⟨w,rfl,rw'⟩:=rz.one
 obtain⟨t,rfl⟩:=rw'
 show wpAny _ _ (call (.builtin "max") [.ref l] [("default",.int j t)]) _ _ s2
 obtain⟨its,rv,pl,hz⟩:=I2.list hq
 have hi:=intsAre_of rv
 obtain⟨xs,e⟩:=hi.allInts.items
 have hns:ns=xs.toList.map (·.1):=by rw [←hi.numsOf,←nums_intItems,←e]
 have hl:=pl.isList
 rw [e]at hl
 refine call_maxd (I2.ok.hd hc) hl (fun h0 h' tk k=> ?_) fun h0 v h' tk hv k=> ?_
 ·have en:ns=[]:=by rw [hns,List.map_eq_nil_iff,←List.length_eq_zero_iff,Array.length_toList];exact h0
  exact⟨.int j,H2,I2.kept k,⟨t,rfl⟩,q j (fun _=>rfl) fun z=>absurd en z⟩
 ·obtain⟨t2,rfl⟩:=intItems_at hv
  obtain⟨b1,b2⟩:=argBest_gt (numAt xs) (xs.size-1)
  refine⟨.int _,H2,I2.kept k,⟨t2,rfl⟩,q _ (fun z=> ?_) fun _=>⟨?_,fun a ha=> ?_⟩⟩
  ·rw [hns,List.map_eq_nil_iff,←List.length_eq_zero_iff,Array.length_toList]at z;omega
  ·rw [hns,numAt_eq];exact getD_mem (by rw [List.length_map,Array.length_toList];omega)
  ·rw [hns]at ha
   obtain⟨i,hi,rfl⟩:=mem_getD ha
   rw [List.length_map,Array.length_toList]at hi
   rw [←numAt_eq];exact b2 i (by omega)
theorem pe_mxdD{a d:Expr}{ma md:E}{p pos kp:Pos}(hc:X.calm=true)(hg:Gl X "max")(hm:X.mg "max"=none)(ha:PE X a (tV X.K cl Γ ma))(hd:PE X d (tV X.K cl Γ md))(oa:okE a=true):PE X (.Call (.Name "max" p) [a] [⟨some ("default":Str),d,kp⟩] pos) (tV X.K cl Γ (.mxd ma md)):=by
 refine peI (pe_maxd hc hg hm ha hd oa) fun σ H Q ⟨G,env,r,sg,en,e,q⟩=> ?_
 obtain⟨x,ex,e⟩:=bsi (show(ev Γ ma env).bind (fun x=>(ev Γ md env).bind fun y=>mxdD x y)=some r from e)
 obtain⟨y,ey,e⟩:=bsi e
 refine⟨G,env,x,sg,en,ex,fun v H1 G1 x1 d1=>⟨G1,env,y,x1.gh,en.mono x1.gg,ey,fun u H2 G2 x2 d2=> ?_⟩⟩
 cases x with
 |lst l=>
  cases y with
  |int k=>
   obtain⟨ns,e1,rfl⟩:=msi (show(intsD l).map (fun ns=>D.int (mxL k ns))=some r from e)
   have e1:=intsD_eq e1
   subst e1
   cases d1 with|lst h1 h2=>
    have e2:=h2.ints
    subst e2
    cases d2
    refine⟨_,ns,k,rfl,rfl,(rl_mono (x2.gg.trans x2.gh) h1).sql,fun M m1 m2=> ?_⟩
    have eM:M=mxL k ns:=by
     unfold mxL
     cases hx:maxL ns with
     |none=>
      cases ns with
      |nil=>exact m1 rfl
      |cons a r=>cases hx
     |some z=>
      have hn:ns≠[]:=by rintro rfl;cases hx
      exact maxL_unique hx (m2 hn).1 (m2 hn).2
    rw [eM]
    exact endS x2.gh (fun z H3 G3 x3 d3=>q z H3 G3 ((x1.trans x2).trans x3) d3) (.int _)
  |_=>cases e
 |_=>cases e
end
end MI
end
noncomputable section
namespace MI
open PySem L2
section
variable{cl:Nat→Option Addr}{Γ:Tab}{c:CC}{Lg:Nat→Prop}
theorem pe_cD{X:Cx}{e:Expr}{v:V}{d:D}{m:E}(h:PE X e (tC v))(hm:∀env,ev Γ m env=some d)(hd:∀G,Dn X.K cl G v d):PE X e (tV X.K cl Γ m):=
 peI h fun σ H Q ⟨G,env,d',sg,en,e,q⟩=>by
  rw [hm]at e
  cases e
  exact q _ H G (Ext.refl sg) (hd G)
theorem nmOf_ok{e:Expr}{x:Str}(h:nmOf e=some x):∃p,e=.Name x p:=by
 cases e
 case Name y p=>cases h;exact⟨p,rfl⟩
 all_goals cases h
theorem fld_get{K:PySem.W.Frag}{G:Hp}{f:Str}{d:D}:∀ {vfs:List (Str×V)} {ds:List D},Dns K cl G (vfs.map (·.2)) ds→((vfs.map (·.1)).zip ds).lookup f=some d→∃v,vfs.lookup f=some v∧Dn K cl G v d
 |[],_,_,h=>by cases h
 |(k,v)::r,ds,hs,h=>by
  cases hs with
  |cons a t=>
   rw [List.map_cons,List.zip_cons_cons,List.lookup_cons]at h
   rw [List.lookup_cons]
   cases q:f==k with
   |true=>rw [q]at h;cases h;exact⟨v,rfl,a⟩
   |false=>rw [q]at h;exact fld_get t h
theorem pe_fldD{X:Cx}{e:Expr}{f:Str}{pos:Pos}{ma:E}(hc:ClsOk X.K cl)(hf:FLD.contains f=true)(ha:attrOk e=true)(he:PE X e (tV X.K cl Γ ma)):PE X (.Attribute e f pos) (tV X.K cl Γ (.fld ma f)):=by
 have hb:attributeBase e f X.env (eval e X.env)=eval e X.env:=by
  cases e
  case Call fn args ks p=>
   cases fn
   case Name x px=>
    cases args with
    |nil=>cases ks with
     |nil=>cases ha
     |cons _ _=>rfl
    |cons _ _=>rfl
   all_goals rfl
  all_goals rfl
 refine peI (pe_fld he hb) fun σ H Q h=> ?_
 obtain⟨G,env,d,sg,en,e1,q⟩:=h
 obtain⟨x,ex,e2⟩:=bsi (show(ev Γ ma env).bind (fldD f)=some d from e1)
 refine⟨G,env,x,sg,en,ex,fun v H1 G1 x1 d1=> ?_⟩
 cases x with
 |ins c ks ds=>
  cases d1 with
  | @ins a C dx _ _ vfs _ h1 h2 h3 h4=>
    subst h3
    obtain⟨u,l1,l2⟩:=fld_get h4 e2
    obtain⟨c1,c2,_⟩:=hc.1 c C h2
    exact⟨a,C,dx,vfs,u,rfl,x1.gh _ _ h1,c1,c2 f (List.contains_iff_mem.mp hf),l1,q u H1 G1 x1 l2⟩
 |_=>cases e2
theorem cE_ok(hΓ:∀x f,c.tab.lookup x=some f→∃g,Γ f=some g):∀(n:Nat) (top:Bool) (N:List Str) (sc:Scope) (e:Expr) (m:E) (X:Cx),Sees X cl c Γ top N sc→cE c n top N sc e=some m→Both X cl Γ e m:=by
 intro n
 induction n with
 |zero=>intro top N sc e m X S h;cases h
 |succ n ih=>
  intro top N sc e m X S h
  have ih1:∀e m,cE c n top N sc e=some m→PE X e (tV X.K cl Γ m):=fun e m h=>(ih top N sc e m X S h).1
  cases e
  case Name x pos=>
   replace h:cNa c N sc x=some m:=h
   unfold cNa at h
   have go:PE X (.Name x pos) (tV X.K cl Γ m):=by
    split at h
    ·rename_i ok
     obtain⟨n1,n2,n3⟩:=okN_ok ok
     split at h
     ·rename_i i hi
      cases h
      have hN:=nIdx_get hi
      refine peI (pe_var (i:=i) (by rw [S.hN];exact hN) (S.vis i x hN) n1 n2) fun σ H Q ⟨G,env,d,sg,en,e,q⟩=> ?_
      have e':(env[i]?).join=some d:=e
      have e2:env[i]?=some (some d):=by
       cases z:env[i]? with
       |none=>rw [z]at e';cases e'
       |some o=>rw [z]at e';rw [show o=some d from e']
      obtain⟨v,h1,h2⟩:=en i d e2
      exact⟨v,h1,q v H G (Ext.refl sg) h2⟩
     ·split at h
      ·rename_i hg
       obtain⟨i,hi,rfl⟩:=msi h
       obtain⟨t,ht⟩:=S.gi x i hi
       refine peI (pe_glob (v:=.int i) (S.gl x hg) ht ⟨t,rfl⟩ n1) fun σ H Q ⟨G,env,d,sg,en,e,q⟩=> ?_
       have e':some (D.int i)=some d:=e
       cases e'
       exact q _ H G (Ext.refl sg) (.int _)
      ·cases h
    ·cases h
   exact⟨go,fun _=>pt_of (by intro _;rfl) go⟩
  case Constant k kk pos=>
   replace h:cCo k=some m:=h
   cases k
   case int i=>
    cases h
    have go:=pe_cD (X:=X) (cl:=cl) (Γ:=Γ) (m:=.int i) (pe_int (j:=kk) (pos:=pos)) (fun _=>rfl) (fun _=> .int _)
    exact⟨go,fun _=>pt_of (by intro _;rfl) go⟩
   case bool i=>
    cases h
    have go:=pe_cD (X:=X) (cl:=cl) (Γ:=Γ) (m:=.bl i) (pe_bl (j:=kk) (pos:=pos)) (fun _=>rfl) (fun _=> .bl _)
    exact⟨go,fun _=>pt_of (by intro _;rfl) go⟩
   case none=>
    cases h
    have go:=pe_cD (X:=X) (cl:=cl) (Γ:=Γ) (m:=.non) (pe_non (j:=kk) (pos:=pos)) (fun _=>rfl) (fun _=> .non)
    exact⟨go,fun _=>pt_of (by intro _;rfl) go⟩
   case str i=>
    cases h
    have go:=pe_cD (X:=X) (cl:=cl) (Γ:=Γ) (m:=.str i) (pe_str (j:=kk) (pos:=pos)) (fun _=>rfl) (fun _=> .str _)
    exact⟨go,fun _=>pt_of (by intro _;rfl) go⟩
   all_goals cases h
  case BinOp a op b pos=>
   replace h:((cE c n top N sc a).bind fun m=>(cE c n top N sc b).map fun l=>E.bin op m l)=some m:=h
   obtain⟨ma,h1,h⟩:=bsi h
   obtain⟨mb,h2,rfl⟩:=msi h
   have go:PE X (.BinOp a op b pos) (tV X.K cl Γ (.bin op ma mb)):=peI (pe_op (op_bin (cl:=cl) op) (ih1 a ma h1) (ih1 b mb h2)) fun σ H Q q=>tV2 (fun _=>rfl) q
   exact⟨go,fun _=>pt_of (by intro _;rfl) go⟩
  case UnaryOp op a pos=>
   cases op
   case USub=>
    replace h:(cE c n top N sc a).map (.un .neg)=some m:=h
    obtain⟨ma,h1,rfl⟩:=msi h
    have go:PE X (.UnaryOp .USub a pos) (tV X.K cl Γ (.un .neg ma)):=peI (pe_un (un_negD (cl:=cl)) (ih1 a ma h1)) fun σ H Q q=>tV1 (fun _=>rfl) q
    exact⟨go,fun _=>pt_of (by intro _;rfl) go⟩
   case Not=>
    replace h:(if okT a then(cE c n top N sc a).map .not else none)=some m:=h
    split at h
    ·rename_i ok
     obtain⟨ma,h1,rfl⟩:=msi h
     have b:=ih top N sc a ma X S h1
     exact⟨pe_notD b.1,fun _=>pt_notD (b.2 ok)⟩
    ·cases h
   all_goals cases h
  case Compare a ops bs pos=>
   replace h:cCm (cE c n top N sc) a ops bs=some m:=h
   unfold cCm at h
   split at h
   ·rename_i op b
    split at h
    ·rename_i ok
     obtain⟨ma,h1,h⟩:=bsi h
     obtain⟨mb,h2,rfl⟩:=msi h
     exact ccmp_ok S.hu (ih1 a ma h1) (ih1 b mb h2) ok
    ·cases h
   ·rename_i op op' b d
    split at h
    ·rename_i ok
     obtain⟨ma,h1,h⟩:=bsi h
     obtain⟨mb,h2,h⟩:=bsi h
     obtain⟨md,h3,rfl⟩:=msi h
     exact cch_ok S.hu (ih1 a ma h1) (ih1 b mb h2) (ih1 d md h3) ((Bool.and_eq_true _ _).mp ok).2
    ·cases h
   ·cases h
  case BoolOp op vs pos=>
   cases op
   case And=>
    replace h:(if 2≤vs.length then cAnd (cE c n top N sc) vs else none)=some m:=h
    split at h
    ·have b:=cand_ok (X:=X) (cl:=cl) (Γ:=Γ) (pos:=pos) (fun e _ m h=>ih top N sc e m X S h) h
     exact⟨b.1,fun _=>b.2.pt⟩
    ·cases h
   case Or=>
    replace h:(if 2≤vs.length then cOr (cE c n top N sc) vs else none)=some m:=h
    split at h
    ·have b:=cor_ok (X:=X) (cl:=cl) (Γ:=Γ) (pos:=pos) (fun e _ m h=>ih top N sc e m X S h) h
     exact⟨b.1,fun _=>b.2.pt⟩
    ·cases h
  case IfExp t a b pos=>
   replace h:(if okT t then(cE c n top N sc t).bind fun k=>(cE c n top N sc a).bind fun m=>(cE c n top N sc b).map fun l=>E.ite k m l else none)=some m:=h
   split at h
   ·rename_i ok
    obtain⟨mt,h1,h⟩:=bsi h
    obtain⟨ma,h2,h⟩:=bsi h
    obtain⟨mb,h3,rfl⟩:=msi h
    exact⟨pe_iteD ((ih top N sc t mt X S h1).2 ok) (ih1 a ma h2) (ih1 b mb h3),fun z=>by cases z⟩
   ·cases h
  case Call fn args ks pos=>
   cases ks with
   |cons kw kr=>
    cases kr with
    |cons _ _=>
     obtain⟨_,_,_⟩:=kw
     replace h:(none:Option E)=some m:=h
     cases h
    |nil=>
     obtain⟨k,d,kp⟩:=kw
     replace h:cKw c N sc (cE c n top N sc) k d fn args=some m:=h
     unfold cKw at h
     split at h
     ·rename_i a
      replace h:=bsi h
      obtain⟨x,h0,h⟩:=h
      obtain⟨p,rfl⟩:=nmOf_ok h0
      split at h
      ·rename_i ok
       obtain⟨ok,oa⟩:=(Bool.and_eq_true _ _).mp ok
       obtain⟨ok,_⟩:=(Bool.and_eq_true _ _).mp ok
       obtain⟨ok,gx⟩:=(Bool.and_eq_true _ _).mp ok
       obtain⟨hk,hx⟩:=(Bool.and_eq_true _ _).mp ok
       have hk:k=some ("default":Str):=of_decide_eq_true hk
       have hx:x="max":=by simpa using hx
       subst hk hx
       obtain⟨ma,h1,h⟩:=bsi h
       obtain⟨md,h2,rfl⟩:=msi h
       have go:=pe_mxdD (p:=p) (pos:=pos) (kp:=kp) S.calm (S.gl _ (isGl_ok gx).2) (S.blt _ (by decide+kernel)) (ih1 a ma h1) (ih1 d md h2) oa
       exact⟨go,fun _=>pt_of (by intro _;rfl) go⟩
      ·cases h
     ·cases h
   |nil=>
   replace h:(match cAtt fn with
    |some om=>if om.2.2.1==("index":Str)then cIx (cE c n top N sc) pos om args else cMe (cE c n top N sc) pos om args
    |none=>(nmOf fn).bind fun x=>cCn c N sc (cE c n top N sc) x args)=some m:=h
   split at h
   ·rename_i om hom
    have e:=cAtt_ok hom
    subst e
    split at h
    ·rename_i hi
     have hi:om.2.2.1="index":=by simpa using hi
     unfold cIx at h
     split at h
     ·rename_i a
      split at h
      ·rename_i ok
       obtain⟨oa,bm⟩:=(Bool.and_eq_true _ _).mp ok
       obtain⟨mo,h1,h⟩:=bsi h
       obtain⟨ma,h2,rfl⟩:=msi h
       rw [hi]
       have go:=pe_indD (p:=om.2.1) (apos:=om.2.2.2) (pos:=pos) (ih1 _ mo h1) (ih1 a ma h2) oa bm
       exact⟨go,fun _=>pt_of (by intro _;rfl) go⟩
      ·cases h
     ·cases h
    unfold cMe at h
    split at h
    ·rename_i ok
     obtain⟨ok,hl⟩:=(Bool.and_eq_true _ _).mp ok
     obtain⟨ok,bm⟩:=(Bool.and_eq_true _ _).mp ok
     obtain⟨ok,ne⟩:=(Bool.and_eq_true _ _).mp ok
     obtain⟨k,hk,h⟩:=bsi h
     obtain⟨i,hi,h⟩:=bsi h
     obtain⟨mo,ho,hv⟩:=bsi hi
     obtain⟨ml,hml,rfl⟩:=msi h
     have e:mo=.var i:=by cases mo<;>first|(cases hv;rfl)|(cases hv;done)
     subst e
     cases args with
     |nil=>cases ne
     |cons e es=>
      have go:=pe_methD (pos:=pos) (apos:=om.2.2.2) S.cls S.mth (nIdx_get hk) (ih1 _ _ ho) (clist_ok (fun e _ m h=>ih1 e m h) ok hml) ok (of_decide_eq_true hl) bm
      exact⟨go,fun _=>pt_of (by intro _;rfl) go⟩
    ·cases h
   replace h:=bsi h
   obtain⟨x,h0,h⟩:=h
   obtain⟨p,rfl⟩:=nmOf_ok h0
   unfold cCn at h
   have go:PE X (.Call (.Name x p) args [] pos) (tV X.K cl Γ m):=by
    split at h
    ·rename_i ok
     obtain⟨ok,gx⟩:=(Bool.and_eq_true _ _).mp ok
     obtain⟨o1,g1⟩:=isGl_ok gx
     obtain⟨n1,n2,n3⟩:=okN_ok o1
     split at h
     ·rename_i f hf
      split at h
      ·cases h
      ·rename_i hne
       obtain⟨ml,h1,rfl⟩:=msi h
       obtain⟨g,hg⟩:=hΓ x f hf
       cases args with
       |nil=>exact absurd rfl hne
       |cons e es=>exact pe_callD (S.gl x g1) n1 (S.fn x f g hf hg) hg (clist_ok (fun e _ m h=>ih1 e m h) ok h1) ok
     ·exact cb_ok S ih1 ok gx h
    ·cases h
   exact⟨go,fun _=>pt_of (by intro _;rfl) go⟩
  case Subscript a b pos=>
   replace h:((cE c n top N sc a).bind fun m=>cSu (cE c n top N sc) m b)=some m:=h
   replace h:=bsi h
   obtain⟨ma,h1,h⟩:=h
   unfold cSu at h
   split at h
   ·rename_i lo hi st p2
    cases st with
    |some st=>
     replace h:(if lo.isNone&&hi.isNone then(match cE c n top N sc st with
      |some (.un .neg (.int 1))=>some (.rev ma)
      |_=>none)else none)=some m:=h
     split at h
     ·rename_i hn
      obtain⟨rfl,rfl⟩:lo=none∧hi=none:=by simpa using hn
      split at h
      ·rename_i hs
       cases h
       have go:PE X (.Subscript a (.Slice none none (some st) p2) pos) (tV X.K cl Γ (.rev ma)):=pe_revD (ms:=.nil) (ih1 a ma h1) (ih1 st _ hs)
       exact⟨go,fun _=>pt_of (by intro _;rfl) go⟩
      ·cases h
     ·cases h
    |none=>
     replace h:((cOpt (cE c n top N sc) lo).bind fun ml=>(cOpt (cE c n top N sc) hi).map fun mh=>E.cut ma ml mh)=some m:=h
     obtain⟨ml,h2,h⟩:=bsi h
     obtain⟨mh,h3,rfl⟩:=msi h
     have go:=pe_cutD (p2:=p2) (pos:=pos) (ih1 a ma h1) (po_D (fun e _ m h=>ih1 e m h) h2) (po_D (fun e _ m h=>ih1 e m h) h3)
     exact⟨go,fun _=>pt_of (by intro _;rfl) go⟩
   ·split at h
    ·rename_i ok
     obtain⟨mb,h2,rfl⟩:=msi h
     have go:PE X (.Subscript a b pos) (tV X.K cl Γ (.idx ma mb)):=peI (pe_ix (ix_D (cl:=cl)) (ih1 a ma h1) (ih1 b mb h2) (fun _ _=>by cases b<;>first|rfl|cases ok)) fun σ H Q q=>tV2 (fun _=>rfl) q
     exact⟨go,fun _=>pt_of (by intro _;rfl) go⟩
    ·cases h
  case List es pos=>
   replace h:(if es.all okE then(cList (cE c n top N sc) es).map .lst else none)=some m:=h
   split at h
   ·rename_i ok
    obtain⟨ml,h1,rfl⟩:=msi h
    have go:=pe_lstD (pos:=pos) (clist_ok (fun e _ m h=>ih1 e m h) ok h1)
    exact⟨go,fun _=>pt_of (by intro _;rfl) go⟩
   ·cases h
  case Attribute a f pos=>
   replace h:(if FLD.contains f&&attrOk a then(cE c n top N sc a).map (.fld · f)else none)=some m:=h
   split at h
   ·rename_i ok
    obtain⟨hf,ao⟩:=(Bool.and_eq_true _ _).mp ok
    obtain⟨ma,h1,rfl⟩:=msi h
    have go:=pe_fldD (pos:=pos) S.cls hf ao (ih1 a ma h1)
    exact⟨go,fun _=>pt_of (by intro _;rfl) go⟩
   ·cases h
  case Tuple es k pos=>
   replace h:(if es.all okE then(cList (cE c n top N sc) es).map .tup else none)=some m:=h
   split at h
   ·rename_i ok
    obtain⟨ml,h1,rfl⟩:=msi h
    have go:=pe_tupD (k:=k) (pos:=pos) (clist_ok (fun e _ m h=>ih1 e m h) ok h1)
    exact⟨go,fun _=>pt_of (by intro _;rfl) go⟩
   ·cases h
  case ListComp elt gs scope pos=>
   replace h:(if top then cLc c N sc (cE c n top N sc) (fun N' e=>cE c n false N' scope e) elt scope gs else none)=some m:=h
   split at h
   ·rename_i tp
    subst tp
    unfold cLc at h
    split at h
    ·rename_i x px iter ifs
     have go:PE X (.ListComp elt [⟨.Name x px,iter,ifs,0⟩] scope pos) (tV X.K cl Γ m):=by
      split at h
      ·rename_i oi
       obtain⟨is,h1,h⟩:=bsi h
       split at h
       ·rename_i cs
        have cs:=compOk_ok cs
        obtain⟨mi,h2,h⟩:=bsi h
        obtain⟨me,h3,h⟩:=bsi h
        obtain⟨mc,h4,rfl⟩:=msi h
        have hi:PI X (.Name x px) iter (tI X.K cl Γ mi):=ci_ok S ih1 (fun z=>by cases z) h2
        have he:∀C s H fp pins,PE (compCx X scope (x::frees scope.names) C s H fp pins) elt (tV X.K cl Γ me):=fun C s H fp pins=>(ih false _ scope elt me _ (S.comp cs C s H fp pins) h3).1
        have hfs:∀v,foldedSetIterable iter X.env v=pure v:=by intro v;cases iter<;>first|rfl|cases oi
        have hcs:X.env.scope=sc:=S.tp rfl
        cases ifs with
        |nil=>
         cases h4
         exact peI (pe_comp S.calm hi he cs hcs S.hN hfs) fun σ H Q q=>comp_tV (fun σ H Q ⟨G,env,b,sg,en,e,q⟩=>by
          have e':some true=some b:=e
          cases e'
          exact q H G (Ext.refl sg)) q
        |cons t r=>
         cases r with
         |nil=>
          have h4':(if okT t then(cE c n false (x::frees scope.names) scope t).bind fun m=>if isNil m then none else some m else none)=some mc:=h4
          split at h4'
          ·rename_i okt
           obtain⟨m',h5,h6⟩:=bsi h4'
           split at h6
           ·cases h6
           ·rename_i nn
            cases h6
            have ht:∀C s H fp pins,PT (compCx X scope (x::frees scope.names) C s H fp pins) t (tVT X.K cl Γ mc):=fun C s H fp pins=>(ih false _ scope t mc _ (S.comp cs C s H fp pins) h5).2 okt
            exact peI (pe_compIf S.calm hi ht he cs hcs S.hN hfs) fun σ H Q q=>comp_tV (fun σ H Q ⟨G,env,b,sg,en,e,q⟩=>by
             unfold cS at e
             rw [if_neg nn]at e
             exact⟨G,env,b,sg,en,e,q⟩) q
          ·cases h4'
         |cons t2 r2=>cases h4
       ·cases h
      ·cases h
     exact⟨go,fun _=>pt_of (by intro _;rfl) go⟩
    ·cases h
   ·cases h
  all_goals cases h
end
end MI
end
noncomputable section
namespace MI
open PySem L2
noncomputable abbrev TEnv:=List (Option T)
noncomputable def dEnv(env:TEnv):Env:=env.map (·.map strip)
noncomputable def shOf:Option T→Option D
 |some (.sh d)=>some d
 |_=>none
noncomputable def fEnv(env:TEnv):Env:=env.map shOf
noncomputable def scal:D→Bool
 | .non=>true| .bl _=>true| .int _=>true| .str _=>true|_=>false
mutual
noncomputable def flatT:T→Bool
 | .sh d=>scal d
 | .ow ts=>flatTs ts
 | .ob _ _ ts=>flatTs ts
noncomputable def flatTs:List T→Bool
 |[]=>true
 |t::r=>flatT t&&flatTs r
end
structure Rep(K:PySem.W.Frag)(cl:Nat→Option Addr)(H₀ G₀:Hp)(io:Option (Nat×Addr))(F:Hp)(A:Nat→List Addr)(σ:St)(env:TEnv)(H:Hp):Prop where
 slot:∀(i:Nat) (t:T),env[i]?=some (some t)→∃v,σ[i]?=some (some v)∧OT K cl F H v t (A i)
 out:∀(i:Nat),(∀t,env[i]?≠some (some t))→A i=[]
 nd:∀(i:Nat),(A i).Nodup
 dj:∀(i j:Nat) (a:Addr),i≠j→a∈A i→a∈A j→False
 fh:Same F H
 gf:Same G₀ F
 fnew:∀b o,F b=some o→G₀ b=none→H₀ b=none
 keep:∀b o,H₀ b=some o→(∀p,io≠some (p,b))→H b=some o
 anew:∀(i:Nat) (a:Addr),a∈A i→(∃p,io=some (p,a))∨H₀ a=none
 iok:∀p a,io=some (p,a)→∃B,A p=a::B
structure Gro(F:Hp)(A:Nat→List Addr)(H F':Hp)(A':Nat→List Addr)(H':Hp):Prop where
 hh:Same H H'
 ff:Same F F'
 nw:∀b o,F' b=some o→F b=none→(∃j,b∈A j)∨H b=none
 aa:∀(j:Nat) (a:Addr),a∈A' j→a∈A j
section
variable{F F' F2 H H' H2:Hp}{A A' A2:Nat→List Addr}
theorem Gro.refl:Gro F A H F A H:=⟨.refl _,.refl _,(fun b o h1 h2=>by rw [h1]at h2;cases h2),fun _ _ h=>h⟩
theorem Gro.trans(x:Gro F A H F' A' H')(y:Gro F' A' H' F2 A2 H2):Gro F A H F2 A2 H2:=
 ⟨x.hh.trans y.hh,x.ff.trans y.ff,fun b o h1 h2=>by
   cases e:F' b with
   |some u=>exact x.nw b u e h2
   |none=>
    rcases y.nw b o h1 e with⟨j,z⟩|z
    ·exact .inl ⟨j,x.aa j b z⟩
    ·exact .inr (x.hh.free z),fun j a h=>x.aa j a (y.aa j a h)⟩
theorem Gro.of_ext(x:Ext H F H' F'):Gro F A H F' A H':=⟨x.hh,x.gg,fun b o h1 h2=> .inr (x.nw b o h1 h2),fun _ _ h=>h⟩
theorem Gro.of_same(x:Same H H'):Gro F A H F A H':=⟨x,.refl _,(fun b o h1 h2=>by rw [h1]at h2;cases h2),fun _ _ h=>h⟩
end
section
variable{K:PySem.W.Frag}{cl:Nat→Option Addr}{H₀ G₀ F H H' F':Hp}{io:Option (Nat×Addr)}{A:Nat→List Addr}{σ:St}{env:TEnv}
theorem Rep.ioa(R:Rep K cl H₀ G₀ io F A σ env H){p:Nat}{a:Addr}(h:io=some (p,a)):a∈A p:=by
 obtain⟨B,e⟩:=R.iok p a h
 rw [e];simp
theorem Rep.at_(R:Rep K cl H₀ G₀ io F A σ env H){i:Nat}{a:Addr}(h:a∈A i):F a=none∧∃o,H a=some o:=by
 cases e:env[i]? with
 |none=>rw [R.out i (fun t z=>by rw [e]at z;cases z)]at h;simp at h
 |some o=>
  cases o with
  |none=>rw [R.out i (fun t z=>by rw [e]at z;cases z)]at h;simp at h
  |some t=>
   obtain⟨v,_,ot⟩:=R.slot i t e
   exact ot.free a h
theorem Rep.grow(R:Rep K cl H₀ G₀ io F A σ env H)(hh:Same H H')(gg:Same F F')(gh:Same F' H')(nw:∀b o,F' b=some o→F b=none→H b=none):Rep K cl H₀ G₀ io F' A σ env H':=by
 have free:∀i a,a∈A i→F' a=none:=fun i a ha=>by
  obtain⟨h1,o,h2⟩:=R.at_ ha
  cases e:F' a with
  |none=>rfl
  |some u=>have:=nw a u e h1;rw [h2]at this;cases this
 refine⟨fun i t e=> ?_,R.out,R.nd,R.dj,gh,R.gf.trans gg,fun b o h1 h2=> ?_,fun b o h1 h2=>hh _ _ (R.keep b o h1 h2),R.anew,R.iok⟩
 ·obtain⟨v,h1,h2⟩:=R.slot i t e
  exact⟨v,h1,h2.move gg (free i) fun a _ o q=>hh _ _ q⟩
 ·cases e:F b with
  |some u=>exact R.fnew b u e h2
  |none=>
   have h3:=nw b o h1 e
   cases e':H₀ b with
   |none=>rfl
   |some u=>
    by_cases hb:∃p,io=some (p,b)
    ·obtain⟨p,hb⟩:=hb
     obtain⟨_,o',h4⟩:=R.at_ (R.ioa hb);rw [h3]at h4;cases h4
    ·have:=R.keep b u e' (fun p z=>hb ⟨p,z⟩);rw [h3]at this;cases this
theorem Rep.see(R:Rep K cl H₀ G₀ io F A σ env H):EnvD K cl H (dEnv env) σ:=fun i d e=>by
 unfold dEnv at e
 rw [List.getElem?_map]at e
 cases q:env[i]? with
 |none=>rw [q]at e;cases e
 |some o=>
  cases o with
  |none=>rw [q]at e;cases e
  |some t=>
   rw [q]at e
   cases e
   obtain⟨v,h1,h2⟩:=R.slot i t q
   exact⟨v,h1,h2.see R.fh (R.nd i)⟩
theorem Rep.seeF(R:Rep K cl H₀ G₀ io F A σ env H):EnvD K cl F (fEnv env) σ:=fun i d e=>by
 unfold fEnv at e
 rw [List.getElem?_map]at e
 cases q:env[i]? with
 |none=>rw [q]at e;cases e
 |some o=>
  cases o with
  |none=>rw [q]at e;cases e
  |some t=>
   rw [q]at e
   cases t with
   |sh d'=>
    cases e
    obtain⟨v,h1,h2⟩:=R.slot i _ q
    generalize A i=B at h2
    cases h2 with|sh h2=>exact⟨v,h1,h2⟩
   |ow ts=>cases e
   |ob c ks ts=>cases e
theorem Rep.store(R:Rep K cl H₀ G₀ io F A σ env H){i:Nat}{v:V}{t:T}{B:List Addr}(hp:∀p a,io=some (p,a)→p≠i)(hi:i<env.length)(hs:env.length=σ.length)(ot:OT K cl F H v t B)(nd:B.Nodup)(dj:∀j a,j≠i→a∈A j→a∈B→False)(an:∀a∈B,H₀ a=none):
 Rep K cl H₀ G₀ io F (fun j=>if j=i then B else A j) (σ.set i (some v)) (env.set i (some t)) H:=by
 refine⟨fun j u e=> ?_,fun j h=> ?_,fun j=> ?_,fun j k a hjk h1 h2=> ?_,R.fh,R.gf,R.fnew,R.keep,fun j a ha=> ?_,fun p a h=>by show∃B,(if p=i then _ else A p)=a::B;rw [if_neg (hp p a h)];exact R.iok p a h⟩
 ·by_cases hj:j=i
  ·subst hj
   rw [List.getElem?_set_self hi]at e
   cases e
   exact⟨v,by rw [List.getElem?_set_self (by omega)],by rw [if_pos rfl];exact ot⟩
  ·rw [List.getElem?_set_ne (Ne.symm hj)]at e
   obtain⟨w,h1,h2⟩:=R.slot j u e
   exact⟨w,by rw [List.getElem?_set_ne (Ne.symm hj)];exact h1,by rw [if_neg hj];exact h2⟩
 ·by_cases hj:j=i
  ·subst hj;exact absurd (List.getElem?_set_self hi) (h t)
  ·show(if j=i then B else A j)=[]
   rw [if_neg hj]
   refine R.out j fun u z=>h u ?_
   rw [List.getElem?_set_ne (Ne.symm hj)];exact z
 ·show(if j=i then B else A j).Nodup
  split
  ·exact nd
  ·exact R.nd j
 ·have h1':a∈(if j=i then B else A j):=h1
  have h2':a∈(if k=i then B else A k):=h2
  by_cases e1:j=i
  ·rw [if_pos e1]at h1'
   rw [if_neg (fun z=>hjk (e1.trans z.symm))]at h2'
   exact dj k a (fun z=>hjk (e1.trans z.symm)) h2' h1'
  ·rw [if_neg e1]at h1'
   by_cases e2:k=i
   ·rw [if_pos e2]at h2'
    exact dj j a e1 h1' h2'
   ·rw [if_neg e2]at h2'
    exact R.dj j k a hjk h1' h2'
 ·have ha':a∈(if j=i then B else A j):=ha
  split at ha'
  ·exact .inr (an a ha')
  ·exact R.anew j a ha'
theorem Rep.drop(R:Rep K cl H₀ G₀ io F A σ env H)(i:Nat)(hp:∀p a,io=some (p,a)→p≠i):Rep K cl H₀ G₀ io F (fun j=>if j=i then []else A j) σ (env.set i none) H:=by
 refine⟨fun j u e=> ?_,fun j h=> ?_,fun j=> ?_,fun j k a hjk h1 h2=> ?_,R.fh,R.gf,R.fnew,R.keep,fun j a ha=> ?_,fun p a h=>by show∃B,(if p=i then _ else A p)=a::B;rw [if_neg (hp p a h)];exact R.iok p a h⟩
 ·by_cases hj:j=i
  ·subst hj
   by_cases hl:j<env.length
   ·rw [List.getElem?_set_self hl]at e;cases e
   ·rw [List.getElem?_eq_none (by simp;omega)]at e;cases e
  ·rw [List.getElem?_set_ne (Ne.symm hj)]at e
   obtain⟨w,h1,h2⟩:=R.slot j u e
   exact⟨w,h1,by rw [if_neg hj];exact h2⟩
 ·show(if j=i then []else A j)=[]
  split
  ·rfl
  ·rename_i hj
   refine R.out j fun u z=>h u ?_
   rw [List.getElem?_set_ne (Ne.symm hj)];exact z
 ·show(if j=i then []else A j).Nodup
  split
  ·exact List.nodup_nil
  ·exact R.nd j
 ·have h1':a∈(if j=i then []else A j):=h1
  have h2':a∈(if k=i then []else A k):=h2
  split at h1'
  ·simp at h1'
  ·split at h2'
   ·simp at h2'
   ·exact R.dj j k a hjk h1' h2'
 ·have ha':a∈(if j=i then []else A j):=ha
  split at ha'
  ·simp at ha'
  ·exact R.anew j a ha'
theorem Rep.freeze(R:Rep K cl H₀ G₀ io F A σ env H)(i:Nat)(hp:∀p a,io=some (p,a)→p≠i){t:T}(e:env[i]?=some (some t)):∃F',Frz F F' H (A i)∧Rep K cl H₀ G₀ io F' (fun j=>if j=i then []else A j) σ (env.set i (some (.sh (strip t)))) H:=by
 obtain⟨v,h1,ot⟩:=R.slot i t e
 obtain⟨F',fz,dn⟩:=ot.freeze R.fh (R.nd i)
 have hi:i<env.length:=(List.getElem?_eq_some_iff.mp e).1
 refine⟨F',fz,fun j u e=> ?_,fun j h=> ?_,fun j=> ?_,fun j k a hjk h1 h2=> ?_,fz.gh,R.gf.trans fz.gg,fun b o q n=> ?_,R.keep,fun j a ha=> ?_,fun p a h=>by show∃B,(if p=i then _ else A p)=a::B;rw [if_neg (hp p a h)];exact R.iok p a h⟩
 ·by_cases hj:j=i
  ·subst hj
   rw [List.getElem?_set_self hi]at e
   cases e
   exact⟨v,h1,by rw [if_pos rfl];exact .sh dn⟩
  ·rw [List.getElem?_set_ne (Ne.symm hj)]at e
   obtain⟨w,h3,h4⟩:=R.slot j u e
   refine⟨w,h3,?_⟩
   rw [if_neg hj]
   exact h4.move fz.gg (fun a ha=>by rw [fz.on a fun z=>R.dj j i a hj ha z];exact(h4.free a ha).1) fun _ _ _ q=>q
 ·show(if j=i then []else A j)=[]
  split
  ·rfl
  ·rename_i hj
   refine R.out j fun u z=>h u ?_
   rw [List.getElem?_set_ne (Ne.symm hj)];exact z
 ·show(if j=i then []else A j).Nodup
  split
  ·exact List.nodup_nil
  ·exact R.nd j
 ·have h1':a∈(if j=i then []else A j):=h1
  have h2':a∈(if k=i then []else A k):=h2
  split at h1'
  ·simp at h1'
  ·split at h2'
   ·simp at h2'
   ·exact R.dj j k a hjk h1' h2'
 ·by_cases hb:b∈A i
  ·rcases R.anew i b hb with z|z
   ·obtain⟨p,z⟩:=z
    exact(R.dj p i b (hp p b z) (R.ioa z) hb).elim
   ·exact z
  ·rw [fz.on b hb]at q;exact R.fnew b o q n
 ·have ha':a∈(if j=i then []else A j):=ha
  split at ha'
  ·simp at ha'
  ·exact R.anew j a ha'
theorem Rep.write(R:Rep K cl H₀ G₀ io F A σ env H){i:Nat}{ts ts':List T}(e:env[i]?=some (some (.ow ts))){p:Addr}{xs:List V}{B:List Addr}(hA:A i=p::B){xs':List V}{B':List Addr}(ot:OTs K cl F (upd H p (.lst xs')) xs' ts' B')(nd:(p::B').Nodup)
 (dj:∀j a,j≠i→a∈A j→a∈B'→False)(an:∀a∈B',H₀ a=none)(hs:σ[i]?=some (some (.ref p))):Rep K cl H₀ G₀ io F (fun j=>if j=i then p::B' else A j) σ (env.set i (some (.ow ts'))) (upd H p (.lst xs')):=by
 have hi:i<env.length:=(List.getElem?_eq_some_iff.mp e).1
 have hp:p∈A i:=by rw [hA];simp
 have fp:F p=none:=(R.at_ hp).1
 have ne:∀j a,j≠i→a∈A j→a≠p:=fun j a hj ha z=>R.dj j i a hj ha (by rw [z];exact hp)
 refine⟨fun j u e'=> ?_,fun j h=> ?_,fun j=> ?_,fun j k a hjk h1 h2=> ?_,fun b o q=> ?_,R.gf,R.fnew,fun b o h1 h2=> ?_,fun j a ha=> ?_,fun q a h=> ?_⟩
 ·by_cases hj:j=i
  ·subst hj
   rw [List.getElem?_set_self hi]at e'
   cases e'
   exact⟨_,hs,by rw [if_pos rfl];exact .ow upd_same fp ot⟩
  ·rw [List.getElem?_set_ne (Ne.symm hj)]at e'
   obtain⟨w,h3,h4⟩:=R.slot j u e'
   refine⟨w,h3,?_⟩
   rw [if_neg hj]
   exact h4.move (.refl _) (fun a ha=>(h4.free a ha).1) fun a ha o q=>by rw [upd_ne (ne j a hj ha)];exact q
 ·by_cases hj:j=i
  ·subst hj;exact absurd (List.getElem?_set_self hi) (h _)
  ·show(if j=i then p::B' else A j)=[]
   rw [if_neg hj]
   refine R.out j fun u z=>h u ?_
   rw [List.getElem?_set_ne (Ne.symm hj)];exact z
 ·show(if j=i then p::B' else A j).Nodup
  split
  ·exact nd
  ·exact R.nd j
 ·have h1':a∈(if j=i then p::B' else A j):=h1
  have h2':a∈(if k=i then p::B' else A k):=h2
  have one:∀j,j≠i→a∈A j→a∈p::B'→False:=fun j hj h3 h4=>by
   rcases List.mem_cons.mp h4 with z|z
   ·exact ne j a hj h3 z
   ·exact dj j a hj h3 z
  by_cases e1:j=i
  ·rw [if_pos e1]at h1'
   rw [if_neg (fun z=>hjk (e1.trans z.symm))]at h2'
   exact one k (fun z=>hjk (e1.trans z.symm)) h2' h1'
  ·rw [if_neg e1]at h1'
   by_cases e2:k=i
   ·rw [if_pos e2]at h2'
    exact one j e1 h1' h2'
   ·rw [if_neg e2]at h2'
    exact R.dj j k a hjk h1' h2'
 ·rw [upd_ne (ne_of_none q fp)];exact R.fh _ _ q
 ·rw [upd_ne]
  ·exact R.keep b o h1 h2
  ·rintro rfl
   rcases R.anew i b hp with⟨q,z⟩|z
   ·exact h2 q z
   ·rw [z]at h1;cases h1
 ·have ha':a∈(if j=i then p::B' else A j):=ha
  split at ha'
  ·rcases List.mem_cons.mp ha' with z|z
   ·rw [z];exact R.anew i p hp
   ·exact .inr (an a z)
  ·exact R.anew j a ha'
 ·show∃B,(if q=i then p::B' else A q)=a::B
  obtain⟨C,h5⟩:=R.iok q a h
  split
  ·rename_i hq
   subst hq
   rw [hA]at h5
   injection h5 with h6 _
   exact⟨B',by rw [h6]⟩
  ·exact⟨C,h5⟩
end
end MI
end
noncomputable section
namespace MI
open PySem L2
noncomputable def fresh:E→Bool
 | .bin .Add _ _=>true
 | .bin .Mult _ _=>true
 | .cut _ _ _=>true
 | .rev _=>true
 | .lst _=>true
 | .comp _ _ _ _=>true
 | .un .list _=>true
 | .un .lrng _=>true
 | .un .sorted _=>true
 | .un .sset _=>true
 |_=>false
noncomputable def tF(K:PySem.W.Frag)(cl:Nat→Option Addr)(Γ:Tab)(m:E):TE:=fun σ H Q=>∃G env ds,Same G H∧EnvD K cl G env σ∧ev Γ m env=some (.lst ds)∧∀p xs H1 G1,Ext H G H1 G1→H p=none→G1 p=none→H1 p=some (.lst xs)→Dns K cl G1 xs ds→Q (.ref p) H1
theorem upQ{K:PySem.W.Frag}{cl:Nat→Option Addr}{G H:Hp}{ds:List D}{Q:VK}(q:∀p xs H1 G1,Ext H G H1 G1→H p=none→G1 p=none→H1 p=some (.lst xs)→Dns K cl G1 xs ds→Q (.ref p) H1)(p:Addr)(xs:List V)(H1 G1:Hp)(x:Ext H G H1 G1)(hp:H1 p=none)(d:Dns K cl G1 xs ds):Q (.ref p) (upd H1 p (.lst xs)):=
 q p xs _ G1 (x.trans (Ext.newO x.gh hp _)) (x.hh.free hp) (x.gh.free hp) upd_same d
section
variable{X:Cx}{cl:Nat→Option Addr}{Γ:Tab}{c:CC}
noncomputable def rF(K:PySem.W.Frag)(cl:Nat→Option Addr)(g:D→D→Option D):R2:=fun v u H Q=>∃G x y ds,Same G H∧Dn K cl G v x∧Dn K cl G u y∧g x y=some (.lst ds)∧∀p xs,H p=none→Dns K cl G xs ds→Q (.ref p) (upd H p (.lst xs))
theorem op_binF(op:Operator):OpR X (binaryOp op) (rF X.K cl (binD op)):=by
 intro pins s σ H x y v u Q I rx ry ⟨G,a,b,ds,sg,da,db,hg,q⟩
 unfold binD at hg
 split at hg
 all_goals try (cases hg;done)
 all_goals try (split at hg<;>first|(cases hg;done)|skip)
 ·rename_i hz
  cases hg
  cases da with| @lst p xs _ h1 h2=>cases db with| @lst p' xs' _ h1' h2'=>
   exact op_catR pins s σ H _ _ v u Q I rx ry ⟨_,_,_,_,rfl,rfl,rl_mono sg h1,rl_mono sg h1',sz_le (by rw [h2.length,h2'.length];exact hz),fun r hr=>q r _ hr (h2.append h2')⟩
 ·rename_i hz
  cases hg;cases db
  cases da with| @lst p xs _ h1 h2=>
   obtain⟨hz1,hz2⟩:=(Bool.and_eq_true _ _).mp hz
   have hz2:=of_decide_eq_true hz2
   exact op_repR pins s σ H _ _ v u Q I rx ry ⟨_,_,_,rfl,rfl,rl_mono sg h1,by omega,by omega,sz_le (by rw [h2.length];exact hz1),fun r hr=>q r _ hr (h2.rep _)⟩
theorem tF2{a b m:E}{g:D→D→Option D}{K:PySem.W.Frag}{σ:St}{H:Hp}{Q:VK}(h:∀env,ev Γ m env=(ev Γ a env).bind fun x=>(ev Γ b env).bind fun y=>g x y):tF K cl Γ m σ H Q→tOp (rF K cl g) (tV K cl Γ a) (tV K cl Γ b) σ H Q:=by
 rintro ⟨G,env,d,sg,en,e,q⟩
 have q:=upQ q
 rw [h]at e
 obtain⟨x,ex,e⟩:=bsi e
 obtain⟨y,ey,e⟩:=bsi e
 exact⟨G,env,x,sg,en,ex,fun v H1 G1 e1 d1=>⟨G1,env,y,e1.gh,en.mono e1.gg,ey,fun u H2 G2 e2 d2=>⟨G2,x,y,d,e2.gh,d1.mono e2.gg,d2,e,fun p xs hp dx=>q p xs H2 G2 (e1.trans e2) hp dx⟩⟩⟩
theorem pe_cutF{a:Expr}{lo hi:Option Expr}{ma ml mh:E}{p2 pos:Pos}(ha:PE X a (tV X.K cl Γ ma))(hl:PO X lo (tVO X.K cl Γ ml))(hh:PO X hi (tVO X.K cl Γ mh)):PE X (.Subscript a (.Slice lo hi none p2) pos) (tF X.K cl Γ (.cut ma ml mh)):=by
 refine peI (pe_slice sl_list ha hl hh) fun σ H Q ⟨G,env,ds,sg,en,e,q⟩=> ?_
 have q:=upQ q
 obtain⟨x,ex,e⟩:=bsi (show(ev Γ ma env).bind (fun x=>(optS ml (ev Γ ml env)).bind fun l=>(optS mh (ev Γ mh env)).bind fun h=>cutD x l h)=some (.lst ds)from e)
 obtain⟨l,el,e⟩:=bsi e
 obtain⟨h,eh,e⟩:=bsi e
 refine⟨G,env,x,sg,en,ex,fun v H1 G1 x1 d1=>⟨G1,env,l,x1.gh,en.mono x1.gg,el,fun H2 G2 x2=>⟨G2,env,h,x2.gh,en.mono (x1.gg.trans x2.gg),eh,fun H3 G3 x3=> ?_⟩⟩⟩
 unfold cutD at e
 split at e
 ·cases e
  cases d1 with| @lst p xs _ h1 h2=>
   have x123:=(x1.trans x2).trans x3
   refine⟨p,xs,rfl,(rl_mono (x2.gg.trans (x3.gg.trans x3.gh)) h1).sql,fun r hr=>q r _ H3 G3 x123 hr ?_⟩
   have h2:=h2.mono (x2.gg.trans x3.gg)
   unfold cutV cutL
   rw [h2.length]
   exact(h2.drop _).take _
 ·cases e
theorem pe_revF{a st:Expr}{ma:E}{p2 pos:Pos}(ha:PE X a (tV X.K cl Γ ma))(hs:PE X st (tV X.K cl Γ (.un .neg (.int 1)))):PE X (.Subscript a (.Slice none none (some st) p2) pos) (tF X.K cl Γ (.rev ma)):=by
 refine peI (pe_rev ha hs) fun σ H Q ⟨G,env,ds,sg,en,e,q⟩=> ?_
 have q:=upQ q
 obtain⟨x,ex,e⟩:=bsi (show(ev Γ ma env).bind revD=some (.lst ds)from e)
 refine⟨G,env,x,sg,en,ex,fun v H1 G1 x1 d1=>⟨G1,env,.int (-1),x1.gh,en.mono x1.gg,rfl,fun u H2 G2 x2 d2=> ?_⟩⟩
 cases d2
 refine⟨rfl,?_⟩
 cases x with
 |lst l=>
  cases e
  cases d1 with|lst h1 h2=>
   exact⟨_,_,rfl,(rl_mono (x2.gg.trans x2.gh) h1).sql,fun p hp=>q p _ H2 G2 (x1.trans x2) hp ((h2.mono x2.gg).reverse)⟩
 |_=>cases e
theorem pe_lstF{es:List Expr}{m:E}{pos:Pos}(h:PA X es (tVs X.K cl Γ m)):PE X (.List es pos) (tF X.K cl Γ (.lst m)):=by
 refine peI (pe_lst h) fun σ H Q ⟨G,env,ds,sg,en,e,q⟩=> ?_
 have q:=upQ q
 obtain⟨l,e1,e⟩:=bsi (show(ev Γ m env).bind szL=some (.lst ds)from e)
 cases l with
 |lst l=>
  have e':(if sz l.length then some (D.lst l)else none)=some (.lst ds):=e
  split at e'
  ·rename_i hz
   cases e'
   exact⟨G,env,_,sg,en,by unfold evs;rw [e1];rfl,fun vs H' G' x dv=>⟨sz_le (by rw [dv.length];exact hz),fun p hp=>q p vs H' G' x hp dv⟩⟩
  ·cases e'
 |_=>cases e
theorem pe_listF{a:Expr}{ma:E}{p pos:Pos}(gg:Gl X "list")(mg:X.mg "list"=none)(oa:okE a=true)(ha:PE X a (tV X.K cl Γ ma)):PE X (.Call (.Name "list" p) [a] [] pos) (tF X.K cl Γ (.un .list ma)):=by
 refine peI (pe_callTy call_list_of gg mg bt_list (pa_cons ha pa_nil (star_of oa _ _)) (by decide) (by decide) (star_of oa _ _) rfl) fun σ H Q ⟨G,env,ds,sg,en,e,q⟩=> ?_
 have q:=upQ q
 obtain⟨x,ex,e⟩:=bsi (show(ev Γ ma env).bind (unD .list)=some (.lst ds)from e)
 refine⟨G,env,x,sg,en,ex,fun v H1 G1 x1 d1=> ?_⟩
 cases x with
 |lst l=>
  cases e
  cases d1 with|lst h1 h2=>exact⟨_,_,rfl,.inl (rl_mono x1.gh h1).sql,fun l hl=>q l _ H1 G1 x1 hl h2⟩
 |tup l=>
  cases e
  cases d1 with|tup h1 h2=>exact⟨_,_,rfl,.inr (.inl (.inl (x1.gh _ _ h1))),fun l hl=>q l _ H1 G1 x1 hl h2⟩
 |_=>cases e
theorem pe_lrngF{b:Expr}{mb:E}{p py pb pos:Pos}(calm:X.calm=true)(gg:Gl X "list")(mg:X.mg "list"=none)(g2:Gl X "range")(m2:X.mg "range"=none)(ob:okE b=true)(hb:PE X b (tV X.K cl Γ mb)):PE X (.Call (.Name "list" p) [.Call (.Name "range" py) [b] [] pb] [] pos) (tF X.K cl Γ (.un .lrng mb)):=by
 refine peI (pe_callTy (call_list_rng calm) gg mg bt_list (pa_cons (pe_callTy call_range1R g2 m2 bt_range (pa_cons hb pa_nil (star_of ob _ _)) (by decide) (by decide) (star_of ob _ _) rfl) pa_nil rfl) (by decide) (by decide) rfl rfl) fun σ H Q ⟨G,env,ds,sg,en,e,q⟩=> ?_
 have q:=upQ q
 obtain⟨z,e1,e⟩:=bsi (show(ev Γ mb env).bind (unD .lrng)=some (.lst ds)from e)
 refine⟨G,env,z,sg,en,e1,fun v H1 G1 x1 d1=> ?_⟩
 cases z with
 |int n=>
  have e':(if decide (-(2 ^ 60)≤n∧n≤1000000)then some (D.lst ((List.range n.toNat).map fun(i:Nat)=>D.int i))else none)=some (.lst ds):=e
  split at e'
  ·rename_i hn
   have hn:=of_decide_eq_true hn
   cases e'
   cases d1
   refine⟨n,rfl,fun p hp=> ?_⟩
   have x2:=Ext.newO x1.gh hp (.rng 0 n)
   refine⟨p,0,n,rfl,upd_same,by decide,by decide,by omega,by omega,by omega,fun l hl=> ?_⟩
   rw [Int.sub_zero]
   refine q l _ _ _ (x1.trans x2) hl ?_
   have e3:((List.range n.toNat).map fun(i:Nat)=>V.int (0+(i:Int)))=((List.range n.toNat).map fun(i:Nat)=>(i:Int)).map V.int:=by simp
   have e4:((List.range n.toNat).map fun(i:Nat)=>D.int (i:Int))=((List.range n.toNat).map fun(i:Nat)=>(i:Int)).map D.int:=by simp
   rw [e3,e4]
   exact dns_ints _
  ·cases e'
 |_=>cases e
theorem comp_tF{wi:E}{is:List Nat}{me mc:E}{K:PySem.W.Frag}{tt:TT}(htt:∀σ H (Q:Bool→Hp→Prop),(∃G env b,Same G H∧EnvD K cl G env σ∧cS mc (ev Γ mc env)=some b∧∀H' G',Ext H G H' G'→Q b H')→tt σ H Q){σ:St}{H:Hp}{Q:VK}:
 tF K cl Γ (.comp me is wi mc) σ H Q→tComp (tI K cl Γ wi) is tt (tV K cl Γ me) σ H Q:=by
 rintro ⟨G,env,out,sg,en,e,q⟩
 obtain⟨ds,e1,e⟩:=bsi (show((ev Γ wi env).bind walkD).bind (fun ds=>if sz ds.length then(compR (fun d=>(cS mc (ev Γ mc (inner env is d))).bind fun b=>if b then(ev Γ me (inner env is d)).map some else some none) ds).map D.lst else none)=some (.lst out)from e)
 split at e
 ·rename_i hz
  obtain⟨out',e2,e3⟩:=msi e
  cases e3
  generalize hf:(fun d=>(cS mc (ev Γ mc (inner env is d))).bind fun b=>if b then(ev Γ me (inner env is d)).map some else some none)=f at e2
  have hfd:∀d,f d=(cS mc (ev Γ mc (inner env is d))).bind fun b=>if b then(ev Γ me (inner env is d)).map some else some none:=fun d=>by rw [←hf]
  clear hf
  have hz':=of_decide_eq_true hz
  refine⟨G,env,ds,sg,en,e1,fun J H1 G1 x1 wk _ D hD=> ?_⟩
  have gD:G1 D=none:=x1.gh.free hD
  refine⟨fun i k H2=>k=ds.length-i∧i≤ds.length∧∃G2 ys es rest,Ext H1 G1 H2 G2∧H2 D=some (.lst ys)∧G2 D=none∧Dns K cl G2 ys es∧ys.length≤i∧compR f (ds.drop i)=some rest∧es++rest=out,⟨ds.length,by simp,Nat.zero_le _,G1,[],[],out,⟨same_upd hD _,.refl _,x1.gh.trans (same_upd hD _),fun b o h1 h2=>by rw [h1]at h2;cases h2⟩,upd_same,gD,.nil,by simp,e2,rfl⟩,?_⟩
  rintro i k H2 ⟨rfl,hi,G2,ys,es,rest,x2,hy,g2D,dy,hle,hr,ho⟩
  obtain⟨w1,w2⟩:=wk H2 G2 i x2.gg x2.gh
  by_cases hlt:i<ds.length
  ·have hd:ds[i]?=some ds[i]:=List.getElem?_eq_getElem hlt
   obtain⟨g,y⟩:=w2 _ hd
   refine .inr ⟨g,fun v H3 yl=> ?_⟩
   obtain⟨G3,x3,d3⟩:=y v H3 yl
   rw [List.drop_eq_getElem_cons hlt]at hr
   obtain⟨o,t,f1,f2,f3⟩:=compR_snoc hr
   rw [hfd]at f1
   obtain⟨b,c1,c2⟩:=bsi f1
   have en3:EnvD K cl G3 (inner env is ds[i]) (compSt σ is (some v)):=(en.mono ((x1.gg.trans x2.gg).trans x3.gg)).inner d3 is
   have g3D:G3 D=none:=by
    cases z:G3 D with
    |none=>rfl
    |some o=>have:=x3.nw D o z g2D;rw [hy]at this;cases this
   refine htt _ _ _ ⟨G3,_,b,x3.gh,en3,c1,fun H4 G4 x4=> ?_⟩
   have g4D:G4 D=none:=by
    cases z:G4 D with
    |none=>rfl
    |some o=>have:=x4.nw D o z g3D;rw [x3.hh _ _ hy]at this;cases this
   cases b with
   |false=>
    have c2':some none=some o:=c2
    cases c2'
    exact iteF ⟨ds.length-(i+1),by omega,rfl,hlt,G4,ys,es,t,(x2.trans x3).trans x4,x4.hh _ _ (x3.hh _ _ hy),g4D,dy.mono (x3.gg.trans x4.gg),by omega,f2,by rw [←ho,f3];rfl⟩
   |true=>
    obtain⟨z,c3,c4⟩:=msi (show(ev Γ me (inner env is ds[i])).map some=some o from c2)
    subst c4
    refine iteT ⟨G4,_,z,x4.gh,en3.mono x4.gg,c3,fun u H5 G5 x5 d5=> ?_⟩
    have g5D:G5 D=none:=by
     cases z:G5 D with
     |none=>rfl
     |some o=>have:=x5.nw D o z g4D;rw [x4.hh _ _ (x3.hh _ _ hy)]at this;cases this
    have hy5:H5 D=some (.lst ys):=x5.hh _ _ (x4.hh _ _ (x3.hh _ _ hy))
    refine⟨ys,hy5,by rw [sizeLine_eq];omega,ds.length-(i+1),by omega,rfl,hlt,G5,ys++[u],es++[z],t,?_,upd_same,g5D,(dy.mono ((x3.gg.trans x4.gg).trans x5.gg)).append (.cons d5 .nil),by rw [List.length_append,List.length_singleton];omega,f2,by rw [←ho,f3,List.append_assoc];rfl⟩
    have x25:=((x2.trans x3).trans x4).trans x5
    exact⟨fun b o h=>by rw [upd_ne (ne_of_none h hD)];exact x25.hh _ _ h,x25.gg,fun b o h=>by rw [upd_ne (ne_of_none h g5D)];exact x25.gh _ _ h,x25.nw⟩
  ·have e0:i=ds.length:=by omega
   subst e0
   refine .inl ⟨w1 rfl,?_⟩
   rw [List.drop_length]at hr
   have hr':some []=some rest:=hr
   cases hr'
   rw [List.append_nil]at ho
   subst ho
   have x12:=x1.trans x2
   exact q D ys H2 G2 x12 (x1.hh.free hD) g2D hy dy
 ·cases e
theorem cand_form{f:Expr→Option E}{es:List Expr}{m:E}(h2:2≤es.length)(h:cAnd f es=some m):∃a b,m=.and a b:=by
 match es,h2,h with
 |a::b::r,_,h=>
  have h':(if okT a then(f a).bind fun m=>(cAnd f (b::r)).map fun l=> .and m l else none)=some m:=h
  split at h'
  ·obtain⟨x,_,h'⟩:=bsi h'
   obtain⟨y,_,rfl⟩:=msi h'
   exact⟨x,y,rfl⟩
  ·cases h'
theorem cor_form{f:Expr→Option E}{es:List Expr}{m:E}(h2:2≤es.length)(h:cOr f es=some m):∃a b,m=.or a b:=by
 match es,h2,h with
 |a::b::r,_,h=>
  have h':(if okT a then(f a).bind fun m=>(cOr f (b::r)).map fun l=> .or m l else none)=some m:=h
  split at h'
  ·obtain⟨x,_,h'⟩:=bsi h'
   obtain⟨y,_,rfl⟩:=msi h'
   exact⟨x,y,rfl⟩
  ·cases h'
noncomputable def isVr:E→Bool
 | .var _=>true
 |_=>false
noncomputable def isCall:E→Bool
 | .call _ _=>true
 |_=>false
noncomputable def hdOk(m:E):Expr→Bool
 | .Name _ _=> !isCall m&& !fresh m
 | .Call _ _ _ _=> !isVr m
 | .BinOp _ _ _ _=> !isVr m&& !isCall m
 | .Subscript _ _ _=> !isVr m&& !isCall m
 | .List _ _=> !isVr m&& !isCall m
 | .ListComp _ _ _ _=> !isVr m&& !isCall m
 |_=> !isVr m&& !isCall m&& !fresh m
theorem cB_head{g:Str→Bool}{cn:Str→Option Nat}{f:Expr→Option E}{x:Str}{args:List Expr}{m:E}(h:cB g cn f x args=some m):isVr m=false∧isCall m=false:=by
 unfold cB at h
 split at h
 ·repeat' (split at h)
  all_goals first
   |(cases h;done)
   |(obtain⟨_,_,rfl⟩:=msi h;exact⟨rfl,rfl⟩)
 ·repeat' (split at h)
  all_goals first
   |(cases h;done)
   |(obtain⟨_,_,rfl⟩:=msi h;exact⟨rfl,rfl⟩)
   |(obtain⟨_,_,h⟩:=bsi h
     obtain⟨_,_,rfl⟩:=msi h;exact⟨rfl,rfl⟩)
 ·cases h
theorem cMe_form{r:Expr→Option E}{pos:Pos}{o:Str×Pos×Str×Pos}{args:List Expr}{m:E}(h:cMe r pos o args=some m):∃i,∃q:Nat×E,m=.meth (.var i) q.1 q.2:=by
 unfold cMe at h
 split at h
 ·obtain⟨k,_,h⟩:=bsi h
  obtain⟨i,_,h⟩:=bsi h
  obtain⟨ml,_,rfl⟩:=msi h
  exact⟨i,(k,ml),rfl⟩
 ·cases h
theorem cIx_form{r:Expr→Option E}{pos:Pos}{o:Str×Pos×Str×Pos}{args:List Expr}{m:E}(h:cIx r pos o args=some m):∃a b,m=.ind a b:=by
 unfold cIx at h
 split at h
 ·split at h
  ·obtain⟨a,_,h⟩:=bsi h
   obtain⟨b,_,rfl⟩:=msi h
   exact⟨a,b,rfl⟩
  ·cases h
 ·cases h
theorem cKw_form{c:CC}{N:List Str}{sc:Scope}{r:Expr→Option E}{k:Option Str}{d f:Expr}{args:List Expr}{m:E}(h:cKw c N sc r k d f args=some m):∃a b,m=.mxd a b:=by
 unfold cKw at h
 split at h
 ·obtain⟨_,_,h⟩:=bsi h
  split at h
  ·obtain⟨a,_,h⟩:=bsi h
   obtain⟨b,_,rfl⟩:=msi h
   exact⟨a,b,rfl⟩
  ·cases h
 ·cases h
theorem cE_head{c:CC}{n:Nat}{top:Bool}{N:List Str}{sc:Scope}{e:Expr}{m:E}(h:cE c (n+1) top N sc e=some m):hdOk m e=true:=by
 cases e
 case Name x pos=>
  replace h:cNa c N sc x=some m:=h
  unfold cNa at h
  split at h
  ·split at h
   ·cases h;rfl
   ·split at h
    ·obtain⟨_,_,rfl⟩:=msi h;rfl
    ·cases h
  ·cases h
 case Constant k kk pos=>
  cases k
  all_goals first|(cases h;rfl)|(cases h;done)
 case BinOp a op b pos=>
  obtain⟨_,_,h⟩:=bsi h
  obtain⟨_,_,rfl⟩:=msi h;rfl
 case UnaryOp op a pos=>
  cases op
  case USub=>obtain⟨_,_,rfl⟩:=msi h;rfl
  case Not=>
   replace h:(if okT a then(cE c n top N sc a).map .not else none)=some m:=h
   split at h
   ·obtain⟨_,_,rfl⟩:=msi h;rfl
   ·cases h
  all_goals cases h
 case Compare a ops bs pos=>
  replace h:cCm (cE c n top N sc) a ops bs=some m:=h
  unfold cCm at h
  split at h
  ·split at h
   ·obtain⟨_,_,h⟩:=bsi h
    obtain⟨_,_,rfl⟩:=msi h;rfl
   ·cases h
  ·split at h
   ·obtain⟨_,_,h⟩:=bsi h
    obtain⟨_,_,h⟩:=bsi h
    obtain⟨_,_,rfl⟩:=msi h;rfl
   ·cases h
  ·cases h
 case BoolOp op vs pos=>
  cases op
  case And=>
   replace h:(if 2≤vs.length then cAnd (cE c n top N sc) vs else none)=some m:=h
   split at h
   ·rename_i h2;obtain⟨_,_,rfl⟩:=cand_form h2 h;rfl
   ·cases h
  case Or=>
   replace h:(if 2≤vs.length then cOr (cE c n top N sc) vs else none)=some m:=h
   split at h
   ·rename_i h2;obtain⟨_,_,rfl⟩:=cor_form h2 h;rfl
   ·cases h
 case IfExp t a b pos=>
  replace h:(if okT t then(cE c n top N sc t).bind fun k=>(cE c n top N sc a).bind fun m=>(cE c n top N sc b).map fun l=>E.ite k m l else none)=some m:=h
  split at h
  ·obtain⟨_,_,h⟩:=bsi h
   obtain⟨_,_,h⟩:=bsi h
   obtain⟨_,_,rfl⟩:=msi h;rfl
  ·cases h
 case Call fn args ks pos=>
  cases ks with
  |cons kw kr=>
   cases kr with
   |cons _ _=>
    obtain⟨_,_,_⟩:=kw
    replace h:(none:Option E)=some m:=h
    cases h
   |nil=>
    obtain⟨k,d,kp⟩:=kw
    replace h:cKw c N sc (cE c n top N sc) k d fn args=some m:=h
    obtain⟨_,_,rfl⟩:=cKw_form h;rfl
  |nil=>
  replace h:(match cAtt fn with
   |some om=>if om.2.2.1==("index":Str)then cIx (cE c n top N sc) pos om args else cMe (cE c n top N sc) pos om args
   |none=>(nmOf fn).bind fun x=>cCn c N sc (cE c n top N sc) x args)=some m:=h
  split at h
  ·split at h
   ·obtain⟨_,_,rfl⟩:=cIx_form h;rfl
   ·obtain⟨_,_,rfl⟩:=cMe_form h;rfl
  obtain⟨x,h0,h⟩:=bsi h
  unfold cCn at h
  split at h
  ·split at h
   ·split at h
    ·cases h
    ·obtain⟨_,_,rfl⟩:=msi h;rfl
   ·show(!isVr m)=true
    rw [(cB_head h).1];rfl
  ·cases h
 case Subscript a b pos=>
  replace h:((cE c n top N sc a).bind fun m=>cSu (cE c n top N sc) m b)=some m:=h
  replace h:=bsi h
  obtain⟨ma,h1,h⟩:=h
  unfold cSu at h
  split at h
  ·rename_i lo hi st p2
   cases st with
   |some st=>
    replace h:(if lo.isNone&&hi.isNone then(match cE c n top N sc st with
     |some (.un .neg (.int 1))=>some (.rev ma)
     |_=>none)else none)=some m:=h
    split at h
    ·split at h
     ·cases h;rfl
     ·cases h
    ·cases h
   |none=>
    obtain⟨_,_,h⟩:=bsi h
    obtain⟨_,_,rfl⟩:=msi h;rfl
  ·split at h
   ·obtain⟨_,_,rfl⟩:=msi h;rfl
   ·cases h
 case List es pos=>
  replace h:(if es.all okE then(cList (cE c n top N sc) es).map .lst else none)=some m:=h
  split at h
  ·obtain⟨_,_,rfl⟩:=msi h;rfl
  ·cases h
 case Attribute a f pos=>
  replace h:(if FLD.contains f&&attrOk a then(cE c n top N sc a).map (.fld · f)else none)=some m:=h
  split at h
  ·obtain⟨_,_,rfl⟩:=msi h;rfl
  ·cases h
 case Tuple es k pos=>
  replace h:(if es.all okE then(cList (cE c n top N sc) es).map .tup else none)=some m:=h
  split at h
  ·obtain⟨_,_,rfl⟩:=msi h;rfl
  ·cases h
 case ListComp elt gs scope pos=>
  replace h:(if top then cLc c N sc (cE c n top N sc) (fun N' e=>cE c n false N' scope e) elt scope gs else none)=some m:=h
  split at h
  ·unfold cLc at h
   split at h
   ·split at h
    ·obtain⟨is,h1,h⟩:=bsi h
     split at h
     ·obtain⟨mi,h2,h⟩:=bsi h
      obtain⟨me,h3,h⟩:=bsi h
      obtain⟨mc,h4,rfl⟩:=msi h;rfl
     ·cases h
    ·cases h
   ·cases h
  ·cases h
 all_goals cases h
theorem no_fresh{m:E}{a:Bool}{P:Prop}(hh:(a&& !fresh m)=true)(hf:fresh m=true):P:=by
 rw [hf]at hh
 cases a<;>cases hh
theorem cF_ok(hΓ:∀x f,c.tab.lookup x=some f→∃g,Γ f=some g){n:Nat}{top:Bool}{N:List Str}{sc:Scope}{e:Expr}{m:E}(S:Sees X cl c Γ top N sc)(h:cE c n top N sc e=some m)(hf:fresh m=true):PE X e (tF X.K cl Γ m):=by
 cases n with
 |zero=>cases h
 |succ n=>
  have ih1:∀e m,cE c n top N sc e=some m→PE X e (tV X.K cl Γ m):=fun e m h=>(cE_ok hΓ n top N sc e m X S h).1
  have hh:=cE_head h
  cases e
  case BinOp a op b pos=>
   replace h:((cE c n top N sc a).bind fun m=>(cE c n top N sc b).map fun l=>E.bin op m l)=some m:=h
   obtain⟨ma,h1,h⟩:=bsi h
   obtain⟨mb,h2,rfl⟩:=msi h
   exact peI (pe_op (op_binF (cl:=cl) op) (ih1 a ma h1) (ih1 b mb h2)) fun σ H Q q=>tF2 (fun _=>rfl) q
  case Call fn args ks pos=>
   cases ks with
   |cons kw kr=>
    cases kr with
    |cons _ _=>
     obtain⟨_,_,_⟩:=kw
     replace h:(none:Option E)=some m:=h
     cases h
    |nil=>
     obtain⟨k,d,kp⟩:=kw
     replace h:cKw c N sc (cE c n top N sc) k d fn args=some m:=h
     obtain⟨_,_,rfl⟩:=cKw_form h;cases hf
   |nil=>
   replace h:(match cAtt fn with
    |some om=>if om.2.2.1==("index":Str)then cIx (cE c n top N sc) pos om args else cMe (cE c n top N sc) pos om args
    |none=>(nmOf fn).bind fun x=>cCn c N sc (cE c n top N sc) x args)=some m:=h
   split at h
   ·split at h
    ·obtain⟨_,_,rfl⟩:=cIx_form h;cases hf
    ·obtain⟨_,_,rfl⟩:=cMe_form h;cases hf
   replace h:=bsi h
   obtain⟨x,h0,h⟩:=h
   obtain⟨p,rfl⟩:=nmOf_ok h0
   unfold cCn at h
   split at h
   ·rename_i ok
    obtain⟨ok,gx⟩:=(Bool.and_eq_true _ _).mp ok
    obtain⟨o1,g1⟩:=isGl_ok gx
    have gg:=S.gl x g1
    split at h
    ·split at h
     ·cases h
     ·obtain⟨_,_,rfl⟩:=msi h;cases hf
    ·unfold cB at h
     split at h
     ·rename_i a
      rw [List.all_cons,Bool.and_eq_true]at ok
      have oa:=ok.1
      split at h
      ·repeat' (split at h)
       all_goals (obtain⟨_,_,rfl⟩:=msi h;cases hf)
      split at h
      ·rename_i e
       have e:x="list":=by simpa using e
       subst e
       split at h
       ·rename_i y py b pb
        split at h
        ·rename_i hr
         obtain⟨hr,ob⟩:=(Bool.and_eq_true _ _).mp hr
         obtain⟨hr1,hr2⟩:=(Bool.and_eq_true _ _).mp hr
         obtain⟨hr1,_⟩:=(Bool.and_eq_true _ _).mp hr1
         have e:y="range":=by simpa using hr2
         subst e
         obtain⟨mb,h1,rfl⟩:=msi h
         obtain⟨_,g2⟩:=isGl_ok hr1
         exact pe_lrngF S.calm gg (S.blt _ (by decide+kernel)) (S.gl _ g2) (S.blt _ (by decide+kernel)) ob (ih1 b mb h1)
        ·obtain⟨ma,h1,rfl⟩:=msi h
         exact pe_listF gg (S.blt _ (by decide+kernel)) oa (ih1 _ ma h1)
       ·split at h
        ·obtain⟨_,_,rfl⟩:=msi h;cases hf
        ·obtain⟨ma,h1,rfl⟩:=msi h
         exact pe_listF gg (S.blt _ (by decide+kernel)) oa (ih1 _ ma h1)
       ·obtain⟨ma,h1,rfl⟩:=msi h
        exact pe_listF gg (S.blt _ (by decide+kernel)) oa (ih1 _ ma h1)
      repeat' (split at h)
      all_goals first
       |(cases h;done)
       |(obtain⟨_,_,rfl⟩:=msi h;cases hf)
     ·repeat' (split at h)
      all_goals first
       |(cases h;done)
       |(obtain⟨_,_,rfl⟩:=msi h;cases hf;done)
       |(obtain⟨_,_,h⟩:=bsi h
         obtain⟨_,_,rfl⟩:=msi h;cases hf)
     ·cases h
   ·cases h
  case Subscript a b pos=>
   clear hh
   replace h:((cE c n top N sc a).bind fun m=>cSu (cE c n top N sc) m b)=some m:=h
   replace h:=bsi h
   obtain⟨ma,h1,h⟩:=h
   unfold cSu at h
   split at h
   ·rename_i lo hi st p2
    cases st with
    |some st=>
     replace h:(if lo.isNone&&hi.isNone then(match cE c n top N sc st with
      |some (.un .neg (.int 1))=>some (.rev ma)
      |_=>none)else none)=some m:=h
     split at h
     ·rename_i hn
      obtain⟨rfl,rfl⟩:lo=none∧hi=none:=by simpa using hn
      split at h
      ·rename_i hs
       cases h
       exact pe_revF (ih1 a ma h1) (ih1 st _ hs)
      ·cases h
     ·cases h
    |none=>
     replace h:((cOpt (cE c n top N sc) lo).bind fun ml=>(cOpt (cE c n top N sc) hi).map fun mh=>E.cut ma ml mh)=some m:=h
     obtain⟨ml,h2,h⟩:=bsi h
     obtain⟨mh,h3,rfl⟩:=msi h
     exact pe_cutF (ih1 a ma h1) (po_D (fun e _ m h=>ih1 e m h) h2) (po_D (fun e _ m h=>ih1 e m h) h3)
   ·split at h
    ·obtain⟨_,_,rfl⟩:=msi h;cases hf
    ·cases h
  case List es pos=>
   replace h:(if es.all okE then(cList (cE c n top N sc) es).map .lst else none)=some m:=h
   split at h
   ·rename_i ok
    obtain⟨ml,h1,rfl⟩:=msi h
    exact pe_lstF (clist_ok (fun e _ m h=>ih1 e m h) ok h1)
   ·cases h
  case ListComp elt gs scope pos=>
   clear hh
   replace h:(if top then cLc c N sc (cE c n top N sc) (fun N' e=>cE c n false N' scope e) elt scope gs else none)=some m:=h
   split at h
   ·rename_i tp
    subst tp
    unfold cLc at h
    split at h
    ·rename_i x px iter ifs
     split at h
     ·rename_i oi
      obtain⟨is,h1,h⟩:=bsi h
      split at h
      ·rename_i cs
       have cs:=compOk_ok cs
       obtain⟨mi,h2,h⟩:=bsi h
       obtain⟨me,h3,h⟩:=bsi h
       obtain⟨mc,h4,rfl⟩:=msi h
       have hi:PI X (.Name x px) iter (tI X.K cl Γ mi):=ci_ok S ih1 (fun z=>by cases z) h2
       have he:∀C s H fp pins,PE (compCx X scope (x::frees scope.names) C s H fp pins) elt (tV X.K cl Γ me):=fun C s H fp pins=>(cE_ok hΓ n false _ scope elt me _ (S.comp cs C s H fp pins) h3).1
       have hfs:∀v,foldedSetIterable iter X.env v=pure v:=by intro v;cases iter<;>first|rfl|cases oi
       have hcs:X.env.scope=sc:=S.tp rfl
       cases ifs with
       |nil=>
        cases h4
        exact peI (pe_comp S.calm hi he cs hcs S.hN hfs) fun σ H Q q=>comp_tF (fun σ H Q ⟨G,env,b,sg,en,e,q⟩=>by
         have e':some true=some b:=e
         cases e'
         exact q H G (Ext.refl sg)) q
       |cons t r=>
        cases r with
        |nil=>
         have h4':(if okT t then(cE c n false (x::frees scope.names) scope t).bind fun m=>if isNil m then none else some m else none)=some mc:=h4
         split at h4'
         ·rename_i okt
          obtain⟨m',h5,h6⟩:=bsi h4'
          split at h6
          ·cases h6
          ·rename_i nn
           cases h6
           have ht:∀C s H fp pins,PT (compCx X scope (x::frees scope.names) C s H fp pins) t (tVT X.K cl Γ mc):=fun C s H fp pins=>(cE_ok hΓ n false _ scope t mc _ (S.comp cs C s H fp pins) h5).2 okt
           exact peI (pe_compIf S.calm hi ht he cs hcs S.hN hfs) fun σ H Q q=>comp_tF (fun σ H Q ⟨G,env,b,sg,en,e,q⟩=>by
            unfold cS at e
            rw [if_neg nn]at e
            exact⟨G,env,b,sg,en,e,q⟩) q
         ·cases h4'
        |cons t2 r2=>cases h4
      ·cases h
     ·cases h
    ·cases h
   ·cases h
  all_goals exact no_fresh hh hf
end
end MI
end
noncomputable section
namespace MI
open PySem L2
section
variable{K:PySem.W.Frag}{cl:Nat→Option Addr}{G G' H H':Hp}
theorem Dn.scal{v:V}{d:D}(h:Dn K cl G v d)(s:scal d=true)(G':Hp):Dn K cl G' v d:=by
 cases h with
 |non=>exact .non
 |bl b=>exact .bl b
 |int b=>exact .int b
 |str b=>exact .str b
 |lst _ _=>cases s
 |tup _ _=>cases s
 |ins _ _ _ _=>cases s
theorem Dns.scal:∀ {vs:List V} {ds:List D},Dns K cl G vs ds→ds.all MI.scal=true→(G':Hp)→Dns K cl G' vs ds
 |_,_,.nil,_,_=> .nil
 |_,_,.cons h t,s,G'=>by
  rw [List.all_cons,Bool.and_eq_true]at s
  exact .cons (h.scal s.1 G') (Dns.scal t s.2 G')
mutual
theorem OT.flat:∀ {v:V} {t:T} {A:List Addr},OT K cl G H v t A→flatT t=true→(∀a∈A,G' a=none)→OT K cl G' H v t A
 |_,_,_,.sh h,s,_=> .sh (h.scal (by simpa [flatT]using s) _)
 |_,_,_,.ow h1 h2 h3,s,f=> .ow h1 (f _ (by simp)) (OTs.flat h3 (by simpa [flatT]using s) fun a ha=>f a (by simp [ha]))
 |_,_,_,.ob h1 h2 h3 h4 h5 h6 h7,s,f=> .ob h1 h2 h3 h4 (f _ (by simp)) (f _ (by simp)) (OTs.flat h7 (by simpa [flatT]using s) fun a ha=>f a (by simp [ha]))
theorem OTs.flat:∀ {vs:List V} {ts:List T} {A:List Addr},OTs K cl G H vs ts A→flatTs ts=true→(∀a∈A,G' a=none)→OTs K cl G' H vs ts A
 |_,_,_,.nil,_,_=> .nil
 |_,_,_,.cons h hs,s,f=>by
  rw [flatTs,Bool.and_eq_true]at s
  exact .cons (OT.flat h s.1 fun a ha=>f a (by simp [ha])) (OTs.flat hs s.2 fun a ha=>f a (by simp [ha]))
end
end
noncomputable def vars:E→List Nat
 | .var i=>[i]
 | .bin _ a b=>vars a++vars b
 | .un _ a=>vars a
 | .not a=>vars a
 | .cmp _ a b=>vars a++vars b
 | .ch _ _ a b c=>vars a++vars b++vars c
 | .ch3 _ _ _ a b c d=>vars a++vars b++vars c++vars d
 | .and a b=>vars a++vars b
 | .or a b=>vars a++vars b
 | .ite c a b=>vars c++vars a++vars b
 | .idx a b=>vars a++vars b
 | .cut a b c=>vars a++vars b++vars c
 | .rev a=>vars a
 | .lst a=>vars a
 | .tup a=>vars a
 | .mn a b=>vars a++vars b
 | .mx a b=>vars a++vars b
 | .isi a _=>vars a
 | .comp _ is it _=>vars it++is
 | .rng a=>vars a
 | .rng2 a b=>vars a++vars b
 | .dn a=>vars a
 | .mxd a b=>vars a++vars b
 | .ind a b=>vars a++vars b
 | .enm a=>vars a
 | .zp a b=>vars a++vars b
 | .rvd a=>vars a
 | .call _ a=>vars a
 | .fld a _=>vars a
 | .meth o _ a=>vars o++vars a
 | .isc a _=>vars a
 | .cons a b=>vars a++vars b
 |_=>[]
noncomputable def frz(pio:Option Nat)(env:TEnv):List Nat→Option TEnv
 |[]=>some env
 |i::r=>match env[i]? with
  |some (some (.ow ts))=>if pio=some i then none else frz pio (env.set i (some (.sh (strip (.ow ts))))) r
  |some (some (.ob c ks ts))=>if pio=some i then none else frz pio (env.set i (some (.sh (strip (.ob c ks ts))))) r
  |_=>frz pio env r
noncomputable def evX(Γ:Tab)(pio:Option Nat)(m:E)(env:TEnv):Option (T×TEnv):=match m with
 | .call f args=>(Γ f).bind fun g=>(evs Γ args (dEnv env)).bind fun l=>(g l).bind fun t=>if flatT t then some (t,env)else(frz pio env (vars args)).bind fun env'=>(evs Γ args (fEnv env')).bind fun l'=>(g l').map fun t'=>(t',env')
 |m=>(ev Γ m (dEnv env)).bind fun d=>if scal d then some (.sh d,env)else
   if fresh m then(listD d).bind fun ds=>if ds.all scal then some (.ow (ds.map T.sh),env)else(frz pio env (vars m)).bind fun env'=>((ev Γ m (fEnv env')).bind listD).map fun ds'=>(.ow (ds'.map T.sh),env')
   else(frz pio env (vars m)).bind fun env'=>(ev Γ m (fEnv env')).map fun d'=>(.sh d',env')
theorem evX_call(Γ:Tab)(pio:Option Nat)(f:Nat)(args:E)(env:TEnv):evX Γ pio (.call f args) env=(Γ f).bind fun g=>(evs Γ args (dEnv env)).bind fun l=>(g l).bind fun t=>if flatT t then some (t,env)else(frz pio env (vars args)).bind fun env'=>(evs Γ args (fEnv env')).bind fun l'=>(g l').map fun t'=>(t',env'):=rfl
theorem evX_other{Γ:Tab}{pio:Option Nat}{m:E}{env:TEnv}(h:isCall m=false):evX Γ pio m env=(ev Γ m (dEnv env)).bind fun d=>if scal d then some (.sh d,env)else
 if fresh m then(listD d).bind fun ds=>if ds.all scal then some (.ow (ds.map T.sh),env)else(frz pio env (vars m)).bind fun env'=>((ev Γ m (fEnv env')).bind listD).map fun ds'=>(.ow (ds'.map T.sh),env')
 else(frz pio env (vars m)).bind fun env'=>(ev Γ m (fEnv env')).map fun d'=>(.sh d',env'):=by
 unfold evX
 split
 ·cases h
 ·rfl
noncomputable def Pio(pio:Option Nat)(io:Option (Nat×Addr)):Prop:=∀p a,io=some (p,a)→pio=some p
section
variable{K:PySem.W.Frag}{cl:Nat→Option Addr}{H₀ G₀ F H H' F':Hp}{io:Option (Nat×Addr)}{A:Nat→List Addr}{σ:St}{env env':TEnv}{pio:Option Nat}
theorem frz_ok(hp:Pio pio io):∀ {l:List Nat} {F:Hp} {A:Nat→List Addr} {env env':TEnv},Rep K cl H₀ G₀ io F A σ env H→frz pio env l=some env'→∃F' A',Rep K cl H₀ G₀ io F' A' σ env' H∧env'.length=env.length∧Gro F A H F' A' H
 |[],F,A,env,env',R,h=>by cases h;exact⟨F,A,R,rfl,.refl⟩
 |i::r,F,A,env,env',R,h=>by
  have go:∀ {t:T},env[i]?=some (some t)→¬pio=some i→frz pio (env.set i (some (.sh (strip t)))) r=some env'→∃F' A',Rep K cl H₀ G₀ io F' A' σ env' H∧env'.length=env.length∧Gro F A H F' A' H:=fun {t} e hn h=>by
   obtain⟨F1,fz,R1⟩:=R.freeze i (fun p a z q=>hn (by rw [←q];exact hp p a z)) e
   obtain⟨F2,A2,R2,l2,g2⟩:=frz_ok hp R1 h
   refine⟨F2,A2,R2,by rw [l2,List.length_set],Gro.trans ⟨.refl _,fz.gg,fun b o h1 h2=> ?_,fun j a ha=> ?_⟩ g2⟩
   ·by_cases hb:b∈A i
    ·exact .inl ⟨i,hb⟩
    ·rw [fz.on b hb,h2]at h1;cases h1
   ·have ha':a∈(if j=i then []else A j):=ha
    split at ha'
    ·simp at ha'
    ·exact ha'
  unfold frz at h
  split at h
  ·rename_i ts e
   split at h
   ·cases h
   ·rename_i hn
    exact go e hn h
  ·rename_i c ks ts e
   split at h
   ·cases h
   ·rename_i hn
    exact go e hn h
  ·exact frz_ok hp R h
theorem Rep.new(R:Rep K cl H₀ G₀ io F A σ env H){p:Addr}(h:H p=none):H₀ p=none:=by
 cases e:H₀ p with
 |none=>rfl
 |some o=>
  by_cases hb:∃q,io=some (q,p)
  ·obtain⟨q,hb⟩:=hb
   obtain⟨_,o',h4⟩:=R.at_ (R.ioa hb);rw [h]at h4;cases h4
  ·have:=R.keep p o e (fun q z=>hb ⟨q,z⟩);rw [h]at this;cases this
theorem Rep.ext(R:Rep K cl H₀ G₀ io F A σ env H)(x:Ext H F H' F'):Rep K cl H₀ G₀ io F' A σ env H':=R.grow x.hh x.gg x.gh x.nw
theorem Rep.same(R:Rep K cl H₀ G₀ io F A σ env H)(x:Same H H'):Rep K cl H₀ G₀ io F A σ env H':=R.grow x (.refl _) (R.fh.trans x) fun b o h1 h2=>by rw [h1]at h2;cases h2
end
noncomputable def tX(K:PySem.W.Frag)(cl:Nat→Option Addr)(Γ:Tab)(pio:Option Nat)(m:E):TE:=fun σ H Q=>∃H₀ G₀ io F A env t env',Pio pio io∧env.length=σ.length∧Rep K cl H₀ G₀ io F A σ env H∧evX Γ pio m env=some (t,env')∧
 ∀v H' F' A' B,env'.length=σ.length→Gro F A H F' A' H'→Rep K cl H₀ G₀ io F' A' σ env' H'→OT K cl F' H' v t B→B.Nodup→(∀a∈B,H a=none)→Q v H'
section
variable{X:Cx}{cl:Nat→Option Addr}{Γ:Tab}{c:CC}
theorem call_inv{n:Nat}{top:Bool}{N:List Str}{sc:Scope}{e:Expr}{f:Nat}{args:E}(hΓ:∀x f,c.tab.lookup x=some f→∃g,Γ f=some g)(S:Sees X cl c Γ top N sc)(h:cE c n top N sc e=some (.call f args)):
 ∃g,Γ f=some g∧PE X e (fun σ H Q=>∃G env l t,Same G H∧EnvD X.K cl G env σ∧evs Γ args env=some l∧g l=some t∧∀v H' G' A,Ext H G H' G'→OT X.K cl G' H' v t A→A.Nodup→(∀a∈A,H a=none)→Q v H'):=by
 cases n with
 |zero=>cases h
 |succ n=>
  have ih1:∀e m,cE c n top N sc e=some m→PE X e (tV X.K cl Γ m):=fun e m h=>(cE_ok hΓ n top N sc e m X S h).1
  have hh:=cE_head h
  cases e
  case Call fn args' ks pos=>
   cases ks with
   |cons kw kr=>
    cases kr with
    |cons _ _=>
     obtain⟨_,_,_⟩:=kw
     replace h:(none:Option E)=some (.call f args):=h
     cases h
    |nil=>
     obtain⟨k,d,kp⟩:=kw
     replace h:cKw c N sc (cE c n top N sc) k d fn args'=some (.call f args):=h
     obtain⟨_,_,e⟩:=cKw_form h;cases e
   |nil=>
   replace h:(match cAtt fn with
    |some om=>if om.2.2.1==("index":Str)then cIx (cE c n top N sc) pos om args' else cMe (cE c n top N sc) pos om args'
    |none=>(nmOf fn).bind fun x=>cCn c N sc (cE c n top N sc) x args')=some (.call f args):=h
   split at h
   ·split at h
    ·obtain⟨_,_,e⟩:=cIx_form h;cases e
    ·obtain⟨_,_,e⟩:=cMe_form h;cases e
   replace h:=bsi h
   obtain⟨x,h0,h⟩:=h
   obtain⟨p,rfl⟩:=nmOf_ok h0
   unfold cCn at h
   split at h
   ·rename_i ok
    obtain⟨ok,gx⟩:=(Bool.and_eq_true _ _).mp ok
    obtain⟨o1,g1⟩:=isGl_ok gx
    obtain⟨n1,n2,n3⟩:=okN_ok o1
    split at h
    ·rename_i f' hf
     split at h
     ·cases h
     ·rename_i hne
      obtain⟨ml,h1,h3⟩:=msi h
      cases h3
      obtain⟨g,hg⟩:=hΓ x f hf
      cases args' with
      |nil=>exact absurd rfl hne
      |cons e es=>exact⟨g,hg,pe_callT (S.gl x g1) n1 (S.fn x f g hf hg) (clist_ok (fun e _ m h=>ih1 e m h) ok h1) ok⟩
    ·cases (cB_head h).2
   ·cases h
  all_goals cases hh
theorem evX_ok(hΓ:∀x f,c.tab.lookup x=some f→∃g,Γ f=some g){n:Nat}{top:Bool}{N:List Str}{sc:Scope}{e:Expr}{m:E}{pio:Option Nat}(S:Sees X cl c Γ top N sc)(h:cE c n top N sc e=some m):PE X e (tX X.K cl Γ pio m):=by
 have pv:=(cE_ok hΓ n top N sc e m X S h).1
 intro pins s σ H Q I ⟨H₀,G₀,io,F,A,env,t,env',hp,hl,R,ev',q⟩
 cases hc:isCall m with
 |true=>
  cases m with
  |call f args=>
   obtain⟨g,hg,pc⟩:=call_inv hΓ S h
   rw [evX_call,hg]at ev'
   obtain⟨l,el,ev'⟩:=bsi (show(evs Γ args (dEnv env)).bind (fun l=>(g l).bind fun t=>if flatT t then some (t,env)else(frz pio env (vars args)).bind fun env'=>(evs Γ args (fEnv env')).bind fun l'=>(g l').map fun t'=>(t',env'))=some (t,env')from ev')
   obtain⟨t1,et,ev'⟩:=bsi ev'
   split at ev'
   ·rename_i fl
    cases ev'
    refine pc pins s σ H Q I ⟨H,_,l,t,.refl _,R.see,el,et,fun v H' G' B x o nd nw=> ?_⟩
    exact q v H' F A B hl (.of_same x.hh) (R.same x.hh) (o.flat fl fun a ha=>R.fh.free (nw a ha)) nd nw
   ·obtain⟨env1,ef,ev'⟩:=bsi ev'
    obtain⟨l2,el2,ev'⟩:=bsi ev'
    obtain⟨t2,et2,ev'⟩:=msi ev'
    cases ev'
    obtain⟨F1,A1,R1,l1,g1⟩:=frz_ok hp R ef
    exact pc pins s σ H Q I ⟨F1,_,l2,t,R1.fh,R1.seeF,el2,et2,fun v H' G' B x o nd nw=>q v H' G' A1 B (l1.trans hl) (g1.trans (.of_ext x)) (R1.ext x) o nd nw⟩
  |_=>cases hc
 |false=>
  rw [evX_other hc]at ev'
  obtain⟨d,ed,ev'⟩:=bsi ev'
  split at ev'
  ·rename_i sc'
   cases ev'
   exact pv pins s σ H Q I ⟨H,_,d,.refl _,R.see,ed,fun v H' G' x dv=>q v H' F A [] hl (.of_same x.hh) (R.same x.hh) (.sh (dv.scal sc' F)) List.nodup_nil (by simp)⟩
  ·split at ev'
   ·rename_i fr
    have pf:=cF_ok hΓ S h fr
    obtain⟨ds,e1,ev2⟩:=bsi ev'
    have hd:d=.lst ds:=by cases d<;>cases e1;rfl
    subst hd
    clear ev'
    have ev':=ev2
    clear ev2
    split at ev'
    ·rename_i al
     cases ev'
     refine pf pins s σ H Q I ⟨H,_,ds,.refl _,R.see,ed,fun p xs H1 G1 x hpn gpn hat dx=> ?_⟩
     refine q (.ref p) H1 F A [p] hl (.of_same x.hh) (R.same x.hh) (.ow hat (R.fh.free hpn) (OTs.shs (dx.scal al F))) (by simp) (fun a ha=> ?_)
     have e:a=p:=by simpa using ha
     rw [e];exact hpn
    ·obtain⟨env1,ef,ev'⟩:=bsi ev'
     obtain⟨ds',e2,ev'⟩:=msi ev'
     cases ev'
     obtain⟨d',e3,e4⟩:=bsi e2
     have hd:d'=.lst ds':=by cases d'<;>cases e4;rfl
     subst hd
     obtain⟨F1,A1,R1,l1,g1⟩:=frz_ok hp R ef
     refine pf pins s σ H Q I ⟨F1,_,ds',R1.fh,R1.seeF,e3,fun p xs H1 G1 x hpn gpn hat dx=> ?_⟩
     refine q (.ref p) H1 G1 A1 [p] (l1.trans hl) (g1.trans (.of_ext x)) (R1.ext x) (.ow hat gpn (OTs.shs dx)) (by simp) (fun a ha=> ?_)
     have e:a=p:=by simpa using ha
     rw [e];exact hpn
   ·obtain⟨env1,ef,ev'⟩:=bsi ev'
    obtain⟨d',e3,ev'⟩:=msi ev'
    cases ev'
    obtain⟨F1,A1,R1,l1,g1⟩:=frz_ok hp R ef
    exact pv pins s σ H Q I ⟨F1,_,d',R1.fh,R1.seeF,e3,fun v H' G' x dv=>q v H' G' A1 [] (l1.trans hl) (g1.trans (.of_ext x)) (R1.ext x) (.sh dv) List.nodup_nil (by simp)⟩
end
end MI
end
noncomputable section
namespace MI
open PySem L2
inductive Fl where
 |nx|bk|ct|rt(t:T)
inductive S where
 |nop|raise|brk|cnt|retN
 |seq(a b:S)
 |asg(i:Nat)(m:E)
 |asg2(i j:Nat)(m l:E)
 |asg3(i j k:Nat)(m l q:E)
 |retAll(f i:Nat)(it:E)
 |set(i:Nat)(k m:E)
 |app(i:Nat)(m:E)
 |appT(o m:E)
 |appAt(i:Nat)(k m:E)
 |ext(i:Nat)(m:E)
 |ins(i:Nat)(k m:E)
 |aug(i:Nat)(op:Operator)(m:E)
 |augS(i:Nat)(op:Operator)(k m:E)
 |ife(c:E)(a b:S)
 |for1(i:Nat)(it:E)(b:S)
 |for2(i j:Nat)(it:E)(b:S)
 |forV(i:Nat)(js:List Nat)(b:S)
 |wh(c:E)(b:S)
 |ret(m:E)
 |drop(m:E)
 |ifio(neg:Bool)(f i:Nat)(args:E)(a b:S)
 |dropio(f i:Nat)(args:E)
 |appio(j f i:Nat)(args:E)
 |fst(i:Nat)(f:Str)(m:E)
 |appF(i:Nat)(f:Str)(m:E)
 |popF(i:Nat)(f:Str)
 |appFA(i:Nat)(f:Str)(k m:E)
 |retC(m:E)
noncomputable abbrev IOT:=Nat→Option (Nat×(List D→Option (T×List D)))
noncomputable def unsh:List T→Option (List D)
 |[]=>some []
 | .sh d::r=>(unsh r).map (d::·)
 |_=>none
theorem unsh_sh(ds:List D):unsh (ds.map T.sh)=some ds:=by
 induction ds with
 |nil=>rfl
 |cons d r ih=>show(unsh (r.map T.sh)).map (d::·)=_;rw [ih];rfl
theorem unsh_eq:∀ {ts:List T} {ds:List D},unsh ts=some ds→ts=ds.map T.sh
 |[],ds,h=>by cases h;rfl
 | .sh d::r,ds,h=>by
   obtain⟨l,e,rfl⟩:=msi (show(unsh r).map (d::·)=some ds from h)
   rw [unsh_eq e];rfl
 | .ow _::r,ds,h=>by cases h
noncomputable def isVar(m:E)(i:Nat):Bool:=match m with
 | .var j=>j==i
 |_=>false
noncomputable def evA(Γ:Tab)(i:Nat)(ds:List D)(env:Env):Nat→E→Option (List D)
 |0,.cons m r=>if isVar m i then(evs Γ r env).map fun l=> .lst ds::l else none
 |k+1,.cons m r=>(ev Γ m env).bind fun x=>(evA Γ i ds env k r).map fun l=>x::l
 |_,_=>none
noncomputable def evIO(Γ:Tab)(Δ:IOT)(f i:Nat)(args:E)(env:TEnv):Option (T×TEnv):=(Δ f).bind fun kg=>match env[i]? with
 |some (some (.ow ts))=>(unsh ts).bind fun ds=>if ds.all scal then(evA Γ i ds (dEnv (env.set i none)) kg.1 args).bind fun l=>(kg.2 l).bind fun r=>if flatT r.1&&r.2.all scal then some (r.1,env.set i (some (.ow (r.2.map T.sh))))else none else none
 |_=>none
noncomputable def itX(Γ:Tab)(pio:Option Nat)(m:E)(env:TEnv):Option (List D×TEnv):=if isRng m then(its Γ m (dEnv env)).map fun l=>(l,env)else(frz pio env (vars m)).bind fun env'=>(its Γ m (fEnv env')).map fun l=>(l,env')
noncomputable def forL(step:D→TEnv→Option (Fl×TEnv)):List D→TEnv→Option (Fl×TEnv)
 |[],env=>some (.nx,env)
 |d::r,env=>(step d env).bind fun q=>match q.1 with
  | .nx=>forL step r q.2
  | .ct=>forL step r q.2
  | .bk=>some (.nx,q.2)
  | .rt t=>some (.rt t,q.2)
noncomputable def whileL(test:TEnv→Option Bool)(step:TEnv→Option (Fl×TEnv)):Nat→TEnv→Option (Fl×TEnv)
 |0,_=>none
 |n+1,env=>(test env).bind fun b=>if b then(step env).bind fun q=>match q.1 with
   | .nx=>whileL test step n q.2
   | .ct=>whileL test step n q.2
   | .bk=>some (.nx,q.2)
   | .rt t=>some (.rt t,q.2)
  else some (.nx,env)
noncomputable def forVL(step:TEnv→Option (Fl×TEnv))(i:Nat):List Nat→TEnv→Option (Fl×TEnv)
 |[],env=>some (.nx,env)
 |j::r,env=>match env[j]? with
  |some (some t)=>(step ((env.set j none).set i (some t))).bind fun q=>match q.2[i]? with
   |some (some t')=>match q.1 with
    | .nx=>forVL step i r ((q.2.set i none).set j (some t'))
    | .rt t=>some (.rt t,q.2)
    |_=>none
   |_=>none
  |_=>none
noncomputable def augD(op:Operator):D→D→Option D
 | .int a,.int b=>match op with
   | .Add=>some (.int (a+b))
   | .Sub=>some (.int (a-b))
   |_=>none
 |_,_=>none
noncomputable def owAt(env:TEnv)(i:Nat):Option (List T):=match env[i]? with
 |some (some (.ow ts))=>some ts
 |_=>none
noncomputable def intD:D→Option Int
 | .int i=>some i
 |_=>none
noncomputable def okI(pio:Option Nat)(env:TEnv)(i:Nat):Bool:=decide (pio≠some i∧i<env.length)
noncomputable def asgs:S→List Nat
 | .seq a b=>asgs a++asgs b
 | .asg i _=>[i]
 | .asg2 i j _ _=>[i,j]
 | .asg3 i j k _ _ _=>[i,j,k]
 | .aug i _ _=>[i]
 | .ife _ a b=>asgs a++asgs b
 | .for1 i _ b=>i::asgs b
 | .for2 i j _ b=>i::j::asgs b
 | .forV i _ b=>i::asgs b
 | .wh _ b=>asgs b
 | .ifio _ _ _ _ a b=>asgs a++asgs b
 |_=>[]
noncomputable def childs:T→Option (List T)
 | .ow us=>some us
 | .sh (.lst ds)=>some (ds.map T.sh)
 |_=>none
noncomputable def isOw:T→Option (List T)
 | .ow us=>some us
 |_=>none
noncomputable def obAt(env:TEnv)(i:Nat):Option (Nat×List Str×List T):=match env[i]? with
 |some (some (.ob c ks ts))=>some (c,ks,ts)
 |_=>none
noncomputable def fldAt(f:Str)(o:Nat×List Str×List T):Option (Nat×List T):=(nIdx o.2.1 f).bind fun j=>(o.2.2[j]?).bind fun t=>(isOw t).map fun us=>(j,us)
noncomputable def cpyT:D→T
 | .lst l=> .ow (l.map T.sh)
 |d=> .sh d
noncomputable def allL(g:List D→Option (T×List D)):List D→List D→Option Bool
 |[],_=>some true
 |d::r,ms=>(g [d,.lst ms]).bind fun p=>match p.1 with
  | .sh (.bl b)=>if p.2.all scal then(allL g r p.2).map (b&&·)else none
  |_=>none
noncomputable def noIns:D→Bool
 | .ins _ _ _=>false
 |_=>true
noncomputable def ex(Γ:Tab)(Δ:IOT)(pio:Option Nat)(n:Nat):S→TEnv→Option (Fl×TEnv)
 | .nop,env=>some (.nx,env)
 | .raise,_=>none
 | .brk,env=>some (.bk,env)
 | .cnt,env=>some (.ct,env)
 | .retN,env=>some (.rt (.sh .non),env)
 | .seq a b,env=>(ex Γ Δ pio n a env).bind fun r=>match r.1 with
   | .nx=>ex Γ Δ pio n b r.2
   |_=>some r
 | .asg i m,env=>if okI pio env i then(evX Γ pio m env).map fun r=>(.nx,r.2.set i (some r.1))else none
 | .asg2 i j m l,env=>if okI pio env i&&okI pio env j&&decide (i≠j)then(evX Γ pio m env).bind fun r=>(evX Γ pio l r.2).map fun q=>(.nx,(q.2.set i (some r.1)).set j (some q.1))else none
 | .asg3 i j k m l q,env=>if okI pio env i&&okI pio env j&&okI pio env k&&decide (i≠j∧i≠k∧j≠k)then(evX Γ pio m env).bind fun r=>(evX Γ pio l r.2).bind fun p=>(evX Γ pio q p.2).map fun o=>(.nx,((o.2.set i (some r.1)).set j (some p.1)).set k (some o.1))else none
 | .retAll f i it,env=>(Δ f).bind fun kg=>if kg.1=1∧pio≠some i then(itX Γ pio it env).bind fun r=>(owAt r.2 i).bind fun ts=>(unsh ts).bind fun ms=>if ms.all scal&&sz r.1.length then(allL kg.2 r.1 ms).map fun b=>(.rt (.sh (.bl b)),r.2.set i none)else none else none
 | .set i k m,env=>(ev Γ m (dEnv env)).bind fun d=>if scal d then((ev Γ k (dEnv env)).bind intD).bind fun z=>(owAt env i).bind fun ts=>(ixN ts.length z).map fun j=>(.nx,env.set i (some (.ow (ts.set j (.sh d)))))else none
 | .app i m,env=>(evX Γ pio m env).bind fun r=>(owAt r.2 i).bind fun ts=>if sz ts.length then some (.nx,r.2.set i (some (.ow (ts++[r.1]))))else none
 | .appT o m,env=>(evX Γ pio o env).bind fun r=>(isOw r.1).bind fun us=>(ev Γ m (dEnv r.2)).bind fun d=>if scal d&&sz us.length then some (.nx,r.2)else none
 | .appAt i k m,env=>((ev Γ k (dEnv env)).bind intD).bind fun z=>(owAt env i).bind fun ts=>(ixN ts.length z).bind fun j=>(ts[j]?).bind fun t=>(isOw t).bind fun us=>(ev Γ m (dEnv env)).bind fun d=>if scal d&&sz us.length then some (.nx,env.set i (some (.ow (ts.set j (.ow (us++[.sh d]))))))else none
 | .ext i m,env=>(evX Γ pio m env).bind fun r=>(childs r.1).bind fun us=>(owAt r.2 i).bind fun ts=>if sz (ts.length+us.length)then some (.nx,r.2.set i (some (.ow (ts++us))))else none
 | .ins i k m,env=>((ev Γ k (dEnv env)).bind intD).bind fun z=>(ev Γ m (dEnv env)).bind fun d=>(owAt env i).bind fun ts=>if scal d&&decide (0≤z∧z≤ts.length)&&sz ts.length then some (.nx,env.set i (some (.ow (ts.take z.toNat++.sh d::ts.drop z.toNat))))else none
 | .aug i op m,env=>if okI pio env i then(((dEnv env)[i]?).join).bind fun a=>(ev Γ m (dEnv env)).bind fun b=>(augD op a b).map fun d=>(.nx,env.set i (some (.sh d)))else none
 | .augS i op k m,env=>((ev Γ k (dEnv env)).bind intD).bind fun z=>(owAt env i).bind fun ts=>(ixN ts.length z).bind fun j=>(ts[j]?).bind fun t=>(ev Γ m (dEnv env)).bind fun b=>(augD op (strip t) b).map fun d=>(.nx,env.set i (some (.ow (ts.set j (.sh d)))))
 | .ife c a b,env=>(evB Γ c (dEnv env)).bind fun t=>if t then ex Γ Δ pio n a env else ex Γ Δ pio n b env
 | .for1 i it b,env=>if okI pio env i then(itX Γ pio it env).bind fun r=>forL (fun d e=>ex Γ Δ pio n b (e.set i (some (.sh d)))) r.1 r.2 else none
 | .for2 i j it b,env=>if okI pio env i&&okI pio env j&&decide (i≠j)then(itX Γ pio it env).bind fun r=>forL (fun d e=>match d with
    | .tup [x,y]=>ex Γ Δ pio n b ((e.set i (some (.sh x))).set j (some (.sh y)))
    |_=>none) r.1 r.2 else none
 | .forV i js b,env=>if okI pio env i&&js.all (fun j=>okI pio env j&&decide (j≠i))&&(js.all fun j=> !(asgs b).contains j)&& !(asgs b).contains i&&sz js.length&&(js.all fun j=>((env[j]?).join).isSome)then forVL (ex Γ Δ pio n b) i js env else none
 | .wh c b,env=>whileL (fun e=>evB Γ c (dEnv e)) (ex Γ Δ pio n b) n env
 | .ret m,env=>match m with
   | .var i=>if pio=some i then none else(env[i]?).join.map fun t=>(.rt t,env.set i none)
   |_=>(evX Γ pio m env).map fun r=>(.rt r.1,r.2)
 | .drop m,env=>(evX Γ pio m env).map fun r=>(.nx,r.2)
 | .ifio neg f i args a b,env=>(evIO Γ Δ f i args env).bind fun r=>match r.1 with
   | .sh (.bl t)=>if(t !=neg)then ex Γ Δ pio n a r.2 else ex Γ Δ pio n b r.2
   |_=>none
 | .dropio f i args,env=>(evIO Γ Δ f i args env).map fun r=>(.nx,r.2)
 | .fst i f m,env=>(evX Γ pio m env).bind fun r=>(obAt r.2 i).bind fun o=>if !o.2.1.contains f&&decide (o.2.1.length<1000)then some (.nx,r.2.set i (some (.ob o.1 (o.2.1++[f]) (o.2.2++[r.1]))))else none
 | .appF i f m,env=>(evX Γ pio m env).bind fun r=>(obAt r.2 i).bind fun o=>(fldAt f o).bind fun ju=>if sz ju.2.length then some (.nx,r.2.set i (some (.ob o.1 o.2.1 (o.2.2.set ju.1 (.ow (ju.2++[r.1]))))))else none
 | .popF i f,env=>(obAt env i).bind fun o=>(fldAt f o).bind fun ju=>if ju.2.isEmpty then none else some (.nx,env.set i (some (.ob o.1 o.2.1 (o.2.2.set ju.1 (.ow ju.2.dropLast)))))
 | .appFA i f k m,env=>(obAt env i).bind fun o=>(fldAt f o).bind fun ju=>((ev Γ k (dEnv env)).bind intD).bind fun z=>(ixN ju.2.length z).bind fun l=>(ju.2[l]?).bind fun t=>(isOw t).bind fun us=>(ev Γ m (dEnv env)).bind fun d=>if scal d&&sz us.length then some (.nx,env.set i (some (.ob o.1 o.2.1 (o.2.2.set ju.1 (.ow (ju.2.set l (.ow (us++[.sh d]))))))))else none
 | .retC m,env=>(its Γ m (fEnv env)).bind fun ds=>if sz ds.length&&ds.all noIns then some (.rt (.ow (ds.map cpyT)),env)else none
 | .appio j f i args,env=>if j=i then none else(evIO Γ Δ f i args env).bind fun r=>(owAt r.2 j).bind fun ts=>if sz ts.length then some (.nx,r.2.set j (some (.ow (ts++[r.1]))))else none
end MI
end
noncomputable section
namespace MI
open PySem L2
section
variable{K:PySem.W.Frag}{cl:Nat→Option Addr}{H₀ G₀ F H H' F':Hp}{io:Option (Nat×Addr)}{A:Nat→List Addr}{σ:St}{env env':TEnv}{pio:Option Nat}
theorem owAt_eq{i:Nat}{ts:List T}(h:owAt env i=some ts):env[i]?=some (some (.ow ts)):=by
 unfold owAt at h
 split at h
 ·rename_i e;cases h;exact e
 ·cases h
theorem Rep.own(R:Rep K cl H₀ G₀ io F A σ env H){i:Nat}{ts:List T}(h:owAt env i=some ts):∃p xs B,env[i]?=some (some (.ow ts))∧σ[i]?=some (some (.ref p))∧A i=p::B∧H p=some (.lst xs)∧F p=none∧OTs K cl F H xs ts B:=by
 have e:=owAt_eq h
 obtain⟨v,h1,ot⟩:=R.slot i _ e
 generalize hA:A i=B at ot
 cases ot with
 |ow a1 a2 a3=>exact⟨_,_,_,e,h1,rfl,a1,a2,a3⟩
theorem OTs.snoc:∀ {xs:List V} {ts:List T} {B C:List Addr} {v:V} {t:T},OTs K cl F H xs ts B→OT K cl F H v t C→OTs K cl F H (xs++[v]) (ts++[t]) (B++C)
 |_,_,_,C,_,_,.nil,o=>by simpa using OTs.cons o .nil
 |_,_,_,C,_,_,.cons (A:=A1) (B:=B1) a t,o=>by rw [List.append_assoc];exact .cons a (OTs.snoc t o)
theorem OTs.app:∀ {xs ys:List V} {ts us:List T} {B C:List Addr},OTs K cl F H xs ts B→OTs K cl F H ys us C→OTs K cl F H (xs++ys) (ts++us) (B++C)
 |_,_,_,_,_,_,.nil,o=>o
 |_,_,_,_,_,_,.cons a t,o=>by rw [List.append_assoc];exact .cons a (OTs.app t o)
theorem OTs.put{v:V}{t':T}{C:List Addr}(o:OT K cl F H v t' C):∀ {xs:List V} {ts:List T} {B:List Addr} (j:Nat),OTs K cl F H xs ts B→B.Nodup→C.Nodup→(∀a∈C,a∈B→False)→∃B',OTs K cl F H (xs.set j v) (ts.set j t') B'∧B'.Nodup∧∀a∈B',a∈B∨a∈C
 |_,_,_,_,.nil,nd,nc,_=>⟨[],.nil,List.nodup_nil,by simp⟩
 |_,_,_,0,.cons (A:=A1) (B:=B1) a t,nd,nc,dj=>by
  obtain⟨n1,n2,n3⟩:=List.nodup_append.mp nd
  refine⟨C++B1,.cons o t,List.nodup_append.mpr ⟨nc,n2,fun x hx y hy e=>dj x hx (by rw [e];simp [hy])⟩,fun x hx=> ?_⟩
  rcases List.mem_append.mp hx with z|z
  ·exact .inr z
  ·exact .inl (by simp [z])
 |_,_,_,j+1,.cons (A:=A1) (B:=B1) a t,nd,nc,dj=>by
  obtain⟨n1,n2,n3⟩:=List.nodup_append.mp nd
  obtain⟨B',h1,h2,h3⟩:=OTs.put o j t n2 nc fun x hx hb=>dj x hx (by simp [hb])
  refine⟨A1++B',.cons a h1,List.nodup_append.mpr ⟨n1,h2,fun x hx y hy e=> ?_⟩,fun x hx=> ?_⟩
  ·subst e
   rcases h3 x hy with z|z
   ·exact n3 x hx x z rfl
   ·exact dj x z (by simp [hx])
  ·rcases List.mem_append.mp hx with z|z
   ·exact .inl (by simp [z])
   ·rcases h3 x z with z|z
    ·exact .inl (by simp [z])
    ·exact .inr z
theorem OTs.poke{p:Addr}{o:HO}{xs:List V}{ts:List T}{B:List Addr}(h:OTs K cl F H xs ts B)(hp:p∉B):OTs K cl F (upd H p o) xs ts B:=
 h.move (.refl _) (fun a ha=>(h.free a ha).1) fun a ha u q=>by rw [upd_ne (fun e=>hp (by rw [←e];exact ha))];exact q
theorem OT.poke{p:Addr}{o:HO}{x:V}{t:T}{B:List Addr}(h:OT K cl F H x t B)(hp:p∉B):OT K cl F (upd H p o) x t B:=
 h.move (.refl _) (fun a ha=>(h.free a ha).1) fun a ha u q=>by rw [upd_ne (fun e=>hp (by rw [←e];exact ha))];exact q
theorem Rep.poke(R:Rep K cl H₀ G₀ io F A σ env H){p:Addr}(fp:F p=none)(hp:H₀ p=none)(np:∀j,p∉A j)(o:HO):Rep K cl H₀ G₀ io F A σ env (upd H p o):=by
 refine⟨fun i t e=> ?_,R.out,R.nd,R.dj,fun b u q=> ?_,R.gf,R.fnew,fun b u h1 h2=> ?_,R.anew,R.iok⟩
 ·obtain⟨v,h1,h2⟩:=R.slot i t e
  exact⟨v,h1,h2.poke (np i)⟩
 ·rw [upd_ne (ne_of_none q fp)];exact R.fh _ _ q
 ·rw [upd_ne (ne_of_none h1 hp)];exact R.keep b u h1 h2
end
end MI
end
noncomputable section
namespace MI
open PySem L2
noncomputable def Po(K:PySem.W.Frag)(cl:Nat→Option Addr)(H₀ G₀:Hp)(io:Option (Nat×Addr))(D:Ends)(fl:Fl)(F₀:Hp)(σ₀:St)(as:List Nat)(env':TEnv):Prop:=
 ∀σ' H' F' A',env'.length=σ'.length→σ'.length=σ₀.length→(∀(k:Nat),k∉as→σ'[k]?=σ₀[k]?)→Same F₀ F'→Rep K cl H₀ G₀ io F' A' σ' env' H'→match fl with
  | .nx=>D.nx σ' H'
  | .bk=>D.bk σ' H'
  | .ct=>D.ct σ' H'
  | .rt t=>∀v B,OT K cl F' H' v t B→B.Nodup→(∀j a,a∈A' j→a∈B→False)→(∀a∈B,H₀ a=none)→D.rt v H'
noncomputable def tS(K:PySem.W.Frag)(cl:Nat→Option Addr)(Γ:Tab)(Δ:IOT)(pio:Option Nat)(s:S):TS:=fun D σ H=>∃H₀ G₀ io F A env n fl env',Pio pio io∧env.length=σ.length∧Rep K cl H₀ G₀ io F A σ env H∧ex Γ Δ pio n s env=some (fl,env')∧Po K cl H₀ G₀ io D fl F σ (asgs s) env'
section
variable{K:PySem.W.Frag}{cl:Nat→Option Addr}{Γ:Tab}{Δ:IOT}{pio:Option Nat}{D:Ends}{σ:St}{H:Hp}
theorem s_nop(h:tS K cl Γ Δ pio .nop D σ H):tNext D σ H:=by
 obtain⟨H₀,G₀,io,F,A,env,n,fl,env',hp,hl,R,e,po⟩:=h
 cases e
 exact po σ H F A hl rfl (fun _ _=>rfl) (.refl _) R
theorem s_retN(h:tS K cl Γ Δ pio .retN D σ H):tRetN D σ H:=by
 obtain⟨H₀,G₀,io,F,A,env,n,fl,env',hp,hl,R,e,po⟩:=h
 cases e
 exact po σ H F A hl rfl (fun _ _=>rfl) (.refl _) R .non [] (.sh .non) List.nodup_nil (by simp) (by simp)
theorem s_raise(h:tS K cl Γ Δ pio .raise D σ H):tNever D σ H:=by
 obtain⟨H₀,G₀,io,F,A,env,n,fl,env',hp,hl,R,e,po⟩:=h
 cases e
theorem s_seq{a b:S}(h:tS K cl Γ Δ pio (.seq a b) D σ H):tSeq (tS K cl Γ Δ pio a) (tS K cl Γ Δ pio b) D σ H:=by
 obtain⟨H₀,G₀,io,F,A,env,n,fl,env',hp,hl,R,e,po⟩:=h
 obtain⟨⟨fa,ea⟩,h1,h2⟩:=bsi (show(ex Γ Δ pio n a env).bind (fun r=>match r.1 with| .nx=>ex Γ Δ pio n b r.2|_=>some r)=some (fl,env')from e)
 refine⟨H₀,G₀,io,F,A,env,n,fa,ea,hp,hl,R,h1,fun σ' H' F' A' l1 l2 st sf R'=> ?_⟩
 have st':∀(k:Nat),k∉asgs (.seq a b)→σ'[k]?=σ[k]?:=fun k hk=>st k fun z=>hk (by simp [asgs,z])
 cases fa with
 |nx=>
  refine⟨H₀,G₀,io,F',A',ea,n,fl,env',hp,l1,R',h2,fun σ2 H2 F2 A2 l3 l4 st2 sf2 R2=> ?_⟩
  exact po σ2 H2 F2 A2 l3 (l4.trans l2) (fun k hk=>(st2 k fun z=>hk (by simp [asgs,z])).trans (st' k hk)) (sf.trans sf2) R2
 |bk=>cases h2;exact po σ' H' F' A' l1 l2 st' sf R'
 |ct=>cases h2;exact po σ' H' F' A' l1 l2 st' sf R'
 |rt t=>cases h2;exact po σ' H' F' A' l1 l2 st' sf R'
theorem okI_ok{env:TEnv}{i:Nat}(h:okI pio env i=true):pio≠some i∧i<env.length:=of_decide_eq_true h
theorem Pio.ne{io:Option (Nat×Addr)}(hp:Pio pio io){i:Nat}(h:pio≠some i):∀p a,io=some (p,a)→p≠i:=fun p a e z=>h (by rw [←z];exact hp p a e)
theorem Rep.storeX{H₀ G₀ F F' H':Hp}{io:Option (Nat×Addr)}{A A':Nat→List Addr}{env env':TEnv}{i:Nat}{v:V}{t:T}{B:List Addr}(R:Rep K cl H₀ G₀ io F A σ env H)(g:Gro F A H F' A' H')(R':Rep K cl H₀ G₀ io F' A' σ env' H')(hp:Pio pio io)(hi:pio≠some i)(hl:i<env'.length)(hs:env'.length=σ.length)
 (ot:OT K cl F' H' v t B)(nd:B.Nodup)(nw:∀a∈B,H a=none):Rep K cl H₀ G₀ io F' (fun j=>if j=i then B else A' j) (σ.set i (some v)) (env'.set i (some t)) H':=
 R'.store (hp.ne hi) hl hs ot nd (fun j a _ h1 h2=>by
   obtain⟨_,o,h3⟩:=R.at_ (g.aa j a h1)
   rw [nw a h2]at h3;cases h3) fun a ha=>R.new (nw a ha)
theorem set_ne{σ:St}{i k:Nat}{o:Option V}(h:k∉[i]):(σ.set i o)[k]?=σ[k]?:=List.getElem?_set_ne (fun e=>h (by simp [e]))
theorem s_asg{i:Nat}{m:E}(h:tS K cl Γ Δ pio (.asg i m) D σ H):tAsg (tX K cl Γ pio m) (gName i) D σ H:=by
 obtain⟨H₀,G₀,io,F,A,env,n,fl,env',hp,hl,R,e,po⟩:=h
 have e':(if okI pio env i then(evX Γ pio m env).map fun r=>(Fl.nx,r.2.set i (some r.1))else none)=some (fl,env'):=e
 split at e'
 ·rename_i ok
  obtain⟨o1,o2⟩:=okI_ok ok
  obtain⟨⟨t,env1⟩,h1,h2⟩:=msi e'
  cases h2
  refine⟨H₀,G₀,io,F,A,env,t,env1,hp,hl,R,h1,fun v H' F' A' B l1 g R' ot nd nw=> ?_⟩
  exact po _ H' F' _ (by simp [l1]) (by simp) (fun k hk=>set_ne hk) g.ff (R.storeX g R' hp o1 (by have l1':env1.length=σ.length:=l1;show i<env1.length;omega) l1 ot nd nw)
 ·cases e'
theorem s_ret{m:E}(hv:∀i,m≠.var i)(h:tS K cl Γ Δ pio (.ret m) D σ H):tRet (tX K cl Γ pio m) D σ H:=by
 obtain⟨H₀,G₀,io,F,A,env,n,fl,env',hp,hl,R,e,po⟩:=h
 have e':(evX Γ pio m env).map (fun r=>(Fl.rt r.1,r.2))=some (fl,env'):=by
  rw [←e]
  cases m with
  |var i=>exact absurd rfl (hv i)
  |_=>rfl
 obtain⟨⟨t,env1⟩,h1,h2⟩:=msi e'
 cases h2
 refine⟨H₀,G₀,io,F,A,env,t,env1,hp,hl,R,h1,fun v H' F' A' B l1 g R' ot nd nw=> ?_⟩
 exact po σ H' F' A' l1 rfl (fun _ _=>rfl) g.ff R' v B ot nd (fun j a h1 h2=>by
  obtain⟨_,o,h3⟩:=R.at_ (g.aa j a h1)
  rw [nw a h2]at h3;cases h3) fun a ha=>R.new (nw a ha)
theorem s_retV{i:Nat}(h:tS K cl Γ Δ pio (.ret (.var i)) D σ H):tRet (tVar i) D σ H:=by
 obtain⟨H₀,G₀,io,F,A,env,n,fl,env',hp,hl,R,e,po⟩:=h
 have e':(if pio=some i then none else(env[i]?).join.map fun t=>(Fl.rt t,env.set i none))=some (fl,env'):=e
 split at e'
 ·cases e'
 ·rename_i hi
  obtain⟨t,h1,h2⟩:=msi e'
  cases h2
  have h3:env[i]?=some (some t):=by
   cases z:env[i]? with
   |none=>rw [z]at h1;cases h1
   |some o=>rw [z]at h1;rw [show o=some t from h1]
  obtain⟨v,h4,ot⟩:=R.slot i t h3
  refine⟨v,h4,po σ H F _ (by simp [hl]) rfl (fun _ _=>rfl) (.refl _) (R.drop i (hp.ne hi)) v (A i) ot (R.nd i) (fun j a h1 h2=> ?_) fun a ha=> ?_⟩
  ·have h1':a∈(if j=i then []else A j):=h1
   split at h1'
   ·simp at h1'
   ·rename_i hj;exact R.dj j i a hj h1' h2
  ·rcases R.anew i a ha with⟨p,z⟩|z
   ·exact absurd rfl (fun(_:p=p)=>R.dj p i a (hp.ne hi p a z) (R.ioa z) ha)
   ·exact z
theorem s_drop{m:E}(h:tS K cl Γ Δ pio (.drop m) D σ H):tDrop (tX K cl Γ pio m) D σ H:=by
 obtain⟨H₀,G₀,io,F,A,env,n,fl,env',hp,hl,R,e,po⟩:=h
 obtain⟨⟨t,env1⟩,h1,h2⟩:=msi (show(evX Γ pio m env).map (fun r=>(Fl.nx,r.2))=some (fl,env')from e)
 cases h2
 exact⟨H₀,G₀,io,F,A,env,t,env1,hp,hl,R,h1,fun v H' F' A' B l1 g R' ot nd nw=>po σ H' F' A' l1 rfl (fun _ _=>rfl) g.ff R'⟩
theorem s_ife{c:E}{a b:S}(h:tS K cl Γ Δ pio (.ife c a b) D σ H):tIfS (tVT K cl Γ c) (tS K cl Γ Δ pio a) (tS K cl Γ Δ pio b) D σ H:=by
 obtain⟨H₀,G₀,io,F,A,env,n,fl,env',hp,hl,R,e,po⟩:=h
 obtain⟨t,h1,h2⟩:=bsi (show(evB Γ c (dEnv env)).bind (fun t=>if t then ex Γ Δ pio n a env else ex Γ Δ pio n b env)=some (fl,env')from e)
 refine⟨H,_,t,.refl _,R.see,h1,fun H' G' x=> ?_⟩
 cases t with
 |true=>exact iteT ⟨H₀,G₀,io,F,A,env,n,fl,env',hp,hl,R.same x.hh,h2,fun σ' H' F' A' l1 l2 st sf R'=>po σ' H' F' A' l1 l2 (fun k hk=>st k fun z=>hk (by simp [asgs,z])) sf R'⟩
 |false=>exact iteF ⟨H₀,G₀,io,F,A,env,n,fl,env',hp,hl,R.same x.hh,h2,fun σ' H' F' A' l1 l2 st sf R'=>po σ' H' F' A' l1 l2 (fun k hk=>st k fun z=>hk (by simp [asgs,z])) sf R'⟩
end
end MI
end
noncomputable section
namespace MI
open PySem L2
section
variable{K:PySem.W.Frag}{cl:Nat→Option Addr}{Γ:Tab}{Δ:IOT}{pio:Option Nat}{En:Ends}{σ:St}{H:Hp}
theorem unX{m:E}{H₀ G₀ F:Hp}{io:Option (Nat×Addr)}{A:Nat→List Addr}{env:TEnv}(R:Rep K cl H₀ G₀ io F A σ env H){d:D}(e:ev Γ m (dEnv env)=some d){Q:VK}(q:∀v H',Same H H'→Rep K cl H₀ G₀ io F A σ env H'→Dn K cl H' v d→Q v H'):tV K cl Γ m σ H Q:=
 ⟨H,_,d,.refl _,R.see,e,fun v H' G' x dv=>q v H' x.hh (R.same x.hh) (dv.mono x.gh)⟩
theorem dn_int{G:Hp}{v:V}{d:D}{z:Int}(h:Dn K cl G v d)(e:intD d=some z):v=.int z:=by
 cases d with
 |int i=>cases e;cases h;rfl
 |_=>cases e
theorem Rep.rewrite{H₀ G₀ F:Hp}{io:Option (Nat×Addr)}{A:Nat→List Addr}{env:TEnv}{i:Nat}{ts ts':List T}{p:Addr}{xs xs':List V}{B B' C:List Addr}(R:Rep K cl H₀ G₀ io F A σ env H)(e:env[i]?=some (some (.ow ts)))(hs:σ[i]?=some (some (.ref p)))(hA:A i=p::B)
 (ot:OTs K cl F H xs' ts' B')(nd:B'.Nodup)(sub:∀a∈B',a∈B∨a∈C)(cn:∀a∈C,H₀ a=none∧a≠p∧∀j,a∉A j):Rep K cl H₀ G₀ io F (fun j=>if j=i then p::B' else A j) σ (env.set i (some (.ow ts'))) (upd H p (.lst xs')):=by
 have ndA:=R.nd i
 rw [hA]at ndA
 obtain⟨np,ndB⟩:=List.nodup_cons.mp ndA
 have np':p∉B':=fun z=>by
  rcases sub p z with z|z
  ·exact np z
  ·exact(cn p z).2.1 rfl
 refine R.write (xs:=xs) e hA (ot.poke np') (List.nodup_cons.mpr ⟨np',nd⟩) (fun j a hj h1 h2=> ?_) (fun a ha=> ?_) hs
 ·rcases sub a h2 with z|z
  ·exact R.dj j i a hj h1 (by rw [hA];simp [z])
  ·exact(cn a z).2.2 j h1
 ·rcases sub a ha with z|z
  ·rcases R.anew i a (by rw [hA];simp [z])with⟨q,w⟩|w
   ·exfalso
    obtain⟨C',h5⟩:=R.iok q a w
    by_cases hq:q=i
    ·subst hq
     rw [hA]at h5
     injection h5 with h6 _
     exact np (by rw [h6];exact z)
    ·exact R.dj q i a hq (R.ioa w) (by rw [hA];simp [z])
   ·exact w
  ·exact(cn a z).1
theorem s_set{i:Nat}{k m:E}(h:tS K cl Γ Δ pio (.set i k m) En σ H):tAsg (tV K cl Γ m) (gSub (tVar i) (tV K cl Γ k) rSetL) En σ H:=by
 obtain⟨H₀,G₀,io,F,A,env,n,fl,env',hp,hl,R,e,po⟩:=h
 obtain⟨d,h1,e⟩:=bsi (show(ev Γ m (dEnv env)).bind (fun d=>if scal d then((ev Γ k (dEnv env)).bind intD).bind fun z=>(owAt env i).bind fun ts=>(ixN ts.length z).map fun j=>(Fl.nx,env.set i (some (.ow (ts.set j (.sh d)))))else none)=some (fl,env')from e)
 split at e
 ·rename_i sd
  obtain⟨z,h2,e⟩:=bsi e
  obtain⟨dk,h2,h3⟩:=bsi h2
  obtain⟨ts,h4,e⟩:=bsi e
  obtain⟨j,h5,e⟩:=msi e
  cases e
  refine unX R h1 fun v H1 s1 R1 d1=> ?_
  obtain⟨p,xs,B,h6,h7,hA,hx,fp,os⟩:=R1.own h4
  refine⟨.ref p,h7,unX R1 h2 fun u H2 s2 R2 d2=> ?_⟩
  have hu:=dn_int d2 h3
  subst hu
  obtain⟨p',xs',B',h6',h7',hA',hx',fp',os'⟩:=R2.own h4
  rw [h7]at h7'
  cases h7'
  rw [hA]at hA'
  cases hA'
  refine⟨p,xs',z,j,rfl,rfl,hx',by rw [os'.length];exact h5,?_⟩
  have ndA:=R2.nd i
  rw [hA]at ndA
  obtain⟨B2,o2,n2,sb⟩:=OTs.put (OT.sh (H:=H2) (d1.scal sd F)) j os' (List.nodup_cons.mp ndA).2 List.nodup_nil (by simp)
  exact po σ _ F _ (by simp [hl]) rfl (fun _ _=>rfl) (.refl _) (R2.rewrite (xs:=xs') (C:=[]) h6 h7 hA o2 n2 sb (by simp))
 ·cases e
theorem owAt_set{env:TEnv}{i j:Nat}{o:Option T}{ts:List T}(h:owAt (env.set j o) i=some ts):(i=j∧o=some (.ow ts))∨owAt env i=some ts:=by
 have e:=owAt_eq h
 by_cases hij:j=i
 ·subst hij
  by_cases hl:j<env.length
  ·rw [List.getElem?_set_self hl]at e;exact .inl ⟨rfl,Option.some.inj e⟩
  ·rw [List.getElem?_eq_none (by simp;omega)]at e;cases e
 ·rw [List.getElem?_set_ne hij]at e
  exact .inr (by unfold owAt;rw [e])
theorem frz_own:∀ {l:List Nat} {env env':TEnv} {i:Nat} {ts:List T},frz pio env l=some env'→owAt env' i=some ts→owAt env i=some ts
 |[],_,_,_,_,h,o=>by cases h;exact o
 |j::r,env,env',i,ts,h,o=>by
  unfold frz at h
  split at h
  ·split at h
   ·cases h
   ·rcases owAt_set (frz_own h o)with⟨_,z⟩|z
    ·cases z
    ·exact z
  ·split at h
   ·cases h
   ·rcases owAt_set (frz_own h o)with⟨_,z⟩|z
    ·cases z
    ·exact z
  ·exact frz_own h o
theorem evX_own{m:E}{env env1:TEnv}{t:T}{i:Nat}{ts:List T}(h:evX Γ pio m env=some (t,env1))(o:owAt env1 i=some ts):owAt env i=some ts:=by
 cases hc:isCall m with
 |true=>
  cases m with
  |call f args=>
   rw [evX_call]at h
   obtain⟨g,_,h⟩:=bsi h
   obtain⟨l,_,h⟩:=bsi h
   obtain⟨t1,_,h⟩:=bsi h
   split at h
   ·cases h;exact o
   ·obtain⟨e1,ef,h⟩:=bsi h
    obtain⟨l',_,h⟩:=bsi h
    obtain⟨t2,_,h⟩:=msi h
    cases h
    exact frz_own ef o
  |_=>cases hc
 |false=>
  rw [evX_other hc]at h
  obtain⟨d,_,h⟩:=bsi h
  split at h
  ·cases h;exact o
  ·split at h
   ·obtain⟨ds,_,h⟩:=bsi h
    split at h
    ·cases h;exact o
    ·obtain⟨e1,ef,h⟩:=bsi h
     obtain⟨_,_,h⟩:=msi h
     cases h
     exact frz_own ef o
   ·obtain⟨e1,ef,h⟩:=bsi h
    obtain⟨_,_,h⟩:=msi h
    cases h
    exact frz_own ef o
theorem ty_list{p:Addr}{xs:List V}(h:H p=some (.lst xs)):tyV K "list" (.ref p) H:=.inl ⟨rfl,_,SqL.of h⟩
theorem s_app{i:Nat}{m:E}(h:tS K cl Γ Δ pio (.app i m) En σ H):tDrop (tBM K "list" rAppend (tVar i) (tCons (tX K cl Γ pio m) tNil)) En σ H:=by
 obtain⟨H₀,G₀,io,F,A,env,n,fl,env',hp,hl,R,e,po⟩:=h
 obtain⟨⟨t,env1⟩,h1,e⟩:=bsi (show(evX Γ pio m env).bind (fun r=>(owAt r.2 i).bind fun ts=>if sz ts.length then some (Fl.nx,r.2.set i (some (.ow (ts++[r.1]))))else none)=some (fl,env')from e)
 obtain⟨ts,h2,e⟩:=bsi e
 split at e
 ·rename_i hz
  cases e
  obtain⟨p,xs,_,_,h3,_,h4,_,_⟩:=R.own (evX_own h1 h2)
  refine⟨.ref p,h3,ty_list h4,H₀,G₀,io,F,A,env,t,env1,hp,hl,R,h1,fun v H' F' A' B l1 g R' ot nd nw=> ?_⟩
  obtain⟨p',xs',B',h6,h7,hA,hx,fp,os⟩:=R'.own h2
  rw [h3]at h7
  cases h7
  have ndA:=R'.nd i
  rw [hA]at ndA
  obtain⟨np,ndB⟩:=List.nodup_cons.mp ndA
  have dis:∀a∈B,∀j,a∉A' j:=fun a ha j hj=>by
   obtain⟨_,o,h3⟩:=R.at_ (g.aa j a hj)
   rw [nw a ha]at h3;cases h3
  refine⟨p,xs',v,rfl,rfl,hx,?_,?_⟩
  ·have:=of_decide_eq_true hz
   rw [os.length,sizeLine_eq];omega
  ·refine po σ _ F' _ (by simpa using l1) rfl (fun _ _=>rfl) g.ff (R'.rewrite (xs:=xs') (C:=B) h6 h3 hA (os.snoc ot) ?_ (fun a ha=>List.mem_append.mp ha) fun a ha=>⟨R.new (nw a ha),fun z=>dis a ha i (by rw [hA,z];simp),dis a ha⟩)
   exact List.nodup_append.mpr ⟨ndB,nd,fun a ha b hb e=>dis b hb i (by rw [hA,←e];simp [ha])⟩
 ·cases e
end
end MI
end
noncomputable section
namespace MI
open PySem L2
section
variable{K:PySem.W.Frag}{cl:Nat→Option Addr}{Γ:Tab}{Δ:IOT}{pio:Option Nat}{En:Ends}{σ:St}{H:Hp}
theorem isOw_eq{t:T}{us:List T}(h:isOw t=some us):t=.ow us:=by
 cases t with
 |sh d=>cases h
 |ow ts=>cases h;rfl
 |ob _ _ _=>cases h
end
end MI
end
noncomputable section
namespace MI
open PySem L2
section
variable{K:PySem.W.Frag}{cl:Nat→Option Addr}{Γ:Tab}{Δ:IOT}{pio:Option Nat}{En:Ends}{σ:St}{H:Hp}
noncomputable def rExtendR(K:PySem.W.Frag):V→List V→Hp→VK→Prop:=fun x vs H Q=>∃l b xs zs,x=.ref l∧vs=[.ref b]∧H l=some (.lst xs)∧RL K H b zs∧xs.length+zs.length≤sizeLine∧Q .non (upd H l (.lst (xs++zs)))
theorem OTs.takes:∀ {xs:List V} {ts:List T} {B:List Addr} {F H:Hp} (k:Nat),OTs K cl F H xs ts B→∃B1 B2,B=B1++B2∧OTs K cl F H (xs.take k) (ts.take k) B1∧OTs K cl F H (xs.drop k) (ts.drop k) B2
 |_,_,_,_,_,0,o=>⟨[],_,rfl,.nil,o⟩
 |_,_,_,_,_,k+1,.nil=>⟨[],[],rfl,.nil,.nil⟩
 |_,_,_,_,_,k+1,.cons (A:=A1) a r=>by
  obtain⟨B1,B2,e,o1,o2⟩:=OTs.takes k r
  exact⟨A1++B1,B2,by rw [e,List.append_assoc],.cons a o1,o2⟩
theorem s_ins{i:Nat}{k m:E}(h:tS K cl Γ Δ pio (.ins i k m) En σ H):tDrop (tBM K "list" rInsert (tVar i) (tCons (tV K cl Γ k) (tCons (tV K cl Γ m) tNil))) En σ H:=by
 obtain⟨H₀,G₀,io,F,A,env,n,fl,env',hp,hl,R,e,po⟩:=h
 obtain⟨z,h1,e⟩:=bsi (show((ev Γ k (dEnv env)).bind intD).bind (fun z=>(ev Γ m (dEnv env)).bind fun d=>(owAt env i).bind fun ts=>if scal d&&decide (0≤z∧z≤ts.length)&&sz ts.length then some (Fl.nx,env.set i (some (.ow (ts.take z.toNat++.sh d::ts.drop z.toNat))))else none)=some (fl,env')from e)
 obtain⟨dk,h1,h2⟩:=bsi h1
 obtain⟨d,h3,e⟩:=bsi e
 obtain⟨ts,h4,e⟩:=bsi e
 split at e
 ·rename_i hz
  obtain⟨hz,h6⟩:=(Bool.and_eq_true _ _).mp hz
  obtain⟨sd,h5⟩:=(Bool.and_eq_true _ _).mp hz
  have h5:=of_decide_eq_true h5
  have h6:=of_decide_eq_true h6
  cases e
  obtain⟨p,xs,B,e1,e2,hA,hx,fp,os⟩:=R.own h4
  refine⟨.ref p,e2,ty_list hx,unX R h1 fun u H1 s1 R1 d1=>unX R1 h3 fun y H2 s2 R2 d2=> ?_⟩
  have hu:=dn_int d1 h2
  subst hu
  obtain⟨p',xs',B',_,e2',hA',hx',fp',os'⟩:=R2.own h4
  rw [e2]at e2'
  cases e2'
  rw [hA]at hA'
  cases hA'
  have ndA:=R2.nd i
  rw [hA]at ndA
  obtain⟨np,ndB⟩:=List.nodup_cons.mp ndA
  refine⟨p,xs',z,y,rfl,rfl,hx',h5.1,by rw [os'.length];exact h5.2,by rw [os'.length,sizeLine_eq];omega,?_⟩
  obtain⟨B1,B2,eB,o1,o2⟩:=OTs.takes z.toNat os'
  have o3:=o1.app (OTs.cons (OT.sh (H:=H2) (d2.scal sd F)) o2)
  rw [List.nil_append,←eB]at o3
  exact po σ _ F _ (by simp [hl]) rfl (fun _ _=>rfl) (.refl _) (R2.rewrite (xs:=xs') (C:=[]) e1 e2 hA o3 ndB (fun a ha=> .inl ha) (by simp))
 ·cases e
noncomputable def ipD(op:Operator):TIp:=fun x y H Q=>∃i j k,x=.int i∧y=.int j∧((op=.Add∧k=i+j)∨(op=.Sub∧k=i-j))∧Q (.int k) H
end
end MI
end
noncomputable section
namespace MI
open PySem L2
section
variable{K:PySem.W.Frag}{cl:Nat→Option Addr}{Γ:Tab}{Δ:IOT}{pio:Option Nat}{En:Ends}{σ:St}{H:Hp}
theorem two_X{i j:Nat}{m l:E}{Q:V→V→Hp→Prop}(h:∃H₀ G₀ io F A env r q,Pio pio io∧env.length=σ.length∧Rep K cl H₀ G₀ io F A σ env H∧evX Γ pio m env=some r∧evX Γ pio l r.2=some q∧
 ∀v w H' F' A' B C,q.2.length=σ.length→Same F F'→Rep K cl H₀ G₀ io F' A' σ q.2 H'→OT K cl F' H' v r.1 B→OT K cl F' H' w q.1 C→B.Nodup→C.Nodup→(∀a∈B,H₀ a=none∧a∉C∧∀j,a∉A' j)→(∀a∈C,H₀ a=none∧∀j,a∉A' j)→Q v w H'):
 tX K cl Γ pio m σ H fun v H1=>tX K cl Γ pio l σ H1 fun w H2=>Q v w H2:=by
 obtain⟨H₀,G₀,io,F,A,env,⟨t,env1⟩,⟨u,env2⟩,hp,hl,R,h1,h2,q⟩:=h
 refine⟨H₀,G₀,io,F,A,env,t,env1,hp,hl,R,h1,fun v H1 F1 A1 B l1 g R1 ot nd nw=>⟨H₀,G₀,io,F1,A1,env1,u,env2,hp,l1,R1,h2,fun w H2 F2 A2 C l2 g2 R2 ot2 nd2 nw2=> ?_⟩⟩
 have b1:∀a∈B,∀j,a∉A1 j:=fun a ha j hj=>by
  obtain⟨_,o,h3⟩:=R.at_ (g.aa j a hj)
  rw [nw a ha]at h3;cases h3
 have hb:∀a∈B,∃o,H1 a=some o:=fun a ha=>(ot.free a ha).2
 have ot':OT K cl F2 H2 v t B:=ot.move g2.ff (fun a ha=>by
  cases e:F2 a with
  |none=>rfl
  |some o=>
   rcases g2.nw a o e (ot.free a ha).1 with⟨j,z⟩|z
   ·exact absurd z (b1 a ha j)
   ·obtain⟨o',z'⟩:=hb a ha
    rw [z]at z';cases z') fun a _ o q=>g2.hh _ _ q
 refine q v w H2 F2 A2 B C l2 (g.ff.trans g2.ff) R2 ot' ot2 nd nd2 (fun a ha=>⟨R.new (nw a ha),fun z=> ?_,fun j hj=>b1 a ha j (g2.aa j a hj)⟩) fun a ha=>⟨R1.new (nw2 a ha),fun j hj=> ?_⟩
 ·obtain⟨o,z'⟩:=hb a ha
  rw [nw2 a z]at z';cases z'
 ·obtain⟨_,o,h3⟩:=R1.at_ (g2.aa j a hj)
  rw [nw2 a ha]at h3;cases h3
theorem Rep.store2{H₀ G₀ F:Hp}{io:Option (Nat×Addr)}{A:Nat→List Addr}{env:TEnv}{i j:Nat}{v w:V}{t u:T}{B C:List Addr}(R:Rep K cl H₀ G₀ io F A σ env H)(hp:Pio pio io)(hi:pio≠some i)(hj:pio≠some j)(li:i<env.length)(lj:j<env.length)(hs:env.length=σ.length)(hij:i≠j)
 (o1:OT K cl F H v t B)(o2:OT K cl F H w u C)(n1:B.Nodup)(n2:C.Nodup)(d1:∀a∈B,H₀ a=none∧a∉C∧∀j,a∉A j)(d2:∀a∈C,H₀ a=none∧∀j,a∉A j):
 ∃A',Rep K cl H₀ G₀ io F A' ((σ.set i (some v)).set j (some w)) ((env.set i (some t)).set j (some u)) H:=by
 have R1:=R.store (hp.ne hi) li hs o1 n1 (fun k a _ h1 h2=>(d1 a h2).2.2 k h1) fun a ha=>(d1 a ha).1
 exact⟨_,R1.store (hp.ne hj) (by simpa using lj) (by simpa using hs) o2 n2 (fun k a hk h1 h2=>by
  have h1':a∈(if k=i then B else A k):=h1
  split at h1'
  ·exact(d1 a h1').2.1 h2
  ·exact(d2 a h2).2 k h1') fun a ha=>(d2 a ha).1⟩
theorem set_ne2{σ:St}{i j k:Nat}{o p:Option V}(h:k∉[i,j]):((σ.set i o).set j p)[k]?=σ[k]?:=by
 rw [List.getElem?_set_ne (fun e=>h (by simp [e])),List.getElem?_set_ne (fun e=>h (by simp [e]))]
theorem asg2_X{i j:Nat}{m l:E}(h:tS K cl Γ Δ pio (.asg2 i j m l) En σ H):tX K cl Γ pio m σ H fun v H1=>tX K cl Γ pio l σ H1 fun w H2=>(∀p,H2 p=none→En.nx ((σ.set i (some v)).set j (some w)) (upd H2 p (.tup [v,w])))∧En.nx ((σ.set i (some v)).set j (some w)) H2:=by
 obtain⟨H₀,G₀,io,F,A,env,n,fl,env',hp,hl,R,e,po⟩:=h
 have e':(if okI pio env i&&okI pio env j&&decide (i≠j)then(evX Γ pio m env).bind fun r=>(evX Γ pio l r.2).map fun q=>(Fl.nx,(q.2.set i (some r.1)).set j (some q.1))else none)=some (fl,env'):=e
 split at e'
 ·rename_i ok
  obtain⟨ok,hij⟩:=(Bool.and_eq_true _ _).mp ok
  obtain⟨ok1,ok2⟩:=(Bool.and_eq_true _ _).mp ok
  obtain⟨r,h1,e'⟩:=bsi e'
  obtain⟨q,h2,e'⟩:=msi e'
  cases e'
  refine two_X (i:=i) (j:=j) ⟨H₀,G₀,io,F,A,env,r,q,hp,hl,R,h1,h2,fun v w H' F' A' B C l1 sf R' o1 o2 n1 n2 d1 d2=> ?_⟩
  have i1:=(okI_ok ok1).2
  have i2:=(okI_ok ok2).2
  obtain⟨A2,R2⟩:=R'.store2 hp (okI_ok ok1).1 (okI_ok ok2).1 (by omega) (by omega) l1 (of_decide_eq_true hij) o1 o2 n1 n2 d1 d2
  exact⟨fun p hp'=>po _ _ F' A2 (by simpa using l1) (by simp) (fun k hk=>set_ne2 hk) sf (R2.same (same_upd hp' _)),po _ _ F' A2 (by simpa using l1) (by simp) (fun k hk=>set_ne2 hk) sf R2⟩
 ·cases e'
theorem s_par{i j:Nat}{m l:E}(h:tS K cl Γ Δ pio (.asg2 i j m l) En σ H):tPar i j (tCons (tX K cl Γ pio m) (tCons (tX K cl Γ pio l) tNil)) En σ H:=by
 have q:=asg2_X h
 obtain⟨H₀,G₀,io,F,A,env,t,env1,hp,hl,R,h1,q⟩:=q
 refine⟨H₀,G₀,io,F,A,env,t,env1,hp,hl,R,h1,fun v H1 F1 A1 B l1 g R1 ot nd nw=> ?_⟩
 obtain⟨H₀',G₀',io',F',A',env',t',env1',hp',hl',R',h1',q'⟩:=q v H1 F1 A1 B l1 g R1 ot nd nw
 exact⟨H₀',G₀',io',F',A',env',t',env1',hp',hl',R',h1',fun w H2 F2 A2 C l2 g2 R2 ot2 nd2 nw2=>⟨v,w,rfl,(q' w H2 F2 A2 C l2 g2 R2 ot2 nd2 nw2).2⟩⟩
theorem s_tup2{i j:Nat}{m l:E}(h:tS K cl Γ Δ pio (.asg2 i j m l) En σ H):tAsg (tTup (tCons (tX K cl Γ pio m) (tCons (tX K cl Γ pio l) tNil))) (gTup K 2 (gCons (gName i) (gCons (gName j) gNil))) En σ H:=by
 have q:=asg2_X h
 obtain⟨H₀,G₀,io,F,A,env,t,env1,hp,hl,R,h1,q⟩:=q
 refine⟨H₀,G₀,io,F,A,env,t,env1,hp,hl,R,h1,fun v H1 F1 A1 B l1 g R1 ot nd nw=> ?_⟩
 obtain⟨H₀',G₀',io',F',A',env',t',env1',hp',hl',R',h1',q'⟩:=q v H1 F1 A1 B l1 g R1 ot nd nw
 exact⟨H₀',G₀',io',F',A',env',t',env1',hp',hl',R',h1',fun w H2 F2 A2 C l2 g2 R2 ot2 nd2 nw2=>⟨two_fits,fun p hp=>⟨p,_,rfl,SqT.of upd_same,rfl,v,[w],rfl,w,[],rfl,rfl,(q' w H2 F2 A2 C l2 g2 R2 ot2 nd2 nw2).1 p hp⟩⟩⟩
theorem it_X{H₀ G₀ F:Hp}{io:Option (Nat×Addr)}{A:Nat→List Addr}{env env':TEnv}{m:E}{ds:List D}(hp:Pio pio io)(hl:env.length=σ.length)(R:Rep K cl H₀ G₀ io F A σ env H)(h:itX Γ pio m env=some (ds,env')){Q:It→Hp→Prop}
 (q:∀J H' F' A',env'.length=σ.length→Same F F'→Rep K cl H₀ G₀ io F' A' σ env' H'→(∀(H2 F2:Hp) (k:Nat),Same F' F2→Same F2 H2→(k=ds.length→J.stop k H2)∧∀d,ds[k]?=some d→J.go k H2∧∀v H3,J.yld k H2 v H3→∃F3,Ext H2 F2 H3 F3∧Dn K cl F3 v d)→Q J H'):tI K cl Γ m σ H Q:=by
 unfold itX at h
 split at h
 ·rename_i hr
  obtain⟨l,h1,h2⟩:=msi h
  cases h2
  refine⟨H,_,ds,.refl _,R.see,h1,fun J H' G' x wk wr=>q J H' F A hl (.refl _) (R.same x.hh) fun H2 F2 k s1 s2=>wr hr F H2 F2 k s1 s2⟩
 ·obtain⟨env1,h1,h⟩:=bsi h
  obtain⟨l,h2,h3⟩:=msi h
  cases h3
  obtain⟨F1,A1,R1,l1,g1⟩:=frz_ok hp R h1
  exact⟨F1,_,ds,R1.fh,R1.seeF,h2,fun J H' G' x wk _=>q J H' G' A1 (l1.trans hl) (g1.ff.trans x.gg) (R1.ext x) fun H2 F2 k s1 s2=>wk H2 F2 k s1 s2⟩
theorem s_for1{i:Nat}{it:E}{b:S}(h:tS K cl Γ Δ pio (.for1 i it b) En σ H):tFor (tI K cl Γ it) (gName i) (tS K cl Γ Δ pio b) En σ H:=by
 obtain⟨H₀,G₀,io,F,A,env,n,fl,env',hp,hl,R,e,po⟩:=h
 have e':(if okI pio env i then(itX Γ pio it env).bind fun r=>forL (fun d e=>ex Γ Δ pio n b (e.set i (some (.sh d)))) r.1 r.2 else none)=some (fl,env'):=e
 split at e'
 ·rename_i ok
  obtain⟨o1,o2⟩:=okI_ok ok
  obtain⟨⟨ds,env1⟩,h1,e'⟩:=bsi e'
  refine it_X hp hl R h1 fun J H1 F1 A1 l1 sf1 R1 wk=> ?_
  refine⟨fun k m σ' H'=>m=ds.length-k∧k≤ds.length∧∃F A e1,Same F1 F∧e1.length=σ'.length∧σ'.length=σ.length∧(∀(x:Nat),x∉i::asgs b→σ'[x]?=σ[x]?)∧Rep K cl H₀ G₀ io F A σ' e1 H'∧forL (fun d e=>ex Γ Δ pio n b (e.set i (some (.sh d)))) (ds.drop k) e1=some (fl,env'),⟨_,rfl,Nat.zero_le _,F1,A1,env1,.refl _,l1,rfl,fun _ _=>rfl,R1,e'⟩,?_⟩
  rintro k m σ1 H2 ⟨rfl,hk,F2,A2,e1,s2,l2,l3,st,R2,w⟩
  obtain⟨w1,w2⟩:=wk H2 F2 k s2 R2.fh
  by_cases hlt:k<ds.length
  ·obtain⟨g,y⟩:=w2 ds[k] (List.getElem?_eq_getElem hlt)
   refine .inr ⟨g,fun σ' H'=>∃F A e1,Same F1 F∧e1.length=σ'.length∧σ'.length=σ.length∧(∀(x:Nat),x∉i::asgs b→σ'[x]?=σ[x]?)∧Rep K cl H₀ G₀ io F A σ' e1 H'∧forL (fun d e=>ex Γ Δ pio n b (e.set i (some (.sh d)))) (ds.drop (k+1)) e1=some (fl,env'),fun σ' H' q=>⟨_,by omega,rfl,hlt,q⟩,fun v H3 yl=> ?_⟩
   obtain⟨F3,x3,d3⟩:=y v H3 yl
   have R3:=R2.ext x3
   rw [List.drop_eq_getElem_cons hlt]at w
   obtain⟨⟨fb,eb⟩,h3,h4⟩:=bsi (show(ex Γ Δ pio n b (e1.set i (some (.sh ds[k])))).bind (fun q=>match q.1 with
    | .nx=>forL (fun d e=>ex Γ Δ pio n b (e.set i (some (.sh d)))) (ds.drop (k+1)) q.2
    | .ct=>forL (fun d e=>ex Γ Δ pio n b (e.set i (some (.sh d)))) (ds.drop (k+1)) q.2
    | .bk=>some (.nx,q.2)
    | .rt t=>some (.rt t,q.2))=some (fl,env')from w)
   have R4:=R3.store (hp.ne o1) (by omega) l2 (.sh d3) List.nodup_nil (fun _ _ _ _ z=>by simp at z) (by simp)
   refine⟨H₀,G₀,io,F3,_,_,n,fb,eb,hp,by simpa using l2,R4,h3,fun σ' H' F' A' l5 l6 st' sf R'=> ?_⟩
   have l7:σ'.length=σ.length:=by rw [l6,List.length_set];exact l3
   have st7:∀(x:Nat),x∉i::asgs b→σ'[x]?=σ[x]?:=fun x hx=>by
    rw [st' x (fun z=>hx (by simp [z])),List.getElem?_set_ne (fun z=>hx (by simp [z])),st x hx]
   cases fb with
   |nx=>exact⟨F',A',eb,(s2.trans x3.gg).trans sf,l5,l7,st7,R',h4⟩
   |ct=>exact⟨F',A',eb,(s2.trans x3.gg).trans sf,l5,l7,st7,R',h4⟩
   |bk=>cases h4;exact po σ' H' F' A' l5 l7 st7 (sf1.trans ((s2.trans x3.gg).trans sf)) R'
   |rt t=>cases h4;exact po σ' H' F' A' l5 l7 st7 (sf1.trans ((s2.trans x3.gg).trans sf)) R'
  ·have e0:k=ds.length:=by omega
   subst e0
   rw [List.drop_length]at w
   cases w
   exact .inl ⟨w1 rfl,po σ1 H2 F2 A2 l2 l3 st (sf1.trans s2) R2⟩
 ·cases e'
noncomputable def step2(Γ:Tab)(Δ:IOT)(pio:Option Nat)(n i j:Nat)(b:S):D→TEnv→Option (Fl×TEnv):=fun d e=>match d with
 | .tup [x,y]=>ex Γ Δ pio n b ((e.set i (some (.sh x))).set j (some (.sh y)))
 |_=>none
theorem step2_some{n i j:Nat}{b:S}{d:D}{e:TEnv}{r:Fl×TEnv}(h:step2 Γ Δ pio n i j b d e=some r):∃x y,d=.tup [x,y]∧ex Γ Δ pio n b ((e.set i (some (.sh x))).set j (some (.sh y)))=some r:=by
 unfold step2 at h
 split at h
 ·exact⟨_,_,rfl,h⟩
 ·cases h
theorem s_for2{i j:Nat}{it:E}{b:S}(h:tS K cl Γ Δ pio (.for2 i j it b) En σ H):tFor (tI K cl Γ it) (gTup K 2 (gCons (gName i) (gCons (gName j) gNil))) (tS K cl Γ Δ pio b) En σ H:=by
 obtain⟨H₀,G₀,io,F,A,env,n,fl,env',hp,hl,R,e,po⟩:=h
 have e':(if okI pio env i&&okI pio env j&&decide (i≠j)then(itX Γ pio it env).bind fun r=>forL (step2 Γ Δ pio n i j b) r.1 r.2 else none)=some (fl,env'):=e
 split at e'
 ·rename_i ok
  obtain⟨ok,hij⟩:=(Bool.and_eq_true _ _).mp ok
  obtain⟨ok1,ok2⟩:=(Bool.and_eq_true _ _).mp ok
  obtain⟨o1,o2⟩:=okI_ok ok1
  obtain⟨o3,o4⟩:=okI_ok ok2
  have hij:=of_decide_eq_true hij
  obtain⟨⟨ds,env1⟩,h1,e'⟩:=bsi e'
  refine it_X hp hl R h1 fun J H1 F1 A1 l1 sf1 R1 wk=> ?_
  refine⟨fun k m σ' H'=>m=ds.length-k∧k≤ds.length∧∃F A e1,Same F1 F∧e1.length=σ'.length∧σ'.length=σ.length∧(∀(x:Nat),x∉i::j::asgs b→σ'[x]?=σ[x]?)∧Rep K cl H₀ G₀ io F A σ' e1 H'∧forL (step2 Γ Δ pio n i j b) (ds.drop k) e1=some (fl,env'),⟨_,rfl,Nat.zero_le _,F1,A1,env1,.refl _,l1,rfl,fun _ _=>rfl,R1,e'⟩,?_⟩
  rintro k m σ1 H2 ⟨rfl,hk,F2,A2,e1,s2,l2,l3,st,R2,w⟩
  obtain⟨w1,w2⟩:=wk H2 F2 k s2 R2.fh
  by_cases hlt:k<ds.length
  ·obtain⟨g,y⟩:=w2 ds[k] (List.getElem?_eq_getElem hlt)
   refine .inr ⟨g,fun σ' H'=>∃F A e1,Same F1 F∧e1.length=σ'.length∧σ'.length=σ.length∧(∀(x:Nat),x∉i::j::asgs b→σ'[x]?=σ[x]?)∧Rep K cl H₀ G₀ io F A σ' e1 H'∧forL (step2 Γ Δ pio n i j b) (ds.drop (k+1)) e1=some (fl,env'),fun σ' H' q=>⟨_,by omega,rfl,hlt,q⟩,fun v H3 yl=> ?_⟩
   obtain⟨F3,x3,d3⟩:=y v H3 yl
   have R3:=R2.ext x3
   rw [List.drop_eq_getElem_cons hlt]at w
   obtain⟨⟨fb,eb⟩,h3,h4⟩:=bsi (show(step2 Γ Δ pio n i j b ds[k] e1).bind (fun q=>match q.1 with
    | .nx=>forL (step2 Γ Δ pio n i j b) (ds.drop (k+1)) q.2
    | .ct=>forL (step2 Γ Δ pio n i j b) (ds.drop (k+1)) q.2
    | .bk=>some (.nx,q.2)
    | .rt t=>some (.rt t,q.2))=some (fl,env')from w)
   obtain⟨x,y,hd,h3⟩:=step2_some h3
   rw [hd]at d3
   cases d3 with| @tup p zs _ t1 t2=>
   obtain⟨u1,u2,rfl,du1,du2⟩:=t2.two
   refine⟨p,_,rfl,SqT.of (x3.gh _ _ t1),rfl,u1,[u2],rfl,u2,[],rfl,rfl,?_⟩
   obtain⟨A4,R4⟩:=R3.store2 hp o1 o3 (by omega) (by omega) l2 hij (.sh du1) (.sh du2) List.nodup_nil List.nodup_nil (by simp) (by simp)
   refine⟨H₀,G₀,io,F3,_,_,n,fb,eb,hp,by simpa using l2,R4,h3,fun σ' H' F' A' l5 l6 st' sf R'=> ?_⟩
   have l7:σ'.length=σ.length:=by rw [l6,List.length_set,List.length_set];exact l3
   have st7:∀(x:Nat),x∉i::j::asgs b→σ'[x]?=σ[x]?:=fun x hx=>by
    rw [st' x (fun z=>hx (by simp [z])),set_ne2 (fun z=>hx (by simp at z⊢;rcases z with z|z<;>simp [z])),st x hx]
   cases fb with
   |nx=>exact⟨F',A',eb,(s2.trans x3.gg).trans sf,l5,l7,st7,R',h4⟩
   |ct=>exact⟨F',A',eb,(s2.trans x3.gg).trans sf,l5,l7,st7,R',h4⟩
   |bk=>cases h4;exact po σ' H' F' A' l5 l7 st7 (sf1.trans ((s2.trans x3.gg).trans sf)) R'
   |rt t=>cases h4;exact po σ' H' F' A' l5 l7 st7 (sf1.trans ((s2.trans x3.gg).trans sf)) R'
  ·have e0:k=ds.length:=by omega
   subst e0
   rw [List.drop_length]at w
   cases w
   exact .inl ⟨w1 rfl,po σ1 H2 F2 A2 l2 l3 st (sf1.trans s2) R2⟩
 ·cases e'
end
end MI
end
noncomputable section
namespace MI
open PySem L2
noncomputable def spIO(K:PySem.W.Frag)(cl:Nat→Option Addr)(k:Nat)(g:List D→Option (T×List D)):Sp:=fun vs H Q _=>∃G l a xs ds t ds',Same G H∧vs.length=l.length∧vs[k]?=some (.ref a)∧l[k]?=some (.lst ds)∧H a=some (.lst xs)∧G a=none∧Dns K cl G xs ds∧
 (∀(j:Nat) (v:V) (d:D),j≠k→vs[j]?=some v→l[j]?=some d→Dn K cl G v d)∧g l=some (t,ds')∧flatT t=true∧ds.all scal=true∧ds'.all scal=true∧
 ∀v H' G' xs' B,(∀b o,b≠a→H b=some o→H' b=some o)→Same G G'→Same G' H'→(∀b o,G' b=some o→G b=none→H b=none)→H' a=some (.lst xs')→Dns K cl G' xs' ds'→OT K cl G' H' v t B→B.Nodup→(∀b∈B,H b=none)→Q v H'
structure GoodIO(X:Cx)(cl:Nat→Option Addr)(x:Str)(k:Nat)(g:List D→Option (T×List D)):Prop where
 ex:∃r fa fd ps,FnOk X.prog X.w X.K X.mg X.base CX0 r fa fd ps (spIO X.K cl k g)∧Room r X.A∧X.mg x=some (.ref fa)∧PySem.W.keepIn X.K (.ref fa)=true∧Binds X.K fd ps []
section
variable{X:Cx}{cl:Nat→Option Addr}{Γ:Tab}{Δ:IOT}{pio:Option Nat}{En:Ends}
noncomputable def tIA(K:PySem.W.Frag)(cl:Nat→Option Addr)(Γ:Tab)(i k:Nat)(args:E):TA:=fun σ H Q=>∃G env ds l a,Same G H∧EnvD K cl G env σ∧σ[i]?=some (some (.ref a))∧evA Γ i ds env k args=some l∧
 ∀vs H' G',Ext H G H' G'→vs.length=l.length→vs[k]?=some (.ref a)→l[k]?=some (.lst ds)→(∀(j:Nat) (v:V) (d:D),j≠k→vs[j]?=some v→l[j]?=some d→Dn K cl G' v d)→Q vs H'
theorem isVar_eq{m:E}{i:Nat}(h:isVar m i=true):m=.var i:=by
 cases m with
 |var j=>have:j=i:=by simpa [isVar]using h
         rw [this]
 |_=>cases h
theorem pa_io{f:Expr→Option E}(hv:∀e i,f e=some (.var i)→PE X e (tVar i))(ih:∀e m,f e=some m→PE X e (tV X.K cl Γ m)):∀ {k i:Nat} {es:List Expr} {m:E},es.all okE=true→cList f es=some m→PA X es (tIA X.K cl Γ i k m)
 |0,i,[],m,_,h=>by
  cases h
  intro pos pins s σ H Q I ⟨G,env,ds,l,a,sg,en,hs,e,q⟩
  cases e
 |k+1,i,[],m,_,h=>by
  cases h
  intro pos pins s σ H Q I ⟨G,env,ds,l,a,sg,en,hs,e,q⟩
  cases e
 |0,i,e::r,m,ok,h=>by
  rw [List.all_cons,Bool.and_eq_true]at ok
  obtain⟨ma,h1,h⟩:=bsi h
  obtain⟨mr,h2,rfl⟩:=msi h
  intro pos pins s σ H Q I ⟨G,env,ds,l,a,sg,en,hs,e,q⟩
  have e':(if isVar ma i then(evs Γ mr env).map fun l=> .lst ds::l else none)=some l:=e
  split at e'
  ·rename_i hi
   have:=isVar_eq hi
   subst this
   obtain⟨l',el,rfl⟩:=msi e'
   refine(pa_cons (hv _ i h1) (clist_ok (fun e _ m h=>ih e m h) ok.2 h2) (star_of ok.1 _ _)) pos pins s σ H Q I ⟨.ref a,hs,G,env,l',sg,en,el,fun vs H' G' x dv=> ?_⟩
   refine q _ H' G' x (by simp [dv.length]) rfl rfl fun j v d hj h3 h4=> ?_
   cases j with
   |zero=>exact absurd rfl hj
   |succ j=>
    obtain⟨v',h5,h6⟩:=dv.get (i:=j) (d:=d) (by simpa using h4)
    have h3':vs[j]?=some v:=by simpa using h3
    rw [h3']at h5
    cases h5
    exact h6
  ·cases e'
 |k+1,i,e::r,m,ok,h=>by
  rw [List.all_cons,Bool.and_eq_true]at ok
  obtain⟨ma,h1,h⟩:=bsi h
  obtain⟨mr,h2,rfl⟩:=msi h
  intro pos pins s σ H Q I ⟨G,env,ds,l,a,sg,en,hs,e,q⟩
  obtain⟨x,ex,e⟩:=bsi (show(ev Γ ma env).bind (fun x=>(evA Γ i ds env k mr).map fun l=>x::l)=some l from e)
  obtain⟨l',el,rfl⟩:=msi e
  refine(pa_cons (ih _ ma h1) (pa_io (k:=k) (i:=i) hv ih ok.2 h2) (star_of ok.1 _ _)) pos pins s σ H Q I ⟨G,env,x,sg,en,ex,fun v H1 G1 x1 d1=>⟨G1,env,ds,l',a,x1.gh,en.mono x1.gg,hs,el,fun vs H' G' x2 h3 h4 h5 h6=> ?_⟩⟩
  refine q _ H' G' (x1.trans x2) (by simp [h3]) (by simpa using h4) (by simpa using h5) fun j u d hj h7 h8=> ?_
  cases j with
  |zero=>
   have h7':v=u:=by simpa using h7
   have h8':x=d:=by simpa using h8
   subst h7' h8'
   exact d1.mono x2.gg
  |succ j=>exact h6 j u d (fun z=>hj (by rw [z])) (by simpa using h7) (by simpa using h8)
noncomputable def tIOC(K:PySem.W.Frag)(cl:Nat→Option Addr)(Γ:Tab)(Δ:IOT)(pio:Option Nat)(f i:Nat)(args:E):TE:=fun σ H Q=>∃H₀ G₀ io F A env t env',Pio pio io∧env.length=σ.length∧Rep K cl H₀ G₀ io F A σ env H∧evIO Γ Δ f i args env=some (t,env')∧
 ∀v H' A' B,env'.length=σ.length→Rep K cl H₀ G₀ io F A' σ env' H'→OT K cl F H' v t B→B.Nodup→(∀a∈B,H₀ a=none∧∀j,a∉A' j)→Q v H'
noncomputable def but(H:Hp)(a:Addr):Hp:=fun b=>if b=a then none else H b
theorem but_same{H:Hp}{a:Addr}:Same (but H a) H:=fun b o h=>by
 unfold but at h
 split at h
 ·cases h
 ·exact h
theorem but_at{H:Hp}{a:Addr}:but H a a=none:=by unfold but;rw [if_pos rfl]
theorem but_ne{H:Hp}{a b:Addr}(h:b≠a):but H a b=H b:=by unfold but;rw [if_neg h]
theorem Rep.seeBut{K:PySem.W.Frag}{H₀ G₀ F H:Hp}{io:Option (Nat×Addr)}{A:Nat→List Addr}{σ:St}{env:TEnv}(R:Rep K cl H₀ G₀ io F A σ env H){i:Nat}{p:Addr}{B:List Addr}(hA:A i=p::B):EnvD K cl (but H p) (dEnv (env.set i none)) σ:=fun j d e=>by
 unfold dEnv at e
 rw [List.getElem?_map]at e
 by_cases hj:j=i
 ·subst hj
  by_cases hl:j<env.length
  ·rw [List.getElem?_set_self hl]at e;cases e
  ·rw [List.getElem?_eq_none (by simp;omega)]at e;cases e
 ·rw [List.getElem?_set_ne (Ne.symm hj)]at e
  cases q:env[j]? with
  |none=>rw [q]at e;cases e
  |some o=>
   cases o with
   |none=>rw [q]at e;cases e
   |some t=>
    rw [q]at e
    cases e
    obtain⟨v,h1,h2⟩:=R.slot j t q
    obtain⟨F',fz,dn⟩:=h2.freeze R.fh (R.nd j)
    refine⟨v,h1,dn.mono fun b o z=> ?_⟩
    rw [but_ne]
    ·exact fz.gh _ _ z
    ·rintro rfl
     have hp:b∈A i:=by rw [hA];simp
     rw [fz.on b (fun w=>R.dj j i b hj w hp)]at z
     rw [(R.at_ hp).1]at z
     cases z
theorem pe_ioc{x:Str}{f i k:Nat}{g:List D→Option (T×List D)}{e:Expr}{es:List Expr}{m:E}{p pos:Pos}(hg:Gl X x)(hd:(x==("__debug__":Str))=false)(FF:GoodIO X cl x k g)(hf:Δ f=some (k,g))(ha:PA X (e::es) (tIA X.K cl Γ i k m))(ok:(e::es).all okE=true):
 PE X (.Call (.Name x p) (e::es) [] pos) (tIOC X.K cl Γ Δ pio f i m):=by
 obtain⟨r,fa,fd,ps,F1,F2,F3,F4,F5⟩:=FF.ex
 rw [List.all_cons,Bool.and_eq_true]at ok
 refine peI (pe_call F1 F2 hg F3 F4 F5 .nil pass0 ha hd (star_of ok.1 _ _) (star_any ok.2 _ _)) fun σ H Q ⟨H₀,G₀,io,F,A,env,t,env',hp,hl,R,h1,q⟩=> ?_
 unfold evIO at h1
 rw [hf]at h1
 have h1':(match env[i]? with
  |some (some (.ow ts))=>(unsh ts).bind fun ds=>if ds.all scal then(evA Γ i ds (dEnv (env.set i none)) k m).bind fun l=>(g l).bind fun r=>if flatT r.1&&r.2.all scal then some (r.1,env.set i (some (.ow (r.2.map T.sh))))else none else none
  |_=>none)=some (t,env'):=h1
 split at h1'
 ·rename_i ts he
  obtain⟨ds,h2,h9⟩:=bsi h1'
  have:=unsh_eq h2
  subst this
  split at h9
  ·rename_i hs
   obtain⟨l,h3,h9⟩:=bsi h9
   obtain⟨⟨t1,ds'⟩,h4,h9⟩:=bsi h9
   split at h9
   ·rename_i hfl
    obtain⟨hfl,hs'⟩:=(Bool.and_eq_true _ _).mp hfl
    cases h9
    obtain⟨a,xs,B,e1,e2,hA,hx,fp,os⟩:=R.own (show owAt env i=some _ by unfold owAt;rw [he])
    obtain⟨dx,hB⟩:=os.unsh
    subst hB
    refine⟨but H a,_,ds,l,a,but_same,R.seeBut hA,e2,h3,fun vs H1 G1 x1 y1 y2 y3 y4=> ?_⟩
    show spIO X.K cl k g (vs++[]) H1 Q E0
    rw [List.append_nil]
    have R1:=R.same x1.hh
    have ga:G1 a=none:=by
     cases z:G1 a with
     |none=>rfl
     |some o=>have:=x1.nw a o z but_at;rw [hx]at this;cases this
    refine⟨G1,l,a,xs,ds,_,_,x1.gh,y1,y2,y3,x1.hh _ _ hx,ga,dx.scal hs G1,y4,h4,hfl,hs,hs',fun v H' G' xs' B k1 k2 k3 k4 k5 k6 k7 k8 k9=> ?_⟩
    have nB:∀b∈B,∀j,b∉A j:=fun b hb j hj=>by
     obtain⟨_,o,z⟩:=R1.at_ hj
     rw [k9 b hb]at z;cases z
    have fB:∀b∈B,F b=none:=fun b hb=>R1.fh.free (k9 b hb)
    have aA:a∈A i:=by rw [hA];simp
    have nea:∀j b,j≠i→b∈A j→b≠a:=fun j b hj hb z=>R.dj j i b hj hb (by rw [z];exact aA)
    have a0:∀b o,H₀ b=some o→(∀p,io≠some (p,b))→b≠a:=fun b o w1 w2 z=>by
     rcases R.anew i a aA with⟨q,w⟩|w
     ·exact w2 q (by rw [z];exact w)
     ·rw [z,w]at w1;cases w1
    refine q v H' A B (by simp [hl]) ⟨fun j u e'=> ?_,fun j hh=> ?_,R.nd,R.dj,fun b o z=> ?_,R.gf,R.fnew,fun b o z1 z2=> ?_,R.anew,R.iok⟩ (k7.flat hfl fB) k8 fun b hb=>⟨R1.new (k9 b hb),nB b hb⟩
    ·by_cases hj:j=i
     ·subst hj
      rw [List.getElem?_set_self (by rw [hl];exact(List.getElem?_eq_some_iff.mp e2).1)]at e'
      cases e'
      refine⟨.ref a,e2,?_⟩
      rw [hA]
      exact .ow k5 fp (OTs.shs (k6.scal hs' F))
     ·rw [List.getElem?_set_ne (Ne.symm hj)]at e'
      obtain⟨w,z3,z4⟩:=R1.slot j u e'
      exact⟨w,z3,z4.move (.refl _) (fun b hb=>(z4.free b hb).1) fun b hb o qq=>k1 b o (nea j b hj hb) qq⟩
    ·by_cases hj:j=i
     ·subst hj;exact absurd (List.getElem?_set_self (by rw [hl];exact(List.getElem?_eq_some_iff.mp e2).1)) (hh _)
     ·refine R.out j fun u z=>hh u ?_
      rw [List.getElem?_set_ne (Ne.symm hj)];exact z
    ·exact k1 b o (ne_of_none z fp) (R1.fh _ _ z)
    ·exact k1 b o (a0 b o z1 z2) (R1.keep b o z1 z2)
   ·cases h9
  ·cases h9
 ·cases h1'
end
section
variable{K:PySem.W.Frag}{cl:Nat→Option Addr}{Γ:Tab}{Δ:IOT}{pio:Option Nat}{En:Ends}{σ:St}{H:Hp}
noncomputable def tNotIf(neg:Bool)(t:TE):TT:=fun σ H Q=>t σ H fun v H1=>∃b,v=.bl b∧Q (b !=neg) H1
theorem s_ifio{neg:Bool}{f i:Nat}{args:E}{a b:S}(h:tS K cl Γ Δ pio (.ifio neg f i args a b) En σ H):tIfS (tNotIf neg (tIOC K cl Γ Δ pio f i args)) (tS K cl Γ Δ pio a) (tS K cl Γ Δ pio b) En σ H:=by
 obtain⟨H₀,G₀,io,F,A,env,n,fl,env',hp,hl,R,e,po⟩:=h
 obtain⟨⟨t,env1⟩,h1,h2⟩:=bsi (show(evIO Γ Δ f i args env).bind (fun r=>match r.1 with
  | .sh (.bl t)=>if(t !=neg)then ex Γ Δ pio n a r.2 else ex Γ Δ pio n b r.2
  |_=>none)=some (fl,env')from e)
 refine⟨H₀,G₀,io,F,A,env,t,env1,hp,hl,R,h1,fun v H' A' B l1 R' ot nd nw=> ?_⟩
 cases t with
 |ow ts=>cases h2
 |ob _ _ _=>cases h2
 |sh d=>
  cases d with
  |bl c=>
   have h2':(if(c !=neg)then ex Γ Δ pio n a env1 else ex Γ Δ pio n b env1)=some (fl,env'):=h2
   cases ot with
   |sh dn=>
    cases dn
    refine⟨c,rfl,?_⟩
    cases hc:(c !=neg)with
    |true=>
     rw [hc]at h2'
     exact iteT ⟨H₀,G₀,io,F,A',env1,n,fl,env',hp,l1,R',h2',fun σ' H' F' A' l1 l2 st sf R'=>po σ' H' F' A' l1 l2 (fun k hk=>st k fun z=>hk (by simp [asgs,z])) sf R'⟩
    |false=>
     rw [hc]at h2'
     exact iteF ⟨H₀,G₀,io,F,A',env1,n,fl,env',hp,l1,R',h2',fun σ' H' F' A' l1 l2 st sf R'=>po σ' H' F' A' l1 l2 (fun k hk=>st k fun z=>hk (by simp [asgs,z])) sf R'⟩
  |_=>cases h2
noncomputable def tNames:List Nat→TA
 |[]=>tNil
 |j::r=>tCons (tVar j) (tNames r)
end
end MI
end
noncomputable section
namespace MI
open PySem L2
section
variable{K:PySem.W.Frag}{cl:Nat→Option Addr}{H₀ G₀ F H:Hp}{io:Option (Nat×Addr)}{A:Nat→List Addr}{σ:St}{env:TEnv}
theorem OTs.child:∀ {xs:List V} {ts:List T} {B:List Addr} {j:Nat} {t:T},OTs K cl F H xs ts B→B.Nodup→ts[j]?=some t→∃v C,xs[j]?=some v∧OT K cl F H v t C∧C.Nodup∧(∀a∈C,a∈B)∧
 ∀(H':Hp) (t':T) (C':List Addr),(∀a∈B,a∉C→∀o,H a=some o→H' a=some o)→OT K cl F H' v t' C'→C'.Nodup→(∀a∈C',a∈C∨a∉B)→∃B',OTs K cl F H' xs (ts.set j t') B'∧B'.Nodup∧∀a∈B',a∈B∨a∈C'
 |_,_,_,_,_,.nil,_,h=>by simp at h
 |_,_,_,0,t,@OTs.cons _ _ _ _ x t0 xs ts A1 B1 a r,nd,h=>by
  have e:t0=t:=by simpa using h
  subst e
  obtain⟨n1,n2,n3⟩:=List.nodup_append.mp nd
  refine⟨x,A1,rfl,a,n1,fun b hb=>by simp [hb],fun H' t' C' k o nc sub=>⟨C'++B1,.cons o ?_,?_,fun b hb=> ?_⟩⟩
  ·exact r.move (.refl _) (fun b hb=>(r.free b hb).1) fun b hb u q=>k b (by simp [hb]) (fun z=>n3 b z b hb rfl) u q
  ·refine List.nodup_append.mpr ⟨nc,n2,fun b hb y hy e=> ?_⟩
   subst e
   rcases sub b hb with z|z
   ·exact n3 b z b hy rfl
   ·exact z (by simp [hy])
  ·rcases List.mem_append.mp hb with z|z
   ·exact .inr z
   ·exact .inl (by simp [z])
 |_,_,_,j+1,t,@OTs.cons _ _ _ _ x t0 xs ts A1 B1 a r,nd,h=>by
  obtain⟨n1,n2,n3⟩:=List.nodup_append.mp nd
  obtain⟨v,C,g1,g2,g3,g4,g5⟩:=OTs.child (j:=j) (t:=t) r n2 (by simpa using h)
  refine⟨v,C,by simpa using g1,g2,g3,fun b hb=>by simp [g4 b hb],fun H' t' C' k o nc sub=> ?_⟩
  obtain⟨B',o1,o2,o3⟩:=g5 H' t' C' (fun b hb nb u q=>k b (by simp [hb]) nb u q) o nc fun b hb=>by
   rcases sub b hb with z|z
   ·exact .inl z
   ·exact .inr fun w=>z (by simp [w])
  refine⟨A1++B',.cons ?_ o1,List.nodup_append.mpr ⟨n1,o2,fun b hb y hy e=> ?_⟩,fun b hb=> ?_⟩
  ·exact a.move (.refl _) (fun b hb=>(a.free b hb).1) fun b hb u q=>k b (by simp [hb]) (fun z=>n3 b hb b (g4 b z) rfl) u q
  ·subst e
   rcases o3 b hy with z|z
   ·exact n3 b hb b z rfl
   ·rcases sub b z with w|w
    ·exact n3 b hb b (g4 b w) rfl
    ·exact w (by simp [hb])
  ·rcases List.mem_append.mp hb with z|z
   ·exact .inl (by simp [z])
   ·rcases o3 b z with w|w
    ·exact .inl (by simp [w])
    ·exact .inr w
theorem Rep.put(R:Rep K cl H₀ G₀ io F A σ env H){i:Nat}{t t':T}{v:V}{q p:Addr}{o:HO}{C B':List Addr}(e:env[i]?=some (some t))(hs:σ[i]?=some (some v))(hA:A i=p::C)(hq:q∈A i)(ot:OT K cl F (upd H q o) v t' (p::B'))(nd:(p::B').Nodup)
 (sub:∀a∈B',a∈C∨(H₀ a=none∧∀j,a∉A j)):Rep K cl H₀ G₀ io F (fun j=>if j=i then p::B' else A j) σ (env.set i (some t')) (upd H q o):=by
 have hi:i<env.length:=(List.getElem?_eq_some_iff.mp e).1
 have fq:F q=none:=(R.at_ hq).1
 have hp:p∈A i:=by rw [hA];simp
 have ne:∀j a,j≠i→a∈A j→a≠q:=fun j a hj ha z=>R.dj j i a hj ha (by rw [z];exact hq)
 have sub':∀a∈p::B',a∈A i∨(H₀ a=none∧∀j,a∉A j):=fun a ha=>by
  rcases List.mem_cons.mp ha with z|z
  ·rw [z];exact .inl hp
  ·rcases sub a z with w|w
   ·exact .inl (by rw [hA];simp [w])
   ·exact .inr w
 have one:∀j a,j≠i→a∈A j→a∈p::B'→False:=fun j a hj h3 h4=>by
  rcases sub' a h4 with z|z
  ·exact R.dj j i a hj h3 z
  ·exact z.2 j h3
 refine⟨fun j u e'=> ?_,fun j h=> ?_,fun j=> ?_,fun j k a hjk h1 h2=> ?_,fun b u w=> ?_,R.gf,R.fnew,fun b u h1 h2=> ?_,fun j a ha=> ?_,fun r a h=> ?_⟩
 ·by_cases hj:j=i
  ·subst hj
   rw [List.getElem?_set_self hi]at e'
   cases e'
   exact⟨_,hs,by rw [if_pos rfl];exact ot⟩
  ·rw [List.getElem?_set_ne (Ne.symm hj)]at e'
   obtain⟨w,h3,h4⟩:=R.slot j u e'
   refine⟨w,h3,?_⟩
   rw [if_neg hj]
   exact h4.move (.refl _) (fun a ha=>(h4.free a ha).1) fun a ha o q=>by rw [upd_ne (ne j a hj ha)];exact q
 ·by_cases hj:j=i
  ·subst hj;exact absurd (List.getElem?_set_self hi) (h _)
  ·show(if j=i then p::B' else A j)=[]
   rw [if_neg hj]
   refine R.out j fun u z=>h u ?_
   rw [List.getElem?_set_ne (Ne.symm hj)];exact z
 ·show(if j=i then p::B' else A j).Nodup
  split
  ·exact nd
  ·exact R.nd j
 ·have h1':a∈(if j=i then p::B' else A j):=h1
  have h2':a∈(if k=i then p::B' else A k):=h2
  by_cases e1:j=i
  ·rw [if_pos e1]at h1'
   rw [if_neg (fun z=>hjk (e1.trans z.symm))]at h2'
   exact one k a (fun z=>hjk (e1.trans z.symm)) h2' h1'
  ·rw [if_neg e1]at h1'
   by_cases e2:k=i
   ·rw [if_pos e2]at h2'
    exact one j a e1 h1' h2'
   ·rw [if_neg e2]at h2'
    exact R.dj j k a hjk h1' h2'
 ·rw [upd_ne (ne_of_none w fq)];exact R.fh _ _ w
 ·rw [upd_ne]
  ·exact R.keep b u h1 h2
  ·rintro rfl
   rcases R.anew i b hq with⟨r,z⟩|z
   ·exact h2 r z
   ·rw [z]at h1;cases h1
 ·have ha':a∈(if j=i then p::B' else A j):=ha
  split at ha'
  ·rcases sub' a ha' with z|z
   ·exact R.anew i a z
   ·exact .inr z.1
  ·exact R.anew j a ha'
 ·show∃B,(if r=i then p::B' else A r)=a::B
  obtain⟨C',h5⟩:=R.iok r a h
  split
  ·rename_i hr
   subst hr
   rw [hA]at h5
   injection h5 with h6 _
   exact⟨B',by rw [h6]⟩
  ·exact⟨C',h5⟩
theorem obAt_eq{i:Nat}{o:Nat×List Str×List T}(h:obAt env i=some o):env[i]?=some (some (.ob o.1 o.2.1 o.2.2)):=by
 unfold obAt at h
 split at h
 ·rename_i e;cases h;exact e
 ·cases h
theorem Rep.obj(R:Rep K cl H₀ G₀ io F A σ env H){i:Nat}{o:Nat×List Str×List T}(h:obAt env i=some o):∃a C dx vfs B,env[i]?=some (some (.ob o.1 o.2.1 o.2.2))∧σ[i]?=some (some (.ref a))∧A i=a::dx::B∧H a=some (.ins C dx vfs)∧H dx=some (.own a)∧cl o.1=some C∧vfs.map (·.1)=o.2.1∧F a=none∧F dx=none∧OTs K cl F H (vfs.map (·.2)) o.2.2 B:=by
 have e:=obAt_eq h
 obtain⟨v,h1,ot⟩:=R.slot i _ e
 generalize hA:A i=B at ot
 cases ot with
 |ob a1 a2 a3 a4 a5 a6 a7=>exact⟨_,_,_,_,_,e,h1,rfl,a1,a2,a3,a4,a5,a6,a7⟩
theorem fld_lookup{f:Str}:∀ {vfs:List (Str×V)} {j:Nat} {v:V},nIdx (vfs.map (·.1)) f=some j→(vfs.map (·.2))[j]?=some v→vfs.lookup f=some v
 |[],_,_,h,_=>by cases h
 |(k,u)::r,j,v,h,g=>by
  rw [List.map_cons]at h
  unfold nIdx at h
  rw [List.lookup_cons]
  split at h
  ·rename_i e
   have e:k=f:=by simpa using e
   subst e
   cases h
   have g':u=v:=by simpa using g
   subst g'
   simp
  ·rename_i e
   obtain⟨j',h',rfl⟩:=msi h
   have ne:(f==k)=false:=by
    cases z:f==k with
    |false=>rfl
    |true=>exact absurd (by rw [show f=k by simpa using z];simp) e
   rw [ne]
   exact fld_lookup h' (by simpa using g)
theorem Rep.fld(R:Rep K cl H₀ G₀ io F A σ env H){i:Nat}{f:Str}{o:Nat×List Str×List T}{ju:Nat×List T}(h:obAt env i=some o)(hf:fldAt f o=some ju):∃a C dx vfs r ys Cs,σ[i]?=some (some (.ref a))∧H a=some (.ins C dx vfs)∧cl o.1=some C∧vfs.lookup f=some (.ref r)∧H r=some (.lst ys)∧F r=none∧r∉Cs∧Cs.Nodup∧(∀b∈r::Cs,b∈A i)∧OTs K cl F H ys ju.2 Cs∧
 ∀(q:Addr) (u:HO) (us':List T) (ys':List V) (B':List Addr),q∈r::Cs→upd H q u r=some (.lst ys')→OTs K cl F (upd H q u) ys' us' B'→(r::B').Nodup→(∀b∈B',b∈Cs∨(H₀ b=none∧∀j,b∉A j))→∃A',Rep K cl H₀ G₀ io F A' σ (env.set i (some (.ob o.1 o.2.1 (o.2.2.set ju.1 (.ow us'))))) (upd H q u):=by
 obtain⟨a,C,dx,vfs,B,e,hs,hA,h1,h2,h3,h4,h5,h6,os⟩:=R.obj h
 unfold fldAt at hf
 obtain⟨j,hj,hf⟩:=bsi hf
 obtain⟨t,ht,hf⟩:=bsi hf
 obtain⟨us,hu,hf⟩:=msi hf
 subst hf
 have ht':=isOw_eq hu
 subst ht'
 have ndA:=R.nd i
 rw [hA]at ndA
 obtain⟨na,nd1⟩:=List.nodup_cons.mp ndA
 obtain⟨nx,ndB⟩:=List.nodup_cons.mp nd1
 obtain⟨v,Cv,g1,g2,g3,g4,g5⟩:=os.child ndB ht
 rw [←h4]at hj
 have lk:=fld_lookup hj g1
 cases g2 with
 | @ow r ys _ Cs b1 b2 b3=>
   obtain⟨nr,nC⟩:=List.nodup_cons.mp g3
   have inB:∀b∈r::Cs,b∈B:=g4
   refine⟨a,C,dx,vfs,r,ys,Cs,hs,h1,h3,lk,b1,b2,nr,nC,fun b hb=>by rw [hA];simp [inB b hb],b3,fun q u us' ys' B' hq hr ot nd sub=> ?_⟩
   have qB:q∈B:=inB q hq
   have qa:a≠q:=fun z=>na (by rw [z];simp [qB])
   have qx:dx≠q:=fun z=>nx (by rw [z];exact qB)
   have nb:∀b∈r::B',b∈r::Cs∨(H₀ b=none∧∀j,b∉A j):=fun b hb=>by
    rcases List.mem_cons.mp hb with z|z
    ·exact .inl (by simp [z])
    ·rcases sub b z with w|w
     ·exact .inl (by simp [w])
     ·exact .inr w
   obtain⟨B2,o1,o2,o3⟩:=g5 (upd H q u) (.ow us') (r::B') (fun b hb n w hw=>by rw [upd_ne (fun z=>n (by rw [z];exact hq))];exact hw) (.ow hr b2 ot) nd fun b hb=>by
    rcases nb b hb with z|z
    ·exact .inl z
    ·exact .inr fun w=>z.2 i (by rw [hA];simp [w])
   have inA:∀b∈B2,b∈B∨(H₀ b=none∧∀j,b∉A j):=fun b hb=>by
    rcases o3 b hb with z|z
    ·exact .inl z
    ·rcases nb b z with w|w
     ·exact .inl (inB b w)
     ·exact .inr w
   have na2:a∉B2:=fun z=>by
    rcases inA a z with w|w
    ·exact na (by simp [w])
    ·exact w.2 i (by rw [hA];simp)
   have nx2:dx∉B2:=fun z=>by
    rcases inA dx z with w|w
    ·exact nx w
    ·exact w.2 i (by rw [hA];simp)
   refine⟨_,R.put (p:=a) (C:=dx::B) (B':=dx::B2) e hs hA (by rw [hA];simp [qB]) (.ob (by rw [upd_ne qa];exact h1) (by rw [upd_ne qx];exact h2) h3 h4 h5 h6 o1) ?_ fun b hb=> ?_⟩
   ·refine List.nodup_cons.mpr ⟨fun z=> ?_,List.nodup_cons.mpr ⟨nx2,o2⟩⟩
    rcases List.mem_cons.mp z with w|w
    ·exact na (by rw [w];simp)
    ·exact na2 w
   ·rcases List.mem_cons.mp hb with z|z
    ·exact .inl (by simp [z])
    ·rcases inA b z with w|w
     ·exact .inl (by simp [w])
     ·exact .inr w
theorem frz_ob{pio:Option Nat}:∀ {l:List Nat} {env env':TEnv} {i:Nat} {o:Nat×List Str×List T},frz pio env l=some env'→obAt env' i=some o→obAt env i=some o
 |[],_,_,_,_,h,o=>by cases h;exact o
 |j::r,env,env',i,ts,h,o=>by
  have step:∀ {d:D},obAt (env.set j (some (.sh d))) i=some ts→obAt env i=some ts:=fun {d} z=>by
   have e:=obAt_eq z
   by_cases hij:j=i
   ·subst hij
    by_cases hl:j<env.length
    ·rw [List.getElem?_set_self hl]at e;cases e
    ·rw [List.getElem?_eq_none (by simp;omega)]at e;cases e
   ·rw [List.getElem?_set_ne hij]at e
    unfold obAt;rw [e]
  unfold frz at h
  split at h
  ·split at h
   ·cases h
   ·exact step (frz_ob h o)
  ·split at h
   ·cases h
   ·exact step (frz_ob h o)
  ·exact frz_ob h o
theorem evX_ob{Γ:Tab}{pio:Option Nat}{m:E}{env env1:TEnv}{t:T}{i:Nat}{ts:Nat×List Str×List T}(h:evX Γ pio m env=some (t,env1))(o:obAt env1 i=some ts):obAt env i=some ts:=by
 cases hc:isCall m with
 |true=>
  cases m with
  |call f args=>
   rw [evX_call]at h
   obtain⟨g,_,h⟩:=bsi h
   obtain⟨l,_,h⟩:=bsi h
   obtain⟨t1,_,h⟩:=bsi h
   split at h
   ·cases h;exact o
   ·obtain⟨e1,ef,h⟩:=bsi h
    obtain⟨l',_,h⟩:=bsi h
    obtain⟨t2,_,h⟩:=msi h
    cases h
    exact frz_ob ef o
  |_=>cases hc
 |false=>
  rw [evX_other hc]at h
  obtain⟨d,_,h⟩:=bsi h
  split at h
  ·cases h;exact o
  ·split at h
   ·obtain⟨ds,_,h⟩:=bsi h
    split at h
    ·cases h;exact o
    ·obtain⟨e1,ef,h⟩:=bsi h
     obtain⟨_,_,h⟩:=msi h
     cases h
     exact frz_ob ef o
   ·obtain⟨e1,ef,h⟩:=bsi h
    obtain⟨_,_,h⟩:=msi h
    cases h
    exact frz_ob ef o
end
section
variable{K:PySem.W.Frag}{cl:Nat→Option Addr}{Γ:Tab}{Δ:IOT}{pio:Option Nat}{En:Ends}{σ:St}{H:Hp}
theorem putF_new{f:Str}{v:V}:∀ {fs:List (Str×V)},f∉fs.map (·.1)→putF f v fs=fs++[(f,v)]
 |[],_=>rfl
 |(k,x)::r,h=>by
  rw [List.map_cons,List.mem_cons,not_or]at h
  rw [show putF f v ((k,x)::r)=(if k=f then(k,v)::r else(k,x)::putF f v r)from rfl,if_neg (fun z=>h.1 z.symm),putF_new h.2];rfl
theorem s_fst{i:Nat}{f:Str}{m:E}(hc:ClsOk K cl)(hf:FLD.contains f=true)(h:tS K cl Γ Δ pio (.fst i f m) En σ H):sFld K (tVar i) (tX K cl Γ pio m) f En σ H:=by
 obtain⟨H₀,G₀,io,F,A,env,n,fl,env',hp,hl,R,e,po⟩:=h
 obtain⟨⟨t,env1⟩,h1,e⟩:=bsi (show(evX Γ pio m env).bind (fun r=>(obAt r.2 i).bind fun o=>if !o.2.1.contains f&&decide (o.2.1.length<1000)then some (Fl.nx,r.2.set i (some (.ob o.1 (o.2.1++[f]) (o.2.2++[r.1]))))else none)=some (fl,env')from e)
 obtain⟨o,h2,e⟩:=bsi e
 split at e
 ·rename_i hz
  obtain⟨nk,hlt⟩:=(Bool.and_eq_true _ _).mp hz
  cases e
  refine⟨H₀,G₀,io,F,A,env,t,env1,hp,hl,R,h1,fun v H' F' A' B l1 g R' ot nd nw=> ?_⟩
  obtain⟨a,C,dx,vfs,B0,e1,hs,hA,g1,g2,g3,g4,g5,g6,os⟩:=R'.obj h2
  obtain⟨c1,c2,_⟩:=hc.1 _ C g3
  have nkm:f∉vfs.map (·.1):=by
   rw [g4]
   intro z
   rw [List.contains_iff_mem.mpr z]at nk
   cases nk
  have dis:∀b∈B,∀j,b∉A' j:=fun b hb j hj=>by
   obtain⟨_,o,h3⟩:=R.at_ (g.aa j b hj)
   rw [nw b hb]at h3;cases h3
  have ndA:=R'.nd i
  rw [hA]at ndA
  obtain⟨na,nd1⟩:=List.nodup_cons.mp ndA
  obtain⟨nx,ndB⟩:=List.nodup_cons.mp nd1
  have aB:a∉B:=fun z=>dis a z i (by rw [hA];simp)
  have ax:dx∉B:=fun z=>dis dx z i (by rw [hA];simp)
  have aB0:a∉B0:=fun z=>na (by simp [z])
  have adx:dx≠a:=fun z=>na (by rw [z];simp)
  refine⟨.ref a,hs,a,C,dx,vfs,rfl,g1,c1,c2 f (List.contains_iff_mem.mp hf),?_,?_⟩
  ·have:=of_decide_eq_true hlt
   rw [←g4,List.length_map]at this;exact this
  ·rw [putF_new nkm]
   refine po σ _ F' _ (by simpa using l1) rfl (fun _ _=>rfl) g.ff (R'.put (p:=a) (q:=a) (C:=dx::B0) (B':=dx::(B0++B)) e1 hs hA (by rw [hA];simp) (.ob (ks:=o.2.1++[f]) (ts:=o.2.2++[t]) upd_same (by rw [upd_ne adx];exact g2) g3 (by rw [List.map_append,g4];rfl) g5 g6 ?_) ?_ fun b hb=> ?_)
   ·rw [List.map_append]
    exact(os.poke aB0).snoc (ot.poke aB)
   ·refine List.nodup_cons.mpr ⟨fun z=> ?_,List.nodup_cons.mpr ⟨fun z=> ?_,List.nodup_append.mpr ⟨ndB,nd,fun b hb y hy e=>dis y hy i (by rw [hA,←e];simp [hb])⟩⟩⟩
    ·rcases List.mem_cons.mp z with w|w
     ·exact adx w.symm
     ·rcases List.mem_append.mp w with w|w
      ·exact aB0 w
      ·exact aB w
    ·rcases List.mem_append.mp z with w|w
     ·exact nx w
     ·exact ax w
   ·rcases List.mem_cons.mp hb with z|z
    ·exact .inl (by simp [z])
    ·rcases List.mem_append.mp z with w|w
     ·exact .inl (by simp [w])
     ·exact .inr ⟨R.new (nw b w),dis b w⟩
 ·cases e
theorem s_appF{i:Nat}{f:Str}{m:E}(hc:ClsOk K cl)(hf:FLD.contains f=true)(h:tS K cl Γ Δ pio (.appF i f m) En σ H):tDrop (tBM K "list" rAppend (tFld K (tVar i) f) (tCons (tX K cl Γ pio m) tNil)) En σ H:=by
 obtain⟨H₀,G₀,io,F,A,env,n,fl,env',hp,hl,R,e,po⟩:=h
 obtain⟨⟨t,env1⟩,h1,e⟩:=bsi (show(evX Γ pio m env).bind (fun r=>(obAt r.2 i).bind fun o=>(fldAt f o).bind fun ju=>if sz ju.2.length then some (Fl.nx,r.2.set i (some (.ob o.1 o.2.1 (o.2.2.set ju.1 (.ow (ju.2++[r.1]))))))else none)=some (fl,env')from e)
 obtain⟨o,h2,e⟩:=bsi e
 obtain⟨ju,h3,e⟩:=bsi e
 split at e
 ·rename_i hz
  cases e
  obtain⟨a,C,dx,vfs,r,ys,Cs,hs,g1,g3,lk,hr,fr,nr,nC,inA,os,_⟩:=R.fld (evX_ob h1 h2) h3
  obtain⟨c1,c2,_⟩:=hc.1 _ C g3
  refine⟨.ref a,hs,a,C,dx,vfs,.ref r,rfl,g1,c1,c2 f (List.contains_iff_mem.mp hf),lk,ty_list hr,H₀,G₀,io,F,A,env,t,env1,hp,hl,R,h1,fun v H' F' A' B l1 g R' ot nd nw=> ?_⟩
  obtain⟨a',C',dx',vfs',r',ys',Cs',hs',g1',g3',lk',hr',fr',nr',nC',inA',os',fin⟩:=R'.fld h2 h3
  rw [hs]at hs'
  cases hs'
  rw [g.hh _ _ g1]at g1'
  cases g1'
  rw [lk]at lk'
  cases lk'
  have dis:∀b∈B,∀j,b∉A' j:=fun b hb j hj=>by
   obtain⟨_,o,h3⟩:=R.at_ (g.aa j b hj)
   rw [nw b hb]at h3;cases h3
  have rB:r∉B:=fun z=>dis r z i (inA' r (by simp))
  refine⟨r,ys',v,rfl,rfl,hr',?_,?_⟩
  ·have:=of_decide_eq_true hz
   rw [os'.length,sizeLine_eq];omega
  ·obtain⟨A2,R2⟩:=fin r (.lst (ys'++[v])) (ju.2++[t]) (ys'++[v]) (Cs'++B) (by simp) upd_same ((os'.poke nr').snoc (ot.poke rB)) (List.nodup_cons.mpr ⟨fun z=>by
    rcases List.mem_append.mp z with w|w
    ·exact nr' w
    ·exact rB w,List.nodup_append.mpr ⟨nC',nd,fun b hb y hy e=>dis y hy i (by rw [←e];exact inA' b (by simp [hb]))⟩⟩) fun b hb=>by
    rcases List.mem_append.mp hb with w|w
    ·exact .inl w
    ·exact .inr ⟨R.new (nw b w),dis b w⟩
   exact po σ _ F' A2 (by simpa using l1) rfl (fun _ _=>rfl) g.ff R2
 ·cases e
end
end MI
end
noncomputable section
namespace MI
open PySem L2
section
variable{X:Cx}{cl:Nat→Option Addr}{Γ:Tab}{c:CC}
theorem var_inv{n:Nat}{top:Bool}{N:List Str}{sc:Scope}{e:Expr}{i:Nat}(S:Sees X cl c Γ top N sc)(h:cE c n top N sc e=some (.var i)):PE X e (tVar i):=by
 cases n with
 |zero=>cases h
 |succ n=>
  have hh:=cE_head h
  cases e
  case Name x pos=>
   replace h:cNa c N sc x=some (.var i):=h
   unfold cNa at h
   split at h
   ·rename_i ok
    obtain⟨n1,n2,n3⟩:=okN_ok ok
    split at h
    ·rename_i j hi
     cases h
     have hN:=nIdx_get hi
     exact pe_var (i:=i) (by rw [S.hN];exact hN) (S.vis i _ hN) n1 n2
    ·split at h
     ·obtain⟨_,_,h⟩:=msi h;cases h
     ·cases h
   ·cases h
  all_goals cases hh
theorem comp_inv(hΓ:∀x f,c.tab.lookup x=some f→∃g,Γ f=some g){n:Nat}{N:List Str}{sc:Scope}{elt iter:Expr}{x:Str}{px pos:Pos}{ifs:List Expr}{scope:Scope}{m:E}(S:Sees X cl c Γ true N sc)(h:cE c n true N sc (.ListComp elt [⟨.Name x px,iter,ifs,0⟩] scope pos)=some m):
 ∃fr is mi me mc tt,m=.comp me is mi mc∧CompScope sc N scope x fr is∧PI X (.Name x px) iter (tI X.K cl Γ mi)∧(∀C s H fp pins,PTs (compCx X scope (x::fr) C s H fp pins) ifs tt)∧(∀C s H fp pins,PE (compCx X scope (x::fr) C s H fp pins) elt (tV X.K cl Γ me))∧
  (∀σ H (Q:Bool→Hp→Prop),(∃G env b,Same G H∧EnvD X.K cl G env σ∧cS mc (ev Γ mc env)=some b∧∀H' G',Ext H G H' G'→Q b H')→tt σ H Q)∧(∀v,foldedSetIterable iter X.env v=pure v):=by
 cases n with
 |zero=>cases h
 |succ n=>
  have ih1:∀e m,cE c n true N sc e=some m→PE X e (tV X.K cl Γ m):=fun e m h=>(cE_ok hΓ n true N sc e m X S h).1
  have h':(if okE iter then(slotsOf N (frees scope.names)).bind fun is=>if compOk sc N scope x (frees scope.names) is then
   (cI false (isGl N sc) (fun y=>(c.tab.lookup y).isSome) (cE c n true N sc) iter).bind fun mi=>
   (cE c n false (x::frees scope.names) scope elt).bind fun me=>(cIfs (cE c n false (x::frees scope.names) scope) ifs).map fun mc=> .comp me is mi mc
   else none else none)=some m:=h
  split at h'
  ·rename_i oi
   obtain⟨is,h1,h⟩:=bsi h'
   split at h
   ·rename_i cs
    have cs:=compOk_ok cs
    obtain⟨mi,h2,h⟩:=bsi h
    obtain⟨me,h3,h⟩:=bsi h
    obtain⟨mc,h4,rfl⟩:=msi h
    have hi:PI X (.Name x px) iter (tI X.K cl Γ mi):=ci_ok S ih1 (fun z=>by cases z) h2
    have he:∀C s H fp pins,PE (compCx X scope (x::frees scope.names) C s H fp pins) elt (tV X.K cl Γ me):=fun C s H fp pins=>(cE_ok hΓ n false _ scope elt me _ (S.comp cs C s H fp pins) h3).1
    have hfs:∀v,foldedSetIterable iter X.env v=pure v:=by intro v;cases iter<;>first|rfl|cases oi
    cases ifs with
    |nil=>
     cases h4
     exact⟨_,is,mi,me,_,tTrue,rfl,cs,hi,fun _ _ _ _ _=>pts_nil,he,fun σ H Q ⟨G,env,b,sg,en,e,q⟩=>by
      have e':some true=some b:=e
      cases e'
      exact q H G (Ext.refl sg),hfs⟩
    |cons t r=>
     cases r with
     |nil=>
      have h4':(if okT t then(cE c n false (x::frees scope.names) scope t).bind fun m=>if isNil m then none else some m else none)=some mc:=h4
      split at h4'
      ·rename_i okt
       obtain⟨m',h5,h6⟩:=bsi h4'
       split at h6
       ·cases h6
       ·rename_i nn
        cases h6
        have ht:∀C s H fp pins,PT (compCx X scope (x::frees scope.names) C s H fp pins) t (tVT X.K cl Γ mc):=fun C s H fp pins=>(cE_ok hΓ n false _ scope t mc _ (S.comp cs C s H fp pins) h5).2 okt
        exact⟨_,is,mi,me,mc,tVT X.K cl Γ mc,rfl,cs,hi,fun C s H fp pins=>pts_one (ht C s H fp pins),he,fun σ H Q ⟨G,env,b,sg,en,e,q⟩=>by
         unfold cS at e
         rw [if_neg nn]at e
         exact⟨G,env,b,sg,en,e,q⟩,hfs⟩
      ·cases h4'
     |cons t2 r2=>cases h4
   ·cases h
  ·cases h'
theorem tX_comp{K:PySem.W.Frag}{pio:Option Nat}{me mi mc:E}{is:List Nat}{σ:St}{H:Hp}{Q:VK}(h:tX K cl Γ pio (.comp me is mi mc) σ H Q):tF K cl Γ (.comp me is mi mc) σ H Q:=by
 obtain⟨H₀,G₀,io,F,A,env,t,env',hp,hl,R,ev',q⟩:=h
 rw [evX_other rfl]at ev'
 obtain⟨d,ed,ev'⟩:=bsi ev'
 have hd:∃ds,d=.lst ds:=by
  obtain⟨ds,_,e⟩:=bsi (show((ev Γ mi (dEnv env)).bind walkD).bind (fun ds=>if sz ds.length then(compR (fun d=>(cS mc (ev Γ mc (inner (dEnv env) is d))).bind fun b=>if b then(ev Γ me (inner (dEnv env) is d)).map some else some none) ds).map D.lst else none)=some d from ed)
  split at e
  ·obtain⟨o,_,rfl⟩:=msi e
   exact⟨o,rfl⟩
  ·cases e
 obtain⟨ds,rfl⟩:=hd
 rw [if_neg (show¬scal (D.lst ds)=true from Bool.false_ne_true)]at ev'
 rw [if_pos (show fresh (E.comp me is mi mc)=true from rfl)]at ev'
 obtain⟨ds2,e1,ev2⟩:=bsi ev'
 cases e1
 split at ev2
 ·rename_i al
  cases ev2
  refine⟨H,_,_,.refl _,R.see,ed,fun p xs H1 G1 x hpn gpn hat dx=> ?_⟩
  refine q (.ref p) H1 F A [p] hl (.of_same x.hh) (R.same x.hh) (.ow hat (R.fh.free hpn) (OTs.shs (dx.scal al F))) (by simp) (fun a ha=> ?_)
  have e:a=p:=by simpa using ha
  rw [e];exact hpn
 ·obtain⟨env1,ef,ev'⟩:=bsi ev2
  obtain⟨ds',e2,ev'⟩:=msi ev'
  cases ev'
  obtain⟨d',e3,e4⟩:=bsi e2
  have hd:d'=.lst ds':=by cases d'<;>cases e4;rfl
  subst hd
  obtain⟨F1,A1,R1,l1,g1⟩:=frz_ok hp R ef
  refine⟨F1,_,ds',R1.fh,R1.seeF,e3,fun p xs H1 G1 x hpn gpn hat dx=> ?_⟩
  refine q (.ref p) H1 G1 A1 [p] (l1.trans hl) (g1.trans (.of_ext x)) (R1.ext x) (.ow hat gpn (OTs.shs dx)) (by simp) (fun a ha=> ?_)
  have e:a=p:=by simpa using ha
  rw [e];exact hpn
end
theorem swaps_comp(elt:Expr)(gs:List Comprehension)(scope:Scope)(pos:Pos)(y:Str)(py:Pos)(l:Nat)(env:PySem.Env):swapsWith (.ListComp elt gs scope pos) (some (.Name y py)) l env=pure (env.blockKind==.function&&env.kindOf y==some .local&&py.line==pos.line&& !(scope.names.any fun(n,k)=>n==y&&(k==.local||k==.cell))):=rfl
noncomputable def isComp:Expr→Bool
 | .ListComp _ _ _ _=>true
 | .SetComp _ _ _ _=>true
 | .DictComp _ _ _ _ _=>true
 |_=>false
theorem swaps_not{e:Expr}(h:isComp e=false)(t:Option Expr)(l:Nat)(env:PySem.Env):swapsWith e t l env=pure false:=by
 cases e<;>first|rfl|cases h
end MI
end
noncomputable section
namespace MI
open PySem L2
noncomputable def isC1:E→Bool
 | .isi (.var 0) 2=>true
 |_=>false
noncomputable def isC2:E→Bool
 | .un .list (.var 0)=>true
 |_=>false
noncomputable def isC3:E→Bool
 | .var 0=>true
 |_=>false
theorem isC1_eq{m:E}(h:isC1 m=true):m=.isi (.var 0) 2:=by
 unfold isC1 at h
 split at h
 ·rfl
 ·cases h
theorem isC2_eq{m:E}(h:isC2 m=true):m=.un .list (.var 0):=by
 unfold isC2 at h
 split at h
 ·rfl
 ·cases h
theorem isC3_eq{m:E}(h:isC3 m=true):m=.var 0:=by
 unfold isC3 at h
 split at h
 ·rfl
 ·cases h
noncomputable def cCpy(c:CC)(n:Nat)(N:List Str)(sc:Scope)(e:Expr):Option E:=match e with
 | .ListComp (.IfExp t a b _) [⟨.Name x _,iter,[],0⟩] scope _=>
   if okE iter&&okT t then(slotsOf N (frees scope.names)).bind fun is=>if compOk sc N scope x (frees scope.names) is then
    (cI false (isGl N sc) (fun y=>(c.tab.lookup y).isSome) (cE c n true N sc) iter).bind fun mi=>
    (cE c n false (x::frees scope.names) scope t).bind fun mt=>(cE c n false (x::frees scope.names) scope a).bind fun ma=>(cE c n false (x::frees scope.names) scope b).bind fun mb=>
      if isC1 mt&&isC2 ma&&isC3 mb then some mi else none
   else none else none
 |_=>none
noncomputable def tCp(K:PySem.W.Frag)(cl:Nat→Option Addr):TE:=fun σ H Q=>∃G v d,Same G H∧σ[0]?=some (some v)∧Dn K cl G v d∧noIns d=true∧∀u H' G' B,Ext H G H' G'→OT K cl G' H' u (cpyT d) B→B.Nodup→(∀a∈B,H a=none)→Q u H'
noncomputable def tCpy(K:PySem.W.Frag)(cl:Nat→Option Addr)(Γ:Tab)(wi:E):TE:=fun σ H Q=>∃G env ds,Same G H∧EnvD K cl G env σ∧its Γ wi env=some ds∧sz ds.length=true∧ds.all noIns=true∧∀p H1 G1 B,Ext H G H1 G1→OT K cl G1 H1 (.ref p) (.ow (ds.map cpyT)) B→B.Nodup→(∀a∈B,H a=none)→Q (.ref p) H1
section
variable{X:Cx}{cl:Nat→Option Addr}{Γ:Tab}{c:CC}
theorem pe_cp{t a b:Expr}{pos:Pos}(ht:PT X t (tVT X.K cl Γ (.isi (.var 0) 2)))(ha:PE X a (tF X.K cl Γ (.un .list (.var 0))))(hb:PE X b (tVar 0)):PE X (.IfExp t a b pos) (tCp X.K cl):=by
 refine peI (pe_ifExp ht ha hb) fun σ H Q ⟨G,v,d,sg,hv,dn,ni,q⟩=> ?_
 have en:∀ {G':Hp},Dn X.K cl G' v d→EnvD X.K cl G' [some d] σ:=fun {G'} dn' i d' e=>by
  cases i with
  |zero=>
   have e':some (some d)=some (some d'):=e
   cases e'
   exact⟨v,hv,dn'⟩
  |succ i=>simp at e
 by_cases hL:∃l,d=.lst l
 ·obtain⟨l,rfl⟩:=hL
  refine⟨G,[some (.lst l)],true,sg,en dn,rfl,fun H1 G1 x1=>iteT ⟨G1,[some (.lst l)],l,x1.gh,en (dn.mono x1.gg),rfl,fun p xs H2 G2 x2 hp gp hat dx=> ?_⟩⟩
  refine q (.ref p) H2 G2 [p] (x1.trans x2) (.ow hat gp (OTs.shs dx)) (by simp) fun a ha=> ?_
  have e:a=p:=by simpa using ha
  rw [e];exact x1.hh.free hp
 ·have e1:evB Γ (.isi (.var 0) 2) [some d]=some false:=by
   cases d with
   |lst l=>exact absurd ⟨l,rfl⟩ hL
   |ins=>cases ni
   |_=>rfl
  have e2:cpyT d=.sh d:=by
   cases d with
   |lst l=>exact absurd ⟨l,rfl⟩ hL
   |_=>rfl
  refine⟨G,[some d],false,sg,en dn,e1,fun H1 G1 x1=>iteF ⟨v,hv,?_⟩⟩
  exact q v H1 G1 [] x1 (by rw [e2];exact .sh (dn.mono x1.gg)) List.nodup_nil (by simp)
theorem comp_cp{wi:E}{is:List Nat}{K:PySem.W.Frag}{σ:St}{H:Hp}{Q:VK}:tCpy K cl Γ wi σ H Q→tComp (tI K cl Γ wi) is tTrue (tCp K cl) σ H Q:=by
 rintro ⟨G,env,ds,sg,en,e1,hz,hn,q⟩
 have hz':=of_decide_eq_true hz
 refine⟨G,env,ds,sg,en,e1,fun J H1 G1 x1 wk _ D hD=> ?_⟩
 have gD:G1 D=none:=x1.gh.free hD
 refine⟨fun i k H2=>k=ds.length-i∧i≤ds.length∧∃G2 ys B,Ext H1 G1 H2 G2∧H2 D=some (.lst ys)∧G2 D=none∧OTs K cl G2 H2 ys ((ds.take i).map cpyT) B∧B.Nodup∧D∉B∧∀a∈B,H1 a=none,
  ⟨ds.length,by simp,Nat.zero_le _,G1,[],[],⟨same_upd hD _,.refl _,x1.gh.trans (same_upd hD _),fun b o h1 h2=>by rw [h1]at h2;cases h2⟩,upd_same,gD,.nil,List.nodup_nil,by simp,by simp⟩,?_⟩
 rintro i k H2 ⟨rfl,hi,G2,ys,B,x2,hy,g2D,os,nd,nD,nw⟩
 obtain⟨w1,w2⟩:=wk H2 G2 i x2.gg x2.gh
 by_cases hlt:i<ds.length
 ·have hd:ds[i]?=some ds[i]:=List.getElem?_eq_getElem hlt
  obtain⟨g,y⟩:=w2 _ hd
  refine .inr ⟨g,fun v H3 yl=> ?_⟩
  obtain⟨G3,x3,d3⟩:=y v H3 yl
  unfold tTrue
  refine Eq.mpr (if_pos rfl) ?_
  refine⟨G3,v,ds[i],x3.gh,rfl,d3,List.all_eq_true.mp hn _ (List.getElem_mem hlt),fun u H5 G5 C x5 ot ndC nwC=> ?_⟩
  have x25:=x3.trans x5
  have out:∀ {b:Addr} {o:HO},H2 b=some o→G2 b=none→G5 b=none:=fun {b o} h1 h2=>by
   cases z:G5 b with
   |none=>rfl
   |some w=>have:=x25.nw b w z h2;rw [h1]at this;cases this
  have g5D:G5 D=none:=out hy g2D
  have hy5:H5 D=some (.lst ys):=x25.hh _ _ hy
  have DC:D∉C:=fun z=>by have:=nwC D z;rw [x3.hh _ _ hy]at this;cases this
  have os5:OTs K cl G5 H5 ys ((ds.take i).map cpyT) B:=os.move x25.gg (fun a ha=>by obtain⟨f1,o,f2⟩:=os.free a ha;exact out f2 f1) fun a ha o h=>x25.hh _ _ h
  refine⟨ys,hy5,by rw [sizeLine_eq,os.length,List.length_map,List.length_take];omega,ds.length-(i+1),by omega,rfl,hlt,G5,ys++[u],B++C,?_,upd_same,g5D,?_,?_,?_,?_⟩
  ·have x:=x2.trans x25
   exact⟨fun b o h=>by rw [upd_ne (ne_of_none h hD)];exact x.hh _ _ h,x.gg,fun b o h=>by rw [upd_ne (ne_of_none h g5D)];exact x.gh _ _ h,x.nw⟩
  ·have e:(ds.take (i+1)).map cpyT=(ds.take i).map cpyT++[cpyT ds[i]]:=by rw [List.take_succ_eq_append_getElem hlt,List.map_append];rfl
   rw [e]
   exact(os5.poke nD).snoc (ot.poke DC)
  ·refine List.nodup_append.mpr ⟨nd,ndC,fun a ha b hb e=> ?_⟩
   subst e
   obtain⟨_,o,f2⟩:=os.free a ha
   have:=nwC a hb
   rw [x3.hh _ _ f2]at this;cases this
  ·intro z
   rcases List.mem_append.mp z with w|w
   ·exact nD w
   ·exact DC w
  ·intro a ha
   rcases List.mem_append.mp ha with w|w
   ·exact nw a w
   ·exact(x2.trans x3).hh.free (nwC a w)
 ·have e0:i=ds.length:=by omega
  subst e0
  rw [List.take_length]at os
  refine .inl ⟨w1 rfl,q D H2 G2 (D::B) (x1.trans x2) (.ow hy g2D os) (List.nodup_cons.mpr ⟨nD,nd⟩) fun a ha=> ?_⟩
  rcases List.mem_cons.mp ha with w|w
  ·rw [w];exact x1.hh.free hD
  ·exact x1.hh.free (nw a w)
theorem cCpy_ok(hΓ:∀x f,c.tab.lookup x=some f→∃g,Γ f=some g){n:Nat}{N:List Str}{sc:Scope}{e:Expr}{m:E}(S:Sees X cl c Γ true N sc)(h:cCpy c n N sc e=some m):PE X e (tCpy X.K cl Γ m):=by
 unfold cCpy at h
 split at h
 ·rename_i t a b p1 x px iter scope pos
  split at h
  ·rename_i ok
   obtain⟨oi,okt⟩:=(Bool.and_eq_true _ _).mp ok
   obtain⟨is,h1,h⟩:=bsi h
   split at h
   ·rename_i cs
    have cs:=compOk_ok cs
    obtain⟨mi,h2,h⟩:=bsi h
    obtain⟨mt,h3,h⟩:=bsi h
    obtain⟨ma,h4,h⟩:=bsi h
    obtain⟨mb,h5,h⟩:=bsi h
    split at h
    ·rename_i hc
     obtain⟨hc,hc3⟩:=(Bool.and_eq_true _ _).mp hc
     obtain⟨hc1,hc2⟩:=(Bool.and_eq_true _ _).mp hc
     cases h
     rw [isC1_eq hc1]at h3
     rw [isC2_eq hc2]at h4
     rw [isC3_eq hc3]at h5
     have hi:PI X (.Name x px) iter (tI X.K cl Γ m):=ci_ok S (fun e m h=>(cE_ok hΓ n true N sc e m X S h).1) (fun z=>by cases z) h2
     have he:∀C s H fp pins,PE (compCx X scope (x::frees scope.names) C s H fp pins) (.IfExp t a b p1) (tCp X.K cl):=fun C s H fp pins=>
      have S2:=S.comp cs C s H fp pins
      pe_cp (X:=compCx X scope (x::frees scope.names) C s H fp pins) (Γ:=Γ) ((cE_ok hΓ n false _ scope t _ _ S2 h3).2 okt) (cF_ok hΓ S2 h4 rfl) (var_inv S2 h5)
     have hfs:∀v,foldedSetIterable iter X.env v=pure v:=by intro v;cases iter<;>first|rfl|cases oi
     exact peI (pe_comp S.calm hi he cs (S.tp rfl) S.hN hfs) fun σ H Q q=>comp_cp q
    ·cases h
   ·cases h
  ·cases h
 ·cases h
theorem s_retC{K:PySem.W.Frag}{Δ:IOT}{pio:Option Nat}{En:Ends}{σ:St}{H:Hp}{m:E}(h:tS K cl Γ Δ pio (.retC m) En σ H):tRet (tCpy K cl Γ m) En σ H:=by
 obtain⟨H₀,G₀,io,F,A,env,n,fl,env',hp,hl,R,e,po⟩:=h
 obtain⟨ds,h1,e⟩:=bsi (show(its Γ m (fEnv env)).bind (fun ds=>if sz ds.length&&ds.all noIns then some (Fl.rt (.ow (ds.map cpyT)),env)else none)=some (fl,env')from e)
 split at e
 ·rename_i hz
  obtain⟨hz,hn⟩:=(Bool.and_eq_true _ _).mp hz
  cases e
  refine⟨F,fEnv env,ds,R.fh,R.seeF,h1,hz,hn,fun p H1 G1 B x ot nd nw=> ?_⟩
  refine po σ H1 G1 A hl rfl (fun _ _=>rfl) x.gg (R.ext x) (.ref p) B ot nd (fun j a h1 h2=> ?_) fun a ha=>R.new (nw a ha)
  obtain⟨_,o,h3⟩:=R.at_ h1
  rw [nw a h2]at h3;cases h3
 ·cases e
end
end MI
end
noncomputable section
namespace L2
open PySem PySem.Spec PyProof.Rows
section
variable{X:Cx}{pos:Pos}
noncomputable def tPar3(i j k:Nat)(ta:TA):TS:=fun D σ H=>ta σ H fun vs H1=>∃v w u,vs=[v,w,u]∧D.nx (((σ.set i (some v)).set j (some w)).set k (some u)) H1
theorem ps_par3{i j k:Nat}{x y z:Str}{a b c:Expr}{ta:TA}{px py pz pt:Pos}{kt k2 pt2}(hc:X.calm=true)(hN:X.N.Nodup)(hi:X.N[i]?=some x)(hj:X.N[j]?=some y)(hk:X.N[k]?=some z)(hij:i≠j)(hik:i≠k)(hjk:j≠k)
 (hx:X.env.scope.names.lookup x=some .local)(hy:X.env.scope.names.lookup y=some .local)(hz:X.env.scope.names.lookup z=some .local)(ha:PA X [a,b,c] ta)
 (hw:swappedStores [.Tuple [.Name x px,.Name y py,.Name z pz] kt pt] (.Tuple [a,b,c] k2 pt2) X.env=pure (some [x,y,z]))
 (hs:swapsWithSole [.Tuple [.Name x px,.Name y py,.Name z pz] kt pt] (.Tuple [a,b,c] k2 pt2) pos.line X.env=pure false:=by rfl):
 PS X (.Assign [.Tuple [.Name x px,.Name y py,.Name z pz] kt pt] (.Tuple [a,b,c] k2 pt2) pos) (tPar3 i j k ta):=by
 intro pins s σ H D I h
 rw [exec_Assign_arm]
 refine wpAny_bind (wpAny_standAt ?_)
 rw [hs]
 refine wpAny_bind (wpAny_pure ?_)
 rw [if_neg (by decide)]
 refine wpAny_bind (Tuple_ (thn (ha _ pins s σ H _ I h) fun us s1 ⟨vs,H1,I1,r1,q1⟩=> ?_))
 obtain⟨v,w,u,rfl,q1⟩:=q1
 cases r1 with| @cons _ u1 _ _ rv r1=>cases r1 with| @cons _ u2 _ _ rw' r1=>cases r1 with| @cons _ u3 _ _ ru r1=>cases r1 with|nil=>
 refine wpAny_newObj_type ?_ (by show 3≤sizeLine;decide)
 have I2:Inv X pins σ H1 {s1 with heap:=s1.heap.push {cls:=.type "tuple",data:=.seq [u1,u2,u3].toArray}}:=I1.kept (t':=s1.toks) fun b o e=>Heap.get?_push_of_some _ e
 rw [hw]
 refine wpAny_bind (wpAny_pure ?_)
 show wpAny (model X.prog X.w) X.A (do rule "assign.swapped-stores";let items←unpackItems (.ref s1.heap.objs.size) 3 none;assignInOrder [fun v=>bindName X.env z v,fun v=>bindName X.env y v,fun v=>bindName X.env x v] items.reverse;pure Flow.next) _ _ _
 refine wpAny_bind (wpAny_rule (wpAny_bind (unpackItems_tuple (items:= #[u1,u2,u3]) (I.ok.hd hc) (IsTup.new s1.heap _) fun h' hx'=> ?_)))
 have I3:=I2.kept (h':=h') (t':=s1.toks) fun b o e=>hx' b o (Nat.ne_of_lt (Heap.lt_size e)) e
 show wpAny _ _ (assignInOrder [fun v=>bindName X.env z v,fun v=>bindName X.env y v,fun v=>bindName X.env x v] [u3,u2,u1]>>=fun _=>pure Flow.next) _ _ _
 refine wpAny_bind (assignInOrder_cons (wpAny_bindName (store_ok I3 hN hk (.inl hz) ru (fun s2 I4=> ?_) (.inr hz))))
 refine assignInOrder_cons (wpAny_bindName (store_ok I4 hN hj (.inl hy) rw' (fun s3 I5=> ?_) (.inr hy)))
 refine assignInOrder_cons (wpAny_bindName (store_ok I5 hN hi (.inl hx) rv (fun s4 I6=>assignInOrder_nil (wpAny_pure ?_)) (.inr hx)))
 have e:((σ.set k (some u)).set j (some w)).set i (some v)=((σ.set i (some v)).set j (some w)).set k (some u):=by
  rw [List.set_comm _ _ (Ne.symm hij),List.set_comm _ _ (Ne.symm hik),List.set_comm _ _ (Ne.symm hjk)]
 rw [e]at I6
 exact⟨_,H1,I6,q1⟩
end
end L2
namespace MI
open PySem L2
noncomputable def okSw3(sc:Scope)(x y z:Str)(px py pz:Pos)(vs:List Expr):Bool:=decide (sc.names.lookup x=some .local)&&(decide (sc.names.lookup y=some .local)&&(decide (sc.names.lookup z=some .local)&&(py.line==px.line&&(pz.line==px.line&&(decide (([x,y,z]:List Str).eraseDups.length=3)&&(!vs.all (foldedForSure 8)&& !vs.all (constantsAlone 8)))))))
theorem swapped3{sc:Scope}{x y z:Str}{px py pz:Pos}{kt:Nat}{pt p2:Pos}{k2:Nat}{a b d:Expr}{env:PySem.Env}(hb:env.blockKind=.function)(oa:okE a=true)(ob:okE b=true)(od:okE d=true)(hsc:env.scope=sc)(h:okSw3 sc x y z px py pz [a,b,d]=true):
 swappedStores [.Tuple [.Name x px,.Name y py,.Name z pz] kt pt] (.Tuple [a,b,d] k2 p2) env=pure (some [x,y,z])∧sc.names.lookup x=some .local∧sc.names.lookup y=some .local∧sc.names.lookup z=some .local:=by
 subst hsc
 unfold okSw3 at h
 simp only [Bool.and_eq_true,decide_eq_true_eq,Bool.not_eq_true',beq_iff_eq]at h
 obtain⟨cx,cy,cz,l1,l2,ed,f1,f2⟩:=h
 refine⟨?_,cx,cy,cz⟩
 have key:∀(p:Expr→Bool),(∀e,okE e=true→p e=false)→¬([a,b,d].any p)=true:=by intro p hp;simp [hp a oa,hp b ob,hp d od]
 have kx:env.kindOf x=env.scope.names.lookup x:=rfl
 have ky:env.kindOf y=env.scope.names.lookup y:=rfl
 have kz:env.kindOf z=env.scope.names.lookup z:=rfl
 unfold swappedStores
 simp only [hb]
 rw [if_neg (by simp),if_neg (key _ (by intro e he;cases e<;>first|rfl|cases he))]
 simp only [List.head?_cons,Option.map_some,Option.getD_some,List.filterMap_cons,List.filterMap_nil]
 have e0:Expr.pos (.Name x px)=px:=rfl
 simp only [e0,kx,ky,kz,cx,cy,cz,l1,l2,beq_self_eq_true,Bool.and_self,if_true]
 rw [if_neg (by rw [ed];simp),if_neg (by rw [f1];exact Bool.false_ne_true),if_neg (by rw [f2];exact Bool.false_ne_true)]
section
variable{K:PySem.W.Frag}{cl:Nat→Option Addr}{Γ:Tab}{Δ:IOT}{pio:Option Nat}{En:Ends}{σ:St}{H:Hp}
theorem s_par3{i j k:Nat}{m l q:E}(h:tS K cl Γ Δ pio (.asg3 i j k m l q) En σ H):tPar3 i j k (tCons (tX K cl Γ pio m) (tCons (tX K cl Γ pio l) (tCons (tX K cl Γ pio q) tNil))) En σ H:=by
 obtain⟨H₀,G₀,io,F,A,env,n,fl,env',hp,hl,R,e,po⟩:=h
 have e':(if okI pio env i&&okI pio env j&&okI pio env k&&decide (i≠j∧i≠k∧j≠k)then(evX Γ pio m env).bind fun r=>(evX Γ pio l r.2).bind fun p=>(evX Γ pio q p.2).map fun o=>(Fl.nx,((o.2.set i (some r.1)).set j (some p.1)).set k (some o.1))else none)=some (fl,env'):=e
 split at e'
 ·rename_i ok
  obtain⟨ok,hd⟩:=(Bool.and_eq_true _ _).mp ok
  obtain⟨ok,ok3⟩:=(Bool.and_eq_true _ _).mp ok
  obtain⟨ok1,ok2⟩:=(Bool.and_eq_true _ _).mp ok
  obtain⟨hij,hik,hjk⟩:=of_decide_eq_true hd
  obtain⟨r,h1,e'⟩:=bsi e'
  obtain⟨p,h2,e'⟩:=bsi e'
  obtain⟨⟨t3,env3⟩,h3,e'⟩:=msi e'
  cases e'
  have key:=two_X (i:=i) (j:=j) (Q:=fun v w H2=>tX K cl Γ pio q σ H2 fun u H3=>En.nx (((σ.set i (some v)).set j (some w)).set k (some u)) H3) ⟨H₀,G₀,io,F,A,env,r,p,hp,hl,R,h1,h2,fun v w H' F' A' B C l1 sf R' o1 o2 n1 n2 d1 d2=> ?_⟩
  ·obtain⟨a1,a2,a3,a4,a5,a6,a7,a8,a9,b1,b2,b3,q1⟩:=key
   refine⟨a1,a2,a3,a4,a5,a6,a7,a8,a9,b1,b2,b3,fun v H1 F1 A1 B l1 g R1 ot nd nw=> ?_⟩
   obtain⟨c1,c2,c3,c4,c5,c6,c7,c8,c9,e1,e2,e3,q2⟩:=q1 v H1 F1 A1 B l1 g R1 ot nd nw
   refine⟨c1,c2,c3,c4,c5,c6,c7,c8,c9,e1,e2,e3,fun w H2 F2 A2 C l2 g2 R2 ot2 nd2 nw2=> ?_⟩
   obtain⟨f1,f2,f3,f4,f5,f6,f7,f8,f9,g1',g2',g3',q3⟩:=q2 w H2 F2 A2 C l2 g2 R2 ot2 nd2 nw2
   exact⟨f1,f2,f3,f4,f5,f6,f7,f8,f9,g1',g2',g3',fun u H3 F3 A3 D l3 g3 R3 ot3 nd3 nw3=>⟨v,w,u,rfl,q3 u H3 F3 A3 D l3 g3 R3 ot3 nd3 nw3⟩⟩
  ·refine⟨H₀,G₀,io,F',A',p.2,t3,env3,hp,l1,R',h3,fun u H3 F3 A3 D l3 g3 R3 o3 n3 nw3=> ?_⟩
   have i1:=(okI_ok ok1).2
   have i2:=(okI_ok ok2).2
   have i3:=(okI_ok ok3).2
   have mv:∀ {x:V} {t:T} {B:List Addr},OT K cl F' H' x t B→(∀a∈B,∀j,a∉A' j)→OT K cl F3 H3 x t B:=fun {x t B} o d=>o.move g3.ff (fun a ha=>by
    cases z:F3 a with
    |none=>rfl
    |some y=>
     rcases g3.nw a y z (o.free a ha).1 with⟨j,z⟩|z
     ·exact absurd z (d a ha j)
     ·obtain⟨o',z'⟩:=(o.free a ha).2
      rw [z]at z';cases z') fun a _ y z=>g3.hh _ _ z
   have hD:∀ {x:V} {t:T} {B:List Addr},OT K cl F' H' x t B→∀a∈B,a∉D:=fun {x t B} o a ha z=>by
    obtain⟨o',z'⟩:=(o.free a ha).2
    rw [nw3 a z]at z';cases z'
   have x1:∀a∈B,∀j,a∉A3 j:=fun a ha j z=>(d1 a ha).2.2 j (g3.aa j a z)
   have x2:∀a∈C,∀j,a∉A3 j:=fun a ha j z=>(d2 a ha).2 j (g3.aa j a z)
   have x3:∀a∈D,∀j,a∉A3 j:=fun a ha j z=>by
    obtain⟨_,o,z'⟩:=R'.at_ (g3.aa j a z)
    rw [nw3 a ha]at z';cases z'
   have R4:=R3.store (hp.ne (okI_ok ok1).1) (by omega) l3 (mv o1 fun a ha=>(d1 a ha).2.2) n1 (fun m a _ z1 z2=>x1 a z2 m z1) fun a ha=>(d1 a ha).1
   have R5:=R4.store (hp.ne (okI_ok ok2).1) (i:=j) (by simp;omega) (by simpa using l3) (mv o2 fun a ha=>(d2 a ha).2) n2 (fun m a _ z1 z2=>by
    have z1':a∈(if m=i then B else A3 m):=z1
    split at z1'
    ·exact(d1 a z1').2.1 z2
    ·exact x2 a z2 m z1') fun a ha=>(d2 a ha).1
   have R6:=R5.store (hp.ne (okI_ok ok3).1) (i:=k) (by simp;omega) (by simpa using l3) o3 n3 (fun m a _ z1 z2=>by
    have z1':a∈(if m=j then C else if m=i then B else A3 m):=z1
    split at z1'
    ·exact hD o2 a z1' z2
    ·split at z1'
     ·exact hD o1 a z1' z2
     ·exact x3 a z2 m z1') fun a ha=>R'.new (nw3 a ha)
   refine po _ _ F3 _ (by simpa using l3) (by simp) (fun m hm=> ?_) (sf.trans g3.ff) R6
   have hm':m∉[i,j,k]:=hm
   rw [List.getElem?_set_ne (fun z=>hm' (by simp [z])),List.getElem?_set_ne (fun z=>hm' (by simp [z])),List.getElem?_set_ne (fun z=>hm' (by simp [z]))]
 ·cases e'
end
end MI
end
noncomputable section
namespace MI
open PySem L2
noncomputable def tBoth(g:List D→Option (T×List D))(K:PySem.W.Frag)(cl:Nat→Option Addr):TE:=tCall (spIO K cl 1 g) [] E0 (tCons (tVar 0) (tCons (tVar 1) tNil))
noncomputable def rAll(K:PySem.W.Frag):List V→Hp→VK→Prop:=fun xs H Q=>∃(p:Addr) (bs:List Bool),xs=[.ref p]∧SqL K H p (bs.map V.bl)∧Q (.bl (bs.all id)) H
section
variable{K:PySem.W.Frag}{cl:Nat→Option Addr}{Γ:Tab}{Δ:IOT}{pio:Option Nat}{En:Ends}{σ:St}{H:Hp}
theorem s_retAll{f i:Nat}{it:E}{g:List D→Option (T×List D)}{is:List Nat}(hΔ:Δ f=some (1,g))(his:is.head?=some i)(h:tS K cl Γ Δ pio (.retAll f i it) En σ H):tRet (tCB (rAll K) (tCons (tComp (tI K cl Γ it) is tTrue (tBoth g K cl)) tNil)) En σ H:=by
 obtain⟨H₀,G₀,io,F,A,env,n,fl,env',hp,hl,R,e,po⟩:=h
 have e':(if(1:Nat)=1∧pio≠some i then(itX Γ pio it env).bind fun r=>(owAt r.2 i).bind fun ts=>(unsh ts).bind fun ms=>if ms.all scal&&sz r.1.length then(allL g r.1 ms).map fun b=>(Fl.rt (.sh (.bl b)),r.2.set i none)else none else none)=some (fl,env'):=by
  rw [←e]
  show _=(Δ f).bind _
  rw [hΔ]
  rfl
 split at e'
 ·rename_i hpi
  obtain⟨⟨ds,env1⟩,h1,e2⟩:=bsi e'
  clear e' e
  obtain⟨ts,h2,e3⟩:=bsi e2
  clear e2
  obtain⟨ms,h3,e4⟩:=bsi e3
  clear e3
  have:=unsh_eq h3
  subst this
  split at e4
  ·rename_i hz
   obtain⟨hs,hz⟩:=(Bool.and_eq_true _ _).mp hz
   obtain⟨b,h4,e5⟩:=msi e4
   clear e4
   cases e5
   have hzl:ds.length≤1000000:=of_decide_eq_true hz
   refine it_X hp hl R h1 fun J H1 F1 A1 l1 sf R1 wk Dl hD=> ?_
   obtain⟨p,xs,B,_,hσ,hA,hx,fp,os⟩:=R1.own h2
   obtain⟨dx,hB⟩:=os.unsh
   have R2:=R1.drop i (hp.ne hpi.2)
   have pH0:H₀ p=none:=by
    rcases R1.anew i p (by rw [hA];simp)with⟨q,z⟩|z
    ·obtain⟨B',z'⟩:=R1.iok q p z
     by_cases hqi:q=i
     ·exact absurd (hp _ _ z) (by rw [hqi];exact hpi.2)
     ·exact(R1.dj q i p hqi (by rw [z'];simp) (by rw [hA];simp)).elim
    ·exact z
   have pA:∀j,p∉(fun j=>if j=i then []else A1 j) j:=fun j z=>by
    have z':p∈(if j=i then []else A1 j):=z
    split at z'
    ·simp at z'
    ·rename_i hj
     exact R1.dj j i p hj z' (by rw [hA];simp)
   have dA:∀j,Dl∉(fun j=>if j=i then []else A1 j) j:=fun j z=>by
    have z':Dl∈(if j=i then []else A1 j):=z
    split at z'
    ·simp at z'
    ·obtain⟨_,o,z2⟩:=R1.at_ z'
     rw [hD]at z2;cases z2
   have dH0:H₀ Dl=none:=R1.new hD
   have dF:F1 Dl=none:=R1.fh.free hD
   have hpD:p≠Dl:=fun z=>by rw [z,hD]at hx;cases hx
   have R3:=R2.poke dF dH0 dA (.lst [])
   refine⟨fun k m H2=>m=ds.length-k∧k≤ds.length∧∃F2 ms bs xs q,Same F1 F2∧Rep K cl H₀ G₀ io F2 (fun j=>if j=i then []else A1 j) σ (env1.set i none) H2∧H2 p=some (.lst xs)∧F2 p=none∧Dns K cl F2 xs ms∧ms.all scal=true∧H2 Dl=some (.lst (bs.map V.bl))∧F2 Dl=none∧bs.length=k∧allL g (ds.drop k) ms=some q∧(bs.all id&&q)=b,⟨ds.length,by simp,Nat.zero_le _,F1,ms,[],xs,b,.refl _,R3,by rw [upd_ne hpD];exact hx,fp,dx,hs,upd_same,dF,rfl,h4,by simp⟩,?_⟩
   rintro k m H2 ⟨rfl,hk,F2,ms,bs,xs,q,s2,R4,hx,fp,dx,hs,hd,dF,hb,hq,he⟩
   obtain⟨w1,w2⟩:=wk H2 F2 k s2 R4.fh
   by_cases hlt:k<ds.length
   ·have hdk:ds[k]?=some ds[k]:=List.getElem?_eq_getElem hlt
    obtain⟨go,y⟩:=w2 _ hdk
    refine .inr ⟨go,fun v H3 yl=> ?_⟩
    obtain⟨F3,x3,d3⟩:=y v H3 yl
    have R5:=R4.ext x3
    have hx3:=x3.hh _ _ hx
    have hd3:=x3.hh _ _ hd
    have fp3:F3 p=none:=by
     cases z:F3 p with
     |none=>rfl
     |some o=>have:=x3.nw p o z fp;rw [hx]at this;cases this
    have dF3:F3 Dl=none:=by
     cases z:F3 Dl with
     |none=>rfl
     |some o=>have:=x3.nw Dl o z dF;rw [hd]at this;cases this
    rw [List.drop_eq_getElem_cons hlt]at hq
    obtain⟨⟨t1,ms'⟩,g1,hq⟩:=bsi (show(g [ds[k],.lst ms]).bind (fun p=>match p.1 with
     | .sh (.bl b)=>if p.2.all scal then(allL g (ds.drop (k+1)) p.2).map (b&&·)else none
     |_=>none)=some q from hq)
    dsimp only at hq
    split at hq
    ·rename_i b1
     split at hq
     ·rename_i hs'
      obtain⟨q',hq',hqq⟩:=msi hq
      unfold tTrue
      simp only [if_true]
      refine⟨v,rfl,.ref p,?_,?_⟩
      ·show((is.map fun k=>(σ[k]?).join)[0]?)=some (some (.ref p))
       cases is with
       |nil=>cases his
       |cons i0 r=>
        cases his
        show some ((σ[i]?).join)=_
        rw [hσ];rfl
      ·refine⟨F3,[ds[k],.lst ms],p,xs,ms,.sh (.bl b1),ms',R5.fh,rfl,rfl,rfl,hx3,fp3,dx.mono x3.gg,fun j u d hj h5 h6=> ?_,g1,rfl,hs,hs',fun u H' G' xs' B' kp gg gh nw hx' dx' ot nd nwB=> ?_⟩
       ·cases j with
        |zero=>cases h5;cases h6;exact d3
        |succ j=>
         cases j with
         |zero=>exact absurd rfl hj
         |succ j=>cases h5
       ·cases ot with|sh du=>
        cases du
        have gD:G' Dl=none:=by
         cases z:G' Dl with
         |none=>rfl
         |some o=>have:=nw Dl o z dF3;rw [hd3]at this;cases this
        have gp:G' p=none:=by
         cases z:G' p with
         |none=>rfl
         |some o=>have:=nw p o z fp3;rw [hx3]at this;cases this
        have R6:=(R5.poke fp3 pH0 pA (.lst xs')).grow (H':=H') (F':=G') (fun b o z=>by
         by_cases hbp:b=p
         ·subst hbp
          rw [upd_same]at z
          cases z;exact hx'
         ·rw [upd_ne hbp]at z
          exact kp b o hbp z) gg gh fun b o z1 z2=>by
         have z3:=nw b o z1 z2
         rw [upd_ne (fun z=>by rw [z,hx3]at z3;cases z3)]
         exact z3
        refine⟨bs.map V.bl,kp _ _ (Ne.symm hpD) hd3,by rw [List.length_map,hb,sizeLine_eq];omega,ds.length-(k+1),by omega,rfl,hlt,G',ms',bs++[b1],xs',q',s2.trans (x3.gg.trans gg),R6.poke gD dH0 dA _,by rw [upd_ne hpD];exact hx',gp,dx',hs',by rw [upd_same];simp,gD,by simp [hb],hq',?_⟩
        rw [←he,←hqq,List.all_append]
        simp [Bool.and_assoc]
     ·cases hq
    ·cases hq
   ·have hkn:k=ds.length:=by omega
    refine .inl ⟨w1 hkn,Dl,bs,rfl,SqL.of hd,?_⟩
    rw [hkn,List.drop_length]at hq
    cases hq
    rw [Bool.and_true]at he
    rw [he]
    exact po σ H2 F2 _ (by simpa using l1) rfl (fun _ _=>rfl) (sf.trans s2) R4 (.bl b) [] (.sh (.bl b)) List.nodup_nil (by simp) (by simp)
  ·cases e4
 ·cases e'
end
end MI
end
noncomputable section
namespace MI
open PySem L2
structure CS where
 cc:CC
 iot:List (Str×Nat×Nat)
noncomputable def cIo(c:CS)(n:Nat)(N:List Str)(sc:Scope)(e:Expr):Option (Nat×Nat×E):=match e with
 | .Call (.Name x _) args [] _=>if args.all okE&&isGl N sc x&& !args.isEmpty then(c.iot.lookup x).bind fun fk=>(cList (cE c.cc n true N sc) args).bind fun m=>((args[fk.2]?).bind fun a=>match a with
    | .Name y _=>nIdx N y
    |_=>none).map fun i=>(fk.1,i,m)else none
 |_=>none
noncomputable def cM(c:CS)(n:Nat)(N:List Str)(sc:Scope)(o:Expr)(m:Str)(args:List Expr):Option S:=match o,args with
 | .Name x _,[a]=>if m==("append":Str)then(if okN x then(nIdx N x).bind fun i=>(cE c.cc n true N sc a).map (.app i)else none)else none
 | .Name x _,[k,a]=>if m==("insert":Str)then(if okN x then(nIdx N x).bind fun i=>(cE c.cc n true N sc k).bind fun mk=>(cE c.cc n true N sc a).map fun ma=> .ins i mk ma else none)else none
 | .Attribute (.Name x _) f _,[a]=>if m==("append":Str)&&okN x&&FLD.contains f then(nIdx N x).bind fun i=>(cE c.cc n true N sc a).map (.appF i f)else none
 |_,_=>none
noncomputable def cX(c:CS)(n:Nat)(N:List Str)(sc:Scope)(e:Expr):Option S:=match e with
 | .Call (.Attribute o m apos) args [] cpos=>if args.all okE&&isBm apos cpos&&attrOk o then cM c n N sc o m args else none
 | .Call (.Name x p) args [] q=>(cE c.cc n true N sc (.Call (.Name x p) args [] q)).map .drop
 |_=>none
noncomputable def cTio(c:CS)(n:Nat)(N:List Str)(sc:Scope)(e:Expr):Option (Bool×Nat×Nat×E):=match e with
 | .UnaryOp .Not a _=>(cIo c n N sc a).map fun r=>(true,r)
 |a=>(cIo c n N sc a).map fun r=>(false,r)
noncomputable def okSw(sc:Scope)(ts:List (Str×Pos))(vs:List Expr):Option Bool:=match ts with
 |[(x,px),(y,py)]=>if decide (sc.names.lookup x=some .local)&&decide (sc.names.lookup y=some .local)&&px.line==py.line then(if vs.all (foldedForSure 8)then some false else if vs.all (constantsAlone 8)then none else some true)else some false
 |_=>none
noncomputable def cNm(N:List Str):List Expr→Option (List Nat)
 |[]=>some []
 | .Name x _::r=>if okN x then(nIdx N x).bind fun i=>(cNm N r).map fun l=>i::l else none
 |_=>none
noncomputable def cNames(N:List Str):Expr→Option (List Nat)
 | .Tuple es _ _=>cNm N es
 |_=>none
noncomputable def cAll(c:CS)(n:Nat)(N:List Str)(sc:Scope)(e:Expr):Option (Nat×Nat×E):=match e with
 | .Call (.Name a _) [.ListComp (.Call (.Name g _) [e1,e2] [] _) [⟨.Name x _,iter,[],0⟩] scope _] [] _=>
   if isGl N sc a&&(a==("all":Str))&&okE iter&&(okE e1&&okE e2)then(c.iot.lookup g).bind fun fk=>if fk.2==1&&isGl (x::frees scope.names) scope g then
    (slotsOf N (frees scope.names)).bind fun is=>if compOk sc N scope x (frees scope.names) is then
      (cE c.cc n false (x::frees scope.names) scope e1).bind fun m1=>(cE c.cc n false (x::frees scope.names) scope e2).bind fun m2=>if isVar m1 0&&isVar m2 1 then
        (is.head?).bind fun i=>(cI false (isGl N sc) (fun y=>(c.cc.tab.lookup y).isSome) (cE c.cc n true N sc) iter).map fun mi=>(fk.1,i,mi)else none
    else none else none else none
 |_=>none
noncomputable def cAs(c:CS)(n:Nat)(N:List Str)(sc:Scope)(ts:List Expr)(e:Expr):Option S:=match ts with
 |[.Name x px]=>if okN x then(nIdx N x).bind fun i=>(cE c.cc n true N sc e).map (.asg i)else none
 |[.Tuple [.Name x px,.Name y py] _ _]=>(match e with
  | .Tuple [a,b] _ _=>if okN x&&okN y&&okE a&&okE b then(nIdx N x).bind fun i=>(nIdx N y).bind fun j=>(cE c.cc n true N sc a).bind fun m=>(cE c.cc n true N sc b).bind fun l=>(okSw sc [(x,px),(y,py)] [a,b]).map fun _=> .asg2 i j m l else none
  |_=>none)
 |[.Tuple [.Name x px,.Name y py,.Name z pz] _ _]=>(match e with
  | .Tuple [a,b,d] _ _=>if okE a&&okE b&&okE d&&okSw3 sc x y z px py pz [a,b,d]then(nIdx N x).bind fun i=>(nIdx N y).bind fun j=>(nIdx N z).bind fun k=>(cE c.cc n true N sc a).bind fun m=>(cE c.cc n true N sc b).bind fun l=>(cE c.cc n true N sc d).map fun q=> .asg3 i j k m l q else none
  |_=>none)
 |[.Subscript (.Name x _) k _]=>if okN x&&okE k&& !isComp e then(nIdx N x).bind fun i=>(cE c.cc n true N sc k).bind fun mk=>(cE c.cc n true N sc e).map fun m=> .set i mk m else none
 |[.Attribute (.Name x _) f _]=>if okN x&&FLD.contains f&& !isComp e then(nIdx N x).bind fun i=>(cE c.cc n true N sc e).map (.fst i f)else none
 |_=>none
noncomputable def cIs(c:CS)(n:Nat)(N:List Str)(sc:Scope)(rc:List Stmt→Option S)(t:Expr)(a b:List Stmt):Option S:=(rc a).bind fun ma=>(rc b).bind fun mb=>match cTio c n N sc t with
 |some (ng,f,i,m)=>some (.ifio ng f i m ma mb)
 |none=>if okT t then(cE c.cc n true N sc t).map fun mt=> .ife mt ma mb else none
noncomputable def cFo(c:CS)(n:Nat)(N:List Str)(sc:Scope)(rc:List Stmt→Option S)(t it:Expr)(body:List Stmt):Option S:=match t with
 | .Name x _=>if okN x&&okE it then(nIdx N x).bind fun i=>(cI false (isGl N sc) (fun y=>(c.cc.tab.lookup y).isSome) (cE c.cc n true N sc) it).bind fun mi=>(rc body).map fun mb=> .for1 i mi mb else none
 | .Tuple [.Name x _,.Name y _] _ _=>if okN x&&okN y&&okE it then(nIdx N x).bind fun i=>(nIdx N y).bind fun j=>(cI true (isGl N sc) (fun y=>(c.cc.tab.lookup y).isSome) (cE c.cc n true N sc) it).bind fun mi=>(rc body).map fun mb=> .for2 i j mi mb else none
 |_=>none
noncomputable def noEls(els:List Stmt)(o:Option S):Option S:=match els with
 |[]=>o
 |_=>none
noncomputable def cRe(c:CS)(n:Nat)(N:List Str)(sc:Scope)(o:Option Expr):Option S:=match o with
 |some e=>(match cCpy c.cc n N sc e with
  |some m=>some (.retC m)
  |none=>(match cAll c n N sc e with
   |some (f,i,m)=>some (.retAll f i m)
   |none=>(cE c.cc n true N sc e).map .ret))
 |none=>some .retN
noncomputable def cS1(c:CS)(n:Nat)(N:List Str)(sc:Scope)(rc:List Stmt→Option S)(st:Stmt):Option S:=match st with
 | .Pass _=>some .nop
 | .Expr e _=>cX c n N sc e
 | .Assign ts e _=>cAs c n N sc ts e
 | .If t a b _=>cIs c n N sc rc t a b
 | .For t it body els _=>noEls els (cFo c n N sc rc t it body)
 | .Return o _=>cRe c n N sc o
 | .Raise _ _ _=>some .raise
 |_=>none
noncomputable def cSt(c:CS):Nat→List Str→Scope→List Stmt→Option S
 |0,_,_,_=>none
 |n+1,N,sc,l=>match l with
  |[]=>some .nop
  |st::rest=>(cS1 c n N sc (cSt c n N sc) st).bind fun a=>(cSt c n N sc rest).map fun b=> .seq a b
structure SSees(X:Cx)(cl:Nat→Option Addr)(c:CS)(Γ:Tab)(Δ:IOT)(N:List Str)(sc:Scope):Prop where
 S:Sees X cl c.cc Γ true N sc
 hΓ:∀x f,c.cc.tab.lookup x=some f→∃g,Γ f=some g
 nd:N.Nodup
 loc:∀(i:Nat) (x:Str),N[i]?=some x→Loc X.env.scope x
 fn:∀x,X.fn x=true
 kd:X.env.scope.kind=.function
 pw:PassesOwn (model X.prog X.w) X.A X.env X.xe
 io:∀x f k,c.iot.lookup x=some (f,k)→∃g,Δ f=some (k,g)∧GoodIO X cl x k g
noncomputable def PSI(X:Cx)(st:Stmt)(t t':TS):Prop:=True
theorem psI{X:Cx}{st:Stmt}{t t':TS}(h:PS X st t)(i:∀D σ H,t' D σ H→t D σ H):PS X st t':=fun pins s σ H D I q=>h pins s σ H D I (i D σ H q)
theorem pssI{X:Cx}{st:List Stmt}{t t':TS}(h:PSs X st t)(i:∀D σ H,t' D σ H→t D σ H):PSs X st t':=fun pins s σ H D I q=>h pins s σ H D I (i D σ H q)
section
variable{X:Cx}{cl:Nat→Option Addr}{c:CS}{Γ:Tab}{Δ:IOT}{pio:Option Nat}{N:List Str}{sc:Scope}
theorem SSees.bk(S:SSees X cl c Γ Δ N sc):X.env.blockKind=.function:=by unfold PySem.Env.blockKind;rw [S.kd];rfl
theorem cio_ok(S:SSees X cl c Γ Δ N sc){n:Nat}{e:Expr}{f i:Nat}{m:E}(h:cIo c n N sc e=some (f,i,m)):PE X e (tIOC X.K cl Γ Δ pio f i m):=by
 unfold cIo at h
 split at h
 ·rename_i x p args q
  split at h
  ·rename_i ok
   obtain⟨ok,ne⟩:=(Bool.and_eq_true _ _).mp ok
   obtain⟨ok,gx⟩:=(Bool.and_eq_true _ _).mp ok
   obtain⟨⟨f',k⟩,h1,h⟩:=bsi h
   obtain⟨m',h2,h⟩:=bsi h
   obtain⟨i',h3,h4⟩:=msi h
   cases h4
   obtain⟨g,hg,G⟩:=S.io x _ _ h1
   obtain⟨o1,g1⟩:=isGl_ok gx
   cases args with
   |nil=>cases ne
   |cons e es=>exact pe_ioc (S.S.gl x g1) (okN_ok o1).1 G hg (pa_io (fun e i h=>var_inv S.S h) (fun e m h=>(cE_ok S.hΓ n true N sc e m X S.S h).1) ok h2) ok
  ·cases h
 ·cases h
theorem base_ok{o:Expr}(h:attrOk o=true)(name:Str)(env:PySem.Env):attributeBase o name env (eval o env)=eval o env:=by
 unfold attributeBase
 split
 ·rename_i id p pos
  cases h
 ·rfl
theorem pe_meth1{o a:Expr}{m:Str}{id:String}{r:V→List V→Hp→VK→Prop}{to ta:TE}{apos cpos:Pos}(slot:Slot "list" m id)(hty:typeOf (.builtin id)=pure (.type "method_descriptor"))(hm:MtR X id r)(ho:PE X o to)(ha:PE X a ta)(oa:okE a=true)(bm:isBm apos cpos=true)(ao:attrOk o=true):
 PE X (.Call (.Attribute o m apos) [a] [] cpos) (tBM X.K "list" r to (tCons ta tNil)):=
 pe_bm PySem.F.plainAttrs_list slot hty hm ho (pa_cons ha pa_nil (star_of oa _ _)) (base_ok ao _ _) (few_ok (es:=[a]) (by rw [List.all_cons,oa];rfl) _ _ (by simp)) bm (star_of oa _ _) rfl
theorem pe_meth2{o a b:Expr}{m:Str}{id:String}{r:V→List V→Hp→VK→Prop}{to ta tb:TE}{apos cpos:Pos}(slot:Slot "list" m id)(hty:typeOf (.builtin id)=pure (.type "method_descriptor"))(hm:MtR X id r)(ho:PE X o to)(ha:PE X a ta)(hb:PE X b tb)(oa:okE a=true)(ob:okE b=true)(bm:isBm apos cpos=true)(ao:attrOk o=true):
 PE X (.Call (.Attribute o m apos) [a,b] [] cpos) (tBM X.K "list" r to (tCons ta (tCons tb tNil))):=
 pe_bm PySem.F.plainAttrs_list slot hty hm ho (pa_cons ha (pa_cons hb pa_nil (star_of ob _ _)) (star_of oa _ _)) (base_ok ao _ _) (few_ok (es:=[a,b]) (by rw [List.all_cons,List.all_cons,oa,ob];rfl) _ _ (by simp)) bm (star_of oa _ _) (star_any (es:=[b]) (by rw [List.all_cons,ob];rfl) _ _)
end
end MI
end
noncomputable section
namespace MI
open PySem L2
section
variable{X:Cx}{cl:Nat→Option Addr}{c:CS}{Γ:Tab}{Δ:IOT}{pio:Option Nat}{N:List Str}{sc:Scope}
theorem SSees.pv(S:SSees X cl c Γ Δ N sc){x:Str}{i:Nat}{p:Pos}(ok:okN x=true)(h:nIdx N x=some i):PE X (.Name x p) (tVar i):=by
 have hN:=nIdx_get h
 obtain⟨n1,n2,n3⟩:=okN_ok ok
 exact pe_var (by rw [S.S.hN];exact hN) (S.S.vis i x hN) n1 n2
theorem SSees.pg(S:SSees X cl c Γ Δ N sc){x:Str}{i:Nat}{p:Pos}(h:nIdx N x=some i):PG X (.Name x p) (gName i):=by
 have hN:=nIdx_get h
 exact pg_name (i:=i) (by rw [S.S.hN];exact S.nd) (by rw [S.S.hN];exact hN) (S.loc i x hN) (.inl (S.fn x))
theorem cM_ok(S:SSees X cl c Γ Δ N sc){n:Nat}{o:Expr}{m:Str}{args:List Expr}{s:MI.S}{apos cpos pos:Pos}(ok:args.all okE=true)(bm:isBm apos cpos=true)(ao:attrOk o=true)(h:cM c n N sc o m args=some s):
 PS X (.Expr (.Call (.Attribute o m apos) args [] cpos) pos) (tS X.K cl Γ Δ pio s):=by
 have pe:=fun e m (h:cE c.cc n true N sc e=some m)=>(cE_ok S.hΓ n true N sc e m X S.S h).1
 have px:=fun e m (h:cE c.cc n true N sc e=some m)=>evX_ok (pio:=pio) S.hΓ S.S h
 unfold cM at h
 split at h
 ·rename_i x p a
  rw [List.all_cons,Bool.and_eq_true]at ok
  split at h
  ·rename_i hm
   have hm:m="append":=by simpa using hm
   subst hm
   split at h
   ·rename_i ox
    obtain⟨i,hi,h⟩:=bsi h
    obtain⟨ma,h1,rfl⟩:=msi h
    exact psI (ps_expr (pe_meth1 PySem.F.slot_list_append PySem.F.type_list_append mt_append (S.pv ox hi) (px a ma h1) ok.1 bm ao) rfl) fun D σ H q=>s_app q
   ·cases h
  ·cases h
 ·rename_i x p k a
  rw [List.all_cons,Bool.and_eq_true,List.all_cons,Bool.and_eq_true]at ok
  split at h
  ·rename_i hm
   have hm:m="insert":=by simpa using hm
   subst hm
   split at h
   ·rename_i ox
    obtain⟨i,hi,h⟩:=bsi h
    obtain⟨mk,h1,h⟩:=bsi h
    obtain⟨ma,h2,rfl⟩:=msi h
    exact psI (ps_expr (pe_meth2 PySem.F.slot_list_insert PySem.F.type_list_insert mt_insert (S.pv ox hi) (pe k mk h1) (pe a ma h2) ok.1 ok.2.1 bm ao) rfl) fun D σ H q=>s_ins q
   ·cases h
  ·cases h
 ·rename_i x p f p2 a
  rw [List.all_cons,Bool.and_eq_true]at ok
  split at h
  ·rename_i hm
   obtain⟨hm,hf⟩:=(Bool.and_eq_true _ _).mp hm
   obtain⟨hm,ox⟩:=(Bool.and_eq_true _ _).mp hm
   have hm:m="append":=by simpa using hm
   subst hm
   obtain⟨i,hi,h⟩:=bsi h
   obtain⟨ma,h1,rfl⟩:=msi h
   exact psI (ps_expr (pe_meth1 PySem.F.slot_list_append PySem.F.type_list_append mt_append (pe_fld (S.pv ox hi) rfl) (px a ma h1) ok.1 bm ao) rfl) fun D σ H q=>s_appF S.S.cls hf q
  ·cases h
 ·cases h
theorem cX_ok(S:SSees X cl c Γ Δ N sc){n:Nat}{e:Expr}{s:MI.S}{pos:Pos}(h:cX c n N sc e=some s):PS X (.Expr e pos) (tS X.K cl Γ Δ pio s):=by
 unfold cX at h
 split at h
 ·rename_i o m apos args cpos
  split at h
  ·rename_i ok
   obtain⟨ok,ao⟩:=(Bool.and_eq_true _ _).mp ok
   obtain⟨ok,bm⟩:=(Bool.and_eq_true _ _).mp ok
   exact cM_ok S ok bm ao h
  ·cases h
 ·rename_i x p args q
  obtain⟨m,h1,rfl⟩:=msi h
  exact psI (ps_expr (evX_ok (pio:=pio) S.hΓ S.S h1) rfl) fun D σ H q=>s_drop q
 ·cases h
theorem cTio_ok(S:SSees X cl c Γ Δ N sc){n:Nat}{e:Expr}{ng:Bool}{f i:Nat}{m:E}(h:cTio c n N sc e=some (ng,f,i,m)):PT X e (tNotIf ng (tIOC X.K cl Γ Δ pio f i m)):=by
 have plain:∀ {e:Expr} {f i:Nat} {m:E},cIo c n N sc e=some (f,i,m)→PT X e (tB (tIOC X.K cl Γ Δ pio f i m)):=by
  intro e f i m h
  have hc:∃x p args q,e=.Call (.Name x p) args [] q:=by
   unfold cIo at h
   split at h
   ·exact⟨_,_,_,_,rfl⟩
   ·cases h
  obtain⟨x,p,args,q,rfl⟩:=hc
  exact pt_val (cio_ok (pio:=pio) S h) (by intro _;rfl)
 unfold cTio at h
 split at h
 ·rename_i a pos
  obtain⟨⟨f',i',m'⟩,h1,h2⟩:=msi h
  cases h2
  refine ptI (pt_not (plain h1)) fun σ H Q q=> ?_
  obtain⟨H₀,G₀,io,F,A,env,t,env',hp,hl,R,e1,q⟩:=q
  refine⟨H₀,G₀,io,F,A,env,t,env',hp,hl,R,e1,fun v H' A' B l1 R' ot nd nw=> ?_⟩
  obtain⟨b,e2,q2⟩:=q v H' A' B l1 R' ot nd nw
  refine⟨b,e2,?_⟩
  cases b<;>exact q2
 ·obtain⟨⟨f',i',m'⟩,h1,h2⟩:=msi h
  cases h2
  refine ptI (plain h1) fun σ H Q q=> ?_
  obtain⟨H₀,G₀,io,F,A,env,t,env',hp,hl,R,e1,q⟩:=q
  refine⟨H₀,G₀,io,F,A,env,t,env',hp,hl,R,e1,fun v H' A' B l1 R' ot nd nw=> ?_⟩
  obtain⟨b,e2,q2⟩:=q v H' A' B l1 R' ot nd nw
  refine⟨b,e2,?_⟩
  cases b<;>exact q2
@[simp] theorem pos_Name(x:Str)(p:Pos):(Expr.Name x p).pos=p:=rfl
theorem swapped_eq{x y:Str}{px py:Pos}{kt:Nat}{pt p2:Pos}{k2:Nat}{a b:Expr}{env:PySem.Env}{r:Bool}(hb:env.blockKind=.function)(oa:okE a=true)(ob:okE b=true)(hxy:x≠y)(hsc:env.scope=sc)(h:okSw sc [(x,px),(y,py)] [a,b]=some r):
 swappedStores [.Tuple [.Name x px,.Name y py] kt pt] (.Tuple [a,b] k2 p2) env=pure (if r then some [x,y]else none)∧(r=true→sc.names.lookup x=some .local∧sc.names.lookup y=some .local):=by
 subst hsc
 have key:∀(p:Expr→Bool),(∀e,okE e=true→p e=false)→¬([a,b].any p)=true:=by intro p hp;simp [hp a oa,hp b ob]
 have kx:env.kindOf x=env.scope.names.lookup x:=rfl
 have ky:env.kindOf y=env.scope.names.lookup y:=rfl
 unfold okSw at h
 simp only at h
 constructor
 ·unfold swappedStores
  simp only [hb]
  rw [if_neg (by simp),if_neg (key _ (by intro e he;cases e<;>first|rfl|cases he))]
  simp only [List.head?_cons,Option.map_some,Option.getD_some,pos_Name]
  by_cases cx:List.lookup x env.scope.names=some NameKind.local
  ·by_cases cy:List.lookup y env.scope.names=some NameKind.local
   ·by_cases cl:px.line=py.line
    ·rw [if_pos (by simp [cx,cy,cl])]at h
     have cl':py.line=px.line:=cl.symm
     have ed:([x,y]:List Str).eraseDups.length=2:=by
      rw [List.eraseDups_cons]
      simp [hxy,Ne.symm hxy,List.eraseDups_cons]
     simp only [List.filterMap_cons,List.filterMap_nil,kx,ky,cx,cy,cl',beq_self_eq_true,Bool.and_self,if_true]
     rw [if_neg (by rw [ed];simp)]
     split at h
     ·rename_i hf
      cases h
      rw [if_pos hf]
      rfl
     ·rename_i hf
      rw [if_neg hf]
      split at h
      ·cases h
      ·rename_i hk
       cases h
       rw [if_neg hk]
       rfl
    ·rw [if_neg (by simp [cl])]at h
     cases h
     have cl':(py.line==px.line)=false:=by simpa using fun z=>cl z.symm
     simp only [List.filterMap_cons,List.filterMap_nil,kx,ky,cx,cy,cl',beq_self_eq_true,Bool.and_self,Bool.and_false,if_true,Bool.false_eq_true,if_false]
     rfl
   ·rw [if_neg (by simp [cy])]at h
    cases h
    have cy':(List.lookup y env.scope.names==some NameKind.local)=false:=by simpa using cy
    simp only [List.filterMap_cons,List.filterMap_nil,kx,ky,cx,cy',beq_self_eq_true,Bool.and_self,Bool.false_and,if_true,Bool.false_eq_true,if_false]
    rfl
  ·rw [if_neg (by simp [cx])]at h
   cases h
   have cx':(List.lookup x env.scope.names==some NameKind.local)=false:=by simpa using cx
   simp only [List.filterMap_cons,List.filterMap_nil,kx,ky,cx',Bool.false_and,Bool.false_eq_true,if_false]
   cases hc:(List.lookup y env.scope.names==some NameKind.local&&py.line==px.line)
   ·rfl
   ·rfl
 ·intro hr
  subst hr
  split at h
  ·rename_i hc
   obtain⟨hc,_⟩:=(Bool.and_eq_true _ _).mp hc
   obtain⟨h1,h2⟩:=(Bool.and_eq_true _ _).mp hc
   exact⟨of_decide_eq_true h1,of_decide_eq_true h2⟩
  ·cases h
theorem cAll_ok(S:SSees X cl c Γ Δ N sc){n:Nat}{e:Expr}{f i:Nat}{m:E}{pos:Pos}(h:cAll c n N sc e=some (f,i,m)):PS X (.Return (some e) pos) (tS X.K cl Γ Δ pio (.retAll f i m)):=by
 have hsc:X.env.scope=sc:=S.S.tp rfl
 unfold cAll at h
 split at h
 ·rename_i a pa g pg e1 e2 pc x px iter scope pl p2
  split at h
  ·rename_i ok
   obtain⟨ok,o12⟩:=(Bool.and_eq_true _ _).mp ok
   obtain⟨o1,o2⟩:=(Bool.and_eq_true _ _).mp o12
   obtain⟨ok,oi⟩:=(Bool.and_eq_true _ _).mp ok
   obtain⟨ga,ha⟩:=(Bool.and_eq_true _ _).mp ok
   have ha:a="all":=by simpa using ha
   obtain⟨⟨f',k'⟩,hfk,h⟩:=bsi h
   split at h
   ·rename_i ok2
    obtain⟨hk,gg⟩:=(Bool.and_eq_true _ _).mp ok2
    have hk:k'=1:=by simpa using hk
    obtain⟨is,hsl,h⟩:=bsi h
    split at h
    ·rename_i cs
     have cs:=compOk_ok cs
     obtain⟨m1,h1,h⟩:=bsi h
     obtain⟨m2,h2,h⟩:=bsi h
     split at h
     ·rename_i hv
      obtain⟨v1,v2⟩:=(Bool.and_eq_true _ _).mp hv
      obtain⟨i',hh,h⟩:=bsi h
      obtain⟨mi,h3,h⟩:=msi h
      cases h
      rw [isVar_eq v1]at h1
      rw [isVar_eq v2]at h2
      subst hk
      subst ha
      obtain⟨G,hG,FF⟩:=S.io g f' 1 hfk
      obtain⟨r,fa,fd,ps,F1,F2,F3,F4,F5⟩:=FF.ex
      obtain⟨og,gg'⟩:=isGl_ok gg
      have ih1:∀e m,cE c.cc n true N sc e=some m→PE X e (tV X.K cl Γ m):=fun e m h=>(cE_ok S.hΓ n true N sc e m X S.S h).1
      have hi:PI X (.Name x px) iter (tI X.K cl Γ m):=ci_ok S.S ih1 (fun z=>by cases z) h3
      have he:∀C s H fp pins,PE (compCx X scope (x::frees scope.names) C s H fp pins) (.Call (.Name g pg) [e1,e2] [] pc) (tBoth G X.K cl):=fun C s H fp pins=>by
       have Sin:=S.S.comp cs C s H fp pins
       exact pe_call (X:=compCx X scope (x::frees scope.names) C s H fp pins) F1 F2 (Sin.gl g gg') F3 F4 F5 .nil pass0 (pa_cons (var_inv Sin h1) (pa_cons (var_inv Sin h2) pa_nil (star_of o2 _ _)) (star_of o1 _ _)) (okN_ok og).1 (star_of o1 _ _) (star_any (es:=[e2]) (by rw [List.all_cons,o2];rfl) _ _)
      have hfs:∀v,foldedSetIterable iter X.env v=pure v:=by intro v;cases iter<;>first|rfl|cases oi
      exact psI (ps_ret (pe_callB (call_all_bl S.S.calm) (S.S.gl _ (isGl_ok ga).2) (S.S.blt _ (by decide+kernel)) bt_all (pa_cons (pe_compI S.S.calm hi (fun _ _ _ _ _=>pts_nil) he cs hsc S.S.hN hfs) pa_nil rfl) (by decide) (by decide) rfl rfl)) fun D σ H q=>s_retAll hG hh q
     ·cases h
    ·cases h
   ·cases h
  ·cases h
 ·cases h
theorem cAsg_ok(S:SSees X cl c Γ Δ N sc){n:Nat}{x:Str}{px pos:Pos}{e:Expr}{i:Nat}{m:E}(hi:nIdx N x=some i)(h:cE c.cc n true N sc e=some m):PS X (.Assign [.Name x px] e pos) (tS X.K cl Γ Δ pio (.asg i m)):=by
 have hN:=nIdx_get hi
 have nd:X.N.Nodup:=by rw [S.S.hN];exact S.nd
 have hN':X.N[i]?=some x:=by rw [S.S.hN];exact hN
 have px':=evX_ok (pio:=pio) S.hΓ S.S h
 have plain:swapsWith e (some (.Name x px)) pos.line X.env=pure false→PS X (.Assign [.Name x px] e pos) (tS X.K cl Γ Δ pio (.asg i m)):=fun hs=>
  psI (ps_set nd hN' (S.loc i x hN) px' hs (.inl (S.fn x))) fun D σ H q=>s_asg q
 cases hc:isComp e with
 |false=>exact plain (swaps_not hc _ _ _)
 |true=>
  cases n with
  |zero=>cases h
  |succ n=>
   cases e
   case ListComp elt gs scope pos'=>
    have h':cLc c.cc N sc (cE c.cc n true N sc) (fun N' e=>cE c.cc n false N' scope e) elt scope gs=some m:=h
    unfold cLc at h'
    split at h'
    ·rename_i y py iter ifs
     have h2:cE c.cc (n+1) true N sc (.ListComp elt [⟨.Name y py,iter,ifs,0⟩] scope pos')=some m:=h
     obtain⟨fr,is,mi,me,mc,tt,rfl,cs,hi',ht,he,htt,hfs⟩:=comp_inv S.hΓ S.S h2
     have hsc:X.env.scope=sc:=S.S.tp rfl
     have sw:=swaps_comp elt [⟨.Name y py,iter,ifs,0⟩] scope pos' x px pos.line X.env
     cases hb:(X.env.blockKind==.function&&X.env.kindOf x==some .local&&px.line==pos'.line&& !(scope.names.any fun(n,k)=>n==x&&(k==.local||k==.cell)))with
     |false=>rw [hb]at sw;exact plain sw
     |true=>
      rw [hb]at sw
      rw [Bool.and_eq_true,Bool.and_eq_true,Bool.and_eq_true]at hb
      have hy:X.env.kindOf x=some .local:=by simpa using hb.1.1.2
      refine psI (ps_setCompI S.S.calm hi' ht he cs nd hN' hy sw hsc S.S.hN hfs) fun D σ H q=> ?_
      exact comp_tF htt (tX_comp (s_asg q))
    ·cases h'
   all_goals first|(cases hc;done)|(cases h;done)
theorem cS1_ok(S:SSees X cl c Γ Δ N sc){n:Nat}{rc:List Stmt→Option MI.S}(ih:∀l s,rc l=some s→PSs X l (tS X.K cl Γ Δ pio s)){st:Stmt}{s:MI.S}(h:cS1 c n N sc rc st=some s):PS X st (tS X.K cl Γ Δ pio s):=by
 have pe:=fun e m (h:cE c.cc n true N sc e=some m)=>(cE_ok S.hΓ n true N sc e m X S.S h).1
 have pxx:=fun e m (h:cE c.cc n true N sc e=some m)=>evX_ok (pio:=pio) S.hΓ S.S h
 have nd:X.N.Nodup:=by rw [S.S.hN];exact S.nd
 have hsc:X.env.scope=sc:=S.S.tp rfl
 have no:(none:Option MI.S)=some s→PS X st (tS X.K cl Γ Δ pio s):=fun z=>by cases z
 cases st
 case Pass p=>
  cases h
  exact psI ps_pass fun D σ H q=>s_nop q
 case Expr e p=>
  exact cX_ok S h
 case Assign ts e pos=>
  replace h:cAs c n N sc ts e=some s:=h
  unfold cAs at h
  split at h
  ·split at h
   ·obtain⟨i,hi,h⟩:=bsi h
    obtain⟨m,h1,rfl⟩:=msi h
    exact cAsg_ok S hi h1
   ·cases h
  ·rename_i x px y py kt pt
   split at h
   rotate_left
   ·cases h
   rename_i a b k2 p2
   split at h
   ·rename_i ok
    obtain⟨ok,ob⟩:=(Bool.and_eq_true _ _).mp ok
    obtain⟨ok,oa⟩:=(Bool.and_eq_true _ _).mp ok
    obtain⟨i,hi,h⟩:=bsi h
    obtain⟨j,hj,h⟩:=bsi h
    obtain⟨m,h1,h⟩:=bsi h
    obtain⟨l,h2,h⟩:=bsi h
    obtain⟨r,h3,rfl⟩:=msi h
    have hNi:=nIdx_get hi
    have hNj:=nIdx_get hj
    by_cases hij:i=j
    ·--the same name twice:no such row runs
     intro pins s σ H D I q
     obtain⟨H₀,G₀,io,F,A,env,n',fl,env',hp,hl,R,e,po⟩:=q
     exfalso
     have e':(if okI pio env i&&okI pio env j&&decide (i≠j)then(evX Γ pio m env).bind fun r=>(evX Γ pio l r.2).map fun q=>(Fl.nx,(q.2.set i (some r.1)).set j (some q.1))else none)=some (fl,env'):=e
     rw [if_neg (by simp [hij])]at e'
     cases e'
    ·have hxy:x≠y:=fun z=>hij (by subst z;rw [hi]at hj;exact Option.some.inj hj)
     obtain⟨w1,w2⟩:=swapped_eq (kt:=kt) (pt:=pt) (k2:=k2) (p2:=p2) S.bk oa ob hxy hsc h3
     have pa:PA X [a,b] (tCons (tX X.K cl Γ pio m) (tCons (tX X.K cl Γ pio l) tNil)):=pa_cons (pxx a m h1) (pa_cons (pxx b l h2) pa_nil (star_of ob _ _)) (star_of oa _ _)
     cases r with
     |true=>
      obtain⟨lx,ly⟩:=w2 rfl
      exact psI (ps_par S.S.calm nd (by rw [S.S.hN];exact hNi) (by rw [S.S.hN];exact hNj) hij (by rw [hsc];exact lx) (by rw [hsc];exact ly) pa w1 rfl) fun D σ H q=>s_par q
     |false=>
      exact psI (ps_asg (pe_tup pa) (pg_tup S.S.calm (pgs_cons (S.pg hi) (pgs_cons (S.pg hj) pgs_nil)) rfl rfl) rfl w1 rfl) fun D σ H q=>s_tup2 q
   ·cases h
  ·rename_i x px y py z pz kt pt
   split at h
   rotate_left
   ·cases h
   rename_i a b d k2 p2
   split at h
   ·rename_i ok
    obtain⟨ok,sw⟩:=(Bool.and_eq_true _ _).mp ok
    obtain⟨ok,od⟩:=(Bool.and_eq_true _ _).mp ok
    obtain⟨oa,ob⟩:=(Bool.and_eq_true _ _).mp ok
    obtain⟨i,hi,h⟩:=bsi h
    obtain⟨j,hj,h⟩:=bsi h
    obtain⟨k,hk,h⟩:=bsi h
    obtain⟨m,h1,h⟩:=bsi h
    obtain⟨l,h2,h⟩:=bsi h
    obtain⟨q,h3,rfl⟩:=msi h
    have hNi:=nIdx_get hi
    have hNj:=nIdx_get hj
    have hNk:=nIdx_get hk
    by_cases hd:i≠j∧i≠k∧j≠k
    ·obtain⟨hij,hik,hjk⟩:=hd
     obtain⟨w1,lx,ly,lz⟩:=swapped3 (kt:=kt) (pt:=pt) (k2:=k2) (p2:=p2) S.bk oa ob od hsc sw
     have pa:PA X [a,b,d] (tCons (tX X.K cl Γ pio m) (tCons (tX X.K cl Γ pio l) (tCons (tX X.K cl Γ pio q) tNil))):=pa_cons (pxx a m h1) (pa_cons (pxx b l h2) (pa_cons (pxx d q h3) pa_nil (star_of od _ _)) (star_of ob _ _)) (star_of oa _ _)
     exact psI (ps_par3 S.S.calm nd (by rw [S.S.hN];exact hNi) (by rw [S.S.hN];exact hNj) (by rw [S.S.hN];exact hNk) hij hik hjk (by rw [hsc];exact lx) (by rw [hsc];exact ly) (by rw [hsc];exact lz) pa w1 rfl) fun D σ H q=>s_par3 q
    ·intro pins s σ H D I q'
     obtain⟨H₀,G₀,io,F,A,env,n',fl,env',hp,hl,R,e,po⟩:=q'
     exfalso
     have e':(if okI pio env i&&okI pio env j&&okI pio env k&&decide (i≠j∧i≠k∧j≠k)then(evX Γ pio m env).bind fun r=>(evX Γ pio l r.2).bind fun p=>(evX Γ pio q p.2).map fun o=>(Fl.nx,((o.2.set i (some r.1)).set j (some p.1)).set k (some o.1))else none)=some (fl,env'):=e
     rw [if_neg (by rw [decide_eq_false hd];simp)]at e'
     cases e'
   ·cases h
  ·rename_i x p1 k p2
   split at h
   ·rename_i ok
    obtain⟨ok,nc⟩:=(Bool.and_eq_true _ _).mp ok
    obtain⟨ox,okk⟩:=(Bool.and_eq_true _ _).mp ok
    obtain⟨i,hi,h⟩:=bsi h
    obtain⟨mk,h1,h⟩:=bsi h
    obtain⟨m,h2,rfl⟩:=msi h
    have nc':isComp e=false:=by simpa using nc
    exact psI (ps_asg (pe e m h2) (pg_sub (S.pv ox hi) (pe k mk h1) set_list (by intro v;cases k<;>first|rfl|cases okk)) (show swapsWith e (some ((Expr.Name x p1).Subscript k p2)) pos.line X.env=pure false from swaps_not nc' _ _ _) rfl rfl) fun D σ H q=>s_set q
   ·cases h
  ·rename_i x p1 f p2
   split at h
   ·rename_i ok
    obtain⟨ok,nc⟩:=(Bool.and_eq_true _ _).mp ok
    obtain⟨ox,hf⟩:=(Bool.and_eq_true _ _).mp ok
    obtain⟨i,hi,h⟩:=bsi h
    obtain⟨m,h2,rfl⟩:=msi h
    have nc':isComp e=false:=by simpa using nc
    exact psI (ps_fld (S.pv ox hi) (pxx e m h2) (swaps_not nc' _ _ _)) fun D σ H q=>s_fst S.S.cls hf q
   ·cases h
  ·cases h
 case If t a b p=>
  replace h:cIs c n N sc rc t a b=some s:=h
  unfold cIs at h
  obtain⟨ma,h1,h⟩:=bsi h
  obtain⟨mb,h2,h⟩:=bsi h
  split at h
  ·rename_i ng f i m ht
   cases h
   exact psI (ps_if (cTio_ok (pio:=pio) S ht) (ih a ma h1) (ih b mb h2)) fun D σ H q=>s_ifio q
  ·split at h
   ·rename_i ot
    obtain⟨mt,h3,rfl⟩:=msi h
    exact psI (ps_if ((cE_ok S.hΓ n true N sc t mt X S.S h3).2 ot) (ih a ma h1) (ih b mb h2)) fun D σ H q=>s_ife q
   ·cases h
 case For t it body els p=>
  cases els
  rotate_left
  ·exact no h
  replace h:cFo c n N sc rc t it body=some s:=h
  unfold cFo at h
  split at h
  ·rename_i x p1
   split at h
   ·rename_i ok
    obtain⟨ox,oi⟩:=(Bool.and_eq_true _ _).mp ok
    obtain⟨i,hi,h⟩:=bsi h
    obtain⟨mi,h1,h⟩:=bsi h
    obtain⟨mb,h2,rfl⟩:=msi h
    exact psI (ps_for S.pw S.S.calm (ci_ok S.S pe (fun z=>by cases z) h1) (S.pg hi) (ih body mb h2) (by intro v;cases it<;>first|rfl|cases oi)) fun D σ H q=>s_for1 q
   ·cases h
  ·rename_i x p1 y p2 k p3
   split at h
   ·rename_i ok
    obtain⟨ok,oi⟩:=(Bool.and_eq_true _ _).mp ok
    obtain⟨i,hi,h⟩:=bsi h
    obtain⟨j,hj,h⟩:=bsi h
    obtain⟨mi,h1,h⟩:=bsi h
    obtain⟨mb,h2,rfl⟩:=msi h
    exact psI (ps_for S.pw S.S.calm (ci_ok S.S pe (fun _=>⟨_,_,_,rfl⟩) h1) (pg_tup S.S.calm (pgs_cons (S.pg hi) (pgs_cons (S.pg hj) pgs_nil)) rfl rfl) (ih body mb h2) (by intro v;cases it<;>first|rfl|cases oi)) fun D σ H q=>s_for2 q
   ·cases h
  ·cases h
 case Return o p=>
  cases o
  ·replace h:(some MI.S.retN:Option MI.S)=some s:=h
   cases h
   exact psI ps_retN fun D σ H q=>s_retN q
  ·rename_i e
   replace h:(match cCpy c.cc n N sc e with
    |some m=>some (.retC m)
    |none=>(match cAll c n N sc e with
     |some (f,i,m)=>some (.retAll f i m)
     |none=>(cE c.cc n true N sc e).map .ret))=some s:=h
   split at h
   ·rename_i m hm
    cases h
    exact psI (ps_ret (cCpy_ok S.hΓ S.S hm)) fun D σ H q=>s_retC q
   split at h
   ·rename_i f i m hm
    cases h
    exact cAll_ok S hm
   obtain⟨m,h1,rfl⟩:=msi h
   by_cases hv:∃i,m=.var i
   ·obtain⟨i,rfl⟩:=hv
    exact psI (ps_ret (var_inv S.S h1)) fun D σ H q=>s_retV q
   ·exact psI (ps_ret (pxx e m h1)) fun D σ H q=>s_ret (fun i z=>hv ⟨i,z⟩) q
 case Raise e c p=>
  cases h
  exact psI ps_never fun D σ H q=>s_raise q
 all_goals exact no h
theorem cSt_ok(S:SSees X cl c Γ Δ N sc):∀(n:Nat) (l:List Stmt) (s:MI.S),cSt c n N sc l=some s→PSs X l (tS X.K cl Γ Δ pio s)
 |0,l,s,h=>by cases h
 |n+1,[],s,h=>by
  cases h
  exact pssI pss_nil fun D σ H q=>s_nop q
 |n+1,st::rest,s,h=>by
  obtain⟨a,h1,h⟩:=bsi (show(cS1 c n N sc (cSt c n N sc) st).bind (fun a=>(cSt c n N sc rest).map fun b=> .seq a b)=some s from h)
  obtain⟨b,h2,rfl⟩:=msi h
  exact pssI (pss_cons (cS1_ok S (fun l s h=>cSt_ok S n l s h) h1) (cSt_ok S n rest b h2)) fun D σ H q=>s_seq q
end
end MI
end
noncomputable section
namespace MI
open PySem L2 PyProof.Rows
noncomputable def GoodFn(P:Program)(w:World)(K:PySem.W.Frag)(mg:Str→Option Value)(base:Heap)(cl:Nat→Option Addr)(k:Nat)(x:Str)(g:List D→Option T):Prop:=
 (∃fa fd ps,FnOk P w K mg base CX0 k fa fd ps (spP K cl g)∧mg x=some (.ref fa)∧PySem.W.keepIn K (.ref fa)=true∧Binds K fd ps [])∨
   ∃j C f fd ps,j+1≤k∧Mk K C f∧FnOk P w K mg base CX0 j f fd ps (spM K cl C g)∧mg x=some (.ref C)∧Binds K fd ps []
noncomputable def GoodMt(P:Program)(w:World)(K:PySem.W.Frag)(mg:Str→Option Value)(base:Heap)(cl:Nat→Option Addr)(k:Nat)(C:Addr)(m:Str)(g:List D→Option T):Prop:=
 ∃f fd ps,Meth K C m f∧FnOk P w K mg base CX0 k f fd ps (spP K cl g)∧Binds K fd ps []
theorem GoodFn.mono{P:Program}{w:World}{K:PySem.W.Frag}{mg:Str→Option Value}{base:Heap}{cl:Nat→Option Addr}{j k:Nat}{x:Str}{g:List D→Option T}(h:GoodFn P w K mg base cl j x g)(hk:j≤k):GoodFn P w K mg base cl k x g:=by
 rcases h with⟨fa,fd,ps,F1,F2,F3,F4⟩|⟨i,C,f,fd,ps,h0,h⟩
 ·exact .inl ⟨fa,fd,ps,F1.mono hk,F2,F3,F4⟩
 ·exact .inr ⟨i,C,f,fd,ps,Nat.le_trans h0 hk,h⟩
theorem GoodMt.mono{P:Program}{w:World}{K:PySem.W.Frag}{mg:Str→Option Value}{base:Heap}{cl:Nat→Option Addr}{j k:Nat}{C:Addr}{m:Str}{g:List D→Option T}(h:GoodMt P w K mg base cl j C m g)(hk:j≤k):GoodMt P w K mg base cl k C m g:=by
 obtain⟨f,fd,ps,M,F,B⟩:=h
 exact⟨f,fd,ps,M,F.mono hk,B⟩
structure Lw(P:Program)(w:World)(K:PySem.W.Frag)(mg:Str→Option Value)(base:Heap)(cl:Nat→Option Addr)(c:CS)(Γ:Tab)(Δ:IOT)(k:Nat):Prop where
 fn:∀x f,c.cc.tab.lookup x=some f→∃g,Γ f=some g∧GoodFn P w K mg base cl k x g
 io:∀x f i,c.iot.lookup x=some (f,i)→∃g,Δ f=some (i,g)∧∃fa fd ps,FnOk P w K mg base CX0 k fa fd ps (spIO K cl i g)∧mg x=some (.ref fa)∧PySem.W.keepIn K (.ref fa)=true∧Binds K fd ps []
 blt:∀x∈BLT,mg x=none
 gi:∀x i,c.cc.gi.lookup x=some i→∃t,mg x=some (.int i t)
 cls:ClsOk K cl
 mth:∀d C i m g,MTH[i]?=some m→cl d=some C→Γ (mid d i)=some g→GoodMt P w K mg base cl k C m g
 cn:∀x j,c.cc.cn.lookup x=some j→∃J,cl j=some J∧mg x=some (.ref J)
noncomputable def startT(N:List Str)(ds:List D):TEnv:=ds.map (fun d=>some (.sh d))++List.replicate (N.length-ds.length) none
noncomputable def ioAt(k:Nat)(l:List D):TEnv:=(l.mapIdx fun j d=>if j=k then(listD d).map fun ds=>T.ow (ds.map T.sh)else some (T.sh d))
noncomputable def startIO(N:List Str)(k:Nat)(l:List D):TEnv:=ioAt k l++List.replicate (N.length-l.length) none
section
variable{P:Program}{w:World}{K:PySem.W.Frag}{mg:Str→Option Value}{base:Heap}{cl:Nat→Option Addr}{c:CS}{Γ:Tab}{Δ:IOT}{k:Nat}
theorem Lw.sees(L:Lw P w K mg base cl c Γ Δ k){N ps:List Str}{qual:Str}{scope:Scope}{f:Addr}{cdv:Value}{A:Around}{outer:List PySem.Env}{s:Shared}{H:Hp}{E:XK}(FS:FnScope N ps scope)(loc:∀x∈N,scope.names.lookup x=some .local∨scope.names.lookup x=some .cell)(hr:Room k (A.deeper (envOfC qual scope s.heap.objs.size f cdv))):
 SSees (cxOf CX0 P w K mg base N qual scope f cdv A outer s H E).nox cl c Γ Δ N scope:=by
 refine⟨⟨rfl,fun i x hx=> ?_,fun x hx=>hx,fun _=>rfl,rfl,hr.units,L.blt,fun x f g h1 h2=> ?_,L.gi,L.cls,fun d C i m g h0 h1 h2=> ?_,L.cn⟩,fun x f h=> ?_,FS.nd,fun i x hx=>loc x (List.mem_of_getElem? hx),fun _=>rfl,FS.kind,PassesOwn.never,fun x f i h=> ?_⟩
 ·rcases loc x (List.mem_of_getElem? hx)with z|z
  ·exact .inl z
  ·exact .inr (.inl z)
 ·obtain⟨g',hg,G⟩:=L.fn x f h1
  rw [h2]at hg
  cases hg
  rcases G with⟨fa,fd,ps,F1,F2,F3,F4⟩|⟨j,C,f,fd,ps,h0,M,F1,F2,F3⟩
  ·exact⟨.inl ⟨k,fa,fd,ps,F1,hr,F2,F3,F4⟩⟩
  ·exact⟨.inr ⟨j,C,f,fd,ps,M,F1,hr.mono h0,F2,F3⟩⟩
 ·obtain⟨f,fd,ps,M,F,B⟩:=L.mth d C i m g h0 h1 h2
  exact⟨k,f,fd,ps,M,F,hr,B⟩
 ·obtain⟨g',hg,_⟩:=L.fn x f h
  exact⟨g',hg⟩
 ·obtain⟨g,hg,fa,fd,ps,F1,F2,F3,F4⟩:=L.io x f i h
  exact⟨g,hg,k,fa,fd,ps,F1,hr,F2,F3,F4⟩
theorem start_get{N:List Str}{vs:List V}{i:Nat}{v:V}(h:vs[i]?=some v):(L2.start N vs)[i]?=some (some v):=by
 have hi:=(List.getElem?_eq_some_iff.mp h).1
 unfold L2.start
 rw [List.getElem?_append_left (by simpa using hi),List.getElem?_map,h]
 rfl
theorem startT_get{N:List Str}{ds:List D}{i:Nat}{t:T}(h:(startT N ds)[i]?=some (some t)):∃d,ds[i]?=some d∧t=.sh d:=by
 unfold startT at h
 by_cases hi:i<ds.length
 ·rw [List.getElem?_append_left (by simpa using hi),List.getElem?_map]at h
  cases e:ds[i]? with
  |none=>rw [e]at h;cases h
  |some d=>rw [e]at h;cases h;exact⟨d,rfl,rfl⟩
 ·rw [List.getElem?_append_right (by simpa using hi),List.getElem?_replicate]at h
  split at h<;>cases h
theorem def_pure(L:Lw P w K mg base cl c Γ Δ k){x qual:Str}{st:Stmt}{f:Addr}{fd:FuncData}{N ps:List Str}{n:Nat}{body:S}{g:List D→Option T}(F:Fun K x qual st f fd)(FS:FnScope N ps (defScope st))(loc:∀x∈N,(defScope st).names.lookup x=some .local∨(defScope st).names.lookup x=some .cell)
 (hc:cSt c n N (defScope st) (defBody st)=some body)(ar:∀ds t,g ds=some t→ds.length=ps.length)
 (run:∀ds t,g ds=some t→∃m fl env',ex Γ Δ none m body (startT N ds)=some (fl,env')∧(fl=.rt t∨(fl=.nx∧t=.sh .non))):FnOk P w K mg base CX0 (k+1) f fd ps (spP K cl g):=by
 have hpl:ps.length≤N.length:=by have:=congrArg List.length FS.pre;rw [List.length_take]at this;omega
 refine F.ok FS (fun vs H Q E h=> ?_) (fun cdv A outer s H vs Q E hr h=> ?_)
 ·obtain⟨G,ds,t,sg,dn,hg,_⟩:=h
  rw [dn.length];exact ar ds t hg
 ·obtain⟨G,ds,t,sg,dn,hg,q⟩:=h
  have SS:=L.sees (N:=N) (ps:=ps) (qual:=qual) (f:=f) (cdv:=cdv) (A:=A) (outer:=outer) (s:=s) (H:=H) (E:=E) FS loc hr
  refine⟨_,cSt_ok (pio:=none) SS n (defBody st) body hc,?_⟩
  obtain⟨m,fl,env',e,hfl⟩:=run ds t hg
  have hl:=ar ds t hg
  refine⟨H,G,none,G,fun _=>[],startT N ds,m,fl,env',(fun p a z=>by cases z),?_,?_,e,fun σ' H' F' A' l1 l2 st' sf R'=> ?_⟩
  ·unfold startT L2.start
   simp only [List.length_append,List.length_map,List.length_replicate,dn.length]
  ·refine⟨fun i t' e=> ?_,fun _ _=>rfl,fun _=>List.nodup_nil,(fun _ _ _ _ z=>by simp at z),sg,.refl _,(fun b o h1 h2=>by rw [h1]at h2;cases h2),fun b o h _=>h,(fun _ _ z=>by simp at z),(fun p a z=>by cases z)⟩
   obtain⟨d,h1,rfl⟩:=startT_get e
   obtain⟨v,h2,h3⟩:=dn.get h1
   exact⟨v,start_get h2,.sh h3⟩
  ·have x:Ext H G H' F':=⟨fun b o h=>R'.keep b o h (fun p z=>by cases z),R'.gf,R'.fh,R'.fnew⟩
   rcases hfl with rfl|⟨rfl,rfl⟩
   ·exact fun v B ot nd _ nw=>q v H' F' B x ot nd nw
   ·exact q .non H' F' [] x (.sh .non) List.nodup_nil (by simp)
noncomputable def startO(N:List Str)(c0:Nat)(ds:List D):TEnv:=some (.ob c0 [] [])::startT N.tail ds
theorem def_init(L:Lw P w K mg base cl c Γ Δ k){x qual:Str}{st:Stmt}{f C:Addr}{fd:FuncData}{y:Str}{N ps:List Str}{n c0:Nat}{body:S}{g:List D→Option T}(hcl:cl c0=some C)(F:Fun K x qual st f fd)(FS:FnScope (y::N) ps (defScope st))(loc:∀x∈y::N,(defScope st).names.lookup x=some .local∨(defScope st).names.lookup x=some .cell)
 (hc:cSt c n (y::N) (defScope st) (defBody st)=some body)(h0:0∉asgs body)(ar:∀ds t,g ds=some t→ds.length+1=ps.length)
 (run:∀ds t,g ds=some t→∃m env',ex Γ Δ none m body (startO (y::N) c0 ds)=some (.nx,env')∧env'[0]?=some (some t)):FnOk P w K mg base CX0 (k+1) f fd ps (spM K cl C g):=by
 refine F.ok FS (fun vs H Q E h=> ?_) (fun cdv A outer s H vs Q E hr h=> ?_)
 ·obtain⟨H0,G,x,dx,vs',ds,t,rfl,_,_,_,_,_,dn,hg,_⟩:=h
  rw [List.length_cons,dn.length];exact ar ds t hg
 ·obtain⟨H0,G,x,dx,vs',ds,t,rfl,hx,hdx,hne,rfl,sg,dn,hg,q⟩:=h
  have SS:=L.sees (N:=y::N) (ps:=ps) (qual:=qual) (f:=f) (cdv:=cdv) (A:=A) (outer:=outer) (s:=s) (H:=upd (upd H0 dx (.own x)) x (.ins C dx [])) (E:=E) FS loc hr
  refine⟨_,cSt_ok (pio:=none) SS n (defBody st) body hc,?_⟩
  obtain⟨m,env',e,hj⟩:=run ds t hg
  have gx:G x=none:=sg.free hx
  have gdx:G dx=none:=sg.free hdx
  have kp:∀b o,H0 b=some o→upd (upd H0 dx (.own x)) x (.ins C dx []) b=some o:=fun b o h=>by rw [upd_ne (ne_of_none h hx),upd_ne (ne_of_none h hdx)];exact h
  have hst:L2.start (y::N) (.ref x::vs')=some (.ref x)::L2.start N vs':=by
   unfold L2.start
   rw [List.map_cons,List.cons_append,List.length_cons,List.length_cons,Nat.add_sub_add_right]
  have at1:upd (upd H0 dx (.own x)) x (.ins C dx []) dx=some (.own x):=by rw [upd_ne hne];exact upd_same
  refine⟨H0,G,none,G,fun i=>if i=0 then [x,dx]else [],startO (y::N) c0 ds,m,.nx,env',(fun p a z=>by cases z),?_,?_,e,fun σ' H' F' A' l1 l2 st' sf R'=> ?_⟩
  ·rw [hst]
   show(startT N ds).length+1=(L2.start N vs').length+1
   unfold startT L2.start
   simp only [List.length_append,List.length_map,List.length_replicate,dn.length]
  ·refine⟨fun i t' e=> ?_,fun i hi=> ?_,fun i=> ?_,fun i j a hij h1 h2=> ?_,fun b o h=>kp b o (sg b o h),.refl _,(fun b o h1 h2=>by rw [h1]at h2;cases h2),fun b o h _=>kp b o h,fun i a ha=> ?_,(fun p a z=>by cases z)⟩
   ·rw [hst]
    cases i with
    |zero=>
     have e':some (some (T.ob c0 [] []))=some (some t'):=e
     cases e'
     exact⟨.ref x,rfl,.ob (vfs:=[]) upd_same at1 hcl rfl gx gdx .nil⟩
    |succ i=>
     have e':(startT N ds)[i]?=some (some t'):=e
     obtain⟨d,h1,rfl⟩:=startT_get e'
     obtain⟨v,h2,h3⟩:=dn.get h1
     exact⟨v,start_get h2,.sh h3⟩
   ·show(if i=0 then [x,dx]else [])=[]
    split
    ·rename_i hi';subst hi';exact absurd rfl (hi (.ob c0 [] []))
    ·rfl
   ·show(if i=0 then [x,dx]else []).Nodup
    split
    ·simp [Ne.symm hne]
    ·exact List.nodup_nil
   ·have h1':a∈(if i=0 then [x,dx]else []):=h1
    have h2':a∈(if j=0 then [x,dx]else []):=h2
    split at h1'
    ·split at h2'
     ·rename_i e1 e2;exact hij (e1.trans e2.symm)
     ·simp at h2'
    ·simp at h1'
   ·have ha':a∈(if i=0 then [x,dx]else []):=ha
    split at ha'
    ·refine .inr ?_
     rcases List.mem_cons.mp ha' with z|z
     ·rw [z];exact hx
     ·rw [show a=dx by simpa using z];exact hdx
    ·simp at ha'
  ·have X1:Ext H0 G H' F':=⟨fun b o h=>R'.keep b o h (fun p z=>by cases z),R'.gf,R'.fh,R'.fnew⟩
   obtain⟨v,h1,ot⟩:=R'.slot 0 t hj
   have e0:=st' 0 h0
   rw [hst,h1]at e0
   cases e0
   refine q H' F' (A' 0) X1 ot (R'.nd 0) fun a ha=> ?_
   rcases R'.anew 0 a ha with⟨p,z⟩|z
   ·cases z
   ·exact z
theorem ioAt_get{j:Nat}{l:List D}{i:Nat}{t:T}(h:(ioAt j l)[i]?=some (some t)):(i=j∧∃ds,l[i]?=some (.lst ds)∧t=.ow (ds.map T.sh))∨(i≠j∧∃d,l[i]?=some d∧t=.sh d):=by
 unfold ioAt at h
 rw [List.getElem?_mapIdx]at h
 cases e:l[i]? with
 |none=>rw [e]at h;cases h
 |some d=>
  rw [e]at h
  have h':(if i=j then(listD d).map fun ds=>T.ow (ds.map T.sh)else some (T.sh d))=some t:=Option.some.inj h
  split at h'
  ·rename_i hi
   obtain⟨ds,h1,rfl⟩:=msi h'
   cases d with
   |lst l'=>cases h1;exact .inl ⟨hi,ds,rfl,rfl⟩
   |_=>cases h1
  ·rename_i hi
   cases h'
   exact .inr ⟨hi,d,rfl,rfl⟩
theorem startIO_get{N:List Str}{j:Nat}{l:List D}{i:Nat}{t:T}(h:(startIO N j l)[i]?=some (some t)):(i=j∧∃ds,l[i]?=some (.lst ds)∧t=.ow (ds.map T.sh))∨(i≠j∧∃d,l[i]?=some d∧t=.sh d):=by
 unfold startIO at h
 have hl:(ioAt j l).length=l.length:=by unfold ioAt;simp
 by_cases hi:i<l.length
 ·rw [List.getElem?_append_left (by omega)]at h
  exact ioAt_get h
 ·rw [List.getElem?_append_right (by omega),List.getElem?_replicate]at h
  split at h<;>cases h
theorem def_io(L:Lw P w K mg base cl c Γ Δ k){x qual:Str}{st:Stmt}{f:Addr}{fd:FuncData}{N ps:List Str}{n j:Nat}{body:S}{g:List D→Option (T×List D)}(F:Fun K x qual st f fd)(FS:FnScope N ps (defScope st))(loc:∀x∈N,(defScope st).names.lookup x=some .local∨(defScope st).names.lookup x=some .cell)
 (hc:cSt c n N (defScope st) (defBody st)=some body)(ar:∀l t ds',g l=some (t,ds')→l.length=ps.length)
 (run:∀l t ds',g l=some (t,ds')→∃m fl env',ex Γ Δ (some j) m body (startIO N j l)=some (fl,env')∧(fl=.rt t∨(fl=.nx∧t=.sh .non))∧env'[j]?=some (some (.ow (ds'.map T.sh)))):FnOk P w K mg base CX0 (k+1) f fd ps (spIO K cl j g):=by
 have hpl:ps.length≤N.length:=by have:=congrArg List.length FS.pre;rw [List.length_take]at this;omega
 refine F.ok FS (fun vs H Q E h=> ?_) (fun cdv A outer s H vs Q E hr h=> ?_)
 ·obtain⟨G,l,a,xs,ds,t,ds',h1,h2,h3,h4,h5,h6,h7,h8,h9,_⟩:=h
  rw [h2];exact ar l t ds' h9
 ·obtain⟨G,l,a,xs,ds,t,ds',sg,hl,hv,hd,hx,ga,dx,dn,hg,hfl,hs,hs',q⟩:=h
  have SS:=L.sees (N:=N) (ps:=ps) (qual:=qual) (f:=f) (cdv:=cdv) (A:=A) (outer:=outer) (s:=s) (H:=H) (E:=E) FS loc hr
  refine⟨_,cSt_ok (pio:=some j) SS n (defBody st) body hc,?_⟩
  obtain⟨m,fl,env',e,hfl',hj⟩:=run l t ds' hg
  have hlen:=ar l t ds' hg
  have hll:(ioAt j l).length=l.length:=by unfold ioAt;simp
  refine⟨H,G,some (j,a),G,fun i=>if i=j then [a]else [],startIO N j l,m,fl,env',(fun p b z=>by cases z;rfl),?_,?_,e,fun σ' H' F' A' l1 l2 st' sf R'=> ?_⟩
  ·unfold startIO L2.start
   simp only [List.length_append,List.length_map,List.length_replicate,hll,hl]
  ·refine⟨fun i t' e=> ?_,fun i hi=> ?_,fun i=> ?_,fun i i' b hii h1 h2=> ?_,sg,.refl _,(fun b o h1 h2=>by rw [h1]at h2;cases h2),fun b o h _=>h,fun i b hb=> ?_,fun p b z=> ?_⟩
   ·rcases startIO_get e with⟨rfl,ds2,h1,rfl⟩|⟨hi,d,h1,rfl⟩
    ·rw [hd]at h1
     cases h1
     refine⟨.ref a,start_get hv,?_⟩
     rw [if_pos rfl]
     exact .ow hx ga (OTs.shs dx)
    ·have hv':i<vs.length:=by rw [hl];exact(List.getElem?_eq_some_iff.mp h1).1
     refine⟨vs[i],start_get (List.getElem?_eq_getElem hv'),?_⟩
     rw [if_neg hi]
     exact .sh (dn i _ d hi (List.getElem?_eq_getElem hv') h1)
   ·show(if i=j then [a]else [])=[]
    split
    ·rename_i hi'
     exfalso
     subst hi'
     have hjl:i<l.length:=(List.getElem?_eq_some_iff.mp hd).1
     refine hi (.ow (ds.map T.sh)) ?_
     unfold startIO
     rw [List.getElem?_append_left (by omega)]
     unfold ioAt
     rw [List.getElem?_mapIdx,hd]
     simp [listD]
    ·rfl
   ·show(if i=j then [a]else []).Nodup
    split<;>simp
   ·have h1':b∈(if i=j then [a]else []):=h1
    have h2':b∈(if i'=j then [a]else []):=h2
    split at h1'
    ·split at h2'
     ·rename_i e1 e2;exact hii (e1.trans e2.symm)
     ·simp at h2'
    ·simp at h1'
   ·have hb':b∈(if i=j then [a]else []):=hb
    split at hb'
    ·have:b=a:=by simpa using hb'
     exact .inl ⟨j,by rw [this]⟩
    ·simp at hb'
   ·cases z
    exact⟨[],by rw [if_pos rfl]⟩
  ·obtain⟨v',h1,ot'⟩:=R'.slot j _ hj
   obtain⟨B0,hB0⟩:=R'.iok j a rfl
   rw [hB0]at ot'
   cases ot' with
   |ow a1 a2 a3=>
    obtain⟨dx',_⟩:=a3.unsh
    have kp:∀b o,b≠a→H b=some o→H' b=some o:=fun b o hb h=>R'.keep b o h (fun p z=>by cases z;exact hb rfl)
    rcases hfl' with rfl|⟨rfl,rfl⟩
    ·exact fun v B ot nd _ nw=>q v H' F' _ B kp R'.gf R'.fh R'.fnew a1 dx' ot nd nw
    ·exact q .non H' F' _ [] kp R'.gf R'.fh R'.fnew a1 dx' (.sh .non) List.nodup_nil (by simp)
theorem Lw.addG(L:Lw P w K mg base cl c Γ Δ k){x:Str}{f k':Nat}{g:List D→Option T}(hk:k≤k')(hg:Γ f=some g)(F:GoodFn P w K mg base cl k' x g):
 Lw P w K mg base cl ⟨⟨(x,f)::c.cc.tab,c.cc.gi,c.cc.cn⟩,c.iot⟩ Γ Δ k':=by
 refine⟨fun y f' h=> ?_,fun y f' i h=> ?_,L.blt,L.gi,L.cls,fun d C i m g h0 h1 h2=>(L.mth d C i m g h0 h1 h2).mono hk,L.cn⟩
 ·have h':((x,f)::c.cc.tab).lookup y=some f':=h
  rw [List.lookup_cons]at h'
  split at h'
  ·rename_i e
   have e:y=x:=by simpa using e
   subst e
   cases h'
   exact⟨g,hg,F⟩
  ·obtain⟨g',h1,F1⟩:=L.fn y f' h'
   exact⟨g',h1,F1.mono hk⟩
 ·obtain⟨g',h1,fa',fd',ps',F1,F2,F3,F4⟩:=L.io y f' i h
  exact⟨g',h1,fa',fd',ps',F1.mono hk,F2,F3,F4⟩
theorem Lw.addIO(L:Lw P w K mg base cl c Γ Δ k){x:Str}{f j:Nat}{g:List D→Option (T×List D)}{fa:Addr}{fd:FuncData}{ps:List Str}(hg:Δ f=some (j,g))(F:FnOk P w K mg base CX0 (k+1) fa fd ps (spIO K cl j g))(hm:mg x=some (.ref fa))(hk:PySem.W.keepIn K (.ref fa)=true)(hb:Binds K fd ps []):
 Lw P w K mg base cl ⟨c.cc,(x,f,j)::c.iot⟩ Γ Δ (k+1):=by
 refine⟨fun y f' h=> ?_,fun y f' i h=> ?_,L.blt,L.gi,L.cls,fun d C i m g h0 h1 h2=>(L.mth d C i m g h0 h1 h2).mono (Nat.le_succ _),L.cn⟩
 ·obtain⟨g',h1,F1⟩:=L.fn y f' h
  exact⟨g',h1,F1.mono (Nat.le_succ _)⟩
 ·have h':((x,f,j)::c.iot).lookup y=some (f',i):=h
  rw [List.lookup_cons]at h'
  split at h'
  ·rename_i e
   have e:y=x:=by simpa using e
   subst e
   cases h'
   exact⟨g,hg,fa,fd,ps,F,hm,hk,hb⟩
  ·obtain⟨g',h1,fa',fd',ps',F1,F2,F3,F4⟩:=L.io y f' i h'
   exact⟨g',h1,fa',fd',ps',F1.mono (Nat.le_succ _),F2,F3,F4⟩
end
end MI
end
noncomputable section
namespace MI
open PySem PySem.Spec PySem.W PyProof.Rows L2
theorem law_callR{P:Program}{w:World}{K:PySem.W.Frag}{mg mb:Str→Option Value}{CX:CXT}{k:Nat}{fa a:Addr}{fd:FuncData}{x:Str}{sp:Sp}{s₁:Shared}{vs:List Value}{ns:List Int}
 (KX:K.In s₁.heap)(hns:s₁.heap.Ns mainGlobals mg)(hb:s₁.heap.Ns builtinsNs mb)(hbb:∀x:Str,x≠"__name__"→mb x=bootBuiltins x)(hlim:s₁.heap.NoLimit)(hg:s₁.gens= #[])
 (ha:s₁.heap.get? a=some {cls:=.type "list",data:=.seq vs.toArray})(hi:IntsAre vs ns)(hl:ns.length≤sizeLine)(hr:Room k callerA)
 (F:∀base:Heap,K.In base→base.Ns mainGlobals mg→FnOk P w K mg base CX k fa fd [x] sp)(hbind:∀(s:Shared) (u:Value),BindsTo s fd ⟨[u],[]⟩ [(x,u)])
 (hsp:∀H:Hp,RL K H a (ns.map V.int)→sp [.ref a] H (fun v _=>v=.bl true) fun _ _ _=>False)
 (hCX:∀H e s',CX [] H s₁ (fun _ _ _=>False) e s'→False):
 codeAny (model P w) callerA (.call (.ref fa) ⟨[.ref a],[]⟩) (fun r s'=>r=.ok (.ret (.bool true))∧OldK s₁.heap s'.heap∧s'.os=s₁.os∧AllBare s'.gens) s₁:=by
 have rv:=vals_ints hi
 have lenV:=hi.length
 have core:∀H:Hp,Only H→RL K H a (ns.map V.int)→HOk P w H s₁.heap→(∀b,H b≠none→b=a)→(H a≠none→K.lookup a=none)→
  codeAny (model P w) callerA (.call (.ref fa) ⟨[.ref a],[]⟩) (fun r s'=>r=.ok (.ret (.bool true))∧OldK s₁.heap s'.heap∧s'.os=s₁.os∧AllBare s'.gens) s₁:=by
  intro H hO hS hok hA hK
  have base_of:∀ {b:Addr} {o:Obj},s₁.heap.get? b=some o→H b=none→(hidT s₁.heap H).get? b=some o:=fun e n=>hidT_get e n
  have noA:∀ {b:Addr} {o:Obj} {es:Array DictEntry} {ep:Nat},s₁.heap.get? b=some o→o.data=.dict es ep→H b=none:=fun {b o es ep} e d=>by
   cases q:H b with
   |none=>rfl
   |some u=>
    have e':b=a:=hA b (by rw [q];simp)
    subst e'
    rw [ha]at e;cases e
    have d':Data.seq vs.toArray _=Data.dict es ep:=d
    cases d'
  have nsK:∀ {b:Addr} {m:Str→Option Value},s₁.heap.Ns b m→(hidT s₁.heap H).Ns b m:=fun {b m} ⟨o,es,ep,e,d,r⟩=>⟨o,es,ep,base_of e (noA e d),d,r⟩
  have hKb:K.In (hidT s₁.heap H):=fun b o e=>base_of (KX b o e) (by
   cases q:H b with
   |none=>rfl
   |some u=>
    have e':b=a:=hA b (by rw [q];simp)
    subst e'
    rw [hK (by rw [q];simp)]at e;cases e)
  have hM:Mod K mg (hidT s₁.heap H):=⟨hKb,nsK hns,⟨mb,nsK hb,hbb⟩,let ⟨mc,h1,h2⟩:=hlim;⟨mc,nsK h1,h2⟩⟩
  have e0:Env0 P w K mg (hidT s₁.heap H) callerA [] s₁ H:=⟨rfl,hM,fun b o e=>of_hidT e,Nat.le_of_eq (hidT_size _ _),trivial,fun b hb=>absurd (show b∈([]:List Addr)from hb) (by simp),hok,.of_eq hg⟩
  refine codeAny_mono ((F _ hKb (nsK hns)).run callerA [] s₁ H ⟨[.ref a],[]⟩ [.ref a] [.ref a] _ _ hr e0 (hbind s₁ (.ref a)) (.cons rfl .nil) (hsp H hS)) fun r s' h=> ?_
  cases r with
  |error e=>exact(hCX H e s' h).elim
  |ok fl=>
   cases fl with
   |next=>exact False.elim h
   |brk=>exact False.elim h
   |cont=>exact False.elim h
   |ret u=>
    obtain⟨v,H',os,bare,un,hok',r',q⟩:=h
    have q':v=.bl true:=q
    subst q'
    obtain rfl:u=Value.bool true:=r'
    refine⟨rfl,OldK.of_keep fun b o e=> ?_,os,bare⟩
    cases q:H b with
    |none=>exact un.keep b o e q (by intro z;exact absurd (show b∈([]:List Addr)from z) (by simp)) (by simp)
    |some u=>
     rcases hO b with z|⟨ob,xs,z⟩
     ·rw [q]at z;cases z
     ·have z2:=un.frzs b ob _ z
      obtain⟨e1,_⟩:=hok b _ z
      obtain⟨e2,_⟩:=hok' b _ z2
      rw [e]at e1;cases e1
      exact e2
 cases hk:K.lookup a with
 |some o=>
  have e:=KX a o hk
  rw [ha]at e
  cases e
  refine core (fun _=>none) (fun _=> .inl rfl) (.inr ⟨vs.toArray,_,hk,by rw [List.size_toArray,lenV];exact hl,by simpa using rv⟩) (fun b u z=>by have z':(none:Option HO)=some u:=z;cases z') (fun b z=>absurd rfl z) fun z=>absurd rfl z
 |none=>
  refine core (fun b=>if b=a then some (.frz {cls:=.type "list",data:=.seq vs.toArray} (.lst (ns.map V.int)))else none) (fun b=> ?_) (.inl (.inr ⟨{cls:=.type "list",data:=.seq vs.toArray},if_pos rfl⟩)) (fun b u z=> ?_) (fun b z=> ?_) fun _=>hk
  ·by_cases hb:b=a
   ·exact .inr ⟨_,_,if_pos hb⟩
   ·exact .inl (if_neg hb)
  ·by_cases hb:b=a
   ·have z':=(if_pos hb).symm.trans z
    cases z'
    subst hb
    exact⟨ha,by rw [List.length_map];exact hl,vs,_,rv,ha⟩
   ·have z':=(if_neg hb).symm.trans z
    cases z'
  ·by_cases hb:b=a
   ·exact hb
   ·exact absurd (if_neg hb) z
end MI
end
noncomputable section
namespace Bo
noncomputable def IsRow(r:List Nat):Prop:=r.Perm (List.range r.length)
noncomputable def ap(r:List Nat)(i:Nat):Nat:=r.getD i 0
theorem IsRow.nodup{r:List Nat}(h:IsRow r):r.Nodup:=h.nodup_iff.mpr List.nodup_range
theorem IsRow.mem{r:List Nat}(h:IsRow r){x:Nat}:x∈r↔x<r.length:=by rw [h.mem_iff];simp
theorem ap_eq{r:List Nat}{i:Nat}(h:i<r.length):ap r i=r[i]:=by simp [ap,h]
theorem ap_get?{r:List Nat}{i:Nat}(h:i<r.length):r[i]?=some (ap r i):=by rw [ap_eq h];simp [h]
theorem IsRow.lt{r:List Nat}(h:IsRow r){i:Nat}(hi:i<r.length):ap r i<r.length:=by
 rw [ap_eq hi];exact h.mem.mp (List.getElem_mem hi)
theorem IsRow.inj{r:List Nat}(h:IsRow r){i j:Nat}(hi:i<r.length)(hj:j<r.length)(e:ap r i=ap r j):i=j:=by
 rw [ap_eq hi,ap_eq hj]at e
 exact(List.getElem_inj h.nodup).mp e
theorem IsRow.onto{r:List Nat}(h:IsRow r){x:Nat}(hx:x<r.length):∃i,i<r.length∧ap r i=x:=by
 obtain⟨i,hi,e⟩:=List.getElem_of_mem (h.mem.mpr hx)
 exact⟨i,hi,by rw [ap_eq hi];exact e⟩
theorem ext_ap{r t:List Nat}(hl:r.length=t.length)(h:∀i,i<r.length→ap r i=ap t i):r=t:=by
 refine List.ext_getElem hl fun i h1 h2=> ?_
 have:=h i h1
 rw [ap_eq h1,ap_eq h2]at this
 exact this
theorem isRow_range(n:Nat):IsRow (List.range n):=by unfold IsRow;rw [List.length_range]
theorem ap_range{n i:Nat}(h:i<n):ap (List.range n) i=i:=by rw [ap_eq (by simpa using h)];simp
noncomputable def beh(one other:List Nat):List Nat:=other.map (ap one)
noncomputable def bk(r:List Nat):List Nat:=(List.range r.length).map (fun x=>r.idxOf x)
theorem bk_length(r:List Nat):(bk r).length=r.length:=by simp [bk]
theorem ap_bk{r:List Nat}{x:Nat}(hx:x<r.length):ap (bk r) x=r.idxOf x:=by
 rw [ap_eq (by simpa [bk]using hx)];simp [bk]
theorem IsRow.bk_lt{r:List Nat}(h:IsRow r){x:Nat}(hx:x<r.length):ap (bk r) x<r.length:=by
 rw [ap_bk hx];exact List.idxOf_lt_length_iff.mpr (h.mem.mpr hx)
theorem IsRow.ap_bk{r:List Nat}(h:IsRow r){x:Nat}(hx:x<r.length):ap r (ap (bk r) x)=x:=by
 rw [ap_eq (h.bk_lt hx)]
 simp only [Bo.ap_bk hx]
 exact List.getElem_idxOf (List.idxOf_lt_length_iff.mpr (h.mem.mpr hx))
theorem IsRow.bk_ap{r:List Nat}(h:IsRow r){i:Nat}(hi:i<r.length):ap (bk r) (ap r i)=i:=
 h.inj (h.bk_lt (h.lt hi)) hi (h.ap_bk (h.lt hi))
theorem bk_of{r t:List Nat}(h:IsRow r)(hl:t.length=r.length)(ht:∀i,i<r.length→ap t (ap r i)=i):t=bk r:=by
 refine ext_ap (by rw [bk_length];exact hl) fun x hx=> ?_
 rw [hl]at hx
 obtain⟨i,hi,rfl⟩:=h.onto hx
 rw [ht i hi,h.bk_ap hi]
noncomputable def pw(r:List Nat):Nat→Nat→Nat
 |0,x=>x
 |k+1,x=>ap r (pw r k x)
noncomputable def pwL(r:List Nat)(k:Nat):List Nat:=(List.range r.length).map (pw r k)
noncomputable def Turns(r:List Nat)(t:Nat):Prop:=∀x,x<r.length→pw r t x=x
end Bo
end
noncomputable section
namespace Bo
structure RingOk(r:List Nat)(g:List Nat):Prop where
 ne:g≠[]
 nd:g.Nodup
 lt:∀x∈g,x<r.length
 step:∀j,j<g.length→ap r (ap g j)=ap g ((j+1) % g.length)
structure Rings(r:List Nat)(R:List (List Nat)):Prop where
 flat:R.flatten.Perm (List.range r.length)
 ok:∀g∈R,RingOk r g
theorem ap_mem{g:List Nat}{j:Nat}(h:j<g.length):ap g j∈g:=by rw [ap_eq h];exact List.getElem_mem h
structure TurnsIs(R:List (List Nat))(t:Nat):Prop where
 pos:0<t
 dvd:∀g∈R,g.length∣t
 least:∀m,(∀g∈R,g.length∣m)→t∣m
structure MetOk(r:List Nat)(met:List Bool):Prop where
 len:met.length=r.length
 ring:∀x,x<r.length→met.getD (ap r x) false=met.getD x false
noncomputable def orb(r:List Nat)(first j:Nat):List Nat:=(List.range j).map (fun i=>pw r i first)
structure Walk(r:List Nat)(met0:List Bool)(first j:Nat)(met:List Bool):Prop where
 nd:(orb r first j).Nodup
 len:met.length=r.length
 met:∀x,x<r.length→met.getD x false=(met0.getD x false||(orb r first j).contains x)
theorem getD_set{l:List Bool}{i x:Nat}{b:Bool}(hi:i<l.length):(l.set i b).getD x false=if x=i then b else l.getD x false:=by
 by_cases e:x=i
 ·subst e;simp [hi]
 ·rw [if_neg e]
  simp [Ne.symm e]
structure RingsTo(r:List Nat)(i:Nat)(R:List (List Nat))(met:List Bool):Prop where
 ok:∀g∈R,RingOk r g
 nd:R.flatten.Nodup
 metOk:MetOk r met
 isMet:∀x,x<r.length→(met.getD x false=true↔x∈R.flatten)
 low:∀x,x<i→x<r.length→met.getD x false=true
 head:∀g∈R,ap g 0<i∧∀x∈g,ap g 0≤x
 rise:(R.map (ap · 0)).Pairwise (· <·)
structure RingsAll(r:List Nat)(R:List (List Nat)):Prop extends Rings r R where
 least:∀g∈R,∀x∈g,ap g 0≤x
 rise:(R.map (ap · 0)).Pairwise (· <·)
end Bo
end
noncomputable section
namespace Bo
noncomputable def rot(g:List Nat)(s:Nat):List Nat:=g.drop s++g.take s
theorem ap_set{t:List Nat}{i x v:Nat}(hi:i<t.length):ap (t.set i v) x=if x=i then v else ap t x:=by
 unfold ap
 by_cases e:x=i
 ·subst e;simp [hi]
 ·rw [if_neg e];simp [Ne.symm e]
structure Put(t g q:List Nat)(j:Nat)(t':List Nat):Prop where
 len:t'.length=t.length
 new:∀i,i<j→ap t' (ap g i)=ap q i
 old:∀x,x∉g→ap t' x=ap t x
structure Set1(t g:List Nat)(s:Nat)(t':List Nat):Prop where
 len:t'.length=t.length
 new:∀j,j<g.length→ap t' (ap g j)=ap g ((j+s) % g.length)
 old:∀x,x∉g→ap t' x=ap t x
structure Timed(r:List Nat)(R:List (List Nat))(m k:Nat)(t:List Nat):Prop where
 len:t.length=r.length
 new:∀x∈(R.take k).flatten,ap t x=pw r m x
structure Told(r:List Nat)(S:List (List Nat)):Prop where
 ok:∀g∈S,RingOk r g
 nd:S.flatten.Nodup
 rest:∀x,x<r.length→x∉S.flatten→ap r x=x
structure Made(r:List Nat)(S:List (List Nat))(k:Nat)(t:List Nat):Prop where
 len:t.length=r.length
 new:∀x∈(S.take k).flatten,ap t x=ap r x
 old:∀x,x<r.length→x∉(S.take k).flatten→ap t x=x
noncomputable def NoneBelow(m p:Nat):Prop:=∀q,2≤q→q<p→¬q∣m
end Bo
end
noncomputable section
namespace Bo
noncomputable def prs(P:Nat→Nat→Bool):List Nat→Nat
 |[]=>0
 |x::l=>l.countP (P x)+prs P l
noncomputable def gtB(x y:Nat):Bool:=decide (y<x)
noncomputable def bitB(x y:Nat):Bool:=x % 2==1&&y % 2==0&&x/2==y/2
noncomputable def sm(n:Nat)(f:Nat→Nat):Nat:=((List.range n).map f).sum
end Bo
end
noncomputable section
namespace Bo
noncomputable def sw1(t:List Nat)(p:Nat×Nat):List Nat:=(t.set p.1 (ap t p.2)).set p.2 (ap t p.1)
noncomputable def exch(t:List Nat)(ps:List (Nat×Nat)):List Nat:=ps.foldl sw1 t
noncomputable def rp(g:List Nat):List (Nat×Nat):=g.tail.map (fun x=>(ap g 0,x))
noncomputable def exs(R:List (List Nat)):List (Nat×Nat):=R.flatMap rp
noncomputable def InB(n:Nat)(ps:List (Nat×Nat)):Prop:=∀p∈ps,p.1<p.2∧p.2<n
noncomputable def Fol(t:List Nat)(f:Nat):List Nat→Prop
 |[]=>True
 |x::l=>ap t x=l.headD f∧Fol t f l
theorem range_snoc(n:Nat):List.range n++[n]=List.range (n+1):=List.range_succ.symm
theorem isRow_snoc{r:List Nat}(h:IsRow r):IsRow (r++[r.length]):=by
 unfold IsRow
 rw [List.length_append,List.length_singleton,←range_snoc]
 exact List.Perm.append h (List.Perm.refl _)
theorem isRow_rev{r:List Nat}(h:IsRow r):IsRow r.reverse:=by
 unfold IsRow
 rw [List.length_reverse]
 exact(List.reverse_perm r).trans h
end Bo
end
noncomputable section
namespace Bo
noncomputable def fr1(t:List Nat)(x:Nat):List Nat:=x::t.erase x
noncomputable def frs(t:List Nat)(xs:List Nat):List Nat:=xs.foldl fr1 t
theorem frs_cons(t:List Nat)(x:Nat)(xs:List Nat):frs t (x::xs)=frs (fr1 t x) xs:=rfl
theorem filter_erase{t:List Nat}(nd:t.Nodup)(x:Nat)(p:Nat→Bool):(t.erase x).filter p=t.filter (fun y=>p y&&decide (y≠x)):=by
 rw [nd.erase_eq_filter,List.filter_filter]
 refine List.filter_congr fun y _=> ?_
 by_cases e:y=x<;>simp [e]
theorem fr1_nodup{t:List Nat}(nd:t.Nodup)(x:Nat):(fr1 t x).Nodup:=by
 unfold fr1
 refine List.nodup_cons.mpr ⟨fun z=> ?_,nd.erase x⟩
 exact(List.Nodup.mem_erase_iff nd).mp z|>.1 rfl
theorem fr1_mem{t:List Nat}{x y:Nat}(hx:x∈t):y∈fr1 t x↔y∈t:=by
 unfold fr1
 rw [List.mem_cons]
 constructor
 ·rintro (rfl|z)
  ·exact hx
  ·exact List.mem_of_mem_erase z
 ·intro z
  by_cases e:y=x
  ·exact .inl e
  ·exact .inr ((List.mem_erase_of_ne e).mpr z)
theorem frs_eq{xs:List Nat}:∀ {t:List Nat},t.Nodup→xs.Nodup→(∀x∈xs,x∈t)→frs t xs=xs.reverse++t.filter (fun y=> !xs.contains y):=by
 induction xs with
 |nil=>intro t nd _ _;exact(List.filter_eq_self.mpr fun y _=>rfl).symm
 |cons x xs ih=>
  intro t nd hx ht
  obtain⟨h1,h2⟩:=List.nodup_cons.mp hx
  have hxt:=ht x (List.mem_cons_self ..)
  rw [frs_cons,ih (fr1_nodup nd x) h2 fun y hy=>(fr1_mem hxt).mpr (ht y (List.mem_cons_of_mem _ hy))]
  unfold fr1
  rw [List.filter_cons,List.reverse_cons,List.append_assoc]
  congr 1
  rw [if_pos (by simpa using h1),filter_erase nd,List.singleton_append]
  congr 1
  refine List.filter_congr fun y _=> ?_
  simp only [List.contains_cons]
  by_cases e:y=x
  ·simp [e]
  ·simp [e]
theorem fr1_length{t:List Nat}{x:Nat}(h:x∈t):(fr1 t x).length=t.length:=by
 unfold fr1
 rw [List.length_cons,List.length_erase_of_mem h]
 have:=List.length_pos_of_mem h
 omega
theorem frs_length{xs:List Nat}:∀ {t:List Nat},(∀x∈xs,x∈t)→(frs t xs).length=t.length:=by
 induction xs with
 |nil=>intro t _;rfl
 |cons x xs ih=>
  intro t ht
  have hx:=ht x (List.mem_cons_self ..)
  rw [frs_cons,ih fun y hy=>(fr1_mem hx).mpr (ht y (List.mem_cons_of_mem _ hy)),fr1_length hx]
noncomputable def dwn(m:Nat):List Nat:=(List.range m).reverse
theorem dwn_nodup(m:Nat):(dwn m).Nodup:=(List.reverse_perm _).nodup_iff.mpr List.nodup_range
theorem mem_dwn{m x:Nat}:x∈dwn m↔x<m:=by unfold dwn;rw [List.mem_reverse,List.mem_range]
theorem dwn_length(m:Nat):(dwn m).length=m:=by simp [dwn]
noncomputable def en1(t:List Nat)(m:Nat×Nat):List Nat:=if m.2=1 then t.erase m.1++[m.1]else m.1::t.erase m.1
noncomputable def ens(t:List Nat)(ms:List (Nat×Nat)):List Nat:=ms.foldl en1 t
noncomputable def fronts(fs:List Nat):List (Nat×Nat):=fs.map fun x=>(x,0)
noncomputable def backs(bs:List Nat):List (Nat×Nat):=bs.map fun x=>(x,1)
theorem ens_append(t:List Nat)(a b:List (Nat×Nat)):ens t (a++b)=ens (ens t a) b:=List.foldl_append ..
theorem ens_fronts(fs:List Nat):∀t:List Nat,ens t (fronts fs)=frs t fs:=by
 induction fs with
 |nil=>intro t;rfl
 |cons x fs ih=>intro t;exact ih (fr1 t x)
theorem ens_backs{bs:List Nat}:∀ {t:List Nat},t.Nodup→bs.Nodup→(∀x∈bs,x∈t)→ens t (backs bs)=t.filter (fun y=> !bs.contains y)++bs:=by
 induction bs with
 |nil=>
  intro t nd _ _
  show t=_
  rw [List.append_nil]
  exact(List.filter_eq_self.mpr fun y _=>rfl).symm
 |cons x bs ih=>
  intro t nd hx ht
  obtain⟨h1,h2⟩:=List.nodup_cons.mp hx
  have hxt:=ht x (List.mem_cons_self ..)
  show ens (en1 t (x,1)) (backs bs)=_
  rw [show en1 t (x,1)=t.erase x++[x]from rfl]
  have nd':(t.erase x++[x]).Nodup:=by
   refine List.nodup_append.mpr ⟨nd.erase x,by simp,fun a ha b hb e=> ?_⟩
   rw [List.mem_singleton.mp hb]at e
   rw [e]at ha
   exact((List.Nodup.mem_erase_iff nd).mp ha).1 rfl
  rw [ih nd' h2 fun y hy=> ?_]
  ·rw [List.filter_append,filter_erase nd,List.append_assoc]
   congr 1
   ·refine List.filter_congr fun y _=> ?_
    simp only [List.contains_cons]
    by_cases e:y=x
    ·simp [e]
    ·simp [e]
   ·rw [List.filter_cons,if_pos (by simpa using h1)];rfl
  ·by_cases e:y=x
   ·exact List.mem_append_right _ (by simp [e])
   ·exact List.mem_append_left _ ((List.mem_erase_of_ne e).mpr (ht y (List.mem_cons_of_mem _ hy)))
theorem ens_eq{fs bs t:List Nat}(nd:t.Nodup)(hf:fs.Nodup)(hb:bs.Nodup)(df:∀x∈fs,x∈t)(db:∀x∈bs,x∈t)(dj:∀x∈fs,x∉bs):
 ens t (fronts fs++backs bs)=fs.reverse++t.filter (fun y=> !fs.contains y&& !bs.contains y)++bs:=by
 have n1:(frs t fs).Nodup:=by
  rw [frs_eq nd hf df]
  refine List.nodup_append.mpr ⟨(List.reverse_perm _).nodup_iff.mpr hf,nd.filter _,fun a ha b hb e=> ?_⟩
  subst e
  have:=(List.mem_filter.mp hb).2
  simp [List.mem_reverse.mp ha]at this
 rw [ens_append,ens_fronts,ens_backs n1 hb fun x hx=> ?_,frs_eq nd hf df,List.filter_append,List.filter_filter]
 ·congr 2
  ·exact List.filter_eq_self.mpr fun y hy=>by simpa using dj y (List.mem_reverse.mp hy)
  ·refine List.filter_congr fun y _=>Bool.and_comm ..
 ·rw [frs_eq nd hf df]
  by_cases e:x∈fs
  ·exact List.mem_append_left _ (List.mem_reverse.mpr e)
  ·exact List.mem_append_right _ (List.mem_filter.mpr ⟨db x hx,by simpa using e⟩)
noncomputable def rl(r:List Nat):Nat→Nat
 |0=>1
 |i+1=>if r.idxOf i<r.idxOf (i+1)then rl r i+1 else 1
noncomputable def rls(r:List Nat):List Nat:=(List.range r.length).map (rl r)
theorem rl_pos(r:List Nat)(i:Nat):1≤rl r i∧rl r i≤i+1:=by
 induction i with
 |zero=>exact⟨Nat.le_refl _,Nat.le_refl _⟩
 |succ i ih=>unfold rl;split<;>omega
theorem rl_rise(r:List Nat)(i:Nat):∀k,i+1-rl r i≤k→k<i→r.idxOf k<r.idxOf (k+1):=by
 induction i with
 |zero=>intro k _ h;omega
 |succ i ih=>
  intro k h1 h2
  unfold rl at h1
  split at h1
  ·rename_i hr
   rcases Nat.lt_or_ge k i with z|z
   ·exact ih k (by omega) z
   ·rw [show k=i by omega];exact hr
  ·omega
theorem rl_fall(r:List Nat)(i:Nat):rl r i≤i→¬r.idxOf (i-rl r i)<r.idxOf (i-rl r i+1):=by
 induction i with
 |zero=>intro h;have:=(rl_pos r 0).1;omega
 |succ i ih=>
  intro h
  by_cases hr:r.idxOf i<r.idxOf (i+1)
  ·have e:rl r (i+1)=rl r i+1:=by rw [rl,if_pos hr]
   rw [e]at h⊢
   rw [show i+1-(rl r i+1)=i-rl r i by omega]
   exact ih (by omega)
  ·have e:rl r (i+1)=1:=by rw [rl,if_neg hr]
   rw [e,show i+1-1=i by omega]
   exact hr
theorem rise_far{f:Nat→Nat}{a b:Nat}(h:∀k,a≤k→k<b→f k<f (k+1)):∀d x,a≤x→x+d+1≤b→f x<f (x+d+1):=by
 intro d
 induction d with
 |zero=>intro x h1 h2;exact h x h1 (by omega)
 |succ d ih=>
  intro x h1 h2
  have:=ih x h1 (by omega)
  have h3:=h (x+d+1) (by omega) (by omega)
  show f x<f (x+d+1+1)
  omega
theorem run_filter{r:List Nat}(hr:IsRow r){a i:Nat}(hi:i<r.length)(hrise:∀k,a≤k→k<i→r.idxOf k<r.idxOf (k+1))(ha:a≤i):r.filter (fun y=>decide (a≤y∧y≤i))=List.range' a (i+1-a):=by
 have mono:∀x y,a≤x→y≤i→x<y→r.idxOf x<r.idxOf y:=fun x y h1 h2 h3=>by
  have:=rise_far hrise (y-x-1) x h1 (by omega)
  rwa [show x+(y-x-1)+1=y by omega]at this
 have sorted:(r.filter (fun y=>decide (a≤y∧y≤i))).Pairwise (· <·):=by
  have p:r.Pairwise (fun x y=>r.idxOf x<r.idxOf y):=by
   rw [List.pairwise_iff_getElem]
   intro p q hp hq hpq
   rw [hr.nodup.idxOf_getElem _ hp,hr.nodup.idxOf_getElem _ hq]
   exact hpq
  have p2:=p.filter (fun y=>decide (a≤y∧y≤i))
  refine(List.Pairwise.and_mem.mp p2).imp ?_
  rintro x y ⟨hx,hy,hxy⟩
  have hx:=of_decide_eq_true (List.mem_filter.mp hx).2
  have hy:=of_decide_eq_true (List.mem_filter.mp hy).2
  rcases Nat.lt_trichotomy x y with z|z|z
  ·exact z
  ·rw [z]at hxy;omega
  ·have:=mono y x hy.1 hx.2 z;omega
 suffices pm:(r.filter (fun y=>decide (a≤y∧y≤i))).Perm (List.range' a (i+1-a)) by
  exact pm.eq_of_pairwise (fun x y _ _ h1 h2=>by omega) sorted (List.pairwise_lt_range' ..)
 refine(List.perm_ext_iff_of_nodup (hr.nodup.filter _) List.nodup_range').mpr fun x=> ?_
 rw [List.mem_filter,List.mem_range'_1,hr.mem]
 simp
 omega
end Bo
end
noncomputable section
namespace Bo
theorem idx_inj{r:List Nat}{x y:Nat}(hx:x∈r)(e:r.idxOf x=r.idxOf y):x=y:=by
 have h1:=List.idxOf_lt_length_iff.mpr hx
 have h2:r[r.idxOf x]=x:=List.getElem_idxOf h1
 have h3:r[r.idxOf y]'(by rw [←e];exact h1)=y:=List.getElem_idxOf (by rw [←e];exact h1)
 rw [←h2,←h3]
 simp only [e]
theorem dwn_rev(m:Nat):(dwn m).reverse=List.range m:=by simp [dwn]
theorem range_join{a n:Nat}(h:a≤n):List.range a++List.range' a (n-a)=List.range n:=by
 rw [List.range_eq_range',List.range_eq_range']
 have:=List.range'_append_1 (s:=0) (m:=a) (n:=n-a)
 rw [Nat.zero_add]at this
 rw [this]
 congr 1
 omega
theorem front_ok{r:List Nat}(hr:IsRow r)(hn:0<r.length):frs r (dwn (r.length-rl r (r.length-1)))=List.range r.length∧(r.length-rl r (r.length-1)=0∨(r.length-rl r (r.length-1)<r.length∧r.idxOf (r.length-rl r (r.length-1))<r.idxOf (r.length-rl r (r.length-1)-1))):=by
 obtain⟨p1,p2⟩:=rl_pos r (r.length-1)
 have rise:=rl_rise r (r.length-1)
 have fall:=rl_fall r (r.length-1)
 generalize hm:r.length-rl r (r.length-1)=m at*
 rw [show r.length-1+1-rl r (r.length-1)=m by omega]at rise
 refine⟨?_,?_⟩
 ·rw [frs_eq hr.nodup (dwn_nodup m) fun x hx=>hr.mem.mpr (by have:=mem_dwn.mp hx;omega),dwn_rev]
  have e:r.filter (fun y=> !(dwn m).contains y)=r.filter (fun y=>decide (m≤y∧y≤r.length-1)):=List.filter_congr fun y hy=>by
   have hy':=hr.mem.mp hy
   by_cases h:y<m
   ·have:y∈dwn m:=mem_dwn.mpr h
    rw [decide_eq_false (by omega)]
    simp [this]
   ·have:y∉dwn m:=fun z=>h (mem_dwn.mp z)
    rw [decide_eq_true (by omega)]
    simp [this]
  rw [e,run_filter hr (by omega) rise (by omega),show r.length-1+1-m=r.length-m by omega]
  exact range_join (by omega)
 ·rcases Nat.eq_zero_or_pos m with z|z
  ·exact .inl z
  ·right
   refine⟨by omega,?_⟩
   have f:=fall (by omega)
   rw [show r.length-1-rl r (r.length-1)=m-1 by omega,show m-1+1=m by omega]at f
   have ne:r.idxOf m≠r.idxOf (m-1):=fun e=>by
    have:=idx_inj (hr.mem.mpr (show m<r.length by omega)) e
    omega
   omega
noncomputable def enMoves(n b L:Nat):List (Nat×Nat):=fronts (dwn (b-L))++backs (List.range' b (n-b))
noncomputable def enForm(s:List Nat)(n b L:Nat):List Nat:=(dwn (b-L)).reverse++s.filter (fun y=> !(dwn (b-L)).contains y&& !(List.range' b (n-b)).contains y)++List.range' b (n-b)
theorem enMoves_length{n b L:Nat}(h:L≤b)(hb:b≤n):(enMoves n b L).length+L=n:=by
 simp [enMoves,fronts,backs,dwn];omega
theorem ens_form{s:List Nat}{n b L:Nat}(hs:IsRow s)(hb:b≤n)(hn:n≤s.length):ens s (enMoves n b L)=enForm s n b L:=
 ens_eq hs.nodup (dwn_nodup _) List.nodup_range' (fun x hx=>hs.mem.mpr (by have:=mem_dwn.mp hx;omega)) (fun x hx=>hs.mem.mpr (by have:=List.mem_range'_1.mp hx;omega)) fun x hx z=>by
  have h1:=mem_dwn.mp hx
  have h2:=List.mem_range'_1.mp z
  omega
theorem end_ok{r:List Nat}(hr:IsRow r){i:Nat}(hi:i<r.length):enForm r r.length (i+1) (rl r i)=List.range r.length:=by
 obtain⟨p1,p2⟩:=rl_pos r i
 have rise:=rl_rise r i
 generalize hL:rl r i=L at*
 unfold enForm
 have e:r.filter (fun y=> !(dwn (i+1-L)).contains y&& !(List.range' (i+1) (r.length-(i+1))).contains y)=r.filter (fun y=>decide (i+1-L≤y∧y≤i)):=List.filter_congr fun y hy=>by
  have hy':=hr.mem.mp hy
  have c1:(dwn (i+1-L)).contains y=decide (y<i+1-L):=by
   rw [Bool.eq_iff_iff];simp [mem_dwn]
  have c2:(List.range' (i+1) (r.length-(i+1))).contains y=decide (i+1≤y):=by
   rw [Bool.eq_iff_iff];simp [List.mem_range'_1];omega
  rw [c1,c2,Bool.eq_iff_iff]
  simp
  omega
 rw [e,run_filter hr hi rise (by omega),dwn_rev]
 rw [show i+1-(i+1-L)=L by omega]
 have:=range_join (a:=i+1-L) (n:=i+1) (by omega)
 rw [show i+1-(i+1-L)=L by omega]at this
 rw [this]
 exact range_join (by omega)
end Bo
end
noncomputable section
namespace MI
open PySem L2
section
variable(Γ:Tab)(env:Env)
@[simp] theorem ev_var(i:Nat):ev Γ (.var i) env=(env[i]?).join:=rfl
@[simp] theorem ev_int(i:Int):ev Γ (.int i) env=some (.int i):=rfl
@[simp] theorem ev_bl(i:Bool):ev Γ (.bl i) env=some (.bl i):=rfl
@[simp] theorem ev_non:ev Γ .non env=some .non:=rfl
@[simp] theorem ev_str(x:Str):ev Γ (.str x) env=some (.str x):=rfl
@[simp] theorem ev_bin(op:Operator)(a b:E):ev Γ (.bin op a b) env=(ev Γ a env).bind fun x=>(ev Γ b env).bind fun y=>binD op x y:=rfl
@[simp] theorem ev_un(f:U)(a:E):ev Γ (.un f a) env=(ev Γ a env).bind (unD f):=rfl
@[simp] theorem ev_not(a:E):ev Γ (.not a) env=(ev Γ a env).bind notD:=rfl
@[simp] theorem ev_cmp(op:CmpOp)(a b:E):ev Γ (.cmp op a b) env=(ev Γ a env).bind fun x=>(ev Γ b env).bind fun y=>cmpD op x y:=rfl
@[simp] theorem ev_ch(o1 o2:CmpOp)(a b c:E):ev Γ (.ch o1 o2 a b c) env=(ev Γ a env).bind fun x=>(ev Γ b env).bind fun y=>(cmpD o1 x y).bind fun z=>ifB z ((ev Γ c env).bind fun w=>cmpD o2 y w) (some (.bl false)):=rfl
@[simp] theorem ev_and(a b:E):ev Γ (.and a b) env=(ev Γ a env).bind fun x=>ifB x (ev Γ b env) (some (.bl false)):=rfl
@[simp] theorem ev_or(a b:E):ev Γ (.or a b) env=(ev Γ a env).bind fun x=>ifB x (some (.bl true)) (ev Γ b env):=rfl
@[simp] theorem ev_ite(c a b:E):ev Γ (.ite c a b) env=((ev Γ c env).bind truthD).bind fun x=>if x then ev Γ a env else ev Γ b env:=rfl
@[simp] theorem ev_idx(a b:E):ev Γ (.idx a b) env=(ev Γ a env).bind fun x=>(ev Γ b env).bind fun y=>idxD x y:=rfl
@[simp] theorem ev_cut(a lo hi:E):ev Γ (.cut a lo hi) env=(ev Γ a env).bind fun x=>(optS lo (ev Γ lo env)).bind fun l=>(optS hi (ev Γ hi env)).bind fun h=>cutD x l h:=rfl
@[simp] theorem ev_rev(a:E):ev Γ (.rev a) env=(ev Γ a env).bind revD:=rfl
@[simp] theorem ev_lst(a:E):ev Γ (.lst a) env=(ev Γ a env).bind szL:=rfl
@[simp] theorem ev_tup(a:E):ev Γ (.tup a) env=(ev Γ a env).bind szT:=rfl
@[simp] theorem ev_mn(a b:E):ev Γ (.mn a b) env=(ev Γ a env).bind fun x=>(ev Γ b env).bind fun y=>min2 x y:=rfl
@[simp] theorem ev_mx(a b:E):ev Γ (.mx a b) env=(ev Γ a env).bind fun x=>(ev Γ b env).bind fun y=>max2 x y:=rfl
@[simp] theorem ev_isi(a:E)(k:Nat):ev Γ (.isi a k) env=(ev Γ a env).bind fun x=>(isiB x k).map .bl:=rfl
theorem ev_comp(elt:E)(is:List Nat)(it c:E):ev Γ (.comp elt is it c) env=((ev Γ it env).bind walkD).bind fun ds=>if sz ds.length then(compR (fun d=>(cS c (ev Γ c (inner env is d))).bind fun b=>if b then(ev Γ elt (inner env is d)).map some else some none) ds).map .lst else none:=rfl
@[simp] theorem ev_call(f:Nat)(args:E):ev Γ (.call f args) env=(Γ f).bind fun g=>((ev Γ args env).bind listD).bind fun l=>(g l).map strip:=rfl
@[simp] theorem ev_rng(a:E):ev Γ (.rng a) env=(ev Γ a env).bind fun x=>rng2D (.int 0) x:=rfl
@[simp] theorem ev_rng2(a b:E):ev Γ (.rng2 a b) env=(ev Γ a env).bind fun x=>(ev Γ b env).bind fun y=>rng2D x y:=rfl
@[simp] theorem ev_enm(a:E):ev Γ (.enm a) env=(ev Γ a env).bind enmD:=rfl
@[simp] theorem ev_zp(a b:E):ev Γ (.zp a b) env=(ev Γ a env).bind fun x=>(ev Γ b env).bind fun y=>zpD x y:=rfl
@[simp] theorem ev_nil:ev Γ .nil env=some (.lst []):=rfl
@[simp] theorem ev_cons(a r:E):ev Γ (.cons a r) env=(ev Γ a env).bind fun x=>(ev Γ r env).bind fun y=>consD x y:=rfl
end
@[simp] theorem consD_lst(x:D)(l:List D):consD x (.lst l)=some (.lst (x::l)):=rfl
@[simp] theorem listD_lst(l:List D):listD (.lst l)=some l:=rfl
@[simp] theorem walkD_lst(l:List D):walkD (.lst l)=some l:=rfl
@[simp] theorem walkD_tup(l:List D):walkD (.tup l)=some l:=rfl
@[simp] theorem notD_bl(b:Bool):notD (.bl b)=some (.bl (!b)):=rfl
@[simp] theorem truthD_bl(b:Bool):truthD (.bl b)=some b:=rfl
@[simp] theorem truthD_int(b:Int):truthD (.int b)=some (b !=0):=rfl
@[simp] theorem ifB_t(a b:Option D):ifB (.bl true) a b=a:=rfl
@[simp] theorem ifB_f(a b:Option D):ifB (.bl false) a b=b:=rfl
theorem ifB_bl(c:Bool)(a b:Option D):ifB (.bl c) a b=if c then a else b:=by cases c<;>rfl
@[simp] theorem optS_nil(o:Option D):optS .nil o=some none:=rfl
@[simp] theorem optS_var(i:Nat)(o:Option D):optS (.var i) o=match o with|some (.int i)=>some (some i)|_=>none:=rfl
@[simp] theorem cS_nil(o:Option D):cS .nil o=some true:=rfl
@[simp] theorem szL_lst(l:List D):szL (.lst l)=if sz l.length then some (.lst l)else none:=rfl
@[simp] theorem szT_lst(l:List D):szT (.lst l)=if sz l.length then some (.tup l)else none:=rfl
@[simp] theorem len_lst(l:List D):unD .len (.lst l)=some (.int l.length):=rfl
@[simp] theorem len_tup(l:List D):unD .len (.tup l)=some (.int l.length):=rfl
@[simp] theorem neg_int'(i:Int):unD .neg (.int i)=some (.int (-i)):=rfl
@[simp] theorem list_lst(l:List D):unD .list (.lst l)=some (.lst l):=rfl
@[simp] theorem list_tup(l:List D):unD .list (.tup l)=some (.lst l):=rfl
@[simp] theorem revD_lst(l:List D):revD (.lst l)=some (.lst l.reverse):=rfl
@[simp] theorem cutD_lst(l:List D)(a b:Option Int):cutD (.lst l) a b=some (.lst (cutL l a b)):=rfl
@[simp] theorem idx_lst(l:List D)(i:Int):idxD (.lst l) (.int i)=L2.atI l i:=rfl
@[simp] theorem idx_tup(l:List D)(i:Int):idxD (.tup l) (.int i)=L2.atI l i:=rfl
@[simp] theorem add_ii(i j:Int):binD .Add (.int i) (.int j)=some (.int (i+j)):=rfl
@[simp] theorem sub_ii(i j:Int):binD .Sub (.int i) (.int j)=some (.int (i-j)):=rfl
@[simp] theorem add_ll(a b:List D):binD .Add (.lst a) (.lst b)=if sz (a.length+b.length)then some (.lst (a++b))else none:=rfl
@[simp] theorem and_ii(i j:Int):binD .BitAnd (.int i) (.int j)=some (.int (Builtin.bitAnd i j)):=rfl
@[simp] theorem lt_ii(i j:Int):cmpD .Lt (.int i) (.int j)=some (.bl (decide (i<j))):=rfl
@[simp] theorem le_ii(i j:Int):cmpD .LtE (.int i) (.int j)=some (.bl (decide (i≤j))):=rfl
@[simp] theorem gt_ii(i j:Int):cmpD .Gt (.int i) (.int j)=some (.bl (decide (j<i))):=rfl
@[simp] theorem ge_ii(i j:Int):cmpD .GtE (.int i) (.int j)=some (.bl (decide (j≤i))):=rfl
@[simp] theorem eq_dd(a b:D):cmpD .Eq a b=(eqD a b).map .bl:=by cases a<;>cases b<;>rfl
@[simp] theorem ne_dd(a b:D):cmpD .NotEq a b=(eqD a b).map fun c=> .bl (!c):=by cases a<;>cases b<;>rfl
@[simp] theorem mn_ii(i j:Int):min2 (.int i) (.int j)=some (.int (if j<i then j else i)):=rfl
@[simp] theorem mx_ii(i j:Int):max2 (.int i) (.int j)=some (.int (if j>i then j else i)):=rfl
@[simp] theorem rng2D_ii(i j:Int):rng2D (.int i) (.int j)=(rngD i j).map .lst:=rfl
@[simp] theorem enmD_lst(l:List D):enmD (.lst l)=some (.lst (enumD 0 l)):=rfl
@[simp] theorem zpD_ll(l m:List D):zpD (.lst l) (.lst m)=if l.length=m.length then some (.lst (zipD l m))else none:=rfl
@[simp] theorem scal_int(i:Int):scal (.int i)=true:=rfl
@[simp] theorem scal_bl(i:Bool):scal (.bl i)=true:=rfl
@[simp] theorem scal_non:scal .non=true:=rfl
@[simp] theorem scal_str(x:Str):scal (.str x)=true:=rfl
@[simp] theorem scal_lst(l:List D):scal (.lst l)=false:=rfl
@[simp] theorem scal_tup(l:List D):scal (.tup l)=false:=rfl
@[simp] theorem strip_sh(d:D):strip (.sh d)=d:=by simp [strip]
@[simp] theorem strip_ow(ts:List T):strip (.ow ts)=.lst (ts.map strip):=by simp [strip,strips_map]
@[simp] theorem flatT_sh(d:D):flatT (.sh d)=scal d:=by simp [flatT]
theorem flatTs_all(ts:List T):flatTs ts=ts.all flatT:=by
 induction ts with
 |nil=>simp [flatTs]
 |cons t r ih=>simp [flatTs,ih]
@[simp] theorem flatT_ow(ts:List T):flatT (.ow ts)=ts.all flatT:=by simp [flatT,flatTs_all]
theorem strip_comp_sh:strip∘T.sh=id:=by funext d;simp
@[simp] theorem map_strip_sh(ds:List D):(ds.map T.sh).map strip=ds:=by rw [List.map_map,strip_comp_sh,List.map_id]
@[simp] theorem dEnv_nil:dEnv []=[]:=rfl
@[simp] theorem dEnv_cons(o:Option T)(r:TEnv):dEnv (o::r)=o.map strip::dEnv r:=rfl
@[simp] theorem fEnv_nil:fEnv []=[]:=rfl
@[simp] theorem fEnv_cons(o:Option T)(r:TEnv):fEnv (o::r)=shOf o::fEnv r:=rfl
@[simp] theorem shOf_sh(d:D):shOf (some (.sh d))=some d:=rfl
@[simp] theorem shOf_none:shOf none=none:=rfl
section
variable(Γ:Tab)(Δ:IOT)(pio:Option Nat)(n:Nat)(env:TEnv)
@[simp] theorem ex_nop:ex Γ Δ pio n .nop env=some (.nx,env):=rfl
@[simp] theorem ex_retN:ex Γ Δ pio n .retN env=some (.rt (.sh .non),env):=rfl
@[simp] theorem ex_raise:ex Γ Δ pio n .raise env=none:=rfl
noncomputable def seqX(r:Option (Fl×TEnv))(k:TEnv→Option (Fl×TEnv)):Option (Fl×TEnv):=r.bind fun r=>match r.1 with
 | .nx=>k r.2
 |_=>some r
@[simp] theorem ex_seq(a b:S):ex Γ Δ pio n (.seq a b) env=seqX (ex Γ Δ pio n a env) (ex Γ Δ pio n b):=rfl
@[simp] theorem seqX_nx(e:TEnv)(k:TEnv→Option (Fl×TEnv)):seqX (some (.nx,e)) k=k e:=rfl
@[simp] theorem seqX_rt(t:T)(e:TEnv)(k:TEnv→Option (Fl×TEnv)):seqX (some (.rt t,e)) k=some (.rt t,e):=rfl
@[simp] theorem ex_asg(i:Nat)(m:E):ex Γ Δ pio n (.asg i m) env=if okI pio env i then(evX Γ pio m env).map fun r=>(.nx,r.2.set i (some r.1))else none:=rfl
@[simp] theorem ex_ife(c:E)(a b:S):ex Γ Δ pio n (.ife c a b) env=(evB Γ c (dEnv env)).bind fun t=>if t then ex Γ Δ pio n a env else ex Γ Δ pio n b env:=rfl
@[simp] theorem ex_ret(m:E)(h:∀i,m≠.var i):ex Γ Δ pio n (.ret m) env=(evX Γ pio m env).map fun r=>(.rt r.1,r.2):=by
  cases m with
  |var i=>exact absurd rfl (h i)
  |_=>rfl
@[simp] theorem ex_retV(i:Nat):ex Γ Δ pio n (.ret (.var i)) env=if pio=some i then none else(env[i]?).join.map fun t=>(.rt t,env.set i none):=rfl
@[simp] theorem ex_set(i:Nat)(k m:E):ex Γ Δ pio n (.set i k m) env=(ev Γ m (dEnv env)).bind fun d=>if scal d then((ev Γ k (dEnv env)).bind intD).bind fun z=>(owAt env i).bind fun ts=>(ixN ts.length z).map fun j=>(.nx,env.set i (some (.ow (ts.set j (.sh d)))))else none:=rfl
end
@[simp] theorem okI_none(env:TEnv)(i:Nat):okI none env i=decide (i<env.length):=by simp [okI]
@[simp] theorem okI_some(env:TEnv)(i j:Nat):okI (some j) env i=decide (j≠i∧i<env.length):=by simp [okI]
section
variable(Γ:Tab)(Δ:IOT)(pio:Option Nat)(n:Nat)(env:TEnv)
theorem ex_for1(i:Nat)(it:E)(b:S):ex Γ Δ pio n (.for1 i it b) env=if okI pio env i then(itX Γ pio it env).bind fun r=>forL (fun d e=>ex Γ Δ pio n b (e.set i (some (.sh d)))) r.1 r.2 else none:=rfl
theorem ex_wh(c:E)(b:S):ex Γ Δ pio n (.wh c b) env=whileL (fun e=>evB Γ c (dEnv e)) (ex Γ Δ pio n b) n env:=rfl
theorem ex_drop(m:E):ex Γ Δ pio n (.drop m) env=(evX Γ pio m env).map fun r=>(.nx,r.2):=rfl
theorem ex_ifio(neg:Bool)(f i:Nat)(args:E)(a b:S):ex Γ Δ pio n (.ifio neg f i args a b) env=(evIO Γ Δ f i args env).bind fun r=>match r.1 with
 | .sh (.bl t)=>if(t !=neg)then ex Γ Δ pio n a r.2 else ex Γ Δ pio n b r.2
 |_=>none:=rfl
theorem ex_dropio(f i:Nat)(args:E):ex Γ Δ pio n (.dropio f i args) env=(evIO Γ Δ f i args env).map fun r=>(.nx,r.2):=rfl
theorem ex_appio(j f i:Nat)(args:E):ex Γ Δ pio n (.appio j f i args) env=if j=i then none else(evIO Γ Δ f i args env).bind fun r=>(owAt r.2 j).bind fun ts=>if sz ts.length then some (.nx,r.2.set j (some (.ow (ts++[r.1]))))else none:=rfl
theorem ex_app(i:Nat)(m:E):ex Γ Δ pio n (.app i m) env=(evX Γ pio m env).bind fun r=>(owAt r.2 i).bind fun ts=>if sz ts.length then some (.nx,r.2.set i (some (.ow (ts++[r.1]))))else none:=rfl
end
theorem evX_scal{Γ:Tab}{pio:Option Nat}{m:E}{env:TEnv}{d:D}(hc:isCall m=false)(h:ev Γ m (dEnv env)=some d)(hs:scal d=true):evX Γ pio m env=some (.sh d,env):=by
 rw [evX_other hc,h]
 show(if scal d then _ else _)=_
 rw [if_pos hs]
theorem evX_flat{Γ:Tab}{pio:Option Nat}{m:E}{env:TEnv}{ds:List D}(hc:isCall m=false)(hf:fresh m=true)(h:ev Γ m (dEnv env)=some (.lst ds))(hs:ds.all scal=true):evX Γ pio m env=some (.ow (ds.map T.sh),env):=by
 rw [evX_other hc,h,Option.bind_some,if_neg (show¬scal (.lst ds)=true from Bool.false_ne_true),if_pos hf,listD_lst,Option.bind_some,if_pos hs]
theorem evX_callF{Γ:Tab}{pio:Option Nat}{f:Nat}{args:E}{env:TEnv}{g:List D→Option T}{l:List D}{t:T}(hg:Γ f=some g)(hl:evs Γ args (dEnv env)=some l)(ht:g l=some t)(hf:flatT t=true):evX Γ pio (.call f args) env=some (t,env):=by
 rw [evX_call,hg]
 show(evs Γ args (dEnv env)).bind _=_
 rw [hl]
 show(g l).bind _=_
 rw [ht]
 show(if flatT t then _ else _)=_
 rw [if_pos hf]
@[simp] theorem owAt_0(ts:List T)(r:TEnv):owAt (some (.ow ts)::r) 0=some ts:=rfl
@[simp] theorem owAt_s(o:Option T)(r:TEnv)(i:Nat):owAt (o::r) (i+1)=owAt r i:=rfl
@[simp] theorem intD_int(i:Int):intD (.int i)=some i:=rfl
@[simp] theorem childs_ow(ts:List T):childs (.ow ts)=some ts:=rfl
@[simp] theorem childs_sh(ds:List D):childs (.sh (.lst ds))=some (ds.map T.sh):=rfl
theorem sz_of{n:Nat}(h:n≤1000000):sz n=true:=decide_eq_true h
@[simp] theorem all_scal_ints(ns:List Int):(ns.map D.int).all scal=true:=by simp
@[simp] theorem all_scal_bls(ns:List Bool):(ns.map D.bl).all scal=true:=by simp
end MI
end
noncomputable section
namespace MI
open PySem L2
noncomputable def gP(Γ:Tab)(Δ:IOT)(m:Nat)(N:List Str)(ar:Nat)(body:S)(ds:List D):Option T:=if ds.length=ar then match ex Γ Δ none m body (startT N ds)with
 |some (.rt t,_)=>some t
 |some (.nx,_)=>some (.sh .non)
 |_=>none
 else none
noncomputable def flT:Fl→Option T
 | .rt t=>some t
 | .nx=>some (.sh .non)
 |_=>none
noncomputable def gQ(Γ:Tab)(Δ:IOT)(m:Nat)(N:List Str)(j ar:Nat)(body:S)(l:List D):Option (T×List D):=if l.length=ar then(ex Γ Δ (some j) m body (startIO N j l)).bind fun r=>(flT r.1).bind fun t=>(owAt r.2 j).bind fun ts=>(unsh ts).map fun ds=>(t,ds)else none
noncomputable def extT(Γ:Tab)(f:Nat)(g:List D→Option T):Tab:=fun i=>if i=f then some g else Γ i
noncomputable def extI(Δ:IOT)(f j:Nat)(g:List D→Option (T×List D)):IOT:=fun i=>if i=f then some (j,g)else Δ i
section
variable{P:Program}{w:World}{K:PySem.W.Frag}{mg:Str→Option Value}{base:Heap}{cl:Nat→Option Addr}{c:CS}{Γ:Tab}{Δ:IOT}{k:Nat}
theorem Lw.start(hb:∀x∈BLT,mg x=none){gi:List (Str×Int)}{cn:List (Str×Nat)}(hg:∀x i,gi.lookup x=some i→∃t,mg x=some (.int i t))(hc:ClsOk K cl)(hn:∀x j,cn.lookup x=some j→∃J,cl j=some J∧mg x=some (.ref J)):Lw P w K mg base cl ⟨⟨[],gi,cn⟩,[]⟩ (fun _=>none) (fun _=>none) 0:=
 ⟨(fun x f h=>by simp at h),(fun x f i h=>by simp at h),hb,hg,hc,(fun d C i m g _ _ h=>by cases h),hn⟩
theorem Lw.run(L:Lw P w K mg base cl c Γ Δ k){x qual:Str}{st:Stmt}{fa:Addr}{fd:FuncData}{N ps:List Str}{n m:Nat}{body:S}(F:Fun K x qual st fa fd)(FS:FnScope N ps (defScope st))(loc:∀x∈N,(defScope st).names.lookup x=some .local∨(defScope st).names.lookup x=some .cell)
 (hc:cSt c n N (defScope st) (defBody st)=some body):FnOk P w K mg base CX0 (k+1) fa fd ps (spP K cl (gP Γ Δ m N ps.length body)):=by
 refine def_pure L F FS loc hc (fun ds t h=> ?_) (fun ds t h=> ?_)
 ·unfold gP at h
  split at h
  ·assumption
  ·cases h
 ·unfold gP at h
  split at h
  ·split at h
   ·rename_i e;cases h;exact⟨m,_,_,e,.inl rfl⟩
   ·rename_i e;cases h;exact⟨m,_,_,e,.inr ⟨rfl,rfl⟩⟩
   ·cases h
  ·cases h
theorem Lw.runIO(L:Lw P w K mg base cl c Γ Δ k){x qual:Str}{st:Stmt}{fa:Addr}{fd:FuncData}{N ps:List Str}{n m j:Nat}{body:S}(F:Fun K x qual st fa fd)(FS:FnScope N ps (defScope st))(loc:∀x∈N,(defScope st).names.lookup x=some .local∨(defScope st).names.lookup x=some .cell)
 (hc:cSt c n N (defScope st) (defBody st)=some body):FnOk P w K mg base CX0 (k+1) fa fd ps (spIO K cl j (gQ Γ Δ m N j ps.length body)):=by
 refine def_io L F FS loc hc (fun ds t ds' h=> ?_) (fun ds t ds' h=> ?_)
 ·unfold gQ at h
  split at h
  ·assumption
  ·cases h
 ·unfold gQ at h
  split at h
  ·obtain⟨⟨fl,env'⟩,e,h⟩:=bsi h
   obtain⟨t',e2,h⟩:=bsi h
   obtain⟨ts,e3,h⟩:=bsi h
   obtain⟨d2,e4,h⟩:=msi h
   cases h
   refine⟨m,fl,env',e,?_,?_⟩
   ·cases fl with
    |rt t=>cases e2;exact .inl rfl
    |nx=>cases e2;exact .inr ⟨rfl,rfl⟩
    |_=>cases e2
   ·rw [owAt_eq e3,unsh_eq e4]
  ·cases h
theorem lookup_ne{x:Str}{f f':Nat}:∀ {tab:List (Str×Nat)},tab.all (fun p=>p.2 !=f)=true→tab.lookup x=some f'→f'≠f
 |[],_,h=>by cases h
 |(y,g)::r,ha,h=>by
  rw [List.all_cons,Bool.and_eq_true]at ha
  rw [List.lookup_cons]at h
  split at h
  ·cases h;simpa using ha.1
  ·exact lookup_ne ha.2 h
theorem lookup_neI{x:Str}{f f' i:Nat}:∀ {tab:List (Str×Nat×Nat)},tab.all (fun p=>p.2.1 !=f)=true→tab.lookup x=some (f',i)→f'≠f
 |[],_,h=>by cases h
 |(y,g)::r,ha,h=>by
  rw [List.all_cons,Bool.and_eq_true]at ha
  rw [List.lookup_cons]at h
  split at h
  ·cases h;simpa using ha.1
  ·exact lookup_neI ha.2 h
theorem Lw.ext(L:Lw P w K mg base cl c Γ Δ k){f:Nat}{g:List D→Option T}(hf:f<1000)(hn:c.cc.tab.all (fun p=>p.2 !=f)=true):Lw P w K mg base cl c (extT Γ f g) Δ k:=by
 refine⟨fun y f' h=> ?_,L.io,L.blt,L.gi,L.cls,fun d C i m g' h0 h1 h2=> ?_,L.cn⟩
 ·obtain⟨g',h1,r⟩:=L.fn y f' h
  exact⟨g',by unfold extT;rw [if_neg (lookup_ne hn h)];exact h1,r⟩
 ·refine L.mth d C i m g' h0 h1 ?_
  unfold extT at h2
  rw [if_neg (by unfold mid;omega)]at h2
  exact h2
theorem Lw.join(L:Lw P w K mg base cl c Γ Δ k){x:Str}{f:Nat}{g:List D→Option T}{fa:Addr}{fd:FuncData}{ps:List Str}(hf:f<1000)(hn:c.cc.tab.all (fun p=>p.2 !=f)=true)(F:FnOk P w K mg base CX0 (k+1) fa fd ps (spP K cl g))(hm:mg x=some (.ref fa))(hk:PySem.W.keepIn K (.ref fa)=true)(hb:Binds K fd ps []):
 Lw P w K mg base cl ⟨⟨(x,f)::c.cc.tab,c.cc.gi,c.cc.cn⟩,c.iot⟩ (extT Γ f g) Δ (k+1):=
 (L.ext hf hn).addG (Nat.le_succ _) (by unfold extT;rw [if_pos rfl]) (.inl ⟨fa,fd,ps,F,hm,hk,hb⟩)
theorem Lw.joinC(L:Lw P w K mg base cl c Γ Δ k){x:Str}{f:Nat}{g:List D→Option T}{C fa:Addr}{fd:FuncData}{ps:List Str}(hf:f<1000)(hn:c.cc.tab.all (fun p=>p.2 !=f)=true)(M:Mk K C fa)(F:FnOk P w K mg base CX0 (k+1) fa fd ps (spM K cl C g))(hm:mg x=some (.ref C))(hb:Binds K fd ps []):
 Lw P w K mg base cl ⟨⟨(x,f)::c.cc.tab,c.cc.gi,c.cc.cn⟩,c.iot⟩ (extT Γ f g) Δ (k+2):=
 (L.ext hf hn).addG (by omega) (by unfold extT;rw [if_pos rfl]) (.inr ⟨k+1,C,fa,fd,ps,Nat.le_refl _,M,F,hm,hb⟩)
theorem lookup_lt{x:Str}{f':Nat}:∀ {tab:List (Str×Nat)},tab.all (fun p=>decide (p.2<1000))=true→tab.lookup x=some f'→f'<1000
 |[],_,h=>by cases h
 |(y,g)::r,ha,h=>by
  rw [List.all_cons,Bool.and_eq_true]at ha
  rw [List.lookup_cons]at h
  split at h
  ·cases h;exact of_decide_eq_true ha.1
  ·exact lookup_lt ha.2 h
theorem Lw.joinM(L:Lw P w K mg base cl c Γ Δ k){m:Str}{i d:Nat}{g:List D→Option T}{C fa:Addr}{fd:FuncData}{ps:List Str}(hn:c.cc.tab.all (fun p=>decide (p.2<1000))=true)(hi:MTH[i]?=some m)(hcl:cl d=some C)(M:Meth K C m fa)(F:FnOk P w K mg base CX0 (k+1) fa fd ps (spP K cl g))(hb:Binds K fd ps []):
 Lw P w K mg base cl c (extT Γ (mid d i) g) Δ (k+1):=by
 have hi4:i<4:=(List.getElem?_eq_some_iff.mp hi).1
 refine⟨fun y f' h=> ?_,fun y f' j h=> ?_,L.blt,L.gi,L.cls,fun d' C' i' m' g' h0 h1 h2=> ?_,L.cn⟩
 ·obtain⟨g',h1,r⟩:=L.fn y f' h
  refine⟨g',?_,r.mono (Nat.le_succ _)⟩
  have:=lookup_lt hn h
  unfold extT;rw [if_neg (by unfold mid;omega)];exact h1
 ·obtain⟨g',h1,fa',fd',ps',F1,F2,F3,F4⟩:=L.io y f' j h
  exact⟨g',h1,fa',fd',ps',F1.mono (Nat.le_succ _),F2,F3,F4⟩
 ·have hi4':i'<4:=(List.getElem?_eq_some_iff.mp h0).1
  unfold extT at h2
  split at h2
  ·rename_i e
   cases h2
   unfold mid at e
   obtain⟨rfl,rfl⟩:d'=d∧i'=i:=by omega
   rw [hcl]at h1
   cases h1
   rw [hi]at h0
   cases h0
   exact⟨fa,fd,ps,M,F,hb⟩
  ·exact(L.mth d' C' i' m' g' h0 h1 h2).mono (Nat.le_succ _)
theorem Lw.joinIO(L:Lw P w K mg base cl c Γ Δ k){x:Str}{f j:Nat}{g:List D→Option (T×List D)}{fa:Addr}{fd:FuncData}{ps:List Str}(hn:c.iot.all (fun p=>p.2.1 !=f)=true)(F:FnOk P w K mg base CX0 (k+1) fa fd ps (spIO K cl j g))(hm:mg x=some (.ref fa))(hk:PySem.W.keepIn K (.ref fa)=true)(hb:Binds K fd ps []):
 Lw P w K mg base cl ⟨c.cc,(x,f,j)::c.iot⟩ Γ (extI Δ f j g) (k+1):=by
 have L':Lw P w K mg base cl c Γ (extI Δ f j g) k:=⟨L.fn,fun y f' i h=>by
  obtain⟨g',h1,r⟩:=L.io y f' i h
  exact⟨g',by unfold extI;rw [if_neg (lookup_neI hn h)];exact h1,r⟩,L.blt,L.gi,L.cls,L.mth,L.cn⟩
 exact L'.addIO (by unfold extI;rw [if_pos rfl]) F hm hk hb
noncomputable def gI(Γ:Tab)(Δ:IOT)(m:Nat)(N:List Str)(c0 ar:Nat)(body:S)(ds:List D):Option T:=if ds.length+1=ar then(ex Γ Δ none m body (startO N c0 ds)).bind fun r=>match r.1 with
 | .nx=>(r.2[0]?).join
 |_=>none
 else none
theorem Lw.runC(L:Lw P w K mg base cl c Γ Δ k){x qual:Str}{st:Stmt}{fa C:Addr}{fd:FuncData}{y:Str}{N ps:List Str}{n m c0:Nat}{body:S}(hcl:cl c0=some C)(F:Fun K x qual st fa fd)(FS:FnScope (y::N) ps (defScope st))(loc:∀x∈y::N,(defScope st).names.lookup x=some .local∨(defScope st).names.lookup x=some .cell)
 (hc:cSt c n (y::N) (defScope st) (defBody st)=some body)(h0:0∉asgs body):FnOk P w K mg base CX0 (k+1) fa fd ps (spM K cl C (gI Γ Δ m (y::N) c0 ps.length body)):=by
 refine def_init L hcl F FS loc hc h0 (fun ds t h=> ?_) (fun ds t h=> ?_)
 ·unfold gI at h
  split at h
  ·assumption
  ·cases h
 ·unfold gI at h
  split at h
  ·obtain⟨⟨fl,env'⟩,e,h⟩:=bsi h
   cases fl with
   |nx=>
    have h':(env'[0]?).join=some t:=h
    refine⟨m,env',e,?_⟩
    cases z:env'[0]? with
    |none=>rw [z]at h';cases h'
    |some o=>rw [z]at h';rw [show o=some t from h']
   |_=>cases h
  ·cases h
end
theorem gP_rt{Γ:Tab}{Δ:IOT}{m:Nat}{N:List Str}{ar:Nat}{body:S}{ds:List D}{t:T}{env:TEnv}(hl:ds.length=ar)(h:ex Γ Δ none m body (startT N ds)=some (.rt t,env)):gP Γ Δ m N ar body ds=some t:=by
 unfold gP;rw [if_pos hl,h]
theorem gP_nx{Γ:Tab}{Δ:IOT}{m:Nat}{N:List Str}{ar:Nat}{body:S}{ds:List D}{env:TEnv}(hl:ds.length=ar)(h:ex Γ Δ none m body (startT N ds)=some (.nx,env)):gP Γ Δ m N ar body ds=some (.sh .non):=by
 unfold gP;rw [if_pos hl,h]
theorem gQ_rt{Γ:Tab}{Δ:IOT}{m j:Nat}{N:List Str}{ar:Nat}{body:S}{ds ds':List D}{t:T}{env:TEnv}(hl:ds.length=ar)(h:ex Γ Δ (some j) m body (startIO N j ds)=some (.rt t,env))(hj:owAt env j=some (ds'.map T.sh)):gQ Γ Δ m N j ar body ds=some (t,ds'):=by
 unfold gQ;rw [if_pos hl,h];simp [flT,hj,unsh_sh]
end MI
namespace MI
open PySem L2
section
variable{Γ:Tab}{Δ:IOT}{pio:Option Nat}{n:Nat}{env env2 env3:TEnv}{k:S}
theorem st_asg{i:Nat}{m:E}{t:T}(ok:okI pio env i=true)(h:evX Γ pio m env=some (t,env2)):ex Γ Δ pio n (.seq (.asg i m) k) env=ex Γ Δ pio n k (env2.set i (some t)):=by
 rw [ex_seq,ex_asg,if_pos ok,h];rfl
theorem st_asg2{i j:Nat}{m l:E}{t u:T}(ok:(okI pio env i&&okI pio env j&&decide (i≠j))=true)(h:evX Γ pio m env=some (t,env2))(h2:evX Γ pio l env2=some (u,env3)):ex Γ Δ pio n (.seq (.asg2 i j m l) k) env=ex Γ Δ pio n k ((env3.set i (some t)).set j (some u)):=by
 rw [ex_seq,show ex Γ Δ pio n (.asg2 i j m l) env=if okI pio env i&&okI pio env j&&decide (i≠j)then(evX Γ pio m env).bind fun r=>(evX Γ pio l r.2).map fun q=>(.nx,(q.2.set i (some r.1)).set j (some q.1))else none from rfl,if_pos ok,h,Option.bind_some,show evX Γ pio l (t,env2).2=_ from h2];rfl
theorem st_skip{c:E}{a:S}(h:evB Γ c (dEnv env)=some false):ex Γ Δ pio n (.seq (.ife c a .nop) k) env=ex Γ Δ pio n k env:=by
 rw [ex_seq,ex_ife,h];rfl
theorem st_if{c:E}{a b:S}{t:Bool}(h:evB Γ c (dEnv env)=some t)(h2:(if t then ex Γ Δ pio n a env else ex Γ Δ pio n b env)=some (.nx,env2)):ex Γ Δ pio n (.seq (.ife c a b) k) env=ex Γ Δ pio n k env2:=by
 rw [ex_seq,ex_ife,h,Option.bind_some,h2];rfl
theorem st_for1{i:Nat}{it:E}{b:S}{l:List D}(ok:okI pio env i=true)(h:itX Γ pio it env=some (l,env2))(hf:forL (fun d e=>ex Γ Δ pio n b (e.set i (some (.sh d)))) l env2=some (.nx,env3)):ex Γ Δ pio n (.seq (.for1 i it b) k) env=ex Γ Δ pio n k env3:=by
 rw [ex_seq,ex_for1,if_pos ok,h,Option.bind_some,show forL (fun d e=>ex Γ Δ pio n b (e.set i (some (.sh d)))) (l,env2).1 (l,env2).2=_ from hf];rfl
noncomputable def twoS(f:D→D→TEnv→Option (Fl×TEnv))(d:D)(e:TEnv):Option (Fl×TEnv):=match d with
 | .tup [x,y]=>f x y e
 |_=>none
theorem st_for2{i j:Nat}{it:E}{b:S}{l:List D}(ok:(okI pio env i&&okI pio env j&&decide (i≠j))=true)(h:itX Γ pio it env=some (l,env2))(hf:forL (twoS fun x y e=>ex Γ Δ pio n b ((e.set i (some (.sh x))).set j (some (.sh y)))) l env2=some (.nx,env3)):ex Γ Δ pio n (.seq (.for2 i j it b) k) env=ex Γ Δ pio n k env3:=by
 rw [ex_seq,show ex Γ Δ pio n (.for2 i j it b) env=if okI pio env i&&okI pio env j&&decide (i≠j)then(itX Γ pio it env).bind fun r=>forL (twoS fun x y e=>ex Γ Δ pio n b ((e.set i (some (.sh x))).set j (some (.sh y)))) r.1 r.2 else none from rfl,if_pos ok,h,Option.bind_some,show forL (twoS fun x y e=>ex Γ Δ pio n b ((e.set i (some (.sh x))).set j (some (.sh y)))) (l,env2).1 (l,env2).2=_ from hf];rfl
theorem st_ret{m:E}{t:T}(hm:∀i,m≠.var i)(h:evX Γ pio m env=some (t,env2)):ex Γ Δ pio n (.seq (.ret m) k) env=some (.rt t,env2):=by
 rw [ex_seq,ex_ret _ _ _ _ _ _ hm,h];rfl
theorem st_retV{i:Nat}{t:T}(hp:pio≠some i)(h:(env[i]?).join=some t):ex Γ Δ pio n (.seq (.ret (.var i)) k) env=some (.rt t,env.set i none):=by
 rw [ex_seq,ex_retV,if_neg hp,h];rfl
theorem st_set{i:Nat}{q m:E}{d:D}{z:Int}{j:Nat}{ts:List T}(h1:ev Γ m (dEnv env)=some d)(hs:scal d=true)(h2:ev Γ q (dEnv env)=some (.int z))(h3:owAt env i=some ts)(h4:ixN ts.length z=some j):ex Γ Δ pio n (.seq (.set i q m) k) env=ex Γ Δ pio n k (env.set i (some (.ow (ts.set j (.sh d))))):=by
 rw [ex_seq,ex_set,h1,Option.bind_some,if_pos hs,h2]
 simp [h3,h4]
theorem st_app{i:Nat}{m:E}{t:T}{ts:List T}(h:evX Γ pio m env=some (t,env2))(h2:owAt env2 i=some ts)(hs:sz ts.length=true):ex Γ Δ pio n (.seq (.app i m) k) env=ex Γ Δ pio n k (env2.set i (some (.ow (ts++[t])))):=by
 rw [ex_seq,ex_app,h,Option.bind_some,show owAt (t,env2).2 i=some ts from h2,Option.bind_some,if_pos hs];rfl
theorem st_ins{i:Nat}{q m:E}{d:D}{z:Nat}{ts:List T}(h1:ev Γ q (dEnv env)=some (.int z))(h2:ev Γ m (dEnv env)=some d)(h3:owAt env i=some ts)(hs:scal d=true)(hz:z≤ts.length)(hl:sz ts.length=true):ex Γ Δ pio n (.seq (.ins i q m) k) env=ex Γ Δ pio n k (env.set i (some (.ow (ts.take z++.sh d::ts.drop z)))):=by
 rw [ex_seq,show ex Γ Δ pio n (.ins i q m) env=((ev Γ q (dEnv env)).bind intD).bind fun z=>(ev Γ m (dEnv env)).bind fun d=>(owAt env i).bind fun ts=>if scal d&&decide (0≤z∧z≤ts.length)&&sz ts.length then some (.nx,env.set i (some (.ow (ts.take z.toNat++.sh d::ts.drop z.toNat))))else none from rfl,h1,h2,h3]
 simp only [Option.bind_some,intD_int]
 rw [if_pos (by rw [hs,hl,decide_eq_true (by omega)];rfl),Int.toNat_natCast];rfl
theorem st_drop{m:E}{t:T}(h:evX Γ pio m env=some (t,env2)):ex Γ Δ pio n (.seq (.drop m) k) env=ex Γ Δ pio n k env2:=by
 rw [ex_seq,ex_drop,h];rfl
end
end MI
end
noncomputable section
namespace MI
open PySem L2
noncomputable def b_is_whole:S:=(.seq (.ret (.and (.isi (.var 0) 0) (.not (.isi (.var 0) 1))))
 .nop)
noncomputable def b_first_met:S:=(.seq (.ife (.or (.not (.call 0 (.cons (.var 0) .nil))) (.or (.not (.ch .LtE .Lt (.int 0) (.var 0) (.un .len (.var 1)))) (.idx (.var 1) (.var 0))))
 (.seq (.ret (.bl false))
 .nop) .nop)
 (.seq (.set 1 (.var 0) (.bl true))
 (.seq (.ret (.bl true))
 .nop)))
noncomputable def b_is_row:S:=(.seq (.ife (.not (.isi (.var 0) 2))
 (.seq (.ret (.bl false))
 .nop) .nop)
 (.seq (.asg 1 (.bin .Mult (.lst (.cons (.bl false) .nil)) (.un .len (.var 0))))
 (.seq (.for1 2 (.var 0)
 (.seq (.ifio true 100 1 (.cons (.var 2) (.cons (.var 1) .nil))
 (.seq (.ret (.bl false))
 .nop) .nop)
 .nop))
 (.seq (.ret (.bl true))
 .nop))))
noncomputable def b_need_row:S:=(.seq (.ife (.not (.call 1 (.cons (.var 0) .nil)))
 (.seq .raise
 .nop) .nop)
 .nop)
noncomputable def b_is_pair:S:=(.seq (.ret (.and (.isi (.var 0) 3) (.and (.cmp .Eq (.un .len (.var 0)) (.int 2)) (.and (.call 0 (.cons (.idx (.var 0) (.int 0)) .nil)) (.call 0 (.cons (.idx (.var 0) (.int 1)) .nil))))))
 .nop)
noncomputable def b_are_pairs:S:=(.seq (.ret (.and (.isi (.var 0) 2) (.un .all (.comp (.call 5 (.cons (.var 0) .nil)) [] (.var 0) .nil))))
 .nop)
noncomputable def b_back_of:S:=(.seq (.asg 1 (.bin .Mult (.lst (.cons (.int 0) .nil)) (.un .len (.var 0))))
 (.seq (.for2 2 3 (.enm (.var 0))
 (.seq (.set 1 (.var 3) (.var 2))
 .nop))
 (.seq (.ret (.var 1))
 .nop)))
noncomputable def b_run_lengths:S:=(.seq (.asg 1 (.lst .nil))
 (.seq (.asg 2 (.int 0))
 (.seq (.asg 3 (.un .neg (.int 1)))
 (.seq (.for1 4 (.call 8 (.cons (.var 0) .nil))
 (.seq (.asg 2 (.ite (.cmp .Gt (.var 4) (.var 3)) (.bin .Add (.var 2) (.int 1)) (.int 1)))
 (.seq (.app 1 (.var 2))
 (.seq (.asg 3 (.var 4))
 .nop))))
 (.seq (.ret (.var 1))
 .nop)))))
noncomputable def b_is_in_order:S:=(.seq (.ret (.cmp .Eq (.var 0) (.un .lrng (.un .len (.var 0)))))
 .nop)
noncomputable def b_after_fronting:S:=(.seq (.asg 2 (.bin .Mult (.lst (.cons (.bl false) .nil)) (.un .len (.var 0))))
 (.seq (.for1 3 (.var 1)
 (.seq (.set 2 (.var 3) (.bl true))
 .nop))
 (.seq (.ret (.bin .Add (.rev (.var 1)) (.comp (.var 0) [2] (.var 0) (.not (.idx (.var 1) (.var 0))))))
 .nop)))
noncomputable def b_after_ending:S:=(.seq (.asg 2 (.bin .Mult (.lst (.cons (.bl false) .nil)) (.un .len (.var 0))))
 (.seq (.asg 3 (.lst .nil))
 (.seq (.asg 4 (.lst .nil))
 (.seq (.for2 5 6 (.rvd (.var 1))
 (.seq (.ife (.not (.idx (.var 2) (.var 5)))
 (.seq (.set 2 (.var 5) (.bl true))
 (.seq (.ife (.cmp .Eq (.var 6) (.int 0))
 (.seq (.app 3 (.var 5))
 .nop) (.seq (.app 4 (.var 5))
 .nop))
 .nop)) .nop)
 .nop))
 (.seq (.ret (.bin .Add (.bin .Add (.var 3) (.comp (.var 0) [2] (.var 0) (.not (.idx (.var 1) (.var 0))))) (.rev (.var 4))))
 .nop)))))
noncomputable def b_copied:S:=(.seq (.retC (.var 0))
 .nop)
noncomputable def b_are_different_things:S:=(.seq (.ife (.not (.isi (.var 1) 2))
 (.seq (.ret (.bl false))
 .nop) .nop)
 (.seq (.asg 2 (.bin .Mult (.lst (.cons (.bl false) .nil)) (.var 0)))
 (.seq (.retAll 100 2 (.var 1))
 .nop)))
noncomputable def b_are_needed:S:=(.seq (.ife (.cmp .Eq (.un .len (.var 1)) (.int 0))
 (.seq (.ret (.bl true))
 .nop) .nop)
 (.seq (.asg 2 (.un .max (.var 1)))
 (.seq (.ret (.and (.cmp .Lt (.bin .Add (.var 2) (.int 1)) (.un .len (.var 0))) (.cmp .Gt (.ind (.var 0) (.var 2)) (.ind (.var 0) (.bin .Add (.var 2) (.int 1))))))
 .nop)))
noncomputable def b_are_moves_to_ends:S:=(.seq (.ret (.and (.call 6 (.cons (.var 1) .nil)) (.un .all (.comp (.and (.ch .LtE .Lt (.int 0) (.idx (.var 0) (.int 0)) (.var 1)) (.ch .LtE .LtE (.int 0) (.idx (.var 0) (.int 1)) (.int 1))) [0] (.var 1) .nil))))
 .nop)
noncomputable def b_Fronted___init__:S:=(.seq (.fst 0 "things" (.call 28 (.cons (.var 1) .nil)))
 .nop)
noncomputable def b_Fronted_shows:S:=(.seq (.ife (.or (.not (.call 1 (.cons (.var 1) .nil))) (.not (.call 31 (.cons (.un .len (.var 1)) (.cons (.fld (.var 0) "things") .nil)))))
 (.seq (.ret (.bl false))
 .nop) .nop)
 (.seq (.ret (.and (.call 21 (.cons (.call 23 (.cons (.var 1) (.cons (.fld (.var 0) "things") .nil))) .nil)) (.call 32 (.cons (.var 1) (.cons (.fld (.var 0) "things") .nil)))))
 .nop))
noncomputable def b_Ended___init__:S:=(.seq (.fst 0 "moves" (.call 28 (.cons (.var 1) .nil)))
 .nop)
noncomputable def b_Ended_shows:S:=(.seq (.ife (.or (.not (.call 1 (.cons (.var 1) .nil))) (.not (.call 33 (.cons (.un .len (.var 1)) (.cons (.fld (.var 0) "moves") .nil)))))
 (.seq (.ret (.bl false))
 .nop) .nop)
 (.seq (.ife (.cmp .NotEq (.un .len (.fld (.var 0) "moves")) (.bin .Sub (.un .len (.var 1)) (.mxd (.call 12 (.cons (.var 1) .nil)) (.int 0))))
 (.seq (.ret (.bl false))
 .nop) .nop)
 (.seq (.ret (.call 21 (.cons (.call 24 (.cons (.var 1) (.cons (.fld (.var 0) "moves") .nil))) .nil)))
 .nop)))
noncomputable def b_fronted:S:=(.seq (.drop (.call 2 (.cons (.var 0) .nil)))
 (.seq (.asg 1 (.ite (.cmp .Gt (.un .len (.var 0)) (.int 0)) (.idx (.call 12 (.cons (.var 0) .nil)) (.un .neg (.int 1))) (.int 0)))
 (.seq (.ret (.call 82 (.cons (.un .ldn (.bin .Sub (.bin .Sub (.un .len (.var 0)) (.var 1)) (.int 1))) .nil)))
 .nop)))
noncomputable def b_ended:S:=(.seq (.drop (.call 2 (.cons (.var 0) .nil)))
 (.seq (.asg 1 (.call 12 (.cons (.var 0) .nil)))
 (.seq (.asg 2 (.mxd (.var 1) (.int 0)))
 (.seq (.asg 3 (.ite (.cmp .Gt (.var 2) (.int 0)) (.bin .Add (.ind (.var 1) (.var 2)) (.int 1)) (.int 0)))
 (.seq (.asg 4 (.comp (.tup (.cons (.var 0) (.cons (.int 0) .nil))) [] (.dn (.bin .Sub (.bin .Sub (.var 3) (.var 2)) (.int 1))) .nil))
 (.seq (.asg 5 (.comp (.tup (.cons (.var 0) (.cons (.int 1) .nil))) [] (.rng2 (.var 3) (.un .len (.var 0))) .nil))
 (.seq (.ret (.call 83 (.cons (.bin .Add (.var 4) (.var 5)) .nil)))
 .nop)))))))
noncomputable def b__law_cell_at:S:=(.seq (.ife (.cmp .Lt (.var 1) (.un .len (.var 0)))
 (.seq (.ret (.idx (.var 0) (.var 1)))
 .nop) .nop)
 (.seq (.ret (.int 0))
 .nop))
noncomputable def b__law_draw:S:=(.seq (.asg 3 (.tup (.cons (.int 1000003) (.cons (.int 1000033) (.cons (.int 1000037) (.cons (.int 1000039) (.cons (.int 1000081) (.cons (.int 1000099) (.cons (.int 1000117) (.cons (.int 1000121) (.cons (.int 1000133) (.cons (.int 1000151) (.cons (.int 1000159) (.cons (.int 1000171) (.cons (.int 1000183) (.cons (.int 1000187) (.cons (.int 1000193) (.cons (.int 1000199) .nil))))))))))))))))))
 (.seq (.ret (.bin .Mod (.bin .Mod (.bin .Add (.bin .Mult (.var 0) (.int 48271)) (.bin .Mult (.var 1) (.int 69621))) (.idx (.var 3) (.bin .Mod (.var 1) (.int 16)))) (.var 2)))
 .nop))
noncomputable def b__law_row:S:=(.seq (.asg2 1 2 (.call 51 (.cons (.call 50 (.cons (.var 0) (.cons (.int 0) .nil))) (.cons (.int 6) (.cons (.int 4) .nil)))) (.lst .nil))
 (.seq (.for1 3 (.rng (.un .len (.var 0)))
 (.seq (.asg 4 (.call 51 (.cons (.idx (.var 0) (.var 3)) (.cons (.bin .Add (.bin .Mod (.var 3) (.int 5)) (.int 1)) (.cons (.bin .Add (.var 3) (.int 1)) .nil)))))
 (.seq (.ife (.cmp .Eq (.var 1) (.int 1))
 (.seq (.asg 4 (.mn (.var 4) (.call 51 (.cons (.idx (.var 0) (.var 3)) (.cons (.bin .Add (.bin .Mod (.var 3) (.int 7)) (.int 1)) (.cons (.int 4) .nil))))))
 .nop) .nop)
 (.seq (.ife (.cmp .Eq (.var 1) (.int 2))
 (.seq (.asg 4 (.mx (.var 4) (.bin .Sub (.var 3) (.call 51 (.cons (.idx (.var 0) (.var 3)) (.cons (.bin .Add (.bin .Mod (.var 3) (.int 7)) (.int 1)) (.cons (.int 4) .nil)))))))
 .nop) .nop)
 (.seq (.ife (.and (.cmp .Eq (.var 1) (.int 3)) (.cmp .Gt (.bin .Mod (.var 4) (.int 3)) (.int 0)))
 (.seq (.asg 4 (.int 0))
 .nop) .nop)
 (.seq (.ins 2 (.bin .Sub (.var 3) (.var 4)) (.var 3))
 .nop))))))
 (.seq (.ret (.var 2))
 .nop)))
noncomputable def b__law_numbers:S:=(.seq (.ife (.not (.isi (.var 0) 2))
 (.seq (.ret (.bl false))
 .nop) .nop)
 (.seq (.ret (.not (.un .any (.comp (.or (.isi (.var 0) 1) (.not (.isi (.var 0) 0))) [] (.var 0) .nil))))
 .nop))
noncomputable def b__law_pairs:S:=(.seq (.ife (.or (.not (.isi (.var 0) 2)) (.not (.un .all (.comp (.and (.isi (.var 0) 3) (.cmp .Eq (.un .len (.var 0)) (.int 2))) [] (.var 0) .nil))))
 (.seq (.ret (.bl false))
 .nop) .nop)
 (.seq (.ret (.un .all (.comp (.call 53 (.cons (.un .list (.var 0)) .nil)) [] (.var 0) .nil)))
 .nop))
noncomputable def b__law_fronted:S:=(.seq (.asg 2 (.un .list (.var 0)))
 (.seq (.for1 3 (.var 1)
 (.seq (.ife (.cmp .NotIn (.var 3) (.var 2))
 (.seq (.ret (.lst .nil))
 .nop) .nop)
 (.seq (.asg 4 (.ind (.var 2) (.var 3)))
 (.seq (.asg 2 (.bin .Add (.bin .Add (.lst (.cons (.var 3) .nil)) (.cut (.var 2) .nil (.var 4))) (.cut (.var 2) (.bin .Add (.var 4) (.int 1)) .nil)))
 .nop))))
 (.seq (.ret (.var 2))
 .nop)))
noncomputable def b__law_front_due:S:=(.seq (.ife (.cmp .NotEq (.call 61 (.cons (.var 0) (.cons (.var 1) .nil))) (.un .lrng (.un .len (.var 0))))
 (.seq (.ret (.bl false))
 .nop) .nop)
 (.seq (.asg 2 (.un .len (.var 1)))
 (.seq (.ife (.cmp .NotEq (.un .lset (.var 1)) (.var 2))
 (.seq (.ret (.bl false))
 .nop) .nop)
 (.seq (.ret (.or (.cmp .Eq (.var 2) (.int 0)) (.and (.cmp .Lt (.var 2) (.un .len (.var 0))) (.cmp .Gt (.ind (.var 0) (.bin .Sub (.var 2) (.int 1))) (.ind (.var 0) (.var 2))))))
 .nop))))
noncomputable def b__law_ended:S:=(.seq (.asg 2 (.un .list (.var 0)))
 (.seq (.for2 3 4 (.var 1)
 (.seq (.ife (.or (.cmp .NotIn (.var 3) (.var 2)) (.cmp .NotIn (.var 4) (.tup (.cons (.int 0) (.cons (.int 1) .nil)))))
 (.seq (.ret (.lst .nil))
 .nop) .nop)
 (.seq (.asg 5 (.ind (.var 2) (.var 3)))
 (.seq (.asg 2 (.bin .Add (.cut (.var 2) .nil (.var 5)) (.cut (.var 2) (.bin .Add (.var 5) (.int 1)) .nil)))
 (.seq (.asg 2 (.ite (.cmp .Eq (.var 4) (.int 1)) (.bin .Add (.var 2) (.lst (.cons (.var 3) .nil))) (.bin .Add (.lst (.cons (.var 3) .nil)) (.var 2))))
 .nop)))))
 (.seq (.ret (.var 2))
 .nop)))
noncomputable def b__law_run:S:=(.seq (.asg2 1 2 (.int 0) (.int 0))
 (.seq (.for1 3 (.rng (.un .len (.var 0)))
 (.seq (.asg 2 (.ite (.and (.cmp .Gt (.var 3) (.int 0)) (.cmp .Gt (.ind (.var 0) (.var 3)) (.ind (.var 0) (.bin .Sub (.var 3) (.int 1))))) (.bin .Add (.var 2) (.int 1)) (.int 1)))
 (.seq (.asg 1 (.mx (.var 1) (.var 2)))
 .nop)))
 (.seq (.ret (.var 1))
 .nop)))
noncomputable def b__law_end_due:S:=(.seq (.ife (.cmp .NotEq (.call 63 (.cons (.var 0) (.cons (.var 1) .nil))) (.un .lrng (.un .len (.var 0))))
 (.seq (.ret (.bl false))
 .nop) .nop)
 (.seq (.ret (.cmp .Eq (.un .len (.var 1)) (.bin .Sub (.un .len (.var 0)) (.call 64 (.cons (.var 0) .nil)))))
 .nop))
noncomputable def b_law:S:=(.seq (.asg 1 (.call 52 (.cons (.var 0) .nil)))
 (.seq (.asg3 2 3 4 (.un .list (.var 1)) (.rev (.var 1)) (.bin .Add (.var 1) (.lst (.cons (.un .len (.var 1)) .nil))))
 (.seq (.for1 5 (.rng (.int 2))
 (.seq (.asg 6 (.call 37 (.cons (.var 2) .nil)))
 (.seq (.ife (.or (.cmp .NotEq (.var 2) (.var 1)) (.or (.not (.isc (.var 6) 0)) (.not (.isc (.var 6) 2))))
 (.seq (.ret (.bl false))
 .nop) .nop)
 (.seq (.ife (.or (.isc (.var 6) 1) (.or (.isc (.var 6) 3) (.isc (.var 6) 4)))
 (.seq (.ret (.bl false))
 .nop) .nop)
 (.seq (.ife (.or (.not (.call 53 (.cons (.fld (.var 6) "things") .nil))) (.not (.call 62 (.cons (.var 1) (.cons (.fld (.var 6) "things") .nil)))))
 (.seq (.ret (.bl false))
 .nop) .nop)
 (.seq (.ife (.or (.cmp .IsNot (.meth (.var 6) 0 (.cons (.var 1) .nil)) (.bl true)) (.cmp .NotEq (.meth (.var 6) 0 (.cons (.var 3) .nil)) (.call 62 (.cons (.var 3) (.cons (.fld (.var 6) "things") .nil)))))
 (.seq (.ret (.bl false))
 .nop) .nop)
 (.seq (.ife (.cmp .NotEq (.meth (.var 6) 0 (.cons (.var 4) .nil)) (.call 62 (.cons (.var 4) (.cons (.fld (.var 6) "things") .nil))))
 (.seq (.ret (.bl false))
 .nop) .nop)
 (.seq (.appF 6 "things" (.int 0))
 (.seq (.ife (.cmp .NotEq (.meth (.var 6) 0 (.cons (.var 1) .nil)) (.call 62 (.cons (.var 1) (.cons (.fld (.var 6) "things") .nil))))
 (.seq (.ret (.bl false))
 .nop) .nop)
 (.seq (.asg 6 (.call 38 (.cons (.var 2) .nil)))
 (.seq (.ife (.or (.cmp .NotEq (.var 2) (.var 1)) (.or (.not (.isc (.var 6) 0)) (.not (.isc (.var 6) 3))))
 (.seq (.ret (.bl false))
 .nop) .nop)
 (.seq (.ife (.or (.isc (.var 6) 1) (.or (.isc (.var 6) 2) (.isc (.var 6) 4)))
 (.seq (.ret (.bl false))
 .nop) .nop)
 (.seq (.ife (.or (.not (.call 54 (.cons (.fld (.var 6) "moves") .nil))) (.not (.call 65 (.cons (.var 1) (.cons (.fld (.var 6) "moves") .nil)))))
 (.seq (.ret (.bl false))
 .nop) .nop)
 (.seq (.ife (.or (.cmp .IsNot (.meth (.var 6) 0 (.cons (.var 1) .nil)) (.bl true)) (.cmp .NotEq (.meth (.var 6) 0 (.cons (.var 3) .nil)) (.call 65 (.cons (.var 3) (.cons (.fld (.var 6) "moves") .nil)))))
 (.seq (.ret (.bl false))
 .nop) .nop)
 (.seq (.ife (.cmp .NotEq (.meth (.var 6) 0 (.cons (.var 4) .nil)) (.call 65 (.cons (.var 4) (.cons (.fld (.var 6) "moves") .nil))))
 (.seq (.ret (.bl false))
 .nop) .nop)
 (.seq (.appF 6 "moves" (.tup (.cons (.int 0) (.cons (.int 0) .nil))))
 (.seq (.ife (.cmp .IsNot (.meth (.var 6) 0 (.cons (.var 1) .nil)) (.bl false))
 (.seq (.ret (.bl false))
 .nop) .nop)
 .nop)))))))))))))))))
 (.seq (.ret (.bl true))
 .nop))))
end MI
end
noncomputable section
namespace MI
open PySem L2
noncomputable def Γ0:Tab:=fun _=>none
noncomputable def Δ0:IOT:=fun _=>none
noncomputable def g_is_whole:List D→Option T:=gP Γ0 Δ0 100 ["value"] 1 b_is_whole
noncomputable def Γ1:Tab:=extT Γ0 0 g_is_whole
noncomputable def g_first_met:List D→Option (T×List D):=gQ Γ1 Δ0 100 ["thing","met"] 1 2 b_first_met
noncomputable def Δ1:IOT:=extI Δ0 100 1 g_first_met
noncomputable def g_is_row:List D→Option T:=gP Γ1 Δ1 100 ["value","met","thing"] 1 b_is_row
noncomputable def Γ2:Tab:=extT Γ1 1 g_is_row
noncomputable def g_need_row:List D→Option T:=gP Γ2 Δ1 100 ["value"] 1 b_need_row
noncomputable def Γ3:Tab:=extT Γ2 2 g_need_row
noncomputable def g_is_pair:List D→Option T:=gP Γ3 Δ1 100 ["value"] 1 b_is_pair
noncomputable def Γ4:Tab:=extT Γ3 5 g_is_pair
noncomputable def g_are_pairs:List D→Option T:=gP Γ4 Δ1 100 ["value"] 1 b_are_pairs
noncomputable def Γ5:Tab:=extT Γ4 6 g_are_pairs
noncomputable def g_back_of:List D→Option T:=gP Γ5 Δ1 100 ["row","told","place","thing"] 1 b_back_of
noncomputable def Γ6:Tab:=extT Γ5 8 g_back_of
noncomputable def g_run_lengths:List D→Option T:=gP Γ6 Δ1 100 ["row","lengths","length","earlier","place"] 1 b_run_lengths
noncomputable def Γ7:Tab:=extT Γ6 12 g_run_lengths
noncomputable def g_is_in_order:List D→Option T:=gP Γ7 Δ1 100 ["row"] 1 b_is_in_order
noncomputable def Γ8:Tab:=extT Γ7 21 g_is_in_order
noncomputable def g_after_fronting:List D→Option T:=gP Γ8 Δ1 100 ["row","things","moved","thing"] 2 b_after_fronting
noncomputable def Γ9:Tab:=extT Γ8 23 g_after_fronting
noncomputable def g_after_ending:List D→Option T:=gP Γ9 Δ1 100 ["row","moves","moved","front","rear","thing","end"] 2 b_after_ending
noncomputable def Γ10:Tab:=extT Γ9 24 g_after_ending
noncomputable def g_copied:List D→Option T:=gP Γ10 Δ1 100 ["told"] 1 b_copied
noncomputable def Γ11:Tab:=extT Γ10 28 g_copied
noncomputable def g_are_different_things:List D→Option T:=gP Γ11 Δ1 100 ["many","things","met"] 2 b_are_different_things
noncomputable def Γ12:Tab:=extT Γ11 31 g_are_different_things
noncomputable def g_are_needed:List D→Option T:=gP Γ12 Δ1 100 ["row","things","greatest"] 2 b_are_needed
noncomputable def Γ13:Tab:=extT Γ12 32 g_are_needed
noncomputable def g_are_moves_to_ends:List D→Option T:=gP Γ13 Δ1 100 ["many","moves"] 2 b_are_moves_to_ends
noncomputable def Γ14:Tab:=extT Γ13 33 g_are_moves_to_ends
noncomputable def g_Fronted___init__:List D→Option T:=gI Γ14 Δ1 100 ["self","things"] 2 2 b_Fronted___init__
noncomputable def Γ15:Tab:=extT Γ14 82 g_Fronted___init__
noncomputable def g_Fronted_shows:List D→Option T:=gP Γ15 Δ1 100 ["self","row"] 2 b_Fronted_shows
noncomputable def Γ16:Tab:=extT Γ15 (mid 2 0) g_Fronted_shows
noncomputable def g_Ended___init__:List D→Option T:=gI Γ16 Δ1 100 ["self","moves"] 3 2 b_Ended___init__
noncomputable def Γ17:Tab:=extT Γ16 83 g_Ended___init__
noncomputable def g_Ended_shows:List D→Option T:=gP Γ17 Δ1 100 ["self","row"] 2 b_Ended_shows
noncomputable def Γ18:Tab:=extT Γ17 (mid 3 0) g_Ended_shows
noncomputable def g_fronted:List D→Option T:=gP Γ18 Δ1 100 ["row","left"] 1 b_fronted
noncomputable def Γ19:Tab:=extT Γ18 37 g_fronted
noncomputable def g_ended:List D→Option T:=gP Γ19 Δ1 100 ["row","lengths","longest","behind_run","to_front","to_back"] 1 b_ended
noncomputable def Γ20:Tab:=extT Γ19 38 g_ended
noncomputable def g__law_cell_at:List D→Option T:=gP Γ20 Δ1 100 ["_law_script","_law_k"] 2 b__law_cell_at
noncomputable def Γ21:Tab:=extT Γ20 50 g__law_cell_at
noncomputable def g__law_draw:List D→Option T:=gP Γ21 Δ1 100 ["_law_cell","_law_k","_law_many","_law_primes"] 3 b__law_draw
noncomputable def Γ22:Tab:=extT Γ21 51 g__law_draw
noncomputable def g__law_row:List D→Option T:=gP Γ22 Δ1 100 ["_law_script","_law_kind","_law_row_here","_law_k","_law_away"] 1 b__law_row
noncomputable def Γ23:Tab:=extT Γ22 52 g__law_row
noncomputable def g__law_numbers:List D→Option T:=gP Γ23 Δ1 100 ["_law_found"] 1 b__law_numbers
noncomputable def Γ24:Tab:=extT Γ23 53 g__law_numbers
noncomputable def g__law_pairs:List D→Option T:=gP Γ24 Δ1 100 ["_law_found"] 1 b__law_pairs
noncomputable def Γ25:Tab:=extT Γ24 54 g__law_pairs
noncomputable def g__law_fronted:List D→Option T:=gP Γ25 Δ1 100 ["_law_row_here","_law_things","_law_found","_law_thing","_law_at"] 2 b__law_fronted
noncomputable def Γ26:Tab:=extT Γ25 61 g__law_fronted
noncomputable def g__law_front_due:List D→Option T:=gP Γ26 Δ1 100 ["_law_row_here","_law_things","_law_many"] 2 b__law_front_due
noncomputable def Γ27:Tab:=extT Γ26 62 g__law_front_due
noncomputable def g__law_ended:List D→Option T:=gP Γ27 Δ1 100 ["_law_row_here","_law_moves","_law_found","_law_thing","_law_end","_law_at"] 2 b__law_ended
noncomputable def Γ28:Tab:=extT Γ27 63 g__law_ended
noncomputable def g__law_run:List D→Option T:=gP Γ28 Δ1 100 ["_law_row_here","_law_best","_law_many","_law_thing"] 1 b__law_run
noncomputable def Γ29:Tab:=extT Γ28 64 g__law_run
noncomputable def g__law_end_due:List D→Option T:=gP Γ29 Δ1 100 ["_law_row_here","_law_moves"] 2 b__law_end_due
noncomputable def Γ30:Tab:=extT Γ29 65 g__law_end_due
noncomputable def g_law:List D→Option T:=gP Γ30 Δ1 100 ["_law_script","_law_row_here","_law_handed","_law_other","_law_more","_law_again","_law_found"] 1 b_law
end MI
end
noncomputable section
namespace MI
open PySem L2
noncomputable def ci(r:List Nat):List Int:=r.map fun n:Nat=>(n:Int)
noncomputable def nl(r:List Nat):List D:=r.map fun n:Nat=>D.int n
noncomputable def nD(r:List Nat):D:=.lst (nl r)
noncomputable def nT(r:List Nat):T:=.ow ((nl r).map T.sh)
noncomputable def nDD(R:List (List Nat)):D:=.lst (R.map nD)
noncomputable def nTT(R:List (List Nat)):T:=.ow (R.map nT)
theorem nl_ci(r:List Nat):nl r=(ci r).map D.int:=by simp [nl,ci]
@[simp] theorem nl_length(r:List Nat):(nl r).length=r.length:=by simp [nl]
@[simp] theorem strip_nT(r:List Nat):strip (nT r)=nD r:=by rw [nT,nD,strip_ow,map_strip_sh]
@[simp] theorem strip_nTT(R:List (List Nat)):strip (nTT R)=nDD R:=by
  simp only [nTT,nDD,strip_ow,List.map_map]
  congr 1
  exact List.map_congr_left fun r _=>strip_nT r
@[simp] theorem all_scal_nl(r:List Nat):(nl r).all scal=true:=by simp [nl]
@[simp] theorem flat_nT(r:List Nat):flatT (nT r)=true:=by simp [nT,nl]
@[simp] theorem flat_nTT(R:List (List Nat)):flatT (nTT R)=true:=by simp [nTT]
theorem ci_inj{a b:List Nat}(h:ci a=ci b):a=b:=by
 induction a generalizing b with
 |nil=>cases b with
  |nil=>rfl
  |cons _ _=>cases h
 |cons x r ih=>cases b with
  |nil=>cases h
  |cons y t=>
   simp only [ci,List.map_cons,List.cons.injEq]at h
   rw [show x=y by omega,ih h.2]
theorem bl_at{m:List Bool}{i:Nat}(h:i<m.length):atI (m.map D.bl) (i:Int)=some (.bl (m.getD i false)):=atI_nat (by simp [h])
theorem ixN_nat{n i:Nat}(h:i<n):ixN n (i:Int)=some i:=by
 unfold ixN
 rw [if_pos (by omega),if_pos (by omega),Int.toNat_natCast]
theorem toPys_ints(xs:List Int):toPys (xs.map D.int)=some (xs.map PyData.int):=by
 induction xs with
 |nil=>simp [toPys]
 |cons x r ih=>simp [toPys,toPy,ih]
theorem canLay_ints(xs:List Int):PyData.canLayAll0 (xs.map PyData.int)=true:=by
 induction xs with
 |nil=>simp [PyData.canLayAll0]
 |cons x r ih=>simp [PyData.canLayAll0,PyData.canLay0,ih]
theorem depth_ints(xs:List Int):PyData.depthAll (xs.map PyData.int)=0:=by
 induction xs with
 |nil=>simp [PyData.depthAll]
 |cons x r ih=>simp [PyData.depthAll,PyData.depth,ih]
theorem noMix_ints(xs ys:List Int):PySem.SeqAt.noMixAll (xs.map PyData.int) (ys.map PyData.int)=true:=by
 induction xs generalizing ys with
 |nil=>cases ys<;>simp [PySem.SeqAt.noMixAll]
 |cons x r ih=>cases ys<;>simp [PySem.SeqAt.noMixAll,PySem.SeqAt.noMix,ih]
theorem same_ints(xs ys:List Int):PySem.Spec.sameAll (xs.map PyData.int) (ys.map PyData.int)=decide (xs=ys):=by
 induction xs generalizing ys with
 |nil=>cases ys<;>simp [PySem.Spec.sameAll]
 |cons x r ih=>cases ys with
  |nil=>simp [PySem.Spec.sameAll]
  |cons y t=>
   simp [PySem.Spec.sameAll,PySem.Spec.same,ih]
   by_cases e:x=y<;>simp [e]
@[simp] theorem eq_ii(i j:Int):eqD (.int i) (.int j)=some (decide (i=j)):=by
  have h:∀i:Int,PySem.SeqAt.shaped (.int i)=true:=fun i=>by simp [PySem.SeqAt.shaped,PyData.canLay0,PyData.depth]
  simp [eqD,toPy,h,PySem.SeqAt.noMix,PySem.Spec.same]
  by_cases e:i=j<;>simp [e]
theorem eq_il(xs ys:List Int):eqD (.lst (xs.map D.int)) (.lst (ys.map D.int))=some (decide (xs=ys)):=by
 have h:∀i:List Int,PySem.SeqAt.shaped (.list (i.map PyData.int))=true:=fun i=>by simp [PySem.SeqAt.shaped,PyData.canLay0,PyData.depth,canLay_ints,depth_ints]
 simp [eqD,toPy,toPys_ints,h,PySem.SeqAt.noMix,PySem.Spec.same,noMix_ints,same_ints]
@[simp] theorem eq_nn(a b:List Nat):eqD (nD a) (nD b)=some (decide (a=b)):=by
  unfold nD
  rw [nl_ci,nl_ci,eq_il]
  congr 1
  by_cases e:a=b
  ·simp [e]
  ·rw [decide_eq_false e,decide_eq_false fun h=>e (ci_inj h)]
noncomputable def pL(R:List (List Int)):List PyData:=R.map fun r=> .list (r.map PyData.int)
@[simp] theorem evX_bl(Γ:Tab)(pio:Option Nat)(b:Bool)(env:TEnv):evX Γ pio (.bl b) env=some (.sh (.bl b),env):=rfl
@[simp] theorem evX_int(Γ:Tab)(pio:Option Nat)(b:Int)(env:TEnv):evX Γ pio (.int b) env=some (.sh (.int b),env):=rfl
@[simp] theorem evX_nilL(Γ:Tab)(pio:Option Nat)(env:TEnv):evX Γ pio (.lst .nil) env=some (.ow [],env):=rfl
theorem forL_inv{step:D→TEnv→Option (Fl×TEnv)}(I:Nat→TEnv→Prop):∀(ds:List D) (env:TEnv) (j:Nat),I j env→(∀k d e,ds[k]?=some d→I (j+k) e→∃e',step d e=some (.nx,e')∧I (j+k+1) e')→∃e',forL step ds env=some (.nx,e')∧I (j+ds.length) e'
 |[],env,j,h0,_=>⟨env,rfl,h0⟩
 |d::r,env,j,h0,hs=>by
  obtain⟨e1,h1,h2⟩:=hs 0 d env rfl h0
  obtain⟨e',h3,h4⟩:=forL_inv I r e1 (j+1) h2 fun k d' e hd hI=>by
   have:=hs (k+1) d' e hd (by rwa [show j+(k+1)=j+1+k by omega])
   rwa [show j+(k+1)+1=j+1+k+1 by omega]at this
  refine⟨e',?_,by rwa [List.length_cons,show j+(r.length+1)=j+1+r.length by omega]⟩
  show(step d env).bind _=_
  rw [h1]
  exact h3
theorem forL_from{step:D→TEnv→Option (Fl×TEnv)}(I:Nat→TEnv→Prop){ds:List D}{env:TEnv}(h0:I 0 env)(hs:∀k d e,ds[k]?=some d→I k e→∃e',step d e=some (.nx,e')∧I (k+1) e'):∃e',forL step ds env=some (.nx,e')∧I ds.length e':=by
 have:=forL_inv I ds env 0 h0 fun k d e hd hI=>by
  rw [Nat.zero_add]at hI⊢
  exact hs k d e hd hI
 rwa [Nat.zero_add]at this
theorem evIO_ok{Γ:Tab}{Δ:IOT}{f i k:Nat}{args:E}{env:TEnv}{g:List D→Option (T×List D)}{ds ds' l:List D}{t:T}(hg:Δ f=some (k,g))(he:env[i]?=some (some (.ow (ds.map T.sh))))(hs:ds.all scal=true)(ha:evA Γ i ds (dEnv (env.set i none)) k args=some l)(h:g l=some (t,ds'))(ht:flatT t=true)(hs':ds'.all scal=true):evIO Γ Δ f i args env=some (t,env.set i (some (.ow (ds'.map T.sh)))):=by
 unfold evIO
 rw [hg,Option.bind_some,he]
 show(unsh (ds.map T.sh)).bind _=_
 rw [unsh_sh,Option.bind_some,if_pos hs,ha,Option.bind_some,show(k,g).2 l=some (t,ds')from h,Option.bind_some,if_pos (by rw [ht,hs'];rfl)]
theorem mul_false{n:Nat}(h:n≤1000000):binD .Mult (.lst [.bl false]) (.int n)=some (.lst ((List.replicate n false).map D.bl)):=by
 have e:(List.replicate n [D.bl false]).flatten=(List.replicate n false).map D.bl:=by
  clear h
  induction n with
  |zero=>rfl
  |succ n ih=>rw [List.replicate_succ,List.flatten_cons,ih];rfl
 show(if sz ([D.bl false].length*(n:Int).toNat)&&decide (-(2 ^ 62)≤(n:Int)∧(n:Int)<2 ^ 62)then some (D.lst (List.replicate (n:Int).toNat [D.bl false]).flatten)else none)=_
 rw [Int.toNat_natCast,if_pos,e]
 rw [Bool.and_eq_true]
 exact⟨sz_of (by simpa using h),decide_eq_true (by omega)⟩
theorem gP_rt1{Γ:Tab}{Δ:IOT}{m:Nat}{N:List Str}{ar:Nat}{body:S}{ds:List D}{t:T}(hl:ds.length=ar)(h:(ex Γ Δ none m body (startT N ds)).map (·.1)=some (.rt t)):gP Γ Δ m N ar body ds=some t:=by
 obtain⟨⟨fl,env⟩,h1,h2⟩:=msi h
 cases h2
 exact gP_rt hl h1
theorem gP_nx1{Γ:Tab}{Δ:IOT}{m:Nat}{N:List Str}{ar:Nat}{body:S}{ds:List D}(hl:ds.length=ar)(h:(ex Γ Δ none m body (startT N ds)).map (·.1)=some .nx):gP Γ Δ m N ar body ds=some (.sh .non):=by
 obtain⟨⟨fl,env⟩,h1,h2⟩:=msi h
 cases h2
 exact gP_nx hl h1
structure Mk(n:Nat)(L:List Nat)(met:List Bool):Prop where
 len:met.length=n
 at':∀y,y<n→met.getD y false=decide (y∈L)
theorem Mk.start(n:Nat):Mk n [] (List.replicate n false):=⟨by simp,fun y hy=>by simp [hy]⟩
theorem Mk.more{n:Nat}{L:List Nat}{met:List Bool}(h:Mk n L met){x:Nat}(hx:x<n):Mk n (L++[x]) (met.set x true):=⟨by simp [h.len],fun y hy=>by
 rw [Bo.getD_set (by rw [h.len];exact hx),h.at' y hy]
 by_cases e:y=x<;>simp [e]⟩
@[simp] theorem is_whole_int(i:Int):g_is_whole [.int i]=some (.sh (.bl true)):=rfl
theorem first_met_ok{x:Nat}{bs:List Bool}(h:x<bs.length)(h0:bs.getD x false=false):g_first_met [.int x,.lst (bs.map D.bl)]=some (.sh (.bl true),(bs.set x true).map D.bl):=by
 refine gQ_rt (env:=[some (.sh (.int x)),some (.ow (((bs.set x true).map D.bl).map T.sh))]) rfl ?_ (by simp)
 have hs:startIO ["thing","met"] 1 [D.int x,D.lst (bs.map D.bl)]=[some (.sh (.int x)),some (.ow ((bs.map D.bl).map T.sh))]:=by simp [startIO,ioAt,listD]
 have hw:Γ1 0=some g_is_whole:=rfl
 have hlt:(x:Int)<(bs.length:Int):=by omega
 rw [hs]
 unfold b_first_met
 simp only [ex_seq,ex_ife]
 have hc:evB Γ1 (.or (.not (.call 0 (.cons (.var 0) .nil))) (.or (.not (.ch .LtE .Lt (.int 0) (.var 0) (.un .len (.var 1)))) (.idx (.var 1) (.var 0)))) (dEnv [some (.sh (.int x)),some (.ow ((bs.map D.bl).map T.sh))])=some false:=by
  simp only [dEnv_cons,dEnv_nil,Option.map_some,strip_sh,strip_ow,map_strip_sh,evB,ev_or,ev_not,ev_call,ev_cons,ev_nil,ev_var,hw]
  simp [hlt,bl_at h,-List.getD_eq_getElem?_getD]
  simpa using h0
 rw [hc]
 have hi:=ixN_nat h
 simp [ex_set,hi]
theorem is_row_ok{r:List Nat}(h:Bo.IsRow r)(hl:r.length≤1000000):g_is_row [nD r]=some (.sh (.bl true)):=by
 have hs:startT ["value","met","thing"] [nD r]=[some (.sh (nD r)),none,none]:=rfl
 have e1:evX Γ1 none (.bin .Mult (.lst (.cons (.bl false) .nil)) (.un .len (.var 0))) [some (.sh (nD r)),none,none]=some (.ow (((List.replicate r.length false).map D.bl).map T.sh),[some (.sh (nD r)),none,none]):=by
  refine evX_flat rfl rfl ?_ (by simp)
  have:sz 1=true:=rfl
  simp [nD,this,mul_false hl,-List.map_replicate]
 obtain⟨env',hf,x,y,rfl,_⟩:=forL_from (step:=fun d e=>ex Γ1 Δ1 none 100 (.seq (.ifio true 100 1 (.cons (.var 2) (.cons (.var 1) .nil)) (.seq (.ret (.bl false)) .nop) .nop) .nop) (e.set 2 (some (.sh d)))) (fun k e=>∃met x,e=[some (.sh (nD r)),some (.ow ((met.map D.bl).map T.sh)),x]∧Mk r.length (r.take k) met) (ds:=nl r) (env:=[some (.sh (nD r)),some (.ow (((List.replicate r.length false).map D.bl).map T.sh)),none]) ⟨_,_,rfl,by simpa using Mk.start _⟩ (fun k d e hd ⟨met,x,he,hm⟩=>by
  subst he
  have hk:k<r.length:=by simpa using(List.getElem?_eq_some_iff.mp hd).1
  obtain rfl:d=.int (Bo.ap r k:Nat):=by
   rw [nl,List.getElem?_map,Bo.ap_get? hk]at hd
   exact(Option.some.inj hd).symm
  have hlt:=h.lt hk
  have hn:Bo.ap r k∉r.take k:=fun z=>by
   obtain⟨j,hj,e⟩:=List.getElem_of_mem z
   rw [List.length_take]at hj
   have:=h.inj (i:=j) (j:=k) (by omega) hk (by rw [Bo.ap_eq (show j<r.length by omega),←e];simp)
   omega
  have h0:met.getD (Bo.ap r k) false=false:=by rw [hm.at' _ hlt];simpa using hn
  refine⟨[some (.sh (nD r)),some (.ow (((met.set (Bo.ap r k) true).map D.bl).map T.sh)),some (.sh (.int (Bo.ap r k:Nat)))],?_,_,_,rfl,?_⟩
  ·have hio:=evIO_ok (Γ:=Γ1) (Δ:=Δ1) (f:=100) (i:=1) (args:=.cons (.var 2) (.cons (.var 1) .nil)) (env:=[some (.sh (nD r)),some (.ow ((met.map D.bl).map T.sh)),some (.sh (.int (Bo.ap r k:Nat)))]) (ds:=met.map D.bl) (l:=[.int (Bo.ap r k:Nat),.lst (met.map D.bl)]) rfl rfl (by simp) rfl (first_met_ok (by rw [hm.len];exact hlt) h0) rfl (all_scal_bls _)
   simp only [ex_seq,ex_ifio,List.set_cons_succ,List.set_cons_zero]
   rw [hio]
   rfl
  ·have:=hm.more hlt
   rwa [show r.take k++[Bo.ap r k]=r.take (k+1) by rw [List.take_succ,Bo.ap_get? hk];rfl]at this)
 have hc:evB Γ1 (.not (.isi (.var 0) 2)) (dEnv [some (.sh (nD r)),none,none])=some false:=rfl
 have hx:itX Γ1 none (.var 0) [some (.sh (nD r)),some (.ow (((List.replicate r.length false).map D.bl).map T.sh)),none]=some (nl r,[some (.sh (nD r)),some (.ow (((List.replicate r.length false).map D.bl).map T.sh)),none]):=rfl
 exact gP_rt rfl ((st_skip hc).trans ((st_asg rfl e1).trans ((st_for1 rfl hx hf).trans (st_ret (by simp) (evX_bl _ _ _ _)))))
theorem need_row_ok{r:List Nat}(h:Bo.IsRow r)(hl:r.length≤1000000):g_need_row [nD r]=some (.sh .non):=by
 have hs:startT ["value"] [nD r]=[some (.sh (nD r))]:=rfl
 have hw:Γ2 1=some g_is_row:=rfl
 refine gP_nx1 rfl ?_
 rw [hs]
 simp [b_need_row,evB,hw,is_row_ok h hl]
end MI
end
noncomputable section
namespace MI
open PySem L2
theorem nl_get{r:List Nat}{k:Nat}{d:D}(h:(nl r)[k]?=some d):k<r.length∧d=.int (Bo.ap r k:Nat):=by
 have hk:k<r.length:=by simpa using(List.getElem?_eq_some_iff.mp h).1
 rw [nl,List.getElem?_map,Bo.ap_get? hk]at h
 exact⟨hk,(Option.some.inj h).symm⟩
theorem rngD_nat{n:Nat}(h:n≤1000000):rngD 0 (n:Int)=some (nl (List.range n)):=by
 unfold rngD
 rw [if_pos (decide_eq_true (by omega))]
 simp [nl]
theorem lrng_nat{n:Nat}(h:n≤1000000):unD .lrng (.int n)=some (nD (List.range n)):=by
 show(if decide (-(2 ^ 60)≤(n:Int)∧(n:Int)≤1000000)then some (D.lst ((List.range (n:Int).toNat).map fun(i:Nat)=>D.int i))else none)=_
 rw [if_pos (decide_eq_true (by omega)),Int.toNat_natCast]
 rfl
theorem ap_range{n k:Nat}(h:k<n):Bo.ap (List.range n) k=k:=Bo.ap_range h
theorem cut_lo{g:List Nat}{s:Nat}(hs:s≤g.length):cutL (nl g) (some (s:Int)) none=nl (g.drop s):=by
 unfold cutL
 rw [HT.sIx_nat,HT.sIx_none,nl_length,Nat.min_eq_left hs]
 rw [List.take_of_length_le (by simp)]
 simp [nl]
theorem cut_hi{g:List Nat}{s:Nat}(hs:s≤g.length):cutL (nl g) none (some (s:Int))=nl (g.take s):=by
 unfold cutL
 rw [HT.sIx_nat,HT.sIx_none,nl_length,Nat.min_eq_left hs]
 simp [nl]
theorem nl_append(a b:List Nat):nl a++nl b=nl (a++b):=by simp [nl]
end MI
end
noncomputable section
namespace MI
open PySem L2
noncomputable def iD(ns:List Int):D:=.lst (ns.map D.int)
theorem il_at{ns:List Int}{i:Nat}(h:i<ns.length):∃v,atI (ns.map D.int) (i:Int)=some (.int v):=⟨ns[i],atI_nat (by simp [h])⟩
theorem cell_ok(ns:List Int)(k:Nat):∃v:Int,g__law_cell_at [iD ns,.int k]=some (.sh (.int v)):=by
 by_cases h:k<ns.length
 ·obtain⟨v,hv⟩:=il_at h
  have hc:evB Γ20 (.cmp .Lt (.var 1) (.un .len (.var 0))) (dEnv [some (.sh (iD ns)),some (.sh (.int k))])=some true:=by
   simp [evB,iD,h]
  refine⟨v,gP_rt1 rfl ?_⟩
  have e:ex Γ20 Δ1 none 100 b__law_cell_at [some (.sh (iD ns)),some (.sh (.int k))]=some (.rt (.sh (.int v)),[some (.sh (iD ns)),some (.sh (.int k))]):=by
   unfold b__law_cell_at
   rw [ex_seq,ex_ife,hc,Option.bind_some,if_pos rfl,st_ret (by simp) (evX_scal (d:=.int v) rfl (by simp [iD,hv]) rfl)]
   rfl
  exact(congrArg _ e).trans rfl
 ·have hc:evB Γ20 (.cmp .Lt (.var 1) (.un .len (.var 0))) (dEnv [some (.sh (iD ns)),some (.sh (.int k))])=some false:=by
   simp [evB,iD];omega
  exact⟨0,gP_rt rfl ((st_skip hc).trans (st_ret (by simp) (evX_int _ _ _ _)))⟩
theorem mul_small(a:Int){b:Int}(h:decide (-(2 ^ 64)<b∧b<2 ^ 64)=true):binD .Mult (.int a) (.int b)=some (.int (a*b)):=by
 show(if mulOk a b then _ else _)=_
 rw [if_pos (by unfold mulOk;rw [h,Bool.or_true])]
theorem mod_pos(a:Int){b:Int}(h:0<b):binD .Mod (.int a) (.int b)=some (.int (a % b)):=by
 show(if decide (0<b)then _ else _)=_
 rw [if_pos (decide_eq_true h)]
noncomputable def PR:List Int:=[1000003,1000033,1000037,1000039,1000081,1000099,1000117,1000121,1000133,1000151,1000159,1000171,1000183,1000187,1000193,1000199]
theorem pr_at(k:Int):∃p:Int,0<p∧atI (PR.map D.int) (k % 16)=some (.int p):=by
 have h0:0≤k % 16:=Int.emod_nonneg _ (by decide)
 have h1:k % 16<16:=Int.emod_lt_of_pos _ (by decide)
 obtain⟨j,hj⟩:∃j:Nat,k % 16=j:=⟨(k % 16).toNat,by omega⟩
 rw [hj]
 have hj':j<PR.length:=by show j<16;omega
 refine⟨PR[j],?_,atI_nat (by simp [hj'])⟩
 have:∀x∈PR,(0:Int)<x:=by decide
 exact this _ (List.getElem_mem _)
theorem draw_ok(c k:Int){m:Nat}(hm:0<m):∃v:Nat,v<m∧g__law_draw [.int c,.int k,.int m]=some (.sh (.int v)):=by
 obtain⟨p,hp,hat⟩:=pr_at k
 have hv0:0≤((c*48271+k*69621) % p) % (m:Int):=Int.emod_nonneg _ (by omega)
 have hv1:((c*48271+k*69621) % p) % (m:Int)<m:=Int.emod_lt_of_pos _ (by omega)
 refine⟨(((c*48271+k*69621) % p) % (m:Int)).toNat,by omega,?_⟩
 rw [show(((((c*48271+k*69621) % p) % (m:Int)).toNat:Nat):Int)=((c*48271+k*69621) % p) % (m:Int) by omega]
 have e1:evX Γ21 none (.tup (.cons (.int 1000003) (.cons (.int 1000033) (.cons (.int 1000037) (.cons (.int 1000039) (.cons (.int 1000081) (.cons (.int 1000099) (.cons (.int 1000117) (.cons (.int 1000121) (.cons (.int 1000133) (.cons (.int 1000151) (.cons (.int 1000159) (.cons (.int 1000171) (.cons (.int 1000183) (.cons (.int 1000187) (.cons (.int 1000193) (.cons (.int 1000199) .nil))))))))))))))))) [some (.sh (.int c)),some (.sh (.int k)),some (.sh (.int m)),none]=some (.sh (.tup (PR.map D.int)),[some (.sh (.int c)),some (.sh (.int k)),some (.sh (.int m)),none]):=rfl
 have e2:ev Γ21 (.bin .Mod (.bin .Mod (.bin .Add (.bin .Mult (.var 0) (.int 48271)) (.bin .Mult (.var 1) (.int 69621))) (.idx (.var 3) (.bin .Mod (.var 1) (.int 16)))) (.var 2)) (dEnv [some (.sh (.int c)),some (.sh (.int k)),some (.sh (.int m)),some (.sh (.tup (PR.map D.int)))])=some (.int (((c*48271+k*69621) % p) % (m:Int))):=by
  simp only [dEnv_cons,dEnv_nil,Option.map_some,strip_sh,ev_bin,ev_var,ev_int,ev_idx,List.getElem?_cons_zero,List.getElem?_cons_succ,Option.join_some,Option.bind_some]
  rw [mul_small c (by decide),mul_small k (by decide),mod_pos k (by decide)]
  simp only [Option.bind_some,add_ii,idx_tup]
  rw [hat,Option.bind_some,mod_pos _ hp,Option.bind_some,mod_pos _ (by omega)]
 exact gP_rt rfl ((st_asg rfl e1).trans (st_ret (by simp) (evX_scal rfl e2 rfl)))
theorem ins_row{r:List Nat}(h:Bo.IsRow r){z:Nat}:Bo.IsRow (r.take z++r.length::r.drop z):=by
 have p:(r.take z++r.length::r.drop z).Perm (r.length::r):=by
  have:=List.perm_middle (l₁:=r.take z) (l₂:=r.drop z) (a:=r.length)
  rwa [List.take_append_drop]at this
 unfold Bo.IsRow
 rw [p.length_eq,List.length_cons,List.range_succ]
 exact p.trans ((h.cons _).trans (List.perm_append_singleton _ _).symm)
theorem row_ok(ns:List Int)(hl:ns.length≤63):∃r,Bo.IsRow r∧r.length=ns.length∧g__law_row [iD ns]=some (nT r):=by
 have w50:Γ22 50=some g__law_cell_at:=rfl
 have w51:Γ22 51=some g__law_draw:=rfl
 obtain⟨c0,hc0⟩:=cell_ok ns 0
 obtain⟨kind,hkind,hk0⟩:=draw_ok c0 6 (m:=4) (by decide)
 have e1:evX Γ22 none (.call 51 (.cons (.call 50 (.cons (.var 0) (.cons (.int 0) .nil))) (.cons (.int 6) (.cons (.int 4) .nil)))) [some (.sh (iD ns)),none,none,none,none]=some (.sh (.int kind),[some (.sh (iD ns)),none,none,none,none]):=by
  refine evX_callF w51 (l:=[.int c0,.int 6,.int 4]) ?_ hk0 rfl
  have hc0':g__law_cell_at [iD ns,.int 0]=some (.sh (.int c0)):=hc0
  simp [evs,w50,hc0']
 obtain⟨env',hf,r,x,y,rfl,hr,hrl⟩:=forL_from (step:=fun d e=>ex Γ22 Δ1 none 100 (.seq (.asg 4 (.call 51 (.cons (.idx (.var 0) (.var 3)) (.cons (.bin .Add (.bin .Mod (.var 3) (.int 5)) (.int 1)) (.cons (.bin .Add (.var 3) (.int 1)) .nil)))))
 (.seq (.ife (.cmp .Eq (.var 1) (.int 1))
 (.seq (.asg 4 (.mn (.var 4) (.call 51 (.cons (.idx (.var 0) (.var 3)) (.cons (.bin .Add (.bin .Mod (.var 3) (.int 7)) (.int 1)) (.cons (.int 4) .nil))))))
 .nop) .nop)
 (.seq (.ife (.cmp .Eq (.var 1) (.int 2))
 (.seq (.asg 4 (.mx (.var 4) (.bin .Sub (.var 3) (.call 51 (.cons (.idx (.var 0) (.var 3)) (.cons (.bin .Add (.bin .Mod (.var 3) (.int 7)) (.int 1)) (.cons (.int 4) .nil)))))))
 .nop) .nop)
 (.seq (.ife (.and (.cmp .Eq (.var 1) (.int 3)) (.cmp .Gt (.bin .Mod (.var 4) (.int 3)) (.int 0)))
 (.seq (.asg 4 (.int 0))
 .nop) .nop)
 (.seq (.ins 2 (.bin .Sub (.var 3) (.var 4)) (.var 3))
 .nop))))) (e.set 3 (some (.sh d)))) (fun k e=>∃r x y,e=[some (.sh (iD ns)),some (.sh (.int kind)),some (nT r),x,y]∧Bo.IsRow r∧r.length=k) (ds:=nl (List.range ns.length)) (env:=[some (.sh (iD ns)),some (.sh (.int kind)),some (.ow []),none,none]) ⟨[],_,_,rfl,Bo.isRow_range 0,rfl⟩ (fun k d e hd ⟨r,x,y,he,hr,hrl⟩=>by
  subst he
  obtain⟨hk,rfl⟩:=nl_get hd
  rw [List.length_range]at hk
  rw [ap_range hk]
  obtain⟨c,hat⟩:=il_at hk
  have hm5:∀q:Int,0<q→binD .Mod (.int k) (.int q)=some (.int ((k:Int) % q)):=fun q hq=>mod_pos _ hq
  obtain⟨a1,ha1,hg1⟩:=draw_ok c ((k:Int) % 5+1) (m:=k+1) (by omega)
  obtain⟨a2,ha2,hg2⟩:=draw_ok c ((k:Int) % 7+1) (m:=4) (by omega)
  have s1:∀y,evX Γ22 none (.call 51 (.cons (.idx (.var 0) (.var 3)) (.cons (.bin .Add (.bin .Mod (.var 3) (.int 5)) (.int 1)) (.cons (.bin .Add (.var 3) (.int 1)) .nil)))) [some (.sh (iD ns)),some (.sh (.int kind)),some (nT r),some (.sh (.int k)),y]=some (.sh (.int a1),[some (.sh (iD ns)),some (.sh (.int kind)),some (nT r),some (.sh (.int k)),y]):=fun y=>by
   refine evX_callF w51 (l:=[.int c,.int ((k:Int) % 5+1),.int ((k+1:Nat):Int)]) ?_ hg1 rfl
   simp [evs,iD,hat,hm5]
  have d2:∀y,ev Γ22 (.call 51 (.cons (.idx (.var 0) (.var 3)) (.cons (.bin .Add (.bin .Mod (.var 3) (.int 7)) (.int 1)) (.cons (.int 4) .nil)))) (dEnv [some (.sh (iD ns)),some (.sh (.int kind)),some (nT r),some (.sh (.int k)),y])=some (.int a2):=fun y=>by
   have hg2':g__law_draw [.int c,.int ((k:Int) % 7+1),.int 4]=some (.sh (.int a2)):=hg2
   simp [iD,hat,hm5,w51,hg2']
  have vk:∀(q:Int) (t y:Option T),evB Γ22 (.cmp .Eq (.var 1) (.int q)) (dEnv [some (.sh (iD ns)),some (.sh (.int kind)),some (nT r),t,y])=some (decide ((kind:Int)=q)):=fun q t y=>by
   simp [evB]
  have t2:∃b:Nat,b≤k∧∀K,ex Γ22 Δ1 none 100 (.seq (.ife (.cmp .Eq (.var 1) (.int 1))
 (.seq (.asg 4 (.mn (.var 4) (.call 51 (.cons (.idx (.var 0) (.var 3)) (.cons (.bin .Add (.bin .Mod (.var 3) (.int 7)) (.int 1)) (.cons (.int 4) .nil))))))
 .nop) .nop) K) [some (.sh (iD ns)),some (.sh (.int kind)),some (nT r),some (.sh (.int k)),some (.sh (.int a1))]=ex Γ22 Δ1 none 100 K [some (.sh (iD ns)),some (.sh (.int kind)),some (nT r),some (.sh (.int k)),some (.sh (.int b))]:=by
     by_cases h:(kind:Int)=1
     ·have hc:=vk 1 (some (.sh (.int k))) (some (.sh (.int a1)))
      rw [decide_eq_true h]at hc
      refine⟨if a2<a1 then a2 else a1,by split<;>omega,fun K=>st_if hc (env2:=[some (.sh (iD ns)),some (.sh (.int kind)),some (nT r),some (.sh (.int k)),some (.sh (.int ((if a2<a1 then a2 else a1:Nat):Int)))]) ?_⟩
      rw [if_pos rfl]
      refine(st_asg (t:=.sh (.int ((if a2<a1 then a2 else a1:Nat):Int))) rfl (evX_scal rfl ?_ rfl)).trans rfl
      rw [ev_mn,d2]
      simp
      split<;>rfl
     ·have hc:=vk 1 (some (.sh (.int k))) (some (.sh (.int a1)))
      rw [decide_eq_false h]at hc
      exact⟨a1,by omega,fun K=>st_skip hc⟩
  obtain⟨b,hb,h2⟩:=t2
  have t3:∃b':Nat,b'≤k∧∀K,ex Γ22 Δ1 none 100 (.seq (.ife (.cmp .Eq (.var 1) (.int 2))
 (.seq (.asg 4 (.mx (.var 4) (.bin .Sub (.var 3) (.call 51 (.cons (.idx (.var 0) (.var 3)) (.cons (.bin .Add (.bin .Mod (.var 3) (.int 7)) (.int 1)) (.cons (.int 4) .nil)))))))
 .nop) .nop) K) [some (.sh (iD ns)),some (.sh (.int kind)),some (nT r),some (.sh (.int k)),some (.sh (.int b))]=ex Γ22 Δ1 none 100 K [some (.sh (iD ns)),some (.sh (.int kind)),some (nT r),some (.sh (.int k)),some (.sh (.int b'))]:=by
     have hc:=vk 2 (some (.sh (.int k))) (some (.sh (.int b)))
     by_cases h:(kind:Int)=2
     ·rw [decide_eq_true h]at hc
      have hmx:(if(k:Int)-a2>b then(k:Int)-a2 else b)=((if(k:Int)-a2>b then(k:Int)-a2 else b).toNat:Nat):=by split<;>omega
      refine⟨(if(k:Int)-a2>b then(k:Int)-a2 else b).toNat,by split<;>omega,fun K=>st_if hc (env2:=[some (.sh (iD ns)),some (.sh (.int kind)),some (nT r),some (.sh (.int k)),some (.sh (.int ((if(k:Int)-a2>b then(k:Int)-a2 else b).toNat:Nat)))]) ?_⟩
      rw [if_pos rfl,←hmx]
      refine(st_asg (t:=.sh (.int (if(k:Int)-a2>b then(k:Int)-a2 else b))) rfl (evX_scal rfl ?_ rfl)).trans rfl
      rw [ev_mx,ev_bin,d2]
      simp
     ·rw [decide_eq_false h]at hc
      exact⟨b,hb,fun K=>st_skip hc⟩
  obtain⟨b',hb',h3⟩:=t3
  have t4:∃b2:Nat,b2≤k∧∀K,ex Γ22 Δ1 none 100 (.seq (.ife (.and (.cmp .Eq (.var 1) (.int 3)) (.cmp .Gt (.bin .Mod (.var 4) (.int 3)) (.int 0)))
 (.seq (.asg 4 (.int 0))
 .nop) .nop) K) [some (.sh (iD ns)),some (.sh (.int kind)),some (nT r),some (.sh (.int k)),some (.sh (.int b'))]=ex Γ22 Δ1 none 100 K [some (.sh (iD ns)),some (.sh (.int kind)),some (nT r),some (.sh (.int k)),some (.sh (.int b2))]:=by
     have hmod:binD .Mod (.int b') (.int 3)=some (.int ((b':Int) % 3)):=mod_pos _ (by decide)
     have hc:∃t,evB Γ22 (.and (.cmp .Eq (.var 1) (.int 3)) (.cmp .Gt (.bin .Mod (.var 4) (.int 3)) (.int 0))) (dEnv [some (.sh (iD ns)),some (.sh (.int kind)),some (nT r),some (.sh (.int k)),some (.sh (.int b'))])=some t:=by
      by_cases h:(kind:Int)=3<;>simp [evB,h,hmod]
     obtain⟨t,hc⟩:=hc
     cases t with
     |true=>
      refine⟨0,by omega,fun K=>st_if hc (env2:=[some (.sh (iD ns)),some (.sh (.int kind)),some (nT r),some (.sh (.int k)),some (.sh (.int ((0:Nat):Int)))]) ?_⟩
      rw [if_pos rfl]
      exact(st_asg rfl (evX_int _ _ _ _)).trans rfl
     |false=>exact⟨b',hb',fun K=>st_skip hc⟩
  obtain⟨b2,hb2,h4⟩:=t4
  refine⟨[some (.sh (iD ns)),some (.sh (.int kind)),some (nT (r.take (k-b2)++r.length::r.drop (k-b2))),some (.sh (.int k)),some (.sh (.int b2))],?_,_,_,_,rfl,ins_row hr,by simp;omega⟩
  refine(st_asg rfl (s1 y)).trans ((h2 _).trans ((h3 _).trans ((h4 _).trans ?_)))
  have hz:ev Γ22 (.bin .Sub (.var 3) (.var 4)) (dEnv [some (.sh (iD ns)),some (.sh (.int kind)),some (nT r),some (.sh (.int k)),some (.sh (.int b2))])=some (.int ((k-b2:Nat):Int)):=by
   simp;omega
  refine(st_ins (d:=.int k) (ts:=(nl r).map T.sh) hz rfl rfl rfl (by simp;omega) (sz_of (by simp;omega))).trans ?_
  have:nT (r.take (k-b2)++r.length::r.drop (k-b2))=.ow (((nl r).map T.sh).take (k-b2)++T.sh (.int k)::((nl r).map T.sh).drop (k-b2)):=by
   simp [nT,nl,hrl]
  rw [this]
  rfl)
 rw [nl_length,List.length_range]at hrl
 have hx:itX Γ22 none (.rng (.un .len (.var 0))) [some (.sh (iD ns)),some (.sh (.int kind)),some (.ow []),none,none]=some (nl (List.range ns.length),[some (.sh (iD ns)),some (.sh (.int kind)),some (.ow []),none,none]):=by
  simp [itX,isRng,its,iD,rngD_nat (n:=ns.length) (by omega)]
 exact⟨r,hr,hrl,gP_rt rfl ((st_asg2 rfl e1 (evX_nilL _ _ _)).trans ((st_for1 rfl hx hf).trans (st_retV (by simp) rfl)))⟩
end MI
end
noncomputable section
namespace MI
open PySem L2
theorem compN{f:D→Option (Option D)}{h:Nat→D}:∀ {r:List Nat},(∀x∈r,f (.int (x:Nat))=some (some (h x)))→compR f (nl r)=some (r.map h)
 |[],_=>rfl
 |x::r,H=>by
  show(f (.int x)).bind _=_
  rw [H x (List.mem_cons_self ..),Option.bind_some]
  show(compR f (nl r)).map _=_
  rw [compN fun y hy=>H y (List.mem_cons_of_mem _ hy)]
  rfl
theorem any_ff{α:Type}(l:List α):unD .any (.lst (l.map fun _=>D.bl false))=some (.bl false):=by
 have e:(l.map fun _=>D.bl false)=(l.map fun _=>false).map D.bl:=by simp
 show(blsD _).map _=_
 rw [e,blsD_map]
 simp
theorem all_tt{α:Type}(l:List α):unD .all (.lst (l.map fun _=>D.bl true))=some (.bl true):=by
 have e:(l.map fun _=>D.bl true)=(l.map fun _=>true).map D.bl:=by simp
 show(blsD _).map _=_
 rw [e,blsD_map]
 simp
theorem comp_ff{Γ:Tab}{env:Env}{elt it:E}{is:List Nat}{α:Type}{l:List α}{ds:List D}(hi:ev Γ it env=some (.lst ds))(hs:ds.length≤1000000)(h:compR (fun d=>(ev Γ elt (inner env is d)).map some) ds=some (l.map fun _=>D.bl false)):ev Γ (.un .any (.comp elt is it .nil)) env=some (.bl false):=by
 rw [ev_un,ev_comp,hi]
 simp only [Option.bind_some,walkD_lst,cS_nil]
 rw [if_pos (sz_of hs)]
 simp only [if_true]
 rw [h,Option.map_some,Option.bind_some,any_ff]
theorem comp_tt{Γ:Tab}{env:Env}{elt it:E}{is:List Nat}{α:Type}{l:List α}{ds:List D}(hi:ev Γ it env=some (.lst ds))(hs:ds.length≤1000000)(h:compR (fun d=>(ev Γ elt (inner env is d)).map some) ds=some (l.map fun _=>D.bl true)):ev Γ (.un .all (.comp elt is it .nil)) env=some (.bl true):=by
 rw [ev_un,ev_comp,hi]
 simp only [Option.bind_some,walkD_lst,cS_nil]
 rw [if_pos (sz_of hs)]
 simp only [if_true]
 rw [h,Option.map_some,Option.bind_some,all_tt]
theorem comp_is{Γ:Tab}{env:Env}{elt it:E}{is:List Nat}{l ds:List D}(hi:ev Γ it env=some (.lst ds))(hs:ds.length≤1000000)(h:compR (fun d=>(ev Γ elt (inner env is d)).map some) ds=some l):ev Γ (.comp elt is it .nil) env=some (.lst l):=by
 rw [ev_comp,hi]
 simp only [Option.bind_some,walkD_lst,cS_nil]
 rw [if_pos (sz_of hs)]
 simp only [if_true]
 rw [h,Option.map_some]
theorem numbers_ok{r:List Nat}(hl:r.length≤1000000):g__law_numbers [nD r]=some (.sh (.bl true)):=by
 have c1:evB Γ23 (.not (.isi (.var 0) 2)) (dEnv [some (.sh (nD r))])=some false:=rfl
 have c2:ev Γ23 (.un .any (.comp (.or (.isi (.var 0) 1) (.not (.isi (.var 0) 0))) [] (.var 0) .nil)) (dEnv [some (.sh (nD r))])=some (.bl false):=
  comp_ff (l:=r) (ds:=nl r) rfl (by simpa using hl) (compN fun x _=>rfl)
 exact gP_rt rfl ((st_skip c1).trans (st_ret (by simp) (evX_scal (d:=.bl true) rfl (by rw [ev_not,c2];rfl) rfl)))
end MI
end
noncomputable section
namespace MI
open PySem L2
section
variable(Γ:Tab)(env:Env)
@[simp] theorem ev_fld(a:E)(f:Str):ev Γ (.fld a f) env=(ev Γ a env).bind (fldD f):=rfl
@[simp] theorem ev_isc(a:E)(j:Nat):ev Γ (.isc a j) env=(ev Γ a env).bind (iscD j):=rfl
@[simp] theorem ev_meth(o:E)(k:Nat)(args:E):ev Γ (.meth o k args) env=(ev Γ o env).bind fun x=>(metG Γ k x).bind fun g=>((ev Γ args env).bind listD).bind fun l=>(g (x::l)).map strip:=rfl
@[simp] theorem ev_ch3(o1 o2 o3:CmpOp)(a b c d:E):ev Γ (.ch3 o1 o2 o3 a b c d) env=(ev Γ a env).bind fun x=>(ev Γ b env).bind fun y=>(cmpD o1 x y).bind fun z=>ifB z ((ev Γ c env).bind fun w=>(cmpD o2 y w).bind fun z2=>ifB z2 ((ev Γ d env).bind fun w2=>cmpD o3 w w2) (some (.bl false))) (some (.bl false)):=rfl
end
@[simp] theorem optS_int(i:Int)(o:Option D):optS (.int i) o=match o with|some (.int i)=>some (some i)|_=>none:=rfl
@[simp] theorem isnot_bb(a b:Bool):cmpD .IsNot (.bl a) (.bl b)=some (.bl (a !=b)):=rfl
@[simp] theorem eq_bb(a b:Bool):eqD (.bl a) (.bl b)=some (a==b):=by cases a<;>cases b<;>rfl
@[simp] theorem strip_ob(c:Nat)(ks:List Str)(ts:List T):strip (.ob c ks ts)=.ins c ks (ts.map strip):=by simp [strip,strips_map]
theorem evX_callS{Γ:Tab}{pio:Option Nat}{f:Nat}{args:E}{env env2:TEnv}{g:List D→Option T}{l:List D}{t:T}(hg:Γ f=some g)(hl:evs Γ args (dEnv env)=some l)(ht:g l=some t)(hf:flatT t=false)(hz:frz pio env (vars args)=some env2)(hl2:evs Γ args (fEnv env2)=some l):evX Γ pio (.call f args) env=some (t,env2):=by
 rw [evX_call,hg]
 show(evs Γ args (dEnv env)).bind _=_
 rw [hl]
 show(g l).bind _=_
 rw [ht]
 show(if flatT t then _ else _)=_
 rw [if_neg (by rw [hf];exact Bool.false_ne_true),hz]
 show(evs Γ args (fEnv env2)).bind _=_
 rw [hl2]
 show(g l).map _=_
 rw [ht];rfl
theorem evX_callE{Γ:Tab}{pio:Option Nat}{f:Nat}{args:E}{env:TEnv}{g:List D→Option T}{l:List D}{t:T}(hg:Γ f=some g)(hl:evs Γ args (dEnv env)=some l)(ht:g l=some t)(hz:frz pio env (vars args)=some env)(hl2:evs Γ args (fEnv env)=some l):evX Γ pio (.call f args) env=some (t,env):=by
 cases hf:flatT t with
 |true=>exact evX_callF hg hl ht hf
 |false=>exact evX_callS hg hl ht hf hz hl2
theorem evX_fresh{Γ:Tab}{pio:Option Nat}{m:E}{env:TEnv}{ds:List D}(hc:isCall m=false)(hf:fresh m=true)(h:ev Γ m (dEnv env)=some (.lst ds))(hz:frz pio env (vars m)=some env)(h2:ev Γ m (fEnv env)=some (.lst ds)):evX Γ pio m env=some (.ow (ds.map T.sh),env):=by
 rw [evX_other hc,h,Option.bind_some,if_neg (show¬scal (.lst ds)=true from Bool.false_ne_true),if_pos hf,listD_lst,Option.bind_some]
 split
 ·rfl
 ·rw [hz,Option.bind_some,h2];rfl
theorem gP_sc{Γ:Tab}{Δ:IOT}{n:Nat}{N:List Str}{ar:Nat}{m:E}{k:S}{ds:List D}{d:D}(env:TEnv)(hl:ds.length=ar)(hs:startT N ds=env)(hv:∀i,m≠.var i)(hc:isCall m=false)(h:ev Γ m (dEnv env)=some d)(hd:scal d=true):gP Γ Δ n N ar (.seq (.ret m) k) ds=some (.sh d):=by
 subst hs
 exact gP_rt hl (st_ret hv (evX_scal hc h hd))
theorem compM{α:Type}{f:D→Option (Option D)}{c h:α→D}:∀ {l:List α},(∀x∈l,f (c x)=some (some (h x)))→compR f (l.map c)=some (l.map h)
 |[],_=>rfl
 |x::r,H=>by
  show(f (c x)).bind _=_
  rw [H x (List.mem_cons_self ..),Option.bind_some]
  show(compR f (r.map c)).map _=_
  rw [compM fun y hy=>H y (List.mem_cons_of_mem _ hy)]
  rfl
theorem first_met_bad{x:Nat}{bs:List Bool}(h:bs.length≤x∨bs.getD x false=true):g_first_met [.int x,.lst (bs.map D.bl)]=some (.sh (.bl false),bs.map D.bl):=by
 refine gQ_rt (env:=[some (.sh (.int x)),some (.ow ((bs.map D.bl).map T.sh))]) rfl ?_ (by simp)
 have hs:startIO ["thing","met"] 1 [D.int x,D.lst (bs.map D.bl)]=[some (.sh (.int x)),some (.ow ((bs.map D.bl).map T.sh))]:=by simp [startIO,ioAt,listD]
 have hw:Γ1 0=some g_is_whole:=rfl
 rw [hs]
 unfold b_first_met
 simp only [ex_seq,ex_ife]
 have hc:evB Γ1 (.or (.not (.call 0 (.cons (.var 0) .nil))) (.or (.not (.ch .LtE .Lt (.int 0) (.var 0) (.un .len (.var 1)))) (.idx (.var 1) (.var 0)))) (dEnv [some (.sh (.int x)),some (.ow ((bs.map D.bl).map T.sh))])=some true:=by
  simp only [dEnv_cons,dEnv_nil,Option.map_some,strip_sh,strip_ow,map_strip_sh,evB,ev_or,ev_not,ev_call,ev_cons,ev_nil,ev_var,hw]
  rcases Nat.lt_or_ge x bs.length with z|z
  ·have h0:bs.getD x false=true:=h.resolve_left (by omega)
   have hlt:(x:Int)<(bs.length:Int):=by omega
   simp [hlt,bl_at z,-List.getD_eq_getElem?_getD]
   simpa using h0
  ·have hlt:¬(x:Int)<(bs.length:Int):=by omega
   simp [hlt]
 rw [hc]
 rfl
noncomputable def Fr(n:Nat)(L g:List Nat):Prop:=g.Nodup∧∀x∈g,x<n∧x∉L
theorem fr_cons{n:Nat}{L g:List Nat}{x:Nat}:Fr n L (x::g)↔(x<n∧x∉L)∧Fr n (L++[x]) g:=by
 unfold Fr
 constructor
 ·rintro ⟨nd,h⟩
  obtain⟨h1,h2⟩:=List.nodup_cons.mp nd
  refine⟨h x (List.mem_cons_self ..),h2,fun y hy=>⟨(h y (List.mem_cons_of_mem _ hy)).1,fun z=> ?_⟩⟩
  rcases List.mem_append.mp z with z|z
  ·exact(h y (List.mem_cons_of_mem _ hy)).2 z
  ·rw [List.mem_singleton.mp z]at hy;exact h1 hy
 ·rintro ⟨h1,h2,h3⟩
  refine⟨List.nodup_cons.mpr ⟨fun z=>(h3 x z).2 (List.mem_append_right _ (List.mem_singleton.mpr rfl)),h2⟩,fun y hy=> ?_⟩
  rcases List.mem_cons.mp hy with z|z
  ·rw [z];exact h1
  ·exact⟨(h3 y z).1,fun q=>(h3 y z).2 (List.mem_append_left _ q)⟩
noncomputable def pd(p:Nat×Nat):D:=.tup [.int p.1,.int p.2]
noncomputable def pD(ps:List (Nat×Nat)):D:=.lst (ps.map pd)
noncomputable def pT(ps:List (Nat×Nat)):T:=.ow (ps.map fun p=> .sh (pd p))
@[simp] theorem strip_pT(ps:List (Nat×Nat)):strip (pT ps)=pD ps:=by
  rw [pT,pD,strip_ow,List.map_map]
  exact congrArg D.lst (List.map_congr_left fun p _=>strip_sh _)
theorem nT_set(t:List Nat)(i v:Nat):T.ow (((nl t).map T.sh).set i (.sh (.int v)))=nT (t.set i v):=by simp [nT,nl,List.map_set]
theorem is_pair_ok(p:Nat×Nat):g_is_pair [pd p]=some (.sh (.bl true)):=by
 have hw:Γ3 0=some g_is_whole:=rfl
 refine gP_sc [some (.sh (pd p))] rfl rfl (by simp) rfl ?_ rfl
 have a0:atI [D.int p.1,D.int p.2] 0=some (.int p.1):=rfl
 have a1:atI [D.int p.1,D.int p.2] 1=some (.int p.2):=rfl
 simp [pd,isiB,hw,a0,a1]
theorem are_pairs_ok{ps:List (Nat×Nat)}(hl:ps.length≤1000000):g_are_pairs [pD ps]=some (.sh (.bl true)):=by
 have hw:Γ4 5=some g_is_pair:=rfl
 refine gP_sc [some (.sh (pD ps))] rfl rfl (by simp) rfl ?_ rfl
 have c2:ev Γ4 (.un .all (.comp (.call 5 (.cons (.var 0) .nil)) [] (.var 0) .nil)) (dEnv [some (.sh (pD ps))])=some (.bl true):=
  comp_tt (l:=ps) (ds:=ps.map pd) rfl (by simpa using hl) (compM fun p _=>by simp [inner,hw,is_pair_ok])
 rw [ev_and,c2]
 simp [isiB,pD]
theorem is_in_order_ok{t:List Nat}(hl:t.length≤1000000):g_is_in_order [nD t]=some (.sh (.bl (decide (t=List.range t.length)))):=by
 refine gP_sc [some (.sh (nD t))] rfl rfl (by simp) rfl ?_ rfl
 have h2:ev Γ7 (.un .lrng (.un .len (.var 0))) (dEnv [some (.sh (nD t))])=some (nD (List.range t.length)):=by
  rw [ev_un,ev_un]
  show(unD .len (strip (.sh (nD t)))).bind _=_
  rw [strip_sh,nD,len_lst,nl_length,Option.bind_some,lrng_nat hl]
 rw [ev_cmp,h2]
 simp
theorem law_pairs_ok{ps:List (Nat×Nat)}(hl:ps.length≤1000000):g__law_pairs [pD ps]=some (.sh (.bl true)):=by
 have hw:Γ24 53=some g__law_numbers:=rfl
 have c1:ev Γ24 (.un .all (.comp (.and (.isi (.var 0) 3) (.cmp .Eq (.un .len (.var 0)) (.int 2))) [] (.var 0) .nil)) (dEnv [some (.sh (pD ps))])=some (.bl true):=
  comp_tt (l:=ps) (ds:=ps.map pd) rfl (by simpa using hl) (compM fun p _=>by simp [inner,pd,isiB])
 have c2:ev Γ24 (.un .all (.comp (.call 53 (.cons (.un .list (.var 0)) .nil)) [] (.var 0) .nil)) (dEnv [some (.sh (pD ps))])=some (.bl true):=
  comp_tt (l:=ps) (ds:=ps.map pd) rfl (by simpa using hl) (compM fun p _=>by
   have:=numbers_ok (r:=[p.1,p.2]) (by simp)
   rw [show nD [p.1,p.2]=D.lst [.int p.1,.int p.2]from rfl]at this
   simp [inner,pd,hw,this])
 have hc:evB Γ24 (.or (.not (.isi (.var 0) 2)) (.not (.un .all (.comp (.and (.isi (.var 0) 3) (.cmp .Eq (.un .len (.var 0)) (.int 2))) [] (.var 0) .nil)))) (dEnv [some (.sh (pD ps))])=some false:=by
  rw [evB,ev_or,ev_not,ev_not,c1]
  simp [isiB,pD]
 exact gP_rt rfl ((st_skip hc).trans (st_ret (by simp) (evX_scal rfl c2 rfl)))
theorem copied_ok{ds:List D}(hl:ds.length≤1000000)(hn:ds.all noIns=true):g_copied [.lst ds]=some (.ow (ds.map cpyT)):=by
 refine gP_rt (env:=[some (.sh (.lst ds))]) rfl ?_
 have e:ex Γ10 Δ1 none 100 (.retC (.var 0)) [some (.sh (.lst ds))]=some (.rt (.ow (ds.map cpyT)),[some (.sh (.lst ds))]):=by
  show(if sz ds.length&&ds.all noIns then some (Fl.rt (T.ow (ds.map cpyT)),_)else none)=_
  rw [if_pos (by rw [sz_of hl,hn];rfl)]
 show seqX (ex Γ10 Δ1 none 100 (.retC (.var 0)) [some (.sh (.lst ds))]) _=_
 rw [e];rfl
theorem copied_p{ps:List (Nat×Nat)}(hl:ps.length≤1000000):g_copied [pD ps]=some (pT ps):=by
 rw [pD,copied_ok (by simpa using hl) (by simp [pd,noIns]),pT,List.map_map]
 rfl
section
variable{Γ:Tab}{Δ:IOT}{pio:Option Nat}{n:Nat}{env env2 env3:TEnv}{k:S}
theorem st_fst{i:Nat}{f:Str}{m:E}{t:T}{c:Nat}{ks:List Str}{ts:List T}(h:evX Γ pio m env=some (t,env2))(ho:obAt env2 i=some (c,ks,ts))(hk:(!ks.contains f&&decide (ks.length<1000))=true):ex Γ Δ pio n (.seq (.fst i f m) k) env=ex Γ Δ pio n k (env2.set i (some (.ob c (ks++[f]) (ts++[t])))):=by
 rw [ex_seq,show ex Γ Δ pio n (.fst i f m) env=(evX Γ pio m env).bind fun r=>(obAt r.2 i).bind fun o=>if !o.2.1.contains f&&decide (o.2.1.length<1000)then some (.nx,r.2.set i (some (.ob o.1 (o.2.1++[f]) (o.2.2++[r.1]))))else none from rfl,h,Option.bind_some,show obAt (t,env2).2 i=_ from ho,Option.bind_some,if_pos hk];rfl
end
theorem mul_zero'{n:Nat}(h:n≤1000000):binD .Mult (.lst [.int 0]) (.int n)=some (nD (List.replicate n 0)):=by
 have e:(List.replicate n [D.int 0]).flatten=nl (List.replicate n 0):=by
  clear h
  induction n with
  |zero=>rfl
  |succ n ih=>rw [List.replicate_succ,List.flatten_cons,ih];rfl
 show(if sz ([D.int 0].length*(n:Int).toNat)&&decide (-(2 ^ 62)≤(n:Int)∧(n:Int)<2 ^ 62)then some (D.lst (List.replicate (n:Int).toNat [D.int 0]).flatten)else none)=_
 rw [Int.toNat_natCast,if_pos,e]
 ·rfl
 ·rw [Bool.and_eq_true]
  exact⟨sz_of (by simpa using h),decide_eq_true (by omega)⟩
theorem back_of_ok{r:List Nat}(h:Bo.IsRow r)(hl:r.length≤1000000):g_back_of [nD r]=some (nT (Bo.bk r)):=by
 have e1:evX Γ5 none (.bin .Mult (.lst (.cons (.int 0) .nil)) (.un .len (.var 0))) [some (.sh (nD r)),none,none,none]=some (nT (List.replicate r.length 0),[some (.sh (nD r)),none,none,none]):=by
  refine evX_flat rfl rfl ?_ (all_scal_nl _)
  have:sz 1=true:=rfl
  simp [nD,this]
  exact mul_zero' hl
 have hx:itX Γ5 none (.enm (.var 0)) [some (.sh (nD r)),some (nT (List.replicate r.length 0)),none,none]=some (enumD 0 (nl r),[some (.sh (nD r)),some (nT (List.replicate r.length 0)),none,none]):=rfl
 obtain⟨env',hf,t,x,y,rfl,ht,hk⟩:=forL_from (step:=twoS fun x y e=>ex Γ5 Δ1 none 100 (.seq (.set 1 (.var 3) (.var 2)) .nop) ((e.set 2 (some (.sh x))).set 3 (some (.sh y)))) (fun k e=>∃t x y,e=[some (.sh (nD r)),some (nT t),x,y]∧t.length=r.length∧∀i,i<k→Bo.ap t (Bo.ap r i)=i) (ds:=enumD 0 (nl r)) (env:=[some (.sh (nD r)),some (nT (List.replicate r.length 0)),none,none]) ⟨_,_,_,rfl,by simp,fun i hi=>by omega⟩ (fun k d e hd ⟨t,x,y,he,hlt,ht⟩=>by
  subst he
  obtain⟨z,hz,rfl⟩:=enumD_get hd
  obtain⟨hk,rfl⟩:=nl_get hz
  rw [Nat.zero_add]
  have lt:=h.lt hk
  refine⟨[some (.sh (nD r)),some (nT (t.set (Bo.ap r k) k)),some (.sh (.int k)),some (.sh (.int (Bo.ap r k:Nat)))],?_,_,_,_,rfl,by simp [hlt],fun i hi=> ?_⟩
  ·refine(st_set (d:=.int k) (z:=(Bo.ap r k:Nat)) (ts:=(nl t).map T.sh) rfl rfl rfl rfl (ixN_nat (by simpa using(by omega)))).trans ?_
   rw [nT_set]
   rfl
  ·rw [Bo.ap_set (by omega)]
   split
   ·rename_i e
    exact(h.inj (by omega) hk e).symm
   ·rename_i e
    exact ht i (by
     rcases Nat.lt_or_ge i k with q|q
     ·exact q
     ·exact absurd (by rw [show i=k by omega]) e))
 rw [enumD_length,nl_length]at hk
 have e:=Bo.bk_of h ht hk
 subst e
 exact gP_rt rfl ((st_asg rfl e1).trans ((st_for2 rfl hx hf).trans (st_retV (by simp) rfl)))
section
variable{Γ:Tab}{Δ:IOT}{pio:Option Nat}{n:Nat}{env env2 env3:TEnv}{k:S}
theorem st_appF{i:Nat}{f:Str}{m:E}{t:T}{c j:Nat}{ks:List Str}{ts us:List T}(h:evX Γ pio m env=some (t,env2))(ho:obAt env2 i=some (c,ks,ts))(hf:fldAt f (c,ks,ts)=some (j,us))(hk:sz us.length=true):ex Γ Δ pio n (.seq (.appF i f m) k) env=ex Γ Δ pio n k (env2.set i (some (.ob c ks (ts.set j (.ow (us++[t])))))):=by
 rw [ex_seq,show ex Γ Δ pio n (.appF i f m) env=(evX Γ pio m env).bind fun r=>(obAt r.2 i).bind fun o=>(fldAt f o).bind fun ju=>if sz ju.2.length then some (.nx,r.2.set i (some (.ob o.1 o.2.1 (o.2.2.set ju.1 (.ow (ju.2++[r.1]))))))else none from rfl,h,Option.bind_some,show obAt (t,env2).2 i=_ from ho,Option.bind_some,hf,Option.bind_some,if_pos hk];rfl
end
noncomputable def IsN(r:List Nat)(t:T):Prop:=t=.sh (nD r)∨t=nT r
theorem IsN.strip{r:List Nat}{t:T}(h:IsN r t):strip t=nD r:=by rcases h with h|h<;>simp [h]
theorem rev_nl(r:List Nat):(nl r).reverse=nl r.reverse:=by simp [nl]
end MI
end
noncomputable section
namespace MI
open PySem L2
section
variable(Γ:Tab)(env:Env)
@[simp] theorem ev_mxd(a d:E):ev Γ (.mxd a d) env=(ev Γ a env).bind fun x=>(ev Γ d env).bind fun y=>mxdD x y:=rfl
@[simp] theorem ev_ind(a b:E):ev Γ (.ind a b) env=(ev Γ a env).bind fun x=>(ev Γ b env).bind fun y=>indD x y:=rfl
@[simp] theorem ev_dn(a:E):ev Γ (.dn a) env=(ev Γ a env).bind (unD .ldn):=rfl
@[simp] theorem ev_rvd(a:E):ev Γ (.rvd a) env=(ev Γ a env).bind revD:=rfl
end
theorem weight_nat{s:List Nat}(h:∀x∈s,x≤1000):PyData.weightAll ((ci s).map PyData.int)≤1002*s.length:=by
 induction s with
 |nil=>simp [ci,PyData.weightAll]
 |cons x s ih=>
  have a:=ih fun y hy=>h y (List.mem_cons_of_mem _ hy)
  have b:=h x (List.mem_cons_self ..)
  have c:PyData.weight (.int (x:Int))≤1001:=by
   rw [PyData.weight]
   split
   ·omega
   ·have:=Nat.log2_le_self (x:Int).natAbs
    have e:(x:Int).natAbs=x:=Int.natAbs_natCast x
    rw [e]at this⊢
    omega
  simp only [ci,List.map_cons,PyData.weightAll,List.length_cons]at a⊢
  omega
theorem lay_nat{s:List Nat}(h:∀x∈s,x≤1000)(hl:s.length≤1000):PyData.layable0 (.list ((ci s).map .int))=true:=by
 have a:=weight_nat h
 unfold PyData.layable0
 rw [Bool.and_eq_true,Bool.and_eq_true]
 refine⟨⟨?_,?_⟩,?_⟩
 ·simp [PyData.canLay0,canLay_ints]
 ·refine decide_eq_true ?_
  simp [PyData.depth,depth_ints]
 ·refine decide_eq_true ?_
  rw [PyData.weight]
  omega
theorem idx_ci(s:List Nat)(k:Nat):(ci s).idxOf (k:Int)=s.idxOf k:=by
 induction s with
 |nil=>rfl
 |cons x s ih=>
  simp only [ci,List.map_cons,List.idxOf_cons]at ih⊢
  rw [ih]
  by_cases e:x=k
  ·subst e;simp
  ·have e1:((x:Int)==(k:Int))=false:=by rw [beq_eq_false_iff_ne];omega
   have e2:(x==k)=false:=by simpa using e
   rw [e1,e2]
theorem mem_ci{s:List Nat}{k:Nat}:(k:Int)∈ci s↔k∈s:=by
 unfold ci
 rw [List.mem_map]
 constructor
 ·rintro ⟨x,h1,h2⟩
  rw [show k=x by omega];exact h1
 ·intro h;exact⟨k,h,rfl⟩
theorem ind_nat{s:List Nat}{k:Nat}(h:∀x∈s,x≤1000)(hl:s.length≤1000)(hk:k∈s):indD (nD s) (.int k)=some (.int (s.idxOf k:Nat)):=by
 show(intsD (nl s)).bind _=_
 rw [nl_ci,intsD_map,Option.bind_some,lay_nat h hl,idx_ci]
 rw [if_pos]
 rw [Bool.true_and]
 exact List.contains_iff_mem.mpr (mem_ci.mpr hk)
theorem row_le{s:List Nat}(h:Bo.IsRow s)(hl:s.length≤1000):∀x∈s,x≤1000:=fun x hx=>by have:=h.mem.mp hx;omega
theorem ind_row{s:List Nat}{k:Nat}(h:Bo.IsRow s)(hl:s.length≤1000)(hk:k<s.length):indD (nD s) (.int k)=some (.int (s.idxOf k:Nat)):=ind_nat (row_le h hl) hl (h.mem.mpr hk)
theorem rls_length(r:List Nat):(Bo.rls r).length=r.length:=by simp [Bo.rls]
theorem run_ok{r:List Nat}(h:Bo.IsRow r)(hl:r.length≤1000):g_run_lengths [nD r]=some (nT (Bo.rls r)):=by
 have w8:Γ6 8=some g_back_of:=rfl
 have hx:itX Γ6 none (.call 8 (.cons (.var 0) .nil)) [some (.sh (nD r)),some (.ow []),some (.sh (.int 0)),some (.sh (.int (-1))),none]=some (nl (Bo.bk r),[some (.sh (nD r)),some (.ow []),some (.sh (.int 0)),some (.sh (.int (-1))),none]):=by
  have b:=back_of_ok h (by omega)
  have hi:its Γ6 (.call 8 (.cons (.var 0) .nil)) (fEnv [some (.sh (nD r)),some (.ow []),some (.sh (.int 0)),some (.sh (.int (-1))),none])=some (nl (Bo.bk r)):=by
   simp [its,w8,b]
   simp [nD]
  unfold itX
  rw [if_neg (by simp [isRng])]
  show(its Γ6 (.call 8 (.cons (.var 0) .nil)) (fEnv [some (.sh (nD r)),some (.ow []),some (.sh (.int 0)),some (.sh (.int (-1))),none])).map _=_
  rw [hi]
  rfl
 obtain⟨env',hf,a,b,c,rfl⟩:=forL_from (step:=fun d e=>ex Γ6 Δ1 none 100 (.seq (.asg 2 (.ite (.cmp .Gt (.var 4) (.var 3)) (.bin .Add (.var 2) (.int 1)) (.int 1))) (.seq (.app 1 (.var 2)) (.seq (.asg 3 (.var 4)) .nop))) (e.set 4 (some (.sh d)))) (fun k e=>∃x,e=[some (.sh (nD r)),some (nT ((List.range k).map (Bo.rl r))),some (.sh (.int (if k=0 then 0 else(Bo.rl r (k-1):Nat)))),some (.sh (.int (if k=0 then-1 else(r.idxOf (k-1):Nat)))),x]) (ds:=nl (Bo.bk r)) (env:=[some (.sh (nD r)),some (.ow []),some (.sh (.int 0)),some (.sh (.int (-1))),none]) ⟨_,rfl⟩ (fun k d e hd ⟨x,he⟩=>by
  subst he
  obtain⟨hk,rfl⟩:=nl_get hd
  rw [Bo.bk_length]at hk
  rw [Bo.ap_bk hk]
  have e1:evX Γ6 none (.ite (.cmp .Gt (.var 4) (.var 3)) (.bin .Add (.var 2) (.int 1)) (.int 1)) [some (.sh (nD r)),some (nT ((List.range k).map (Bo.rl r))),some (.sh (.int (if k=0 then 0 else(Bo.rl r (k-1):Nat)))),some (.sh (.int (if k=0 then-1 else(r.idxOf (k-1):Nat)))),some (.sh (.int (r.idxOf k:Nat)))]=some (.sh (.int (Bo.rl r k:Nat)),[some (.sh (nD r)),some (nT ((List.range k).map (Bo.rl r))),some (.sh (.int (if k=0 then 0 else(Bo.rl r (k-1):Nat)))),some (.sh (.int (if k=0 then-1 else(r.idxOf (k-1):Nat)))),some (.sh (.int (r.idxOf k:Nat)))]):=by
   refine evX_scal rfl ?_ rfl
   cases k with
   |zero=>
    have:(-1:Int)<(r.idxOf 0:Nat):=by omega
    simp [this,Bo.rl]
   |succ k=>
    by_cases hr:r.idxOf k<r.idxOf (k+1)
    ·have e:Bo.rl r (k+1)=Bo.rl r k+1:=by rw [Bo.rl,if_pos hr]
     simp [hr,e]
    ·have e:Bo.rl r (k+1)=1:=by rw [Bo.rl,if_neg hr]
     simp [hr,e]
  refine⟨_,(st_asg rfl e1).trans ((st_app (t:=.sh (.int (Bo.rl r k:Nat))) (ts:=(nl ((List.range k).map (Bo.rl r))).map T.sh) (evX_scal rfl rfl rfl) rfl (sz_of (by simp;omega))).trans ((st_asg (t:=.sh (.int (r.idxOf k:Nat))) rfl (evX_scal rfl rfl rfl)).trans rfl)),some (.sh (.int (r.idxOf k:Nat))),?_⟩
  have:nT ((List.range (k+1)).map (Bo.rl r))=.ow ((nl ((List.range k).map (Bo.rl r))).map T.sh++[.sh (.int (Bo.rl r k:Nat))]):=by
   rw [List.range_succ];simp [nT,nl]
  rw [this]
  rfl)
 rw [nl_length,Bo.bk_length]at hf
 exact gP_rt rfl ((st_asg rfl (evX_nilL _ _ _)).trans ((st_asg rfl (evX_int _ _ _ _)).trans ((st_asg (t:=.sh (.int (-1))) rfl (evX_scal rfl rfl rfl)).trans ((st_for1 rfl hx hf).trans (st_retV (by simp) rfl)))))
end MI
end
noncomputable section
namespace MI
open PySem L2
noncomputable def Mx(r:List Nat):Nat:=(Bo.rls r).foldl max 0
theorem fold_ci(l:List Nat):∀a:Nat,(ci l).foldl (fun m x=>if m<x then x else m) (a:Int)=((l.foldl max a:Nat):Int):=by
 induction l with
 |nil=>intro a;rfl
 |cons x l ih=>
  intro a
  show(ci l).foldl _ (if(a:Int)<(x:Int)then(x:Int)else(a:Int))=((l.foldl max (max a x):Nat):Int)
  rw [←ih]
  congr 1
  split<;>omega
theorem mxd_nat(l:List Nat):mxdD (nD l) (.int 0)=some (.int (l.foldl max 0:Nat)):=by
 show(intsD (nl l)).map _=_
 rw [nl_ci,intsD_map,Option.map_some]
 congr 2
 cases l with
 |nil=>rfl
 |cons a l=>
  show(ci l).foldl (fun m x=>if m<x then x else m) (a:Int)=_
  rw [fold_ci]
  simp
theorem fold_max_mem(l:List Nat):∀a:Nat,l.foldl max a=a∨l.foldl max a∈l:=by
 induction l with
 |nil=>intro a;exact .inl rfl
 |cons x l ih=>
  intro a
  rcases ih (max a x)with e|e
  ·rcases Nat.le_total a x with z|z
   ·right;rw [List.foldl_cons,e,Nat.max_eq_right z];exact List.mem_cons_self ..
   ·left;rw [List.foldl_cons,e,Nat.max_eq_left z]
  ·right;exact List.mem_cons_of_mem _ e
theorem fold_max_ge(l:List Nat):∀a:Nat,a≤l.foldl max a∧∀x∈l,x≤l.foldl max a:=by
 induction l with
 |nil=>intro a;exact⟨Nat.le_refl _,by simp⟩
 |cons x l ih=>
  intro a
  obtain⟨h1,h2⟩:=ih (max a x)
  rw [List.foldl_cons]
  refine⟨by omega,fun y hy=> ?_⟩
  rcases List.mem_cons.mp hy with z|z
  ·rw [z];omega
  ·exact h2 y z
theorem Mx_mem{r:List Nat}(hn:0<r.length):Mx r∈Bo.rls r:=by
 rcases fold_max_mem (Bo.rls r) 0 with e|e
 ·exfalso
  have h0:Bo.rl r 0∈Bo.rls r:=List.mem_map.mpr ⟨0,List.mem_range.mpr hn,rfl⟩
  have:=(fold_max_ge (Bo.rls r) 0).2 _ h0
  have:=(Bo.rl_pos r 0).1
  omega
 ·exact e
theorem Mx_pos{r:List Nat}:0<Mx r↔0<r.length:=by
 constructor
 ·intro h
  rcases Nat.eq_zero_or_pos r.length with z|z
  ·have:r=[]:=List.length_eq_zero_iff.mp z
   subst this
   exact absurd h (by decide)
  ·exact z
 ·intro h
  obtain⟨i,_,e⟩:=List.mem_map.mp (Mx_mem h)
  have:=(Bo.rl_pos r i).1
  omega
theorem Mx_at{r:List Nat}(hn:0<r.length):(Bo.rls r).idxOf (Mx r)<r.length∧Bo.rl r ((Bo.rls r).idxOf (Mx r))=Mx r:=by
 have h1:=List.idxOf_lt_length_iff.mpr (Mx_mem hn)
 have h2:(Bo.rls r)[(Bo.rls r).idxOf (Mx r)]=Mx r:=List.getElem_idxOf h1
 have h3:(Bo.rls r).idxOf (Mx r)<r.length:=by rwa [rls_length]at h1
 have key:∀(j:Nat) (hj:j<(Bo.rls r).length),(Bo.rls r)[j]=Bo.rl r j:=fun j hj=>by simp [Bo.rls]
 rw [key]at h2
 exact⟨h3,h2⟩
theorem Mx_le{r:List Nat}:Mx r≤r.length:=by
 rcases Nat.eq_zero_or_pos r.length with z|z
 ·have:¬0<Mx r:=fun q=>by have:=Mx_pos.mp q;omega
  omega
 ·obtain⟨h1,h2⟩:=Mx_at z
  have:=(Bo.rl_pos r ((Bo.rls r).idxOf (Mx r))).2
  omega
theorem law_run_ok{r:List Nat}(h:Bo.IsRow r)(hl:r.length≤1000):g__law_run [nD r]=some (.sh (.int (Mx r:Nat))):=by
 have hx:itX Γ28 none (.rng (.un .len (.var 0))) [some (.sh (nD r)),some (.sh (.int 0)),some (.sh (.int 0)),none]=some (nl (List.range r.length),[some (.sh (nD r)),some (.sh (.int 0)),some (.sh (.int 0)),none]):=by
  simp [itX,isRng,its,nD,rngD_nat (n:=r.length) (by omega)]
 obtain⟨env',hf,x,y,rfl,_⟩:=forL_from (step:=fun d e=>ex Γ28 Δ1 none 100 (.seq (.asg 2 (.ite (.and (.cmp .Gt (.var 3) (.int 0)) (.cmp .Gt (.ind (.var 0) (.var 3)) (.ind (.var 0) (.bin .Sub (.var 3) (.int 1))))) (.bin .Add (.var 2) (.int 1)) (.int 1))) (.seq (.asg 1 (.mx (.var 1) (.var 2))) .nop)) (e.set 3 (some (.sh d)))) (fun k e=>∃x y,e=[some (.sh (nD r)),some (.sh (.int (((List.range k).map (Bo.rl r)).foldl max 0:Nat))),some (.sh (.int (if k=0 then 0 else(Bo.rl r (k-1):Nat)))),x]∧y=()) (ds:=nl (List.range r.length)) (env:=[some (.sh (nD r)),some (.sh (.int 0)),some (.sh (.int 0)),none]) ⟨_,(),rfl,rfl⟩ (fun k d e hd ⟨x,_,he,_⟩=>by
  subst he
  obtain⟨hk,rfl⟩:=nl_get hd
  rw [List.length_range]at hk
  rw [ap_range hk]
  have e1:evX Γ28 none (.ite (.and (.cmp .Gt (.var 3) (.int 0)) (.cmp .Gt (.ind (.var 0) (.var 3)) (.ind (.var 0) (.bin .Sub (.var 3) (.int 1))))) (.bin .Add (.var 2) (.int 1)) (.int 1)) [some (.sh (nD r)),some (.sh (.int (((List.range k).map (Bo.rl r)).foldl max 0:Nat))),some (.sh (.int (if k=0 then 0 else(Bo.rl r (k-1):Nat)))),some (.sh (.int (k:Nat)))]=some (.sh (.int (Bo.rl r k:Nat)),[some (.sh (nD r)),some (.sh (.int (((List.range k).map (Bo.rl r)).foldl max 0:Nat))),some (.sh (.int (if k=0 then 0 else(Bo.rl r (k-1):Nat)))),some (.sh (.int (k:Nat)))]):=by
   refine evX_scal rfl ?_ rfl
   cases k with
   |zero=>simp [Bo.rl]
   |succ k=>
    have i1:=ind_row (k:=k+1) h hl hk
    have i2:=ind_row (k:=k) h hl (by omega)
    have e0:((k+1:Nat):Int)-1=(k:Int):=by omega
    have e2:(0:Int)<((k+1:Nat):Int):=by omega
    have e3:ev Γ28 (.and (.cmp .Gt (.var 3) (.int 0)) (.cmp .Gt (.ind (.var 0) (.var 3)) (.ind (.var 0) (.bin .Sub (.var 3) (.int 1))))) (dEnv [some (.sh (nD r)),some (.sh (.int (((List.range (k+1)).map (Bo.rl r)).foldl max 0:Nat))),some (.sh (.int (if k+1=0 then 0 else(Bo.rl r (k+1-1):Nat)))),some (.sh (.int ((k+1:Nat):Int)))])=some (.bl (decide (r.idxOf k<r.idxOf (k+1)))):=by
     simp only [dEnv_cons,dEnv_nil,Option.map_some,strip_sh,ev_and,ev_cmp,ev_ind,ev_var,ev_int,ev_bin,List.getElem?_cons_zero,List.getElem?_cons_succ,Option.join_some,Option.bind_some,gt_ii,sub_ii,e0,i1,i2]
     rw [decide_eq_true e2,ifB_t]
     simp
    rw [ev_ite,e3]
    by_cases hr:r.idxOf k<r.idxOf (k+1)
    ·have e:Bo.rl r (k+1)=Bo.rl r k+1:=by rw [Bo.rl,if_pos hr]
     simp [hr,e]
    ·have e:Bo.rl r (k+1)=1:=by rw [Bo.rl,if_neg hr]
     simp [hr,e]
  have e2:evX Γ28 none (.mx (.var 1) (.var 2)) [some (.sh (nD r)),some (.sh (.int (((List.range k).map (Bo.rl r)).foldl max 0:Nat))),some (.sh (.int (Bo.rl r k:Nat))),some (.sh (.int (k:Nat)))]=some (.sh (.int (((List.range (k+1)).map (Bo.rl r)).foldl max 0:Nat)),[some (.sh (nD r)),some (.sh (.int (((List.range k).map (Bo.rl r)).foldl max 0:Nat))),some (.sh (.int (Bo.rl r k:Nat))),some (.sh (.int (k:Nat)))]):=by
   refine evX_scal rfl ?_ rfl
   rw [List.range_succ,List.map_append,List.foldl_append]
   simp only [dEnv_cons,dEnv_nil,Option.map_some,strip_sh,ev_mx,ev_var,List.getElem?_cons_zero,List.getElem?_cons_succ,Option.join_some,Option.bind_some,mx_ii,List.map_cons,List.map_nil,List.foldl_cons,List.foldl_nil]
   congr 2
   split<;>omega
  exact⟨_,(st_asg rfl e1).trans ((st_asg rfl e2).trans rfl),_,(),rfl,rfl⟩)
 rw [nl_length,List.length_range]at hf
 exact gP_rt rfl ((st_asg2 rfl (evX_int _ _ _ _) (evX_int _ _ _ _)).trans ((st_for1 rfl hx hf).trans (st_retV (by simp) rfl)))
theorem all_met{n:Nat}:∀(xs L:List Nat) (met:List Bool),Mk n L met→∃b,allL g_first_met (nl xs) (met.map D.bl)=some b∧(b=true↔Fr n L xs)
 |[],L,met,hm=>⟨true,rfl,by simp [Fr]⟩
 |x::xs,L,met,hm=>by
  have un:allL g_first_met (nl (x::xs)) (met.map D.bl)=(g_first_met [.int x,.lst (met.map D.bl)]).bind fun p=>match p.1 with
   | .sh (.bl b)=>if p.2.all scal then(allL g_first_met (nl xs) p.2).map (b&&·)else none
   |_=>none:=rfl
  rw [un]
  by_cases hx:x<n∧x∉L
  ·have h0:met.getD x false=false:=by rw [hm.at' _ hx.1];exact decide_eq_false hx.2
   obtain⟨b,h1,h2⟩:=all_met xs (L++[x]) (met.set x true) (hm.more hx.1)
   rw [first_met_ok (by rw [hm.len];exact hx.1) h0]
   refine⟨b,?_,?_⟩
   ·show(if((met.set x true).map D.bl).all scal then(allL g_first_met (nl xs) ((met.set x true).map D.bl)).map (true&&·)else none)=_
    rw [if_pos (all_scal_bls _),h1];simp
   ·rw [h2,fr_cons]
    exact⟨fun z=>⟨hx,z⟩,fun z=>z.2⟩
  ·have h0:met.length≤x∨met.getD x false=true:=by
    rcases Nat.lt_or_ge x n with q|q
    ·right
     rw [hm.at' _ q]
     exact decide_eq_true (Classical.byContradiction fun w=>hx ⟨q,w⟩)
    ·left;rw [hm.len];exact q
   obtain⟨b,h1,h2⟩:=all_met xs L met hm
   rw [first_met_bad h0]
   refine⟨false,?_,?_⟩
   ·show(if(met.map D.bl).all scal then(allL g_first_met (nl xs) (met.map D.bl)).map (false&&·)else none)=_
    rw [if_pos (all_scal_bls _),h1];simp
   ·rw [fr_cons]
    exact⟨(fun z=>by cases z),fun z=>absurd z.1 hx⟩
theorem different_ok{n:Nat}{xs:List Nat}(hn:n≤1000000)(hl:xs.length≤1000000):∃b,g_are_different_things [.int n,nD xs]=some (.sh (.bl b))∧(b=true↔(xs.Nodup∧∀x∈xs,x<n)):=by
 obtain⟨b,h1,h2⟩:=all_met xs [] (List.replicate n false) (Mk.start n)
 have e1:evX Γ11 none (.bin .Mult (.lst (.cons (.bl false) .nil)) (.var 0)) [some (.sh (.int n)),some (.sh (nD xs)),none]=some (.ow (((List.replicate n false).map D.bl).map T.sh),[some (.sh (.int n)),some (.sh (nD xs)),none]):=by
  refine evX_flat rfl rfl ?_ (by simp)
  have:sz 1=true:=rfl
  simp [this,mul_false hn,-List.map_replicate]
 have hc:evB Γ11 (.not (.isi (.var 1) 2)) (dEnv [some (.sh (.int n)),some (.sh (nD xs)),none])=some false:=rfl
 refine⟨b,gP_rt (env:=[some (.sh (.int n)),some (.sh (nD xs)),none]) rfl ((st_skip hc).trans ((st_asg rfl e1).trans ?_)),?_⟩
 ·have:ex Γ11 Δ1 none 100 (.retAll 100 2 (.var 1)) [some (.sh (.int n)),some (.sh (nD xs)),some (.ow (((List.replicate n false).map D.bl).map T.sh))]=some (.rt (.sh (.bl b)),[some (.sh (.int n)),some (.sh (nD xs)),none]):=by
   show(unsh (((List.replicate n false).map D.bl).map T.sh)).bind (fun ms=>if ms.all scal&&sz (nl xs).length then(allL g_first_met (nl xs) ms).map _ else none)=_
   rw [unsh_sh,Option.bind_some,if_pos (by rw [all_scal_bls,sz_of (by simpa using hl)];rfl),h1]
   rfl
  rw [ex_seq]
  exact(congrArg (fun q=>seqX q _) this).trans rfl
 ·rw [h2]
  simp [Fr]
end MI
end
noncomputable section
namespace MI
open PySem L2
@[simp] theorem cS_not(a:E)(o:Option D):cS (.not a) o=o.bind truthD:=rfl
@[simp] theorem optS_bin(op:Operator)(a b:E)(o:Option D):optS (.bin op a b) o=match o with|some (.int i)=>some (some i)|_=>none:=rfl
theorem compF{f:D→Option (Option D)}{p:Nat→Bool}:∀ {s:List Nat},(∀x∈s,f (.int (x:Nat))=some (if p x then some (.int (x:Nat))else none))→compR f (nl s)=some (nl (s.filter p))
 |[],_=>rfl
 |x::s,H=>by
  show(f (.int x)).bind _=_
  rw [H x (List.mem_cons_self ..),Option.bind_some]
  show(compR f (nl s)).map _=_
  rw [compF fun y hy=>H y (List.mem_cons_of_mem _ hy),Option.map_some,List.filter_cons]
  cases p x<;>rfl
theorem in_nat(x:Nat)(t:List Nat):inD (.int x) (nl t)=some (decide (x∈t)):=by
 have a:(nl t).all flatD=true:=by simp [nl,flatD]
 unfold inD
 rw [if_pos (by rw [a];rfl)]
 congr 1
 induction t with
 |nil=>rfl
 |cons y t ih=>
  have ih':=ih (by simp [nl,flatD])
  rw [show nl (y::t)=.int y::nl t from rfl,List.any_cons,ih']
  have e:eqF (.int y) (.int x)=decide (y=x):=by
   show((y:Int)==(x:Int))=_
   by_cases h:y=x
   ·subst h;simp
   ·rw [decide_eq_false h,beq_eq_false_iff_ne];omega
  rw [e]
  by_cases h:y=x
  ·simp [h]
  ·have:x≠y:=fun z=>h z.symm
   simp [h,this]
@[simp] theorem notin_l(a:D)(l:List D):cmpD .NotIn a (.lst l)=(inD a l).map fun c=> .bl (!c):=by cases a<;>rfl
theorem erase_cut{t:List Nat}{x:Nat}:t.take (t.idxOf x)++t.drop (t.idxOf x+1)=t.erase x:=by
 rw [List.erase_eq_eraseIdx_of_idxOf rfl,List.eraseIdx_eq_take_drop_succ]
noncomputable abbrev lfB:S:=.seq (.ife (.cmp .NotIn (.var 3) (.var 2)) (.seq (.ret (.lst .nil)) .nop) .nop) (.seq (.asg 4 (.ind (.var 2) (.var 3))) (.seq (.asg 2 (.bin .Add (.bin .Add (.lst (.cons (.var 3) .nil)) (.cut (.var 2) .nil (.var 4))) (.cut (.var 2) (.bin .Add (.var 4) (.int 1)) .nil))) .nop))
theorem lf_step{e0 e1 z:Option T}{t:List Nat}{x:Nat}(hx:x∈t)(hs:∀y∈t,y≤1000)(hl:t.length≤1000):
 ∃z',ex Γ25 Δ1 none 100 lfB [e0,e1,some (nT t),some (.sh (.int x)),z]=some (.nx,[e0,e1,some (nT (Bo.fr1 t x)),some (.sh (.int x)),z']):=by
 have hi:=List.idxOf_lt_length_iff.mpr hx
 have c1:evB Γ25 (.cmp .NotIn (.var 3) (.var 2)) (dEnv [e0,e1,some (nT t),some (.sh (.int x)),z])=some false:=by
  simp [evB,nD,in_nat,hx]
 have e2:evX Γ25 none (.ind (.var 2) (.var 3)) [e0,e1,some (nT t),some (.sh (.int x)),z]=some (.sh (.int (t.idxOf x:Nat)),[e0,e1,some (nT t),some (.sh (.int x)),z]):=by
  refine evX_scal rfl ?_ rfl
  simp [ind_nat hs hl hx]
 have e3:evX Γ25 none (.bin .Add (.bin .Add (.lst (.cons (.var 3) .nil)) (.cut (.var 2) .nil (.var 4))) (.cut (.var 2) (.bin .Add (.var 4) (.int 1)) .nil)) [e0,e1,some (nT t),some (.sh (.int x)),some (.sh (.int (t.idxOf x:Nat)))]=some (nT (Bo.fr1 t x),[e0,e1,some (nT t),some (.sh (.int x)),some (.sh (.int (t.idxOf x:Nat)))]):=by
  refine evX_flat (ds:=nl (Bo.fr1 t x)) rfl rfl ?_ (all_scal_nl _)
  have s1:sz 1=true:=rfl
  have k1:=cut_hi (g:=t) (s:=t.idxOf x) (by omega)
  have k2:=cut_lo (g:=t) (s:=t.idxOf x+1) (by omega)
  have k0:((t.idxOf x:Nat):Int)+1=((t.idxOf x+1:Nat):Int):=by omega
  have s2:sz (1+(nl (t.take (t.idxOf x))).length)=true:=sz_of (by simp;omega)
  have s3:sz ((D.int x::nl (t.take (t.idxOf x))).length+(nl (t.drop (t.idxOf x+1))).length)=true:=sz_of (by simp;omega)
  simp only [dEnv_cons,dEnv_nil,Option.map_some,strip_sh,strip_nT,ev_bin,ev_lst,ev_cons,ev_nil,ev_var,ev_cut,ev_int,List.getElem?_cons_zero,List.getElem?_cons_succ,Option.join_some,Option.bind_some,consD_lst,szL_lst,List.length_cons,List.length_nil,Nat.zero_add,s1,if_true,optS_nil,optS_var,optS_bin,add_ii,k0,nD,cutD_lst,k1,k2,add_ll,s2,List.singleton_append]
  rw [if_pos (sz_of (by simp;omega))]
  unfold Bo.fr1
  rw [show nl (x::t.erase x)=D.int x::nl (t.erase x)from rfl,←erase_cut,←nl_append]
  rfl
 exact⟨_,(st_skip c1).trans ((st_asg rfl e2).trans ((st_asg rfl e3).trans rfl))⟩
theorem fr1_le{t:List Nat}{x:Nat}(hx:x∈t)(hs:∀y∈t,y≤1000):∀y∈Bo.fr1 t x,y≤1000:=fun y hy=>hs y ((Bo.fr1_mem hx).mp hy)
theorem law_fronted_ok{s xs:List Nat}(hx:∀x∈xs,x∈s)(hs:∀y∈s,y≤1000)(hl:s.length≤1000):g__law_fronted [nD s,nD xs]=some (nT (Bo.frs s xs)):=by
 have e1:evX Γ25 none (.un .list (.var 0)) [some (.sh (nD s)),some (.sh (nD xs)),none,none,none]=some (nT s,[some (.sh (nD s)),some (.sh (nD xs)),none,none,none]):=evX_flat rfl rfl rfl (all_scal_nl s)
 have key:∀(ys t:List Nat) (y z:Option T),(∀x∈ys,x∈t)→(∀y∈t,y≤1000)→t.length≤1000→∃y' z',forL (fun d e=>ex Γ25 Δ1 none 100 lfB (e.set 3 (some (.sh d)))) (nl ys) [some (.sh (nD s)),some (.sh (nD xs)),some (nT t),y,z]=some (.nx,[some (.sh (nD s)),some (.sh (nD xs)),some (nT (Bo.frs t ys)),y',z']):=by
  intro ys
  induction ys with
  |nil=>intro t y z _ _ _;exact⟨y,z,rfl⟩
  |cons x ys ih=>
   intro t y z h1 h2 h3
   have hx:=h1 x (List.mem_cons_self ..)
   obtain⟨z',st⟩:=lf_step (e0:=some (.sh (nD s))) (e1:=some (.sh (nD xs))) (z:=z) hx h2 h3
   obtain⟨y2,z2,st2⟩:=ih (Bo.fr1 t x) (some (.sh (.int x))) z' (fun w hw=>(Bo.fr1_mem hx).mpr (h1 w (List.mem_cons_of_mem _ hw))) (fr1_le hx h2) (by rw [Bo.fr1_length hx];exact h3)
   refine⟨y2,z2,?_⟩
   show(ex Γ25 Δ1 none 100 lfB [some (.sh (nD s)),some (.sh (nD xs)),some (nT t),some (.sh (.int x)),z]).bind _=_
   rw [st]
   exact st2
 obtain⟨y',z',hf⟩:=key xs s none none hx hs hl
 exact gP_rt rfl ((st_asg rfl e1).trans ((st_for1 rfl (show itX Γ25 none (.var 1) _=some (nl xs,_)from rfl) hf).trans (st_retV (by simp) rfl)))
theorem after_fronting_ok{s xs:List Nat}(hx:∀x∈xs,x<s.length)(hs:∀y∈s,y<s.length)(hl:s.length≤1000)(hl2:xs.length≤1000):g_after_fronting [nD s,nD xs]=some (nT (xs.reverse++s.filter fun y=> !xs.contains y)):=by
 have e1:evX Γ8 none (.bin .Mult (.lst (.cons (.bl false) .nil)) (.un .len (.var 0))) [some (.sh (nD s)),some (.sh (nD xs)),none,none]=some (.ow (((List.replicate s.length false).map D.bl).map T.sh),[some (.sh (nD s)),some (.sh (nD xs)),none,none]):=by
  refine evX_flat rfl rfl ?_ (by simp)
  have:sz 1=true:=rfl
  simp [nD,this,mul_false (n:=s.length) (by omega),-List.map_replicate]
 obtain⟨env',hf,met,x,rfl,hm⟩:=forL_from (step:=fun d e=>ex Γ8 Δ1 none 100 (.seq (.set 2 (.var 3) (.bl true)) .nop) (e.set 3 (some (.sh d)))) (fun k e=>∃met x,e=[some (.sh (nD s)),some (.sh (nD xs)),some (.ow ((met.map D.bl).map T.sh)),x]∧Mk s.length (xs.take k) met) (ds:=nl xs) (env:=[some (.sh (nD s)),some (.sh (nD xs)),some (.ow (((List.replicate s.length false).map D.bl).map T.sh)),none]) ⟨_,_,rfl,by simpa using Mk.start s.length⟩ (fun k d e hd ⟨met,x,he,hm⟩=>by
  subst he
  obtain⟨hk,rfl⟩:=nl_get hd
  have hlt:=hx _ (Bo.ap_mem hk)
  refine⟨[some (.sh (nD s)),some (.sh (nD xs)),some (.ow (((met.set (Bo.ap xs k) true).map D.bl).map T.sh)),some (.sh (.int (Bo.ap xs k:Nat)))],?_,_,_,rfl,?_⟩
  ·refine(st_set (d:=.bl true) (z:=(Bo.ap xs k:Nat)) (j:=Bo.ap xs k) (ts:=(met.map D.bl).map T.sh) rfl rfl rfl rfl (ixN_nat (by simpa using(by rw [hm.len];exact hlt)))).trans ?_
   have es:((met.map D.bl).map T.sh).set (Bo.ap xs k) (.sh (.bl true))=((met.set (Bo.ap xs k) true).map D.bl).map T.sh:=by simp
   rw [es];rfl
  ·have:=hm.more hlt
   rwa [show xs.take k++[Bo.ap xs k]=xs.take (k+1) by rw [List.take_succ,Bo.ap_get? hk];rfl]at this)
 rw [nl_length,List.take_length]at hm
 have hc:ev Γ8 (.comp (.var 0) [2] (.var 0) (.not (.idx (.var 1) (.var 0)))) (dEnv [some (.sh (nD s)),some (.sh (nD xs)),some (.ow ((met.map D.bl).map T.sh)),x])=some (nD (s.filter fun y=> !xs.contains y)):=by
  rw [ev_comp]
  show((some (nD s)).bind walkD).bind _=_
  rw [Option.bind_some,show walkD (nD s)=some (nl s)from rfl,Option.bind_some,if_pos (sz_of (by simp;omega))]
  rw [compF (p:=fun y=> !xs.contains y) fun y hy=> ?_]
  ·rfl
  ·have hy':=hs y hy
   have b:=bl_at (m:=met) (i:=y) (by rw [hm.len];exact hy')
   have hmy:=hm.at' y hy'
   rw [hmy]at b
   have e:ev Γ8 (.not (.idx (.var 1) (.var 0))) (inner (dEnv [some (.sh (nD s)),some (.sh (nD xs)),some (.ow ((met.map D.bl).map T.sh)),x]) [2] (.int y))=some (.bl (!decide (y∈xs))):=by
    simp only [inner,dEnv_cons,dEnv_nil,Option.map_some,strip_sh,strip_ow,map_strip_sh,List.map_cons,List.map_nil,ev_not,ev_idx,ev_var,List.getElem?_cons_zero,List.getElem?_cons_succ,Option.join_some,Option.bind_some,idx_lst,b,notD_bl]
   rw [cS_not,e]
   simp only [Option.bind_some,truthD_bl]
   by_cases h:y∈xs
   ·simp [h]
   ·simp [h,inner]
 have e3:evX Γ8 none (.bin .Add (.rev (.var 1)) (.comp (.var 0) [2] (.var 0) (.not (.idx (.var 1) (.var 0))))) [some (.sh (nD s)),some (.sh (nD xs)),some (.ow ((met.map D.bl).map T.sh)),x]=some (nT (xs.reverse++s.filter fun y=> !xs.contains y),[some (.sh (nD s)),some (.sh (nD xs)),some (.ow ((met.map D.bl).map T.sh)),x]):=by
  refine evX_flat (ds:=nl (xs.reverse++s.filter fun y=> !xs.contains y)) rfl rfl ?_ (all_scal_nl _)
  rw [ev_bin,hc]
  have e4:ev Γ8 (.rev (.var 1)) (dEnv [some (.sh (nD s)),some (.sh (nD xs)),some (.ow ((met.map D.bl).map T.sh)),x])=some (nD xs.reverse):=by
   simp [nD,rev_nl]
  rw [e4,Option.bind_some,Option.bind_some,nD,nD,add_ll,if_pos,nl_append]
  refine sz_of ?_
  have:=List.length_filter_le (fun y=> !xs.contains y) s
  simp only [nl_length,List.length_reverse]
  omega
 exact gP_rt rfl ((st_asg rfl e1).trans ((st_for1 rfl (show itX Γ8 none (.var 1) _=some (nl xs,_)from rfl) hf).trans (st_ret (by simp) e3)))
end MI
end
noncomputable section
namespace MI
open PySem L2
@[simp] theorem flatT_ob(c:Nat)(ks:List Str)(ts:List T):flatT (.ob c ks ts)=ts.all flatT:=by simp [flatT,flatTs_all]
theorem dwn_succ(k:Nat):Bo.dwn (k+1)=k::Bo.dwn k:=by simp [Bo.dwn,List.range_succ]
theorem max_dwn(k:Nat):unD .max (nD (Bo.dwn (k+1)))=some (.int k):=by
 show(intsD (nl (Bo.dwn (k+1)))).bind _=_
 rw [nl_ci,intsD_map,Option.bind_some,dwn_succ]
 show some (D.int ((ci (Bo.dwn k)).foldl (fun m x=>if m<x then x else m) (k:Int)))=_
 rw [fold_ci]
 have h1:=(fold_max_ge (Bo.dwn k) k).1
 have:(Bo.dwn k).foldl max k=k:=by
  rcases fold_max_mem (Bo.dwn k) k with e|e
  ·exact e
  ·have:=Bo.mem_dwn.mp e;omega
 rw [this]
theorem len_nD(s:List Nat):unD .len (nD s)=some (.int s.length):=by rw [nD,len_lst,nl_length]
noncomputable def need(s:List Nat)(m:Nat):Bool:=decide (m=0∨(m<s.length∧s.idxOf m<s.idxOf (m-1)))
theorem needed_ok{s:List Nat}{m:Nat}(hs:Bo.IsRow s)(hl:s.length≤1000):g_are_needed [nD s,nD (Bo.dwn m)]=some (.sh (.bl (need s m))):=by
 have c1:evB Γ12 (.cmp .Eq (.un .len (.var 1)) (.int 0)) (dEnv [some (.sh (nD s)),some (.sh (nD (Bo.dwn m))),none])=some (decide (m=0)):=by
  simp [evB,len_nD]
  rw [←List.length_eq_zero_iff,Bo.dwn_length]
 cases m with
 |zero=>
  refine gP_rt (env:=[some (.sh (nD s)),some (.sh (nD (Bo.dwn 0))),none]) rfl ?_
  show ex Γ12 Δ1 none 100 (.seq (.ife _ _ _) _) _=_
  rw [ex_seq,ex_ife,show evB Γ12 _ (dEnv (startT ["row","things","greatest"] [nD s,nD (Bo.dwn 0)]))=some true from c1]
  rfl
 |succ k=>
  have e2:evX Γ12 none (.un .max (.var 1)) [some (.sh (nD s)),some (.sh (nD (Bo.dwn (k+1)))),none]=some (.sh (.int k),[some (.sh (nD s)),some (.sh (nD (Bo.dwn (k+1)))),none]):=evX_scal rfl (max_dwn k) rfl
  refine gP_rt rfl ((st_skip (c1.trans (by simp))).trans ((st_asg rfl e2).trans (st_ret (by simp) (evX_scal rfl ?_ rfl))))
  show ev Γ12 (.and _ _) (dEnv [some (.sh (nD s)),some (.sh (nD (Bo.dwn (k+1)))),some (.sh (.int k))])=_
  have k0:(k:Int)+1=((k+1:Nat):Int):=by omega
  unfold need
  by_cases h:k+1<s.length
  ·have i1:=ind_row (k:=k) hs hl (by omega)
   have i2:=ind_row (k:=k+1) hs hl h
   have h':((k+1:Nat):Int)<(s.length:Int):=by omega
   simp only [dEnv_cons,dEnv_nil,Option.map_some,strip_sh,ev_and,ev_cmp,ev_bin,ev_ind,ev_un,ev_var,ev_int,List.getElem?_cons_zero,List.getElem?_cons_succ,Option.join_some,Option.bind_some,add_ii,k0,len_nD,lt_ii,gt_ii,i1,i2]
   rw [decide_eq_true h',ifB_t]
   congr 2
   rw [show k+1-1=k from rfl]
   exact decide_eq_decide.mpr ⟨fun z=> .inr ⟨h,by omega⟩,fun z=>by rcases z with z|z<;>omega⟩
  ·have h':¬((k+1:Nat):Int)<(s.length:Int):=by omega
   simp only [dEnv_cons,dEnv_nil,Option.map_some,strip_sh,ev_and,ev_cmp,ev_bin,ev_un,ev_var,ev_int,List.getElem?_cons_zero,List.getElem?_cons_succ,Option.join_some,Option.bind_some,add_ii,k0,len_nD,lt_ii]
   rw [decide_eq_false h',ifB_f,decide_eq_false (by omega)]
noncomputable def fD(xs:List Nat):D:=.ins 2 ["things"] [nD xs]
noncomputable def fT(xs:List Nat):T:=.ob 2 ["things"] [nT xs]
@[simp] theorem strip_fT(xs:List Nat):strip (fT xs)=fD xs:=by simp [fT,fD]
@[simp] theorem flat_fT(xs:List Nat):flatT (fT xs)=true:=by simp [fT]
@[simp] theorem fld_things(xs:List Nat):fldD "things" (fD xs)=some (nD xs):=rfl
theorem copied_1{xs:List Nat}(hl:xs.length≤1000000):g_copied [nD xs]=some (nT xs):=by
 rw [nD,copied_ok (by simpa using hl) (by simp [nl,noIns]),nT]
 simp [nl,cpyT]
theorem finit_ok{xs:List Nat}(h1:xs.length≤1000000):g_Fronted___init__ [nD xs]=some (fT xs):=by
 have hw:Γ14 28=some g_copied:=rfl
 have e1:evX Γ14 none (.call 28 (.cons (.var 1) .nil)) [some (.ob 2 [] []),some (.sh (nD xs))]=some (nT xs,[some (.ob 2 [] []),some (.sh (nD xs))]):=evX_callE hw rfl (copied_1 h1) rfl rfl
 have e:ex Γ14 Δ1 none 100 b_Fronted___init__ (startO ["self","things"] 2 [nD xs])=some (.nx,[some (fT xs),some (.sh (nD xs))]):=(st_fst (c:=2) (ks:=[]) (ts:=[]) e1 rfl rfl).trans rfl
 show gI Γ14 Δ1 100 ["self","things"] 2 2 b_Fronted___init__ [nD xs]=_
 unfold gI
 rw [if_pos (show [nD xs].length+1=2 from rfl),e]
 rfl
theorem at_last{g:List Nat}(h:0<g.length):atI (nl g) (-1)=some (.int (Bo.ap g (g.length-1):Nat)):=by
 unfold atI ixN
 rw [if_neg (by omega),nl_length,if_pos (by omega),Option.bind_some]
 have e2:((-1:Int)+(g.length:Int)).toNat=g.length-1:=by omega
 rw [e2,nl,List.getElem?_map,Bo.ap_get? (by omega)]
 rfl
theorem ldn_nat{m:Nat}(h:m≤1000):unD .ldn (.int ((m:Int)-1))=some (nD (Bo.dwn m)):=by
 show(if decide (-(2 ^ 30)≤(m:Int)-1∧(m:Int)-1≤1000000)then some (D.lst ((List.range ((m:Int)-1+1).toNat).map fun(j:Nat)=>D.int ((m:Int)-1-j)))else none)=_
 rw [if_pos (decide_eq_true (by omega)),show((m:Int)-1+1).toNat=m by omega]
 congr 2
 refine List.ext_getElem (by simp [nl,Bo.dwn]) fun i h1 h2=> ?_
 have hi:i<m:=by simpa using h1
 simp [nl,Bo.dwn]
 omega
noncomputable def fm(r:List Nat):Nat:=if 0<r.length then r.length-Bo.rl r (r.length-1)else 0
theorem fm_le(r:List Nat):fm r≤r.length∧(0<r.length→fm r<r.length):=by
 unfold fm
 split
 ·have:=(Bo.rl_pos r (r.length-1)).1;omega
 ·omega
theorem fronted_ok{r:List Nat}(hr:Bo.IsRow r)(hl:r.length≤1000):g_fronted [nD r]=some (fT (Bo.dwn (fm r))):=by
 have w2:Γ18 2=some g_need_row:=rfl
 have w12:Γ18 12=some g_run_lengths:=rfl
 have w82:Γ18 82=some g_Fronted___init__:=rfl
 have e0:evX Γ18 none (.call 2 (.cons (.var 0) .nil)) [some (.sh (nD r)),none]=some (.sh .non,[some (.sh (nD r)),none]):=evX_callF w2 rfl (need_row_ok hr (by omega)) rfl
 have hf:=fm_le r
 have e1:evX Γ18 none (.ite (.cmp .Gt (.un .len (.var 0)) (.int 0)) (.idx (.call 12 (.cons (.var 0) .nil)) (.un .neg (.int 1))) (.int 0)) [some (.sh (nD r)),none]=some (.sh (.int ((r.length:Int)-(fm r:Nat))),[some (.sh (nD r)),none]):=by
  refine evX_scal rfl ?_ rfl
  by_cases h:0<r.length
  ·have h':(0:Int)<(r.length:Int):=by omega
   have a:=at_last (g:=Bo.rls r) (by rw [rls_length];exact h)
   have c:Bo.ap (Bo.rls r) ((Bo.rls r).length-1)=Bo.rl r (r.length-1):=by
    rw [rls_length,Bo.ap_eq (by rw [rls_length];omega)];simp [Bo.rls]
   rw [c]at a
   have p:=Bo.rl_pos r (r.length-1)
   have e2:(r.length:Int)-(fm r:Nat)=(Bo.rl r (r.length-1):Nat):=by unfold fm;rw [if_pos h];omega
   rw [e2]
   simp [len_nD,h,w12,run_ok hr hl]
   simpa [nD]using a
  ·have h':¬(0:Int)<(r.length:Int):=by omega
   have e2:(r.length:Int)-(fm r:Nat)=0:=by unfold fm;rw [if_neg h];omega
   rw [e2]
   have h0:r.length=0:=by omega
   simp [len_nD,h0]
 have e2:evX Γ18 none (.call 82 (.cons (.un .ldn (.bin .Sub (.bin .Sub (.un .len (.var 0)) (.var 1)) (.int 1))) .nil)) [some (.sh (nD r)),some (.sh (.int ((r.length:Int)-(fm r:Nat))))]=some (fT (Bo.dwn (fm r)),[some (.sh (nD r)),some (.sh (.int ((r.length:Int)-(fm r:Nat))))]):=by
  refine evX_callF (l:=[nD (Bo.dwn (fm r))]) w82 ?_ (finit_ok (by rw [Bo.dwn_length];omega)) (flat_fT _)
  have k:(r.length:Int)-((r.length:Int)-(fm r:Nat))-1=(fm r:Nat)-1:=by omega
  have l:=ldn_nat (m:=fm r) (by omega)
  simp [evs,len_nD,k,l]
 exact gP_rt rfl ((st_drop e0).trans ((st_asg rfl e1).trans (st_ret (by simp) e2)))
noncomputable abbrev fsC:E:=.or (.not (.call 1 (.cons (.var 1) .nil))) (.not (.call 31 (.cons (.un .len (.var 1)) (.cons (.fld (.var 0) "things") .nil))))
theorem fshows_bad{s xs:List Nat}(hs:Bo.IsRow s)(hl:s.length≤1000)(hx:xs.length≤1000)(h:¬(xs.Nodup∧∀x∈xs,x<s.length)):g_Fronted_shows [fD xs,nD s]=some (.sh (.bl false)):=by
 have w1:Γ15 1=some g_is_row:=rfl
 have w31:Γ15 31=some g_are_different_things:=rfl
 obtain⟨b,d1,d2⟩:=different_ok (n:=s.length) (xs:=xs) (by omega) (by omega)
 obtain rfl:b=false:=by
  cases b with
  |false=>rfl
  |true=>exact absurd (d2.mp rfl) h
 have hc:evB Γ15 fsC (dEnv [some (.sh (fD xs)),some (.sh (nD s))])=some true:=by
  simp [evB,w1,w31,is_row_ok hs (by omega),len_nD,d1]
 refine gP_rt (env:=[some (.sh (fD xs)),some (.sh (nD s))]) rfl ?_
 show ex Γ15 Δ1 none 100 (.seq (.ife fsC _ _) _) _=_
 rw [ex_seq,ex_ife,show evB Γ15 fsC (dEnv (startT ["self","row"] [fD xs,nD s]))=some true from hc]
 rfl
theorem fshows_dwn{s:List Nat}{m:Nat}(hs:Bo.IsRow s)(hl:s.length≤1000)(hm:m≤s.length):g_Fronted_shows [fD (Bo.dwn m),nD s]=some (.sh (.bl (decide (Bo.frs s (Bo.dwn m)=List.range s.length)&&need s m))):=by
 have w1:Γ15 1=some g_is_row:=rfl
 have w31:Γ15 31=some g_are_different_things:=rfl
 have w21:Γ15 21=some g_is_in_order:=rfl
 have w23:Γ15 23=some g_after_fronting:=rfl
 have w32:Γ15 32=some g_are_needed:=rfl
 have hlt:∀x∈Bo.dwn m,x<s.length:=fun x hx=>by have:=Bo.mem_dwn.mp hx;omega
 have hmem:∀x∈Bo.dwn m,x∈s:=fun x hx=>hs.mem.mpr (hlt x hx)
 obtain⟨b,d1,d2⟩:=different_ok (n:=s.length) (xs:=Bo.dwn m) (by omega) (by rw [Bo.dwn_length];omega)
 obtain rfl:b=true:=d2.mpr ⟨Bo.dwn_nodup m,hlt⟩
 have hc:evB Γ15 fsC (dEnv [some (.sh (fD (Bo.dwn m))),some (.sh (nD s))])=some false:=by
  simp [evB,w1,w31,is_row_ok hs (by omega),len_nD,d1]
 have A:=after_fronting_ok (s:=s) (xs:=Bo.dwn m) hlt (fun y hy=>hs.mem.mp hy) hl (by rw [Bo.dwn_length];omega)
 rw [←Bo.frs_eq hs.nodup (Bo.dwn_nodup m) hmem]at A
 have fl:(Bo.frs s (Bo.dwn m)).length=s.length:=Bo.frs_length hmem
 have I:=is_in_order_ok (t:=Bo.frs s (Bo.dwn m)) (by omega)
 rw [fl]at I
 have N:=needed_ok (m:=m) hs hl
 refine gP_rt (env:=[some (.sh (fD (Bo.dwn m))),some (.sh (nD s))]) rfl ((st_skip hc).trans (st_ret (by simp) (evX_scal rfl ?_ rfl)))
 have c1:ev Γ15 (.call 21 (.cons (.call 23 (.cons (.var 1) (.cons (.fld (.var 0) "things") .nil))) .nil)) (dEnv [some (.sh (fD (Bo.dwn m))),some (.sh (nD s))])=some (.bl (decide (Bo.frs s (Bo.dwn m)=List.range s.length))):=by
  simp [w21,w23,A,I]
 have c2:ev Γ15 (.call 32 (.cons (.var 1) (.cons (.fld (.var 0) "things") .nil))) (dEnv [some (.sh (fD (Bo.dwn m))),some (.sh (nD s))])=some (.bl (need s m)):=by
  simp [w32,N]
 show ev Γ15 (.and _ _) (dEnv [some (.sh (fD (Bo.dwn m))),some (.sh (nD s))])=_
 rw [ev_and,c1,c2,Option.bind_some,ifB_bl]
 cases decide (Bo.frs s (Bo.dwn m)=List.range s.length)<;>rfl
end MI
end
noncomputable section
namespace MI
open PySem L2
theorem ddp_le:∀l:List Int,(ddp l).length≤l.length
 |[]=>Nat.le_refl _
 |a::r=>by
  have:=ddp_le r
  unfold ddp
  split<;>simp<;>omega
theorem ddp_len:∀ {l:List Int},(ddp l).length=l.length↔l.Nodup
 |[]=>by simp [ddp]
 |a::r=>by
  have h1:=ddp_le r
  have h2:=ddp_len (l:=r)
  unfold ddp
  split
  ·rename_i h
   simp only [List.length_cons,List.nodup_cons]
   constructor
   ·intro z;omega
   ·rintro ⟨z,_⟩;exact absurd h z
  ·rename_i h
   simp only [List.length_cons,List.nodup_cons,Nat.add_right_cancel_iff,h2]
   simp [h]
theorem nodup_ci{xs:List Nat}:(ci xs).Nodup↔xs.Nodup:=by
 unfold ci
 constructor
 ·intro h;exact List.Pairwise.of_map _ (fun a b hab e=>hab (by rw [e])) h
 ·intro h
  exact List.Pairwise.map _ (fun a b hab=>by omega) h
theorem lset_nat{xs:List Nat}(h:xs.length<64):unD .lset (nD xs)=some (.int (ddp (ci xs)).length):=by
 show(intsD (nl xs)).bind _=_
 rw [nl_ci,intsD_map,Option.bind_some,if_pos (decide_eq_true (by simpa [ci]using h))]
theorem lset_ne{xs:List Nat}:decide (((ddp (ci xs)).length:Int)=(xs.length:Int))=decide xs.Nodup:=by
 refine decide_eq_decide.mpr ?_
 rw [←nodup_ci,←ddp_len]
 simp [ci]
 omega
noncomputable abbrev fdC:E:=.cmp .NotEq (.call 61 (.cons (.var 0) (.cons (.var 1) .nil))) (.un .lrng (.un .len (.var 0)))
theorem fdC_ok{s xs:List Nat}{z:Option T}{t:List Nat}(hl:s.length≤1000)(h:g__law_fronted [nD s,nD xs]=some (nT t)):evB Γ26 fdC (dEnv [some (.sh (nD s)),some (.sh (nD xs)),z])=some (!decide (t=List.range s.length)):=by
 have w61:Γ26 61=some g__law_fronted:=rfl
 simp [evB,w61,h,len_nD,lrng_nat (n:=s.length) (by omega)]
theorem fd_ne{s xs t:List Nat}(hl:s.length≤1000)(h:g__law_fronted [nD s,nD xs]=some (nT t))(ht:t≠List.range s.length):g__law_front_due [nD s,nD xs]=some (.sh (.bl false)):=by
 have hc:=fdC_ok (z:=none) hl h
 rw [decide_eq_false ht]at hc
 refine gP_rt (env:=[some (.sh (nD s)),some (.sh (nD xs)),none]) rfl ?_
 show ex Γ26 Δ1 none 100 (.seq (.ife fdC _ _) _) _=_
 rw [ex_seq,ex_ife,show evB Γ26 fdC (dEnv (startT ["_law_row_here","_law_things","_law_many"] [nD s,nD xs]))=some true from hc]
 rfl
theorem fd_set{s xs:List Nat}(hx:xs.length<64):evB Γ26 (.cmp .NotEq (.un .lset (.var 1)) (.var 2)) (dEnv [some (.sh (nD s)),some (.sh (nD xs)),some (.sh (.int xs.length))])=some (!decide xs.Nodup):=by
 rw [←lset_ne]
 simp [evB,lset_nat hx]
theorem fd_dup{s xs t:List Nat}(hl:s.length≤1000)(hx:xs.length<64)(h:g__law_fronted [nD s,nD xs]=some (nT t))(nd:¬xs.Nodup):g__law_front_due [nD s,nD xs]=some (.sh (.bl false)):=by
 by_cases ht:t=List.range s.length
 ·have hc:=fdC_ok (z:=none) hl h
  rw [decide_eq_true ht]at hc
  have e2:evX Γ26 none (.un .len (.var 1)) [some (.sh (nD s)),some (.sh (nD xs)),none]=some (.sh (.int xs.length),[some (.sh (nD s)),some (.sh (nD xs)),none]):=evX_scal rfl (len_nD xs) rfl
  have c2:=fd_set (s:=s) hx
  rw [decide_eq_false nd]at c2
  refine gP_rt (env:=[some (.sh (nD s)),some (.sh (nD xs)),some (.sh (.int xs.length))]) rfl ((st_skip hc).trans ((st_asg rfl e2).trans ?_))
  rw [ex_seq,ex_ife,show evB Γ26 _ (dEnv ([some (.sh (nD s)),some (.sh (nD xs)),none].set 2 (some (.sh (.int xs.length)))))=some true from c2]
  rfl
 ·exact fd_ne hl h ht
theorem fd_dwn{s:List Nat}{m:Nat}(hs:Bo.IsRow s)(hl:s.length≤1000)(hm:m≤s.length)(h64:m<64):g__law_front_due [nD s,nD (Bo.dwn m)]=some (.sh (.bl (decide (Bo.frs s (Bo.dwn m)=List.range s.length)&&need s m))):=by
 have hmem:∀x∈Bo.dwn m,x∈s:=fun x hx=>hs.mem.mpr (by have:=Bo.mem_dwn.mp hx;omega)
 have F:=law_fronted_ok hmem (row_le hs hl) hl
 by_cases ht:Bo.frs s (Bo.dwn m)=List.range s.length
 ·have hc:=fdC_ok (z:=none) hl F
  rw [decide_eq_true ht]at hc⊢
  have e2:evX Γ26 none (.un .len (.var 1)) [some (.sh (nD s)),some (.sh (nD (Bo.dwn m))),none]=some (.sh (.int (Bo.dwn m).length),[some (.sh (nD s)),some (.sh (nD (Bo.dwn m))),none]):=evX_scal rfl (len_nD _) rfl
  have c2:=fd_set (s:=s) (xs:=Bo.dwn m) (by rw [Bo.dwn_length];exact h64)
  rw [decide_eq_true (Bo.dwn_nodup m)]at c2
  refine gP_rt (env:=[some (.sh (nD s)),some (.sh (nD (Bo.dwn m))),some (.sh (.int (Bo.dwn m).length))]) rfl ((st_skip hc).trans ((st_asg rfl e2).trans ((st_skip c2).trans (st_ret (by simp) (evX_scal rfl ?_ rfl)))))
  show ev Γ26 (.or _ _) (dEnv [some (.sh (nD s)),some (.sh (nD (Bo.dwn m))),some (.sh (.int (Bo.dwn m).length))])=_
  rw [Bo.dwn_length,Bool.true_and]
  unfold need
  cases m with
  |zero=>simp
  |succ k=>
   have k0:((k+1:Nat):Int)-1=(k:Int):=by omega
   have n0:decide (((k+1:Nat):Int)=0)=false:=decide_eq_false (by omega)
   by_cases h:k+1<s.length
   ·have i1:=ind_row (k:=k) hs hl (by omega)
    have i2:=ind_row (k:=k+1) hs hl h
    have h':((k+1:Nat):Int)<(s.length:Int):=by omega
    simp only [dEnv_cons,dEnv_nil,Option.map_some,strip_sh,ev_or,ev_and,ev_cmp,ev_bin,ev_ind,ev_un,ev_var,ev_int,List.getElem?_cons_zero,List.getElem?_cons_succ,Option.join_some,Option.bind_some,eq_dd,eq_ii,n0,ifB_f,sub_ii,k0,len_nD,lt_ii,gt_ii,i1,i2]
    rw [decide_eq_true h',ifB_t]
    congr 2
    rw [show k+1-1=k from rfl]
    exact decide_eq_decide.mpr ⟨fun z=> .inr ⟨h,by omega⟩,fun z=>by rcases z with z|z<;>omega⟩
   ·have h':¬((k+1:Nat):Int)<(s.length:Int):=by omega
    simp only [dEnv_cons,dEnv_nil,Option.map_some,strip_sh,ev_or,ev_and,ev_cmp,ev_un,ev_var,ev_int,List.getElem?_cons_zero,List.getElem?_cons_succ,Option.join_some,Option.bind_some,eq_dd,eq_ii,n0,ifB_f,len_nD,lt_ii]
    rw [decide_eq_false h',ifB_f,decide_eq_false (by omega)]
 ·rw [decide_eq_false ht]
  exact fd_ne hl F ht
theorem front_same{s:List Nat}{m:Nat}(hs:Bo.IsRow s)(hl:s.length≤1000)(hm:m≤s.length)(h64:m<64):∃b,g_Fronted_shows [fD (Bo.dwn m),nD s]=some (.sh (.bl b))∧g__law_front_due [nD s,nD (Bo.dwn m)]=some (.sh (.bl b)):=⟨_,fshows_dwn hs hl hm,fd_dwn hs hl hm h64⟩
theorem front_true{r:List Nat}(hr:Bo.IsRow r):(decide (Bo.frs r (Bo.dwn (fm r))=List.range r.length)&&need r (fm r))=true:=by
 by_cases h:0<r.length
 ·obtain⟨h1,h2⟩:=Bo.front_ok hr h
  unfold fm need
  rw [if_pos h,decide_eq_true h1,decide_eq_true h2];rfl
 ·have:r=[]:=List.length_eq_zero_iff.mp (by omega)
  subst this
  rfl
theorem front_more{r:List Nat}(hr:Bo.IsRow r)(hl:r.length≤63):∃b,g_Fronted_shows [fD (Bo.dwn (fm r)++[0]),nD r]=some (.sh (.bl b))∧g__law_front_due [nD r,nD (Bo.dwn (fm r)++[0])]=some (.sh (.bl b)):=by
 have hf:=fm_le r
 by_cases h0:r.length=0
 ·have:r=[]:=List.length_eq_zero_iff.mp h0
  subst this
  refine⟨false,fshows_bad hr (by simp) (by simp [Bo.dwn,fm]) (fun z=> ?_),?_⟩
  ·have:=z.2 0 (by simp)
   simp at this
  ·kernel_rfl
 ·cases hm:fm r with
  |zero=>
   exact front_same (m:=1) hr (by omega) (by omega) (by omega)
  |succ k=>
   have nd:¬(Bo.dwn (k+1)++[0]).Nodup:=fun z=>by
    have:=(List.nodup_append.mp z).2.2 0 (Bo.mem_dwn.mpr (by omega)) 0 (by simp)
    exact this rfl
   have hx:(Bo.dwn (k+1)++[0]).length<64:=by rw [List.length_append,Bo.dwn_length];simp;omega
   refine⟨false,fshows_bad hr (by omega) (by omega) (fun z=>nd z.1),fd_dup (by omega) hx (law_fronted_ok (fun x hx=>hr.mem.mpr ?_) (row_le hr (by omega)) (by omega)) nd⟩
   rcases List.mem_append.mp hx with z|z
   ·have:=Bo.mem_dwn.mp z;omega
   ·have:x=0:=by simpa using z
    omega
end MI
end
noncomputable section
namespace MI
open PySem L2
noncomputable abbrev aeB:S:=.seq (.ife (.not (.idx (.var 2) (.var 5))) (.seq (.set 2 (.var 5) (.bl true)) (.seq (.ife (.cmp .Eq (.var 6) (.int 0)) (.seq (.app 3 (.var 5)) .nop) (.seq (.app 4 (.var 5)) .nop)) .nop)) .nop) .nop
noncomputable abbrev aeS:D→TEnv→Option (Fl×TEnv):=twoS fun x y e=>ex Γ9 Δ1 none 100 aeB ((e.set 5 (some (.sh x))).set 6 (some (.sh y)))
theorem ae_step{n:Nat}{e0 e1 x y:Option T}{L F B:List Nat}{met:List Bool}{a k:Nat}(hm:Mk n L met)(ha:a<n)(hn:a∉L)(hF:F.length≤1000)(hB:B.length≤1000)(hk:k=0∨k=1):
 aeS (pd (a,k)) [e0,e1,some (.ow ((met.map D.bl).map T.sh)),some (nT F),some (nT B),x,y]=some (.nx,[e0,e1,some (.ow (((met.set a true).map D.bl).map T.sh)),some (nT (if k=0 then F++[a]else F)),some (nT (if k=0 then B else B++[a])),some (.sh (.int a)),some (.sh (.int k))]):=by
 have h0:met.getD a false=false:=by rw [hm.at' _ ha];exact decide_eq_false hn
 have c1:evB Γ9 (.not (.idx (.var 2) (.var 5))) (dEnv [e0,e1,some (.ow ((met.map D.bl).map T.sh)),some (nT F),some (nT B),some (.sh (.int a)),some (.sh (.int k))])=some true:=by
  have b:=bl_at (m:=met) (i:=a) (by rw [hm.len];exact ha)
  rw [h0]at b
  simp only [dEnv_cons,dEnv_nil,Option.map_some,strip_sh,strip_ow,map_strip_sh,evB,ev_not,ev_idx,ev_var,List.getElem?_cons_zero,List.getElem?_cons_succ,Option.join_some,Option.bind_some,idx_lst,b,notD_bl,truthD_bl]
  rfl
 have es:((met.map D.bl).map T.sh).set a (.sh (.bl true))=((met.set a true).map D.bl).map T.sh:=by simp
 have ap:∀l:List Nat,T.ow ((nl l).map T.sh++[.sh (.int a)])=nT (l++[a]):=fun l=>by simp [nT,nl]
 show ex Γ9 Δ1 none 100 aeB [e0,e1,some (.ow ((met.map D.bl).map T.sh)),some (nT F),some (nT B),some (.sh (.int a)),some (.sh (.int k))]=_
 refine(st_if c1 ?_).trans rfl
 rw [if_pos rfl]
 refine(st_set (d:=.bl true) (z:=a) (j:=a) (ts:=(met.map D.bl).map T.sh) rfl rfl rfl rfl (ixN_nat (by simpa using(by rw [hm.len];exact ha)))).trans ?_
 rw [es]
 rcases hk with rfl|rfl
 ·refine(st_if (t:=true) (env2:=[e0,e1,some (.ow (((met.set a true).map D.bl).map T.sh)),some (nT (F++[a])),some (nT B),some (.sh (.int a)),some (.sh (.int (0:Nat)))]) (by simp [evB]) ?_).trans rfl
  rw [if_pos rfl]
  refine(st_app (t:=.sh (.int a)) (ts:=(nl F).map T.sh) (evX_scal rfl rfl rfl) rfl (sz_of (by simp;omega))).trans ?_
  rw [ap];rfl
 ·refine(st_if (t:=false) (env2:=[e0,e1,some (.ow (((met.set a true).map D.bl).map T.sh)),some (nT F),some (nT (B++[a])),some (.sh (.int a)),some (.sh (.int (1:Nat)))]) (by simp [evB]) ?_).trans rfl
  rw [if_neg (by simp)]
  refine(st_app (t:=.sh (.int a)) (ts:=(nl B).map T.sh) (evX_scal rfl rfl rfl) rfl (sz_of (by simp;omega))).trans ?_
  rw [ap];rfl
theorem ae_loop{n:Nat}{e0 e1:Option T}(k:Nat)(hk:k=0∨k=1):∀(l L F B:List Nat) (met:List Bool) (x y:Option T) (rest:List D),Mk n L met→l.Nodup→(∀a∈l,a<n∧a∉L)→F.length+l.length≤1000→B.length+l.length≤1000→
 ∃met' x' y',Mk n (L++l) met'∧forL aeS (l.map (fun a=>pd (a,k))++rest) [e0,e1,some (.ow ((met.map D.bl).map T.sh)),some (nT F),some (nT B),x,y]=forL aeS rest [e0,e1,some (.ow ((met'.map D.bl).map T.sh)),some (nT (if k=0 then F++l else F)),some (nT (if k=0 then B else B++l)),x',y']
 |[],L,F,B,met,x,y,rest,hm,_,_,_,_=>⟨met,x,y,by simpa using hm,by simp⟩
 |a::l,L,F,B,met,x,y,rest,hm,nd,hd,hF,hB=>by
  obtain⟨h1,h2⟩:=List.nodup_cons.mp nd
  obtain⟨ha,hn⟩:=hd a (List.mem_cons_self ..)
  simp only [List.length_cons]at hF hB
  obtain⟨met',x',y',hm',st⟩:=ae_loop (e0:=e0) (e1:=e1) k hk l (L++[a]) (if k=0 then F++[a]else F) (if k=0 then B else B++[a]) (met.set a true) (some (.sh (.int a))) (some (.sh (.int k))) rest (hm.more ha) h2 (fun b hb=>⟨(hd b (List.mem_cons_of_mem _ hb)).1,fun z=>by
   rcases List.mem_append.mp z with z|z
   ·exact(hd b (List.mem_cons_of_mem _ hb)).2 z
   ·rw [List.mem_singleton.mp z]at hb;exact h1 hb⟩) (by
    split
    ·rw [List.length_append,List.length_singleton];omega
    ·omega) (by
    split
    ·omega
    ·rw [List.length_append,List.length_singleton];omega)
  refine⟨met',x',y',by rwa [List.append_assoc,List.singleton_append]at hm',?_⟩
  show(aeS (pd (a,k)) [e0,e1,some (.ow ((met.map D.bl).map T.sh)),some (nT F),some (nT B),x,y]).bind _=_
  rw [ae_step hm ha hn (by omega) (by omega) hk]
  refine Eq.trans st ?_
  rcases hk with rfl|rfl<;>simp
theorem after_ending_ok{s:List Nat}{n b L:Nat}(hs:Bo.IsRow s)(hl:s.length≤1000)(hn:n≤s.length)(hb:b≤n):g_after_ending [nD s,pD (Bo.enMoves n b L)]=some (nT (Bo.enForm s n b L)):=by
 have e1:evX Γ9 none (.bin .Mult (.lst (.cons (.bl false) .nil)) (.un .len (.var 0))) [some (.sh (nD s)),some (.sh (pD (Bo.enMoves n b L))),none,none,none,none,none]=some (.ow (((List.replicate s.length false).map D.bl).map T.sh),[some (.sh (nD s)),some (.sh (pD (Bo.enMoves n b L))),none,none,none,none,none]):=by
  refine evX_flat rfl rfl ?_ (by simp)
  have:sz 1=true:=rfl
  simp [nD,this,mul_false (n:=s.length) (by omega),-List.map_replicate]
 have hrev:((Bo.enMoves n b L).map pd).reverse=(List.range' b (n-b)).reverse.map (fun a=>pd (a,1))++(List.range (b-L)).map (fun a=>pd (a,0)):=by
  simp [Bo.enMoves,Bo.fronts,Bo.backs,Bo.dwn,Function.comp_def]
 obtain⟨m1,x1,y1,k1,s1⟩:=ae_loop (n:=s.length) (e0:=some (.sh (nD s))) (e1:=some (.sh (pD (Bo.enMoves n b L)))) 1 (.inr rfl) (List.range' b (n-b)).reverse [] [] [] (List.replicate s.length false) none none ((List.range (b-L)).map (fun a=>pd (a,0))) (Mk.start _) ((List.reverse_perm _).nodup_iff.mpr List.nodup_range') (fun a ha=>⟨by have:=List.mem_range'_1.mp (List.mem_reverse.mp ha);omega,by simp⟩) (by simp;omega) (by simp;omega)
 obtain⟨m2,x2,y2,k2,s2⟩:=ae_loop (n:=s.length) (e0:=some (.sh (nD s))) (e1:=some (.sh (pD (Bo.enMoves n b L)))) 0 (.inl rfl) (List.range (b-L)) ([]++(List.range' b (n-b)).reverse) [] ([]++(List.range' b (n-b)).reverse) m1 x1 y1 [] k1 List.nodup_range (fun a ha=>⟨by have:=List.mem_range.mp ha;omega,fun z=>by
  have h1:=List.mem_range.mp ha
  have h2:=List.mem_range'_1.mp (List.mem_reverse.mp (by simpa using z))
  omega⟩) (by simp;omega) (by simp;omega)
 rw [List.append_nil]at s2
 have hf:=s1.trans s2
 simp only [if_true,List.nil_append,show¬(1:Nat)=0 by decide,if_false]at hf k2
 rw [←hrev]at hf
 have hx:itX Γ9 none (.rvd (.var 1)) [some (.sh (nD s)),some (.sh (pD (Bo.enMoves n b L))),some (.ow (((List.replicate s.length false).map D.bl).map T.sh)),some (.ow []),some (.ow []),none,none]=some (((Bo.enMoves n b L).map pd).reverse,[some (.sh (nD s)),some (.sh (pD (Bo.enMoves n b L))),some (.ow (((List.replicate s.length false).map D.bl).map T.sh)),some (.ow []),some (.ow []),none,none]):=rfl
 have hc:ev Γ9 (.comp (.var 0) [2] (.var 0) (.not (.idx (.var 1) (.var 0)))) (dEnv [some (.sh (nD s)),some (.sh (pD (Bo.enMoves n b L))),some (.ow ((m2.map D.bl).map T.sh)),some (nT (List.range (b-L))),some (nT (List.range' b (n-b)).reverse),x2,y2])=some (nD (s.filter fun y=> !(Bo.dwn (b-L)).contains y&& !(List.range' b (n-b)).contains y)):=by
  rw [ev_comp]
  show((some (nD s)).bind walkD).bind _=_
  rw [Option.bind_some,show walkD (nD s)=some (nl s)from rfl,Option.bind_some,if_pos (sz_of (by simp;omega))]
  rw [compF (p:=fun y=> !(Bo.dwn (b-L)).contains y&& !(List.range' b (n-b)).contains y) fun y hy=> ?_]
  ·rfl
  ·have hy':=hs.mem.mp hy
   have bb:=bl_at (m:=m2) (i:=y) (by rw [k2.len];exact hy')
   rw [k2.at' y hy']at bb
   have q:(!(Bo.dwn (b-L)).contains y&& !(List.range' b (n-b)).contains y)= !decide (y∈(List.range' b (n-b)).reverse++List.range (b-L)):=by
    rw [Bool.eq_iff_iff]
    simp only [Bool.and_eq_true,Bool.not_eq_true',List.contains_eq_mem,decide_eq_false_iff_not,List.mem_append,List.mem_reverse,List.mem_range,Bo.mem_dwn]
    constructor
    ·rintro ⟨h1,h2⟩ (h3|h3)
     ·exact h2 h3
     ·exact h1 h3
    ·intro h;exact⟨fun z=>h (.inr z),fun z=>h (.inl z)⟩
   have e:ev Γ9 (.not (.idx (.var 1) (.var 0))) (inner (dEnv [some (.sh (nD s)),some (.sh (pD (Bo.enMoves n b L))),some (.ow ((m2.map D.bl).map T.sh)),some (nT (List.range (b-L))),some (nT (List.range' b (n-b)).reverse),x2,y2]) [2] (.int y))=some (.bl (!(Bo.dwn (b-L)).contains y&& !(List.range' b (n-b)).contains y)):=by
    rw [q]
    simp only [inner,dEnv_cons,dEnv_nil,Option.map_some,strip_sh,strip_ow,map_strip_sh,List.map_cons,List.map_nil,ev_not,ev_idx,ev_var,List.getElem?_cons_zero,List.getElem?_cons_succ,Option.join_some,Option.bind_some,idx_lst,bb,notD_bl]
   rw [cS_not,e]
   simp only [Option.bind_some,truthD_bl]
   cases (!(Bo.dwn (b-L)).contains y&& !(List.range' b (n-b)).contains y)<;>rfl
 have e3:evX Γ9 none (.bin .Add (.bin .Add (.var 3) (.comp (.var 0) [2] (.var 0) (.not (.idx (.var 1) (.var 0))))) (.rev (.var 4))) [some (.sh (nD s)),some (.sh (pD (Bo.enMoves n b L))),some (.ow ((m2.map D.bl).map T.sh)),some (nT (List.range (b-L))),some (nT (List.range' b (n-b)).reverse),x2,y2]=some (nT (Bo.enForm s n b L),[some (.sh (nD s)),some (.sh (pD (Bo.enMoves n b L))),some (.ow ((m2.map D.bl).map T.sh)),some (nT (List.range (b-L))),some (nT (List.range' b (n-b)).reverse),x2,y2]):=by
  refine evX_flat (ds:=nl (Bo.enForm s n b L)) rfl rfl ?_ (all_scal_nl _)
  have fl:=List.length_filter_le (fun y=> !(Bo.dwn (b-L)).contains y&& !(List.range' b (n-b)).contains y) s
  have e4:ev Γ9 (.var 3) (dEnv [some (.sh (nD s)),some (.sh (pD (Bo.enMoves n b L))),some (.ow ((m2.map D.bl).map T.sh)),some (nT (List.range (b-L))),some (nT (List.range' b (n-b)).reverse),x2,y2])=some (nD (List.range (b-L))):=by simp
  have e5:ev Γ9 (.rev (.var 4)) (dEnv [some (.sh (nD s)),some (.sh (pD (Bo.enMoves n b L))),some (.ow ((m2.map D.bl).map T.sh)),some (nT (List.range (b-L))),some (nT (List.range' b (n-b)).reverse),x2,y2])=some (nD (List.range' b (n-b))):=by
   simp [nD,rev_nl]
  rw [ev_bin,ev_bin,hc,e4,e5,Option.bind_some,Option.bind_some]
  rw [nD,nD,nD,add_ll,if_pos (sz_of (by simp only [nl_length,List.length_range];omega)),Option.bind_some,Option.bind_some,add_ll,if_pos (sz_of (by simp only [List.length_append,nl_length,List.length_range,List.length_range'];omega)),nl_append,nl_append]
  unfold Bo.enForm
  rw [Bo.dwn_rev]
 exact gP_rt rfl ((st_asg rfl e1).trans ((st_asg rfl (evX_nilL _ _ _)).trans ((st_asg rfl (evX_nilL _ _ _)).trans ((st_for2 rfl hx hf).trans (st_ret (by simp) e3)))))
end MI
end
noncomputable section
namespace MI
open PySem L2
noncomputable abbrev leB:S:=.seq (.ife (.or (.cmp .NotIn (.var 3) (.var 2)) (.cmp .NotIn (.var 4) (.tup (.cons (.int 0) (.cons (.int 1) .nil))))) (.seq (.ret (.lst .nil)) .nop) .nop) (.seq (.asg 5 (.ind (.var 2) (.var 3))) (.seq (.asg 2 (.bin .Add (.cut (.var 2) .nil (.var 5)) (.cut (.var 2) (.bin .Add (.var 5) (.int 1)) .nil))) (.seq (.asg 2 (.ite (.cmp .Eq (.var 4) (.int 1)) (.bin .Add (.var 2) (.lst (.cons (.var 3) .nil))) (.bin .Add (.lst (.cons (.var 3) .nil)) (.var 2)))) .nop)))
noncomputable abbrev leS:D→TEnv→Option (Fl×TEnv):=twoS fun x y e=>ex Γ27 Δ1 none 100 leB ((e.set 3 (some (.sh x))).set 4 (some (.sh y)))
@[simp] theorem notin_t(a:D)(l:List D):cmpD .NotIn a (.tup l)=(inD a l).map fun c=> .bl (!c):=by cases a<;>rfl
theorem le_step{e0 e1 x y z:Option T}{t:List Nat}{tt:T}{a k:Nat}(ht:IsN t tt)(hx:a∈t)(hs:∀y∈t,y≤1000)(hl:t.length≤1000)(hk:k=0∨k=1):
 leS (pd (a,k)) [e0,e1,some tt,x,y,z]=some (.nx,[e0,e1,some (.sh (nD (Bo.en1 t (a,k)))),some (.sh (.int a)),some (.sh (.int k)),some (.sh (.int (t.idxOf a:Nat)))]):=by
 have hi:=List.idxOf_lt_length_iff.mpr hx
 have i01:inD (.int (k:Int)) [.int 0,.int 1]=some true:=by rcases hk with rfl|rfl<;>rfl
 show ex Γ27 Δ1 none 100 leB [e0,e1,some tt,some (.sh (.int a)),some (.sh (.int k)),z]=_
 have s2':sz 2=true:=rfl
 have c1:evB Γ27 (.or (.cmp .NotIn (.var 3) (.var 2)) (.cmp .NotIn (.var 4) (.tup (.cons (.int 0) (.cons (.int 1) .nil))))) (dEnv [e0,e1,some tt,some (.sh (.int a)),some (.sh (.int k)),z])=some false:=by
  simp [evB,ht.strip,nD,in_nat,hx,s2',i01]
 have e2:evX Γ27 none (.ind (.var 2) (.var 3)) [e0,e1,some tt,some (.sh (.int a)),some (.sh (.int k)),z]=some (.sh (.int (t.idxOf a:Nat)),[e0,e1,some tt,some (.sh (.int a)),some (.sh (.int k)),z]):=by
  refine evX_scal rfl ?_ rfl
  simp [ht.strip,ind_nat hs hl hx]
 have k1:=cut_hi (g:=t) (s:=t.idxOf a) (by omega)
 have k2:=cut_lo (g:=t) (s:=t.idxOf a+1) (by omega)
 have k0:((t.idxOf a:Nat):Int)+1=((t.idxOf a+1:Nat):Int):=by omega
 have el:=List.length_erase_of_mem hx
 have e3:evX Γ27 none (.bin .Add (.cut (.var 2) .nil (.var 5)) (.cut (.var 2) (.bin .Add (.var 5) (.int 1)) .nil)) [e0,e1,some tt,some (.sh (.int a)),some (.sh (.int k)),some (.sh (.int (t.idxOf a:Nat)))]=some (nT (t.erase a),[e0,e1,some tt,some (.sh (.int a)),some (.sh (.int k)),some (.sh (.int (t.idxOf a:Nat)))]):=by
  refine evX_flat (ds:=nl (t.erase a)) rfl rfl ?_ (all_scal_nl _)
  simp only [dEnv_cons,dEnv_nil,Option.map_some,strip_sh,ht.strip,ev_bin,ev_var,ev_nil,ev_cut,ev_int,List.getElem?_cons_zero,List.getElem?_cons_succ,Option.join_some,Option.bind_some,optS_nil,optS_var,optS_bin,add_ii,k0,nD,cutD_lst,k1,k2,add_ll]
  rw [if_pos (sz_of (by simp;omega)),nl_append,erase_cut]
 have e4:evX Γ27 none (.ite (.cmp .Eq (.var 4) (.int 1)) (.bin .Add (.var 2) (.lst (.cons (.var 3) .nil))) (.bin .Add (.lst (.cons (.var 3) .nil)) (.var 2))) [e0,e1,some (nT (t.erase a)),some (.sh (.int a)),some (.sh (.int k)),some (.sh (.int (t.idxOf a:Nat)))]=some (.sh (nD (Bo.en1 t (a,k))),[e0,e1,some (.sh (nD (t.erase a))),some (.sh (.int a)),some (.sh (.int k)),some (.sh (.int (t.idxOf a:Nat)))]):=by
  have key:∀env:Env,(env[2]?).join=some (nD (t.erase a))→(env[3]?).join=some (.int a)→(env[4]?).join=some (.int k)→ev Γ27 (.ite (.cmp .Eq (.var 4) (.int 1)) (.bin .Add (.var 2) (.lst (.cons (.var 3) .nil))) (.bin .Add (.lst (.cons (.var 3) .nil)) (.var 2))) env=some (nD (Bo.en1 t (a,k))):=fun env h2 h3 h4=>by
   have s1:sz 1=true:=rfl
   have z1:sz ((nl (t.erase a)).length+1)=true:=sz_of (by simp;omega)
   have z2:sz (1+(nl (t.erase a)).length)=true:=sz_of (by simp;omega)
   rcases hk with rfl|rfl
   ·simp only [ev_ite,ev_cmp,ev_var,ev_int,ev_bin,ev_lst,ev_cons,ev_nil,h2,h3,h4,Option.bind_some,eq_dd,eq_ii,Option.map_some,truthD_bl,consD_lst,szL_lst,List.length_cons,List.length_nil,Nat.zero_add,s1,if_true,nD,add_ll,z2]
    rfl
   ·simp only [ev_ite,ev_cmp,ev_var,ev_int,ev_bin,ev_lst,ev_cons,ev_nil,h2,h3,h4,Option.bind_some,eq_dd,eq_ii,Option.map_some,truthD_bl,consD_lst,szL_lst,List.length_cons,List.length_nil,Nat.zero_add,s1,if_true,nD,add_ll,z1]
    rw [if_pos (by decide)]
    show some (D.lst (nl (t.erase a)++[D.int a]))=some (D.lst (nl (t.erase a++[a])))
    rw [←nl_append];rfl
  rw [evX_other rfl,key _ (by simp) (by simp) (by simp),Option.bind_some,if_neg (show¬scal (nD (Bo.en1 t (a,k)))=true from Bool.false_ne_true),if_neg (by simp [fresh])]
  have hz:frz none [e0,e1,some (nT (t.erase a)),some (.sh (.int a)),some (.sh (.int k)),some (.sh (.int (t.idxOf a:Nat)))] (vars (.ite (.cmp .Eq (.var 4) (.int 1)) (.bin .Add (.var 2) (.lst (.cons (.var 3) .nil))) (.bin .Add (.lst (.cons (.var 3) .nil)) (.var 2))))=some [e0,e1,some (.sh (nD (t.erase a))),some (.sh (.int a)),some (.sh (.int k)),some (.sh (.int (t.idxOf a:Nat)))]:=by
   simp [vars,frz,nT,nD,strip_comp_sh]
  rw [hz,Option.bind_some,key _ (by simp) (by simp) (by simp)]
  rfl
 exact(st_skip c1).trans ((st_asg rfl e2).trans ((st_asg rfl e3).trans ((st_asg rfl e4).trans rfl)))
theorem en1_mem{t:List Nat}{p:Nat×Nat}{y:Nat}(hx:p.1∈t):y∈Bo.en1 t p↔y∈t:=by
 have f:=Bo.fr1_mem (y:=y) hx
 unfold Bo.fr1 at f
 unfold Bo.en1
 split
 ·rw [List.mem_append,List.mem_singleton,←f,List.mem_cons,or_comm]
 ·exact f
theorem en1_length{t:List Nat}{p:Nat×Nat}(hx:p.1∈t):(Bo.en1 t p).length=t.length:=by
 have f:=Bo.fr1_length hx
 unfold Bo.fr1 at f
 unfold Bo.en1
 split
 ·rw [List.length_append,List.length_singleton];exact f
 ·exact f
theorem law_ended_ok{s:List Nat}{ms:List (Nat×Nat)}(hx:∀p∈ms,p.1∈s∧(p.2=0∨p.2=1))(hs:∀y∈s,y≤1000)(hl:s.length≤1000):∃t,IsN (Bo.ens s ms) t∧g__law_ended [nD s,pD ms]=some t:=by
 have e1:evX Γ27 none (.un .list (.var 0)) [some (.sh (nD s)),some (.sh (pD ms)),none,none,none,none]=some (nT s,[some (.sh (nD s)),some (.sh (pD ms)),none,none,none,none]):=evX_flat rfl rfl rfl (all_scal_nl s)
 have key:∀(ys:List (Nat×Nat)) (t:List Nat) (tt:T) (x y z:Option T),IsN t tt→(∀p∈ys,p.1∈t∧(p.2=0∨p.2=1))→(∀y∈t,y≤1000)→t.length≤1000→∃t' x' y' z',IsN (Bo.ens t ys) t'∧forL leS (ys.map pd) [some (.sh (nD s)),some (.sh (pD ms)),some tt,x,y,z]=some (.nx,[some (.sh (nD s)),some (.sh (pD ms)),some t',x',y',z']):=by
  intro ys
  induction ys with
  |nil=>intro t tt x y z ht _ _ _;exact⟨tt,x,y,z,ht,rfl⟩
  |cons p ys ih=>
   intro t tt x y z ht h1 h2 h3
   obtain⟨a,k⟩:=p
   obtain⟨ha,hk⟩:=h1 (a,k) (List.mem_cons_self ..)
   have st:=le_step (e0:=some (.sh (nD s))) (e1:=some (.sh (pD ms))) (x:=x) (y:=y) (z:=z) ht ha h2 h3 hk
   obtain⟨t',x',y',z',i,st2⟩:=ih (Bo.en1 t (a,k)) (.sh (nD (Bo.en1 t (a,k)))) (some (.sh (.int a))) (some (.sh (.int k))) (some (.sh (.int (t.idxOf a:Nat)))) (.inl rfl) (fun q hq=>⟨(en1_mem (p:=(a,k)) ha).mpr (h1 q (List.mem_cons_of_mem _ hq)).1,(h1 q (List.mem_cons_of_mem _ hq)).2⟩) (fun w hw=>h2 w ((en1_mem (p:=(a,k)) ha).mp hw)) (by rw [en1_length (p:=(a,k)) ha];exact h3)
   refine⟨t',x',y',z',i,?_⟩
   show(leS (pd (a,k)) [some (.sh (nD s)),some (.sh (pD ms)),some tt,x,y,z]).bind _=_
   rw [st]
   exact st2
 obtain⟨t',x',y',z',i,hf⟩:=key ms s (nT s) none none none (.inr rfl) hx hs hl
 exact⟨t',i,gP_rt rfl ((st_asg rfl e1).trans ((st_for2 rfl (show itX Γ27 none (.var 1) _=some (ms.map pd,_)from rfl) hf).trans (st_retV (by simp) rfl)))⟩
theorem are_moves_ok{n:Nat}{ms:List (Nat×Nat)}(hl:ms.length≤1000000)(h:∀p∈ms,p.1<n∧(p.2=0∨p.2=1)):g_are_moves_to_ends [.int n,pD ms]=some (.sh (.bl true)):=by
 have hw:Γ13 6=some g_are_pairs:=rfl
 refine gP_sc [some (.sh (.int n)),some (.sh (pD ms))] rfl rfl (by simp) rfl ?_ rfl
 have c2:ev Γ13 (.un .all (.comp (.and (.ch .LtE .Lt (.int 0) (.idx (.var 0) (.int 0)) (.var 1)) (.ch .LtE .LtE (.int 0) (.idx (.var 0) (.int 1)) (.int 1))) [0] (.var 1) .nil)) (dEnv [some (.sh (.int n)),some (.sh (pD ms))])=some (.bl true):=
  comp_tt (l:=ms) (ds:=ms.map pd) rfl (by simpa using hl) (compM fun p hp=>by
   have a0:atI [D.int p.1,D.int p.2] 0=some (.int p.1):=rfl
   have a1:atI [D.int p.1,D.int p.2] 1=some (.int p.2):=rfl
   obtain⟨h1,h2⟩:=h p hp
   have h3:(p.2:Int)≤1:=by omega
   simp [inner,pd,a0,a1,h1,h3])
 rw [ev_and,c2]
 simp [hw,are_pairs_ok hl]
noncomputable def eD(ms:List (Nat×Nat)):D:=.ins 3 ["moves"] [pD ms]
noncomputable def eT(ms:List (Nat×Nat)):T:=.ob 3 ["moves"] [pT ms]
@[simp] theorem strip_eT(ms:List (Nat×Nat)):strip (eT ms)=eD ms:=by simp [eT,eD]
@[simp] theorem fld_moves(ms:List (Nat×Nat)):fldD "moves" (eD ms)=some (pD ms):=rfl
theorem len_pD(ms:List (Nat×Nat)):unD .len (pD ms)=some (.int ms.length):=by rw [pD,len_lst,List.length_map]
theorem einit_ok{ms:List (Nat×Nat)}(h1:ms.length≤1000000):g_Ended___init__ [pD ms]=some (eT ms):=by
 have hw:Γ16 28=some g_copied:=rfl
 have e1:evX Γ16 none (.call 28 (.cons (.var 1) .nil)) [some (.ob 3 [] []),some (.sh (pD ms))]=some (pT ms,[some (.ob 3 [] []),some (.sh (pD ms))]):=evX_callE hw rfl (copied_p h1) rfl rfl
 have e:ex Γ16 Δ1 none 100 b_Ended___init__ (startO ["self","moves"] 3 [pD ms])=some (.nx,[some (eT ms),some (.sh (pD ms))]):=(st_fst (c:=3) (ks:=[]) (ts:=[]) e1 rfl rfl).trans rfl
 show gI Γ16 Δ1 100 ["self","moves"] 3 2 b_Ended___init__ [pD ms]=_
 unfold gI
 rw [if_pos (show [pD ms].length+1=2 from rfl),e]
 rfl
end MI
end
noncomputable section
namespace MI
open PySem L2
noncomputable def eb(r:List Nat):Nat:=if 0<r.length then(Bo.rls r).idxOf (Mx r)+1 else 0
noncomputable def eM(r:List Nat):List (Nat×Nat):=Bo.enMoves r.length (eb r) (Mx r)
theorem eb_le(r:List Nat):Mx r≤eb r∧eb r≤r.length:=by
 unfold eb
 by_cases h:0<r.length
 ·rw [if_pos h]
  obtain⟨h1,h2⟩:=Mx_at h
  have:=(Bo.rl_pos r ((Bo.rls r).idxOf (Mx r))).2
  omega
 ·rw [if_neg h]
  have:=Mx_le (r:=r)
  omega
theorem eM_length(r:List Nat):(eM r).length+Mx r=r.length:=Bo.enMoves_length (eb_le r).1 (eb_le r).2
theorem eM_ok(r:List Nat){p:Nat×Nat}(hp:p∈eM r):p.1<r.length∧(p.2=0∨p.2=1):=by
 have h:=eb_le r
 rcases List.mem_append.mp hp with z|z
 ·obtain⟨x,hx,rfl⟩:=List.mem_map.mp z
  have:=Bo.mem_dwn.mp hx
  exact⟨by show x<_;omega,.inl rfl⟩
 ·obtain⟨x,hx,rfl⟩:=List.mem_map.mp z
  have:=List.mem_range'_1.mp hx
  exact⟨by show x<_;omega,.inr rfl⟩
theorem eM_form{r:List Nat}(hr:Bo.IsRow r):Bo.enForm r r.length (eb r) (Mx r)=List.range r.length:=by
 by_cases h:0<r.length
 ·obtain⟨h1,h2⟩:=Mx_at h
  unfold eb
  rw [if_pos h]
  have:=Bo.end_ok hr h1
  rwa [h2]at this
 ·have:r=[]:=List.length_eq_zero_iff.mp (by omega)
  subst this
  rfl
theorem ended_ok{r:List Nat}(hr:Bo.IsRow r)(hl:r.length≤1000):g_ended [nD r]=some (eT (eM r)):=by
 have w2:Γ19 2=some g_need_row:=rfl
 have w12:Γ19 12=some g_run_lengths:=rfl
 have w83:Γ19 83=some g_Ended___init__:=rfl
 have hb:=eb_le r
 have ml:=eM_length r
 have e0:evX Γ19 none (.call 2 (.cons (.var 0) .nil)) [some (.sh (nD r)),none,none,none,none,none]=some (.sh .non,[some (.sh (nD r)),none,none,none,none,none]):=evX_callF w2 rfl (need_row_ok hr (by omega)) rfl
 have e1:evX Γ19 none (.call 12 (.cons (.var 0) .nil)) [some (.sh (nD r)),none,none,none,none,none]=some (nT (Bo.rls r),[some (.sh (nD r)),none,none,none,none,none]):=evX_callF w12 rfl (run_ok hr hl) (flat_nT _)
 have e2:evX Γ19 none (.mxd (.var 1) (.int 0)) [some (.sh (nD r)),some (nT (Bo.rls r)),none,none,none,none]=some (.sh (.int (Mx r:Nat)),[some (.sh (nD r)),some (nT (Bo.rls r)),none,none,none,none]):=by
  refine evX_scal rfl ?_ rfl
  simp [mxd_nat,Mx]
 have e3:evX Γ19 none (.ite (.cmp .Gt (.var 2) (.int 0)) (.bin .Add (.ind (.var 1) (.var 2)) (.int 1)) (.int 0)) [some (.sh (nD r)),some (nT (Bo.rls r)),some (.sh (.int (Mx r:Nat))),none,none,none]=some (.sh (.int (eb r:Nat)),[some (.sh (nD r)),some (nT (Bo.rls r)),some (.sh (.int (Mx r:Nat))),none,none,none]):=by
  refine evX_scal rfl ?_ rfl
  by_cases h:0<r.length
  ·have hM:=Mx_pos.mpr h
   have i:=ind_nat (s:=Bo.rls r) (k:=Mx r) (fun x hx=>by
    obtain⟨j,hj,rfl⟩:=List.mem_map.mp hx
    have:=(Bo.rl_pos r j).2
    have:=List.mem_range.mp hj
    omega) (by rw [rls_length];exact hl) (Mx_mem h)
   unfold eb
   rw [if_pos h]
   simp [hM,i]
  ·have hM:¬0<Mx r:=fun z=>h (Mx_pos.mp z)
   unfold eb
   rw [if_neg h]
   have hM':Mx r=0:=by omega
   simp [hM']
 have f4:∀env:Env,(env[2]?).join=some (.int (Mx r:Nat))→(env[3]?).join=some (.int (eb r:Nat))→ev Γ19 (.comp (.tup (.cons (.var 0) (.cons (.int 0) .nil))) [] (.dn (.bin .Sub (.bin .Sub (.var 3) (.var 2)) (.int 1))) .nil) env=some (.lst ((Bo.fronts (Bo.dwn (eb r-Mx r))).map pd)):=fun env h2 h3=>by
  have hit:ev Γ19 (.dn (.bin .Sub (.bin .Sub (.var 3) (.var 2)) (.int 1))) env=some (.lst (nl (Bo.dwn (eb r-Mx r)))):=by
   have k:(eb r:Int)-(Mx r:Int)-1=((eb r-Mx r:Nat):Int)-1:=by omega
   have l:=ldn_nat (m:=eb r-Mx r) (by omega)
   simp only [ev_dn,ev_bin,ev_var,ev_int,h2,h3,Option.bind_some,sub_ii,k,l]
   rfl
  have e:(Bo.fronts (Bo.dwn (eb r-Mx r))).map pd=(Bo.dwn (eb r-Mx r)).map fun y=>pd (y,0):=by rw [Bo.fronts,List.map_map];rfl
  rw [e]
  refine comp_is hit (by simp [Bo.dwn_length];omega) (compN fun y hy=> ?_)
  have s2:sz 2=true:=rfl
  simp [inner,s2,pd]
 have f5:∀env:Env,(env[0]?).join=some (nD r)→(env[3]?).join=some (.int (eb r:Nat))→ev Γ19 (.comp (.tup (.cons (.var 0) (.cons (.int 1) .nil))) [] (.rng2 (.var 3) (.un .len (.var 0))) .nil) env=some (.lst ((Bo.backs (List.range' (eb r) (r.length-eb r))).map pd)):=fun env h0 h3=>by
  have hit:ev Γ19 (.rng2 (.var 3) (.un .len (.var 0))) env=some (.lst (nl (List.range' (eb r) (r.length-eb r)))):=by
   have k:rngD (eb r:Int) (r.length:Int)=some (nl (List.range' (eb r) (r.length-eb r))):=by
    unfold rngD
    rw [if_pos (decide_eq_true (by omega)),show((r.length:Int)-(eb r:Int)).toNat=r.length-eb r by omega]
    congr 1
    rw [List.range'_eq_map_range,nl,List.map_map]
    refine List.map_congr_left fun i _=> ?_
    simp
   simp only [ev_rng2,ev_var,ev_un,h0,h3,Option.bind_some,len_nD,rng2D_ii,k]
   rfl
  have e:(Bo.backs (List.range' (eb r) (r.length-eb r))).map pd=(List.range' (eb r) (r.length-eb r)).map fun y=>pd (y,1):=by rw [Bo.backs,List.map_map];rfl
  rw [e]
  refine comp_is hit (by simp;omega) (compN fun y hy=> ?_)
  have s2:sz 2=true:=rfl
  simp [inner,s2,pd]
 have pTe:∀l:List (Nat×Nat),T.ow ((l.map pd).map T.sh)=pT l:=fun l=>by rw [pT,List.map_map];rfl
 have e4:=evX_fresh (Γ:=Γ19) (pio:=none) (env:=[some (.sh (nD r)),some (nT (Bo.rls r)),some (.sh (.int (Mx r:Nat))),some (.sh (.int (eb r:Nat))),none,none]) rfl rfl (f4 _ (by simp) (by simp)) rfl (f4 _ (by simp) (by simp))
 rw [pTe]at e4
 have e5:=evX_fresh (Γ:=Γ19) (pio:=none) (env:=[some (.sh (nD r)),some (nT (Bo.rls r)),some (.sh (.int (Mx r:Nat))),some (.sh (.int (eb r:Nat))),some (pT (Bo.fronts (Bo.dwn (eb r-Mx r)))),none]) rfl rfl (f5 _ (by simp) (by simp)) rfl (f5 _ (by simp) (by simp))
 rw [pTe]at e5
 have hi:=einit_ok (ms:=eM r) (by omega)
 have ha:∀env:Env,(env[4]?).join=some (pD (Bo.fronts (Bo.dwn (eb r-Mx r))))→(env[5]?).join=some (pD (Bo.backs (List.range' (eb r) (r.length-eb r))))→evs Γ19 (.cons (.bin .Add (.var 4) (.var 5)) .nil) env=some [pD (eM r)]:=fun env h4 h5=>by
  have e:pD (eM r)=.lst ((Bo.fronts (Bo.dwn (eb r-Mx r))).map pd++(Bo.backs (List.range' (eb r) (r.length-eb r))).map pd):=by
   rw [pD,eM,Bo.enMoves,List.map_append]
  rw [e]
  simp only [evs,ev_cons,ev_bin,ev_var,ev_nil,h4,h5,Option.bind_some,pD,add_ll]
  rw [if_pos (sz_of (by
   have:(Bo.fronts (Bo.dwn (eb r-Mx r))).length+(Bo.backs (List.range' (eb r) (r.length-eb r))).length=(eM r).length:=by rw [eM,Bo.enMoves,List.length_append]
   simp only [List.length_map];omega))]
  rfl
 have e6:∃env',evX Γ19 none (.call 83 (.cons (.bin .Add (.var 4) (.var 5)) .nil)) [some (.sh (nD r)),some (nT (Bo.rls r)),some (.sh (.int (Mx r:Nat))),some (.sh (.int (eb r:Nat))),some (pT (Bo.fronts (Bo.dwn (eb r-Mx r)))),some (pT (Bo.backs (List.range' (eb r) (r.length-eb r))))]=some (eT (eM r),env'):=by
  have hd:=ha (dEnv [some (.sh (nD r)),some (nT (Bo.rls r)),some (.sh (.int (Mx r:Nat))),some (.sh (.int (eb r:Nat))),some (pT (Bo.fronts (Bo.dwn (eb r-Mx r)))),some (pT (Bo.backs (List.range' (eb r) (r.length-eb r))))]) (by simp) (by simp)
  cases hf:flatT (eT (eM r))with
  |true=>exact⟨_,evX_callF w83 hd hi hf⟩
  |false=>
   refine⟨[some (.sh (nD r)),some (nT (Bo.rls r)),some (.sh (.int (Mx r:Nat))),some (.sh (.int (eb r:Nat))),some (.sh (pD (Bo.fronts (Bo.dwn (eb r-Mx r))))),some (.sh (pD (Bo.backs (List.range' (eb r) (r.length-eb r)))))],evX_callS w83 hd hi hf ?_ (ha _ (by simp) (by simp))⟩
   have s1:∀l:List (Nat×Nat),strip (T.ow (l.map fun p=>T.sh (pd p)))=pD l:=strip_pT
   simp [vars,frz,pT,s1]
 obtain⟨env',e6⟩:=e6
 exact gP_rt rfl ((st_drop e0).trans ((st_asg rfl e1).trans ((st_asg rfl e2).trans ((st_asg rfl e3).trans ((st_asg rfl e4).trans ((st_asg rfl e5).trans (st_ret (by simp) e6)))))))
noncomputable abbrev esC:E:=.or (.not (.call 1 (.cons (.var 1) .nil))) (.not (.call 33 (.cons (.un .len (.var 1)) (.cons (.fld (.var 0) "moves") .nil))))
noncomputable abbrev esD:E:=.cmp .NotEq (.un .len (.fld (.var 0) "moves")) (.bin .Sub (.un .len (.var 1)) (.mxd (.call 12 (.cons (.var 1) .nil)) (.int 0)))
theorem esC_ok{s:List Nat}{ms:List (Nat×Nat)}(hs:Bo.IsRow s)(hl:s.length≤1000)(hm:ms.length≤1000000)(h:∀p∈ms,p.1<s.length∧(p.2=0∨p.2=1)):evB Γ17 esC (dEnv [some (.sh (eD ms)),some (.sh (nD s))])=some false:=by
 have w1:Γ17 1=some g_is_row:=rfl
 have w33:Γ17 33=some g_are_moves_to_ends:=rfl
 simp [evB,w1,w33,is_row_ok hs (by omega),len_nD,are_moves_ok hm h]
theorem esD_ok{s:List Nat}{ms:List (Nat×Nat)}(hs:Bo.IsRow s)(hl:s.length≤1000):evB Γ17 esD (dEnv [some (.sh (eD ms)),some (.sh (nD s))])=some (!decide (ms.length+Mx s=s.length)):=by
 have w12:Γ17 12=some g_run_lengths:=rfl
 have e:decide ((ms.length:Int)=(s.length:Int)-(Mx s:Nat))=decide (ms.length+Mx s=s.length):=decide_eq_decide.mpr (by omega)
 rw [←e]
 have m:=mxd_nat (Bo.rls s)
 rw [show(Bo.rls s).foldl max 0=Mx s from rfl]at m
 simp only [evB,dEnv_cons,dEnv_nil,Option.map_some,strip_sh,ev_cmp,ev_un,ev_fld,ev_var,ev_bin,ev_mxd,ev_call,ev_cons,ev_nil,ev_int,List.getElem?_cons_zero,List.getElem?_cons_succ,Option.join_some,Option.bind_some,fld_moves,len_pD,len_nD,w12,consD_lst,listD_lst,run_ok hs hl,strip_nT,m,sub_ii,ne_dd,eq_ii,truthD_bl]
theorem eshows_len{s:List Nat}{ms:List (Nat×Nat)}(hs:Bo.IsRow s)(hl:s.length≤1000)(hm:ms.length≤1000000)(h:∀p∈ms,p.1<s.length∧(p.2=0∨p.2=1))(hn:ms.length+Mx s≠s.length):g_Ended_shows [eD ms,nD s]=some (.sh (.bl false)):=by
 have hd:=esD_ok (ms:=ms) hs hl
 rw [decide_eq_false hn]at hd
 refine gP_rt (env:=[some (.sh (eD ms)),some (.sh (nD s))]) rfl ((st_skip (esC_ok hs hl hm h)).trans ?_)
 show ex Γ17 Δ1 none 100 (.seq (.ife esD _ _) _) [some (.sh (eD ms)),some (.sh (nD s))]=_
 rw [ex_seq,ex_ife,show evB Γ17 esD (dEnv [some (.sh (eD ms)),some (.sh (nD s))])=some true from hd]
 rfl
theorem end_same{r s:List Nat}(hs:Bo.IsRow s)(hl:s.length≤1000)(hn:r.length≤s.length):g_Ended_shows [eD (eM r),nD s]=some (.sh (.bl (decide (Bo.enForm s r.length (eb r) (Mx r)=List.range s.length)&&decide ((eM r).length+Mx s=s.length))))∧g__law_end_due [nD s,pD (eM r)]=some (.sh (.bl (decide (Bo.enForm s r.length (eb r) (Mx r)=List.range s.length)&&decide ((eM r).length+Mx s=s.length)))):=by
 have ml:=eM_length r
 have hb:=eb_le r
 have ok:∀p∈eM r,p.1<s.length∧(p.2=0∨p.2=1):=fun p hp=>⟨by have:=(eM_ok r hp).1;omega,(eM_ok r hp).2⟩
 constructor
 ·by_cases hc:(eM r).length+Mx s=s.length
  ·have w21:Γ17 21=some g_is_in_order:=rfl
   have w24:Γ17 24=some g_after_ending:=rfl
   have hd:=esD_ok (ms:=eM r) hs hl
   rw [decide_eq_true hc]at hd⊢
   have A:=after_ending_ok (s:=s) (n:=r.length) (b:=eb r) (L:=Mx r) hs hl hn hb.2
   have fl:(Bo.enForm s r.length (eb r) (Mx r)).length=s.length:=by
    rw [←Bo.ens_form hs hb.2 hn]
    have:∀(ys:List (Nat×Nat)) (t:List Nat),(∀p∈ys,p.1∈t)→(Bo.ens t ys).length=t.length:=by
     intro ys
     induction ys with
     |nil=>intro t _;rfl
     |cons p ys ih=>
      intro t h
      have hp:=h p (List.mem_cons_self ..)
      show(Bo.ens (Bo.en1 t p) ys).length=_
      rw [ih _ fun q hq=>(en1_mem hp).mpr (h q (List.mem_cons_of_mem _ hq)),en1_length hp]
    exact this _ _ fun p hp=>hs.mem.mpr (ok p hp).1
   have I:=is_in_order_ok (t:=Bo.enForm s r.length (eb r) (Mx r)) (by omega)
   rw [fl]at I
   rw [Bool.and_true]
   refine gP_rt (env:=[some (.sh (eD (eM r))),some (.sh (nD s))]) rfl ((st_skip (esC_ok hs hl (by omega) ok)).trans ((st_skip hd).trans (st_ret (by simp) (evX_callF (l:=[nD (Bo.enForm s r.length (eb r) (Mx r))]) w21 ?_ I rfl))))
   have A':g_after_ending [nD s,pD (eM r)]=some (nT (Bo.enForm s r.length (eb r) (Mx r))):=A
   simp [evs,w24,A']
  ·rw [decide_eq_false hc,Bool.and_false]
   exact eshows_len hs hl (by omega) ok hc
 ·have w63:Γ29 63=some g__law_ended:=rfl
  have w64:Γ29 64=some g__law_run:=rfl
  obtain⟨t,ht,F⟩:=law_ended_ok (s:=s) (ms:=eM r) (fun p hp=>⟨hs.mem.mpr (ok p hp).1,(ok p hp).2⟩) (row_le hs hl) hl
  rw [show eM r=Bo.enMoves r.length (eb r) (Mx r)from rfl,Bo.ens_form hs hb.2 hn]at ht
  have c1:evB Γ29 (.cmp .NotEq (.call 63 (.cons (.var 0) (.cons (.var 1) .nil))) (.un .lrng (.un .len (.var 0)))) (dEnv [some (.sh (nD s)),some (.sh (pD (eM r)))])=some (!decide (Bo.enForm s r.length (eb r) (Mx r)=List.range s.length)):=by
   simp [evB,w63,F,ht.strip,len_nD,lrng_nat (n:=s.length) (by omega)]
  by_cases hc:Bo.enForm s r.length (eb r) (Mx r)=List.range s.length
  ·rw [decide_eq_true hc]at c1⊢
   rw [Bool.true_and]
   refine gP_rt (env:=[some (.sh (nD s)),some (.sh (pD (eM r)))]) rfl ((st_skip c1).trans (st_ret (by simp) (evX_scal rfl ?_ rfl)))
   show ev Γ29 (.cmp _ _ _) (dEnv [some (.sh (nD s)),some (.sh (pD (eM r)))])=_
   have e:decide (((eM r).length:Int)=(s.length:Int)-(Mx s:Nat))=decide ((eM r).length+Mx s=s.length):=decide_eq_decide.mpr (by omega)
   rw [←e]
   simp [len_nD,len_pD,w64,law_run_ok hs hl]
  ·rw [decide_eq_false hc]at c1⊢
   rw [Bool.false_and]
   refine gP_rt (env:=[some (.sh (nD s)),some (.sh (pD (eM r)))]) rfl ?_
   show ex Γ29 Δ1 none 100 (.seq (.ife _ _ _) _) [some (.sh (nD s)),some (.sh (pD (eM r)))]=_
   rw [ex_seq,ex_ife,c1]
   rfl
theorem end_true{r:List Nat}(hr:Bo.IsRow r):(decide (Bo.enForm r r.length (eb r) (Mx r)=List.range r.length)&&decide ((eM r).length+Mx r=r.length))=true:=by
 rw [decide_eq_true (eM_form hr),decide_eq_true (eM_length r)];rfl
theorem end_more{r:List Nat}(hr:Bo.IsRow r)(hl:r.length≤1000):g_Ended_shows [eD (eM r++[(0,0)]),nD r]=some (.sh (.bl false)):=by
 have ml:=eM_length r
 by_cases h:0<r.length
 ·refine eshows_len hr hl (by simp;omega) (fun p hp=> ?_) (by simp;omega)
  rcases List.mem_append.mp hp with z|z
  ·exact eM_ok r z
  ·rw [List.mem_singleton.mp z];exact⟨h,.inl rfl⟩
 ·have:r=[]:=List.length_eq_zero_iff.mp (by omega)
  subst this
  kernel_rfl
end MI
end
noncomputable section
namespace MI
open PySem L2
section
variable{Γ:Tab}{Δ:IOT}{pio:Option Nat}{n:Nat}{env env2 env3 env4:TEnv}{k:S}
theorem st_asg3{i j l:Nat}{m q p:E}{t u v:T}(ok:(okI pio env i&&okI pio env j&&okI pio env l&&decide (i≠j∧i≠l∧j≠l))=true)(h:evX Γ pio m env=some (t,env2))(h2:evX Γ pio q env2=some (u,env3))(h3:evX Γ pio p env3=some (v,env4)):ex Γ Δ pio n (.seq (.asg3 i j l m q p) k) env=ex Γ Δ pio n k (((env4.set i (some t)).set j (some u)).set l (some v)):=by
 rw [ex_seq,show ex Γ Δ pio n (.asg3 i j l m q p) env=if okI pio env i&&okI pio env j&&okI pio env l&&decide (i≠j∧i≠l∧j≠l)then(evX Γ pio m env).bind fun r=>(evX Γ pio q r.2).bind fun s=>(evX Γ pio p s.2).map fun o=>(.nx,((o.2.set i (some r.1)).set j (some s.1)).set l (some o.1))else none from rfl,if_pos ok,h,Option.bind_some,show evX Γ pio q (t,env2).2=_ from h2,Option.bind_some,show evX Γ pio p (u,env3).2=_ from h3];rfl
end
noncomputable abbrev lawB:S:=(.seq (.asg 6 (.call 37 (.cons (.var 2) .nil)))
 (.seq (.ife (.or (.cmp .NotEq (.var 2) (.var 1)) (.or (.not (.isc (.var 6) 0)) (.not (.isc (.var 6) 2))))
 (.seq (.ret (.bl false))
 .nop) .nop)
 (.seq (.ife (.or (.isc (.var 6) 1) (.or (.isc (.var 6) 3) (.isc (.var 6) 4)))
 (.seq (.ret (.bl false))
 .nop) .nop)
 (.seq (.ife (.or (.not (.call 53 (.cons (.fld (.var 6) "things") .nil))) (.not (.call 62 (.cons (.var 1) (.cons (.fld (.var 6) "things") .nil)))))
 (.seq (.ret (.bl false))
 .nop) .nop)
 (.seq (.ife (.or (.cmp .IsNot (.meth (.var 6) 0 (.cons (.var 1) .nil)) (.bl true)) (.cmp .NotEq (.meth (.var 6) 0 (.cons (.var 3) .nil)) (.call 62 (.cons (.var 3) (.cons (.fld (.var 6) "things") .nil)))))
 (.seq (.ret (.bl false))
 .nop) .nop)
 (.seq (.ife (.cmp .NotEq (.meth (.var 6) 0 (.cons (.var 4) .nil)) (.call 62 (.cons (.var 4) (.cons (.fld (.var 6) "things") .nil))))
 (.seq (.ret (.bl false))
 .nop) .nop)
 (.seq (.appF 6 "things" (.int 0))
 (.seq (.ife (.cmp .NotEq (.meth (.var 6) 0 (.cons (.var 1) .nil)) (.call 62 (.cons (.var 1) (.cons (.fld (.var 6) "things") .nil))))
 (.seq (.ret (.bl false))
 .nop) .nop)
 (.seq (.asg 6 (.call 38 (.cons (.var 2) .nil)))
 (.seq (.ife (.or (.cmp .NotEq (.var 2) (.var 1)) (.or (.not (.isc (.var 6) 0)) (.not (.isc (.var 6) 3))))
 (.seq (.ret (.bl false))
 .nop) .nop)
 (.seq (.ife (.or (.isc (.var 6) 1) (.or (.isc (.var 6) 2) (.isc (.var 6) 4)))
 (.seq (.ret (.bl false))
 .nop) .nop)
 (.seq (.ife (.or (.not (.call 54 (.cons (.fld (.var 6) "moves") .nil))) (.not (.call 65 (.cons (.var 1) (.cons (.fld (.var 6) "moves") .nil)))))
 (.seq (.ret (.bl false))
 .nop) .nop)
 (.seq (.ife (.or (.cmp .IsNot (.meth (.var 6) 0 (.cons (.var 1) .nil)) (.bl true)) (.cmp .NotEq (.meth (.var 6) 0 (.cons (.var 3) .nil)) (.call 65 (.cons (.var 3) (.cons (.fld (.var 6) "moves") .nil)))))
 (.seq (.ret (.bl false))
 .nop) .nop)
 (.seq (.ife (.cmp .NotEq (.meth (.var 6) 0 (.cons (.var 4) .nil)) (.call 65 (.cons (.var 4) (.cons (.fld (.var 6) "moves") .nil))))
 (.seq (.ret (.bl false))
 .nop) .nop)
 (.seq (.appF 6 "moves" (.tup (.cons (.int 0) (.cons (.int 0) .nil))))
 (.seq (.ife (.cmp .IsNot (.meth (.var 6) 0 (.cons (.var 1) .nil)) (.bl false))
 (.seq (.ret (.bl false))
 .nop) .nop)
 .nop))))))))))))))))
theorem iter_ok{r:List Nat}{t0 t1 t2 t3 t4:T}{x y:Option T}(hr:Bo.IsRow r)(hl:r.length≤63)(h1:IsN r t1)(h2:IsN r t2)(h3:IsN r.reverse t3)(h4:IsN (r++[r.length]) t4):
 ∃t2' x' y',IsN r t2'∧ex Γ30 Δ1 none 100 lawB [some t0,some t1,some t2,some t3,some t4,x,y]=some (.nx,[some t0,some t1,some t2',some t3,some t4,x',y']):=by
 have w37:Γ30 37=some g_fronted:=rfl
 have w38:Γ30 38=some g_ended:=rfl
 have w53:Γ30 53=some g__law_numbers:=rfl
 have w54:Γ30 54=some g__law_pairs:=rfl
 have w62:Γ30 62=some g__law_front_due:=rfl
 have w65:Γ30 65=some g__law_end_due:=rfl
 have mf:∀xs,metG Γ30 0 (fD xs)=some g_Fronted_shows:=fun _=>rfl
 have me:∀ms,metG Γ30 0 (eD ms)=some g_Ended_shows:=fun _=>rfl
 have jf:∀xs j,iscD j (fD xs)=some (.bl (subC 2 j)):=fun _ _=>rfl
 have je:∀ms j,iscD j (eD ms)=some (.bl (subC 3 j)):=fun _ _=>rfl
 have hv:=Bo.isRow_rev hr
 have hs:=Bo.isRow_snoc hr
 have hf:=fm_le r
 have ml:=eM_length r
 have lr:r.reverse.length=r.length:=List.length_reverse ..
 have ls:(r++[r.length]).length=r.length+1:=by simp
 obtain⟨p1,p2⟩:g_Fronted_shows [fD (Bo.dwn (fm r)),nD r]=some (.sh (.bl true))∧g__law_front_due [nD r,nD (Bo.dwn (fm r))]=some (.sh (.bl true)):=by
  have a:=fshows_dwn (m:=fm r) hr (by omega) hf.1
  have b:=fd_dwn (m:=fm r) hr (by omega) hf.1 (by omega)
  rw [front_true hr]at a b
  exact⟨a,b⟩
 obtain⟨b1,q1,q2⟩:=front_same (s:=r.reverse) (m:=fm r) hv (by omega) (by omega) (by omega)
 obtain⟨b2,u1,u2⟩:=front_same (s:=r++[r.length]) (m:=fm r) hs (by omega) (by omega) (by omega)
 obtain⟨b3,v1,v2⟩:=front_more hr hl
 obtain⟨o1,o2⟩:=end_same (r:=r) (s:=r) hr (by omega) (Nat.le_refl _)
 rw [end_true hr]at o1 o2
 obtain⟨a1,a2⟩:=end_same (r:=r) (s:=r.reverse) hv (by omega) (by omega)
 obtain⟨c1,c2⟩:=end_same (r:=r) (s:=r++[r.length]) hs (by omega) (by omega)
 generalize (decide (Bo.enForm r.reverse r.length (eb r) (Mx r)=List.range r.reverse.length)&&decide ((eM r).length+Mx r.reverse=r.reverse.length))=b4 at a1 a2
 generalize (decide (Bo.enForm (r++[r.length]) r.length (eb r) (Mx r)=List.range (r++[r.length]).length)&&decide ((eM r).length+Mx (r++[r.length])=(r++[r.length]).length))=b5 at c1 c2
 have em:=end_more hr (by omega)
 have nb:=numbers_ok (r:=Bo.dwn (fm r)) (by rw [Bo.dwn_length];omega)
 have pb:=law_pairs_ok (ps:=eM r) (by omega)
 have e1:evX Γ30 none (.call 37 (.cons (.var 2) .nil)) [some t0,some t1,some t2,some t3,some t4,x,y]=some (fT (Bo.dwn (fm r)),[some t0,some t1,some t2,some t3,some t4,x,y]):=evX_callF (l:=[nD r]) w37 (by simp [evs,h2.strip]) (fronted_ok hr (by omega)) (flat_fT _)
 have DE:∀(t2 o:T),IsN r t2→dEnv [some t0,some t1,some t2,some t3,some t4,x,some o]=[some (strip t0),some (nD r),some (nD r),some (nD r.reverse),some (nD (r++[r.length])),x.map strip,some (strip o)]:=fun t2 o h=>by simp [h1.strip,h.strip,h3.strip,h4.strip]
 have g1:evB Γ30 (.or (.cmp .NotEq (.var 2) (.var 1)) (.or (.not (.isc (.var 6) 0)) (.not (.isc (.var 6) 2)))) (dEnv [some t0,some t1,some t2,some t3,some t4,x,some (fT (Bo.dwn (fm r)))])=some false:=by
  rw [DE _ _ h2];simp [evB,jf,subC]
 have g2:evB Γ30 (.or (.isc (.var 6) 1) (.or (.isc (.var 6) 3) (.isc (.var 6) 4))) (dEnv [some t0,some t1,some t2,some t3,some t4,x,some (fT (Bo.dwn (fm r)))])=some false:=by
  rw [DE _ _ h2];simp [evB,jf,subC]
 have g3:evB Γ30 (.or (.not (.call 53 (.cons (.fld (.var 6) "things") .nil))) (.not (.call 62 (.cons (.var 1) (.cons (.fld (.var 6) "things") .nil))))) (dEnv [some t0,some t1,some t2,some t3,some t4,x,some (fT (Bo.dwn (fm r)))])=some false:=by
  rw [DE _ _ h2];simp [evB,w53,w62,nb,p2]
 have g4:evB Γ30 (.or (.cmp .IsNot (.meth (.var 6) 0 (.cons (.var 1) .nil)) (.bl true)) (.cmp .NotEq (.meth (.var 6) 0 (.cons (.var 3) .nil)) (.call 62 (.cons (.var 3) (.cons (.fld (.var 6) "things") .nil))))) (dEnv [some t0,some t1,some t2,some t3,some t4,x,some (fT (Bo.dwn (fm r)))])=some false:=by
  rw [DE _ _ h2];simp [evB,mf,w62,p1,q1,q2]
 have g5:evB Γ30 (.cmp .NotEq (.meth (.var 6) 0 (.cons (.var 4) .nil)) (.call 62 (.cons (.var 4) (.cons (.fld (.var 6) "things") .nil)))) (dEnv [some t0,some t1,some t2,some t3,some t4,x,some (fT (Bo.dwn (fm r)))])=some false:=by
  rw [DE _ _ h2];simp [evB,mf,w62,u1,u2]
 have o3:T.ob 2 ["things"] ([nT (Bo.dwn (fm r))].set 0 (.ow ((nl (Bo.dwn (fm r))).map T.sh++[.sh (.int 0)])))=fT (Bo.dwn (fm r)++[0]):=by simp [fT,nT,nl]
 have g6:evB Γ30 (.cmp .NotEq (.meth (.var 6) 0 (.cons (.var 1) .nil)) (.call 62 (.cons (.var 1) (.cons (.fld (.var 6) "things") .nil)))) (dEnv [some t0,some t1,some t2,some t3,some t4,x,some (fT (Bo.dwn (fm r)++[0]))])=some false:=by
  rw [DE _ _ h2];simp [evB,mf,w62,v1,v2]
 obtain⟨t2',h2',e2⟩:∃t2',IsN r t2'∧evX Γ30 none (.call 38 (.cons (.var 2) .nil)) [some t0,some t1,some t2,some t3,some t4,x,some (fT (Bo.dwn (fm r)++[0]))]=some (eT (eM r),[some t0,some t1,some t2',some t3,some t4,x,some (fT (Bo.dwn (fm r)++[0]))]):=by
  have hd:evs Γ30 (.cons (.var 2) .nil) (dEnv [some t0,some t1,some t2,some t3,some t4,x,some (fT (Bo.dwn (fm r)++[0]))])=some [nD r]:=by simp [evs,h2.strip]
  have hg:=ended_ok hr (show r.length≤1000 by omega)
  cases hff:flatT (eT (eM r))with
  |true=>exact⟨t2,h2,evX_callF w38 hd hg hff⟩
  |false=>
   refine⟨.sh (nD r),.inl rfl,evX_callS w38 hd hg hff ?_ (by simp [evs])⟩
   rcases h2 with rfl|rfl
   ·rfl
   ·simp [vars,frz,nT,nD,strip_comp_sh]
 have k1:evB Γ30 (.or (.cmp .NotEq (.var 2) (.var 1)) (.or (.not (.isc (.var 6) 0)) (.not (.isc (.var 6) 3)))) (dEnv [some t0,some t1,some t2',some t3,some t4,x,some (eT (eM r))])=some false:=by
  rw [DE _ _ h2'];simp [evB,je,subC]
 have k2:evB Γ30 (.or (.isc (.var 6) 1) (.or (.isc (.var 6) 2) (.isc (.var 6) 4))) (dEnv [some t0,some t1,some t2',some t3,some t4,x,some (eT (eM r))])=some false:=by
  rw [DE _ _ h2'];simp [evB,je,subC]
 have k3:evB Γ30 (.or (.not (.call 54 (.cons (.fld (.var 6) "moves") .nil))) (.not (.call 65 (.cons (.var 1) (.cons (.fld (.var 6) "moves") .nil))))) (dEnv [some t0,some t1,some t2',some t3,some t4,x,some (eT (eM r))])=some false:=by
  rw [DE _ _ h2'];simp [evB,w54,w65,pb,o2]
 have k4:evB Γ30 (.or (.cmp .IsNot (.meth (.var 6) 0 (.cons (.var 1) .nil)) (.bl true)) (.cmp .NotEq (.meth (.var 6) 0 (.cons (.var 3) .nil)) (.call 65 (.cons (.var 3) (.cons (.fld (.var 6) "moves") .nil))))) (dEnv [some t0,some t1,some t2',some t3,some t4,x,some (eT (eM r))])=some false:=by
  rw [DE _ _ h2'];simp [evB,me,w65,o1,a1,a2]
 have k5:evB Γ30 (.cmp .NotEq (.meth (.var 6) 0 (.cons (.var 4) .nil)) (.call 65 (.cons (.var 4) (.cons (.fld (.var 6) "moves") .nil)))) (dEnv [some t0,some t1,some t2',some t3,some t4,x,some (eT (eM r))])=some false:=by
  rw [DE _ _ h2'];simp [evB,me,w65,c1,c2]
 have s2:sz 2=true:=rfl
 have e3:evX Γ30 none (.tup (.cons (.int 0) (.cons (.int 0) .nil))) [some t0,some t1,some t2',some t3,some t4,x,some (eT (eM r))]=some (.sh (pd (0,0)),[some t0,some t1,some t2',some t3,some t4,x,some (eT (eM r))]):=rfl
 have o4:T.ob 3 ["moves"] ([pT (eM r)].set 0 (.ow (((eM r).map fun p=>T.sh (pd p))++[.sh (pd (0,0))])))=eT (eM r++[(0,0)]):=by simp [eT,pT]
 have k6:evB Γ30 (.cmp .IsNot (.meth (.var 6) 0 (.cons (.var 1) .nil)) (.bl false)) (dEnv [some t0,some t1,some t2',some t3,some t4,x,some (eT (eM r++[(0,0)]))])=some false:=by
  rw [DE _ _ h2'];simp [evB,me,em]
 refine⟨t2',x,some (eT (eM r++[(0,0)])),h2',?_⟩
 refine(st_asg rfl e1).trans ((st_skip g1).trans ((st_skip g2).trans ((st_skip g3).trans ((st_skip g4).trans ((st_skip g5).trans ?_)))))
 refine(st_appF (t:=.sh (.int 0)) (c:=2) (ks:=["things"]) (ts:=[nT (Bo.dwn (fm r))]) (j:=0) (us:=(nl (Bo.dwn (fm r))).map T.sh) (evX_int _ _ _ _) rfl rfl (sz_of (by simp [Bo.dwn_length];omega))).trans ?_
 rw [o3]
 refine(st_skip g6).trans ((st_asg rfl e2).trans ((st_skip k1).trans ((st_skip k2).trans ((st_skip k3).trans ((st_skip k4).trans ((st_skip k5).trans ?_))))))
 refine(st_appF (c:=3) (ks:=["moves"]) (ts:=[pT (eM r)]) (j:=0) (us:=(eM r).map fun p=>T.sh (pd p)) e3 rfl rfl (sz_of (by simp;omega))).trans ?_
 rw [o4]
 exact(st_skip k6).trans rfl
theorem law_ok:∀ns:List Int,ns.length≤63→g_law [.lst (ns.map D.int)]=some (.sh (.bl true)):=fun ns hl=>by
 obtain⟨r,hr,hrl,hrow⟩:=row_ok ns hl
 have w52:Γ30 52=some g__law_row:=rfl
 have e1:evX Γ30 none (.call 52 (.cons (.var 0) .nil)) [some (.sh (iD ns)),none,none,none,none,none,none]=some (nT r,[some (.sh (iD ns)),none,none,none,none,none,none]):=evX_callF w52 rfl hrow (flat_nT r)
 have e2:evX Γ30 none (.un .list (.var 1)) [some (.sh (iD ns)),some (nT r),none,none,none,none,none]=some (nT r,[some (.sh (iD ns)),some (nT r),none,none,none,none,none]):=by
  refine evX_flat (ds:=nl r) rfl rfl ?_ (all_scal_nl r)
  simp [nD]
 have e3:evX Γ30 none (.rev (.var 1)) [some (.sh (iD ns)),some (nT r),none,none,none,none,none]=some (nT r.reverse,[some (.sh (iD ns)),some (nT r),none,none,none,none,none]):=by
  refine evX_flat (ds:=nl r.reverse) rfl rfl ?_ (all_scal_nl _)
  simp [nD,rev_nl]
 have e4:evX Γ30 none (.bin .Add (.var 1) (.lst (.cons (.un .len (.var 1)) .nil))) [some (.sh (iD ns)),some (nT r),none,none,none,none,none]=some (nT (r++[r.length]),[some (.sh (iD ns)),some (nT r),none,none,none,none,none]):=by
  refine evX_flat (ds:=nl (r++[r.length])) rfl rfl ?_ (all_scal_nl _)
  have s1:sz 1=true:=rfl
  have s3:sz ((nl r).length+1)=true:=sz_of (by simp;omega)
  have ln:unD .len (D.lst (nl r))=some (.int r.length):=by rw [len_lst,nl_length]
  simp only [dEnv_cons,dEnv_nil,Option.map_some,strip_sh,strip_nT,ev_bin,ev_lst,ev_cons,ev_nil,ev_var,ev_un,List.getElem?_cons_zero,List.getElem?_cons_succ,Option.join_some,Option.bind_some,nD,ln,consD_lst,szL_lst,List.length_cons,List.length_nil,Nat.zero_add,s1,if_true,add_ll,s3]
  rw [←nl_append];rfl
 obtain⟨env',hf,t2,x,y,rfl,_⟩:=forL_from (step:=fun d e=>ex Γ30 Δ1 none 100 lawB (e.set 5 (some (.sh d)))) (fun k e=>∃t2 x y,e=[some (.sh (iD ns)),some (nT r),some t2,some (nT r.reverse),some (nT (r++[r.length])),x,y]∧IsN r t2) (ds:=nl (List.range 2)) (env:=[some (.sh (iD ns)),some (nT r),some (nT r),some (nT r.reverse),some (nT (r++[r.length])),none,none]) ⟨_,_,_,rfl,.inr rfl⟩ (fun k d e hd ⟨t2,x,y,he,h2⟩=>by
  subst he
  obtain⟨t2',x',y',h2',st⟩:=iter_ok (t0:=.sh (iD ns)) (x:=some (.sh d)) (y:=y) hr (by omega) (.inr rfl) h2 (.inr rfl) (.inr rfl)
  exact⟨_,st,t2',x',y',rfl,h2'⟩)
 have hx:itX Γ30 none (.rng (.int 2)) [some (.sh (iD ns)),some (nT r),some (nT r),some (nT r.reverse),some (nT (r++[r.length])),none,none]=some (nl (List.range 2),[some (.sh (iD ns)),some (nT r),some (nT r),some (nT r.reverse),some (nT (r++[r.length])),none,none]):=rfl
 exact gP_rt rfl ((st_asg rfl e1).trans ((st_asg3 rfl e2 e3 e4).trans ((st_for1 rfl hx hf).trans (st_ret (by simp) (evX_bl _ _ _ _)))))
end MI
end
noncomputable section
namespace MI
open PySem L2
noncomputable def mem(st:Stmt)(j:Nat):Stmt:=match st with
 | .ClassDef (body:=b) .. =>b.getD j (.Pass ⟨0,0,0,0⟩)
 |_=> .Pass ⟨0,0,0,0⟩
noncomputable def top(i:Nat):Stmt:=PySem.Challenge.pw_backorder_k02_whole_to_the_ends.main.body.getD i (.Pass ⟨0,0,0,0⟩)
noncomputable abbrev LoC(N:List Str)(st:Stmt):Prop:=∀x∈N,(defScope st).names.lookup x=some .local∨(defScope st).names.lookup x=some .cell
noncomputable abbrev tb0:CS:=⟨⟨[],[],[("Answer",0),("Exchanged",1),("Fronted",2),("Ended",3),("Put",4)]⟩,[]⟩
noncomputable abbrev s_is_whole:Stmt:=top 4
theorem sc_is_whole:FnScope ["value"] ["value"] (defScope s_is_whole):=⟨rfl,rfl,rfl,by decide+kernel,rfl,by decide+kernel,by decide+kernel⟩
theorem lo_is_whole:LoC ["value"] s_is_whole:=by decide+kernel
theorem cc_is_whole:cSt tb0 40 ["value"] (defScope s_is_whole) (defBody s_is_whole)=some b_is_whole:=by kernel_rfl
noncomputable abbrev tb1:CS:=⟨⟨("is_whole",0)::tb0.cc.tab,tb0.cc.gi,tb0.cc.cn⟩,tb0.iot⟩
noncomputable abbrev s_first_met:Stmt:=top 5
theorem sc_first_met:FnScope ["thing","met"] ["thing","met"] (defScope s_first_met):=⟨rfl,rfl,rfl,by decide+kernel,rfl,by decide+kernel,by decide+kernel⟩
theorem lo_first_met:LoC ["thing","met"] s_first_met:=by decide+kernel
theorem cc_first_met:cSt tb1 40 ["thing","met"] (defScope s_first_met) (defBody s_first_met)=some b_first_met:=by kernel_rfl
noncomputable abbrev tb2:CS:=⟨tb1.cc,("first_met",100,1)::tb1.iot⟩
noncomputable abbrev s_is_row:Stmt:=top 6
theorem sc_is_row:FnScope ["value","met","thing"] ["value"] (defScope s_is_row):=⟨rfl,rfl,rfl,by decide+kernel,rfl,by decide+kernel,by decide+kernel⟩
theorem lo_is_row:LoC ["value","met","thing"] s_is_row:=by decide+kernel
theorem cc_is_row:cSt tb2 40 ["value","met","thing"] (defScope s_is_row) (defBody s_is_row)=some b_is_row:=by kernel_rfl
noncomputable abbrev tb3:CS:=⟨⟨("is_row",1)::tb2.cc.tab,tb2.cc.gi,tb2.cc.cn⟩,tb2.iot⟩
noncomputable abbrev s_need_row:Stmt:=top 7
theorem sc_need_row:FnScope ["value"] ["value"] (defScope s_need_row):=⟨rfl,rfl,rfl,by decide+kernel,rfl,by decide+kernel,by decide+kernel⟩
theorem lo_need_row:LoC ["value"] s_need_row:=by decide+kernel
theorem cc_need_row:cSt tb3 40 ["value"] (defScope s_need_row) (defBody s_need_row)=some b_need_row:=by kernel_rfl
noncomputable abbrev tb4:CS:=⟨⟨("need_row",2)::tb3.cc.tab,tb3.cc.gi,tb3.cc.cn⟩,tb3.iot⟩
noncomputable abbrev s_is_pair:Stmt:=top 10
theorem sc_is_pair:FnScope ["value"] ["value"] (defScope s_is_pair):=⟨rfl,rfl,rfl,by decide+kernel,rfl,by decide+kernel,by decide+kernel⟩
theorem lo_is_pair:LoC ["value"] s_is_pair:=by decide+kernel
theorem cc_is_pair:cSt tb4 40 ["value"] (defScope s_is_pair) (defBody s_is_pair)=some b_is_pair:=by kernel_rfl
noncomputable abbrev tb5:CS:=⟨⟨("is_pair",5)::tb4.cc.tab,tb4.cc.gi,tb4.cc.cn⟩,tb4.iot⟩
noncomputable abbrev s_are_pairs:Stmt:=top 11
theorem sc_are_pairs:FnScope ["value"] ["value"] (defScope s_are_pairs):=⟨rfl,rfl,rfl,by decide+kernel,rfl,by decide+kernel,by decide+kernel⟩
theorem lo_are_pairs:LoC ["value"] s_are_pairs:=by decide+kernel
theorem cc_are_pairs:cSt tb5 40 ["value"] (defScope s_are_pairs) (defBody s_are_pairs)=some b_are_pairs:=by kernel_rfl
noncomputable abbrev tb6:CS:=⟨⟨("are_pairs",6)::tb5.cc.tab,tb5.cc.gi,tb5.cc.cn⟩,tb5.iot⟩
noncomputable abbrev s_back_of:Stmt:=top 15
theorem sc_back_of:FnScope ["row","told","place","thing"] ["row"] (defScope s_back_of):=⟨rfl,rfl,rfl,by decide+kernel,rfl,by decide+kernel,by decide+kernel⟩
theorem lo_back_of:LoC ["row","told","place","thing"] s_back_of:=by decide+kernel
theorem cc_back_of:cSt tb6 40 ["row","told","place","thing"] (defScope s_back_of) (defBody s_back_of)=some b_back_of:=by kernel_rfl
noncomputable abbrev tb7:CS:=⟨⟨("back_of",8)::tb6.cc.tab,tb6.cc.gi,tb6.cc.cn⟩,tb6.iot⟩
noncomputable abbrev s_run_lengths:Stmt:=top 16
theorem sc_run_lengths:FnScope ["row","lengths","length","earlier","place"] ["row"] (defScope s_run_lengths):=⟨rfl,rfl,rfl,by decide+kernel,rfl,by decide+kernel,by decide+kernel⟩
theorem lo_run_lengths:LoC ["row","lengths","length","earlier","place"] s_run_lengths:=by decide+kernel
theorem cc_run_lengths:cSt tb7 40 ["row","lengths","length","earlier","place"] (defScope s_run_lengths) (defBody s_run_lengths)=some b_run_lengths:=by kernel_rfl
noncomputable abbrev tb8:CS:=⟨⟨("run_lengths",12)::tb7.cc.tab,tb7.cc.gi,tb7.cc.cn⟩,tb7.iot⟩
noncomputable abbrev s_is_in_order:Stmt:=top 18
theorem sc_is_in_order:FnScope ["row"] ["row"] (defScope s_is_in_order):=⟨rfl,rfl,rfl,by decide+kernel,rfl,by decide+kernel,by decide+kernel⟩
theorem lo_is_in_order:LoC ["row"] s_is_in_order:=by decide+kernel
theorem cc_is_in_order:cSt tb8 40 ["row"] (defScope s_is_in_order) (defBody s_is_in_order)=some b_is_in_order:=by kernel_rfl
noncomputable abbrev tb9:CS:=⟨⟨("is_in_order",21)::tb8.cc.tab,tb8.cc.gi,tb8.cc.cn⟩,tb8.iot⟩
noncomputable abbrev s_after_fronting:Stmt:=top 20
theorem sc_after_fronting:FnScope ["row","things","moved","thing"] ["row","things"] (defScope s_after_fronting):=⟨rfl,rfl,rfl,by decide+kernel,rfl,by decide+kernel,by decide+kernel⟩
theorem lo_after_fronting:LoC ["row","things","moved","thing"] s_after_fronting:=by decide+kernel
theorem cc_after_fronting:cSt tb9 40 ["row","things","moved","thing"] (defScope s_after_fronting) (defBody s_after_fronting)=some b_after_fronting:=by kernel_rfl
noncomputable abbrev tb10:CS:=⟨⟨("after_fronting",23)::tb9.cc.tab,tb9.cc.gi,tb9.cc.cn⟩,tb9.iot⟩
noncomputable abbrev s_after_ending:Stmt:=top 21
theorem sc_after_ending:FnScope ["row","moves","moved","front","rear","thing","end"] ["row","moves"] (defScope s_after_ending):=⟨rfl,rfl,rfl,by decide+kernel,rfl,by decide+kernel,by decide+kernel⟩
theorem lo_after_ending:LoC ["row","moves","moved","front","rear","thing","end"] s_after_ending:=by decide+kernel
theorem cc_after_ending:cSt tb10 40 ["row","moves","moved","front","rear","thing","end"] (defScope s_after_ending) (defBody s_after_ending)=some b_after_ending:=by kernel_rfl
noncomputable abbrev tb11:CS:=⟨⟨("after_ending",24)::tb10.cc.tab,tb10.cc.gi,tb10.cc.cn⟩,tb10.iot⟩
noncomputable abbrev s_copied:Stmt:=top 29
theorem sc_copied:FnScope ["told"] ["told"] (defScope s_copied):=⟨rfl,rfl,rfl,by decide+kernel,rfl,by decide+kernel,by decide+kernel⟩
theorem lo_copied:LoC ["told"] s_copied:=by decide+kernel
theorem cc_copied:cSt tb11 40 ["told"] (defScope s_copied) (defBody s_copied)=some b_copied:=by kernel_rfl
noncomputable abbrev tb12:CS:=⟨⟨("copied",28)::tb11.cc.tab,tb11.cc.gi,tb11.cc.cn⟩,tb11.iot⟩
noncomputable abbrev s_are_different_things:Stmt:=top 32
theorem sc_are_different_things:FnScope ["many","things","met"] ["many","things"] (defScope s_are_different_things):=⟨rfl,rfl,rfl,by decide+kernel,rfl,by decide+kernel,by decide+kernel⟩
theorem lo_are_different_things:LoC ["many","things","met"] s_are_different_things:=by decide+kernel
theorem cc_are_different_things:cSt tb12 40 ["many","things","met"] (defScope s_are_different_things) (defBody s_are_different_things)=some b_are_different_things:=by kernel_rfl
noncomputable abbrev tb13:CS:=⟨⟨("are_different_things",31)::tb12.cc.tab,tb12.cc.gi,tb12.cc.cn⟩,tb12.iot⟩
noncomputable abbrev s_are_needed:Stmt:=top 33
theorem sc_are_needed:FnScope ["row","things","greatest"] ["row","things"] (defScope s_are_needed):=⟨rfl,rfl,rfl,by decide+kernel,rfl,by decide+kernel,by decide+kernel⟩
theorem lo_are_needed:LoC ["row","things","greatest"] s_are_needed:=by decide+kernel
theorem cc_are_needed:cSt tb13 40 ["row","things","greatest"] (defScope s_are_needed) (defBody s_are_needed)=some b_are_needed:=by kernel_rfl
noncomputable abbrev tb14:CS:=⟨⟨("are_needed",32)::tb13.cc.tab,tb13.cc.gi,tb13.cc.cn⟩,tb13.iot⟩
noncomputable abbrev s_are_moves_to_ends:Stmt:=top 34
theorem sc_are_moves_to_ends:FnScope ["many","moves"] ["many","moves"] (defScope s_are_moves_to_ends):=⟨rfl,rfl,rfl,by decide+kernel,rfl,by decide+kernel,by decide+kernel⟩
theorem lo_are_moves_to_ends:LoC ["many","moves"] s_are_moves_to_ends:=by decide+kernel
theorem cc_are_moves_to_ends:cSt tb14 40 ["many","moves"] (defScope s_are_moves_to_ends) (defBody s_are_moves_to_ends)=some b_are_moves_to_ends:=by kernel_rfl
noncomputable abbrev tb15:CS:=⟨⟨("are_moves_to_ends",33)::tb14.cc.tab,tb14.cc.gi,tb14.cc.cn⟩,tb14.iot⟩
noncomputable abbrev s_Fronted___init__:Stmt:=mem (top 39) 0
theorem sc_Fronted___init__:FnScope ["self","things"] ["self","things"] (defScope s_Fronted___init__):=⟨rfl,rfl,rfl,by decide+kernel,rfl,by decide+kernel,by decide+kernel⟩
theorem lo_Fronted___init__:LoC ["self","things"] s_Fronted___init__:=by decide+kernel
theorem cc_Fronted___init__:cSt tb15 40 ["self","things"] (defScope s_Fronted___init__) (defBody s_Fronted___init__)=some b_Fronted___init__:=by kernel_rfl
noncomputable abbrev tb16:CS:=⟨⟨("Fronted",82)::tb15.cc.tab,tb15.cc.gi,tb15.cc.cn⟩,tb15.iot⟩
noncomputable abbrev s_Fronted_shows:Stmt:=mem (top 39) 1
theorem sc_Fronted_shows:FnScope ["self","row"] ["self","row"] (defScope s_Fronted_shows):=⟨rfl,rfl,rfl,by decide+kernel,rfl,by decide+kernel,by decide+kernel⟩
theorem lo_Fronted_shows:LoC ["self","row"] s_Fronted_shows:=by decide+kernel
theorem cc_Fronted_shows:cSt tb16 40 ["self","row"] (defScope s_Fronted_shows) (defBody s_Fronted_shows)=some b_Fronted_shows:=by kernel_rfl
noncomputable abbrev s_Ended___init__:Stmt:=mem (top 40) 0
theorem sc_Ended___init__:FnScope ["self","moves"] ["self","moves"] (defScope s_Ended___init__):=⟨rfl,rfl,rfl,by decide+kernel,rfl,by decide+kernel,by decide+kernel⟩
theorem lo_Ended___init__:LoC ["self","moves"] s_Ended___init__:=by decide+kernel
theorem cc_Ended___init__:cSt tb16 40 ["self","moves"] (defScope s_Ended___init__) (defBody s_Ended___init__)=some b_Ended___init__:=by kernel_rfl
noncomputable abbrev tb17:CS:=⟨⟨("Ended",83)::tb16.cc.tab,tb16.cc.gi,tb16.cc.cn⟩,tb16.iot⟩
noncomputable abbrev s_Ended_shows:Stmt:=mem (top 40) 1
theorem sc_Ended_shows:FnScope ["self","row"] ["self","row"] (defScope s_Ended_shows):=⟨rfl,rfl,rfl,by decide+kernel,rfl,by decide+kernel,by decide+kernel⟩
theorem lo_Ended_shows:LoC ["self","row"] s_Ended_shows:=by decide+kernel
theorem cc_Ended_shows:cSt tb17 40 ["self","row"] (defScope s_Ended_shows) (defBody s_Ended_shows)=some b_Ended_shows:=by kernel_rfl
noncomputable abbrev s_fronted:Stmt:=top 43
theorem sc_fronted:FnScope ["row","left"] ["row"] (defScope s_fronted):=⟨rfl,rfl,rfl,by decide+kernel,rfl,by decide+kernel,by decide+kernel⟩
theorem lo_fronted:LoC ["row","left"] s_fronted:=by decide+kernel
theorem cc_fronted:cSt tb17 40 ["row","left"] (defScope s_fronted) (defBody s_fronted)=some b_fronted:=by kernel_rfl
noncomputable abbrev tb18:CS:=⟨⟨("fronted",37)::tb17.cc.tab,tb17.cc.gi,tb17.cc.cn⟩,tb17.iot⟩
noncomputable abbrev s_ended:Stmt:=top 44
theorem sc_ended:FnScope ["row","lengths","longest","behind_run","to_front","to_back"] ["row"] (defScope s_ended):=⟨rfl,rfl,rfl,by decide+kernel,rfl,by decide+kernel,by decide+kernel⟩
theorem lo_ended:LoC ["row","lengths","longest","behind_run","to_front","to_back"] s_ended:=by decide+kernel
theorem cc_ended:cSt tb18 40 ["row","lengths","longest","behind_run","to_front","to_back"] (defScope s_ended) (defBody s_ended)=some b_ended:=by kernel_rfl
noncomputable abbrev tb19:CS:=⟨⟨("ended",38)::tb18.cc.tab,tb18.cc.gi,tb18.cc.cn⟩,tb18.iot⟩
noncomputable abbrev s__law_cell_at:Stmt:=top 46
theorem sc__law_cell_at:FnScope ["_law_script","_law_k"] ["_law_script","_law_k"] (defScope s__law_cell_at):=⟨rfl,rfl,rfl,by decide+kernel,rfl,by decide+kernel,by decide+kernel⟩
theorem lo__law_cell_at:LoC ["_law_script","_law_k"] s__law_cell_at:=by decide+kernel
theorem cc__law_cell_at:cSt tb19 40 ["_law_script","_law_k"] (defScope s__law_cell_at) (defBody s__law_cell_at)=some b__law_cell_at:=by kernel_rfl
noncomputable abbrev tb20:CS:=⟨⟨("_law_cell_at",50)::tb19.cc.tab,tb19.cc.gi,tb19.cc.cn⟩,tb19.iot⟩
noncomputable abbrev s__law_draw:Stmt:=top 47
theorem sc__law_draw:FnScope ["_law_cell","_law_k","_law_many","_law_primes"] ["_law_cell","_law_k","_law_many"] (defScope s__law_draw):=⟨rfl,rfl,rfl,by decide+kernel,rfl,by decide+kernel,by decide+kernel⟩
theorem lo__law_draw:LoC ["_law_cell","_law_k","_law_many","_law_primes"] s__law_draw:=by decide+kernel
theorem cc__law_draw:cSt tb20 40 ["_law_cell","_law_k","_law_many","_law_primes"] (defScope s__law_draw) (defBody s__law_draw)=some b__law_draw:=by kernel_rfl
noncomputable abbrev tb21:CS:=⟨⟨("_law_draw",51)::tb20.cc.tab,tb20.cc.gi,tb20.cc.cn⟩,tb20.iot⟩
noncomputable abbrev s__law_row:Stmt:=top 48
theorem sc__law_row:FnScope ["_law_script","_law_kind","_law_row_here","_law_k","_law_away"] ["_law_script"] (defScope s__law_row):=⟨rfl,rfl,rfl,by decide+kernel,rfl,by decide+kernel,by decide+kernel⟩
theorem lo__law_row:LoC ["_law_script","_law_kind","_law_row_here","_law_k","_law_away"] s__law_row:=by decide+kernel
theorem cc__law_row:cSt tb21 40 ["_law_script","_law_kind","_law_row_here","_law_k","_law_away"] (defScope s__law_row) (defBody s__law_row)=some b__law_row:=by kernel_rfl
noncomputable abbrev tb22:CS:=⟨⟨("_law_row",52)::tb21.cc.tab,tb21.cc.gi,tb21.cc.cn⟩,tb21.iot⟩
noncomputable abbrev s__law_numbers:Stmt:=top 49
theorem sc__law_numbers:FnScope ["_law_found"] ["_law_found"] (defScope s__law_numbers):=⟨rfl,rfl,rfl,by decide+kernel,rfl,by decide+kernel,by decide+kernel⟩
theorem lo__law_numbers:LoC ["_law_found"] s__law_numbers:=by decide+kernel
theorem cc__law_numbers:cSt tb22 40 ["_law_found"] (defScope s__law_numbers) (defBody s__law_numbers)=some b__law_numbers:=by kernel_rfl
noncomputable abbrev tb23:CS:=⟨⟨("_law_numbers",53)::tb22.cc.tab,tb22.cc.gi,tb22.cc.cn⟩,tb22.iot⟩
noncomputable abbrev s__law_pairs:Stmt:=top 50
theorem sc__law_pairs:FnScope ["_law_found"] ["_law_found"] (defScope s__law_pairs):=⟨rfl,rfl,rfl,by decide+kernel,rfl,by decide+kernel,by decide+kernel⟩
theorem lo__law_pairs:LoC ["_law_found"] s__law_pairs:=by decide+kernel
theorem cc__law_pairs:cSt tb23 40 ["_law_found"] (defScope s__law_pairs) (defBody s__law_pairs)=some b__law_pairs:=by kernel_rfl
noncomputable abbrev tb24:CS:=⟨⟨("_law_pairs",54)::tb23.cc.tab,tb23.cc.gi,tb23.cc.cn⟩,tb23.iot⟩
noncomputable abbrev s__law_fronted:Stmt:=top 51
theorem sc__law_fronted:FnScope ["_law_row_here","_law_things","_law_found","_law_thing","_law_at"] ["_law_row_here","_law_things"] (defScope s__law_fronted):=⟨rfl,rfl,rfl,by decide+kernel,rfl,by decide+kernel,by decide+kernel⟩
theorem lo__law_fronted:LoC ["_law_row_here","_law_things","_law_found","_law_thing","_law_at"] s__law_fronted:=by decide+kernel
theorem cc__law_fronted:cSt tb24 40 ["_law_row_here","_law_things","_law_found","_law_thing","_law_at"] (defScope s__law_fronted) (defBody s__law_fronted)=some b__law_fronted:=by kernel_rfl
noncomputable abbrev tb25:CS:=⟨⟨("_law_fronted",61)::tb24.cc.tab,tb24.cc.gi,tb24.cc.cn⟩,tb24.iot⟩
noncomputable abbrev s__law_front_due:Stmt:=top 52
theorem sc__law_front_due:FnScope ["_law_row_here","_law_things","_law_many"] ["_law_row_here","_law_things"] (defScope s__law_front_due):=⟨rfl,rfl,rfl,by decide+kernel,rfl,by decide+kernel,by decide+kernel⟩
theorem lo__law_front_due:LoC ["_law_row_here","_law_things","_law_many"] s__law_front_due:=by decide+kernel
theorem cc__law_front_due:cSt tb25 40 ["_law_row_here","_law_things","_law_many"] (defScope s__law_front_due) (defBody s__law_front_due)=some b__law_front_due:=by kernel_rfl
noncomputable abbrev tb26:CS:=⟨⟨("_law_front_due",62)::tb25.cc.tab,tb25.cc.gi,tb25.cc.cn⟩,tb25.iot⟩
noncomputable abbrev s__law_ended:Stmt:=top 53
theorem sc__law_ended:FnScope ["_law_row_here","_law_moves","_law_found","_law_thing","_law_end","_law_at"] ["_law_row_here","_law_moves"] (defScope s__law_ended):=⟨rfl,rfl,rfl,by decide+kernel,rfl,by decide+kernel,by decide+kernel⟩
theorem lo__law_ended:LoC ["_law_row_here","_law_moves","_law_found","_law_thing","_law_end","_law_at"] s__law_ended:=by decide+kernel
theorem cc__law_ended:cSt tb26 40 ["_law_row_here","_law_moves","_law_found","_law_thing","_law_end","_law_at"] (defScope s__law_ended) (defBody s__law_ended)=some b__law_ended:=by kernel_rfl
noncomputable abbrev tb27:CS:=⟨⟨("_law_ended",63)::tb26.cc.tab,tb26.cc.gi,tb26.cc.cn⟩,tb26.iot⟩
noncomputable abbrev s__law_run:Stmt:=top 54
theorem sc__law_run:FnScope ["_law_row_here","_law_best","_law_many","_law_thing"] ["_law_row_here"] (defScope s__law_run):=⟨rfl,rfl,rfl,by decide+kernel,rfl,by decide+kernel,by decide+kernel⟩
theorem lo__law_run:LoC ["_law_row_here","_law_best","_law_many","_law_thing"] s__law_run:=by decide+kernel
theorem cc__law_run:cSt tb27 40 ["_law_row_here","_law_best","_law_many","_law_thing"] (defScope s__law_run) (defBody s__law_run)=some b__law_run:=by kernel_rfl
noncomputable abbrev tb28:CS:=⟨⟨("_law_run",64)::tb27.cc.tab,tb27.cc.gi,tb27.cc.cn⟩,tb27.iot⟩
noncomputable abbrev s__law_end_due:Stmt:=top 55
theorem sc__law_end_due:FnScope ["_law_row_here","_law_moves"] ["_law_row_here","_law_moves"] (defScope s__law_end_due):=⟨rfl,rfl,rfl,by decide+kernel,rfl,by decide+kernel,by decide+kernel⟩
theorem lo__law_end_due:LoC ["_law_row_here","_law_moves"] s__law_end_due:=by decide+kernel
theorem cc__law_end_due:cSt tb28 40 ["_law_row_here","_law_moves"] (defScope s__law_end_due) (defBody s__law_end_due)=some b__law_end_due:=by kernel_rfl
noncomputable abbrev tb29:CS:=⟨⟨("_law_end_due",65)::tb28.cc.tab,tb28.cc.gi,tb28.cc.cn⟩,tb28.iot⟩
noncomputable abbrev s_law:Stmt:=top 56
theorem sc_law:FnScope ["_law_script","_law_row_here","_law_handed","_law_other","_law_more","_law_again","_law_found"] ["_law_script"] (defScope s_law):=⟨rfl,rfl,rfl,by decide+kernel,rfl,by decide+kernel,by decide+kernel⟩
theorem lo_law:LoC ["_law_script","_law_row_here","_law_handed","_law_other","_law_more","_law_again","_law_found"] s_law:=by decide+kernel
theorem cc_law:cSt tb29 40 ["_law_script","_law_row_here","_law_handed","_law_other","_law_more","_law_again","_law_found"] (defScope s_law) (defBody s_law)=some b_law:=by kernel_rfl
end MI
end
noncomputable section
namespace MI
open PySem PySem.Spec PySem.W PyProof.Rows L2
noncomputable def frOf(h:Heap):PySem.W.Frag:=(List.range h.objs.size).filterMap fun a=>(h.get? a).map fun o=>(a,o)
theorem lookup_mem{a:Addr}{o:Obj}:∀ {K:PySem.W.Frag},K.lookup a=some o→(a,o)∈K
 |(b,u)::r,h=>by
  rw [List.lookup_cons]at h
  split at h
  ·rename_i e
   cases h
   rw [show a=b by simpa using e]
   exact List.mem_cons_self ..
  ·exact List.mem_cons_of_mem _ (lookup_mem h)
theorem frOf_in{h h':Heap}(k:∀b o,h.get? b=some o→h'.get? b=some o):(frOf h).In h':=fun a o e=>by
 obtain⟨b,_,q⟩:=List.mem_filterMap.mp (lookup_mem e)
 obtain⟨u,hu,q⟩:=msi q
 cases q
 exact k _ _ hu
structure Fv where
 name:Str
 qual:Str
 args:Arguments
 body:FuncBody
 scope:Scope
 globals:Addr
 closure:List (Str×Addr)
 defaults:Value
 builtins:Addr
 ok:Bool
noncomputable def fOf(K:PySem.W.Frag)(a:Addr)(fd:FuncData):Fv:=⟨fd.name,fd.qualname,fd.params,fd.body,fd.scope,fd.globals,fd.closure,fd.defaults,fd.builtins,PySem.W.codeIn K fd.code fd.qualname&&PySem.W.keepIn K (.ref a)⟩
noncomputable def fSee(K:PySem.W.Frag)(x:Str):Option Fv:=match PySem.W.nsIn K mainGlobals x with
 |some (some (.ref a))=>(match K.lookup a with
  |some ⟨_,_,.func fd,_⟩=>some (fOf K a fd)
  |_=>none)
 |_=>none
noncomputable def fDue(x:Str)(st:Stmt):Option Fv:=some ⟨x,x,defArgs st,.stmts (defBody st),defScope st,mainGlobals,[],.none,builtinsNs,true⟩
noncomputable def bSee(K:PySem.W.Frag)(x:Str):Bool:=match PySem.W.nsIn K mainGlobals x with
 |some none=>true
 |_=>false
noncomputable def gSee(K:PySem.W.Frag)(x:Str):Option Int:=match PySem.W.nsIn K mainGlobals x with
 |some (some (.int i _))=>some i
 |_=>none
theorem fSee_ok{K:PySem.W.Frag}{x:Str}{st:Stmt}(h:fSee K x=fDue x st):∃(f:Addr) (od an:Option Addr) (sl:Array (Option Value)) (oc kV dc pm cd ct:Value),PySem.W.nsIn K mainGlobals x=some (some (.ref f))∧
 K.lookup f=some ⟨oc,od,.func (PySem.W.fnOf x x (defArgs st) (defBody st) (defScope st) .none kV dc pm an cd ct),sl⟩∧PySem.W.codeIn K cd x=true∧PySem.W.keepIn K (.ref f)=true:=by
 unfold fSee fDue at h
 split at h
 ·rename_i a ha
  split at h
  ·rename_i oc od fd sl hl
   have h:=Option.some.inj h
   unfold fOf at h
   obtain⟨n,q,ps,b,sc,g,c,d,kV,dc,pm,an,cd,ct,bi⟩:=fd
   injection h with h1 h2 h3 h4 h5 h6 h7 h8 h9 h10
   dsimp only at h1 h2 h3 h4 h5 h6 h7 h8 h9 h10
   subst h1 h2 h3 h4 h5 h6 h7 h8 h9
   obtain⟨k1,k2⟩:=(Bool.and_eq_true _ _).mp h10
   exact⟨a,od,an,sl,oc,kV,dc,pm,cd,ct,ha,hl,k1,k2⟩
  ·cases h
 ·cases h
theorem bSee_ok{K:PySem.W.Frag}{x:Str}(h:bSee K x=true):PySem.W.nsIn K mainGlobals x=some none:=by
 unfold bSee at h
 split at h
 ·assumption
 ·cases h
noncomputable def cAd(K:PySem.W.Frag)(x:Str):Option Addr:=match PySem.W.nsIn K mainGlobals x with
 |some (some (.ref a))=>some a
 |_=>none
theorem cAd_ok{K:PySem.W.Frag}{x:Str}{C:Addr}(h:cAd K x=some C):PySem.W.nsIn K mainGlobals x=some (some (.ref C)):=by
 unfold cAd at h
 split at h
 ·cases h;assumption
 ·cases h
noncomputable def isBi(o:Option (Option Value))(s:String):Bool:=match o with
 |some (some (.builtin t))=>t==s
 |_=>false
theorem isBi_ok{o:Option (Option Value)}{s:String}(h:isBi o s=true):o=some (some (.builtin s)):=by
 unfold isBi at h
 split at h
 ·rw [eq_of_beq h]
 ·cases h
noncomputable def isNo(o:Option (Option Value)):Bool:=match o with
 |some none=>true
 |_=>false
theorem isNo_ok{o:Option (Option Value)}(h:isNo o=true):o=some none:=by
 unfold isNo at h
 split at h
 ·rfl
 ·cases h
noncomputable def isB(o:Option Bool)(b:Bool):Bool:=match o with
 |some c=>c==b
 |none=>false
theorem isB_ok{o:Option Bool}{b:Bool}(h:isB o b=true):o=some b:=by
 unfold isB at h
 split at h
 ·rw [eq_of_beq h]
 ·cases h
noncomputable def clsB(K:PySem.W.Frag)(C:Addr):Bool:=PySem.W.plainGet K C Str.empty&&(PySem.W.hasDictIn K C&&(PySem.W.plainOver K C&&(isBi (PySem.W.findIn K (.ref C) "__setattr__") "object.__setattr__"&&(FLD.all (fun f=>isNo (PySem.W.findIn K (.ref C) f))&&(isBi (PySem.W.findIn K (.ref C) "__class__") "object.__class__"&&(isBi (PySem.W.specialIn K (.builtin "object.__class__") "__get__") "getset_descriptor.__get__"&&(isB (PySem.W.takesIn K (.builtin "object.__class__")) true&&isB (PySem.W.mroIn K C (.type "object")) true)))))))
theorem clsB_ok{K:PySem.W.Frag}{C:Addr}(h:clsB K C=true):Cls K C∧(∀f∈FLD,NoAttr K C f)∧ClsT K C:=by
 unfold clsB at h
 simp only [Bool.and_eq_true]at h
 obtain⟨h1,h2,h3,h4,h5,h6,h7,h8,h9⟩:=h
 exact⟨⟨h1,h2,h3,isBi_ok h4⟩,fun f hf=>isNo_ok (List.all_eq_true.mp h5 f hf),⟨isBi_ok h6,isBi_ok h7,isB_ok h8,isB_ok h9⟩⟩
noncomputable def clOf(K:PySem.W.Frag)(cs:List Str)(i:Nat):Option Addr:=match cs[i]? with
 |some x=>cAd K x
 |none=>none
noncomputable def oneB(K:PySem.W.Frag)(cs:List Str)(i j:Nat):Bool:=match clOf K cs i,clOf K cs j with
 |some I,some J=>isB (PySem.W.kitOne K (.ref I) (.ref J)) (subC i j)
 |_,_=>false
noncomputable def eachB(K:PySem.W.Frag)(cs:List Str)(i:Nat):Bool:=(match clOf K cs i with
 |some C=>clsB K C
 |none=>false)&&(List.range cs.length).all (oneB K cs i)
noncomputable def allC(K:PySem.W.Frag)(cs:List Str):Bool:=(List.range cs.length).all (eachB K cs)
theorem clOf_lt{K:PySem.W.Frag}{cs:List Str}{i:Nat}{C:Addr}(h:clOf K cs i=some C):i<cs.length:=by
 unfold clOf at h
 split at h
 ·rename_i e;exact(List.getElem?_eq_some_iff.mp e).1
 ·cases h
theorem allC_ok{K:PySem.W.Frag}{cs:List Str}(h:allC K cs=true):ClsOk K (clOf K cs):=by
 have A:=fun i (hi:i<cs.length)=>(Bool.and_eq_true _ _).mp (List.all_eq_true.mp h i (List.mem_range.mpr hi))
 refine⟨fun i C hC=> ?_,fun i I j J hI hJ=> ?_⟩
 ·have:=(A i (clOf_lt hC)).1
  rw [hC]at this
  exact clsB_ok this
 ·have:=List.all_eq_true.mp (A i (clOf_lt hI)).2 j (List.mem_range.mpr (clOf_lt hJ))
  unfold oneB at this
  rw [hI,hJ]at this
  exact isB_ok this
theorem allC_at{K:PySem.W.Frag}{cs:List Str}(h:allC K cs=true){i:Nat}{x:Str}(hx:cs[i]?=some x):∃C,clOf K cs i=some C∧PySem.W.nsIn K mainGlobals x=some (some (.ref C)):=by
 have hi:=(List.getElem?_eq_some_iff.mp hx).1
 have:=((Bool.and_eq_true _ _).mp (List.all_eq_true.mp h i (List.mem_range.mpr hi))).1
 split at this
 ·rename_i C hC
  refine⟨C,hC,cAd_ok ?_⟩
  unfold clOf at hC
  rw [hx]at hC
  exact hC
 ·cases this
noncomputable def mkB(K:PySem.W.Frag)(x:Str):Bool:=match cAd K x with
 |some C=>PySem.W.makesIn K C&&PySem.W.keepIn K (.ref C)
 |none=>false
theorem mkB_ok{K:PySem.W.Frag}{x:Str}{C:Addr}(h:mkB K x=true)(e:PySem.W.nsIn K mainGlobals x=some (some (.ref C))):PySem.W.makesIn K C=true∧PySem.W.keepIn K (.ref C)=true:=by
 unfold mkB cAd at h
 rw [e]at h
 exact(Bool.and_eq_true _ _).mp h
noncomputable def mSee(K:PySem.W.Frag)(p:Str×Str):Option Fv:=match cAd K p.1 with
 |some C=>(match PySem.W.findIn K (.ref C) p.2 with
  |some (some (.ref a))=>(match PySem.W.isFn K (.ref a)with
   |true=>(match K.lookup a with
    |some ⟨_,_,.func fd,_⟩=>some (fOf K a fd)
    |_=>none)
   |false=>none)
  |_=>none)
 |none=>none
noncomputable def mDue(m q:Str)(st:Stmt):Option Fv:=some ⟨m,q,defArgs st,.stmts (defBody st),defScope st,mainGlobals,[],.none,builtinsNs,true⟩
theorem mSee_ok{K:PySem.W.Frag}{x m q:Str}{C:Addr}{st:Stmt}(hC:PySem.W.nsIn K mainGlobals x=some (some (.ref C)))(h:mSee K (x,m)=mDue m q st):∃(f:Addr) (od an:Option Addr) (sl:Array (Option Value)) (oc kV dc pm cd ct:Value),PySem.W.findIn K (.ref C) m=some (some (.ref f))∧PySem.W.isFn K (.ref f)=true∧
 K.lookup f=some ⟨oc,od,.func (PySem.W.fnOf m q (defArgs st) (defBody st) (defScope st) .none kV dc pm an cd ct),sl⟩∧PySem.W.codeIn K cd q=true∧PySem.W.keepIn K (.ref f)=true:=by
 unfold mSee mDue cAd at h
 dsimp only at h
 rw [hC]at h
 dsimp only at h
 split at h
 ·rename_i a ha
  split at h
  ·rename_i hf
   split at h
   ·rename_i oc od fd sl hl
    have h:=Option.some.inj h
    unfold fOf at h
    obtain⟨n,q',ps,b,sc,g,c,d,kV,dc,pm,an,cd,ct,bi⟩:=fd
    injection h with h1 h2 h3 h4 h5 h6 h7 h8 h9 h10
    dsimp only at h1 h2 h3 h4 h5 h6 h7 h8 h9 h10
    subst h1 h2 h3 h4 h5 h6 h7 h8 h9
    obtain⟨k1,k2⟩:=(Bool.and_eq_true _ _).mp h10
    exact⟨a,od,an,sl,oc,kV,dc,pm,cd,ct,ha,hf,hl,k1,k2⟩
   ·cases h
  ·cases h
 ·cases h
structure Asks where
 fs:List Str
 ms:List (Str×Str)
 gs:List Str
 bs:List Str
 cs:List Str
 mks:List Str
noncomputable abbrev Look:=List (Option Fv)×List (Option Fv)×List (Option Int)×Bool
noncomputable def look(q:Asks)(K:PySem.W.Frag):Look:=(q.fs.map (fSee K),q.ms.map (mSee K),q.gs.map (gSee K),q.bs.all (bSee K)&&(allC K q.cs&&q.mks.all (mkB K)))
noncomputable def lHook(q:Asks)(due:Look):PySem.W.Hook:=
 ⟨_,fun s=>look q (frOf s.heap),fun _=>due,fun _ h=>∃h₀:Heap,(∀b o,h₀.get? b=some o→h.get? b=some o)∧look q (frOf h₀)=due,fun _ s e=>⟨s.heap,fun _ _ z=>z,e⟩,fun _ h h' ⟨h₀,k,e⟩ k'=>⟨h₀,fun b o z=>k' b o (k b o z),e⟩⟩
theorem walkL{l:PySem.W.OpenLaw}{n k:Nat}{q:Program}{loose:List Str}{XP:(Str→Option Value)→Heap→Prop}{d:DefRec}{a:Asks}{due:Look}{x:Str}{g:List D→Option T}
 (hn:l.most=some n)(hn2:n≤sizeLine)(hdf:d.params.defaults=[])(hr:Room k callerA)
 (F:∀(w:World) (mg:Str→Option Value) (fa:Addr) (K:PySem.W.Frag) (h:Heap),K.In h→h.Ns mainGlobals mg→mg d.name=some (.ref fa)→look a K=due→
   ∃(cl:Nat→Option Addr) (fd:FuncData),(∀(s:Shared) (u:Value),BindsTo s fd ⟨[u],[]⟩ [(x,u)])∧
    ∀base:Heap,K.In base→base.Ns mainGlobals mg→FnOk l.prog w K mg base CX0 k fa fd [x] (spP K cl g))
 (hg:∀ns:List Int,ns.length≤n→g [.lst (ns.map D.int)]=some (.sh (.bl true))):
 PySem.W.WalkO q loose XP (lHook a due).says l.row.toRowW d [] (fun f vs=>PySem.call f vs):=by
 refine Att.attach_call hn hdf fun w s₀ s₁ mg mb fa o pm cd doc b vs ns G Y ho hd hcd hmg hobj hints hlen hg'=> ?_
 obtain⟨h₀,kk,e⟩:=Y
 have KX:(frOf h₀).In s₁.heap:=frOf_in kk
 obtain⟨cl,fd,hb,hF⟩:=F w mg fa _ _ KX G.T.g hmg e
 refine law_callR (CX:=CX0) (sp:=spP (frOf h₀) cl g) KX G.T.g G.T.b G.T.builtins G.T.nolimit hg' hobj hints (Nat.le_trans hlen hn2) hr hF hb (fun H hS=> ?_) fun H e s' z=>z
 exact⟨H,_,_,.refl _,.cons (.lst hS (dns_ints ns)) .nil,hg ns hlen,fun v H' G' A e ot nd nw=>by cases ot with|sh dn=>cases dn;rfl⟩
end MI
end
noncomputable section
namespace MI
open PySem PySem.Spec PySem.W PyProof.Rows L2
noncomputable def topRunT(tb:String→Option Builtin)(p:Program)(w:World)(n₀:Nat)(ann:Option Value):Nat→SharedT→Thread→Option SharedT
 |0,_,_=>none
 |n+1,s,t=>match through t with
  |true=>some s
  |false=>match stepOk n₀ ann t with
   |false=>none
   |true=>match stepT (denote tb) p w s t with
    |some (s',t')=>topRunT tb p w n₀ ann n s' t'
    |none=>none
theorem topRun_of{tb:String→Option Builtin}{p:Program}{w:World}{n₀:Nat}{ann:Option Value}:∀ {n:Nat} {s s':SharedT} {t:Thread},topRunT tb p w n₀ ann n s t=some s'→topRun tb p w n₀ ann n s.abs t=some s'.abs
 |0,_,_,_,h=>by cases h
 |n+1,s,s',t,h=>by
  unfold topRunT at h
  unfold topRun
  cases he:through t with
  |true=>rw [he]at h;cases h;rfl
  |false=>
   rw [he]at h
   cases hk:stepOk n₀ ann t with
   |false=>rw [hk]at h;cases h
   |true=>
    rw [hk]at h
    cases hs:stepT (denote tb) p w s t with
    |none=>rw [hs]at h;cases h
    |some r=>obtain⟨s₂,t₂⟩:=r;rw [hs]at h;rw [stepT_spec hs];exact topRun_of h
noncomputable def treeOf:List Obj→Nat→BT→BT
 |[],_,t=>t
 |o::r,i,t=>treeOf r (i+1) (t.ins i o)
noncomputable def tree0(P:Params):BT:=treeOf (boot_heap P).objs.toList 0 .nil
noncomputable def st0(P:Params)(os:OsState):SharedT:=⟨tree0 P,11,(boot_heap P).life,⟨[]⟩,boot_drawn,boot_toks,os⟩
theorem tree0_ok(P:Params):absHeap (tree0 P) 11 (boot_heap P).life=boot_heap P:=by kernel_rfl
theorem boot_is(P:Params):((boot_heap P).isNs mainGlobals&&(⟨[]⟩:Array GenState).size==0,(boot_heap P).objs.size,(boot_heap P).nsMap mainGlobals "__annotations__")=(true,11,some (.ref 6)):=by kernel_rfl
noncomputable def frT(s:SharedT):PySem.W.Frag:=(List.range s.n).filterMap fun a=>(alive ((s.tree.get a).getD default)).map fun o=>(a,o)
theorem filterMap_eq{α β:Type}{f g:α→Option β}:∀ {l:List α},(∀x∈l,f x=g x)→l.filterMap f=l.filterMap g
 |[],_=>rfl
 |x::l,h=>by rw [List.filterMap_cons,List.filterMap_cons,h x (List.mem_cons_self ..),filterMap_eq fun y hy=>h y (List.mem_cons_of_mem _ hy)]
theorem frT_ok(s:SharedT):frOf s.abs.heap=frT s:=by
 unfold frOf frT
 rw [show s.abs.heap.objs.size=s.n from absHeap_size ..]
 refine filterMap_eq fun a ha=> ?_
 have h:=List.mem_range.mp ha
 have e:s.abs.heap.get? a=alive ((s.tree.get a).getD default):=by
  show(absHeap s.tree s.n s.life).get? a=_
  unfold Heap.get?
  rw [absHeap_at,if_pos h]
  generalize (s.tree.get a).getD default=o
  obtain⟨c,d,dt,sl⟩:=o
  cases dt<;>rfl
 rw [e]
theorem left_tree{p q:Program}{loose:List Str}{Xt:Shared→Bool}{α:Type}{Yf:Shared→α}{Yt:SharedT→α}{Ya:World→α}{N:Nat}(hY:∀s:SharedT,Yf s.abs=Yt s)
 (e:opening p=plainProg p.main.scope.names)(hN:Nat.ble 600 N=true)(f:∀s,fenceModules? p s=some s)
 (run:∀(w:World) (os:OsState),(topRunT treeTable p w 11 (some (.ref 6)) N (st0 w.params os) (topStub p)).map (fun s=>(staticsOk (importedModules p.main.body) (boot_heap w.params) s.abs.heap&&namesBound p s.abs.heap&&gensDone s.abs&&laidKept (boot_heap w.params) s.abs.heap,openSeen q loose (importedModules p.main.body) Xt true s.abs,Yt s))=some (true,openGood q loose,Ya w)):LeftO p q loose Xt Yf Ya N:=fun w=>by
 obtain⟨⟨h,gs,d,k,os⟩,e0,e'⟩:=msi (boot_open e hN f w)
 obtain⟨rfl,rfl,rfl,rfl⟩:h=boot_heap w.params∧gs=⟨[]⟩∧d=boot_drawn∧k=boot_toks:=by simpa using e'
 obtain⟨z1,z2,z3⟩:_∧_∧_:=by simpa only [Prod.mk.injEq]using boot_is w.params
 obtain⟨s,hs,hv⟩:=msi (run w os)
 obtain⟨l1,l2,l3⟩:_∧_∧_:=by simpa only [Prod.mk.injEq]using hv
 have r:=topRun_of hs
 rw [show(st0 w.params os).abs=⟨boot_heap w.params,⟨[]⟩,boot_drawn,boot_toks,os⟩ by unfold st0 SharedT.abs;dsimp only;rw [tree0_ok]]at r
 have t:topFrom treeTable p w N ⟨boot_heap w.params,⟨[]⟩,boot_drawn,boot_toks,os⟩=some s.abs:=by
  unfold topFrom
  dsimp only
  rw [z1,z2,z3,r]
  show(match staticsOk (importedModules p.main.body) (boot_heap w.params) s.abs.heap&&namesBound p s.abs.heap&&gensDone s.abs&&laidKept (boot_heap w.params) s.abs.heap with|true=>_|false=>_)=_
  rw [l1]
 unfold openEnds
 rw [e0]
 show(topFrom treeTable p w N _).map _=_
 rw [t]
 exact congrArg some (Prod.ext l2 ((hY s).trans l3))
theorem look_T(q:Asks)(due:Look)(s:SharedT):(lHook q due).obs s.abs=look q (frT s):=congrArg (look q) (frT_ok s)
end MI
end
noncomputable section
namespace MI
open PySem L2 PyProof.Rows
theorem ar1{us:List Value}(h:us.length=1):∃a,us=[a]:=match us,h with|[a],_=>⟨a,rfl⟩
theorem ar2{us:List Value}(h:us.length=2):∃a b,us=[a,b]:=match us,h with|[a,b],_=>⟨a,b,rfl⟩
theorem ar3{us:List Value}(h:us.length=3):∃a b c,us=[a,b,c]:=match us,h with|[a,b,c],_=>⟨a,b,c,rfl⟩
theorem ar4{us:List Value}(h:us.length=4):∃a b c d,us=[a,b,c,d]:=match us,h with|[a,b,c,d],_=>⟨a,b,c,d,rfl⟩
noncomputable def lQ:Asks:=⟨(["is_whole","first_met","is_row","need_row","is_pair","are_pairs","back_of","run_lengths","is_in_order","after_fronting","after_ending","copied","are_different_things","are_needed","are_moves_to_ends","fronted"]:List Str)++(["ended","_law_cell_at","_law_draw","_law_row","_law_numbers","_law_pairs","_law_fronted","_law_front_due","_law_ended","_law_run","_law_end_due","law"]:List Str),[("Fronted","__init__"),("Fronted","shows"),("Ended","__init__"),("Ended","shows")],[],BLT,["Answer","Exchanged","Fronted","Ended","Put"],["Fronted","Ended"]⟩
noncomputable def lDue:Look:=([fDue "is_whole" s_is_whole,fDue "first_met" s_first_met,fDue "is_row" s_is_row,fDue "need_row" s_need_row,fDue "is_pair" s_is_pair,fDue "are_pairs" s_are_pairs,fDue "back_of" s_back_of,fDue "run_lengths" s_run_lengths,fDue "is_in_order" s_is_in_order,fDue "after_fronting" s_after_fronting,fDue "after_ending" s_after_ending,fDue "copied" s_copied,fDue "are_different_things" s_are_different_things,fDue "are_needed" s_are_needed,fDue "are_moves_to_ends" s_are_moves_to_ends,fDue "fronted" s_fronted,fDue "ended" s_ended,fDue "_law_cell_at" s__law_cell_at,fDue "_law_draw" s__law_draw,fDue "_law_row" s__law_row,fDue "_law_numbers" s__law_numbers,fDue "_law_pairs" s__law_pairs,fDue "_law_fronted" s__law_fronted,fDue "_law_front_due" s__law_front_due,fDue "_law_ended" s__law_ended,fDue "_law_run" s__law_run,fDue "_law_end_due" s__law_end_due,fDue "law" s_law],[mDue "__init__" "Fronted.__init__" s_Fronted___init__,mDue "shows" "Fronted.shows" s_Fronted_shows,mDue "__init__" "Ended.__init__" s_Ended___init__,mDue "shows" "Ended.shows" s_Ended_shows],[],true)
theorem facts{l:PySem.W.OpenLaw}{w:World}{mg:Str→Option Value}{fa:Addr}{K:PySem.W.Frag}{h:Heap}(X:K.In h)(G:h.Ns mainGlobals mg)(hfa:mg "law"=some (.ref fa))(e:look lQ K=lDue):∃(cl:Nat→Option Addr) (fd:FuncData),(∀(s:Shared) (u:Value),BindsTo s fd ⟨[u],[]⟩ [("_law_script",u)])∧∀base:Heap,K.In base→base.Ns mainGlobals mg→FnOk l.prog w K mg base CX0 34 fa fd ["_law_script"] (spP K cl g_law):=by
 obtain⟨e1,e⟩:=Prod.mk.inj e
 obtain⟨e2,e⟩:=Prod.mk.inj e
 obtain⟨e3,e4⟩:=Prod.mk.inj e
 obtain⟨e4,e⟩:=(Bool.and_eq_true _ _).mp e4
 obtain⟨e5,e6⟩:=(Bool.and_eq_true _ _).mp e
 have hcl:ClsOk K (clOf K ["Answer","Exchanged","Fronted","Ended","Put"]):=allC_ok e5
 obtain⟨C0,hC0,nC0⟩:=allC_at e5 (i:=0) (x:="Answer") rfl
 obtain⟨C1,hC1,nC1⟩:=allC_at e5 (i:=1) (x:="Exchanged") rfl
 obtain⟨C2,hC2,nC2⟩:=allC_at e5 (i:=2) (x:="Fronted") rfl
 obtain⟨C3,hC3,nC3⟩:=allC_at e5 (i:=3) (x:="Ended") rfl
 obtain⟨C4,hC4,nC4⟩:=allC_at e5 (i:=4) (x:="Put") rfl
 obtain⟨mk2,kp2⟩:=mkB_ok (List.all_eq_true.mp e6 "Fronted" (by decide)) nC2
 obtain⟨mk3,kp3⟩:=mkB_ok (List.all_eq_true.mp e6 "Ended" (by decide)) nC3
 obtain⟨t,e1⟩:=List.cons.inj e1
 obtain⟨f1,od1,an1,sl1,oc1,kV1,dc1,pm1,cd1,ct1,a1,l1,c1,k1⟩:=fSee_ok t
 have F1:=fun_mk (st:=s_is_whole) l1 c1 k1
 obtain⟨t,e1⟩:=List.cons.inj e1
 obtain⟨f2,od2,an2,sl2,oc2,kV2,dc2,pm2,cd2,ct2,a2,l2,c2,k2⟩:=fSee_ok t
 have F2:=fun_mk (st:=s_first_met) l2 c2 k2
 obtain⟨t,e1⟩:=List.cons.inj e1
 obtain⟨f3,od3,an3,sl3,oc3,kV3,dc3,pm3,cd3,ct3,a3,l3,c3,k3⟩:=fSee_ok t
 have F3:=fun_mk (st:=s_is_row) l3 c3 k3
 obtain⟨t,e1⟩:=List.cons.inj e1
 obtain⟨f4,od4,an4,sl4,oc4,kV4,dc4,pm4,cd4,ct4,a4,l4,c4,k4⟩:=fSee_ok t
 have F4:=fun_mk (st:=s_need_row) l4 c4 k4
 obtain⟨t,e1⟩:=List.cons.inj e1
 obtain⟨f5,od5,an5,sl5,oc5,kV5,dc5,pm5,cd5,ct5,a5,l5,c5,k5⟩:=fSee_ok t
 have F5:=fun_mk (st:=s_is_pair) l5 c5 k5
 obtain⟨t,e1⟩:=List.cons.inj e1
 obtain⟨f6,od6,an6,sl6,oc6,kV6,dc6,pm6,cd6,ct6,a6,l6,c6,k6⟩:=fSee_ok t
 have F6:=fun_mk (st:=s_are_pairs) l6 c6 k6
 obtain⟨t,e1⟩:=List.cons.inj e1
 obtain⟨f7,od7,an7,sl7,oc7,kV7,dc7,pm7,cd7,ct7,a7,l7,c7,k7⟩:=fSee_ok t
 have F7:=fun_mk (st:=s_back_of) l7 c7 k7
 obtain⟨t,e1⟩:=List.cons.inj e1
 obtain⟨f8,od8,an8,sl8,oc8,kV8,dc8,pm8,cd8,ct8,a8,l8,c8,k8⟩:=fSee_ok t
 have F8:=fun_mk (st:=s_run_lengths) l8 c8 k8
 obtain⟨t,e1⟩:=List.cons.inj e1
 obtain⟨f9,od9,an9,sl9,oc9,kV9,dc9,pm9,cd9,ct9,a9,l9,c9,k9⟩:=fSee_ok t
 have F9:=fun_mk (st:=s_is_in_order) l9 c9 k9
 obtain⟨t,e1⟩:=List.cons.inj e1
 obtain⟨f10,od10,an10,sl10,oc10,kV10,dc10,pm10,cd10,ct10,a10,l10,c10,k10⟩:=fSee_ok t
 have F10:=fun_mk (st:=s_after_fronting) l10 c10 k10
 obtain⟨t,e1⟩:=List.cons.inj e1
 obtain⟨f11,od11,an11,sl11,oc11,kV11,dc11,pm11,cd11,ct11,a11,l11,c11,k11⟩:=fSee_ok t
 have F11:=fun_mk (st:=s_after_ending) l11 c11 k11
 obtain⟨t,e1⟩:=List.cons.inj e1
 obtain⟨f12,od12,an12,sl12,oc12,kV12,dc12,pm12,cd12,ct12,a12,l12,c12,k12⟩:=fSee_ok t
 have F12:=fun_mk (st:=s_copied) l12 c12 k12
 obtain⟨t,e1⟩:=List.cons.inj e1
 obtain⟨f13,od13,an13,sl13,oc13,kV13,dc13,pm13,cd13,ct13,a13,l13,c13,k13⟩:=fSee_ok t
 have F13:=fun_mk (st:=s_are_different_things) l13 c13 k13
 obtain⟨t,e1⟩:=List.cons.inj e1
 obtain⟨f14,od14,an14,sl14,oc14,kV14,dc14,pm14,cd14,ct14,a14,l14,c14,k14⟩:=fSee_ok t
 have F14:=fun_mk (st:=s_are_needed) l14 c14 k14
 obtain⟨t,e1⟩:=List.cons.inj e1
 obtain⟨f15,od15,an15,sl15,oc15,kV15,dc15,pm15,cd15,ct15,a15,l15,c15,k15⟩:=fSee_ok t
 have F15:=fun_mk (st:=s_are_moves_to_ends) l15 c15 k15
 obtain⟨t,e1⟩:=List.cons.inj e1
 obtain⟨f20,od20,an20,sl20,oc20,kV20,dc20,pm20,cd20,ct20,a20,l20,c20,k20⟩:=fSee_ok t
 have F20:=fun_mk (st:=s_fronted) l20 c20 k20
 obtain⟨t,e1⟩:=List.cons.inj e1
 obtain⟨f21,od21,an21,sl21,oc21,kV21,dc21,pm21,cd21,ct21,a21,l21,c21,k21⟩:=fSee_ok t
 have F21:=fun_mk (st:=s_ended) l21 c21 k21
 obtain⟨t,e1⟩:=List.cons.inj e1
 obtain⟨f22,od22,an22,sl22,oc22,kV22,dc22,pm22,cd22,ct22,a22,l22,c22,k22⟩:=fSee_ok t
 have F22:=fun_mk (st:=s__law_cell_at) l22 c22 k22
 obtain⟨t,e1⟩:=List.cons.inj e1
 obtain⟨f23,od23,an23,sl23,oc23,kV23,dc23,pm23,cd23,ct23,a23,l23,c23,k23⟩:=fSee_ok t
 have F23:=fun_mk (st:=s__law_draw) l23 c23 k23
 obtain⟨t,e1⟩:=List.cons.inj e1
 obtain⟨f24,od24,an24,sl24,oc24,kV24,dc24,pm24,cd24,ct24,a24,l24,c24,k24⟩:=fSee_ok t
 have F24:=fun_mk (st:=s__law_row) l24 c24 k24
 obtain⟨t,e1⟩:=List.cons.inj e1
 obtain⟨f25,od25,an25,sl25,oc25,kV25,dc25,pm25,cd25,ct25,a25,l25,c25,k25⟩:=fSee_ok t
 have F25:=fun_mk (st:=s__law_numbers) l25 c25 k25
 obtain⟨t,e1⟩:=List.cons.inj e1
 obtain⟨f26,od26,an26,sl26,oc26,kV26,dc26,pm26,cd26,ct26,a26,l26,c26,k26⟩:=fSee_ok t
 have F26:=fun_mk (st:=s__law_pairs) l26 c26 k26
 obtain⟨t,e1⟩:=List.cons.inj e1
 obtain⟨f27,od27,an27,sl27,oc27,kV27,dc27,pm27,cd27,ct27,a27,l27,c27,k27⟩:=fSee_ok t
 have F27:=fun_mk (st:=s__law_fronted) l27 c27 k27
 obtain⟨t,e1⟩:=List.cons.inj e1
 obtain⟨f28,od28,an28,sl28,oc28,kV28,dc28,pm28,cd28,ct28,a28,l28,c28,k28⟩:=fSee_ok t
 have F28:=fun_mk (st:=s__law_front_due) l28 c28 k28
 obtain⟨t,e1⟩:=List.cons.inj e1
 obtain⟨f29,od29,an29,sl29,oc29,kV29,dc29,pm29,cd29,ct29,a29,l29,c29,k29⟩:=fSee_ok t
 have F29:=fun_mk (st:=s__law_ended) l29 c29 k29
 obtain⟨t,e1⟩:=List.cons.inj e1
 obtain⟨f30,od30,an30,sl30,oc30,kV30,dc30,pm30,cd30,ct30,a30,l30,c30,k30⟩:=fSee_ok t
 have F30:=fun_mk (st:=s__law_run) l30 c30 k30
 obtain⟨t,e1⟩:=List.cons.inj e1
 obtain⟨f31,od31,an31,sl31,oc31,kV31,dc31,pm31,cd31,ct31,a31,l31,c31,k31⟩:=fSee_ok t
 have F31:=fun_mk (st:=s__law_end_due) l31 c31 k31
 obtain⟨t,e1⟩:=List.cons.inj e1
 obtain⟨f32,od32,an32,sl32,oc32,kV32,dc32,pm32,cd32,ct32,a32,l32,c32,k32⟩:=fSee_ok t
 have F32:=fun_mk (st:=s_law) l32 c32 k32
 obtain⟨t,e2⟩:=List.cons.inj e2
 obtain⟨f16,od16,an16,sl16,oc16,kV16,dc16,pm16,cd16,ct16,a16,n16,l16,c16,k16⟩:=mSee_ok nC2 t
 have F16:=fun_mk (st:=s_Fronted___init__) l16 c16 k16
 obtain⟨t,e2⟩:=List.cons.inj e2
 obtain⟨f17,od17,an17,sl17,oc17,kV17,dc17,pm17,cd17,ct17,a17,n17,l17,c17,k17⟩:=mSee_ok nC2 t
 have F17:=fun_mk (st:=s_Fronted_shows) l17 c17 k17
 obtain⟨t,e2⟩:=List.cons.inj e2
 obtain⟨f18,od18,an18,sl18,oc18,kV18,dc18,pm18,cd18,ct18,a18,n18,l18,c18,k18⟩:=mSee_ok nC3 t
 have F18:=fun_mk (st:=s_Ended___init__) l18 c18 k18
 obtain⟨t,e2⟩:=List.cons.inj e2
 obtain⟨f19,od19,an19,sl19,oc19,kV19,dc19,pm19,cd19,ct19,a19,n19,l19,c19,k19⟩:=mSee_ok nC3 t
 have F19:=fun_mk (st:=s_Ended_shows) l19 c19 k19
 have b1:=F1.binds (ps:=["value"]) fun _ _ _ _ _ _ us hl=>by obtain⟨_,rfl⟩:=ar1 hl;rfl
 have b2:=F2.binds (ps:=["thing","met"]) fun _ _ _ _ _ _ us hl=>by obtain⟨_,_,rfl⟩:=ar2 hl;rfl
 have b3:=F3.binds (ps:=["value"]) fun _ _ _ _ _ _ us hl=>by obtain⟨_,rfl⟩:=ar1 hl;rfl
 have b4:=F4.binds (ps:=["value"]) fun _ _ _ _ _ _ us hl=>by obtain⟨_,rfl⟩:=ar1 hl;rfl
 have b5:=F5.binds (ps:=["value"]) fun _ _ _ _ _ _ us hl=>by obtain⟨_,rfl⟩:=ar1 hl;rfl
 have b6:=F6.binds (ps:=["value"]) fun _ _ _ _ _ _ us hl=>by obtain⟨_,rfl⟩:=ar1 hl;rfl
 have b7:=F7.binds (ps:=["row"]) fun _ _ _ _ _ _ us hl=>by obtain⟨_,rfl⟩:=ar1 hl;rfl
 have b8:=F8.binds (ps:=["row"]) fun _ _ _ _ _ _ us hl=>by obtain⟨_,rfl⟩:=ar1 hl;rfl
 have b9:=F9.binds (ps:=["row"]) fun _ _ _ _ _ _ us hl=>by obtain⟨_,rfl⟩:=ar1 hl;rfl
 have b10:=F10.binds (ps:=["row","things"]) fun _ _ _ _ _ _ us hl=>by obtain⟨_,_,rfl⟩:=ar2 hl;rfl
 have b11:=F11.binds (ps:=["row","moves"]) fun _ _ _ _ _ _ us hl=>by obtain⟨_,_,rfl⟩:=ar2 hl;rfl
 have b12:=F12.binds (ps:=["told"]) fun _ _ _ _ _ _ us hl=>by obtain⟨_,rfl⟩:=ar1 hl;rfl
 have b13:=F13.binds (ps:=["many","things"]) fun _ _ _ _ _ _ us hl=>by obtain⟨_,_,rfl⟩:=ar2 hl;rfl
 have b14:=F14.binds (ps:=["row","things"]) fun _ _ _ _ _ _ us hl=>by obtain⟨_,_,rfl⟩:=ar2 hl;rfl
 have b15:=F15.binds (ps:=["many","moves"]) fun _ _ _ _ _ _ us hl=>by obtain⟨_,_,rfl⟩:=ar2 hl;rfl
 have b16:=F16.binds (ps:=["self","things"]) fun _ _ _ _ _ _ us hl=>by obtain⟨_,_,rfl⟩:=ar2 hl;rfl
 have b17:=F17.binds (ps:=["self","row"]) fun _ _ _ _ _ _ us hl=>by obtain⟨_,_,rfl⟩:=ar2 hl;rfl
 have b18:=F18.binds (ps:=["self","moves"]) fun _ _ _ _ _ _ us hl=>by obtain⟨_,_,rfl⟩:=ar2 hl;rfl
 have b19:=F19.binds (ps:=["self","row"]) fun _ _ _ _ _ _ us hl=>by obtain⟨_,_,rfl⟩:=ar2 hl;rfl
 have b20:=F20.binds (ps:=["row"]) fun _ _ _ _ _ _ us hl=>by obtain⟨_,rfl⟩:=ar1 hl;rfl
 have b21:=F21.binds (ps:=["row"]) fun _ _ _ _ _ _ us hl=>by obtain⟨_,rfl⟩:=ar1 hl;rfl
 have b22:=F22.binds (ps:=["_law_script","_law_k"]) fun _ _ _ _ _ _ us hl=>by obtain⟨_,_,rfl⟩:=ar2 hl;rfl
 have b23:=F23.binds (ps:=["_law_cell","_law_k","_law_many"]) fun _ _ _ _ _ _ us hl=>by obtain⟨_,_,_,rfl⟩:=ar3 hl;rfl
 have b24:=F24.binds (ps:=["_law_script"]) fun _ _ _ _ _ _ us hl=>by obtain⟨_,rfl⟩:=ar1 hl;rfl
 have b25:=F25.binds (ps:=["_law_found"]) fun _ _ _ _ _ _ us hl=>by obtain⟨_,rfl⟩:=ar1 hl;rfl
 have b26:=F26.binds (ps:=["_law_found"]) fun _ _ _ _ _ _ us hl=>by obtain⟨_,rfl⟩:=ar1 hl;rfl
 have b27:=F27.binds (ps:=["_law_row_here","_law_things"]) fun _ _ _ _ _ _ us hl=>by obtain⟨_,_,rfl⟩:=ar2 hl;rfl
 have b28:=F28.binds (ps:=["_law_row_here","_law_things"]) fun _ _ _ _ _ _ us hl=>by obtain⟨_,_,rfl⟩:=ar2 hl;rfl
 have b29:=F29.binds (ps:=["_law_row_here","_law_moves"]) fun _ _ _ _ _ _ us hl=>by obtain⟨_,_,rfl⟩:=ar2 hl;rfl
 have b30:=F30.binds (ps:=["_law_row_here"]) fun _ _ _ _ _ _ us hl=>by obtain⟨_,rfl⟩:=ar1 hl;rfl
 have b31:=F31.binds (ps:=["_law_row_here","_law_moves"]) fun _ _ _ _ _ _ us hl=>by obtain⟨_,_,rfl⟩:=ar2 hl;rfl
 have e:=hfa.symm.trans (PySem.W.mg_of X G a32)
 cases e
 refine⟨clOf K ["Answer","Exchanged","Fronted","Ended","Put"],PySem.W.fnOf "law" "law" (defArgs s_law) (defBody s_law) (defScope s_law) .none kV32 dc32 pm32 an32 cd32 ct32,fun s v=> .of_eq rfl,fun base _ _=> ?_⟩
 have zs:∀x∈BLT,mg x=none:=fun x hx=>PySem.W.mg_none_of X G (bSee_ok (List.all_eq_true.mp e4 x hx))
 have gs:∀(x:Str) (i:Int),List.lookup x ([]:List (Str×Int))=some i→∃t,mg x=some (.int i t):=fun x i h=>by
  cases h
 have co:∀(x:Str) (j:Nat),List.lookup x ([("Answer",0),("Exchanged",1),("Fronted",2),("Ended",3),("Put",4)]:List (Str×Nat))=some j→∃J,clOf K ["Answer","Exchanged","Fronted","Ended","Put"] j=some J∧mg x=some (.ref J):=fun x j h=>by
  rw [List.lookup_cons]at h
  split at h
  ·rename_i q
   have q:x="Answer":=by simpa using q
   subst q
   cases h
   exact⟨_,hC0,PySem.W.mg_of X G nC0⟩
  rw [List.lookup_cons]at h
  split at h
  ·rename_i q
   have q:x="Exchanged":=by simpa using q
   subst q
   cases h
   exact⟨_,hC1,PySem.W.mg_of X G nC1⟩
  rw [List.lookup_cons]at h
  split at h
  ·rename_i q
   have q:x="Fronted":=by simpa using q
   subst q
   cases h
   exact⟨_,hC2,PySem.W.mg_of X G nC2⟩
  rw [List.lookup_cons]at h
  split at h
  ·rename_i q
   have q:x="Ended":=by simpa using q
   subst q
   cases h
   exact⟨_,hC3,PySem.W.mg_of X G nC3⟩
  rw [List.lookup_cons]at h
  split at h
  ·rename_i q
   have q:x="Put":=by simpa using q
   subst q
   cases h
   exact⟨_,hC4,PySem.W.mg_of X G nC4⟩
  cases h
 have L0:Lw l.prog w K mg base (clOf K ["Answer","Exchanged","Fronted","Ended","Put"]) ⟨⟨[],[],[("Answer",0),("Exchanged",1),("Fronted",2),("Ended",3),("Put",4)]⟩,[]⟩ Γ0 Δ0 0:=Lw.start zs gs hcl co
 have L1:=L0.join (x:="is_whole") (f:=0) (g:=g_is_whole) (by decide) rfl (L0.run (m:=100) F1 sc_is_whole lo_is_whole cc_is_whole) (PySem.W.mg_of X G a1) k1 b1
 have L2:=L1.joinIO (x:="first_met") (f:=100) (j:=1) (g:=g_first_met) rfl (L1.runIO (m:=100) F2 sc_first_met lo_first_met cc_first_met) (PySem.W.mg_of X G a2) k2 b2
 have L3:=L2.join (x:="is_row") (f:=1) (g:=g_is_row) (by decide) rfl (L2.run (m:=100) F3 sc_is_row lo_is_row cc_is_row) (PySem.W.mg_of X G a3) k3 b3
 have L4:=L3.join (x:="need_row") (f:=2) (g:=g_need_row) (by decide) rfl (L3.run (m:=100) F4 sc_need_row lo_need_row cc_need_row) (PySem.W.mg_of X G a4) k4 b4
 have L5:=L4.join (x:="is_pair") (f:=5) (g:=g_is_pair) (by decide) rfl (L4.run (m:=100) F5 sc_is_pair lo_is_pair cc_is_pair) (PySem.W.mg_of X G a5) k5 b5
 have L6:=L5.join (x:="are_pairs") (f:=6) (g:=g_are_pairs) (by decide) rfl (L5.run (m:=100) F6 sc_are_pairs lo_are_pairs cc_are_pairs) (PySem.W.mg_of X G a6) k6 b6
 have L7:=L6.join (x:="back_of") (f:=8) (g:=g_back_of) (by decide) rfl (L6.run (m:=100) F7 sc_back_of lo_back_of cc_back_of) (PySem.W.mg_of X G a7) k7 b7
 have L8:=L7.join (x:="run_lengths") (f:=12) (g:=g_run_lengths) (by decide) rfl (L7.run (m:=100) F8 sc_run_lengths lo_run_lengths cc_run_lengths) (PySem.W.mg_of X G a8) k8 b8
 have L9:=L8.join (x:="is_in_order") (f:=21) (g:=g_is_in_order) (by decide) rfl (L8.run (m:=100) F9 sc_is_in_order lo_is_in_order cc_is_in_order) (PySem.W.mg_of X G a9) k9 b9
 have L10:=L9.join (x:="after_fronting") (f:=23) (g:=g_after_fronting) (by decide) rfl (L9.run (m:=100) F10 sc_after_fronting lo_after_fronting cc_after_fronting) (PySem.W.mg_of X G a10) k10 b10
 have L11:=L10.join (x:="after_ending") (f:=24) (g:=g_after_ending) (by decide) rfl (L10.run (m:=100) F11 sc_after_ending lo_after_ending cc_after_ending) (PySem.W.mg_of X G a11) k11 b11
 have L12:=L11.join (x:="copied") (f:=28) (g:=g_copied) (by decide) rfl (L11.run (m:=100) F12 sc_copied lo_copied cc_copied) (PySem.W.mg_of X G a12) k12 b12
 have L13:=L12.join (x:="are_different_things") (f:=31) (g:=g_are_different_things) (by decide) rfl (L12.run (m:=100) F13 sc_are_different_things lo_are_different_things cc_are_different_things) (PySem.W.mg_of X G a13) k13 b13
 have L14:=L13.join (x:="are_needed") (f:=32) (g:=g_are_needed) (by decide) rfl (L13.run (m:=100) F14 sc_are_needed lo_are_needed cc_are_needed) (PySem.W.mg_of X G a14) k14 b14
 have L15:=L14.join (x:="are_moves_to_ends") (f:=33) (g:=g_are_moves_to_ends) (by decide) rfl (L14.run (m:=100) F15 sc_are_moves_to_ends lo_are_moves_to_ends cc_are_moves_to_ends) (PySem.W.mg_of X G a15) k15 b15
 have L16:=L15.joinC (x:="Fronted") (f:=82) (g:=g_Fronted___init__) (by decide) rfl ⟨mk2,a16,n16,kp2⟩ (L15.runC (m:=100) hC2 F16 sc_Fronted___init__ lo_Fronted___init__ cc_Fronted___init__ (by decide)) (PySem.W.mg_of X G nC2) b16
 have L17:=L16.joinM (m:="shows") (i:=0) (d:=2) (g:=g_Fronted_shows) rfl rfl hC2 ⟨a17,n17,k17⟩ (L16.run (m:=100) F17 sc_Fronted_shows lo_Fronted_shows cc_Fronted_shows) b17
 have L18:=L17.joinC (x:="Ended") (f:=83) (g:=g_Ended___init__) (by decide) rfl ⟨mk3,a18,n18,kp3⟩ (L17.runC (m:=100) hC3 F18 sc_Ended___init__ lo_Ended___init__ cc_Ended___init__ (by decide)) (PySem.W.mg_of X G nC3) b18
 have L19:=L18.joinM (m:="shows") (i:=0) (d:=3) (g:=g_Ended_shows) rfl rfl hC3 ⟨a19,n19,k19⟩ (L18.run (m:=100) F19 sc_Ended_shows lo_Ended_shows cc_Ended_shows) b19
 have L20:=L19.join (x:="fronted") (f:=37) (g:=g_fronted) (by decide) rfl (L19.run (m:=100) F20 sc_fronted lo_fronted cc_fronted) (PySem.W.mg_of X G a20) k20 b20
 have L21:=L20.join (x:="ended") (f:=38) (g:=g_ended) (by decide) rfl (L20.run (m:=100) F21 sc_ended lo_ended cc_ended) (PySem.W.mg_of X G a21) k21 b21
 have L22:=L21.join (x:="_law_cell_at") (f:=50) (g:=g__law_cell_at) (by decide) rfl (L21.run (m:=100) F22 sc__law_cell_at lo__law_cell_at cc__law_cell_at) (PySem.W.mg_of X G a22) k22 b22
 have L23:=L22.join (x:="_law_draw") (f:=51) (g:=g__law_draw) (by decide) rfl (L22.run (m:=100) F23 sc__law_draw lo__law_draw cc__law_draw) (PySem.W.mg_of X G a23) k23 b23
 have L24:=L23.join (x:="_law_row") (f:=52) (g:=g__law_row) (by decide) rfl (L23.run (m:=100) F24 sc__law_row lo__law_row cc__law_row) (PySem.W.mg_of X G a24) k24 b24
 have L25:=L24.join (x:="_law_numbers") (f:=53) (g:=g__law_numbers) (by decide) rfl (L24.run (m:=100) F25 sc__law_numbers lo__law_numbers cc__law_numbers) (PySem.W.mg_of X G a25) k25 b25
 have L26:=L25.join (x:="_law_pairs") (f:=54) (g:=g__law_pairs) (by decide) rfl (L25.run (m:=100) F26 sc__law_pairs lo__law_pairs cc__law_pairs) (PySem.W.mg_of X G a26) k26 b26
 have L27:=L26.join (x:="_law_fronted") (f:=61) (g:=g__law_fronted) (by decide) rfl (L26.run (m:=100) F27 sc__law_fronted lo__law_fronted cc__law_fronted) (PySem.W.mg_of X G a27) k27 b27
 have L28:=L27.join (x:="_law_front_due") (f:=62) (g:=g__law_front_due) (by decide) rfl (L27.run (m:=100) F28 sc__law_front_due lo__law_front_due cc__law_front_due) (PySem.W.mg_of X G a28) k28 b28
 have L29:=L28.join (x:="_law_ended") (f:=63) (g:=g__law_ended) (by decide) rfl (L28.run (m:=100) F29 sc__law_ended lo__law_ended cc__law_ended) (PySem.W.mg_of X G a29) k29 b29
 have L30:=L29.join (x:="_law_run") (f:=64) (g:=g__law_run) (by decide) rfl (L29.run (m:=100) F30 sc__law_run lo__law_run cc__law_run) (PySem.W.mg_of X G a30) k30 b30
 have L31:=L30.join (x:="_law_end_due") (f:=65) (g:=g__law_end_due) (by decide) rfl (L30.run (m:=100) F31 sc__law_end_due lo__law_end_due cc__law_end_due) (PySem.W.mg_of X G a31) k31 b31
 exact L31.run (m:=100) F32 sc_law lo_law cc_law
end MI
end
namespace MI
open PySem PySem.W PyProof.Rows L2
noncomputable def lNames:List Str:=(["OrderError","BadRow","is_whole","first_met","is_row","need_row","are_parts","are_whole_parts","is_pair","are_pairs","Marks","back_of","run_lengths","is_in_order","after_exchanges","after_fronting"]:List Str)++(["after_ending","stand_rising","marked_things","put_brings_order","set_ring","row_of","copied","are_rings_of","are_exchanges","are_different_things","are_needed","are_moves_to_ends","falls_in_turn","are_falls_of","Answer","Exchanged"]:List Str)++(["Fronted","Ended","Put","fronted","ended","_law_cell_at","_law_draw","_law_row","_law_numbers","_law_pairs","_law_fronted","_law_front_due","_law_ended","_law_run","_law_end_due"]:List Str)
theorem left:LeftO PySem.Challenge.pw_backorder_k02_whole_to_the_ends (view PySem.Challenge.pw_backorder_k02_whole_to_the_ends [56]) lNames (fun s=>xlAt (view PySem.Challenge.pw_backorder_k02_whole_to_the_ends [56]) [] s&&recOk (RowW.records PySem.Challenge.rw_backorder_k02_whole_to_the_ends.row.toRowW) s) (lHook lQ lDue).obs (lHook lQ lDue).val 8000:=left_tree (look_T lQ lDue) (by kernel_rfl) (by decide) (fun s=>by kernel_rfl) fun w os=>by kernel_rfl
end MI
open PySem PySem.W PyProof.Rows
set_option maxHeartbeats 0 in
theorem PySem.Challenge.cw_backorder_k02_whole_to_the_ends_holds : PySem.Challenge.rw_backorder_k02_whole_to_the_ends.Holds := by
  refine holds_law (by kernel_rfl) fun said => ?_
  refine holds_open (q := view PySem.Challenge.pw_backorder_k02_whole_to_the_ends [56]) (loose := MI.lNames) (XP := XL (view PySem.Challenge.pw_backorder_k02_whole_to_the_ends [56]) []) (YP := (MI.lHook MI.lQ MI.lDue).says) MI.left (MI.lHook MI.lQ MI.lDue).of (MI.lHook MI.lQ MI.lDue).keeps (fun s e => xl_of s (Bool.and_eq_true_iff.mp e).1) XL.keeps (by rfl) (by rfl) (by rfl) (fun s e => recFacts_of (Bool.and_eq_true_iff.mp e).2) (by rfl) (by first | assumption | decide +kernel) (by decide +kernel) ⟨rfl, rfl, rfl, rfl, rfl, by decide +kernel⟩ ?hw ?hc
  case hw => w_witness2
  case hc => exact MI.walkL (l := PySem.Challenge.rw_backorder_k02_whole_to_the_ends) (n := 63) (k := 34) (x := "_law_script") (g := MI.g_law) rfl (by decide) rfl ⟨rfl, by decide, by decide⟩ (fun w mg fa K h KX G hmg e => MI.facts KX G hmg e) MI.law_ok
#print axioms PySem.Challenge.cw_backorder_k02_whole_to_the_ends_holds
