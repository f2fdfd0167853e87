import PyProof.Rows.All
import Wide.All
import OpenK.AllK
import Wide.FinOn
import Lean
import PyProof.EqAt
import PyProof.EqKinds
import PyProof.TupleCall
import PyProof.NeKinds
import PyProof.ListStr
import PyProof.Rows.SortStr
import KE.KIntText
import PySem.Challenge.RW_trickproof_k44_too_many_for_papers
set_option Elab.async false
set_option linter.all false
set_option maxRecDepth 100000
namespace L2
open PySem PySem.Spec PyProof.Rows
abbrev Key:=Sum Int Str
def keyIs:Key→Value→Bool
 | .inl k,v=>Value.isInt k v
 | .inr x,v=>Value.isStrOf x v
def keyH(w:World):Key→Int
 | .inl k=>hashInt k
 | .inr x=>hashStr w x
theorem keyIs_shape:∀{k:Key} {v:Value},keyIs k v=true→(∃ i t,k=Sum.inl i∧v=Value.int i t)∨(∃ x t,k=Sum.inr x∧v=Value.str x t)
 | .inl i,v,h=>by
  obtain⟨t,e⟩:=Value.isInt_shape (k:=i) (v:=v) h
  exact .inl ⟨i,t,rfl,e⟩
 | .inr x,v,h=>by
  obtain⟨t,e⟩:=Value.isStrOf_shape (x:=x) (v:=v) h
  exact .inr ⟨x,t,rfl,e⟩
theorem keyIs_int(i:Int)(t:Tok):keyIs (.inl i) (.int i t)=true:=by simp [keyIs,Value.isInt]
theorem keyIs_str(x:Str)(t:Tok):keyIs (.inr x) (.str x t)=true:=by simp [keyIs,Value.isStrOf]
theorem key_ll(a b:Int):decide ((Sum.inl a:Key)=Sum.inl b)=(a == b):=by
 by_cases e:a=b
 ·subst e;simp
 ·have h:¬ (Sum.inl a:Key)=Sum.inl b:=fun q=>e (Sum.inl.inj q)
  rw[decide_eq_false h]
  exact(beq_eq_false_iff_ne.mpr e).symm
theorem key_rr(a b:Str):decide ((Sum.inr a:Key)=Sum.inr b)=decide (a=b):=by
 by_cases e:a=b
 ·subst e;simp
 ·have h:¬ (Sum.inr a:Key)=Sum.inr b:=fun q=>e (Sum.inr.inj q)
  rw[decide_eq_false h,decide_eq_false e]
theorem key_lr(a:Int)(b:Str):decide ((Sum.inl a:Key)=Sum.inr b)=false:=decide_eq_false (fun q=>nomatch q)
theorem key_rl(a:Str)(b:Int):decide ((Sum.inr a:Key)=Sum.inl b)=false:=decide_eq_false (fun q=>nomatch q)
def mixKind(prog:Program)(w:World):PySem.KeyKind prog w Key where
 is:=keyIs
 hash:=keyH w
 inj:=fun v a b ha hb=>by
  rcases keyIs_shape ha with⟨i,t,rfl,rfl⟩ | ⟨x,t,rfl,rfl⟩
  ·rcases keyIs_shape hb with⟨j,u,rfl,e⟩ | ⟨y,u,rfl,e⟩
   ·injection e with e1 _;rw[e1]
   ·exact nomatch e
  ·rcases keyIs_shape hb with⟨j,u,rfl,e⟩ | ⟨y,u,rfl,e⟩
   ·exact nomatch e
   ·injection e with e1 _;rw[e1]
 byValue:=fun k v h=>by
  rcases keyIs_shape h with⟨i,t,rfl,rfl⟩ | ⟨x,t,rfl,rfl⟩<;>rfl
 pyHash:=fun hv h=>by
  rcases keyIs_shape hv with⟨i,t,rfl,rfl⟩ | ⟨x,t,rfl,rfl⟩
  ·exact wpAny_pyHash_int h
  ·exact wpAny_pyHash_str h
 eqBool:=fun hu hv h=>by
  rcases keyIs_shape hu with⟨i,t,rfl,rfl⟩ | ⟨x,t,rfl,rfl⟩
  ·rcases keyIs_shape hv with⟨j,u,rfl,rfl⟩ | ⟨y,u,rfl,rfl⟩
   ·rw[key_ll] at h;exact wpAny_eqBool_int h
   ·rw[key_lr] at h;exact SeqAt.EqAt.int_str i t y u _ _ _ _ h
  ·rcases keyIs_shape hv with⟨j,u,rfl,rfl⟩ | ⟨y,u,rfl,rfl⟩
   ·rw[key_rl] at h;exact SeqAt.EqAt.str_int x t j u _ _ _ _ h
   ·rw[key_rr] at h;exact wpAny_eqBool_str h
 «strs»:=fun k x t v h=>by
  rcases keyIs_shape h with⟨i,u,rfl,e⟩ | ⟨y,u,rfl,e⟩
  ·exact nomatch e
  ·injection e with e1 _
   subst e1
   cases v<;>rfl
theorem mixKind_int(prog:Program)(w:World)(i:Int)(t:Tok):(mixKind prog w).is (.inl i) (.int i t)=true:=keyIs_int i t
theorem mixKind_str(prog:Program)(w:World)(x:Str)(t:Tok):(mixKind prog w).is (.inr x) (.str x t)=true:=keyIs_str x t
end L2
namespace L2
open PySem PySem.Spec PyProof.Rows
inductive V where
 | non | bl (b:Bool) | int (i:Int) | str (x:Str) | byt (b:Array UInt8) | flt (b:UInt64) | ref (a:Addr) | ty (n:String)
 deriving DecidableEq
def RelV:V→Value→Prop
 | .non,u=>u=Value.none
 | .bl b,u=>u=Value.bool b
 | .int i,u=>∃ t,u=Value.int i t
 | .str x,u=>∃ t,u=Value.str x t
 | .byt b,u=>∃ t,u=Value.bytes b t
 | .flt b,u=>∃ t,u=Value.float b t
 | .ref a,u=>u=Value.ref a
 | .ty n,u=>u=Value.type n
abbrev Vals:List V→List Value→Prop:=Paired RelV
theorem Vals.length{xs:List V}{us:List Value}(r:Vals xs us):xs.length=us.length:=Paired.length r
theorem Vals.get:∀{xs:List V} {us:List Value} {i:Nat} {x:V},Vals xs us→xs[i]? = some x→∃ u,us[i]? = some u∧RelV x u
 | _,_,_,_,.nil,e=>by simp at e
 | _,_,0,_,.cons r _,e=>by simp at e;subst e;exact⟨_,rfl,r⟩
 | _,_,i+1,x,.cons _ t,e=>by
  obtain⟨u,h1,h2⟩:=Vals.get (i:=i) (x:=x) t (by simpa using e)
  exact⟨u,by simpa using h1,h2⟩
theorem Vals.set{x:V}{u:Value}(r:RelV x u):∀{xs:List V} {us:List Value} (i:Nat),Vals xs us→Vals (xs.set i x) (us.set i u)
 | _,_,_,.nil=>.nil
 | _,_,0,.cons _ t=>.cons r t
 | _,_,i+1,.cons q t=>.cons q (Vals.set r i t)
theorem Vals.append:∀{xs ys:List V} {us ws:List Value},Vals xs us→Vals ys ws→Vals (xs++ys) (us++ws)
 | _,_,_,_,.nil,s=>s
 | _,_,_,_,.cons r t,s=>.cons r (Vals.append t s)
theorem Vals.take:∀{xs:List V} {us:List Value} (n:Nat),Vals xs us→Vals (xs.take n) (us.take n)
 | _,_,0,_=>.nil
 | _,_,_+1,.nil=>.nil
 | _,_,n+1,.cons r t=>.cons r (Vals.take n t)
theorem Vals.drop:∀{xs:List V} {us:List Value} (n:Nat),Vals xs us→Vals (xs.drop n) (us.drop n)
 | _,_,0,r=>r
 | _,_,_+1,.nil=>.nil
 | _,_,n+1,.cons _ t=>Vals.drop n t
def RelO:Option V→Option Value→Prop
 | some v,some u=>RelV v u
 | none,none=>True
 | _,_=>False
def KV{κ:Type}:List (κ×V)→List (κ×Value)→Prop:=Paired fun(p:κ×V) (q:κ×Value)=>p.1=q.1∧RelV p.2 q.2
def kV:Key→V
 | .inl i=>.int i
 | .inr x=>.str x
inductive HO where
 | lst (xs:List V)
 | tup (xs:List V)
 | dK (kvs:List (Key×V)) | dT (kvs:List (List Key×V))
 | set (S:Int→Bool) (n:Nat)
 | ins (C dx:Addr) (fs:List (Str×V))
 | own (x:Addr)
 | xd (fs:List (Str×V))
 | met (f x:Addr)
 | rng (lo hi:Int)
 | frz (o:Obj) (u:HO)
 | tbl (ps:Array Value)
 | ext (φ:Heap→Prop)
abbrev Hp:=Addr→Option HO
def upd(H:Hp)(a:Addr)(o:HO):Hp:=fun b=>if b=a then some o else H b
theorem upd_same{H:Hp}{a:Addr}{o:HO}:upd H a o a=some o:=by unfold upd;rw[if_pos rfl]
theorem upd_ne{H:Hp}{a b:Addr}{o:HO}(h:b≠a):upd H a o b=H b:=by unfold upd;rw[if_neg h]
theorem upd_upd{H:Hp}{a:Addr}{o u:HO}:upd (upd H a o) a u=upd H a u:=by
 funext b;unfold upd;split<;>rfl
theorem ne_of{H:Hp}{a b:Addr}{o u:HO}(h:H a=some o)(h':H b=some u)(d:o≠u):a≠b:=by
 intro e;subst e;rw[h] at h';exact d (Option.some.inj h')
theorem ne_of_none{H:Hp}{a b:Addr}{o:HO}(h:H a=some o)(h':H b=none):a≠b:=by
 intro e;subst e;rw[h] at h';cases h'
section
variable(P:Program)(w:World)
def ObjOk(H:Hp)(h:Heap)(a:Addr):HO→Prop
 | .lst xs=>xs.length≤sizeLine∧∃(its:List Value) (n:Nat),Vals xs its∧h.get? a=some { cls:=.type "list",data:=.seq its.toArray n }
 | .tup xs=>xs.length≤sizeLine∧∃ its:List Value,Vals xs its∧IsTup h a its.toArray
 | .dK kvs=>kvs.length≤sizeLine∧(a == sysModules)=false∧∃ vs,KV kvs vs∧h.DictOf (mixKind P w) a vs
 | .dT kvs=>kvs.length≤sizeLine∧(a == sysModules)=false∧∃ xs:List (List Key×Addr×Value),
   Paired (fun(p:List Key×V) (q:List Key×Addr×Value)=>p.1=q.1∧H q.2.1=some (.tup (p.1.map kV))∧RelV p.2 q.2.2) kvs xs ∧
   ∃ o es ep,h.get? a=some o∧o.ExactDict∧o.data = .dict es ep∧es.toList=xs.map (entryOfKey (tupleKind (mixKind P w)))∧(xs.map (·.1)).Nodup
 | .set S n=>h.SetOf (intKind P w) a S n
 | .ins C dx fs=>H dx=some (.own a)∧fs.length≤1000∧dx≠a∧h.get? a=some (PySem.W.instObj C dx) ∧
   ∃ mA,h.Ns1 dx mA∧(∀ f,RelO (fs.lookup f) (mA f))∧PySem.Within mA (fs.map (·.1))
 | .own _=>∃ o,h.get? a=some o
 | .xd fs=>∃ mA,h.Ns1 a mA∧∀ f,RelO (fs.lookup f) (mA f)
 | .rng lo hi=>∃ t u v,h.get? a=some { cls:=.type "range",data:=.fields #[.int lo t,.int hi u,.int 1 v] }
 | .frz o u=>h.get? a=some o∧ObjOk H h a u
 | .tbl ps=>h.get? a=some { cls:=.none,data:=.fields ps }
 | .met f x=>h.get? a=some (PySem.W.methodObj (.ref f) (.ref x))
 | .ext φ=>φ h∧(∃ o,h.get? a=some o)∧∀ h1 h2:Heap,φ h1→(∀ o,h1.get? a=some o→h2.get? a=some o)→φ h2
def HOk(H:Hp)(h:Heap):Prop:=∀ a o,H a=some o→ObjOk P w H h a o
end
section
variable{P:Program}{w:World}{H H':Hp}{h h':Heap}{a:Addr}{o:HO}
theorem ObjOk.lt(x:ObjOk P w H h a o):a < h.objs.size:=by
 cases o with
 | lst xs=>obtain⟨_,_,_,_,e⟩:=x;exact Heap.lt_size e
 | tup xs=>obtain⟨_,_,_,p⟩:=x;exact p.lt
 | dK kvs=>obtain⟨_,_,_,_,o,_,_,e,_⟩:=x;exact Heap.lt_size e
 | dT kvs=>obtain⟨_,_,_,_,o,_,_,e,_⟩:=x;exact Heap.lt_size e
 | set S n=>obtain⟨o,_,_,_,e,_⟩:=x;exact Heap.lt_size e
 | ins C dx fs=>obtain⟨_,_,_,e,_⟩:=x;exact Heap.lt_size e
 | own y=>obtain⟨_,e⟩:=x;exact Heap.lt_size e
 | xd fs=>obtain⟨_,⟨_,_,_,e,_⟩,_⟩:=x;exact Heap.lt_size e
 | rng lo hi=>obtain⟨_,_,_,e⟩:=x;exact Heap.lt_size e
 | frz ob u=>obtain⟨e,_⟩:=x;exact Heap.lt_size e
 | tbl ps=>exact Heap.lt_size (show h.get? a=some _ from x)
 | met f y=>exact Heap.lt_size (show h.get? a=some _ from x)
 | ext φ=>obtain⟨_,⟨_,e⟩,_⟩:=x;exact Heap.lt_size e
theorem Paired.mapP{α β:Type}{F G:α→β→Prop}:∀{l₁:List α} {l₂:List β},Paired F l₁ l₂→(∀ a b,F a b→G a b)→Paired G l₁ l₂
 | _,_,.nil,_=>.nil
 | _,_,.cons r t,f=>.cons (f _ _ r) (Paired.mapP t f)
theorem ObjOk.stay(x:ObjOk P w H h a o)(k:∀ b u,(b=a∨H b=some (.own a))→h.get? b=some u→h'.get? b=some u)
  (ho:∀ b,H b=some (.own a)→H' b=some (.own a)) (ht:∀ b xs,H b=some (.tup xs)→H' b=some (.tup xs)):ObjOk P w H' h' a o:=by
 induction o with
 | lst xs=>obtain⟨z,its,n,r,e⟩:=x;exact⟨z,its,n,r,k _ _ (.inl rfl) e⟩
 | tup xs=>obtain⟨z,its,r,ob,e,c⟩:=x;exact⟨z,its,r,ob,k _ _ (.inl rfl) e,c⟩
 | dK kvs=>obtain⟨z,y,vs,r,ob,es,ep,e,c⟩:=x;exact⟨z,y,vs,r,ob,es,ep,k _ _ (.inl rfl) e,c⟩
 | dT kvs=>
  obtain⟨z,y,xs,r,ob,es,ep,e,c⟩:=x
  exact⟨z,y,xs,Paired.mapP r fun p q z=>⟨z.1,ht _ _ z.2.1,z.2.2⟩,ob,es,ep,k _ _ (.inl rfl) e,c⟩
 | set S n=>obtain⟨ob,es,ep,t,e,c⟩:=x;exact⟨ob,es,ep,t,k _ _ (.inl rfl) e,c⟩
 | ins C dx fs=>
  obtain⟨d,z,ne,e,mA,⟨od,es,ep,e2,c⟩,r⟩:=x
  exact⟨ho _ d,z,ne,k _ _ (.inl rfl) e,mA,⟨od,es,ep,k _ _ (.inr d) e2,c⟩,r⟩
 | own y=>obtain⟨ob,e⟩:=x;exact⟨ob,k _ _ (.inl rfl) e⟩
 | xd fs=>obtain⟨mA,⟨od,es,ep,e,c⟩,r⟩:=x;exact⟨mA,⟨od,es,ep,k _ _ (.inl rfl) e,c⟩,r⟩
 | rng lo hi=>obtain⟨t,u,v,e⟩:=x;exact⟨t,u,v,k _ _ (.inl rfl) e⟩
 | frz ob u ih=>obtain⟨e,q⟩:=x;exact⟨k _ _ (.inl rfl) e,ih q⟩
 | tbl ps=>
  have e:h.get? a=some { cls:=.none,data:=.fields ps }:=x
  show h'.get? a=some { cls:=.none,data:=.fields ps }
  exact k a _ (.inl rfl) e
 | met f y=>
  have e:h.get? a=some (PySem.W.methodObj (.ref f) (.ref y)):=x
  show h'.get? a=some (PySem.W.methodObj (.ref f) (.ref y))
  exact k a _ (.inl rfl) e
 | ext φ=>obtain⟨p,⟨o,e⟩,st⟩:=x;exact⟨st _ _ p fun o q=>k _ _ (.inl rfl) q,⟨o,k _ _ (.inl rfl) e⟩,st⟩
theorem HOk.lt(x:HOk P w H h)(e:H a=some o):a < h.objs.size:=(x a o e).lt
theorem HOk.fresh(x:HOk P w H h)(e:h.objs.size≤a):H a=none:=by
 cases q:H a with
 | none=>rfl
 | some u=>exact absurd (Nat.lt_of_lt_of_le (x.lt q) e) (Nat.lt_irrefl _)
theorem HOk.kept(x:HOk P w H h)(k:∀ b u,h.get? b=some u→h'.get? b=some u):HOk P w H h':=fun a o e=>
 (x a o e).stay (fun b u _ q=>k b u q) (fun _ q=>q) fun _ _ q=>q
theorem HOk.laid(x:HOk P w H h)(k:∀ b u,h.get? b=some u→h'.get? b=some u)(hp:h.objs.size≤a)(new:ObjOk P w (upd H a o) h' a o):HOk P w (upd H a o) h':=fun b u e=>by
 have hn:=x.fresh hp
 by_cases hb:b=a
 ·subst hb;rw[upd_same] at e;cases e;exact new
 ·rw[upd_ne hb] at e
  exact(x b u e).stay (fun c v _ q=>k c v q) (fun c q=>by rw[upd_ne (ne_of_none q hn)];exact q) fun c xs q=>by rw[upd_ne (ne_of_none q hn)];exact q
end
def Rd(H:Hp)(a:Addr)(u:HO):Prop:=H a=some u∨∃ o,H a=some (.frz o u)
theorem Rd.ok{P:Program}{w:World}{H:Hp}{h:Heap}{a:Addr}{u:HO}(r:Rd H a u)(x:HOk P w H h):ObjOk P w H h a u:=by
 rcases r with r | ⟨o,r⟩
 ·exact x a u r
 ·obtain⟨_,q⟩:=x a _ r
  exact q
def Mut:Option HO→Prop
 | some (.lst _)=>True
 | some (.dK _)=>True
 | some (.dT _)=>True
 | some (.set _ _)=>True
 | some (.ins _ _ _)=>True
 | some (.ext _)=>True
 | _=>False
section
variable{P:Program}{w:World}{H:Hp}{h h':Heap}{x e:Addr}{o':HO}
theorem HOk.write(ok:HOk P w H h)(mu:Mut (H x))(he:e=x∨H e=some (.own x))(k:∀ b u,b≠e→h.get? b=some u→h'.get? b=some u)(heo:∃ u,h'.get? e=some u)
  (new:ObjOk P w (upd H x o') h' x o'):HOk P w (upd H x o') h':=fun b u q=>by
 have nown:∀ c y,H c=some (.own y)→c≠x:=fun c y r z=>by subst z;rw[r] at mu;exact mu
 have ntup:∀ c xs,H c=some (.tup xs)→c≠x:=fun c xs r z=>by subst z;rw[r] at mu;exact mu
 by_cases hb:b=x
 ·subst hb;rw[upd_same] at q;cases q;exact new
 ·rw[upd_ne hb] at q
  by_cases hbe:b=e
  ·have q':H b=some (.own x):=by
    rcases he with z | z
    ·exact absurd (hbe.trans z) hb
    ·rw[hbe];exact z
   rw[q] at q';cases q'
   obtain⟨v,hv⟩:=heo
   exact⟨v,by rw[hbe];exact hv⟩
  ·refine(ok b u q).stay (fun c v hc r=>k c v ?_ r) (fun c r=>by rw[upd_ne (nown c b r)];exact r) fun c xs r=>by rw[upd_ne (ntup c xs r)];exact r
   rcases hc with rfl | hc
   ·exact hbe
   ·rintro rfl
    rcases he with z | z
    ·exact nown c b hc z
    ·rw[hc] at z;cases z;exact hb rfl
end
structure Un(fs ex:List Addr)(H H':Hp)(h h':Heap):Prop where
 keep:∀ b o,h.get? b=some o→H b=none→b∉fs→b∉ex→h'.get? b=some o
 slot:∀ b o,h.get? b=some o→H b=none→b∈fs→b∉ex→∃ sl,h'.get? b=some { o with slots:=sl }
 free:∀ b o,h.get? b=some o→H b=none→b∉ex→H' b=none
 there:∀ b o,h.get? b=some o→b∉ex→∃ o',h'.get? b=some o'
 tups:∀ b xs,H b=some (.tup xs)→H' b=some (.tup xs)
 frzs:∀ b o u,H b=some (.frz o u)→H' b=some (.frz o u)
 tbls:∀ b ps,H b=some (.tbl ps)→∃ more,H' b=some (.tbl (ps++more))
section
variable{fs fs' ex ex':List Addr}{H H1 H2:Hp}{h h1 h2 h':Heap}{a x e:Addr}{o:HO}
theorem Un.any(u:Un fs ex H H1 h h1){b:Addr}{ob:Obj}(q:h.get? b=some ob)(n:H b=none)(hx:b∉ex):∃ sl,h1.get? b=some { ob with slots:=sl }:=by
 by_cases hb:b∈fs
 ·exact u.slot b ob q n hb hx
 ·exact⟨ob.slots,u.keep b ob q n hb hx⟩
theorem Un.kept(k:∀ b u,h.get? b=some u→h'.get? b=some u):Un fs ex H H h h':=
 ⟨fun b ob q _ _ _=>k b ob q,fun b ob q _ _ _=>⟨ob.slots,k b ob q⟩,fun _ _ _ n _=>n,fun b ob q _=>⟨ob,k b ob q⟩,fun _ _ q=>q,fun _ _ _ q=>q,fun _ ps q=>⟨#[],by rw[q];simp⟩⟩
theorem Un.refl:Un fs ex H H h h:=Un.kept fun _ _ q=>q
theorem Un.laid(k:∀ b u,h.get? b=some u→h'.get? b=some u)(hp:h.objs.size≤a)(hn:H a=none):Un fs ex H (upd H a o) h h' where
 keep:=fun b u q _ _ _=>k b u q
 slot:=fun b u q _ _ _=>⟨u.slots,k b u q⟩
 free:=fun b u q n _=>by rw[upd_ne (Nat.ne_of_lt (Nat.lt_of_lt_of_le (Heap.lt_size q) hp))];exact n
 there:=fun b u q _=>⟨u,k b u q⟩
 tups:=fun b xs q=>by rw[upd_ne (ne_of_none q hn)];exact q
 frzs:=fun b u xs q=>by rw[upd_ne (ne_of_none q hn)];exact q
 tbls:=fun b ps q=>⟨#[],by rw[upd_ne (ne_of_none q hn),q];simp⟩
theorem Un.write(mu:Mut (H x))(he:e=x∨H e=some (.own x))(k:∀ b u,b≠e→h.get? b=some u→h'.get? b=some u)(heo:∃ u,h'.get? e=some u):Un fs ex H (upd H x o) h h':=by
 have hx:∀ b,H b=none→b≠x:=fun b n z=>by subst z;rw[n] at mu;exact mu
 have hb:∀ b,H b=none→b≠e:=fun b n z=>by
  subst z
  rcases he with r | r
  ·exact hx b n r
  ·rw[n] at r;cases r
 have hm:∀ b u,H b=some u→¬ Mut (some u)→b≠x:=fun b u q nm z=>by subst z;rw[q] at mu;exact nm mu
 refine⟨fun b u q n _ _=>k b u (hb b n) q,fun b u q n _ _=>⟨u.slots,k b u (hb b n) q⟩,fun b u q n _=>by rw[upd_ne (hx b n)];exact n,fun b u q _=>?_,
  fun b xs q=>by rw[upd_ne (hm b _ q fun z=>z)];exact q,fun b u xs q=>by rw[upd_ne (hm b _ q fun z=>z)];exact q,fun b ps q=>⟨#[],by rw[upd_ne (hm b _ q fun z=>z),q];simp⟩⟩
 by_cases hbe:b=e
 ·subst hbe;exact heo
 ·exact⟨u,k b u hbe q⟩
end
def trk(h:Heap)(H:Hp):List Addr:=(List.range h.objs.size).filter fun a=>(H a).isSome
def hidT(h:Heap)(H:Hp):Heap:=PySem.W.hideAll h (trk h H)
theorem hidT_size(h:Heap)(H:Hp):(hidT h H).objs.size=h.objs.size:=PySem.W.hideAll_size _ _
theorem hidT_get{h:Heap}{H:Hp}{b:Addr}{o:Obj}(e:h.get? b=some o)(n:H b=none):(hidT h H).get? b=some o:=
 PySem.W.hideAll_get _ e fun hm=>by
  have q:(H b).isSome=true:=(List.mem_filter.mp hm).2
  rw[n] at q;simp at q
theorem of_hidT{h:Heap}{H:Hp}{b:Addr}{o:Obj}(e:(hidT h H).get? b=some o):h.get? b=some o∧H b=none:=by
 have e':h.get? b=some o:=PySem.W.of_hideAll (trk h H) e
 refine⟨e',?_⟩
 cases q:H b with
 | none=>rfl
 | some x=>
  have hm:b∈trk h H:=List.mem_filter.mpr ⟨List.mem_range.mpr (Heap.lt_size e'),by simp [q]⟩
  have z:(hidT h H).get? b=none:=PySem.W.hideAll_none (trk h H) hm
  rw[z] at e;cases e
def allNews(g h:Heap)(L:Addr):List (Addr×Obj):=(List.range h.objs.size).filterMap fun a=>if a=L∨(g.get? a).isSome=true then none else(h.get? a).map fun o=>(a,o)
def rest(g h:Heap)(L d:Addr):List (Addr×Obj):=(allNews g h L).filter fun p=>decide (p.1≠d)
end L2
namespace L2
open PySem PySem.Spec PyProof.Rows
structure Mod(K:PySem.W.Frag)(mg:Str→Option Value)(base:Heap):Prop where
 kin:K.In base
 glob:base.Ns mainGlobals mg
 blt:∃ mb,base.Ns builtinsNs mb∧∀ x:Str,x≠"__name__"→mb x=bootBuiltins x
 nolimit:base.NoLimit
structure Cx where
 prog:Program
 w:World
 K:PySem.W.Frag
 mg:Str→Option Value
 base:Heap
 A:Around
 N:List Str
 s₀:Shared
 H₀:Hp
 env:Env
 outer:List Env
 stack:List Env
 ex:List Addr
 fn:Str→Bool
 calm:Bool
 pn:List (Addr×Obj)
 xe:Value→Shared→Prop
def frs(l:List Env):List Addr:=l.filterMap (·.frame)
abbrev Cx.fs(X:Cx):List Addr:=frs X.outer
def Vis(sc:Scope)(x:Str):Prop:=sc.names.lookup x=some .local∨sc.names.lookup x=some .cell∨sc.names.lookup x=some .free
def Loc(sc:Scope)(x:Str):Prop:=sc.names.lookup x=some .local∨sc.names.lookup x=some .cell
def Look(env:Env)(h:Heap)(m:Str→Option Value)(x:Str)(u:Value):Prop:=
 (env.kindOf x=some .local∧m x=some u)∨((env.kindOf x=some .cell∨env.kindOf x=some .free)∧∃ c,env.cells.lookup x=some c∧h.IsCell c (some u))
structure Cx.Ok(X:Cx):Prop where
 mod:Mod X.K X.mg X.base
 kind:X.env.scope.kind = .function
 glob:X.env.globals=mainGlobals
 blt:X.env.builtins=builtinsNs
 above:X.s₀.heap.objs.size≤X.env.locals
 inj:∀ x y c,X.env.cells.lookup x=some c→X.env.cells.lookup y=some c→x=y
 has:∀ x,(X.env.kindOf x=some .cell∨X.env.kindOf x=some .free)→∃ c,X.env.cells.lookup x=some c
 cab:∀ x c,X.fn x=true→X.env.cells.lookup x=some c→X.s₀.heap.objs.size≤c
 hd:X.calm=true→X.A.handled=none
 frames:X.A.frames=some X.stack
 stk:X.stack=X.outer∨(X.stack=X.env :: X.outer∧X.env.frame=some X.env.locals)
 exf:∀ b∈X.ex,b≠X.env.locals∧∀ x c,X.env.cells.lookup x=some c→c≠b
 bs:∀ b o,X.base.get? b=some o→X.s₀.heap.get? b=some o∧X.H₀ b=none
 bsz:X.base.objs.size≤X.s₀.heap.objs.size
 noex:∀ b o,X.base.get? b=some o→b∉X.ex
 exfs:∀ b∈X.ex,b∉X.fs
 funs:X.s₀.heap.FunFrames X.base X.outer
 frf:∀ b∈X.fs,X.H₀ b=none
structure Inv(X:Cx)(pins:List (Addr×Obj))(σ:List (Option V))(H:Hp)(s:Shared):Prop where
 ok:X.Ok
 os:s.os=X.s₀.os
 bare:AllBare s.gens
 base:Un X.fs X.ex X.H₀ H X.s₀.heap s.heap
 loc:∃ m,s.heap.Ns X.env.locals m∧∀(i:Nat) (x:Str) (v:V),X.N[i]? = some x→σ[i]? = some (some v)→Vis X.env.scope x→∃ u,RelV v u∧Look X.env s.heap m x u
 cell:∀ x c,X.env.cells.lookup x=some c→∃ v,s.heap.IsCell c v
 free:H X.env.locals=none
 freeC:∀ x c,X.env.cells.lookup x=some c→H c=none
 pin:∀ p∈X.pn++pins,s.heap.get? p.1=some p.2∧H p.1=none∧p.1≠X.env.locals∧p.1∉X.fs∧∀ v,p.2.data ≠ .cell v
 hok:HOk X.prog X.w H s.heap
 len:σ.length=X.N.length
section
variable{X:Cx}{pins:List (Addr×Obj)}{σ:List (Option V)}{H H':Hp}{s:Shared}{h':Heap}
theorem Cx.Ok.nofr(ok:X.Ok){b:Addr}{o:Obj}(e:X.base.get? b=some o):b∉X.fs:=fun hb=>by
 have:=(ok.funs.mem hb).1
 rw[e] at this;cases this
theorem Inv.bs(I:Inv X pins σ H s):∀ b o,X.base.get? b=some o→s.heap.get? b=some o∧H b=none:=fun b o e=>
 ⟨I.base.keep b o (I.ok.bs b o e).1 (I.ok.bs b o e).2 (I.ok.nofr e) (I.ok.noex b o e),I.base.free b o (I.ok.bs b o e).1 (I.ok.bs b o e).2 (I.ok.noex b o e)⟩
theorem Inv.bk(I:Inv X pins σ H s):∀ b o,X.base.get? b=some o→s.heap.get? b=some o:=fun b o e=>(I.bs b o e).1
theorem Inv.mod(I:Inv X pins σ H s):Mod X.K X.mg X.base:=I.ok.mod
theorem Inv.kIn(I:Inv X pins σ H s):X.K.In s.heap:=I.ok.mod.kin.keeps I.bk
theorem Inv.lt(I:Inv X pins σ H s):X.env.locals < s.heap.objs.size:=let ⟨_,hn,_⟩:=I.loc;hn.lt
theorem Inv.sz(I:Inv X pins σ H s):X.s₀.heap.objs.size≤s.heap.objs.size:=Nat.le_trans I.ok.above (Nat.le_of_lt I.lt)
theorem Inv.nofs(I:Inv X pins σ H s){a:Addr}(h:s.heap.objs.size≤a):a∉X.fs:=fun hb=>by
 obtain⟨_,o,ho,_⟩:=I.ok.funs.mem hb
 exact absurd (Nat.lt_of_lt_of_le (Heap.lt_size ho) (Nat.le_trans I.sz h)) (Nat.lt_irrefl _)
theorem Inv.cne(I:Inv X pins σ H s):∀ x c,X.env.cells.lookup x=some c→c≠X.env.locals:=fun x c e z=>by
 obtain⟨v,o,ho,hd⟩:=I.cell x c e
 obtain⟨m,⟨o',es,ep,ho',hd',_⟩,_⟩:=I.loc
 rw[z,ho'] at ho;cases ho;rw[hd'] at hd;cases hd
theorem Inv.funs(I:Inv X pins σ H s):s.heap.FunFrames X.base X.outer:=by
 have all:∀(l:List Env),(∀ b∈frs l,b∈X.fs)→X.s₀.heap.FunFrames X.base l→s.heap.FunFrames X.base l:=by
  intro l
  induction l with
  | nil=>intro _ _;trivial
  | cons env r ih=>
   intro hs hl
   obtain⟨hk,⟨L,o,hf,hn,ho,hd⟩,hr⟩:=hl
   have hL:L∈X.fs:=hs L (by unfold frs;rw[List.filterMap_cons,hf];exact List.mem_cons_self)
   obtain⟨sl,e⟩:=I.base.slot L o ho (I.ok.frf L hL) hL fun z=>I.ok.exfs L z hL
   exact⟨hk,⟨L,_,hf,hn,e,hd⟩,ih (fun b hb=>hs b (by unfold frs;rw[List.filterMap_cons,hf];exact List.mem_cons_of_mem _ hb)) hr⟩
 exact all X.outer (fun _ hb=>hb) I.ok.funs
theorem Inv.stack(I:Inv X pins σ H s):s.heap.FunFrames X.base X.stack:=by
 rcases I.ok.stk with e | ⟨e,hf⟩
 ·rw[e];exact I.funs
 ·rw[e]
  obtain⟨m,hn,_⟩:=I.loc
  refine .cons (by rw[I.ok.kind];decide) hf hn ?_ I.funs
  exact Heap.get?_none_of_le (Nat.le_trans I.ok.bsz I.ok.above)
theorem Inv.stkSub(I:Inv X pins σ H s):∀ b∈frs X.stack,b∈X.env.locals :: X.fs:=fun b hb=>by
 rcases I.ok.stk with e | ⟨e,hf⟩
 ·rw[e] at hb;exact List.mem_cons_of_mem _ hb
 ·rw[e] at hb
  unfold frs at hb
  rw[List.filterMap_cons,hf] at hb
  exact hb
theorem Inv.stkFree(I:Inv X pins σ H s):∀ b∈frs X.stack,H b=none:=fun b hb=>by
 rcases List.mem_cons.mp (I.stkSub b hb) with e | hb
 ·rw[e];exact I.free
 ·obtain⟨_,o,ho,_⟩:=I.ok.funs.mem hb
  exact I.base.free b o ho (I.ok.frf b hb) fun z=>I.ok.exfs b z hb
theorem Inv.step{g':Array GenState}{t':Nat}{d':Drawn}{ch:List Addr}(I:Inv X pins σ H s)
  (hch:∀ b∈ch,(b∈X.ex∨X.s₀.heap.objs.size≤b)∧b≠X.env.locals∧(∀ x c,X.env.cells.lookup x=some c→c≠b)∧∀ p∈X.pn++pins,p.1≠b)
  (keep:∀ b o,b≠X.env.locals→b∉X.fs→b∉ch→s.heap.get? b=some o→H b=none→h'.get? b=some o)
  (slot:∀ b o,b≠X.env.locals→b∈X.fs→b∉ch→s.heap.get? b=some o→H b=none→∃ sl,h'.get? b=some { o with slots:=sl }) (free:∀ b o,b∉ch→s.heap.get? b=some o→H b=none→H' b=none)
  (there:∀ b o,b∉ch→s.heap.get? b=some o→∃ o',h'.get? b=some o')
  (tups:∀ b xs,H b=some (.tup xs)→H' b=some (.tup xs)) (frzs:∀ b o u,H b=some (.frz o u)→H' b=some (.frz o u)) (tbls:∀ b ps,H b=some (.tbl ps)→∃ more,H' b=some (.tbl (ps++more)))
  (ns:∀ m,s.heap.Ns X.env.locals m→h'.Ns X.env.locals m) (hok:HOk X.prog X.w H' h') (hg:AllBare g') :
  Inv X pins σ H' { s with heap:=h',gens:=g',drawn:=d',toks:=t' }:=by
 have neL:∀ b o,X.s₀.heap.get? b=some o→b≠X.env.locals:=fun b o e=>Nat.ne_of_lt (Nat.lt_of_lt_of_le (Heap.lt_size e) I.ok.above)
 have neC:∀ b o,X.s₀.heap.get? b=some o→b∉X.ex→b∉ch:=fun b o e hx hb=>by
  rcases(hch b hb).1 with z | z
  ·exact hx z
  ·exact absurd (Nat.lt_of_lt_of_le (Heap.lt_size e) z) (Nat.lt_irrefl _)
 have cellK:∀ x c,X.env.cells.lookup x=some c→∀ v,s.heap.IsCell c v→h'.IsCell c v:=fun x c e v ⟨o,ho,hd⟩=>by
  have nch:c∉ch:=fun z=>(hch c z).2.2.1 x c e rfl
  by_cases hc:c∈X.fs
  ·obtain⟨sl,q⟩:=slot c o (I.cne x c e) hc nch ho (I.freeC x c e)
   exact⟨_,q,hd⟩
  ·exact⟨o,keep c o (I.cne x c e) hc nch ho (I.freeC x c e),hd⟩
 refine⟨I.ok,I.os,hg,⟨fun b o e n hb hx=>?_,fun b o e n hb hx=>?_,fun b o e n hx=>?_,fun b o e hx=>?_,fun b xs e=>tups b xs (I.base.tups b xs e),fun b o xs e=>frzs b o xs (I.base.frzs b o xs e),fun b ps e=>?_⟩,?_,fun x c e=>?_,?_,fun x c e=>?_,fun p hp=>?_,hok,I.len⟩
 ·exact keep b o (neL b o e) hb (neC b o e hx) (I.base.keep b o e n hb hx) (I.base.free b o e n hx)
 ·obtain⟨sl,e1⟩:=I.base.slot b o e n hb hx
  obtain⟨sl',e2⟩:=slot b _ (neL b o e) hb (neC b o e hx) e1 (I.base.free b o e n hx)
  exact⟨sl',e2⟩
 ·obtain⟨o',e1⟩:=I.base.there b o e hx
  exact free b o' (neC b o e hx) e1 (I.base.free b o e n hx)
 ·obtain⟨o',e1⟩:=I.base.there b o e hx
  exact there b o' (neC b o e hx) e1
 ·obtain⟨m1,e1⟩:=I.base.tbls b ps e
  obtain⟨m2,e2⟩:=tbls b _ e1
  exact⟨m1++m2,by rw[e2,Array.append_assoc]⟩
 ·obtain⟨m,hn,hl⟩:=I.loc
  refine⟨m,ns m hn,fun i x v e1 e2 e3=>?_⟩
  obtain⟨u,r,l⟩:=hl i x v e1 e2 e3
  refine⟨u,r,?_⟩
  rcases l with l | ⟨k,c,e,z⟩
  ·exact .inl l
  ·exact .inr ⟨k,c,e,cellK x c e _ z⟩
 ·obtain⟨v,z⟩:=I.cell x c e
  exact⟨v,cellK x c e v z⟩
 ·obtain⟨m,⟨o,_,_,ho,_⟩,_⟩:=I.loc
  exact free _ o (fun z=>(hch _ z).2.1 rfl) ho I.free
 ·obtain⟨v,o,ho,hd⟩:=I.cell x c e
  exact free c o (fun z=>(hch c z).2.2.1 x c e rfl) ho (I.freeC x c e)
 ·obtain⟨e,n,ne,nf,d⟩:=I.pin p hp
  have nch:p.1∉ch:=fun z=>(hch p.1 z).2.2.2 p hp rfl
  exact⟨keep p.1 p.2 ne nf nch e n,free p.1 p.2 nch e n,ne,nf,d⟩
theorem Inv.un{t':Nat}(I:Inv X pins σ H s)(u:Un X.fs [] H H' s.heap h')(hok:HOk X.prog X.w H' h'):Inv X pins σ H' { s with heap:=h',toks:=t' }:=by
 obtain⟨m,⟨o,es,ep,ho,r⟩,_⟩:=id I.loc
 obtain⟨sl,hL⟩:=u.any ho I.free (by simp)
 exact I.step (g':=s.gens) (d':=s.drawn) (ch:=[]) (fun _ z=>nomatch z) (fun b o _ hb _ e n=>u.keep b o e n hb (by simp)) (fun b o _ hb _ e n=>u.slot b o e n hb (by simp)) (fun b o _ e n=>u.free b o e n (by simp)) (fun b o _ e=>u.there b o e (by simp)) u.tups u.frzs u.tbls (fun m' hm=>by
  obtain⟨o',es',ep',ho',r'⟩:=hm
  rw[ho] at ho';cases ho'
  exact⟨_,es',ep',hL,r'⟩) hok I.bare
theorem Inv.call{g':Array GenState}{t':Nat}{d':Drawn}{ch:List Addr}(I:Inv X pins σ H s)(u:Un (frs X.stack) ch H H' s.heap h')(hok:HOk X.prog X.w H' h')(hg:AllBare g')
  (hch:∀ b∈ch,(b∈X.ex∨X.s₀.heap.objs.size≤b)∧b≠X.env.locals∧(∀ x c,X.env.cells.lookup x=some c→c≠b)∧∀ p∈X.pn++pins,p.1≠b) :
  Inv X pins σ H' { s with heap:=h',gens:=g',drawn:=d',toks:=t' }:=by
 obtain⟨m,⟨o,es,ep,ho,r⟩,_⟩:=id I.loc
 obtain⟨sl,hL⟩:=u.any ho I.free fun z=>(hch _ z).2.1 rfl
 exact I.step (ch:=ch) hch (fun b o hL hb hc e n=>u.keep b o e n (fun z=>(List.mem_cons.mp (I.stkSub b z)).elim hL hb) hc) (fun b o _ _ hc e n=>u.any e n hc) (fun b o hc e n=>u.free b o e n hc) (fun b o hc e=>u.there b o e hc) u.tups u.frzs u.tbls (fun m' hm=>by
  obtain⟨o',es',ep',ho',r'⟩:=hm
  rw[ho] at ho';cases ho'
  exact⟨_,es',ep',hL,r'⟩) hok hg
theorem Inv.turned{t':Nat}{it:Addr}(I:Inv X pins σ H s)(k:∀ b o,b≠it→s.heap.get? b=some o→h'.get? b=some o)(hn:H it=none)(hL:it≠X.env.locals)
  (h1:it∈X.ex∨X.s₀.heap.objs.size≤it) (h2:∀ x c,X.env.cells.lookup x=some c→c≠it) (h3:∀ p∈X.pn++pins,p.1≠it):Inv X pins σ H { s with heap:=h',toks:=t' }:=by
 have nit:∀ b u,H b=some u→b≠it:=fun b u e z=>by rw[z,hn] at e;cases e
 refine I.step (g':=s.gens) (d':=s.drawn) (ch:=[it]) (fun b hb=>?_) (fun b o _ _ hc e _=>k b o (fun z=>hc (by simp [z])) e) (fun b o _ _ hc e _=>⟨o.slots,k b o (fun z=>hc (by simp [z])) e⟩) (fun _ _ _ _ n=>n)
  (fun b o hc e=>⟨o,k b o (fun z=>hc (by simp [z])) e⟩) (fun _ _ e=>e) (fun _ _ _ e=>e) (fun b ps e=>⟨#[],by rw[e];simp⟩) (fun m hm=>?_) (fun b u e=>?_) I.bare
 ·have e:b=it:=by simpa using hb
  subst e
  exact⟨h1,hL,h2,h3⟩
 ·obtain⟨o,es,ep,ho,r⟩:=hm
  exact⟨o,es,ep,k _ o (Ne.symm hL) ho,r⟩
 ·refine(I.hok b u e).stay (fun c v hc q=>k c v ?_ q) (fun _ q=>q) fun _ _ q=>q
  rcases hc with z | z
  ·rw[z];exact nit b u e
  ·exact nit c _ z
theorem Inv.tok(I:Inv X pins σ H s)(t:Nat):Inv X pins σ H { s with toks:=t }:=I.un (h':=s.heap) (t':=t) Un.refl I.hok
theorem Inv.kept{t':Nat}(I:Inv X pins σ H s)(k:∀ b u,s.heap.get? b=some u→h'.get? b=some u):Inv X pins σ H { s with heap:=h',toks:=t' }:=I.un (Un.kept k) (I.hok.kept k)
theorem Inv.laid{a:Addr}{o:HO}{t':Nat}(I:Inv X pins σ H s)(k:∀ b u,s.heap.get? b=some u→h'.get? b=some u)(hp:s.heap.objs.size≤a)(new:ObjOk X.prog X.w (upd H a o) h' a o) :
  Inv X pins σ (upd H a o) { s with heap:=h',toks:=t' }:=I.un (Un.laid k hp (I.hok.fresh hp)) (I.hok.laid k hp new)
theorem Inv.write{x e:Addr}{o:HO}{t':Nat}(I:Inv X pins σ H s)(mu:Mut (H x))(he:e=x∨H e=some (.own x))(k:∀ b u,b≠e→s.heap.get? b=some u→h'.get? b=some u)(heo:∃ u,h'.get? e=some u)
  (new:ObjOk X.prog X.w (upd H x o) h' x o):Inv X pins σ (upd H x o) { s with heap:=h',toks:=t' }:=I.un (Un.write mu he k heo) (I.hok.write mu he k heo new)
theorem Inv.pins_of{pins':List (Addr×Obj)}(I:Inv X pins σ H s)(h:∀ p∈pins',s.heap.get? p.1=some p.2∧H p.1=none∧p.1≠X.env.locals∧p.1∉X.fs∧∀ v,p.2.data ≠ .cell v):Inv X pins' σ H s:=
 ⟨I.ok,I.os,I.bare,I.base,I.loc,I.cell,I.free,I.freeC,fun p hp=>(List.mem_append.mp hp).elim (fun z=>I.pin p (List.mem_append_left _ z)) (h p),I.hok,I.len⟩
theorem nodup_ix{N:List Str}(hN:N.Nodup){i j:Nat}{x:Str}(a:N[i]? = some x)(b:N[j]? = some x):i=j:=by
 obtain⟨h1,e1⟩:=List.getElem?_eq_some_iff.mp a
 obtain⟨h2,e2⟩:=List.getElem?_eq_some_iff.mp b
 exact(List.getElem_inj hN).mp (e1.trans e2.symm)
theorem store_ok2{M:Model}{A:Around}{E:Value→Shared→Prop}{i:Nat}{x:Str}{v:V}{u:Value}{Q:Unit→Shared→Prop}(I:Inv X pins σ H s)(hN:X.N.Nodup)(hi:X.N[i]? = some x)(hx:Loc X.env.scope x)(r:RelV v u)
  (h:∀ s',Inv X pins (σ.set i (some v)) H s'→(∃ a,Heap.SameBut a s.heap s'.heap∧(a=X.env.locals∨X.env.cells.lookup x=some a))→Q () s') (hf:X.fn x=true∨X.env.scope.names.lookup x=some .local:=by first | exact .inl rfl | exact .inr rfl | assumption):wpAny M A (storeName X.env x u) Q E s:=by
 obtain⟨m,hn,hl⟩:=id I.loc
 have hcls:(X.env.scope.kind == .class || (X.env.scope.kind == .module && X.env.locals != X.env.globals))=false:=by rw[I.ok.kind];rfl
 have hiσ:i < σ.length:=by rw[I.len];exact(List.getElem?_eq_some_iff.mp hi).1
 have cne:=I.cne
 have tracked:∀{a:Addr} {h':Heap},(∃ o,s.heap.get? a=some o∧H a=none)→Heap.SameBut a s.heap h'→HOk X.prog X.w H h':=fun {a h'} ha hs b ob e=>by
  obtain⟨_,_,hfree⟩:=ha
  refine(I.hok b ob e).stay (fun c w' hc q=>(hs.2 c ?_).trans q) (fun _ q=>q) fun _ _ q=>q
  rintro rfl
  rcases hc with rfl | hc
  ·rw[hfree] at e;cases e
  ·rw[hfree] at hc;cases hc
 rcases hx with hk | hk
 ·refine wpAny_storeName_local hk hn (fun h' hn' hs=>?_) hcls
  obtain⟨oL,_,_,hoL,_⟩:=id hn
  refine h _ ⟨I.ok,I.os,I.bare,⟨fun b o e n hb hx=>?_,fun b o e n hb hx=>?_,I.base.free,fun b o e hx=>?_,I.base.tups,I.base.frzs,I.base.tbls⟩,⟨_,hn',fun j y v' e1 e2 e3=>?_⟩,fun y c e=>?_,I.free,I.freeC,fun p hp=>?_,tracked ⟨oL,hoL,I.free⟩ hs,by simpa using I.len⟩ ⟨_,hs,.inl rfl⟩
  ·exact(hs.2 b (Nat.ne_of_lt (Nat.lt_of_lt_of_le (Heap.lt_size e) I.ok.above))).trans (I.base.keep b o e n hb hx)
  ·obtain⟨sl,e1⟩:=I.base.slot b o e n hb hx
   exact⟨sl,(hs.2 b (Nat.ne_of_lt (Nat.lt_of_lt_of_le (Heap.lt_size e) I.ok.above))).trans e1⟩
  ·obtain⟨o',e1⟩:=I.base.there b o e hx
   exact⟨o',(hs.2 b (Nat.ne_of_lt (Nat.lt_of_lt_of_le (Heap.lt_size e) I.ok.above))).trans e1⟩
  ·by_cases hj:j=i
   ·subst hj
    rw[hi] at e1;cases e1
    rw[List.getElem?_set_self hiσ] at e2
    cases e2
    exact⟨u,r,.inl ⟨hk,by simp⟩⟩
   ·rw[List.getElem?_set_ne (Ne.symm hj)] at e2
    obtain⟨u',r',q⟩:=hl j y v' e1 e2 e3
    refine⟨u',r',?_⟩
    rcases q with⟨k,e⟩ | ⟨k,c,e,z⟩
    ·refine .inl ⟨k,?_⟩
     have:y≠x:=fun e=>hj (nodup_ix hN e1 (e ▸ hi))
     simp [this,e]
    ·exact .inr ⟨k,c,e,z.sameBut hs (cne y c e)⟩
  ·obtain⟨w',z⟩:=I.cell y c e
   exact⟨w',z.sameBut hs (cne y c e)⟩
  ·obtain⟨e,n,ne,nf,d⟩:=I.pin p hp
   exact⟨(hs.2 p.1 ne).trans e,n,ne,nf,d⟩
 ·have hfn:X.fn x=true:=by
   rcases hf with z | z
   ·exact z
   ·rw[z] at hk;cases hk
  obtain⟨c,hc⟩:=I.ok.has x (.inl hk)
  obtain⟨w',z⟩:=I.cell x c hc
  refine wpAny_storeName_cell I.ok.kind hk hc z (fun h' hc' hs=>?_)
  obtain⟨oc,hoc,hocd⟩:=id z
  refine h { s with heap:=h' } ⟨I.ok,I.os,I.bare,⟨fun b o e n hb hx=>?_,fun b o e n hb hx=>?_,I.base.free,fun b o e hx=>?_,I.base.tups,I.base.frzs,I.base.tbls⟩,⟨m,hn.sameBut hs (Ne.symm (cne x c hc)),fun j y v' e1 e2 e3=>?_⟩,fun y c' e=>?_,I.free,I.freeC,fun p hp=>?_,tracked ⟨oc,hoc,I.freeC x c hc⟩ hs,by simpa using I.len⟩ ⟨c,hs,.inr hc⟩
  ·exact(hs.2 b (Nat.ne_of_lt (Nat.lt_of_lt_of_le (Heap.lt_size e) (I.ok.cab x c hfn hc)))).trans (I.base.keep b o e n hb hx)
  ·obtain⟨sl,e1⟩:=I.base.slot b o e n hb hx
   exact⟨sl,(hs.2 b (Nat.ne_of_lt (Nat.lt_of_lt_of_le (Heap.lt_size e) (I.ok.cab x c hfn hc)))).trans e1⟩
  ·obtain⟨o',e1⟩:=I.base.there b o e hx
   exact⟨o',(hs.2 b (Nat.ne_of_lt (Nat.lt_of_lt_of_le (Heap.lt_size e) (I.ok.cab x c hfn hc)))).trans e1⟩
  ·by_cases hj:j=i
   ·subst hj
    rw[hi] at e1;cases e1
    rw[List.getElem?_set_self hiσ] at e2
    cases e2
    exact⟨u,r,.inr ⟨.inl hk,c,hc,hc'⟩⟩
   ·rw[List.getElem?_set_ne (Ne.symm hj)] at e2
    obtain⟨u',r',q⟩:=hl j y v' e1 e2 e3
    refine⟨u',r',?_⟩
    rcases q with q | ⟨k,c',e,z'⟩
    ·exact .inl q
    ·refine .inr ⟨k,c',e,z'.sameBut hs ?_⟩
     rintro rfl
     exact hj (nodup_ix hN e1 (I.ok.inj _ _ _ e hc ▸ hi))
  ·by_cases hcc:c'=c
   ·subst hcc;exact⟨_,hc'⟩
   ·obtain⟨w2,z2⟩:=I.cell y c' e
    exact⟨w2,z2.sameBut hs hcc⟩
  ·obtain⟨e,n,ne,nf,d⟩:=I.pin p hp
   refine⟨(hs.2 p.1 ?_).trans e,n,ne,nf,d⟩
   intro q
   rw[q,hoc] at e
   have q':oc=p.2:=Option.some.inj e
   exact d w' (by rw[← q'];exact hocd)
theorem store_ok{M:Model}{A:Around}{E:Value→Shared→Prop}{i:Nat}{x:Str}{v:V}{u:Value}{Q:Unit→Shared→Prop}(I:Inv X pins σ H s)(hN:X.N.Nodup)(hi:X.N[i]? = some x)(hx:Loc X.env.scope x)(r:RelV v u)
  (h:∀ s',Inv X pins (σ.set i (some v)) H s'→Q () s') (hf:X.fn x=true∨X.env.scope.names.lookup x=some .local:=by first | exact .inl rfl | exact .inr rfl | assumption):wpAny M A (storeName X.env x u) Q E s:=
 store_ok2 I hN hi hx r (fun s' I' _=>h s' I') hf
theorem Inv.call'{s':Shared}{ch:List Addr}(I:Inv X pins σ H s)(ho:s'.os=s.os)(u:Un (frs X.stack) ch H H' s.heap s'.heap)(hok:HOk X.prog X.w H' s'.heap)(hg:AllBare s'.gens)
  (hch:∀ b∈ch,(b∈X.ex∨X.s₀.heap.objs.size≤b)∧b≠X.env.locals∧(∀ x c,X.env.cells.lookup x=some c→c≠b)∧∀ p∈X.pn++pins,p.1≠b):Inv X pins σ H' s':=by
 obtain⟨h',g',d',t',o'⟩:=s'
 have e:o'=s.os:=ho
 subst e
 exact I.call (g':=g') (t':=t') (d':=d') u hok hg hch
end
abbrev XK:=Value→Option Addr→Hp→Prop
abbrev St:=List (Option V)
abbrev VK:=V→Hp→Prop
abbrev TE:=St→Hp→VK→Prop
abbrev TT:=St→Hp→(Bool→Hp→Prop)→Prop
abbrev TA:=St→Hp→(List V→Hp→Prop)→Prop
structure Ends where
 nx:St→Hp→Prop
 rt:VK
 bk:St→Hp→Prop:=fun _ _=>False
 ct:St→Hp→Prop:=fun _ _=>False
abbrev TS:=Ends→St→Hp→Prop
def EP(X:Cx)(pins:List (Addr×Obj))(σ:St)(Q:VK)(u:Value)(s':Shared):Prop:=∃ v H',Inv X pins σ H' s'∧RelV v u∧Q v H'
def TP(X:Cx)(pins:List (Addr×Obj))(σ:St)(Q:Bool→Hp→Prop)(b:Bool)(s':Shared):Prop:=∃ H',Inv X pins σ H' s'∧Q b H'
def AP(X:Cx)(pins:List (Addr×Obj))(σ:St)(Q:List V→Hp→Prop)(us:List Value)(s':Shared):Prop:=∃ vs H',Inv X pins σ H' s'∧Vals vs us∧Q vs H'
def SP(X:Cx)(pins:List (Addr×Obj))(D:Ends)(f:Flow)(s':Shared):Prop:=
 match f with
 | .next=>∃ σ' H',Inv X pins σ' H' s'∧D.nx σ' H'
 | .brk=>∃ σ' H',Inv X pins σ' H' s'∧D.bk σ' H'
 | .cont=>∃ σ' H',Inv X pins σ' H' s'∧D.ct σ' H'
 | .ret u=>∃ v σ' H',Inv X pins σ' H' s'∧RelV v u∧D.rt v H'
def PE(X:Cx)(e:Expr)(t:TE):Prop:=
 ∀(pins:List (Addr×Obj)) (s:Shared) (σ:St) (H:Hp) (Q:VK),Inv X pins σ H s→t σ H Q→wpAny (model X.prog X.w) X.A (eval e X.env) (EP X pins σ Q) X.xe s
def PT(X:Cx)(e:Expr)(t:TT):Prop:=
 ∀(pins:List (Addr×Obj)) (s:Shared) (σ:St) (H:Hp) (Q:Bool→Hp→Prop),Inv X pins σ H s→t σ H Q→wpAny (model X.prog X.w) X.A (isTrue e X.env (eval e X.env)) (TP X pins σ Q) X.xe s
def PW(X:Cx)(e:Expr)(t:TT):Prop:=
 ∀(whole:Sem Value) (pins:List (Addr×Obj)) (s:Shared) (σ:St) (H:Hp) (Q:Bool→Hp→Prop),Inv X pins σ H s→t σ H Q→wpAny (model X.prog X.w) X.A (isTrue e X.env whole) (TP X pins σ Q) X.xe s
theorem PW.pt{X:Cx}{e:Expr}{t:TT}(h:PW X e t):PT X e t:=h _
def PA(X:Cx)(es:List Expr)(t:TA):Prop:=
 ∀(pos:Pos) (pins:List (Addr×Obj)) (s:Shared) (σ:St) (H:Hp) (Q:List V→Hp→Prop),Inv X pins σ H s→t σ H Q→wpAny (model X.prog X.w) X.A (spliced (backTo pos (starEach es X.env))) (AP X pins σ Q) X.xe s
def PS(X:Cx)(st:Stmt)(t:TS):Prop:=
 ∀(pins:List (Addr×Obj)) (s:Shared) (σ:St) (H:Hp) (D:Ends),Inv X pins σ H s→t D σ H→wpAny (model X.prog X.w) X.A (exec st X.env) (SP X pins D) X.xe s
def PSs(X:Cx)(st:List Stmt)(t:TS):Prop:=
 ∀(pins:List (Addr×Obj)) (s:Shared) (σ:St) (H:Hp) (D:Ends),Inv X pins σ H s→t D σ H→wpAny (model X.prog X.w) X.A (execs st X.env) (SP X pins D) X.xe s
theorem thn{α:Type}{t:Sem α}{Q Q':α→Shared→Prop}{M:Model}{A:Around}{E:Value→Shared→Prop}{s:Shared}(h:wpAny M A t Q E s)(hQ:∀ a s,Q a s→Q' a s):wpAny M A t Q' E s:=wpAny_mono h hQ fun _ _ x=>x
end L2
namespace L2
open PySem PySem.Spec PyProof.Rows
section
variable{X:Cx}
def tVar(i:Nat):TE:=fun σ H Q=>∃ v,σ[i]? = some (some v)∧Q v H
def tC(v:V):TE:=fun _ H Q=>Q v H
theorem pe_var{i:Nat}{x:Str}{pos:Pos}(hN:X.N[i]? = some x)(hv:Vis X.env.scope x)(hd:(x == ("__debug__":Str))=false:=by decide)(hcd:(x == ("__classdict__":Str))=false:=by decide):PE X (.Name x pos) (tVar i):=by
 intro pins s σ H Q I h
 obtain⟨v,e,h⟩:=h
 obtain⟨m,hn,hl⟩:=I.loc
 obtain⟨u,r,l⟩:=hl i x v hN e hv
 have fin:EP X pins σ Q u s:=⟨v,H,I,r,h⟩
 rcases l with⟨hk,hm⟩ | ⟨hk,c,hc,hcell⟩
 ·exact wpAny_Name (wpAny_loadName_local I.ok.kind hk hn hm fin) hd
 ·rcases hk with hk | hk
  ·exact wpAny_Name (wpAny_loadName_cell I.ok.kind hk hc hcell fin) hd
  ·exact wpAny_Name (wpAny_loadName_free I.ok.kind hk hc hcell fin hcd) hd
theorem pe_int{i j pos}:PE X (.Constant (.int i) j pos) (tC (.int i)):=fun _ _ _ H _ I h=>wpAny_Constant_int ⟨.int i,H,I.tok _,⟨_,rfl⟩,h⟩
theorem pe_bl{b j pos}:PE X (.Constant (.bool b) j pos) (tC (.bl b)):=fun _ _ _ H _ I h=>Constant_bool ⟨.bl b,H,I,rfl,h⟩
theorem pe_non{j pos}:PE X (.Constant .none j pos) (tC .non):=fun _ _ _ H _ I h=>Constant_none ⟨.non,H,I,rfl,h⟩
theorem pe_str{x j pos}:PE X (.Constant (.str x) j pos) (tC (.str x)):=fun _ _ _ H _ I h=>Calls.Constant_str ⟨.str x,H,I.tok _,⟨_,rfl⟩,h⟩
def Gl(X:Cx)(x:Str):Prop:=X.env.kindOf x=some .globalImplicit
theorem ld_glob{E:Value→Shared→Prop}{pins:List (Addr×Obj)}{s:Shared}{σ:St}{H:Hp}{x:Str}{u:Value}{pos:Pos}{Q:Value→Shared→Prop}(I:Inv X pins σ H s)(hg:Gl X x)(hm:X.mg x=some u)(h:Q u s)
  (hd:(x == ("__debug__":Str))=false:=by decide):wpAny (model X.prog X.w) X.A (eval (.Name x pos) X.env) Q E s:=
 Calls.Name_function_global I.ok.kind hg (Calls.loadGlobal_global (by rw[I.ok.glob];exact I.mod.glob.keeps I.bk) hm h) hd
theorem ld_blt{E:Value→Shared→Prop}{pins:List (Addr×Obj)}{s:Shared}{σ:St}{H:Hp}{x:Str}{u:Value}{pos:Pos}{Q:Value→Shared→Prop}(I:Inv X pins σ H s)(hg:Gl X x)(hm:X.mg x=none)(hv:bootBuiltins x=some u)(h:Q u s)
  (hn:x≠"__name__":=by decide) (hd:(x == ("__debug__":Str))=false:=by decide):wpAny (model X.prog X.w) X.A (eval (.Name x pos) X.env) Q E s:=by
 obtain⟨mb,h1,h2⟩:=I.mod.blt
 exact Calls.Name_function_global I.ok.kind hg (Calls.loadGlobal_builtin (by rw[I.ok.glob];exact I.mod.glob.keeps I.bk) hm (by rw[I.ok.blt];exact h1.keeps I.bk) ((h2 x hn).trans hv) h) hd
theorem pe_glob{x:Str}{v:V}{u:Value}{pos:Pos}(hg:Gl X x)(hm:X.mg x=some u)(r:RelV v u)(hd:(x == ("__debug__":Str))=false:=by decide):PE X (.Name x pos) (tC v):=
 fun _ _ _ H _ I h=>ld_glob I hg hm ⟨v,H,I,r,h⟩ hd
theorem pe_bltn{x:Str}{v:V}{u:Value}{pos:Pos}(hg:Gl X x)(hm:X.mg x=none)(hv:bootBuiltins x=some u)(r:RelV v u)(hn:x≠"__name__":=by decide)(hd:(x == ("__debug__":Str))=false:=by decide):PE X (.Name x pos) (tC v):=
 fun _ _ _ H _ I h=>ld_blt I hg hm hv ⟨v,H,I,r,h⟩ hn hd
variable{a b:Expr}{ta tb:TE}{pos:Pos}
variable{tA tB':TT}{rest:List Expr}
def tAnd(t u:TT):TT:=fun σ H Q=>t σ H fun c H1=>if c=true then u σ H1 Q else Q false H1
def tOr(t u:TT):TT:=fun σ H Q=>t σ H fun c H1=>if c=true then Q true H1 else u σ H1 Q
def tNot(t:TT):TT:=fun σ H Q=>t σ H fun c H1=>Q (!c) H1
theorem pw_and1(ha:PT X a tA):PW X (.BoolOp .And [a] pos) tA:=by
 intro wh pins s σ H Q I h
 refine isTrue_and (thn (ha pins s σ H Q I h) fun c s1 e=>?_)
 cases c with
 | true=>exact isTrue_and_nil e
 | false=>exact e
theorem pw_or1(ha:PT X a tA):PW X (.BoolOp .Or [a] pos) tA:=by
 intro wh pins s σ H Q I h
 refine isTrue_or (thn (ha pins s σ H Q I h) fun c s1 e=>?_)
 cases c with
 | false=>exact isTrue_or_nil e
 | true=>exact e
theorem pw_and(ha:PT X a tA)(hb:PW X (.BoolOp .And (b :: rest) pos) tB'):PW X (.BoolOp .And (a :: b :: rest) pos) (tAnd tA tB'):=by
 intro wh pins s σ H Q I h
 refine isTrue_and (thn (ha pins s σ H _ I h) fun c s1 ⟨H1,I1,q1⟩=>?_)
 cases c with
 | true=>exact hb wh pins s1 σ H1 Q I1 q1
 | false=>exact⟨H1,I1,q1⟩
theorem pw_or(ha:PT X a tA)(hb:PW X (.BoolOp .Or (b :: rest) pos) tB'):PW X (.BoolOp .Or (a :: b :: rest) pos) (tOr tA tB'):=by
 intro wh pins s σ H Q I h
 refine isTrue_or (thn (ha pins s σ H _ I h) fun c s1 ⟨H1,I1,q1⟩=>?_)
 cases c with
 | true=>exact⟨H1,I1,q1⟩
 | false=>exact hb wh pins s1 σ H1 Q I1 q1
theorem pt_not(ha:PT X a tA):PT X (.UnaryOp .Not a pos) (tNot tA):=by
 intro pins s σ H Q I h
 exact isTrue_not (ha pins s σ H (fun c H1=>Q (!c) H1) I h)
def tAndV(ta tb:TE):TE:=fun σ H Q=>ta σ H fun x H1=>∃ c,x = .bl c∧if c=true then tb σ H1 Q else Q (.bl false) H1
def tOrV(ta tb:TE):TE:=fun σ H Q=>ta σ H fun x H1=>∃ c,x = .bl c∧if c=true then Q (.bl true) H1 else tb σ H1 Q
def tNotV(ta:TE):TE:=fun σ H Q=>ta σ H fun x H1=>∃ c,x = .bl c∧Q (.bl (!c)) H1
theorem pe_one{op}{t:TE}(h:PE X a t):PE X (.BoolOp op [a] pos) t:=fun pins s σ H Q I hw=>BoolOp_one (h pins s σ H Q I hw)
theorem pe_and(ha:PE X a ta)(hb:PE X (.BoolOp .And (b :: rest) pos) tb):PE X (.BoolOp .And (a :: b :: rest) pos) (tAndV ta tb):=by
 intro pins s σ H Q I h
 refine BoolOp_and (thn (ha pins s σ H _ I h) fun v s1 ⟨x,H1,I1,r1,q1⟩=>?_)
 obtain⟨c,rfl,q1⟩:=q1
 cases r1
 refine wpAny_truthy_bool ?_
 cases c with
 | true=>exact hb pins s1 σ H1 Q I1 q1
 | false=>exact⟨.bl false,H1,I1,rfl,q1⟩
theorem pe_or(ha:PE X a ta)(hb:PE X (.BoolOp .Or (b :: rest) pos) tb):PE X (.BoolOp .Or (a :: b :: rest) pos) (tOrV ta tb):=by
 intro pins s σ H Q I h
 refine BoolOp_or (thn (ha pins s σ H _ I h) fun v s1 ⟨x,H1,I1,r1,q1⟩=>?_)
 obtain⟨c,rfl,q1⟩:=q1
 cases r1
 refine wpAny_truthy_bool ?_
 cases c with
 | false=>exact hb pins s1 σ H1 Q I1 q1
 | true=>exact⟨.bl true,H1,I1,rfl,q1⟩
theorem pe_not(ha:PE X a ta):PE X (.UnaryOp .Not a pos) (tNotV ta):=by
 intro pins s σ H Q I h
 refine UnaryOp_ (thn (ha pins s σ H _ I h) fun v s1 ⟨x,H1,I1,r1,q1⟩=>?_)
 obtain⟨c,rfl,q1⟩:=q1
 cases r1
 exact not_of (wpAny_truthy_bool ⟨.bl (!c),H1,I1,rfl,q1⟩)
def tIf(t:TT)(ta tb:TE):TE:=fun σ H Q=>t σ H fun c H1=>if c=true then ta σ H1 Q else tb σ H1 Q
theorem pe_ifExp{c:Expr}(hc:PT X c tA)(ha:PE X a ta)(hb:PE X b tb):PE X (.IfExp c a b pos) (tIf tA ta tb):=by
 intro pins s σ H Q I h
 refine wpAny_IfExp (thn (hc pins s σ H _ I h) fun d s1 ⟨H1,I1,q1⟩=>?_)
 cases d with
 | true=>exact ha pins s1 σ H1 Q I1 q1
 | false=>exact hb pins s1 σ H1 Q I1 q1
end
end L2
namespace L2
open PySem PySem.Spec PyProof.Rows
def SqL(K:PySem.W.Frag)(H:Hp)(a:Addr)(xs:List V):Prop:=
 Rd H a (.lst xs) ∨
  ∃(o:Obj) (its:Array Value) (n:Nat),K.lookup a=some o∧o.cls = .type "list"∧o.dict=none∧o.data = .seq its n∧its.size≤sizeLine∧Vals xs its.toList
def SqT(K:PySem.W.Frag)(H:Hp)(a:Addr)(xs:List V):Prop:=
 Rd H a (.tup xs) ∨
  ∃(o:Obj) (its:Array Value) (n:Nat),K.lookup a=some o∧o.cls = .type "tuple"∧o.data = .seq its n∧its.size≤sizeLine∧Vals xs its.toList
def absV:Value→Option V
 | .none=>some .non
 | .bool b=>some (.bl b)
 | .int i _=>some (.int i)
 | .str x _=>some (.str x)
 | .bytes b _=>some (.byt b)
 | .float b _=>some (.flt b)
 | .ref a=>some (.ref a)
 | .type n=>some (.ty n)
 | _=>none
theorem RelV.abs{x:V}{u:Value}(r:RelV x u):absV u=some x:=by
 cases x with
 | non=>cases r;rfl
 | bl _=>cases r;rfl
 | int _=>obtain⟨t,rfl⟩:=r;rfl
 | str _=>obtain⟨t,rfl⟩:=r;rfl
 | byt _=>obtain⟨t,rfl⟩:=r;rfl
 | flt _=>obtain⟨t,rfl⟩:=r;rfl
 | ref _=>cases r;rfl
 | ty _=>cases r;rfl
theorem RelV.inj{x y:V}{u:Value}(r:RelV x u)(q:RelV y u):x=y:=Option.some.inj (r.abs.symm.trans q.abs)
theorem Vals.inj:∀{xs ys:List V} {us:List Value},Vals xs us→Vals ys us→xs=ys
 | _,_,_,.nil,.nil=>rfl
 | _,_,_,.cons r t,.cons r' t'=>by rw[r.inj r',Vals.inj t t']
section
variable{X:Cx}{pins:List (Addr×Obj)}{σ:St}{H:Hp}{s:Shared}{a:Addr}{xs ys:List V}
theorem SqL.of{K:PySem.W.Frag}(h:H a=some (.lst xs)):SqL K H a xs:=.inl (.inl h)
theorem SqT.of{K:PySem.W.Frag}(h:H a=some (.tup xs)):SqT K H a xs:=.inl (.inl h)
theorem Inv.list(I:Inv X pins σ H s)(h:SqL X.K H a xs):∃ its:List Value,Vals xs its∧PlainL s.heap a its.toArray∧xs.length≤sizeLine:=by
 rcases h with h | ⟨o,its,n,hk,hc,hd,hs,hz,r⟩
 ·obtain⟨z,its,n,r,e⟩:=h.ok I.hok
  exact⟨its,r,⟨_,n,e,rfl,rfl,rfl⟩,z⟩
 ·refine⟨its.toList,r,⟨o,n,I.kIn a o hk,hc,hd,by simpa using hs⟩,?_⟩
  have e:=r.length
  simp only[Array.length_toList] at e
  omega
theorem Inv.tuple(I:Inv X pins σ H s)(h:SqT X.K H a xs):∃ its:List Value,Vals xs its∧IsTup s.heap a its.toArray∧xs.length≤sizeLine:=by
 rcases h with h | ⟨o,its,n,hk,hc,hs,hz,r⟩
 ·obtain⟨z,its,r,p⟩:=h.ok I.hok
  exact⟨its,r,p,z⟩
 ·refine⟨its.toList,r,⟨o,I.kIn a o hk,hc,n,by simpa using hs⟩,?_⟩
  have e:=r.length
  simp only[Array.length_toList] at e
  omega
theorem Inv.list_inj(I:Inv X pins σ H s)(h:SqL X.K H a xs)(h':SqL X.K H a ys):xs=ys:=by
 obtain⟨its,r,⟨o,n,e,_,_,d⟩,_⟩:=I.list h
 obtain⟨its',r',⟨o',n',e',_,_,d'⟩,_⟩:=I.list h'
 rw[e] at e';cases e'
 rw[d] at d'
 injection d' with d1 _
 have:its=its':=by simpa using congrArg Array.toList d1
 subst this
 exact r.inj r'
theorem Inv.tuple_inj(I:Inv X pins σ H s)(h:SqT X.K H a xs)(h':SqT X.K H a ys):xs=ys:=by
 obtain⟨its,r,⟨o,e,_,n,d⟩,_⟩:=I.tuple h
 obtain⟨its',r',⟨o',e',_,n',d'⟩,_⟩:=I.tuple h'
 rw[e] at e';cases e'
 rw[d] at d'
 injection d' with d1 _
 have:its=its':=by simpa using congrArg Array.toList d1
 subst this
 exact r.inj r'
end
abbrev Cx.wish(X:Cx)(E:Value→Shared→Prop):Cx:={ X with xe:=E }
abbrev Cx.nox(X:Cx):Cx:=X.wish fun _ _=>False
theorem Cx.Ok.wish{X:Cx}(ok:X.Ok)(E:Value→Shared→Prop):(X.wish E).Ok:=
 ⟨ok.mod,ok.kind,ok.glob,ok.blt,ok.above,ok.inj,ok.has,ok.cab,ok.hd,ok.frames,ok.stk,ok.exf,ok.bs,ok.bsz,ok.noex,ok.exfs,ok.funs,ok.frf⟩
theorem Cx.Ok.unwish{X:Cx}{E:Value→Shared→Prop}(ok:(X.wish E).Ok):X.Ok:=
 ⟨ok.mod,ok.kind,ok.glob,ok.blt,ok.above,ok.inj,ok.has,ok.cab,ok.hd,ok.frames,ok.stk,ok.exf,ok.bs,ok.bsz,ok.noex,ok.exfs,ok.funs,ok.frf⟩
section
variable{X:Cx}{pins:List (Addr×Obj)}{σ:St}{H:Hp}{s:Shared}{E:Value→Shared→Prop}
theorem Inv.wish(I:Inv X pins σ H s)(E:Value→Shared→Prop):Inv (X.wish E) pins σ H s:=⟨I.ok.wish E,I.os,I.bare,I.base,I.loc,I.cell,I.free,I.freeC,I.pin,I.hok,I.len⟩
theorem Inv.unwish(I:Inv (X.wish E) pins σ H s):Inv X pins σ H s:=⟨I.ok.unwish,I.os,I.bare,I.base,I.loc,I.cell,I.free,I.freeC,I.pin,I.hok,I.len⟩
theorem SP.unwish{D:Ends}{f:Flow}{s':Shared}(h:SP (X.wish E) pins D f s'):SP X pins D f s':=by
 cases f with
 | next=>obtain⟨σ',H',I,q⟩:=h;exact⟨σ',H',I.unwish,q⟩
 | brk=>obtain⟨σ',H',I,q⟩:=h;exact⟨σ',H',I.unwish,q⟩
 | cont=>obtain⟨σ',H',I,q⟩:=h;exact⟨σ',H',I.unwish,q⟩
 | ret u=>obtain⟨v,σ',H',I,r,q⟩:=h;exact⟨v,σ',H',I.unwish,r,q⟩
theorem PSs.nox{st:List Stmt}{t:TS}(h:PSs X.nox st t):PSs X st t:=fun pins s σ H D I hw=>
 wpAny_mono (h pins s σ H D (I.wish _) hw) (fun _ _ q=>q.unwish) fun _ _ z=>False.elim z
end
section
variable{X:Cx}{st:Stmt}{rest:List Stmt}{t u:TS}{e:Expr}{te:TE}{pos:Pos}
def tNext:TS:=fun D σ H=>D.nx σ H
def tSeq(t u:TS):TS:=fun D σ H=>t { D with nx:=u D } σ H
theorem pss_nil:PSs X [] tNext:=fun _ _ σ H _ I h=>wpAny_execs_nil ⟨σ,H,I,h⟩
theorem pss_cons(h1:PS X st t)(h2:PSs X rest u):PSs X (st :: rest) (tSeq t u):=by
 intro pins s σ H D I h
 refine wpAny_execs_cons (thn (h1 pins s σ H { D with nx:=u D } I h) fun f s1 q=>?_)
 cases f with
 | next=>
  obtain⟨σ',H',I',q⟩:=q
  exact h2 pins s1 σ' H' D I' q
 | ret v=>exact q
 | brk=>exact q
 | cont=>exact q
theorem pss_one(h1:PS X st t):PSs X [st] t:=by
 intro pins s σ H D I h
 refine wpAny_execs_cons (thn (h1 pins s σ H D I h) fun f s1 q=>?_)
 cases f with
 | next=>exact wpAny_execs_nil q
 | ret v=>exact q
 | brk=>exact q
 | cont=>exact q
theorem Inv.quiet{pins:List (Addr×Obj)}{σ:St}{H:Hp}{s:Shared}(I:Inv X pins σ H s):interactive X.env=false:=by simp [interactive,I.ok.kind]
def tDrop(te:TE):TS:=fun D σ H=>te σ H fun _ H1=>D.nx σ H1
theorem ps_expr(he:PE X e te)(hs:swapsWith e none pos.line X.env=pure false:=by rfl):PS X (.Expr e pos) (tDrop te):=by
 intro pins s σ H D I h
 exact wpAny_Expr_any (thn (he pins s σ H _ I h) fun v s1 ⟨x,H1,I1,r1,q1⟩=>⟨σ,H1,I1,q1⟩) I.quiet hs
def tRet(te:TE):TS:=fun D σ H=>te σ H D.rt
theorem ps_ret(he:PE X e te):PS X (.Return (some e) pos) (tRet te):=by
 intro pins s σ H D I h
 exact wpAny_Return_some (thn (he pins s σ H _ I h) fun v s1 ⟨x,H1,I1,r1,q1⟩=>⟨x,σ,H1,I1,r1,q1⟩)
def tIfS(c:TT)(t u:TS):TS:=fun D σ H=>c σ H fun b H1=>if b=true then t D σ H1 else u D σ H1
theorem ps_if{c:Expr}{a b:List Stmt}{tc:TT}(hc:PT X c tc)(ha:PSs X a t)(hb:PSs X b u):PS X (.If c a b pos) (tIfS tc t u):=by
 intro pins s σ H D I h
 refine wpAny_If (thn (hc pins s σ H _ I h) fun d s1 ⟨H1,I1,q1⟩=>?_)
 cases d with
 | true=>exact ha pins s1 σ H1 D I1 q1
 | false=>exact hb pins s1 σ H1 D I1 q1
def tNever:TS:=fun _ _ _=>False
theorem ps_never:PS X st tNever:=fun _ _ _ _ _ _ h=>h.elim
theorem pss_never{sts:List Stmt}:PSs X sts tNever:=fun _ _ _ _ _ _ h=>h.elim
end
abbrev TG:=V→St→Hp→(St→Hp→Prop)→Prop
abbrev TGs:=List V→St→Hp→(St→Hp→Prop)→Prop
def PG(X:Cx)(target:Expr)(t:TG):Prop:=
 ∀(pins:List (Addr×Obj)) (s:Shared) (σ:St) (H:Hp) (v:V) (u:Value) (Q:St→Hp→Prop),Inv X pins σ H s→RelV v u→t v σ H Q →
  wpAny (model X.prog X.w) X.A (assign target X.env u) (fun _ s'=>∃ σ' H',Inv X pins σ' H' s'∧Q σ' H') X.xe s
def PGs(X:Cx)(ts:List Expr)(t:TGs):Prop:=
 ∀(pins:List (Addr×Obj)) (s:Shared) (σ:St) (H:Hp) (vs:List V) (us:List Value) (Q:St→Hp→Prop),Inv X pins σ H s→Vals vs us→t vs σ H Q →
  wpAny (model X.prog X.w) X.A (assignInOrder ((assignEach ts X.env).map (·.2)) us) (fun _ s'=>∃ σ' H',Inv X pins σ' H' s'∧Q σ' H') X.xe s
abbrev TSet:=V→V→V→Hp→(Hp→Prop)→Prop
def PSet(X:Cx)(t:TSet):Prop:=
 ∀(pins:List (Addr×Obj)) (s:Shared) (σ:St) (H:Hp) (o i v:V) (ov iv u:Value) (Q:Hp→Prop),Inv X pins σ H s→RelV o ov→RelV i iv→RelV v u→t o i v H Q →
  wpAny (model X.prog X.w) X.A (setItem ov iv u) (fun _ s'=>∃ H',Inv X pins σ H' s'∧Q H') X.xe s
section
variable{X:Cx}{pos:Pos}
def gName(i:Nat):TG:=fun v σ H Q=>Q (σ.set i (some v)) H
theorem pg_name{i:Nat}{x:Str}(hN:X.N.Nodup)(hi:X.N[i]? = some x)(hx:Loc X.env.scope x)(hf:X.fn x=true∨X.env.scope.names.lookup x=some .local:=by first | exact .inl rfl | exact .inr rfl | assumption):PG X (.Name x pos) (gName i):=by
 intro pins s σ H v u Q I r h
 exact wpAny_assign_Name (store_ok I hN hi hx r (fun s' I'=>⟨_,H,I',h⟩) hf)
def gNil:TGs:=fun vs σ H Q=>vs=[]∧Q σ H
def gCons(t:TG)(u:TGs):TGs:=fun vs σ H Q=>∃ v r,vs=v :: r∧t v σ H fun σ' H'=>u r σ' H' Q
theorem pgs_nil:PGs X [] gNil:=by
 intro pins s σ H vs us Q I r h
 obtain⟨e,h⟩:=h
 subst e
 cases r
 exact assignInOrder_nil ⟨σ,H,I,h⟩
theorem pgs_cons{e:Expr}{es:List Expr}{t:TG}{u:TGs}(h1:PG X e t)(h2:PGs X es u)
  (hs:(assignEach (e :: es) X.env).map (·.2)=assign e X.env :: (assignEach es X.env).map (·.2):=by rfl):PGs X (e :: es) (gCons t u):=by
 intro pins s σ H vs us Q I r h
 obtain⟨v,vr,e1,h⟩:=h
 subst e1
 cases r with
 | cons r rr=>
  rw[hs]
  refine assignInOrder_cons (thn (h1 pins s σ H _ _ _ I r h) fun _ s1 ⟨σ1,H1,I1,q1⟩=>?_)
  exact h2 pins s1 σ1 H1 _ _ Q I1 rr q1
def gTup(K:PySem.W.Frag)(n:Nat)(t:TGs):TG:=fun v σ H Q=>∃ a xs,v = .ref a∧SqT K H a xs∧xs.length=n∧t xs σ H Q
theorem pg_tup{es:List Expr}{k:Nat}{t:TGs}{n:Nat}(hc:X.calm=true)(h:PGs X es t)
  (hn:(assignEach es X.env).length=n:=by rfl) (hst:(assignEach es X.env).findIdx? (·.1)=none:=by rfl):PG X (.Tuple es k pos) (gTup X.K n t):=by
 intro pins s σ H v u Q I r hw
 obtain⟨a,xs,e1,hq,hl,hw⟩:=hw
 subst e1
 cases r
 obtain⟨its,rv,ht,hz⟩:=I.tuple hq
 refine assign_Tuple_tuple (I.ok.hd hc) ht (by simp [hn,← hl,rv.length]) hst fun h' hx=>?_
 have I1:Inv X pins σ H { s with heap:=h' }:=I.kept (t':=s.toks) fun b o e=>hx b o (Nat.ne_of_lt (Heap.lt_size e)) e
 exact h pins _ σ H xs _ Q I1 (by simpa using rv) hw
def gSub(to ti:TE)(t:TSet):TG:=fun v σ H Q=>to σ H fun o H1=>ti σ H1 fun i H2=>t o i v H2 fun H3=>Q σ H3
theorem pg_sub{o i:Expr}{to ti:TE}{t:TSet}(ho:PE X o to)(hi:PE X i ti)(hs:PSet X t)
  (ha:∀ v,assign (.Subscript o i pos) X.env v=(do
   let ov ← holding [v] (eval o X.env)
   let iv ← holding [v,ov] (eval i X.env)
   standAt pos
   holding [v,ov,iv] (setItem ov iv v)
   release [v,ov,iv] []):=by intro _;rfl):PG X (.Subscript o i pos) (gSub to ti t):=by
 intro pins s σ H v u Q I r h
 rw[ha]
 refine wpAny_bind (wpAny_holding (thn (ho pins s σ H _ I h) fun ov s1 ⟨x,H1,I1,r1,q1⟩=>?_))
 refine wpAny_bind (wpAny_holding (thn (hi pins s1 σ H1 _ I1 q1) fun iv s2 ⟨y,H2,I2,r2,q2⟩=>?_))
 refine wpAny_bind (wpAny_standAt (wpAny_bind (wpAny_holding (thn (hs pins s2 σ H2 x y v ov iv u _ I2 r1 r2 r q2) fun _ s3 ⟨H3,I3,q3⟩=>?_))))
 exact wpAny_release ⟨σ,H3,I3,q3⟩
def tAsg(te:TE)(g:TG):TS:=fun D σ H=>te σ H fun x H1=>g x σ H1 D.nx
theorem ps_asg{tg e:Expr}{te:TE}{g:TG}(he:PE X e te)(hg:PG X tg g)(hs:swapsWithSole [tg] e pos.line X.env=pure false:=by rfl)(hw:swappedStores [tg] e X.env=pure none:=by rfl)
  (h1:(assignEach [tg] X.env).map (·.2)=[assign tg X.env]:=by rfl):PS X (.Assign [tg] e pos) (tAsg te g):=by
 intro pins s σ H D I h
 refine wpAny_Assign_stores (thn (he pins s σ H _ I h) fun v s1 ⟨x,H1,I1,r1,q1⟩=>?_) hs hw
 rw[h1]
 exact thn (hg pins s1 σ H1 x v _ I1 r1 q1) fun _ s2 q=>q
theorem ps_set{i:Nat}{x:Str}{e:Expr}{te:TE}{pos':Pos}(hN:X.N.Nodup)(hi:X.N[i]? = some x)(hx:Loc X.env.scope x)(he:PE X e te)(hs:swapsWith e (some (.Name x pos')) pos.line X.env=pure false:=by rfl)(hf:X.fn x=true∨X.env.scope.names.lookup x=some .local:=by first | exact .inl rfl | exact .inr rfl | assumption) :
  PS X (.Assign [.Name x pos'] e pos) (tAsg te (gName i)):=by
 intro pins s σ H D I h
 refine wpAny_Assign_Name (thn (he pins s σ H _ I h) fun v s1 ⟨y,H1,I1,r1,q1⟩=>?_) hs
 exact store_ok I1 hN hi hx r1 (fun s2 I2=>⟨_,H1,I2,q1⟩) hf
end
section
variable{X:Cx}{pos:Pos}
def tWhile(c:TT)(tb:TS):TS:=fun D σ H=>∃ W:Nat→St→Hp→Prop,(∃ m,W m σ H)∧∀ m σ H,W m σ H →
 c σ H fun b H1=>if b=true then ∃ N:St→Hp→Prop,(∀ σ' H',N σ' H'→∃ m',m' < m∧W m' σ' H')∧tb { D with nx:=N,ct:=N,bk:=D.nx } σ H1 else D.nx σ H1
theorem ps_while{c:Expr}{body:List Stmt}{tc:TT}{tb:TS}(hp:PassesOwn (model X.prog X.w) X.A X.env X.xe)(hc:PT X c tc)(hb:PSs X body tb):PS X (.While c body [] pos) (tWhile tc tb):=by
 intro pins s σ H D I h
 obtain⟨W,⟨m0,w0⟩,turn⟩:=h
 refine wpAny_While (codeAny_whileLoop (fun n s'=>∃ σ' H',Inv X pins σ' H' s'∧W n σ' H') ?_ m0 ⟨σ,H,I,w0⟩)
 rintro n s1 ⟨σ1,H1,I1,w1⟩
 refine wpAny_passesOwn hp (thn (hc pins s1 σ1 H1 _ I1 (turn n σ1 H1 w1)) fun b s2 ⟨H2,I2,q2⟩=>?_)
 cases b with
 | true=>
  obtain⟨N,hN,q2⟩:=q2
  rw[if_pos rfl]
  refine wpAny_passesOwn hp (thn (hb pins s2 σ1 H2 _ I2 q2) fun f s3 q3=>?_)
  cases f with
  | next=>
   obtain⟨σ3,H3,I3,n3⟩:=q3
   obtain⟨m',hm,w3⟩:=hN σ3 H3 n3
   exact⟨m',hm,σ3,H3,I3,w3⟩
  | cont=>
   obtain⟨σ3,H3,I3,n3⟩:=q3
   obtain⟨m',hm,w3⟩:=hN σ3 H3 n3
   exact⟨m',hm,σ3,H3,I3,w3⟩
  | brk=>exact q3
  | ret v=>exact q3
 | false=>
  rw[if_neg Bool.false_ne_true]
  exact wpAny_execs_nil ⟨σ1,H2,I2,q2⟩
end
structure It where
 go:Nat→Hp→Prop
 yld:Nat→Hp→V→Hp→Prop
 stop:Nat→Hp→Prop
def FpOk(X:Cx)(pins:List (Addr×Obj))(H:Hp)(b:Addr):Prop:=
 H b=none∧b≠X.env.locals∧b∉X.fs∧(b∈X.ex∨X.s₀.heap.objs.size≤b)∧(∀ x c,X.env.cells.lookup x=some c→c≠b)∧∀ p∈X.pn++pins,p.1≠b
theorem Inv.fpOk{X:Cx}{pins:List (Addr×Obj)}{σ:St}{H H':Hp}{s:Shared}{b:Addr}(I:Inv X pins σ H s)(hb:s.heap.objs.size≤b)(hn:H' b=none):FpOk X pins H' b:=by
 refine⟨hn,Nat.ne_of_gt (Nat.lt_of_lt_of_le I.lt hb),I.nofs hb,.inr (Nat.le_trans I.sz hb),fun x c e z=>?_,fun p hp z=>?_⟩
 ·obtain⟨v,q⟩:=I.cell x c e
  exact absurd (Nat.lt_of_lt_of_le q.lt (by rw[z];exact hb)) (Nat.lt_irrefl _)
 ·exact absurd (Nat.lt_of_lt_of_le (Heap.lt_size (I.pin p hp).1) (by rw[z];exact hb)) (Nat.lt_irrefl _)
structure Turn(P:Program)(w:World)(K:PySem.W.Frag)(tg:Expr)(J:It)(fp:List Addr)(it:Addr)(tn:Nat→Heap→Prop):Prop where
 mem:it∈fp
 obj:∀ i h,tn i h→∀ b∈fp,∃ o,h.get? b=some o∧∀ v,o.data ≠ .cell v
 keep:∀ i h h',tn i h→(∀ b∈fp,∀ o,h.get? b=some o→h'.get? b=some o)→tn i h'
 item:∀(X:Cx),X.prog=P→X.w=w→X.K=K→X.calm=true→∀(i:Nat) (pins:List (Addr×Obj)) (s:Shared) (σ:St) (H:Hp) (E:Value→Shared→Prop),Inv X pins σ H s→(∀ b∈fp,FpOk X pins H b)→tn i s.heap→J.go i H →
  wpAny (model P w) X.A (pyNext (.ref it)) (fun r s1=>∃ u,r=some u ∧
   wpAny (model P w) X.A (letOwnedTupleGo tg (.ref it) u) (fun _ s2=>∃ x H',Inv X pins σ H' s2∧RelV x u∧J.yld i H x H'∧tn (i+1) s2.heap∧∀ b∈fp,H' b=none) E s1) E s
 done:∀(X:Cx),X.prog=P→X.w=w→X.K=K→X.calm=true→∀(i:Nat) (pins:List (Addr×Obj)) (s:Shared) (σ:St) (H:Hp) (E:Value→Shared→Prop),Inv X pins σ H s→(∀ b∈fp,FpOk X pins H b)→tn i s.heap→J.stop i H →
  wpAny (model P w) X.A (pyNext (.ref it)) (fun r s1=>r=none∧Inv X pins σ H s1) E s
 self:∀(A:Around) (i:Nat) (s:Shared) (Q:Value→Shared→Prop) (E:Value→Shared→Prop),tn i s.heap→Q (.ref it) s→wpAny (model P w) A (pyIter (.ref it)) Q E s
abbrev TI:=St→Hp→(It→Hp→Prop)→Prop
def PIE(X:Cx)(pins:List (Addr×Obj))(σ:St)(tg:Expr)(R:It→Hp→Prop)(itv:Value)(s2:Shared):Prop:=
 ∃(it:Addr) (fp:List Addr) (tn:Nat→Heap→Prop) (J:It) (H':Hp),itv = .ref it∧Inv X pins σ H' s2∧Turn X.prog X.w X.K tg J fp it tn∧tn 0 s2.heap∧(∀ b∈fp,FpOk X pins H' b)∧R J H'
def PI(X:Cx)(tg iter:Expr)(wi:TI):Prop:=
 ∀(pins:List (Addr×Obj)) (s:Shared) (σ:St) (H:Hp) (R:It→Hp→Prop),Inv X pins σ H s→wi σ H R →
  wpAny (model X.prog X.w) X.A (eval iter X.env) (fun v s1=>wpAny (model X.prog X.w) X.A (pyIter v) (PIE X pins σ tg R) X.xe s1) X.xe s
theorem go_of{M:Model}{A:Around}{E:Value→Shared→Prop}{s:Shared}{tg:Expr}{it:Addr}{u:Value}{o:Obj}{n:String}{vs:Array Value}{Q:Unit→Shared→Prop}(ho:s.heap.get? it=some o)(hc:o.cls = .type n)(hd:o.data = .fields vs)
    (hn:["enumerate","zip","dict_itemiterator","dict_reverseitemiterator","odict_iterator","itertools.zip_longest","itertools.pairwise"].contains n=false) (hQ:Q () s):wpAny M A (letOwnedTupleGo tg (.ref it) u) Q E s:=by
  unfold letOwnedTupleGo
  cases tg<;>first
    | exact wpAny_pure hQ
    | (cases u<;>first
        | exact wpAny_pure hQ
        | (refine wpAny_bind (wpAny_load ho ?_)
           rw[hc,hd]
           show wpAny M A (if(["enumerate","zip","dict_itemiterator","dict_reverseitemiterator","odict_iterator","itertools.zip_longest","itertools.pairwise"].contains n && vs[0]? == some (rawInt _))=true then _ else _) Q E s
           rw[if_neg (by intro h;rw[hn,Bool.false_and] at h;cases h)]
           exact wpAny_pure hQ))
def Itl(K:PySem.W.Frag)(a:Addr):It:=
 ⟨fun i H=>∃ xs x,SqL K H a xs∧xs[i]? = some x,fun i H x H'=>H'=H∧∀ xs,SqL K H a xs→xs[i]? = some x,fun i H=>∃ xs,SqL K H a xs∧xs.length≤i⟩
def Itt(K:PySem.W.Frag)(a:Addr):It:=
 ⟨fun i H=>∃ xs x,SqT K H a xs∧xs[i]? = some x,fun i H x H'=>H'=H∧∀ xs,SqT K H a xs→xs[i]? = some x,fun i H=>∃ xs,SqT K H a xs∧xs.length≤i⟩
def Itr(lo:Int)(n:Nat):It:=⟨fun i _=>i < n,fun i H x H'=>H'=H∧x = .int (lo+i),fun i _=>n≤i⟩
theorem turn_list{P:Program}{w:World}{K:PySem.W.Frag}{tg:Expr}(a it:Addr):Turn P w K tg (Itl K a) [it] it (fun i h=>h.IsListIter it a i) where
 mem:=by simp
 obj:=fun i h st b hb=>by
  have e:b=it:=by simpa using hb
  subst e
  obtain⟨o,e,c,d⟩:=st
  exact⟨o,e,fun v z=>by rw[d] at z;cases z⟩
 keep:=fun i h h' st k=>st.at fun o e=>k it (by simp) o e
 item:=by
  intro X hP hw hK hc i pins s σ H E I hf st hg
  subst hP hw hK
  obtain⟨xs,x,hq,hx⟩:=hg
  obtain⟨its,rv,p,hz⟩:=I.list hq
  obtain⟨u,hu,ru⟩:=rv.get hx
  obtain⟨f0,f1,f2,f3,f4,f5⟩:=hf it (by simp)
  refine wpAny_pyNext_list_item st p.isList (x:=u) (by simpa using hu) fun h' st' sb=>?_
  have I1:Inv X pins σ H { s with heap:=h' }:=I.turned (t':=s.toks) (fun b o hb e=>(sb.2 b hb).trans e) f0 f1 f3 f4 f5
  obtain⟨o,e,c,d⟩:=id st'
  exact⟨u,rfl,go_of (s:={ s with heap:=h' }) e c d (by decide) ⟨x,H,I1,ru,⟨rfl,fun ys hy=>by rw[I.list_inj hy hq];exact hx⟩,st',fun b hb=>(hf b hb).1⟩⟩
 done:=by
  intro X hP hw hK hc i pins s σ H E I hf st hg
  subst hP hw hK
  obtain⟨xs,hq,hx⟩:=hg
  obtain⟨its,rv,p,hz⟩:=I.list hq
  obtain⟨f0,f1,f2,f3,f4,f5⟩:=hf it (by simp)
  have hl:=rv.length
  exact wpAny_pyNext_list_end (I.ok.hd hc) st p.isList (by simp;omega) fun h' eb=>⟨rfl,I.turned (t':=s.toks) (fun b o hb e=>eb b o hb e) f0 f1 f3 f4 f5⟩
 self:=fun _ _ _ _ _ st h=>wpAny_pyIter_listiter st h
theorem turn_tuple{P:Program}{w:World}{K:PySem.W.Frag}{tg:Expr}(a it:Addr):Turn P w K tg (Itt K a) [it] it (fun i h=>h.IsTupleIter it a i) where
 mem:=by simp
 obj:=fun i h st b hb=>by
  have e:b=it:=by simpa using hb
  subst e
  obtain⟨o,e,c,d⟩:=st
  exact⟨o,e,fun v z=>by rw[d] at z;cases z⟩
 keep:=fun i h h' st k=>st.at fun o e=>k it (by simp) o e
 item:=by
  intro X hP hw hK hc i pins s σ H E I hf st hg
  subst hP hw hK
  obtain⟨xs,x,hq,hx⟩:=hg
  obtain⟨its,rv,p,hz⟩:=I.tuple hq
  obtain⟨u,hu,ru⟩:=rv.get hx
  obtain⟨f0,f1,f2,f3,f4,f5⟩:=hf it (by simp)
  refine wpAny_pyNext_tuple_item st (show s.heap.IsTuple a its.toArray from p) (x:=u) (by simpa using hu) fun h' st' sb=>?_
  have I1:Inv X pins σ H { s with heap:=h' }:=I.turned (t':=s.toks) (fun b o hb e=>(sb.2 b hb).trans e) f0 f1 f3 f4 f5
  obtain⟨o,e,c,d⟩:=id st'
  exact⟨u,rfl,go_of (s:={ s with heap:=h' }) e c d (by decide) ⟨x,H,I1,ru,⟨rfl,fun ys hy=>by rw[I.tuple_inj hy hq];exact hx⟩,st',fun b hb=>(hf b hb).1⟩⟩
 done:=by
  intro X hP hw hK hc i pins s σ H E I hf st hg
  subst hP hw hK
  obtain⟨xs,hq,hx⟩:=hg
  obtain⟨its,rv,p,hz⟩:=I.tuple hq
  obtain⟨f0,f1,f2,f3,f4,f5⟩:=hf it (by simp)
  have hl:=rv.length
  exact wpAny_pyNext_tuple_end (I.ok.hd hc) st (show s.heap.IsTuple a its.toArray from p) (by simp;omega) fun h' eb=>⟨rfl,I.turned (t':=s.toks) (fun b o hb e=>eb b o hb e) f0 f1 f3 f4 f5⟩
 self:=fun _ _ _ _ _ st h=>wpAny_pyIter_tupleiter st h
theorem turn_range{P:Program}{w:World}{K:PySem.W.Frag}{tg:Expr}(it:Addr)(lo:Int)(n:Nat):Turn P w K tg (Itr lo n) [it] it (fun i h=>IsRangeIter h it (lo+(i:Nat) * 1) ((n:Int) - (i:Nat)) 1) where
 mem:=by simp
 obj:=fun i h st b hb=>by
  have e:b=it:=by simpa using hb
  subst e
  exact⟨_,st,fun v z=>by
   have z':Data.fields _=Data.cell v:=z
   cases z'⟩
 keep:=fun i h h' st k=>k it (by simp) _ st
 item:=by
  intro X hP hw hK hc i pins s σ H E I hf st hg
  subst hP hw hK
  obtain⟨f0,f1,f2,f3,f4,f5⟩:=hf it (by simp)
  have W:=Walks.range (prog:=X.prog) (w:=X.w) (I.ok.hd hc) it lo 1 n
  refine W.item i s _ _ hg st fun v h' tk hv st' kk=>?_
  obtain⟨t,rfl⟩:=hv
  have I1:Inv X pins σ H { s with heap:=h',toks:=tk }:=I.turned (fun b o hb e=>kk b o (by simpa using hb) e) f0 f1 f3 f4 f5
  refine⟨_,rfl,go_of (s:={ s with heap:=h',toks:=tk }) (n:="range_iterator") st' rfl rfl (by decide) ⟨.int (lo+i),H,I1,⟨t,?_⟩,⟨rfl,rfl⟩,st',fun b hb=>(hf b hb).1⟩⟩
  rw[Int.mul_one]
 done:=by
  intro X hP hw hK hc i pins s σ H E I hf st hg
  subst hP hw hK
  obtain⟨f0,f1,f2,f3,f4,f5⟩:=hf it (by simp)
  exact wpAny_pyNext_range_end (I.ok.hd hc) st (by have:n≤i:=hg;omega) fun h' eb=>⟨rfl,I.turned (t':=s.toks) (fun b o hb e=>eb b o hb e) f0 f1 f3 f4 f5⟩
 self:=fun _ _ _ _ _ st h=>wpAny_pyIter_rangeiter st h
end L2
namespace L2
open PySem PySem.Spec PyProof.Rows
section
variable{X:Cx}{tg:Expr}
def iList(K:PySem.W.Frag)(tl:TE):TI:=fun σ H R=>tl σ H fun x H1=>∃ a,x = .ref a∧(∃ xs,SqL K H1 a xs)∧R (Itl K a) H1
def iTup(K:PySem.W.Frag)(tl:TE):TI:=fun σ H R=>tl σ H fun x H1=>∃ a,x = .ref a∧(∃ xs,SqT K H1 a xs)∧R (Itt K a) H1
theorem pi_list{l:Expr}{tl:TE}(hl:PE X l tl):PI X tg l (iList X.K tl):=by
 intro pins s σ H R I h
 refine thn (hl pins s σ H _ I h) fun v s1 ⟨x,H1,I1,r1,q1⟩=>?_
 obtain⟨a,e,⟨xs,hq⟩,q⟩:=q1
 subst e
 cases r1
 obtain⟨its,rv,p,hz⟩:=I1.list hq
 refine wpAny_pyIter_list p.isList ?_
 refine⟨s1.heap.objs.size,[s1.heap.objs.size],_,_,H1,rfl,I1.kept (t':=s1.toks) fun b o e=>Heap.get?_push_of_some _ e,turn_list a _,⟨_,Heap.get?_push_size _ rfl,rfl,rfl⟩,fun b hb=>?_,q⟩
 have e:b=s1.heap.objs.size:=by simpa using hb
 subst e
 exact I1.fpOk (Nat.le_refl _) (I1.hok.fresh (Nat.le_refl _))
theorem pi_tup{l:Expr}{tl:TE}(hl:PE X l tl):PI X tg l (iTup X.K tl):=by
 intro pins s σ H R I h
 refine thn (hl pins s σ H _ I h) fun v s1 ⟨x,H1,I1,r1,q1⟩=>?_
 obtain⟨a,e,⟨xs,hq⟩,q⟩:=q1
 subst e
 cases r1
 obtain⟨its,rv,p,hz⟩:=I1.tuple hq
 refine wpAny_pyIter_tuple (show s1.heap.IsTuple a its.toArray from p) ?_
 refine⟨s1.heap.objs.size,[s1.heap.objs.size],_,_,H1,rfl,I1.kept (t':=s1.toks) fun b o e=>Heap.get?_push_of_some _ e,turn_tuple a _,⟨_,Heap.get?_push_size _ rfl,rfl,rfl⟩,fun b hb=>?_,q⟩
 have e:b=s1.heap.objs.size:=by simpa using hb
 subst e
 exact I1.fpOk (Nat.le_refl _) (I1.hok.fresh (Nat.le_refl _))
theorem range_it{pins:List (Addr×Obj)}{σ:St}{H:Hp}{s:Shared}{R:It→Hp→Prop}{E:Value→Shared→Prop}{lo hi:Int}{t u v:Tok}{tk:Nat}(I:Inv X pins σ H s)(h1:-(2 ^ 62)≤lo)(h2:lo < 2 ^ 62)(h3:-(2 ^ 62)≤hi)(h4:hi < 2 ^ 62)
  (q:R (Itr lo (hi - lo).toNat) H):wpAny (model X.prog X.w) X.A (pyIter (.ref s.heap.objs.size)) (PIE X pins σ tg R) E { s with heap:=s.heap.push { cls:=.type "range",data:=.fields #[.int lo t,.int hi u,.int 1 v] },toks:=tk }:=by
 refine wpAny_pyIter_range (IsRange.new ..) (small_one h1 h2 h3 h4) ?_
 have I1:Inv X pins σ H { s with heap:=s.heap.push { cls:=.type "range",data:=.fields #[.int lo t,.int hi u,.int 1 v] },toks:=tk }:=I.kept fun b o e=>Heap.get?_push_of_some _ e
 refine⟨(s.heap.push { cls:=.type "range",data:=.fields #[.int lo t,.int hi u,.int 1 v] }).objs.size,[(s.heap.push { cls:=.type "range",data:=.fields #[.int lo t,.int hi u,.int 1 v] }).objs.size],_,_,H,rfl,
  I1.kept (t':=tk) fun b o e=>Heap.get?_push_of_some _ e,turn_range _ lo (hi - lo).toNat,?_,fun b hb=>?_,q⟩
 ·have e1:lo+((0:Nat):Int) * 1=lo:=by simp
  have e2:(((hi - lo).toNat:Nat):Int) - ((0:Nat):Int)=Builtin.Range.rangeSize lo hi 1:=by rw[rangeSize_one];split<;>omega
  show IsRangeIter _ _ (lo+((0:Nat):Int) * 1) ((((hi - lo).toNat:Nat):Int) - ((0:Nat):Int)) 1
  rw[e1,e2]
  exact Heap.get?_push_size _ rfl
 ·have e:b=(s.heap.push { cls:=.type "range",data:=.fields #[.int lo t,.int hi u,.int 1 v] }).objs.size:=by simpa using hb
  subst e
  exact I1.fpOk (Nat.le_refl _) (I1.hok.fresh (Nat.le_refl _))
def iRng1(ta:TA):TI:=fun σ H R=>ta σ H fun vs H1=>∃ j:Int,vs=[.int j]∧-(2 ^ 62)≤j∧j < 2 ^ 62∧R (Itr 0 j.toNat) H1
theorem pi_range1{a:Expr}{ta:TA}{p pos:Pos}(hg:Gl X "range")(hm:X.mg "range" = none)(ha:PA X [a] ta)(hs:starEach [a] X.env=[(false,eval a X.env)]:=by rfl):PI X tg (.Call (.Name "range" p) [a] [] pos) (iRng1 ta):=by
 intro pins s σ H R I h
 refine Call_ (ld_blt I hg hm boot_range (PyProof.Rows.callWith_type1 (thn (ha pos pins s σ H _ I h) fun us s1 ⟨vs,H1,I1,r1,q1⟩=>?_) hs rfl))
 obtain⟨j,e,q1,q2,q⟩:=q1
 subst e
 cases r1 with
 | cons r rr=>
  cases rr
  obtain⟨t,rfl⟩:=r
  exact call_range_1 (range_it I1 (by omega) (by omega) q1 q2 (by simpa using q))
def tFor(wi:TI)(g:TG)(tb:TS):TS:=fun D σ H=>wi σ H fun J H1=>∃ W:Nat→Nat→St→Hp→Prop,(∃ m,W 0 m σ H1)∧∀ i m σ H,W i m σ H →
 (J.stop i H∧D.nx σ H)∨(J.go i H∧∃ N:St→Hp→Prop,(∀ σ' H',N σ' H'→∃ m',m' < m∧W (i+1) m' σ' H')∧∀ x H',J.yld i H x H'→g x σ H' fun σ2 H2=>tb { D with nx:=N,ct:=N,bk:=D.nx } σ2 H2)
def pinsAt(fp:List Addr)(h:Heap):List (Addr×Obj):=fp.filterMap fun b=>(h.get? b).map fun o=>(b,o)
theorem mem_pinsAt{fp:List Addr}{h:Heap}{b:Addr}{o:Obj}(hb:b∈fp)(e:h.get? b=some o):(b,o)∈pinsAt fp h:=List.mem_filterMap.mpr ⟨b,hb,by rw[e];rfl⟩
theorem of_pinsAt{fp:List Addr}{h:Heap}{p:Addr×Obj}(hp:p∈pinsAt fp h):p.1∈fp∧h.get? p.1=some p.2:=by
 obtain⟨b,hb,e⟩:=List.mem_filterMap.mp hp
 cases q:h.get? b with
 | none=>rw[q] at e;cases e
 | some o=>
  rw[q] at e
  have e':(b,o)=p:=Option.some.inj e
  subst e'
  exact⟨hb,q⟩
theorem Inv.pinned{pins:List (Addr×Obj)}{σ:St}{H:Hp}{s:Shared}{fp:List Addr}(I:Inv X pins σ H s)(hf:∀ b∈fp,FpOk X pins H b)(ho:∀ b∈fp,∃ o,s.heap.get? b=some o∧∀ v,o.data ≠ .cell v):Inv X (pins++pinsAt fp s.heap) σ H s:=
 I.pins_of fun p hp=>(List.mem_append.mp hp).elim (fun z=>I.pin p (List.mem_append_right _ z)) fun z=>by
  obtain⟨hb,e⟩:=of_pinsAt z
  obtain⟨f0,f1,f2,_⟩:=hf p.1 hb
  obtain⟨o,e',d⟩:=ho p.1 hb
  rw[e] at e';cases e'
  exact⟨e,f0,f1,f2,d⟩
theorem Inv.unpinned{pins pl:List (Addr×Obj)}{σ:St}{H:Hp}{s:Shared}(I:Inv X (pins++pl) σ H s):Inv X pins σ H s:=I.pins_of fun p hp=>I.pin p (List.mem_append_right _ (List.mem_append_left _ hp))
theorem ps_for{iter:Expr}{body:List Stmt}{wi:TI}{g:TG}{tb:TS}{pos:Pos}(hp:PassesOwn (model X.prog X.w) X.A X.env X.xe)(hc:X.calm=true)(hi:PI X tg iter wi)(hg:PG X tg g)(hb:PSs X body tb)
  (hs:∀ x,foldedSetIterable iter X.env x=pure x:=by intro _;rfl):PS X (.For tg iter body [] pos) (tFor wi g tb):=by
 intro pins s σ H D I h
 refine wpAny_For (thn (hi pins s σ H _ I h) fun v s1 h1=>thn h1 fun itv s2 h2=>?_) hs
 obtain⟨it,fp,tn,J,H2,e,I2,T,st2,f2,W,⟨m0,w0⟩,turn⟩:=h2
 subst e
 have stat:∀{H':Hp},(∀ b∈fp,H' b=none)→∀ b∈fp,FpOk X pins H' b:=fun hn b hb=>⟨hn b hb,(f2 b hb).2⟩
 refine codeAny_forLoop_any (fun n s'=>∃ i σ' H',Inv X pins σ' H' s'∧tn i s'.heap∧(∀ b∈fp,H' b=none)∧W i n σ' H') ?_ m0 ⟨0,σ,H2,I2,st2,fun b hb=>(f2 b hb).1,w0⟩
 rintro n s3 ⟨i,σ3,H3,I3,st3,fr3,w3⟩
 rcases turn i n σ3 H3 w3 with⟨stop,qn⟩ | ⟨go,N,hN,step⟩
 ·refine wpAny_passesOwn hp (thn (T.done X rfl rfl rfl hc i pins s3 σ3 H3 X.xe I3 (stat fr3) st3 stop) fun r s4 ⟨hr,I4⟩=>?_)
  subst hr
  exact wpAny_execs_nil ⟨σ3,H3,I4,qn⟩
 ·refine wpAny_passesOwn hp (thn (T.item X rfl rfl rfl hc i pins s3 σ3 H3 X.xe I3 (stat fr3) st3 go) fun r s4 ⟨u,hr,h4⟩=>?_)
  subst hr
  refine wpAny_passesOwn hp (thn h4 fun _ s5 ⟨x,H5,I5,r5,y5,st5,fr5⟩=>?_)
  have I5':=I5.pinned (stat fr5) (T.obj _ _ st5)
  refine wpAny_passesOwn hp (thn (hg _ s5 σ3 H5 x u _ I5' r5 (step x H5 y5)) fun _ s6 ⟨σ6,H6,I6,q6⟩=>?_)
  refine wpAny_passesOwn hp (thn (hb _ s6 σ6 H6 _ I6 q6) fun f s7 q7=>?_)
  have again:∀{σ7:St} {H7:Hp},Inv X (pins++pinsAt fp s5.heap) σ7 H7 s7→N σ7 H7→∃ m,m < n∧∃ i σ' H',Inv X pins σ' H' s7∧tn i s7.heap∧(∀ b∈fp,H' b=none)∧W i m σ' H':=fun {σ7 H7} I7 n7=>by
   obtain⟨m',hm,w7⟩:=hN σ7 H7 n7
   refine⟨m',hm,i+1,σ7,H7,I7.unpinned,T.keep _ _ _ st5 fun b hb o e=>(I7.pin (b,o) (List.mem_append_right _ (List.mem_append_right _ (mem_pinsAt hb e)))).1,fun b hb=>?_,w7⟩
   obtain⟨o,e,d⟩:=T.obj _ _ st5 b hb
   exact(I7.pin (b,o) (List.mem_append_right _ (List.mem_append_right _ (mem_pinsAt hb e)))).2.1
  cases f with
  | next=>obtain⟨σ7,H7,I7,n7⟩:=q7;exact again I7 n7
  | cont=>obtain⟨σ7,H7,I7,n7⟩:=q7;exact again I7 n7
  | brk=>obtain⟨σ7,H7,I7,q7⟩:=q7;exact⟨σ7,H7,I7.unpinned,q7⟩
  | ret v=>obtain⟨x7,σ7,H7,I7,r7,q7⟩:=q7;exact⟨x7,σ7,H7,I7.unpinned,r7,q7⟩
end
theorem for_list{K:PySem.W.Frag}{a:Addr}{xs:List V}{g:TG}{tb:TS}{D:Ends}{σ:St}{H:Hp}(Pv:Nat→St→Hp→Prop)(h0:Pv 0 σ H)(hl:∀ i σ H,i≤xs.length→Pv i σ H→SqL K H a xs)
  (hs:∀ i x σ H,xs[i]? = some x→Pv i σ H→g x σ H fun σ2 H2=>tb { D with nx:=Pv (i+1),ct:=Pv (i+1),bk:=D.nx } σ2 H2) (hd:∀ σ H,Pv xs.length σ H→D.nx σ H) :
  ∃ W:Nat→Nat→St→Hp→Prop,(∃ m,W 0 m σ H)∧∀ i m σ H,W i m σ H →
   ((Itl K a).stop i H∧D.nx σ H)∨((Itl K a).go i H∧∃ N:St→Hp→Prop,(∀ σ' H',N σ' H'→∃ m',m' < m∧W (i+1) m' σ' H')∧∀ x H',(Itl K a).yld i H x H'→g x σ H' fun σ2 H2=>tb { D with nx:=N,ct:=N,bk:=D.nx } σ2 H2):=by
 refine⟨fun i m σ H=>m=xs.length - i∧i≤xs.length∧Pv i σ H,⟨xs.length,by simp,Nat.zero_le _,h0⟩,?_⟩
 rintro i m σ H ⟨rfl,hi,p⟩
 have q:=hl i σ H hi p
 by_cases hlt:i < xs.length
 ·refine .inr ⟨⟨xs,xs[i],q,by simp [hlt]⟩,Pv (i+1),fun σ' H' p'=>⟨xs.length - (i+1),by omega,rfl,hlt,p'⟩,fun x H' y=>?_⟩
  obtain⟨e,y⟩:=y
  subst e
  exact hs i x σ _ (y xs q) p
 ·have e:i=xs.length:=by omega
  subst e
  exact .inl ⟨⟨xs,q,Nat.le_refl _⟩,hd σ H p⟩
theorem for_tup{K:PySem.W.Frag}{a:Addr}{xs:List V}{g:TG}{tb:TS}{D:Ends}{σ:St}{H:Hp}(Pv:Nat→St→Hp→Prop)(h0:Pv 0 σ H)(hl:∀ i σ H,i≤xs.length→Pv i σ H→SqT K H a xs)
  (hs:∀ i x σ H,xs[i]? = some x→Pv i σ H→g x σ H fun σ2 H2=>tb { D with nx:=Pv (i+1),ct:=Pv (i+1),bk:=D.nx } σ2 H2) (hd:∀ σ H,Pv xs.length σ H→D.nx σ H) :
  ∃ W:Nat→Nat→St→Hp→Prop,(∃ m,W 0 m σ H)∧∀ i m σ H,W i m σ H →
   ((Itt K a).stop i H∧D.nx σ H)∨((Itt K a).go i H∧∃ N:St→Hp→Prop,(∀ σ' H',N σ' H'→∃ m',m' < m∧W (i+1) m' σ' H')∧∀ x H',(Itt K a).yld i H x H'→g x σ H' fun σ2 H2=>tb { D with nx:=N,ct:=N,bk:=D.nx } σ2 H2):=by
 refine⟨fun i m σ H=>m=xs.length - i∧i≤xs.length∧Pv i σ H,⟨xs.length,by simp,Nat.zero_le _,h0⟩,?_⟩
 rintro i m σ H ⟨rfl,hi,p⟩
 have q:=hl i σ H hi p
 by_cases hlt:i < xs.length
 ·refine .inr ⟨⟨xs,xs[i],q,by simp [hlt]⟩,Pv (i+1),fun σ' H' p'=>⟨xs.length - (i+1),by omega,rfl,hlt,p'⟩,fun x H' y=>?_⟩
  obtain⟨e,y⟩:=y
  subst e
  exact hs i x σ _ (y xs q) p
 ·have e:i=xs.length:=by omega
  subst e
  exact .inl ⟨⟨xs,q,Nat.le_refl _⟩,hd σ H p⟩
theorem for_range{lo:Int}{n:Nat}{g:TG}{tb:TS}{D:Ends}{σ:St}{H:Hp}(Pv:Nat→St→Hp→Prop)(h0:Pv 0 σ H)
  (hs:∀ i σ H,i < n→Pv i σ H→g (.int (lo+i)) σ H fun σ2 H2=>tb { D with nx:=Pv (i+1),ct:=Pv (i+1),bk:=D.nx } σ2 H2) (hd:∀ σ H,Pv n σ H→D.nx σ H) :
  ∃ W:Nat→Nat→St→Hp→Prop,(∃ m,W 0 m σ H)∧∀ i m σ H,W i m σ H →
   ((Itr lo n).stop i H∧D.nx σ H)∨((Itr lo n).go i H∧∃ N:St→Hp→Prop,(∀ σ' H',N σ' H'→∃ m',m' < m∧W (i+1) m' σ' H')∧∀ x H',(Itr lo n).yld i H x H'→g x σ H' fun σ2 H2=>tb { D with nx:=N,ct:=N,bk:=D.nx } σ2 H2):=by
 refine⟨fun i m σ H=>m=n - i∧i≤n∧Pv i σ H,⟨n,by simp,Nat.zero_le _,h0⟩,?_⟩
 rintro i m σ H ⟨rfl,hi,p⟩
 by_cases hlt:i < n
 ·refine .inr ⟨hlt,Pv (i+1),fun σ' H' p'=>⟨n - (i+1),by omega,rfl,hlt,p'⟩,fun x H' y=>?_⟩
  obtain⟨e,y⟩:=y
  subst e y
  exact hs i σ _ hlt p
 ·have e:i=n:=by omega
  subst e
  exact .inl ⟨Nat.le_refl _,hd σ H p⟩
theorem while_by{c:TT}{tb:TS}{D:Ends}{σ:St}{H:Hp}(Pv:St→Hp→Prop)(μ:St→Hp→Nat)(h0:Pv σ H)
  (hs:∀ σ H,Pv σ H→c σ H fun b H1=>if b=true then tb { D with nx:=fun σ' H'=>Pv σ' H'∧μ σ' H' < μ σ H,ct:=fun σ' H'=>Pv σ' H'∧μ σ' H' < μ σ H,bk:=D.nx } σ H1 else D.nx σ H1)
  (mono:∀ σ H Q Q',(∀ b H1,Q b H1→Q' b H1)→c σ H Q→c σ H Q'):tWhile c tb D σ H:=by
 refine⟨fun m σ H=>m=μ σ H∧Pv σ H,⟨_,rfl,h0⟩,?_⟩
 rintro m σ H ⟨rfl,p⟩
 refine mono σ H _ _ (fun b H1 q=>?_) (hs σ H p)
 cases b with
 | true=>exact⟨_,fun σ' H' ⟨p',l⟩=>⟨_,l,rfl,p'⟩,q⟩
 | false=>exact q
end L2
namespace L2
open PySem PySem.Spec PyProof.Rows
abbrev R2:=V→V→Hp→VK→Prop
def OpR(X:Cx)(f:Value→Value→Sem Value)(r:R2):Prop:=
 ∀(pins:List (Addr×Obj)) (s:Shared) (σ:St) (H:Hp) (x y:V) (v u:Value) (Q:VK),Inv X pins σ H s→RelV x v→RelV y u→r x y H Q →
  wpAny (model X.prog X.w) X.A (f v u) (EP X pins σ Q) X.xe s
def UnR(X:Cx)(f:Value→Sem Value)(r:V→Hp→VK→Prop):Prop:=
 ∀(pins:List (Addr×Obj)) (s:Shared) (σ:St) (H:Hp) (x:V) (v:Value) (Q:VK),Inv X pins σ H s→RelV x v→r x H Q →
  wpAny (model X.prog X.w) X.A (f v) (EP X pins σ Q) X.xe s
def CallR(X:Cx)(f:Value)(r:List V→Hp→VK→Prop):Prop:=
 ∀(pins:List (Addr×Obj)) (s:Shared) (σ:St) (H:Hp) (xs:List V) (us:List Value) (Q:VK),Inv X pins σ H s→Vals xs us→r xs H Q →
  wpAny (model X.prog X.w) X.A (call f us) (EP X pins σ Q) X.xe s
def TruR(X:Cx)(r:V→Hp→(Bool→Hp→Prop)→Prop):Prop:=
 ∀(pins:List (Addr×Obj)) (s:Shared) (σ:St) (H:Hp) (x:V) (v:Value) (Q:Bool→Hp→Prop),Inv X pins σ H s→RelV x v→r x H Q →
  wpAny (model X.prog X.w) X.A (truthy v) (TP X pins σ Q) X.xe s
def tOp(r:R2)(ta tb:TE):TE:=fun σ H Q=>ta σ H fun x H1=>tb σ H1 fun y H2=>r x y H2 Q
def tUn(r:V→Hp→VK→Prop)(ta:TE):TE:=fun σ H Q=>ta σ H fun x H1=>r x H1 Q
def rI(C:Int→Int→Prop)(g:Int→Int→V):R2:=fun x y H Q=>∃ i j,x = .int i∧y = .int j∧C i j∧Q (g i j) H
def rI0(g:Int→Int→V):R2:=fun x y H Q=>∃ i j,x = .int i∧y = .int j∧Q (g i j) H
def rU(g:Int→V):V→Hp→VK→Prop:=fun x H Q=>∃ i,x = .int i∧Q (g i) H
section
variable{X:Cx}{a b c:Expr}{ta tb tc:TE}{pos:Pos}
theorem binT(ha:PE X a ta)(hb:PE X b tb){pins:List (Addr×Obj)}{s:Shared}{σ:St}{H:Hp}{R:V→V→Hp→Prop}(I:Inv X pins σ H s)
  (h:ta σ H fun x H1=>tb σ H1 fun y H2=>R x y H2) {Q:Value→Shared→Prop} {f:Value→Value→Sem Value}
  (hf:∀ v u s2 x y H2,Inv X pins σ H2 s2→RelV x v→RelV y u→R x y H2→wpAny (model X.prog X.w) X.A (f v u) Q X.xe s2) :
  wpAny (model X.prog X.w) X.A (eval a X.env) (fun v s₁=>wpAny (model X.prog X.w) X.A (eval b X.env) (fun u s₂=>wpAny (model X.prog X.w) X.A (f v u) Q X.xe s₂) X.xe s₁) X.xe s:=by
 refine thn (ha pins s σ H _ I h) fun v s1 ⟨x,H1,I1,r1,q1⟩=>?_
 refine thn (hb pins s1 σ H1 _ I1 q1) fun u s2 ⟨y,H2,I2,r2,q2⟩=>?_
 exact hf v u s2 x y H2 I2 r1 r2 q2
theorem pe_op{op:Operator}{r:R2}(ho:OpR X (binaryOp op) r)(ha:PE X a ta)(hb:PE X b tb):PE X (.BinOp a op b pos) (tOp r ta tb):=by
 intro pins s σ H Q I h
 exact wpAny_BinOp (binT ha hb I h fun v u s2 x y H2 I2 rx ry q=>ho pins s2 σ H2 x y v u Q I2 rx ry q)
theorem pe_un{op:UnaryOp}{r:V→Hp→VK→Prop}(ho:UnR X (unaryOp op) r)(ha:PE X a ta):PE X (.UnaryOp op a pos) (tUn r ta):=by
 intro pins s σ H Q I h
 exact UnaryOp_ (thn (ha pins s σ H _ I h) fun v s1 ⟨x,H1,I1,r1,q1⟩=>ho pins s1 σ H1 x v Q I1 r1 q1)
theorem opI{f:Value→Value→Sem Value}{C:Int→Int→Prop}{g:Int→Int→Int}
  (rule:∀(i j:Int) (t u:Tok) (s:Shared) (Q:Value→Shared→Prop) (E:Value→Shared→Prop),C i j→Q (.int (g i j) s.toks) { s with toks:=s.toks+1 }→wpAny (model X.prog X.w) X.A (f (.int i t) (.int j u)) Q E s) :
  OpR X f (rI C fun i j=>.int (g i j)):=by
 intro pins s σ H x y v u Q I rx ry h
 obtain⟨i,j,rfl,rfl,hc,q⟩:=h
 obtain⟨t,rfl⟩:=rx
 obtain⟨t',rfl⟩:=ry
 exact rule i j t t' s _ _ hc ⟨.int (g i j),H,I.tok _,⟨_,rfl⟩,q⟩
theorem opI0{f:Value→Value→Sem Value}{g:Int→Int→Int}
  (rule:∀(i j:Int) (t u:Tok) (s:Shared) (Q:Value→Shared→Prop) (E:Value→Shared→Prop),Q (.int (g i j) s.toks) { s with toks:=s.toks+1 }→wpAny (model X.prog X.w) X.A (f (.int i t) (.int j u)) Q E s) :
  OpR X f (rI0 fun i j=>.int (g i j)):=by
 intro pins s σ H x y v u Q I rx ry h
 obtain⟨i,j,rfl,rfl,q⟩:=h
 obtain⟨t,rfl⟩:=rx
 obtain⟨t',rfl⟩:=ry
 exact rule i j t t' s _ _ ⟨.int (g i j),H,I.tok _,⟨_,rfl⟩,q⟩
theorem opB0{f:Value→Value→Sem Value}{g:Int→Int→Bool}
  (rule:∀(i j:Int) (t u:Tok) (s:Shared) (Q:Value→Shared→Prop) (E:Value→Shared→Prop),Q (.bool (g i j)) s→wpAny (model X.prog X.w) X.A (f (.int i t) (.int j u)) Q E s) :
  OpR X f (rI0 fun i j=>.bl (g i j)):=by
 intro pins s σ H x y v u Q I rx ry h
 obtain⟨i,j,rfl,rfl,q⟩:=h
 obtain⟨t,rfl⟩:=rx
 obtain⟨t',rfl⟩:=ry
 exact rule i j t t' s _ _ ⟨.bl (g i j),H,I,rfl,q⟩
def CDiv(i j:Int):Prop:=0 < j∧j < 1073741824
def CPow(i j:Int):Prop:=0≤j∧j≤1000000∧i.natAbs < 2 ^ 64
def CMul(i j:Int):Prop:=(-(2 ^ 64) < i∧i < 2 ^ 64)∨(-(2 ^ 64) < j∧j < 2 ^ 64)
theorem CMul.ok{i j:Int}(h:CMul i j):IntMulOk i j:=by
 rcases h with⟨h1,h2⟩ | ⟨h1,h2⟩
 ·exact .of_left (intBits_le_64 h1 h2)
 ·exact .of_right (intBits_le_64 h1 h2)
theorem two_pow_nn(k:Nat):(0:Int)≤2 ^ k:=by
 rw[two_pow_cast]
 exact Int.natCast_nonneg _
theorem op_add:OpR X (binaryOp .Add) (rI0 fun i j=>.int (i+j)):=opI0 fun _ _ _ _ _ _ _ q=>add_int q
theorem op_sub:OpR X (binaryOp .Sub) (rI0 fun i j=>.int (i - j)):=opI0 fun _ _ _ _ _ _ _ q=>sub_int q
theorem op_mul:OpR X (binaryOp .Mult) (rI CMul fun i j=>.int (i * j)):=opI fun _ _ _ _ _ _ _ hc q=>mul_int q hc.ok
theorem op_fdiv:OpR X (binaryOp .FloorDiv) (rI CDiv fun i j=>.int (i / j)):=opI fun i j _ _ _ _ _ hc q=>by
 have h1:(0:Int) < j:=hc.1
 have h2:j < 1073741824:=hc.2
 exact floordiv_int (by omega) (by rw[Int.fdiv_eq_ediv_of_nonneg i (by omega)];exact q) (.inl (PyProof.noPylong_small (by omega)))
theorem op_mod:OpR X (binaryOp .Mod) (rI (fun _ j=>0 < j) fun i j=>.int (i % j)):=opI fun i j _ _ _ _ _ hc q=>by
 have h1:(0:Int) < j:=hc
 exact mod_int' (by omega) (by rw[Int.fmod_eq_emod_of_nonneg i (by omega)];exact q)
theorem op_pow:OpR X (binaryOp .Pow) (rI CPow fun i j=>.int (i ^ j.toNat)):=opI fun _ _ _ _ _ _ _ hc q=>pow_int_small hc.1 hc.2.1 hc.2.2 q
theorem op_shl:OpR X (binaryOp .LShift) (rI CPow fun i j=>.int (i * 2 ^ j.toNat)):=opI fun _ _ _ _ _ _ _ hc q=>lshift_int_small hc.1 hc.2.1 hc.2.2 q
theorem op_shr:OpR X (binaryOp .RShift) (rI (fun _ j=>0≤j) fun i j=>.int (i / 2 ^ j.toNat)):=opI fun i j _ _ _ _ _ hc q=>
 rshift_int hc (by rw[Int.fdiv_eq_ediv_of_nonneg i (two_pow_nn _)];exact q)
theorem op_and:OpR X (binaryOp .BitAnd) (rI0 fun i j=>.int (Builtin.bitAnd i j)):=opI0 fun _ _ _ _ _ _ _ q=>and_int q
theorem op_or:OpR X (binaryOp .BitOr) (rI0 fun i j=>.int (Builtin.bitOr i j)):=opI0 fun _ _ _ _ _ _ _ q=>or_int q
theorem op_xor:OpR X (binaryOp .BitXor) (rI0 fun i j=>.int (Builtin.bitXor i j)):=opI0 fun _ _ _ _ _ _ _ q=>xor_int q
theorem unI{f:Value→Sem Value}{g:Int→Int}
  (rule:∀(i:Int) (t:Tok) (s:Shared) (Q:Value→Shared→Prop) (E:Value→Shared→Prop),Q (.int (g i) s.toks) { s with toks:=s.toks+1 }→wpAny (model X.prog X.w) X.A (f (.int i t)) Q E s) :
  UnR X f (rU fun i=>.int (g i)):=by
 intro pins s σ H x v Q I rx h
 obtain⟨i,rfl,q⟩:=h
 obtain⟨t,rfl⟩:=rx
 exact rule i t s _ _ ⟨.int (g i),H,I.tok _,⟨_,rfl⟩,q⟩
theorem un_neg:UnR X (unaryOp .USub) (rU fun i=>.int (-i)):=unI fun _ _ _ _ _ q=>neg_int q
end
def scal:V→V→Bool
 | .non,.non=>true | .non,.int _=>true | .int _,.non=>true | .non,.bl _=>true | .bl _,.non=>true | .non,.str _=>true | .str _,.non=>true
 | .int _,.int _=>true | .bl _,.bl _=>true | .str _,.str _=>true | .byt _,.byt _=>true
 | .int _,.str _=>true | .str _,.int _=>true | .bl _,.str _=>true | .str _,.bl _=>true
 | _,_=>false
def rEq:R2:=fun x y H Q=>scal x y=true∧Q (.bl (decide (x=y))) H
def rNe:R2:=fun x y H Q=>scal x y=true∧Q (.bl (!decide (x=y))) H
theorem dec_int{i j:Int}:decide (V.int i=V.int j)=(i == j):=by
 rw[Bool.eq_iff_iff]
 simp
theorem dec_bl{i j:Bool}:decide (V.bl i=V.bl j)=(i == j):=by
 rw[Bool.eq_iff_iff]
 simp
theorem dec_str{i j:Str}:decide (V.str i=V.str j)=(i == j):=by
 rw[Bool.eq_iff_iff]
 simp
theorem dec_byt{i j:Array UInt8}:decide (V.byt i=V.byt j)=(i.toList == j.toList):=by
 rw[Bool.eq_iff_iff]
 cases i
 cases j
 simp
section
variable{X:Cx}{a b c:Expr}{ta tb tc:TE}{pos:Pos}
theorem fin_bl{pins:List (Addr×Obj)}{σ:St}{H:Hp}{s:Shared}{Q:VK}{k k':Bool}(I:Inv X pins σ H s)(q:Q (.bl k) H)(e:k=k'):EP X pins σ Q (.bool k') s:=by
 subst e
 exact⟨.bl k,H,I,rfl,q⟩
theorem op_eq:OpR X (compareOp .Eq) rEq:=by
 intro pins s σ H x y v u Q I rx ry h
 obtain⟨hs,q⟩:=h
 cases x with
 | non=>
  cases rx
  cases y with
  | non=>cases ry;exact PySem.EqNone.eq_none_none (fin_bl I q (by simp))
  | bl j=>cases ry;exact PySem.EqNone.eq_none_bool (fin_bl I q (by simp))
  | int j=>obtain⟨t',rfl⟩:=ry;exact PySem.EqNone.eq_none_int (fin_bl I q (by simp))
  | str j=>obtain⟨t',rfl⟩:=ry;exact PySem.EqNone.eq_none_str (fin_bl I q (by simp))
  | _=>exact absurd (show false=true from hs) Bool.false_ne_true
 | bl i=>
  cases rx
  cases y with
  | non=>cases ry;exact PySem.EqNone.eq_bool_none (fin_bl I q (by simp))
  | bl j=>cases ry;exact eq_bool (fin_bl I q dec_bl)
  | str j=>obtain⟨t',rfl⟩:=ry;exact PySem.EqMixed.eq_bool_str (fin_bl I q (by simp))
  | _=>exact absurd (show false=true from hs) Bool.false_ne_true
 | int i=>
  obtain⟨t,rfl⟩:=rx
  cases y with
  | non=>cases ry;exact PySem.EqNone.eq_int_none (fin_bl I q (by simp))
  | int j=>obtain⟨t',rfl⟩:=ry;exact eq_int (fin_bl I q dec_int)
  | str j=>obtain⟨t',rfl⟩:=ry;exact PySem.EqMixed.eq_int_str (fin_bl I q (by simp))
  | _=>exact absurd (show false=true from hs) Bool.false_ne_true
 | str i=>
  obtain⟨t,rfl⟩:=rx
  cases y with
  | non=>cases ry;exact PySem.EqNone.eq_str_none (fin_bl I q (by simp))
  | bl j=>cases ry;exact PySem.EqMixed.eq_str_bool (fin_bl I q (by simp))
  | int j=>obtain⟨t',rfl⟩:=ry;exact PySem.EqMixed.eq_str_int (fin_bl I q (by simp))
  | str j=>obtain⟨t',rfl⟩:=ry;exact eq_str (fin_bl I q dec_str)
  | _=>exact absurd (show false=true from hs) Bool.false_ne_true
 | byt i=>
  obtain⟨t,rfl⟩:=rx
  cases y with
  | byt j=>obtain⟨t',rfl⟩:=ry;exact PySem.W.eq_bytes (fin_bl I q dec_byt)
  | _=>exact absurd (show false=true from hs) Bool.false_ne_true
 | _=>cases y<;>exact absurd (show false=true from hs) Bool.false_ne_true
theorem op_ne:OpR X (compareOp .NotEq) rNe:=by
 intro pins s σ H x y v u Q I rx ry h
 obtain⟨hs,q⟩:=h
 cases x with
 | non=>
  cases rx
  cases y with
  | non=>cases ry;exact PySem.EqNone.ne_none_none (fin_bl I q (by simp))
  | bl j=>cases ry;exact PySem.EqNone.ne_none_bool (fin_bl I q (by simp))
  | int j=>obtain⟨t',rfl⟩:=ry;exact PySem.EqNone.ne_none_int (fin_bl I q (by simp))
  | str j=>obtain⟨t',rfl⟩:=ry;exact PySem.EqNone.ne_none_str (fin_bl I q (by simp))
  | _=>exact absurd (show false=true from hs) Bool.false_ne_true
 | bl i=>
  cases rx
  cases y with
  | non=>cases ry;exact PySem.EqNone.ne_bool_none (fin_bl I q (by simp))
  | bl j=>cases ry;exact ne_bool (fin_bl I q (congrArg not dec_bl))
  | str j=>obtain⟨t',rfl⟩:=ry;exact PySem.EqMixed.ne_bool_str (fin_bl I q (by simp))
  | _=>exact absurd (show false=true from hs) Bool.false_ne_true
 | int i=>
  obtain⟨t,rfl⟩:=rx
  cases y with
  | non=>cases ry;exact PySem.EqNone.ne_int_none (fin_bl I q (by simp))
  | int j=>obtain⟨t',rfl⟩:=ry;exact ne_int (fin_bl I q (congrArg not dec_int))
  | str j=>obtain⟨t',rfl⟩:=ry;exact PySem.EqMixed.ne_int_str (fin_bl I q (by simp))
  | _=>exact absurd (show false=true from hs) Bool.false_ne_true
 | str i=>
  obtain⟨t,rfl⟩:=rx
  cases y with
  | non=>cases ry;exact PySem.EqNone.ne_str_none (fin_bl I q (by simp))
  | bl j=>cases ry;exact PySem.EqMixed.ne_str_bool (fin_bl I q (by simp))
  | int j=>obtain⟨t',rfl⟩:=ry;exact PySem.EqMixed.ne_str_int (fin_bl I q (by simp))
  | str j=>obtain⟨t',rfl⟩:=ry;exact ne_str (fin_bl I q (congrArg not dec_str))
  | _=>exact absurd (show false=true from hs) Bool.false_ne_true
 | byt i=>
  obtain⟨t,rfl⟩:=rx
  cases y with
  | byt j=>obtain⟨t',rfl⟩:=ry;exact PySem.W.ne_bytes (fin_bl I q (congrArg not dec_byt))
  | _=>exact absurd (show false=true from hs) Bool.false_ne_true
 | _=>cases y<;>exact absurd (show false=true from hs) Bool.false_ne_true
theorem op_lt:OpR X (compareOp .Lt) (rI0 fun i j=>.bl (decide (i < j))):=opB0 fun _ _ _ _ _ _ _ q=>lt_int q
theorem op_le:OpR X (compareOp .LtE) (rI0 fun i j=>.bl (decide (i≤j))):=opB0 fun _ _ _ _ _ _ _ q=>le_int q
theorem op_gt:OpR X (compareOp .Gt) (rI0 fun i j=>.bl (decide (j < i))):=opB0 fun _ _ _ _ _ _ _ q=>gt_int q
theorem op_ge:OpR X (compareOp .GtE) (rI0 fun i j=>.bl (decide (j≤i))):=opB0 fun _ _ _ _ _ _ _ q=>ge_int q
theorem op_isN:OpR X (compareOp .Is) (fun x y H Q=>y = .non∧Q (.bl (decide (x = .non))) H):=by
 intro pins s σ H x y v u Q I rx ry h
 obtain⟨rfl,q⟩:=h
 cases ry
 refine is_none_gen (fin_bl I q ?_)
 cases x<;>first
  | (cases rx;rfl)
  | (obtain⟨t,rfl⟩:=rx;rfl)
theorem op_notN:OpR X (compareOp .IsNot) (fun x y H Q=>y = .non∧Q (.bl (!decide (x = .non))) H):=by
 intro pins s σ H x y v u Q I rx ry h
 obtain⟨rfl,q⟩:=h
 cases ry
 refine isnot_none_gen (fin_bl I q ?_)
 cases x<;>first
  | (cases rx;rfl)
  | (obtain⟨t,rfl⟩:=rx;rfl)
theorem nomark(b:Expr){op:CmpOp}(h:op ≠ .In:=by decide)(h2:op ≠ .NotIn:=by decide):behindInMarks op b=false:=by
 have e1:(op == CmpOp.In)=false:=by cases op<;>first | rfl | exact absurd rfl h
 have e2:(op == CmpOp.NotIn)=false:=by cases op<;>first | rfl | exact absurd rfl h2
 cases b<;>simp [behindInMarks,e1,e2]
theorem pe_cmpR{op:CmpOp}{r:R2}(ho:OpR X (compareOp op) r)(ha:PE X a ta)(hb:PE X b tb)(hm:behindInMarks op b=false):PE X (.Compare a [op] [b] pos) (tOp r ta tb):=by
 intro pins s σ H Q I h
 exact wpAny_Compare1 (binT ha hb I h fun v u s2 x y H2 I2 rx ry q=>ho pins s2 σ H2 x y v u Q I2 rx ry q) hm
def tTest(t:TE):TT:=fun σ H Q=>t σ H fun x H'=>∃ k,x = .bl k∧Q k H'
theorem pt_cmpR{op:CmpOp}{r:R2}(ho:OpR X (compareOp op) r)(ha:PE X a ta)(hb:PE X b tb)(hm:behindInMarks op b=false):PT X (.Compare a [op] [b] pos) (tTest (tOp r ta tb)):=by
 intro pins s σ H Q I h
 refine wpAny_isTrue_Compare1 (thn (ha pins s σ H _ I h) fun v s1 ⟨x,H1,I1,r1,q1⟩=>thn (hb pins s1 σ H1 _ I1 q1) fun u s2 ⟨y,H2,I2,r2,q2⟩=>
  thn (ho pins s2 σ H2 x y v u _ I2 r1 r2 q2) fun c s3 ⟨z,H3,I3,r3,k,e,q3⟩=>?_) hm
 subst e
 cases r3
 exact wpAny_truthy_bool ⟨H3,I3,q3⟩
def TruV(K:PySem.W.Frag)(x:V)(H:Hp)(k:Bool):Prop:=
 match x with
 | .non=>k=false
 | .bl b=>k=b
 | .int i=>k=(i != 0)
 | .str y=>y.length≤sizeLine∧k=((y.length:Int) != 0)
 | .byt y=>y.size≤sizeLine∧k=((y.size:Int) != 0)
 | .ref p=>(∃ xs,SqL K H p xs∧k = !xs.isEmpty)∨(∃ xs,SqT K H p xs∧k = !xs.isEmpty)∨∃ kvs,H p=some (.dK kvs)∧k = !kvs.isEmpty
 | _=>False
theorem isEmpty_kv{κ:Type}{kvs:List (κ×V)}{vs:List (κ×Value)}(r:KV kvs vs):(!vs.isEmpty) = !kvs.isEmpty:=by
 cases r<;>rfl
theorem isEmpty_of{xs:List V}{its:List Value}(r:Vals xs its):(!its.toArray.isEmpty) = !xs.isEmpty:=by
 cases r<;>simp
theorem line63:(sizeLine:Nat) < 2 ^ 63:=by rw[sizeLine_eq];decide
theorem tru_ok:TruR X (fun x H Q=>∃ k,TruV X.K x H k∧Q k H):=by
 intro pins s σ H x v Q I rx h
 obtain⟨k,e,q⟩:=h
 have hl:=line63
 have hs:sizeLine=16777216:=sizeLine_eq
 cases x with
 | non=>
  cases rx
  have e':k=false:=e
  subst e'
  exact truthy_none ⟨H,I,q⟩
 | bl b=>
  cases rx
  have e':k=b:=e
  subst e'
  exact wpAny_truthy_bool ⟨H,I,q⟩
 | int i=>
  obtain⟨t,rfl⟩:=rx
  have e':k=(i != 0):=e
  subst e'
  exact PySem.P.truthy_int ⟨H,I,q⟩
 | str y=>
  obtain⟨t,rfl⟩:=rx
  obtain⟨hy,e'⟩:y.length≤sizeLine∧k=((y.length:Int) != 0):=e
  subst e'
  exact PySem.P.truthy_str (by omega) ⟨H,I.tok _,q⟩
 | byt y=>
  obtain⟨t,rfl⟩:=rx
  obtain⟨hy,e'⟩:y.size≤sizeLine∧k=((y.size:Int) != 0):=e
  subst e'
  exact PySem.W.truthy_bytes (by omega) ⟨H,I.tok _,q⟩
 | ref p=>
  cases rx
  have e':(∃ xs,SqL X.K H p xs∧k = !xs.isEmpty)∨(∃ xs,SqT X.K H p xs∧k = !xs.isEmpty)∨∃ kvs,H p=some (.dK kvs)∧k = !kvs.isEmpty:=e
  rcases e' with⟨xs,hx,e'⟩ | ⟨xs,hx,e'⟩ | ⟨kvs,hx,e'⟩
  ·subst e'
   obtain⟨its,r,pl,hz⟩:=I.list hx
   have hlen:=r.length
   exact wpAny_truthy_list pl.isList (by simp only[List.size_toArray];omega) ⟨H,I.tok _,by rw[isEmpty_of r];exact q⟩
  ·subst e'
   obtain⟨its,r,pl,hz⟩:=I.tuple hx
   have hlen:=r.length
   exact truthy_tuple pl (by simp only[List.size_toArray];omega) ⟨H,I.tok _,by rw[isEmpty_of r];exact q⟩
  ·subst e'
   obtain⟨hz,hS,vs,r,m⟩:kvs.length≤sizeLine∧(p == sysModules)=false∧∃ vs,KV kvs vs∧s.heap.DictOf (mixKind X.prog X.w) p vs:=I.hok p _ hx
   have hlen:kvs.length=vs.length:=Paired.length r
   exact wpAny_truthy_dict hS m (by omega) ⟨H,I.tok _,by rw[isEmpty_kv r];exact q⟩
 | _=>exact(show False from e).elim
theorem pt_truth(ha:PE X a ta)(he:∀ whole,isTrue a X.env whole=(do let v ← whole;standAt a.pos;holding [v] (truthy v))) :
  PT X a (fun σ H Q=>ta σ H fun x H'=>∃ k,TruV X.K x H' k∧Q k H'):=by
 intro pins s σ H Q I h
 exact isTrue_plain (thn (ha pins s σ H _ I h) fun v s1 ⟨x,H1,I1,r1,q1⟩=>tru_ok pins s1 σ H1 x v Q I1 r1 q1) (he _)
theorem op_add_str:OpR X (binaryOp .Add) (fun x y H Q=>∃ i j,x = .str i∧y = .str j∧i.length+j.length≤sizeLine∧Q (.str (i++j)) H):=by
 intro pins s σ H x y v u Q I rx ry h
 obtain⟨i,j,rfl,rfl,hz,q⟩:=h
 obtain⟨t,rfl⟩:=rx
 obtain⟨t',rfl⟩:=ry
 exact add_str (fun t' tk=>⟨.str (i++j),H,I.tok _,⟨_,rfl⟩,q⟩) hz
theorem vals1{x:V}{us:List Value}(r:Vals [x] us):∃ u,us=[u]∧RelV x u:=by
 cases r with
 | cons r1 r2=>cases r2;exact⟨_,rfl,r1⟩
theorem vals2{x y:V}{us:List Value}(r:Vals [x,y] us):∃ u w',us=[u,w']∧RelV x u∧RelV y w':=by
 cases r with
 | cons r1 r2=>
  cases r2 with
  | cons r3 r4=>cases r4;exact⟨_,_,rfl,r1,r3⟩
theorem call_max2(hc:X.calm=true):CallR X (.builtin "max") (fun xs H Q=>∃ i j,xs=[.int i,.int j]∧Q (.int (if j > i then j else i)) H):=by
 intro pins s σ H xs us Q I r h
 obtain⟨i,j,rfl,q⟩:=h
 obtain⟨u,w',rfl,⟨t,rfl⟩,⟨t',rfl⟩⟩:=vals2 r
 refine max_two_ints (I.ok.hd hc) fun h' tk k=>⟨_,H,I.kept k,?_,q⟩
 by_cases hj:j > i
 ·rw[if_pos hj,if_pos hj];exact⟨_,rfl⟩
 ·rw[if_neg hj,if_neg hj];exact⟨_,rfl⟩
theorem call_str_int:CallR X (.type "str") (fun xs H Q=>∃ i,xs=[.int i]∧i.natAbs.log2 < 1920∧Q (.str (toString i)) H):=by
 intro pins s σ H xs us Q I r h
 obtain⟨i,rfl,hz,q⟩:=h
 obtain⟨u,rfl,t,rfl⟩:=vals1 r
 exact PySem.P.str_of_int hz ⟨.str _,H,I.tok _,⟨_,rfl⟩,q⟩
end
end L2
namespace L2
open PySem PySem.Spec PyProof.Rows
structure ObjM(h:Heap)(x dx C:Addr)(mA:Str→Option Value):Prop where
 obj:h.get? x=some (PySem.W.instObj C dx)
 ns:h.Ns1 dx mA
 ne:dx≠x
theorem lookIn_ns{h:Heap}{dx:Addr}{mA:Str→Option Value}(n:h.Ns1 dx mA):∃ od,h.get? dx=some od∧∀ name,PySem.W.lookIn name od=some (mA name):=by
 obtain⟨o,es,ep,ho,hd,hk,_,hm⟩:=n
 refine⟨o,ho,fun name=>?_⟩
 have e:=hm name
 unfold nsFind findBy at e
 rw[← Array.find?_toList] at e
 unfold PySem.W.lookIn
 rw[hd]
 dsimp only
 split
 ·rename_i y q
  rw[q] at e
  exact congrArg some e
 ·rename_i q
  rw[q] at e
  have a:es.toList.any (·.refKey)=false:=by
   rw[List.any_eq_false]
   intro y hy
   obtain⟨z,t,hkey⟩:=hk y (Array.mem_toList_iff.mp hy)
   simp [DictEntry.refKey,hkey]
  have a':¬ es.toList.any (·.refKey)=true:=by rw[a];exact Bool.false_ne_true
  rw[if_neg a']
  exact congrArg some e
theorem ObjM.look{h:Heap}{x dx C:Addr}{mA:Str→Option Value}(I:ObjM h x dx C mA):∃ od,PySem.W.InstAt h x (PySem.W.instObj C dx) C (some od)∧∀ name,PySem.W.lookIn name od=some (mA name):=
 let ⟨od,ho,hl⟩:=lookIn_ns I.ns
 ⟨od,⟨I.obj,rfl,rfl,ho⟩,hl⟩
section
variable{prog:Program}{w:World}{A:Around}{E:Value→Shared→Prop}{s:Shared}{K:PySem.W.Frag}{x dx C f:Addr}{mA:Str→Option Value}{name:Str}{v:Value}
theorem get_map{expr:Bool}{Q:Value→Shared→Prop}(X:K.In s.heap)(I:ObjM s.heap x dx C mA)(hg:PySem.W.plainGet K C name=true)(hh:PySem.W.hasDictIn K C=true)
  (ha:PySem.W.findIn K (.ref C) name=some none) (hv:mA name=some v) (hv':PySem.W.handedIn v=true) (h:Q v { s with toks:=s.toks+1 }) :
  wpAny (model prog w) A (getAttr (.ref x) name expr) Q E s:=by
 obtain⟨od,J,hl⟩:=I.look
 exact PySem.W.get_value X J (PySem.W.plainGet_of hg).1 (PySem.W.findObj_own hh ha rfl (by rw[hl,hv])) hv' h
theorem get_meth{pl:Sem Bool}{Q:Value×List Value→Shared→Prop}(X:K.In s.heap)(I:ObjM s.heap x dx C mA)(hg:PySem.W.plainGet K C name=true)
  (hf:PySem.W.findIn K (.ref C) name=some (some (.ref f))) (ht:PySem.W.isFn K (.ref f)=true) (hv:mA name=none) (h:Q (.ref f,[.ref x]) s) :
  wpAny (model prog w) A (getMethod (.ref x) name pl) Q E s:=by
 obtain⟨od,J,hl⟩:=I.look
 exact PySem.W.method_fn X J (PySem.W.plainGet_of hg).1 (PySem.W.plainGet_of hg).2 hf (beq_iff_eq.mp ht) (by show(PySem.W.lookIn name od).map (·.isSome)=some false;rw[hl,hv];rfl) h
theorem set_map{ns:List Str}{Q:Unit→Shared→Prop}(X:K.In s.heap)(I:ObjM s.heap x dx C mA)
  (hs:PySem.W.findIn K (.ref C) "__setattr__" = some (some (.builtin "object.__setattr__"))) (hp:PySem.W.plainOver K C=true) (ht:PySem.W.takerIn K C name=some none) (hh:PySem.W.hasDictIn K C=true)
  (hw:PySem.Within mA ns) (hsz:ns.length≤sizeLine)
  (h:∀ h',ObjM h' x dx C (fun y=>if y=name then some v else mA y)→Heap.SameBut dx s.heap h'→Q () { s with heap:=h',toks:=s.toks+2 }) :
  wpAny (model prog w) A (setAttr (.ref x) name v) Q E s:=by
 obtain⟨od,J,hl⟩:=I.look
 refine PySem.W.set_plain X J hs (PySem.W.osa_open (s:={ s with toks:=s.toks+1 }) (r:=none) X J hp ht fun b=>?_)
 obtain⟨cd,hc,hd'⟩:=PySem.W.any_some hh
 have hx:s.heap.get? x=some ⟨.ref C,some dx,.plain,#[]⟩:=I.obj
 refine wpAny_bind (wpAny_pure (wpAny_bind (wpAny_bind (wpAny_loadPart hx (wpAny_bind (PySem.W.Looks.here (s:={ s with toks:=s.toks+1 }) (PySem.W.looks_clsIn X hc) ?_))))))
 rw[hd']
 refine wpAny_pure (a:=some dx) (wpAny_bind (wpAny_pure (wpAny_bind ?_)))
 refine wpAny_nsSet1 (s:={ s with toks:=s.toks+1 }) I.ns fun h' hn2 hs2=>?_
 obtain⟨oD,esD,epD,hoD,hdD,hcD⟩:=hn2.count (PySem.Within.cons name v hw)
 refine wpAny_bind (wpAny_lookBehind hoD (by rw[hdD];exact pastItsLine_dict (Nat.le_trans hcD (by rw[List.length_cons];omega))) ?_)
 exact wpAny_pure (h _ ⟨(hs2.2 _ (Ne.symm I.ne)).trans I.obj,hn2,I.ne⟩ hs2)
theorem make_map{R:Result→Shared→Prop}{vs:List Value}{kw:List (Str×Value)}(X:K.In s.heap)(hm:PySem.W.makesIn K C=true)
  (hi:PySem.W.findIn K (.ref C) "__init__" = some (some (.ref f))) (hf:PySem.W.typeIn K (.ref f)=some (.type "function"))
  (h:codeAny (model prog w) (A.under (.builtin "type.__call__" ⟨.ref C :: vs,kw⟩)) (.call (.ref f) ⟨.ref (s.heap.objs.size+1) :: vs,kw⟩) (PySem.W.InitBack (s.heap.objs.size+1) R)
   { s with heap:=(s.heap.push PySem.W.emptyDict).push (PySem.W.instObj C s.heap.objs.size) }) :
  codeAny (model prog w) A (.call (.ref C) ⟨vs,kw⟩) R s:=by
 obtain⟨hh,g,d,t,os⟩:=s
 exact PySem.W.make_core (PySem.W.makes_of X hm) (PySem.W.looks_findIn X hi) (fun self=>PySem.W.bind_fn X self hf) (.inl rfl) h
theorem make_map0{R:Result→Shared→Prop}(X:K.In s.heap)(hm:PySem.W.makesIn K C=true)
  (hi:PySem.W.findIn K (.ref C) "__init__" = some (some (.builtin "object.__init__")))
  (hb:∀ self,PySem.W.Looks (model prog w) s.heap (bindSpecial (.builtin "object.__init__") self) (.builtin "object.__init__",[self]))
  (h:codeAny (model prog w) (A.under (.builtin "type.__call__" ⟨[.ref C],[]⟩)) (.call (.builtin "object.__init__") ⟨[.ref (s.heap.objs.size+1)],[]⟩) (PySem.W.InitBack (s.heap.objs.size+1) R)
   { s with heap:=(s.heap.push PySem.W.emptyDict).push (PySem.W.instObj C s.heap.objs.size) }) :
  codeAny (model prog w) A (.call (.ref C) ⟨[],[]⟩) R s:=by
 obtain⟨hh,g,d,t,os⟩:=s
 exact PySem.W.make_core (PySem.W.makes_of X hm) (PySem.W.looks_findIn X hi) hb (.inr ⟨rfl,rfl⟩) h
end
def putF(f:Str)(v:V):List (Str×V)→List (Str×V)
 | []=>[(f,v)]
 | (g,x) :: r=>if g=f then(g,v) :: r else(g,x) :: putF f v r
theorem lookup_putF(f g:Str)(v:V):∀ fs:List (Str×V),(putF f v fs).lookup g=if g=f then some v else fs.lookup g
 | []=>by
  show List.lookup g [(f,v)]=_
  by_cases h:g=f
  ·have hb:(g == f)=true:=beq_iff_eq.mpr h
   simp only[List.lookup,hb,if_pos h]
  ·have hb:(g == f)=false:=beq_eq_false_iff_ne.mpr h
   simp only[List.lookup,hb,if_neg h]
 | (k,x) :: r=>by
  have ih:=lookup_putF f g v r
  rw[show putF f v ((k,x) :: r)=(if k=f then(k,v) :: r else(k,x) :: putF f v r) from rfl]
  by_cases hk:k=f
  ·rw[if_pos hk]
   by_cases h:g=k
   ·have hb:(g == k)=true:=beq_iff_eq.mpr h
    simp only[List.lookup,hb,if_pos (h.trans hk)]
   ·have hb:(g == k)=false:=beq_eq_false_iff_ne.mpr h
    simp only[List.lookup,hb,if_neg (fun e:g=f=>h (e.trans hk.symm))]
  ·rw[if_neg hk]
   by_cases h:g=k
   ·have hb:(g == k)=true:=beq_iff_eq.mpr h
    simp only[List.lookup,hb,if_neg (fun e:g=f=>hk (h.symm.trans e))]
   ·have hb:(g == k)=false:=beq_eq_false_iff_ne.mpr h
    simp only[List.lookup,hb]
    exact ih
theorem keys_putF(f:Str)(v:V):∀ fs:List (Str×V),f∈(putF f v fs).map (·.1)∧∀ g,g∈fs.map (·.1)→g∈(putF f v fs).map (·.1)
 | []=>⟨by simp [putF],fun g h=>by simp at h⟩
 | (k,x) :: r=>by
  obtain⟨i1,i2⟩:=keys_putF f v r
  rw[show putF f v ((k,x) :: r)=(if k=f then(k,v) :: r else(k,x) :: putF f v r) from rfl]
  by_cases hk:k=f
  ·rw[if_pos hk]
   subst hk
   exact⟨by simp,fun g h=>by simpa using h⟩
  ·rw[if_neg hk]
   refine⟨?_,fun g h=>?_⟩
   ·rw[List.map_cons]
    exact List.mem_cons_of_mem _ i1
   ·rw[List.map_cons] at h ⊢
    rcases List.mem_cons.mp h with e | e
    ·exact List.mem_cons.mpr (.inl e)
    ·exact List.mem_cons_of_mem _ (i2 g e)
theorem length_putF(f:Str)(v:V):∀ fs:List (Str×V),(putF f v fs).length≤fs.length+1
 | []=>by simp [putF]
 | (k,x) :: r=>by
  have ih:=length_putF f v r
  rw[show putF f v ((k,x) :: r)=(if k=f then(k,v) :: r else(k,x) :: putF f v r) from rfl]
  by_cases hk:k=f
  ·rw[if_pos hk,List.length_cons,List.length_cons];omega
  ·rw[if_neg hk,List.length_cons,List.length_cons];omega
theorem RelO.some_of{v:V}{o:Option Value}(r:RelO (some v) o):∃ u,o=some u∧RelV v u:=by
 cases o with
 | none=>exact(show False from r).elim
 | some u=>exact⟨u,rfl,r⟩
theorem RelO.none_of{o:Option Value}(r:RelO none o):o=none:=by
 cases o with
 | none=>rfl
 | some u=>exact(show False from r).elim
theorem handed_of{v:V}{u:Value}(r:RelV v u):PySem.W.handedIn u=true:=by
 cases v with
 | non=>cases (show u=Value.none from r);rfl
 | bl b=>cases (show u=Value.bool b from r);rfl
 | int i=>obtain⟨t,e⟩:=(show ∃ t,u=Value.int i t from r);cases e;rfl
 | str x=>obtain⟨t,e⟩:=(show ∃ t,u=Value.str x t from r);cases e;rfl
 | byt b=>obtain⟨t,e⟩:=(show ∃ t,u=Value.bytes b t from r);cases e;rfl
 | flt b=>obtain⟨t,e⟩:=(show ∃ t,u=Value.float b t from r);cases e;rfl
 | ref a=>cases (show u=Value.ref a from r);rfl
 | ty n=>cases (show u=Value.type n from r);rfl
section
variable{P:Program}{w:World}{H H':Hp}{h h':Heap}{a C dx:Addr}{fs fs':List (Str×V)}
theorem ins_get(hok:HOk P w H h)(e:H a=some (.ins C dx fs)):∃ mA,ObjM h a dx C mA∧(∀ f,RelO (fs.lookup f) (mA f))∧PySem.Within mA (fs.map (·.1))∧fs.length≤1000∧H dx=some (.own a):=by
 obtain⟨d,z,ne,ob,mA,n,r,q⟩:=(show ObjOk P w H h a (.ins C dx fs) from hok a _ e)
 exact⟨mA,⟨ob,n,ne⟩,r,q,z,d⟩
end
structure Cls(K:PySem.W.Frag)(C:Addr):Prop where
 pg:PySem.W.plainGet K C Str.empty=true
 hd:PySem.W.hasDictIn K C=true
 po:PySem.W.plainOver K C=true
 sa:PySem.W.findIn K (.ref C) "__setattr__" = some (some (.builtin "object.__setattr__"))
theorem Cls.get{K:PySem.W.Frag}{C:Addr}(c:Cls K C)(f:Str):PySem.W.plainGet K C f=true:=c.pg
def NoAttr(K:PySem.W.Frag)(C:Addr)(f:Str):Prop:=PySem.W.findIn K (.ref C) f=some none
theorem NoAttr.taker{K:PySem.W.Frag}{C:Addr}{f:Str}(n:NoAttr K C f):PySem.W.takerIn K C f=some none:=by
 unfold PySem.W.takerIn
 rw[show PySem.W.findIn K (.ref C) f=some none from n]
 rfl
structure Meth(K:PySem.W.Frag)(C:Addr)(m:Str)(f:Addr):Prop where
 at_:PySem.W.findIn K (.ref C) m=some (some (.ref f))
 fn:PySem.W.isFn K (.ref f)=true
 kp:PySem.W.keepIn K (.ref f)=true
section
variable{X:Cx}{pins:List (Addr×Obj)}{σ:St}{H:Hp}{s:Shared}{a C dx:Addr}{fs:List (Str×V)}{f:Str}{v:V}{A:Around}{E:Value→Shared→Prop}
theorem getattr_ok{b:Bool}{Q:Value→Shared→Prop}(I:Inv X pins σ H s)(e:H a=some (.ins C dx fs))(c:Cls X.K C)(n:NoAttr X.K C f)(l:fs.lookup f=some v)
  (h:∀ u s',Inv X pins σ H s'→RelV v u→Q u s'):wpAny (model X.prog X.w) A (getAttr (.ref a) f b) Q E s:=by
 obtain⟨mA,O,r,_,_,_⟩:=ins_get I.hok e
 obtain⟨u,hu,ru⟩:=RelO.some_of (v:=v) (o:=mA f) (by rw[← l];exact r f)
 exact get_map I.kIn O (c.get f) c.hd n hu (handed_of ru) (h u _ (I.tok _) ru)
theorem getmeth_ok{m:Str}{g:Addr}{pl:Sem Bool}{Q:Value×List Value→Shared→Prop}(I:Inv X pins σ H s)(e:H a=some (.ins C dx fs))(c:Cls X.K C)(k:Meth X.K C m g)(l:fs.lookup m=none)
  (h:Q (.ref g,[.ref a]) s):wpAny (model X.prog X.w) A (getMethod (.ref a) m pl) Q E s:=by
 obtain⟨mA,O,r,_,_,_⟩:=ins_get I.hok e
 have hn:mA m=none:=RelO.none_of (by rw[← l];exact r m)
 exact get_meth I.kIn O (c.get m) k.at_ k.fn hn h
theorem setattr_ok{y:V}{u:Value}{Q:Unit→Shared→Prop}(I:Inv X pins σ H s)(e:H a=some (.ins C dx fs))(c:Cls X.K C)(n:NoAttr X.K C f)(hl:fs.length < 1000)(ry:RelV y u)
  (h:∀ s',Inv X pins σ (upd H a (.ins C dx (putF f y fs))) s'→Q () s'):wpAny (model X.prog X.w) A (setAttr (.ref a) f u) Q E s:=by
 obtain⟨mA,O,r,wi,_,ho⟩:=ins_get I.hok e
 have hz:(fs.map (·.1)).length≤sizeLine:=by rw[List.length_map,sizeLine_eq];omega
 refine set_map I.kIn O c.sa c.po n.taker c.hd wi hz fun h' O' sb=>h _ ?_
 have hd:∃ o,h'.get? dx=some o:=let ⟨o,_,_,e',_⟩:=O'.ns;⟨o,e'⟩
 refine I.write (x:=a) (e:=dx) (by rw[e];exact True.intro) (.inr ho) (fun b q hb z=>(sb.2 b hb).trans z) hd ?_
 refine⟨by rw[upd_ne O.ne];exact ho,?_,O.ne,O'.obj,_,O'.ns,fun g=>?_,fun g hg=>?_⟩
 ·have:=length_putF f y fs;omega
 ·show RelO ((putF f y fs).lookup g) (if g=f then some u else mA g)
  rw[lookup_putF]
  by_cases q:g=f
  ·rw[if_pos q,if_pos q];exact ry
  ·rw[if_neg q,if_neg q];exact r g
 ·by_cases q:g=f
  ·rw[q];exact(keys_putF f y fs).1
  ·refine(keys_putF f y fs).2 g (wi g fun z=>hg ?_)
   show(if g=f then some u else mA g)=none
   rw[if_neg q];exact z
theorem Inv.made(I:Inv X pins σ H s):Inv X pins σ (upd (upd H s.heap.objs.size (.own (s.heap.objs.size+1))) (s.heap.objs.size+1) (.ins C s.heap.objs.size []))
  { s with heap:=(s.heap.push PySem.W.emptyDict).push (PySem.W.instObj C s.heap.objs.size) }:=by
 have e1:(s.heap.push PySem.W.emptyDict).get? s.heap.objs.size=some PySem.W.emptyDict:=Heap.get?_push_size s.heap rfl
 have e2:((s.heap.push PySem.W.emptyDict).push (PySem.W.instObj C s.heap.objs.size)).get? (s.heap.objs.size+1)=some (PySem.W.instObj C s.heap.objs.size):=by
  have:=Heap.get?_push_size (s.heap.push PySem.W.emptyDict) (o:=PySem.W.instObj C s.heap.objs.size) rfl
  rwa [Heap.size_push] at this
 have e3:(s.heap.push PySem.W.emptyDict).Ns s.heap.objs.size (fun _=>none):=⟨PySem.W.emptyDict,#[],_,e1,rfl,(fun e he=>absurd he (by simp)),fun _=>rfl⟩
 have I1:=I.laid (a:=s.heap.objs.size) (o:=.own (s.heap.objs.size+1)) (h':=s.heap.push PySem.W.emptyDict) (t':=s.toks) (fun b u q=>Heap.get?_push_of_some _ q) (Nat.le_refl _) ⟨_,e1⟩
 refine I1.laid (a:=s.heap.objs.size+1) (o:=.ins C s.heap.objs.size []) (t':=s.toks) (fun b u q=>Heap.get?_push_of_some _ q) (Nat.le_of_eq (Heap.size_push _ _)) ?_
 have ne:s.heap.objs.size≠s.heap.objs.size+1:=Nat.ne_of_lt (Nat.lt_succ_self _)
 refine⟨by rw[upd_ne ne,upd_same],Nat.zero_le _,ne,e2,fun _=>none,(Heap.Ns1.of_empty e3).at fun o q=>Heap.get?_push_of_some _ q,fun _=>True.intro,fun y hy=>absurd rfl hy⟩
theorem attr_of{prog:Program}{w:World}{env:Env}{e:Expr}{f:Str}{pos:Pos}{s:Shared}{Q:Value→Shared→Prop}(hb:attributeBase e f env (eval e env)=eval e env)
  (h:wpAny (model prog w) A (eval e env) (fun o s₁=>wpAny (model prog w) A (getAttr o f true) Q E s₁) E s):wpAny (model prog w) A (eval (.Attribute e f pos) env) Q E s:=
 Attribute_any_ h (by rw[arm_eval_Attribute,hb])
end
def tFld(K:PySem.W.Frag)(ta:TE)(f:Str):TE:=fun σ H Q=>ta σ H fun x H1=>∃ a C dx fs v,x = .ref a∧H1 a=some (.ins C dx fs)∧Cls K C∧NoAttr K C f∧fs.lookup f=some v∧Q v H1
def sFld(K:PySem.W.Frag)(ta tv:TE)(f:Str):TS:=fun D σ H=>tv σ H fun y H1=>ta σ H1 fun x H2=>∃ a C dx fs,x = .ref a∧H2 a=some (.ins C dx fs)∧Cls K C∧NoAttr K C f∧fs.length < 1000 ∧
 D.nx σ (upd H2 a (.ins C dx (putF f y fs)))
section
variable{X:Cx}{o e value:Expr}{f:Str}{pos pos' tpos:Pos}{ta tv:TE}
theorem pe_fld(he:PE X e ta)(hb:attributeBase e f X.env (eval e X.env)=eval e X.env):PE X (.Attribute e f pos) (tFld X.K ta f):=by
 intro pins s σ H Q I h
 refine attr_of hb (thn (he pins s σ H _ I h) fun u s1 ⟨x,H1,I1,rx,a,C,dx,fs,v,ex,ea,c,n,l,q⟩=>?_)
 subst ex
 obtain rfl:u=Value.ref a:=rx
 exact getattr_ok I1 ea c n l fun u' s2 I2 ru=>⟨v,H1,I2,ru,q⟩
theorem ps_fld(ha:PE X o ta)(hv:PE X value tv)(hs:swapsWith value (some (.Attribute o f pos')) pos.line X.env=pure false):PS X (.Assign [.Attribute o f pos'] value pos) (sFld X.K ta tv f):=by
 intro pins s σ H D I h
 refine plainObj_wpAny_Assign_Attribute (thn (hv pins s σ H _ I h) fun u s1 ⟨y,H1,I1,ry,q⟩=>thn (ha pins s1 σ H1 _ I1 q) fun ov s2 ⟨x,H2,I2,rx,a,C,dx,fs,ex,ea,c,n,l,q2⟩=>?_) hs
 subst ex
 obtain rfl:ov=Value.ref a:=rx
 exact setattr_ok I2 ea c n l ry fun s3 I3=>⟨σ,_,I3,q2⟩
end
section
variable{X:Cx}{pins:List (Addr×Obj)}{σ:St}{H:Hp}{s:Shared}{A:Around}{E:Value→Shared→Prop}{Q:Value→Shared→Prop}{c:Value}{b:Bool}
inductive TyOf(K:PySem.W.Frag)(H:Hp):V→Value→Prop where
 | non:TyOf K H .non (.type "NoneType")
 | bl (x:Bool):TyOf K H (.bl x) (.type "bool")
 | int (i:Int):TyOf K H (.int i) (.type "int")
 | str (x:Str):TyOf K H (.str x) (.type "str")
 | flt (x:UInt64):TyOf K H (.flt x) (.type "float")
 | lst {a:Addr} {xs:List V} (e:H a=some (.lst xs)):TyOf K H (.ref a) (.type "list")
 | frz {a:Addr} {o:Obj} {xs:List V} (e:H a=some (.frz o (.lst xs))):TyOf K H (.ref a) (.type "list")
 | tup {a:Addr} {xs:List V} (e:H a=some (.tup xs)):TyOf K H (.ref a) (.type "tuple")
 | dK {a:Addr} {kvs:List (Key×V)} (e:H a=some (.dK kvs)):TyOf K H (.ref a) (.type "dict")
 | dT {a:Addr} {kvs:List (List Key×V)} (e:H a=some (.dT kvs)):TyOf K H (.ref a) (.type "dict")
 | ins {a C dx:Addr} {fs:List (Str×V)} (e:H a=some (.ins C dx fs)) (cl:Cls K C) (ha:PySem.W.findIn K (.ref C) "__class__" = some (some (.builtin "object.__class__")))
   (hn:PySem.W.specialIn K (.builtin "object.__class__") "__get__" = some (some (.builtin "getset_descriptor.__get__"))) (htk:PySem.W.takesIn K (.builtin "object.__class__")=some true)
   (hm:PySem.W.mroIn K C (.type "object")=some true):TyOf K H (.ref a) (.ref C)
theorem isinst_ok{x:V}{u t:Value}(I:Inv X pins σ H s)(rx:RelV x u)(ty:TyOf X.K H x t)(e:PySem.W.kitOne X.K t c=some b)(h:∀ tk,Q (.bool b) { s with toks:=tk }) :
  wpAny (model X.prog X.w) A (call (.builtin "isinstance") [u,c]) Q E s:=by
 cases ty with
 | non=>cases (show u=Value.none from rx);exact PySem.W.kia_one PySem.W.kitx_none I.kIn True.intro e (fun z=>nomatch z) h
 | bl y=>cases (show u=Value.bool y from rx);exact PySem.W.kia_one PySem.W.kitx_bool I.kIn True.intro e (fun z=>nomatch z) h
 | int i=>obtain⟨t,q⟩:=(show ∃ t,u=Value.int i t from rx);cases q;exact PySem.W.kia_one PySem.W.kitx_int I.kIn True.intro e (fun z=>nomatch z) h
 | str y=>obtain⟨t,q⟩:=(show ∃ t,u=Value.str y t from rx);cases q;exact PySem.W.kia_one PySem.W.kitx_str I.kIn True.intro e (fun z=>nomatch z) h
 | flt y=>obtain⟨t,q⟩:=(show ∃ t,u=Value.float y t from rx);cases q;exact PySem.W.kia_one PySem.W.kitx_float I.kIn True.intro e (fun z=>nomatch z) h
 | @lst a xs ea=>
  cases (show u=Value.ref a from rx)
  obtain⟨_,_,n,_,h1⟩:=(show ObjOk X.prog X.w H s.heap a (.lst xs) from I.hok a _ ea)
  exact PySem.W.kia_one PySem.W.kitx_list I.kIn ⟨_,h1,rfl⟩ e (fun z=>nomatch z) h
 | @frz a ob xs ea=>
  cases (show u=Value.ref a from rx)
  obtain⟨_,_,_,n,_,h1⟩:=(show ObjOk X.prog X.w H s.heap a (.frz ob (.lst xs)) from I.hok a _ ea)
  exact PySem.W.kia_one PySem.W.kitx_list I.kIn ⟨_,h1,rfl⟩ e (fun z=>nomatch z) h
 | @tup a xs ea=>
  cases (show u=Value.ref a from rx)
  obtain⟨_,_,_,p⟩:=(show ObjOk X.prog X.w H s.heap a (.tup xs) from I.hok a _ ea)
  obtain⟨o,h1,h2,_⟩:=p
  exact PySem.W.kia_one PySem.W.kitx_tuple I.kIn ⟨o,h1,h2⟩ e (fun z=>nomatch z) h
 | @dK a kvs ea=>
  cases (show u=Value.ref a from rx)
  obtain⟨_,_,vs,_,p⟩:=(show ObjOk X.prog X.w H s.heap a (.dK kvs) from I.hok a _ ea)
  obtain⟨o,es,ep,h1,h2,_⟩:=p
  exact PySem.W.kia_one PySem.W.kitx_dict I.kIn ⟨o,h1,h2.1⟩ e (fun z=>nomatch z) h
 | @dT a kvs ea=>
  cases (show u=Value.ref a from rx)
  obtain⟨_,_,xs,_,o,es,ep,h1,h2,_⟩:=(show ObjOk X.prog X.w H s.heap a (.dT kvs) from I.hok a _ ea)
  exact PySem.W.kia_one PySem.W.kitx_dict I.kIn ⟨o,h1,h2.1⟩ e (fun z=>nomatch z) h
 | @ins a C dx fs ea cl ha hn htk hm=>
  cases (show u=Value.ref a from rx)
  obtain⟨mA,O,_⟩:=ins_get I.hok ea
  obtain⟨od,J,_⟩:=O.look
  exact PySem.W.kia_one (PySem.W.kitx_own (cl.get _) cl.hd ha hn htk hm) I.kIn J e (fun z=>nomatch z) h
end
end L2
namespace L2
open PySem PySem.Spec PyProof.Rows
structure Room(k:Nat)(A:Around):Prop where
 hd:A.handled=none
 dp:A.depth+3 * k+5 < recursionLimit
 un:A.units+16 * k+200 < cLine
theorem Room.mono{j k:Nat}{A:Around}(r:Room k A)(h:j≤k):Room j A:=⟨r.hd,by have:=r.dp;omega,by have:=r.un;omega⟩
theorem Room.deeper{k:Nat}{A:Around}(r:Room (k+1) A)(env:Env):Room k (A.deeper env):=
 ⟨r.hd,by have:=r.dp;show A.depth+1+3 * k+5 < _;omega,by have:=r.un;show A.units+3+16 * k+200 < _;omega⟩
theorem make_depth{A:Around}{C:Addr}{us:List Value}{kw:List (Str×Value)}:(A.under (.builtin "type.__call__" ⟨.ref C :: us,kw⟩)).depth=A.depth+1:=by
 first | rfl | simp [Around.under,Code.weight,Code.isCreation,Code.isGuard,Code.isCaller,Code.frames,Code.isFrame,guardIds]
theorem make_units{A:Around}{C:Addr}{us:List Value}{kw:List (Str×Value)}:(A.under (.builtin "type.__call__" ⟨.ref C :: us,kw⟩)).units=A.units+1:=by
 first | rfl | simp [Around.under,Code.cUnits,Code.frames,Code.isFrame]
theorem Room.make{k:Nat}{A:Around}(r:Room (k+1) A)(C:Addr)(us:List Value)(kw:List (Str×Value)):Room k (A.under (.builtin "type.__call__" ⟨.ref C :: us,kw⟩)):=
 ⟨r.hd,by have:=r.dp;rw[make_depth];omega,by have:=r.un;rw[make_units];omega⟩
theorem Room.depth{k:Nat}{A:Around}(r:Room k A):A.depth < recursionLimit:=by have:=r.dp;omega
theorem Room.units{k:Nat}{A:Around}(r:Room k A):A.units+64 < cLine:=by have:=r.un;omega
def tNil:TA:=fun _ H Q=>Q [] H
def tCons(ta:TE)(tr:TA):TA:=fun σ H Q=>ta σ H fun x H1=>tr σ H1 fun xs H2=>Q (x :: xs) H2
section
variable{X:Cx}{e:Expr}{es:List Expr}{te:TE}{t:TA}{pos:Pos}
theorem pa_nil:PA X [] tNil:=fun _ _ _ _ H Q I h=>Calls.spliced_nil ⟨[],H,I,.nil,h⟩
theorem pa_cons(ha:PE X e te)(hr:PA X es t)(hs:starEach (e :: es) X.env=(false,eval e X.env) :: starEach es X.env:=by rfl):PA X (e :: es) (tCons te t):=by
 intro pos pins s σ H Q I h
 rw[hs]
 show wpAny _ _ (spliced ((false,eval e X.env) :: backTo pos (starEach es X.env))) _ _ s
 refine Calls.spliced_cons (thn (ha pins s σ H _ I h) fun u s1 ⟨x,H1,I1,r1,q1⟩=>?_)
 exact thn (hr pos pins s1 σ H1 _ I1 q1) fun us s2 ⟨xs,H2,I2,r2,q2⟩=>⟨x :: xs,H2,I2,.cons r1 r2,q2⟩
def tTup(t:TA):TE:=fun σ H Q=>t σ H fun xs H1=>xs.length≤sizeLine∧∀ p,H1 p=none→Q (.ref p) (upd H1 p (.tup xs))
def tLst(t:TA):TE:=fun σ H Q=>t σ H fun xs H1=>xs.length≤sizeLine∧∀ p,H1 p=none→Q (.ref p) (upd H1 p (.lst xs))
theorem pe_tup{x1}(h:PA X es t):PE X (.Tuple es x1 pos) (tTup t):=by
 intro pins s σ H Q I hq
 refine wpAny_Tuple_spliced (thn (h pos pins s σ H _ I hq) fun us s1 ⟨xs,H1,I1,r,z,q⟩=>⟨by rw[← r.length];exact z,?_⟩)
 have hf:H1 s1.heap.objs.size=none:=I1.hok.fresh (Nat.le_refl _)
 refine⟨.ref s1.heap.objs.size,upd H1 s1.heap.objs.size (.tup xs),I1.laid (t':=s1.toks) (fun b u e=>Heap.get?_push_of_some _ e) (Nat.le_refl _) ?_,rfl,q _ hf⟩
 exact⟨z,us,r,⟨_,Heap.get?_push_size _ rfl,rfl,_,rfl⟩⟩
theorem pe_lst(h:PA X es t):PE X (.List es pos) (tLst t):=by
 intro pins s σ H Q I hq
 refine wpAny_List_spliced (thn (h pos pins s σ H _ I hq) fun us s1 ⟨xs,H1,I1,r,z,q⟩=>⟨by rw[← r.length];exact z,?_⟩)
 have hf:H1 s1.heap.objs.size=none:=I1.hok.fresh (Nat.le_refl _)
 refine⟨.ref s1.heap.objs.size,upd H1 s1.heap.objs.size (.lst xs),I1.laid (t':=s1.toks) (fun b u e=>Heap.get?_push_of_some _ e) (Nat.le_refl _) ?_,rfl,q _ hf⟩
 exact⟨z,us,0,r,Heap.get?_push_size _ rfl⟩
end
abbrev Sp:=List V→Hp→VK→XK→Prop
abbrev CXT:=List Env→Hp→Shared→XK→Value→Shared→Prop
structure Env0(P:Program)(w:World)(K:PySem.W.Frag)(mg:Str→Option Value)(base:Heap)(A:Around)(outer:List Env)(s:Shared)(H:Hp):Prop where
 frames:A.frames=some outer
 mod:Mod K mg base
 bs:∀ b o,base.get? b=some o→s.heap.get? b=some o∧H b=none
 bsz:base.objs.size≤s.heap.objs.size
 funs:s.heap.FunFrames base outer
 frf:∀ b∈frs outer,H b=none
 hok:HOk P w H s.heap
 bare:AllBare s.gens
def CE(outer:List Env)(P:Program)(w:World)(H:Hp)(s:Shared)(Q:VK)(u:Value)(s':Shared):Prop:=
 ∃ v H',s'.os=s.os∧AllBare s'.gens∧Un (frs outer) [] H H' s.heap s'.heap∧HOk P w H' s'.heap∧RelV v u∧Q v H'
def CR(CX:CXT)(outer:List Env)(P:Program)(w:World)(H:Hp)(s:Shared)(Q:VK)(E:XK)(r:Result)(s':Shared):Prop:=
 match r with
 | .ok (.ret u)=>CE outer P w H s Q u s'
 | .ok _=>False
 | .error e=>CX outer H s E e s'
structure FnOk(P:Program)(w:World)(K:PySem.W.Frag)(mg:Str→Option Value)(base:Heap)(CX:CXT)(k:Nat)(f:Addr)(fd:FuncData)(ps:List Str)(sp:Sp):Prop where
 len:∀ vs H Q E,sp vs H Q E→vs.length=ps.length
 run:∀(A:Around) (outer:List Env) (s:Shared) (H:Hp) (args:Args) (us:List Value) (vs:List V) (Q:VK) (E:XK),Room k A→Env0 P w K mg base A outer s H→BindsTo s fd args (ps.zip us)→Vals vs us→sp vs H Q E →
  codeAny (model P w) A (.call (.ref f) args) (CR CX outer P w H s Q E) s
theorem FnOk.mono{P:Program}{w:World}{K:PySem.W.Frag}{mg:Str→Option Value}{base:Heap}{CX:CXT}{j k:Nat}{f:Addr}{fd:FuncData}{ps:List Str}{sp:Sp}(F:FnOk P w K mg base CX j f fd ps sp)(h:j≤k) :
  FnOk P w K mg base CX k f fd ps sp:=⟨F.len,fun A outer s H args us vs Q E hr=>F.run A outer s H args us vs Q E (hr.mono h)⟩
theorem FnOk.imp{P:Program}{w:World}{K:PySem.W.Frag}{mg:Str→Option Value}{base:Heap}{CX:CXT}{k:Nat}{f:Addr}{fd:FuncData}{ps:List Str}{sp sp':Sp}(F:FnOk P w K mg base CX k f fd ps sp)
  (h:∀ vs H Q E,sp' vs H Q E→sp vs H Q E):FnOk P w K mg base CX k f fd ps sp':=
 ⟨fun vs H Q E q=>F.len vs H Q E (h _ _ _ _ q),fun A outer s H args us vs Q E hr he hb hv hs=>F.run A outer s H args us vs Q E hr he hb hv (h _ _ _ _ hs)⟩
theorem Env0.make{P:Program}{w:World}{K:PySem.W.Frag}{mg:Str→Option Value}{base:Heap}{A:Around}{outer:List Env}{s:Shared}{H:Hp}(e:Env0 P w K mg base A outer s H)(C:Addr)(us:List Value)(kw:List (Str×Value)) :
  Env0 P w K mg base (A.under (.builtin "type.__call__" ⟨.ref C :: us,kw⟩)) outer s H:=⟨by first | exact e.frames | (simpa [Around.under,Code.envs,Code.isFrame,pushEnvs] using e.frames),e.mod,e.bs,e.bsz,e.funs,e.frf,e.hok,e.bare⟩
section
variable{X:Cx}{pins:List (Addr×Obj)}{σ:St}{H:Hp}{s s':Shared}
theorem Inv.env0(I:Inv X pins σ H s):Env0 X.prog X.w X.K X.mg X.base X.A X.stack s H:=
 ⟨I.ok.frames,I.ok.mod,I.bs,Nat.le_trans I.ok.bsz I.sz,I.stack,I.stkFree,I.hok,I.bare⟩
theorem Inv.after{Q:VK}{u:Value}(I:Inv X pins σ H s)(h:CE X.stack X.prog X.w H s Q u s'):EP X pins σ Q u s':=by
 obtain⟨v,H',os,bare,un,hok,r,q⟩:=h
 obtain⟨hh,g,d,t,os'⟩:=s'
 obtain rfl:os'=s.os:=os
 exact⟨v,H',I.call (h':=hh) (g':=g) (d':=d) (t':=t) (ch:=[]) un hok bare (fun b z=>absurd z (by simp)),r,q⟩
end
def tCall(sp:Sp)(dvs:List V)(E:XK)(t:TA):TE:=fun σ H Q=>t σ H fun vs H1=>sp (vs++dvs) H1 Q E
def tMeth(C:Addr)(m:Str)(sp:Sp)(dvs:List V)(E:XK)(ta:TE)(t:TA):TE:=fun σ H Q=>ta σ H fun x H1=>∃ a dx fs,x = .ref a∧H1 a=some (.ins C dx fs)∧fs.lookup m=none ∧
 t σ H1 fun vs H2=>sp (x :: (vs++dvs)) H2 Q E
def tMake(C:Addr)(sp:Sp)(dvs:List V)(E:XK)(t:TA):TE:=fun σ H Q=>t σ H fun vs H1=>∀ x dx,H1 x=none→H1 dx=none→dx≠x →
 sp (.ref x :: (vs++dvs)) (upd (upd H1 dx (.own x)) x (.ins C dx [])) (fun v H2=>v = .non∧Q (.ref x) H2) E
def Binds(K:PySem.W.Frag)(fd:FuncData)(ps:List Str)(ds:List Value):Prop:=
 ∀(s:Shared) (us:List Value),K.In s.heap→(us++ds).length=ps.length→BindsTo s fd ⟨us,[]⟩ (ps.zip (us++ds))
theorem Binds.all{K:PySem.W.Frag}{fd:FuncData}{ps:List Str}(h:∀ us:List Value,us.length=ps.length→bindArgs fd ⟨us,[]⟩=pure (ps.zip us)):Binds K fd ps []:=fun s us _ hl=>by
 rw[List.append_nil] at hl ⊢
 exact .of_eq (h us hl)
def Passes(CX:CXT)(X:Cx)(E:XK):Prop:=∀(pins:List (Addr×Obj)) (σ:St) (H:Hp) (s:Shared) (e:Value) (s':Shared),Inv X pins σ H s→CX X.stack H s E e s'→X.xe e s'
section
variable{X:Cx}{CX:CXT}{k:Nat}{f C:Addr}{fd:FuncData}{ps:List Str}{sp:Sp}{dvs:List V}{ds:List Value}{E:XK}{x m:Str}{p pos apos:Pos}{e o:Expr}{es:List Expr}{ta:TE}{t:TA}
theorem run_fn{pins:List (Addr×Obj)}{σ:St}{H:Hp}{s:Shared}{Q:VK}{us:List Value}{vs:List V}(F:FnOk X.prog X.w X.K X.mg X.base CX k f fd ps sp)(hr:Room k X.A)(hb:Binds X.K fd ps ds)(hd:Vals dvs ds)(hx:Passes CX X E)
  (I:Inv X pins σ H s) (r:Vals vs us) (h:sp (vs++dvs) H Q E):wpAny (model X.prog X.w) X.A (call (.ref f) us) (EP X pins σ Q) X.xe s:=by
 have r2:Vals (vs++dvs) (us++ds):=r.append hd
 have hl:(us++ds).length=ps.length:=by rw[← r2.length];exact F.len _ _ _ _ h
 refine wpAny_call (codeAny_mono (F.run X.A X.stack s H ⟨us,[]⟩ (us++ds) (vs++dvs) Q E hr I.env0 (hb s us I.kIn hl) r2 h) fun r s' hq=>?_)
 cases r with
 | error e=>exact hx pins σ H s e s' I hq
 | ok fl=>
  cases fl with
  | ret u=>exact I.after hq
  | next=>exact False.elim hq
  | brk=>exact False.elim hq
  | cont=>exact False.elim hq
theorem pe_call(F:FnOk X.prog X.w X.K X.mg X.base CX k f fd ps sp)(hr:Room k X.A)(hg:Gl X x)(hm:X.mg x=some (.ref f))(hk:PySem.W.keepIn X.K (.ref f)=true)(hb:Binds X.K fd ps ds)(hd:Vals dvs ds)(hx:Passes CX X E)
  (ha:PA X (e :: es) t) (hdb:(x == ("__debug__":Str))=false:=by decide) (he:starEach (e :: es) X.env=(false,eval e X.env) :: starEach es X.env:=by rfl) (hpl:(backTo pos (starEach es X.env)).any (·.1)=false:=by rfl) :
  PE X (.Call (.Name x p) (e :: es) [] pos) (tCall sp dvs E t):=by
 intro pins s σ H Q I h
 refine wpAny_Call_Name_kw (ld_glob I hg hm ?_ hdb)
 refine PySem.W.callWith_K (h₀:=X.base) I.ok.mod.kin hk (thn (ha pos pins s σ H _ I h) fun us s1 ⟨vs,H1,I1,r,q⟩=>⟨I1.kIn,?_⟩) he hpl
 exact run_fn F hr hb hd hx I1 r q
theorem pe_meth{pl:Sem Bool}(he:PE X o ta)(c:Cls X.K C)(hm:Meth X.K C m f)(F:FnOk X.prog X.w X.K X.mg X.base CX k f fd ps sp)(hr:Room k X.A)(hb:Binds X.K fd ps ds)(hd:Vals dvs ds)(hx:Passes CX X E)(ha:PA X (e :: es) t)
  (hst:starEach (e :: es) X.env=(false,eval e X.env) :: starEach es X.env:=by rfl) (hpl:(backTo pos (starEach es X.env)).any (·.1)=false:=by rfl)
  (ht:eval (.Call (.Attribute o m apos) (e :: es) [] pos) X.env=(do
   let ov ← eval o X.env
   standAt apos.atName
   let (f,first) ← holding [ov] (getMethod ov m pl)
   callWith pos f first (backTo pos (starEach (e :: es) X.env)) (backToKw pos (keywordEach [] X.env))):=by rfl) :
  PE X (.Call (.Attribute o m apos) (e :: es) [] pos) (tMeth C m sp dvs E ta t):=by
 intro pins s σ H Q I h
 refine PySem.W.methodCall_KW (pl:=pl) (thn (he pins s σ H _ I h) fun u s1 ⟨x,H1,I1,rx,a,dx,fs,ex,ea,l,q⟩=>?_) ht
 subst ex
 obtain rfl:u=Value.ref a:=rx
 refine getmeth_ok I1 ea c hm l ?_
 refine PySem.W.callWith_K (first:=[.ref a]) (h₀:=X.base) I.ok.mod.kin hm.kp (thn (ha pos pins s1 σ H1 _ I1 q) fun us s2 ⟨vs,H2,I2,r,q2⟩=>⟨I2.kIn,?_⟩) hst hpl
 exact run_fn (us:=.ref a :: us) (vs:=.ref a :: vs) F hr hb hd hx I2 (.cons rfl r) q2
theorem pe_meth0{pl:Sem Bool}(he:PE X o ta)(c:Cls X.K C)(hm:Meth X.K C m f)(F:FnOk X.prog X.w X.K X.mg X.base CX k f fd ps sp)(hr:Room k X.A)(hb:Binds X.K fd ps ds)(hd:Vals dvs ds)(hx:Passes CX X E)
  (ht:eval (.Call (.Attribute o m apos) [] [] pos) X.env=(do
   let ov ← eval o X.env
   standAt apos.atName
   let (f,first) ← holding [ov] (getMethod ov m pl)
   callWith pos f first (backTo pos (starEach [] X.env)) (backToKw pos (keywordEach [] X.env))):=by rfl) :
  PE X (.Call (.Attribute o m apos) [] [] pos) (tMeth C m sp dvs E ta tNil):=by
 intro pins s σ H Q I h
 refine PySem.W.methodCall_KW (pl:=pl) (thn (he pins s σ H _ I h) fun u s1 ⟨x,H1,I1,rx,a,dx,fs,ex,ea,l,q⟩=>?_) ht
 subst ex
 obtain rfl:u=Value.ref a:=rx
 refine getmeth_ok I1 ea c hm l ?_
 exact PySem.W.callWith_K0 (first:=[.ref a]) I1.kIn hm.kp (run_fn (us:=[.ref a]) (vs:=[.ref a]) F hr hb hd hx I1 (.cons rfl .nil) q)
structure Mk(K:PySem.W.Frag)(C f:Addr):Prop where
 makes:PySem.W.makesIn K C=true
 init:PySem.W.findIn K (.ref C) "__init__" = some (some (.ref f))
 fn:PySem.W.isFn K (.ref f)=true
 kp:PySem.W.keepIn K (.ref C)=true
theorem run_make{pins:List (Addr×Obj)}{σ:St}{H:Hp}{s:Shared}{Q:VK}{us:List Value}{vs:List V}(M:Mk X.K C f)(F:FnOk X.prog X.w X.K X.mg X.base CX k f fd ps sp)(hr:Room (k+1) X.A)(hb:Binds X.K fd ps ds)(hd:Vals dvs ds)
  (hx:Passes CX X E) (I:Inv X pins σ H s) (r:Vals vs us)
  (h:∀ x dx,H x=none→H dx=none→dx≠x→sp (.ref x :: (vs++dvs)) (upd (upd H dx (.own x)) x (.ins C dx [])) (fun v H2=>v = .non∧Q (.ref x) H2) E) :
  wpAny (model X.prog X.w) X.A (call (.ref C) us) (EP X pins σ Q) X.xe s:=by
 have hq:=h (s.heap.objs.size+1) s.heap.objs.size (I.hok.fresh (Nat.le_succ _)) (I.hok.fresh (Nat.le_refl _)) (Nat.ne_of_lt (Nat.lt_succ_self _))
 have I2:=Inv.made (C:=C) I
 have r2:Vals (V.ref (s.heap.objs.size+1) :: (vs++dvs)) (Value.ref (s.heap.objs.size+1) :: (us++ds)):=.cons rfl (r.append hd)
 have hl:(Value.ref (s.heap.objs.size+1) :: us++ds).length=ps.length:=by
  have e:=r2.length
  rw[F.len _ _ _ _ hq] at e
  exact e.symm
 refine wpAny_call (make_map (f:=f) I.kIn M.makes M.init (beq_iff_eq.mp M.fn) (codeAny_mono (F.run _ X.stack _ _ ⟨Value.ref (s.heap.objs.size+1) :: us,[]⟩ (Value.ref (s.heap.objs.size+1) :: (us++ds)) _ _ E (hr.make C us [])
  (I2.env0.make C us []) (hb _ (Value.ref (s.heap.objs.size+1) :: us) I2.kIn hl) r2 hq) fun r s' hq'=>?_))
 cases r with
 | error e=>exact hx pins σ _ _ e s' I2 hq'
 | ok fl=>
  cases fl with
  | ret u=>
   obtain⟨v,H',I3,rv,ev,q3⟩:=I2.after hq'
   subst ev
   exact⟨rv,⟨V.ref (s.heap.objs.size+1),H',I3,rfl,q3⟩⟩
  | next=>exact False.elim hq'
  | brk=>exact False.elim hq'
  | cont=>exact False.elim hq'
theorem pe_make(M:Mk X.K C f)(F:FnOk X.prog X.w X.K X.mg X.base CX k f fd ps sp)(hr:Room (k+1) X.A)(hg:Gl X x)(hm:X.mg x=some (.ref C))(hb:Binds X.K fd ps ds)(hd:Vals dvs ds)(hx:Passes CX X E)
  (ha:PA X (e :: es) t) (hdb:(x == ("__debug__":Str))=false:=by decide) (he:starEach (e :: es) X.env=(false,eval e X.env) :: starEach es X.env:=by rfl) (hpl:(backTo pos (starEach es X.env)).any (·.1)=false:=by rfl) :
  PE X (.Call (.Name x p) (e :: es) [] pos) (tMake C sp dvs E t):=by
 intro pins s σ H Q I h
 refine wpAny_Call_Name_kw (ld_glob I hg hm ?_ hdb)
 refine PySem.W.callWith_K (h₀:=X.base) I.ok.mod.kin M.kp (thn (ha pos pins s σ H _ I h) fun us s1 ⟨vs,H1,I1,r,q⟩=>⟨I1.kIn,?_⟩) he hpl
 exact run_make M F hr hb hd hx I1 r q
end
section
variable{X:Cx}{CX:CXT}{k:Nat}{f C:Addr}{fd:FuncData}{ps ks:List Str}{sp:Sp}{E:XK}{x m:Str}{p pos apos kpos:Pos}{e o:Expr}{es:List Expr}{kws:List Keyword}{te ta:TE}{t tk:TA}{nm:Option Str}
variable{g:List Value→List Value→List Value}{gV:List V→List V→List V}
end
structure FnScope(N P:List Str)(sc:Scope):Prop where
 kind:sc.kind = .function
 co:sc.isCoroutine=false
 gen:sc.isGenerator=false
 nd:N.Nodup
 pre:N.take P.length=P
 par:∀ x∈P,sc.names.lookup x=some .local∨sc.names.lookup x=some .cell
 nofree:∀ y∈sc.names,y.2 ≠ .free
theorem bindL_out{kindOf:Str→Option NameKind}{x:Str}:∀{binds:List (Str×Value)} {m:Str→Option Value},(∀ v,(x,v)∉binds)→bindL kindOf binds m x=m x
 | [],_,_=>rfl
 | (n,v) :: r,m,h=>by
  unfold bindL
  rw[bindL_out fun w hw=>h w (List.mem_cons_of_mem _ hw)]
  split
  ·have:x≠n:=by rintro rfl;exact h v List.mem_cons_self
   simp [this]
  ·rfl
theorem bindC_out{kindOf:Str→Option NameKind}{x:Str}:∀{binds:List (Str×Value)} {m:Str→Option Value},(∀ v,(x,v)∉binds)→bindC kindOf binds m x=m x
 | [],_,_=>rfl
 | (n,v) :: r,m,h=>by
  unfold bindC
  rw[bindC_out fun w hw=>h w (List.mem_cons_of_mem _ hw)]
  split
  ·rfl
  ·have:x≠n:=by rintro rfl;exact h v List.mem_cons_self
   simp [this]
theorem bindL_get{kindOf:Str→Option NameKind}{x:Str}{v:Value}:∀{P:List Str} {vs:List Value} {i:Nat} {m:Str→Option Value},P.Nodup→P[i]? = some x→vs[i]? = some v→kindOf x=some .local →
  bindL kindOf (P.zip vs) m x=some v
 | [],_,_,_,_,h,_,_=>by simp at h
 | _ :: _,[],_,_,_,_,h,_=>by simp at h
 | p :: P,w :: vs,0,m,nd,h1,h2,hk=>by
  simp at h1 h2;subst h1;subst h2
  show bindL kindOf ((p,w) :: P.zip vs) m p=_
  unfold bindL
  rw[bindL_out fun v hv=>(List.nodup_cons.mp nd).1 (List.of_mem_zip hv).1,if_pos hk]
  simp
 | p :: P,w :: vs,i+1,m,nd,h1,h2,hk=>by
  show bindL kindOf ((p,w) :: P.zip vs) m x=_
  unfold bindL
  exact bindL_get (i:=i) (List.nodup_cons.mp nd).2 (by simpa using h1) (by simpa using h2) hk
theorem bindC_get{kindOf:Str→Option NameKind}{x:Str}{v:Value}:∀{P:List Str} {vs:List Value} {i:Nat} {m:Str→Option Value},P.Nodup→P[i]? = some x→vs[i]? = some v→kindOf x≠some .local →
  bindC kindOf (P.zip vs) m x=some v
 | [],_,_,_,_,h,_,_=>by simp at h
 | _ :: _,[],_,_,_,_,h,_=>by simp at h
 | p :: P,w :: vs,0,m,nd,h1,h2,hk=>by
  simp at h1 h2;subst h1;subst h2
  show bindC kindOf ((p,w) :: P.zip vs) m p=_
  unfold bindC
  rw[bindC_out fun v hv=>(List.nodup_cons.mp nd).1 (List.of_mem_zip hv).1,if_neg hk]
  simp
 | p :: P,w :: vs,i+1,m,nd,h1,h2,hk=>by
  show bindC kindOf ((p,w) :: P.zip vs) m x=_
  unfold bindC
  exact bindC_get (i:=i) (List.nodup_cons.mp nd).2 (by simpa using h1) (by simpa using h2) hk
def start(N:List Str)(vs:List V):St:=vs.map some++List.replicate (N.length - vs.length) none
def cxOf(CX:CXT)(P:Program)(w:World)(K:PySem.W.Frag)(mg:Str→Option Value)(base:Heap)(N:List Str)(qual:Str)(scope:Scope)(f:Addr)(cd:Value)(A:Around)(outer:List Env)(s:Shared)(H:Hp)(E:XK):Cx where
 prog:=P
 w:=w
 K:=K
 mg:=mg
 base:=base
 A:=A.deeper (envOfC qual scope s.heap.objs.size f cd)
 N:=N
 s₀:=s
 H₀:=H
 env:=envOfC qual scope s.heap.objs.size f cd
 outer:=outer
 stack:=envOfC qual scope s.heap.objs.size f cd :: outer
 ex:=[]
 calm:=true
 fn:=fun _=>true
 pn:=[]
 xe:=fun e s'=>wpAny (model P w) (A.deeper (envOfC qual scope s.heap.objs.size f cd)) (leaving (envOfC qual scope s.heap.objs.size f cd) e) (fun _ s''=>CX outer H s E e s'') (fun e' s''=>CX outer H s E e' s'') s'
theorem cell_has{sc:Scope}{n:Nat}{x:Str}(h:sc.names.lookup x=some .cell):∃ c,(cellsFrom n sc.names []).lookup x=some c:=by
 have q:=PySem.W.cellsFrom_some sc.names n [] (.inl h)
 exact Option.isSome_iff_exists.mp q
theorem inv_start{CX:CXT}{P:Program}{w:World}{K:PySem.W.Frag}{mg:Str→Option Value}{base:Heap}{N ps:List Str}{qual:Str}{scope:Scope}{f:Addr}{cd:Value}{A:Around}{outer:List Env}{s s1:Shared}{H:Hp}{E:XK}{us:List Value}{vs:List V}
  (S:FnScope N ps scope) (hd:A.handled=none) (e0:Env0 P w K mg base A outer s H) (hl:vs.length=ps.length) (r:Vals vs us)
  (x:InCallC s s.heap.objs.size (bindL (envOfC qual scope s.heap.objs.size f cd).kindOf (ps.zip us) fun _=>none) (cellsFrom (s.heap.objs.size+1) scope.names []) (bindC (envOfC qual scope s.heap.objs.size f cd).kindOf (ps.zip us) fun _=>none) s1) :
  Inv (cxOf CX P w K mg base N qual scope f cd A outer s H E) [] (start N vs) H s1:=by
 have hpl:ps.length≤N.length:=by have:=congrArg List.length S.pre;rw[List.length_take] at this;omega
 obtain⟨h1,tk,rfl,hk⟩:=x.done
 have noA:∀ b:Addr,b∉(cxOf CX P w K mg base N qual scope f cd A outer s H E).ex:=fun b z=>absurd (show b∈([]:List Addr) from z) (by simp)
 refine⟨⟨e0.mod,S.kind,rfl,rfl,Nat.le_refl _,fun y z c h1 h2=>?_,fun y hy=>?_,fun y c _ h=>?_,fun _=>hd,Around.frames_deeper e0.frames,.inr ⟨rfl,rfl⟩,fun b z=>absurd z (noA b),e0.bs,e0.bsz,fun b _ _=>noA b,fun b z=>absurd z (noA b),e0.funs,e0.frf⟩,
  rfl,e0.bare,Un.kept hk,⟨_,x.toInCall.ns,fun i y v h1 h2 h3=>?_⟩,fun y c h=>⟨_,x.cell y c h⟩,e0.hok.fresh (Nat.le_refl _),fun y c h=>?_,fun p hp=>absurd (show p∈([]:List (Addr×Obj)) from hp) (by simp),e0.hok.kept hk,?_⟩
 ·exact name_of_addr x.apart (PySem.mem_of_lookup h1) (PySem.mem_of_lookup h2)
 ·have hy:scope.names.lookup y=some .cell∨scope.names.lookup y=some .free:=hy
  rcases hy with hy | hy
  ·exact cell_has hy
  ·exact absurd rfl (S.nofree _ (PySem.mem_of_lookup hy))
 ·exact Nat.le_of_lt (x.above y c (PySem.mem_of_lookup h))
 ·have hi:i < vs.length:=by
   unfold start at h2
   by_cases hi:i < vs.length
   ·exact hi
   ·rw[List.getElem?_append_right (by simpa using hi)] at h2
    rw[List.getElem?_replicate] at h2
    split at h2<;>cases h2
  have ha:vs[i]? = some v:=by
   unfold start at h2
   rw[List.getElem?_append_left (by simpa using hi),List.getElem?_map] at h2
   cases e:vs[i]? with
   | none=>rw[e] at h2;cases h2
   | some a=>rw[e] at h2;cases h2;rfl
  obtain⟨u,hu,rv⟩:=r.get ha
  have hp:ps[i]? = some y:=by
   rw[← S.pre,List.getElem?_take_of_lt (by omega)];exact h1
  have ndP:ps.Nodup:=by rw[← S.pre];exact S.nd.sublist (List.take_sublist _ _)
  refine⟨u,rv,?_⟩
  rcases S.par y (List.mem_of_getElem? hp) with k | k
  ·exact .inl ⟨k,bindL_get ndP hp hu k⟩
  ·obtain⟨c,e⟩:=cell_has (n:=s.heap.objs.size+1) k
   refine .inr ⟨.inl k,c,e,?_⟩
   have q:=x.cell y c e
   rw[bindC_get ndP hp hu (by show scope.names.lookup y≠_;rw[k];decide)] at q
   exact q
 ·exact e0.hok.fresh (Nat.le_of_lt (x.above y c (PySem.mem_of_lookup h)))
 ·unfold start
  show _=N.length
  rw[List.length_append,List.length_map,List.length_replicate]
  omega
theorem fn_of{CX:CXT}{P:Program}{w:World}{K:PySem.W.Frag}{mg:Str→Option Value}{base:Heap}{k:Nat}{f:Addr}{name qual:Str}{params:Arguments}{body:List Stmt}{scope:Scope}{dV kV doc pm cdv ct oc:Value}{an od:Option Addr}
  {osl:Array (Option Value)} {N ps:List Str} {sp:Sp} (lk:K.lookup f=some ⟨oc,od,.func (PySem.W.fnOf name qual params body scope dV kV doc pm an cdv ct),osl⟩) (hcd:PySem.W.codeIn K cdv qual=true) (S:FnScope N ps scope)
  (len:∀ vs H Q E,sp vs H Q E→vs.length=ps.length)
  (hbody:∀(A:Around) (outer:List Env) (s:Shared) (H:Hp) (vs:List V) (Q:VK) (E:XK),Room k (A.deeper (envOfC qual scope s.heap.objs.size f cdv))→sp vs H Q E →
   ∃ t,PSs (cxOf CX P w K mg base N qual scope f cdv A outer s H E) body t∧t { nx:=fun _ H'=>Q .non H',rt:=Q } (start N vs) H) :
  FnOk P w K mg base CX (k+1) f (PySem.W.fnOf name qual params body scope dV kV doc pm an cdv ct) ps sp:=by
 refine⟨len,fun A outer s H args us vs Q E hr e0 hb r hsp=>?_⟩
 have hl:=len _ _ _ _ hsp
 have KX:K.In s.heap:=e0.mod.kin.keeps fun b o e=>(e0.bs b o e).1
 have lim:s.heap.NoLimit:=e0.mod.nolimit.keeps fun b o e=>(e0.bs b o e).1
 have hkind:∀ y∈ps.zip us,scope.names.lookup y.1=some .local∨(scope.names.lookup y.1=some .cell∧((cellsFrom (s.heap.objs.size+1) scope.names []).lookup y.1).isSome=true):=fun⟨n,v⟩ hy=>by
  rcases S.par n (List.of_mem_zip hy).1 with q | q
  ·exact .inl q
  ·exact .inr ⟨q,PySem.W.cellsFrom_some _ _ _ (.inl q)⟩
 refine codeAny_call_function hr.depth (KX _ _ lk) rfl S.co S.gen rfl (PySem.W.codeRec_of KX hcd) (hb _ _ _ _ ?_)
 refine wpAny_newFunctionEnv_cells S.kind hkind fun env he s1 x=>?_
 subst he
 refine⟨lim.keeps x.toInCall.keep,codeAny_func ?_⟩
 obtain⟨t,ht,hq⟩:=hbody A outer s H vs Q E (hr.deeper _) hsp
 have I:Inv (cxOf CX P w K mg base N qual scope f cdv A outer s H E) [] (start N vs) H s1:=inv_start S hr.hd e0 hl r x
 refine wpAny_mono (ht [] s1 (start N vs) H _ I hq) (fun fl s' hs=>?_) fun e s' hs=>hs
 have fin:∀{σ':St} {H':Hp} {v:V} {u:Value},Inv (cxOf CX P w K mg base N qual scope f cdv A outer s H E) [] σ' H' s'→RelV v u→Q v H'→CE outer P w H s Q u s':=
  fun {σ' H' v u} J rv q=>⟨v,H',J.os,J.bare,J.base,J.hok,rv,q⟩
 cases fl with
 | ret u=>
  obtain⟨v,σ',H',J,rv,q⟩:=hs
  exact fin J rv q
 | next=>
  obtain⟨σ',H',J,q⟩:=hs
  exact fin (v:=V.non) (u:=Value.none) J rfl q
 | brk=>
  obtain⟨_,_,_,q⟩:=hs
  exact False.elim q
 | cont=>
  obtain⟨_,_,_,q⟩:=hs
  exact False.elim q
end L2
namespace L2
open PySem PySem.Spec PyProof.Rows
section
variable{X:Cx}{x:Str}{p pos:Pos}{e:Expr}{es:List Expr}{t:TA}{id T:String}{r:List V→Hp→VK→Prop}
def tCB(r:List V→Hp→VK→Prop)(t:TA):TE:=fun σ H Q=>t σ H fun vs H1=>r vs H1 Q
theorem pe_callB(hc:CallR X (.builtin id) r)(hg:Gl X x)(hm:X.mg x=none)(hv:bootBuiltins x=some (.builtin id))(ha:PA X (e :: es) t)(hn:x≠"__name__":=by decide)(hdb:(x == ("__debug__":Str))=false:=by decide)
  (he:starEach (e :: es) X.env=(false,eval e X.env) :: starEach es X.env:=by rfl) (hpl:(backTo pos (starEach es X.env)).any (·.1)=false:=by rfl):PE X (.Call (.Name x p) (e :: es) [] pos) (tCB r t):=by
 intro pins s σ H Q I h
 refine wpAny_Call_Name_kw (ld_blt I hg hm hv ?_ hn hdb)
 exact PyProof.Rows.callWith_builtin1 (thn (ha pos pins s σ H _ I h) fun us s1 ⟨vs,H1,I1,r1,q1⟩=>hc pins s1 σ H1 vs us Q I1 r1 q1) he hpl
theorem pe_callTy(hc:CallR X (.type T) r)(hg:Gl X x)(hm:X.mg x=none)(hv:bootBuiltins x=some (.type T))(ha:PA X (e :: es) t)(hn:x≠"__name__":=by decide)(hdb:(x == ("__debug__":Str))=false:=by decide)
  (he:starEach (e :: es) X.env=(false,eval e X.env) :: starEach es X.env:=by rfl) (hpl:(backTo pos (starEach es X.env)).any (·.1)=false:=by rfl):PE X (.Call (.Name x p) (e :: es) [] pos) (tCB r t):=by
 intro pins s σ H Q I h
 refine wpAny_Call_Name_kw (ld_blt I hg hm hv ?_ hn hdb)
 exact PyProof.Rows.callWith_type1 (thn (ha pos pins s σ H _ I h) fun us s1 ⟨vs,H1,I1,r1,q1⟩=>hc pins s1 σ H1 vs us Q I1 r1 q1) he hpl
end
end L2
namespace HT
open PySem PyProof.Rows
section
open PySem.SeqAt
open PySem.AutoSeq1 (wpAny_loadPart')
open PySem.MeetsSeq PySem.MeetsSeq2 PySem.MeetsSeq3
end
section
variable{prog:Program}{w:World}{A:Around}{E:Value→Shared→Prop}{s:Shared}
theorem cat_tup{t b:Addr}{vs ws:List Value}{Q:Value→Shared→Prop}(ht:IsTup s.heap t vs.toArray)(hb:IsTup s.heap b ws.toArray)(hv:vs≠[])
  (h1:ws=[]→Q (.ref t) s) (h2:ws≠[]→Q (.ref s.heap.objs.size) { s with heap:=s.heap.push { cls:=.type "tuple",data:=.seq (vs++ws).toArray } })
  (hsz:vs.length+ws.length≤sizeLine):wpAny (model prog w) A (binaryOp .Add (.ref t) (.ref b)) Q E s:=by
 obtain⟨⟨cls,dd,data,sl⟩,ho,hc,n,hd⟩:=id ht
 obtain⟨⟨cls2,dd2,data2,sl2⟩,ho2,hc2,n2,hd2⟩:=id hb
 simp only at hc hd hc2 hd2
 subst hc hd hc2 hd2
 have e:vs.toArray++ws.toArray=(vs++ws).toArray:=by simp
 by_cases hw:ws=[]
 ·exact concat_meets ⟨_,ho,rfl⟩ ⟨_,ho2,rfl⟩ noFill_tuple_add seq_tuple_add PySem.F.slot_tuple_add PySem.F.entry_tuple_add (PySem.F.args_tuple_add_2 _ _)
   (tuple_addW1 t b vs.toArray ws.toArray n n2 dd dd2 sl sl2 (by simpa using hv) (by simp [hw])) ⟨ho,ho2,h1 hw⟩
 ·refine concat_meets ⟨_,ho,rfl⟩ ⟨_,ho2,rfl⟩ noFill_tuple_add seq_tuple_add PySem.F.slot_tuple_add PySem.F.entry_tuple_add (PySem.F.args_tuple_add_2 _ _)
   (tuple_addW2 t b vs.toArray ws.toArray n n2 dd dd2 sl sl2 (by simpa using hv) (by simpa using hw) (by rw[List.size_toArray,List.size_toArray];exact hsz)) ⟨ho,ho2,?_⟩
  rw[e]
  exact h2 hw
def sIx(n d:Nat):Option Int→Nat
 | none=>d
 | some v=>if v < 0 then(v+(n:Int)).toNat else min v.toNat n
theorem sIx_nat(n d k:Nat):sIx n d (some (k:Int))=min k n:=by
 show(if(k:Int) < 0 then((k:Int)+(n:Int)).toNat else min (k:Int).toNat n)=min k n
 rw[if_neg (by omega),Int.toNat_natCast]
end
end HT
namespace L2
open PySem PySem.Spec PyProof.Rows
abbrev TO:=St→Hp→(Option Int→Hp→Prop)→Prop
def PO(X:Cx)(e:Option Expr)(t:TO):Prop:=
 ∀(pins:List (Addr×Obj)) (s:Shared) (σ:St) (H:Hp) (Q:Option Int→Hp→Prop),Inv X pins σ H s→t σ H Q →
  wpAny (model X.prog X.w) X.A (evalPart e X.env) (fun u s'=>∃ o H',Inv X pins σ H' s'∧IsPart u o∧Q o H') X.xe s
def tNoPart:TO:=fun _ H Q=>Q none H
def tPart(t:TE):TO:=fun σ H Q=>t σ H fun x H1=>∃ i,x = .int i∧Q (some i) H1
theorem intsAre_of{ns:List Int}:∀{us:List Value},Vals (ns.map V.int) us→IntsAre us ns:=by
 induction ns with
 | nil=>intro us r;rw[List.map_nil] at r;cases r;exact .nil
 | cons n ns ih=>
  intro us r
  rw[List.map_cons] at r
  cases r with
  | cons r1 r2=>
   obtain⟨t,e⟩:=r1
   subst e
   exact .cons n t (ih r2)
section
variable{X:Cx}{e:Expr}{te:TE}{lo hi:Option Expr}{tl th:TO}{pos p2:Pos}
theorem po_none:PO X none tNoPart:=by
 intro pins s σ H Q I h
 rw[evalPart_none]
 exact wpAny_pure ⟨none,H,I,.none,h⟩
theorem po_some(h:PE X e te):PO X (some e) (tPart te):=by
 intro pins s σ H Q I hw
 rw[evalPart_some]
 refine thn (h pins s σ H _ I hw) fun u s1 ⟨x,H1,I1,r1,q1⟩=>?_
 obtain⟨i,rfl,q⟩:=q1
 obtain⟨t,rfl⟩:=r1
 exact⟨some i,H1,I1,.int i t,q⟩
def SlR(X:Cx)(r:V→Option Int→Option Int→Hp→VK→Prop):Prop:=
 ∀(pins:List (Addr×Obj)) (s:Shared) (σ:St) (H:Hp) (x:V) (v vl vu:Value) (lo hi:Option Int) (sl:Addr) (Q:VK),Inv X pins σ H s→RelV x v→s.heap.IsSliceOf sl vl vu .none→IsPart vl lo→IsPart vu hi→r x lo hi H Q →
  ∃ T id,typeLookup (.type T) "__getitem__" = pure (some (.builtin id))∧s.TypeIs v T∧wpAny (model X.prog X.w) X.A (getItem v (.ref sl)) (EP X pins σ Q) X.xe s
def tSl(r:V→Option Int→Option Int→Hp→VK→Prop)(te:TE)(tl th:TO):TE:=fun σ H Q=>te σ H fun x H1=>tl σ H1 fun l H2=>th σ H2 fun u H3=>r x l u H3 Q
theorem pe_slice{r:V→Option Int→Option Int→Hp→VK→Prop}(hr:SlR X r)(he:PE X e te)(hl:PO X lo tl)(hu:PO X hi th):PE X (.Subscript e (.Slice lo hi none p2) pos) (tSl r te tl th):=by
 intro pins s σ H Q I h
 refine Subscript_ (thn (he pins s σ H _ I h) fun v s1 ⟨x,H1,I1,r1,q1⟩=>?_)
 refine wpAny_Slice (thn (hl pins s1 σ H1 _ I1 q1) fun vl s2 ⟨l,H2,I2,pl,q2⟩=>thn (hu pins s2 σ H2 _ I2 q2) fun vu s3 ⟨u,H3,I3,pu,q3⟩=>?_)
 rw[evalPart_none]
 refine wpAny_pure ?_
 have I4:Inv X pins σ H3 { s3 with heap:=s3.heap.push { cls:=.type "slice",data:=.fields #[vl,vu,.none] } }:=I3.kept (t':=s3.toks) fun b ob q=>Heap.get?_push_of_some _ q
 obtain⟨T,id,hT,ht,hg⟩:=hr pins { s3 with heap:=s3.heap.push { cls:=.type "slice",data:=.fields #[vl,vu,.none] } } σ H3 x v vl vu l u s3.heap.objs.size Q I4 r1 (Heap.IsSliceOf.new ..) pl pu q3
 show wpAny (model X.prog X.w) X.A (subscriptTail e (.Slice lo hi none p2) v (.ref s3.heap.objs.size)) (EP X pins σ Q) X.xe { s3 with heap:=s3.heap.push { cls:=.type "slice",data:=.fields #[vl,vu,.none] } }
 exact tail_any (ops:=[.ref s3.heap.objs.size,v]) ht hT hg (by with_unfolding_all rfl)
def cutV(xs:List V)(lo hi:Option Int):List V:=(xs.drop (HT.sIx xs.length 0 lo)).take (HT.sIx xs.length xs.length hi - HT.sIx xs.length 0 lo)
theorem cutV_length(xs:List V)(lo hi:Option Int):(cutV xs lo hi).length≤xs.length:=by
 unfold cutV
 rw[List.length_take,List.length_drop]
 omega
def rCatT(K:PySem.W.Frag):R2:=fun x y H Q=>∃ a b xs ys,x = .ref a∧y = .ref b∧SqT K H a xs∧SqT K H b ys∧xs≠[]∧xs.length+ys.length≤sizeLine ∧
 (ys=[]→Q (.ref a) H)∧(ys≠[]→∀ p,H p=none→Q (.ref p) (upd H p (.tup (xs++ys))))
theorem Vals.nil_iff{xs:List V}{us:List Value}(r:Vals xs us):us=[]↔xs=[]:=by
 cases r with
 | nil=>simp
 | cons _ _=>simp
theorem op_catT:OpR X (binaryOp .Add) (rCatT X.K):=by
 intro pins s σ H x y v u Q I rx ry h
 obtain⟨a,b,xs,ys,rfl,rfl,ha,hb,hx,hz,q1,q2⟩:=h
 cases rx
 cases ry
 obtain⟨its,r1,p1,_⟩:=I.tuple ha
 obtain⟨its2,r2,p2,_⟩:=I.tuple hb
 refine HT.cat_tup p1 p2 (fun z=>hx (r1.nil_iff.mp z)) (fun z=>⟨.ref a,H,I,rfl,q1 (r2.nil_iff.mp z)⟩) (fun z=>?_) (by rw[← r1.length,← r2.length];exact hz)
 refine⟨.ref s.heap.objs.size,_,I.laid (t':=s.toks) (o:=.tup (xs++ys)) (fun b ob q=>Heap.get?_push_of_some _ q) (Nat.le_refl _) ?_,rfl,q2 (fun w=>z (r2.nil_iff.mpr w)) _ (I.hok.fresh (Nat.le_refl _))⟩
 exact⟨by rw[List.length_append];exact hz,_,r1.append r2,IsTup.new _ _⟩
end
end L2
namespace L2
open PySem PySem.Spec PyProof.Rows
def ixN(n:Nat)(i:Int):Option Nat:=if 0≤i then(if i < n then some i.toNat else none) else if -(n:Int)≤i then some (i+n).toNat else none
def atI{α:Type}(xs:List α)(i:Int):Option α:=(ixN xs.length i).bind fun j=>xs[j]?
theorem ixN_seq{n:Nat}{i:Int}{j:Nat}(h:ixN n i=some j):seqIndex? i n=some j∧j < n∧-(n:Int)≤i∧i < n:=by
 unfold ixN at h
 by_cases h0:0≤i
 ·rw[if_pos h0] at h
  by_cases h1:i < n
  ·rw[if_pos h1] at h
   have e:i.toNat=j:=Option.some.inj h
   exact⟨by rw[seqIndex_of h0 h1,e],by omega,by omega,h1⟩
  ·rw[if_neg h1] at h;cases h
 ·rw[if_neg h0] at h
  by_cases h1:-(n:Int)≤i
  ·rw[if_pos h1] at h
   have e:(i+n).toNat=j:=Option.some.inj h
   exact⟨by rw[seqIndex_neg (by omega) h1,e],by omega,h1,by omega⟩
  ·rw[if_neg h1] at h;cases h
theorem atI_get{α:Type}{xs:List α}{i:Int}{v:α}(h:atI xs i=some v):∃ j,seqIndex? i xs.length=some j∧xs[j]? = some v∧j < xs.length∧-(xs.length:Int)≤i∧i < xs.length:=by
 unfold atI at h
 cases e:ixN xs.length i with
 | none=>rw[e] at h;cases h
 | some j=>
  rw[e] at h
  obtain⟨h1,h2,h3,h4⟩:=ixN_seq e
  exact⟨j,h1,h,h2,h3,h4⟩
theorem atI_nat{α:Type}{xs:List α}{j:Nat}{v:α}(h:xs[j]? = some v):atI xs (j:Int)=some v:=by
 have hj:j < xs.length:=(List.getElem?_eq_some_iff.mp h).1
 have e:ixN xs.length (j:Int)=some j:=by
  unfold ixN
  rw[if_pos (by omega),if_pos (by omega)];simp
 unfold atI;rw[e];exact h
def PlainIx(b:Expr):Prop:=∀ o i,subscripted b false o i=operate [o,i] (getItem o i)
def IxR(X:Cx)(r:R2):Prop:=
 ∀(value slice:Expr) (pins:List (Addr×Obj)) (s:Shared) (σ:St) (H:Hp) (x y:V) (v u:Value) (Q:VK),Inv X pins σ H s→RelV x v→RelV y u→r x y H Q →
  subscripted slice false v u=operate [v,u] (getItem v u)→wpAny (model X.prog X.w) X.A (subscriptTail value slice v u) (EP X pins σ Q) X.xe s
def MtR(X:Cx)(id:String)(r:V→List V→Hp→VK→Prop):Prop:=
 ∀(pins:List (Addr×Obj)) (s:Shared) (σ:St) (H:Hp) (x:V) (xs:List V) (v:Value) (us:List Value) (Q:VK),Inv X pins σ H s→RelV x v→Vals xs us→r x xs H Q →
  wpAny (model X.prog X.w) X.A (call (.builtin id) (v :: us)) (EP X pins σ Q) X.xe s
section
variable{X:Cx}{a b:Expr}{ta tb:TE}{pos:Pos}
theorem pe_ix{r:R2}(hr:IxR X r)(ha:PE X a ta)(hb:PE X b tb)(hs:PlainIx b):PE X (.Subscript a b pos) (tOp r ta tb):=by
 intro pins s σ H Q I h
 exact Subscript_ (binT ha hb I h fun v u s2 x y H2 I2 rx ry q=>hr a b pins s2 σ H2 x y v u Q I2 rx ry q (hs _ _))
def rIxL(K:PySem.W.Frag):R2:=fun x y H Q=>∃ p xs i v,x = .ref p∧y = .int i∧SqL K H p xs∧atI xs i=some v∧Q v H
def rIxT(K:PySem.W.Frag):R2:=fun x y H Q=>∃ p xs i v,x = .ref p∧y = .int i∧SqT K H p xs∧atI xs i=some v∧Q v H
def rIxS:R2:=fun x y H Q=>∃ z i c,x = .str z∧y = .int i∧z.length≤sizeLine∧atI z.cps.toList i=some c∧Q (.str ⟨#[c]⟩) H
theorem ix_list:IxR X (rIxL X.K):=by
 intro value slice pins s σ H x y v u Q I rx ry h hs
 obtain⟨p,xs,i,z,rfl,rfl,hq,he,q⟩:=h
 cases rx
 obtain⟨t,rfl⟩:=ry
 obtain⟨its,r,pl,hz⟩:=I.list hq
 obtain⟨j,h1,h2,h3,h4,h5⟩:=atI_get he
 obtain⟨w,ew,rw'⟩:=r.get h2
 have hl:=r.length
 have hn:=line63
 have fin:EP X pins σ Q w s:=⟨z,H,I,rw',q⟩
 by_cases h0:0≤i
 ·have hj:i.toNat=j:=by
   rw[seqIndex_of h0 h5] at h1
   exact Option.some.inj h1
  exact item_listR pl.isList h0 (by omega) (by rw[hj];simpa using ew) fin hs
 ·have hj:(i+(its.toArray.size:Int)).toNat=j:=by
   rw[seqIndex_neg (by omega) h4] at h1
   rw[List.size_toArray,← hl]
   exact Option.some.inj h1
  exact subscriptTail_builtinR (x:=w) pl.isList.typeIs slot_list_getitem.lookup
   (wpAny_getItem_list_neg (Q:=fun r s'=>r=w∧EP X pins σ Q r s') pl.isList (by omega) (by rw[List.size_toArray]<;>omega) (by omega) (by rw[hj];simpa using ew) ⟨rfl,fin⟩) hs
theorem ix_tup:IxR X (rIxT X.K):=by
 intro value slice pins s σ H x y v u Q I rx ry h hs
 obtain⟨p,xs,i,z,rfl,rfl,hq,he,q⟩:=h
 cases rx
 obtain⟨t,rfl⟩:=ry
 obtain⟨its,r,pl,hz⟩:=I.tuple hq
 obtain⟨j,h1,h2,h3,h4,h5⟩:=atI_get he
 obtain⟨w,ew,rw'⟩:=r.get h2
 have hl:=r.length
 have hn:=line63
 have fin:EP X pins σ Q w s:=⟨z,H,I,rw',q⟩
 exact subscriptTail_builtinR (x:=w) pl.typeIs slot_tuple_getitem.lookup
  (getItem_tuple (j:=j) (Q:=fun r s'=>r=w∧EP X pins σ Q r s') pl (by omega) (by omega) (by rw[List.size_toArray,← hl];exact h1) (by simpa using ew) ⟨rfl,fin⟩) hs
theorem ix_str:IxR X rIxS:=by
  intro value slice pins s σ H x y v u Q I rx ry h hs
  obtain⟨z,i,c,rfl,rfl,hz,he,q⟩:=h
  obtain⟨t,rfl⟩:=rx
  obtain⟨t',rfl⟩:=ry
  obtain⟨j,h1,h2,h3,h4,h5⟩:=atI_get he
  have hl:z.cps.toList.length=z.length:=by simp [Str.length]
  rw[hl] at h1 h4 h5
  have hn:=line63
  exact tail_any (typeIs_str s z t) slot_str_getitem.lookup (getItem_str (c:=c) (by
    have e1:decide (i < -(2 ^ 63:Int))=false:=decide_eq_false (by omega)
    have e2:decide (i ≥ 2 ^ 63)=false:=decide_eq_false (by omega)
    rw[e1,e2,Bool.or_false]) (by rw[h1];simpa using h2) ⟨.str ⟨#[c]⟩,H,I.tok _,⟨_,rfl⟩,q⟩) hs
theorem mapSeq_set(its:List Value)(n j:Nat)(u:Value):Obj.mapSeq (·.setIfInBounds j u) { cls:=.type "list",data:=.seq its.toArray n } = { cls:=.type "list",data:=.seq (its.set j u).toArray n }:=by
 simp [Obj.mapSeq]
theorem Inv.lst{pins:List (Addr×Obj)}{σ:St}{H:Hp}{s:Shared}{p:Addr}{xs:List V}(I:Inv X pins σ H s)(h:H p=some (.lst xs)) :
  ∃(its:List Value) (n:Nat),Vals xs its∧s.heap.get? p=some { cls:=.type "list",data:=.seq its.toArray n }∧xs.length≤sizeLine:=by
 obtain⟨z,its,n,r,e⟩:=I.hok p _ h
 exact⟨its,n,r,e,z⟩
theorem Inv.lstUpd{pins:List (Addr×Obj)}{σ:St}{H:Hp}{s:Shared}{p:Addr}{xs ys:List V}{its its':List Value}{n n':Nat}{f:Obj→Obj}(I:Inv X pins σ H s)(h:H p=some (.lst xs))
  (ho:s.heap.get? p=some { cls:=.type "list",data:=.seq its.toArray n }) (hf:f { cls:=.type "list",data:=.seq its.toArray n } = { cls:=.type "list",data:=.seq its'.toArray n' }) (r:Vals ys its') (hz:ys.length≤sizeLine) (t:Nat) :
  Inv X pins σ (upd H p (.lst ys)) { s with heap:=s.heap.update p f,toks:=t }:=by
 have e:(s.heap.update p f).get? p=some { cls:=.type "list",data:=.seq its'.toArray n' }:=by
  rw[Heap.get?_update_self f ho (by rw[hf]<;>rfl),hf]
 refine I.write (x:=p) (e:=p) (by rw[h];trivial) (.inl rfl) (fun b u hb q=>(Heap.get?_update_other _ _ (Ne.symm hb)).trans q) ⟨_,e⟩ ?_
 exact⟨hz,its',n',r,e⟩
def rSetL:V→V→V→Hp→(Hp→Prop)→Prop:=fun o i v H Q=>∃ p xs k j,o = .ref p∧i = .int k∧H p=some (.lst xs)∧ixN xs.length k=some j∧Q (upd H p (.lst (xs.set j v)))
theorem set_list:PSet X rSetL:=by
 intro pins s σ H o i v ov iv u Q I ro ri rv h
 obtain⟨p,xs,k,j,rfl,rfl,hp,hj,q⟩:=h
 cases ro
 obtain⟨t,rfl⟩:=ri
 obtain⟨its,n,r,ho,hz⟩:=I.lst hp
 obtain⟨h1,h2,h3,h4⟩:=ixN_seq hj
 have hl:=r.length
 have hn:=line63
 have I':Inv X pins σ (upd H p (.lst (xs.set j v))) { s with heap:=s.heap.update p (Obj.mapSeq (·.setIfInBounds j u)) }:=
  I.lstUpd hp ho (mapSeq_set its n j u) (r.set rv j) (by rw[List.length_set];exact hz) s.toks
 by_cases h0:0≤k
 ·have hk:k.toNat=j:=by
   rw[seqIndex_of h0 h4] at h1
   exact Option.some.inj h1
  exact PySem.W.ki_setAt ho h0 (by omega) (by rw[List.size_toArray,← hl];exact h4) (by rw[hk];exact⟨_,I',q⟩)
 ·have hk:(k+(its.toArray.size:Int)).toNat=j:=by
   rw[seqIndex_neg (by omega) h3] at h1
   rw[List.size_toArray,← hl]
   exact Option.some.inj h1
  exact PySem.W.ki_setBack ho (by omega) (by rw[List.size_toArray,← hl];exact h3) (by omega) (by rw[hk];exact⟨_,I',q⟩)
theorem slice_bounds(lo hi:Option Int)(n:Nat):(sliceBounds lo hi none n).1=((HT.sIx n 0 lo:Nat):Int)∧(sliceBounds lo hi none n).2.1=((HT.sIx n n hi:Nat):Int)∧(sliceBounds lo hi none n).2.2=1:=by
 refine⟨?_,?_,rfl⟩
 ·cases lo with
  | none=>simp [sliceBounds,HT.sIx]
  | some i=>
   simp only[sliceBounds,HT.sIx,Option.getD_none,show(1:Int) > 0 by decide,if_true]
   by_cases h:i < 0
   ·simp only[h,if_true]<;>omega
   ·simp only[h,if_false]<;>omega
 ·cases hi with
  | none=>simp [sliceBounds,HT.sIx]
  | some i=>
   simp only[sliceBounds,HT.sIx,Option.getD_none,show(1:Int) > 0 by decide,if_true]
   by_cases h:i < 0
   ·simp only[h,if_true]<;>omega
   ·simp only[h,if_false]<;>omega
theorem slicePick_cut(its:List Value)(lo hi:Option Int):slicePick its.toArray lo hi none=((its.drop (HT.sIx its.length 0 lo)).take (HT.sIx its.length its.length hi - HT.sIx its.length 0 lo)).toArray:=by
 obtain⟨h1,h2,h3⟩:=slice_bounds lo hi its.toArray.size
 unfold slicePick
 rw[h1,h2,h3]
 simp only[sliceRange_one,pick_run,List.size_toArray]<;>rfl
def rSlL(K:PySem.W.Frag):V→Option Int→Option Int→Hp→VK→Prop:=fun x lo hi H Q=>∃ a xs,x = .ref a∧SqL K H a xs∧∀ p,H p=none→Q (.ref p) (upd H p (.lst (cutV xs lo hi)))
theorem sl_list:SlR X (rSlL X.K):=by
 intro pins s σ H x v vl vu lo hi sl Q I rx hs pl pu h
 obtain⟨a,xs,rfl,hx,q⟩:=h
 cases rx
 obtain⟨its,r,ht,hz⟩:=I.list hx
 have hlen:=r.length
 refine⟨"list",_,slot_list_getitem.lookup,ht.isList.typeIs,?_⟩
 refine wpAny_getItem_list_slice ht.isList hs pl pu .none (by simp) ?_ (by rw[List.size_toArray]<;>omega)
 rw[slicePick_cut,← hlen]
 refine⟨.ref s.heap.objs.size,_,I.laid (t':=s.toks) (o:=.lst (cutV xs lo hi)) (fun b ob q=>Heap.get?_push_of_some _ q) (Nat.le_refl _) ?_,rfl,q _ (I.hok.fresh (Nat.le_refl _))⟩
 exact⟨Nat.le_trans (cutV_length xs lo hi) hz,_,0,(r.drop (HT.sIx xs.length 0 lo)).take (HT.sIx xs.length xs.length hi - HT.sIx xs.length 0 lo),Heap.get?_push_size _ rfl⟩
def flatV:V→Bool
 | .non=>true
 | .bl _=>true
 | .int _=>true
 | .str _=>true
 | _=>false
def eqV:V→V→Bool
 | .non,.non=>true
 | .bl a,.bl b=>a == b
 | .bl a,.int b=>(if a then 1 else 0) == b
 | .int a,.bl b=>a == (if b then 1 else 0)
 | .int a,.int b=>a == b
 | .str a,.str b=>a == b
 | _,_=>false
theorem eqAt_V{A:Around}{s:Shared}{y x:V}{u v:Value}(ry:RelV y u)(rx:RelV x v)(fy:flatV y=true)(fx:flatV x=true):SeqAt.EqAt A s u v (eqV y x):=by
 cases y with
 | non=>
  cases ry
  cases x with
  | non=>cases rx;exact SeqAt.EqAt.same _
  | bl b=>cases rx;exact SeqAt.EqAt.none_bool b
  | int b=>obtain⟨t,rfl⟩:=rx;exact SeqAt.EqAt.none_int b t
  | str b=>obtain⟨t,rfl⟩:=rx;exact SeqAt.EqAt.none_str b t
  | _=>exact absurd (show false=true from fx) Bool.false_ne_true
 | bl a=>
  cases ry
  cases x with
  | non=>cases rx;exact SeqAt.EqAt.bool_none a
  | bl b=>cases rx;exact SeqAt.EqAt.bool_bool a b
  | int b=>obtain⟨t,rfl⟩:=rx;exact SeqAt.EqAt.bool_int a b t
  | str b=>obtain⟨t,rfl⟩:=rx;exact SeqAt.EqAt.bool_str a b t
  | _=>exact absurd (show false=true from fx) Bool.false_ne_true
 | int a=>
  obtain⟨t',rfl⟩:=ry
  cases x with
  | non=>cases rx;exact SeqAt.EqAt.int_none a t'
  | bl b=>cases rx;exact SeqAt.EqAt.int_bool a t' b
  | int b=>obtain⟨t,rfl⟩:=rx;exact SeqAt.EqAt.int_int a t' b t
  | str b=>obtain⟨t,rfl⟩:=rx;exact SeqAt.EqAt.int_str a t' b t
  | _=>exact absurd (show false=true from fx) Bool.false_ne_true
 | str a=>
  obtain⟨t',rfl⟩:=ry
  cases x with
  | non=>cases rx;exact SeqAt.EqAt.str_none a t'
  | bl b=>cases rx;exact SeqAt.EqAt.str_bool a t' b
  | int b=>obtain⟨t,rfl⟩:=rx;exact SeqAt.EqAt.str_int a t' b t
  | str b=>obtain⟨t,rfl⟩:=rx;exact SeqAt.EqAt.str_str a t' b t
  | _=>exact absurd (show false=true from fx) Bool.false_ne_true
 | _=>exact absurd (show false=true from fy) Bool.false_ne_true
def eqU(x:V)(u:Value):Bool:=match u with
 | .none=>eqV .non x
 | .bool b=>eqV (.bl b) x
 | .int i _=>eqV (.int i) x
 | .str z _=>eqV (.str z) x
 | _=>false
theorem eqU_of{x y:V}{u:Value}(r:RelV y u)(f:flatV y=true):eqU x u=eqV y x:=by
 cases y with
 | non=>cases r;rfl
 | bl b=>cases r;rfl
 | int i=>obtain⟨t,rfl⟩:=r;rfl
 | str z=>obtain⟨t,rfl⟩:=r;rfl
 | _=>exact absurd (show false=true from f) Bool.false_ne_true
theorem any_eqU{x:V}:∀{xs:List V} {us:List Value},Vals xs us→xs.all flatV=true→us.any (eqU x)=xs.any fun y=>eqV y x
 | _,_,.nil,_=>rfl
 | y :: xs,u :: us,.cons r t,f=>by
  rw[List.all_cons,Bool.and_eq_true] at f
  rw[List.any_cons,List.any_cons,eqU_of r f.1,any_eqU t f.2]
theorem mem_eqAt{A:Around}{s:Shared}{x:V}{v:Value}(rx:RelV x v)(fx:flatV x=true):∀{xs:List V} {us:List Value},Vals xs us→xs.all flatV=true→∀ u∈us,SeqAt.EqAt A s u v (eqU x u)
 | _,_,.nil,_=>fun u hu=>by cases hu
 | y :: xs,u :: us,.cons r t,f=>fun u' hu=>by
  rw[List.all_cons,Bool.and_eq_true] at f
  rcases List.mem_cons.mp hu with rfl | hu
  ·rw[eqU_of r f.1];exact eqAt_V r rx f.1 fx
  ·exact mem_eqAt rx fx t f.2 u' hu
def inV(x:V)(xs:List V):Bool:=xs.any fun y=>eqV y x
def rIn(K:PySem.W.Frag)(neg:Bool):R2:=fun x y H Q=>∃ p xs,y = .ref p∧(SqL K H p xs∨SqT K H p xs)∧flatV x=true∧xs.all flatV=true∧Q (.bl (if neg then !inV x xs else inV x xs)) H
theorem op_in_seq:OpR X (compareOp .In) (rIn X.K false):=by
 intro pins s σ H x y v u Q I rx ry h
 obtain⟨p,xs,rfl,hq,fx,fs,q⟩:=h
 cases ry
 rcases hq with hq | hq
 ·obtain⟨its,r,pl,hz⟩:=I.list hq
  refine SeqAt.in_listAt (eqU x) pl.isList (fun w hw=>mem_eqAt rx fx r fs w (by simpa using hw)) ⟨.bl _,H,I,rfl,?_⟩
  rw[show its.toArray.any (eqU x)=its.any (eqU x) by simp,any_eqU r fs]
  exact q
 ·obtain⟨its,r,pl,hz⟩:=I.tuple hq
  refine SeqAt.in_tupleAt (eqU x) pl (fun w hw=>mem_eqAt rx fx r fs w (by simpa using hw)) ⟨.bl _,H,I,rfl,?_⟩
  rw[show its.toArray.any (eqU x)=its.any (eqU x) by simp,any_eqU r fs]
  exact q
theorem op_notIn_seq:OpR X (compareOp .NotIn) (rIn X.K true):=by
 intro pins s σ H x y v u Q I rx ry h
 obtain⟨p,xs,rfl,hq,fx,fs,q⟩:=h
 cases ry
 rcases hq with hq | hq
 ·obtain⟨its,r,pl,hz⟩:=I.list hq
  refine SeqAt.notIn_listAt (eqU x) pl.isList (fun w hw=>mem_eqAt rx fx r fs w (by simpa using hw)) ⟨.bl _,H,I,rfl,?_⟩
  rw[show its.toArray.any (eqU x)=its.any (eqU x) by simp,any_eqU r fs]
  exact q
 ·obtain⟨its,r,pl,hz⟩:=I.tuple hq
  refine SeqAt.notIn_tupleAt (eqU x) pl (fun w hw=>mem_eqAt rx fx r fs w (by simpa using hw)) ⟨.bl _,H,I,rfl,?_⟩
  rw[show its.toArray.any (eqU x)=its.any (eqU x) by simp,any_eqU r fs]
  exact q
theorem call_len_seq:CallR X (.builtin "len") (fun xs H Q=>∃ p ys,xs=[.ref p]∧(SqL X.K H p ys∨SqT X.K H p ys)∧Q (.int ys.length) H):=by
 intro pins s σ H xs us Q I r h
 obtain⟨p,ys,rfl,hq,q⟩:=h
 obtain⟨u,rfl,rx⟩:=vals1 r
 cases rx
 have hn:=line63
 rcases hq with hq | hq
 ·obtain⟨its,r',pl,hz⟩:=I.list hq
  have hlen:=r'.length
  exact Calls.call_len_list pl.isList (by simp only[List.size_toArray]<;>omega) ⟨.int ys.length,H,I.tok _,⟨s.toks+1,by rw[List.size_toArray,hlen]⟩,q⟩
 ·obtain⟨its,r',pl,hz⟩:=I.tuple hq
  have hlen:=r'.length
  exact len_tuple pl (by simp only[List.size_toArray]<;>omega) ⟨.int ys.length,H,I.tok _,⟨s.toks+1,by rw[List.size_toArray,hlen]⟩,q⟩
theorem call_len_str:CallR X (.builtin "len") (fun xs H Q=>∃ z,xs=[.str z]∧z.length≤sizeLine∧Q (.int z.length) H):=by
 intro pins s σ H xs us Q I r h
 obtain⟨z,rfl,hz,q⟩:=h
 obtain⟨u,rfl,t,rfl⟩:=vals1 r
 have hn:=line63
 exact len_str (by omega) ⟨.int z.length,H,I.tok _,⟨_,rfl⟩,q⟩
theorem call_list_of:CallR X (.type "list") (fun xs H Q=>∃ p ys,xs=[.ref p]∧(SqL X.K H p ys∨SqT X.K H p ys)∧∀ l,H l=none→Q (.ref l) (upd H l (.lst ys))):=by
 intro pins s σ H xs us Q I r h
 obtain⟨p,ys,rfl,hq,q⟩:=h
 obtain⟨u,rfl,rx⟩:=vals1 r
 cases rx
 have fin:∀(its:List Value),Vals ys its→ys.length≤sizeLine→∀(h':Heap) (c':Nat),(∀ b o',s.heap.get? b=some o'→h'.get? b=some o') →
   h'.get? s.heap.objs.size=some { cls:=.type "list",dict:=none,data:=.seq its.toArray c',slots:=#[] }→EP X pins σ Q (.ref s.heap.objs.size) { s with heap:=h' }:=fun its r' hz h' c' kp e=>
  ⟨.ref s.heap.objs.size,_,I.laid (t':=s.toks) kp (Nat.le_refl _) (show ObjOk X.prog X.w _ h' _ (.lst ys) from⟨hz,its,c',r',e⟩),rfl,q _ (I.hok.fresh (Nat.le_refl _))⟩
 rcases hq with hq | hq
 ·obtain⟨its,r',pl,hz⟩:=I.list hq
  have hlen:=r'.length
  obtain⟨o,ho,hc,n,hd⟩:=pl.isList
  exact call_list_seq p (.inl rfl) ho hc hd (fun h' c' kp e=>fin its r' hz h' c' kp e) (by simp only[List.size_toArray]<;>omega)
 ·obtain⟨its,r',pl,hz⟩:=I.tuple hq
  have hlen:=r'.length
  obtain⟨o,ho,hc,n,hd⟩:=pl
  exact call_list_seq p (.inr rfl) ho hc hd (fun h' c' kp e=>fin its r' hz h' c' kp e) (by simp only[List.size_toArray]<;>omega)
theorem call_tuple_of:CallR X (.type "tuple") (fun xs H Q=>∃ p ys,xs=[.ref p]∧((SqL X.K H p ys∧∀ l,H l=none→Q (.ref l) (upd H l (.tup ys)))∨(SqT X.K H p ys∧Q (.ref p) H))):=by
 intro pins s σ H xs us Q I r h
 obtain⟨p,ys,rfl,h⟩:=h
 obtain⟨u,rfl,rx⟩:=vals1 r
 cases rx
 rcases h with⟨hq,q⟩ | ⟨hq,q⟩
 ·obtain⟨its,r',pl,hz⟩:=I.list hq
  have hlen:=r'.length
  refine call_tuple_list pl.isList (fun h' kp=>?_) (by simp only[List.size_toArray]<;>omega)
  have I1:Inv X pins σ H { s with heap:=h' }:=I.kept (t':=s.toks) kp
  have I2:Inv X pins σ (upd H h'.objs.size (.tup ys)) { s with heap:=h'.push { cls:=.type "tuple",data:=.seq its.toArray } }:=
   I1.laid (t':=s.toks) (fun b o e=>Heap.get?_push_of_some _ e) (Nat.le_refl _) (show ObjOk X.prog X.w _ _ _ (.tup ys) from⟨hz,its,r',IsTup.new _ _⟩)
  exact⟨.ref h'.objs.size,_,I2,rfl,q _ (I1.hok.fresh (Nat.le_refl _))⟩
 ·obtain⟨its,r',pl,hz⟩:=I.tuple hq
  exact call_tuple_same pl ⟨.ref p,H,I,rfl,q⟩
def tyV(K:PySem.W.Frag)(T:String)(x:V)(H:Hp):Prop:=match x with
 | .str _=>T = "str"
 | .int _=>T = "int"
 | .ref p=>(T = "list"∧∃ xs,SqL K H p xs)∨(T = "tuple"∧∃ o,K.lookup p=some o∧o.cls = .type "tuple"∧o.dict=none) ∨
   (T = "dict"∧((∃ kvs,H p=some (.dK kvs))∨∃ kvs,H p=some (.dT kvs)))∨(T = "set"∧∃ S n,H p=some (.set S n))
 | _=>False
theorem tyV_is{pins:List (Addr×Obj)}{σ:St}{H:Hp}{s:Shared}{T:String}{x:V}{v:Value}(I:Inv X pins σ H s)(r:RelV x v)(ty:tyV X.K T x H) :
  s.TypeIs v T∧∀ a,v = .ref a→∃ ob,s.heap.get? a=some ob∧ob.dict=none:=by
 cases x with
 | str z=>
  obtain⟨t,rfl⟩:=r
  cases (show T = "str" from ty)
  exact⟨typeIs_str s z t,fun _ e=>nomatch e⟩
 | int i=>
  obtain⟨t,rfl⟩:=r
  cases (show T = "int" from ty)
  exact⟨typeIs_int s i t,fun _ e=>nomatch e⟩
 | ref p=>
  cases r
  rcases ty with⟨rfl,xs,hq⟩ | ⟨rfl,o,hk,hc,hd⟩ | ⟨rfl,hk⟩ | ⟨rfl,S,n,hk⟩
  ·obtain⟨its,_,pl,_⟩:=I.list hq
   refine⟨pl.isList.typeIs,fun a e=>?_⟩
   cases e
   obtain⟨o,n,e,c,hd,_⟩:=pl
   exact⟨o,e,hd⟩
  ·refine⟨⟨o,I.kIn p o hk,hc⟩,fun a e=>?_⟩
   cases e
   exact⟨o,I.kIn _ o hk,hd⟩
  ·have z:∃ o,s.heap.get? p=some o∧o.ExactDict:=by
    rcases hk with⟨kvs,hk⟩ | ⟨kvs,hk⟩
    ·obtain⟨_,_,_,_,o,_,_,e,ex,_⟩:=I.hok p _ hk
     exact⟨o,e,ex⟩
    ·obtain⟨_,_,_,_,o,_,_,e,ex,_⟩:=I.hok p _ hk
     exact⟨o,e,ex⟩
   obtain⟨o,e,ex⟩:=z
   refine⟨⟨o,e,ex.1⟩,fun a e2=>?_⟩
   cases e2
   exact⟨o,e,ex.2.1⟩
  ·obtain⟨o,_,_,_,e,ex,_⟩:=I.hok p _ hk
   refine⟨⟨o,e,ex.1⟩,fun a e2=>?_⟩
   cases e2
   exact⟨o,e,ex.2.1⟩
 | _=>exact False.elim ty
def tBM(K:PySem.W.Frag)(T:String)(r:V→List V→Hp→VK→Prop)(to:TE)(t:TA):TE:=fun σ H Q=>to σ H fun x H1=>tyV K T x H1∧t σ H1 fun xs H2=>r x xs H2 Q
variable{o e:Expr}{es:List Expr}{to:TE}{t:TA}{name:Str}{apos cpos:Pos}{T id:String}{r:V→List V→Hp→VK→Prop}
theorem pe_bm(pa:PlainAttrs T)(slot:Slot T name id)(hty:typeOf (.builtin id)=pure (.type "method_descriptor"))(hm:MtR X id r)(ho:PE X o to)(ha:PA X (e :: es) t)
  (hbase:attributeBase o name X.env (eval o X.env)=eval o X.env:=by rfl)
  (hfew:((backTo cpos (starEach (e :: es) X.env)).all (fun x=>!x.1) && (backToKw cpos (keywordEach [] X.env)).all (fun x=>x.1.isSome)
   && decide ((e :: es).length+([]:List Keyword).length+(if([]:List Keyword).isEmpty then 0 else 1) < 30))=true:=by rfl)
  (hline:(apos.endLine == cpos.line)=true:=by rfl) (hs:starEach (e :: es) X.env=(false,eval e X.env) :: starEach es X.env:=by rfl) (hplain:(backTo cpos (starEach es X.env)).any (·.1)=false:=by rfl) :
  PE X (.Call (.Attribute o name apos) (e :: es) [] cpos) (tBM X.K T r to t):=by
 intro pins s σ H Q I h
 refine wpAny_Call_method_late hbase hfew hline rfl (thn (ho pins s σ H _ I h) fun v s1 ⟨x,H1,I1,r1,ty,q1⟩=>?_)
 obtain⟨h1,h2⟩:=tyV_is I1 r1 ty
 refine⟨T,id,pa,slot,hty,h1,h2,?_⟩
 have hA:=ha cpos pins s1 σ H1 _ I1 q1
 rw[hs] at hA ⊢
 refine Calls.callWith_builtin (by show(false || (backTo cpos (starEach es X.env)).any (·.1))=false;rw[hplain]<;>rfl) (Calls.evalArgs_plain ?_)
 exact thn hA fun us s2 ⟨vs,H2,I2,r2,q2⟩=>hm pins s2 σ H2 x vs v us Q I2 r1 r2 q2
end
end L2
namespace L2
open PySem PySem.Spec PyProof.Rows
def MtM(X:Cx)(id:String)(r:V→List V→Hp→VK→Prop):Prop:=
 ∀(pins:List (Addr×Obj)) (s:Shared) (σ:St) (H:Hp) (x:V) (xs:List V) (v:Value) (us:List Value) (Q:VK),Inv X pins σ H s→RelV x v→Vals xs us→r x xs H Q →
  wpAny (model X.prog X.w) X.A (call (.builtin id) (v :: us)) (EP X pins σ Q) X.xe s
theorem Vals.one:∀{x:V} {us:List Value},Vals [x] us→∃ u,us=[u]∧RelV x u
 | _,_,.cons r .nil=>⟨_,rfl,r⟩
theorem Vals.eraseIdx:∀{xs:List V} {us:List Value} (i:Nat),Vals xs us→Vals (xs.eraseIdx i) (us.eraseIdx i)
 | _,_,_,.nil=>.nil
 | _,_,0,.cons _ t=>t
 | _,_,i+1,.cons r t=>.cons r (Vals.eraseIdx i t)
theorem len_erase{α:Type}:∀(l:List α) (i:Nat),(l.eraseIdx i).length≤l.length
 | [],_=>Nat.le_refl _
 | _ :: _,0=>Nat.le_succ _
 | _ :: r,i+1=>Nat.succ_le_succ (len_erase r i)
section
variable{X:Cx}{pins:List (Addr×Obj)}{σ:St}{H:Hp}{s:Shared}{l b:Addr}{xs ys zs:List V}
theorem Inv.lset{its its':List Value}{n:Nat}{f:Array Value→Array Value}{t':Nat}(I:Inv X pins σ H s)(hH:H l=some (.lst xs))
  (e:s.heap.get? l=some { cls:=.type "list",data:=.seq its.toArray n }) (hf:f its.toArray=its'.toArray) (hv:Vals ys its') (hz:ys.length≤sizeLine) :
  Inv X pins σ (upd H l (.lst ys)) { s with heap:=s.heap.update l (Obj.mapSeq f),toks:=t' }:=by
 have q:=PySem.IsL.update e f
 rw[hf] at q
 refine I.write (x:=l) (e:=l) (by rw[hH];exact trivial) (.inl rfl) (fun b' u hb hu=>(Heap.get?_update_other s.heap (Obj.mapSeq f) (Ne.symm hb)).trans hu) ⟨_,q⟩ ?_
 exact⟨hz,its',_,hv,q⟩
theorem Inv.lnew{its:List Value}{t':Nat}(I:Inv X pins σ H s)(hv:Vals ys its)(hz:ys.length≤sizeLine) :
  Inv X pins σ (upd H s.heap.objs.size (.lst ys)) { s with heap:=s.heap.push { cls:=.type "list",data:=.seq its.toArray },toks:=t' }:=
 I.laid (fun _ _ q=>Heap.get?_push_of_some _ q) (Nat.le_refl _) ⟨hz,its,0,hv,Heap.get?_push_size _ rfl⟩
theorem Inv.fresh(I:Inv X pins σ H s):H s.heap.objs.size=none:=I.hok.fresh (Nat.le_refl _)
theorem Inv.lstM(I:Inv X pins σ H s)(hH:H l=some (.lst xs)):xs.length≤sizeLine∧∃(its:List Value) (n:Nat),Vals xs its∧xs.length=its.length∧s.heap.get? l=some { cls:=.type "list",data:=.seq its.toArray n }:=by
 obtain⟨z,its,n,r,e⟩:=I.hok l _ hH
 exact⟨z,its,n,r,r.length,e⟩
theorem notLongL{n:Nat}(h:n≤sizeLine):Builtin.List.listTooLong n=false:=by
 unfold Builtin.List.listTooLong
 exact decide_eq_false (by omega)
end
section
variable{X:Cx}
def rAppend:V→List V→Hp→VK→Prop:=fun x vs H Q=>∃ l xs y,x = .ref l∧vs=[y]∧H l=some (.lst xs)∧xs.length < sizeLine∧Q .non (upd H l (.lst (xs++[y])))
theorem mt_append:MtM X "list.append" rAppend:=by
 intro pins s σ H x vs v us Q I rx rv h
 obtain⟨l,xs,y,rfl,rfl,hH,hz,q⟩:=h
 cases rx
 obtain⟨u,rfl,ru⟩:=rv.one
 obtain⟨z,its,n,r,hl,e⟩:=I.lstM hH
 refine call_meets F.slot_list_append ⟨_,e,rfl⟩ F.entry_list_append (F.args_list_append_2 _ _) (PySem.list_append l its.toArray n u (by rw[List.size_toArray];omega)) ⟨e,?_⟩
 refine⟨.non,_,I.lset (its':=its++[u]) hH e (by simp) (r.append (.cons ru .nil)) ?_,rfl,q⟩
 rw[List.length_append,List.length_singleton]
 omega
def rExtend:V→List V→Hp→VK→Prop:=fun x vs H Q=>∃ l b xs zs,x = .ref l∧vs=[.ref b]∧H l=some (.lst xs)∧H b=some (.lst zs)∧xs.length+zs.length≤sizeLine∧Q .non (upd H l (.lst (xs++zs)))
theorem mt_extend:MtM X "list.extend" rExtend:=by
 intro pins s σ H x vs v us Q I rx rv h
 obtain⟨l,b,xs,zs,rfl,rfl,hH,hB,hz,q⟩:=h
 cases rx
 obtain⟨u,rfl,ru⟩:=rv.one
 cases ru
 obtain⟨z,its,n,r,hl,e⟩:=I.lstM hH
 obtain⟨z2,its2,n2,r2,hl2,e2⟩:=I.lstM hB
 have hsz:its.toArray.size+its2.toArray.size≤sizeLine:=by rw[List.size_toArray,List.size_toArray];omega
 have hlong:¬ (!its.toArray.isEmpty && Builtin.List.listTooLong (its.toArray.size+its2.toArray.size))=true:=by
  rw[notLongL hsz,Bool.and_false]
  exact Bool.false_ne_true
 refine call_meets F.slot_list_extend ⟨_,e,rfl⟩ F.entry_list_extend (F.args_list_extend_2 _ _)
  (AutoSeq1.list_extend_list_list_0 l its.toArray n b its2.toArray n2 hlong (by rw[List.size_toArray];omega) (by omega)) ⟨e,e2,?_⟩
 refine⟨.non,_,I.lset (its':=its++its2) hH e (by simp) (r.append r2) ?_,rfl,q⟩
 rw[List.length_append]
 omega
def rPopAt:V→List V→Hp→VK→Prop:=fun x vs H Q=>∃ l xs i k y,x = .ref l∧vs=[.int i]∧H l=some (.lst xs)∧-(2 ^ 63)≤i∧i < 2 ^ 63∧seqIndex? i xs.length=some k∧xs[k]? = some y∧Q y (upd H l (.lst (xs.eraseIdx k)))
theorem mt_popAt:MtM X "list.pop" rPopAt:=by
 intro pins s σ H x vs v us Q I rx rv h
 obtain⟨l,xs,i,k,y,rfl,rfl,hH,h1,h2,hk,hy,q⟩:=h
 cases rx
 obtain⟨u,rfl,ru⟩:=rv.one
 obtain⟨t,rfl⟩:=ru
 obtain⟨z,its,n,r,hl,e⟩:=I.lstM hH
 obtain⟨w,hw,rw'⟩:=r.get hy
 refine call_meets F.slot_list_pop ⟨_,e,rfl⟩ F.entry_list_pop (F.args_list_pop_2 _ _)
  (MeetsSeq.list_pop_at l its.toArray n i t k w (fitsIndex_both h1 h2) (by rw[List.size_toArray,← hl];exact hk) (by rw[← Array.getElem?_toList];exact hw) (by rw[List.size_toArray];omega)) ⟨e,?_⟩
 refine⟨y,_,I.lset (its':=its.eraseIdx k) hH e ?_ (r.eraseIdx k) ?_,rw',q⟩
 ·show its.toArray.eraseIdxIfInBounds k=(its.eraseIdx k).toArray
  rw[List.eraseIdxIfInBounds_toArray]
 ·have:=len_erase xs k
  omega
def rCat:R2:=fun x y H Q=>∃ l b xs zs,x = .ref l∧y = .ref b∧H l=some (.lst xs)∧H b=some (.lst zs)∧xs.length+zs.length≤sizeLine∧∀ p,H p=none→Q (.ref p) (upd H p (.lst (xs++zs)))
theorem op_cat:OpR X (binaryOp .Add) rCat:=by
 intro pins s σ H x y v u Q I rx ry h
 obtain⟨l,b,xs,zs,rfl,rfl,hH,hB,hz,q⟩:=h
 cases rx
 cases ry
 obtain⟨z,its,n,r,hl,e⟩:=I.lstM hH
 obtain⟨z2,its2,n2,r2,hl2,e2⟩:=I.lstM hB
 refine PySem.P.add_list e e2 ?_ (by rw[List.size_toArray,List.size_toArray];omega)
 have ea:its.toArray++its2.toArray=(its++its2).toArray:=by simp
 rw[ea]
 exact⟨.ref _,_,I.lnew (t':=s.toks) (r.append r2) (by rw[List.length_append];omega),rfl,q _ I.fresh⟩
end
section
variable{prog:Program}{w:World}{A:Around}{E:Value→Shared→Prop}{s:Shared}
end
section
variable{X:Cx}
end
end L2
namespace Att
open PySem PySem.W PySem.Calls PyProof.Rows
theorem ints_of_wellAll{P:Params}{h:Heap}:∀(ns:List Int) (vs:List Value),WellAll P h vs (ns.map WData.int)→IntsAre vs ns:=by
 intro ns
 induction ns with
 | nil=>
  intro vs w
  rw[List.map_nil] at w
  cases w
  exact .nil
 | cons n ns ih=>
  intro vs w
  rw[List.map_cons] at w
  cases w with
  | cons a b=>
   cases a
   exact .cons _ _ (ih _ b)
theorem script_of{l:OpenLaw}{n:Nat}(hn:l.most=some n){P:Params}{h:Heap}{args:List WData}{vals:List Value}
  (hpre:l.row.toRowW.claim.pre args=true) (hwl:WellAll P h vals args) :
  ∃ a vs ns,vals=[Value.ref a]∧args=[WData.list (ns.map WData.int)]∧h.get? a=some { cls:=.type "list",data:=.seq vs.toArray }∧IntsAre vs ns∧ns.length≤n:=by
 have hsh:WShape.hasAll [] args [.list .int]=true:=(pre_splitW hpre).1
 have hc:l.pre.holds [] { args:=args }=true:=(pre_splitW hpre).2
 obtain⟨d,r,rfl,h1,h2⟩:=hasAllW_cons hsh
 obtain rfl:=hasAllW_nil h2
 obtain⟨xs,rfl,h3⟩:=hasW_list h1
 obtain⟨ns,rfl⟩:=items_int h3
 have hlen:ns.length≤n:=by
  unfold OpenLaw.pre at hc
  have h4:(WTm.not (.lt (.lit (.int (n:Int))) (.len (.arg 0)))).holds [] { args:=[.list (ns.map .int)] }=true:=by
   have h4:=(holds_andW hc).1
   rw[hn] at h4
   exact h4
  have h5:=condW_of h4 (w_not (w_lt w_lit (w_len_list (w_arg rfl))))
  rw[List.length_map] at h5
  refine Nat.le_of_not_lt fun q=>?_
  have q':(n:Int) < ((ns.length:Nat):Int):=by omega
  first
   | (rw[decide_eq_true q'] at h5;exact absurd h5 (by decide))
   | (simp at h5;omega)
 cases hwl with
 | cons w1 w2=>
  cases w2
  cases w1 with
  | list ho hall=>exact⟨_,_,ns,rfl,rfl,ho,ints_of_wellAll ns _ hall,hlen⟩
theorem post_true(l:OpenLaw)(args:List WData):l.row.toRowW.claim.post args (.bool true) args=true:=
 postW_of (r:=l.row.toRowW) (X:=(true == true))
  (show WShape.has [] (.bool true) .bool=true by first | rfl | decide | simp [WShape.has,WShape.arms,WShape.armsAll])
  (show(WTm.eq .res (.lit (.bool true))).value [] { args:=args,res:=some (.bool true),after:=args }=some (.bool (true == true)) from w_eq_bool (w_res rfl) w_lit) rfl
theorem attach_call{l:OpenLaw}{n:Nat}{q:Program}{loose:List Str}{XP:(Str→Option Value)→Heap→Prop}{YP:World→Heap→Prop}{d:DefRec}
  (hn:l.most=some n) (hdf:d.params.defaults=[])
  (call:∀(w:World) (s₀ s₁:Shared) (mg mb:Str→Option Value) (fa:Addr) (o:Obj) (pm cd doc:Value) (a:Addr) (vs:List Value) (ns:List Int),
   Ground q loose [] XP w s₀ mg mb s₁.heap→YP w s₁.heap →
   s₁.heap.get? fa=some o→o.data = .func (docDef d.name d.params d.body d.scope pm cd doc)→s₁.heap.CodeRec cd d.name→mg d.name=some (.ref fa) →
   s₁.heap.get? a=some { cls:=.type "list",data:=.seq vs.toArray }→IntsAre vs ns→ns.length≤n→s₁.gens = #[] →
   codeAny (model l.prog w) callerA (.call (.ref fa) ⟨[.ref a],[]⟩) (fun r s'=>r = .ok (.ret (.bool true))∧OldK s₁.heap s'.heap∧s'.os=s₁.os∧AllBare s'.gens) s₁) :
  WalkO q loose XP YP l.row.toRowW d [] (fun f vs=>PySem.call f vs):=by
 intro w s₀ s₁ mg mb G Y fa o pm cd doc dV kV ho hd hcd hD hmg hg args vals as hpre hlay hrd hwl hlo
 obtain rfl:dV = .none:=Dflts.none hD hdf
 obtain rfl:kV = .none:=Dflts.noKw hD
 obtain⟨a,vs,ns,rfl,rfl,hobj,hints,hlen⟩:=script_of hn hpre hwl
 refine enter_call (codeAny_mono (call w s₀ s₁ mg mb fa o pm cd doc a vs ns G Y ho (fd_plain hd) hcd hmg hobj hints hlen hg) fun r s' hq=>?_)
 obtain⟨rfl,h2,h3,h4⟩:=hq
 exact⟨.inl ⟨.bool true,.bool true,[],rfl,fun _=>rfl,.bool true,post_true l _,fun _=>⟨List.Pairwise.nil,fun _ hm=>(nomatch hm)⟩⟩,h2,h3,h4⟩
section
variable{prog:Program}{w:World}{A:Around}{E:Value→Shared→Prop}{s:Shared}{K:Frag}
end
end Att
namespace L2
open PySem PySem.Spec PyProof.Rows
theorem vals_ints:∀{vs:List Value} {ns:List Int},IntsAre vs ns→Vals (ns.map V.int) vs
 | _,_,.nil=>.nil
 | _,_,.cons n t h=>.cons ⟨t,rfl⟩ (vals_ints h)
def Only(H:Hp):Prop:=∀ b,H b=none∨∃ o xs,H b=some (.frz o (.lst xs))
theorem law_call{P:Program}{w:World}{K:PySem.W.Frag}{mg mb:Str→Option Value}{CX:CXT}{k:Nat}{fa a:Addr}{fd:FuncData}{x:Str}{sp:Sp}{s₁:Shared}{vs:List Value}{ns:List Int}
    (KX:K.In s₁.heap) (hns:s₁.heap.Ns mainGlobals mg) (hb:s₁.heap.Ns builtinsNs mb) (hbb:∀ x:Str,x≠"__name__"→mb x=bootBuiltins x) (hlim:s₁.heap.NoLimit) (hg:s₁.gens = #[])
    (ha:s₁.heap.get? a=some { cls:=.type "list",data:=.seq vs.toArray }) (hi:IntsAre vs ns) (hl:ns.length≤sizeLine) (hr:Room k callerA)
    (F:∀ base:Heap,K.In base→base.Ns mainGlobals mg→FnOk P w K mg base CX k fa fd [x] sp) (hbind:∀(s:Shared) (u:Value),BindsTo s fd ⟨[u],[]⟩ [(x,u)])
    (hsp:∀ H:Hp,Only H→SqL K H a (ns.map V.int)→sp [.ref a] H (fun v _=>v = .bl true) fun _ _ _=>False)
    (hCX:∀ H e s',CX [] H s₁ (fun _ _ _=>False) e s'→False) :
    codeAny (model P w) callerA (.call (.ref fa) ⟨[.ref a],[]⟩) (fun r s'=>r = .ok (.ret (.bool true))∧OldK s₁.heap s'.heap∧s'.os=s₁.os∧AllBare s'.gens) s₁:=by
  have rv:=vals_ints hi
  have lenV:=hi.length
  have core:∀ H:Hp,Only H→SqL K H a (ns.map V.int)→HOk P w H s₁.heap→(∀ b,H b≠none→b=a)→(H a≠none→K.lookup a=none) →
      codeAny (model P w) callerA (.call (.ref fa) ⟨[.ref a],[]⟩) (fun r s'=>r = .ok (.ret (.bool true))∧OldK s₁.heap s'.heap∧s'.os=s₁.os∧AllBare s'.gens) s₁:=by
    intro H hO hS hok hA hK
    have base_of:∀{b:Addr} {o:Obj},s₁.heap.get? b=some o→H b=none→(hidT s₁.heap H).get? b=some o:=fun e n=>hidT_get e n
    have noA:∀{b:Addr} {o:Obj} {es:Array DictEntry} {ep:Nat},s₁.heap.get? b=some o→o.data = .dict es ep→H b=none:=fun {b o es ep} e d=>by
      cases q:H b with
      | none=>rfl
      | some u=>
        have e':b=a:=hA b (by rw[q];simp)
        subst e'
        rw[ha] at e;cases e
        have d':Data.seq vs.toArray _=Data.dict es ep:=d
        cases d'
    have nsK:∀{b:Addr} {m:Str→Option Value},s₁.heap.Ns b m→(hidT s₁.heap H).Ns b m:=fun {b m} ⟨o,es,ep,e,d,r⟩=>⟨o,es,ep,base_of e (noA e d),d,r⟩
    have hKb:K.In (hidT s₁.heap H):=fun b o e=>base_of (KX b o e) (by
      cases q:H b with
      | none=>rfl
      | some u=>
        have e':b=a:=hA b (by rw[q];simp)
        subst e'
        rw[hK (by rw[q];simp)] at e;cases e)
    have hM:Mod K mg (hidT s₁.heap H):=⟨hKb,nsK hns,⟨mb,nsK hb,hbb⟩,let ⟨mc,h1,h2⟩:=hlim;⟨mc,nsK h1,h2⟩⟩
    have e0:Env0 P w K mg (hidT s₁.heap H) callerA [] s₁ H:=⟨rfl,hM,fun b o e=>of_hidT e,Nat.le_of_eq (hidT_size _ _),trivial,fun b hb=>absurd (show b∈([]:List Addr) from hb) (by simp),hok,.of_eq hg⟩
    refine codeAny_mono ((F _ hKb (nsK hns)).run callerA [] s₁ H ⟨[.ref a],[]⟩ [.ref a] [.ref a] _ _ hr e0 (hbind s₁ (.ref a)) (.cons rfl .nil) (hsp H hO hS)) fun r s' h=>?_
    cases r with
    | error e=>exact(hCX H e s' h).elim
    | ok fl=>
      cases fl with
      | next=>exact False.elim h
      | brk=>exact False.elim h
      | cont=>exact False.elim h
      | ret u=>
        obtain⟨v,H',os,bare,un,hok',r',q⟩:=h
        have q':v = .bl true:=q
        subst q'
        obtain rfl:u=Value.bool true:=r'
        refine⟨rfl,OldK.of_keep fun b o e=>?_,os,bare⟩
        cases q:H b with
        | none=>exact un.keep b o e q (by intro z;exact absurd (show b∈([]:List Addr) from z) (by simp)) (by simp)
        | some u=>
          rcases hO b with z | ⟨ob,xs,z⟩
          · rw[q] at z;cases z
          · have z2:=un.frzs b ob _ z
            obtain⟨e1,_⟩:=hok b _ z
            obtain⟨e2,_⟩:=hok' b _ z2
            rw[e] at e1;cases e1
            exact e2
  cases hk:K.lookup a with
  | some o=>
    have e:=KX a o hk
    rw[ha] at e
    cases e
    refine core (fun _=>none) (fun _=>.inl rfl) (.inr ⟨_,vs.toArray,_,hk,rfl,rfl,rfl,by rw[List.size_toArray,lenV];exact hl,by simpa using rv⟩) (fun b u z=>by have z':(none:Option HO)=some u:=z;cases z') (fun b z=>absurd rfl z) fun z=>absurd rfl z
  | none=>
    refine core (fun b=>if b=a then some (.frz { cls:=.type "list",data:=.seq vs.toArray } (.lst (ns.map V.int))) else none) (fun b=>?_) (.inl (.inr ⟨{ cls:=.type "list",data:=.seq vs.toArray },if_pos rfl⟩)) (fun b u z=>?_) (fun b z=>?_) fun _=>hk
    · by_cases hb:b=a
      · exact .inr ⟨_,_,if_pos hb⟩
      · exact .inl (if_neg hb)
    · by_cases hb:b=a
      · have z':=(if_pos hb).symm.trans z
        cases z'
        subst hb
        exact⟨ha,by rw[List.length_map];exact hl,vs,_,rv,ha⟩
      · have z':=(if_neg hb).symm.trans z
        cases z'
    · by_cases hb:b=a
      · exact hb
      · exact absurd (if_neg hb) z
end L2
namespace L2
open PySem PySem.Spec PyProof.Rows
theorem walk_of{l:PySem.W.OpenLaw}{n k:Nat}{q:Program}{loose:List Str}{XP:(Str→Option Value)→Heap→Prop}{YP:World→Heap→Prop}{d:DefRec}{K:Params→PySem.W.Frag}{CX:World→CXT}{sp:World→Sp}{x:Str}
  (hn:l.most=some n) (hn2:n≤sizeLine) (hdf:d.params.defaults=[]) (hr:Room k callerA)
  (hY:∀(w:World) (h:Heap),YP w h→(K w.params).In h)
  (F:∀(w:World) (mg:Str→Option Value) (fa:Addr) (h:Heap),(K w.params).In h→h.Ns mainGlobals mg→mg d.name=some (.ref fa) →
   ∃ fd:FuncData,(∀(s:Shared) (u:Value),BindsTo s fd ⟨[u],[]⟩ [(x,u)]) ∧
    ∀ base:Heap,(K w.params).In base→base.Ns mainGlobals mg→FnOk l.prog w (K w.params) mg base (CX w) k fa fd [x] (sp w))
  (hsp:∀(w:World) (H:Hp) (a:Addr) (ns:List Int),ns.length≤n→Only H→SqL (K w.params) H a (ns.map V.int)→sp w [.ref a] H (fun v _=>v = .bl true) fun _ _ _=>False)
  (hCX:∀(w:World) (H:Hp) (s:Shared) (e:Value) (s':Shared),CX w [] H s (fun _ _ _=>False) e s'→False) :
  PySem.W.WalkO q loose XP YP l.row.toRowW d [] (fun f vs=>PySem.call f vs):=by
 refine Att.attach_call hn hdf fun w s₀ s₁ mg mb fa o pm cd doc a vs ns G Y ho hd hcd hmg hobj hints hlen hg=>?_
 have KX:=hY w _ Y
 obtain⟨fd,hb,hF⟩:=F w mg fa _ KX G.T.g hmg
 exact law_call KX G.T.g G.T.b G.T.builtins G.T.nolimit hg hobj hints (Nat.le_trans hlen hn2) hr hF hb (fun H hO hS=>hsp w H a ns hlen hO hS) fun H e s'=>hCX w H s₁ e s'
end L2
namespace L2
open PySem PySem.Spec PyProof.Rows
def inClass(s:Stmt)(j:Nat):Stmt:=match s with
 | .ClassDef _ _ _ body _ _ _ _ _ _ _=>body.getD j (.Pass ⟨0,0,0,0⟩)
 | _=>.Pass ⟨0,0,0,0⟩
def defArgs(s:Stmt):Arguments:=match s with
 | .FunctionDef _ a _ _ _ _ _ _ _ _=>a
 | _=>{ posonlyargs:=[],args:=[],vararg:=none,kwonlyargs:=[],kw_defaults:=[],kwarg:=none,defaults:=[] }
def defBody(s:Stmt):List Stmt:=match s with
 | .FunctionDef _ _ b _ _ _ _ _ _ _=>b
 | _=>[]
def defScope(s:Stmt):Scope:=match s with
 | .FunctionDef _ _ _ _ _ _ sc _ _ _=>sc
 | _=>{ kind:=.function,names:=[],isGenerator:=false,isCoroutine:=false }
abbrev CX0:CXT:=fun _ _ _ _ _ _=>False
abbrev E0:XK:=fun _ _ _=>False
theorem pass0{X:Cx}:Passes CX0 X E0:=fun _ _ _ _ _ _ _ h=>h.elim
structure Fun(K:PySem.W.Frag)(x qual:Str)(st:Stmt)(f:Addr)(fd:FuncData):Prop where
 ex:∃(oc:Value) (od:Option Addr) (kV doc pm:Value) (an:Option Addr) (cdv ct:Value) (osl:Array (Option Value)),
  fd=PySem.W.fnOf x qual (defArgs st) (defBody st) (defScope st) .none kV doc pm an cdv ct∧K.lookup f=some ⟨oc,od,.func fd,osl⟩∧PySem.W.codeIn K cdv qual=true
 kp:PySem.W.keepIn K (.ref f)=true
section
variable{P:Program}{w:World}{K:PySem.W.Frag}{mg:Str→Option Value}{base:Heap}
theorem Fun.ok{x qual:Str}{st:Stmt}{f:Addr}{fd:FuncData}{N ps:List Str}{k:Nat}{sp:Sp}(F:Fun K x qual st f fd)(S:FnScope N ps (defScope st))(len:∀ vs H Q E,sp vs H Q E→vs.length=ps.length)
  (hbody:∀(cdv:Value) (A:Around) (outer:List Env) (s:Shared) (H:Hp) (vs:List V) (Q:VK) (E:XK),Room k (A.deeper (envOfC qual (defScope st) s.heap.objs.size f cdv))→sp vs H Q E →
   ∃ t,PSs (cxOf CX0 P w K mg base N qual (defScope st) f cdv A outer s H E).nox (defBody st) t∧t { nx:=fun _ H'=>Q .non H',rt:=Q } (start N vs) H):FnOk P w K mg base CX0 (k+1) f fd ps sp:=by
 obtain⟨oc,od,kV,doc,pm,an,cdv,ct,osl,rfl,lk,hcd⟩:=F.ex
 refine fn_of lk hcd S len fun A outer s H vs Q E hr hsp=>?_
 obtain⟨t,h,q⟩:=hbody cdv A outer s H vs Q E hr hsp
 exact⟨t,h.nox,q⟩
theorem Fun.binds{x qual:Str}{st:Stmt}{f:Addr}{fd:FuncData}{ps:List Str}(F:Fun K x qual st f fd)
  (h:∀(kV doc pm:Value) (an:Option Addr) (cdv ct:Value) (us:List Value),us.length=ps.length→bindArgs (PySem.W.fnOf x qual (defArgs st) (defBody st) (defScope st) .none kV doc pm an cdv ct) ⟨us,[]⟩=pure (ps.zip us)):Binds K fd ps []:=by
 obtain⟨oc,od,kV,doc,pm,an,cdv,ct,osl,rfl,lk,hcd⟩:=F.ex
 exact .all (h kV doc pm an cdv ct)
theorem fun_mk{x qual:Str}{st:Stmt}{f:Addr}{oc:Value}{od an:Option Addr}{osl:Array (Option Value)}{kV doc pm cdv ct:Value}(l:K.lookup f=some ⟨oc,od,.func (PySem.W.fnOf x qual (defArgs st) (defBody st) (defScope st) .none kV doc pm an cdv ct),osl⟩)
  (c:PySem.W.codeIn K cdv qual=true) (k:PySem.W.keepIn K (.ref f)=true):Fun K x qual st f (PySem.W.fnOf x qual (defArgs st) (defBody st) (defScope st) .none kV doc pm an cdv ct):=⟨⟨oc,od,kV,doc,pm,an,cdv,ct,osl,rfl,l,c⟩,k⟩
end
theorem small1000{n:Nat}(h:n≤1000):n < sizeLine:=Nat.lt_of_le_of_lt h (by decide)
section
variable{X:Cx}
theorem pv(i:Nat){x:Str}{pos:Pos}(hN:X.N[i]? = some x:=by rfl)(hv:Vis X.env.scope x:=by first | exact Or.inl rfl | exact Or.inr (Or.inl rfl) | exact Or.inr (Or.inr rfl))(hd:(x == ("__debug__":Str))=false:=by decide)
  (hcd:(x == ("__classdict__":Str))=false:=by decide):PE X (.Name x pos) (tVar i):=pe_var hN hv hd hcd
end
theorem iteF{A B:Prop}(h:B):if false=true then A else B:=by
 rw[if_neg Bool.false_ne_true]
 exact h
theorem iteT{A B:Prop}(h:A):if true=true then A else B:=by
 rw[if_pos rfl]
 exact h
theorem ite2{c A B:Prop} [Decidable c](h1:c→A)(h2:¬ c→B):if c then A else B:=by
 by_cases h:c
 ·rw[if_pos h]
  exact h1 h
 ·rw[if_neg h]
  exact h2 h
def Same(H H':Hp):Prop:=∀ b o,H b=some o→H' b=some o
theorem Same.refl(H:Hp):Same H H:=fun _ _ h=>h
theorem Same.trans{H H1 H2:Hp}(a:Same H H1)(b:Same H1 H2):Same H H2:=fun c o h=>b c o (a c o h)
theorem Same.free{H H':Hp}(e:Same H H'){l:Addr}(h:H' l=Option.none):H l=Option.none:=by
 cases q:H l with
 | none=>rfl
 | some o=>
  rw[e l o q] at h
  cases h
theorem Same.seq{K:PySem.W.Frag}{H H':Hp}{a:Addr}{xs:List V}(e:Same H H')(h:SqL K H a xs):SqL K H' a xs:=by
 rcases h with(h | ⟨o,h⟩) | h
 ·exact .inl (.inl (e _ _ h))
 ·exact .inl (.inr ⟨o,e _ _ h⟩)
 ·exact .inr h
end L2
set_option maxHeartbeats 4000000
namespace L2
open PySem PySem.Spec PyProof.Rows
def clOf(env:Env):List (Str×NameKind)→List (Str×Addr)→List (Str×Addr)
 | [],acc=>acc
 | (n,k) :: r,acc=>clOf env r (if k == NameKind.free then(match env.cells.lookup n with | some c=>(n,c) :: acc | none=>acc) else acc)
theorem clo_fold{env:Env}{f:Str×NameKind→List (Str×Addr)→Sem (ForInStep (List (Str×Addr)))}
  (hf:∀ n k acc,f (n,k) acc=if(k == NameKind.free)=true then(do let c ← cellOf env n;pure (ForInStep.yield ((n,c) :: acc))) else pure (ForInStep.yield acc)) :
  ∀(l:List (Str×NameKind)) (acc:List (Str×Addr)),(∀ y∈l,y.2 = .free→∃ c,env.cells.lookup y.1=some c)→forIn l acc f=(pure (clOf env l acc):Sem _)
 | [],acc,_=>rfl
 | (n,k) :: r,acc,h=>by
  rw[List.forIn_cons,hf]
  have ih:=clo_fold hf r
  by_cases hk:(k == NameKind.free)=true
  ·have hk':k = .free:=by simpa using hk
   obtain⟨c,hc⟩:=h (n,k) List.mem_cons_self hk'
   have e:cellOf env n=(pure c:Sem _):=by unfold cellOf;rw[hc]
   rw[if_pos hk,e,pure_bind,pure_bind]
   show forIn r ((n,c) :: acc) f=_
   rw[ih _ fun y hy=>h y (List.mem_cons_of_mem _ hy)]
   unfold clOf
   rw[if_pos hk]
   have hc2:List.lookup n env.cells=some c:=hc
   simp only[hc2]
   cases r<;>rfl
  ·rw[if_neg hk,pure_bind]
   show forIn r acc f=_
   rw[ih _ fun y hy=>h y (List.mem_cons_of_mem _ hy)]
   conv=>rhs;unfold clOf
   rw[if_neg hk]
theorem clo_eq{scope:Scope}{env:Env}(h:∀ y∈scope.names,y.2 = .free→∃ c,env.cells.lookup y.1=some c):closureFor scope env=(pure (clOf env scope.names []):Sem _):=by
 have e:closureFor scope env=(forIn scope.names ([]:List (Str×Addr)) (fun x cs=>match x with
   | (name,kind)=>if(kind == NameKind.free)=true then(do let c ← cellOf env name;pure (ForInStep.yield ((name,c) :: cs))) else pure (ForInStep.yield cs)) >>= fun cs=>pure cs):=rfl
 rw[e,clo_fold (env:=env) (fun n k acc=>rfl) scope.names [] h]
 rfl
theorem cl_sub{env:Env}:∀{l:List (Str×NameKind)} {acc:List (Str×Addr)},(∀ x c,acc.lookup x=some c→env.cells.lookup x=some c)→∀ x c,(clOf env l acc).lookup x=some c→env.cells.lookup x=some c
 | [],acc,h,x,c,e=>h x c e
 | (n,k) :: r,acc,h,x,c,e=>by
  unfold clOf at e
  refine cl_sub (l:=r) (fun y d hd=>?_) x c e
  by_cases hk:(k == NameKind.free)=true
  ·rw[if_pos hk] at hd
   cases hc:env.cells.lookup n with
   | none=>rw[hc] at hd;exact h y d hd
   | some c'=>
    rw[hc] at hd
    simp only[List.lookup_cons] at hd
    by_cases hy:(y == n)=true
    ·rw[hy] at hd
     have e1:y=n:=by simpa using hy
     cases hd
     rw[e1];exact hc
    ·have hy':(y == n)=false:=by simpa using hy
     rw[hy'] at hd
     exact h y d hd
  ·rw[if_neg hk] at hd;exact h y d hd
theorem cl_mono{env:Env}:∀{l:List (Str×NameKind)} {acc:List (Str×Addr)} {x:Str},(acc.lookup x).isSome=true→((clOf env l acc).lookup x).isSome=true
 | [],acc,x,h=>h
 | (n,k) :: r,acc,x,h=>by
  unfold clOf
  refine cl_mono (l:=r) ?_
  by_cases hk:(k == NameKind.free)=true
  ·rw[if_pos hk]
   cases hc:env.cells.lookup n with
   | none=>exact h
   | some c'=>
    simp only[List.lookup_cons]
    by_cases hy:(x == n)=true
    ·rw[hy];rfl
    ·have hy':(x == n)=false:=by simpa using hy
     rw[hy'];exact h
  ·rw[if_neg hk];exact h
theorem cl_has{env:Env}:∀{l:List (Str×NameKind)} {acc:List (Str×Addr)} {x:Str} {c:Addr},(x,NameKind.free)∈l→env.cells.lookup x=some c→((clOf env l acc).lookup x).isSome=true
 | (n,k) :: r,acc,x,c,hm,hc=>by
  unfold clOf
  rcases List.mem_cons.mp hm with e | hm
  ·cases e
   rw[if_pos (by rfl)]
   rw[hc]
   refine cl_mono ?_
   simp
  ·exact cl_has hm hc
theorem relabel_of{env:Env}:∀{names:List (Str×NameKind)} {x:Str} {k:NameKind},(∀ y∈names,y.2 ≠ .cell) →
  (names.map fun(n,k)=>if(k == NameKind.free && env.scope.kind == .function && env.kindOf n == some .cell) then(n,NameKind.cell) else(n,k)).lookup x=some k→(k = .cell∨k = .free)→(x,NameKind.free)∈names
 | [],_,_,_,h,_=>by simp at h
 | (n,j) :: r,x,k,hn,h,hk=>by
  rw[List.map_cons] at h
  cases hx:x == n with
  | true=>
   have hxe:x=n:=by simpa using hx
   subst hxe
   by_cases hc:(j == NameKind.free && env.scope.kind == .function && env.kindOf x == some .cell)=true
   ·have hj:j = .free:=by
     simp only[Bool.and_eq_true] at hc
     simpa using hc.1.1
    subst hj
    exact List.mem_cons_self
   ·rw[show(match ((x,j):Str×NameKind) with | (n,k)=>if(k == NameKind.free && env.scope.kind == .function && env.kindOf n == some .cell)=true then(n,NameKind.cell) else(n,k))=(x,j) from if_neg hc] at h
    simp only[List.lookup_cons,beq_self_eq_true] at h
    cases h
    rcases hk with e | e
    ·exact absurd e (hn (x,j) List.mem_cons_self)
    ·rw[e];exact List.mem_cons_self
  | false=>
   refine List.mem_cons_of_mem _ (relabel_of (env:=env) (fun y hy=>hn y (List.mem_cons_of_mem _ hy)) ?_ hk)
   by_cases hc:(j == NameKind.free && env.scope.kind == .function && env.kindOf n == some .cell)=true
   ·rw[show(match ((n,j):Str×NameKind) with | (n,k)=>if(k == NameKind.free && env.scope.kind == .function && env.kindOf n == some .cell)=true then(n,NameKind.cell) else(n,k))=(n,NameKind.cell) from if_pos hc] at h
    simp only[List.lookup_cons,hx] at h
    exact h
   ·rw[show(match ((n,j):Str×NameKind) with | (n,k)=>if(k == NameKind.free && env.scope.kind == .function && env.kindOf n == some .cell)=true then(n,NameKind.cell) else(n,k))=(n,j) from if_neg hc] at h
    simp only[List.lookup_cons,hx] at h
    exact h
theorem relabel_free{env:Env}:∀{names:List (Str×NameKind)} {x:Str},names.lookup x=some .free →
  (names.map fun(n,k)=>if(k == NameKind.free && env.scope.kind == .function && env.kindOf n == some .cell) then(n,NameKind.cell) else(n,k)).lookup x=some .cell ∨
  (names.map fun(n,k)=>if(k == NameKind.free && env.scope.kind == .function && env.kindOf n == some .cell) then(n,NameKind.cell) else(n,k)).lookup x=some .free
 | [],_,h=>by simp at h
 | (n,j) :: r,x,h=>by
  rw[List.map_cons]
  cases hx:x == n with
  | true=>
   simp only[List.lookup_cons,hx] at h
   cases h
   by_cases hc:(NameKind.free == NameKind.free && env.scope.kind == .function && env.kindOf n == some .cell)=true
   ·refine .inl ?_
    rw[show(match ((n,NameKind.free):Str×NameKind) with | (n,k)=>if(k == NameKind.free && env.scope.kind == .function && env.kindOf n == some .cell)=true then(n,NameKind.cell) else(n,k))=(n,NameKind.cell) from if_pos hc]
    simp only[List.lookup_cons,hx]
   ·refine .inr ?_
    rw[show(match ((n,NameKind.free):Str×NameKind) with | (n,k)=>if(k == NameKind.free && env.scope.kind == .function && env.kindOf n == some .cell)=true then(n,NameKind.cell) else(n,k))=(n,NameKind.free) from if_neg hc]
    simp only[List.lookup_cons,hx]
  | false=>
   simp only[List.lookup_cons,hx] at h
   have ih:=relabel_free (env:=env) h
   by_cases hc:(j == NameKind.free && env.scope.kind == .function && env.kindOf n == some .cell)=true
   ·rw[show(match ((n,j):Str×NameKind) with | (n,k)=>if(k == NameKind.free && env.scope.kind == .function && env.kindOf n == some .cell)=true then(n,NameKind.cell) else(n,k))=(n,NameKind.cell) from if_pos hc]
    simp only[List.lookup_cons,hx]
    exact ih
   ·rw[show(match ((n,j):Str×NameKind) with | (n,k)=>if(k == NameKind.free && env.scope.kind == .function && env.kindOf n == some .cell)=true then(n,NameKind.cell) else(n,k))=(n,j) from if_neg hc]
    simp only[List.lookup_cons,hx]
    exact ih
theorem lookup_mem{x:Str}{k:NameKind}:∀{l:List (Str×NameKind)},l.lookup x=some k→(x,k)∈l
 | [],h=>by simp at h
 | (n,j) :: r,h=>by
  cases hx:x == n with
  | true=>
   simp only[List.lookup_cons,hx] at h
   cases h
   have e:x=n:=by simpa using hx
   rw[e];exact List.mem_cons_self
  | false=>
   simp only[List.lookup_cons,hx] at h
   exact List.mem_cons_of_mem _ (lookup_mem h)
def blk(X:Cx)(N:List Str)(scope:Scope)(C:Addr)(s₀:Shared)(H₀:Hp)(ex:List Addr)(xe:Value→Shared→Prop):Cx:=
 { X with N:=N,s₀:=s₀,H₀:=H₀,env:=compEnvC scope (clOf X.env scope.names []) C X.env,outer:=X.stack,stack:=X.stack,ex:=ex,fn:=fun _=>false,pn:=[],xe:=xe }
structure Blk(X:Cx)(N:List Str)(caps:List (Option Nat))(scope:Scope):Prop where
 kind:scope.kind = .function
 nocell:∀ y∈scope.names,y.2 ≠ .cell
 names:∀ y∈scope.names,y.2 = .local→scope.names.lookup y.1=some .local
 free:∀ y∈scope.names,y.2 = .free→X.env.kindOf y.1=some .cell∨X.env.kindOf y.1=some .free
 len:caps.length=N.length
 cap:∀(i j:Nat) (x:Str),caps[i]? = some (some j)→N[i]? = some x→X.N[j]? = some x∧Vis X.env.scope x∧scope.names.lookup x=some .free
def capSt(caps:List (Option Nat))(σ:St):St:=caps.map fun c=>match c with | some j=>(σ[j]?).join | none=>none
section
variable{X:Cx}{pins:List (Addr×Obj)}{σ:St}{H:Hp}{s:Shared}
theorem blk_ok{N:List Str}{caps:List (Option Nat)}{scope:Scope}{fp:List Addr}{xe:Value→Shared→Prop}(B:Blk X N caps scope)(I:Inv X pins σ H s)(hlt:∀ b∈fp,b < s.heap.objs.size)(hf:∀ b∈fp,FpOk X pins H b) :
  (blk X N scope s.heap.objs.size s H fp xe).Ok where
 mod:=I.ok.mod
 kind:=B.kind
 glob:=I.ok.glob
 blt:=I.ok.blt
 above:=Nat.le_refl _
 inj:=fun x y c hx hy=>I.ok.inj x y c (cl_sub (fun _ _ e=>by simp at e) x c hx) (cl_sub (fun _ _ e=>by simp at e) y c hy)
 has:=fun x hk=>by
  have hm:(x,NameKind.free)∈scope.names:=hk.elim (fun e=>relabel_of B.nocell e (.inl rfl)) fun e=>relabel_of B.nocell e (.inr rfl)
  obtain⟨c,hc⟩:=I.ok.has x (B.free _ hm rfl)
  exact Option.isSome_iff_exists.mp (cl_has hm hc)
 cab:=fun x c h _=>by cases h
 hd:=I.ok.hd
 frames:=I.ok.frames
 stk:=.inl rfl
 exf:=fun b hb=>⟨Nat.ne_of_lt (hlt b hb),fun x c hc=>(hf b hb).2.2.2.2.1 x c (cl_sub (fun _ _ e=>by simp at e) x c hc)⟩
 bs:=I.bs
 bsz:=Nat.le_trans I.ok.bsz I.sz
 noex:=fun b o e hb=>by
  rcases(hf b hb).2.2.2.1 with h | h
  ·exact I.ok.noex b o e h
  ·exact absurd (Heap.lt_size (I.ok.bs b o e).1) (Nat.not_lt.mpr h)
 exfs:=fun b hb hs=>by
  rcases List.mem_cons.mp (I.stkSub b hs) with e | e
  ·exact(hf b hb).2.1 e
  ·exact(hf b hb).2.2.1 e
 funs:=I.stack
 frf:=I.stkFree
theorem blk_inv{N:List Str}{caps:List (Option Nat)}{scope:Scope}{fp:List Addr}{xe:Value→Shared→Prop}{h₁:Heap}{t':Nat}(B:Blk X N caps scope)(I:Inv X pins σ H s)(hlt:∀ b∈fp,b < s.heap.objs.size)(hf:∀ b∈fp,FpOk X pins H b)
  {m:Str→Option Value} (hn:h₁.Ns s.heap.objs.size m) (hk:∀ b o,s.heap.get? b=some o→h₁.get? b=some o) :
  Inv (blk X N scope s.heap.objs.size s H fp xe) [] (capSt caps σ) H { s with heap:=h₁,toks:=t' } where
 ok:=blk_ok B I hlt hf
 os:=rfl
 bare:=I.bare
 base:=Un.kept hk
 loc:=by
  refine⟨m,hn,fun i x v hN hσ hv=>?_⟩
  unfold capSt at hσ
  rw[List.getElem?_map] at hσ
  cases hc:caps[i]? with
  | none=>rw[hc] at hσ;cases hσ
  | some oj=>
   rw[hc] at hσ
   cases oj with
   | none=>cases hσ
   | some j=>
    have hσ':(σ[j]?).join=some v:=Option.some.inj hσ
    have hj:σ[j]? = some (some v):=by
     cases q:σ[j]? with
     | none=>rw[q] at hσ';cases hσ'
     | some o=>rw[q] at hσ';have:o=some v:=hσ';rw[this]
    obtain⟨hNj,hVis,hfr⟩:=B.cap i j x hc hN
    obtain⟨m',_,hl⟩:=I.loc
    obtain⟨u,ru,lk⟩:=hl j x v hNj hj hVis
    have hm:=lookup_mem hfr
    have hkX:=B.free _ hm rfl
    refine⟨u,ru,.inr ⟨relabel_free hfr,?_⟩⟩
    rcases lk with⟨e,_⟩ | ⟨_,c,hc1,hc2⟩
    ·rcases hkX with e' | e'
     ·rw[e] at e';cases e'
     ·rw[e] at e';cases e'
    ·obtain⟨c',hc'⟩:=Option.isSome_iff_exists.mp (cl_has (env:=X.env) (acc:=[]) hm hc1)
     have h2:=cl_sub (fun _ _ e=>by simp at e) x c' hc'
     rw[hc1] at h2
     cases h2
     exact⟨c,hc',hc2.keeps hk⟩
 cell:=fun x c hc=>by
  obtain⟨v,hv⟩:=I.cell x c (cl_sub (fun _ _ e=>by simp at e) x c hc)
  exact⟨v,hv.keeps hk⟩
 free:=I.hok.fresh (Nat.le_refl _)
 freeC:=fun x c hc=>I.freeC x c (cl_sub (fun _ _ e=>by simp at e) x c hc)
 pin:=fun p hp=>by cases hp
 hok:=I.hok.kept hk
 len:=by unfold capSt;rw[List.length_map];exact B.len
end
end L2
namespace L2
open PySem PySem.Spec PyProof.Rows
section
variable{prog:Program}{w:World}{A:Around}{R:Result→Shared→Prop}{s:Shared}
abbrev testsOf(ifs:List Expr)(env:Env):Sem Bool:=forIn ifs true fun c r=>if r=true then do let ok ← isTrue c env (eval c env);pure (ForInStep.yield ok) else pure (ForInStep.yield r)
theorem comp_loop{elt target iter:Expr}{ifs:List Expr}{scope:Scope}{pos:Pos}{it acc:Value}{env:Env}(I:Nat→Shared→Prop)
  (turn:∀ n s,I n s→wpAny (model prog w) A (pyNext it) (fun r s₁=>match r with
   | none=>R (.ok .next) s₁
   | some v=>wpAny (model prog w) A (letOwnedTupleGo target it v) (fun _ s₁'=>wpAny (model prog w) A (assign target env v) (fun _ s₂=>
     wpAny (model prog w) A (testsOf ifs env) (fun ok s₃=>
      if ok=true then wpAny (model prog w) A (eval elt env) (fun x s₄=>
       wpAny (model prog w) A (call (.builtin "list.append") [acc,x]) (fun _ s₅=>∃ m,m < n∧I m s₅) (notedBy (model prog w) A env fun e s'=>R (.error e) s') s₄) (notedBy (model prog w) A env fun e s'=>R (.error e) s') s₃
      else ∃ m,m < n∧I m s₃) (notedBy (model prog w) A env fun e s'=>R (.error e) s') s₂) (notedBy (model prog w) A env fun e s'=>R (.error e) s') s₁') (notedBy (model prog w) A env fun e s'=>R (.error e) s') s₁) (notedBy (model prog w) A env fun e s'=>R (.error e) s') s)
  (n:Nat) (h:I n s):codeAny (model prog w) A (.compLoop (.ListComp elt [⟨target,iter,ifs,0⟩] scope pos) 0 it acc env) R s:=by
 refine codeAny_loop rfl I (fun n s hI=>?_) n h
 show wpAny _ A ((compTurn (.ListComp elt [⟨target,iter,ifs,0⟩] scope pos) 0 it acc env).onRaise (fun x=>do noteFrame x env;theTreesLotGoes x)) _ _ s
 refine wpAny_noted ?_
 rw[compTurn_list]
 refine wpAny_bind (wpAny_standAt (wpAny_bind (wpAny_mono (turn n s hI) (fun r s₁ h₁=>?_) fun _ _ h'=>h')))
 cases r with
 | none=>exact wpAny_pure h₁
 | some v=>
  refine wpAny_bind (wpAny_mono h₁ (fun _ s₁' h₁'=>?_) fun _ _ h'=>h')
  refine wpAny_bind (wpAny_mono h₁' (fun _ s₂ h₂=>wpAny_bind (wpAny_mono h₂ (fun ok s₃ h₃=>?_) fun _ _ h'=>h')) fun _ _ h'=>h')
  cases ok with
  | false=>exact wpAny_pure ⟨rfl,h₃⟩
  | true=>
   exact wpAny_bind (wpAny_bind (wpAny_mono h₃ (fun x s₄ h₄=>wpAny_bind (wpAny_mono h₄ (fun _ s₅ h₅=>wpAny_pure (wpAny_pure ⟨rfl,h₅⟩)) fun _ _ h'=>h')) fun _ _ h'=>h'))
end
def PF(X:Cx)(ifs:List Expr)(t:TT):Prop:=
 ∀(pins:List (Addr×Obj)) (s:Shared) (σ:St) (H:Hp) (Q:Bool→Hp→Prop),Inv X pins σ H s→t σ H Q→wpAny (model X.prog X.w) X.A (testsOf ifs X.env) (TP X pins σ Q) X.xe s
def tYes:TT:=fun _ H Q=>Q true H
theorem pf_nil{X:Cx}:PF X [] tYes:=fun pins s σ H Q I h=>wpAny_tests_nil ⟨H,I,h⟩
theorem pf_one{X:Cx}{c:Expr}{t:TT}(h:PT X c t):PF X [c] t:=fun pins s σ H Q I q=>wpAny_tests_one (h pins s σ H Q I q)
def tCompR(g:TG)(tt:TT)(te:TE)(σ0:St)(J:It)(H1:Hp)(Q:V→Hp→Prop):Prop:=
 ∀ l,H1 l=none→∃ W:Nat→Nat→St→Hp→Prop,(∃ m,W 0 m σ0 (upd H1 l (.lst [])))∧∀ i m σ H,W i m σ H →
  (J.stop i H∧Q (.ref l) H)∨(J.go i H∧∀ x H',J.yld i H x H'→g x σ H' fun σ2 H2=>tt σ2 H2 fun c H3=>
   if c=true then te σ2 H3 fun v H4=>∃ xs,H4 l=some (.lst xs)∧xs.length < sizeLine∧∃ m',m' < m∧W (i+1) m' σ2 (upd H4 l (.lst (xs++[v])))
   else ∃ m',m' < m∧W (i+1) m' σ2 H3)
def tComp(caps:List (Option Nat))(wi:TI)(g:TG)(tt:TT)(te:TE):TE:=fun σ H Q=>wi σ H fun J H1=>tCompR g tt te (capSt caps σ) J H1 Q
structure Loose(X:Cx)(pins:List (Addr×Obj))(H:Hp)(C:Addr):Prop where
 un:H C=none
 loc:C≠X.env.locals
 ab:X.s₀.heap.objs.size≤C
 cel:∀ x c,X.env.cells.lookup x=some c→c≠C
 pin:∀ p∈X.pn++pins,p.1≠C
section
variable{X:Cx}{pins:List (Addr×Obj)}{σ:St}{H:Hp}{s:Shared}
def blkX(X:Cx)(N:List Str)(scope:Scope)(use:Option (Value→Sem Unit))(Q:Value→Shared→Prop)(acc:Value)(C:Addr):Value→Shared→Prop:=
 notedBy (model X.prog X.w) X.A (compEnvC scope (clOf X.env scope.names []) C X.env) fun e s'=>compPost (model X.prog X.w) X.A X.xe use Q acc C (.error e) s'
theorem comp_core{tg elt iter:Expr}{ifs:List Expr}{scope:Scope}{pos pos':Pos}{N:List Str}{caps:List (Option Nat)}{wi:TI}{g:TG}{tt:TT}{te:TE}{use:Option (Value→Sem Unit)}{Q:Value→Shared→Prop}{Qv:V→Hp→Prop}
  {xe:Value→Shared→Prop} (hc:X.calm=true) (B:Blk X N caps scope) (hi:PI X tg iter wi)
  (hg:∀ C s₀ H₀ ex,PG (blk X N scope C s₀ H₀ ex xe) tg g) (ht:∀ C s₀ H₀ ex,PF (blk X N scope C s₀ H₀ ex xe) ifs tt) (he:∀ C s₀ H₀ ex,PE (blk X N scope C s₀ H₀ ex xe) elt te)
  (I:Inv X pins σ H s) (h:wi σ H fun J H1=>tCompR g tt te (capSt caps σ) J H1 Qv)
  (fin:∀ l C H' s5,Inv X pins σ H' s5→(∃ m,s5.heap.Ns C m)→Loose X pins H' C→Qv (.ref l) H'→compPost (model X.prog X.w) X.A X.xe use Q (.ref l) C (.ok .next) s5)
  (hx:∀ acc C e s',xe e s'→blkX X N scope use Q acc C e s')
  (hs:∀ x,foldedSetIterable iter X.env x=pure x:=by intro _;rfl) :
  wpAny (model X.prog X.w) X.A (comprehension (.ListComp elt [⟨tg,iter,ifs,0⟩] scope pos) scope X.env pos' (newList []) false (eval iter X.env) use) Q X.xe s:=by
 have hclos:closureFor scope X.env=(pure (clOf X.env scope.names []):Sem _):=clo_eq fun y hy hf=>I.ok.has y.1 (B.free y hy hf)
 refine wpAny_comprehension_free rfl hs hclos B.kind B.names (thn (hi pins s σ H _ I h) fun v s1 h1=>thn h1 fun itv s2 h2=>?_)
 obtain⟨it,fp,tn,J,H2,e,I2,T,st2,f2,hJ⟩:=h2
 subst e
 have I3:Inv X pins σ (upd H2 s2.heap.objs.size (.lst [])) { s2 with heap:=s2.heap.push { cls:=.type "list",data:=.seq ([]:List Value).toArray },toks:=s2.toks }:=I2.lnew (ys:=[]) (its:=[]) .nil (Nat.zero_le _)
 have hfr2:H2 s2.heap.objs.size=none:=I2.fresh
 obtain⟨W,⟨m0,w0⟩,turn⟩:=hJ s2.heap.objs.size hfr2
 refine wpAny_newList ?_
 generalize hs3:({ s2 with heap:=s2.heap.push { cls:=.type "list",data:=.seq ([]:List Value).toArray } }:Shared)=s3
 have es3:({ s2 with heap:=s2.heap.push { cls:=.type "list",data:=.seq ([]:List Value).toArray },toks:=s2.toks }:Shared)=s3:=hs3
 rw[es3] at I3
 have keep3:∀ b o,s2.heap.get? b=some o→s3.heap.get? b=some o:=fun b o e=>by rw[← hs3];exact Heap.get?_push_of_some _ e
 have fpo:∀ b∈fp,∃ o,s2.heap.get? b=some o∧∀ v,o.data ≠ .cell v:=T.obj _ _ st2
 have hlt2:∀ b∈fp,b < s2.heap.objs.size:=fun b hb=>by obtain⟨o,e,_⟩:=fpo b hb;exact Heap.lt_size e
 have hlt3:∀ b∈fp,b < s3.heap.objs.size:=fun b hb=>by obtain⟨o,e,_⟩:=fpo b hb;exact Heap.lt_size (keep3 b o e)
 have hf3:∀ b∈fp,FpOk X pins (upd H2 s2.heap.objs.size (.lst [])) b:=fun b hb=>⟨by rw[upd_ne (Nat.ne_of_lt (hlt2 b hb))];exact(f2 b hb).1,(f2 b hb).2⟩
 refine wpAny_newFunctionEnv B.nocell (by intro y hy;simp at hy) (fun h₁ hns₁ hsb₁=>?_) B.kind
 try dsimp only at hns₁ hsb₁ ⊢
 have keep4:∀ b o,s3.heap.get? b=some o→h₁.get? b=some o:=fun b o e=>hsb₁.extBut b o (Nat.ne_of_lt (Heap.lt_size e)) (Heap.get?_push_of_some _ e)
 have I4:∀ t',Inv (blk X N scope s3.heap.objs.size s3 (upd H2 s2.heap.objs.size (.lst [])) fp xe) [] (capSt caps σ) (upd H2 s2.heap.objs.size (.lst [])) { s3 with heap:=h₁,toks:=t' }:=fun t'=>blk_inv B I3 hlt3 hf3 hns₁ keep4
 generalize hY:blk X N scope s3.heap.objs.size s3 (upd H2 s2.heap.objs.size (.lst [])) fp xe=Y at I4
 have Yp:Y.prog=X.prog:=by rw[← hY];rfl
 have Yw:Y.w=X.w:=by rw[← hY];rfl
 have YK:Y.K=X.K:=by rw[← hY];rfl
 have Yc:Y.calm=true:=by rw[← hY];exact hc
 have YA:Y.A=X.A:=by rw[← hY];rfl
 have Yx:Y.xe=xe:=by rw[← hY];rfl
 have Ye:Y.env=compEnvC scope (clOf X.env scope.names []) s3.heap.objs.size X.env:=by rw[← hY];rfl
 have hgY:PG Y tg g:=by rw[← hY];exact hg _ _ _ _
 have htY:PF Y ifs tt:=by rw[← hY];exact ht _ _ _ _
 have heY:PE Y elt te:=by rw[← hY];exact he _ _ _ _
 have stat:∀{H':Hp},(∀ b∈fp,H' b=none)→∀ b∈fp,FpOk Y [] H' b:=fun {H'} hn b hb=>by
  refine⟨hn b hb,?_,?_,.inl (by rw[← hY];exact hb),?_,?_⟩
  ·rw[Ye];exact Nat.ne_of_lt (hlt3 b hb)
  ·intro hm
   rw[← hY] at hm
   rcases List.mem_cons.mp (I3.stkSub b hm) with e | e
   ·exact(f2 b hb).2.1 e
   ·exact(f2 b hb).2.2.1 e
  ·intro x c hcl
   rw[Ye] at hcl
   exact(f2 b hb).2.2.2.2.1 x c (cl_sub (fun _ _ e=>by simp at e) x c hcl)
  ·intro p hp
   rw[← hY] at hp
   cases hp
 have st4:tn 0 h₁:=T.keep _ _ _ st2 fun b hb o e=>keep4 b o (keep3 b o e)
 have toX:∀ e s',xe e s'→notedBy (model X.prog X.w) X.A (compEnvC scope (clOf X.env scope.names []) s3.heap.objs.size X.env) (fun e s'=>compPost (model X.prog X.w) X.A X.xe use Q (.ref s2.heap.objs.size) s3.heap.objs.size (.error e) s') e s':=fun e s' hxe=>hx _ _ e s' hxe
 have loop:∀ tk,codeAny (model X.prog X.w) X.A (.compLoop (.ListComp elt [⟨tg,iter,ifs,0⟩] scope pos) 0 (.ref it) (.ref s2.heap.objs.size) (compEnvC scope (clOf X.env scope.names []) s3.heap.objs.size X.env))
   (compPost (model X.prog X.w) X.A X.xe use Q (.ref s2.heap.objs.size) s3.heap.objs.size) { s3 with heap:=h₁,toks:=tk }:=by
  intro tk
  refine comp_loop (fun n s'=>∃ i σ' H',Inv Y [] σ' H' s'∧tn i s'.heap∧(∀ b∈fp,H' b=none)∧W i n σ' H') ?_ m0 ⟨0,_,_,I4 tk,st4,fun b hb=>(hf3 b hb).1,w0⟩
  rintro n s5 ⟨i,σ5,H5,I5,st5,fr5,w5⟩
  have moX:∀{α:Type} {t:Sem α} {Q1:α→Shared→Prop} {s:Shared},wpAny (model X.prog X.w) X.A t Q1 xe s→wpAny (model X.prog X.w) X.A t Q1
    (notedBy (model X.prog X.w) X.A (compEnvC scope (clOf X.env scope.names []) s3.heap.objs.size X.env) (fun e s'=>compPost (model X.prog X.w) X.A X.xe use Q (.ref s2.heap.objs.size) s3.heap.objs.size (.error e) s')) s:=
   fun h=>wpAny_mono h (fun _ _ q=>q) toX
  rcases turn i n σ5 H5 w5 with⟨stop,q⟩ | ⟨go,step⟩
  ·have z:=T.done Y Yp Yw YK Yc i [] s5 σ5 H5 xe I5 (stat fr5) st5 stop
   rw[YA] at z
   refine moX (thn z fun r s6 ⟨hr,I6⟩=>?_)
   subst hr
   obtain⟨m,hm,_⟩:=I6.loc
   have hCn:H5 s3.heap.objs.size=none:=by have z:=I6.free;rw[Ye] at z;exact z
   have un:Un (frs X.stack) fp (upd H2 s2.heap.objs.size (.lst [])) H5 s3.heap s6.heap:=by have z:=I6.base;rw[← hY] at z;exact z
   have hos:s6.os=s3.os:=by have z:=I6.os;rw[← hY] at z;exact z
   have hok:HOk X.prog X.w H5 s6.heap:=by have z:=I6.hok;rw[Yp,Yw] at z;exact z
   have IX:Inv X pins σ H5 s6:=I3.call' (ch:=fp) hos un hok I6.bare fun b hb=>⟨(f2 b hb).2.2.2.1,(f2 b hb).2.1,(f2 b hb).2.2.2.2.1,(f2 b hb).2.2.2.2.2⟩
   refine fin _ _ H5 s6 IX ⟨m,by rw[Ye] at hm;exact hm⟩ ⟨hCn,?_,I3.sz,?_,?_⟩ q
   ·exact Nat.ne_of_gt I3.lt
   ·intro x c hcl
    obtain⟨v,hv⟩:=I3.cell x c hcl
    exact Nat.ne_of_lt hv.lt
   ·intro p hp
    exact Nat.ne_of_lt (Heap.lt_size (I3.pin p hp).1)
  ·have z:=T.item Y Yp Yw YK Yc i [] s5 σ5 H5 xe I5 (stat fr5) st5 go
   rw[YA] at z
   refine moX (thn z fun r s6 ⟨u,hr,h6⟩=>?_)
   subst hr
   refine moX (thn h6 fun _ s7 ⟨x,H7,I7,r7,y7,st7,fr7⟩=>?_)
   have I7':=I7.pinned (stat fr7) (T.obj _ _ st7)
   have hN:=step x H7 y7
   have again:∀{σ':St} {H':Hp} {s':Shared} {m':Nat},m' < n→Inv Y ([]++pinsAt fp s7.heap) σ' H' s'→W (i+1) m' σ' H'→∃ m,m < n∧∃ i σ'' H'',Inv Y [] σ'' H'' s'∧tn i s'.heap∧(∀ b∈fp,H'' b=none)∧W i m σ'' H'':=fun {σ' H' s' m'} hm I' w'=>by
    refine⟨m',hm,i+1,σ',H',I'.unpinned,T.keep _ _ _ st7 fun b hb o e=>(I'.pin (b,o) (List.mem_append_right _ (List.mem_append_right _ (mem_pinsAt hb e)))).1,fun b hb=>?_,w'⟩
    obtain⟨o,e,d⟩:=T.obj _ _ st7 b hb
    exact(I'.pin (b,o) (List.mem_append_right _ (List.mem_append_right _ (mem_pinsAt hb e)))).2.1
   have z:=hgY _ s7 σ5 H7 x u _ I7' r7 hN
   rw[Yp,Yw,YA,Ye,Yx] at z
   refine moX (thn z fun _ s8 ⟨σ8,H8,I8,q8⟩=>?_)
   have z:=htY _ s8 σ8 H8 _ I8 q8
   rw[Yp,Yw,YA,Ye,Yx] at z
   refine moX (thn z fun ok s9 ⟨H9,I9,q9⟩=>?_)
   cases ok with
   | false=>
    obtain⟨m',hm,w'⟩:=q9
    exact again hm I9 w'
   | true=>
    have q9':te σ8 H9 fun v H4=>∃ xs,H4 s2.heap.objs.size=some (.lst xs)∧xs.length < sizeLine∧∃ m',m' < n∧W (i+1) m' σ8 (upd H4 s2.heap.objs.size (.lst (xs++[v]))):=q9
    have z:=heY _ s9 σ8 H9 _ I9 q9'
    rw[Yp,Yw,YA,Ye,Yx] at z
    refine moX (thn z fun u10 s10 ⟨v10,H10,I10,r10,q10⟩=>?_)
    obtain⟨xs,hl,hz,m',hm,w'⟩:=q10
    have ap:=mt_append (X:=Y) _ s10 σ8 H10 (.ref s2.heap.objs.size) [v10] (.ref s2.heap.objs.size) [u10] (fun _ H'=>W (i+1) m' σ8 H') I10 rfl (.cons r10 .nil) ⟨_,xs,v10,rfl,rfl,hl,hz,w'⟩
    rw[Yp,Yw,YA,Yx] at ap
    refine moX (thn ap fun _ s11 ⟨_,H11,I11,_,w11⟩=>again hm I11 w11)
 exact codeAny_compStart_list (loop _) (T.self _ 0 _ _ _ st4 (loop _))
theorem pe_comp{tg elt iter:Expr}{ifs:List Expr}{scope:Scope}{pos:Pos}(N:List Str)(caps:List (Option Nat)){wi:TI}{g:TG}{tt:TT}{te:TE}(hc:X.calm=true)(B:Blk X N caps scope)(hi:PI X tg iter wi)
  (hg:∀ C s₀ H₀ ex,PG (blk X N scope C s₀ H₀ ex fun _ _=>False) tg g) (ht:∀ C s₀ H₀ ex,PF (blk X N scope C s₀ H₀ ex fun _ _=>False) ifs tt) (he:∀ C s₀ H₀ ex,PE (blk X N scope C s₀ H₀ ex fun _ _=>False) elt te)
  (hs:∀ x,foldedSetIterable iter X.env x=pure x:=by intro _;rfl):PE X (.ListComp elt [⟨tg,iter,ifs,0⟩] scope pos) (tComp caps wi g tt te):=by
 intro pins s σ H Q I h
 rw[eval_ListComp]
 refine comp_core (use:=none) (Qv:=Q) hc B hi hg ht he I h (fun l C H' s5 I5 ⟨m,hm⟩ lo q=>?_) (fun _ _ _ _ f=>f.elim) hs
 refine⟨m,hm,fun h' hs'=>⟨.ref l,H',?_,rfl,q⟩⟩
 exact I5.turned (it:=C) (t':=s5.toks) (fun b o hb e=>hs'.extBut b o hb e) lo.un lo.loc (.inr lo.ab) lo.cel lo.pin
theorem ps_setcomp{i:Nat}{x:Str}{pos':Pos}{tg elt iter:Expr}{ifs:List Expr}{scope:Scope}{pos spos:Pos}(N:List Str)(caps:List (Option Nat)){wi:TI}{g:TG}{tt:TT}{te:TE}(hc:X.calm=true)
  (hN:X.N.Nodup) (hi':X.N[i]? = some x) (hx:Loc X.env.scope x) (B:Blk X N caps scope) (hi:PI X tg iter wi)
  (hg:∀ C s₀ H₀ ex,PG (blk X N scope C s₀ H₀ ex fun _ _=>False) tg g) (ht:∀ C s₀ H₀ ex,PF (blk X N scope C s₀ H₀ ex fun _ _=>False) ifs tt) (he:∀ C s₀ H₀ ex,PE (blk X N scope C s₀ H₀ ex fun _ _=>False) elt te)
  (hsw:swapsWith (.ListComp elt [⟨tg,iter,ifs,0⟩] scope pos) (some (.Name x pos')) spos.line X.env=pure true:=by rfl)
  (hs:∀ x,foldedSetIterable iter X.env x=pure x:=by intro _;rfl) (hf:X.fn x=true∨X.env.scope.names.lookup x=some .local:=by first | exact .inl rfl | exact .inr rfl | assumption) :
  PS X (.Assign [.Name x pos'] (.ListComp elt [⟨tg,iter,ifs,0⟩] scope pos) spos) (tAsg (tComp caps wi g tt te) (gName i)):=by
 intro pins s σ H D I h
 rw[exec_Assign_Name_used _ _ _ _ hsw]
 refine wpAny_bind (wpAny_standAt (wpAny_bind ?_))
 show wpAny _ X.A (do let _ ← comprehension (.ListComp elt [⟨tg,iter,ifs,0⟩] scope pos) scope X.env _ (newList []) false (eval iter X.env) (some (assign (.Name x pos') X.env))) _ _ s
 refine wpAny_bind (wpAny_mono (comp_core (use:=some (assign (.Name x pos') X.env)) (Q:=fun _ s'=>SP X pins D .next s') (Qv:=fun v H1=>gName i v σ H1 D.nx) hc B hi hg ht he I h (fun l C H' s5 I5 ⟨m,hm⟩ lo q=>?_) (fun _ _ _ _ f=>f.elim) hs)
  (fun _ s' hq=>wpAny_pure (wpAny_pure hq)) fun _ _ e=>e)
 show wpAny _ X.A (assign (.Name x pos') X.env (.ref l)) _ _ _
 refine wpAny_assign_Name (store_ok2 I5 hN hi' hx (v:=.ref l) rfl (fun s6 I6 ⟨a,sb,ha⟩=>?_) hf)
 have hCa:C≠a:=by
  rcases ha with e | e
  ·rw[e];exact lo.loc
  ·exact Ne.symm (lo.cel x a e)
 refine⟨m,hm.sameBut sb hCa,fun h' hs'=>⟨_,H',?_,q⟩⟩
 exact I6.turned (it:=C) (t':=s6.toks) (fun b o hb e=>hs'.extBut b o hb e) lo.un lo.loc (.inr lo.ab) lo.cel lo.pin
end
end L2
namespace L2
open PySem PySem.Spec PyProof.Rows
section
variable{X:Cx}
def Wide(i:Int):Prop:=i.natAbs < 2 ^ 4000
def rEqL(K:PySem.W.Frag)(neg:Bool):R2:=fun x y H Q=>∃(a b:Addr) (ns ms:List Int),x = .ref a∧y = .ref b∧SqL K H a (ns.map V.int)∧SqL K H b (ms.map V.int)∧Q (.bl (if neg then !decide (ns=ms) else decide (ns=ms))) H
theorem isL_of{h:Heap}{a:Addr}{its:Array Value}(p:PlainL h a its):h.IsList a its:=by
 obtain⟨o,n,e,c,_,d⟩:=p
 exact⟨o,e,c,n,d⟩
theorem op_eqL(hu:X.A.units+64 < cLine):OpR X (compareOp .Eq) (rEqL X.K false):=by
 intro pins s σ H x y v u Q I rx ry h
 obtain⟨a,b,ns,ms,rfl,rfl,hA,hB,q⟩:=h
 cases rx
 cases ry
 obtain⟨ia,va,pa,_⟩:=I.list hA
 obtain⟨ib,vb,pb,_⟩:=I.list hB
 exact PySem.W.ke_eq_ints (isL_of pa) (isL_of pb) (intsAre_of va) (intsAre_of vb) hu ⟨.bl _,H,I,rfl,q⟩
def rIsT(K:PySem.W.Frag):List V→Hp→VK→Prop:=fun xs H Q=>∃ x n t b,xs=[x,.ty n]∧TyOf K H x t∧PySem.W.kitOne K t (.type n)=some b∧Q (.bl b) H
theorem call_isT:CallR X (.builtin "isinstance") (rIsT X.K):=by
 intro pins s σ H xs us Q I r h
 obtain⟨x,n,t,b,rfl,ty,e,q⟩:=h
 obtain⟨u,w',rfl,r1,r2⟩:=vals2 r
 cases r2
 exact isinst_ok I r1 ty e fun tk=>⟨.bl b,H,I.tok tk,rfl,q⟩
end
def blkOk(sc:Scope)(N0 N:List Str)(caps:List (Option Nat))(scope:Scope):Bool:=
 decide (scope.kind = .function) && scope.names.all (fun y=>decide (y.2 ≠ .cell)) && scope.names.all (fun y=>decide (y.2 ≠ .local) || decide (scope.names.lookup y.1=some .local)) &&
 scope.names.all (fun y=>decide (y.2 ≠ .free) || (decide (sc.names.lookup y.1=some .cell) || decide (sc.names.lookup y.1=some .free))) && decide (caps.length=N.length) &&
 (List.range caps.length).all fun i=>match caps[i]?,N[i]? with
  | some (some j),some x=>decide (N0[j]? = some x) && (decide (sc.names.lookup x=some .cell) || decide (sc.names.lookup x=some .free)) && decide (scope.names.lookup x=some .free)
  | _,_=>true
theorem Blk.by{X:Cx}{N:List Str}{caps:List (Option Nat)}{scope:Scope}{sc:Scope}{N0:List Str}(hsc:X.env.scope=sc)(hN:X.N=N0)(h:blkOk sc N0 N caps scope=true):Blk X N caps scope:=by
 unfold blkOk at h
 simp only[Bool.and_eq_true,decide_eq_true_eq,List.all_eq_true,Bool.or_eq_true] at h
 obtain⟨⟨⟨⟨⟨h1,h2⟩,h3⟩,h4⟩,h5⟩,h6⟩:=h
 subst hsc
 subst hN
 refine⟨h1,h2,fun y hy e=>(h3 y hy).elim (fun z=>absurd e z) id,fun y hy e=>(h4 y hy).elim (fun z=>absurd e z) id,h5,fun i j x e1 e2=>?_⟩
 have hi:i < caps.length:=(List.getElem?_eq_some_iff.mp e1).1
 have z:=h6 i (List.mem_range.mpr hi)
 rw[e1,e2] at z
 simp only[Bool.and_eq_true,decide_eq_true_eq,Bool.or_eq_true] at z
 exact⟨z.1.1,.inr z.1.2,z.2⟩
theorem same_upd{H:Hp}{p:Addr}(h:H p=none)(o:HO):Same H (upd H p o):=fun b u q=>by rw[upd_ne (ne_of_none q h)];exact q
theorem same_upd2{H0 H:Hp}{p:Addr}(h:H0 p=none)(s:Same H0 H)(o:HO):Same H0 (upd H p o):=fun b u q=>by rw[upd_ne (ne_of_none q h)];exact s b u q
theorem comp_any{tt:TT}{te:TE}{σ0:St}{H1:Hp}{Q:V→Hp→Prop}{J:It}(n:Nat)(xs:Nat→V)(p:Nat→Bool)(f:Nat→V)(hn:n≤sizeLine)
  (hgo:∀ i H,Same H1 H→i < n→J.go i H) (hstop:∀ H,Same H1 H→J.stop n H) (hy:∀ i H x H',Same H1 H→i < n→J.yld i H x H'→H'=H∧x=xs i)
  (hT:∀ i H,i < n→Same H1 H→∀ R:Bool→Hp→Prop,(∀ H',Same H H'→R (p i) H')→tt (σ0.set 0 (some (xs i))) H R)
  (hE:∀ i H,i < n→p i=true→Same H1 H→∀ R:V→Hp→Prop,(∀ H',Same H H'→R (f i) H')→te (σ0.set 0 (some (xs i))) H R)
  (hQ:∀ l H,Same H1 H→H1 l=none→H l=some (.lst (((List.range n).filter p).map f))→Q (.ref l) H):tCompR (gName 0) tt te σ0 J H1 Q:=by
 intro l hl
 refine⟨fun i m σ H=>m=n - i∧i≤n∧Same H1 H∧H l=some (.lst (((List.range i).filter p).map f))∧∀ o,σ.set 0 o=σ0.set 0 o,⟨n,by simp,Nat.zero_le _,same_upd hl _,upd_same,fun _=>rfl⟩,?_⟩
 rintro i m σ H ⟨rfl,hi,sm,hL,hσ⟩
 by_cases hlt:i < n
 ·refine .inr ⟨hgo i H sm hlt,fun x H' y=>?_⟩
  obtain⟨rfl,rfl⟩:=hy i H x H' sm hlt y
  show tt (σ.set 0 (some (xs i))) H' _
  rw[hσ]
  refine hT i H' hlt sm _ fun H2 s2=>?_
  have er:(List.range (i+1)).filter p=(List.range i).filter p++(if p i=true then [i] else []):=by
   rw[List.range_succ,List.filter_append]
   by_cases hp:p i=true
   ·rw[if_pos hp,List.filter_cons_of_pos hp,List.filter_nil]
   ·rw[if_neg hp,List.filter_cons_of_neg hp,List.filter_nil]
  have hσ2:∀ o,(σ0.set 0 (some (xs i))).set 0 o=σ0.set 0 o:=fun o=>List.set_set _
  by_cases hp:p i=true
  ·rw[if_pos hp]
   refine hE i H2 hlt hp (sm.trans s2) _ fun H3 s3=>?_
   refine⟨_,s3 _ _ (s2 _ _ hL),?_,n - (i+1),by omega,rfl,hlt,?_,?_,hσ2⟩
   ·rw[List.length_map]
    have:=List.length_filter_le p (List.range i)
    rw[List.length_range] at this
    omega
   ·exact same_upd2 hl (sm.trans (s2.trans s3)) _
   ·rw[upd_same,er,if_pos hp,List.map_append]
    rfl
  ·rw[if_neg hp]
   refine⟨n - (i+1),by omega,rfl,hlt,sm.trans s2,?_,hσ2⟩
   rw[er,if_neg hp,List.append_nil]
   exact s2 _ _ hL
 ·have e:i=n:=by omega
  subst e
  exact .inl ⟨hstop H sm,hQ l H sm hl hL⟩
theorem comp_range{tt:TT}{te:TE}{σ0:St}{H1:Hp}{Q:V→Hp→Prop}{lo:Int}{n:Nat}(p:Nat→Bool)(f:Nat→V)(hn:n≤sizeLine)
  (hT:∀ i H,i < n→Same H1 H→∀ R:Bool→Hp→Prop,(∀ H',Same H H'→R (p i) H')→tt (σ0.set 0 (some (.int (lo+(i:Nat))))) H R)
  (hE:∀ i H,i < n→p i=true→Same H1 H→∀ R:V→Hp→Prop,(∀ H',Same H H'→R (f i) H')→te (σ0.set 0 (some (.int (lo+(i:Nat))))) H R)
  (hQ:∀ l H,Same H1 H→H1 l=none→H l=some (.lst (((List.range n).filter p).map f))→Q (.ref l) H):tCompR (gName 0) tt te σ0 (Itr lo n) H1 Q:=
 comp_any n (fun i=>.int (lo+(i:Nat))) p f hn (fun _ _ _ h=>h) (fun _ _=>Nat.le_refl _) (fun _ _ _ _ _ _ y=>y) hT hE hQ
theorem filter_map_range{α β:Type}(xs:List α)(p:α→Bool)(f:α→β)(d:α):((List.range xs.length).filter fun i=>p (xs.getD i d)).map (fun i=>f (xs.getD i d))=(xs.filter p).map f:=by
 have e:(List.range xs.length).map (fun i=>xs.getD i d)=xs:=by
  apply List.ext_getElem
  ·simp
  ·intro i h1 h2
   simp
   rw[List.getElem?_eq_getElem (by simpa using h2)]
   rfl
 have h:(((List.range xs.length).map (fun i=>xs.getD i d)).filter p).map f=((List.range xs.length).filter fun i=>p (xs.getD i d)).map (fun i=>f (xs.getD i d)):=by
  rw[List.filter_map,List.map_map]
  rfl
 rw[e] at h
 exact h.symm
theorem comp_list{K:PySem.W.Frag}{tt:TT}{te:TE}{σ0:St}{H1:Hp}{Q:V→Hp→Prop}{a:Addr}{xs:List V}(p:V→Bool)(f:V→V)(hS:SqL K H1 a xs)(hn:xs.length≤sizeLine)
  (hT:∀ x H,x∈xs→Same H1 H→∀ R:Bool→Hp→Prop,(∀ H',Same H H'→R (p x) H')→tt (σ0.set 0 (some x)) H R)
  (hE:∀ x H,x∈xs→p x=true→Same H1 H→∀ R:V→Hp→Prop,(∀ H',Same H H'→R (f x) H')→te (σ0.set 0 (some x)) H R)
  (hQ:∀ l H,Same H1 H→H1 l=none→H l=some (.lst ((xs.filter p).map f))→Q (.ref l) H):tCompR (gName 0) tt te σ0 (Itl K a) H1 Q:=by
 have at_:∀ i,i < xs.length→xs[i]? = some (xs.getD i .non):=fun i h=>by
  rw[List.getD_eq_getElem?_getD,List.getElem?_eq_getElem h]
  rfl
 have mem:∀ i,i < xs.length→xs.getD i .non∈xs:=fun i h=>by
  have:=at_ i h
  exact List.mem_of_getElem? this
 refine comp_any xs.length (fun i=>xs.getD i .non) (fun i=>p (xs.getD i .non)) (fun i=>f (xs.getD i .non)) hn (fun i H sm h=>⟨xs,_,sm.seq hS,at_ i h⟩) (fun H sm=>⟨xs,sm.seq hS,Nat.le_refl _⟩)
  (fun i H x H' sm h y=>⟨y.1,?_⟩) (fun i H h sm=>hT _ H (mem i h) sm) (fun i H h hp sm=>hE _ H (mem i h) hp sm) (fun l H sm hl hL=>hQ l H sm hl ?_)
 ·have e:=y.2 xs (sm.seq hS)
  rw[at_ i h] at e
  exact(Option.some.inj e).symm
 ·rw[hL,filter_map_range]
end L2
namespace L2
open PySem PySem.Spec PyProof.Rows
section
variable{X:Cx}{e st:Expr}{te:TE}{ts:TO}{pos p2:Pos}
theorem truth_bls{prog:Program}{w:World}{A:Around}{bs:List Bool}{its:List Value}(r:Vals (bs.map V.bl) its):TruthOf prog w A (fun i v=>its.toArray[i]? = some v) fun i=>bs.getD i true:=by
 intro i v s Q E hP hQ
 have hP':its[i]? = some v:=by simpa using hP
 have hi:i < bs.length:=by
  have:=(List.getElem?_eq_some_iff.mp hP').1
  have h2:=r.length
  rw[List.length_map] at h2
  omega
 obtain⟨u,hu,ru⟩:=r.get (i:=i) (x:=.bl bs[i]) (by rw[List.getElem?_map,List.getElem?_eq_getElem hi];rfl)
 rw[hP'] at hu
 cases hu
 cases ru
 have e:bs.getD i true=bs[i]:=by rw[List.getD_eq_getElem?_getD,List.getElem?_eq_getElem hi];rfl
 have hQ':Q (bs.getD i true) s:=hQ
 rw[e] at hQ'
 exact wpAny_truthy_bool hQ'
theorem call_allL(hc:X.calm=true):CallR X (.builtin "all") (fun xs H Q=>∃(a:Addr) (bs:List Bool),xs=[.ref a]∧SqL X.K H a (bs.map V.bl)∧Q (.bl (bs.all id)) H):=by
 intro pins s σ H xs us Q I r h
 obtain⟨a,bs,rfl,hS,q⟩:=h
 obtain⟨u,rfl,ru⟩:=vals1 r
 cases ru
 obtain⟨its,ri,pl,hz⟩:=I.list hS
 have hl:s.heap.IsList a its.toArray:=isL_of pl
 have ha:a < s.heap.objs.size:=by obtain⟨_,e,_⟩:=hl;exact Heap.lt_size e
 have hh:X.A.in1.handled=none:=I.ok.hd hc
 refine call_all_walk (wpAny_pyIter_list hl ?_)
 refine⟨s.heap.objs.size,[s.heap.objs.size,a],[s.heap.objs.size],its.toArray.size,(fun i v=>its.toArray[i]? = some v),(fun i h=>h.IsListIter s.heap.objs.size a i∧h.IsList a its.toArray),(fun i=>bs.getD i true),rfl,Walks.list hh s.heap.objs.size a (Nat.ne_of_lt ha) its.toArray,
  ⟨⟨_,Heap.get?_push_size _ rfl,rfl,rfl⟩,hl.push _⟩,truth_bls ri,fun h' tk hk=>?_⟩
 have e:(List.range its.toArray.size).all (fun i=>bs.getD i true)=bs.all id:=by
  have h2:=ri.length
  rw[List.length_map] at h2
  have h3:its.toArray.size=bs.length:=by simp [h2]
  rw[h3]
  have e1:(List.range bs.length).map (fun i=>bs.getD i true)=bs:=by
   apply List.ext_getElem
   ·simp
   ·intro i h1 h2
    simp
    rw[List.getElem?_eq_getElem (by simpa using h2)]
    rfl
  conv=>rhs;rw[← e1]
  rw[List.all_map]
  rfl
 rw[e]
 refine⟨.bl _,H,I.kept (t':=tk) fun b o eb=>hk b o ?_ (Heap.get?_push_of_some _ eb),rfl,q⟩
 intro hm
 have:b=s.heap.objs.size:=by simpa using hm
 rw[this] at eb
 exact absurd (Heap.lt_size eb) (Nat.lt_irrefl _)
end
end L2
namespace L2
open PySem PySem.Spec PyProof.Rows
def RecAt(base:Heap)(e:Addr)(cls:Value)(od:Option Addr)(ctx fl:Value)(h:Heap):Prop:=
 ∃ oe vs T oT ts,(h.get? e=some oe∧(oe.cls=cls∧oe.dict=od)∧oe.data = .fields vs∧vs[1]? = some (.ref T)∧vs[2]? = some ctx)∧base.get? T=none∧T≠e∧h.get? T=some oT∧oT.data = .fields ts∧ts[3]? = some fl
structure FlyC(base:Heap)(l:List Env)(e:Addr)(cls:Value)(od:Option Addr)(ctx fl:Value)(h:Heap):Prop where
 stays:base.StaysIn h
 new:base.get? e=none
 frames:h.FunFrames base l
 rcd:RecAt base e cls od ctx fl h
section
variable{M:Model}{A:Around}{E:Value→Shared→Prop}{s:Shared}{base:Heap}{env:Env}{outer:List Env}{L e:Addr}{cls ctx:Value}{od:Option Addr}{Q:Unit→Shared→Prop}
theorem dict_mapFields(o:Obj)(f:Array Value→Array Value):(o.mapFields f).dict=o.dict:=by
 unfold Obj.mapFields
 split<;>rfl
theorem noFields{h:Heap}{a:Addr}{o:Obj}{vs:Array Value}(ho:h.get? a=some o)(hd:o.data = .fields vs){b:Addr}{u:Obj}(hb:h.get? b=some u)(hn:∀ ws,u.data ≠ .fields ws):b≠a:=by
 rintro rfl
 have z:=hb.symm.trans ho
 cases z
 exact hn vs hd
theorem setRec{h:Heap}{a:Addr}{i:Nat}{v:Value}(hk:base.StaysIn h)(ha:base.get? a=none){l:List Env}(hl:h.FunFrames base l){o:Obj}{vs:Array Value}(ho:h.get? a=some o)(hd:o.data = .fields vs) :
  let h':=h.update a (Obj.mapFields (·.setIfInBounds i v))
  base.StaysIn h'∧h'.FunFrames base l∧h.UpToSlots h'∧(∀ b,b≠a→h'.get? b=h.get? b)∧∃ o',h'.get? a=some o'∧(o'.cls=o.cls∧o'.dict=o.dict)∧o'.data = .fields (vs.setIfInBounds i v):=by
 intro h'
 have oth:∀ b,b≠a→h'.get? b=h.get? b:=fun b hb=>Heap.get?_update_other _ _ (Ne.symm hb)
 have hd':=Obj.data_mapFields hd (·.setIfInBounds i v)
 refine⟨fun b u hb=>?_,hl.of_keeps fun b u hb hn=>?_,fun b u hb hn=>?_,oth,_,Heap.get?_update_self _ ho (Obj.isFreed_of_fields hd'),⟨Obj.cls_mapFields _ _,dict_mapFields _ _⟩,hd'⟩
 ·rw[oth b (fun z=>by rw[z,ha] at hb;cases hb)]
  exact hk b u hb
 ·exact⟨u,(oth b (noFields ho hd hb hn)).trans hb,rfl⟩
 ·exact⟨u.slots,(oth b (noFields ho hd hb hn)).trans hb⟩
theorem entryC{head:Value}{hadNext:Bool}{oe:Obj}{vs:Array Value}(hfr:A.frames=some (env :: outer))(hl:s.heap.FunFrames base (env :: outer))(hf:env.frame=some L)(hk:base.StaysIn s.heap)(hn:base.get? e=none)
  (he:s.heap.get? e=some oe) (hc:oe.cls=cls∧oe.dict=od) (hd:oe.data = .fields vs) (h2:vs[2]? = some ctx)
  (h:∀ h',FlyC base (env :: outer) e cls od ctx (rawInt L) h'→s.heap.UpToSlots h'→Q () { s with heap:=h' }) :
  wpAny M A (do let a ← frameOf env;let pl ← entryPlaceOf L hadNext;let b ← EntryCells.newEntry head a .none (rawInt L) .none pl;setField (.ref e) 1 b) Q E s:=by
 have hef:e∉(env :: outer).filterMap (·.frame):=fun hm=>by
  obtain⟨_,o,ho,hnf⟩:=hl.mem hm
  exact noFields he hd ho hnf rfl
 refine wpAny_bind (wpAny_frameOf_fun hfr hl hf fun g1 so=>wpAny_bind (wpAny_entryPlaceOf fun pl hpl=>?_))
 unfold EntryCells.newEntry
 unfold newFields
 refine wpAny_bind (wpAny_newObj_type ?_ (hpl.sizeOk5 _ _ _ _ _))
 generalize hob:({ cls:=.type "traceback",dict:=none,data:=.fields ([head,Value.ref L,.none,rawInt L,.none]++(if pl.isEmpty then List.replicate 6 Value.none else pl)).toArray }:Obj)=ob
 have obd:∃ ts:Array Value,ob.data = .fields ts∧ts[3]? = some (rawInt L):=by
  rw[← hob]
  refine⟨_,rfl,?_⟩
  simp
 have e1:g1.get? e=some oe:=(so.2.1 e hef).trans he
 have k1:base.StaysIn g1:=fun b o hb=>(so.2.1 b fun hm=>by rw[(hl.mem hm).1] at hb;cases hb).trans (hk b o hb)
 have l1:g1.FunFrames base (env :: outer):=hl.of_keeps fun b o hb _=>by
  obtain⟨sl,q⟩:=so.2.2 b o hb
  exact⟨_,q,rfl⟩
 have up1:s.heap.UpToSlots g1:=fun b o hb _=>so.2.2 b o hb
 have e2:(g1.push ob).get? e=some oe:=Heap.get?_push_of_some _ e1
 have k2:base.StaysIn (g1.push ob):=fun b o hb=>Heap.get?_push_of_some _ (k1 b o hb)
 have l2:(g1.push ob).FunFrames base (env :: outer):=l1.of_keeps fun b o hb _=>⟨o,Heap.get?_push_of_some _ hb,rfl⟩
 have up2:g1.UpToSlots (g1.push ob):=Heap.UpToSlots.of_keeps fun b o hb=>Heap.get?_push_of_some _ hb
 have hT:(g1.push ob).get? g1.objs.size=some ob:=Heap.get?_push_size _ (by obtain⟨ts,z,_⟩:=obd;exact Obj.isFreed_of_fields z)
 have hsz:1 < vs.size:=Nat.lt_trans (by decide) (Array.getElem?_eq_some_iff.mp h2).1
 obtain⟨k3,l3,up3,oth,oe3,e3,c3,d3⟩:=setRec (i:=1) (v:=.ref g1.objs.size) k2 hn l2 e2 hd
 refine wpAny_setField e2 hd hsz (h _ ⟨k3,hn,l3,oe3,vs.setIfInBounds 1 (.ref g1.objs.size),g1.objs.size,ob,?_⟩ ((up1.trans up2).trans up3))
 obtain⟨ts,z1,z2⟩:=obd
 have hTe:g1.objs.size≠e:=Nat.ne_of_gt (Heap.lt_size e1)
 refine⟨ts,⟨e3,⟨c3.1.trans hc.1,c3.2.trans hc.2⟩,d3,by simp [hsz],?_⟩,k1.fresh,hTe,(oth _ hTe).trans hT,z1,z2⟩
 rw[Array.getElem?_setIfInBounds_ne (by decide)]
 exact h2
theorem noteC0{oe:Obj}{vs:Array Value}(hfr:A.frames=some (env :: outer))(hl:s.heap.FunFrames base (env :: outer))(hf:env.frame=some L)(hk:base.StaysIn s.heap)(hn:base.get? e=none)
  (he:s.heap.get? e=some oe) (hc:oe.cls=cls∧oe.dict=od) (hd:oe.data = .fields vs) (h1:vs[1]? = some .none) (h2:vs[2]? = some ctx)
  (h:∀ h',FlyC base (env :: outer) e cls od ctx (rawInt L) h'→s.heap.UpToSlots h'→Q () { s with heap:=h' }):wpAny M A (noteFrame (.ref e) env) Q E s:=by
 unfold noteFrame
 simp only[hf]
 refine wpAny_bind (wpAny_field he hd h1 ?_)
 rw[if_neg (by decide)]
 exact entryC hfr hl hf hk hn he hc hd h2 h
theorem noteC(hfr:A.frames=some (env :: outer))(hf:env.frame=some L)(x:FlyC base (env :: outer) e cls od ctx .none s.heap)
  (h:∀ h',FlyC base (env :: outer) e cls od ctx (rawInt L) h'→s.heap.UpToSlots h'→Q () { s with heap:=h' }):wpAny M A (noteFrame (.ref e) env) Q E s:=by
 obtain⟨oe,vs,T,oT,ts,⟨he,hc,hd,h1,h2⟩,hT0,hTe,hT,hdT,h3⟩:=x.rcd
 unfold noteFrame
 simp only[hf]
 refine wpAny_bind (wpAny_field he hd h1 ?_)
 rw[if_pos (by simp:(Value.ref T != Value.none)=true)]
 refine wpAny_bind (wpAny_field hT hdT h3 ?_)
 rw[if_neg (by simp [rawInt]:¬ ((Value.none == rawInt L)=true))]
 obtain⟨k3,l3,up3,oth,_⟩:=setRec (i:=3) (v:=.none) x.stays hT0 x.frames hT hdT
 refine wpAny_bind (wpAny_setField hT hdT (Array.getElem?_eq_some_iff.mp h3).1 ?_)
 exact entryC hfr l3 hf k3 x.new ((oth e (Ne.symm hTe)).trans he) hc hd h2 fun h' y up=>h h' y (up3.trans up)
theorem landC{fl:Value}{l:List Env}(x:FlyC base l e cls od ctx fl s.heap)(h:∀ h',FlyC base l e cls od ctx .none h'→s.heap.UpToSlots h'→Q () { s with heap:=h' }):wpAny M A (setFlight (.ref e) none) Q E s:=by
 obtain⟨oe,vs,T,oT,ts,⟨he,hc,hd,h1,h2⟩,hT0,hTe,hT,hdT,h3⟩:=x.rcd
 have hsz:=(Array.getElem?_eq_some_iff.mp h3).1
 obtain⟨k3,l3,up3,oth,oT3,e3,c3,d3⟩:=setRec (i:=3) (v:=.none) x.stays hT0 x.frames hT hdT
 unfold setFlight
 refine wpAny_bind (wpAny_field he hd h1 ?_)
 rw[if_pos (by simp:(Value.ref T != Value.none)=true)]
 refine wpAny_setField hT hdT hsz (h _ ⟨k3,x.new,l3,oe,vs,T,oT3,_,⟨(oth e (Ne.symm hTe)).trans he,hc,hd,h1,h2⟩,hT0,hTe,e3,d3,by simp [hsz]⟩ up3)
theorem FlyC.pop{fl:Value}{h:Heap}(x:FlyC base (env :: outer) e cls od ctx fl h):FlyC base outer e cls od ctx fl h:=⟨x.stays,x.new,x.frames.2.2,x.rcd⟩
theorem leaveC0{oe:Obj}{vs:Array Value}(hfr:A.frames=some (env :: outer))(hl:s.heap.FunFrames base (env :: outer))(hf:env.frame=some L)(hk:base.StaysIn s.heap)(hn:base.get? e=none)
  (he:s.heap.get? e=some oe) (hc:oe.cls=cls∧oe.dict=od) (hd:oe.data = .fields vs) (h1:vs[1]? = some .none) (h2:vs[2]? = some ctx)
  (h:∀ h',FlyC base outer e cls od ctx .none h'→s.heap.UpToSlots h'→Q () { s with heap:=h' }):wpAny M A (leaving env (.ref e)) Q E s:=by
 unfold leaving
 exact wpAny_bind (noteC0 hfr hl hf hk hn he hc hd h1 h2 fun g1 x1 u1=>landC (s:={ s with heap:=g1 }) x1 fun g2 x2 u2=>h g2 x2.pop (u1.trans u2))
theorem leaveC(hfr:A.frames=some (env :: outer))(hf:env.frame=some L)(x:FlyC base (env :: outer) e cls od ctx .none s.heap)
  (h:∀ h',FlyC base outer e cls od ctx .none h'→s.heap.UpToSlots h'→Q () { s with heap:=h' }):wpAny M A (leaving env (.ref e)) Q E s:=by
 unfold leaving
 exact wpAny_bind (noteC hfr hf x fun g1 x1 u1=>landC (s:={ s with heap:=g1 }) x1 fun g2 x2 u2=>h g2 x2.pop (u1.trans u2))
end
end L2
namespace L2
open PySem PySem.Spec PyProof.Rows
section
variable{P:Program}{w:World}{H:Hp}{h h'' B:Heap}{a:Addr}{o:HO}
theorem ObjOk.there(x:ObjOk P w H h a o):∃ ob,h.get? a=some ob:=by
 cases o with
 | lst xs=>obtain⟨_,_,_,_,e⟩:=x;exact⟨_,e⟩
 | tup xs=>obtain⟨_,_,_,ob,e,_⟩:=x;exact⟨ob,e⟩
 | dK kvs=>obtain⟨_,_,_,_,ob,_,_,e,_⟩:=x;exact⟨ob,e⟩
 | dT kvs=>obtain⟨_,_,_,_,ob,_,_,e,_⟩:=x;exact⟨ob,e⟩
 | set S n=>obtain⟨ob,_,_,_,e,_⟩:=x;exact⟨ob,e⟩
 | ins C dx fs=>obtain⟨_,_,_,e,_⟩:=x;exact⟨_,e⟩
 | own y=>exact x
 | xd fs=>obtain⟨_,⟨_,_,_,e,_⟩,_⟩:=x;exact⟨_,e⟩
 | rng lo hi=>obtain⟨_,_,_,e⟩:=x;exact⟨_,e⟩
 | frz ob u=>exact⟨_,x.1⟩
 | tbl ps=>exact⟨_,(show h.get? a=some _ from x)⟩
 | met f y=>exact⟨_,(show h.get? a=some _ from x)⟩
 | ext φ=>exact x.2.1
theorem HOk.stays(x:HOk P w H h)(trk:∀ b o,H b=some o→∃ ob,B.get? b=some ob)(b1:B.StaysIn h)(b2:B.StaysIn h''):HOk P w H h'':=fun a o e=>
 (x a o e).stay (fun b u hb q=>by
  have z:∃ ob,B.get? b=some ob:=hb.elim (fun z=>z ▸ trk a o e) fun z=>trk b _ z
  obtain⟨ob,e1⟩:=z
  have e2:=(b1 _ _ e1).symm.trans q
  cases e2
  exact b2 _ _ e1) (fun _ q=>q) fun _ _ q=>q
end
inductive Chn(B:Heap):Value→Prop where
 | nil:Chn B .none
 | cons {c:Addr} {o:Obj} {vs:Array Value} {ctx:Value}:B.get? c=some o→o.data = .fields vs→vs[2]? = some ctx→Chn B ctx→Chn B (.ref c)
structure Fly(l:List Env)(H:Hp)(e:Addr)(cls:Value)(od:Option Addr)(B h:Heap):Prop where
 fly:∃ ctx,FlyC B l e cls od ctx .none h∧Chn B ctx
 trk:∀ b o,H b=some o→∃ ob,B.get? b=some ob
 noe:H e=none
def CX1(P:Program)(w:World):CXT:=fun outer H s E e s'=>∃(ea:Addr) (cls:Value) (od:Option Addr) (H':Hp) (B:Heap),e = .ref ea∧s'.os=s.os∧AllBare s'.gens∧Un (frs outer) [] H H' s.heap s'.heap∧HOk P w H' s'.heap ∧
 Fly outer H' ea cls od B s'.heap∧(∀ b o,s.heap.get? b=some o→b∉frs outer→∃ ob,B.get? b=some ob)∧E cls od H'
section
variable{X:Cx}{pins:List (Addr×Obj)}{σ:St}{H:Hp}{s:Shared}{B h'':Heap}
theorem Inv.un_fly(J:Inv X pins σ H s)(hex:X.ex=[])(b1:B.StaysIn s.heap)(b2:B.StaysIn h'')(up:s.heap.UpToSlots h'')(inB:∀ b o,X.s₀.heap.get? b=some o→b∉X.fs→∃ ob,B.get? b=some ob) :
  Un X.fs [] X.H₀ H X.s₀.heap h'' where
 keep:=fun b o e n hb _=>by
  have e1:=J.base.keep b o e n hb (by rw[hex];simp)
  obtain⟨ob,eb⟩:=inB b o e hb
  have e2:=(b1 _ _ eb).symm.trans e1
  cases e2
  exact b2 _ _ eb
 slot:=fun b o e n hb _=>by
  obtain⟨sl,e1⟩:=J.base.slot b o e n hb (by rw[hex];simp)
  obtain⟨_,o2,ho2,hd⟩:=J.funs.mem hb
  rw[e1] at ho2
  cases ho2
  obtain⟨sl2,e2⟩:=up b _ e1 hd
  exact⟨sl2,e2⟩
 free:=fun b o e n _=>J.base.free b o e n (by rw[hex];simp)
 there:=fun b o e _=>by
  by_cases hb:b∈X.fs
  ·obtain⟨_,o2,ho2,hd⟩:=J.funs.mem hb
   obtain⟨sl,e2⟩:=up b o2 ho2 hd
   exact⟨_,e2⟩
  ·obtain⟨ob,eb⟩:=inB b o e hb
   exact⟨ob,b2 _ _ eb⟩
 tups:=J.base.tups
 frzs:=J.base.frzs
 tbls:=J.base.tbls
theorem Inv.notFr(J:Inv X pins σ H s){b:Addr}{o:Obj}(e:X.s₀.heap.get? b=some o)(hb:b∉X.fs):b∉frs X.stack:=fun z=>by
 rcases List.mem_cons.mp (J.stkSub b z) with q | q
 ·exact absurd (Nat.lt_of_lt_of_le (Heap.lt_size e) J.ok.above) (by rw[q];exact Nat.lt_irrefl _)
 ·exact hb q
def under(X:Cx)(s:Shared):Heap:=PySem.W.hideAll s.heap (frs X.stack)
theorem under_in{b:Addr}{o:Obj}(e:s.heap.get? b=some o)(hb:b∉frs X.stack):(under X s).get? b=some o:=PySem.W.hideAll_get _ e hb
theorem under_stays:(under X s).StaysIn s.heap:=fun b o q=>PySem.W.of_hideAll _ q
theorem Inv.under_frames(J:Inv X pins σ H s):s.heap.FunFrames (under X s) X.stack:=PySem.W.funFrames_hide J.stack fun env he a ha=>List.mem_filterMap.mpr ⟨env,he,ha⟩
theorem Inv.under_trk(J:Inv X pins σ H s):∀ b o,H b=some o→∃ ob,(under X s).get? b=some ob:=fun b o e=>by
 obtain⟨ob,q⟩:=(J.hok b o e).there
 exact⟨ob,under_in q fun z=>by rw[J.stkFree b z] at e;cases e⟩
end
structure MadeC(h h':Heap)(e:Addr)(cls ctx:Value):Prop where
 keeps:∀ b o,h.get? b=some o→h'.get? b=some o
 new:h.get? e=none
 rcd:∃ oe vs,h'.get? e=some oe∧(oe.cls=cls∧oe.dict=none)∧oe.data = .fields vs∧vs[1]? = some .none∧vs[2]? = some ctx
theorem MadeC.of{h h':Heap}{e:Addr}{cls:Value}{args:List Value}(x:Heap.MadeExcOf h h' e cls args):MadeC h h' e cls .none:=by
 obtain⟨t,he,_⟩:=x.there
 exact⟨x.keeps,x.new,_,_,he,⟨rfl,rfl⟩,rfl,rfl,rfl⟩
structure Thr(X:Cx)(E:XK):Prop where
 new:∀(pins:List (Addr×Obj)) (σ:St) (H:Hp) (s:Shared) (h':Heap) (e C:Addr) (ctx:Value),Inv X pins σ H s→MadeC s.heap h' e (.ref C) ctx→Chn (under X s) ctx→E (.ref C) none H→X.xe (.ref e) { s with heap:=h' }
 on:Passes (CX1 X.prog X.w) X E
 own:PassesOwn (model X.prog X.w) X.A X.env X.xe
 ownAt:∀ hd,PassesOwnAt (model X.prog X.w) (X.A.mark hd) X.A X.env X.xe
theorem thr_def{P:Program}{w:World}{K:PySem.W.Frag}{mg:Str→Option Value}{base:Heap}{N:List Str}{qual:Str}{scope:Scope}{f:Addr}{cd:Value}{A:Around}{outer:List Env}{s:Shared}{H:Hp}{E:XK} :
  Thr (cxOf (CX1 P w) P w K mg base N qual scope f cd A outer s H E) E where
 own:=PassesOwn.leaving
 ownAt:=fun _=>PassesOwnAt.leaving
 new:=by
  intro pins σ H1 s1 h' e C ctx I hx hch hE
  have fr:(under (cxOf (CX1 P w) P w K mg base N qual scope f cd A outer s H E) s1).StaysIn s1.heap:=under_stays
  have hn:(under (cxOf (CX1 P w) P w K mg base N qual scope f cd A outer s H E) s1).get? e=none:=by
   cases q:(under (cxOf (CX1 P w) P w K mg base N qual scope f cd A outer s H E) s1).get? e with
   | none=>rfl
   | some o=>
    have z:=fr _ _ q
    rw[hx.new] at z
    cases z
  obtain⟨oe,vs,he,hc,hd,h1,h2⟩:=hx.rcd
  refine leaveC0 (outer:=outer) I.ok.frames (I.under_frames.of_keeps fun b o hb _=>⟨o,hx.keeps b o hb,rfl⟩) rfl (fun b o q=>hx.keeps b o (fr b o q)) hn he hc hd h1 h2 fun h'' x1 x4=>?_
  have up:s1.heap.UpToSlots h'':=(Heap.UpToSlots.of_keeps hx.keeps).trans x4
  have inB:∀ b o,s.heap.get? b=some o→b∉frs outer→∃ ob,(under (cxOf (CX1 P w) P w K mg base N qual scope f cd A outer s H E) s1).get? b=some ob:=fun b o eb hb=>by
   obtain⟨o',e'⟩:=I.base.there b o eb (by intro z;cases z)
   exact⟨o',under_in e' (I.notFr eb hb)⟩
  refine⟨e,.ref C,none,H1,_,rfl,I.os,I.bare,I.un_fly rfl fr x1.stays up inB,I.hok.stays I.under_trk fr x1.stays,⟨⟨ctx,x1,hch⟩,I.under_trk,?_⟩,inB,hE⟩
  cases q:H1 e with
  | none=>rfl
  | some o=>
   obtain⟨ob,z⟩:=(I.hok e o q).there
   rw[hx.new] at z
   cases z
 on:=by
  intro pins σ H1 s1 e s' I hc
  obtain⟨ea,cls,od,H',B,rfl,os,bare,un,hok,F,inB,hE⟩:=hc
  have J:=I.call' os un hok bare fun b z=>absurd z (by simp)
  obtain⟨ctx,fl,hch⟩:=F.fly
  refine leaveC (outer:=outer) I.ok.frames rfl fl fun h'' x1 x2=>?_
  have inB':∀ b o,s.heap.get? b=some o→b∉frs outer→∃ ob,B.get? b=some ob:=fun b o eb hb=>by
   obtain⟨o',e'⟩:=I.base.there b o eb (by intro z;cases z)
   exact inB b o' e' (I.notFr eb hb)
  exact⟨ea,cls,od,H',B,rfl,J.os,J.bare,J.un_fly rfl fl.stays x1.stays x2 inB',hok.stays F.trk fl.stays x1.stays,⟨⟨ctx,x1,hch⟩,F.trk,F.noe⟩,inB',hE⟩
theorem Fun.okX{P:Program}{w:World}{K:PySem.W.Frag}{mg:Str→Option Value}{base:Heap}{x qual:Str}{st:Stmt}{f:Addr}{fd:FuncData}{N ps:List Str}{k:Nat}{sp:Sp}(F:Fun K x qual st f fd)(S:FnScope N ps (defScope st))(len:∀ vs H Q E,sp vs H Q E→vs.length=ps.length)
  (hbody:∀(cdv:Value) (A:Around) (outer:List Env) (s:Shared) (H:Hp) (vs:List V) (Q:VK) (E:XK),Room k (A.deeper (envOfC qual (defScope st) s.heap.objs.size f cdv))→sp vs H Q E →
   Thr (cxOf (CX1 P w) P w K mg base N qual (defScope st) f cdv A outer s H E) E →
   ∃ t,PSs (cxOf (CX1 P w) P w K mg base N qual (defScope st) f cdv A outer s H E) (defBody st) t∧t { nx:=fun _ H'=>Q .non H',rt:=Q } (start N vs) H):FnOk P w K mg base (CX1 P w) (k+1) f fd ps sp:=by
 obtain⟨oc,od,kV,doc,pm,an,cdv,ct,osl,rfl,lk,hcd⟩:=F.ex
 exact fn_of lk hcd S len fun A outer s H vs Q E hr hsp=>hbody cdv A outer s H vs Q E hr hsp thr_def
abbrev veTail:List Value:=[.type "ValueError",.type "Exception",.type "BaseException",.type "object"]
theorem exc_obj{K:PySem.W.Frag}{h:Heap}{C:Addr}{bmB:List Value}{newId:String}(X:K.In h)(q:PySem.W.excIn K C bmB newId=true) :
  ∃ bm N nm qn bs hdct sn sub ab col dd k0 k1 k2 k3 k5 mN,h.get? C=some (excClassObj nm qn C N bs bm hdct sn sub ab col dd k0 k1 k2 k3 k5 newId)∧h.Ns N mN∧mN "__init__" = none∧OwnTail h bmB bm:=by
 unfold PySem.W.excIn at q
 split at q
 ·rename_i ddx cdx slx hlook
  split at q
  ·rename_i Cx bmx j0 j1 j2 j3 nx j5 hmro hslots
   simp only[beq_iff_eq,Bool.and_eq_true,Bool.not_eq_true'] at q
   obtain⟨⟨⟨⟨⟨eC,eN⟩,edel⟩,etl⟩,eok⟩,eni⟩:=q
   subst eC
   subst eN
   obtain⟨f1,f2,f3,f4,f5,f6,f7,f8,f9,f10,f11⟩:=cdx
   have e1:f3=_:=hmro
   have e2:f11=false:=edel
   subst e1
   subst e2
   obtain⟨lst⟩:=slx
   have e3:lst=_:=hslots
   subst e3
   exact⟨bmx,f4,f1,f5,f2,f6,f7,f8,f9,f10,ddx,j0,j1,j2,j3,j5,_,X _ _ hlook,.of_isNs (PySem.W.isNs_of_in X eok),PySem.W.nsMap_none_of_in X eok eni,PySem.W.tail_of_in X etl⟩
  ·cases q
 ·cases q
def tRaise(C:Addr)(E:XK)(t:TA):TS:=fun _ σ H=>t σ H fun vs H1=>vs.length≤sizeLine∧E (.ref C) none H1
theorem ps_raise{X:Cx}{x:Str}{np cpos pos:Pos}{e:Expr}{es:List Expr}{t:TA}{C:Addr}{E:XK}(T:Thr X E)(hh:X.A.handled=none)(hg:Gl X x)(hm:X.mg x=some (.ref C))(hc:PySem.W.excIn X.K C veTail "ValueError.__new__" = true)(ha:PA X (e :: es) t)
  (hdb:(x == ("__debug__":Str))=false:=by decide) (he:starEach (e :: es) X.env=(false,eval e X.env) :: starEach es X.env:=by rfl) (hpl:(backTo cpos (starEach es X.env)).any (·.1)=false:=by rfl) :
  PS X (.Raise (some (.Call (.Name x np) (e :: es) [] cpos)) none pos) (tRaise C E t):=by
 intro pins s σ H D I h
 obtain⟨bm,N,nm,qn,bs,hdct,sn,sub,ab,col,dd,k0,k1,k2,k3,k5,mN,hC,hN,hni,hT⟩:=exc_obj I.mod.kin hc
 have hB:bm.contains (.type "BaseException")=true:=hT.hasType PySem.F.excBase_ValueError.hasBase
 refine wpAny_Raise_call_subT (k5:=k5) (k3:=k3) (k2:=k2) (k1:=k1) (k0:=k0) (dd:=dd) (col:=col) (ab:=ab) (sub:=sub) (sn:=sn) (hdct:=hdct) (bs:=bs) (N:=N) (q:=qn) (nm:=nm) (bm:=bm) (C:=C) PySem.F.excBase_ValueError (mN:=mN) hB hh (by rw[he];show(false || (backTo cpos (starEach es X.env)).any (·.1))=false;rw[hpl];rfl) hni (ld_glob I hg hm ⟨rfl,?_⟩ hdb)
 have hA:=ha cpos pins s σ H _ I h
 rw[he] at hA ⊢
 refine Calls.evalArgs_plain (thn hA fun us s2 q2=>?_)
 obtain⟨vs,H2,I2,r,hz,hE⟩:=q2
 exact⟨rfl,by rw[← r.length];exact hz,I2.bk _ _ hC,hN.keeps I2.bk,hT.keeps I2.bk,fun h' e' hx=>T.new pins σ H2 s2 h' e' C .none I2 (.of hx) .nil hE⟩
end L2
namespace L2
open PySem PySem.Spec PyProof.Rows
def Held(X:Cx)(pins:List (Addr×Obj))(B:Heap):Prop:=(∀ b o,X.s₀.heap.get? b=some o→b∉X.ex→b∉X.fs→∃ ob,B.get? b=some ob)∧∀ p∈X.pn++pins,∃ ob,B.get? p.1=some ob
def XP(X:Cx)(pins:List (Addr×Obj))(σ:St)(Ex:XK)(e:Value)(s':Shared):Prop:=
 ∃(ea:Addr) (cls:Value) (od:Option Addr) (H':Hp) (B:Heap),e = .ref ea∧Inv X pins σ H' s'∧Fly X.stack H' ea cls od B s'.heap∧Held X pins B∧Ex cls od H'
section
variable{X:Cx}{pins:List (Addr×Obj)}{σ:St}{H:Hp}{s:Shared}{B h'':Heap}
theorem Inv.held(I:Inv X pins σ H s)(inB:∀ b o,s.heap.get? b=some o→b∉frs X.stack→∃ ob,B.get? b=some ob):Held X pins B:=by
 refine⟨fun b o e hx hb=>?_,fun p hp=>?_⟩
 ·obtain⟨o',e'⟩:=I.base.there b o e hx
  exact inB b o' e' (I.notFr e hb)
 ·obtain⟨e,n,ne,nf,d⟩:=I.pin p hp
  exact inB _ _ e fun z=>by
   rcases List.mem_cons.mp (I.stkSub _ z) with q | q
   ·exact ne q
   ·exact nf q
theorem Inv.landed(J:Inv X pins σ H s)(hB:Held X pins B)(trk:∀ b o,H b=some o→∃ ob,B.get? b=some ob)(b1:B.StaysIn s.heap)(b2:B.StaysIn h'')(up:s.heap.UpToSlots h''):Inv X pins σ H { s with heap:=h'' }:=by
 have exact_:∀ b o,s.heap.get? b=some o→(∃ ob,B.get? b=some ob)→h''.get? b=some o:=fun b o e z=>by
  obtain⟨ob,eb⟩:=z
  have e2:=(b1 _ _ eb).symm.trans e
  cases e2
  exact b2 _ _ eb
 have cellK:∀ c v,s.heap.IsCell c v→h''.IsCell c v:=fun c v z=>by
  obtain⟨o,ho,hd⟩:=z
  obtain⟨sl,e⟩:=up c o ho fun ws q=>by rw[hd] at q;cases q
  exact⟨_,e,hd⟩
 refine⟨J.ok,J.os,J.bare,⟨fun b o e n hb hx=>?_,fun b o e n hb hx=>?_,J.base.free,fun b o e hx=>?_,J.base.tups,J.base.frzs,J.base.tbls⟩,?_,fun x c e=>?_,J.free,J.freeC,fun p hp=>?_,J.hok.stays trk b1 b2,J.len⟩
 ·exact exact_ b o (J.base.keep b o e n hb hx) (hB.1 b o e hx hb)
 ·obtain⟨sl,e1⟩:=J.base.slot b o e n hb hx
  obtain⟨_,o2,ho2,hd⟩:=J.funs.mem hb
  rw[e1] at ho2
  cases ho2
  obtain⟨sl2,e2⟩:=up b _ e1 hd
  exact⟨sl2,e2⟩
 ·by_cases hb:b∈X.fs
  ·obtain⟨_,o2,ho2,hd⟩:=J.funs.mem hb
   obtain⟨sl,e2⟩:=up b o2 ho2 hd
   exact⟨_,e2⟩
  ·obtain⟨ob,eb⟩:=hB.1 b o e hx hb
   exact⟨ob,b2 _ _ eb⟩
 ·obtain⟨m,hn,hl⟩:=J.loc
  refine⟨m,up.ns hn,fun i x v e1 e2 e3=>?_⟩
  obtain⟨u,r,l⟩:=hl i x v e1 e2 e3
  refine⟨u,r,?_⟩
  rcases l with l | ⟨k,c,e,z⟩
  ·exact .inl l
  ·exact .inr ⟨k,c,e,cellK c _ z⟩
 ·obtain⟨v,z⟩:=J.cell x c e
  exact⟨v,cellK c v z⟩
 ·obtain⟨e,n,ne,nf,d⟩:=J.pin p hp
  exact⟨exact_ _ _ e (hB.2 p hp),n,ne,nf,d⟩
def excO(a C:Addr):HO:=.ext fun h=>∃ o vs,h.get? a=some o∧o.cls = .ref C∧o.data = .fields vs
theorem Inv.track{a C:Addr}{ob:Obj}{vs:Array Value}(J:Inv X pins σ H s)(hn:H a=none)(h0:X.s₀.heap.get? a=none)(ho:s.heap.get? a=some ob)(hc:ob.cls = .ref C)(hd:ob.data = .fields vs)(hp:∀ p∈X.pn++pins,p.1≠a) :
  Inv X pins σ (upd H a (excO a C)) s:=by
 have other:∀ b u,H b=some u→upd H a (excO a C) b=some u:=fun b u q=>by rw[upd_ne (ne_of_none q hn)];exact q
 have nel:X.env.locals≠a:=fun z=>by
  obtain⟨m,⟨o,es,ep,h1,h2,_⟩,_⟩:=J.loc
  rw[z,ho] at h1
  cases h1
  rw[hd] at h2
  cases h2
 have nec:∀ x c,X.env.cells.lookup x=some c→c≠a:=fun x c e z=>by
  obtain⟨v,o,h1,h2⟩:=J.cell x c e
  rw[z,ho] at h1
  cases h1
  rw[hd] at h2
  cases h2
 refine⟨J.ok,J.os,J.bare,⟨J.base.keep,J.base.slot,fun b o e n hx=>?_,J.base.there,fun b xs q=>other _ _ (J.base.tups b xs q),fun b o u q=>other _ _ (J.base.frzs b o u q),fun b ps q=>?_⟩,J.loc,J.cell,?_,fun x c e=>?_,fun p q=>?_,fun b u e=>?_,J.len⟩
 ·rw[upd_ne fun z=>by rw[z,h0] at e;cases e]
  exact J.base.free b o e n hx
 ·obtain⟨more,e⟩:=J.base.tbls b ps q
  exact⟨more,other _ _ e⟩
 ·rw[upd_ne nel]
  exact J.free
 ·rw[upd_ne (nec x c e)]
  exact J.freeC x c e
 ·obtain⟨e,n,r⟩:=J.pin p q
  exact⟨e,by rw[upd_ne (hp p q)];exact n,r⟩
 ·by_cases hb:b=a
  ·subst hb
   rw[upd_same] at e
   cases e
   exact⟨⟨ob,vs,ho,hc,hd⟩,⟨ob,ho⟩,fun h1 h2 ⟨o,ws,e1,e2⟩ k=>⟨o,ws,k _ e1,e2⟩⟩
  ·rw[upd_ne hb] at e
   exact(J.hok b u e).stay (fun _ _ _ q=>q) (fun c q=>other _ _ q) fun c xs q=>other _ _ q
def hCx(X:Cx)(e:Addr):Cx:={ X with A:=X.A.mark (some (.ref e)),calm:=false,xe:=fun _ _=>False }
theorem Inv.inH{e:Addr}(J:Inv X pins σ H s):Inv (hCx X e) pins σ H s:=
 ⟨⟨J.ok.mod,J.ok.kind,J.ok.glob,J.ok.blt,J.ok.above,J.ok.inj,J.ok.has,J.ok.cab,fun z=>Bool.noConfusion z,J.ok.frames,J.ok.stk,J.ok.exf,J.ok.bs,J.ok.bsz,J.ok.noex,J.ok.exfs,J.ok.funs,J.ok.frf⟩,J.os,J.bare,J.base,J.loc,J.cell,J.free,J.freeC,J.pin,J.hok,J.len⟩
theorem Inv.outH{e:Addr}(ok:X.Ok)(J:Inv (hCx X e) pins σ H s):Inv X pins σ H s:=⟨ok,J.os,J.bare,J.base,J.loc,J.cell,J.free,J.freeC,J.pin,J.hok,J.len⟩
theorem name_gone{M:Model}{A:Around}{E:Value→Shared→Prop}{i:Nat}{n:Str}{pos:Pos}{Q:Unit→Shared→Prop}(J:Inv X pins σ H s)(hN:X.N.Nodup)(hi:X.N[i]? = some n)(hlo:X.env.kindOf n=some .local)
  (h:∀ s',Inv X pins (σ.set i none) H s'→Q () s'):wpAny M A (do bindName X.env n .none;unbindBehindTheSuite X.env n pos) Q E s:=by
 obtain⟨m,hn,hl⟩:=J.loc
 refine wpAny_nameGoes_keeps hlo hn (by rw[J.ok.kind];rfl) fun h' v hn' hs=>h _ ?_
 have hiσ:i < σ.length:=by rw[J.len];exact(List.getElem?_eq_some_iff.mp hi).1
 obtain⟨oL,esL,epL,hoL,hdL,_⟩:=id hn
 have neB:∀ b o,X.s₀.heap.get? b=some o→b≠X.env.locals:=fun b o e=>Nat.ne_of_lt (Nat.lt_of_lt_of_le (Heap.lt_size e) J.ok.above)
 refine⟨J.ok,J.os,J.bare,⟨fun b o e k hb hx=>?_,fun b o e k hb hx=>?_,J.base.free,fun b o e hx=>?_,J.base.tups,J.base.frzs,J.base.tbls⟩,⟨_,hn',fun j y v' e1 e2 e3=>?_⟩,fun y c e=>?_,J.free,J.freeC,fun p hp=>?_,fun b ob e=>?_,by simpa using J.len⟩
 ·exact(hs.2 b (neB b o e)).trans (J.base.keep b o e k hb hx)
 ·obtain⟨sl,q⟩:=J.base.slot b o e k hb hx
  exact⟨sl,(hs.2 b (neB b o e)).trans q⟩
 ·obtain⟨o',q⟩:=J.base.there b o e hx
  exact⟨o',(hs.2 b (neB b o e)).trans q⟩
 ·by_cases hj:j=i
  ·subst hj
   rw[List.getElem?_set_self hiσ] at e2
   cases e2
  ·rw[List.getElem?_set_ne (Ne.symm hj)] at e2
   obtain⟨u',r',q⟩:=hl j y v' e1 e2 e3
   refine⟨u',r',?_⟩
   have hy:y≠n:=fun z=>hj (nodup_ix hN e1 (z ▸ hi))
   rcases q with⟨k,e⟩ | ⟨k,c,e,z⟩
   ·exact .inl ⟨k,by simp [hy,e]⟩
   ·exact .inr ⟨k,c,e,z.sameBut hs (J.cne y c e)⟩
 ·obtain⟨w',z⟩:=J.cell y c e
  exact⟨w',z.sameBut hs (J.cne y c e)⟩
 ·obtain⟨e,k,ne,nf,d⟩:=J.pin p hp
  exact⟨(hs.2 p.1 ne).trans e,k,ne,nf,d⟩
 ·refine(J.hok b ob e).stay (fun c w' hc q=>(hs.2 c ?_).trans q) (fun _ q=>q) fun _ _ q=>q
  rintro rfl
  have fr:=J.free
  rcases hc with hc | hc
  ·rw[hc,e] at fr
   cases fr
  ·rw[hc] at fr
   cases fr
end
def PEX(X:Cx)(e:Expr)(t:XK→TE):Prop:=
 ∀(pins:List (Addr×Obj)) (s:Shared) (σ:St) (H:Hp) (Q:VK) (Ex:XK),Inv X pins σ H s→t Ex σ H Q→wpAny (model X.prog X.w) X.A (eval e X.env) (EP X pins σ Q) (XP X pins σ Ex) s
def PSX(X:Cx)(st:List Stmt)(t:XK→TS):Prop:=
 ∀(pins:List (Addr×Obj)) (s:Shared) (σ:St) (H:Hp) (D:Ends) (Ex:XK),Inv X pins σ H s→t Ex D σ H→wpAny (model X.prog X.w) X.A (execs st X.env) (SP X pins D) (XP X pins σ Ex) s
section
variable{X:Cx}{k:Nat}{f:Addr}{fd:FuncData}{ps:List Str}{sp:Sp}{dvs:List V}{ds:List Value}{x:Str}{p pos:Pos}{e:Expr}{es:List Expr}{t:TA}
theorem run_fnX{pins:List (Addr×Obj)}{σ:St}{H:Hp}{s:Shared}{Q:VK}{Ex:XK}{us:List Value}{vs:List V}(F:FnOk X.prog X.w X.K X.mg X.base (CX1 X.prog X.w) k f fd ps sp)(hr:Room k X.A)(hb:Binds X.K fd ps ds)(hd:Vals dvs ds)
  (I:Inv X pins σ H s) (r:Vals vs us) (h:sp (vs++dvs) H Q Ex):wpAny (model X.prog X.w) X.A (call (.ref f) us) (EP X pins σ Q) (XP X pins σ Ex) s:=by
 have r2:Vals (vs++dvs) (us++ds):=r.append hd
 have hl:(us++ds).length=ps.length:=by rw[← r2.length];exact F.len _ _ _ _ h
 refine wpAny_call (codeAny_mono (F.run X.A X.stack s H ⟨us,[]⟩ (us++ds) (vs++dvs) Q Ex hr I.env0 (hb s us I.kIn hl) r2 h) fun r s' hq=>?_)
 cases r with
 | error e=>
  obtain⟨ea,cls,od,H',B,rfl,os,bare,un,hok,F,inB,hE⟩:=hq
  exact⟨ea,cls,od,H',B,rfl,I.call' os un hok bare fun b z=>absurd z (by simp),F,I.held inB,hE⟩
 | ok fl=>
  cases fl with
  | ret u=>exact I.after hq
  | next=>exact False.elim hq
  | brk=>exact False.elim hq
  | cont=>exact False.elim hq
theorem pex_call(F:FnOk X.prog X.w X.K X.mg X.base (CX1 X.prog X.w) k f fd ps sp)(hr:Room k X.A)(hg:Gl X x)(hm:X.mg x=some (.ref f))(hk:PySem.W.keepIn X.K (.ref f)=true)(hb:Binds X.K fd ps ds)(hd:Vals dvs ds)
  (ha:PA X.nox (e :: es) t) (hdb:(x == ("__debug__":Str))=false:=by decide) (he:starEach (e :: es) X.env=(false,eval e X.env) :: starEach es X.env:=by rfl) (hpl:(backTo pos (starEach es X.env)).any (·.1)=false:=by rfl) :
  PEX X (.Call (.Name x p) (e :: es) [] pos) (fun Ex=>tCall sp dvs Ex t):=by
 intro pins s σ H Q Ex I h
 refine wpAny_Call_Name_kw (ld_glob I hg hm ?_ hdb)
 refine PySem.W.callWith_K (h₀:=X.base) I.ok.mod.kin hk (wpAny_mono (ha pos pins s σ H _ (I.wish _) h) (fun us s1 ⟨vs,H1,I1,r,q⟩=>⟨I1.unwish.kIn,?_⟩) fun _ _ z=>False.elim z) he hpl
 exact run_fnX F hr hb hd I1.unwish r q
end
theorem FlyC.looks{M:Model}{base h:Heap}{l:List Env}{e:Addr}{cls ctx fl:Value}{od:Option Addr}(x:FlyC base l e cls od ctx fl h):PySem.W.Looks M h (typeOf (.ref e)) cls:=by
 obtain⟨oe,vs,_,_,_,⟨ho,hc,_⟩,_⟩:=x.rcd
 exact hc.1 ▸ (PySem.W.Looks.ld ho).andThen .now
def tTryAs(K:PySem.W.Frag)(tb:XK→TS)(i:Nat)(CT:Value)(th:TS):TS:=fun D σ H=>
 tb (fun cls _ H1=>PySem.W.exmOne K cls CT=some true∧∃ C,cls = .ref C∧∀ ea,H1 ea=none →
  th { nx:=fun σ' H'=>D.nx (σ'.set i none) H',rt:=D.rt,bk:=fun σ' H'=>D.bk (σ'.set i none) H',ct:=fun σ' H'=>D.ct (σ'.set i none) H' } (σ.set i (some (.ref ea))) (upd H1 ea (excO ea C))) D σ H
theorem ps_tryAs{X:Cx}{body:List Stmt}{T n:Str}{np hpos pos:Pos}{b₀:Stmt}{suite:List Stmt}{CT:Addr}{tb:XK→TS}{th:TS}{i:Nat}(hst:X.stack=X.env :: X.outer)(hfr:X.env.frame=some X.env.locals)(hex:X.ex=[])(hN:X.N.Nodup)(hi:X.N[i]? = some n)
  (hlo:X.env.kindOf n=some .local) (hb:PSX X body tb) (hg:Gl X T) (hm:X.mg T=some (.ref CT)) (hs:∀ e,PSs (hCx X e) (b₀ :: suite) th) (hdb:(T == ("__debug__":Str))=false:=by decide) :
  PS X (.Try body [.ExceptHandler (some (.Name T np)) (some n) (b₀ :: suite) hpos] [] [] pos) (tTryAs X.K tb i (.ref CT) th):=by
 intro pins s σ H D I h
 refine wpAny_Try_except (wpAny_mono (hb pins s σ H D _ I h) (fun f s1 hq=>?_) fun e s1 hx=>?_)
 ·cases f with
  | next=>exact wpAny_execs_nil hq
  | brk=>exact hq
  | cont=>exact hq
  | ret u=>exact hq
 obtain⟨ea,cls,od,H1,B,rfl,J,F,hB,hm1,C,rfl,hth⟩:=hx
 obtain⟨ctx,fl,hch⟩:=F.fly
 rw[hst] at fl
 refine noteC (by rw[J.ok.frames,hst]) hfr fl fun h4 held4 up4=>landC held4 fun h5 fl5 up5=>?_
 have J5:Inv X pins σ H1 { s1 with heap:=h5 }:=J.landed hB F.trk fl.stays fl5.stays (up4.trans up5)
 have LT:PySem.W.Looks (model X.prog X.w) h5 (typeOf (.ref ea)) (.ref C):=fl5.looks
 refine wpAny_handleBy_cons (codeAny_handlers_test (ld_glob (X:=hCx X ea) J5.inH hg hm ?_ hdb)) (by intro q;cases q)
 refine(PySem.W.exm_one J5.kIn LT hm1).here ?_
 show codeAny (model X.prog X.w) (X.A.mark (some (.ref ea))) (.handlers (.ref ea) [.ExceptHandler none (some n) (b₀ :: suite) hpos] X.env) _ _
 refine codeAny_handlers_suite_as (landC fl5 fun h6 fl6 up6=>?_)
 have J6:Inv X pins σ H1 { s1 with heap:=h6 }:=J.landed hB F.trk fl.stays fl6.stays ((up4.trans up5).trans up6)
 obtain⟨oe,vs,_,_,_,⟨ho,hc,hd,_,_⟩,_⟩:=fl6.rcd
 have h0:X.s₀.heap.get? ea=none:=by
  cases q:X.s₀.heap.get? ea with
  | none=>rfl
  | some o=>
   by_cases hb:ea∈X.fs
   ·obtain⟨_,o2,ho2,hd2⟩:=J6.funs.mem hb
    rw[ho] at ho2
    cases ho2
    exact absurd hd (hd2 vs)
   ·obtain⟨ob,z⟩:=hB.1 ea o q (by rw[hex];simp) hb
    rw[fl6.new] at z
    cases z
 have J7:Inv X pins σ (upd H1 ea (excO ea C)) { s1 with heap:=h6 }:=J6.track F.noe h0 ho hc.1 hd fun p hp z=>by
  obtain⟨ob,y⟩:=hB.2 p hp
  rw[z,fl6.new] at y
  cases y
 have J8:Inv (hCx X ea) pins σ (upd H1 ea (excO ea C)) { s1 with heap:=h6 }:=J7.inH
 refine store_ok (X:=hCx X ea) J8 hN hi (Or.inl hlo) (v:=.ref ea) rfl (fun s7 I7=>?_) (Or.inr hlo)
 refine wpAny_mono (hs ea pins s7 _ _ _ I7 (hth ea F.noe)) (fun fw s8 q8=>?_) fun _ _ z=>False.elim z
 show wpAny (model X.prog X.w) X.A (do bindName X.env n .none;unbindBehindTheSuite X.env n hpos) (fun _ s9=>SP X pins D fw s9) X.xe s8
 cases fw with
 | next=>
  obtain⟨σ',H',I',q'⟩:=q8
  exact name_gone (I'.outH J.ok) hN hi hlo fun s' K'=>⟨_,H',K',q'⟩
 | brk=>
  obtain⟨σ',H',I',q'⟩:=q8
  exact name_gone (I'.outH J.ok) hN hi hlo fun s' K'=>⟨_,H',K',q'⟩
 | cont=>
  obtain⟨σ',H',I',q'⟩:=q8
  exact name_gone (I'.outH J.ok) hN hi hlo fun s' K'=>⟨_,H',K',q'⟩
 | ret u=>
  obtain⟨v,σ',H',I',r',q'⟩:=q8
  exact name_gone (I'.outH J.ok) hN hi hlo fun s' K'=>⟨v,_,H',K',r',q'⟩
end L2
namespace L2
open PySem PySem.Spec PyProof.Rows Builtin Builtin.ObjectAttr Builtin.Getset_descriptor
structure ExcF(K:PySem.W.Frag)(C:Addr):Prop where
 cl:(PySem.W.clsIn K C).isSome=true
 ga:PySem.W.findIn K (.ref C) "__getattribute__" = some (some (.builtin "BaseException.__getattribute__"))
 hk:PySem.W.findIn K (.ref C) "__getattr__" = some none
 cs:PySem.W.findIn K (.ref C) "__class__" = some (some (.builtin "object.__class__"))
 gt:PySem.W.specialIn K (.builtin "object.__class__") "__get__" = some (some (.builtin "getset_descriptor.__get__"))
 tk:PySem.W.takesIn K (.builtin "object.__class__")=some true
 mo:PySem.W.mroIn K C (.type "object")=some true
 mb:PySem.W.mroIn K C (.type "BaseException")=some true
def ExcAt(a C:Addr)(h:Heap):Prop:=∃ o,h.get? a=some o∧o.cls = .ref C
theorem excAt_ty{a C:Addr}{M:Model}{h:Heap}(p:ExcAt a C h):PySem.W.Looks M h (typeOf (.ref a)) (.ref C):=by
 obtain⟨o,h1,h2⟩:=p
 exact h2 ▸ (PySem.W.Looks.ld h1).andThen .now
section
variable{prog:Program}{w:World}{A:Around}{E:Value→Shared→Prop}{K:PySem.W.Frag}{a C:Addr}
theorem excAt_get{s:Shared}{tp:Value}{R:Result→Shared→Prop}(F:ExcF K C)(X:K.In s.heap)(p:ExcAt a C s.heap)(h:R (.ok (.ret (.ref C))) s) :
  codeAny (model prog w) A (.call (.builtin "getset_descriptor.__get__") ⟨[.builtin "object.__class__",.ref a,tp],[]⟩) R s:=by
 obtain⟨hh,g,dr,t,os⟩:=s
 have L0:=excAt_ty (M:=model prog w) p
 have L1:=PySem.W.looks_mroIn (M:=model prog w) X F.mo
 refine codeAny_call_builtin PySem.W.KF.slot_gs.plain PySem.W.KF.entry_gs (PySem.W.KF.slot_gs.check _ _ _ _ _ _ _ _ PySem.W.KF.type_class (PySem.W.KF.args_gs _ _ _) ?_)
 unfold Builtin.«getset_descriptor.__get__»
 unfold descrGet
 rw[PySem.W.dga_obj]
 refine wpAny_bind (wpAny_pure ?_)
 unfold descrGetter descrCheckInstance
 unfold descrNameAndClass isInstance
 simp only[PySem.W.KF.owner_class]
 repeat lk
 refine⟨Code.quiet_builtin _ (by decide +kernel),codeAny_builtin PySem.W.KF.entry_class ?_⟩
 unfold Builtin.«object.__class__»
 unfold shownTypeOf
 repeat lk
 exact h
end
end L2
namespace L2
open PySem PySem.Spec PyProof.Rows Builtin Builtin.ObjectAttr Builtin.Getset_descriptor
section
variable{prog:Program}{w:World}{A:Around}{E:Value→Shared→Prop}{K:PySem.W.Frag}{a C:Addr}
theorem excAt_find{M:Model}{h:Heap}(F:ExcF K C)(X:K.In h):PySem.W.Looks M h (Builtin.ObjectAttr.find (.ref a) (.ref C) "__class__") (.bind (.builtin "getset_descriptor.__get__") (.builtin "object.__class__")):=by
 have L1:=PySem.W.looks_findIn (M:=M) X F.cs
 have L2:=PySem.W.looks_specialIn (M:=M) X F.gt
 have L3:=PySem.W.looks_takesIn (M:=M) X F.tk
 have L4:PySem.W.Looks M h (Builtin.ObjectAttr.dataDescriptor? (some (.builtin "object.__class__")) (some (.builtin "getset_descriptor.__get__"))) (some (.builtin "getset_descriptor.__get__",.builtin "object.__class__")):=L3.andThen .now
 exact L1.andThen (L2.andThen (L4.andThen (PySem.W.Looks.tag .now)))
theorem excAt_check{M:Model}{s:Shared}{nameV:Value}{Q:Unit→Shared→Prop}(F:ExcF K C)(X:K.In s.heap)(p:ExcAt a C s.heap)(hq:Q () s):wpAny M A (checkBuiltinCall "BaseException.__getattribute__" ⟨[.ref a,nameV],[]⟩) Q E s:=by
 have hk:builtinKind "BaseException.__getattribute__" = some .slot:=by decide +kernel
 have hsplit:splitId "BaseException.__getattribute__" = some ("BaseException","__getattribute__"):=by decide +kernel
 have ha:=PySem.F.args_bexc_ga (.ref a) nameV
 have LI:PySem.W.Looks M s.heap (isInstance (.ref a) (.type "BaseException")) true:=(excAt_ty p).andThen (PySem.W.looks_mroIn X F.mb)
 simp only[checkBuiltinCall,hk,hsplit]
 refine wpAny_bind (LI.here ?_)
 obtain⟨hh,g,d,t,os⟩:=s
 repeat (first | assumption | wp_step)
theorem excAt_entry{s:Shared}{tk:Tok}{Q:Fin→Shared→Prop}(F:ExcF K C)(X:K.In s.heap)(p:ExcAt a C s.heap)(hq:Q (.done (.ret (.ref C))) s) :
  wpAny (model prog w) A (Builtin.«object.__getattribute__» ⟨[.ref a,.str "__class__" tk],[]⟩) Q E s:=by
 obtain⟨hh,g,d,t,os⟩:=s
 have L0:=excAt_ty (M:=model prog w) p
 have L1:=excAt_find (a:=a) (M:=model prog w) F X
 unfold Builtin.«object.__getattribute__»
 repeat (first | (with_reducible refine wpAny_call (excAt_get F X p ?_)) | lk | wp_step)
 exact hq
theorem excAt_class{s:Shared}{Q:Option Value→Shared→Prop}(F:ExcF K C)(X:K.In s.heap)(p:ExcAt a C s.heap)(h:Q (some (.ref C)) { s with toks:=s.toks+1 }):wpAny (model prog w) A (getAttr? (.ref a) "__class__") Q E s:=by
 obtain⟨hh,g,d,t,os⟩:=s
 have L0:=excAt_ty (M:=model prog w) p
 have L1:=PySem.W.looks_findIn (M:=model prog w) X F.ga
 have L2:=PySem.W.looks_findIn (M:=model prog w) X F.hk
 have hb:bindSpecial (.builtin "BaseException.__getattribute__") (.ref a)=pure (.builtin "BaseException.__getattribute__",[.ref a]):=PySem.F.excAttr_ValueError.ga.bind (.ref a)
 unfold getAttr? getAttrBy? getAttrBy
 refine wpAny_bind (wpAny_mkText (wpAny_bind (wpAny_attempt (wpAny_holding (wpAny_bind (L0.at (wpAny_bind (L1.at ?_))))))))
 show wpAny _ _ (getAttrByItsOwn (.ref a) _ (.ref C) (.builtin "BaseException.__getattribute__") false false) _ _ _
 unfold getAttrByItsOwn hookBefore
 refine wpAny_bind ?_
 rw[if_pos (show onTheHeap (Value.ref C)=true from rfl)]
 refine L2.at ?_
 refine wpAny_bind (wpAny_attempt (wpAny_holding ?_))
 show wpAny _ _ (boundAndCalled (.builtin "BaseException.__getattribute__") (.ref a) _) _ _ _
 unfold boundAndCalled
 rw[hb]
 refine wpAny_bind (wpAny_pure ?_)
 refine wpAny_call (codeAny_call_builtin PySem.F.excAttr_ValueError.ga.plain PySem.F.entry_bexc_ga (excAt_check F X p (excAt_entry F X p ?_)))
 show wpAny (model prog w) A (handedOut (.ref C)) _ _ _
 exact PySem.W.handed_on rfl (wpAny_pure h)
theorem kitx_exc(F:ExcF K C):PySem.W.KitX K (.ref a) (.ref C) (ExcAt a C) where
 ty:=fun M h _ p=>excAt_ty p
 it:=fun M h X _=>by
  have z:=F.cl
  unfold PySem.W.clsIn at z
  split at z
  ·rename_i c1 d1 cd1 sl1 ho
   intro A1 Q1 E1 s1 k1 q1
   unfold isType loadHead
   exact wpAny_bind (wpAny_loadPart (k1 _ _ (X _ _ ho)) (wpAny_pure q1))
  ·cases z
 ne:=fun h tp dd its n sl X htp=>by
  refine Bool.eq_false_iff.mpr fun q=>?_
  have e:C=tp:=Value.ref.inj (beq_iff_eq.mp q)
  subst e
  have z:=F.cl
  unfold PySem.W.clsIn at z
  split at z
  ·rename_i c1 d1 cd1 sl1 ho
   have y:=(X _ _ ho).symm.trans htp
   cases y
  ·cases z
 ca:=fun X p k=>excAt_class F X p k
end
def isC:V→Bool | .ref _=>true | .ty _=>true | _=>false
def toC:V→Value | .ref D=>.ref D | .ty n=>.type n | _=>.none
theorem toC_eq{c:V}{u:Value}(h:isC c=true)(r:RelV c u):u=toC c:=by
 cases c with
 | ref D=>exact r
 | ty n=>exact r
 | _=>cases h
theorem call_isX{X:Cx}:CallR X (.builtin "isinstance") (fun xs H Q=>∃ a C c b,xs=[.ref a,c]∧isC c=true∧H a=some (excO a C)∧ExcF X.K C∧PySem.W.kitOne X.K (.ref C) (toC c)=some b∧Q (.bl b) H):=by
 intro pins s σ H xs us Q I r h
 obtain⟨a,C,c,b,rfl,hc,hH,F,e,q⟩:=h
 obtain⟨u,w',rfl,r1,r2⟩:=vals2 r
 cases r1
 have e2:=toC_eq hc r2
 subst e2
 obtain⟨⟨o,vs,e1,e3,e4⟩,_,_⟩:=I.hok a _ hH
 exact PySem.W.kia_one (kitx_exc F) I.kIn ⟨o,e1,e3⟩ e (fun z=>nomatch z) fun tk=>⟨.bl b,H,I.tok tk,rfl,q⟩
end L2
namespace L2
open PySem PySem.Spec PyProof.Rows
section
variable{X:Cx}{pos:Pos}
theorem mt_find:MtR X "str.find" (fun x xs H Q=>∃ i j,x = .str i∧xs=[.str j]∧Q (.int (Txt.find i j)) H):=by
 intro pins s σ H x xs v us Q I rx rv h
 obtain⟨i,j,rfl,rfl,q⟩:=h
 obtain⟨t,rfl⟩:=rx
 obtain⟨u,rfl,ru⟩:=rv.one
 obtain⟨t',rfl⟩:=ru
 exact SC.find ⟨.int _,H,I.tok _,⟨_,rfl⟩,q⟩
theorem pass1{P:Program}{w:World}:Passes (CX1 P w) X E0:=fun _ _ _ _ _ _ _ h=>by
 obtain⟨_,_,_,_,_,_,_,_,_,_,_,_,z⟩:=h
 exact z.elim
end
end L2
namespace L2
open PySem PySem.Spec PyProof.Rows
def vS(ys:List Str):List V:=ys.map V.str
theorem vS_len(ys:List Str):(vS ys).length=ys.length:=List.length_map _
theorem vals_values:∀ l:List (Str×Tok),Vals (vS (l.map (·.1))) (strValues l)
 | []=>.nil
 | (x,t) :: r=>.cons ⟨t,rfl⟩ (vals_values r)
theorem vals_from(tk:Nat)(xs:List Str):Vals (vS xs) (strsFrom tk xs):=by
 rw[strsFrom_eq]
 have:=vals_values (numbered tk xs)
 rwa [numbered_texts] at this
theorem strsAre_of:∀{ys:List Str} {us:List Value},Vals (vS ys) us→StrsAre us ys
 | [],_,.nil=>.nil
 | y :: r,_,.cons h t=>by
  obtain⟨tk,rfl⟩:=h
  exact .cons _ _ (strsAre_of t)
section
variable{X:Cx}
theorem mt_join:MtR X "str.join" (fun x xs H Q=>∃ sep a ys,x = .str sep∧xs=[.ref a]∧SqL X.K H a (vS ys)∧(ys.map (·.length)).sum+ys.length * sep.length≤16777216∧Q (.str (Txt.join sep ys)) H):=by
 intro pins s σ H x xs v us Q I rx rv h
 obtain⟨sep,a,ys,rfl,rfl,hS,hok,q⟩:=h
 obtain⟨t,rfl⟩:=rx
 obtain⟨u,rfl,ru⟩:=rv.one
 cases ru
 obtain⟨its,r,pl,hz⟩:=I.list hS
 exact join_list (isL_of pl) (by simpa using strsAre_of r) hok fun t' k=>⟨.str _,H,I.tok k,⟨_,rfl⟩,q⟩
theorem mt_split:MtR X "str.split" (fun x xs H Q=>∃ i j,x = .str i∧xs=[.str j]∧(j.length == 0)=false∧i.length≤10000∧∀ l,H l=none→Q (.ref l) (upd H l (.lst (vS (Txt.split i j))))):=by
 intro pins s σ H x xs v us Q I rx rv h
 obtain⟨i,j,rfl,rfl,hj,hi,q⟩:=h
 obtain⟨t,rfl⟩:=rx
 obtain⟨u,rfl,ru⟩:=rv.one
 obtain⟨t',rfl⟩:=ru
 have sl:=sizeLine_eq
 have hsz:i.length≤sizeLine:=by omega
 have same:Txt.split i j=[i]→(∀ h' tk,h'=s.heap.push { cls:=.type "list",data:=.seq ([.str i t]:List Value).toArray }→EP X pins σ Q (.ref s.heap.objs.size) { s with heap:=h',toks:=tk }):=fun e h' tk eh=>by
  subst eh
  refine⟨.ref s.heap.objs.size,_,I.lnew (t':=tk) (ys:=vS (Txt.split i j)) (its:=[.str i t]) ?_ ?_,rfl,q _ I.fresh⟩
  ·rw[e]
   exact .cons ⟨t,rfl⟩ .nil
  ·rw[e]
   show 1≤sizeLine
   omega
 by_cases h1:(decide (i.length < j.length) || decide (Builtin.Str.strKind i < Builtin.Str.strKind j))=true
 ·refine call_meets F.slot_str_split (typeIs_str _ _ _) F.entry_str_split (F.args_str_split_2 _ _) (meets_str_split_cannot_occur i j t t' h1) ?_
  exact same (if_pos h1) _ s.toks rfl
 ·have h1':=Bool.eq_false_iff.mpr h1
  by_cases hf:(Builtin.Str.occurrences i j 0 i.length (i.length+1)).isEmpty=true
  ·refine call_meets F.slot_str_split (typeIs_str _ _ _) F.entry_str_split (F.args_str_split_2 _ _) (meets_str_split_not_found i j t t' h1' hj hf) ?_
   exact same ((if_neg h1).trans (if_pos hf)) _ s.toks rfl
  ·have hf':=Bool.eq_false_iff.mpr hf
   have hp:Txt.split i j=Builtin.Str.partsBetween i (Builtin.Str.occurrences i j 0 i.length (i.length+1)) j.length:=(if_neg h1).trans (if_neg hf)
   have hn:(Builtin.Str.partsBetween i (Builtin.Str.occurrences i j 0 i.length (i.length+1)) j.length).length≤sizeLine:=by
    rw[len_partsBetween]
    have:=StrLaws.occ_length_le i j 0 i.length (i.length+1)
    omega
   refine call_meets F.slot_str_split (typeIs_str _ _ _) F.entry_str_split (F.args_str_split_2 _ _) (meets_str_split_sep i j t t' h1' hj hf' hsz hn) ?_
   refine⟨.ref s.heap.objs.size,_,I.lnew (ys:=vS (Txt.split i j)) (its:=strsFrom s.toks (Builtin.Str.partsBetween i (Builtin.Str.occurrences i j 0 i.length (i.length+1)) j.length)) ?_ ?_,rfl,q _ I.fresh⟩
   ·rw[hp]
    exact vals_from _ _
   ·rw[vS_len,hp]
    exact hn
def rSlS:V→Option Int→Option Int→Hp→VK→Prop:=fun x lo hi H Q=>∃ z,x = .str z∧z.length≤10000∧Q (.str (Txt.slice z lo hi)) H
theorem isPart_of{v:Value}{o:Option Int}(p:IsPart v o):∃ l:Option (Int×Tok),partValue l=v∧l.map (·.1)=o:=by
 cases p with
 | none=>exact⟨none,rfl,rfl⟩
 | int i t=>exact⟨some (i,t),rfl,rfl⟩
theorem sl_str:SlR X rSlS:=by
 intro pins s σ H x v vl vu lo hi sl Q I rx hs pl pu h
 obtain⟨z,rfl,hz,q⟩:=h
 obtain⟨t,rfl⟩:=rx
 obtain⟨l,rfl,el⟩:=isPart_of pl
 obtain⟨u,rfl,eu⟩:=isPart_of pu
 refine⟨"str",_,F.slot_str_getitem.lookup,typeIs_str _ _ _,?_⟩
 refine wpAny_getItem_str_slice (l:=l) (u:=u) (st:=none) hs rfl (post_val_or_str ⟨?_,fun t' k=>?_⟩)
 ·have e:=Txt.slice_le z lo hi
  rw[← el,← eu] at e
  have sl':=sizeLine_eq
  refine Nat.le_trans e ?_
  omega
 ·refine⟨.str _,H,I.tok k,⟨_,rfl⟩,?_⟩
  rw[← el,← eu] at q
  exact q
def Its(x:Str):It:=⟨fun i _=>i < x.cps.size,fun i H v H'=>H'=H∧∃ c,x.cps[i]? = some c∧v = .str ⟨#[c]⟩,fun i _=>x.cps.size≤i⟩
theorem turn_strA{P:Program}{w:World}{K:PySem.W.Frag}{tg:Expr}(x:Str)(t:Tok)(it:Addr):Turn P w K tg (Its x) [it] it (fun i h=>h.IsStrIter it "str_ascii_iterator" x t i) where
 mem:=by simp
 obj:=fun i h st b hb=>by
  have e:b=it:=by simpa using hb
  subst e
  obtain⟨o,e,c,d⟩:=st
  exact⟨o,e,fun v z=>by rw[d] at z;cases z⟩
 keep:=fun i h h' st k=>by
  obtain⟨o,e,r⟩:=st
  exact⟨o,k it (by simp) o e,r⟩
 item:=by
  intro X hP hw hK hc i pins s σ H E I hf st hg
  subst hP hw hK
  have hi:i < x.cps.size:=hg
  obtain⟨f0,f1,f2,f3,f4,f5⟩:=hf it (by simp)
  refine wpAny_pyNext_ascii_item st (c:=x.cps[i]) (by simp [hi]) fun h' st' sb=>?_
  have I1:Inv X pins σ H { s with heap:=h',toks:=s.toks+1 }:=I.turned (t':=s.toks+1) (fun b o hb e=>(sb.2 b hb).trans e) f0 f1 f3 f4 f5
  obtain⟨o,e,c,d⟩:=id st'
  exact⟨_,rfl,go_of (s:={ s with heap:=h',toks:=s.toks+1 }) e c d (by decide) ⟨.str _,H,I1,⟨_,rfl⟩,⟨rfl,x.cps[i],by simp [hi],rfl⟩,st',fun b hb=>(hf b hb).1⟩⟩
 done:=by
  intro X hP hw hK hc i pins s σ H E I hf st hg
  subst hP hw hK
  have hi:x.cps.size≤i:=hg
  obtain⟨f0,f1,f2,f3,f4,f5⟩:=hf it (by simp)
  exact wpAny_pyNext_ascii_end (I.ok.hd hc) st (by simp [hi]) fun h' eb=>⟨rfl,I.turned (t':=s.toks) (fun b o hb e=>eb b o hb e) f0 f1 f3 f4 f5⟩
 self:=fun _ _ _ _ _ st h=>wpAny_pyIter_striter_ascii st h
theorem turn_strW{P:Program}{w:World}{K:PySem.W.Frag}{tg:Expr}(x:Str)(t:Tok)(it:Addr):Turn P w K tg (Its x) [it] it (fun i h=>h.IsStrIter it "str_iterator" x t i) where
 mem:=by simp
 obj:=fun i h st b hb=>by
  have e:b=it:=by simpa using hb
  subst e
  obtain⟨o,e,c,d⟩:=st
  exact⟨o,e,fun v z=>by rw[d] at z;cases z⟩
 keep:=fun i h h' st k=>by
  obtain⟨o,e,r⟩:=st
  exact⟨o,k it (by simp) o e,r⟩
 item:=by
  intro X hP hw hK hc i pins s σ H E I hf st hg
  subst hP hw hK
  have hi:i < x.cps.size:=hg
  obtain⟨f0,f1,f2,f3,f4,f5⟩:=hf it (by simp)
  refine wpAny_pyNext_wide_item st (c:=x.cps[i]) (by simp [hi]) fun h' st' sb=>?_
  have I1:Inv X pins σ H { s with heap:=h',toks:=s.toks+1 }:=I.turned (t':=s.toks+1) (fun b o hb e=>(sb.2 b hb).trans e) f0 f1 f3 f4 f5
  obtain⟨o,e,c,d⟩:=id st'
  exact⟨_,rfl,go_of (s:={ s with heap:=h',toks:=s.toks+1 }) e c d (by decide) ⟨.str _,H,I1,⟨_,rfl⟩,⟨rfl,x.cps[i],by simp [hi],rfl⟩,st',fun b hb=>(hf b hb).1⟩⟩
 done:=by
  intro X hP hw hK hc i pins s σ H E I hf st hg
  subst hP hw hK
  have hi:x.cps.size≤i:=hg
  obtain⟨f0,f1,f2,f3,f4,f5⟩:=hf it (by simp)
  exact wpAny_pyNext_wide_end (I.ok.hd hc) st (by simp [hi]) fun h' eb=>⟨rfl,I.turned (t':=s.toks) (fun b o hb e=>eb b o hb e) f0 f1 f3 f4 f5⟩
 self:=fun _ _ _ _ _ st h=>wpAny_pyIter_striter_wide st h
def iStr(tl:TE):TI:=fun σ H R=>tl σ H fun x H1=>∃ z,x = .str z∧R (Its z) H1
theorem pi_str{tg l:Expr}{tl:TE}(hl:PE X l tl):PI X tg l (iStr tl):=by
 intro pins s σ H R I h
 refine thn (hl pins s σ H _ I h) fun v s1 ⟨x,H1,I1,r1,q1⟩=>?_
 obtain⟨z,rfl,q⟩:=q1
 obtain⟨t,rfl⟩:=r1
 have fp:∀ b∈[s1.heap.objs.size],FpOk X pins H1 b:=fun b hb=>by
  have e:b=s1.heap.objs.size:=by simpa using hb
  subst e
  exact I1.fpOk (Nat.le_refl _) (I1.hok.fresh (Nat.le_refl _))
 cases ha:z.cps.all (· < 128)
 ·exact wpAny_pyIter_wide ha ⟨s1.heap.objs.size,[s1.heap.objs.size],_,_,H1,rfl,I1.kept (t':=s1.toks) fun b o e=>Heap.get?_push_of_some _ e,turn_strW z t _,⟨_,Heap.get?_push_size _ rfl,rfl,rfl⟩,fp,q⟩
 ·exact wpAny_pyIter_ascii ha ⟨s1.heap.objs.size,[s1.heap.objs.size],_,_,H1,rfl,I1.kept (t':=s1.toks) fun b o e=>Heap.get?_push_of_some _ e,turn_strA z t _,⟨_,Heap.get?_push_size _ rfl,rfl,rfl⟩,fp,q⟩
end
end L2
namespace L2
open PySem PySem.Spec PyProof.Rows
section
variable{prog:Program}{w:World}
end
end L2
namespace L2
open PySem PySem.Spec PyProof.Rows
section
variable{X:Cx}{pins:List (Addr×Obj)}{σ:St}{H:Hp}{s:Shared}{x:Str}{np cp cp2 cpos rpos:Pos}{msg:Str}{j j2:Nat}{C e1:Addr}
end
end L2
namespace L2
open PySem PySem.Spec PyProof.Rows
theorem op_eqNil{X:Cx}(hu:X.A.units+64 < cLine):OpR X (compareOp .Eq) (fun x y H Q=>∃(a b:Addr) (xs:List V),x = .ref a∧y = .ref b∧SqL X.K H a xs∧SqL X.K H b []∧Q (.bl xs.isEmpty) H):=by
 intro pins s σ H x y v u Q I rx ry h
 obtain⟨a,b,xs,rfl,rfl,hA,hB,q⟩:=h
 cases xs with
 | nil=>exact op_eqL hu pins s σ H _ _ v u Q I rx ry ⟨a,b,[],[],rfl,rfl,hA,hB,q⟩
 | cons x0 xr=>
  cases rx
  cases ry
  obtain⟨ia,va,pa,_⟩:=I.list hA
  obtain⟨ib,vb,pb,_⟩:=I.list hB
  have l1:=va.length
  have l2:=vb.length
  refine PySem.SeqAt.eq_list_lengthsAt (isL_of pa) (isL_of pb) ?_ (by omega) ⟨.bl false,H,I,rfl,q⟩
  simp only[List.size_toArray,← l1,← l2,List.length_cons,List.length_nil]
  simp
end L2
namespace L2
open PySem PySem.Spec PyProof.Rows
section
variable{P:Program}{w:World}{A:Around}{E:Value→Shared→Prop}{s:Shared}{kd:SortKind}{a0:Array Keyed}
def Cmp(P:Program)(w:World)(A:Around)(s:Shared)(kd:SortKind)(ks:List Value):Prop:=
 ∀ x∈ks,∀ y∈ks,∀(E:Value→Shared→Prop) (Q:Bool→Shared→Prop),(∀ b,Q b s)→wpAny (model P w) A (keyLt' kd x y) Q E s
structure SB(kd:SortKind)(a0:Array Keyed)(st:SortSt):Prop where
 pm:(arrOf st).Perm a0
 kn:kindOf st=kd
 fl:failedOf st=none
 pn:pendingOf st = #[]
theorem SB.sz{st:SortSt}(h:SB kd a0 st):(arrOf st).size=a0.size:=h.pm.size_eq
theorem SB.put{st:SortSt}{xs:Array Keyed}(h:SB kd a0 st)(p:xs.Perm (arrOf st)):SB kd a0 (setArr st xs):=⟨p.trans h.pm,h.kn,h.fl,h.pn⟩
theorem SB.get{st:SortSt}{i:Nat}(h:SB kd a0 st)(hi:i < a0.size):∃ x p,(arrOf st)[i]? = some (x,p)∧x∈a0.toList.map (·.1):=by
 have hi2:i < (arrOf st).size:=h.sz ▸ hi
 have m:(arrOf st)[i]∈(arrOf st).toList:=by simp
 exact⟨(arrOf st)[i].1,(arrOf st)[i].2,getElem?_pos _ i hi2,List.mem_map.mpr ⟨_,(Array.perm_iff_toList_perm.mp h.pm).mem_iff.mp m,rfl⟩⟩
theorem lt_any{st:SortSt}{i j:Nat}{Q:Option Bool→SortSt→Prop}(hC:Cmp P w A s kd (a0.toList.map (·.1)))(hB:SB kd a0 st)(hi:i < a0.size)(hj:j < a0.size)(h:∀ b,Q (some b) st):wpS (model P w) A E s (ltAt' i j) Q st:=by
 obtain⟨x,p,e1,m1⟩:=hB.get hi
 obtain⟨y,q,e2,m2⟩:=hB.get hj
 rw[ltAt'_eq]
 refine wpS_bind (wpS_get (show wpS _ _ _ _ (do let x ← elem' (arrOf st) i;let y ← elem' (arrOf st) j;lt' x y) Q st from ?_))
 rw[elem'_eq,elem'_eq,e1,e2]
 refine wpS_bind (wpS_pure (wpS_bind (wpS_pure (show wpS _ _ _ _ (lt' (x,p) (y,q)) Q st from ?_))))
 rw[lt'_eq]
 refine wpS_bind (wpS_get (show wpS _ _ _ _ (do let r ← (liftM (keyLt' (kindOf st) x y).attempt:StateT SortSt Sem _);_) Q st from ?_))
 rw[hB.kn]
 exact wpS_bind (wpS_lift (wpAny_attempt (hC x m1 y m2 _ _ fun b=>⟨rfl,wpS_pure (h b)⟩)))
variable(hC:Cmp P w A s kd (a0.toList.map (·.1)))
include hC
theorem asc_any{st:SortSt}{a m:Nat}{Q:AscSt→SortSt→Prop}(hm:m≤a0.size)(h1:1≤a)(h2:a≤m)(hB:SB kd a0 st)(h:∀ n,a≤n→n≤m→Q (none,n) st):wpS (model P w) A E s (ascLoop a m) Q st:=by
 unfold ascLoop
 refine wpS_forRange (I:=fun x c t=>t=st∧c=(none,x)) (fun x c t hx1 hx2 z=>?_) (fun c t z=>?_) ⟨rfl,rfl⟩
 ·obtain⟨rfl,rfl⟩:=z
  refine wpS_bind (lt_any hC hB (by dsimp only;omega) (by dsimp only;omega) fun b=>?_)
  cases b with
  | true=>exact wpS_pure (h x hx1 (by omega))
  | false=>exact wpS_pure ⟨rfl,rfl⟩
 ·obtain⟨rfl,rfl⟩:=z
  exact h _ (by omega) (by omega)
theorem tail_any{st:SortSt}{n m:Nat}{Q:Option Nat→SortSt→Prop}(hm:m≤a0.size)(h1:1≤n)(h2:n≤m)(hB:SB kd a0 st)(h:∀ k t,SB kd a0 t→1≤k→k≤m→Q (some k) t):wpS (model P w) A E s (tail3 n m) Q st:=by
 unfold tail3
 exact wpS_bind (wpS_reverse (wpS_bind (asc_any hC hm h1 h2 (hB.put (mirror_perm _ _ _ _)) fun k k1 k2=>wpS_pure (h k _ (hB.put (mirror_perm _ _ _ _)) (by omega) k2))))
theorem desc_any{st:SortSt}{n m:Nat}{Q:DescSt→SortSt→Prop}(hm:m≤a0.size)(h1:1≤n)(h2:n≤m)(hB:SB kd a0 st)(h:∀ k q t,SB kd a0 t→n≤k→k≤m→Q (none,k,q) t):wpS (model P w) A E s (descLoop n m) Q st:=by
 unfold descLoop
 refine wpS_forRange (I:=fun x c t=>SB kd a0 t∧∃ q,c=(none,x,q)) (fun x c t hx1 hx2 z=>?_) (fun c t z=>?_) ⟨hB,0,rfl⟩
 ·obtain⟨hB2,q,rfl⟩:=z
  refine wpS_bind (lt_any hC hB2 (by dsimp only;omega) (by dsimp only;omega) fun b=>?_)
  cases b with
  | true=>
   show wpS _ _ _ _ (if q > 0 then _ else _) _ _
   split
   ·exact wpS_bind (wpS_reverse (wpS_pure ⟨hB2.put (mirror_perm _ _ _ _),0,rfl⟩))
   ·exact wpS_pure ⟨hB2,0,rfl⟩
  | false=>
   refine wpS_bind (lt_any hC hB2 (by dsimp only;omega) (by dsimp only;omega) fun b=>?_)
   cases b with
   | true=>exact wpS_pure (h x q t hB2 hx1 (by omega))
   | false=>exact wpS_pure ⟨hB2,q+1,rfl⟩
 ·obtain⟨hB2,q,rfl⟩:=z
  exact h _ q t hB2 (by omega) (by omega)
theorem part_any{st:SortSt}{n m:Nat}{Q:Option Nat→SortSt→Prop}(hm:m≤a0.size)(h2:n+1≤m)(hB:SB kd a0 st)(h:∀ k t,SB kd a0 t→1≤k→k≤m→Q (some k) t):wpS (model P w) A E s (descPart n m) Q st:=by
 unfold descPart
 refine wpS_bind (wpS_lift (wpAny_rule ⟨rfl,wpS_bind (desc_any hC hm (by omega) h2 hB fun k q t hB2 k1 k2=>?_)⟩))
 show wpS _ _ _ _ (if q > 0 then _ else _) _ _
 split
 ·exact wpS_bind (wpS_reverse (tail_any hC hm (by dsimp only;omega) (by dsimp only;omega) (hB2.put (mirror_perm _ _ _ _)) h))
 ·exact tail_any hC hm (by dsimp only;omega) (by dsimp only;omega) hB2 h
theorem count_any{st:SortSt}{m:Nat}{Q:Option Nat→SortSt→Prop}(hm:m≤a0.size)(h1:1≤m)(hB:SB kd a0 st)(h:∀ k t,SB kd a0 t→1≤k→k≤m→Q (some k) t):wpS (model P w) A E s (countRun' 0 m) Q st:=by
 rw[countRun0_eq]
 refine wpS_bind (asc_any hC hm (Nat.le_refl 1) h1 hB fun n n1 n2=>?_)
 show wpS _ _ _ _ (if(n == m)=true then _ else if n > 1 then _ else _) _ _
 split
 ·exact wpS_pure (h n st hB n1 n2)
 ·rename_i ne
  have ne2:n≠m:=fun z=>ne (beq_iff_eq.mpr z)
  split
  ·refine wpS_bind (lt_any hC hB (by omega) (by dsimp only;omega) fun b=>?_)
   cases b with
   | true=>exact wpS_pure (h n st hB n1 n2)
   | false=>exact wpS_bind (wpS_reverse (part_any hC hm (by dsimp only;omega) (hB.put (mirror_perm _ _ _ _)) h))
  ·exact part_any hC hm (by dsimp only;omega) hB h
theorem ins_any{st:SortSt}{n ok:Nat}{Q:Bool→SortSt→Prop}(hn:n≤a0.size)(hB:SB kd a0 st)(h:∀ t,SB kd a0 t→Q true t):wpS (model P w) A E s (binarySort' 0 n ok) Q st:=by
 rw[binarySort'_eq]
 refine wpS_bind (wpS_mono (wpS_forRange (I:=fun _ c t=>c=(none,())∧SB kd a0 t) (Q:=fun c t=>c=(none,())∧SB kd a0 t) (fun k c t hk1 hk2 z=>?_) (fun c t z=>z) ⟨rfl,hB⟩) fun c t z=>?_)
 ·obtain⟨rfl,hB2⟩:=z
  refine wpS_bind (wpS_mono (wpS_forRange (I:=fun _ c u=>u=t∧∃ l r,c=(none,l,r)∧r≤k) (Q:=fun c u=>u=t∧∃ l r,c=(none,l,r)) (fun x c u hx1 hx2 y=>?_) (fun c u y=>?_) ⟨rfl,0,k,rfl,Nat.le_refl k⟩) fun c u y=>?_)
  ·obtain⟨rfl,l,r,rfl,hr⟩:=y
   show wpS _ _ _ _ (if l ≥ r then _ else _) _ _
   split
   ·exact wpS_pure ⟨rfl,l,r,rfl⟩
   ·refine wpS_bind (lt_any hC hB2 (by omega) (by dsimp only;omega) fun b=>?_)
    cases b with
    | true=>exact wpS_pure ⟨rfl,l,(l+r) / 2,rfl,by omega⟩
    | false=>exact wpS_pure ⟨rfl,(l+r) / 2+1,r,rfl,hr⟩
  ·obtain⟨rfl,l,r,rfl,_⟩:=y
   exact⟨rfl,l,r,rfl⟩
  ·obtain⟨rfl,l,r,rfl⟩:=y
   show wpS _ _ _ _ (do moveDown' (0+k) (0+l);pure (ForInStep.yield (none,()))) _ _
   rw[moveDown'_eq]
   exact wpS_bind (wpS_modify (wpS_pure ⟨rfl,hB2.put (bubble_perm _ _ _)⟩))
 ·obtain⟨rfl,hB2⟩:=z
  exact wpS_pure (h t hB2)
theorem runs_any{st:SortSt}{Q:Unit→SortSt→Prop}(hB:SB kd a0 st)(h2:1≤a0.size)(h64:a0.size < 64)(h:∀ t,(arrOf t).Perm a0→failedOf t=none→Q () t):wpS (model P w) A E s sortRuns' Q st:=by
 have mr:minRun' a0.size a0.size 0=a0.size:=by
  obtain⟨f,hf⟩:∃ f,a0.size=f+1:=⟨a0.size - 1,by omega⟩
  rw[hf,minRun'_succ,if_pos (by omega)]
 have dn:∀ t,SB kd a0 t→(arrOf (setPending t ((pendingOf t).push (0,a0.size,0)))).Perm a0∧failedOf (setPending t ((pendingOf t).push (0,a0.size,0)))=none∧pendingOf (setPending t ((pendingOf t).push (0,a0.size,0))) = #[(0,a0.size,0)]:=
  fun t hB=>⟨hB.pm,hB.fl,by show(pendingOf t).push _=_;rw[hB.pn];rfl⟩
 rw[sortRuns'_eq]
 refine wpS_bind (wpS_get ?_)
 dsimp only
 simp only[hB.sz,mr]
 refine wpS_bind (wpS_mono (wpS_forRange (I:=fun x c t=>(x=0∧c=(none,0)∧SB kd a0 t)∨(c=(none,a0.size)∧(arrOf t).Perm a0∧failedOf t=none∧pendingOf t = #[(0,a0.size,0)]))
  (Q:=fun c t=>c=(none,a0.size)∧(arrOf t).Perm a0∧failedOf t=none∧pendingOf t = #[(0,a0.size,0)]) (fun x c t hx1 hx2 z=>?_) (fun c t z=>?_) (.inl ⟨rfl,rfl,hB⟩)) fun c t z=>?_)
 ·rcases z with⟨rfl,rfl,hB2⟩ | ⟨rfl,hD⟩
  ·dsimp only
   rw[if_neg (show ¬ 0 ≥ a0.size by omega)]
   simp only[Nat.sub_zero,Nat.min_self,Nat.zero_add]
   refine wpS_bind (count_any hC (Nat.le_refl _) h2 hB2 fun k u hB3 k1 k2=>?_)
   dsimp only
   have bk:∀ v,SB kd a0 v→(pendingOf v).back? = none:=fun v hv=>by rw[hv.pn];rfl
   by_cases lt:k < a0.size
   ·rw[if_pos lt]
    refine wpS_bind (wpS_lift (wpAny_rule ⟨rfl,wpS_bind (ins_any hC (Nat.le_refl _) hB3 fun v hB4=>?_)⟩))
    rw[if_neg (show ¬ (!true)=true by decide)]
    refine wpS_bind (wpS_get ?_)
    rw[bk v hB4]
    exact wpS_bind (wpS_modify (wpS_pure (.inr ⟨rfl,dn v hB4⟩)))
   ·rw[if_neg lt]
    have ek:k=a0.size:=by omega
    subst ek
    refine wpS_bind (wpS_get ?_)
    rw[bk u hB3]
    exact wpS_bind (wpS_modify (wpS_pure (.inr ⟨rfl,dn u hB3⟩)))
  ·dsimp only
   rw[if_pos (Nat.le_refl _)]
   exact wpS_pure ⟨rfl,hD⟩
 ·rcases z with⟨hx,_,_⟩ | hD
  ·omega
  ·exact hD
 ·obtain⟨rfl,d1,d2,d3⟩:=z
  refine wpS_bind (wpS_mono (wpS_forRange (I:=fun _ c u=>u=t∧c=(none,())) (Q:=fun c u=>u=t∧c=(none,())) (fun x c u _ _ y=>?_) (fun _ _ y=>y) ⟨rfl,rfl⟩) fun c u y=>?_)
  ·obtain⟨rfl,rfl⟩:=y
   refine wpS_bind (wpS_get ?_)
   rw[if_pos (by rw[d3];exact Nat.le_refl 1)]
   exact wpS_pure ⟨rfl,rfl⟩
  ·obtain⟨rfl,rfl⟩:=y
   exact wpS_pure (h _ d1 d2)
end
section
variable{P:Program}{w:World}{A:Around}{E:Value→Shared→Prop}{s:Shared}{kd:SortKind}
structure Keys(P:Program)(w:World)(A:Around)(s:Shared)(kd:SortKind)(vs:List Value):Prop where
 kind:2≤vs.length→∀(E:Value→Shared→Prop) (Q:SortKind→Shared→Prop),Q kd s→wpAny (model P w) A (keyKind' vs.toArray) Q E s
 cmp:Cmp P w A s kd vs
theorem pairs_fst(vs:List Value):(pairsOf vs).toList.map (·.1)=vs:=by
 rw[pairsOf_toList]
 exact List.map_fst_zip (Nat.le_refl _)
theorem pairs_perm{vs:List Value}{xs:Array Keyed}(h:xs.Perm (pairsOf vs)):(xs.map (·.2)).toList.Perm vs:=by
 have z:=(Array.perm_iff_toList_perm.mp h).map (·.2)
 rw[pairsOf_toList,List.map_snd_zip (Nat.le_refl _)] at z
 rwa [Array.toList_map]
theorem sort_any{a:Addr}{vs:List Value}{n:Nat}{R:Fin→Shared→Prop}(ho:s.heap.get? a=some (seqObj "list" vs.toArray n))(h64:vs.length < 64)
  (hK:∀ h',(∀ b o,b≠a→s.heap.get? b=some o→h'.get? b=some o)→Keys P w A { s with heap:=h' } kd vs)
  (h:∀ out:Array Value,out.toList.Perm vs→R (.done (.ret .none)) { s with heap:=sortedHeap s.heap a vs out }):wpAny (model P w) A (Builtin.«list.sort» ⟨[.ref a],[]⟩) R E s:=by
 have ha:a < s.heap.objs.size:=Heap.lt_size ho
 rw[list_sort_plain]
 refine wpAny_bind (listItems_at ho rfl (wpAny_bind (listUpdate_at ho rfl ?_)))
 obtain⟨e1,ho1⟩:∃ e,(s.heap.update a (Obj.mapSeq fun _=>#[])).get? a=some (seqObj "list" #[] e):=⟨_,get?_update_seq ho fun _=>#[]⟩
 refine wpAny_bind (seqEpoch_at ho1 rfl (wpAny_bind (wpAny_newTuple (wpAny_bind (wpAny_newList (wpAny_holding ?_))))))
 show wpAny (model P w) A _ R E { s with heap:=((s.heap.update a (Obj.mapSeq fun _=>#[])).push (seqObj "tuple" vs.toArray 0)).push (seqObj "list" #[] 0) }
 have ho6:(((s.heap.update a (Obj.mapSeq fun _=>#[])).push (seqObj "tuple" vs.toArray 0)).push (seqObj "list" #[] 0)).get? a=some (seqObj "list" #[] e1):=Heap.get?_push_of_some _ (Heap.get?_push_of_some _ ho1)
 have kp:=hK (((s.heap.update a (Obj.mapSeq fun _=>#[])).push (seqObj "tuple" vs.toArray 0)).push (seqObj "list" #[] 0)) fun b o hb q=>
  Heap.get?_push_of_some _ (Heap.get?_push_of_some _ (by rw[Heap.get?_update_other _ _ (Ne.symm hb)];exact q))
 have fin:∀ t:SortSt,(arrOf t).Perm (pairsOf vs)→R (.done (.ret .none)) { s with heap:=sortedHeap s.heap a vs ((arrOf t).map (·.2)) }:=fun t hp=>h _ (pairs_perm hp)
 have sz:vs.toArray.size=vs.length:=List.size_toArray
 dsimp only
 have szp:∀ t:SortSt,(arrOf t).Perm (pairsOf vs)→((arrOf t).map (·.2)).size≤sizeLine+1:=fun t hp=>by
  rw[Array.size_map,hp.size_eq,pairsOf_size,sizeLine_eq]
  omega
 by_cases c2:vs.toArray.size < 2
 ·rw[if_pos c2,if_pos c2]
  refine wpAny_bind (wpAny_pure ?_)
  rw[StateT.run_pure]
  refine wpAny_bind (wpAny_pure ?_)
  dsimp only
  refine wpAny_bind (seqEpoch_at ho6 rfl (wpAny_bind (listUpdate_at ho6 rfl ?_ (hsz2:=szp (SortSt.mk' general' (vs.toArray.zip vs.toArray) #[] 7 none) (Array.Perm.refl _)))))
  rw[if_neg (by simp)]
  exact wpAny_pure (fin (SortSt.mk' general' (vs.toArray.zip vs.toArray) #[] 7 none) (Array.Perm.refl _))
 ·rw[if_neg c2,if_neg c2]
  refine wpAny_bind (kp.kind (by omega) _ _ ?_)
  have cm:Cmp P w A { s with heap:=((s.heap.update a (Obj.mapSeq fun _=>#[])).push (seqObj "tuple" vs.toArray 0)).push (seqObj "list" #[] 0) } kd ((pairsOf vs).toList.map (·.1)):=by
   rw[pairs_fst]
   exact kp.cmp
  have run:=runs_any (E:=E) (Q:=fun _ t=>(arrOf t).Perm (pairsOf vs)∧failedOf t=none) cm (st:=SortSt.mk' kd (vs.toArray.zip vs.toArray) #[] 7 none) ⟨Array.Perm.refl _,rfl,rfl,rfl⟩ (by rw[pairsOf_size];omega) (by rw[pairsOf_size];exact h64) fun t p f=>⟨p,f⟩
  refine wpAny_bind (wpAny_mono run (fun r s' z=>?_) fun _ _ e=>e)
  obtain⟨⟨⟩,t⟩:=r
  obtain⟨rfl,hp,hf⟩:=z
  dsimp only
  refine wpAny_bind (seqEpoch_at ho6 rfl (wpAny_bind (listUpdate_at ho6 rfl ?_ (hsz2:=szp t hp))))
  rw[hf]
  dsimp only
  rw[if_neg (by simp)]
  exact wpAny_pure (fin t hp)
theorem sorted_any{l:Addr}{vs:List Value}{Q:Value→Shared→Prop}(hl:s.heap.IsList l vs.toArray)(h64:vs.length < 64)
  (hK:∀ A' h',(∀ b o,s.heap.get? b=some o→h'.get? b=some o)→Keys P w A' { s with heap:=h' } kd vs)
  (h:∀ out:Array Value,out.toList.Perm vs→Q (.ref (s.heap.objs.size+1)) { s with heap:=sortedAll s.heap vs out }):wpAny (model P w) A (call (.builtin "sorted") [.ref l]) Q E s:=by
 refine Calls.call_function_entry kind_sorted plain_sorted entry_sorted (args_sorted1 _) ?_
 unfold Builtin.«sorted»
 refine wpAny_bind (m:=checkCount "sorted" 1 1 _) (wpAny_pure (wpAny_bind (collect_list hl ?_ (by rw[sizeLine_eq];omega))))
 refine wpAny_bind (wpAny_newList ?_)
 have sz:((s.heap.push (seqObj "list" #[] 0)).update s.heap.objs.size (Obj.mapSeq (· ++ vs.toArray))).objs.size=s.heap.objs.size+1:=by rw[Heap.size_update,size_push']
 have hoL:(((s.heap.push (seqObj "list" #[] 0)).update s.heap.objs.size (Obj.mapSeq (· ++ vs.toArray))).push (seqObj "list" vs.toArray 0)).get? (s.heap.objs.size+1)=some (seqObj "list" vs.toArray 0):=sz ▸ Heap.get?_push_size _ rfl
 show wpAny _ _ _ _ _ { s with heap:=((s.heap.push (seqObj "list" #[] 0)).update s.heap.objs.size (Obj.mapSeq (· ++ vs.toArray))).push (seqObj "list" vs.toArray 0) }
 rw[sz]
 refine wpAny_bind (wpAny_holding (wpAny_call_entry slot_list_sort ⟨_,hoL,rfl⟩ entry_list_sort (sort_any (kd:=kd) hoL h64 (fun h' k=>hK _ h' fun b o q=>?_) fun out p=>⟨_,rfl,wpAny_pure ⟨_,rfl,h out p⟩⟩) (args_list_sort _)))
 have hb:b < s.heap.objs.size:=Heap.lt_size q
 refine k b o (Nat.ne_of_lt (Nat.lt_succ_of_lt hb)) (Heap.get?_push_of_some _ ?_)
 rw[Heap.get?_update_other _ _ (Nat.ne_of_lt hb).symm]
 exact Heap.get?_push_of_some _ q
end
end L2
namespace L2
open PySem PySem.Spec PyProof.Rows
theorem first_eq(v:Value):firstOfTuple' v=(do
  if(← typeOf v) != .type "tuple" then return none
  return (← Builtin.List.listItems v)[0]?):=rfl
theorem keyLt_tup(f:Bool)(x y:Value):keyLt' (tuples' f) x y=(do
  let xs ← Builtin.List.listItems x;let ys ← Builtin.List.listItems y
  for ((p,q),i) in (xs.toList.zip ys.toList).zipIdx do
   if !(← eqBool p q) then return ← oneLt' (f && i == 0) p q
  return decide (xs.size < ys.size)):=rfl
section
variable{P:Program}{w:World}{A:Around}{E:Value→Shared→Prop}{s:Shared}
theorem wp_mapM{M:Model}{β:Type}{f:Value→Sem β}{g:Value→β}:∀{vs:List Value} {Q:List β→Shared→Prop},(∀ x∈vs,∀(Q:β→Shared→Prop),Q (g x) s→wpAny M A (f x) Q E s)→Q (vs.map g) s→wpAny M A (vs.mapM f) Q E s
 | [],Q,_,h=>by
  rw[List.mapM_nil]
  exact wpAny_pure h
 | x :: r,Q,hx,h=>by
  rw[List.mapM_cons]
  exact wpAny_bind (hx x List.mem_cons_self _ (wpAny_bind (wp_mapM (fun y hy=>hx y (List.mem_cons_of_mem _ hy)) (wpAny_pure h))))
theorem lt_ints{f:Bool}{a b:Int}{t u:Tok}{Q:Bool→Shared→Prop}(h:∀ b,Q b s):wpAny (model P w) A (oneLt' f (.int a t) (.int b u)) Q E s:=by
 cases f with
 | true=>exact oneLt_int (h _)
 | false=>
  rw[oneLt'_eq]
  rw[if_neg Bool.false_ne_true]
  refine wpAny_bind (wpAny_richCompare_same (T:="int") (typeIs_int s a t) (typeIs_int s b u) slot_int_lt (call_int_lt ⟨nofun,?_⟩))
  exact wpAny_truthy_bool (h _)
def PairAt(h:Heap)(v:Value):Prop:=∃(a:Addr) (i j:Int) (t u:Tok) (o:Obj) (n:Nat),v = .ref a∧h.get? a=some o∧o.cls = .type "tuple"∧o.data = .seq #[.int i t,.int j u] n
theorem cmp_pairs{vs:List Value}(hp:∀ v∈vs,PairAt s.heap v)(f:Bool):Cmp P w A s (tuples' f) vs:=by
 intro x hx y hy E Q h
 obtain⟨a,i,j,t,u,o,n,rfl,ho,hc,hd⟩:=hp x hx
 obtain⟨a2,i2,j2,t2,u2,o2,n2,rfl,ho2,hc2,hd2⟩:=hp y hy
 rw[keyLt_tup]
 refine wpAny_bind (listItems_at ho hd (wpAny_bind (listItems_at ho2 hd2 ?_)))
 show wpAny (model P w) A (do
  let r ← forIn [((Value.int i t,Value.int i2 t2),0),((Value.int j u,Value.int j2 u2),1)] (none,()) _
  _) Q E s
 rw[List.forIn_cons]
 refine wpAny_bind (wpAny_bind ?_)
 refine wpAny_bind (wpAny_eqBool_int ?_)
 by_cases c:(i == i2)=true
 ·rw[c,if_neg (by decide)]
  refine wpAny_pure ?_
  show wpAny (model P w) A (forIn [((Value.int j u,Value.int j2 u2),1)] ((none,()):Option Bool×Unit) _) _ E s
  rw[List.forIn_cons]
  refine wpAny_bind (wpAny_bind (wpAny_eqBool_int ?_))
  by_cases d:(j == j2)=true
  ·rw[d,if_neg (by decide)]
   refine wpAny_pure ?_
   show wpAny (model P w) A (forIn [] ((none,()):Option Bool×Unit) _) _ E s
   rw[List.forIn_nil]
   exact wpAny_pure (wpAny_pure (h _))
  ·rw[Bool.eq_false_iff.mpr d,if_pos (by decide)]
   exact wpAny_bind (lt_ints fun b=>wpAny_pure (wpAny_pure (wpAny_pure (h b))))
 ·rw[Bool.eq_false_iff.mpr c,if_pos (by decide)]
  exact wpAny_bind (lt_ints fun b=>wpAny_pure (wpAny_pure (wpAny_pure (h b))))
theorem kind_pairs{vs:List Value}(hp:∀ v∈vs,PairAt s.heap v)(h2:2≤vs.length){Q:SortKind→Shared→Prop}(h:Q (tuples' true) s):wpAny (model P w) A (keyKind' vs.toArray) Q E s:=by
 rw[keyKind'_eq,List.mapM_toArray]
 obtain⟨g,hg⟩:∃ g:Value→Option Value,∀ v∈vs,∃(i:Int) (t:Tok),g v=some (.int i t)∧∀(Q:Option Value→Shared→Prop),Q (g v) s→wpAny (model P w) A (firstOfTuple' v) Q E s:=by
  have all:∀ v∈vs,∃ y:Option Value,∃(i:Int) (t:Tok),y=some (.int i t)∧∀(Q:Option Value→Shared→Prop),Q y s→wpAny (model P w) A (firstOfTuple' v) Q E s:=by
   intro v hv
   obtain⟨a,i,j,t,u,o,n,rfl,ho,hc,hd⟩:=hp v hv
   refine⟨some (.int i t),i,t,rfl,fun Q q=>?_⟩
   rw[first_eq]
   refine wpAny_bind (wpAny_typeOf (T:="tuple") ⟨o,ho,hc⟩ ?_)
   rw[if_neg (by decide)]
   exact wpAny_bind (listItems_at ho hd (wpAny_pure q))
  refine⟨fun v=>if hv:v∈vs then(all v hv).choose else none,fun v hv=>?_⟩
  dsimp only
  rw[dif_pos hv]
  exact(all v hv).choose_spec
 refine wpAny_bind ?_
 rw[map_eq_pure_bind]
 refine wpAny_bind (wp_mapM (g:=g) (fun x hx Q q=>(hg x hx).choose_spec.choose_spec.2 Q q) (wpAny_pure ?_))
 have e1:((vs.map g).toArray.all fun x=>x.isSome)=true:=by
  rw[List.all_toArray,List.all_map,List.all_eq_true]
  intro v hv
  obtain⟨i,t,e,_⟩:=hg v hv
  show(g v).isSome=true
  rw[e]
  rfl
 rw[if_pos e1]
 refine wpAny_bind (wpAny_rule (wpAny_bind ?_))
 rw[oneTypeOnly'_eq]
 have allI:∀ x∈(vs.map g).filterMap id,∃(i:Int) (t:Tok),x = .int i t:=by
  intro x hx
  obtain⟨y,hy,e⟩:=List.mem_filterMap.mp hx
  obtain⟨v,hv,rfl⟩:=List.mem_map.mp hy
  obtain⟨i,t,e2,_⟩:=hg v hv
  have e3:g v=some x:=e
  rw[e2] at e3
  cases e3
  exact⟨i,t,rfl⟩
 have ne:∃ x r,(vs.map g).filterMap id=x :: r:=by
  cases vs with
  | nil=>exact absurd h2 (by decide)
  | cons v r=>
   obtain⟨i,t,e2,_⟩:=hg v List.mem_cons_self
   refine⟨.int i t,(r.map g).filterMap id,?_⟩
   rw[List.map_cons,List.filterMap_cons]
   rw[e2]
   rfl
 have ea:(Array.filterMap id (vs.map g).toArray)=((vs.map g).filterMap id).toArray:=by simp
 rw[ea]
 generalize (vs.map g).filterMap id=zs at allI ne
 obtain⟨x,r,rfl⟩:=ne
 refine wpAny_bind ?_
 rw[List.mapM_toArray,map_eq_pure_bind]
 refine wpAny_bind (wp_mapM (g:=fun _=>Value.type "int") (fun y hy Q q=>?_) (wpAny_pure ?_))
 ·obtain⟨i,t,rfl⟩:=allI y hy
  exact wpAny_typeOf (typeIs_int s i t) q
 ·have hall:(((x :: r).map fun _=>Value.type "int").toArray.all fun y=>y == Value.type "int")=true:=by
   rw[List.all_toArray,List.all_map,List.all_eq_true]
   intro _ _
   rfl
  have h0:((x :: r).map fun _=>Value.type "int").toArray[0]? = some (Value.type "int"):=rfl
  rw[h0]
  dsimp only
  rw[hall]
  exact wpAny_pure (wpAny_pure h)
theorem keys_pairs{vs:List Value}(hp:∀ v∈vs,PairAt s.heap v):Keys P w A s (tuples' true) vs:=⟨fun h2 E Q q=>kind_pairs hp h2 q,cmp_pairs hp true⟩
end
theorem call_sorted2{X:Cx}:CallR X (.builtin "sorted") (fun xs H Q=>∃(a:Addr) (ps:List Addr),xs=[.ref a]∧SqL X.K H a (ps.map V.ref)∧ps.length < 64∧(∀ p∈ps,∃ i j:Int,SqT X.K H p [.int i,.int j]) ∧
  ∀(l:Addr) (qs:List Addr),H l=none→qs.Perm ps→Q (.ref l) (upd H l (.lst (qs.map V.ref)))):=by
 intro pins s σ H xs us Q I r h
 obtain⟨a,ps,rfl,hS,h64,hP,q⟩:=h
 obtain⟨u,rfl,ru⟩:=vals1 r
 cases ru
 obtain⟨its,vi,pl,hz⟩:=I.list hS
 have ei:∀(ps:List Addr) (its:List Value),Vals (ps.map V.ref) its→its=ps.map Value.ref:=by
  intro ps
  induction ps with
  | nil=>intro its z;cases z;rfl
  | cons p r ih=>
   intro its z
   cases z with
   | cons z1 z2=>
    have e:_=Value.ref p:=z1
    rw[e,ih _ z2]
    rfl
 have e:=ei ps its vi
 subst e
 have pairs:∀ v∈ps.map Value.ref,PairAt s.heap v:=by
  intro v hv
  obtain⟨p,hp,rfl⟩:=List.mem_map.mp hv
  obtain⟨i,j,hT⟩:=hP p hp
  obtain⟨its2,v2,⟨o,ho,hc,n,hd⟩,_⟩:=I.tuple hT
  cases v2 with
  | cons a1 a2=>
   cases a2 with
   | cons b1 b2=>
    cases b2
    obtain⟨t,rfl⟩:=a1
    obtain⟨u,rfl⟩:=b1
    exact⟨p,i,j,t,u,o,n,rfl,ho,hc,hd⟩
 refine sorted_any (kd:=tuples' true) (isL_of pl) (by rw[List.length_map];exact h64) (fun A' h' k=>keys_pairs fun v hv=>?_) fun out hp=>?_
 ·obtain⟨p,i,j,t,u,o,n,rfl,ho,hc,hd⟩:=pairs v hv
  exact⟨p,i,j,t,u,o,n,rfl,k _ _ ho,hc,hd⟩
 ·obtain⟨qs,eq,pq⟩:∃ qs:List Addr,out.toList=qs.map Value.ref∧qs.Perm ps:=by
   have un:∀ l:List Value,(∀ v∈l,∃ p,v=Value.ref p)→∃ qs:List Addr,l=qs.map Value.ref:=by
    intro l
    induction l with
    | nil=>intro _;exact⟨[],rfl⟩
    | cons v r ih=>
     intro hv
     obtain⟨p,rfl⟩:=hv v List.mem_cons_self
     obtain⟨qs,rfl⟩:=ih fun y hy=>hv y (List.mem_cons_of_mem _ hy)
     exact⟨p :: qs,rfl⟩
   obtain⟨qs,e⟩:=un out.toList fun v hv=>by
    obtain⟨p,_,rfl⟩:=List.mem_map.mp (hp.mem_iff.mp hv)
    exact⟨p,rfl⟩
   refine⟨qs,e,?_⟩
   rw[e] at hp
   have z:=hp.map fun v=>match v with | .ref p=>p | _=>0
   rw[List.map_map,List.map_map] at z
   have c:((fun v=>match v with | .ref p=>p | _=>0) ∘ Value.ref:Addr→Addr)=id:=rfl
   rwa [c,List.map_id,List.map_id] at z
  obtain⟨e,he⟩:=sortedAll_at s.heap (ps.map Value.ref) out
  have hf:H (s.heap.objs.size+1)=none:=I.hok.fresh (Nat.le_succ _)
  have vq:∀ qs:List Addr,Vals (qs.map V.ref) (qs.map Value.ref):=by
   intro qs
   induction qs with
   | nil=>exact .nil
   | cons p r ih=>exact .cons rfl ih
  refine⟨.ref (s.heap.objs.size+1),upd H (s.heap.objs.size+1) (.lst (qs.map V.ref)),I.laid (t':=s.toks) (fun b u q=>sortedAll_old q) (Nat.le_succ _) ⟨?_,qs.map Value.ref,e,vq qs,?_⟩,rfl,q _ qs hf pq⟩
  ·rw[List.length_map,pq.length_eq,sizeLine_eq]
   omega
  ·rw[he,← eq]
end L2
namespace L2
open PySem PySem.Spec PyProof.Rows
section
variable{X:Cx}
theorem call_sum(hc:X.calm=true):CallR X (.builtin "sum") (fun xs H Q=>∃(a:Addr) (ns:List Int),xs=[.ref a]∧SqL X.K H a (ns.map V.int)∧Q (.int ns.sum) H):=by
 intro pins s σ H xs us Q I r h
 obtain⟨a,ns,rfl,hS,q⟩:=h
 obtain⟨u,rfl,ru⟩:=vals1 r
 cases ru
 obtain⟨its,vi,pl,hz⟩:=I.list hS
 have hi:=intsAre_of vi
 obtain⟨xs,hx⟩:=hi.allInts.items
 have hl:s.heap.IsList a (intItems xs):=hx ▸ isL_of pl
 refine sum_intListG (I.ok.hd hc) hl fun h' tk t' hk=>?_
 have e1:ns=xs.toList.map (·.1):=by
  rw[← nums_intItems,← hx]
  exact hi.numsOf.symm
 have e2:preSum (numAt xs) xs.size=ns.sum:=by
  rw[e1,preSum_eq,List.take_of_length_le (by simp)]
 rw[e2]
 exact⟨.int ns.sum,H,I.kept hk,⟨_,rfl⟩,q⟩
theorem psx_expr{e:Expr}{te:XK→TE}{pos:Pos}(he:PEX X e te)(hs:swapsWith e none pos.line X.env=pure false:=by rfl):PSX X [.Expr e pos] (fun Ex=>tDrop (te Ex)):=by
 intro pins s σ H D Ex I h
 exact wpAny_execs_cons (wpAny_Expr_any (thn (he pins s σ H _ Ex I h) fun v s1 ⟨x,H1,I1,r1,q1⟩=>wpAny_execs_nil ⟨σ,H1,I1,q1⟩) I.quiet hs)
end
section
variable{X:Cx}
end
end L2
namespace L2
open PySem PySem.Spec PyProof.Rows
section
open PySem.SeqAt
open PySem.AutoSeq1 (wpAny_loadPart')
open PySem.MeetsSeq PySem.MeetsSeq2 PySem.MeetsSeq3
end
section
variable{X:Cx}
end
end L2
namespace L2
open PySem PySem.Spec PyProof.Rows
end L2
namespace L2
open PySem PySem.Spec PyProof.Rows
section
variable{X:Cx}{pins:List (Addr×Obj)}{σ:St}{H:Hp}{s:Shared}
end
section
variable{X:Cx}
theorem call_maxL(hc:X.calm=true):CallR X (.builtin "max") (fun xs H Q=>∃(a:Addr) (ns:List Int),xs=[.ref a]∧SqL X.K H a (ns.map V.int)∧0 < ns.length∧∀ M,M∈ns→(∀ k∈ns,k≤M)→Q (.int M) H):=by
 intro pins s σ H xs us Q I r h
 obtain⟨a,ns,rfl,hS,hn,q⟩:=h
 obtain⟨u,rfl,ru⟩:=vals1 r
 cases ru
 obtain⟨its,vi,pl,hz⟩:=I.list hS
 have hi:=intsAre_of vi
 obtain⟨xs,hx⟩:=hi.allInts.items
 have hl:s.heap.IsList a (intItems xs):=hx ▸ isL_of pl
 have hns:ns=xs.toList.map (·.1):=by
  rw[← nums_intItems,← hx]
  exact hi.numsOf.symm
 have hsz:0 < xs.size:=by
  rw[hns,List.length_map,Array.length_toList] at hn
  exact hn
 refine max_intList (I.ok.hd hc) hl hsz fun v h' tk hv hk=>?_
 obtain⟨t,rfl⟩:=intItems_at hv
 obtain⟨g1,g2⟩:=argBest_gt (numAt xs) (xs.size - 1)
 refine⟨.int _,H,I.kept hk,⟨_,rfl⟩,q _ ?_ fun k hk'=>?_⟩
 ·rw[hns,numAt_eq]
  exact getD_mem (by rw[List.length_map,Array.length_toList];omega)
 ·rw[hns] at hk'
  obtain⟨j,hj,rfl⟩:=mem_getD hk'
  rw[List.length_map,Array.length_toList] at hj
  rw[← numAt_eq]
  exact g2 j (by omega)
theorem mt_index:MtR X "list.index" (fun x xs H Q=>∃(a:Addr) (k:Int) (ns:List Int) (j:Nat),x = .ref a∧xs=[.int k]∧SqL X.K H a (ns.map V.int)∧ns.length≤1000∧ns[j]? = some k∧(∀ m < j,ns[m]?≠some k)∧Q (.int (j:Nat)) H):=by
 intro pins s σ H x xs v us Q I rx rv h
 obtain⟨a,k,ns,j,rfl,rfl,hS,hl,hj,hno,q⟩:=h
 cases rx
 obtain⟨u,rfl,t,rfl⟩:=vals1 rv
 obtain⟨its,vi,pl,hz⟩:=I.list hS
 have hi:=intsAre_of vi
 obtain⟨⟨cls,dd,data,sl⟩,ho,hc,n,hd⟩:=isL_of pl
 simp only at hc hd
 subst hc hd
 have len:its.length=ns.length:=hi.length
 have at_:∀ m (hm:m < its.toArray.size),isInt k its.toArray[m]=decide (ns[m]? = some k):=fun m hm=>by
  have hm':m < ns.length:=by rw[← len];simpa using hm
  obtain⟨t0,e0⟩:=PyProof.Rows.IntsAre.get hi m ns[m] (List.getElem?_eq_getElem hm')
  have e1:its.toArray[m] = .int ns[m] t0:=by
   have hm2:m < its.length:=by simpa using hm
   have e2:its[m]? = some its[m]:=List.getElem?_eq_getElem hm2
   have e3:its[m] = .int ns[m] t0:=by
    rw[e0] at e2
    exact(Option.some.inj e2).symm
   simpa using e3
  rw[e1,List.getElem?_eq_getElem hm']
  show(_ == _)=_
  by_cases c:ns[m]=k
  ·rw[c]
   simp
  ·have c2:¬ k=ns[m]:=fun z=>c z.symm
   simp [c,c2]
 have jl:j < its.toArray.size:=by
  have:=(List.getElem?_eq_some_iff.mp hj).1
  simp [len,this]
 refine call_meets PySem.F.slot_list_index ⟨_,ho,rfl⟩ PySem.F.entry_list_index (PySem.F.args_list_index_2 _ _) (PySem.SeqAt.list_indexAt a its.toArray n dd sl (.int k t) (isInt k) j jl ?_ ?_ ?_) ⟨ho,fun y hy=>(eq_isInt k t hi y (by simpa using hy)).at _ _,⟨.int (j:Nat),H,I.tok _,⟨_,rfl⟩,q⟩⟩
 ·have:ns.length≤1000:=hl
  have:=(List.getElem?_eq_some_iff.mp hj).1
  omega
 ·rw[at_ j jl,hj]
  exact decide_eq_true rfl
 ·intro m hm hmj
  rw[at_ m hm]
  exact decide_eq_false (hno m hmj)
end
end L2
namespace L2
open PySem PySem.Spec PyProof.Rows
end L2
namespace L2
open PySem PySem.Spec PyProof.Rows
section
open PySem.SeqAt
open PySem.AutoSeq1 (wpAny_loadPart')
open PySem.MeetsSeq PySem.MeetsSeq2 PySem.MeetsSeq3
end
section
variable{X:Cx}
def eqVs:List V→List V→Bool
 | [],[]=>true
 | x :: xs,y :: ys=>eqV x y && eqVs xs ys
 | _,_=>false
theorem eqVs_all:∀(xs ys:List V),((List.range (min xs.length ys.length)).all (fun j=>eqV (xs.getD j .non) (ys.getD j .non)) && xs.length == ys.length)=eqVs xs ys
 | [],[]=>rfl
 | [],_ :: _=>rfl
 | _ :: _,[]=>rfl
 | x :: xs,y :: ys=>by
  have e:min (x :: xs).length (y :: ys).length=min xs.length ys.length+1:=by simp only[List.length_cons];omega
  rw[e,List.range_succ_eq_map,List.all_cons,List.all_map]
  show _=(eqV x y && eqVs xs ys)
  rw[← eqVs_all xs ys,Bool.and_assoc]
  have e2:((x :: xs).length == (y :: ys).length)=(xs.length == ys.length):=by simp
  rw[e2]
  rfl
theorem flat_at{xs:List V}{us:List Value}(r:Vals xs us)(f:xs.all flatV=true){j:Nat}(h:j < us.toArray.size):RelV (xs.getD j .non) us.toArray[j]∧flatV (xs.getD j .non)=true:=by
 have hj:j < us.length:=by simpa using h
 have hx:j < xs.length:=by rw[r.length];exact hj
 obtain⟨u,e,ru⟩:=r.get (List.getElem?_eq_getElem hx)
 rw[List.getElem?_eq_getElem hj] at e
 have g:xs.getD j .non=xs[j]:=by rw[List.getD_eq_getElem?_getD,List.getElem?_eq_getElem hx];rfl
 rw[g]
 have eu:us[j]=u:=Option.some.inj e
 refine⟨?_,List.all_eq_true.mp f _ (List.getElem_mem hx)⟩
 show RelV xs[j] us.toArray[j]
 rw[List.getElem_toArray,eu]
 exact ru
def rEqF(K:PySem.W.Frag)(tup neg:Bool):R2:=fun x y H Q=>∃(a b:Addr) (xs ys:List V),x = .ref a∧y = .ref b∧(if tup then SqT K H a xs∧SqT K H b ys else SqL K H a xs∧SqL K H b ys)∧xs.all flatV=true∧ys.all flatV=true∧Q (.bl (if neg then !eqVs xs ys else eqVs xs ys)) H
theorem op_neFT(hu:X.A.units+64 < cLine):OpR X (compareOp .NotEq) (rEqF X.K true true):=by
 intro pins s σ H x y v u Q I rx ry h
 obtain⟨a,b,xs,ys,rfl,rfl,⟨ha,hb⟩,fx,fy,q⟩:=h
 cases rx
 cases ry
 obtain⟨its,r1,p1,_⟩:=I.tuple ha
 obtain⟨its2,r2,p2,_⟩:=I.tuple hb
 refine SeqAt.RcNeAt.tuples (e:=fun j=>eqV (xs.getD j .non) (ys.getD j .non)) p1 p2 (by omega) (fun j h1 h2=>eqAt_V (flat_at r1 fx h1).1 (flat_at r2 fy h2).1 (flat_at r1 fx h1).2 (flat_at r2 fy h2).2) _ _ _ _ ⟨.bl _,H,I,rfl,?_⟩
 have z:=eqVs_all xs ys
 rw[r1.length,r2.length] at z
 rw[List.size_toArray,List.size_toArray,z]
 exact q
theorem eqVs_len:∀{xs ys:List V},xs.length≠ys.length→eqVs xs ys=false
 | [],[],h=>absurd rfl h
 | [],_ :: _,_=>rfl
 | _ :: _,[],_=>rfl
 | x :: xs,y :: ys,h=>by
  show(eqV x y && eqVs xs ys)=false
  rw[eqVs_len (xs:=xs) (ys:=ys) (fun z=>h (by simp [z])),Bool.and_false]
theorem op_neFL(hu:X.A.units+64 < cLine):OpR X (compareOp .NotEq) (rEqF X.K false true):=by
 intro pins s σ H x y v u Q I rx ry h
 obtain⟨a,b,xs,ys,rfl,rfl,⟨ha,hb⟩,fx,fy,q⟩:=h
 cases rx
 cases ry
 obtain⟨its,r1,p1,_⟩:=I.list ha
 obtain⟨its2,r2,p2,_⟩:=I.list hb
 by_cases e:xs.length=ys.length
 ·refine SeqAt.RcNeAt.lists (e:=fun j=>eqV (xs.getD j .non) (ys.getD j .non)) p1.isList p2.isList (by simp [← r1.length,← r2.length,e]) (by omega) (fun j h1 h2=>eqAt_V (flat_at r1 fx h1).1 (flat_at r2 fy h2).1 (flat_at r1 fx h1).2 (flat_at r2 fy h2).2) _ _ _ _ ⟨.bl _,H,I,rfl,?_⟩
  have z:=eqVs_all xs ys
  rw[e,Nat.min_self,beq_self_eq_true,Bool.and_true,← e,r1.length] at z
  rw[List.size_toArray,z]
  exact q
 ·refine SeqAt.RcNeAt.lists_lengths p1.isList p2.isList (by simp [← r1.length,← r2.length,e]) (by omega) _ _ _ _ ⟨.bl true,H,I,rfl,?_⟩
  have q':Q (.bl (!eqVs xs ys)) H:=q
  rw[eqVs_len e] at q'
  exact q'
end
theorem Same.seqT{K:PySem.W.Frag}{H H':Hp}{a:Addr}{xs:List V}(e:Same H H')(h:SqT K H a xs):SqT K H' a xs:=by
 rcases h with(h | ⟨o,h⟩) | h
 ·exact .inl (.inl (e _ _ h))
 ·exact .inl (.inr ⟨o,e _ _ h⟩)
 ·exact .inr h
end L2
namespace L2
open PySem PySem.Spec PyProof.Rows
end L2
namespace L2
open PySem PySem.Spec PyProof.Rows
structure Mk0(K:PySem.W.Frag)(C:Addr):Prop where
 makes:PySem.W.makesIn K C=true
 init:PySem.W.findIn K (.ref C) "__init__" = some (some (.builtin "object.__init__"))
 kp:PySem.W.keepIn K (.ref C)=true
def tMake0(C:Addr):TE:=fun σ H Q=>∀ x dx,H x=none→H dx=none→dx≠x→Q (.ref x) (upd (upd H dx (.own x)) x (.ins C dx []))
section
variable{X:Cx}{CX:CXT}{k:Nat}{C:Addr}{E:XK}{x m:Str}{p pos apos:Pos}{e o:Expr}{es:List Expr}{ta:TE}{t:TA}
theorem run_make0{pins:List (Addr×Obj)}{σ:St}{H:Hp}{s:Shared}{Q:VK}(M:Mk0 X.K C)(I:Inv X pins σ H s)
  (h:∀ x dx,H x=none→H dx=none→dx≠x→Q (.ref x) (upd (upd H dx (.own x)) x (.ins C dx []))) :
  wpAny (model X.prog X.w) X.A (call (.ref C) []) (EP X pins σ Q) X.xe s:=by
 have hq:=h (s.heap.objs.size+1) s.heap.objs.size (I.hok.fresh (Nat.le_succ _)) (I.hok.fresh (Nat.le_refl _)) (Nat.ne_of_lt (Nat.lt_succ_self _))
 have I2:=Inv.made (C:=C) I
 have Y:=PySem.W.makes_of (M:=model X.prog X.w) I.kIn M.makes
 refine wpAny_call (make_map0 I.kIn M.makes M.init (fun self=>PySem.W.Looks.of_pure (PySem.W.oi_bind self)) ?_)
 obtain⟨hh,g,d,tk,os⟩:=s
 have hx:((hh.push PySem.W.emptyDict).push (PySem.W.instObj C hh.objs.size)).get? (hh.objs.size+1)=some (PySem.W.instObj C hh.objs.size):=by heap_get
 have t1:PySem.W.Looks (model X.prog X.w) ((hh.push PySem.W.emptyDict).push (PySem.W.instObj C hh.objs.size)) (typeOf (.ref (hh.objs.size+1))) (.ref C):=(PySem.W.Looks.ld hx).andThen .now
 have t2:PySem.W.Looks (model X.prog X.w) ((hh.push PySem.W.emptyDict).push (PySem.W.instObj C hh.objs.size)) (isInstance (.ref (hh.objs.size+1)) (.type "object")) true:=t1.andThen (Y.top.keeps fun b o e=>Heap.get?_push_of_some _ (Heap.get?_push_of_some _ e))
 refine codeAny_call_builtin PySem.W.oi_plain PySem.W.entry_oi (@PySem.W.check_slot (model X.prog X.w) _ _ _ "object.__init__" "object" "__init__" (.ref (hh.objs.size+1)) [] [] _ PySem.W.oi_kind PySem.W.oi_split t2 (PySem.W.oi_args (.ref (hh.objs.size+1))) ?_)
 rw[PySem.W.oi_run]
 exact wpAny_pure (And.intro rfl ⟨.ref (hh.objs.size+1),_,I2,rfl,hq⟩)
theorem pe_makeO(M:Mk0 X.K C)(hg:Gl X x)(hm:X.mg x=some (.ref C))(hdb:(x == ("__debug__":Str))=false:=by decide):PE X (.Call (.Name x p) [] [] pos) (tMake0 C):=by
 intro pins s σ H Q I h
 refine wpAny_Call_Name_kw (ld_glob I hg hm ?_ hdb)
 exact PySem.W.callWith_K0 I.kIn M.kp (run_make0 M I h)
structure MethF(P:Program)(w:World)(K:PySem.W.Frag)(mg:Str→Option Value)(base:Heap)(CX:CXT)(k:Nat)(ι:Type)(m:Str)(ps:List Str)(sp:ι→Sp)(cs:ι→Addr)(f:ι→Addr)(fd:ι→FuncData):Prop where
 c:∀ i,Cls K (cs i)
 hm:∀ i,Meth K (cs i) m (f i)
 F:∀ i,FnOk P w K mg base CX k (f i) (fd i) ps (sp i)
 hb:∀ i,Binds K (fd i) ps []
def tMethF{ι:Type}(m:Str)(sp:ι→Sp)(cs:ι→Addr)(E:XK)(ta:TE)(t:TA):TE:=fun σ H Q=>ta σ H fun x H1=>∃ i a dx fs,x = .ref a∧H1 a=some (.ins (cs i) dx fs)∧fs.lookup m=none∧t σ H1 fun vs H2=>sp i (x :: vs) H2 Q E
theorem pe_methF{ι:Type}{ps:List Str}{sp:ι→Sp}{cs f:ι→Addr}{fd:ι→FuncData}{pl:Sem Bool}(he:PE X o ta)(M:MethF X.prog X.w X.K X.mg X.base CX k ι m ps sp cs f fd)(hr:Room k X.A)(hx:Passes CX X E)(ha:PA X (e :: es) t)
  (hst:starEach (e :: es) X.env=(false,eval e X.env) :: starEach es X.env:=by rfl) (hpl:(backTo pos (starEach es X.env)).any (·.1)=false:=by rfl)
  (ht:eval (.Call (.Attribute o m apos) (e :: es) [] pos) X.env=(do
   let ov ← eval o X.env
   standAt apos.atName
   let (f,first) ← holding [ov] (getMethod ov m pl)
   callWith pos f first (backTo pos (starEach (e :: es) X.env)) (backToKw pos (keywordEach [] X.env))):=by rfl) :
  PE X (.Call (.Attribute o m apos) (e :: es) [] pos) (tMethF m sp cs E ta t):=by
 intro pins s σ H Q I h
 refine PySem.W.methodCall_KW (pl:=pl) (thn (he pins s σ H _ I h) fun u s1 ⟨x,H1,I1,rx,i,a,dx,fs,ex,ea,l,q⟩=>?_) ht
 subst ex
 obtain rfl:u=Value.ref a:=rx
 refine getmeth_ok I1 ea (M.c i) (M.hm i) l ?_
 refine PySem.W.callWith_K (first:=[.ref a]) (h₀:=X.base) I.ok.mod.kin (M.hm i).kp (thn (ha pos pins s1 σ H1 _ I1 q) fun us s2 ⟨vs,H2,I2,r,q2⟩=>⟨I2.kIn,?_⟩) hst hpl
 exact run_fn (us:=.ref a :: us) (vs:=.ref a :: vs) (dvs:=[]) (M.F i) hr (M.hb i) .nil hx I2 (.cons rfl r) (by rw[List.append_nil];exact q2)
theorem pe_methF0{ι:Type}{ps:List Str}{sp:ι→Sp}{cs f:ι→Addr}{fd:ι→FuncData}{pl:Sem Bool}(he:PE X o ta)(M:MethF X.prog X.w X.K X.mg X.base CX k ι m ps sp cs f fd)(hr:Room k X.A)(hx:Passes CX X E)
  (ht:eval (.Call (.Attribute o m apos) [] [] pos) X.env=(do
   let ov ← eval o X.env
   standAt apos.atName
   let (f,first) ← holding [ov] (getMethod ov m pl)
   callWith pos f first (backTo pos (starEach [] X.env)) (backToKw pos (keywordEach [] X.env))):=by rfl) :
  PE X (.Call (.Attribute o m apos) [] [] pos) (tMethF m sp cs E ta tNil):=by
 intro pins s σ H Q I h
 refine PySem.W.methodCall_KW (pl:=pl) (thn (he pins s σ H _ I h) fun u s1 ⟨x,H1,I1,rx,i,a,dx,fs,ex,ea,l,q⟩=>?_) ht
 subst ex
 obtain rfl:u=Value.ref a:=rx
 refine getmeth_ok I1 ea (M.c i) (M.hm i) l ?_
 exact PySem.W.callWith_K0 (first:=[.ref a]) I1.kIn (M.hm i).kp (run_fn (us:=[.ref a]) (vs:=[.ref a]) (dvs:=[]) (M.F i) hr (M.hb i) .nil hx I1 (.cons rfl .nil) q)
end
end L2
namespace My
open PySem L2
theorem cut_if{c:Bool}{t u:TS}{D:Ends}{σ:St}{H:Hp}(Pv:St→Hp→Prop)(h1:c=true→∀ D':Ends,D'.rt=D.rt→(∀ σ H,Pv σ H→D'.nx σ H)→t D' σ H)
  (h2:c=false→∀ D':Ends,D'.rt=D.rt→(∀ σ H,Pv σ H→D'.nx σ H)→u D' σ H) (h3:∀ σ H,Pv σ H→D.nx σ H):if c=true then t D σ H else u D σ H:=by
 cases c with
 | true=>exact iteT (h1 rfl D rfl h3)
 | false=>exact iteF (h2 rfl D rfl h3)
theorem pickA{α:Type}(xs:List α)(m:Int)(hm:m=(xs.length:Int))(h0:0 < xs.length)(z:Int):∃ v,v∈xs∧atI xs (z % m)=some v:=by
 subst hm
 have a0:0≤z % (xs.length:Int):=Int.emod_nonneg _ (by omega)
 have a1:z % (xs.length:Int) < xs.length:=Int.emod_lt_of_pos _ (by omega)
 obtain⟨k,hk⟩:=Int.eq_ofNat_of_zero_le a0
 rw[hk] at a1 ⊢
 have hk':k < xs.length:=by omega
 exact⟨xs[k],List.getElem_mem hk',atI_nat (List.getElem?_eq_getElem hk')⟩
theorem str_app_len(i j:Str):(i++j).length=i.length+j.length:=by
 show(i.cps++j.cps).size=_
 rw[Array.size_append]
 rfl
theorem app_le{i j:Str}{a b:Nat}(h1:i.length≤a)(h2:j.length≤b):(i++j).length≤a+b:=by rw[str_app_len];omega
theorem fitsAB{i j:Str}{a b:Nat}(h1:i.length≤a)(h2:j.length≤b)(h:a+b≤1000):i.length+j.length≤sizeLine:=by rw[sizeLine_eq];omega
theorem fits3(n:Nat)(h:n≤1000):n≤sizeLine:=by rw[sizeLine_eq];omega
theorem all_nil{α:Type}{p:α→Prop}:∀ x∈([]:List α),p x:=fun _ h=>nomatch h
theorem all_cons{α:Type}{p:α→Prop}{a:α}{l:List α}(h:p a)(r:∀ x∈l,p x):∀ x∈a :: l,p x:=fun x hx=>by
 rcases List.mem_cons.mp hx with e | e
 ·rw[e];exact h
 ·exact r x e
theorem item_at{ns:List Int}{k:Int}(h:0 < ns.length):∃ v:Int,atI (ns.map V.int) (k % (((ns.map V.int).length:Nat):Int))=some (.int v):=by
 obtain⟨v,hv,e⟩:=pickA (ns.map V.int) _ rfl (by rw[List.length_map];exact h) k
 obtain⟨n,_,rfl⟩:=List.mem_map.mp hv
 exact⟨n,e⟩
section
variable{P:Program}{w:World}{K:PySem.W.Frag}{mg:Str→Option Value}{base:Heap}
structure Lib(P:Program)(w:World)(K:PySem.W.Frag)(mg:Str→Option Value)(base:Heap)(k:Nat)(x:Str)(ps:List Str)(sp:Sp)(f:Addr)(fd:FuncData):Prop where
 ok:FnOk P w K mg base CX0 k f fd ps sp
 bd:Binds K fd ps []
 kp:PySem.W.keepIn K (.ref f)=true
 mg:mg x=some (.ref f)
structure LibX(P:Program)(w:World)(K:PySem.W.Frag)(mg:Str→Option Value)(base:Heap)(k:Nat)(x:Str)(ps:List Str)(sp:Sp)(f:Addr)(fd:FuncData):Prop where
 ok:FnOk P w K mg base (CX1 P w) k f fd ps sp
 bd:Binds K fd ps []
 kp:PySem.W.keepIn K (.ref f)=true
 mg:mg x=some (.ref f)
end
end My
namespace My
open PySem L2
def p4{α:Type}(a b c d:α):Fin 4→α:=fun i=>match i with | 0=>a | 1=>b | 2=>c | 3=>d
def wd:Fin 4→Str:=p4 "free" "follow" "cut" "beat"
def wds:List Str:=["free","follow","cut","beat"]
theorem wd_at(i:Fin 4):wds[i.val]? = some (wd i):=match i with | 0=>rfl | 1=>rfl | 2=>rfl | 3=>rfl
theorem wd_mem{t:Str}(h:t∈wds):∃ i,t=wd i:=by
 rcases List.mem_cons.mp h with h | h
 ·exact⟨0,h⟩
 rcases List.mem_cons.mp h with h | h
 ·exact⟨1,h⟩
 rcases List.mem_cons.mp h with h | h
 ·exact⟨2,h⟩
 rcases List.mem_cons.mp h with h | h
 ·exact⟨3,h⟩
 ·exact nomatch h
theorem mem_wd(i:Fin 4):wd i∈wds:=List.mem_of_getElem? (wd_at i)
theorem wd_inj:∀ i j:Fin 4,wd i=wd j→i=j:=by decide +kernel
theorem wd_len:∀ i:Fin 4,3≤(wd i).length∧(wd i).length≤6:=by decide +kernel
section
variable{P:Program}{w:World}{K:PySem.W.Frag}{mg:Str→Option Value}{base:Heap}{f g:Addr}{fd gd:FuncData}
def spWord(i:Fin 4):Sp:=fun vs H Q _=>∃ a,vs=[.ref a]∧Q (.str (wd i)) H
abbrev WordF(P:Program)(w:World)(K:PySem.W.Frag)(mg:Str→Option Value)(base:Heap)(k:Nat)(cs f:Fin 4→Addr)(fd:Fin 4→FuncData):Prop:=MethF P w K mg base CX0 k (Fin 4) "word" ["self"] spWord cs f fd
def spDuty(cs:Fin 4→Addr)(CN:Addr):Sp:=fun vs H Q E=>∃ t:Str,vs=[.str t]∧(∀ i,t=wd i→∀ x dx H',Same H H'→H x=none→H' x=some (.ins (cs i) dx [])→Q (.ref x) H')∧(t∉wds→∀ H',Same H H'→E (.ref CN) none H')
structure DutyC(K:PySem.W.Frag)(mg:Str→Option Value)(cs:Fin 4→Addr)(CN:Addr):Prop where
 mF:mg "Free" = some (.ref (cs 0))
 mL:mg "Follow" = some (.ref (cs 1))
 mC:mg "Cut" = some (.ref (cs 2))
 mB:mg "Beat" = some (.ref (cs 3))
 mak:∀ i,Mk0 K (cs i)
 mN:mg "NoTable" = some (.ref CN)
 hN:PySem.W.excIn K CN veTail "ValueError.__new__" = true
theorem same_make{H:Hp}{x dx:Addr}{o:HO}(hx:H x=none)(hd:H dx=none)(n:dx≠x):Same H (upd (upd H dx (.own x)) x o):=fun b u q=>by
 rw[upd_ne (ne_of_none q hx),upd_ne (ne_of_none q hd)]
 exact q
theorem ok_word{st:Stmt}{qual wx:Str}{k:Nat}{sp:Sp}(F:Fun K "word" qual st f fd)(sc:FnScope ["self"] ["self"] (defScope st)){p1 p2:Pos}{j:Nat}(hb:defBody st=[.Return (some (.Constant (.str wx) j p1)) p2])(hs:∀ vs H Q E,sp vs H Q E→∃ a,vs=[V.ref a]∧Q (.str wx) H):FnOk P w K mg base CX0 (k+1) f fd ["self"] sp:=by
 refine F.ok sc (fun vs H Q E h=>?_) (fun cdv A outer s H vs Q E hr h=>?_)
 ·obtain⟨a,rfl,_⟩:=hs vs H Q E h
  rfl
 obtain⟨a,rfl,q⟩:=hs vs H Q E h
 rw[hb]
 exact⟨_,pss_one (ps_ret pe_str),q⟩
end
end My
namespace My
open PySem L2
abbrev sLet:Str:="abcd"
abbrev sFig:Str:="12345678"
theorem fig_mem(c:Nat):c∈sFig.cps.toList↔49≤c∧c≤56:=by
 have e:sFig.cps.toList=[49,50,51,52,53,54,55,56]:=by decide +kernel
 rw[e]
 simp only[List.mem_cons,List.not_mem_nil,or_false]
 omega
theorem find_fig(c:Nat):Txt.find sFig ⟨#[c]⟩=if 49≤c∧c≤56 then((c - 49:Nat):Int) else -1:=by
 by_cases h:49≤c∧c≤56
 ·rw[if_pos h]
  have h4:c=49∨c=50∨c=51∨c=52∨c=53∨c=54∨c=55∨c=56:=by omega
  rcases h4 with rfl | rfl | rfl | rfl | rfl | rfl | rfl | rfl<;>decide +kernel
 ·rw[if_neg h]
  have e:=PyProof.Rows.empty_one sFig c
  rw[decide_eq_false (fun z=>h ((fig_mem c).mp z))] at e
  unfold Txt.find
  cases q:Builtin.Str.occurrences sFig ⟨#[c]⟩ 0 sFig.length 1 with
  | nil=>rfl
  | cons a b=>rw[q] at e;cases e
end My
namespace L2
open PySem PySem.Spec PyProof.Rows
section
variable{prog:Program}{w:World}{A:Around}{E:Value→Shared→Prop}{s:Shared}
theorem IsList.ext{h h':Heap}{l:Addr}{items:Array Value}(x:h.IsList l items)(e:∀ o,h.get? l=some o→h'.get? l=some o):h'.IsList l items:=let ⟨o,ho,r⟩:=x;⟨o,e _ ho,r⟩
theorem draw_list{it t:Addr}{items:Array Value}(hne:t≠it):∀(n i:Nat) (s:Shared) (Q:List Value→Shared→Prop),s.heap.IsListIter it t i→s.heap.IsList t items→i+n≤items.size →
  (∀ h',h'.IsListIter it t (i+n)→Heap.SameBut it s.heap h'→Q ((items.toList.drop i).take n) { s with heap:=h' })→wpAny (model prog w) A (draw (.ref it) n) Q E s
 | 0,i,s,Q,hit,_,_,hQ=>by
  show wpAny _ _ (pure []) Q E s
  exact wpAny_pure (by simpa using hQ s.heap hit (Heap.SameBut.refl ..))
 | n+1,i,s,Q,hit,ht,hle,hQ=>by
  have hlt:i < items.size:=by omega
  show wpAny _ _ (pyNext (.ref it) >>= _) Q E s
  refine wpAny_bind (wpAny_pyNext_list_item hit ht (x:=items[i]) (by simp [hlt]) fun h₁ hit₁ hs₁=>?_)
  refine wpAny_bind (wpAny_holding (draw_list hne n (i+1) _ _ hit₁ (IsList.ext ht fun o e=>hs₁.extBut t o hne e) (by omega) fun h₂ hit₂ hs₂=>wpAny_pure ?_))
  have hd:items.toList.drop i=items[i] :: items.toList.drop (i+1):=by simp [List.drop_eq_getElem_cons,hlt]
  have:=hQ h₂ (by rw[show i+(n+1)=i+1+n by omega];exact hit₂) (hs₁.trans hs₂)
  rw[hd,List.take_succ_cons] at this
  exact this
theorem unpackItems_list{t:Addr}{items:Array Value}{Q:List Value→Shared→Prop}(hh:A.handled=none)(ht:s.heap.IsList t items)
  (hQ:∀ h',Heap.ExtBut s.heap.objs.size s.heap h'→Q items.toList { s with heap:=h' }):wpAny (model prog w) A (unpackItems (.ref t) items.size none) Q E s:=by
 have hlt:t≠s.heap.objs.size:=by obtain⟨o,ho,_⟩:=ht;exact Nat.ne_of_lt (Heap.lt_size ho)
 unfold unpackItems
 refine wpAny_bind ?_
 ·unfold notIterableAtAll
  refine wpAny_bind (wpAny_specialOf ht.typeIs slot_list_iter.lookup ?_)
  refine wpAny_pure ?_
  simp only[Bool.false_eq_true,if_false]
  refine wpAny_bind (wpAny_holding (wpAny_pyIter_list ht ?_))
  refine wpAny_bind (wpAny_holding (draw_list hlt items.size 0 _ _ ⟨_,Heap.get?_push_size _ rfl,rfl,rfl⟩ (IsList.ext ht fun o e=>Heap.get?_push_of_some _ e) (by omega) fun h₁ hit₁ hs₁=>?_))
  have hall:List.take items.size (List.drop 0 items.toList)=items.toList:=by
   rw[List.drop_zero];exact List.take_of_length_le (by simp)
  rw[hall]
  rw[if_neg (by simp)]
  have ht₁:h₁.IsList t items:=IsList.ext ht fun o e=>hs₁.extBut t o hlt (Heap.get?_push_of_some _ e)
  refine wpAny_bind (wpAny_holding (wpAny_pyNext_list_end hh hit₁ ht₁ (by simp) fun h₂ he₂=>?_))
  simp only[Option.isSome_none,Bool.false_eq_true,if_false]
  refine wpAny_pure (hQ h₂ fun b o hb e=>he₂ b o hb (hs₁.extBut b o hb (Heap.get?_push_of_some _ e)))
theorem assign_Tuple_list{env:Env}{elts:List Expr}{x1}{pos:Pos}{t:Addr}{items:Array Value}{Q:Unit→Shared→Prop}(hh:A.handled=none)(ht:s.heap.IsList t items)
  (hn:(assignEach elts env).length=items.size) (hstar:(assignEach elts env).findIdx? (·.1)=none)
  (h:∀ h',Heap.ExtBut s.heap.objs.size s.heap h'→wpAny (model prog w) A (assignInOrder ((assignEach elts env).map (·.2)) items.toList) Q E { s with heap:=h' }) :
  wpAny (model prog w) A (assign (.Tuple elts x1 pos) env (.ref t)) Q E s:=by
 rw[assign_Tuple]
 refine wpAny_bind (wpAny_standAt ?_)
 unfold unpack
 rw[hn,hstar]
 exact wpAny_bind (wpAny_holding (unpackItems_list hh ht h))
end
section
variable{X:Cx}{e st:Expr}{te:TE}{lo:Option Expr}{tl ts:TO}{pos p2:Pos}
def gLst(K:PySem.W.Frag)(n:Nat)(t:TGs):TG:=fun v σ H Q=>∃ a xs,v = .ref a∧SqL K H a xs∧xs.length=n∧t xs σ H Q
theorem pg_lst{es:List Expr}{k:Nat}{t:TGs}{n:Nat}(hc:X.calm=true)(h:PGs X es t)
  (hn:(assignEach es X.env).length=n:=by rfl) (hst:(assignEach es X.env).findIdx? (·.1)=none:=by rfl):PG X (.Tuple es k pos) (gLst X.K n t):=by
 intro pins s σ H v u Q I r hw
 obtain⟨a,xs,e1,hq,hl,hw⟩:=hw
 subst e1
 cases r
 obtain⟨its,rv,ht,hz⟩:=I.list hq
 refine assign_Tuple_list (I.ok.hd hc) ht.isList (by simp [hn,← hl,rv.length]) hst fun h' hx=>?_
 have I1:Inv X pins σ H { s with heap:=h' }:=I.kept (t':=s.toks) fun b o e=>hx b o (Nat.ne_of_lt (Heap.lt_size e)) e
 exact h pins _ σ H xs _ Q I1 (by simpa using rv) hw
def tStep(K:PySem.W.Frag)(te:TE)(tl ts:TO):TE:=fun σ H Q=>te σ H fun x H1=>tl σ H1 fun o H2=>ts σ H2 fun o2 H3=>o2=some 2∧∃ a x0 x1 x2 x3 x4 x5 x6 x7 x8 x9,x = .ref a∧SqL K H3 a [x0,x1,x2,x3,x4,x5,x6,x7,x8,x9] ∧
 ((o=some 0∧∀ p,H3 p=none→Q (.ref p) (upd H3 p (.lst [x0,x2,x4,x6,x8])))∨(o=some 1∧∀ p,H3 p=none→Q (.ref p) (upd H3 p (.lst [x1,x3,x5,x7,x9]))))
theorem pick_of{ys zs:List Value}{n:Nat}{lo hi st:Option Int}{ix:List Nat}(hn:ys.length=n)(h:sliceRange (sliceBounds lo hi st n).1 (sliceBounds lo hi st n).2.1 (sliceBounds lo hi st n).2.2=ix)(hz:ix.filterMap (ys[·]?)=zs):slicePick ys.toArray lo hi st=zs.toArray:=by
 unfold slicePick
 rw[List.size_toArray,hn,h,← hz]
 congr 2
 funext i
 simp
theorem ten{xs:List Value}(h:xs.length=10):∃ a b c d e f g i j k,xs=[a,b,c,d,e,f,g,i,j,k]:=match xs,h with | [a,b,c,d,e,f,g,i,j,k],_=>⟨a,b,c,d,e,f,g,i,j,k,rfl⟩
theorem pe_step(he:PE X e te)(hl:PO X lo tl)(hst:PO X (some st) ts):PE X (.Subscript e (.Slice lo none (some st) p2) pos) (tStep X.K te tl ts):=by
 intro pins s σ H Q I h
 refine Subscript_ (thn (he pins s σ H _ I h) fun v s1 ⟨x,H1,I1,r1,q1⟩=>?_)
 refine wpAny_Slice (thn (hl pins s1 σ H1 _ I1 q1) fun vl s2 ⟨l,H2,I2,pl,q2⟩=>?_)
 rw[evalPart_none]
 refine wpAny_pure (thn (hst pins s2 σ H2 _ I2 q2) fun vs s3 ⟨o,H3,I3,po,q3⟩=>?_)
 obtain⟨rfl,a,x0,x1,x2,x3,x4,x5,x6,x7,x8,x9,rfl,hx,q⟩:=q3
 cases r1
 have I4:Inv X pins σ H3 { s3 with heap:=s3.heap.push { cls:=.type "slice",data:=.fields #[vl,.none,vs] } }:=I3.kept (t':=s3.toks) fun b ob q=>Heap.get?_push_of_some _ q
 obtain⟨its,r,ht,hz⟩:=I4.list hx
 have hlen:=r.length
 obtain⟨y0,y1,y2,y3,y4,y5,y6,y7,y8,y9,rfl⟩:=ten hlen.symm
 cases r with | cons r0 r=>cases r with | cons r1 r=>cases r with | cons r2 r=>cases r with | cons r3 r=>cases r with | cons r4 r=>cases r with | cons r5 r=>cases r with | cons r6 r=>cases r with | cons r7 r=>cases r with | cons r8 r=>cases r with | cons r9 r=>
 show wpAny (model X.prog X.w) X.A (subscriptTail e (.Slice lo none (some st) p2) (.ref a) (.ref s3.heap.objs.size)) (EP X pins σ Q) X.xe { s3 with heap:=s3.heap.push { cls:=.type "slice",data:=.fields #[vl,.none,vs] } }
 refine PyProof.Rows.tail_any (ops:=[.ref a,.ref s3.heap.objs.size]) ht.isList.typeIs slot_list_getitem.lookup ?_ (by with_unfolding_all rfl)
 refine wpAny_getItem_list_slice ht.isList (Heap.IsSliceOf.new ..) pl .none po (by decide) ?_ (by rw[List.size_toArray]<;>exact Nat.le_of_lt (small1000 (show 10≤1000 by decide)))
 rcases q with⟨rfl,q⟩ | ⟨rfl,q⟩
 ·have ep:slicePick [y0,y1,y2,y3,y4,y5,y6,y7,y8,y9].toArray (some 0) none (some 2)=[y0,y2,y4,y6,y8].toArray:=pick_of (n:=10) (ix:=[0,2,4,6,8]) rfl (by decide +kernel) rfl
  rw[ep]
  exact⟨.ref _,_,I4.lnew (t':=s3.toks) (ys:=[x0,x2,x4,x6,x8]) (its:=[y0,y2,y4,y6,y8]) (.cons r0 (.cons r2 (.cons r4 (.cons r6 (.cons r8 .nil))))) (Nat.le_of_lt (small1000 (show 5≤1000 by decide))),rfl,q _ I4.fresh⟩
 ·have ep:slicePick [y0,y1,y2,y3,y4,y5,y6,y7,y8,y9].toArray (some 1) none (some 2)=[y1,y3,y5,y7,y9].toArray:=pick_of (n:=10) (ix:=[1,3,5,7,9]) rfl (by decide +kernel) rfl
  rw[ep]
  exact⟨.ref _,_,I4.lnew (t':=s3.toks) (ys:=[x1,x3,x5,x7,x9]) (its:=[y1,y3,y5,y7,y9]) (.cons r1 (.cons r3 (.cons r5 (.cons r7 (.cons r9 .nil))))) (Nat.le_of_lt (small1000 (show 5≤1000 by decide))),rfl,q _ I4.fresh⟩
theorem call_int_str:CallR X (.type "int") (fun xs H Q=>∃ x n,xs=[.str x]∧PySem.intText? x=some n∧x.length≤640∧Q (.int n) H):=by
 intro pins s σ H xs us Q I r h
 obtain⟨x,n,rfl,hn,hl,q⟩:=h
 obtain⟨u,rfl,t,rfl⟩:=vals1 r
 exact PySem.W.KIN.call_text hn hl ⟨.int n,H,I.tok _,⟨_,rfl⟩,q⟩
def chars(t:Str):List Str:=t.cps.toList.map fun c=>⟨#[c]⟩
theorem chars_len(t:Str):(chars t).length=t.length:=by unfold chars;rw[List.length_map];rfl
theorem vals_chars{t:Str}{acc:Array Value}(h:ItemsOf (SignAt t) acc t.cps.size):Vals (vS (chars t)) acc.toList:=by
 obtain⟨hs,hi⟩:=h
 have key:∀(cs:List Nat) (us:List Value),us.length=cs.length→(∀(j:Nat) v,us[j]? = some v→∃ c u,cs[j]? = some c∧v = .str ⟨#[c]⟩ u)→Vals ((cs.map fun c=>(⟨#[c]⟩:Str)).map V.str) us:=by
  intro cs
  induction cs with
  | nil=>
   intro us hl _
   have e:us=[]:=List.eq_nil_of_length_eq_zero hl
   subst e
   exact .nil
  | cons c cs ih=>
   intro us hl hu
   cases us with
   | nil=>cases hl
   | cons u us=>
    obtain⟨c',t',hc,hv⟩:=hu 0 u rfl
    have e:c=c':=Option.some.inj hc
    subst e
    exact .cons ⟨_,hv⟩ (ih us (Nat.succ.inj hl) fun j v hj=>hu (j+1) v hj)
 refine key t.cps.toList acc.toList (by simpa using hs) fun j v hj=>?_
 obtain⟨c,u,h1,h2⟩:=hi j v (by simpa using hj)
 exact⟨c,u,by simpa using h1,h2⟩
theorem call_list_strL(hc:X.calm=true):CallR X (.type "list") (fun xs H Q=>∃ t,xs=[.str t]∧t.length≤1000∧∀ l,H l=none→Q (.ref l) (upd H l (.lst (vS (chars t))))):=by
 intro pins s σ H xs us Q I r h
 obtain⟨x,rfl,hl,q⟩:=h
 obtain⟨u,rfl,t,rfl⟩:=vals1 r
 have hz:x.length≤sizeLine:=Nat.le_of_lt (small1000 hl)
 refine call_list_str (I.ok.hd hc) x t (fun h' tk acc' c' kp e hi=>?_) hz
 have hv:=vals_chars hi
 exact⟨.ref s.heap.objs.size,_,I.laid (t':=tk) kp (Nat.le_refl _) (show ObjOk X.prog X.w _ h' _ (.lst (vS (chars x))) from⟨by rw[vS_len,chars_len];exact hz,acc'.toList,c',hv,by simpa using e⟩),rfl,q _ (I.hok.fresh (Nat.le_refl _))⟩
theorem vals_strs:∀{us:List Value} {ss:List Str},StrsAre us ss→Vals (vS ss) us
 | _,_,.nil=>.nil
 | _,_,.cons x t h=>.cons ⟨t,rfl⟩ (vals_strs h)
theorem call_sorted_str(hc:X.calm=true):CallR X (.builtin "sorted") (fun xs H Q=>∃ t,xs=[.str t]∧t.length < 64∧∀ l ss,H l=none→ss.Perm (chars t)→sortedS ss=true→Q (.ref l) (upd H l (.lst (vS ss)))):=by
 intro pins s σ H xs us Q I r h
 obtain⟨x,rfl,hl,q⟩:=h
 obtain⟨u,rfl,t,rfl⟩:=vals1 r
 have hz:x.length≤sizeLine:=Nat.le_of_lt (small1000 (by omega))
 refine Calls.call_function_entry kind_sorted plain_sorted entry_sorted (args_sorted1 _) ?_
 unfold Builtin.«sorted»
 refine wpAny_bind (m:=checkCount "sorted" 1 1 _) (wpAny_pure ?_)
 refine wpAny_bind (wpAny_collect_str (A:=X.A.in1) (show X.A.in1.handled=none from I.ok.hd hc) x t (fun s1 acc kp hg hd ho hi=>?_) hz)
 have hv:=vals_chars hi
 have hS:StrsAre acc.toList (chars x):=strsAre_of hv
 have hlen:acc.toList.length < 64:=by rw[← hv.length,vS_len,chars_len];exact hl
 obtain⟨hp1,g1,d1,t1,o1⟩:=s1
 simp only at hg hd ho kp
 subst hg hd ho
 have I1:Inv X pins σ H { s with heap:=hp1,toks:=t1 }:=I.kept (t':=t1) kp
 refine wpAny_bind (wpAny_newList ?_)
 have hoL:(hp1.push (seqObj "list" acc.toList.toArray 0)).get? hp1.objs.size=some (seqObj "list" acc.toList.toArray 0):=Heap.get?_push_size _ rfl
 refine wpAny_bind (wpAny_holding (wpAny_call_entry slot_list_sort ⟨_,hoL,rfl⟩ entry_list_sort (list_sort_treeK (κ:=strKind) strKind_oneLt hoL hS.keysOf (fun v₁ v₂ rest e=>keyKind_strs (by rw[← e];exact hS)) hlen fun st' hp hs=>⟨_,rfl,wpAny_pure ⟨_,rfl,?_⟩⟩) (args_list_sort _)))
 obtain⟨ss',h1,h2,h3⟩:=sorted_out_str hS hp hs
 obtain⟨ep,he⟩:=sortedHeap_at (out:=(arrOf st').map (·.2)) hoL
 have hl2:ss'.length=x.length:=by rw[h2.length_eq,chars_len]
 refine⟨.ref hp1.objs.size,_,I1.laid (t':=t1) (a:=hp1.objs.size) (o:=.lst (vS ss')) (h':=sortedHeap (hp1.push (seqObj "list" acc.toList.toArray 0)) hp1.objs.size acc.toList ((arrOf st').map (·.2))) (fun b u e=>?_) (Nat.le_refl _) ?_,rfl,q _ ss' (I1.hok.fresh (Nat.le_refl _)) h2 h3⟩
 ·have hb:=Heap.lt_size e
  rw[sortedHeap_old (Nat.ne_of_lt hb) (by rw[size_push'];exact Nat.lt_succ_of_lt hb)]
  exact Heap.get?_push_of_some _ e
 ·refine⟨by rw[vS_len,hl2];exact hz,((arrOf st').map (·.2)).toList,ep,vals_strs h1,?_⟩
  rw[Array.toArray_toList]
  exact he
end
def rFind:V→List V→Hp→VK→Prop:=fun x xs H Q=>∃ i j,x = .str i∧xs=[.str j]∧Q (.int (Txt.find i j)) H
theorem pe_findK{X:Cx}{K:PySem.W.Frag}{o e:Expr}{to:TE}{t:TA}{apos cpos:Pos}(hK:X.K=K)(ho:PE X o to)(ha:PA X [e] t)
  (hbase:attributeBase o "find" X.env (eval o X.env)=eval o X.env:=by rfl)
  (hfew:((backTo cpos (starEach [e] X.env)).all (fun x=>!x.1) && (backToKw cpos (keywordEach [] X.env)).all (fun x=>x.1.isSome) && decide ([e].length+([]:List Keyword).length+(if([]:List Keyword).isEmpty then 0 else 1) < 30))=true:=by rfl)
  (hline:(apos.endLine == cpos.line)=true:=by rfl) (hs:starEach [e] X.env=[(false,eval e X.env)]:=by rfl):PE X (.Call (.Attribute o "find" apos) [e] [] cpos) (tBM K "str" rFind to t):=by
 subst hK
 exact pe_bm PySem.F.plainAttrs_str PySem.F.slot_str_find PySem.F.type_str_find mt_find ho ha hbase hfew hline hs rfl
structure FunD(K:PySem.W.Frag)(x qual:Str)(st:Stmt)(f:Addr)(fd:FuncData):Prop where
 ex:∃(oc:Value) (od:Option Addr) (dV kV doc pm:Value) (an:Option Addr) (cdv ct:Value) (osl:Array (Option Value)),
  fd=PySem.W.fnOf x qual (defArgs st) (defBody st) (defScope st) dV kV doc pm an cdv ct∧K.lookup f=some ⟨oc,od,.func fd,osl⟩∧PySem.W.codeIn K cdv qual=true
 kp:PySem.W.keepIn K (.ref f)=true
theorem FunD.ok{P:Program}{w:World}{K:PySem.W.Frag}{mg:Str→Option Value}{base:Heap}{x qual:Str}{st:Stmt}{f:Addr}{fd:FuncData}{N ps:List Str}{k:Nat}{sp:Sp}(F:FunD K x qual st f fd)(S:FnScope N ps (defScope st))(len:∀ vs H Q E,sp vs H Q E→vs.length=ps.length)
  (hbody:∀(cdv:Value) (A:Around) (outer:List Env) (s:Shared) (H:Hp) (vs:List V) (Q:VK) (E:XK),Room k (A.deeper (envOfC qual (defScope st) s.heap.objs.size f cdv))→sp vs H Q E →
   ∃ t,PSs (cxOf CX0 P w K mg base N qual (defScope st) f cdv A outer s H E).nox (defBody st) t∧t { nx:=fun _ H'=>Q .non H',rt:=Q } (start N vs) H):FnOk P w K mg base CX0 (k+1) f fd ps sp:=by
 obtain⟨oc,od,dV,kV,doc,pm,an,cdv,ct,osl,rfl,lk,hcd⟩:=F.ex
 refine fn_of lk hcd S len fun A outer s H vs Q E hr hsp=>?_
 obtain⟨t,h,q⟩:=hbody cdv A outer s H vs Q E hr hsp
 exact⟨t,h.nox,q⟩
theorem funD_mk{K:PySem.W.Frag}{x qual:Str}{st:Stmt}{f:Addr}{oc:Value}{od an:Option Addr}{osl:Array (Option Value)}{dV kV doc pm cdv ct:Value}(l:K.lookup f=some ⟨oc,od,.func (PySem.W.fnOf x qual (defArgs st) (defBody st) (defScope st) dV kV doc pm an cdv ct),osl⟩)
  (c:PySem.W.codeIn K cdv qual=true) (k:PySem.W.keepIn K (.ref f)=true):FunD K x qual st f (PySem.W.fnOf x qual (defArgs st) (defBody st) (defScope st) dV kV doc pm an cdv ct):=⟨⟨oc,od,dV,kV,doc,pm,an,cdv,ct,osl,rfl,l,c⟩,k⟩
end L2
namespace My
open PySem L2 PySem.Spec PyProof.Rows
def joinL:List (List Nat)→List Nat
 | []=>[]
 | [x]=>x
 | x :: y :: r=>x++32 :: joinL (y :: r)
theorem cut_eq:∀(x y a b:List Nat),32∉x→32∉y→x++32 :: a=y++32 :: b→x=y∧a=b
 | [],[],a,b,_,_,h=>by
  injection h with _ h
  exact⟨rfl,h⟩
 | [],c :: y,a,b,_,hy,h=>by
  injection h with h _
  exact absurd (h ▸ List.mem_cons_self) hy
 | c :: x,[],a,b,hx,_,h=>by
  injection h with h _
  exact absurd (h ▸ List.mem_cons_self) hx
 | c :: x,d :: y,a,b,hx,hy,h=>by
  injection h with h1 h2
  obtain⟨e1,e2⟩:=cut_eq x y a b (fun z=>hx (List.mem_cons_of_mem _ z)) (fun z=>hy (List.mem_cons_of_mem _ z)) h2
  exact⟨by rw[h1,e1],e2⟩
theorem joinL_inj:∀ xs ys:List (List Nat),xs≠[]→ys≠[]→(∀ x∈xs,32∉x)→(∀ y∈ys,32∉y)→joinL xs=joinL ys→xs=ys
 | [],_,h,_,_,_,_=>absurd rfl h
 | _,[],_,h,_,_,_=>absurd rfl h
 | [x],[y],_,_,_,_,h=>by
  have e:x=y:=h
  rw[e]
 | [x],y :: y2 :: r,_,_,hx,_,h=>by
  have e:x=y++32 :: joinL (y2 :: r):=h
  refine absurd ?_ (hx x List.mem_cons_self)
  rw[e]
  exact List.mem_append_right _ List.mem_cons_self
 | x :: x2 :: r,[y],_,_,_,hy,h=>by
  have e:x++32 :: joinL (x2 :: r)=y:=h
  refine absurd ?_ (hy y List.mem_cons_self)
  rw[← e]
  exact List.mem_append_right _ List.mem_cons_self
 | x :: x2 :: r,y :: y2 :: r2,_,_,hx,hy,h=>by
  obtain⟨e1,e2⟩:=cut_eq x y _ _ (hx x List.mem_cons_self) (hy y List.mem_cons_self) h
  have e3:=joinL_inj (x2 :: r) (y2 :: r2) (List.cons_ne_nil _ _) (List.cons_ne_nil _ _) (fun z hz=>hx z (List.mem_cons_of_mem _ hz)) (fun z hz=>hy z (List.mem_cons_of_mem _ hz)) e2
  rw[e1,e3]
abbrev blank:Str:=" "
theorem blank_cps:blank=⟨#[32]⟩:=by decide +kernel
theorem join_toList:∀ ws:List Str,(Txt.join blank ws).cps.toList=joinL (ws.map fun w=>w.cps.toList):=by
 intro ws
 unfold Txt.join
 rw[StrLaws.glued_eq_join]
 induction ws with
 | nil=>rfl
 | cons x r ih=>
  cases r with
  | nil=>rfl
  | cons y r=>
   show(x++blank++Str.join blank (y :: r)).cps.toList=x.cps.toList++32 :: joinL ((y :: r).map fun w=>w.cps.toList)
   rw[← ih,blank_cps]
   show((x.cps ++ #[32])++(Str.join ⟨#[32]⟩ (y :: r)).cps).toList=_
   rw[Array.toList_append,Array.toList_append,List.append_assoc]
   rfl
theorem str_ext{a b:Str}(h:a.cps.toList=b.cps.toList):a=b:=by
 obtain⟨⟨a⟩⟩:=a
 obtain⟨⟨b⟩⟩:=b
 cases h
 rfl
theorem split_ne(x:Str):Txt.split x blank≠[]:=by
 unfold Txt.split
 split
 ·exact List.cons_ne_nil _ _
 ·split
  ·exact List.cons_ne_nil _ _
  ·intro z
   have l:=PyProof.Rows.len_partsBetween x (Builtin.Str.occurrences x blank 0 x.length (x.length+1)) blank.length
   rw[z] at l
   cases l
theorem split_join(ws:List Str)(h:ws≠[])(hf:∀ w∈ws,32∉w.cps.toList):Txt.split (Txt.join blank ws) blank=ws:=by
 have e1:Txt.join blank (Txt.split (Txt.join blank ws) blank)=Txt.join blank ws:=by
  have z:=StrLaws.join_split (Txt.join blank ws) blank
  rw[← StrLaws.glued_eq_join] at z
  exact z
 have e2:=congrArg (fun s:Str=>s.cps.toList) e1
 rw[join_toList,join_toList] at e2
 have e3:=joinL_inj _ _ (fun z=>split_ne _ (List.map_eq_nil_iff.mp z)) (fun z=>h (List.map_eq_nil_iff.mp z)) (fun x hx=>?_) (fun y hy=>?_) e2
 ·have inj:∀ a b:List Str,(a.map fun w=>w.cps.toList)=(b.map fun w=>w.cps.toList)→a=b:=by
   intro a
   induction a with
   | nil=>intro b hb;cases b with
    | nil=>rfl
    | cons y r=>cases hb
   | cons x r ih=>intro b hb;cases b with
    | nil=>cases hb
    | cons y r2=>
     injection hb with h1 h2
     rw[str_ext h1,ih r2 h2]
  exact inj _ _ e3
 ·obtain⟨w,hw,rfl⟩:=List.mem_map.mp hx
  rw[blank_cps] at hw
  exact StrLaws.split_free _ 32 w hw
 ·obtain⟨w,hw,rfl⟩:=List.mem_map.mp hy
  exact hf w hw
theorem join_len(sep:Str)(ws:List Str):(Txt.join sep ws).length≤(ws.map (·.length)).sum+ws.length * sep.length:=by
 unfold Txt.join
 rw[StrLaws.glued_eq_join]
 exact StrLaws.join_length_le sep ws
theorem blank_len:blank.length=1:=by decide +kernel
def vN(ys:List Nat):List V:=ys.map fun c=>V.int (c:Nat)
theorem vN_len(ys:List Nat):(vN ys).length=ys.length:=List.length_map _
theorem vN_ints(ys:List Nat):vN ys=(ys.map fun c=>((c:Nat):Int)).map V.int:=by unfold vN;rw[List.map_map];rfl
theorem vS_flat:∀(ys:List Str),(vS ys).all flatV=true
 | []=>rfl
 | _ :: ys=>by
  show(true && (vS ys).all flatV)=true
  rw[vS_flat ys]
  rfl
def sgn(i:Nat):Str:=⟨#[49+i]⟩
def figS(l:List Nat):Str:=⟨(l.map (49 + ·)).toArray⟩
theorem figS_len(l:List Nat):(figS l).length=l.length:=by
 show((l.map (49 + ·)).toArray).size=_
 rw[List.size_toArray,List.length_map]
theorem chars_fig(l:List Nat):chars (figS l)=l.map sgn:=by
 unfold chars figS
 rw[show(⟨(l.map (49 + ·)).toArray⟩:Str).cps.toList=l.map (49 + ·) from rfl,List.map_map]
 rfl
theorem perm_sorted:∀{xs ys:List Nat},xs.Perm ys→xs.Pairwise (·≤·)→ys.Pairwise (·≤·)→xs=ys
 | [],ys,p,_,_=>p.nil_eq
 | x :: xs,[],p,_,_=>by have:=p.length_eq;cases this
 | x :: xs,y :: ys,p,hx,hy=>by
  obtain⟨hx1,hx2⟩:=List.pairwise_cons.mp hx
  obtain⟨hy1,hy2⟩:=List.pairwise_cons.mp hy
  have e:x=y:=by
   have a:x∈y :: ys:=p.subset (List.mem_cons_self ..)
   have b:y∈x :: xs:=p.symm.subset (List.mem_cons_self ..)
   rcases List.mem_cons.mp a with a | a
   ·exact a
   ·rcases List.mem_cons.mp b with b | b
    ·exact b.symm
    ·have:=hx1 y b
     have:=hy1 x a
     omega
  subst e
  rw[perm_sorted p.cons_inv hx2 hy2]
theorem sgn_le{a b:Nat}(h:ltCps (sgn b).cps.toList (sgn a).cps.toList=false):a≤b:=by
 rw[PyProof.Rows.ltCps_eq] at h
 have h2:¬ ([49+b]:List Nat) < [49+a]:=of_decide_eq_false h
 rcases Nat.lt_or_ge b a with z | z
 ·exact absurd (List.cons_lt_cons_iff.mpr (.inl (by omega))) h2
 ·exact z
theorem rising_le:∀{a:Nat} {l:List Nat},risingS (sgn a) (l.map sgn)=true→(a :: l).Pairwise (·≤·)
 | a,[],_=>List.pairwise_singleton ..
 | a,b :: l,h=>by
  have h':(!ltCps (sgn b).cps.toList (sgn a).cps.toList && risingS (sgn b) (l.map sgn))=true:=h
  rw[Bool.and_eq_true] at h'
  have ab:a≤b:=sgn_le (by simpa using h'.1)
  have r:=rising_le (a:=b) (l:=l) h'.2
  refine List.pairwise_cons.mpr ⟨fun c hc=>?_,r⟩
  rcases List.mem_cons.mp hc with e | hc
  ·omega
  ·have:=(List.pairwise_cons.mp r).1 c hc
   omega
theorem sorted_le:∀{l:List Nat},sortedS (l.map sgn)=true→l.Pairwise (·≤·)
 | [],_=>.nil
 | a :: l,h=>rising_le (show risingS (sgn a) (l.map sgn)=true from h)
theorem of_perm_map:∀{ss:List Str} {l:List Nat},ss.Perm (l.map sgn)→∃ ks:List Nat,ss=ks.map sgn∧ks.Perm l:=by
 intro ss l p
 have inj:∀ a b,sgn a=sgn b→a=b:=fun a b e=>by
  unfold sgn at e
  injection e with e
  have e1:[49+a]=[49+b]:=congrArg Array.toList e
  injection e1 with e1
  omega
 refine⟨ss.map (fun s=>s.cps.toList.headD 0 - 49),?_,?_⟩
 ·rw[List.map_map]
  have:∀ s∈ss,(sgn ∘ fun s:Str=>s.cps.toList.headD 0 - 49) s=s:=fun s hs=>by
   obtain⟨i,_,rfl⟩:=List.mem_map.mp (p.subset hs)
   show sgn ((49+i) - 49)=sgn i
   congr 1
   omega
  exact((List.map_congr_left this).trans (List.map_id' ss)).symm
 ·have q:=p.map (fun s:Str=>s.cps.toList.headD 0 - 49)
  rw[List.map_map] at q
  have:l.map ((fun s:Str=>s.cps.toList.headD 0 - 49) ∘ sgn)=l:=by
   have:∀ i∈l,((fun s:Str=>s.cps.toList.headD 0 - 49) ∘ sgn) i=i:=fun i _=>by
    show(49+i) - 49=i
    omega
   exact(List.map_congr_left this).trans (List.map_id' _)
  rw[this] at q
  exact q
theorem range_sorted(h:Nat):(List.range h).Pairwise (·≤·):=(List.pairwise_lt_range).imp fun h=>Nat.le_of_lt h
theorem order_sorted{ss:List Str}{l:List Nat}{h:Nat}(hl:l.Perm (List.range h))(p:ss.Perm (chars (figS l)))(s:sortedS ss=true):ss=(List.range h).map sgn:=by
 rw[chars_fig] at p
 obtain⟨ks,rfl,pk⟩:=of_perm_map p
 rw[perm_sorted (pk.trans hl) (sorted_le s) (range_sorted h)]
theorem fig_slice:∀ h≤8,chars (Txt.slice sFig none (some ((h:Nat):Int)))=(List.range h).map sgn:=by decide +kernel
theorem find_sgn:∀ i < 8,Txt.find sFig (sgn i)=((i:Nat):Int):=by decide +kernel
theorem eqVs_str:∀(ys:List Str),eqVs (vS ys) (vS ys)=true
 | []=>rfl
 | y :: ys=>by
  show((y == y) && eqVs (vS ys) (vS ys))=true
  rw[eqVs_str ys,beq_self_eq_true]
  rfl
theorem perm_erase{α:Type}:∀(l:List α) (i:Nat) (x:α),l[i]? = some x→l.Perm (x :: l.eraseIdx i)
 | [],i,x,h=>by simp at h
 | y :: l,0,x,h=>by
  have e:y=x:=Option.some.inj h
  subst e
  exact List.Perm.refl _
 | y :: l,i+1,x,h=>by
  have r:=perm_erase l i x h
  exact(r.cons y).trans (List.Perm.swap ..)
structure Fx where
 s:Nat
 h:Nat
 n:Nat
 d:_root_.Fin 4
 pl:List Nat
 tr:List Nat
structure Fx.Ok(f:Fx):Prop where
 s1:1≤f.s
 s4:f.s≤4
 h1:1≤f.h
 h8:f.h≤8
 n34:f.n=3∨f.n=4
 pp:f.pl.Perm (List.range f.h)
 pt:f.tr.Perm (List.range f.h)
def sizeT(f:Fx):Str:=⟨#[48+f.s,120,48+f.h]⟩
def seatT(f:Fx):Str:=⟨#[48+f.n]⟩
def tabW(f:Fx):List Str:=["pack",sizeT f,"seats",seatT f,"duty",wd f.d,"plain",figS f.pl,"trump",figS f.tr]
def tabT(f:Fx):Str:=Txt.join blank (tabW f)
theorem perm_lt{l:List Nat}{h:Nat}(p:l.Perm (List.range h)):∀ i∈l,i < h:=fun i hi=>List.mem_range.mp (p.subset hi)
theorem perm_len{l:List Nat}{h:Nat}(p:l.Perm (List.range h)):l.length=h:=by rw[p.length_eq,List.length_range]
theorem fig_free(l:List Nat):32∉(figS l).cps.toList:=by
 rw[show(figS l).cps.toList=l.map (49 + ·) from rfl]
 intro z
 obtain⟨i,_,e⟩:=List.mem_map.mp z
 omega
theorem wd_free:∀ i:_root_.Fin 4,32∉(wd i).cps.toList:=by decide +kernel
theorem tab_split(f:Fx):Txt.split (tabT f) blank=tabW f:=by
 refine split_join (tabW f) (by unfold tabW;exact List.cons_ne_nil _ _) ?_
 refine all_cons (by decide +kernel) (all_cons ?_ (all_cons (by decide +kernel) (all_cons ?_ (all_cons (by decide +kernel) (all_cons (wd_free _) (all_cons (by decide +kernel) (all_cons (fig_free _) (all_cons (by decide +kernel) (all_cons (fig_free _) all_nil)))))))))
 ·show 32∉[48+f.s,120,48+f.h]
  simp
  omega
 ·show 32∉[48+f.n]
  simp
  omega
theorem tab_len{f:Fx}(ok:f.Ok):(tabT f).length≤99:=by
 have j:=join_len blank (tabW f)
 have e:((tabW f).map (·.length)).sum≤4+(3+(5+(1+(4+(6+(5+(8+(5+(8+0))))))))):=by
  have a:=(wd_len f.d).2
  have b:(figS f.pl).length≤8:=by rw[figS_len,perm_len ok.pp];exact ok.h8
  have c:(figS f.tr).length≤8:=by rw[figS_len,perm_len ok.pt];exact ok.h8
  show 4+(3+(5+(1+(4+((wd f.d).length+(5+((figS f.pl).length+(5+((figS f.tr).length+0)))))))))≤_
  omega
 have e2:(tabW f).length=10:=rfl
 rw[e2,blank_len] at j
 have:(tabT f).length=(Txt.join blank (tabW f)).length:=rfl
 omega
theorem str_num:∀ i≤8,(toString ((i:Nat):Int):Str)=⟨#[48+i]⟩:=by decide +kernel
theorem joinE_toList:∀ ws:List Str,(Txt.join "" ws).cps.toList=(ws.map fun w=>w.cps.toList).flatten:=by
 intro ws
 unfold Txt.join
 rw[StrLaws.glued_eq_join]
 induction ws with
 | nil=>rfl
 | cons x r ih=>
  cases r with
  | nil=>
   show x.cps.toList=x.cps.toList++[]
   rw[List.append_nil]
  | cons y r=>
   show(x ++ "" ++ Str.join "" (y :: r)).cps.toList=x.cps.toList++((y :: r).map fun w=>w.cps.toList).flatten
   rw[← ih]
   show((x.cps++("":Str).cps)++(Str.join "" (y :: r)).cps).toList=_
   rw[Array.toList_append,Array.toList_append]
   have e:("":Str).cps.toList=[]:=by decide +kernel
   rw[e,List.append_nil]
theorem join_sgn(l:List Nat):Txt.join "" (l.map sgn)=figS l:=by
 refine str_ext ?_
 rw[joinE_toList,List.map_map]
 show((l.map fun i=>[49+i]).flatten)=l.map (49 + ·)
 induction l with
 | nil=>rfl
 | cons i l ih=>rw[List.map_cons,List.flatten_cons,ih];rfl
def sgV(x:V):V:=match x with | .int i=>.str ⟨#[48+(i+1).toNat]⟩ | _=>.non
theorem sgV_int(i:Nat):sgV (.int (i:Nat)) = .str ⟨#[48+(i+1)]⟩:=by
 show V.str ⟨#[48+(((i:Nat):Int)+1).toNat]⟩=_
 have e:(((i:Nat):Int)+1).toNat=i+1:=by omega
 rw[e]
theorem sgV_list(l:List Nat):((vN l).filter fun _=>true).map sgV=vS (l.map sgn):=by
 rw[List.filter_eq_self.mpr (fun _ _=>rfl)]
 unfold vN vS
 rw[List.map_map,List.map_map]
 refine List.map_congr_left fun i _=>?_
 show sgV (.int (i:Nat)) = .str (sgn i)
 rw[sgV_int]
 unfold sgn
 rw[show 48+(i+1)=49+i by omega]
theorem sgn_sum{l:List Nat}{h:Nat}(p:l.Perm (List.range h))(h8:h≤8):((l.map sgn).map (·.length)).sum+(l.map sgn).length * ("":Str).length≤16777216:=by
 have e:∀ l:List Nat,((l.map sgn).map (·.length)).sum=l.length:=fun l=>by
  induction l with
  | nil=>rfl
  | cons i l ih=>
   show 1+((l.map sgn).map (·.length)).sum=_
   rw[ih,List.length_cons]
   omega
 have z:("":Str).length=0:=by decide +kernel
 rw[e,z,perm_len p]
 omega
theorem text_eq(f:Fx):(("pack ":Str)++⟨#[48+f.s]⟩ ++ "x" ++ ⟨#[48+f.h]⟩ ++ " seats " ++ ⟨#[48+f.n]⟩ ++ " duty " ++ wd f.d ++ " plain " ++ figS f.pl ++ " trump " ++ figS f.tr)=tabT f:=by
 refine str_ext ?_
 unfold tabT
 rw[join_toList]
 have ap:∀ a b:Str,(a++b).cps.toList=a.cps.toList++b.cps.toList:=fun a b=>by
  show(a.cps++b.cps).toList=_
  rw[Array.toList_append]
 rw[ap,ap,ap,ap,ap,ap,ap,ap,ap,ap,ap]
 show _=("pack":Str).cps.toList++32 :: ([48+f.s,120,48+f.h]++32 :: (("seats":Str).cps.toList++32 :: ([48+f.n]++32 :: (("duty":Str).cps.toList++32 :: ((wd f.d).cps.toList++32 :: (("plain":Str).cps.toList++32 :: ((figS f.pl).cps.toList++32 :: (("trump":Str).cps.toList++32 :: (figS f.tr).cps.toList))))))))
 have e1:("pack ":Str).cps.toList=("pack":Str).cps.toList++[32]:=by decide +kernel
 have e2:("x":Str).cps.toList=[120]:=by decide +kernel
 have e3:(" seats ":Str).cps.toList=32 :: (("seats":Str).cps.toList++[32]):=by decide +kernel
 have e4:(" duty ":Str).cps.toList=32 :: (("duty":Str).cps.toList++[32]):=by decide +kernel
 have e5:(" plain ":Str).cps.toList=32 :: (("plain":Str).cps.toList++[32]):=by decide +kernel
 have e6:(" trump ":Str).cps.toList=32 :: (("trump":Str).cps.toList++[32]):=by decide +kernel
 rw[e1,e2,e3,e4,e5,e6]
 simp [List.append_assoc]
end My
namespace My
open PySem L2
def top(i:Nat):Stmt:=PySem.Challenge.pw_trickproof_k44_too_many_for_papers.main.body.getD i (.Pass ⟨0,0,0,0⟩)
abbrev sFreeWord:Stmt:=inClass (top 58) 0
abbrev sFollowWord:Stmt:=inClass (top 59) 0
abbrev sCutWord:Stmt:=inClass (top 60) 0
abbrev sBeatWord:Stmt:=inClass (top 61) 0
abbrev sDutyOf:Stmt:=top 62
abbrev sMarks:Stmt:=top 65
abbrev sReadSize:Stmt:=top 66
abbrev sReadSeats:Stmt:=top 67
abbrev sReadOrder:Stmt:=top 68
section
variable{P:Program}{w:World}{K:PySem.W.Frag}{mg:Str→Option Value}{base:Heap}{f g:Addr}{fd gd:FuncData}
theorem scFreeWord:FnScope ["self"] ["self"] (defScope sFreeWord):=⟨rfl,rfl,rfl,by decide +kernel,rfl,by decide +kernel,by decide +kernel⟩
theorem scFollowWord:FnScope ["self"] ["self"] (defScope sFollowWord):=⟨rfl,rfl,rfl,by decide +kernel,rfl,by decide +kernel,by decide +kernel⟩
theorem scCutWord:FnScope ["self"] ["self"] (defScope sCutWord):=⟨rfl,rfl,rfl,by decide +kernel,rfl,by decide +kernel,by decide +kernel⟩
theorem scBeatWord:FnScope ["self"] ["self"] (defScope sBeatWord):=⟨rfl,rfl,rfl,by decide +kernel,rfl,by decide +kernel,by decide +kernel⟩
theorem ok_freeWord{k:Nat}(F:Fun K "word" "Free.word" sFreeWord f fd):FnOk P w K mg base CX0 (k+1) f fd ["self"] (spWord 0):=ok_word F scFreeWord rfl fun _ _ _ _ h=>h
theorem ok_followWord{k:Nat}(F:Fun K "word" "Follow.word" sFollowWord f fd):FnOk P w K mg base CX0 (k+1) f fd ["self"] (spWord 1):=ok_word F scFollowWord rfl fun _ _ _ _ h=>h
theorem ok_cutWord{k:Nat}(F:Fun K "word" "Cut.word" sCutWord f fd):FnOk P w K mg base CX0 (k+1) f fd ["self"] (spWord 2):=ok_word F scCutWord rfl fun _ _ _ _ h=>h
theorem ok_beatWord{k:Nat}(F:Fun K "word" "Beat.word" sBeatWord f fd):FnOk P w K mg base CX0 (k+1) f fd ["self"] (spWord 3):=ok_word F scBeatWord rfl fun _ _ _ _ h=>h
theorem scDutyOf:FnScope ["word","duty"] ["word"] (defScope sDutyOf):=⟨rfl,rfl,rfl,by decide +kernel,rfl,by decide +kernel,by decide +kernel⟩
theorem ok_dutyOf{k:Nat}{CN:Addr}{cs fw:Fin 4→Addr}{fdw:Fin 4→FuncData}(F:Fun K "duty_of" "duty_of" sDutyOf f fd)(D:DutyC K mg cs CN)(W:WordF P w K mg base k cs fw fdw):FnOk P w K mg base (CX1 P w) (k+1) f fd ["word"] (spDuty cs CN):=by
 refine F.okX scDutyOf (fun vs H Q E h=>?_) (fun cdv A outer s H vs Q E hr h T=>?_)
 ·obtain⟨x,rfl,_⟩:=h
  rfl
 obtain⟨t,rfl,q,qn⟩:=h
 refine⟨_,pss_cons (ps_for T.own rfl (pi_tup (pe_tup (pa_cons (pe_makeO (D.mak 0) rfl D.mF) (pa_cons (pe_makeO (D.mak 1) rfl D.mL) (pa_cons (pe_makeO (D.mak 2) rfl D.mC) (pa_cons (pe_makeO (D.mak 3) rfl D.mB) pa_nil)))))) (pg_name (i:=1) scDutyOf.nd rfl (Or.inl rfl))
   (pss_one (ps_if (pt_cmpR op_eq (pe_methF0 (pv 1) W hr pass0) (pv 0) (nomark _)) (pss_one (ps_ret (pv 1))) pss_nil)))
  (pss_one (ps_raise T hr.hd rfl D.mN D.hN (pa_cons pe_str pa_nil))),?_⟩
 intro x0 d0 hx0 hd0 n0 x1 d1 hx1 hd1 n1 x2 d2 hx2 hd2 n2 x3 d3 hx3 hd3 n3
 refine⟨fits3 4 (by decide),fun p hp=>?_⟩
 have s0:=same_make (o:=.ins (cs 0) d0 []) hx0 hd0 n0
 have s1:=same_make (o:=.ins (cs 1) d1 []) hx1 hd1 n1
 have s2:=same_make (o:=.ins (cs 2) d2 []) hx2 hd2 n2
 have s3:=same_make (o:=.ins (cs 3) d3 []) hx3 hd3 n3
 have sp:=same_upd hp (.tup [.ref x0,.ref x1,.ref x2,.ref x3])
 have sA:=s0.trans (s1.trans (s2.trans (s3.trans sp)))
 have g0:=sp _ _ (s3 _ _ (s2 _ _ (s1 _ _ (upd_same (a:=x0) (o:=.ins (cs 0) d0 [])))))
 have g1:=sp _ _ (s3 _ _ (s2 _ _ (upd_same (a:=x1) (o:=.ins (cs 1) d1 []))))
 have g2:=sp _ _ (s3 _ _ (upd_same (a:=x2) (o:=.ins (cs 2) d2 [])))
 have g3:=sp _ _ (upd_same (a:=x3) (o:=.ins (cs 3) d3 []))
 have gp:=upd_same (H:=upd (upd (upd (upd (upd (upd (upd (upd H d0 (.own x0)) x0 (.ins (cs 0) d0 [])) d1 (.own x1)) x1 (.ins (cs 1) d1 [])) d2 (.own x2)) x2 (.ins (cs 2) d2 [])) d3 (.own x3)) x3 (.ins (cs 3) d3 [])) (a:=p) (o:=.tup [.ref x0,.ref x1,.ref x2,.ref x3])
 revert g0 g1 g2 g3 gp sA
 generalize upd _ p (.tup [.ref x0,.ref x1,.ref x2,.ref x3])=H4
 intro sA g0 g1 g2 g3 gp
 have hx1':=s0.free hx1
 have hx2':=s0.free (s1.free hx2)
 have hx3':=s0.free (s1.free (s2.free hx3))
 have G:∀(i:Nat) (x:V),([V.ref x0,V.ref x1,V.ref x2,V.ref x3]:List V)[i]? = some x→∃(j:Fin 4) (y dy:Addr),j.val=i∧x = .ref y∧H y=none∧H4 y=some (.ins (cs j) dy []):=fun i x hx=>by
  match i,hx with
  | 0,hx=>exact⟨0,x0,d0,rfl,(Option.some.inj hx).symm,hx0,g0⟩
  | 1,hx=>exact⟨1,x1,d1,rfl,(Option.some.inj hx).symm,hx1',g1⟩
  | 2,hx=>exact⟨2,x2,d2,rfl,(Option.some.inj hx).symm,hx2',g2⟩
  | 3,hx=>exact⟨3,x3,d3,rfl,(Option.some.inj hx).symm,hx3',g3⟩
 refine⟨p,rfl,⟨_,SqT.of gp⟩,for_tup (xs:=[.ref x0,.ref x1,.ref x2,.ref x3]) (fun i σ H'=>H'=H4∧(∃ x,σ=[some (.str t),x])∧∀ j:Fin 4,j.val < i→t≠wd j) ⟨rfl,⟨_,rfl⟩,fun j hj=>absurd hj (Nat.not_lt_zero _)⟩ (fun i σ H' _ z=>by obtain⟨rfl,_⟩:=z;exact SqT.of gp) (fun i x σ H' hx z=>?_) (fun σ H' z=>?_)⟩
 ·obtain⟨rfl,⟨x',rfl⟩,hno⟩:=z
  obtain⟨j,y,dy,hj,rfl,hy,gy⟩:=G i x hx
  refine⟨_,rfl,j,y,dy,[],rfl,gy,rfl,y,rfl,_,rfl,rfl,_,rfl,ite2 (fun c=>?_) (fun c=>?_)⟩
  ·have c':=of_decide_eq_true c
   injection c' with c'
   exact⟨_,rfl,q j c'.symm y dy H' sA hy gy⟩
  ·refine⟨rfl,⟨_,rfl⟩,fun j' hj' e=>?_⟩
   by_cases lt:j'.val < i
   ·exact hno j' lt e
   ·have ej:j'=j:=Fin.ext (by omega)
    subst ej
    exact c (decide_eq_true (by rw[e]))
 ·obtain⟨rfl,⟨x',rfl⟩,hno⟩:=z
  refine⟨fits3 1 (by decide),qn (fun z=>?_) _ sA⟩
  obtain⟨j,hj⟩:=wd_mem z
  exact hno j j.isLt hj
def spMarks:Sp:=fun vs H Q _=>∃ f:Fx,vs=[.str (tabT f)]∧f.Ok∧∀ l H',Same H H'→H l=none→H' l=some (.lst (vS [sizeT f,seatT f,wd f.d,figS f.pl,figS f.tr]))→Q (.ref l) H'
theorem scMarks:FnScope ["text","words"] ["text"] (defScope sMarks):=⟨rfl,rfl,rfl,by decide +kernel,rfl,by decide +kernel,by decide +kernel⟩
def marks:List Str:=["pack","seats","duty","plain","trump"]
theorem ok_marks{k:Nat}{CN aM:Addr}(F:Fun K "words_behind_marks" "words_behind_marks" sMarks f fd)(mM:mg "MARKS" = some (.ref aM))(hM:∀ H,SqT K H aM (vS marks))(mC:mg "NoTable" = some (.ref CN))(hC:PySem.W.excIn K CN veTail "ValueError.__new__" = true)
  (mi:mg "isinstance" = none) (ms:mg "str" = none) (ml:mg "len" = none) (mt:mg "tuple" = none):FnOk P w K mg base (CX1 P w) (k+1) f fd ["text"] spMarks:=by
 refine F.okX scMarks (fun vs H Q E h=>?_) (fun cdv A outer s H vs Q E hr h T=>?_)
 ·obtain⟨x,rfl,_⟩:=h
  rfl
 obtain⟨fx,rfl,ok,q⟩:=h
 refine⟨_,pss_cons (ps_if (pt_not (pt_truth (pe_callB call_isT rfl mi PyProof.Rows.boot_isinstance (pa_cons (pv 0) (pa_cons (pe_bltn (v:=.ty "str") rfl ms PyProof.Rows.boot_str rfl) pa_nil))) (fun _=>rfl))) (pss_one (ps_raise T hr.hd rfl mC hC (pa_cons pe_str pa_nil))) pss_nil)
  (pss_cons (ps_set (i:=1) scMarks.nd rfl (Or.inl rfl) (pe_bm PySem.F.plainAttrs_str PySem.F.slot_str_split PySem.F.type_str_split mt_split (pv 0) (pa_cons pe_str pa_nil)))
  (pss_cons (ps_if (PW.pt (pw_or (pt_cmpR op_ne (pe_callB call_len_seq rfl ml PySem.boot_len (pa_cons (pv 1) pa_nil)) (pe_op op_mul pe_int (pe_callB call_len_seq rfl ml PySem.boot_len (pa_cons (pe_glob (v:=.ref aM) rfl mM rfl) pa_nil))) (nomark _))
    (pw_or1 (pt_cmpR (op_neFT hr.units) (pe_callTy call_tuple_of rfl mt PyProof.Rows.boot_tuple (pa_cons (pe_step (pv 1) (po_some pe_int) (po_some pe_int)) pa_nil)) (pe_glob (v:=.ref aM) rfl mM rfl) (nomark _))))) (pss_one (ps_raise T hr.hd rfl mC hC (pa_cons pe_str pa_nil))) pss_nil)
  (pss_one (ps_ret (pe_step (pv 1) (po_some pe_int) (po_some pe_int)))))),?_⟩
 have tl:=tab_len ok
 refine⟨_,rfl,_,_,_,true,rfl,.str _,rfl,true,rfl,iteF ?_⟩
 refine⟨_,rfl,rfl,tabT fx,blank,rfl,rfl,(by decide +kernel),by omega,fun l hl=>?_⟩
 rw[tab_split]
 have s1:=same_upd hl (.lst (vS (tabW fx)))
 refine⟨_,rfl,l,_,rfl,.inl (SqL.of upd_same),aM,_,rfl,.inr (hM _),_,_,rfl,rfl,.inl ⟨by decide,by decide⟩,rfl,_,rfl,iteF ?_⟩
 refine⟨_,rfl,_,rfl,_,rfl,rfl,l,.str "pack",.str (sizeT fx),.str "seats",.str (seatT fx),.str "duty",.str (wd fx.d),.str "plain",.str (figS fx.pl),.str "trump",.str (figS fx.tr),rfl,SqL.of upd_same,.inl ⟨rfl,fun p hp=>?_⟩⟩
 have s2:=same_upd hp (.lst (vS marks))
 refine⟨p,vS marks,rfl,.inl ⟨SqL.of upd_same,fun p2 hp2=>?_⟩⟩
 have s3:=same_upd hp2 (.tup (vS marks))
 refine⟨p2,aM,vS marks,vS marks,rfl,rfl,⟨SqT.of upd_same,hM _⟩,vS_flat _,vS_flat _,_,rfl,?_⟩
 show if(!eqVs (vS marks) (vS marks))=true then _ else _
 rw[eqVs_str]
 refine iteF ?_
 have sA:=s1.trans (s2.trans s3)
 refine⟨_,rfl,_,rfl,_,rfl,rfl,l,.str "pack",.str (sizeT fx),.str "seats",.str (seatT fx),.str "duty",.str (wd fx.d),.str "plain",.str (figS fx.pl),.str "trump",.str (figS fx.tr),rfl,SqL.of (s3 _ _ (s2 _ _ upd_same)),.inr ⟨rfl,fun p3 hp3=>?_⟩⟩
 exact q p3 _ (sA.trans (same_upd hp3 _)) (sA.free hp3) upd_same
def spSize:Sp:=fun vs H Q _=>∃ f:Fx,vs=[.str (sizeT f)]∧f.Ok∧∀ p H',Same H H'→H p=none→H' p=some (.tup [.int (f.s:Nat),.int (f.h:Nat)])→Q (.ref p) H'
theorem scSize:FnScope ["word","suits","heights"] ["word"] (defScope sReadSize):=⟨rfl,rfl,rfl,by decide +kernel,rfl,by decide +kernel,by decide +kernel⟩
theorem ok_size{k:Nat}{CN:Addr}{t1 t2:Tok}(F:Fun K "read_size" "read_size" sReadSize f fd)(mF:mg "FIGURES" = some (.str sFig t1))(mL:mg "LETTERS" = some (.str sLet t2))(mC:mg "NoTable" = some (.ref CN))(hC:PySem.W.excIn K CN veTail "ValueError.__new__" = true)(ml:mg "len" = none) :
  FnOk P w K mg base (CX1 P w) (k+1) f fd ["word"] spSize:=by
 refine F.okX scSize (fun vs H Q E h=>?_) (fun cdv A outer s H vs Q E hr h T=>?_)
 ·obtain⟨x,rfl,_⟩:=h
  rfl
 obtain⟨fx,rfl,ok,q⟩:=h
 refine⟨_,pss_cons (ps_if (PW.pt (pw_or (pt_cmpR op_ne (pe_callB call_len_str rfl ml PySem.boot_len (pa_cons (pv 0) pa_nil)) pe_int (nomark _)) (pw_or1 (pt_cmpR op_ne (pe_ix ix_str (pv 0) pe_int (fun _ _=>rfl)) pe_str (nomark _))))) (pss_one (ps_raise T hr.hd rfl mC hC (pa_cons pe_str pa_nil))) pss_nil)
  (pss_cons (ps_set (i:=1) scSize.nd rfl (Or.inl rfl) (pe_op op_add (pe_bm PySem.F.plainAttrs_str PySem.F.slot_str_find PySem.F.type_str_find mt_find (pe_glob (v:=.str sFig) rfl mF ⟨_,rfl⟩) (pa_cons (pe_ix ix_str (pv 0) pe_int (fun _ _=>rfl)) pa_nil)) pe_int))
  (pss_cons (ps_set (i:=2) scSize.nd rfl (Or.inl rfl) (pe_op op_add (pe_bm PySem.F.plainAttrs_str PySem.F.slot_str_find PySem.F.type_str_find mt_find (pe_glob (v:=.str sFig) rfl mF ⟨_,rfl⟩) (pa_cons (pe_ix ix_str (pv 0) pe_int (fun _ _=>rfl)) pa_nil)) pe_int))
  (pss_cons (ps_if (PW.pt (pw_or (pt_cmpR op_eq (pv 1) pe_int (nomark _)) (pw_or (pt_cmpR op_gt (pv 1) (pe_callB call_len_str rfl ml PySem.boot_len (pa_cons (pe_glob (v:=.str sLet) rfl mL ⟨_,rfl⟩) pa_nil)) (nomark _)) (pw_or1 (pt_cmpR op_eq (pv 2) pe_int (nomark _)))))) (pss_one (ps_raise T hr.hd rfl mC hC (pa_cons pe_str pa_nil))) pss_nil)
  (pss_one (ps_ret (pe_tup (pa_cons (pv 1) (pa_cons (pv 2) pa_nil)))))))),?_⟩
 have hz:(sizeT fx).length≤sizeLine:=fits3 3 (by decide)
 have at0:atI (sizeT fx).cps.toList 0=some (48+fx.s):=atI_nat (j:=0) rfl
 have at1:atI (sizeT fx).cps.toList 1=some 120:=atI_nat (j:=1) rfl
 have at2:atI (sizeT fx).cps.toList 2=some (48+fx.h):=atI_nat (j:=2) rfl
 have s1:=ok.s1
 have s4:=ok.s4
 have h1:=ok.h1
 have h8:=ok.h8
 refine⟨_,rfl,_,rfl,hz,rfl,_,rfl,iteF ⟨_,rfl,_,_,_,rfl,rfl,hz,at1,rfl,_,rfl,?_⟩⟩
 rw[decide_eq_true (show V.str ⟨#[120]⟩=V.str "x" by decide +kernel)]
 refine iteF ?_
 refine⟨rfl,_,rfl,_,_,_,rfl,rfl,hz,at0,_,_,rfl,rfl,_,_,rfl,rfl,?_⟩
 refine⟨rfl,_,rfl,_,_,_,rfl,rfl,hz,at2,_,_,rfl,rfl,_,_,rfl,rfl,?_⟩
 rw[find_fig,find_fig,if_pos (by omega),if_pos (by omega)]
 have e1:((48+fx.s - 49:Nat):Int)+1=((fx.s:Nat):Int):=by omega
 have e2:((48+fx.h - 49:Nat):Int)+1=((fx.h:Nat):Int):=by omega
 dsimp only
 rw[e1,e2]
 refine⟨_,rfl,rfl,_,rfl,?_⟩
 rw[decide_eq_false (fun y=>by injection y with y;omega)]
 refine iteF ⟨_,rfl,_,rfl,fits3 4 (by decide),_,_,rfl,rfl,_,rfl,?_⟩
 have l4:((sLet.length:Nat):Int)=4:=by decide +kernel
 rw[l4,decide_eq_false (show ¬ (4:Int) < ((fx.s:Nat):Int) by omega)]
 refine iteF ⟨_,rfl,rfl,_,rfl,?_⟩
 rw[decide_eq_false (fun y=>by injection y with y;omega)]
 refine iteF ⟨_,rfl,_,rfl,fits3 2 (by decide),fun p hp=>q p _ (same_upd hp _) hp upd_same⟩
def spSeats:Sp:=fun vs H Q _=>∃ f:Fx,vs=[.str (seatT f)]∧f.Ok∧∀ H',Same H H'→Q (.int (f.n:Nat)) H'
theorem scSeats:FnScope ["word"] ["word"] (defScope sReadSeats):=⟨rfl,rfl,rfl,by decide +kernel,rfl,by decide +kernel,by decide +kernel⟩
theorem ok_seats{k:Nat}{CN:Addr}(F:Fun K "read_seats" "read_seats" sReadSeats f fd)(mC:mg "NoTable" = some (.ref CN))(hC:PySem.W.excIn K CN veTail "ValueError.__new__" = true)(mI:mg "int" = none):FnOk P w K mg base (CX1 P w) (k+1) f fd ["word"] spSeats:=by
 refine F.okX scSeats (fun vs H Q E h=>?_) (fun cdv A outer s H vs Q E hr h T=>?_)
 ·obtain⟨x,rfl,_⟩:=h
  rfl
 obtain⟨fx,rfl,ok,q⟩:=h
 refine⟨_,pss_cons (ps_if (pt_cmpR op_notIn_seq (pv 0) (pe_tup (pa_cons pe_str (pa_cons pe_str pa_nil))) rfl) (pss_one (ps_raise T hr.hd rfl mC hC (pa_cons pe_str pa_nil))) pss_nil)
  (pss_one (ps_ret (pe_callTy call_int_str rfl mI PyProof.Rows.boot_int (pa_cons (pv 0) pa_nil)))),?_⟩
 refine⟨_,rfl,fits3 2 (by decide),fun p hp=>?_⟩
 have s1:=same_upd hp (.tup (vS ["3","4"]))
 refine⟨p,vS ["3","4"],rfl,.inr (SqT.of upd_same),rfl,rfl,_,rfl,?_⟩
 show if(!inV (.str (seatT fx)) (vS ["3","4"]))=true then _ else _
 rcases ok.n34 with e | e
 ·have es:seatT fx = "3":=by unfold seatT;rw[e];decide +kernel
  rw[es,show inV (.str "3") (vS ["3","4"])=true by decide +kernel]
  refine iteF ⟨_,rfl,_,3,rfl,by decide +kernel,by decide +kernel,?_⟩
  have:=q _ s1
  rw[e] at this
  exact this
 ·have es:seatT fx = "4":=by unfold seatT;rw[e];decide +kernel
  rw[es,show inV (.str "4") (vS ["3","4"])=true by decide +kernel]
  refine iteF ⟨_,rfl,_,4,rfl,by decide +kernel,by decide +kernel,?_⟩
  have:=q _ s1
  rw[e] at this
  exact this
def spOrd:Sp:=fun vs H Q _=>∃(l:List Nat) (h:Nat),vs=[.str (figS l),.int (h:Nat)]∧h≤8∧l.Perm (List.range h)∧∀ p H',Same H H'→H p=none→H' p=some (.tup (vN l))→Q (.ref p) H'
theorem scOrd:FnScope ["word","heights"] ["word","heights"] (defScope sReadOrder):=⟨rfl,rfl,rfl,by decide +kernel,rfl,by decide +kernel,by decide +kernel⟩
theorem ok_ord{k:Nat}{CN:Addr}{t1:Tok}(F:Fun K "read_order" "read_order" sReadOrder f fd)(mF:mg "FIGURES" = some (.str sFig t1))(mC:mg "NoTable" = some (.ref CN))(hC:PySem.W.excIn K CN veTail "ValueError.__new__" = true)(mS:mg "sorted" = none)(mLi:mg "list" = none)(mt:mg "tuple" = none) :
  FnOk P w K mg base (CX1 P w) (k+1) f fd ["word","heights"] spOrd:=by
 refine F.okX scOrd (fun vs H Q E h=>?_) (fun cdv A outer s H vs Q E hr h T=>?_)
 ·obtain⟨l,h,rfl,_⟩:=h
  rfl
 obtain⟨l,h,rfl,h8,pm,q⟩:=h
 refine⟨_,pss_cons (ps_if (pt_cmpR (op_neFL hr.units) (pe_callB (call_sorted_str rfl) rfl mS PyProof.Rows.boot_sorted (pa_cons (pv 0) pa_nil)) (pe_callTy (call_list_strL rfl) rfl mLi PyProof.Rows.boot_list (pa_cons (pe_slice sl_str (pe_glob (v:=.str sFig) rfl mF ⟨_,rfl⟩) po_none (po_some (pv 1))) pa_nil)) (nomark _)) (pss_one (ps_raise T hr.hd rfl mC hC (pa_cons pe_str pa_nil))) pss_nil)
  (pss_one (ps_ret (pe_callTy call_tuple_of rfl mt PyProof.Rows.boot_tuple (pa_cons (pe_comp ["figure"] [none] rfl (Blk.by (sc:=defScope sReadOrder) (N0:=["word","heights"]) rfl rfl (by decide +kernel)) (pi_str (pv 0)) (fun C s₀ H₀ ex=>pg_name (i:=0) (show(["figure"]:List Str).Nodup by decide +kernel) rfl (Or.inl rfl))
   (fun C s₀ H₀ ex=>pf_nil) (fun C s₀ H₀ ex=>pe_findK (K:=K) rfl (pe_glob (v:=.str sFig) rfl mF ⟨_,rfl⟩) (pa_cons (pv 0) pa_nil))) pa_nil)))),?_⟩
 have ll:l.length=h:=perm_len pm
 refine⟨_,rfl,figS l,rfl,(by rw[figS_len];omega),fun l1 ss hl1 hp hs=>?_⟩
 have es:=order_sorted pm hp hs
 subst es
 have s1:=same_upd hl1 (.lst (vS ((List.range h).map sgn)))
 refine⟨_,rfl,_,rfl,sFig,rfl,(by decide +kernel),_,rfl,Nat.le_trans (Txt.slice_le _ _ _) (by decide +kernel),fun l2 hl2=>?_⟩
 rw[fig_slice h h8]
 have s2:=same_upd hl2 (.lst (vS ((List.range h).map sgn)))
 refine⟨l1,l2,_,_,rfl,rfl,⟨SqL.of (s2 _ _ upd_same),SqL.of upd_same⟩,vS_flat _,vS_flat _,_,rfl,?_⟩
 show if(!eqVs (vS ((List.range h).map sgn)) (vS ((List.range h).map sgn)))=true then _ else _
 rw[eqVs_str]
 refine iteF ⟨_,rfl,figS l,rfl,?_⟩
 have sA:=s1.trans s2
 refine comp_any l.length (fun i=>.str (sgn (l.getD i 0))) (fun _=>true) (fun i=>.int ((l.getD i 0:Nat):Int)) (fits3 _ (by omega)) (fun i H3 s3 hi=>?_) (fun H3 s3=>?_) (fun i H3 x H4 s3 hi y=>?_) (fun i H3 hi sm R hR=>hR H3 (Same.refl H3)) (fun i H3 hi hp sm R hR=>?_) (fun l3 H3 s3 hl3 hL3=>?_)
 ·show i < (figS l).cps.size
  have:=figS_len l
  unfold Str.length at this
  omega
 ·show(figS l).cps.size≤l.length
  have:=figS_len l
  unfold Str.length at this
  omega
 ·obtain⟨rfl,c,hc,rfl⟩:=y
  refine⟨rfl,?_⟩
  have e:(figS l).cps.toList[i]? = some c:=by rw[← hc];simp
  rw[show(figS l).cps.toList=l.map (49 + ·) from rfl,List.getElem?_map,List.getElem?_eq_getElem hi] at e
  have e2:49+l[i]=c:=Option.some.inj e
  rw[List.getD_eq_getElem?_getD,List.getElem?_eq_getElem hi,← e2]
  rfl
 ·have lt:l.getD i 0 < 8:=by
   rw[List.getD_eq_getElem?_getD,List.getElem?_eq_getElem hi]
   have:=perm_lt pm l[i] (List.getElem_mem hi)
   show l[i] < 8
   omega
  refine⟨rfl,_,rfl,_,_,rfl,rfl,?_⟩
  show R (.int (Txt.find sFig (sgn (l.getD i 0)))) H3
  rw[find_sgn _ lt]
  exact hR H3 (Same.refl H3)
 ·have e:((List.range l.length).filter fun _=>true).map (fun i=>V.int ((l.getD i 0:Nat):Int))=vN l:=by
   have z:=filter_map_range l (fun _=>true) (fun c=>V.int ((c:Nat):Int)) 0
   rw[z,List.filter_eq_self.mpr (fun _ _=>rfl)]
   rfl
  rw[e] at hL3
  refine⟨l3,_,rfl,.inl ⟨SqL.of hL3,fun p hp=>?_⟩⟩
  have sB:=sA.trans s3
  exact q p _ (sB.trans (same_upd hp _)) (sB.free hp) upd_same
end
end My
namespace My
open PySem L2
def Keep(x:Addr)(H H':Hp):Prop:=∀ b o,b≠x→H b=some o→H' b=some o
theorem Keep.trans{x:Addr}{H H1 H2:Hp}(a:Keep x H H1)(b:Keep x H1 H2):Keep x H H2:=fun c o n h=>b c o n (a c o n h)
theorem Keep.of{x:Addr}{H H':Hp}(s:Same H H'):Keep x H H':=fun b o _ h=>s b o h
theorem Keep.upd{x:Addr}{H:Hp}{o:HO}:Keep x H (upd H x o):=fun b u n h=>by rw[upd_ne n];exact h
def tF1(f:Fx)(po to:Addr):List (Str×V):=putF "suits" (.int (f.s:Nat)) []
def tF2(f:Fx)(po to:Addr):List (Str×V):=putF "heights" (.int (f.h:Nat)) (tF1 f po to)
def tF3(f:Fx)(po to:Addr):List (Str×V):=putF "seats" (.int (f.n:Nat)) (tF2 f po to)
def tF4(f:Fx)(po to:Addr):List (Str×V):=putF "duty_word" (.str (wd f.d)) (tF3 f po to)
def tF5(f:Fx)(po to:Addr):List (Str×V):=putF "plain_order" (.ref po) (tF4 f po to)
def tF6(f:Fx)(po to:Addr):List (Str×V):=putF "trump_order" (.ref to) (tF5 f po to)
def tF7(f:Fx)(po to:Addr):List (Str×V):=putF "written" (.str (tabT f)) (tF6 f po to)
abbrev tabF:=tF7
theorem tF1_len(f:Fx)(po to:Addr):(tF1 f po to).length≤1:=length_putF _ _ _
theorem tF2_len(f:Fx)(po to:Addr):(tF2 f po to).length≤2:=Nat.le_trans (length_putF _ _ _) (Nat.succ_le_succ (tF1_len f po to))
theorem tF3_len(f:Fx)(po to:Addr):(tF3 f po to).length≤3:=Nat.le_trans (length_putF _ _ _) (Nat.succ_le_succ (tF2_len f po to))
theorem tF4_len(f:Fx)(po to:Addr):(tF4 f po to).length≤4:=Nat.le_trans (length_putF _ _ _) (Nat.succ_le_succ (tF3_len f po to))
theorem tF5_len(f:Fx)(po to:Addr):(tF5 f po to).length≤5:=Nat.le_trans (length_putF _ _ _) (Nat.succ_le_succ (tF4_len f po to))
theorem tF6_len(f:Fx)(po to:Addr):(tF6 f po to).length≤6:=Nat.le_trans (length_putF _ _ _) (Nat.succ_le_succ (tF5_len f po to))
theorem look7_suits(f:Fx)(po to:Addr):(tF7 f po to).lookup ("suits":Str)=some (V.int (f.s:Nat)):=by
 unfold tF7
 rw[lookup_putF]
 rw[if_neg (by decide +kernel)]
 unfold tF6
 rw[lookup_putF]
 rw[if_neg (by decide +kernel)]
 unfold tF5
 rw[lookup_putF]
 rw[if_neg (by decide +kernel)]
 unfold tF4
 rw[lookup_putF]
 rw[if_neg (by decide +kernel)]
 unfold tF3
 rw[lookup_putF]
 rw[if_neg (by decide +kernel)]
 unfold tF2
 rw[lookup_putF]
 rw[if_neg (by decide +kernel)]
 unfold tF1
 rw[lookup_putF]
 rw[if_pos rfl]
theorem look7_heights(f:Fx)(po to:Addr):(tF7 f po to).lookup ("heights":Str)=some (V.int (f.h:Nat)):=by
 unfold tF7
 rw[lookup_putF]
 rw[if_neg (by decide +kernel)]
 unfold tF6
 rw[lookup_putF]
 rw[if_neg (by decide +kernel)]
 unfold tF5
 rw[lookup_putF]
 rw[if_neg (by decide +kernel)]
 unfold tF4
 rw[lookup_putF]
 rw[if_neg (by decide +kernel)]
 unfold tF3
 rw[lookup_putF]
 rw[if_neg (by decide +kernel)]
 unfold tF2
 rw[lookup_putF]
 rw[if_pos rfl]
theorem look7_seats(f:Fx)(po to:Addr):(tF7 f po to).lookup ("seats":Str)=some (V.int (f.n:Nat)):=by
 unfold tF7
 rw[lookup_putF]
 rw[if_neg (by decide +kernel)]
 unfold tF6
 rw[lookup_putF]
 rw[if_neg (by decide +kernel)]
 unfold tF5
 rw[lookup_putF]
 rw[if_neg (by decide +kernel)]
 unfold tF4
 rw[lookup_putF]
 rw[if_neg (by decide +kernel)]
 unfold tF3
 rw[lookup_putF]
 rw[if_pos rfl]
theorem look7_duty_word(f:Fx)(po to:Addr):(tF7 f po to).lookup ("duty_word":Str)=some (V.str (wd f.d)):=by
 unfold tF7
 rw[lookup_putF]
 rw[if_neg (by decide +kernel)]
 unfold tF6
 rw[lookup_putF]
 rw[if_neg (by decide +kernel)]
 unfold tF5
 rw[lookup_putF]
 rw[if_neg (by decide +kernel)]
 unfold tF4
 rw[lookup_putF]
 rw[if_pos rfl]
theorem look7_plain_order(f:Fx)(po to:Addr):(tF7 f po to).lookup ("plain_order":Str)=some (V.ref po):=by
 unfold tF7
 rw[lookup_putF]
 rw[if_neg (by decide +kernel)]
 unfold tF6
 rw[lookup_putF]
 rw[if_neg (by decide +kernel)]
 unfold tF5
 rw[lookup_putF]
 rw[if_pos rfl]
theorem look7_trump_order(f:Fx)(po to:Addr):(tF7 f po to).lookup ("trump_order":Str)=some (V.ref to):=by
 unfold tF7
 rw[lookup_putF]
 rw[if_neg (by decide +kernel)]
 unfold tF6
 rw[lookup_putF]
 rw[if_pos rfl]
theorem look4_heights(f:Fx)(po to:Addr):(tF4 f po to).lookup ("heights":Str)=some (V.int (f.h:Nat)):=by
 unfold tF4
 rw[lookup_putF]
 rw[if_neg (by decide +kernel)]
 unfold tF3
 rw[lookup_putF]
 rw[if_neg (by decide +kernel)]
 unfold tF2
 rw[lookup_putF]
 rw[if_pos rfl]
theorem look5_heights(f:Fx)(po to:Addr):(tF5 f po to).lookup ("heights":Str)=some (V.int (f.h:Nat)):=by
 unfold tF5
 rw[lookup_putF]
 rw[if_neg (by decide +kernel)]
 unfold tF4
 rw[lookup_putF]
 rw[if_neg (by decide +kernel)]
 unfold tF3
 rw[lookup_putF]
 rw[if_neg (by decide +kernel)]
 unfold tF2
 rw[lookup_putF]
 rw[if_pos rfl]
theorem look7_duty(f:Fx)(po to:Addr):(tF7 f po to).lookup ("duty":Str)=none:=by
 unfold tF7
 rw[lookup_putF]
 rw[if_neg (by decide +kernel)]
 unfold tF6
 rw[lookup_putF]
 rw[if_neg (by decide +kernel)]
 unfold tF5
 rw[lookup_putF]
 rw[if_neg (by decide +kernel)]
 unfold tF4
 rw[lookup_putF]
 rw[if_neg (by decide +kernel)]
 unfold tF3
 rw[lookup_putF]
 rw[if_neg (by decide +kernel)]
 unfold tF2
 rw[lookup_putF]
 rw[if_neg (by decide +kernel)]
 unfold tF1
 rw[lookup_putF]
 rw[if_neg (by decide +kernel)]
 rfl
theorem look7_order(f:Fx)(po to:Addr):(tF7 f po to).lookup ("order":Str)=none:=by
 unfold tF7
 rw[lookup_putF]
 rw[if_neg (by decide +kernel)]
 unfold tF6
 rw[lookup_putF]
 rw[if_neg (by decide +kernel)]
 unfold tF5
 rw[lookup_putF]
 rw[if_neg (by decide +kernel)]
 unfold tF4
 rw[lookup_putF]
 rw[if_neg (by decide +kernel)]
 unfold tF3
 rw[lookup_putF]
 rw[if_neg (by decide +kernel)]
 unfold tF2
 rw[lookup_putF]
 rw[if_neg (by decide +kernel)]
 unfold tF1
 rw[lookup_putF]
 rw[if_neg (by decide +kernel)]
 rfl
structure TabC(K:PySem.W.Frag)(mg:Str→Option Value)(CT:Addr):Prop where
 cl:Cls K CT
 mT:mg "Table" = some (.ref CT)
 nS:NoAttr K CT "suits"
 nH:NoAttr K CT "heights"
 nN:NoAttr K CT "seats"
 nD:NoAttr K CT "duty_word"
 nP:NoAttr K CT "plain_order"
 nT:NoAttr K CT "trump_order"
 nW:NoAttr K CT "written"
def IsTab(CT:Addr)(f:Fx)(H:Hp)(x:Addr):Prop:=∃ dx po to,H x=some (.ins CT dx (tabF f po to))∧H po=some (.tup (vN f.pl))∧H to=some (.tup (vN f.tr))
theorem IsTab.same{CT x:Addr}{f:Fx}{H H':Hp}(h:IsTab CT f H x)(s:Same H H'):IsTab CT f H' x:=by
 obtain⟨dx,po,to,a,b,c⟩:=h
 exact⟨dx,po,to,s _ _ a,s _ _ b,s _ _ c⟩
def gamF(x:Addr)(tv:V):List (Str×V):=putF "trump" tv (putF "table" (.ref x) [])
theorem gam_table(x:Addr)(tv:V):(gamF x tv).lookup ("table":Str)=some (V.ref x):=by
 unfold gamF
 rw[lookup_putF,if_neg (by decide +kernel),lookup_putF,if_pos rfl]
theorem gam_trump(x:Addr)(tv:V):(gamF x tv).lookup ("trump":Str)=some tv:=by
 unfold gamF
 rw[lookup_putF,if_pos rfl]
theorem gam_none(x:Addr)(tv:V)(m:Str)(h1:m≠"trump")(h2:m≠"table"):(gamF x tv).lookup m=none:=by
 unfold gamF
 rw[lookup_putF,if_neg h1,lookup_putF,if_neg h2]
 rfl
structure GamC(K:PySem.W.Frag)(mg:Str→Option Value)(CG:Addr):Prop where
 cl:Cls K CG
 mG:mg "Game" = some (.ref CG)
 nT:NoAttr K CG "table"
 nU:NoAttr K CG "trump"
def IsGam(CG x:Addr)(tv:V)(H:Hp)(g:Addr):Prop:=∃ dg,H g=some (.ins CG dg (gamF x tv))
theorem IsGam.same{CG x g:Addr}{tv:V}{H H':Hp}(h:IsGam CG x tv H g)(s:Same H H'):IsGam CG x tv H' g:=by
 obtain⟨dg,a⟩:=h
 exact⟨dg,s _ _ a⟩
end My
namespace My
open PySem L2
abbrev sTabInit:Stmt:=inClass (top 70) 0
theorem fromH{F:Hp→Prop}{H H':Hp}(e:H'=H)(h:F H):F H':=by rw[e];exact h
section
variable{P:Program}{w:World}{K:PySem.W.Frag}{mg:Str→Option Value}{base:Heap}{f g:Addr}{fd gd:FuncData}
def spTab(CT:Addr):Sp:=fun vs H Q _=>∃(x dx:Addr) (f:Fx),vs=[.ref x,.str (tabT f)]∧f.Ok∧H x=some (.ins CT dx [])∧∀ po to H',Keep x H H'→H' x=some (.ins CT dx (tabF f po to))→H' po=some (.tup (vN f.pl))→H' to=some (.tup (vN f.tr))→Q .non H'
theorem scTab:FnScope ["self","text","words","size"] ["self","text"] (defScope sTabInit):=⟨rfl,rfl,rfl,by decide +kernel,rfl,by decide +kernel,by decide +kernel⟩
theorem ok_tab{k:Nat}{CT CN f1 f2 f3 f4 f5:Addr}{d1 d2 d3 d4 d5:FuncData}{cs fw:Fin 4→Addr}{fdw:Fin 4→FuncData}(F:Fun K "__init__" "Table.__init__" sTabInit f fd)(C:TabC K mg CT)(LM:LibX P w K mg base k "words_behind_marks" ["text"] spMarks f1 d1)(LZ:LibX P w K mg base k "read_size" ["word"] spSize f2 d2)
  (LS:LibX P w K mg base k "read_seats" ["word"] spSeats f3 d3) (LO:LibX P w K mg base k "read_order" ["word","heights"] spOrd f4 d4) (LD:LibX P w K mg base k "duty_of" ["word"] (spDuty cs CN) f5 d5) (W:WordF P w K mg base k cs fw fdw):FnOk P w K mg base CX0 (k+1) f fd ["self","text"] (spTab CT):=by
 refine F.ok scTab (fun vs H Q E h=>?_) (fun cdv A outer s H vs Q E hr h=>?_)
 ·obtain⟨x,dx,fx,rfl,_⟩:=h
  rfl
 obtain⟨x,dx,fx,rfl,ok,hx,q⟩:=h
 refine⟨_,pss_cons (ps_set (i:=2) scTab.nd rfl (Or.inl rfl) (pe_call LM.ok hr rfl LM.mg LM.kp LM.bd .nil pass1 (pa_cons (pv 1) pa_nil)))
  (pss_cons (ps_set (i:=3) scTab.nd rfl (Or.inl rfl) (pe_call LZ.ok hr rfl LZ.mg LZ.kp LZ.bd .nil pass1 (pa_cons (pe_ix ix_list (pv 2) pe_int (fun _ _=>rfl)) pa_nil)))
  (pss_cons (ps_fld (pv 0) (pe_ix ix_tup (pv 3) pe_int (fun _ _=>rfl)) rfl)
  (pss_cons (ps_fld (pv 0) (pe_ix ix_tup (pv 3) pe_int (fun _ _=>rfl)) rfl)
  (pss_cons (ps_fld (pv 0) (pe_call LS.ok hr rfl LS.mg LS.kp LS.bd .nil pass1 (pa_cons (pe_ix ix_list (pv 2) pe_int (fun _ _=>rfl)) pa_nil)) rfl)
  (pss_cons (ps_fld (pv 0) (pe_methF0 (pe_call LD.ok hr rfl LD.mg LD.kp LD.bd .nil pass1 (pa_cons (pe_ix ix_list (pv 2) pe_int (fun _ _=>rfl)) pa_nil)) W hr pass0) rfl)
  (pss_cons (ps_fld (pv 0) (pe_call LO.ok hr rfl LO.mg LO.kp LO.bd .nil pass1 (pa_cons (pe_ix ix_list (pv 2) pe_int (fun _ _=>rfl)) (pa_cons (pe_fld (pv 0) rfl) pa_nil))) rfl)
  (pss_cons (ps_fld (pv 0) (pe_call LO.ok hr rfl LO.mg LO.kp LO.bd .nil pass1 (pa_cons (pe_ix ix_list (pv 2) pe_int (fun _ _=>rfl)) (pa_cons (pe_fld (pv 0) rfl) pa_nil))) rfl)
  (pss_one (ps_fld (pv 0) (pv 1) rfl))))))))),?_⟩
 refine⟨_,rfl,fx,rfl,ok,fun l H1 s1 hl hL=>?_⟩
 have hx1:=s1 _ _ hx
 have nlx:l≠x:=ne_of hL hx1 (by intro z;cases z)
 refine⟨_,rfl,l,_,0,.str (sizeT fx),rfl,rfl,SqL.of hL,rfl,fx,rfl,ok,fun p H2 s2 hp hP=>?_⟩
 have hx2:=s2 _ _ hx1
 have hL2:=s2 _ _ hL
 have npx:p≠x:=ne_of hP hx2 (by intro z;cases z)
 refine⟨_,rfl,p,_,0,.int (fx.s:Nat),rfl,rfl,SqT.of hP,rfl,_,rfl,x,CT,dx,[],rfl,hx2,C.cl,C.nS,by decide,?_⟩
 refine⟨_,rfl,p,[.int (fx.s:Nat),.int (fx.h:Nat)],1,.int (fx.h:Nat),rfl,rfl,SqT.of (by rw[upd_ne npx];exact hP),rfl,_,rfl,x,CT,dx,tF1 fx 0 0,rfl,upd_same,C.cl,C.nH,Nat.lt_of_le_of_lt (tF1_len _ _ _) (by decide),?_⟩
 have k2:Keep x H (upd H2 x (.ins CT dx (tF2 fx 0 0))):=(Keep.of (s1.trans s2)).trans Keep.upd
 have hL3:(upd H2 x (.ins CT dx (tF2 fx 0 0))) l=some (.lst (vS [sizeT fx,seatT fx,wd fx.d,figS fx.pl,figS fx.tr])):=by rw[upd_ne nlx];exact hL2
 have hx3:(upd H2 x (.ins CT dx (tF2 fx 0 0))) x=some (.ins CT dx (tF2 fx 0 0)):=upd_same
 refine fromH (H:=upd H2 x (.ins CT dx (tF2 fx 0 0))) ?_ ?_
 ·first | rfl | exact upd_upd | (rw[upd_upd];rfl)
 revert k2 hL3 hx3
 generalize upd H2 x (.ins CT dx (tF2 fx 0 0))=H3
 intro k2 hL3 hx3
 refine⟨_,rfl,l,_,1,.str (seatT fx),rfl,rfl,SqL.of hL3,rfl,fx,rfl,ok,fun H4 s4=>⟨_,rfl,x,CT,dx,tF2 fx 0 0,rfl,s4 _ _ hx3,C.cl,C.nN,Nat.lt_of_le_of_lt (tF2_len _ _ _) (by decide),?_⟩⟩
 have k4:Keep x H (upd H4 x (.ins CT dx (tF3 fx 0 0))):=k2.trans ((Keep.of s4).trans Keep.upd)
 have hL5:(upd H4 x (.ins CT dx (tF3 fx 0 0))) l=some (.lst (vS [sizeT fx,seatT fx,wd fx.d,figS fx.pl,figS fx.tr])):=by rw[upd_ne nlx];exact s4 _ _ hL3
 have hx5:(upd H4 x (.ins CT dx (tF3 fx 0 0))) x=some (.ins CT dx (tF3 fx 0 0)):=upd_same
 refine fromH (H:=upd H4 x (.ins CT dx (tF3 fx 0 0))) ?_ ?_
 ·first | rfl | exact upd_upd | (rw[upd_upd];rfl)
 revert k4 hL5 hx5
 generalize upd H4 x (.ins CT dx (tF3 fx 0 0))=H5
 intro k4 hL5 hx5
 refine⟨_,rfl,l,_,2,.str (wd fx.d),rfl,rfl,SqL.of hL5,rfl,wd fx.d,rfl,fun i e y dy H6 s6 hy h6=>?_,fun z=>absurd (mem_wd _) z⟩
 have ei:=wd_inj _ _ e
 subst ei
 refine⟨fx.d,y,dy,[],rfl,h6,rfl,y,rfl,_,rfl,x,CT,dx,tF3 fx 0 0,rfl,s6 _ _ hx5,C.cl,C.nD,Nat.lt_of_le_of_lt (tF3_len _ _ _) (by decide),?_⟩
 have k6:Keep x H (upd H6 x (.ins CT dx (tF4 fx 0 0))):=k4.trans ((Keep.of s6).trans Keep.upd)
 have hL7:(upd H6 x (.ins CT dx (tF4 fx 0 0))) l=some (.lst (vS [sizeT fx,seatT fx,wd fx.d,figS fx.pl,figS fx.tr])):=by rw[upd_ne nlx];exact s6 _ _ hL5
 have hx7:(upd H6 x (.ins CT dx (tF4 fx 0 0))) x=some (.ins CT dx (tF4 fx 0 0)):=upd_same
 refine fromH (H:=upd H6 x (.ins CT dx (tF4 fx 0 0))) ?_ ?_
 ·first | rfl | exact upd_upd | (rw[upd_upd];rfl)
 revert k6 hL7 hx7
 generalize upd H6 x (.ins CT dx (tF4 fx 0 0))=H7
 intro k6 hL7 hx7
 refine⟨_,rfl,l,_,3,.str (figS fx.pl),rfl,rfl,SqL.of hL7,rfl,_,rfl,x,CT,dx,_,_,rfl,hx7,C.cl,C.nH,look4_heights _ _ _,fx.pl,fx.h,rfl,ok.h8,ok.pp,fun po H8 s8 hpo hP8=>⟨_,rfl,x,CT,dx,tF4 fx po 0,rfl,s8 _ _ hx7,C.cl,C.nP,Nat.lt_of_le_of_lt (tF4_len _ _ _) (by decide),?_⟩⟩
 have nox:po≠x:=fun z=>by
  rw[z,hx7] at hpo
  cases hpo
 have k8:Keep x H (upd H8 x (.ins CT dx (tF5 fx po 0))):=k6.trans ((Keep.of s8).trans Keep.upd)
 have hL9:(upd H8 x (.ins CT dx (tF5 fx po 0))) l=some (.lst (vS [sizeT fx,seatT fx,wd fx.d,figS fx.pl,figS fx.tr])):=by rw[upd_ne nlx];exact s8 _ _ hL7
 have hP9:(upd H8 x (.ins CT dx (tF5 fx po 0))) po=some (.tup (vN fx.pl)):=by rw[upd_ne nox];exact hP8
 have hx9:(upd H8 x (.ins CT dx (tF5 fx po 0))) x=some (.ins CT dx (tF5 fx po 0)):=upd_same
 refine fromH (H:=upd H8 x (.ins CT dx (tF5 fx po 0))) ?_ ?_
 ·first | rfl | exact upd_upd | (rw[upd_upd];rfl)
 revert k8 hL9 hP9 hx9
 generalize upd H8 x (.ins CT dx (tF5 fx po 0))=H9
 intro k8 hL9 hP9 hx9
 refine⟨_,rfl,l,_,4,.str (figS fx.tr),rfl,rfl,SqL.of hL9,rfl,_,rfl,x,CT,dx,_,_,rfl,hx9,C.cl,C.nH,look5_heights _ _ _,fx.tr,fx.h,rfl,ok.h8,ok.pt,fun to H10 s10 hto hT10=>⟨_,rfl,x,CT,dx,tF5 fx po to,rfl,s10 _ _ hx9,C.cl,C.nT,Nat.lt_of_le_of_lt (tF5_len _ _ _) (by decide),?_⟩⟩
 have ntx:to≠x:=fun z=>by
  rw[z,hx9] at hto
  cases hto
 refine⟨_,rfl,_,rfl,x,CT,dx,tF6 fx po to,rfl,upd_same,C.cl,C.nW,Nat.lt_of_le_of_lt (tF6_len _ _ _) (by decide),?_⟩
 rw[upd_upd]
 refine q po to _ (k8.trans ((Keep.of s10).trans Keep.upd)) upd_same ?_ ?_
 ·rw[upd_ne nox];exact s10 _ _ hP9
 ·rw[upd_ne ntx];exact hT10
end
end My
namespace My
open PySem L2
abbrev sTabDuty:Stmt:=inClass (top 70) 2
abbrev sTabOrder:Stmt:=inClass (top 70) 3
abbrev sGamInit:Stmt:=inClass (top 71) 0
section
variable{P:Program}{w:World}{K:PySem.W.Frag}{mg:Str→Option Value}{base:Heap}{f g:Addr}{fd gd:FuncData}
def spTDuty(CT:Addr):Sp:=fun vs H Q _=>∃(x:Addr) (f:Fx),vs=[.ref x]∧IsTab CT f H x∧Q (.str (wd f.d)) H
theorem scTDuty:FnScope ["self"] ["self"] (defScope sTabDuty):=⟨rfl,rfl,rfl,by decide +kernel,rfl,by decide +kernel,by decide +kernel⟩
theorem ok_tduty{k:Nat}{CT:Addr}(F:Fun K "duty" "Table.duty" sTabDuty f fd)(C:TabC K mg CT):FnOk P w K mg base CX0 (k+1) f fd ["self"] (spTDuty CT):=by
 refine F.ok scTDuty (fun vs H Q E h=>?_) (fun cdv A outer s H vs Q E hr h=>?_)
 ·obtain⟨x,fx,rfl,_⟩:=h
  rfl
 obtain⟨x,fx,rfl,⟨dx,po,to,hx,_,_⟩,q⟩:=h
 refine⟨_,pss_one (ps_ret (pe_fld (pv 0) rfl)),?_⟩
 exact⟨_,rfl,x,CT,dx,_,_,rfl,hx,C.cl,C.nD,look7_duty_word _ _ _,q⟩
def ordOf(f:Fx)(b:Bool):List Nat:=if b then f.tr else f.pl
def spTOrder(CT:Addr):Sp:=fun vs H Q _=>∃(x:Addr) (f:Fx) (b:Bool),vs=[.ref x,.bl b]∧IsTab CT f H x∧∀ l H',Same H H'→H l=none→H' l=some (.lst (vN (ordOf f b)))→Q (.ref l) H'
theorem scTOrder:FnScope ["self","is_trump"] ["self","is_trump"] (defScope sTabOrder):=⟨rfl,rfl,rfl,by decide +kernel,rfl,by decide +kernel,by decide +kernel⟩
theorem ok_torder{k:Nat}{CT:Addr}(F:Fun K "order" "Table.order" sTabOrder f fd)(C:TabC K mg CT)(mLi:mg "list" = none):FnOk P w K mg base CX0 (k+1) f fd ["self","is_trump"] (spTOrder CT):=by
 refine F.ok scTOrder (fun vs H Q E h=>?_) (fun cdv A outer s H vs Q E hr h=>?_)
 ·obtain⟨x,fx,b,rfl,_⟩:=h
  rfl
 obtain⟨x,fx,b,rfl,⟨dx,po,to,hx,hp,ht⟩,q⟩:=h
 refine⟨_,pss_one (ps_ret (pe_callTy call_list_of rfl mLi PyProof.Rows.boot_list (pa_cons (pe_ifExp (pt_truth (pv 1) (fun _=>rfl)) (pe_fld (pv 0) rfl) (pe_fld (pv 0) rfl)) pa_nil))),?_⟩
 refine⟨_,rfl,b,rfl,?_⟩
 cases b with
 | true=>exact iteT ⟨_,rfl,x,CT,dx,_,_,rfl,hx,C.cl,C.nT,look7_trump_order _ _ _,to,_,rfl,.inr (SqT.of ht),fun l hl=>q l _ (same_upd hl _) hl upd_same⟩
 | false=>exact iteF ⟨_,rfl,x,CT,dx,_,_,rfl,hx,C.cl,C.nP,look7_plain_order _ _ _,po,_,rfl,.inr (SqT.of hp),fun l hl=>q l _ (same_upd hl _) hl upd_same⟩
def spGam(CG:Addr):Sp:=fun vs H Q _=>∃(g dg x:Addr) (tv:V),vs=[.ref g,.ref x,tv]∧H g=some (.ins CG dg [])∧Q .non (upd H g (.ins CG dg (gamF x tv)))
theorem scGam:FnScope ["self","table","trump"] ["self","table","trump"] (defScope sGamInit):=⟨rfl,rfl,rfl,by decide +kernel,rfl,by decide +kernel,by decide +kernel⟩
theorem ok_gam{k:Nat}{CG:Addr}(F:FunD K "__init__" "Game.__init__" sGamInit f fd)(C:GamC K mg CG):FnOk P w K mg base CX0 (k+1) f fd ["self","table","trump"] (spGam CG):=by
 refine F.ok scGam (fun vs H Q E h=>?_) (fun cdv A outer s H vs Q E hr h=>?_)
 ·obtain⟨g,dg,x,tv,rfl,_⟩:=h
  rfl
 obtain⟨g,dg,x,tv,rfl,hg,q⟩:=h
 refine⟨_,pss_cons (ps_fld (pv 0) (pv 1) rfl) (pss_one (ps_fld (pv 0) (pv 2) rfl)),?_⟩
 refine⟨_,rfl,_,rfl,g,CG,dg,[],rfl,hg,C.cl,C.nT,by decide,?_⟩
 refine⟨_,rfl,_,rfl,g,CG,dg,putF "table" (.ref x) [],rfl,upd_same,C.cl,C.nU,Nat.lt_of_le_of_lt (length_putF _ _ _) (by decide),?_⟩
 rw[upd_upd]
 exact q
end
end My
namespace My
open PySem L2
def packL(s h:Nat):List Nat:=(List.range s).flatMap fun u=>(List.range h).map fun v=>8 * u+v
def packN(s h:Nat):Nat:=((packL s h).map (2 ^ ·)).sum
end My
namespace L2
open PySem PySem.Spec PyProof.Rows
theorem op_isB{X:Cx}:OpR X (compareOp .Is) (fun x y H Q=>∃ a b,x = .bl a∧y = .bl b∧Q (.bl (a == b)) H):=by
 intro pins s σ H x y v u Q I rx ry h
 obtain⟨a,b,rfl,rfl,q⟩:=h
 cases rx
 cases ry
 have e:(compareOp .Is (.bool a) (.bool b):Sem Value)=pure (.bool (a == b)):=by cases a<;>cases b<;>rfl
 rw[e]
 exact wpAny_pure ⟨.bl _,H,I,rfl,q⟩
end L2
namespace My
open PySem L2
def pos(x:Nat):List Nat→Nat
 | []=>0
 | y :: l=>if y=x then 0 else pos x l+1
theorem pos_at{x:Nat}:∀{l:List Nat},x∈l→l[pos x l]? = some x∧∀ m < pos x l,l[m]?≠some x
 | [],h=>nomatch h
 | y :: l,h=>by
  unfold pos
  by_cases c:y=x
  ·rw[if_pos c]
   exact⟨by rw[c];rfl,fun m hm=>absurd hm (Nat.not_lt_zero _)⟩
  ·rw[if_neg c]
   have hl:x∈l:=by
    rcases List.mem_cons.mp h with e | e
    ·exact absurd e.symm c
    ·exact e
   obtain⟨a,b⟩:=pos_at hl
   refine⟨a,fun m hm=>?_⟩
   cases m with
   | zero=>exact fun z=>c (Option.some.inj z)
   | succ m=>exact b m (by omega)
theorem pos_inj{l:List Nat}{x y:Nat}(hx:x∈l)(hy:y∈l)(e:pos x l=pos y l):x=y:=by
 have a:=(pos_at hx).1
 have b:=(pos_at hy).1
 rw[e,b] at a
 exact(Option.some.inj a).symm
def tvV:Option Nat→V
 | none=>.non
 | some t=>.int (t:Nat)
theorem tv_eq(t:Option Nat)(s:Nat):decide (V.int (s:Nat)=tvV t)=decide (t=some s):=by
 cases t with
 | none=>
  rw[decide_eq_false (fun z=>nomatch z),decide_eq_false (fun z=>nomatch z)]
 | some u=>
  by_cases c:s=u
  ·subst c
   rw[decide_eq_true (show V.int (s:Nat)=tvV (some s) from rfl),decide_eq_true rfl]
  ·rw[decide_eq_false (fun z=>c (by injection z with z;omega)),decide_eq_false (fun z=>c (Option.some.inj z).symm)]
theorem tv_scal(t:Option Nat)(s:Int):scal (.int s) (tvV t)=true:=by cases t<;>rfl
theorem tv_flat(t:Option Nat):flatV (tvV t)=true:=by cases t<;>rfl
def overB(f:Fx)(t:Option Nat)(c o led:Nat):Bool:=
 if c / 8=o / 8 then decide (c / 8=led∨t=some (c / 8)) && decide (pos (o % 8) (if t=some (c / 8) then f.tr else f.pl) < pos (c % 8) (if t=some (c / 8) then f.tr else f.pl))
 else if t=some (c / 8) then true else decide (c / 8=led) && !decide (t=some (o / 8))
theorem ov_same{f:Fx}{t:Option Nat}{c o led:Nat}(h:c / 8=o / 8):overB f t c o led=(decide (c / 8=led∨t=some (c / 8)) && decide (pos (o % 8) (if t=some (c / 8) then f.tr else f.pl) < pos (c % 8) (if t=some (c / 8) then f.tr else f.pl))):=if_pos h
theorem ov_diff{f:Fx}{t:Option Nat}{c o led:Nat}(h:¬ c / 8=o / 8):overB f t c o led=(if t=some (c / 8) then true else decide (c / 8=led) && !decide (t=some (o / 8))):=if_neg h
theorem over_not_both(f:Fx)(t:Option Nat)(c o led:Nat):overB f t c o led=true→overB f t o c led=true→False:=by
 by_cases s:c / 8=o / 8
 ·rw[ov_same s,ov_same s.symm,← s]
  intro a b
  rw[Bool.and_eq_true,decide_eq_true_eq,decide_eq_true_eq] at a b
  omega
 ·rw[ov_diff s,ov_diff (fun z=>s z.symm)]
  by_cases c1:t=some (c / 8)
  ·have c2:¬ t=some (o / 8):=fun z=>s (by rw[c1] at z;exact Option.some.inj z)
   rw[if_neg c2]
   intro _ b
   rw[decide_eq_true c1] at b
   simp at b
  ·rw[if_neg c1]
   by_cases c2:t=some (o / 8)
   ·intro a _
    rw[decide_eq_true c2] at a
    simp at a
   ·rw[if_neg c2]
    intro a b
    rw[Bool.and_eq_true,decide_eq_true_eq] at a b
    omega
theorem over_strong{f:Fx}(ok:f.Ok){t:Option Nat}{c o led:Nat}(hc:c % 8 < f.h)(ho:o % 8 < f.h)(ne:c≠o)(s1:c / 8=led∨t=some (c / 8))(s2:o / 8=led∨t=some (o / 8)):overB f t c o led=true∨overB f t o c led=true:=by
 by_cases s:c / 8=o / 8
 ·rw[ov_same s,ov_same s.symm,← s,decide_eq_true s1,Bool.true_and,Bool.true_and,decide_eq_true_eq,decide_eq_true_eq]
  have hmem:∀ x,x < f.h→x∈(if t=some (c / 8) then f.tr else f.pl):=fun x hx=>by
   split
   ·exact ok.pt.symm.subset (List.mem_range.mpr hx)
   ·exact ok.pp.symm.subset (List.mem_range.mpr hx)
  have np:pos (c % 8) (if t=some (c / 8) then f.tr else f.pl)≠pos (o % 8) (if t=some (c / 8) then f.tr else f.pl):=fun z=>by
   have:=pos_inj (hmem _ hc) (hmem _ ho) z
   omega
  omega
 ·rw[ov_diff s,ov_diff (fun z=>s z.symm)]
  by_cases c1:t=some (c / 8)
  ·exact .inl (if_pos c1)
  ·by_cases c2:t=some (o / 8)
   ·exact .inr (if_pos c2)
   ·exfalso
    rcases s1 with s1 | s1
    ·rcases s2 with s2 | s2
     ·omega
     ·exact c2 s2
    ·exact c1 s1
theorem inV_two(s led:Nat)(t:Option Nat):inV (.int (s:Nat)) [tvV t,.int (led:Nat)]=decide (s=led∨t=some s):=by
 have e:inV (.int (s:Nat)) [tvV t,.int (led:Nat)]=(eqV (tvV t) (.int (s:Nat)) || (eqV (.int (led:Nat)) (.int (s:Nat)) || false)):=rfl
 rw[e]
 have e1:eqV (tvV t) (.int (s:Nat))=decide (t=some s):=by
  cases t with
  | none=>rw[decide_eq_false (fun z=>nomatch z)];rfl
  | some u=>
   show(((u:Nat):Int) == (s:Nat))=_
   by_cases c:u=s
   ·subst c;simp
   ·rw[decide_eq_false (fun z=>c (Option.some.inj z))]
    exact beq_eq_false_iff_ne.mpr (by omega)
 have e2:eqV (.int (led:Nat)) (.int (s:Nat))=decide (s=led):=by
  show(((led:Nat):Int) == (s:Nat))=_
  by_cases c:s=led
  ·subst c;simp
  ·rw[decide_eq_false c]
   exact beq_eq_false_iff_ne.mpr (by omega)
 rw[e1,e2]
 by_cases a:s=led<;>by_cases b:t=some s<;>simp [a,b]
theorem in_vN(x:Nat):∀(l:List Nat),inV (.int (x:Nat)) (vN l)=decide (x∈l)
 | []=>by rw[decide_eq_false (List.not_mem_nil)];rfl
 | y :: l=>by
  have e:inV (.int (x:Nat)) (vN (y :: l))=((((y:Nat):Int) == (x:Nat)) || inV (.int (x:Nat)) (vN l)):=rfl
  rw[e,in_vN x l]
  by_cases c:x=y
  ·subst c
   simp
  ·have b:(((y:Nat):Int) == (x:Nat))=false:=beq_eq_false_iff_ne.mpr (by omega)
   rw[b,Bool.false_or]
   by_cases d:x∈l
   ·rw[decide_eq_true d,decide_eq_true (List.mem_cons_of_mem _ d)]
   ·rw[decide_eq_false d,decide_eq_false fun z=>by
     rcases List.mem_cons.mp z with z | z
     ·exact c z
     ·exact d z]
theorem vN_flat:∀(l:List Nat),(vN l).all flatV=true
 | []=>rfl
 | _ :: l=>by
  show(true && (vN l).all flatV)=true
  rw[vN_flat l]
  rfl
theorem ix_vN{l:List Nat}{x:Nat}(h:x∈l):(l.map fun c=>((c:Nat):Int))[pos x l]? = some ((x:Nat):Int)∧∀ m < pos x l,(l.map fun c=>((c:Nat):Int))[m]?≠some ((x:Nat):Int):=by
 obtain⟨a,b⟩:=pos_at h
 refine⟨by rw[List.getElem?_map,a];rfl,fun m hm z=>?_⟩
 rw[List.getElem?_map] at z
 cases e:l[m]? with
 | none=>rw[e] at z;cases z
 | some y=>
  rw[e] at z
  have:((y:Nat):Int)=(x:Nat):=Option.some.inj z
  have ey:y=x:=by omega
  rw[ey] at e
  exact b m hm e
end My
namespace My
open PySem L2
abbrev sLater:Stmt:=top 69
abbrev sStronger:Stmt:=inClass (top 71) 2
abbrev sOver:Stmt:=inClass (top 71) 3
section
variable{P:Program}{w:World}{K:PySem.W.Frag}{mg:Str→Option Value}{base:Heap}{f g:Addr}{fd gd:FuncData}
theorem chg{a b:Bool}{A B:Prop}(e:a=b)(h:if b=true then A else B):if a=true then A else B:=by rw[e];exact h
theorem chgQ{a b:Bool}{Q:VK}{H:Hp}(e:a=b)(h:Q (.bl b) H):Q (.bl a) H:=by rw[e];exact h
def spLater(K:PySem.W.Frag):Sp:=fun vs H Q _=>∃(l:Addr) (ls:List Nat) (x y:Nat),vs=[.ref l,.int (x:Nat),.int (y:Nat)]∧SqL K H l (vN ls)∧ls.length≤1000∧x∈ls∧y∈ls∧Q (.bl (decide (pos y ls < pos x ls))) H
theorem scLater:FnScope ["order","height","other"] ["order","height","other"] (defScope sLater):=⟨rfl,rfl,rfl,by decide +kernel,rfl,by decide +kernel,by decide +kernel⟩
theorem ok_later{k:Nat}(F:Fun K "is_later" "is_later" sLater f fd):FnOk P w K mg base CX0 (k+1) f fd ["order","height","other"] (spLater K):=by
 refine F.ok scLater (fun vs H Q E h=>?_) (fun cdv A outer s H vs Q E hr h=>?_)
 ·obtain⟨l,ls,x,y,rfl,_⟩:=h
  rfl
 obtain⟨l,ls,x,y,rfl,hS,hl,hx,hy,q⟩:=h
 refine⟨_,pss_cons (ps_if (PW.pt (pw_or (pt_cmpR op_notIn_seq (pv 1) (pv 0) rfl) (pw_or1 (pt_cmpR op_notIn_seq (pv 2) (pv 0) rfl)))) (pss_one (ps_ret pe_bl)) pss_nil)
  (pss_one (ps_ret (pe_cmpR op_gt (pe_bm PySem.F.plainAttrs_list PySem.F.slot_list_index PySem.F.type_list_index mt_index (pv 0) (pa_cons (pv 1) pa_nil)) (pe_bm PySem.F.plainAttrs_list PySem.F.slot_list_index PySem.F.type_list_index mt_index (pv 0) (pa_cons (pv 2) pa_nil)) (nomark _)))),?_⟩
 refine⟨_,rfl,_,rfl,l,vN ls,rfl,.inl hS,rfl,vN_flat _,_,rfl,?_⟩
 show(if(!inV (.int (x:Nat)) (vN ls))=true then _ else _)
 rw[in_vN,decide_eq_true hx]
 refine iteF ⟨_,rfl,_,rfl,l,vN ls,rfl,.inl hS,rfl,vN_flat _,_,rfl,?_⟩
 show(if(!inV (.int (y:Nat)) (vN ls))=true then _ else _)
 rw[in_vN,decide_eq_true hy]
 refine iteF ?_
 have hS':SqL K H l ((ls.map fun c=>((c:Nat):Int)).map V.int):=by rw[← vN_ints];exact hS
 have ll:(ls.map fun c=>((c:Nat):Int)).length≤1000:=by rw[List.length_map];exact hl
 refine⟨_,rfl,.inl ⟨rfl,_,hS⟩,_,rfl,l,_,_,pos x ls,rfl,rfl,hS',ll,(ix_vN hx).1,(ix_vN hx).2,?_⟩
 refine⟨_,rfl,.inl ⟨rfl,_,hS⟩,_,rfl,l,_,_,pos y ls,rfl,rfl,hS',ll,(ix_vN hy).1,(ix_vN hy).2,_,_,rfl,rfl,?_⟩
 have e:decide (((pos y ls:Nat):Int) < ((pos x ls:Nat):Int))=decide (pos y ls < pos x ls):=by
  by_cases c:pos y ls < pos x ls
  ·rw[decide_eq_true c,decide_eq_true (by omega)]
  ·rw[decide_eq_false c,decide_eq_false (by omega)]
 show Q (.bl (decide (((pos y ls:Nat):Int) < ((pos x ls:Nat):Int)))) H
 rw[e]
 exact q
def ordT(f:Fx)(t:Option Nat)(c:Nat):List Nat:=if t=some (c / 8) then f.tr else f.pl
theorem ordT_mem{f:Fx}(ok:f.Ok){t:Option Nat}{c x:Nat}(hx:x < f.h):x∈ordT f t c:=by
 unfold ordT
 split
 ·exact ok.pt.symm.subset (List.mem_range.mpr hx)
 ·exact ok.pp.symm.subset (List.mem_range.mpr hx)
theorem ordT_len{f:Fx}(ok:f.Ok){t:Option Nat}{c:Nat}:(ordT f t c).length≤1000:=by
 have h8:=ok.h8
 unfold ordT
 split
 ·rw[perm_len ok.pt];omega
 ·rw[perm_len ok.pp];omega
def spStronger(CT CG:Addr):Sp:=fun vs H Q _=>∃(gm x:Addr) (t:Option Nat) (f:Fx) (c o:Nat),vs=[.ref gm,.int (c:Nat),.int (o:Nat)]∧f.Ok∧IsGam CG x (tvV t) H gm∧IsTab CT f H x∧c % 8 < f.h∧o % 8 < f.h∧∀ H',Same H H'→Q (.bl (decide (pos (o % 8) (ordT f t c) < pos (c % 8) (ordT f t c)))) H'
theorem scStronger:FnScope ["self","card","other","order"] ["self","card","other"] (defScope sStronger):=⟨rfl,rfl,rfl,by decide +kernel,rfl,by decide +kernel,by decide +kernel⟩
theorem ok_stronger{k:Nat}{CT CG f1 m3:Addr}{d1 e3:FuncData}{t1:Tok}(F:Fun K "is_stronger" "Game.is_stronger" sStronger f fd)(C:TabC K mg CT)(CGm:GamC K mg CG)(LL:Lib P w K mg base k "is_later" ["order","height","other"] (spLater K) f1 d1)
  (MO:Meth K CT "order" m3) (FO:FnOk P w K mg base CX0 k m3 e3 ["self","is_trump"] (spTOrder CT)) (BO:Binds K e3 ["self","is_trump"] []) (mH:mg "HEIGHTS" = some (.int 8 t1)):FnOk P w K mg base CX0 (k+1) f fd ["self","card","other"] (spStronger CT CG):=by
 refine F.ok scStronger (fun vs H Q E h=>?_) (fun cdv A outer s H vs Q E hr h=>?_)
 ·obtain⟨gm,x,t,fx,c,o,rfl,_⟩:=h
  rfl
 obtain⟨gm,x,t,fx,c,o,rfl,ok,hg,ht,hc,ho,q⟩:=h
 refine⟨_,pss_cons (ps_set (i:=3) scStronger.nd rfl (Or.inl rfl) (pe_meth (pe_fld (pv 0) rfl) C.cl MO FO hr BO .nil pass0 (pa_cons (pe_cmpR op_eq (pe_op op_fdiv (pv 1) (pe_glob (v:=.int 8) rfl mH ⟨_,rfl⟩)) (pe_fld (pv 0) rfl) (nomark _)) pa_nil)))
  (pss_one (ps_ret (pe_call LL.ok hr rfl LL.mg LL.kp LL.bd .nil pass0 (pa_cons (pv 3) (pa_cons (pe_op op_mod (pv 1) (pe_glob (v:=.int 8) rfl mH ⟨_,rfl⟩)) (pa_cons (pe_op op_mod (pv 2) (pe_glob (v:=.int 8) rfl mH ⟨_,rfl⟩)) pa_nil)))))),?_⟩
 obtain⟨dg,hG⟩:=id hg
 obtain⟨dx,po,to,hX,_,_⟩:=id ht
 have e1:((c:Nat):Int) / 8=((c / 8:Nat):Int):=by omega
 refine⟨_,rfl,gm,CG,dg,_,_,rfl,hG,CGm.cl,CGm.nT,gam_table _ _,x,dx,_,rfl,hX,look7_order _ _ _,?_⟩
 refine⟨_,rfl,_,_,rfl,rfl,⟨by decide,by decide⟩,_,rfl,gm,CG,dg,_,_,rfl,hG,CGm.cl,CGm.nU,gam_trump _ _,tv_scal _ _,x,fx,decide (t=some (c / 8)),?_,ht,fun l H1 s1 hl hL=>?_⟩
 ·show V.ref x :: ([V.bl (decide (V.int (((c:Nat):Int) / 8)=tvV t))]++[])=[V.ref x,V.bl (decide (t=some (c / 8)))]
  rw[e1,tv_eq]
  rfl
 have eo:ordOf fx (decide (t=some (c / 8)))=ordT fx t c:=by
  unfold ordOf ordT
  by_cases z:t=some (c / 8)
  ·rw[if_pos z,if_pos (decide_eq_true z)]
  ·rw[if_neg z,if_neg (by rw[decide_eq_false z];decide)]
 rw[eo] at hL
 have e2:((c:Nat):Int) % 8=((c % 8:Nat):Int):=by omega
 have e3:((o:Nat):Int) % 8=((o % 8:Nat):Int):=by omega
 refine⟨_,rfl,_,rfl,_,_,rfl,rfl,(show(0:Int) < 8 by decide),_,rfl,_,_,rfl,rfl,(show(0:Int) < 8 by decide),l,ordT fx t c,c % 8,o % 8,?_,SqL.of hL,ordT_len ok,ordT_mem ok hc,ordT_mem ok ho,q _ s1⟩
 dsimp only
 rw[e2,e3]
 rfl
def spOver(CT CG:Addr):Sp:=fun vs H Q _=>∃(gm x:Addr) (t:Option Nat) (f:Fx) (c o led:Nat),vs=[.ref gm,.int (c:Nat),.int (o:Nat),.int (led:Nat)]∧f.Ok∧IsGam CG x (tvV t) H gm∧IsTab CT f H x∧c % 8 < f.h∧o % 8 < f.h∧∀ H',Same H H'→Q (.bl (overB f t c o led)) H'
abbrev pOver:List Str:=["self","card","other","led"]
theorem scOver:FnScope ["self","card","other","led","suit"] pOver (defScope sOver):=⟨rfl,rfl,rfl,by decide +kernel,rfl,by decide +kernel,by decide +kernel⟩
theorem dec_nat(a b:Nat):decide (V.int (a:Nat)=V.int (b:Nat))=decide (a=b):=by
 by_cases c:a=b
 ·subst c
  rw[decide_eq_true rfl,decide_eq_true rfl]
 ·rw[decide_eq_false c,decide_eq_false (fun z=>c (by injection z with z;omega))]
theorem ok_over{k:Nat}{CT CG m3:Addr}{e3:FuncData}{t1:Tok}(F:Fun K "is_over" "Game.is_over" sOver f fd)(CGm:GamC K mg CG)(MS:Meth K CG "is_stronger" m3)(FS:FnOk P w K mg base CX0 k m3 e3 ["self","card","other"] (spStronger CT CG))(BS:Binds K e3 ["self","card","other"] [])(mH:mg "HEIGHTS" = some (.int 8 t1)) :
  FnOk P w K mg base CX0 (k+1) f fd pOver (spOver CT CG):=by
 refine F.ok scOver (fun vs H Q E h=>?_) (fun cdv A outer s H vs Q E hr h=>?_)
 ·obtain⟨gm,x,t,fx,c,o,led,rfl,_⟩:=h
  rfl
 obtain⟨gm,x,t,fx,c,o,led,rfl,ok,hg,ht,hc,ho,q⟩:=h
 refine⟨_,pss_cons (ps_set (i:=4) scOver.nd rfl (Or.inl rfl) (pe_op op_fdiv (pv 1) (pe_glob (v:=.int 8) rfl mH ⟨_,rfl⟩)))
  (pss_cons (ps_if (pt_cmpR op_eq (pv 4) (pe_op op_fdiv (pv 2) (pe_glob (v:=.int 8) rfl mH ⟨_,rfl⟩)) (nomark _)) (pss_one (ps_ret (pe_and (pe_cmpR op_in_seq (pv 4) (pe_tup (pa_cons (pe_fld (pv 0) rfl) (pa_cons (pv 3) pa_nil))) rfl) (pe_one (pe_meth (pv 0) CGm.cl MS FS hr BS .nil pass0 (pa_cons (pv 1) (pa_cons (pv 2) pa_nil))))))) pss_nil)
  (pss_cons (ps_if (pt_cmpR op_eq (pv 4) (pe_fld (pv 0) rfl) (nomark _)) (pss_one (ps_ret pe_bl)) pss_nil)
  (pss_one (ps_ret (pe_and (pe_cmpR op_eq (pv 4) (pv 3) (nomark _)) (pe_one (pe_cmpR op_ne (pe_op op_fdiv (pv 2) (pe_glob (v:=.int 8) rfl mH ⟨_,rfl⟩)) (pe_fld (pv 0) rfl) (nomark _)))))))),?_⟩
 obtain⟨dg,hG⟩:=id hg
 have e1:((c:Nat):Int) / 8=((c / 8:Nat):Int):=by omega
 have e2:((o:Nat):Int) / 8=((o / 8:Nat):Int):=by omega
 refine⟨_,rfl,_,_,rfl,rfl,⟨by decide,by decide⟩,?_⟩
 dsimp only
 rw[e1]
 refine⟨_,rfl,_,rfl,_,_,rfl,rfl,⟨by decide,by decide⟩,rfl,_,rfl,?_⟩
 refine chg (congrArg (fun z=>decide (V.int ((c / 8:Nat):Int)=V.int z)) e2) ?_
 rw[dec_nat]
 by_cases sm:c / 8=o / 8
 ·rw[decide_eq_true sm]
  refine iteT ⟨_,rfl,_,rfl,gm,CG,dg,_,_,rfl,hG,CGm.cl,CGm.nU,gam_trump _ _,_,rfl,fits3 2 (by decide),fun p hp=>?_⟩
  have s1:=same_upd hp (.tup [tvV t,.int (led:Nat)])
  have fl:[tvV t,V.int (led:Nat)].all flatV=true:=by
   show(flatV (tvV t) && (true && true))=true
   rw[tv_flat]
   rfl
  refine⟨p,[tvV t,.int (led:Nat)],rfl,.inr (SqT.of upd_same),rfl,fl,?_⟩
  show ∃ b,V.bl (inV (.int ((c / 8:Nat):Int)) [tvV t,.int (led:Nat)])=_∧_
  rw[inV_two]
  refine⟨_,rfl,?_⟩
  by_cases sg:c / 8=led∨t=some (c / 8)
  ·rw[decide_eq_true sg]
   refine iteT ⟨_,rfl,gm,dg,_,rfl,s1 _ _ hG,gam_none _ _ _ (by decide +kernel) (by decide +kernel),_,rfl,_,rfl,gm,x,t,fx,c,o,rfl,ok,hg.same s1,ht.same s1,hc,ho,fun H2 s2=>?_⟩
   have z:=q H2 (s1.trans s2)
   rw[ov_same sm,decide_eq_true sg,Bool.true_and] at z
   exact z
  ·rw[decide_eq_false sg]
   refine iteF ?_
   have z:=q _ s1
   rw[ov_same sm,decide_eq_false sg,Bool.false_and] at z
   exact z
 ·rw[decide_eq_false sm]
  refine iteF ⟨_,rfl,_,rfl,gm,CG,dg,_,_,rfl,hG,CGm.cl,CGm.nU,gam_trump _ _,tv_scal _ _,_,rfl,?_⟩
  have z:=q H (Same.refl _)
  rw[ov_diff sm] at z
  rw[tv_eq]
  by_cases c1:t=some (c / 8)
  ·rw[decide_eq_true c1]
   rw[if_pos c1] at z
   exact iteT z
  ·rw[decide_eq_false c1]
   rw[if_neg c1] at z
   refine iteF ⟨_,rfl,_,rfl,rfl,_,rfl,?_⟩
   rw[dec_nat]
   by_cases c2:c / 8=led
   ·rw[decide_eq_true c2]
    rw[decide_eq_true c2,Bool.true_and] at z
    refine iteT ⟨_,rfl,_,_,rfl,rfl,⟨by decide,by decide⟩,_,rfl,gm,CG,dg,_,_,rfl,hG,CGm.cl,CGm.nU,gam_trump _ _,tv_scal _ _,?_⟩
    refine chgQ (congrArg (fun z=>(!decide (V.int z=tvV t))) e2) ?_
    rw[tv_eq]
    exact z
   ·rw[decide_eq_false c2]
    rw[decide_eq_false c2,Bool.false_and] at z
    exact iteF z
end
end My
namespace L2
open PySem PySem.Spec PyProof.Rows
open AutoSeq1 (wpAny_loadPart')
section
variable{prog:Program}{w:World}{A:Around}{E:Value→Shared→Prop}{s:Shared}{it t:Addr}{i:Nat}{items:Array Value}
theorem nextOf_tup{x:Value}{Q:Value→Shared→Prop}(hI:s.heap.IsTupleIter it t i)(hT:s.heap.IsTuple t items)(hx:items[i]? = some x)
  (q:∀ h',h'.IsTupleIter it t (i+1)→Heap.SameBut it s.heap h'→Q x { s with heap:=h' }):wpAny (model prog w) A (Builtin.SmallTypes.nextOf (.ref it)) Q E s:=by
 obtain⟨o,g1,g2,g3⟩:=id hI
 obtain⟨ot,k1,_,_,k2⟩:=hT
 unfold Builtin.SmallTypes.nextOf
 refine wpAny_bind (wpAny_callSpecial?_slot (name:=Str.ofString "__next__") hI.typeIs F.slot_tuple_iterator_next (wpAny_call_entry F.slot_tuple_iterator_next hI.typeIs F.entry_tuple_iterator_next ?_ (F.args_tuple_iterator_next_1 _)))
 show wpAny _ _ (field (.ref it) 0 >>= _) _ _ s;refine wpAny_bind (wpAny_field g1 g3 (x:=.ref t) rfl ?_)
 show wpAny _ _ (if(Value.ref t == Value.none)=true then _ else _) _ _ s;rw[if_neg (show ¬ ((Value.ref t == Value.none)=true) from Bool.false_ne_true)]
 show wpAny _ _ (field (.ref it) 1 >>= _) _ _ s;refine wpAny_bind (wpAny_field g1 g3 (x:=.int i 0) rfl ?_)
 show wpAny _ _ (seqItems? (.ref t) >>= _) _ _ s;refine wpAny_bind (wpAny_seqItems k1 k2 ?_)
 simp only[Int.toNat_natCast,hx]
 exact wpAny_bind (wpAny_setField g1 g3 (by simp) (wpAny_pure ⟨x,rfl,wpAny_pure (q _ ⟨_,Heap.get?_update_self _ g1 (Obj.isFreed_of_fields (Obj.data_mapFields g3 _)),(Obj.cls_mapFields ..).trans g2,by rw[Obj.data_mapFields g3];simp [rawInt]⟩ (Heap.SameBut.update ..))⟩))
theorem nextOf_tupE{Q:Value→Shared→Prop}(hh:A.handled=none)(hI:s.heap.IsTupleIter it t i)(hT:s.heap.IsTuple t items)(hx:items[i]? = none)
  (q:∀ h' e,Heap.ExtBut it s.heap h'→(∃ o,h'.get? e=some o∧o.cls = .type "StopIteration")→E (.ref e) { s with heap:=h' }):wpAny (model prog w) A (Builtin.SmallTypes.nextOf (.ref it)) Q E s:=by
 obtain⟨o,g1,g2,g3⟩:=id hI
 obtain⟨ot,k1,_,_,k2⟩:=hT
 unfold Builtin.SmallTypes.nextOf
 refine wpAny_bind (wpAny_callSpecial?_slot (name:=Str.ofString "__next__") hI.typeIs F.slot_tuple_iterator_next (wpAny_call_entry F.slot_tuple_iterator_next hI.typeIs F.entry_tuple_iterator_next ?_ (F.args_tuple_iterator_next_1 _)))
 show wpAny _ _ (field (.ref it) 0 >>= _) _ _ s;refine wpAny_bind (wpAny_field g1 g3 (x:=.ref t) rfl ?_)
 show wpAny _ _ (if(Value.ref t == Value.none)=true then _ else _) _ _ s;rw[if_neg (show ¬ ((Value.ref t == Value.none)=true) from Bool.false_ne_true)]
 show wpAny _ _ (field (.ref it) 1 >>= _) _ _ s;refine wpAny_bind (wpAny_field g1 g3 (x:=.int i 0) rfl ?_)
 show wpAny _ _ (seqItems? (.ref t) >>= _) _ _ s;refine wpAny_bind (wpAny_seqItems k1 k2 ?_)
 simp only[Int.toNat_natCast,hx]
 refine wpAny_bind (wpAny_rule (wpAny_bind (wpAny_setField g1 g3 (by simp) ?_)))
 show wpAny _ _ (newExc (.type "StopIteration") [] >>= _) _ _ _;refine wpAny_bind ?_
 simp only[newExc,newTuple]
 refine wpAny_bind (wpAny_newObj_type (wpAny_bind (m:=firstArgMember _ _) (wpAny_of_eq (a:=Value.none) (by first | rfl | (simp only[firstArgMember];rfl)) (wpAny_newObj_type ?_ (by size_fits)))) (by size_fits))
 simp only[raiseNew]
 refine wpAny_bind (wpAny_handled ?_);first | rw[show A.in1.handled=none from hh] | rw[hh]
 exact wpAny_bind (wpAny_pure (wpAny_throw (q _ _ (((Heap.SameBut.update ..).extBut.push _).push _) ⟨_,Heap.get?_push_size _ rfl,rfl⟩)))
end
theorem draws_tup{prog:Program}{w:World}{A:Around}(hh:A.handled=none)(it t:Addr)(hne:t≠it)(items:Array Value) :
  Draws prog w A it [it,t] items.size (fun i v=>items[i]? = some v) (fun i h=>h.IsTupleIter it t i∧h.IsTuple t items) where
 live:=fun _ _ z=>let ⟨o,ho,_⟩:=z.1;⟨o,ho⟩
 frame:=fun _ _ _ z k=>⟨z.1.at fun o e=>k it (by simp) o e,let ⟨o,ho,r⟩:=z.2;⟨o,k t (by simp) o ho,r⟩⟩
 item:=fun i s Q E hi z q=>by
  refine nextOf_tup z.1 z.2 (x:=items[i]) (by simp [hi]) fun h' a b=>?_
  obtain⟨o,ho,r⟩:=z.2
  exact q _ h' s.toks (by simp [hi]) ⟨a,o,b.extBut t o hne ho,r⟩ b
 done:=fun s Q E z q=>nextOf_tupE hh z.1 z.2 (by simp) q
theorem meets_enumT(l:Addr)(items:Array Value)(n:Nat)(dct:Option Addr)(sl:Array (Option Value)) :
  Meets (Builtin.«enumerate.__new__» ⟨[.type "enumerate",.ref l],[]⟩) (fun _ R s=>s.heap.get? l=some { cls:=.type "tuple",dict:=dct,data:=.seq items n,slots:=sl } ∧
   R (.ok (.ret (.ref (s.heap.push { cls:=.type "tuple_iterator",data:=.fields #[.ref l,.int 0 0] }).objs.size)))
    { s with heap:=(s.heap.push { cls:=.type "tuple_iterator",data:=.fields #[.ref l,.int 0 0] }).push { cls:=.type "enumerate",data:=.fields #[.none,.bool false,.ref s.heap.objs.size,rawInt 0,.none,.none] } }):=
 .of_wp fun prog w A R s h=>by
  obtain⟨hp,g,d,tk,os⟩:=s
  obtain⟨hl,h⟩:=h
  have hq:=sub_enumerate
  have hT:Heap.IsTuple (Shared.heap ⟨hp,g,d,tk,os⟩) l items:=⟨_,hl,rfl,n,rfl⟩
  wp_walk using wpAny_loadPart' hl
  refine wpAny_stack_any fun _=>wpAny_pure ?_
  split
  ·rename_i c _ _ _ _ _
   cases (c == Value.type "enumerate")<;>(wp_walk using wpAny_loadPart' hl,wpAny_pyIter_tuple hT;exact⟨_,rfl,h⟩)
  ·wp_walk using wpAny_loadPart' hl,wpAny_pyIter_tuple hT
   exact⟨_,rfl,h⟩
theorem call_enumT{prog:Program}{w:World}{A:Around}{E:Value→Shared→Prop}{s:Shared}{l:Addr}{items:Array Value}{Q:Value→Shared→Prop}(hT:s.heap.IsTuple l items)
  (q:∀ h',IsEnum h' (s.heap.objs.size+1) s.heap.objs.size 0 .none→h'.IsTupleIter s.heap.objs.size l 0→h'.objs.size=s.heap.objs.size+2→(∀ b o,s.heap.get? b=some o→h'.get? b=some o)→Q (.ref (s.heap.objs.size+1)) { s with heap:=h' }) :
  wpAny (model prog w) A (call (.type "enumerate") [.ref l]) Q E s:=by
 obtain⟨⟨c,dct,dt,sl⟩,hl,hc,n,hd⟩:=hT
 replace hc:c = .type "tuple":=hc
 replace hd:dt = .seq items n:=hd
 subst hc hd
 refine callType_new F.called_enumerate (by decide) (F.typeCall_enumerate_1 _) (F.newCall_enumerate_1 _) (fun ob=>F.args_object_init_2 ob _) F.entry_enumerate_new (meets_enumT l items n dct sl) ⟨hl,?_⟩
 have hz:(s.heap.push { cls:=.type "tuple_iterator",data:=.fields #[.ref l,.int 0 0] }).objs.size=s.heap.objs.size+1:=Heap.size_push ..
 show _∧_;rw[hz]
 have he:IsEnum ((s.heap.push { cls:=.type "tuple_iterator",data:=.fields #[.ref l,.int 0 0] }).push { cls:=.type "enumerate",data:=.fields #[.none,.bool false,.ref s.heap.objs.size,rawInt 0,.none,.none] }) (s.heap.objs.size+1) s.heap.objs.size 0 .none:=by
  have z:=Heap.get?_push_size (s.heap.push { cls:=.type "tuple_iterator",data:=.fields #[.ref l,.int 0 0] }) (o:={ cls:=.type "enumerate",data:=.fields #[.none,.bool false,.ref s.heap.objs.size,rawInt 0,.none,.none] }) rfl
  rw[hz] at z;exact z
 exact⟨⟨_,he,rfl⟩,q _ he ⟨_,Heap.get?_push_of_some _ (Heap.get?_push_size _ rfl),rfl,rfl⟩ (by rw[Heap.size_push,hz]) fun b o x=>Heap.get?_push_of_some _ (Heap.get?_push_of_some _ x)⟩
def IteT(K:PySem.W.Frag)(a:Addr):It:=
 ⟨fun i H=>∃ xs x,SqT K H a xs∧xs[i]? = some x,fun i H v H'=>∃ p x,v = .ref p∧H p=none∧H'=upd H p (.tup [.int (i:Nat),x])∧∀ xs,SqT K H a xs→xs[i]? = some x,fun i H=>∃ xs,SqT K H a xs∧xs.length≤i⟩
theorem turn_enumT{P:Program}{w:World}{K:PySem.W.Frag}{es:List Expr}{x1}{tp:Pos}(a e it:Addr)(hne:e≠it):Turn P w K (.Tuple es x1 tp) (IteT K a) [e,it] e (fun i h=>(∃ old,IsEnum h e it i old)∧h.IsTupleIter it a i) where
  mem:=by simp
  obj:=fun i h st b hb=>by
    obtain⟨⟨old,he⟩,⟨o,ho,c,d⟩⟩:=st
    rcases List.mem_cons.mp hb with rfl | hb
    · exact⟨_,he,fun v z=>by cases z⟩
    · have q:b=it:=by simpa using hb
      subst q
      exact⟨o,ho,fun v z=>by rw[d] at z;cases z⟩
  keep:=fun i h h' st k=>by
    obtain⟨⟨old,he⟩,hi⟩:=st
    exact⟨⟨old,k e (by simp) _ he⟩,hi.at fun o q=>k it (by simp) o q⟩
  item:=by
    intro X hP hw hK hc i pins s σ H E I hf st hg
    subst hP hw hK
    obtain⟨xs,x,hq,hx⟩:=hg
    obtain⟨⟨old,he⟩,hit⟩:=st
    obtain⟨its,rv,p,hz⟩:=I.tuple hq
    obtain⟨u,hu,ru⟩:=rv.get hx
    obtain⟨a0,a1,a2,a3,a4,a5⟩:=hf e (by simp)
    obtain⟨f0,f1,f2,f3,f4,f5⟩:=hf it (by simp)
    have pT:s.heap.IsTuple a its.toArray:=p
    obtain⟨oi,hoi,ci,di⟩:=id hit
    obtain⟨oa,hoa,ca,_⟩:=id pT
    have n1:a≠it:=fun z=>by
      rw[z,hoi] at hoa
      cases hoa
      rw[ca] at ci
      exact absurd ci (by decide)
    have n2:a≠e:=fun z=>by
      rw[z,he] at hoa
      cases hoa
      exact absurd (show Value.type "enumerate" = Value.type "tuple" from ca) (by decide)
    refine wpAny_pyNext_enum_itemD (draws_tup (A:=X.A.in1) (I.ok.hd hc) it a n1 its.toArray) he ⟨hit,pT⟩ (by
      have:=(List.getElem?_eq_some_iff.mp hu).1
      simpa using this) hne (by
        intro z
        rcases List.mem_cons.mp z with z | z
        · exact hne z
        · exact n2 (List.mem_singleton.mp z).symm) fun x' h' tk hx' eo hst ht hsz hk=>⟨_,rfl,?_⟩
    have ex:x'=u:=by
      have z:its[i]? = some x':=by simpa using hx'
      rw[hu] at z
      exact(Option.some.inj z).symm
    subst ex
    refine wpAny_letOwnedTupleGo_enum eo fun h2 he2 sb2=>?_
    have sb2':Heap.SameBut e h' h2:=sb2
    have hn:H s.heap.objs.size=none:=I.fresh
    have le:e < s.heap.objs.size:=Heap.lt_size he
    have li:it < s.heap.objs.size:=Heap.lt_size hoi
    have I1:Inv X pins σ (upd H s.heap.objs.size (.tup [.int (i:Nat),x])) { s with heap:=s.heap.push { cls:=.type "tuple",data:=.seq #[.int i tk,x'] },toks:=tk+1 }:=
      I.laid (t':=tk+1) (fun b ob q=>Heap.get?_push_of_some _ q) (Nat.le_refl _) ⟨by rw[sizeLine_eq];show 2≤_;decide,[.int i tk,x'],.cons ⟨_,rfl⟩ (.cons ru .nil),IsTup.new _ _⟩
    obtain⟨oi2,hoi2,ci2,di2⟩:=id hst.1
    have hoi3:h2.get? it=some oi2:=(sb2'.2 it (Ne.symm hne)).trans hoi2
    have gi:((s.heap.push { cls:=.type "tuple",data:=.seq #[.int i tk,x'] }).update it (fun _=>oi2)).get? it=some oi2:=Heap.get?_update_self _ (Heap.get?_push_of_some _ hoi) (Obj.isFreed_of_fields di2)
    have I2:=I1.turned (h':=(s.heap.push { cls:=.type "tuple",data:=.seq #[.int i tk,x'] }).update it (fun _=>oi2)) (t':=tk+1) (it:=it) (fun b o hb q=>(Heap.get?_update_other _ _ (Ne.symm hb)).trans q) (by rw[upd_ne (Nat.ne_of_lt li)];exact f0) f1 f3 f4 f5
    have I3:=I2.turned (h':=h2) (t':=tk+1) (it:=e) (fun b o hb q=>by
      by_cases c:b=it
      · subst c
        have q':=gi.symm.trans q
        cases q'
        exact hoi3
      · have q1:(s.heap.push { cls:=.type "tuple",data:=.seq #[.int i tk,x'] }).get? b=some o:=(Heap.get?_update_other _ _ (Ne.symm c)).symm.trans q
        by_cases d:b=s.heap.objs.size
        · subst d
          have q2:=(Heap.get?_push_size s.heap (o:={ cls:=.type "tuple",data:=.seq #[.int i tk,x'] }) rfl).symm.trans q1
          cases q2
          exact(sb2'.2 _ hb).trans ht
        · rw[Heap.get?_push_ne _ _ _ d] at q1
          exact(sb2'.2 b hb).trans (hk b o hb c q1)) (by rw[upd_ne (Nat.ne_of_lt le)];exact a0) a1 a3 a4 a5
    refine⟨.ref s.heap.objs.size,_,I3,rfl,⟨s.heap.objs.size,x,rfl,hn,rfl,fun ys hy=>by rw[I.tuple_inj hy hq];exact hx⟩,⟨⟨_,he2⟩,oi2,hoi3,ci2,di2⟩,fun b hb=>?_⟩
    rcases List.mem_cons.mp hb with rfl | hb
    · rw[upd_ne (Nat.ne_of_lt le)];exact a0
    · have q:b=it:=by simpa using hb
      subst q
      rw[upd_ne (Nat.ne_of_lt li)];exact f0
  done:=by
    intro X hP hw hK hc i pins s σ H E I hf st hg
    subst hP hw hK
    obtain⟨xs,hq,hx⟩:=hg
    obtain⟨⟨old,he⟩,hit⟩:=st
    obtain⟨its,rv,p,hz⟩:=I.tuple hq
    have pT:s.heap.IsTuple a its.toArray:=p
    obtain⟨f0,f1,f2,f3,f4,f5⟩:=hf it (by simp)
    have hl:=rv.length
    have hT:s.TypeIs (.ref e) "enumerate":=⟨_,he,rfl⟩
    unfold pyNext
    refine wpAny_bind (wpAny_attempt (wpAny_callSpecial?_slot (name:=Str.ofString "__next__") hT F.slot_enumerate_next (wpAny_call_entry F.slot_enumerate_next hT F.entry_enumerate_next ?_ (F.args_enumerate_next_1 _))))
    show wpAny _ _ (field (.ref e) 2 >>= _) _ _ _;refine wpAny_bind (wpAny_field he rfl (x:=.ref it) rfl ?_)
    refine wpAny_bind (nextOf_tupE (I.ok.hd hc) hit pT (by simp;omega) fun h' x eb hx'=>?_)
    obtain⟨o,ho,hc'⟩:=hx'
    exact wpAny_bind (wpAny_isInstance (T:="StopIteration") (b:=true) ⟨o,ho,hc'⟩ isSubtype_stop (wpAny_pure ⟨rfl,I.turned (t':=s.toks) (fun b o hb e=>eb b o hb e) f0 f1 f3 f4 f5⟩))
  self:=fun _ _ _ _ _ st h=>by
    obtain⟨⟨old,he⟩,_⟩:=st
    exact wpAny_pyIter_enum he h
section
variable{X:Cx}
def iEnumT(K:PySem.W.Frag)(ta:TA):TI:=fun σ H R=>ta σ H fun vs H1=>∃ a xs,vs=[.ref a]∧SqT K H1 a xs∧R (IteT K a) H1
theorem pi_enumT{es:List Expr}{x1}{tp p pos:Pos}{l:Expr}{ta:TA}(hg:Gl X "enumerate")(hm:X.mg "enumerate" = none)(ha:PA X [l] ta)(hs:starEach [l] X.env=[(false,eval l X.env)]:=by rfl):PI X (.Tuple es x1 tp) (.Call (.Name "enumerate" p) [l] [] pos) (iEnumT X.K ta):=by
 intro pins s σ H R I h
 refine Call_ (ld_blt I hg hm boot_enumerate (PyProof.Rows.callWith_type1 (thn (ha pos pins s σ H _ I h) fun us s1 ⟨vs,H1,I1,r1,q1⟩=>?_) hs rfl))
 obtain⟨a,xs,rfl,hL,q⟩:=q1
 obtain⟨u,rfl,ru⟩:=vals1 r1
 cases ru
 obtain⟨its,rv,pT,hz⟩:=I1.tuple hL
 refine call_enumT (show s1.heap.IsTuple a its.toArray from pT) fun h' en li sz hk=>?_
 have I2:Inv X pins σ H1 { s1 with heap:=h' }:=I1.kept (t':=s1.toks) hk
 refine wpAny_pyIter_enum en ⟨s1.heap.objs.size+1,[s1.heap.objs.size+1,s1.heap.objs.size],_,IteT X.K a,H1,rfl,I2,turn_enumT a _ _ (Nat.succ_ne_self _),⟨⟨_,en⟩,li⟩,fun b hb=>?_,q⟩
 have hb':s1.heap.objs.size≤b:=by
  rcases List.mem_cons.mp hb with rfl | hb
  ·exact Nat.le_succ _
  ·have q:b=s1.heap.objs.size:=by simpa using hb
   rw[q]
   exact Nat.le_refl _
 exact I1.fpOk (H':=H1) hb' (I1.hok.fresh hb')
end
end L2
namespace My
open PySem L2
theorem pos_le(x:Nat):∀ l:List Nat,pos x l≤l.length
 | []=>Nat.le_refl _
 | y :: l=>by
  unfold pos
  have:=pos_le x l
  split
  ·exact Nat.zero_le _
  ·exact Nat.succ_le_succ this
def rk(f:Fx)(t:Option Nat)(led c:Nat):Nat:=
 if t=some (c / 8) then 20+pos (c % 8) f.tr else if c / 8=led then 10+pos (c % 8) f.pl else 0
theorem over_rk{f:Fx}(ok:f.Ok)(t:Option Nat)(c o led:Nat):overB f t c o led=decide (rk f t led o < rk f t led c):=by
 have l1:∀ x,pos x f.tr≤8:=fun x=>Nat.le_trans (pos_le x _) (by rw[perm_len ok.pt];exact ok.h8)
 have l2:∀ x,pos x f.pl≤8:=fun x=>Nat.le_trans (pos_le x _) (by rw[perm_len ok.pp];exact ok.h8)
 have a1:=l1 (c % 8)
 have a2:=l1 (o % 8)
 have a3:=l2 (c % 8)
 have a4:=l2 (o % 8)
 unfold rk
 by_cases s:c / 8=o / 8
 ·rw[ov_same s,← s]
  by_cases c1:t=some (c / 8)
  ·rw[if_pos c1,if_pos c1,if_pos c1,decide_eq_true (Or.inr c1),Bool.true_and]
   exact decide_eq_decide.mpr ⟨fun h=>by omega,fun h=>by omega⟩
  ·rw[if_neg c1,if_neg c1,if_neg c1]
   by_cases c2:c / 8=led
   ·rw[if_pos c2,if_pos c2,decide_eq_true (Or.inl c2),Bool.true_and]
    exact decide_eq_decide.mpr ⟨fun h=>by omega,fun h=>by omega⟩
   ·rw[if_neg c2,if_neg c2,decide_eq_false (fun z=>z.elim c2 c1),Bool.false_and]
    exact(decide_eq_false (Nat.lt_irrefl 0)).symm
 ·rw[ov_diff s]
  by_cases c1:t=some (c / 8)
  ·have c2:¬ t=some (o / 8):=fun z=>s (by rw[c1] at z;exact Option.some.inj z)
   rw[if_pos c1,if_pos c1,if_neg c2]
   refine(decide_eq_true ?_).symm
   split<;>omega
  ·rw[if_neg c1,if_neg c1]
   by_cases c2:t=some (o / 8)
   ·rw[if_pos c2,decide_eq_true c2]
    show(decide (c / 8=led) && false)=_
    rw[Bool.and_false]
    refine(decide_eq_false ?_).symm
    split<;>omega
   ·rw[if_neg c2,decide_eq_false c2]
    show(decide (c / 8=led) && true)=_
    rw[Bool.and_true]
    by_cases c3:c / 8=led
    ·rw[if_pos c3,if_neg (fun z=>s (c3.trans z.symm)),decide_eq_true c3]
     exact(decide_eq_true (by omega)).symm
    ·rw[if_neg c3,decide_eq_false c3]
     exact(decide_eq_false (Nat.not_lt_zero _)).symm
theorem rk_inj{f:Fx}(ok:f.Ok){t:Option Nat}{led c o:Nat}(hc:c % 8 < f.h)(ho:o % 8 < f.h)(h10:10≤rk f t led c)(e:rk f t led c=rk f t led o):c=o:=by
 by_cases ne:c=o
 ·exact ne
 ·exfalso
  have l1:∀ x,pos x f.tr≤8:=fun x=>Nat.le_trans (pos_le x _) (by rw[perm_len ok.pt];exact ok.h8)
  have l2:∀ x,pos x f.pl≤8:=fun x=>Nat.le_trans (pos_le x _) (by rw[perm_len ok.pp];exact ok.h8)
  have st:∀ c,10≤rk f t led c→c / 8=led∨t=some (c / 8):=fun c h=>by
   unfold rk at h
   by_cases c1:t=some (c / 8)
   ·exact .inr c1
   ·rw[if_neg c1] at h
    by_cases c2:c / 8=led
    ·exact .inl c2
    ·rw[if_neg c2] at h
     omega
  rcases over_strong ok (t:=t) (led:=led) hc ho ne (st c h10) (st o (by omega)) with z | z
  ·rw[over_rk ok,decide_eq_true_eq] at z
   omega
  ·rw[over_rk ok,decide_eq_true_eq] at z
   omega
theorem rk_led(f:Fx)(t:Option Nat)(c:Nat):10≤rk f t (c / 8) c:=by
 unfold rk
 by_cases c1:t=some (c / 8)
 ·rw[if_pos c1];omega
 ·rw[if_neg c1,if_pos rfl];omega
def Win(f:Fx)(t:Option Nat)(led:Nat)(ys:List Nat)(h:Nat):Prop:=∃ m,ys[h]? = some m∧∀ c∈ys,c≠m→overB f t m c led=true
structure Trk(f:Fx)(ys:List Nat):Prop where
 nd:ys.Nodup
 ht:∀ c∈ys,c % 8 < f.h
 ne:0 < ys.length
def ledOf(ys:List Nat):Nat:=ys.getD 0 0 / 8
theorem win_of{f:Fx}(ok:f.Ok){t:Option Nat}{ys:List Nat}(T:Trk f ys){h:Nat}(hh:h < ys.length)(hm:∀ j,j < ys.length→rk f t (ledOf ys) (ys.getD j 0)≤rk f t (ledOf ys) (ys.getD h 0)):Win f t (ledOf ys) ys h:=by
 have at_:∀ i,i < ys.length→ys[i]? = some (ys.getD i 0):=fun i hi=>by rw[List.getD_eq_getElem?_getD,List.getElem?_eq_getElem hi];rfl
 refine⟨_,at_ h hh,fun c hc n=>?_⟩
 obtain⟨j,hj,e⟩:=List.mem_iff_getElem.mp hc
 have ej:ys.getD j 0=c:=by rw[List.getD_eq_getElem?_getD,List.getElem?_eq_getElem hj,e];rfl
 have m0:=rk_led f t (ys.getD 0 0)
 have m1:=hm 0 T.ne
 have mj:=hm j hj
 rw[ej] at mj
 have hmem:ys.getD h 0∈ys:=List.mem_of_getElem? (at_ h hh)
 rw[over_rk ok,decide_eq_true_eq]
 rcases Nat.lt_or_eq_of_le mj with z | z
 ·exact z
 ·exact absurd (rk_inj ok (T.ht _ hmem) (T.ht c hc) (Nat.le_trans m0 m1) z.symm).symm n
theorem win_card{f:Fx}{t:Option Nat}{led:Nat}{ys zs:List Nat}(hp:∀ c,c∈ys↔c∈zs){h k:Nat}(a:Win f t led ys h)(b:Win f t led zs k):ys[h]? = zs[k]?:=by
 obtain⟨m,hm,am⟩:=a
 obtain⟨n,hn,bn⟩:=b
 by_cases e:m=n
 ·rw[hm,hn,e]
 ·exfalso
  have x:=am n ((hp n).mpr (List.mem_of_getElem? hn)) (Ne.symm e)
  have y:=bn m ((hp m).mp (List.mem_of_getElem? hm)) e
  exact over_not_both f t m n led x y
theorem nd_at{ys:List Nat}(nd:ys.Nodup){i j:Nat}{c:Nat}(a:ys[i]? = some c)(b:ys[j]? = some c):i=j:=by
 obtain⟨hi,ei⟩:=List.getElem?_eq_some_iff.mp a
 obtain⟨hj,ej⟩:=List.getElem?_eq_some_iff.mp b
 have pw:=List.pairwise_iff_getElem.mp nd
 rcases Nat.lt_trichotomy i j with z | z | z
 ·exact absurd (ei.trans ej.symm) (pw i j hi hj z)
 ·exact z
 ·exact absurd (ej.trans ei.symm) (pw j i hj hi z)
theorem win_uniq{f:Fx}{t:Option Nat}{led:Nat}{ys:List Nat}(nd:ys.Nodup){h k:Nat}(a:Win f t led ys h)(b:Win f t led ys k):h=k:=by
 have e:=win_card (fun _=>Iff.rfl) a b
 obtain⟨m,hm,_⟩:=a
 exact nd_at nd hm (e.symm.trans hm)
theorem for_enumT{K:PySem.W.Frag}{a:Addr}{xs:List V}{g:TG}{tb:TS}{D:Ends}{σ:St}{H:Hp}(Pv:Nat→St→Hp→Prop)(h0:Pv 0 σ H)(hS:∀ i σ H,Pv i σ H→SqT K H a xs)
  (hs:∀ i x p σ H,xs[i]? = some x→Pv i σ H→H p=none→g (.ref p) σ (upd H p (.tup [.int (i:Nat),x])) fun σ2 H2=>tb { D with nx:=Pv (i+1),ct:=Pv (i+1),bk:=D.nx } σ2 H2) (hd:∀ σ H,Pv xs.length σ H→D.nx σ H) :
  ∃ W:Nat→Nat→St→Hp→Prop,(∃ m,W 0 m σ H)∧∀ i m σ H,W i m σ H →
   ((IteT K a).stop i H∧D.nx σ H)∨((IteT K a).go i H∧∃ N:St→Hp→Prop,(∀ σ' H',N σ' H'→∃ m',m' < m∧W (i+1) m' σ' H')∧∀ v H',(IteT K a).yld i H v H'→g v σ H' fun σ2 H2=>tb { D with nx:=N,ct:=N,bk:=D.nx } σ2 H2):=by
 refine⟨fun i m σ H=>m=xs.length - i∧i≤xs.length∧Pv i σ H,⟨xs.length,by simp,Nat.zero_le _,h0⟩,?_⟩
 rintro i m σ H ⟨rfl,hi,p⟩
 have sa:=hS i σ H p
 by_cases hlt:i < xs.length
 ·refine .inr ⟨⟨xs,_,sa,List.getElem?_eq_getElem hlt⟩,Pv (i+1),fun σ' H' p'=>⟨xs.length - (i+1),by omega,rfl,hlt,p'⟩,fun v H' y=>?_⟩
  obtain⟨q,x,rfl,hq,rfl,hx⟩:=y
  exact hs i x q σ H (hx xs sa) p hq
 ·have e:i=xs.length:=by omega
  subst e
  exact .inl ⟨⟨xs,sa,Nat.le_refl _⟩,hd σ H p⟩
end My
namespace My
open PySem
def cardsN(h:Nat):List Nat:=(List.range 32).filter h.testBit
def pcK(k h:Nat):Nat:=((List.range k).filter h.testBit).length
theorem pcK_succ(k h:Nat):pcK (k+1) h=h % 2+pcK k (h / 2):=by
 unfold pcK
 rw[List.range_succ_eq_map,List.filter_cons,List.filter_map,]
 have e:(h.testBit ∘ Nat.succ)=(h / 2).testBit:=by
  funext i
  exact Nat.testBit_succ h i
 rw[e]
 have h0:h.testBit 0=decide (h % 2=1):=Nat.testBit_zero h
 by_cases o:h % 2=1
 ·rw[if_pos (by rw[h0];exact decide_eq_true o),List.length_cons,List.length_map,o,Nat.add_comm]
 ·rw[if_neg (by rw[h0,decide_eq_false o];exact Bool.false_ne_true),List.length_map]
  omega
theorem pcK_drop:∀ k h:Nat,0 < h→h < 2 ^ k→pcK k (h &&& (h - 1))+1=pcK k h
 | 0,h,h0,h1=>by simp at h1;omega
 | k+1,h,h0,h1=>by
  rw[pcK_succ,pcK_succ]
  have e1:(h &&& (h - 1)) / 2=h / 2 &&& (h - 1) / 2:=Nat.and_div_two
  have e2:(h &&& (h - 1)) % 2=0:=by
   have z:=Nat.and_mod_two_pow (a:=h) (b:=h - 1) (n:=1)
   rw[show(2:Nat) ^ 1=2 from rfl] at z
   rw[z]
   rcases Nat.mod_two_eq_zero_or_one h with e | e
   ·rw[e];exact Nat.zero_and _
   ·rw[show(h - 1) % 2=0 by omega];exact Nat.and_zero _
  rw[e1,e2]
  rcases Nat.mod_two_eq_zero_or_one h with e | e
  ·have ih:=pcK_drop k (h / 2) (by omega) (by rw[Nat.pow_succ] at h1;omega)
   rw[show(h - 1) / 2=h / 2 - 1 by omega,e]
   omega
  ·rw[show(h - 1) / 2=h / 2 by omega,Nat.and_self,e]
   omega
theorem pcK_zero(k:Nat):pcK k 0=0:=by
 unfold pcK
 rw[List.length_eq_zero_iff,List.filter_eq_nil_iff]
 intro a _
 simp
def part(h s:Nat):Nat:=h &&& (255 * 2 ^ (8 * s))
theorem mask_bit:∀ s < 4,∀ c < 32,Nat.testBit (255 * 2 ^ (8 * s)) c=decide (c / 8=s):=by decide +kernel
theorem cards_lt{h c:Nat}(hc:c∈cardsN h):c < 32:=List.mem_range.mp (List.mem_filter.mp hc).1
end My
namespace My
theorem cards_end{h i:Nat}(hi:i≤32)(hz:h / 2 ^ i=0):(List.range i).filter h.testBit=cardsN h:=by
 unfold cardsN
 have hl:h < 2 ^ i:=by
  rcases Nat.div_eq_zero_iff.mp hz with e | e
  ·have:0 < 2 ^ i:=Nat.pow_pos (by decide)
   omega
  ·exact e
 have e32:32=i+(32 - i):=by omega
 rw[e32,List.range_add,List.filter_append]
 have e:List.filter h.testBit ((List.range (32 - i)).map (i + ·))=[]:=by
  rw[List.filter_eq_nil_iff]
  intro a ha
  obtain⟨b,_,rfl⟩:=List.mem_map.mp ha
  rw[Nat.testBit_lt_two_pow (Nat.lt_of_lt_of_le hl (Nat.pow_le_pow_right (by decide) (by omega)))]
  exact Bool.false_ne_true
 rw[e,List.append_nil]
theorem cards_step(h i:Nat):(List.range (i+1)).filter h.testBit=(List.range i).filter h.testBit++(if h / 2 ^ i % 2=1 then [i] else []):=by
 rw[List.range_succ,List.filter_append]
 have e:h.testBit i=decide (h / 2 ^ i % 2=1):=Nat.testBit_eq_decide_div_mod_eq
 by_cases o:h / 2 ^ i % 2=1
 ·rw[if_pos o,List.filter_cons_of_pos (by rw[e];exact decide_eq_true o),List.filter_nil]
 ·rw[if_neg o,List.filter_cons_of_neg (by rw[e,decide_eq_false o];exact Bool.false_ne_true),List.filter_nil]
theorem small_pos{h i:Nat}(h32:h < 4294967296)(hi:i≤32)(hp:0 < h / 2 ^ i):i < 32:=by
 rcases Nat.lt_or_ge i 32 with e | e
 ·exact e
 ·have:i=32:=by omega
  subst this
  have:h / 2 ^ 32=0:=Nat.div_eq_of_lt h32
  omega
def orAll(cs:List Nat)(a:Nat):Nat:=cs.foldl (fun a c=>a ||| 2 ^ c) a
theorem orAll_bit:∀(cs:List Nat) (a i:Nat),(orAll cs a).testBit i=(a.testBit i || decide (i∈cs))
 | [],a,i=>by simp [orAll]
 | c :: r,a,i=>by
  show(orAll r (a ||| 2 ^ c)).testBit i=_
  rw[orAll_bit r,Nat.testBit_or,Nat.testBit_two_pow]
  by_cases e:c=i
  ·subst e;simp
  ·have e2:i≠c:=fun z=>e z.symm
   simp [e,e2]
theorem mem_cards{h i:Nat}(hh:h < 4294967296):i∈cardsN h↔h.testBit i=true:=by
 unfold cardsN
 rw[List.mem_filter,List.mem_range]
 constructor
 ·exact fun z=>z.2
 ·intro z
  refine⟨?_,z⟩
  rcases Nat.lt_or_ge i 32 with e | e
  ·exact e
  ·rw[Nat.testBit_lt_two_pow (Nat.lt_of_lt_of_le hh (Nat.pow_le_pow_right (n:=2) (by decide) e))] at z
   cases z
theorem orAll_eq{h:Nat}(hh:h < 4294967296){cs:List Nat}(hm:∀ i,i∈cs↔i∈cardsN h):orAll cs 0=h:=by
 refine Nat.eq_of_testBit_eq fun i=>?_
 rw[orAll_bit,Nat.zero_testBit,Bool.false_or]
 by_cases e:h.testBit i=true
 ·rw[e];exact decide_eq_true ((hm i).mpr ((mem_cards hh).mpr e))
 ·rw[Bool.eq_false_iff.mpr e];exact decide_eq_false fun z=>e ((mem_cards hh).mp ((hm i).mp z))
theorem orAll_snoc(cs:List Nat)(c a:Nat):orAll (cs++[c]) a=orAll cs a ||| 2 ^ c:=by unfold orAll;rw[List.foldl_append];rfl
end My
namespace My
open PySem L2
def hN(cs:List Nat):Nat:=orAll cs 0
theorem hN_bit(cs:List Nat)(i:Nat):(hN cs).testBit i=decide (i∈cs):=by
 unfold hN
 rw[orAll_bit,Nat.zero_testBit,Bool.false_or]
theorem hN_ext{a b:List Nat}(h:∀ i,i∈a↔i∈b):hN a=hN b:=by
 refine Nat.eq_of_testBit_eq fun i=>?_
 rw[hN_bit,hN_bit]
 exact decide_eq_decide.mpr (h i)
theorem hN_lt{cs:List Nat}(h:∀ c∈cs,c < 32):hN cs < 4294967296:=by
 refine Nat.lt_pow_two_of_testBit (n:=32) (hN cs) fun i hi=>?_
 rw[hN_bit]
 exact decide_eq_false fun m=>by have:=h i m;omega
theorem hN_pos{cs:List Nat}:0 < hN cs↔cs≠[]:=by
 constructor
 ·intro h z
  rw[z] at h
  exact Nat.lt_irrefl 0 h
 ·intro h
  cases cs with
  | nil=>exact absurd rfl h
  | cons c l=>
   refine Nat.pos_of_ne_zero fun z=>?_
   have e:=hN_bit (c :: l) c
   rw[z,Nat.zero_testBit,decide_eq_true List.mem_cons_self] at e
   cases e
theorem hN_part{cs:List Nat}(h:∀ c∈cs,c < 32){s:Nat}(hs:s < 4):part (hN cs) s=hN (cs.filter fun c=>decide (c / 8=s)):=by
 refine Nat.eq_of_testBit_eq fun i=>?_
 unfold part
 rw[Nat.testBit_and,hN_bit,hN_bit]
 by_cases m:i∈cs
 ·rw[mask_bit s hs i (h i m),decide_eq_true m,Bool.true_and]
  refine decide_eq_decide.mpr ⟨fun z=>List.mem_filter.mpr ⟨m,decide_eq_true z⟩,fun z=>of_decide_eq_true (List.mem_filter.mp z).2⟩
 ·rw[decide_eq_false m,Bool.false_and]
  exact(decide_eq_false fun z=>m (List.mem_filter.mp z).1).symm
theorem hN_cards{cs:List Nat}(h:∀ c∈cs,c < 32)(i:Nat):i∈cardsN (hN cs)↔i∈cs:=by
 rw[mem_cards (hN_lt h),hN_bit,decide_eq_true_eq]
theorem hN_snoc(cs:List Nat)(c:Nat):hN (cs++[c])=hN cs ||| 2 ^ c:=orAll_snoc cs c 0
theorem hN_cons{c:Nat}{cs:List Nat}(h:c∉cs):hN (c :: cs)=2 ^ c+hN cs:=by
 have e:hN (c :: cs)=hN cs ||| 2 ^ c:=by
  rw[← hN_snoc]
  exact hN_ext fun i=>by rw[List.mem_cons,List.mem_append,List.mem_singleton];exact Or.comm
 rw[e]
 have z:hN cs &&& 2 ^ c=0:=by
  refine Nat.eq_of_testBit_eq fun i=>?_
  rw[Nat.testBit_and,hN_bit,Nat.testBit_two_pow,Nat.zero_testBit]
  by_cases q:c=i
  ·subst q
   rw[decide_eq_false h]
   rfl
  ·rw[decide_eq_false q,Bool.and_false]
 have k:=PyProof.Rows.nat_or_add_and (hN cs) (2 ^ c)
 rw[z] at k
 omega
theorem hN_sum:∀{cs:List Nat},cs.Nodup→(cs.map fun c=>2 ^ c).sum=hN cs
 | [],_=>rfl
 | c :: cs,nd=>by
  obtain⟨n1,n2⟩:=List.nodup_cons.mp nd
  rw[List.map_cons,List.sum_cons,hN_sum n2,hN_cons n1]
def folL(s:Nat)(cs:List Nat):List Nat:=cs.filter fun c=>decide (c / 8=s)
def orL(a b:List Nat):List Nat:=if a=[] then b else a
def trL(t:Option Nat)(cs:List Nat):List Nat:=match t with | none=>[] | some u=>folL u cs
def cutL(t:Option Nat)(led:Nat)(cs:List Nat):List Nat:=orL (folL led cs) (orL (trL t cs) cs)
def topL(f:Fx)(t:Option Nat)(ys cs:List Nat):List Nat:=cs.filter fun c=>ys.all fun o=>overB f t c o (ledOf ys)
def alw(d:_root_.Fin 4)(f:Fx)(t:Option Nat)(ys cs:List Nat):List Nat:=match d with
 | 0=>cs
 | 1=>orL (folL (ledOf ys) cs) cs
 | 2=>cutL t (ledOf ys) cs
 | 3=>orL (topL f t ys (cutL t (ledOf ys) cs)) (cutL t (ledOf ys) cs)
theorem orL_sub{a b cs:List Nat}(ha:∀ c∈a,c∈cs)(hb:∀ c∈b,c∈cs):∀ c∈orL a b,c∈cs:=fun c hc=>by
 unfold orL at hc
 by_cases z:a=[]
 ·rw[if_pos z] at hc;exact hb c hc
 ·rw[if_neg z] at hc;exact ha c hc
theorem folL_sub(s:Nat)(cs:List Nat):∀ c∈folL s cs,c∈cs:=fun c hc=>(List.mem_filter.mp hc).1
theorem trL_sub(t:Option Nat)(cs:List Nat):∀ c∈trL t cs,c∈cs:=fun c hc=>by
 cases t with
 | none=>exact nomatch hc
 | some u=>exact folL_sub u cs c hc
theorem cutL_sub(t:Option Nat)(led:Nat)(cs:List Nat):∀ c∈cutL t led cs,c∈cs:=orL_sub (folL_sub _ _) (orL_sub (trL_sub _ _) fun _ h=>h)
theorem alw_sub(d:_root_.Fin 4)(f:Fx)(t:Option Nat)(ys cs:List Nat):∀ c∈alw d f t ys cs,c∈cs:=by
 match d with
 | 0=>exact fun _ h=>h
 | 1=>exact orL_sub (folL_sub _ _) fun _ h=>h
 | 2=>exact cutL_sub _ _ _
 | 3=>exact orL_sub (fun c hc=>cutL_sub _ _ _ c (List.mem_filter.mp hc).1) (cutL_sub _ _ _)
theorem hN_orL{a b:List Nat}:hN (orL a b)=if 0 < hN a then hN a else hN b:=by
 unfold orL
 by_cases z:a=[]
 ·rw[if_pos z,if_neg fun q=>hN_pos.mp q z]
 ·rw[if_neg z,if_pos (hN_pos.mpr z)]
end My
namespace My
open PySem L2
abbrev sCardsIn:Stmt:=top 3
abbrev sHandOf:Stmt:=top 4
abbrev sOfSuit:Stmt:=top 6
def cardsV(h:Nat):List V:=(cardsN h).map fun c=>V.int (c:Nat)
theorem cardsV_eq(h:Nat):cardsV h=vN (cardsN h):=rfl
theorem vN_app(xs ys:List Nat):vN xs++vN ys=vN (xs++ys):=(List.map_append).symm
theorem vN_get{ys:List Nat}{i:Nat}{x:V}(h:(vN ys)[i]? = some x):∃ c,ys[i]? = some c∧x = .int (c:Nat):=by
 unfold vN at h
 rw[List.getElem?_map] at h
 cases e:ys[i]? with
 | none=>rw[e] at h;cases h
 | some c=>rw[e] at h;cases h;exact⟨c,rfl,rfl⟩
theorem or_pp{x y:Int}(hx:0≤x)(hy:0≤y):Builtin.bitOr x y=((x.toNat ||| y.toNat:Nat):Int):=by
 rw[PyProof.Rows.bitOr_and,PyProof.Rows.bitAnd_pp hx hy]
 have:=PyProof.Rows.nat_or_add_and x.toNat y.toNat
 omega
theorem or_nat(a c:Nat):Builtin.bitOr (a:Int) (1 * 2 ^ ((c:Nat):Int).toNat)=((a ||| 2 ^ c:Nat):Int):=by
 have e:(1:Int) * 2 ^ ((c:Nat):Int).toNat=((2 ^ c:Nat):Int):=by
  rw[Int.one_mul,Int.toNat_natCast,Int.natCast_pow];rfl
 rw[e,or_pp (Int.natCast_nonneg _) (Int.natCast_nonneg _),Int.toNat_natCast,Int.toNat_natCast]
theorem and1(a:Nat):Builtin.bitAnd (a:Int) 1=((a % 2:Nat):Int):=by
 rw[PyProof.Rows.bitAnd_pp (Int.natCast_nonneg _) (by decide),Int.toNat_natCast]
 exact congrArg _ (Nat.and_one_is_mod a)
theorem shr1(h i:Nat):((h / 2 ^ i:Nat):Int) / 2 ^ ((1:Int).toNat)=((h / 2 ^ (i+1):Nat):Int):=by
 rw[Nat.pow_succ,← Nat.div_div_eq_div_mul]
 show((h / 2 ^ i:Nat):Int) / 2=_
 omega
theorem filter_short(h n:Nat):((List.range n).filter h.testBit).length≤n:=by
 have:=List.length_filter_le h.testBit (List.range n)
 rwa [List.length_range] at this
section
variable{P:Program}{w:World}{K:PySem.W.Frag}{mg:Str→Option Value}{base:Heap}{f g:Addr}{fd gd:FuncData}
def spCardsIn(K:PySem.W.Frag):Sp:=fun vs H Q _=>∃ h:Nat,vs=[.int h]∧h < 4294967296∧∀ l H',Same H H'→H l=none→H' l=some (.lst (cardsV h))→Q (.ref l) H'
theorem scCardsIn:FnScope ["hand","cards","card"] ["hand"] (defScope sCardsIn):=⟨rfl,rfl,rfl,by decide +kernel,rfl,by decide +kernel,by decide +kernel⟩
theorem ok_cardsIn{k:Nat}(F:Fun K "cards_in" "cards_in" sCardsIn f fd):FnOk P w K mg base CX0 (k+1) f fd ["hand"] (spCardsIn K):=by
 refine F.ok scCardsIn (fun vs H Q E h=>?_) (fun cdv A outer s H vs Q E hr h=>?_)
 ·obtain⟨h,rfl,_⟩:=h
  rfl
 obtain⟨h,rfl,h32,q⟩:=h
 refine⟨_,pss_cons (ps_set (i:=1) scCardsIn.nd rfl (Or.inl rfl) (pe_lst pa_nil))
  (pss_cons (ps_set (i:=2) scCardsIn.nd rfl (Or.inl rfl) pe_int)
  (pss_cons (ps_while PassesOwn.never (pt_cmpR op_gt (pv 0) pe_int (nomark _))
   (pss_cons (ps_if (pt_cmpR op_eq (pe_op op_and (pv 0) pe_int) pe_int (nomark _)) (pss_one (ps_expr (pe_bm PySem.F.plainAttrs_list PySem.F.slot_list_append PySem.F.type_list_append mt_append (pv 1) (pa_cons (pv 2) pa_nil)))) pss_nil)
   (pss_cons (ps_set (i:=0) scCardsIn.nd rfl (Or.inl rfl) (pe_op op_shr (pv 0) pe_int))
   (pss_one (ps_set (i:=2) scCardsIn.nd rfl (Or.inl rfl) (pe_op op_add (pv 2) pe_int))))))
  (pss_one (ps_ret (pv 1))))),?_⟩
 refine⟨Nat.zero_le _,fun l hl=>?_⟩
 refine while_by (fun σ H'=>∃ i:Nat,σ=[some (.int ((h / 2 ^ i:Nat):Int)),some (.ref l),some (.int (i:Nat))]∧i≤32∧Same H H'∧H' l=some (.lst (vN ((List.range i).filter h.testBit))))
  (fun σ _=>match σ with | [_,_,some (.int i)]=>32 - i.toNat | _=>0) ⟨0,?_,Nat.zero_le _,same_upd hl _,upd_same⟩ (fun σ H1 z=>?_) (fun σ H1 R R' m ⟨v,e,i,j,e1,e2,b,e3,r⟩=>⟨v,e,i,j,e1,e2,b,e3,m _ _ r⟩)
 ·rw[Nat.pow_zero,Nat.div_one]
  rfl
 obtain⟨i,rfl,hi,sm,hL⟩:=z
 refine⟨_,rfl,_,_,rfl,rfl,_,rfl,ite2 (fun c=>?_) fun c=>?_⟩
 ·have c':(0:Int) < ((h / 2 ^ i:Nat):Int):=of_decide_eq_true c
  have hi':i < 32:=small_pos h32 hi (by omega)
  refine⟨_,rfl,_,_,rfl,rfl,rfl,_,rfl,ite2 (fun c1=>?_) fun c1=>?_⟩
  ·have o:h / 2 ^ i % 2=1:=by
    have c2:decide (V.int (Builtin.bitAnd ((h / 2 ^ i:Nat):Int) 1)=V.int 1)=true:=c1
    rw[and1] at c2
    have e:=of_decide_eq_true c2
    injection e with e
    omega
   refine⟨_,rfl,.inl ⟨rfl,_,SqL.of hL⟩,_,rfl,l,_,_,rfl,rfl,hL,?_,?_⟩
   ·rw[vN_len]
    exact small1000 (Nat.le_trans (filter_short h i) (by omega))
   refine⟨_,rfl,_,_,rfl,rfl,(show(0:Int)≤1 by decide),_,rfl,_,_,rfl,rfl,⟨i+1,?_,hi',same_upd2 hl sm _,?_⟩,?_⟩
   ·show [some (V.int (((h / 2 ^ i:Nat):Int) / 2 ^ ((1:Int).toNat))),some (V.ref l),some (V.int ((i:Nat)+1))]=_
    rw[shr1]
    rfl
   ·rw[upd_same,cards_step,if_pos o,← vN_app]
    rfl
   ·show 32 - (((i:Nat):Int)+1).toNat < 32 - ((i:Nat):Int).toNat
    omega
  ·have o:¬ h / 2 ^ i % 2=1:=by
    intro o
    refine c1 ?_
    show decide (V.int (Builtin.bitAnd ((h / 2 ^ i:Nat):Int) 1)=V.int 1)=true
    rw[and1,o]
    exact decide_eq_true rfl
   refine⟨_,rfl,_,_,rfl,rfl,(show(0:Int)≤1 by decide),_,rfl,_,_,rfl,rfl,⟨i+1,?_,hi',sm,?_⟩,?_⟩
   ·show [some (V.int (((h / 2 ^ i:Nat):Int) / 2 ^ ((1:Int).toNat))),some (V.ref l),some (V.int ((i:Nat)+1))]=_
    rw[shr1]
    rfl
   ·rw[cards_step,if_neg o,List.append_nil]
    exact hL
   ·show 32 - (((i:Nat):Int)+1).toNat < 32 - ((i:Nat):Int).toNat
    omega
 ·have c':¬ (0:Int) < ((h / 2 ^ i:Nat):Int):=of_decide_eq_false (Bool.eq_false_iff.mpr c)
  refine⟨_,rfl,q l H1 sm hl ?_⟩
  have z0:h / 2 ^ i=0:=by
   generalize h / 2 ^ i=n at c'
   omega
  rw[hL,cards_end hi z0]
  rfl
def spHandOf(K:PySem.W.Frag):Sp:=fun vs H Q _=>∃(a:Addr) (cs:List Nat),vs=[.ref a]∧SqL K H a (vN cs)∧(∀ c∈cs,c < 32)∧Q (.int (orAll cs 0:Nat)) H
theorem scHandOf:FnScope ["cards","hand","card"] ["cards"] (defScope sHandOf):=⟨rfl,rfl,rfl,by decide +kernel,rfl,by decide +kernel,by decide +kernel⟩
theorem ok_handOf{k:Nat}(F:Fun K "hand_of" "hand_of" sHandOf f fd):FnOk P w K mg base CX0 (k+1) f fd ["cards"] (spHandOf K):=by
 refine F.ok scHandOf (fun vs H Q E h=>?_) (fun cdv A outer s H vs Q E hr h=>?_)
 ·obtain⟨a,cs,rfl,_⟩:=h
  rfl
 obtain⟨a,cs,rfl,hS,hc,q⟩:=h
 refine⟨_,pss_cons (ps_set (i:=1) scHandOf.nd rfl (Or.inl rfl) pe_int)
  (pss_cons (ps_for PassesOwn.never rfl (pi_list (pv 0)) (pg_name (i:=2) scHandOf.nd rfl (Or.inl rfl)) (pss_one (ps_set (i:=1) scHandOf.nd rfl (Or.inl rfl) (pe_op op_or (pv 1) (pe_op op_shl pe_int (pv 2))))))
  (pss_one (ps_ret (pv 1)))),?_⟩
 refine⟨_,rfl,a,rfl,⟨_,hS⟩,for_list (xs:=vN cs) (fun i σ H2=>H2=H∧∃ x,σ=[some (.ref a),some (.int (orAll (cs.take i) 0:Nat)),x]) ⟨rfl,_,rfl⟩ (fun i σ H2 _ z=>z.1 ▸ hS) (fun i x σ H2 hx z=>?_) (fun σ H2 z=>?_)⟩
 ·obtain⟨rfl,y,rfl⟩:=z
  obtain⟨c,hi,rfl⟩:=vN_get hx
  have c32:=hc c (List.mem_of_getElem? hi)
  refine⟨_,rfl,_,rfl,_,_,rfl,rfl,⟨by omega,by omega,by decide⟩,_,_,rfl,rfl,rfl,some (.int (c:Nat)),?_⟩
  show [some (V.ref a),some (V.int (Builtin.bitOr ((orAll (cs.take i) 0:Nat):Int) (1 * 2 ^ ((c:Nat):Int).toNat))),some (V.int (c:Nat))]=_
  rw[or_nat]
  have e:cs.take (i+1)=cs.take i++[c]:=by
   rw[List.take_add_one,hi]
   rfl
  rw[e,orAll_snoc]
 ·obtain⟨rfl,y,rfl⟩:=z
  refine⟨_,rfl,?_⟩
  rw[vN_len,List.take_length]
  exact q
def spOfSuit(K:PySem.W.Frag):Sp:=fun vs H Q _=>∃ h s:Nat,vs=[.int h,.int s]∧h < 4294967296∧s < 4∧Q (.int (part h s)) H
theorem scOfSuit:FnScope ["hand","suit"] ["hand","suit"] (defScope sOfSuit):=⟨rfl,rfl,rfl,by decide +kernel,rfl,by decide +kernel,by decide +kernel⟩
theorem ok_ofSuit{k:Nat}{t1 t2:Tok}(F:Fun K "of_suit" "of_suit" sOfSuit f fd)(mL:mg "LOWEST_SUIT" = some (.int 255 t1))(mH:mg "HEIGHTS" = some (.int 8 t2)):FnOk P w K mg base CX0 (k+1) f fd ["hand","suit"] (spOfSuit K):=by
 refine F.ok scOfSuit (fun vs H Q E h=>?_) (fun cdv A outer s H vs Q E hr h=>?_)
 ·obtain⟨h,s,rfl,_⟩:=h
  rfl
 obtain⟨h,u,rfl,h32,hu,q⟩:=h
 refine⟨_,pss_one (ps_ret (pe_op op_and (pv 0) (pe_op op_shl (pe_glob (v:=.int 255) rfl mL ⟨_,rfl⟩) (pe_op op_mul (pe_glob (v:=.int 8) rfl mH ⟨_,rfl⟩) (pv 1))))),?_⟩
 refine⟨_,rfl,_,rfl,_,_,rfl,rfl,.inl ⟨by decide,by decide⟩,_,_,rfl,rfl,⟨by omega,by omega,by decide⟩,_,_,rfl,rfl,?_⟩
 have e:((8:Int) * (u:Nat)).toNat=8 * u:=by omega
 have e2:(255:Int) * 2 ^ (8 * u)=((255 * 2 ^ (8 * u):Nat):Int):=by rw[Int.natCast_mul,Int.natCast_pow];rfl
 show Q (V.int (Builtin.bitAnd ((h:Nat):Int) ((255:Int) * 2 ^ ((8:Int) * (u:Nat)).toNat))) H
 rw[e,e2,PyProof.Rows.bitAnd_pp (Int.natCast_nonneg _) (Int.natCast_nonneg _)]
 exact q
end
end My
namespace L2
open PySem PySem.Spec PyProof.Rows
theorem pt_truthB{X:Cx}{a:Expr}{ta:TE}(ha:PE X a ta)(he:∀ whole,isTrue a X.env whole=(do let v ← whole;standAt a.pos;holding [v] (truthy v))):PT X a (tTest ta):=by
 intro pins s σ H Q I h
 exact isTrue_plain (thn (ha pins s σ H _ I h) fun v s1 ⟨x,H1,I1,r1,k,e,q1⟩=>tru_ok pins s1 σ H1 x v Q I1 r1 ⟨k,by subst e;rfl,q1⟩) (he _)
theorem comp_tup{K:PySem.W.Frag}{tt:TT}{te:TE}{σ0:St}{H1:Hp}{Q:V→Hp→Prop}{a:Addr}{xs:List V}(p:V→Bool)(f:V→V)(hS:SqT K H1 a xs)(hn:xs.length≤sizeLine)
  (hT:∀ x H,x∈xs→Same H1 H→∀ R:Bool→Hp→Prop,(∀ H',Same H H'→R (p x) H')→tt (σ0.set 0 (some x)) H R)
  (hE:∀ x H,x∈xs→p x=true→Same H1 H→∀ R:V→Hp→Prop,(∀ H',Same H H'→R (f x) H')→te (σ0.set 0 (some x)) H R)
  (hQ:∀ l H,Same H1 H→H1 l=none→H l=some (.lst ((xs.filter p).map f))→Q (.ref l) H):tCompR (gName 0) tt te σ0 (Itt K a) H1 Q:=by
 have at_:∀ i,i < xs.length→xs[i]? = some (xs.getD i .non):=fun i h=>by
  rw[List.getD_eq_getElem?_getD,List.getElem?_eq_getElem h]
  rfl
 have mem:∀ i,i < xs.length→xs.getD i .non∈xs:=fun i h=>List.mem_of_getElem? (at_ i h)
 refine comp_any xs.length (fun i=>xs.getD i .non) (fun i=>p (xs.getD i .non)) (fun i=>f (xs.getD i .non)) hn (fun i H sm h=>⟨xs,_,sm.seqT hS,at_ i h⟩) (fun H sm=>⟨xs,sm.seqT hS,Nat.le_refl _⟩)
  (fun i H x H' sm h y=>⟨y.1,?_⟩) (fun i H h sm=>hT _ H (mem i h) sm) (fun i H h hp sm=>hE _ H (mem i h) hp sm) (fun l H sm hl hL=>hQ l H sm hl ?_)
 ·have e:=y.2 xs (sm.seqT hS)
  rw[at_ i h] at e
  exact(Option.some.inj e).symm
 ·rw[hL,filter_map_range]
end L2
namespace My
open PySem L2
abbrev sLedSuit:Stmt:=top 55
abbrev sFoc:Stmt:=top 56
abbrev sGoesAll:Stmt:=top 57
abbrev sFreeAl:Stmt:=inClass (top 58) 1
abbrev sFollowAl:Stmt:=inClass (top 59) 1
abbrev sCutAl:Stmt:=inClass (top 60) 1
abbrev sBeatAl:Stmt:=inClass (top 61) 1
abbrev sMay:Stmt:=inClass (top 71) 5
theorem at_vN{ys:List Nat}{i:Nat}(h:i < ys.length):atI (vN ys) (i:Nat)=some (.int ((ys.getD i 0:Nat):Int)):=by
 have e:(vN ys)[i]? = some (.int ((ys.getD i 0:Nat):Int)):=by
  unfold vN
  rw[List.getElem?_map,List.getElem?_eq_getElem h,List.getD_eq_getElem?_getD,List.getElem?_eq_getElem h]
  rfl
 exact atI_nat e
theorem gtz(n:Nat):decide ((0:Int) < ((n:Nat):Int))=decide (0 < n):=decide_eq_decide.mpr ⟨fun h=>by omega,fun h=>by omega⟩
structure Beg(f:Fx)(ys cs:List Nat):Prop where
 ne:0 < ys.length
 len:ys.length≤32
 ys8:∀ c∈ys,c / 8 < 4∧c % 8 < f.h
 cs8:∀ c∈cs,c < 32∧c % 8 < f.h
theorem Beg.c32{f:Fx}{ys cs:List Nat}(B:Beg f ys cs):∀ c∈cs,c < 32:=fun c h=>(B.cs8 c h).1
theorem Beg.led{f:Fx}{ys cs:List Nat}(B:Beg f ys cs):ledOf ys < 4:=by
 have m:ys.getD 0 0∈ys:=by
  rw[List.getD_eq_getElem?_getD,List.getElem?_eq_getElem B.ne]
  exact List.getElem_mem _
 exact(B.ys8 _ m).1
theorem Beg.sub{f:Fx}{ys cs ds:List Nat}(B:Beg f ys cs)(h:∀ c∈ds,c∈cs):Beg f ys ds:=⟨B.ne,B.len,B.ys8,fun c hc=>B.cs8 c (h c hc)⟩
section
variable{P:Program}{w:World}{K:PySem.W.Frag}{mg:Str→Option Value}{base:Heap}{f g:Addr}{fd gd:FuncData}
def spLed(K:PySem.W.Frag):Sp:=fun vs H Q _=>∃(p:Addr) (fx:Fx) (ys cs:List Nat),vs=[.int (hN cs:Nat),.ref p]∧SqT K H p (vN ys)∧Beg fx ys cs∧Q (.int (hN (folL (ledOf ys) cs):Nat)) H
theorem scLed:FnScope ["hand","trick"] ["hand","trick"] (defScope sLedSuit):=⟨rfl,rfl,rfl,by decide +kernel,rfl,by decide +kernel,by decide +kernel⟩
theorem ok_led{k:Nat}{f1:Addr}{d1:FuncData}{t1:Tok}(F:Fun K "of_led_suit" "of_led_suit" sLedSuit f fd)(LO:Lib P w K mg base k "of_suit" ["hand","suit"] (spOfSuit K) f1 d1)(mH:mg "HEIGHTS" = some (.int 8 t1)):FnOk P w K mg base CX0 (k+1) f fd ["hand","trick"] (spLed K):=by
 refine F.ok scLed (fun vs H Q E h=>?_) (fun cdv A outer s H vs Q E hr h=>?_)
 ·obtain⟨p,fx,ys,cs,rfl,_⟩:=h
  rfl
 obtain⟨p,fx,ys,cs,rfl,hT,B,q⟩:=h
 refine⟨_,pss_one (ps_ret (pe_call LO.ok hr rfl LO.mg LO.kp LO.bd .nil pass0 (pa_cons (pv 0) (pa_cons (pe_op op_fdiv (pe_ix ix_tup (pv 1) pe_int (fun _ _=>rfl)) (pe_glob (v:=.int 8) rfl mH ⟨_,rfl⟩)) pa_nil)))),?_⟩
 have e0:(((ys.getD 0 0:Nat):Int) / 8)=((ledOf ys:Nat):Int):=by unfold ledOf;omega
 refine⟨_,rfl,_,rfl,p,_,_,_,rfl,rfl,hT,at_vN (i:=0) B.ne,_,_,rfl,rfl,⟨by decide,by decide⟩,hN cs,ledOf ys,(show [V.int (hN cs:Nat),V.int (((ys.getD 0 0:Nat):Int) / 8)]=_ by rw[e0]),hN_lt B.c32,B.led,?_⟩
 rw[hN_part B.c32 B.led]
 exact q
def TrB(t:Option Nat):Prop:=∀ u,t=some u→u < 4
def spFoc(K:PySem.W.Frag)(CG:Addr):Sp:=fun vs H Q _=>∃(gm x p:Addr) (t:Option Nat) (fx:Fx) (ys cs:List Nat),vs=[.ref gm,.int (hN cs:Nat),.ref p]∧IsGam CG x (tvV t) H gm∧TrB t∧SqT K H p (vN ys)∧Beg fx ys cs∧Q (.int (hN (cutL t (ledOf ys) cs):Nat)) H
abbrev nFoc:List Str:=["game","hand","trick","followers","trumps"]
theorem scFoc:FnScope nFoc ["game","hand","trick"] (defScope sFoc):=⟨rfl,rfl,rfl,by decide +kernel,rfl,by decide +kernel,by decide +kernel⟩
theorem ok_foc{k:Nat}{f1 f2 CG:Addr}{d1 d2:FuncData}(F:Fun K "followed_or_cut" "followed_or_cut" sFoc f fd)(CGm:GamC K mg CG)(LL:Lib P w K mg base k "of_led_suit" ["hand","trick"] (spLed K) f1 d1)(LO:Lib P w K mg base k "of_suit" ["hand","suit"] (spOfSuit K) f2 d2) :
  FnOk P w K mg base CX0 (k+1) f fd ["game","hand","trick"] (spFoc K CG):=by
 refine F.ok scFoc (fun vs H Q E h=>?_) (fun cdv A outer s H vs Q E hr h=>?_)
 ·obtain⟨gm,x,p,t,fx,ys,cs,rfl,_⟩:=h
  rfl
 obtain⟨gm,x,p,t,fx,ys,cs,rfl,⟨dg,hG⟩,hb,hT,B,q⟩:=h
 refine⟨_,pss_cons (ps_set (i:=3) scFoc.nd rfl (Or.inl rfl) (pe_call LL.ok hr rfl LL.mg LL.kp LL.bd .nil pass0 (pa_cons (pv 1) (pa_cons (pv 2) pa_nil))))
  (pss_cons (ps_if (pt_cmpR op_gt (pv 3) pe_int (nomark _)) (pss_one (ps_ret (pv 3))) pss_nil)
  (pss_cons (ps_if (pt_cmpR op_isN (pe_fld (pv 0) rfl) pe_non (nomark _)) (pss_one (ps_ret (pv 1))) pss_nil)
  (pss_cons (ps_set (i:=4) scFoc.nd rfl (Or.inl rfl) (pe_call LO.ok hr rfl LO.mg LO.kp LO.bd .nil pass0 (pa_cons (pv 1) (pa_cons (pe_fld (pv 0) rfl) pa_nil))))
  (pss_one (ps_ret (pe_ifExp (pt_cmpR op_gt (pv 4) pe_int (nomark _)) (pv 4) (pv 1))))))),?_⟩
 refine⟨_,rfl,_,rfl,p,fx,ys,cs,rfl,hT,B,?_⟩
 refine⟨_,rfl,_,_,rfl,rfl,_,rfl,?_⟩
 refine chg (gtz _) ?_
 unfold cutL at q
 rw[hN_orL] at q
 by_cases c1:0 < hN (folL (ledOf ys) cs)
 ·rw[decide_eq_true c1]
  rw[if_pos c1] at q
  exact iteT ⟨_,rfl,q⟩
 rw[decide_eq_false c1]
 rw[if_neg c1,hN_orL] at q
 refine iteF ⟨_,rfl,gm,CG,dg,_,_,rfl,hG,CGm.cl,CGm.nU,gam_trump _ _,rfl,_,rfl,?_⟩
 cases t with
 | none=>
  have z:hN (trL none cs)=0:=rfl
  rw[z,if_neg (Nat.lt_irrefl 0)] at q
  exact iteT ⟨_,rfl,q⟩
 | some u=>
  refine iteF ⟨_,rfl,_,rfl,gm,CG,dg,_,_,rfl,hG,CGm.cl,CGm.nU,gam_trump _ _,hN cs,u,rfl,hN_lt B.c32,hb u rfl,?_⟩
  rw[hN_part B.c32 (hb u rfl)]
  have e:hN (trL (some u) cs)=hN (cs.filter fun c=>decide (c / 8=u)):=rfl
  rw[e] at q
  refine⟨_,rfl,_,_,rfl,rfl,_,rfl,?_⟩
  refine chg (gtz _) ?_
  by_cases c2:0 < hN (cs.filter fun c=>decide (c / 8=u))
  ·rw[decide_eq_true c2]
   rw[if_pos c2] at q
   exact iteT ⟨_,rfl,q⟩
  ·rw[decide_eq_false c2]
   rw[if_neg c2] at q
   exact iteF ⟨_,rfl,q⟩
end
section
variable{P:Program}{w:World}{K:PySem.W.Frag}{mg:Str→Option Value}{base:Heap}{f g:Addr}{fd gd:FuncData}
def ovV(fx:Fx)(t:Option Nat)(c led:Nat)(x:V):Bool:=match x with | .int i=>overB fx t c i.toNat led | _=>false
theorem ovV_list(fx:Fx)(t:Option Nat)(c led:Nat)(ys:List Nat):(((vN ys).filter fun _=>true).map fun x=>V.bl (ovV fx t c led x))=(ys.map fun o=>overB fx t c o led).map V.bl:=by
 rw[List.filter_eq_self.mpr fun _ _=>rfl]
 unfold vN
 rw[List.map_map,List.map_map]
 refine List.map_congr_left fun o _=>?_
 show V.bl (overB fx t c (((o:Nat):Int).toNat) led)=V.bl (overB fx t c o led)
 rw[Int.toNat_natCast]
def spGoes(K:PySem.W.Frag)(CT CG:Addr):Sp:=fun vs H Q _=>∃(gm x p:Addr) (t:Option Nat) (fx:Fx) (ys:List Nat) (c:Nat),vs=[.ref gm,.int (c:Nat),.ref p]∧fx.Ok∧IsGam CG x (tvV t) H gm∧IsTab CT fx H x∧SqT K H p (vN ys)∧Beg fx ys []∧c % 8 < fx.h∧∀ H',Same H H'→Q (.bl (ys.all fun o=>overB fx t c o (ledOf ys))) H'
abbrev nGoes:List Str:=["game","card","trick","led"]
abbrev nGoesB:List Str:=["other","game","card","led"]
theorem scGoes:FnScope nGoes ["game","card","trick"] (defScope sGoesAll):=⟨rfl,rfl,rfl,by decide +kernel,rfl,by decide +kernel,by decide +kernel⟩
theorem ok_goes{k:Nat}{CT CG m3:Addr}{e3:FuncData}{t1:Tok}(F:Fun K "goes_over_all" "goes_over_all" sGoesAll f fd)(CGm:GamC K mg CG)(MV:Meth K CG "is_over" m3)(FV:FnOk P w K mg base CX0 k m3 e3 pOver (spOver CT CG))(BV:Binds K e3 pOver [])(mH:mg "HEIGHTS" = some (.int 8 t1))(mA:mg "all" = none) :
  FnOk P w K mg base CX0 (k+1) f fd ["game","card","trick"] (spGoes K CT CG):=by
 refine F.ok scGoes (fun vs H Q E h=>?_) (fun cdv A outer s H vs Q E hr h=>?_)
 ·obtain⟨gm,x,p,t,fx,ys,c,rfl,_⟩:=h
  rfl
 obtain⟨gm,x,p,t,fx,ys,c,rfl,ok,hg,ht,hT,B,hc,q⟩:=h
 refine⟨_,pss_cons (ps_set (i:=3) scGoes.nd rfl (Or.inr rfl) (pe_op op_fdiv (pe_ix ix_tup (pv 2) pe_int (fun _ _=>rfl)) (pe_glob (v:=.int 8) rfl mH ⟨_,rfl⟩)))
  (pss_one (ps_ret (pe_callB (call_allL rfl) rfl mA PyProof.Rows.boot_all (pa_cons (pe_comp nGoesB [none,some 0,some 1,some 3] rfl (Blk.by (sc:=defScope sGoesAll) (N0:=nGoes) rfl rfl (by decide +kernel)) (pi_tup (pv 2)) (fun C s₀ H₀ ex=>pg_name (i:=0) (show nGoesB.Nodup by decide +kernel) rfl (Or.inl rfl)) (fun C s₀ H₀ ex=>pf_nil)
   (fun C s₀ H₀ ex=>pe_meth (pv 1) CGm.cl MV FV hr BV .nil pass0 (pa_cons (pv 2) (pa_cons (pv 0) (pa_cons (pv 3) pa_nil))))) pa_nil)))),?_⟩
 have e0:(((ys.getD 0 0:Nat):Int) / 8)=((ledOf ys:Nat):Int):=by unfold ledOf;omega
 refine⟨_,rfl,p,_,_,_,rfl,rfl,hT,at_vN (i:=0) B.ne,_,_,rfl,rfl,⟨by decide,by decide⟩,?_⟩
 have h32:=B.len
 refine⟨_,rfl,p,rfl,⟨_,hT⟩,comp_tup (K:=K) (xs:=vN ys) (fun _=>true) (fun x=>.bl (ovV fx t c (ledOf ys) x)) hT (fits3 _ (by rw[vN_len];omega)) (fun y H3 hy sm R hR=>hR H3 (Same.refl H3)) (fun y H3 hy hp sm R hR=>?_) (fun lq H4 s4 hlq hL4=>?_)⟩
 ·obtain⟨o,ho,rfl⟩:=List.mem_map.mp hy
  obtain⟨dg,hG⟩:=id (hg.same sm)
  refine⟨_,rfl,gm,dg,_,rfl,hG,gam_none _ _ _ (by decide +kernel) (by decide +kernel),_,rfl,_,rfl,_,rfl,gm,x,t,fx,c,o,ledOf ys,(show [V.ref gm,V.int (c:Nat),V.int (o:Nat),V.int (((ys.getD 0 0:Nat):Int) / 8)]=_ by rw[e0]),ok,hg.same sm,ht.same sm,hc,(B.ys8 o ho).2,fun H5 s5=>?_⟩
  have r:=hR H5 s5
  have e:ovV fx t c (ledOf ys) (.int (o:Nat))=overB fx t c o (ledOf ys):=by
   show overB fx t c (((o:Nat):Int).toNat) (ledOf ys)=_
   rw[Int.toNat_natCast]
  rw[e] at r
  exact r
 ·rw[ovV_list] at hL4
  refine⟨lq,_,rfl,SqL.of hL4,?_⟩
  have z:=q H4 s4
  rw[List.all_map]
  exact z
def spAl(K:PySem.W.Frag)(CT CG:Addr)(i:_root_.Fin 4):Sp:=fun vs H Q _=>∃(a gm x p:Addr) (t:Option Nat) (fx:Fx) (ys cs:List Nat),vs=[.ref a,.ref gm,.int (hN cs:Nat),.ref p]∧fx.Ok∧IsGam CG x (tvV t) H gm∧IsTab CT fx H x∧TrB t∧SqT K H p (vN ys)∧Beg fx ys cs∧∀ H',Same H H'→Q (.int (hN (alw i fx t ys cs):Nat)) H'
abbrev pAl:List Str:=["self","game","hand","trick"]
theorem scFreeAl:FnScope pAl pAl (defScope sFreeAl):=⟨rfl,rfl,rfl,by decide +kernel,rfl,by decide +kernel,by decide +kernel⟩
theorem ok_freeAl{k:Nat}{CT CG:Addr}(F:Fun K "allowed" "Free.allowed" sFreeAl f fd):FnOk P w K mg base CX0 (k+1) f fd pAl (spAl K CT CG 0):=by
 refine F.ok scFreeAl (fun vs H Q E h=>?_) (fun cdv A outer s H vs Q E hr h=>?_)
 ·obtain⟨a,gm,x,p,t,fx,ys,cs,rfl,_⟩:=h
  rfl
 obtain⟨a,gm,x,p,t,fx,ys,cs,rfl,ok,hg,ht,hb,hT,B,q⟩:=h
 exact⟨_,pss_one (ps_ret (pv 2)),_,rfl,q H (Same.refl H)⟩
abbrev nFollowAl:List Str:=["self","game","hand","trick","followers"]
theorem scFollowAl:FnScope nFollowAl pAl (defScope sFollowAl):=⟨rfl,rfl,rfl,by decide +kernel,rfl,by decide +kernel,by decide +kernel⟩
theorem ok_followAl{k:Nat}{CT CG f1:Addr}{d1:FuncData}(F:Fun K "allowed" "Follow.allowed" sFollowAl f fd)(LL:Lib P w K mg base k "of_led_suit" ["hand","trick"] (spLed K) f1 d1):FnOk P w K mg base CX0 (k+1) f fd pAl (spAl K CT CG 1):=by
 refine F.ok scFollowAl (fun vs H Q E h=>?_) (fun cdv A outer s H vs Q E hr h=>?_)
 ·obtain⟨a,gm,x,p,t,fx,ys,cs,rfl,_⟩:=h
  rfl
 obtain⟨a,gm,x,p,t,fx,ys,cs,rfl,ok,hg,ht,hb,hT,B,q⟩:=h
 refine⟨_,pss_cons (ps_set (i:=4) scFollowAl.nd rfl (Or.inl rfl) (pe_call LL.ok hr rfl LL.mg LL.kp LL.bd .nil pass0 (pa_cons (pv 2) (pa_cons (pv 3) pa_nil))))
  (pss_one (ps_ret (pe_ifExp (pt_cmpR op_gt (pv 4) pe_int (nomark _)) (pv 4) (pv 2)))),?_⟩
 refine⟨_,rfl,_,rfl,p,fx,ys,cs,rfl,hT,B,?_⟩
 refine⟨_,rfl,_,_,rfl,rfl,_,rfl,?_⟩
 refine chg (gtz _) ?_
 have q':=q H (Same.refl H)
 have e:hN (alw 1 fx t ys cs)=if 0 < hN (folL (ledOf ys) cs) then hN (folL (ledOf ys) cs) else hN cs:=hN_orL
 rw[e] at q'
 by_cases c1:0 < hN (folL (ledOf ys) cs)
 ·rw[decide_eq_true c1]
  rw[if_pos c1] at q'
  exact iteT ⟨_,rfl,q'⟩
 ·rw[decide_eq_false c1]
  rw[if_neg c1] at q'
  exact iteF ⟨_,rfl,q'⟩
theorem scCutAl:FnScope pAl pAl (defScope sCutAl):=⟨rfl,rfl,rfl,by decide +kernel,rfl,by decide +kernel,by decide +kernel⟩
theorem ok_cutAl{k:Nat}{CT CG f1:Addr}{d1:FuncData}(F:Fun K "allowed" "Cut.allowed" sCutAl f fd)(LF:Lib P w K mg base k "followed_or_cut" ["game","hand","trick"] (spFoc K CG) f1 d1):FnOk P w K mg base CX0 (k+1) f fd pAl (spAl K CT CG 2):=by
 refine F.ok scCutAl (fun vs H Q E h=>?_) (fun cdv A outer s H vs Q E hr h=>?_)
 ·obtain⟨a,gm,x,p,t,fx,ys,cs,rfl,_⟩:=h
  rfl
 obtain⟨a,gm,x,p,t,fx,ys,cs,rfl,ok,hg,ht,hb,hT,B,q⟩:=h
 exact⟨_,pss_one (ps_ret (pe_call LF.ok hr rfl LF.mg LF.kp LF.bd .nil pass0 (pa_cons (pv 1) (pa_cons (pv 2) (pa_cons (pv 3) pa_nil))))),_,rfl,_,rfl,_,rfl,gm,x,p,t,fx,ys,cs,rfl,hg,hb,hT,B,q H (Same.refl H)⟩
abbrev nBeatAl:List Str:=["self","game","hand","trick","choice","beaters"]
abbrev nBeatB:List Str:=["card","game","trick"]
theorem scBeatAl:FnScope nBeatAl pAl (defScope sBeatAl):=⟨rfl,rfl,rfl,by decide +kernel,rfl,by decide +kernel,by decide +kernel⟩
def topV(fx:Fx)(t:Option Nat)(ys:List Nat)(x:V):Bool:=match x with | .int i=>ys.all fun o=>overB fx t i.toNat o (ledOf ys) | _=>false
theorem topV_list(fx:Fx)(t:Option Nat)(ys ds:List Nat):(((vN ds).filter (topV fx t ys)).map fun x=>x)=vN (ds.filter fun c=>ys.all fun o=>overB fx t c o (ledOf ys)):=by
 rw[List.map_id']
 unfold vN
 rw[List.filter_map]
 refine congrArg _ (List.filter_congr fun c _=>?_)
 show(ys.all fun o=>overB fx t (((c:Nat):Int).toNat) o (ledOf ys))=_
 rw[Int.toNat_natCast]
theorem ok_beatAl{k:Nat}{CT CG f1 f2 f3 f4:Addr}{d1 d2 d3 d4:FuncData}(F:Fun K "allowed" "Beat.allowed" sBeatAl f fd)(LF:Lib P w K mg base k "followed_or_cut" ["game","hand","trick"] (spFoc K CG) f1 d1)
  (LH:Lib P w K mg base k "hand_of" ["cards"] (spHandOf K) f2 d2) (LI:Lib P w K mg base k "cards_in" ["hand"] (spCardsIn K) f3 d3) (LG:Lib P w K mg base k "goes_over_all" ["game","card","trick"] (spGoes K CT CG) f4 d4):FnOk P w K mg base CX0 (k+1) f fd pAl (spAl K CT CG 3):=by
 refine F.ok scBeatAl (fun vs H Q E h=>?_) (fun cdv A outer s H vs Q E hr h=>?_)
 ·obtain⟨a,gm,x,p,t,fx,ys,cs,rfl,_⟩:=h
  rfl
 obtain⟨a,gm,x,p,t,fx,ys,cs,rfl,ok,hg,ht,hb,hT,B,q⟩:=h
 refine⟨_,pss_cons (ps_set (i:=4) scBeatAl.nd rfl (Or.inl rfl) (pe_call LF.ok hr rfl LF.mg LF.kp LF.bd .nil pass0 (pa_cons (pv 1) (pa_cons (pv 2) (pa_cons (pv 3) pa_nil)))))
  (pss_cons (ps_set (i:=5) scBeatAl.nd rfl (Or.inl rfl) (pe_call LH.ok hr rfl LH.mg LH.kp LH.bd .nil pass0 (pa_cons (pe_comp nBeatB [none,some 1,some 3] rfl (Blk.by (sc:=defScope sBeatAl) (N0:=nBeatAl) rfl rfl (by decide +kernel)) (pi_list (pe_call LI.ok hr rfl LI.mg LI.kp LI.bd .nil pass0 (pa_cons (pv 4) pa_nil))) (fun C s₀ H₀ ex=>pg_name (i:=0) (show nBeatB.Nodup by decide +kernel) rfl (Or.inl rfl))
   (fun C s₀ H₀ ex=>pf_one (pt_truthB (pe_call LG.ok hr rfl LG.mg LG.kp LG.bd .nil pass0 (pa_cons (pv 1) (pa_cons (pv 0) (pa_cons (pv 2) pa_nil)))) (fun _=>rfl))) (fun C s₀ H₀ ex=>pv 0)) pa_nil)))
  (pss_one (ps_ret (pe_ifExp (pt_cmpR op_gt (pv 5) pe_int (nomark _)) (pv 5) (pv 4))))),?_⟩
 have hsub:=cutL_sub t (ledOf ys) cs
 have B2:=B.sub hsub
 refine⟨_,rfl,_,rfl,_,rfl,gm,x,p,t,fx,ys,cs,rfl,hg,hb,hT,B,?_⟩
 refine⟨_,rfl,hN (cutL t (ledOf ys) cs),rfl,hN_lt B2.c32,fun l1 H1 s1 hl1 hL1=>?_⟩
 rw[cardsV_eq] at hL1
 have hmem:=hN_cards B2.c32
 have hlen:(cardsN (hN (cutL t (ledOf ys) cs))).length≤32:=by
  unfold cardsN
  exact Nat.le_trans (List.length_filter_le _ _) (by rw[List.length_range];exact Nat.le_refl _)
 refine⟨l1,rfl,⟨_,SqL.of hL1⟩,comp_list (K:=K) (xs:=vN (cardsN (hN (cutL t (ledOf ys) cs)))) (topV fx t ys) (fun y=>y) (SqL.of hL1) (fits3 _ (by rw[vN_len];omega)) (fun y H3 hy sm R hR=>?_) (fun y H3 hy hp sm R hR=>⟨_,rfl,hR H3 (Same.refl H3)⟩) (fun lq H4 s4 hlq hL4=>?_)⟩
 ·obtain⟨c,hc,rfl⟩:=List.mem_map.mp hy
  have s3:=s1.trans sm
  have c8:=(B2.cs8 c ((hmem c).mp hc)).2
  refine⟨_,rfl,_,rfl,_,rfl,gm,x,p,t,fx,ys,c,rfl,ok,hg.same s3,ht.same s3,s3.seqT hT,B.sub (fun c hc=>nomatch hc),c8,fun H5 s5=>⟨_,rfl,?_⟩⟩
  have r:=hR H5 s5
  have e:topV fx t ys (.int (c:Nat))=ys.all fun o=>overB fx t c o (ledOf ys):=by
   show(ys.all fun o=>overB fx t (((c:Nat):Int).toNat) o (ledOf ys))=_
   rw[Int.toNat_natCast]
  rw[e] at r
  exact r
 ·rw[topV_list] at hL4
  refine⟨lq,_,rfl,SqL.of hL4,fun c hc=>cards_lt (List.mem_filter.mp hc).1,?_⟩
  have eo:orAll ((cardsN (hN (cutL t (ledOf ys) cs))).filter fun c=>ys.all fun o=>overB fx t c o (ledOf ys)) 0=hN (topL fx t ys (cutL t (ledOf ys) cs)):=by
   refine hN_ext fun i=>?_
   unfold topL
   rw[List.mem_filter,List.mem_filter,hmem]
  rw[eo]
  refine⟨_,rfl,_,_,rfl,rfl,_,rfl,?_⟩
  refine chg (gtz _) ?_
  have q':=q H4 (s1.trans s4)
  have e:hN (alw 3 fx t ys cs)=if 0 < hN (topL fx t ys (cutL t (ledOf ys) cs)) then hN (topL fx t ys (cutL t (ledOf ys) cs)) else hN (cutL t (ledOf ys) cs):=hN_orL
  rw[e] at q'
  by_cases c1:0 < hN (topL fx t ys (cutL t (ledOf ys) cs))
  ·rw[decide_eq_true c1]
   rw[if_pos c1] at q'
   exact iteT ⟨_,rfl,q'⟩
  ·rw[decide_eq_false c1]
   rw[if_neg c1] at q'
   exact iteF ⟨_,rfl,q'⟩
end
end My
namespace My
open PySem L2
abbrev sWinner:Stmt:=inClass (top 71) 4
theorem getD_of{ys:List Nat}{i c:Nat}(h:ys[i]? = some c):ys.getD i 0=c:=by rw[List.getD_eq_getElem?_getD,h];rfl
theorem lt_of{ys:List Nat}{i c:Nat}(h:ys[i]? = some c):i < ys.length:=(List.getElem?_eq_some_iff.mp h).1
section
variable{P:Program}{w:World}{K:PySem.W.Frag}{mg:Str→Option Value}{base:Heap}{f g:Addr}{fd gd:FuncData}
def spWinner(K:PySem.W.Frag)(CT CG:Addr):Sp:=fun vs H Q _=>∃(gm x p:Addr) (t:Option Nat) (f:Fx) (ys:List Nat),vs=[.ref gm,.ref p]∧f.Ok∧IsGam CG x (tvV t) H gm∧IsTab CT f H x∧SqT K H p (vN ys)∧Trk f ys∧∀ h H',Same H H'→Win f t (ledOf ys) ys h→Q (.int (h:Nat)) H'
abbrev nWinner:List Str:=["self","trick","led","highest","number","card"]
theorem scWinner:FnScope nWinner ["self","trick"] (defScope sWinner):=⟨rfl,rfl,rfl,by decide +kernel,rfl,by decide +kernel,by decide +kernel⟩
theorem ok_winner{k:Nat}{CT CG m3:Addr}{e3:FuncData}{t1:Tok}(F:Fun K "winner" "Game.winner" sWinner f fd)(CGm:GamC K mg CG)(MV:Meth K CG "is_over" m3)(FV:FnOk P w K mg base CX0 k m3 e3 pOver (spOver CT CG))(BV:Binds K e3 pOver [])(mH:mg "HEIGHTS" = some (.int 8 t1))(me:mg "enumerate" = none) :
  FnOk P w K mg base CX0 (k+1) f fd ["self","trick"] (spWinner K CT CG):=by
 refine F.ok scWinner (fun vs H Q E h=>?_) (fun cdv A outer s H vs Q E hr h=>?_)
 ·obtain⟨gm,x,p,t,fx,ys,rfl,_⟩:=h
  rfl
 obtain⟨gm,x,p,t,fx,ys,rfl,ok,hg,ht,hT,T,q⟩:=h
 refine⟨_,pss_cons (ps_set (i:=2) scWinner.nd rfl (Or.inl rfl) (pe_op op_fdiv (pe_ix ix_tup (pv 1) pe_int (fun _ _=>rfl)) (pe_glob (v:=.int 8) rfl mH ⟨_,rfl⟩)))
  (pss_cons (ps_set (i:=3) scWinner.nd rfl (Or.inl rfl) pe_int)
  (pss_cons (ps_for PassesOwn.never rfl (pi_enumT rfl me (pa_cons (pv 1) pa_nil)) (pg_tup rfl (pgs_cons (pg_name (i:=4) scWinner.nd rfl (Or.inl rfl)) (pgs_cons (pg_name (i:=5) scWinner.nd rfl (Or.inl rfl)) pgs_nil)))
   (pss_one (ps_if (pt_truth (pe_meth (pv 0) CGm.cl MV FV hr BV .nil pass0 (pa_cons (pv 5) (pa_cons (pe_ix ix_tup (pv 1) (pv 3) (fun _ _=>rfl)) (pa_cons (pv 2) pa_nil)))) (fun _=>rfl)) (pss_one (ps_set (i:=3) scWinner.nd rfl (Or.inl rfl) (pv 4))) pss_nil)))
  (pss_one (ps_ret (pv 3))))),?_⟩
 have e0:(((ys.getD 0 0:Nat):Int) / 8)=((ledOf ys:Nat):Int):=by unfold ledOf;omega
 refine⟨_,rfl,p,_,_,_,rfl,rfl,hT,at_vN (i:=0) T.ne,_,_,rfl,rfl,⟨by decide,by decide⟩,?_⟩
 refine⟨_,rfl,p,_,rfl,hT,?_⟩
 refine for_enumT (K:=K) (a:=p) (xs:=vN ys) (fun i σ H'=>Same H H'∧∃(h:Nat) (x4 x5:Option V),σ=[some (.ref gm),some (.ref p),some (.int ((ledOf ys:Nat):Int)),some (.int (h:Nat)),x4,x5]∧h < ys.length∧∀ j < i,rk fx t (ledOf ys) (ys.getD j 0)≤rk fx t (ledOf ys) (ys.getD h 0))
  ⟨Same.refl H,0,none,none,?_,T.ne,fun j hj=>absurd hj (Nat.not_lt_zero _)⟩ (fun i σ H1 z=>z.1.seqT hT) (fun i v r σ H1 hv z hr1=>?_) (fun σ H1 z=>?_)
 ·show [_,_,some (V.int (((ys.getD 0 0:Nat):Int) / 8)),_,_,_]=_
  rw[e0]
  rfl
 ·obtain⟨s1,h,x4,x5,rfl,hh,hm⟩:=z
  obtain⟨c,hc,rfl⟩:=vN_get hv
  have s2:=s1.trans (same_upd hr1 (.tup [.int (i:Nat),.int (c:Nat)]))
  refine⟨r,_,rfl,SqT.of upd_same,rfl,_,_,rfl,_,_,rfl,rfl,?_⟩
  obtain⟨dg,hG⟩:=id (hg.same s2)
  have cm:c∈ys:=List.mem_of_getElem? hc
  have hmem:ys.getD h 0∈ys:=by
   rw[List.getD_eq_getElem?_getD,List.getElem?_eq_getElem hh]
   exact List.getElem_mem _
  refine⟨_,rfl,gm,dg,_,rfl,hG,gam_none _ _ _ (by decide +kernel) (by decide +kernel),_,rfl,_,rfl,_,rfl,p,_,_,_,rfl,rfl,s2.seqT hT,at_vN hh,_,rfl,gm,x,t,fx,c,ys.getD h 0,ledOf ys,rfl,ok,hg.same s2,ht.same s2,T.ht c cm,T.ht _ hmem,fun H3 s3=>⟨_,rfl,?_⟩⟩
  rw[over_rk ok]
  have gc:=getD_of hc
  refine ite2 (fun y=>?_) fun y=>?_
  ·have y:=of_decide_eq_true y
   refine⟨_,rfl,s2.trans s3,i,_,_,rfl,lt_of hc,fun j hj=>?_⟩
   rw[gc]
   rcases Nat.lt_or_eq_of_le (Nat.le_of_lt_succ hj) with z | z
   ·exact Nat.le_trans (hm j z) (Nat.le_of_lt y)
   ·rw[z,gc]
    exact Nat.le_refl _
  ·have y:¬ rk fx t (ledOf ys) (ys.getD h 0) < rk fx t (ledOf ys) c:=fun z=>y (decide_eq_true z)
   refine⟨s2.trans s3,h,_,_,rfl,hh,fun j hj=>?_⟩
   rcases Nat.lt_or_eq_of_le (Nat.le_of_lt_succ hj) with z | z
   ·exact hm j z
   ·rw[z,gc]
    exact Nat.le_of_not_lt y
 ·obtain⟨s1,h,x4,x5,rfl,hh,hm⟩:=z
  rw[vN_len] at hm
  exact⟨_,rfl,q h H1 s1 (win_of ok T hh hm)⟩
def spMay(K:PySem.W.Frag)(CT CG:Addr):Sp:=fun vs H Q _=>∃(gm x p:Addr) (t:Option Nat) (fx:Fx) (ys cs:List Nat),vs=[.ref gm,.int (hN cs:Nat),.ref p]∧fx.Ok∧IsGam CG x (tvV t) H gm∧IsTab CT fx H x∧TrB t∧SqT K H p (vN ys)∧(ys=[]∨Beg fx ys cs)∧∀ H',Same H H'→Q (.int (hN (if ys=[] then cs else alw fx.d fx t ys cs):Nat)) H'
theorem scMay:FnScope ["self","hand","trick"] ["self","hand","trick"] (defScope sMay):=⟨rfl,rfl,rfl,by decide +kernel,rfl,by decide +kernel,by decide +kernel⟩
abbrev AlF(P:Program)(w:World)(K:PySem.W.Frag)(mg:Str→Option Value)(base:Heap)(CT CG:Addr)(k:Nat)(c4 f4:_root_.Fin 4→Addr)(d4:_root_.Fin 4→FuncData):Prop:=MethF P w K mg base CX0 k (_root_.Fin 4) "allowed" pAl (spAl K CT CG) c4 f4 d4
theorem len0(ys:List Nat):decide (V.int (((vN ys).length:Nat):Int)=V.int 0)=decide (ys=[]):=by
 rw[vN_len]
 refine decide_eq_decide.mpr ⟨fun h=>?_,fun h=>by rw[h];rfl⟩
 injection h with h
 exact List.eq_nil_of_length_eq_zero (by omega)
theorem ok_may{k:Nat}{CT CG CN f1 m2:Addr}{d1 e2:FuncData}{c4 f4:_root_.Fin 4→Addr}{d4:_root_.Fin 4→FuncData}(F:Fun K "may" "Game.may" sMay f fd)(C:TabC K mg CT)(CGm:GamC K mg CG)(LD:LibX P w K mg base k "duty_of" ["word"] (spDuty c4 CN) f1 d1)
  (MD:Meth K CT "duty" m2) (FD:FnOk P w K mg base CX0 k m2 e2 ["self"] (spTDuty CT)) (BD:Binds K e2 ["self"] []) (MA:AlF P w K mg base CT CG k c4 f4 d4) (ml:mg "len" = none) :
  FnOk P w K mg base CX0 (k+1) f fd ["self","hand","trick"] (spMay K CT CG):=by
 refine F.ok scMay (fun vs H Q E h=>?_) (fun cdv A outer s H vs Q E hr h=>?_)
 ·obtain⟨gm,x,p,t,fx,ys,cs,rfl,_⟩:=h
  rfl
 obtain⟨gm,x,p,t,fx,ys,cs,rfl,ok,hg,ht,hb,hT,B,q⟩:=h
 refine⟨_,pss_cons (ps_if (pt_cmpR op_eq (pe_callB call_len_seq rfl ml PySem.boot_len (pa_cons (pv 2) pa_nil)) pe_int (nomark _)) (pss_one (ps_ret (pv 1))) pss_nil)
  (pss_one (ps_ret (pe_methF (pe_call LD.ok hr rfl LD.mg LD.kp LD.bd .nil pass1 (pa_cons (pe_meth0 (pe_fld (pv 0) rfl) C.cl MD FD hr BD .nil pass0) pa_nil)) MA hr pass0 (pa_cons (pv 0) (pa_cons (pv 1) (pa_cons (pv 2) pa_nil)))))),?_⟩
 refine⟨_,rfl,p,_,rfl,.inr hT,rfl,_,rfl,?_⟩
 refine chg (len0 ys) ?_
 by_cases c0:ys=[]
 ·rw[decide_eq_true c0]
  have q':=q H (Same.refl H)
  rw[if_pos c0] at q'
  exact iteT ⟨_,rfl,q'⟩
 ·rw[decide_eq_false c0]
  have B':=B.resolve_left c0
  obtain⟨dg,hG⟩:=id hg
  obtain⟨dx,po,to,hX,_,_⟩:=id ht
  refine iteF ⟨_,rfl,gm,CG,dg,_,_,rfl,hG,CGm.cl,CGm.nT,gam_table _ _,x,dx,_,rfl,hX,look7_duty _ _ _,x,fx,rfl,ht,wd fx.d,rfl,fun i e y dy H6 s6 hy h6=>?_,fun z=>absurd (mem_wd _) z⟩
  have ei:=wd_inj _ _ e
  refine⟨i,y,dy,[],rfl,h6,rfl,_,rfl,_,rfl,_,rfl,y,gm,x,p,t,fx,ys,cs,rfl,ok,hg.same s6,ht.same s6,hb,s6.seqT hT,B',fun H7 s7=>?_⟩
  have q':=q H7 (s6.trans s7)
  rw[if_neg c0,ei] at q'
  exact q'
end
end My
namespace My
open PySem L2
theorem count_one{p q:Nat→Bool}{c:Nat}:∀{l:List Nat},l.Nodup→c∈l→(∀ b,b≠c→p b=q b)→p c=false→q c=true→(l.filter p).length+1=(l.filter q).length
 | [],_,h,_,_,_=>nomatch h
 | a :: l,nd,h,e,pc,qc=>by
  obtain⟨na,nd'⟩:=List.nodup_cons.mp nd
  by_cases z:a=c
  ·subst z
   rw[List.filter_cons_of_neg (by rw[pc];exact Bool.false_ne_true),List.filter_cons_of_pos qc,List.length_cons]
   congr 2
   exact List.filter_congr fun b hb=>e b fun z=>na (z ▸ hb)
  ·have m:c∈l:=(List.mem_cons.mp h).resolve_left (Ne.symm z)
   have ih:=count_one nd' m e pc qc
   have ea:=e a z
   cases r:q a with
   | true=>rw[r] at ea;rw[List.filter_cons_of_pos ea,List.filter_cons_of_pos r,List.length_cons,List.length_cons,ih]
   | false=>rw[r] at ea;rw[List.filter_cons_of_neg (by rw[ea];exact Bool.false_ne_true),List.filter_cons_of_neg (by rw[r];exact Bool.false_ne_true),ih]
theorem two_bit(c b:Nat):(2 ^ c).testBit b=decide (c=b):=by
 rw[Nat.testBit_two_pow]
theorem xor_bit(h c b:Nat)(hc:h.testBit c=true):(h ^^^ 2 ^ c).testBit b=(!decide (c=b) && h.testBit b):=by
 rw[Nat.testBit_xor,two_bit]
 by_cases e:c=b
 ·subst e
  rw[hc,decide_eq_true rfl]
  rfl
 ·rw[decide_eq_false e]
  cases h.testBit b<;>rfl
theorem pc_xor{h c:Nat}(hc:h.testBit c=true)(c32:c < 32):pcK 32 (h ^^^ 2 ^ c)+1=pcK 32 h:=by
 unfold pcK
 refine count_one (c:=c) List.nodup_range (List.mem_range.mpr c32) (fun b n=>?_) ?_ hc
 ·rw[xor_bit _ _ _ hc,decide_eq_false (Ne.symm n)]
  rfl
 ·rw[xor_bit _ _ _ hc,decide_eq_true rfl]
  rfl
theorem pc_or{h c:Nat}(hc:h.testBit c=false)(c32:c < 32):pcK 32 h+1=pcK 32 (h ||| 2 ^ c):=by
 unfold pcK
 refine count_one (c:=c) List.nodup_range (List.mem_range.mpr c32) (fun b n=>?_) hc ?_
 ·rw[Nat.testBit_or,two_bit,decide_eq_false (Ne.symm n),Bool.or_false]
 ·rw[Nat.testBit_or,two_bit,decide_eq_true rfl,Bool.or_true]
theorem xor_add{h c:Nat}(hc:h.testBit c=true):(h ^^^ 2 ^ c)+2 ^ c=h:=by
 have a:=PyProof.Rows.nat_or_add_and (h ^^^ 2 ^ c) (2 ^ c)
 have e1:(h ^^^ 2 ^ c) ||| 2 ^ c=h:=Nat.eq_of_testBit_eq fun b=>by
  rw[Nat.testBit_or,xor_bit _ _ _ hc,two_bit]
  by_cases e:c=b
  ·subst e
   rw[hc,decide_eq_true rfl]
   rfl
  ·rw[decide_eq_false e]
   cases h.testBit b<;>rfl
 have e2:(h ^^^ 2 ^ c) &&& 2 ^ c=0:=Nat.eq_of_testBit_eq fun b=>by
  rw[Nat.testBit_and,xor_bit _ _ _ hc,two_bit,Nat.zero_testBit]
  by_cases e:c=b
  ·rw[decide_eq_true e]
   rfl
  ·rw[decide_eq_false e,Bool.and_false]
 rw[e1,e2] at a
 omega
theorem lt32{h:Nat}(hb:∀ b,h.testBit b=true→b < 32):h < 4294967296:=by
 refine Nat.lt_pow_two_of_testBit (n:=32) h fun i hi=>?_
 cases e:h.testBit i with
 | false=>rfl
 | true=>exact absurd (hb i e) (by omega)
theorem set_count{α:Type}{p:α→Bool}{x:α}:∀{l:List α} {i:Nat} {a:α},l[i]? = some a→(l.set i x).countP p+(if p a then 1 else 0)=l.countP p+(if p x then 1 else 0)
 | [],_,_,h=>by simp at h
 | b :: l,0,a,h=>by
  have e:b=a:=Option.some.inj h
  subst e
  rw[List.set_cons_zero,List.countP_cons,List.countP_cons]
  omega
 | b :: l,i+1,a,h=>by
  have ih:=set_count (p:=p) (x:=x) (l:=l) (i:=i) (a:=a) h
  rw[List.set_cons_succ,List.countP_cons,List.countP_cons]
  omega
theorem set_sum{α:Type}{g:α→Nat}{x:α}:∀{l:List α} {i:Nat} {a:α},l[i]? = some a→((l.set i x).map g).sum+g a=(l.map g).sum+g x
 | [],_,_,h=>by simp at h
 | b :: l,0,a,h=>by
  have e:b=a:=Option.some.inj h
  subst e
  rw[List.set_cons_zero,List.map_cons,List.map_cons,List.sum_cons,List.sum_cons]
  omega
 | b :: l,i+1,a,h=>by
  have ih:=set_sum (g:=g) (x:=x) (l:=l) (i:=i) (a:=a) h
  rw[List.set_cons_succ,List.map_cons,List.map_cons,List.sum_cons,List.sum_cons]
  omega
def off(n lead i:Nat):Nat:=(i+n - lead) % n
theorem off_seat{n lead k:Nat}(hn:n=3∨n=4)(hl:lead < n)(hk:k < n):off n lead ((lead+k) % n)=k:=by
 have all:∀ n∈[3,4],∀ lead < n,∀ k < n,off n lead ((lead+k) % n)=k:=by decide
 exact all n (by rcases hn with rfl | rfl<;>simp) lead hl k hk
theorem off_back{n lead i:Nat}(hn:n=3∨n=4)(hl:lead < n)(hi:i < n):(lead+off n lead i) % n=i∧off n lead i < n:=by
 have all:∀ n∈[3,4],∀ lead < n,∀ i < n,(lead+off n lead i) % n=i∧off n lead i < n:=by decide
 exact all n (by rcases hn with rfl | rfl<;>simp) lead hl i hi
abbrev cntB(hs ys:List Nat)(b:Nat):Nat:=hs.countP (fun h=>h.testBit b)+ys.count b
structure Plc(f:Fx)(hs:List Nat)(lead:Nat)(ys:List Nat)(m:Nat):Prop where
 len:hs.length=f.n
 ld:lead < f.n
 yl:ys.length < f.n
 one:∀ b,cntB hs ys b≤1
 pk:∀ b,0 < cntB hs ys b→b / 8 < f.s∧b % 8 < f.h
 lv:∀ i h,hs[i]? = some h→pcK 32 h+(if off f.n lead i < ys.length then 1 else 0)=m
section
variable{f:Fx}{hs ys:List Nat}{lead m:Nat}
theorem Plc.b32(ok:f.Ok)(P:Plc f hs lead ys m){b:Nat}(h:0 < cntB hs ys b):b < 32:=by
 have:=P.pk b h
 have:=ok.s4
 have:=ok.h8
 omega
theorem cnt_hand{h b:Nat}(hh:h∈hs)(hb:h.testBit b=true):0 < cntB hs ys b:=Nat.lt_of_lt_of_le (List.countP_pos_iff.mpr ⟨h,hh,hb⟩) (Nat.le_add_right _ _)
theorem cnt_card{c:Nat}(hc:c∈ys):0 < cntB hs ys c:=Nat.lt_of_lt_of_le (List.count_pos_iff.mpr hc) (Nat.le_add_left _ _)
theorem Plc.h32(ok:f.Ok)(P:Plc f hs lead ys m){h:Nat}(hh:h∈hs):h < 4294967296:=lt32 fun b hb=>P.b32 ok (cnt_hand hh hb)
theorem Plc.y32(ok:f.Ok)(P:Plc f hs lead ys m){c:Nat}(hc:c∈ys):c < 32:=P.b32 ok (cnt_card hc)
theorem Plc.nd(P:Plc f hs lead ys m):ys.Nodup:=List.nodup_iff_count.mpr fun b=>by have:=P.one b;unfold cntB at this;omega
theorem Plc.apart(P:Plc f hs lead ys m){h c:Nat}(hh:h∈hs)(hc:c∈ys):h.testBit c=false:=by
 cases e:h.testBit c with
 | false=>rfl
 | true=>
  have h1:0 < hs.countP (fun h=>h.testBit c):=List.countP_pos_iff.mpr ⟨h,hh,e⟩
  have h2:=List.count_pos_iff.mpr hc
  have:=P.one c
  unfold cntB at this
  omega
theorem seat_lt(ok:f.Ok)(lead k:Nat):(lead+k) % f.n < f.n:=Nat.mod_lt _ (by rcases ok.n34 with e | e<;>omega)
theorem Plc.turn(ok:f.Ok)(P:Plc f hs lead ys m):∃ h,hs[(lead+ys.length) % f.n]? = some h∧pcK 32 h=m:=by
 have sl:=seat_lt ok lead ys.length
 have hl:(lead+ys.length) % f.n < hs.length:=by rw[P.len];exact sl
 refine⟨_,List.getElem?_eq_getElem hl,?_⟩
 have:=P.lv _ _ (List.getElem?_eq_getElem hl)
 rw[off_seat ok.n34 P.ld P.yl,if_neg (Nat.lt_irrefl _)] at this
 exact this
theorem Plc.le(P:Plc f hs lead ys m){h:Nat}(hh:h∈hs):pcK 32 h≤m:=by
 obtain⟨i,hi,e⟩:=List.mem_iff_getElem.mp hh
 have:=P.lv i h (by rw[List.getElem?_eq_getElem hi,e])
 omega
theorem Plc.max(ok:f.Ok)(P:Plc f hs lead ys m):m∈hs.map (pcK 32)∧∀ x∈hs.map (pcK 32),x≤m:=by
 obtain⟨h,e1,e2⟩:=P.turn ok
 refine⟨List.mem_map.mpr ⟨h,List.mem_of_getElem? e1,e2⟩,fun x hx=>?_⟩
 obtain⟨h',hm,rfl⟩:=List.mem_map.mp hx
 exact P.le hm
theorem Plc.step(ok:f.Ok)(P:Plc f hs lead ys m){h c:Nat}(hh:hs[(lead+ys.length) % f.n]? = some h)(hc:h.testBit c=true) :
  (∀ b,cntB (hs.set ((lead+ys.length) % f.n) (h ^^^ 2 ^ c)) (ys++[c]) b=cntB hs ys b)∧(hs.set ((lead+ys.length) % f.n) (h ^^^ 2 ^ c)).sum+2 ^ c=hs.sum ∧
  ((hs.set ((lead+ys.length) % f.n) (h ^^^ 2 ^ c)).map (pcK 32)).sum+1=(hs.map (pcK 32)).sum∧0 < m ∧
  (ys.length+1 < f.n→Plc f (hs.set ((lead+ys.length) % f.n) (h ^^^ 2 ^ c)) lead (ys++[c]) m) ∧
  (ys.length+1=f.n→∀ t,t < f.n→Plc f (hs.set ((lead+ys.length) % f.n) (h ^^^ 2 ^ c)) t [] (m - 1)):=by
 have hm:h∈hs:=List.mem_of_getElem? hh
 have c32:=P.b32 ok (cnt_hand (ys:=ys) hm hc)
 have A:∀ b,cntB (hs.set ((lead+ys.length) % f.n) (h ^^^ 2 ^ c)) (ys++[c]) b=cntB hs ys b:=fun b=>by
  have z:=set_count (p:=fun h=>h.testBit b) (x:=h ^^^ 2 ^ c) hh
  unfold cntB
  rw[List.count_append,List.count_singleton]
  have e:=xor_bit h c b hc
  by_cases q:c=b
  ·subst q
   rw[decide_eq_true rfl] at e
   have e':(h ^^^ 2 ^ c).testBit c=false:=e
   rw[hc,e'] at z
   simp only[if_true,Bool.false_eq_true,if_false,beq_self_eq_true] at z ⊢
   omega
  ·rw[decide_eq_false q] at e
   have e':(h ^^^ 2 ^ c).testBit b=h.testBit b:=e
   rw[e'] at z
   rw[if_neg (by simpa using q)]
   omega
 have pc:=pc_xor hc c32
 have S1:=set_sum (g:=id) (x:=h ^^^ 2 ^ c) hh
 have S2:=set_sum (g:=pcK 32) (x:=h ^^^ 2 ^ c) hh
 rw[List.map_id,List.map_id] at S1
 have xa:=xor_add hc
 have S1':(hs.set ((lead+ys.length) % f.n) (h ^^^ 2 ^ c)).sum+h=hs.sum+(h ^^^ 2 ^ c):=S1
 have tl:=P.lv _ _ hh
 rw[off_seat ok.n34 P.ld P.yl,if_neg (Nat.lt_irrefl _)] at tl
 refine⟨A,by omega,by omega,by omega,fun hl=>⟨by rw[List.length_set];exact P.len,P.ld,by rw[List.length_append];exact hl,fun b=>by rw[A];exact P.one b,fun b=>by rw[A];exact P.pk b,fun i g e=>?_⟩,
  fun hl t ht=>⟨by rw[List.length_set];exact P.len,ht,by show 0 < f.n;omega,fun b=>?_,fun b hb=>?_,fun i g e=>?_⟩⟩
 ·rw[List.length_append,List.length_singleton]
  by_cases q:i=(lead+ys.length) % f.n
  ·subst q
   have hi:(lead+ys.length) % f.n < hs.length:=by rw[P.len];exact seat_lt ok _ _
   rw[List.getElem?_set_self hi] at e
   cases e
   rw[off_seat ok.n34 P.ld P.yl,if_pos (Nat.lt_succ_self _)]
   omega
  ·rw[List.getElem?_set_ne (Ne.symm q)] at e
   have:=P.lv i g e
   have hi:i < f.n:=by rw[← P.len];exact(List.getElem?_eq_some_iff.mp e).1
   obtain⟨o1,o2⟩:=off_back ok.n34 P.ld hi
   have ne:off f.n lead i≠ys.length:=fun z=>q (by rw[← o1,z])
   by_cases w:off f.n lead i < ys.length
   ·rw[if_pos w] at this
    rw[if_pos (by omega)]
    exact this
   ·rw[if_neg w] at this
    rw[if_neg (by omega)]
    exact this
 ·have:=A b
  have:=P.one b
  unfold cntB at *
  rw[List.count_append] at *
  simp only[List.count_nil] at *
  omega
 ·refine P.pk b ?_
  have:=A b
  unfold cntB at *
  rw[List.count_append] at *
  simp only[List.count_nil] at *
  omega
 ·have hi:i < f.n:=by
   have:=(List.getElem?_eq_some_iff.mp e).1
   rw[List.length_set,P.len] at this
   exact this
  show pcK 32 g+(if off f.n t i < 0 then 1 else 0)=m - 1
  rw[if_neg (Nat.not_lt_zero _)]
  by_cases q:i=(lead+ys.length) % f.n
  ·subst q
   have hi:(lead+ys.length) % f.n < hs.length:=by rw[P.len];exact seat_lt ok _ _
   rw[List.getElem?_set_self hi] at e
   cases e
   omega
  ·rw[List.getElem?_set_ne (Ne.symm q)] at e
   have:=P.lv i g e
   obtain⟨o1,o2⟩:=off_back ok.n34 P.ld hi
   have ne:off f.n lead i≠ys.length:=fun z=>q (by rw[← o1,z])
   rw[if_pos (by omega)] at this
   omega
end
def apartB:List Nat→Nat→Bool
 | [],_=>true
 | h :: r,s=>if s &&& h=0 then apartB r (s ||| h) else false
def levelB(hs:List Nat):Bool:=hs.all fun h=>decide (pcK 32 h=pcK 32 (hs.getD 0 0))
theorem apart_of:∀{hs:List Nat} {s:Nat},(∀ b,hs.countP (fun h=>h.testBit b)+(if s.testBit b then 1 else 0)≤1)→apartB hs s=true
 | [],_,_=>rfl
 | h :: r,s,hb=>by
  have z:s &&& h=0:=Nat.eq_of_testBit_eq fun b=>by
   have:=hb b
   rw[List.countP_cons] at this
   rw[Nat.testBit_and,Nat.zero_testBit]
   cases e1:s.testBit b with
   | false=>rfl
   | true=>
    cases e2:h.testBit b with
    | false=>rfl
    | true=>
     rw[e1,e2] at this
     simp at this
  show(if s &&& h=0 then apartB r (s ||| h) else false)=true
  rw[if_pos z]
  refine apart_of fun b=>?_
  have:=hb b
  rw[List.countP_cons] at this
  rw[Nat.testBit_or]
  cases e1:s.testBit b<;>cases e2:h.testBit b<;>rw[e1,e2] at this<;>simp at this ⊢ <;> omega
theorem count_pow(ys:List Nat)(b:Nat):(ys.map fun c=>2 ^ c).countP (fun h=>h.testBit b)=ys.count b:=by
 rw[List.countP_map,List.count]
 refine List.countP_congr fun c _=>?_
 show(2 ^ c).testBit b=true↔(c == b)=true
 rw[two_bit]
 simp
theorem Plc.parts{f:Fx}{hs ys:List Nat}{lead m:Nat}(P:Plc f hs lead ys m):apartB (hs++ys.map fun c=>2 ^ c) 0=true:=by
 refine apart_of fun b=>?_
 rw[List.countP_append,count_pow,Nat.zero_testBit]
 exact P.one b
theorem level_of{ws:List Nat}{m:Nat}(h:∀ w∈ws,pcK 32 w=m)(h0:0 < ws.length):levelB ws=true:=by
 refine List.all_eq_true.mpr fun w hw=>decide_eq_true ?_
 have m0:ws.getD 0 0∈ws:=by
  rw[List.getD_eq_getElem?_getD,List.getElem?_eq_getElem h0]
  exact List.getElem_mem _
 rw[h w hw,h _ m0]
theorem pack_mem{s h b:Nat}(h8:h≤8):b∈packL s h↔b / 8 < s∧b % 8 < h:=by
 unfold packL
 rw[List.mem_flatMap]
 constructor
 ·rintro⟨u,hu,hb⟩
  obtain⟨v,hv,rfl⟩:=List.mem_map.mp hb
  have:=List.mem_range.mp hu
  have:=List.mem_range.mp hv
  constructor<;>omega
 ·rintro⟨h1,h2⟩
  exact⟨b / 8,List.mem_range.mpr h1,List.mem_map.mpr ⟨b % 8,List.mem_range.mpr h2,by omega⟩⟩
theorem Plc.inpack{f:Fx}{hs ys:List Nat}{lead m:Nat}(ok:f.Ok)(P:Plc f hs lead ys m){p:Nat}(hp:p∈hs++ys.map fun c=>2 ^ c):p ||| hN (packL f.s f.h)=hN (packL f.s f.h):=Nat.eq_of_testBit_eq fun b=>by
 rw[Nat.testBit_or,hN_bit]
 cases e:p.testBit b with
 | false=>rfl
 | true=>
  have h:0 < cntB hs ys b:=by
   rcases List.mem_append.mp hp with z | z
   ·exact cnt_hand z e
   ·obtain⟨c,hc,rfl⟩:=List.mem_map.mp z
    rw[two_bit] at e
    have e':c=b:=of_decide_eq_true e
    subst e'
    exact cnt_card hc
  rw[decide_eq_true ((pack_mem ok.h8).mpr (P.pk b h))]
  rfl
end My
namespace My
open PySem L2
structure WsOk(f:Fx)(hs:List Nat)(lead i:Nat)(ws:List Nat):Prop where
 len:ws.length=f.n
 at_:∀ j w,ws[j]? = some w→∃ h,hs[j]? = some h∧(off f.n lead j < i→pcK 32 w=pcK 32 h+1∧w < 4294967296)∧(¬ off f.n lead j < i→w=h)
section
variable{f:Fx}{hs ys ws:List Nat}{lead m i:Nat}
theorem WsOk.start(P:Plc f hs lead ys m):WsOk f hs lead 0 hs:=⟨P.len,fun j w e=>⟨w,e,fun z=>absurd z (Nat.not_lt_zero _),fun _=>rfl⟩⟩
theorem WsOk.step(ok:f.Ok)(P:Plc f hs lead ys m)(W:WsOk f hs lead i ws){c:Nat}(hc:ys[i]? = some c):∃ w,ws[(lead+i) % f.n]? = some w∧WsOk f hs lead (i+1) (ws.set ((lead+i) % f.n) (w ||| 2 ^ c)):=by
 have il:i < ys.length:=(List.getElem?_eq_some_iff.mp hc).1
 have yl:=P.yl
 have sl:=seat_lt ok lead i
 have hl:(lead+i) % f.n < ws.length:=by rw[W.len];exact sl
 have cm:c∈ys:=List.mem_of_getElem? hc
 have oi:=off_seat ok.n34 P.ld (show i < f.n by omega)
 refine⟨_,List.getElem?_eq_getElem hl,by rw[List.length_set];exact W.len,fun j w e=>?_⟩
 by_cases q:j=(lead+i) % f.n
 ·subst q
  rw[List.getElem?_set_self hl] at e
  cases e
  obtain⟨h,e1,_,e2⟩:=W.at_ _ _ (List.getElem?_eq_getElem hl)
  refine⟨h,e1,fun _=>?_,fun z=>absurd (by rw[oi];exact Nat.lt_succ_self _) z⟩
  have e3:=e2 (by rw[oi];exact Nat.lt_irrefl _)
  have hm:h∈hs:=List.mem_of_getElem? e1
  rw[e3]
  refine⟨(pc_or (P.apart hm cm) (P.y32 ok cm)).symm,lt32 fun b hb=>?_⟩
  rw[Nat.testBit_or,two_bit] at hb
  cases z:h.testBit b with
  | true=>exact P.b32 ok (cnt_hand (ys:=ys) hm z)
  | false=>
   rw[z] at hb
   have e4:c=b:=by simpa using hb
   rw[← e4]
   exact P.y32 ok cm
 ·rw[List.getElem?_set_ne (Ne.symm q)] at e
  obtain⟨h,e1,e2,e3⟩:=W.at_ j w e
  have hj:j < f.n:=by rw[← W.len];exact(List.getElem?_eq_some_iff.mp e).1
  obtain⟨o1,o2⟩:=off_back ok.n34 P.ld hj
  have ne:off f.n lead j≠i:=fun z=>q (by rw[← o1,z])
  exact⟨h,e1,fun z=>e2 (by omega),fun z=>e3 (by omega)⟩
theorem WsOk.end_(ok:f.Ok)(P:Plc f hs lead ys m)(W:WsOk f hs lead ys.length ws):∀ w∈ws,w < 4294967296∧pcK 32 w=m:=fun w hw=>by
 obtain⟨j,hj,e⟩:=List.mem_iff_getElem.mp hw
 obtain⟨h,e1,e2,e3⟩:=W.at_ j w (by rw[List.getElem?_eq_getElem hj,e])
 have:=P.lv j h e1
 by_cases z:off f.n lead j < ys.length
 ·rw[if_pos z] at this
  obtain⟨a,b⟩:=e2 z
  exact⟨b,by omega⟩
 ·rw[if_neg z] at this
  rw[e3 z]
  exact⟨P.h32 ok (List.mem_of_getElem? e1),this⟩
end
end My
namespace L2
open PySem PySem.Spec PyProof.Rows Builtin Builtin.ObjectAttr
section
variable{prog:Program}{w:World}{A:Around}{E:Value→Shared→Prop}{h:Heap}{g:Array GenState}{d:Drawn}{t:Nat}{os:OsState}
variable{nm q:Str}{C N:Addr}{bs bm bmB:List Value}{hdct:Bool}{sn:List Str}{sub:List Value}{ab:Bool}{col:Option Bool}{dd:Option Addr}{k0 k1 k2 k3 k5:Option Value}{B newId initId:String}
end
section
variable{prog:Program}{w:World}{A:Around}{E:Value→Shared→Prop}{s:Shared}{K:PySem.W.Frag}{x C:Addr}{o:Obj}{vs:Array Value}{name:Str}{v:Value}
end
end L2
namespace L2
open PySem PySem.Spec PyProof.Rows
section
variable{M:Model}{A:Around}{E:Value→Shared→Prop}{env:Env}
variable{nm q:Str}{C N:Addr}{bs bm:List Value}{hdct:Bool}{sn:List Str}{sub:List Value}{ab:Bool}{col:Option Bool}{dd:Option Addr}{k0 k1 k2 k3 k5:Option Value}{newId:String}
end
end L2
namespace L2
open PySem PySem.Spec PyProof.Rows
section
variable{X:Cx}{n:Str}{np hpos np2 hpos2 pos:Pos}{i:Nat}
end
section
variable{X:Cx}{k:Nat}{f C:Addr}{fd:FuncData}{ps:List Str}{sp:Sp}{dvs:List V}{ds:List Value}{m name:Str}{p pos apos cpos:Pos}{o e a:Expr}{es:List Expr}{ta to:TE}{t:TA}
end
end L2
namespace L2
open PySem PySem.Spec PyProof.Rows
end L2
namespace L2
open PySem PySem.Spec PyProof.Rows
section
variable{X:Cx}{pins:List (Addr×Obj)}{σ:St}{H:Hp}{s:Shared}
end
end L2
namespace L2
open PySem PySem.Spec PyProof.Rows
end L2
namespace L2
open PySem PySem.Spec PyProof.Rows
section
variable{X:Cx}{k:Nat}{f C:Addr}{fd:FuncData}{ps:List Str}{sp:Sp}{dvs:List V}{ds:List Value}{x:Str}{p pos:Pos}{e:Expr}{es:List Expr}{t:TA}
end
end L2
namespace My
open PySem L2
theorem set_nm{te:TE}{i:Nat}{u:TS}{D:Ends}{σ:St}{H:Hp}(G:V→Hp→Prop)(h:∀ R:V→Hp→Prop,(∀ v H',G v H'→R v H')→te σ H R)(hu:∀ v H',G v H'→u D (σ.set i (some v)) H'):tSeq (tAsg te (gName i)) u D σ H:=h _ hu
theorem seq_cut{s u:TS}{D:Ends}{σ:St}{H:Hp}(Pv:St→Hp→Prop)(h1:∀ D':Ends,D'.rt=D.rt→(∀ σ H,Pv σ H→D'.nx σ H)→s D' σ H)(h2:∀ σ H,Pv σ H→u D σ H):tSeq s u D σ H:=h1 { D with nx:=u D } rfl h2
theorem if_cut{c:TT}{t u r:TS}{D:Ends}{σ:St}{H:Hp}(Cb:Bool→Hp→Prop)(Pv:St→Hp→Prop)(hc:∀ R:Bool→Hp→Prop,(∀ b H',Cb b H'→R b H')→c σ H R)
  (h1:∀ H',Cb true H'→∀ D':Ends,D'.rt=D.rt→(∀ σ H,Pv σ H→D'.nx σ H)→t D' σ H') (h2:∀ H',Cb false H'→∀ D':Ends,D'.rt=D.rt→(∀ σ H,Pv σ H→D'.nx σ H)→u D' σ H') (h3:∀ σ H,Pv σ H→r D σ H):tSeq (tIfS c t u) r D σ H:=
 hc _ fun b H' hb=>match b,hb with | true,hb=>iteT (h1 H' hb { D with nx:=r D } rfl h3) | false,hb=>iteF (h2 H' hb { D with nx:=r D } rfl h3)
theorem nx_of{T:St→Hp→Prop}{rt:VK}{bk ct:St→Hp→Prop}{σ:St}{H:Hp}(h:T σ H):tNext (Ends.mk T rt bk ct) σ H:=h
theorem nm_of{T:St→Hp→Prop}{rt:VK}{bk ct:St→Hp→Prop}{σ:St}{H:Hp}{i:Nat}{v:V}(h:T (σ.set i (some v)) H):gName i v σ H (Ends.mk T rt bk ct).nx:=h
theorem int_dec{a b:Int}:decide (V.int a=V.int b)=decide (a=b):=decide_eq_decide.mpr ⟨fun h=>by injection h,fun h=>by rw[h]⟩
theorem nat_dec{a b:Nat}:decide (V.int (a:Nat)=V.int (b:Nat))=decide (a=b):=int_dec.trans (decide_eq_decide.mpr ⟨fun h=>by omega,fun h=>by omega⟩)
theorem natLit{r n:Nat}{i:Int}(h:i=((n:Nat):Int)):decide (V.int ((r:Nat):Int)=V.int i)=decide (r=n):=by subst h;exact nat_dec
theorem int_nat{z:Int}{n:Nat}(h:0 < n):∃ m:Nat,m < n∧z % ((n:Nat):Int)=((m:Nat):Int):=by
 obtain⟨m,e⟩:=Int.eq_ofNat_of_zero_le (Int.emod_nonneg z (show((n:Nat):Int)≠0 by omega))
 exact⟨m,by have:=Int.emod_lt_of_pos z (show(0:Int) < ((n:Nat):Int) by omega);omega,e⟩
theorem ixN_nat{n i:Nat}(h:i < n):ixN n ((i:Nat):Int)=some i:=by
 unfold ixN
 rw[if_pos (by omega),if_pos (by omega),Int.toNat_natCast]
end My
namespace L2
open PySem
end L2
namespace L2
open PySem PySem.Spec PyProof.Rows
section
variable{X:Cx}
end
end L2
namespace My
open PySem L2 PySem.Spec PyProof.Rows
section
variable{X:Cx}{e st:Expr}{te:TE}{ts:TO}{pos p2:Pos}
end
def up(c:Nat):Nat:=if 97≤c∧c≤122 then c - 32 else c
end My
namespace L2
open PySem PySem.Spec PyProof.Rows
section
variable{prog:Program}{w:World}{A:Around}{E:Value→Shared→Prop}{s:Shared}
end
section
variable{prog:Program}{w:World}{A:Around}{E:Value→Shared→Prop}{s:Shared}{h₀:Heap}{L l:Addr}{m:Str→Option Value}{news:List (Addr×Obj)}{Q:Value→Shared→Prop}
end
end L2
namespace L2
open PySem PySem.Spec PyProof.Rows
section
variable{prog:Program}{w:World}{A:Around}{E:Value→Shared→Prop}{s:Shared}{Q:Value→Shared→Prop}{pv nm qual:Str}{p p1 p2 p3:Pos}{f cc nl c':Addr}{pm ctv:Value}
end
end L2
namespace L2
open PySem PySem.Spec PyProof.Rows
section
variable{X:Cx}{pins:List (Addr×Obj)}{σ:St}{H:Hp}{s:Shared}{c P:Addr}{pv nm:Str}{p p1 p2 p3 pos:Pos}{cc:Addr}
end
end L2
namespace L2
open PySem PySem.Spec PyProof.Rows Att
section
variable{X:Cx}{pins:List (Addr×Obj)}{σ:St}{H:Hp}{s:Shared}{c P:Addr}{pv nm:Str}{p p1 p2 p3 pos:Pos}{cc:Addr}
end
end L2
namespace L2
open PySem PySem.Spec PyProof.Rows Att
section
variable{X:Cx}{c P:Addr}{pv nm:Str}{p p1 p2 p3 pos np cpos kp:Pos}{e:Expr}{t:TA}{i:Nat}
end
end L2
namespace L2
open PySem PySem.Spec PyProof.Rows
end L2
namespace L2
open PySem PySem.Spec PyProof.Rows
section
variable{X:Cx}
theorem truth_blsF{prog:Program}{w:World}{A:Around}{bs:List Bool}{its:List Value}(ri:Vals (bs.map V.bl) its):TruthOf prog w A (fun i v=>its.toArray[i]? = some v) (fun i=>bs.getD i false):=by
 intro i v s Q E hv hQ
 have hv':its[i]? = some v:=by simpa using hv
 have hi:i < bs.length:=by
  have h1:=(List.getElem?_eq_some_iff.mp hv').1
  have h2:=ri.length
  rw[List.length_map] at h2
  omega
 obtain⟨u,eu,ru⟩:=ri.get (i:=i) (x:=.bl (bs[i])) (by rw[List.getElem?_map,List.getElem?_eq_getElem hi];rfl)
 rw[hv'] at eu
 cases eu
 cases ru
 have e:bs.getD i false=bs[i]:=by rw[List.getD_eq_getElem?_getD,List.getElem?_eq_getElem hi];rfl
 have hQ':Q (bs.getD i false) s:=hQ
 rw[e] at hQ'
 exact wpAny_truthy_bool hQ'
theorem call_anyL(hc:X.calm=true):CallR X (.builtin "any") (fun xs H Q=>∃(a:Addr) (bs:List Bool),xs=[.ref a]∧SqL X.K H a (bs.map V.bl)∧Q (.bl (bs.any id)) H):=by
 intro pins s σ H xs us Q I r h
 obtain⟨a,bs,rfl,hS,q⟩:=h
 obtain⟨u,rfl,ru⟩:=vals1 r
 cases ru
 obtain⟨its,ri,pl,hz⟩:=I.list hS
 have hl:s.heap.IsList a its.toArray:=isL_of pl
 have ha:a < s.heap.objs.size:=by obtain⟨_,e,_⟩:=hl;exact Heap.lt_size e
 have hh:X.A.in1.handled=none:=I.ok.hd hc
 refine call_any_walk (wpAny_pyIter_list hl ?_)
 refine⟨s.heap.objs.size,[s.heap.objs.size,a],[s.heap.objs.size],its.toArray.size,(fun i v=>its.toArray[i]? = some v),(fun i h=>h.IsListIter s.heap.objs.size a i∧h.IsList a its.toArray),(fun i=>bs.getD i false),rfl,Walks.list hh s.heap.objs.size a (Nat.ne_of_lt ha) its.toArray,
  ⟨⟨_,Heap.get?_push_size _ rfl,rfl,rfl⟩,hl.push _⟩,truth_blsF ri,fun h' tk hk=>?_⟩
 have e:(List.range its.toArray.size).any (fun i=>bs.getD i false)=bs.any id:=by
  have h2:=ri.length
  rw[List.length_map] at h2
  have h3:its.toArray.size=bs.length:=by simp [h2]
  rw[h3]
  have e1:(List.range bs.length).map (fun i=>bs.getD i false)=bs:=by
   apply List.ext_getElem
   ·simp
   ·intro i h1 h2
    simp
    rw[List.getElem?_eq_getElem (by simpa using h2)]
    rfl
  conv=>rhs;rw[← e1]
  rw[List.any_map]
  rfl
 rw[e]
 refine⟨.bl _,H,I.kept (t':=tk) fun b o eb=>hk b o ?_ (Heap.get?_push_of_some _ eb),rfl,q⟩
 intro hm
 have:b=s.heap.objs.size:=by simpa using hm
 subst this
 exact absurd (Heap.lt_size eb) (Nat.lt_irrefl _)
def rCatG:R2:=fun x y H Q=>∃ a b xs ys,x = .ref a∧y = .ref b∧H a=some (.tup xs)∧H b=some (.tup ys)∧xs.length+ys.length≤sizeLine∧∀ p H',Same H H'→H' p=some (.tup (xs++ys))→Q (.ref p) H'
theorem op_catG:OpR X (binaryOp .Add) rCatG:=by
 intro pins s σ H x y v u Q I rx ry h
 obtain⟨a,b,xs,ys,rfl,rfl,ha,hb,hz,q⟩:=h
 by_cases hx:xs=[]
 ·subst hx
  cases rx
  cases ry
  obtain⟨its,r1,p1,_⟩:=I.tuple (.inl (.inl ha))
  obtain⟨its2,r2,p2,_⟩:=I.tuple (.inl (.inl hb))
  have e1:its=[]:=r1.nil_iff.mpr rfl
  subst e1
  obtain⟨⟨cls,dd,data,sl⟩,ho,hc,n,hd⟩:=id p1
  obtain⟨⟨cls2,dd2,data2,sl2⟩,ho2,hc2,n2,hd2⟩:=id p2
  simp only at hc hd hc2 hd2
  subst hc hd hc2 hd2
  exact concat_meets ⟨_,ho,rfl⟩ ⟨_,ho2,rfl⟩ noFill_tuple_add seq_tuple_add PySem.F.slot_tuple_add PySem.F.entry_tuple_add (PySem.F.args_tuple_add_2 _ _)
   (tuple_addW0 a b _ _ n n2 dd dd2 sl sl2 rfl) ⟨ho,ho2,⟨.ref b,H,I,rfl,q b H (fun _ _ e=>e) hb⟩⟩
 ·exact op_catT pins s σ H _ _ v u Q I rx ry ⟨a,b,xs,ys,rfl,rfl,.inl (.inl ha),.inl (.inl hb),hx,hz,fun e=>by subst e;exact q a H (fun _ _ e=>e) (by rw[List.append_nil];exact ha),
   fun _ p hp=>q p _ (fun c o e=>by rw[upd_ne (ne_of_none e hp)];exact e) upd_same⟩
end
end L2
namespace My
open PySem L2
abbrev sMany:Stmt:=top 5
abbrev sApart:Stmt:=top 22
abbrev sLevel:Stmt:=top 23
abbrev sGamPack:Stmt:=inClass (top 71) 1
abbrev sIsSeat:Stmt:=top 25
abbrev sRound:Stmt:=top 26
abbrev sWith:Stmt:=top 27
abbrev sIsPlace:Stmt:=top 28
abbrev sTurnAt:Stmt:=top 29
abbrev sMoves:Stmt:=top 30
abbrev sLeft:Stmt:=top 31
abbrev sBehind:Stmt:=top 32
theorem pack_or:∀ s≤4,∀ h≤8,orAll (packL s h) 0=packN s h:=by decide +kernel
theorem pack_lt:∀ s≤4,∀ h≤8,∀ c∈packL s h,c < 32:=by decide +kernel
theorem pack_len:∀ s≤4,∀ h≤8,(packL s h).length≤32:=by decide +kernel
section
variable{P:Program}{w:World}{K:PySem.W.Frag}{mg:Str→Option Value}{base:Heap}{f g:Addr}{fd gd:FuncData}
def spMany(K:PySem.W.Frag):Sp:=fun vs H Q _=>∃ h:Nat,vs=[.int h]∧h < 4294967296∧Q (.int (pcK 32 h)) H
theorem scMany:FnScope ["hand","number"] ["hand"] (defScope sMany):=⟨rfl,rfl,rfl,by decide +kernel,rfl,by decide +kernel,by decide +kernel⟩
theorem ok_many{k:Nat}(F:Fun K "many" "many" sMany f fd):FnOk P w K mg base CX0 (k+1) f fd ["hand"] (spMany K):=by
 refine F.ok scMany (fun vs H Q E h=>?_) (fun cdv A outer s H vs Q E hr h=>?_)
 ·obtain⟨h,rfl,_⟩:=h
  rfl
 obtain⟨h,rfl,h32,q⟩:=h
 refine⟨_,pss_cons (ps_set (i:=1) scMany.nd rfl (Or.inl rfl) pe_int)
  (pss_cons (ps_while PassesOwn.never (pt_cmpR op_gt (pv 0) pe_int (nomark _)) (pss_cons (ps_set (i:=0) scMany.nd rfl (Or.inl rfl) (pe_op op_and (pv 0) (pe_op op_sub (pv 0) pe_int)))
   (pss_one (ps_set (i:=1) scMany.nd rfl (Or.inl rfl) (pe_op op_add (pv 1) pe_int)))))
  (pss_one (ps_ret (pv 1)))),?_⟩
 refine while_by (fun σ H'=>H'=H∧∃ a n:Nat,σ=[some (.int (a:Nat)),some (.int (n:Nat))]∧a < 4294967296∧n+pcK 32 a=pcK 32 h) (fun σ _=>match σ with | some (.int a) :: _=>a.toNat | _=>0)
  ⟨rfl,h,0,rfl,h32,Nat.zero_add _⟩ (fun σ H1 z=>?_) (fun σ H1 R R' m ⟨v,e,i,j,e1,e2,b,e3,r⟩=>⟨v,e,i,j,e1,e2,b,e3,m _ _ r⟩)
 obtain⟨rfl,a,n,rfl,a32,inv⟩:=z
 refine⟨_,rfl,_,_,rfl,rfl,_,rfl,ite2 (fun c=>?_) fun c=>?_⟩
 ·have c':(0:Int) < (a:Nat):=of_decide_eq_true c
  refine⟨_,rfl,_,rfl,_,_,rfl,rfl,_,_,rfl,rfl,?_⟩
  refine⟨_,rfl,_,_,rfl,rfl,?_⟩
  have e:((a:Nat):Int) - 1=((a - 1:Nat):Int):=by omega
  have d:=pcK_drop 32 a (by omega) (by rw[show(2:Nat) ^ 32=4294967296 from rfl];exact a32)
  have l:a &&& (a - 1)≤a - 1:=Nat.and_le_right
  refine⟨⟨rfl,a &&& (a - 1),n+1,?_,by omega,by omega⟩,?_⟩
  ·show [some (V.int (Builtin.bitAnd (a:Nat) ((a:Nat) - 1))),some (V.int ((n:Nat)+1))]=_
   rw[e,PyProof.Rows.bitAnd_pp (Int.natCast_nonneg _) (Int.natCast_nonneg _)]
   rfl
  ·show(Builtin.bitAnd (a:Nat) ((a:Nat) - 1)).toNat < ((a:Nat):Int).toNat
   rw[e,PyProof.Rows.bitAnd_pp (Int.natCast_nonneg _) (Int.natCast_nonneg _)]
   show((a &&& (a - 1):Nat):Int).toNat < _
   omega
 ·have c':¬ (0:Int) < (a:Nat):=of_decide_eq_false (Bool.eq_false_iff.mpr c)
  have z:a=0:=by omega
  subst z
  rw[pcK_zero] at inv
  refine⟨_,rfl,?_⟩
  have e:n=pcK 32 h:=by omega
  rw[e]
  exact q
def spApart(K:PySem.W.Frag):Sp:=fun vs H Q _=>∃(a:Addr) (hs:List Nat),vs=[.ref a]∧SqL K H a (vN hs)∧Q (.bl (apartB hs 0)) H
theorem scApart:FnScope ["hands","seen","hand"] ["hands"] (defScope sApart):=⟨rfl,rfl,rfl,by decide +kernel,rfl,by decide +kernel,by decide +kernel⟩
theorem ok_apart{k:Nat}(F:Fun K "is_apart" "is_apart" sApart f fd):FnOk P w K mg base CX0 (k+1) f fd ["hands"] (spApart K):=by
 refine F.ok scApart (fun vs H Q E h=>?_) (fun cdv A outer s H vs Q E hr h=>?_)
 ·obtain⟨a,hs,rfl,_⟩:=h
  rfl
 obtain⟨a,hs,rfl,hS,q⟩:=h
 refine⟨_,pss_cons (ps_set (i:=1) scApart.nd rfl (Or.inl rfl) pe_int)
  (pss_cons (ps_for PassesOwn.never rfl (pi_list (pv 0)) (pg_name (i:=2) scApart.nd rfl (Or.inl rfl))
   (pss_cons (ps_if (pt_cmpR op_ne (pe_op op_and (pv 1) (pv 2)) pe_int (nomark _)) (pss_one (ps_ret pe_bl)) pss_nil)
   (pss_one (ps_set (i:=1) scApart.nd rfl (Or.inl rfl) (pe_op op_or (pv 1) (pv 2))))))
  (pss_one (ps_ret pe_bl))),?_⟩
 refine⟨_,rfl,a,rfl,⟨_,hS⟩,for_list (xs:=vN hs) (fun i σ H2=>H2=H∧∃(sn:Nat) (x:Option V),apartB hs 0=apartB (hs.drop i) sn∧σ=[some (.ref a),some (.int ((sn:Nat):Int)),x]) ⟨rfl,0,none,rfl,rfl⟩ (fun i σ H2 _ z=>z.1 ▸ hS) (fun i x σ H2 hx z=>?_) (fun σ H2 z=>?_)⟩
 ·obtain⟨rfl,sn,y,ha,rfl⟩:=z
  obtain⟨h,hi,rfl⟩:=vN_get hx
  have il:i < hs.length:=(List.getElem?_eq_some_iff.mp hi).1
  have ed:hs.drop i=h :: hs.drop (i+1):=by
   rw[List.drop_eq_getElem_cons il]
   rw[List.getElem?_eq_getElem il] at hi
   rw[Option.some.inj hi]
  have eA:Builtin.bitAnd ((sn:Nat):Int) ((h:Nat):Int)=((sn &&& h:Nat):Int):=by
   rw[PyProof.Rows.bitAnd_pp (by omega) (by omega),Int.toNat_natCast,Int.toNat_natCast]
  have eO:Builtin.bitOr ((sn:Nat):Int) ((h:Nat):Int)=((sn ||| h:Nat):Int):=by
   rw[PyProof.Rows.bitOr_and,PyProof.Rows.bitAnd_pp (by omega) (by omega),Int.toNat_natCast,Int.toNat_natCast]
   have:=PyProof.Rows.nat_or_add_and sn h
   omega
  have e0:(!decide (V.int (Builtin.bitAnd ((sn:Nat):Int) ((h:Nat):Int))=V.int 0)) = !decide (sn &&& h=0):=by
   rw[eA]
   exact congrArg (fun b=>!b) (natLit (n:=0) rfl)
  rw[ed] at ha
  refine⟨_,rfl,_,rfl,_,_,rfl,rfl,rfl,_,rfl,chg e0 ?_⟩
  by_cases c:sn &&& h=0
  ·rw[decide_eq_true c]
   refine iteF ⟨_,rfl,_,rfl,_,_,rfl,rfl,rfl,sn ||| h,some (.int ((h:Nat):Int)),?_,?_⟩
   ·rw[ha]
    show(if sn &&& h=0 then apartB (hs.drop (i+1)) (sn ||| h) else false)=_
    rw[if_pos c]
   ·show [some (V.ref a),some (V.int (Builtin.bitOr ((sn:Nat):Int) ((h:Nat):Int))),some (V.int ((h:Nat):Int))]=_
    rw[eO]
  ·rw[decide_eq_false c]
   have:apartB hs 0=false:=by
    rw[ha]
    show(if sn &&& h=0 then apartB (hs.drop (i+1)) (sn ||| h) else false)=_
    rw[if_neg c]
   rw[this] at q
   exact iteT q
 ·obtain⟨rfl,sn,y,ha,rfl⟩:=z
  rw[vN_len,List.drop_length] at ha
  have:apartB hs 0=true:=ha
  rw[this] at q
  exact q
def spLevel(K:PySem.W.Frag):Sp:=fun vs H Q _=>∃(a:Addr) (hs:List Nat),vs=[.ref a]∧H a=some (.lst (vN hs))∧(∀ h∈hs,h < 4294967296)∧0 < hs.length∧hs.length≤100∧∀ H',Same H H'→Q (.bl (levelB hs)) H'
theorem scLevel:FnScope ["hands"] ["hands"] (defScope sLevel):=⟨rfl,rfl,rfl,by decide +kernel,rfl,by decide +kernel,by decide +kernel⟩
def lvV(m:Nat)(x:V):Bool:=match x with | .int i=>decide (pcK 32 i.toNat=m) | _=>false
theorem ok_level{k:Nat}{f1:Addr}{d1:FuncData}(F:Fun K "is_level" "is_level" sLevel f fd)(LM:Lib P w K mg base k "many" ["hand"] (spMany K) f1 d1)(mA:mg "all" = none):FnOk P w K mg base CX0 (k+1) f fd ["hands"] (spLevel K):=by
 refine F.ok scLevel (fun vs H Q E h=>?_) (fun cdv A outer s H vs Q E hr h=>?_)
 ·obtain⟨a,hs,rfl,_⟩:=h
  rfl
 obtain⟨a,hs,rfl,hL,h32,h0,h100,q⟩:=h
 refine⟨_,pss_one (ps_ret (pe_callB (call_allL rfl) rfl mA PyProof.Rows.boot_all (pa_cons (pe_comp ["hand","hands"] [none,some 0] rfl (Blk.by (sc:=defScope sLevel) (N0:=["hands"]) rfl rfl (by decide +kernel)) (pi_list (pv 0)) (fun C s₀ H₀ ex=>pg_name (i:=0) (show(["hand","hands"]:List Str).Nodup by decide +kernel) rfl (Or.inl rfl)) (fun C s₀ H₀ ex=>pf_nil)
   (fun C s₀ H₀ ex=>pe_cmpR op_eq (pe_call LM.ok hr rfl LM.mg LM.kp LM.bd .nil pass0 (pa_cons (pv 0) pa_nil)) (pe_call LM.ok hr rfl LM.mg LM.kp LM.bd .nil pass0 (pa_cons (pe_ix (show IxR _ (rIxL K) from ix_list) (pv 1) pe_int (fun _ _=>rfl)) pa_nil)) (nomark _))) pa_nil))),?_⟩
 have hg:hs[0]? = some (hs.getD 0 0):=by rw[List.getD_eq_getElem?_getD,List.getElem?_eq_getElem h0];rfl
 have lt0:hs.getD 0 0 < 4294967296:=h32 _ (List.mem_of_getElem? hg)
 refine⟨_,rfl,a,rfl,⟨_,SqL.of hL⟩,comp_list (K:=K) (xs:=vN hs) (fun _=>true) (fun x=>.bl (lvV (pcK 32 (hs.getD 0 0)) x)) (SqL.of hL) (fits3 _ (by rw[vN_len];omega)) (fun x H3 hx sm R hR=>hR H3 (Same.refl H3)) (fun x H3 hx hp sm R hR=>?_) (fun l H1 sm hl hL1=>?_)⟩
 ·obtain⟨h,hh,rfl⟩:=List.mem_map.mp hx
  refine⟨_,rfl,h,rfl,h32 h hh,_,rfl,a,_,0,.int ((hs.getD 0 0:Nat):Int),rfl,rfl,SqL.of (sm _ _ hL),atI_nat (j:=0) (by unfold vN;rw[List.getElem?_map,hg];rfl),hs.getD 0 0,rfl,lt0,rfl,?_⟩
  have z:=hR H3 (Same.refl H3)
  have e:lvV (pcK 32 (hs.getD 0 0)) (.int ((h:Nat):Int))=decide (pcK 32 h=pcK 32 (hs.getD 0 0)):=by
   show decide (pcK 32 (((h:Nat):Int).toNat)=_)=_
   rw[Int.toNat_natCast]
  rw[e] at z
  have e2:decide (V.int ((pcK 32 h:Nat):Int)=V.int ((pcK 32 (hs.getD 0 0):Nat):Int))=decide (pcK 32 h=pcK 32 (hs.getD 0 0)):=nat_dec
  rw[← e2] at z
  exact z
 ·refine⟨l,(hs.map fun h=>decide (pcK 32 h=pcK 32 (hs.getD 0 0))),rfl,?_,?_⟩
  ·rw[List.filter_eq_self.mpr fun _ _=>rfl] at hL1
   refine SqL.of ?_
   rw[hL1]
   unfold vN
   rw[List.map_map,List.map_map]
   congr 2
  ·have z:=q H1 sm
   rw[List.all_map]
   exact z
def spGPack(CT CG:Addr):Sp:=fun vs H Q _=>∃(gm x:Addr) (tv:V) (f:Fx),vs=[.ref gm]∧f.Ok∧IsGam CG x tv H gm∧IsTab CT f H x∧∀ H',Same H H'→Q (.int (packN f.s f.h:Nat)) H'
theorem scGPack:FnScope ["self","cards","suit"] ["self"] (defScope sGamPack):=⟨rfl,rfl,rfl,by decide +kernel,rfl,by decide +kernel,by decide +kernel⟩
theorem ok_gpack{k:Nat}{CT CG f1:Addr}{d1:FuncData}{t1:Tok}(F:Fun K "pack" "Game.pack" sGamPack f fd)(C:TabC K mg CT)(CGm:GamC K mg CG)(LH:Lib P w K mg base k "hand_of" ["cards"] (spHandOf K) f1 d1)(mH:mg "HEIGHTS" = some (.int 8 t1))(mr:mg "range" = none) :
  FnOk P w K mg base CX0 (k+1) f fd ["self"] (spGPack CT CG):=by
 refine F.ok scGPack (fun vs H Q E h=>?_) (fun cdv A outer s H vs Q E hr h=>?_)
 ·obtain⟨gm,x,tv,fx,rfl,_⟩:=h
  rfl
 obtain⟨gm,x,tv,fx,rfl,ok,hg,ht,q⟩:=h
 refine⟨_,pss_cons (ps_set (i:=1) scGPack.nd rfl (Or.inl rfl) (pe_lst pa_nil))
  (pss_cons (ps_for PassesOwn.never rfl (pi_range1 rfl mr (pa_cons (pe_fld (pe_fld (pv 0) rfl) rfl) pa_nil)) (pg_name (i:=2) scGPack.nd rfl (Or.inr rfl))
   (pss_one (ps_expr (pe_bm PySem.F.plainAttrs_list PySem.F.slot_list_extend PySem.F.type_list_extend mt_extend (pv 1) (pa_cons (pe_comp ["height","suit"] [none,some 2] rfl (Blk.by (sc:=defScope sGamPack) (N0:=["self","cards","suit"]) rfl rfl (by decide +kernel)) (pi_range1 rfl mr (pa_cons (pe_fld (pe_fld (pv 0) rfl) rfl) pa_nil)) (fun C s₀ H₀ ex=>pg_name (i:=0) (show(["height","suit"]:List Str).Nodup by decide +kernel) rfl (Or.inl rfl))
    (fun C s₀ H₀ ex=>pf_nil) (fun C s₀ H₀ ex=>pe_op op_add (pe_op op_mul (pe_glob (v:=.int 8) rfl mH ⟨_,rfl⟩) (pv 1)) (pv 0))) pa_nil)))))
  (pss_one (ps_ret (pe_call LH.ok hr rfl LH.mg LH.kp LH.bd .nil pass0 (pa_cons (pv 1) pa_nil))))),?_⟩
 have s4:=ok.s4
 have h8:=ok.h8
 refine⟨fits3 0 (by decide),fun l hl=>?_⟩
 have s1:=same_upd hl (.lst [])
 obtain⟨dg,hg1⟩:=hg.same s1
 obtain⟨dx,po,to,hx1,_,_⟩:=ht.same s1
 refine⟨_,rfl,gm,CG,dg,_,_,rfl,hg1,CGm.cl,CGm.nT,gam_table _ _,x,CT,dx,_,_,rfl,hx1,C.cl,C.nS,look7_suits _ _ _,(fx.s:Int),rfl,by omega,by omega,?_⟩
 refine for_range (n:=fx.s) (fun i σ H'=>Same H H'∧H' l=some (.lst (vN (packL i fx.h)))∧∃ x2,σ=[some (.ref gm),some (.ref l),x2]) ⟨s1,upd_same,_,rfl⟩ (fun i σ H2 hi z=>?_) (fun σ H2 z=>?_)
 ·obtain⟨s2,hL2,x2,rfl⟩:=z
  obtain⟨dg,hg2⟩:=hg.same s2
  obtain⟨dx,po,to,hx2,_,_⟩:=ht.same s2
  refine⟨_,rfl,.inl ⟨rfl,_,SqL.of hL2⟩,?_⟩
  refine⟨_,rfl,gm,CG,dg,_,_,rfl,hg2,CGm.cl,CGm.nT,gam_table _ _,x,CT,dx,_,_,rfl,hx2,C.cl,C.nH,look7_heights _ _ _,(fx.h:Int),rfl,by omega,by omega,?_⟩
  refine comp_range (n:=fx.h) (lo:=0) (fun _=>true) (fun j=>.int ((8 * i+j:Nat):Int)) (fits3 _ (by omega)) (fun j H3 hj sm R hR=>hR H3 (Same.refl H3)) (fun j H3 hj hp sm R hR=>?_) (fun l3 H3 s3 hl3 hL3=>?_)
  ·refine⟨_,rfl,_,_,rfl,rfl,.inl ⟨by decide,by decide⟩,_,rfl,_,_,rfl,rfl,?_⟩
   have e:(8:Int) * (0+(i:Nat))+(0+(j:Nat))=((8 * i+j:Nat):Int):=by omega
   show R (.int ((8:Int) * (0+(i:Nat))+(0+(j:Nat)))) H3
   rw[e]
   exact hR H3 (Same.refl H3)
  have e3:((List.range fx.h).filter fun _=>true).map (fun j=>V.int ((8 * i+j:Nat):Int))=vN ((List.range fx.h).map fun v=>8 * i+v):=by
   rw[List.filter_eq_self.mpr (fun _ _=>rfl)]
   unfold vN
   rw[List.map_map]
   rfl
  rw[e3] at hL3
  have hL4:=s3 _ _ hL2
  have ll:(vN (packL i fx.h)).length+(vN ((List.range fx.h).map fun v=>8 * i+v)).length≤sizeLine:=by
   rw[vN_len,vN_len,List.length_map,List.length_range]
   have:=pack_len i (by omega) fx.h h8
   have:=fits3 100 (by decide)
   omega
  refine⟨l,l3,_,_,rfl,rfl,hL4,hL3,ll,?_,?_,_,rfl⟩
  ·intro b o hb
   have n:b≠l:=fun z=>by rw[z,hl] at hb;cases hb
   rw[upd_ne n]
   exact s3 _ _ (s2 _ _ hb)
  ·rw[upd_same]
   congr 2
   unfold packL vN
   rw[List.range_succ,List.flatMap_append,List.map_append]
   congr 1
   simp
 ·obtain⟨s2,hL2,x2,rfl⟩:=z
  refine⟨_,rfl,l,packL fx.s fx.h,rfl,SqL.of hL2,pack_lt _ s4 _ h8,?_⟩
  rw[pack_or _ s4 _ h8]
  exact q _ s2
end
end My
namespace My
open PySem L2
section
variable{P:Program}{w:World}{K:PySem.W.Frag}{mg:Str→Option Value}{base:Heap}{f g:Addr}{fd gd:FuncData}
theorem shl_nat(c:Nat):(1:Int) * 2 ^ (((c:Nat):Int)).toNat=((2 ^ c:Nat):Int):=by
 rw[Int.toNat_natCast,Int.one_mul,Int.natCast_pow]
 rfl
theorem orN(a b:Nat):Builtin.bitOr ((a:Nat):Int) ((b:Nat):Int)=((a ||| b:Nat):Int):=by
 rw[PyProof.Rows.bitOr_and,PyProof.Rows.bitAnd_pp (by omega) (by omega),Int.toNat_natCast,Int.toNat_natCast]
 have:=PyProof.Rows.nat_or_add_and a b
 omega
theorem xorN(a b:Nat):Builtin.bitXor ((a:Nat):Int) ((b:Nat):Int)=((a ^^^ b:Nat):Int):=by
 show Builtin.bitOr ((a:Nat):Int) ((b:Nat):Int) - Builtin.bitAnd ((a:Nat):Int) ((b:Nat):Int)=_
 rw[orN,PyProof.Rows.bitAnd_pp (by omega) (by omega),Int.toNat_natCast,Int.toNat_natCast]
 have:=PyProof.Rows.nat_or_add_and a b
 have e:(a ^^^ b)+(a &&& b)=a ||| b:=by
  have z:=PyProof.Rows.nat_or_add_and (a ^^^ b) (a &&& b)
  have e1:(a ^^^ b) ||| (a &&& b)=a ||| b:=Nat.eq_of_testBit_eq fun i=>by
   rw[Nat.testBit_or,Nat.testBit_xor,Nat.testBit_and,Nat.testBit_or]
   cases a.testBit i<;>cases b.testBit i<;>rfl
  have e2:(a ^^^ b) &&& (a &&& b)=0:=Nat.eq_of_testBit_eq fun i=>by
   rw[Nat.testBit_and,Nat.testBit_xor,Nat.testBit_and,Nat.zero_testBit]
   cases a.testBit i<;>cases b.testBit i<;>rfl
  rw[e1,e2] at z
  omega
 omega
def IsPl(H:Hp)(p:Addr)(hs:List Nat)(lead:Nat)(ys:List Nat):Prop:=∃ hp tp,H p=some (.tup [.ref hp,.int (lead:Nat),.ref tp])∧H hp=some (.tup (vN hs))∧H tp=some (.tup (vN ys))
theorem IsPl.same{H H':Hp}{p:Addr}{hs ys:List Nat}{lead:Nat}(h:IsPl H p hs lead ys)(s:Same H H'):IsPl H' p hs lead ys:=by
 obtain⟨hp,tp,a,b,c⟩:=h
 exact⟨hp,tp,s _ _ a,s _ _ b,s _ _ c⟩
structure GamH(CT CG:Addr)(f:Fx)(t:Option Nat)(H:Hp)(gm x:Addr):Prop where
 ok:f.Ok
 g:IsGam CG x (tvV t) H gm
 t:IsTab CT f H x
theorem GamH.same{CT CG:Addr}{f:Fx}{t:Option Nat}{H H':Hp}{gm x:Addr}(h:GamH CT CG f t H gm x)(s:Same H H'):GamH CT CG f t H' gm x:=⟨h.ok,h.g.same s,h.t.same s⟩
def spSeat(CT CG:Addr):Sp:=fun vs H Q _=>∃(gm x:Addr) (t:Option Nat) (fx:Fx) (i:Nat),vs=[.ref gm,.int (i:Nat)]∧GamH CT CG fx t H gm x∧Q (.bl (decide (i < fx.n))) H
theorem scSeat:FnScope ["game","seat"] ["game","seat"] (defScope sIsSeat):=⟨rfl,rfl,rfl,by decide +kernel,rfl,by decide +kernel,by decide +kernel⟩
theorem ok_seat{k:Nat}{CT CG:Addr}(F:Fun K "is_seat" "is_seat" sIsSeat f fd)(C:TabC K mg CT)(CGm:GamC K mg CG):FnOk P w K mg base CX0 (k+1) f fd ["game","seat"] (spSeat CT CG):=by
 refine F.ok scSeat (fun vs H Q E h=>?_) (fun cdv A outer s H vs Q E hr h=>?_)
 ·obtain⟨gm,x,t,fx,i,rfl,_⟩:=h
  rfl
 obtain⟨gm,x,t,fx,i,rfl,G,q⟩:=h
 refine⟨_,pss_one (ps_ret (pe_and (pe_cmpR op_ge (pv 1) pe_int (nomark _)) (pe_one (pe_cmpR op_lt (pv 1) (pe_fld (pe_fld (pv 0) rfl) rfl) (nomark _))))),?_⟩
 obtain⟨dg,hg⟩:=G.g
 obtain⟨dx,po,to,hx,_,_⟩:=G.t
 refine⟨_,rfl,_,_,rfl,rfl,_,rfl,ite2 (fun _=>?_) fun z=>absurd (decide_eq_true (Int.natCast_nonneg i)) z⟩
 refine⟨_,rfl,_,rfl,gm,CG,dg,_,_,rfl,hg,CGm.cl,CGm.nT,gam_table _ _,x,CT,dx,_,_,rfl,hx,C.cl,C.nN,look7_seats _ _ _,_,_,rfl,rfl,?_⟩
 have e:decide (((i:Nat):Int) < ((fx.n:Nat):Int))=decide (i < fx.n):=decide_eq_decide.mpr ⟨fun h=>by omega,fun h=>by omega⟩
 show Q (V.bl (decide (((i:Nat):Int) < ((fx.n:Nat):Int)))) H
 rw[e]
 exact q
def spRound(CT CG:Addr):Sp:=fun vs H Q _=>∃(gm x:Addr) (t:Option Nat) (fx:Fx) (i j:Nat),vs=[.ref gm,.int (i:Nat),.int (j:Nat)]∧GamH CT CG fx t H gm x∧Q (.int ((i+j) % fx.n:Nat)) H
theorem scRound:FnScope ["game","lead","steps"] ["game","lead","steps"] (defScope sRound):=⟨rfl,rfl,rfl,by decide +kernel,rfl,by decide +kernel,by decide +kernel⟩
theorem ok_round{k:Nat}{CT CG:Addr}(F:Fun K "seat_round" "seat_round" sRound f fd)(C:TabC K mg CT)(CGm:GamC K mg CG):FnOk P w K mg base CX0 (k+1) f fd ["game","lead","steps"] (spRound CT CG):=by
 refine F.ok scRound (fun vs H Q E h=>?_) (fun cdv A outer s H vs Q E hr h=>?_)
 ·obtain⟨gm,x,t,fx,i,j,rfl,_⟩:=h
  rfl
 obtain⟨gm,x,t,fx,i,j,rfl,G,q⟩:=h
 refine⟨_,pss_one (ps_ret (pe_op op_mod (pe_op op_add (pv 1) (pv 2)) (pe_fld (pe_fld (pv 0) rfl) rfl))),?_⟩
 obtain⟨dg,hg⟩:=G.g
 obtain⟨dx,po,to,hx,_,_⟩:=G.t
 have n0:0 < fx.n:=by rcases G.ok.n34 with e | e<;>omega
 refine⟨_,rfl,_,rfl,_,_,rfl,rfl,_,rfl,gm,CG,dg,_,_,rfl,hg,CGm.cl,CGm.nT,gam_table _ _,x,CT,dx,_,_,rfl,hx,C.cl,C.nN,look7_seats _ _ _,_,_,rfl,rfl,(by show(0:Int) < ((fx.n:Nat):Int);omega),?_⟩
 have e:(((i:Nat):Int)+((j:Nat):Int)) % ((fx.n:Nat):Int)=(((i+j) % fx.n:Nat):Int):=by rw[Int.natCast_emod,Int.natCast_add]
 show Q (V.int ((((i:Nat):Int)+((j:Nat):Int)) % ((fx.n:Nat):Int))) H
 rw[e]
 exact q
def spLeft(K:PySem.W.Frag):Sp:=fun vs H Q _=>∃(p:Addr) (fx:Fx) (hs ys:List Nat) (lead m:Nat),vs=[.ref p]∧fx.Ok∧IsPl H p hs lead ys∧Plc fx hs lead ys m∧∀ H',Same H H'→Q (.int (m:Nat)) H'
theorem scLeft:FnScope ["place"] ["place"] (defScope sLeft):=⟨rfl,rfl,rfl,by decide +kernel,rfl,by decide +kernel,by decide +kernel⟩
def pcV(x:V):V:=match x with | .int i=>.int ((pcK 32 i.toNat:Nat):Int) | _=>.non
theorem pcV_list(hs:List Nat):((vN hs).filter fun _=>true).map pcV=(hs.map fun h=>((pcK 32 h:Nat):Int)).map V.int:=by
 rw[List.filter_eq_self.mpr fun _ _=>rfl]
 unfold vN
 rw[List.map_map,List.map_map]
 refine List.map_congr_left fun h _=>?_
 show V.int ((pcK 32 (((h:Nat):Int)).toNat:Nat):Int)=_
 rw[Int.toNat_natCast]
 rfl
theorem ok_left{k:Nat}{f1:Addr}{d1:FuncData}(F:Fun K "left" "left" sLeft f fd)(LM:Lib P w K mg base k "many" ["hand"] (spMany K) f1 d1)(mM:mg "max" = none):FnOk P w K mg base CX0 (k+1) f fd ["place"] (spLeft K):=by
 refine F.ok scLeft (fun vs H Q E h=>?_) (fun cdv A outer s H vs Q E hr h=>?_)
 ·obtain⟨p,fx,hs,ys,lead,m,rfl,_⟩:=h
  rfl
 obtain⟨p,fx,hs,ys,lead,m,rfl,ok,⟨hp,tp,h1,h2,h3⟩,Pl,q⟩:=h
 refine⟨_,pss_one (ps_ret (pe_callB (call_maxL rfl) rfl mM PyProof.Rows.boot_max (pa_cons (pe_comp ["hand"] [none] rfl (Blk.by (sc:=defScope sLeft) (N0:=["place"]) rfl rfl (by decide +kernel)) (pi_tup (pe_ix ix_tup (pv 0) pe_int (fun _ _=>rfl))) (fun C s₀ H₀ ex=>pg_name (i:=0) (show(["hand"]:List Str).Nodup by decide +kernel) rfl (Or.inl rfl)) (fun C s₀ H₀ ex=>pf_nil)
   (fun C s₀ H₀ ex=>pe_call LM.ok hr rfl LM.mg LM.kp LM.bd .nil pass0 (pa_cons (pv 0) pa_nil))) pa_nil))),?_⟩
 have n4:hs.length≤4:=by rw[Pl.len];rcases ok.n34 with e | e<;>omega
 refine⟨_,rfl,p,_,_,_,rfl,rfl,SqT.of h1,(rfl:atI [V.ref hp,V.int (lead:Nat),V.ref tp] 0=some (V.ref hp)),hp,rfl,⟨_,SqT.of h2⟩,comp_tup (K:=K) (xs:=vN hs) (fun _=>true) pcV (SqT.of h2) (fits3 _ (by rw[vN_len];omega)) (fun y H3 hy sm R hR=>hR H3 (Same.refl H3)) (fun y H3 hy hp sm R hR=>?_) (fun lq H4 s4 hlq hL4=>?_)⟩
 ·obtain⟨h,hh,rfl⟩:=List.mem_map.mp hy
  refine⟨_,rfl,h,rfl,Pl.h32 ok hh,?_⟩
  have z:=hR H3 (Same.refl H3)
  have e:pcV (V.int (h:Nat))=V.int ((pcK 32 h:Nat):Int):=by
   show V.int ((pcK 32 (((h:Nat):Int)).toNat:Nat):Int)=_
   rw[Int.toNat_natCast]
  rw[e] at z
  exact z
 ·rw[pcV_list] at hL4
  obtain⟨m1,m2⟩:=Pl.max ok
  refine⟨lq,_,rfl,SqL.of hL4,?_,fun M hM hmax=>?_⟩
  ·rw[List.length_map,Pl.len]
   rcases ok.n34 with e | e<;>omega
  ·have e:M=(m:Nat):=by
    obtain⟨h,hh,e1⟩:=List.mem_map.mp hM
    have a1:=m2 _ (List.mem_map.mpr ⟨h,hh,rfl⟩)
    obtain⟨h',hh',e2⟩:=List.mem_map.mp m1
    have a2:=hmax _ (List.mem_map.mpr ⟨h',hh',rfl⟩)
    omega
   rw[e]
   exact q H4 s4
theorem vN_set(ws:List Nat)(j x:Nat):(vN ws).set j (.int (x:Nat))=vN (ws.set j x):=by
 unfold vN
 rw[List.map_set]
theorem vN_at{ws:List Nat}{j w:Nat}(h:ws[j]? = some w):atI (vN ws) (j:Nat)=some (.int (w:Nat)):=atI_nat (by unfold vN;rw[List.getElem?_map,h];rfl)
def spWith(CT CG:Addr):Sp:=fun vs H Q _=>∃(gm x p:Addr) (t:Option Nat) (fx:Fx) (hs ys:List Nat) (lead m:Nat),vs=[.ref gm,.ref p]∧GamH CT CG fx t H gm x∧IsPl H p hs lead ys∧Plc fx hs lead ys m ∧
 ∀ l ws H',Same H H'→H l=none→H' l=some (.lst (vN ws))→ws.length=fx.n→(∀ w∈ws,w < 4294967296∧pcK 32 w=m)→Q (.ref l) H'
abbrev nWith:List Str:=["game","place","hands","number","card","seat"]
theorem scWith:FnScope nWith ["game","place"] (defScope sWith):=⟨rfl,rfl,rfl,by decide +kernel,rfl,by decide +kernel,by decide +kernel⟩
theorem ok_with{k:Nat}{CT CG f1:Addr}{d1:FuncData}(F:Fun K "hands_with_trick" "hands_with_trick" sWith f fd)(LR:Lib P w K mg base k "seat_round" ["game","lead","steps"] (spRound CT CG) f1 d1)(mLi:mg "list" = none)(me:mg "enumerate" = none) :
  FnOk P w K mg base CX0 (k+1) f fd ["game","place"] (spWith CT CG):=by
 refine F.ok scWith (fun vs H Q E h=>?_) (fun cdv A outer s H vs Q E hr h=>?_)
 ·obtain⟨gm,x,p,t,fx,hs,ys,lead,m,rfl,_⟩:=h
  rfl
 obtain⟨gm,x,p,t,fx,hs,ys,lead,m,rfl,G,⟨hp,tp,h1,h2,h3⟩,Pl,q⟩:=h
 refine⟨_,pss_cons (ps_set (i:=2) scWith.nd rfl (Or.inl rfl) (pe_callTy call_list_of rfl mLi PyProof.Rows.boot_list (pa_cons (pe_ix ix_tup (pv 1) pe_int (fun _ _=>rfl)) pa_nil)))
  (pss_cons (ps_for PassesOwn.never rfl (pi_enumT rfl me (pa_cons (pe_ix ix_tup (pv 1) pe_int (fun _ _=>rfl)) pa_nil)) (pg_tup rfl (pgs_cons (pg_name (i:=3) scWith.nd rfl (Or.inl rfl)) (pgs_cons (pg_name (i:=4) scWith.nd rfl (Or.inl rfl)) pgs_nil)))
   (pss_cons (ps_set (i:=5) scWith.nd rfl (Or.inl rfl) (pe_call LR.ok hr rfl LR.mg LR.kp LR.bd .nil pass0 (pa_cons (pv 0) (pa_cons (pe_ix ix_tup (pv 1) pe_int (fun _ _=>rfl)) (pa_cons (pv 3) pa_nil)))))
   (pss_one (ps_asg (pe_op op_or (pe_ix ix_list (pv 2) (pv 5) (fun _ _=>rfl)) (pe_op op_shl pe_int (pv 4))) (pg_sub (pv 2) (pv 5) set_list)))))
  (pss_one (ps_ret (pv 2)))),?_⟩
 have ok:=G.ok
 refine⟨_,rfl,p,_,_,_,rfl,rfl,SqT.of h1,(rfl:atI [V.ref hp,V.int (lead:Nat),V.ref tp] 0=some (V.ref hp)),hp,_,rfl,.inr (SqT.of h2),fun l hl=>?_⟩
 have s1:=same_upd hl (.lst (vN hs))
 refine⟨_,rfl,p,_,_,_,rfl,rfl,SqT.of (s1 _ _ h1),(rfl:atI [V.ref hp,V.int (lead:Nat),V.ref tp] 2=some (V.ref tp)),tp,_,rfl,SqT.of (s1 _ _ h3),?_⟩
 refine for_enumT (K:=K) (a:=tp) (xs:=vN ys) (fun i σ H'=>Same H H'∧∃(ws:List Nat) (x3 x4 x5:Option V),σ=[some (.ref gm),some (.ref p),some (.ref l),x3,x4,x5]∧H' l=some (.lst (vN ws))∧WsOk fx hs lead i ws)
  ⟨s1,hs,none,none,none,rfl,upd_same,WsOk.start Pl⟩ (fun i σ H1 z=>SqT.of (z.1 _ _ h3)) (fun i v r σ H1 hv z hr1=>?_) (fun σ H1 z=>?_)
 ·obtain⟨s2,ws,x3,x4,x5,rfl,hL,W⟩:=z
  obtain⟨c,hc,rfl⟩:=vN_get hv
  have s3:=s2.trans (same_upd hr1 (.tup [.int (i:Nat),.int (c:Nat)]))
  have hL3:upd H1 r (.tup [.int (i:Nat),.int (c:Nat)]) l=some (.lst (vN ws)):=by rw[upd_ne (ne_of_none hL hr1)];exact hL
  obtain⟨wv,ew,W'⟩:=W.step ok Pl hc
  have c32:=Pl.y32 ok (List.mem_of_getElem? hc)
  refine⟨r,_,rfl,SqT.of upd_same,rfl,_,_,rfl,_,_,rfl,rfl,?_⟩
  refine⟨_,rfl,_,rfl,p,_,_,_,rfl,rfl,SqT.of (s3 _ _ h1),(rfl:atI [V.ref hp,V.int (lead:Nat),V.ref tp] 1=some (V.int (lead:Nat))),_,rfl,gm,x,t,fx,lead,i,rfl,G.same s3,?_⟩
  refine⟨_,rfl,_,rfl,l,_,_,_,rfl,rfl,SqL.of hL3,vN_at ew,_,rfl,_,_,rfl,rfl,⟨by omega,by omega,by decide⟩,_,_,rfl,rfl,?_⟩
  refine⟨_,rfl,_,rfl,l,_,_,(lead+i) % fx.n,rfl,rfl,hL3,?_,?_⟩
  ·refine ixN_nat ?_
   rw[vN_len]
   exact(List.getElem?_eq_some_iff.mp ew).1
  ·refine⟨fun b o hb=>?_,ws.set ((lead+i) % fx.n) (wv ||| 2 ^ c),_,_,_,rfl,?_,W'⟩
   ·rw[upd_ne (ne_of_none hb hl)]
    exact s3 _ _ hb
   ·rw[upd_same,← vN_set]
    show some (HO.lst ((vN ws).set ((lead+i) % fx.n) (V.int (Builtin.bitOr ((wv:Nat):Int) ((1:Int) * 2 ^ (((c:Nat):Int)).toNat)))))=_
    rw[shl_nat,orN]
 ·obtain⟨s2,ws,x3,x4,x5,rfl,hL,W⟩:=z
  rw[vN_len] at W
  exact⟨_,rfl,q l ws H1 s2 hl hL W.len (W.end_ ok Pl)⟩
theorem packN_eq{f:Fx}(ok:f.Ok):packN f.s f.h=hN (packL f.s f.h):=(pack_or _ ok.s4 _ ok.h8).symm
def powV(x:V):V:=match x with | .int i=>.int ((2 ^ i.toNat:Nat):Int) | _=>.non
theorem powV_list(ys:List Nat):((vN ys).filter fun _=>true).map powV=vN (ys.map fun c=>2 ^ c):=by
 rw[List.filter_eq_self.mpr fun _ _=>rfl]
 unfold vN
 rw[List.map_map,List.map_map]
 refine List.map_congr_left fun c _=>?_
 show V.int ((2 ^ (((c:Nat):Int)).toNat:Nat):Int)=_
 rw[Int.toNat_natCast]
 rfl
def spIsPlace(CT CG:Addr):Sp:=fun vs H Q _=>∃(gm x p:Addr) (t:Option Nat) (fx:Fx) (hs ys:List Nat) (lead m:Nat),vs=[.ref gm,.ref p]∧GamH CT CG fx t H gm x∧IsPl H p hs lead ys∧Plc fx hs lead ys m∧∀ H',Same H H'→Q (.bl true) H'
abbrev nIsPlace:List Str:=["game","place","hands","trick","parts","pack"]
theorem scIsPlace:FnScope nIsPlace ["game","place"] (defScope sIsPlace):=⟨rfl,rfl,rfl,by decide +kernel,rfl,by decide +kernel,by decide +kernel⟩
theorem ok_isPlace{k:Nat}{CT CG f1 f2 f3 f4 m5:Addr}{d1 d2 d3 d4 e5:FuncData}(F:Fun K "is_place" "is_place" sIsPlace f fd)(C:TabC K mg CT)(CGm:GamC K mg CG)(LS:Lib P w K mg base k "is_seat" ["game","seat"] (spSeat CT CG) f1 d1)
  (LA:Lib P w K mg base k "is_apart" ["hands"] (spApart K) f2 d2) (LV:Lib P w K mg base k "is_level" ["hands"] (spLevel K) f3 d3) (LW:Lib P w K mg base k "hands_with_trick" ["game","place"] (spWith CT CG) f4 d4)
  (MP:Meth K CG "pack" m5) (FP:FnOk P w K mg base CX0 k m5 e5 ["self"] (spGPack CT CG)) (BP:Binds K e5 ["self"] []) (ml:mg "len" = none) (mLi:mg "list" = none) (mY:mg "any" = none) :
  FnOk P w K mg base CX0 (k+1) f fd ["game","place"] (spIsPlace CT CG):=by
 refine F.ok scIsPlace (fun vs H Q E h=>?_) (fun cdv A outer s H vs Q E hr h=>?_)
 ·obtain⟨gm,x,p,t,fx,hs,ys,lead,m,rfl,_⟩:=h
  rfl
 obtain⟨gm,x,p,t,fx,hs,ys,lead,m,rfl,G,hPl,Pl,q⟩:=h
 obtain⟨hp,tp,h1,h2,h3⟩:=id hPl
 refine⟨_,pss_cons (ps_set (i:=2) scIsPlace.nd rfl (Or.inl rfl) (pe_callTy call_list_of rfl mLi PyProof.Rows.boot_list (pa_cons (pe_ix ix_tup (pv 1) pe_int (fun _ _=>rfl)) pa_nil)))
  (pss_cons (ps_set (i:=3) scIsPlace.nd rfl (Or.inl rfl) (pe_ix ix_tup (pv 1) pe_int (fun _ _=>rfl)))
  (pss_cons (ps_if (PW.pt (pw_or (pt_cmpR op_ne (pe_callB call_len_seq rfl ml PySem.boot_len (pa_cons (pv 2) pa_nil)) (pe_fld (pe_fld (pv 0) rfl) rfl) (nomark _)) (pw_or (pt_cmpR op_ge (pe_callB call_len_seq rfl ml PySem.boot_len (pa_cons (pv 3) pa_nil)) (pe_fld (pe_fld (pv 0) rfl) rfl) (nomark _))
   (pw_or1 (pt_not (pt_truth (pe_call LS.ok hr rfl LS.mg LS.kp LS.bd .nil pass0 (pa_cons (pv 0) (pa_cons (pe_ix ix_tup (pv 1) pe_int (fun _ _=>rfl)) pa_nil))) (fun _=>rfl))))))) (pss_one (ps_ret pe_bl)) pss_nil)
  (pss_cons (ps_set (i:=4) scIsPlace.nd rfl (Or.inl rfl) (pe_op op_cat (pv 2) (pe_comp ["card"] [none] rfl (Blk.by (sc:=defScope sIsPlace) (N0:=nIsPlace) rfl rfl (by decide +kernel)) (pi_tup (pv 3)) (fun C s₀ H₀ ex=>pg_name (i:=0) (show(["card"]:List Str).Nodup by decide +kernel) rfl (Or.inl rfl)) (fun C s₀ H₀ ex=>pf_nil)
   (fun C s₀ H₀ ex=>pe_op op_shl pe_int (pv 0)))))
  (pss_cons (ps_set (i:=5) scIsPlace.nd rfl (Or.inr rfl) (pe_meth0 (pv 0) CGm.cl MP FP hr BP .nil pass0))
  (pss_cons (ps_if (PW.pt (pw_or (pt_not (pt_truth (pe_call LA.ok hr rfl LA.mg LA.kp LA.bd .nil pass0 (pa_cons (pv 4) pa_nil)) (fun _=>rfl))) (pw_or1 (pt_truth (pe_callB (call_anyL rfl) rfl mY PyProof.Rows.boot_any (pa_cons (pe_comp ["part","pack"] [none,some 5] rfl (Blk.by (sc:=defScope sIsPlace) (N0:=nIsPlace) rfl rfl (by decide +kernel)) (pi_list (pv 4)) (fun C s₀ H₀ ex=>pg_name (i:=0) (show(["part","pack"]:List Str).Nodup by decide +kernel) rfl (Or.inl rfl)) (fun C s₀ H₀ ex=>pf_nil)
   (fun C s₀ H₀ ex=>pe_cmpR op_ne (pe_op op_or (pv 0) (pv 1)) (pv 1) (nomark _))) pa_nil)) (fun _=>rfl))))) (pss_one (ps_ret pe_bl)) pss_nil)
  (pss_one (ps_ret (pe_call LV.ok hr rfl LV.mg LV.kp LV.bd .nil pass0 (pa_cons (pe_call LW.ok hr rfl LW.mg LW.kp LW.bd .nil pass0 (pa_cons (pv 0) (pa_cons (pv 1) pa_nil))) pa_nil))))))))),?_⟩
 have ok:=G.ok
 have n4:fx.n≤4:=by rcases ok.n34 with e | e<;>omega
 have n0:0 < fx.n:=by rcases ok.n34 with e | e<;>omega
 refine⟨_,rfl,p,_,_,_,rfl,rfl,SqT.of h1,(rfl:atI [V.ref hp,V.int (lead:Nat),V.ref tp] 0=some (V.ref hp)),hp,_,rfl,.inr (SqT.of h2),fun l hl=>?_⟩
 have s1:=same_upd hl (.lst (vN hs))
 refine⟨_,rfl,p,_,_,_,rfl,rfl,SqT.of (s1 _ _ h1),(rfl:atI [V.ref hp,V.int (lead:Nat),V.ref tp] 2=some (V.ref tp)),?_⟩
 obtain⟨dg,hg⟩:=(G.same s1).g
 obtain⟨dx,po,to,hx,_,_⟩:=(G.same s1).t
 have e1:(!decide (V.int (((vN hs).length:Nat):Int)=V.int ((fx.n:Nat):Int)))=false:=by rw[vN_len,Pl.len,decide_eq_true rfl];rfl
 have e2:decide (((fx.n:Nat):Int)≤(((vN ys).length:Nat):Int))=false:=by rw[vN_len];exact decide_eq_false (by have:=Pl.yl;omega)
 refine⟨_,rfl,l,_,rfl,.inl (SqL.of upd_same),_,rfl,gm,CG,dg,_,_,rfl,hg,CGm.cl,CGm.nT,gam_table _ _,x,CT,dx,_,_,rfl,hx,C.cl,C.nN,look7_seats _ _ _,rfl,_,rfl,chg e1 (iteF ?_)⟩
 refine⟨_,rfl,tp,_,rfl,.inr (SqT.of (s1 _ _ h3)),_,rfl,gm,CG,dg,_,_,rfl,hg,CGm.cl,CGm.nT,gam_table _ _,x,CT,dx,_,_,rfl,hx,C.cl,C.nN,look7_seats _ _ _,_,_,rfl,rfl,_,rfl,chg e2 (iteF ?_)⟩
 refine⟨_,rfl,_,rfl,p,_,_,_,rfl,rfl,SqT.of (s1 _ _ h1),(rfl:atI [V.ref hp,V.int (lead:Nat),V.ref tp] 1=some (V.int (lead:Nat))),gm,x,t,fx,lead,rfl,G.same s1,_,rfl,?_⟩
 refine chg (by rw[decide_eq_true Pl.ld];rfl:(!decide (lead < fx.n))=false) (iteF ?_)
 refine⟨_,rfl,_,rfl,tp,rfl,⟨_,SqT.of (s1 _ _ h3)⟩,comp_tup (K:=K) (xs:=vN ys) (fun _=>true) powV (SqT.of (s1 _ _ h3)) (fits3 _ (by rw[vN_len];have:=Pl.yl;omega)) (fun y H3 hy sm R hR=>hR H3 (Same.refl H3)) (fun y H3 hy hp sm R hR=>?_) (fun lq H4 s4 hlq hL4=>?_)⟩
 ·obtain⟨c,hc,rfl⟩:=List.mem_map.mp hy
  have c32:=Pl.y32 ok hc
  refine⟨_,rfl,_,_,rfl,rfl,⟨by omega,by omega,by decide⟩,?_⟩
  have z:=hR H3 (Same.refl H3)
  show R (V.int ((1:Int) * 2 ^ (((c:Nat):Int)).toNat)) H3
  rw[shl_nat]
  have e:powV (V.int (c:Nat))=V.int ((2 ^ c:Nat):Int):=by
   show V.int ((2 ^ (((c:Nat):Int)).toNat:Nat):Int)=_
   rw[Int.toNat_natCast]
  rw[e] at z
  exact z
 rw[powV_list] at hL4
 have sl4:=s4 _ _ (upd_same:upd H l (.lst (vN hs)) l=_)
 have ll:(vN hs).length+(vN (ys.map fun c=>2 ^ c)).length≤sizeLine:=fits3 _ (by rw[vN_len,vN_len,List.length_map,Pl.len];have:=Pl.yl;omega)
 refine⟨l,lq,_,_,rfl,rfl,sl4,hL4,ll,fun pq hpq=>?_⟩
 have s5:Same H (upd H4 pq (.lst (vN hs++vN (ys.map fun c=>2 ^ c)))):=(s1.trans s4).trans (same_upd hpq _)
 have eP:vN hs++vN (ys.map fun c=>2 ^ c)=vN (hs++ys.map fun c=>2 ^ c):=by unfold vN;rw[List.map_append]
 rw[eP] at s5 ⊢
 obtain⟨dg5,hg5⟩:=(G.same s5).g
 refine⟨_,rfl,gm,dg5,_,rfl,hg5,gam_none _ _ _ (by decide +kernel) (by decide +kernel),gm,x,_,fx,rfl,ok,(G.same s5).g,(G.same s5).t,fun H6 s6=>?_⟩
 have s7:=s5.trans s6
 have hL6:H6 pq=some (.lst (vN (hs++ys.map fun c=>2 ^ c))):=s6 _ _ upd_same
 refine⟨_,rfl,pq,_,rfl,SqL.of hL6,_,rfl,chg (by rw[Pl.parts];rfl:(!apartB (hs++ys.map fun c=>2 ^ c) 0)=false) (iteF ?_)⟩
 refine⟨_,rfl,pq,rfl,⟨_,SqL.of hL6⟩,comp_list (K:=K) (xs:=vN (hs++ys.map fun c=>2 ^ c)) (fun _=>true) (fun _=>.bl false) (SqL.of hL6) (fits3 _ (by rw[vN_len,List.length_append,List.length_map,Pl.len];have:=Pl.yl;omega)) (fun x H3 hx sm R hR=>hR H3 (Same.refl H3)) (fun x H8 hx hp sm R hR=>?_) (fun lz H8 s8 hz hz8=>?_)⟩
 ·obtain⟨pt,hpt,rfl⟩:=List.mem_map.mp hx
  refine⟨_,rfl,_,rfl,_,_,rfl,rfl,_,rfl,rfl,?_⟩
  have z:=hR H8 (Same.refl H8)
  have e:(!decide (V.int (Builtin.bitOr ((pt:Nat):Int) ((packN fx.s fx.h:Nat):Int))=V.int ((packN fx.s fx.h:Nat):Int)))=false:=by
   rw[orN,packN_eq ok,Pl.inpack ok hpt,decide_eq_true rfl]
   rfl
  show R (V.bl (!decide (V.int (Builtin.bitOr ((pt:Nat):Int) ((packN fx.s fx.h:Nat):Int))=V.int ((packN fx.s fx.h:Nat):Int)))) H8
  rw[e]
  exact z
 ·have eb:((vN (hs++ys.map fun c=>2 ^ c)).filter fun _=>true).map (fun _=>V.bl false)=((hs++ys.map fun c=>2 ^ c).map fun _=>false).map V.bl:=by
   rw[List.filter_eq_self.mpr fun _ _=>rfl]
   unfold vN
   rw[List.map_map,List.map_map]
   rfl
  rw[eb] at hz8
  refine⟨lz,_,rfl,SqL.of hz8,_,rfl,?_⟩
  have ea:((hs++ys.map fun c=>2 ^ c).map fun _=>false).any id=false:=by
   rw[List.any_map]
   exact List.any_eq_false.mpr fun _ _=>Bool.false_ne_true
  refine chg ea (iteF ?_)
  have s9:=s7.trans s8
  refine⟨_,rfl,_,rfl,gm,x,p,t,fx,hs,ys,lead,m,rfl,G.same s9,hPl.same s9,Pl,fun lw ws H9 t9 hw hw9 lenw allw=>?_⟩
  refine⟨lw,ws,rfl,hw9,fun w hw=>(allw w hw).1,by omega,by omega,fun H10 t10=>?_⟩
  rw[level_of (fun w hw=>(allw w hw).2) (by omega)]
  exact q H10 ((s9.trans t9).trans t10)
def turnV(f:Fx)(lead:Nat)(ys:List Nat)(m:Nat):V:=if m=0 then .non else .int (((lead+ys.length) % f.n:Nat):Int)
def spTurnAt(CT CG:Addr):Sp:=fun vs H Q _=>∃(gm x p:Addr) (t:Option Nat) (fx:Fx) (hs ys:List Nat) (lead m:Nat),vs=[.ref gm,.ref p]∧GamH CT CG fx t H gm x∧IsPl H p hs lead ys∧Plc fx hs lead ys m∧∀ H',Same H H'→Q (turnV fx lead ys m) H'
theorem scTurnAt:FnScope ["game","place"] ["game","place"] (defScope sTurnAt):=⟨rfl,rfl,rfl,by decide +kernel,rfl,by decide +kernel,by decide +kernel⟩
theorem ok_turnAt{k:Nat}{CT CG f1 f2:Addr}{d1 d2:FuncData}(F:Fun K "turn_at" "turn_at" sTurnAt f fd)(LL:Lib P w K mg base k "left" ["place"] (spLeft K) f1 d1)(LR:Lib P w K mg base k "seat_round" ["game","lead","steps"] (spRound CT CG) f2 d2)(ml:mg "len" = none) :
  FnOk P w K mg base CX0 (k+1) f fd ["game","place"] (spTurnAt CT CG):=by
 refine F.ok scTurnAt (fun vs H Q E h=>?_) (fun cdv A outer s H vs Q E hr h=>?_)
 ·obtain⟨gm,x,p,t,fx,hs,ys,lead,m,rfl,_⟩:=h
  rfl
 obtain⟨gm,x,p,t,fx,hs,ys,lead,m,rfl,G,hPl,Pl,q⟩:=h
 refine⟨_,pss_cons (ps_if (pt_cmpR op_eq (pe_call LL.ok hr rfl LL.mg LL.kp LL.bd .nil pass0 (pa_cons (pv 1) pa_nil)) pe_int (nomark _)) (pss_one (ps_ret pe_non)) pss_nil)
  (pss_one (ps_ret (pe_call LR.ok hr rfl LR.mg LR.kp LR.bd .nil pass0 (pa_cons (pv 0) (pa_cons (pe_ix ix_tup (pv 1) pe_int (fun _ _=>rfl)) (pa_cons (pe_callB call_len_seq rfl ml PySem.boot_len (pa_cons (pe_ix ix_tup (pv 1) pe_int (fun _ _=>rfl)) pa_nil)) pa_nil)))))),?_⟩
 refine⟨_,rfl,p,fx,hs,ys,lead,m,rfl,G.ok,hPl,Pl,fun H1 s1=>⟨rfl,_,rfl,?_⟩⟩
 have e0:decide (V.int ((m:Nat):Int)=V.int 0)=decide (m=0):=natLit (n:=0) rfl
 refine chg e0 ?_
 have q1:=q H1 s1
 unfold turnV at q1
 by_cases c:m=0
 ·rw[if_pos c] at q1
  rw[decide_eq_true c]
  exact iteT q1
 ·rw[if_neg c] at q1
  rw[decide_eq_false c]
  obtain⟨hp,tp,h1,h2,h3⟩:=hPl.same s1
  refine iteF ⟨_,rfl,_,rfl,p,_,_,_,rfl,rfl,SqT.of h1,(rfl:atI [V.ref hp,V.int (lead:Nat),V.ref tp] 1=some (V.int (lead:Nat))),_,rfl,p,_,_,_,rfl,rfl,SqT.of h1,(rfl:atI [V.ref hp,V.int (lead:Nat),V.ref tp] 2=some (V.ref tp)),tp,_,rfl,.inr (SqT.of h3),gm,x,t,fx,lead,ys.length,?_,G.same s1,q1⟩
  show [V.ref gm,V.int (lead:Nat),V.int (((vN ys).length:Nat):Int)]=_
  rw[vN_len]
def mayL(f:Fx)(t:Option Nat)(ys:List Nat)(h:Nat):List Nat:=cardsN (hN (if ys=[] then cardsN h else alw f.d f t ys (cardsN h)))
theorem may_in{f:Fx}{t:Option Nat}{ys:List Nat}{h c:Nat}(h32:h < 4294967296)(hc:c∈mayL f t ys h):h.testBit c=true∧c < 32:=by
 unfold mayL at hc
 have sub:∀ x∈(if ys=[] then cardsN h else alw f.d f t ys (cardsN h)),x∈cardsN h:=fun x hx=>by
  by_cases e:ys=[]
  ·rw[if_pos e] at hx;exact hx
  ·rw[if_neg e] at hx;exact alw_sub _ _ _ _ _ x hx
 have l32:∀ x∈(if ys=[] then cardsN h else alw f.d f t ys (cardsN h)),x < 32:=fun x hx=>cards_lt (sub x hx)
 have m:=sub c ((hN_cards l32 c).mp hc)
 exact⟨(mem_cards h32).mp m,cards_lt m⟩
theorem orL_ne'{a b:List Nat}(h:b≠[]):orL a b≠[]:=by
 unfold orL
 split
 ·exact h
 ·assumption
theorem alw_ne'{d:_root_.Fin 4}{f:Fx}{t:Option Nat}{ys cs:List Nat}(h:cs≠[]):alw d f t ys cs≠[]:=by
 match d with
 | 0=>exact h
 | 1=>exact orL_ne' h
 | 2=>exact orL_ne' (orL_ne' h)
 | 3=>exact orL_ne' (orL_ne' (orL_ne' h))
theorem may_ne{f:Fx}{t:Option Nat}{ys:List Nat}{h:Nat}(hm:0 < pcK 32 h):mayL f t ys h≠[]:=by
 have cn:cardsN h≠[]:=fun z=>by
  have e:pcK 32 h=(cardsN h).length:=rfl
  rw[e,z] at hm
  exact absurd hm (Nat.lt_irrefl _)
 have sub:∀ x∈(if ys=[] then cardsN h else alw f.d f t ys (cardsN h)),x∈cardsN h:=fun x hx=>by
  by_cases e:ys=[]
  ·rw[if_pos e] at hx;exact hx
  ·rw[if_neg e] at hx;exact alw_sub _ _ _ _ _ x hx
 have ne:(if ys=[] then cardsN h else alw f.d f t ys (cardsN h))≠[]:=by
  by_cases e:ys=[]
  ·rw[if_pos e];exact cn
  ·rw[if_neg e];exact alw_ne' cn
 obtain⟨c,hc⟩:=List.exists_mem_of_ne_nil _ ne
 intro z
 have m:=(hN_cards (fun x hx=>cards_lt (sub x hx)) c).mpr hc
 unfold mayL at z
 rw[z] at m
 exact nomatch m
def moveL(f:Fx)(t:Option Nat)(hs:List Nat)(lead:Nat)(ys:List Nat)(m:Nat):List Nat:=if m=0 then [] else mayL f t ys (hs.getD ((lead+ys.length) % f.n) 0)
def spMoves(CT CG:Addr):Sp:=fun vs H Q _=>∃(gm x p:Addr) (t:Option Nat) (fx:Fx) (hs ys:List Nat) (lead m:Nat),vs=[.ref gm,.ref p]∧GamH CT CG fx t H gm x∧TrB t∧IsPl H p hs lead ys∧Plc fx hs lead ys m ∧
 ∀ l H',Same H H'→H l=none→H' l=some (.lst (vN (moveL fx t hs lead ys m)))→Q (.ref l) H'
theorem scMoves:FnScope ["game","place","seat"] ["game","place"] (defScope sMoves):=⟨rfl,rfl,rfl,by decide +kernel,rfl,by decide +kernel,by decide +kernel⟩
theorem Plc.beg{f:Fx}{hs ys:List Nat}{lead m h:Nat}(ok:f.Ok)(Pl:Plc f hs lead ys m)(hh:h∈hs):ys=[]∨Beg f ys (cardsN h):=by
 by_cases e:ys=[]
 ·exact .inl e
 ·have h32:=Pl.h32 ok hh
  have yl:=Pl.yl
  have n4:f.n≤4:=by rcases ok.n34 with z | z<;>omega
  have s4:=ok.s4
  refine .inr ⟨List.length_pos_iff.mpr e,by omega,fun c hc=>?_,fun c hc=>?_⟩
  ·have:=Pl.pk c (cnt_card hc)
   omega
  ·have:=Pl.pk c (cnt_hand (ys:=ys) hh ((mem_cards h32).mp hc))
   exact⟨cards_lt hc,this.2⟩
theorem ok_moves{k:Nat}{CT CG f1 f2 m3:Addr}{d1 d2 e3:FuncData}(F:Fun K "moves" "moves" sMoves f fd)(CGm:GamC K mg CG)(LT:Lib P w K mg base k "turn_at" ["game","place"] (spTurnAt CT CG) f1 d1)(LC:Lib P w K mg base k "cards_in" ["hand"] (spCardsIn K) f2 d2)
  (MM:Meth K CG "may" m3) (FM:FnOk P w K mg base CX0 k m3 e3 ["self","hand","trick"] (spMay K CT CG)) (BM:Binds K e3 ["self","hand","trick"] []):FnOk P w K mg base CX0 (k+1) f fd ["game","place"] (spMoves CT CG):=by
 refine F.ok scMoves (fun vs H Q E h=>?_) (fun cdv A outer s H vs Q E hr h=>?_)
 ·obtain⟨gm,x,p,t,fx,hs,ys,lead,m,rfl,_⟩:=h
  rfl
 obtain⟨gm,x,p,t,fx,hs,ys,lead,m,rfl,G,tb,hPl,Pl,q⟩:=h
 refine⟨_,pss_cons (ps_set (i:=2) scMoves.nd rfl (Or.inl rfl) (pe_call LT.ok hr rfl LT.mg LT.kp LT.bd .nil pass0 (pa_cons (pv 0) (pa_cons (pv 1) pa_nil))))
  (pss_cons (ps_if (pt_cmpR op_isN (pv 2) pe_non (nomark _)) (pss_one (ps_ret (pe_lst pa_nil))) pss_nil)
  (pss_one (ps_ret (pe_call LC.ok hr rfl LC.mg LC.kp LC.bd .nil pass0 (pa_cons (pe_meth (pv 0) CGm.cl MM FM hr BM .nil pass0 (pa_cons (pe_ix ix_tup (pe_ix ix_tup (pv 1) pe_int (fun _ _=>rfl)) (pv 2) (fun _ _=>rfl)) (pa_cons (pe_ix ix_tup (pv 1) pe_int (fun _ _=>rfl)) pa_nil))) pa_nil))))),?_⟩
 refine⟨_,rfl,_,rfl,gm,x,p,t,fx,hs,ys,lead,m,rfl,G,hPl,Pl,fun H1 s1=>?_⟩
 by_cases c:m=0
 ·have e:turnV fx lead ys m = .non:=by unfold turnV;rw[if_pos c]
  rw[e]
  refine⟨_,rfl,rfl,_,rfl,chg (decide_eq_true rfl:decide (V.non=V.non)=true) (iteT ⟨fits3 0 (by decide),fun l hl=>q l _ (s1.trans (same_upd hl _)) (s1.free hl) ?_⟩)⟩
  rw[upd_same]
  unfold moveL
  rw[if_pos c]
  rfl
 ·have e:turnV fx lead ys m = .int (((lead+ys.length) % fx.n:Nat):Int):=by unfold turnV;rw[if_neg c]
  rw[e]
  refine⟨_,rfl,rfl,_,rfl,chg (decide_eq_false (fun z=>nomatch z):decide (V.int (((lead+ys.length) % fx.n:Nat):Int)=V.non)=false) (iteF ?_)⟩
  obtain⟨h,eh,_⟩:=Pl.turn G.ok
  have hh:h∈hs:=List.mem_of_getElem? eh
  have h32:=Pl.h32 G.ok hh
  obtain⟨hp,tp,h1,h2,h3⟩:=hPl.same s1
  obtain⟨dg,hG⟩:=(G.same s1).g
  have eN:hN (cardsN h)=h:=orAll_eq h32 fun _=>Iff.rfl
  refine⟨_,rfl,gm,dg,_,rfl,hG,gam_none _ _ _ (by decide +kernel) (by decide +kernel),_,rfl,p,_,_,_,rfl,rfl,SqT.of h1,(rfl:atI [V.ref hp,V.int (lead:Nat),V.ref tp] 0=some (V.ref hp)),_,rfl,hp,_,_,_,rfl,rfl,SqT.of h2,vN_at eh,
   _,rfl,p,_,_,_,rfl,rfl,SqT.of h1,(rfl:atI [V.ref hp,V.int (lead:Nat),V.ref tp] 2=some (V.ref tp)),gm,x,tp,t,fx,ys,cardsN h,?_,G.ok,(G.same s1).g,(G.same s1).t,tb,SqT.of h3,Pl.beg G.ok hh,fun H2 s2=>?_⟩
  ·rw[eN]
   rfl
  ·have sub:∀ y∈(if ys=[] then cardsN h else alw fx.d fx t ys (cardsN h)),y < 32:=fun y hy=>by
    by_cases e:ys=[]
    ·rw[if_pos e] at hy;exact cards_lt hy
    ·rw[if_neg e] at hy;exact cards_lt (alw_sub _ _ _ _ _ y hy)
   refine⟨_,rfl,hN_lt sub,fun l H3 s3 hl hL=>q l H3 (s1.trans (s2.trans s3)) ((s1.trans s2).free hl) ?_⟩
   rw[hL]
   unfold moveL mayL
   rw[if_neg c,List.getD_eq_getElem?_getD,eh]
   rfl
def tkV:Option Nat→V
 | none=>.non
 | some i=>.int (i:Nat)
structure Nxt(f:Fx)(t:Option Nat)(hs:List Nat)(lead:Nat)(ys:List Nat)(h c:Nat)(hs':List Nat)(lead':Nat)(ys':List Nat)(tk:Option Nat):Prop where
 hand:hs'=hs.set ((lead+ys.length) % f.n) (h ^^^ 2 ^ c)
 go:ys.length+1 < f.n→lead'=lead∧ys'=ys++[c]∧tk=none
 full:ys.length+1=f.n→ys'=[]∧tk=some lead'∧∃ i,Win f t (ledOf (ys++[c])) (ys++[c]) i∧lead'=(lead+i) % f.n
def spBehind(K:PySem.W.Frag)(CT CG:Addr):Sp:=fun vs H Q _=>∃(gm x p:Addr) (t:Option Nat) (fx:Fx) (hs ys:List Nat) (lead m h c:Nat),vs=[.ref gm,.ref p,.int (c:Nat)]∧GamH CT CG fx t H gm x∧IsPl H p hs lead ys∧Plc fx hs lead ys m∧hs[(lead+ys.length) % fx.n]? = some h∧h.testBit c=true ∧
 ∀ r p' hs' lead' ys' tk H',Same H H'→Nxt fx t hs lead ys h c hs' lead' ys' tk→H' r=some (.tup [.ref p',tkV tk])→IsPl H' p' hs' lead' ys'→Q (.ref r) H'
abbrev nBehind:List Str:=["game","place","card","seat","hands","trick","taker"]
theorem scBehind:FnScope nBehind ["game","place","card"] (defScope sBehind):=⟨rfl,rfl,rfl,by decide +kernel,rfl,by decide +kernel,by decide +kernel⟩
theorem ok_behind{k:Nat}{CT CG f1 m3:Addr}{d1 e3:FuncData}(F:Fun K "behind" "behind" sBehind f fd)(C:TabC K mg CT)(CGm:GamC K mg CG)(LR:Lib P w K mg base k "seat_round" ["game","lead","steps"] (spRound CT CG) f1 d1)
  (MW:Meth K CG "winner" m3) (FW:FnOk P w K mg base CX0 k m3 e3 ["self","trick"] (spWinner K CT CG)) (BW:Binds K e3 ["self","trick"] []) (ml:mg "len" = none) (mLi:mg "list" = none) (mT:mg "tuple" = none):FnOk P w K mg base CX0 (k+1) f fd ["game","place","card"] (spBehind K CT CG):=by
 refine F.ok scBehind (fun vs H Q E h=>?_) (fun cdv A outer s H vs Q E hr h=>?_)
 ·obtain⟨gm,x,p,t,fx,hs,ys,lead,m,h,c,rfl,_⟩:=h
  rfl
 obtain⟨gm,x,p,t,fx,hs,ys,lead,m,h,c,rfl,G,hPl,Pl,eh,hc,q⟩:=h
 obtain⟨hp,tp,h1,h2,h3⟩:=id hPl
 refine⟨_,pss_cons (ps_set (i:=3) scBehind.nd rfl (Or.inl rfl) (pe_call LR.ok hr rfl LR.mg LR.kp LR.bd .nil pass0 (pa_cons (pv 0) (pa_cons (pe_ix ix_tup (pv 1) pe_int (fun _ _=>rfl)) (pa_cons (pe_callB call_len_seq rfl ml PySem.boot_len (pa_cons (pe_ix ix_tup (pv 1) pe_int (fun _ _=>rfl)) pa_nil)) pa_nil)))))
  (pss_cons (ps_set (i:=4) scBehind.nd rfl (Or.inl rfl) (pe_callTy call_list_of rfl mLi PyProof.Rows.boot_list (pa_cons (pe_ix ix_tup (pv 1) pe_int (fun _ _=>rfl)) pa_nil)))
  (pss_cons (ps_asg (pe_op op_xor (pe_ix ix_list (pv 4) (pv 3) (fun _ _=>rfl)) (pe_op op_shl pe_int (pv 2))) (pg_sub (pv 4) (pv 3) set_list))
  (pss_cons (ps_set (i:=5) scBehind.nd rfl (Or.inl rfl) (pe_op op_catG (pe_ix ix_tup (pv 1) pe_int (fun _ _=>rfl)) (pe_tup (pa_cons (pv 2) pa_nil))))
  (pss_cons (ps_if (pt_cmpR op_lt (pe_callB call_len_seq rfl ml PySem.boot_len (pa_cons (pv 5) pa_nil)) (pe_fld (pe_fld (pv 0) rfl) rfl) (nomark _))
   (pss_one (ps_ret (pe_tup (pa_cons (pe_tup (pa_cons (pe_callTy call_tuple_of rfl mT PyProof.Rows.boot_tuple (pa_cons (pv 4) pa_nil)) (pa_cons (pe_ix ix_tup (pv 1) pe_int (fun _ _=>rfl)) (pa_cons (pv 5) pa_nil)))) (pa_cons pe_non pa_nil))))) pss_nil)
  (pss_cons (ps_set (i:=6) scBehind.nd rfl (Or.inl rfl) (pe_call LR.ok hr rfl LR.mg LR.kp LR.bd .nil pass0 (pa_cons (pv 0) (pa_cons (pe_ix ix_tup (pv 1) pe_int (fun _ _=>rfl)) (pa_cons (pe_meth (pv 0) CGm.cl MW FW hr BW .nil pass0 (pa_cons (pv 5) pa_nil)) pa_nil)))))
  (pss_one (ps_ret (pe_tup (pa_cons (pe_tup (pa_cons (pe_callTy call_tuple_of rfl mT PyProof.Rows.boot_tuple (pa_cons (pv 4) pa_nil)) (pa_cons (pv 6) (pa_cons (pe_tup pa_nil) pa_nil)))) (pa_cons (pv 6) pa_nil)))))))))),?_⟩
 have ok:=G.ok
 have n4:fx.n≤4:=by rcases ok.n34 with e | e<;>omega
 have yl:=Pl.yl
 have hm:h∈hs:=List.mem_of_getElem? eh
 have c32:=Pl.b32 ok (cnt_hand (ys:=ys) hm hc)
 refine⟨_,rfl,_,rfl,p,_,_,_,rfl,rfl,SqT.of h1,(rfl:atI [V.ref hp,V.int (lead:Nat),V.ref tp] 1=some (V.int (lead:Nat))),_,rfl,p,_,_,_,rfl,rfl,SqT.of h1,(rfl:atI [V.ref hp,V.int (lead:Nat),V.ref tp] 2=some (V.ref tp)),tp,_,rfl,.inr (SqT.of h3),gm,x,t,fx,lead,ys.length,(by show [V.ref gm,V.int (lead:Nat),V.int (((vN ys).length:Nat):Int)]=_;rw[vN_len]),G,?_⟩
 refine⟨_,rfl,p,_,_,_,rfl,rfl,SqT.of h1,(rfl:atI [V.ref hp,V.int (lead:Nat),V.ref tp] 0=some (V.ref hp)),hp,_,rfl,.inr (SqT.of h2),fun l hl=>?_⟩
 have s1:=same_upd hl (.lst (vN hs))
 refine⟨_,rfl,_,rfl,l,_,_,_,rfl,rfl,SqL.of upd_same,vN_at eh,_,rfl,_,_,rfl,rfl,⟨by omega,by omega,by decide⟩,_,_,rfl,rfl,?_⟩
 refine⟨_,rfl,_,rfl,l,_,_,(lead+ys.length) % fx.n,rfl,rfl,upd_same,ixN_nat (by rw[vN_len];exact(List.getElem?_eq_some_iff.mp eh).1),?_⟩
 have eS:(vN hs).set ((lead+ys.length) % fx.n) (V.int (Builtin.bitXor ((h:Nat):Int) ((1:Int) * 2 ^ (((c:Nat):Int)).toNat)))=vN (hs.set ((lead+ys.length) % fx.n) (h ^^^ 2 ^ c)):=by
  rw[shl_nat,xorN,vN_set]
 have s2:Same H (upd (upd H l (.lst (vN hs))) l (.lst (vN (hs.set ((lead+ys.length) % fx.n) (h ^^^ 2 ^ c))))):=by
  rw[upd_upd]
  exact same_upd hl _
 show tSeq _ _ _ _ (upd (upd H l (.lst (vN hs))) l (.lst ((vN hs).set ((lead+ys.length) % fx.n) (V.int (Builtin.bitXor ((h:Nat):Int) ((1:Int) * 2 ^ (((c:Nat):Int)).toNat))))))
 rw[eS]
 have hL2:upd (upd H l (.lst (vN hs))) l (.lst (vN (hs.set ((lead+ys.length) % fx.n) (h ^^^ 2 ^ c)))) l=some (.lst (vN (hs.set ((lead+ys.length) % fx.n) (h ^^^ 2 ^ c)))):=upd_same
 generalize upd (upd H l (.lst (vN hs))) l (.lst (vN (hs.set ((lead+ys.length) % fx.n) (h ^^^ 2 ^ c))))=H2 at s2 hL2 ⊢
 refine⟨_,rfl,p,_,_,_,rfl,rfl,SqT.of (s2 _ _ h1),(rfl:atI [V.ref hp,V.int (lead:Nat),V.ref tp] 2=some (V.ref tp)),_,rfl,fits3 1 (by decide),fun c1 hc1=>?_⟩
 have s3:=s2.trans (same_upd hc1 (.tup [.int (c:Nat)]))
 refine⟨tp,c1,_,_,rfl,rfl,s3 _ _ h3,upd_same,fits3 _ (by rw[vN_len];show ys.length+1≤1000;omega),fun tq H4 s4 hq4=>?_⟩
 have eY:vN ys++[V.int (c:Nat)]=vN (ys++[c]):=by unfold vN;rw[List.map_append];rfl
 rw[eY] at hq4
 have s5:=s3.trans s4
 have hL4:H4 l=some (.lst (vN (hs.set ((lead+ys.length) % fx.n) (h ^^^ 2 ^ c)))):=s4 _ _ (same_upd hc1 _ _ _ hL2)
 obtain⟨dg,hg⟩:=(G.same s5).g
 obtain⟨dx,po,to,hx,_,_⟩:=(G.same s5).t
 have e2:decide ((((vN (ys++[c])).length:Nat):Int) < ((fx.n:Nat):Int))=decide (ys.length+1 < fx.n):=by
  rw[vN_len,List.length_append,List.length_singleton]
  exact decide_eq_decide.mpr ⟨fun z=>by omega,fun z=>by omega⟩
 refine⟨_,rfl,tq,_,rfl,.inr (SqT.of hq4),_,rfl,gm,CG,dg,_,_,rfl,hg,CGm.cl,CGm.nT,gam_table _ _,x,CT,dx,_,_,rfl,hx,C.cl,C.nN,look7_seats _ _ _,_,_,rfl,rfl,_,rfl,chg e2 ?_⟩
 by_cases cl:ys.length+1 < fx.n
 ·rw[decide_eq_true cl]
  refine iteT ⟨_,rfl,l,_,rfl,.inl ⟨SqL.of hL4,fun th hth=>?_⟩⟩
  have s6:=s5.trans (same_upd hth (.tup (vN (hs.set ((lead+ys.length) % fx.n) (h ^^^ 2 ^ c)))))
  refine⟨_,rfl,p,_,_,_,rfl,rfl,SqT.of (s6 _ _ h1),(rfl:atI [V.ref hp,V.int (lead:Nat),V.ref tp] 1=some (V.int (lead:Nat))),_,rfl,fits3 3 (by decide),fun pp hpp=>⟨fits3 2 (by decide),fun r hr1=>?_⟩⟩
  have a1:=same_upd hpp (.tup [.ref th,.int (lead:Nat),.ref tq])
  have a2:=same_upd hr1 (.tup [.ref pp,.non])
  refine q r pp _ lead (ys++[c]) none _ (s6.trans (a1.trans a2)) ⟨rfl,fun _=>⟨rfl,rfl,rfl⟩,fun z=>absurd z (by omega)⟩ upd_same ⟨th,tq,a2 _ _ upd_same,a2 _ _ (a1 _ _ upd_same),a2 _ _ (a1 _ _ ?_)⟩
  exact same_upd hth _ _ _ hq4
 ·have cl2:ys.length+1=fx.n:=by omega
  rw[decide_eq_false cl]
  have T:Trk fx (ys++[c]):=by
   refine⟨?_,fun y hy=>?_,by rw[List.length_append];exact Nat.succ_pos _⟩
   ·refine List.nodup_append.mpr ⟨Pl.nd,List.nodup_cons.mpr ⟨List.not_mem_nil,List.nodup_nil⟩,fun y hy z hz=>?_⟩
    rw[List.mem_singleton.mp hz]
    intro e
    subst e
    have:=Pl.apart hm hy
    rw[hc] at this
    cases this
   ·rcases List.mem_append.mp hy with z | z
    ·exact(Pl.pk y (cnt_card z)).2
    ·rw[List.mem_singleton.mp z]
     exact(Pl.pk c (cnt_hand (ys:=ys) hm hc)).2
  refine iteF ⟨_,rfl,_,rfl,p,_,_,_,rfl,rfl,SqT.of (s5 _ _ h1),(rfl:atI [V.ref hp,V.int (lead:Nat),V.ref tp] 1=some (V.int (lead:Nat))),_,rfl,gm,dg,_,rfl,hg,gam_none _ _ _ (by decide +kernel) (by decide +kernel),_,rfl,gm,x,tq,t,fx,ys++[c],rfl,ok,(G.same s5).g,(G.same s5).t,SqT.of hq4,T,fun i H5 t5 W=>?_⟩
  have s6:=s5.trans t5
  refine⟨gm,x,t,fx,lead,i,rfl,G.same s6,?_⟩
  refine⟨_,rfl,l,_,rfl,.inl ⟨SqL.of (t5 _ _ hL4),fun th hth=>?_⟩⟩
  have a0:=same_upd hth (.tup (vN (hs.set ((lead+ys.length) % fx.n) (h ^^^ 2 ^ c))))
  refine⟨_,rfl,fits3 0 (by decide),fun tz htz=>⟨fits3 3 (by decide),fun pp hpp=>⟨_,rfl,fits3 2 (by decide),fun r hr1=>?_⟩⟩⟩
  have a1:=same_upd htz (.tup [])
  have a2:=same_upd hpp (.tup [.ref th,.int (((lead+i) % fx.n:Nat):Int),.ref tz])
  have a3:=same_upd hr1 (.tup [.ref pp,.int (((lead+i) % fx.n:Nat):Int)])
  exact q r pp _ ((lead+i) % fx.n) [] (some ((lead+i) % fx.n)) _ (s6.trans (a0.trans (a1.trans (a2.trans a3)))) ⟨rfl,fun z=>absurd z (by omega),fun _=>⟨rfl,rfl,i,W,rfl⟩⟩ upd_same ⟨th,tz,a3 _ _ upd_same,a3 _ _ (a2 _ _ (a1 _ _ upd_same)),a3 _ _ (a2 _ _ upd_same)⟩
end
end My
namespace My
open PySem L2
section
variable{fx:Fx}{t:Option Nat}{hs ys hs' ys':List Nat}{lead lead' m h c:Nat}{tk:Option Nat}
theorem Nxt.plc(ok:fx.Ok)(Pl:Plc fx hs lead ys m)(eh:hs[(lead+ys.length) % fx.n]? = some h)(hc:h.testBit c=true)(N:Nxt fx t hs lead ys h c hs' lead' ys' tk) :
  ∃ m',Plc fx hs' lead' ys' m'∧hs'.sum+2 ^ c=hs.sum∧(hs'.map (pcK 32)).sum+1=(hs.map (pcK 32)).sum∧0 < m∧((tk=none∧m'=m∧lead'=lead∧ys'=ys++[c]∧ys.length+1 < fx.n)∨(tk=some lead'∧m'+1=m∧ys'=[]∧lead' < fx.n)):=by
 obtain⟨A,S1,S2,m0,g1,g2⟩:=Pl.step ok eh hc
 have yl:=Pl.yl
 by_cases cl:ys.length+1 < fx.n
 ·obtain⟨e1,e2,e3⟩:=N.go cl
  rw[N.hand,e1,e2]
  exact⟨m,g1 cl,S1,S2,m0,.inl ⟨e3,rfl,rfl,rfl,cl⟩⟩
 ·have cl2:ys.length+1=fx.n:=by omega
  obtain⟨e1,e2,i,_,e3⟩:=N.full cl2
  have ll:lead' < fx.n:=by rw[e3];exact seat_lt ok _ _
  rw[N.hand,e1]
  exact⟨m - 1,g2 cl2 lead' ll,S1,S2,m0,.inr ⟨e2,by omega,rfl,ll⟩⟩
theorem trk_nd(Pl:Plc fx hs lead ys m)(eh:hs[(lead+ys.length) % fx.n]? = some h)(hc:h.testBit c=true):(ys++[c]).Nodup:=by
 refine List.nodup_append.mpr ⟨Pl.nd,List.nodup_cons.mpr ⟨List.not_mem_nil,List.nodup_nil⟩,fun y hy z hz=>?_⟩
 rw[List.mem_singleton.mp hz]
 intro e
 subst e
 have:=Pl.apart (List.mem_of_getElem? eh) hy
 rw[hc] at this
 cases this
theorem Nxt.uniq(Pl:Plc fx hs lead ys m)(eh:hs[(lead+ys.length) % fx.n]? = some h)(hc:h.testBit c=true)(N:Nxt fx t hs lead ys h c hs' lead' ys' tk){hs2 ys2:List Nat}{lead2:Nat}{tk2:Option Nat}(M:Nxt fx t hs lead ys h c hs2 lead2 ys2 tk2) :
  hs'=hs2∧lead'=lead2∧ys'=ys2∧tk=tk2:=by
 have yl:=Pl.yl
 refine⟨N.hand.trans M.hand.symm,?_⟩
 by_cases cl:ys.length+1 < fx.n
 ·obtain⟨e1,e2,e3⟩:=N.go cl
  obtain⟨d1,d2,d3⟩:=M.go cl
  exact⟨e1.trans d1.symm,e2.trans d2.symm,e3.trans d3.symm⟩
 ·have cl2:ys.length+1=fx.n:=by omega
  obtain⟨e1,e2,i,W,e3⟩:=N.full cl2
  obtain⟨d1,d2,j,V,d3⟩:=M.full cl2
  have ij:=win_uniq (trk_nd Pl eh hc) W V
  subst ij
  have el:lead'=lead2:=e3.trans d3.symm
  exact⟨el,e1.trans d1.symm,by rw[e2,d2,el]⟩
end
theorem eq_int(a b:Int):decide (V.int a=V.int b)=decide (a=b):=decide_eq_decide.mpr ⟨fun h=>by injection h,fun h=>by rw[h]⟩
section
variable{P:Program}{w:World}{K:PySem.W.Frag}{mg:Str→Option Value}{base:Heap}{f g:Addr}{fd gd:FuncData}
theorem tup_ne{H:Hp}{p q:Addr}{xs:List V}{o:HO}(h:H p=some (.tup xs))(hq:H q=some o)(n:∀ ys,o ≠ .tup ys):p≠q:=fun z=>by
 rw[z,hq] at h
 exact n _ (Option.some.inj h)
end
end My
namespace L2
open PySem PySem.Spec PyProof.Rows
section
variable{κ:Type} [DecidableEq κ]
theorem RelO.isSome_eq{o:Option V}{u:Option Value}(r:RelO o u):o.isSome=u.isSome:=by
 cases o with
 | none=>cases u with
  | none=>rfl
  | some _=>exact(show False from r).elim
 | some _=>cases u with
  | none=>exact(show False from r).elim
  | some _=>rfl
theorem RelO.getD{o:Option V}{u:Option Value}{d:V}{d':Value}(r:RelO o u)(rd:RelV d d'):RelV (o.getD d) (u.getD d'):=by
 cases o with
 | none=>cases u with
  | none=>exact rd
  | some _=>exact(show False from r).elim
 | some _=>cases u with
  | none=>exact(show False from r).elim
  | some _=>exact r
end
theorem kV_is{P:Program}{w:World}{k:Key}{u:Value}(r:RelV (kV k) u):(mixKind P w).is k u=true:=by
 cases k with
 | inl i=>obtain⟨t,e⟩:=(show ∃ t,u=Value.int i t from r);subst e;exact mixKind_int P w i t
 | inr x=>obtain⟨t,e⟩:=(show ∃ t,u=Value.str x t from r);subst e;exact mixKind_str P w x t
theorem items_are{P:Program}{w:World}:∀{ks:List Key} {us:List Value},Vals (ks.map kV) us→ItemsAre (mixKind P w) ks us
 | [],_,r=>by rw[List.map_nil] at r;cases r;exact .nil
 | k :: ks,_,r=>by
  rw[List.map_cons] at r
  cases r with
  | cons h t=>exact .cons (kV_is h) (items_are t)
section
variable{P:Program}{w:World}{H:Hp}{h:Heap}{a:Addr}
theorem key_of{ks:List Key}(ok:HOk P w H h)(e:H a=some (.tup (ks.map kV))):(tupleKind (mixKind P w)).is h ks a:=by
 obtain⟨_,its,r,o,h1,h2,n,h3⟩:=(show ObjOk P w H h a (.tup (ks.map kV)) from ok a _ e)
 exact⟨o,its.toArray,n,h1,h2,h3,by simpa using items_are r⟩
end
section
variable{X:Cx}{pins:List (Addr×Obj)}{σ:St}{H:Hp}{s:Shared}{a:Addr}{y v:V}{u r:Value}{o:Option V}{A:Around}{E:Value→Shared→Prop}
theorem Inv.big(I:Inv X pins σ H s):sysModules < s.heap.objs.size:=by
 have h:mainGlobals < s.heap.objs.size:=(I.mod.glob.keeps I.bk).lt
 exact Nat.lt_trans (by decide) h
theorem d_write{h':Heap}{t':Nat}{ob:HO}(I:Inv X pins σ H s)(mu:Mut (H a))(hs:Heap.SameBut a s.heap h')(he:∃ q,h'.get? a=some q)(new:ObjOk X.prog X.w (upd H a ob) h' a ob) :
  Inv X pins σ (upd H a ob) { s with heap:=h',toks:=t' }:=
 I.write (x:=a) (e:=a) mu (.inl rfl) (fun b q hb z=>(hs.2 b hb).trans z) he new
end
section
variable{X:Cx}{pins:List (Addr×Obj)}{σ:St}{H:Hp}{s:Shared}{a:Addr}{kvs:List (Key×V)}{k:Key}{u:Value}{A:Around}{E:Value→Shared→Prop}
end
section
variable{X:Cx}{o i e value:Expr}{pos pos' tpos:Pos}{td ty tv:TE}
end
section
variable{X:Cx}{pos:Pos}
end
structure M2(X:Cx)(o:Expr)(m:Str)(apos:Pos)(e f:Expr)(cpos:Pos):Prop where
 base:attributeBase o m X.env (eval o X.env)=eval o X.env
 few:((backTo cpos (starEach [e,f] X.env)).all (fun x=>!x.1) && (backToKw cpos (keywordEach [] X.env)).all (fun x=>x.1.isSome)
  && decide (([e,f]:List Expr).length+([]:List Keyword).length+(if([]:List Keyword).isEmpty then 0 else 1) < 30))=true
 line:(apos.endLine == cpos.line)=true
 trees:backTo cpos (starEach [e,f] X.env)=[(false,eval e X.env),(false,eval f X.env)]
section
variable{X:Cx}{pins:List (Addr×Obj)}{σ:St}{H:Hp}{s:Shared}{a:Addr}{y d:V}{u r:Value}{o:Option V}{A:Around}{E:Value→Shared→Prop}
end
section
variable{X:Cx}{o e f:Expr}{apos cpos:Pos}{td ty tx:TE}
end
section
variable{X:Cx}{pins:List (Addr×Obj)}{σ:St}{H:Hp}{s:Shared}{a:Addr}{kvs:List (Key×V)}{A:Around}{E:Value→Shared→Prop}
end
section
variable{X:Cx}{pins:List (Addr×Obj)}{σ:St}{H:Hp}{s:Shared}{a:Addr}{y:V}{u:Value}{A:Around}{E:Value→Shared→Prop}
end
end L2
namespace L2
open PySem PySem.Spec PyProof.Rows
end L2
namespace L2
open PySem PySem.Spec PyProof.Rows
theorem op_isntB{X:Cx}:OpR X (compareOp .IsNot) (fun x y H Q=>∃ a b,x = .bl a∧y = .bl b∧Q (.bl (!(a == b))) H):=by
 intro pins s σ H x y v u Q I rx ry h
 obtain⟨a,b,rfl,rfl,q⟩:=h
 cases rx
 cases ry
 have e:(compareOp .IsNot (.bool a) (.bool b):Sem Value)=pure (.bool (!(a == b))):=by cases a<;>cases b<;>rfl
 rw[e]
 exact wpAny_pure ⟨.bl _,H,I,rfl,q⟩
end L2
namespace L2
open PySem PySem.Spec PyProof.Rows
section
variable{prog:Program}{w:World}{A:Around}{R:Result→Shared→Prop}{I:Addr}{fp wr:List Addr}{n:Nat}{P:Nat→Value→Prop}{St:Nat→Heap→Prop}
end
end L2
namespace L2
open PySem PySem.Spec PyProof.Rows
section
variable{X:Cx}{pins:List (Addr×Obj)}{σ:St}{H:Hp}{s:Shared}
end
end L2
namespace L2
open PySem PySem.Spec PyProof.Rows
section
variable{X:Cx}{pins:List (Addr×Obj)}{σ:St}{H:Hp}{s:Shared}
end
def relS(scope sc:Scope):Scope:=
 { scope with names:=scope.names.map fun(n,k)=>if(k == .free && sc.kind == .function && sc.names.lookup n == some .cell) then(n,.cell) else(n,k) }
theorem pi_listK{X:Cx}{tg:Expr}(K:PySem.W.Frag)(hK:X.K=K){l:Expr}{tl:TE}(hl:PE X l tl):PI X tg l (iList K tl):=by
 subst hK
 exact pi_list hl
end L2
namespace L2
open PySem PySem.Spec PyProof.Rows
end L2
namespace L2
open PySem PySem.Spec PyProof.Rows
end L2
namespace L2
open PySem PySem.Spec PyProof.Rows
variable{X:Cx}
end L2
namespace L2
open PySem PySem.Spec PyProof.Rows
end L2
namespace HT
open PySem PySem.Spec PyProof.Rows
section
variable{prog:Program}{w:World}{A:Around}{E:Value→Shared→Prop}{s:Shared}
end
end HT
namespace L2
open PySem PySem.Spec PyProof.Rows
section
variable{X:Cx}
end
end L2
namespace L2
open PySem PySem.Spec PyProof.Rows
section
variable{prog:Program}{w:World}
abbrev PKey:=List Key×Int×List Key
def IsPlK(h:Heap)(k:PKey)(a:Addr):Prop:=∃ o n b c t,h.get? a=some o∧o.cls = .type "tuple"∧o.data = .seq #[.ref b,.int k.2.1 t,.ref c] n∧IsTupleKey (mixKind prog w) h k.1 b∧IsTupleKey (mixKind prog w) h k.2.2 c
variable{A:Around}{E:Value→Shared→Prop}{s:Shared}
def plHash(prog:Program)(w:World)(k:PKey):Int:=reduceHash (Builtin.Tuple.tupleHashOf [tupleKeyHash (mixKind prog w) k.1,(mixKind prog w).hash (.inl k.2.1),tupleKeyHash (mixKind prog w) k.2.2])
theorem IsPlK.typeIs{k:PKey}{a:Addr}(x:IsPlK (prog:=prog) (w:=w) s.heap k a):s.TypeIs (.ref a) "tuple":=let ⟨o,_,_,_,_,ho,hc,_⟩:=x;⟨o,ho,hc⟩
theorem IsPlK.inj{h:Heap}{a:Addr}{x y:PKey}(hx:IsPlK (prog:=prog) (w:=w) h x a)(hy:IsPlK (prog:=prog) (w:=w) h y a):x=y:=by
 obtain⟨o,n,b,c,t,ho,_,hd,h1,h2⟩:=hx
 obtain⟨o',n',b',c',t',ho',_,hd',h1',h2'⟩:=hy
 obtain rfl:o=o':=Option.some.inj (ho.symm.trans ho')
 rw[hd] at hd'
 obtain⟨x1,x2,x3⟩:=x
 obtain⟨y1,y2,y3⟩:=y
 simp only[Data.seq.injEq,Array.mk.injEq,List.cons.injEq,Value.ref.injEq,Value.int.injEq,and_true] at hd'
 obtain⟨⟨rfl,⟨e2,_⟩,rfl⟩,_⟩:=hd'
 simp only at e2 h1 h1' h2 h2'
 subst e2
 rw[h1.inj h1',h2.inj h2']
theorem IsPlK.keeps{h h':Heap}{k:PKey}{a d:Addr}{o:Obj}{es ep}(x:IsPlK (prog:=prog) (w:=w) h k a)(ho:h.get? d=some o)(hd:o.data = .dict es ep)(hs:Heap.SameBut d h h'):IsPlK (prog:=prog) (w:=w) h' k a:=by
 obtain⟨o',n,b,c,t,ho',hc,hd',h1,h2⟩:=x
 have hne:a≠d:=by
  rintro rfl
  obtain rfl:o'=o:=Option.some.inj (ho'.symm.trans ho)
  rw[hd] at hd'
  exact nomatch hd'
 exact⟨o',n,b,c,t,(hs.2 a hne).trans ho',hc,hd',h1.keeps ho hd hs,h2.keeps ho hd hs⟩
theorem wpAny_pyHash_place{k:PKey}{a:Addr}{Q:Int→Shared→Prop}(hu:A.units+8 < cLine)(hk:IsPlK (prog:=prog) (w:=w) s.heap k a)(h:Q (plHash prog w k) { s with toks:=s.toks+(k.1.length+1+1+(k.2.2.length+1)+1) }) :
  wpAny (model prog w) A (pyHash (.ref a)) Q E s:=by
 have hT:=hk.typeIs
 obtain⟨o,n,b,c,t,ho,_,hd,h1,h2⟩:=hk
 unfold pyHash
 first | unfold pyHashByItsType | skip
 first | refine wpAny_bind (wpAny_cRoomFor_or (.inr (by omega)) ?_) | skip
 refine wpAny_bind (wpAny_specialOf hT F.slot_tuple_hash.lookup ?_)
 show wpAny _ _ (if(some (Value.builtin "tuple.__hash__") == some Value.none)=true then _ else _) Q E s
 rw[if_neg (by rw[beq_builtin_none];exact Bool.false_ne_true)]
 refine wpAny_bind (wpAny_specialOf hT F.slot_tuple_hash.lookup ?_)
 show wpAny _ _ (callSpecialIfBoundUnlessNone? (.ref a) "__hash__" _ >>= _) Q E s
 refine wpAny_bind (wpAny_callSpecialIfBoundUnlessNone?_slot hT F.slot_tuple_hash (wpAny_call_entry F.slot_tuple_hash hT F.entry_tuple_hash ?_ (F.args_tuple_hash_1 _)))
 show wpAny _ _ (Builtin.Tuple.tupleItemsOf (.ref a) >>= _) _ _ s
 refine wpAny_bind (wpAny_tupleItemsOf ho hd ?_)
 refine wpAny_bind ?_
 rw[← Array.forIn_toList]
 simp only[List.forIn_cons,List.forIn_nil]
 have hu1:A.in1.units < cLine:=(show A.units+1 < cLine by omega)
 refine wpAny_bind (wpAny_bind (wpAny_pyHash_tuple hu1 h1 (wpAny_pure ?_)))
 refine wpAny_bind (wpAny_bind ((mixKind prog w).pyHash (mixKind_int prog w k.2.1 t) (wpAny_pure ?_)))
 refine wpAny_bind (wpAny_bind (wpAny_pyHash_tuple (s:={ s with toks:=_ }) hu1 h2 (wpAny_pure (wpAny_pure ?_))))
 show wpAny _ _ (retInt (Builtin.Tuple.tupleHashOf [tupleKeyHash (mixKind prog w) k.1,(mixKind prog w).hash (.inl k.2.1),tupleKeyHash (mixKind prog w) k.2.2])) _ _ _
 refine wpAny_ret_mkInt ?_
 generalize ez:Builtin.Tuple.tupleHashOf [tupleKeyHash (mixKind prog w) k.1,(mixKind prog w).hash (.inl k.2.1),tupleKeyHash (mixKind prog w) k.2.2]=z
 have h':Q (reduceHash z) { s with toks:=s.toks+(k.1.length+1+1+(k.2.2.length+1)+1) }:=by rw[← ez];exact h
 show wpAny _ _ (if(decide (-(2:Int) ^ 63≤z) && decide (z < 2 ^ 63))=true then _ else _) Q E _
 unfold reduceHash at h'
 by_cases hr:(decide (-(2:Int) ^ 63≤z) && decide (z < 2 ^ 63))=true
 ·rw[if_pos hr]
  rw[if_pos hr] at h'
  exact wpAny_pure (by simpa [Nat.add_assoc] using h')
 ·rw[if_neg hr]
  rw[if_neg hr] at h'
  exact wpAny_bind (wpAny_rule (wpAny_pure (by simpa [Nat.add_assoc] using h')))
theorem place_eq_tree{x y:PKey}{a b:Addr}{P:PySem.Fin→Shared→Prop}(hu:A.units+8 < cLine)(hx:IsPlK (prog:=prog) (w:=w) s.heap x a)(hy:IsPlK (prog:=prog) (w:=w) s.heap y b)(h:P (.done (.ret (.bool (decide (x=y))))) s) :
  wpAny (model prog w) A (Builtin.«tuple.__eq__» ⟨[.ref a,.ref b],[]⟩) P E s:=by
 have hTb:=hy.typeIs
 obtain⟨oa,na,a1,a2,ta,hoa,_,hda,hx1,hx2⟩:=hx
 obtain⟨ob,nb,b1,b2,tb,hob,_,hdb,hy1,hy2⟩:=hy
 obtain⟨x1,x2,x3⟩:=x
 obtain⟨y1,y2,y3⟩:=y
 simp only at hda hdb hx1 hx2 hy1 hy2
 show wpAny _ _ (isInstance (.ref b) (.type "tuple") >>= _) _ _ s
 refine wpAny_bind (wpAny_isInstance hTb isSubtype_tuple_tuple ?_)
 simp only[Bool.not_true,Bool.false_eq_true,if_false]
 refine wpAny_bind (wpAny_tupleItemsOf hoa hda ?_)
 refine wpAny_bind (wpAny_tupleItemsOf hob hdb ?_)
 refine wpAny_bind ?_
 simp only[List.zip_cons_cons,List.zip_nil_left,List.forIn_cons,List.forIn_nil]
 have no:¬ (x1,x2,x3)=(y1,y2,y3)→P (.done (.ret (.bool false))) s:=fun n=>by
  rw[decide_eq_false n] at h
  exact h
 refine wpAny_bind (wpAny_bind (wpAny_eqBool_tuple (by omega) hx1 hy1 ?_))
 by_cases e1:x1=y1
 case neg=>
  rw[decide_eq_false e1]
  exact wpAny_bind (wpAny_pure (wpAny_pure (wpAny_pure (wpAny_pure (no fun z=>e1 (by injection z))))))
 rw[decide_eq_true e1]
 refine wpAny_pure (wpAny_bind (wpAny_bind ((mixKind prog w).eqBool (a:=.inl x2) (b:=.inl y2) (mixKind_int prog w x2 ta) (mixKind_int prog w y2 tb) ?_)))
 by_cases e2:(Sum.inl x2:Key) = .inl y2
 case neg=>
  rw[decide_eq_false e2]
  exact wpAny_bind (wpAny_pure (wpAny_pure (wpAny_pure (wpAny_pure (no fun z=>e2 (by injection z with z1 z2;injection z2 with z2 z3;rw[z2]))))))
 rw[decide_eq_true e2]
 refine wpAny_pure (wpAny_bind (wpAny_bind (wpAny_eqBool_tuple (by omega) hx2 hy2 ?_)))
 by_cases e3:x3=y3
 case neg=>
  rw[decide_eq_false e3]
  exact wpAny_bind (wpAny_pure (wpAny_pure (wpAny_pure (wpAny_pure (no fun z=>e3 (by injection z with z1 z2;injection z2 with z2 z3))))))
 rw[decide_eq_true e3]
 have e2':x2=y2:=by injection e2
 subst e1 e2' e3
 rw[decide_eq_true rfl] at h
 exact wpAny_pure (wpAny_pure (wpAny_pure h))
theorem wpAny_eqBool_place{x y:PKey}{a b:Addr}{Q:Bool→Shared→Prop}(hu:A.units+9 < cLine)(hx:IsPlK (prog:=prog) (w:=w) s.heap x a)(hy:IsPlK (prog:=prog) (w:=w) s.heap y b)(h:Q (decide (x=y)) s) :
  wpAny (model prog w) A (eqBool (.ref a) (.ref b)) Q E s:=by
 unfold eqBool
 try with_reducible refine wpAny_holding ?_
 show wpAny _ _ (if(Value.ref a == Value.ref b)=true then _ else _) Q E s
 by_cases hab:(Value.ref a == Value.ref b)=true
 ·rw[if_pos hab]
  have e:a=b:=by have:=eq_of_beq hab;injection this
  subst e
  obtain rfl:=hx.inj hy
  exact wpAny_bind (wpAny_rule (wpAny_pure (by simpa using h)))
 ·rw[if_neg hab]
  exact wpAny_bind (wpAny_richCompare_same_room (op:=.Eq) hx.typeIs hy.typeIs F.slot_tuple_eq
   (wpAny_call_entry F.slot_tuple_eq hx.typeIs F.entry_tuple_eq (place_eq_tree (show A.units+1+8 < cLine by omega) hx hy ⟨_,rfl,(fun e=>nomatch e),wpAny_truthy_bool h⟩) (F.args_tuple_eq_2 _ _)) (by omega))
theorem quiet_tuple(n:Nat){ks:List Key}{a:Addr}{Q:Bool→Shared→Prop}(hk:IsTupleKey (mixKind prog w) s.heap ks a)(h:Q true s):wpAny (model prog w) A (eqIsQuiet (n+1) (.ref a)) Q E s:=by
 have hT:=hk.typeIs
 obtain⟨o,items,m,ho,_,hd,hi⟩:=hk
 unfold eqIsQuiet
 refine wpAny_bind (wpAny_specialOf hT F.slot_tuple_eq.lookup ?_)
 show wpAny _ _ (isInstance (.ref a) (.type "tuple") >>= _) _ _ s
 refine wpAny_bind (wpAny_isInstance hT isSubtype_tuple_tuple ?_)
 simp only[Bool.not_true,Bool.false_eq_true,if_false]
 refine wpAny_bind (wpAny_seqItems ho hd ?_)
 refine wpAny_bind ?_
 show wpAny _ _ (forIn items _ _) _ _ s
 rw[← Array.forIn_toList]
 refine wpAny_forIn_list _ (fun rest r s'=>r.1=none∧s'=s∧∀ v∈rest,carriedByValue v=true) _ ?_ ?_ _ _ ⟨rfl,rfl,hi.byValue⟩
 ·rintro v rest r s' ⟨hr,rfl,hall⟩
  rw[eqIsQuiet_byValue _ (hall v List.mem_cons_self)]
  refine wpAny_bind (wpAny_pure ?_)
  simp only[Bool.not_true,Bool.false_eq_true,if_false]
  exact wpAny_pure ⟨rfl,rfl,fun u hu'=>hall u (List.mem_cons_of_mem _ hu')⟩
 ·rintro⟨r1,r2⟩ s' ⟨hr,rfl,_⟩
  simp only at hr
  subst hr
  exact wpAny_pure h
theorem quiet_place{k:PKey}{a:Addr}{Q:Bool→Shared→Prop}(hk:IsPlK (prog:=prog) (w:=w) s.heap k a)(h:Q true s):wpAny (model prog w) A (eqIsQuiet 8 (.ref a)) Q E s:=by
 have hT:=hk.typeIs
 obtain⟨o,n,b,c,t,ho,_,hd,h1,h2⟩:=hk
 unfold eqIsQuiet
 refine wpAny_bind (wpAny_specialOf hT F.slot_tuple_eq.lookup ?_)
 show wpAny _ _ (isInstance (.ref a) (.type "tuple") >>= _) _ _ s
 refine wpAny_bind (wpAny_isInstance hT isSubtype_tuple_tuple ?_)
 simp only[Bool.not_true,Bool.false_eq_true,if_false]
 refine wpAny_bind (wpAny_seqItems ho hd ?_)
 refine wpAny_bind ?_
 show wpAny _ _ (forIn #[Value.ref b,Value.int k.2.1 t,Value.ref c] _ _) _ _ s
 rw[← Array.forIn_toList]
 simp only[List.forIn_cons,List.forIn_nil]
 refine wpAny_bind (wpAny_bind (quiet_tuple 6 h1 (wpAny_pure ?_)))
 refine wpAny_bind ?_
 rw[eqIsQuiet_byValue _ (rfl:carriedByValue (.int k.2.1 t)=true)]
 refine wpAny_bind (wpAny_pure (wpAny_pure ?_))
 refine wpAny_bind (wpAny_bind (quiet_tuple 6 h2 (wpAny_pure ?_)))
 exact wpAny_pure (wpAny_pure h)
end
def placeKind(prog:Program)(w:World):HeapKind prog w PKey where
 is:=IsPlK (prog:=prog) (w:=w)
 hash:=plHash prog w
 draws:=fun k=>k.1.length+1+1+(k.2.2.length+1)+1
 room:=fun A=>A.units+9 < cLine
 inj:=fun hx hy=>hx.inj hy
 keeps:=fun x ho hd hs=>x.keeps ho hd hs
 pyHash:=fun hu hk h=>wpAny_pyHash_place (by omega) hk h
 eqBool:=fun hu hx hy h=>wpAny_eqBool_place hu hx hy h
 quiet:=fun hk h=>quiet_place hk h
end L2
namespace L2
open PySem PySem.Spec PyProof.Rows
def PlKey(H:Hp)(k:PKey)(p:Addr):Prop:=∃ hp tp,H p=some (.tup [.ref hp,.int k.2.1,.ref tp])∧H hp=some (.tup (k.1.map kV))∧H tp=some (.tup (k.2.2.map kV))
theorem PlKey.mono{H H':Hp}{k:PKey}{p:Addr}(h:PlKey H k p)(ht:∀ b ys,H b=some (.tup ys)→H' b=some (.tup ys)):PlKey H' k p:=by
 obtain⟨hp,tp,a,b,c⟩:=h
 exact⟨hp,tp,ht _ _ a,ht _ _ b,ht _ _ c⟩
abbrev PEnt:=PKey×Addr×Int
section
variable{P:Program}{w:World}{H:Hp}{h:Heap}{a:Addr}
theorem plkey_is{k:PKey}{p:Addr}(ok:HOk P w H h)(e:PlKey H k p):IsPlK (prog:=P) (w:=w) h k p:=by
 obtain⟨hp,tp,e1,e2,e3⟩:=e
 obtain⟨_,its,r,o,h1,h2,n,h3⟩:=(show ObjOk P w H h p (.tup [.ref hp,.int k.2.1,.ref tp]) from ok p _ e1)
 match its,r with
 | [u1,u2,u3],.cons r1 (.cons ⟨t,r2⟩ (.cons r3 .nil))=>
  cases (show u1=Value.ref hp from r1)
  cases (show u3=Value.ref tp from r3)
  subst r2
  exact⟨o,n,hp,tp,t,h1,h2,h3,key_of ok e2,key_of ok e3⟩
end
section
variable{X:Cx}{o i value:Expr}{td ty tv:TE}{pos pos':Pos}
end
end L2
namespace L2
open PySem PySem.Spec PyProof.Rows
def IsPrs(H:Hp)(a:Addr)(ps:List (Nat×Nat)):Prop:=∃ as:List Addr,H a=some (.lst (as.map V.ref))∧as.length=ps.length∧∀(j:Nat) (u:Addr) (p:Nat×Nat),as[j]? = some u→ps[j]? = some p→H u=some (.tup [.int (p.1:Nat),.int (p.2:Nat)])
theorem set2(σ:St)(a b o o':Option V):(((σ.set 0 a).set 1 b).set 0 o).set 1 o'=(σ.set 0 o).set 1 o':=by
 match σ with
 | []=>rfl
 | [_]=>rfl
 | _ :: _ :: _=>rfl
theorem comp_pairs{K:PySem.W.Frag}{tt:TT}{te:TE}{σ0:St}{H1:Hp}{Q:V→Hp→Prop}{a:Addr}{ps:List (Nat×Nat)}(hS:IsPrs H1 a ps)(p:Nat×Nat→Bool)(f:Nat×Nat→V)(hn:ps.length≤sizeLine)
  (hT:∀ x H,x∈ps→Same H1 H→∀ R:Bool→Hp→Prop,(∀ H',Same H H'→R (p x) H')→tt ((σ0.set 0 (some (.int (x.1:Nat)))).set 1 (some (.int (x.2:Nat)))) H R)
  (hE:∀ x H,x∈ps→p x=true→Same H1 H→∀ R:V→Hp→Prop,(∀ H',Same H H'→R (f x) H')→te ((σ0.set 0 (some (.int (x.1:Nat)))).set 1 (some (.int (x.2:Nat)))) H R)
  (hQ:∀ l H,Same H1 H→H1 l=none→H l=some (.lst ((ps.filter p).map f))→Q (.ref l) H):tCompR (gTup K 2 (gCons (gName 0) (gCons (gName 1) gNil))) tt te σ0 (Itl K a) H1 Q:=by
 intro l hl
 obtain⟨as,hA,la,hP⟩:=hS
 refine⟨fun i m σ H=>m=ps.length - i∧i≤ps.length∧Same H1 H∧H l=some (.lst (((ps.take i).filter p).map f))∧∀ o o',(σ.set 0 o).set 1 o'=(σ0.set 0 o).set 1 o',⟨ps.length,by simp,Nat.zero_le _,same_upd hl _,upd_same,fun _ _=>rfl⟩,?_⟩
 rintro i m σ H ⟨rfl,hi,sm,hL,hσ⟩
 have hA':SqL K H a (as.map V.ref):=SqL.of (sm _ _ hA)
 by_cases lt:i < ps.length
 ·have la':i < as.length:=by omega
  have ea:as[i]? = some as[i]:=List.getElem?_eq_getElem la'
  have ep:ps[i]? = some ps[i]:=List.getElem?_eq_getElem lt
  have ex:(as.map V.ref)[i]? = some (V.ref as[i]):=by rw[List.getElem?_map,ea];rfl
  refine .inr ⟨⟨as.map V.ref,_,hA',ex⟩,fun x H' y=>?_⟩
  obtain⟨rfl,y2⟩:=y
  have hx:=y2 _ hA'
  rw[ex] at hx
  cases hx
  have hu:=sm _ _ (hP i _ _ ea ep)
  refine⟨as[i],_,rfl,SqT.of hu,rfl,_,_,rfl,_,_,rfl,rfl,?_⟩
  show tt ((σ.set 0 (some (.int (ps[i].1:Nat)))).set 1 (some (.int (ps[i].2:Nat)))) H' _
  rw[hσ]
  have er:(ps.take (i+1)).filter p=(ps.take i).filter p++(if p ps[i]=true then [ps[i]] else []):=by
   rw[List.take_succ,ep,List.filter_append]
   show _++List.filter p [ps[i]]=_
   by_cases hp:p ps[i]=true
   ·rw[if_pos hp,List.filter_cons_of_pos hp,List.filter_nil]
   ·rw[if_neg hp,List.filter_cons_of_neg hp,List.filter_nil]
  have lf:(((ps.take i).filter p).map f).length < sizeLine:=by
   rw[List.length_map]
   have:=List.length_filter_le p (ps.take i)
   rw[List.length_take] at this
   omega
  refine hT ps[i] H' (List.getElem_mem _) sm _ fun H2 s2=>?_
  by_cases hp:p ps[i]=true
  ·rw[if_pos hp]
   refine hE ps[i] H2 (List.getElem_mem _) hp (sm.trans s2) _ fun H3 s3=>?_
   refine⟨_,s3 _ _ (s2 _ _ hL),lf,ps.length - (i+1),by omega,rfl,lt,same_upd2 hl (sm.trans (s2.trans s3)) _,?_,fun o o'=>set2 _ _ _ _ _⟩
   rw[upd_same,er,if_pos hp,List.map_append]
   rfl
  ·rw[if_neg hp]
   refine⟨ps.length - (i+1),by omega,rfl,lt,sm.trans s2,?_,fun o o'=>set2 _ _ _ _ _⟩
   rw[er,if_neg hp,List.append_nil]
   exact s2 _ _ hL
 ·have e:i=ps.length:=by omega
  subst e
  rw[List.take_length] at hL
  exact .inl ⟨⟨as.map V.ref,hA',by rw[List.length_map];omega⟩,hQ l H sm hl hL⟩
theorem pg_tupK{X:Cx}{pos:Pos}(K:PySem.W.Frag)(hK:X.K=K){es:List Expr}{k:Nat}{t:TGs}{n:Nat}(hc:X.calm=true)(h:PGs X es t)
  (hn:(assignEach es X.env).length=n:=by rfl) (hst:(assignEach es X.env).findIdx? (·.1)=none:=by rfl):PG X (.Tuple es k pos) (gTup K n t):=by
 subst hK
 exact pg_tup hc h hn hst
end L2
namespace My
open PySem L2
abbrev sHasSeat:Stmt:=top 35
abbrev sGain:Stmt:=top 36
abbrev sRefuse:Stmt:=top 38
def totC(hs:List Nat):Nat:=(hs.map (pcK 32)).sum
def gainN(side:Nat):Option Nat→Nat
 | none=>0
 | some s=>if side.testBit s=true then 1 else 0
open Classical in
noncomputable def nxF (fx:Fx) (t:Option Nat) (hs:List Nat) (lead:Nat) (ys:List Nat) (h c:Nat):List Nat×Nat×List Nat×Option Nat:=
 if e:∃ z:List Nat×Nat×List Nat×Option Nat,Nxt fx t hs lead ys h c z.1 z.2.1 z.2.2.1 z.2.2.2 then Classical.choose e else([],0,[],none)
theorem nxF_eq{fx:Fx}{t:Option Nat}{hs:List Nat}{lead:Nat}{ys:List Nat}{h c m:Nat}{hs':List Nat}{lead':Nat}{ys':List Nat}{tk:Option Nat}(Pl:Plc fx hs lead ys m)(eh:hs[(lead+ys.length) % fx.n]? = some h)(hc:h.testBit c=true)(N:Nxt fx t hs lead ys h c hs' lead' ys' tk):nxF fx t hs lead ys h c=(hs',lead',ys',tk):=by
 have e:∃ z:List Nat×Nat×List Nat×Option Nat,Nxt fx t hs lead ys h c z.1 z.2.1 z.2.2.1 z.2.2.2:=⟨(hs',lead',ys',tk),N⟩
 unfold nxF
 rw[dif_pos e]
 obtain⟨a,b,c,d⟩:=(Classical.choose_spec e).uniq Pl eh hc N
 exact Prod.ext a (Prod.ext b (Prod.ext c d))
def pickN(b:Bool)(ns:List Nat):Nat:=if ns=[] then 0 else if b=true then ns.foldl max 0 else(ns.drop 1).foldl min (ns.getD 0 0)
noncomputable def valF (fx:Fx) (t:Option Nat) (side:Nat):Nat→List Nat→Nat→List Nat→Nat
 | 0,_,_,_=>0
 | k+1,hs,lead,ys=>pickN (side.testBit ((lead+ys.length) % fx.n)) ((mayL fx t ys (hs.getD ((lead+ys.length) % fx.n) 0)).map fun c=>
   gainN side (nxF fx t hs lead ys (hs.getD ((lead+ys.length) % fx.n) 0) c).2.2.2+valF fx t side k (nxF fx t hs lead ys (hs.getD ((lead+ys.length) % fx.n) 0) c).1 (nxF fx t hs lead ys (hs.getD ((lead+ys.length) % fx.n) 0) c).2.1 (nxF fx t hs lead ys (hs.getD ((lead+ys.length) % fx.n) 0) c).2.2.1)
noncomputable def valP (fx:Fx) (t:Option Nat) (side:Nat) (hs:List Nat) (lead:Nat) (ys:List Nat):Nat:=valF fx t side (totC hs) hs lead ys
noncomputable def numP (fx:Fx) (t:Option Nat) (side:Nat) (hs:List Nat) (lead:Nat) (ys:List Nat) (c:Nat):Nat:=
 gainN side (nxF fx t hs lead ys (hs.getD ((lead+ys.length) % fx.n) 0) c).2.2.2+valP fx t side (nxF fx t hs lead ys (hs.getD ((lead+ys.length) % fx.n) 0) c).1 (nxF fx t hs lead ys (hs.getD ((lead+ys.length) % fx.n) 0) c).2.1 (nxF fx t hs lead ys (hs.getD ((lead+ys.length) % fx.n) 0) c).2.2.1
theorem foldl_max:∀(l:List Nat) (a:Nat),(a≤l.foldl max a∧∀ x∈l,x≤l.foldl max a)∧(l.foldl max a=a∨l.foldl max a∈l)
 | [],a=>⟨⟨Nat.le_refl _,fun x hx=>nomatch hx⟩,.inl rfl⟩
 | y :: l,a=>by
  obtain⟨⟨h1,h2⟩,h3⟩:=foldl_max l (max a y)
  show(a≤l.foldl max (max a y)∧∀ x∈y :: l,x≤l.foldl max (max a y))∧(l.foldl max (max a y)=a∨l.foldl max (max a y)∈y :: l)
  refine⟨⟨by omega,fun x hx=>?_⟩,?_⟩
  ·rcases List.mem_cons.mp hx with e | e
   ·omega
   ·exact h2 x e
  ·rcases h3 with e | e
   ·rcases Nat.le_total a y with z | z
    ·right
     rw[e,Nat.max_eq_right z]
     exact List.mem_cons_self
    ·left
     rw[e,Nat.max_eq_left z]
   ·exact .inr (List.mem_cons_of_mem _ e)
theorem pick_max{ns:List Nat}{M:Nat}(h:M∈ns)(g:∀ x∈ns,x≤M):pickN true ns=M:=by
 have n:ns≠[]:=fun z=>by rw[z] at h;cases h
 unfold pickN
 rw[if_neg n,if_pos rfl]
 obtain⟨⟨a,b⟩,c⟩:=foldl_max ns 0
 have h1:=b M h
 rcases c with e | e
 ·omega
 ·have:=g _ e
  omega
section
variable{P:Program}{w:World}{K:PySem.W.Frag}{mg:Str→Option Value}{base:Heap}{f g:Addr}{fd gd:FuncData}
def spHasSeat:Sp:=fun vs H Q _=>∃ side seat:Nat,vs=[.int (side:Nat),.int (seat:Nat)]∧Q (.bl (side.testBit seat)) H
theorem scHasSeat:FnScope ["side","seat"] ["side","seat"] (defScope sHasSeat):=⟨rfl,rfl,rfl,by decide +kernel,rfl,by decide +kernel,by decide +kernel⟩
theorem ok_hasSeat{k:Nat}(F:Fun K "has_seat" "has_seat" sHasSeat f fd):FnOk P w K mg base CX0 (k+1) f fd ["side","seat"] spHasSeat:=by
 refine F.ok scHasSeat (fun vs H Q E h=>?_) (fun cdv A outer s H vs Q E hr h=>?_)
 ·obtain⟨side,seat,rfl,_⟩:=h
  rfl
 obtain⟨side,seat,rfl,q⟩:=h
 refine⟨_,pss_one (ps_ret (pe_cmpR op_eq (pe_op op_and (pe_op op_shr (pv 0) (pv 1)) pe_int) pe_int (nomark _))),?_⟩
 refine⟨_,rfl,_,rfl,_,_,rfl,rfl,by omega,_,_,rfl,rfl,rfl,?_⟩
 have e:decide (V.int (Builtin.bitAnd (((side:Nat):Int) / 2 ^ (((seat:Nat):Int)).toNat) 1)=V.int 1)=side.testBit seat:=by
  have e1:((side:Nat):Int) / 2 ^ (((seat:Nat):Int)).toNat=((side / 2 ^ seat:Nat):Int):=by
   rw[Int.toNat_natCast,Int.natCast_ediv,Int.natCast_pow]
   rfl
  rw[e1,and1,Nat.testBit_eq_decide_div_mod_eq,eq_int]
  exact decide_eq_decide.mpr ⟨fun h=>by omega,fun h=>by omega⟩
 show Q (V.bl (decide (V.int (Builtin.bitAnd (((side:Nat):Int) / 2 ^ (((seat:Nat):Int)).toNat) 1)=V.int 1))) H
 rw[e]
 exact q
def spGain:Sp:=fun vs H Q _=>∃(side:Nat) (tk:Option Nat),vs=[.int (side:Nat),tkV tk]∧Q (.int ((gainN side tk:Nat):Int)) H
theorem scGain:FnScope ["side","taker"] ["side","taker"] (defScope sGain):=⟨rfl,rfl,rfl,by decide +kernel,rfl,by decide +kernel,by decide +kernel⟩
theorem ok_gain{k:Nat}{f1:Addr}{d1:FuncData}(F:Fun K "gain" "gain" sGain f fd)(LH:Lib P w K mg base k "has_seat" ["side","seat"] spHasSeat f1 d1):FnOk P w K mg base CX0 (k+1) f fd ["side","taker"] spGain:=by
 refine F.ok scGain (fun vs H Q E h=>?_) (fun cdv A outer s H vs Q E hr h=>?_)
 ·obtain⟨side,tk,rfl,_⟩:=h
  rfl
 obtain⟨side,tk,rfl,q⟩:=h
 refine⟨_,pss_one (ps_ret (pe_ifExp (PW.pt (pw_and (pt_cmpR op_notN (pv 1) pe_non (nomark _)) (pw_and1 (pt_truth (pe_call LH.ok hr rfl LH.mg LH.kp LH.bd .nil pass0 (pa_cons (pv 0) (pa_cons (pv 1) pa_nil))) (fun _=>rfl))))) pe_int pe_int)),?_⟩
 refine⟨_,rfl,rfl,_,rfl,?_⟩
 cases tk with
 | none=>exact chg (rfl:(!decide (tkV none=V.non))=false) (iteF (iteF q))
 | some u=>
  refine chg (rfl:(!decide (tkV (some u)=V.non))=true) (iteT ⟨_,rfl,_,rfl,side,u,rfl,_,rfl,?_⟩)
  by_cases c:side.testBit u=true
  ·rw[c]
   have e:gainN side (some u)=1:=if_pos c
   rw[e] at q
   exact iteT q
  ·rw[Bool.eq_false_iff.mpr c]
   have e:gainN side (some u)=0:=if_neg c
   rw[e] at q
   exact iteF q
def plK(hs:List Nat)(lead:Nat)(ys:List Nat):PKey:=(hs.map fun h=>.inl ((h:Nat):Int),((lead:Nat):Int),ys.map fun c=>.inl ((c:Nat):Int))
theorem plK_key{H:Hp}{p:Addr}{hs:List Nat}{lead:Nat}{ys:List Nat}(h:IsPl H p hs lead ys):PlKey H (plK hs lead ys) p:=by
 obtain⟨a,b,h1,h2,h3⟩:=h
 refine⟨a,b,h1,?_,?_⟩
 ·rw[h2]
  unfold plK vN
  rw[List.map_map]
  rfl
 ·rw[h3]
  unfold plK vN
  rw[List.map_map]
  rfl
theorem map_inl_inj:∀{a b:List Nat},(a.map fun h=>(Sum.inl ((h:Nat):Int):Key))=(b.map fun h=>(Sum.inl ((h:Nat):Int):Key))→a=b
 | [],[],_=>rfl
 | x :: a,y :: b,e=>by
  have e1:=List.cons.inj e
  have e2:((x:Nat):Int)=((y:Nat):Int):=Sum.inl.inj e1.1
  rw[map_inl_inj e1.2,show x=y by omega]
 | [],_ :: _,e=>nomatch e
 | _ :: _,[],e=>nomatch e
theorem plK_inj{hs hs':List Nat}{lead lead':Nat}{ys ys':List Nat}(e:plK hs lead ys=plK hs' lead' ys'):hs=hs'∧lead=lead'∧ys=ys':=by
 unfold plK at e
 have e1:=congrArg (fun z:PKey=>z.1) e
 have e2:=congrArg (fun z:PKey=>z.2.1) e
 have e3:=congrArg (fun z:PKey=>z.2.2) e
 have e2':((lead:Nat):Int)=((lead':Nat):Int):=e2
 exact⟨map_inl_inj e1,by omega,map_inl_inj e3⟩
section
variable{CR r gm d:Addr}{fx:Fx}{t:Option Nat}{side:Nat}{H H':Hp}{es:List PEnt}
end
noncomputable def prL (fx:Fx) (t:Option Nat) (side:Nat) (hs:List Nat) (lead:Nat) (ys:List Nat) (m:Nat):List (Nat×Nat):=(moveL fx t hs lead ys m).map fun c=>(c,numP fx t side hs lead ys c)
end
end My
namespace My
open PySem L2
abbrev sCell:Stmt:=top 73
abbrev sMixed:Stmt:=top 74
abbrev sOrder:Stmt:=top 75
abbrev sTable:Stmt:=top 76
abbrev sText:Stmt:=top 77
abbrev sBit:Stmt:=top 79
section
variable{P:Program}{w:World}{K:PySem.W.Frag}{mg:Str→Option Value}{base:Heap}{f g:Addr}{fd gd:FuncData}
def spCell(K:PySem.W.Frag):Sp:=fun vs H Q _=>∃(a:Addr) (ns:List Int) (k:Nat),vs=[.ref a,.int (k:Nat)]∧SqL K H a (ns.map V.int)∧k≤1000∧∀ z:Int,Q (.int z) H
abbrev pCell:List Str:=["_law_script","_law_k"]
theorem scCell:FnScope ["_law_script","_law_k","_law_number"] pCell (defScope sCell):=⟨rfl,rfl,rfl,by decide +kernel,rfl,by decide +kernel,by decide +kernel⟩
theorem ok_cell{k:Nat}(F:Fun K "_law_cell" "_law_cell" sCell f fd)(ml:mg "len" = none):FnOk P w K mg base CX0 (k+1) f fd pCell (spCell K):=by
 refine F.ok scCell (fun vs H Q E h=>?_) (fun cdv A outer s H vs Q E hr h=>?_)
 ·obtain⟨a,ns,k,rfl,_⟩:=h
  rfl
 obtain⟨a,ns,j,rfl,hS,h1,q⟩:=h
 refine⟨_,pss_cons (ps_if (pt_cmpR op_lt (pv 1) (pe_callB call_len_seq rfl ml PySem.boot_len (pa_cons (pv 0) pa_nil)) (nomark _)) (pss_one (ps_ret (pe_ix ix_list (pv 0) (pv 1) (fun _ _=>rfl)))) pss_nil)
  (pss_cons (ps_set (i:=2) scCell.nd rfl (Or.inl rfl) (pe_op op_add (pe_op op_mul (pv 1) pe_int) pe_int))
  (pss_cons (ps_if (pt_cmpR op_gt (pe_callB call_len_seq rfl ml PySem.boot_len (pa_cons (pv 0) pa_nil)) pe_int (nomark _))
   (pss_one (ps_set (i:=2) scCell.nd rfl (Or.inl rfl) (pe_op op_mod (pe_op op_add (pe_op op_mul (pe_ix ix_list (pv 0) (pe_op op_mod (pe_op op_mul (pv 1) pe_int) (pe_callB call_len_seq rfl ml PySem.boot_len (pa_cons (pv 0) pa_nil))) (fun _ _=>rfl)) pe_int) (pe_op op_mul (pv 1) pe_int)) pe_int))) pss_nil)
  (pss_one (ps_ret (pe_op op_mod (pe_op op_mul (pv 2) (pv 2)) pe_int))))),?_⟩
 have hl:(ns.map V.int).length=ns.length:=List.length_map _
 refine⟨_,rfl,_,rfl,a,_,rfl,.inl hS,_,_,rfl,rfl,_,rfl,ite2 (fun c=>?_) (fun c=>?_)⟩
 ·have c':((j:Nat):Int) < (((ns.map V.int).length:Nat):Int):=of_decide_eq_true c
  have hj:j < ns.length:=by rw[hl] at c';omega
  exact⟨_,rfl,_,rfl,a,_,_,_,rfl,rfl,hS,atI_nat (by rw[List.getElem?_map,List.getElem?_eq_getElem hj];rfl),q _⟩
 refine⟨_,rfl,_,_,rfl,rfl,.inr ⟨by decide,by decide⟩,_,_,rfl,rfl,?_⟩
 refine⟨_,rfl,a,_,rfl,.inl hS,_,_,rfl,rfl,_,rfl,?_⟩
 refine cut_if (fun σ H'=>H'=H∧∃ z:Int,0≤z∧z < 4294967296∧σ=[some (.ref a),some (.int (j:Nat)),some (.int z)]) (fun c D' _ nx=>?_) (fun c D' _ nx=>?_) (fun σ H' z=>?_)
 ·have c':(((ns.map V.int).length:Nat):Int) > 0:=of_decide_eq_true c
  rw[hl] at c'
  obtain⟨v,hv⟩:=item_at (ns:=ns) (k:=(j:Int) * 7) (by omega)
  refine⟨_,rfl,_,rfl,_,_,rfl,rfl,.inr ⟨by decide,by decide⟩,_,rfl,a,_,rfl,.inl hS,_,_,rfl,rfl,(by rw[hl];omega),a,_,_,_,rfl,rfl,hS,hv,_,_,rfl,rfl,.inr ⟨by decide,by decide⟩,_,rfl,_,_,rfl,rfl,.inr ⟨by decide,by decide⟩,_,_,rfl,rfl,_,_,rfl,rfl,(show(0:Int) < 2147483647 by decide),?_⟩
  refine nx _ _ ⟨rfl,_,Int.emod_nonneg _ (by decide),?_,rfl⟩
  have:=Int.emod_lt_of_pos (v * 48271+(j:Int) * 7919) (show(0:Int) < 2147483647 by decide)
  omega
 ·exact nx _ _ ⟨rfl,(j:Int) * 7919+5,by omega,by omega,rfl⟩
 ·obtain⟨rfl,z,z0,z1,rfl⟩:=z
  exact⟨_,rfl,_,rfl,_,_,rfl,rfl,.inl ⟨by omega,by omega⟩,_,_,rfl,rfl,(show(0:Int) < 2147483629 by decide),q _⟩
def spMixed:Sp:=fun vs H Q _=>∃(c:Int) (k:Nat),vs=[.int c,.int (k:Nat)]∧k≤1000∧∀ z:Int,0≤z→Q (.int z) H
theorem scMixed:FnScope ["_law_cell_here","_law_k","_law_number"] ["_law_cell_here","_law_k"] (defScope sMixed):=⟨rfl,rfl,rfl,by decide +kernel,rfl,by decide +kernel,by decide +kernel⟩
theorem ok_mixed{k:Nat}(F:Fun K "_law_mixed" "_law_mixed" sMixed f fd):FnOk P w K mg base CX0 (k+1) f fd ["_law_cell_here","_law_k"] spMixed:=by
 refine F.ok scMixed (fun vs H Q E h=>?_) (fun cdv A outer s H vs Q E hr h=>?_)
 ·obtain⟨c,k,rfl,_⟩:=h
  rfl
 obtain⟨c,j,rfl,h1,q⟩:=h
 refine⟨_,pss_cons (ps_set (i:=2) scMixed.nd rfl (Or.inl rfl) (pe_op op_mod (pe_op op_mul (pe_op op_add (pe_op op_mod (pv 0) pe_int) pe_int) (pe_op op_add (pe_op op_mul (pv 1) (pv 1)) pe_int)) pe_int))
  (pss_one (ps_ret (pe_op op_mod (pe_op op_mul (pv 2) (pe_op op_add (pv 2) (pv 1))) pe_int))),?_⟩
 have a0:=Int.emod_nonneg c (show(2147483647:Int)≠0 by decide)
 have a1:=Int.emod_lt_of_pos c (show(0:Int) < 2147483647 by decide)
 refine⟨_,rfl,_,_,rfl,rfl,(show(0:Int) < 2147483647 by decide),_,_,rfl,rfl,_,rfl,_,rfl,_,_,rfl,rfl,.inl ⟨by omega,by omega⟩,_,_,rfl,rfl,_,_,rfl,rfl,.inl ⟨by omega,by omega⟩,_,_,rfl,rfl,(show(0:Int) < 2147483629 by decide),?_⟩
 have b0:=Int.emod_nonneg ((c % 2147483647+1) * ((j:Int) * (j:Int)+48271)) (show(2147483629:Int)≠0 by decide)
 have b1:=Int.emod_lt_of_pos ((c % 2147483647+1) * ((j:Int) * (j:Int)+48271)) (show(0:Int) < 2147483629 by decide)
 exact⟨_,rfl,_,rfl,_,rfl,_,_,rfl,rfl,_,_,rfl,rfl,.inl ⟨by omega,by omega⟩,_,_,rfl,rfl,(show(0:Int) < 2147483587 by decide),q _ (Int.emod_nonneg _ (by decide))⟩
def spOrder(K:PySem.W.Frag):Sp:=fun vs H Q _=>∃(c:Int) (h:Nat),vs=[.int c,.int (h:Nat)]∧1≤h∧h≤8∧∀ l ls H',Same H H'→H l=none→H' l=some (.lst (vN ls))→ls.Perm (List.range h)→Q (.ref l) H'
abbrev nOrder:List Str:=["_law_cell_here","_law_heights","_law_spare","_law_order_here","_law_k"]
theorem scOrder:FnScope nOrder ["_law_cell_here","_law_heights"] (defScope sOrder):=⟨rfl,rfl,rfl,by decide +kernel,rfl,by decide +kernel,by decide +kernel⟩
theorem erase_map{α β:Type}(f:α→β):∀(l:List α) (i:Nat),(l.map f).eraseIdx i=(l.eraseIdx i).map f
 | [],i=>rfl
 | x :: l,0=>rfl
 | x :: l,i+1=>by
  show f x :: (l.map f).eraseIdx i=f x :: (l.eraseIdx i).map f
  rw[erase_map f l i]
theorem range_vN(h:Nat):((List.range h).filter fun _=>true).map (fun i=>V.int ((0:Int)+(i:Nat)))=vN (List.range h):=by
 rw[List.filter_eq_self.mpr (fun _ _=>rfl)]
 unfold vN
 refine List.map_congr_left fun i _=>?_
 rw[Int.zero_add]
theorem ok_order{k:Nat}(F:Fun K "_law_order" "_law_order" sOrder f fd)(mr:mg "range" = none):FnOk P w K mg base CX0 (k+1) f fd ["_law_cell_here","_law_heights"] (spOrder K):=by
 refine F.ok scOrder (fun vs H Q E h=>?_) (fun cdv A outer s H vs Q E hr h=>?_)
 ·obtain⟨c,h,rfl,_⟩:=h
  rfl
 obtain⟨c,h,rfl,h1,h8,q⟩:=h
 refine⟨_,pss_cons (ps_setcomp (i:=2) ["_law_height"] [none] rfl scOrder.nd rfl (Or.inl rfl) (Blk.by (sc:=defScope sOrder) (N0:=nOrder) rfl rfl (by decide +kernel)) (pi_range1 rfl mr (pa_cons (pv 1) pa_nil)) (fun C s₀ H₀ ex=>pg_name (i:=0) (show(["_law_height"]:List Str).Nodup by decide +kernel) rfl (Or.inl rfl)) (fun C s₀ H₀ ex=>pf_nil) (fun C s₀ H₀ ex=>pv 0))
  (pss_cons (ps_set (i:=3) scOrder.nd rfl (Or.inl rfl) (pe_lst pa_nil))
  (pss_cons (ps_for PassesOwn.never rfl (pi_range1 rfl mr (pa_cons (pv 1) pa_nil)) (pg_name (i:=4) scOrder.nd rfl (Or.inl rfl))
   (pss_cons (ps_expr (pe_bm PySem.F.plainAttrs_list PySem.F.slot_list_append PySem.F.type_list_append mt_append (pv 3) (pa_cons (pe_bm PySem.F.plainAttrs_list PySem.F.slot_list_pop PySem.F.type_list_pop mt_popAt (pv 2) (pa_cons (pe_op op_mod (pv 0) (pe_op op_sub (pv 1) (pv 4))) pa_nil)) pa_nil)))
   (pss_one (ps_set (i:=0) scOrder.nd rfl (Or.inl rfl) (pe_op op_fdiv (pv 0) (pe_op op_sub (pv 1) (pv 4)))))))
  (pss_one (ps_ret (pv 3))))),?_⟩
 refine⟨_,rfl,(h:Int),rfl,by omega,by omega,?_⟩
 refine comp_range (n:=h) (lo:=0) (fun _=>true) (fun i=>.int ((0:Int)+(i:Nat))) (fits3 _ (by omega)) (fun i H2 hi sm R hR=>hR H2 (Same.refl H2)) (fun i H2 hi hp sm R hR=>⟨_,rfl,hR H2 (Same.refl H2)⟩) (fun l1 H1 s1 hl1 hL1=>?_)
 rw[range_vN] at hL1
 refine⟨fits3 0 (by decide),fun l2 hl2=>?_⟩
 have n12:l1≠l2:=ne_of_none hL1 hl2
 refine⟨_,rfl,(h:Int),rfl,by omega,by omega,?_⟩
 refine for_range (n:=h) (fun i σ H'=>Same H H'∧∃(c:Int) (sp od:List Nat) (x4:Option V),σ=[some (.int c),some (.int (h:Nat)),some (.ref l1),some (.ref l2),x4]∧H' l1=some (.lst (vN sp))∧H' l2=some (.lst (vN od))∧(od++sp).Perm (List.range h)∧sp.length+i=h∧od.length=i)
  ⟨s1.trans (same_upd hl2 _),c,List.range h,[],_,rfl,same_upd hl2 _ _ _ hL1,upd_same,List.Perm.refl _,List.length_range,rfl⟩ (fun i σ H2 hi z=>?_) (fun σ H2 z=>?_)
 ·obtain⟨s2,c,sp,od,x4,rfl,g1,g2,pm,hsp,hod⟩:=z
  have hd:(0:Int) < ((h:Nat):Int) - (0+(i:Nat)):=by omega
  have m0:=Int.emod_nonneg c (show((h:Nat):Int) - (0+(i:Nat))≠0 by omega)
  have m1:=Int.emod_lt_of_pos c hd
  obtain⟨j,hj⟩:=Int.eq_ofNat_of_zero_le m0
  have hj2:j < sp.length:=by omega
  have ex:(vN sp)[j]? = some (.int ((sp[j]:Nat):Int)):=by
   unfold vN
   rw[List.getElem?_map,List.getElem?_eq_getElem hj2]
   rfl
  refine⟨_,rfl,.inl ⟨rfl,_,SqL.of g2⟩,_,rfl,.inl ⟨rfl,_,SqL.of g1⟩,_,rfl,_,rfl,_,rfl,_,_,rfl,rfl,_,_,rfl,rfl,hd,l1,vN sp,_,j,_,rfl,rfl,g1,by omega,by omega,(by rw[hj,vN_len,seqIndex_of (by omega) (by omega)];rfl),ex,?_⟩
  refine⟨l2,vN od,_,rfl,rfl,(by rw[upd_ne n12.symm];exact g2),(by rw[vN_len];have:=fits3 100 (by decide);omega),?_⟩
  refine⟨_,rfl,_,rfl,_,rfl,_,_,rfl,rfl,_,_,rfl,rfl,⟨hd,by omega⟩,?_⟩
  have e1:(vN sp).eraseIdx j=vN (sp.eraseIdx j):=by exact erase_map _ _ _
  have e2:vN od++[.int ((sp[j]:Nat):Int)]=vN (od++[sp[j]]):=by unfold vN;rw[List.map_append];rfl
  refine⟨?_,_,sp.eraseIdx j,od++[sp[j]],_,rfl,?_,?_,?_,?_,?_⟩
  ·intro b o hb
   have hb1:b≠l1:=fun z=>by rw[z,hl1] at hb;cases hb
   have hb2:b≠l2:=fun z=>by rw[z,s1.free hl2] at hb;cases hb
   rw[upd_ne hb2,upd_ne hb1]
   exact s2 _ _ hb
  ·rw[upd_ne n12,upd_same,e1]
  ·rw[upd_same,e2]
  ·rw[List.append_assoc]
   exact((perm_erase sp j sp[j] (List.getElem?_eq_getElem hj2)).append_left od).symm.trans pm
  ·rw[List.length_eraseIdx,if_pos hj2]
   omega
  ·rw[List.length_append]
   simp [hod]
 ·obtain⟨s2,c,sp,od,x4,rfl,g1,g2,pm,hsp,hod⟩:=z
  have e:sp=[]:=List.eq_nil_of_length_eq_zero (by omega)
  subst e
  rw[List.append_nil] at pm
  exact⟨_,rfl,q l2 od H2 s2 (s1.free hl2) g2 pm⟩
def IsFx(f:Fx)(H:Hp)(l:Addr):Prop:=∃ pl tr,H l=some (.lst [.int (f.s:Nat),.int (f.h:Nat),.int (f.n:Nat),.str (wd f.d),.ref pl,.ref tr])∧H pl=some (.lst (vN f.pl))∧H tr=some (.lst (vN f.tr))
def spTable(K:PySem.W.Frag):Sp:=fun vs H Q _=>∃(a:Addr) (ns:List Int),vs=[.ref a]∧SqL K H a (ns.map V.int)∧∀ l f H',f.Ok→Same H H'→H l=none→IsFx f H' l→Q (.ref l) H'
abbrev nTable:List Str:=["_law_script","_law_cell_here","_law_heights","_law_plain","_law_trump","_law_word"]
theorem scTable:FnScope nTable ["_law_script"] (defScope sTable):=⟨rfl,rfl,rfl,by decide +kernel,rfl,by decide +kernel,by decide +kernel⟩
theorem ok_table{k:Nat}{f1 f2 f3:Addr}{d1 d2 d3:FuncData}(F:Fun K "_law_table" "_law_table" sTable f fd)(LC:Lib P w K mg base k "_law_cell" pCell (spCell K) f1 d1)(LX:Lib P w K mg base k "_law_mixed" ["_law_cell_here","_law_k"] spMixed f2 d2)
  (LO:Lib P w K mg base k "_law_order" ["_law_cell_here","_law_heights"] (spOrder K) f3 d3):FnOk P w K mg base CX0 (k+1) f fd ["_law_script"] (spTable K):=by
 refine F.ok scTable (fun vs H Q E h=>?_) (fun cdv A outer s H vs Q E hr h=>?_)
 ·obtain⟨a,ns,rfl,_⟩:=h
  rfl
 obtain⟨a,ns,rfl,hS,q⟩:=h
 refine⟨_,pss_cons (ps_set (i:=1) scTable.nd rfl (Or.inl rfl) (pe_call LC.ok hr rfl LC.mg LC.kp LC.bd .nil pass0 (pa_cons (pv 0) (pa_cons pe_int pa_nil))))
  (pss_cons (ps_set (i:=2) scTable.nd rfl (Or.inl rfl) (pe_op op_add pe_int (pe_op op_mod (pe_op op_fdiv (pv 1) pe_int) pe_int)))
  (pss_cons (ps_set (i:=3) scTable.nd rfl (Or.inl rfl) (pe_call LO.ok hr rfl LO.mg LO.kp LO.bd .nil pass0 (pa_cons (pe_call LX.ok hr rfl LX.mg LX.kp LX.bd .nil pass0 (pa_cons (pv 1) (pa_cons pe_int pa_nil))) (pa_cons (pv 2) pa_nil))))
  (pss_cons (ps_set (i:=4) scTable.nd rfl (Or.inl rfl) (pe_call LO.ok hr rfl LO.mg LO.kp LO.bd .nil pass0 (pa_cons (pe_call LX.ok hr rfl LX.mg LX.kp LX.bd .nil pass0 (pa_cons (pv 1) (pa_cons pe_int pa_nil))) (pa_cons (pv 2) pa_nil))))
  (pss_cons (ps_set (i:=5) scTable.nd rfl (Or.inl rfl) (pe_ix ix_list (pe_lst (pa_cons pe_str (pa_cons pe_str (pa_cons pe_str (pa_cons pe_str pa_nil))))) (pe_op op_mod (pe_op op_fdiv (pv 1) pe_int) pe_int) (fun _ _=>rfl)))
  (pss_one (ps_ret (pe_lst (pa_cons (pe_op op_add pe_int (pe_op op_mod (pv 1) pe_int)) (pa_cons (pv 2) (pa_cons (pe_op op_add pe_int (pe_op op_mod (pe_op op_fdiv (pv 1) pe_int) pe_int)) (pa_cons (pv 5) (pa_cons (pv 3) (pa_cons (pv 4) pa_nil))))))))))))),?_⟩
 refine⟨_,rfl,a,ns,0,rfl,hS,by decide,fun c=>?_⟩
 refine⟨_,rfl,_,_,rfl,rfl,⟨by decide,by decide⟩,_,_,rfl,rfl,(show(0:Int) < 8 by decide),_,_,rfl,rfl,?_⟩
 have a0:=Int.emod_nonneg (c / 8) (show(8:Int)≠0 by decide)
 have a1:=Int.emod_lt_of_pos (c / 8) (show(0:Int) < 8 by decide)
 obtain⟨h,eh,h1,h8⟩:∃ h:Nat,1+c / 8 % 8=((h:Nat):Int)∧1≤h∧h≤8:=⟨(1+c / 8 % 8).toNat,by omega,by omega,by omega⟩
 dsimp only
 rw[eh]
 refine⟨_,rfl,c,1,rfl,by decide,fun z hz=>⟨_,rfl,z,h,rfl,h1,h8,fun lp ls H2 s2 hlp hP pp=>?_⟩⟩
 refine⟨_,rfl,c,2,rfl,by decide,fun z hz=>⟨_,rfl,z,h,rfl,h1,h8,fun lt lts H3 s3 hlt hT pt=>?_⟩⟩
 refine⟨fits3 4 (by decide),fun lw hlw=>?_⟩
 have s4:=same_upd hlw (.lst (vS wds))
 obtain⟨v,hv,ev⟩:=pickA (vS wds) 4 rfl (by decide) (c / 256)
 obtain⟨t,ht,rfl⟩:=List.mem_map.mp hv
 obtain⟨d,rfl⟩:=wd_mem ht
 refine⟨_,rfl,_,_,rfl,rfl,⟨by decide,by decide⟩,_,_,rfl,rfl,(show(0:Int) < 4 by decide),lw,_,_,_,rfl,rfl,SqL.of upd_same,ev,?_⟩
 refine⟨_,rfl,_,_,rfl,rfl,(show(0:Int) < 4 by decide),_,_,rfl,rfl,_,rfl,_,rfl,_,_,rfl,rfl,⟨by decide,by decide⟩,_,_,rfl,rfl,(show(0:Int) < 2 by decide),_,_,rfl,rfl,_,rfl,_,rfl,_,rfl,fits3 6 (by decide),fun l hl=>?_⟩
 have b0:=Int.emod_nonneg c (show(4:Int)≠0 by decide)
 have b1:=Int.emod_lt_of_pos c (show(0:Int) < 4 by decide)
 have d0:=Int.emod_nonneg (c / 4) (show(2:Int)≠0 by decide)
 have d1:=Int.emod_lt_of_pos (c / 4) (show(0:Int) < 2 by decide)
 obtain⟨sN,es,s1',s4'⟩:∃ n:Nat,1+c % 4=((n:Nat):Int)∧1≤n∧n≤4:=⟨(1+c % 4).toNat,by omega,by omega,by omega⟩
 obtain⟨nN,en,n34⟩:∃ n:Nat,3+c / 4 % 2=((n:Nat):Int)∧(n=3∨n=4):=⟨(3+c / 4 % 2).toNat,by omega,by omega⟩
 have sA:=s2.trans (s3.trans s4)
 have s5:=same_upd hl (.lst [.int (1+c % 4),.int (h:Nat),.int (3+c / 4 % 2),.str (wd d),.ref lp,.ref lt])
 refine q l ⟨sN,h,nN,d,ls,lts⟩ _ ⟨s1',s4',h1,h8,n34,pp,pt⟩ (sA.trans s5) (sA.free hl) ⟨lp,lt,?_,s5 _ _ (s4 _ _ (s3 _ _ hP)),s5 _ _ (s4 _ _ hT)⟩
 show(upd _ l (.lst [.int (1+c % 4),.int (h:Nat),.int (3+c / 4 % 2),.str (wd d),.ref lp,.ref lt])) l=_
 rw[upd_same,es,en]
def spText(K:PySem.W.Frag):Sp:=fun vs H Q _=>∃(l:Addr) (f:Fx),vs=[.ref l]∧f.Ok∧IsFx f H l∧∀ H',Same H H'→Q (.str (tabT f)) H'
abbrev nText:List Str:=["_law_facts","_law_suits","_law_heights","_law_seats","_law_word","_law_plain","_law_trump","_law_line"]
theorem scText:FnScope nText ["_law_facts"] (defScope sText):=⟨rfl,rfl,rfl,by decide +kernel,rfl,by decide +kernel,by decide +kernel⟩
theorem ok_text{k:Nat}(F:Fun K "_law_text" "_law_text" sText f fd)(ms:mg "str" = none):FnOk P w K mg base CX0 (k+1) f fd ["_law_facts"] (spText K):=by
 refine F.ok scText (fun vs H Q E h=>?_) (fun cdv A outer s H vs Q E hr h=>?_)
 ·obtain⟨l,f,rfl,_⟩:=h
  rfl
 obtain⟨l,fx,rfl,ok,⟨pl,tr,hL,hP,hT⟩,q⟩:=h
 refine⟨_,pss_cons (ps_asg (pv 0) (pg_lst rfl (pgs_cons (pg_name (i:=1) scText.nd rfl (Or.inl rfl)) (pgs_cons (pg_name (i:=2) scText.nd rfl (Or.inl rfl)) (pgs_cons (pg_name (i:=3) scText.nd rfl (Or.inl rfl)) (pgs_cons (pg_name (i:=4) scText.nd rfl (Or.inl rfl)) (pgs_cons (pg_name (i:=5) scText.nd rfl (Or.inl rfl)) (pgs_cons (pg_name (i:=6) scText.nd rfl (Or.inl rfl)) pgs_nil))))))))
  (pss_cons (ps_set (i:=7) scText.nd rfl (Or.inl rfl) (pe_op op_add_str (pe_op op_add_str (pe_op op_add_str (pe_op op_add_str (pe_op op_add_str pe_str (pe_callTy call_str_int rfl ms PyProof.Rows.boot_str (pa_cons (pv 1) pa_nil))) pe_str) (pe_callTy call_str_int rfl ms PyProof.Rows.boot_str (pa_cons (pv 2) pa_nil))) pe_str) (pe_callTy call_str_int rfl ms PyProof.Rows.boot_str (pa_cons (pv 3) pa_nil))))
  (pss_cons (ps_set (i:=7) scText.nd rfl (Or.inl rfl) (pe_op op_add_str (pe_op op_add_str (pe_op op_add_str (pe_op op_add_str (pv 7) pe_str) (pv 4)) pe_str) (pe_bm PySem.F.plainAttrs_str PySem.F.slot_str_join PySem.F.type_str_join mt_join pe_str (pa_cons (pe_comp ["_law_height"] [none] rfl (Blk.by (sc:=defScope sText) (N0:=nText) rfl rfl (by decide +kernel)) (pi_list (pv 5)) (fun C s₀ H₀ ex=>pg_name (i:=0) (show(["_law_height"]:List Str).Nodup by decide +kernel) rfl (Or.inl rfl)) (fun C s₀ H₀ ex=>pf_nil)
    (fun C s₀ H₀ ex=>pe_callTy call_str_int rfl ms PyProof.Rows.boot_str (pa_cons (pe_op op_add (pv 0) pe_int) pa_nil))) pa_nil))))
  (pss_one (ps_ret (pe_op op_add_str (pe_op op_add_str (pv 7) pe_str) (pe_bm PySem.F.plainAttrs_str PySem.F.slot_str_join PySem.F.type_str_join mt_join pe_str (pa_cons (pe_comp ["_law_height"] [none] rfl (Blk.by (sc:=defScope sText) (N0:=nText) rfl rfl (by decide +kernel)) (pi_list (pv 6)) (fun C s₀ H₀ ex=>pg_name (i:=0) (show(["_law_height"]:List Str).Nodup by decide +kernel) rfl (Or.inl rfl)) (fun C s₀ H₀ ex=>pf_nil)
    (fun C s₀ H₀ ex=>pe_callTy call_str_int rfl ms PyProof.Rows.boot_str (pa_cons (pe_op op_add (pv 0) pe_int) pa_nil))) pa_nil))))))),?_⟩
 refine⟨_,rfl,l,_,rfl,SqL.of hL,rfl,_,_,rfl,_,_,rfl,_,_,rfl,_,_,rfl,_,_,rfl,_,_,rfl,rfl,?_⟩
 have sm:∀ i:Nat,i≤8→(((i:Nat):Int).natAbs).log2 < 1920:=fun i hi=>by
  have:((i:Nat):Int).natAbs=i:=rfl
  rw[this]
  exact Nat.lt_of_le_of_lt (Nat.log2_le_self i) (by omega)
 have s4:=ok.s4
 have h8:=ok.h8
 have n4:fx.n≤8:=by rcases ok.n34 with e | e<;>omega
 have one:∀ x:Nat,(⟨#[x]⟩:Str).length≤1:=fun _=>Nat.le_refl 1
 have w1:("pack ":Str).length≤5:=by decide +kernel
 have w2:("x":Str).length≤1:=by decide +kernel
 have w3:(" seats ":Str).length≤7:=by decide +kernel
 have w4:(" duty ":Str).length≤6:=by decide +kernel
 have w5:(" plain ":Str).length≤7:=by decide +kernel
 have w6:(" trump ":Str).length≤7:=by decide +kernel
 have wl:=(wd_len fx.d).2
 refine⟨_,rfl,_,rfl,sm _ (by omega),?_⟩
 rw[str_num _ (by omega)]
 refine⟨_,_,rfl,rfl,fitsAB w1 (one _) (by decide),_,_,rfl,rfl,fitsAB (app_le w1 (one _)) w2 (by decide),_,rfl,_,rfl,sm _ h8,?_⟩
 rw[str_num _ h8]
 refine⟨_,_,rfl,rfl,fitsAB (app_le (app_le w1 (one _)) w2) (one _) (by decide),_,_,rfl,rfl,fitsAB (app_le (app_le (app_le w1 (one _)) w2) (one _)) w3 (by decide),_,rfl,_,rfl,sm _ n4,?_⟩
 rw[str_num _ n4]
 refine⟨_,_,rfl,rfl,fitsAB (app_le (app_le (app_le (app_le w1 (one _)) w2) (one _)) w3) (one _) (by decide),?_⟩
 have L1:=app_le (app_le (app_le (app_le (app_le w1 (one (48+fx.s))) w2) (one (48+fx.h))) w3) (one (48+fx.n))
 refine⟨_,rfl,_,_,rfl,rfl,fitsAB L1 w4 (by decide),_,rfl,_,_,rfl,rfl,fitsAB (app_le L1 w4) wl (by decide),_,_,rfl,rfl,fitsAB (app_le (app_le L1 w4) wl) w5 (by decide),?_⟩
 have L2:=app_le (app_le (app_le L1 w4) wl) w5
 have num:∀(ls:List Nat) (x:V),ls.Perm (List.range fx.h)→x∈vN ls→∃ i:Nat,i+1≤8∧x = .int (i:Nat):=fun ls x pm hx=>by
  obtain⟨i,hi,rfl⟩:=List.mem_map.mp hx
  have:=perm_lt pm i hi
  exact⟨i,by omega,rfl⟩
 refine⟨rfl,_,rfl,pl,rfl,⟨_,SqL.of hP⟩,comp_list (K:=K) (xs:=vN fx.pl) (fun _=>true) sgV (SqL.of hP) (by rw[vN_len,perm_len ok.pp];exact fits3 _ (by omega)) (fun x H3 hx s3 R hR=>hR H3 (Same.refl H3)) (fun x H3 hx hp s3 R hR=>?_) (fun l1 H1 s1 hl1 hL1=>?_)⟩
 ·obtain⟨i,hi,rfl⟩:=num _ x ok.pp hx
  refine⟨_,rfl,_,_,rfl,rfl,_,rfl,sm (i+1) hi,?_⟩
  show R (.str (toString (((i+1:Nat):Nat):Int))) H3
  rw[str_num _ hi]
  have:=hR H3 (Same.refl H3)
  rwa [sgV_int] at this
 rw[sgV_list] at hL1
 have j1:=join_sgn fx.pl
 have jl:(Txt.join "" (fx.pl.map sgn)).length≤8:=by rw[j1,figS_len,perm_len ok.pp];exact h8
 refine⟨_,l1,fx.pl.map sgn,rfl,rfl,SqL.of hL1,sgn_sum ok.pp h8,_,_,rfl,rfl,fitsAB L2 jl (by decide),?_⟩
 refine⟨_,rfl,_,_,rfl,rfl,fitsAB (app_le L2 jl) w6 (by decide),?_⟩
 have L3:=app_le (app_le L2 jl) w6
 have hT1:=s1 _ _ hT
 refine⟨rfl,_,rfl,tr,rfl,⟨_,SqL.of hT1⟩,comp_list (K:=K) (xs:=vN fx.tr) (fun _=>true) sgV (SqL.of hT1) (by rw[vN_len,perm_len ok.pt];exact fits3 _ (by omega)) (fun x H3 hx s3 R hR=>hR H3 (Same.refl H3)) (fun x H3 hx hp s3 R hR=>?_) (fun l2 H2 s2 hl2 hL2=>?_)⟩
 ·obtain⟨i,hi,rfl⟩:=num _ x ok.pt hx
  refine⟨_,rfl,_,_,rfl,rfl,_,rfl,sm (i+1) hi,?_⟩
  show R (.str (toString (((i+1:Nat):Nat):Int))) H3
  rw[str_num _ hi]
  have:=hR H3 (Same.refl H3)
  rwa [sgV_int] at this
 rw[sgV_list] at hL2
 have j2:=join_sgn fx.tr
 have jl2:(Txt.join "" (fx.tr.map sgn)).length≤8:=by rw[j2,figS_len,perm_len ok.pt];exact h8
 refine⟨_,l2,fx.tr.map sgn,rfl,rfl,SqL.of hL2,sgn_sum ok.pt h8,_,_,rfl,rfl,fitsAB L3 jl2 (by decide),?_⟩
 have et:(("pack ":Str)++⟨#[48+fx.s]⟩ ++ "x" ++ ⟨#[48+fx.h]⟩ ++ " seats " ++ ⟨#[48+fx.n]⟩ ++ " duty " ++ wd fx.d ++ " plain " ++ Txt.join "" (fx.pl.map sgn) ++ " trump " ++ Txt.join "" (fx.tr.map sgn))=tabT fx:=by
  rw[j1,j2]
  exact text_eq fx
 rw[et]
 exact q _ (s1.trans s2)
def spBit:Sp:=fun vs H Q _=>∃ c:Nat,vs=[.int (c:Nat)]∧c≤1000∧Q (.int ((2 ^ c:Nat):Int)) H
theorem scBit:FnScope ["_law_card","_law_bit_here","_law_time"] ["_law_card"] (defScope sBit):=⟨rfl,rfl,rfl,by decide +kernel,rfl,by decide +kernel,by decide +kernel⟩
theorem ok_bit{k:Nat}(F:Fun K "_law_bit" "_law_bit" sBit f fd)(mr:mg "range" = none):FnOk P w K mg base CX0 (k+1) f fd ["_law_card"] spBit:=by
 refine F.ok scBit (fun vs H Q E h=>?_) (fun cdv A outer s H vs Q E hr h=>?_)
 ·obtain⟨c,rfl,_⟩:=h
  rfl
 obtain⟨c,rfl,hc,q⟩:=h
 refine⟨_,pss_cons (ps_set (i:=1) scBit.nd rfl (Or.inl rfl) pe_int)
  (pss_cons (ps_for PassesOwn.never rfl (pi_range1 rfl mr (pa_cons (pv 0) pa_nil)) (pg_name (i:=2) scBit.nd rfl (Or.inl rfl)) (pss_one (ps_set (i:=1) scBit.nd rfl (Or.inl rfl) (pe_op op_mul (pv 1) pe_int))))
  (pss_one (ps_ret (pv 1)))),?_⟩
 refine⟨_,rfl,((c:Nat):Int),rfl,by omega,by omega,?_⟩
 refine for_range (n:=c) (fun i σ H'=>H'=H∧∃ x2,σ=[some (.int (c:Nat)),some (.int ((2 ^ i:Nat):Int)),x2]) ⟨rfl,none,rfl⟩ (fun i σ H1 hi z=>?_) (fun σ H1 z=>?_)
 ·obtain⟨rfl,x2,rfl⟩:=z
  refine⟨_,rfl,_,_,rfl,rfl,.inr ⟨by decide,by decide⟩,rfl,some (.int (0+(i:Nat))),?_⟩
  show [_,some (V.int (((2 ^ i:Nat):Int) * 2)),_]=_
  rw[show((2 ^ i:Nat):Int) * 2=((2 ^ (i+1):Nat):Int) by rw[Nat.pow_succ,Int.natCast_mul];rfl]
 ·obtain⟨rfl,x2,rfl⟩:=z
  exact⟨_,rfl,q⟩
end
end My
namespace My
open PySem L2
theorem chunks(ls:List Nat)(sz:Nat):∀ n,((List.range n).map fun j=>(ls.drop (sz * j)).take sz).flatten=ls.take (sz * n)
 | 0=>by simp
 | n+1=>by
  rw[List.range_succ,List.map_append,List.flatten_append,chunks ls sz n,Nat.mul_succ,List.take_add]
  simp
theorem flat_perm:∀(css:List (List Nat)) (F:Nat→List Nat),(∀(j:Nat) (cs:List Nat),css[j]? = some cs→cs.Perm (F j))→css.flatten.Perm ((List.range css.length).map F).flatten
 | [],_,_=>by simp
 | c :: r,F,h=>by
  rw[List.length_cons,List.range_succ_eq_map,List.map_cons,List.flatten_cons,List.flatten_cons,List.map_map]
  exact(h 0 c rfl).append (flat_perm r (F ∘ Nat.succ) fun j cs e=>h (j+1) cs e)
structure DealOk(f:Fx)(sz:Nat)(css:List (List Nat)):Prop where
 len:css.length=f.n
 each:∀ cs∈css,cs.length=sz
 nd:css.flatten.Nodup
 pk:∀ c∈css.flatten,c / 8 < f.s∧c % 8 < f.h
 up:∀ cs∈css,cs.Pairwise (·≤·)
theorem pack_nd:∀ s≤4,∀ h≤8,(packL s h).Nodup:=by decide +kernel
theorem pack_length(s h:Nat):(packL s h).length=s * h:=by
 unfold packL
 induction s with
 | zero=>simp
 | succ s ih=>rw[List.range_succ,List.flatMap_append,List.length_append,ih];simp [Nat.succ_mul]
theorem perm_nd:∀{a b:List Nat},a.Nodup→b.Nodup→(∀ x,x∈a↔x∈b)→a.length=b.length
 | [],b,_,_,h=>by
  cases b with
  | nil=>rfl
  | cons x r=>exact absurd ((h x).mpr List.mem_cons_self) List.not_mem_nil
 | x :: a,b,ha,hb,h=>by
  have hx:x∈b:=(h x).mp List.mem_cons_self
  obtain⟨na,ha'⟩:=List.nodup_cons.mp ha
  have e:=perm_nd (a:=a) (b:=b.erase x) ha' (hb.erase x) fun y=>by
   rw[hb.mem_erase_iff]
   constructor
   ·exact fun hy=>⟨fun z=>na (z ▸ hy),(h y).mp (List.mem_cons_of_mem _ hy)⟩
   ·rintro⟨n,hy⟩
    exact(List.mem_cons.mp ((h y).mpr hy)).resolve_left n
  rw[List.length_cons,e,List.length_erase_of_mem hx]
  have:=List.length_pos_of_mem hx
  omega
theorem pc_hN{cs:List Nat}(nd:cs.Nodup)(h:∀ c∈cs,c < 32):pcK 32 (hN cs)=cs.length:=
 perm_nd (List.Pairwise.filter _ List.nodup_range) nd fun x=>hN_cards h x
theorem count_flat(b:Nat):∀(css:List (List Nat)),(css.map hN).countP (fun h=>h.testBit b)≤css.flatten.count b
 | []=>Nat.zero_le _
 | c :: r=>by
  have ih:=count_flat b r
  rw[List.map_cons,List.countP_cons,List.flatten_cons,List.count_append,hN_bit]
  by_cases e:b∈c
  ·have:=List.count_pos_iff.mpr e
   rw[decide_eq_true e,if_pos rfl]
   omega
  ·rw[decide_eq_false e,if_neg Bool.false_ne_true]
   omega
theorem DealOk.nd1{f:Fx}{sz:Nat}{css:List (List Nat)}(D:DealOk f sz css){cs:List Nat}(h:cs∈css):cs.Nodup:=(List.pairwise_flatten.mp D.nd).1 cs h
theorem DealOk.c32{f:Fx}{sz:Nat}{css:List (List Nat)}(ok:f.Ok)(D:DealOk f sz css){cs:List Nat}(h:cs∈css):∀ c∈cs,c < 32:=fun c hc=>by
 have:=D.pk c (List.mem_flatten.mpr ⟨cs,h,hc⟩)
 have:=ok.s4
 have:=ok.h8
 omega
theorem DealOk.plc{f:Fx}{sz:Nat}{css:List (List Nat)}(ok:f.Ok)(D:DealOk f sz css){lead:Nat}(hl:lead < f.n):Plc f (css.map hN) lead [] sz:=by
 have c1:∀ b,cntB (css.map hN) [] b≤css.flatten.count b:=fun b=>by
  unfold cntB
  rw[List.count_nil]
  exact count_flat b css
 refine⟨by rw[List.length_map];exact D.len,hl,by show 0 < f.n;omega,fun b=>Nat.le_trans (c1 b) (List.nodup_iff_count.mp D.nd b),fun b hb=>D.pk b (List.count_pos_iff.mp (Nat.lt_of_lt_of_le hb (c1 b))),fun i h e=>?_⟩
 rw[List.getElem?_map] at e
 obtain⟨cs,e1,rfl⟩:=Option.map_eq_some_iff.mp e
 have m:=List.mem_of_getElem? e1
 show pcK 32 (hN cs)+(if off f.n lead i < 0 then 1 else 0)=sz
 rw[pc_hN (D.nd1 m) (D.c32 ok m),if_neg (Nat.not_lt_zero _),D.each cs m,Nat.add_zero]
end My
namespace My
open PySem L2
abbrev sShuf:Stmt:=top 80
section
variable{P:Program}{w:World}{K:PySem.W.Frag}{mg:Str→Option Value}{base:Heap}{f g:Addr}{fd gd:FuncData}
theorem make_same{H1 H':Hp}{x dx:Addr}{o:HO}(hx:H1 x=none)(hd:H1 dx=none)(n:dx≠x)(kp:Keep x (upd (upd H1 dx (.own x)) x o) H'):Same H1 H':=fun b u hb=>
 kp b u (ne_of_none hb hx) (same_make hx hd n b u hb)
def prV(H:Hp)(u:Addr):Nat×Nat:=match H u with | some (.tup [.int i,.int j])=>(i.toNat,j.toNat) | _=>(0,0)
theorem prV_at{H:Hp}{u:Addr}{x c:Nat}(h:H u=some (.tup [.int ((x:Nat):Int),.int ((c:Nat):Int)])):prV H u=(x,c):=by
 unfold prV
 rw[h]
 show((((x:Nat):Int).toNat),(((c:Nat):Int).toNat))=(x,c)
 rw[Int.toNat_natCast,Int.toNat_natCast]
def PrA(H:Hp)(as:List (Addr×Nat)):Prop:=∀ e∈as,∃ x:Nat,H e.1=some (.tup [.int ((x:Nat):Int),.int ((e.2:Nat):Int)])
def spShuf(K:PySem.W.Frag)(CT CG:Addr):Sp:=fun vs H Q _=>∃(a gm x:Addr) (ns:List Int) (fx:Fx) (t:Option Nat),vs=[.ref a,.ref gm]∧SqL K H a (ns.map V.int)∧GamH CT CG fx t H gm x ∧
 ∀(l:Addr) (cs:List Nat) H',cs.Perm (packL fx.s fx.h)→Same H H'→H l=none→H' l=some (.lst (vN cs))→Q (.ref l) H'
abbrev nShuf:List Str:=["_law_script","_law_game_here","_law_cell_here","_law_pairs","_law_suit","_law_height","_law_card"]
theorem scShuf:FnScope nShuf ["_law_script","_law_game_here"] (defScope sShuf):=⟨rfl,rfl,rfl,by decide +kernel,rfl,by decide +kernel,by decide +kernel⟩
abbrev nShC:List Str:=["_law_number","_law_card"]
theorem ok_shuf{k:Nat}{CT CG f1 f2:Addr}{d1 d2:FuncData}(F:Fun K "_law_shuffled" "_law_shuffled" sShuf f fd)(C:TabC K mg CT)(CGm:GamC K mg CG)(LC:Lib P w K mg base k "_law_cell" pCell (spCell K) f1 d1)(LX:Lib P w K mg base k "_law_mixed" ["_law_cell_here","_law_k"] spMixed f2 d2)(mr:mg "range" = none)(mso:mg "sorted" = none) :
  FnOk P w K mg base CX0 (k+1) f fd ["_law_script","_law_game_here"] (spShuf K CT CG):=by
 refine F.ok scShuf (fun vs H Q E h=>?_) (fun cdv A outer s H vs Q E hr h=>?_)
 ·obtain⟨a,gm,x,ns,fx,t,rfl,_⟩:=h
  rfl
 obtain⟨a,gm,x,ns,fx,t,rfl,hS,G,q⟩:=h
 refine⟨_,pss_cons (ps_set (i:=2) scShuf.nd rfl (Or.inl rfl) (pe_call LC.ok hr rfl LC.mg LC.kp LC.bd .nil pass0 (pa_cons (pv 0) (pa_cons pe_int pa_nil))))
  (pss_cons (ps_set (i:=3) scShuf.nd rfl (Or.inl rfl) (pe_lst pa_nil))
  (pss_cons (ps_for PassesOwn.never rfl (pi_range1 rfl mr (pa_cons (pe_fld (pe_fld (pv 1) rfl) rfl) pa_nil)) (pg_name (i:=4) scShuf.nd rfl (Or.inl rfl))
   (pss_one (ps_for PassesOwn.never rfl (pi_range1 rfl mr (pa_cons (pe_fld (pe_fld (pv 1) rfl) rfl) pa_nil)) (pg_name (i:=5) scShuf.nd rfl (Or.inl rfl))
    (pss_cons (ps_set (i:=6) scShuf.nd rfl (Or.inl rfl) (pe_op op_add (pe_op op_mul pe_int (pv 4)) (pv 5)))
    (pss_one (ps_expr (pe_bm PySem.F.plainAttrs_list PySem.F.slot_list_append PySem.F.type_list_append mt_append (pv 3) (pa_cons (pe_tup (pa_cons (pe_call LX.ok hr rfl LX.mg LX.kp LX.bd .nil pass0 (pa_cons (pv 2) (pa_cons (pv 6) pa_nil))) (pa_cons (pv 6) pa_nil))) pa_nil))))))))
  (pss_one (ps_ret (pe_comp nShC [none,none] rfl (Blk.by (sc:=defScope sShuf) (N0:=nShuf) rfl rfl (by decide +kernel)) (pi_list (pe_callB call_sorted2 rfl mso PyProof.Rows.boot_sorted (pa_cons (pv 3) pa_nil))) (fun C s₀ H₀ ex=>pg_tupK (n:=2) K rfl rfl (pgs_cons (pg_name (i:=0) (show nShC.Nodup by decide +kernel) rfl (Or.inl rfl)) (pgs_cons (pg_name (i:=1) (show nShC.Nodup by decide +kernel) rfl (Or.inl rfl)) pgs_nil))) (fun C s₀ H₀ ex=>pf_nil) (fun C s₀ H₀ ex=>pv 1)))))),?_⟩
 have ok:=G.ok
 have s4:=ok.s4
 have h8:=ok.h8
 have z1000:=fits3 1000 (by decide)
 refine⟨_,rfl,a,ns,2,rfl,hS,by decide,fun z=>nm_of ?_⟩
 refine set_nm (fun v H1=>∃ l,v = .ref l∧Same H H1∧H l=none∧H1 l=some (.lst [])) (fun R hR=>⟨fits3 0 (by decide),fun l hl=>hR _ _ ⟨l,rfl,same_upd hl _,hl,upd_same⟩⟩) (fun v H0 z0=>?_)
 obtain⟨lp,rfl,s0,hlp,hl0⟩:=z0
 obtain⟨dg,hg⟩:=id G.g
 obtain⟨dx,po,to,hx,_,_⟩:=id G.t
 refine seq_cut (fun σ H'=>Same H H'∧∃(as:List (Addr×Nat)) (x4 x5 x6:Option V),σ=[some (.ref a),some (.ref gm),some (.int z),some (.ref lp),x4,x5,x6]∧H' lp=some (.lst (as.map fun e=>.ref e.1))∧PrA H' as∧as.map (·.2)=packL fx.s fx.h) (fun D' er nx=>?_) (fun σ H2 y=>?_)
 ·refine⟨_,rfl,gm,CG,dg,_,_,rfl,s0 _ _ hg,CGm.cl,CGm.nT,gam_table _ _,x,CT,dx,_,_,rfl,s0 _ _ hx,C.cl,C.nS,look7_suits _ _ _,((fx.s:Nat):Int),rfl,by omega,by omega,?_⟩
  refine for_range (n:=fx.s) (fun i σ H'=>Same H H'∧∃(as:List (Addr×Nat)) (x4 x5 x6:Option V),σ=[some (.ref a),some (.ref gm),some (.int z),some (.ref lp),x4,x5,x6]∧H' lp=some (.lst (as.map fun e=>.ref e.1))∧PrA H' as∧as.map (·.2)=packL i fx.h) ⟨s0,[],none,none,none,rfl,hl0,(fun e he=>nomatch he),rfl⟩ (fun i σ H1 hi y=>?_) (fun σ H1 y=>nx _ _ y)
  obtain⟨s1,as,x4,x5,x6,rfl,g,pr,ec⟩:=y
  refine⟨_,rfl,gm,CG,dg,_,_,rfl,s1 _ _ hg,CGm.cl,CGm.nT,gam_table _ _,x,CT,dx,_,_,rfl,s1 _ _ hx,C.cl,C.nH,look7_heights _ _ _,((fx.h:Nat):Int),rfl,by omega,by omega,?_⟩
  refine for_range (n:=fx.h) (fun j σ H'=>Same H H'∧∃(as:List (Addr×Nat)) (x5 x6:Option V),σ=[some (.ref a),some (.ref gm),some (.int z),some (.ref lp),some (.int (0+(i:Nat))),x5,x6]∧H' lp=some (.lst (as.map fun e=>.ref e.1))∧PrA H' as∧as.map (·.2)=packL i fx.h++(List.range j).map fun v=>8 * i+v) ⟨s1,as,_,_,rfl,g,pr,by rw[ec];exact(List.append_nil _).symm⟩ (fun j σ H2 hj y=>?_) (fun σ H2 y=>?_)
  ·obtain⟨s2,as,x5,x6,rfl,g,pr,ec⟩:=y
   have e8:(8:Int) * (0+(i:Nat))+(0+(j:Nat))=((8 * i+j:Nat):Int):=by omega
   refine⟨_,rfl,_,_,rfl,rfl,.inl ⟨by decide,by decide⟩,_,rfl,_,_,rfl,rfl,?_⟩
   dsimp only
   rw[e8]
   have al:as.length=(packL i fx.h).length+j:=by
    have:=congrArg List.length ec
    rw[List.length_map,List.length_append,List.length_map,List.length_range] at this
    exact this
   have pl:=pack_len i (by omega) fx.h h8
   refine⟨_,rfl,.inl ⟨rfl,_,SqL.of g⟩,_,rfl,_,rfl,z,8 * i+j,rfl,by omega,fun y hy=>?_⟩
   obtain⟨yn,rfl⟩:=Int.eq_ofNat_of_zero_le hy
   refine⟨_,rfl,fits3 2 (by decide),fun p hp=>?_⟩
   have sp:=same_upd hp (.tup [.int ((yn:Nat):Int),.int ((8 * i+j:Nat):Int)])
   have gp:=sp _ _ g
   refine⟨lp,_,_,rfl,rfl,gp,by rw[List.length_map];omega,?_⟩
   refine⟨fun b o hb=>?_,as++[(p,8 * i+j)],_,_,rfl,?_,fun e he=>?_,?_⟩
   ·rw[upd_ne (fun z=>by rw[z,hlp] at hb;cases hb)]
    exact sp _ _ (s2 _ _ hb)
   ·rw[upd_same,List.map_append]
    rfl
   ·have ex:∃ x:Nat,upd H2 p (.tup [.int ((yn:Nat):Int),.int ((8 * i+j:Nat):Int)]) e.1=some (.tup [.int ((x:Nat):Int),.int ((e.2:Nat):Int)]):=by
     rcases List.mem_append.mp he with h | h
     ·obtain⟨x,hx⟩:=pr e h
      exact⟨x,sp _ _ hx⟩
     ·cases List.mem_singleton.mp h
      exact⟨yn,upd_same⟩
    obtain⟨x,hx⟩:=ex
    refine⟨x,?_⟩
    rw[upd_ne (tup_ne hx gp (fun ys e=>by cases e))]
    exact hx
   ·rw[List.map_append,ec,List.range_succ,List.map_append,List.append_assoc]
    rfl
  ·obtain⟨s2,as,x5,x6,rfl,g,pr,ec⟩:=y
   refine⟨s2,as,_,_,_,rfl,g,pr,?_⟩
   rw[ec]
   unfold packL
   rw[List.range_succ,List.flatMap_append,List.flatMap_cons,List.flatMap_nil,List.append_nil]
 obtain⟨s2,as,x4,x5,x6,rfl,g,pr,ec⟩:=y
 have al:as.length=fx.s * fx.h:=by
  have:=congrArg List.length ec
  rw[List.length_map,pack_length] at this
  exact this
 have sn:fx.s * fx.h≤32:=Nat.le_trans (Nat.mul_le_mul s4 h8) (by decide)
 have eR:(as.map fun e=>V.ref e.1)=(as.map (·.1)).map V.ref:=by rw[List.map_map];rfl
 rw[eR] at g
 refine⟨_,rfl,lp,as.map (·.1),rfl,SqL.of g,by rw[List.length_map];omega,fun p hp=>?_,fun l2 qs hl2 pq=>?_⟩
 ·obtain⟨e,he,rfl⟩:=List.mem_map.mp hp
  obtain⟨x,hx⟩:=pr e he
  exact⟨_,_,SqT.of hx⟩
 have sm2:=same_upd hl2 (.lst (qs.map V.ref))
 have ql:qs.length=as.length:=by rw[pq.length_eq,List.length_map]
 have at2:∀ u∈qs,∃ x c:Nat,H2 u=some (.tup [.int ((x:Nat):Int),.int ((c:Nat):Int)]):=fun u hu=>by
  obtain⟨e,he,rfl⟩:=List.mem_map.mp (pq.mem_iff.mp hu)
  obtain⟨x,hx⟩:=pr e he
  exact⟨x,e.2,hx⟩
 have Pr:IsPrs (upd H2 l2 (.lst (qs.map V.ref))) l2 (qs.map (prV H2)):=⟨qs,upd_same,by rw[List.length_map],fun j u p h1 h2=>by
  rw[List.getElem?_map,h1] at h2
  have e2:prV H2 u=p:=Option.some.inj h2
  obtain⟨x,c,hx⟩:=at2 u (List.mem_of_getElem? h1)
  rw[← e2,prV_at hx]
  exact sm2 _ _ hx⟩
 refine⟨l2,rfl,⟨_,SqL.of upd_same⟩,comp_pairs (K:=K) Pr (fun _=>true) (fun x=>.int (x.2:Nat)) (by rw[List.length_map];omega) (fun x H3 hx sm R hR=>hR H3 (Same.refl H3)) (fun x H3 hx hp sm R hR=>⟨_,rfl,hR H3 (Same.refl H3)⟩) (fun ln H4 s5 hln hLn=>?_)⟩
 rw[List.filter_eq_self.mpr fun _ _=>rfl,List.map_map] at hLn
 refine q ln (qs.map fun u=>(prV H2 u).2) H4 ?_ ((s2.trans sm2).trans s5) (s2.free (sm2.free hln)) ?_
 ·have e1:(as.map (·.1)).map (fun u=>(prV H2 u).2)=packL fx.s fx.h:=by
   rw[← ec,List.map_map]
   refine List.map_congr_left fun e he=>?_
   obtain⟨x,hx⟩:=pr e he
   show(prV H2 e.1).2=e.2
   rw[prV_at hx]
  rw[← e1]
  exact pq.map _
 ·rw[hLn]
  unfold vN
  rw[List.map_map]
  rfl
theorem trump_at(p:Int){s:Nat}(s4:s≤4):∃ t:Option Nat,TrB t∧((t=none∧p % ((s:Nat)+1:Int)=((s:Nat):Int))∨∃ u,t=some u∧u < s∧p % ((s:Nat)+1:Int)=((u:Nat):Int)):=by
 have h0:=Int.emod_nonneg p (show((s:Nat)+1:Int)≠0 by omega)
 have h1:=Int.emod_lt_of_pos p (show(0:Int) < ((s:Nat)+1:Int) by omega)
 by_cases e:p % ((s:Nat)+1:Int)=((s:Nat):Int)
 ·exact⟨none,(fun u e=>nomatch e),.inl ⟨rfl,e⟩⟩
 ·exact⟨some (p % ((s:Nat)+1:Int)).toNat,fun u z=>by cases z;omega,.inr ⟨_,rfl,by omega,by omega⟩⟩
abbrev nGame:List Str:=["_law_script","_law_facts","_law_trump"]
end
end My
namespace L2
open PySem PySem.Spec PyProof.Rows
structure HKnd(P:Program)(w:World)(K:Type) [DecidableEq K] where
 knd:HeapKind P w K
 isH:Hp→K→Addr→Prop
 ok:∀{H:Hp} {h:Heap} {k:K} {p:Addr},HOk P w H h→isH H k p→knd.is h k p
 mono:∀{H H':Hp} {k:K} {p:Addr},isH H k p→(∀ b ys,H b=some (.tup ys)→H' b=some (.tup ys))→isH H' k p
 room:∀{A:Around},A.units+20 < cLine→knd.room A.in1
section
variable{K:Type} [DecidableEq K]
abbrev GEnt(K:Type):=K×Addr×V
abbrev GRel{K:Type}:List (GEnt K)→List (K×Addr×Value)→Prop:=Paired fun p q=>p.1=q.1∧p.2.1=q.2.1∧RelV p.2.2 q.2.2
variable{P:Program}{w:World}(T:HKnd P w K)
def GKeys(H:Hp)(es:List (GEnt K)):Prop:=∀ e∈es,T.isH H e.1 e.2.1
def GDict(a:Addr)(es:List (GEnt K)):HO:=HO.ext fun h=>(a == sysModules)=false∧es.length≤sizeLine∧∃ xs,GRel es xs∧∃ o el ep,h.get? a=some o∧o.ExactDict∧o.data = .dict el ep∧el.toList=xs.map (entryOfKey T.knd)∧(xs.map (·.1)).Nodup
def gAt(es:List (GEnt K))(k:K):Option V:=(es.find? fun e=>decide (e.1=k)).map (·.2.2)
def gPut(es:List (GEnt K))(k:K)(b:Addr)(v:V):List (GEnt K):=if(gAt es k).isSome then es.map (fun e=>if e.1=k then(e.1,e.2.1,v) else e) else es++[(k,b,v)]
theorem gAt_cons{e:GEnt K}{es:List (GEnt K)}{k:K}:gAt (e :: es) k=if e.1=k then some e.2.2 else gAt es k:=by
 unfold gAt
 rw[List.find?_cons]
 by_cases c:e.1=k
 ·rw[decide_eq_true c,if_pos c]
  rfl
 ·rw[decide_eq_false c,if_neg c]
theorem gAt_snoc{k j:K}{b:Addr}{v:V}:∀{es:List (GEnt K)},gAt es k=none→gAt (es++[(k,b,v)]) j=if j=k then some v else gAt es j
 | [],_=>by
  rw[List.nil_append,gAt_cons]
  by_cases c:j=k
  ·rw[if_pos c,if_pos (show(k,b,v).1=j from c.symm)]
  ·rw[if_neg c,if_neg (show ¬ (k,b,v).1=j from fun e=>c e.symm)]
 | e :: es,h=>by
  rw[gAt_cons] at h
  by_cases c:e.1=k
  ·rw[if_pos c] at h;cases h
  ·rw[if_neg c] at h
   rw[List.cons_append,gAt_cons,gAt_cons,gAt_snoc h]
   by_cases d:e.1=j
   ·rw[if_pos d,if_pos d,if_neg (fun z=>c (d.trans z))]
   ·rw[if_neg d,if_neg d]
theorem gAt_map{k j:K}{v:V}:∀{es:List (GEnt K)},gAt (es.map fun e=>if e.1=k then(e.1,e.2.1,v) else e) j=(gAt es j).map fun x=>if j=k then v else x
 | []=>rfl
 | e :: es=>by
  rw[List.map_cons,gAt_cons,gAt_cons,gAt_map]
  by_cases c:e.1=k
  ·rw[if_pos c]
   by_cases d:e.1=j
   ·rw[if_pos d,if_pos d,Option.map_some,if_pos (d.symm.trans c)]
   ·rw[if_neg d,if_neg d]
  ·rw[if_neg c]
   by_cases d:e.1=j
   ·rw[if_pos d,if_pos d,Option.map_some,if_neg (fun z=>c (d.trans z))]
   ·rw[if_neg d,if_neg d]
theorem gAt_put{es:List (GEnt K)}{k j:K}{b:Addr}{v:V}:gAt (gPut es k b v) j=if j=k then some v else gAt es j:=by
 unfold gPut
 cases c:gAt es k with
 | none=>
  rw[if_neg (by rw[Option.isSome_none];exact Bool.false_ne_true)]
  exact gAt_snoc c
 | some x=>
  rw[if_pos (by rfl),gAt_map]
  by_cases d:j=k
  ·subst d
   rw[c,if_pos rfl,Option.map_some,if_pos rfl]
  ·rw[if_neg d]
   cases gAt es j with
   | none=>rfl
   | some y=>rw[Option.map_some,if_neg d]
theorem gPut_keys{es:List (GEnt K)}{k:K}{b:Addr}{v:V}{H:Hp}(h:GKeys T H es)(hk:T.isH H k b):GKeys T H (gPut es k b v):=by
 unfold gPut
 intro e he
 split at he
 ·obtain⟨x,hx,rfl⟩:=List.mem_map.mp he
  by_cases c:x.1=k
  ·rw[if_pos c]
   exact h x hx
  ·rw[if_neg c]
   exact h x hx
 ·rcases List.mem_append.mp he with q | q
  ·exact h e q
  ·cases List.mem_singleton.mp q
   exact hk
theorem gPut_len{es:List (GEnt K)}{k:K}{b:Addr}{v:V}:(gPut es k b v).length≤es.length+1:=by
 unfold gPut
 split
 ·rw[List.length_map]
  exact Nat.le_succ _
 ·rw[List.length_append]
  exact Nat.le_refl _
theorem GKeys.mono{H H':Hp}{es:List (GEnt K)}(h:GKeys T H es)(ht:∀ b ys,H b=some (.tup ys)→H' b=some (.tup ys)):GKeys T H' es:=fun e he=>T.mono (h e he) ht
theorem GRel.at{k:K}:∀{es:List (GEnt K)} {xs:List (K×Addr×Value)},GRel es xs→RelO (gAt es k) ((atKey xs k).map (·.2))
 | _,_,.nil=>True.intro
 | e :: es,x :: xs,.cons ⟨h1,h2,h3⟩ r=>by
  have ih:=GRel.at (k:=k) r
  unfold gAt atKey at *
  rw[List.find?_cons,List.find?_cons,← h1]
  by_cases c:e.1=k
  ·rw[decide_eq_true c]
   exact h3
  ·rw[decide_eq_false c]
   exact ih
theorem GRel.repl{k:K}{v:V}{u:Value}(rv:RelV v u):∀{es:List (GEnt K)} {xs:List (K×Addr×Value)},GRel es xs→GRel (es.map fun e=>if e.1=k then(e.1,e.2.1,v) else e) (xs.map (putAt k u))
 | _,_,.nil=>.nil
 | e :: es,x :: xs,.cons ⟨h1,h2,h3⟩ r=>by
  refine .cons ?_ (GRel.repl rv r)
  unfold putAt
  dsimp only
  by_cases c:e.1=k
  ·rw[if_pos c,if_pos (h1 ▸ c)]
   exact⟨h1,h2,rv⟩
  ·rw[if_neg c,if_neg (h1 ▸ c)]
   exact⟨h1,h2,h3⟩
theorem GRel.snoc{es:List (GEnt K)}{xs:List (K×Addr×Value)}(r:GRel es xs){e:GEnt K}{x:K×Addr×Value}(h:e.1=x.1∧e.2.1=x.2.1∧RelV e.2.2 x.2.2):GRel (es++[e]) (xs++[x]):=by
 induction r with
 | nil=>exact .cons h .nil
 | cons a _ ih=>exact .cons a ih
theorem GRel.put{es:List (GEnt K)}{xs:List (K×Addr×Value)}(r:GRel es xs){k:K}{b:Addr}{v:V}{u:Value}(rv:RelV v u):GRel (gPut es k b v) (storedH xs k b u):=by
 have z:=(GRel.at (k:=k) r).isSome_eq
 rw[Option.isSome_map] at z
 unfold gPut storedH
 rw[← z]
 cases (gAt es k).isSome with
 | true=>exact GRel.repl rv r
 | false=>exact GRel.snoc r ⟨rfl,rfl,rv⟩
end
section
variable{K:Type} [DecidableEq K]{P:Program}{w:World}{T:HKnd P w K}{H:Hp}{h:Heap}{a:Addr}
theorem gd_of{es:List (GEnt K)}(ok:HOk P w H h)(e:H a=some (GDict T a es))(ks:GKeys T H es):(a == sysModules)=false∧es.length≤sizeLine∧∃ xs,GRel es xs∧h.DictOfH T.knd a xs:=by
 obtain⟨⟨hd,hz,xs,r,o,el,ep,h1,h2,h3,h4,h5⟩,_⟩:=(show ObjOk P w H h a (GDict T a es) from ok a _ e)
 refine⟨hd,hz,xs,r,o,el,ep,h1,h2,h3,h4,fun x hx=>?_,h5⟩
 have all:∀{l:List (GEnt K)} {m:List (K×Addr×Value)},GRel l m→(∀ e∈l,T.isH H e.1 e.2.1)→∀ x∈m,T.knd.is h x.1 x.2.1:=by
  intro l m q
  induction q with
  | nil=>intro _ x hx;exact nomatch hx
  | @cons p q ps qs hq t ih=>
   intro hk x hx
   rcases List.mem_cons.mp hx with e | hx
   ·subst e
    have:=T.ok ok (hk p List.mem_cons_self)
    rw[hq.1,hq.2.1] at this
    exact this
   ·exact ih (fun e he=>hk e (List.mem_cons_of_mem _ he)) x hx
 exact all r ks x hx
theorem gd_new{H':Hp}{h':Heap}{es:List (GEnt K)}{xs:List (K×Addr×Value)}(hd:(a == sysModules)=false)(hz:es.length≤sizeLine)(r:GRel es xs)(dd:h'.DictOfH T.knd a xs):ObjOk P w H' h' a (GDict T a es):=by
 obtain⟨o,el,ep,h1,h2,h3,h4,_,h5⟩:=dd
 refine⟨⟨hd,hz,xs,r,o,el,ep,h1,h2,h3,h4,h5⟩,⟨o,h1⟩,fun h1 h2 z k=>?_⟩
 obtain⟨hd,hz,xs,r,o,el,ep,h1,h2,h3,h4,h5⟩:=z
 exact⟨hd,hz,xs,r,o,el,ep,k _ h1,h2,h3,h4,h5⟩
end
section
variable{K:Type} [DecidableEq K]{X:Cx}{o i value e f:Expr}{td ty tv tx:TE}{pos pos' apos cpos:Pos}(T:HKnd X.prog X.w K)
theorem pe_gnew:PE X (.Dict [] [] pos) (fun _ H Q=>∀ p,H p=none→Q (.ref p) (upd H p (GDict T p []))):=fun pins s σ H Q I h=>
 wpAny_Dict_empty ⟨.ref s.heap.objs.size,_,I.laid (a:=s.heap.objs.size) (o:=GDict T s.heap.objs.size []) (t':=s.toks) (fun _ _ q=>Heap.get?_push_of_some _ q) (Nat.le_refl _)
  (gd_new (xs:=[]) (beq_eq_false_iff_ne.mpr (Ne.symm (Nat.ne_of_lt I.big))) (Nat.zero_le _) .nil ⟨_,#[],0,Heap.get?_push_size _ rfl,⟨rfl,rfl,rfl⟩,rfl,rfl,(fun x hx=>nomatch hx),List.nodup_nil⟩),rfl,h _ (I.hok.fresh (Nat.le_refl _))⟩
theorem pe_gget2(hu:X.A.units+20 < cLine)(ho:PE X o td)(he:PE X e ty)(hf:PE X f tx)(m:M2 X o "get" apos e f cpos):PE X (.Call (.Attribute o "get" apos) [e,f] [] cpos)
  (fun σ H Q=>td σ H fun x H1=>∃ a es0,x = .ref a∧H1 a=some (GDict T a es0)∧GKeys T H1 es0∧ty σ H1 fun y H2=>tx σ H2 fun z H3=>∃ es k b,H3 a=some (GDict T a es)∧GKeys T H3 es∧y = .ref b∧T.isH H3 k b∧Q ((gAt es k).getD z) H3):=by
 intro pins s σ H Q I h
 refine wpAny_Call_method m.base m.few m.line PySem.F.plainAttrs_dict PySem.F.slot_dict_get PySem.F.type_dict_get (thn (ho pins s σ H _ I h) fun u s1 ⟨x,H1,I1,rx,a,es0,ex,d,ks0,q1⟩=>?_)
 subst ex
 obtain rfl:u=Value.ref a:=rx
 obtain⟨_,_,xs0,_,dd0⟩:=gd_of I1.hok d ks0
 refine⟨dd0.typeIs,fun b q=>by cases q;obtain⟨ob,_,_,h1,h2,_⟩:=dd0;exact⟨ob,h1,h2.2.1⟩,?_⟩
 rw[m.trees]
 refine Calls.callWith_builtin rfl (Calls.evalArgs_plain (Calls.spliced_cons (thn (he pins s1 σ H1 _ I1 q1) fun iv s2 ⟨y,H2,I2,ry,q2⟩=>
  Calls.spliced_cons (thn (hf pins s2 σ H2 _ I2 q2) fun fv s3 ⟨z,H3,I3,rz,es,k,b,e3,ks,ey,eb,q3⟩=>Calls.spliced_nil ?_))))
 subst ey
 obtain rfl:iv=Value.ref b:=ry
 obtain⟨hd,hz,xs,r,dd⟩:=gd_of I3.hok e3 ks
 refine call_meetsIn PySem.F.slot_dict_get dd.typeIs PySem.F.entry_dict_get (PySem.F.args_dict_get_3 _ _ _) (meetsH_dict_get_default T.knd a b hd fv) ⟨T.room hu,k,xs,T.ok I3.hok eb,dd,_,H3,I3.tok _,?_,q3⟩
 exact(GRel.at (k:=k) r).getD rz
theorem ps_gput(hu:X.A.units+20 < cLine)(ho:PE X o td)(hi:PE X i ty)(hv:PE X value tv)(hs:swapsWith value (some (.Subscript o i pos')) pos.line X.env=pure false) :
  PS X (.Assign [.Subscript o i pos'] value pos) (fun D σ H=>tv σ H fun v H1=>td σ H1 fun x H2=>ty σ H2 fun y H3=>∃ a es k b,x = .ref a∧H3 a=some (GDict T a es)∧GKeys T H3 es∧y = .ref b∧T.isH H3 k b∧es.length < sizeLine∧D.nx σ (upd H3 a (GDict T a (gPut es k b v)))):=by
 intro pins s σ H D I h
 refine wpAny_Assign_Subscript (thn (hv pins s σ H _ I h) fun r s1 ⟨v,H1,I1,rv,q1⟩=>thn (ho pins s1 σ H1 _ I1 q1) fun u s2 ⟨x,H2,I2,rx,q2⟩=>thn (hi pins s2 σ H2 _ I2 q2) fun iv s3 ⟨y,H3,I3,ry,a,es,k,b,ex,e,ks,ey,eb,hl,q3⟩=>?_) hs
 subst ex ey
 obtain rfl:u=Value.ref a:=rx
 obtain rfl:iv=Value.ref b:=ry
 obtain⟨hd,hz,xs,rl,dd⟩:=gd_of I3.hok e ks
 have hz2:xs.length≤sizeLine:=by rw[← Paired.length rl];exact hz
 refine wpAny_setItem_heap (knd:=T.knd) (hsz:=hz2) (T.room hu) (T.ok I3.hok eb) dd fun h' dd' hs=>⟨σ,_,?_,q3⟩
 obtain⟨q,el,ep,hq,_⟩:=id dd'
 exact d_write I3 (by rw[e];exact True.intro) hs ⟨q,hq⟩ (gd_new hd (Nat.le_trans gPut_len hl) (GRel.put rl rv) dd')
end
def plKnd(P:Program)(w:World):HKnd P w PKey where
 knd:=placeKind P w
 isH:=PlKey
 ok:=fun ok e=>plkey_is ok e
 mono:=fun h ht=>h.mono ht
 room:=fun {A} hu=>show A.units+1+9 < cLine by omega
end L2
namespace My
open PySem L2
abbrev sIsWhole:Stmt:=top 43
abbrev sFromZero:Stmt:=top 44
abbrev sFmPlace:Stmt:=top 45
abbrev sFmRow:Stmt:=top 46
section
variable{P:Program}{w:World}{K:PySem.W.Frag}{mg:Str→Option Value}{base:Heap}{f g:Addr}{fd gd:FuncData}
def spIsWhole(K:PySem.W.Frag):Sp:=fun vs H Q _=>∃ i:Int,vs=[.int i]∧Q (.bl true) H
theorem scIsWhole:FnScope ["thing"] ["thing"] (defScope sIsWhole):=⟨rfl,rfl,rfl,by decide +kernel,rfl,by decide +kernel,by decide +kernel⟩
theorem ok_isWhole{k:Nat}(F:Fun K "is_whole" "is_whole" sIsWhole f fd)(mi:mg "isinstance" = none)(mI:mg "int" = none)(mB:mg "bool" = none):FnOk P w K mg base CX0 (k+1) f fd ["thing"] (spIsWhole K):=by
 refine F.ok scIsWhole (fun vs H Q E h=>?_) (fun cdv A outer s H vs Q E hr h=>?_)
 ·obtain⟨h,rfl,_⟩:=h
  rfl
 obtain⟨i,rfl,q⟩:=h
 refine⟨_,pss_one (ps_ret (pe_and (pe_callB call_isT rfl mi PyProof.Rows.boot_isinstance (pa_cons (pv 0) (pa_cons (pe_bltn (v:=.ty "int") rfl mI PyProof.Rows.boot_int rfl) pa_nil)))
  (pe_one (pe_not (pe_callB call_isT rfl mi PyProof.Rows.boot_isinstance (pa_cons (pv 0) (pa_cons (pe_bltn (v:=.ty "bool") rfl mB PyProof.Rows.boot_bool rfl) pa_nil))))))),?_⟩
 refine⟨_,rfl,_,_,_,true,rfl,.int i,rfl,true,rfl,iteT ?_⟩
 exact⟨_,rfl,_,_,_,false,rfl,.int i,by with_unfolding_all rfl,false,rfl,q⟩
def spFromZero:Sp:=fun vs H Q _=>∃(p:Addr) (xs:List Nat),vs=[.ref p]∧H p=some (.tup (vN xs))∧xs.length≤100∧∀ H',Same H H'→Q (.bl true) H'
theorem scFromZero:FnScope ["things"] ["things"] (defScope sFromZero):=⟨rfl,rfl,rfl,by decide +kernel,rfl,by decide +kernel,by decide +kernel⟩
theorem ok_fromZero{k:Nat}{f1:Addr}{d1:FuncData}(F:Fun K "are_from_zero_on" "are_from_zero_on" sFromZero f fd)(LW:Lib P w K mg base k "is_whole" ["thing"] (spIsWhole K) f1 d1)(mi:mg "isinstance" = none)(mT:mg "tuple" = none)(mA:mg "all" = none):FnOk P w K mg base CX0 (k+1) f fd ["things"] spFromZero:=by
 refine F.ok scFromZero (fun vs H Q E h=>?_) (fun cdv A outer s H vs Q E hr h=>?_)
 ·obtain⟨p,xs,rfl,_⟩:=h
  rfl
 obtain⟨p,xs,rfl,hp,l100,q⟩:=h
 refine⟨_,pss_one (ps_ret (pe_and (pe_callB call_isT rfl mi PyProof.Rows.boot_isinstance (pa_cons (pv 0) (pa_cons (pe_bltn (v:=.ty "tuple") rfl mT PyProof.Rows.boot_tuple rfl) pa_nil)))
  (pe_one (pe_callB (call_allL rfl) rfl mA PyProof.Rows.boot_all (pa_cons (pe_comp ["thing"] [none] rfl (Blk.by (sc:=defScope sFromZero) (N0:=["things"]) rfl rfl (by decide +kernel)) (pi_tup (pv 0)) (fun C s₀ H₀ ex=>pg_name (i:=0) (show(["thing"]:List Str).Nodup by decide +kernel) rfl (Or.inl rfl)) (fun C s₀ H₀ ex=>pf_nil)
   (fun C s₀ H₀ ex=>pe_and (pe_call LW.ok hr rfl LW.mg LW.kp LW.bd .nil pass0 (pa_cons (pv 0) pa_nil)) (pe_one (pe_cmpR op_ge (pv 0) pe_int (nomark _))))) pa_nil))))),?_⟩
 refine⟨_,rfl,_,_,_,true,rfl,.tup hp,rfl,true,rfl,iteT ?_⟩
 refine⟨_,rfl,p,rfl,⟨_,SqT.of hp⟩,comp_tup (K:=K) (xs:=vN xs) (fun _=>true) (fun _=>.bl true) (SqT.of hp) (fits3 _ (by rw[vN_len];omega)) (fun y H3 hy sm R hR=>hR H3 (Same.refl H3)) (fun y H3 hy hp sm R hR=>?_) (fun lq H4 s4 hlq hL4=>?_)⟩
 ·obtain⟨x,hx,rfl⟩:=List.mem_map.mp hy
  refine⟨_,rfl,_,rfl,true,rfl,iteT ⟨_,rfl,_,_,rfl,rfl,?_⟩⟩
  have z:=hR H3 (Same.refl H3)
  have e:decide ((0:Int)≤((x:Nat):Int))=true:=decide_eq_true (Int.natCast_nonneg x)
  show R (V.bl (decide ((0:Int)≤((x:Nat):Int)))) H3
  rw[e]
  exact z
 ·have eb:((vN xs).filter fun _=>true).map (fun _=>V.bl true)=(xs.map fun _=>true).map V.bl:=by
   rw[List.filter_eq_self.mpr fun _ _=>rfl]
   unfold vN
   rw[List.map_map,List.map_map]
   rfl
  rw[eb] at hL4
  have ea:(xs.map fun _=>true).all id=true:=by
   rw[List.all_map]
   exact List.all_eq_true.mpr fun _ _=>rfl
  refine⟨lq,_,rfl,SqL.of hL4,?_⟩
  rw[ea]
  exact q H4 s4
def spFmPlace:Sp:=fun vs H Q _=>∃(p:Addr) (hs:List Nat) (lead:Nat) (ys:List Nat),vs=[.ref p]∧IsPl H p hs lead ys∧hs.length≤100∧ys.length≤100∧∀ H',Same H H'→Q (.bl true) H'
theorem scFmPlace:FnScope ["thing"] ["thing"] (defScope sFmPlace):=⟨rfl,rfl,rfl,by decide +kernel,rfl,by decide +kernel,by decide +kernel⟩
theorem ok_fmPlace{k:Nat}{f1 f2:Addr}{d1 d2:FuncData}(F:Fun K "is_formed_place" "is_formed_place" sFmPlace f fd)(LW:Lib P w K mg base k "is_whole" ["thing"] (spIsWhole K) f1 d1)(LZ:Lib P w K mg base k "are_from_zero_on" ["things"] spFromZero f2 d2)(mi:mg "isinstance" = none)(mT:mg "tuple" = none)(ml:mg "len" = none):FnOk P w K mg base CX0 (k+1) f fd ["thing"] spFmPlace:=by
 refine F.ok scFmPlace (fun vs H Q E h=>?_) (fun cdv A outer s H vs Q E hr h=>?_)
 ·obtain⟨p,hs,lead,ys,rfl,_⟩:=h
  rfl
 obtain⟨p,hs,lead,ys,rfl,⟨hp,tp,h1,h2,h3⟩,lh,ly,q⟩:=h
 refine⟨_,pss_cons (ps_if (PW.pt (pw_or (pt_not (pt_truth (pe_callB call_isT rfl mi PyProof.Rows.boot_isinstance (pa_cons (pv 0) (pa_cons (pe_bltn (v:=.ty "tuple") rfl mT PyProof.Rows.boot_tuple rfl) pa_nil))) (fun _=>rfl))) (pw_or1 (pt_cmpR op_ne (pe_callB call_len_seq rfl ml PySem.boot_len (pa_cons (pv 0) pa_nil)) pe_int (nomark _))))) (pss_one (ps_ret pe_bl)) pss_nil)
  (pss_one (ps_ret (pe_and (pe_call LZ.ok hr rfl LZ.mg LZ.kp LZ.bd .nil pass0 (pa_cons (pe_ix ix_tup (pv 0) pe_int (fun _ _=>rfl)) pa_nil)) (pe_and (pe_call LW.ok hr rfl LW.mg LW.kp LW.bd .nil pass0 (pa_cons (pe_ix ix_tup (pv 0) pe_int (fun _ _=>rfl)) pa_nil)) (pe_one (pe_call LZ.ok hr rfl LZ.mg LZ.kp LZ.bd .nil pass0 (pa_cons (pe_ix ix_tup (pv 0) pe_int (fun _ _=>rfl)) pa_nil))))))),?_⟩
 refine⟨_,rfl,_,_,_,true,rfl,.tup h1,rfl,_,rfl,iteF ?_⟩
 refine⟨_,rfl,p,_,rfl,.inr (SqT.of h1),rfl,_,rfl,iteF ?_⟩
 refine⟨_,rfl,p,_,_,_,rfl,rfl,SqT.of h1,(rfl:atI [V.ref hp,V.int (lead:Nat),V.ref tp] 0=some (V.ref hp)),hp,hs,rfl,h2,lh,fun H1 s1=>⟨true,rfl,iteT ?_⟩⟩
 refine⟨_,rfl,p,_,_,_,rfl,rfl,SqT.of (s1 _ _ h1),(rfl:atI [V.ref hp,V.int (lead:Nat),V.ref tp] 1=some (V.int (lead:Nat))),_,rfl,true,rfl,iteT ?_⟩
 exact⟨_,rfl,p,_,_,_,rfl,rfl,SqT.of (s1 _ _ h1),(rfl:atI [V.ref hp,V.int (lead:Nat),V.ref tp] 2=some (V.ref tp)),tp,ys,rfl,s1 _ _ h3,ly,fun H2 s2=>q H2 (s1.trans s2)⟩
def cdV:Option Int→V
 | none=>.non
 | some c=>.int c
structure Rw where
 hs:List Nat
 lead:Nat
 ys:List Nat
 nd:Int
 cd:Option Int
def Rw.k(r:Rw):PKey:=plK r.hs r.lead r.ys
structure Rw.Fm(r:Rw):Prop where
 lh:r.hs.length≤100
 ly:r.ys.length≤100
def IsRw(H:Hp)(r:Rw)(a:Addr):Prop:=∃ p,H a=some (.tup [.ref p,.int r.nd,cdV r.cd])∧IsPl H p r.hs r.lead r.ys
theorem IsRw.same{H H':Hp}{r:Rw}{a:Addr}(h:IsRw H r a)(s:Same H H'):IsRw H' r a:=by
 obtain⟨p,h1,h2⟩:=h
 exact⟨p,s _ _ h1,h2.same s⟩
def spFmRow:Sp:=fun vs H Q _=>∃(a:Addr) (r:Rw),vs=[.ref a]∧IsRw H r a∧r.Fm∧∀ H',Same H H'→Q (.bl true) H'
theorem scFmRow:FnScope ["thing"] ["thing"] (defScope sFmRow):=⟨rfl,rfl,rfl,by decide +kernel,rfl,by decide +kernel,by decide +kernel⟩
theorem ok_fmRow{k:Nat}{f1 f2:Addr}{d1 d2:FuncData}(F:Fun K "is_formed_row" "is_formed_row" sFmRow f fd)(LW:Lib P w K mg base k "is_whole" ["thing"] (spIsWhole K) f1 d1)(LP:Lib P w K mg base k "is_formed_place" ["thing"] spFmPlace f2 d2)(mi:mg "isinstance" = none)(mT:mg "tuple" = none)(ml:mg "len" = none):FnOk P w K mg base CX0 (k+1) f fd ["thing"] spFmRow:=by
 refine F.ok scFmRow (fun vs H Q E h=>?_) (fun cdv A outer s H vs Q E hr h=>?_)
 ·obtain⟨a,r,rfl,_⟩:=h
  rfl
 obtain⟨a,r,rfl,⟨p,h1,h2⟩,fm,q⟩:=h
 refine⟨_,pss_cons (ps_if (PW.pt (pw_or (pt_not (pt_truth (pe_callB call_isT rfl mi PyProof.Rows.boot_isinstance (pa_cons (pv 0) (pa_cons (pe_bltn (v:=.ty "tuple") rfl mT PyProof.Rows.boot_tuple rfl) pa_nil))) (fun _=>rfl))) (pw_or1 (pt_cmpR op_ne (pe_callB call_len_seq rfl ml PySem.boot_len (pa_cons (pv 0) pa_nil)) pe_int (nomark _))))) (pss_one (ps_ret pe_bl)) pss_nil)
  (pss_one (ps_ret (pe_and (pe_call LP.ok hr rfl LP.mg LP.kp LP.bd .nil pass0 (pa_cons (pe_ix ix_tup (pv 0) pe_int (fun _ _=>rfl)) pa_nil)) (pe_and (pe_call LW.ok hr rfl LW.mg LW.kp LW.bd .nil pass0 (pa_cons (pe_ix ix_tup (pv 0) pe_int (fun _ _=>rfl)) pa_nil)) (pe_one (pe_or (pe_cmpR op_isN (pe_ix ix_tup (pv 0) pe_int (fun _ _=>rfl)) pe_non (nomark _)) (pe_one (pe_call LW.ok hr rfl LW.mg LW.kp LW.bd .nil pass0 (pa_cons (pe_ix ix_tup (pv 0) pe_int (fun _ _=>rfl)) pa_nil))))))))),?_⟩
 refine⟨_,rfl,_,_,_,true,rfl,.tup h1,rfl,_,rfl,iteF ?_⟩
 refine⟨_,rfl,a,_,rfl,.inr (SqT.of h1),rfl,_,rfl,iteF ?_⟩
 refine⟨_,rfl,a,_,_,_,rfl,rfl,SqT.of h1,(rfl:atI [V.ref p,V.int r.nd,cdV r.cd] 0=some (V.ref p)),p,r.hs,r.lead,r.ys,rfl,h2,fm.lh,fm.ly,fun H1 s1=>⟨true,rfl,iteT ?_⟩⟩
 refine⟨_,rfl,a,_,_,_,rfl,rfl,SqT.of (s1 _ _ h1),(rfl:atI [V.ref p,V.int r.nd,cdV r.cd] 1=some (V.int r.nd)),_,rfl,true,rfl,iteT ?_⟩
 refine⟨_,rfl,a,_,_,_,rfl,rfl,SqT.of (s1 _ _ h1),(rfl:atI [V.ref p,V.int r.nd,cdV r.cd] 2=some (cdV r.cd)),?_⟩
 cases hc:r.cd with
 | none=>exact⟨rfl,true,rfl,iteT (q H1 s1)⟩
 | some c=>
  rw[hc] at h1
  exact⟨rfl,false,rfl,iteF ⟨_,rfl,a,_,_,_,rfl,rfl,SqT.of (s1 _ _ h1),(rfl:atI [V.ref p,V.int r.nd,cdV (some c)] 2=some (V.int c)),c,rfl,q H1 s1⟩⟩
end
end My
namespace My
open PySem L2
abbrev sNeeds:Stmt:=top 47
abbrev sCovers:Stmt:=top 48
abbrev sIsRight:Stmt:=top 49
abbrev sRowRight:Stmt:=top 50
abbrev sHolds:Stmt:=top 51
section
variable{P:Program}{w:World}{K:PySem.W.Frag}{mg:Str→Option Value}{base:Heap}{f g:Addr}{fd gd:FuncData}
def ndR(rs:List Rw)(k:PKey):Int:=rs.foldl (fun a r=>if r.k=k then max r.nd a else a) 0
theorem ndR_snoc(rs:List Rw)(r:Rw)(k:PKey):ndR (rs++[r]) k=if r.k=k then max r.nd (ndR rs k) else ndR rs k:=by
 unfold ndR
 rw[List.foldl_append]
 rfl
def rwV(as:List (Rw×Addr)):List V:=as.map fun e=>.ref e.2
def RwsH(H:Hp)(as:List (Rw×Addr)):Prop:=∀ e∈as,IsRw H e.1 e.2∧e.1.Fm
theorem RwsH.same{H H':Hp}{as:List (Rw×Addr)}(h:RwsH H as)(s:Same H H'):RwsH H' as:=fun e he=>⟨(h e he).1.same s,(h e he).2⟩
structure NdD(P:Program)(w:World)(H:Hp)(d:Addr)(nd:PKey→Int)(n:Nat):Prop where
 o:∃ es,H d=some (GDict (plKnd P w) d es)∧GKeys (plKnd P w) H es∧es.length≤n∧∀ k,(gAt es k).getD (.int 0) = .int (nd k)
theorem NdD.same{H H':Hp}{d:Addr}{nd:PKey→Int}{n:Nat}(h:NdD P w H d nd n)(s:Same H H'):NdD P w H' d nd n:=by
 obtain⟨es,h1,h2,h3,h4⟩:=h.o
 exact⟨es,s _ _ h1,h2.mono _ (fun b ys e=>s _ _ e),h3,h4⟩
theorem maxI(i j:Int):(if j > i then j else i)=max i j:=by
 rw[Int.max_def]
 split<;>split<;>omega
def spNeeds(P:Program)(w:World):Sp:=fun vs H Q _=>∃(l:Addr) (as:List (Rw×Addr)),vs=[.ref l]∧H l=some (.lst (rwV as))∧RwsH H as∧as.length < sizeLine ∧
 ∀ d H',Same H H'→NdD P w H' d (ndR (as.map (·.1))) as.length→Q (.ref d) H'
abbrev nNeeds:List Str:=["paper","needs","row"]
theorem scNeeds:FnScope nNeeds ["paper"] (defScope sNeeds):=⟨rfl,rfl,rfl,by decide +kernel,rfl,by decide +kernel,by decide +kernel⟩
theorem ok_needs{k:Nat}{f1:Addr}{d1:FuncData}(F:Fun K "greatest_needs" "greatest_needs" sNeeds f fd)(LF:Lib P w K mg base k "is_formed_row" ["thing"] spFmRow f1 d1)(mM:mg "max" = none):FnOk P w K mg base CX0 (k+1) f fd ["paper"] (spNeeds P w):=by
 refine F.ok scNeeds (fun vs H Q E h=>?_) (fun cdv A outer s H vs Q E hr h=>?_)
 ·obtain⟨l,as,rfl,_⟩:=h
  rfl
 obtain⟨l,as,rfl,hl,hR,hn,q⟩:=h
 have hu:=Nat.lt_of_le_of_lt (Nat.add_le_add_left (by decide:20≤64) _) hr.units
 refine⟨_,pss_cons (ps_set (i:=1) scNeeds.nd rfl (Or.inl rfl) (pe_gnew (plKnd P w)))
  (pss_cons (ps_for PassesOwn.never rfl (pi_list (pv 0)) (pg_name (i:=2) scNeeds.nd rfl (Or.inl rfl))
   (pss_one (ps_if (pt_truth (pe_call LF.ok hr rfl LF.mg LF.kp LF.bd .nil pass0 (pa_cons (pv 2) pa_nil)) (fun _=>rfl))
    (pss_one (ps_gput (plKnd P w) hu (pv 1) (pe_ix ix_tup (pv 2) pe_int (fun _ _=>rfl)) (pe_callB (call_max2 rfl) rfl mM PyProof.Rows.boot_max (pa_cons (pe_ix ix_tup (pv 2) pe_int (fun _ _=>rfl)) (pa_cons (pe_gget2 (plKnd P w) hu (pv 1) (pe_ix ix_tup (pv 2) pe_int (fun _ _=>rfl)) pe_int ⟨rfl,rfl,rfl,rfl⟩) pa_nil))) rfl)) pss_nil)))
  (pss_one (ps_ret (pv 1)))),?_⟩
 refine fun d hd=>?_
 have s1:=same_upd hd (GDict (plKnd P w) d [])
 refine⟨_,rfl,l,rfl,⟨_,SqL.of (s1 _ _ hl)⟩,for_list (xs:=rwV as) (fun i σ H2=>Same H H2∧NdD P w H2 d (ndR ((as.map (·.1)).take i)) i∧∃ x,σ=[some (.ref l),some (.ref d),x]) ⟨s1,⟨[],upd_same,(fun e he=>nomatch he),Nat.le_refl _,fun k=>rfl⟩,none,rfl⟩ (fun i σ H2 _ z=>SqL.of (z.1 _ _ hl)) (fun i x σ H2 hx z=>?_) (fun σ H2 z=>?_)⟩
 ·obtain⟨s2,⟨es,e1,e2,e3,e4⟩,x0,rfl⟩:=z
  obtain⟨⟨r,a⟩,hi,rfl⟩:∃ e,as[i]? = some e∧x = .ref e.2:=by
   unfold rwV at hx
   rw[List.getElem?_map] at hx
   obtain⟨e,he,rfl⟩:=Option.map_eq_some_iff.mp hx
   exact⟨e,he,rfl⟩
  have il:i < as.length:=(List.getElem?_eq_some_iff.mp hi).1
  obtain⟨hr1,fm⟩:=(hR.same s2) _ (List.mem_of_getElem? hi)
  have tk:(as.map (·.1)).take (i+1)=(as.map (·.1)).take i++[r]:=by
   rw[List.take_succ,List.getElem?_map,hi]
   rfl
  refine⟨_,rfl,a,r,rfl,hr1,fm,fun H3 s3=>⟨true,rfl,iteT ?_⟩⟩
  obtain⟨p,h1,h2⟩:=hr1.same s3
  have g3:=s3 _ _ e1
  have k3:GKeys (plKnd P w) H3 es:=e2.mono _ (fun b ys e=>s3 _ _ e)
  have kp:=plK_key h2
  refine⟨_,rfl,a,_,_,_,rfl,rfl,SqT.of h1,(rfl:atI [V.ref p,V.int r.nd,cdV r.cd] 1=some (V.int r.nd)),?_⟩
  refine⟨_,rfl,d,es,rfl,g3,k3,_,rfl,a,_,_,_,rfl,rfl,SqT.of h1,(rfl:atI [V.ref p,V.int r.nd,cdV r.cd] 0=some (V.ref p)),es,r.k,p,g3,k3,rfl,kp,r.nd,ndR ((as.map (·.1)).take i) r.k,?_,?_⟩
  ·rw[e4]
  refine⟨_,rfl,_,rfl,a,_,_,_,rfl,rfl,SqT.of h1,(rfl:atI [V.ref p,V.int r.nd,cdV r.cd] 0=some (V.ref p)),d,es,r.k,p,rfl,g3,k3,rfl,kp,by omega,?_⟩
  have gt:∀ ys,GDict (plKnd P w) d es ≠ .tup ys:=fun ys e=>by cases e
  have tt:∀ b ys,H3 b=some (.tup ys)→upd H3 d (GDict (plKnd P w) d (gPut es r.k p (.int (if ndR ((as.map (·.1)).take i) r.k > r.nd then ndR ((as.map (·.1)).take i) r.k else r.nd)))) b=some (.tup ys):=fun b ys e=>by
   rw[upd_ne (tup_ne e g3 gt)]
   exact e
  refine⟨fun b o e=>?_,⟨_,upd_same,(gPut_keys _ k3 kp).mono _ tt,by have:=gPut_len (es:=es) (k:=r.k) (b:=p) (v:=.int (if ndR ((as.map (·.1)).take i) r.k > r.nd then ndR ((as.map (·.1)).take i) r.k else r.nd));omega,fun j=>?_⟩,_,rfl⟩
  ·have nb:b≠d:=fun z=>by rw[z,hd] at e;cases e
   rw[upd_ne nb]
   exact(s2.trans s3) _ _ e
  ·rw[gAt_put,tk,ndR_snoc]
   by_cases c:j=r.k
   ·rw[if_pos c,if_pos c.symm,maxI,c]
    rfl
   ·rw[if_neg c,if_neg (fun z=>c z.symm)]
    exact e4 j
 ·obtain⟨s2,N,x,rfl⟩:=z
  refine⟨_,rfl,q d H2 s2 ?_⟩
  have el:(rwV as).length=as.length:=List.length_map ..
  rw[el,List.take_of_length_le (by rw[List.length_map];exact Nat.le_refl _)] at N
  exact N
noncomputable def covB (fx:Fx) (t:Option Nat) (side:Nat) (nd:PKey→Int) (hs:List Nat) (lead:Nat) (ys:List Nat) (c:Nat) (need:Int):Bool:=
 decide (need - ((gainN side (nxF fx t hs lead ys (hs.getD ((lead+ys.length) % fx.n) 0) c).2.2.2:Nat):Int)≤nd (plK (nxF fx t hs lead ys (hs.getD ((lead+ys.length) % fx.n) 0) c).1 (nxF fx t hs lead ys (hs.getD ((lead+ys.length) % fx.n) 0) c).2.1 (nxF fx t hs lead ys (hs.getD ((lead+ys.length) % fx.n) 0) c).2.2.1))
theorem covB_eq{fx:Fx}{t:Option Nat}{side:Nat}{nd:PKey→Int}{hs:List Nat}{lead:Nat}{ys:List Nat}{m h c:Nat}{need:Int}{hs':List Nat}{lead':Nat}{ys':List Nat}{tk:Option Nat}(Pl:Plc fx hs lead ys m)(eh:hs[(lead+ys.length) % fx.n]? = some h)(hb:h.testBit c=true)(N:Nxt fx t hs lead ys h c hs' lead' ys' tk) :
  covB fx t side nd hs lead ys c need=decide (need - ((gainN side tk:Nat):Int)≤nd (plK hs' lead' ys')):=by
 have eg:hs.getD ((lead+ys.length) % fx.n) 0=h:=by rw[List.getD_eq_getElem?_getD,eh];rfl
 unfold covB
 rw[eg,nxF_eq Pl eh hb N]
def spCovers(P:Program)(w:World)(CT CG:Addr):Sp:=fun vs H Q _=>∃(gm x d p:Addr) (t:Option Nat) (fx:Fx) (side:Nat) (nd:PKey→Int) (n:Nat) (hs ys:List Nat) (lead m h c:Nat) (need:Int),vs=[.ref gm,.int (side:Nat),.ref d,.ref p,.int (c:Nat),.int need]∧GamH CT CG fx t H gm x∧NdD P w H d nd n∧(∀ k,0≤nd k)∧IsPl H p hs lead ys∧Plc fx hs lead ys m∧hs[(lead+ys.length) % fx.n]? = some h∧h.testBit c=true ∧
 ∀ H',Same H H'→Q (.bl (covB fx t side nd hs lead ys c need)) H'
abbrev nCovers:List Str:=["game","side","needs","place","card","need","step","rest"]
theorem scCovers:FnScope nCovers ["game","side","needs","place","card","need"] (defScope sCovers):=⟨rfl,rfl,rfl,by decide +kernel,rfl,by decide +kernel,by decide +kernel⟩
theorem ok_covers{k:Nat}{CT CG f1 f2:Addr}{d1 d2:FuncData}(F:Fun K "covers" "covers" sCovers f fd)(LB:Lib P w K mg base k "behind" ["game","place","card"] (spBehind K CT CG) f1 d1)(LG:Lib P w K mg base k "gain" ["side","taker"] spGain f2 d2):FnOk P w K mg base CX0 (k+1) f fd ["game","side","needs","place","card","need"] (spCovers P w CT CG):=by
 refine F.ok scCovers (fun vs H Q E h=>?_) (fun cdv A outer s H vs Q E hr h=>?_)
 ·obtain⟨gm,x,d,p,t,fx,side,nd,n,hs,ys,lead,m,h,c,need,rfl,_⟩:=h
  rfl
 obtain⟨gm,x,d,p,t,fx,side,nd,n,hs,ys,lead,m,h,c,need,rfl,G,D,nd0,hp,Pl,eh,hb,q⟩:=h
 have hu:=Nat.lt_of_le_of_lt (Nat.add_le_add_left (by decide:20≤64) _) hr.units
 refine⟨_,pss_cons (ps_set (i:=6) scCovers.nd rfl (Or.inl rfl) (pe_call LB.ok hr rfl LB.mg LB.kp LB.bd .nil pass0 (pa_cons (pv 0) (pa_cons (pv 3) (pa_cons (pv 4) pa_nil)))))
  (pss_cons (ps_set (i:=7) scCovers.nd rfl (Or.inl rfl) (pe_op op_sub (pv 5) (pe_call LG.ok hr rfl LG.mg LG.kp LG.bd .nil pass0 (pa_cons (pv 1) (pa_cons (pe_ix ix_tup (pv 6) pe_int (fun _ _=>rfl)) pa_nil)))))
  (pss_one (ps_ret (pe_or (pe_cmpR op_le (pv 7) pe_int (nomark _)) (pe_one (pe_cmpR op_ge (pe_gget2 (plKnd P w) hu (pv 2) (pe_ix ix_tup (pv 6) pe_int (fun _ _=>rfl)) pe_int ⟨rfl,rfl,rfl,rfl⟩) (pv 7) (nomark _))))))),?_⟩
 refine⟨_,rfl,_,rfl,_,rfl,gm,x,p,t,fx,hs,ys,lead,m,h,c,rfl,G,hp,Pl,eh,hb,fun st p' hs' lead' ys' tk H2 s2 N hst hp'=>?_⟩
 have e:=covB_eq (side:=side) (nd:=nd) (need:=need) Pl eh hb N
 refine⟨_,rfl,_,rfl,_,rfl,st,_,_,_,rfl,rfl,SqT.of hst,(rfl:atI [V.ref p',tkV tk] 1=some (tkV tk)),side,tk,rfl,_,_,rfl,rfl,?_⟩
 obtain⟨es,g1,g2,g3,g4⟩:=(D.same s2).o
 refine⟨_,rfl,_,_,rfl,rfl,_,rfl,?_⟩
 by_cases c0:need - ((gainN side tk:Nat):Int)≤0
 ·refine chg (decide_eq_true c0) (iteT ?_)
  have z:=q H2 s2
  rw[e,decide_eq_true (Int.le_trans c0 (nd0 _))] at z
  exact z
 ·refine chg (decide_eq_false c0) (iteF ?_)
  refine⟨_,rfl,d,es,rfl,g1,g2,_,rfl,st,_,_,_,rfl,rfl,SqT.of hst,(rfl:atI [V.ref p',tkV tk] 0=some (V.ref p')),es,plK hs' lead' ys',p',g1,g2,rfl,plK_key hp',_,rfl,nd (plK hs' lead' ys'),_,?_,rfl,?_⟩
  ·rw[g4]
  ·have z:=q H2 s2
   rw[e] at z
   exact z
def natV:V→Nat
 | .int i=>i.toNat
 | _=>0
theorem natV_nat(c:Nat):natV (.int ((c:Nat):Int))=c:=Int.toNat_natCast c
theorem may_few{fx:Fx}{t:Option Nat}{ys:List Nat}{h:Nat}(h32:h < 4294967296):(mayL fx t ys h).length≤1000:=by
 unfold mayL cardsN
 refine Nat.le_trans (List.length_filter_le _ _) ?_
 rw[List.length_range]
 decide
def lfN(hs:List Nat):Nat:=pickN true (hs.map (pcK 32))
theorem lfN_eq{fx:Fx}{hs:List Nat}{lead:Nat}{ys:List Nat}{m:Nat}(ok:fx.Ok)(Pl:Plc fx hs lead ys m):lfN hs=m:=by
 obtain⟨m1,m2⟩:=Pl.max ok
 exact pick_max m1 m2
noncomputable def rtB (fx:Fx) (t:Option Nat) (side:Nat) (nd:PKey→Int) (r:Rw):Bool:=
 decide (1≤r.nd) && (decide (r.nd≤((lfN r.hs:Nat):Int)) && (if side.testBit ((r.lead+r.ys.length) % fx.n)=true
  then(match r.cd with | some c=>(moveL fx t r.hs r.lead r.ys (lfN r.hs)).any (fun d=>decide (((d:Nat):Int)=c)) && covB fx t side nd r.hs r.lead r.ys c.toNat r.nd | none=>false)
  else(match r.cd with | some _=>false | none=>(moveL fx t r.hs r.lead r.ys (lfN r.hs)).all fun c=>covB fx t side nd r.hs r.lead r.ys c r.nd)))
theorem in_vNI(c:Int)(xs:List Nat):inV (.int c) (vN xs)=xs.any fun d=>decide (((d:Nat):Int)=c):=by
 unfold inV vN
 rw[List.any_map]
 refine congrArg (fun g=>xs.any g) (funext fun d=>?_)
 show eqV (V.int ((d:Nat):Int)) (V.int c)=_
 rfl
theorem in_non(xs:List Nat):inV .non (vN xs)=false:=by
 unfold inV vN
 rw[List.any_map]
 exact List.any_eq_false.mpr fun d _=>Bool.false_ne_true
def spIsPlB(CT CG:Addr)(Ok:Fx→List Nat→Nat→List Nat→Bool→Prop):Sp:=fun vs H Q _=>∃(gm x p:Addr) (t:Option Nat) (fx:Fx) (hs ys:List Nat) (lead:Nat) (b:Bool),vs=[.ref gm,.ref p]∧GamH CT CG fx t H gm x∧IsPl H p hs lead ys∧Ok fx hs lead ys b∧∀ H',Same H H'→Q (.bl b) H'
def spIsRight(P:Program)(w:World)(CT CG:Addr)(Ok:Fx→List Nat→Nat→List Nat→Bool→Prop):Sp:=fun vs H Q _=>∃(gm x d a:Addr) (t:Option Nat) (fx:Fx) (side:Nat) (nd:PKey→Int) (n:Nat) (r:Rw) (b:Bool),vs=[.ref gm,.int (side:Nat),.ref d,.ref a]∧GamH CT CG fx t H gm x∧TrB t∧NdD P w H d nd n∧(∀ k,0≤nd k)∧IsRw H r a∧r.Fm∧Ok fx r.hs r.lead r.ys b ∧
 ∀ H',Same H H'→Q (.bl (b && rtB fx t side nd r)) H'
abbrev nRight:List Str:=["game","side","needs","row","place","need","choice"]
theorem scRight:FnScope nRight ["game","side","needs","row"] (defScope sIsRight):=⟨rfl,rfl,rfl,by decide +kernel,rfl,by decide +kernel,by decide +kernel⟩
theorem ok_isRight{k:Nat}{CT CG f1 f2 f3 f4 f5 f6 f7:Addr}{d1 d2 d3 d4 d5 d6 d7:FuncData}{Ok:Fx→List Nat→Nat→List Nat→Bool→Prop}(hOk:∀ fx hs lead ys,Ok fx hs lead ys true→∃ m,Plc fx hs lead ys m)
  (F:Fun K "is_right" "is_right" sIsRight f fd) (LF:Lib P w K mg base k "is_formed_row" ["thing"] spFmRow f1 d1) (LI:Lib P w K mg base k "is_place" ["game","place"] (spIsPlB CT CG Ok) f2 d2) (LL:Lib P w K mg base k "left" ["place"] (spLeft K) f3 d3) (LM:Lib P w K mg base k "moves" ["game","place"] (spMoves CT CG) f4 d4)
  (LH:Lib P w K mg base k "has_seat" ["side","seat"] spHasSeat f5 d5) (LT:Lib P w K mg base k "turn_at" ["game","place"] (spTurnAt CT CG) f6 d6) (LC:Lib P w K mg base k "covers" ["game","side","needs","place","card","need"] (spCovers P w CT CG) f7 d7) (mA:mg "all" = none) :
  FnOk P w K mg base CX0 (k+1) f fd ["game","side","needs","row"] (spIsRight P w CT CG Ok):=by
 refine F.ok scRight (fun vs H Q E h=>?_) (fun cdv A outer s H vs Q E hr h=>?_)
 ·obtain⟨gm,x,d,a,t,fx,side,nd,n,r,b,rfl,_⟩:=h
  rfl
 obtain⟨gm,x,d,a,t,fx,side,nd,n,r,b,rfl,G,tb,D,nd0,hR,fm,hO,q⟩:=h
 refine⟨_,pss_cons (ps_if (PW.pt (pw_or (pt_not (pt_truth (pe_call LF.ok hr rfl LF.mg LF.kp LF.bd .nil pass0 (pa_cons (pv 3) pa_nil)) (fun _=>rfl))) (pw_or1 (pt_not (pt_truth (pe_call LI.ok hr rfl LI.mg LI.kp LI.bd .nil pass0 (pa_cons (pv 0) (pa_cons (pe_ix ix_tup (pv 3) pe_int (fun _ _=>rfl)) pa_nil))) (fun _=>rfl)))))) (pss_one (ps_ret pe_bl)) pss_nil)
  (pss_cons (ps_set (i:=4) scRight.nd rfl (Or.inr rfl) (pe_ix ix_tup (pv 3) pe_int (fun _ _=>rfl)))
  (pss_cons (ps_set (i:=5) scRight.nd rfl (Or.inr rfl) (pe_ix ix_tup (pv 3) pe_int (fun _ _=>rfl)))
  (pss_cons (ps_if (PW.pt (pw_or (pt_cmpR op_lt (pv 5) pe_int (nomark _)) (pw_or1 (pt_cmpR op_gt (pv 5) (pe_call LL.ok hr rfl LL.mg LL.kp LL.bd .nil pass0 (pa_cons (pv 4) pa_nil)) (nomark _))))) (pss_one (ps_ret pe_bl)) pss_nil)
  (pss_cons (ps_set (i:=6) scRight.nd rfl (Or.inl rfl) (pe_call LM.ok hr rfl LM.mg LM.kp LM.bd .nil pass0 (pa_cons (pv 0) (pa_cons (pv 4) pa_nil))))
  (pss_cons (ps_if (pt_truth (pe_call LH.ok hr rfl LH.mg LH.kp LH.bd .nil pass0 (pa_cons (pv 1) (pa_cons (pe_call LT.ok hr rfl LT.mg LT.kp LT.bd .nil pass0 (pa_cons (pv 0) (pa_cons (pv 4) pa_nil))) pa_nil))) (fun _=>rfl))
   (pss_one (ps_ret (pe_and (pe_cmpR op_in_seq (pe_ix ix_tup (pv 3) pe_int (fun _ _=>rfl)) (pv 6) rfl) (pe_one (pe_call LC.ok hr rfl LC.mg LC.kp LC.bd .nil pass0 (pa_cons (pv 0) (pa_cons (pv 1) (pa_cons (pv 2) (pa_cons (pv 4) (pa_cons (pe_ix ix_tup (pv 3) pe_int (fun _ _=>rfl)) (pa_cons (pv 5) pa_nil)))))))))) ) pss_nil)
  (pss_one (ps_ret (pe_and (pe_cmpR op_isN (pe_ix ix_tup (pv 3) pe_int (fun _ _=>rfl)) pe_non (nomark _)) (pe_one (pe_callB (call_allL rfl) rfl mA PyProof.Rows.boot_all (pa_cons (pe_comp ["card","game","side","needs","place","need"] [none,some 0,some 1,some 2,some 4,some 5] rfl (Blk.by (sc:=defScope sIsRight) (N0:=nRight) rfl rfl (by decide +kernel)) (pi_list (pv 6)) (fun C s₀ H₀ ex=>pg_name (i:=0) (show(["card","game","side","needs","place","need"]:List Str).Nodup by decide +kernel) rfl (Or.inl rfl)) (fun C s₀ H₀ ex=>pf_nil)
   (fun C s₀ H₀ ex=>pe_call LC.ok hr rfl LC.mg LC.kp LC.bd .nil pass0 (pa_cons (pv 1) (pa_cons (pv 2) (pa_cons (pv 3) (pa_cons (pv 4) (pa_cons (pv 0) (pa_cons (pv 5) pa_nil)))))))) pa_nil))))))))))),?_⟩
 have ok:=G.ok
 refine⟨_,rfl,a,r,rfl,hR,fm,fun H1 s1=>⟨_,rfl,iteF ?_⟩⟩
 obtain⟨p,hp0,hPl0⟩:=id hR
 have a1:=s1 _ _ hp0
 refine⟨_,rfl,_,rfl,a,_,_,_,rfl,rfl,SqT.of a1,(rfl:atI [V.ref p,V.int r.nd,cdV r.cd] 0=some (V.ref p)),gm,x,p,t,fx,r.hs,r.ys,r.lead,b,rfl,G.same s1,hPl0.same s1,hO,fun H2 s2=>⟨_,rfl,?_⟩⟩
 cases b with
 | false=>exact iteT (q H2 (s1.trans s2))
 | true=>
 refine iteF ?_
 obtain⟨m,Pl⟩:=hOk _ _ _ _ hO
 have em:=lfN_eq ok Pl
 have s12:=s1.trans s2
 have a2:=s12 _ _ hp0
 refine⟨_,rfl,a,_,_,_,rfl,rfl,SqT.of a2,(rfl:atI [V.ref p,V.int r.nd,cdV r.cd] 0=some (V.ref p)),?_⟩
 refine⟨_,rfl,a,_,_,_,rfl,rfl,SqT.of a2,(rfl:atI [V.ref p,V.int r.nd,cdV r.cd] 1=some (V.int r.nd)),?_⟩
 refine⟨_,rfl,_,_,rfl,rfl,_,rfl,?_⟩
 by_cases c1:r.nd < 1
 ·refine chg (decide_eq_true c1) (iteT ?_)
  have z:=q H2 s12
  unfold rtB at z
  rw[decide_eq_false (by omega:¬ 1≤r.nd)] at z
  exact z
 refine chg (decide_eq_false c1) (iteF ?_)
 refine⟨_,rfl,_,rfl,p,fx,r.hs,r.ys,r.lead,m,rfl,ok,hPl0.same s12,Pl,fun H3 s3=>?_⟩
 have s13:=s12.trans s3
 refine⟨_,_,rfl,rfl,_,rfl,?_⟩
 by_cases c2:((m:Nat):Int) < r.nd
 ·refine chg (decide_eq_true c2) (iteT ?_)
  have z:=q H3 s13
  unfold rtB at z
  rw[em,decide_eq_false (by omega:¬ r.nd≤((m:Nat):Int)),Bool.false_and,Bool.and_false,Bool.and_false] at z
  exact z
 refine chg (decide_eq_false c2) (iteF ?_)
 have m0:m≠0:=by omega
 unfold rtB at q
 rw[em,decide_eq_true (by omega:1≤r.nd),decide_eq_true (by omega:r.nd≤((m:Nat):Int)),Bool.true_and,Bool.true_and,Bool.true_and] at q
 obtain⟨h,eh,epc⟩:=Pl.turn ok
 have h32:=Pl.h32 ok (List.mem_of_getElem? eh)
 have eg:r.hs.getD ((r.lead+r.ys.length) % fx.n) 0=h:=by rw[List.getD_eq_getElem?_getD,eh];rfl
 have eM:moveL fx t r.hs r.lead r.ys m=mayL fx t r.ys h:=by
  unfold moveL
  rw[if_neg m0,eg]
 refine⟨_,rfl,_,rfl,gm,x,p,t,fx,r.hs,r.ys,r.lead,m,rfl,G.same s13,tb,hPl0.same s13,Pl,fun lm H4 s4 hlm hm4=>?_⟩
 have s14:=s13.trans s4
 refine⟨_,rfl,_,rfl,_,rfl,gm,x,p,t,fx,r.hs,r.ys,r.lead,m,rfl,G.same s14,hPl0.same s14,Pl,fun H5 s5=>?_⟩
 have s15:=s14.trans s5
 have tv:turnV fx r.lead r.ys m = .int (((r.lead+r.ys.length) % fx.n:Nat):Int):=if_neg m0
 refine⟨side,(r.lead+r.ys.length) % fx.n,?_,?_⟩
 ·rw[tv]
  rfl
 refine⟨_,rfl,?_⟩
 have a5:=s15 _ _ hp0
 have m5:=s5 _ _ hm4
 have mfl:(vN (moveL fx t r.hs r.lead r.ys m)).all flatV=true:=List.all_eq_true.mpr fun y hy=>by
  obtain⟨c,_,rfl⟩:=List.mem_map.mp hy
  rfl
 cases hsd:side.testBit ((r.lead+r.ys.length) % fx.n) with
 | true=>
  rw[hsd,if_pos rfl] at q
  refine iteT ⟨_,rfl,a,_,_,_,rfl,rfl,SqT.of a5,(rfl:atI [V.ref p,V.int r.nd,cdV r.cd] 2=some (cdV r.cd)),?_⟩
  cases hc:r.cd with
  | none=>
   rw[hc] at q
   refine⟨_,rfl,lm,_,rfl,.inl (SqL.of m5),rfl,mfl,_,rfl,?_⟩
   refine chg (in_non _) (iteF ?_)
   exact q H5 s15
  | some c=>
   rw[hc] at q
   dsimp only at q
   refine⟨_,rfl,lm,_,rfl,.inl (SqL.of m5),rfl,mfl,_,rfl,?_⟩
   cases hin:(moveL fx t r.hs r.lead r.ys m).any fun d=>decide (((d:Nat):Int)=c) with
   | false=>
    rw[hin,Bool.false_and] at q
    refine chg ((in_vNI c _).trans hin) (iteF ?_)
    exact q H5 s15
   | true=>
    rw[hin,Bool.true_and] at q
    refine chg ((in_vNI c _).trans hin) (iteT ?_)
    obtain⟨e,he,ee⟩:=List.any_eq_true.mp hin
    have ec:c=((e:Nat):Int):=(of_decide_eq_true ee).symm
    subst ec
    rw[eM] at he
    have hb:=(may_in h32 he).1
    rw[Int.toNat_natCast] at q
    rw[hc] at a5
    refine⟨_,rfl,_,rfl,_,rfl,_,rfl,_,rfl,a,_,_,_,rfl,rfl,SqT.of a5,(rfl:atI [V.ref p,V.int r.nd,cdV (some ((e:Nat):Int))] 2=some (V.int ((e:Nat):Int))),_,rfl,gm,x,d,p,t,fx,side,nd,n,r.hs,r.ys,r.lead,m,h,e,r.nd,rfl,G.same s15,D.same s15,nd0,hPl0.same s15,Pl,eh,hb,fun H6 s6=>q H6 (s15.trans s6)⟩
 | false=>
  rw[hsd,if_neg Bool.false_ne_true] at q
  refine iteF ⟨_,rfl,a,_,_,_,rfl,rfl,SqT.of a5,(rfl:atI [V.ref p,V.int r.nd,cdV r.cd] 2=some (cdV r.cd)),?_⟩
  cases hc:r.cd with
  | some c=>
   rw[hc] at q
   exact⟨rfl,false,rfl,iteF (q H5 s15)⟩
  | none=>
   rw[hc] at q
   dsimp only at q
   refine⟨rfl,true,rfl,iteT ?_⟩
   refine⟨_,rfl,lm,rfl,⟨_,SqL.of m5⟩,comp_list (K:=K) (xs:=vN (moveL fx t r.hs r.lead r.ys m)) (fun _=>true) (fun y=>.bl (covB fx t side nd r.hs r.lead r.ys (natV y) r.nd)) (SqL.of m5) (fits3 _ (by rw[vN_len,eM];exact may_few h32)) (fun y H6 hy sm R hR=>hR H6 (Same.refl H6)) (fun y H6 hy hp6 s6 R hR6=>?_) (fun lq H6 s6 hlq hq6=>?_)⟩
   ·obtain⟨c,hcm,rfl⟩:=List.mem_map.mp hy
    rw[eM] at hcm
    have hb:=(may_in h32 hcm).1
    have s16:=s15.trans s6
    refine⟨_,rfl,_,rfl,_,rfl,_,rfl,_,rfl,_,rfl,gm,x,d,p,t,fx,side,nd,n,r.hs,r.ys,r.lead,m,h,c,r.nd,rfl,G.same s16,D.same s16,nd0,hPl0.same s16,Pl,eh,hb,fun H7 s7=>?_⟩
    have z:=hR6 H7 s7
    rw[natV_nat] at z
    exact z
   ·have eb:((vN (moveL fx t r.hs r.lead r.ys m)).filter fun _=>true).map (fun y=>V.bl (covB fx t side nd r.hs r.lead r.ys (natV y) r.nd))=((moveL fx t r.hs r.lead r.ys m).map fun c=>covB fx t side nd r.hs r.lead r.ys c r.nd).map V.bl:=by
     rw[List.filter_eq_self.mpr fun _ _=>rfl]
     unfold vN
     rw[List.map_map,List.map_map]
     refine List.map_congr_left fun c _=>?_
     show V.bl (covB fx t side nd r.hs r.lead r.ys (natV (V.int ((c:Nat):Int))) r.nd)=_
     rw[natV_nat]
     rfl
    rw[eb] at hq6
    refine⟨lq,_,rfl,SqL.of hq6,?_⟩
    have z:=q H6 (s15.trans s6)
    have ea:(((moveL fx t r.hs r.lead r.ys m).map fun c=>covB fx t side nd r.hs r.lead r.ys c r.nd).all id)=(moveL fx t r.hs r.lead r.ys m).all fun c=>covB fx t side nd r.hs r.lead r.ys c r.nd:=by
     rw[List.all_map]
     rfl
    rw[ea]
    exact z
theorem ndR_nn(rs:List Rw)(k:PKey):0≤ndR rs k:=by
 unfold ndR
 have:∀(l:List Rw) (a:Int),0≤a→0≤l.foldl (fun a r=>if r.k=k then max r.nd a else a) a:=by
  intro l
  induction l with
  | nil=>exact fun a h=>h
  | cons r l ih=>
   intro a h
   rw[List.foldl_cons]
   refine ih _ ?_
   split
   ·exact Int.le_trans h (Int.le_max_right _ _)
   ·exact h
 exact this rs 0 (Int.le_refl _)
def spRowRight(P:Program)(w:World)(CT CG:Addr)(Ok:Fx→List Nat→Nat→List Nat→Bool→Prop):Sp:=fun vs H Q _=>∃(gm x l a:Addr) (t:Option Nat) (fx:Fx) (side:Nat) (as:List (Rw×Addr)) (r:Rw) (b:Bool),vs=[.ref gm,.int (side:Nat),.ref l,.ref a]∧GamH CT CG fx t H gm x∧TrB t∧H l=some (.lst (rwV as))∧RwsH H as∧as.length < sizeLine∧IsRw H r a∧r.Fm∧Ok fx r.hs r.lead r.ys b ∧
 ∀ H',Same H H'→Q (.bl (b && rtB fx t side (ndR (as.map (·.1))) r)) H'
theorem scRowRight:FnScope ["game","side","paper","row"] ["game","side","paper","row"] (defScope sRowRight):=⟨rfl,rfl,rfl,by decide +kernel,rfl,by decide +kernel,by decide +kernel⟩
theorem ok_rowRight{k:Nat}{CT CG f1 f2:Addr}{d1 d2:FuncData}{Ok:Fx→List Nat→Nat→List Nat→Bool→Prop}(F:Fun K "row_right" "row_right" sRowRight f fd)(LN:Lib P w K mg base k "greatest_needs" ["paper"] (spNeeds P w) f1 d1)(LR:Lib P w K mg base k "is_right" ["game","side","needs","row"] (spIsRight P w CT CG Ok) f2 d2) :
  FnOk P w K mg base CX0 (k+1) f fd ["game","side","paper","row"] (spRowRight P w CT CG Ok):=by
 refine F.ok scRowRight (fun vs H Q E h=>?_) (fun cdv A outer s H vs Q E hr h=>?_)
 ·obtain⟨gm,x,l,a,t,fx,side,as,r,b,rfl,_⟩:=h
  rfl
 obtain⟨gm,x,l,a,t,fx,side,as,r,b,rfl,G,tb,hl,hR,hn,hr1,fm,hO,q⟩:=h
 refine⟨_,pss_one (ps_ret (pe_call LR.ok hr rfl LR.mg LR.kp LR.bd .nil pass0 (pa_cons (pv 0) (pa_cons (pv 1) (pa_cons (pe_call LN.ok hr rfl LN.mg LN.kp LN.bd .nil pass0 (pa_cons (pv 2) pa_nil)) (pa_cons (pv 3) pa_nil)))))),?_⟩
 refine⟨_,rfl,_,rfl,_,rfl,l,as,rfl,hl,hR,hn,fun d H1 s1 D=>?_⟩
 exact⟨_,rfl,gm,x,d,a,t,fx,side,_,_,r,b,rfl,G.same s1,tb,D,ndR_nn _,hr1.same s1,fm,hO,fun H2 s2=>q H2 (s1.trans s2)⟩
noncomputable def hldB (fx:Fx) (t:Option Nat) (side:Nat) (okb:Rw→Bool) (rs:List Rw) (k:PKey) (need:Int):Bool:=
 (rs.all fun r=>okb r && rtB fx t side (ndR rs) r) && decide (need≤ndR rs k)
def spHolds(P:Program)(w:World)(CT CG:Addr)(Ok:Fx→List Nat→Nat→List Nat→Bool→Prop):Sp:=fun vs H Q _=>∃(gm x l p:Addr) (t:Option Nat) (fx:Fx) (side:Nat) (as:List (Rw×Addr)) (okb:Rw→Bool) (hs:List Nat) (lead:Nat) (ys:List Nat) (need:Int),vs=[.ref gm,.int (side:Nat),.ref l,.ref p,.int need]∧GamH CT CG fx t H gm x∧TrB t∧H l=some (.lst (rwV as))∧RwsH H as∧as.length < sizeLine∧(∀ e∈as,Ok fx e.1.hs e.1.lead e.1.ys (okb e.1))∧IsPl H p hs lead ys ∧
 ∀ H',Same H H'→Q (.bl (hldB fx t side okb (as.map (·.1)) (plK hs lead ys) need)) H'
abbrev nHolds:List Str:=["game","side","paper","place","need","needs","row"]
theorem scHolds:FnScope nHolds ["game","side","paper","place","need"] (defScope sHolds):=⟨rfl,rfl,rfl,by decide +kernel,rfl,by decide +kernel,by decide +kernel⟩
theorem ok_holds{k:Nat}{CT CG f1 f2:Addr}{d1 d2:FuncData}{Ok:Fx→List Nat→Nat→List Nat→Bool→Prop}(F:Fun K "holds" "holds" sHolds f fd)(LN:Lib P w K mg base k "greatest_needs" ["paper"] (spNeeds P w) f1 d1)(LR:Lib P w K mg base k "is_right" ["game","side","needs","row"] (spIsRight P w CT CG Ok) f2 d2) :
  FnOk P w K mg base CX0 (k+1) f fd ["game","side","paper","place","need"] (spHolds P w CT CG Ok):=by
 refine F.ok scHolds (fun vs H Q E h=>?_) (fun cdv A outer s H vs Q E hr h=>?_)
 ·obtain⟨gm,x,l,p,t,fx,side,as,okb,hs,lead,ys,need,rfl,_⟩:=h
  rfl
 obtain⟨gm,x,l,p,t,fx,side,as,okb,hs,lead,ys,need,rfl,G,tb,hl,hR,hn,hO,hp,q⟩:=h
 have hu:=Nat.lt_of_le_of_lt (Nat.add_le_add_left (by decide:20≤64) _) hr.units
 refine⟨_,pss_cons (ps_set (i:=5) scHolds.nd rfl (Or.inl rfl) (pe_call LN.ok hr rfl LN.mg LN.kp LN.bd .nil pass0 (pa_cons (pv 2) pa_nil)))
  (pss_cons (ps_for PassesOwn.never rfl (pi_list (pv 2)) (pg_name (i:=6) scHolds.nd rfl (Or.inl rfl))
   (pss_one (ps_if (pt_not (pt_truth (pe_call LR.ok hr rfl LR.mg LR.kp LR.bd .nil pass0 (pa_cons (pv 0) (pa_cons (pv 1) (pa_cons (pv 5) (pa_cons (pv 6) pa_nil))))) (fun _=>rfl))) (pss_one (ps_ret pe_bl)) pss_nil)))
  (pss_one (ps_ret (pe_or (pe_cmpR op_le (pv 4) pe_int (nomark _)) (pe_one (pe_cmpR op_ge (pe_gget2 (plKnd P w) hu (pv 5) (pv 3) pe_int ⟨rfl,rfl,rfl,rfl⟩) (pv 4) (nomark _))))))),?_⟩
 refine⟨_,rfl,l,as,rfl,hl,hR,hn,fun d H1 s1 D=>?_⟩
 refine⟨_,rfl,l,rfl,⟨_,SqL.of (s1 _ _ hl)⟩,for_list (xs:=rwV as) (fun i σ H2=>Same H1 H2∧((as.map (·.1)).take i).all (fun r=>okb r && rtB fx t side (ndR (as.map (·.1))) r)=true∧∃ z,σ=[some (.ref gm),some (.int (side:Nat)),some (.ref l),some (.ref p),some (.int need),some (.ref d),z]) ⟨Same.refl H1,rfl,none,rfl⟩ (fun i σ H2 _ z=>SqL.of ((s1.trans z.1) _ _ hl)) (fun i v σ H2 hv z=>?_) (fun σ H2 z=>?_)⟩
 ·obtain⟨s2,al,z0,rfl⟩:=z
  obtain⟨⟨r,a⟩,hi,rfl⟩:∃ e,as[i]? = some e∧v = .ref e.2:=by
   unfold rwV at hv
   rw[List.getElem?_map] at hv
   obtain⟨e,he,rfl⟩:=Option.map_eq_some_iff.mp hv
   exact⟨e,he,rfl⟩
  have me:=List.mem_of_getElem? hi
  obtain⟨hr1,fm⟩:=(hR.same (s1.trans s2)) _ me
  have tk:(as.map (·.1)).take (i+1)=(as.map (·.1)).take i++[r]:=by
   rw[List.take_succ,List.getElem?_map,hi]
   rfl
  refine⟨_,rfl,_,rfl,_,rfl,_,rfl,gm,x,d,a,t,fx,side,_,_,r,okb r,rfl,G.same (s1.trans s2),tb,D.same s2,ndR_nn _,hr1,fm,hO _ me,fun H3 s3=>⟨_,rfl,?_⟩⟩
  cases c:okb r && rtB fx t side (ndR (as.map (·.1))) r with
  | false=>
   refine iteT ?_
   have z:=q H3 ((s1.trans s2).trans s3)
   have nf:((as.map (·.1)).all fun r=>okb r && rtB fx t side (ndR (as.map (·.1))) r)=false:=List.all_eq_false.mpr ⟨r,List.mem_map.mpr ⟨_,me,rfl⟩,by rw[c];exact Bool.false_ne_true⟩
   unfold hldB at z
   rw[nf,Bool.false_and] at z
   exact z
  | true=>
   refine iteF ⟨s2.trans s3,?_,_,rfl⟩
   rw[tk,List.all_append,al,Bool.true_and,List.all_cons,c]
   rfl
 ·obtain⟨s2,al,z0,rfl⟩:=z
  have el:(rwV as).length=as.length:=List.length_map ..
  rw[el,List.take_of_length_le (by rw[List.length_map];exact Nat.le_refl _)] at al
  have z:=q H2 (s1.trans s2)
  unfold hldB at z
  rw[al,Bool.true_and] at z
  obtain⟨es,g1,g2,g3,g4⟩:=(D.same s2).o
  refine⟨_,rfl,_,_,rfl,rfl,_,rfl,?_⟩
  by_cases c0:need≤0
  ·refine chg (decide_eq_true c0) (iteT ?_)
   rw[decide_eq_true (Int.le_trans c0 (ndR_nn _ _))] at z
   exact z
  ·refine chg (decide_eq_false c0) (iteF ?_)
   refine⟨_,rfl,d,es,rfl,g1,g2,_,rfl,es,plK hs lead ys,p,g1,g2,rfl,plK_key (hp.same (s1.trans s2)),_,rfl,ndR (as.map (·.1)) (plK hs lead ys),_,?_,rfl,z⟩
   rw[g4]
end
end My
namespace My
open PySem L2
abbrev sGreatG:Stmt:=top 86
abbrev sGreatP:Stmt:=top 87
section
variable{P:Program}{w:World}{K:PySem.W.Frag}{mg:Str→Option Value}{base:Heap}{f g:Addr}{fd gd:FuncData}
theorem deal_ok2{f:Fx}(ok:f.Ok){sz:Nat}{ds:List Nat}{css:List (List Nat)}(hp:ds.Perm (packL f.s f.h))(hsz:sz * f.n≤f.s * f.h)(hl:css.length=f.n)
  (hc:∀(j:Nat) (cs:List Nat),css[j]? = some cs→cs.Perm ((ds.drop (sz * j)).take sz)) (hu:∀ cs∈css,cs.Pairwise (·≤·)):DealOk f sz css:=by
 have ll:ds.length=f.s * f.h:=by rw[hp.length_eq,pack_length]
 have e1:=flat_perm css _ hc
 rw[hl,chunks ds sz f.n] at e1
 refine⟨hl,fun cs hcs=>?_,?_,fun c hcc=>?_,hu⟩
 ·obtain⟨j,hj,e⟩:=List.mem_iff_getElem.mp hcs
  have p:=hc j cs (by rw[List.getElem?_eq_getElem hj,e])
  rw[p.length_eq,List.length_take,List.length_drop,ll]
  have h1:sz * (j+1)≤sz * f.n:=Nat.mul_le_mul_left _ (by omega)
  rw[Nat.mul_succ] at h1
  omega
 ·exact e1.nodup_iff.mpr (List.Nodup.sublist (List.take_sublist _ _) (hp.nodup_iff.mpr (pack_nd f.s ok.s4 f.h ok.h8)))
 ·exact(pack_mem ok.h8).mp (hp.mem_iff.mp (List.mem_of_mem_take (e1.mem_iff.mp hcc)))
theorem sum_nat:∀(xs:List Nat),((xs.map fun x=>((x:Nat):Int))).sum=((xs.sum:Nat):Int)
 | []=>rfl
 | x :: xs=>by rw[List.map_cons,List.sum_cons,List.sum_cons,sum_nat xs,Int.natCast_add]
def chk(cs:List Nat)(sz j:Nat):List Nat:=(cs.drop (sz * j)).take sz
theorem deal_plc{f:Fx}(ok:f.Ok){sz:Nat}{cs:List Nat}(hp:cs.Perm (packL f.s f.h))(hsz:sz * f.n≤f.s * f.h){lead:Nat}(hl:lead < f.n):Plc f ((List.range f.n).map fun j=>hN (chk cs sz j)) lead [] sz∧totC ((List.range f.n).map fun j=>hN (chk cs sz j))=f.n * sz:=by
 have D:DealOk f sz ((List.range f.n).map fun j=>(chk cs sz j).mergeSort (·≤·)):=deal_ok2 ok hp hsz (by rw[List.length_map,List.length_range]) (fun j c e=>by
  rw[List.getElem?_map] at e
  obtain⟨i,hi,rfl⟩:=Option.map_eq_some_iff.mp e
  have jl:j < f.n:=by
   have:=(List.getElem?_eq_some_iff.mp hi).1
   rw[List.length_range] at this
   exact this
  rw[List.getElem?_range jl] at hi
  cases hi
  exact List.mergeSort_perm _ _) fun c hc=>by
  obtain⟨j,_,rfl⟩:=List.mem_map.mp hc
  exact(List.pairwise_mergeSort (le:=fun a b=>decide (a≤b)) (fun a b c h1 h2=>by simp only[decide_eq_true_eq] at *;omega) (fun a b=>by simp only[Bool.or_eq_true,decide_eq_true_eq];omega) _).imp fun h=>of_decide_eq_true h
 have e:(((List.range f.n).map fun j=>(chk cs sz j).mergeSort (·≤·)).map hN)=(List.range f.n).map fun j=>hN (chk cs sz j):=by
  rw[List.map_map]
  refine List.map_congr_left fun j _=>hN_ext fun i=>?_
  exact(List.mergeSort_perm _ _).mem_iff
 have z:=D.plc ok hl
 rw[e] at z
 refine⟨z,?_⟩
 unfold totC
 rw[← e]
 have:∀(css:List (List Nat)),(∀ c∈css,c.Nodup∧(∀ x∈c,x < 32)∧c.length=sz)→((css.map hN).map (pcK 32)).sum=css.length * sz:=by
  intro css
  induction css with
  | nil=>intro _;simp
  | cons c r ih=>
   intro h
   obtain⟨h1,h2,h3⟩:=h c List.mem_cons_self
   rw[List.map_cons,List.map_cons,List.sum_cons,pc_hN h1 h2,h3,ih fun c hc=>h c (List.mem_cons_of_mem _ hc),List.length_cons,Nat.succ_mul,Nat.add_comm]
 rw[this _ fun c hc=>⟨D.nd1 hc,D.c32 ok hc,D.each c hc⟩,D.len]
theorem plc_pos{fx:Fx}(ok:fx.Ok){hs:List Nat}{lead:Nat}{ys:List Nat}{m:Nat}(Pl:Plc fx hs lead ys m)(h:0 < totC hs):0 < m:=by
 rcases Nat.eq_zero_or_pos m with e | e
 ·exfalso
  have mx:=(Pl.max ok).2
  have:∀ l:List Nat,(∀ x∈l,x≤0)→l.sum=0:=by
   intro l
   induction l with
   | nil=>exact fun _=>rfl
   | cons x l ih=>
    intro h
    have h1:=h x List.mem_cons_self
    rw[List.sum_cons,ih fun y hy=>h y (List.mem_cons_of_mem _ hy)]
    omega
  have z:=this (hs.map (pcK 32)) (by rw[e] at mx;exact mx)
  unfold totC at h
  omega
 ·exact e
def spGreatG(K:PySem.W.Frag)(CT CG:Addr):Sp:=fun vs H Q _=>∃(a:Addr) (ns:List Int),vs=[.ref a]∧SqL K H a (ns.map V.int)∧∀ gm x f t H',TrB t→f.s=4→f.h=8→Same H H'→GamH CT CG f t H' gm x→Q (.ref gm) H'
theorem scGreatG:FnScope nGame ["_law_script"] (defScope sGreatG):=⟨rfl,rfl,rfl,by decide +kernel,rfl,by decide +kernel,by decide +kernel⟩
theorem ok_greatG{k:Nat}{CT CG fI fG f1 f2 f3 f4 f5:Addr}{dI dG d1 d2 d3 d4 d5:FuncData}(F:Fun K "_law_great_game" "_law_great_game" sGreatG f fd)(C:TabC K mg CT)(CGm:GamC K mg CG)(LB:Lib P w K mg base (k+1) "_law_table" ["_law_script"] (spTable K) f2 d2)(LC:Lib P w K mg base (k+1) "_law_cell" pCell (spCell K) f3 d3)(LT:Lib P w K mg base (k+1) "_law_text" ["_law_facts"] (spText K) f1 d1)
  (LX:Lib P w K mg base (k+1) "_law_mixed" ["_law_cell_here","_law_k"] spMixed f4 d4) (LO:Lib P w K mg base (k+1) "_law_order" ["_law_cell_here","_law_heights"] (spOrder K) f5 d5) (MkT:Mk K CT fI) (FI:FnOk P w K mg base CX0 k fI dI ["self","text"] (spTab CT)) (BI:Binds K dI ["self","text"] [])
  (MkG:Mk K CG fG) (FG:FnOk P w K mg base CX0 k fG dG ["self","table","trump"] (spGam CG)) (BG0:Binds K dG ["self","table","trump"] []) (BG1:Binds K dG ["self","table","trump"] [.none]) :
  FnOk P w K mg base CX0 (k+2) f fd ["_law_script"] (spGreatG K CT CG):=by
 refine F.ok scGreatG (fun vs H Q E h=>?_) (fun cdv A outer s H vs Q E hr h=>?_)
 ·obtain⟨a,ns,rfl,_⟩:=h
  rfl
 obtain⟨a,ns,rfl,hS,q⟩:=h
 refine⟨_,pss_cons (ps_set (i:=1) scGreatG.nd rfl (Or.inl rfl) (pe_call LB.ok hr rfl LB.mg LB.kp LB.bd .nil pass0 (pa_cons (pv 0) pa_nil)))
  (pss_cons (ps_asg pe_int (pg_sub (pv 1) pe_int set_list))
  (pss_cons (ps_asg pe_int (pg_sub (pv 1) pe_int set_list))
  (pss_cons (ps_asg (pe_call LO.ok hr rfl LO.mg LO.kp LO.bd .nil pass0 (pa_cons (pe_call LX.ok hr rfl LX.mg LX.kp LX.bd .nil pass0 (pa_cons (pe_call LC.ok hr rfl LC.mg LC.kp LC.bd .nil pass0 (pa_cons (pv 0) (pa_cons pe_int pa_nil))) (pa_cons pe_int pa_nil))) (pa_cons pe_int pa_nil))) (pg_sub (pv 1) pe_int set_list))
  (pss_cons (ps_asg (pe_call LO.ok hr rfl LO.mg LO.kp LO.bd .nil pass0 (pa_cons (pe_call LX.ok hr rfl LX.mg LX.kp LX.bd .nil pass0 (pa_cons (pe_call LC.ok hr rfl LC.mg LC.kp LC.bd .nil pass0 (pa_cons (pv 0) (pa_cons pe_int pa_nil))) (pa_cons pe_int pa_nil))) (pa_cons pe_int pa_nil))) (pg_sub (pv 1) pe_int set_list))
  (pss_cons (ps_set (i:=2) scGreatG.nd rfl (Or.inl rfl) (pe_op op_mod (pe_call LC.ok hr rfl LC.mg LC.kp LC.bd .nil pass0 (pa_cons (pv 0) (pa_cons pe_int pa_nil))) pe_int))
  (pss_cons (ps_if (pt_cmpR op_eq (pv 2) pe_int (nomark _)) (pss_one (ps_ret (pe_make MkG FG hr rfl CGm.mG BG1 (show Vals [V.non] [Value.none] from .cons rfl .nil) pass0 (pa_cons (pe_make MkT FI hr rfl C.mT BI .nil pass0 (pa_cons (pe_call LT.ok hr rfl LT.mg LT.kp LT.bd .nil pass0 (pa_cons (pv 1) pa_nil)) pa_nil)) pa_nil)))) pss_nil)
  (pss_one (ps_ret (pe_make MkG FG hr rfl CGm.mG BG0 .nil pass0 (pa_cons (pe_make MkT FI hr rfl C.mT BI .nil pass0 (pa_cons (pe_call LT.ok hr rfl LT.mg LT.kp LT.bd .nil pass0 (pa_cons (pv 1) pa_nil)) pa_nil)) (pa_cons (pv 2) pa_nil))))))))))),?_⟩
 refine⟨_,rfl,a,ns,rfl,hS,fun l f0 H0 ok0 s0 hl0 hF=>?_⟩
 obtain⟨pl,tr,hL,hP,hT⟩:=id hF
 refine⟨_,rfl,l,_,_,0,rfl,rfl,hL,rfl,?_⟩
 refine⟨_,rfl,l,_,_,1,rfl,rfl,upd_same,rfl,?_⟩
 rw[upd_upd]
 have k1:∀(o:HO),Same H (upd H0 l o):=fun o b u hb=>by
  rw[upd_ne (ne_of_none hb hl0)]
  exact s0 _ _ hb
 generalize hz:upd H0 l (HO.lst _)=H1
 have hS1:SqL K H1 a (ns.map V.int):=by rw[← hz];exact(k1 _).seq hS
 have s1:Same H H1:=by rw[← hz];exact k1 _
 have g1:H1 l=some (.lst [.int 4,.int 8,.int (f0.n:Nat),.str (wd f0.d),.ref pl,.ref tr]):=by rw[← hz];exact upd_same
 refine⟨_,rfl,a,ns,0,rfl,hS1,by decide,fun c=>⟨c,1,rfl,by decide,fun z hz0=>⟨z,8,rfl,by decide,by decide,fun lp ls H2 s2 hlp hP2 pp=>?_⟩⟩⟩
 refine⟨_,rfl,l,_,_,4,rfl,rfl,s2 _ _ g1,rfl,?_⟩
 have nlp:lp≠l:=fun z=>by rw[z,g1] at hlp;cases hlp
 have k2:∀(o:HO),Same H (upd H2 l o):=fun o b u hb=>by
  rw[upd_ne (ne_of_none hb hl0)]
  exact s2 _ _ (s1 _ _ hb)
 generalize hz3:upd H2 l (HO.lst _)=H3
 have s3:Same H H3:=by rw[← hz3];exact k2 _
 have g3:H3 l=some (.lst [.int 4,.int 8,.int (f0.n:Nat),.str (wd f0.d),.ref lp,.ref tr]):=by rw[← hz3];exact upd_same
 have p3:H3 lp=some (.lst (vN ls)):=by rw[← hz3,upd_ne nlp];exact hP2
 refine⟨_,rfl,a,ns,0,rfl,s3.seq hS,by decide,fun c=>⟨c,2,rfl,by decide,fun z hz0=>⟨z,8,rfl,by decide,by decide,fun lt lts H4 s4 hlt hT4 pt=>?_⟩⟩⟩
 refine⟨_,rfl,l,_,_,5,rfl,rfl,s4 _ _ g3,rfl,?_⟩
 have nlt:lt≠l:=fun z=>by rw[z,g3] at hlt;cases hlt
 have k4:∀(o:HO),Same H (upd H4 l o):=fun o b u hb=>by
  rw[upd_ne (ne_of_none hb hl0)]
  exact s4 _ _ (s3 _ _ hb)
 generalize hz5:upd H4 l (HO.lst _)=H5
 have s5:Same H H5:=by rw[← hz5];exact k4 _
 have g5:H5 l=some (.lst [.int 4,.int 8,.int (f0.n:Nat),.str (wd f0.d),.ref lp,.ref lt]):=by rw[← hz5];exact upd_same
 have hF5:IsFx ⟨4,8,f0.n,f0.d,ls,lts⟩ H5 l:=⟨lp,lt,g5,by rw[← hz5,upd_ne nlp];exact s4 _ _ p3,by rw[← hz5,upd_ne nlt];exact hT4⟩
 have ok:Fx.Ok ⟨4,8,f0.n,f0.d,ls,lts⟩:=⟨(show 1≤4 by decide),(show 4≤4 by decide),(show 1≤8 by decide),(show 8≤8 by decide),ok0.n34,pp,pt⟩
 refine⟨_,rfl,a,ns,1,rfl,s5.seq hS,by decide,fun c=>⟨_,_,rfl,rfl,(show(0:Int) < 5 by decide),?_⟩⟩
 refine⟨_,rfl,rfl,_,rfl,?_⟩
 obtain⟨t,tb,ht⟩:=trump_at c (s:=4) (by decide)
 rcases ht with⟨rfl,e⟩ | ⟨u,rfl,us,e⟩
 ·have e':c % 5=4:=e
  refine chg (by rw[e'];rfl:decide (V.int (c % 5)=V.int 4)=true) (iteT ⟨_,rfl,l,_,rfl,ok,hF5,fun H6 s6=>?_⟩)
  intro x dx hx hdx nx
  refine⟨x,dx,_,rfl,ok,upd_same,fun po to H7 kp hx7 hpo hto=>⟨rfl,?_⟩⟩
  have sx:=make_same hx hdx nx kp
  intro gm dg hgm hdg ng
  refine⟨gm,dg,x,.non,rfl,upd_same,rfl,?_⟩
  rw[upd_upd]
  have sg:=same_make (o:=.ins CG dg (gamF x .non)) hgm hdg ng
  exact q gm x _ none _ tb rfl rfl (((s5.trans s6).trans sx).trans sg) ⟨ok,⟨dg,upd_same⟩,⟨dx,po,to,sg _ _ hx7,sg _ _ hpo,sg _ _ hto⟩⟩
 ·have e':c % 5=((u:Nat):Int):=e
  have eU:decide (V.int (c % 5)=V.int 4)=false:=by
   rw[e']
   exact(natLit (r:=u) (n:=4) (i:=4) rfl).trans (decide_eq_false (by omega))
  refine chg eU (iteF ⟨_,rfl,l,_,rfl,ok,hF5,fun H6 s6=>?_⟩)
  intro x dx hx hdx nx
  refine⟨x,dx,_,rfl,ok,upd_same,fun po to H7 kp hx7 hpo hto=>⟨rfl,?_⟩⟩
  have sx:=make_same hx hdx nx kp
  refine⟨_,rfl,?_⟩
  intro gm dg hgm hdg ng
  refine⟨gm,dg,x,tvV (some u),?_,upd_same,rfl,?_⟩
  ·show [V.ref gm,V.ref x,V.int (c % 5)]=_
   rw[e']
   rfl
  rw[upd_upd]
  have sg:=same_make (o:=.ins CG dg (gamF x (tvV (some u)))) hgm hdg ng
  exact q gm x _ (some u) _ tb rfl rfl (((s5.trans s6).trans sx).trans sg) ⟨ok,⟨dg,upd_same⟩,⟨dx,po,to,sg _ _ hx7,sg _ _ hpo,sg _ _ hto⟩⟩
def spGreatP(K:PySem.W.Frag)(CT CG:Addr):Sp:=fun vs H Q _=>∃(a gm x:Addr) (ns:List Int) (fx:Fx) (t:Option Nat) (sz:Nat),vs=[.ref a,.ref gm,.int (sz:Nat)]∧SqL K H a (ns.map V.int)∧GamH CT CG fx t H gm x∧TrB t∧1≤sz∧sz * fx.n≤fx.s * fx.h ∧
 ∀ p hs lead ys m H',Same H H'→IsPl H' p hs lead ys→Plc fx hs lead ys m→fx.n * sz≤totC hs+2→totC hs≤fx.n * sz→Q (.ref p) H'
abbrev pGreatP:List Str:=["_law_script","_law_game_here","_law_size_here"]
abbrev nGreatP:List Str:=["_law_script","_law_game_here","_law_size_here","_law_cards","_law_seats","_law_hands","_law_place_here","_law_k","_law_some"]
abbrev nGp1:List Str:=["_law_k","_law_cards","_law_size_here"]
theorem scGreatP:FnScope nGreatP pGreatP (defScope sGreatP):=⟨rfl,rfl,rfl,by decide +kernel,rfl,by decide +kernel,by decide +kernel⟩
def cGp:Scope:=match (defBody sGreatP).getD 2 (.Pass ⟨0,0,0,0⟩) with
 | .Assign _ (.Call _ [.ListComp _ _ sc _] _ _) _=>sc
 | _=>defScope sGreatP
theorem cut_midV(xs:List V)(c d:Nat)(hc:c≤xs.length)(hd:d≤xs.length):cutV xs (some (c:Int)) (some (d:Int))=(xs.drop c).take (d - c):=by
 unfold cutV
 rw[HT.sIx_nat,HT.sIx_nat,Nat.min_eq_left hc,Nat.min_eq_left hd]
theorem ok_greatP{k:Nat}{CT CG f1 f2 f3 f4 f5:Addr}{d1 d2 d3 d4 d5:FuncData}(F:Fun K "_law_great_place" "_law_great_place" sGreatP f fd)(C:TabC K mg CT)(CGm:GamC K mg CG)(LS:Lib P w K mg base k "_law_shuffled" ["_law_script","_law_game_here"] (spShuf K CT CG) f1 d1)(LI:Lib P w K mg base k "_law_bit" ["_law_card"] spBit f2 d2)(LC:Lib P w K mg base k "_law_cell" pCell (spCell K) f3 d3)
  (LM:Lib P w K mg base k "moves" ["game","place"] (spMoves CT CG) f4 d4) (LB:Lib P w K mg base k "behind" ["game","place","card"] (spBehind K CT CG) f5 d5) (mr:mg "range" = none) (mT:mg "tuple" = none) (mS:mg "sum" = none) (ml:mg "len" = none):FnOk P w K mg base CX0 (k+1) f fd pGreatP (spGreatP K CT CG):=by
 refine F.ok scGreatP (fun vs H Q E h=>?_) (fun cdv A outer s H vs Q E hr h=>?_)
 ·obtain⟨a,gm,x,ns,fx,t,sz,rfl,_⟩:=h
  rfl
 obtain⟨a,gm,x,ns,fx,t,sz,rfl,hS,G,tb,sz1,szn,q⟩:=h
 refine⟨_,pss_cons (ps_set (i:=3) scGreatP.nd rfl (Or.inr rfl) (pe_call LS.ok hr rfl LS.mg LS.kp LS.bd .nil pass0 (pa_cons (pv 0) (pa_cons (pv 1) pa_nil))))
  (pss_cons (ps_set (i:=4) scGreatP.nd rfl (Or.inl rfl) (pe_fld (pe_fld (pv 1) rfl) rfl))
  (pss_cons (ps_set (i:=5) scGreatP.nd rfl (Or.inl rfl) (pe_callTy call_tuple_of rfl mT PyProof.Rows.boot_tuple (pa_cons (pe_comp nGp1 [none,some 3,some 2] rfl (Blk.by (sc:=defScope sGreatP) (N0:=nGreatP) rfl rfl (by decide +kernel)) (pi_range1 rfl mr (pa_cons (pv 4) pa_nil)) (fun C s₀ H₀ ex=>pg_name (i:=0) (show nGp1.Nodup by decide +kernel) rfl (Or.inl rfl)) (fun C s₀ H₀ ex=>pf_nil)
   (fun C s₀ H₀ ex=>pe_callB (show CallR _ (.builtin "sum") (fun xs H Q=>∃(a:Addr) (ns:List Int),xs=[.ref a]∧SqL K H a (ns.map V.int)∧Q (.int ns.sum) H) from call_sum rfl) rfl mS PyProof.Rows.boot_sum (pa_cons (pe_comp ["_law_card"] [none] rfl (Blk.by (sc:=relS cGp (defScope sGreatP)) (N0:=nGp1) rfl rfl (by decide +kernel)) (pi_listK K rfl (pe_slice (show SlR _ (rSlL K) from sl_list) (pv 1) (po_some (pe_op op_mul (pv 2) (pv 0))) (po_some (pe_op op_add (pe_op op_mul (pv 2) (pv 0)) (pv 2))))) (fun C s₀ H₀ ex=>pg_name (i:=0) (show(["_law_card"]:List Str).Nodup by decide +kernel) rfl (Or.inl rfl)) (fun C s₀ H₀ ex=>pf_nil)
    (fun C s₀ H₀ ex=>pe_call LI.ok hr rfl LI.mg LI.kp LI.bd .nil pass0 (pa_cons (pv 0) pa_nil))) pa_nil))) pa_nil)))
  (pss_cons (ps_set (i:=6) scGreatP.nd rfl (Or.inl rfl) (pe_tup (pa_cons (pv 5) (pa_cons (pe_op op_mod (pe_call LC.ok hr rfl LC.mg LC.kp LC.bd .nil pass0 (pa_cons (pv 0) (pa_cons pe_int pa_nil))) (pv 4)) (pa_cons (pe_tup pa_nil) pa_nil)))))
  (pss_cons (ps_for PassesOwn.never rfl (pi_range1 rfl mr (pa_cons (pe_op op_mod (pe_call LC.ok hr rfl LC.mg LC.kp LC.bd .nil pass0 (pa_cons (pv 0) (pa_cons pe_int pa_nil))) pe_int) pa_nil)) (pg_name (i:=7) scGreatP.nd rfl (Or.inl rfl))
   (pss_cons (ps_set (i:=8) scGreatP.nd rfl (Or.inl rfl) (pe_call LM.ok hr rfl LM.mg LM.kp LM.bd .nil pass0 (pa_cons (pv 1) (pa_cons (pv 6) pa_nil))))
   (pss_one (ps_set (i:=6) scGreatP.nd rfl (Or.inl rfl) (pe_ix ix_tup (pe_call LB.ok hr rfl LB.mg LB.kp LB.bd .nil pass0 (pa_cons (pv 1) (pa_cons (pv 6) (pa_cons (pe_ix ix_list (pv 8) (pe_op op_mod (pe_call LC.ok hr rfl LC.mg LC.kp LC.bd .nil pass0 (pa_cons (pv 0) (pa_cons (pe_op op_add pe_int (pv 7)) pa_nil))) (pe_callB call_len_seq rfl ml PySem.boot_len (pa_cons (pv 8) pa_nil))) (fun _ _=>rfl)) pa_nil)))) pe_int (fun _ _=>rfl))))))
  (pss_one (ps_ret (pv 6))))))),?_⟩
 have ok:=G.ok
 have n4:fx.n≤4:=by rcases ok.n34 with e | e<;>omega
 have n3:3≤fx.n:=by rcases ok.n34 with e | e<;>omega
 have sn:fx.s * fx.h≤32:=Nat.le_trans (Nat.mul_le_mul ok.s4 ok.h8) (by decide)
 have sz32:sz≤32:=by
  have:sz * 1≤sz * fx.n:=Nat.mul_le_mul_left _ (by omega)
  omega
 have z1000:=fits3 1000 (by decide)
 refine⟨_,rfl,_,rfl,a,gm,x,ns,fx,t,rfl,hS,G,fun lc cs H1 pm s1 hlc hC=>?_⟩
 obtain⟨dg,hg⟩:=id G.g
 obtain⟨dx,po,to,hx,_,_⟩:=id G.t
 have cl:cs.length=fx.s * fx.h:=by rw[pm.length_eq,pack_length]
 have nd:cs.Nodup:=pm.nodup_iff.mpr (pack_nd fx.s ok.s4 fx.h ok.h8)
 have c32:∀ c∈cs,c < 32:=fun c hc=>by
  have:=(pack_mem ok.h8).mp (pm.mem_iff.mp hc)
  have:=ok.s4
  have:=ok.h8
  omega
 refine⟨_,rfl,gm,CG,dg,_,_,rfl,s1 _ _ hg,CGm.cl,CGm.nT,gam_table _ _,x,CT,dx,_,_,rfl,s1 _ _ hx,C.cl,C.nN,look7_seats _ _ _,nm_of ?_⟩
 refine set_nm (fun v H2=>Same H H2∧∃ hp,v = .ref hp∧H2 hp=some (.tup (vN ((List.range fx.n).map fun j=>hN (chk cs sz j))))) (fun R hR=>?_) (fun v H2 z=>?_)
 ·refine⟨_,rfl,(fx.n:Int),rfl,by omega,by omega,?_⟩
  refine comp_range (n:=fx.n) (lo:=0) (fun _=>true) (fun j=>.int ((hN (chk cs sz j):Nat):Int)) (fits3 _ (by omega)) (fun j H3 hj sm R hR=>hR H3 (Same.refl H3)) (fun i H3 hi hp sm R hR=>?_) (fun l3 H3 s3 hl3 hL3=>?_)
  ·have b1:sz * i+sz≤cs.length:=by
    rw[cl]
    have:sz * (i+1)≤sz * fx.n:=Nat.mul_le_mul_left _ (by omega)
    rw[Nat.mul_succ] at this
    omega
   have eI:((sz:Nat):Int) * (0+((i:Nat):Int))=((sz * i:Nat):Int):=by rw[Int.zero_add,Int.natCast_mul]
   have eJ:((sz:Nat):Int) * (0+((i:Nat):Int))+((sz:Nat):Int)=((sz * i+sz:Nat):Int):=by rw[eI,Int.natCast_add]
   have hC3:=sm _ _ hC
   refine⟨_,rfl,_,rfl,_,rfl,_,_,rfl,rfl,.inl ⟨by omega,by omega⟩,_,rfl,_,rfl,_,rfl,_,_,rfl,rfl,.inl ⟨by omega,by omega⟩,_,rfl,_,_,rfl,rfl,_,rfl,lc,_,rfl,SqL.of hC3,fun lk hlk=>?_⟩
   have eC:cutV (vN cs) (some (((sz:Nat):Int) * (0+((i:Nat):Int)))) (some (((sz:Nat):Int) * (0+((i:Nat):Int))+((sz:Nat):Int)))=vN (chk cs sz i):=by
    rw[eJ,eI,cut_midV _ (sz * i) (sz * i+sz) (by rw[vN_len];omega) (by rw[vN_len];omega),Nat.add_sub_cancel_left]
    unfold vN chk
    rw[List.map_take,List.map_drop]
   have s7:=same_upd hlk (.lst (cutV (vN cs) (some (((sz:Nat):Int) * (0+((i:Nat):Int)))) (some (((sz:Nat):Int) * (0+((i:Nat):Int))+((sz:Nat):Int)))))
   have hK:upd H3 lk (.lst (cutV (vN cs) (some (((sz:Nat):Int) * (0+((i:Nat):Int)))) (some (((sz:Nat):Int) * (0+((i:Nat):Int))+((sz:Nat):Int))))) lk=some (.lst (vN (chk cs sz i))):=by rw[upd_same,eC]
   have kl:(chk cs sz i).length=sz:=by unfold chk;rw[List.length_take,List.length_drop];omega
   refine⟨lk,rfl,⟨_,SqL.of hK⟩,comp_list (K:=K) (xs:=vN (chk cs sz i)) (fun _=>true) powV (SqL.of hK) (fits3 _ (by rw[vN_len,kl];omega)) (fun x H3 hx sm R hR=>hR H3 (Same.refl H3)) (fun x H8 hx hp sm8 R hR=>?_) (fun lr H8 s8 hlr hL8=>?_)⟩
   ·obtain⟨c,hc,rfl⟩:=List.mem_map.mp hx
    have:=c32 c (List.mem_of_mem_drop (List.mem_of_mem_take hc))
    refine⟨_,rfl,c,rfl,by omega,?_⟩
    have z:=hR H8 (Same.refl H8)
    have e:powV (V.int (c:Nat))=V.int ((2 ^ c:Nat):Int):=by
     show V.int ((2 ^ (((c:Nat):Int)).toNat:Nat):Int)=_
     rw[Int.toNat_natCast]
    rw[e] at z
    exact z
   ·rw[powV_list,vN_ints] at hL8
    have z:=hR H8 (s7.trans s8)
    refine⟨lr,_,rfl,SqL.of hL8,?_⟩
    have ndc:(chk cs sz i).Nodup:=List.Nodup.sublist ((List.take_sublist _ _).trans (List.drop_sublist _ _)) nd
    rw[sum_nat,hN_sum ndc]
    exact z
  ·have e3:((List.range fx.n).filter fun _=>true).map (fun j=>V.int ((hN (chk cs sz j):Nat):Int))=vN ((List.range fx.n).map fun j=>hN (chk cs sz j)):=by
    rw[List.filter_eq_self.mpr (fun _ _=>rfl)]
    unfold vN
    rw[List.map_map]
    rfl
   rw[e3] at hL3
   exact⟨l3,_,rfl,.inl ⟨SqL.of hL3,fun th hth=>hR _ _ ⟨(s1.trans s3).trans (same_upd hth _),th,rfl,upd_same⟩⟩⟩
 obtain⟨s2,hp,rfl,hH2⟩:=z
 obtain⟨hsL,ehs⟩:∃ hsL,hsL=(List.range fx.n).map fun j=>hN (chk cs sz j):=⟨_,rfl⟩
 rw[← ehs] at hH2
 refine set_nm (fun v H3=>Same H H3∧∃ p lead,v = .ref p∧IsPl H3 p hsL lead []∧lead < fx.n) (fun R hR=>?_) (fun v H3 z=>?_)
 ·refine⟨_,rfl,_,rfl,a,ns,4,rfl,s2.seq hS,by decide,fun c=>⟨_,rfl,_,_,rfl,rfl,(show(0:Int) < ((fx.n:Nat):Int) by omega),?_⟩⟩
  obtain⟨ld,ldn,eld⟩:=int_nat (z:=c) (n:=fx.n) (by omega)
  refine⟨fits3 0 (by decide),fun tz htz=>⟨fits3 3 (by decide),fun p hpn=>?_⟩⟩
  have a6:=same_upd htz (.tup [])
  have a7:=same_upd hpn (.tup [.ref hp,.int (c % ((fx.n:Nat):Int)),.ref tz])
  refine hR _ _ ⟨(s2.trans a6).trans a7,p,ld,rfl,⟨hp,tz,?_,a7 _ _ (a6 _ _ hH2),a7 _ _ upd_same⟩,ldn⟩
  rw[upd_same]
  show some (HO.tup [V.ref hp,V.int (c % ((fx.n:Nat):Int)),V.ref tz])=_
  rw[eld]
 obtain⟨s3,p0,ld,rfl,hPl0,ldn⟩:=z
 obtain⟨Pl0,tot0⟩:=deal_plc ok pm szn ldn
 rw[← ehs] at Pl0 tot0
 have ns3:3≤fx.n * sz:=Nat.le_trans n3 (by rw[Nat.mul_comm];exact Nat.le_trans (by omega) (Nat.mul_le_mul_right fx.n sz1))
 refine seq_cut (fun σ H'=>Same H H'∧∃(p:Addr) (hs:List Nat) (lead:Nat) (ys:List Nat) (m:Nat) (x7 x8:Option V),σ=[some (.ref a),some (.ref gm),some (.int (sz:Nat)),some (.ref lc),some (.int (fx.n:Nat)),some (.ref hp),some (.ref p),x7,x8]∧IsPl H' p hs lead ys∧Plc fx hs lead ys m∧fx.n * sz≤totC hs+2∧totC hs≤fx.n * sz) (fun D' er nx=>?_) (fun σ H4 z=>?_)
 ·refine⟨_,rfl,a,ns,5,rfl,s3.seq hS,by decide,fun c=>⟨_,_,rfl,rfl,(show(0:Int) < 3 by decide),?_⟩⟩
  obtain⟨st,st3,est⟩:=int_nat (z:=c) (n:=3) (by omega)
  refine⟨c % 3,rfl,by omega,by omega,?_⟩
  have est':c % 3=((st:Nat):Int):=est
  rw[est']
  refine for_range (n:=st) (fun i σ H'=>Same H H'∧∃(p:Addr) (hs:List Nat) (lead:Nat) (ys:List Nat) (m:Nat) (x7 x8:Option V),σ=[some (.ref a),some (.ref gm),some (.int (sz:Nat)),some (.ref lc),some (.int (fx.n:Nat)),some (.ref hp),some (.ref p),x7,x8]∧IsPl H' p hs lead ys∧Plc fx hs lead ys m∧totC hs+i=fx.n * sz) ⟨s3,p0,_,_,_,_,none,none,rfl,hPl0,Pl0,tot0⟩ (fun i σ H4 hi z=>?_) (fun σ H4 z=>?_)
  ·obtain⟨s4,p,hs,lead,ys,m,x7,x8,rfl,hPl,Pl,et⟩:=z
   have m0:=plc_pos ok Pl (by omega)
   obtain⟨h,eh,epc⟩:=Pl.turn ok
   have h32:=Pl.h32 ok (List.mem_of_getElem? eh)
   have eg:hs.getD ((lead+ys.length) % fx.n) 0=h:=by rw[List.getD_eq_getElem?_getD,eh];rfl
   have eM:moveL fx t hs lead ys m=mayL fx t ys h:=by
    unfold moveL
    rw[if_neg (by omega),eg]
   have ne:=may_ne (f:=fx) (t:=t) (ys:=ys) (h:=h) (by omega)
   refine⟨_,rfl,_,rfl,gm,x,p,t,fx,hs,ys,lead,m,rfl,G.same s4,tb,hPl.same (Same.refl _),Pl,fun lm H5 s5 hlm hm5=>?_⟩
   rw[eM] at hm5
   have s45:=s4.trans s5
   refine⟨_,rfl,_,rfl,_,rfl,_,rfl,_,rfl,_,_,rfl,rfl,a,ns,6+i,?_,s45.seq hS,by omega,fun c=>?_⟩
   ·show [V.ref a,V.int ((6:Int)+(0+((i:Nat):Int)))]=_
    rw[Int.zero_add]
    rfl
   have lp0:0 < (mayL fx t ys h).length:=List.length_pos_iff.mpr ne
   obtain⟨v,hv,ev⟩:=pickA (vN (mayL fx t ys h)) (((vN (mayL fx t ys h)).length:Nat):Int) rfl (by rw[vN_len];exact lp0) c
   obtain⟨cd,hcd,rfl⟩:=List.mem_map.mp hv
   have hb:=(may_in h32 hcd).1
   refine⟨_,rfl,lm,_,rfl,.inl (SqL.of hm5),_,_,rfl,rfl,(by show(0:Int) < (((vN (mayL fx t ys h)).length:Nat):Int);rw[vN_len];omega),lm,_,_,_,rfl,rfl,SqL.of hm5,ev,?_⟩
   refine⟨gm,x,p,t,fx,hs,ys,lead,m,h,cd,rfl,G.same s45,hPl.same s5,Pl,eh,hb,fun r p' hs' lead' ys' tk H6 s6 N hr6 hp6=>?_⟩
   obtain⟨m',Pl',_,tt,_,_⟩:=N.plc ok Pl eh hb
   have et':totC hs'+1=totC hs:=tt
   exact⟨r,_,_,_,rfl,rfl,SqT.of hr6,(rfl:atI [V.ref p',tkV tk] 0=some (V.ref p')),s45.trans s6,p',hs',lead',ys',m',_,_,rfl,hp6,Pl',by omega⟩
  ·obtain⟨s4,p,hs,lead,ys,m,x7,x8,rfl,hPl,Pl,et⟩:=z
   exact nx _ _ ⟨s4,p,hs,lead,ys,m,x7,x8,rfl,hPl,Pl,by omega,by omega⟩
 obtain⟨s4,p,hs,lead,ys,m,x7,x8,rfl,hPl,Pl,e1,e2⟩:=z
 exact⟨_,rfl,q p hs lead ys m H4 s4 hPl Pl e1 e2⟩
end
end My
namespace L2
open PySem PySem.Spec PyProof.Rows
end L2
namespace My
open PySem L2
abbrev sPaper:Stmt:=top 41
abbrev sOthers:Stmt:=top 84
abbrev sRefused:Stmt:=top 85
section
variable{P:Program}{w:World}{K:PySem.W.Frag}{mg:Str→Option Value}{base:Heap}{f g:Addr}{fd gd:FuncData}
theorem pc_sum(hs:List Nat):(hs.map fun h=>((pcK 32 h:Nat):Int)).sum=((totC hs:Nat):Int):=by
 have e:(hs.map fun h=>((pcK 32 h:Nat):Int))=((hs.map (pcK 32)).map fun x=>((x:Nat):Int)):=by rw[List.map_map];rfl
 unfold totC
 rw[e,sum_nat]
def spRefuse:Sp:=fun vs H Q _=>∃(p:Addr) (fx:Fx) (hs:List Nat) (lead:Nat) (ys:List Nat) (m:Nat),vs=[.ref p]∧fx.Ok∧IsPl H p hs lead ys∧Plc fx hs lead ys m∧totC hs≤12∧∀ H',Same H H'→Q .non H'
theorem scRefuse:FnScope ["place"] ["place"] (defScope sRefuse):=⟨rfl,rfl,rfl,by decide +kernel,rfl,by decide +kernel,by decide +kernel⟩
theorem ok_refuse{k:Nat}{f1:Addr}{d1:FuncData}{t1:Tok}(F:Fun K "refuse_too_many" "refuse_too_many" sRefuse f fd)(LM:Lib P w K mg base k "many" ["hand"] (spMany K) f1 d1)(mMC:mg "MOST_CARDS" = some (.int 12 t1))(mSu:mg "sum" = none):FnOk P w K mg base CX0 (k+1) f fd ["place"] spRefuse:=by
 refine F.ok scRefuse (fun vs H Q E h=>?_) (fun cdv A outer s H vs Q E hr h=>?_)
 ·obtain⟨p,fx,hs,lead,ys,m,rfl,_⟩:=h
  rfl
 obtain⟨p,fx,hs,lead,ys,m,rfl,ok,⟨hp,tp,h1,h2,h3⟩,Pl,t12,q⟩:=h
 refine⟨_,pss_one (ps_if (pt_cmpR op_gt (pe_callB (call_sum rfl) rfl mSu PyProof.Rows.boot_sum (pa_cons (pe_comp ["hand"] [none] rfl (Blk.by (sc:=defScope sRefuse) (N0:=["place"]) rfl rfl (by decide +kernel)) (pi_tup (pe_ix ix_tup (pv 0) pe_int (fun _ _=>rfl))) (fun C s₀ H₀ ex=>pg_name (i:=0) (show(["hand"]:List Str).Nodup by decide +kernel) rfl (Or.inl rfl)) (fun C s₀ H₀ ex=>pf_nil)
   (fun C s₀ H₀ ex=>pe_call LM.ok hr rfl LM.mg LM.kp LM.bd .nil pass0 (pa_cons (pv 0) pa_nil))) pa_nil)) (pe_glob (v:=.int 12) rfl mMC ⟨_,rfl⟩) (nomark _)) (pss_one ps_never) pss_nil),?_⟩
 have n4:hs.length≤4:=by rw[Pl.len];rcases ok.n34 with e | e<;>omega
 refine⟨_,rfl,p,_,_,_,rfl,rfl,SqT.of h1,(rfl:atI [V.ref hp,V.int (lead:Nat),V.ref tp] 0=some (V.ref hp)),hp,rfl,⟨_,SqT.of h2⟩,comp_tup (K:=K) (xs:=vN hs) (fun _=>true) pcV (SqT.of h2) (fits3 _ (by rw[vN_len];omega)) (fun y H3 hy sm R hR=>hR H3 (Same.refl H3)) (fun y H3 hy hp sm R hR=>?_) (fun lq H4 s4 hlq hL4=>?_)⟩
 ·obtain⟨h,hh,rfl⟩:=List.mem_map.mp hy
  refine⟨_,rfl,h,rfl,Pl.h32 ok hh,?_⟩
  have z:=hR H3 (Same.refl H3)
  have e:pcV (V.int (h:Nat))=V.int ((pcK 32 h:Nat):Int):=by
   show V.int ((pcK 32 (((h:Nat):Int)).toNat:Nat):Int)=_
   rw[Int.toNat_natCast]
  rw[e] at z
  exact z
 ·rw[pcV_list] at hL4
  have e:decide ((12:Int) < (hs.map fun h=>((pcK 32 h:Nat):Int)).sum)=false:=by
   rw[pc_sum]
   exact decide_eq_false (by omega)
  exact⟨lq,_,rfl,SqL.of hL4,_,_,rfl,rfl,_,rfl,chg e (iteF (q H4 s4))⟩
def spRefuseR(CM:Addr):Sp:=fun vs H _ E=>∃(p:Addr) (fx:Fx) (hs:List Nat) (lead:Nat) (ys:List Nat) (m:Nat),vs=[.ref p]∧fx.Ok∧IsPl H p hs lead ys∧Plc fx hs lead ys m∧12 < totC hs∧∀ H',Same H H'→E (.ref CM) none H'
theorem ok_refuseR{k:Nat}{CM f1:Addr}{d1:FuncData}{t1:Tok}(F:Fun K "refuse_too_many" "refuse_too_many" sRefuse f fd)(LM:Lib P w K mg base k "many" ["hand"] (spMany K) f1 d1)(mMC:mg "MOST_CARDS" = some (.int 12 t1))(mSu:mg "sum" = none)(mM:mg "TooMany" = some (.ref CM))(x1:PySem.W.excIn K CM veTail "ValueError.__new__" = true):FnOk P w K mg base (CX1 P w) (k+1) f fd ["place"] (spRefuseR CM):=by
 refine F.okX scRefuse (fun vs H Q E h=>?_) (fun cdv A outer s H vs Q E hr h T=>?_)
 ·obtain⟨p,fx,hs,lead,ys,m,rfl,_⟩:=h
  rfl
 obtain⟨p,fx,hs,lead,ys,m,rfl,ok,⟨hp,tp,h1,h2,h3⟩,Pl,t12,q⟩:=h
 refine⟨_,pss_one (ps_if (pt_cmpR op_gt (pe_callB (call_sum rfl) rfl mSu PyProof.Rows.boot_sum (pa_cons (pe_comp ["hand"] [none] rfl (Blk.by (sc:=defScope sRefuse) (N0:=["place"]) rfl rfl (by decide +kernel)) (pi_tup (pe_ix ix_tup (pv 0) pe_int (fun _ _=>rfl))) (fun C s₀ H₀ ex=>pg_name (i:=0) (show(["hand"]:List Str).Nodup by decide +kernel) rfl (Or.inl rfl)) (fun C s₀ H₀ ex=>pf_nil)
   (fun C s₀ H₀ ex=>pe_call LM.ok hr rfl LM.mg LM.kp LM.bd .nil pass0 (pa_cons (pv 0) pa_nil))) pa_nil)) (pe_glob (v:=.int 12) rfl mMC ⟨_,rfl⟩) (nomark _)) (pss_one (ps_raise T hr.hd rfl mM x1 (pa_cons pe_str pa_nil))) pss_nil),?_⟩
 have n4:hs.length≤4:=by rw[Pl.len];rcases ok.n34 with e | e<;>omega
 refine⟨_,rfl,p,_,_,_,rfl,rfl,SqT.of h1,(rfl:atI [V.ref hp,V.int (lead:Nat),V.ref tp] 0=some (V.ref hp)),hp,rfl,⟨_,SqT.of h2⟩,comp_tup (K:=K) (xs:=vN hs) (fun _=>true) pcV (SqT.of h2) (fits3 _ (by rw[vN_len];omega)) (fun y H3 hy sm R hR=>hR H3 (Same.refl H3)) (fun y H3 hy hp sm R hR=>?_) (fun lq H4 s4 hlq hL4=>?_)⟩
 ·obtain⟨h,hh,rfl⟩:=List.mem_map.mp hy
  refine⟨_,rfl,h,rfl,Pl.h32 ok hh,?_⟩
  have z:=hR H3 (Same.refl H3)
  have e:pcV (V.int (h:Nat))=V.int ((pcK 32 h:Nat):Int):=by
   show V.int ((pcK 32 (((h:Nat):Int)).toNat:Nat):Int)=_
   rw[Int.toNat_natCast]
  rw[e] at z
  exact z
 ·rw[pcV_list] at hL4
  have e:decide ((12:Int) < (hs.map fun h=>((pcK 32 h:Nat):Int)).sum)=true:=by
   rw[pc_sum]
   exact decide_eq_true (by omega)
  exact⟨lq,_,rfl,SqL.of hL4,_,_,rfl,rfl,_,rfl,chg e (iteT ⟨fits3 1 (by decide),q H4 s4⟩)⟩
abbrev pPaper:List Str:=["game","side","place","need"]
abbrev nPaper:List Str:=["game","side","place","need","writing","made"]
theorem scPaper:FnScope nPaper pPaper (defScope sPaper):=⟨rfl,rfl,rfl,by decide +kernel,rfl,by decide +kernel,by decide +kernel⟩
def spPaperR(CT CG CM:Addr):Sp:=fun vs H _ E=>∃(gm gx p:Addr) (t:Option Nat) (fx:Fx) (side:Nat) (hs:List Nat) (lead:Nat) (ys:List Nat) (m:Nat) (need:Int),vs=[.ref gm,.int (side:Nat),.ref p,.int need]∧GamH CT CG fx t H gm gx∧IsPl H p hs lead ys∧Plc fx hs lead ys m∧12 < totC hs∧∀ H',Same H H'→E (.ref CM) none H'
theorem ok_paperR{k:Nat}{CT CG CM f1:Addr}{d1:FuncData}(F:Fun K "paper" "paper" sPaper f fd)(LR:LibX P w K mg base k "refuse_too_many" ["place"] (spRefuseR CM) f1 d1):FnOk P w K mg base (CX1 P w) (k+1) f fd pPaper (spPaperR CT CG CM):=by
 refine F.okX scPaper (fun vs H Q E h=>?_) (fun cdv A outer s H vs Q E hr h T=>?_)
 ·obtain⟨gm,gx,p,t,fx,side,hs,lead,ys,m,need,rfl,_⟩:=h
  rfl
 obtain⟨gm,gx,p,t,fx,side,hs,lead,ys,m,need,rfl,G,hp,Pl,t12,q⟩:=h
 refine⟨_,pss_cons (ps_expr (pe_call LR.ok hr rfl LR.mg LR.kp LR.bd .nil T.on (pa_cons (pv 2) pa_nil))) pss_never,?_⟩
 exact⟨_,rfl,p,fx,hs,lead,ys,m,rfl,G.ok,hp,Pl,t12,q⟩
def spPaper0(CT CG:Addr):Sp:=fun vs H Q _=>∃(gm gx p:Addr) (t:Option Nat) (fx:Fx) (side:Nat) (hs:List Nat) (lead:Nat) (ys:List Nat) (m:Nat) (need:Int),vs=[.ref gm,.int (side:Nat),.ref p,.int need]∧GamH CT CG fx t H gm gx∧IsPl H p hs lead ys∧Plc fx hs lead ys m∧totC hs≤12∧need≤0∧∀ l H',Same H H'→H l=none→H' l=some (.lst [])→Q (.ref l) H'
theorem ok_paper0{k:Nat}{CT CG f1:Addr}{d1:FuncData}(F:Fun K "paper" "paper" sPaper f fd)(LR:Lib P w K mg base k "refuse_too_many" ["place"] spRefuse f1 d1):FnOk P w K mg base CX0 (k+1) f fd pPaper (spPaper0 CT CG):=by
 refine F.ok scPaper (fun vs H Q E h=>?_) (fun cdv A outer s H vs Q E hr h=>?_)
 ·obtain⟨gm,gx,p,t,fx,side,hs,lead,ys,m,need,rfl,_⟩:=h
  rfl
 obtain⟨gm,gx,p,t,fx,side,hs,lead,ys,m,need,rfl,G,hp,Pl,t12,n0,q⟩:=h
 refine⟨_,pss_cons (ps_expr (pe_call LR.ok hr rfl LR.mg LR.kp LR.bd .nil pass0 (pa_cons (pv 2) pa_nil))) (pss_cons (ps_if (pt_cmpR op_le (pv 3) pe_int (nomark _)) (pss_one (ps_ret (pe_lst pa_nil))) pss_nil) pss_never),?_⟩
 refine⟨_,rfl,p,fx,hs,lead,ys,m,rfl,G.ok,hp,Pl,t12,fun H1 s1=>?_⟩
 refine⟨_,rfl,_,_,rfl,rfl,_,rfl,chg (decide_eq_true n0) (iteT ?_)⟩
 exact⟨fits3 0 (by decide),fun l hl=>q l _ (s1.trans (same_upd hl _)) (s1.free hl) upd_same⟩
structure ClsM(K:PySem.W.Frag)(mg:Str→Option Value)(CE CM:Addr)(c:_root_.Fin 8→Addr):Prop where
 ex:ExcF K CM
 mT:mg "TrickError" = some (.ref CE)
 mM:mg "TooMany" = some (.ref CM)
 hX:PySem.W.exmOne K (.ref CM) (.ref CE)=some true
 m0:mg "BadPlay" = some (.ref (c 0))
 m1:mg "NoCard" = some (.ref (c 1))
 m2:mg "NoPlay" = some (.ref (c 2))
 m3:mg "NoRecord" = some (.ref (c 3))
 m4:mg "NoView" = some (.ref (c 4))
 m5:mg "NotNow" = some (.ref (c 5))
 m6:mg "NotYet" = some (.ref (c 6))
 m7:mg "TooMuch" = some (.ref (c 7))
 iM:PySem.W.kitOne K (.ref CM) (.ref CM)=some true
 iV:PySem.W.kitOne K (.ref CM) (.type "ValueError")=some true
 i:∀ j,PySem.W.kitOne K (.ref CM) (.ref (c j))=some false
def spOthers(CM:Addr):Sp:=fun vs H Q _=>∃ a,vs=[.ref a]∧H a=some (excO a CM)∧Q (.bl false) H
theorem scOthers:FnScope ["_law_error"] ["_law_error"] (defScope sOthers):=⟨rfl,rfl,rfl,by decide +kernel,rfl,by decide +kernel,by decide +kernel⟩
theorem ok_others{k:Nat}{CE CM:Addr}{c:_root_.Fin 8→Addr}(F:Fun K "_law_others" "_law_others" sOthers f fd)(C:ClsM K mg CE CM c)(mi:mg "isinstance" = none):FnOk P w K mg base CX0 (k+1) f fd ["_law_error"] (spOthers CM):=by
 refine F.ok scOthers (fun vs H Q E h=>?_) (fun cdv A outer s H vs Q E hr h=>?_)
 ·obtain⟨a,rfl,_⟩:=h
  rfl
 obtain⟨a,rfl,ha,q⟩:=h
 refine⟨_,pss_cons (ps_if (PW.pt (pw_or (pt_truth (pe_callB call_isX rfl mi PyProof.Rows.boot_isinstance (pa_cons (pv 0) (pa_cons (pe_glob (v:=.ref (c 0)) rfl C.m0 rfl) pa_nil))) (fun _=>rfl)) (pw_or (pt_truth (pe_callB call_isX rfl mi PyProof.Rows.boot_isinstance (pa_cons (pv 0) (pa_cons (pe_glob (v:=.ref (c 1)) rfl C.m1 rfl) pa_nil))) (fun _=>rfl)) (pw_or1 (pt_truth (pe_callB call_isX rfl mi PyProof.Rows.boot_isinstance (pa_cons (pv 0) (pa_cons (pe_glob (v:=.ref (c 2)) rfl C.m2 rfl) pa_nil))) (fun _=>rfl)))))) (pss_one (ps_ret pe_bl)) pss_nil)
  (pss_cons (ps_if (PW.pt (pw_or (pt_truth (pe_callB call_isX rfl mi PyProof.Rows.boot_isinstance (pa_cons (pv 0) (pa_cons (pe_glob (v:=.ref (c 3)) rfl C.m3 rfl) pa_nil))) (fun _=>rfl)) (pw_or (pt_truth (pe_callB call_isX rfl mi PyProof.Rows.boot_isinstance (pa_cons (pv 0) (pa_cons (pe_glob (v:=.ref (c 4)) rfl C.m4 rfl) pa_nil))) (fun _=>rfl)) (pw_or1 (pt_truth (pe_callB call_isX rfl mi PyProof.Rows.boot_isinstance (pa_cons (pv 0) (pa_cons (pe_glob (v:=.ref (c 5)) rfl C.m5 rfl) pa_nil))) (fun _=>rfl)))))) (pss_one (ps_ret pe_bl)) pss_nil)
  (pss_one (ps_ret (pe_or (pe_callB call_isX rfl mi PyProof.Rows.boot_isinstance (pa_cons (pv 0) (pa_cons (pe_glob (v:=.ref (c 6)) rfl C.m6 rfl) pa_nil))) (pe_one (pe_callB call_isX rfl mi PyProof.Rows.boot_isinstance (pa_cons (pv 0) (pa_cons (pe_glob (v:=.ref (c 7)) rfl C.m7 rfl) pa_nil)))))))),?_⟩
 refine⟨_,rfl,a,CM,_,false,rfl,rfl,ha,C.ex,C.i 0,false,rfl,iteF ⟨_,rfl,a,CM,_,false,rfl,rfl,ha,C.ex,C.i 1,false,rfl,iteF ⟨_,rfl,a,CM,_,false,rfl,rfl,ha,C.ex,C.i 2,false,rfl,iteF ?_⟩⟩⟩
 refine⟨_,rfl,a,CM,_,false,rfl,rfl,ha,C.ex,C.i 3,false,rfl,iteF ⟨_,rfl,a,CM,_,false,rfl,rfl,ha,C.ex,C.i 4,false,rfl,iteF ⟨_,rfl,a,CM,_,false,rfl,rfl,ha,C.ex,C.i 5,false,rfl,iteF ?_⟩⟩⟩
 exact⟨_,rfl,a,CM,_,false,rfl,rfl,ha,C.ex,C.i 6,false,rfl,iteF ⟨_,rfl,a,CM,_,false,rfl,rfl,ha,C.ex,C.i 7,q⟩⟩
def spRefused(CT CG:Addr):Sp:=fun vs H Q _=>∃(gm gx p:Addr) (t:Option Nat) (fx:Fx) (side:Nat) (hs:List Nat) (lead:Nat) (ys:List Nat) (m:Nat) (need:Int),vs=[.ref gm,.int (side:Nat),.ref p,.int need]∧GamH CT CG fx t H gm gx∧IsPl H p hs lead ys∧Plc fx hs lead ys m∧12 < totC hs∧∀ H',Same H H'→Q (.bl true) H'
abbrev pRef:List Str:=["_law_game_here","_law_side_here","_law_place_here","_law_need"]
abbrev nRef:List Str:=["_law_game_here","_law_side_here","_law_place_here","_law_need","_law_error","e"]
theorem scRef:FnScope nRef pRef (defScope sRefused):=⟨rfl,rfl,rfl,by decide +kernel,rfl,by decide +kernel,by decide +kernel⟩
theorem ok_refused{k:Nat}{CT CG CE CM f1 f2:Addr}{d1 d2:FuncData}{c:_root_.Fin 8→Addr}(F:Fun K "_law_refused" "_law_refused" sRefused f fd)(C:ClsM K mg CE CM c)(LP:LibX P w K mg base k "paper" pPaper (spPaperR CT CG CM) f1 d1)(LO:Lib P w K mg base k "_law_others" ["_law_error"] (spOthers CM) f2 d2)(mi:mg "isinstance" = none)(mV:mg "ValueError" = none):FnOk P w K mg base CX0 (k+1) f fd pRef (spRefused CT CG):=by
 refine F.ok scRef (fun vs H Q E h=>?_) (fun cdv A outer s H vs Q E hr h=>?_)
 ·obtain⟨gm,gx,p,t,fx,side,hs,lead,ys,m,need,rfl,_⟩:=h
  rfl
 obtain⟨gm,gx,p,t,fx,side,hs,lead,ys,m,need,rfl,G,hp,Pl,t12,q⟩:=h
 refine⟨_,pss_cons (ps_set (i:=4) scRef.nd rfl (Or.inl rfl) pe_non)
  (pss_cons (ps_tryAs (i:=5) rfl rfl rfl scRef.nd rfl rfl (psx_expr (pex_call LP.ok hr rfl LP.mg LP.kp LP.bd .nil (pa_cons (pv 0) (pa_cons (pv 1) (pa_cons (pv 2) (pa_cons (pv 3) pa_nil)))))) rfl C.mT (fun e=>pss_one (ps_set (i:=4) scRef.nd rfl (Or.inl rfl) (pv 5))))
  (pss_cons (ps_if (PW.pt (pw_or (pt_cmpR op_isN (pv 4) pe_non (nomark _)) (pw_or1 (pt_truth (pe_call LO.ok hr rfl LO.mg LO.kp LO.bd .nil pass0 (pa_cons (pv 4) pa_nil)) (fun _=>rfl))))) (pss_one (ps_ret pe_bl)) pss_nil)
  (pss_one (ps_ret (pe_and (pe_callB call_isX rfl mi PyProof.Rows.boot_isinstance (pa_cons (pv 4) (pa_cons (pe_glob (v:=.ref CM) rfl C.mM rfl) pa_nil))) (pe_one (pe_callB call_isX rfl mi PyProof.Rows.boot_isinstance (pa_cons (pv 4) (pa_cons (pe_bltn (v:=.ty "ValueError") rfl mV PyProof.Rows.Boot.«ValueError» rfl) pa_nil))))))))),?_⟩
 refine⟨_,rfl,_,rfl,_,rfl,_,rfl,gm,gx,p,t,fx,side,hs,lead,ys,m,need,rfl,G,hp,Pl,t12,fun H1 s1=>⟨C.hX,CM,rfl,fun ea hea=>⟨_,rfl,?_⟩⟩⟩
 have s2:=s1.trans (same_upd hea (excO ea CM))
 refine⟨_,rfl,rfl,_,rfl,iteF ?_⟩
 refine⟨_,rfl,ea,rfl,upd_same,false,rfl,iteF ?_⟩
 exact⟨_,rfl,ea,CM,_,true,rfl,rfl,upd_same,C.ex,C.iM,true,rfl,iteT ⟨_,rfl,ea,CM,_,true,rfl,rfl,upd_same,C.ex,C.iV,q _ s2⟩⟩
end
end My
namespace My
open PySem L2
abbrev sLRows:Stmt:=top 88
abbrev sSure:Stmt:=top 89
section
variable{P:Program}{w:World}{K:PySem.W.Frag}{mg:Str→Option Value}{base:Heap}{f g:Addr}{fd gd:FuncData}
theorem Lib.mono{j k:Nat}{x:Str}{ps:List Str}{sp:Sp}{f1:Addr}{d1:FuncData}(L:Lib P w K mg base j x ps sp f1 d1)(h:j≤k):Lib P w K mg base k x ps sp f1 d1:=⟨L.ok.mono h,L.bd,L.kp,L.mg⟩
def OkP(fx:Fx)(hs:List Nat)(lead:Nat)(ys:List Nat)(b:Bool):Prop:=b=true∧∃ m,Plc fx hs lead ys m
theorem isPl_B{k:Nat}{CT CG:Addr}(h:FnOk P w K mg base CX0 k f fd ["game","place"] (spIsPlace CT CG)):FnOk P w K mg base CX0 k f fd ["game","place"] (spIsPlB CT CG OkP):=h.imp fun vs H Q E z=>by
 obtain⟨gm,x,p,t,fx,hs,ys,lead,b,rfl,G,hp,⟨rfl,m,Pl⟩,q⟩:=z
 exact⟨gm,x,p,t,fx,hs,ys,lead,m,rfl,G,hp,Pl,q⟩
theorem Plc.fm{fx:Fx}(ok:fx.Ok){r:Rw}{m:Nat}(Pl:Plc fx r.hs r.lead r.ys m):r.Fm:=by
 have n4:fx.n≤4:=by rcases ok.n34 with e | e<;>omega
 exact⟨by rw[Pl.len];omega,by have:=Pl.yl;omega⟩
theorem ndR_ge{rs:List Rw}{r:Rw}(h:r∈rs):r.nd≤ndR rs r.k:=by
 unfold ndR
 have up:∀(l:List Rw) (a:Int),a≤l.foldl (fun a x=>if x.k=r.k then max x.nd a else a) a:=by
  intro l
  induction l with
  | nil=>exact fun a=>Int.le_refl _
  | cons x l ih=>
   intro a
   rw[List.foldl_cons]
   refine Int.le_trans ?_ (ih _)
   split
   ·exact Int.le_max_right _ _
   ·exact Int.le_refl _
 have:∀(l:List Rw) (a:Int),r∈l→r.nd≤l.foldl (fun a x=>if x.k=r.k then max x.nd a else a) a:=by
  intro l
  induction l with
  | nil=>exact fun a h=>nomatch h
  | cons x l ih=>
   intro a h
   rw[List.foldl_cons]
   rcases List.mem_cons.mp h with e | e
   ·subst e
    rw[if_pos rfl]
    exact Int.le_trans (Int.le_max_left _ _) (up _ _)
   ·exact ih _ e
 exact this rs 0 h
theorem ndR_le{rs:List Rw}{k:PKey}{B:Int}(B0:0≤B)(h:∀ r∈rs,r.k=k→r.nd≤B):ndR rs k≤B:=by
 unfold ndR
 have:∀(l:List Rw) (a:Int),a≤B→(∀ r∈l,r.k=k→r.nd≤B)→l.foldl (fun a x=>if x.k=k then max x.nd a else a) a≤B:=by
  intro l
  induction l with
  | nil=>exact fun a h _=>h
  | cons x l ih=>
   intro a ha h
   rw[List.foldl_cons]
   refine ih _ ?_ fun r hr=>h r (List.mem_cons_of_mem _ hr)
   split
   ·rename_i e
    exact Int.max_le.mpr ⟨h x List.mem_cons_self e,ha⟩
   ·exact ha
 exact this rs 0 B0 h
inductive Chn(fx:Fx)(t:Option Nat):List Nat→Nat→List Nat→List Rw→Prop where
 | last {hs:List Nat} {lead:Nat} {ys:List Nat} {m h c:Nat} {hs':List Nat} {lead':Nat} {ys':List Nat} {s:Nat}:Plc fx hs lead ys m→hs[(lead+ys.length) % fx.n]? = some h→c∈mayL fx t ys h→Nxt fx t hs lead ys h c hs' lead' ys' (some s)→Chn fx t hs lead ys [⟨hs,lead,ys,1,some ((c:Nat):Int)⟩]
 | more {hs:List Nat} {lead:Nat} {ys:List Nat} {m h c:Nat} {hs':List Nat} {lead':Nat} {ys':List Nat} {rs:List Rw}:Plc fx hs lead ys m→hs[(lead+ys.length) % fx.n]? = some h→c∈mayL fx t ys h→Nxt fx t hs lead ys h c hs' lead' ys' none→Chn fx t hs' lead' ys' rs→Chn fx t hs lead ys (⟨hs,lead,ys,1,some ((c:Nat):Int)⟩ :: rs)
theorem Chn.head{fx:Fx}{t:Option Nat}{hs:List Nat}{lead:Nat}{ys:List Nat}{rs:List Rw}(h:Chn fx t hs lead ys rs):∃(c:Nat) (rest:List Rw),rs=⟨hs,lead,ys,1,some ((c:Nat):Int)⟩ :: rest:=by
 cases h with
 | last _ _ _ _=>exact⟨_,_,rfl⟩
 | more _ _ _ _ _=>exact⟨_,_,rfl⟩
theorem Chn.each{fx:Fx}(ok:fx.Ok){t:Option Nat}{hs:List Nat}{lead:Nat}{ys:List Nat}{rs:List Rw}(h:Chn fx t hs lead ys rs):∀ r∈rs,r.nd=1∧(∃ c:Nat,r.cd=some ((c:Nat):Int))∧ys.length≤r.ys.length∧∃ m,Plc fx r.hs r.lead r.ys m:=by
 induction h with
 | last Pl _ _ _=>
  intro r hr
  cases List.mem_singleton.mp hr
  exact⟨rfl,⟨_,rfl⟩,Nat.le_refl _,_,Pl⟩
 | more Pl eh hc N _ ih=>
  intro r hr
  rcases List.mem_cons.mp hr with e | e
  ·subst e
   exact⟨rfl,⟨_,rfl⟩,Nat.le_refl _,_,Pl⟩
  ·obtain⟨a,b,c,d⟩:=ih r e
   obtain⟨m',_,_,_,_,g⟩:=N.plc ok Pl eh (may_in (Pl.h32 ok (List.mem_of_getElem? eh)) hc).1
   rcases g with⟨_,_,_,ey,_⟩ | ⟨e',_⟩
   ·rw[ey,List.length_append] at c
    exact⟨a,b,by omega,d⟩
   ·cases e'
theorem Chn.rest{fx:Fx}(ok:fx.Ok){t:Option Nat}{hs:List Nat}{lead:Nat}{ys:List Nat}{rs:List Rw}(h:Chn fx t hs lead ys rs):∀ r∈rs.drop 1,r.k≠plK hs lead ys:=by
 cases h with
 | last _ _ _ _=>exact fun r hr=>nomatch hr
 | more Pl eh hc N C'=>
  intro r hr
  have hr':r∈_:=hr
  obtain⟨_,_,le,_⟩:=C'.each ok r hr'
  obtain⟨m',_,_,_,_,g⟩:=N.plc ok Pl eh (may_in (Pl.h32 ok (List.mem_of_getElem? eh)) hc).1
  intro e
  obtain⟨_,_,ey2⟩:=plK_inj e
  rcases g with⟨_,_,_,ey,_⟩ | ⟨e',_⟩
  ·rw[ey,ey2,List.length_append,List.length_singleton] at le
   omega
  ·cases e'
theorem Chn.right{fx:Fx}(ok:fx.Ok){t:Option Nat}{side:Nat}(ev:∀ s < fx.n,side.testBit s=true){nd:PKey→Int}(nd0:∀ k,0≤nd k){hs:List Nat}{lead:Nat}{ys:List Nat}{rs:List Rw}(h:Chn fx t hs lead ys rs)(hnd:∀ r∈rs,1≤nd r.k):∀ r∈rs,rtB fx t side nd r=true:=by
 have one:∀{hs:List Nat} {lead:Nat} {ys:List Nat} {m h c:Nat} {hs':List Nat} {lead':Nat} {ys':List Nat} {tk:Option Nat},Plc fx hs lead ys m→hs[(lead+ys.length) % fx.n]? = some h→c∈mayL fx t ys h→Nxt fx t hs lead ys h c hs' lead' ys' tk→(1:Int) - ((gainN side tk:Nat):Int)≤nd (plK hs' lead' ys')→rtB fx t side nd ⟨hs,lead,ys,1,some ((c:Nat):Int)⟩=true:=by
  intro hs lead ys m h c hs' lead' ys' tk Pl eh hc N hn
  have hb:=(may_in (Pl.h32 ok (List.mem_of_getElem? eh)) hc).1
  obtain⟨_,_,_,_,m0,_⟩:=N.plc ok Pl eh hb
  have n0:0 < fx.n:=by rcases ok.n34 with e | e<;>omega
  have em:=lfN_eq ok Pl
  have eg:hs.getD ((lead+ys.length) % fx.n) 0=h:=by rw[List.getD_eq_getElem?_getD,eh];rfl
  have eM:moveL fx t hs lead ys m=mayL fx t ys h:=by
   unfold moveL
   rw[if_neg (by omega),eg]
  unfold rtB
  dsimp only
  rw[em,ev _ (Nat.mod_lt _ n0),if_pos rfl,decide_eq_true (show(1:Int)≤1 by decide),decide_eq_true (show(1:Int)≤((m:Nat):Int) by omega),Int.toNat_natCast,covB_eq Pl eh hb N,decide_eq_true hn,eM,Bool.true_and,Bool.true_and,Bool.and_true]
  exact List.any_eq_true.mpr ⟨c,hc,decide_eq_true rfl⟩
 induction h with
 | @last hs lead ys m h c hs' lead' ys' sx Pl eh hc N=>
  intro r hr
  cases List.mem_singleton.mp hr
  refine one Pl eh hc N ?_
  obtain⟨_,_,_,_,_,g⟩:=N.plc ok Pl eh (may_in (Pl.h32 ok (List.mem_of_getElem? eh)) hc).1
  rcases g with⟨e',_⟩ | ⟨e',_,_,ln⟩
  ·cases e'
  ·cases e'
   have:gainN side (some lead')=1:=by
    show(if side.testBit lead'=true then 1 else 0)=1
    rw[ev _ ln,if_pos rfl]
   rw[this]
   exact nd0 _
 | more Pl eh hc N C' ih=>
  intro r hr
  rcases List.mem_cons.mp hr with e | e
  ·subst e
   refine one Pl eh hc N ?_
   obtain⟨c2,rest,er⟩:=C'.head
   have:=hnd ⟨_,_,_,1,some ((c2:Nat):Int)⟩ (List.mem_cons_of_mem _ (by rw[er];exact List.mem_cons_self))
   exact this
  ·exact ih (fun r hr=>hnd r (List.mem_cons_of_mem _ hr)) r e
theorem right_zero{fx:Fx}{t:Option Nat}{nd:PKey→Int}{r:Rw}{c:Int}(h:r.cd=some c):rtB fx t 0 nd r=false:=by
 unfold rtB
 rw[Nat.zero_testBit,if_neg Bool.false_ne_true,h,Bool.and_false,Bool.and_false]
def spLRows(CT CG:Addr):Sp:=fun vs H Q _=>∃(gm x p:Addr) (t:Option Nat) (fx:Fx) (hs ys:List Nat) (lead m:Nat),vs=[.ref gm,.ref p]∧GamH CT CG fx t H gm x∧TrB t∧IsPl H p hs lead ys∧Plc fx hs lead ys m∧0 < m ∧
 ∀ l as H',Same H H'→H' l=some (.lst (rwV as))→RwsH H' as→Chn fx t hs lead ys (as.map (·.1))→as.length≤4→Q (.ref l) H'
abbrev nLRows:List Str:=["_law_game_here","_law_place_here","_law_rows_here","_law_taker","_law_card"]
theorem scLRows:FnScope nLRows ["_law_game_here","_law_place_here"] (defScope sLRows):=⟨rfl,rfl,rfl,by decide +kernel,rfl,by decide +kernel,by decide +kernel⟩
theorem ok_lrows{k:Nat}{CT CG f4 f5:Addr}{d4 d5:FuncData}(F:Fun K "_law_rows" "_law_rows" sLRows f fd)(LM:Lib P w K mg base k "moves" ["game","place"] (spMoves CT CG) f4 d4)(LB:Lib P w K mg base k "behind" ["game","place","card"] (spBehind K CT CG) f5 d5):FnOk P w K mg base CX0 (k+1) f fd ["_law_game_here","_law_place_here"] (spLRows CT CG):=by
 refine F.ok scLRows (fun vs H Q E h=>?_) (fun cdv A outer s H vs Q E hr h=>?_)
 ·obtain⟨gm,x,p,t,fx,hs,ys,lead,m,rfl,_⟩:=h
  rfl
 obtain⟨gm,x,p0,t,fx,hs0,ys0,lead0,m0,rfl,G,tb,hp0,Pl0,mp0,q⟩:=h
 refine⟨_,pss_cons (ps_set (i:=2) scLRows.nd rfl (Or.inl rfl) (pe_lst pa_nil))
  (pss_cons (ps_set (i:=3) scLRows.nd rfl (Or.inl rfl) pe_non)
  (pss_cons (ps_while PassesOwn.never (pt_cmpR op_isN (pv 3) pe_non (nomark _))
   (pss_cons (ps_set (i:=4) scLRows.nd rfl (Or.inl rfl) (pe_ix ix_list (pe_call LM.ok hr rfl LM.mg LM.kp LM.bd .nil pass0 (pa_cons (pv 0) (pa_cons (pv 1) pa_nil))) pe_int (fun _ _=>rfl)))
   (pss_cons (ps_expr (pe_bm PySem.F.plainAttrs_list PySem.F.slot_list_append PySem.F.type_list_append mt_append (pv 2) (pa_cons (pe_tup (pa_cons (pv 1) (pa_cons pe_int (pa_cons (pv 4) pa_nil)))) pa_nil)))
   (pss_one (ps_asg (pe_call LB.ok hr rfl LB.mg LB.kp LB.bd .nil pass0 (pa_cons (pv 0) (pa_cons (pv 1) (pa_cons (pv 4) pa_nil)))) (pg_tup rfl (pgs_cons (pg_name (i:=1) scLRows.nd rfl (Or.inl rfl)) (pgs_cons (pg_name (i:=3) scLRows.nd rfl (Or.inl rfl)) pgs_nil))))))))
  (pss_one (ps_ret (pv 2))))),?_⟩
 have ok:=G.ok
 have n4:fx.n≤4:=by rcases ok.n34 with e | e<;>omega
 have z1000:=fits3 1000 (by decide)
 refine⟨fits3 0 (by decide),fun l hl=>?_⟩
 have s0:=same_upd hl (.lst [])
 refine⟨fun n σ H'=>Same H H'∧∃(p:Addr) (as:List (Rw×Addr)) (tk:Option Nat) (x4:Option V),σ=[some (.ref gm),some (.ref p),some (.ref l),some (tkV tk),x4]∧H' l=some (.lst (rwV as))∧RwsH H' as ∧
  ((∃ hs lead ys m,tk=none∧IsPl H' p hs lead ys∧Plc fx hs lead ys m∧0 < m∧n=fx.n - ys.length∧as.length≤ys.length∧∀ rs,Chn fx t hs lead ys rs→Chn fx t hs0 lead0 ys0 (as.map (·.1)++rs))∨((∃ s,tk=some s)∧n=0∧Chn fx t hs0 lead0 ys0 (as.map (·.1))∧as.length≤4)),⟨_,s0,p0,[],none,none,rfl,upd_same,(fun e he=>nomatch he),.inl ⟨hs0,lead0,ys0,m0,rfl,hp0.same s0,Pl0,mp0,rfl,Nat.zero_le _,fun rs h=>h⟩⟩,?_⟩
 rintro n σ H1 ⟨s1,p,as,tk,x4,rfl,hL,hR,hd⟩
 rcases hd with⟨hs,lead,ys,m,rfl,hp,Pl,mp,rfl,al,hch⟩ | ⟨⟨sx,rfl⟩,rfl,hch,a4⟩
 ·refine⟨_,rfl,rfl,_,rfl,iteT ?_⟩
  have yl:=Pl.yl
  obtain⟨h,eh,epc⟩:=Pl.turn ok
  have h32:=Pl.h32 ok (List.mem_of_getElem? eh)
  have eg:hs.getD ((lead+ys.length) % fx.n) 0=h:=by rw[List.getD_eq_getElem?_getD,eh];rfl
  have eM:moveL fx t hs lead ys m=mayL fx t ys h:=by
   unfold moveL
   rw[if_neg (by omega),eg]
  have ne:=may_ne (f:=fx) (t:=t) (ys:=ys) (h:=h) (by omega)
  obtain⟨c,cr,ec⟩:∃ c cr,mayL fx t ys h=c :: cr:=by
   cases z:mayL fx t ys h with
   | nil=>exact absurd z ne
   | cons c cr=>exact⟨c,cr,rfl⟩
  have hc:c∈mayL fx t ys h:=by rw[ec];exact List.mem_cons_self
  have hb:=(may_in h32 hc).1
  refine⟨fun σ' H'=>∃ n',n' < fx.n - ys.length∧(Same H H'∧∃(p:Addr) (as:List (Rw×Addr)) (tk:Option Nat) (x4:Option V),σ'=[some (.ref gm),some (.ref p),some (.ref l),some (tkV tk),x4]∧H' l=some (.lst (rwV as))∧RwsH H' as ∧
  ((∃ hs lead ys m,tk=none∧IsPl H' p hs lead ys∧Plc fx hs lead ys m∧0 < m∧n'=fx.n - ys.length∧as.length≤ys.length∧∀ rs,Chn fx t hs lead ys rs→Chn fx t hs0 lead0 ys0 (as.map (·.1)++rs))∨((∃ s,tk=some s)∧n'=0∧Chn fx t hs0 lead0 ys0 (as.map (·.1))∧as.length≤4))),fun σ' H' z=>z,?_⟩
  refine⟨_,rfl,_,rfl,gm,x,p,t,fx,hs,ys,lead,m,rfl,G.same s1,tb,hp,Pl,fun lm H2 s2 hlm hm2=>?_⟩
  rw[eM,ec] at hm2
  refine⟨lm,_,_,_,rfl,rfl,SqL.of hm2,atI_nat (j:=0) rfl,?_⟩
  have s12:=s1.trans s2
  have hL2:=s2 _ _ hL
  have hp2:=hp.same s2
  refine⟨_,rfl,.inl ⟨rfl,_,SqL.of hL2⟩,_,rfl,_,rfl,fits3 3 (by decide),fun ra hra=>?_⟩
  have s3:=same_upd hra (.tup [.ref p,.int 1,.int ((c:Nat):Int)])
  have hL3:=s3 _ _ hL2
  refine⟨l,_,_,rfl,rfl,hL3,by unfold rwV;rw[List.length_map];omega,?_⟩
  obtain⟨r,er⟩:∃ r:Rw,r=⟨hs,lead,ys,1,some ((c:Nat):Int)⟩:=⟨_,rfl⟩
  have rw3:IsRw (upd H2 ra (.tup [.ref p,.int 1,.int ((c:Nat):Int)])) r ra:=by
   rw[er]
   exact⟨p,upd_same,hp2.same s3⟩
  have fm:r.Fm:=by
   rw[er]
   exact Plc.fm ok (r:=⟨hs,lead,ys,1,some ((c:Nat):Int)⟩) Pl
  have tt:∀(o:HO) (b:Addr) (zs:List V),upd H2 ra (.tup [.ref p,.int 1,.int ((c:Nat):Int)]) b=some (.tup zs)→upd (upd H2 ra (.tup [.ref p,.int 1,.int ((c:Nat):Int)])) l o b=some (.tup zs):=fun o b zs e=>by
   rw[upd_ne (tup_ne e hL3 (fun ys e=>by cases e))]
   exact e
  have rwT:∀(o:HO) (r:Rw) (a:Addr),IsRw (upd H2 ra (.tup [.ref p,.int 1,.int ((c:Nat):Int)])) r a→IsRw (upd (upd H2 ra (.tup [.ref p,.int 1,.int ((c:Nat):Int)])) l o) r a:=fun o r a ⟨p,e1,hp,tp,e2,e3,e4⟩=>⟨p,tt o _ _ e1,hp,tp,tt o _ _ e2,tt o _ _ e3,tt o _ _ e4⟩
  have s4:∀(o:HO),Same H (upd (upd H2 ra (.tup [.ref p,.int 1,.int ((c:Nat):Int)])) l o):=fun o b u hb'=>by
   rw[upd_ne (ne_of_none hb' hl)]
   exact s3 _ _ (s12 _ _ hb')
  have eL:rwV as++[V.ref ra]=rwV (as++[(r,ra)]):=by
   unfold rwV
   rw[List.map_append]
   rfl
  rw[eL]
  have hR4:RwsH (upd (upd H2 ra (.tup [.ref p,.int 1,.int ((c:Nat):Int)])) l (.lst (rwV (as++[(r,ra)])))) (as++[(r,ra)]):=fun e he=>by
   rcases List.mem_append.mp he with z | z
   ·exact⟨rwT _ _ _ (((hR e z).1.same s2).same s3),(hR e z).2⟩
   ·cases List.mem_singleton.mp z
    exact⟨rwT _ _ _ rw3,fm⟩
  have hp4:IsPl (upd (upd H2 ra (.tup [.ref p,.int 1,.int ((c:Nat):Int)])) l (.lst (rwV (as++[(r,ra)])))) p hs lead ys:=by
   obtain⟨hp',tp',e1,e2,e3⟩:=hp2.same s3
   exact⟨hp',tp',tt _ _ _ e1,tt _ _ _ e2,tt _ _ _ e3⟩
  have s4':=s4 (.lst (rwV (as++[(r,ra)])))
  have hL4:upd (upd H2 ra (.tup [.ref p,.int 1,.int ((c:Nat):Int)])) l (.lst (rwV (as++[(r,ra)]))) l=some (.lst (rwV (as++[(r,ra)]))):=upd_same
  generalize upd (upd H2 ra (.tup [.ref p,.int 1,.int ((c:Nat):Int)])) l (.lst (rwV (as++[(r,ra)])))=H4 at s4' hL4 hR4 hp4
  refine⟨_,rfl,_,rfl,_,rfl,gm,x,p,t,fx,hs,ys,lead,m,h,c,rfl,G.same s4',hp4,Pl,eh,hb,fun rr p' hs' lead' ys' tk' H5 s5 N hrr hp'=>?_⟩
  refine⟨rr,_,rfl,SqT.of hrr,rfl,_,_,rfl,_,_,rfl,rfl,?_⟩
  obtain⟨m',Pl',_,_,_,g⟩:=N.plc ok Pl eh hb
  have em:(as++[(r,ra)]).map (·.1)=as.map (·.1)++[r]:=by rw[List.map_append];rfl
  have la:(as++[(r,ra)]).length=as.length+1:=by rw[List.length_append];rfl
  rcases g with⟨rfl,e2,_,e4,e5⟩ | ⟨e1,_,_,_⟩
  ·refine⟨_,?_,s4'.trans s5,p',as++[(r,ra)],none,_,rfl,s5 _ _ hL4,hR4.same s5,.inl ⟨hs',lead',ys',m',rfl,hp',Pl',by omega,rfl,by rw[la,e4,List.length_append,List.length_singleton];omega,fun rs hc'=>?_⟩⟩
   ·rw[e4,List.length_append,List.length_singleton]
    omega
   ·rw[em,List.append_assoc,er]
    exact hch _ (.more Pl eh hc N hc')
  ·subst e1
   refine⟨0,by omega,s4'.trans s5,p',as++[(r,ra)],some lead',_,rfl,s5 _ _ hL4,hR4.same s5,.inr ⟨⟨_,rfl⟩,rfl,?_,by omega⟩⟩
   rw[em,er]
   exact hch _ (.last Pl eh hc N)
 ·refine⟨_,rfl,rfl,_,rfl,iteF ?_⟩
  exact⟨_,rfl,q l as H1 s1 hL hR hch a4⟩
theorem every_bit(n:Nat):∀ s < n,(2 ^ n - 1:Nat).testBit s=true:=fun s hs=>by
 rw[Nat.testBit_two_pow_sub_one]
 exact decide_eq_true hs
theorem cut_fromV(xs:List V)(c:Nat)(hc:c≤xs.length):cutV xs (some ((c:Nat):Int)) none=xs.drop c:=by
 unfold cutV
 rw[HT.sIx_nat,Nat.min_eq_left hc]
 show(xs.drop c).take (xs.length - c)=_
 rw[List.take_of_length_le (by rw[List.length_drop];exact Nat.le_refl _)]
def spSure(CT CG:Addr):Sp:=fun vs H Q _=>∃(gm x p:Addr) (t:Option Nat) (fx:Fx) (hs ys:List Nat) (lead m:Nat),vs=[.ref gm,.ref p]∧GamH CT CG fx t H gm x∧TrB t∧IsPl H p hs lead ys∧Plc fx hs lead ys m∧0 < m∧∀ H',Same H H'→Q (.bl true) H'
abbrev nSure:List Str:=["_law_game_here","_law_place_here","_law_everyone","_law_rows_here","_law_row"]
theorem scSure:FnScope nSure ["_law_game_here","_law_place_here"] (defScope sSure):=⟨rfl,rfl,rfl,by decide +kernel,rfl,by decide +kernel,by decide +kernel⟩
theorem ok_sure{k:Nat}{CT CG f1 f2 f3 f4:Addr}{d1 d2 d3 d4:FuncData}(F:Fun K "_law_sure" "_law_sure" sSure f fd)(C:TabC K mg CT)(CGm:GamC K mg CG)(LI:Lib P w K mg base k "_law_bit" ["_law_card"] spBit f1 d1)(LR:Lib P w K mg base k "_law_rows" ["_law_game_here","_law_place_here"] (spLRows CT CG) f2 d2)
    (LW:Lib P w K mg base k "row_right" ["game","side","paper","row"] (spRowRight P w CT CG OkP) f3 d3) (LH:Lib P w K mg base k "holds" ["game","side","paper","place","need"] (spHolds P w CT CG OkP) f4 d4):FnOk P w K mg base CX0 (k+1) f fd ["_law_game_here","_law_place_here"] (spSure CT CG):=by
  refine F.ok scSure (fun vs H Q E h=>?_) (fun cdv A outer s H vs Q E hr h=>?_)
  · obtain⟨gm,x,p,t,fx,hs,ys,lead,m,rfl,_⟩:=h
    rfl
  obtain⟨gm,x,p,t,fx,hs,ys,lead,m,rfl,G,tb,hp,Pl,mp,q⟩:=h
  refine⟨_,pss_cons (ps_set (i:=2) scSure.nd rfl (Or.inl rfl) (pe_op op_sub (pe_call LI.ok hr rfl LI.mg LI.kp LI.bd .nil pass0 (pa_cons (pe_fld (pe_fld (pv 0) rfl) rfl) pa_nil)) pe_int))
    (pss_cons (ps_set (i:=3) scSure.nd rfl (Or.inl rfl) (pe_call LR.ok hr rfl LR.mg LR.kp LR.bd .nil pass0 (pa_cons (pv 0) (pa_cons (pv 1) pa_nil))))
    (pss_cons (ps_for PassesOwn.never rfl (pi_list (pv 3)) (pg_name (i:=4) scSure.nd rfl (Or.inl rfl))
      (pss_one (ps_if (PW.pt (pw_or (pt_cmpR op_isntB (pe_call LW.ok hr rfl LW.mg LW.kp LW.bd .nil pass0 (pa_cons (pv 0) (pa_cons (pv 2) (pa_cons (pv 3) (pa_cons (pv 4) pa_nil))))) pe_bl (nomark _)) (pw_or1 (pt_cmpR op_isntB (pe_call LW.ok hr rfl LW.mg LW.kp LW.bd .nil pass0 (pa_cons (pv 0) (pa_cons pe_int (pa_cons (pv 3) (pa_cons (pv 4) pa_nil))))) pe_bl (nomark _))))) (pss_one (ps_ret pe_bl)) pss_nil)))
    (pss_cons (ps_if (PW.pt (pw_or (pt_cmpR op_isntB (pe_call LH.ok hr rfl LH.mg LH.kp LH.bd .nil pass0 (pa_cons (pv 0) (pa_cons (pv 2) (pa_cons (pv 3) (pa_cons (pv 1) (pa_cons pe_int pa_nil)))))) pe_bl (nomark _)) (pw_or1 (pt_cmpR op_isntB (pe_call LH.ok hr rfl LH.mg LH.kp LH.bd .nil pass0 (pa_cons (pv 0) (pa_cons (pv 2) (pa_cons (pe_slice sl_list (pv 3) (po_some pe_int) po_none) (pa_cons (pv 1) (pa_cons pe_int pa_nil)))))) pe_bl (nomark _))))) (pss_one (ps_ret pe_bl)) pss_nil)
    (pss_one (ps_ret (pe_and (pe_cmpR op_isB (pe_call LH.ok hr rfl LH.mg LH.kp LH.bd .nil pass0 (pa_cons (pv 0) (pa_cons (pv 2) (pa_cons (pv 3) (pa_cons (pv 1) (pa_cons pe_int pa_nil)))))) pe_bl (nomark _)) (pe_one (pe_cmpR op_isB (pe_call LH.ok hr rfl LH.mg LH.kp LH.bd .nil pass0 (pa_cons (pv 0) (pa_cons pe_int (pa_cons (pv 3) (pa_cons (pv 1) (pa_cons pe_int pa_nil)))))) pe_bl (nomark _))))))))),?_⟩
  have ok:=G.ok
  have n4:fx.n≤4:=by rcases ok.n34 with e | e<;>omega
  have z1000:=fits3 1000 (by decide)
  obtain⟨dg,hg⟩:=id G.g
  obtain⟨dx,po,to,hx,_,_⟩:=id G.t
  refine⟨_,rfl,gm,CG,dg,_,_,rfl,hg,CGm.cl,CGm.nT,gam_table _ _,x,CT,dx,_,_,rfl,hx,C.cl,C.nN,look7_seats _ _ _,fx.n,rfl,by omega,_,_,rfl,rfl,?_⟩
  have e2:((2 ^ fx.n:Nat):Int) - 1=((2 ^ fx.n - 1:Nat):Int):=by
    have:0 < 2 ^ fx.n:=Nat.pos_of_ne_zero (by simp)
    omega
  dsimp only
  rw[e2]
  have ev:=every_bit fx.n
  generalize 2 ^ fx.n - 1=side at ev
  refine⟨_,rfl,_,rfl,gm,x,p,t,fx,hs,ys,lead,m,rfl,G,tb,hp,Pl,mp,fun l as H1 s1 hL hR hch a4=>?_⟩
  have each:=hch.each ok
  have nd1:∀ r∈as.map (·.1),1≤ndR (as.map (·.1)) r.k:=fun r hr=>by
    have:=ndR_ge hr
    rw[(each r hr).1] at this
    exact this
  have rt:=hch.right ok ev (ndR_nn _) nd1
  have ndk:ndR (as.map (·.1)) (plK hs lead ys)=1:=by
    obtain⟨c,rest,er⟩:=hch.head
    have h1:=nd1 ⟨hs,lead,ys,1,some ((c:Nat):Int)⟩ (by rw[er];exact List.mem_cons_self)
    exact Int.le_antisymm (ndR_le (by decide) fun r hr _=>by rw[(each r hr).1];exact Int.le_refl _) h1
  have okA:∀ e∈as,OkP fx e.1.hs e.1.lead e.1.ys true:=fun e he=>⟨rfl,(each e.1 (List.mem_map.mpr ⟨e,he,rfl⟩)).2.2.2⟩
  have sl:as.length < sizeLine:=Nat.lt_of_lt_of_le (by omega:as.length < 1000) z1000
  have allT:((as.map (·.1)).all fun r=>true && rtB fx t side (ndR (as.map (·.1))) r)=true:=List.all_eq_true.mpr fun r hr=>by rw[Bool.true_and];exact rt r hr
  have ne0:∃ e,e∈as:=by
    obtain⟨c,rest,er⟩:=hch.head
    cases as with
    | nil=>cases er
    | cons e _=>exact⟨e,List.mem_cons_self⟩
  refine⟨_,rfl,l,rfl,⟨_,SqL.of hL⟩,for_list (xs:=rwV as) (fun i σ H2=>Same H1 H2∧∃ z,σ=[some (.ref gm),some (.ref p),some (.int ((side:Nat):Int)),some (.ref l),z]) ⟨Same.refl H1,none,rfl⟩ (fun i σ H2 _ z=>SqL.of (z.1 _ _ hL)) (fun i v σ H2 hv z=>?_) (fun σ H2 z=>?_)⟩
  · obtain⟨s2,z0,rfl⟩:=z
    obtain⟨⟨r,a⟩,hi,rfl⟩:∃ e,as[i]? = some e∧v = .ref e.2:=by
      unfold rwV at hv
      rw[List.getElem?_map] at hv
      obtain⟨e,he,rfl⟩:=Option.map_eq_some_iff.mp hv
      exact⟨e,he,rfl⟩
    have me:=List.mem_of_getElem? hi
    have mr:r∈as.map (·.1):=List.mem_map.mpr ⟨_,me,rfl⟩
    obtain⟨hr1,fm⟩:=(hR.same s2) _ me
    have s12:=s1.trans s2
    refine⟨_,rfl,_,rfl,_,rfl,_,rfl,gm,x,l,a,t,fx,side,as,r,true,rfl,G.same s12,tb,s2 _ _ hL,hR.same s2,sl,hr1,fm,okA _ me,fun H3 s3=>?_⟩
    rw[rt r mr]
    refine⟨true,true,rfl,rfl,_,rfl,iteF ?_⟩
    have s13:=s12.trans s3
    refine⟨_,rfl,_,rfl,_,rfl,gm,x,l,a,t,fx,0,as,r,true,rfl,G.same s13,tb,(s2.trans s3) _ _ hL,hR.same (s2.trans s3),sl,hr1.same s3,fm,okA _ me,fun H4 s4=>?_⟩
    obtain⟨c,ec⟩:=(each r mr).2.1
    rw[right_zero ec]
    exact⟨false,false,rfl,rfl,_,rfl,iteF ⟨(s2.trans s3).trans s4,_,rfl⟩⟩
  · obtain⟨s2,z0,rfl⟩:=z
    have s12:=s1.trans s2
    refine⟨_,rfl,_,rfl,_,rfl,_,rfl,gm,x,l,p,t,fx,side,as,(fun _=>true),hs,lead,ys,1,rfl,G.same s12,tb,s2 _ _ hL,hR.same s2,sl,okA,hp.same s12,fun H3 s3=>?_⟩
    have h1:hldB fx t side (fun _=>true) (as.map (·.1)) (plK hs lead ys) 1=true:=by
      unfold hldB
      rw[allT,ndk]
      rfl
    rw[h1]
    refine⟨true,true,rfl,rfl,_,rfl,iteF ?_⟩
    have s23:=s2.trans s3
    have s13:=s1.trans s23
    refine⟨_,rfl,_,rfl,_,rfl,_,rfl,l,_,rfl,SqL.of (s23 _ _ hL),fun l2 hl2=>?_⟩
    have eC:cutV (rwV as) (some 1) none=rwV (as.drop 1):=by
      have:=cut_fromV (rwV as) 1 (by
        obtain⟨e,he⟩:=ne0
        unfold rwV
        rw[List.length_map]
        exact List.length_pos_of_mem he)
      unfold rwV at *
      rw[← List.map_drop] at this
      exact this
    rw[eC]
    have s4:=same_upd hl2 (.lst (rwV (as.drop 1)))
    have sA:=s13.trans s4
    refine⟨_,rfl,gm,x,l2,p,t,fx,side,as.drop 1,(fun _=>true),hs,lead,ys,1,rfl,G.same sA,tb,upd_same,fun e he=>(hR.same (s23.trans s4)) e (List.mem_of_mem_drop he),by rw[List.length_drop];omega,fun e he=>okA e (List.mem_of_mem_drop he),hp.same sA,fun H5 s5=>?_⟩
    have h2:hldB fx t side (fun _=>true) ((as.drop 1).map (·.1)) (plK hs lead ys) 1=false:=by
      unfold hldB
      have:ndR ((as.drop 1).map (·.1)) (plK hs lead ys)≤0:=ndR_le (Int.le_refl _) fun r hr e=>by
        rw[List.map_drop] at hr
        exact absurd e (hch.rest ok r hr)
      rw[decide_eq_false (by omega),Bool.and_false]
    rw[h2]
    refine⟨false,false,rfl,rfl,_,rfl,iteF ?_⟩
    have sB:=sA.trans s5
    have sR:=(s23.trans s4).trans s5
    refine⟨_,rfl,_,rfl,_,rfl,_,rfl,gm,x,l,p,t,fx,side,as,(fun _=>true),hs,lead,ys,2,rfl,G.same sB,tb,sR _ _ hL,hR.same sR,sl,okA,hp.same sB,fun H6 s6=>?_⟩
    have h3:hldB fx t side (fun _=>true) (as.map (·.1)) (plK hs lead ys) 2=false:=by
      unfold hldB
      rw[ndk]
      exact Bool.and_false _
    rw[h3]
    refine⟨false,false,rfl,rfl,true,rfl,iteT ?_⟩
    have sC:=sB.trans s6
    have sS:=sR.trans s6
    refine⟨_,rfl,_,rfl,_,rfl,gm,x,l,p,t,fx,0,as,(fun _=>true),hs,lead,ys,0,rfl,G.same sC,tb,sS _ _ hL,hR.same sS,sl,okA,hp.same sC,fun H7 s7=>?_⟩
    have h4:hldB fx t 0 (fun _=>true) (as.map (·.1)) (plK hs lead ys) 0=false:=by
      obtain⟨e,he⟩:=ne0
      have mr:e.1∈as.map (·.1):=List.mem_map.mpr ⟨e,he,rfl⟩
      obtain⟨c,ec⟩:=(each e.1 mr).2.1
      unfold hldB
      have:((as.map (·.1)).all fun r=>true && rtB fx t 0 (ndR (as.map (·.1))) r)=false:=List.all_eq_false.mpr ⟨e.1,mr,by rw[right_zero ec];exact Bool.false_ne_true⟩
      rw[this,Bool.false_and]
    rw[h4]
    exact⟨false,false,rfl,rfl,q H7 (sC.trans s7)⟩
end
end My
namespace My
open PySem L2
abbrev sSide:Stmt:=top 83
abbrev sLaw:Stmt:=top 90
section
variable{P:Program}{w:World}{K:PySem.W.Frag}{mg:Str→Option Value}{base:Heap}{f g:Addr}{fd gd:FuncData}
def spSide(K:PySem.W.Frag):Sp:=fun vs H Q _=>∃(a:Addr) (ns:List Int) (n:Nat),vs=[.ref a,.int (n:Nat)]∧SqL K H a (ns.map V.int)∧n≤4∧∀ side:Nat,side < 2 ^ n→Q (.int (side:Nat)) H
theorem scSide:FnScope ["_law_script","_law_seats"] ["_law_script","_law_seats"] (defScope sSide):=⟨rfl,rfl,rfl,by decide +kernel,rfl,by decide +kernel,by decide +kernel⟩
theorem ok_side{k:Nat}{f1 f2:Addr}{d1 d2:FuncData}(F:Fun K "_law_side" "_law_side" sSide f fd)(LC:Lib P w K mg base k "_law_cell" pCell (spCell K) f1 d1)(LI:Lib P w K mg base k "_law_bit" ["_law_card"] spBit f2 d2):FnOk P w K mg base CX0 (k+1) f fd ["_law_script","_law_seats"] (spSide K):=by
 refine F.ok scSide (fun vs H Q E h=>?_) (fun cdv A outer s H vs Q E hr h=>?_)
 ·obtain⟨a,ns,n,rfl,_⟩:=h
  rfl
 obtain⟨a,ns,n,rfl,hS,n4,q⟩:=h
 refine⟨_,pss_one (ps_ret (pe_op op_mod (pe_call LC.ok hr rfl LC.mg LC.kp LC.bd .nil pass0 (pa_cons (pv 0) (pa_cons pe_int pa_nil))) (pe_call LI.ok hr rfl LI.mg LI.kp LI.bd .nil pass0 (pa_cons (pv 1) pa_nil)))),?_⟩
 have p0:0 < 2 ^ n:=Nat.pos_of_ne_zero (by simp)
 refine⟨_,rfl,a,ns,10,rfl,hS,by decide,fun c=>⟨_,rfl,n,rfl,by omega,_,_,rfl,rfl,(show(0:Int) < ((2 ^ n:Nat):Int) by omega),?_⟩⟩
 obtain⟨sd,sl,es⟩:=int_nat (z:=c) (n:=2 ^ n) p0
 show Q (V.int (c % ((2 ^ n:Nat):Int))) H
 rw[es]
 exact q sd sl
def spLaw(K:PySem.W.Frag):Sp:=fun vs H Q _=>∃(a:Addr) (ns:List Int),vs=[.ref a]∧SqL K H a (ns.map V.int)∧ns.length≤63∧∀ H',Q (.bl true) H'
abbrev nLaw:List Str:=["_law_script","_law_game_here","_law_size_here","_law_place_here","_law_side_here","_law_need","_law_wrong","_law_small"]
theorem scLaw:FnScope nLaw ["_law_script"] (defScope sLaw):=⟨rfl,rfl,rfl,by decide +kernel,rfl,by decide +kernel,by decide +kernel⟩
theorem ok_law{k:Nat}{CT CG f1 f2 f3 f4 f5 f6 f7 f8 f9 fA:Addr}{d1 d2 d3 d4 d5 d6 d7 d8 d9 dA:FuncData}(F:Fun K "law" "law" sLaw f fd)(C:TabC K mg CT)(CGm:GamC K mg CG)(LG:Lib P w K mg base k "_law_great_game" ["_law_script"] (spGreatG K CT CG) f1 d1)(LC:Lib P w K mg base k "_law_cell" pCell (spCell K) f2 d2)(LP:Lib P w K mg base k "_law_great_place" pGreatP (spGreatP K CT CG) f3 d3)
  (LD:Lib P w K mg base k "_law_side" ["_law_script","_law_seats"] (spSide K) f4 d4) (LR:Lib P w K mg base k "_law_refused" pRef (spRefused CT CG) f5 d5) (LL:Lib P w K mg base k "left" ["place"] (spLeft K) f6 d6) (LW:Lib P w K mg base k "row_right" ["game","side","paper","row"] (spRowRight P w CT CG OkP) f7 d7) (LH:Lib P w K mg base k "holds" ["game","side","paper","place","need"] (spHolds P w CT CG OkP) f8 d8)
  (LU:Lib P w K mg base k "_law_sure" ["_law_game_here","_law_place_here"] (spSure CT CG) f9 d9) (LE:Lib P w K mg base k "paper" pPaper (spPaper0 CT CG) fA dA):FnOk P w K mg base CX0 (k+1) f fd ["_law_script"] (spLaw K):=by
 refine F.ok scLaw (fun vs H Q E h=>?_) (fun cdv A outer s H vs Q E hr h=>?_)
 ·obtain⟨a,ns,rfl,_⟩:=h
  rfl
 obtain⟨a,ns,rfl,hS,h63,q⟩:=h
 refine⟨_,pss_cons (ps_set (i:=1) scLaw.nd rfl (Or.inl rfl) (pe_call LG.ok hr rfl LG.mg LG.kp LG.bd .nil pass0 (pa_cons (pv 0) pa_nil)))
  (pss_cons (ps_set (i:=2) scLaw.nd rfl (Or.inl rfl) pe_int)
  (pss_cons (ps_if (pt_cmpR op_eq (pe_fld (pe_fld (pv 1) rfl) rfl) pe_int (nomark _)) (pss_one (ps_set (i:=2) scLaw.nd rfl (Or.inl rfl) (pe_op op_add pe_int (pe_op op_mod (pe_call LC.ok hr rfl LC.mg LC.kp LC.bd .nil pass0 (pa_cons (pv 0) (pa_cons pe_int pa_nil))) pe_int)))) pss_nil)
  (pss_cons (ps_set (i:=3) scLaw.nd rfl (Or.inl rfl) (pe_call LP.ok hr rfl LP.mg LP.kp LP.bd .nil pass0 (pa_cons (pv 0) (pa_cons (pv 1) (pa_cons (pv 2) pa_nil)))))
  (pss_cons (ps_set (i:=4) scLaw.nd rfl (Or.inl rfl) (pe_call LD.ok hr rfl LD.mg LD.kp LD.bd .nil pass0 (pa_cons (pv 0) (pa_cons (pe_fld (pe_fld (pv 1) rfl) rfl) pa_nil))))
  (pss_cons (ps_for PassesOwn.never rfl (pi_list (pe_lst (pa_cons pe_int (pa_cons (pe_op op_mod (pe_call LC.ok hr rfl LC.mg LC.kp LC.bd .nil pass0 (pa_cons (pv 0) (pa_cons pe_int pa_nil))) pe_int) (pa_cons (pe_op op_sub (pe_un un_neg pe_int) (pe_op op_mod (pe_call LC.ok hr rfl LC.mg LC.kp LC.bd .nil pass0 (pa_cons (pv 0) (pa_cons pe_int pa_nil))) pe_int)) (pa_cons (pe_op op_pow pe_int pe_int) pa_nil)))))) (pg_name (i:=5) scLaw.nd rfl (Or.inl rfl))
   (pss_one (ps_if (pt_not (pt_truth (pe_call LR.ok hr rfl LR.mg LR.kp LR.bd .nil pass0 (pa_cons (pv 1) (pa_cons (pv 4) (pa_cons (pv 3) (pa_cons (pv 5) pa_nil))))) (fun _=>rfl))) (pss_one (ps_ret pe_bl)) pss_nil)))
  (pss_cons (ps_set (i:=6) scLaw.nd rfl (Or.inl rfl) (pe_tup (pa_cons (pv 3) (pa_cons (pe_op op_add (pe_call LL.ok hr rfl LL.mg LL.kp LL.bd .nil pass0 (pa_cons (pv 3) pa_nil)) pe_int) (pa_cons pe_non pa_nil)))))
  (pss_cons (ps_if (PW.pt (pw_or (pt_cmpR op_isntB (pe_call LW.ok hr rfl LW.mg LW.kp LW.bd .nil pass0 (pa_cons (pv 1) (pa_cons (pv 4) (pa_cons (pe_lst (pa_cons (pv 6) pa_nil)) (pa_cons (pv 6) pa_nil))))) pe_bl (nomark _)) (pw_or1 (pt_cmpR op_isntB (pe_call LH.ok hr rfl LH.mg LH.kp LH.bd .nil pass0 (pa_cons (pv 1) (pa_cons (pv 4) (pa_cons (pe_lst (pa_cons (pv 6) pa_nil)) (pa_cons (pv 3) (pa_cons pe_int pa_nil)))))) pe_bl (nomark _))))) (pss_one (ps_ret pe_bl)) pss_nil)
  (pss_cons (ps_if (PW.pt (pw_or (pt_cmpR op_isntB (pe_call LH.ok hr rfl LH.mg LH.kp LH.bd .nil pass0 (pa_cons (pv 1) (pa_cons (pv 4) (pa_cons (pe_lst pa_nil) (pa_cons (pv 3) (pa_cons pe_int pa_nil)))))) pe_bl (nomark _)) (pw_or1 (pt_cmpR op_isntB (pe_call LH.ok hr rfl LH.mg LH.kp LH.bd .nil pass0 (pa_cons (pv 1) (pa_cons (pv 4) (pa_cons (pe_lst pa_nil) (pa_cons (pv 3) (pa_cons pe_int pa_nil)))))) pe_bl (nomark _))))) (pss_one (ps_ret pe_bl)) pss_nil)
  (pss_cons (ps_if (pt_not (pt_truth (pe_call LU.ok hr rfl LU.mg LU.kp LU.bd .nil pass0 (pa_cons (pv 1) (pa_cons (pv 3) pa_nil))) (fun _=>rfl))) (pss_one (ps_ret pe_bl)) pss_nil)
  (pss_cons (ps_set (i:=7) scLaw.nd rfl (Or.inl rfl) (pe_call LP.ok hr rfl LP.mg LP.kp LP.bd .nil pass0 (pa_cons (pv 0) (pa_cons (pv 1) (pa_cons pe_int pa_nil)))))
  (pss_one (ps_ret (pe_and (pe_cmpR (op_eqNil hr.units) (pe_call LE.ok hr rfl LE.mg LE.kp LE.bd .nil pass0 (pa_cons (pv 1) (pa_cons (pv 4) (pa_cons (pv 7) (pa_cons pe_int pa_nil))))) (pe_lst pa_nil) (nomark _)) (pe_one (pe_call LR.ok hr rfl LR.mg LR.kp LR.bd .nil pass0 (pa_cons (pv 1) (pa_cons (pv 4) (pa_cons (pv 3) (pa_cons pe_int pa_nil))))))))))))))))))),?_⟩
 have z1000:=fits3 1000 (by decide)
 refine set_nm (fun v H1=>Same H H1∧∃ gm x fx t,v = .ref gm∧TrB t∧fx.s=4∧fx.h=8∧GamH CT CG fx t H1 gm x) (fun R hR=>⟨_,rfl,a,ns,rfl,hS,fun gm x fx t H1 tb e1 e2 s1 G=>hR _ _ ⟨s1,gm,x,fx,t,rfl,tb,e1,e2,G⟩⟩) (fun v H1 z=>?_)
 obtain⟨s1,gm,x,fx,t,rfl,tb,fs,fh,G⟩:=z
 have ok:=G.ok
 have n3:3≤fx.n:=by rcases ok.n34 with e | e<;>omega
 have n4:fx.n≤4:=by rcases ok.n34 with e | e<;>omega
 obtain⟨dg,hg⟩:=id G.g
 obtain⟨dx,po,to,hx,_,_⟩:=id G.t
 refine set_nm (fun v H'=>H1=H'∧v = .int 4) (fun R hR=>hR _ _ ⟨rfl,rfl⟩) (fun v H' z=>?_)
 obtain⟨rfl,rfl⟩:=z
 refine if_cut (fun b H'=>H1=H'∧b=decide (fx.n=3)) (fun σ H'=>H1=H'∧∃ sz:Nat,σ=[some (.ref a),some (.ref gm),some (.int (sz:Nat)),none,none,none,none,none]∧1≤sz∧sz * fx.n≤fx.s * fx.h∧14 < fx.n * sz) (fun R hR=>?_) (fun H' z D' er nx=>?_) (fun H' z D' er nx=>?_) (fun σ H' z=>?_)
 ·exact⟨_,rfl,gm,CG,dg,_,_,rfl,hg,CGm.cl,CGm.nT,gam_table _ _,x,CT,dx,_,_,rfl,hx,C.cl,C.nN,look7_seats _ _ _,rfl,_,rfl,hR _ _ ⟨rfl,natLit (r:=fx.n) (n:=3) (i:=3) rfl⟩⟩
 ·obtain⟨rfl,e⟩:=z
  have e3:fx.n=3:=of_decide_eq_true e.symm
  refine⟨_,rfl,a,ns,3,rfl,s1.seq hS,by decide,fun c=>⟨_,_,rfl,rfl,(show(0:Int) < 2 by decide),_,_,rfl,rfl,?_⟩⟩
  obtain⟨b,b2,eb⟩:=int_nat (z:=c) (n:=2) (by omega)
  have eb':c % 2=((b:Nat):Int):=eb
  refine nx _ _ ⟨rfl,5+b,?_,by omega,?_,?_⟩
  ·show [some (V.ref a),some (V.ref gm),some (V.int ((5:Int)+c % 2)),none,none,none,none,none]=_
   rw[eb',Int.natCast_add]
   rfl
  ·rw[fs,fh,e3]
   omega
  ·rw[e3]
   omega
 ·obtain⟨rfl,e⟩:=z
  have e3:fx.n≠3:=of_decide_eq_false e.symm
  have e4:fx.n=4:=by omega
  exact nx _ _ ⟨rfl,4,rfl,by decide,by rw[fs,fh,e4];decide,by rw[e4];decide⟩
 obtain⟨rfl,sz,rfl,sz1,szn,sz14⟩:=z
 refine set_nm (fun v H2=>Same H1 H2∧∃ p hs lead ys m,v = .ref p∧IsPl H2 p hs lead ys∧Plc fx hs lead ys m∧12 < totC hs) (fun R hR=>⟨_,rfl,_,rfl,_,rfl,a,gm,x,ns,fx,t,sz,rfl,s1.seq hS,G,tb,sz1,szn,fun p hs lead ys m H2 s2 hp Pl e1 e2=>hR _ _ ⟨s2,p,hs,lead,ys,m,rfl,hp,Pl,by omega⟩⟩) (fun v H2 z=>?_)
 obtain⟨s2,p,hs,lead,ys,m,rfl,hp,Pl,t12⟩:=z
 have m0:=plc_pos ok Pl (by omega)
 have s02:=s1.trans s2
 have G2:=G.same s2
 refine set_nm (fun v H'=>H2=H'∧∃ side:Nat,v = .int (side:Nat)) (fun R hR=>⟨_,rfl,_,rfl,gm,CG,dg,_,_,rfl,s2 _ _ hg,CGm.cl,CGm.nT,gam_table _ _,x,CT,dx,_,_,rfl,s2 _ _ hx,C.cl,C.nN,look7_seats _ _ _,a,ns,fx.n,rfl,s02.seq hS,n4,fun side _=>hR _ _ ⟨rfl,side,rfl⟩⟩) (fun v H' z=>?_)
 obtain⟨rfl,side,rfl⟩:=z
 refine seq_cut (fun σ H3=>Same H2 H3∧∃ x5,σ=[some (.ref a),some (.ref gm),some (.int (sz:Nat)),some (.ref p),some (.int (side:Nat)),x5,none,none]) (fun D' er nx=>?_) (fun σ H3 z=>?_)
 ·refine⟨_,rfl,a,ns,11,rfl,s02.seq hS,by decide,fun c1=>⟨_,_,rfl,rfl,(show(0:Int) < 13 by decide),_,rfl,_,rfl,a,ns,11,rfl,s02.seq hS,by decide,fun c2=>⟨_,_,rfl,rfl,(show(0:Int) < 1000000007 by decide),_,_,rfl,rfl,_,_,rfl,rfl,⟨by decide,by decide,by decide⟩,fits3 4 (by decide),fun ln hln=>?_⟩⟩⟩
  refine⟨ln,rfl,⟨_,SqL.of upd_same⟩,?_⟩
  have sN:=same_upd hln (.lst ([((0:Int)),c1 % 13,-1 - c2 % 1000000007,10 ^ 20].map V.int))
  refine for_list (xs:=[((0:Int)),c1 % 13,-1 - c2 % 1000000007,10 ^ 20].map V.int) (fun i σ H3=>Same H2 H3∧H3 ln=some (.lst ([((0:Int)),c1 % 13,-1 - c2 % 1000000007,10 ^ 20].map V.int))∧∃ x5,σ=[some (.ref a),some (.ref gm),some (.int (sz:Nat)),some (.ref p),some (.int (side:Nat)),x5,none,none]) ⟨sN,upd_same,none,rfl⟩ (fun i σ H3 _ z=>SqL.of z.2.1) (fun i v σ H3 hv z=>?_) (fun σ H3 z=>nx _ _ ⟨z.1,z.2.2⟩)
  obtain⟨s3,hl3,x5,rfl⟩:=z
  obtain⟨need,_,rfl⟩:=List.mem_map.mp (List.mem_of_getElem? hv)
  refine⟨_,rfl,_,rfl,_,rfl,_,rfl,gm,x,p,t,fx,side,hs,lead,ys,m,need,rfl,G2.same s3,hp.same s3,Pl,t12,fun H4 s4=>⟨_,rfl,iteF ⟨s3.trans s4,s4 _ _ hl3,_,rfl⟩⟩⟩
 obtain⟨s3,x5,rfl⟩:=z
 have G3:=G2.same s3
 have hp3:=hp.same s3
 obtain⟨r,er⟩:∃ r:Rw,r=⟨hs,lead,ys,((m:Nat):Int)+1,none⟩:=⟨_,rfl⟩
 have fm:r.Fm:=by rw[er];exact Plc.fm ok (r:=⟨hs,lead,ys,((m:Nat):Int)+1,none⟩) Pl
 have okR:OkP fx r.hs r.lead r.ys true:=by rw[er];exact⟨rfl,m,Pl⟩
 have wr:∀ nd,rtB fx t side nd r=false:=fun nd=>by
  rw[er]
  unfold rtB
  dsimp only
  rw[lfN_eq ok Pl,decide_eq_false (by omega:¬ ((m:Nat):Int)+1≤((m:Nat):Int)),Bool.false_and,Bool.and_false]
 refine set_nm (fun v H4=>Same H3 H4∧∃ wa,v = .ref wa∧IsRw H4 r wa) (fun R hR=>⟨_,rfl,_,rfl,p,fx,hs,ys,lead,m,rfl,ok,hp3,Pl,fun H4 s4=>⟨_,_,rfl,rfl,fits3 3 (by decide),fun wa hwa=>hR _ _ ⟨s4.trans (same_upd hwa _),wa,rfl,by rw[er];exact⟨p,upd_same,(hp3.same s4).same (same_upd hwa _)⟩⟩⟩⟩) (fun v H4 z=>?_)
 obtain⟨s4,wa,rfl,hw⟩:=z
 have G4:=G3.same s4
 have hp4:=hp3.same s4
 have s1l:([(r,wa)]:List (Rw×Addr)).length < sizeLine:=Nat.lt_of_lt_of_le (by decide:1 < 1000) z1000
 have s0l:([]:List (Rw×Addr)).length < sizeLine:=Nat.lt_of_lt_of_le (by decide:0 < 1000) z1000
 refine⟨_,rfl,_,rfl,_,rfl,fits3 1 (by decide),fun l1 hl1=>?_⟩
 have a1:=same_upd hl1 (.lst [V.ref wa])
 refine⟨_,rfl,gm,x,l1,wa,t,fx,side,[(r,wa)],r,true,rfl,G4.same a1,tb,upd_same,fun e he=>by cases List.mem_singleton.mp he;exact⟨hw.same a1,fm⟩,s1l,hw.same a1,fm,okR,fun H5 s5=>?_⟩
 rw[wr]
 refine⟨false,false,rfl,rfl,_,rfl,iteF ?_⟩
 have s45:=a1.trans s5
 refine⟨_,rfl,_,rfl,_,rfl,fits3 1 (by decide),fun l2 hl2=>?_⟩
 have a2:=same_upd hl2 (.lst [V.ref wa])
 have s46:=s45.trans a2
 refine⟨_,rfl,gm,x,l2,p,t,fx,side,[(r,wa)],(fun _=>true),hs,lead,ys,0,rfl,G4.same s46,tb,upd_same,fun e he=>by cases List.mem_singleton.mp he;exact⟨hw.same s46,fm⟩,s1l,fun e he=>by cases List.mem_singleton.mp he;exact okR,hp4.same s46,fun H6 s6=>?_⟩
 have h1:hldB fx t side (fun _=>true) ([(r,wa)].map (·.1)) (plK hs lead ys) 0=false:=by
  unfold hldB
  have:([(r,wa)].map (·.1)).all (fun r'=>true && rtB fx t side (ndR ([(r,wa)].map (·.1))) r')=false:=List.all_eq_false.mpr ⟨r,List.mem_singleton.mpr rfl,by rw[wr];exact Bool.false_ne_true⟩
  rw[this,Bool.false_and]
 rw[h1]
 refine⟨false,false,rfl,rfl,_,rfl,iteF ?_⟩
 have s47:=s46.trans s6
 have G6:=G4.same s47
 have hp6:=hp4.same s47
 refine⟨_,rfl,_,rfl,fits3 0 (by decide),fun l3 hl3=>?_⟩
 have a3:=same_upd hl3 (.lst [])
 refine⟨_,rfl,gm,x,l3,p,t,fx,side,[],(fun _=>true),hs,lead,ys,0,rfl,G6.same a3,tb,upd_same,(fun e he=>nomatch he),s0l,(fun e he=>nomatch he),hp6.same a3,fun H7 s7=>?_⟩
 have h2:hldB fx t side (fun _=>true) (([]:List (Rw×Addr)).map (·.1)) (plK hs lead ys) 0=true:=rfl
 rw[h2]
 refine⟨true,true,rfl,rfl,_,rfl,iteF ?_⟩
 have s67:=a3.trans s7
 refine⟨_,rfl,_,rfl,fits3 0 (by decide),fun l4 hl4=>?_⟩
 have a4:=same_upd hl4 (.lst [])
 have s68:=s67.trans a4
 refine⟨_,rfl,gm,x,l4,p,t,fx,side,[],(fun _=>true),hs,lead,ys,1,rfl,G6.same s68,tb,upd_same,(fun e he=>nomatch he),s0l,(fun e he=>nomatch he),hp6.same s68,fun H8 s8=>?_⟩
 have h3:hldB fx t side (fun _=>true) (([]:List (Rw×Addr)).map (·.1)) (plK hs lead ys) 1=false:=rfl
 rw[h3]
 refine⟨false,false,rfl,rfl,_,rfl,iteF ?_⟩
 have s69:=s68.trans s8
 have G8:=G6.same s69
 have hp8:=hp6.same s69
 refine⟨_,rfl,_,rfl,gm,x,p,t,fx,hs,ys,lead,m,rfl,G8,tb,hp8,Pl,m0,fun H9 s9=>⟨_,rfl,iteF (nx_of ?_)⟩⟩
 have sAll:Same H H9:=(((((s02.trans s3).trans s4).trans s47).trans s69).trans s9)
 refine set_nm (fun v HA=>Same H9 HA∧∃ p1 hs1 lead1 ys1 m1,v = .ref p1∧IsPl HA p1 hs1 lead1 ys1∧Plc fx hs1 lead1 ys1 m1∧totC hs1≤12) (fun R hR=>⟨_,rfl,_,rfl,a,gm,x,ns,fx,t,1,rfl,sAll.seq hS,G8.same s9,tb,by decide,by rw[fs,fh];omega,fun p1 hs1 lead1 ys1 m1 HA sA hp1 Pl1 e1 e2=>hR _ _ ⟨sA,p1,hs1,lead1,ys1,m1,rfl,hp1,Pl1,by omega⟩⟩) (fun v HA z=>?_)
 obtain⟨sA,p1,hs1,lead1,ys1,m1,rfl,hp1,Pl1,t1⟩:=z
 refine⟨_,rfl,_,rfl,_,rfl,gm,x,p1,t,fx,side,hs1,lead1,ys1,m1,0,rfl,(G8.same s9).same sA,hp1,Pl1,t1,Int.le_refl _,fun le HB sB hle hB=>?_⟩
 refine⟨fits3 0 (by decide),fun l5 hl5=>?_⟩
 have a5:=same_upd hl5 (.lst [])
 refine⟨le,l5,_,rfl,rfl,SqL.of (a5 _ _ hB),SqL.of upd_same,true,rfl,iteT ?_⟩
 have sC:=((s9.trans sA).trans sB).trans a5
 exact⟨_,rfl,_,rfl,_,rfl,gm,x,p,t,fx,side,hs,lead,ys,m,1,rfl,G8.same sC,hp8.same sC,Pl,t12,fun HC _=>q HC⟩
end
end My
namespace My
open PySem L2
theorem all_mk{wd dtd:Option Addr}{dtc:Value}{tw1 tw2 tw3 tw4 tw5:Tok}{wn dtn:Nat}{wsl dts:Array (Option Value)}{cdY:ClassData}{l:PySem.W.OpenLaw}{w:World}{K:PySem.W.Frag}{h:Heap}{mg:Str→Option Value}{fa f1 f2 f3 f4 f5 f6 f7 f8 f9 f10 f11 f12 f13 f14 f15 f16 f17 f18 f19 f20 f21 f22 f23 f24 f25 f26 f27 f28 f29 f30 f31 f32 f33 f34 f35 f36 f37 f38 f39 f40 f41 f42 f43 f44 f45 f46 f47 f48 f49 f50 f51 f_F f_L f_C f_B f_AF f_AL f_AC f_AB f_I f_D f_O f_G f_S f_V f_M f_W f_P CN CF CL CC CB CT CG aM dT CE CM e0 e1 e2 e3 e4 e5 e6 e7:Addr}(X:K.In h)(G:h.Ns mainGlobals mg)(hfa:mg "law" = some (.ref fa))
  {d1 d2 d3 d4 d5 d6 d7 d8 d9 d10 d11 d12 d13 d14 d15 d16 d17 d18 d19 d20 d21 d22 d23 d24 d25 d26 d27 d28 d29 d30 d31 d32 d33 d34 d35 d36 d37 d38 d39 d40 d41 d42 d43 d44 d45 d46 d47 d48 d49 d50 d_F d_L d_C d_B d_AF d_AL d_AC d_AB d_I d_D d_O d_S d_V d_M d_W d_P:FuncData} {od51 an51 od_G an_G:Option Addr} {sl51 sl_G:Array (Option Value)} {oc51 kV51 dc51 pm51 cd51 ct51 oc_G kV_G dc_G pm_G cd_G ct_G:Value} {t1 t2 t3 t4 t5:Tok}
  (a1:PySem.W.nsIn K mainGlobals "duty_of" = some (some (.ref f1)))
  (a2:PySem.W.nsIn K mainGlobals "words_behind_marks" = some (some (.ref f2)))
  (a3:PySem.W.nsIn K mainGlobals "read_size" = some (some (.ref f3)))
  (a4:PySem.W.nsIn K mainGlobals "read_seats" = some (some (.ref f4)))
  (a5:PySem.W.nsIn K mainGlobals "read_order" = some (some (.ref f5)))
  (a6:PySem.W.nsIn K mainGlobals "is_later" = some (some (.ref f6)))
  (a7:PySem.W.nsIn K mainGlobals "cards_in" = some (some (.ref f7)))
  (a8:PySem.W.nsIn K mainGlobals "hand_of" = some (some (.ref f8)))
  (a9:PySem.W.nsIn K mainGlobals "of_suit" = some (some (.ref f9)))
  (a10:PySem.W.nsIn K mainGlobals "of_led_suit" = some (some (.ref f10)))
  (a11:PySem.W.nsIn K mainGlobals "followed_or_cut" = some (some (.ref f11)))
  (a12:PySem.W.nsIn K mainGlobals "goes_over_all" = some (some (.ref f12)))
  (a13:PySem.W.nsIn K mainGlobals "many" = some (some (.ref f13)))
  (a14:PySem.W.nsIn K mainGlobals "is_apart" = some (some (.ref f14)))
  (a15:PySem.W.nsIn K mainGlobals "is_level" = some (some (.ref f15)))
  (a16:PySem.W.nsIn K mainGlobals "is_seat" = some (some (.ref f16)))
  (a17:PySem.W.nsIn K mainGlobals "seat_round" = some (some (.ref f17)))
  (a18:PySem.W.nsIn K mainGlobals "hands_with_trick" = some (some (.ref f18)))
  (a19:PySem.W.nsIn K mainGlobals "is_place" = some (some (.ref f19)))
  (a20:PySem.W.nsIn K mainGlobals "turn_at" = some (some (.ref f20)))
  (a21:PySem.W.nsIn K mainGlobals "moves" = some (some (.ref f21)))
  (a22:PySem.W.nsIn K mainGlobals "left" = some (some (.ref f22)))
  (a23:PySem.W.nsIn K mainGlobals "behind" = some (some (.ref f23)))
  (a24:PySem.W.nsIn K mainGlobals "has_seat" = some (some (.ref f24)))
  (a25:PySem.W.nsIn K mainGlobals "gain" = some (some (.ref f25)))
  (a26:PySem.W.nsIn K mainGlobals "refuse_too_many" = some (some (.ref f26)))
  (a27:PySem.W.nsIn K mainGlobals "paper" = some (some (.ref f27)))
  (a28:PySem.W.nsIn K mainGlobals "is_whole" = some (some (.ref f28)))
  (a29:PySem.W.nsIn K mainGlobals "are_from_zero_on" = some (some (.ref f29)))
  (a30:PySem.W.nsIn K mainGlobals "is_formed_place" = some (some (.ref f30)))
  (a31:PySem.W.nsIn K mainGlobals "is_formed_row" = some (some (.ref f31)))
  (a32:PySem.W.nsIn K mainGlobals "greatest_needs" = some (some (.ref f32)))
  (a33:PySem.W.nsIn K mainGlobals "covers" = some (some (.ref f33)))
  (a34:PySem.W.nsIn K mainGlobals "is_right" = some (some (.ref f34)))
  (a35:PySem.W.nsIn K mainGlobals "row_right" = some (some (.ref f35)))
  (a36:PySem.W.nsIn K mainGlobals "holds" = some (some (.ref f36)))
  (a37:PySem.W.nsIn K mainGlobals "_law_cell" = some (some (.ref f37)))
  (a38:PySem.W.nsIn K mainGlobals "_law_mixed" = some (some (.ref f38)))
  (a39:PySem.W.nsIn K mainGlobals "_law_order" = some (some (.ref f39)))
  (a40:PySem.W.nsIn K mainGlobals "_law_table" = some (some (.ref f40)))
  (a41:PySem.W.nsIn K mainGlobals "_law_text" = some (some (.ref f41)))
  (a42:PySem.W.nsIn K mainGlobals "_law_bit" = some (some (.ref f42)))
  (a43:PySem.W.nsIn K mainGlobals "_law_shuffled" = some (some (.ref f43)))
  (a44:PySem.W.nsIn K mainGlobals "_law_side" = some (some (.ref f44)))
  (a45:PySem.W.nsIn K mainGlobals "_law_others" = some (some (.ref f45)))
  (a46:PySem.W.nsIn K mainGlobals "_law_refused" = some (some (.ref f46)))
  (a47:PySem.W.nsIn K mainGlobals "_law_great_game" = some (some (.ref f47)))
  (a48:PySem.W.nsIn K mainGlobals "_law_great_place" = some (some (.ref f48)))
  (a49:PySem.W.nsIn K mainGlobals "_law_rows" = some (some (.ref f49)))
  (a50:PySem.W.nsIn K mainGlobals "_law_sure" = some (some (.ref f50)))
  (a51:PySem.W.nsIn K mainGlobals "law" = some (some (.ref f51)))
  (hCN:PySem.W.nsIn K mainGlobals "NoTable" = some (some (.ref CN)))
  (hCF:PySem.W.nsIn K mainGlobals "Free" = some (some (.ref CF)))
  (hCL:PySem.W.nsIn K mainGlobals "Follow" = some (some (.ref CL)))
  (hCC:PySem.W.nsIn K mainGlobals "Cut" = some (some (.ref CC)))
  (hCB:PySem.W.nsIn K mainGlobals "Beat" = some (some (.ref CB)))
  (hCT:PySem.W.nsIn K mainGlobals "Table" = some (some (.ref CT)))
  (hCG:PySem.W.nsIn K mainGlobals "Game" = some (some (.ref CG)))
  (w1:PySem.W.nsIn K mainGlobals "MARKS" = some (some (.ref aM)))
  (hCE:PySem.W.nsIn K mainGlobals "TrickError" = some (some (.ref CE)))
  (hCM:PySem.W.nsIn K mainGlobals "TooMany" = some (some (.ref CM)))
  (he0:PySem.W.nsIn K mainGlobals "BadPlay" = some (some (.ref e0)))
  (he1:PySem.W.nsIn K mainGlobals "NoCard" = some (some (.ref e1)))
  (he2:PySem.W.nsIn K mainGlobals "NoPlay" = some (some (.ref e2)))
  (he3:PySem.W.nsIn K mainGlobals "NoRecord" = some (some (.ref e3)))
  (he4:PySem.W.nsIn K mainGlobals "NoView" = some (some (.ref e4)))
  (he5:PySem.W.nsIn K mainGlobals "NotNow" = some (some (.ref e5)))
  (he6:PySem.W.nsIn K mainGlobals "NotYet" = some (some (.ref e6)))
  (he7:PySem.W.nsIn K mainGlobals "TooMuch" = some (some (.ref e7)))
  (l51:K.lookup f51=some ⟨oc51,od51,.func (PySem.W.fnOf "law" "law" (defArgs sLaw) (defBody sLaw) (defScope sLaw) .none kV51 dc51 pm51 an51 cd51 ct51),sl51⟩)
  (c51:PySem.W.codeIn K cd51 "law" = true)
  (k51:PySem.W.keepIn K (.ref f51)=true)
  (a_F:PySem.W.findIn K (.ref CF) "word" = some (some (.ref f_F)))
  (i_F:PySem.W.isFn K (.ref f_F)=true)
  (a_L:PySem.W.findIn K (.ref CL) "word" = some (some (.ref f_L)))
  (i_L:PySem.W.isFn K (.ref f_L)=true)
  (a_C:PySem.W.findIn K (.ref CC) "word" = some (some (.ref f_C)))
  (i_C:PySem.W.isFn K (.ref f_C)=true)
  (a_B:PySem.W.findIn K (.ref CB) "word" = some (some (.ref f_B)))
  (i_B:PySem.W.isFn K (.ref f_B)=true)
  (a_AF:PySem.W.findIn K (.ref CF) "allowed" = some (some (.ref f_AF)))
  (i_AF:PySem.W.isFn K (.ref f_AF)=true)
  (a_AL:PySem.W.findIn K (.ref CL) "allowed" = some (some (.ref f_AL)))
  (i_AL:PySem.W.isFn K (.ref f_AL)=true)
  (a_AC:PySem.W.findIn K (.ref CC) "allowed" = some (some (.ref f_AC)))
  (i_AC:PySem.W.isFn K (.ref f_AC)=true)
  (a_AB:PySem.W.findIn K (.ref CB) "allowed" = some (some (.ref f_AB)))
  (i_AB:PySem.W.isFn K (.ref f_AB)=true)
  (a_I:PySem.W.findIn K (.ref CT) "__init__" = some (some (.ref f_I)))
  (i_I:PySem.W.isFn K (.ref f_I)=true)
  (a_D:PySem.W.findIn K (.ref CT) "duty" = some (some (.ref f_D)))
  (i_D:PySem.W.isFn K (.ref f_D)=true)
  (a_O:PySem.W.findIn K (.ref CT) "order" = some (some (.ref f_O)))
  (i_O:PySem.W.isFn K (.ref f_O)=true)
  (a_G:PySem.W.findIn K (.ref CG) "__init__" = some (some (.ref f_G)))
  (l_G:K.lookup f_G=some ⟨oc_G,od_G,.func (PySem.W.fnOf "__init__" "Game.__init__" (defArgs sGamInit) (defBody sGamInit) (defScope sGamInit) (.ref dT) kV_G dc_G pm_G an_G cd_G ct_G),sl_G⟩)
  (c_G:PySem.W.codeIn K cd_G "Game.__init__" = true)
  (k_G:PySem.W.keepIn K (.ref f_G)=true)
  (i_G:PySem.W.isFn K (.ref f_G)=true)
  (a_S:PySem.W.findIn K (.ref CG) "is_stronger" = some (some (.ref f_S)))
  (i_S:PySem.W.isFn K (.ref f_S)=true)
  (a_V:PySem.W.findIn K (.ref CG) "is_over" = some (some (.ref f_V)))
  (i_V:PySem.W.isFn K (.ref f_V)=true)
  (a_M:PySem.W.findIn K (.ref CG) "may" = some (some (.ref f_M)))
  (i_M:PySem.W.isFn K (.ref f_M)=true)
  (a_W:PySem.W.findIn K (.ref CG) "winner" = some (some (.ref f_W)))
  (i_W:PySem.W.isFn K (.ref f_W)=true)
  (a_P:PySem.W.findIn K (.ref CG) "pack" = some (some (.ref f_P)))
  (i_P:PySem.W.isFn K (.ref f_P)=true)
  (g1:PySem.W.nsIn K mainGlobals "HEIGHTS" = some (some (.int 8 t1)))
  (g2:PySem.W.nsIn K mainGlobals "LETTERS" = some (some (.str "abcd" t2)))
  (g3:PySem.W.nsIn K mainGlobals "FIGURES" = some (some (.str "12345678" t3)))
  (g4:PySem.W.nsIn K mainGlobals "LOWEST_SUIT" = some (some (.int 255 t4)))
  (g5:PySem.W.nsIn K mainGlobals "MOST_CARDS" = some (some (.int 12 t5)))
  (z1:PySem.W.nsIn K mainGlobals "len" = some none)
  (z2:PySem.W.nsIn K mainGlobals "range" = some none)
  (z3:PySem.W.nsIn K mainGlobals "isinstance" = some none)
  (z4:PySem.W.nsIn K mainGlobals "int" = some none)
  (z5:PySem.W.nsIn K mainGlobals "str" = some none)
  (z6:PySem.W.nsIn K mainGlobals "list" = some none)
  (z7:PySem.W.nsIn K mainGlobals "tuple" = some none)
  (z8:PySem.W.nsIn K mainGlobals "sorted" = some none)
  (z9:PySem.W.nsIn K mainGlobals "sum" = some none)
  (z10:PySem.W.nsIn K mainGlobals "all" = some none)
  (z11:PySem.W.nsIn K mainGlobals "any" = some none)
  (z12:PySem.W.nsIn K mainGlobals "enumerate" = some none)
  (z13:PySem.W.nsIn K mainGlobals "max" = some none)
  (z14:PySem.W.nsIn K mainGlobals "min" = some none)
  (z15:PySem.W.nsIn K mainGlobals "bool" = some none)
  (z16:PySem.W.nsIn K mainGlobals "ValueError" = some none)
  (pgCF:PySem.W.plainGet K CF Str.empty=true)
  (hdCF:PySem.W.hasDictIn K CF=true)
  (poCF:PySem.W.plainOver K CF=true)
  (saCF:PySem.W.findIn K (.ref CF) "__setattr__" = some (some (.builtin "object.__setattr__")))
  (mkCF:PySem.W.makesIn K CF=true)
  (kcCF:PySem.W.keepIn K (.ref CF)=true)
  (oiCF:PySem.W.findIn K (.ref CF) "__init__" = some (some (.builtin "object.__init__")))
  (pgCL:PySem.W.plainGet K CL Str.empty=true)
  (hdCL:PySem.W.hasDictIn K CL=true)
  (poCL:PySem.W.plainOver K CL=true)
  (saCL:PySem.W.findIn K (.ref CL) "__setattr__" = some (some (.builtin "object.__setattr__")))
  (mkCL:PySem.W.makesIn K CL=true)
  (kcCL:PySem.W.keepIn K (.ref CL)=true)
  (oiCL:PySem.W.findIn K (.ref CL) "__init__" = some (some (.builtin "object.__init__")))
  (pgCC:PySem.W.plainGet K CC Str.empty=true)
  (hdCC:PySem.W.hasDictIn K CC=true)
  (poCC:PySem.W.plainOver K CC=true)
  (saCC:PySem.W.findIn K (.ref CC) "__setattr__" = some (some (.builtin "object.__setattr__")))
  (mkCC:PySem.W.makesIn K CC=true)
  (kcCC:PySem.W.keepIn K (.ref CC)=true)
  (oiCC:PySem.W.findIn K (.ref CC) "__init__" = some (some (.builtin "object.__init__")))
  (pgCB:PySem.W.plainGet K CB Str.empty=true)
  (hdCB:PySem.W.hasDictIn K CB=true)
  (poCB:PySem.W.plainOver K CB=true)
  (saCB:PySem.W.findIn K (.ref CB) "__setattr__" = some (some (.builtin "object.__setattr__")))
  (mkCB:PySem.W.makesIn K CB=true)
  (kcCB:PySem.W.keepIn K (.ref CB)=true)
  (oiCB:PySem.W.findIn K (.ref CB) "__init__" = some (some (.builtin "object.__init__")))
  (pgCT:PySem.W.plainGet K CT Str.empty=true)
  (hdCT:PySem.W.hasDictIn K CT=true)
  (poCT:PySem.W.plainOver K CT=true)
  (saCT:PySem.W.findIn K (.ref CT) "__setattr__" = some (some (.builtin "object.__setattr__")))
  (mkCT:PySem.W.makesIn K CT=true)
  (kcCT:PySem.W.keepIn K (.ref CT)=true)
  (pgCG:PySem.W.plainGet K CG Str.empty=true)
  (hdCG:PySem.W.hasDictIn K CG=true)
  (poCG:PySem.W.plainOver K CG=true)
  (saCG:PySem.W.findIn K (.ref CG) "__setattr__" = some (some (.builtin "object.__setattr__")))
  (mkCG:PySem.W.makesIn K CG=true)
  (kcCG:PySem.W.keepIn K (.ref CG)=true)
  (nTS:PySem.W.findIn K (.ref CT) "suits" = some none)
  (nTH:PySem.W.findIn K (.ref CT) "heights" = some none)
  (nTN:PySem.W.findIn K (.ref CT) "seats" = some none)
  (nTD:PySem.W.findIn K (.ref CT) "duty_word" = some none)
  (nTP:PySem.W.findIn K (.ref CT) "plain_order" = some none)
  (nTT:PySem.W.findIn K (.ref CT) "trump_order" = some none)
  (nTW:PySem.W.findIn K (.ref CT) "written" = some none)
  (nGT:PySem.W.findIn K (.ref CG) "table" = some none)
  (nGU:PySem.W.findIn K (.ref CG) "trump" = some none)
  (w2:K.lookup aM=some ⟨.type "tuple",wd,.seq #[.str "pack" tw1,.str "seats" tw2,.str "duty" tw3,.str "plain" tw4,.str "trump" tw5] wn,wsl⟩)
  (w3:K.lookup dT=some ⟨dtc,dtd,.seq #[.none] dtn,dts⟩)
  (vy1:PySem.W.clsIn K CM=some cdY)
  (vy2:PySem.W.findIn K (.ref CM) "__getattribute__" = some (some (.builtin "BaseException.__getattribute__")))
  (vy3:PySem.W.findIn K (.ref CM) "__getattr__" = some none)
  (vy4:PySem.W.findIn K (.ref CM) "__class__" = some (some (.builtin "object.__class__")))
  (vy5:PySem.W.specialIn K (.builtin "object.__class__") "__get__" = some (some (.builtin "getset_descriptor.__get__")))
  (vy6:PySem.W.takesIn K (.builtin "object.__class__")=some true)
  (vy7:PySem.W.mroIn K CM (.type "object")=some true)
  (vy8:PySem.W.mroIn K CM (.type "BaseException")=some true)
  (F1:Fun K "duty_of" "duty_of" sDutyOf f1 d1)
  (F2:Fun K "words_behind_marks" "words_behind_marks" sMarks f2 d2)
  (F3:Fun K "read_size" "read_size" sReadSize f3 d3)
  (F4:Fun K "read_seats" "read_seats" sReadSeats f4 d4)
  (F5:Fun K "read_order" "read_order" sReadOrder f5 d5)
  (F6:Fun K "is_later" "is_later" sLater f6 d6)
  (F7:Fun K "cards_in" "cards_in" sCardsIn f7 d7)
  (F8:Fun K "hand_of" "hand_of" sHandOf f8 d8)
  (F9:Fun K "of_suit" "of_suit" sOfSuit f9 d9)
  (F10:Fun K "of_led_suit" "of_led_suit" sLedSuit f10 d10)
  (F11:Fun K "followed_or_cut" "followed_or_cut" sFoc f11 d11)
  (F12:Fun K "goes_over_all" "goes_over_all" sGoesAll f12 d12)
  (F13:Fun K "many" "many" sMany f13 d13)
  (F14:Fun K "is_apart" "is_apart" sApart f14 d14)
  (F15:Fun K "is_level" "is_level" sLevel f15 d15)
  (F16:Fun K "is_seat" "is_seat" sIsSeat f16 d16)
  (F17:Fun K "seat_round" "seat_round" sRound f17 d17)
  (F18:Fun K "hands_with_trick" "hands_with_trick" sWith f18 d18)
  (F19:Fun K "is_place" "is_place" sIsPlace f19 d19)
  (F20:Fun K "turn_at" "turn_at" sTurnAt f20 d20)
  (F21:Fun K "moves" "moves" sMoves f21 d21)
  (F22:Fun K "left" "left" sLeft f22 d22)
  (F23:Fun K "behind" "behind" sBehind f23 d23)
  (F24:Fun K "has_seat" "has_seat" sHasSeat f24 d24)
  (F25:Fun K "gain" "gain" sGain f25 d25)
  (F26:Fun K "refuse_too_many" "refuse_too_many" sRefuse f26 d26)
  (F27:Fun K "paper" "paper" sPaper f27 d27)
  (F28:Fun K "is_whole" "is_whole" sIsWhole f28 d28)
  (F29:Fun K "are_from_zero_on" "are_from_zero_on" sFromZero f29 d29)
  (F30:Fun K "is_formed_place" "is_formed_place" sFmPlace f30 d30)
  (F31:Fun K "is_formed_row" "is_formed_row" sFmRow f31 d31)
  (F32:Fun K "greatest_needs" "greatest_needs" sNeeds f32 d32)
  (F33:Fun K "covers" "covers" sCovers f33 d33)
  (F34:Fun K "is_right" "is_right" sIsRight f34 d34)
  (F35:Fun K "row_right" "row_right" sRowRight f35 d35)
  (F36:Fun K "holds" "holds" sHolds f36 d36)
  (F37:Fun K "_law_cell" "_law_cell" sCell f37 d37)
  (F38:Fun K "_law_mixed" "_law_mixed" sMixed f38 d38)
  (F39:Fun K "_law_order" "_law_order" sOrder f39 d39)
  (F40:Fun K "_law_table" "_law_table" sTable f40 d40)
  (F41:Fun K "_law_text" "_law_text" sText f41 d41)
  (F42:Fun K "_law_bit" "_law_bit" sBit f42 d42)
  (F43:Fun K "_law_shuffled" "_law_shuffled" sShuf f43 d43)
  (F44:Fun K "_law_side" "_law_side" sSide f44 d44)
  (F45:Fun K "_law_others" "_law_others" sOthers f45 d45)
  (F46:Fun K "_law_refused" "_law_refused" sRefused f46 d46)
  (F47:Fun K "_law_great_game" "_law_great_game" sGreatG f47 d47)
  (F48:Fun K "_law_great_place" "_law_great_place" sGreatP f48 d48)
  (F49:Fun K "_law_rows" "_law_rows" sLRows f49 d49)
  (F50:Fun K "_law_sure" "_law_sure" sSure f50 d50)
  (F_F:Fun K "word" "Free.word" sFreeWord f_F d_F)
  (F_L:Fun K "word" "Follow.word" sFollowWord f_L d_L)
  (F_C:Fun K "word" "Cut.word" sCutWord f_C d_C)
  (F_B:Fun K "word" "Beat.word" sBeatWord f_B d_B)
  (F_AF:Fun K "allowed" "Free.allowed" sFreeAl f_AF d_AF)
  (F_AL:Fun K "allowed" "Follow.allowed" sFollowAl f_AL d_AL)
  (F_AC:Fun K "allowed" "Cut.allowed" sCutAl f_AC d_AC)
  (F_AB:Fun K "allowed" "Beat.allowed" sBeatAl f_AB d_AB)
  (F_I:Fun K "__init__" "Table.__init__" sTabInit f_I d_I)
  (F_D:Fun K "duty" "Table.duty" sTabDuty f_D d_D)
  (F_O:Fun K "order" "Table.order" sTabOrder f_O d_O)
  (F_S:Fun K "is_stronger" "Game.is_stronger" sStronger f_S d_S)
  (F_V:Fun K "is_over" "Game.is_over" sOver f_V d_V)
  (F_M:Fun K "may" "Game.may" sMay f_M d_M)
  (F_W:Fun K "winner" "Game.winner" sWinner f_W d_W)
  (F_P:Fun K "pack" "Game.pack" sGamPack f_P d_P)
  (x1:PySem.W.excIn K CN veTail "ValueError.__new__" = true)
  (vx1:PySem.W.excIn K CM veTail "ValueError.__new__" = true)
  (vx2:PySem.W.exmOne K (.ref CM) (.ref CE)=some true)
  (j1:PySem.W.kitOne K (.ref CM) (.ref CM)=some true)
  (j2:PySem.W.kitOne K (.ref CM) (.type "ValueError")=some true)
  (ke0:PySem.W.kitOne K (.ref CM) (.ref e0)=some false)
  (ke1:PySem.W.kitOne K (.ref CM) (.ref e1)=some false)
  (ke2:PySem.W.kitOne K (.ref CM) (.ref e2)=some false)
  (ke3:PySem.W.kitOne K (.ref CM) (.ref e3)=some false)
  (ke4:PySem.W.kitOne K (.ref CM) (.ref e4)=some false)
  (ke5:PySem.W.kitOne K (.ref CM) (.ref e5)=some false)
  (ke6:PySem.W.kitOne K (.ref CM) (.ref e6)=some false)
  (ke7:PySem.W.kitOne K (.ref CM) (.ref e7)=some false)
  : ∃ fd:FuncData,(∀(s:Shared) (v:Value),BindsTo s fd ⟨[v],[]⟩ [("_law_script",v)])∧∀ base:Heap,K.In base→base.Ns mainGlobals mg→FnOk l.prog w K mg base CX0 22 fa fd ["_law_script"] (spLaw K):=by
 have e:=hfa.symm.trans (PySem.W.mg_of X G a51)
 cases e
 have k1:=F1.kp
 have b1:=F1.binds (ps:=["word"]) fun _ _ _ _ _ _ us hl=>match us,hl with | [_],_=>rfl
 have m1:=PySem.W.mg_of X G a1
 have k2:=F2.kp
 have b2:=F2.binds (ps:=["text"]) fun _ _ _ _ _ _ us hl=>match us,hl with | [_],_=>rfl
 have m2:=PySem.W.mg_of X G a2
 have k3:=F3.kp
 have b3:=F3.binds (ps:=["word"]) fun _ _ _ _ _ _ us hl=>match us,hl with | [_],_=>rfl
 have m3:=PySem.W.mg_of X G a3
 have k4:=F4.kp
 have b4:=F4.binds (ps:=["word"]) fun _ _ _ _ _ _ us hl=>match us,hl with | [_],_=>rfl
 have m4:=PySem.W.mg_of X G a4
 have k5:=F5.kp
 have b5:=F5.binds (ps:=["word","heights"]) fun _ _ _ _ _ _ us hl=>match us,hl with | [_,_],_=>rfl
 have m5:=PySem.W.mg_of X G a5
 have k6:=F6.kp
 have b6:=F6.binds (ps:=["order","height","other"]) fun _ _ _ _ _ _ us hl=>match us,hl with | [_,_,_],_=>rfl
 have m6:=PySem.W.mg_of X G a6
 have k7:=F7.kp
 have b7:=F7.binds (ps:=["hand"]) fun _ _ _ _ _ _ us hl=>match us,hl with | [_],_=>rfl
 have m7:=PySem.W.mg_of X G a7
 have k8:=F8.kp
 have b8:=F8.binds (ps:=["cards"]) fun _ _ _ _ _ _ us hl=>match us,hl with | [_],_=>rfl
 have m8:=PySem.W.mg_of X G a8
 have k9:=F9.kp
 have b9:=F9.binds (ps:=["hand","suit"]) fun _ _ _ _ _ _ us hl=>match us,hl with | [_,_],_=>rfl
 have m9:=PySem.W.mg_of X G a9
 have k10:=F10.kp
 have b10:=F10.binds (ps:=["hand","trick"]) fun _ _ _ _ _ _ us hl=>match us,hl with | [_,_],_=>rfl
 have m10:=PySem.W.mg_of X G a10
 have k11:=F11.kp
 have b11:=F11.binds (ps:=["game","hand","trick"]) fun _ _ _ _ _ _ us hl=>match us,hl with | [_,_,_],_=>rfl
 have m11:=PySem.W.mg_of X G a11
 have k12:=F12.kp
 have b12:=F12.binds (ps:=["game","card","trick"]) fun _ _ _ _ _ _ us hl=>match us,hl with | [_,_,_],_=>rfl
 have m12:=PySem.W.mg_of X G a12
 have k13:=F13.kp
 have b13:=F13.binds (ps:=["hand"]) fun _ _ _ _ _ _ us hl=>match us,hl with | [_],_=>rfl
 have m13:=PySem.W.mg_of X G a13
 have k14:=F14.kp
 have b14:=F14.binds (ps:=["hands"]) fun _ _ _ _ _ _ us hl=>match us,hl with | [_],_=>rfl
 have m14:=PySem.W.mg_of X G a14
 have k15:=F15.kp
 have b15:=F15.binds (ps:=["hands"]) fun _ _ _ _ _ _ us hl=>match us,hl with | [_],_=>rfl
 have m15:=PySem.W.mg_of X G a15
 have k16:=F16.kp
 have b16:=F16.binds (ps:=["game","seat"]) fun _ _ _ _ _ _ us hl=>match us,hl with | [_,_],_=>rfl
 have m16:=PySem.W.mg_of X G a16
 have k17:=F17.kp
 have b17:=F17.binds (ps:=["game","lead","steps"]) fun _ _ _ _ _ _ us hl=>match us,hl with | [_,_,_],_=>rfl
 have m17:=PySem.W.mg_of X G a17
 have k18:=F18.kp
 have b18:=F18.binds (ps:=["game","place"]) fun _ _ _ _ _ _ us hl=>match us,hl with | [_,_],_=>rfl
 have m18:=PySem.W.mg_of X G a18
 have k19:=F19.kp
 have b19:=F19.binds (ps:=["game","place"]) fun _ _ _ _ _ _ us hl=>match us,hl with | [_,_],_=>rfl
 have m19:=PySem.W.mg_of X G a19
 have k20:=F20.kp
 have b20:=F20.binds (ps:=["game","place"]) fun _ _ _ _ _ _ us hl=>match us,hl with | [_,_],_=>rfl
 have m20:=PySem.W.mg_of X G a20
 have k21:=F21.kp
 have b21:=F21.binds (ps:=["game","place"]) fun _ _ _ _ _ _ us hl=>match us,hl with | [_,_],_=>rfl
 have m21:=PySem.W.mg_of X G a21
 have k22:=F22.kp
 have b22:=F22.binds (ps:=["place"]) fun _ _ _ _ _ _ us hl=>match us,hl with | [_],_=>rfl
 have m22:=PySem.W.mg_of X G a22
 have k23:=F23.kp
 have b23:=F23.binds (ps:=["game","place","card"]) fun _ _ _ _ _ _ us hl=>match us,hl with | [_,_,_],_=>rfl
 have m23:=PySem.W.mg_of X G a23
 have k24:=F24.kp
 have b24:=F24.binds (ps:=["side","seat"]) fun _ _ _ _ _ _ us hl=>match us,hl with | [_,_],_=>rfl
 have m24:=PySem.W.mg_of X G a24
 have k25:=F25.kp
 have b25:=F25.binds (ps:=["side","taker"]) fun _ _ _ _ _ _ us hl=>match us,hl with | [_,_],_=>rfl
 have m25:=PySem.W.mg_of X G a25
 have k26:=F26.kp
 have b26:=F26.binds (ps:=["place"]) fun _ _ _ _ _ _ us hl=>match us,hl with | [_],_=>rfl
 have m26:=PySem.W.mg_of X G a26
 have k27:=F27.kp
 have b27:=F27.binds (ps:=pPaper) fun _ _ _ _ _ _ us hl=>match us,hl with | [_,_,_,_],_=>rfl
 have m27:=PySem.W.mg_of X G a27
 have k28:=F28.kp
 have b28:=F28.binds (ps:=["thing"]) fun _ _ _ _ _ _ us hl=>match us,hl with | [_],_=>rfl
 have m28:=PySem.W.mg_of X G a28
 have k29:=F29.kp
 have b29:=F29.binds (ps:=["things"]) fun _ _ _ _ _ _ us hl=>match us,hl with | [_],_=>rfl
 have m29:=PySem.W.mg_of X G a29
 have k30:=F30.kp
 have b30:=F30.binds (ps:=["thing"]) fun _ _ _ _ _ _ us hl=>match us,hl with | [_],_=>rfl
 have m30:=PySem.W.mg_of X G a30
 have k31:=F31.kp
 have b31:=F31.binds (ps:=["thing"]) fun _ _ _ _ _ _ us hl=>match us,hl with | [_],_=>rfl
 have m31:=PySem.W.mg_of X G a31
 have k32:=F32.kp
 have b32:=F32.binds (ps:=["paper"]) fun _ _ _ _ _ _ us hl=>match us,hl with | [_],_=>rfl
 have m32:=PySem.W.mg_of X G a32
 have k33:=F33.kp
 have b33:=F33.binds (ps:=["game","side","needs","place","card","need"]) fun _ _ _ _ _ _ us hl=>match us,hl with | [_,_,_,_,_,_],_=>rfl
 have m33:=PySem.W.mg_of X G a33
 have k34:=F34.kp
 have b34:=F34.binds (ps:=["game","side","needs","row"]) fun _ _ _ _ _ _ us hl=>match us,hl with | [_,_,_,_],_=>rfl
 have m34:=PySem.W.mg_of X G a34
 have k35:=F35.kp
 have b35:=F35.binds (ps:=["game","side","paper","row"]) fun _ _ _ _ _ _ us hl=>match us,hl with | [_,_,_,_],_=>rfl
 have m35:=PySem.W.mg_of X G a35
 have k36:=F36.kp
 have b36:=F36.binds (ps:=["game","side","paper","place","need"]) fun _ _ _ _ _ _ us hl=>match us,hl with | [_,_,_,_,_],_=>rfl
 have m36:=PySem.W.mg_of X G a36
 have k37:=F37.kp
 have b37:=F37.binds (ps:=pCell) fun _ _ _ _ _ _ us hl=>match us,hl with | [_,_],_=>rfl
 have m37:=PySem.W.mg_of X G a37
 have k38:=F38.kp
 have b38:=F38.binds (ps:=["_law_cell_here","_law_k"]) fun _ _ _ _ _ _ us hl=>match us,hl with | [_,_],_=>rfl
 have m38:=PySem.W.mg_of X G a38
 have k39:=F39.kp
 have b39:=F39.binds (ps:=["_law_cell_here","_law_heights"]) fun _ _ _ _ _ _ us hl=>match us,hl with | [_,_],_=>rfl
 have m39:=PySem.W.mg_of X G a39
 have k40:=F40.kp
 have b40:=F40.binds (ps:=["_law_script"]) fun _ _ _ _ _ _ us hl=>match us,hl with | [_],_=>rfl
 have m40:=PySem.W.mg_of X G a40
 have k41:=F41.kp
 have b41:=F41.binds (ps:=["_law_facts"]) fun _ _ _ _ _ _ us hl=>match us,hl with | [_],_=>rfl
 have m41:=PySem.W.mg_of X G a41
 have k42:=F42.kp
 have b42:=F42.binds (ps:=["_law_card"]) fun _ _ _ _ _ _ us hl=>match us,hl with | [_],_=>rfl
 have m42:=PySem.W.mg_of X G a42
 have k43:=F43.kp
 have b43:=F43.binds (ps:=["_law_script","_law_game_here"]) fun _ _ _ _ _ _ us hl=>match us,hl with | [_,_],_=>rfl
 have m43:=PySem.W.mg_of X G a43
 have k44:=F44.kp
 have b44:=F44.binds (ps:=["_law_script","_law_seats"]) fun _ _ _ _ _ _ us hl=>match us,hl with | [_,_],_=>rfl
 have m44:=PySem.W.mg_of X G a44
 have k45:=F45.kp
 have b45:=F45.binds (ps:=["_law_error"]) fun _ _ _ _ _ _ us hl=>match us,hl with | [_],_=>rfl
 have m45:=PySem.W.mg_of X G a45
 have k46:=F46.kp
 have b46:=F46.binds (ps:=pRef) fun _ _ _ _ _ _ us hl=>match us,hl with | [_,_,_,_],_=>rfl
 have m46:=PySem.W.mg_of X G a46
 have k47:=F47.kp
 have b47:=F47.binds (ps:=["_law_script"]) fun _ _ _ _ _ _ us hl=>match us,hl with | [_],_=>rfl
 have m47:=PySem.W.mg_of X G a47
 have k48:=F48.kp
 have b48:=F48.binds (ps:=pGreatP) fun _ _ _ _ _ _ us hl=>match us,hl with | [_,_,_],_=>rfl
 have m48:=PySem.W.mg_of X G a48
 have k49:=F49.kp
 have b49:=F49.binds (ps:=["_law_game_here","_law_place_here"]) fun _ _ _ _ _ _ us hl=>match us,hl with | [_,_],_=>rfl
 have m49:=PySem.W.mg_of X G a49
 have k50:=F50.kp
 have b50:=F50.binds (ps:=["_law_game_here","_law_place_here"]) fun _ _ _ _ _ _ us hl=>match us,hl with | [_,_],_=>rfl
 have m50:=PySem.W.mg_of X G a50
 have F51:=fun_mk (st:=sLaw) l51 c51 k51
 have m51:=PySem.W.mg_of X G a51
 have k_F:=F_F.kp
 have b_F:=F_F.binds (ps:=["self"]) fun _ _ _ _ _ _ us hl=>match us,hl with | [_],_=>rfl
 have m_F:Meth K CF "word" f_F:=⟨a_F,i_F,k_F⟩
 have k_L:=F_L.kp
 have b_L:=F_L.binds (ps:=["self"]) fun _ _ _ _ _ _ us hl=>match us,hl with | [_],_=>rfl
 have m_L:Meth K CL "word" f_L:=⟨a_L,i_L,k_L⟩
 have k_C:=F_C.kp
 have b_C:=F_C.binds (ps:=["self"]) fun _ _ _ _ _ _ us hl=>match us,hl with | [_],_=>rfl
 have m_C:Meth K CC "word" f_C:=⟨a_C,i_C,k_C⟩
 have k_B:=F_B.kp
 have b_B:=F_B.binds (ps:=["self"]) fun _ _ _ _ _ _ us hl=>match us,hl with | [_],_=>rfl
 have m_B:Meth K CB "word" f_B:=⟨a_B,i_B,k_B⟩
 have k_AF:=F_AF.kp
 have b_AF:=F_AF.binds (ps:=pAl) fun _ _ _ _ _ _ us hl=>match us,hl with | [_,_,_,_],_=>rfl
 have m_AF:Meth K CF "allowed" f_AF:=⟨a_AF,i_AF,k_AF⟩
 have k_AL:=F_AL.kp
 have b_AL:=F_AL.binds (ps:=pAl) fun _ _ _ _ _ _ us hl=>match us,hl with | [_,_,_,_],_=>rfl
 have m_AL:Meth K CL "allowed" f_AL:=⟨a_AL,i_AL,k_AL⟩
 have k_AC:=F_AC.kp
 have b_AC:=F_AC.binds (ps:=pAl) fun _ _ _ _ _ _ us hl=>match us,hl with | [_,_,_,_],_=>rfl
 have m_AC:Meth K CC "allowed" f_AC:=⟨a_AC,i_AC,k_AC⟩
 have k_AB:=F_AB.kp
 have b_AB:=F_AB.binds (ps:=pAl) fun _ _ _ _ _ _ us hl=>match us,hl with | [_,_,_,_],_=>rfl
 have m_AB:Meth K CB "allowed" f_AB:=⟨a_AB,i_AB,k_AB⟩
 have k_I:=F_I.kp
 have b_I:=F_I.binds (ps:=["self","text"]) fun _ _ _ _ _ _ us hl=>match us,hl with | [_,_],_=>rfl
 have m_I:Meth K CT "__init__" f_I:=⟨a_I,i_I,k_I⟩
 have k_D:=F_D.kp
 have b_D:=F_D.binds (ps:=["self"]) fun _ _ _ _ _ _ us hl=>match us,hl with | [_],_=>rfl
 have m_D:Meth K CT "duty" f_D:=⟨a_D,i_D,k_D⟩
 have k_O:=F_O.kp
 have b_O:=F_O.binds (ps:=["self","is_trump"]) fun _ _ _ _ _ _ us hl=>match us,hl with | [_,_],_=>rfl
 have m_O:Meth K CT "order" f_O:=⟨a_O,i_O,k_O⟩
 have F_G:=funD_mk (st:=sGamInit) l_G c_G k_G
 have m_G:Meth K CG "__init__" f_G:=⟨a_G,i_G,k_G⟩
 have k_S:=F_S.kp
 have b_S:=F_S.binds (ps:=["self","card","other"]) fun _ _ _ _ _ _ us hl=>match us,hl with | [_,_,_],_=>rfl
 have m_S:Meth K CG "is_stronger" f_S:=⟨a_S,i_S,k_S⟩
 have k_V:=F_V.kp
 have b_V:=F_V.binds (ps:=pOver) fun _ _ _ _ _ _ us hl=>match us,hl with | [_,_,_,_],_=>rfl
 have m_V:Meth K CG "is_over" f_V:=⟨a_V,i_V,k_V⟩
 have k_M:=F_M.kp
 have b_M:=F_M.binds (ps:=["self","hand","trick"]) fun _ _ _ _ _ _ us hl=>match us,hl with | [_,_,_],_=>rfl
 have m_M:Meth K CG "may" f_M:=⟨a_M,i_M,k_M⟩
 have k_W:=F_W.kp
 have b_W:=F_W.binds (ps:=["self","trick"]) fun _ _ _ _ _ _ us hl=>match us,hl with | [_,_],_=>rfl
 have m_W:Meth K CG "winner" f_W:=⟨a_W,i_W,k_W⟩
 have k_P:=F_P.kp
 have b_P:=F_P.binds (ps:=["self"]) fun _ _ _ _ _ _ us hl=>match us,hl with | [_],_=>rfl
 have m_P:Meth K CG "pack" f_P:=⟨a_P,i_P,k_P⟩
 have mg1:=PySem.W.mg_of X G g1
 have mg2:=PySem.W.mg_of X G g2
 have mg3:=PySem.W.mg_of X G g3
 have mg4:=PySem.W.mg_of X G g4
 have mg5:=PySem.W.mg_of X G g5
 have mn_len:=PySem.W.mg_none_of X G z1
 have mn_range:=PySem.W.mg_none_of X G z2
 have mn_isinstance:=PySem.W.mg_none_of X G z3
 have mn_int:=PySem.W.mg_none_of X G z4
 have mn_str:=PySem.W.mg_none_of X G z5
 have mn_list:=PySem.W.mg_none_of X G z6
 have mn_tuple:=PySem.W.mg_none_of X G z7
 have mn_sorted:=PySem.W.mg_none_of X G z8
 have mn_sum:=PySem.W.mg_none_of X G z9
 have mn_all:=PySem.W.mg_none_of X G z10
 have mn_any:=PySem.W.mg_none_of X G z11
 have mn_enumerate:=PySem.W.mg_none_of X G z12
 have mn_max:=PySem.W.mg_none_of X G z13
 have mn_min:=PySem.W.mg_none_of X G z14
 have mn_bool:=PySem.W.mg_none_of X G z15
 have mn_ValueError:=PySem.W.mg_none_of X G z16
 refine⟨PySem.W.fnOf "law" "law" (defArgs sLaw) (defBody sLaw) (defScope sLaw) .none kV51 dc51 pm51 an51 cd51 ct51,fun s v=>.of_eq rfl,fun base _ _=>?_⟩
 let cs:Fin 4→Addr:=p4 CF CL CC CB
 let fw:Fin 4→Addr:=p4 f_F f_L f_C f_B
 let fl:Fin 4→Addr:=p4 f_AF f_AL f_AC f_AB
 have mN:=PySem.W.mg_of X G hCN
 have D:DutyC K mg cs CN:=⟨PySem.W.mg_of X G hCF,PySem.W.mg_of X G hCL,PySem.W.mg_of X G hCC,PySem.W.mg_of X G hCB,fun i=>match i with | 0=>⟨mkCF,oiCF,kcCF⟩ | 1=>⟨mkCL,oiCL,kcCL⟩ | 2=>⟨mkCC,oiCC,kcCC⟩ | 3=>⟨mkCB,oiCB,kcCB⟩,mN,x1⟩
 have W:∀ k,∃ fdw,WordF l.prog w K mg base (k+1) cs fw fdw:=fun k=>⟨p4 _ _ _ _,fun i=>match i with | 0=>⟨pgCF,hdCF,poCF,saCF⟩ | 1=>⟨pgCL,hdCL,poCL,saCL⟩ | 2=>⟨pgCC,hdCC,poCC,saCC⟩ | 3=>⟨pgCB,hdCB,poCB,saCB⟩,fun i=>match i with | 0=>m_F | 1=>m_L | 2=>m_C | 3=>m_B,fun i=>match i with | 0=>ok_freeWord F_F | 1=>ok_followWord F_L | 2=>ok_cutWord F_C | 3=>ok_beatWord F_B,fun i=>match i with | 0=>b_F | 1=>b_L | 2=>b_C | 3=>b_B⟩
 obtain⟨_,W14⟩:=W 13
 obtain⟨_,W15⟩:=W 14
 obtain⟨_,W16⟩:=W 15
 have C:TabC K mg CT:=⟨⟨pgCT,hdCT,poCT,saCT⟩,PySem.W.mg_of X G hCT,nTS,nTH,nTN,nTD,nTP,nTT,nTW⟩
 have CGm:GamC K mg CG:=⟨⟨pgCG,hdCG,poCG,saCG⟩,PySem.W.mg_of X G hCG,nGT,nGU⟩
 have hM:∀ H,SqT K H aM (vS marks):=fun H=>.inr ⟨_,_,_,w2,rfl,rfl,fits3 5 (by decide),.cons ⟨_,rfl⟩ (.cons ⟨_,rfl⟩ (.cons ⟨_,rfl⟩ (.cons ⟨_,rfl⟩ (.cons ⟨_,rfl⟩ .nil))))⟩
 have FI:=ok_tab (k:=16) F_I C ⟨ok_marks (k:=15) F2 (PySem.W.mg_of X G w1) hM mN x1 mn_isinstance mn_str mn_len mn_tuple,b2,k2,m2⟩ ⟨ok_size F3 mg3 mg2 mN x1 mn_len,b3,k3,m3⟩ ⟨ok_seats F4 mN x1 mn_int,b4,k4,m4⟩ ⟨ok_ord F5 mg3 mN x1 mn_sorted mn_list mn_tuple,b5,k5,m5⟩ ⟨ok_dutyOf (k:=15) F1 D W15,b1,k1,m1⟩ W16
 have BG0:Binds K _ ["self","table","trump"] []:=fun s us hX hl=>match us,hl with | [_,_,_],_=>by first | exact .of_eq rfl | exact PySem.W.binds_K (fd:=PySem.W.fnOf "__init__" "Game.__init__" (defArgs sGamInit) (defBody sGamInit) (defScope sGamInit) (.ref dT) kV_G dc_G pm_G an_G cd_G ct_G) hX rfl w3 rfl rfl rfl
 have BG1:Binds K _ ["self","table","trump"] [.none]:=fun s us hX hl=>match us,(show us.length=2 from Nat.succ.inj ((List.length_append (as:=us) (bs:=[Value.none])).symm.trans hl)) with | [_,_],_=>by exact PySem.W.binds_K (fd:=PySem.W.fnOf "__init__" "Game.__init__" (defArgs sGamInit) (defBody sGamInit) (defScope sGamInit) (.ref dT) kV_G dc_G pm_G an_G cd_G ct_G) hX rfl w3 rfl rfl rfl
 have LO:∀ k,Lib l.prog w K mg base (k+1) "of_suit" ["hand","suit"] (spOfSuit K) f9 _:=fun k=>⟨ok_ofSuit F9 mg4 mg1,b9,k9,m9⟩
 have LL:∀ k,Lib l.prog w K mg base (k+2) "of_led_suit" ["hand","trick"] (spLed K) f10 _:=fun k=>⟨ok_led (k:=k+1) F10 (LO k) mg1,b10,k10,m10⟩
 have LF:∀ k,Lib l.prog w K mg base (k+3) "followed_or_cut" ["game","hand","trick"] (spFoc K CG) f11 _:=fun k=>⟨ok_foc (k:=k+2) F11 CGm (LL k) (LO (k+1)),b11,k11,m11⟩
 have FS:∀ k,FnOk l.prog w K mg base CX0 (k+2) f_S _ ["self","card","other"] (spStronger CT CG):=fun k=>ok_stronger (k:=k+1) F_S C CGm ⟨ok_later (k:=k) F6,b6,k6,m6⟩ m_O (ok_torder (k:=k) F_O C mn_list) b_O mg1
 have FV:∀ k,FnOk l.prog w K mg base CX0 (k+3) f_V _ pOver (spOver CT CG):=fun k=>ok_over (k:=k+2) F_V CGm m_S (FS k) b_S mg1
 have LGA:∀ k,Lib l.prog w K mg base (k+4) "goes_over_all" ["game","card","trick"] (spGoes K CT CG) f12 _:=fun k=>⟨ok_goes (k:=k+3) F12 CGm m_V (FV k) b_V mg1 mn_all,b12,k12,m12⟩
 have LH:∀ k,Lib l.prog w K mg base (k+1) "hand_of" ["cards"] (spHandOf K) f8 _:=fun k=>⟨ok_handOf F8,b8,k8,m8⟩
 have LI:∀ k,Lib l.prog w K mg base (k+1) "cards_in" ["hand"] (spCardsIn K) f7 _:=fun k=>⟨ok_cardsIn F7,b7,k7,m7⟩
 have MA:∃ d4,∀ k,AlF l.prog w K mg base CT CG (k+5) cs fl d4:=⟨p4 _ _ _ _,fun k=>⟨fun i=>match i with | 0=>⟨pgCF,hdCF,poCF,saCF⟩ | 1=>⟨pgCL,hdCL,poCL,saCL⟩ | 2=>⟨pgCC,hdCC,poCC,saCC⟩ | 3=>⟨pgCB,hdCB,poCB,saCB⟩,fun i=>match i with | 0=>m_AF | 1=>m_AL | 2=>m_AC | 3=>m_AB,fun i=>match i with | 0=>ok_freeAl F_AF | 1=>ok_followAl (k:=k+4) F_AL (LL (k+2)) | 2=>ok_cutAl (k:=k+4) F_AC (LF (k+1)) | 3=>ok_beatAl (k:=k+4) F_AB (LF (k+1)) (LH (k+3)) (LI (k+3)) (LGA k),fun i=>match i with | 0=>b_AF | 1=>b_AL | 2=>b_AC | 3=>b_AB⟩⟩
 obtain⟨_,MA⟩:=MA
 have LRd:∀ k,Lib l.prog w K mg base (k+1) "seat_round" ["game","lead","steps"] (spRound CT CG) f17 _:=fun k=>⟨ok_round F17 C CGm,b17,k17,m17⟩
 have LMn:∀ k,Lib l.prog w K mg base (k+1) "many" ["hand"] (spMany K) f13 _:=fun k=>⟨ok_many F13,b13,k13,m13⟩
 have LLf:∀ k,Lib l.prog w K mg base (k+2) "left" ["place"] (spLeft K) f22 _:=fun k=>⟨ok_left (k:=k+1) F22 (LMn k) mn_max,b22,k22,m22⟩
 have LTa:∀ k,Lib l.prog w K mg base (k+3) "turn_at" ["game","place"] (spTurnAt CT CG) f20 _:=fun k=>⟨ok_turnAt (k:=k+2) F20 (LLf k) (LRd (k+1)) mn_len,b20,k20,m20⟩
 have FM:FnOk l.prog w K mg base CX0 16 f_M _ ["self","hand","trick"] (spMay K CT CG):=ok_may (k:=15) F_M C CGm ⟨ok_dutyOf (k:=14) F1 D W14,b1,k1,m1⟩ m_D (ok_tduty (k:=14) F_D C) b_D (MA 10) mn_len
 have LMo:Lib l.prog w K mg base 17 "moves" ["game","place"] (spMoves CT CG) f21 _:=⟨ok_moves (k:=16) F21 CGm (LTa 13) (LI 15) m_M FM b_M,b21,k21,m21⟩
 have FW:∀ k,FnOk l.prog w K mg base CX0 (k+4) f_W _ ["self","trick"] (spWinner K CT CG):=fun k=>ok_winner (k:=k+3) F_W CGm m_V (FV k) b_V mg1 mn_enumerate
 have LBe:∀ k,Lib l.prog w K mg base (k+5) "behind" ["game","place","card"] (spBehind K CT CG) f23 _:=fun k=>⟨ok_behind (k:=k+4) F23 C CGm (LRd (k+3)) m_W (FW k) b_W mn_len mn_list mn_tuple,b23,k23,m23⟩
 have LWi:∀ k,Lib l.prog w K mg base (k+2) "hands_with_trick" ["game","place"] (spWith CT CG) f18 _:=fun k=>⟨ok_with (k:=k+1) F18 (LRd k) mn_list mn_enumerate,b18,k18,m18⟩
 have LIp:∀ k,Lib l.prog w K mg base (k+3) "is_place" ["game","place"] (spIsPlace CT CG) f19 _:=fun k=>⟨ok_isPlace (k:=k+2) F19 C CGm ⟨ok_seat F16 C CGm,b16,k16,m16⟩ ⟨ok_apart F14,b14,k14,m14⟩ ⟨ok_level (k:=k+1) F15 (LMn k) mn_all,b15,k15,m15⟩ (LWi k) m_P (ok_gpack (k:=k+1) F_P C CGm (LH k) mg1 mn_range) b_P mn_len mn_list mn_any,b19,k19,m19⟩
 have LHs:∀ k,Lib l.prog w K mg base (k+1) "has_seat" ["side","seat"] spHasSeat f24 _:=fun k=>⟨ok_hasSeat F24,b24,k24,m24⟩
 have LGn:∀ k,Lib l.prog w K mg base (k+2) "gain" ["side","taker"] spGain f25 _:=fun k=>⟨ok_gain (k:=k+1) F25 (LHs k),b25,k25,m25⟩
 have LIw:∀ k,Lib l.prog w K mg base (k+1) "is_whole" ["thing"] (spIsWhole K) f28 _:=fun k=>⟨ok_isWhole F28 mn_isinstance mn_int mn_bool,b28,k28,m28⟩
 have LFz:∀ k,Lib l.prog w K mg base (k+2) "are_from_zero_on" ["things"] spFromZero f29 _:=fun k=>⟨ok_fromZero (k:=k+1) F29 (LIw k) mn_isinstance mn_tuple mn_all,b29,k29,m29⟩
 have LFp:∀ k,Lib l.prog w K mg base (k+3) "is_formed_place" ["thing"] spFmPlace f30 _:=fun k=>⟨ok_fmPlace (k:=k+2) F30 (LIw (k+1)) (LFz k) mn_isinstance mn_tuple mn_len,b30,k30,m30⟩
 have LFr:∀ k,Lib l.prog w K mg base (k+4) "is_formed_row" ["thing"] spFmRow f31 _:=fun k=>⟨ok_fmRow (k:=k+3) F31 (LIw (k+2)) (LFp k) mn_isinstance mn_tuple mn_len,b31,k31,m31⟩
 have LNd:∀ k,Lib l.prog w K mg base (k+5) "greatest_needs" ["paper"] (spNeeds l.prog w) f32 _:=fun k=>⟨ok_needs (k:=k+4) F32 (LFr k) mn_max,b32,k32,m32⟩
 have LCv:∀ k,Lib l.prog w K mg base (k+6) "covers" ["game","side","needs","place","card","need"] (spCovers l.prog w CT CG) f33 _:=fun k=>⟨ok_covers (k:=k+5) F33 (LBe k) (LGn (k+3)),b33,k33,m33⟩
 have LIB:∀ k,Lib l.prog w K mg base (k+3) "is_place" ["game","place"] (spIsPlB CT CG OkP) f19 _:=fun k=>⟨isPl_B (LIp k).ok,b19,k19,m19⟩
 have LIr:Lib l.prog w K mg base 19 "is_right" ["game","side","needs","row"] (spIsRight l.prog w CT CG OkP) f34 _:=⟨ok_isRight (k:=18) (fun fx hs lead ys h=>h.2) F34 (LFr 14) (LIB 15) (LLf 16) (LMo.mono (by decide)) (LHs 17) (LTa 15) (LCv 12) mn_all,b34,k34,m34⟩
 have LRw:Lib l.prog w K mg base 20 "row_right" ["game","side","paper","row"] (spRowRight l.prog w CT CG OkP) f35 _:=⟨ok_rowRight (k:=19) F35 (LNd 14) LIr,b35,k35,m35⟩
 have LHo:Lib l.prog w K mg base 20 "holds" ["game","side","paper","place","need"] (spHolds l.prog w CT CG OkP) f36 _:=⟨ok_holds (k:=19) F36 (LNd 14) LIr,b36,k36,m36⟩
 have LCe:∀ k,Lib l.prog w K mg base (k+1) "_law_cell" pCell (spCell K) f37 _:=fun k=>⟨ok_cell F37 mn_len,b37,k37,m37⟩
 have LX:∀ k,Lib l.prog w K mg base (k+1) "_law_mixed" ["_law_cell_here","_law_k"] spMixed f38 _:=fun k=>⟨ok_mixed F38,b38,k38,m38⟩
 have LOr:∀ k,Lib l.prog w K mg base (k+1) "_law_order" ["_law_cell_here","_law_heights"] (spOrder K) f39 _:=fun k=>⟨ok_order F39 mn_range,b39,k39,m39⟩
 have LTb:∀ k,Lib l.prog w K mg base (k+2) "_law_table" ["_law_script"] (spTable K) f40 _:=fun k=>⟨ok_table (k:=k+1) F40 (LCe k) (LX k) (LOr k),b40,k40,m40⟩
 have LTx:∀ k,Lib l.prog w K mg base (k+1) "_law_text" ["_law_facts"] (spText K) f41 _:=fun k=>⟨ok_text F41 mn_str,b41,k41,m41⟩
 have LBt:∀ k,Lib l.prog w K mg base (k+1) "_law_bit" ["_law_card"] spBit f42 _:=fun k=>⟨ok_bit F42 mn_range,b42,k42,m42⟩
 have LSh:∀ k,Lib l.prog w K mg base (k+2) "_law_shuffled" ["_law_script","_law_game_here"] (spShuf K CT CG) f43 _:=fun k=>⟨ok_shuf (k:=k+1) F43 C CGm (LCe k) (LX k) mn_range mn_sorted,b43,k43,m43⟩
 have LSd:∀ k,Lib l.prog w K mg base (k+2) "_law_side" ["_law_script","_law_seats"] (spSide K) f44 _:=fun k=>⟨ok_side (k:=k+1) F44 (LCe k) (LBt k),b44,k44,m44⟩
 let ec:_root_.Fin 8→Addr:=fun i=>match i with | 0=>e0 | 1=>e1 | 2=>e2 | 3=>e3 | 4=>e4 | 5=>e5 | 6=>e6 | 7=>e7
 have CMc:ClsM K mg CE CM ec:=⟨⟨by rw[vy1];rfl,vy2,vy3,vy4,vy5,vy6,vy7,vy8⟩,PySem.W.mg_of X G hCE,PySem.W.mg_of X G hCM,vx2,PySem.W.mg_of X G he0,PySem.W.mg_of X G he1,PySem.W.mg_of X G he2,PySem.W.mg_of X G he3,PySem.W.mg_of X G he4,PySem.W.mg_of X G he5,PySem.W.mg_of X G he6,PySem.W.mg_of X G he7,j1,j2,fun i=>match i with | 0=>ke0 | 1=>ke1 | 2=>ke2 | 3=>ke3 | 4=>ke4 | 5=>ke5 | 6=>ke6 | 7=>ke7⟩
 have LGG:Lib l.prog w K mg base 19 "_law_great_game" ["_law_script"] (spGreatG K CT CG) f47 _:=⟨ok_greatG (k:=17) F47 C CGm (LTb 16) (LCe 17) (LTx 17) (LX 17) (LOr 17) ⟨mkCT,a_I,i_I,kcCT⟩ (FI.mono (by decide)) b_I ⟨mkCG,a_G,i_G,kcCG⟩ (ok_gam (k:=16) F_G CGm) BG0 BG1,b47,k47,m47⟩
 have LGP:Lib l.prog w K mg base 19 "_law_great_place" pGreatP (spGreatP K CT CG) f48 _:=⟨ok_greatP (k:=18) F48 C CGm (LSh 16) (LBt 17) (LCe 17) (LMo.mono (by decide)) (LBe 13) mn_range mn_tuple mn_sum mn_len,b48,k48,m48⟩
 have LLR:Lib l.prog w K mg base 19 "_law_rows" ["_law_game_here","_law_place_here"] (spLRows CT CG) f49 _:=⟨ok_lrows (k:=18) F49 (LMo.mono (by decide)) (LBe 13),b49,k49,m49⟩
 have LSu:Lib l.prog w K mg base 21 "_law_sure" ["_law_game_here","_law_place_here"] (spSure CT CG) f50 _:=⟨ok_sure (k:=20) F50 C CGm (LBt 19) (LLR.mono (by decide)) LRw LHo,b50,k50,m50⟩
 have LRf:Lib l.prog w K mg base 18 "refuse_too_many" ["place"] spRefuse f26 _:=⟨ok_refuse (k:=17) F26 (LMn 16) mg5 mn_sum,b26,k26,m26⟩
 have LRR:LibX l.prog w K mg base 18 "refuse_too_many" ["place"] (spRefuseR CM) f26 _:=⟨ok_refuseR (k:=17) F26 (LMn 16) mg5 mn_sum (PySem.W.mg_of X G hCM) vx1,b26,k26,m26⟩
 have LPR:LibX l.prog w K mg base 19 "paper" pPaper (spPaperR CT CG CM) f27 _:=⟨ok_paperR (k:=18) F27 LRR,b27,k27,m27⟩
 have LP0:Lib l.prog w K mg base 19 "paper" pPaper (spPaper0 CT CG) f27 _:=⟨ok_paper0 (k:=18) F27 LRf,b27,k27,m27⟩
 have LOt:Lib l.prog w K mg base 19 "_law_others" ["_law_error"] (spOthers CM) f45 _:=⟨ok_others (k:=18) F45 CMc mn_isinstance,b45,k45,m45⟩
 have LRe:Lib l.prog w K mg base 20 "_law_refused" pRef (spRefused CT CG) f46 _:=⟨ok_refused (k:=19) F46 CMc LPR LOt mn_isinstance mn_ValueError,b46,k46,m46⟩
 exact ok_law (k:=21) F51 C CGm (LGG.mono (by decide)) (LCe 20) (LGP.mono (by decide)) (LSd 19) (LRe.mono (by decide)) (LLf 19) (LRw.mono (by decide)) (LHo.mono (by decide)) LSu (LP0.mono (by decide))
theorem walk{l:PySem.W.OpenLaw}{q:Program}{loose:List Str}{XP:(Str→Option Value)→Heap→Prop}{YP:World→Heap→Prop}{d:DefRec}{K:Params→PySem.W.Frag}(hn:l.most=some 63)(hdf:d.params.defaults=[])
  (hY:∀(w:World) (h:Heap),YP w h→(K w.params).In h)
  (F:∀(w:World) (mg:Str→Option Value) (fa:Addr) (h:Heap),(K w.params).In h→h.Ns mainGlobals mg→mg d.name=some (.ref fa) →
   ∃ fd:FuncData,(∀(s:Shared) (u:Value),BindsTo s fd ⟨[u],[]⟩ [("_law_script",u)])∧∀ base:Heap,(K w.params).In base→base.Ns mainGlobals mg→FnOk l.prog w (K w.params) mg base CX0 22 fa fd ["_law_script"] (spLaw (K w.params))) :
  PySem.W.WalkO q loose XP YP l.row.toRowW d [] (fun f vs=>PySem.call f vs):=
 L2.walk_of (n:=63) (k:=22) (x:="_law_script") (CX:=fun _=>CX0) (sp:=fun w=>spLaw (K w.params)) hn (by decide) hdf ⟨rfl,by decide,by decide⟩ hY F (fun _ _ a ns hl _ hS=>⟨a,ns,rfl,hS,hl,fun _=>rfl⟩) fun _ _ _ _ _ z=>z
end My
namespace PySem.W.Fast
def tw12654973896344888766:=0
def tw14419935385969258863:=0
def tw10672995890003199613:=0
def tw5629894833903813337:=0
def tw15786479604789373833:=0
def tw3203687776164448339:=0
def tw7187424755789771475:=0
def tw10653116282442300436:=0
def tw10703243156112541653:=0
def tw16806178685554261560:=0
def tw4550170703357343162:=0
def tw13192124685981221054:=0
def tw7879502395304549372:=0
def tw2141059842569373210:=0
def tw11426029313439216656:=0
def tw6357673012662190646:=0
def tw5909932051664460177:=0
def tw18260998386869371863:=0
def tw6835214279684644004:=0
def tw6539854329152465781:=0
def tw2528580960548270181:=0
def tw2595480408214372475:=0
def tw17763073774416010132:=0
def tw1592325527608763601:=0
def tw17210400834105940494:=0
def tw406054855370588009:=0
def tw2035389465128600909:=0
def tw222870611278737382:=0
def tw15076883970666563454:=0
def tw3657614053285077498:=0
def tw10742790255969550816:=0
def tw6716985401741271363:=0
def tw8813406333736989984:=0
def tw11504017693995069069:=0
def tw1692047973182157043:=0
def tw8749951109065479831:=0
def tw14464828727460859159:=0
def tw11791534864526714469:=0
def tw5119087976569027219:=0
def tw16183808656000832300:=0
def tw12928142730991299971:=0
def tw15714033763816109843:=0
def tw15317529326478861953:=0
def tw5718326183523202291:=0
def tw4248289564303320623:=0
def tw7083553839204467568:=0
def tw3868313711661642427:=0
def tw15295279544702287328:=0
def tw13235773788673358252:=0
def tw13886629902706582544:=0
def tw6145009428730126087:=0
def tw5491877523935767572:=0
def tw7102521704036666185:=0
def tw15831728629954080373:=0
def tw16539331595381953428:=0
def tw1932219758373225378:=0
def tw6916937807729859659:=0
def tw7452577286407292527:=0
def tw6548555675940765249:=0
def tw10883645807285321230:=0
def tw2538688883243938384:=0
def tw15609524213384220890:=0
def tw3030146534605091581:=0
def tw9019281733716585727:=0
def tw4167958202393044728:=0
def tw15972934941624866805:=0
def tw7007059270207735967:=0
def tw5760261074379879166:=0
def tw8639688124259455458:=0
def tw12100653166299600629:=0
def tw12833879518117031276:=0
def tw10782458918958378884:=0
def tw7834514897496074937:=0
def tw4953849766069127035:=0
def tw8827584728552595138:=0
def tw8257872128656458419:=0
def tw1601108816493385555:=0
def tw12914548084680655060:=0
def tw8318488698317771392:=0
def tw5036101730228854695:=0
def tw10793980756072194327:=0
def tw14411514223648187903:=0
def tw6086163800744823528:=0
def tw7077836885868781361:=0
def tw374674524388202626:=0
def tw16290911388765649320:=0
def tw5839400587093699209:=0
def tw1457204413729419629:=0
def tw7458942664839725724:=0
def tw12209539309175438424:=0
def tw2343146729544363046:=0
def tw4222067848485338616:=0
def tw11776078064597297626:=0
def tw2248882459315438104:=0
def tw8766593964704530219:=0
def tw17432188041164967159:=0
def tw12136999582012707770:=0
def tw10380119470366896551:=0
def tw14117231213808020897:=0
def tw10517239590377138210:=0
def tw9115647122795009233:=0
def tw3431043767914503877:=0
def tw14764466449272958473:=0
def tw9445597498646566670:=0
def tw3793954964169510053:=0
def tw5937358206948926913:=0
def tw4872911752336607453:=0
def tw6751041044692668642:=0
def tw6788400960474606865:=0
def tw17751603578038801002:=0
def tw2139676970254702520:=0
def tw16257842762627898699:=0
def tw11133742321183922690:=0
def tw10315319637898370628:=0
def tw1134958643088525987:=0
def tw7148451114018166366:=0
def tw5284112307727850126:=0
def tw8395072971720415552:=0
def tw13387733740883537787:=0
def tw3858187742577304481:=0
def tw18091763046270809160:=0
def tw2582117558061292722:=0
def tw8720130656679994795:=0
def tw9649534451586016005:=0
def tw6044615762096840993:=0
def tw17442805601179828094:=0
def tw14745039427515334572:=0
def tw13529647274990477797:=0
def tw4396410475014327771:=0
def tw201867406912115449:=0
def tw1991005669816812593:=0
def tw177239280112420210:=0
def tw18185867941034659207:=0
def tw4484397415170420184:=0
def tw17478848069143701012:=0
def tw12718584858710377749:=0
def tw12602020324472931074:=0
def tw1721790544458771297:=0
def tw4560409785653167966:=0
def tw6066439103934337276:=0
def tw11888353173258158233:=0
def tw5105184054417996193:=0
def tw15200011674409421002:=0
def tw13898223146480339606:=0
def tw11776161683900703281:=0
def tw8586138215017971968:=0
def tw18108619194896194538:=0
def tw13801381871480446336:=0
def tw10501869170680080849:=0
def tw10168406333009803260:=0
def tw9716945125504045883:=0
def tw14530139422350150391:=0
def tw15464127072963362909:=0
def tw11514907469979265302:=0
def tw6288422683291617092:=0
def tw14603123815081183826:=0
def tw17323138322196737620:=0
def tw4120835068670912339:=0
def tw11376935031106907493:=0
def tw17101987845929709393:=0
def tw17512293974866231774:=0
def tw8075831583763445253:=0
def tw12304527986225533003:=0
def tw6946902277942383210:=0
def tw7564190894540246819:=0
def tw9914201478120267137:=0
def tw14217229632403949188:=0
def tw13245751869435078204:=0
def tw12719768880041555311:=0
def tw7371507363717251100:=0
def tw14226774000117186321:=0
def tw2329981642233544749:=0
def tw12701565460933229794:=0
def tw5962217336968172311:=0
def tw14475798351536238195:=0
def tw9964567827421496759:=0
def tw18011852126624527109:=0
def tw7652604733436584545:=0
def tw6712578654228767862:=0
def tw16607441631168576694:=0
def tw16787121044432433638:=0
def tw16656527389867497612:=0
def tw10067395542587922831:=0
def tw12932135171907429547:=0
def tw7429407492809527156:=0
def tw11167083360731043656:=0
def tw9811003390707014316:=0
def tw17747661994481338902:=0
def tw551854093914899492:=0
def tw16713559667649170599:=0
def tw15114074668875232883:=0
def tw7846857812067664156:=0
def tw13906137098687820259:=0
def tw12125264223807771264:=0
def tw14920139597135731372:=0
def tw15089621057337470846:=0
def tw11795434731088236638:=0
def tw10267160267447435258:=0
def tw6098068366530583274:=0
def tw17109005923723428997:=0
def tw1504936438230232695:=0
def tw16500071021532190494:=0
def tw2627102506746826896:=0
def tw1512928894814732713:=0
def tw4546764413148461542:=0
def tw10633049099462844984:=0
def tw9502032486563648565:=0
def tw5760242925145399723:=0
def tw16561997717124943232:=0
def tw8319699721058823766:=0
def tw16688573779351419869:=0
def tw7388277264617264880:=0
def tw7065653333106582160:=0
def tw16397508787224061034:=0
def tw3423061249388486641:=0
def tw9283470674811549863:=0
def tw5367941322525886967:=0
def tw12258158338848153954:=0
def tw3671889542649231662:=0
def tw4305810769270879222:=0
def tw13547469162003735354:=0
def tw1450190274267084246:=0
def tw18103310240992737513:=0
def tw16628100600396185788:=0
def tw8977761042724137782:=0
def tw12082326026099126390:=0
def tw15792870805683906250:=0
def tw7313083929622209916:=0
def tw17936051372592743527:=0
def tw15848343072731213246:=0
def tw11134999216331014926:=0
def tw9759576657573065721:=0
def tw9143777633220049541:=0
def tw10775512722764524037:=0
def tw8991195040723442882:=0
def tw5838903415522661229:=0
def tw11940372544934234122:=0
def tw8613715240471828986:=0
def tw18187179822153844128:=0
def tw12711447024191679731:=0
def tw2808294732170784574:=0
def tw7256506823705003755:=0
def tw9922398927241868952:=0
def tw11937947765563619172:=0
def tw13011471813988510199:=0
def tw1770112182951037927:=0
def tw3039058017063793225:=0
def tw8424845725864787284:=0
def tw11720371755610614269:=0
def tw8815452830164264342:=0
def tw1182792148853868047:=0
def tw10180236433131544172:=0
def tw16935429056735519413:=0
def tw6921181913761604173:=0
def tw5437230204025146674:=0
def tw2297414517200774065:=0
def tw7966250436614700108:=0
def tw10635189229172553723:=0
def tw7116058869603952493:=0
def tw9455384313570933801:=0
def tw16094536948268017902:=0
def tw4824136590180516171:=0
def tw6752949094148106534:=0
def tw13712007092771109872:=0
def tw341848557327269287:=0
def tw11112834453131739372:=0
def tw4821987267715348001:=0
def tw16825915467767759599:=0
def tw10954924050337730527:=0
def tw12927978521819923054:=0
def tw10151216643584644464:=0
def tw1436499503401527453:=0
def tw16697564389929424297:=0
def tw15695291296710348702:=0
def tw12714836457445215610:=0
def tw10662746503941920124:=0
def tw4338686930930960711:=0
def tw9503020717417616287:=0
def tw8072553319398889975:=0
def tw17097651024056198395:=0
def tw11875456501550146959:=0
def tw6714647596082888600:=0
def tw17927299257728950880:=0
def tw307226052969718539:=0
def tw12978356286600947823:=0
def tw15299379178365428357:=0
def tw1251336042477796634:=0
def tw1644645072737502426:=0
def tw10366636071722018750:=0
def tw11665607089757533218:=0
def tw14142072609349273635:=0
def tw440007511932590519:=0
def tw14961285242397972088:=0
def tw5988825968950904456:=0
def tw322404141373027426:=0
def tw17841629086141704584:=0
def tw9620548143935845903:=0
def tw4076157446196651231:=0
def tw16253592538848024821:=0
def tw4917927315066610741:=0
def tw18002933688133487573:=0
def tw654800291791030616:=0
def tw5552620390939426072:=0
def tw17416361783918204308:=0
def tw9178160206003914863:=0
def tw9504066169713206250:=0
def tw10500835701937111552:=0
def tw14973065157444619415:=0
def tw12372653353970097376:=0
def tw3765500732460018368:=0
def tw3479031312976039098:=0
def tw14554591072254551214:=0
def tw12067430310100386409:=0
def tw6119525031231710972:=0
def tw10810638108075536660:=0
def tw15143387004701611351:=0
def tw7592443709158349663:=0
def tw3764942932443918847:=0
def tw15725883266140075805:=0
def tw14966710962426493162:=0
def tw7207291608288164079:=0
def tw17954741250123060839:=0
def tw11002376256149777138:=0
def tw9399641484046903844:=0
def tw16228127919237492609:=0
def tw252165060713049510:=0
def tw15905229930607544034:=0
def tw8908353489067456841:=0
def tw6145409896152266026:=0
def tw16447204061943608746:=0
def tw8801626813344750222:=0
def tw3542308679285424486:=0
def tw2308662588340711502:=0
def tw13443519907311795762:=0
def tw7403460838918513253:=0
def tw864879618661313981:=0
def tw4032566425544315517:=0
def tw5601478340820415249:=0
def tw12081019256790046874:=0
def tw12864511452176743083:=0
def tw8659384301953885168:=0
def tw3513298801390676059:=0
def tw12042683496623498642:=0
def tw2987128203430372682:=0
def tw13096167263013554966:=0
def tw6905884971255895401:=0
def tw14466028161685510902:=0
def tw668930730051127862:=0
def tw4260706047215596662:=0
def tw7051038383805685094:=0
def tw2418379255700775335:=0
def tw6824325060815115874:=0
def tw9665797064747752182:=0
def tw1460713491463529504:=0
def tw6641857651767653444:=0
def tw257777900837123089:=0
def tw10460659940550165638:=0
def tw17320996216650029703:=0
def tw15019212776600578539:=0
def tw8350488479642294046:=0
def tw8698860223727079779:=0
def tw6410234303774463510:=0
def tw13195824926525506719:=0
def tw7489045785369093567:=0
def tw10241825616187331823:=0
def tw6654758953319098661:=0
def tw1719380297548432715:=0
def tw11066368664081987749:=0
def tw16500560083839786745:=0
def tw1670382235500555801:=0
def tw8969935325885089395:=0
def tw15689110343657111678:=0
def tw12154246731372615620:=0
def tw9601163223544689492:=0
def tw7682409247952894407:=0
def tw16214720677637116898:=0
def tw12384497645454337620:=0
def tw4940243225749392567:=0
def tw638098785707990767:=0
def tw17532168466773927011:=0
def tw13594071572803673359:=0
def tw16969197400064867445:=0
def tw5247597986115246474:=0
def tw10577938867353050711:=0
def tw8147903216191447820:=0
def tw17146874713795395532:=0
def tw14396789991319836342:=0
def tw9687600876419386739:=0
def tw13732848384671943300:=0
def tw11791661176412071102:=0
def tw8877392257866276948:=0
def tw12526010974649419965:=0
def tw17595944120144448091:=0
def tw11350184794780331047:=0
def tw13416007575834950283:=0
def tw5207098162667601735:=0
def tw6657836232242207005:=0
def tw11719996453434644726:=0
def tw17468544159369915545:=0
def tw12045519089318733706:=0
def tw15523381642785887476:=0
def tw1815536280362370169:=0
def tw10930624143392451243:=0
def tw7454199639742269885:=0
def tw8544426511503967363:=0
def tw1353570093513366845:=0
def tw5613593395344462645:=0
def tw17937602244849664834:=0
def tw6105754732933401124:=0
def tw6926605280086455203:=0
def tw11453292721599852404:=0
def tw13059491905769181697:=0
def tw17128822892304666662:=0
def tw11876355874616728640:=0
def tw15915504284670953618:=0
def tw5574995495470483154:=0
def tw4009650863446034356:=0
def tw17244816702962001685:=0
def tw9406636518745873769:=0
def tw11514495531292203906:=0
def tw6550431378991606944:=0
def tw12231167445081639658:=0
def tw5759406066640625193:=0
def tw209112200163270877:=0
def tw2998014433574066473:=0
def tw9953327005490774847:=0
def tw5196114473617790050:=0
def tw5253986771182581637:=0
def tw3368025630602074562:=0
def tw5190498008862565580:=0
def tw199199173032844285:=0
def tw16769436895821384597:=0
def tw3091791496140853398:=0
def tw10535701414600238838:=0
def tw16684391422284758068:=0
def tw15222246820269589931:=0
def tw15578527714146031310:=0
def tw9641515243935741131:=0
def tw4372283969276686538:=0
def tw11590255314514757187:=0
def tw2120511379006320727:=0
def tw9364442901077652395:=0
def tw7210418565341753656:=0
def tw16100798453310468247:=0
def tw822464145195102127:=0
def tw8709820719264692394:=0
def tw8899877083286054210:=0
def tw17598917533798419113:=0
def tw11108293196688276322:=0
def tw14870021735426505282:=0
def tw13876648316519094263:=0
def tw3810267409889988792:=0
def tw3028384273286410236:=0
def tw8161088129659354516:=0
def tw2659780060863408765:=0
def tw8404722236937944183:=0
def tw9838990794186088979:=0
def tw8087085655049226404:=0
def tw3585600593682778693:=0
def tw8860692634411184248:=0
def tw2547883391994354327:=0
def tw9947549860305667272:=0
def tw17503409055770474556:=0
def tw5818496844117539734:=0
def tw14365547388719435394:=0
def tw15541781378406770923:=0
def tw16144404014590570134:=0
def tw9448459095086109419:=0
def tw15566048853633923587:=0
def tw1594560661735672253:=0
def tw3017409559175572824:=0
def tw17523295249013228123:=0
def tw15600510032306871212:=0
def tw5091632411192827139:=0
def tw11983064185657807603:=0
def tw10218239613418183381:=0
def tw14715645365639424508:=0
def tw15106572808592984255:=0
def tw18277871579402464162:=0
def tw5155165148936151968:=0
def tw4219330222440065541:=0
def tw2832113657626305270:=0
def tw7237427905950393756:=0
def tw13406854145971299271:=0
def tw5804135783550675253:=0
def tw1312386690603743308:=0
def tw15730341404139729367:=0
def tw1626843166424940268:=0
def tw8517271768313983596:=0
def tw17613007015232442773:=0
def tw4660683250982648802:=0
def tw11237862523044717562:=0
def tw11767522473701039223:=0
def tw5415822308551111925:=0
def tw10759097144036026186:=0
def tw5446057902977795782:=0
def tw3377258351155240813:=0
def tw15070382209957078033:=0
def tw14762191490741839752:=0
def tw8283624879571135328:=0
def tw11785984077674037258:=0
def tw7993219162437469899:=0
def tw16602427322710182727:=0
def tw7450913937402398011:=0
def tw5167655131878534868:=0
def tw903467360809595863:=0
def tw16409220865680505996:=0
def tw10604593217308073764:=0
def tw14881426787417275762:=0
def tw1602172690531558591:=0
def tw4939056853055922720:=0
def tw9293214682238597366:=0
def tw13143963791125364587:=0
def tw2078993392557729101:=0
def tw7932583912964227157:=0
def tw9193862431665217634:=0
def tw9226227496626042761:=0
def tw13550868987513448864:=0
def tw10847525418207395395:=0
def tw1870604875581537314:=0
def tw13371277883310265289:=0
def tw8755668725063534665:=0
def tw17761786931824264072:=0
def tw5379013364075452001:=0
def tw9201503773478243053:=0
def tw2584822738363396413:=0
def tw799650961752758500:=0
def tw170319053267775691:=0
def tw993458964188958480:=0
def tw2583252960541826468:=0
def tw742516071676340920:=0
def tw608348958566952131:=0
def tw10899390676094028047:=0
def tw9723855248943777562:=0
def tw927003080437009239:=0
def tw2232158886811335099:=0
def tw12961807438064586089:=0
def tw11023495334113881282:=0
def tw10537344027109758023:=0
def tw14986726644765109512:=0
def tw5883326215459870971:=0
def tw10252840400007390860:=0
def tw6991788497427564722:=0
def tw8483250768343790618:=0
def tw12520499831031552998:=0
def tw2508995941221582091:=0
def tw9150571705171472586:=0
def tw6172159923491882835:=0
def tw570103998333536683:=0
def tw1820376425699439137:=0
def tw6724164019274854669:=0
def tw14855188851647826738:=0
def tw11110673040513974078:=0
def tw2029532580731270012:=0
def tw16430670364207210968:=0
def tw16086297219680146851:=0
def tw14075249254719351472:=0
def tw4098874990947897819:=0
def tw12820267609410218223:=0
def tw5469310318191439566:=0
def tw4300266356551516695:=0
def tw10208955675368626060:=0
def tw9153004481336161263:=0
def tw411210700350551106:=0
def tw13993732796871234983:=0
def tw11043605724927908551:=0
def tw4925205678843949969:=0
def tw6217353589974973632:=0
def tw1118200754915929816:=0
def tw11774013195305414707:=0
def tw6980363732826246029:=0
def tw17154149149163636253:=0
def tw8770529583848766936:=0
def tw1504110188189965620:=0
def tw14543214000741342907:=0
def tw7682943338391462179:=0
def tw12754623973410934728:=0
def tw2373484414068117139:=0
def tw9324845740059056739:=0
def tw14471012426480974356:=0
def tw16605102484876244328:=0
def tw2159758896175480814:=0
def tw13801520803201679222:=0
def tw14299710846280530090:=0
def tw12685996556580620410:=0
def tw13867309915551080324:=0
def tw14053244758771028898:=0
def tw3640194309930564404:=0
def tw5615847258203837965:=0
def tw7628893938654020816:=0
def tw10501680167337761399:=0
def tw18055568865151246522:=0
def tw3515481332072823686:=0
def tw2002510229891203553:=0
def tw2170994982254828093:=0
def tw14765674866282472654:=0
def tw9441247970475154898:=0
def tw16911308866026370949:=0
def tw17388431795366397453:=0
def tw5364200575850910994:=0
def tw4347140629912952736:=0
def tw6314871560872348594:=0
def tw3361424049677853673:=0
def tw7748495196617198527:=0
def tw10042131239573358562:=0
def tw5262801661647700881:=0
def tw7911639906593773386:=0
def tw8045234802148200563:=0
def tw3440661438574286760:=0
def tw4014094236959388977:=0
def tw9887118124968733910:=0
def tw12644378680153331555:=0
def tw2433538176107313787:=0
def tw8834249409644322050:=0
def tw2107594929336769076:=0
def tw7164602509691212501:=0
def tw15328043005330477458:=0
def tw1282990053981313952:=0
def tw16949230747545962158:=0
def tw6157504523647734900:=0
def tw8875421412888132607:=0
def tw16522657111566117175:=0
def tw16592343604471954565:=0
def tw17171094187338669244:=0
def tw3738605409995428130:=0
def tw7162857722373635616:=0
def tw17281632223270395414:=0
def tw17437547003012604316:=0
def tw15403741520146557041:=0
def tw10307358359815629513:=0
def tw2354355097787180829:=0
def tw17152487370163434252:=0
def tw2054123497433415100:=0
def tw13289492086908095197:=0
def tw8497106798079892683:=0
def tw11170093917111875857:=0
def tw11578599642904136177:=0
def tw16690775853437081297:=0
def tw9603711964240747696:=0
def tw17316050058787554194:=0
def tw13610493644861969890:=0
def tw6963312406438316423:=0
def tw16860387304927948845:=0
def tw3244234617649830651:=0
def tw11558914829366221054:=0
def tw7306055507804852684:=0
def tw17059812482459922590:=0
def tw14930755198809247232:=0
def tw4353823202722813016:=0
def tw2283085141233712336:=0
def tw10477399835826242750:=0
def tw13932781916674760080:=0
def tw14430591253601577565:=0
def tw11897197055408792278:=0
def tw15765960697070929122:=0
def tw5230435450116571265:=0
def tw14172387186072946167:=0
def tw1819287072372325941:=0
def tw6464540845234064792:=0
def tw18398485005011033666:=0
def tw6887443543645827662:=0
def tw13933370817307938413:=0
def tw15842754910666237560:=0
def tw178660251626307404:=0
def tw16041996031080530991:=0
def tw15082335686563950039:=0
def tw15489488545505849922:=0
def tw13978433192722256583:=0
def tw12635175552185843236:=0
def tw2104660367513487062:=0
def tw8691630110210208194:=0
def tw14053493751232200930:=0
def tw3302463462659871650:=0
def tw17113006381009637094:=0
def tw12483039338134938210:=0
def tw8403804485454579556:=0
def tw6659029946020662273:=0
def tw17110517518524398681:=0
def tw14738228592780798114:=0
def tw4047266196135740525:=0
def tw8246631282393048218:=0
def tw6536645631292386066:=0
def tw11294553766322008062:=0
def tw10131146889096014927:=0
def tw12217220544681634768:=0
def tw3507421042250065564:=0
def tw12242795650969609643:=0
def tw805527586821302775:=0
def tw339277158736188391:=0
def tw3231833481389144197:=0
def tw2292325256860227134:=0
def tw4832150747268414684:=0
def tw3654700578921361915:=0
def tw8160528004582629474:=0
def tw15590940715443209145:=0
def tw3827228716671268349:=0
def tw8667705023476525532:=0
def tw13968585561581570768:=0
def tw7368436572737878332:=0
def tw10623516743873742642:=0
def tw1327843031737663395:=0
def tw17240471111767865285:=0
def tw5062474568952734535:=0
def tw6615489418889515421:=0
def tw7982651567744020455:=0
def tw10723706868626637361:=0
def tw14767669194001234021:=0
def tw15681987581272202104:=0
def tw10607592154571722736:=0
def tw5578858135970964637:=0
def tw14441419434249877312:=0
def tw14252475851029484851:=0
def tw145075909027169939:=0
def tw10978267421728182751:=0
def tw3399179379753922576:=0
def tw16517318399342528288:=0
def tw9808659020162592077:=0
def tw6580172755401893009:=0
def tw11074155144304116946:=0
def tw1592697239516946555:=0
def tw2020328652017994512:=0
def tw11977683701425900756:=0
def tw4803138087612994230:=0
def tw15711252559524072697:=0
def tw13497272566877934599:=0
def tw10336313722502262682:=0
def tw10059591268608110689:=0
def tw10026475144733417188:=0
def tw8471144147557401605:=0
def tw2165809173108345356:=0
def tw11460239414662482728:=0
def tw3432278964705899939:=0
def tw9325608440021797550:=0
def tw15151349448832364251:=0
def tw17731859737415344252:=0
def tw18141182688971125370:=0
def tw12645891961693990270:=0
def tw15167072956138170935:=0
def tw9940166043007015665:=0
def tw10818654707044544697:=0
def tw10168568147845248881:=0
def tw10726178966765684571:=0
def tw16673737995720258105:=0
def tw17104901610106878350:=0
def tw5229533514856907988:=0
def tw687777576452258585:=0
def tw2991213802265429827:=0
def tw10307675295624459112:=0
def tw8396885400768062535:=0
def tw6123142830659539733:=0
def tw13382079373095546766:=0
def tw11119920140403878028:=0
def tw14983327868429211760:=0
def tw8439056290805644203:=0
def tw18396752090603977013:=0
def tw10444519265578170849:=0
def tw13566599981152092355:=0
def tw4645412986469953264:=0
def tw5017138707595899208:=0
def tw13734874699884090968:=0
def tw14826516824330524228:=0
def tw8820114666682775628:=0
def tw13761281333492975703:=0
def tw11577914898822234403:=0
def tw9031807148889731749:=0
def tw17816736727668518337:=0
def tw1131832751964454199:=0
def tw10260063854119339944:=0
def tw3885999851931197712:=0
def tw10369289102400367757:=0
def tw4357376463149295614:=0
def tw2452878543490583891:=0
def tw6977188380097487311:=0
def tw11225715873087632084:=0
def tw13137698385105433197:=0
def tw14299350197302500352:=0
def tw11800884430176221660:=0
def tw2893107595196673797:=0
def tw7547238830889821525:=0
def tw7443375342202182525:=0
def tw5913551446404205994:=0
def tw3712175520841781788:=0
def tw13259252443814117435:=0
def tw15073034724933457734:=0
def tw14936403613122324533:=0
def tw16771266953262106658:=0
def tw8772885516386633255:=0
def tw11313854954851971212:=0
def tw14921953858020402173:=0
def tw2958958766340307203:=0
def tw14209023343186502040:=0
def tw18064761247006010930:=0
def tw8200473738595594074:=0
def tw4203290544941662325:=0
def tw10824040988339063539:=0
def tw3867190501429024039:=0
def tw6389618981858160459:=0
def tw7716459343978838112:=0
def tw15234374585662847168:=0
def tw17442210390785138478:=0
def tw16785046130519513785:=0
def tw13229799360693951183:=0
def tw14325840627544538735:=0
def tw18023056075355540856:=0
def tw12002060368824255782:=0
def tw5689399584378087311:=0
def tw8394597796962400322:=0
def tw9595532700842965548:=0
def tw11511424993786666135:=0
def tw10221210503340498694:=0
def tw8571350241162144266:=0
end PySem.W.Fast
open PySem PySem.W PyProof.Rows
set_option maxRecDepth 100000 in
set_option maxHeartbeats 0 in
theorem PySem.Challenge.cw_trickproof_k44_too_many_for_papers_holds : PySem.Challenge.rw_trickproof_k44_too_many_for_papers.Holds := by
 w_on;o_law;k_head;(case hw=>w_witness2)
 k_fill
 refine My.walk (l:=PySem.Challenge.rw_trickproof_k44_too_many_for_papers) rfl rfl (fun w h Y=>PySem.W.kIn_of Y) ?F
 case F=>
  intro w mg fa h KX G hmg
  refine' My.all_mk KX G hmg ?_ ?_ ?_ ?_ ?_ ?_ ?_ ?_ ?_ ?_ ?_ ?_ ?_ ?_ ?_ ?_ ?_ ?_ ?_ ?_ ?_ ?_ ?_ ?_ ?_ ?_ ?_ ?_ ?_ ?_ ?_ ?_ ?_ ?_ ?_ ?_ ?_ ?_ ?_ ?_ ?_ ?_ ?_ ?_ ?_ ?_ ?_ ?_ ?_ ?_ ?_ ?_ ?_ ?_ ?_ ?_ ?_ ?_ ?_ ?_ ?_ ?_ ?_ ?_ ?_ ?_ ?_ ?_ ?_ ?_ ?_ ?_ ?_ ?_ ?_ ?_ ?_ ?_ ?_ ?_ ?_ ?_ ?_ ?_ ?_ ?_ ?_ ?_ ?_ ?_ ?_ ?_ ?_ ?_ ?_ ?_ ?_ ?_ ?_ ?_ ?_ ?_ ?_ ?_ ?_ ?_ ?_ ?_ ?_ ?_ ?_ ?_ ?_ ?_ ?_ ?_ ?_ ?_ ?_ ?_ ?_ ?_ ?_ ?_ ?_ ?_ ?_ ?_ ?_ ?_ ?_ ?_ ?_ ?_ ?_ ?_ ?_ ?_ ?_ ?_ ?_ ?_ ?_ ?_ ?_ ?_ ?_ ?_ ?_ ?_ ?_ ?_ ?_ ?_ ?_ ?_ ?_ ?_ ?_ ?_ ?_ ?_ ?_ ?_ ?_ ?_ ?_ ?_ ?_ ?_ ?_ ?_ ?_ ?_ ?_ ?_ ?_ ?_ ?_ ?_ ?_ ?_ ?_ ?_ ?_ ?_ ?_ ?_ ?_ ?_ ?_ ?_ ?_ ?_ ?_ ?_ ?_ ?_ ?_ ?_ ?_ ?_ ?_ ?_ ?_ ?_ ?_ ?_ ?_ ?_ ?_ ?_ ?_ ?_ ?_ ?_ ?_ ?_ ?_ ?_ ?_ ?_ ?_ ?_ ?_ ?_ ?_ ?_ ?_ ?_ ?_ ?_ ?_ ?_ ?_ ?_ ?_ ?_ ?_ ?_ ?_ ?_ ?_ ?_ ?_ ?_ ?_ ?_ ?_ ?_ ?_ ?_ ?_ ?_ ?_ ?x1 ?vx1 ?vx2 ?j1 ?j2 ?ke0 ?ke1 ?ke2 ?ke3 ?ke4 ?ke5 ?ke6 ?ke7
  rotate_left 189
  iterate 189 k_is
  iterate 66 (refine' L2.fun_mk ?_ ?_ ?_;rotate_left 9;iterate 3 k_is)
  (case x1=>k_exc)
  (case vx1=>k_exc)
  (case vx2=>kts_exm)
  (case j1=>kit_is)
  (case j2=>kit_is)
  (case ke0=>kit_is)
  (case ke1=>kit_is)
  (case ke2=>kit_is)
  (case ke3=>kit_is)
  (case ke4=>kit_is)
  (case ke5=>kit_is)
  (case ke6=>kit_is)
  (case ke7=>kit_is)
#print axioms PySem.Challenge.cw_trickproof_k44_too_many_for_papers_holds
