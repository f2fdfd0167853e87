import PyProof.Rows.All
import Wide.All
import OpenK.AllK
import Wide.FinOn
import Lean
import PyProof.EqAt
import PyProof.EqKinds
import PyProof.TupleCall
import PyProof.NeKinds
import PyProof.ListStr
import PyProof.Rows.SortStr
import KE.KIntText
import PySem.Challenge.RW_trickproof_k31_places_turned
set_option Elab.async false
set_option linter.all false
set_option maxRecDepth 100000
namespace L2
open PySem PySem.Spec PyProof.Rows
abbrev Key:=Sum Int Str
def keyIs:Key→Value→Bool
 | .inl k,v=>Value.isInt k v
 | .inr x,v=>Value.isStrOf x v
def keyH(w:World):Key→Int
 | .inl k=>hashInt k
 | .inr x=>hashStr w x
theorem keyIs_shape:∀{k:Key} {v:Value},keyIs k v=true→(∃ i t,k=Sum.inl i∧v=Value.int i t)∨(∃ x t,k=Sum.inr x∧v=Value.str x t)
 | .inl i,v,h=>by
  obtain⟨t,e⟩:=Value.isInt_shape (k:=i) (v:=v) h
  exact .inl ⟨i,t,rfl,e⟩
 | .inr x,v,h=>by
  obtain⟨t,e⟩:=Value.isStrOf_shape (x:=x) (v:=v) h
  exact .inr ⟨x,t,rfl,e⟩
theorem key_ll(a b:Int):decide ((Sum.inl a:Key)=Sum.inl b)=(a == b):=by
 by_cases e:a=b
 ·subst e;simp
 ·have h:¬ (Sum.inl a:Key)=Sum.inl b:=fun q=>e (Sum.inl.inj q)
  rw[decide_eq_false h]
  exact(beq_eq_false_iff_ne.mpr e).symm
theorem key_rr(a b:Str):decide ((Sum.inr a:Key)=Sum.inr b)=decide (a=b):=by
 by_cases e:a=b
 ·subst e;simp
 ·have h:¬ (Sum.inr a:Key)=Sum.inr b:=fun q=>e (Sum.inr.inj q)
  rw[decide_eq_false h,decide_eq_false e]
theorem key_lr(a:Int)(b:Str):decide ((Sum.inl a:Key)=Sum.inr b)=false:=decide_eq_false (fun q=>nomatch q)
theorem key_rl(a:Str)(b:Int):decide ((Sum.inr a:Key)=Sum.inl b)=false:=decide_eq_false (fun q=>nomatch q)
def mixKind(prog:Program)(w:World):PySem.KeyKind prog w Key where
 is:=keyIs
 hash:=keyH w
 inj:=fun v a b ha hb=>by
  rcases keyIs_shape ha with⟨i,t,rfl,rfl⟩ | ⟨x,t,rfl,rfl⟩
  ·rcases keyIs_shape hb with⟨j,u,rfl,e⟩ | ⟨y,u,rfl,e⟩
   ·injection e with e1 _;rw[e1]
   ·exact nomatch e
  ·rcases keyIs_shape hb with⟨j,u,rfl,e⟩ | ⟨y,u,rfl,e⟩
   ·exact nomatch e
   ·injection e with e1 _;rw[e1]
 byValue:=fun k v h=>by
  rcases keyIs_shape h with⟨i,t,rfl,rfl⟩ | ⟨x,t,rfl,rfl⟩<;>rfl
 pyHash:=fun hv h=>by
  rcases keyIs_shape hv with⟨i,t,rfl,rfl⟩ | ⟨x,t,rfl,rfl⟩
  ·exact wpAny_pyHash_int h
  ·exact wpAny_pyHash_str h
 eqBool:=fun hu hv h=>by
  rcases keyIs_shape hu with⟨i,t,rfl,rfl⟩ | ⟨x,t,rfl,rfl⟩
  ·rcases keyIs_shape hv with⟨j,u,rfl,rfl⟩ | ⟨y,u,rfl,rfl⟩
   ·rw[key_ll] at h;exact wpAny_eqBool_int h
   ·rw[key_lr] at h;exact SeqAt.EqAt.int_str i t y u _ _ _ _ h
  ·rcases keyIs_shape hv with⟨j,u,rfl,rfl⟩ | ⟨y,u,rfl,rfl⟩
   ·rw[key_rl] at h;exact SeqAt.EqAt.str_int x t j u _ _ _ _ h
   ·rw[key_rr] at h;exact wpAny_eqBool_str h
 «strs»:=fun k x t v h=>by
  rcases keyIs_shape h with⟨i,u,rfl,e⟩ | ⟨y,u,rfl,e⟩
  ·exact nomatch e
  ·injection e with e1 _
   subst e1
   cases v<;>rfl
end L2
namespace L2
open PySem PySem.Spec PyProof.Rows
inductive V where
 | non | bl (b:Bool) | int (i:Int) | str (x:Str) | byt (b:Array UInt8) | flt (b:UInt64) | ref (a:Addr) | ty (n:String)
 deriving DecidableEq
def RelV:V→Value→Prop
 | .non,u=>u=Value.none
 | .bl b,u=>u=Value.bool b
 | .int i,u=>∃ t,u=Value.int i t
 | .str x,u=>∃ t,u=Value.str x t
 | .byt b,u=>∃ t,u=Value.bytes b t
 | .flt b,u=>∃ t,u=Value.float b t
 | .ref a,u=>u=Value.ref a
 | .ty n,u=>u=Value.type n
abbrev Vals:List V→List Value→Prop:=Paired RelV
theorem Vals.length{xs:List V}{us:List Value}(r:Vals xs us):xs.length=us.length:=Paired.length r
theorem Vals.get:∀{xs:List V} {us:List Value} {i:Nat} {x:V},Vals xs us→xs[i]? = some x→∃ u,us[i]? = some u∧RelV x u
 | _,_,_,_,.nil,e=>by simp at e
 | _,_,0,_,.cons r _,e=>by simp at e;subst e;exact⟨_,rfl,r⟩
 | _,_,i+1,x,.cons _ t,e=>by
  obtain⟨u,h1,h2⟩:=Vals.get (i:=i) (x:=x) t (by simpa using e)
  exact⟨u,by simpa using h1,h2⟩
theorem Vals.append:∀{xs ys:List V} {us ws:List Value},Vals xs us→Vals ys ws→Vals (xs++ys) (us++ws)
 | _,_,_,_,.nil,s=>s
 | _,_,_,_,.cons r t,s=>.cons r (Vals.append t s)
theorem Vals.take:∀{xs:List V} {us:List Value} (n:Nat),Vals xs us→Vals (xs.take n) (us.take n)
 | _,_,0,_=>.nil
 | _,_,_+1,.nil=>.nil
 | _,_,n+1,.cons r t=>.cons r (Vals.take n t)
theorem Vals.drop:∀{xs:List V} {us:List Value} (n:Nat),Vals xs us→Vals (xs.drop n) (us.drop n)
 | _,_,0,r=>r
 | _,_,_+1,.nil=>.nil
 | _,_,n+1,.cons _ t=>Vals.drop n t
def RelO:Option V→Option Value→Prop
 | some v,some u=>RelV v u
 | none,none=>True
 | _,_=>False
def KV{κ:Type}:List (κ×V)→List (κ×Value)→Prop:=Paired fun(p:κ×V) (q:κ×Value)=>p.1=q.1∧RelV p.2 q.2
def kV:Key→V
 | .inl i=>.int i
 | .inr x=>.str x
inductive HO where
 | lst (xs:List V)
 | tup (xs:List V)
 | dK (kvs:List (Key×V)) | dT (kvs:List (List Key×V))
 | set (S:Int→Bool) (n:Nat)
 | ins (C dx:Addr) (fs:List (Str×V))
 | own (x:Addr)
 | xd (fs:List (Str×V))
 | met (f x:Addr)
 | rng (lo hi:Int)
 | frz (o:Obj) (u:HO)
 | tbl (ps:Array Value)
 | ext (φ:Heap→Prop)
abbrev Hp:=Addr→Option HO
def upd(H:Hp)(a:Addr)(o:HO):Hp:=fun b=>if b=a then some o else H b
theorem upd_same{H:Hp}{a:Addr}{o:HO}:upd H a o a=some o:=by unfold upd;rw[if_pos rfl]
theorem upd_ne{H:Hp}{a b:Addr}{o:HO}(h:b≠a):upd H a o b=H b:=by unfold upd;rw[if_neg h]
theorem ne_of{H:Hp}{a b:Addr}{o u:HO}(h:H a=some o)(h':H b=some u)(d:o≠u):a≠b:=by
 intro e;subst e;rw[h] at h';exact d (Option.some.inj h')
theorem ne_of_none{H:Hp}{a b:Addr}{o:HO}(h:H a=some o)(h':H b=none):a≠b:=by
 intro e;subst e;rw[h] at h';cases h'
section
variable(P:Program)(w:World)
def ObjOk(H:Hp)(h:Heap)(a:Addr):HO→Prop
 | .lst xs=>xs.length≤sizeLine∧∃(its:List Value) (n:Nat),Vals xs its∧h.get? a=some { cls:=.type "list",data:=.seq its.toArray n }
 | .tup xs=>xs.length≤sizeLine∧∃ its:List Value,Vals xs its∧IsTup h a its.toArray
 | .dK kvs=>kvs.length≤sizeLine∧(a == sysModules)=false∧∃ vs,KV kvs vs∧h.DictOf (mixKind P w) a vs
 | .dT kvs=>kvs.length≤sizeLine∧(a == sysModules)=false∧∃ xs:List (List Key×Addr×Value),
   Paired (fun(p:List Key×V) (q:List Key×Addr×Value)=>p.1=q.1∧H q.2.1=some (.tup (p.1.map kV))∧RelV p.2 q.2.2) kvs xs ∧
   ∃ o es ep,h.get? a=some o∧o.ExactDict∧o.data = .dict es ep∧es.toList=xs.map (entryOfKey (tupleKind (mixKind P w)))∧(xs.map (·.1)).Nodup
 | .set S n=>h.SetOf (intKind P w) a S n
 | .ins C dx fs=>H dx=some (.own a)∧fs.length≤1000∧dx≠a∧h.get? a=some (PySem.W.instObj C dx) ∧
   ∃ mA,h.Ns1 dx mA∧(∀ f,RelO (fs.lookup f) (mA f))∧PySem.Within mA (fs.map (·.1))
 | .own _=>∃ o,h.get? a=some o
 | .xd fs=>∃ mA,h.Ns1 a mA∧∀ f,RelO (fs.lookup f) (mA f)
 | .rng lo hi=>∃ t u v,h.get? a=some { cls:=.type "range",data:=.fields #[.int lo t,.int hi u,.int 1 v] }
 | .frz o u=>h.get? a=some o∧ObjOk H h a u
 | .tbl ps=>h.get? a=some { cls:=.none,data:=.fields ps }
 | .met f x=>h.get? a=some (PySem.W.methodObj (.ref f) (.ref x))
 | .ext φ=>φ h∧(∃ o,h.get? a=some o)∧∀ h1 h2:Heap,φ h1→(∀ o,h1.get? a=some o→h2.get? a=some o)→φ h2
def HOk(H:Hp)(h:Heap):Prop:=∀ a o,H a=some o→ObjOk P w H h a o
end
section
variable{P:Program}{w:World}{H H':Hp}{h h':Heap}{a:Addr}{o:HO}
theorem ObjOk.lt(x:ObjOk P w H h a o):a < h.objs.size:=by
 cases o with
 | lst xs=>obtain⟨_,_,_,_,e⟩:=x;exact Heap.lt_size e
 | tup xs=>obtain⟨_,_,_,p⟩:=x;exact p.lt
 | dK kvs=>obtain⟨_,_,_,_,o,_,_,e,_⟩:=x;exact Heap.lt_size e
 | dT kvs=>obtain⟨_,_,_,_,o,_,_,e,_⟩:=x;exact Heap.lt_size e
 | set S n=>obtain⟨o,_,_,_,e,_⟩:=x;exact Heap.lt_size e
 | ins C dx fs=>obtain⟨_,_,_,e,_⟩:=x;exact Heap.lt_size e
 | own y=>obtain⟨_,e⟩:=x;exact Heap.lt_size e
 | xd fs=>obtain⟨_,⟨_,_,_,e,_⟩,_⟩:=x;exact Heap.lt_size e
 | rng lo hi=>obtain⟨_,_,_,e⟩:=x;exact Heap.lt_size e
 | frz ob u=>obtain⟨e,_⟩:=x;exact Heap.lt_size e
 | tbl ps=>exact Heap.lt_size (show h.get? a=some _ from x)
 | met f y=>exact Heap.lt_size (show h.get? a=some _ from x)
 | ext φ=>obtain⟨_,⟨_,e⟩,_⟩:=x;exact Heap.lt_size e
theorem Paired.mapP{α β:Type}{F G:α→β→Prop}:∀{l₁:List α} {l₂:List β},Paired F l₁ l₂→(∀ a b,F a b→G a b)→Paired G l₁ l₂
 | _,_,.nil,_=>.nil
 | _,_,.cons r t,f=>.cons (f _ _ r) (Paired.mapP t f)
theorem ObjOk.stay(x:ObjOk P w H h a o)(k:∀ b u,(b=a∨H b=some (.own a))→h.get? b=some u→h'.get? b=some u)
  (ho:∀ b,H b=some (.own a)→H' b=some (.own a)) (ht:∀ b xs,H b=some (.tup xs)→H' b=some (.tup xs)):ObjOk P w H' h' a o:=by
 induction o with
 | lst xs=>obtain⟨z,its,n,r,e⟩:=x;exact⟨z,its,n,r,k _ _ (.inl rfl) e⟩
 | tup xs=>obtain⟨z,its,r,ob,e,c⟩:=x;exact⟨z,its,r,ob,k _ _ (.inl rfl) e,c⟩
 | dK kvs=>obtain⟨z,y,vs,r,ob,es,ep,e,c⟩:=x;exact⟨z,y,vs,r,ob,es,ep,k _ _ (.inl rfl) e,c⟩
 | dT kvs=>
  obtain⟨z,y,xs,r,ob,es,ep,e,c⟩:=x
  exact⟨z,y,xs,Paired.mapP r fun p q z=>⟨z.1,ht _ _ z.2.1,z.2.2⟩,ob,es,ep,k _ _ (.inl rfl) e,c⟩
 | set S n=>obtain⟨ob,es,ep,t,e,c⟩:=x;exact⟨ob,es,ep,t,k _ _ (.inl rfl) e,c⟩
 | ins C dx fs=>
  obtain⟨d,z,ne,e,mA,⟨od,es,ep,e2,c⟩,r⟩:=x
  exact⟨ho _ d,z,ne,k _ _ (.inl rfl) e,mA,⟨od,es,ep,k _ _ (.inr d) e2,c⟩,r⟩
 | own y=>obtain⟨ob,e⟩:=x;exact⟨ob,k _ _ (.inl rfl) e⟩
 | xd fs=>obtain⟨mA,⟨od,es,ep,e,c⟩,r⟩:=x;exact⟨mA,⟨od,es,ep,k _ _ (.inl rfl) e,c⟩,r⟩
 | rng lo hi=>obtain⟨t,u,v,e⟩:=x;exact⟨t,u,v,k _ _ (.inl rfl) e⟩
 | frz ob u ih=>obtain⟨e,q⟩:=x;exact⟨k _ _ (.inl rfl) e,ih q⟩
 | tbl ps=>
  have e:h.get? a=some { cls:=.none,data:=.fields ps }:=x
  show h'.get? a=some { cls:=.none,data:=.fields ps }
  exact k a _ (.inl rfl) e
 | met f y=>
  have e:h.get? a=some (PySem.W.methodObj (.ref f) (.ref y)):=x
  show h'.get? a=some (PySem.W.methodObj (.ref f) (.ref y))
  exact k a _ (.inl rfl) e
 | ext φ=>obtain⟨p,⟨o,e⟩,st⟩:=x;exact⟨st _ _ p fun o q=>k _ _ (.inl rfl) q,⟨o,k _ _ (.inl rfl) e⟩,st⟩
theorem HOk.lt(x:HOk P w H h)(e:H a=some o):a < h.objs.size:=(x a o e).lt
theorem HOk.fresh(x:HOk P w H h)(e:h.objs.size≤a):H a=none:=by
 cases q:H a with
 | none=>rfl
 | some u=>exact absurd (Nat.lt_of_lt_of_le (x.lt q) e) (Nat.lt_irrefl _)
theorem HOk.kept(x:HOk P w H h)(k:∀ b u,h.get? b=some u→h'.get? b=some u):HOk P w H h':=fun a o e=>
 (x a o e).stay (fun b u _ q=>k b u q) (fun _ q=>q) fun _ _ q=>q
theorem HOk.laid(x:HOk P w H h)(k:∀ b u,h.get? b=some u→h'.get? b=some u)(hp:h.objs.size≤a)(new:ObjOk P w (upd H a o) h' a o):HOk P w (upd H a o) h':=fun b u e=>by
 have hn:=x.fresh hp
 by_cases hb:b=a
 ·subst hb;rw[upd_same] at e;cases e;exact new
 ·rw[upd_ne hb] at e
  exact(x b u e).stay (fun c v _ q=>k c v q) (fun c q=>by rw[upd_ne (ne_of_none q hn)];exact q) fun c xs q=>by rw[upd_ne (ne_of_none q hn)];exact q
end
def Rd(H:Hp)(a:Addr)(u:HO):Prop:=H a=some u∨∃ o,H a=some (.frz o u)
theorem Rd.ok{P:Program}{w:World}{H:Hp}{h:Heap}{a:Addr}{u:HO}(r:Rd H a u)(x:HOk P w H h):ObjOk P w H h a u:=by
 rcases r with r | ⟨o,r⟩
 ·exact x a u r
 ·obtain⟨_,q⟩:=x a _ r
  exact q
def Mut:Option HO→Prop
 | some (.lst _)=>True
 | some (.dK _)=>True
 | some (.dT _)=>True
 | some (.set _ _)=>True
 | some (.ins _ _ _)=>True
 | some (.ext _)=>True
 | _=>False
section
variable{P:Program}{w:World}{H:Hp}{h h':Heap}{x e:Addr}{o':HO}
theorem HOk.write(ok:HOk P w H h)(mu:Mut (H x))(he:e=x∨H e=some (.own x))(k:∀ b u,b≠e→h.get? b=some u→h'.get? b=some u)(heo:∃ u,h'.get? e=some u)
  (new:ObjOk P w (upd H x o') h' x o'):HOk P w (upd H x o') h':=fun b u q=>by
 have nown:∀ c y,H c=some (.own y)→c≠x:=fun c y r z=>by subst z;rw[r] at mu;exact mu
 have ntup:∀ c xs,H c=some (.tup xs)→c≠x:=fun c xs r z=>by subst z;rw[r] at mu;exact mu
 by_cases hb:b=x
 ·subst hb;rw[upd_same] at q;cases q;exact new
 ·rw[upd_ne hb] at q
  by_cases hbe:b=e
  ·have q':H b=some (.own x):=by
    rcases he with z | z
    ·exact absurd (hbe.trans z) hb
    ·rw[hbe];exact z
   rw[q] at q';cases q'
   obtain⟨v,hv⟩:=heo
   exact⟨v,by rw[hbe];exact hv⟩
  ·refine(ok b u q).stay (fun c v hc r=>k c v ?_ r) (fun c r=>by rw[upd_ne (nown c b r)];exact r) fun c xs r=>by rw[upd_ne (ntup c xs r)];exact r
   rcases hc with rfl | hc
   ·exact hbe
   ·rintro rfl
    rcases he with z | z
    ·exact nown c b hc z
    ·rw[hc] at z;cases z;exact hb rfl
end
structure Un(fs ex:List Addr)(H H':Hp)(h h':Heap):Prop where
 keep:∀ b o,h.get? b=some o→H b=none→b∉fs→b∉ex→h'.get? b=some o
 slot:∀ b o,h.get? b=some o→H b=none→b∈fs→b∉ex→∃ sl,h'.get? b=some { o with slots:=sl }
 free:∀ b o,h.get? b=some o→H b=none→b∉ex→H' b=none
 there:∀ b o,h.get? b=some o→b∉ex→∃ o',h'.get? b=some o'
 tups:∀ b xs,H b=some (.tup xs)→H' b=some (.tup xs)
 frzs:∀ b o u,H b=some (.frz o u)→H' b=some (.frz o u)
 tbls:∀ b ps,H b=some (.tbl ps)→∃ more,H' b=some (.tbl (ps++more))
section
variable{fs fs' ex ex':List Addr}{H H1 H2:Hp}{h h1 h2 h':Heap}{a x e:Addr}{o:HO}
theorem Un.any(u:Un fs ex H H1 h h1){b:Addr}{ob:Obj}(q:h.get? b=some ob)(n:H b=none)(hx:b∉ex):∃ sl,h1.get? b=some { ob with slots:=sl }:=by
 by_cases hb:b∈fs
 ·exact u.slot b ob q n hb hx
 ·exact⟨ob.slots,u.keep b ob q n hb hx⟩
theorem Un.kept(k:∀ b u,h.get? b=some u→h'.get? b=some u):Un fs ex H H h h':=
 ⟨fun b ob q _ _ _=>k b ob q,fun b ob q _ _ _=>⟨ob.slots,k b ob q⟩,fun _ _ _ n _=>n,fun b ob q _=>⟨ob,k b ob q⟩,fun _ _ q=>q,fun _ _ _ q=>q,fun _ ps q=>⟨#[],by rw[q];simp⟩⟩
theorem Un.refl:Un fs ex H H h h:=Un.kept fun _ _ q=>q
theorem Un.laid(k:∀ b u,h.get? b=some u→h'.get? b=some u)(hp:h.objs.size≤a)(hn:H a=none):Un fs ex H (upd H a o) h h' where
 keep:=fun b u q _ _ _=>k b u q
 slot:=fun b u q _ _ _=>⟨u.slots,k b u q⟩
 free:=fun b u q n _=>by rw[upd_ne (Nat.ne_of_lt (Nat.lt_of_lt_of_le (Heap.lt_size q) hp))];exact n
 there:=fun b u q _=>⟨u,k b u q⟩
 tups:=fun b xs q=>by rw[upd_ne (ne_of_none q hn)];exact q
 frzs:=fun b u xs q=>by rw[upd_ne (ne_of_none q hn)];exact q
 tbls:=fun b ps q=>⟨#[],by rw[upd_ne (ne_of_none q hn),q];simp⟩
theorem Un.write(mu:Mut (H x))(he:e=x∨H e=some (.own x))(k:∀ b u,b≠e→h.get? b=some u→h'.get? b=some u)(heo:∃ u,h'.get? e=some u):Un fs ex H (upd H x o) h h':=by
 have hx:∀ b,H b=none→b≠x:=fun b n z=>by subst z;rw[n] at mu;exact mu
 have hb:∀ b,H b=none→b≠e:=fun b n z=>by
  subst z
  rcases he with r | r
  ·exact hx b n r
  ·rw[n] at r;cases r
 have hm:∀ b u,H b=some u→¬ Mut (some u)→b≠x:=fun b u q nm z=>by subst z;rw[q] at mu;exact nm mu
 refine⟨fun b u q n _ _=>k b u (hb b n) q,fun b u q n _ _=>⟨u.slots,k b u (hb b n) q⟩,fun b u q n _=>by rw[upd_ne (hx b n)];exact n,fun b u q _=>?_,
  fun b xs q=>by rw[upd_ne (hm b _ q fun z=>z)];exact q,fun b u xs q=>by rw[upd_ne (hm b _ q fun z=>z)];exact q,fun b ps q=>⟨#[],by rw[upd_ne (hm b _ q fun z=>z),q];simp⟩⟩
 by_cases hbe:b=e
 ·subst hbe;exact heo
 ·exact⟨u,k b u hbe q⟩
end
def trk(h:Heap)(H:Hp):List Addr:=(List.range h.objs.size).filter fun a=>(H a).isSome
def hidT(h:Heap)(H:Hp):Heap:=PySem.W.hideAll h (trk h H)
theorem hidT_size(h:Heap)(H:Hp):(hidT h H).objs.size=h.objs.size:=PySem.W.hideAll_size _ _
theorem hidT_get{h:Heap}{H:Hp}{b:Addr}{o:Obj}(e:h.get? b=some o)(n:H b=none):(hidT h H).get? b=some o:=
 PySem.W.hideAll_get _ e fun hm=>by
  have q:(H b).isSome=true:=(List.mem_filter.mp hm).2
  rw[n] at q;simp at q
theorem of_hidT{h:Heap}{H:Hp}{b:Addr}{o:Obj}(e:(hidT h H).get? b=some o):h.get? b=some o∧H b=none:=by
 have e':h.get? b=some o:=PySem.W.of_hideAll (trk h H) e
 refine⟨e',?_⟩
 cases q:H b with
 | none=>rfl
 | some x=>
  have hm:b∈trk h H:=List.mem_filter.mpr ⟨List.mem_range.mpr (Heap.lt_size e'),by simp [q]⟩
  have z:(hidT h H).get? b=none:=PySem.W.hideAll_none (trk h H) hm
  rw[z] at e;cases e
def allNews(g h:Heap)(L:Addr):List (Addr×Obj):=(List.range h.objs.size).filterMap fun a=>if a=L∨(g.get? a).isSome=true then none else(h.get? a).map fun o=>(a,o)
def rest(g h:Heap)(L d:Addr):List (Addr×Obj):=(allNews g h L).filter fun p=>decide (p.1≠d)
end L2
namespace L2
open PySem PySem.Spec PyProof.Rows
structure Mod(K:PySem.W.Frag)(mg:Str→Option Value)(base:Heap):Prop where
 kin:K.In base
 glob:base.Ns mainGlobals mg
 blt:∃ mb,base.Ns builtinsNs mb∧∀ x:Str,x≠"__name__"→mb x=bootBuiltins x
 nolimit:base.NoLimit
structure Cx where
 prog:Program
 w:World
 K:PySem.W.Frag
 mg:Str→Option Value
 base:Heap
 A:Around
 N:List Str
 s₀:Shared
 H₀:Hp
 env:Env
 outer:List Env
 stack:List Env
 ex:List Addr
 fn:Str→Bool
 calm:Bool
 pn:List (Addr×Obj)
 xe:Value→Shared→Prop
def frs(l:List Env):List Addr:=l.filterMap (·.frame)
abbrev Cx.fs(X:Cx):List Addr:=frs X.outer
def Vis(sc:Scope)(x:Str):Prop:=sc.names.lookup x=some .local∨sc.names.lookup x=some .cell∨sc.names.lookup x=some .free
def Loc(sc:Scope)(x:Str):Prop:=sc.names.lookup x=some .local∨sc.names.lookup x=some .cell
def Look(env:Env)(h:Heap)(m:Str→Option Value)(x:Str)(u:Value):Prop:=
 (env.kindOf x=some .local∧m x=some u)∨((env.kindOf x=some .cell∨env.kindOf x=some .free)∧∃ c,env.cells.lookup x=some c∧h.IsCell c (some u))
structure Cx.Ok(X:Cx):Prop where
 mod:Mod X.K X.mg X.base
 kind:X.env.scope.kind = .function
 glob:X.env.globals=mainGlobals
 blt:X.env.builtins=builtinsNs
 above:X.s₀.heap.objs.size≤X.env.locals
 inj:∀ x y c,X.env.cells.lookup x=some c→X.env.cells.lookup y=some c→x=y
 has:∀ x,(X.env.kindOf x=some .cell∨X.env.kindOf x=some .free)→∃ c,X.env.cells.lookup x=some c
 cab:∀ x c,X.fn x=true→X.env.cells.lookup x=some c→X.s₀.heap.objs.size≤c
 hd:X.calm=true→X.A.handled=none
 frames:X.A.frames=some X.stack
 stk:X.stack=X.outer∨(X.stack=X.env :: X.outer∧X.env.frame=some X.env.locals)
 exf:∀ b∈X.ex,b≠X.env.locals∧∀ x c,X.env.cells.lookup x=some c→c≠b
 bs:∀ b o,X.base.get? b=some o→X.s₀.heap.get? b=some o∧X.H₀ b=none
 bsz:X.base.objs.size≤X.s₀.heap.objs.size
 noex:∀ b o,X.base.get? b=some o→b∉X.ex
 exfs:∀ b∈X.ex,b∉X.fs
 funs:X.s₀.heap.FunFrames X.base X.outer
 frf:∀ b∈X.fs,X.H₀ b=none
structure Inv(X:Cx)(pins:List (Addr×Obj))(σ:List (Option V))(H:Hp)(s:Shared):Prop where
 ok:X.Ok
 os:s.os=X.s₀.os
 bare:AllBare s.gens
 base:Un X.fs X.ex X.H₀ H X.s₀.heap s.heap
 loc:∃ m,s.heap.Ns X.env.locals m∧∀(i:Nat) (x:Str) (v:V),X.N[i]? = some x→σ[i]? = some (some v)→Vis X.env.scope x→∃ u,RelV v u∧Look X.env s.heap m x u
 cell:∀ x c,X.env.cells.lookup x=some c→∃ v,s.heap.IsCell c v
 free:H X.env.locals=none
 freeC:∀ x c,X.env.cells.lookup x=some c→H c=none
 pin:∀ p∈X.pn++pins,s.heap.get? p.1=some p.2∧H p.1=none∧p.1≠X.env.locals∧p.1∉X.fs∧∀ v,p.2.data ≠ .cell v
 hok:HOk X.prog X.w H s.heap
 len:σ.length=X.N.length
section
variable{X:Cx}{pins:List (Addr×Obj)}{σ:List (Option V)}{H H':Hp}{s:Shared}{h':Heap}
theorem Cx.Ok.nofr(ok:X.Ok){b:Addr}{o:Obj}(e:X.base.get? b=some o):b∉X.fs:=fun hb=>by
 have:=(ok.funs.mem hb).1
 rw[e] at this;cases this
theorem Inv.bs(I:Inv X pins σ H s):∀ b o,X.base.get? b=some o→s.heap.get? b=some o∧H b=none:=fun b o e=>
 ⟨I.base.keep b o (I.ok.bs b o e).1 (I.ok.bs b o e).2 (I.ok.nofr e) (I.ok.noex b o e),I.base.free b o (I.ok.bs b o e).1 (I.ok.bs b o e).2 (I.ok.noex b o e)⟩
theorem Inv.bk(I:Inv X pins σ H s):∀ b o,X.base.get? b=some o→s.heap.get? b=some o:=fun b o e=>(I.bs b o e).1
theorem Inv.mod(I:Inv X pins σ H s):Mod X.K X.mg X.base:=I.ok.mod
theorem Inv.kIn(I:Inv X pins σ H s):X.K.In s.heap:=I.ok.mod.kin.keeps I.bk
theorem Inv.lt(I:Inv X pins σ H s):X.env.locals < s.heap.objs.size:=let ⟨_,hn,_⟩:=I.loc;hn.lt
theorem Inv.sz(I:Inv X pins σ H s):X.s₀.heap.objs.size≤s.heap.objs.size:=Nat.le_trans I.ok.above (Nat.le_of_lt I.lt)
theorem Inv.nofs(I:Inv X pins σ H s){a:Addr}(h:s.heap.objs.size≤a):a∉X.fs:=fun hb=>by
 obtain⟨_,o,ho,_⟩:=I.ok.funs.mem hb
 exact absurd (Nat.lt_of_lt_of_le (Heap.lt_size ho) (Nat.le_trans I.sz h)) (Nat.lt_irrefl _)
theorem Inv.cne(I:Inv X pins σ H s):∀ x c,X.env.cells.lookup x=some c→c≠X.env.locals:=fun x c e z=>by
 obtain⟨v,o,ho,hd⟩:=I.cell x c e
 obtain⟨m,⟨o',es,ep,ho',hd',_⟩,_⟩:=I.loc
 rw[z,ho'] at ho;cases ho;rw[hd'] at hd;cases hd
theorem Inv.funs(I:Inv X pins σ H s):s.heap.FunFrames X.base X.outer:=by
 have all:∀(l:List Env),(∀ b∈frs l,b∈X.fs)→X.s₀.heap.FunFrames X.base l→s.heap.FunFrames X.base l:=by
  intro l
  induction l with
  | nil=>intro _ _;trivial
  | cons env r ih=>
   intro hs hl
   obtain⟨hk,⟨L,o,hf,hn,ho,hd⟩,hr⟩:=hl
   have hL:L∈X.fs:=hs L (by unfold frs;rw[List.filterMap_cons,hf];exact List.mem_cons_self)
   obtain⟨sl,e⟩:=I.base.slot L o ho (I.ok.frf L hL) hL fun z=>I.ok.exfs L z hL
   exact⟨hk,⟨L,_,hf,hn,e,hd⟩,ih (fun b hb=>hs b (by unfold frs;rw[List.filterMap_cons,hf];exact List.mem_cons_of_mem _ hb)) hr⟩
 exact all X.outer (fun _ hb=>hb) I.ok.funs
theorem Inv.stack(I:Inv X pins σ H s):s.heap.FunFrames X.base X.stack:=by
 rcases I.ok.stk with e | ⟨e,hf⟩
 ·rw[e];exact I.funs
 ·rw[e]
  obtain⟨m,hn,_⟩:=I.loc
  refine .cons (by rw[I.ok.kind];decide) hf hn ?_ I.funs
  exact Heap.get?_none_of_le (Nat.le_trans I.ok.bsz I.ok.above)
theorem Inv.stkSub(I:Inv X pins σ H s):∀ b∈frs X.stack,b∈X.env.locals :: X.fs:=fun b hb=>by
 rcases I.ok.stk with e | ⟨e,hf⟩
 ·rw[e] at hb;exact List.mem_cons_of_mem _ hb
 ·rw[e] at hb
  unfold frs at hb
  rw[List.filterMap_cons,hf] at hb
  exact hb
theorem Inv.stkFree(I:Inv X pins σ H s):∀ b∈frs X.stack,H b=none:=fun b hb=>by
 rcases List.mem_cons.mp (I.stkSub b hb) with e | hb
 ·rw[e];exact I.free
 ·obtain⟨_,o,ho,_⟩:=I.ok.funs.mem hb
  exact I.base.free b o ho (I.ok.frf b hb) fun z=>I.ok.exfs b z hb
theorem Inv.step{g':Array GenState}{t':Nat}{d':Drawn}{ch:List Addr}(I:Inv X pins σ H s)
  (hch:∀ b∈ch,(b∈X.ex∨X.s₀.heap.objs.size≤b)∧b≠X.env.locals∧(∀ x c,X.env.cells.lookup x=some c→c≠b)∧∀ p∈X.pn++pins,p.1≠b)
  (keep:∀ b o,b≠X.env.locals→b∉X.fs→b∉ch→s.heap.get? b=some o→H b=none→h'.get? b=some o)
  (slot:∀ b o,b≠X.env.locals→b∈X.fs→b∉ch→s.heap.get? b=some o→H b=none→∃ sl,h'.get? b=some { o with slots:=sl }) (free:∀ b o,b∉ch→s.heap.get? b=some o→H b=none→H' b=none)
  (there:∀ b o,b∉ch→s.heap.get? b=some o→∃ o',h'.get? b=some o')
  (tups:∀ b xs,H b=some (.tup xs)→H' b=some (.tup xs)) (frzs:∀ b o u,H b=some (.frz o u)→H' b=some (.frz o u)) (tbls:∀ b ps,H b=some (.tbl ps)→∃ more,H' b=some (.tbl (ps++more)))
  (ns:∀ m,s.heap.Ns X.env.locals m→h'.Ns X.env.locals m) (hok:HOk X.prog X.w H' h') (hg:AllBare g') :
  Inv X pins σ H' { s with heap:=h',gens:=g',drawn:=d',toks:=t' }:=by
 have neL:∀ b o,X.s₀.heap.get? b=some o→b≠X.env.locals:=fun b o e=>Nat.ne_of_lt (Nat.lt_of_lt_of_le (Heap.lt_size e) I.ok.above)
 have neC:∀ b o,X.s₀.heap.get? b=some o→b∉X.ex→b∉ch:=fun b o e hx hb=>by
  rcases(hch b hb).1 with z | z
  ·exact hx z
  ·exact absurd (Nat.lt_of_lt_of_le (Heap.lt_size e) z) (Nat.lt_irrefl _)
 have cellK:∀ x c,X.env.cells.lookup x=some c→∀ v,s.heap.IsCell c v→h'.IsCell c v:=fun x c e v ⟨o,ho,hd⟩=>by
  have nch:c∉ch:=fun z=>(hch c z).2.2.1 x c e rfl
  by_cases hc:c∈X.fs
  ·obtain⟨sl,q⟩:=slot c o (I.cne x c e) hc nch ho (I.freeC x c e)
   exact⟨_,q,hd⟩
  ·exact⟨o,keep c o (I.cne x c e) hc nch ho (I.freeC x c e),hd⟩
 refine⟨I.ok,I.os,hg,⟨fun b o e n hb hx=>?_,fun b o e n hb hx=>?_,fun b o e n hx=>?_,fun b o e hx=>?_,fun b xs e=>tups b xs (I.base.tups b xs e),fun b o xs e=>frzs b o xs (I.base.frzs b o xs e),fun b ps e=>?_⟩,?_,fun x c e=>?_,?_,fun x c e=>?_,fun p hp=>?_,hok,I.len⟩
 ·exact keep b o (neL b o e) hb (neC b o e hx) (I.base.keep b o e n hb hx) (I.base.free b o e n hx)
 ·obtain⟨sl,e1⟩:=I.base.slot b o e n hb hx
  obtain⟨sl',e2⟩:=slot b _ (neL b o e) hb (neC b o e hx) e1 (I.base.free b o e n hx)
  exact⟨sl',e2⟩
 ·obtain⟨o',e1⟩:=I.base.there b o e hx
  exact free b o' (neC b o e hx) e1 (I.base.free b o e n hx)
 ·obtain⟨o',e1⟩:=I.base.there b o e hx
  exact there b o' (neC b o e hx) e1
 ·obtain⟨m1,e1⟩:=I.base.tbls b ps e
  obtain⟨m2,e2⟩:=tbls b _ e1
  exact⟨m1++m2,by rw[e2,Array.append_assoc]⟩
 ·obtain⟨m,hn,hl⟩:=I.loc
  refine⟨m,ns m hn,fun i x v e1 e2 e3=>?_⟩
  obtain⟨u,r,l⟩:=hl i x v e1 e2 e3
  refine⟨u,r,?_⟩
  rcases l with l | ⟨k,c,e,z⟩
  ·exact .inl l
  ·exact .inr ⟨k,c,e,cellK x c e _ z⟩
 ·obtain⟨v,z⟩:=I.cell x c e
  exact⟨v,cellK x c e v z⟩
 ·obtain⟨m,⟨o,_,_,ho,_⟩,_⟩:=I.loc
  exact free _ o (fun z=>(hch _ z).2.1 rfl) ho I.free
 ·obtain⟨v,o,ho,hd⟩:=I.cell x c e
  exact free c o (fun z=>(hch c z).2.2.1 x c e rfl) ho (I.freeC x c e)
 ·obtain⟨e,n,ne,nf,d⟩:=I.pin p hp
  have nch:p.1∉ch:=fun z=>(hch p.1 z).2.2.2 p hp rfl
  exact⟨keep p.1 p.2 ne nf nch e n,free p.1 p.2 nch e n,ne,nf,d⟩
theorem Inv.un{t':Nat}(I:Inv X pins σ H s)(u:Un X.fs [] H H' s.heap h')(hok:HOk X.prog X.w H' h'):Inv X pins σ H' { s with heap:=h',toks:=t' }:=by
 obtain⟨m,⟨o,es,ep,ho,r⟩,_⟩:=id I.loc
 obtain⟨sl,hL⟩:=u.any ho I.free (by simp)
 exact I.step (g':=s.gens) (d':=s.drawn) (ch:=[]) (fun _ z=>nomatch z) (fun b o _ hb _ e n=>u.keep b o e n hb (by simp)) (fun b o _ hb _ e n=>u.slot b o e n hb (by simp)) (fun b o _ e n=>u.free b o e n (by simp)) (fun b o _ e=>u.there b o e (by simp)) u.tups u.frzs u.tbls (fun m' hm=>by
  obtain⟨o',es',ep',ho',r'⟩:=hm
  rw[ho] at ho';cases ho'
  exact⟨_,es',ep',hL,r'⟩) hok I.bare
theorem Inv.call{g':Array GenState}{t':Nat}{d':Drawn}{ch:List Addr}(I:Inv X pins σ H s)(u:Un (frs X.stack) ch H H' s.heap h')(hok:HOk X.prog X.w H' h')(hg:AllBare g')
  (hch:∀ b∈ch,(b∈X.ex∨X.s₀.heap.objs.size≤b)∧b≠X.env.locals∧(∀ x c,X.env.cells.lookup x=some c→c≠b)∧∀ p∈X.pn++pins,p.1≠b) :
  Inv X pins σ H' { s with heap:=h',gens:=g',drawn:=d',toks:=t' }:=by
 obtain⟨m,⟨o,es,ep,ho,r⟩,_⟩:=id I.loc
 obtain⟨sl,hL⟩:=u.any ho I.free fun z=>(hch _ z).2.1 rfl
 exact I.step (ch:=ch) hch (fun b o hL hb hc e n=>u.keep b o e n (fun z=>(List.mem_cons.mp (I.stkSub b z)).elim hL hb) hc) (fun b o _ _ hc e n=>u.any e n hc) (fun b o hc e n=>u.free b o e n hc) (fun b o hc e=>u.there b o e hc) u.tups u.frzs u.tbls (fun m' hm=>by
  obtain⟨o',es',ep',ho',r'⟩:=hm
  rw[ho] at ho';cases ho'
  exact⟨_,es',ep',hL,r'⟩) hok hg
theorem Inv.turned{t':Nat}{it:Addr}(I:Inv X pins σ H s)(k:∀ b o,b≠it→s.heap.get? b=some o→h'.get? b=some o)(hn:H it=none)(hL:it≠X.env.locals)
  (h1:it∈X.ex∨X.s₀.heap.objs.size≤it) (h2:∀ x c,X.env.cells.lookup x=some c→c≠it) (h3:∀ p∈X.pn++pins,p.1≠it):Inv X pins σ H { s with heap:=h',toks:=t' }:=by
 have nit:∀ b u,H b=some u→b≠it:=fun b u e z=>by rw[z,hn] at e;cases e
 refine I.step (g':=s.gens) (d':=s.drawn) (ch:=[it]) (fun b hb=>?_) (fun b o _ _ hc e _=>k b o (fun z=>hc (by simp [z])) e) (fun b o _ _ hc e _=>⟨o.slots,k b o (fun z=>hc (by simp [z])) e⟩) (fun _ _ _ _ n=>n)
  (fun b o hc e=>⟨o,k b o (fun z=>hc (by simp [z])) e⟩) (fun _ _ e=>e) (fun _ _ _ e=>e) (fun b ps e=>⟨#[],by rw[e];simp⟩) (fun m hm=>?_) (fun b u e=>?_) I.bare
 ·have e:b=it:=by simpa using hb
  subst e
  exact⟨h1,hL,h2,h3⟩
 ·obtain⟨o,es,ep,ho,r⟩:=hm
  exact⟨o,es,ep,k _ o (Ne.symm hL) ho,r⟩
 ·refine(I.hok b u e).stay (fun c v hc q=>k c v ?_ q) (fun _ q=>q) fun _ _ q=>q
  rcases hc with z | z
  ·rw[z];exact nit b u e
  ·exact nit c _ z
theorem Inv.tok(I:Inv X pins σ H s)(t:Nat):Inv X pins σ H { s with toks:=t }:=I.un (h':=s.heap) (t':=t) Un.refl I.hok
theorem Inv.kept{t':Nat}(I:Inv X pins σ H s)(k:∀ b u,s.heap.get? b=some u→h'.get? b=some u):Inv X pins σ H { s with heap:=h',toks:=t' }:=I.un (Un.kept k) (I.hok.kept k)
theorem Inv.laid{a:Addr}{o:HO}{t':Nat}(I:Inv X pins σ H s)(k:∀ b u,s.heap.get? b=some u→h'.get? b=some u)(hp:s.heap.objs.size≤a)(new:ObjOk X.prog X.w (upd H a o) h' a o) :
  Inv X pins σ (upd H a o) { s with heap:=h',toks:=t' }:=I.un (Un.laid k hp (I.hok.fresh hp)) (I.hok.laid k hp new)
theorem Inv.write{x e:Addr}{o:HO}{t':Nat}(I:Inv X pins σ H s)(mu:Mut (H x))(he:e=x∨H e=some (.own x))(k:∀ b u,b≠e→s.heap.get? b=some u→h'.get? b=some u)(heo:∃ u,h'.get? e=some u)
  (new:ObjOk X.prog X.w (upd H x o) h' x o):Inv X pins σ (upd H x o) { s with heap:=h',toks:=t' }:=I.un (Un.write mu he k heo) (I.hok.write mu he k heo new)
theorem Inv.pins_of{pins':List (Addr×Obj)}(I:Inv X pins σ H s)(h:∀ p∈pins',s.heap.get? p.1=some p.2∧H p.1=none∧p.1≠X.env.locals∧p.1∉X.fs∧∀ v,p.2.data ≠ .cell v):Inv X pins' σ H s:=
 ⟨I.ok,I.os,I.bare,I.base,I.loc,I.cell,I.free,I.freeC,fun p hp=>(List.mem_append.mp hp).elim (fun z=>I.pin p (List.mem_append_left _ z)) (h p),I.hok,I.len⟩
theorem nodup_ix{N:List Str}(hN:N.Nodup){i j:Nat}{x:Str}(a:N[i]? = some x)(b:N[j]? = some x):i=j:=by
 obtain⟨h1,e1⟩:=List.getElem?_eq_some_iff.mp a
 obtain⟨h2,e2⟩:=List.getElem?_eq_some_iff.mp b
 exact(List.getElem_inj hN).mp (e1.trans e2.symm)
theorem store_ok2{M:Model}{A:Around}{E:Value→Shared→Prop}{i:Nat}{x:Str}{v:V}{u:Value}{Q:Unit→Shared→Prop}(I:Inv X pins σ H s)(hN:X.N.Nodup)(hi:X.N[i]? = some x)(hx:Loc X.env.scope x)(r:RelV v u)
  (h:∀ s',Inv X pins (σ.set i (some v)) H s'→(∃ a,Heap.SameBut a s.heap s'.heap∧(a=X.env.locals∨X.env.cells.lookup x=some a))→Q () s') (hf:X.fn x=true∨X.env.scope.names.lookup x=some .local:=by first | exact .inl rfl | exact .inr rfl | assumption):wpAny M A (storeName X.env x u) Q E s:=by
 obtain⟨m,hn,hl⟩:=id I.loc
 have hcls:(X.env.scope.kind == .class || (X.env.scope.kind == .module && X.env.locals != X.env.globals))=false:=by rw[I.ok.kind];rfl
 have hiσ:i < σ.length:=by rw[I.len];exact(List.getElem?_eq_some_iff.mp hi).1
 have cne:=I.cne
 have tracked:∀{a:Addr} {h':Heap},(∃ o,s.heap.get? a=some o∧H a=none)→Heap.SameBut a s.heap h'→HOk X.prog X.w H h':=fun {a h'} ha hs b ob e=>by
  obtain⟨_,_,hfree⟩:=ha
  refine(I.hok b ob e).stay (fun c w' hc q=>(hs.2 c ?_).trans q) (fun _ q=>q) fun _ _ q=>q
  rintro rfl
  rcases hc with rfl | hc
  ·rw[hfree] at e;cases e
  ·rw[hfree] at hc;cases hc
 rcases hx with hk | hk
 ·refine wpAny_storeName_local hk hn (fun h' hn' hs=>?_) hcls
  obtain⟨oL,_,_,hoL,_⟩:=id hn
  refine h _ ⟨I.ok,I.os,I.bare,⟨fun b o e n hb hx=>?_,fun b o e n hb hx=>?_,I.base.free,fun b o e hx=>?_,I.base.tups,I.base.frzs,I.base.tbls⟩,⟨_,hn',fun j y v' e1 e2 e3=>?_⟩,fun y c e=>?_,I.free,I.freeC,fun p hp=>?_,tracked ⟨oL,hoL,I.free⟩ hs,by simpa using I.len⟩ ⟨_,hs,.inl rfl⟩
  ·exact(hs.2 b (Nat.ne_of_lt (Nat.lt_of_lt_of_le (Heap.lt_size e) I.ok.above))).trans (I.base.keep b o e n hb hx)
  ·obtain⟨sl,e1⟩:=I.base.slot b o e n hb hx
   exact⟨sl,(hs.2 b (Nat.ne_of_lt (Nat.lt_of_lt_of_le (Heap.lt_size e) I.ok.above))).trans e1⟩
  ·obtain⟨o',e1⟩:=I.base.there b o e hx
   exact⟨o',(hs.2 b (Nat.ne_of_lt (Nat.lt_of_lt_of_le (Heap.lt_size e) I.ok.above))).trans e1⟩
  ·by_cases hj:j=i
   ·subst hj
    rw[hi] at e1;cases e1
    rw[List.getElem?_set_self hiσ] at e2
    cases e2
    exact⟨u,r,.inl ⟨hk,by simp⟩⟩
   ·rw[List.getElem?_set_ne (Ne.symm hj)] at e2
    obtain⟨u',r',q⟩:=hl j y v' e1 e2 e3
    refine⟨u',r',?_⟩
    rcases q with⟨k,e⟩ | ⟨k,c,e,z⟩
    ·refine .inl ⟨k,?_⟩
     have:y≠x:=fun e=>hj (nodup_ix hN e1 (e ▸ hi))
     simp [this,e]
    ·exact .inr ⟨k,c,e,z.sameBut hs (cne y c e)⟩
  ·obtain⟨w',z⟩:=I.cell y c e
   exact⟨w',z.sameBut hs (cne y c e)⟩
  ·obtain⟨e,n,ne,nf,d⟩:=I.pin p hp
   exact⟨(hs.2 p.1 ne).trans e,n,ne,nf,d⟩
 ·have hfn:X.fn x=true:=by
   rcases hf with z | z
   ·exact z
   ·rw[z] at hk;cases hk
  obtain⟨c,hc⟩:=I.ok.has x (.inl hk)
  obtain⟨w',z⟩:=I.cell x c hc
  refine wpAny_storeName_cell I.ok.kind hk hc z (fun h' hc' hs=>?_)
  obtain⟨oc,hoc,hocd⟩:=id z
  refine h { s with heap:=h' } ⟨I.ok,I.os,I.bare,⟨fun b o e n hb hx=>?_,fun b o e n hb hx=>?_,I.base.free,fun b o e hx=>?_,I.base.tups,I.base.frzs,I.base.tbls⟩,⟨m,hn.sameBut hs (Ne.symm (cne x c hc)),fun j y v' e1 e2 e3=>?_⟩,fun y c' e=>?_,I.free,I.freeC,fun p hp=>?_,tracked ⟨oc,hoc,I.freeC x c hc⟩ hs,by simpa using I.len⟩ ⟨c,hs,.inr hc⟩
  ·exact(hs.2 b (Nat.ne_of_lt (Nat.lt_of_lt_of_le (Heap.lt_size e) (I.ok.cab x c hfn hc)))).trans (I.base.keep b o e n hb hx)
  ·obtain⟨sl,e1⟩:=I.base.slot b o e n hb hx
   exact⟨sl,(hs.2 b (Nat.ne_of_lt (Nat.lt_of_lt_of_le (Heap.lt_size e) (I.ok.cab x c hfn hc)))).trans e1⟩
  ·obtain⟨o',e1⟩:=I.base.there b o e hx
   exact⟨o',(hs.2 b (Nat.ne_of_lt (Nat.lt_of_lt_of_le (Heap.lt_size e) (I.ok.cab x c hfn hc)))).trans e1⟩
  ·by_cases hj:j=i
   ·subst hj
    rw[hi] at e1;cases e1
    rw[List.getElem?_set_self hiσ] at e2
    cases e2
    exact⟨u,r,.inr ⟨.inl hk,c,hc,hc'⟩⟩
   ·rw[List.getElem?_set_ne (Ne.symm hj)] at e2
    obtain⟨u',r',q⟩:=hl j y v' e1 e2 e3
    refine⟨u',r',?_⟩
    rcases q with q | ⟨k,c',e,z'⟩
    ·exact .inl q
    ·refine .inr ⟨k,c',e,z'.sameBut hs ?_⟩
     rintro rfl
     exact hj (nodup_ix hN e1 (I.ok.inj _ _ _ e hc ▸ hi))
  ·by_cases hcc:c'=c
   ·subst hcc;exact⟨_,hc'⟩
   ·obtain⟨w2,z2⟩:=I.cell y c' e
    exact⟨w2,z2.sameBut hs hcc⟩
  ·obtain⟨e,n,ne,nf,d⟩:=I.pin p hp
   refine⟨(hs.2 p.1 ?_).trans e,n,ne,nf,d⟩
   intro q
   rw[q,hoc] at e
   have q':oc=p.2:=Option.some.inj e
   exact d w' (by rw[← q'];exact hocd)
theorem store_ok{M:Model}{A:Around}{E:Value→Shared→Prop}{i:Nat}{x:Str}{v:V}{u:Value}{Q:Unit→Shared→Prop}(I:Inv X pins σ H s)(hN:X.N.Nodup)(hi:X.N[i]? = some x)(hx:Loc X.env.scope x)(r:RelV v u)
  (h:∀ s',Inv X pins (σ.set i (some v)) H s'→Q () s') (hf:X.fn x=true∨X.env.scope.names.lookup x=some .local:=by first | exact .inl rfl | exact .inr rfl | assumption):wpAny M A (storeName X.env x u) Q E s:=
 store_ok2 I hN hi hx r (fun s' I' _=>h s' I') hf
theorem Inv.call'{s':Shared}{ch:List Addr}(I:Inv X pins σ H s)(ho:s'.os=s.os)(u:Un (frs X.stack) ch H H' s.heap s'.heap)(hok:HOk X.prog X.w H' s'.heap)(hg:AllBare s'.gens)
  (hch:∀ b∈ch,(b∈X.ex∨X.s₀.heap.objs.size≤b)∧b≠X.env.locals∧(∀ x c,X.env.cells.lookup x=some c→c≠b)∧∀ p∈X.pn++pins,p.1≠b):Inv X pins σ H' s':=by
 obtain⟨h',g',d',t',o'⟩:=s'
 have e:o'=s.os:=ho
 subst e
 exact I.call (g':=g') (t':=t') (d':=d') u hok hg hch
end
abbrev XK:=Value→Option Addr→Hp→Prop
abbrev St:=List (Option V)
abbrev VK:=V→Hp→Prop
abbrev TE:=St→Hp→VK→Prop
abbrev TT:=St→Hp→(Bool→Hp→Prop)→Prop
abbrev TA:=St→Hp→(List V→Hp→Prop)→Prop
structure Ends where
 nx:St→Hp→Prop
 rt:VK
 bk:St→Hp→Prop:=fun _ _=>False
 ct:St→Hp→Prop:=fun _ _=>False
abbrev TS:=Ends→St→Hp→Prop
def EP(X:Cx)(pins:List (Addr×Obj))(σ:St)(Q:VK)(u:Value)(s':Shared):Prop:=∃ v H',Inv X pins σ H' s'∧RelV v u∧Q v H'
def TP(X:Cx)(pins:List (Addr×Obj))(σ:St)(Q:Bool→Hp→Prop)(b:Bool)(s':Shared):Prop:=∃ H',Inv X pins σ H' s'∧Q b H'
def AP(X:Cx)(pins:List (Addr×Obj))(σ:St)(Q:List V→Hp→Prop)(us:List Value)(s':Shared):Prop:=∃ vs H',Inv X pins σ H' s'∧Vals vs us∧Q vs H'
def SP(X:Cx)(pins:List (Addr×Obj))(D:Ends)(f:Flow)(s':Shared):Prop:=
 match f with
 | .next=>∃ σ' H',Inv X pins σ' H' s'∧D.nx σ' H'
 | .brk=>∃ σ' H',Inv X pins σ' H' s'∧D.bk σ' H'
 | .cont=>∃ σ' H',Inv X pins σ' H' s'∧D.ct σ' H'
 | .ret u=>∃ v σ' H',Inv X pins σ' H' s'∧RelV v u∧D.rt v H'
def PE(X:Cx)(e:Expr)(t:TE):Prop:=
 ∀(pins:List (Addr×Obj)) (s:Shared) (σ:St) (H:Hp) (Q:VK),Inv X pins σ H s→t σ H Q→wpAny (model X.prog X.w) X.A (eval e X.env) (EP X pins σ Q) X.xe s
def PT(X:Cx)(e:Expr)(t:TT):Prop:=
 ∀(pins:List (Addr×Obj)) (s:Shared) (σ:St) (H:Hp) (Q:Bool→Hp→Prop),Inv X pins σ H s→t σ H Q→wpAny (model X.prog X.w) X.A (isTrue e X.env (eval e X.env)) (TP X pins σ Q) X.xe s
def PW(X:Cx)(e:Expr)(t:TT):Prop:=
 ∀(whole:Sem Value) (pins:List (Addr×Obj)) (s:Shared) (σ:St) (H:Hp) (Q:Bool→Hp→Prop),Inv X pins σ H s→t σ H Q→wpAny (model X.prog X.w) X.A (isTrue e X.env whole) (TP X pins σ Q) X.xe s
theorem PW.pt{X:Cx}{e:Expr}{t:TT}(h:PW X e t):PT X e t:=h _
def PA(X:Cx)(es:List Expr)(t:TA):Prop:=
 ∀(pos:Pos) (pins:List (Addr×Obj)) (s:Shared) (σ:St) (H:Hp) (Q:List V→Hp→Prop),Inv X pins σ H s→t σ H Q→wpAny (model X.prog X.w) X.A (spliced (backTo pos (starEach es X.env))) (AP X pins σ Q) X.xe s
def PS(X:Cx)(st:Stmt)(t:TS):Prop:=
 ∀(pins:List (Addr×Obj)) (s:Shared) (σ:St) (H:Hp) (D:Ends),Inv X pins σ H s→t D σ H→wpAny (model X.prog X.w) X.A (exec st X.env) (SP X pins D) X.xe s
def PSs(X:Cx)(st:List Stmt)(t:TS):Prop:=
 ∀(pins:List (Addr×Obj)) (s:Shared) (σ:St) (H:Hp) (D:Ends),Inv X pins σ H s→t D σ H→wpAny (model X.prog X.w) X.A (execs st X.env) (SP X pins D) X.xe s
theorem thn{α:Type}{t:Sem α}{Q Q':α→Shared→Prop}{M:Model}{A:Around}{E:Value→Shared→Prop}{s:Shared}(h:wpAny M A t Q E s)(hQ:∀ a s,Q a s→Q' a s):wpAny M A t Q' E s:=wpAny_mono h hQ fun _ _ x=>x
end L2
namespace L2
open PySem PySem.Spec PyProof.Rows
section
variable{X:Cx}
def tVar(i:Nat):TE:=fun σ H Q=>∃ v,σ[i]? = some (some v)∧Q v H
def tC(v:V):TE:=fun _ H Q=>Q v H
theorem pe_var{i:Nat}{x:Str}{pos:Pos}(hN:X.N[i]? = some x)(hv:Vis X.env.scope x)(hd:(x == ("__debug__":Str))=false:=by decide)(hcd:(x == ("__classdict__":Str))=false:=by decide):PE X (.Name x pos) (tVar i):=by
 intro pins s σ H Q I h
 obtain⟨v,e,h⟩:=h
 obtain⟨m,hn,hl⟩:=I.loc
 obtain⟨u,r,l⟩:=hl i x v hN e hv
 have fin:EP X pins σ Q u s:=⟨v,H,I,r,h⟩
 rcases l with⟨hk,hm⟩ | ⟨hk,c,hc,hcell⟩
 ·exact wpAny_Name (wpAny_loadName_local I.ok.kind hk hn hm fin) hd
 ·rcases hk with hk | hk
  ·exact wpAny_Name (wpAny_loadName_cell I.ok.kind hk hc hcell fin) hd
  ·exact wpAny_Name (wpAny_loadName_free I.ok.kind hk hc hcell fin hcd) hd
theorem pe_int{i j pos}:PE X (.Constant (.int i) j pos) (tC (.int i)):=fun _ _ _ H _ I h=>wpAny_Constant_int ⟨.int i,H,I.tok _,⟨_,rfl⟩,h⟩
theorem pe_bl{b j pos}:PE X (.Constant (.bool b) j pos) (tC (.bl b)):=fun _ _ _ H _ I h=>Constant_bool ⟨.bl b,H,I,rfl,h⟩
theorem pe_non{j pos}:PE X (.Constant .none j pos) (tC .non):=fun _ _ _ H _ I h=>Constant_none ⟨.non,H,I,rfl,h⟩
theorem pe_str{x j pos}:PE X (.Constant (.str x) j pos) (tC (.str x)):=fun _ _ _ H _ I h=>Calls.Constant_str ⟨.str x,H,I.tok _,⟨_,rfl⟩,h⟩
def Gl(X:Cx)(x:Str):Prop:=X.env.kindOf x=some .globalImplicit
theorem ld_glob{E:Value→Shared→Prop}{pins:List (Addr×Obj)}{s:Shared}{σ:St}{H:Hp}{x:Str}{u:Value}{pos:Pos}{Q:Value→Shared→Prop}(I:Inv X pins σ H s)(hg:Gl X x)(hm:X.mg x=some u)(h:Q u s)
  (hd:(x == ("__debug__":Str))=false:=by decide):wpAny (model X.prog X.w) X.A (eval (.Name x pos) X.env) Q E s:=
 Calls.Name_function_global I.ok.kind hg (Calls.loadGlobal_global (by rw[I.ok.glob];exact I.mod.glob.keeps I.bk) hm h) hd
theorem ld_blt{E:Value→Shared→Prop}{pins:List (Addr×Obj)}{s:Shared}{σ:St}{H:Hp}{x:Str}{u:Value}{pos:Pos}{Q:Value→Shared→Prop}(I:Inv X pins σ H s)(hg:Gl X x)(hm:X.mg x=none)(hv:bootBuiltins x=some u)(h:Q u s)
  (hn:x≠"__name__":=by decide) (hd:(x == ("__debug__":Str))=false:=by decide):wpAny (model X.prog X.w) X.A (eval (.Name x pos) X.env) Q E s:=by
 obtain⟨mb,h1,h2⟩:=I.mod.blt
 exact Calls.Name_function_global I.ok.kind hg (Calls.loadGlobal_builtin (by rw[I.ok.glob];exact I.mod.glob.keeps I.bk) hm (by rw[I.ok.blt];exact h1.keeps I.bk) ((h2 x hn).trans hv) h) hd
theorem pe_glob{x:Str}{v:V}{u:Value}{pos:Pos}(hg:Gl X x)(hm:X.mg x=some u)(r:RelV v u)(hd:(x == ("__debug__":Str))=false:=by decide):PE X (.Name x pos) (tC v):=
 fun _ _ _ H _ I h=>ld_glob I hg hm ⟨v,H,I,r,h⟩ hd
variable{a b:Expr}{ta tb:TE}{pos:Pos}
variable{tA tB':TT}{rest:List Expr}
def tAnd(t u:TT):TT:=fun σ H Q=>t σ H fun c H1=>if c=true then u σ H1 Q else Q false H1
def tOr(t u:TT):TT:=fun σ H Q=>t σ H fun c H1=>if c=true then Q true H1 else u σ H1 Q
theorem pw_and1(ha:PT X a tA):PW X (.BoolOp .And [a] pos) tA:=by
 intro wh pins s σ H Q I h
 refine isTrue_and (thn (ha pins s σ H Q I h) fun c s1 e=>?_)
 cases c with
 | true=>exact isTrue_and_nil e
 | false=>exact e
theorem pw_or1(ha:PT X a tA):PW X (.BoolOp .Or [a] pos) tA:=by
 intro wh pins s σ H Q I h
 refine isTrue_or (thn (ha pins s σ H Q I h) fun c s1 e=>?_)
 cases c with
 | false=>exact isTrue_or_nil e
 | true=>exact e
theorem pw_and(ha:PT X a tA)(hb:PW X (.BoolOp .And (b :: rest) pos) tB'):PW X (.BoolOp .And (a :: b :: rest) pos) (tAnd tA tB'):=by
 intro wh pins s σ H Q I h
 refine isTrue_and (thn (ha pins s σ H _ I h) fun c s1 ⟨H1,I1,q1⟩=>?_)
 cases c with
 | true=>exact hb wh pins s1 σ H1 Q I1 q1
 | false=>exact⟨H1,I1,q1⟩
theorem pw_or(ha:PT X a tA)(hb:PW X (.BoolOp .Or (b :: rest) pos) tB'):PW X (.BoolOp .Or (a :: b :: rest) pos) (tOr tA tB'):=by
 intro wh pins s σ H Q I h
 refine isTrue_or (thn (ha pins s σ H _ I h) fun c s1 ⟨H1,I1,q1⟩=>?_)
 cases c with
 | true=>exact⟨H1,I1,q1⟩
 | false=>exact hb wh pins s1 σ H1 Q I1 q1
def tAndV(ta tb:TE):TE:=fun σ H Q=>ta σ H fun x H1=>∃ c,x = .bl c∧if c=true then tb σ H1 Q else Q (.bl false) H1
theorem pe_one{op}{t:TE}(h:PE X a t):PE X (.BoolOp op [a] pos) t:=fun pins s σ H Q I hw=>BoolOp_one (h pins s σ H Q I hw)
theorem pe_and(ha:PE X a ta)(hb:PE X (.BoolOp .And (b :: rest) pos) tb):PE X (.BoolOp .And (a :: b :: rest) pos) (tAndV ta tb):=by
 intro pins s σ H Q I h
 refine BoolOp_and (thn (ha pins s σ H _ I h) fun v s1 ⟨x,H1,I1,r1,q1⟩=>?_)
 obtain⟨c,rfl,q1⟩:=q1
 cases r1
 refine wpAny_truthy_bool ?_
 cases c with
 | true=>exact hb pins s1 σ H1 Q I1 q1
 | false=>exact⟨.bl false,H1,I1,rfl,q1⟩
end
end L2
namespace L2
open PySem PySem.Spec PyProof.Rows
def SqL(K:PySem.W.Frag)(H:Hp)(a:Addr)(xs:List V):Prop:=
 Rd H a (.lst xs) ∨
  ∃(o:Obj) (its:Array Value) (n:Nat),K.lookup a=some o∧o.cls = .type "list"∧o.dict=none∧o.data = .seq its n∧its.size≤sizeLine∧Vals xs its.toList
def SqT(K:PySem.W.Frag)(H:Hp)(a:Addr)(xs:List V):Prop:=
 Rd H a (.tup xs) ∨
  ∃(o:Obj) (its:Array Value) (n:Nat),K.lookup a=some o∧o.cls = .type "tuple"∧o.data = .seq its n∧its.size≤sizeLine∧Vals xs its.toList
def absV:Value→Option V
 | .none=>some .non
 | .bool b=>some (.bl b)
 | .int i _=>some (.int i)
 | .str x _=>some (.str x)
 | .bytes b _=>some (.byt b)
 | .float b _=>some (.flt b)
 | .ref a=>some (.ref a)
 | .type n=>some (.ty n)
 | _=>none
theorem RelV.abs{x:V}{u:Value}(r:RelV x u):absV u=some x:=by
 cases x with
 | non=>cases r;rfl
 | bl _=>cases r;rfl
 | int _=>obtain⟨t,rfl⟩:=r;rfl
 | str _=>obtain⟨t,rfl⟩:=r;rfl
 | byt _=>obtain⟨t,rfl⟩:=r;rfl
 | flt _=>obtain⟨t,rfl⟩:=r;rfl
 | ref _=>cases r;rfl
 | ty _=>cases r;rfl
theorem RelV.inj{x y:V}{u:Value}(r:RelV x u)(q:RelV y u):x=y:=Option.some.inj (r.abs.symm.trans q.abs)
theorem Vals.inj:∀{xs ys:List V} {us:List Value},Vals xs us→Vals ys us→xs=ys
 | _,_,_,.nil,.nil=>rfl
 | _,_,_,.cons r t,.cons r' t'=>by rw[r.inj r',Vals.inj t t']
section
variable{X:Cx}{pins:List (Addr×Obj)}{σ:St}{H:Hp}{s:Shared}{a:Addr}{xs ys:List V}
theorem SqL.of{K:PySem.W.Frag}(h:H a=some (.lst xs)):SqL K H a xs:=.inl (.inl h)
theorem SqT.of{K:PySem.W.Frag}(h:H a=some (.tup xs)):SqT K H a xs:=.inl (.inl h)
theorem Inv.list(I:Inv X pins σ H s)(h:SqL X.K H a xs):∃ its:List Value,Vals xs its∧PlainL s.heap a its.toArray∧xs.length≤sizeLine:=by
 rcases h with h | ⟨o,its,n,hk,hc,hd,hs,hz,r⟩
 ·obtain⟨z,its,n,r,e⟩:=h.ok I.hok
  exact⟨its,r,⟨_,n,e,rfl,rfl,rfl⟩,z⟩
 ·refine⟨its.toList,r,⟨o,n,I.kIn a o hk,hc,hd,by simpa using hs⟩,?_⟩
  have e:=r.length
  simp only[Array.length_toList] at e
  omega
theorem Inv.tuple(I:Inv X pins σ H s)(h:SqT X.K H a xs):∃ its:List Value,Vals xs its∧IsTup s.heap a its.toArray∧xs.length≤sizeLine:=by
 rcases h with h | ⟨o,its,n,hk,hc,hs,hz,r⟩
 ·obtain⟨z,its,r,p⟩:=h.ok I.hok
  exact⟨its,r,p,z⟩
 ·refine⟨its.toList,r,⟨o,I.kIn a o hk,hc,n,by simpa using hs⟩,?_⟩
  have e:=r.length
  simp only[Array.length_toList] at e
  omega
theorem Inv.list_inj(I:Inv X pins σ H s)(h:SqL X.K H a xs)(h':SqL X.K H a ys):xs=ys:=by
 obtain⟨its,r,⟨o,n,e,_,_,d⟩,_⟩:=I.list h
 obtain⟨its',r',⟨o',n',e',_,_,d'⟩,_⟩:=I.list h'
 rw[e] at e';cases e'
 rw[d] at d'
 injection d' with d1 _
 have:its=its':=by simpa using congrArg Array.toList d1
 subst this
 exact r.inj r'
theorem Inv.tuple_inj(I:Inv X pins σ H s)(h:SqT X.K H a xs)(h':SqT X.K H a ys):xs=ys:=by
 obtain⟨its,r,⟨o,e,_,n,d⟩,_⟩:=I.tuple h
 obtain⟨its',r',⟨o',e',_,n',d'⟩,_⟩:=I.tuple h'
 rw[e] at e';cases e'
 rw[d] at d'
 injection d' with d1 _
 have:its=its':=by simpa using congrArg Array.toList d1
 subst this
 exact r.inj r'
end
abbrev Cx.wish(X:Cx)(E:Value→Shared→Prop):Cx:={ X with xe:=E }
abbrev Cx.nox(X:Cx):Cx:=X.wish fun _ _=>False
theorem Cx.Ok.wish{X:Cx}(ok:X.Ok)(E:Value→Shared→Prop):(X.wish E).Ok:=
 ⟨ok.mod,ok.kind,ok.glob,ok.blt,ok.above,ok.inj,ok.has,ok.cab,ok.hd,ok.frames,ok.stk,ok.exf,ok.bs,ok.bsz,ok.noex,ok.exfs,ok.funs,ok.frf⟩
theorem Cx.Ok.unwish{X:Cx}{E:Value→Shared→Prop}(ok:(X.wish E).Ok):X.Ok:=
 ⟨ok.mod,ok.kind,ok.glob,ok.blt,ok.above,ok.inj,ok.has,ok.cab,ok.hd,ok.frames,ok.stk,ok.exf,ok.bs,ok.bsz,ok.noex,ok.exfs,ok.funs,ok.frf⟩
section
variable{X:Cx}{pins:List (Addr×Obj)}{σ:St}{H:Hp}{s:Shared}{E:Value→Shared→Prop}
theorem Inv.wish(I:Inv X pins σ H s)(E:Value→Shared→Prop):Inv (X.wish E) pins σ H s:=⟨I.ok.wish E,I.os,I.bare,I.base,I.loc,I.cell,I.free,I.freeC,I.pin,I.hok,I.len⟩
theorem Inv.unwish(I:Inv (X.wish E) pins σ H s):Inv X pins σ H s:=⟨I.ok.unwish,I.os,I.bare,I.base,I.loc,I.cell,I.free,I.freeC,I.pin,I.hok,I.len⟩
theorem SP.unwish{D:Ends}{f:Flow}{s':Shared}(h:SP (X.wish E) pins D f s'):SP X pins D f s':=by
 cases f with
 | next=>obtain⟨σ',H',I,q⟩:=h;exact⟨σ',H',I.unwish,q⟩
 | brk=>obtain⟨σ',H',I,q⟩:=h;exact⟨σ',H',I.unwish,q⟩
 | cont=>obtain⟨σ',H',I,q⟩:=h;exact⟨σ',H',I.unwish,q⟩
 | ret u=>obtain⟨v,σ',H',I,r,q⟩:=h;exact⟨v,σ',H',I.unwish,r,q⟩
theorem PSs.nox{st:List Stmt}{t:TS}(h:PSs X.nox st t):PSs X st t:=fun pins s σ H D I hw=>
 wpAny_mono (h pins s σ H D (I.wish _) hw) (fun _ _ q=>q.unwish) fun _ _ z=>False.elim z
end
section
variable{X:Cx}{st:Stmt}{rest:List Stmt}{t u:TS}{e:Expr}{te:TE}{pos:Pos}
def tNext:TS:=fun D σ H=>D.nx σ H
def tSeq(t u:TS):TS:=fun D σ H=>t { D with nx:=u D } σ H
theorem pss_nil:PSs X [] tNext:=fun _ _ σ H _ I h=>wpAny_execs_nil ⟨σ,H,I,h⟩
theorem pss_cons(h1:PS X st t)(h2:PSs X rest u):PSs X (st :: rest) (tSeq t u):=by
 intro pins s σ H D I h
 refine wpAny_execs_cons (thn (h1 pins s σ H { D with nx:=u D } I h) fun f s1 q=>?_)
 cases f with
 | next=>
  obtain⟨σ',H',I',q⟩:=q
  exact h2 pins s1 σ' H' D I' q
 | ret v=>exact q
 | brk=>exact q
 | cont=>exact q
theorem pss_one(h1:PS X st t):PSs X [st] t:=by
 intro pins s σ H D I h
 refine wpAny_execs_cons (thn (h1 pins s σ H D I h) fun f s1 q=>?_)
 cases f with
 | next=>exact wpAny_execs_nil q
 | ret v=>exact q
 | brk=>exact q
 | cont=>exact q
theorem Inv.quiet{pins:List (Addr×Obj)}{σ:St}{H:Hp}{s:Shared}(I:Inv X pins σ H s):interactive X.env=false:=by simp [interactive,I.ok.kind]
def tDrop(te:TE):TS:=fun D σ H=>te σ H fun _ H1=>D.nx σ H1
theorem ps_expr(he:PE X e te)(hs:swapsWith e none pos.line X.env=pure false:=by rfl):PS X (.Expr e pos) (tDrop te):=by
 intro pins s σ H D I h
 exact wpAny_Expr_any (thn (he pins s σ H _ I h) fun v s1 ⟨x,H1,I1,r1,q1⟩=>⟨σ,H1,I1,q1⟩) I.quiet hs
def tRet(te:TE):TS:=fun D σ H=>te σ H D.rt
theorem ps_ret(he:PE X e te):PS X (.Return (some e) pos) (tRet te):=by
 intro pins s σ H D I h
 exact wpAny_Return_some (thn (he pins s σ H _ I h) fun v s1 ⟨x,H1,I1,r1,q1⟩=>⟨x,σ,H1,I1,r1,q1⟩)
def tIfS(c:TT)(t u:TS):TS:=fun D σ H=>c σ H fun b H1=>if b=true then t D σ H1 else u D σ H1
theorem ps_if{c:Expr}{a b:List Stmt}{tc:TT}(hc:PT X c tc)(ha:PSs X a t)(hb:PSs X b u):PS X (.If c a b pos) (tIfS tc t u):=by
 intro pins s σ H D I h
 refine wpAny_If (thn (hc pins s σ H _ I h) fun d s1 ⟨H1,I1,q1⟩=>?_)
 cases d with
 | true=>exact ha pins s1 σ H1 D I1 q1
 | false=>exact hb pins s1 σ H1 D I1 q1
end
abbrev TG:=V→St→Hp→(St→Hp→Prop)→Prop
abbrev TGs:=List V→St→Hp→(St→Hp→Prop)→Prop
def PG(X:Cx)(target:Expr)(t:TG):Prop:=
 ∀(pins:List (Addr×Obj)) (s:Shared) (σ:St) (H:Hp) (v:V) (u:Value) (Q:St→Hp→Prop),Inv X pins σ H s→RelV v u→t v σ H Q →
  wpAny (model X.prog X.w) X.A (assign target X.env u) (fun _ s'=>∃ σ' H',Inv X pins σ' H' s'∧Q σ' H') X.xe s
def PGs(X:Cx)(ts:List Expr)(t:TGs):Prop:=
 ∀(pins:List (Addr×Obj)) (s:Shared) (σ:St) (H:Hp) (vs:List V) (us:List Value) (Q:St→Hp→Prop),Inv X pins σ H s→Vals vs us→t vs σ H Q →
  wpAny (model X.prog X.w) X.A (assignInOrder ((assignEach ts X.env).map (·.2)) us) (fun _ s'=>∃ σ' H',Inv X pins σ' H' s'∧Q σ' H') X.xe s
section
variable{X:Cx}{pos:Pos}
def gName(i:Nat):TG:=fun v σ H Q=>Q (σ.set i (some v)) H
theorem pg_name{i:Nat}{x:Str}(hN:X.N.Nodup)(hi:X.N[i]? = some x)(hx:Loc X.env.scope x)(hf:X.fn x=true∨X.env.scope.names.lookup x=some .local:=by first | exact .inl rfl | exact .inr rfl | assumption):PG X (.Name x pos) (gName i):=by
 intro pins s σ H v u Q I r h
 exact wpAny_assign_Name (store_ok I hN hi hx r (fun s' I'=>⟨_,H,I',h⟩) hf)
def gNil:TGs:=fun vs σ H Q=>vs=[]∧Q σ H
def gCons(t:TG)(u:TGs):TGs:=fun vs σ H Q=>∃ v r,vs=v :: r∧t v σ H fun σ' H'=>u r σ' H' Q
theorem pgs_nil:PGs X [] gNil:=by
 intro pins s σ H vs us Q I r h
 obtain⟨e,h⟩:=h
 subst e
 cases r
 exact assignInOrder_nil ⟨σ,H,I,h⟩
theorem pgs_cons{e:Expr}{es:List Expr}{t:TG}{u:TGs}(h1:PG X e t)(h2:PGs X es u)
  (hs:(assignEach (e :: es) X.env).map (·.2)=assign e X.env :: (assignEach es X.env).map (·.2):=by rfl):PGs X (e :: es) (gCons t u):=by
 intro pins s σ H vs us Q I r h
 obtain⟨v,vr,e1,h⟩:=h
 subst e1
 cases r with
 | cons r rr=>
  rw[hs]
  refine assignInOrder_cons (thn (h1 pins s σ H _ _ _ I r h) fun _ s1 ⟨σ1,H1,I1,q1⟩=>?_)
  exact h2 pins s1 σ1 H1 _ _ Q I1 rr q1
def gTup(K:PySem.W.Frag)(n:Nat)(t:TGs):TG:=fun v σ H Q=>∃ a xs,v = .ref a∧SqT K H a xs∧xs.length=n∧t xs σ H Q
theorem pg_tup{es:List Expr}{k:Nat}{t:TGs}{n:Nat}(hc:X.calm=true)(h:PGs X es t)
  (hn:(assignEach es X.env).length=n:=by rfl) (hst:(assignEach es X.env).findIdx? (·.1)=none:=by rfl):PG X (.Tuple es k pos) (gTup X.K n t):=by
 intro pins s σ H v u Q I r hw
 obtain⟨a,xs,e1,hq,hl,hw⟩:=hw
 subst e1
 cases r
 obtain⟨its,rv,ht,hz⟩:=I.tuple hq
 refine assign_Tuple_tuple (I.ok.hd hc) ht (by simp [hn,← hl,rv.length]) hst fun h' hx=>?_
 have I1:Inv X pins σ H { s with heap:=h' }:=I.kept (t':=s.toks) fun b o e=>hx b o (Nat.ne_of_lt (Heap.lt_size e)) e
 exact h pins _ σ H xs _ Q I1 (by simpa using rv) hw
def tAsg(te:TE)(g:TG):TS:=fun D σ H=>te σ H fun x H1=>g x σ H1 D.nx
theorem ps_asg{tg e:Expr}{te:TE}{g:TG}(he:PE X e te)(hg:PG X tg g)(hs:swapsWithSole [tg] e pos.line X.env=pure false:=by rfl)(hw:swappedStores [tg] e X.env=pure none:=by rfl)
  (h1:(assignEach [tg] X.env).map (·.2)=[assign tg X.env]:=by rfl):PS X (.Assign [tg] e pos) (tAsg te g):=by
 intro pins s σ H D I h
 refine wpAny_Assign_stores (thn (he pins s σ H _ I h) fun v s1 ⟨x,H1,I1,r1,q1⟩=>?_) hs hw
 rw[h1]
 exact thn (hg pins s1 σ H1 x v _ I1 r1 q1) fun _ s2 q=>q
theorem ps_set{i:Nat}{x:Str}{e:Expr}{te:TE}{pos':Pos}(hN:X.N.Nodup)(hi:X.N[i]? = some x)(hx:Loc X.env.scope x)(he:PE X e te)(hs:swapsWith e (some (.Name x pos')) pos.line X.env=pure false:=by rfl)(hf:X.fn x=true∨X.env.scope.names.lookup x=some .local:=by first | exact .inl rfl | exact .inr rfl | assumption) :
  PS X (.Assign [.Name x pos'] e pos) (tAsg te (gName i)):=by
 intro pins s σ H D I h
 refine wpAny_Assign_Name (thn (he pins s σ H _ I h) fun v s1 ⟨y,H1,I1,r1,q1⟩=>?_) hs
 exact store_ok I1 hN hi hx r1 (fun s2 I2=>⟨_,H1,I2,q1⟩) hf
end
section
variable{X:Cx}{pos:Pos}
def tWhile(c:TT)(tb:TS):TS:=fun D σ H=>∃ W:Nat→St→Hp→Prop,(∃ m,W m σ H)∧∀ m σ H,W m σ H →
 c σ H fun b H1=>if b=true then ∃ N:St→Hp→Prop,(∀ σ' H',N σ' H'→∃ m',m' < m∧W m' σ' H')∧tb { D with nx:=N,ct:=N,bk:=D.nx } σ H1 else D.nx σ H1
theorem ps_while{c:Expr}{body:List Stmt}{tc:TT}{tb:TS}(hp:PassesOwn (model X.prog X.w) X.A X.env X.xe)(hc:PT X c tc)(hb:PSs X body tb):PS X (.While c body [] pos) (tWhile tc tb):=by
 intro pins s σ H D I h
 obtain⟨W,⟨m0,w0⟩,turn⟩:=h
 refine wpAny_While (codeAny_whileLoop (fun n s'=>∃ σ' H',Inv X pins σ' H' s'∧W n σ' H') ?_ m0 ⟨σ,H,I,w0⟩)
 rintro n s1 ⟨σ1,H1,I1,w1⟩
 refine wpAny_passesOwn hp (thn (hc pins s1 σ1 H1 _ I1 (turn n σ1 H1 w1)) fun b s2 ⟨H2,I2,q2⟩=>?_)
 cases b with
 | true=>
  obtain⟨N,hN,q2⟩:=q2
  rw[if_pos rfl]
  refine wpAny_passesOwn hp (thn (hb pins s2 σ1 H2 _ I2 q2) fun f s3 q3=>?_)
  cases f with
  | next=>
   obtain⟨σ3,H3,I3,n3⟩:=q3
   obtain⟨m',hm,w3⟩:=hN σ3 H3 n3
   exact⟨m',hm,σ3,H3,I3,w3⟩
  | cont=>
   obtain⟨σ3,H3,I3,n3⟩:=q3
   obtain⟨m',hm,w3⟩:=hN σ3 H3 n3
   exact⟨m',hm,σ3,H3,I3,w3⟩
  | brk=>exact q3
  | ret v=>exact q3
 | false=>
  rw[if_neg Bool.false_ne_true]
  exact wpAny_execs_nil ⟨σ1,H2,I2,q2⟩
end
structure It where
 go:Nat→Hp→Prop
 yld:Nat→Hp→V→Hp→Prop
 stop:Nat→Hp→Prop
def FpOk(X:Cx)(pins:List (Addr×Obj))(H:Hp)(b:Addr):Prop:=
 H b=none∧b≠X.env.locals∧b∉X.fs∧(b∈X.ex∨X.s₀.heap.objs.size≤b)∧(∀ x c,X.env.cells.lookup x=some c→c≠b)∧∀ p∈X.pn++pins,p.1≠b
theorem Inv.fpOk{X:Cx}{pins:List (Addr×Obj)}{σ:St}{H H':Hp}{s:Shared}{b:Addr}(I:Inv X pins σ H s)(hb:s.heap.objs.size≤b)(hn:H' b=none):FpOk X pins H' b:=by
 refine⟨hn,Nat.ne_of_gt (Nat.lt_of_lt_of_le I.lt hb),I.nofs hb,.inr (Nat.le_trans I.sz hb),fun x c e z=>?_,fun p hp z=>?_⟩
 ·obtain⟨v,q⟩:=I.cell x c e
  exact absurd (Nat.lt_of_lt_of_le q.lt (by rw[z];exact hb)) (Nat.lt_irrefl _)
 ·exact absurd (Nat.lt_of_lt_of_le (Heap.lt_size (I.pin p hp).1) (by rw[z];exact hb)) (Nat.lt_irrefl _)
structure Turn(P:Program)(w:World)(K:PySem.W.Frag)(tg:Expr)(J:It)(fp:List Addr)(it:Addr)(tn:Nat→Heap→Prop):Prop where
 mem:it∈fp
 obj:∀ i h,tn i h→∀ b∈fp,∃ o,h.get? b=some o∧∀ v,o.data ≠ .cell v
 keep:∀ i h h',tn i h→(∀ b∈fp,∀ o,h.get? b=some o→h'.get? b=some o)→tn i h'
 item:∀(X:Cx),X.prog=P→X.w=w→X.K=K→X.calm=true→∀(i:Nat) (pins:List (Addr×Obj)) (s:Shared) (σ:St) (H:Hp) (E:Value→Shared→Prop),Inv X pins σ H s→(∀ b∈fp,FpOk X pins H b)→tn i s.heap→J.go i H →
  wpAny (model P w) X.A (pyNext (.ref it)) (fun r s1=>∃ u,r=some u ∧
   wpAny (model P w) X.A (letOwnedTupleGo tg (.ref it) u) (fun _ s2=>∃ x H',Inv X pins σ H' s2∧RelV x u∧J.yld i H x H'∧tn (i+1) s2.heap∧∀ b∈fp,H' b=none) E s1) E s
 done:∀(X:Cx),X.prog=P→X.w=w→X.K=K→X.calm=true→∀(i:Nat) (pins:List (Addr×Obj)) (s:Shared) (σ:St) (H:Hp) (E:Value→Shared→Prop),Inv X pins σ H s→(∀ b∈fp,FpOk X pins H b)→tn i s.heap→J.stop i H →
  wpAny (model P w) X.A (pyNext (.ref it)) (fun r s1=>r=none∧Inv X pins σ H s1) E s
 self:∀(A:Around) (i:Nat) (s:Shared) (Q:Value→Shared→Prop) (E:Value→Shared→Prop),tn i s.heap→Q (.ref it) s→wpAny (model P w) A (pyIter (.ref it)) Q E s
abbrev TI:=St→Hp→(It→Hp→Prop)→Prop
def PIE(X:Cx)(pins:List (Addr×Obj))(σ:St)(tg:Expr)(R:It→Hp→Prop)(itv:Value)(s2:Shared):Prop:=
 ∃(it:Addr) (fp:List Addr) (tn:Nat→Heap→Prop) (J:It) (H':Hp),itv = .ref it∧Inv X pins σ H' s2∧Turn X.prog X.w X.K tg J fp it tn∧tn 0 s2.heap∧(∀ b∈fp,FpOk X pins H' b)∧R J H'
def PI(X:Cx)(tg iter:Expr)(wi:TI):Prop:=
 ∀(pins:List (Addr×Obj)) (s:Shared) (σ:St) (H:Hp) (R:It→Hp→Prop),Inv X pins σ H s→wi σ H R →
  wpAny (model X.prog X.w) X.A (eval iter X.env) (fun v s1=>wpAny (model X.prog X.w) X.A (pyIter v) (PIE X pins σ tg R) X.xe s1) X.xe s
theorem go_of{M:Model}{A:Around}{E:Value→Shared→Prop}{s:Shared}{tg:Expr}{it:Addr}{u:Value}{o:Obj}{n:String}{vs:Array Value}{Q:Unit→Shared→Prop}(ho:s.heap.get? it=some o)(hc:o.cls = .type n)(hd:o.data = .fields vs)
    (hn:["enumerate","zip","dict_itemiterator","dict_reverseitemiterator","odict_iterator","itertools.zip_longest","itertools.pairwise"].contains n=false) (hQ:Q () s):wpAny M A (letOwnedTupleGo tg (.ref it) u) Q E s:=by
  unfold letOwnedTupleGo
  cases tg<;>first
    | exact wpAny_pure hQ
    | (cases u<;>first
        | exact wpAny_pure hQ
        | (refine wpAny_bind (wpAny_load ho ?_)
           rw[hc,hd]
           show wpAny M A (if(["enumerate","zip","dict_itemiterator","dict_reverseitemiterator","odict_iterator","itertools.zip_longest","itertools.pairwise"].contains n && vs[0]? == some (rawInt _))=true then _ else _) Q E s
           rw[if_neg (by intro h;rw[hn,Bool.false_and] at h;cases h)]
           exact wpAny_pure hQ))
def Itl(K:PySem.W.Frag)(a:Addr):It:=
 ⟨fun i H=>∃ xs x,SqL K H a xs∧xs[i]? = some x,fun i H x H'=>H'=H∧∀ xs,SqL K H a xs→xs[i]? = some x,fun i H=>∃ xs,SqL K H a xs∧xs.length≤i⟩
def Itt(K:PySem.W.Frag)(a:Addr):It:=
 ⟨fun i H=>∃ xs x,SqT K H a xs∧xs[i]? = some x,fun i H x H'=>H'=H∧∀ xs,SqT K H a xs→xs[i]? = some x,fun i H=>∃ xs,SqT K H a xs∧xs.length≤i⟩
def Itr(lo:Int)(n:Nat):It:=⟨fun i _=>i < n,fun i H x H'=>H'=H∧x = .int (lo+i),fun i _=>n≤i⟩
theorem turn_list{P:Program}{w:World}{K:PySem.W.Frag}{tg:Expr}(a it:Addr):Turn P w K tg (Itl K a) [it] it (fun i h=>h.IsListIter it a i) where
 mem:=by simp
 obj:=fun i h st b hb=>by
  have e:b=it:=by simpa using hb
  subst e
  obtain⟨o,e,c,d⟩:=st
  exact⟨o,e,fun v z=>by rw[d] at z;cases z⟩
 keep:=fun i h h' st k=>st.at fun o e=>k it (by simp) o e
 item:=by
  intro X hP hw hK hc i pins s σ H E I hf st hg
  subst hP hw hK
  obtain⟨xs,x,hq,hx⟩:=hg
  obtain⟨its,rv,p,hz⟩:=I.list hq
  obtain⟨u,hu,ru⟩:=rv.get hx
  obtain⟨f0,f1,f2,f3,f4,f5⟩:=hf it (by simp)
  refine wpAny_pyNext_list_item st p.isList (x:=u) (by simpa using hu) fun h' st' sb=>?_
  have I1:Inv X pins σ H { s with heap:=h' }:=I.turned (t':=s.toks) (fun b o hb e=>(sb.2 b hb).trans e) f0 f1 f3 f4 f5
  obtain⟨o,e,c,d⟩:=id st'
  exact⟨u,rfl,go_of (s:={ s with heap:=h' }) e c d (by decide) ⟨x,H,I1,ru,⟨rfl,fun ys hy=>by rw[I.list_inj hy hq];exact hx⟩,st',fun b hb=>(hf b hb).1⟩⟩
 done:=by
  intro X hP hw hK hc i pins s σ H E I hf st hg
  subst hP hw hK
  obtain⟨xs,hq,hx⟩:=hg
  obtain⟨its,rv,p,hz⟩:=I.list hq
  obtain⟨f0,f1,f2,f3,f4,f5⟩:=hf it (by simp)
  have hl:=rv.length
  exact wpAny_pyNext_list_end (I.ok.hd hc) st p.isList (by simp;omega) fun h' eb=>⟨rfl,I.turned (t':=s.toks) (fun b o hb e=>eb b o hb e) f0 f1 f3 f4 f5⟩
 self:=fun _ _ _ _ _ st h=>wpAny_pyIter_listiter st h
theorem turn_tuple{P:Program}{w:World}{K:PySem.W.Frag}{tg:Expr}(a it:Addr):Turn P w K tg (Itt K a) [it] it (fun i h=>h.IsTupleIter it a i) where
 mem:=by simp
 obj:=fun i h st b hb=>by
  have e:b=it:=by simpa using hb
  subst e
  obtain⟨o,e,c,d⟩:=st
  exact⟨o,e,fun v z=>by rw[d] at z;cases z⟩
 keep:=fun i h h' st k=>st.at fun o e=>k it (by simp) o e
 item:=by
  intro X hP hw hK hc i pins s σ H E I hf st hg
  subst hP hw hK
  obtain⟨xs,x,hq,hx⟩:=hg
  obtain⟨its,rv,p,hz⟩:=I.tuple hq
  obtain⟨u,hu,ru⟩:=rv.get hx
  obtain⟨f0,f1,f2,f3,f4,f5⟩:=hf it (by simp)
  refine wpAny_pyNext_tuple_item st (show s.heap.IsTuple a its.toArray from p) (x:=u) (by simpa using hu) fun h' st' sb=>?_
  have I1:Inv X pins σ H { s with heap:=h' }:=I.turned (t':=s.toks) (fun b o hb e=>(sb.2 b hb).trans e) f0 f1 f3 f4 f5
  obtain⟨o,e,c,d⟩:=id st'
  exact⟨u,rfl,go_of (s:={ s with heap:=h' }) e c d (by decide) ⟨x,H,I1,ru,⟨rfl,fun ys hy=>by rw[I.tuple_inj hy hq];exact hx⟩,st',fun b hb=>(hf b hb).1⟩⟩
 done:=by
  intro X hP hw hK hc i pins s σ H E I hf st hg
  subst hP hw hK
  obtain⟨xs,hq,hx⟩:=hg
  obtain⟨its,rv,p,hz⟩:=I.tuple hq
  obtain⟨f0,f1,f2,f3,f4,f5⟩:=hf it (by simp)
  have hl:=rv.length
  exact wpAny_pyNext_tuple_end (I.ok.hd hc) st (show s.heap.IsTuple a its.toArray from p) (by simp;omega) fun h' eb=>⟨rfl,I.turned (t':=s.toks) (fun b o hb e=>eb b o hb e) f0 f1 f3 f4 f5⟩
 self:=fun _ _ _ _ _ st h=>wpAny_pyIter_tupleiter st h
theorem turn_range{P:Program}{w:World}{K:PySem.W.Frag}{tg:Expr}(it:Addr)(lo:Int)(n:Nat):Turn P w K tg (Itr lo n) [it] it (fun i h=>IsRangeIter h it (lo+(i:Nat) * 1) ((n:Int) - (i:Nat)) 1) where
 mem:=by simp
 obj:=fun i h st b hb=>by
  have e:b=it:=by simpa using hb
  subst e
  exact⟨_,st,fun v z=>by
   have z':Data.fields _=Data.cell v:=z
   cases z'⟩
 keep:=fun i h h' st k=>k it (by simp) _ st
 item:=by
  intro X hP hw hK hc i pins s σ H E I hf st hg
  subst hP hw hK
  obtain⟨f0,f1,f2,f3,f4,f5⟩:=hf it (by simp)
  have W:=Walks.range (prog:=X.prog) (w:=X.w) (I.ok.hd hc) it lo 1 n
  refine W.item i s _ _ hg st fun v h' tk hv st' kk=>?_
  obtain⟨t,rfl⟩:=hv
  have I1:Inv X pins σ H { s with heap:=h',toks:=tk }:=I.turned (fun b o hb e=>kk b o (by simpa using hb) e) f0 f1 f3 f4 f5
  refine⟨_,rfl,go_of (s:={ s with heap:=h',toks:=tk }) (n:="range_iterator") st' rfl rfl (by decide) ⟨.int (lo+i),H,I1,⟨t,?_⟩,⟨rfl,rfl⟩,st',fun b hb=>(hf b hb).1⟩⟩
  rw[Int.mul_one]
 done:=by
  intro X hP hw hK hc i pins s σ H E I hf st hg
  subst hP hw hK
  obtain⟨f0,f1,f2,f3,f4,f5⟩:=hf it (by simp)
  exact wpAny_pyNext_range_end (I.ok.hd hc) st (by have:n≤i:=hg;omega) fun h' eb=>⟨rfl,I.turned (t':=s.toks) (fun b o hb e=>eb b o hb e) f0 f1 f3 f4 f5⟩
 self:=fun _ _ _ _ _ st h=>wpAny_pyIter_rangeiter st h
end L2
namespace L2
open PySem PySem.Spec PyProof.Rows
section
variable{X:Cx}{tg:Expr}
def iList(K:PySem.W.Frag)(tl:TE):TI:=fun σ H R=>tl σ H fun x H1=>∃ a,x = .ref a∧(∃ xs,SqL K H1 a xs)∧R (Itl K a) H1
def iTup(K:PySem.W.Frag)(tl:TE):TI:=fun σ H R=>tl σ H fun x H1=>∃ a,x = .ref a∧(∃ xs,SqT K H1 a xs)∧R (Itt K a) H1
theorem pi_list{l:Expr}{tl:TE}(hl:PE X l tl):PI X tg l (iList X.K tl):=by
 intro pins s σ H R I h
 refine thn (hl pins s σ H _ I h) fun v s1 ⟨x,H1,I1,r1,q1⟩=>?_
 obtain⟨a,e,⟨xs,hq⟩,q⟩:=q1
 subst e
 cases r1
 obtain⟨its,rv,p,hz⟩:=I1.list hq
 refine wpAny_pyIter_list p.isList ?_
 refine⟨s1.heap.objs.size,[s1.heap.objs.size],_,_,H1,rfl,I1.kept (t':=s1.toks) fun b o e=>Heap.get?_push_of_some _ e,turn_list a _,⟨_,Heap.get?_push_size _ rfl,rfl,rfl⟩,fun b hb=>?_,q⟩
 have e:b=s1.heap.objs.size:=by simpa using hb
 subst e
 exact I1.fpOk (Nat.le_refl _) (I1.hok.fresh (Nat.le_refl _))
theorem pi_tup{l:Expr}{tl:TE}(hl:PE X l tl):PI X tg l (iTup X.K tl):=by
 intro pins s σ H R I h
 refine thn (hl pins s σ H _ I h) fun v s1 ⟨x,H1,I1,r1,q1⟩=>?_
 obtain⟨a,e,⟨xs,hq⟩,q⟩:=q1
 subst e
 cases r1
 obtain⟨its,rv,p,hz⟩:=I1.tuple hq
 refine wpAny_pyIter_tuple (show s1.heap.IsTuple a its.toArray from p) ?_
 refine⟨s1.heap.objs.size,[s1.heap.objs.size],_,_,H1,rfl,I1.kept (t':=s1.toks) fun b o e=>Heap.get?_push_of_some _ e,turn_tuple a _,⟨_,Heap.get?_push_size _ rfl,rfl,rfl⟩,fun b hb=>?_,q⟩
 have e:b=s1.heap.objs.size:=by simpa using hb
 subst e
 exact I1.fpOk (Nat.le_refl _) (I1.hok.fresh (Nat.le_refl _))
theorem range_it{pins:List (Addr×Obj)}{σ:St}{H:Hp}{s:Shared}{R:It→Hp→Prop}{E:Value→Shared→Prop}{lo hi:Int}{t u v:Tok}{tk:Nat}(I:Inv X pins σ H s)(h1:-(2 ^ 62)≤lo)(h2:lo < 2 ^ 62)(h3:-(2 ^ 62)≤hi)(h4:hi < 2 ^ 62)
  (q:R (Itr lo (hi - lo).toNat) H):wpAny (model X.prog X.w) X.A (pyIter (.ref s.heap.objs.size)) (PIE X pins σ tg R) E { s with heap:=s.heap.push { cls:=.type "range",data:=.fields #[.int lo t,.int hi u,.int 1 v] },toks:=tk }:=by
 refine wpAny_pyIter_range (IsRange.new ..) (small_one h1 h2 h3 h4) ?_
 have I1:Inv X pins σ H { s with heap:=s.heap.push { cls:=.type "range",data:=.fields #[.int lo t,.int hi u,.int 1 v] },toks:=tk }:=I.kept fun b o e=>Heap.get?_push_of_some _ e
 refine⟨(s.heap.push { cls:=.type "range",data:=.fields #[.int lo t,.int hi u,.int 1 v] }).objs.size,[(s.heap.push { cls:=.type "range",data:=.fields #[.int lo t,.int hi u,.int 1 v] }).objs.size],_,_,H,rfl,
  I1.kept (t':=tk) fun b o e=>Heap.get?_push_of_some _ e,turn_range _ lo (hi - lo).toNat,?_,fun b hb=>?_,q⟩
 ·have e1:lo+((0:Nat):Int) * 1=lo:=by simp
  have e2:(((hi - lo).toNat:Nat):Int) - ((0:Nat):Int)=Builtin.Range.rangeSize lo hi 1:=by rw[rangeSize_one];split<;>omega
  show IsRangeIter _ _ (lo+((0:Nat):Int) * 1) ((((hi - lo).toNat:Nat):Int) - ((0:Nat):Int)) 1
  rw[e1,e2]
  exact Heap.get?_push_size _ rfl
 ·have e:b=(s.heap.push { cls:=.type "range",data:=.fields #[.int lo t,.int hi u,.int 1 v] }).objs.size:=by simpa using hb
  subst e
  exact I1.fpOk (Nat.le_refl _) (I1.hok.fresh (Nat.le_refl _))
def iRng1(ta:TA):TI:=fun σ H R=>ta σ H fun vs H1=>∃ j:Int,vs=[.int j]∧-(2 ^ 62)≤j∧j < 2 ^ 62∧R (Itr 0 j.toNat) H1
theorem pi_range1{a:Expr}{ta:TA}{p pos:Pos}(hg:Gl X "range")(hm:X.mg "range" = none)(ha:PA X [a] ta)(hs:starEach [a] X.env=[(false,eval a X.env)]:=by rfl):PI X tg (.Call (.Name "range" p) [a] [] pos) (iRng1 ta):=by
 intro pins s σ H R I h
 refine Call_ (ld_blt I hg hm boot_range (PyProof.Rows.callWith_type1 (thn (ha pos pins s σ H _ I h) fun us s1 ⟨vs,H1,I1,r1,q1⟩=>?_) hs rfl))
 obtain⟨j,e,q1,q2,q⟩:=q1
 subst e
 cases r1 with
 | cons r rr=>
  cases rr
  obtain⟨t,rfl⟩:=r
  exact call_range_1 (range_it I1 (by omega) (by omega) q1 q2 (by simpa using q))
def tFor(wi:TI)(g:TG)(tb:TS):TS:=fun D σ H=>wi σ H fun J H1=>∃ W:Nat→Nat→St→Hp→Prop,(∃ m,W 0 m σ H1)∧∀ i m σ H,W i m σ H →
 (J.stop i H∧D.nx σ H)∨(J.go i H∧∃ N:St→Hp→Prop,(∀ σ' H',N σ' H'→∃ m',m' < m∧W (i+1) m' σ' H')∧∀ x H',J.yld i H x H'→g x σ H' fun σ2 H2=>tb { D with nx:=N,ct:=N,bk:=D.nx } σ2 H2)
def pinsAt(fp:List Addr)(h:Heap):List (Addr×Obj):=fp.filterMap fun b=>(h.get? b).map fun o=>(b,o)
theorem mem_pinsAt{fp:List Addr}{h:Heap}{b:Addr}{o:Obj}(hb:b∈fp)(e:h.get? b=some o):(b,o)∈pinsAt fp h:=List.mem_filterMap.mpr ⟨b,hb,by rw[e];rfl⟩
theorem of_pinsAt{fp:List Addr}{h:Heap}{p:Addr×Obj}(hp:p∈pinsAt fp h):p.1∈fp∧h.get? p.1=some p.2:=by
 obtain⟨b,hb,e⟩:=List.mem_filterMap.mp hp
 cases q:h.get? b with
 | none=>rw[q] at e;cases e
 | some o=>
  rw[q] at e
  have e':(b,o)=p:=Option.some.inj e
  subst e'
  exact⟨hb,q⟩
theorem Inv.pinned{pins:List (Addr×Obj)}{σ:St}{H:Hp}{s:Shared}{fp:List Addr}(I:Inv X pins σ H s)(hf:∀ b∈fp,FpOk X pins H b)(ho:∀ b∈fp,∃ o,s.heap.get? b=some o∧∀ v,o.data ≠ .cell v):Inv X (pins++pinsAt fp s.heap) σ H s:=
 I.pins_of fun p hp=>(List.mem_append.mp hp).elim (fun z=>I.pin p (List.mem_append_right _ z)) fun z=>by
  obtain⟨hb,e⟩:=of_pinsAt z
  obtain⟨f0,f1,f2,_⟩:=hf p.1 hb
  obtain⟨o,e',d⟩:=ho p.1 hb
  rw[e] at e';cases e'
  exact⟨e,f0,f1,f2,d⟩
theorem Inv.unpinned{pins pl:List (Addr×Obj)}{σ:St}{H:Hp}{s:Shared}(I:Inv X (pins++pl) σ H s):Inv X pins σ H s:=I.pins_of fun p hp=>I.pin p (List.mem_append_right _ (List.mem_append_left _ hp))
theorem ps_for{iter:Expr}{body:List Stmt}{wi:TI}{g:TG}{tb:TS}{pos:Pos}(hp:PassesOwn (model X.prog X.w) X.A X.env X.xe)(hc:X.calm=true)(hi:PI X tg iter wi)(hg:PG X tg g)(hb:PSs X body tb)
  (hs:∀ x,foldedSetIterable iter X.env x=pure x:=by intro _;rfl):PS X (.For tg iter body [] pos) (tFor wi g tb):=by
 intro pins s σ H D I h
 refine wpAny_For (thn (hi pins s σ H _ I h) fun v s1 h1=>thn h1 fun itv s2 h2=>?_) hs
 obtain⟨it,fp,tn,J,H2,e,I2,T,st2,f2,W,⟨m0,w0⟩,turn⟩:=h2
 subst e
 have stat:∀{H':Hp},(∀ b∈fp,H' b=none)→∀ b∈fp,FpOk X pins H' b:=fun hn b hb=>⟨hn b hb,(f2 b hb).2⟩
 refine codeAny_forLoop_any (fun n s'=>∃ i σ' H',Inv X pins σ' H' s'∧tn i s'.heap∧(∀ b∈fp,H' b=none)∧W i n σ' H') ?_ m0 ⟨0,σ,H2,I2,st2,fun b hb=>(f2 b hb).1,w0⟩
 rintro n s3 ⟨i,σ3,H3,I3,st3,fr3,w3⟩
 rcases turn i n σ3 H3 w3 with⟨stop,qn⟩ | ⟨go,N,hN,step⟩
 ·refine wpAny_passesOwn hp (thn (T.done X rfl rfl rfl hc i pins s3 σ3 H3 X.xe I3 (stat fr3) st3 stop) fun r s4 ⟨hr,I4⟩=>?_)
  subst hr
  exact wpAny_execs_nil ⟨σ3,H3,I4,qn⟩
 ·refine wpAny_passesOwn hp (thn (T.item X rfl rfl rfl hc i pins s3 σ3 H3 X.xe I3 (stat fr3) st3 go) fun r s4 ⟨u,hr,h4⟩=>?_)
  subst hr
  refine wpAny_passesOwn hp (thn h4 fun _ s5 ⟨x,H5,I5,r5,y5,st5,fr5⟩=>?_)
  have I5':=I5.pinned (stat fr5) (T.obj _ _ st5)
  refine wpAny_passesOwn hp (thn (hg _ s5 σ3 H5 x u _ I5' r5 (step x H5 y5)) fun _ s6 ⟨σ6,H6,I6,q6⟩=>?_)
  refine wpAny_passesOwn hp (thn (hb _ s6 σ6 H6 _ I6 q6) fun f s7 q7=>?_)
  have again:∀{σ7:St} {H7:Hp},Inv X (pins++pinsAt fp s5.heap) σ7 H7 s7→N σ7 H7→∃ m,m < n∧∃ i σ' H',Inv X pins σ' H' s7∧tn i s7.heap∧(∀ b∈fp,H' b=none)∧W i m σ' H':=fun {σ7 H7} I7 n7=>by
   obtain⟨m',hm,w7⟩:=hN σ7 H7 n7
   refine⟨m',hm,i+1,σ7,H7,I7.unpinned,T.keep _ _ _ st5 fun b hb o e=>(I7.pin (b,o) (List.mem_append_right _ (List.mem_append_right _ (mem_pinsAt hb e)))).1,fun b hb=>?_,w7⟩
   obtain⟨o,e,d⟩:=T.obj _ _ st5 b hb
   exact(I7.pin (b,o) (List.mem_append_right _ (List.mem_append_right _ (mem_pinsAt hb e)))).2.1
  cases f with
  | next=>obtain⟨σ7,H7,I7,n7⟩:=q7;exact again I7 n7
  | cont=>obtain⟨σ7,H7,I7,n7⟩:=q7;exact again I7 n7
  | brk=>obtain⟨σ7,H7,I7,q7⟩:=q7;exact⟨σ7,H7,I7.unpinned,q7⟩
  | ret v=>obtain⟨x7,σ7,H7,I7,r7,q7⟩:=q7;exact⟨x7,σ7,H7,I7.unpinned,r7,q7⟩
end
theorem for_list{K:PySem.W.Frag}{a:Addr}{xs:List V}{g:TG}{tb:TS}{D:Ends}{σ:St}{H:Hp}(Pv:Nat→St→Hp→Prop)(h0:Pv 0 σ H)(hl:∀ i σ H,i≤xs.length→Pv i σ H→SqL K H a xs)
  (hs:∀ i x σ H,xs[i]? = some x→Pv i σ H→g x σ H fun σ2 H2=>tb { D with nx:=Pv (i+1),ct:=Pv (i+1),bk:=D.nx } σ2 H2) (hd:∀ σ H,Pv xs.length σ H→D.nx σ H) :
  ∃ W:Nat→Nat→St→Hp→Prop,(∃ m,W 0 m σ H)∧∀ i m σ H,W i m σ H →
   ((Itl K a).stop i H∧D.nx σ H)∨((Itl K a).go i H∧∃ N:St→Hp→Prop,(∀ σ' H',N σ' H'→∃ m',m' < m∧W (i+1) m' σ' H')∧∀ x H',(Itl K a).yld i H x H'→g x σ H' fun σ2 H2=>tb { D with nx:=N,ct:=N,bk:=D.nx } σ2 H2):=by
 refine⟨fun i m σ H=>m=xs.length - i∧i≤xs.length∧Pv i σ H,⟨xs.length,by simp,Nat.zero_le _,h0⟩,?_⟩
 rintro i m σ H ⟨rfl,hi,p⟩
 have q:=hl i σ H hi p
 by_cases hlt:i < xs.length
 ·refine .inr ⟨⟨xs,xs[i],q,by simp [hlt]⟩,Pv (i+1),fun σ' H' p'=>⟨xs.length - (i+1),by omega,rfl,hlt,p'⟩,fun x H' y=>?_⟩
  obtain⟨e,y⟩:=y
  subst e
  exact hs i x σ _ (y xs q) p
 ·have e:i=xs.length:=by omega
  subst e
  exact .inl ⟨⟨xs,q,Nat.le_refl _⟩,hd σ H p⟩
theorem for_range{lo:Int}{n:Nat}{g:TG}{tb:TS}{D:Ends}{σ:St}{H:Hp}(Pv:Nat→St→Hp→Prop)(h0:Pv 0 σ H)
  (hs:∀ i σ H,i < n→Pv i σ H→g (.int (lo+i)) σ H fun σ2 H2=>tb { D with nx:=Pv (i+1),ct:=Pv (i+1),bk:=D.nx } σ2 H2) (hd:∀ σ H,Pv n σ H→D.nx σ H) :
  ∃ W:Nat→Nat→St→Hp→Prop,(∃ m,W 0 m σ H)∧∀ i m σ H,W i m σ H →
   ((Itr lo n).stop i H∧D.nx σ H)∨((Itr lo n).go i H∧∃ N:St→Hp→Prop,(∀ σ' H',N σ' H'→∃ m',m' < m∧W (i+1) m' σ' H')∧∀ x H',(Itr lo n).yld i H x H'→g x σ H' fun σ2 H2=>tb { D with nx:=N,ct:=N,bk:=D.nx } σ2 H2):=by
 refine⟨fun i m σ H=>m=n - i∧i≤n∧Pv i σ H,⟨n,by simp,Nat.zero_le _,h0⟩,?_⟩
 rintro i m σ H ⟨rfl,hi,p⟩
 by_cases hlt:i < n
 ·refine .inr ⟨hlt,Pv (i+1),fun σ' H' p'=>⟨n - (i+1),by omega,rfl,hlt,p'⟩,fun x H' y=>?_⟩
  obtain⟨e,y⟩:=y
  subst e y
  exact hs i σ _ hlt p
 ·have e:i=n:=by omega
  subst e
  exact .inl ⟨Nat.le_refl _,hd σ H p⟩
theorem while_by{c:TT}{tb:TS}{D:Ends}{σ:St}{H:Hp}(Pv:St→Hp→Prop)(μ:St→Hp→Nat)(h0:Pv σ H)
  (hs:∀ σ H,Pv σ H→c σ H fun b H1=>if b=true then tb { D with nx:=fun σ' H'=>Pv σ' H'∧μ σ' H' < μ σ H,ct:=fun σ' H'=>Pv σ' H'∧μ σ' H' < μ σ H,bk:=D.nx } σ H1 else D.nx σ H1)
  (mono:∀ σ H Q Q',(∀ b H1,Q b H1→Q' b H1)→c σ H Q→c σ H Q'):tWhile c tb D σ H:=by
 refine⟨fun m σ H=>m=μ σ H∧Pv σ H,⟨_,rfl,h0⟩,?_⟩
 rintro m σ H ⟨rfl,p⟩
 refine mono σ H _ _ (fun b H1 q=>?_) (hs σ H p)
 cases b with
 | true=>exact⟨_,fun σ' H' ⟨p',l⟩=>⟨_,l,rfl,p'⟩,q⟩
 | false=>exact q
end L2
namespace L2
open PySem PySem.Spec PyProof.Rows
abbrev R2:=V→V→Hp→VK→Prop
def OpR(X:Cx)(f:Value→Value→Sem Value)(r:R2):Prop:=
 ∀(pins:List (Addr×Obj)) (s:Shared) (σ:St) (H:Hp) (x y:V) (v u:Value) (Q:VK),Inv X pins σ H s→RelV x v→RelV y u→r x y H Q →
  wpAny (model X.prog X.w) X.A (f v u) (EP X pins σ Q) X.xe s
def CallR(X:Cx)(f:Value)(r:List V→Hp→VK→Prop):Prop:=
 ∀(pins:List (Addr×Obj)) (s:Shared) (σ:St) (H:Hp) (xs:List V) (us:List Value) (Q:VK),Inv X pins σ H s→Vals xs us→r xs H Q →
  wpAny (model X.prog X.w) X.A (call f us) (EP X pins σ Q) X.xe s
def TruR(X:Cx)(r:V→Hp→(Bool→Hp→Prop)→Prop):Prop:=
 ∀(pins:List (Addr×Obj)) (s:Shared) (σ:St) (H:Hp) (x:V) (v:Value) (Q:Bool→Hp→Prop),Inv X pins σ H s→RelV x v→r x H Q →
  wpAny (model X.prog X.w) X.A (truthy v) (TP X pins σ Q) X.xe s
def tOp(r:R2)(ta tb:TE):TE:=fun σ H Q=>ta σ H fun x H1=>tb σ H1 fun y H2=>r x y H2 Q
def rI(C:Int→Int→Prop)(g:Int→Int→V):R2:=fun x y H Q=>∃ i j,x = .int i∧y = .int j∧C i j∧Q (g i j) H
def rI0(g:Int→Int→V):R2:=fun x y H Q=>∃ i j,x = .int i∧y = .int j∧Q (g i j) H
section
variable{X:Cx}{a b c:Expr}{ta tb tc:TE}{pos:Pos}
theorem binT(ha:PE X a ta)(hb:PE X b tb){pins:List (Addr×Obj)}{s:Shared}{σ:St}{H:Hp}{R:V→V→Hp→Prop}(I:Inv X pins σ H s)
  (h:ta σ H fun x H1=>tb σ H1 fun y H2=>R x y H2) {Q:Value→Shared→Prop} {f:Value→Value→Sem Value}
  (hf:∀ v u s2 x y H2,Inv X pins σ H2 s2→RelV x v→RelV y u→R x y H2→wpAny (model X.prog X.w) X.A (f v u) Q X.xe s2) :
  wpAny (model X.prog X.w) X.A (eval a X.env) (fun v s₁=>wpAny (model X.prog X.w) X.A (eval b X.env) (fun u s₂=>wpAny (model X.prog X.w) X.A (f v u) Q X.xe s₂) X.xe s₁) X.xe s:=by
 refine thn (ha pins s σ H _ I h) fun v s1 ⟨x,H1,I1,r1,q1⟩=>?_
 refine thn (hb pins s1 σ H1 _ I1 q1) fun u s2 ⟨y,H2,I2,r2,q2⟩=>?_
 exact hf v u s2 x y H2 I2 r1 r2 q2
theorem pe_op{op:Operator}{r:R2}(ho:OpR X (binaryOp op) r)(ha:PE X a ta)(hb:PE X b tb):PE X (.BinOp a op b pos) (tOp r ta tb):=by
 intro pins s σ H Q I h
 exact wpAny_BinOp (binT ha hb I h fun v u s2 x y H2 I2 rx ry q=>ho pins s2 σ H2 x y v u Q I2 rx ry q)
theorem opI{f:Value→Value→Sem Value}{C:Int→Int→Prop}{g:Int→Int→Int}
  (rule:∀(i j:Int) (t u:Tok) (s:Shared) (Q:Value→Shared→Prop) (E:Value→Shared→Prop),C i j→Q (.int (g i j) s.toks) { s with toks:=s.toks+1 }→wpAny (model X.prog X.w) X.A (f (.int i t) (.int j u)) Q E s) :
  OpR X f (rI C fun i j=>.int (g i j)):=by
 intro pins s σ H x y v u Q I rx ry h
 obtain⟨i,j,rfl,rfl,hc,q⟩:=h
 obtain⟨t,rfl⟩:=rx
 obtain⟨t',rfl⟩:=ry
 exact rule i j t t' s _ _ hc ⟨.int (g i j),H,I.tok _,⟨_,rfl⟩,q⟩
theorem opI0{f:Value→Value→Sem Value}{g:Int→Int→Int}
  (rule:∀(i j:Int) (t u:Tok) (s:Shared) (Q:Value→Shared→Prop) (E:Value→Shared→Prop),Q (.int (g i j) s.toks) { s with toks:=s.toks+1 }→wpAny (model X.prog X.w) X.A (f (.int i t) (.int j u)) Q E s) :
  OpR X f (rI0 fun i j=>.int (g i j)):=by
 intro pins s σ H x y v u Q I rx ry h
 obtain⟨i,j,rfl,rfl,q⟩:=h
 obtain⟨t,rfl⟩:=rx
 obtain⟨t',rfl⟩:=ry
 exact rule i j t t' s _ _ ⟨.int (g i j),H,I.tok _,⟨_,rfl⟩,q⟩
theorem opB0{f:Value→Value→Sem Value}{g:Int→Int→Bool}
  (rule:∀(i j:Int) (t u:Tok) (s:Shared) (Q:Value→Shared→Prop) (E:Value→Shared→Prop),Q (.bool (g i j)) s→wpAny (model X.prog X.w) X.A (f (.int i t) (.int j u)) Q E s) :
  OpR X f (rI0 fun i j=>.bl (g i j)):=by
 intro pins s σ H x y v u Q I rx ry h
 obtain⟨i,j,rfl,rfl,q⟩:=h
 obtain⟨t,rfl⟩:=rx
 obtain⟨t',rfl⟩:=ry
 exact rule i j t t' s _ _ ⟨.bl (g i j),H,I,rfl,q⟩
def CDiv(i j:Int):Prop:=0 < j∧j < 1073741824
def CPow(i j:Int):Prop:=0≤j∧j≤1000000∧i.natAbs < 2 ^ 64
def CMul(i j:Int):Prop:=(-(2 ^ 64) < i∧i < 2 ^ 64)∨(-(2 ^ 64) < j∧j < 2 ^ 64)
theorem CMul.ok{i j:Int}(h:CMul i j):IntMulOk i j:=by
 rcases h with⟨h1,h2⟩ | ⟨h1,h2⟩
 ·exact .of_left (intBits_le_64 h1 h2)
 ·exact .of_right (intBits_le_64 h1 h2)
theorem two_pow_nn(k:Nat):(0:Int)≤2 ^ k:=by
 rw[two_pow_cast]
 exact Int.natCast_nonneg _
theorem op_add:OpR X (binaryOp .Add) (rI0 fun i j=>.int (i+j)):=opI0 fun _ _ _ _ _ _ _ q=>add_int q
theorem op_sub:OpR X (binaryOp .Sub) (rI0 fun i j=>.int (i - j)):=opI0 fun _ _ _ _ _ _ _ q=>sub_int q
theorem op_mul:OpR X (binaryOp .Mult) (rI CMul fun i j=>.int (i * j)):=opI fun _ _ _ _ _ _ _ hc q=>mul_int q hc.ok
theorem op_fdiv:OpR X (binaryOp .FloorDiv) (rI CDiv fun i j=>.int (i / j)):=opI fun i j _ _ _ _ _ hc q=>by
 have h1:(0:Int) < j:=hc.1
 have h2:j < 1073741824:=hc.2
 exact floordiv_int (by omega) (by rw[Int.fdiv_eq_ediv_of_nonneg i (by omega)];exact q) (.inl (PyProof.noPylong_small (by omega)))
theorem op_mod:OpR X (binaryOp .Mod) (rI (fun _ j=>0 < j) fun i j=>.int (i % j)):=opI fun i j _ _ _ _ _ hc q=>by
 have h1:(0:Int) < j:=hc
 exact mod_int' (by omega) (by rw[Int.fmod_eq_emod_of_nonneg i (by omega)];exact q)
theorem op_pow:OpR X (binaryOp .Pow) (rI CPow fun i j=>.int (i ^ j.toNat)):=opI fun _ _ _ _ _ _ _ hc q=>pow_int_small hc.1 hc.2.1 hc.2.2 q
theorem op_shl:OpR X (binaryOp .LShift) (rI CPow fun i j=>.int (i * 2 ^ j.toNat)):=opI fun _ _ _ _ _ _ _ hc q=>lshift_int_small hc.1 hc.2.1 hc.2.2 q
theorem op_shr:OpR X (binaryOp .RShift) (rI (fun _ j=>0≤j) fun i j=>.int (i / 2 ^ j.toNat)):=opI fun i j _ _ _ _ _ hc q=>
 rshift_int hc (by rw[Int.fdiv_eq_ediv_of_nonneg i (two_pow_nn _)];exact q)
theorem op_and:OpR X (binaryOp .BitAnd) (rI0 fun i j=>.int (Builtin.bitAnd i j)):=opI0 fun _ _ _ _ _ _ _ q=>and_int q
theorem op_or:OpR X (binaryOp .BitOr) (rI0 fun i j=>.int (Builtin.bitOr i j)):=opI0 fun _ _ _ _ _ _ _ q=>or_int q
end
def scal:V→V→Bool
 | .non,.non=>true | .non,.int _=>true | .int _,.non=>true | .non,.bl _=>true | .bl _,.non=>true | .non,.str _=>true | .str _,.non=>true
 | .int _,.int _=>true | .bl _,.bl _=>true | .str _,.str _=>true | .byt _,.byt _=>true
 | .int _,.str _=>true | .str _,.int _=>true | .bl _,.str _=>true | .str _,.bl _=>true
 | _,_=>false
def rEq:R2:=fun x y H Q=>scal x y=true∧Q (.bl (decide (x=y))) H
def rNe:R2:=fun x y H Q=>scal x y=true∧Q (.bl (!decide (x=y))) H
theorem dec_int{i j:Int}:decide (V.int i=V.int j)=(i == j):=by
 rw[Bool.eq_iff_iff]
 simp
theorem dec_bl{i j:Bool}:decide (V.bl i=V.bl j)=(i == j):=by
 rw[Bool.eq_iff_iff]
 simp
theorem dec_str{i j:Str}:decide (V.str i=V.str j)=(i == j):=by
 rw[Bool.eq_iff_iff]
 simp
theorem dec_byt{i j:Array UInt8}:decide (V.byt i=V.byt j)=(i.toList == j.toList):=by
 rw[Bool.eq_iff_iff]
 cases i
 cases j
 simp
section
variable{X:Cx}{a b c:Expr}{ta tb tc:TE}{pos:Pos}
theorem fin_bl{pins:List (Addr×Obj)}{σ:St}{H:Hp}{s:Shared}{Q:VK}{k k':Bool}(I:Inv X pins σ H s)(q:Q (.bl k) H)(e:k=k'):EP X pins σ Q (.bool k') s:=by
 subst e
 exact⟨.bl k,H,I,rfl,q⟩
theorem op_eq:OpR X (compareOp .Eq) rEq:=by
 intro pins s σ H x y v u Q I rx ry h
 obtain⟨hs,q⟩:=h
 cases x with
 | non=>
  cases rx
  cases y with
  | non=>cases ry;exact PySem.EqNone.eq_none_none (fin_bl I q (by simp))
  | bl j=>cases ry;exact PySem.EqNone.eq_none_bool (fin_bl I q (by simp))
  | int j=>obtain⟨t',rfl⟩:=ry;exact PySem.EqNone.eq_none_int (fin_bl I q (by simp))
  | str j=>obtain⟨t',rfl⟩:=ry;exact PySem.EqNone.eq_none_str (fin_bl I q (by simp))
  | _=>exact absurd (show false=true from hs) Bool.false_ne_true
 | bl i=>
  cases rx
  cases y with
  | non=>cases ry;exact PySem.EqNone.eq_bool_none (fin_bl I q (by simp))
  | bl j=>cases ry;exact eq_bool (fin_bl I q dec_bl)
  | str j=>obtain⟨t',rfl⟩:=ry;exact PySem.EqMixed.eq_bool_str (fin_bl I q (by simp))
  | _=>exact absurd (show false=true from hs) Bool.false_ne_true
 | int i=>
  obtain⟨t,rfl⟩:=rx
  cases y with
  | non=>cases ry;exact PySem.EqNone.eq_int_none (fin_bl I q (by simp))
  | int j=>obtain⟨t',rfl⟩:=ry;exact eq_int (fin_bl I q dec_int)
  | str j=>obtain⟨t',rfl⟩:=ry;exact PySem.EqMixed.eq_int_str (fin_bl I q (by simp))
  | _=>exact absurd (show false=true from hs) Bool.false_ne_true
 | str i=>
  obtain⟨t,rfl⟩:=rx
  cases y with
  | non=>cases ry;exact PySem.EqNone.eq_str_none (fin_bl I q (by simp))
  | bl j=>cases ry;exact PySem.EqMixed.eq_str_bool (fin_bl I q (by simp))
  | int j=>obtain⟨t',rfl⟩:=ry;exact PySem.EqMixed.eq_str_int (fin_bl I q (by simp))
  | str j=>obtain⟨t',rfl⟩:=ry;exact eq_str (fin_bl I q dec_str)
  | _=>exact absurd (show false=true from hs) Bool.false_ne_true
 | byt i=>
  obtain⟨t,rfl⟩:=rx
  cases y with
  | byt j=>obtain⟨t',rfl⟩:=ry;exact PySem.W.eq_bytes (fin_bl I q dec_byt)
  | _=>exact absurd (show false=true from hs) Bool.false_ne_true
 | _=>cases y<;>exact absurd (show false=true from hs) Bool.false_ne_true
theorem op_ne:OpR X (compareOp .NotEq) rNe:=by
 intro pins s σ H x y v u Q I rx ry h
 obtain⟨hs,q⟩:=h
 cases x with
 | non=>
  cases rx
  cases y with
  | non=>cases ry;exact PySem.EqNone.ne_none_none (fin_bl I q (by simp))
  | bl j=>cases ry;exact PySem.EqNone.ne_none_bool (fin_bl I q (by simp))
  | int j=>obtain⟨t',rfl⟩:=ry;exact PySem.EqNone.ne_none_int (fin_bl I q (by simp))
  | str j=>obtain⟨t',rfl⟩:=ry;exact PySem.EqNone.ne_none_str (fin_bl I q (by simp))
  | _=>exact absurd (show false=true from hs) Bool.false_ne_true
 | bl i=>
  cases rx
  cases y with
  | non=>cases ry;exact PySem.EqNone.ne_bool_none (fin_bl I q (by simp))
  | bl j=>cases ry;exact ne_bool (fin_bl I q (congrArg not dec_bl))
  | str j=>obtain⟨t',rfl⟩:=ry;exact PySem.EqMixed.ne_bool_str (fin_bl I q (by simp))
  | _=>exact absurd (show false=true from hs) Bool.false_ne_true
 | int i=>
  obtain⟨t,rfl⟩:=rx
  cases y with
  | non=>cases ry;exact PySem.EqNone.ne_int_none (fin_bl I q (by simp))
  | int j=>obtain⟨t',rfl⟩:=ry;exact ne_int (fin_bl I q (congrArg not dec_int))
  | str j=>obtain⟨t',rfl⟩:=ry;exact PySem.EqMixed.ne_int_str (fin_bl I q (by simp))
  | _=>exact absurd (show false=true from hs) Bool.false_ne_true
 | str i=>
  obtain⟨t,rfl⟩:=rx
  cases y with
  | non=>cases ry;exact PySem.EqNone.ne_str_none (fin_bl I q (by simp))
  | bl j=>cases ry;exact PySem.EqMixed.ne_str_bool (fin_bl I q (by simp))
  | int j=>obtain⟨t',rfl⟩:=ry;exact PySem.EqMixed.ne_str_int (fin_bl I q (by simp))
  | str j=>obtain⟨t',rfl⟩:=ry;exact ne_str (fin_bl I q (congrArg not dec_str))
  | _=>exact absurd (show false=true from hs) Bool.false_ne_true
 | byt i=>
  obtain⟨t,rfl⟩:=rx
  cases y with
  | byt j=>obtain⟨t',rfl⟩:=ry;exact PySem.W.ne_bytes (fin_bl I q (congrArg not dec_byt))
  | _=>exact absurd (show false=true from hs) Bool.false_ne_true
 | _=>cases y<;>exact absurd (show false=true from hs) Bool.false_ne_true
theorem op_lt:OpR X (compareOp .Lt) (rI0 fun i j=>.bl (decide (i < j))):=opB0 fun _ _ _ _ _ _ _ q=>lt_int q
theorem op_gt:OpR X (compareOp .Gt) (rI0 fun i j=>.bl (decide (j < i))):=opB0 fun _ _ _ _ _ _ _ q=>gt_int q
theorem nomark(b:Expr){op:CmpOp}(h:op ≠ .In:=by decide)(h2:op ≠ .NotIn:=by decide):behindInMarks op b=false:=by
 have e1:(op == CmpOp.In)=false:=by cases op<;>first | rfl | exact absurd rfl h
 have e2:(op == CmpOp.NotIn)=false:=by cases op<;>first | rfl | exact absurd rfl h2
 cases b<;>simp [behindInMarks,e1,e2]
theorem pe_cmpR{op:CmpOp}{r:R2}(ho:OpR X (compareOp op) r)(ha:PE X a ta)(hb:PE X b tb)(hm:behindInMarks op b=false):PE X (.Compare a [op] [b] pos) (tOp r ta tb):=by
 intro pins s σ H Q I h
 exact wpAny_Compare1 (binT ha hb I h fun v u s2 x y H2 I2 rx ry q=>ho pins s2 σ H2 x y v u Q I2 rx ry q) hm
def tTest(t:TE):TT:=fun σ H Q=>t σ H fun x H'=>∃ k,x = .bl k∧Q k H'
theorem pt_cmpR{op:CmpOp}{r:R2}(ho:OpR X (compareOp op) r)(ha:PE X a ta)(hb:PE X b tb)(hm:behindInMarks op b=false):PT X (.Compare a [op] [b] pos) (tTest (tOp r ta tb)):=by
 intro pins s σ H Q I h
 refine wpAny_isTrue_Compare1 (thn (ha pins s σ H _ I h) fun v s1 ⟨x,H1,I1,r1,q1⟩=>thn (hb pins s1 σ H1 _ I1 q1) fun u s2 ⟨y,H2,I2,r2,q2⟩=>
  thn (ho pins s2 σ H2 x y v u _ I2 r1 r2 q2) fun c s3 ⟨z,H3,I3,r3,k,e,q3⟩=>?_) hm
 subst e
 cases r3
 exact wpAny_truthy_bool ⟨H3,I3,q3⟩
def TruV(K:PySem.W.Frag)(x:V)(H:Hp)(k:Bool):Prop:=
 match x with
 | .non=>k=false
 | .bl b=>k=b
 | .int i=>k=(i != 0)
 | .str y=>y.length≤sizeLine∧k=((y.length:Int) != 0)
 | .byt y=>y.size≤sizeLine∧k=((y.size:Int) != 0)
 | .ref p=>(∃ xs,SqL K H p xs∧k = !xs.isEmpty)∨(∃ xs,SqT K H p xs∧k = !xs.isEmpty)∨∃ kvs,H p=some (.dK kvs)∧k = !kvs.isEmpty
 | _=>False
theorem isEmpty_kv{κ:Type}{kvs:List (κ×V)}{vs:List (κ×Value)}(r:KV kvs vs):(!vs.isEmpty) = !kvs.isEmpty:=by
 cases r<;>rfl
theorem isEmpty_of{xs:List V}{its:List Value}(r:Vals xs its):(!its.toArray.isEmpty) = !xs.isEmpty:=by
 cases r<;>simp
theorem line63:(sizeLine:Nat) < 2 ^ 63:=by rw[sizeLine_eq];decide
theorem tru_ok:TruR X (fun x H Q=>∃ k,TruV X.K x H k∧Q k H):=by
 intro pins s σ H x v Q I rx h
 obtain⟨k,e,q⟩:=h
 have hl:=line63
 have hs:sizeLine=16777216:=sizeLine_eq
 cases x with
 | non=>
  cases rx
  have e':k=false:=e
  subst e'
  exact truthy_none ⟨H,I,q⟩
 | bl b=>
  cases rx
  have e':k=b:=e
  subst e'
  exact wpAny_truthy_bool ⟨H,I,q⟩
 | int i=>
  obtain⟨t,rfl⟩:=rx
  have e':k=(i != 0):=e
  subst e'
  exact PySem.P.truthy_int ⟨H,I,q⟩
 | str y=>
  obtain⟨t,rfl⟩:=rx
  obtain⟨hy,e'⟩:y.length≤sizeLine∧k=((y.length:Int) != 0):=e
  subst e'
  exact PySem.P.truthy_str (by omega) ⟨H,I.tok _,q⟩
 | byt y=>
  obtain⟨t,rfl⟩:=rx
  obtain⟨hy,e'⟩:y.size≤sizeLine∧k=((y.size:Int) != 0):=e
  subst e'
  exact PySem.W.truthy_bytes (by omega) ⟨H,I.tok _,q⟩
 | ref p=>
  cases rx
  have e':(∃ xs,SqL X.K H p xs∧k = !xs.isEmpty)∨(∃ xs,SqT X.K H p xs∧k = !xs.isEmpty)∨∃ kvs,H p=some (.dK kvs)∧k = !kvs.isEmpty:=e
  rcases e' with⟨xs,hx,e'⟩ | ⟨xs,hx,e'⟩ | ⟨kvs,hx,e'⟩
  ·subst e'
   obtain⟨its,r,pl,hz⟩:=I.list hx
   have hlen:=r.length
   exact wpAny_truthy_list pl.isList (by simp only[List.size_toArray];omega) ⟨H,I.tok _,by rw[isEmpty_of r];exact q⟩
  ·subst e'
   obtain⟨its,r,pl,hz⟩:=I.tuple hx
   have hlen:=r.length
   exact truthy_tuple pl (by simp only[List.size_toArray];omega) ⟨H,I.tok _,by rw[isEmpty_of r];exact q⟩
  ·subst e'
   obtain⟨hz,hS,vs,r,m⟩:kvs.length≤sizeLine∧(p == sysModules)=false∧∃ vs,KV kvs vs∧s.heap.DictOf (mixKind X.prog X.w) p vs:=I.hok p _ hx
   have hlen:kvs.length=vs.length:=Paired.length r
   exact wpAny_truthy_dict hS m (by omega) ⟨H,I.tok _,by rw[isEmpty_kv r];exact q⟩
 | _=>exact(show False from e).elim
theorem vals1{x:V}{us:List Value}(r:Vals [x] us):∃ u,us=[u]∧RelV x u:=by
 cases r with
 | cons r1 r2=>cases r2;exact⟨_,rfl,r1⟩
theorem vals2{x y:V}{us:List Value}(r:Vals [x,y] us):∃ u w',us=[u,w']∧RelV x u∧RelV y w':=by
 cases r with
 | cons r1 r2=>
  cases r2 with
  | cons r3 r4=>cases r4;exact⟨_,_,rfl,r1,r3⟩
theorem call_max2(hc:X.calm=true):CallR X (.builtin "max") (fun xs H Q=>∃ i j,xs=[.int i,.int j]∧Q (.int (if j > i then j else i)) H):=by
 intro pins s σ H xs us Q I r h
 obtain⟨i,j,rfl,q⟩:=h
 obtain⟨u,w',rfl,⟨t,rfl⟩,⟨t',rfl⟩⟩:=vals2 r
 refine max_two_ints (I.ok.hd hc) fun h' tk k=>⟨_,H,I.kept k,?_,q⟩
 by_cases hj:j > i
 ·rw[if_pos hj,if_pos hj];exact⟨_,rfl⟩
 ·rw[if_neg hj,if_neg hj];exact⟨_,rfl⟩
theorem call_min2(hc:X.calm=true):CallR X (.builtin "min") (fun xs H Q=>∃ i j,xs=[.int i,.int j]∧Q (.int (if j < i then j else i)) H):=by
 intro pins s σ H xs us Q I r h
 obtain⟨i,j,rfl,q⟩:=h
 obtain⟨u,w',rfl,⟨t,rfl⟩,⟨t',rfl⟩⟩:=vals2 r
 refine min_two_ints (I.ok.hd hc) fun h' tk k=>⟨_,H,I.kept k,?_,q⟩
 by_cases hj:j < i
 ·rw[if_pos hj,if_pos hj];exact⟨_,rfl⟩
 ·rw[if_neg hj,if_neg hj];exact⟨_,rfl⟩
end
end L2
namespace L2
open PySem PySem.Spec PyProof.Rows
section
variable{prog:Program}{w:World}{A:Around}{E:Value→Shared→Prop}{s:Shared}{K:PySem.W.Frag}{x dx C f:Addr}{mA:Str→Option Value}{name:Str}{v:Value}
end
section
variable{P:Program}{w:World}{H H':Hp}{h h':Heap}{a C dx:Addr}{fs fs':List (Str×V)}
end
section
variable{X:Cx}{pins:List (Addr×Obj)}{σ:St}{H:Hp}{s:Shared}{a C dx:Addr}{fs:List (Str×V)}{f:Str}{v:V}{A:Around}{E:Value→Shared→Prop}
end
section
variable{X:Cx}{o e value:Expr}{f:Str}{pos pos' tpos:Pos}{ta tv:TE}
end
section
variable{X:Cx}{pins:List (Addr×Obj)}{σ:St}{H:Hp}{s:Shared}{A:Around}{E:Value→Shared→Prop}{Q:Value→Shared→Prop}{c:Value}{b:Bool}
end
end L2
namespace L2
open PySem PySem.Spec PyProof.Rows
structure Room(k:Nat)(A:Around):Prop where
 hd:A.handled=none
 dp:A.depth+3 * k+5 < recursionLimit
 un:A.units+16 * k+200 < cLine
theorem Room.deeper{k:Nat}{A:Around}(r:Room (k+1) A)(env:Env):Room k (A.deeper env):=
 ⟨r.hd,by have:=r.dp;show A.depth+1+3 * k+5 < _;omega,by have:=r.un;show A.units+3+16 * k+200 < _;omega⟩
theorem Room.depth{k:Nat}{A:Around}(r:Room k A):A.depth < recursionLimit:=by have:=r.dp;omega
theorem Room.units{k:Nat}{A:Around}(r:Room k A):A.units+64 < cLine:=by have:=r.un;omega
def tNil:TA:=fun _ H Q=>Q [] H
def tCons(ta:TE)(tr:TA):TA:=fun σ H Q=>ta σ H fun x H1=>tr σ H1 fun xs H2=>Q (x :: xs) H2
section
variable{X:Cx}{e:Expr}{es:List Expr}{te:TE}{t:TA}{pos:Pos}
theorem pa_nil:PA X [] tNil:=fun _ _ _ _ H Q I h=>Calls.spliced_nil ⟨[],H,I,.nil,h⟩
theorem pa_cons(ha:PE X e te)(hr:PA X es t)(hs:starEach (e :: es) X.env=(false,eval e X.env) :: starEach es X.env:=by rfl):PA X (e :: es) (tCons te t):=by
 intro pos pins s σ H Q I h
 rw[hs]
 show wpAny _ _ (spliced ((false,eval e X.env) :: backTo pos (starEach es X.env))) _ _ s
 refine Calls.spliced_cons (thn (ha pins s σ H _ I h) fun u s1 ⟨x,H1,I1,r1,q1⟩=>?_)
 exact thn (hr pos pins s1 σ H1 _ I1 q1) fun us s2 ⟨xs,H2,I2,r2,q2⟩=>⟨x :: xs,H2,I2,.cons r1 r2,q2⟩
def tTup(t:TA):TE:=fun σ H Q=>t σ H fun xs H1=>xs.length≤sizeLine∧∀ p,H1 p=none→Q (.ref p) (upd H1 p (.tup xs))
def tLst(t:TA):TE:=fun σ H Q=>t σ H fun xs H1=>xs.length≤sizeLine∧∀ p,H1 p=none→Q (.ref p) (upd H1 p (.lst xs))
theorem pe_tup{x1}(h:PA X es t):PE X (.Tuple es x1 pos) (tTup t):=by
 intro pins s σ H Q I hq
 refine wpAny_Tuple_spliced (thn (h pos pins s σ H _ I hq) fun us s1 ⟨xs,H1,I1,r,z,q⟩=>⟨by rw[← r.length];exact z,?_⟩)
 have hf:H1 s1.heap.objs.size=none:=I1.hok.fresh (Nat.le_refl _)
 refine⟨.ref s1.heap.objs.size,upd H1 s1.heap.objs.size (.tup xs),I1.laid (t':=s1.toks) (fun b u e=>Heap.get?_push_of_some _ e) (Nat.le_refl _) ?_,rfl,q _ hf⟩
 exact⟨z,us,r,⟨_,Heap.get?_push_size _ rfl,rfl,_,rfl⟩⟩
theorem pe_lst(h:PA X es t):PE X (.List es pos) (tLst t):=by
 intro pins s σ H Q I hq
 refine wpAny_List_spliced (thn (h pos pins s σ H _ I hq) fun us s1 ⟨xs,H1,I1,r,z,q⟩=>⟨by rw[← r.length];exact z,?_⟩)
 have hf:H1 s1.heap.objs.size=none:=I1.hok.fresh (Nat.le_refl _)
 refine⟨.ref s1.heap.objs.size,upd H1 s1.heap.objs.size (.lst xs),I1.laid (t':=s1.toks) (fun b u e=>Heap.get?_push_of_some _ e) (Nat.le_refl _) ?_,rfl,q _ hf⟩
 exact⟨z,us,0,r,Heap.get?_push_size _ rfl⟩
end
abbrev Sp:=List V→Hp→VK→XK→Prop
abbrev CXT:=List Env→Hp→Shared→XK→Value→Shared→Prop
structure Env0(P:Program)(w:World)(K:PySem.W.Frag)(mg:Str→Option Value)(base:Heap)(A:Around)(outer:List Env)(s:Shared)(H:Hp):Prop where
 frames:A.frames=some outer
 mod:Mod K mg base
 bs:∀ b o,base.get? b=some o→s.heap.get? b=some o∧H b=none
 bsz:base.objs.size≤s.heap.objs.size
 funs:s.heap.FunFrames base outer
 frf:∀ b∈frs outer,H b=none
 hok:HOk P w H s.heap
 bare:AllBare s.gens
def CE(outer:List Env)(P:Program)(w:World)(H:Hp)(s:Shared)(Q:VK)(u:Value)(s':Shared):Prop:=
 ∃ v H',s'.os=s.os∧AllBare s'.gens∧Un (frs outer) [] H H' s.heap s'.heap∧HOk P w H' s'.heap∧RelV v u∧Q v H'
def CR(CX:CXT)(outer:List Env)(P:Program)(w:World)(H:Hp)(s:Shared)(Q:VK)(E:XK)(r:Result)(s':Shared):Prop:=
 match r with
 | .ok (.ret u)=>CE outer P w H s Q u s'
 | .ok _=>False
 | .error e=>CX outer H s E e s'
structure FnOk(P:Program)(w:World)(K:PySem.W.Frag)(mg:Str→Option Value)(base:Heap)(CX:CXT)(k:Nat)(f:Addr)(fd:FuncData)(ps:List Str)(sp:Sp):Prop where
 len:∀ vs H Q E,sp vs H Q E→vs.length=ps.length
 run:∀(A:Around) (outer:List Env) (s:Shared) (H:Hp) (args:Args) (us:List Value) (vs:List V) (Q:VK) (E:XK),Room k A→Env0 P w K mg base A outer s H→BindsTo s fd args (ps.zip us)→Vals vs us→sp vs H Q E →
  codeAny (model P w) A (.call (.ref f) args) (CR CX outer P w H s Q E) s
section
variable{X:Cx}{pins:List (Addr×Obj)}{σ:St}{H:Hp}{s s':Shared}
theorem Inv.env0(I:Inv X pins σ H s):Env0 X.prog X.w X.K X.mg X.base X.A X.stack s H:=
 ⟨I.ok.frames,I.ok.mod,I.bs,Nat.le_trans I.ok.bsz I.sz,I.stack,I.stkFree,I.hok,I.bare⟩
theorem Inv.after{Q:VK}{u:Value}(I:Inv X pins σ H s)(h:CE X.stack X.prog X.w H s Q u s'):EP X pins σ Q u s':=by
 obtain⟨v,H',os,bare,un,hok,r,q⟩:=h
 obtain⟨hh,g,d,t,os'⟩:=s'
 obtain rfl:os'=s.os:=os
 exact⟨v,H',I.call (h':=hh) (g':=g) (d':=d) (t':=t) (ch:=[]) un hok bare (fun b z=>absurd z (by simp)),r,q⟩
end
def tCall(sp:Sp)(dvs:List V)(E:XK)(t:TA):TE:=fun σ H Q=>t σ H fun vs H1=>sp (vs++dvs) H1 Q E
def Binds(K:PySem.W.Frag)(fd:FuncData)(ps:List Str)(ds:List Value):Prop:=
 ∀(s:Shared) (us:List Value),K.In s.heap→(us++ds).length=ps.length→BindsTo s fd ⟨us,[]⟩ (ps.zip (us++ds))
theorem Binds.all{K:PySem.W.Frag}{fd:FuncData}{ps:List Str}(h:∀ us:List Value,us.length=ps.length→bindArgs fd ⟨us,[]⟩=pure (ps.zip us)):Binds K fd ps []:=fun s us _ hl=>by
 rw[List.append_nil] at hl ⊢
 exact .of_eq (h us hl)
def Passes(CX:CXT)(X:Cx)(E:XK):Prop:=∀(pins:List (Addr×Obj)) (σ:St) (H:Hp) (s:Shared) (e:Value) (s':Shared),Inv X pins σ H s→CX X.stack H s E e s'→X.xe e s'
section
variable{X:Cx}{CX:CXT}{k:Nat}{f C:Addr}{fd:FuncData}{ps:List Str}{sp:Sp}{dvs:List V}{ds:List Value}{E:XK}{x m:Str}{p pos apos:Pos}{e o:Expr}{es:List Expr}{ta:TE}{t:TA}
theorem run_fn{pins:List (Addr×Obj)}{σ:St}{H:Hp}{s:Shared}{Q:VK}{us:List Value}{vs:List V}(F:FnOk X.prog X.w X.K X.mg X.base CX k f fd ps sp)(hr:Room k X.A)(hb:Binds X.K fd ps ds)(hd:Vals dvs ds)(hx:Passes CX X E)
  (I:Inv X pins σ H s) (r:Vals vs us) (h:sp (vs++dvs) H Q E):wpAny (model X.prog X.w) X.A (call (.ref f) us) (EP X pins σ Q) X.xe s:=by
 have r2:Vals (vs++dvs) (us++ds):=r.append hd
 have hl:(us++ds).length=ps.length:=by rw[← r2.length];exact F.len _ _ _ _ h
 refine wpAny_call (codeAny_mono (F.run X.A X.stack s H ⟨us,[]⟩ (us++ds) (vs++dvs) Q E hr I.env0 (hb s us I.kIn hl) r2 h) fun r s' hq=>?_)
 cases r with
 | error e=>exact hx pins σ H s e s' I hq
 | ok fl=>
  cases fl with
  | ret u=>exact I.after hq
  | next=>exact False.elim hq
  | brk=>exact False.elim hq
  | cont=>exact False.elim hq
theorem pe_call(F:FnOk X.prog X.w X.K X.mg X.base CX k f fd ps sp)(hr:Room k X.A)(hg:Gl X x)(hm:X.mg x=some (.ref f))(hk:PySem.W.keepIn X.K (.ref f)=true)(hb:Binds X.K fd ps ds)(hd:Vals dvs ds)(hx:Passes CX X E)
  (ha:PA X (e :: es) t) (hdb:(x == ("__debug__":Str))=false:=by decide) (he:starEach (e :: es) X.env=(false,eval e X.env) :: starEach es X.env:=by rfl) (hpl:(backTo pos (starEach es X.env)).any (·.1)=false:=by rfl) :
  PE X (.Call (.Name x p) (e :: es) [] pos) (tCall sp dvs E t):=by
 intro pins s σ H Q I h
 refine wpAny_Call_Name_kw (ld_glob I hg hm ?_ hdb)
 refine PySem.W.callWith_K (h₀:=X.base) I.ok.mod.kin hk (thn (ha pos pins s σ H _ I h) fun us s1 ⟨vs,H1,I1,r,q⟩=>⟨I1.kIn,?_⟩) he hpl
 exact run_fn F hr hb hd hx I1 r q
end
section
variable{X:Cx}{CX:CXT}{k:Nat}{f C:Addr}{fd:FuncData}{ps ks:List Str}{sp:Sp}{E:XK}{x m:Str}{p pos apos kpos:Pos}{e o:Expr}{es:List Expr}{kws:List Keyword}{te ta:TE}{t tk:TA}{nm:Option Str}
variable{g:List Value→List Value→List Value}{gV:List V→List V→List V}
end
structure FnScope(N P:List Str)(sc:Scope):Prop where
 kind:sc.kind = .function
 co:sc.isCoroutine=false
 gen:sc.isGenerator=false
 nd:N.Nodup
 pre:N.take P.length=P
 par:∀ x∈P,sc.names.lookup x=some .local∨sc.names.lookup x=some .cell
 nofree:∀ y∈sc.names,y.2 ≠ .free
theorem bindL_out{kindOf:Str→Option NameKind}{x:Str}:∀{binds:List (Str×Value)} {m:Str→Option Value},(∀ v,(x,v)∉binds)→bindL kindOf binds m x=m x
 | [],_,_=>rfl
 | (n,v) :: r,m,h=>by
  unfold bindL
  rw[bindL_out fun w hw=>h w (List.mem_cons_of_mem _ hw)]
  split
  ·have:x≠n:=by rintro rfl;exact h v List.mem_cons_self
   simp [this]
  ·rfl
theorem bindC_out{kindOf:Str→Option NameKind}{x:Str}:∀{binds:List (Str×Value)} {m:Str→Option Value},(∀ v,(x,v)∉binds)→bindC kindOf binds m x=m x
 | [],_,_=>rfl
 | (n,v) :: r,m,h=>by
  unfold bindC
  rw[bindC_out fun w hw=>h w (List.mem_cons_of_mem _ hw)]
  split
  ·rfl
  ·have:x≠n:=by rintro rfl;exact h v List.mem_cons_self
   simp [this]
theorem bindL_get{kindOf:Str→Option NameKind}{x:Str}{v:Value}:∀{P:List Str} {vs:List Value} {i:Nat} {m:Str→Option Value},P.Nodup→P[i]? = some x→vs[i]? = some v→kindOf x=some .local →
  bindL kindOf (P.zip vs) m x=some v
 | [],_,_,_,_,h,_,_=>by simp at h
 | _ :: _,[],_,_,_,_,h,_=>by simp at h
 | p :: P,w :: vs,0,m,nd,h1,h2,hk=>by
  simp at h1 h2;subst h1;subst h2
  show bindL kindOf ((p,w) :: P.zip vs) m p=_
  unfold bindL
  rw[bindL_out fun v hv=>(List.nodup_cons.mp nd).1 (List.of_mem_zip hv).1,if_pos hk]
  simp
 | p :: P,w :: vs,i+1,m,nd,h1,h2,hk=>by
  show bindL kindOf ((p,w) :: P.zip vs) m x=_
  unfold bindL
  exact bindL_get (i:=i) (List.nodup_cons.mp nd).2 (by simpa using h1) (by simpa using h2) hk
theorem bindC_get{kindOf:Str→Option NameKind}{x:Str}{v:Value}:∀{P:List Str} {vs:List Value} {i:Nat} {m:Str→Option Value},P.Nodup→P[i]? = some x→vs[i]? = some v→kindOf x≠some .local →
  bindC kindOf (P.zip vs) m x=some v
 | [],_,_,_,_,h,_,_=>by simp at h
 | _ :: _,[],_,_,_,_,h,_=>by simp at h
 | p :: P,w :: vs,0,m,nd,h1,h2,hk=>by
  simp at h1 h2;subst h1;subst h2
  show bindC kindOf ((p,w) :: P.zip vs) m p=_
  unfold bindC
  rw[bindC_out fun v hv=>(List.nodup_cons.mp nd).1 (List.of_mem_zip hv).1,if_neg hk]
  simp
 | p :: P,w :: vs,i+1,m,nd,h1,h2,hk=>by
  show bindC kindOf ((p,w) :: P.zip vs) m x=_
  unfold bindC
  exact bindC_get (i:=i) (List.nodup_cons.mp nd).2 (by simpa using h1) (by simpa using h2) hk
def start(N:List Str)(vs:List V):St:=vs.map some++List.replicate (N.length - vs.length) none
def cxOf(CX:CXT)(P:Program)(w:World)(K:PySem.W.Frag)(mg:Str→Option Value)(base:Heap)(N:List Str)(qual:Str)(scope:Scope)(f:Addr)(cd:Value)(A:Around)(outer:List Env)(s:Shared)(H:Hp)(E:XK):Cx where
 prog:=P
 w:=w
 K:=K
 mg:=mg
 base:=base
 A:=A.deeper (envOfC qual scope s.heap.objs.size f cd)
 N:=N
 s₀:=s
 H₀:=H
 env:=envOfC qual scope s.heap.objs.size f cd
 outer:=outer
 stack:=envOfC qual scope s.heap.objs.size f cd :: outer
 ex:=[]
 calm:=true
 fn:=fun _=>true
 pn:=[]
 xe:=fun e s'=>wpAny (model P w) (A.deeper (envOfC qual scope s.heap.objs.size f cd)) (leaving (envOfC qual scope s.heap.objs.size f cd) e) (fun _ s''=>CX outer H s E e s'') (fun e' s''=>CX outer H s E e' s'') s'
theorem cell_has{sc:Scope}{n:Nat}{x:Str}(h:sc.names.lookup x=some .cell):∃ c,(cellsFrom n sc.names []).lookup x=some c:=by
 have q:=PySem.W.cellsFrom_some sc.names n [] (.inl h)
 exact Option.isSome_iff_exists.mp q
theorem inv_start{CX:CXT}{P:Program}{w:World}{K:PySem.W.Frag}{mg:Str→Option Value}{base:Heap}{N ps:List Str}{qual:Str}{scope:Scope}{f:Addr}{cd:Value}{A:Around}{outer:List Env}{s s1:Shared}{H:Hp}{E:XK}{us:List Value}{vs:List V}
  (S:FnScope N ps scope) (hd:A.handled=none) (e0:Env0 P w K mg base A outer s H) (hl:vs.length=ps.length) (r:Vals vs us)
  (x:InCallC s s.heap.objs.size (bindL (envOfC qual scope s.heap.objs.size f cd).kindOf (ps.zip us) fun _=>none) (cellsFrom (s.heap.objs.size+1) scope.names []) (bindC (envOfC qual scope s.heap.objs.size f cd).kindOf (ps.zip us) fun _=>none) s1) :
  Inv (cxOf CX P w K mg base N qual scope f cd A outer s H E) [] (start N vs) H s1:=by
 have hpl:ps.length≤N.length:=by have:=congrArg List.length S.pre;rw[List.length_take] at this;omega
 obtain⟨h1,tk,rfl,hk⟩:=x.done
 have noA:∀ b:Addr,b∉(cxOf CX P w K mg base N qual scope f cd A outer s H E).ex:=fun b z=>absurd (show b∈([]:List Addr) from z) (by simp)
 refine⟨⟨e0.mod,S.kind,rfl,rfl,Nat.le_refl _,fun y z c h1 h2=>?_,fun y hy=>?_,fun y c _ h=>?_,fun _=>hd,Around.frames_deeper e0.frames,.inr ⟨rfl,rfl⟩,fun b z=>absurd z (noA b),e0.bs,e0.bsz,fun b _ _=>noA b,fun b z=>absurd z (noA b),e0.funs,e0.frf⟩,
  rfl,e0.bare,Un.kept hk,⟨_,x.toInCall.ns,fun i y v h1 h2 h3=>?_⟩,fun y c h=>⟨_,x.cell y c h⟩,e0.hok.fresh (Nat.le_refl _),fun y c h=>?_,fun p hp=>absurd (show p∈([]:List (Addr×Obj)) from hp) (by simp),e0.hok.kept hk,?_⟩
 ·exact name_of_addr x.apart (PySem.mem_of_lookup h1) (PySem.mem_of_lookup h2)
 ·have hy:scope.names.lookup y=some .cell∨scope.names.lookup y=some .free:=hy
  rcases hy with hy | hy
  ·exact cell_has hy
  ·exact absurd rfl (S.nofree _ (PySem.mem_of_lookup hy))
 ·exact Nat.le_of_lt (x.above y c (PySem.mem_of_lookup h))
 ·have hi:i < vs.length:=by
   unfold start at h2
   by_cases hi:i < vs.length
   ·exact hi
   ·rw[List.getElem?_append_right (by simpa using hi)] at h2
    rw[List.getElem?_replicate] at h2
    split at h2<;>cases h2
  have ha:vs[i]? = some v:=by
   unfold start at h2
   rw[List.getElem?_append_left (by simpa using hi),List.getElem?_map] at h2
   cases e:vs[i]? with
   | none=>rw[e] at h2;cases h2
   | some a=>rw[e] at h2;cases h2;rfl
  obtain⟨u,hu,rv⟩:=r.get ha
  have hp:ps[i]? = some y:=by
   rw[← S.pre,List.getElem?_take_of_lt (by omega)];exact h1
  have ndP:ps.Nodup:=by rw[← S.pre];exact S.nd.sublist (List.take_sublist _ _)
  refine⟨u,rv,?_⟩
  rcases S.par y (List.mem_of_getElem? hp) with k | k
  ·exact .inl ⟨k,bindL_get ndP hp hu k⟩
  ·obtain⟨c,e⟩:=cell_has (n:=s.heap.objs.size+1) k
   refine .inr ⟨.inl k,c,e,?_⟩
   have q:=x.cell y c e
   rw[bindC_get ndP hp hu (by show scope.names.lookup y≠_;rw[k];decide)] at q
   exact q
 ·exact e0.hok.fresh (Nat.le_of_lt (x.above y c (PySem.mem_of_lookup h)))
 ·unfold start
  show _=N.length
  rw[List.length_append,List.length_map,List.length_replicate]
  omega
theorem fn_of{CX:CXT}{P:Program}{w:World}{K:PySem.W.Frag}{mg:Str→Option Value}{base:Heap}{k:Nat}{f:Addr}{name qual:Str}{params:Arguments}{body:List Stmt}{scope:Scope}{dV kV doc pm cdv ct oc:Value}{an od:Option Addr}
  {osl:Array (Option Value)} {N ps:List Str} {sp:Sp} (lk:K.lookup f=some ⟨oc,od,.func (PySem.W.fnOf name qual params body scope dV kV doc pm an cdv ct),osl⟩) (hcd:PySem.W.codeIn K cdv qual=true) (S:FnScope N ps scope)
  (len:∀ vs H Q E,sp vs H Q E→vs.length=ps.length)
  (hbody:∀(A:Around) (outer:List Env) (s:Shared) (H:Hp) (vs:List V) (Q:VK) (E:XK),Room k (A.deeper (envOfC qual scope s.heap.objs.size f cdv))→sp vs H Q E →
   ∃ t,PSs (cxOf CX P w K mg base N qual scope f cdv A outer s H E) body t∧t { nx:=fun _ H'=>Q .non H',rt:=Q } (start N vs) H) :
  FnOk P w K mg base CX (k+1) f (PySem.W.fnOf name qual params body scope dV kV doc pm an cdv ct) ps sp:=by
 refine⟨len,fun A outer s H args us vs Q E hr e0 hb r hsp=>?_⟩
 have hl:=len _ _ _ _ hsp
 have KX:K.In s.heap:=e0.mod.kin.keeps fun b o e=>(e0.bs b o e).1
 have lim:s.heap.NoLimit:=e0.mod.nolimit.keeps fun b o e=>(e0.bs b o e).1
 have hkind:∀ y∈ps.zip us,scope.names.lookup y.1=some .local∨(scope.names.lookup y.1=some .cell∧((cellsFrom (s.heap.objs.size+1) scope.names []).lookup y.1).isSome=true):=fun⟨n,v⟩ hy=>by
  rcases S.par n (List.of_mem_zip hy).1 with q | q
  ·exact .inl q
  ·exact .inr ⟨q,PySem.W.cellsFrom_some _ _ _ (.inl q)⟩
 refine codeAny_call_function hr.depth (KX _ _ lk) rfl S.co S.gen rfl (PySem.W.codeRec_of KX hcd) (hb _ _ _ _ ?_)
 refine wpAny_newFunctionEnv_cells S.kind hkind fun env he s1 x=>?_
 subst he
 refine⟨lim.keeps x.toInCall.keep,codeAny_func ?_⟩
 obtain⟨t,ht,hq⟩:=hbody A outer s H vs Q E (hr.deeper _) hsp
 have I:Inv (cxOf CX P w K mg base N qual scope f cdv A outer s H E) [] (start N vs) H s1:=inv_start S hr.hd e0 hl r x
 refine wpAny_mono (ht [] s1 (start N vs) H _ I hq) (fun fl s' hs=>?_) fun e s' hs=>hs
 have fin:∀{σ':St} {H':Hp} {v:V} {u:Value},Inv (cxOf CX P w K mg base N qual scope f cdv A outer s H E) [] σ' H' s'→RelV v u→Q v H'→CE outer P w H s Q u s':=
  fun {σ' H' v u} J rv q=>⟨v,H',J.os,J.bare,J.base,J.hok,rv,q⟩
 cases fl with
 | ret u=>
  obtain⟨v,σ',H',J,rv,q⟩:=hs
  exact fin J rv q
 | next=>
  obtain⟨σ',H',J,q⟩:=hs
  exact fin (v:=V.non) (u:=Value.none) J rfl q
 | brk=>
  obtain⟨_,_,_,q⟩:=hs
  exact False.elim q
 | cont=>
  obtain⟨_,_,_,q⟩:=hs
  exact False.elim q
end L2
namespace L2
open PySem PySem.Spec PyProof.Rows
section
variable{X:Cx}{x:Str}{p pos:Pos}{e:Expr}{es:List Expr}{t:TA}{id T:String}{r:List V→Hp→VK→Prop}
def tCB(r:List V→Hp→VK→Prop)(t:TA):TE:=fun σ H Q=>t σ H fun vs H1=>r vs H1 Q
theorem pe_callB(hc:CallR X (.builtin id) r)(hg:Gl X x)(hm:X.mg x=none)(hv:bootBuiltins x=some (.builtin id))(ha:PA X (e :: es) t)(hn:x≠"__name__":=by decide)(hdb:(x == ("__debug__":Str))=false:=by decide)
  (he:starEach (e :: es) X.env=(false,eval e X.env) :: starEach es X.env:=by rfl) (hpl:(backTo pos (starEach es X.env)).any (·.1)=false:=by rfl):PE X (.Call (.Name x p) (e :: es) [] pos) (tCB r t):=by
 intro pins s σ H Q I h
 refine wpAny_Call_Name_kw (ld_blt I hg hm hv ?_ hn hdb)
 exact PyProof.Rows.callWith_builtin1 (thn (ha pos pins s σ H _ I h) fun us s1 ⟨vs,H1,I1,r1,q1⟩=>hc pins s1 σ H1 vs us Q I1 r1 q1) he hpl
theorem pe_callTy(hc:CallR X (.type T) r)(hg:Gl X x)(hm:X.mg x=none)(hv:bootBuiltins x=some (.type T))(ha:PA X (e :: es) t)(hn:x≠"__name__":=by decide)(hdb:(x == ("__debug__":Str))=false:=by decide)
  (he:starEach (e :: es) X.env=(false,eval e X.env) :: starEach es X.env:=by rfl) (hpl:(backTo pos (starEach es X.env)).any (·.1)=false:=by rfl):PE X (.Call (.Name x p) (e :: es) [] pos) (tCB r t):=by
 intro pins s σ H Q I h
 refine wpAny_Call_Name_kw (ld_blt I hg hm hv ?_ hn hdb)
 exact PyProof.Rows.callWith_type1 (thn (ha pos pins s σ H _ I h) fun us s1 ⟨vs,H1,I1,r1,q1⟩=>hc pins s1 σ H1 vs us Q I1 r1 q1) he hpl
end
end L2
namespace HT
open PySem PyProof.Rows
def lexLt:List Int→List Int→Bool
 | [],[]=>false
 | [],_ :: _=>true
 | _ :: _,[]=>false
 | x :: xs,y :: ys=>if x=y then lexLt xs ys else decide (x < y)
theorem lexLt_cons(x y:Int)(xs ys:List Int):lexLt (x :: xs) (y :: ys)=if x=y then lexLt xs ys else decide (x < y):=rfl
theorem lexLt_nil_nil:lexLt [] []=false:=rfl
theorem lexLt_nil_cons(y:Int)(ys:List Int):lexLt [] (y :: ys)=true:=rfl
theorem lexLt_cons_nil(x:Int)(xs:List Int):lexLt (x :: xs) []=false:=rfl
theorem eqAt_int(A:Around)(s:Shared)(a:Int)(t:Tok)(c:Int)(u:Tok):∃ e,SeqAt.EqAt A s (.int a t) (.int c u) e∧(e=true↔a=c):=
 ⟨(a == c),SeqAt.EqAt.int_int a t c u,by simp⟩
section
open PySem.SeqAt
open PySem.AutoSeq1 (wpAny_loadPart')
open PySem.MeetsSeq PySem.MeetsSeq2 PySem.MeetsSeq3
end
section
variable{prog:Program}{w:World}{A:Around}{E:Value→Shared→Prop}{s:Shared}
theorem cat_tup{t b:Addr}{vs ws:List Value}{Q:Value→Shared→Prop}(ht:IsTup s.heap t vs.toArray)(hb:IsTup s.heap b ws.toArray)(hv:vs≠[])
  (h1:ws=[]→Q (.ref t) s) (h2:ws≠[]→Q (.ref s.heap.objs.size) { s with heap:=s.heap.push { cls:=.type "tuple",data:=.seq (vs++ws).toArray } })
  (hsz:vs.length+ws.length≤sizeLine):wpAny (model prog w) A (binaryOp .Add (.ref t) (.ref b)) Q E s:=by
 obtain⟨⟨cls,dd,data,sl⟩,ho,hc,n,hd⟩:=id ht
 obtain⟨⟨cls2,dd2,data2,sl2⟩,ho2,hc2,n2,hd2⟩:=id hb
 simp only at hc hd hc2 hd2
 subst hc hd hc2 hd2
 have e:vs.toArray++ws.toArray=(vs++ws).toArray:=by simp
 by_cases hw:ws=[]
 ·exact concat_meets ⟨_,ho,rfl⟩ ⟨_,ho2,rfl⟩ noFill_tuple_add seq_tuple_add PySem.F.slot_tuple_add PySem.F.entry_tuple_add (PySem.F.args_tuple_add_2 _ _)
   (tuple_addW1 t b vs.toArray ws.toArray n n2 dd dd2 sl sl2 (by simpa using hv) (by simp [hw])) ⟨ho,ho2,h1 hw⟩
 ·refine concat_meets ⟨_,ho,rfl⟩ ⟨_,ho2,rfl⟩ noFill_tuple_add seq_tuple_add PySem.F.slot_tuple_add PySem.F.entry_tuple_add (PySem.F.args_tuple_add_2 _ _)
   (tuple_addW2 t b vs.toArray ws.toArray n n2 dd dd2 sl sl2 (by simpa using hv) (by simpa using hw) (by rw[List.size_toArray,List.size_toArray];exact hsz)) ⟨ho,ho2,?_⟩
  rw[e]
  exact h2 hw
def sIx(n d:Nat):Option Int→Nat
 | none=>d
 | some v=>if v < 0 then(v+(n:Int)).toNat else min v.toNat n
theorem sIx_none(n d:Nat):sIx n d none=d:=rfl
theorem sIx_nat(n d k:Nat):sIx n d (some (k:Int))=min k n:=by
 show(if(k:Int) < 0 then((k:Int)+(n:Int)).toNat else min (k:Int).toNat n)=min k n
 rw[if_neg (by omega),Int.toNat_natCast]
theorem sIx_le(n d:Nat)(hd:d≤n)(o:Option Int):sIx n d o≤n:=by
 cases o with
 | none=>exact hd
 | some v=>
  show(if v < 0 then(v+(n:Int)).toNat else min v.toNat n)≤n
  by_cases hv:v < 0
  ·rw[if_pos hv];omega
  ·rw[if_neg hv];exact Nat.min_le_right _ _
theorem clip_eq(v:Int)(n d:Nat):(if v < 0 then max (v+(n:Int)) 0 else min v (n:Int))=((sIx n d (some v):Nat):Int):=by
 show(if v < 0 then max (v+(n:Int)) 0 else min v (n:Int))=(((if v < 0 then(v+(n:Int)).toNat else min v.toNat n):Nat):Int)
 by_cases hv:v < 0
 ·simp only[if_pos hv];omega
 ·simp only[if_neg hv];omega
theorem adjust_gen(lo hi:Option Int)(n:Nat):Builtin.Slice.sliceAdjust lo hi 1 (n:Int)=(((sIx n 0 lo:Nat):Int),((sIx n n hi:Nat):Int)):=by
 have h1:¬ ((1:Int) < 0):=by omega
 unfold Builtin.Slice.sliceAdjust
 simp only[h1,if_false]
 refine Prod.ext ?_ ?_
 ·cases lo with
  | none=>rfl
  | some v=>exact clip_eq v n 0
 ·cases hi with
  | none=>rfl
  | some v=>exact clip_eq v n n
theorem places_gen(i j:Nat):Builtin.Slice.slicePlaces (i:Int) (j:Int) 1=j - i:=by
 unfold Builtin.Slice.slicePlaces
 have h1:(1:Int) > 0:=by omega
 simp only[h1,if_true,Int.ediv_one]
 split<;>omega
theorem slicePart_{v:Value}{o:Option Int}{Q:Option Int→Shared→Prop}(p:IsPart v o)(h:Q o s):wpAny (model prog w) A (Builtin.Slice.slicePartIndex v) Q E s:=by
 cases p with
 | none=>exact slicePart_none h
 | int i t=>exact slicePart_int h
theorem sliceApplied_gen{sl:Addr}{vl vu:Value}{lo hi:Option Int}{n:Nat}{Q:Int×Int×Nat→Shared→Prop}(hs:s.heap.IsSliceOf sl vl vu .none)(pl:IsPart vl lo)(pu:IsPart vu hi)
  (h:Q (((sIx n 0 lo:Nat):Int),1,sIx n n hi - sIx n 0 lo) s):wpAny (model prog w) A (Builtin.Slice.sliceApplied (.ref sl) (pure (n:Int))) Q E s:=by
 obtain⟨os,hos,hcs,hds⟩:=id hs
 unfold Builtin.Slice.sliceApplied Builtin.Slice.sliceFields
 refine wpAny_bind (wpAny_bind (wpAny_field hos hds (x:=vl) rfl (wpAny_bind (wpAny_field hos hds (x:=vu) rfl (wpAny_bind (wpAny_field hos hds (x:=.none) rfl (wpAny_pure ?_)))))))
 refine wpAny_bind (slicePart_none ?_)
 show wpAny _ _ (if((1:Int) == 0)=true then _ else _) _ _ s
 rw[if_neg (by decide)]
 refine wpAny_bind (slicePart_ pl (wpAny_bind (slicePart_ pu (wpAny_bind (wpAny_pure ?_)))))
 show wpAny _ _ (match Builtin.Slice.sliceAdjust lo hi 1 (n:Int) with | (lo,hi)=>pure (lo,(1:Int),Builtin.Slice.slicePlaces lo hi 1)) _ _ s
 rw[adjust_gen lo hi n]
 show wpAny _ _ (pure (((sIx n 0 lo:Nat):Int),(1:Int),Builtin.Slice.slicePlaces ((sIx n 0 lo:Nat):Int) ((sIx n n hi:Nat):Int) 1)) _ _ s
 rw[places_gen]
 exact wpAny_pure h
theorem pick_gen(xs:Array Value)(i k:Nat):((List.range k).filterMap fun(m:Nat)=>xs[((i:Int)+(m:Int) * 1).toNat]?).toArray=((xs.toList.drop i).take k).toArray:=by
 have e:(fun(m:Nat)=>xs[((i:Int)+(m:Int) * 1).toNat]?)=fun m=>xs[i+m]?:=by
  funext m
  have:((i:Int)+(m:Int) * 1).toNat=i+m:=by omega
  rw[this]
 rw[e]
 have:=pick_run xs i k
 rw[List.filterMap_map] at this
 have e2:((fun x=>xs[x]?) ∘ fun x=>i+x)=fun m=>xs[i+m]?:=rfl
 rw[e2] at this
 rw[this]
theorem getItem_tuple_cut{t sl:Addr}{items:Array Value}{vl vu:Value}{lo hi:Option Int}{Q:Value→Shared→Prop}(ht:IsTup s.heap t items)(hs:s.heap.IsSliceOf sl vl vu .none)(pl:IsPart vl lo)(pu:IsPart vu hi)
  (hw:¬ (sIx items.size 0 lo=0∧sIx items.size items.size hi=items.size))
  (h:Q (.ref s.heap.objs.size) { s with heap:=s.heap.push { cls:=.type "tuple",data:=.seq ((items.toList.drop (sIx items.size 0 lo)).take (sIx items.size items.size hi - sIx items.size 0 lo)).toArray } })
  (hsz:items.size≤sizeLine):wpAny (model prog w) A (getItem (.ref t) (.ref sl)) Q E s:=by
 have htake:sizeOk (.seq ((items.toList.drop (sIx items.size 0 lo)).take (sIx items.size items.size hi - sIx items.size 0 lo)).toArray):=by
  show((items.toList.drop (sIx items.size 0 lo)).take (sIx items.size items.size hi - sIx items.size 0 lo)).toArray.size≤sizeLine
  rw[List.size_toArray,List.length_take,List.length_drop,Array.length_toList]
  omega
 have hj:sIx items.size items.size hi≤items.size:=sIx_le _ _ (Nat.le_refl _) hi
 obtain⟨os,hos,hcs,hds⟩:=id hs
 have hTs:s.TypeIs (.ref sl) "slice":=⟨os,hos,hcs⟩
 unfold getItem
 try with_reducible refine wpAny_holding ?_
 first | refine wpAny_bind (wpAny_pure ?_) | skip
 refine wpAny_bind (wpAny_sequenceKey ht.typeIs (by decide) ?_)
 refine wpAny_bind (wpAny_callSpecial?_slot (name:=Str.ofString "__getitem__") ht.typeIs PyProof.Rows.slot_tuple_getitem
  (wpAny_call_entry PyProof.Rows.slot_tuple_getitem ht.typeIs entry_tuple_getitem ?_ (args_tuple_getitem _ _)))
 show wpAny _ _ (Builtin.Tuple.tupleItemsOf (.ref t) >>= _) _ _ s
 refine wpAny_bind (tupleItemsOf_ ht ?_)
 refine wpAny_bind (wpAny_typeOf hTs ?_)
 rw[if_pos (by decide)]
 refine wpAny_bind (sliceApplied_gen hs pl pu ?_)
 have hno:¬ ((((sIx items.size 0 lo:Nat):Int) == 0 && (1:Int) == 1 && (sIx items.size items.size hi - sIx items.size 0 lo) == items.size)=true):=by
  intro q
  rw[Bool.and_eq_true,Bool.and_eq_true] at q
  have q1:((sIx items.size 0 lo:Nat):Int)=0:=eq_of_beq q.1.1
  have q2:sIx items.size items.size hi - sIx items.size 0 lo=items.size:=eq_of_beq q.2
  exact hw ⟨by omega,by omega⟩
 show wpAny _ _ (if(((sIx items.size 0 lo:Nat):Int) == 0 && (1:Int) == 1 && (sIx items.size items.size hi - sIx items.size 0 lo) == items.size)=true then _ else _) _ _ s
 rw[if_neg hno,pick_gen]
 first
  | exact wpAny_bind (m:=Builtin.Tuple.tupleExact _) (wpAny_newObj_type (wpAny_pure ⟨_,rfl,wpAny_pure h⟩) htake)
  | exact wpAny_bind (m:=Builtin.Tuple.tupleExact _) (wpAny_newObj_type (wpAny_bind (wpAny_pure (wpAny_pure ⟨_,rfl,wpAny_pure h⟩))) htake)
  | exact wpAny_bind (wpAny_bind (m:=Builtin.Tuple.tupleExact _) (wpAny_newObj_type (wpAny_pure (wpAny_pure ⟨_,rfl,wpAny_pure h⟩)) htake))
  | exact wpAny_bind (wpAny_bind (m:=Builtin.Tuple.tupleExact _) (wpAny_newObj_type (wpAny_pure ⟨_,rfl,wpAny_pure h⟩) htake))
end
end HT
namespace L2
open PySem PySem.Spec PyProof.Rows
abbrev TO:=St→Hp→(Option Int→Hp→Prop)→Prop
def PO(X:Cx)(e:Option Expr)(t:TO):Prop:=
 ∀(pins:List (Addr×Obj)) (s:Shared) (σ:St) (H:Hp) (Q:Option Int→Hp→Prop),Inv X pins σ H s→t σ H Q →
  wpAny (model X.prog X.w) X.A (evalPart e X.env) (fun u s'=>∃ o H',Inv X pins σ H' s'∧IsPart u o∧Q o H') X.xe s
def tNoPart:TO:=fun _ H Q=>Q none H
def tPart(t:TE):TO:=fun σ H Q=>t σ H fun x H1=>∃ i,x = .int i∧Q (some i) H1
theorem intsAre_of{ns:List Int}:∀{us:List Value},Vals (ns.map V.int) us→IntsAre us ns:=by
 induction ns with
 | nil=>intro us r;rw[List.map_nil] at r;cases r;exact .nil
 | cons n ns ih=>
  intro us r
  rw[List.map_cons] at r
  cases r with
  | cons r1 r2=>
   obtain⟨t,e⟩:=r1
   subst e
   exact .cons n t (ih r2)
section
variable{X:Cx}{e:Expr}{te:TE}{lo hi:Option Expr}{tl th:TO}{pos p2:Pos}
theorem po_none:PO X none tNoPart:=by
 intro pins s σ H Q I h
 rw[evalPart_none]
 exact wpAny_pure ⟨none,H,I,.none,h⟩
theorem po_some(h:PE X e te):PO X (some e) (tPart te):=by
 intro pins s σ H Q I hw
 rw[evalPart_some]
 refine thn (h pins s σ H _ I hw) fun u s1 ⟨x,H1,I1,r1,q1⟩=>?_
 obtain⟨i,rfl,q⟩:=q1
 obtain⟨t,rfl⟩:=r1
 exact⟨some i,H1,I1,.int i t,q⟩
def SlR(X:Cx)(r:V→Option Int→Option Int→Hp→VK→Prop):Prop:=
 ∀(pins:List (Addr×Obj)) (s:Shared) (σ:St) (H:Hp) (x:V) (v vl vu:Value) (lo hi:Option Int) (sl:Addr) (Q:VK),Inv X pins σ H s→RelV x v→s.heap.IsSliceOf sl vl vu .none→IsPart vl lo→IsPart vu hi→r x lo hi H Q →
  ∃ T id,typeLookup (.type T) "__getitem__" = pure (some (.builtin id))∧s.TypeIs v T∧wpAny (model X.prog X.w) X.A (getItem v (.ref sl)) (EP X pins σ Q) X.xe s
def tSl(r:V→Option Int→Option Int→Hp→VK→Prop)(te:TE)(tl th:TO):TE:=fun σ H Q=>te σ H fun x H1=>tl σ H1 fun l H2=>th σ H2 fun u H3=>r x l u H3 Q
theorem pe_slice{r:V→Option Int→Option Int→Hp→VK→Prop}(hr:SlR X r)(he:PE X e te)(hl:PO X lo tl)(hu:PO X hi th):PE X (.Subscript e (.Slice lo hi none p2) pos) (tSl r te tl th):=by
 intro pins s σ H Q I h
 refine Subscript_ (thn (he pins s σ H _ I h) fun v s1 ⟨x,H1,I1,r1,q1⟩=>?_)
 refine wpAny_Slice (thn (hl pins s1 σ H1 _ I1 q1) fun vl s2 ⟨l,H2,I2,pl,q2⟩=>thn (hu pins s2 σ H2 _ I2 q2) fun vu s3 ⟨u,H3,I3,pu,q3⟩=>?_)
 rw[evalPart_none]
 refine wpAny_pure ?_
 have I4:Inv X pins σ H3 { s3 with heap:=s3.heap.push { cls:=.type "slice",data:=.fields #[vl,vu,.none] } }:=I3.kept (t':=s3.toks) fun b ob q=>Heap.get?_push_of_some _ q
 obtain⟨T,id,hT,ht,hg⟩:=hr pins { s3 with heap:=s3.heap.push { cls:=.type "slice",data:=.fields #[vl,vu,.none] } } σ H3 x v vl vu l u s3.heap.objs.size Q I4 r1 (Heap.IsSliceOf.new ..) pl pu q3
 show wpAny (model X.prog X.w) X.A (subscriptTail e (.Slice lo hi none p2) v (.ref s3.heap.objs.size)) (EP X pins σ Q) X.xe { s3 with heap:=s3.heap.push { cls:=.type "slice",data:=.fields #[vl,vu,.none] } }
 exact tail_any (ops:=[.ref s3.heap.objs.size,v]) ht hT hg (by with_unfolding_all rfl)
def cutV(xs:List V)(lo hi:Option Int):List V:=(xs.drop (HT.sIx xs.length 0 lo)).take (HT.sIx xs.length xs.length hi - HT.sIx xs.length 0 lo)
theorem cutV_length(xs:List V)(lo hi:Option Int):(cutV xs lo hi).length≤xs.length:=by
 unfold cutV
 rw[List.length_take,List.length_drop]
 omega
def rSlT(K:PySem.W.Frag):V→Option Int→Option Int→Hp→VK→Prop:=fun x lo hi H Q=>∃ a xs,x = .ref a∧SqT K H a xs ∧
 ¬ (HT.sIx xs.length 0 lo=0∧HT.sIx xs.length xs.length hi=xs.length)∧∀ p,H p=none→Q (.ref p) (upd H p (.tup (cutV xs lo hi)))
theorem sl_tup:SlR X (rSlT X.K):=by
 intro pins s σ H x v vl vu lo hi sl Q I rx hs pl pu h
 obtain⟨a,xs,rfl,hx,hw,q⟩:=h
 cases rx
 obtain⟨its,r,ht,hz⟩:=I.tuple hx
 have hlen:its.toArray.size=xs.length:=by rw[List.size_toArray];exact r.length.symm
 refine⟨"tuple",_,PyProof.Rows.slot_tuple_getitem.lookup,ht.typeIs,?_⟩
 refine HT.getItem_tuple_cut ht hs pl pu (by rw[hlen];exact hw) ?_ (by rw[hlen];exact hz)
 rw[hlen]
 refine⟨.ref s.heap.objs.size,_,I.laid (t':=s.toks) (o:=.tup (cutV xs lo hi)) (fun b ob q=>Heap.get?_push_of_some _ q) (Nat.le_refl _) ?_,rfl,q _ (I.hok.fresh (Nat.le_refl _))⟩
 exact⟨Nat.le_trans (cutV_length xs lo hi) hz,_,(r.drop (HT.sIx xs.length 0 lo)).take (HT.sIx xs.length xs.length hi - HT.sIx xs.length 0 lo),IsTup.new _ _⟩
def rCatT(K:PySem.W.Frag):R2:=fun x y H Q=>∃ a b xs ys,x = .ref a∧y = .ref b∧SqT K H a xs∧SqT K H b ys∧xs≠[]∧xs.length+ys.length≤sizeLine ∧
 (ys=[]→Q (.ref a) H)∧(ys≠[]→∀ p,H p=none→Q (.ref p) (upd H p (.tup (xs++ys))))
theorem Vals.nil_iff{xs:List V}{us:List Value}(r:Vals xs us):us=[]↔xs=[]:=by
 cases r with
 | nil=>simp
 | cons _ _=>simp
theorem op_catT:OpR X (binaryOp .Add) (rCatT X.K):=by
 intro pins s σ H x y v u Q I rx ry h
 obtain⟨a,b,xs,ys,rfl,rfl,ha,hb,hx,hz,q1,q2⟩:=h
 cases rx
 cases ry
 obtain⟨its,r1,p1,_⟩:=I.tuple ha
 obtain⟨its2,r2,p2,_⟩:=I.tuple hb
 refine HT.cat_tup p1 p2 (fun z=>hx (r1.nil_iff.mp z)) (fun z=>⟨.ref a,H,I,rfl,q1 (r2.nil_iff.mp z)⟩) (fun z=>?_) (by rw[← r1.length,← r2.length];exact hz)
 refine⟨.ref s.heap.objs.size,_,I.laid (t':=s.toks) (o:=.tup (xs++ys)) (fun b ob q=>Heap.get?_push_of_some _ q) (Nat.le_refl _) ?_,rfl,q2 (fun w=>z (r2.nil_iff.mpr w)) _ (I.hok.fresh (Nat.le_refl _))⟩
 exact⟨by rw[List.length_append];exact hz,_,r1.append r2,IsTup.new _ _⟩
end
end L2
namespace L2
open PySem PySem.Spec PyProof.Rows
def ixN(n:Nat)(i:Int):Option Nat:=if 0≤i then(if i < n then some i.toNat else none) else if -(n:Int)≤i then some (i+n).toNat else none
def atI{α:Type}(xs:List α)(i:Int):Option α:=(ixN xs.length i).bind fun j=>xs[j]?
theorem ixN_seq{n:Nat}{i:Int}{j:Nat}(h:ixN n i=some j):seqIndex? i n=some j∧j < n∧-(n:Int)≤i∧i < n:=by
 unfold ixN at h
 by_cases h0:0≤i
 ·rw[if_pos h0] at h
  by_cases h1:i < n
  ·rw[if_pos h1] at h
   have e:i.toNat=j:=Option.some.inj h
   exact⟨by rw[seqIndex_of h0 h1,e],by omega,by omega,h1⟩
  ·rw[if_neg h1] at h;cases h
 ·rw[if_neg h0] at h
  by_cases h1:-(n:Int)≤i
  ·rw[if_pos h1] at h
   have e:(i+n).toNat=j:=Option.some.inj h
   exact⟨by rw[seqIndex_neg (by omega) h1,e],by omega,h1,by omega⟩
  ·rw[if_neg h1] at h;cases h
theorem atI_get{α:Type}{xs:List α}{i:Int}{v:α}(h:atI xs i=some v):∃ j,seqIndex? i xs.length=some j∧xs[j]? = some v∧j < xs.length∧-(xs.length:Int)≤i∧i < xs.length:=by
 unfold atI at h
 cases e:ixN xs.length i with
 | none=>rw[e] at h;cases h
 | some j=>
  rw[e] at h
  obtain⟨h1,h2,h3,h4⟩:=ixN_seq e
  exact⟨j,h1,h,h2,h3,h4⟩
theorem atI_nat{α:Type}{xs:List α}{j:Nat}{v:α}(h:xs[j]? = some v):atI xs (j:Int)=some v:=by
 have hj:j < xs.length:=(List.getElem?_eq_some_iff.mp h).1
 have e:ixN xs.length (j:Int)=some j:=by
  unfold ixN
  rw[if_pos (by omega),if_pos (by omega)];simp
 unfold atI;rw[e];exact h
def PlainIx(b:Expr):Prop:=∀ o i,subscripted b false o i=operate [o,i] (getItem o i)
def IxR(X:Cx)(r:R2):Prop:=
 ∀(value slice:Expr) (pins:List (Addr×Obj)) (s:Shared) (σ:St) (H:Hp) (x y:V) (v u:Value) (Q:VK),Inv X pins σ H s→RelV x v→RelV y u→r x y H Q →
  subscripted slice false v u=operate [v,u] (getItem v u)→wpAny (model X.prog X.w) X.A (subscriptTail value slice v u) (EP X pins σ Q) X.xe s
def MtR(X:Cx)(id:String)(r:V→List V→Hp→VK→Prop):Prop:=
 ∀(pins:List (Addr×Obj)) (s:Shared) (σ:St) (H:Hp) (x:V) (xs:List V) (v:Value) (us:List Value) (Q:VK),Inv X pins σ H s→RelV x v→Vals xs us→r x xs H Q →
  wpAny (model X.prog X.w) X.A (call (.builtin id) (v :: us)) (EP X pins σ Q) X.xe s
section
variable{X:Cx}{a b:Expr}{ta tb:TE}{pos:Pos}
theorem pe_ix{r:R2}(hr:IxR X r)(ha:PE X a ta)(hb:PE X b tb)(hs:PlainIx b):PE X (.Subscript a b pos) (tOp r ta tb):=by
 intro pins s σ H Q I h
 exact Subscript_ (binT ha hb I h fun v u s2 x y H2 I2 rx ry q=>hr a b pins s2 σ H2 x y v u Q I2 rx ry q (hs _ _))
def rIxL(K:PySem.W.Frag):R2:=fun x y H Q=>∃ p xs i v,x = .ref p∧y = .int i∧SqL K H p xs∧atI xs i=some v∧Q v H
def rIxT(K:PySem.W.Frag):R2:=fun x y H Q=>∃ p xs i v,x = .ref p∧y = .int i∧SqT K H p xs∧atI xs i=some v∧Q v H
theorem ix_list:IxR X (rIxL X.K):=by
 intro value slice pins s σ H x y v u Q I rx ry h hs
 obtain⟨p,xs,i,z,rfl,rfl,hq,he,q⟩:=h
 cases rx
 obtain⟨t,rfl⟩:=ry
 obtain⟨its,r,pl,hz⟩:=I.list hq
 obtain⟨j,h1,h2,h3,h4,h5⟩:=atI_get he
 obtain⟨w,ew,rw'⟩:=r.get h2
 have hl:=r.length
 have hn:=line63
 have fin:EP X pins σ Q w s:=⟨z,H,I,rw',q⟩
 by_cases h0:0≤i
 ·have hj:i.toNat=j:=by
   rw[seqIndex_of h0 h5] at h1
   exact Option.some.inj h1
  exact item_listR pl.isList h0 (by omega) (by rw[hj];simpa using ew) fin hs
 ·have hj:(i+(its.toArray.size:Int)).toNat=j:=by
   rw[seqIndex_neg (by omega) h4] at h1
   rw[List.size_toArray,← hl]
   exact Option.some.inj h1
  exact subscriptTail_builtinR (x:=w) pl.isList.typeIs slot_list_getitem.lookup
   (wpAny_getItem_list_neg (Q:=fun r s'=>r=w∧EP X pins σ Q r s') pl.isList (by omega) (by rw[List.size_toArray]<;>omega) (by omega) (by rw[hj];simpa using ew) ⟨rfl,fin⟩) hs
theorem ix_tup:IxR X (rIxT X.K):=by
 intro value slice pins s σ H x y v u Q I rx ry h hs
 obtain⟨p,xs,i,z,rfl,rfl,hq,he,q⟩:=h
 cases rx
 obtain⟨t,rfl⟩:=ry
 obtain⟨its,r,pl,hz⟩:=I.tuple hq
 obtain⟨j,h1,h2,h3,h4,h5⟩:=atI_get he
 obtain⟨w,ew,rw'⟩:=r.get h2
 have hl:=r.length
 have hn:=line63
 have fin:EP X pins σ Q w s:=⟨z,H,I,rw',q⟩
 exact subscriptTail_builtinR (x:=w) pl.typeIs slot_tuple_getitem.lookup
  (getItem_tuple (j:=j) (Q:=fun r s'=>r=w∧EP X pins σ Q r s') pl (by omega) (by omega) (by rw[List.size_toArray,← hl];exact h1) (by simpa using ew) ⟨rfl,fin⟩) hs
theorem slice_bounds(lo hi:Option Int)(n:Nat):(sliceBounds lo hi none n).1=((HT.sIx n 0 lo:Nat):Int)∧(sliceBounds lo hi none n).2.1=((HT.sIx n n hi:Nat):Int)∧(sliceBounds lo hi none n).2.2=1:=by
 refine⟨?_,?_,rfl⟩
 ·cases lo with
  | none=>simp [sliceBounds,HT.sIx]
  | some i=>
   simp only[sliceBounds,HT.sIx,Option.getD_none,show(1:Int) > 0 by decide,if_true]
   by_cases h:i < 0
   ·simp only[h,if_true]<;>omega
   ·simp only[h,if_false]<;>omega
 ·cases hi with
  | none=>simp [sliceBounds,HT.sIx]
  | some i=>
   simp only[sliceBounds,HT.sIx,Option.getD_none,show(1:Int) > 0 by decide,if_true]
   by_cases h:i < 0
   ·simp only[h,if_true]<;>omega
   ·simp only[h,if_false]<;>omega
theorem slicePick_cut(its:List Value)(lo hi:Option Int):slicePick its.toArray lo hi none=((its.drop (HT.sIx its.length 0 lo)).take (HT.sIx its.length its.length hi - HT.sIx its.length 0 lo)).toArray:=by
 obtain⟨h1,h2,h3⟩:=slice_bounds lo hi its.toArray.size
 unfold slicePick
 rw[h1,h2,h3]
 simp only[sliceRange_one,pick_run,List.size_toArray]<;>rfl
def rSlL(K:PySem.W.Frag):V→Option Int→Option Int→Hp→VK→Prop:=fun x lo hi H Q=>∃ a xs,x = .ref a∧SqL K H a xs∧∀ p,H p=none→Q (.ref p) (upd H p (.lst (cutV xs lo hi)))
theorem sl_list:SlR X (rSlL X.K):=by
 intro pins s σ H x v vl vu lo hi sl Q I rx hs pl pu h
 obtain⟨a,xs,rfl,hx,q⟩:=h
 cases rx
 obtain⟨its,r,ht,hz⟩:=I.list hx
 have hlen:=r.length
 refine⟨"list",_,slot_list_getitem.lookup,ht.isList.typeIs,?_⟩
 refine wpAny_getItem_list_slice ht.isList hs pl pu .none (by simp) ?_ (by rw[List.size_toArray]<;>omega)
 rw[slicePick_cut,← hlen]
 refine⟨.ref s.heap.objs.size,_,I.laid (t':=s.toks) (o:=.lst (cutV xs lo hi)) (fun b ob q=>Heap.get?_push_of_some _ q) (Nat.le_refl _) ?_,rfl,q _ (I.hok.fresh (Nat.le_refl _))⟩
 exact⟨Nat.le_trans (cutV_length xs lo hi) hz,_,0,(r.drop (HT.sIx xs.length 0 lo)).take (HT.sIx xs.length xs.length hi - HT.sIx xs.length 0 lo),Heap.get?_push_size _ rfl⟩
def flatV:V→Bool
 | .non=>true
 | .bl _=>true
 | .int _=>true
 | .str _=>true
 | _=>false
def eqV:V→V→Bool
 | .non,.non=>true
 | .bl a,.bl b=>a == b
 | .bl a,.int b=>(if a then 1 else 0) == b
 | .int a,.bl b=>a == (if b then 1 else 0)
 | .int a,.int b=>a == b
 | .str a,.str b=>a == b
 | _,_=>false
theorem eqAt_V{A:Around}{s:Shared}{y x:V}{u v:Value}(ry:RelV y u)(rx:RelV x v)(fy:flatV y=true)(fx:flatV x=true):SeqAt.EqAt A s u v (eqV y x):=by
 cases y with
 | non=>
  cases ry
  cases x with
  | non=>cases rx;exact SeqAt.EqAt.same _
  | bl b=>cases rx;exact SeqAt.EqAt.none_bool b
  | int b=>obtain⟨t,rfl⟩:=rx;exact SeqAt.EqAt.none_int b t
  | str b=>obtain⟨t,rfl⟩:=rx;exact SeqAt.EqAt.none_str b t
  | _=>exact absurd (show false=true from fx) Bool.false_ne_true
 | bl a=>
  cases ry
  cases x with
  | non=>cases rx;exact SeqAt.EqAt.bool_none a
  | bl b=>cases rx;exact SeqAt.EqAt.bool_bool a b
  | int b=>obtain⟨t,rfl⟩:=rx;exact SeqAt.EqAt.bool_int a b t
  | str b=>obtain⟨t,rfl⟩:=rx;exact SeqAt.EqAt.bool_str a b t
  | _=>exact absurd (show false=true from fx) Bool.false_ne_true
 | int a=>
  obtain⟨t',rfl⟩:=ry
  cases x with
  | non=>cases rx;exact SeqAt.EqAt.int_none a t'
  | bl b=>cases rx;exact SeqAt.EqAt.int_bool a t' b
  | int b=>obtain⟨t,rfl⟩:=rx;exact SeqAt.EqAt.int_int a t' b t
  | str b=>obtain⟨t,rfl⟩:=rx;exact SeqAt.EqAt.int_str a t' b t
  | _=>exact absurd (show false=true from fx) Bool.false_ne_true
 | str a=>
  obtain⟨t',rfl⟩:=ry
  cases x with
  | non=>cases rx;exact SeqAt.EqAt.str_none a t'
  | bl b=>cases rx;exact SeqAt.EqAt.str_bool a t' b
  | int b=>obtain⟨t,rfl⟩:=rx;exact SeqAt.EqAt.str_int a t' b t
  | str b=>obtain⟨t,rfl⟩:=rx;exact SeqAt.EqAt.str_str a t' b t
  | _=>exact absurd (show false=true from fx) Bool.false_ne_true
 | _=>exact absurd (show false=true from fy) Bool.false_ne_true
theorem call_len_seq:CallR X (.builtin "len") (fun xs H Q=>∃ p ys,xs=[.ref p]∧(SqL X.K H p ys∨SqT X.K H p ys)∧Q (.int ys.length) H):=by
 intro pins s σ H xs us Q I r h
 obtain⟨p,ys,rfl,hq,q⟩:=h
 obtain⟨u,rfl,rx⟩:=vals1 r
 cases rx
 have hn:=line63
 rcases hq with hq | hq
 ·obtain⟨its,r',pl,hz⟩:=I.list hq
  have hlen:=r'.length
  exact Calls.call_len_list pl.isList (by simp only[List.size_toArray]<;>omega) ⟨.int ys.length,H,I.tok _,⟨s.toks+1,by rw[List.size_toArray,hlen]⟩,q⟩
 ·obtain⟨its,r',pl,hz⟩:=I.tuple hq
  have hlen:=r'.length
  exact len_tuple pl (by simp only[List.size_toArray]<;>omega) ⟨.int ys.length,H,I.tok _,⟨s.toks+1,by rw[List.size_toArray,hlen]⟩,q⟩
theorem call_list_of:CallR X (.type "list") (fun xs H Q=>∃ p ys,xs=[.ref p]∧(SqL X.K H p ys∨SqT X.K H p ys)∧∀ l,H l=none→Q (.ref l) (upd H l (.lst ys))):=by
 intro pins s σ H xs us Q I r h
 obtain⟨p,ys,rfl,hq,q⟩:=h
 obtain⟨u,rfl,rx⟩:=vals1 r
 cases rx
 have fin:∀(its:List Value),Vals ys its→ys.length≤sizeLine→∀(h':Heap) (c':Nat),(∀ b o',s.heap.get? b=some o'→h'.get? b=some o') →
   h'.get? s.heap.objs.size=some { cls:=.type "list",dict:=none,data:=.seq its.toArray c',slots:=#[] }→EP X pins σ Q (.ref s.heap.objs.size) { s with heap:=h' }:=fun its r' hz h' c' kp e=>
  ⟨.ref s.heap.objs.size,_,I.laid (t':=s.toks) kp (Nat.le_refl _) (show ObjOk X.prog X.w _ h' _ (.lst ys) from⟨hz,its,c',r',e⟩),rfl,q _ (I.hok.fresh (Nat.le_refl _))⟩
 rcases hq with hq | hq
 ·obtain⟨its,r',pl,hz⟩:=I.list hq
  have hlen:=r'.length
  obtain⟨o,ho,hc,n,hd⟩:=pl.isList
  exact call_list_seq p (.inl rfl) ho hc hd (fun h' c' kp e=>fin its r' hz h' c' kp e) (by simp only[List.size_toArray]<;>omega)
 ·obtain⟨its,r',pl,hz⟩:=I.tuple hq
  have hlen:=r'.length
  obtain⟨o,ho,hc,n,hd⟩:=pl
  exact call_list_seq p (.inr rfl) ho hc hd (fun h' c' kp e=>fin its r' hz h' c' kp e) (by simp only[List.size_toArray]<;>omega)
theorem call_tuple_of:CallR X (.type "tuple") (fun xs H Q=>∃ p ys,xs=[.ref p]∧((SqL X.K H p ys∧∀ l,H l=none→Q (.ref l) (upd H l (.tup ys)))∨(SqT X.K H p ys∧Q (.ref p) H))):=by
 intro pins s σ H xs us Q I r h
 obtain⟨p,ys,rfl,h⟩:=h
 obtain⟨u,rfl,rx⟩:=vals1 r
 cases rx
 rcases h with⟨hq,q⟩ | ⟨hq,q⟩
 ·obtain⟨its,r',pl,hz⟩:=I.list hq
  have hlen:=r'.length
  refine call_tuple_list pl.isList (fun h' kp=>?_) (by simp only[List.size_toArray]<;>omega)
  have I1:Inv X pins σ H { s with heap:=h' }:=I.kept (t':=s.toks) kp
  have I2:Inv X pins σ (upd H h'.objs.size (.tup ys)) { s with heap:=h'.push { cls:=.type "tuple",data:=.seq its.toArray } }:=
   I1.laid (t':=s.toks) (fun b o e=>Heap.get?_push_of_some _ e) (Nat.le_refl _) (show ObjOk X.prog X.w _ _ _ (.tup ys) from⟨hz,its,r',IsTup.new _ _⟩)
  exact⟨.ref h'.objs.size,_,I2,rfl,q _ (I1.hok.fresh (Nat.le_refl _))⟩
 ·obtain⟨its,r',pl,hz⟩:=I.tuple hq
  exact call_tuple_same pl ⟨.ref p,H,I,rfl,q⟩
def tyV(K:PySem.W.Frag)(T:String)(x:V)(H:Hp):Prop:=match x with
 | .str _=>T = "str"
 | .int _=>T = "int"
 | .ref p=>(T = "list"∧∃ xs,SqL K H p xs)∨(T = "tuple"∧∃ o,K.lookup p=some o∧o.cls = .type "tuple"∧o.dict=none) ∨
   (T = "dict"∧((∃ kvs,H p=some (.dK kvs))∨∃ kvs,H p=some (.dT kvs)))∨(T = "set"∧∃ S n,H p=some (.set S n))
 | _=>False
theorem tyV_is{pins:List (Addr×Obj)}{σ:St}{H:Hp}{s:Shared}{T:String}{x:V}{v:Value}(I:Inv X pins σ H s)(r:RelV x v)(ty:tyV X.K T x H) :
  s.TypeIs v T∧∀ a,v = .ref a→∃ ob,s.heap.get? a=some ob∧ob.dict=none:=by
 cases x with
 | str z=>
  obtain⟨t,rfl⟩:=r
  cases (show T = "str" from ty)
  exact⟨typeIs_str s z t,fun _ e=>nomatch e⟩
 | int i=>
  obtain⟨t,rfl⟩:=r
  cases (show T = "int" from ty)
  exact⟨typeIs_int s i t,fun _ e=>nomatch e⟩
 | ref p=>
  cases r
  rcases ty with⟨rfl,xs,hq⟩ | ⟨rfl,o,hk,hc,hd⟩ | ⟨rfl,hk⟩ | ⟨rfl,S,n,hk⟩
  ·obtain⟨its,_,pl,_⟩:=I.list hq
   refine⟨pl.isList.typeIs,fun a e=>?_⟩
   cases e
   obtain⟨o,n,e,c,hd,_⟩:=pl
   exact⟨o,e,hd⟩
  ·refine⟨⟨o,I.kIn p o hk,hc⟩,fun a e=>?_⟩
   cases e
   exact⟨o,I.kIn _ o hk,hd⟩
  ·have z:∃ o,s.heap.get? p=some o∧o.ExactDict:=by
    rcases hk with⟨kvs,hk⟩ | ⟨kvs,hk⟩
    ·obtain⟨_,_,_,_,o,_,_,e,ex,_⟩:=I.hok p _ hk
     exact⟨o,e,ex⟩
    ·obtain⟨_,_,_,_,o,_,_,e,ex,_⟩:=I.hok p _ hk
     exact⟨o,e,ex⟩
   obtain⟨o,e,ex⟩:=z
   refine⟨⟨o,e,ex.1⟩,fun a e2=>?_⟩
   cases e2
   exact⟨o,e,ex.2.1⟩
  ·obtain⟨o,_,_,_,e,ex,_⟩:=I.hok p _ hk
   refine⟨⟨o,e,ex.1⟩,fun a e2=>?_⟩
   cases e2
   exact⟨o,e,ex.2.1⟩
 | _=>exact False.elim ty
def tBM(K:PySem.W.Frag)(T:String)(r:V→List V→Hp→VK→Prop)(to:TE)(t:TA):TE:=fun σ H Q=>to σ H fun x H1=>tyV K T x H1∧t σ H1 fun xs H2=>r x xs H2 Q
variable{o e:Expr}{es:List Expr}{to:TE}{t:TA}{name:Str}{apos cpos:Pos}{T id:String}{r:V→List V→Hp→VK→Prop}
theorem pe_bm(pa:PlainAttrs T)(slot:Slot T name id)(hty:typeOf (.builtin id)=pure (.type "method_descriptor"))(hm:MtR X id r)(ho:PE X o to)(ha:PA X (e :: es) t)
  (hbase:attributeBase o name X.env (eval o X.env)=eval o X.env:=by rfl)
  (hfew:((backTo cpos (starEach (e :: es) X.env)).all (fun x=>!x.1) && (backToKw cpos (keywordEach [] X.env)).all (fun x=>x.1.isSome)
   && decide ((e :: es).length+([]:List Keyword).length+(if([]:List Keyword).isEmpty then 0 else 1) < 30))=true:=by rfl)
  (hline:(apos.endLine == cpos.line)=true:=by rfl) (hs:starEach (e :: es) X.env=(false,eval e X.env) :: starEach es X.env:=by rfl) (hplain:(backTo cpos (starEach es X.env)).any (·.1)=false:=by rfl) :
  PE X (.Call (.Attribute o name apos) (e :: es) [] cpos) (tBM X.K T r to t):=by
 intro pins s σ H Q I h
 refine wpAny_Call_method_late hbase hfew hline rfl (thn (ho pins s σ H _ I h) fun v s1 ⟨x,H1,I1,r1,ty,q1⟩=>?_)
 obtain⟨h1,h2⟩:=tyV_is I1 r1 ty
 refine⟨T,id,pa,slot,hty,h1,h2,?_⟩
 have hA:=ha cpos pins s1 σ H1 _ I1 q1
 rw[hs] at hA ⊢
 refine Calls.callWith_builtin (by show(false || (backTo cpos (starEach es X.env)).any (·.1))=false;rw[hplain]<;>rfl) (Calls.evalArgs_plain ?_)
 exact thn hA fun us s2 ⟨vs,H2,I2,r2,q2⟩=>hm pins s2 σ H2 x vs v us Q I2 r1 r2 q2
end
end L2
namespace L2
open PySem PySem.Spec PyProof.Rows
def MtM(X:Cx)(id:String)(r:V→List V→Hp→VK→Prop):Prop:=
 ∀(pins:List (Addr×Obj)) (s:Shared) (σ:St) (H:Hp) (x:V) (xs:List V) (v:Value) (us:List Value) (Q:VK),Inv X pins σ H s→RelV x v→Vals xs us→r x xs H Q →
  wpAny (model X.prog X.w) X.A (call (.builtin id) (v :: us)) (EP X pins σ Q) X.xe s
theorem Vals.one:∀{x:V} {us:List Value},Vals [x] us→∃ u,us=[u]∧RelV x u
 | _,_,.cons r .nil=>⟨_,rfl,r⟩
section
variable{X:Cx}{pins:List (Addr×Obj)}{σ:St}{H:Hp}{s:Shared}{l b:Addr}{xs ys zs:List V}
theorem Inv.lset{its its':List Value}{n:Nat}{f:Array Value→Array Value}{t':Nat}(I:Inv X pins σ H s)(hH:H l=some (.lst xs))
  (e:s.heap.get? l=some { cls:=.type "list",data:=.seq its.toArray n }) (hf:f its.toArray=its'.toArray) (hv:Vals ys its') (hz:ys.length≤sizeLine) :
  Inv X pins σ (upd H l (.lst ys)) { s with heap:=s.heap.update l (Obj.mapSeq f),toks:=t' }:=by
 have q:=PySem.IsL.update e f
 rw[hf] at q
 refine I.write (x:=l) (e:=l) (by rw[hH];exact trivial) (.inl rfl) (fun b' u hb hu=>(Heap.get?_update_other s.heap (Obj.mapSeq f) (Ne.symm hb)).trans hu) ⟨_,q⟩ ?_
 exact⟨hz,its',_,hv,q⟩
theorem Inv.lnew{its:List Value}{t':Nat}(I:Inv X pins σ H s)(hv:Vals ys its)(hz:ys.length≤sizeLine) :
  Inv X pins σ (upd H s.heap.objs.size (.lst ys)) { s with heap:=s.heap.push { cls:=.type "list",data:=.seq its.toArray },toks:=t' }:=
 I.laid (fun _ _ q=>Heap.get?_push_of_some _ q) (Nat.le_refl _) ⟨hz,its,0,hv,Heap.get?_push_size _ rfl⟩
theorem Inv.fresh(I:Inv X pins σ H s):H s.heap.objs.size=none:=I.hok.fresh (Nat.le_refl _)
theorem Inv.lstM(I:Inv X pins σ H s)(hH:H l=some (.lst xs)):xs.length≤sizeLine∧∃(its:List Value) (n:Nat),Vals xs its∧xs.length=its.length∧s.heap.get? l=some { cls:=.type "list",data:=.seq its.toArray n }:=by
 obtain⟨z,its,n,r,e⟩:=I.hok l _ hH
 exact⟨z,its,n,r,r.length,e⟩
end
section
variable{X:Cx}
def rAppend:V→List V→Hp→VK→Prop:=fun x vs H Q=>∃ l xs y,x = .ref l∧vs=[y]∧H l=some (.lst xs)∧xs.length < sizeLine∧Q .non (upd H l (.lst (xs++[y])))
theorem mt_append:MtM X "list.append" rAppend:=by
 intro pins s σ H x vs v us Q I rx rv h
 obtain⟨l,xs,y,rfl,rfl,hH,hz,q⟩:=h
 cases rx
 obtain⟨u,rfl,ru⟩:=rv.one
 obtain⟨z,its,n,r,hl,e⟩:=I.lstM hH
 refine call_meets F.slot_list_append ⟨_,e,rfl⟩ F.entry_list_append (F.args_list_append_2 _ _) (PySem.list_append l its.toArray n u (by rw[List.size_toArray];omega)) ⟨e,?_⟩
 refine⟨.non,_,I.lset (its':=its++[u]) hH e (by simp) (r.append (.cons ru .nil)) ?_,rfl,q⟩
 rw[List.length_append,List.length_singleton]
 omega
def rCat:R2:=fun x y H Q=>∃ l b xs zs,x = .ref l∧y = .ref b∧H l=some (.lst xs)∧H b=some (.lst zs)∧xs.length+zs.length≤sizeLine∧∀ p,H p=none→Q (.ref p) (upd H p (.lst (xs++zs)))
theorem op_cat:OpR X (binaryOp .Add) rCat:=by
 intro pins s σ H x y v u Q I rx ry h
 obtain⟨l,b,xs,zs,rfl,rfl,hH,hB,hz,q⟩:=h
 cases rx
 cases ry
 obtain⟨z,its,n,r,hl,e⟩:=I.lstM hH
 obtain⟨z2,its2,n2,r2,hl2,e2⟩:=I.lstM hB
 refine PySem.P.add_list e e2 ?_ (by rw[List.size_toArray,List.size_toArray];omega)
 have ea:its.toArray++its2.toArray=(its++its2).toArray:=by simp
 rw[ea]
 exact⟨.ref _,_,I.lnew (t':=s.toks) (r.append r2) (by rw[List.length_append];omega),rfl,q _ I.fresh⟩
end
section
variable{prog:Program}{w:World}{A:Around}{E:Value→Shared→Prop}{s:Shared}
end
section
variable{X:Cx}
end
end L2
namespace Att
open PySem PySem.W PySem.Calls PyProof.Rows
theorem ints_of_wellAll{P:Params}{h:Heap}:∀(ns:List Int) (vs:List Value),WellAll P h vs (ns.map WData.int)→IntsAre vs ns:=by
 intro ns
 induction ns with
 | nil=>
  intro vs w
  rw[List.map_nil] at w
  cases w
  exact .nil
 | cons n ns ih=>
  intro vs w
  rw[List.map_cons] at w
  cases w with
  | cons a b=>
   cases a
   exact .cons _ _ (ih _ b)
theorem script_of{l:OpenLaw}{n:Nat}(hn:l.most=some n){P:Params}{h:Heap}{args:List WData}{vals:List Value}
  (hpre:l.row.toRowW.claim.pre args=true) (hwl:WellAll P h vals args) :
  ∃ a vs ns,vals=[Value.ref a]∧args=[WData.list (ns.map WData.int)]∧h.get? a=some { cls:=.type "list",data:=.seq vs.toArray }∧IntsAre vs ns∧ns.length≤n:=by
 have hsh:WShape.hasAll [] args [.list .int]=true:=(pre_splitW hpre).1
 have hc:l.pre.holds [] { args:=args }=true:=(pre_splitW hpre).2
 obtain⟨d,r,rfl,h1,h2⟩:=hasAllW_cons hsh
 obtain rfl:=hasAllW_nil h2
 obtain⟨xs,rfl,h3⟩:=hasW_list h1
 obtain⟨ns,rfl⟩:=items_int h3
 have hlen:ns.length≤n:=by
  unfold OpenLaw.pre at hc
  have h4:(WTm.not (.lt (.lit (.int (n:Int))) (.len (.arg 0)))).holds [] { args:=[.list (ns.map .int)] }=true:=by
   have h4:=(holds_andW hc).1
   rw[hn] at h4
   exact h4
  have h5:=condW_of h4 (w_not (w_lt w_lit (w_len_list (w_arg rfl))))
  rw[List.length_map] at h5
  refine Nat.le_of_not_lt fun q=>?_
  have q':(n:Int) < ((ns.length:Nat):Int):=by omega
  first
   | (rw[decide_eq_true q'] at h5;exact absurd h5 (by decide))
   | (simp at h5;omega)
 cases hwl with
 | cons w1 w2=>
  cases w2
  cases w1 with
  | list ho hall=>exact⟨_,_,ns,rfl,rfl,ho,ints_of_wellAll ns _ hall,hlen⟩
theorem post_true(l:OpenLaw)(args:List WData):l.row.toRowW.claim.post args (.bool true) args=true:=
 postW_of (r:=l.row.toRowW) (X:=(true == true))
  (show WShape.has [] (.bool true) .bool=true by first | rfl | decide | simp [WShape.has,WShape.arms,WShape.armsAll])
  (show(WTm.eq .res (.lit (.bool true))).value [] { args:=args,res:=some (.bool true),after:=args }=some (.bool (true == true)) from w_eq_bool (w_res rfl) w_lit) rfl
theorem attach_call{l:OpenLaw}{n:Nat}{q:Program}{loose:List Str}{XP:(Str→Option Value)→Heap→Prop}{YP:World→Heap→Prop}{d:DefRec}
  (hn:l.most=some n) (hdf:d.params.defaults=[])
  (call:∀(w:World) (s₀ s₁:Shared) (mg mb:Str→Option Value) (fa:Addr) (o:Obj) (pm cd doc:Value) (a:Addr) (vs:List Value) (ns:List Int),
   Ground q loose [] XP w s₀ mg mb s₁.heap→YP w s₁.heap →
   s₁.heap.get? fa=some o→o.data = .func (docDef d.name d.params d.body d.scope pm cd doc)→s₁.heap.CodeRec cd d.name→mg d.name=some (.ref fa) →
   s₁.heap.get? a=some { cls:=.type "list",data:=.seq vs.toArray }→IntsAre vs ns→ns.length≤n→s₁.gens = #[] →
   codeAny (model l.prog w) callerA (.call (.ref fa) ⟨[.ref a],[]⟩) (fun r s'=>r = .ok (.ret (.bool true))∧OldK s₁.heap s'.heap∧s'.os=s₁.os∧AllBare s'.gens) s₁) :
  WalkO q loose XP YP l.row.toRowW d [] (fun f vs=>PySem.call f vs):=by
 intro w s₀ s₁ mg mb G Y fa o pm cd doc dV kV ho hd hcd hD hmg hg args vals as hpre hlay hrd hwl hlo
 obtain rfl:dV = .none:=Dflts.none hD hdf
 obtain rfl:kV = .none:=Dflts.noKw hD
 obtain⟨a,vs,ns,rfl,rfl,hobj,hints,hlen⟩:=script_of hn hpre hwl
 refine enter_call (codeAny_mono (call w s₀ s₁ mg mb fa o pm cd doc a vs ns G Y ho (fd_plain hd) hcd hmg hobj hints hlen hg) fun r s' hq=>?_)
 obtain⟨rfl,h2,h3,h4⟩:=hq
 exact⟨.inl ⟨.bool true,.bool true,[],rfl,fun _=>rfl,.bool true,post_true l _,fun _=>⟨List.Pairwise.nil,fun _ hm=>(nomatch hm)⟩⟩,h2,h3,h4⟩
section
variable{prog:Program}{w:World}{A:Around}{E:Value→Shared→Prop}{s:Shared}{K:Frag}
end
end Att
namespace L2
open PySem PySem.Spec PyProof.Rows
theorem vals_ints:∀{vs:List Value} {ns:List Int},IntsAre vs ns→Vals (ns.map V.int) vs
 | _,_,.nil=>.nil
 | _,_,.cons n t h=>.cons ⟨t,rfl⟩ (vals_ints h)
def Only(H:Hp):Prop:=∀ b,H b=none∨∃ o xs,H b=some (.frz o (.lst xs))
theorem law_call{P:Program}{w:World}{K:PySem.W.Frag}{mg mb:Str→Option Value}{CX:CXT}{k:Nat}{fa a:Addr}{fd:FuncData}{x:Str}{sp:Sp}{s₁:Shared}{vs:List Value}{ns:List Int}
    (KX:K.In s₁.heap) (hns:s₁.heap.Ns mainGlobals mg) (hb:s₁.heap.Ns builtinsNs mb) (hbb:∀ x:Str,x≠"__name__"→mb x=bootBuiltins x) (hlim:s₁.heap.NoLimit) (hg:s₁.gens = #[])
    (ha:s₁.heap.get? a=some { cls:=.type "list",data:=.seq vs.toArray }) (hi:IntsAre vs ns) (hl:ns.length≤sizeLine) (hr:Room k callerA)
    (F:∀ base:Heap,K.In base→base.Ns mainGlobals mg→FnOk P w K mg base CX k fa fd [x] sp) (hbind:∀(s:Shared) (u:Value),BindsTo s fd ⟨[u],[]⟩ [(x,u)])
    (hsp:∀ H:Hp,Only H→SqL K H a (ns.map V.int)→sp [.ref a] H (fun v _=>v = .bl true) fun _ _ _=>False)
    (hCX:∀ H e s',CX [] H s₁ (fun _ _ _=>False) e s'→False) :
    codeAny (model P w) callerA (.call (.ref fa) ⟨[.ref a],[]⟩) (fun r s'=>r = .ok (.ret (.bool true))∧OldK s₁.heap s'.heap∧s'.os=s₁.os∧AllBare s'.gens) s₁:=by
  have rv:=vals_ints hi
  have lenV:=hi.length
  have core:∀ H:Hp,Only H→SqL K H a (ns.map V.int)→HOk P w H s₁.heap→(∀ b,H b≠none→b=a)→(H a≠none→K.lookup a=none) →
      codeAny (model P w) callerA (.call (.ref fa) ⟨[.ref a],[]⟩) (fun r s'=>r = .ok (.ret (.bool true))∧OldK s₁.heap s'.heap∧s'.os=s₁.os∧AllBare s'.gens) s₁:=by
    intro H hO hS hok hA hK
    have base_of:∀{b:Addr} {o:Obj},s₁.heap.get? b=some o→H b=none→(hidT s₁.heap H).get? b=some o:=fun e n=>hidT_get e n
    have noA:∀{b:Addr} {o:Obj} {es:Array DictEntry} {ep:Nat},s₁.heap.get? b=some o→o.data = .dict es ep→H b=none:=fun {b o es ep} e d=>by
      cases q:H b with
      | none=>rfl
      | some u=>
        have e':b=a:=hA b (by rw[q];simp)
        subst e'
        rw[ha] at e;cases e
        have d':Data.seq vs.toArray _=Data.dict es ep:=d
        cases d'
    have nsK:∀{b:Addr} {m:Str→Option Value},s₁.heap.Ns b m→(hidT s₁.heap H).Ns b m:=fun {b m} ⟨o,es,ep,e,d,r⟩=>⟨o,es,ep,base_of e (noA e d),d,r⟩
    have hKb:K.In (hidT s₁.heap H):=fun b o e=>base_of (KX b o e) (by
      cases q:H b with
      | none=>rfl
      | some u=>
        have e':b=a:=hA b (by rw[q];simp)
        subst e'
        rw[hK (by rw[q];simp)] at e;cases e)
    have hM:Mod K mg (hidT s₁.heap H):=⟨hKb,nsK hns,⟨mb,nsK hb,hbb⟩,let ⟨mc,h1,h2⟩:=hlim;⟨mc,nsK h1,h2⟩⟩
    have e0:Env0 P w K mg (hidT s₁.heap H) callerA [] s₁ H:=⟨rfl,hM,fun b o e=>of_hidT e,Nat.le_of_eq (hidT_size _ _),trivial,fun b hb=>absurd (show b∈([]:List Addr) from hb) (by simp),hok,.of_eq hg⟩
    refine codeAny_mono ((F _ hKb (nsK hns)).run callerA [] s₁ H ⟨[.ref a],[]⟩ [.ref a] [.ref a] _ _ hr e0 (hbind s₁ (.ref a)) (.cons rfl .nil) (hsp H hO hS)) fun r s' h=>?_
    cases r with
    | error e=>exact(hCX H e s' h).elim
    | ok fl=>
      cases fl with
      | next=>exact False.elim h
      | brk=>exact False.elim h
      | cont=>exact False.elim h
      | ret u=>
        obtain⟨v,H',os,bare,un,hok',r',q⟩:=h
        have q':v = .bl true:=q
        subst q'
        obtain rfl:u=Value.bool true:=r'
        refine⟨rfl,OldK.of_keep fun b o e=>?_,os,bare⟩
        cases q:H b with
        | none=>exact un.keep b o e q (by intro z;exact absurd (show b∈([]:List Addr) from z) (by simp)) (by simp)
        | some u=>
          rcases hO b with z | ⟨ob,xs,z⟩
          · rw[q] at z;cases z
          · have z2:=un.frzs b ob _ z
            obtain⟨e1,_⟩:=hok b _ z
            obtain⟨e2,_⟩:=hok' b _ z2
            rw[e] at e1;cases e1
            exact e2
  cases hk:K.lookup a with
  | some o=>
    have e:=KX a o hk
    rw[ha] at e
    cases e
    refine core (fun _=>none) (fun _=>.inl rfl) (.inr ⟨_,vs.toArray,_,hk,rfl,rfl,rfl,by rw[List.size_toArray,lenV];exact hl,by simpa using rv⟩) (fun b u z=>by have z':(none:Option HO)=some u:=z;cases z') (fun b z=>absurd rfl z) fun z=>absurd rfl z
  | none=>
    refine core (fun b=>if b=a then some (.frz { cls:=.type "list",data:=.seq vs.toArray } (.lst (ns.map V.int))) else none) (fun b=>?_) (.inl (.inr ⟨{ cls:=.type "list",data:=.seq vs.toArray },if_pos rfl⟩)) (fun b u z=>?_) (fun b z=>?_) fun _=>hk
    · by_cases hb:b=a
      · exact .inr ⟨_,_,if_pos hb⟩
      · exact .inl (if_neg hb)
    · by_cases hb:b=a
      · have z':=(if_pos hb).symm.trans z
        cases z'
        subst hb
        exact⟨ha,by rw[List.length_map];exact hl,vs,_,rv,ha⟩
      · have z':=(if_neg hb).symm.trans z
        cases z'
    · by_cases hb:b=a
      · exact hb
      · exact absurd (if_neg hb) z
end L2
namespace L2
open PySem PySem.Spec PyProof.Rows
theorem walk_of{l:PySem.W.OpenLaw}{n k:Nat}{q:Program}{loose:List Str}{XP:(Str→Option Value)→Heap→Prop}{YP:World→Heap→Prop}{d:DefRec}{K:Params→PySem.W.Frag}{CX:World→CXT}{sp:World→Sp}{x:Str}
  (hn:l.most=some n) (hn2:n≤sizeLine) (hdf:d.params.defaults=[]) (hr:Room k callerA)
  (hY:∀(w:World) (h:Heap),YP w h→(K w.params).In h)
  (F:∀(w:World) (mg:Str→Option Value) (fa:Addr) (h:Heap),(K w.params).In h→h.Ns mainGlobals mg→mg d.name=some (.ref fa) →
   ∃ fd:FuncData,(∀(s:Shared) (u:Value),BindsTo s fd ⟨[u],[]⟩ [(x,u)]) ∧
    ∀ base:Heap,(K w.params).In base→base.Ns mainGlobals mg→FnOk l.prog w (K w.params) mg base (CX w) k fa fd [x] (sp w))
  (hsp:∀(w:World) (H:Hp) (a:Addr) (ns:List Int),ns.length≤n→Only H→SqL (K w.params) H a (ns.map V.int)→sp w [.ref a] H (fun v _=>v = .bl true) fun _ _ _=>False)
  (hCX:∀(w:World) (H:Hp) (s:Shared) (e:Value) (s':Shared),CX w [] H s (fun _ _ _=>False) e s'→False) :
  PySem.W.WalkO q loose XP YP l.row.toRowW d [] (fun f vs=>PySem.call f vs):=by
 refine Att.attach_call hn hdf fun w s₀ s₁ mg mb fa o pm cd doc a vs ns G Y ho hd hcd hmg hobj hints hlen hg=>?_
 have KX:=hY w _ Y
 obtain⟨fd,hb,hF⟩:=F w mg fa _ KX G.T.g hmg
 exact law_call KX G.T.g G.T.b G.T.builtins G.T.nolimit hg hobj hints (Nat.le_trans hlen hn2) hr hF hb (fun H hO hS=>hsp w H a ns hlen hO hS) fun H e s'=>hCX w H s₁ e s'
end L2
namespace L2
open PySem PySem.Spec PyProof.Rows
def defArgs(s:Stmt):Arguments:=match s with
 | .FunctionDef _ a _ _ _ _ _ _ _ _=>a
 | _=>{ posonlyargs:=[],args:=[],vararg:=none,kwonlyargs:=[],kw_defaults:=[],kwarg:=none,defaults:=[] }
def defBody(s:Stmt):List Stmt:=match s with
 | .FunctionDef _ _ b _ _ _ _ _ _ _=>b
 | _=>[]
def defScope(s:Stmt):Scope:=match s with
 | .FunctionDef _ _ _ _ _ _ sc _ _ _=>sc
 | _=>{ kind:=.function,names:=[],isGenerator:=false,isCoroutine:=false }
abbrev CX0:CXT:=fun _ _ _ _ _ _=>False
abbrev E0:XK:=fun _ _ _=>False
theorem pass0{X:Cx}:Passes CX0 X E0:=fun _ _ _ _ _ _ _ h=>h.elim
structure Fun(K:PySem.W.Frag)(x qual:Str)(st:Stmt)(f:Addr)(fd:FuncData):Prop where
 ex:∃(oc:Value) (od:Option Addr) (kV doc pm:Value) (an:Option Addr) (cdv ct:Value) (osl:Array (Option Value)),
  fd=PySem.W.fnOf x qual (defArgs st) (defBody st) (defScope st) .none kV doc pm an cdv ct∧K.lookup f=some ⟨oc,od,.func fd,osl⟩∧PySem.W.codeIn K cdv qual=true
 kp:PySem.W.keepIn K (.ref f)=true
section
variable{P:Program}{w:World}{K:PySem.W.Frag}{mg:Str→Option Value}{base:Heap}
theorem Fun.ok{x qual:Str}{st:Stmt}{f:Addr}{fd:FuncData}{N ps:List Str}{k:Nat}{sp:Sp}(F:Fun K x qual st f fd)(S:FnScope N ps (defScope st))(len:∀ vs H Q E,sp vs H Q E→vs.length=ps.length)
  (hbody:∀(cdv:Value) (A:Around) (outer:List Env) (s:Shared) (H:Hp) (vs:List V) (Q:VK) (E:XK),Room k (A.deeper (envOfC qual (defScope st) s.heap.objs.size f cdv))→sp vs H Q E →
   ∃ t,PSs (cxOf CX0 P w K mg base N qual (defScope st) f cdv A outer s H E).nox (defBody st) t∧t { nx:=fun _ H'=>Q .non H',rt:=Q } (start N vs) H):FnOk P w K mg base CX0 (k+1) f fd ps sp:=by
 obtain⟨oc,od,kV,doc,pm,an,cdv,ct,osl,rfl,lk,hcd⟩:=F.ex
 refine fn_of lk hcd S len fun A outer s H vs Q E hr hsp=>?_
 obtain⟨t,h,q⟩:=hbody cdv A outer s H vs Q E hr hsp
 exact⟨t,h.nox,q⟩
theorem Fun.binds{x qual:Str}{st:Stmt}{f:Addr}{fd:FuncData}{ps:List Str}(F:Fun K x qual st f fd)
  (h:∀(kV doc pm:Value) (an:Option Addr) (cdv ct:Value) (us:List Value),us.length=ps.length→bindArgs (PySem.W.fnOf x qual (defArgs st) (defBody st) (defScope st) .none kV doc pm an cdv ct) ⟨us,[]⟩=pure (ps.zip us)):Binds K fd ps []:=by
 obtain⟨oc,od,kV,doc,pm,an,cdv,ct,osl,rfl,lk,hcd⟩:=F.ex
 exact .all (h kV doc pm an cdv ct)
theorem fun_mk{x qual:Str}{st:Stmt}{f:Addr}{oc:Value}{od an:Option Addr}{osl:Array (Option Value)}{kV doc pm cdv ct:Value}(l:K.lookup f=some ⟨oc,od,.func (PySem.W.fnOf x qual (defArgs st) (defBody st) (defScope st) .none kV doc pm an cdv ct),osl⟩)
  (c:PySem.W.codeIn K cdv qual=true) (k:PySem.W.keepIn K (.ref f)=true):Fun K x qual st f (PySem.W.fnOf x qual (defArgs st) (defBody st) (defScope st) .none kV doc pm an cdv ct):=⟨⟨oc,od,kV,doc,pm,an,cdv,ct,osl,rfl,l,c⟩,k⟩
end
theorem small1000{n:Nat}(h:n≤1000):n < sizeLine:=Nat.lt_of_le_of_lt h (by decide)
section
variable{X:Cx}
theorem pv(i:Nat){x:Str}{pos:Pos}(hN:X.N[i]? = some x:=by rfl)(hv:Vis X.env.scope x:=by first | exact Or.inl rfl | exact Or.inr (Or.inl rfl) | exact Or.inr (Or.inr rfl))(hd:(x == ("__debug__":Str))=false:=by decide)
  (hcd:(x == ("__classdict__":Str))=false:=by decide):PE X (.Name x pos) (tVar i):=pe_var hN hv hd hcd
end
theorem iteF{A B:Prop}(h:B):if false=true then A else B:=by
 rw[if_neg Bool.false_ne_true]
 exact h
theorem iteT{A B:Prop}(h:A):if true=true then A else B:=by
 rw[if_pos rfl]
 exact h
theorem ite2{c A B:Prop} [Decidable c](h1:c→A)(h2:¬ c→B):if c then A else B:=by
 by_cases h:c
 ·rw[if_pos h]
  exact h1 h
 ·rw[if_neg h]
  exact h2 h
def Same(H H':Hp):Prop:=∀ b o,H b=some o→H' b=some o
theorem Same.refl(H:Hp):Same H H:=fun _ _ h=>h
theorem Same.trans{H H1 H2:Hp}(a:Same H H1)(b:Same H1 H2):Same H H2:=fun c o h=>b c o (a c o h)
theorem Same.free{H H':Hp}(e:Same H H'){l:Addr}(h:H' l=Option.none):H l=Option.none:=by
 cases q:H l with
 | none=>rfl
 | some o=>
  rw[e l o q] at h
  cases h
theorem Same.seq{K:PySem.W.Frag}{H H':Hp}{a:Addr}{xs:List V}(e:Same H H')(h:SqL K H a xs):SqL K H' a xs:=by
 rcases h with(h | ⟨o,h⟩) | h
 ·exact .inl (.inl (e _ _ h))
 ·exact .inl (.inr ⟨o,e _ _ h⟩)
 ·exact .inr h
end L2
set_option maxHeartbeats 4000000
namespace L2
open PySem PySem.Spec PyProof.Rows
def clOf(env:Env):List (Str×NameKind)→List (Str×Addr)→List (Str×Addr)
 | [],acc=>acc
 | (n,k) :: r,acc=>clOf env r (if k == NameKind.free then(match env.cells.lookup n with | some c=>(n,c) :: acc | none=>acc) else acc)
theorem clo_fold{env:Env}{f:Str×NameKind→List (Str×Addr)→Sem (ForInStep (List (Str×Addr)))}
  (hf:∀ n k acc,f (n,k) acc=if(k == NameKind.free)=true then(do let c ← cellOf env n;pure (ForInStep.yield ((n,c) :: acc))) else pure (ForInStep.yield acc)) :
  ∀(l:List (Str×NameKind)) (acc:List (Str×Addr)),(∀ y∈l,y.2 = .free→∃ c,env.cells.lookup y.1=some c)→forIn l acc f=(pure (clOf env l acc):Sem _)
 | [],acc,_=>rfl
 | (n,k) :: r,acc,h=>by
  rw[List.forIn_cons,hf]
  have ih:=clo_fold hf r
  by_cases hk:(k == NameKind.free)=true
  ·have hk':k = .free:=by simpa using hk
   obtain⟨c,hc⟩:=h (n,k) List.mem_cons_self hk'
   have e:cellOf env n=(pure c:Sem _):=by unfold cellOf;rw[hc]
   rw[if_pos hk,e,pure_bind,pure_bind]
   show forIn r ((n,c) :: acc) f=_
   rw[ih _ fun y hy=>h y (List.mem_cons_of_mem _ hy)]
   unfold clOf
   rw[if_pos hk]
   have hc2:List.lookup n env.cells=some c:=hc
   simp only[hc2]
   cases r<;>rfl
  ·rw[if_neg hk,pure_bind]
   show forIn r acc f=_
   rw[ih _ fun y hy=>h y (List.mem_cons_of_mem _ hy)]
   conv=>rhs;unfold clOf
   rw[if_neg hk]
theorem clo_eq{scope:Scope}{env:Env}(h:∀ y∈scope.names,y.2 = .free→∃ c,env.cells.lookup y.1=some c):closureFor scope env=(pure (clOf env scope.names []):Sem _):=by
 have e:closureFor scope env=(forIn scope.names ([]:List (Str×Addr)) (fun x cs=>match x with
   | (name,kind)=>if(kind == NameKind.free)=true then(do let c ← cellOf env name;pure (ForInStep.yield ((name,c) :: cs))) else pure (ForInStep.yield cs)) >>= fun cs=>pure cs):=rfl
 rw[e,clo_fold (env:=env) (fun n k acc=>rfl) scope.names [] h]
 rfl
theorem cl_sub{env:Env}:∀{l:List (Str×NameKind)} {acc:List (Str×Addr)},(∀ x c,acc.lookup x=some c→env.cells.lookup x=some c)→∀ x c,(clOf env l acc).lookup x=some c→env.cells.lookup x=some c
 | [],acc,h,x,c,e=>h x c e
 | (n,k) :: r,acc,h,x,c,e=>by
  unfold clOf at e
  refine cl_sub (l:=r) (fun y d hd=>?_) x c e
  by_cases hk:(k == NameKind.free)=true
  ·rw[if_pos hk] at hd
   cases hc:env.cells.lookup n with
   | none=>rw[hc] at hd;exact h y d hd
   | some c'=>
    rw[hc] at hd
    simp only[List.lookup_cons] at hd
    by_cases hy:(y == n)=true
    ·rw[hy] at hd
     have e1:y=n:=by simpa using hy
     cases hd
     rw[e1];exact hc
    ·have hy':(y == n)=false:=by simpa using hy
     rw[hy'] at hd
     exact h y d hd
  ·rw[if_neg hk] at hd;exact h y d hd
theorem cl_mono{env:Env}:∀{l:List (Str×NameKind)} {acc:List (Str×Addr)} {x:Str},(acc.lookup x).isSome=true→((clOf env l acc).lookup x).isSome=true
 | [],acc,x,h=>h
 | (n,k) :: r,acc,x,h=>by
  unfold clOf
  refine cl_mono (l:=r) ?_
  by_cases hk:(k == NameKind.free)=true
  ·rw[if_pos hk]
   cases hc:env.cells.lookup n with
   | none=>exact h
   | some c'=>
    simp only[List.lookup_cons]
    by_cases hy:(x == n)=true
    ·rw[hy];rfl
    ·have hy':(x == n)=false:=by simpa using hy
     rw[hy'];exact h
  ·rw[if_neg hk];exact h
theorem cl_has{env:Env}:∀{l:List (Str×NameKind)} {acc:List (Str×Addr)} {x:Str} {c:Addr},(x,NameKind.free)∈l→env.cells.lookup x=some c→((clOf env l acc).lookup x).isSome=true
 | (n,k) :: r,acc,x,c,hm,hc=>by
  unfold clOf
  rcases List.mem_cons.mp hm with e | hm
  ·cases e
   rw[if_pos (by rfl)]
   rw[hc]
   refine cl_mono ?_
   simp
  ·exact cl_has hm hc
theorem relabel_of{env:Env}:∀{names:List (Str×NameKind)} {x:Str} {k:NameKind},(∀ y∈names,y.2 ≠ .cell) →
  (names.map fun(n,k)=>if(k == NameKind.free && env.scope.kind == .function && env.kindOf n == some .cell) then(n,NameKind.cell) else(n,k)).lookup x=some k→(k = .cell∨k = .free)→(x,NameKind.free)∈names
 | [],_,_,_,h,_=>by simp at h
 | (n,j) :: r,x,k,hn,h,hk=>by
  rw[List.map_cons] at h
  cases hx:x == n with
  | true=>
   have hxe:x=n:=by simpa using hx
   subst hxe
   by_cases hc:(j == NameKind.free && env.scope.kind == .function && env.kindOf x == some .cell)=true
   ·have hj:j = .free:=by
     simp only[Bool.and_eq_true] at hc
     simpa using hc.1.1
    subst hj
    exact List.mem_cons_self
   ·rw[show(match ((x,j):Str×NameKind) with | (n,k)=>if(k == NameKind.free && env.scope.kind == .function && env.kindOf n == some .cell)=true then(n,NameKind.cell) else(n,k))=(x,j) from if_neg hc] at h
    simp only[List.lookup_cons,beq_self_eq_true] at h
    cases h
    rcases hk with e | e
    ·exact absurd e (hn (x,j) List.mem_cons_self)
    ·rw[e];exact List.mem_cons_self
  | false=>
   refine List.mem_cons_of_mem _ (relabel_of (env:=env) (fun y hy=>hn y (List.mem_cons_of_mem _ hy)) ?_ hk)
   by_cases hc:(j == NameKind.free && env.scope.kind == .function && env.kindOf n == some .cell)=true
   ·rw[show(match ((n,j):Str×NameKind) with | (n,k)=>if(k == NameKind.free && env.scope.kind == .function && env.kindOf n == some .cell)=true then(n,NameKind.cell) else(n,k))=(n,NameKind.cell) from if_pos hc] at h
    simp only[List.lookup_cons,hx] at h
    exact h
   ·rw[show(match ((n,j):Str×NameKind) with | (n,k)=>if(k == NameKind.free && env.scope.kind == .function && env.kindOf n == some .cell)=true then(n,NameKind.cell) else(n,k))=(n,j) from if_neg hc] at h
    simp only[List.lookup_cons,hx] at h
    exact h
theorem relabel_free{env:Env}:∀{names:List (Str×NameKind)} {x:Str},names.lookup x=some .free →
  (names.map fun(n,k)=>if(k == NameKind.free && env.scope.kind == .function && env.kindOf n == some .cell) then(n,NameKind.cell) else(n,k)).lookup x=some .cell ∨
  (names.map fun(n,k)=>if(k == NameKind.free && env.scope.kind == .function && env.kindOf n == some .cell) then(n,NameKind.cell) else(n,k)).lookup x=some .free
 | [],_,h=>by simp at h
 | (n,j) :: r,x,h=>by
  rw[List.map_cons]
  cases hx:x == n with
  | true=>
   simp only[List.lookup_cons,hx] at h
   cases h
   by_cases hc:(NameKind.free == NameKind.free && env.scope.kind == .function && env.kindOf n == some .cell)=true
   ·refine .inl ?_
    rw[show(match ((n,NameKind.free):Str×NameKind) with | (n,k)=>if(k == NameKind.free && env.scope.kind == .function && env.kindOf n == some .cell)=true then(n,NameKind.cell) else(n,k))=(n,NameKind.cell) from if_pos hc]
    simp only[List.lookup_cons,hx]
   ·refine .inr ?_
    rw[show(match ((n,NameKind.free):Str×NameKind) with | (n,k)=>if(k == NameKind.free && env.scope.kind == .function && env.kindOf n == some .cell)=true then(n,NameKind.cell) else(n,k))=(n,NameKind.free) from if_neg hc]
    simp only[List.lookup_cons,hx]
  | false=>
   simp only[List.lookup_cons,hx] at h
   have ih:=relabel_free (env:=env) h
   by_cases hc:(j == NameKind.free && env.scope.kind == .function && env.kindOf n == some .cell)=true
   ·rw[show(match ((n,j):Str×NameKind) with | (n,k)=>if(k == NameKind.free && env.scope.kind == .function && env.kindOf n == some .cell)=true then(n,NameKind.cell) else(n,k))=(n,NameKind.cell) from if_pos hc]
    simp only[List.lookup_cons,hx]
    exact ih
   ·rw[show(match ((n,j):Str×NameKind) with | (n,k)=>if(k == NameKind.free && env.scope.kind == .function && env.kindOf n == some .cell)=true then(n,NameKind.cell) else(n,k))=(n,j) from if_neg hc]
    simp only[List.lookup_cons,hx]
    exact ih
theorem lookup_mem{x:Str}{k:NameKind}:∀{l:List (Str×NameKind)},l.lookup x=some k→(x,k)∈l
 | [],h=>by simp at h
 | (n,j) :: r,h=>by
  cases hx:x == n with
  | true=>
   simp only[List.lookup_cons,hx] at h
   cases h
   have e:x=n:=by simpa using hx
   rw[e];exact List.mem_cons_self
  | false=>
   simp only[List.lookup_cons,hx] at h
   exact List.mem_cons_of_mem _ (lookup_mem h)
def blk(X:Cx)(N:List Str)(scope:Scope)(C:Addr)(s₀:Shared)(H₀:Hp)(ex:List Addr)(xe:Value→Shared→Prop):Cx:=
 { X with N:=N,s₀:=s₀,H₀:=H₀,env:=compEnvC scope (clOf X.env scope.names []) C X.env,outer:=X.stack,stack:=X.stack,ex:=ex,fn:=fun _=>false,pn:=[],xe:=xe }
structure Blk(X:Cx)(N:List Str)(caps:List (Option Nat))(scope:Scope):Prop where
 kind:scope.kind = .function
 nocell:∀ y∈scope.names,y.2 ≠ .cell
 names:∀ y∈scope.names,y.2 = .local→scope.names.lookup y.1=some .local
 free:∀ y∈scope.names,y.2 = .free→X.env.kindOf y.1=some .cell∨X.env.kindOf y.1=some .free
 len:caps.length=N.length
 cap:∀(i j:Nat) (x:Str),caps[i]? = some (some j)→N[i]? = some x→X.N[j]? = some x∧Vis X.env.scope x∧scope.names.lookup x=some .free
def capSt(caps:List (Option Nat))(σ:St):St:=caps.map fun c=>match c with | some j=>(σ[j]?).join | none=>none
section
variable{X:Cx}{pins:List (Addr×Obj)}{σ:St}{H:Hp}{s:Shared}
theorem blk_ok{N:List Str}{caps:List (Option Nat)}{scope:Scope}{fp:List Addr}{xe:Value→Shared→Prop}(B:Blk X N caps scope)(I:Inv X pins σ H s)(hlt:∀ b∈fp,b < s.heap.objs.size)(hf:∀ b∈fp,FpOk X pins H b) :
  (blk X N scope s.heap.objs.size s H fp xe).Ok where
 mod:=I.ok.mod
 kind:=B.kind
 glob:=I.ok.glob
 blt:=I.ok.blt
 above:=Nat.le_refl _
 inj:=fun x y c hx hy=>I.ok.inj x y c (cl_sub (fun _ _ e=>by simp at e) x c hx) (cl_sub (fun _ _ e=>by simp at e) y c hy)
 has:=fun x hk=>by
  have hm:(x,NameKind.free)∈scope.names:=hk.elim (fun e=>relabel_of B.nocell e (.inl rfl)) fun e=>relabel_of B.nocell e (.inr rfl)
  obtain⟨c,hc⟩:=I.ok.has x (B.free _ hm rfl)
  exact Option.isSome_iff_exists.mp (cl_has hm hc)
 cab:=fun x c h _=>by cases h
 hd:=I.ok.hd
 frames:=I.ok.frames
 stk:=.inl rfl
 exf:=fun b hb=>⟨Nat.ne_of_lt (hlt b hb),fun x c hc=>(hf b hb).2.2.2.2.1 x c (cl_sub (fun _ _ e=>by simp at e) x c hc)⟩
 bs:=I.bs
 bsz:=Nat.le_trans I.ok.bsz I.sz
 noex:=fun b o e hb=>by
  rcases(hf b hb).2.2.2.1 with h | h
  ·exact I.ok.noex b o e h
  ·exact absurd (Heap.lt_size (I.ok.bs b o e).1) (Nat.not_lt.mpr h)
 exfs:=fun b hb hs=>by
  rcases List.mem_cons.mp (I.stkSub b hs) with e | e
  ·exact(hf b hb).2.1 e
  ·exact(hf b hb).2.2.1 e
 funs:=I.stack
 frf:=I.stkFree
theorem blk_inv{N:List Str}{caps:List (Option Nat)}{scope:Scope}{fp:List Addr}{xe:Value→Shared→Prop}{h₁:Heap}{t':Nat}(B:Blk X N caps scope)(I:Inv X pins σ H s)(hlt:∀ b∈fp,b < s.heap.objs.size)(hf:∀ b∈fp,FpOk X pins H b)
  {m:Str→Option Value} (hn:h₁.Ns s.heap.objs.size m) (hk:∀ b o,s.heap.get? b=some o→h₁.get? b=some o) :
  Inv (blk X N scope s.heap.objs.size s H fp xe) [] (capSt caps σ) H { s with heap:=h₁,toks:=t' } where
 ok:=blk_ok B I hlt hf
 os:=rfl
 bare:=I.bare
 base:=Un.kept hk
 loc:=by
  refine⟨m,hn,fun i x v hN hσ hv=>?_⟩
  unfold capSt at hσ
  rw[List.getElem?_map] at hσ
  cases hc:caps[i]? with
  | none=>rw[hc] at hσ;cases hσ
  | some oj=>
   rw[hc] at hσ
   cases oj with
   | none=>cases hσ
   | some j=>
    have hσ':(σ[j]?).join=some v:=Option.some.inj hσ
    have hj:σ[j]? = some (some v):=by
     cases q:σ[j]? with
     | none=>rw[q] at hσ';cases hσ'
     | some o=>rw[q] at hσ';have:o=some v:=hσ';rw[this]
    obtain⟨hNj,hVis,hfr⟩:=B.cap i j x hc hN
    obtain⟨m',_,hl⟩:=I.loc
    obtain⟨u,ru,lk⟩:=hl j x v hNj hj hVis
    have hm:=lookup_mem hfr
    have hkX:=B.free _ hm rfl
    refine⟨u,ru,.inr ⟨relabel_free hfr,?_⟩⟩
    rcases lk with⟨e,_⟩ | ⟨_,c,hc1,hc2⟩
    ·rcases hkX with e' | e'
     ·rw[e] at e';cases e'
     ·rw[e] at e';cases e'
    ·obtain⟨c',hc'⟩:=Option.isSome_iff_exists.mp (cl_has (env:=X.env) (acc:=[]) hm hc1)
     have h2:=cl_sub (fun _ _ e=>by simp at e) x c' hc'
     rw[hc1] at h2
     cases h2
     exact⟨c,hc',hc2.keeps hk⟩
 cell:=fun x c hc=>by
  obtain⟨v,hv⟩:=I.cell x c (cl_sub (fun _ _ e=>by simp at e) x c hc)
  exact⟨v,hv.keeps hk⟩
 free:=I.hok.fresh (Nat.le_refl _)
 freeC:=fun x c hc=>I.freeC x c (cl_sub (fun _ _ e=>by simp at e) x c hc)
 pin:=fun p hp=>by cases hp
 hok:=I.hok.kept hk
 len:=by unfold capSt;rw[List.length_map];exact B.len
end
end L2
namespace L2
open PySem PySem.Spec PyProof.Rows
section
variable{prog:Program}{w:World}{A:Around}{R:Result→Shared→Prop}{s:Shared}
abbrev testsOf(ifs:List Expr)(env:Env):Sem Bool:=forIn ifs true fun c r=>if r=true then do let ok ← isTrue c env (eval c env);pure (ForInStep.yield ok) else pure (ForInStep.yield r)
theorem comp_loop{elt target iter:Expr}{ifs:List Expr}{scope:Scope}{pos:Pos}{it acc:Value}{env:Env}(I:Nat→Shared→Prop)
  (turn:∀ n s,I n s→wpAny (model prog w) A (pyNext it) (fun r s₁=>match r with
   | none=>R (.ok .next) s₁
   | some v=>wpAny (model prog w) A (letOwnedTupleGo target it v) (fun _ s₁'=>wpAny (model prog w) A (assign target env v) (fun _ s₂=>
     wpAny (model prog w) A (testsOf ifs env) (fun ok s₃=>
      if ok=true then wpAny (model prog w) A (eval elt env) (fun x s₄=>
       wpAny (model prog w) A (call (.builtin "list.append") [acc,x]) (fun _ s₅=>∃ m,m < n∧I m s₅) (notedBy (model prog w) A env fun e s'=>R (.error e) s') s₄) (notedBy (model prog w) A env fun e s'=>R (.error e) s') s₃
      else ∃ m,m < n∧I m s₃) (notedBy (model prog w) A env fun e s'=>R (.error e) s') s₂) (notedBy (model prog w) A env fun e s'=>R (.error e) s') s₁') (notedBy (model prog w) A env fun e s'=>R (.error e) s') s₁) (notedBy (model prog w) A env fun e s'=>R (.error e) s') s)
  (n:Nat) (h:I n s):codeAny (model prog w) A (.compLoop (.ListComp elt [⟨target,iter,ifs,0⟩] scope pos) 0 it acc env) R s:=by
 refine codeAny_loop rfl I (fun n s hI=>?_) n h
 show wpAny _ A ((compTurn (.ListComp elt [⟨target,iter,ifs,0⟩] scope pos) 0 it acc env).onRaise (fun x=>do noteFrame x env;theTreesLotGoes x)) _ _ s
 refine wpAny_noted ?_
 rw[compTurn_list]
 refine wpAny_bind (wpAny_standAt (wpAny_bind (wpAny_mono (turn n s hI) (fun r s₁ h₁=>?_) fun _ _ h'=>h')))
 cases r with
 | none=>exact wpAny_pure h₁
 | some v=>
  refine wpAny_bind (wpAny_mono h₁ (fun _ s₁' h₁'=>?_) fun _ _ h'=>h')
  refine wpAny_bind (wpAny_mono h₁' (fun _ s₂ h₂=>wpAny_bind (wpAny_mono h₂ (fun ok s₃ h₃=>?_) fun _ _ h'=>h')) fun _ _ h'=>h')
  cases ok with
  | false=>exact wpAny_pure ⟨rfl,h₃⟩
  | true=>
   exact wpAny_bind (wpAny_bind (wpAny_mono h₃ (fun x s₄ h₄=>wpAny_bind (wpAny_mono h₄ (fun _ s₅ h₅=>wpAny_pure (wpAny_pure ⟨rfl,h₅⟩)) fun _ _ h'=>h')) fun _ _ h'=>h'))
end
def PF(X:Cx)(ifs:List Expr)(t:TT):Prop:=
 ∀(pins:List (Addr×Obj)) (s:Shared) (σ:St) (H:Hp) (Q:Bool→Hp→Prop),Inv X pins σ H s→t σ H Q→wpAny (model X.prog X.w) X.A (testsOf ifs X.env) (TP X pins σ Q) X.xe s
def tYes:TT:=fun _ H Q=>Q true H
theorem pf_nil{X:Cx}:PF X [] tYes:=fun pins s σ H Q I h=>wpAny_tests_nil ⟨H,I,h⟩
theorem pf_one{X:Cx}{c:Expr}{t:TT}(h:PT X c t):PF X [c] t:=fun pins s σ H Q I q=>wpAny_tests_one (h pins s σ H Q I q)
def tCompR(g:TG)(tt:TT)(te:TE)(σ0:St)(J:It)(H1:Hp)(Q:V→Hp→Prop):Prop:=
 ∀ l,H1 l=none→∃ W:Nat→Nat→St→Hp→Prop,(∃ m,W 0 m σ0 (upd H1 l (.lst [])))∧∀ i m σ H,W i m σ H →
  (J.stop i H∧Q (.ref l) H)∨(J.go i H∧∀ x H',J.yld i H x H'→g x σ H' fun σ2 H2=>tt σ2 H2 fun c H3=>
   if c=true then te σ2 H3 fun v H4=>∃ xs,H4 l=some (.lst xs)∧xs.length < sizeLine∧∃ m',m' < m∧W (i+1) m' σ2 (upd H4 l (.lst (xs++[v])))
   else ∃ m',m' < m∧W (i+1) m' σ2 H3)
def tComp(caps:List (Option Nat))(wi:TI)(g:TG)(tt:TT)(te:TE):TE:=fun σ H Q=>wi σ H fun J H1=>tCompR g tt te (capSt caps σ) J H1 Q
structure Loose(X:Cx)(pins:List (Addr×Obj))(H:Hp)(C:Addr):Prop where
 un:H C=none
 loc:C≠X.env.locals
 ab:X.s₀.heap.objs.size≤C
 cel:∀ x c,X.env.cells.lookup x=some c→c≠C
 pin:∀ p∈X.pn++pins,p.1≠C
section
variable{X:Cx}{pins:List (Addr×Obj)}{σ:St}{H:Hp}{s:Shared}
def blkX(X:Cx)(N:List Str)(scope:Scope)(use:Option (Value→Sem Unit))(Q:Value→Shared→Prop)(acc:Value)(C:Addr):Value→Shared→Prop:=
 notedBy (model X.prog X.w) X.A (compEnvC scope (clOf X.env scope.names []) C X.env) fun e s'=>compPost (model X.prog X.w) X.A X.xe use Q acc C (.error e) s'
theorem comp_core{tg elt iter:Expr}{ifs:List Expr}{scope:Scope}{pos pos':Pos}{N:List Str}{caps:List (Option Nat)}{wi:TI}{g:TG}{tt:TT}{te:TE}{use:Option (Value→Sem Unit)}{Q:Value→Shared→Prop}{Qv:V→Hp→Prop}
  {xe:Value→Shared→Prop} (hc:X.calm=true) (B:Blk X N caps scope) (hi:PI X tg iter wi)
  (hg:∀ C s₀ H₀ ex,PG (blk X N scope C s₀ H₀ ex xe) tg g) (ht:∀ C s₀ H₀ ex,PF (blk X N scope C s₀ H₀ ex xe) ifs tt) (he:∀ C s₀ H₀ ex,PE (blk X N scope C s₀ H₀ ex xe) elt te)
  (I:Inv X pins σ H s) (h:wi σ H fun J H1=>tCompR g tt te (capSt caps σ) J H1 Qv)
  (fin:∀ l C H' s5,Inv X pins σ H' s5→(∃ m,s5.heap.Ns C m)→Loose X pins H' C→Qv (.ref l) H'→compPost (model X.prog X.w) X.A X.xe use Q (.ref l) C (.ok .next) s5)
  (hx:∀ acc C e s',xe e s'→blkX X N scope use Q acc C e s')
  (hs:∀ x,foldedSetIterable iter X.env x=pure x:=by intro _;rfl) :
  wpAny (model X.prog X.w) X.A (comprehension (.ListComp elt [⟨tg,iter,ifs,0⟩] scope pos) scope X.env pos' (newList []) false (eval iter X.env) use) Q X.xe s:=by
 have hclos:closureFor scope X.env=(pure (clOf X.env scope.names []):Sem _):=clo_eq fun y hy hf=>I.ok.has y.1 (B.free y hy hf)
 refine wpAny_comprehension_free rfl hs hclos B.kind B.names (thn (hi pins s σ H _ I h) fun v s1 h1=>thn h1 fun itv s2 h2=>?_)
 obtain⟨it,fp,tn,J,H2,e,I2,T,st2,f2,hJ⟩:=h2
 subst e
 have I3:Inv X pins σ (upd H2 s2.heap.objs.size (.lst [])) { s2 with heap:=s2.heap.push { cls:=.type "list",data:=.seq ([]:List Value).toArray },toks:=s2.toks }:=I2.lnew (ys:=[]) (its:=[]) .nil (Nat.zero_le _)
 have hfr2:H2 s2.heap.objs.size=none:=I2.fresh
 obtain⟨W,⟨m0,w0⟩,turn⟩:=hJ s2.heap.objs.size hfr2
 refine wpAny_newList ?_
 generalize hs3:({ s2 with heap:=s2.heap.push { cls:=.type "list",data:=.seq ([]:List Value).toArray } }:Shared)=s3
 have es3:({ s2 with heap:=s2.heap.push { cls:=.type "list",data:=.seq ([]:List Value).toArray },toks:=s2.toks }:Shared)=s3:=hs3
 rw[es3] at I3
 have keep3:∀ b o,s2.heap.get? b=some o→s3.heap.get? b=some o:=fun b o e=>by rw[← hs3];exact Heap.get?_push_of_some _ e
 have fpo:∀ b∈fp,∃ o,s2.heap.get? b=some o∧∀ v,o.data ≠ .cell v:=T.obj _ _ st2
 have hlt2:∀ b∈fp,b < s2.heap.objs.size:=fun b hb=>by obtain⟨o,e,_⟩:=fpo b hb;exact Heap.lt_size e
 have hlt3:∀ b∈fp,b < s3.heap.objs.size:=fun b hb=>by obtain⟨o,e,_⟩:=fpo b hb;exact Heap.lt_size (keep3 b o e)
 have hf3:∀ b∈fp,FpOk X pins (upd H2 s2.heap.objs.size (.lst [])) b:=fun b hb=>⟨by rw[upd_ne (Nat.ne_of_lt (hlt2 b hb))];exact(f2 b hb).1,(f2 b hb).2⟩
 refine wpAny_newFunctionEnv B.nocell (by intro y hy;simp at hy) (fun h₁ hns₁ hsb₁=>?_) B.kind
 try dsimp only at hns₁ hsb₁ ⊢
 have keep4:∀ b o,s3.heap.get? b=some o→h₁.get? b=some o:=fun b o e=>hsb₁.extBut b o (Nat.ne_of_lt (Heap.lt_size e)) (Heap.get?_push_of_some _ e)
 have I4:∀ t',Inv (blk X N scope s3.heap.objs.size s3 (upd H2 s2.heap.objs.size (.lst [])) fp xe) [] (capSt caps σ) (upd H2 s2.heap.objs.size (.lst [])) { s3 with heap:=h₁,toks:=t' }:=fun t'=>blk_inv B I3 hlt3 hf3 hns₁ keep4
 generalize hY:blk X N scope s3.heap.objs.size s3 (upd H2 s2.heap.objs.size (.lst [])) fp xe=Y at I4
 have Yp:Y.prog=X.prog:=by rw[← hY];rfl
 have Yw:Y.w=X.w:=by rw[← hY];rfl
 have YK:Y.K=X.K:=by rw[← hY];rfl
 have Yc:Y.calm=true:=by rw[← hY];exact hc
 have YA:Y.A=X.A:=by rw[← hY];rfl
 have Yx:Y.xe=xe:=by rw[← hY];rfl
 have Ye:Y.env=compEnvC scope (clOf X.env scope.names []) s3.heap.objs.size X.env:=by rw[← hY];rfl
 have hgY:PG Y tg g:=by rw[← hY];exact hg _ _ _ _
 have htY:PF Y ifs tt:=by rw[← hY];exact ht _ _ _ _
 have heY:PE Y elt te:=by rw[← hY];exact he _ _ _ _
 have stat:∀{H':Hp},(∀ b∈fp,H' b=none)→∀ b∈fp,FpOk Y [] H' b:=fun {H'} hn b hb=>by
  refine⟨hn b hb,?_,?_,.inl (by rw[← hY];exact hb),?_,?_⟩
  ·rw[Ye];exact Nat.ne_of_lt (hlt3 b hb)
  ·intro hm
   rw[← hY] at hm
   rcases List.mem_cons.mp (I3.stkSub b hm) with e | e
   ·exact(f2 b hb).2.1 e
   ·exact(f2 b hb).2.2.1 e
  ·intro x c hcl
   rw[Ye] at hcl
   exact(f2 b hb).2.2.2.2.1 x c (cl_sub (fun _ _ e=>by simp at e) x c hcl)
  ·intro p hp
   rw[← hY] at hp
   cases hp
 have st4:tn 0 h₁:=T.keep _ _ _ st2 fun b hb o e=>keep4 b o (keep3 b o e)
 have toX:∀ e s',xe e s'→notedBy (model X.prog X.w) X.A (compEnvC scope (clOf X.env scope.names []) s3.heap.objs.size X.env) (fun e s'=>compPost (model X.prog X.w) X.A X.xe use Q (.ref s2.heap.objs.size) s3.heap.objs.size (.error e) s') e s':=fun e s' hxe=>hx _ _ e s' hxe
 have loop:∀ tk,codeAny (model X.prog X.w) X.A (.compLoop (.ListComp elt [⟨tg,iter,ifs,0⟩] scope pos) 0 (.ref it) (.ref s2.heap.objs.size) (compEnvC scope (clOf X.env scope.names []) s3.heap.objs.size X.env))
   (compPost (model X.prog X.w) X.A X.xe use Q (.ref s2.heap.objs.size) s3.heap.objs.size) { s3 with heap:=h₁,toks:=tk }:=by
  intro tk
  refine comp_loop (fun n s'=>∃ i σ' H',Inv Y [] σ' H' s'∧tn i s'.heap∧(∀ b∈fp,H' b=none)∧W i n σ' H') ?_ m0 ⟨0,_,_,I4 tk,st4,fun b hb=>(hf3 b hb).1,w0⟩
  rintro n s5 ⟨i,σ5,H5,I5,st5,fr5,w5⟩
  have moX:∀{α:Type} {t:Sem α} {Q1:α→Shared→Prop} {s:Shared},wpAny (model X.prog X.w) X.A t Q1 xe s→wpAny (model X.prog X.w) X.A t Q1
    (notedBy (model X.prog X.w) X.A (compEnvC scope (clOf X.env scope.names []) s3.heap.objs.size X.env) (fun e s'=>compPost (model X.prog X.w) X.A X.xe use Q (.ref s2.heap.objs.size) s3.heap.objs.size (.error e) s')) s:=
   fun h=>wpAny_mono h (fun _ _ q=>q) toX
  rcases turn i n σ5 H5 w5 with⟨stop,q⟩ | ⟨go,step⟩
  ·have z:=T.done Y Yp Yw YK Yc i [] s5 σ5 H5 xe I5 (stat fr5) st5 stop
   rw[YA] at z
   refine moX (thn z fun r s6 ⟨hr,I6⟩=>?_)
   subst hr
   obtain⟨m,hm,_⟩:=I6.loc
   have hCn:H5 s3.heap.objs.size=none:=by have z:=I6.free;rw[Ye] at z;exact z
   have un:Un (frs X.stack) fp (upd H2 s2.heap.objs.size (.lst [])) H5 s3.heap s6.heap:=by have z:=I6.base;rw[← hY] at z;exact z
   have hos:s6.os=s3.os:=by have z:=I6.os;rw[← hY] at z;exact z
   have hok:HOk X.prog X.w H5 s6.heap:=by have z:=I6.hok;rw[Yp,Yw] at z;exact z
   have IX:Inv X pins σ H5 s6:=I3.call' (ch:=fp) hos un hok I6.bare fun b hb=>⟨(f2 b hb).2.2.2.1,(f2 b hb).2.1,(f2 b hb).2.2.2.2.1,(f2 b hb).2.2.2.2.2⟩
   refine fin _ _ H5 s6 IX ⟨m,by rw[Ye] at hm;exact hm⟩ ⟨hCn,?_,I3.sz,?_,?_⟩ q
   ·exact Nat.ne_of_gt I3.lt
   ·intro x c hcl
    obtain⟨v,hv⟩:=I3.cell x c hcl
    exact Nat.ne_of_lt hv.lt
   ·intro p hp
    exact Nat.ne_of_lt (Heap.lt_size (I3.pin p hp).1)
  ·have z:=T.item Y Yp Yw YK Yc i [] s5 σ5 H5 xe I5 (stat fr5) st5 go
   rw[YA] at z
   refine moX (thn z fun r s6 ⟨u,hr,h6⟩=>?_)
   subst hr
   refine moX (thn h6 fun _ s7 ⟨x,H7,I7,r7,y7,st7,fr7⟩=>?_)
   have I7':=I7.pinned (stat fr7) (T.obj _ _ st7)
   have hN:=step x H7 y7
   have again:∀{σ':St} {H':Hp} {s':Shared} {m':Nat},m' < n→Inv Y ([]++pinsAt fp s7.heap) σ' H' s'→W (i+1) m' σ' H'→∃ m,m < n∧∃ i σ'' H'',Inv Y [] σ'' H'' s'∧tn i s'.heap∧(∀ b∈fp,H'' b=none)∧W i m σ'' H'':=fun {σ' H' s' m'} hm I' w'=>by
    refine⟨m',hm,i+1,σ',H',I'.unpinned,T.keep _ _ _ st7 fun b hb o e=>(I'.pin (b,o) (List.mem_append_right _ (List.mem_append_right _ (mem_pinsAt hb e)))).1,fun b hb=>?_,w'⟩
    obtain⟨o,e,d⟩:=T.obj _ _ st7 b hb
    exact(I'.pin (b,o) (List.mem_append_right _ (List.mem_append_right _ (mem_pinsAt hb e)))).2.1
   have z:=hgY _ s7 σ5 H7 x u _ I7' r7 hN
   rw[Yp,Yw,YA,Ye,Yx] at z
   refine moX (thn z fun _ s8 ⟨σ8,H8,I8,q8⟩=>?_)
   have z:=htY _ s8 σ8 H8 _ I8 q8
   rw[Yp,Yw,YA,Ye,Yx] at z
   refine moX (thn z fun ok s9 ⟨H9,I9,q9⟩=>?_)
   cases ok with
   | false=>
    obtain⟨m',hm,w'⟩:=q9
    exact again hm I9 w'
   | true=>
    have q9':te σ8 H9 fun v H4=>∃ xs,H4 s2.heap.objs.size=some (.lst xs)∧xs.length < sizeLine∧∃ m',m' < n∧W (i+1) m' σ8 (upd H4 s2.heap.objs.size (.lst (xs++[v]))):=q9
    have z:=heY _ s9 σ8 H9 _ I9 q9'
    rw[Yp,Yw,YA,Ye,Yx] at z
    refine moX (thn z fun u10 s10 ⟨v10,H10,I10,r10,q10⟩=>?_)
    obtain⟨xs,hl,hz,m',hm,w'⟩:=q10
    have ap:=mt_append (X:=Y) _ s10 σ8 H10 (.ref s2.heap.objs.size) [v10] (.ref s2.heap.objs.size) [u10] (fun _ H'=>W (i+1) m' σ8 H') I10 rfl (.cons r10 .nil) ⟨_,xs,v10,rfl,rfl,hl,hz,w'⟩
    rw[Yp,Yw,YA,Yx] at ap
    refine moX (thn ap fun _ s11 ⟨_,H11,I11,_,w11⟩=>again hm I11 w11)
 exact codeAny_compStart_list (loop _) (T.self _ 0 _ _ _ st4 (loop _))
theorem pe_comp{tg elt iter:Expr}{ifs:List Expr}{scope:Scope}{pos:Pos}(N:List Str)(caps:List (Option Nat)){wi:TI}{g:TG}{tt:TT}{te:TE}(hc:X.calm=true)(B:Blk X N caps scope)(hi:PI X tg iter wi)
  (hg:∀ C s₀ H₀ ex,PG (blk X N scope C s₀ H₀ ex fun _ _=>False) tg g) (ht:∀ C s₀ H₀ ex,PF (blk X N scope C s₀ H₀ ex fun _ _=>False) ifs tt) (he:∀ C s₀ H₀ ex,PE (blk X N scope C s₀ H₀ ex fun _ _=>False) elt te)
  (hs:∀ x,foldedSetIterable iter X.env x=pure x:=by intro _;rfl):PE X (.ListComp elt [⟨tg,iter,ifs,0⟩] scope pos) (tComp caps wi g tt te):=by
 intro pins s σ H Q I h
 rw[eval_ListComp]
 refine comp_core (use:=none) (Qv:=Q) hc B hi hg ht he I h (fun l C H' s5 I5 ⟨m,hm⟩ lo q=>?_) (fun _ _ _ _ f=>f.elim) hs
 refine⟨m,hm,fun h' hs'=>⟨.ref l,H',?_,rfl,q⟩⟩
 exact I5.turned (it:=C) (t':=s5.toks) (fun b o hb e=>hs'.extBut b o hb e) lo.un lo.loc (.inr lo.ab) lo.cel lo.pin
theorem ps_setcomp{i:Nat}{x:Str}{pos':Pos}{tg elt iter:Expr}{ifs:List Expr}{scope:Scope}{pos spos:Pos}(N:List Str)(caps:List (Option Nat)){wi:TI}{g:TG}{tt:TT}{te:TE}(hc:X.calm=true)
  (hN:X.N.Nodup) (hi':X.N[i]? = some x) (hx:Loc X.env.scope x) (B:Blk X N caps scope) (hi:PI X tg iter wi)
  (hg:∀ C s₀ H₀ ex,PG (blk X N scope C s₀ H₀ ex fun _ _=>False) tg g) (ht:∀ C s₀ H₀ ex,PF (blk X N scope C s₀ H₀ ex fun _ _=>False) ifs tt) (he:∀ C s₀ H₀ ex,PE (blk X N scope C s₀ H₀ ex fun _ _=>False) elt te)
  (hsw:swapsWith (.ListComp elt [⟨tg,iter,ifs,0⟩] scope pos) (some (.Name x pos')) spos.line X.env=pure true:=by rfl)
  (hs:∀ x,foldedSetIterable iter X.env x=pure x:=by intro _;rfl) (hf:X.fn x=true∨X.env.scope.names.lookup x=some .local:=by first | exact .inl rfl | exact .inr rfl | assumption) :
  PS X (.Assign [.Name x pos'] (.ListComp elt [⟨tg,iter,ifs,0⟩] scope pos) spos) (tAsg (tComp caps wi g tt te) (gName i)):=by
 intro pins s σ H D I h
 rw[exec_Assign_Name_used _ _ _ _ hsw]
 refine wpAny_bind (wpAny_standAt (wpAny_bind ?_))
 show wpAny _ X.A (do let _ ← comprehension (.ListComp elt [⟨tg,iter,ifs,0⟩] scope pos) scope X.env _ (newList []) false (eval iter X.env) (some (assign (.Name x pos') X.env))) _ _ s
 refine wpAny_bind (wpAny_mono (comp_core (use:=some (assign (.Name x pos') X.env)) (Q:=fun _ s'=>SP X pins D .next s') (Qv:=fun v H1=>gName i v σ H1 D.nx) hc B hi hg ht he I h (fun l C H' s5 I5 ⟨m,hm⟩ lo q=>?_) (fun _ _ _ _ f=>f.elim) hs)
  (fun _ s' hq=>wpAny_pure (wpAny_pure hq)) fun _ _ e=>e)
 show wpAny _ X.A (assign (.Name x pos') X.env (.ref l)) _ _ _
 refine wpAny_assign_Name (store_ok2 I5 hN hi' hx (v:=.ref l) rfl (fun s6 I6 ⟨a,sb,ha⟩=>?_) hf)
 have hCa:C≠a:=by
  rcases ha with e | e
  ·rw[e];exact lo.loc
  ·exact Ne.symm (lo.cel x a e)
 refine⟨m,hm.sameBut sb hCa,fun h' hs'=>⟨_,H',?_,q⟩⟩
 exact I6.turned (it:=C) (t':=s6.toks) (fun b o hb e=>hs'.extBut b o hb e) lo.un lo.loc (.inr lo.ab) lo.cel lo.pin
end
end L2
namespace L2
open PySem PySem.Spec PyProof.Rows
section
variable{X:Cx}
def Wide(i:Int):Prop:=i.natAbs < 2 ^ 4000
theorem bits_of_wide{i:Int}(h:Wide i):Builtin.Int.intBits i≤2 ^ 20:=by
 unfold Builtin.Int.intBits
 split
 ·exact Nat.zero_le _
 ·rename_i h0
  have hne:i.natAbs≠0:=by
   intro e
   have:i=0:=Int.natAbs_eq_zero.mp e
   rw[this] at h0
   exact h0 rfl
  have hl:i.natAbs.log2 < 4000:=(Nat.log2_lt hne).mpr h
  have e:(2:Nat) ^ 20=1048576:=by decide
  omega
def CMulW(i j:Int):Prop:=Wide i∧Wide j
theorem op_mulW:OpR X (binaryOp .Mult) (rI CMulW fun i j=>.int (i * j)):=opI fun _ _ _ _ _ _ _ hc q=>mul_int q (IntMulOk.of_bits (bits_of_wide hc.1) (bits_of_wide hc.2))
def CDivW(i j:Int):Prop:=0 < j∧Wide j
theorem op_fdivW:OpR X (binaryOp .FloorDiv) (rI CDivW fun i j=>.int (i / j)):=opI fun i j _ _ _ _ _ hc q=>by
 have h1:(0:Int) < j:=hc.1
 have h2:j.natAbs < 2 ^ 4000:=hc.2
 refine floordiv_int (by omega) (by rw[Int.fdiv_eq_ediv_of_nonneg i (by omega)];exact q) (.inl (PyProof.noPylong_of_log2 ?_))
 have hl:j.natAbs.log2 < 4000:=(Nat.log2_lt (by omega)).mpr h2
 omega
def rEqL(K:PySem.W.Frag)(neg:Bool):R2:=fun x y H Q=>∃(a b:Addr) (ns ms:List Int),x = .ref a∧y = .ref b∧SqL K H a (ns.map V.int)∧SqL K H b (ms.map V.int)∧Q (.bl (if neg then !decide (ns=ms) else decide (ns=ms))) H
theorem isL_of{h:Heap}{a:Addr}{its:Array Value}(p:PlainL h a its):h.IsList a its:=by
 obtain⟨o,n,e,c,_,d⟩:=p
 exact⟨o,e,c,n,d⟩
theorem op_eqL(hu:X.A.units+64 < cLine):OpR X (compareOp .Eq) (rEqL X.K false):=by
 intro pins s σ H x y v u Q I rx ry h
 obtain⟨a,b,ns,ms,rfl,rfl,hA,hB,q⟩:=h
 cases rx
 cases ry
 obtain⟨ia,va,pa,_⟩:=I.list hA
 obtain⟨ib,vb,pb,_⟩:=I.list hB
 exact PySem.W.ke_eq_ints (isL_of pa) (isL_of pb) (intsAre_of va) (intsAre_of vb) hu ⟨.bl _,H,I,rfl,q⟩
theorem op_neL(hu:X.A.units+64 < cLine):OpR X (compareOp .NotEq) (rEqL X.K true):=by
 intro pins s σ H x y v u Q I rx ry h
 obtain⟨a,b,ns,ms,rfl,rfl,hA,hB,q⟩:=h
 cases rx
 cases ry
 obtain⟨ia,va,pa,_⟩:=I.list hA
 obtain⟨ib,vb,pb,_⟩:=I.list hB
 exact PySem.W.ke_ne_ints (isL_of pa) (isL_of pb) (intsAre_of va) (intsAre_of vb) hu ⟨.bl _,H,I,rfl,q⟩
end
def blkOk(sc:Scope)(N0 N:List Str)(caps:List (Option Nat))(scope:Scope):Bool:=
 decide (scope.kind = .function) && scope.names.all (fun y=>decide (y.2 ≠ .cell)) && scope.names.all (fun y=>decide (y.2 ≠ .local) || decide (scope.names.lookup y.1=some .local)) &&
 scope.names.all (fun y=>decide (y.2 ≠ .free) || (decide (sc.names.lookup y.1=some .cell) || decide (sc.names.lookup y.1=some .free))) && decide (caps.length=N.length) &&
 (List.range caps.length).all fun i=>match caps[i]?,N[i]? with
  | some (some j),some x=>decide (N0[j]? = some x) && (decide (sc.names.lookup x=some .cell) || decide (sc.names.lookup x=some .free)) && decide (scope.names.lookup x=some .free)
  | _,_=>true
theorem Blk.by{X:Cx}{N:List Str}{caps:List (Option Nat)}{scope:Scope}{sc:Scope}{N0:List Str}(hsc:X.env.scope=sc)(hN:X.N=N0)(h:blkOk sc N0 N caps scope=true):Blk X N caps scope:=by
 unfold blkOk at h
 simp only[Bool.and_eq_true,decide_eq_true_eq,List.all_eq_true,Bool.or_eq_true] at h
 obtain⟨⟨⟨⟨⟨h1,h2⟩,h3⟩,h4⟩,h5⟩,h6⟩:=h
 subst hsc
 subst hN
 refine⟨h1,h2,fun y hy e=>(h3 y hy).elim (fun z=>absurd e z) id,fun y hy e=>(h4 y hy).elim (fun z=>absurd e z) id,h5,fun i j x e1 e2=>?_⟩
 have hi:i < caps.length:=(List.getElem?_eq_some_iff.mp e1).1
 have z:=h6 i (List.mem_range.mpr hi)
 rw[e1,e2] at z
 simp only[Bool.and_eq_true,decide_eq_true_eq,Bool.or_eq_true] at z
 exact⟨z.1.1,.inr z.1.2,z.2⟩
theorem same_upd{H:Hp}{p:Addr}(h:H p=none)(o:HO):Same H (upd H p o):=fun b u q=>by rw[upd_ne (ne_of_none q h)];exact q
theorem same_upd2{H0 H:Hp}{p:Addr}(h:H0 p=none)(s:Same H0 H)(o:HO):Same H0 (upd H p o):=fun b u q=>by rw[upd_ne (ne_of_none q h)];exact s b u q
theorem comp_any{tt:TT}{te:TE}{σ0:St}{H1:Hp}{Q:V→Hp→Prop}{J:It}(n:Nat)(xs:Nat→V)(p:Nat→Bool)(f:Nat→V)(hn:n≤sizeLine)
  (hgo:∀ i H,Same H1 H→i < n→J.go i H) (hstop:∀ H,Same H1 H→J.stop n H) (hy:∀ i H x H',Same H1 H→i < n→J.yld i H x H'→H'=H∧x=xs i)
  (hT:∀ i H,i < n→Same H1 H→∀ R:Bool→Hp→Prop,(∀ H',Same H H'→R (p i) H')→tt (σ0.set 0 (some (xs i))) H R)
  (hE:∀ i H,i < n→p i=true→Same H1 H→∀ R:V→Hp→Prop,(∀ H',Same H H'→R (f i) H')→te (σ0.set 0 (some (xs i))) H R)
  (hQ:∀ l H,Same H1 H→H1 l=none→H l=some (.lst (((List.range n).filter p).map f))→Q (.ref l) H):tCompR (gName 0) tt te σ0 J H1 Q:=by
 intro l hl
 refine⟨fun i m σ H=>m=n - i∧i≤n∧Same H1 H∧H l=some (.lst (((List.range i).filter p).map f))∧∀ o,σ.set 0 o=σ0.set 0 o,⟨n,by simp,Nat.zero_le _,same_upd hl _,upd_same,fun _=>rfl⟩,?_⟩
 rintro i m σ H ⟨rfl,hi,sm,hL,hσ⟩
 by_cases hlt:i < n
 ·refine .inr ⟨hgo i H sm hlt,fun x H' y=>?_⟩
  obtain⟨rfl,rfl⟩:=hy i H x H' sm hlt y
  show tt (σ.set 0 (some (xs i))) H' _
  rw[hσ]
  refine hT i H' hlt sm _ fun H2 s2=>?_
  have er:(List.range (i+1)).filter p=(List.range i).filter p++(if p i=true then [i] else []):=by
   rw[List.range_succ,List.filter_append]
   by_cases hp:p i=true
   ·rw[if_pos hp,List.filter_cons_of_pos hp,List.filter_nil]
   ·rw[if_neg hp,List.filter_cons_of_neg hp,List.filter_nil]
  have hσ2:∀ o,(σ0.set 0 (some (xs i))).set 0 o=σ0.set 0 o:=fun o=>List.set_set _
  by_cases hp:p i=true
  ·rw[if_pos hp]
   refine hE i H2 hlt hp (sm.trans s2) _ fun H3 s3=>?_
   refine⟨_,s3 _ _ (s2 _ _ hL),?_,n - (i+1),by omega,rfl,hlt,?_,?_,hσ2⟩
   ·rw[List.length_map]
    have:=List.length_filter_le p (List.range i)
    rw[List.length_range] at this
    omega
   ·exact same_upd2 hl (sm.trans (s2.trans s3)) _
   ·rw[upd_same,er,if_pos hp,List.map_append]
    rfl
  ·rw[if_neg hp]
   refine⟨n - (i+1),by omega,rfl,hlt,sm.trans s2,?_,hσ2⟩
   rw[er,if_neg hp,List.append_nil]
   exact s2 _ _ hL
 ·have e:i=n:=by omega
  subst e
  exact .inl ⟨hstop H sm,hQ l H sm hl hL⟩
theorem comp_range{tt:TT}{te:TE}{σ0:St}{H1:Hp}{Q:V→Hp→Prop}{lo:Int}{n:Nat}(p:Nat→Bool)(f:Nat→V)(hn:n≤sizeLine)
  (hT:∀ i H,i < n→Same H1 H→∀ R:Bool→Hp→Prop,(∀ H',Same H H'→R (p i) H')→tt (σ0.set 0 (some (.int (lo+(i:Nat))))) H R)
  (hE:∀ i H,i < n→p i=true→Same H1 H→∀ R:V→Hp→Prop,(∀ H',Same H H'→R (f i) H')→te (σ0.set 0 (some (.int (lo+(i:Nat))))) H R)
  (hQ:∀ l H,Same H1 H→H1 l=none→H l=some (.lst (((List.range n).filter p).map f))→Q (.ref l) H):tCompR (gName 0) tt te σ0 (Itr lo n) H1 Q:=
 comp_any n (fun i=>.int (lo+(i:Nat))) p f hn (fun _ _ _ h=>h) (fun _ _=>Nat.le_refl _) (fun _ _ _ _ _ _ y=>y) hT hE hQ
theorem filter_map_range{α β:Type}(xs:List α)(p:α→Bool)(f:α→β)(d:α):((List.range xs.length).filter fun i=>p (xs.getD i d)).map (fun i=>f (xs.getD i d))=(xs.filter p).map f:=by
 have e:(List.range xs.length).map (fun i=>xs.getD i d)=xs:=by
  apply List.ext_getElem
  ·simp
  ·intro i h1 h2
   simp
   rw[List.getElem?_eq_getElem (by simpa using h2)]
   rfl
 have h:(((List.range xs.length).map (fun i=>xs.getD i d)).filter p).map f=((List.range xs.length).filter fun i=>p (xs.getD i d)).map (fun i=>f (xs.getD i d)):=by
  rw[List.filter_map,List.map_map]
  rfl
 rw[e] at h
 exact h.symm
theorem comp_list{K:PySem.W.Frag}{tt:TT}{te:TE}{σ0:St}{H1:Hp}{Q:V→Hp→Prop}{a:Addr}{xs:List V}(p:V→Bool)(f:V→V)(hS:SqL K H1 a xs)(hn:xs.length≤sizeLine)
  (hT:∀ x H,x∈xs→Same H1 H→∀ R:Bool→Hp→Prop,(∀ H',Same H H'→R (p x) H')→tt (σ0.set 0 (some x)) H R)
  (hE:∀ x H,x∈xs→p x=true→Same H1 H→∀ R:V→Hp→Prop,(∀ H',Same H H'→R (f x) H')→te (σ0.set 0 (some x)) H R)
  (hQ:∀ l H,Same H1 H→H1 l=none→H l=some (.lst ((xs.filter p).map f))→Q (.ref l) H):tCompR (gName 0) tt te σ0 (Itl K a) H1 Q:=by
 have at_:∀ i,i < xs.length→xs[i]? = some (xs.getD i .non):=fun i h=>by
  rw[List.getD_eq_getElem?_getD,List.getElem?_eq_getElem h]
  rfl
 have mem:∀ i,i < xs.length→xs.getD i .non∈xs:=fun i h=>by
  have:=at_ i h
  exact List.mem_of_getElem? this
 refine comp_any xs.length (fun i=>xs.getD i .non) (fun i=>p (xs.getD i .non)) (fun i=>f (xs.getD i .non)) hn (fun i H sm h=>⟨xs,_,sm.seq hS,at_ i h⟩) (fun H sm=>⟨xs,sm.seq hS,Nat.le_refl _⟩)
  (fun i H x H' sm h y=>⟨y.1,?_⟩) (fun i H h sm=>hT _ H (mem i h) sm) (fun i H h hp sm=>hE _ H (mem i h) hp sm) (fun l H sm hl hL=>hQ l H sm hl ?_)
 ·have e:=y.2 xs (sm.seq hS)
  rw[at_ i h] at e
  exact(Option.some.inj e).symm
 ·rw[hL,filter_map_range]
end L2
namespace L2
open PySem PySem.Spec PyProof.Rows
section
variable{X:Cx}{e st:Expr}{te:TE}{ts:TO}{pos p2:Pos}
end
end L2
namespace L2
open PySem PySem.Spec PyProof.Rows
def RecAt(base:Heap)(e:Addr)(cls:Value)(od:Option Addr)(ctx fl:Value)(h:Heap):Prop:=
 ∃ oe vs T oT ts,(h.get? e=some oe∧(oe.cls=cls∧oe.dict=od)∧oe.data = .fields vs∧vs[1]? = some (.ref T)∧vs[2]? = some ctx)∧base.get? T=none∧T≠e∧h.get? T=some oT∧oT.data = .fields ts∧ts[3]? = some fl
structure FlyC(base:Heap)(l:List Env)(e:Addr)(cls:Value)(od:Option Addr)(ctx fl:Value)(h:Heap):Prop where
 stays:base.StaysIn h
 new:base.get? e=none
 frames:h.FunFrames base l
 rcd:RecAt base e cls od ctx fl h
section
variable{M:Model}{A:Around}{E:Value→Shared→Prop}{s:Shared}{base:Heap}{env:Env}{outer:List Env}{L e:Addr}{cls ctx:Value}{od:Option Addr}{Q:Unit→Shared→Prop}
end
end L2
namespace L2
open PySem PySem.Spec PyProof.Rows
section
variable{P:Program}{w:World}{H:Hp}{h h'' B:Heap}{a:Addr}{o:HO}
end
inductive Chn(B:Heap):Value→Prop where
 | nil:Chn B .none
 | cons {c:Addr} {o:Obj} {vs:Array Value} {ctx:Value}:B.get? c=some o→o.data = .fields vs→vs[2]? = some ctx→Chn B ctx→Chn B (.ref c)
structure Fly(l:List Env)(H:Hp)(e:Addr)(cls:Value)(od:Option Addr)(B h:Heap):Prop where
 fly:∃ ctx,FlyC B l e cls od ctx .none h∧Chn B ctx
 trk:∀ b o,H b=some o→∃ ob,B.get? b=some ob
 noe:H e=none
section
variable{X:Cx}{pins:List (Addr×Obj)}{σ:St}{H:Hp}{s:Shared}{B h'':Heap}
end
end L2
namespace L2
open PySem PySem.Spec PyProof.Rows
def Held(X:Cx)(pins:List (Addr×Obj))(B:Heap):Prop:=(∀ b o,X.s₀.heap.get? b=some o→b∉X.ex→b∉X.fs→∃ ob,B.get? b=some ob)∧∀ p∈X.pn++pins,∃ ob,B.get? p.1=some ob
def XP(X:Cx)(pins:List (Addr×Obj))(σ:St)(Ex:XK)(e:Value)(s':Shared):Prop:=
 ∃(ea:Addr) (cls:Value) (od:Option Addr) (H':Hp) (B:Heap),e = .ref ea∧Inv X pins σ H' s'∧Fly X.stack H' ea cls od B s'.heap∧Held X pins B∧Ex cls od H'
section
variable{X:Cx}{pins:List (Addr×Obj)}{σ:St}{H:Hp}{s:Shared}{B h'':Heap}
end
section
variable{X:Cx}{k:Nat}{f:Addr}{fd:FuncData}{ps:List Str}{sp:Sp}{dvs:List V}{ds:List Value}{x:Str}{p pos:Pos}{e:Expr}{es:List Expr}{t:TA}
end
end L2
namespace L2
open PySem PySem.Spec PyProof.Rows Builtin Builtin.ObjectAttr Builtin.Getset_descriptor
section
variable{prog:Program}{w:World}{A:Around}{E:Value→Shared→Prop}{K:PySem.W.Frag}{a C:Addr}
end
end L2
namespace L2
open PySem PySem.Spec PyProof.Rows Builtin Builtin.ObjectAttr Builtin.Getset_descriptor
section
variable{prog:Program}{w:World}{A:Around}{E:Value→Shared→Prop}{K:PySem.W.Frag}{a C:Addr}
end
end L2
namespace L2
open PySem PySem.Spec PyProof.Rows
section
variable{X:Cx}{pos:Pos}
end
end L2
namespace L2
open PySem PySem.Spec PyProof.Rows
section
variable{X:Cx}
end
end L2
namespace L2
open PySem PySem.Spec PyProof.Rows
section
variable{prog:Program}{w:World}
end
end L2
namespace L2
open PySem PySem.Spec PyProof.Rows
section
variable{X:Cx}{pins:List (Addr×Obj)}{σ:St}{H:Hp}{s:Shared}{x:Str}{np cp cp2 cpos rpos:Pos}{msg:Str}{j j2:Nat}{C e1:Addr}
end
end L2
namespace L2
open PySem PySem.Spec PyProof.Rows
theorem op_eqNil{X:Cx}(hu:X.A.units+64 < cLine):OpR X (compareOp .Eq) (fun x y H Q=>∃(a b:Addr) (xs:List V),x = .ref a∧y = .ref b∧SqL X.K H a xs∧SqL X.K H b []∧Q (.bl xs.isEmpty) H):=by
 intro pins s σ H x y v u Q I rx ry h
 obtain⟨a,b,xs,rfl,rfl,hA,hB,q⟩:=h
 cases xs with
 | nil=>exact op_eqL hu pins s σ H _ _ v u Q I rx ry ⟨a,b,[],[],rfl,rfl,hA,hB,q⟩
 | cons x0 xr=>
  cases rx
  cases ry
  obtain⟨ia,va,pa,_⟩:=I.list hA
  obtain⟨ib,vb,pb,_⟩:=I.list hB
  have l1:=va.length
  have l2:=vb.length
  refine PySem.SeqAt.eq_list_lengthsAt (isL_of pa) (isL_of pb) ?_ (by omega) ⟨.bl false,H,I,rfl,q⟩
  simp only[List.size_toArray,← l1,← l2,List.length_cons,List.length_nil]
  simp
end L2
namespace L2
open PySem PySem.Spec PyProof.Rows
section
variable{P:Program}{w:World}{A:Around}{E:Value→Shared→Prop}{s:Shared}{kd:SortKind}{a0:Array Keyed}
def Cmp(P:Program)(w:World)(A:Around)(s:Shared)(kd:SortKind)(ks:List Value):Prop:=
 ∀ x∈ks,∀ y∈ks,∀(E:Value→Shared→Prop) (Q:Bool→Shared→Prop),(∀ b,Q b s)→wpAny (model P w) A (keyLt' kd x y) Q E s
structure SB(kd:SortKind)(a0:Array Keyed)(st:SortSt):Prop where
 pm:(arrOf st).Perm a0
 kn:kindOf st=kd
 fl:failedOf st=none
 pn:pendingOf st = #[]
theorem SB.sz{st:SortSt}(h:SB kd a0 st):(arrOf st).size=a0.size:=h.pm.size_eq
theorem SB.put{st:SortSt}{xs:Array Keyed}(h:SB kd a0 st)(p:xs.Perm (arrOf st)):SB kd a0 (setArr st xs):=⟨p.trans h.pm,h.kn,h.fl,h.pn⟩
theorem SB.get{st:SortSt}{i:Nat}(h:SB kd a0 st)(hi:i < a0.size):∃ x p,(arrOf st)[i]? = some (x,p)∧x∈a0.toList.map (·.1):=by
 have hi2:i < (arrOf st).size:=h.sz ▸ hi
 have m:(arrOf st)[i]∈(arrOf st).toList:=by simp
 exact⟨(arrOf st)[i].1,(arrOf st)[i].2,getElem?_pos _ i hi2,List.mem_map.mpr ⟨_,(Array.perm_iff_toList_perm.mp h.pm).mem_iff.mp m,rfl⟩⟩
theorem lt_any{st:SortSt}{i j:Nat}{Q:Option Bool→SortSt→Prop}(hC:Cmp P w A s kd (a0.toList.map (·.1)))(hB:SB kd a0 st)(hi:i < a0.size)(hj:j < a0.size)(h:∀ b,Q (some b) st):wpS (model P w) A E s (ltAt' i j) Q st:=by
 obtain⟨x,p,e1,m1⟩:=hB.get hi
 obtain⟨y,q,e2,m2⟩:=hB.get hj
 rw[ltAt'_eq]
 refine wpS_bind (wpS_get (show wpS _ _ _ _ (do let x ← elem' (arrOf st) i;let y ← elem' (arrOf st) j;lt' x y) Q st from ?_))
 rw[elem'_eq,elem'_eq,e1,e2]
 refine wpS_bind (wpS_pure (wpS_bind (wpS_pure (show wpS _ _ _ _ (lt' (x,p) (y,q)) Q st from ?_))))
 rw[lt'_eq]
 refine wpS_bind (wpS_get (show wpS _ _ _ _ (do let r ← (liftM (keyLt' (kindOf st) x y).attempt:StateT SortSt Sem _);_) Q st from ?_))
 rw[hB.kn]
 exact wpS_bind (wpS_lift (wpAny_attempt (hC x m1 y m2 _ _ fun b=>⟨rfl,wpS_pure (h b)⟩)))
variable(hC:Cmp P w A s kd (a0.toList.map (·.1)))
include hC
theorem asc_any{st:SortSt}{a m:Nat}{Q:AscSt→SortSt→Prop}(hm:m≤a0.size)(h1:1≤a)(h2:a≤m)(hB:SB kd a0 st)(h:∀ n,a≤n→n≤m→Q (none,n) st):wpS (model P w) A E s (ascLoop a m) Q st:=by
 unfold ascLoop
 refine wpS_forRange (I:=fun x c t=>t=st∧c=(none,x)) (fun x c t hx1 hx2 z=>?_) (fun c t z=>?_) ⟨rfl,rfl⟩
 ·obtain⟨rfl,rfl⟩:=z
  refine wpS_bind (lt_any hC hB (by dsimp only;omega) (by dsimp only;omega) fun b=>?_)
  cases b with
  | true=>exact wpS_pure (h x hx1 (by omega))
  | false=>exact wpS_pure ⟨rfl,rfl⟩
 ·obtain⟨rfl,rfl⟩:=z
  exact h _ (by omega) (by omega)
theorem tail_any{st:SortSt}{n m:Nat}{Q:Option Nat→SortSt→Prop}(hm:m≤a0.size)(h1:1≤n)(h2:n≤m)(hB:SB kd a0 st)(h:∀ k t,SB kd a0 t→1≤k→k≤m→Q (some k) t):wpS (model P w) A E s (tail3 n m) Q st:=by
 unfold tail3
 exact wpS_bind (wpS_reverse (wpS_bind (asc_any hC hm h1 h2 (hB.put (mirror_perm _ _ _ _)) fun k k1 k2=>wpS_pure (h k _ (hB.put (mirror_perm _ _ _ _)) (by omega) k2))))
theorem desc_any{st:SortSt}{n m:Nat}{Q:DescSt→SortSt→Prop}(hm:m≤a0.size)(h1:1≤n)(h2:n≤m)(hB:SB kd a0 st)(h:∀ k q t,SB kd a0 t→n≤k→k≤m→Q (none,k,q) t):wpS (model P w) A E s (descLoop n m) Q st:=by
 unfold descLoop
 refine wpS_forRange (I:=fun x c t=>SB kd a0 t∧∃ q,c=(none,x,q)) (fun x c t hx1 hx2 z=>?_) (fun c t z=>?_) ⟨hB,0,rfl⟩
 ·obtain⟨hB2,q,rfl⟩:=z
  refine wpS_bind (lt_any hC hB2 (by dsimp only;omega) (by dsimp only;omega) fun b=>?_)
  cases b with
  | true=>
   show wpS _ _ _ _ (if q > 0 then _ else _) _ _
   split
   ·exact wpS_bind (wpS_reverse (wpS_pure ⟨hB2.put (mirror_perm _ _ _ _),0,rfl⟩))
   ·exact wpS_pure ⟨hB2,0,rfl⟩
  | false=>
   refine wpS_bind (lt_any hC hB2 (by dsimp only;omega) (by dsimp only;omega) fun b=>?_)
   cases b with
   | true=>exact wpS_pure (h x q t hB2 hx1 (by omega))
   | false=>exact wpS_pure ⟨hB2,q+1,rfl⟩
 ·obtain⟨hB2,q,rfl⟩:=z
  exact h _ q t hB2 (by omega) (by omega)
theorem part_any{st:SortSt}{n m:Nat}{Q:Option Nat→SortSt→Prop}(hm:m≤a0.size)(h2:n+1≤m)(hB:SB kd a0 st)(h:∀ k t,SB kd a0 t→1≤k→k≤m→Q (some k) t):wpS (model P w) A E s (descPart n m) Q st:=by
 unfold descPart
 refine wpS_bind (wpS_lift (wpAny_rule ⟨rfl,wpS_bind (desc_any hC hm (by omega) h2 hB fun k q t hB2 k1 k2=>?_)⟩))
 show wpS _ _ _ _ (if q > 0 then _ else _) _ _
 split
 ·exact wpS_bind (wpS_reverse (tail_any hC hm (by dsimp only;omega) (by dsimp only;omega) (hB2.put (mirror_perm _ _ _ _)) h))
 ·exact tail_any hC hm (by dsimp only;omega) (by dsimp only;omega) hB2 h
theorem count_any{st:SortSt}{m:Nat}{Q:Option Nat→SortSt→Prop}(hm:m≤a0.size)(h1:1≤m)(hB:SB kd a0 st)(h:∀ k t,SB kd a0 t→1≤k→k≤m→Q (some k) t):wpS (model P w) A E s (countRun' 0 m) Q st:=by
 rw[countRun0_eq]
 refine wpS_bind (asc_any hC hm (Nat.le_refl 1) h1 hB fun n n1 n2=>?_)
 show wpS _ _ _ _ (if(n == m)=true then _ else if n > 1 then _ else _) _ _
 split
 ·exact wpS_pure (h n st hB n1 n2)
 ·rename_i ne
  have ne2:n≠m:=fun z=>ne (beq_iff_eq.mpr z)
  split
  ·refine wpS_bind (lt_any hC hB (by omega) (by dsimp only;omega) fun b=>?_)
   cases b with
   | true=>exact wpS_pure (h n st hB n1 n2)
   | false=>exact wpS_bind (wpS_reverse (part_any hC hm (by dsimp only;omega) (hB.put (mirror_perm _ _ _ _)) h))
  ·exact part_any hC hm (by dsimp only;omega) hB h
theorem ins_any{st:SortSt}{n ok:Nat}{Q:Bool→SortSt→Prop}(hn:n≤a0.size)(hB:SB kd a0 st)(h:∀ t,SB kd a0 t→Q true t):wpS (model P w) A E s (binarySort' 0 n ok) Q st:=by
 rw[binarySort'_eq]
 refine wpS_bind (wpS_mono (wpS_forRange (I:=fun _ c t=>c=(none,())∧SB kd a0 t) (Q:=fun c t=>c=(none,())∧SB kd a0 t) (fun k c t hk1 hk2 z=>?_) (fun c t z=>z) ⟨rfl,hB⟩) fun c t z=>?_)
 ·obtain⟨rfl,hB2⟩:=z
  refine wpS_bind (wpS_mono (wpS_forRange (I:=fun _ c u=>u=t∧∃ l r,c=(none,l,r)∧r≤k) (Q:=fun c u=>u=t∧∃ l r,c=(none,l,r)) (fun x c u hx1 hx2 y=>?_) (fun c u y=>?_) ⟨rfl,0,k,rfl,Nat.le_refl k⟩) fun c u y=>?_)
  ·obtain⟨rfl,l,r,rfl,hr⟩:=y
   show wpS _ _ _ _ (if l ≥ r then _ else _) _ _
   split
   ·exact wpS_pure ⟨rfl,l,r,rfl⟩
   ·refine wpS_bind (lt_any hC hB2 (by omega) (by dsimp only;omega) fun b=>?_)
    cases b with
    | true=>exact wpS_pure ⟨rfl,l,(l+r) / 2,rfl,by omega⟩
    | false=>exact wpS_pure ⟨rfl,(l+r) / 2+1,r,rfl,hr⟩
  ·obtain⟨rfl,l,r,rfl,_⟩:=y
   exact⟨rfl,l,r,rfl⟩
  ·obtain⟨rfl,l,r,rfl⟩:=y
   show wpS _ _ _ _ (do moveDown' (0+k) (0+l);pure (ForInStep.yield (none,()))) _ _
   rw[moveDown'_eq]
   exact wpS_bind (wpS_modify (wpS_pure ⟨rfl,hB2.put (bubble_perm _ _ _)⟩))
 ·obtain⟨rfl,hB2⟩:=z
  exact wpS_pure (h t hB2)
theorem runs_any{st:SortSt}{Q:Unit→SortSt→Prop}(hB:SB kd a0 st)(h2:1≤a0.size)(h64:a0.size < 64)(h:∀ t,(arrOf t).Perm a0→failedOf t=none→Q () t):wpS (model P w) A E s sortRuns' Q st:=by
 have mr:minRun' a0.size a0.size 0=a0.size:=by
  obtain⟨f,hf⟩:∃ f,a0.size=f+1:=⟨a0.size - 1,by omega⟩
  rw[hf,minRun'_succ,if_pos (by omega)]
 have dn:∀ t,SB kd a0 t→(arrOf (setPending t ((pendingOf t).push (0,a0.size,0)))).Perm a0∧failedOf (setPending t ((pendingOf t).push (0,a0.size,0)))=none∧pendingOf (setPending t ((pendingOf t).push (0,a0.size,0))) = #[(0,a0.size,0)]:=
  fun t hB=>⟨hB.pm,hB.fl,by show(pendingOf t).push _=_;rw[hB.pn];rfl⟩
 rw[sortRuns'_eq]
 refine wpS_bind (wpS_get ?_)
 dsimp only
 simp only[hB.sz,mr]
 refine wpS_bind (wpS_mono (wpS_forRange (I:=fun x c t=>(x=0∧c=(none,0)∧SB kd a0 t)∨(c=(none,a0.size)∧(arrOf t).Perm a0∧failedOf t=none∧pendingOf t = #[(0,a0.size,0)]))
  (Q:=fun c t=>c=(none,a0.size)∧(arrOf t).Perm a0∧failedOf t=none∧pendingOf t = #[(0,a0.size,0)]) (fun x c t hx1 hx2 z=>?_) (fun c t z=>?_) (.inl ⟨rfl,rfl,hB⟩)) fun c t z=>?_)
 ·rcases z with⟨rfl,rfl,hB2⟩ | ⟨rfl,hD⟩
  ·dsimp only
   rw[if_neg (show ¬ 0 ≥ a0.size by omega)]
   simp only[Nat.sub_zero,Nat.min_self,Nat.zero_add]
   refine wpS_bind (count_any hC (Nat.le_refl _) h2 hB2 fun k u hB3 k1 k2=>?_)
   dsimp only
   have bk:∀ v,SB kd a0 v→(pendingOf v).back? = none:=fun v hv=>by rw[hv.pn];rfl
   by_cases lt:k < a0.size
   ·rw[if_pos lt]
    refine wpS_bind (wpS_lift (wpAny_rule ⟨rfl,wpS_bind (ins_any hC (Nat.le_refl _) hB3 fun v hB4=>?_)⟩))
    rw[if_neg (show ¬ (!true)=true by decide)]
    refine wpS_bind (wpS_get ?_)
    rw[bk v hB4]
    exact wpS_bind (wpS_modify (wpS_pure (.inr ⟨rfl,dn v hB4⟩)))
   ·rw[if_neg lt]
    have ek:k=a0.size:=by omega
    subst ek
    refine wpS_bind (wpS_get ?_)
    rw[bk u hB3]
    exact wpS_bind (wpS_modify (wpS_pure (.inr ⟨rfl,dn u hB3⟩)))
  ·dsimp only
   rw[if_pos (Nat.le_refl _)]
   exact wpS_pure ⟨rfl,hD⟩
 ·rcases z with⟨hx,_,_⟩ | hD
  ·omega
  ·exact hD
 ·obtain⟨rfl,d1,d2,d3⟩:=z
  refine wpS_bind (wpS_mono (wpS_forRange (I:=fun _ c u=>u=t∧c=(none,())) (Q:=fun c u=>u=t∧c=(none,())) (fun x c u _ _ y=>?_) (fun _ _ y=>y) ⟨rfl,rfl⟩) fun c u y=>?_)
  ·obtain⟨rfl,rfl⟩:=y
   refine wpS_bind (wpS_get ?_)
   rw[if_pos (by rw[d3];exact Nat.le_refl 1)]
   exact wpS_pure ⟨rfl,rfl⟩
  ·obtain⟨rfl,rfl⟩:=y
   exact wpS_pure (h _ d1 d2)
end
section
variable{P:Program}{w:World}{A:Around}{E:Value→Shared→Prop}{s:Shared}{kd:SortKind}
structure Keys(P:Program)(w:World)(A:Around)(s:Shared)(kd:SortKind)(vs:List Value):Prop where
 kind:2≤vs.length→∀(E:Value→Shared→Prop) (Q:SortKind→Shared→Prop),Q kd s→wpAny (model P w) A (keyKind' vs.toArray) Q E s
 cmp:Cmp P w A s kd vs
theorem pairs_fst(vs:List Value):(pairsOf vs).toList.map (·.1)=vs:=by
 rw[pairsOf_toList]
 exact List.map_fst_zip (Nat.le_refl _)
theorem pairs_perm{vs:List Value}{xs:Array Keyed}(h:xs.Perm (pairsOf vs)):(xs.map (·.2)).toList.Perm vs:=by
 have z:=(Array.perm_iff_toList_perm.mp h).map (·.2)
 rw[pairsOf_toList,List.map_snd_zip (Nat.le_refl _)] at z
 rwa [Array.toList_map]
theorem sort_any{a:Addr}{vs:List Value}{n:Nat}{R:Fin→Shared→Prop}(ho:s.heap.get? a=some (seqObj "list" vs.toArray n))(h64:vs.length < 64)
  (hK:∀ h',(∀ b o,b≠a→s.heap.get? b=some o→h'.get? b=some o)→Keys P w A { s with heap:=h' } kd vs)
  (h:∀ out:Array Value,out.toList.Perm vs→R (.done (.ret .none)) { s with heap:=sortedHeap s.heap a vs out }):wpAny (model P w) A (Builtin.«list.sort» ⟨[.ref a],[]⟩) R E s:=by
 have ha:a < s.heap.objs.size:=Heap.lt_size ho
 rw[list_sort_plain]
 refine wpAny_bind (listItems_at ho rfl (wpAny_bind (listUpdate_at ho rfl ?_)))
 obtain⟨e1,ho1⟩:∃ e,(s.heap.update a (Obj.mapSeq fun _=>#[])).get? a=some (seqObj "list" #[] e):=⟨_,get?_update_seq ho fun _=>#[]⟩
 refine wpAny_bind (seqEpoch_at ho1 rfl (wpAny_bind (wpAny_newTuple (wpAny_bind (wpAny_newList (wpAny_holding ?_))))))
 show wpAny (model P w) A _ R E { s with heap:=((s.heap.update a (Obj.mapSeq fun _=>#[])).push (seqObj "tuple" vs.toArray 0)).push (seqObj "list" #[] 0) }
 have ho6:(((s.heap.update a (Obj.mapSeq fun _=>#[])).push (seqObj "tuple" vs.toArray 0)).push (seqObj "list" #[] 0)).get? a=some (seqObj "list" #[] e1):=Heap.get?_push_of_some _ (Heap.get?_push_of_some _ ho1)
 have kp:=hK (((s.heap.update a (Obj.mapSeq fun _=>#[])).push (seqObj "tuple" vs.toArray 0)).push (seqObj "list" #[] 0)) fun b o hb q=>
  Heap.get?_push_of_some _ (Heap.get?_push_of_some _ (by rw[Heap.get?_update_other _ _ (Ne.symm hb)];exact q))
 have fin:∀ t:SortSt,(arrOf t).Perm (pairsOf vs)→R (.done (.ret .none)) { s with heap:=sortedHeap s.heap a vs ((arrOf t).map (·.2)) }:=fun t hp=>h _ (pairs_perm hp)
 have sz:vs.toArray.size=vs.length:=List.size_toArray
 dsimp only
 have szp:∀ t:SortSt,(arrOf t).Perm (pairsOf vs)→((arrOf t).map (·.2)).size≤sizeLine+1:=fun t hp=>by
  rw[Array.size_map,hp.size_eq,pairsOf_size,sizeLine_eq]
  omega
 by_cases c2:vs.toArray.size < 2
 ·rw[if_pos c2,if_pos c2]
  refine wpAny_bind (wpAny_pure ?_)
  rw[StateT.run_pure]
  refine wpAny_bind (wpAny_pure ?_)
  dsimp only
  refine wpAny_bind (seqEpoch_at ho6 rfl (wpAny_bind (listUpdate_at ho6 rfl ?_ (hsz2:=szp (SortSt.mk' general' (vs.toArray.zip vs.toArray) #[] 7 none) (Array.Perm.refl _)))))
  rw[if_neg (by simp)]
  exact wpAny_pure (fin (SortSt.mk' general' (vs.toArray.zip vs.toArray) #[] 7 none) (Array.Perm.refl _))
 ·rw[if_neg c2,if_neg c2]
  refine wpAny_bind (kp.kind (by omega) _ _ ?_)
  have cm:Cmp P w A { s with heap:=((s.heap.update a (Obj.mapSeq fun _=>#[])).push (seqObj "tuple" vs.toArray 0)).push (seqObj "list" #[] 0) } kd ((pairsOf vs).toList.map (·.1)):=by
   rw[pairs_fst]
   exact kp.cmp
  have run:=runs_any (E:=E) (Q:=fun _ t=>(arrOf t).Perm (pairsOf vs)∧failedOf t=none) cm (st:=SortSt.mk' kd (vs.toArray.zip vs.toArray) #[] 7 none) ⟨Array.Perm.refl _,rfl,rfl,rfl⟩ (by rw[pairsOf_size];omega) (by rw[pairsOf_size];exact h64) fun t p f=>⟨p,f⟩
  refine wpAny_bind (wpAny_mono run (fun r s' z=>?_) fun _ _ e=>e)
  obtain⟨⟨⟩,t⟩:=r
  obtain⟨rfl,hp,hf⟩:=z
  dsimp only
  refine wpAny_bind (seqEpoch_at ho6 rfl (wpAny_bind (listUpdate_at ho6 rfl ?_ (hsz2:=szp t hp))))
  rw[hf]
  dsimp only
  rw[if_neg (by simp)]
  exact wpAny_pure (fin t hp)
theorem sorted_any{l:Addr}{vs:List Value}{Q:Value→Shared→Prop}(hl:s.heap.IsList l vs.toArray)(h64:vs.length < 64)
  (hK:∀ A' h',(∀ b o,s.heap.get? b=some o→h'.get? b=some o)→Keys P w A' { s with heap:=h' } kd vs)
  (h:∀ out:Array Value,out.toList.Perm vs→Q (.ref (s.heap.objs.size+1)) { s with heap:=sortedAll s.heap vs out }):wpAny (model P w) A (call (.builtin "sorted") [.ref l]) Q E s:=by
 refine Calls.call_function_entry kind_sorted plain_sorted entry_sorted (args_sorted1 _) ?_
 unfold Builtin.«sorted»
 refine wpAny_bind (m:=checkCount "sorted" 1 1 _) (wpAny_pure (wpAny_bind (collect_list hl ?_ (by rw[sizeLine_eq];omega))))
 refine wpAny_bind (wpAny_newList ?_)
 have sz:((s.heap.push (seqObj "list" #[] 0)).update s.heap.objs.size (Obj.mapSeq (· ++ vs.toArray))).objs.size=s.heap.objs.size+1:=by rw[Heap.size_update,size_push']
 have hoL:(((s.heap.push (seqObj "list" #[] 0)).update s.heap.objs.size (Obj.mapSeq (· ++ vs.toArray))).push (seqObj "list" vs.toArray 0)).get? (s.heap.objs.size+1)=some (seqObj "list" vs.toArray 0):=sz ▸ Heap.get?_push_size _ rfl
 show wpAny _ _ _ _ _ { s with heap:=((s.heap.push (seqObj "list" #[] 0)).update s.heap.objs.size (Obj.mapSeq (· ++ vs.toArray))).push (seqObj "list" vs.toArray 0) }
 rw[sz]
 refine wpAny_bind (wpAny_holding (wpAny_call_entry slot_list_sort ⟨_,hoL,rfl⟩ entry_list_sort (sort_any (kd:=kd) hoL h64 (fun h' k=>hK _ h' fun b o q=>?_) fun out p=>⟨_,rfl,wpAny_pure ⟨_,rfl,h out p⟩⟩) (args_list_sort _)))
 have hb:b < s.heap.objs.size:=Heap.lt_size q
 refine k b o (Nat.ne_of_lt (Nat.lt_succ_of_lt hb)) (Heap.get?_push_of_some _ ?_)
 rw[Heap.get?_update_other _ _ (Nat.ne_of_lt hb).symm]
 exact Heap.get?_push_of_some _ q
end
end L2
namespace L2
open PySem PySem.Spec PyProof.Rows
theorem first_eq(v:Value):firstOfTuple' v=(do
  if(← typeOf v) != .type "tuple" then return none
  return (← Builtin.List.listItems v)[0]?):=rfl
theorem keyLt_tup(f:Bool)(x y:Value):keyLt' (tuples' f) x y=(do
  let xs ← Builtin.List.listItems x;let ys ← Builtin.List.listItems y
  for ((p,q),i) in (xs.toList.zip ys.toList).zipIdx do
   if !(← eqBool p q) then return ← oneLt' (f && i == 0) p q
  return decide (xs.size < ys.size)):=rfl
section
variable{P:Program}{w:World}{A:Around}{E:Value→Shared→Prop}{s:Shared}
theorem wp_mapM{M:Model}{β:Type}{f:Value→Sem β}{g:Value→β}:∀{vs:List Value} {Q:List β→Shared→Prop},(∀ x∈vs,∀(Q:β→Shared→Prop),Q (g x) s→wpAny M A (f x) Q E s)→Q (vs.map g) s→wpAny M A (vs.mapM f) Q E s
 | [],Q,_,h=>by
  rw[List.mapM_nil]
  exact wpAny_pure h
 | x :: r,Q,hx,h=>by
  rw[List.mapM_cons]
  exact wpAny_bind (hx x List.mem_cons_self _ (wpAny_bind (wp_mapM (fun y hy=>hx y (List.mem_cons_of_mem _ hy)) (wpAny_pure h))))
theorem lt_ints{f:Bool}{a b:Int}{t u:Tok}{Q:Bool→Shared→Prop}(h:∀ b,Q b s):wpAny (model P w) A (oneLt' f (.int a t) (.int b u)) Q E s:=by
 cases f with
 | true=>exact oneLt_int (h _)
 | false=>
  rw[oneLt'_eq]
  rw[if_neg Bool.false_ne_true]
  refine wpAny_bind (wpAny_richCompare_same (T:="int") (typeIs_int s a t) (typeIs_int s b u) slot_int_lt (call_int_lt ⟨nofun,?_⟩))
  exact wpAny_truthy_bool (h _)
def PairAt(h:Heap)(v:Value):Prop:=∃(a:Addr) (i j:Int) (t u:Tok) (o:Obj) (n:Nat),v = .ref a∧h.get? a=some o∧o.cls = .type "tuple"∧o.data = .seq #[.int i t,.int j u] n
theorem cmp_pairs{vs:List Value}(hp:∀ v∈vs,PairAt s.heap v)(f:Bool):Cmp P w A s (tuples' f) vs:=by
 intro x hx y hy E Q h
 obtain⟨a,i,j,t,u,o,n,rfl,ho,hc,hd⟩:=hp x hx
 obtain⟨a2,i2,j2,t2,u2,o2,n2,rfl,ho2,hc2,hd2⟩:=hp y hy
 rw[keyLt_tup]
 refine wpAny_bind (listItems_at ho hd (wpAny_bind (listItems_at ho2 hd2 ?_)))
 show wpAny (model P w) A (do
  let r ← forIn [((Value.int i t,Value.int i2 t2),0),((Value.int j u,Value.int j2 u2),1)] (none,()) _
  _) Q E s
 rw[List.forIn_cons]
 refine wpAny_bind (wpAny_bind ?_)
 refine wpAny_bind (wpAny_eqBool_int ?_)
 by_cases c:(i == i2)=true
 ·rw[c,if_neg (by decide)]
  refine wpAny_pure ?_
  show wpAny (model P w) A (forIn [((Value.int j u,Value.int j2 u2),1)] ((none,()):Option Bool×Unit) _) _ E s
  rw[List.forIn_cons]
  refine wpAny_bind (wpAny_bind (wpAny_eqBool_int ?_))
  by_cases d:(j == j2)=true
  ·rw[d,if_neg (by decide)]
   refine wpAny_pure ?_
   show wpAny (model P w) A (forIn [] ((none,()):Option Bool×Unit) _) _ E s
   rw[List.forIn_nil]
   exact wpAny_pure (wpAny_pure (h _))
  ·rw[Bool.eq_false_iff.mpr d,if_pos (by decide)]
   exact wpAny_bind (lt_ints fun b=>wpAny_pure (wpAny_pure (wpAny_pure (h b))))
 ·rw[Bool.eq_false_iff.mpr c,if_pos (by decide)]
  exact wpAny_bind (lt_ints fun b=>wpAny_pure (wpAny_pure (wpAny_pure (h b))))
theorem kind_pairs{vs:List Value}(hp:∀ v∈vs,PairAt s.heap v)(h2:2≤vs.length){Q:SortKind→Shared→Prop}(h:Q (tuples' true) s):wpAny (model P w) A (keyKind' vs.toArray) Q E s:=by
 rw[keyKind'_eq,List.mapM_toArray]
 obtain⟨g,hg⟩:∃ g:Value→Option Value,∀ v∈vs,∃(i:Int) (t:Tok),g v=some (.int i t)∧∀(Q:Option Value→Shared→Prop),Q (g v) s→wpAny (model P w) A (firstOfTuple' v) Q E s:=by
  have all:∀ v∈vs,∃ y:Option Value,∃(i:Int) (t:Tok),y=some (.int i t)∧∀(Q:Option Value→Shared→Prop),Q y s→wpAny (model P w) A (firstOfTuple' v) Q E s:=by
   intro v hv
   obtain⟨a,i,j,t,u,o,n,rfl,ho,hc,hd⟩:=hp v hv
   refine⟨some (.int i t),i,t,rfl,fun Q q=>?_⟩
   rw[first_eq]
   refine wpAny_bind (wpAny_typeOf (T:="tuple") ⟨o,ho,hc⟩ ?_)
   rw[if_neg (by decide)]
   exact wpAny_bind (listItems_at ho hd (wpAny_pure q))
  refine⟨fun v=>if hv:v∈vs then(all v hv).choose else none,fun v hv=>?_⟩
  dsimp only
  rw[dif_pos hv]
  exact(all v hv).choose_spec
 refine wpAny_bind ?_
 rw[map_eq_pure_bind]
 refine wpAny_bind (wp_mapM (g:=g) (fun x hx Q q=>(hg x hx).choose_spec.choose_spec.2 Q q) (wpAny_pure ?_))
 have e1:((vs.map g).toArray.all fun x=>x.isSome)=true:=by
  rw[List.all_toArray,List.all_map,List.all_eq_true]
  intro v hv
  obtain⟨i,t,e,_⟩:=hg v hv
  show(g v).isSome=true
  rw[e]
  rfl
 rw[if_pos e1]
 refine wpAny_bind (wpAny_rule (wpAny_bind ?_))
 rw[oneTypeOnly'_eq]
 have allI:∀ x∈(vs.map g).filterMap id,∃(i:Int) (t:Tok),x = .int i t:=by
  intro x hx
  obtain⟨y,hy,e⟩:=List.mem_filterMap.mp hx
  obtain⟨v,hv,rfl⟩:=List.mem_map.mp hy
  obtain⟨i,t,e2,_⟩:=hg v hv
  have e3:g v=some x:=e
  rw[e2] at e3
  cases e3
  exact⟨i,t,rfl⟩
 have ne:∃ x r,(vs.map g).filterMap id=x :: r:=by
  cases vs with
  | nil=>exact absurd h2 (by decide)
  | cons v r=>
   obtain⟨i,t,e2,_⟩:=hg v List.mem_cons_self
   refine⟨.int i t,(r.map g).filterMap id,?_⟩
   rw[List.map_cons,List.filterMap_cons]
   rw[e2]
   rfl
 have ea:(Array.filterMap id (vs.map g).toArray)=((vs.map g).filterMap id).toArray:=by simp
 rw[ea]
 generalize (vs.map g).filterMap id=zs at allI ne
 obtain⟨x,r,rfl⟩:=ne
 refine wpAny_bind ?_
 rw[List.mapM_toArray,map_eq_pure_bind]
 refine wpAny_bind (wp_mapM (g:=fun _=>Value.type "int") (fun y hy Q q=>?_) (wpAny_pure ?_))
 ·obtain⟨i,t,rfl⟩:=allI y hy
  exact wpAny_typeOf (typeIs_int s i t) q
 ·have hall:(((x :: r).map fun _=>Value.type "int").toArray.all fun y=>y == Value.type "int")=true:=by
   rw[List.all_toArray,List.all_map,List.all_eq_true]
   intro _ _
   rfl
  have h0:((x :: r).map fun _=>Value.type "int").toArray[0]? = some (Value.type "int"):=rfl
  rw[h0]
  dsimp only
  rw[hall]
  exact wpAny_pure (wpAny_pure h)
theorem keys_pairs{vs:List Value}(hp:∀ v∈vs,PairAt s.heap v):Keys P w A s (tuples' true) vs:=⟨fun h2 E Q q=>kind_pairs hp h2 q,cmp_pairs hp true⟩
end
theorem call_sorted2{X:Cx}:CallR X (.builtin "sorted") (fun xs H Q=>∃(a:Addr) (ps:List Addr),xs=[.ref a]∧SqL X.K H a (ps.map V.ref)∧ps.length < 64∧(∀ p∈ps,∃ i j:Int,SqT X.K H p [.int i,.int j]) ∧
  ∀(l:Addr) (qs:List Addr),H l=none→qs.Perm ps→Q (.ref l) (upd H l (.lst (qs.map V.ref)))):=by
 intro pins s σ H xs us Q I r h
 obtain⟨a,ps,rfl,hS,h64,hP,q⟩:=h
 obtain⟨u,rfl,ru⟩:=vals1 r
 cases ru
 obtain⟨its,vi,pl,hz⟩:=I.list hS
 have ei:∀(ps:List Addr) (its:List Value),Vals (ps.map V.ref) its→its=ps.map Value.ref:=by
  intro ps
  induction ps with
  | nil=>intro its z;cases z;rfl
  | cons p r ih=>
   intro its z
   cases z with
   | cons z1 z2=>
    have e:_=Value.ref p:=z1
    rw[e,ih _ z2]
    rfl
 have e:=ei ps its vi
 subst e
 have pairs:∀ v∈ps.map Value.ref,PairAt s.heap v:=by
  intro v hv
  obtain⟨p,hp,rfl⟩:=List.mem_map.mp hv
  obtain⟨i,j,hT⟩:=hP p hp
  obtain⟨its2,v2,⟨o,ho,hc,n,hd⟩,_⟩:=I.tuple hT
  cases v2 with
  | cons a1 a2=>
   cases a2 with
   | cons b1 b2=>
    cases b2
    obtain⟨t,rfl⟩:=a1
    obtain⟨u,rfl⟩:=b1
    exact⟨p,i,j,t,u,o,n,rfl,ho,hc,hd⟩
 refine sorted_any (kd:=tuples' true) (isL_of pl) (by rw[List.length_map];exact h64) (fun A' h' k=>keys_pairs fun v hv=>?_) fun out hp=>?_
 ·obtain⟨p,i,j,t,u,o,n,rfl,ho,hc,hd⟩:=pairs v hv
  exact⟨p,i,j,t,u,o,n,rfl,k _ _ ho,hc,hd⟩
 ·obtain⟨qs,eq,pq⟩:∃ qs:List Addr,out.toList=qs.map Value.ref∧qs.Perm ps:=by
   have un:∀ l:List Value,(∀ v∈l,∃ p,v=Value.ref p)→∃ qs:List Addr,l=qs.map Value.ref:=by
    intro l
    induction l with
    | nil=>intro _;exact⟨[],rfl⟩
    | cons v r ih=>
     intro hv
     obtain⟨p,rfl⟩:=hv v List.mem_cons_self
     obtain⟨qs,rfl⟩:=ih fun y hy=>hv y (List.mem_cons_of_mem _ hy)
     exact⟨p :: qs,rfl⟩
   obtain⟨qs,e⟩:=un out.toList fun v hv=>by
    obtain⟨p,_,rfl⟩:=List.mem_map.mp (hp.mem_iff.mp hv)
    exact⟨p,rfl⟩
   refine⟨qs,e,?_⟩
   rw[e] at hp
   have z:=hp.map fun v=>match v with | .ref p=>p | _=>0
   rw[List.map_map,List.map_map] at z
   have c:((fun v=>match v with | .ref p=>p | _=>0) ∘ Value.ref:Addr→Addr)=id:=rfl
   rwa [c,List.map_id,List.map_id] at z
  obtain⟨e,he⟩:=sortedAll_at s.heap (ps.map Value.ref) out
  have hf:H (s.heap.objs.size+1)=none:=I.hok.fresh (Nat.le_succ _)
  have vq:∀ qs:List Addr,Vals (qs.map V.ref) (qs.map Value.ref):=by
   intro qs
   induction qs with
   | nil=>exact .nil
   | cons p r ih=>exact .cons rfl ih
  refine⟨.ref (s.heap.objs.size+1),upd H (s.heap.objs.size+1) (.lst (qs.map V.ref)),I.laid (t':=s.toks) (fun b u q=>sortedAll_old q) (Nat.le_succ _) ⟨?_,qs.map Value.ref,e,vq qs,?_⟩,rfl,q _ qs hf pq⟩
  ·rw[List.length_map,pq.length_eq,sizeLine_eq]
   omega
  ·rw[he,← eq]
end L2
namespace L2
open PySem PySem.Spec PyProof.Rows
section
variable{X:Cx}
theorem call_sum(hc:X.calm=true):CallR X (.builtin "sum") (fun xs H Q=>∃(a:Addr) (ns:List Int),xs=[.ref a]∧SqL X.K H a (ns.map V.int)∧Q (.int ns.sum) H):=by
 intro pins s σ H xs us Q I r h
 obtain⟨a,ns,rfl,hS,q⟩:=h
 obtain⟨u,rfl,ru⟩:=vals1 r
 cases ru
 obtain⟨its,vi,pl,hz⟩:=I.list hS
 have hi:=intsAre_of vi
 obtain⟨xs,hx⟩:=hi.allInts.items
 have hl:s.heap.IsList a (intItems xs):=hx ▸ isL_of pl
 refine sum_intListG (I.ok.hd hc) hl fun h' tk t' hk=>?_
 have e1:ns=xs.toList.map (·.1):=by
  rw[← nums_intItems,← hx]
  exact hi.numsOf.symm
 have e2:preSum (numAt xs) xs.size=ns.sum:=by
  rw[e1,preSum_eq,List.take_of_length_le (by simp)]
 rw[e2]
 exact⟨.int ns.sum,H,I.kept hk,⟨_,rfl⟩,q⟩
end
section
variable{X:Cx}
end
end L2
namespace L2
open PySem PySem.Spec PyProof.Rows
section
open PySem.SeqAt
open PySem.AutoSeq1 (wpAny_loadPart')
open PySem.MeetsSeq PySem.MeetsSeq2 PySem.MeetsSeq3
end
section
variable{X:Cx}
end
end L2
namespace L2
open PySem PySem.Spec PyProof.Rows
theorem comp_some{te:TE}{σ0:St}{H1:Hp}{Q:V→Hp→Prop}{lo:Int}{n:Nat}(G:Nat→V→Hp→Prop)(hn:n≤sizeLine)(hG:∀ i v H H',G i v H→Same H H'→G i v H')(hU:∀ i v H l xs ys,G i v H→H l=some (.lst xs)→G i v (upd H l (.lst ys)))
  (hE:∀ i H,i < n→Same H1 H→∀ R:V→Hp→Prop,(∀ v H',Same H H'→G i v H'→R v H')→te (σ0.set 0 (some (.int (lo+(i:Nat))))) H R)
  (hQ:∀ l H vs,Same H1 H→H1 l=none→H l=some (.lst vs)→vs.length=n→(∀ i v,vs[i]? = some v→G i v H)→Q (.ref l) H):tCompR (gName 0) tYes te σ0 (Itr lo n) H1 Q:=by
 intro l hl
 refine⟨fun i m σ H=>m=n - i∧i≤n∧Same H1 H∧(∃ vs,H l=some (.lst vs)∧vs.length=i∧∀ j v,vs[j]? = some v→G j v H)∧∀ o,σ.set 0 o=σ0.set 0 o,⟨n,by simp,Nat.zero_le _,same_upd hl _,⟨[],upd_same,rfl,fun j v z=>by simp at z⟩,fun _=>rfl⟩,?_⟩
 rintro i m σ H ⟨rfl,hi,sm,⟨vs,hL,hvl,hvs⟩,hσ⟩
 by_cases lt:i < n
 ·refine .inr ⟨lt,fun x H' y=>?_⟩
  obtain⟨rfl,rfl⟩:=y
  unfold gName tYes
  dsimp only
  rw[hσ,if_pos rfl]
  refine hE i H' lt sm _ fun v H3 s3 hv=>⟨vs,s3 _ _ hL,by omega,n - (i+1),by omega,rfl,lt,same_upd2 hl (sm.trans s3) _,⟨vs++[v],upd_same,by rw[List.length_append,hvl];rfl,fun j u hj=>?_⟩,fun o=>List.set_set _⟩
  by_cases c:j < vs.length
  ·rw[List.getElem?_append_left c] at hj
   exact hU j u H3 l _ _ (hG j u H' H3 (hvs j u hj) s3) (s3 _ _ hL)
  ·rw[List.getElem?_append_right (by omega)] at hj
   have e:j - vs.length=0:=by
    cases q:j - vs.length with
    | zero=>rfl
    | succ k=>rw[q] at hj;simp at hj
   rw[e] at hj
   have e2:v=u:=by simpa using hj
   subst e2
   have e3:j=i:=by omega
   subst e3
   exact hU j v H3 l _ _ hv (s3 _ _ hL)
 ·have e:i=n:=by omega
  subst e
  exact .inl ⟨Nat.le_refl _,hQ l H vs sm hl hL hvl hvs⟩
end L2
namespace L2
open PySem PySem.Spec PyProof.Rows
section
variable{X:Cx}{pins:List (Addr×Obj)}{σ:St}{H:Hp}{s:Shared}
end
section
variable{X:Cx}
theorem mt_index:MtR X "list.index" (fun x xs H Q=>∃(a:Addr) (k:Int) (ns:List Int) (j:Nat),x = .ref a∧xs=[.int k]∧SqL X.K H a (ns.map V.int)∧ns.length≤1000∧ns[j]? = some k∧(∀ m < j,ns[m]?≠some k)∧Q (.int (j:Nat)) H):=by
 intro pins s σ H x xs v us Q I rx rv h
 obtain⟨a,k,ns,j,rfl,rfl,hS,hl,hj,hno,q⟩:=h
 cases rx
 obtain⟨u,rfl,t,rfl⟩:=vals1 rv
 obtain⟨its,vi,pl,hz⟩:=I.list hS
 have hi:=intsAre_of vi
 obtain⟨⟨cls,dd,data,sl⟩,ho,hc,n,hd⟩:=isL_of pl
 simp only at hc hd
 subst hc hd
 have len:its.length=ns.length:=hi.length
 have at_:∀ m (hm:m < its.toArray.size),isInt k its.toArray[m]=decide (ns[m]? = some k):=fun m hm=>by
  have hm':m < ns.length:=by rw[← len];simpa using hm
  obtain⟨t0,e0⟩:=PyProof.Rows.IntsAre.get hi m ns[m] (List.getElem?_eq_getElem hm')
  have e1:its.toArray[m] = .int ns[m] t0:=by
   have hm2:m < its.length:=by simpa using hm
   have e2:its[m]? = some its[m]:=List.getElem?_eq_getElem hm2
   have e3:its[m] = .int ns[m] t0:=by
    rw[e0] at e2
    exact(Option.some.inj e2).symm
   simpa using e3
  rw[e1,List.getElem?_eq_getElem hm']
  show(_ == _)=_
  by_cases c:ns[m]=k
  ·rw[c]
   simp
  ·have c2:¬ k=ns[m]:=fun z=>c z.symm
   simp [c,c2]
 have jl:j < its.toArray.size:=by
  have:=(List.getElem?_eq_some_iff.mp hj).1
  simp [len,this]
 refine call_meets PySem.F.slot_list_index ⟨_,ho,rfl⟩ PySem.F.entry_list_index (PySem.F.args_list_index_2 _ _) (PySem.SeqAt.list_indexAt a its.toArray n dd sl (.int k t) (isInt k) j jl ?_ ?_ ?_) ⟨ho,fun y hy=>(eq_isInt k t hi y (by simpa using hy)).at _ _,⟨.int (j:Nat),H,I.tok _,⟨_,rfl⟩,q⟩⟩
 ·have:ns.length≤1000:=hl
  have:=(List.getElem?_eq_some_iff.mp hj).1
  omega
 ·rw[at_ j jl,hj]
  exact decide_eq_true rfl
 ·intro m hm hmj
  rw[at_ m hm]
  exact decide_eq_false (hno m hmj)
end
end L2
namespace L2
open PySem PySem.Spec PyProof.Rows
theorem op_neNil{X:Cx}(hu:X.A.units+64 < cLine):OpR X (compareOp .NotEq) (fun x y H Q=>∃(a b:Addr) (xs:List V),x = .ref a∧y = .ref b∧SqL X.K H a xs∧SqL X.K H b []∧Q (.bl (!xs.isEmpty)) H):=by
 intro pins s σ H x y v u Q I rx ry h
 obtain⟨a,b,xs,rfl,rfl,hA,hB,q⟩:=h
 cases xs with
 | nil=>exact op_neL hu pins s σ H _ _ v u Q I rx ry ⟨a,b,[],[],rfl,rfl,hA,hB,q⟩
 | cons x0 xr=>
  cases rx
  cases ry
  obtain⟨ia,va,pa,_⟩:=I.list hA
  obtain⟨ib,vb,pb,_⟩:=I.list hB
  have l1:=va.length
  have l2:=vb.length
  obtain⟨⟨cls,dd,data,sl⟩,ho,hc,n,hd⟩:=isL_of pa
  obtain⟨⟨cls2,dd2,data2,sl2⟩,ho2,hc2,n2,hd2⟩:=isL_of pb
  simp only at hc hd hc2 hd2
  subst hc hd hc2 hd2
  refine richCompare_meets_room (op:=.NotEq) ⟨_,ho,rfl⟩ ⟨_,ho2,rfl⟩ PySem.F.slot_list_ne PySem.F.entry_list_ne (PySem.F.args_list_ne_2 _ _) (PySem.SeqAt.list_ne_lengthsAt a b ia.toArray ib.toArray n n2 dd dd2 sl sl2 ?_) ⟨ho,ho2,(fun z=>nomatch z),.bl true,H,I,rfl,q⟩ (by omega)
  simp only[List.size_toArray,← l1,← l2,List.length_cons,List.length_nil]
  simp
end L2
namespace L2
open PySem PySem.Spec PyProof.Rows
theorem rcGt_int(A:Around)(s:Shared)(a:Int)(t:Tok)(c:Int)(u:Tok)(prog:Program)(w:World)(E:Value→Shared→Prop)(Q:Value→Shared→Prop)(h:Q (.bool (decide (c < a))) s) :
  wpAny (model prog w) A (richCompare .Gt (.int a t) (.int c u)) Q E s:=
 (PyProof.Rows.gt_int h:wpAny (model prog w) A (compareOp .Gt (.int a t) (.int c u)) Q E s)
section
open PySem.SeqAt
open PySem.AutoSeq1 (wpAny_loadPart')
open PySem.MeetsSeq PySem.MeetsSeq2 PySem.MeetsSeq3
theorem tuple_gt_ints(l b:Addr)(items items2:Array Value)(n n2:Nat)(dd dd2:Option Addr)(sl sl2:Array (Option Value))(ns ms:List Int)(hi:IntsAre items.toList ns)(hj:IntsAre items2.toList ms) :
  Meets (Builtin.«tuple.__gt__» ⟨[.ref l,.ref b],[]⟩)
   (fun _ R s=>s.heap.get? l=some { cls:=.type "tuple",dict:=dd,data:=.seq items n,slots:=sl }∧s.heap.get? b=some { cls:=.type "tuple",dict:=dd2,data:=.seq items2 n2,slots:=sl2 } ∧
    R (.ok (.ret (.bool (HT.lexLt ms ns)))) s):=
 .of_wp fun prog w A R s h=>by
  obtain⟨hp,g,d,tk,os⟩:=s;obtain⟨hl,hb,h⟩:=h
  have f2:=AutoSeq1.sub_tuple_tuple
  have z1:items.size=ns.length:=by rw[← hi.length];simp
  have z2:items2.size=ms.length:=by rw[← hj.length];simp
  wp_walk using wpAny_loadPart' hl,wpAny_loadPart' hb,wpAny_forIn_list _ (fun rest b s'=>b.1=none∧s'=⟨hp,g,d,tk,os⟩∧∃(vs ws:List Value) (ns' ms':List Int),rest=vs.zip ws ∧
   IntsAre vs ns'∧IntsAre ws ms'∧ns'.length+items2.size=ms'.length+items.size∧R (.ok (.ret (.bool (HT.lexLt ms' ns')))) ⟨hp,g,d,tk,os⟩) _
  case turn=>
   rintro⟨y,x⟩ rest b s' ⟨hb',rfl,vs,ws,ns',ms',hz,hvi,hwi,hlen,hR⟩
   cases hvi with
   | nil=>rw[List.zip_nil_left] at hz;cases hz
   | cons a t hvi'=>
    cases hwi with
    | nil=>rw[List.zip_nil_right] at hz;cases hz
    | cons c u hwi'=>
     rw[List.zip_cons_cons] at hz
     injection hz with hyx hrest
     injection hyx with hy hx
     subst hy hx
     rw[HT.lexLt_cons] at hR
     simp only[List.length_cons] at hlen
     obtain⟨e,he,hiff⟩:=HT.eqAt_int A.in1 ⟨hp,g,d,tk,os⟩ a t c u
     refine wpAny_bind (he prog w _ _ ?_)
     cases e with
     | true=>
      rw[if_pos (hiff.mp rfl).symm] at hR
      wp_walk
      exact⟨rfl,rfl,_,_,_,_,hrest,hvi',hwi',by omega,hR⟩
     | false=>
      rw[if_neg (fun q=>absurd (hiff.mpr q.symm) Bool.false_ne_true)] at hR
      have hri:=rcGt_int A.in1 ⟨hp,g,d,tk,os⟩ a t c u prog w
      wp_walk using hri
      exact⟨_,rfl,by simpa using hR⟩
  case fin=>
   rintro⟨b1,b2⟩ s' ⟨hb',rfl,vs,ws,ns',ms',hz,hvi,hwi,hlen,hR⟩
   simp only at hb'
   subst hb'
   have hv:HT.lexLt ms' ns'=decide (items2.size < items.size):=by
    cases hvi with
    | nil=>
     cases hwi with
     | nil=>
      simp only[List.length_nil] at hlen
      rw[HT.lexLt_nil_nil]
      exact(decide_eq_false (by omega)).symm
     | cons c u hw=>
      simp only[List.length_nil,List.length_cons] at hlen
      rw[HT.lexLt_cons_nil]
      exact(decide_eq_false (by omega)).symm
    | cons a t hv=>
     cases hwi with
     | nil=>
      simp only[List.length_nil,List.length_cons] at hlen
      rw[HT.lexLt_nil_cons]
      exact(decide_eq_true (by omega)).symm
     | cons c u hw=>
      rw[List.zip_cons_cons] at hz
      cases hz
   rw[hv] at hR
   wp_walk
   exact⟨_,rfl,by simpa [Builtin.Tuple.tupleCompareSizes] using hR⟩
  case h=>
   exact⟨rfl,rfl,items.toList,items2.toList,ns,ms,rfl,hi,hj,by omega,h⟩
end
section
variable{X:Cx}
theorem op_gtT(hu:X.A.units+64 < cLine):OpR X (compareOp .Gt) (fun x y H Q=>∃(a b:Addr) (ns ms:List Int),x = .ref a∧y = .ref b∧SqT X.K H a (ns.map V.int)∧SqT X.K H b (ms.map V.int)∧Q (.bl (HT.lexLt ms ns)) H):=by
 intro pins s σ H x y v u Q I rx ry h
 obtain⟨a,b,ns,ms,rfl,rfl,ha,hb,q⟩:=h
 cases rx
 cases ry
 obtain⟨its,r1,p1,_⟩:=I.tuple ha
 obtain⟨its2,r2,p2,_⟩:=I.tuple hb
 have i1:IntsAre its.toArray.toList ns:=intsAre_of r1
 have i2:IntsAre its2.toArray.toList ms:=intsAre_of r2
 obtain⟨⟨cls,dd,data,sl⟩,ho,hc,n,hd⟩:=id p1
 obtain⟨⟨cls2,dd2,data2,sl2⟩,ho2,hc2,n2,hd2⟩:=id p2
 simp only at hc hd hc2 hd2
 subst hc hd hc2 hd2
 exact richCompare_meets_room (op:=.Gt) ⟨_,ho,rfl⟩ ⟨_,ho2,rfl⟩ PySem.F.slot_tuple_gt PySem.F.entry_tuple_gt (PySem.F.args_tuple_gt_2 _ _) (tuple_gt_ints a b its.toArray its2.toArray n n2 dd dd2 sl sl2 ns ms i1 i2)
  ⟨ho,ho2,(fun z=>nomatch z),.bl (HT.lexLt ms ns),H,I,rfl,q⟩ (by omega)
def eqVs:List V→List V→Bool
 | [],[]=>true
 | x :: xs,y :: ys=>eqV x y && eqVs xs ys
 | _,_=>false
theorem eqVs_all:∀(xs ys:List V),((List.range (min xs.length ys.length)).all (fun j=>eqV (xs.getD j .non) (ys.getD j .non)) && xs.length == ys.length)=eqVs xs ys
 | [],[]=>rfl
 | [],_ :: _=>rfl
 | _ :: _,[]=>rfl
 | x :: xs,y :: ys=>by
  have e:min (x :: xs).length (y :: ys).length=min xs.length ys.length+1:=by simp only[List.length_cons];omega
  rw[e,List.range_succ_eq_map,List.all_cons,List.all_map]
  show _=(eqV x y && eqVs xs ys)
  rw[← eqVs_all xs ys,Bool.and_assoc]
  have e2:((x :: xs).length == (y :: ys).length)=(xs.length == ys.length):=by simp
  rw[e2]
  rfl
theorem flat_at{xs:List V}{us:List Value}(r:Vals xs us)(f:xs.all flatV=true){j:Nat}(h:j < us.toArray.size):RelV (xs.getD j .non) us.toArray[j]∧flatV (xs.getD j .non)=true:=by
 have hj:j < us.length:=by simpa using h
 have hx:j < xs.length:=by rw[r.length];exact hj
 obtain⟨u,e,ru⟩:=r.get (List.getElem?_eq_getElem hx)
 rw[List.getElem?_eq_getElem hj] at e
 have g:xs.getD j .non=xs[j]:=by rw[List.getD_eq_getElem?_getD,List.getElem?_eq_getElem hx];rfl
 rw[g]
 have eu:us[j]=u:=Option.some.inj e
 refine⟨?_,List.all_eq_true.mp f _ (List.getElem_mem hx)⟩
 show RelV xs[j] us.toArray[j]
 rw[List.getElem_toArray,eu]
 exact ru
end
theorem comp_someJ{te:TE}{σ0:St}{H1:Hp}{Q:V→Hp→Prop}{J:It}(n:Nat)(xs:Nat→V)(G:Addr→Nat→V→Hp→Prop)(hn:n≤sizeLine)
  (hgo:∀ i H,Same H1 H→i < n→J.go i H) (hstop:∀ H,Same H1 H→J.stop n H) (hy:∀ i H x H',Same H1 H→i < n→J.yld i H x H'→H'=H∧x=xs i)
  (hG:∀ l i v H H',G l i v H→Same H H'→G l i v H') (hU:∀ l i v H xs ys,G l i v H→H l=some (.lst xs)→G l i v (upd H l (.lst ys)))
  (hE:∀ i H l vs,i < n→Same H1 H→H1 l=none→H l=some (.lst vs)→∀ R:V→Hp→Prop,(∀ v H',Same H H'→G l i v H'→R v H')→te (σ0.set 0 (some (xs i))) H R)
  (hQ:∀ l H vs,Same H1 H→H1 l=none→H l=some (.lst vs)→vs.length=n→(∀ i v,vs[i]? = some v→G l i v H)→Q (.ref l) H):tCompR (gName 0) tYes te σ0 J H1 Q:=by
 intro l hl
 refine⟨fun i m σ H=>m=n - i∧i≤n∧Same H1 H∧(∃ vs,H l=some (.lst vs)∧vs.length=i∧∀ j v,vs[j]? = some v→G l j v H)∧∀ o,σ.set 0 o=σ0.set 0 o,⟨n,by simp,Nat.zero_le _,same_upd hl _,⟨[],upd_same,rfl,fun j v z=>by simp at z⟩,fun _=>rfl⟩,?_⟩
 rintro i m σ H ⟨rfl,hi,sm,⟨vs,hL,hvl,hvs⟩,hσ⟩
 by_cases lt:i < n
 ·refine .inr ⟨hgo i H sm lt,fun x H' y=>?_⟩
  obtain⟨rfl,rfl⟩:=hy i H x H' sm lt y
  unfold gName tYes
  dsimp only
  rw[hσ,if_pos rfl]
  refine hE i H' l vs lt sm hl hL _ fun v H3 s3 hv=>⟨vs,s3 _ _ hL,by omega,n - (i+1),by omega,rfl,lt,same_upd2 hl (sm.trans s3) _,⟨vs++[v],upd_same,by rw[List.length_append,hvl];rfl,fun j u hj=>?_⟩,fun o=>List.set_set _⟩
  by_cases c:j < vs.length
  ·rw[List.getElem?_append_left c] at hj
   exact hU l j u H3 _ _ (hG l j u H' H3 (hvs j u hj) s3) (s3 _ _ hL)
  ·rw[List.getElem?_append_right (by omega)] at hj
   have e:j - vs.length=0:=by
    cases q:j - vs.length with
    | zero=>rfl
    | succ k=>rw[q] at hj;simp at hj
   rw[e] at hj
   have e2:v=u:=by simpa using hj
   subst e2
   have e3:j=i:=by omega
   subst e3
   exact hU l j v H3 _ _ hv (s3 _ _ hL)
 ·have e:i=n:=by omega
  subst e
  exact .inl ⟨hstop H sm,hQ l H vs sm hl hL hvl hvs⟩
theorem comp_someL{K:PySem.W.Frag}{te:TE}{σ0:St}{H1:Hp}{Q:V→Hp→Prop}{a:Addr}{xs:List V}(G:Addr→Nat→V→Hp→Prop)(hS:SqL K H1 a xs)(hn:xs.length≤sizeLine)
  (hG:∀ l i v H H',G l i v H→Same H H'→G l i v H') (hU:∀ l i v H xs ys,G l i v H→H l=some (.lst xs)→G l i v (upd H l (.lst ys)))
  (hE:∀ i x H l vs,xs[i]? = some x→Same H1 H→H1 l=none→H l=some (.lst vs)→∀ R:V→Hp→Prop,(∀ v H',Same H H'→G l i v H'→R v H')→te (σ0.set 0 (some x)) H R)
  (hQ:∀ l H vs,Same H1 H→H1 l=none→H l=some (.lst vs)→vs.length=xs.length→(∀ i v,vs[i]? = some v→G l i v H)→Q (.ref l) H):tCompR (gName 0) tYes te σ0 (Itl K a) H1 Q:=by
 have at_:∀ i,i < xs.length→xs[i]? = some (xs.getD i .non):=fun i h=>by
  rw[List.getD_eq_getElem?_getD,List.getElem?_eq_getElem h]
  rfl
 refine comp_someJ xs.length (fun i=>xs.getD i .non) G hn (fun i H sm h=>⟨xs,_,sm.seq hS,at_ i h⟩) (fun H sm=>⟨xs,sm.seq hS,Nat.le_refl _⟩)
  (fun i H x H' sm h y=>⟨y.1,?_⟩) hG hU (fun i H l vs h sm hl hL=>hE i _ H l vs (at_ i h) sm hl hL) hQ
 have e:=y.2 xs (sm.seq hS)
 rw[at_ i h] at e
 exact(Option.some.inj e).symm
theorem Same.seqT{K:PySem.W.Frag}{H H':Hp}{a:Addr}{xs:List V}(e:Same H H')(h:SqT K H a xs):SqT K H' a xs:=by
 rcases h with(h | ⟨o,h⟩) | h
 ·exact .inl (.inl (e _ _ h))
 ·exact .inl (.inr ⟨o,e _ _ h⟩)
 ·exact .inr h
end L2
namespace L2
open PySem PySem.Spec PyProof.Rows
end L2
namespace L2
open PySem PySem.Spec PyProof.Rows
section
variable{X:Cx}{CX:CXT}{k:Nat}{C:Addr}{E:XK}{x m:Str}{p pos apos:Pos}{e o:Expr}{es:List Expr}{ta:TE}{t:TA}
end
end L2
namespace My
open PySem L2
theorem pickA{α:Type}(xs:List α)(m:Int)(hm:m=(xs.length:Int))(h0:0 < xs.length)(z:Int):∃ v,v∈xs∧atI xs (z % m)=some v:=by
 subst hm
 have a0:0≤z % (xs.length:Int):=Int.emod_nonneg _ (by omega)
 have a1:z % (xs.length:Int) < xs.length:=Int.emod_lt_of_pos _ (by omega)
 obtain⟨k,hk⟩:=Int.eq_ofNat_of_zero_le a0
 rw[hk] at a1 ⊢
 have hk':k < xs.length:=by omega
 exact⟨xs[k],List.getElem_mem hk',atI_nat (List.getElem?_eq_getElem hk')⟩
theorem fits3(n:Nat)(h:n≤1000):n≤sizeLine:=by rw[sizeLine_eq];omega
theorem item_at{ns:List Int}{k:Int}(h:0 < ns.length):∃ v:Int,atI (ns.map V.int) (k % (((ns.map V.int).length:Nat):Int))=some (.int v):=by
 obtain⟨v,hv,e⟩:=pickA (ns.map V.int) _ rfl (by rw[List.length_map];exact h) k
 obtain⟨n,_,rfl⟩:=List.mem_map.mp hv
 exact⟨n,e⟩
section
variable{P:Program}{w:World}{K:PySem.W.Frag}{mg:Str→Option Value}{base:Heap}
structure Lib(P:Program)(w:World)(K:PySem.W.Frag)(mg:Str→Option Value)(base:Heap)(k:Nat)(x:Str)(ps:List Str)(sp:Sp)(f:Addr)(fd:FuncData):Prop where
 ok:FnOk P w K mg base CX0 k f fd ps sp
 bd:Binds K fd ps []
 kp:PySem.W.keepIn K (.ref f)=true
 mg:mg x=some (.ref f)
end
end My
namespace My
open PySem L2
def p4{α:Type}(a b c d:α):Fin 4→α:=fun i=>match i with | 0=>a | 1=>b | 2=>c | 3=>d
def wd:Fin 4→Str:=p4 "free" "follow" "cut" "beat"
theorem wd_inj:∀ i j:Fin 4,wd i=wd j→i=j:=by decide +kernel
section
variable{P:Program}{w:World}{K:PySem.W.Frag}{mg:Str→Option Value}{base:Heap}{f g:Addr}{fd gd:FuncData}
end
end My
namespace My
open PySem L2
end My
namespace L2
open PySem PySem.Spec PyProof.Rows
section
variable{prog:Program}{w:World}{A:Around}{E:Value→Shared→Prop}{s:Shared}
end
section
variable{X:Cx}{e st:Expr}{te:TE}{lo:Option Expr}{tl ts:TO}{pos p2:Pos}
end
end L2
namespace My
open PySem L2 PySem.Spec PyProof.Rows
def vN(ys:List Nat):List V:=ys.map fun c=>V.int (c:Nat)
theorem vN_len(ys:List Nat):(vN ys).length=ys.length:=List.length_map _
theorem vN_ints(ys:List Nat):vN ys=(ys.map fun c=>((c:Nat):Int)).map V.int:=by unfold vN;rw[List.map_map];rfl
structure Fx where
 s:Nat
 h:Nat
 n:Nat
 d:_root_.Fin 4
 pl:List Nat
 tr:List Nat
structure Fx.Ok(f:Fx):Prop where
 s1:1≤f.s
 s4:f.s≤4
 h1:1≤f.h
 h8:f.h≤8
 n34:f.n=3∨f.n=4
 pp:f.pl.Perm (List.range f.h)
 pt:f.tr.Perm (List.range f.h)
theorem perm_len{l:List Nat}{h:Nat}(p:l.Perm (List.range h)):l.length=h:=by rw[p.length_eq,List.length_range]
end My
namespace My
open PySem L2
def top(i:Nat):Stmt:=PySem.Challenge.pw_trickproof_k31_places_turned.main.body.getD i (.Pass ⟨0,0,0,0⟩)
section
variable{P:Program}{w:World}{K:PySem.W.Frag}{mg:Str→Option Value}{base:Heap}{f g:Addr}{fd gd:FuncData}
end
end My
namespace My
open PySem L2
end My
namespace My
open PySem L2
section
variable{P:Program}{w:World}{K:PySem.W.Frag}{mg:Str→Option Value}{base:Heap}{f g:Addr}{fd gd:FuncData}
end
end My
namespace My
open PySem L2
section
variable{P:Program}{w:World}{K:PySem.W.Frag}{mg:Str→Option Value}{base:Heap}{f g:Addr}{fd gd:FuncData}
end
end My
namespace My
open PySem L2
def packL(s h:Nat):List Nat:=(List.range s).flatMap fun u=>(List.range h).map fun v=>8 * u+v
end My
namespace L2
open PySem PySem.Spec PyProof.Rows
end L2
namespace My
open PySem L2
def pos(x:Nat):List Nat→Nat
 | []=>0
 | y :: l=>if y=x then 0 else pos x l+1
theorem pos_at{x:Nat}:∀{l:List Nat},x∈l→l[pos x l]? = some x∧∀ m < pos x l,l[m]?≠some x
 | [],h=>nomatch h
 | y :: l,h=>by
  unfold pos
  by_cases c:y=x
  ·rw[if_pos c]
   exact⟨by rw[c];rfl,fun m hm=>absurd hm (Nat.not_lt_zero _)⟩
  ·rw[if_neg c]
   have hl:x∈l:=by
    rcases List.mem_cons.mp h with e | e
    ·exact absurd e.symm c
    ·exact e
   obtain⟨a,b⟩:=pos_at hl
   refine⟨a,fun m hm=>?_⟩
   cases m with
   | zero=>exact fun z=>c (Option.some.inj z)
   | succ m=>exact b m (by omega)
theorem pos_inj{l:List Nat}{x y:Nat}(hx:x∈l)(hy:y∈l)(e:pos x l=pos y l):x=y:=by
 have a:=(pos_at hx).1
 have b:=(pos_at hy).1
 rw[e,b] at a
 exact(Option.some.inj a).symm
def overB(f:Fx)(t:Option Nat)(c o led:Nat):Bool:=
 if c / 8=o / 8 then decide (c / 8=led∨t=some (c / 8)) && decide (pos (o % 8) (if t=some (c / 8) then f.tr else f.pl) < pos (c % 8) (if t=some (c / 8) then f.tr else f.pl))
 else if t=some (c / 8) then true else decide (c / 8=led) && !decide (t=some (o / 8))
theorem ov_same{f:Fx}{t:Option Nat}{c o led:Nat}(h:c / 8=o / 8):overB f t c o led=(decide (c / 8=led∨t=some (c / 8)) && decide (pos (o % 8) (if t=some (c / 8) then f.tr else f.pl) < pos (c % 8) (if t=some (c / 8) then f.tr else f.pl))):=if_pos h
theorem ov_diff{f:Fx}{t:Option Nat}{c o led:Nat}(h:¬ c / 8=o / 8):overB f t c o led=(if t=some (c / 8) then true else decide (c / 8=led) && !decide (t=some (o / 8))):=if_neg h
theorem over_strong{f:Fx}(ok:f.Ok){t:Option Nat}{c o led:Nat}(hc:c % 8 < f.h)(ho:o % 8 < f.h)(ne:c≠o)(s1:c / 8=led∨t=some (c / 8))(s2:o / 8=led∨t=some (o / 8)):overB f t c o led=true∨overB f t o c led=true:=by
 by_cases s:c / 8=o / 8
 ·rw[ov_same s,ov_same s.symm,← s,decide_eq_true s1,Bool.true_and,Bool.true_and,decide_eq_true_eq,decide_eq_true_eq]
  have hmem:∀ x,x < f.h→x∈(if t=some (c / 8) then f.tr else f.pl):=fun x hx=>by
   split
   ·exact ok.pt.symm.subset (List.mem_range.mpr hx)
   ·exact ok.pp.symm.subset (List.mem_range.mpr hx)
  have np:pos (c % 8) (if t=some (c / 8) then f.tr else f.pl)≠pos (o % 8) (if t=some (c / 8) then f.tr else f.pl):=fun z=>by
   have:=pos_inj (hmem _ hc) (hmem _ ho) z
   omega
  omega
 ·rw[ov_diff s,ov_diff (fun z=>s z.symm)]
  by_cases c1:t=some (c / 8)
  ·exact .inl (if_pos c1)
  ·by_cases c2:t=some (o / 8)
   ·exact .inr (if_pos c2)
   ·exfalso
    rcases s1 with s1 | s1
    ·rcases s2 with s2 | s2
     ·omega
     ·exact c2 s2
    ·exact c1 s1
theorem ix_vN{l:List Nat}{x:Nat}(h:x∈l):(l.map fun c=>((c:Nat):Int))[pos x l]? = some ((x:Nat):Int)∧∀ m < pos x l,(l.map fun c=>((c:Nat):Int))[m]?≠some ((x:Nat):Int):=by
 obtain⟨a,b⟩:=pos_at h
 refine⟨by rw[List.getElem?_map,a];rfl,fun m hm z=>?_⟩
 rw[List.getElem?_map] at z
 cases e:l[m]? with
 | none=>rw[e] at z;cases z
 | some y=>
  rw[e] at z
  have:((y:Nat):Int)=(x:Nat):=Option.some.inj z
  have ey:y=x:=by omega
  rw[ey] at e
  exact b m hm e
end My
namespace My
open PySem L2
section
variable{P:Program}{w:World}{K:PySem.W.Frag}{mg:Str→Option Value}{base:Heap}{f g:Addr}{fd gd:FuncData}
theorem chg{a b:Bool}{A B:Prop}(e:a=b)(h:if b=true then A else B):if a=true then A else B:=by rw[e];exact h
end
end My
namespace L2
open PySem PySem.Spec PyProof.Rows
open AutoSeq1 (wpAny_loadPart')
section
variable{prog:Program}{w:World}{A:Around}{E:Value→Shared→Prop}{s:Shared}{it t:Addr}{i:Nat}{items:Array Value}
end
section
variable{X:Cx}
end
end L2
namespace My
open PySem L2
theorem pos_le(x:Nat):∀ l:List Nat,pos x l≤l.length
 | []=>Nat.le_refl _
 | y :: l=>by
  unfold pos
  have:=pos_le x l
  split
  ·exact Nat.zero_le _
  ·exact Nat.succ_le_succ this
def rk(f:Fx)(t:Option Nat)(led c:Nat):Nat:=
 if t=some (c / 8) then 20+pos (c % 8) f.tr else if c / 8=led then 10+pos (c % 8) f.pl else 0
theorem over_rk{f:Fx}(ok:f.Ok)(t:Option Nat)(c o led:Nat):overB f t c o led=decide (rk f t led o < rk f t led c):=by
 have l1:∀ x,pos x f.tr≤8:=fun x=>Nat.le_trans (pos_le x _) (by rw[perm_len ok.pt];exact ok.h8)
 have l2:∀ x,pos x f.pl≤8:=fun x=>Nat.le_trans (pos_le x _) (by rw[perm_len ok.pp];exact ok.h8)
 have a1:=l1 (c % 8)
 have a2:=l1 (o % 8)
 have a3:=l2 (c % 8)
 have a4:=l2 (o % 8)
 unfold rk
 by_cases s:c / 8=o / 8
 ·rw[ov_same s,← s]
  by_cases c1:t=some (c / 8)
  ·rw[if_pos c1,if_pos c1,if_pos c1,decide_eq_true (Or.inr c1),Bool.true_and]
   exact decide_eq_decide.mpr ⟨fun h=>by omega,fun h=>by omega⟩
  ·rw[if_neg c1,if_neg c1,if_neg c1]
   by_cases c2:c / 8=led
   ·rw[if_pos c2,if_pos c2,decide_eq_true (Or.inl c2),Bool.true_and]
    exact decide_eq_decide.mpr ⟨fun h=>by omega,fun h=>by omega⟩
   ·rw[if_neg c2,if_neg c2,decide_eq_false (fun z=>z.elim c2 c1),Bool.false_and]
    exact(decide_eq_false (Nat.lt_irrefl 0)).symm
 ·rw[ov_diff s]
  by_cases c1:t=some (c / 8)
  ·have c2:¬ t=some (o / 8):=fun z=>s (by rw[c1] at z;exact Option.some.inj z)
   rw[if_pos c1,if_pos c1,if_neg c2]
   refine(decide_eq_true ?_).symm
   split<;>omega
  ·rw[if_neg c1,if_neg c1]
   by_cases c2:t=some (o / 8)
   ·rw[if_pos c2,decide_eq_true c2]
    show(decide (c / 8=led) && false)=_
    rw[Bool.and_false]
    refine(decide_eq_false ?_).symm
    split<;>omega
   ·rw[if_neg c2,decide_eq_false c2]
    show(decide (c / 8=led) && true)=_
    rw[Bool.and_true]
    by_cases c3:c / 8=led
    ·rw[if_pos c3,if_neg (fun z=>s (c3.trans z.symm)),decide_eq_true c3]
     exact(decide_eq_true (by omega)).symm
    ·rw[if_neg c3,decide_eq_false c3]
     exact(decide_eq_false (Nat.not_lt_zero _)).symm
theorem rk_inj{f:Fx}(ok:f.Ok){t:Option Nat}{led c o:Nat}(hc:c % 8 < f.h)(ho:o % 8 < f.h)(h10:10≤rk f t led c)(e:rk f t led c=rk f t led o):c=o:=by
 by_cases ne:c=o
 ·exact ne
 ·exfalso
  have l1:∀ x,pos x f.tr≤8:=fun x=>Nat.le_trans (pos_le x _) (by rw[perm_len ok.pt];exact ok.h8)
  have l2:∀ x,pos x f.pl≤8:=fun x=>Nat.le_trans (pos_le x _) (by rw[perm_len ok.pp];exact ok.h8)
  have st:∀ c,10≤rk f t led c→c / 8=led∨t=some (c / 8):=fun c h=>by
   unfold rk at h
   by_cases c1:t=some (c / 8)
   ·exact .inr c1
   ·rw[if_neg c1] at h
    by_cases c2:c / 8=led
    ·exact .inl c2
    ·rw[if_neg c2] at h
     omega
  rcases over_strong ok (t:=t) (led:=led) hc ho ne (st c h10) (st o (by omega)) with z | z
  ·rw[over_rk ok,decide_eq_true_eq] at z
   omega
  ·rw[over_rk ok,decide_eq_true_eq] at z
   omega
theorem rk_led(f:Fx)(t:Option Nat)(c:Nat):10≤rk f t (c / 8) c:=by
 unfold rk
 by_cases c1:t=some (c / 8)
 ·rw[if_pos c1];omega
 ·rw[if_neg c1,if_pos rfl];omega
def Win(f:Fx)(t:Option Nat)(led:Nat)(ys:List Nat)(h:Nat):Prop:=∃ m,ys[h]? = some m∧∀ c∈ys,c≠m→overB f t m c led=true
structure Trk(f:Fx)(ys:List Nat):Prop where
 nd:ys.Nodup
 ht:∀ c∈ys,c % 8 < f.h
 ne:0 < ys.length
def ledOf(ys:List Nat):Nat:=ys.getD 0 0 / 8
theorem win_of{f:Fx}(ok:f.Ok){t:Option Nat}{ys:List Nat}(T:Trk f ys){h:Nat}(hh:h < ys.length)(hm:∀ j,j < ys.length→rk f t (ledOf ys) (ys.getD j 0)≤rk f t (ledOf ys) (ys.getD h 0)):Win f t (ledOf ys) ys h:=by
 have at_:∀ i,i < ys.length→ys[i]? = some (ys.getD i 0):=fun i hi=>by rw[List.getD_eq_getElem?_getD,List.getElem?_eq_getElem hi];rfl
 refine⟨_,at_ h hh,fun c hc n=>?_⟩
 obtain⟨j,hj,e⟩:=List.mem_iff_getElem.mp hc
 have ej:ys.getD j 0=c:=by rw[List.getD_eq_getElem?_getD,List.getElem?_eq_getElem hj,e];rfl
 have m0:=rk_led f t (ys.getD 0 0)
 have m1:=hm 0 T.ne
 have mj:=hm j hj
 rw[ej] at mj
 have hmem:ys.getD h 0∈ys:=List.mem_of_getElem? (at_ h hh)
 rw[over_rk ok,decide_eq_true_eq]
 rcases Nat.lt_or_eq_of_le mj with z | z
 ·exact z
 ·exact absurd (rk_inj ok (T.ht _ hmem) (T.ht c hc) (Nat.le_trans m0 m1) z.symm).symm n
theorem nd_at{ys:List Nat}(nd:ys.Nodup){i j:Nat}{c:Nat}(a:ys[i]? = some c)(b:ys[j]? = some c):i=j:=by
 obtain⟨hi,ei⟩:=List.getElem?_eq_some_iff.mp a
 obtain⟨hj,ej⟩:=List.getElem?_eq_some_iff.mp b
 have pw:=List.pairwise_iff_getElem.mp nd
 rcases Nat.lt_trichotomy i j with z | z | z
 ·exact absurd (ei.trans ej.symm) (pw i j hi hj z)
 ·exact z
 ·exact absurd (ej.trans ei.symm) (pw j i hj hi z)
end My
namespace My
open PySem
def cardsN(h:Nat):List Nat:=(List.range 32).filter h.testBit
def pcK(k h:Nat):Nat:=((List.range k).filter h.testBit).length
theorem cards_lt{h c:Nat}(hc:c∈cardsN h):c < 32:=List.mem_range.mp (List.mem_filter.mp hc).1
end My
namespace My
theorem cards_end{h i:Nat}(hi:i≤32)(hz:h / 2 ^ i=0):(List.range i).filter h.testBit=cardsN h:=by
 unfold cardsN
 have hl:h < 2 ^ i:=by
  rcases Nat.div_eq_zero_iff.mp hz with e | e
  ·have:0 < 2 ^ i:=Nat.pow_pos (by decide)
   omega
  ·exact e
 have e32:32=i+(32 - i):=by omega
 rw[e32,List.range_add,List.filter_append]
 have e:List.filter h.testBit ((List.range (32 - i)).map (i + ·))=[]:=by
  rw[List.filter_eq_nil_iff]
  intro a ha
  obtain⟨b,_,rfl⟩:=List.mem_map.mp ha
  rw[Nat.testBit_lt_two_pow (Nat.lt_of_lt_of_le hl (Nat.pow_le_pow_right (by decide) (by omega)))]
  exact Bool.false_ne_true
 rw[e,List.append_nil]
theorem cards_step(h i:Nat):(List.range (i+1)).filter h.testBit=(List.range i).filter h.testBit++(if h / 2 ^ i % 2=1 then [i] else []):=by
 rw[List.range_succ,List.filter_append]
 have e:h.testBit i=decide (h / 2 ^ i % 2=1):=Nat.testBit_eq_decide_div_mod_eq
 by_cases o:h / 2 ^ i % 2=1
 ·rw[if_pos o,List.filter_cons_of_pos (by rw[e];exact decide_eq_true o),List.filter_nil]
 ·rw[if_neg o,List.filter_cons_of_neg (by rw[e,decide_eq_false o];exact Bool.false_ne_true),List.filter_nil]
theorem small_pos{h i:Nat}(h32:h < 4294967296)(hi:i≤32)(hp:0 < h / 2 ^ i):i < 32:=by
 rcases Nat.lt_or_ge i 32 with e | e
 ·exact e
 ·have:i=32:=by omega
  subst this
  have:h / 2 ^ 32=0:=Nat.div_eq_of_lt h32
  omega
def orAll(cs:List Nat)(a:Nat):Nat:=cs.foldl (fun a c=>a ||| 2 ^ c) a
theorem orAll_bit:∀(cs:List Nat) (a i:Nat),(orAll cs a).testBit i=(a.testBit i || decide (i∈cs))
 | [],a,i=>by simp [orAll]
 | c :: r,a,i=>by
  show(orAll r (a ||| 2 ^ c)).testBit i=_
  rw[orAll_bit r,Nat.testBit_or,Nat.testBit_two_pow]
  by_cases e:c=i
  ·subst e;simp
  ·have e2:i≠c:=fun z=>e z.symm
   simp [e,e2]
theorem mem_cards{h i:Nat}(hh:h < 4294967296):i∈cardsN h↔h.testBit i=true:=by
 unfold cardsN
 rw[List.mem_filter,List.mem_range]
 constructor
 ·exact fun z=>z.2
 ·intro z
  refine⟨?_,z⟩
  rcases Nat.lt_or_ge i 32 with e | e
  ·exact e
  ·rw[Nat.testBit_lt_two_pow (Nat.lt_of_lt_of_le hh (Nat.pow_le_pow_right (n:=2) (by decide) e))] at z
   cases z
theorem orAll_snoc(cs:List Nat)(c a:Nat):orAll (cs++[c]) a=orAll cs a ||| 2 ^ c:=by unfold orAll;rw[List.foldl_append];rfl
end My
namespace My
open PySem L2
def hN(cs:List Nat):Nat:=orAll cs 0
theorem hN_bit(cs:List Nat)(i:Nat):(hN cs).testBit i=decide (i∈cs):=by
 unfold hN
 rw[orAll_bit,Nat.zero_testBit,Bool.false_or]
theorem hN_ext{a b:List Nat}(h:∀ i,i∈a↔i∈b):hN a=hN b:=by
 refine Nat.eq_of_testBit_eq fun i=>?_
 rw[hN_bit,hN_bit]
 exact decide_eq_decide.mpr (h i)
theorem hN_lt{cs:List Nat}(h:∀ c∈cs,c < 32):hN cs < 4294967296:=by
 refine Nat.lt_pow_two_of_testBit (n:=32) (hN cs) fun i hi=>?_
 rw[hN_bit]
 exact decide_eq_false fun m=>by have:=h i m;omega
theorem hN_cards{cs:List Nat}(h:∀ c∈cs,c < 32)(i:Nat):i∈cardsN (hN cs)↔i∈cs:=by
 rw[mem_cards (hN_lt h),hN_bit,decide_eq_true_eq]
theorem hN_snoc(cs:List Nat)(c:Nat):hN (cs++[c])=hN cs ||| 2 ^ c:=orAll_snoc cs c 0
theorem hN_cons{c:Nat}{cs:List Nat}(h:c∉cs):hN (c :: cs)=2 ^ c+hN cs:=by
 have e:hN (c :: cs)=hN cs ||| 2 ^ c:=by
  rw[← hN_snoc]
  exact hN_ext fun i=>by rw[List.mem_cons,List.mem_append,List.mem_singleton];exact Or.comm
 rw[e]
 have z:hN cs &&& 2 ^ c=0:=by
  refine Nat.eq_of_testBit_eq fun i=>?_
  rw[Nat.testBit_and,hN_bit,Nat.testBit_two_pow,Nat.zero_testBit]
  by_cases q:c=i
  ·subst q
   rw[decide_eq_false h]
   rfl
  ·rw[decide_eq_false q,Bool.and_false]
 have k:=PyProof.Rows.nat_or_add_and (hN cs) (2 ^ c)
 rw[z] at k
 omega
theorem hN_sum:∀{cs:List Nat},cs.Nodup→(cs.map fun c=>2 ^ c).sum=hN cs
 | [],_=>rfl
 | c :: cs,nd=>by
  obtain⟨n1,n2⟩:=List.nodup_cons.mp nd
  rw[List.map_cons,List.sum_cons,hN_sum n2,hN_cons n1]
def folL(s:Nat)(cs:List Nat):List Nat:=cs.filter fun c=>decide (c / 8=s)
def orL(a b:List Nat):List Nat:=if a=[] then b else a
def trL(t:Option Nat)(cs:List Nat):List Nat:=match t with | none=>[] | some u=>folL u cs
def cutL(t:Option Nat)(led:Nat)(cs:List Nat):List Nat:=orL (folL led cs) (orL (trL t cs) cs)
def topL(f:Fx)(t:Option Nat)(ys cs:List Nat):List Nat:=cs.filter fun c=>ys.all fun o=>overB f t c o (ledOf ys)
def alw(d:_root_.Fin 4)(f:Fx)(t:Option Nat)(ys cs:List Nat):List Nat:=match d with
 | 0=>cs
 | 1=>orL (folL (ledOf ys) cs) cs
 | 2=>cutL t (ledOf ys) cs
 | 3=>orL (topL f t ys (cutL t (ledOf ys) cs)) (cutL t (ledOf ys) cs)
theorem orL_sub{a b cs:List Nat}(ha:∀ c∈a,c∈cs)(hb:∀ c∈b,c∈cs):∀ c∈orL a b,c∈cs:=fun c hc=>by
 unfold orL at hc
 by_cases z:a=[]
 ·rw[if_pos z] at hc;exact hb c hc
 ·rw[if_neg z] at hc;exact ha c hc
theorem folL_sub(s:Nat)(cs:List Nat):∀ c∈folL s cs,c∈cs:=fun c hc=>(List.mem_filter.mp hc).1
theorem trL_sub(t:Option Nat)(cs:List Nat):∀ c∈trL t cs,c∈cs:=fun c hc=>by
 cases t with
 | none=>exact nomatch hc
 | some u=>exact folL_sub u cs c hc
theorem cutL_sub(t:Option Nat)(led:Nat)(cs:List Nat):∀ c∈cutL t led cs,c∈cs:=orL_sub (folL_sub _ _) (orL_sub (trL_sub _ _) fun _ h=>h)
theorem alw_sub(d:_root_.Fin 4)(f:Fx)(t:Option Nat)(ys cs:List Nat):∀ c∈alw d f t ys cs,c∈cs:=by
 match d with
 | 0=>exact fun _ h=>h
 | 1=>exact orL_sub (folL_sub _ _) fun _ h=>h
 | 2=>exact cutL_sub _ _ _
 | 3=>exact orL_sub (fun c hc=>cutL_sub _ _ _ c (List.mem_filter.mp hc).1) (cutL_sub _ _ _)
theorem orL_nd{a b:List Nat}(ha:a.Nodup)(hb:b.Nodup):(orL a b).Nodup:=by
 unfold orL
 split
 ·exact hb
 ·exact ha
theorem folL_nd{s:Nat}{cs:List Nat}(h:cs.Nodup):(folL s cs).Nodup:=h.filter _
theorem cutL_nd{t:Option Nat}{led:Nat}{cs:List Nat}(h:cs.Nodup):(cutL t led cs).Nodup:=by
 refine orL_nd (folL_nd h) (orL_nd ?_ h)
 cases t with
 | none=>exact List.nodup_nil
 | some u=>exact folL_nd h
theorem alw_nd{d:_root_.Fin 4}{f:Fx}{t:Option Nat}{ys cs:List Nat}(h:cs.Nodup):(alw d f t ys cs).Nodup:=by
 match d with
 | 0=>exact h
 | 1=>exact orL_nd (folL_nd h) h
 | 2=>exact cutL_nd h
 | 3=>exact orL_nd ((cutL_nd h).filter _) (cutL_nd h)
end My
namespace My
open PySem L2
abbrev sCardsIn:Stmt:=top 2
abbrev sHandOf:Stmt:=top 3
def cardsV(h:Nat):List V:=(cardsN h).map fun c=>V.int (c:Nat)
theorem vN_app(xs ys:List Nat):vN xs++vN ys=vN (xs++ys):=(List.map_append).symm
theorem vN_get{ys:List Nat}{i:Nat}{x:V}(h:(vN ys)[i]? = some x):∃ c,ys[i]? = some c∧x = .int (c:Nat):=by
 unfold vN at h
 rw[List.getElem?_map] at h
 cases e:ys[i]? with
 | none=>rw[e] at h;cases h
 | some c=>rw[e] at h;cases h;exact⟨c,rfl,rfl⟩
theorem or_pp{x y:Int}(hx:0≤x)(hy:0≤y):Builtin.bitOr x y=((x.toNat ||| y.toNat:Nat):Int):=by
 rw[PyProof.Rows.bitOr_and,PyProof.Rows.bitAnd_pp hx hy]
 have:=PyProof.Rows.nat_or_add_and x.toNat y.toNat
 omega
theorem or_nat(a c:Nat):Builtin.bitOr (a:Int) (1 * 2 ^ ((c:Nat):Int).toNat)=((a ||| 2 ^ c:Nat):Int):=by
 have e:(1:Int) * 2 ^ ((c:Nat):Int).toNat=((2 ^ c:Nat):Int):=by
  rw[Int.one_mul,Int.toNat_natCast,Int.natCast_pow];rfl
 rw[e,or_pp (Int.natCast_nonneg _) (Int.natCast_nonneg _),Int.toNat_natCast,Int.toNat_natCast]
theorem and1(a:Nat):Builtin.bitAnd (a:Int) 1=((a % 2:Nat):Int):=by
 rw[PyProof.Rows.bitAnd_pp (Int.natCast_nonneg _) (by decide),Int.toNat_natCast]
 exact congrArg _ (Nat.and_one_is_mod a)
theorem shr1(h i:Nat):((h / 2 ^ i:Nat):Int) / 2 ^ ((1:Int).toNat)=((h / 2 ^ (i+1):Nat):Int):=by
 rw[Nat.pow_succ,← Nat.div_div_eq_div_mul]
 show((h / 2 ^ i:Nat):Int) / 2=_
 omega
theorem filter_short(h n:Nat):((List.range n).filter h.testBit).length≤n:=by
 have:=List.length_filter_le h.testBit (List.range n)
 rwa [List.length_range] at this
section
variable{P:Program}{w:World}{K:PySem.W.Frag}{mg:Str→Option Value}{base:Heap}{f g:Addr}{fd gd:FuncData}
def spCardsIn(K:PySem.W.Frag):Sp:=fun vs H Q _=>∃ h:Nat,vs=[.int h]∧h < 4294967296∧∀ l H',Same H H'→H l=none→H' l=some (.lst (cardsV h))→Q (.ref l) H'
theorem scCardsIn:FnScope ["hand","cards","card"] ["hand"] (defScope sCardsIn):=⟨rfl,rfl,rfl,by decide +kernel,rfl,by decide +kernel,by decide +kernel⟩
theorem ok_cardsIn{k:Nat}(F:Fun K "cards_in" "cards_in" sCardsIn f fd):FnOk P w K mg base CX0 (k+1) f fd ["hand"] (spCardsIn K):=by
 refine F.ok scCardsIn (fun vs H Q E h=>?_) (fun cdv A outer s H vs Q E hr h=>?_)
 ·obtain⟨h,rfl,_⟩:=h
  rfl
 obtain⟨h,rfl,h32,q⟩:=h
 refine⟨_,pss_cons (ps_set (i:=1) scCardsIn.nd rfl (Or.inl rfl) (pe_lst pa_nil))
  (pss_cons (ps_set (i:=2) scCardsIn.nd rfl (Or.inl rfl) pe_int)
  (pss_cons (ps_while PassesOwn.never (pt_cmpR op_gt (pv 0) pe_int (nomark _))
   (pss_cons (ps_if (pt_cmpR op_eq (pe_op op_and (pv 0) pe_int) pe_int (nomark _)) (pss_one (ps_expr (pe_bm PySem.F.plainAttrs_list PySem.F.slot_list_append PySem.F.type_list_append mt_append (pv 1) (pa_cons (pv 2) pa_nil)))) pss_nil)
   (pss_cons (ps_set (i:=0) scCardsIn.nd rfl (Or.inl rfl) (pe_op op_shr (pv 0) pe_int))
   (pss_one (ps_set (i:=2) scCardsIn.nd rfl (Or.inl rfl) (pe_op op_add (pv 2) pe_int))))))
  (pss_one (ps_ret (pv 1))))),?_⟩
 refine⟨Nat.zero_le _,fun l hl=>?_⟩
 refine while_by (fun σ H'=>∃ i:Nat,σ=[some (.int ((h / 2 ^ i:Nat):Int)),some (.ref l),some (.int (i:Nat))]∧i≤32∧Same H H'∧H' l=some (.lst (vN ((List.range i).filter h.testBit))))
  (fun σ _=>match σ with | [_,_,some (.int i)]=>32 - i.toNat | _=>0) ⟨0,?_,Nat.zero_le _,same_upd hl _,upd_same⟩ (fun σ H1 z=>?_) (fun σ H1 R R' m ⟨v,e,i,j,e1,e2,b,e3,r⟩=>⟨v,e,i,j,e1,e2,b,e3,m _ _ r⟩)
 ·rw[Nat.pow_zero,Nat.div_one]
  rfl
 obtain⟨i,rfl,hi,sm,hL⟩:=z
 refine⟨_,rfl,_,_,rfl,rfl,_,rfl,ite2 (fun c=>?_) fun c=>?_⟩
 ·have c':(0:Int) < ((h / 2 ^ i:Nat):Int):=of_decide_eq_true c
  have hi':i < 32:=small_pos h32 hi (by omega)
  refine⟨_,rfl,_,_,rfl,rfl,rfl,_,rfl,ite2 (fun c1=>?_) fun c1=>?_⟩
  ·have o:h / 2 ^ i % 2=1:=by
    have c2:decide (V.int (Builtin.bitAnd ((h / 2 ^ i:Nat):Int) 1)=V.int 1)=true:=c1
    rw[and1] at c2
    have e:=of_decide_eq_true c2
    injection e with e
    omega
   refine⟨_,rfl,.inl ⟨rfl,_,SqL.of hL⟩,_,rfl,l,_,_,rfl,rfl,hL,?_,?_⟩
   ·rw[vN_len]
    exact small1000 (Nat.le_trans (filter_short h i) (by omega))
   refine⟨_,rfl,_,_,rfl,rfl,(show(0:Int)≤1 by decide),_,rfl,_,_,rfl,rfl,⟨i+1,?_,hi',same_upd2 hl sm _,?_⟩,?_⟩
   ·show [some (V.int (((h / 2 ^ i:Nat):Int) / 2 ^ ((1:Int).toNat))),some (V.ref l),some (V.int ((i:Nat)+1))]=_
    rw[shr1]
    rfl
   ·rw[upd_same,cards_step,if_pos o,← vN_app]
    rfl
   ·show 32 - (((i:Nat):Int)+1).toNat < 32 - ((i:Nat):Int).toNat
    omega
  ·have o:¬ h / 2 ^ i % 2=1:=by
    intro o
    refine c1 ?_
    show decide (V.int (Builtin.bitAnd ((h / 2 ^ i:Nat):Int) 1)=V.int 1)=true
    rw[and1,o]
    exact decide_eq_true rfl
   refine⟨_,rfl,_,_,rfl,rfl,(show(0:Int)≤1 by decide),_,rfl,_,_,rfl,rfl,⟨i+1,?_,hi',sm,?_⟩,?_⟩
   ·show [some (V.int (((h / 2 ^ i:Nat):Int) / 2 ^ ((1:Int).toNat))),some (V.ref l),some (V.int ((i:Nat)+1))]=_
    rw[shr1]
    rfl
   ·rw[cards_step,if_neg o,List.append_nil]
    exact hL
   ·show 32 - (((i:Nat):Int)+1).toNat < 32 - ((i:Nat):Int).toNat
    omega
 ·have c':¬ (0:Int) < ((h / 2 ^ i:Nat):Int):=of_decide_eq_false (Bool.eq_false_iff.mpr c)
  refine⟨_,rfl,q l H1 sm hl ?_⟩
  have z0:h / 2 ^ i=0:=by
   generalize h / 2 ^ i=n at c'
   omega
  rw[hL,cards_end hi z0]
  rfl
def spHandOf(K:PySem.W.Frag):Sp:=fun vs H Q _=>∃(a:Addr) (cs:List Nat),vs=[.ref a]∧SqL K H a (vN cs)∧(∀ c∈cs,c < 32)∧Q (.int (orAll cs 0:Nat)) H
theorem scHandOf:FnScope ["cards","hand","card"] ["cards"] (defScope sHandOf):=⟨rfl,rfl,rfl,by decide +kernel,rfl,by decide +kernel,by decide +kernel⟩
theorem ok_handOf{k:Nat}(F:Fun K "hand_of" "hand_of" sHandOf f fd):FnOk P w K mg base CX0 (k+1) f fd ["cards"] (spHandOf K):=by
 refine F.ok scHandOf (fun vs H Q E h=>?_) (fun cdv A outer s H vs Q E hr h=>?_)
 ·obtain⟨a,cs,rfl,_⟩:=h
  rfl
 obtain⟨a,cs,rfl,hS,hc,q⟩:=h
 refine⟨_,pss_cons (ps_set (i:=1) scHandOf.nd rfl (Or.inl rfl) pe_int)
  (pss_cons (ps_for PassesOwn.never rfl (pi_list (pv 0)) (pg_name (i:=2) scHandOf.nd rfl (Or.inl rfl)) (pss_one (ps_set (i:=1) scHandOf.nd rfl (Or.inl rfl) (pe_op op_or (pv 1) (pe_op op_shl pe_int (pv 2))))))
  (pss_one (ps_ret (pv 1)))),?_⟩
 refine⟨_,rfl,a,rfl,⟨_,hS⟩,for_list (xs:=vN cs) (fun i σ H2=>H2=H∧∃ x,σ=[some (.ref a),some (.int (orAll (cs.take i) 0:Nat)),x]) ⟨rfl,_,rfl⟩ (fun i σ H2 _ z=>z.1 ▸ hS) (fun i x σ H2 hx z=>?_) (fun σ H2 z=>?_)⟩
 ·obtain⟨rfl,y,rfl⟩:=z
  obtain⟨c,hi,rfl⟩:=vN_get hx
  have c32:=hc c (List.mem_of_getElem? hi)
  refine⟨_,rfl,_,rfl,_,_,rfl,rfl,⟨by omega,by omega,by decide⟩,_,_,rfl,rfl,rfl,some (.int (c:Nat)),?_⟩
  show [some (V.ref a),some (V.int (Builtin.bitOr ((orAll (cs.take i) 0:Nat):Int) (1 * 2 ^ ((c:Nat):Int).toNat))),some (V.int (c:Nat))]=_
  rw[or_nat]
  have e:cs.take (i+1)=cs.take i++[c]:=by
   rw[List.take_add_one,hi]
   rfl
  rw[e,orAll_snoc]
 ·obtain⟨rfl,y,rfl⟩:=z
  refine⟨_,rfl,?_⟩
  rw[vN_len,List.take_length]
  exact q
end
end My
namespace L2
open PySem PySem.Spec PyProof.Rows
theorem pt_truthB{X:Cx}{a:Expr}{ta:TE}(ha:PE X a ta)(he:∀ whole,isTrue a X.env whole=(do let v ← whole;standAt a.pos;holding [v] (truthy v))):PT X a (tTest ta):=by
 intro pins s σ H Q I h
 exact isTrue_plain (thn (ha pins s σ H _ I h) fun v s1 ⟨x,H1,I1,r1,k,e,q1⟩=>tru_ok pins s1 σ H1 x v Q I1 r1 ⟨k,by subst e;rfl,q1⟩) (he _)
theorem comp_tup{K:PySem.W.Frag}{tt:TT}{te:TE}{σ0:St}{H1:Hp}{Q:V→Hp→Prop}{a:Addr}{xs:List V}(p:V→Bool)(f:V→V)(hS:SqT K H1 a xs)(hn:xs.length≤sizeLine)
  (hT:∀ x H,x∈xs→Same H1 H→∀ R:Bool→Hp→Prop,(∀ H',Same H H'→R (p x) H')→tt (σ0.set 0 (some x)) H R)
  (hE:∀ x H,x∈xs→p x=true→Same H1 H→∀ R:V→Hp→Prop,(∀ H',Same H H'→R (f x) H')→te (σ0.set 0 (some x)) H R)
  (hQ:∀ l H,Same H1 H→H1 l=none→H l=some (.lst ((xs.filter p).map f))→Q (.ref l) H):tCompR (gName 0) tt te σ0 (Itt K a) H1 Q:=by
 have at_:∀ i,i < xs.length→xs[i]? = some (xs.getD i .non):=fun i h=>by
  rw[List.getD_eq_getElem?_getD,List.getElem?_eq_getElem h]
  rfl
 have mem:∀ i,i < xs.length→xs.getD i .non∈xs:=fun i h=>List.mem_of_getElem? (at_ i h)
 refine comp_any xs.length (fun i=>xs.getD i .non) (fun i=>p (xs.getD i .non)) (fun i=>f (xs.getD i .non)) hn (fun i H sm h=>⟨xs,_,sm.seqT hS,at_ i h⟩) (fun H sm=>⟨xs,sm.seqT hS,Nat.le_refl _⟩)
  (fun i H x H' sm h y=>⟨y.1,?_⟩) (fun i H h sm=>hT _ H (mem i h) sm) (fun i H h hp sm=>hE _ H (mem i h) hp sm) (fun l H sm hl hL=>hQ l H sm hl ?_)
 ·have e:=y.2 xs (sm.seqT hS)
  rw[at_ i h] at e
  exact(Option.some.inj e).symm
 ·rw[hL,filter_map_range]
end L2
namespace My
open PySem L2
theorem at_vN{ys:List Nat}{i:Nat}(h:i < ys.length):atI (vN ys) (i:Nat)=some (.int ((ys.getD i 0:Nat):Int)):=by
 have e:(vN ys)[i]? = some (.int ((ys.getD i 0:Nat):Int)):=by
  unfold vN
  rw[List.getElem?_map,List.getElem?_eq_getElem h,List.getD_eq_getElem?_getD,List.getElem?_eq_getElem h]
  rfl
 exact atI_nat e
structure Beg(f:Fx)(ys cs:List Nat):Prop where
 ne:0 < ys.length
 len:ys.length≤32
 ys8:∀ c∈ys,c / 8 < 4∧c % 8 < f.h
 cs8:∀ c∈cs,c < 32∧c % 8 < f.h
section
variable{P:Program}{w:World}{K:PySem.W.Frag}{mg:Str→Option Value}{base:Heap}{f g:Addr}{fd gd:FuncData}
def TrB(t:Option Nat):Prop:=∀ u,t=some u→u < 4
end
section
variable{P:Program}{w:World}{K:PySem.W.Frag}{mg:Str→Option Value}{base:Heap}{f g:Addr}{fd gd:FuncData}
end
end My
namespace My
open PySem L2
section
variable{P:Program}{w:World}{K:PySem.W.Frag}{mg:Str→Option Value}{base:Heap}{f g:Addr}{fd gd:FuncData}
end
end My
namespace My
open PySem L2
theorem count_one{p q:Nat→Bool}{c:Nat}:∀{l:List Nat},l.Nodup→c∈l→(∀ b,b≠c→p b=q b)→p c=false→q c=true→(l.filter p).length+1=(l.filter q).length
 | [],_,h,_,_,_=>nomatch h
 | a :: l,nd,h,e,pc,qc=>by
  obtain⟨na,nd'⟩:=List.nodup_cons.mp nd
  by_cases z:a=c
  ·subst z
   rw[List.filter_cons_of_neg (by rw[pc];exact Bool.false_ne_true),List.filter_cons_of_pos qc,List.length_cons]
   congr 2
   exact List.filter_congr fun b hb=>e b fun z=>na (z ▸ hb)
  ·have m:c∈l:=(List.mem_cons.mp h).resolve_left (Ne.symm z)
   have ih:=count_one nd' m e pc qc
   have ea:=e a z
   cases r:q a with
   | true=>rw[r] at ea;rw[List.filter_cons_of_pos ea,List.filter_cons_of_pos r,List.length_cons,List.length_cons,ih]
   | false=>rw[r] at ea;rw[List.filter_cons_of_neg (by rw[ea];exact Bool.false_ne_true),List.filter_cons_of_neg (by rw[r];exact Bool.false_ne_true),ih]
theorem two_bit(c b:Nat):(2 ^ c).testBit b=decide (c=b):=by
 rw[Nat.testBit_two_pow]
theorem xor_bit(h c b:Nat)(hc:h.testBit c=true):(h ^^^ 2 ^ c).testBit b=(!decide (c=b) && h.testBit b):=by
 rw[Nat.testBit_xor,two_bit]
 by_cases e:c=b
 ·subst e
  rw[hc,decide_eq_true rfl]
  rfl
 ·rw[decide_eq_false e]
  cases h.testBit b<;>rfl
theorem pc_xor{h c:Nat}(hc:h.testBit c=true)(c32:c < 32):pcK 32 (h ^^^ 2 ^ c)+1=pcK 32 h:=by
 unfold pcK
 refine count_one (c:=c) List.nodup_range (List.mem_range.mpr c32) (fun b n=>?_) ?_ hc
 ·rw[xor_bit _ _ _ hc,decide_eq_false (Ne.symm n)]
  rfl
 ·rw[xor_bit _ _ _ hc,decide_eq_true rfl]
  rfl
theorem xor_add{h c:Nat}(hc:h.testBit c=true):(h ^^^ 2 ^ c)+2 ^ c=h:=by
 have a:=PyProof.Rows.nat_or_add_and (h ^^^ 2 ^ c) (2 ^ c)
 have e1:(h ^^^ 2 ^ c) ||| 2 ^ c=h:=Nat.eq_of_testBit_eq fun b=>by
  rw[Nat.testBit_or,xor_bit _ _ _ hc,two_bit]
  by_cases e:c=b
  ·subst e
   rw[hc,decide_eq_true rfl]
   rfl
  ·rw[decide_eq_false e]
   cases h.testBit b<;>rfl
 have e2:(h ^^^ 2 ^ c) &&& 2 ^ c=0:=Nat.eq_of_testBit_eq fun b=>by
  rw[Nat.testBit_and,xor_bit _ _ _ hc,two_bit,Nat.zero_testBit]
  by_cases e:c=b
  ·rw[decide_eq_true e]
   rfl
  ·rw[decide_eq_false e,Bool.and_false]
 rw[e1,e2] at a
 omega
theorem lt32{h:Nat}(hb:∀ b,h.testBit b=true→b < 32):h < 4294967296:=by
 refine Nat.lt_pow_two_of_testBit (n:=32) h fun i hi=>?_
 cases e:h.testBit i with
 | false=>rfl
 | true=>exact absurd (hb i e) (by omega)
theorem set_count{α:Type}{p:α→Bool}{x:α}:∀{l:List α} {i:Nat} {a:α},l[i]? = some a→(l.set i x).countP p+(if p a then 1 else 0)=l.countP p+(if p x then 1 else 0)
 | [],_,_,h=>by simp at h
 | b :: l,0,a,h=>by
  have e:b=a:=Option.some.inj h
  subst e
  rw[List.set_cons_zero,List.countP_cons,List.countP_cons]
  omega
 | b :: l,i+1,a,h=>by
  have ih:=set_count (p:=p) (x:=x) (l:=l) (i:=i) (a:=a) h
  rw[List.set_cons_succ,List.countP_cons,List.countP_cons]
  omega
theorem set_sum{α:Type}{g:α→Nat}{x:α}:∀{l:List α} {i:Nat} {a:α},l[i]? = some a→((l.set i x).map g).sum+g a=(l.map g).sum+g x
 | [],_,_,h=>by simp at h
 | b :: l,0,a,h=>by
  have e:b=a:=Option.some.inj h
  subst e
  rw[List.set_cons_zero,List.map_cons,List.map_cons,List.sum_cons,List.sum_cons]
  omega
 | b :: l,i+1,a,h=>by
  have ih:=set_sum (g:=g) (x:=x) (l:=l) (i:=i) (a:=a) h
  rw[List.set_cons_succ,List.map_cons,List.map_cons,List.sum_cons,List.sum_cons]
  omega
def off(n lead i:Nat):Nat:=(i+n - lead) % n
theorem off_seat{n lead k:Nat}(hn:n=3∨n=4)(hl:lead < n)(hk:k < n):off n lead ((lead+k) % n)=k:=by
 have all:∀ n∈[3,4],∀ lead < n,∀ k < n,off n lead ((lead+k) % n)=k:=by decide
 exact all n (by rcases hn with rfl | rfl<;>simp) lead hl k hk
theorem off_back{n lead i:Nat}(hn:n=3∨n=4)(hl:lead < n)(hi:i < n):(lead+off n lead i) % n=i∧off n lead i < n:=by
 have all:∀ n∈[3,4],∀ lead < n,∀ i < n,(lead+off n lead i) % n=i∧off n lead i < n:=by decide
 exact all n (by rcases hn with rfl | rfl<;>simp) lead hl i hi
abbrev cntB(hs ys:List Nat)(b:Nat):Nat:=hs.countP (fun h=>h.testBit b)+ys.count b
structure Plc(f:Fx)(hs:List Nat)(lead:Nat)(ys:List Nat)(m:Nat):Prop where
 len:hs.length=f.n
 ld:lead < f.n
 yl:ys.length < f.n
 one:∀ b,cntB hs ys b≤1
 pk:∀ b,0 < cntB hs ys b→b / 8 < f.s∧b % 8 < f.h
 lv:∀ i h,hs[i]? = some h→pcK 32 h+(if off f.n lead i < ys.length then 1 else 0)=m
section
variable{f:Fx}{hs ys:List Nat}{lead m:Nat}
theorem Plc.b32(ok:f.Ok)(P:Plc f hs lead ys m){b:Nat}(h:0 < cntB hs ys b):b < 32:=by
 have:=P.pk b h
 have:=ok.s4
 have:=ok.h8
 omega
theorem cnt_hand{h b:Nat}(hh:h∈hs)(hb:h.testBit b=true):0 < cntB hs ys b:=Nat.lt_of_lt_of_le (List.countP_pos_iff.mpr ⟨h,hh,hb⟩) (Nat.le_add_right _ _)
theorem cnt_card{c:Nat}(hc:c∈ys):0 < cntB hs ys c:=Nat.lt_of_lt_of_le (List.count_pos_iff.mpr hc) (Nat.le_add_left _ _)
theorem Plc.h32(ok:f.Ok)(P:Plc f hs lead ys m){h:Nat}(hh:h∈hs):h < 4294967296:=lt32 fun b hb=>P.b32 ok (cnt_hand hh hb)
theorem Plc.y32(ok:f.Ok)(P:Plc f hs lead ys m){c:Nat}(hc:c∈ys):c < 32:=P.b32 ok (cnt_card hc)
theorem Plc.nd(P:Plc f hs lead ys m):ys.Nodup:=List.nodup_iff_count.mpr fun b=>by have:=P.one b;unfold cntB at this;omega
theorem Plc.apart(P:Plc f hs lead ys m){h c:Nat}(hh:h∈hs)(hc:c∈ys):h.testBit c=false:=by
 cases e:h.testBit c with
 | false=>rfl
 | true=>
  have h1:0 < hs.countP (fun h=>h.testBit c):=List.countP_pos_iff.mpr ⟨h,hh,e⟩
  have h2:=List.count_pos_iff.mpr hc
  have:=P.one c
  unfold cntB at this
  omega
theorem seat_lt(ok:f.Ok)(lead k:Nat):(lead+k) % f.n < f.n:=Nat.mod_lt _ (by rcases ok.n34 with e | e<;>omega)
theorem Plc.turn(ok:f.Ok)(P:Plc f hs lead ys m):∃ h,hs[(lead+ys.length) % f.n]? = some h∧pcK 32 h=m:=by
 have sl:=seat_lt ok lead ys.length
 have hl:(lead+ys.length) % f.n < hs.length:=by rw[P.len];exact sl
 refine⟨_,List.getElem?_eq_getElem hl,?_⟩
 have:=P.lv _ _ (List.getElem?_eq_getElem hl)
 rw[off_seat ok.n34 P.ld P.yl,if_neg (Nat.lt_irrefl _)] at this
 exact this
theorem Plc.le(P:Plc f hs lead ys m){h:Nat}(hh:h∈hs):pcK 32 h≤m:=by
 obtain⟨i,hi,e⟩:=List.mem_iff_getElem.mp hh
 have:=P.lv i h (by rw[List.getElem?_eq_getElem hi,e])
 omega
theorem Plc.step(ok:f.Ok)(P:Plc f hs lead ys m){h c:Nat}(hh:hs[(lead+ys.length) % f.n]? = some h)(hc:h.testBit c=true) :
  (∀ b,cntB (hs.set ((lead+ys.length) % f.n) (h ^^^ 2 ^ c)) (ys++[c]) b=cntB hs ys b)∧(hs.set ((lead+ys.length) % f.n) (h ^^^ 2 ^ c)).sum+2 ^ c=hs.sum ∧
  ((hs.set ((lead+ys.length) % f.n) (h ^^^ 2 ^ c)).map (pcK 32)).sum+1=(hs.map (pcK 32)).sum∧0 < m ∧
  (ys.length+1 < f.n→Plc f (hs.set ((lead+ys.length) % f.n) (h ^^^ 2 ^ c)) lead (ys++[c]) m) ∧
  (ys.length+1=f.n→∀ t,t < f.n→Plc f (hs.set ((lead+ys.length) % f.n) (h ^^^ 2 ^ c)) t [] (m - 1)):=by
 have hm:h∈hs:=List.mem_of_getElem? hh
 have c32:=P.b32 ok (cnt_hand (ys:=ys) hm hc)
 have A:∀ b,cntB (hs.set ((lead+ys.length) % f.n) (h ^^^ 2 ^ c)) (ys++[c]) b=cntB hs ys b:=fun b=>by
  have z:=set_count (p:=fun h=>h.testBit b) (x:=h ^^^ 2 ^ c) hh
  unfold cntB
  rw[List.count_append,List.count_singleton]
  have e:=xor_bit h c b hc
  by_cases q:c=b
  ·subst q
   rw[decide_eq_true rfl] at e
   have e':(h ^^^ 2 ^ c).testBit c=false:=e
   rw[hc,e'] at z
   simp only[if_true,Bool.false_eq_true,if_false,beq_self_eq_true] at z ⊢
   omega
  ·rw[decide_eq_false q] at e
   have e':(h ^^^ 2 ^ c).testBit b=h.testBit b:=e
   rw[e'] at z
   rw[if_neg (by simpa using q)]
   omega
 have pc:=pc_xor hc c32
 have S1:=set_sum (g:=id) (x:=h ^^^ 2 ^ c) hh
 have S2:=set_sum (g:=pcK 32) (x:=h ^^^ 2 ^ c) hh
 rw[List.map_id,List.map_id] at S1
 have xa:=xor_add hc
 have S1':(hs.set ((lead+ys.length) % f.n) (h ^^^ 2 ^ c)).sum+h=hs.sum+(h ^^^ 2 ^ c):=S1
 have tl:=P.lv _ _ hh
 rw[off_seat ok.n34 P.ld P.yl,if_neg (Nat.lt_irrefl _)] at tl
 refine⟨A,by omega,by omega,by omega,fun hl=>⟨by rw[List.length_set];exact P.len,P.ld,by rw[List.length_append];exact hl,fun b=>by rw[A];exact P.one b,fun b=>by rw[A];exact P.pk b,fun i g e=>?_⟩,
  fun hl t ht=>⟨by rw[List.length_set];exact P.len,ht,by show 0 < f.n;omega,fun b=>?_,fun b hb=>?_,fun i g e=>?_⟩⟩
 ·rw[List.length_append,List.length_singleton]
  by_cases q:i=(lead+ys.length) % f.n
  ·subst q
   have hi:(lead+ys.length) % f.n < hs.length:=by rw[P.len];exact seat_lt ok _ _
   rw[List.getElem?_set_self hi] at e
   cases e
   rw[off_seat ok.n34 P.ld P.yl,if_pos (Nat.lt_succ_self _)]
   omega
  ·rw[List.getElem?_set_ne (Ne.symm q)] at e
   have:=P.lv i g e
   have hi:i < f.n:=by rw[← P.len];exact(List.getElem?_eq_some_iff.mp e).1
   obtain⟨o1,o2⟩:=off_back ok.n34 P.ld hi
   have ne:off f.n lead i≠ys.length:=fun z=>q (by rw[← o1,z])
   by_cases w:off f.n lead i < ys.length
   ·rw[if_pos w] at this
    rw[if_pos (by omega)]
    exact this
   ·rw[if_neg w] at this
    rw[if_neg (by omega)]
    exact this
 ·have:=A b
  have:=P.one b
  unfold cntB at *
  rw[List.count_append] at *
  simp only[List.count_nil] at *
  omega
 ·refine P.pk b ?_
  have:=A b
  unfold cntB at *
  rw[List.count_append] at *
  simp only[List.count_nil] at *
  omega
 ·have hi:i < f.n:=by
   have:=(List.getElem?_eq_some_iff.mp e).1
   rw[List.length_set,P.len] at this
   exact this
  show pcK 32 g+(if off f.n t i < 0 then 1 else 0)=m - 1
  rw[if_neg (Nat.not_lt_zero _)]
  by_cases q:i=(lead+ys.length) % f.n
  ·subst q
   have hi:(lead+ys.length) % f.n < hs.length:=by rw[P.len];exact seat_lt ok _ _
   rw[List.getElem?_set_self hi] at e
   cases e
   omega
  ·rw[List.getElem?_set_ne (Ne.symm q)] at e
   have:=P.lv i g e
   obtain⟨o1,o2⟩:=off_back ok.n34 P.ld hi
   have ne:off f.n lead i≠ys.length:=fun z=>q (by rw[← o1,z])
   rw[if_pos (by omega)] at this
   omega
end
theorem pack_mem{s h b:Nat}(h8:h≤8):b∈packL s h↔b / 8 < s∧b % 8 < h:=by
 unfold packL
 rw[List.mem_flatMap]
 constructor
 ·rintro⟨u,hu,hb⟩
  obtain⟨v,hv,rfl⟩:=List.mem_map.mp hb
  have:=List.mem_range.mp hu
  have:=List.mem_range.mp hv
  constructor<;>omega
 ·rintro⟨h1,h2⟩
  exact⟨b / 8,List.mem_range.mpr h1,List.mem_map.mpr ⟨b % 8,List.mem_range.mpr h2,by omega⟩⟩
end My
namespace My
open PySem L2
section
variable{f:Fx}{hs ys ws:List Nat}{lead m i:Nat}
end
end My
namespace L2
open PySem PySem.Spec PyProof.Rows Builtin Builtin.ObjectAttr
section
variable{prog:Program}{w:World}{A:Around}{E:Value→Shared→Prop}{h:Heap}{g:Array GenState}{d:Drawn}{t:Nat}{os:OsState}
variable{nm q:Str}{C N:Addr}{bs bm bmB:List Value}{hdct:Bool}{sn:List Str}{sub:List Value}{ab:Bool}{col:Option Bool}{dd:Option Addr}{k0 k1 k2 k3 k5:Option Value}{B newId initId:String}
end
section
variable{prog:Program}{w:World}{A:Around}{E:Value→Shared→Prop}{s:Shared}{K:PySem.W.Frag}{x C:Addr}{o:Obj}{vs:Array Value}{name:Str}{v:Value}
end
end L2
namespace L2
open PySem PySem.Spec PyProof.Rows
section
variable{M:Model}{A:Around}{E:Value→Shared→Prop}{env:Env}
variable{nm q:Str}{C N:Addr}{bs bm:List Value}{hdct:Bool}{sn:List Str}{sub:List Value}{ab:Bool}{col:Option Bool}{dd:Option Addr}{k0 k1 k2 k3 k5:Option Value}{newId:String}
end
end L2
namespace L2
open PySem PySem.Spec PyProof.Rows
section
variable{X:Cx}{n:Str}{np hpos np2 hpos2 pos:Pos}{i:Nat}
end
section
variable{X:Cx}{k:Nat}{f C:Addr}{fd:FuncData}{ps:List Str}{sp:Sp}{dvs:List V}{ds:List Value}{m name:Str}{p pos apos cpos:Pos}{o e a:Expr}{es:List Expr}{ta to:TE}{t:TA}
end
end L2
namespace L2
open PySem PySem.Spec PyProof.Rows
end L2
namespace L2
open PySem PySem.Spec PyProof.Rows
inductive DeepEq(K:PySem.W.Frag)(H:Hp):Nat→V→V→Prop
 | flat {d:Nat} {x:V}:flatV x=true→DeepEq K H d x x
 | tup {d:Nat} {p q:Addr} {xs ys:List V}:SqT K H p xs→SqT K H q ys→xs.length=ys.length→(∀ j,j < xs.length→DeepEq K H d (xs.getD j .non) (ys.getD j .non))→DeepEq K H (d+1) (.ref p) (.ref q)
 | lst {d:Nat} {p q:Addr} {xs ys:List V}:SqL K H p xs→SqL K H q ys→xs.length=ys.length→(∀ j,j < xs.length→DeepEq K H d (xs.getD j .non) (ys.getD j .non))→DeepEq K H (d+1) (.ref p) (.ref q)
theorem eqV_refl{x:V}(h:flatV x=true):eqV x x=true:=by
 cases x with
 | non=>rfl
 | bl b=>exact beq_self_eq_true b
 | int i=>exact beq_self_eq_true i
 | str t=>exact beq_self_eq_true t
 | _=>cases h
theorem item_rel{xs:List V}{us:List Value}(r:Vals xs us){j:Nat}(h:j < us.toArray.size):RelV (xs.getD j .non) us.toArray[j]∧j < xs.length:=by
 have hj:j < us.length:=by simpa using h
 have hx:j < xs.length:=by rw[r.length];exact hj
 obtain⟨u,e,ru⟩:=r.get (List.getElem?_eq_getElem hx)
 rw[List.getElem?_eq_getElem hj] at e
 have g:xs.getD j .non=xs[j]:=by rw[List.getD_eq_getElem?_getD,List.getElem?_eq_getElem hx];rfl
 have eu:us[j]=u:=Option.some.inj e
 refine⟨?_,hx⟩
 rw[g,List.getElem_toArray,eu]
 exact ru
theorem all_t(n:Nat):(List.range n).all (fun _=>true)=true:=List.all_eq_true.mpr fun _ _=>rfl
section
variable{X:Cx}{pins:List (Addr×Obj)}{σ:St}{H:Hp}{s:Shared}
theorem DeepEq.at(I:Inv X pins σ H s){d:Nat}{x y:V}(h:DeepEq X.K H d x y):∀{A:Around} {u v:Value},RelV x u→RelV y v→A.units+d < cLine→SeqAt.EqAt A s u v true:=by
 induction h with
 | flat f=>
  intro A u v rx ry _
  have:=eqAt_V (A:=A) (s:=s) rx ry f f
  rwa [eqV_refl f] at this
 | @tup d p q xs ys hp hq hl hi ih=>
  intro A u v rx ry hu
  cases rx
  cases ry
  by_cases e:p=q
  ·subst e;exact SeqAt.EqAt.same _
  obtain⟨its,r1,p1,_⟩:=I.tuple hp
  obtain⟨its2,r2,p2,_⟩:=I.tuple hq
  have l1:=r1.length
  have l2:=r2.length
  have z:=SeqAt.RcAt.tuples (A:=A) (s:=s) (e:=fun _=>true) p1 p2 (by omega) (fun j h1 h2=>ih j (item_rel r1 h1).2 (A:=A.in1) (item_rel r1 h1).1 (item_rel r2 h2).1 (by show A.units+1+d < cLine;omega))
  have ez:((List.range (min its.toArray.size its2.toArray.size)).all (fun _=>true) && its.toArray.size == its2.toArray.size)=true:=by
   rw[all_t,Bool.true_and]
   simp [← l1,← l2,hl]
  rw[ez] at z
  exact SeqAt.EqAt.of_refs e z
 | @lst d p q xs ys hp hq hl hi ih=>
  intro A u v rx ry hu
  cases rx
  cases ry
  by_cases e:p=q
  ·subst e;exact SeqAt.EqAt.same _
  obtain⟨its,r1,p1,_⟩:=I.list hp
  obtain⟨its2,r2,p2,_⟩:=I.list hq
  have l1:=r1.length
  have l2:=r2.length
  have z:=SeqAt.RcAt.lists (A:=A) (s:=s) (e:=fun _=>true) p1.isList p2.isList (by simp [← l1,← l2,hl]) (by omega) (fun j h1 h2=>ih j (item_rel r1 h1).2 (A:=A.in1) (item_rel r1 h1).1 (item_rel r2 h2).1 (by show A.units+1+d < cLine;omega))
  rw[all_t] at z
  exact SeqAt.EqAt.of_refs e z
end
end L2
namespace L2
open PySem PySem.Spec PyProof.Rows
end L2
namespace L2
open PySem PySem.Spec PyProof.Rows
section
variable{X:Cx}{k:Nat}{f C:Addr}{fd:FuncData}{ps:List Str}{sp:Sp}{dvs:List V}{ds:List Value}{x:Str}{p pos:Pos}{e:Expr}{es:List Expr}{t:TA}
end
end L2
namespace My
open PySem L2
theorem set_nm{te:TE}{i:Nat}{u:TS}{D:Ends}{σ:St}{H:Hp}(G:V→Hp→Prop)(h:∀ R:V→Hp→Prop,(∀ v H',G v H'→R v H')→te σ H R)(hu:∀ v H',G v H'→u D (σ.set i (some v)) H'):tSeq (tAsg te (gName i)) u D σ H:=h _ hu
theorem seq_cut{s u:TS}{D:Ends}{σ:St}{H:Hp}(Pv:St→Hp→Prop)(h1:∀ D':Ends,D'.rt=D.rt→(∀ σ H,Pv σ H→D'.nx σ H)→s D' σ H)(h2:∀ σ H,Pv σ H→u D σ H):tSeq s u D σ H:=h1 { D with nx:=u D } rfl h2
theorem nx_of{T:St→Hp→Prop}{rt:VK}{bk ct:St→Hp→Prop}{σ:St}{H:Hp}(h:T σ H):tNext (Ends.mk T rt bk ct) σ H:=h
theorem int_dec{a b:Int}:decide (V.int a=V.int b)=decide (a=b):=decide_eq_decide.mpr ⟨fun h=>by injection h,fun h=>by rw[h]⟩
theorem nat_dec{a b:Nat}:decide (V.int (a:Nat)=V.int (b:Nat))=decide (a=b):=int_dec.trans (decide_eq_decide.mpr ⟨fun h=>by omega,fun h=>by omega⟩)
theorem natLit{r n:Nat}{i:Int}(h:i=((n:Nat):Int)):decide (V.int ((r:Nat):Int)=V.int i)=decide (r=n):=by subst h;exact nat_dec
theorem int_nat{z:Int}{n:Nat}(h:0 < n):∃ m:Nat,m < n∧z % ((n:Nat):Int)=((m:Nat):Int):=by
 obtain⟨m,e⟩:=Int.eq_ofNat_of_zero_le (Int.emod_nonneg z (show((n:Nat):Int)≠0 by omega))
 exact⟨m,by have:=Int.emod_lt_of_pos z (show(0:Int) < ((n:Nat):Int) by omega);omega,e⟩
end My
namespace L2
open PySem
end L2
namespace L2
open PySem PySem.Spec PyProof.Rows
section
variable{X:Cx}
end
end L2
namespace My
open PySem L2 PySem.Spec PyProof.Rows
section
variable{X:Cx}{e st:Expr}{te:TE}{ts:TO}{pos p2:Pos}
end
def up(c:Nat):Nat:=if 97≤c∧c≤122 then c - 32 else c
end My
namespace L2
open PySem PySem.Spec PyProof.Rows
section
variable{prog:Program}{w:World}{A:Around}{E:Value→Shared→Prop}{s:Shared}
end
section
variable{prog:Program}{w:World}{A:Around}{E:Value→Shared→Prop}{s:Shared}{h₀:Heap}{L l:Addr}{m:Str→Option Value}{news:List (Addr×Obj)}{Q:Value→Shared→Prop}
end
end L2
namespace L2
open PySem PySem.Spec PyProof.Rows
section
variable{prog:Program}{w:World}{A:Around}{E:Value→Shared→Prop}{s:Shared}{Q:Value→Shared→Prop}{pv nm qual:Str}{p p1 p2 p3:Pos}{f cc nl c':Addr}{pm ctv:Value}
end
end L2
namespace L2
open PySem PySem.Spec PyProof.Rows
section
variable{X:Cx}{pins:List (Addr×Obj)}{σ:St}{H:Hp}{s:Shared}{c P:Addr}{pv nm:Str}{p p1 p2 p3 pos:Pos}{cc:Addr}
end
end L2
namespace L2
open PySem PySem.Spec PyProof.Rows Att
theorem ObjOk.obj{P:Program}{w:World}{H:Hp}{h:Heap}{a:Addr}{o:HO}(x:ObjOk P w H h a o):∃ u,h.get? a=some u:=by
 cases o with
 | lst xs=>obtain⟨_,_,_,_,e⟩:=x;exact⟨_,e⟩
 | tup xs=>obtain⟨_,_,_,⟨u,e,_⟩⟩:=x;exact⟨u,e⟩
 | dK kvs=>obtain⟨_,_,_,_,o,_,_,e,_⟩:=x;exact⟨_,e⟩
 | dT kvs=>obtain⟨_,_,_,_,o,_,_,e,_⟩:=x;exact⟨_,e⟩
 | set S n=>obtain⟨o,_,_,_,e,_⟩:=x;exact⟨_,e⟩
 | ins C dx fs=>obtain⟨_,_,_,e,_⟩:=x;exact⟨_,e⟩
 | own y=>obtain⟨_,e⟩:=x;exact⟨_,e⟩
 | xd fs=>obtain⟨_,⟨_,_,_,e,_⟩,_⟩:=x;exact⟨_,e⟩
 | rng lo hi=>obtain⟨_,_,_,e⟩:=x;exact⟨_,e⟩
 | frz ob u=>obtain⟨e,_⟩:=x;exact⟨_,e⟩
 | tbl ps=>exact⟨_,(show h.get? a=some _ from x)⟩
 | met f y=>exact⟨_,(show h.get? a=some _ from x)⟩
 | ext φ=>obtain⟨_,⟨_,e⟩,_⟩:=x;exact⟨_,e⟩
section
variable{X:Cx}{pins:List (Addr×Obj)}{σ:St}{H:Hp}{s:Shared}{c P:Addr}{pv nm:Str}{p p1 p2 p3 pos:Pos}{cc:Addr}
end
end L2
namespace L2
open PySem PySem.Spec PyProof.Rows Att
section
variable{X:Cx}{c P:Addr}{pv nm:Str}{p p1 p2 p3 pos np cpos kp:Pos}{e:Expr}{t:TA}{i:Nat}
end
end L2
namespace L2
open PySem PySem.Spec PyProof.Rows
end L2
namespace L2
open PySem PySem.Spec PyProof.Rows
section
variable{X:Cx}
theorem ints_of_vals:∀{ns:List Int} {us:List Value},Vals (ns.map V.int) us→IntsAre us ns
 | [],[],_=>.nil
 | n :: ns,u :: us,h=>by
  cases h with
  | cons r rr=>
   obtain⟨t,rfl⟩:=r
   exact .cons n t (ints_of_vals rr)
theorem call_sortedI:CallR X (.builtin "sorted") (fun xs H Q=>∃(a:Addr) (ns:List Int),xs=[.ref a]∧SqL X.K H a (ns.map V.int)∧ns.length < 64∧∀(l:Addr) (ms:List Int),H l=none→ms.Perm ns→ms.Pairwise (·≤·)→Q (.ref l) (upd H l (.lst (ms.map V.int)))):=by
 intro pins s σ H xs us Q I r h
 obtain⟨a,ns,rfl,hS,h64,q⟩:=h
 obtain⟨u,rfl,ru⟩:=vals1 r
 cases ru
 obtain⟨its,ri,pl,hz⟩:=I.list hS
 have hl:s.heap.IsList a its.toArray:=isL_of pl
 have hI:=ints_of_vals ri
 refine sorted_ints hl hI (by have:=hI.length;omega) fun out ms a1 a2 a3=>?_
 obtain⟨e,he⟩:=sortedAll_at s.heap its out
 refine⟨.ref (s.heap.objs.size+1),_,I.laid (t':=s.toks) (a:=s.heap.objs.size+1) (o:=.lst (ms.map V.int)) (fun b u e=>sortedAll_old e) (Nat.le_succ _) ⟨by rw[List.length_map,a2.length_eq,sizeLine_eq];omega,out.toList,e,vals_ints a1,by simpa using he⟩,rfl,q _ ms (I.hok.fresh (Nat.le_succ _)) a2 a3⟩
def rCatG:R2:=fun x y H Q=>∃ a b xs ys,x = .ref a∧y = .ref b∧H a=some (.tup xs)∧H b=some (.tup ys)∧xs.length+ys.length≤sizeLine∧∀ p H',Same H H'→H' p=some (.tup (xs++ys))→Q (.ref p) H'
theorem op_catG:OpR X (binaryOp .Add) rCatG:=by
 intro pins s σ H x y v u Q I rx ry h
 obtain⟨a,b,xs,ys,rfl,rfl,ha,hb,hz,q⟩:=h
 by_cases hx:xs=[]
 ·subst hx
  cases rx
  cases ry
  obtain⟨its,r1,p1,_⟩:=I.tuple (.inl (.inl ha))
  obtain⟨its2,r2,p2,_⟩:=I.tuple (.inl (.inl hb))
  have e1:its=[]:=r1.nil_iff.mpr rfl
  subst e1
  obtain⟨⟨cls,dd,data,sl⟩,ho,hc,n,hd⟩:=id p1
  obtain⟨⟨cls2,dd2,data2,sl2⟩,ho2,hc2,n2,hd2⟩:=id p2
  simp only at hc hd hc2 hd2
  subst hc hd hc2 hd2
  exact concat_meets ⟨_,ho,rfl⟩ ⟨_,ho2,rfl⟩ noFill_tuple_add seq_tuple_add PySem.F.slot_tuple_add PySem.F.entry_tuple_add (PySem.F.args_tuple_add_2 _ _)
   (tuple_addW0 a b _ _ n n2 dd dd2 sl sl2 rfl) ⟨ho,ho2,⟨.ref b,H,I,rfl,q b H (fun _ _ e=>e) hb⟩⟩
 ·exact op_catT pins s σ H _ _ v u Q I rx ry ⟨a,b,xs,ys,rfl,rfl,.inl (.inl ha),.inl (.inl hb),hx,hz,fun e=>by subst e;exact q a H (fun _ _ e=>e) (by rw[List.append_nil];exact ha),
   fun _ p hp=>q p _ (fun c o e=>by rw[upd_ne (ne_of_none e hp)];exact e) upd_same⟩
end
end L2
namespace My
open PySem L2
theorem pack_len:∀ s≤4,∀ h≤8,(packL s h).length≤32:=by decide +kernel
section
variable{P:Program}{w:World}{K:PySem.W.Frag}{mg:Str→Option Value}{base:Heap}{f g:Addr}{fd gd:FuncData}
end
end My
namespace My
open PySem L2
section
variable{P:Program}{w:World}{K:PySem.W.Frag}{mg:Str→Option Value}{base:Heap}{f g:Addr}{fd gd:FuncData}
theorem shl_nat(c:Nat):(1:Int) * 2 ^ (((c:Nat):Int)).toNat=((2 ^ c:Nat):Int):=by
 rw[Int.toNat_natCast,Int.one_mul,Int.natCast_pow]
 rfl
def IsPl(H:Hp)(p:Addr)(hs:List Nat)(lead:Nat)(ys:List Nat):Prop:=∃ hp tp,H p=some (.tup [.ref hp,.int (lead:Nat),.ref tp])∧H hp=some (.tup (vN hs))∧H tp=some (.tup (vN ys))
theorem IsPl.same{H H':Hp}{p:Addr}{hs ys:List Nat}{lead:Nat}(h:IsPl H p hs lead ys)(s:Same H H'):IsPl H' p hs lead ys:=by
 obtain⟨hp,tp,a,b,c⟩:=h
 exact⟨hp,tp,s _ _ a,s _ _ b,s _ _ c⟩
def pcV(x:V):V:=match x with | .int i=>.int ((pcK 32 i.toNat:Nat):Int) | _=>.non
def powV(x:V):V:=match x with | .int i=>.int ((2 ^ i.toNat:Nat):Int) | _=>.non
theorem powV_list(ys:List Nat):((vN ys).filter fun _=>true).map powV=vN (ys.map fun c=>2 ^ c):=by
 rw[List.filter_eq_self.mpr fun _ _=>rfl]
 unfold vN
 rw[List.map_map,List.map_map]
 refine List.map_congr_left fun c _=>?_
 show V.int ((2 ^ (((c:Nat):Int)).toNat:Nat):Int)=_
 rw[Int.toNat_natCast]
 rfl
def mayL(f:Fx)(t:Option Nat)(ys:List Nat)(h:Nat):List Nat:=cardsN (hN (if ys=[] then cardsN h else alw f.d f t ys (cardsN h)))
def moveL(f:Fx)(t:Option Nat)(hs:List Nat)(lead:Nat)(ys:List Nat)(m:Nat):List Nat:=if m=0 then [] else mayL f t ys (hs.getD ((lead+ys.length) % f.n) 0)
def tkV:Option Nat→V
 | none=>.non
 | some i=>.int (i:Nat)
structure Nxt(f:Fx)(t:Option Nat)(hs:List Nat)(lead:Nat)(ys:List Nat)(h c:Nat)(hs':List Nat)(lead':Nat)(ys':List Nat)(tk:Option Nat):Prop where
 hand:hs'=hs.set ((lead+ys.length) % f.n) (h ^^^ 2 ^ c)
 go:ys.length+1 < f.n→lead'=lead∧ys'=ys++[c]∧tk=none
 full:ys.length+1=f.n→ys'=[]∧tk=some lead'∧∃ i,Win f t (ledOf (ys++[c])) (ys++[c]) i∧lead'=(lead+i) % f.n
end
end My
namespace My
open PySem L2
section
variable{fx:Fx}{t:Option Nat}{hs ys hs' ys':List Nat}{lead lead' m h c:Nat}{tk:Option Nat}
theorem Nxt.plc(ok:fx.Ok)(Pl:Plc fx hs lead ys m)(eh:hs[(lead+ys.length) % fx.n]? = some h)(hc:h.testBit c=true)(N:Nxt fx t hs lead ys h c hs' lead' ys' tk) :
  ∃ m',Plc fx hs' lead' ys' m'∧hs'.sum+2 ^ c=hs.sum∧(hs'.map (pcK 32)).sum+1=(hs.map (pcK 32)).sum∧0 < m∧((tk=none∧m'=m∧lead'=lead∧ys'=ys++[c]∧ys.length+1 < fx.n)∨(tk=some lead'∧m'+1=m∧ys'=[]∧lead' < fx.n)):=by
 obtain⟨A,S1,S2,m0,g1,g2⟩:=Pl.step ok eh hc
 have yl:=Pl.yl
 by_cases cl:ys.length+1 < fx.n
 ·obtain⟨e1,e2,e3⟩:=N.go cl
  rw[N.hand,e1,e2]
  exact⟨m,g1 cl,S1,S2,m0,.inl ⟨e3,rfl,rfl,rfl,cl⟩⟩
 ·have cl2:ys.length+1=fx.n:=by omega
  obtain⟨e1,e2,i,_,e3⟩:=N.full cl2
  have ll:lead' < fx.n:=by rw[e3];exact seat_lt ok _ _
  rw[N.hand,e1]
  exact⟨m - 1,g2 cl2 lead' ll,S1,S2,m0,.inr ⟨e2,by omega,rfl,ll⟩⟩
theorem trk_nd(Pl:Plc fx hs lead ys m)(eh:hs[(lead+ys.length) % fx.n]? = some h)(hc:h.testBit c=true):(ys++[c]).Nodup:=by
 refine List.nodup_append.mpr ⟨Pl.nd,List.nodup_cons.mpr ⟨List.not_mem_nil,List.nodup_nil⟩,fun y hy z hz=>?_⟩
 rw[List.mem_singleton.mp hz]
 intro e
 subst e
 have:=Pl.apart (List.mem_of_getElem? eh) hy
 rw[hc] at this
 cases this
end
theorem nxE{T:St→Hp→Prop}{rt:VK}{bk ct:St→Hp→Prop}{σ:St}{H:Hp}(h:T σ H):(Ends.mk T rt bk ct).nx σ H:=h
theorem eq_int(a b:Int):decide (V.int a=V.int b)=decide (a=b):=decide_eq_decide.mpr ⟨fun h=>by injection h,fun h=>by rw[h]⟩
section
variable{P:Program}{w:World}{K:PySem.W.Frag}{mg:Str→Option Value}{base:Heap}{f g:Addr}{fd gd:FuncData}
end
end My
namespace L2
open PySem PySem.Spec PyProof.Rows
section
variable{κ:Type} [DecidableEq κ]
end
section
variable{P:Program}{w:World}{H:Hp}{h:Heap}{a:Addr}
end
section
variable{X:Cx}{pins:List (Addr×Obj)}{σ:St}{H:Hp}{s:Shared}{a:Addr}{y v:V}{u r:Value}{o:Option V}{A:Around}{E:Value→Shared→Prop}
end
section
variable{X:Cx}{pins:List (Addr×Obj)}{σ:St}{H:Hp}{s:Shared}{a:Addr}{kvs:List (Key×V)}{k:Key}{u:Value}{A:Around}{E:Value→Shared→Prop}
end
section
variable{X:Cx}{o i e value:Expr}{pos pos' tpos:Pos}{td ty tv:TE}
end
section
variable{X:Cx}{pos:Pos}
end
section
variable{X:Cx}{pins:List (Addr×Obj)}{σ:St}{H:Hp}{s:Shared}{a:Addr}{y d:V}{u r:Value}{o:Option V}{A:Around}{E:Value→Shared→Prop}
end
section
variable{X:Cx}{o e f:Expr}{apos cpos:Pos}{td ty tx:TE}
end
section
variable{X:Cx}{pins:List (Addr×Obj)}{σ:St}{H:Hp}{s:Shared}{a:Addr}{kvs:List (Key×V)}{A:Around}{E:Value→Shared→Prop}
end
section
variable{X:Cx}{pins:List (Addr×Obj)}{σ:St}{H:Hp}{s:Shared}{a:Addr}{y:V}{u:Value}{A:Around}{E:Value→Shared→Prop}
end
end L2
namespace L2
open PySem PySem.Spec PyProof.Rows
end L2
namespace L2
open PySem PySem.Spec PyProof.Rows
end L2
namespace L2
open PySem PySem.Spec PyProof.Rows
theorem walks_with{prog:Program}{w:World}{A:Around}{I:Addr}{fp wr:List Addr}{n:Nat}{P:Nat→Value→Prop}{St:Nat→Heap→Prop}(W:Walks prog w A I fp wr n P St)(T:List (Addr×Obj))(hT:∀ q∈T,q.1∉wr) :
  Walks prog w A I (fp++T.map (·.1)) wr n P (fun i h=>St i h∧∀ q∈T,h.get? q.1=some q.2) where
 sub:=fun b hb=>List.mem_append_left _ (W.sub b hb)
 frame:=fun i h h' st hk=>⟨W.frame i h h' st.1 fun b hb o e=>hk b (List.mem_append_left _ hb) o e,fun q hq=>hk q.1 (List.mem_append_right _ (List.mem_map_of_mem hq)) _ (st.2 q hq)⟩
 item:=fun i st Q E hi hs hQ=>W.item i st Q E hi hs.1 fun v h' tk hP hst' hk=>hQ v h' tk hP ⟨hst',fun q hq=>hk q.1 q.2 (hT q hq) (hs.2 q hq)⟩ hk
 done:=fun st Q E hs hQ=>W.done st Q E hs.1 hQ
 self:=fun i st Q E hs hQ=>W.self i st Q E hs.1 hQ
section
variable{prog:Program}{w:World}{A:Around}{R:Result→Shared→Prop}{I:Addr}{fp wr:List Addr}{n:Nat}{P:Nat→Value→Prop}{St:Nat→Heap→Prop}
def CmpIn(prog:Program)(w:World)(A:Around)(P:Nat→Value→Prop)(St:Nat→Heap→Prop)(bt:Nat→Nat→Bool):Prop:=
 ∀ i j vi vj m (st:Shared) (Q:Value→Shared→Prop) (E:Value→Shared→Prop),P i vi→P j vj→St m st.heap→Q (.bool (bt i j)) st→wpAny (model prog w) A (richCompare .Gt vi vj) Q E st
theorem max_turns(W:Walks prog w A.in1 I fp wr n P St)(bt:Nat→Nat→Bool)(hc:CmpIn prog w A.in1 P St bt)(C:Addr)(hC:C∉fp):∀(k j:Nat) (st:Shared) (vb:Value) (c:Nat),n - (j+1)=k→j+1≤n→St (j+1) st.heap→P (argBest bt j) vb →
  st.heap.get? C=some { cls:=.type "list",dict:=none,data:=.seq #[vb,vb] c,slots:=#[] } →
  (∀ v h' tk,P (argBest bt (n - 1)) v→(∀ b o,b∉wr→b≠C→st.heap.get? b=some o→h'.get? b=some o)→R (.ok (.ret v)) { st with heap:=h',toks:=tk }) →
  codeAny (model prog w) A (.builtin "max.loop" ⟨[.ref I,.none,.ref C],[]⟩) R st:=by
 have nC:C∉wr:=fun z=>hC (W.sub _ z)
 have nm:(toString "max" ++ toString ".loop":String) = "max.loop":=by decide
 intro k
 induction k with
 | zero=>
  intro j st vb c e1 e2 h1 h2 h3 h4
  have e3:j+1=n:=by omega
  apply codeAny_builtin F.entry_max_loop
  rw[Around.under_plainId F.plain_max_loop]
  show wpAny _ A.in1 (seqItems? (.ref C) >>= _) _ _ st
  refine wpAny_bind (wpAny_seqItems h3 rfl ?_)
  show wpAny _ A.in1 (tryCatch (pyNext (.ref I)) _ >>= _) _ _ st
  refine wpAny_bind (wpAny_tryCatch (W.done st _ _ (e3 ▸ h1) fun g tk kp=>?_))
  have h5:=kp C _ nC h3
  show wpAny _ A.in1 (updateSeq C (fun _=>#[]) >>= _) _ _ _
  refine wpAny_bind (wpAny_updateSeq h5 rfl (wpAny_bind (wpAny_letGo (wpAny_pure ?_))))
  exact h4 vb _ tk (by rw[← e3];exact h2) fun b o n1 n2 e=>(Heap.get?_update_other _ _ (Ne.symm n2)).trans (kp b o n1 e)
 | succ k ih=>
  intro j st vb c e1 e2 h1 h2 h3 h4
  have e3:j+1 < n:=by omega
  apply codeAny_builtin F.entry_max_loop
  rw[Around.under_plainId F.plain_max_loop]
  show wpAny _ A.in1 (seqItems? (.ref C) >>= _) _ _ st
  refine wpAny_bind (wpAny_seqItems h3 rfl ?_)
  show wpAny _ A.in1 (tryCatch (pyNext (.ref I)) _ >>= _) _ _ st
  refine wpAny_bind (wpAny_tryCatch (W.item (j+1) st _ _ e3 h1 fun v g tk hP hg kp=>?_))
  have h5:=kp C _ nC h3
  show wpAny _ A.in1 (tryCatch (holding [v,v] (richCompare .Gt v vb >>= _)) _ >>= _) _ _ _
  refine wpAny_bind (wpAny_tryCatch (wpAny_holding (wpAny_bind (hc (j+1) (argBest bt j) v vb (j+1+1) _ _ _ hP h2 hg (wpAny_bind (wpAny_holding (wpAny_truthy_bool (wpAny_bind (wpAny_letGo (wpAny_pure ?_))))))))))
  cases hb:bt (j+1) (argBest bt j) with
  | true=>
   simp only[if_true]
   refine wpAny_bind (wpAny_updateSeq h5 rfl (wpAny_bind (wpAny_letGo ?_)))
   rw[nm]
   refine wpAny_pure ⟨plainId_quiet F.plain_max_loop _,ih (j+1) _ v _ (by omega) e3 (W.frame _ _ _ hg fun b hbf o e=>(Heap.get?_update_other _ _ (fun z:C=b=>hC (by rw[z];exact hbf))).trans e) (by simp only[argBest,hb,if_true];exact hP) (Heap.get?_update_self _ h5 rfl) fun v2 g2 tk2 hP2 kp2=>?_⟩
   exact h4 v2 g2 tk2 hP2 fun b o n1 n2 e=>kp2 b o n1 n2 ((Heap.get?_update_other _ _ (Ne.symm n2)).trans (kp b o n1 e))
  | false=>
   simp only[Bool.false_eq_true,if_false]
   refine wpAny_bind (wpAny_letGo ?_)
   rw[nm]
   refine wpAny_pure ⟨plainId_quiet F.plain_max_loop _,ih (j+1) _ vb c (by omega) e3 hg (by simp only[argBest,hb,Bool.false_eq_true,if_false];exact h2) h5 fun v2 g2 tk2 hP2 kp2=>?_⟩
   exact h4 v2 g2 tk2 hP2 fun b o n1 n2 e=>kp2 b o n1 n2 (kp b o n1 e)
end
theorem call_maxIn{prog:Program}{w:World}{A:Around}{E:Value→Shared→Prop}{s:Shared}{x:Value}{Q:Value→Shared→Prop}
  (h:wpAny (model prog w) A.in1 (pyIter x) (fun it s₂=>∃ I fp wr n P St bt,it = .ref I∧Walks prog w A.in1 I fp wr n P St∧St 0 s₂.heap∧(∀ b∈fp,b < s₂.heap.objs.size)∧0 < n∧CmpIn prog w A.in1 P St bt ∧
   ∀ v h' tk,P (argBest bt (n - 1)) v→(∀ b o,b∉wr→s₂.heap.get? b=some o→h'.get? b=some o)→Q v { s₂ with heap:=h',toks:=tk }) E s):wpAny (model prog w) A (call (.builtin "max") [x]) Q E s:=by
 have nm:(toString "max" ++ toString ".loop":String) = "max.loop":=by decide
 refine call_function_tree F.kind_max F.plain_max F.entry_max (F.args_max1 _) ?_
 show wpAny _ A.in1 (Builtin.Builtins.bindParams "max" ["key","default"] 0 ⟨[],[]⟩ >>= _) _ _ s
 refine wpAny_bind (wpAny_of_eq (show Builtin.Builtins.bindParams "max" ["key","default"] 0 ⟨[],[]⟩=pure [none,none] from rfl) (wpAny_bind (wpAny_pure (wpAny_bind (wpAny_mono h (fun it s₂ h₂=>?_) fun _ _ e=>e)))))
 obtain⟨I,fp,wr,n,P,St,bt,rfl,W,st0,hfp,hn,hc,hQ⟩:=h₂
 refine wpAny_bind (wpAny_newObj_type ?_)
 have nf:s₂.heap.objs.size∉fp:=fun hm=>Nat.lt_irrefl _ (hfp _ hm)
 have nw:s₂.heap.objs.size∉wr:=fun z=>nf (W.sub _ z)
 rw[nm]
 refine wpAny_pure ⟨plainId_quiet F.plain_max_loop _,?_⟩
 apply codeAny_builtin F.entry_max_loop
 rw[Around.under_plainId F.plain_max_loop]
 have hC:(s₂.heap.push { cls:=.type "list",data:=.seq ([]:List Value).toArray }).get? s₂.heap.objs.size=some { cls:=.type "list",data:=.seq ([]:List Value).toArray }:=Heap.get?_push_size _ rfl
 show wpAny _ A.in1 (seqItems? (.ref s₂.heap.objs.size) >>= _) _ _ _
 refine wpAny_bind (wpAny_seqItems hC rfl ?_)
 show wpAny _ A.in1 (tryCatch (pyNext (.ref I)) _ >>= _) _ _ _
 refine wpAny_bind (wpAny_tryCatch (W.item 0 _ _ _ hn (W.frame _ _ _ st0 fun b _ o e=>Heap.get?_push_of_some _ e) fun v g tk hP hg kp=>?_))
 have h5:=kp _ _ nw hC
 show wpAny _ A.in1 (updateSeq s₂.heap.objs.size (fun _=>#[v,v]) >>= _) _ _ _
 refine wpAny_bind (wpAny_updateSeq h5 rfl ?_)
 rw[nm]
 refine wpAny_pure ⟨plainId_quiet F.plain_max_loop _,max_turns W bt hc _ nf _ 0 _ v _ rfl hn (W.frame _ _ _ hg fun b hbf o e=>(Heap.get?_update_other _ _ (fun z:s₂.heap.objs.size=b=>nf (by rw[z];exact hbf))).trans e) hP (Heap.get?_update_self _ h5 rfl) fun v2 g2 tk2 hP2 kp2=>?_⟩
 exact hQ v2 g2 tk2 hP2 fun b o n1 e=>kp2 b o n1 (Nat.ne_of_lt (Heap.lt_size e)) ((Heap.get?_update_other _ _ (Nat.ne_of_gt (Heap.lt_size e))).trans (kp b o n1 (Heap.get?_push_of_some _ e)))
end L2
namespace L2
open PySem PySem.Spec PyProof.Rows
def TupL(K:PySem.W.Frag)(H:Hp)(a:Addr)(ps:List Addr)(nss:List (List Int)):Prop:=SqL K H a (ps.map V.ref)∧ps.length=nss.length∧∀(j:Nat) (p:Addr),ps[j]? = some p→∃ ns,nss[j]? = some ns∧H p=some (.tup (ns.map V.int))
theorem vals_refs:∀{ps:List Addr} {us:List Value},Vals (ps.map V.ref) us→us=ps.map Value.ref
 | [],[],_=>rfl
 | p :: ps,u :: us,h=>by
  cases h with
  | cons r rr=>
   have e:u=Value.ref p:=r
   rw[e,vals_refs rr]
   rfl
def intsOf(vs:List V):List Int:=vs.map fun v=>match v with | .int i=>i | _=>0
theorem intsOf_ints(ns:List Int):intsOf (ns.map V.int)=ns:=by
 unfold intsOf
 rw[List.map_map]
 have:((fun v:V=>match v with | .int i=>i | _=>0) ∘ V.int)=id:=by funext c;rfl
 rw[this,List.map_id]
def tupIs(H:Hp)(k:List Int)(y:Value):Bool:=match y with | .ref q=>(match H q with | some (.tup vs)=>decide (intsOf vs=k) | _=>false) | _=>false
theorem tupIs_at{H:Hp}{k ns:List Int}{q:Addr}(h:H q=some (.tup (ns.map V.int))):tupIs H k (.ref q)=decide (ns=k):=by
 show(match H q with | some (.tup vs)=>decide (intsOf vs=k) | _=>false)=_
 rw[h]
 show decide (intsOf (ns.map V.int)=k)=_
 rw[intsOf_ints]
theorem eqVs_ints:∀(ns ms:List Int),eqVs (ns.map V.int) (ms.map V.int)=decide (ns=ms)
 | [],[]=>rfl
 | [],_ :: _=>rfl
 | _ :: _,[]=>rfl
 | n :: ns,m :: ms=>by
  show(eqV (V.int n) (V.int m) && eqVs (ns.map V.int) (ms.map V.int))=_
  rw[eqVs_ints ns ms]
  have:eqV (V.int n) (V.int m)=(n == m):=rfl
  rw[this]
  by_cases e1:n=m<;>by_cases e2:ns=ms<;>simp [e1,e2]
theorem flat_ints(ns:List Int):(ns.map V.int).all flatV=true:=by
 rw[List.all_map]
 exact List.all_eq_true.mpr fun _ _=>rfl
section
variable{X:Cx}{pins:List (Addr×Obj)}{σ:St}{H:Hp}{s:Shared}
theorem eqAt_tups(I:Inv X pins σ H s){A:Around}{p q:Addr}{ns ms:List Int}(hp:H p=some (.tup (ns.map V.int)))(hq:H q=some (.tup (ms.map V.int)))(hu:A.units < cLine):SeqAt.EqAt A s (.ref p) (.ref q) (decide (ns=ms)):=by
 by_cases e:p=q
 ·subst e
  rw[hp] at hq
  have:ns=ms:=by
   have z:ns.map V.int=ms.map V.int:=by
    have:=Option.some.inj hq
    injection this
   have:=congrArg intsOf z
   rw[intsOf_ints,intsOf_ints] at this
   exact this
  rw[decide_eq_true this]
  exact SeqAt.EqAt.same _
 ·obtain⟨its,r1,p1,_⟩:=I.tuple (SqT.of hp)
  obtain⟨its2,r2,p2,_⟩:=I.tuple (SqT.of hq)
  have z:=SeqAt.RcAt.tuples (A:=A) (s:=s) (e:=fun j=>eqV ((ns.map V.int).getD j .non) ((ms.map V.int).getD j .non)) p1 p2 hu (fun j h1 h2=>eqAt_V (flat_at r1 (flat_ints ns) h1).1 (flat_at r2 (flat_ints ms) h2).1 (flat_at r1 (flat_ints ns) h1).2 (flat_at r2 (flat_ints ms) h2).2)
  have y:=eqVs_all (ns.map V.int) (ms.map V.int)
  rw[r1.length,r2.length] at y
  rw[List.size_toArray,List.size_toArray,y,eqVs_ints] at z
  exact SeqAt.EqAt.of_refs e z
theorem mt_indexT(hu:X.A.units+64 < cLine):MtR X "list.index" (fun x xs H Q=>∃(a p:Addr) (ps:List Addr) (nss:List (List Int)) (k:List Int) (j:Nat),x = .ref a∧xs=[.ref p]∧TupL X.K H a ps nss∧ps.length≤1000∧H p=some (.tup (k.map V.int))∧nss[j]? = some k∧(∀ m < j,nss[m]?≠some k)∧Q (.int (j:Nat)) H):=by
 intro pins s σ H x xs v us Q I rx rv h
 obtain⟨a,p,ps,nss,k,j,rfl,rfl,⟨hS,hl,hT⟩,h1000,hp,hj,hno,q⟩:=h
 cases rx
 obtain⟨u,rfl,ru⟩:=vals1 rv
 have eu:u=Value.ref p:=ru
 subst eu
 obtain⟨its,vi,pl,hz⟩:=I.list hS
 have ei:=vals_refs vi
 subst ei
 obtain⟨⟨cls,dd,data,sl⟩,ho,hc,n,hd⟩:=isL_of pl
 simp only at hc hd
 subst hc hd
 have jl:j < ps.length:=by rw[hl];exact(List.getElem?_eq_some_iff.mp hj).1
 have at_:∀ m (hm:m < (ps.map Value.ref).toArray.size),∃(q:Addr) (ns:List Int),(ps.map Value.ref).toArray[m] = .ref q∧nss[m]? = some ns∧H q=some (.tup (ns.map V.int)):=fun m hm=>by
  have hm':m < ps.length:=by simpa using hm
  obtain⟨ns,e1,e2⟩:=hT m ps[m] (List.getElem?_eq_getElem hm')
  exact⟨ps[m],ns,by simp,e1,e2⟩
 refine call_meets PySem.F.slot_list_index ⟨_,ho,rfl⟩ PySem.F.entry_list_index (PySem.F.args_list_index_2 _ _) (PySem.SeqAt.list_indexAt a (ps.map Value.ref).toArray n dd sl (.ref p) (tupIs H k) j (by simpa using jl) (by omega) ?_ ?_) ⟨ho,fun y hy=>?_,⟨.int (j:Nat),H,I.tok _,⟨_,rfl⟩,q⟩⟩
 ·obtain⟨q,ns,e1,e2,e3⟩:=at_ j (by simpa using jl)
  rw[e1,tupIs_at e3]
  rw[hj] at e2
  exact decide_eq_true (Option.some.inj e2).symm
 ·intro m hm hmj
  obtain⟨q,ns,e1,e2,e3⟩:=at_ m hm
  rw[e1,tupIs_at e3]
  exact decide_eq_false fun z=>hno m hmj (by rw[e2,z])
 ·have hy':y∈ps.map Value.ref:=by simpa using hy
  obtain⟨q,hq,rfl⟩:=List.mem_map.mp hy'
  obtain⟨m,hm,em⟩:=List.mem_iff_getElem.mp hq
  obtain⟨ns,e1,e2⟩:=hT m q (by rw[List.getElem?_eq_getElem hm,em])
  rw[tupIs_at e2]
  exact eqAt_tups I e2 hp (by show X.A.units+1 < cLine;omega)
theorem call_maxT(hc:X.calm=true)(hu:X.A.units+64 < cLine):CallR X (.builtin "max") (fun xs H Q=>∃(a:Addr) (ps:List Addr) (nss:List (List Int)) (g:Nat→Int),xs=[.ref a]∧TupL X.K H a ps nss∧0 < ps.length∧(∀(i j:Nat) (ns ms:List Int),nss[i]? = some ns→nss[j]? = some ms→HT.lexLt ms ns=decide (g i > g j)) ∧
  ∀(j:Nat) (p:Addr),ps[j]? = some p→(∀ i,i < ps.length→g i≤g j)→Q (.ref p) H):=by
 intro pins s σ H xs us Q I r h
 obtain⟨a,ps,nss,g,rfl,⟨hS,hl,hT⟩,hn,hg,q⟩:=h
 obtain⟨u,rfl,ru⟩:=vals1 r
 cases ru
 obtain⟨its,vi,pl,hz⟩:=I.list hS
 have ei:=vals_refs vi
 subst ei
 have hL:s.heap.IsList a (ps.map Value.ref).toArray:=isL_of pl
 have ha:a < s.heap.objs.size:=by obtain⟨_,e,_⟩:=hL;exact Heap.lt_size e
 have hh:X.A.in1.handled=none:=I.ok.hd hc
 have tob:∀ p∈ps,∃ o,s.heap.get? p=some o:=fun p hp=>by
  obtain⟨m,hm,em⟩:=List.mem_iff_getElem.mp hp
  obtain⟨ns,_,e2⟩:=hT m p (by rw[List.getElem?_eq_getElem hm,em])
  exact ObjOk.obj (I.hok p _ e2)
 let T:List (Addr×Obj):=ps.filterMap fun p=>(s.heap.get? p).map fun o=>(p,o)
 have mT:∀ q∈T,s.heap.get? q.1=some q.2:=fun q hq=>by
  obtain⟨p,hp,e⟩:=List.mem_filterMap.mp hq
  obtain⟨o,e1,e2⟩:=Option.map_eq_some_iff.mp e
  subst e2
  exact e1
 have inT:∀ p o,p∈ps→s.heap.get? p=some o→(p,o)∈T:=fun p o hp e=>List.mem_filterMap.mpr ⟨p,hp,by rw[e];rfl⟩
 refine call_maxIn (wpAny_pyIter_list hL ?_)
 refine⟨s.heap.objs.size,_,[s.heap.objs.size],(ps.map Value.ref).toArray.size,_,_,(fun i j=>decide (g i > g j)),rfl,walks_with (Walks.list hh s.heap.objs.size a (Nat.ne_of_lt ha) (ps.map Value.ref).toArray) T (fun q hq z=>?_),⟨⟨⟨_,Heap.get?_push_size _ rfl,rfl,rfl⟩,hL.push _⟩,fun q hq=>Heap.get?_push_of_some _ (mT q hq)⟩,?_,by simpa using hn,?_,fun v h' tk hP hk=>?_⟩
 ·have:=Heap.lt_size (mT q hq)
  rw[List.mem_singleton.mp z] at this
  exact Nat.lt_irrefl _ this
 ·intro b hb
  show b < (s.heap.push _).objs.size
  rw[Heap.size_push]
  rcases List.mem_append.mp hb with z | z
  ·rcases List.mem_cons.mp z with z | z
   ·rw[z];exact Nat.lt_succ_self _
   ·rw[List.mem_singleton.mp z];exact Nat.lt_succ_of_lt ha
  ·obtain⟨q,hq,rfl⟩:=List.mem_map.mp z
   exact Nat.lt_succ_of_lt (Heap.lt_size (mT q hq))
 ·intro i j vi vj m st Q2 E2 hPi hPj hst hQ2
  have get:∀(i:Nat) (vi:Value),(ps.map Value.ref).toArray[i]? = some vi→∃(p:Addr) (ns:List Int),vi = .ref p∧p∈ps∧nss[i]? = some ns∧H p=some (.tup (ns.map V.int)):=fun i vi e=>by
   have e':(ps.map Value.ref)[i]? = some vi:=by simpa using e
   rw[List.getElem?_map] at e'
   obtain⟨p,e1,e2⟩:=Option.map_eq_some_iff.mp e'
   obtain⟨ns,e3,e4⟩:=hT i p e1
   exact⟨p,ns,e2.symm,List.mem_of_getElem? e1,e3,e4⟩
  obtain⟨p1,ns,rfl,m1,n1,t1⟩:=get i vi hPi
  obtain⟨p2,ms,rfl,m2,n2,t2⟩:=get j vj hPj
  obtain⟨its1,r1,q1,_⟩:=I.tuple (SqT.of t1)
  obtain⟨its2,r2,q2,_⟩:=I.tuple (SqT.of t2)
  have i1:IntsAre its1.toArray.toList ns:=intsAre_of r1
  have i2:IntsAre its2.toArray.toList ms:=intsAre_of r2
  obtain⟨⟨cls,dd,data,sl⟩,ho,hcl,n,hd⟩:=id q1
  obtain⟨⟨cls2,dd2,data2,sl2⟩,ho2,hcl2,nn2,hd2⟩:=id q2
  simp only at hcl hd hcl2 hd2
  subst hcl hd hcl2 hd2
  have o1:=hst.2 _ (inT p1 _ m1 ho)
  have o2:=hst.2 _ (inT p2 _ m2 ho2)
  have e:HT.lexLt ms ns=decide (g i > g j):=hg i j ns ms n1 n2
  exact richCompare_meets_room (op:=.Gt) ⟨_,o1,rfl⟩ ⟨_,o2,rfl⟩ PySem.F.slot_tuple_gt PySem.F.entry_tuple_gt (PySem.F.args_tuple_gt_2 _ _) (tuple_gt_ints p1 p2 its1.toArray its2.toArray n nn2 dd dd2 sl sl2 ns ms i1 i2)
   ⟨o1,o2,(fun z=>nomatch z),by rw[e];exact hQ2⟩ (by show X.A.units+1 < cLine;omega)
 ·obtain⟨b1,b2⟩:=argBest_gt g ((ps.map Value.ref).toArray.size - 1)
  have sz:(ps.map Value.ref).toArray.size=ps.length:=by simp
  have hP':(ps.map Value.ref)[argBest (fun i j=>decide (g i > g j)) ((ps.map Value.ref).toArray.size - 1)]? = some v:=by simpa using hP
  rw[List.getElem?_map] at hP'
  obtain⟨p,e1,e2⟩:=Option.map_eq_some_iff.mp hP'
  subst e2
  refine⟨.ref p,H,I.kept (t':=tk) fun b o eb=>hk b o ?_ (Heap.get?_push_of_some _ eb),rfl,q _ p e1 fun i hi=>b2 i (by omega)⟩
  intro hm
  have:b=s.heap.objs.size:=by simpa using hm
  subst this
  exact absurd (Heap.lt_size eb) (Nat.lt_irrefl _)
end
end L2
namespace L2
open PySem PySem.Spec PyProof.Rows
theorem cells_app:∀(names:List (Str×NameKind)) (n:Nat) (acc:List (Str×Addr)),cellsFrom n names acc=cellsFrom n names []++acc
 | [],_,acc=>rfl
 | (x,k) :: r,n,acc=>by
  unfold cellsFrom
  by_cases hk:(k == NameKind.cell)=true
  ·rw[if_pos hk,if_pos hk,cells_app r (n+1) ((x,n) :: acc),cells_app r (n+1) [(x,n)],List.append_assoc];rfl
  ·rw[if_neg hk,if_neg hk];exact cells_app r n acc
theorem cells_mem{x:Str}{c:Addr}:∀(names:List (Str×NameKind)) (n:Nat) (acc:List (Str×Addr)),(x,c)∈cellsFrom n names acc→(x,NameKind.cell)∈names∨(x,c)∈acc
 | [],_,acc,h=>.inr h
 | (y,k) :: r,n,acc,h=>by
  unfold cellsFrom at h
  by_cases hk:(k == NameKind.cell)=true
  ·rw[if_pos hk] at h
   rcases cells_mem r (n+1) _ h with q | q
   ·exact .inl (List.mem_cons_of_mem _ q)
   ·rcases List.mem_cons.mp q with e | e
    ·cases e
     have e2:k = .cell:=by simpa using hk
     rw[e2];exact .inl List.mem_cons_self
    ·exact .inr e
  ·rw[if_neg hk] at h
   rcases cells_mem r n _ h with q | q
   ·exact .inl (List.mem_cons_of_mem _ q)
   ·exact .inr q
theorem lookup_app{α:Type}{x:Str}:∀(l m:List (Str×α)),(l++m).lookup x=(l.lookup x).orElse fun _=>m.lookup x
 | [],m=>rfl
 | (y,a) :: r,m=>by
  rw[List.cons_append,List.lookup_cons,List.lookup_cons]
  cases x == y with
  | true=>rfl
  | false=>exact lookup_app r m
theorem lookup_relabel{env:Env}{x:Str}:∀(names:List (Str×NameKind)),
  (names.map fun(n,k)=>if(k == NameKind.free && env.scope.kind == .function && env.kindOf n == some .cell) then(n,NameKind.cell) else(n,k)).lookup x=(names.lookup x).map fun k=>if(k == NameKind.free && env.scope.kind == .function && env.kindOf x == some .cell) then NameKind.cell else k
 | []=>rfl
 | (y,k) :: r=>by
  have ih:=lookup_relabel (env:=env) (x:=x) r
  show List.lookup x ((if(k == NameKind.free && env.scope.kind == .function && env.kindOf y == some .cell)=true then(y,NameKind.cell) else(y,k)) :: _)=_
  by_cases hk:(k == NameKind.free && env.scope.kind == .function && env.kindOf y == some .cell)=true
  ·rw[if_pos hk,List.lookup_cons,List.lookup_cons]
   by_cases e:x=y
   ·subst e
    rw[beq_self_eq_true]
    show some _=some _
    exact(congrArg some (if_pos hk)).symm
   ·have e':(x == y)=false:=by simpa using e
    rw[e']
    exact ih
  ·rw[if_neg hk,List.lookup_cons,List.lookup_cons]
   by_cases e:x=y
   ·subst e
    rw[beq_self_eq_true]
    show some _=some _
    exact(congrArg some (if_neg hk)).symm
   ·have e':(x == y)=false:=by simpa using e
    rw[e']
    exact ih
theorem relabel_two{env:Env}{names:List (Str×NameKind)}{x:Str}{k:NameKind}
  (h:(names.map fun(n,k)=>if(k == NameKind.free && env.scope.kind == .function && env.kindOf n == some .cell) then(n,NameKind.cell) else(n,k)).lookup x=some k) (hk:k = .cell∨k = .free) :
  names.lookup x=some .cell∨names.lookup x=some .free:=by
 rw[lookup_relabel] at h
 cases q:names.lookup x with
 | none=>rw[q] at h;cases h
 | some j=>
  rw[q] at h
  by_cases hj:(j == NameKind.free && env.scope.kind == .function && env.kindOf x == some .cell)=true
  ·have e:j = .free:=by
    rw[Bool.and_eq_true,Bool.and_eq_true] at hj
    simpa using hj.1.1
   rw[e];exact .inr rfl
  ·have h':some (if(j == NameKind.free && env.scope.kind == .function && env.kindOf x == some .cell)=true then NameKind.cell else j)=some k:=h
   rw[if_neg hj] at h'
   cases h'
   rcases hk with e | e
   ·rw[e];exact .inl rfl
   ·rw[e];exact .inr rfl
def clC(env:Env)(scope:Scope)(C:Addr):List (Str×Addr):=cellsFrom (C+1) scope.names (clOf env scope.names [])
def ownC(scope:Scope)(x:Str):Bool:=match scope.names.lookup x with | some .cell=>true | _=>false
def blkC(X:Cx)(N:List Str)(scope:Scope)(C:Addr)(s₀:Shared)(H₀:Hp)(ex:List Addr)(xe:Value→Shared→Prop):Cx:=
 { X with N:=N,s₀:=s₀,H₀:=H₀,env:=compEnvC scope (clC X.env scope C) C X.env,outer:=X.stack,stack:=X.stack,ex:=ex,fn:=ownC scope,pn:=[],xe:=xe }
structure BlkC(X:Cx)(N:List Str)(caps:List (Option Nat))(scope:Scope):Prop where
 kind:scope.kind = .function
 own:∀ y∈scope.names,y.2 = .cell→scope.names.lookup y.1=some .cell
 names:∀ y∈scope.names,y.2 = .local→scope.names.lookup y.1=some .local
 free:∀ y∈scope.names,y.2 = .free→X.env.kindOf y.1=some .cell∨X.env.kindOf y.1=some .free
 len:caps.length=N.length
 cap:∀(i j:Nat) (x:Str),caps[i]? = some (some j)→N[i]? = some x→X.N[j]? = some x∧Vis X.env.scope x∧scope.names.lookup x=some .free
theorem clC_cases{env:Env}{scope:Scope}{C:Addr}{x:Str}{c:Addr}(h:(clC env scope C).lookup x=some c) :
  (cellsFrom (C+1) scope.names []).lookup x=some c∨((cellsFrom (C+1) scope.names []).lookup x=none∧(clOf env scope.names []).lookup x=some c):=by
 unfold clC at h
 rw[cells_app,lookup_app] at h
 cases q:(cellsFrom (C+1) scope.names []).lookup x with
 | some d=>rw[q] at h;exact .inl h
 | none=>rw[q] at h;exact .inr ⟨rfl,h⟩
theorem clC_own{env:Env}{scope:Scope}{C:Addr}{x:Str}{c:Addr}(h:(cellsFrom (C+1) scope.names []).lookup x=some c):(clC env scope C).lookup x=some c:=by
 unfold clC
 rw[cells_app,lookup_app,h];rfl
theorem clC_took{env:Env}{scope:Scope}{C:Addr}{x:Str}{c:Addr}(h0:(cellsFrom (C+1) scope.names []).lookup x=none)(h:(clOf env scope.names []).lookup x=some c):(clC env scope C).lookup x=some c:=by
 unfold clC
 rw[cells_app,lookup_app,h0];exact h
theorem own_none{X:Cx}{N:List Str}{caps:List (Option Nat)}{scope:Scope}{C:Addr}{x:Str}(B:BlkC X N caps scope)(h:scope.names.lookup x=some .free):(cellsFrom (C+1) scope.names []).lookup x=none:=by
 cases q:(cellsFrom (C+1) scope.names []).lookup x with
 | none=>rfl
 | some c=>
  rcases cells_mem _ _ _ (PySem.mem_of_lookup q) with e | e
  ·have:=B.own _ e rfl
   rw[h] at this;cases this
  ·cases e
structure CellsAt(scope:Scope)(C:Addr)(h:Heap):Prop where
 cell:∀ x c,(cellsFrom (C+1) scope.names []).lookup x=some c→h.IsCell c none
theorem own_ok(scope:Scope)(h:Heap):CellsOk (pushCells (h.push { cls:=.type "dict",data:=.dict #[] }) scope.names) (h.objs.size+1) (cellsFrom (h.objs.size+1) scope.names []):=by
 have ok:=cellsFrom_ok scope.names (h.push { cls:=.type "dict",data:=.dict #[] }) (h.objs.size+1) [] ⟨fun _ _ hm=>(nomatch hm),List.Pairwise.nil⟩ (by rw[Heap.size_push];exact Nat.le_refl _)
 rw[Heap.size_push] at ok
 exact ok
theorem nfe_cells{M:Model}{A:Around}{E:Value→Shared→Prop}{s:Shared}{scope:Scope}{globals:Addr}{cl:List (Str×Addr)}{qual:Str}{env:Env}{Q:Env→Shared→Prop}
  (hQ:∀ h₁:Heap,h₁.Ns s.heap.objs.size (fun _=>none)→(∀ b o,s.heap.get? b=some o→h₁.get? b=some o)→CellsAt scope s.heap.objs.size h₁ →
   Q { scope,locals:=s.heap.objs.size,globals,cells:=cellsFrom (s.heap.objs.size+1) scope.names cl,qual,func:=none,code:=env.code,frame:=env.frame,builtins:=env.builtins } { s with heap:=h₁ }) :
  wpAny M A (newFunctionEnv scope globals cl [] qual none .none (some env)) Q E s:=by
 simp only[newFunctionEnv,Option.isSome_some,if_true]
 refine wpAny_bind (wpAny_alloc ?_)
 refine wpAny_bind (wpAny_layCells _ (fun name kind cells=>by cases hkc:kind == NameKind.cell<;>simp [hkc]) _ _ _ _ ?_)
 rw[show({ s with heap:=s.heap.push { cls:=.type "dict",data:=.dict #[] } }:Shared).heap.objs.size=s.heap.objs.size+1 from Heap.size_push ..]
 refine wpAny_bind ?_
 rw[List.forIn_nil]
 have ok:=own_ok scope s.heap
 refine wpAny_pure (wpAny_pure (hQ _ ((Heap.Ns.new s.heap (.type "dict")).keeps (pushCells_keeps _ _)) (fun b o e=>pushCells_keeps _ _ b o (Heap.get?_push_of_some _ e)) ⟨fun x c h=>(ok.empty x c (PySem.mem_of_lookup h)).1⟩))
section
variable{X:Cx}{pins:List (Addr×Obj)}{σ:St}{H:Hp}{s:Shared}
theorem own_above{scope:Scope}{h:Heap}{x:Str}{c:Addr}(e:(cellsFrom (h.objs.size+1) scope.names []).lookup x=some c):h.objs.size < c:=((own_ok scope h).empty x c (PySem.mem_of_lookup e)).2
theorem blkC_ok{N:List Str}{caps:List (Option Nat)}{scope:Scope}{fp:List Addr}{xe:Value→Shared→Prop}(B:BlkC X N caps scope)(I:Inv X pins σ H s)(hlt:∀ b∈fp,b < s.heap.objs.size)(hf:∀ b∈fp,FpOk X pins H b) :
  (blkC X N scope s.heap.objs.size s H fp xe).Ok where
 mod:=I.ok.mod
 kind:=B.kind
 glob:=I.ok.glob
 blt:=I.ok.blt
 above:=Nat.le_refl _
 inj:=fun x y c hx hy=>by
  have sub:=fun(z:Str) (c:Addr) (h:(clOf X.env scope.names []).lookup z=some c)=>cl_sub (env:=X.env) (acc:=[]) (fun _ _ e=>by simp at e) z c h
  rcases clC_cases hx with h1 | ⟨_,h1⟩<;>rcases clC_cases hy with h2 | ⟨_,h2⟩
  ·exact name_of_addr (own_ok scope s.heap).apart (PySem.mem_of_lookup h1) (PySem.mem_of_lookup h2)
  ·obtain⟨v,q⟩:=I.cell y c (sub y c h2)
   exact absurd (own_above h1) (Nat.not_lt.mpr (Nat.le_of_lt q.lt))
  ·obtain⟨v,q⟩:=I.cell x c (sub x c h1)
   exact absurd (own_above h2) (Nat.not_lt.mpr (Nat.le_of_lt q.lt))
  ·exact I.ok.inj x y c (sub x c h1) (sub y c h2)
 has:=fun x hk=>by
  have hm:scope.names.lookup x=some .cell∨scope.names.lookup x=some .free:=hk.elim (fun e=>relabel_two e (.inl rfl)) fun e=>relabel_two e (.inr rfl)
  rcases hm with e | e
  ·obtain⟨c,hc⟩:=cell_has (n:=s.heap.objs.size+1) e
   exact⟨c,clC_own hc⟩
  ·have hm:=lookup_mem e
   obtain⟨c,hc⟩:=I.ok.has x (B.free _ hm rfl)
   obtain⟨d,hd⟩:=Option.isSome_iff_exists.mp (cl_has (env:=X.env) (acc:=[]) hm hc)
   exact⟨d,clC_took (own_none B e) hd⟩
 cab:=fun x c h hc=>by
  have e:scope.names.lookup x=some .cell:=by
   have h':ownC scope x=true:=h
   unfold ownC at h'
   split at h'
   ·assumption
   ·cases h'
  obtain⟨d,hd⟩:=cell_has (n:=s.heap.objs.size+1) e
  have:=clC_own (env:=X.env) hd
  have hc':(clC X.env scope s.heap.objs.size).lookup x=some c:=hc
  rw[this] at hc'
  cases hc'
  exact Nat.le_of_lt (own_above hd)
 hd:=I.ok.hd
 frames:=I.ok.frames
 stk:=.inl rfl
 exf:=fun b hb=>⟨Nat.ne_of_lt (hlt b hb),fun x c hc=>by
  rcases clC_cases hc with h1 | ⟨_,h1⟩
  ·exact Nat.ne_of_gt (Nat.lt_trans (hlt b hb) (own_above h1))
  ·exact(hf b hb).2.2.2.2.1 x c (cl_sub (fun _ _ e=>by simp at e) x c h1)⟩
 bs:=I.bs
 bsz:=Nat.le_trans I.ok.bsz I.sz
 noex:=fun b o e hb=>by
  rcases(hf b hb).2.2.2.1 with h | h
  ·exact I.ok.noex b o e h
  ·exact absurd (Heap.lt_size (I.ok.bs b o e).1) (Nat.not_lt.mpr h)
 exfs:=fun b hb hs=>by
  rcases List.mem_cons.mp (I.stkSub b hs) with e | e
  ·exact(hf b hb).2.1 e
  ·exact(hf b hb).2.2.1 e
 funs:=I.stack
 frf:=I.stkFree
theorem blkC_inv{N:List Str}{caps:List (Option Nat)}{scope:Scope}{fp:List Addr}{xe:Value→Shared→Prop}{h₁:Heap}{t':Nat}(B:BlkC X N caps scope)(I:Inv X pins σ H s)(hlt:∀ b∈fp,b < s.heap.objs.size)(hf:∀ b∈fp,FpOk X pins H b)
  {m:Str→Option Value} (hn:h₁.Ns s.heap.objs.size m) (hk:∀ b o,s.heap.get? b=some o→h₁.get? b=some o) (hcs:CellsAt scope s.heap.objs.size h₁) :
  Inv (blkC X N scope s.heap.objs.size s H fp xe) [] (capSt caps σ) H { s with heap:=h₁,toks:=t' } where
 ok:=blkC_ok B I hlt hf
 os:=rfl
 bare:=I.bare
 base:=Un.kept hk
 loc:=by
  refine⟨m,hn,fun i x v hN hσ hv=>?_⟩
  unfold capSt at hσ
  rw[List.getElem?_map] at hσ
  cases hc:caps[i]? with
  | none=>rw[hc] at hσ;cases hσ
  | some oj=>
   rw[hc] at hσ
   cases oj with
   | none=>cases hσ
   | some j=>
    have hσ':(σ[j]?).join=some v:=Option.some.inj hσ
    have hj:σ[j]? = some (some v):=by
     cases q:σ[j]? with
     | none=>rw[q] at hσ';cases hσ'
     | some o=>rw[q] at hσ';have:o=some v:=hσ';rw[this]
    obtain⟨hNj,hVis,hfr⟩:=B.cap i j x hc hN
    obtain⟨m',_,hl⟩:=I.loc
    obtain⟨u,ru,lk⟩:=hl j x v hNj hj hVis
    have hm:=lookup_mem hfr
    have hkX:=B.free _ hm rfl
    refine⟨u,ru,.inr ⟨relabel_free hfr,?_⟩⟩
    rcases lk with⟨e,_⟩ | ⟨_,c,hc1,hc2⟩
    ·rcases hkX with e' | e'
     ·rw[e] at e';cases e'
     ·rw[e] at e';cases e'
    ·obtain⟨c',hc'⟩:=Option.isSome_iff_exists.mp (cl_has (env:=X.env) (acc:=[]) hm hc1)
     have h2:=cl_sub (fun _ _ e=>by simp at e) x c' hc'
     rw[hc1] at h2
     cases h2
     exact⟨c,clC_took (own_none B hfr) hc',hc2.keeps hk⟩
 cell:=fun x c hc=>by
  rcases clC_cases hc with h1 | ⟨_,h1⟩
  ·exact⟨none,hcs.cell x c h1⟩
  ·obtain⟨v,hv⟩:=I.cell x c (cl_sub (fun _ _ e=>by simp at e) x c h1)
   exact⟨v,hv.keeps hk⟩
 free:=I.hok.fresh (Nat.le_refl _)
 freeC:=fun x c hc=>by
  rcases clC_cases hc with h1 | ⟨_,h1⟩
  ·exact I.hok.fresh (Nat.le_of_lt (own_above h1))
  ·exact I.freeC x c (cl_sub (fun _ _ e=>by simp at e) x c h1)
 pin:=fun p hp=>by cases hp
 hok:=I.hok.kept hk
 len:=by unfold capSt;rw[List.length_map];exact B.len
def blkCX(X:Cx)(N:List Str)(scope:Scope)(use:Option (Value→Sem Unit))(Q:Value→Shared→Prop)(acc:Value)(C:Addr):Value→Shared→Prop:=
 notedBy (model X.prog X.w) X.A (compEnvC scope (clC X.env scope C) C X.env) fun e s'=>compPost (model X.prog X.w) X.A X.xe use Q acc C (.error e) s'
theorem comp_coreC{tg elt iter:Expr}{ifs:List Expr}{scope:Scope}{pos pos':Pos}{N:List Str}{caps:List (Option Nat)}{wi:TI}{g:TG}{tt:TT}{te:TE}{use:Option (Value→Sem Unit)}{Q:Value→Shared→Prop}{Qv:V→Hp→Prop}
  {xe:Value→Shared→Prop} (hc:X.calm=true) (B:BlkC X N caps scope) (hi:PI X tg iter wi)
  (hg:∀ C s₀ H₀ ex,PG (blkC X N scope C s₀ H₀ ex xe) tg g) (ht:∀ C s₀ H₀ ex,PF (blkC X N scope C s₀ H₀ ex xe) ifs tt) (he:∀ C s₀ H₀ ex,PE (blkC X N scope C s₀ H₀ ex xe) elt te)
  (I:Inv X pins σ H s) (h:wi σ H fun J H1=>tCompR g tt te (capSt caps σ) J H1 Qv)
  (fin:∀ l C H' s5,Inv X pins σ H' s5→(∃ m,s5.heap.Ns C m)→Loose X pins H' C→Qv (.ref l) H'→compPost (model X.prog X.w) X.A X.xe use Q (.ref l) C (.ok .next) s5)
  (hx:∀ acc C e s',xe e s'→blkCX X N scope use Q acc C e s')
  (hs:∀ x,foldedSetIterable iter X.env x=pure x:=by intro _;rfl) :
  wpAny (model X.prog X.w) X.A (comprehension (.ListComp elt [⟨tg,iter,ifs,0⟩] scope pos) scope X.env pos' (newList []) false (eval iter X.env) use) Q X.xe s:=by
 have hclos:closureFor scope X.env=(pure (clOf X.env scope.names []):Sem _):=clo_eq fun y hy hf=>I.ok.has y.1 (B.free y hy hf)
 refine wpAny_comprehension_free rfl hs hclos B.kind B.names (thn (hi pins s σ H _ I h) fun v s1 h1=>thn h1 fun itv s2 h2=>?_)
 obtain⟨it,fp,tn,J,H2,e,I2,T,st2,f2,hJ⟩:=h2
 subst e
 have I3:Inv X pins σ (upd H2 s2.heap.objs.size (.lst [])) { s2 with heap:=s2.heap.push { cls:=.type "list",data:=.seq ([]:List Value).toArray },toks:=s2.toks }:=I2.lnew (ys:=[]) (its:=[]) .nil (Nat.zero_le _)
 have hfr2:H2 s2.heap.objs.size=none:=I2.fresh
 obtain⟨W,⟨m0,w0⟩,turn⟩:=hJ s2.heap.objs.size hfr2
 refine wpAny_newList ?_
 generalize hs3:({ s2 with heap:=s2.heap.push { cls:=.type "list",data:=.seq ([]:List Value).toArray } }:Shared)=s3
 have es3:({ s2 with heap:=s2.heap.push { cls:=.type "list",data:=.seq ([]:List Value).toArray },toks:=s2.toks }:Shared)=s3:=hs3
 rw[es3] at I3
 have keep3:∀ b o,s2.heap.get? b=some o→s3.heap.get? b=some o:=fun b o e=>by rw[← hs3];exact Heap.get?_push_of_some _ e
 have fpo:∀ b∈fp,∃ o,s2.heap.get? b=some o∧∀ v,o.data ≠ .cell v:=T.obj _ _ st2
 have hlt2:∀ b∈fp,b < s2.heap.objs.size:=fun b hb=>by obtain⟨o,e,_⟩:=fpo b hb;exact Heap.lt_size e
 have hlt3:∀ b∈fp,b < s3.heap.objs.size:=fun b hb=>by obtain⟨o,e,_⟩:=fpo b hb;exact Heap.lt_size (keep3 b o e)
 have hf3:∀ b∈fp,FpOk X pins (upd H2 s2.heap.objs.size (.lst [])) b:=fun b hb=>⟨by rw[upd_ne (Nat.ne_of_lt (hlt2 b hb))];exact(f2 b hb).1,(f2 b hb).2⟩
 refine nfe_cells fun h₁ hns₁ keep4 hcs₁=>?_
 have I4:∀ t',Inv (blkC X N scope s3.heap.objs.size s3 (upd H2 s2.heap.objs.size (.lst [])) fp xe) [] (capSt caps σ) (upd H2 s2.heap.objs.size (.lst [])) { s3 with heap:=h₁,toks:=t' }:=fun t'=>blkC_inv B I3 hlt3 hf3 hns₁ keep4 hcs₁
 generalize hY:blkC X N scope s3.heap.objs.size s3 (upd H2 s2.heap.objs.size (.lst [])) fp xe=Y at I4
 have Yp:Y.prog=X.prog:=by rw[← hY];rfl
 have Yw:Y.w=X.w:=by rw[← hY];rfl
 have YK:Y.K=X.K:=by rw[← hY];rfl
 have Yc:Y.calm=true:=by rw[← hY];exact hc
 have YA:Y.A=X.A:=by rw[← hY];rfl
 have Yx:Y.xe=xe:=by rw[← hY];rfl
 have Ye:Y.env=compEnvC scope (clC X.env scope s3.heap.objs.size) s3.heap.objs.size X.env:=by rw[← hY];rfl
 have hgY:PG Y tg g:=by rw[← hY];exact hg _ _ _ _
 have htY:PF Y ifs tt:=by rw[← hY];exact ht _ _ _ _
 have heY:PE Y elt te:=by rw[← hY];exact he _ _ _ _
 have stat:∀{H':Hp},(∀ b∈fp,H' b=none)→∀ b∈fp,FpOk Y [] H' b:=fun {H'} hn b hb=>by
  refine⟨hn b hb,?_,?_,.inl (by rw[← hY];exact hb),?_,?_⟩
  ·rw[Ye];exact Nat.ne_of_lt (hlt3 b hb)
  ·intro hm
   rw[← hY] at hm
   rcases List.mem_cons.mp (I3.stkSub b hm) with e | e
   ·exact(f2 b hb).2.1 e
   ·exact(f2 b hb).2.2.1 e
  ·intro x c hcl
   rw[Ye] at hcl
   rcases clC_cases hcl with h1 | ⟨_,h1⟩
   ·exact Nat.ne_of_gt (Nat.lt_trans (hlt3 b hb) (own_above h1))
   ·exact(f2 b hb).2.2.2.2.1 x c (cl_sub (fun _ _ e=>by simp at e) x c h1)
  ·intro p hp
   rw[← hY] at hp
   cases hp
 have st4:tn 0 h₁:=T.keep _ _ _ st2 fun b hb o e=>keep4 b o (keep3 b o e)
 have toX:∀ e s',xe e s'→notedBy (model X.prog X.w) X.A (compEnvC scope (clC X.env scope s3.heap.objs.size) s3.heap.objs.size X.env) (fun e s'=>compPost (model X.prog X.w) X.A X.xe use Q (.ref s2.heap.objs.size) s3.heap.objs.size (.error e) s') e s':=fun e s' hxe=>hx _ _ e s' hxe
 have loop:∀ tk,codeAny (model X.prog X.w) X.A (.compLoop (.ListComp elt [⟨tg,iter,ifs,0⟩] scope pos) 0 (.ref it) (.ref s2.heap.objs.size) (compEnvC scope (clC X.env scope s3.heap.objs.size) s3.heap.objs.size X.env))
   (compPost (model X.prog X.w) X.A X.xe use Q (.ref s2.heap.objs.size) s3.heap.objs.size) { s3 with heap:=h₁,toks:=tk }:=by
  intro tk
  refine comp_loop (fun n s'=>∃ i σ' H',Inv Y [] σ' H' s'∧tn i s'.heap∧(∀ b∈fp,H' b=none)∧W i n σ' H') ?_ m0 ⟨0,_,_,I4 tk,st4,fun b hb=>(hf3 b hb).1,w0⟩
  rintro n s5 ⟨i,σ5,H5,I5,st5,fr5,w5⟩
  have moX:∀{α:Type} {t:Sem α} {Q1:α→Shared→Prop} {s:Shared},wpAny (model X.prog X.w) X.A t Q1 xe s→wpAny (model X.prog X.w) X.A t Q1
    (notedBy (model X.prog X.w) X.A (compEnvC scope (clC X.env scope s3.heap.objs.size) s3.heap.objs.size X.env) (fun e s'=>compPost (model X.prog X.w) X.A X.xe use Q (.ref s2.heap.objs.size) s3.heap.objs.size (.error e) s')) s:=
   fun h=>wpAny_mono h (fun _ _ q=>q) toX
  rcases turn i n σ5 H5 w5 with⟨stop,q⟩ | ⟨go,step⟩
  ·have z:=T.done Y Yp Yw YK Yc i [] s5 σ5 H5 xe I5 (stat fr5) st5 stop
   rw[YA] at z
   refine moX (thn z fun r s6 ⟨hr,I6⟩=>?_)
   subst hr
   obtain⟨m,hm,_⟩:=I6.loc
   have hCn:H5 s3.heap.objs.size=none:=by have z:=I6.free;rw[Ye] at z;exact z
   have un:Un (frs X.stack) fp (upd H2 s2.heap.objs.size (.lst [])) H5 s3.heap s6.heap:=by have z:=I6.base;rw[← hY] at z;exact z
   have hos:s6.os=s3.os:=by have z:=I6.os;rw[← hY] at z;exact z
   have hok:HOk X.prog X.w H5 s6.heap:=by have z:=I6.hok;rw[Yp,Yw] at z;exact z
   have IX:Inv X pins σ H5 s6:=I3.call' (ch:=fp) hos un hok I6.bare fun b hb=>⟨(f2 b hb).2.2.2.1,(f2 b hb).2.1,(f2 b hb).2.2.2.2.1,(f2 b hb).2.2.2.2.2⟩
   refine fin _ _ H5 s6 IX ⟨m,by rw[Ye] at hm;exact hm⟩ ⟨hCn,?_,I3.sz,?_,?_⟩ q
   ·exact Nat.ne_of_gt I3.lt
   ·intro x c hcl
    obtain⟨v,hv⟩:=I3.cell x c hcl
    exact Nat.ne_of_lt hv.lt
   ·intro p hp
    exact Nat.ne_of_lt (Heap.lt_size (I3.pin p hp).1)
  ·have z:=T.item Y Yp Yw YK Yc i [] s5 σ5 H5 xe I5 (stat fr5) st5 go
   rw[YA] at z
   refine moX (thn z fun r s6 ⟨u,hr,h6⟩=>?_)
   subst hr
   refine moX (thn h6 fun _ s7 ⟨x,H7,I7,r7,y7,st7,fr7⟩=>?_)
   have I7':=I7.pinned (stat fr7) (T.obj _ _ st7)
   have hN:=step x H7 y7
   have again:∀{σ':St} {H':Hp} {s':Shared} {m':Nat},m' < n→Inv Y ([]++pinsAt fp s7.heap) σ' H' s'→W (i+1) m' σ' H'→∃ m,m < n∧∃ i σ'' H'',Inv Y [] σ'' H'' s'∧tn i s'.heap∧(∀ b∈fp,H'' b=none)∧W i m σ'' H'':=fun {σ' H' s' m'} hm I' w'=>by
    refine⟨m',hm,i+1,σ',H',I'.unpinned,T.keep _ _ _ st7 fun b hb o e=>(I'.pin (b,o) (List.mem_append_right _ (List.mem_append_right _ (mem_pinsAt hb e)))).1,fun b hb=>?_,w'⟩
    obtain⟨o,e,d⟩:=T.obj _ _ st7 b hb
    exact(I'.pin (b,o) (List.mem_append_right _ (List.mem_append_right _ (mem_pinsAt hb e)))).2.1
   have z:=hgY _ s7 σ5 H7 x u _ I7' r7 hN
   rw[Yp,Yw,YA,Ye,Yx] at z
   refine moX (thn z fun _ s8 ⟨σ8,H8,I8,q8⟩=>?_)
   have z:=htY _ s8 σ8 H8 _ I8 q8
   rw[Yp,Yw,YA,Ye,Yx] at z
   refine moX (thn z fun ok s9 ⟨H9,I9,q9⟩=>?_)
   cases ok with
   | false=>
    obtain⟨m',hm,w'⟩:=q9
    exact again hm I9 w'
   | true=>
    have q9':te σ8 H9 fun v H4=>∃ xs,H4 s2.heap.objs.size=some (.lst xs)∧xs.length < sizeLine∧∃ m',m' < n∧W (i+1) m' σ8 (upd H4 s2.heap.objs.size (.lst (xs++[v]))):=q9
    have z:=heY _ s9 σ8 H9 _ I9 q9'
    rw[Yp,Yw,YA,Ye,Yx] at z
    refine moX (thn z fun u10 s10 ⟨v10,H10,I10,r10,q10⟩=>?_)
    obtain⟨xs,hl,hz,m',hm,w'⟩:=q10
    have ap:=mt_append (X:=Y) _ s10 σ8 H10 (.ref s2.heap.objs.size) [v10] (.ref s2.heap.objs.size) [u10] (fun _ H'=>W (i+1) m' σ8 H') I10 rfl (.cons r10 .nil) ⟨_,xs,v10,rfl,rfl,hl,hz,w'⟩
    rw[Yp,Yw,YA,Yx] at ap
    refine moX (thn ap fun _ s11 ⟨_,H11,I11,_,w11⟩=>again hm I11 w11)
 exact codeAny_compStart_list (loop _) (T.self _ 0 _ _ _ st4 (loop _))
theorem ps_setcompC{i:Nat}{x:Str}{pos':Pos}{tg elt iter:Expr}{ifs:List Expr}{scope:Scope}{pos spos:Pos}(N:List Str)(caps:List (Option Nat)){wi:TI}{g:TG}{tt:TT}{te:TE}(hc:X.calm=true)
  (hN:X.N.Nodup) (hi':X.N[i]? = some x) (hx:Loc X.env.scope x) (B:BlkC X N caps scope) (hi:PI X tg iter wi)
  (hg:∀ C s₀ H₀ ex,PG (blkC X N scope C s₀ H₀ ex fun _ _=>False) tg g) (ht:∀ C s₀ H₀ ex,PF (blkC X N scope C s₀ H₀ ex fun _ _=>False) ifs tt) (he:∀ C s₀ H₀ ex,PE (blkC X N scope C s₀ H₀ ex fun _ _=>False) elt te)
  (hsw:swapsWith (.ListComp elt [⟨tg,iter,ifs,0⟩] scope pos) (some (.Name x pos')) spos.line X.env=pure true:=by rfl)
  (hs:∀ x,foldedSetIterable iter X.env x=pure x:=by intro _;rfl) (hf:X.fn x=true∨X.env.scope.names.lookup x=some .local:=by first | exact .inl rfl | exact .inr rfl | assumption) :
  PS X (.Assign [.Name x pos'] (.ListComp elt [⟨tg,iter,ifs,0⟩] scope pos) spos) (tAsg (tComp caps wi g tt te) (gName i)):=by
 intro pins s σ H D I h
 rw[exec_Assign_Name_used _ _ _ _ hsw]
 refine wpAny_bind (wpAny_standAt (wpAny_bind ?_))
 show wpAny _ X.A (do let _ ← comprehension (.ListComp elt [⟨tg,iter,ifs,0⟩] scope pos) scope X.env _ (newList []) false (eval iter X.env) (some (assign (.Name x pos') X.env))) _ _ s
 refine wpAny_bind (wpAny_mono (comp_coreC (use:=some (assign (.Name x pos') X.env)) (Q:=fun _ s'=>SP X pins D .next s') (Qv:=fun v H1=>gName i v σ H1 D.nx) hc B hi hg ht he I h (fun l C H' s5 I5 ⟨m,hm⟩ lo q=>?_) (fun _ _ _ _ f=>f.elim) hs)
  (fun _ s' hq=>wpAny_pure (wpAny_pure hq)) fun _ _ e=>e)
 show wpAny _ X.A (assign (.Name x pos') X.env (.ref l)) _ _ _
 refine wpAny_assign_Name (store_ok2 I5 hN hi' hx (v:=.ref l) rfl (fun s6 I6 ⟨a,sb,ha⟩=>?_) hf)
 have hCa:C≠a:=by
  rcases ha with e | e
  ·rw[e];exact lo.loc
  ·exact Ne.symm (lo.cel x a e)
 refine⟨m,hm.sameBut sb hCa,fun h' hs'=>⟨_,H',?_,q⟩⟩
 exact I6.turned (it:=C) (t':=s6.toks) (fun b o hb e=>hs'.extBut b o hb e) lo.un lo.loc (.inr lo.ab) lo.cel lo.pin
end
def relS(scope sc:Scope):Scope:=
 { scope with names:=scope.names.map fun(n,k)=>if(k == .free && sc.kind == .function && sc.names.lookup n == some .cell) then(n,.cell) else(n,k) }
def blkOkC(sc:Scope)(N0 N:List Str)(caps:List (Option Nat))(scope:Scope):Bool:=
 decide (scope.kind = .function) && scope.names.all (fun y=>decide (y.2 ≠ .cell) || decide (scope.names.lookup y.1=some .cell)) && scope.names.all (fun y=>decide (y.2 ≠ .local) || decide (scope.names.lookup y.1=some .local)) &&
 scope.names.all (fun y=>decide (y.2 ≠ .free) || (decide (sc.names.lookup y.1=some .cell) || decide (sc.names.lookup y.1=some .free))) && decide (caps.length=N.length) &&
 (List.range caps.length).all fun i=>match caps[i]?,N[i]? with
  | some (some j),some x=>decide (N0[j]? = some x) && (decide (sc.names.lookup x=some .cell) || decide (sc.names.lookup x=some .free)) && decide (scope.names.lookup x=some .free)
  | _,_=>true
theorem BlkC.by{X:Cx}{N:List Str}{caps:List (Option Nat)}{scope:Scope}{sc:Scope}{N0:List Str}(hsc:X.env.scope=sc)(hN:X.N=N0)(h:blkOkC sc N0 N caps scope=true):BlkC X N caps scope:=by
 unfold blkOkC at h
 simp only[Bool.and_eq_true,decide_eq_true_eq,List.all_eq_true,Bool.or_eq_true] at h
 obtain⟨⟨⟨⟨⟨h1,h2⟩,h3⟩,h4⟩,h5⟩,h6⟩:=h
 subst hsc
 subst hN
 refine⟨h1,fun y hy e=>(h2 y hy).elim (fun z=>absurd e z) id,fun y hy e=>(h3 y hy).elim (fun z=>absurd e z) id,fun y hy e=>(h4 y hy).elim (fun z=>absurd e z) id,h5,fun i j x e1 e2=>?_⟩
 have hi:i < caps.length:=(List.getElem?_eq_some_iff.mp e1).1
 have z:=h6 i (List.mem_range.mpr hi)
 rw[e1,e2] at z
 simp only[Bool.and_eq_true,decide_eq_true_eq,Bool.or_eq_true] at z
 exact⟨z.1.1,.inr z.1.2,z.2⟩
theorem pi_listK{X:Cx}{tg:Expr}(K:PySem.W.Frag)(hK:X.K=K){l:Expr}{tl:TE}(hl:PE X l tl):PI X tg l (iList K tl):=by
 subst hK
 exact pi_list hl
end L2
namespace L2
open PySem PySem.Spec PyProof.Rows
theorem op_neD{X:Cx}{d:Nat}(hd:d≤60)(hu:X.A.units+64 < cLine):OpR X (compareOp .NotEq) (fun x y H Q=>∃ a b,x = .ref a∧y = .ref b∧DeepEq X.K H d x y∧Q (.bl false) H):=by
 intro pins s σ H x y v u Q I rx ry h
 obtain⟨a,b,rfl,rfl,h,q⟩:=h
 cases rx
 cases ry
 cases h with
 | flat f=>cases f
 | @tup d _ _ xs ys hp hq hl hi=>
  obtain⟨its,r1,p1,_⟩:=I.tuple hp
  obtain⟨its2,r2,p2,_⟩:=I.tuple hq
  have l1:=r1.length
  have l2:=r2.length
  refine SeqAt.RcNeAt.tuples (e:=fun _=>true) p1 p2 (by omega) (fun j h1 h2=>DeepEq.at I (hi j (item_rel r1 h1).2) (A:=X.A.in1) (item_rel r1 h1).1 (item_rel r2 h2).1 (by show X.A.units+1+d < cLine;omega)) _ _ _ _ ⟨.bl _,H,I,rfl,?_⟩
  have ez:((List.range (min its.toArray.size its2.toArray.size)).all (fun _=>true) && its.toArray.size == its2.toArray.size)=true:=by
   rw[all_t,Bool.true_and]
   simp [← l1,← l2,hl]
  rw[ez]
  exact q
 | @lst d _ _ xs ys hp hq hl hi=>
  obtain⟨its,r1,p1,_⟩:=I.list hp
  obtain⟨its2,r2,p2,_⟩:=I.list hq
  have l1:=r1.length
  have l2:=r2.length
  refine SeqAt.RcNeAt.lists (e:=fun _=>true) p1.isList p2.isList (by simp [← l1,← l2,hl]) (by omega) (fun j h1 h2=>DeepEq.at I (hi j (item_rel r1 h1).2) (A:=X.A.in1) (item_rel r1 h1).1 (item_rel r2 h2).1 (by show X.A.units+1+d < cLine;omega)) _ _ _ _ ⟨.bl _,H,I,rfl,?_⟩
  rw[all_t]
  exact q
end L2
namespace L2
open PySem PySem.Spec PyProof.Rows
end L2
namespace L2
open PySem PySem.Spec PyProof.Rows
variable{X:Cx}
end L2
namespace L2
open PySem PySem.Spec PyProof.Rows
end L2
namespace HT
open PySem PySem.Spec PyProof.Rows
section
variable{prog:Program}{w:World}{A:Around}{E:Value→Shared→Prop}{s:Shared}
theorem getItem_tuple_all{t sl:Addr}{items:Array Value}{vl vu:Value}{lo hi:Option Int}{Q:Value→Shared→Prop}(ht:IsTup s.heap t items)(hs:s.heap.IsSliceOf sl vl vu .none)(pl:IsPart vl lo)(pu:IsPart vu hi)
  (hw:sIx items.size 0 lo=0∧sIx items.size items.size hi=items.size) (h:Q (.ref t) s):wpAny (model prog w) A (getItem (.ref t) (.ref sl)) Q E s:=by
 obtain⟨os,hos,hcs,hds⟩:=id hs
 have hTs:s.TypeIs (.ref sl) "slice":=⟨os,hos,hcs⟩
 unfold getItem
 try with_reducible refine wpAny_holding ?_
 first | refine wpAny_bind (wpAny_pure ?_) | skip
 refine wpAny_bind (wpAny_sequenceKey ht.typeIs (by decide) ?_)
 refine wpAny_bind (wpAny_callSpecial?_slot (name:=Str.ofString "__getitem__") ht.typeIs PyProof.Rows.slot_tuple_getitem
  (wpAny_call_entry PyProof.Rows.slot_tuple_getitem ht.typeIs entry_tuple_getitem ?_ (args_tuple_getitem _ _)))
 show wpAny _ _ (Builtin.Tuple.tupleItemsOf (.ref t) >>= _) _ _ s
 refine wpAny_bind (tupleItemsOf_ ht ?_)
 refine wpAny_bind (wpAny_typeOf hTs ?_)
 rw[if_pos (by decide)]
 refine wpAny_bind (sliceApplied_gen hs pl pu ?_)
 have hyes:(((sIx items.size 0 lo:Nat):Int) == 0 && (1:Int) == 1 && (sIx items.size items.size hi - sIx items.size 0 lo) == items.size)=true:=by
  rw[hw.1,hw.2,Nat.sub_zero]
  simp
 show wpAny _ _ (if(((sIx items.size 0 lo:Nat):Int) == 0 && (1:Int) == 1 && (sIx items.size items.size hi - sIx items.size 0 lo) == items.size)=true then _ else _) _ _ s
 rw[if_pos hyes]
 refine wpAny_bind (m:=Builtin.Tuple.tupleIsExact _) ?_
 unfold Builtin.Tuple.tupleIsExact
 refine wpAny_bind (wpAny_typeOf ht.typeIs (wpAny_pure ?_))
 rw[if_pos (by decide)]
 refine wpAny_bind (wpAny_rule ?_)
 exact wpAny_pure ⟨_,rfl,wpAny_pure h⟩
end
end HT
namespace L2
open PySem PySem.Spec PyProof.Rows
section
variable{X:Cx}
def rSlG:V→Option Int→Option Int→Hp→VK→Prop:=fun x lo hi H Q=>∃ a xs,x = .ref a∧H a=some (.tup xs)∧∀ p H',Same H H'→H' p=some (.tup (cutV xs lo hi))→Q (.ref p) H'
theorem sl_tupG:SlR X rSlG:=by
 intro pins s σ H x v vl vu lo hi sl Q I rx hs pl pu h
 obtain⟨a,xs,rfl,hx,q⟩:=h
 by_cases hw:HT.sIx xs.length 0 lo=0∧HT.sIx xs.length xs.length hi=xs.length
 ·cases rx
  obtain⟨its,r,ht,hz⟩:=I.tuple (SqT.of hx)
  have hlen:its.toArray.size=xs.length:=by rw[List.size_toArray];exact r.length.symm
  refine⟨"tuple",_,PyProof.Rows.slot_tuple_getitem.lookup,ht.typeIs,?_⟩
  refine HT.getItem_tuple_all ht hs pl pu (by rw[hlen];exact hw) ⟨.ref a,H,I,rfl,q a H (Same.refl H) ?_⟩
  have e:cutV xs lo hi=xs:=by
   unfold cutV
   rw[hw.1,hw.2,List.drop_zero,Nat.sub_zero,List.take_length]
  rw[e]
  exact hx
 ·exact sl_tup pins s σ H _ v vl vu lo hi sl Q I rx hs pl pu ⟨a,xs,rfl,SqT.of hx,hw,fun p hp=>q p _ (same_upd hp _) upd_same⟩
end
end L2
namespace L2
open PySem PySem.Spec PyProof.Rows
section
variable{prog:Program}{w:World}
abbrev PKey:=List Key×Int×List Key
variable{A:Around}{E:Value→Shared→Prop}{s:Shared}
end
end L2
namespace L2
open PySem PySem.Spec PyProof.Rows
abbrev PEnt:=PKey×Addr×Int
section
variable{P:Program}{w:World}{H:Hp}{h:Heap}{a:Addr}
end
section
variable{X:Cx}{o i value:Expr}{td ty tv:TE}{pos pos':Pos}
end
end L2
namespace L2
open PySem PySem.Spec PyProof.Rows
end L2
namespace My
open PySem L2
abbrev sHasSeat:Stmt:=top 5
def totC(hs:List Nat):Nat:=(hs.map (pcK 32)).sum
def gainN(side:Nat):Option Nat→Nat
 | none=>0
 | some s=>if side.testBit s=true then 1 else 0
open Classical in
noncomputable def nxF (fx:Fx) (t:Option Nat) (hs:List Nat) (lead:Nat) (ys:List Nat) (h c:Nat):List Nat×Nat×List Nat×Option Nat:=
 if e:∃ z:List Nat×Nat×List Nat×Option Nat,Nxt fx t hs lead ys h c z.1 z.2.1 z.2.2.1 z.2.2.2 then Classical.choose e else([],0,[],none)
def pickN(b:Bool)(ns:List Nat):Nat:=if ns=[] then 0 else if b=true then ns.foldl max 0 else(ns.drop 1).foldl min (ns.getD 0 0)
noncomputable def valF (fx:Fx) (t:Option Nat) (side:Nat):Nat→List Nat→Nat→List Nat→Nat
 | 0,_,_,_=>0
 | k+1,hs,lead,ys=>pickN (side.testBit ((lead+ys.length) % fx.n)) ((mayL fx t ys (hs.getD ((lead+ys.length) % fx.n) 0)).map fun c=>
   gainN side (nxF fx t hs lead ys (hs.getD ((lead+ys.length) % fx.n) 0) c).2.2.2+valF fx t side k (nxF fx t hs lead ys (hs.getD ((lead+ys.length) % fx.n) 0) c).1 (nxF fx t hs lead ys (hs.getD ((lead+ys.length) % fx.n) 0) c).2.1 (nxF fx t hs lead ys (hs.getD ((lead+ys.length) % fx.n) 0) c).2.2.1)
noncomputable def valP (fx:Fx) (t:Option Nat) (side:Nat) (hs:List Nat) (lead:Nat) (ys:List Nat):Nat:=valF fx t side (totC hs) hs lead ys
noncomputable def numP (fx:Fx) (t:Option Nat) (side:Nat) (hs:List Nat) (lead:Nat) (ys:List Nat) (c:Nat):Nat:=
 gainN side (nxF fx t hs lead ys (hs.getD ((lead+ys.length) % fx.n) 0) c).2.2.2+valP fx t side (nxF fx t hs lead ys (hs.getD ((lead+ys.length) % fx.n) 0) c).1 (nxF fx t hs lead ys (hs.getD ((lead+ys.length) % fx.n) 0) c).2.1 (nxF fx t hs lead ys (hs.getD ((lead+ys.length) % fx.n) 0) c).2.2.1
section
variable{P:Program}{w:World}{K:PySem.W.Frag}{mg:Str→Option Value}{base:Heap}{f g:Addr}{fd gd:FuncData}
def spHasSeat:Sp:=fun vs H Q _=>∃ side seat:Nat,vs=[.int (side:Nat),.int (seat:Nat)]∧Q (.bl (side.testBit seat)) H
theorem scHasSeat:FnScope ["side","seat"] ["side","seat"] (defScope sHasSeat):=⟨rfl,rfl,rfl,by decide +kernel,rfl,by decide +kernel,by decide +kernel⟩
theorem ok_hasSeat{k:Nat}(F:Fun K "has_seat" "has_seat" sHasSeat f fd):FnOk P w K mg base CX0 (k+1) f fd ["side","seat"] spHasSeat:=by
 refine F.ok scHasSeat (fun vs H Q E h=>?_) (fun cdv A outer s H vs Q E hr h=>?_)
 ·obtain⟨side,seat,rfl,_⟩:=h
  rfl
 obtain⟨side,seat,rfl,q⟩:=h
 refine⟨_,pss_one (ps_ret (pe_cmpR op_eq (pe_op op_and (pe_op op_shr (pv 0) (pv 1)) pe_int) pe_int (nomark _))),?_⟩
 refine⟨_,rfl,_,rfl,_,_,rfl,rfl,by omega,_,_,rfl,rfl,rfl,?_⟩
 have e:decide (V.int (Builtin.bitAnd (((side:Nat):Int) / 2 ^ (((seat:Nat):Int)).toNat) 1)=V.int 1)=side.testBit seat:=by
  have e1:((side:Nat):Int) / 2 ^ (((seat:Nat):Int)).toNat=((side / 2 ^ seat:Nat):Int):=by
   rw[Int.toNat_natCast,Int.natCast_ediv,Int.natCast_pow]
   rfl
  rw[e1,and1,Nat.testBit_eq_decide_div_mod_eq,eq_int]
  exact decide_eq_decide.mpr ⟨fun h=>by omega,fun h=>by omega⟩
 show Q (V.bl (decide (V.int (Builtin.bitAnd (((side:Nat):Int) / 2 ^ (((seat:Nat):Int)).toNat) 1)=V.int 1))) H
 rw[e]
 exact q
section
variable{CR r gm d:Addr}{fx:Fx}{t:Option Nat}{side:Nat}{H H':Hp}{es:List PEnt}
end
noncomputable def prL (fx:Fx) (t:Option Nat) (side:Nat) (hs:List Nat) (lead:Nat) (ys:List Nat) (m:Nat):List (Nat×Nat):=(moveL fx t hs lead ys m).map fun c=>(c,numP fx t side hs lead ys c)
end
end My
namespace My
open PySem L2
abbrev sMixed:Stmt:=top 12
abbrev sOrder:Stmt:=top 13
abbrev sRules:Stmt:=top 14
section
variable{P:Program}{w:World}{K:PySem.W.Frag}{mg:Str→Option Value}{base:Heap}{f g:Addr}{fd gd:FuncData}
def spMixed(K:PySem.W.Frag):Sp:=fun vs H Q _=>∃(a:Addr) (ns:List Int) (k:Int),vs=[.ref a,.int k]∧SqL K H a (ns.map V.int)∧ns.length≤63∧0≤k∧k≤10000∧∀ z:Int,Q (.int z) H
abbrev pMixed:List Str:=["_law_script","_law_k"]
theorem scMixed:FnScope ["_law_script","_law_k","_law_number","_law_root"] pMixed (defScope sMixed):=⟨rfl,rfl,rfl,by decide +kernel,rfl,by decide +kernel,by decide +kernel⟩
theorem wide_of{i:Int}(h:i.natAbs < 2 ^ 900):Wide i:=Nat.lt_trans h (Nat.pow_lt_pow_right (by decide) (by decide))
theorem small_wide{i:Int}(h0:-(10 ^ 100) < i)(h1:i < 10 ^ 100):i.natAbs < 2 ^ 900:=by
 have e:(10:Int) ^ 100=((10 ^ 100:Nat):Int):=by decide
 have l:(10:Nat) ^ 100 < 2 ^ 900:=by decide
 rw[e] at h0 h1
 omega
theorem ok_mixed{k:Nat}(F:Fun K "_law_mixed" "_law_mixed" sMixed f fd)(ml:mg "len" = none):FnOk P w K mg base CX0 (k+1) f fd pMixed (spMixed K):=by
 refine F.ok scMixed (fun vs H Q E h=>?_) (fun cdv A outer s H vs Q E hr h=>?_)
 ·obtain⟨a,ns,k,rfl,_⟩:=h
  rfl
 obtain⟨a,ns,j,rfl,hS,h63,h0,h1,q⟩:=h
 refine⟨_,pss_cons (ps_set (i:=2) scMixed.nd rfl (Or.inl rfl) (pe_op op_add (pv 1) pe_int))
  (pss_cons (ps_if (pt_cmpR op_gt (pe_callB call_len_seq rfl ml PySem.boot_len (pa_cons (pv 0) pa_nil)) pe_int (nomark _))
   (pss_one (ps_set (i:=2) scMixed.nd rfl (Or.inl rfl) (pe_op op_add (pv 2) (pe_op op_mul (pe_op op_mod (pe_ix ix_list (pv 0) (pe_op op_mod (pv 1) (pe_callB call_len_seq rfl ml PySem.boot_len (pa_cons (pv 0) pa_nil))) (fun _ _=>rfl)) (pe_op op_pow pe_int pe_int))
    (pe_op op_add (pe_op op_fdiv (pv 1) (pe_callB call_len_seq rfl ml PySem.boot_len (pa_cons (pv 0) pa_nil))) pe_int))))) pss_nil)
  (pss_cons (ps_set (i:=3) scMixed.nd rfl (Or.inl rfl) (pe_op op_mul (pv 2) pe_int))
  (pss_one (ps_ret (pe_op op_fdiv (pe_op op_mulW (pe_op op_mulW (pv 3) (pv 3)) (pv 3)) pe_int))))),?_⟩
 have hl:(ns.map V.int).length=ns.length:=List.length_map _
 refine⟨_,rfl,_,_,rfl,rfl,_,rfl,a,_,rfl,.inl hS,_,_,rfl,rfl,_,rfl,?_⟩
 have fin:∀ n:Int,0≤n→n < 10 ^ 70→∀ σ:St,σ[2]? = some (some (V.int n))→σ.length=4 →
   (tSeq (tAsg (tOp (rI CMul fun i j=>.int (i * j)) (tVar 2) (tC (.int 6364136223846793005))) (gName 3)) (tRet (tOp (rI CDiv fun i j=>.int (i / j)) (tOp (rI CMulW fun i j=>.int (i * j)) (tOp (rI CMulW fun i j=>.int (i * j)) (tVar 3) (tVar 3)) (tVar 3)) (tC (.int 1000003)))):TS)
    { nx:=fun _ H'=>Q .non H',rt:=Q } σ H:=by
  intro n n0 n1 σ e2 hlen
  have e70:(10:Int) ^ 70=10000000000000000000000000000000000000000000000000000000000000000000000:=by decide
  have e100:(10:Int) ^ 100=10000000000000000000000000000000000000000000000000000000000000000000000000000000000000000000000000000:=by decide
  rw[e70] at n1
  have e3:(σ.set 3 (some (V.int (n * 6364136223846793005))))[3]? = some (some (V.int (n * 6364136223846793005))):=by
   rw[List.getElem?_set_self (by omega)]
  have w1:(n * 6364136223846793005).natAbs < 2 ^ 900:=small_wide (by rw[e100];omega) (by rw[e100];omega)
  have w2:(n * 6364136223846793005 * (n * 6364136223846793005)).natAbs < 2 ^ 1800:=by
   rw[Int.natAbs_mul]
   have:(2:Nat) ^ 1800=2 ^ 900 * 2 ^ 900:=by rw[← Nat.pow_add]
   rw[this]
   exact Nat.mul_lt_mul'' w1 w1
  refine⟨_,e2,_,_,rfl,rfl,.inr ⟨by decide,by decide⟩,?_⟩
  refine⟨_,e3,_,e3,_,_,rfl,rfl,⟨wide_of w1,wide_of w1⟩,_,e3,_,_,rfl,rfl,⟨Nat.lt_trans w2 (Nat.pow_lt_pow_right (by decide) (by decide)),wide_of w1⟩,_,_,rfl,rfl,⟨by decide,by decide⟩,?_⟩
  exact q _
 refine ite2 (fun c=>?_) (fun c=>?_)
 ·have c':(((ns.map V.int).length:Nat):Int) > 0:=of_decide_eq_true c
  rw[hl] at c'
  obtain⟨v,hv⟩:=item_at (ns:=ns) (k:=j) (by omega)
  have d0:0≤j / (((ns.map V.int).length:Nat):Int):=Int.ediv_nonneg h0 (by omega)
  have d1:j / (((ns.map V.int).length:Nat):Int)≤j:=Int.ediv_le_self _ h0
  have p0:(0:Int) < 10 ^ (64:Int).toNat:=by decide
  have m0:0≤v % 10 ^ (64:Int).toNat:=Int.emod_nonneg _ (by omega)
  have m1:v % 10 ^ (64:Int).toNat < 10 ^ (64:Int).toNat:=Int.emod_lt_of_pos _ p0
  refine⟨_,rfl,_,rfl,_,rfl,_,rfl,a,_,rfl,.inl hS,_,_,rfl,rfl,(by rw[hl];omega),a,_,_,_,rfl,rfl,hS,hv,_,_,rfl,rfl,⟨by decide,by decide,by decide⟩,_,_,rfl,rfl,p0,_,rfl,_,rfl,a,_,rfl,.inl hS,_,_,rfl,rfl,⟨by rw[hl];omega,by rw[hl];omega⟩,_,_,rfl,rfl,_,_,rfl,rfl,.inr ⟨by omega,by omega⟩,_,_,rfl,rfl,?_⟩
  refine fin _ ?_ ?_ _ rfl rfl
  ·have:=Int.mul_nonneg m0 (show 0≤j / (((ns.map V.int).length:Nat):Int)+1 by omega)
   omega
  ·have z:=Int.mul_le_mul_of_nonneg_left (show j / (((ns.map V.int).length:Nat):Int)+1≤10001 by omega) m0
   have e64:(10:Int) ^ (64:Int).toNat=10000000000000000000000000000000000000000000000000000000000000000:=by decide
   have e70:(10:Int) ^ 70=10000000000000000000000000000000000000000000000000000000000000000000000:=by decide
   rw[e64] at m1
   rw[e70]
   rw[e64] at z ⊢
   omega
 ·refine fin _ (by omega) ?_ _ rfl rfl
  have e70:(10:Int) ^ 70=10000000000000000000000000000000000000000000000000000000000000000000000:=by decide
  rw[e70]
  omega
theorem refs_at(F:Nat→Addr→Prop):∀(vs:List V) (k:Nat),(∀ i v,vs[i]? = some v→∃ p,v = .ref p∧F (k+i) p)→∃ ps:List Addr,vs=ps.map V.ref∧∀ i p,ps[i]? = some p→F (k+i) p
 | [],_,_=>⟨[],rfl,fun i p h=>by simp at h⟩
 | v :: vs,k,h=>by
  obtain⟨p,e,hp⟩:=h 0 v rfl
  obtain⟨ps,e2,hs⟩:=refs_at F vs (k+1) (fun i v hv=>by
   obtain⟨p,e,z⟩:=h (i+1) v (by simpa using hv)
   exact⟨p,e,by rwa [show k+1+i=k+(i+1) by omega]⟩)
  refine⟨p :: ps,by rw[e,e2];rfl,fun i u hu=>?_⟩
  cases i with
  | zero=>
   have e:p=u:=by simpa using hu
   subst e
   exact hp
  | succ i=>
   have z:=hs i u (by simpa using hu)
   rwa [show k+1+i=k+(i+1) by omega] at z
def snd2(H:Hp)(p:Addr):Nat:=match H p with | some (.tup [_,.int i])=>i.toNat | _=>0
def sndV(H:Hp)(x:V):V:=match x with | .ref p=>.int ((snd2 H p:Nat):Int) | _=>.non
structure Prs(H:Hp)(ps:List Addr)(xs:List Nat):Prop where
 len:ps.length=xs.length
 at_:∀(i:Nat) (p:Addr) (c:Nat),ps[i]? = some p→xs[i]? = some c→∃ x:Int,H p=some (.tup [.int x,.int ((c:Nat):Int)])
theorem Prs.map{H:Hp}{ps:List Addr}{xs:List Nat}(h:Prs H ps xs):ps.map (snd2 H)=xs:=by
 apply List.ext_getElem?
 intro i
 rw[List.getElem?_map]
 cases e:ps[i]? with
 | none=>
  have:xs[i]? = none:=by
   rw[List.getElem?_eq_none_iff] at *
   rw[← h.len]
   exact e
  rw[this]
  rfl
 | some p=>
  have hi:i < xs.length:=by rw[← h.len];exact(List.getElem?_eq_some_iff.mp e).1
  obtain⟨x,hx⟩:=h.at_ i p _ e (List.getElem?_eq_getElem hi)
  rw[List.getElem?_eq_getElem hi]
  show some (snd2 H p)=some xs[i]
  unfold snd2
  rw[hx]
  exact congrArg some (Int.toNat_natCast _)
theorem Prs.tup{H:Hp}{ps:List Addr}{xs:List Nat}(h:Prs H ps xs):∀ p∈ps,∃ x:Int,H p=some (.tup [.int x,.int ((snd2 H p:Nat):Int)]):=fun p hp=>by
 obtain⟨i,hi⟩:=List.getElem?_of_mem hp
 have hl:i < xs.length:=by rw[← h.len];exact(List.getElem?_eq_some_iff.mp hi).1
 obtain⟨x,hx⟩:=h.at_ i p _ hi (List.getElem?_eq_getElem hl)
 refine⟨x,?_⟩
 unfold snd2
 rw[hx]
 show some (HO.tup [V.int x,V.int _])=some (HO.tup [V.int x,V.int ((((xs[i]:Nat):Int).toNat:Nat):Int)])
 rw[Int.toNat_natCast]
def spOrder(K:PySem.W.Frag):Sp:=fun vs H Q _=>∃(a:Addr) (ns:List Int) (k h:Nat),vs=[.ref a,.int (k:Nat),.int (h:Nat)]∧SqL K H a (ns.map V.int)∧ns.length≤63∧k≤1000∧h≤8∧∀(l:Addr) (ls:List Nat) H',ls.Perm (List.range h)→Same H H'→H l=none→H' l=some (.lst (vN ls))→Q (.ref l) H'
abbrev pOrder:List Str:=["_law_script","_law_k","_law_heights"]
abbrev nOrder:List Str:=["_law_script","_law_k","_law_heights","_law_order_here"]
abbrev nO1:List Str:=["_law_height","_law_script","_law_k"]
theorem scOrder:FnScope nOrder pOrder (defScope sOrder):=⟨rfl,rfl,rfl,by decide +kernel,rfl,by decide +kernel,by decide +kernel⟩
theorem ok_order{k:Nat}{f1:Addr}{d1:FuncData}(F:Fun K "_law_order" "_law_order" sOrder f fd)(LX:Lib P w K mg base k "_law_mixed" pMixed (spMixed K) f1 d1)(mr:mg "range" = none)(mso:mg "sorted" = none):FnOk P w K mg base CX0 (k+1) f fd pOrder (spOrder K):=by
 refine F.ok scOrder (fun vs H Q E h=>?_) (fun cdv A outer s H vs Q E hr h=>?_)
 ·obtain⟨a,ns,kk,h,rfl,_⟩:=h
  rfl
 obtain⟨a,ns,kk,h,rfl,hS,h63,k1000,h8,q⟩:=h
 refine⟨_,pss_cons (ps_set (i:=3) scOrder.nd rfl (Or.inl rfl) (pe_callB call_sorted2 rfl mso PyProof.Rows.boot_sorted (pa_cons (pe_comp nO1 [none,some 0,some 1] rfl (Blk.by (sc:=defScope sOrder) (N0:=nOrder) rfl rfl (by decide +kernel)) (pi_range1 rfl mr (pa_cons (pv 2) pa_nil))
   (fun C s₀ H₀ ex=>pg_name (i:=0) (show nO1.Nodup by decide +kernel) rfl (Or.inl rfl)) (fun C s₀ H₀ ex=>pf_nil)
   (fun C s₀ H₀ ex=>pe_tup (pa_cons (pe_op op_mod (pe_call LX.ok hr rfl LX.mg LX.kp LX.bd .nil pass0 (pa_cons (pv 1) (pa_cons (pe_op op_add (pv 2) (pv 0)) pa_nil))) pe_int) (pa_cons (pv 0) pa_nil)))) pa_nil)))
  (pss_one (ps_ret (pe_comp ["_law_pair"] [none] rfl (Blk.by (sc:=defScope sOrder) (N0:=nOrder) rfl rfl (by decide +kernel)) (pi_list (pv 3)) (fun C s₀ H₀ ex=>pg_name (i:=0) (show(["_law_pair"]:List Str).Nodup by decide +kernel) rfl (Or.inl rfl)) (fun C s₀ H₀ ex=>pf_nil)
   (fun C s₀ H₀ ex=>pe_ix (show IxR _ (rIxT K) from ix_tup) (pv 0) pe_int (fun _ _=>rfl))))),?_⟩
 refine⟨_,rfl,(h:Int),rfl,by omega,by omega,?_⟩
 refine comp_some (n:=h) (lo:=0) (fun i v H=>∃(p:Addr) (x:Int),v = .ref p∧H p=some (.tup [.int x,.int ((i:Nat):Int)])) (fits3 _ (by omega)) (fun i v H H' ⟨p,x,e,h⟩ sm=>⟨p,x,e,sm _ _ h⟩) (fun i v H l xs ys ⟨p,x,e,h⟩ hl=>⟨p,x,e,?_⟩) (fun i H2 hi sm R hR=>?_) (fun l H2 vs sm hl hL hvl hvs=>?_)
 ·rw[upd_ne (fun z=>by rw[z,hl] at h;cases h)]
  exact h
 ·refine⟨_,rfl,_,rfl,_,rfl,_,_,rfl,rfl,a,ns,((kk:Nat):Int)+(0+((i:Nat):Int)),rfl,sm.seq hS,h63,by omega,by omega,fun y=>?_⟩
  refine⟨_,_,rfl,rfl,(show(0:Int) < 10007 by decide),_,rfl,fits3 2 (by decide),fun p hp=>hR _ _ (same_upd hp _) ⟨p,y % 10007,rfl,?_⟩⟩
  rw[upd_same,Int.zero_add]
 obtain⟨ps,rfl,hps⟩:=refs_at (fun i p=>∃ x:Int,H2 p=some (.tup [.int x,.int ((i:Nat):Int)])) vs 0 fun i v hv=>by
  obtain⟨p,x,e,h⟩:=hvs i v hv
  exact⟨p,e,x,by rw[Nat.zero_add];exact h⟩
 rw[List.length_map] at hvl
 have Pr:Prs H2 ps (List.range h):=⟨by rw[hvl,List.length_range],fun i p c e1 e2=>by
  obtain⟨x,hx⟩:=hps i p e1
  have hi:i < h:=by
   have:=(List.getElem?_eq_some_iff.mp e2).1
   rw[List.length_range] at this
   exact this
  rw[List.getElem?_range hi] at e2
  cases e2
  exact⟨x,by rw[hx,Nat.zero_add]⟩⟩
 refine⟨l,ps,rfl,SqL.of hL,by omega,fun p hp=>?_,fun l2 qs hl2 pq=>?_⟩
 ·obtain⟨x,hx⟩:=Pr.tup p hp
  exact⟨_,_,SqT.of hx⟩
 have ql:qs.length=h:=pq.length_eq.trans hvl
 have sm2:=same_upd hl2 (.lst (qs.map V.ref))
 refine⟨_,rfl,l2,rfl,⟨_,SqL.of upd_same⟩,comp_list (K:=K) (xs:=qs.map V.ref) (fun _=>true) (sndV H2) (SqL.of upd_same) (fits3 _ (by rw[List.length_map];omega)) (fun x H3 hx sm R hR=>hR H3 (Same.refl H3)) (fun x H3 hx hp sm4 R hR=>?_) (fun l4 H4 sm4 hl4 hL4=>?_)⟩
 ·obtain⟨p,hp,rfl⟩:=List.mem_map.mp hx
  obtain⟨x,hx⟩:=Pr.tup p (pq.mem_iff.mp hp)
  exact⟨_,rfl,p,_,_,_,rfl,rfl,SqT.of (sm4 _ _ (sm2 _ _ hx)),atI_nat (j:=1) rfl,hR H3 (Same.refl H3)⟩
 ·rw[List.filter_eq_self.mpr fun _ _=>rfl,List.map_map] at hL4
  have pm:(qs.map (snd2 H2)).Perm (List.range h):=by rw[← Pr.map];exact pq.map _
  refine q l4 (qs.map (snd2 H2)) H4 pm ((sm.trans sm2).trans sm4) (sm.free (sm2.free hl4)) ?_
  rw[hL4]
  unfold vN
  rw[List.map_map]
  rfl
def trI:Option Nat→Int
 | none=>4
 | some u=>((u:Nat):Int)
def rtV(f:Fx)(t:Option Nat)(sz:Nat)(lo:Addr):List V:=[.int (f.n:Nat),.int (f.s:Nat),.int (sz:Nat),.str (wd f.d),.int (trI t),.ref lo]
def IsRt(H:Hp)(d:Addr)(f:Fx)(t:Option Nat)(sz:Nat):Prop:=∃ lo lp lh,H d=some (.tup (rtV f t sz lo))∧H lo=some (.lst [.ref lp,.ref lh])∧H lp=some (.lst (vN f.pl))∧H lh=some (.lst (vN f.tr))
theorem IsRt.same{H H':Hp}{d:Addr}{f:Fx}{t:Option Nat}{sz:Nat}(h:IsRt H d f t sz)(s:Same H H'):IsRt H' d f t sz:=by
 obtain⟨lo,lp,lh,a,b,c,e⟩:=h
 exact⟨lo,lp,lh,s _ _ a,s _ _ b,s _ _ c,s _ _ e⟩
theorem rt_get{f:Fx}{t:Option Nat}{sz:Nat}{lo:Addr}:atI (rtV f t sz lo) 0=some (.int (f.n:Nat))∧atI (rtV f t sz lo) 1=some (.int (f.s:Nat))∧atI (rtV f t sz lo) 2=some (.int (sz:Nat))∧atI (rtV f t sz lo) 3=some (.str (wd f.d))∧atI (rtV f t sz lo) 4=some (.int (trI t))∧atI (rtV f t sz lo) 5=some (.ref lo):=⟨rfl,rfl,rfl,rfl,rfl,rfl⟩
theorem trI_at(p:Int):∃ t:Option Nat,TrB t∧p % 5=trI t:=by
 have h0:=Int.emod_nonneg p (show(5:Int)≠0 by decide)
 have h1:=Int.emod_lt_of_pos p (show(0:Int) < 5 by decide)
 by_cases e:p % 5=4
 ·exact⟨none,(fun u e=>nomatch e),e⟩
 ·exact⟨some (p % 5).toNat,fun u z=>by cases z;omega,by show p % 5=(((p % 5).toNat:Nat):Int);omega⟩
theorem duty_at(p:Int):∃ d:_root_.Fin 4,atI [V.str "free",V.str "follow",V.str "cut",V.str "beat"] (p % 4)=some (.str (wd d)):=by
 have h0:=Int.emod_nonneg p (show(4:Int)≠0 by decide)
 have h1:=Int.emod_lt_of_pos p (show(0:Int) < 4 by decide)
 generalize p % 4=r at h0 h1
 have:r=0∨r=1∨r=2∨r=3:=by omega
 rcases this with rfl | rfl | rfl | rfl
 ·exact⟨0,rfl⟩
 ·exact⟨1,rfl⟩
 ·exact⟨2,rfl⟩
 ·exact⟨3,rfl⟩
theorem nat_v{z:Int}(h:0≤z):V.int z=V.int ((z.toNat:Nat):Int):=by rw[Int.toNat_of_nonneg h]
def spRules(K:PySem.W.Frag):Sp:=fun vs H Q _=>∃(a:Addr) (ns:List Int) (mo:Nat),vs=[.ref a,.int (mo:Nat)]∧SqL K H a (ns.map V.int)∧ns.length≤63∧mo≤100 ∧
 ∀ d f t sz H',Same H H'→H d=none→IsRt H' d f t sz→f.Ok→TrB t→sz≤mo→(f.n=4→sz≤2∨sz+1≤mo)→sz * f.n≤f.s * f.h→Q (.ref d) H'
abbrev nRules:List Str:=["_law_script","_law_most","_law_seats","_law_suits_here","_law_size","_law_low","_law_heights","_law_word","_law_trump","_law_orders"]
theorem scRules:FnScope nRules ["_law_script","_law_most"] (defScope sRules):=⟨rfl,rfl,rfl,by decide +kernel,rfl,by decide +kernel,by decide +kernel⟩
theorem ok_rules{k:Nat}{f1 f2:Addr}{d1 d2:FuncData}(F:Fun K "_law_rules" "_law_rules" sRules f fd)(LX:Lib P w K mg base k "_law_mixed" pMixed (spMixed K) f1 d1)(LO:Lib P w K mg base k "_law_order" pOrder (spOrder K) f2 d2)(mMx:mg "max" = none)(mMn:mg "min" = none):FnOk P w K mg base CX0 (k+1) f fd ["_law_script","_law_most"] (spRules K):=by
 refine F.ok scRules (fun vs H Q E h=>?_) (fun cdv A outer s H vs Q E hr h=>?_)
 ·obtain⟨a,ns,mo,rfl,_⟩:=h
  rfl
 obtain⟨a,ns,mo,rfl,hS,h63,mo100,q⟩:=h
 refine⟨_,pss_cons (ps_set (i:=2) scRules.nd rfl (Or.inl rfl) (pe_op op_add pe_int (pe_op op_mod (pe_call LX.ok hr rfl LX.mg LX.kp LX.bd .nil pass0 (pa_cons (pv 0) (pa_cons pe_int pa_nil))) pe_int)))
  (pss_cons (ps_set (i:=3) scRules.nd rfl (Or.inl rfl) (pe_op op_add pe_int (pe_op op_mod (pe_call LX.ok hr rfl LX.mg LX.kp LX.bd .nil pass0 (pa_cons (pv 0) (pa_cons pe_int pa_nil))) pe_int)))
  (pss_cons (ps_set (i:=4) scRules.nd rfl (Or.inl rfl) (pe_callB (call_min2 rfl) rfl mMn PyProof.Rows.boot_min (pa_cons (pe_op op_mod (pe_call LX.ok hr rfl LX.mg LX.kp LX.bd .nil pass0 (pa_cons (pv 0) (pa_cons pe_int pa_nil))) (pe_op op_add (pv 1) pe_int)) (pa_cons (pe_op op_fdiv (pe_op op_mul pe_int (pv 3)) (pv 2)) pa_nil))))
  (pss_cons (ps_if (pt_cmpR op_eq (pv 2) pe_int (nomark _)) (pss_one (ps_set (i:=4) scRules.nd rfl (Or.inl rfl) (pe_callB (call_min2 rfl) rfl mMn PyProof.Rows.boot_min (pa_cons (pv 4) (pa_cons (pe_callB (call_max2 rfl) rfl mMx PyProof.Rows.boot_max (pa_cons pe_int (pa_cons (pe_op op_sub (pv 1) pe_int) pa_nil))) pa_nil))))) pss_nil)
  (pss_cons (ps_set (i:=5) scRules.nd rfl (Or.inl rfl) (pe_callB (call_max2 rfl) rfl mMx PyProof.Rows.boot_max (pa_cons pe_int (pa_cons (pe_op op_fdiv (pe_op op_sub (pe_op op_add (pe_op op_mul (pv 2) (pv 4)) (pv 3)) pe_int) (pv 3)) pa_nil))))
  (pss_cons (ps_set (i:=6) scRules.nd rfl (Or.inl rfl) (pe_op op_add (pv 5) (pe_op op_mod (pe_call LX.ok hr rfl LX.mg LX.kp LX.bd .nil pass0 (pa_cons (pv 0) (pa_cons pe_int pa_nil))) (pe_op op_sub pe_int (pv 5)))))
  (pss_cons (ps_set (i:=7) scRules.nd rfl (Or.inl rfl) (pe_ix ix_list (pe_lst (pa_cons pe_str (pa_cons pe_str (pa_cons pe_str (pa_cons pe_str pa_nil))))) (pe_op op_mod (pe_call LX.ok hr rfl LX.mg LX.kp LX.bd .nil pass0 (pa_cons (pv 0) (pa_cons pe_int pa_nil))) pe_int) (fun _ _=>rfl)))
  (pss_cons (ps_set (i:=8) scRules.nd rfl (Or.inl rfl) (pe_op op_mod (pe_call LX.ok hr rfl LX.mg LX.kp LX.bd .nil pass0 (pa_cons (pv 0) (pa_cons pe_int pa_nil))) pe_int))
  (pss_cons (ps_set (i:=9) scRules.nd rfl (Or.inl rfl) (pe_lst (pa_cons (pe_call LO.ok hr rfl LO.mg LO.kp LO.bd .nil pass0 (pa_cons (pv 0) (pa_cons pe_int (pa_cons (pv 6) pa_nil)))) (pa_cons (pe_call LO.ok hr rfl LO.mg LO.kp LO.bd .nil pass0 (pa_cons (pv 0) (pa_cons pe_int (pa_cons (pv 6) pa_nil)))) pa_nil))))
  (pss_one (ps_ret (pe_tup (pa_cons (pv 2) (pa_cons (pv 3) (pa_cons (pv 4) (pa_cons (pv 7) (pa_cons (pv 8) (pa_cons (pv 9) pa_nil))))))))))))))))),?_⟩
 have z1000:=fits3 1000 (by decide)
 refine set_nm (fun v H1=>H1=H∧∃ n:Nat,v = .int (n:Nat)∧(n=3∨n=4)) (fun R hR=>⟨_,rfl,a,ns,0,rfl,hS,h63,by decide,by decide,fun z=>⟨_,_,rfl,rfl,(show(0:Int) < 2 by decide),_,_,rfl,rfl,hR _ _ ⟨rfl,(3+z % 2).toNat,nat_v (by omega),by omega⟩⟩⟩) (fun v H1 z=>?_)
 obtain⟨rfl,n,rfl,hn⟩:=z
 refine set_nm (fun v H2=>H2=H1∧∃ u:Nat,v = .int (u:Nat)∧1≤u∧u≤4) (fun R hR=>⟨_,rfl,a,ns,1,rfl,hS,h63,by decide,by decide,fun z=>⟨_,_,rfl,rfl,(show(0:Int) < 4 by decide),_,_,rfl,rfl,hR _ _ ⟨rfl,(1+z % 4).toNat,nat_v (by omega),by omega,by omega⟩⟩⟩) (fun v H2 z=>?_)
 obtain⟨rfl,u,rfl,u1,u4⟩:=z
 have n0:0 < n:=by omega
 have eq8:(8:Int) * ((u:Nat):Int) / ((n:Nat):Int)=((8 * u / n:Nat):Int):=by rw[Int.natCast_ediv,Int.natCast_mul];rfl
 have q8:8 * u / n * n≤8 * u:=Nat.div_mul_le_self _ _
 refine set_nm (fun v H3=>H3=H2∧∃ sz:Nat,v = .int (sz:Nat)∧sz≤mo∧sz * n≤8 * u) (fun R hR=>⟨_,rfl,a,ns,2,rfl,hS,h63,by decide,by decide,fun z=>⟨_,rfl,_,_,rfl,rfl,_,_,rfl,rfl,(by show(0:Int) < ((mo:Nat):Int)+1;omega),_,rfl,_,_,rfl,rfl,.inl ⟨by decide,by decide⟩,_,rfl,_,_,rfl,rfl,⟨(by show(0:Int) < ((n:Nat):Int);omega),(by show((n:Nat):Int) < _;omega)⟩,_,_,rfl,?_⟩⟩) (fun v H3 z=>?_)
 ·have r0:=Int.emod_nonneg z (show((mo:Nat):Int)+1≠0 by omega)
  have r1:=Int.emod_lt_of_pos z (show(0:Int) < ((mo:Nat):Int)+1 by omega)
  rw[eq8]
  generalize 8 * u / n=g8 at q8 ⊢
  refine hR _ _ ⟨rfl,(if((g8:Nat):Int) < z % (((mo:Nat):Int)+1) then((g8:Nat):Int) else z % (((mo:Nat):Int)+1)).toNat,nat_v (by split<;>omega),?_,?_⟩
  ·split<;>omega
  ·have le:(if((g8:Nat):Int) < z % (((mo:Nat):Int)+1) then((g8:Nat):Int) else z % (((mo:Nat):Int)+1)).toNat≤g8:=by split<;>omega
   exact Nat.le_trans (Nat.mul_le_mul_right _ le) q8
 obtain⟨rfl,sz0,rfl,szm0,szn0⟩:=z
 refine seq_cut (fun σ H4=>H4=H3∧∃ sz:Nat,σ=[some (.ref a),some (.int (mo:Nat)),some (.int (n:Nat)),some (.int (u:Nat)),some (.int (sz:Nat)),none,none,none,none,none]∧sz≤mo∧(n=4→sz≤2∨sz+1≤mo)∧sz * n≤8 * u) (fun D' er nx=>?_) (fun σ H4 z=>?_)
 ·refine⟨_,rfl,rfl,_,rfl,?_⟩
  have e4:decide (V.int ((n:Nat):Int)=V.int 4)=decide (n=4):=natLit rfl
  refine chg e4 ?_
  by_cases c:n=4
  ·rw[decide_eq_true c]
   refine iteT ⟨_,rfl,_,rfl,_,_,rfl,rfl,_,_,rfl,_,_,rfl,?_⟩
   have v0:V.int (if(if((mo:Nat):Int) - 1 > 2 then((mo:Nat):Int) - 1 else 2) < ((sz0:Nat):Int) then(if((mo:Nat):Int) - 1 > 2 then((mo:Nat):Int) - 1 else 2) else((sz0:Nat):Int))=V.int (((if(if((mo:Nat):Int) - 1 > 2 then((mo:Nat):Int) - 1 else 2) < ((sz0:Nat):Int) then(if((mo:Nat):Int) - 1 > 2 then((mo:Nat):Int) - 1 else 2) else((sz0:Nat):Int)).toNat:Nat):Int):=nat_v (by split<;>split<;>omega)
   refine nx _ _ ⟨rfl,(if(if((mo:Nat):Int) - 1 > 2 then((mo:Nat):Int) - 1 else 2) < ((sz0:Nat):Int) then(if((mo:Nat):Int) - 1 > 2 then((mo:Nat):Int) - 1 else 2) else((sz0:Nat):Int)).toNat,by rw[← v0];rfl,?_,fun _=>?_,?_⟩
   ·split<;>split<;>omega
   ·split<;>split<;>omega
   ·have le:(if(if((mo:Nat):Int) - 1 > 2 then((mo:Nat):Int) - 1 else 2) < ((sz0:Nat):Int) then(if((mo:Nat):Int) - 1 > 2 then((mo:Nat):Int) - 1 else 2) else((sz0:Nat):Int)).toNat≤sz0:=by split<;>split<;>omega
    exact Nat.le_trans (Nat.mul_le_mul_right _ le) szn0
  ·rw[decide_eq_false c]
   exact iteF (nx _ _ ⟨rfl,sz0,rfl,szm0,fun z=>absurd z c,szn0⟩)
 obtain⟨rfl,sz,rfl,szm,sz4,szn⟩:=z
 have ns8:n * sz≤8 * u:=by rw[Nat.mul_comm];exact szn
 refine set_nm (fun v H5=>H5=H4∧∃ lw:Nat,v = .int (lw:Nat)∧1≤lw∧lw≤8∧sz * n≤u * lw) (fun R hR=>⟨_,rfl,_,rfl,_,_,rfl,rfl,.inl ⟨by omega,by omega⟩,_,rfl,_,_,rfl,rfl,_,_,rfl,rfl,_,rfl,_,_,rfl,rfl,⟨(by show(0:Int) < ((u:Nat):Int);omega),(by show((u:Nat):Int) < _;omega)⟩,_,_,rfl,?_⟩) (fun v H5 z=>?_)
 ·have e:(((n:Nat):Int) * ((sz:Nat):Int)+((u:Nat):Int) - 1) / ((u:Nat):Int)=(((n * sz+u - 1) / u:Nat):Int):=by
   rw[Int.natCast_ediv,← Int.natCast_mul]
   congr 1
   omega
  rw[e]
  have d1:(n * sz+u - 1) / u≤8:=by
   have:(n * sz+u - 1) / u < 9:=Nat.div_lt_of_lt_mul (by omega)
   omega
  have d2:n * sz≤u * ((n * sz+u - 1) / u):=by
   have:=Nat.div_add_mod (n * sz+u - 1) u
   have:=Nat.mod_lt (n * sz+u - 1) (show u > 0 by omega)
   omega
  generalize (n * sz+u - 1) / u=g9 at d1 d2 ⊢
  refine hR _ _ ⟨rfl,(if((g9:Nat):Int) > 1 then((g9:Nat):Int) else 1).toNat,nat_v (by split<;>omega),by split<;>omega,by split<;>omega,?_⟩
  have le:g9≤(if((g9:Nat):Int) > 1 then((g9:Nat):Int) else 1).toNat:=by split<;>omega
  rw[Nat.mul_comm sz n]
  exact Nat.le_trans d2 (Nat.mul_le_mul_left _ le)
 obtain⟨rfl,lw,rfl,lw1,lw8,lwn⟩:=z
 refine set_nm (fun v H6=>H6=H5∧∃ hh:Nat,v = .int (hh:Nat)∧lw≤hh∧hh≤8) (fun R hR=>⟨_,rfl,_,rfl,a,ns,3,rfl,hS,h63,by decide,by decide,fun z=>⟨_,rfl,_,_,rfl,rfl,_,_,rfl,rfl,(by show(0:Int) < 9 - ((lw:Nat):Int);omega),_,_,rfl,rfl,?_⟩⟩) (fun v H6 z=>?_)
 ·have r0:=Int.emod_nonneg z (show(9:Int) - ((lw:Nat):Int)≠0 by omega)
  have r1:=Int.emod_lt_of_pos z (show(0:Int) < 9 - ((lw:Nat):Int) by omega)
  exact hR _ _ ⟨rfl,(((lw:Nat):Int)+z % (9 - ((lw:Nat):Int))).toNat,nat_v (by omega),by omega,by omega⟩
 obtain⟨rfl,hh,rfl,hlw,hh8⟩:=z
 refine set_nm (fun v H7=>Same H6 H7∧∃ dd:_root_.Fin 4,v = .str (wd dd)) (fun R hR=>⟨fits3 4 (by decide),fun lq hlq=>⟨_,rfl,a,ns,4,rfl,((same_upd hlq _).seq hS),h63,by decide,by decide,fun z=>?_⟩⟩) (fun v H7 z=>?_)
 ·obtain⟨dd,et⟩:=duty_at z
  exact⟨_,_,rfl,rfl,(show(0:Int) < 4 by decide),lq,_,_,_,rfl,rfl,SqL.of upd_same,et,hR _ _ ⟨same_upd hlq _,dd,rfl⟩⟩
 obtain⟨s7,dd,rfl⟩:=z
 refine set_nm (fun v H8=>H8=H7∧∃ t,TrB t∧v = .int (trI t)) (fun R hR=>⟨_,rfl,a,ns,5,rfl,(s7.seq hS),h63,by decide,by decide,fun z=>?_⟩) (fun v H8 z=>?_)
 ·obtain⟨t,tb,et⟩:=trI_at z
  exact⟨_,_,rfl,rfl,(show(0:Int) < 5 by decide),hR _ _ ⟨rfl,t,tb,by show V.int (z % 5)=_;rw[et]⟩⟩
 obtain⟨rfl,t,tb,rfl⟩:=z
 refine set_nm (fun v H9=>Same H8 H9∧∃ lo lp lh pl tr,v = .ref lo∧pl.Perm (List.range hh)∧tr.Perm (List.range hh)∧H9 lo=some (.lst [.ref lp,.ref lh])∧H9 lp=some (.lst (vN pl))∧H9 lh=some (.lst (vN tr))) (fun R hR=>?_) (fun v H9 z=>?_)
 ·refine⟨_,rfl,_,rfl,a,ns,40,hh,rfl,s7.seq hS,h63,by decide,hh8,fun lp pl H9 pp s9 _ hlp=>⟨_,rfl,_,rfl,a,ns,50,hh,rfl,(s7.trans s9).seq hS,h63,by decide,hh8,fun lh tr HA pt sA _ hlh=>⟨fits3 2 (by decide),fun lo hlo=>?_⟩⟩⟩
  have aO:=same_upd hlo (.lst [.ref lp,.ref lh])
  exact hR _ _ ⟨(s9.trans sA).trans aO,lo,lp,lh,pl,tr,rfl,pp,pt,upd_same,aO _ _ (sA _ _ hlp),aO _ _ hlh⟩
 obtain⟨s9,lo,lp,lh,pl,tr,rfl,pp,pt,hlo,hlp,hlh⟩:=z
 refine⟨_,rfl,_,rfl,_,rfl,_,rfl,_,rfl,_,rfl,fits3 6 (by decide),fun d hd=>?_⟩
 have aD:=same_upd hd (.tup (rtV ⟨u,hh,n,dd,pl,tr⟩ t sz lo))
 refine q d ⟨u,hh,n,dd,pl,tr⟩ t sz _ ((s7.trans s9).trans aD) ((s7.trans s9).free hd) ⟨lo,lp,lh,upd_same,aD _ _ hlo,aD _ _ hlp,aD _ _ hlh⟩ ⟨u1,u4,by show 1≤hh;omega,hh8,hn,pp,pt⟩ tb szm sz4 ?_
 show sz * n≤u * hh
 exact Nat.le_trans lwn (Nat.mul_le_mul_left _ hlw)
end
end My
namespace My
open PySem L2
section
variable{P:Program}{w:World}{K:PySem.W.Frag}{mg:Str→Option Value}{base:Heap}{f g:Addr}{fd gd:FuncData}
end
end My
namespace My
open PySem L2
abbrev sRank:Stmt:=top 15
abbrev sLMay:Stmt:=top 16
theorem alw_mid(d:_root_.Fin 4)(d0:d≠0)(d3:d≠3)(fx:Fx)(t:Option Nat)(ys cs:List Nat):(if d=1 then orL (folL (ledOf ys) cs) cs else cutL t (ledOf ys) cs)=alw d fx t ys cs:=match d,d0,d3 with
 | 0,h,_=>absurd rfl h
 | 1,_,_=>rfl
 | 2,_,_=>rfl
 | 3,_,h=>absurd rfl h
theorem wd_dec(d j:_root_.Fin 4):decide (V.str (wd d)=V.str (wd j))=decide (d=j):=decide_eq_decide.mpr ⟨fun h=>by injection h with h;exact wd_inj _ _ h,fun h=>by rw[h]⟩
def folV(s:Nat)(x:V):Bool:=match x with | .int i=>decide (i.toNat / 8=s) | _=>false
theorem folV_nat(s c:Nat):folV s (.int (c:Nat))=decide (c / 8=s):=by
 show decide (((c:Nat):Int).toNat / 8=s)=_
 rw[Int.toNat_natCast]
theorem folV_list(s:Nat)(cs:List Nat):(((vN cs).filter (folV s)).map fun x=>x)=vN (folL s cs):=by
 rw[List.map_id']
 unfold vN folL
 rw[List.filter_map]
 exact congrArg _ (List.filter_congr fun c _=>folV_nat s c)
def trV(t:Option Nat)(x:V):Bool:=match x with | .int i=>decide (t=some (i.toNat / 8)) | _=>false
theorem trV_nat(t:Option Nat)(c:Nat):trV t (.int (c:Nat))=decide (t=some (c / 8)):=by
 show decide (t=some (((c:Nat):Int).toNat / 8))=_
 rw[Int.toNat_natCast]
theorem trV_list(t:Option Nat)(cs:List Nat):(((vN cs).filter (trV t)).map fun x=>x)=vN (trL t cs):=by
 rw[List.map_id']
 have e:(vN cs).filter (trV t)=vN (cs.filter fun c=>decide (t=some (c / 8))):=by
  unfold vN
  rw[List.filter_map]
  exact congrArg _ (List.filter_congr fun c _=>trV_nat t c)
 rw[e]
 refine congrArg vN ?_
 cases t with
 | none=>exact List.filter_eq_nil_iff.mpr fun c _=>by simp
 | some u=>exact List.filter_congr fun c _=>decide_eq_decide.mpr ⟨fun h=>(Option.some.inj h).symm,fun h=>by rw[h]⟩
theorem vN_nil(cs:List Nat):(vN cs).isEmpty=decide (cs=[]):=by cases cs<;>rfl
section
variable{P:Program}{w:World}{K:PySem.W.Frag}{mg:Str→Option Value}{base:Heap}{f g:Addr}{fd gd:FuncData}
def rankL(f:Fx)(t:Option Nat)(led c:Nat):List Int:=if t=some (c / 8) then [2,((pos (c % 8) f.tr:Nat):Int)] else if c / 8=led then [1,((pos (c % 8) f.pl:Nat):Int)] else [0,0]
theorem lex2(a b c d:Int):HT.lexLt [a,b] [c,d]=decide (a < c∨a=c∧b < d):=by
 show(if a=c then(if b=d then HT.lexLt [] [] else decide (b < d)) else decide (a < c))=_
 by_cases e:a=c
 ·rw[if_pos e]
  by_cases e2:b=d
  ·rw[if_pos e2]
   exact(decide_eq_false (by omega)).symm
  ·rw[if_neg e2]
   exact decide_eq_decide.mpr ⟨fun h=>by omega,fun h=>by omega⟩
 ·rw[if_neg e]
  exact decide_eq_decide.mpr ⟨fun h=>by omega,fun h=>by omega⟩
theorem rank_form{f:Fx}(ok:f.Ok)(t:Option Nat)(led c:Nat):∃ a b:Nat,rankL f t led c=[((a:Nat):Int),((b:Nat):Int)]∧rk f t led c=10 * a+b∧b≤8:=by
 have l1:∀ x,pos x f.tr≤8:=fun x=>Nat.le_trans (pos_le x _) (by rw[perm_len ok.pt];exact ok.h8)
 have l2:∀ x,pos x f.pl≤8:=fun x=>Nat.le_trans (pos_le x _) (by rw[perm_len ok.pp];exact ok.h8)
 unfold rankL rk
 by_cases c1:t=some (c / 8)
 ·rw[if_pos c1,if_pos c1]
  exact⟨2,pos (c % 8) f.tr,rfl,rfl,l1 _⟩
 ·rw[if_neg c1,if_neg c1]
  by_cases c2:c / 8=led
  ·rw[if_pos c2,if_pos c2]
   exact⟨1,pos (c % 8) f.pl,rfl,rfl,l2 _⟩
  ·rw[if_neg c2,if_neg c2]
   exact⟨0,0,rfl,rfl,Nat.zero_le _⟩
theorem rank_lex{f:Fx}(ok:f.Ok)(t:Option Nat)(led c o:Nat):HT.lexLt (rankL f t led c) (rankL f t led o)=decide (((rk f t led o:Nat):Int) > ((rk f t led c:Nat):Int)):=by
 obtain⟨a,b,e1,e2,h1⟩:=rank_form ok t led c
 obtain⟨a',b',f1,f2,h2⟩:=rank_form ok t led o
 rw[e1,f1,e2,f2,lex2]
 exact decide_eq_decide.mpr ⟨fun h=>by omega,fun h=>by omega⟩
theorem rank_eq{f:Fx}(ok:f.Ok){t:Option Nat}{led c o:Nat}(h:rankL f t led c=rankL f t led o):rk f t led c=rk f t led o:=by
 obtain⟨a,b,e1,e2,h1⟩:=rank_form ok t led c
 obtain⟨a',b',f1,f2,h2⟩:=rank_form ok t led o
 rw[e1,f1] at h
 injection h with h3 h4
 injection h4 with h5
 omega
def spRank:Sp:=fun vs H Q _=>∃(d:Addr) (f:Fx) (t:Option Nat) (sz c led:Nat),vs=[.ref d,.int (c:Nat),.int (led:Nat)]∧f.Ok∧IsRt H d f t sz∧c % 8 < f.h∧c < 32∧∀ p H',Same H H'→H' p=some (.tup ((rankL f t led c).map V.int))→Q (.ref p) H'
abbrev pRank:List Str:=["_law_rules_here","_law_card_here","_law_led"]
theorem scRank:FnScope pRank pRank (defScope sRank):=⟨rfl,rfl,rfl,by decide +kernel,rfl,by decide +kernel,by decide +kernel⟩
theorem tr_dec(t:Option Nat){c:Nat}(hc:c < 32):decide (V.int (((c:Nat):Int) / 8)=V.int (trI t))=decide (t=some (c / 8)):=by
 have e8:((c:Nat):Int) / 8=((c / 8:Nat):Int):=by omega
 rw[e8,eq_int]
 cases t with
 | none=>exact decide_eq_decide.mpr ⟨(fun h=>by have h':((c / 8:Nat):Int)=4:=h;omega),(fun h=>nomatch h)⟩
 | some u=>
  refine decide_eq_decide.mpr ⟨fun h=>?_,fun h=>?_⟩
  ·have h':((c / 8:Nat):Int)=((u:Nat):Int):=h
   have:c / 8=u:=by omega
   rw[this]
  ·rw[Option.some.inj h]
   rfl
theorem ints_get{l:List Nat}{j x:Nat}:(l.map fun c=>((c:Nat):Int))[j]? = some ((x:Nat):Int)↔l[j]? = some x:=by
 rw[List.getElem?_map]
 constructor
 ·intro h
  obtain⟨y,e1,e2⟩:=Option.map_eq_some_iff.mp h
  have:y=x:=by omega
  rw[e1,this]
 ·intro h
  rw[h]
  rfl
theorem ok_rank{k:Nat}(F:Fun K "_law_strength" "_law_strength" sRank f fd):FnOk P w K mg base CX0 (k+1) f fd pRank spRank:=by
 refine F.ok scRank (fun vs H Q E h=>?_) (fun cdv A outer s H vs Q E hr h=>?_)
 ·obtain⟨d,fx,t,sz,c,led,rfl,_⟩:=h
  rfl
 obtain⟨d,fx,t,sz,c,led,rfl,ok,⟨lo,lp,lh,hD,hO,hP,hT⟩,ch,c32,q⟩:=h
 refine⟨_,pss_cons (ps_if (pt_cmpR op_eq (pe_op op_fdiv (pv 1) pe_int) (pe_ix ix_tup (pv 0) pe_int (fun _ _=>rfl)) (nomark _)) (pss_one (ps_ret (pe_tup (pa_cons pe_int (pa_cons (pe_bm PySem.F.plainAttrs_list PySem.F.slot_list_index PySem.F.type_list_index mt_index (pe_ix ix_list (pe_ix ix_tup (pv 0) pe_int (fun _ _=>rfl)) pe_int (fun _ _=>rfl)) (pa_cons (pe_op op_mod (pv 1) pe_int) pa_nil)) pa_nil))))) pss_nil)
  (pss_cons (ps_if (pt_cmpR op_eq (pe_op op_fdiv (pv 1) pe_int) (pv 2) (nomark _)) (pss_one (ps_ret (pe_tup (pa_cons pe_int (pa_cons (pe_bm PySem.F.plainAttrs_list PySem.F.slot_list_index PySem.F.type_list_index mt_index (pe_ix ix_list (pe_ix ix_tup (pv 0) pe_int (fun _ _=>rfl)) pe_int (fun _ _=>rfl)) (pa_cons (pe_op op_mod (pv 1) pe_int) pa_nil)) pa_nil))))) pss_nil)
  (pss_one (ps_ret (pe_tup (pa_cons pe_int (pa_cons pe_int pa_nil)))))),?_⟩
 obtain⟨g1,g2,g3,g4,g5,g6⟩:=@rt_get fx t sz lo
 have h8:=ok.h8
 have em:((c:Nat):Int) % 8=((c % 8:Nat):Int):=by omega
 have m1:c % 8∈fx.tr:=ok.pt.mem_iff.mpr (List.mem_range.mpr ch)
 have m2:c % 8∈fx.pl:=ok.pp.mem_iff.mpr (List.mem_range.mpr ch)
 have l1:fx.tr.length≤1000:=by rw[perm_len ok.pt];omega
 have l2:fx.pl.length≤1000:=by rw[perm_len ok.pp];omega
 refine⟨_,rfl,_,_,rfl,rfl,⟨by decide,by decide⟩,_,rfl,d,_,_,_,rfl,rfl,SqT.of hD,g5,rfl,_,rfl,chg (tr_dec t c32) ?_⟩
 by_cases c1:t=some (c / 8)
 ·rw[decide_eq_true c1]
  have hT':H lh=some (.lst ((fx.tr.map fun c=>((c:Nat):Int)).map V.int)):=by rw[← vN_ints];exact hT
  refine iteT ⟨_,rfl,d,_,_,_,rfl,rfl,SqT.of hD,g6,lo,_,_,_,rfl,rfl,SqL.of hO,(rfl:atI [V.ref lp,V.ref lh] 1=some (V.ref lh)),.inl ⟨rfl,_,SqL.of hT⟩,_,rfl,_,_,rfl,rfl,(show(0:Int) < 8 by decide),lh,((c % 8:Nat):Int),_,pos (c % 8) fx.tr,rfl,(by show [V.int (((c:Nat):Int) % 8)]=_;rw[em]),SqL.of hT',by rw[List.length_map];exact l1,ints_get.mpr (pos_at m1).1,fun m hm z=>(pos_at m1).2 m hm (ints_get.mp z),fits3 2 (by decide),fun p hp=>q p _ (same_upd hp _) ?_⟩
  rw[upd_same]
  unfold rankL
  rw[if_pos c1]
  rfl
 ·rw[decide_eq_false c1]
  have eL:decide (V.int (((c:Nat):Int) / 8)=V.int ((led:Nat):Int))=decide (c / 8=led):=(eq_int _ _).trans (decide_eq_decide.mpr ⟨fun h=>by omega,fun h=>by omega⟩)
  refine iteF ⟨_,rfl,_,_,rfl,rfl,⟨by decide,by decide⟩,_,rfl,rfl,_,rfl,chg eL ?_⟩
  by_cases c2:c / 8=led
  ·rw[decide_eq_true c2]
   have hP':H lp=some (.lst ((fx.pl.map fun c=>((c:Nat):Int)).map V.int)):=by rw[← vN_ints];exact hP
   refine iteT ⟨_,rfl,d,_,_,_,rfl,rfl,SqT.of hD,g6,lo,_,_,_,rfl,rfl,SqL.of hO,(rfl:atI [V.ref lp,V.ref lh] 0=some (V.ref lp)),.inl ⟨rfl,_,SqL.of hP⟩,_,rfl,_,_,rfl,rfl,(show(0:Int) < 8 by decide),lp,((c % 8:Nat):Int),_,pos (c % 8) fx.pl,rfl,(by show [V.int (((c:Nat):Int) % 8)]=_;rw[em]),SqL.of hP',by rw[List.length_map];exact l2,ints_get.mpr (pos_at m2).1,fun m hm z=>(pos_at m2).2 m hm (ints_get.mp z),fits3 2 (by decide),fun p hp=>q p _ (same_upd hp _) ?_⟩
   rw[upd_same]
   unfold rankL
   rw[if_neg c1,if_pos c2]
   rfl
  ·rw[decide_eq_false c2]
   refine iteF ⟨fits3 2 (by decide),fun p hp=>q p _ (same_upd hp _) ?_⟩
   rw[upd_same]
   unfold rankL
   rw[if_neg c1,if_neg c2]
   rfl
theorem orL_e{a b:List Nat}(h:a=[]):orL a b=b:=if_pos h
theorem orL_n{a b:List Nat}(h:a≠[]):orL a b=a:=if_neg h
theorem orL_assoc(a b c:List Nat):orL (orL a b) c=orL a (orL b c):=by
 unfold orL
 by_cases e:a=[]
 ·rw[if_pos e,if_pos e]
 ·rw[if_neg e,if_neg e,if_neg e]
def gtV(f:Fx)(t:Option Nat)(led M:Nat)(x:V):Bool:=match x with | .int i=>decide (M < rk f t led i.toNat) | _=>false
theorem gtV_nat(f:Fx)(t:Option Nat)(led M c:Nat):gtV f t led M (.int (c:Nat))=decide (M < rk f t led c):=by
 show decide (M < rk f t led (((c:Nat):Int).toNat))=_
 rw[Int.toNat_natCast]
theorem gtV_list(f:Fx)(t:Option Nat)(led M:Nat)(cs:List Nat):(((vN cs).filter (gtV f t led M)).map fun x=>x)=vN (cs.filter fun c=>decide (M < rk f t led c)):=by
 rw[List.map_id']
 unfold vN
 rw[List.filter_map]
 exact congrArg _ (List.filter_congr fun c _=>gtV_nat f t led M c)
theorem top_eq{f:Fx}(ok:f.Ok){t:Option Nat}{ys cs:List Nat}{j:Nat}{y:Nat}(hj:ys[j]? = some y)(hm:∀ o∈ys,rk f t (ledOf ys) o≤rk f t (ledOf ys) y):(cs.filter fun c=>decide (rk f t (ledOf ys) y < rk f t (ledOf ys) c))=topL f t ys cs:=by
 unfold topL
 refine List.filter_congr fun c _=>?_
 rw[Bool.eq_iff_iff,decide_eq_true_eq,List.all_eq_true]
 constructor
 ·intro h o ho
  rw[over_rk ok,decide_eq_true_eq]
  exact Nat.lt_of_le_of_lt (hm o ho) h
 ·intro h
  have:=h y (List.mem_of_getElem? hj)
  rw[over_rk ok,decide_eq_true_eq] at this
  exact this
def spLMay:Sp:=fun vs H Q _=>∃(d cp tp:Addr) (f:Fx) (t:Option Nat) (sz:Nat) (cs ys:List Nat),vs=[.ref d,.ref cp,.ref tp]∧f.Ok∧IsRt H d f t sz∧H cp=some (.lst (vN cs))∧H tp=some (.lst (vN ys))∧cs.length≤100∧(∀ c∈cs,c < 32)∧(ys=[]∨Beg f ys cs)∧∀ o H',Same H H'→H o=none→H' o=some (.lst (vN (if ys=[] then cs else alw f.d f t ys cs)))→Q (.ref o) H'
abbrev pLMay:List Str:=["_law_rules_here","_law_cards_here","_law_trick"]
abbrev nLMay:List Str:=["_law_rules_here","_law_cards_here","_law_trick","_law_led","_law_some","_law_same","_law_high","_law_better"]
theorem scLMay:FnScope nLMay pLMay (defScope sLMay):=⟨rfl,rfl,rfl,by decide +kernel,rfl,by decide +kernel,by decide +kernel⟩
abbrev nB1:List Str:=["_law_card_here","_law_led"]
abbrev nB2:List Str:=["_law_card_here","_law_rules_here"]
abbrev nB3:List Str:=["_law_card_here","_law_rules_here","_law_led"]
abbrev nB4:List Str:=["_law_card_here","_law_rules_here","_law_led","_law_high"]
theorem ok_lmay{k:Nat}{f1:Addr}{d1:FuncData}(F:Fun K "_law_may" "_law_may" sLMay f fd)(LR:Lib P w K mg base k "_law_strength" pRank spRank f1 d1)(mLi:mg "list" = none)(mM:mg "max" = none):FnOk P w K mg base CX0 (k+1) f fd pLMay spLMay:=by
 refine F.ok scLMay (fun vs H Q E h=>?_) (fun cdv A outer s H vs Q E hr h=>?_)
 ·obtain⟨d,cp,tp,fx,t,sz,cs,ys,rfl,_⟩:=h
  rfl
 obtain⟨d,cp,tp,fx,t,sz,cs,ys,rfl,ok,hRt,hC,hY,c100,c32,hB,q⟩:=h
 refine⟨_,pss_cons (ps_if (pt_cmpR (op_eqNil hr.units) (pv 2) (pe_lst pa_nil) (nomark _)) (pss_one (ps_ret (pe_callTy call_list_of rfl mLi PyProof.Rows.boot_list (pa_cons (pv 1) pa_nil)))) pss_nil)
  (pss_cons (ps_set (i:=3) scLMay.nd rfl (Or.inr rfl) (pe_op op_fdiv (pe_ix ix_list (pv 2) pe_int (fun _ _=>rfl)) pe_int))
  (pss_cons (ps_set (i:=4) scLMay.nd rfl (Or.inl rfl) (pe_callTy call_list_of rfl mLi PyProof.Rows.boot_list (pa_cons (pv 1) pa_nil)))
  (pss_cons (ps_if (pt_cmpR op_ne (pe_ix ix_tup (pv 0) pe_int (fun _ _=>rfl)) pe_str (nomark _))
   (pss_cons (ps_setcomp (i:=5) nB1 [none,some 3] rfl scLMay.nd rfl (Or.inl rfl) (Blk.by (sc:=defScope sLMay) (N0:=nLMay) rfl rfl (by decide +kernel)) (pi_list (pv 1)) (fun C s₀ H₀ ex=>pg_name (i:=0) (show nB1.Nodup by decide +kernel) rfl (Or.inl rfl)) (fun C s₀ H₀ ex=>pf_one (pt_cmpR op_eq (pe_op op_fdiv (pv 0) pe_int) (pv 1) (nomark _))) (fun C s₀ H₀ ex=>pv 0))
   (pss_cons (ps_if (PW.pt (pw_and (pt_cmpR (op_eqNil hr.units) (pv 5) (pe_lst pa_nil) (nomark _)) (pw_and1 (pt_cmpR op_ne (pe_ix ix_tup (pv 0) pe_int (fun _ _=>rfl)) pe_str (nomark _)))))
    (pss_one (ps_setcomp (i:=5) nB2 [none,some 0] rfl scLMay.nd rfl (Or.inl rfl) (Blk.by (sc:=defScope sLMay) (N0:=nLMay) rfl rfl (by decide +kernel)) (pi_list (pv 1)) (fun C s₀ H₀ ex=>pg_name (i:=0) (show nB2.Nodup by decide +kernel) rfl (Or.inl rfl)) (fun C s₀ H₀ ex=>pf_one (pt_cmpR op_eq (pe_op op_fdiv (pv 0) pe_int) (pe_ix (show IxR _ (rIxT K) from ix_tup) (pv 1) pe_int (fun _ _=>rfl)) (nomark _))) (fun C s₀ H₀ ex=>pv 0))) pss_nil)
   (pss_one (ps_if (pt_cmpR (op_neNil hr.units) (pv 5) (pe_lst pa_nil) (nomark _)) (pss_one (ps_set (i:=4) scLMay.nd rfl (Or.inl rfl) (pv 5))) pss_nil)))) pss_nil)
  (pss_cons (ps_if (pt_cmpR op_eq (pe_ix ix_tup (pv 0) pe_int (fun _ _=>rfl)) pe_str (nomark _))
   (pss_cons (ps_set (i:=6) scLMay.nd rfl (Or.inr rfl) (pe_callB (call_maxT rfl hr.units) rfl mM PyProof.Rows.boot_max (pa_cons (pe_comp nB3 [none,some 0,some 3] rfl (Blk.by (sc:=defScope sLMay) (N0:=nLMay) rfl rfl (by decide +kernel)) (pi_list (pv 2)) (fun C s₀ H₀ ex=>pg_name (i:=0) (show nB3.Nodup by decide +kernel) rfl (Or.inl rfl)) (fun C s₀ H₀ ex=>pf_nil)
     (fun C s₀ H₀ ex=>pe_call LR.ok hr rfl LR.mg LR.kp LR.bd .nil pass0 (pa_cons (pv 1) (pa_cons (pv 0) (pa_cons (pv 2) pa_nil))))) pa_nil)))
   (pss_cons (ps_setcomp (i:=7) nB4 [none,some 0,some 3,some 6] rfl scLMay.nd rfl (Or.inl rfl) (Blk.by (sc:=defScope sLMay) (N0:=nLMay) rfl rfl (by decide +kernel)) (pi_list (pv 4)) (fun C s₀ H₀ ex=>pg_name (i:=0) (show nB4.Nodup by decide +kernel) rfl (Or.inl rfl))
     (fun C s₀ H₀ ex=>pf_one (pt_cmpR (show OpR _ (compareOp .Gt) (fun x y H Q=>∃(a b:Addr) (ns ms:List Int),x = .ref a∧y = .ref b∧SqT K H a (ns.map V.int)∧SqT K H b (ms.map V.int)∧Q (.bl (HT.lexLt ms ns)) H) from op_gtT hr.units) (pe_call LR.ok hr rfl LR.mg LR.kp LR.bd .nil pass0 (pa_cons (pv 1) (pa_cons (pv 0) (pa_cons (pv 2) pa_nil)))) (pv 3) (nomark _))) (fun C s₀ H₀ ex=>pv 0))
   (pss_one (ps_if (pt_cmpR (op_neNil hr.units) (pv 7) (pe_lst pa_nil) (nomark _)) (pss_one (ps_set (i:=4) scLMay.nd rfl (Or.inl rfl) (pv 7))) pss_nil)))) pss_nil)
  (pss_one (ps_ret (pv 4))))))),?_⟩
 obtain⟨lo,lp,lh,hD,hO,hP,hT⟩:=id hRt
 obtain⟨g1,g2,g3,g4,g5,g6⟩:=@rt_get fx t sz lo
 refine⟨_,rfl,fits3 0 (by decide),fun lz hlz=>?_⟩
 have az:=same_upd hlz (.lst [])
 refine⟨tp,lz,_,rfl,rfl,SqL.of (az _ _ hY),SqL.of upd_same,_,rfl,chg (vN_nil ys) ?_⟩
 generalize upd H lz (.lst [])=Hz at az ⊢
 by_cases y0:ys=[]
 ·rw[decide_eq_true y0]
  refine iteT ⟨_,rfl,cp,_,rfl,.inl (SqL.of (az _ _ hC)),fun l hl=>q l _ (az.trans (same_upd hl _)) (az.free hl) ?_⟩
  rw[upd_same,if_pos y0]
 rw[decide_eq_false y0]
 have B:=hB.resolve_left y0
 have s4':=ok.s4
 have y32:∀ y∈ys,y < 32:=fun y hy=>by have:=(B.ys8 y hy).1;omega
 have el:((ys.getD 0 0:Nat):Int) / 8=((ledOf ys:Nat):Int):=by unfold ledOf;omega
 refine iteF (nx_of ?_)
 refine set_nm (fun v H1=>H1=Hz∧v = .int ((ledOf ys:Nat):Int)) (fun R hR=>⟨_,rfl,tp,_,_,_,rfl,rfl,SqL.of (az _ _ hY),at_vN (i:=0) B.ne,_,_,rfl,rfl,⟨by decide,by decide⟩,hR _ _ ⟨rfl,congrArg V.int el⟩⟩) (fun v H1 z=>?_)
 obtain⟨rfl,rfl⟩:=z
 refine set_nm (fun v H2=>Same H H2∧∃ l,v = .ref l∧H l=none∧H2 l=some (.lst (vN cs))) (fun R hR=>⟨_,rfl,cp,_,rfl,.inl (SqL.of (az _ _ hC)),fun l hl=>hR _ _ ⟨az.trans (same_upd hl _),l,rfl,az.free hl,upd_same⟩⟩) (fun v H2 z=>?_)
 obtain⟨s2,l2,rfl,nl2,hL2⟩:=z
 have neD:∀ i:_root_.Fin 4,(!decide (V.str (wd fx.d)=V.str (wd i))) = !decide (fx.d=i):=fun i=>congrArg (fun b=>!b) (wd_dec fx.d i)
 refine seq_cut (fun σ H4=>Same H H4∧∃(l4:Addr) (mid:List Nat) (x5:Option V),σ=[some (.ref d),some (.ref cp),some (.ref tp),some (.int ((ledOf ys:Nat):Int)),some (.ref l4),x5,none,none]∧H l4=none∧H4 l4=some (.lst (vN mid))∧mid=(if fx.d=0 then cs else if fx.d=1 then orL (folL (ledOf ys) cs) cs else cutL t (ledOf ys) cs)) (fun D' er nx=>?_) (fun σ H4 z=>?_)
 ·refine⟨_,rfl,d,_,_,_,rfl,rfl,SqT.of (s2 _ _ hD),g4,rfl,_,rfl,chg (neD 0) ?_⟩
  by_cases d0:fx.d=0
  ·rw[decide_eq_true d0]
   exact iteF (nx _ _ ⟨s2,l2,cs,none,rfl,nl2,hL2,by rw[if_pos d0]⟩)
  rw[decide_eq_false d0]
  refine iteT ?_
  have hC2:=s2 _ _ hC
  refine set_nm (fun v H3=>∃ l,v = .ref l∧Same H2 H3∧H2 l=none∧H3 l=some (.lst (vN (folL (ledOf ys) cs)))) (fun R hR=>?_) (fun v H3 z=>?_)
  ·refine⟨_,rfl,cp,rfl,⟨_,SqL.of hC2⟩,comp_list (K:=K) (xs:=vN cs) (folV (ledOf ys)) (fun x=>x) (SqL.of hC2) (fits3 _ (by rw[vN_len];omega)) (fun x H3 hx sm R hR=>?_) (fun x H3 hx hp sm R hR=>⟨_,rfl,hR H3 (Same.refl H3)⟩) (fun l H3 sm hl hL=>hR _ _ ⟨l,rfl,sm,hl,by rw[hL,folV_list]⟩)⟩
   obtain⟨c,hc,rfl⟩:=List.mem_map.mp hx
   have e:decide (V.int (((c:Nat):Int) / 8)=V.int ((ledOf ys:Nat):Int))=folV (ledOf ys) (.int (c:Nat)):=by
    rw[folV_nat,eq_int]
    exact decide_eq_decide.mpr ⟨fun h=>by omega,fun h=>by omega⟩
   refine⟨_,rfl,_,_,rfl,rfl,⟨by decide,by decide⟩,_,rfl,rfl,_,rfl,?_⟩
   have z:=hR H3 (Same.refl H3)
   rw[← e] at z
   exact z
  obtain⟨l3,rfl,s3,nl3,hL3⟩:=z
  have s23:=s2.trans s3
  refine seq_cut (fun σ H5=>Same H H5∧∃(l5:Addr) (ss:List Nat),σ=[some (.ref d),some (.ref cp),some (.ref tp),some (.int ((ledOf ys:Nat):Int)),some (.ref l2),some (.ref l5),none,none]∧H l5=none∧H5 l2=some (.lst (vN cs))∧H5 l5=some (.lst (vN ss))∧ss=(if fx.d=1 then folL (ledOf ys) cs else orL (folL (ledOf ys) cs) (trL t cs))) (fun D2 er2 nx2=>?_) (fun σ H5 z=>?_)
  ·refine⟨_,rfl,fits3 0 (by decide),fun lq hlq=>?_⟩
   have aq:=same_upd hlq (.lst [])
   refine⟨l3,lq,_,rfl,rfl,SqL.of (aq _ _ hL3),SqL.of upd_same,_,rfl,chg (vN_nil _) ?_⟩
   generalize upd H3 lq (.lst [])=Hq at aq ⊢
   have sq:=s23.trans aq
   by_cases f0:folL (ledOf ys) cs=[]
   ·rw[decide_eq_true f0]
    refine iteT ⟨_,rfl,d,_,_,_,rfl,rfl,SqT.of (sq _ _ hD),g4,rfl,_,rfl,chg (neD 1) ?_⟩
    by_cases d1:fx.d=1
    ·rw[decide_eq_true d1]
     exact iteF (nx2 _ _ ⟨sq,l3,_,rfl,s2.free nl3,aq _ _ (s3 _ _ hL2),aq _ _ hL3,by rw[if_pos d1]⟩)
    ·rw[decide_eq_false d1]
     have hCq:=sq _ _ hC
     refine iteT ⟨_,rfl,cp,rfl,⟨_,SqL.of hCq⟩,comp_list (K:=K) (xs:=vN cs) (trV t) (fun x=>x) (SqL.of hCq) (fits3 _ (by rw[vN_len];omega)) (fun x H3 hx sm R hR=>?_) (fun x H3 hx hp sm R hR=>⟨_,rfl,hR H3 (Same.refl H3)⟩) (fun l H6 sm hl hL=>nx2 _ _ ⟨sq.trans sm,l,_,rfl,sq.free hl,sm _ _ (aq _ _ (s3 _ _ hL2)),by rw[hL,trV_list],?_⟩)⟩
     ·obtain⟨c,hc,rfl⟩:=List.mem_map.mp hx
      refine⟨_,rfl,_,_,rfl,rfl,⟨by decide,by decide⟩,_,rfl,d,_,_,_,rfl,rfl,SqT.of (sm _ _ (sq _ _ hD)),g5,rfl,_,rfl,?_⟩
      have z:=hR H3 (Same.refl H3)
      rw[trV_nat,← tr_dec t (c32 c hc)] at z
      exact z
     ·rw[if_neg d1]
      unfold orL
      rw[if_pos f0]
   ·rw[decide_eq_false f0]
    refine iteF (iteF (nx2 _ _ ⟨sq,l3,_,rfl,s2.free nl3,aq _ _ (s3 _ _ hL2),aq _ _ hL3,?_⟩))
    unfold orL
    rw[if_neg f0]
    split<;>rfl
  obtain⟨s5,l5,ss,rfl,nl5,hL25,hL5,ess⟩:=z
  have emid:orL ss cs=(if fx.d=1 then orL (folL (ledOf ys) cs) cs else cutL t (ledOf ys) cs):=by
   rw[ess]
   by_cases d1:fx.d=1
   ·rw[if_pos d1,if_pos d1]
   ·rw[if_neg d1,if_neg d1,orL_assoc]
    rfl
  refine⟨_,rfl,fits3 0 (by decide),fun lq hlq=>?_⟩
  have aq:=same_upd hlq (.lst [])
  refine⟨l5,lq,_,rfl,rfl,SqL.of (aq _ _ hL5),SqL.of upd_same,_,rfl,chg (congrArg (fun b=>!b) (vN_nil _)) ?_⟩
  generalize upd H5 lq (.lst [])=Hq at aq ⊢
  by_cases f0:ss=[]
  ·rw[decide_eq_true f0]
   refine iteF (nx _ _ ⟨s5.trans aq,l2,cs,_,rfl,nl2,aq _ _ hL25,?_⟩)
   rw[if_neg d0,← emid]
   unfold orL
   rw[if_pos f0]
  ·rw[decide_eq_false f0]
   refine iteT ⟨_,rfl,nx _ _ ⟨s5.trans aq,l5,ss,_,rfl,nl5,aq _ _ hL5,?_⟩⟩
   rw[if_neg d0,← emid]
   unfold orL
   rw[if_neg f0]
 obtain⟨s4,l4,mid,x5,rfl,nl4,hL4,emid⟩:=z
 have msub:∀ c∈mid,c∈cs:=fun c hc=>by
  rw[emid] at hc
  by_cases d0:fx.d=0
  ·rw[if_pos d0] at hc
   exact hc
  ·rw[if_neg d0] at hc
   by_cases d1:fx.d=1
   ·rw[if_pos d1] at hc
    exact orL_sub (folL_sub _ _) (fun _ h=>h) c hc
   ·rw[if_neg d1] at hc
    exact cutL_sub _ _ _ c hc
 have mlen:mid.length≤100:=by
  rw[emid]
  split
  ·exact c100
  ·have lF:(folL (ledOf ys) cs).length≤cs.length:=List.length_filter_le _ _
   have lT:(trL t cs).length≤cs.length:=by
    cases t with
    | none=>exact Nat.zero_le _
    | some u=>exact List.length_filter_le _ _
   split
   ·unfold orL;split<;>omega
   ·show(orL (folL (ledOf ys) cs) (orL (trL t cs) cs)).length≤100
    unfold orL
    split
    ·split<;>omega
    ·omega
 refine seq_cut (fun σ H5=>Same H H5∧∃(l5:Addr) (x5 x6 x7:Option V),σ=[some (.ref d),some (.ref cp),some (.ref tp),some (.int ((ledOf ys:Nat):Int)),some (.ref l5),x5,x6,x7]∧H l5=none∧H5 l5=some (.lst (vN (alw fx.d fx t ys cs)))) (fun D' er nx=>?_) (fun σ H5 z=>?_)
 ·refine⟨_,rfl,d,_,_,_,rfl,rfl,SqT.of (s4 _ _ hD),g4,rfl,_,rfl,chg (wd_dec fx.d 3) ?_⟩
  by_cases d3:fx.d=3
  ·rw[decide_eq_true d3]
   refine iteT ?_
   have hRt4:=hRt.same s4
   have hY4:=s4 _ _ hY
   have yl:=B.len
   have lm:=mlen
   refine set_nm (fun v H6=>∃(p:Addr) (j y:Nat),v = .ref p∧Same H4 H6∧ys[j]? = some y∧(∀ o∈ys,rk fx t (ledOf ys) o≤rk fx t (ledOf ys) y)∧H6 p=some (.tup ((rankL fx t (ledOf ys) y).map V.int))) (fun R hR=>?_) (fun v H6 z=>?_)
   ·refine⟨_,rfl,tp,rfl,⟨_,SqL.of hY4⟩,comp_someL (K:=K) (xs:=vN ys) (fun _ i v H=>∃(p:Addr) (y:Nat),ys[i]? = some y∧v = .ref p∧H p=some (.tup ((rankL fx t (ledOf ys) y).map V.int))) (SqL.of hY4) (fits3 _ (by rw[vN_len];omega)) (fun l i v H H' g sm=>?_) (fun l i v H xs zs g hl=>?_) (fun i x H5 l vs hx sm hl hL R hR=>?_) (fun l H5 vs sm hl hL hvl hvs=>?_)⟩
    ·obtain⟨p,y,a1,a2,a3⟩:=g
     exact⟨p,y,a1,a2,sm _ _ a3⟩
    ·obtain⟨p,y,a1,a2,a3⟩:=g
     exact⟨p,y,a1,a2,by rw[upd_ne (ne_of a3 hl (fun z=>nomatch z))];exact a3⟩
    ·obtain⟨y,hy,rfl⟩:=vN_get hx
     exact⟨_,rfl,_,rfl,_,rfl,d,fx,t,sz,y,ledOf ys,rfl,ok,hRt4.same sm,(B.ys8 y (List.mem_of_getElem? hy)).2,y32 y (List.mem_of_getElem? hy),fun p H6 s6 hp6=>hR _ _ s6 ⟨p,y,hy,rfl,hp6⟩⟩
    ·rw[vN_len] at hvl
     have ex:∃ ps:List Addr,vs=ps.map V.ref:=by
      refine⟨vs.map fun v=>match v with | .ref a=>a | _=>0,?_⟩
      rw[List.map_map]
      apply List.ext_getElem?
      intro j
      rw[List.getElem?_map]
      cases e:vs[j]? with
      | none=>rfl
      | some v=>
       obtain⟨p,y,_,rfl,_⟩:=hvs j v e
       rfl
     obtain⟨ps,rfl⟩:=ex
     rw[List.length_map] at hvl
     refine⟨l,ps,ys.map (rankL fx t (ledOf ys)),(fun i=>((rk fx t (ledOf ys) (ys.getD i 0):Nat):Int)),rfl,⟨SqL.of hL,by rw[List.length_map];exact hvl,fun j p hj=>?_⟩,by rw[hvl];exact B.ne,fun i j ns ms hi hj=>?_,fun j p hj hmax=>?_⟩
     ·obtain⟨p',y,a1,a2,a3⟩:=hvs j (.ref p) (by rw[List.getElem?_map,hj];rfl)
      injection a2 with a2
      subst a2
      exact⟨_,by rw[List.getElem?_map,a1];rfl,a3⟩
     ·rw[List.getElem?_map] at hi hj
      obtain⟨a,a1,rfl⟩:=Option.map_eq_some_iff.mp hi
      obtain⟨b,b1,rfl⟩:=Option.map_eq_some_iff.mp hj
      show HT.lexLt _ _=decide (((rk fx t (ledOf ys) (ys.getD i 0):Nat):Int) > ((rk fx t (ledOf ys) (ys.getD j 0):Nat):Int))
      rw[List.getD_eq_getElem?_getD,List.getD_eq_getElem?_getD,a1,b1]
      exact rank_lex ok t _ b a
     ·obtain⟨p',y,a1,a2,a3⟩:=hvs j (.ref p) (by rw[List.getElem?_map,hj];rfl)
      injection a2 with a2
      subst a2
      refine hR _ _ ⟨p,j,y,rfl,sm,a1,fun o ho=>?_,a3⟩
      obtain⟨m,hm,em⟩:=List.mem_iff_getElem.mp ho
      have:((rk fx t (ledOf ys) (ys.getD m 0):Nat):Int)≤((rk fx t (ledOf ys) (ys.getD j 0):Nat):Int):=hmax m (by rw[hvl];exact hm)
      rw[List.getD_eq_getElem?_getD,List.getD_eq_getElem?_getD,a1,List.getElem?_eq_getElem hm,em] at this
      have t2:((rk fx t (ledOf ys) o:Nat):Int)≤((rk fx t (ledOf ys) y:Nat):Int):=this
      omega
   obtain⟨p,j,y,rfl,s6,hj,hmx,hp6⟩:=z
   have hL6:=s6 _ _ hL4
   refine set_nm (fun v H7=>∃ l,v = .ref l∧Same H6 H7∧H7 l=some (.lst (vN (topL fx t ys mid)))∧H6 l=none) (fun R hR=>?_) (fun v H7 z=>?_)
   ·refine⟨_,rfl,l4,rfl,⟨_,SqL.of hL6⟩,comp_list (K:=K) (xs:=vN (mid)) (gtV fx t (ledOf ys) (rk fx t (ledOf ys) y)) (fun x=>x) (SqL.of hL6) (fits3 _ (by rw[vN_len];omega)) (fun x H7 hx sm R hR=>?_) (fun x H3 hx hp sm R hR=>⟨_,rfl,hR H3 (Same.refl H3)⟩) (fun l H7 sm hl hL=>hR _ _ ⟨l,rfl,sm,by rw[hL,gtV_list,top_eq ok hj hmx],hl⟩)⟩
    obtain⟨c,hc,rfl⟩:=List.mem_map.mp hx
    have cin:c∈cs:=msub c hc
    refine⟨_,rfl,_,rfl,_,rfl,d,fx,t,sz,c,ledOf ys,rfl,ok,(hRt4.same s6).same sm,(B.cs8 c cin).2,c32 c cin,fun p8 H8 s8 hp8=>?_⟩
    have z:=hR H8 s8
    refine⟨_,rfl,p8,p,_,_,rfl,rfl,SqT.of hp8,SqT.of (s8 _ _ (sm _ _ hp6)),_,rfl,?_⟩
    have e:gtV fx t (ledOf ys) (rk fx t (ledOf ys) y) (.int (c:Nat))=HT.lexLt (rankL fx t (ledOf ys) y) (rankL fx t (ledOf ys) c):=by
     rw[gtV_nat,rank_lex ok]
     exact decide_eq_decide.mpr ⟨fun h=>by omega,fun h=>by omega⟩
    rw[e] at z
    exact z
   obtain⟨l7,rfl,s7,hL7,nl7⟩:=z
   have s67:=(s4.trans s6).trans s7
   have ea:alw fx.d fx t ys cs=orL (topL fx t ys mid) mid:=by
    rw[emid,d3]
    rfl
   refine⟨_,rfl,fits3 0 (by decide),fun lq hlq=>?_⟩
   have aq:=same_upd hlq (.lst [])
   refine⟨l7,lq,_,rfl,rfl,SqL.of (aq _ _ hL7),SqL.of upd_same,_,rfl,chg (congrArg (fun b=>!b) (vN_nil _)) ?_⟩
   generalize upd H7 lq (.lst [])=Hq at aq ⊢
   by_cases t0:topL fx t ys mid=[]
   ·rw[decide_eq_true t0]
    refine iteF (nx _ _ ⟨s67.trans aq,l4,_,_,_,rfl,nl4,?_⟩)
    rw[aq _ _ (s7 _ _ hL6),ea,orL_e t0]
   ·rw[decide_eq_false t0]
    refine iteT ⟨_,rfl,nx _ _ ⟨s67.trans aq,l7,_,_,_,rfl,(s4.trans s6).free nl7,?_⟩⟩
    rw[aq _ _ hL7,ea,orL_n t0]
  ·rw[decide_eq_false d3]
   refine iteF (nx _ _ ⟨s4,l4,_,_,_,rfl,nl4,?_⟩)
   rw[hL4,emid]
   by_cases d0:fx.d=0
   ·rw[if_pos d0,d0]
    rfl
   ·rw[if_neg d0,alw_mid fx.d d0 d3]
 obtain⟨s5,l5,x5,x6,x7,rfl,nl5,hL5⟩:=z
 exact⟨_,rfl,q l5 H5 s5 nl5 (by rw[if_neg y0];exact hL5)⟩
end
end My
namespace My
open PySem L2
theorem chunks(ls:List Nat)(sz:Nat):∀ n,((List.range n).map fun j=>(ls.drop (sz * j)).take sz).flatten=ls.take (sz * n)
 | 0=>by simp
 | n+1=>by
  rw[List.range_succ,List.map_append,List.flatten_append,chunks ls sz n,Nat.mul_succ,List.take_add]
  simp
theorem flat_perm:∀(css:List (List Nat)) (F:Nat→List Nat),(∀(j:Nat) (cs:List Nat),css[j]? = some cs→cs.Perm (F j))→css.flatten.Perm ((List.range css.length).map F).flatten
 | [],_,_=>by simp
 | c :: r,F,h=>by
  rw[List.length_cons,List.range_succ_eq_map,List.map_cons,List.flatten_cons,List.flatten_cons,List.map_map]
  exact(h 0 c rfl).append (flat_perm r (F ∘ Nat.succ) fun j cs e=>h (j+1) cs e)
structure DealOk(f:Fx)(sz:Nat)(css:List (List Nat)):Prop where
 len:css.length=f.n
 each:∀ cs∈css,cs.length=sz
 nd:css.flatten.Nodup
 pk:∀ c∈css.flatten,c / 8 < f.s∧c % 8 < f.h
 up:∀ cs∈css,cs.Pairwise (·≤·)
theorem pack_nd:∀ s≤4,∀ h≤8,(packL s h).Nodup:=by decide +kernel
theorem pack_length(s h:Nat):(packL s h).length=s * h:=by
 unfold packL
 induction s with
 | zero=>simp
 | succ s ih=>rw[List.range_succ,List.flatMap_append,List.length_append,ih];simp [Nat.succ_mul]
theorem perm_nd:∀{a b:List Nat},a.Nodup→b.Nodup→(∀ x,x∈a↔x∈b)→a.length=b.length
 | [],b,_,_,h=>by
  cases b with
  | nil=>rfl
  | cons x r=>exact absurd ((h x).mpr List.mem_cons_self) List.not_mem_nil
 | x :: a,b,ha,hb,h=>by
  have hx:x∈b:=(h x).mp List.mem_cons_self
  obtain⟨na,ha'⟩:=List.nodup_cons.mp ha
  have e:=perm_nd (a:=a) (b:=b.erase x) ha' (hb.erase x) fun y=>by
   rw[hb.mem_erase_iff]
   constructor
   ·exact fun hy=>⟨fun z=>na (z ▸ hy),(h y).mp (List.mem_cons_of_mem _ hy)⟩
   ·rintro⟨n,hy⟩
    exact(List.mem_cons.mp ((h y).mpr hy)).resolve_left n
  rw[List.length_cons,e,List.length_erase_of_mem hx]
  have:=List.length_pos_of_mem hx
  omega
theorem pc_hN{cs:List Nat}(nd:cs.Nodup)(h:∀ c∈cs,c < 32):pcK 32 (hN cs)=cs.length:=
 perm_nd (List.Pairwise.filter _ List.nodup_range) nd fun x=>hN_cards h x
theorem count_flat(b:Nat):∀(css:List (List Nat)),(css.map hN).countP (fun h=>h.testBit b)≤css.flatten.count b
 | []=>Nat.zero_le _
 | c :: r=>by
  have ih:=count_flat b r
  rw[List.map_cons,List.countP_cons,List.flatten_cons,List.count_append,hN_bit]
  by_cases e:b∈c
  ·have:=List.count_pos_iff.mpr e
   rw[decide_eq_true e,if_pos rfl]
   omega
  ·rw[decide_eq_false e,if_neg Bool.false_ne_true]
   omega
theorem DealOk.nd1{f:Fx}{sz:Nat}{css:List (List Nat)}(D:DealOk f sz css){cs:List Nat}(h:cs∈css):cs.Nodup:=(List.pairwise_flatten.mp D.nd).1 cs h
theorem DealOk.c32{f:Fx}{sz:Nat}{css:List (List Nat)}(ok:f.Ok)(D:DealOk f sz css){cs:List Nat}(h:cs∈css):∀ c∈cs,c < 32:=fun c hc=>by
 have:=D.pk c (List.mem_flatten.mpr ⟨cs,h,hc⟩)
 have:=ok.s4
 have:=ok.h8
 omega
theorem DealOk.plc{f:Fx}{sz:Nat}{css:List (List Nat)}(ok:f.Ok)(D:DealOk f sz css){lead:Nat}(hl:lead < f.n):Plc f (css.map hN) lead [] sz:=by
 have c1:∀ b,cntB (css.map hN) [] b≤css.flatten.count b:=fun b=>by
  unfold cntB
  rw[List.count_nil]
  exact count_flat b css
 refine⟨by rw[List.length_map];exact D.len,hl,by show 0 < f.n;omega,fun b=>Nat.le_trans (c1 b) (List.nodup_iff_count.mp D.nd b),fun b hb=>D.pk b (List.count_pos_iff.mp (Nat.lt_of_lt_of_le hb (c1 b))),fun i h e=>?_⟩
 rw[List.getElem?_map] at e
 obtain⟨cs,e1,rfl⟩:=Option.map_eq_some_iff.mp e
 have m:=List.mem_of_getElem? e1
 show pcK 32 (hN cs)+(if off f.n lead i < 0 then 1 else 0)=sz
 rw[pc_hN (D.nd1 m) (D.c32 ok m),if_neg (Nat.not_lt_zero _),D.each cs m,Nat.add_zero]
end My
namespace My
open PySem L2
abbrev sLTurn:Stmt:=top 17
abbrev sLPut:Stmt:=top 18
section
variable{P:Program}{w:World}{K:PySem.W.Frag}{mg:Str→Option Value}{base:Heap}{f g:Addr}{fd gd:FuncData}
def IsDl(H:Hp)(as:List Addr)(css:List (List Nat)):Prop:=as.length=css.length∧∀(j:Nat) (a:Addr),as[j]? = some a→∃ cs,css[j]? = some cs∧H a=some (.lst (vN cs))
theorem IsDl.same{H H':Hp}{as:List Addr}{css:List (List Nat)}(h:IsDl H as css)(s:Same H H'):IsDl H' as css:=⟨h.1,fun j a e=>let ⟨cs,x,y⟩:=h.2 j a e;⟨cs,x,s _ _ y⟩⟩
def IsSt(H:Hp)(st:Addr)(css:List (List Nat))(lead:Nat)(ys:List Nat):Prop:=∃(lc lt:Addr) (as:List Addr),H st=some (.tup [.ref lc,.int (lead:Nat),.ref lt])∧H lc=some (.lst (as.map V.ref))∧IsDl H as css∧H lt=some (.lst (vN ys))
theorem IsSt.same{H H':Hp}{st:Addr}{css:List (List Nat)}{lead:Nat}{ys:List Nat}(h:IsSt H st css lead ys)(s:Same H H'):IsSt H' st css lead ys:=by
 obtain⟨lc,lt,as,a,b,c,d⟩:=h
 exact⟨lc,lt,as,s _ _ a,s _ _ b,c.same s,s _ _ d⟩
def IsStN(B H:Hp)(st:Addr)(css:List (List Nat))(lead:Nat)(ys:List Nat):Prop:=∃(lc lt:Addr) (as:List Addr),H st=some (.tup [.ref lc,.int (lead:Nat),.ref lt])∧H lc=some (.lst (as.map V.ref))∧IsDl H as css∧H lt=some (.lst (vN ys))∧B st=none∧B lc=none∧B lt=none∧∀ a∈as,B a=none
theorem IsStN.is{B H:Hp}{st:Addr}{css:List (List Nat)}{lead:Nat}{ys:List Nat}(h:IsStN B H st css lead ys):IsSt H st css lead ys:=by
 obtain⟨lc,lt,as,a,b,c,d,_⟩:=h
 exact⟨lc,lt,as,a,b,c,d⟩
structure StOk(f:Fx)(css:List (List Nat))(lead:Nat)(ys:List Nat)(m:Nat):Prop where
 plc:Plc f (css.map hN) lead ys m
 up:∀ cs∈css,cs.Pairwise (· < ·)
section
variable{fx:Fx}{css:List (List Nat)}{lead m:Nat}{ys cs:List Nat}
theorem StOk.nd(S:StOk fx css lead ys m):∀ cs∈css,cs.Nodup:=fun cs h=>(S.up cs h).imp fun {a b} l e=>by omega
theorem StOk.len(S:StOk fx css lead ys m):css.length=fx.n:=by have:=S.plc.len;rw[List.length_map] at this;exact this
theorem StOk.pk(S:StOk fx css lead ys m)(h:cs∈css){c:Nat}(hc:c∈cs):c / 8 < fx.s∧c % 8 < fx.h:=
 S.plc.pk c (cnt_hand (ys:=ys) (List.mem_map.mpr ⟨cs,h,rfl⟩) (by rw[hN_bit];exact decide_eq_true hc))
theorem StOk.c32(ok:fx.Ok)(S:StOk fx css lead ys m)(h:cs∈css):∀ c∈cs,c < 32:=fun c hc=>by
 have:=S.pk h hc
 have:=ok.s4
 have:=ok.h8
 omega
theorem StOk.cl(ok:fx.Ok)(S:StOk fx css lead ys m)(h:cs∈css):cs.length≤32∧cs.length=pcK 32 (hN cs):=by
 have e:=pc_hN (S.nd cs h) (S.c32 ok h)
 have:pcK 32 (hN cs)≤32:=by
  unfold pcK
  have:=List.length_filter_le (fun b=>(hN cs).testBit b) (List.range 32)
  rw[List.length_range] at this
  exact this
 omega
theorem StOk.turn(ok:fx.Ok)(S:StOk fx css lead ys m):∃ cs,css[(lead+ys.length) % fx.n]? = some cs∧cs.length=m:=by
 obtain⟨h,e1,e2⟩:=S.plc.turn ok
 rw[List.getElem?_map] at e1
 obtain⟨cs,e3,rfl⟩:=Option.map_eq_some_iff.mp e1
 exact⟨cs,e3,by rw[(S.cl ok (List.mem_of_getElem? e3)).2,e2]⟩
theorem hN_less{cs:List Nat}{c:Nat}(h:c∈cs):hN (cs.filter fun o=>decide (o≠c))=hN cs ^^^ 2 ^ c:=Nat.eq_of_testBit_eq fun b=>by
 rw[hN_bit,xor_bit _ _ _ (by rw[hN_bit];exact decide_eq_true h),hN_bit]
 by_cases e:c=b
 ·subst e
  rw[decide_eq_true rfl]
  exact decide_eq_false (fun z=>absurd (of_decide_eq_true (List.mem_filter.mp z).2) (fun n=>n rfl))
 ·rw[decide_eq_false e,Bool.not_false,Bool.true_and]
  refine decide_eq_decide.mpr ⟨fun z=>(List.mem_filter.mp z).1,fun z=>List.mem_filter.mpr ⟨z,decide_eq_true (Ne.symm e)⟩⟩
theorem StOk.put(ok:fx.Ok){t:Option Nat}{c lead':Nat}{ys':List Nat}{tk:Option Nat}(S:StOk fx css lead ys m)(ec:css[(lead+ys.length) % fx.n]? = some cs)(hc:c∈cs)(N:Nxt fx t (css.map hN) lead ys (hN cs) c ((css.set ((lead+ys.length) % fx.n) (cs.filter fun o=>decide (o≠c))).map hN) lead' ys' tk) :
  ∃ m',StOk fx (css.set ((lead+ys.length) % fx.n) (cs.filter fun o=>decide (o≠c))) lead' ys' m'∧0 < m∧((tk=none∧m'=m∧lead'=lead∧ys'=ys++[c]∧ys.length+1 < fx.n)∨(tk=some lead'∧m'+1=m∧ys'=[]∧lead' < fx.n))∧0 < m:=by
 have eh:(css.map hN)[(lead+ys.length) % fx.n]? = some (hN cs):=by rw[List.getElem?_map,ec];rfl
 have hb:(hN cs).testBit c=true:=by rw[hN_bit];exact decide_eq_true hc
 obtain⟨m',P',_,_,m0,alt⟩:=N.plc ok S.plc eh hb
 refine⟨m',⟨P',fun cs' h=>?_⟩,m0,alt,m0⟩
 rcases List.mem_or_eq_of_mem_set h with z | z
 ·exact S.up cs' z
 ·rw[z]
  exact(S.up cs (List.mem_of_getElem? ec)).filter _
end
def spLTurn:Sp:=fun vs H Q _=>∃(st:Addr) (css:List (List Nat)) (lead:Nat) (ys:List Nat),vs=[.ref st]∧IsSt H st css lead ys∧0 < css.length∧Q (.int (((lead+ys.length) % css.length:Nat):Int)) H
abbrev pLTurn:List Str:=["_law_state_here"]
theorem scLTurn:FnScope pLTurn pLTurn (defScope sLTurn):=⟨rfl,rfl,rfl,by decide +kernel,rfl,by decide +kernel,by decide +kernel⟩
theorem ok_lturn{k:Nat}(F:Fun K "_law_turn" "_law_turn" sLTurn f fd)(ml:mg "len" = none):FnOk P w K mg base CX0 (k+1) f fd pLTurn spLTurn:=by
 refine F.ok scLTurn (fun vs H Q E h=>?_) (fun cdv A outer s H vs Q E hr h=>?_)
 ·obtain⟨st,css,lead,ys,rfl,_⟩:=h
  rfl
 obtain⟨st,css,lead,ys,rfl,⟨lc,lt,as,h1,h2,h3,h4⟩,n0,q⟩:=h
 refine⟨_,pss_one (ps_ret (pe_op op_mod (pe_op op_add (pe_ix ix_tup (pv 0) pe_int (fun _ _=>rfl)) (pe_callB call_len_seq rfl ml PySem.boot_len (pa_cons (pe_ix ix_tup (pv 0) pe_int (fun _ _=>rfl)) pa_nil))) (pe_callB call_len_seq rfl ml PySem.boot_len (pa_cons (pe_ix ix_tup (pv 0) pe_int (fun _ _=>rfl)) pa_nil)))),?_⟩
 refine⟨_,rfl,st,_,_,_,rfl,rfl,SqT.of h1,(rfl:atI [V.ref lc,V.int (lead:Nat),V.ref lt] 1=some (V.int (lead:Nat))),_,rfl,st,_,_,_,rfl,rfl,SqT.of h1,(rfl:atI [V.ref lc,V.int (lead:Nat),V.ref lt] 2=some (V.ref lt)),lt,_,rfl,.inl (SqL.of h4),_,_,rfl,rfl,_,rfl,st,_,_,_,rfl,rfl,SqT.of h1,(rfl:atI [V.ref lc,V.int (lead:Nat),V.ref lt] 0=some (V.ref lc)),lc,_,rfl,.inl (SqL.of h2),_,_,rfl,rfl,(by show(0:Int) < (((as.map V.ref).length:Nat):Int);rw[List.length_map,h3.1];omega),?_⟩
 have e:(((lead:Nat):Int)+(((vN ys).length:Nat):Int)) % (((as.map V.ref).length:Nat):Int)=(((lead+ys.length) % css.length:Nat):Int):=by
  rw[vN_len,List.length_map,h3.1]
  rfl
 show Q (.int ((((lead:Nat):Int)+(((vN ys).length:Nat):Int)) % (((as.map V.ref).length:Nat):Int))) H
 rw[e]
 exact q
def spLPut:Sp:=fun vs H Q _=>∃(d st:Addr) (f:Fx) (t:Option Nat) (sz:Nat) (css:List (List Nat)) (lead m:Nat) (ys cs:List Nat) (c:Nat),vs=[.ref d,.ref st,.int (c:Nat)]∧f.Ok∧IsRt H d f t sz∧IsSt H st css lead ys∧StOk f css lead ys m∧css[(lead+ys.length) % f.n]? = some cs∧c∈cs ∧
 ∀ r st' lead' ys' tk H',Same H H'→H' r=some (.tup [.ref st',tkV tk])→IsStN H H' st' (css.set ((lead+ys.length) % f.n) (cs.filter fun o=>decide (o≠c))) lead' ys'→Nxt f t (css.map hN) lead ys (hN cs) c ((css.set ((lead+ys.length) % f.n) (cs.filter fun o=>decide (o≠c))).map hN) lead' ys' tk→Q (.ref r) H'
abbrev pLPut:List Str:=["_law_rules_here","_law_state_here","_law_card_here"]
abbrev nLPut:List Str:=["_law_rules_here","_law_state_here","_law_card_here","_law_hands","_law_lead","_law_trick","_law_seat","_law_later","_law_led","_law_strengths","_law_taker"]
theorem scLPut:FnScope nLPut pLPut (defScope sLPut):=⟨rfl,rfl,rfl,by decide +kernel,rfl,by decide +kernel,by decide +kernel⟩
abbrev nC1:List Str:=["_law_k","_law_hands","_law_seat","_law_card_here"]
abbrev nC2:List Str:=["_law_one","_law_k","_law_seat","_law_card_here"]
abbrev nC3:List Str:=["_law_one","_law_rules_here","_law_led"]
def cPut:Scope:=match defBody sLPut with
 | [_,_,.Assign _ (.ListComp _ _ sc _) _,_,_,_,_,_,_]=>sc
 | _=>defScope sLPut
def keepV(i seat c:Nat)(x:V):Bool:=match x with | .int o=>decide (i≠seat) || decide (o≠((c:Nat):Int)) | _=>false
theorem keepV_list(i seat c:Nat)(cs:List Nat):(((vN cs).filter (keepV i seat c)).map fun x=>x)=vN (cs.filter fun o=>decide (i≠seat) || decide (o≠c)):=by
 rw[List.map_id']
 unfold vN
 rw[List.filter_map]
 refine congrArg _ (List.filter_congr fun o _=>?_)
 show(decide (i≠seat) || decide (((o:Nat):Int)≠((c:Nat):Int)))=_
 have:decide (((o:Nat):Int)≠((c:Nat):Int))=decide (o≠c):=decide_eq_decide.mpr ⟨fun h=>by omega,fun h=>by omega⟩
 rw[this]
theorem refs_of{vs:List V}(h:∀(j:Nat) (v:V),vs[j]? = some v→∃ p:Addr,v = .ref p):∃ ps:List Addr,vs=ps.map V.ref:=by
 refine⟨vs.map fun v=>match v with | .ref a=>a | _=>0,?_⟩
 rw[List.map_map]
 apply List.ext_getElem?
 intro j
 rw[List.getElem?_map]
 cases e:vs[j]? with
 | none=>rfl
 | some v=>
  obtain⟨p,rfl⟩:=h j v e
  rfl
theorem ok_lput{k:Nat}{f1 f2:Addr}{d1 d2:FuncData}(F:Fun K "_law_put" "_law_put" sLPut f fd)(LT:Lib P w K mg base k "_law_turn" pLTurn spLTurn f1 d1)(LR:Lib P w K mg base k "_law_strength" pRank spRank f2 d2)(ml:mg "len" = none)(mr:mg "range" = none)(mM:mg "max" = none):FnOk P w K mg base CX0 (k+1) f fd pLPut spLPut:=by
 refine F.ok scLPut (fun vs H Q E h=>?_) (fun cdv A outer s H vs Q E hr h=>?_)
 ·obtain⟨d,st,fx,t,sz,css,lead,m,ys,cs,c,rfl,_⟩:=h
  rfl
 obtain⟨d,st,fx,t,sz,css,lead,m,ys,cs,c,rfl,ok,hRt,hSt,S,ec,hc,q⟩:=h
 refine⟨_,pss_cons (ps_asg (pv 1) (pg_tup rfl (pgs_cons (pg_name (i:=3) scLPut.nd rfl (Or.inr rfl)) (pgs_cons (pg_name (i:=4) scLPut.nd rfl (Or.inl rfl)) (pgs_cons (pg_name (i:=5) scLPut.nd rfl (Or.inl rfl)) pgs_nil)))))
  (pss_cons (ps_set (i:=6) scLPut.nd rfl (Or.inr rfl) (pe_call LT.ok hr rfl LT.mg LT.kp LT.bd .nil pass0 (pa_cons (pv 1) pa_nil)))
  (pss_cons (ps_setcompC (i:=7) nC1 [none,some 3,some 6,some 2] rfl scLPut.nd rfl (Or.inl rfl) (BlkC.by (sc:=defScope sLPut) (N0:=nLPut) rfl rfl (by decide +kernel)) (pi_range1 rfl mr (pa_cons (pe_callB call_len_seq rfl ml PySem.boot_len (pa_cons (pv 3) pa_nil)) pa_nil)) (fun C s₀ H₀ ex=>pg_name (i:=0) (show nC1.Nodup by decide +kernel) rfl (Or.inr rfl)) (fun C s₀ H₀ ex=>pf_nil)
   (fun C s₀ H₀ ex=>pe_comp nC2 [none,some 0,some 2,some 3] rfl (Blk.by (sc:=relS cPut (defScope sLPut)) (N0:=nC1) rfl rfl (by decide +kernel)) (pi_listK K rfl (pe_ix (show IxR _ (rIxL K) from ix_list) (pv 1) (pv 0) (fun _ _=>rfl))) (fun C s₀ H₀ ex=>pg_name (i:=0) (show nC2.Nodup by decide +kernel) rfl (Or.inl rfl))
    (fun C s₀ H₀ ex=>pf_one (PW.pt (pw_or (pt_cmpR op_ne (pv 1) (pv 2) (nomark _)) (pw_or1 (pt_cmpR op_ne (pv 0) (pv 3) (nomark _)))))) (fun C s₀ H₀ ex=>pv 0)))
  (pss_cons (ps_set (i:=5) scLPut.nd rfl (Or.inl rfl) (pe_op op_cat (pv 5) (pe_lst (pa_cons (pv 2) pa_nil))))
  (pss_cons (ps_if (pt_cmpR op_lt (pe_callB call_len_seq rfl ml PySem.boot_len (pa_cons (pv 5) pa_nil)) (pe_callB call_len_seq rfl ml PySem.boot_len (pa_cons (pv 3) pa_nil)) (nomark _))
   (pss_one (ps_ret (pe_tup (pa_cons (pe_tup (pa_cons (pv 7) (pa_cons (pv 4) (pa_cons (pv 5) pa_nil)))) (pa_cons pe_non pa_nil))))) pss_nil)
  (pss_cons (ps_set (i:=8) scLPut.nd rfl (Or.inr rfl) (pe_op op_fdiv (pe_ix ix_list (pv 5) pe_int (fun _ _=>rfl)) pe_int))
  (pss_cons (ps_setcomp (i:=9) nC3 [none,some 0,some 8] rfl scLPut.nd rfl (Or.inl rfl) (Blk.by (sc:=defScope sLPut) (N0:=nLPut) rfl rfl (by decide +kernel)) (pi_list (pv 5)) (fun C s₀ H₀ ex=>pg_name (i:=0) (show nC3.Nodup by decide +kernel) rfl (Or.inl rfl)) (fun C s₀ H₀ ex=>pf_nil)
   (fun C s₀ H₀ ex=>pe_call LR.ok hr rfl LR.mg LR.kp LR.bd .nil pass0 (pa_cons (pv 1) (pa_cons (pv 0) (pa_cons (pv 2) pa_nil)))))
  (pss_cons (ps_set (i:=10) scLPut.nd rfl (Or.inl rfl) (pe_op op_mod (pe_op op_add (pv 4) (pe_bm PySem.F.plainAttrs_list PySem.F.slot_list_index PySem.F.type_list_index (mt_indexT hr.units) (pv 9) (pa_cons (pe_callB (call_maxT rfl hr.units) rfl mM PyProof.Rows.boot_max (pa_cons (pv 9) pa_nil)) pa_nil))) (pe_callB call_len_seq rfl ml PySem.boot_len (pa_cons (pv 3) pa_nil))))
  (pss_one (ps_ret (pe_tup (pa_cons (pe_tup (pa_cons (pv 7) (pa_cons (pv 10) (pa_cons (pe_lst pa_nil) pa_nil)))) (pa_cons (pv 10) pa_nil)))))))))))),?_⟩
 have n4:fx.n≤4:=by rcases ok.n34 with e | e<;>omega
 have n0:0 < fx.n:=by rcases ok.n34 with e | e<;>omega
 have hlen:=S.len
 have yl:=S.plc.yl
 obtain⟨lc,lt,as,h1,h2,h3,h4⟩:=id hSt
 have al:as.length=fx.n:=h3.1.trans hlen
 have sl:(lead+ys.length) % fx.n < fx.n:=seat_lt ok _ _
 have cm:=List.mem_of_getElem? ec
 have eh:(css.map hN)[(lead+ys.length) % fx.n]? = some (hN cs):=by rw[List.getElem?_map,ec];rfl
 have hb:(hN cs).testBit c=true:=by rw[hN_bit];exact decide_eq_true hc
 refine⟨_,rfl,st,_,rfl,SqT.of h1,rfl,_,_,rfl,_,_,rfl,_,_,rfl,rfl,?_⟩
 refine nxE ?_
 refine set_nm (fun v H1=>H1=H∧v = .int (((lead+ys.length) % fx.n:Nat):Int)) (fun R hR=>⟨_,rfl,st,css,lead,ys,rfl,hSt,by omega,hR _ _ ⟨rfl,by rw[hlen]⟩⟩) (fun v H1 z=>?_)
 obtain⟨rfl,rfl⟩:=z
 generalize eseat:(lead+ys.length) % fx.n=seat at *
 refine set_nm (fun v H2=>∃(l:Addr) (bs:List Addr),v = .ref l∧Same H1 H2∧H2 l=some (.lst (bs.map V.ref))∧IsDl H2 bs (css.set seat (cs.filter fun o=>decide (o≠c)))∧H1 l=none∧∀ b∈bs,H1 b=none) (fun R hR=>?_) (fun v H2 z=>?_)
 ·refine⟨_,rfl,lc,_,rfl,.inl (SqL.of h2),(((as.map V.ref).length:Nat):Int),rfl,by omega,by rw[List.length_map];omega,?_⟩
  refine comp_someJ (J:=Itr 0 (as.map V.ref).length) (as.map V.ref).length (fun i=>.int (0+((i:Nat):Int))) (fun l i v H=>∃(a:Addr) (ds:List Nat),css[i]? = some ds∧v = .ref a∧a≠l∧H a=some (.lst (vN (ds.filter fun o=>decide (i≠seat) || decide (o≠c))))∧H1 a=none) (fits3 _ (by rw[List.length_map];omega)) (fun i H _ hi=>hi) (fun H _=>Nat.le_refl _) (fun i H x H' _ _ y=>y) (fun l i v H H' g sm=>?_) (fun l i v H xs zs g hl=>?_) (fun i H3 l vs hi sm hl hL R hR=>?_) (fun l H3 vs sm hl hL hvl hvs=>?_)
  ·obtain⟨a,ds,g1,g2,g3,g4,g5⟩:=g
   exact⟨a,ds,g1,g2,g3,sm _ _ g4,g5⟩
  ·obtain⟨a,ds,g1,g2,g3,g4,g5⟩:=g
   exact⟨a,ds,g1,g2,g3,by rw[upd_ne g3];exact g4,g5⟩
  ·rw[List.length_map] at hi
   obtain⟨ds,hd1,hd2⟩:=h3.2 i as[i] (List.getElem?_eq_getElem hi)
   have dm:=List.mem_of_getElem? hd1
   have dl:=(S.cl ok dm).1
   refine⟨_,rfl,_,rfl,lc,_,_,_,rfl,rfl,SqL.of (sm _ _ h2),(by rw[Int.zero_add];exact atI_nat (by rw[List.getElem?_map,List.getElem?_eq_getElem hi];rfl):atI (as.map V.ref) (0+((i:Nat):Int))=some (V.ref as[i])),as[i],rfl,⟨_,SqL.of (sm _ _ hd2)⟩,?_⟩
   refine comp_list (K:=K) (xs:=vN ds) (keepV i seat c) (fun x=>x) (SqL.of (sm _ _ hd2)) (fits3 _ (by rw[vN_len];omega)) (fun x H4 hx s4 R hR=>?_) (fun x H4 hx hp s4 R hR=>⟨_,rfl,hR H4 (Same.refl H4)⟩) (fun l4 H4 s4 hl4 hL4=>hR _ _ s4 ⟨l4,ds,hd1,rfl,fun z=>?_,by rw[hL4,keepV_list],sm.free hl4⟩)
   ·obtain⟨o,ho,rfl⟩:=List.mem_map.mp hx
    have e1:(!decide (V.int (0+((i:Nat):Int))=V.int ((seat:Nat):Int)))=decide (i≠seat):=by
     rw[eq_int,← decide_not]
     exact decide_eq_decide.mpr ⟨fun h=>by omega,fun h=>by omega⟩
    have e2:(!decide (V.int ((o:Nat):Int)=V.int ((c:Nat):Int)))=decide (((o:Nat):Int)≠((c:Nat):Int)):=by
     rw[eq_int,← decide_not]
    have z:=hR H4 (Same.refl H4)
    have ek:keepV i seat c (V.int ((o:Nat):Int))=(decide (i≠seat) || decide (((o:Nat):Int)≠((c:Nat):Int))):=rfl
    rw[ek] at z
    refine⟨_,rfl,_,rfl,rfl,_,rfl,chg e1 ?_⟩
    by_cases hs:i=seat
    ·rw[decide_eq_false (fun n=>n hs)] at z ⊢
     refine iteF ⟨_,rfl,_,rfl,rfl,_,rfl,?_⟩
     rw[Bool.false_or,← e2] at z
     exact z
    ·rw[decide_eq_true hs] at z ⊢
     exact iteT z
   ·rw[z] at hl4
    rw[hL] at hl4
    cases hl4
  ·rw[List.length_map] at hvl
   obtain⟨bs,rfl⟩:=refs_of fun j v e=>let ⟨a,_,_,e2,_⟩:=hvs j v e;⟨a,e2⟩
   rw[List.length_map] at hvl
   refine hR _ _ ⟨l,bs,rfl,sm,hL,⟨by rw[List.length_set,hvl,h3.1],fun j b hj=>?_⟩,hl,fun b hb=>?_⟩
   rotate_left
   ·obtain⟨j,hj,ej⟩:=List.mem_iff_getElem.mp hb
    obtain⟨a,ds,g1,g2,_,g4,g5⟩:=hvs j (.ref b) (by rw[List.getElem?_map,List.getElem?_eq_getElem hj,ej];rfl)
    injection g2 with g2
    rw[g2]
    exact g5
   obtain⟨a,ds,g1,g2,_,g4,_⟩:=hvs j (.ref b) (by rw[List.getElem?_map,hj];rfl)
   injection g2 with g2
   subst g2
   refine⟨_,?_,g4⟩
   by_cases hs:j=seat
   ·subst hs
    rw[List.getElem?_set_self (List.getElem?_eq_some_iff.mp g1).1]
    rw[ec] at g1
    cases g1
    refine congrArg some (List.filter_congr fun o _=>?_)
    have ej:decide (j≠j)=false:=decide_eq_false (fun n=>n rfl)
    rw[ej,Bool.false_or]
   ·rw[List.getElem?_set_ne (Ne.symm hs),g1]
    refine congrArg some (List.filter_eq_self.mpr fun o _=>?_).symm
    rw[decide_eq_true hs,Bool.true_or]
 obtain⟨lr,bs,rfl,s2,hR2,hD2,nR,nB⟩:=z
 have eY:vN ys++[V.int (c:Nat)]=vN (ys++[c]):=by unfold vN;rw[List.map_append];rfl
 refine set_nm (fun v H3=>∃(l:Addr),v = .ref l∧Same H2 H3∧H3 l=some (.lst (vN (ys++[c])))∧H2 l=none) (fun R hR=>?_) (fun v H3 z=>?_)
 ·refine⟨_,rfl,_,rfl,fits3 1 (by decide),fun l hl=>⟨lt,l,_,_,rfl,rfl,same_upd hl _ _ _ (s2 _ _ h4),upd_same,fits3 _ (by rw[vN_len];show ys.length+1≤1000;omega),fun pn hpn=>hR _ _ ⟨pn,rfl,(same_upd hl _).trans (same_upd hpn _),by rw[upd_same,eY],(same_upd hl _).free hpn⟩⟩⟩
 obtain⟨lq,rfl,s3,hY3,nY⟩:=z
 have s13:=s2.trans s3
 have e3:decide (((((vN (ys++[c])).length:Nat)):Int) < (((as.map V.ref).length:Nat):Int))=decide (ys.length+1 < fx.n):=by
  rw[vN_len,List.length_append,List.length_singleton,List.length_map,al]
  exact decide_eq_decide.mpr ⟨fun h=>by omega,fun h=>by omega⟩
 refine⟨_,rfl,lq,_,rfl,.inl (SqL.of hY3),_,rfl,lc,_,rfl,.inl (SqL.of (s13 _ _ h2)),_,_,rfl,rfl,_,rfl,chg e3 ?_⟩
 have eset:(css.set seat (cs.filter fun o=>decide (o≠c))).map hN=(css.map hN).set seat (hN cs ^^^ 2 ^ c):=by rw[List.map_set,hN_less hc]
 by_cases cl:ys.length+1 < fx.n
 ·rw[decide_eq_true cl]
  refine iteT ⟨_,rfl,_,rfl,_,rfl,fits3 3 (by decide),fun p1 hp1=>⟨fits3 2 (by decide),fun p2 hp2=>?_⟩⟩
  have a1:=same_upd hp1 (.tup [.ref lr,.int (lead:Nat),.ref lq])
  have a2:=same_upd hp2 (.tup [.ref p1,.non])
  have a12:=a1.trans a2
  refine q p2 p1 lead (ys++[c]) none _ (s13.trans a12) upd_same ⟨lr,lq,bs,a2 _ _ upd_same,a12 _ _ (s3 _ _ hR2),(hD2.same s3).same a12,a12 _ _ hY3,s13.free hp1,nR,s2.free nY,nB⟩ ⟨by rw[eset,eseat],fun _=>⟨rfl,rfl,rfl⟩,fun z=>by omega⟩
 ·rw[decide_eq_false cl]
  refine iteF (nx_of ?_)
  have cl2:ys.length+1=fx.n:=by omega
  have T:Trk fx (ys++[c]):=⟨trk_nd S.plc (by rw[eseat];exact eh) hb,fun y hy=>by
   rcases List.mem_append.mp hy with z | z
   ·exact(S.plc.pk y (cnt_card z)).2
   ·rw[List.mem_singleton.mp z]
    exact(S.pk cm hc).2,by rw[List.length_append];exact Nat.succ_pos _⟩
  generalize ezs:ys++[c]=zs at *
  have zl:zs.length=fx.n:=by rw[← ezs,List.length_append,List.length_singleton];exact cl2
  have el:((zs.getD 0 0:Nat):Int) / 8=((ledOf zs:Nat):Int):=by unfold ledOf;omega
  have hRt3:=hRt.same s13
  have z32:∀ y∈zs,y < 32:=fun y hy=>by
   rw[← ezs] at hy
   rcases List.mem_append.mp hy with z | z
   ·exact S.plc.y32 ok z
   ·rw[List.mem_singleton.mp z]
    exact S.c32 ok cm c hc
  refine set_nm (fun v H4=>H3=H4∧v = .int ((ledOf zs:Nat):Int)) (fun R hR=>⟨_,rfl,lq,_,_,_,rfl,rfl,SqL.of hY3,at_vN (i:=0) T.ne,_,_,rfl,rfl,⟨by decide,by decide⟩,hR _ _ ⟨rfl,congrArg V.int el⟩⟩) (fun v H4 z=>?_)
  obtain⟨rfl,rfl⟩:=z
  refine set_nm (fun v H4=>∃(l:Addr) (ps:List Addr),v = .ref l∧Same H3 H4∧TupL K H4 l ps (zs.map (rankL fx t (ledOf zs)))∧ps.length=zs.length) (fun R hR=>?_) (fun v H4 z=>?_)
  ·refine⟨_,rfl,lq,rfl,⟨_,SqL.of hY3⟩,comp_someL (K:=K) (xs:=vN zs) (fun _ i v H=>∃(p:Addr) (y:Nat),zs[i]? = some y∧v = .ref p∧H p=some (.tup ((rankL fx t (ledOf zs) y).map V.int))) (SqL.of hY3) (fits3 _ (by rw[vN_len];omega)) (fun l i v H H' g sm=>?_) (fun l i v H xs zs g hl=>?_) (fun i x H5 l vs hx sm hl hL R hR=>?_) (fun l H5 vs sm hl hL hvl hvs=>?_)⟩
   ·obtain⟨p,y,a1,a2,a3⟩:=g
    exact⟨p,y,a1,a2,sm _ _ a3⟩
   ·obtain⟨p,y,a1,a2,a3⟩:=g
    exact⟨p,y,a1,a2,by rw[upd_ne (ne_of a3 hl (fun z=>nomatch z))];exact a3⟩
   ·obtain⟨y,hy,rfl⟩:=vN_get hx
    exact⟨_,rfl,_,rfl,_,rfl,d,fx,t,sz,y,ledOf zs,rfl,ok,hRt3.same sm,T.ht y (List.mem_of_getElem? hy),z32 y (List.mem_of_getElem? hy),fun p H6 s6 hp6=>hR _ _ s6 ⟨p,y,hy,rfl,hp6⟩⟩
   ·rw[vN_len] at hvl
    obtain⟨ps,rfl⟩:=refs_of fun j v e=>let ⟨a,_,_,e2,_⟩:=hvs j v e;⟨a,e2⟩
    rw[List.length_map] at hvl
    refine hR _ _ ⟨l,ps,rfl,sm,⟨SqL.of hL,by rw[List.length_map];exact hvl,fun j p hj=>?_⟩,hvl⟩
    obtain⟨p',y,a1,a2,a3⟩:=hvs j (.ref p) (by rw[List.getElem?_map,hj];rfl)
    injection a2 with a2
    subst a2
    exact⟨_,by rw[List.getElem?_map,a1];rfl,a3⟩
  obtain⟨lk,ps,rfl,s4,hT4,pl4⟩:=z
  have s14:=s13.trans s4
  refine set_nm (fun v H5=>H5=H4∧∃ i,Win fx t (ledOf zs) zs i∧v = .int (((lead+i) % fx.n:Nat):Int)) (fun R hR=>?_) (fun v H5 z=>?_)
  ·refine⟨_,rfl,_,rfl,.inl ⟨rfl,_,hT4.1⟩,_,rfl,lk,ps,_,(fun i=>((rk fx t (ledOf zs) (zs.getD i 0):Nat):Int)),rfl,hT4,by omega,fun i j ns ms hi hj=>?_,fun j p hj hmax=>?_⟩
   ·rw[List.getElem?_map] at hi hj
    obtain⟨a,a1,rfl⟩:=Option.map_eq_some_iff.mp hi
    obtain⟨b,b1,rfl⟩:=Option.map_eq_some_iff.mp hj
    show HT.lexLt _ _=decide (((rk fx t (ledOf zs) (zs.getD i 0):Nat):Int) > ((rk fx t (ledOf zs) (zs.getD j 0):Nat):Int))
    rw[List.getD_eq_getElem?_getD,List.getD_eq_getElem?_getD,a1,b1]
    exact rank_lex ok t _ b a
   ·have jl:j < zs.length:=by rw[← pl4];exact(List.getElem?_eq_some_iff.mp hj).1
    have at_:∀ i,i < zs.length→zs[i]? = some (zs.getD i 0):=fun i hi=>by rw[List.getD_eq_getElem?_getD,List.getElem?_eq_getElem hi];rfl
    have hm:∀ i,i < zs.length→rk fx t (ledOf zs) (zs.getD i 0)≤rk fx t (ledOf zs) (zs.getD j 0):=fun i hi=>by
     have:=hmax i (by rw[pl4];exact hi)
     have t2:((rk fx t (ledOf zs) (zs.getD i 0):Nat):Int)≤((rk fx t (ledOf zs) (zs.getD j 0):Nat):Int):=this
     omega
    have W:=win_of ok T jl hm
    obtain⟨ks,hk1,hk2⟩:=hT4.2.2 j p hj
    have hks:ks=rankL fx t (ledOf zs) (zs.getD j 0):=by
     rw[List.getElem?_map,at_ j jl] at hk1
     exact(Option.some.inj hk1).symm
    have r10:10≤rk fx t (ledOf zs) (zs.getD j 0):=Nat.le_trans (rk_led fx t (zs.getD 0 0)) (hm 0 T.ne)
    refine⟨lk,p,ps,_,ks,j,rfl,rfl,hT4,by omega,hk2,hk1,fun m' hm' z=>?_,_,_,rfl,rfl,_,rfl,lc,_,rfl,.inl (SqL.of (s14 _ _ h2)),_,_,rfl,rfl,(by show(0:Int) < (((as.map V.ref).length:Nat):Int);rw[List.length_map,al];omega),hR _ _ ⟨rfl,j,W,?_⟩⟩
    ·have ml':m' < zs.length:=by omega
     rw[List.getElem?_map,at_ m' ml'] at z
     have z':rankL fx t (ledOf zs) (zs.getD m' 0)=ks:=Option.some.inj z
     rw[hks] at z'
     have e5:=rank_eq ok z'
     have e6:=rk_inj ok (T.ht _ (List.mem_of_getElem? (at_ m' ml'))) (T.ht _ (List.mem_of_getElem? (at_ j jl))) (by rw[e5];exact r10) e5
     have:=nd_at T.nd (at_ m' ml') (by rw[at_ j jl,e6])
     omega
    ·show V.int ((((lead:Nat):Int)+((j:Nat):Int)) % (((as.map V.ref).length:Nat):Int))=_
     rw[List.length_map,al]
     rfl
  obtain⟨rfl,i,W,rfl⟩:=z
  refine⟨_,rfl,_,rfl,fits3 0 (by decide),fun le hle=>⟨fits3 3 (by decide),fun p1 hp1=>⟨_,rfl,fits3 2 (by decide),fun p2 hp2=>?_⟩⟩⟩
  have a0:=same_upd hle (.lst [])
  have a1:=same_upd hp1 (.tup [.ref lr,.int (((lead+i) % fx.n:Nat):Int),.ref le])
  have a2:=same_upd hp2 (.tup [.ref p1,.int (((lead+i) % fx.n:Nat):Int)])
  have a12:=a1.trans a2
  have a02:=a0.trans a12
  refine q p2 p1 ((lead+i) % fx.n) [] (some ((lead+i) % fx.n)) _ (s14.trans a02) upd_same ⟨lr,le,bs,a2 _ _ upd_same,a02 _ _ (s4 _ _ (s3 _ _ hR2)),((hD2.same s3).same s4).same a02,a12 _ _ upd_same,(s14.trans a0).free hp1,nR,s14.free hle,nB⟩ ⟨by rw[eset,eseat],fun z=>by omega,fun _=>⟨rfl,rfl,i,by rw[ezs];exact W,rfl⟩⟩
end
end My
namespace My
open PySem L2
abbrev sLPlace:Stmt:=top 20
abbrev sLState:Stmt:=top 19
section
variable{P:Program}{w:World}{K:PySem.W.Frag}{mg:Str→Option Value}{base:Heap}{f g:Addr}{fd gd:FuncData}
def natsOf(vs:List V):List Nat:=vs.map fun v=>match v with | .int i=>i.toNat | _=>0
theorem natsOf_vN(cs:List Nat):natsOf (vN cs)=cs:=by
 unfold natsOf vN
 rw[List.map_map]
 have:((fun v:V=>match v with | .int i=>i.toNat | _=>0) ∘ fun c:Nat=>V.int (c:Nat))=id:=by funext c;exact Int.toNat_natCast c
 rw[this,List.map_id]
def handV(H:Hp)(x:V):V:=match x with | .ref a=>(match H a with | some (.lst vs)=>.int ((hN (natsOf vs):Nat):Int) | _=>.non) | _=>.non
theorem handV_at{H:Hp}{a:Addr}{cs:List Nat}(h:H a=some (.lst (vN cs))):handV H (.ref a) = .int ((hN cs:Nat):Int):=by
 show(match H a with | some (.lst vs)=>V.int ((hN (natsOf vs):Nat):Int) | _=>.non)=_
 rw[h]
 show V.int ((hN (natsOf (vN cs)):Nat):Int)=_
 rw[natsOf_vN]
theorem handV_list{H:Hp}{as:List Addr}{css:List (List Nat)}(h:IsDl H as css):((as.map V.ref).filter fun _=>true).map (handV H)=vN (css.map hN):=by
 rw[List.filter_eq_self.mpr fun _ _=>rfl]
 unfold vN
 rw[List.map_map,List.map_map]
 apply List.ext_getElem?
 intro j
 rw[List.getElem?_map,List.getElem?_map]
 cases e:as[j]? with
 | none=>
  have:css[j]? = none:=by
   rw[List.getElem?_eq_none_iff] at e ⊢
   rw[← h.1]
   exact e
  rw[this]
  rfl
 | some a=>
  obtain⟨cs,e1,e2⟩:=h.2 j a e
  rw[e1]
  show some (handV H (V.ref a))=some (V.int ((hN cs:Nat):Int))
  rw[handV_at e2]
theorem deal_total{f:Fx}{sz:Nat}(ok:f.Ok):∀{css:List (List Nat)},(∀ cs∈css,cs.length=sz∧cs.Nodup∧∀ c∈cs,c < 32)→((css.map hN).map (pcK 32)).sum=css.length * sz
 | [],_=>by simp
 | c :: r,h=>by
  obtain⟨a,b,d⟩:=h c List.mem_cons_self
  rw[List.map_cons,List.map_cons,List.sum_cons,deal_total ok fun cs hcs=>h cs (List.mem_cons_of_mem _ hcs),pc_hN b d,a,List.length_cons,Nat.succ_mul]
  omega
theorem DealOk.total{f:Fx}{sz:Nat}{css:List (List Nat)}(ok:f.Ok)(D:DealOk f sz css):((css.map hN).map (pcK 32)).sum=f.n * sz:=by
 rw[deal_total ok fun cs hcs=>⟨D.each cs hcs,D.nd1 hcs,D.c32 ok hcs⟩,D.len]
theorem deep_ints{K:PySem.W.Frag}{H:Hp}{d:Nat}(ys:List Nat):∀ j,j < (vN ys).length→DeepEq K H d ((vN ys).getD j .non) ((vN ys).getD j .non):=fun j hj=>by
 have e:(vN ys)[j]? = some ((vN ys).getD j .non):=by rw[List.getD_eq_getElem?_getD,List.getElem?_eq_getElem hj];rfl
 obtain⟨c,_,e2⟩:=vN_get e
 rw[e2]
 exact .flat rfl
theorem deep_lst{K:PySem.W.Frag}{H:Hp}{d:Nat}{p q:Addr}{ys:List Nat}(hp:H p=some (.lst (vN ys)))(hq:H q=some (.lst (vN ys))):DeepEq K H (d+1) (.ref p) (.ref q):=.lst (SqL.of hp) (SqL.of hq) rfl (deep_ints ys)
theorem deep_tup{K:PySem.W.Frag}{H:Hp}{d:Nat}{p q:Addr}{ys:List Nat}(hp:H p=some (.tup (vN ys)))(hq:H q=some (.tup (vN ys))):DeepEq K H (d+1) (.ref p) (.ref q):=.tup (SqT.of hp) (SqT.of hq) rfl (deep_ints ys)
theorem deep_pl{K:PySem.W.Frag}{H:Hp}{d:Nat}{p q:Addr}{hs ys:List Nat}{lead:Nat}(hp:IsPl H p hs lead ys)(hq:IsPl H q hs lead ys):DeepEq K H (d+2) (.ref p) (.ref q):=by
 obtain⟨a1,a2,a3,a4,a5⟩:=hp
 obtain⟨b1,b2,b3,b4,b5⟩:=hq
 refine .tup (SqT.of a3) (SqT.of b3) rfl fun j hj=>?_
 match j,hj with
 | 0,_=>exact deep_tup a4 b4
 | 1,_=>exact .flat rfl
 | 2,_=>exact deep_tup a5 b5
theorem sum_nat:∀(xs:List Nat),((xs.map fun x=>((x:Nat):Int))).sum=((xs.sum:Nat):Int)
 | []=>rfl
 | x :: xs=>by rw[List.map_cons,List.sum_cons,List.sum_cons,sum_nat xs,Int.natCast_add]
theorem orL_nn{a b:List Nat}(h:b≠[]):orL a b≠[]:=by
 unfold orL
 split
 ·exact h
 ·assumption
theorem alw_nn{d:_root_.Fin 4}{f:Fx}{t:Option Nat}{ys cs:List Nat}(h:cs≠[]):alw d f t ys cs≠[]:=by
 match d with
 | 0=>exact h
 | 1=>exact orL_nn h
 | 2=>exact orL_nn (orL_nn h)
 | 3=>exact orL_nn (orL_nn (orL_nn h))
theorem len32{cs:List Nat}(nd:cs.Nodup)(h:∀ c∈cs,c < 32):cs.length≤32:=by
 have e:=pc_hN nd h
 have:pcK 32 (hN cs)≤32:=by
  unfold pcK
  have:=List.length_filter_le (fun b=>(hN cs).testBit b) (List.range 32)
  rw[List.length_range] at this
  exact this
 omega
theorem sum_zero:∀{l:List Nat},(∀ x∈l,x=0)→l.sum=0
 | [],_=>rfl
 | x :: l,h=>by rw[List.sum_cons,h x List.mem_cons_self,sum_zero fun y hy=>h y (List.mem_cons_of_mem _ hy)]
theorem StOk.pos{n:Nat}{fx:Fx}{css:List (List Nat)}{lead m i:Nat}{ys:List Nat}(S:StOk fx css lead ys m)(h:((css.map hN).map (pcK 32)).sum+i=n)(hi:i < n):0 < m:=by
 rcases Nat.eq_zero_or_pos m with z | z
 ·exfalso
  have all:∀ x∈(css.map hN).map (pcK 32),x=0:=fun x hx=>by
   obtain⟨g,hg,rfl⟩:=List.mem_map.mp hx
   have:=S.plc.le hg
   omega
  have:((css.map hN).map (pcK 32)).sum=0:=sum_zero all
  omega
 ·exact z
theorem StOk.beg{fx:Fx}(ok:fx.Ok){css:List (List Nat)}{lead m:Nat}{ys cs:List Nat}(S:StOk fx css lead ys m)(h:cs∈css):ys=[]∨Beg fx ys cs:=by
 by_cases e:ys=[]
 ·exact .inl e
 ·refine .inr ⟨List.length_pos_iff.mpr e,?_,fun c hc=>?_,fun c hc=>⟨S.c32 ok h c hc,(S.pk h hc).2⟩⟩
  ·have:=S.plc.yl
   rcases ok.n34 with e | e<;>omega
  ·have:=S.plc.pk c (cnt_card hc)
   have:=ok.s4
   omega
theorem DealOk.st{f:Fx}{sz:Nat}{css:List (List Nat)}(ok:f.Ok)(D:DealOk f sz css){lead:Nat}(hl:lead < f.n):StOk f css lead [] sz:=⟨D.plc ok hl,fun cs h=>List.Pairwise.imp₂ (fun {a b} (l:a≤b) (n:a≠b)=>by omega) (D.up cs h) (D.nd1 h)⟩
theorem ints_nat{ms:List Int}{cs:List Nat}(h:ms.Perm (cs.map fun c=>((c:Nat):Int))):∃ ds:List Nat,ms.map V.int=vN ds∧ds.Perm cs∧(ms.Pairwise (·≤·)→ds.Pairwise (·≤·)):=by
 have all:∀ m∈ms,∃ c:Nat,m=(c:Int):=fun m hm=>by
  obtain⟨c,_,e⟩:=List.mem_map.mp (h.mem_iff.mp hm)
  exact⟨c,e.symm⟩
 refine⟨ms.map Int.toNat,?_,?_,fun pw=>?_⟩
 ·unfold vN
  rw[List.map_map]
  refine List.map_congr_left fun m hm=>?_
  obtain⟨c,e⟩:=all m hm
  show V.int m=V.int ((m.toNat:Nat):Int)
  rw[e,Int.toNat_natCast]
 ·have:=h.map Int.toNat
  rw[List.map_map] at this
  have e:cs.map (Int.toNat ∘ fun c=>((c:Nat):Int))=cs:=by
   have:(Int.toNat ∘ fun c:Nat=>((c:Nat):Int))=id:=by funext c;exact Int.toNat_natCast c
   rw[this,List.map_id]
  rw[e] at this
  exact this
 ·refine List.pairwise_map.mpr (pw.imp fun {a b} hab=>?_)
  omega
def cPl:Scope:=match defBody sLPlace with
 | [.Return (some (.Tuple (.Call _ [.ListComp _ _ sc _] _ _ :: _) _ _)) _]=>sc
 | _=>defScope sLPlace
def spLPlace(K:PySem.W.Frag):Sp:=fun vs H Q _=>∃(st:Addr) (fx:Fx) (css:List (List Nat)) (lead m:Nat) (ys:List Nat),vs=[.ref st]∧fx.Ok∧IsSt H st css lead ys∧StOk fx css lead ys m∧∀ p H',Same H H'→IsPl H' p (css.map hN) lead ys→Q (.ref p) H'
theorem scLPlace:FnScope ["_law_state_here"] ["_law_state_here"] (defScope sLPlace):=⟨rfl,rfl,rfl,by decide +kernel,rfl,by decide +kernel,by decide +kernel⟩
theorem ok_lplace{k:Nat}(F:Fun K "_law_place" "_law_place" sLPlace f fd)(mT:mg "tuple" = none)(mS:mg "sum" = none):FnOk P w K mg base CX0 (k+1) f fd ["_law_state_here"] (spLPlace K):=by
 refine F.ok scLPlace (fun vs H Q E h=>?_) (fun cdv A outer s H vs Q E hr h=>?_)
 ·obtain⟨st,fx,css,lead,m,ys,rfl,_⟩:=h
  rfl
 obtain⟨st,fx,css,lead,m,ys,rfl,ok,⟨lc,lt,as,h1,h2,h3,h4⟩,S,q⟩:=h
 refine⟨_,pss_one (ps_ret (pe_tup (pa_cons (pe_callTy call_tuple_of rfl mT PyProof.Rows.boot_tuple (pa_cons (pe_comp ["_law_hand_here"] [none] rfl (Blk.by (sc:=defScope sLPlace) (N0:=["_law_state_here"]) rfl rfl (by decide +kernel)) (pi_list (pe_ix ix_tup (pv 0) pe_int (fun _ _=>rfl))) (fun C s₀ H₀ ex=>pg_name (i:=0) (show(["_law_hand_here"]:List Str).Nodup by decide +kernel) rfl (Or.inl rfl)) (fun C s₀ H₀ ex=>pf_nil)
   (fun C s₀ H₀ ex=>pe_callB (show CallR _ (.builtin "sum") (fun xs H Q=>∃(a:Addr) (ns:List Int),xs=[.ref a]∧SqL K H a (ns.map V.int)∧Q (.int ns.sum) H) from call_sum rfl) rfl mS PyProof.Rows.boot_sum (pa_cons (pe_comp ["_law_card_here"] [none] rfl (Blk.by (sc:=relS cPl (defScope sLPlace)) (N0:=["_law_hand_here"]) rfl rfl (by decide +kernel)) (pi_listK K rfl (pv 0)) (fun C s₀ H₀ ex=>pg_name (i:=0) (show(["_law_card_here"]:List Str).Nodup by decide +kernel) rfl (Or.inl rfl)) (fun C s₀ H₀ ex=>pf_nil)
    (fun C s₀ H₀ ex=>pe_op op_shl pe_int (pv 0))) pa_nil))) pa_nil)) (pa_cons (pe_ix ix_tup (pv 0) pe_int (fun _ _=>rfl)) (pa_cons (pe_callTy call_tuple_of rfl mT PyProof.Rows.boot_tuple (pa_cons (pe_ix ix_tup (pv 0) pe_int (fun _ _=>rfl)) pa_nil)) pa_nil))))),?_⟩
 have n4:fx.n≤4:=by rcases ok.n34 with e | e<;>omega
 have al:as.length=fx.n:=h3.1.trans S.len
 refine⟨_,rfl,st,_,_,_,rfl,rfl,SqT.of h1,(rfl:atI [V.ref lc,V.int (lead:Nat),V.ref lt] 0=some (V.ref lc)),lc,rfl,⟨_,SqL.of h2⟩,comp_list (K:=K) (xs:=as.map V.ref) (fun _=>true) (handV H) (SqL.of h2) (fits3 _ (by rw[List.length_map];omega)) (fun x H3 hx sm R hR=>hR H3 (Same.refl H3)) (fun xv H5 hx hp sm R hR=>?_) (fun lq H4 s4 hlq hLq=>?_)⟩
 ·obtain⟨av,hav,rfl⟩:=List.mem_map.mp hx
  obtain⟨j,hj,ej⟩:=List.mem_iff_getElem.mp hav
  obtain⟨cs,e1,e2⟩:=h3.2 j av (by rw[List.getElem?_eq_getElem hj,ej])
  have mcs:=List.mem_of_getElem? e1
  have cl:=(S.cl ok mcs).1
  have e2':=sm _ _ e2
  refine⟨_,rfl,av,rfl,⟨_,SqL.of e2'⟩,comp_list (K:=K) (xs:=vN cs) (fun _=>true) powV (SqL.of e2') (fits3 _ (by rw[vN_len];omega)) (fun x H3 hx sm R hR=>hR H3 (Same.refl H3)) (fun x H3 hx hp sm R hR=>?_) (fun l H1 sm1 hl hL1=>?_)⟩
  ·obtain⟨c,hc,rfl⟩:=List.mem_map.mp hx
   have:=S.c32 ok mcs c hc
   refine⟨_,rfl,_,_,rfl,rfl,⟨by omega,by omega,by decide⟩,?_⟩
   have z:=hR H3 (Same.refl H3)
   show R (V.int ((1:Int) * 2 ^ (((c:Nat):Int)).toNat)) H3
   rw[shl_nat]
   have e:powV (V.int (c:Nat))=V.int ((2 ^ c:Nat):Int):=by
    show V.int ((2 ^ (((c:Nat):Int)).toNat:Nat):Int)=_
    rw[Int.toNat_natCast]
   rw[e] at z
   exact z
  ·rw[powV_list,vN_ints] at hL1
   have z:=hR H1 sm1
   rw[handV_at e2] at z
   refine⟨l,_,rfl,SqL.of hL1,?_⟩
   rw[sum_nat,hN_sum (S.nd cs mcs)]
   exact z
 rw[handV_list h3] at hLq
 refine⟨lq,_,rfl,.inl ⟨SqL.of hLq,fun th hth=>?_⟩⟩
 have s5:=s4.trans (same_upd hth (.tup (vN (css.map hN))))
 refine⟨_,rfl,st,_,_,_,rfl,rfl,SqT.of (s5 _ _ h1),(rfl:atI [V.ref lc,V.int (lead:Nat),V.ref lt] 1=some (V.int (lead:Nat))),_,rfl,st,_,_,_,rfl,rfl,SqT.of (s5 _ _ h1),(rfl:atI [V.ref lc,V.int (lead:Nat),V.ref lt] 2=some (V.ref lt)),lt,_,rfl,.inl ⟨SqL.of (s5 _ _ h4),fun tz htz=>⟨fits3 3 (by decide),fun p hp=>?_⟩⟩⟩
 have a6:=same_upd htz (.tup (vN ys))
 have a7:=same_upd hp (.tup [.ref th,.int (lead:Nat),.ref tz])
 exact q p _ ((s5.trans a6).trans a7) ⟨th,tz,upd_same,a7 _ _ (a6 _ _ upd_same),a7 _ _ upd_same⟩
theorem deal_ok2{f:Fx}(ok:f.Ok){sz:Nat}{ds:List Nat}{css:List (List Nat)}(hp:ds.Perm (packL f.s f.h))(hsz:sz * f.n≤f.s * f.h)(hl:css.length=f.n)
  (hc:∀(j:Nat) (cs:List Nat),css[j]? = some cs→cs.Perm ((ds.drop (sz * j)).take sz)) (hu:∀ cs∈css,cs.Pairwise (·≤·)):DealOk f sz css:=by
 have ll:ds.length=f.s * f.h:=by rw[hp.length_eq,pack_length]
 have e1:=flat_perm css _ hc
 rw[hl,chunks ds sz f.n] at e1
 refine⟨hl,fun cs hcs=>?_,?_,fun c hcc=>?_,hu⟩
 ·obtain⟨j,hj,e⟩:=List.mem_iff_getElem.mp hcs
  have p:=hc j cs (by rw[List.getElem?_eq_getElem hj,e])
  rw[p.length_eq,List.length_take,List.length_drop,ll]
  have h1:sz * (j+1)≤sz * f.n:=Nat.mul_le_mul_left _ (by omega)
  rw[Nat.mul_succ] at h1
  omega
 ·exact e1.nodup_iff.mpr (List.Nodup.sublist (List.take_sublist _ _) (hp.nodup_iff.mpr (pack_nd f.s ok.s4 f.h ok.h8)))
 ·exact(pack_mem ok.h8).mp (hp.mem_iff.mp (List.mem_of_mem_take (e1.mem_iff.mp hcc)))
def spLState(K:PySem.W.Frag):Sp:=fun vs H Q _=>∃(a:Addr) (ns:List Int) (d:Addr) (f:Fx) (t:Option Nat) (sz steps:Nat),vs=[.ref a,.ref d,.int (steps:Nat)]∧SqL K H a (ns.map V.int)∧ns.length≤63∧f.Ok∧IsRt H d f t sz∧sz * f.n≤f.s * f.h∧steps≤1000 ∧
 ∀ st css lead ys m H',Same H H'→IsSt H' st css lead ys→StOk f css lead ys m→((css.map hN).map (pcK 32)).sum+min steps (f.n * sz)=f.n * sz→Q (.ref st) H'
abbrev pLState:List Str:=["_law_script","_law_rules_here","_law_steps_here"]
abbrev nLState:List Str:=["_law_script","_law_rules_here","_law_steps_here","_law_seats","_law_suits_here","_law_size","_law_word","_law_trump","_law_orders","_law_pack","_law_suit","_law_order_here","_law_hands","_law_state_here","_law_k","_law_some"]
theorem scLState:FnScope nLState pLState (defScope sLState):=⟨rfl,rfl,rfl,by decide +kernel,rfl,by decide +kernel,by decide +kernel⟩
abbrev nS1:List Str:=["_law_height","_law_suit"]
abbrev nS2:List Str:=["_law_card_here","_law_script"]
abbrev nS3:List Str:=["_law_k","_law_order_here","_law_size"]
def cSt:Scope:=match (defBody sLState).getD 4 (.Pass ⟨0,0,0,0⟩) with
 | .Assign _ (.ListComp _ _ sc _) _=>sc
 | _=>defScope sLState
theorem cut_midV(xs:List V)(c d:Nat)(hc:c≤xs.length)(hd:d≤xs.length):cutV xs (some (c:Int)) (some (d:Int))=(xs.drop c).take (d - c):=by
 unfold cutV
 rw[HT.sIx_nat,HT.sIx_nat,Nat.min_eq_left hc,Nat.min_eq_left hd]
theorem ok_lstate{k:Nat}{f1 f3 f4 f5:Addr}{d1 d3 d4 d5:FuncData}(F:Fun K "_law_state" "_law_state" sLState f fd)(LX:Lib P w K mg base k "_law_mixed" pMixed (spMixed K) f1 d1)(LT:Lib P w K mg base k "_law_turn" pLTurn spLTurn f3 d3)
  (LM:Lib P w K mg base k "_law_may" pLMay spLMay f4 d4) (LP:Lib P w K mg base k "_law_put" pLPut spLPut f5 d5) (ml:mg "len" = none) (mr:mg "range" = none) (mMn:mg "min" = none) (mso:mg "sorted" = none):FnOk P w K mg base CX0 (k+1) f fd pLState (spLState K):=by
 refine F.ok scLState (fun vs H Q E h=>?_) (fun cdv A outer s H vs Q E hr h=>?_)
 ·obtain⟨a,ns,d,fx,t,sz,steps,rfl,_⟩:=h
  rfl
 obtain⟨a,ns,d,fx,t,sz,steps,rfl,hS,h63,ok,hRt,szn,st1000,q⟩:=h
 refine⟨_,pss_cons (ps_asg (pv 1) (pg_tup rfl (pgs_cons (pg_name (i:=3) scLState.nd rfl (Or.inl rfl)) (pgs_cons (pg_name (i:=4) scLState.nd rfl (Or.inl rfl)) (pgs_cons (pg_name (i:=5) scLState.nd rfl (Or.inr rfl)) (pgs_cons (pg_name (i:=6) scLState.nd rfl (Or.inl rfl)) (pgs_cons (pg_name (i:=7) scLState.nd rfl (Or.inl rfl)) (pgs_cons (pg_name (i:=8) scLState.nd rfl (Or.inl rfl)) pgs_nil))))))))
  (pss_cons (ps_set (i:=9) scLState.nd rfl (Or.inl rfl) (pe_lst pa_nil))
  (pss_cons (ps_for PassesOwn.never rfl (pi_range1 rfl mr (pa_cons (pv 4) pa_nil)) (pg_name (i:=10) scLState.nd rfl (Or.inr rfl)) (pss_one (ps_set (i:=9) scLState.nd rfl (Or.inl rfl) (pe_op op_cat (pv 9) (pe_comp nS1 [none,some 10] rfl (Blk.by (sc:=defScope sLState) (N0:=nLState) rfl rfl (by decide +kernel)) (pi_range1 rfl mr (pa_cons (pe_callB call_len_seq rfl ml PySem.boot_len (pa_cons (pe_ix ix_list (pv 8) pe_int (fun _ _=>rfl)) pa_nil)) pa_nil)) (fun C s₀ H₀ ex=>pg_name (i:=0) (show nS1.Nodup by decide +kernel) rfl (Or.inl rfl))
    (fun C s₀ H₀ ex=>pf_nil) (fun C s₀ H₀ ex=>pe_op op_add (pe_op op_mul pe_int (pv 1)) (pv 0)))))))
  (pss_cons (ps_set (i:=11) scLState.nd rfl (Or.inr rfl) (pe_callB call_sorted2 rfl mso PyProof.Rows.boot_sorted (pa_cons (pe_comp nS2 [none,some 0] rfl (Blk.by (sc:=defScope sLState) (N0:=nLState) rfl rfl (by decide +kernel)) (pi_list (pv 9)) (fun C s₀ H₀ ex=>pg_name (i:=0) (show nS2.Nodup by decide +kernel) rfl (Or.inl rfl)) (fun C s₀ H₀ ex=>pf_nil)
    (fun C s₀ H₀ ex=>pe_tup (pa_cons (pe_op op_mod (pe_call LX.ok hr rfl LX.mg LX.kp LX.bd .nil pass0 (pa_cons (pv 1) (pa_cons (pe_op op_add pe_int (pv 0)) pa_nil))) pe_int) (pa_cons (pv 0) pa_nil)))) pa_nil)))
  (pss_cons (ps_setcomp (i:=12) nS3 [none,some 11,some 5] rfl scLState.nd rfl (Or.inl rfl) (Blk.by (sc:=defScope sLState) (N0:=nLState) rfl rfl (by decide +kernel)) (pi_range1 rfl mr (pa_cons (pv 3) pa_nil)) (fun C s₀ H₀ ex=>pg_name (i:=0) (show nS3.Nodup by decide +kernel) rfl (Or.inl rfl)) (fun C s₀ H₀ ex=>pf_nil)
    (fun C s₀ H₀ ex=>pe_callB (show CallR _ (.builtin "sorted") (fun xs H Q=>∃(a:Addr) (ns:List Int),xs=[.ref a]∧SqL K H a (ns.map V.int)∧ns.length < 64∧∀(l:Addr) (ms:List Int),H l=none→ms.Perm ns→ms.Pairwise (·≤·)→Q (.ref l) (upd H l (.lst (ms.map V.int)))) from call_sortedI) rfl mso PyProof.Rows.boot_sorted (pa_cons (pe_comp ["_law_pair"] [none] rfl (Blk.by (sc:=relS cSt (defScope sLState)) (N0:=nS3) rfl rfl (by decide +kernel)) (pi_listK K rfl (pe_slice (show SlR _ (rSlL K) from sl_list) (pv 1) (po_some (pe_op op_mul (pv 0) (pv 2))) (po_some (pe_op op_add (pe_op op_mul (pv 0) (pv 2)) (pv 2))))) (fun C s₀ H₀ ex=>pg_name (i:=0) (show(["_law_pair"]:List Str).Nodup by decide +kernel) rfl (Or.inl rfl)) (fun C s₀ H₀ ex=>pf_nil)
     (fun C s₀ H₀ ex=>pe_ix (show IxR _ (rIxT K) from ix_tup) (pv 0) pe_int (fun _ _=>rfl))) pa_nil)))
  (pss_cons (ps_set (i:=13) scLState.nd rfl (Or.inl rfl) (pe_tup (pa_cons (pv 12) (pa_cons (pe_op op_mod (pe_call LX.ok hr rfl LX.mg LX.kp LX.bd .nil pass0 (pa_cons (pv 0) (pa_cons pe_int pa_nil))) (pv 3)) (pa_cons (pe_lst pa_nil) pa_nil)))))
  (pss_cons (ps_for PassesOwn.never rfl (pi_range1 rfl mr (pa_cons (pe_callB (call_min2 rfl) rfl mMn PyProof.Rows.boot_min (pa_cons (pv 2) (pa_cons (pe_op op_mul (pv 3) (pv 5)) pa_nil))) pa_nil)) (pg_name (i:=14) scLState.nd rfl (Or.inl rfl))
   (pss_cons (ps_set (i:=15) scLState.nd rfl (Or.inl rfl) (pe_call LM.ok hr rfl LM.mg LM.kp LM.bd .nil pass0 (pa_cons (pv 1) (pa_cons (pe_ix ix_list (pe_ix ix_tup (pv 13) pe_int (fun _ _=>rfl)) (pe_call LT.ok hr rfl LT.mg LT.kp LT.bd .nil pass0 (pa_cons (pv 13) pa_nil)) (fun _ _=>rfl)) (pa_cons (pe_ix ix_tup (pv 13) pe_int (fun _ _=>rfl)) pa_nil)))))
   (pss_one (ps_set (i:=13) scLState.nd rfl (Or.inl rfl) (pe_ix ix_tup (pe_call LP.ok hr rfl LP.mg LP.kp LP.bd .nil pass0 (pa_cons (pv 1) (pa_cons (pv 13) (pa_cons (pe_ix ix_list (pv 15) (pe_op op_mod (pe_call LX.ok hr rfl LX.mg LX.kp LX.bd .nil pass0 (pa_cons (pv 0) (pa_cons (pe_op op_add pe_int (pv 14)) pa_nil))) (pe_callB call_len_seq rfl ml PySem.boot_len (pa_cons (pv 15) pa_nil))) (fun _ _=>rfl)) pa_nil)))) pe_int (fun _ _=>rfl))))))
  (pss_one (ps_ret (pv 13))))))))),?_⟩
 obtain⟨lo,lp,lh,hD,hO,hP,hT⟩:=id hRt
 have n4:fx.n≤4:=by rcases ok.n34 with e | e<;>omega
 have n0:0 < fx.n:=by rcases ok.n34 with e | e<;>omega
 have s4:=ok.s4
 have h8:=ok.h8
 have sn:fx.s * fx.h≤32:=Nat.le_trans (Nat.mul_le_mul s4 h8) (by decide)
 have szc:fx.n * sz=sz * fx.n:=Nat.mul_comm _ _
 have sz32:sz≤32:=by
  have:sz * 1≤sz * fx.n:=Nat.mul_le_mul_left _ n0
  omega
 have z1000:=fits3 1000 (by decide)
 refine⟨_,rfl,d,_,rfl,SqT.of hD,rfl,_,_,rfl,_,_,rfl,_,_,rfl,_,_,rfl,_,_,rfl,_,_,rfl,rfl,?_⟩
 refine nxE ?_
 refine set_nm (fun v H1=>∃ l,v = .ref l∧Same H H1∧H1 l=some (.lst [])) (fun R hR=>⟨fits3 0 (by decide),fun l hl=>hR _ _ ⟨l,rfl,same_upd hl _,upd_same⟩⟩) (fun v H1 z=>?_)
 obtain⟨l0,rfl,s1,hl0⟩:=z
 refine seq_cut (fun σ H2=>Same H H2∧∃(lk:Addr) (x10:Option V),σ=[some (.ref a),some (.ref d),some (.int (steps:Nat)),some (.int (fx.n:Nat)),some (.int (fx.s:Nat)),some (.int (sz:Nat)),some (.str (wd fx.d)),some (.int (trI t)),some (.ref lo),some (.ref lk),x10,none,none,none,none,none]∧H2 lk=some (.lst (vN (packL fx.s fx.h)))) (fun D' er nx=>?_) (fun σ H2 z=>?_)
 ·refine⟨_,rfl,(fx.s:Int),rfl,by omega,by omega,?_⟩
  refine for_range (n:=fx.s) (fun i σ H'=>Same H H'∧∃(lk:Addr) (x10:Option V),σ=[some (.ref a),some (.ref d),some (.int (steps:Nat)),some (.int (fx.n:Nat)),some (.int (fx.s:Nat)),some (.int (sz:Nat)),some (.str (wd fx.d)),some (.int (trI t)),some (.ref lo),some (.ref lk),x10,none,none,none,none,none]∧H' lk=some (.lst (vN (packL i fx.h)))) ⟨s1,l0,none,rfl,hl0⟩ (fun i σ H2 hi z=>?_) (fun σ H2 z=>nx _ _ z)
  obtain⟨s2,lk,x10,rfl,hL2⟩:=z
  refine⟨_,rfl,_,rfl,lo,_,_,_,rfl,rfl,SqL.of (s2 _ _ hO),(rfl:atI [V.ref lp,V.ref lh] 0=some (V.ref lp)),lp,_,rfl,.inl (SqL.of (s2 _ _ hP)),((fx.h:Nat):Int),(by rw[vN_len,perm_len ok.pp]),by omega,by omega,?_⟩
  refine comp_range (n:=fx.h) (lo:=0) (fun _=>true) (fun j=>.int ((8 * i+j:Nat):Int)) (fits3 _ (by omega)) (fun j H3 hj sm R hR=>hR H3 (Same.refl H3)) (fun j H3 hj hp sm R hR=>?_) (fun l3 H3 s3 hl3 hL3=>?_)
  ·refine⟨_,rfl,_,_,rfl,rfl,.inl ⟨by decide,by decide⟩,_,rfl,_,_,rfl,rfl,?_⟩
   have e:(8:Int) * (0+(i:Nat))+(0+(j:Nat))=((8 * i+j:Nat):Int):=by omega
   show R (.int ((8:Int) * (0+(i:Nat))+(0+(j:Nat)))) H3
   rw[e]
   exact hR H3 (Same.refl H3)
  have e3:((List.range fx.h).filter fun _=>true).map (fun j=>V.int ((8 * i+j:Nat):Int))=vN ((List.range fx.h).map fun v=>8 * i+v):=by
   rw[List.filter_eq_self.mpr (fun _ _=>rfl)]
   unfold vN
   rw[List.map_map]
   rfl
  rw[e3] at hL3
  have hL4:=s3 _ _ hL2
  have ll:(vN (packL i fx.h)).length+(vN ((List.range fx.h).map fun v=>8 * i+v)).length≤sizeLine:=by
   rw[vN_len,vN_len,List.length_map,List.length_range]
   have:=pack_len i (by omega) fx.h h8
   omega
  refine⟨lk,l3,_,_,rfl,rfl,hL4,hL3,ll,fun pn hpn=>⟨(s2.trans s3).trans (same_upd hpn _),pn,_,rfl,?_⟩⟩
  rw[upd_same]
  congr 2
  unfold packL vN
  rw[List.range_succ,List.flatMap_append,List.map_append]
  congr 1
  simp
 obtain⟨s2,lk,x10,rfl,hK2⟩:=z
 have pl32:=pack_len fx.s s4 fx.h h8
 have plen:=pack_length fx.s fx.h
 have p32:∀ c∈packL fx.s fx.h,c < 32:=fun c hc=>by
  have:=(pack_mem h8).mp hc
  omega
 refine set_nm (fun v H3=>∃(lq:Addr) (qs:List Addr) (gf:Addr→Nat),v = .ref lq∧Same H2 H3∧H3 lq=some (.lst (qs.map V.ref))∧(∀ p∈qs,∃ x:Int,H3 p=some (.tup [.int x,.int ((gf p:Nat):Int)]))∧(qs.map gf).Perm (packL fx.s fx.h)) (fun R hR=>?_) (fun v H3 z=>?_)
 ·refine⟨_,rfl,lk,rfl,⟨_,SqL.of hK2⟩,comp_someL (K:=K) (xs:=vN (packL fx.s fx.h)) (fun _ i v H=>∃(p:Addr) (x:Int) (c:Nat),(packL fx.s fx.h)[i]? = some c∧v = .ref p∧H p=some (.tup [.int x,.int ((c:Nat):Int)])) (SqL.of hK2) (fits3 _ (by rw[vN_len];omega)) (fun l i v H H' g sm=>?_) (fun l i v H xs zs g hl=>?_) (fun i x H5 l vs hx sm hl hL R hR=>?_) (fun l H5 vs sm hl hL hvl hvs=>?_)⟩
  ·obtain⟨p,x,c,a1,a2,a3⟩:=g
   exact⟨p,x,c,a1,a2,sm _ _ a3⟩
  ·obtain⟨p,x,c,a1,a2,a3⟩:=g
   exact⟨p,x,c,a1,a2,by rw[upd_ne (ne_of a3 hl (fun z=>nomatch z))];exact a3⟩
  ·obtain⟨c,hc,rfl⟩:=vN_get hx
   have c32:=p32 c (List.mem_of_getElem? hc)
   exact⟨_,rfl,_,rfl,_,_,rfl,rfl,a,ns,(60:Int)+((c:Nat):Int),rfl,(s2.trans sm).seq hS,h63,by omega,by omega,fun y=>⟨_,_,rfl,rfl,(show(0:Int) < 10007 by decide),_,rfl,fits3 2 (by decide),fun p hp=>hR _ _ (same_upd hp _) ⟨p,y % 10007,c,hc,rfl,upd_same⟩⟩⟩
  ·rw[vN_len] at hvl
   obtain⟨ps,rfl,hps⟩:=refs_at (fun i p=>∃(x:Int) (c:Nat),(packL fx.s fx.h)[i]? = some c∧H5 p=some (.tup [.int x,.int ((c:Nat):Int)])) vs 0 fun i v hv=>by
    obtain⟨p,x,c,a1,a2,a3⟩:=hvs i v hv
    exact⟨p,a2,x,c,by rw[Nat.zero_add];exact a1,a3⟩
   rw[List.length_map] at hvl
   have Pr:Prs H5 ps (packL fx.s fx.h):=⟨hvl,fun i p c e1 e2=>by
    obtain⟨x,c',a1,a2⟩:=hps i p e1
    rw[Nat.zero_add,e2] at a1
    cases a1
    exact⟨x,a2⟩⟩
   refine⟨l,ps,rfl,SqL.of hL,by omega,fun p hp=>?_,fun l2 qs hl2 pq=>?_⟩
   ·obtain⟨x,hx⟩:=Pr.tup p hp
    exact⟨_,_,SqT.of hx⟩
   have sm2:=same_upd hl2 (.lst (qs.map V.ref))
   refine hR _ _ ⟨l2,qs,snd2 H5,rfl,sm.trans sm2,upd_same,fun p hp=>?_,?_⟩
   ·obtain⟨x,hx⟩:=Pr.tup p (pq.mem_iff.mp hp)
    exact⟨x,sm2 _ _ hx⟩
   ·have:=pq.map (snd2 H5)
    rw[Pr.map] at this
    exact this
 obtain⟨lq,qs,gf,rfl,s3,hQ3,hqs,pqs⟩:=z
 have ql:qs.length=fx.s * fx.h:=by
  have:=pqs.length_eq
  rw[List.length_map,plen] at this
  exact this
 have s23:=s2.trans s3
 refine set_nm (fun v H4=>∃(l:Addr) (as:List Addr) (css:List (List Nat)),v = .ref l∧Same H3 H4∧H4 l=some (.lst (as.map V.ref))∧IsDl H4 as css∧DealOk fx sz css) (fun R hR=>?_) (fun v H4 z=>?_)
 ·refine⟨_,rfl,(fx.n:Int),rfl,by omega,by omega,?_⟩
  refine comp_someJ (J:=Itr 0 fx.n) fx.n (fun i=>.int (0+((i:Nat):Int))) (fun l i v H=>∃(av:Addr) (cs:List Nat),v = .ref av∧av≠l∧H av=some (.lst (vN cs))∧cs.Perm (((qs.map gf).drop (sz * i)).take sz)∧cs.Pairwise (·≤·)) (fits3 _ (by omega)) (fun i H _ hi=>hi) (fun H _=>Nat.le_refl _) (fun i H x H' _ _ y=>y) (fun l i v H H' g sm=>?_) (fun l i v H xs zs g hl=>?_) (fun i H5 l vs hi sm hl hL R hR=>?_) (fun l H5 vs sm hl hL hvl hvs=>?_)
  ·obtain⟨av,cs,g1,g2,g3,g4,g5⟩:=g
   exact⟨av,cs,g1,g2,sm _ _ g3,g4,g5⟩
  ·obtain⟨av,cs,g1,g2,g3,g4,g5⟩:=g
   exact⟨av,cs,g1,g2,by rw[upd_ne g2];exact g3,g4,g5⟩
  ·have b1:sz * i+sz≤qs.length:=by
    rw[ql]
    have:sz * (i+1)≤sz * fx.n:=Nat.mul_le_mul_left _ (by omega)
    rw[Nat.mul_succ] at this
    omega
   have eI:(0+((i:Nat):Int)) * ((sz:Nat):Int)=((sz * i:Nat):Int):=by rw[Int.zero_add,Int.natCast_mul,Int.mul_comm]
   have eJ:(0+((i:Nat):Int)) * ((sz:Nat):Int)+((sz:Nat):Int)=((sz * i+sz:Nat):Int):=by rw[eI,Int.natCast_add]
   have hQ5:=sm _ _ hQ3
   refine⟨_,rfl,_,rfl,_,rfl,_,_,rfl,rfl,.inl ⟨by omega,by omega⟩,_,rfl,_,rfl,_,rfl,_,_,rfl,rfl,.inl ⟨by omega,by omega⟩,_,rfl,_,_,rfl,rfl,_,rfl,lq,_,rfl,SqL.of hQ5,fun lc hlc=>?_⟩
   have eC:cutV (qs.map V.ref) (some ((0+((i:Nat):Int)) * ((sz:Nat):Int))) (some ((0+((i:Nat):Int)) * ((sz:Nat):Int)+((sz:Nat):Int)))=((qs.drop (sz * i)).take sz).map V.ref:=by
    rw[eJ,eI,cut_midV _ (sz * i) (sz * i+sz) (by rw[List.length_map];omega) (by rw[List.length_map];omega),List.map_take,List.map_drop,Nat.add_sub_cancel_left]
   have s7:=same_upd hlc (.lst (cutV (qs.map V.ref) (some ((0+((i:Nat):Int)) * ((sz:Nat):Int))) (some ((0+((i:Nat):Int)) * ((sz:Nat):Int)+((sz:Nat):Int)))))
   have hC:upd H5 lc (.lst (cutV (qs.map V.ref) (some ((0+((i:Nat):Int)) * ((sz:Nat):Int))) (some ((0+((i:Nat):Int)) * ((sz:Nat):Int)+((sz:Nat):Int))))) lc=some (.lst (((qs.drop (sz * i)).take sz).map V.ref)):=by rw[upd_same,eC]
   have cl:((qs.drop (sz * i)).take sz).length=sz:=by rw[List.length_take,List.length_drop];omega
   refine⟨lc,rfl,⟨_,SqL.of hC⟩,comp_list (K:=K) (xs:=((qs.drop (sz * i)).take sz).map V.ref) (fun _=>true) (fun x=>match x with | .ref p=>.int ((gf p:Nat):Int) | _=>.non) (SqL.of hC) (fits3 _ (by rw[List.length_map,cl];omega)) (fun x H3 hx sm R hR=>hR H3 (Same.refl H3)) (fun x H8 hx hp sm8 R hR=>?_) (fun lr H8 s8 hlr hL8=>?_)⟩
   ·obtain⟨p,hp,rfl⟩:=List.mem_map.mp hx
    obtain⟨x,hx⟩:=hqs p (List.mem_of_mem_drop (List.mem_of_mem_take hp))
    exact⟨_,rfl,p,_,_,_,rfl,rfl,SqT.of (sm8 _ _ (s7 _ _ (sm _ _ hx))),atI_nat (j:=1) rfl,hR H8 (Same.refl H8)⟩
   have e8:(((((qs.drop (sz * i)).take sz).map V.ref).filter fun _=>true).map fun x=>match x with | .ref p=>V.int ((gf p:Nat):Int) | _=>.non)=((((qs.map gf).drop (sz * i)).take sz).map fun c=>((c:Nat):Int)).map V.int:=by
    rw[List.filter_eq_self.mpr fun _ _=>rfl,← List.map_drop,← List.map_take,List.map_map,List.map_map,List.map_map]
    rfl
   rw[e8] at hL8
   refine⟨lr,_,rfl,SqL.of hL8,by rw[List.length_map,List.length_take,List.length_drop,List.length_map];omega,fun l9 ms hl9 hp9 pw9=>?_⟩
   obtain⟨ds,e1,e2,e3⟩:=ints_nat hp9
   rw[e1]
   have a9:=same_upd hl9 (.lst (vN ds))
   refine hR _ _ ((s7.trans s8).trans a9) ⟨l9,ds,rfl,fun z=>?_,upd_same,e2,e3 pw9⟩
   rw[z] at hl9
   rw[(s7.trans s8) _ _ hL] at hl9
   cases hl9
  ·obtain⟨as,rfl,has⟩:=refs_at (fun i p=>∃ cs:List Nat,H5 p=some (.lst (vN cs))∧cs.Perm (((qs.map gf).drop (sz * i)).take sz)∧cs.Pairwise (·≤·)) vs 0 fun i v hv=>by
    obtain⟨av,cs,g1,g2,g3,g4,g5⟩:=hvs i v hv
    exact⟨av,g1,cs,g3,by rw[Nat.zero_add];exact g4,g5⟩
   rw[List.length_map] at hvl
   have cho:∀ j,j < as.length→∃ cs:List Nat,H5 (as.getD j 0)=some (.lst (vN cs))∧cs.Perm (((qs.map gf).drop (sz * j)).take sz)∧cs.Pairwise (·≤·):=fun j hj=>by
    obtain⟨cs,h⟩:=has j _ (List.getElem?_eq_getElem hj)
    rw[Nat.zero_add] at h
    refine⟨cs,?_,h.2⟩
    rw[List.getD_eq_getElem?_getD,List.getElem?_eq_getElem hj]
    exact h.1
   have fch:∃ g:Nat→List Nat,∀ j,j < as.length→H5 (as.getD j 0)=some (.lst (vN (g j)))∧(g j).Perm (((qs.map gf).drop (sz * j)).take sz)∧(g j).Pairwise (·≤·):=by
    classical
    refine⟨fun j=>if h:j < as.length then Classical.choose (cho j h) else [],fun j hj=>?_⟩
    dsimp only
    rw[dif_pos hj]
    exact Classical.choose_spec (cho j hj)
   obtain⟨g,hg⟩:=fch
   refine hR _ _ ⟨l,as,(List.range as.length).map g,rfl,sm,hL,⟨by rw[List.length_map,List.length_range],fun j av hj=>?_⟩,deal_ok2 ok pqs szn (by rw[List.length_map,List.length_range,hvl]) (fun j cs e=>?_) fun cs hcs=>?_⟩
   ·have jl:=(List.getElem?_eq_some_iff.mp hj).1
    refine⟨g j,by rw[List.getElem?_map,List.getElem?_range jl];rfl,?_⟩
    have:=(hg j jl).1
    rw[List.getD_eq_getElem?_getD,hj] at this
    exact this
   ·rw[List.getElem?_map] at e
    obtain⟨i,hi,rfl⟩:=Option.map_eq_some_iff.mp e
    have jl:j < as.length:=by
     have:=(List.getElem?_eq_some_iff.mp hi).1
     rw[List.length_range] at this
     exact this
    rw[List.getElem?_range jl] at hi
    cases hi
    exact(hg j jl).2.1
   ·obtain⟨j,hj,rfl⟩:=List.mem_map.mp hcs
    exact(hg j (List.mem_range.mp hj)).2.2
 obtain⟨l,as,css,rfl,s4',hL4,hDl4,D⟩:=z
 have s24:=s23.trans s4'
 refine set_nm (fun v H5=>Same H4 H5∧∃(st:Addr) (lead:Nat),v = .ref st∧IsSt H5 st css lead []∧StOk fx css lead [] sz∧((css.map hN).map (pcK 32)).sum=fx.n * sz) (fun R hR=>?_) (fun v H5 z=>?_)
 ·refine⟨_,rfl,_,rfl,a,ns,6,rfl,s24.seq hS,h63,by decide,by decide,fun c4=>⟨_,rfl,_,_,rfl,rfl,(by show(0:Int) < ((fx.n:Nat):Int);omega),fits3 0 (by decide),fun tz htz=>⟨fits3 3 (by decide),fun p hp=>?_⟩⟩⟩
  have r0:=Int.emod_nonneg c4 (show((fx.n:Nat):Int)≠0 by omega)
  have r1:=Int.emod_lt_of_pos c4 (show(0:Int) < ((fx.n:Nat):Int) by omega)
  obtain⟨lead,el⟩:∃ lead:Nat,c4 % ((fx.n:Nat):Int)=(lead:Nat):=⟨(c4 % ((fx.n:Nat):Int)).toNat,by omega⟩
  have hl0':lead < fx.n:=by omega
  have a6:=same_upd htz (.lst [])
  have a7:=same_upd hp (.tup [.ref l,.int (c4 % ((fx.n:Nat):Int)),.ref tz])
  have a67:=a6.trans a7
  exact hR _ _ ⟨a67,p,lead,rfl,⟨l,tz,as,(by rw[upd_same];show some (HO.tup [V.ref l,V.int (c4 % ((fx.n:Nat):Int)),V.ref tz])=_;rw[el]),a67 _ _ hL4,hDl4.same a67,a7 _ _ upd_same⟩,D.st ok hl0',D.total ok⟩
 obtain⟨s5,st0,lead0,rfl,hSt0,S0,tot0⟩:=z
 have s25:=s24.trans s5
 have emin:(if((fx.n:Nat):Int) * ((sz:Nat):Int) < ((steps:Nat):Int) then((fx.n:Nat):Int) * ((sz:Nat):Int) else((steps:Nat):Int))=((min steps (fx.n * sz):Nat):Int):=by
  rw[← Int.natCast_mul]
  split<;>omega
 have mn:min steps (fx.n * sz)≤1000:=by omega
 refine seq_cut (fun σ H2'=>Same H5 H2'∧∃(st:Addr) (css:List (List Nat)) (lead m:Nat) (ys:List Nat) (x14 x15:Option V),σ=[some (.ref a),some (.ref d),some (.int (steps:Nat)),some (.int (fx.n:Nat)),some (.int (fx.s:Nat)),some (.int (sz:Nat)),some (.str (wd fx.d)),some (.int (trI t)),some (.ref lo),some (.ref lk),x10,some (.ref lq),some (.ref l),some (.ref st),x14,x15]∧IsSt H2' st css lead ys∧StOk fx css lead ys m∧((css.map hN).map (pcK 32)).sum+min steps (fx.n * sz)=fx.n * sz) (fun D' er nx=>?_) (fun σ H6 z=>?_)
 ·refine⟨_,rfl,_,rfl,_,rfl,_,_,rfl,rfl,.inl ⟨by omega,by omega⟩,_,_,rfl,((min steps (fx.n * sz):Nat):Int),(congrArg (fun x=>[V.int x]) emin),by omega,by omega,?_⟩
  refine for_range (n:=min steps (fx.n * sz)) (fun i σ H2'=>Same H5 H2'∧∃(st:Addr) (css:List (List Nat)) (lead m:Nat) (ys:List Nat) (x14 x15:Option V),σ=[some (.ref a),some (.ref d),some (.int (steps:Nat)),some (.int (fx.n:Nat)),some (.int (fx.s:Nat)),some (.int (sz:Nat)),some (.str (wd fx.d)),some (.int (trI t)),some (.ref lo),some (.ref lk),x10,some (.ref lq),some (.ref l),some (.ref st),x14,x15]∧IsSt H2' st css lead ys∧StOk fx css lead ys m∧((css.map hN).map (pcK 32)).sum+i=fx.n * sz) ⟨Same.refl H5,st0,css,lead0,sz,[],none,none,rfl,hSt0,S0,tot0⟩ (fun i σ H6 hi z=>?_) (fun σ H6 z=>nx _ _ z)
  obtain⟨s6,st,css',lead,m,ys,x14,x15,rfl,hSt,S,tot⟩:=z
  have sA:=s25.trans s6
  have hS6:=sA.seq hS
  have hRt6:=hRt.same sA
  obtain⟨lc,lt,as',h1,h2,h3,h4⟩:=id hSt
  have mp:=S.pos tot (by omega)
  obtain⟨cs,ec,ecl⟩:=S.turn ok
  have cm:=List.mem_of_getElem? ec
  have cl:=(S.cl ok cm).1
  have csn:cs≠[]:=fun z=>by rw[z] at ecl;simp at ecl;omega
  have sl:(lead+ys.length) % fx.n < as'.length:=by rw[h3.1,S.len];exact seat_lt ok _ _
  obtain⟨cs',e1,e2⟩:=h3.2 _ _ (List.getElem?_eq_getElem sl)
  rw[ec] at e1
  cases e1
  refine set_nm (fun v H7=>Same H6 H7∧∃(l6:Addr) (so:List Nat),v = .ref l6∧H7 l6=some (.lst (vN so))∧so≠[]∧(∀ x∈so,x∈cs)∧so.length≤32) (fun R hR=>?_) (fun v H7 z=>?_)
  ·refine⟨_,rfl,_,rfl,st,_,_,_,rfl,rfl,SqT.of h1,(rfl:atI [V.ref lc,V.int (lead:Nat),V.ref lt] 0=some (V.ref lc)),_,rfl,st,css',lead,ys,rfl,hSt,by rw[S.len];exact n0,lc,_,_,V.ref as'[(lead+ys.length) % fx.n],rfl,rfl,SqL.of h2,(by rw[S.len];exact atI_nat (by rw[List.getElem?_map,List.getElem?_eq_getElem sl];rfl)),_,rfl,st,_,_,_,rfl,rfl,SqT.of h1,(rfl:atI [V.ref lc,V.int (lead:Nat),V.ref lt] 2=some (V.ref lt)),?_⟩
   refine⟨d,as'[(lead+ys.length) % fx.n],lt,fx,t,sz,cs,ys,rfl,ok,hRt6,e2,h4,by omega,S.c32 ok cm,S.beg ok cm,fun o H7 s7 _ ho=>hR _ _ ⟨s7,o,_,rfl,ho,?_,?_,?_⟩⟩
   ·split
    ·exact csn
    ·exact alw_nn csn
   ·split
    ·exact fun x hx=>hx
    ·exact alw_sub _ _ _ _ _
   ·split
    ·exact cl
    ·exact len32 (alw_nd (S.nd cs cm)) fun c hc=>S.c32 ok cm c (alw_sub _ _ _ _ _ c hc)
  obtain⟨s7,l6,so,rfl,hL6,son,sos,sol⟩:=z
  have sop:=List.length_pos_iff.mpr son
  refine⟨_,rfl,_,rfl,_,rfl,_,rfl,_,rfl,_,_,rfl,rfl,a,ns,(100:Int)+(0+((i:Nat):Int)),rfl,s7.seq hS6,h63,by omega,by omega,fun c=>?_⟩
  have r0:=Int.emod_nonneg c (show((so.length:Nat):Int)≠0 by omega)
  have r1:=Int.emod_lt_of_pos c (show(0:Int) < ((so.length:Nat):Int) by omega)
  obtain⟨j,ej⟩:∃ j:Nat,c % ((so.length:Nat):Int)=(j:Nat):=⟨(c % ((so.length:Nat):Int)).toNat,by omega⟩
  have jl:j < so.length:=by omega
  have hx:so.getD j 0∈so:=by rw[List.getD_eq_getElem?_getD,List.getElem?_eq_getElem jl];exact List.getElem_mem _
  have hat:atI (vN so) (c % (((vN so).length:Nat):Int))=some (.int ((so.getD j 0:Nat):Int)):=by rw[vN_len,ej];exact at_vN jl
  refine⟨_,rfl,l6,_,rfl,.inl (SqL.of hL6),_,_,rfl,rfl,(by show(0:Int) < (((vN so).length:Nat):Int);rw[vN_len];omega),l6,_,_,_,rfl,rfl,SqL.of hL6,hat,?_⟩
  refine⟨d,st,fx,t,sz,css',lead,m,ys,cs,so.getD j 0,rfl,ok,hRt6.same s7,hSt.same s7,S,ec,sos _ hx,fun r st' lead' ys' tk H8 s8 hr8 hSt8 N=>?_⟩
  obtain⟨m',S',_,alt,_⟩:=S.put ok ec (sos _ hx) N
  have eh:(css'.map hN)[(lead+ys.length) % fx.n]? = some (hN cs):=by rw[List.getElem?_map,ec];rfl
  have hb:(hN cs).testBit (so.getD j 0)=true:=by rw[hN_bit];exact decide_eq_true (sos _ hx)
  obtain⟨_,_,_,S2,_⟩:=N.plc ok S.plc eh hb
  refine⟨r,_,_,_,rfl,rfl,SqT.of hr8,(rfl:atI [V.ref st',tkV tk] 0=some (V.ref st')),?_⟩
  exact⟨(s6.trans s7).trans s8,st',_,lead',m',ys',_,_,rfl,hSt8.is,S',by omega⟩
 obtain⟨s6,st,css',lead,m,ys,x14,x15,rfl,hSt,S,tot⟩:=z
 exact⟨_,rfl,q st css' lead ys m H6 (s25.trans s6) hSt S tot⟩
end
end My
namespace My
open PySem L2
section
variable{P:Program}{w:World}{K:PySem.W.Frag}{mg:Str→Option Value}{base:Heap}{f g:Addr}{fd gd:FuncData}
noncomputable def bestL (fx:Fx) (t:Option Nat) (side:Nat) (hs:List Nat) (lead:Nat) (ys:List Nat) (m:Nat):List Nat:=((prL fx t side hs lead ys m).filter fun x=>decide (x.2=pickN (side.testBit ((lead+ys.length) % fx.n)) ((prL fx t side hs lead ys m).map (·.2)))).map (·.1)
end
end My
namespace My
open PySem L2
section
variable{f:Fx}{hs ys ws:List Nat}{lead m i:Nat}
end
end My
namespace My
open PySem L2
theorem off_int{n lead j:Nat}(hl:lead < n):((((j:Nat):Int)) - ((lead:Nat):Int)) % ((n:Nat):Int)=((off n lead j:Nat):Int):=by
 unfold off
 rw[Int.natCast_emod,← Int.add_emod_right]
 congr 1
 omega
end My
namespace L2
open PySem PySem.Spec PyProof.Rows
abbrev hk(kk:Value→Int):PyProof.Rows.KeyKind:={ α:=Int,blt:=fun a b=>decide (a < b),irrefl:=fun a=>by simp,trans:=fun a b c h1 h2=>by simp at *;omega,negTrans:=fun a b c h=>by simp at *;omega,total:=fun a b h1 h2=>by simp at *;omega,keyOf:=fun v=>some (kk v),dflt:=0 }
section
variable{P:Program}{w:World}{A:Around}{E:Value→Shared→Prop}{s:Shared}{kd:SortKind}{a0:Array Keyed}{kk:Value→Int}
def CmpB(P:Program)(w:World)(A:Around)(s:Shared)(kd:SortKind)(kk:Value→Int)(ks:List Value):Prop:=
 ∀ x∈ks,∀ y∈ks,∀(E:Value→Shared→Prop) (Q:Bool→Shared→Prop),Q (decide (kk x < kk y)) s→wpAny (model P w) A (keyLt' kd x y) Q E s
variable(hC:CmpB P w A s kd kk (a0.toList.map (·.1)))(nd:(a0.toList.map fun p=>kk p.1).Nodup)
include hC nd
end
section
variable{P:Program}{w:World}{A:Around}{E:Value→Shared→Prop}{s:Shared}{kd:SortKind}{kk:Value→Int}
end
section
variable{P:Program}{w:World}{A:Around}{E:Value→Shared→Prop}{s:Shared}
end
end L2
namespace L2
open PySem PySem.Spec PyProof.Rows
section
variable{X:Cx}
end
end L2
namespace L2
open PySem PySem.Spec PyProof.Rows
end L2
namespace My
open PySem L2
abbrev sCardsT:Stmt:=top 7
abbrev sSuitsT:Stmt:=top 8
abbrev sSeatsT:Stmt:=top 9
abbrev sSide:Stmt:=top 10
abbrev sSteps:Stmt:=top 21
section
variable{P:Program}{w:World}{K:PySem.W.Frag}{mg:Str→Option Value}{base:Heap}{f g:Addr}{fd gd:FuncData}
def spSteps(K:PySem.W.Frag):Sp:=fun vs H Q _=>∃(a:Addr) (ns:List Int) (d:Addr) (f:Fx) (t:Option Nat) (sz:Nat),vs=[.ref a,.ref d]∧SqL K H a (ns.map V.int)∧ns.length≤63∧f.Ok∧IsRt H d f t sz∧sz≤100∧∀ steps:Nat,steps≤1000→f.n * sz≤steps+9→Q (.int (steps:Nat)) H
abbrev pSteps:List Str:=["_law_script","_law_rules_here"]
abbrev nSteps:List Str:=["_law_script","_law_rules_here","_law_whole","_law_steps_here"]
theorem scSteps:FnScope nSteps pSteps (defScope sSteps):=⟨rfl,rfl,rfl,by decide +kernel,rfl,by decide +kernel,by decide +kernel⟩
theorem ok_steps{k:Nat}{f1:Addr}{d1:FuncData}(F:Fun K "_law_steps" "_law_steps" sSteps f fd)(LX:Lib P w K mg base k "_law_mixed" pMixed (spMixed K) f1 d1)(mMx:mg "max" = none):FnOk P w K mg base CX0 (k+1) f fd pSteps (spSteps K):=by
 refine F.ok scSteps (fun vs H Q E h=>?_) (fun cdv A outer s H vs Q E hr h=>?_)
 ·obtain⟨a,ns,d,fx,t,sz,rfl,_⟩:=h
  rfl
 obtain⟨a,ns,d,fx,t,sz,rfl,hS,h63,ok,hRt,sz100,q⟩:=h
 refine⟨_,pss_cons (ps_set (i:=2) scSteps.nd rfl (Or.inl rfl) (pe_op op_mul (pe_ix ix_tup (pv 1) pe_int (fun _ _=>rfl)) (pe_ix ix_tup (pv 1) pe_int (fun _ _=>rfl))))
  (pss_cons (ps_set (i:=3) scSteps.nd rfl (Or.inl rfl) (pe_op op_mod (pe_call LX.ok hr rfl LX.mg LX.kp LX.bd .nil pass0 (pa_cons (pv 0) (pa_cons pe_int pa_nil))) (pe_op op_add (pv 2) pe_int)))
  (pss_cons (ps_if (pt_cmpR op_eq (pe_op op_mod (pe_call LX.ok hr rfl LX.mg LX.kp LX.bd .nil pass0 (pa_cons (pv 0) (pa_cons pe_int pa_nil))) pe_int) pe_int (nomark _)) (pss_one (ps_set (i:=3) scSteps.nd rfl (Or.inl rfl) (pe_op op_mod (pe_call LX.ok hr rfl LX.mg LX.kp LX.bd .nil pass0 (pa_cons (pv 0) (pa_cons pe_int pa_nil))) pe_int))) pss_nil)
  (pss_one (ps_ret (pe_callB (call_max2 rfl) rfl mMx PyProof.Rows.boot_max (pa_cons (pv 3) (pa_cons (pe_op op_sub (pv 2) pe_int) pa_nil))))))),?_⟩
 obtain⟨lo,lp,lh,hD,hO,hP,hT⟩:=id hRt
 obtain⟨g1,g2,g3,g4,g5,g6⟩:=@rt_get fx t sz lo
 have n4:fx.n≤4:=by rcases ok.n34 with e | e<;>omega
 have nz:fx.n * sz≤4 * 100:=Nat.mul_le_mul n4 sz100
 refine set_nm (fun v H1=>H1=H∧v = .int ((fx.n * sz:Nat):Int)) (fun R hR=>⟨_,rfl,d,_,_,_,rfl,rfl,SqT.of hD,g1,_,rfl,d,_,_,_,rfl,rfl,SqT.of hD,g3,_,_,rfl,rfl,.inl ⟨by omega,by omega⟩,hR _ _ ⟨rfl,by rw[Int.natCast_mul]⟩⟩) (fun v H1 z=>?_)
 obtain⟨rfl,rfl⟩:=z
 generalize fx.n * sz=wh at nz q ⊢
 refine set_nm (fun v H2=>H2=H1∧∃ u:Nat,v = .int (u:Nat)∧u≤1000) (fun R hR=>⟨_,rfl,a,ns,7,rfl,hS,h63,by decide,by decide,fun z=>⟨_,rfl,_,_,rfl,rfl,_,_,rfl,rfl,(by show(0:Int) < ((wh:Nat):Int)+1;omega),?_⟩⟩) (fun v H2 z=>?_)
 ·have r0:=Int.emod_nonneg z (show((wh:Nat):Int)+1≠0 by omega)
  have r1:=Int.emod_lt_of_pos z (show(0:Int) < ((wh:Nat):Int)+1 by omega)
  exact hR _ _ ⟨rfl,(z % (((wh:Nat):Int)+1)).toNat,nat_v r0,by omega⟩
 obtain⟨rfl,u,rfl,u1⟩:=z
 refine seq_cut (fun σ H3=>H3=H2∧∃ u:Nat,σ=[some (.ref a),some (.ref d),some (.int (wh:Nat)),some (.int (u:Nat))]∧u≤1000) (fun D' er nx=>?_) (fun σ H3 z=>?_)
 ·refine⟨_,rfl,a,ns,8,rfl,hS,h63,by decide,by decide,fun z=>⟨_,_,rfl,rfl,(show(0:Int) < 3 by decide),rfl,_,rfl,ite2 (fun _=>⟨_,rfl,a,ns,7,rfl,hS,h63,by decide,by decide,fun z=>⟨_,_,rfl,rfl,(show(0:Int) < 3 by decide),?_⟩⟩) (fun _=>nx _ _ ⟨rfl,u,rfl,u1⟩)⟩⟩
  have r0:=Int.emod_nonneg z (show(3:Int)≠0 by decide)
  have r1:=Int.emod_lt_of_pos z (show(0:Int) < 3 by decide)
  have e:V.int (z % 3)=V.int (((z % 3).toNat:Nat):Int):=nat_v r0
  refine nx _ _ ⟨rfl,(z % 3).toNat,?_,by omega⟩
  rw[← e]
  rfl
 obtain⟨rfl,u,rfl,u1⟩:=z
 refine⟨_,rfl,_,rfl,_,_,rfl,rfl,_,_,rfl,?_⟩
 have e:V.int (if((wh:Nat):Int) - 9 > ((u:Nat):Int) then((wh:Nat):Int) - 9 else((u:Nat):Int))=V.int (((if((wh:Nat):Int) - 9 > ((u:Nat):Int) then((wh:Nat):Int) - 9 else((u:Nat):Int)).toNat:Nat):Int):=nat_v (by split<;>omega)
 show Q (V.int (if((wh:Nat):Int) - 9 > ((u:Nat):Int) then((wh:Nat):Int) - 9 else((u:Nat):Int))) H3
 rw[e]
 exact q _ (by split<;>omega) (by split<;>omega)
def sg(τ:List Nat)(c:Nat):Nat:=8 * τ.getD (c / 8) 0+c % 8
def hT(τ:List Nat)(h:Nat):Nat:=hN ((cardsN h).map (sg τ))
theorem tau_get{τ:List Nat}(pm:τ.Perm (List.range 4)){u:Nat}(hu:u < 4):τ[u]? = some (τ.getD u 0)∧τ.getD u 0 < 4:=by
 have l:τ.length=4:=by rw[pm.length_eq];rfl
 have e:τ[u]? = some (τ.getD u 0):=by rw[List.getD_eq_getElem?_getD,List.getElem?_eq_getElem (by omega)];rfl
 exact⟨e,List.mem_range.mp (pm.mem_iff.mp (List.mem_of_getElem? e))⟩
theorem tau_inj{τ:List Nat}(pm:τ.Perm (List.range 4)){a b:Nat}(ha:a < 4)(hb:b < 4)(e:τ.getD a 0=τ.getD b 0):a=b:=by
 have nd:τ.Nodup:=pm.nodup_iff.mpr List.nodup_range
 have e1:=(tau_get pm ha).1
 have e2:=(tau_get pm hb).1
 rw[e] at e1
 exact nd_at nd e1 e2
theorem tau_sur{τ:List Nat}(pm:τ.Perm (List.range 4)){b:Nat}(hb:b < 4):∃ a,a < 4∧τ.getD a 0=b:=by
 have m:=pm.mem_iff.mpr (List.mem_range.mpr hb)
 obtain⟨a,ha,e⟩:=List.mem_iff_getElem.mp m
 have l:τ.length=4:=by rw[pm.length_eq];rfl
 exact⟨a,by omega,by rw[List.getD_eq_getElem?_getD,List.getElem?_eq_getElem ha,e];rfl⟩
theorem sg_div(τ:List Nat)(c:Nat):sg τ c / 8=τ.getD (c / 8) 0:=by unfold sg;omega
theorem sg_mod(τ:List Nat)(c:Nat):sg τ c % 8=c % 8:=by unfold sg;omega
theorem sg_lt{τ:List Nat}(pm:τ.Perm (List.range 4)){c:Nat}(hc:c < 32):sg τ c < 32:=by
 have:=(tau_get pm (show c / 8 < 4 by omega)).2
 unfold sg
 omega
theorem sg_inj{τ:List Nat}(pm:τ.Perm (List.range 4)){a b:Nat}(ha:a < 32)(hb:b < 32)(e:sg τ a=sg τ b):a=b:=by
 have e1:τ.getD (a / 8) 0=τ.getD (b / 8) 0:=by rw[← sg_div,← sg_div,e]
 have e2:a % 8=b % 8:=by rw[← sg_mod τ a,← sg_mod τ b,e]
 have:=tau_inj pm (show a / 8 < 4 by omega) (show b / 8 < 4 by omega) e1
 omega
theorem sg_sur{τ:List Nat}(pm:τ.Perm (List.range 4)){b:Nat}(hb:b < 32):∃ a,a < 32∧sg τ a=b:=by
 obtain⟨u,hu,e⟩:=tau_sur pm (show b / 8 < 4 by omega)
 refine⟨8 * u+b % 8,by omega,?_⟩
 unfold sg
 have e1:(8 * u+b % 8) / 8=u:=by omega
 have e2:(8 * u+b % 8) % 8=b % 8:=by omega
 rw[e1,e2,e]
 omega
theorem hT_bit{τ:List Nat}(pm:τ.Perm (List.range 4)){h c:Nat}(h32:h < 4294967296)(hc:c < 32):(hT τ h).testBit (sg τ c)=h.testBit c:=by
 unfold hT
 rw[hN_bit,Bool.eq_iff_iff,decide_eq_true_eq,List.mem_map]
 constructor
 ·rintro⟨a,ha,e⟩
  rw[← sg_inj pm (cards_lt ha) hc e]
  exact(mem_cards h32).mp ha
 ·intro e
  exact⟨c,(mem_cards h32).mpr e,rfl⟩
theorem hT_32{τ:List Nat}(pm:τ.Perm (List.range 4)){h b:Nat}(hb:(hT τ h).testBit b=true):b < 32:=by
 unfold hT at hb
 rw[hN_bit,decide_eq_true_eq,List.mem_map] at hb
 obtain⟨a,ha,rfl⟩:=hb
 exact sg_lt pm (cards_lt ha)
theorem cards_nd(h:Nat):(cardsN h).Nodup:=by unfold cardsN;exact List.nodup_range.filter _
theorem may_len32(h:Nat):(cardsN h).length≤32:=by
 unfold cardsN
 have:=List.length_filter_le h.testBit (List.range 32)
 rwa [List.length_range] at this
theorem sg_nd{τ:List Nat}(pm:τ.Perm (List.range 4)):∀{cs:List Nat},cs.Nodup→(∀ c∈cs,c < 32)→(cs.map (sg τ)).Nodup
 | [],_,_=>List.nodup_nil
 | c :: cs,nd,h=>by
  obtain⟨n1,n2⟩:=List.nodup_cons.mp nd
  rw[List.map_cons]
  refine List.nodup_cons.mpr ⟨fun z=>?_,sg_nd pm n2 fun x hx=>h x (List.mem_cons_of_mem _ hx)⟩
  obtain⟨a,ha,e⟩:=List.mem_map.mp z
  exact n1 (sg_inj pm (h a (List.mem_cons_of_mem _ ha)) (h c List.mem_cons_self) e ▸ ha)
theorem hT_pc{τ:List Nat}(pm:τ.Perm (List.range 4))(h:Nat):pcK 32 (hT τ h)=pcK 32 h:=by
 unfold hT
 rw[pc_hN (sg_nd pm (cards_nd h) fun c hc=>cards_lt hc) (fun c hc=>by obtain⟨a,ha,rfl⟩:=List.mem_map.mp hc;exact sg_lt pm (cards_lt ha)),List.length_map]
 rfl
theorem sg_cnt{τ:List Nat}(pm:τ.Perm (List.range 4)){hs ys:List Nat}(h32:∀ h∈hs,h < 4294967296)(y32:∀ y∈ys,y < 32){a:Nat}(ha:a < 32):cntB (hs.map (hT τ)) (ys.map (sg τ)) (sg τ a)=cntB hs ys a:=by
 unfold cntB
 congr 1
 ·rw[List.countP_map]
  refine List.countP_congr fun h hh=>?_
  show(hT τ h).testBit (sg τ a)=true↔_
  rw[hT_bit pm (h32 h hh) ha]
 ·rw[List.count_eq_countP,List.count_eq_countP,List.countP_map]
  refine List.countP_congr fun y hy=>?_
  show(sg τ y == sg τ a)=true↔(y == a)=true
  rw[beq_iff_eq,beq_iff_eq]
  exact⟨fun e=>sg_inj pm (y32 y hy) ha e,fun e=>by rw[e]⟩
theorem suit_plc{fx:Fx}(ok:fx.Ok){τ:List Nat}(pm:τ.Perm (List.range 4))(ts:∀ u < fx.s,τ.getD u 0 < fx.s){hs ys:List Nat}{lead m:Nat}(Pl:Plc fx hs lead ys m):Plc fx (hs.map (hT τ)) lead (ys.map (sg τ)) m:=by
 have h32:∀ h∈hs,h < 4294967296:=fun h hh=>Pl.h32 ok hh
 have y32:∀ y∈ys,y < 32:=fun y hy=>Pl.y32 ok hy
 have big:∀ b,0 < cntB (hs.map (hT τ)) (ys.map (sg τ)) b→b < 32:=fun b hb=>by
  unfold cntB at hb
  rcases Nat.eq_zero_or_pos ((hs.map (hT τ)).countP fun h=>h.testBit b) with z | z
  ·have:0 < (ys.map (sg τ)).count b:=by omega
   obtain⟨y,hy,rfl⟩:=List.mem_map.mp (List.count_pos_iff.mp this)
   exact sg_lt pm (y32 y hy)
  ·obtain⟨h,hh,e⟩:=List.countP_pos_iff.mp z
   obtain⟨g,hg,rfl⟩:=List.mem_map.mp hh
   exact hT_32 pm e
 refine⟨by rw[List.length_map];exact Pl.len,Pl.ld,by rw[List.length_map];exact Pl.yl,fun b=>?_,fun b hb=>?_,fun i h e=>?_⟩
 ·by_cases q:0 < cntB (hs.map (hT τ)) (ys.map (sg τ)) b
  ·obtain⟨a,ha,rfl⟩:=sg_sur pm (big b q)
   rw[sg_cnt pm h32 y32 ha]
   exact Pl.one a
  ·omega
 ·obtain⟨a,ha,rfl⟩:=sg_sur pm (big b hb)
  rw[sg_cnt pm h32 y32 ha] at hb
  have:=Pl.pk a hb
  rw[sg_div,sg_mod]
  exact⟨ts _ this.1,this.2⟩
 ·rw[List.getElem?_map] at e
  obtain⟨g,hg,rfl⟩:=Option.map_eq_some_iff.mp e
  rw[hT_pc pm,List.length_map]
  exact Pl.lv i g hg
def sgW(τ:List Nat)(x:V):V:=match x with | .int i=>.int ((sg τ i.toNat:Nat):Int) | _=>.non
theorem sgW_int(τ:List Nat)(c:Nat):sgW τ (.int (c:Nat)) = .int ((sg τ c:Nat):Int):=by
 show V.int ((sg τ ((c:Nat):Int).toNat:Nat):Int)=_
 rw[Int.toNat_natCast]
theorem sgW_list(τ cs:List Nat):((vN cs).filter fun _=>true).map (sgW τ)=vN (cs.map (sg τ)):=by
 rw[List.filter_eq_self.mpr fun _ _=>rfl]
 unfold vN
 rw[List.map_map,List.map_map]
 exact List.map_congr_left fun c _=>sgW_int τ c
def spCardsT(K:PySem.W.Frag)(b:Bool):Sp:=fun vs H Q _=>∃(a d:Addr) (cs τ:List Nat),vs=[.ref a,.ref d]∧(b=true→SqL K H a (vN cs))∧(b=false→SqT K H a (vN cs))∧cs.length≤100∧(∀ c∈cs,c < 32)∧H d=some (.lst (vN τ))∧τ.Perm (List.range 4)∧∀ l H',Same H H'→H l=none→H' l=some (.lst (vN (cs.map (sg τ))))→Q (.ref l) H'
theorem scCardsT:FnScope ["cards","turn"] ["cards","turn"] (defScope sCardsT):=⟨rfl,rfl,rfl,by decide +kernel,rfl,by decide +kernel,by decide +kernel⟩
theorem sg_read{K:PySem.W.Frag}{H3:Hp}{d:Addr}{τ:List Nat}(hd:H3 d=some (.lst (vN τ)))(pm:τ.Perm (List.range 4)){c:Nat}(c32:c < 32):SqL K H3 d (vN τ)∧atI (vN τ) (((c:Nat):Int) / 8)=some (V.int ((τ.getD (c / 8) 0:Nat):Int)):=by
 refine⟨SqL.of hd,?_⟩
 have e:((c:Nat):Int) / 8=((c / 8:Nat):Int):=by omega
 rw[e]
 refine atI_nat ?_
 unfold vN
 rw[List.getElem?_map,(tau_get pm (show c / 8 < 4 by omega)).1]
 rfl
theorem sg_val{τ:List Nat}(c:Nat):(8:Int) * ((τ.getD (c / 8) 0:Nat):Int)+((c:Nat):Int) % 8=((sg τ c:Nat):Int):=by unfold sg;omega
theorem ok_cardsTL{k:Nat}{t1:Tok}(F:Fun K "cards_turned" "cards_turned" sCardsT f fd)(mH:mg "HEIGHTS" = some (.int 8 t1)):FnOk P w K mg base CX0 (k+1) f fd ["cards","turn"] (spCardsT K true):=by
 refine F.ok scCardsT (fun vs H Q E h=>?_) (fun cdv A outer s H vs Q E hr h=>?_)
 ·obtain⟨a,d,cs,τ,rfl,_⟩:=h
  rfl
 obtain⟨a,d,cs,τ,rfl,hL,_,l100,c32,hd,pm,q⟩:=h
 refine⟨_,pss_one (ps_ret (pe_comp ["card","turn"] [none,some 1] rfl (Blk.by (sc:=defScope sCardsT) (N0:=["cards","turn"]) rfl rfl (by decide +kernel)) (pi_list (pv 0)) (fun C s₀ H₀ ex=>pg_name (i:=0) (show(["card","turn"]:List Str).Nodup by decide +kernel) rfl (Or.inl rfl)) (fun C s₀ H₀ ex=>pf_nil)
   (fun C s₀ H₀ ex=>pe_op op_add (pe_op op_mul (pe_glob (v:=.int 8) rfl mH ⟨_,rfl⟩) (pe_ix (show IxR _ (rIxL K) from ix_list) (pv 1) (pe_op op_fdiv (pv 0) (pe_glob (v:=.int 8) rfl mH ⟨_,rfl⟩)) (fun _ _=>rfl))) (pe_op op_mod (pv 0) (pe_glob (v:=.int 8) rfl mH ⟨_,rfl⟩))))),?_⟩
 refine⟨_,rfl,a,rfl,⟨_,hL rfl⟩,comp_list (K:=K) (xs:=vN cs) (fun _=>true) (sgW τ) (hL rfl) (fits3 _ (by rw[vN_len];omega)) (fun x H3 hx sm R hR=>hR H3 (Same.refl H3)) (fun x H3 hx hp sm R hR=>?_) (fun l H1 sm1 hl hL1=>q l H1 sm1 hl (by rw[hL1,sgW_list]))⟩
 obtain⟨c,hc,rfl⟩:=List.mem_map.mp hx
 have cc:=c32 c hc
 obtain⟨r1,r2⟩:=sg_read (K:=K) (sm _ _ hd) pm cc
 have z:=hR H3 (Same.refl H3)
 rw[sgW_int,← sg_val] at z
 have tg:=(tau_get pm (show c / 8 < 4 by omega)).2
 exact⟨_,rfl,_,rfl,_,_,rfl,rfl,⟨by decide,by decide⟩,d,_,_,_,rfl,rfl,r1,r2,_,_,rfl,rfl,.inl ⟨by decide,by decide⟩,_,rfl,_,_,rfl,rfl,(show(0:Int) < 8 by decide),_,_,rfl,rfl,z⟩
theorem ok_cardsTT{k:Nat}{t1:Tok}(F:Fun K "cards_turned" "cards_turned" sCardsT f fd)(mH:mg "HEIGHTS" = some (.int 8 t1)):FnOk P w K mg base CX0 (k+1) f fd ["cards","turn"] (spCardsT K false):=by
 refine F.ok scCardsT (fun vs H Q E h=>?_) (fun cdv A outer s H vs Q E hr h=>?_)
 ·obtain⟨a,d,cs,τ,rfl,_⟩:=h
  rfl
 obtain⟨a,d,cs,τ,rfl,_,hL,l100,c32,hd,pm,q⟩:=h
 refine⟨_,pss_one (ps_ret (pe_comp ["card","turn"] [none,some 1] rfl (Blk.by (sc:=defScope sCardsT) (N0:=["cards","turn"]) rfl rfl (by decide +kernel)) (pi_tup (pv 0)) (fun C s₀ H₀ ex=>pg_name (i:=0) (show(["card","turn"]:List Str).Nodup by decide +kernel) rfl (Or.inl rfl)) (fun C s₀ H₀ ex=>pf_nil)
   (fun C s₀ H₀ ex=>pe_op op_add (pe_op op_mul (pe_glob (v:=.int 8) rfl mH ⟨_,rfl⟩) (pe_ix (show IxR _ (rIxL K) from ix_list) (pv 1) (pe_op op_fdiv (pv 0) (pe_glob (v:=.int 8) rfl mH ⟨_,rfl⟩)) (fun _ _=>rfl))) (pe_op op_mod (pv 0) (pe_glob (v:=.int 8) rfl mH ⟨_,rfl⟩))))),?_⟩
 refine⟨_,rfl,a,rfl,⟨_,hL rfl⟩,comp_tup (K:=K) (xs:=vN cs) (fun _=>true) (sgW τ) (hL rfl) (fits3 _ (by rw[vN_len];omega)) (fun x H3 hx sm R hR=>hR H3 (Same.refl H3)) (fun x H3 hx hp sm R hR=>?_) (fun l H1 sm1 hl hL1=>q l H1 sm1 hl (by rw[hL1,sgW_list]))⟩
 obtain⟨c,hc,rfl⟩:=List.mem_map.mp hx
 have cc:=c32 c hc
 obtain⟨r1,r2⟩:=sg_read (K:=K) (sm _ _ hd) pm cc
 have z:=hR H3 (Same.refl H3)
 rw[sgW_int,← sg_val] at z
 have tg:=(tau_get pm (show c / 8 < 4 by omega)).2
 exact⟨_,rfl,_,rfl,_,_,rfl,rfl,⟨by decide,by decide⟩,d,_,_,_,rfl,rfl,r1,r2,_,_,rfl,rfl,.inl ⟨by decide,by decide⟩,_,rfl,_,_,rfl,rfl,(show(0:Int) < 8 by decide),_,_,rfl,rfl,z⟩
def spSuitsT:Sp:=fun vs H Q _=>∃(p d:Addr) (fx:Fx) (hs:List Nat) (lead:Nat) (ys:List Nat) (m:Nat) (τ:List Nat),vs=[.ref p,.ref d]∧fx.Ok∧IsPl H p hs lead ys∧Plc fx hs lead ys m∧H d=some (.lst (vN τ))∧τ.Perm (List.range 4)∧∀ p' H',Same H H'→IsPl H' p' (hs.map (hT τ)) lead (ys.map (sg τ))→Q (.ref p') H'
abbrev nSuitsT:List Str:=["place","turn","hands"]
theorem scSuitsT:FnScope nSuitsT ["place","turn"] (defScope sSuitsT):=⟨rfl,rfl,rfl,by decide +kernel,rfl,by decide +kernel,by decide +kernel⟩
def hTW(τ:List Nat)(x:V):V:=match x with | .int i=>.int ((hT τ i.toNat:Nat):Int) | _=>.non
theorem hTW_int(τ:List Nat)(h:Nat):hTW τ (.int (h:Nat)) = .int ((hT τ h:Nat):Int):=by
 show V.int ((hT τ ((h:Nat):Int).toNat:Nat):Int)=_
 rw[Int.toNat_natCast]
theorem hTW_list(τ hs:List Nat):((vN hs).filter fun _=>true).map (hTW τ)=vN (hs.map (hT τ)):=by
 rw[List.filter_eq_self.mpr fun _ _=>rfl]
 unfold vN
 rw[List.map_map,List.map_map]
 exact List.map_congr_left fun c _=>hTW_int τ c
theorem ok_suitsT{k:Nat}{f1 f2 f3:Addr}{d1 d2 d3:FuncData}(F:Fun K "suits_turned" "suits_turned" sSuitsT f fd)(LCi:Lib P w K mg base k "cards_in" ["hand"] (spCardsIn K) f1 d1)(LHo:Lib P w K mg base k "hand_of" ["cards"] (spHandOf K) f2 d2)
  (LCl:Lib P w K mg base k "cards_turned" ["cards","turn"] (spCardsT K true) f3 d3) (LCt:Lib P w K mg base k "cards_turned" ["cards","turn"] (spCardsT K false) f3 d3) (mT:mg "tuple" = none):FnOk P w K mg base CX0 (k+1) f fd ["place","turn"] spSuitsT:=by
 refine F.ok scSuitsT (fun vs H Q E h=>?_) (fun cdv A outer s H vs Q E hr h=>?_)
 ·obtain⟨p,d,fx,hs,lead,ys,m,τ,rfl,_⟩:=h
  rfl
 obtain⟨p,d,fx,hs,lead,ys,m,τ,rfl,ok,⟨hp,tp,h1,h2,h3⟩,Pl,hd,pm,q⟩:=h
 refine⟨_,pss_cons (ps_setcomp (i:=2) ["hand","turn"] [none,some 1] rfl scSuitsT.nd rfl (Or.inl rfl) (Blk.by (sc:=defScope sSuitsT) (N0:=nSuitsT) rfl rfl (by decide +kernel)) (pi_tup (pe_ix ix_tup (pv 0) pe_int (fun _ _=>rfl))) (fun C s₀ H₀ ex=>pg_name (i:=0) (show(["hand","turn"]:List Str).Nodup by decide +kernel) rfl (Or.inl rfl)) (fun C s₀ H₀ ex=>pf_nil)
   (fun C s₀ H₀ ex=>pe_call LHo.ok hr rfl LHo.mg LHo.kp LHo.bd .nil pass0 (pa_cons (pe_call LCl.ok hr rfl LCl.mg LCl.kp LCl.bd .nil pass0 (pa_cons (pe_call LCi.ok hr rfl LCi.mg LCi.kp LCi.bd .nil pass0 (pa_cons (pv 0) pa_nil)) (pa_cons (pv 1) pa_nil))) pa_nil)))
  (pss_one (ps_ret (pe_tup (pa_cons (pe_callTy call_tuple_of rfl mT PyProof.Rows.boot_tuple (pa_cons (pv 2) pa_nil)) (pa_cons (pe_ix ix_tup (pv 0) pe_int (fun _ _=>rfl)) (pa_cons (pe_callTy call_tuple_of rfl mT PyProof.Rows.boot_tuple (pa_cons (pe_call LCt.ok hr rfl LCt.mg LCt.kp LCt.bd .nil pass0 (pa_cons (pe_ix ix_tup (pv 0) pe_int (fun _ _=>rfl)) (pa_cons (pv 1) pa_nil))) pa_nil)) pa_nil)))))),?_⟩
 have n4:fx.n≤4:=by rcases ok.n34 with e | e<;>omega
 have a0:atI [V.ref hp,V.int (lead:Nat),V.ref tp] 0=some (V.ref hp):=rfl
 have a1:atI [V.ref hp,V.int (lead:Nat),V.ref tp] 1=some (V.int (lead:Nat)):=rfl
 have a2:atI [V.ref hp,V.int (lead:Nat),V.ref tp] 2=some (V.ref tp):=rfl
 have yl:=Pl.yl
 refine set_nm (fun v H2=>Same H H2∧∃ l,v = .ref l∧H2 l=some (.lst (vN (hs.map (hT τ))))) (fun R hR=>⟨_,rfl,p,_,_,_,rfl,rfl,SqT.of h1,a0,hp,rfl,⟨_,SqT.of h2⟩,?_⟩) (fun v H2 z=>?_)
 ·refine comp_tup (K:=K) (xs:=vN hs) (fun _=>true) (hTW τ) (SqT.of h2) (fits3 _ (by rw[vN_len,Pl.len];omega)) (fun x H3 hx sm R hR=>hR H3 (Same.refl H3)) (fun x H3 hx hp' sm R hR=>?_) (fun l H1 sm1 hl hL1=>hR _ _ ⟨sm1,l,rfl,by rw[hL1,hTW_list]⟩)
  obtain⟨h,hh,rfl⟩:=List.mem_map.mp hx
  have h32:=Pl.h32 ok hh
  refine⟨_,rfl,h,rfl,h32,fun l1 H4 s4 hl1 hL1=>?_⟩
  refine⟨_,rfl,l1,d,cardsN h,τ,rfl,(fun _=>SqL.of hL1),(fun z=>nomatch z),?_,fun c hc=>cards_lt hc,s4 _ _ (sm _ _ hd),pm,fun l2 H5 s5 hl2 hL2=>?_⟩
  ·have:=may_len32 h
   omega
  refine⟨l2,_,rfl,SqL.of hL2,fun c hc=>by obtain⟨b,hb,rfl⟩:=List.mem_map.mp hc;exact sg_lt pm (cards_lt hb),?_⟩
  have z:=hR H5 (s4.trans s5)
  rw[hTW_int] at z
  exact z
 obtain⟨s2,l,rfl,hL⟩:=z
 refine⟨_,rfl,l,_,rfl,.inl ⟨SqL.of hL,fun th hth=>?_⟩⟩
 have s3:=s2.trans (same_upd hth (.tup (vN (hs.map (hT τ)))))
 refine⟨_,rfl,p,_,_,_,rfl,rfl,SqT.of (s3 _ _ h1),a1,_,rfl,p,_,_,_,rfl,rfl,SqT.of (s3 _ _ h1),a2,_,rfl,tp,d,ys,τ,rfl,(fun z=>nomatch z),(fun _=>SqT.of (s3 _ _ h3)),by omega,fun c hc=>Pl.y32 ok hc,s3 _ _ hd,pm,fun l3 H6 s6 hl3 hL3=>⟨l3,_,rfl,.inl ⟨SqL.of hL3,fun tz htz=>⟨fits3 3 (by decide),fun p' hp'=>?_⟩⟩⟩⟩
 have a6:=same_upd htz (.tup (vN (ys.map (sg τ))))
 have a7:=same_upd hp' (.tup [.ref th,.int (lead:Nat),.ref tz])
 exact q p' _ (((s3.trans s6).trans a6).trans a7) ⟨th,tz,upd_same,a7 _ _ (a6 _ _ (s6 _ _ upd_same)),a7 _ _ upd_same⟩
def turnS(n r:Nat)(hs:List Nat):List Nat:=(List.range n).map fun i=>hs.getD (off n r i) 0
theorem turnS_len(n r:Nat)(hs:List Nat):(turnS n r hs).length=n:=by unfold turnS;rw[List.length_map,List.length_range]
theorem turnS_at{n r:Nat}{hs:List Nat}{i:Nat}(hi:i < n):(turnS n r hs)[i]? = some (hs.getD (off n r i) 0):=by
 unfold turnS
 rw[List.getElem?_map,List.getElem?_range hi]
 rfl
theorem turnS_perm{n r:Nat}{hs:List Nat}(hn:n=3∨n=4)(hl:hs.length=n)(hr:r < n):(turnS n r hs).Perm hs:=by
 rcases hn with rfl | rfl
 ·match hs,hl with
  | [a,b,c],_=>
   match r,hr with
   | 0,_=>exact List.Perm.refl _
   | 1,_=>
    show [c,a,b].Perm [a,b,c]
    exact(List.Perm.swap a c [b]).trans ((List.Perm.swap b c []).cons a)
   | 2,_=>
    show [b,c,a].Perm [a,b,c]
    exact((List.Perm.swap a c []).cons b).trans (List.Perm.swap a b [c])
 ·match hs,hl with
  | [a,b,c,d],_=>
   match r,hr with
   | 0,_=>exact List.Perm.refl _
   | 1,_=>
    show [d,a,b,c].Perm [a,b,c,d]
    exact(List.perm_append_comm (l₁:=[d]) (l₂:=[a,b,c]))
   | 2,_=>
    show [c,d,a,b].Perm [a,b,c,d]
    exact(List.perm_append_comm (l₁:=[c,d]) (l₂:=[a,b]))
   | 3,_=>
    show [b,c,d,a].Perm [a,b,c,d]
    exact(List.perm_append_comm (l₁:=[b,c,d]) (l₂:=[a]))
theorem off_off{n lead r i:Nat}(hn:n=3∨n=4)(hl:lead < n)(hr:r < n)(hi:i < n):off n ((lead+r) % n) i=off n lead (off n r i)∧off n r i < n:=by
 have all:∀ n∈[3,4],∀ lead < n,∀ r < n,∀ i < n,off n ((lead+r) % n) i=off n lead (off n r i)∧off n r i < n:=by decide
 exact all n (by rcases hn with rfl | rfl<;>simp) lead hl r hr i hi
theorem turn_plc{fx:Fx}(ok:fx.Ok){r:Nat}(hr:r < fx.n){hs ys:List Nat}{lead m:Nat}(Pl:Plc fx hs lead ys m):Plc fx (turnS fx.n r hs) ((lead+r) % fx.n) ys m:=by
 have pm:=turnS_perm ok.n34 Pl.len hr
 have cb:∀ b,cntB (turnS fx.n r hs) ys b=cntB hs ys b:=fun b=>by unfold cntB;rw[pm.countP_eq]
 refine⟨turnS_len _ _ _,seat_lt ok _ _,Pl.yl,fun b=>by rw[cb];exact Pl.one b,fun b hb=>Pl.pk b (by rw[← cb];exact hb),fun i h e=>?_⟩
 have hi:i < fx.n:=by
  have:=(List.getElem?_eq_some_iff.mp e).1
  rwa [turnS_len] at this
 rw[turnS_at hi] at e
 cases e
 obtain⟨o1,o2⟩:=off_off ok.n34 Pl.ld hr hi
 rw[o1]
 have o3:off fx.n r i < hs.length:=by rw[Pl.len];exact o2
 exact Pl.lv _ _ (by rw[List.getD_eq_getElem?_getD,List.getElem?_eq_getElem o3];rfl)
def sideL(n r side:Nat):List Nat:=((List.range n).filter side.testBit).map fun i=>(i+r) % n
theorem side_bit{n r side:Nat}(hn:n=3∨n=4)(hr:r < n):∀ u < n,(orAll (sideL n r side) 0).testBit ((u+r) % n)=side.testBit u:=fun u hu=>by
 have e:=hN_bit (sideL n r side) ((u+r) % n)
 unfold hN at e
 rw[e,Bool.eq_iff_iff,decide_eq_true_eq]
 unfold sideL
 rw[List.mem_map]
 constructor
 ·rintro⟨v,hv,ev⟩
  obtain⟨v1,v2⟩:=List.mem_filter.mp hv
  have all:∀ n∈[3,4],∀ x < n,∀ y < n,∀ r < n,(x+r) % n=(y+r) % n→x=y:=by decide
  rw[← all n (by rcases hn with rfl | rfl<;>simp) v (List.mem_range.mp v1) u hu r hr ev]
  exact v2
 ·intro h
  exact⟨u,List.mem_filter.mpr ⟨List.mem_range.mpr hu,h⟩,rfl⟩
def spSeatsT:Sp:=fun vs H Q _=>∃(p:Addr) (fx:Fx) (hs:List Nat) (lead:Nat) (ys:List Nat) (m r:Nat),vs=[.ref p,.int (r:Nat)]∧fx.Ok∧IsPl H p hs lead ys∧Plc fx hs lead ys m∧r < fx.n∧∀ p' H',Same H H'→IsPl H' p' (turnS fx.n r hs) ((lead+r) % fx.n) ys→Q (.ref p') H'
abbrev nSeatsT:List Str:=["place","steps","seats","hands"]
abbrev nT1:List Str:=["seat","place","steps","seats"]
theorem scSeatsT:FnScope nSeatsT ["place","steps"] (defScope sSeatsT):=⟨rfl,rfl,rfl,by decide +kernel,rfl,by decide +kernel,by decide +kernel⟩
theorem ok_seatsT{k:Nat}(F:Fun K "seats_turned" "seats_turned" sSeatsT f fd)(ml:mg "len" = none)(mr:mg "range" = none)(mT:mg "tuple" = none):FnOk P w K mg base CX0 (k+1) f fd ["place","steps"] spSeatsT:=by
 refine F.ok scSeatsT (fun vs H Q E h=>?_) (fun cdv A outer s H vs Q E hr h=>?_)
 ·obtain⟨p,fx,hs,lead,ys,m,r,rfl,_⟩:=h
  rfl
 obtain⟨p,fx,hs,lead,ys,m,r,rfl,ok,⟨hp,tp,h1,h2,h3⟩,Pl,hrn,q⟩:=h
 refine⟨_,pss_cons (ps_set (i:=2) scSeatsT.nd rfl (Or.inr rfl) (pe_callB call_len_seq rfl ml PySem.boot_len (pa_cons (pe_ix ix_tup (pv 0) pe_int (fun _ _=>rfl)) pa_nil)))
  (pss_cons (ps_setcomp (i:=3) nT1 [none,some 0,some 1,some 2] rfl scSeatsT.nd rfl (Or.inl rfl) (Blk.by (sc:=defScope sSeatsT) (N0:=nSeatsT) rfl rfl (by decide +kernel)) (pi_range1 rfl mr (pa_cons (pv 2) pa_nil)) (fun C s₀ H₀ ex=>pg_name (i:=0) (show nT1.Nodup by decide +kernel) rfl (Or.inl rfl)) (fun C s₀ H₀ ex=>pf_nil)
   (fun C s₀ H₀ ex=>pe_ix (show IxR _ (rIxT K) from ix_tup) (pe_ix (show IxR _ (rIxT K) from ix_tup) (pv 1) pe_int (fun _ _=>rfl)) (pe_op op_mod (pe_op op_sub (pv 0) (pv 2)) (pv 3)) (fun _ _=>rfl)))
  (pss_one (ps_ret (pe_tup (pa_cons (pe_callTy call_tuple_of rfl mT PyProof.Rows.boot_tuple (pa_cons (pv 3) pa_nil)) (pa_cons (pe_op op_mod (pe_op op_add (pe_ix ix_tup (pv 0) pe_int (fun _ _=>rfl)) (pv 1)) (pv 2)) (pa_cons (pe_ix ix_tup (pv 0) pe_int (fun _ _=>rfl)) pa_nil))))))),?_⟩
 have n4:fx.n≤4:=by rcases ok.n34 with e | e<;>omega
 have n0:0 < fx.n:=by omega
 have a0:atI [V.ref hp,V.int (lead:Nat),V.ref tp] 0=some (V.ref hp):=rfl
 have a1:atI [V.ref hp,V.int (lead:Nat),V.ref tp] 1=some (V.int (lead:Nat)):=rfl
 have a2:atI [V.ref hp,V.int (lead:Nat),V.ref tp] 2=some (V.ref tp):=rfl
 refine set_nm (fun v H1=>H1=H∧v = .int ((fx.n:Nat):Int)) (fun R hR=>⟨_,rfl,p,_,_,_,rfl,rfl,SqT.of h1,a0,hp,_,rfl,.inr (SqT.of h2),hR _ _ ⟨rfl,by rw[vN_len,Pl.len]⟩⟩) (fun v H1 z=>?_)
 obtain⟨rfl,rfl⟩:=z
 refine set_nm (fun v H2=>Same H1 H2∧∃ l,v = .ref l∧H2 l=some (.lst (vN (turnS fx.n r hs)))) (fun R hR=>⟨_,rfl,((fx.n:Nat):Int),rfl,by omega,by omega,?_⟩) (fun v H2 z=>?_)
 ·refine comp_range (n:=fx.n) (lo:=0) (fun _=>true) (fun j=>.int ((hs.getD (off fx.n r j) 0:Nat):Int)) (fits3 _ (by omega)) (fun j H3 hj sm R hR=>hR H3 (Same.refl H3)) (fun j H3 hj hp' sm R hR=>?_) (fun l3 H3 s3 hl3 hL3=>hR _ _ ⟨s3,l3,rfl,?_⟩)
  ·have o2:=(off_back ok.n34 hrn hj).2
   refine⟨_,rfl,p,_,_,_,rfl,rfl,SqT.of (sm _ _ h1),a0,_,rfl,_,rfl,_,_,rfl,rfl,_,rfl,_,_,rfl,rfl,(by show(0:Int) < ((fx.n:Nat):Int);omega),hp,_,_,V.int ((hs.getD (off fx.n r j) 0:Nat):Int),rfl,rfl,SqT.of (sm _ _ h2),?_,hR H3 (Same.refl H3)⟩
   rw[Int.zero_add,off_int hrn]
   refine atI_nat ?_
   have o3:off fx.n r j < hs.length:=by rw[Pl.len];exact o2
   unfold vN
   rw[List.getElem?_map,List.getD_eq_getElem?_getD,List.getElem?_eq_getElem o3]
   rfl
  ·rw[hL3,List.filter_eq_self.mpr fun _ _=>rfl]
   unfold turnS vN
   rw[List.map_map]
   rfl
 obtain⟨s2,l,rfl,hL⟩:=z
 refine⟨_,rfl,l,_,rfl,.inl ⟨SqL.of hL,fun th hth=>?_⟩⟩
 have s3:=s2.trans (same_upd hth (.tup (vN (turnS fx.n r hs))))
 refine⟨_,rfl,p,_,_,_,rfl,rfl,SqT.of (s3 _ _ h1),a1,_,rfl,_,_,rfl,rfl,_,rfl,_,_,rfl,rfl,(by show(0:Int) < ((fx.n:Nat):Int);omega),_,rfl,p,_,_,_,rfl,rfl,SqT.of (s3 _ _ h1),a2,fits3 3 (by decide),fun p' hp'=>?_⟩
 have a7:=same_upd hp' (.tup [.ref th,.int ((((lead:Nat):Int)+((r:Nat):Int)) % ((fx.n:Nat):Int)),.ref tp])
 refine q p' _ (s3.trans a7) ⟨th,tp,?_,a7 _ _ upd_same,a7 _ _ (s3 _ _ h3)⟩
 have e:((((lead:Nat):Int)+((r:Nat):Int)) % ((fx.n:Nat):Int))=(((lead+r) % fx.n:Nat):Int):=by rw[Int.natCast_emod,Int.natCast_add]
 rw[upd_same]
 show some (HO.tup [V.ref th,V.int ((((lead:Nat):Int)+((r:Nat):Int)) % ((fx.n:Nat):Int)),V.ref tp])=_
 rw[e]
def spSide(K:PySem.W.Frag):Sp:=fun vs H Q _=>∃(side r n:Nat),vs=[.int (side:Nat),.int (r:Nat),.int (n:Nat)]∧0 < n∧n≤32∧∀ H',Same H H'→Q (.int ((orAll (sideL n r side) 0:Nat):Int)) H'
theorem scSide:FnScope ["side","steps","seats"] ["side","steps","seats"] (defScope sSide):=⟨rfl,rfl,rfl,by decide +kernel,rfl,by decide +kernel,by decide +kernel⟩
abbrev nT2:List Str:=["seat","steps","seats","side"]
theorem ok_side{k:Nat}{f1 f2:Addr}{d1 d2:FuncData}(F:Fun K "side_turned" "side_turned" sSide f fd)(LHo:Lib P w K mg base k "hand_of" ["cards"] (spHandOf K) f1 d1)(LHs:Lib P w K mg base k "has_seat" ["side","seat"] spHasSeat f2 d2)(mr:mg "range" = none):FnOk P w K mg base CX0 (k+1) f fd ["side","steps","seats"] (spSide K):=by
 refine F.ok scSide (fun vs H Q E h=>?_) (fun cdv A outer s H vs Q E hr h=>?_)
 ·obtain⟨side,r,n,rfl,_⟩:=h
  rfl
 obtain⟨side,r,n,rfl,n0,n32,q⟩:=h
 refine⟨_,pss_one (ps_ret (pe_call LHo.ok hr rfl LHo.mg LHo.kp LHo.bd .nil pass0 (pa_cons (pe_comp nT2 [none,some 1,some 2,some 0] rfl (Blk.by (sc:=defScope sSide) (N0:=["side","steps","seats"]) rfl rfl (by decide +kernel)) (pi_range1 rfl mr (pa_cons (pv 2) pa_nil)) (fun C s₀ H₀ ex=>pg_name (i:=0) (show nT2.Nodup by decide +kernel) rfl (Or.inl rfl))
   (fun C s₀ H₀ ex=>pf_one (pt_truthB (pe_call LHs.ok hr rfl LHs.mg LHs.kp LHs.bd .nil pass0 (pa_cons (pv 3) (pa_cons (pv 0) pa_nil))) (fun _=>rfl)))
   (fun C s₀ H₀ ex=>pe_op op_mod (pe_op op_add (pv 0) (pv 1)) (pv 2))) pa_nil))),?_⟩
 refine⟨_,rfl,((n:Nat):Int),rfl,by omega,by omega,?_⟩
 refine comp_range (n:=n) (lo:=0) side.testBit (fun j=>.int (((j+r) % n:Nat):Int)) (fits3 _ (by omega)) (fun j H3 hj sm R hR=>?_) (fun j H3 hj hp' sm R hR=>?_) (fun l3 H3 s3 hl3 hL3=>?_)
 ·exact⟨_,rfl,_,rfl,side,j,(by rw[Int.zero_add];rfl),_,rfl,hR H3 (Same.refl H3)⟩
 ·refine⟨_,rfl,_,rfl,_,_,rfl,rfl,_,rfl,_,_,rfl,rfl,(by show(0:Int) < ((n:Nat):Int);omega),?_⟩
  have z:=hR H3 (Same.refl H3)
  have e:V.int (((0:Int)+((j:Nat):Int)+((r:Nat):Int)) % ((n:Nat):Int))=V.int (((j+r) % n:Nat):Int):=by rw[Int.zero_add,Int.natCast_emod,Int.natCast_add]
  show R (V.int (((0:Int)+((j:Nat):Int)+((r:Nat):Int)) % ((n:Nat):Int))) H3
  rw[e]
  exact z
 ·have e:((List.range n).filter side.testBit).map (fun j=>V.int (((j+r) % n:Nat):Int))=vN (sideL n r side):=by
   unfold sideL vN
   rw[List.map_map]
   rfl
  rw[e] at hL3
  refine⟨l3,sideL n r side,rfl,SqL.of hL3,fun c hc=>?_,q H3 s3⟩
  unfold sideL at hc
  obtain⟨i,_,rfl⟩:=List.mem_map.mp hc
  have:=Nat.mod_lt (i+r) n0
  omega
end
end My
namespace My
open PySem L2
abbrev sLCards:Stmt:=top 22
abbrev sLCard:Stmt:=top 23
abbrev sLHandT:Stmt:=top 24
abbrev sLSuits:Stmt:=top 25
section
variable{P:Program}{w:World}{K:PySem.W.Frag}{mg:Str→Option Value}{base:Heap}{f g:Addr}{fd gd:FuncData}
theorem bit_div(h c:Nat):decide (V.int ((h:Nat) / (2 ^ c:Nat) % 2:Int)=V.int 1)=h.testBit c:=by
 rw[int_dec,Nat.testBit_eq_decide_div_mod_eq]
 refine decide_eq_decide.mpr ?_
 have e:((h:Nat):Int) / ((2 ^ c:Nat):Int) % 2=((h / 2 ^ c % 2:Nat):Int):=by rw[Int.natCast_emod,Int.natCast_ediv];rfl
 rw[e]
 omega
theorem wide_pow{c:Nat}(hc:c≤32):(0:Int) < ((2 ^ c:Nat):Int)∧Wide ((2 ^ c:Nat):Int):=by
 have p:0 < 2 ^ c:=Nat.two_pow_pos c
 refine⟨by omega,?_⟩
 unfold Wide
 rw[Int.natAbs_natCast]
 exact Nat.pow_lt_pow_right (by decide) (by omega)
def spLCards:Sp:=fun vs H Q _=>∃ h:Nat,vs=[.int (h:Nat)]∧∀ l H',Same H H'→H l=none→H' l=some (.lst (vN (cardsN h)))→Q (.ref l) H'
theorem scLCards:FnScope ["_law_hand_here"] ["_law_hand_here"] (defScope sLCards):=⟨rfl,rfl,rfl,by decide +kernel,rfl,by decide +kernel,by decide +kernel⟩
abbrev nW1:List Str:=["_law_card_here","_law_hand_here"]
theorem ok_lcards{k:Nat}(F:Fun K "_law_cards" "_law_cards" sLCards f fd)(mr:mg "range" = none):FnOk P w K mg base CX0 (k+1) f fd ["_law_hand_here"] spLCards:=by
 refine F.ok scLCards (fun vs H Q E h=>?_) (fun cdv A outer s H vs Q E hr h=>?_)
 ·obtain⟨h,rfl,_⟩:=h
  rfl
 obtain⟨h,rfl,q⟩:=h
 refine⟨_,pss_one (ps_ret (pe_comp nW1 [none,some 0] rfl (Blk.by (sc:=defScope sLCards) (N0:=["_law_hand_here"]) rfl rfl (by decide +kernel)) (pi_range1 rfl mr (pa_cons pe_int pa_nil)) (fun C s₀ H₀ ex=>pg_name (i:=0) (show nW1.Nodup by decide +kernel) rfl (Or.inl rfl))
   (fun C s₀ H₀ ex=>pf_one (pt_cmpR op_eq (pe_op op_mod (pe_op op_fdivW (pv 1) (pe_op op_shl pe_int (pv 0))) pe_int) pe_int (nomark _))) (fun C s₀ H₀ ex=>pv 0))),?_⟩
 refine⟨(32:Int),rfl,by decide,by decide,?_⟩
 refine comp_range (n:=32) (lo:=0) h.testBit (fun j=>.int ((j:Nat):Int)) (fits3 _ (by decide)) (fun j H3 hj sm R hR=>?_) (fun j H3 hj hp' sm R hR=>?_) (fun l3 H3 s3 hl3 hL3=>q l3 H3 s3 hl3 ?_)
 ·refine⟨_,rfl,_,rfl,_,_,rfl,rfl,⟨by omega,by omega,by decide⟩,?_⟩
  show rI CDivW (fun i j=>V.int (i / j)) (V.int ((h:Nat):Int)) (V.int ((1:Int) * 2 ^ ((0:Int)+((j:Nat):Int)).toNat)) H3 _
  rw[Int.zero_add,Int.toNat_natCast]
  have e:(1:Int) * 2 ^ j=((2 ^ j:Nat):Int):=by rw[Int.one_mul,Int.natCast_pow];rfl
  rw[e]
  refine⟨_,_,rfl,rfl,wide_pow (by omega),_,_,rfl,rfl,(show(0:Int) < 2 by decide),rfl,_,rfl,?_⟩
  show R (decide (V.int (((h:Nat):Int) / ((2 ^ j:Nat):Int) % 2)=V.int 1)) H3
  rw[bit_div]
  exact hR H3 (Same.refl H3)
 ·refine⟨_,rfl,?_⟩
  show R (V.int ((0:Int)+((j:Nat):Int))) H3
  rw[Int.zero_add]
  exact hR H3 (Same.refl H3)
 ·rw[hL3]
  rfl
def spLCard:Sp:=fun vs H Q _=>∃(c:Nat) (d:Addr) (τ:List Nat),vs=[.int (c:Nat),.ref d]∧c < 32∧H d=some (.lst (vN τ))∧τ.Perm (List.range 4)∧Q (.int ((sg τ c:Nat):Int)) H
abbrev pLCard:List Str:=["_law_card_here","_law_turn_here"]
theorem scLCard:FnScope pLCard pLCard (defScope sLCard):=⟨rfl,rfl,rfl,by decide +kernel,rfl,by decide +kernel,by decide +kernel⟩
theorem ok_lcard{k:Nat}(F:Fun K "_law_card" "_law_card" sLCard f fd):FnOk P w K mg base CX0 (k+1) f fd pLCard spLCard:=by
 refine F.ok scLCard (fun vs H Q E h=>?_) (fun cdv A outer s H vs Q E hr h=>?_)
 ·obtain⟨c,d,τ,rfl,_⟩:=h
  rfl
 obtain⟨c,d,τ,rfl,c32,hd,pm,q⟩:=h
 refine⟨_,pss_one (ps_ret (pe_op op_add (pe_op op_mul pe_int (pe_ix ix_list (pv 1) (pe_op op_fdiv (pv 0) pe_int) (fun _ _=>rfl))) (pe_op op_mod (pv 0) pe_int))),?_⟩
 obtain⟨r1,r2⟩:=sg_read (K:=K) hd pm c32
 rw[← sg_val] at q
 exact⟨_,rfl,_,rfl,_,_,rfl,rfl,⟨by decide,by decide⟩,d,_,_,_,rfl,rfl,r1,r2,_,_,rfl,rfl,.inl ⟨by decide,by decide⟩,_,rfl,_,_,rfl,rfl,(show(0:Int) < 8 by decide),_,_,rfl,rfl,q⟩
def powS(τ:List Nat)(x:V):V:=match x with | .int i=>.int ((2 ^ sg τ i.toNat:Nat):Int) | _=>.non
theorem powS_int(τ:List Nat)(c:Nat):powS τ (.int (c:Nat)) = .int ((2 ^ sg τ c:Nat):Int):=by
 show V.int ((2 ^ sg τ ((c:Nat):Int).toNat:Nat):Int)=_
 rw[Int.toNat_natCast]
theorem powS_list(τ cs:List Nat):((vN cs).filter fun _=>true).map (powS τ)=vN ((cs.map (sg τ)).map fun c=>2 ^ c):=by
 rw[List.filter_eq_self.mpr fun _ _=>rfl]
 unfold vN
 rw[List.map_map,List.map_map,List.map_map]
 exact List.map_congr_left fun c _=>powS_int τ c
def spLHandT:Sp:=fun vs H Q _=>∃(h:Nat) (d:Addr) (τ:List Nat),vs=[.int (h:Nat),.ref d]∧H d=some (.lst (vN τ))∧τ.Perm (List.range 4)∧∀ H',Same H H'→Q (.int ((hT τ h:Nat):Int)) H'
abbrev pLHandT:List Str:=["_law_hand_here","_law_turn_here"]
theorem scLHandT:FnScope pLHandT pLHandT (defScope sLHandT):=⟨rfl,rfl,rfl,by decide +kernel,rfl,by decide +kernel,by decide +kernel⟩
abbrev nW2:List Str:=["_law_card_here","_law_turn_here"]
theorem ok_lhandT{k:Nat}{f1 f2:Addr}{d1 d2:FuncData}(F:Fun K "_law_hand" "_law_hand" sLHandT f fd)(LCs:Lib P w K mg base k "_law_cards" ["_law_hand_here"] spLCards f1 d1)(LCd:Lib P w K mg base k "_law_card" pLCard spLCard f2 d2)(mSu:mg "sum" = none):FnOk P w K mg base CX0 (k+1) f fd pLHandT spLHandT:=by
 refine F.ok scLHandT (fun vs H Q E h=>?_) (fun cdv A outer s H vs Q E hr h=>?_)
 ·obtain⟨h,d,τ,rfl,_⟩:=h
  rfl
 obtain⟨h,d,τ,rfl,hd,pm,q⟩:=h
 refine⟨_,pss_one (ps_ret (pe_callB (call_sum rfl) rfl mSu PyProof.Rows.boot_sum (pa_cons (pe_comp nW2 [none,some 1] rfl (Blk.by (sc:=defScope sLHandT) (N0:=pLHandT) rfl rfl (by decide +kernel)) (pi_list (pe_call LCs.ok hr rfl LCs.mg LCs.kp LCs.bd .nil pass0 (pa_cons (pv 0) pa_nil))) (fun C s₀ H₀ ex=>pg_name (i:=0) (show nW2.Nodup by decide +kernel) rfl (Or.inl rfl)) (fun C s₀ H₀ ex=>pf_nil)
   (fun C s₀ H₀ ex=>pe_op op_shl pe_int (pe_call LCd.ok hr rfl LCd.mg LCd.kp LCd.bd .nil pass0 (pa_cons (pv 0) (pa_cons (pv 1) pa_nil))))) pa_nil))),?_⟩
 refine⟨_,rfl,h,rfl,fun l1 H1 s1 hl1 hL1=>⟨l1,rfl,⟨_,SqL.of hL1⟩,comp_list (K:=K) (xs:=vN (cardsN h)) (fun _=>true) (powS τ) (SqL.of hL1) (fits3 _ (by have:=may_len32 h;rw[vN_len];omega)) (fun x H3 hx sm R hR=>hR H3 (Same.refl H3)) (fun x H3 hx hp sm R hR=>?_) (fun l H2 sm1 hl hL2=>?_)⟩⟩
 ·obtain⟨c,hc,rfl⟩:=List.mem_map.mp hx
  have c32:=cards_lt hc
  refine⟨_,rfl,_,rfl,c,d,τ,rfl,c32,sm _ _ (s1 _ _ hd),pm,_,_,rfl,rfl,⟨by omega,by have:=sg_lt pm c32;omega,by decide⟩,?_⟩
  have z:=hR H3 (Same.refl H3)
  rw[powS_int] at z
  show R (V.int ((1:Int) * 2 ^ (((sg τ c:Nat):Int)).toNat)) H3
  rw[shl_nat]
  exact z
 ·rw[powS_list,vN_ints] at hL2
  refine⟨l,_,rfl,SqL.of hL2,?_⟩
  rw[sum_nat,hN_sum (sg_nd pm (cards_nd h) fun c hc=>cards_lt hc)]
  exact q H2 (s1.trans sm1)
def spLSuits:Sp:=fun vs H Q _=>∃(p d:Addr) (fx:Fx) (hs:List Nat) (lead:Nat) (ys:List Nat) (m:Nat) (τ:List Nat),vs=[.ref p,.ref d]∧fx.Ok∧IsPl H p hs lead ys∧Plc fx hs lead ys m∧H d=some (.lst (vN τ))∧τ.Perm (List.range 4)∧∀ p' H',Same H H'→IsPl H' p' (hs.map (hT τ)) lead (ys.map (sg τ))→Q (.ref p') H'
abbrev pLSuits:List Str:=["_law_place_here","_law_turn_here"]
abbrev nLSuits:List Str:=["_law_place_here","_law_turn_here","_law_hands"]
theorem scLSuits:FnScope nLSuits pLSuits (defScope sLSuits):=⟨rfl,rfl,rfl,by decide +kernel,rfl,by decide +kernel,by decide +kernel⟩
abbrev nW3:List Str:=["_law_hand_here","_law_turn_here"]
theorem ok_lsuits{k:Nat}{f1 f2:Addr}{d1 d2:FuncData}(F:Fun K "_law_suits" "_law_suits" sLSuits f fd)(LHd:Lib P w K mg base k "_law_hand" pLHandT spLHandT f1 d1)(LCd:Lib P w K mg base k "_law_card" pLCard spLCard f2 d2)(mT:mg "tuple" = none):FnOk P w K mg base CX0 (k+1) f fd pLSuits spLSuits:=by
 refine F.ok scLSuits (fun vs H Q E h=>?_) (fun cdv A outer s H vs Q E hr h=>?_)
 ·obtain⟨p,d,fx,hs,lead,ys,m,τ,rfl,_⟩:=h
  rfl
 obtain⟨p,d,fx,hs,lead,ys,m,τ,rfl,ok,⟨hp,tp,h1,h2,h3⟩,Pl,hd,pm,q⟩:=h
 refine⟨_,pss_cons (ps_set (i:=2) scLSuits.nd rfl (Or.inl rfl) (pe_callTy call_tuple_of rfl mT PyProof.Rows.boot_tuple (pa_cons (pe_comp nW3 [none,some 1] rfl (Blk.by (sc:=defScope sLSuits) (N0:=nLSuits) rfl rfl (by decide +kernel)) (pi_tup (pe_ix ix_tup (pv 0) pe_int (fun _ _=>rfl))) (fun C s₀ H₀ ex=>pg_name (i:=0) (show nW3.Nodup by decide +kernel) rfl (Or.inl rfl)) (fun C s₀ H₀ ex=>pf_nil)
   (fun C s₀ H₀ ex=>pe_call LHd.ok hr rfl LHd.mg LHd.kp LHd.bd .nil pass0 (pa_cons (pv 0) (pa_cons (pv 1) pa_nil)))) pa_nil)))
  (pss_one (ps_ret (pe_tup (pa_cons (pv 2) (pa_cons (pe_ix ix_tup (pv 0) pe_int (fun _ _=>rfl)) (pa_cons (pe_callTy call_tuple_of rfl mT PyProof.Rows.boot_tuple (pa_cons (pe_comp nW2 [none,some 1] rfl (Blk.by (sc:=defScope sLSuits) (N0:=nLSuits) rfl rfl (by decide +kernel)) (pi_tup (pe_ix ix_tup (pv 0) pe_int (fun _ _=>rfl))) (fun C s₀ H₀ ex=>pg_name (i:=0) (show nW2.Nodup by decide +kernel) rfl (Or.inl rfl)) (fun C s₀ H₀ ex=>pf_nil)
   (fun C s₀ H₀ ex=>pe_call LCd.ok hr rfl LCd.mg LCd.kp LCd.bd .nil pass0 (pa_cons (pv 0) (pa_cons (pv 1) pa_nil)))) pa_nil)) pa_nil)))))),?_⟩
 have n4:fx.n≤4:=by rcases ok.n34 with e | e<;>omega
 have a0:atI [V.ref hp,V.int (lead:Nat),V.ref tp] 0=some (V.ref hp):=rfl
 have a1:atI [V.ref hp,V.int (lead:Nat),V.ref tp] 1=some (V.int (lead:Nat)):=rfl
 have a2:atI [V.ref hp,V.int (lead:Nat),V.ref tp] 2=some (V.ref tp):=rfl
 have yl:=Pl.yl
 refine set_nm (fun v H2=>Same H H2∧∃ l,v = .ref l∧H2 l=some (.tup (vN (hs.map (hT τ))))) (fun R hR=>⟨_,rfl,p,_,_,_,rfl,rfl,SqT.of h1,a0,hp,rfl,⟨_,SqT.of h2⟩,?_⟩) (fun v H2 z=>?_)
 ·refine comp_tup (K:=K) (xs:=vN hs) (fun _=>true) (hTW τ) (SqT.of h2) (fits3 _ (by rw[vN_len,Pl.len];omega)) (fun x H3 hx sm R hR=>hR H3 (Same.refl H3)) (fun x H3 hx hp' sm R hR=>?_) (fun l H1 sm1 hl hL1=>?_)
  ·obtain⟨h,hh,rfl⟩:=List.mem_map.mp hx
   refine⟨_,rfl,_,rfl,h,d,τ,rfl,sm _ _ hd,pm,fun H4 s4=>?_⟩
   have z:=hR H4 s4
   rw[hTW_int] at z
   exact z
  ·rw[hTW_list] at hL1
   exact⟨l,_,rfl,.inl ⟨SqL.of hL1,fun th hth=>hR _ _ ⟨sm1.trans (same_upd hth _),th,rfl,upd_same⟩⟩⟩
 obtain⟨s2,l,rfl,hL⟩:=z
 refine⟨_,rfl,_,rfl,p,_,_,_,rfl,rfl,SqT.of (s2 _ _ h1),a1,_,rfl,p,_,_,_,rfl,rfl,SqT.of (s2 _ _ h1),a2,tp,rfl,⟨_,SqT.of (s2 _ _ h3)⟩,?_⟩
 refine comp_tup (K:=K) (xs:=vN ys) (fun _=>true) (sgW τ) (SqT.of (s2 _ _ h3)) (fits3 _ (by rw[vN_len];omega)) (fun x H3 hx sm R hR=>hR H3 (Same.refl H3)) (fun x H3 hx hp' sm R hR=>?_) (fun l3 H6 s6 hl3 hL3=>?_)
 ·obtain⟨c,hc,rfl⟩:=List.mem_map.mp hx
  refine⟨_,rfl,_,rfl,c,d,τ,rfl,Pl.y32 ok hc,sm _ _ (s2 _ _ hd),pm,?_⟩
  have z:=hR H3 (Same.refl H3)
  rw[sgW_int] at z
  exact z
 ·rw[sgW_list] at hL3
  refine⟨l3,_,rfl,.inl ⟨SqL.of hL3,fun tz htz=>⟨fits3 3 (by decide),fun p' hp'=>?_⟩⟩⟩
  have a6:=same_upd htz (.tup (vN (ys.map (sg τ))))
  have a7:=same_upd hp' (.tup [.ref l,.int (lead:Nat),.ref tz])
  exact q p' _ (((s2.trans s6).trans a6).trans a7) ⟨l,tz,upd_same,a7 _ _ (a6 _ _ (s6 _ _ hL)),a7 _ _ upd_same⟩
end
end My
namespace My
open PySem L2
abbrev sLaw:Stmt:=top 26
section
variable{P:Program}{w:World}{K:PySem.W.Frag}{mg:Str→Option Value}{base:Heap}{f g:Addr}{fd gd:FuncData}
def invT(τ:List Nat):List Nat:=(List.range 4).map fun u=>pos u τ
theorem pos_get{τ:List Nat}(pm:τ.Perm (List.range 4)){u:Nat}(hu:u < 4):pos (τ.getD u 0) τ=u:=by
 have nd:τ.Nodup:=pm.nodup_iff.mpr List.nodup_range
 have e:=(tau_get pm hu).1
 exact nd_at nd (pos_at (List.mem_of_getElem? e)).1 e
theorem inv_perm{τ:List Nat}(pm:τ.Perm (List.range 4)):(invT τ).Perm (List.range 4):=by
 have l:τ.length=4:=by rw[pm.length_eq];rfl
 have e:τ.map (fun u=>pos u τ)=List.range 4:=by
  apply List.ext_getElem?
  intro j
  rw[List.getElem?_map]
  by_cases hj:j < 4
  ·rw[(tau_get pm hj).1,List.getElem?_range hj]
   show some (pos (τ.getD j 0) τ)=some j
   rw[pos_get pm hj]
  ·rw[List.getElem?_eq_none (by omega),List.getElem?_eq_none (by rw[List.length_range];omega)]
   rfl
 unfold invT
 have z:=pm.symm.map fun u=>pos u τ
 rw[e] at z
 exact z
theorem inv_get{τ:List Nat}(pm:τ.Perm (List.range 4)){u:Nat}(hu:u < 4):(invT τ).getD (τ.getD u 0) 0=u:=by
 have t4:=(tau_get pm hu).2
 unfold invT
 rw[List.getD_eq_getElem?_getD,List.getElem?_map,List.getElem?_range t4]
 exact pos_get pm hu
theorem sg_inv{τ:List Nat}(pm:τ.Perm (List.range 4)){c:Nat}(hc:c < 32):sg (invT τ) (sg τ c)=c:=by
 have e:sg (invT τ) (sg τ c)=8 * (invT τ).getD (sg τ c / 8) 0+sg τ c % 8:=rfl
 rw[e,sg_div,sg_mod,inv_get pm (show c / 8 < 4 by omega)]
 omega
theorem hT_inv{τ:List Nat}(pm:τ.Perm (List.range 4)){h:Nat}(h32:h < 4294967296):hT (invT τ) (hT τ h)=h:=by
 have pm':=inv_perm pm
 have h32':hT τ h < 4294967296:=lt32 fun b hb=>hT_32 pm hb
 refine Nat.eq_of_testBit_eq fun b=>?_
 by_cases hb:b < 32
 ·obtain⟨a,ha,e⟩:=sg_sur pm' hb
  obtain⟨c,hc,e2⟩:=sg_sur pm ha
  subst e2
  rw[sg_inv pm hc] at e
  subst e
  have z:=hT_bit pm' h32' (sg_lt pm hc)
  rw[sg_inv pm hc,hT_bit pm h32 hc] at z
  exact z
 ·have e1:(hT (invT τ) (hT τ h)).testBit b=false:=Bool.eq_false_iff.mpr fun z=>hb (hT_32 pm' z)
  have e2:h.testBit b=false:=Bool.eq_false_iff.mpr fun z=>hb (cards_lt ((mem_cards h32).mpr z))
  rw[e1,e2]
def fx4(fx:Fx):Fx:={ fx with s:=4 }
theorem fx4_ok{fx:Fx}(ok:fx.Ok):(fx4 fx).Ok:=⟨(show 1≤4 by decide),(show 4≤4 by decide),ok.h1,ok.h8,ok.n34,ok.pp,ok.pt⟩
theorem fx4_plc{fx:Fx}(ok:fx.Ok){hs ys:List Nat}{lead m:Nat}(Pl:Plc fx hs lead ys m):Plc (fx4 fx) hs lead ys m:=⟨Pl.len,Pl.ld,Pl.yl,Pl.one,fun b hb=>⟨Nat.lt_of_lt_of_le (Pl.pk b hb).1 ok.s4,(Pl.pk b hb).2⟩,Pl.lv⟩
theorem turn_back{n r:Nat}{hs:List Nat}(hn:n=3∨n=4)(hl:hs.length=n)(hr:r < n):turnS n ((n - r) % n) (turnS n r hs)=hs∧hs.drop (n - r)++hs.take (n - r)=turnS n r hs:=by
 rcases hn with rfl | rfl
 ·match hs,hl with
  | [a,b,c],_=>
   match r,hr with
   | 0,_=>exact⟨rfl,rfl⟩
   | 1,_=>exact⟨rfl,rfl⟩
   | 2,_=>exact⟨rfl,rfl⟩
 ·match hs,hl with
  | [a,b,c,d],_=>
   match r,hr with
   | 0,_=>exact⟨rfl,rfl⟩
   | 1,_=>exact⟨rfl,rfl⟩
   | 2,_=>exact⟨rfl,rfl⟩
   | 3,_=>exact⟨rfl,rfl⟩
theorem lead_back{n lead r:Nat}(hn:n=3∨n=4)(hl:lead < n)(hr:r < n):((lead+r) % n+(n - r) % n) % n=lead∧(n - r) % n < n:=by
 have all:∀ n∈[3,4],∀ lead < n,∀ r < n,((lead+r) % n+(n - r) % n) % n=lead∧(n - r) % n < n:=by decide
 exact all n (by rcases hn with rfl | rfl<;>simp) lead hl r hr
theorem side_nd{n r side:Nat}(hn:n=3∨n=4)(hr:r < n):(sideL n r side).Nodup:=by
 unfold sideL
 have all:∀ n∈[3,4],∀ x < n,∀ y < n,∀ r < n,(x+r) % n=(y+r) % n→x=y:=by decide
 refine List.Pairwise.map _ (fun a b h=>h) ?_
 have nd:((List.range n).filter side.testBit).Nodup:=List.nodup_range.filter _
 refine List.Pairwise.imp_of_mem (fun {a b} ha hb h e=>h ?_) nd
 exact all n (by rcases hn with rfl | rfl<;>simp) a (List.mem_range.mp (List.mem_filter.mp ha).1) b (List.mem_range.mp (List.mem_filter.mp hb).1) r hr e
theorem side_back{n r side:Nat}(hn:n=3∨n=4)(hr:r < n)(hs:side < 2 ^ n):orAll (sideL n ((n - r) % n) (orAll (sideL n r side) 0)) 0=side:=by
 have n0:0 < n:=by omega
 refine Nat.eq_of_testBit_eq fun b=>?_
 by_cases hb:b < n
 ·have l2:=(lead_back (lead:=b) hn hb hr)
  have z:=side_bit (side:=orAll (sideL n r side) 0) hn l2.2 ((b+r) % n) (Nat.mod_lt _ n0)
  rw[l2.1,side_bit hn hr b hb] at z
  exact z
 ·have e1:(orAll (sideL n ((n - r) % n) (orAll (sideL n r side) 0)) 0).testBit b=false:=by
   have e:=hN_bit (sideL n ((n - r) % n) (orAll (sideL n r side) 0)) b
   unfold hN at e
   rw[e]
   refine decide_eq_false fun z=>hb ?_
   unfold sideL at z
   obtain⟨i,_,rfl⟩:=List.mem_map.mp z
   exact Nat.mod_lt _ n0
  have e2:side.testBit b=false:=Nat.testBit_lt_two_pow (Nat.lt_of_lt_of_le hs (Nat.pow_le_pow_right (by decide) (by omega)))
  rw[e1,e2]
theorem vN_cut_to(ws:List Nat)(m:Nat)(h:m≤ws.length):cutV (vN ws) none (some ((m:Nat):Int))=vN (ws.take m):=by
 unfold cutV
 rw[HT.sIx_nat,HT.sIx_none,vN_len,Nat.min_eq_left h,List.drop_zero,Nat.sub_zero]
 unfold vN
 rw[List.map_take]
theorem vN_cut_from(ws:List Nat)(m:Nat)(h:m≤ws.length):cutV (vN ws) (some ((m:Nat):Int)) none=vN (ws.drop m):=by
 unfold cutV
 rw[HT.sIx_nat,HT.sIx_none,vN_len,Nat.min_eq_left h]
 unfold vN
 rw[← List.map_drop,← List.map_take,List.take_of_length_le (by rw[List.length_drop];omega)]
theorem pe_idxK{X:Cx}{K:PySem.W.Frag}{o e:Expr}{to:TE}{t:TA}{apos cpos:Pos}(hK:X.K=K)(ho:PE X o to)(ha:PA X [e] t)
  (hbase:attributeBase o "index" X.env (eval o X.env)=eval o X.env:=by rfl)
  (hfew:((backTo cpos (starEach [e] X.env)).all (fun x=>!x.1) && (backToKw cpos (keywordEach [] X.env)).all (fun x=>x.1.isSome)
   && decide (([e]:List Expr).length+([]:List Keyword).length+(if([]:List Keyword).isEmpty then 0 else 1) < 30))=true:=by rfl)
  (hline:(apos.endLine == cpos.line)=true:=by rfl) (hs:starEach [e] X.env=(false,eval e X.env) :: starEach [] X.env:=by rfl) (hplain:(backTo cpos (starEach [] X.env)).any (·.1)=false:=by rfl) :
  PE X (.Call (.Attribute o "index" apos) [e] [] cpos) (tBM K "list" (fun x xs H Q=>∃(a:Addr) (k:Int) (ns:List Int) (j:Nat),x = .ref a∧xs=[.int k]∧SqL K H a (ns.map V.int)∧ns.length≤1000∧ns[j]? = some k∧(∀ m < j,ns[m]?≠some k)∧Q (.int (j:Nat)) H) to t):=by
 subst hK
 exact pe_bm PySem.F.plainAttrs_list PySem.F.slot_list_index PySem.F.type_list_index mt_index ho ha hbase hfew hline hs hplain
def spLaw(K:PySem.W.Frag):Sp:=fun vs H Q _=>∃(a:Addr) (ns:List Int),vs=[.ref a]∧SqL K H a (ns.map V.int)∧ns.length≤63∧∀ H',Q (.bl true) H'
abbrev nLaw:List Str:=["_law_script","_law_rules_here","_law_place_here","_law_seats","_law_turn_here","_law_given","_law_steps_here","_law_hands","_law_side","_law_moved"]
theorem scLaw:FnScope nLaw ["_law_script"] (defScope sLaw):=⟨rfl,rfl,rfl,by decide +kernel,rfl,by decide +kernel,by decide +kernel⟩
abbrev nL1:List Str:=["_law_suit","_law_turn_here"]
abbrev nL2:List Str:=["_law_seat","_law_steps_here","_law_seats","_law_side"]
theorem ok_law{k:Nat}{f1 f2 f3 f4 f6 f7 f8 f9 fa fb:Addr}{d1 d2 d3 d4 d6 d7 d8 d9 da db:FuncData}(F:Fun K "law" "law" sLaw f fd)(LX:Lib P w K mg base k "_law_mixed" pMixed (spMixed K) f1 d1)(LRu:Lib P w K mg base k "_law_rules" ["_law_script","_law_most"] (spRules K) f2 d2)(LSt:Lib P w K mg base k "_law_state" pLState (spLState K) f3 d3)(LSp:Lib P w K mg base k "_law_steps" pSteps (spSteps K) f4 d4)
  (LPl:Lib P w K mg base k "_law_place" ["_law_state_here"] (spLPlace K) f6 d6) (LSe:Lib P w K mg base k "seats_turned" ["place","steps"] spSeatsT f7 d7) (LSi:Lib P w K mg base k "side_turned" ["side","steps","seats"] (spSide K) f8 d8)
  (LSu:Lib P w K mg base k "suits_turned" ["place","turn"] spSuitsT f9 d9) (LLs:Lib P w K mg base k "_law_suits" pLSuits spLSuits fa da) (LOr:Lib P w K mg base k "_law_order" pOrder (spOrder K) fb db) (mLi:mg "list" = none) (mr:mg "range" = none) (mSu:mg "sum" = none) :
  FnOk P w K mg base CX0 (k+1) f fd ["_law_script"] (spLaw K):=by
 refine F.ok scLaw (fun vs H Q E h=>?_) (fun cdv A outer s H vs Q E hr h=>?_)
 ·obtain⟨a,ns,rfl,_⟩:=h
  rfl
 obtain⟨a,ns,rfl,hS,h63,q⟩:=h
 refine⟨_,pss_cons (ps_set (i:=1) scLaw.nd rfl (Or.inl rfl) (pe_call LRu.ok hr rfl LRu.mg LRu.kp LRu.bd .nil pass0 (pa_cons (pv 0) (pa_cons pe_int pa_nil))))
  (pss_cons (ps_set (i:=2) scLaw.nd rfl (Or.inl rfl) (pe_call LPl.ok hr rfl LPl.mg LPl.kp LPl.bd .nil pass0 (pa_cons (pe_call LSt.ok hr rfl LSt.mg LSt.kp LSt.bd .nil pass0 (pa_cons (pv 0) (pa_cons (pv 1) (pa_cons (pe_call LSp.ok hr rfl LSp.mg LSp.kp LSp.bd .nil pass0 (pa_cons (pv 0) (pa_cons (pv 1) pa_nil))) pa_nil)))) pa_nil)))
  (pss_cons (ps_set (i:=3) scLaw.nd rfl (Or.inr rfl) (pe_ix ix_tup (pv 1) pe_int (fun _ _=>rfl)))
  (pss_cons (ps_set (i:=4) scLaw.nd rfl (Or.inr rfl) (pe_call LOr.ok hr rfl LOr.mg LOr.kp LOr.bd .nil pass0 (pa_cons (pv 0) (pa_cons pe_int (pa_cons pe_int pa_nil)))))
  (pss_cons (ps_set (i:=5) scLaw.nd rfl (Or.inl rfl) (pe_callTy call_list_of rfl mLi PyProof.Rows.boot_list (pa_cons (pv 4) pa_nil)))
  (pss_cons (ps_if (PW.pt (pw_or (pt_cmpR (op_neD (d:=2) (by decide) hr.units) (pe_call LSu.ok hr rfl LSu.mg LSu.kp LSu.bd .nil pass0 (pa_cons (pv 2) (pa_cons (pv 5) pa_nil))) (pe_call LLs.ok hr rfl LLs.mg LLs.kp LLs.bd .nil pass0 (pa_cons (pv 2) (pa_cons (pv 4) pa_nil))) (nomark _)) (pw_or1 (pt_cmpR (op_neD (d:=1) (by decide) hr.units) (pv 5) (pv 4) (nomark _))))) (pss_one (ps_ret pe_bl)) pss_nil)
  (pss_cons (ps_if (pt_cmpR (op_neD (d:=2) (by decide) hr.units) (pe_call LSu.ok hr rfl LSu.mg LSu.kp LSu.bd .nil pass0 (pa_cons (pe_call LSu.ok hr rfl LSu.mg LSu.kp LSu.bd .nil pass0 (pa_cons (pv 2) (pa_cons (pv 4) pa_nil))) (pa_cons (pe_comp nL1 [none,some 4] rfl (Blk.by (sc:=defScope sLaw) (N0:=nLaw) rfl rfl (by decide +kernel)) (pi_range1 rfl mr (pa_cons pe_int pa_nil)) (fun C s₀ H₀ ex=>pg_name (i:=0) (show nL1.Nodup by decide +kernel) rfl (Or.inl rfl)) (fun C s₀ H₀ ex=>pf_nil) (fun C s₀ H₀ ex=>pe_idxK (K:=K) rfl (pv 1) (pa_cons (pv 0) pa_nil))) pa_nil))) (pv 2) (nomark _)) (pss_one (ps_ret pe_bl)) pss_nil)
  (pss_cons (ps_set (i:=6) scLaw.nd rfl (Or.inr rfl) (pe_op op_mod (pe_call LX.ok hr rfl LX.mg LX.kp LX.bd .nil pass0 (pa_cons (pv 0) (pa_cons pe_int pa_nil))) (pv 3)))
  (pss_cons (ps_set (i:=7) scLaw.nd rfl (Or.inl rfl) (pe_op op_catG (pe_slice sl_tupG (pe_ix ix_tup (pv 2) pe_int (fun _ _=>rfl)) (po_some (pe_op op_sub (pv 3) (pv 6))) po_none) (pe_slice sl_tupG (pe_ix ix_tup (pv 2) pe_int (fun _ _=>rfl)) po_none (po_some (pe_op op_sub (pv 3) (pv 6))))))
  (pss_cons (ps_if (pt_cmpR (op_neD (d:=2) (by decide) hr.units) (pe_call LSe.ok hr rfl LSe.mg LSe.kp LSe.bd .nil pass0 (pa_cons (pv 2) (pa_cons (pv 6) pa_nil))) (pe_tup (pa_cons (pv 7) (pa_cons (pe_op op_mod (pe_op op_add (pe_ix ix_tup (pv 2) pe_int (fun _ _=>rfl)) (pv 6)) (pv 3)) (pa_cons (pe_ix ix_tup (pv 2) pe_int (fun _ _=>rfl)) pa_nil)))) (nomark _)) (pss_one (ps_ret pe_bl)) pss_nil)
  (pss_cons (ps_if (pt_cmpR (op_neD (d:=2) (by decide) hr.units) (pe_call LSe.ok hr rfl LSe.mg LSe.kp LSe.bd .nil pass0 (pa_cons (pe_call LSe.ok hr rfl LSe.mg LSe.kp LSe.bd .nil pass0 (pa_cons (pv 2) (pa_cons (pv 6) pa_nil))) (pa_cons (pe_op op_mod (pe_op op_sub (pv 3) (pv 6)) (pv 3)) pa_nil))) (pv 2) (nomark _)) (pss_one (ps_ret pe_bl)) pss_nil)
  (pss_cons (ps_set (i:=8) scLaw.nd rfl (Or.inr rfl) (pe_op op_mod (pe_call LX.ok hr rfl LX.mg LX.kp LX.bd .nil pass0 (pa_cons (pv 0) (pa_cons pe_int pa_nil))) (pe_op op_shl pe_int (pv 3))))
  (pss_cons (ps_set (i:=9) scLaw.nd rfl (Or.inl rfl) (pe_callB (call_sum rfl) rfl mSu PyProof.Rows.boot_sum (pa_cons (pe_comp nL2 [none,some 6,some 3,some 8] rfl (Blk.by (sc:=defScope sLaw) (N0:=nLaw) rfl rfl (by decide +kernel)) (pi_range1 rfl mr (pa_cons (pv 3) pa_nil)) (fun C s₀ H₀ ex=>pg_name (i:=0) (show nL2.Nodup by decide +kernel) rfl (Or.inl rfl))
    (fun C s₀ H₀ ex=>pf_one (pt_cmpR op_eq (pe_op op_mod (pe_op op_fdivW (pv 3) (pe_op op_shl pe_int (pv 0))) pe_int) pe_int (nomark _))) (fun C s₀ H₀ ex=>pe_op op_shl pe_int (pe_op op_mod (pe_op op_add (pv 0) (pv 1)) (pv 2)))) pa_nil)))
  (pss_one (ps_ret (pe_and (pe_cmpR op_eq (pe_call LSi.ok hr rfl LSi.mg LSi.kp LSi.bd .nil pass0 (pa_cons (pv 8) (pa_cons (pv 6) (pa_cons (pv 3) pa_nil)))) (pv 9) (nomark _)) (pe_one (pe_cmpR op_eq (pe_call LSi.ok hr rfl LSi.mg LSi.kp LSi.bd .nil pass0 (pa_cons (pv 9) (pa_cons (pe_op op_mod (pe_op op_sub (pv 3) (pv 6)) (pv 3)) (pa_cons (pv 3) pa_nil)))) (pv 8) (nomark _)))))))))))))))))),?_⟩
 have z1000:=fits3 1000 (by decide)
 refine set_nm (fun v H1=>∃(d:Addr) (fx:Fx) (t:Option Nat) (sz:Nat),v = .ref d∧Same H H1∧IsRt H1 d fx t sz∧fx.Ok∧TrB t∧sz≤4∧sz * fx.n≤fx.s * fx.h) (fun R hR=>⟨_,rfl,a,ns,3,rfl,hS,h63,by decide,fun d f t sz H' s1 _ hRt ok tb szm _ szn=>hR _ _ ⟨d,f,t,sz,rfl,s1,hRt,ok,tb,by omega,szn⟩⟩) (fun v H1 z=>?_)
 obtain⟨d,fx,t,sz,rfl,s1,hRt,ok,tb,sz4,szn⟩:=z
 have n4:fx.n≤4:=by rcases ok.n34 with e | e<;>omega
 have n0:0 < fx.n:=by rcases ok.n34 with e | e<;>omega
 have nz:fx.n * sz≤4 * 4:=Nat.mul_le_mul n4 sz4
 have hS1:=s1.seq hS
 refine set_nm (fun v H5=>Same H1 H5∧∃(p:Addr) (hs:List Nat) (lead:Nat) (ys:List Nat) (m:Nat),v = .ref p∧IsPl H5 p hs lead ys∧Plc fx hs lead ys m) (fun R hR=>?_) (fun v H5 z=>?_)
 ·refine⟨_,rfl,_,rfl,_,rfl,_,rfl,a,ns,d,fx,t,sz,rfl,hS1,h63,ok,hRt,by omega,fun steps s1000 h11=>⟨a,ns,d,fx,t,sz,steps,rfl,hS1,h63,ok,hRt,szn,s1000,fun st css lead ys m H2 s2 hSt S tot=>⟨st,fx,css,lead,m,ys,rfl,ok,hSt,S,fun p H5 s5 hp=>hR _ _ ⟨s2.trans s5,p,_,lead,ys,m,rfl,hp,S.plc⟩⟩⟩⟩
 obtain⟨s5,p,hs,lead,ys,m,rfl,hp5,Pl⟩:=z
 have hRt5:=hRt.same s5
 obtain⟨lo,lp,lh,hD,hO,hP,hT'⟩:=id hRt5
 obtain⟨g1,g2,g3,g4,g5,g6⟩:=@rt_get fx t sz lo
 have hS5:=(s1.trans s5).seq hS
 have ok4:=fx4_ok ok
 have Pl4:=fx4_plc ok Pl
 refine set_nm (fun v H6=>H5=H6∧v = .int ((fx.n:Nat):Int)) (fun R hR=>⟨_,rfl,d,_,_,_,rfl,rfl,SqT.of hD,g1,hR _ _ ⟨rfl,rfl⟩⟩) (fun v H6 z=>?_)
 obtain⟨rfl,rfl⟩:=z
 refine set_nm (fun v H6=>Same H5 H6∧∃(lt:Addr) (τ:List Nat),v = .ref lt∧H6 lt=some (.lst (vN τ))∧τ.Perm (List.range 4)) (fun R hR=>⟨_,rfl,a,ns,200,4,rfl,hS5,h63,by decide,by decide,fun l1 ls H6 pm s6 hl1 hL1=>hR _ _ ⟨s6,l1,ls,rfl,hL1,pm⟩⟩) (fun v H6 z=>?_)
 obtain⟨s6,lt,τ,rfl,hlt6,pm⟩:=z
 refine set_nm (fun v H7=>Same H6 H7∧∃ lg,v = .ref lg∧H7 lg=some (.lst (vN τ))) (fun R hR=>⟨_,rfl,lt,_,rfl,.inl (SqL.of hlt6),fun lg hlg=>hR _ _ ⟨same_upd hlg _,lg,rfl,upd_same⟩⟩) (fun v H7 z=>?_)
 obtain⟨s7,lg,rfl,hlg7⟩:=z
 have s57:=s6.trans s7
 have hlt7:=s7 _ _ hlt6
 have hp7:=hp5.same s57
 refine⟨_,rfl,_,rfl,p,lg,fx,hs,lead,ys,m,τ,rfl,ok,hp7,Pl,hlg7,pm,fun p1 H8 s8 hp1=>?_⟩
 refine⟨_,rfl,_,rfl,p,lt,fx,hs,lead,ys,m,τ,rfl,ok,hp7.same s8,Pl,s8 _ _ hlt7,pm,fun p2 H9 s9 hp2=>?_⟩
 refine⟨p1,p2,rfl,rfl,deep_pl (hp1.same s9) hp2,_,rfl,iteF ?_⟩
 have s79:=s8.trans s9
 refine⟨_,rfl,_,rfl,lg,lt,rfl,rfl,deep_lst (s79 _ _ hlg7) (s79 _ _ hlt7),_,rfl,iteF (nx_of ?_)⟩
 have hlt9:=s79 _ _ hlt7
 have hp9:=hp7.same s79
 refine⟨_,rfl,_,rfl,p,lt,fx,hs,lead,ys,m,τ,rfl,ok,hp9,Pl,hlt9,pm,fun p3 HA sA hp3=>?_⟩
 have tl:τ.length=4:=by rw[pm.length_eq];rfl
 refine⟨(4:Int),rfl,by decide,by decide,comp_range (n:=4) (lo:=0) (fun _=>true) (fun j=>.int ((pos j τ:Nat):Int)) (fits3 _ (by decide)) (fun j H3 hj sm R hR=>hR H3 (Same.refl H3)) (fun j H3 hj hp' sm R hR=>?_) (fun l3 HB sB hl3 hL3=>?_)⟩
 ·have mem:=pm.mem_iff.mpr (List.mem_range.mpr hj)
  obtain⟨i1,i2⟩:=ix_vN mem
  have h4:=sm _ _ (sA _ _ hlt9)
  rw[vN_ints] at h4
  refine⟨_,rfl,.inl ⟨rfl,_,SqL.of h4⟩,_,rfl,lt,((j:Nat):Int),_,pos j τ,rfl,(by rw[Int.zero_add]),SqL.of h4,by rw[List.length_map];omega,i1,i2,hR H3 (Same.refl H3)⟩
 have eL:((List.range 4).filter fun _=>true).map (fun j=>V.int ((pos j τ:Nat):Int))=vN (invT τ):=by
  rw[List.filter_eq_self.mpr fun _ _=>rfl]
  unfold invT vN
  rw[List.map_map]
  rfl
 rw[eL] at hL3
 have P4':=suit_plc ok4 pm (fun u hu=>(tau_get pm hu).2) Pl4
 refine⟨p3,l3,fx4 fx,hs.map (hT τ),lead,ys.map (sg τ),m,invT τ,rfl,ok4,hp3.same sB,P4',hL3,inv_perm pm,fun p4 HC sC hp4=>?_⟩
 have b1:(hs.map (hT τ)).map (hT (invT τ))=hs:=by
  rw[List.map_map]
  conv=>rhs;rw[← List.map_id hs]
  exact List.map_congr_left fun h hh=>hT_inv pm (Pl.h32 ok hh)
 have b2:(ys.map (sg τ)).map (sg (invT τ))=ys:=by
  rw[List.map_map]
  conv=>rhs;rw[← List.map_id ys]
  exact List.map_congr_left fun c hc=>sg_inv pm (Pl.y32 ok hc)
 rw[b1,b2] at hp4
 have s9C:=(sA.trans sB).trans sC
 refine⟨_,rfl,p4,p,rfl,rfl,deep_pl hp4 (hp9.same s9C),_,rfl,iteF (nx_of ?_)⟩
 have s5C:=(s57.trans s79).trans s9C
 have hSC:=s5C.seq hS5
 have hpC:=hp5.same s5C
 refine set_nm (fun v H6=>HC=H6∧∃ r:Nat,v = .int (r:Nat)∧r < fx.n) (fun R hR=>⟨_,rfl,a,ns,210,rfl,hSC,h63,by decide,by decide,fun z=>⟨_,rfl,_,_,rfl,rfl,(by show(0:Int) < ((fx.n:Nat):Int);omega),?_⟩⟩) (fun v H6 z=>?_)
 ·obtain⟨u,hu,eu⟩:=int_nat (z:=z) n0
  exact hR _ _ ⟨rfl,u,(show V.int (z % ((fx.n:Nat):Int))=_ by rw[eu]),hu⟩
 obtain⟨rfl,r,rfl,hrn⟩:=z
 obtain⟨tb1,tb2⟩:=turn_back ok.n34 Pl.len hrn
 obtain⟨lb1,lb2⟩:=lead_back ok.n34 Pl.ld hrn
 obtain⟨hp,tp,k1,k2,k3⟩:=id hpC
 have a0:atI [V.ref hp,V.int (lead:Nat),V.ref tp] 0=some (V.ref hp):=rfl
 have a1:atI [V.ref hp,V.int (lead:Nat),V.ref tp] 1=some (V.int (lead:Nat)):=rfl
 have a2:atI [V.ref hp,V.int (lead:Nat),V.ref tp] 2=some (V.ref tp):=rfl
 have eS:((fx.n:Nat):Int) - ((r:Nat):Int)=((fx.n - r:Nat):Int):=by omega
 have hl:=Pl.len
 refine set_nm (fun v HD=>Same HC HD∧∃ th,v = .ref th∧HD th=some (.tup (vN (turnS fx.n r hs)))) (fun R hR=>?_) (fun v HD z=>?_)
 ·refine⟨_,rfl,p,_,_,_,rfl,rfl,SqT.of k1,a0,_,rfl,_,rfl,_,_,rfl,rfl,_,rfl,hp,_,rfl,k2,fun q1 H7' s7' hq1=>?_⟩
  refine⟨_,rfl,p,_,_,_,rfl,rfl,SqT.of (s7' _ _ k1),a0,_,rfl,_,rfl,_,_,rfl,rfl,_,rfl,hp,_,rfl,s7' _ _ k2,fun q2 H8' s8' hq2=>?_⟩
  rw[eS,vN_cut_from _ _ (by omega)] at hq1
  rw[eS,vN_cut_to _ _ (by omega)] at hq2
  refine⟨q1,q2,_,_,rfl,rfl,s8' _ _ hq1,hq2,Nat.le_trans (by rw[vN_len,vN_len,List.length_drop,List.length_take];omega) z1000,fun th H9' s9' hth=>hR _ _ ⟨(s7'.trans s8').trans s9',th,rfl,?_⟩⟩
  rw[hth,← tb2]
  unfold vN
  rw[List.map_append]
 obtain⟨sD,th,rfl,hthD⟩:=z
 have hpD:=hpC.same sD
 refine⟨_,rfl,_,rfl,p,fx,hs,lead,ys,m,r,rfl,ok,hpD,Pl,hrn,fun p5 HE' sE hp5'=>?_⟩
 have sCE:=sD.trans sE
 refine⟨_,rfl,_,rfl,p,_,_,_,rfl,rfl,SqT.of (sCE _ _ k1),a1,_,rfl,_,_,rfl,rfl,_,rfl,_,_,rfl,rfl,(by show(0:Int) < ((fx.n:Nat):Int);omega),_,rfl,p,_,_,_,rfl,rfl,SqT.of (sCE _ _ k1),a2,fits3 3 (by decide),fun p6 hp6=>?_⟩
 have a7:=same_upd hp6 (.tup [.ref th,.int ((((lead:Nat):Int)+((r:Nat):Int)) % ((fx.n:Nat):Int)),.ref tp])
 have eld:((((lead:Nat):Int)+((r:Nat):Int)) % ((fx.n:Nat):Int))=(((lead+r) % fx.n:Nat):Int):=by rw[Int.natCast_emod,Int.natCast_add]
 have i6:IsPl (upd HE' p6 (.tup [.ref th,.int ((((lead:Nat):Int)+((r:Nat):Int)) % ((fx.n:Nat):Int)),.ref tp])) p6 (turnS fx.n r hs) ((lead+r) % fx.n) ys:=⟨th,tp,by rw[upd_same,eld],a7 _ _ (sE _ _ hthD),a7 _ _ (sCE _ _ k3)⟩
 refine⟨p5,p6,rfl,rfl,deep_pl (hp5'.same a7) i6,_,rfl,iteF (nx_of ?_)⟩
 have sCF:=sCE.trans a7
 have hpF:=hpC.same sCF
 refine⟨_,rfl,_,rfl,p,fx,hs,lead,ys,m,r,rfl,ok,hpF,Pl,hrn,fun p7 HG sG hp7'=>?_⟩
 refine⟨_,rfl,_,rfl,_,_,rfl,rfl,_,rfl,_,_,rfl,rfl,(by show(0:Int) < ((fx.n:Nat):Int);omega),?_⟩
 have eB:(((fx.n:Nat):Int) - ((r:Nat):Int)) % ((fx.n:Nat):Int)=(((fx.n - r) % fx.n:Nat):Int):=by rw[eS,Int.natCast_emod]
 refine⟨p7,fx,turnS fx.n r hs,(lead+r) % fx.n,ys,m,(fx.n - r) % fx.n,(by show [V.ref p7,V.int ((((fx.n:Nat):Int) - ((r:Nat):Int)) % ((fx.n:Nat):Int))]=_;rw[eB]),ok,hp7',turn_plc ok hrn Pl,lb2,fun p8 HH sH hp8=>?_⟩
 rw[tb1,lb1] at hp8
 refine⟨_,rfl,p8,p,rfl,rfl,deep_pl hp8 (hpF.same (sG.trans sH)),_,rfl,iteF (nx_of ?_)⟩
 have sCH:=(sCF.trans sG).trans sH
 have hSH:=sCH.seq hSC
 refine set_nm (fun v H6=>HH=H6∧∃ side:Nat,v = .int (side:Nat)∧side < 2 ^ fx.n) (fun R hR=>⟨_,rfl,a,ns,211,rfl,hSH,h63,by decide,by decide,fun z=>⟨_,rfl,_,_,rfl,rfl,⟨by omega,by omega,by decide⟩,?_⟩⟩) (fun v H6 z=>?_)
 ·show rI (fun _ j=>0 < j) (fun i j=>V.int (i % j)) (V.int z) (V.int ((1:Int) * 2 ^ (((fx.n:Nat):Int)).toNat)) HH R
  rw[shl_nat]
  have p2:0 < 2 ^ fx.n:=Nat.two_pow_pos _
  have r0:=Int.emod_nonneg z (show((2 ^ fx.n:Nat):Int)≠0 by omega)
  have r1:=Int.emod_lt_of_pos z (show(0:Int) < ((2 ^ fx.n:Nat):Int) by omega)
  exact⟨_,_,rfl,rfl,(by show(0:Int) < ((2 ^ fx.n:Nat):Int);omega),hR _ _ ⟨rfl,(z % ((2 ^ fx.n:Nat):Int)).toNat,nat_v r0,by omega⟩⟩
 obtain⟨rfl,side,rfl,hsd⟩:=z
 refine set_nm (fun v H6=>Same HH H6∧v = .int ((orAll (sideL fx.n r side) 0:Nat):Int)) (fun R hR=>⟨_,rfl,((fx.n:Nat):Int),rfl,by omega,by omega,?_⟩) (fun v H6 z=>?_)
 ·refine comp_range (n:=fx.n) (lo:=0) side.testBit (fun j=>.int ((2 ^ ((j+r) % fx.n):Nat):Int)) (fits3 _ (by omega)) (fun j H3 hj sm R hR=>?_) (fun j H3 hj hp' sm R hR=>?_) (fun l3 H3 s3 hl3 hL3=>?_)
  ·refine⟨_,rfl,_,rfl,_,_,rfl,rfl,⟨by omega,by omega,by decide⟩,?_⟩
   show rI CDivW (fun i j=>V.int (i / j)) (V.int ((side:Nat):Int)) (V.int ((1:Int) * 2 ^ ((0:Int)+((j:Nat):Int)).toNat)) H3 _
   rw[Int.zero_add,Int.toNat_natCast]
   have e:(1:Int) * 2 ^ j=((2 ^ j:Nat):Int):=by rw[Int.one_mul,Int.natCast_pow];rfl
   rw[e]
   refine⟨_,_,rfl,rfl,wide_pow (by omega),_,_,rfl,rfl,(show(0:Int) < 2 by decide),rfl,_,rfl,?_⟩
   show R (decide (V.int (((side:Nat):Int) / ((2 ^ j:Nat):Int) % 2)=V.int 1)) H3
   rw[bit_div]
   exact hR H3 (Same.refl H3)
  ·refine⟨_,rfl,_,rfl,_,_,rfl,rfl,_,rfl,_,_,rfl,rfl,(by show(0:Int) < ((fx.n:Nat):Int);omega),?_⟩
   have e:((0:Int)+((j:Nat):Int)+((r:Nat):Int)) % ((fx.n:Nat):Int)=(((j+r) % fx.n:Nat):Int):=by rw[Int.zero_add,Int.natCast_emod,Int.natCast_add]
   have lt:=Nat.mod_lt (j+r) n0
   show rI CPow (fun i j=>V.int (i * 2 ^ j.toNat)) (V.int 1) (V.int (((0:Int)+((j:Nat):Int)+((r:Nat):Int)) % ((fx.n:Nat):Int))) H3 R
   rw[e]
   refine⟨_,_,rfl,rfl,⟨by omega,by omega,by decide⟩,?_⟩
   show R (V.int ((1:Int) * 2 ^ ((((j+r) % fx.n:Nat):Int)).toNat)) H3
   rw[shl_nat]
   exact hR H3 (Same.refl H3)
  ·have e:((List.range fx.n).filter side.testBit).map (fun j=>V.int ((2 ^ ((j+r) % fx.n):Nat):Int))=vN ((sideL fx.n r side).map fun c=>2 ^ c):=by
    unfold sideL vN
    rw[List.map_map,List.map_map]
    rfl
   rw[e,vN_ints] at hL3
   refine⟨l3,_,rfl,SqL.of hL3,hR _ _ ⟨s3,?_⟩⟩
   rw[sum_nat,hN_sum (side_nd ok.n34 hrn)]
   rfl
 obtain⟨s9',rfl⟩:=z
 refine⟨_,rfl,_,rfl,_,rfl,side,r,fx.n,rfl,n0,by omega,fun HI sI=>⟨_,rfl,rfl,_,rfl,?_⟩⟩
 refine chg (decide_eq_true rfl) (iteT ?_)
 refine⟨_,rfl,_,rfl,_,rfl,_,_,rfl,rfl,_,rfl,_,_,rfl,rfl,(by show(0:Int) < ((fx.n:Nat):Int);omega),_,rfl,orAll (sideL fx.n r side) 0,(fx.n - r) % fx.n,fx.n,?_,n0,by omega,fun HJ sJ=>⟨_,rfl,rfl,?_⟩⟩
 ·show [V.int ((orAll (sideL fx.n r side) 0:Nat):Int),V.int ((((fx.n:Nat):Int) - ((r:Nat):Int)) % ((fx.n:Nat):Int)),V.int ((fx.n:Nat):Int)]=_
  rw[eB]
 ·rw[side_back ok.n34 hrn hsd,decide_eq_true rfl]
  exact q HJ
end
end My
namespace My
open PySem L2
theorem all_mk{l:PySem.W.OpenLaw}{w:World}{K:PySem.W.Frag}{h:Heap}{mg:Str→Option Value}{fa f1 f2 f3 f4 f5 f6 f7 f8 f9 f10 f11 f12 f13 f14 f15 f16 f17 f18 f19 f20 f21 f22:Addr}(X:K.In h)(G:h.Ns mainGlobals mg)(hfa:mg "law" = some (.ref fa))
  {d1 d2 d3 d4 d5 d6 d7 d8 d9 d10 d11 d12 d13 d14 d15 d16 d17 d18 d19 d20 d21:FuncData} {od22 an22:Option Addr} {sl22:Array (Option Value)} {oc22 kV22 dc22 pm22 cd22 ct22:Value} {t1:Tok}
  (a1:PySem.W.nsIn K mainGlobals "cards_in" = some (some (.ref f1)))
  (a2:PySem.W.nsIn K mainGlobals "hand_of" = some (some (.ref f2)))
  (a3:PySem.W.nsIn K mainGlobals "has_seat" = some (some (.ref f3)))
  (a4:PySem.W.nsIn K mainGlobals "cards_turned" = some (some (.ref f4)))
  (a5:PySem.W.nsIn K mainGlobals "suits_turned" = some (some (.ref f5)))
  (a6:PySem.W.nsIn K mainGlobals "seats_turned" = some (some (.ref f6)))
  (a7:PySem.W.nsIn K mainGlobals "side_turned" = some (some (.ref f7)))
  (a8:PySem.W.nsIn K mainGlobals "_law_mixed" = some (some (.ref f8)))
  (a9:PySem.W.nsIn K mainGlobals "_law_order" = some (some (.ref f9)))
  (a10:PySem.W.nsIn K mainGlobals "_law_rules" = some (some (.ref f10)))
  (a11:PySem.W.nsIn K mainGlobals "_law_strength" = some (some (.ref f11)))
  (a12:PySem.W.nsIn K mainGlobals "_law_may" = some (some (.ref f12)))
  (a13:PySem.W.nsIn K mainGlobals "_law_turn" = some (some (.ref f13)))
  (a14:PySem.W.nsIn K mainGlobals "_law_put" = some (some (.ref f14)))
  (a15:PySem.W.nsIn K mainGlobals "_law_state" = some (some (.ref f15)))
  (a16:PySem.W.nsIn K mainGlobals "_law_place" = some (some (.ref f16)))
  (a17:PySem.W.nsIn K mainGlobals "_law_steps" = some (some (.ref f17)))
  (a18:PySem.W.nsIn K mainGlobals "_law_cards" = some (some (.ref f18)))
  (a19:PySem.W.nsIn K mainGlobals "_law_card" = some (some (.ref f19)))
  (a20:PySem.W.nsIn K mainGlobals "_law_hand" = some (some (.ref f20)))
  (a21:PySem.W.nsIn K mainGlobals "_law_suits" = some (some (.ref f21)))
  (a22:PySem.W.nsIn K mainGlobals "law" = some (some (.ref f22)))
  (l22:K.lookup f22=some ⟨oc22,od22,.func (PySem.W.fnOf "law" "law" (defArgs sLaw) (defBody sLaw) (defScope sLaw) .none kV22 dc22 pm22 an22 cd22 ct22),sl22⟩)
  (c22:PySem.W.codeIn K cd22 "law" = true)
  (k22:PySem.W.keepIn K (.ref f22)=true)
  (g1:PySem.W.nsIn K mainGlobals "HEIGHTS" = some (some (.int 8 t1)))
  (z1:PySem.W.nsIn K mainGlobals "len" = some none)
  (z2:PySem.W.nsIn K mainGlobals "range" = some none)
  (z3:PySem.W.nsIn K mainGlobals "list" = some none)
  (z4:PySem.W.nsIn K mainGlobals "tuple" = some none)
  (z5:PySem.W.nsIn K mainGlobals "sorted" = some none)
  (z6:PySem.W.nsIn K mainGlobals "sum" = some none)
  (z7:PySem.W.nsIn K mainGlobals "max" = some none)
  (z8:PySem.W.nsIn K mainGlobals "min" = some none)
  (F1:Fun K "cards_in" "cards_in" sCardsIn f1 d1)
  (F2:Fun K "hand_of" "hand_of" sHandOf f2 d2)
  (F3:Fun K "has_seat" "has_seat" sHasSeat f3 d3)
  (F4:Fun K "cards_turned" "cards_turned" sCardsT f4 d4)
  (F5:Fun K "suits_turned" "suits_turned" sSuitsT f5 d5)
  (F6:Fun K "seats_turned" "seats_turned" sSeatsT f6 d6)
  (F7:Fun K "side_turned" "side_turned" sSide f7 d7)
  (F8:Fun K "_law_mixed" "_law_mixed" sMixed f8 d8)
  (F9:Fun K "_law_order" "_law_order" sOrder f9 d9)
  (F10:Fun K "_law_rules" "_law_rules" sRules f10 d10)
  (F11:Fun K "_law_strength" "_law_strength" sRank f11 d11)
  (F12:Fun K "_law_may" "_law_may" sLMay f12 d12)
  (F13:Fun K "_law_turn" "_law_turn" sLTurn f13 d13)
  (F14:Fun K "_law_put" "_law_put" sLPut f14 d14)
  (F15:Fun K "_law_state" "_law_state" sLState f15 d15)
  (F16:Fun K "_law_place" "_law_place" sLPlace f16 d16)
  (F17:Fun K "_law_steps" "_law_steps" sSteps f17 d17)
  (F18:Fun K "_law_cards" "_law_cards" sLCards f18 d18)
  (F19:Fun K "_law_card" "_law_card" sLCard f19 d19)
  (F20:Fun K "_law_hand" "_law_hand" sLHandT f20 d20)
  (F21:Fun K "_law_suits" "_law_suits" sLSuits f21 d21)
  : ∃ fd:FuncData,(∀(s:Shared) (v:Value),BindsTo s fd ⟨[v],[]⟩ [("_law_script",v)])∧∀ base:Heap,K.In base→base.Ns mainGlobals mg→FnOk l.prog w K mg base CX0 20 fa fd ["_law_script"] (spLaw K):=by
 have e:=hfa.symm.trans (PySem.W.mg_of X G a22)
 cases e
 have k1:=F1.kp
 have b1:=F1.binds (ps:=["hand"]) fun _ _ _ _ _ _ us hl=>match us,hl with | [_],_=>rfl
 have m1:=PySem.W.mg_of X G a1
 have k2:=F2.kp
 have b2:=F2.binds (ps:=["cards"]) fun _ _ _ _ _ _ us hl=>match us,hl with | [_],_=>rfl
 have m2:=PySem.W.mg_of X G a2
 have k3:=F3.kp
 have b3:=F3.binds (ps:=["side","seat"]) fun _ _ _ _ _ _ us hl=>match us,hl with | [_,_],_=>rfl
 have m3:=PySem.W.mg_of X G a3
 have k4:=F4.kp
 have b4:=F4.binds (ps:=["cards","turn"]) fun _ _ _ _ _ _ us hl=>match us,hl with | [_,_],_=>rfl
 have m4:=PySem.W.mg_of X G a4
 have k5:=F5.kp
 have b5:=F5.binds (ps:=["place","turn"]) fun _ _ _ _ _ _ us hl=>match us,hl with | [_,_],_=>rfl
 have m5:=PySem.W.mg_of X G a5
 have k6:=F6.kp
 have b6:=F6.binds (ps:=["place","steps"]) fun _ _ _ _ _ _ us hl=>match us,hl with | [_,_],_=>rfl
 have m6:=PySem.W.mg_of X G a6
 have k7:=F7.kp
 have b7:=F7.binds (ps:=["side","steps","seats"]) fun _ _ _ _ _ _ us hl=>match us,hl with | [_,_,_],_=>rfl
 have m7:=PySem.W.mg_of X G a7
 have k8:=F8.kp
 have b8:=F8.binds (ps:=pMixed) fun _ _ _ _ _ _ us hl=>match us,hl with | [_,_],_=>rfl
 have m8:=PySem.W.mg_of X G a8
 have k9:=F9.kp
 have b9:=F9.binds (ps:=pOrder) fun _ _ _ _ _ _ us hl=>match us,hl with | [_,_,_],_=>rfl
 have m9:=PySem.W.mg_of X G a9
 have k10:=F10.kp
 have b10:=F10.binds (ps:=["_law_script","_law_most"]) fun _ _ _ _ _ _ us hl=>match us,hl with | [_,_],_=>rfl
 have m10:=PySem.W.mg_of X G a10
 have k11:=F11.kp
 have b11:=F11.binds (ps:=pRank) fun _ _ _ _ _ _ us hl=>match us,hl with | [_,_,_],_=>rfl
 have m11:=PySem.W.mg_of X G a11
 have k12:=F12.kp
 have b12:=F12.binds (ps:=pLMay) fun _ _ _ _ _ _ us hl=>match us,hl with | [_,_,_],_=>rfl
 have m12:=PySem.W.mg_of X G a12
 have k13:=F13.kp
 have b13:=F13.binds (ps:=pLTurn) fun _ _ _ _ _ _ us hl=>match us,hl with | [_],_=>rfl
 have m13:=PySem.W.mg_of X G a13
 have k14:=F14.kp
 have b14:=F14.binds (ps:=pLPut) fun _ _ _ _ _ _ us hl=>match us,hl with | [_,_,_],_=>rfl
 have m14:=PySem.W.mg_of X G a14
 have k15:=F15.kp
 have b15:=F15.binds (ps:=pLState) fun _ _ _ _ _ _ us hl=>match us,hl with | [_,_,_],_=>rfl
 have m15:=PySem.W.mg_of X G a15
 have k16:=F16.kp
 have b16:=F16.binds (ps:=["_law_state_here"]) fun _ _ _ _ _ _ us hl=>match us,hl with | [_],_=>rfl
 have m16:=PySem.W.mg_of X G a16
 have k17:=F17.kp
 have b17:=F17.binds (ps:=pSteps) fun _ _ _ _ _ _ us hl=>match us,hl with | [_,_],_=>rfl
 have m17:=PySem.W.mg_of X G a17
 have k18:=F18.kp
 have b18:=F18.binds (ps:=["_law_hand_here"]) fun _ _ _ _ _ _ us hl=>match us,hl with | [_],_=>rfl
 have m18:=PySem.W.mg_of X G a18
 have k19:=F19.kp
 have b19:=F19.binds (ps:=pLCard) fun _ _ _ _ _ _ us hl=>match us,hl with | [_,_],_=>rfl
 have m19:=PySem.W.mg_of X G a19
 have k20:=F20.kp
 have b20:=F20.binds (ps:=pLHandT) fun _ _ _ _ _ _ us hl=>match us,hl with | [_,_],_=>rfl
 have m20:=PySem.W.mg_of X G a20
 have k21:=F21.kp
 have b21:=F21.binds (ps:=pLSuits) fun _ _ _ _ _ _ us hl=>match us,hl with | [_,_],_=>rfl
 have m21:=PySem.W.mg_of X G a21
 have F22:=fun_mk (st:=sLaw) l22 c22 k22
 have m22:=PySem.W.mg_of X G a22
 have mg1:=PySem.W.mg_of X G g1
 have mn_len:=PySem.W.mg_none_of X G z1
 have mn_range:=PySem.W.mg_none_of X G z2
 have mn_list:=PySem.W.mg_none_of X G z3
 have mn_tuple:=PySem.W.mg_none_of X G z4
 have mn_sorted:=PySem.W.mg_none_of X G z5
 have mn_sum:=PySem.W.mg_none_of X G z6
 have mn_max:=PySem.W.mg_none_of X G z7
 have mn_min:=PySem.W.mg_none_of X G z8
 refine⟨PySem.W.fnOf "law" "law" (defArgs sLaw) (defBody sLaw) (defScope sLaw) .none kV22 dc22 pm22 an22 cd22 ct22,fun s v=>.of_eq rfl,fun base _ _=>?_⟩
 have LHs:∀ k,Lib l.prog w K mg base (k+1) "has_seat" ["side","seat"] spHasSeat f3 _:=fun k=>⟨ok_hasSeat F3,b3,k3,m3⟩
 have LH:∀ k,Lib l.prog w K mg base (k+1) "hand_of" ["cards"] (spHandOf K) f2 _:=fun k=>⟨ok_handOf F2,b2,k2,m2⟩
 have LI:∀ k,Lib l.prog w K mg base (k+1) "cards_in" ["hand"] (spCardsIn K) f1 _:=fun k=>⟨ok_cardsIn F1,b1,k1,m1⟩
 have LX:∀ k,Lib l.prog w K mg base (k+1) "_law_mixed" pMixed (spMixed K) f8 _:=fun k=>⟨ok_mixed F8 mn_len,b8,k8,m8⟩
 have LOr:∀ k,Lib l.prog w K mg base (k+2) "_law_order" pOrder (spOrder K) f9 _:=fun k=>⟨ok_order (k:=k+1) F9 (LX k) mn_range mn_sorted,b9,k9,m9⟩
 have LRu:∀ k,Lib l.prog w K mg base (k+3) "_law_rules" ["_law_script","_law_most"] (spRules K) f10 _:=fun k=>⟨ok_rules (k:=k+2) F10 (LX (k+1)) (LOr k) mn_max mn_min,b10,k10,m10⟩
 have LRk:∀ k,Lib l.prog w K mg base (k+1) "_law_strength" pRank spRank f11 _:=fun k=>⟨ok_rank F11,b11,k11,m11⟩
 have LMy:∀ k,Lib l.prog w K mg base (k+2) "_law_may" pLMay spLMay f12 _:=fun k=>⟨ok_lmay (k:=k+1) F12 (LRk k) mn_list mn_max,b12,k12,m12⟩
 have LTu:∀ k,Lib l.prog w K mg base (k+1) "_law_turn" pLTurn spLTurn f13 _:=fun k=>⟨ok_lturn F13 mn_len,b13,k13,m13⟩
 have LPu:∀ k,Lib l.prog w K mg base (k+2) "_law_put" pLPut spLPut f14 _:=fun k=>⟨ok_lput (k:=k+1) F14 (LTu k) (LRk k) mn_len mn_range mn_max,b14,k14,m14⟩
 have LPc:∀ k,Lib l.prog w K mg base (k+1) "_law_place" ["_law_state_here"] (spLPlace K) f16 _:=fun k=>⟨ok_lplace F16 mn_tuple mn_sum,b16,k16,m16⟩
 have LSt:∀ k,Lib l.prog w K mg base (k+3) "_law_state" pLState (spLState K) f15 _:=fun k=>⟨ok_lstate (k:=k+2) F15 (LX (k+1)) (LTu (k+1)) (LMy k) (LPu k) mn_len mn_range mn_min mn_sorted,b15,k15,m15⟩
 have LSp:∀ k,Lib l.prog w K mg base (k+2) "_law_steps" pSteps (spSteps K) f17 _:=fun k=>⟨ok_steps (k:=k+1) F17 (LX k) mn_max,b17,k17,m17⟩
 have LCl:∀ k,Lib l.prog w K mg base (k+1) "cards_turned" ["cards","turn"] (spCardsT K true) f4 _:=fun k=>⟨ok_cardsTL F4 mg1,b4,k4,m4⟩
 have LCt:∀ k,Lib l.prog w K mg base (k+1) "cards_turned" ["cards","turn"] (spCardsT K false) f4 _:=fun k=>⟨ok_cardsTT F4 mg1,b4,k4,m4⟩
 have LSu:∀ k,Lib l.prog w K mg base (k+2) "suits_turned" ["place","turn"] spSuitsT f5 _:=fun k=>⟨ok_suitsT (k:=k+1) F5 (LI k) (LH k) (LCl k) (LCt k) mn_tuple,b5,k5,m5⟩
 have LSe:∀ k,Lib l.prog w K mg base (k+1) "seats_turned" ["place","steps"] spSeatsT f6 _:=fun k=>⟨ok_seatsT F6 mn_len mn_range mn_tuple,b6,k6,m6⟩
 have LSi:∀ k,Lib l.prog w K mg base (k+2) "side_turned" ["side","steps","seats"] (spSide K) f7 _:=fun k=>⟨ok_side (k:=k+1) F7 (LH k) (LHs k) mn_range,b7,k7,m7⟩
 have LCs:∀ k,Lib l.prog w K mg base (k+1) "_law_cards" ["_law_hand_here"] spLCards f18 _:=fun k=>⟨ok_lcards F18 mn_range,b18,k18,m18⟩
 have LCd:∀ k,Lib l.prog w K mg base (k+1) "_law_card" pLCard spLCard f19 _:=fun k=>⟨ok_lcard F19,b19,k19,m19⟩
 have LHd:∀ k,Lib l.prog w K mg base (k+2) "_law_hand" pLHandT spLHandT f20 _:=fun k=>⟨ok_lhandT (k:=k+1) F20 (LCs k) (LCd k) mn_sum,b20,k20,m20⟩
 have LLs:∀ k,Lib l.prog w K mg base (k+3) "_law_suits" pLSuits spLSuits f21 _:=fun k=>⟨ok_lsuits (k:=k+2) F21 (LHd k) (LCd (k+1)) mn_tuple,b21,k21,m21⟩
 exact ok_law (k:=19) F22 (LX 18) (LRu 16) (LSt 16) (LSp 17) (LPc 18) (LSe 18) (LSi 17) (LSu 17) (LLs 16) (LOr 17) mn_list mn_range mn_sum
theorem walk{l:PySem.W.OpenLaw}{q:Program}{loose:List Str}{XP:(Str→Option Value)→Heap→Prop}{YP:World→Heap→Prop}{d:DefRec}{K:Params→PySem.W.Frag}(hn:l.most=some 63)(hdf:d.params.defaults=[])
  (hY:∀(w:World) (h:Heap),YP w h→(K w.params).In h)
  (F:∀(w:World) (mg:Str→Option Value) (fa:Addr) (h:Heap),(K w.params).In h→h.Ns mainGlobals mg→mg d.name=some (.ref fa) →
   ∃ fd:FuncData,(∀(s:Shared) (u:Value),BindsTo s fd ⟨[u],[]⟩ [("_law_script",u)])∧∀ base:Heap,(K w.params).In base→base.Ns mainGlobals mg→FnOk l.prog w (K w.params) mg base CX0 20 fa fd ["_law_script"] (spLaw (K w.params))) :
  PySem.W.WalkO q loose XP YP l.row.toRowW d [] (fun f vs=>PySem.call f vs):=
 L2.walk_of (n:=63) (k:=20) (x:="_law_script") (CX:=fun _=>CX0) (sp:=fun w=>spLaw (K w.params)) hn (by decide) hdf ⟨rfl,by decide,by decide⟩ hY F (fun _ _ a ns hl _ hS=>⟨a,ns,rfl,hS,hl,fun _=>rfl⟩) fun _ _ _ _ _ z=>z
end My
namespace PySem.W.Fast
def tw4853575979665722465:=0
def tw5307126122063878414:=0
def tw12815796950762177726:=0
def tw5137745481544730970:=0
def tw18140219384688598331:=0
def tw7497751068139494404:=0
def tw7211501744116992593:=0
def tw5927990357401188039:=0
def tw16462655070132448076:=0
def tw2383711897537153043:=0
def tw10382291494328333197:=0
def tw3671087558701096423:=0
def tw8656388084947614845:=0
def tw7419079033071502466:=0
def tw13549307205362411773:=0
def tw13280641642270464837:=0
def tw3580621987867324300:=0
def tw16361140684010848544:=0
def tw8731295692565606581:=0
def tw17284630177529009699:=0
def tw17764603816018702776:=0
def tw13018017683571404686:=0
def tw9619984721099381527:=0
def tw12737849177798665980:=0
def tw11986112268367477132:=0
def tw2579145053506867075:=0
def tw5655215650073960448:=0
def tw2751730524884484291:=0
def tw7784941838786437843:=0
def tw14686428728070644257:=0
def tw1877009115002192091:=0
def tw4580314954730296808:=0
def tw13852357574933573240:=0
def tw11124563762376033410:=0
def tw258141908565702560:=0
def tw7124570517750168450:=0
def tw17582033792090990227:=0
def tw9790950776837724788:=0
def tw17418502591626536588:=0
def tw14280482372494672115:=0
def tw1642602745435292386:=0
def tw7752358921226782232:=0
def tw9586797781036021645:=0
def tw6012248841083753653:=0
def tw5505295946775120046:=0
def tw17074915174771773072:=0
def tw8046167131230824551:=0
def tw397974739320661085:=0
def tw2654349324730078024:=0
def tw792314032362270429:=0
def tw16531673265696269853:=0
def tw12311898537897459840:=0
def tw16968268485803379024:=0
def tw2421556599923938387:=0
def tw4814572773445446039:=0
def tw8060064363081891864:=0
def tw10773400520911805416:=0
def tw16458130139510307478:=0
def tw4214114741722502989:=0
def tw14708191638910669573:=0
def tw18364364602388670264:=0
def tw9660020338372230745:=0
def tw4741293652022621780:=0
def tw5659182598058438322:=0
def tw602616304056041791:=0
def tw16930977217053363408:=0
def tw8742994363971253342:=0
def tw9813776722869995370:=0
def tw4349118411235924868:=0
def tw5933994284105415868:=0
def tw7909187538326290016:=0
def tw12365803525804844018:=0
def tw16291822224712551781:=0
def tw11982992867203413886:=0
def tw12846671626848692357:=0
def tw1258827930316137069:=0
def tw11018144017101318491:=0
def tw13597728276409722860:=0
def tw6696429283609617949:=0
def tw15746815996991007884:=0
def tw3415270221763048278:=0
def tw192351906631779753:=0
def tw14028580552067072629:=0
def tw5955920174699355065:=0
def tw6289882869124244966:=0
def tw17912262095708546976:=0
def tw5855691054239747793:=0
def tw5044253248636132300:=0
def tw15269704874272338515:=0
def tw13660467468559286692:=0
def tw2812350761619599652:=0
def tw7284706990121374737:=0
def tw2884285139007207365:=0
def tw16188824961653220615:=0
def tw5842801039468656903:=0
def tw10423786177009551516:=0
def tw12834210321750698704:=0
def tw6898543330106933609:=0
def tw2029338130014009147:=0
def tw2028611387592640330:=0
def tw948367963053336536:=0
def tw2783251240355378281:=0
def tw4444423424027022049:=0
def tw14225007942305793778:=0
def tw8590488183638381383:=0
def tw17069612847861828483:=0
def tw3653611608877097832:=0
def tw12012966320724300869:=0
def tw6693261559643296639:=0
def tw7065446145108380644:=0
def tw12443908131771922787:=0
def tw10776130625981608502:=0
def tw4215997455133950904:=0
def tw8467264058800887501:=0
def tw3275442452249824723:=0
def tw4329017623444142444:=0
def tw116013988584158518:=0
def tw17632076967380224511:=0
def tw933481493956850845:=0
def tw6740132493772227144:=0
def tw1353282373596098670:=0
def tw5910419322875317613:=0
def tw14534693317900905590:=0
end PySem.W.Fast
open PySem PySem.W PyProof.Rows
set_option maxRecDepth 100000 in
set_option maxHeartbeats 0 in
theorem PySem.Challenge.cw_trickproof_k31_places_turned_holds : PySem.Challenge.rw_trickproof_k31_places_turned.Holds := by
 w_on;o_law;k_head;(case hw=>w_witness2)
 k_fill
 refine My.walk (l:=PySem.Challenge.rw_trickproof_k31_places_turned) rfl rfl (fun w h Y=>PySem.W.kIn_of Y) ?F
 case F=>
  intro w mg fa h KX G hmg
  refine' My.all_mk KX G hmg ?_ ?_ ?_ ?_ ?_ ?_ ?_ ?_ ?_ ?_ ?_ ?_ ?_ ?_ ?_ ?_ ?_ ?_ ?_ ?_ ?_ ?_ ?_ ?_ ?_ ?_ ?_ ?_ ?_ ?_ ?_ ?_ ?_ ?_ ?_ ?_ ?_ ?_ ?_ ?_ ?_ ?_ ?_ ?_ ?_ ?_ ?_ ?_ ?_ ?_ ?_ ?_ ?_ ?_ ?_
  rotate_left 53
  iterate 34 k_is
  iterate 21 (refine' L2.fun_mk ?_ ?_ ?_;rotate_left 9;iterate 3 k_is)
#print axioms PySem.Challenge.cw_trickproof_k31_places_turned_holds
