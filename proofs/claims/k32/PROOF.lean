import PyProof.Rows.All
import Wide.All
import OpenK.AllK
import Wide.FinOn
import Lean
import PyProof.EqAt
import PyProof.EqKinds
import PyProof.TupleCall
import PyProof.NeKinds
import PyProof.ListStr
import PyProof.Rows.SortStr
import KE.KIntText
import PySem.Challenge.RW_trickproof_k32_alike_moves
set_option Elab.async false
set_option linter.all false
set_option maxRecDepth 100000
namespace L2
open PySem PySem.Spec PyProof.Rows
abbrev Key:=Sum Int Str
def keyIs:Key→Value→Bool
 | .inl k,v=>Value.isInt k v
 | .inr x,v=>Value.isStrOf x v
def keyH(w:World):Key→Int
 | .inl k=>hashInt k
 | .inr x=>hashStr w x
theorem keyIs_shape:∀{k:Key} {v:Value},keyIs k v=true→(∃ i t,k=Sum.inl i∧v=Value.int i t)∨(∃ x t,k=Sum.inr x∧v=Value.str x t)
 | .inl i,v,h=>by
  obtain⟨t,e⟩:=Value.isInt_shape (k:=i) (v:=v) h
  exact .inl ⟨i,t,rfl,e⟩
 | .inr x,v,h=>by
  obtain⟨t,e⟩:=Value.isStrOf_shape (x:=x) (v:=v) h
  exact .inr ⟨x,t,rfl,e⟩
theorem key_ll(a b:Int):decide ((Sum.inl a:Key)=Sum.inl b)=(a == b):=by
 by_cases e:a=b
 ·subst e;simp
 ·have h:¬ (Sum.inl a:Key)=Sum.inl b:=fun q=>e (Sum.inl.inj q)
  rw[decide_eq_false h]
  exact(beq_eq_false_iff_ne.mpr e).symm
theorem key_rr(a b:Str):decide ((Sum.inr a:Key)=Sum.inr b)=decide (a=b):=by
 by_cases e:a=b
 ·subst e;simp
 ·have h:¬ (Sum.inr a:Key)=Sum.inr b:=fun q=>e (Sum.inr.inj q)
  rw[decide_eq_false h,decide_eq_false e]
theorem key_lr(a:Int)(b:Str):decide ((Sum.inl a:Key)=Sum.inr b)=false:=decide_eq_false (fun q=>nomatch q)
theorem key_rl(a:Str)(b:Int):decide ((Sum.inr a:Key)=Sum.inl b)=false:=decide_eq_false (fun q=>nomatch q)
def mixKind(prog:Program)(w:World):PySem.KeyKind prog w Key where
 is:=keyIs
 hash:=keyH w
 inj:=fun v a b ha hb=>by
  rcases keyIs_shape ha with⟨i,t,rfl,rfl⟩ | ⟨x,t,rfl,rfl⟩
  ·rcases keyIs_shape hb with⟨j,u,rfl,e⟩ | ⟨y,u,rfl,e⟩
   ·injection e with e1 _;rw[e1]
   ·exact nomatch e
  ·rcases keyIs_shape hb with⟨j,u,rfl,e⟩ | ⟨y,u,rfl,e⟩
   ·exact nomatch e
   ·injection e with e1 _;rw[e1]
 byValue:=fun k v h=>by
  rcases keyIs_shape h with⟨i,t,rfl,rfl⟩ | ⟨x,t,rfl,rfl⟩<;>rfl
 pyHash:=fun hv h=>by
  rcases keyIs_shape hv with⟨i,t,rfl,rfl⟩ | ⟨x,t,rfl,rfl⟩
  ·exact wpAny_pyHash_int h
  ·exact wpAny_pyHash_str h
 eqBool:=fun hu hv h=>by
  rcases keyIs_shape hu with⟨i,t,rfl,rfl⟩ | ⟨x,t,rfl,rfl⟩
  ·rcases keyIs_shape hv with⟨j,u,rfl,rfl⟩ | ⟨y,u,rfl,rfl⟩
   ·rw[key_ll] at h;exact wpAny_eqBool_int h
   ·rw[key_lr] at h;exact SeqAt.EqAt.int_str i t y u _ _ _ _ h
  ·rcases keyIs_shape hv with⟨j,u,rfl,rfl⟩ | ⟨y,u,rfl,rfl⟩
   ·rw[key_rl] at h;exact SeqAt.EqAt.str_int x t j u _ _ _ _ h
   ·rw[key_rr] at h;exact wpAny_eqBool_str h
 «strs»:=fun k x t v h=>by
  rcases keyIs_shape h with⟨i,u,rfl,e⟩ | ⟨y,u,rfl,e⟩
  ·exact nomatch e
  ·injection e with e1 _
   subst e1
   cases v<;>rfl
end L2
namespace L2
open PySem PySem.Spec PyProof.Rows
inductive V where
 | non | bl (b:Bool) | int (i:Int) | str (x:Str) | byt (b:Array UInt8) | flt (b:UInt64) | ref (a:Addr) | ty (n:String)
 deriving DecidableEq
def RelV:V→Value→Prop
 | .non,u=>u=Value.none
 | .bl b,u=>u=Value.bool b
 | .int i,u=>∃ t,u=Value.int i t
 | .str x,u=>∃ t,u=Value.str x t
 | .byt b,u=>∃ t,u=Value.bytes b t
 | .flt b,u=>∃ t,u=Value.float b t
 | .ref a,u=>u=Value.ref a
 | .ty n,u=>u=Value.type n
abbrev Vals:List V→List Value→Prop:=Paired RelV
theorem Vals.length{xs:List V}{us:List Value}(r:Vals xs us):xs.length=us.length:=Paired.length r
theorem Vals.get:∀{xs:List V} {us:List Value} {i:Nat} {x:V},Vals xs us→xs[i]? = some x→∃ u,us[i]? = some u∧RelV x u
 | _,_,_,_,.nil,e=>by simp at e
 | _,_,0,_,.cons r _,e=>by simp at e;subst e;exact⟨_,rfl,r⟩
 | _,_,i+1,x,.cons _ t,e=>by
  obtain⟨u,h1,h2⟩:=Vals.get (i:=i) (x:=x) t (by simpa using e)
  exact⟨u,by simpa using h1,h2⟩
theorem Vals.append:∀{xs ys:List V} {us ws:List Value},Vals xs us→Vals ys ws→Vals (xs++ys) (us++ws)
 | _,_,_,_,.nil,s=>s
 | _,_,_,_,.cons r t,s=>.cons r (Vals.append t s)
theorem Vals.take:∀{xs:List V} {us:List Value} (n:Nat),Vals xs us→Vals (xs.take n) (us.take n)
 | _,_,0,_=>.nil
 | _,_,_+1,.nil=>.nil
 | _,_,n+1,.cons r t=>.cons r (Vals.take n t)
theorem Vals.drop:∀{xs:List V} {us:List Value} (n:Nat),Vals xs us→Vals (xs.drop n) (us.drop n)
 | _,_,0,r=>r
 | _,_,_+1,.nil=>.nil
 | _,_,n+1,.cons _ t=>Vals.drop n t
def RelO:Option V→Option Value→Prop
 | some v,some u=>RelV v u
 | none,none=>True
 | _,_=>False
def KV{κ:Type}:List (κ×V)→List (κ×Value)→Prop:=Paired fun(p:κ×V) (q:κ×Value)=>p.1=q.1∧RelV p.2 q.2
def kV:Key→V
 | .inl i=>.int i
 | .inr x=>.str x
inductive HO where
 | lst (xs:List V)
 | tup (xs:List V)
 | dK (kvs:List (Key×V)) | dT (kvs:List (List Key×V))
 | set (S:Int→Bool) (n:Nat)
 | ins (C dx:Addr) (fs:List (Str×V))
 | own (x:Addr)
 | xd (fs:List (Str×V))
 | met (f x:Addr)
 | rng (lo hi:Int)
 | frz (o:Obj) (u:HO)
 | tbl (ps:Array Value)
 | ext (φ:Heap→Prop)
abbrev Hp:=Addr→Option HO
def upd(H:Hp)(a:Addr)(o:HO):Hp:=fun b=>if b=a then some o else H b
theorem upd_same{H:Hp}{a:Addr}{o:HO}:upd H a o a=some o:=by unfold upd;rw[if_pos rfl]
theorem upd_ne{H:Hp}{a b:Addr}{o:HO}(h:b≠a):upd H a o b=H b:=by unfold upd;rw[if_neg h]
theorem upd_upd{H:Hp}{a:Addr}{o u:HO}:upd (upd H a o) a u=upd H a u:=by
 funext b;unfold upd;split<;>rfl
theorem ne_of{H:Hp}{a b:Addr}{o u:HO}(h:H a=some o)(h':H b=some u)(d:o≠u):a≠b:=by
 intro e;subst e;rw[h] at h';exact d (Option.some.inj h')
theorem ne_of_none{H:Hp}{a b:Addr}{o:HO}(h:H a=some o)(h':H b=none):a≠b:=by
 intro e;subst e;rw[h] at h';cases h'
section
variable(P:Program)(w:World)
def ObjOk(H:Hp)(h:Heap)(a:Addr):HO→Prop
 | .lst xs=>xs.length≤sizeLine∧∃(its:List Value) (n:Nat),Vals xs its∧h.get? a=some { cls:=.type "list",data:=.seq its.toArray n }
 | .tup xs=>xs.length≤sizeLine∧∃ its:List Value,Vals xs its∧IsTup h a its.toArray
 | .dK kvs=>kvs.length≤sizeLine∧(a == sysModules)=false∧∃ vs,KV kvs vs∧h.DictOf (mixKind P w) a vs
 | .dT kvs=>kvs.length≤sizeLine∧(a == sysModules)=false∧∃ xs:List (List Key×Addr×Value),
   Paired (fun(p:List Key×V) (q:List Key×Addr×Value)=>p.1=q.1∧H q.2.1=some (.tup (p.1.map kV))∧RelV p.2 q.2.2) kvs xs ∧
   ∃ o es ep,h.get? a=some o∧o.ExactDict∧o.data = .dict es ep∧es.toList=xs.map (entryOfKey (tupleKind (mixKind P w)))∧(xs.map (·.1)).Nodup
 | .set S n=>h.SetOf (intKind P w) a S n
 | .ins C dx fs=>H dx=some (.own a)∧fs.length≤1000∧dx≠a∧h.get? a=some (PySem.W.instObj C dx) ∧
   ∃ mA,h.Ns1 dx mA∧(∀ f,RelO (fs.lookup f) (mA f))∧PySem.Within mA (fs.map (·.1))
 | .own _=>∃ o,h.get? a=some o
 | .xd fs=>∃ mA,h.Ns1 a mA∧∀ f,RelO (fs.lookup f) (mA f)
 | .rng lo hi=>∃ t u v,h.get? a=some { cls:=.type "range",data:=.fields #[.int lo t,.int hi u,.int 1 v] }
 | .frz o u=>h.get? a=some o∧ObjOk H h a u
 | .tbl ps=>h.get? a=some { cls:=.none,data:=.fields ps }
 | .met f x=>h.get? a=some (PySem.W.methodObj (.ref f) (.ref x))
 | .ext φ=>φ h∧(∃ o,h.get? a=some o)∧∀ h1 h2:Heap,φ h1→(∀ o,h1.get? a=some o→h2.get? a=some o)→φ h2
def HOk(H:Hp)(h:Heap):Prop:=∀ a o,H a=some o→ObjOk P w H h a o
end
section
variable{P:Program}{w:World}{H H':Hp}{h h':Heap}{a:Addr}{o:HO}
theorem ObjOk.lt(x:ObjOk P w H h a o):a < h.objs.size:=by
 cases o with
 | lst xs=>obtain⟨_,_,_,_,e⟩:=x;exact Heap.lt_size e
 | tup xs=>obtain⟨_,_,_,p⟩:=x;exact p.lt
 | dK kvs=>obtain⟨_,_,_,_,o,_,_,e,_⟩:=x;exact Heap.lt_size e
 | dT kvs=>obtain⟨_,_,_,_,o,_,_,e,_⟩:=x;exact Heap.lt_size e
 | set S n=>obtain⟨o,_,_,_,e,_⟩:=x;exact Heap.lt_size e
 | ins C dx fs=>obtain⟨_,_,_,e,_⟩:=x;exact Heap.lt_size e
 | own y=>obtain⟨_,e⟩:=x;exact Heap.lt_size e
 | xd fs=>obtain⟨_,⟨_,_,_,e,_⟩,_⟩:=x;exact Heap.lt_size e
 | rng lo hi=>obtain⟨_,_,_,e⟩:=x;exact Heap.lt_size e
 | frz ob u=>obtain⟨e,_⟩:=x;exact Heap.lt_size e
 | tbl ps=>exact Heap.lt_size (show h.get? a=some _ from x)
 | met f y=>exact Heap.lt_size (show h.get? a=some _ from x)
 | ext φ=>obtain⟨_,⟨_,e⟩,_⟩:=x;exact Heap.lt_size e
theorem Paired.mapP{α β:Type}{F G:α→β→Prop}:∀{l₁:List α} {l₂:List β},Paired F l₁ l₂→(∀ a b,F a b→G a b)→Paired G l₁ l₂
 | _,_,.nil,_=>.nil
 | _,_,.cons r t,f=>.cons (f _ _ r) (Paired.mapP t f)
theorem ObjOk.stay(x:ObjOk P w H h a o)(k:∀ b u,(b=a∨H b=some (.own a))→h.get? b=some u→h'.get? b=some u)
  (ho:∀ b,H b=some (.own a)→H' b=some (.own a)) (ht:∀ b xs,H b=some (.tup xs)→H' b=some (.tup xs)):ObjOk P w H' h' a o:=by
 induction o with
 | lst xs=>obtain⟨z,its,n,r,e⟩:=x;exact⟨z,its,n,r,k _ _ (.inl rfl) e⟩
 | tup xs=>obtain⟨z,its,r,ob,e,c⟩:=x;exact⟨z,its,r,ob,k _ _ (.inl rfl) e,c⟩
 | dK kvs=>obtain⟨z,y,vs,r,ob,es,ep,e,c⟩:=x;exact⟨z,y,vs,r,ob,es,ep,k _ _ (.inl rfl) e,c⟩
 | dT kvs=>
  obtain⟨z,y,xs,r,ob,es,ep,e,c⟩:=x
  exact⟨z,y,xs,Paired.mapP r fun p q z=>⟨z.1,ht _ _ z.2.1,z.2.2⟩,ob,es,ep,k _ _ (.inl rfl) e,c⟩
 | set S n=>obtain⟨ob,es,ep,t,e,c⟩:=x;exact⟨ob,es,ep,t,k _ _ (.inl rfl) e,c⟩
 | ins C dx fs=>
  obtain⟨d,z,ne,e,mA,⟨od,es,ep,e2,c⟩,r⟩:=x
  exact⟨ho _ d,z,ne,k _ _ (.inl rfl) e,mA,⟨od,es,ep,k _ _ (.inr d) e2,c⟩,r⟩
 | own y=>obtain⟨ob,e⟩:=x;exact⟨ob,k _ _ (.inl rfl) e⟩
 | xd fs=>obtain⟨mA,⟨od,es,ep,e,c⟩,r⟩:=x;exact⟨mA,⟨od,es,ep,k _ _ (.inl rfl) e,c⟩,r⟩
 | rng lo hi=>obtain⟨t,u,v,e⟩:=x;exact⟨t,u,v,k _ _ (.inl rfl) e⟩
 | frz ob u ih=>obtain⟨e,q⟩:=x;exact⟨k _ _ (.inl rfl) e,ih q⟩
 | tbl ps=>
  have e:h.get? a=some { cls:=.none,data:=.fields ps }:=x
  show h'.get? a=some { cls:=.none,data:=.fields ps }
  exact k a _ (.inl rfl) e
 | met f y=>
  have e:h.get? a=some (PySem.W.methodObj (.ref f) (.ref y)):=x
  show h'.get? a=some (PySem.W.methodObj (.ref f) (.ref y))
  exact k a _ (.inl rfl) e
 | ext φ=>obtain⟨p,⟨o,e⟩,st⟩:=x;exact⟨st _ _ p fun o q=>k _ _ (.inl rfl) q,⟨o,k _ _ (.inl rfl) e⟩,st⟩
theorem HOk.lt(x:HOk P w H h)(e:H a=some o):a < h.objs.size:=(x a o e).lt
theorem HOk.fresh(x:HOk P w H h)(e:h.objs.size≤a):H a=none:=by
 cases q:H a with
 | none=>rfl
 | some u=>exact absurd (Nat.lt_of_lt_of_le (x.lt q) e) (Nat.lt_irrefl _)
theorem HOk.kept(x:HOk P w H h)(k:∀ b u,h.get? b=some u→h'.get? b=some u):HOk P w H h':=fun a o e=>
 (x a o e).stay (fun b u _ q=>k b u q) (fun _ q=>q) fun _ _ q=>q
theorem HOk.laid(x:HOk P w H h)(k:∀ b u,h.get? b=some u→h'.get? b=some u)(hp:h.objs.size≤a)(new:ObjOk P w (upd H a o) h' a o):HOk P w (upd H a o) h':=fun b u e=>by
 have hn:=x.fresh hp
 by_cases hb:b=a
 ·subst hb;rw[upd_same] at e;cases e;exact new
 ·rw[upd_ne hb] at e
  exact(x b u e).stay (fun c v _ q=>k c v q) (fun c q=>by rw[upd_ne (ne_of_none q hn)];exact q) fun c xs q=>by rw[upd_ne (ne_of_none q hn)];exact q
end
def Rd(H:Hp)(a:Addr)(u:HO):Prop:=H a=some u∨∃ o,H a=some (.frz o u)
theorem Rd.ok{P:Program}{w:World}{H:Hp}{h:Heap}{a:Addr}{u:HO}(r:Rd H a u)(x:HOk P w H h):ObjOk P w H h a u:=by
 rcases r with r | ⟨o,r⟩
 ·exact x a u r
 ·obtain⟨_,q⟩:=x a _ r
  exact q
def Mut:Option HO→Prop
 | some (.lst _)=>True
 | some (.dK _)=>True
 | some (.dT _)=>True
 | some (.set _ _)=>True
 | some (.ins _ _ _)=>True
 | some (.ext _)=>True
 | _=>False
section
variable{P:Program}{w:World}{H:Hp}{h h':Heap}{x e:Addr}{o':HO}
theorem HOk.write(ok:HOk P w H h)(mu:Mut (H x))(he:e=x∨H e=some (.own x))(k:∀ b u,b≠e→h.get? b=some u→h'.get? b=some u)(heo:∃ u,h'.get? e=some u)
  (new:ObjOk P w (upd H x o') h' x o'):HOk P w (upd H x o') h':=fun b u q=>by
 have nown:∀ c y,H c=some (.own y)→c≠x:=fun c y r z=>by subst z;rw[r] at mu;exact mu
 have ntup:∀ c xs,H c=some (.tup xs)→c≠x:=fun c xs r z=>by subst z;rw[r] at mu;exact mu
 by_cases hb:b=x
 ·subst hb;rw[upd_same] at q;cases q;exact new
 ·rw[upd_ne hb] at q
  by_cases hbe:b=e
  ·have q':H b=some (.own x):=by
    rcases he with z | z
    ·exact absurd (hbe.trans z) hb
    ·rw[hbe];exact z
   rw[q] at q';cases q'
   obtain⟨v,hv⟩:=heo
   exact⟨v,by rw[hbe];exact hv⟩
  ·refine(ok b u q).stay (fun c v hc r=>k c v ?_ r) (fun c r=>by rw[upd_ne (nown c b r)];exact r) fun c xs r=>by rw[upd_ne (ntup c xs r)];exact r
   rcases hc with rfl | hc
   ·exact hbe
   ·rintro rfl
    rcases he with z | z
    ·exact nown c b hc z
    ·rw[hc] at z;cases z;exact hb rfl
end
structure Un(fs ex:List Addr)(H H':Hp)(h h':Heap):Prop where
 keep:∀ b o,h.get? b=some o→H b=none→b∉fs→b∉ex→h'.get? b=some o
 slot:∀ b o,h.get? b=some o→H b=none→b∈fs→b∉ex→∃ sl,h'.get? b=some { o with slots:=sl }
 free:∀ b o,h.get? b=some o→H b=none→b∉ex→H' b=none
 there:∀ b o,h.get? b=some o→b∉ex→∃ o',h'.get? b=some o'
 tups:∀ b xs,H b=some (.tup xs)→H' b=some (.tup xs)
 frzs:∀ b o u,H b=some (.frz o u)→H' b=some (.frz o u)
 tbls:∀ b ps,H b=some (.tbl ps)→∃ more,H' b=some (.tbl (ps++more))
section
variable{fs fs' ex ex':List Addr}{H H1 H2:Hp}{h h1 h2 h':Heap}{a x e:Addr}{o:HO}
theorem Un.any(u:Un fs ex H H1 h h1){b:Addr}{ob:Obj}(q:h.get? b=some ob)(n:H b=none)(hx:b∉ex):∃ sl,h1.get? b=some { ob with slots:=sl }:=by
 by_cases hb:b∈fs
 ·exact u.slot b ob q n hb hx
 ·exact⟨ob.slots,u.keep b ob q n hb hx⟩
theorem Un.kept(k:∀ b u,h.get? b=some u→h'.get? b=some u):Un fs ex H H h h':=
 ⟨fun b ob q _ _ _=>k b ob q,fun b ob q _ _ _=>⟨ob.slots,k b ob q⟩,fun _ _ _ n _=>n,fun b ob q _=>⟨ob,k b ob q⟩,fun _ _ q=>q,fun _ _ _ q=>q,fun _ ps q=>⟨#[],by rw[q];simp⟩⟩
theorem Un.refl:Un fs ex H H h h:=Un.kept fun _ _ q=>q
theorem Un.laid(k:∀ b u,h.get? b=some u→h'.get? b=some u)(hp:h.objs.size≤a)(hn:H a=none):Un fs ex H (upd H a o) h h' where
 keep:=fun b u q _ _ _=>k b u q
 slot:=fun b u q _ _ _=>⟨u.slots,k b u q⟩
 free:=fun b u q n _=>by rw[upd_ne (Nat.ne_of_lt (Nat.lt_of_lt_of_le (Heap.lt_size q) hp))];exact n
 there:=fun b u q _=>⟨u,k b u q⟩
 tups:=fun b xs q=>by rw[upd_ne (ne_of_none q hn)];exact q
 frzs:=fun b u xs q=>by rw[upd_ne (ne_of_none q hn)];exact q
 tbls:=fun b ps q=>⟨#[],by rw[upd_ne (ne_of_none q hn),q];simp⟩
theorem Un.write(mu:Mut (H x))(he:e=x∨H e=some (.own x))(k:∀ b u,b≠e→h.get? b=some u→h'.get? b=some u)(heo:∃ u,h'.get? e=some u):Un fs ex H (upd H x o) h h':=by
 have hx:∀ b,H b=none→b≠x:=fun b n z=>by subst z;rw[n] at mu;exact mu
 have hb:∀ b,H b=none→b≠e:=fun b n z=>by
  subst z
  rcases he with r | r
  ·exact hx b n r
  ·rw[n] at r;cases r
 have hm:∀ b u,H b=some u→¬ Mut (some u)→b≠x:=fun b u q nm z=>by subst z;rw[q] at mu;exact nm mu
 refine⟨fun b u q n _ _=>k b u (hb b n) q,fun b u q n _ _=>⟨u.slots,k b u (hb b n) q⟩,fun b u q n _=>by rw[upd_ne (hx b n)];exact n,fun b u q _=>?_,
  fun b xs q=>by rw[upd_ne (hm b _ q fun z=>z)];exact q,fun b u xs q=>by rw[upd_ne (hm b _ q fun z=>z)];exact q,fun b ps q=>⟨#[],by rw[upd_ne (hm b _ q fun z=>z),q];simp⟩⟩
 by_cases hbe:b=e
 ·subst hbe;exact heo
 ·exact⟨u,k b u hbe q⟩
end
def trk(h:Heap)(H:Hp):List Addr:=(List.range h.objs.size).filter fun a=>(H a).isSome
def hidT(h:Heap)(H:Hp):Heap:=PySem.W.hideAll h (trk h H)
theorem hidT_size(h:Heap)(H:Hp):(hidT h H).objs.size=h.objs.size:=PySem.W.hideAll_size _ _
theorem hidT_get{h:Heap}{H:Hp}{b:Addr}{o:Obj}(e:h.get? b=some o)(n:H b=none):(hidT h H).get? b=some o:=
 PySem.W.hideAll_get _ e fun hm=>by
  have q:(H b).isSome=true:=(List.mem_filter.mp hm).2
  rw[n] at q;simp at q
theorem of_hidT{h:Heap}{H:Hp}{b:Addr}{o:Obj}(e:(hidT h H).get? b=some o):h.get? b=some o∧H b=none:=by
 have e':h.get? b=some o:=PySem.W.of_hideAll (trk h H) e
 refine⟨e',?_⟩
 cases q:H b with
 | none=>rfl
 | some x=>
  have hm:b∈trk h H:=List.mem_filter.mpr ⟨List.mem_range.mpr (Heap.lt_size e'),by simp [q]⟩
  have z:(hidT h H).get? b=none:=PySem.W.hideAll_none (trk h H) hm
  rw[z] at e;cases e
def allNews(g h:Heap)(L:Addr):List (Addr×Obj):=(List.range h.objs.size).filterMap fun a=>if a=L∨(g.get? a).isSome=true then none else(h.get? a).map fun o=>(a,o)
def rest(g h:Heap)(L d:Addr):List (Addr×Obj):=(allNews g h L).filter fun p=>decide (p.1≠d)
end L2
namespace L2
open PySem PySem.Spec PyProof.Rows
structure Mod(K:PySem.W.Frag)(mg:Str→Option Value)(base:Heap):Prop where
 kin:K.In base
 glob:base.Ns mainGlobals mg
 blt:∃ mb,base.Ns builtinsNs mb∧∀ x:Str,x≠"__name__"→mb x=bootBuiltins x
 nolimit:base.NoLimit
structure Cx where
 prog:Program
 w:World
 K:PySem.W.Frag
 mg:Str→Option Value
 base:Heap
 A:Around
 N:List Str
 s₀:Shared
 H₀:Hp
 env:Env
 outer:List Env
 stack:List Env
 ex:List Addr
 fn:Str→Bool
 calm:Bool
 pn:List (Addr×Obj)
 xe:Value→Shared→Prop
def frs(l:List Env):List Addr:=l.filterMap (·.frame)
abbrev Cx.fs(X:Cx):List Addr:=frs X.outer
def Vis(sc:Scope)(x:Str):Prop:=sc.names.lookup x=some .local∨sc.names.lookup x=some .cell∨sc.names.lookup x=some .free
def Loc(sc:Scope)(x:Str):Prop:=sc.names.lookup x=some .local∨sc.names.lookup x=some .cell
def Look(env:Env)(h:Heap)(m:Str→Option Value)(x:Str)(u:Value):Prop:=
 (env.kindOf x=some .local∧m x=some u)∨((env.kindOf x=some .cell∨env.kindOf x=some .free)∧∃ c,env.cells.lookup x=some c∧h.IsCell c (some u))
structure Cx.Ok(X:Cx):Prop where
 mod:Mod X.K X.mg X.base
 kind:X.env.scope.kind = .function
 glob:X.env.globals=mainGlobals
 blt:X.env.builtins=builtinsNs
 above:X.s₀.heap.objs.size≤X.env.locals
 inj:∀ x y c,X.env.cells.lookup x=some c→X.env.cells.lookup y=some c→x=y
 has:∀ x,(X.env.kindOf x=some .cell∨X.env.kindOf x=some .free)→∃ c,X.env.cells.lookup x=some c
 cab:∀ x c,X.fn x=true→X.env.cells.lookup x=some c→X.s₀.heap.objs.size≤c
 hd:X.calm=true→X.A.handled=none
 frames:X.A.frames=some X.stack
 stk:X.stack=X.outer∨(X.stack=X.env :: X.outer∧X.env.frame=some X.env.locals)
 exf:∀ b∈X.ex,b≠X.env.locals∧∀ x c,X.env.cells.lookup x=some c→c≠b
 bs:∀ b o,X.base.get? b=some o→X.s₀.heap.get? b=some o∧X.H₀ b=none
 bsz:X.base.objs.size≤X.s₀.heap.objs.size
 noex:∀ b o,X.base.get? b=some o→b∉X.ex
 exfs:∀ b∈X.ex,b∉X.fs
 funs:X.s₀.heap.FunFrames X.base X.outer
 frf:∀ b∈X.fs,X.H₀ b=none
structure Inv(X:Cx)(pins:List (Addr×Obj))(σ:List (Option V))(H:Hp)(s:Shared):Prop where
 ok:X.Ok
 os:s.os=X.s₀.os
 bare:AllBare s.gens
 base:Un X.fs X.ex X.H₀ H X.s₀.heap s.heap
 loc:∃ m,s.heap.Ns X.env.locals m∧∀(i:Nat) (x:Str) (v:V),X.N[i]? = some x→σ[i]? = some (some v)→Vis X.env.scope x→∃ u,RelV v u∧Look X.env s.heap m x u
 cell:∀ x c,X.env.cells.lookup x=some c→∃ v,s.heap.IsCell c v
 free:H X.env.locals=none
 freeC:∀ x c,X.env.cells.lookup x=some c→H c=none
 pin:∀ p∈X.pn++pins,s.heap.get? p.1=some p.2∧H p.1=none∧p.1≠X.env.locals∧p.1∉X.fs∧∀ v,p.2.data ≠ .cell v
 hok:HOk X.prog X.w H s.heap
 len:σ.length=X.N.length
section
variable{X:Cx}{pins:List (Addr×Obj)}{σ:List (Option V)}{H H':Hp}{s:Shared}{h':Heap}
theorem Cx.Ok.nofr(ok:X.Ok){b:Addr}{o:Obj}(e:X.base.get? b=some o):b∉X.fs:=fun hb=>by
 have:=(ok.funs.mem hb).1
 rw[e] at this;cases this
theorem Inv.bs(I:Inv X pins σ H s):∀ b o,X.base.get? b=some o→s.heap.get? b=some o∧H b=none:=fun b o e=>
 ⟨I.base.keep b o (I.ok.bs b o e).1 (I.ok.bs b o e).2 (I.ok.nofr e) (I.ok.noex b o e),I.base.free b o (I.ok.bs b o e).1 (I.ok.bs b o e).2 (I.ok.noex b o e)⟩
theorem Inv.bk(I:Inv X pins σ H s):∀ b o,X.base.get? b=some o→s.heap.get? b=some o:=fun b o e=>(I.bs b o e).1
theorem Inv.mod(I:Inv X pins σ H s):Mod X.K X.mg X.base:=I.ok.mod
theorem Inv.kIn(I:Inv X pins σ H s):X.K.In s.heap:=I.ok.mod.kin.keeps I.bk
theorem Inv.lt(I:Inv X pins σ H s):X.env.locals < s.heap.objs.size:=let ⟨_,hn,_⟩:=I.loc;hn.lt
theorem Inv.sz(I:Inv X pins σ H s):X.s₀.heap.objs.size≤s.heap.objs.size:=Nat.le_trans I.ok.above (Nat.le_of_lt I.lt)
theorem Inv.nofs(I:Inv X pins σ H s){a:Addr}(h:s.heap.objs.size≤a):a∉X.fs:=fun hb=>by
 obtain⟨_,o,ho,_⟩:=I.ok.funs.mem hb
 exact absurd (Nat.lt_of_lt_of_le (Heap.lt_size ho) (Nat.le_trans I.sz h)) (Nat.lt_irrefl _)
theorem Inv.cne(I:Inv X pins σ H s):∀ x c,X.env.cells.lookup x=some c→c≠X.env.locals:=fun x c e z=>by
 obtain⟨v,o,ho,hd⟩:=I.cell x c e
 obtain⟨m,⟨o',es,ep,ho',hd',_⟩,_⟩:=I.loc
 rw[z,ho'] at ho;cases ho;rw[hd'] at hd;cases hd
theorem Inv.funs(I:Inv X pins σ H s):s.heap.FunFrames X.base X.outer:=by
 have all:∀(l:List Env),(∀ b∈frs l,b∈X.fs)→X.s₀.heap.FunFrames X.base l→s.heap.FunFrames X.base l:=by
  intro l
  induction l with
  | nil=>intro _ _;trivial
  | cons env r ih=>
   intro hs hl
   obtain⟨hk,⟨L,o,hf,hn,ho,hd⟩,hr⟩:=hl
   have hL:L∈X.fs:=hs L (by unfold frs;rw[List.filterMap_cons,hf];exact List.mem_cons_self)
   obtain⟨sl,e⟩:=I.base.slot L o ho (I.ok.frf L hL) hL fun z=>I.ok.exfs L z hL
   exact⟨hk,⟨L,_,hf,hn,e,hd⟩,ih (fun b hb=>hs b (by unfold frs;rw[List.filterMap_cons,hf];exact List.mem_cons_of_mem _ hb)) hr⟩
 exact all X.outer (fun _ hb=>hb) I.ok.funs
theorem Inv.stack(I:Inv X pins σ H s):s.heap.FunFrames X.base X.stack:=by
 rcases I.ok.stk with e | ⟨e,hf⟩
 ·rw[e];exact I.funs
 ·rw[e]
  obtain⟨m,hn,_⟩:=I.loc
  refine .cons (by rw[I.ok.kind];decide) hf hn ?_ I.funs
  exact Heap.get?_none_of_le (Nat.le_trans I.ok.bsz I.ok.above)
theorem Inv.stkSub(I:Inv X pins σ H s):∀ b∈frs X.stack,b∈X.env.locals :: X.fs:=fun b hb=>by
 rcases I.ok.stk with e | ⟨e,hf⟩
 ·rw[e] at hb;exact List.mem_cons_of_mem _ hb
 ·rw[e] at hb
  unfold frs at hb
  rw[List.filterMap_cons,hf] at hb
  exact hb
theorem Inv.stkFree(I:Inv X pins σ H s):∀ b∈frs X.stack,H b=none:=fun b hb=>by
 rcases List.mem_cons.mp (I.stkSub b hb) with e | hb
 ·rw[e];exact I.free
 ·obtain⟨_,o,ho,_⟩:=I.ok.funs.mem hb
  exact I.base.free b o ho (I.ok.frf b hb) fun z=>I.ok.exfs b z hb
theorem Inv.step{g':Array GenState}{t':Nat}{d':Drawn}{ch:List Addr}(I:Inv X pins σ H s)
  (hch:∀ b∈ch,(b∈X.ex∨X.s₀.heap.objs.size≤b)∧b≠X.env.locals∧(∀ x c,X.env.cells.lookup x=some c→c≠b)∧∀ p∈X.pn++pins,p.1≠b)
  (keep:∀ b o,b≠X.env.locals→b∉X.fs→b∉ch→s.heap.get? b=some o→H b=none→h'.get? b=some o)
  (slot:∀ b o,b≠X.env.locals→b∈X.fs→b∉ch→s.heap.get? b=some o→H b=none→∃ sl,h'.get? b=some { o with slots:=sl }) (free:∀ b o,b∉ch→s.heap.get? b=some o→H b=none→H' b=none)
  (there:∀ b o,b∉ch→s.heap.get? b=some o→∃ o',h'.get? b=some o')
  (tups:∀ b xs,H b=some (.tup xs)→H' b=some (.tup xs)) (frzs:∀ b o u,H b=some (.frz o u)→H' b=some (.frz o u)) (tbls:∀ b ps,H b=some (.tbl ps)→∃ more,H' b=some (.tbl (ps++more)))
  (ns:∀ m,s.heap.Ns X.env.locals m→h'.Ns X.env.locals m) (hok:HOk X.prog X.w H' h') (hg:AllBare g') :
  Inv X pins σ H' { s with heap:=h',gens:=g',drawn:=d',toks:=t' }:=by
 have neL:∀ b o,X.s₀.heap.get? b=some o→b≠X.env.locals:=fun b o e=>Nat.ne_of_lt (Nat.lt_of_lt_of_le (Heap.lt_size e) I.ok.above)
 have neC:∀ b o,X.s₀.heap.get? b=some o→b∉X.ex→b∉ch:=fun b o e hx hb=>by
  rcases(hch b hb).1 with z | z
  ·exact hx z
  ·exact absurd (Nat.lt_of_lt_of_le (Heap.lt_size e) z) (Nat.lt_irrefl _)
 have cellK:∀ x c,X.env.cells.lookup x=some c→∀ v,s.heap.IsCell c v→h'.IsCell c v:=fun x c e v ⟨o,ho,hd⟩=>by
  have nch:c∉ch:=fun z=>(hch c z).2.2.1 x c e rfl
  by_cases hc:c∈X.fs
  ·obtain⟨sl,q⟩:=slot c o (I.cne x c e) hc nch ho (I.freeC x c e)
   exact⟨_,q,hd⟩
  ·exact⟨o,keep c o (I.cne x c e) hc nch ho (I.freeC x c e),hd⟩
 refine⟨I.ok,I.os,hg,⟨fun b o e n hb hx=>?_,fun b o e n hb hx=>?_,fun b o e n hx=>?_,fun b o e hx=>?_,fun b xs e=>tups b xs (I.base.tups b xs e),fun b o xs e=>frzs b o xs (I.base.frzs b o xs e),fun b ps e=>?_⟩,?_,fun x c e=>?_,?_,fun x c e=>?_,fun p hp=>?_,hok,I.len⟩
 ·exact keep b o (neL b o e) hb (neC b o e hx) (I.base.keep b o e n hb hx) (I.base.free b o e n hx)
 ·obtain⟨sl,e1⟩:=I.base.slot b o e n hb hx
  obtain⟨sl',e2⟩:=slot b _ (neL b o e) hb (neC b o e hx) e1 (I.base.free b o e n hx)
  exact⟨sl',e2⟩
 ·obtain⟨o',e1⟩:=I.base.there b o e hx
  exact free b o' (neC b o e hx) e1 (I.base.free b o e n hx)
 ·obtain⟨o',e1⟩:=I.base.there b o e hx
  exact there b o' (neC b o e hx) e1
 ·obtain⟨m1,e1⟩:=I.base.tbls b ps e
  obtain⟨m2,e2⟩:=tbls b _ e1
  exact⟨m1++m2,by rw[e2,Array.append_assoc]⟩
 ·obtain⟨m,hn,hl⟩:=I.loc
  refine⟨m,ns m hn,fun i x v e1 e2 e3=>?_⟩
  obtain⟨u,r,l⟩:=hl i x v e1 e2 e3
  refine⟨u,r,?_⟩
  rcases l with l | ⟨k,c,e,z⟩
  ·exact .inl l
  ·exact .inr ⟨k,c,e,cellK x c e _ z⟩
 ·obtain⟨v,z⟩:=I.cell x c e
  exact⟨v,cellK x c e v z⟩
 ·obtain⟨m,⟨o,_,_,ho,_⟩,_⟩:=I.loc
  exact free _ o (fun z=>(hch _ z).2.1 rfl) ho I.free
 ·obtain⟨v,o,ho,hd⟩:=I.cell x c e
  exact free c o (fun z=>(hch c z).2.2.1 x c e rfl) ho (I.freeC x c e)
 ·obtain⟨e,n,ne,nf,d⟩:=I.pin p hp
  have nch:p.1∉ch:=fun z=>(hch p.1 z).2.2.2 p hp rfl
  exact⟨keep p.1 p.2 ne nf nch e n,free p.1 p.2 nch e n,ne,nf,d⟩
theorem Inv.un{t':Nat}(I:Inv X pins σ H s)(u:Un X.fs [] H H' s.heap h')(hok:HOk X.prog X.w H' h'):Inv X pins σ H' { s with heap:=h',toks:=t' }:=by
 obtain⟨m,⟨o,es,ep,ho,r⟩,_⟩:=id I.loc
 obtain⟨sl,hL⟩:=u.any ho I.free (by simp)
 exact I.step (g':=s.gens) (d':=s.drawn) (ch:=[]) (fun _ z=>nomatch z) (fun b o _ hb _ e n=>u.keep b o e n hb (by simp)) (fun b o _ hb _ e n=>u.slot b o e n hb (by simp)) (fun b o _ e n=>u.free b o e n (by simp)) (fun b o _ e=>u.there b o e (by simp)) u.tups u.frzs u.tbls (fun m' hm=>by
  obtain⟨o',es',ep',ho',r'⟩:=hm
  rw[ho] at ho';cases ho'
  exact⟨_,es',ep',hL,r'⟩) hok I.bare
theorem Inv.call{g':Array GenState}{t':Nat}{d':Drawn}{ch:List Addr}(I:Inv X pins σ H s)(u:Un (frs X.stack) ch H H' s.heap h')(hok:HOk X.prog X.w H' h')(hg:AllBare g')
  (hch:∀ b∈ch,(b∈X.ex∨X.s₀.heap.objs.size≤b)∧b≠X.env.locals∧(∀ x c,X.env.cells.lookup x=some c→c≠b)∧∀ p∈X.pn++pins,p.1≠b) :
  Inv X pins σ H' { s with heap:=h',gens:=g',drawn:=d',toks:=t' }:=by
 obtain⟨m,⟨o,es,ep,ho,r⟩,_⟩:=id I.loc
 obtain⟨sl,hL⟩:=u.any ho I.free fun z=>(hch _ z).2.1 rfl
 exact I.step (ch:=ch) hch (fun b o hL hb hc e n=>u.keep b o e n (fun z=>(List.mem_cons.mp (I.stkSub b z)).elim hL hb) hc) (fun b o _ _ hc e n=>u.any e n hc) (fun b o hc e n=>u.free b o e n hc) (fun b o hc e=>u.there b o e hc) u.tups u.frzs u.tbls (fun m' hm=>by
  obtain⟨o',es',ep',ho',r'⟩:=hm
  rw[ho] at ho';cases ho'
  exact⟨_,es',ep',hL,r'⟩) hok hg
theorem Inv.turned{t':Nat}{it:Addr}(I:Inv X pins σ H s)(k:∀ b o,b≠it→s.heap.get? b=some o→h'.get? b=some o)(hn:H it=none)(hL:it≠X.env.locals)
  (h1:it∈X.ex∨X.s₀.heap.objs.size≤it) (h2:∀ x c,X.env.cells.lookup x=some c→c≠it) (h3:∀ p∈X.pn++pins,p.1≠it):Inv X pins σ H { s with heap:=h',toks:=t' }:=by
 have nit:∀ b u,H b=some u→b≠it:=fun b u e z=>by rw[z,hn] at e;cases e
 refine I.step (g':=s.gens) (d':=s.drawn) (ch:=[it]) (fun b hb=>?_) (fun b o _ _ hc e _=>k b o (fun z=>hc (by simp [z])) e) (fun b o _ _ hc e _=>⟨o.slots,k b o (fun z=>hc (by simp [z])) e⟩) (fun _ _ _ _ n=>n)
  (fun b o hc e=>⟨o,k b o (fun z=>hc (by simp [z])) e⟩) (fun _ _ e=>e) (fun _ _ _ e=>e) (fun b ps e=>⟨#[],by rw[e];simp⟩) (fun m hm=>?_) (fun b u e=>?_) I.bare
 ·have e:b=it:=by simpa using hb
  subst e
  exact⟨h1,hL,h2,h3⟩
 ·obtain⟨o,es,ep,ho,r⟩:=hm
  exact⟨o,es,ep,k _ o (Ne.symm hL) ho,r⟩
 ·refine(I.hok b u e).stay (fun c v hc q=>k c v ?_ q) (fun _ q=>q) fun _ _ q=>q
  rcases hc with z | z
  ·rw[z];exact nit b u e
  ·exact nit c _ z
theorem Inv.tok(I:Inv X pins σ H s)(t:Nat):Inv X pins σ H { s with toks:=t }:=I.un (h':=s.heap) (t':=t) Un.refl I.hok
theorem Inv.kept{t':Nat}(I:Inv X pins σ H s)(k:∀ b u,s.heap.get? b=some u→h'.get? b=some u):Inv X pins σ H { s with heap:=h',toks:=t' }:=I.un (Un.kept k) (I.hok.kept k)
theorem Inv.laid{a:Addr}{o:HO}{t':Nat}(I:Inv X pins σ H s)(k:∀ b u,s.heap.get? b=some u→h'.get? b=some u)(hp:s.heap.objs.size≤a)(new:ObjOk X.prog X.w (upd H a o) h' a o) :
  Inv X pins σ (upd H a o) { s with heap:=h',toks:=t' }:=I.un (Un.laid k hp (I.hok.fresh hp)) (I.hok.laid k hp new)
theorem Inv.write{x e:Addr}{o:HO}{t':Nat}(I:Inv X pins σ H s)(mu:Mut (H x))(he:e=x∨H e=some (.own x))(k:∀ b u,b≠e→s.heap.get? b=some u→h'.get? b=some u)(heo:∃ u,h'.get? e=some u)
  (new:ObjOk X.prog X.w (upd H x o) h' x o):Inv X pins σ (upd H x o) { s with heap:=h',toks:=t' }:=I.un (Un.write mu he k heo) (I.hok.write mu he k heo new)
theorem Inv.pins_of{pins':List (Addr×Obj)}(I:Inv X pins σ H s)(h:∀ p∈pins',s.heap.get? p.1=some p.2∧H p.1=none∧p.1≠X.env.locals∧p.1∉X.fs∧∀ v,p.2.data ≠ .cell v):Inv X pins' σ H s:=
 ⟨I.ok,I.os,I.bare,I.base,I.loc,I.cell,I.free,I.freeC,fun p hp=>(List.mem_append.mp hp).elim (fun z=>I.pin p (List.mem_append_left _ z)) (h p),I.hok,I.len⟩
theorem nodup_ix{N:List Str}(hN:N.Nodup){i j:Nat}{x:Str}(a:N[i]? = some x)(b:N[j]? = some x):i=j:=by
 obtain⟨h1,e1⟩:=List.getElem?_eq_some_iff.mp a
 obtain⟨h2,e2⟩:=List.getElem?_eq_some_iff.mp b
 exact(List.getElem_inj hN).mp (e1.trans e2.symm)
theorem store_ok2{M:Model}{A:Around}{E:Value→Shared→Prop}{i:Nat}{x:Str}{v:V}{u:Value}{Q:Unit→Shared→Prop}(I:Inv X pins σ H s)(hN:X.N.Nodup)(hi:X.N[i]? = some x)(hx:Loc X.env.scope x)(r:RelV v u)
  (h:∀ s',Inv X pins (σ.set i (some v)) H s'→(∃ a,Heap.SameBut a s.heap s'.heap∧(a=X.env.locals∨X.env.cells.lookup x=some a))→Q () s') (hf:X.fn x=true∨X.env.scope.names.lookup x=some .local:=by first | exact .inl rfl | exact .inr rfl | assumption):wpAny M A (storeName X.env x u) Q E s:=by
 obtain⟨m,hn,hl⟩:=id I.loc
 have hcls:(X.env.scope.kind == .class || (X.env.scope.kind == .module && X.env.locals != X.env.globals))=false:=by rw[I.ok.kind];rfl
 have hiσ:i < σ.length:=by rw[I.len];exact(List.getElem?_eq_some_iff.mp hi).1
 have cne:=I.cne
 have tracked:∀{a:Addr} {h':Heap},(∃ o,s.heap.get? a=some o∧H a=none)→Heap.SameBut a s.heap h'→HOk X.prog X.w H h':=fun {a h'} ha hs b ob e=>by
  obtain⟨_,_,hfree⟩:=ha
  refine(I.hok b ob e).stay (fun c w' hc q=>(hs.2 c ?_).trans q) (fun _ q=>q) fun _ _ q=>q
  rintro rfl
  rcases hc with rfl | hc
  ·rw[hfree] at e;cases e
  ·rw[hfree] at hc;cases hc
 rcases hx with hk | hk
 ·refine wpAny_storeName_local hk hn (fun h' hn' hs=>?_) hcls
  obtain⟨oL,_,_,hoL,_⟩:=id hn
  refine h _ ⟨I.ok,I.os,I.bare,⟨fun b o e n hb hx=>?_,fun b o e n hb hx=>?_,I.base.free,fun b o e hx=>?_,I.base.tups,I.base.frzs,I.base.tbls⟩,⟨_,hn',fun j y v' e1 e2 e3=>?_⟩,fun y c e=>?_,I.free,I.freeC,fun p hp=>?_,tracked ⟨oL,hoL,I.free⟩ hs,by simpa using I.len⟩ ⟨_,hs,.inl rfl⟩
  ·exact(hs.2 b (Nat.ne_of_lt (Nat.lt_of_lt_of_le (Heap.lt_size e) I.ok.above))).trans (I.base.keep b o e n hb hx)
  ·obtain⟨sl,e1⟩:=I.base.slot b o e n hb hx
   exact⟨sl,(hs.2 b (Nat.ne_of_lt (Nat.lt_of_lt_of_le (Heap.lt_size e) I.ok.above))).trans e1⟩
  ·obtain⟨o',e1⟩:=I.base.there b o e hx
   exact⟨o',(hs.2 b (Nat.ne_of_lt (Nat.lt_of_lt_of_le (Heap.lt_size e) I.ok.above))).trans e1⟩
  ·by_cases hj:j=i
   ·subst hj
    rw[hi] at e1;cases e1
    rw[List.getElem?_set_self hiσ] at e2
    cases e2
    exact⟨u,r,.inl ⟨hk,by simp⟩⟩
   ·rw[List.getElem?_set_ne (Ne.symm hj)] at e2
    obtain⟨u',r',q⟩:=hl j y v' e1 e2 e3
    refine⟨u',r',?_⟩
    rcases q with⟨k,e⟩ | ⟨k,c,e,z⟩
    ·refine .inl ⟨k,?_⟩
     have:y≠x:=fun e=>hj (nodup_ix hN e1 (e ▸ hi))
     simp [this,e]
    ·exact .inr ⟨k,c,e,z.sameBut hs (cne y c e)⟩
  ·obtain⟨w',z⟩:=I.cell y c e
   exact⟨w',z.sameBut hs (cne y c e)⟩
  ·obtain⟨e,n,ne,nf,d⟩:=I.pin p hp
   exact⟨(hs.2 p.1 ne).trans e,n,ne,nf,d⟩
 ·have hfn:X.fn x=true:=by
   rcases hf with z | z
   ·exact z
   ·rw[z] at hk;cases hk
  obtain⟨c,hc⟩:=I.ok.has x (.inl hk)
  obtain⟨w',z⟩:=I.cell x c hc
  refine wpAny_storeName_cell I.ok.kind hk hc z (fun h' hc' hs=>?_)
  obtain⟨oc,hoc,hocd⟩:=id z
  refine h { s with heap:=h' } ⟨I.ok,I.os,I.bare,⟨fun b o e n hb hx=>?_,fun b o e n hb hx=>?_,I.base.free,fun b o e hx=>?_,I.base.tups,I.base.frzs,I.base.tbls⟩,⟨m,hn.sameBut hs (Ne.symm (cne x c hc)),fun j y v' e1 e2 e3=>?_⟩,fun y c' e=>?_,I.free,I.freeC,fun p hp=>?_,tracked ⟨oc,hoc,I.freeC x c hc⟩ hs,by simpa using I.len⟩ ⟨c,hs,.inr hc⟩
  ·exact(hs.2 b (Nat.ne_of_lt (Nat.lt_of_lt_of_le (Heap.lt_size e) (I.ok.cab x c hfn hc)))).trans (I.base.keep b o e n hb hx)
  ·obtain⟨sl,e1⟩:=I.base.slot b o e n hb hx
   exact⟨sl,(hs.2 b (Nat.ne_of_lt (Nat.lt_of_lt_of_le (Heap.lt_size e) (I.ok.cab x c hfn hc)))).trans e1⟩
  ·obtain⟨o',e1⟩:=I.base.there b o e hx
   exact⟨o',(hs.2 b (Nat.ne_of_lt (Nat.lt_of_lt_of_le (Heap.lt_size e) (I.ok.cab x c hfn hc)))).trans e1⟩
  ·by_cases hj:j=i
   ·subst hj
    rw[hi] at e1;cases e1
    rw[List.getElem?_set_self hiσ] at e2
    cases e2
    exact⟨u,r,.inr ⟨.inl hk,c,hc,hc'⟩⟩
   ·rw[List.getElem?_set_ne (Ne.symm hj)] at e2
    obtain⟨u',r',q⟩:=hl j y v' e1 e2 e3
    refine⟨u',r',?_⟩
    rcases q with q | ⟨k,c',e,z'⟩
    ·exact .inl q
    ·refine .inr ⟨k,c',e,z'.sameBut hs ?_⟩
     rintro rfl
     exact hj (nodup_ix hN e1 (I.ok.inj _ _ _ e hc ▸ hi))
  ·by_cases hcc:c'=c
   ·subst hcc;exact⟨_,hc'⟩
   ·obtain⟨w2,z2⟩:=I.cell y c' e
    exact⟨w2,z2.sameBut hs hcc⟩
  ·obtain⟨e,n,ne,nf,d⟩:=I.pin p hp
   refine⟨(hs.2 p.1 ?_).trans e,n,ne,nf,d⟩
   intro q
   rw[q,hoc] at e
   have q':oc=p.2:=Option.some.inj e
   exact d w' (by rw[← q'];exact hocd)
theorem store_ok{M:Model}{A:Around}{E:Value→Shared→Prop}{i:Nat}{x:Str}{v:V}{u:Value}{Q:Unit→Shared→Prop}(I:Inv X pins σ H s)(hN:X.N.Nodup)(hi:X.N[i]? = some x)(hx:Loc X.env.scope x)(r:RelV v u)
  (h:∀ s',Inv X pins (σ.set i (some v)) H s'→Q () s') (hf:X.fn x=true∨X.env.scope.names.lookup x=some .local:=by first | exact .inl rfl | exact .inr rfl | assumption):wpAny M A (storeName X.env x u) Q E s:=
 store_ok2 I hN hi hx r (fun s' I' _=>h s' I') hf
theorem Inv.call'{s':Shared}{ch:List Addr}(I:Inv X pins σ H s)(ho:s'.os=s.os)(u:Un (frs X.stack) ch H H' s.heap s'.heap)(hok:HOk X.prog X.w H' s'.heap)(hg:AllBare s'.gens)
  (hch:∀ b∈ch,(b∈X.ex∨X.s₀.heap.objs.size≤b)∧b≠X.env.locals∧(∀ x c,X.env.cells.lookup x=some c→c≠b)∧∀ p∈X.pn++pins,p.1≠b):Inv X pins σ H' s':=by
 obtain⟨h',g',d',t',o'⟩:=s'
 have e:o'=s.os:=ho
 subst e
 exact I.call (g':=g') (t':=t') (d':=d') u hok hg hch
end
abbrev XK:=Value→Option Addr→Hp→Prop
abbrev St:=List (Option V)
abbrev VK:=V→Hp→Prop
abbrev TE:=St→Hp→VK→Prop
abbrev TT:=St→Hp→(Bool→Hp→Prop)→Prop
abbrev TA:=St→Hp→(List V→Hp→Prop)→Prop
structure Ends where
 nx:St→Hp→Prop
 rt:VK
 bk:St→Hp→Prop:=fun _ _=>False
 ct:St→Hp→Prop:=fun _ _=>False
abbrev TS:=Ends→St→Hp→Prop
def EP(X:Cx)(pins:List (Addr×Obj))(σ:St)(Q:VK)(u:Value)(s':Shared):Prop:=∃ v H',Inv X pins σ H' s'∧RelV v u∧Q v H'
def TP(X:Cx)(pins:List (Addr×Obj))(σ:St)(Q:Bool→Hp→Prop)(b:Bool)(s':Shared):Prop:=∃ H',Inv X pins σ H' s'∧Q b H'
def AP(X:Cx)(pins:List (Addr×Obj))(σ:St)(Q:List V→Hp→Prop)(us:List Value)(s':Shared):Prop:=∃ vs H',Inv X pins σ H' s'∧Vals vs us∧Q vs H'
def SP(X:Cx)(pins:List (Addr×Obj))(D:Ends)(f:Flow)(s':Shared):Prop:=
 match f with
 | .next=>∃ σ' H',Inv X pins σ' H' s'∧D.nx σ' H'
 | .brk=>∃ σ' H',Inv X pins σ' H' s'∧D.bk σ' H'
 | .cont=>∃ σ' H',Inv X pins σ' H' s'∧D.ct σ' H'
 | .ret u=>∃ v σ' H',Inv X pins σ' H' s'∧RelV v u∧D.rt v H'
def PE(X:Cx)(e:Expr)(t:TE):Prop:=
 ∀(pins:List (Addr×Obj)) (s:Shared) (σ:St) (H:Hp) (Q:VK),Inv X pins σ H s→t σ H Q→wpAny (model X.prog X.w) X.A (eval e X.env) (EP X pins σ Q) X.xe s
def PT(X:Cx)(e:Expr)(t:TT):Prop:=
 ∀(pins:List (Addr×Obj)) (s:Shared) (σ:St) (H:Hp) (Q:Bool→Hp→Prop),Inv X pins σ H s→t σ H Q→wpAny (model X.prog X.w) X.A (isTrue e X.env (eval e X.env)) (TP X pins σ Q) X.xe s
def PW(X:Cx)(e:Expr)(t:TT):Prop:=
 ∀(whole:Sem Value) (pins:List (Addr×Obj)) (s:Shared) (σ:St) (H:Hp) (Q:Bool→Hp→Prop),Inv X pins σ H s→t σ H Q→wpAny (model X.prog X.w) X.A (isTrue e X.env whole) (TP X pins σ Q) X.xe s
theorem PW.pt{X:Cx}{e:Expr}{t:TT}(h:PW X e t):PT X e t:=h _
def PA(X:Cx)(es:List Expr)(t:TA):Prop:=
 ∀(pos:Pos) (pins:List (Addr×Obj)) (s:Shared) (σ:St) (H:Hp) (Q:List V→Hp→Prop),Inv X pins σ H s→t σ H Q→wpAny (model X.prog X.w) X.A (spliced (backTo pos (starEach es X.env))) (AP X pins σ Q) X.xe s
def PS(X:Cx)(st:Stmt)(t:TS):Prop:=
 ∀(pins:List (Addr×Obj)) (s:Shared) (σ:St) (H:Hp) (D:Ends),Inv X pins σ H s→t D σ H→wpAny (model X.prog X.w) X.A (exec st X.env) (SP X pins D) X.xe s
def PSs(X:Cx)(st:List Stmt)(t:TS):Prop:=
 ∀(pins:List (Addr×Obj)) (s:Shared) (σ:St) (H:Hp) (D:Ends),Inv X pins σ H s→t D σ H→wpAny (model X.prog X.w) X.A (execs st X.env) (SP X pins D) X.xe s
theorem thn{α:Type}{t:Sem α}{Q Q':α→Shared→Prop}{M:Model}{A:Around}{E:Value→Shared→Prop}{s:Shared}(h:wpAny M A t Q E s)(hQ:∀ a s,Q a s→Q' a s):wpAny M A t Q' E s:=wpAny_mono h hQ fun _ _ x=>x
end L2
namespace L2
open PySem PySem.Spec PyProof.Rows
section
variable{X:Cx}
def tVar(i:Nat):TE:=fun σ H Q=>∃ v,σ[i]? = some (some v)∧Q v H
def tC(v:V):TE:=fun _ H Q=>Q v H
theorem pe_var{i:Nat}{x:Str}{pos:Pos}(hN:X.N[i]? = some x)(hv:Vis X.env.scope x)(hd:(x == ("__debug__":Str))=false:=by decide)(hcd:(x == ("__classdict__":Str))=false:=by decide):PE X (.Name x pos) (tVar i):=by
 intro pins s σ H Q I h
 obtain⟨v,e,h⟩:=h
 obtain⟨m,hn,hl⟩:=I.loc
 obtain⟨u,r,l⟩:=hl i x v hN e hv
 have fin:EP X pins σ Q u s:=⟨v,H,I,r,h⟩
 rcases l with⟨hk,hm⟩ | ⟨hk,c,hc,hcell⟩
 ·exact wpAny_Name (wpAny_loadName_local I.ok.kind hk hn hm fin) hd
 ·rcases hk with hk | hk
  ·exact wpAny_Name (wpAny_loadName_cell I.ok.kind hk hc hcell fin) hd
  ·exact wpAny_Name (wpAny_loadName_free I.ok.kind hk hc hcell fin hcd) hd
theorem pe_int{i j pos}:PE X (.Constant (.int i) j pos) (tC (.int i)):=fun _ _ _ H _ I h=>wpAny_Constant_int ⟨.int i,H,I.tok _,⟨_,rfl⟩,h⟩
theorem pe_bl{b j pos}:PE X (.Constant (.bool b) j pos) (tC (.bl b)):=fun _ _ _ H _ I h=>Constant_bool ⟨.bl b,H,I,rfl,h⟩
theorem pe_non{j pos}:PE X (.Constant .none j pos) (tC .non):=fun _ _ _ H _ I h=>Constant_none ⟨.non,H,I,rfl,h⟩
theorem pe_str{x j pos}:PE X (.Constant (.str x) j pos) (tC (.str x)):=fun _ _ _ H _ I h=>Calls.Constant_str ⟨.str x,H,I.tok _,⟨_,rfl⟩,h⟩
def Gl(X:Cx)(x:Str):Prop:=X.env.kindOf x=some .globalImplicit
theorem ld_glob{E:Value→Shared→Prop}{pins:List (Addr×Obj)}{s:Shared}{σ:St}{H:Hp}{x:Str}{u:Value}{pos:Pos}{Q:Value→Shared→Prop}(I:Inv X pins σ H s)(hg:Gl X x)(hm:X.mg x=some u)(h:Q u s)
  (hd:(x == ("__debug__":Str))=false:=by decide):wpAny (model X.prog X.w) X.A (eval (.Name x pos) X.env) Q E s:=
 Calls.Name_function_global I.ok.kind hg (Calls.loadGlobal_global (by rw[I.ok.glob];exact I.mod.glob.keeps I.bk) hm h) hd
theorem ld_blt{E:Value→Shared→Prop}{pins:List (Addr×Obj)}{s:Shared}{σ:St}{H:Hp}{x:Str}{u:Value}{pos:Pos}{Q:Value→Shared→Prop}(I:Inv X pins σ H s)(hg:Gl X x)(hm:X.mg x=none)(hv:bootBuiltins x=some u)(h:Q u s)
  (hn:x≠"__name__":=by decide) (hd:(x == ("__debug__":Str))=false:=by decide):wpAny (model X.prog X.w) X.A (eval (.Name x pos) X.env) Q E s:=by
 obtain⟨mb,h1,h2⟩:=I.mod.blt
 exact Calls.Name_function_global I.ok.kind hg (Calls.loadGlobal_builtin (by rw[I.ok.glob];exact I.mod.glob.keeps I.bk) hm (by rw[I.ok.blt];exact h1.keeps I.bk) ((h2 x hn).trans hv) h) hd
theorem pe_glob{x:Str}{v:V}{u:Value}{pos:Pos}(hg:Gl X x)(hm:X.mg x=some u)(r:RelV v u)(hd:(x == ("__debug__":Str))=false:=by decide):PE X (.Name x pos) (tC v):=
 fun _ _ _ H _ I h=>ld_glob I hg hm ⟨v,H,I,r,h⟩ hd
theorem pe_bltn{x:Str}{v:V}{u:Value}{pos:Pos}(hg:Gl X x)(hm:X.mg x=none)(hv:bootBuiltins x=some u)(r:RelV v u)(hn:x≠"__name__":=by decide)(hd:(x == ("__debug__":Str))=false:=by decide):PE X (.Name x pos) (tC v):=
 fun _ _ _ H _ I h=>ld_blt I hg hm hv ⟨v,H,I,r,h⟩ hn hd
variable{a b:Expr}{ta tb:TE}{pos:Pos}
variable{tA tB':TT}{rest:List Expr}
def tAnd(t u:TT):TT:=fun σ H Q=>t σ H fun c H1=>if c=true then u σ H1 Q else Q false H1
def tOr(t u:TT):TT:=fun σ H Q=>t σ H fun c H1=>if c=true then Q true H1 else u σ H1 Q
def tNot(t:TT):TT:=fun σ H Q=>t σ H fun c H1=>Q (!c) H1
theorem pw_and1(ha:PT X a tA):PW X (.BoolOp .And [a] pos) tA:=by
 intro wh pins s σ H Q I h
 refine isTrue_and (thn (ha pins s σ H Q I h) fun c s1 e=>?_)
 cases c with
 | true=>exact isTrue_and_nil e
 | false=>exact e
theorem pw_or1(ha:PT X a tA):PW X (.BoolOp .Or [a] pos) tA:=by
 intro wh pins s σ H Q I h
 refine isTrue_or (thn (ha pins s σ H Q I h) fun c s1 e=>?_)
 cases c with
 | false=>exact isTrue_or_nil e
 | true=>exact e
theorem pw_and(ha:PT X a tA)(hb:PW X (.BoolOp .And (b :: rest) pos) tB'):PW X (.BoolOp .And (a :: b :: rest) pos) (tAnd tA tB'):=by
 intro wh pins s σ H Q I h
 refine isTrue_and (thn (ha pins s σ H _ I h) fun c s1 ⟨H1,I1,q1⟩=>?_)
 cases c with
 | true=>exact hb wh pins s1 σ H1 Q I1 q1
 | false=>exact⟨H1,I1,q1⟩
theorem pw_or(ha:PT X a tA)(hb:PW X (.BoolOp .Or (b :: rest) pos) tB'):PW X (.BoolOp .Or (a :: b :: rest) pos) (tOr tA tB'):=by
 intro wh pins s σ H Q I h
 refine isTrue_or (thn (ha pins s σ H _ I h) fun c s1 ⟨H1,I1,q1⟩=>?_)
 cases c with
 | true=>exact⟨H1,I1,q1⟩
 | false=>exact hb wh pins s1 σ H1 Q I1 q1
theorem pt_not(ha:PT X a tA):PT X (.UnaryOp .Not a pos) (tNot tA):=by
 intro pins s σ H Q I h
 exact isTrue_not (ha pins s σ H (fun c H1=>Q (!c) H1) I h)
def tAndV(ta tb:TE):TE:=fun σ H Q=>ta σ H fun x H1=>∃ c,x = .bl c∧if c=true then tb σ H1 Q else Q (.bl false) H1
def tNotV(ta:TE):TE:=fun σ H Q=>ta σ H fun x H1=>∃ c,x = .bl c∧Q (.bl (!c)) H1
theorem pe_one{op}{t:TE}(h:PE X a t):PE X (.BoolOp op [a] pos) t:=fun pins s σ H Q I hw=>BoolOp_one (h pins s σ H Q I hw)
theorem pe_and(ha:PE X a ta)(hb:PE X (.BoolOp .And (b :: rest) pos) tb):PE X (.BoolOp .And (a :: b :: rest) pos) (tAndV ta tb):=by
 intro pins s σ H Q I h
 refine BoolOp_and (thn (ha pins s σ H _ I h) fun v s1 ⟨x,H1,I1,r1,q1⟩=>?_)
 obtain⟨c,rfl,q1⟩:=q1
 cases r1
 refine wpAny_truthy_bool ?_
 cases c with
 | true=>exact hb pins s1 σ H1 Q I1 q1
 | false=>exact⟨.bl false,H1,I1,rfl,q1⟩
theorem pe_not(ha:PE X a ta):PE X (.UnaryOp .Not a pos) (tNotV ta):=by
 intro pins s σ H Q I h
 refine UnaryOp_ (thn (ha pins s σ H _ I h) fun v s1 ⟨x,H1,I1,r1,q1⟩=>?_)
 obtain⟨c,rfl,q1⟩:=q1
 cases r1
 exact not_of (wpAny_truthy_bool ⟨.bl (!c),H1,I1,rfl,q1⟩)
def tIf(t:TT)(ta tb:TE):TE:=fun σ H Q=>t σ H fun c H1=>if c=true then ta σ H1 Q else tb σ H1 Q
theorem pe_ifExp{c:Expr}(hc:PT X c tA)(ha:PE X a ta)(hb:PE X b tb):PE X (.IfExp c a b pos) (tIf tA ta tb):=by
 intro pins s σ H Q I h
 refine wpAny_IfExp (thn (hc pins s σ H _ I h) fun d s1 ⟨H1,I1,q1⟩=>?_)
 cases d with
 | true=>exact ha pins s1 σ H1 Q I1 q1
 | false=>exact hb pins s1 σ H1 Q I1 q1
end
end L2
namespace L2
open PySem PySem.Spec PyProof.Rows
def SqL(K:PySem.W.Frag)(H:Hp)(a:Addr)(xs:List V):Prop:=
 Rd H a (.lst xs) ∨
  ∃(o:Obj) (its:Array Value) (n:Nat),K.lookup a=some o∧o.cls = .type "list"∧o.dict=none∧o.data = .seq its n∧its.size≤sizeLine∧Vals xs its.toList
def SqT(K:PySem.W.Frag)(H:Hp)(a:Addr)(xs:List V):Prop:=
 Rd H a (.tup xs) ∨
  ∃(o:Obj) (its:Array Value) (n:Nat),K.lookup a=some o∧o.cls = .type "tuple"∧o.data = .seq its n∧its.size≤sizeLine∧Vals xs its.toList
def absV:Value→Option V
 | .none=>some .non
 | .bool b=>some (.bl b)
 | .int i _=>some (.int i)
 | .str x _=>some (.str x)
 | .bytes b _=>some (.byt b)
 | .float b _=>some (.flt b)
 | .ref a=>some (.ref a)
 | .type n=>some (.ty n)
 | _=>none
theorem RelV.abs{x:V}{u:Value}(r:RelV x u):absV u=some x:=by
 cases x with
 | non=>cases r;rfl
 | bl _=>cases r;rfl
 | int _=>obtain⟨t,rfl⟩:=r;rfl
 | str _=>obtain⟨t,rfl⟩:=r;rfl
 | byt _=>obtain⟨t,rfl⟩:=r;rfl
 | flt _=>obtain⟨t,rfl⟩:=r;rfl
 | ref _=>cases r;rfl
 | ty _=>cases r;rfl
theorem RelV.inj{x y:V}{u:Value}(r:RelV x u)(q:RelV y u):x=y:=Option.some.inj (r.abs.symm.trans q.abs)
theorem Vals.inj:∀{xs ys:List V} {us:List Value},Vals xs us→Vals ys us→xs=ys
 | _,_,_,.nil,.nil=>rfl
 | _,_,_,.cons r t,.cons r' t'=>by rw[r.inj r',Vals.inj t t']
section
variable{X:Cx}{pins:List (Addr×Obj)}{σ:St}{H:Hp}{s:Shared}{a:Addr}{xs ys:List V}
theorem SqL.of{K:PySem.W.Frag}(h:H a=some (.lst xs)):SqL K H a xs:=.inl (.inl h)
theorem SqT.of{K:PySem.W.Frag}(h:H a=some (.tup xs)):SqT K H a xs:=.inl (.inl h)
theorem Inv.list(I:Inv X pins σ H s)(h:SqL X.K H a xs):∃ its:List Value,Vals xs its∧PlainL s.heap a its.toArray∧xs.length≤sizeLine:=by
 rcases h with h | ⟨o,its,n,hk,hc,hd,hs,hz,r⟩
 ·obtain⟨z,its,n,r,e⟩:=h.ok I.hok
  exact⟨its,r,⟨_,n,e,rfl,rfl,rfl⟩,z⟩
 ·refine⟨its.toList,r,⟨o,n,I.kIn a o hk,hc,hd,by simpa using hs⟩,?_⟩
  have e:=r.length
  simp only[Array.length_toList] at e
  omega
theorem Inv.tuple(I:Inv X pins σ H s)(h:SqT X.K H a xs):∃ its:List Value,Vals xs its∧IsTup s.heap a its.toArray∧xs.length≤sizeLine:=by
 rcases h with h | ⟨o,its,n,hk,hc,hs,hz,r⟩
 ·obtain⟨z,its,r,p⟩:=h.ok I.hok
  exact⟨its,r,p,z⟩
 ·refine⟨its.toList,r,⟨o,I.kIn a o hk,hc,n,by simpa using hs⟩,?_⟩
  have e:=r.length
  simp only[Array.length_toList] at e
  omega
theorem Inv.list_inj(I:Inv X pins σ H s)(h:SqL X.K H a xs)(h':SqL X.K H a ys):xs=ys:=by
 obtain⟨its,r,⟨o,n,e,_,_,d⟩,_⟩:=I.list h
 obtain⟨its',r',⟨o',n',e',_,_,d'⟩,_⟩:=I.list h'
 rw[e] at e';cases e'
 rw[d] at d'
 injection d' with d1 _
 have:its=its':=by simpa using congrArg Array.toList d1
 subst this
 exact r.inj r'
theorem Inv.tuple_inj(I:Inv X pins σ H s)(h:SqT X.K H a xs)(h':SqT X.K H a ys):xs=ys:=by
 obtain⟨its,r,⟨o,e,_,n,d⟩,_⟩:=I.tuple h
 obtain⟨its',r',⟨o',e',_,n',d'⟩,_⟩:=I.tuple h'
 rw[e] at e';cases e'
 rw[d] at d'
 injection d' with d1 _
 have:its=its':=by simpa using congrArg Array.toList d1
 subst this
 exact r.inj r'
end
abbrev Cx.wish(X:Cx)(E:Value→Shared→Prop):Cx:={ X with xe:=E }
abbrev Cx.nox(X:Cx):Cx:=X.wish fun _ _=>False
theorem Cx.Ok.wish{X:Cx}(ok:X.Ok)(E:Value→Shared→Prop):(X.wish E).Ok:=
 ⟨ok.mod,ok.kind,ok.glob,ok.blt,ok.above,ok.inj,ok.has,ok.cab,ok.hd,ok.frames,ok.stk,ok.exf,ok.bs,ok.bsz,ok.noex,ok.exfs,ok.funs,ok.frf⟩
theorem Cx.Ok.unwish{X:Cx}{E:Value→Shared→Prop}(ok:(X.wish E).Ok):X.Ok:=
 ⟨ok.mod,ok.kind,ok.glob,ok.blt,ok.above,ok.inj,ok.has,ok.cab,ok.hd,ok.frames,ok.stk,ok.exf,ok.bs,ok.bsz,ok.noex,ok.exfs,ok.funs,ok.frf⟩
section
variable{X:Cx}{pins:List (Addr×Obj)}{σ:St}{H:Hp}{s:Shared}{E:Value→Shared→Prop}
theorem Inv.wish(I:Inv X pins σ H s)(E:Value→Shared→Prop):Inv (X.wish E) pins σ H s:=⟨I.ok.wish E,I.os,I.bare,I.base,I.loc,I.cell,I.free,I.freeC,I.pin,I.hok,I.len⟩
theorem Inv.unwish(I:Inv (X.wish E) pins σ H s):Inv X pins σ H s:=⟨I.ok.unwish,I.os,I.bare,I.base,I.loc,I.cell,I.free,I.freeC,I.pin,I.hok,I.len⟩
theorem SP.unwish{D:Ends}{f:Flow}{s':Shared}(h:SP (X.wish E) pins D f s'):SP X pins D f s':=by
 cases f with
 | next=>obtain⟨σ',H',I,q⟩:=h;exact⟨σ',H',I.unwish,q⟩
 | brk=>obtain⟨σ',H',I,q⟩:=h;exact⟨σ',H',I.unwish,q⟩
 | cont=>obtain⟨σ',H',I,q⟩:=h;exact⟨σ',H',I.unwish,q⟩
 | ret u=>obtain⟨v,σ',H',I,r,q⟩:=h;exact⟨v,σ',H',I.unwish,r,q⟩
theorem PSs.nox{st:List Stmt}{t:TS}(h:PSs X.nox st t):PSs X st t:=fun pins s σ H D I hw=>
 wpAny_mono (h pins s σ H D (I.wish _) hw) (fun _ _ q=>q.unwish) fun _ _ z=>False.elim z
end
section
variable{X:Cx}{st:Stmt}{rest:List Stmt}{t u:TS}{e:Expr}{te:TE}{pos:Pos}
def tNext:TS:=fun D σ H=>D.nx σ H
def tSeq(t u:TS):TS:=fun D σ H=>t { D with nx:=u D } σ H
theorem pss_nil:PSs X [] tNext:=fun _ _ σ H _ I h=>wpAny_execs_nil ⟨σ,H,I,h⟩
theorem pss_cons(h1:PS X st t)(h2:PSs X rest u):PSs X (st :: rest) (tSeq t u):=by
 intro pins s σ H D I h
 refine wpAny_execs_cons (thn (h1 pins s σ H { D with nx:=u D } I h) fun f s1 q=>?_)
 cases f with
 | next=>
  obtain⟨σ',H',I',q⟩:=q
  exact h2 pins s1 σ' H' D I' q
 | ret v=>exact q
 | brk=>exact q
 | cont=>exact q
theorem pss_one(h1:PS X st t):PSs X [st] t:=by
 intro pins s σ H D I h
 refine wpAny_execs_cons (thn (h1 pins s σ H D I h) fun f s1 q=>?_)
 cases f with
 | next=>exact wpAny_execs_nil q
 | ret v=>exact q
 | brk=>exact q
 | cont=>exact q
theorem Inv.quiet{pins:List (Addr×Obj)}{σ:St}{H:Hp}{s:Shared}(I:Inv X pins σ H s):interactive X.env=false:=by simp [interactive,I.ok.kind]
def tDrop(te:TE):TS:=fun D σ H=>te σ H fun _ H1=>D.nx σ H1
theorem ps_expr(he:PE X e te)(hs:swapsWith e none pos.line X.env=pure false:=by rfl):PS X (.Expr e pos) (tDrop te):=by
 intro pins s σ H D I h
 exact wpAny_Expr_any (thn (he pins s σ H _ I h) fun v s1 ⟨x,H1,I1,r1,q1⟩=>⟨σ,H1,I1,q1⟩) I.quiet hs
def tRet(te:TE):TS:=fun D σ H=>te σ H D.rt
theorem ps_ret(he:PE X e te):PS X (.Return (some e) pos) (tRet te):=by
 intro pins s σ H D I h
 exact wpAny_Return_some (thn (he pins s σ H _ I h) fun v s1 ⟨x,H1,I1,r1,q1⟩=>⟨x,σ,H1,I1,r1,q1⟩)
def tIfS(c:TT)(t u:TS):TS:=fun D σ H=>c σ H fun b H1=>if b=true then t D σ H1 else u D σ H1
theorem ps_if{c:Expr}{a b:List Stmt}{tc:TT}(hc:PT X c tc)(ha:PSs X a t)(hb:PSs X b u):PS X (.If c a b pos) (tIfS tc t u):=by
 intro pins s σ H D I h
 refine wpAny_If (thn (hc pins s σ H _ I h) fun d s1 ⟨H1,I1,q1⟩=>?_)
 cases d with
 | true=>exact ha pins s1 σ H1 D I1 q1
 | false=>exact hb pins s1 σ H1 D I1 q1
end
abbrev TG:=V→St→Hp→(St→Hp→Prop)→Prop
abbrev TGs:=List V→St→Hp→(St→Hp→Prop)→Prop
def PG(X:Cx)(target:Expr)(t:TG):Prop:=
 ∀(pins:List (Addr×Obj)) (s:Shared) (σ:St) (H:Hp) (v:V) (u:Value) (Q:St→Hp→Prop),Inv X pins σ H s→RelV v u→t v σ H Q →
  wpAny (model X.prog X.w) X.A (assign target X.env u) (fun _ s'=>∃ σ' H',Inv X pins σ' H' s'∧Q σ' H') X.xe s
def PGs(X:Cx)(ts:List Expr)(t:TGs):Prop:=
 ∀(pins:List (Addr×Obj)) (s:Shared) (σ:St) (H:Hp) (vs:List V) (us:List Value) (Q:St→Hp→Prop),Inv X pins σ H s→Vals vs us→t vs σ H Q →
  wpAny (model X.prog X.w) X.A (assignInOrder ((assignEach ts X.env).map (·.2)) us) (fun _ s'=>∃ σ' H',Inv X pins σ' H' s'∧Q σ' H') X.xe s
section
variable{X:Cx}{pos:Pos}
def gName(i:Nat):TG:=fun v σ H Q=>Q (σ.set i (some v)) H
theorem pg_name{i:Nat}{x:Str}(hN:X.N.Nodup)(hi:X.N[i]? = some x)(hx:Loc X.env.scope x)(hf:X.fn x=true∨X.env.scope.names.lookup x=some .local:=by first | exact .inl rfl | exact .inr rfl | assumption):PG X (.Name x pos) (gName i):=by
 intro pins s σ H v u Q I r h
 exact wpAny_assign_Name (store_ok I hN hi hx r (fun s' I'=>⟨_,H,I',h⟩) hf)
def gNil:TGs:=fun vs σ H Q=>vs=[]∧Q σ H
def gCons(t:TG)(u:TGs):TGs:=fun vs σ H Q=>∃ v r,vs=v :: r∧t v σ H fun σ' H'=>u r σ' H' Q
theorem pgs_nil:PGs X [] gNil:=by
 intro pins s σ H vs us Q I r h
 obtain⟨e,h⟩:=h
 subst e
 cases r
 exact assignInOrder_nil ⟨σ,H,I,h⟩
theorem pgs_cons{e:Expr}{es:List Expr}{t:TG}{u:TGs}(h1:PG X e t)(h2:PGs X es u)
  (hs:(assignEach (e :: es) X.env).map (·.2)=assign e X.env :: (assignEach es X.env).map (·.2):=by rfl):PGs X (e :: es) (gCons t u):=by
 intro pins s σ H vs us Q I r h
 obtain⟨v,vr,e1,h⟩:=h
 subst e1
 cases r with
 | cons r rr=>
  rw[hs]
  refine assignInOrder_cons (thn (h1 pins s σ H _ _ _ I r h) fun _ s1 ⟨σ1,H1,I1,q1⟩=>?_)
  exact h2 pins s1 σ1 H1 _ _ Q I1 rr q1
def gTup(K:PySem.W.Frag)(n:Nat)(t:TGs):TG:=fun v σ H Q=>∃ a xs,v = .ref a∧SqT K H a xs∧xs.length=n∧t xs σ H Q
theorem pg_tup{es:List Expr}{k:Nat}{t:TGs}{n:Nat}(hc:X.calm=true)(h:PGs X es t)
  (hn:(assignEach es X.env).length=n:=by rfl) (hst:(assignEach es X.env).findIdx? (·.1)=none:=by rfl):PG X (.Tuple es k pos) (gTup X.K n t):=by
 intro pins s σ H v u Q I r hw
 obtain⟨a,xs,e1,hq,hl,hw⟩:=hw
 subst e1
 cases r
 obtain⟨its,rv,ht,hz⟩:=I.tuple hq
 refine assign_Tuple_tuple (I.ok.hd hc) ht (by simp [hn,← hl,rv.length]) hst fun h' hx=>?_
 have I1:Inv X pins σ H { s with heap:=h' }:=I.kept (t':=s.toks) fun b o e=>hx b o (Nat.ne_of_lt (Heap.lt_size e)) e
 exact h pins _ σ H xs _ Q I1 (by simpa using rv) hw
def tAsg(te:TE)(g:TG):TS:=fun D σ H=>te σ H fun x H1=>g x σ H1 D.nx
theorem ps_asg{tg e:Expr}{te:TE}{g:TG}(he:PE X e te)(hg:PG X tg g)(hs:swapsWithSole [tg] e pos.line X.env=pure false:=by rfl)(hw:swappedStores [tg] e X.env=pure none:=by rfl)
  (h1:(assignEach [tg] X.env).map (·.2)=[assign tg X.env]:=by rfl):PS X (.Assign [tg] e pos) (tAsg te g):=by
 intro pins s σ H D I h
 refine wpAny_Assign_stores (thn (he pins s σ H _ I h) fun v s1 ⟨x,H1,I1,r1,q1⟩=>?_) hs hw
 rw[h1]
 exact thn (hg pins s1 σ H1 x v _ I1 r1 q1) fun _ s2 q=>q
theorem ps_set{i:Nat}{x:Str}{e:Expr}{te:TE}{pos':Pos}(hN:X.N.Nodup)(hi:X.N[i]? = some x)(hx:Loc X.env.scope x)(he:PE X e te)(hs:swapsWith e (some (.Name x pos')) pos.line X.env=pure false:=by rfl)(hf:X.fn x=true∨X.env.scope.names.lookup x=some .local:=by first | exact .inl rfl | exact .inr rfl | assumption) :
  PS X (.Assign [.Name x pos'] e pos) (tAsg te (gName i)):=by
 intro pins s σ H D I h
 refine wpAny_Assign_Name (thn (he pins s σ H _ I h) fun v s1 ⟨y,H1,I1,r1,q1⟩=>?_) hs
 exact store_ok I1 hN hi hx r1 (fun s2 I2=>⟨_,H1,I2,q1⟩) hf
end
section
variable{X:Cx}{pos:Pos}
def tWhile(c:TT)(tb:TS):TS:=fun D σ H=>∃ W:Nat→St→Hp→Prop,(∃ m,W m σ H)∧∀ m σ H,W m σ H →
 c σ H fun b H1=>if b=true then ∃ N:St→Hp→Prop,(∀ σ' H',N σ' H'→∃ m',m' < m∧W m' σ' H')∧tb { D with nx:=N,ct:=N,bk:=D.nx } σ H1 else D.nx σ H1
theorem ps_while{c:Expr}{body:List Stmt}{tc:TT}{tb:TS}(hp:PassesOwn (model X.prog X.w) X.A X.env X.xe)(hc:PT X c tc)(hb:PSs X body tb):PS X (.While c body [] pos) (tWhile tc tb):=by
 intro pins s σ H D I h
 obtain⟨W,⟨m0,w0⟩,turn⟩:=h
 refine wpAny_While (codeAny_whileLoop (fun n s'=>∃ σ' H',Inv X pins σ' H' s'∧W n σ' H') ?_ m0 ⟨σ,H,I,w0⟩)
 rintro n s1 ⟨σ1,H1,I1,w1⟩
 refine wpAny_passesOwn hp (thn (hc pins s1 σ1 H1 _ I1 (turn n σ1 H1 w1)) fun b s2 ⟨H2,I2,q2⟩=>?_)
 cases b with
 | true=>
  obtain⟨N,hN,q2⟩:=q2
  rw[if_pos rfl]
  refine wpAny_passesOwn hp (thn (hb pins s2 σ1 H2 _ I2 q2) fun f s3 q3=>?_)
  cases f with
  | next=>
   obtain⟨σ3,H3,I3,n3⟩:=q3
   obtain⟨m',hm,w3⟩:=hN σ3 H3 n3
   exact⟨m',hm,σ3,H3,I3,w3⟩
  | cont=>
   obtain⟨σ3,H3,I3,n3⟩:=q3
   obtain⟨m',hm,w3⟩:=hN σ3 H3 n3
   exact⟨m',hm,σ3,H3,I3,w3⟩
  | brk=>exact q3
  | ret v=>exact q3
 | false=>
  rw[if_neg Bool.false_ne_true]
  exact wpAny_execs_nil ⟨σ1,H2,I2,q2⟩
end
structure It where
 go:Nat→Hp→Prop
 yld:Nat→Hp→V→Hp→Prop
 stop:Nat→Hp→Prop
def FpOk(X:Cx)(pins:List (Addr×Obj))(H:Hp)(b:Addr):Prop:=
 H b=none∧b≠X.env.locals∧b∉X.fs∧(b∈X.ex∨X.s₀.heap.objs.size≤b)∧(∀ x c,X.env.cells.lookup x=some c→c≠b)∧∀ p∈X.pn++pins,p.1≠b
theorem Inv.fpOk{X:Cx}{pins:List (Addr×Obj)}{σ:St}{H H':Hp}{s:Shared}{b:Addr}(I:Inv X pins σ H s)(hb:s.heap.objs.size≤b)(hn:H' b=none):FpOk X pins H' b:=by
 refine⟨hn,Nat.ne_of_gt (Nat.lt_of_lt_of_le I.lt hb),I.nofs hb,.inr (Nat.le_trans I.sz hb),fun x c e z=>?_,fun p hp z=>?_⟩
 ·obtain⟨v,q⟩:=I.cell x c e
  exact absurd (Nat.lt_of_lt_of_le q.lt (by rw[z];exact hb)) (Nat.lt_irrefl _)
 ·exact absurd (Nat.lt_of_lt_of_le (Heap.lt_size (I.pin p hp).1) (by rw[z];exact hb)) (Nat.lt_irrefl _)
structure Turn(P:Program)(w:World)(K:PySem.W.Frag)(tg:Expr)(J:It)(fp:List Addr)(it:Addr)(tn:Nat→Heap→Prop):Prop where
 mem:it∈fp
 obj:∀ i h,tn i h→∀ b∈fp,∃ o,h.get? b=some o∧∀ v,o.data ≠ .cell v
 keep:∀ i h h',tn i h→(∀ b∈fp,∀ o,h.get? b=some o→h'.get? b=some o)→tn i h'
 item:∀(X:Cx),X.prog=P→X.w=w→X.K=K→X.calm=true→∀(i:Nat) (pins:List (Addr×Obj)) (s:Shared) (σ:St) (H:Hp) (E:Value→Shared→Prop),Inv X pins σ H s→(∀ b∈fp,FpOk X pins H b)→tn i s.heap→J.go i H →
  wpAny (model P w) X.A (pyNext (.ref it)) (fun r s1=>∃ u,r=some u ∧
   wpAny (model P w) X.A (letOwnedTupleGo tg (.ref it) u) (fun _ s2=>∃ x H',Inv X pins σ H' s2∧RelV x u∧J.yld i H x H'∧tn (i+1) s2.heap∧∀ b∈fp,H' b=none) E s1) E s
 done:∀(X:Cx),X.prog=P→X.w=w→X.K=K→X.calm=true→∀(i:Nat) (pins:List (Addr×Obj)) (s:Shared) (σ:St) (H:Hp) (E:Value→Shared→Prop),Inv X pins σ H s→(∀ b∈fp,FpOk X pins H b)→tn i s.heap→J.stop i H →
  wpAny (model P w) X.A (pyNext (.ref it)) (fun r s1=>r=none∧Inv X pins σ H s1) E s
 self:∀(A:Around) (i:Nat) (s:Shared) (Q:Value→Shared→Prop) (E:Value→Shared→Prop),tn i s.heap→Q (.ref it) s→wpAny (model P w) A (pyIter (.ref it)) Q E s
abbrev TI:=St→Hp→(It→Hp→Prop)→Prop
def PIE(X:Cx)(pins:List (Addr×Obj))(σ:St)(tg:Expr)(R:It→Hp→Prop)(itv:Value)(s2:Shared):Prop:=
 ∃(it:Addr) (fp:List Addr) (tn:Nat→Heap→Prop) (J:It) (H':Hp),itv = .ref it∧Inv X pins σ H' s2∧Turn X.prog X.w X.K tg J fp it tn∧tn 0 s2.heap∧(∀ b∈fp,FpOk X pins H' b)∧R J H'
def PI(X:Cx)(tg iter:Expr)(wi:TI):Prop:=
 ∀(pins:List (Addr×Obj)) (s:Shared) (σ:St) (H:Hp) (R:It→Hp→Prop),Inv X pins σ H s→wi σ H R →
  wpAny (model X.prog X.w) X.A (eval iter X.env) (fun v s1=>wpAny (model X.prog X.w) X.A (pyIter v) (PIE X pins σ tg R) X.xe s1) X.xe s
theorem go_of{M:Model}{A:Around}{E:Value→Shared→Prop}{s:Shared}{tg:Expr}{it:Addr}{u:Value}{o:Obj}{n:String}{vs:Array Value}{Q:Unit→Shared→Prop}(ho:s.heap.get? it=some o)(hc:o.cls = .type n)(hd:o.data = .fields vs)
    (hn:["enumerate","zip","dict_itemiterator","dict_reverseitemiterator","odict_iterator","itertools.zip_longest","itertools.pairwise"].contains n=false) (hQ:Q () s):wpAny M A (letOwnedTupleGo tg (.ref it) u) Q E s:=by
  unfold letOwnedTupleGo
  cases tg<;>first
    | exact wpAny_pure hQ
    | (cases u<;>first
        | exact wpAny_pure hQ
        | (refine wpAny_bind (wpAny_load ho ?_)
           rw[hc,hd]
           show wpAny M A (if(["enumerate","zip","dict_itemiterator","dict_reverseitemiterator","odict_iterator","itertools.zip_longest","itertools.pairwise"].contains n && vs[0]? == some (rawInt _))=true then _ else _) Q E s
           rw[if_neg (by intro h;rw[hn,Bool.false_and] at h;cases h)]
           exact wpAny_pure hQ))
def Itl(K:PySem.W.Frag)(a:Addr):It:=
 ⟨fun i H=>∃ xs x,SqL K H a xs∧xs[i]? = some x,fun i H x H'=>H'=H∧∀ xs,SqL K H a xs→xs[i]? = some x,fun i H=>∃ xs,SqL K H a xs∧xs.length≤i⟩
def Itt(K:PySem.W.Frag)(a:Addr):It:=
 ⟨fun i H=>∃ xs x,SqT K H a xs∧xs[i]? = some x,fun i H x H'=>H'=H∧∀ xs,SqT K H a xs→xs[i]? = some x,fun i H=>∃ xs,SqT K H a xs∧xs.length≤i⟩
def Itr(lo:Int)(n:Nat):It:=⟨fun i _=>i < n,fun i H x H'=>H'=H∧x = .int (lo+i),fun i _=>n≤i⟩
theorem turn_list{P:Program}{w:World}{K:PySem.W.Frag}{tg:Expr}(a it:Addr):Turn P w K tg (Itl K a) [it] it (fun i h=>h.IsListIter it a i) where
 mem:=by simp
 obj:=fun i h st b hb=>by
  have e:b=it:=by simpa using hb
  subst e
  obtain⟨o,e,c,d⟩:=st
  exact⟨o,e,fun v z=>by rw[d] at z;cases z⟩
 keep:=fun i h h' st k=>st.at fun o e=>k it (by simp) o e
 item:=by
  intro X hP hw hK hc i pins s σ H E I hf st hg
  subst hP hw hK
  obtain⟨xs,x,hq,hx⟩:=hg
  obtain⟨its,rv,p,hz⟩:=I.list hq
  obtain⟨u,hu,ru⟩:=rv.get hx
  obtain⟨f0,f1,f2,f3,f4,f5⟩:=hf it (by simp)
  refine wpAny_pyNext_list_item st p.isList (x:=u) (by simpa using hu) fun h' st' sb=>?_
  have I1:Inv X pins σ H { s with heap:=h' }:=I.turned (t':=s.toks) (fun b o hb e=>(sb.2 b hb).trans e) f0 f1 f3 f4 f5
  obtain⟨o,e,c,d⟩:=id st'
  exact⟨u,rfl,go_of (s:={ s with heap:=h' }) e c d (by decide) ⟨x,H,I1,ru,⟨rfl,fun ys hy=>by rw[I.list_inj hy hq];exact hx⟩,st',fun b hb=>(hf b hb).1⟩⟩
 done:=by
  intro X hP hw hK hc i pins s σ H E I hf st hg
  subst hP hw hK
  obtain⟨xs,hq,hx⟩:=hg
  obtain⟨its,rv,p,hz⟩:=I.list hq
  obtain⟨f0,f1,f2,f3,f4,f5⟩:=hf it (by simp)
  have hl:=rv.length
  exact wpAny_pyNext_list_end (I.ok.hd hc) st p.isList (by simp;omega) fun h' eb=>⟨rfl,I.turned (t':=s.toks) (fun b o hb e=>eb b o hb e) f0 f1 f3 f4 f5⟩
 self:=fun _ _ _ _ _ st h=>wpAny_pyIter_listiter st h
theorem turn_tuple{P:Program}{w:World}{K:PySem.W.Frag}{tg:Expr}(a it:Addr):Turn P w K tg (Itt K a) [it] it (fun i h=>h.IsTupleIter it a i) where
 mem:=by simp
 obj:=fun i h st b hb=>by
  have e:b=it:=by simpa using hb
  subst e
  obtain⟨o,e,c,d⟩:=st
  exact⟨o,e,fun v z=>by rw[d] at z;cases z⟩
 keep:=fun i h h' st k=>st.at fun o e=>k it (by simp) o e
 item:=by
  intro X hP hw hK hc i pins s σ H E I hf st hg
  subst hP hw hK
  obtain⟨xs,x,hq,hx⟩:=hg
  obtain⟨its,rv,p,hz⟩:=I.tuple hq
  obtain⟨u,hu,ru⟩:=rv.get hx
  obtain⟨f0,f1,f2,f3,f4,f5⟩:=hf it (by simp)
  refine wpAny_pyNext_tuple_item st (show s.heap.IsTuple a its.toArray from p) (x:=u) (by simpa using hu) fun h' st' sb=>?_
  have I1:Inv X pins σ H { s with heap:=h' }:=I.turned (t':=s.toks) (fun b o hb e=>(sb.2 b hb).trans e) f0 f1 f3 f4 f5
  obtain⟨o,e,c,d⟩:=id st'
  exact⟨u,rfl,go_of (s:={ s with heap:=h' }) e c d (by decide) ⟨x,H,I1,ru,⟨rfl,fun ys hy=>by rw[I.tuple_inj hy hq];exact hx⟩,st',fun b hb=>(hf b hb).1⟩⟩
 done:=by
  intro X hP hw hK hc i pins s σ H E I hf st hg
  subst hP hw hK
  obtain⟨xs,hq,hx⟩:=hg
  obtain⟨its,rv,p,hz⟩:=I.tuple hq
  obtain⟨f0,f1,f2,f3,f4,f5⟩:=hf it (by simp)
  have hl:=rv.length
  exact wpAny_pyNext_tuple_end (I.ok.hd hc) st (show s.heap.IsTuple a its.toArray from p) (by simp;omega) fun h' eb=>⟨rfl,I.turned (t':=s.toks) (fun b o hb e=>eb b o hb e) f0 f1 f3 f4 f5⟩
 self:=fun _ _ _ _ _ st h=>wpAny_pyIter_tupleiter st h
theorem turn_range{P:Program}{w:World}{K:PySem.W.Frag}{tg:Expr}(it:Addr)(lo:Int)(n:Nat):Turn P w K tg (Itr lo n) [it] it (fun i h=>IsRangeIter h it (lo+(i:Nat) * 1) ((n:Int) - (i:Nat)) 1) where
 mem:=by simp
 obj:=fun i h st b hb=>by
  have e:b=it:=by simpa using hb
  subst e
  exact⟨_,st,fun v z=>by
   have z':Data.fields _=Data.cell v:=z
   cases z'⟩
 keep:=fun i h h' st k=>k it (by simp) _ st
 item:=by
  intro X hP hw hK hc i pins s σ H E I hf st hg
  subst hP hw hK
  obtain⟨f0,f1,f2,f3,f4,f5⟩:=hf it (by simp)
  have W:=Walks.range (prog:=X.prog) (w:=X.w) (I.ok.hd hc) it lo 1 n
  refine W.item i s _ _ hg st fun v h' tk hv st' kk=>?_
  obtain⟨t,rfl⟩:=hv
  have I1:Inv X pins σ H { s with heap:=h',toks:=tk }:=I.turned (fun b o hb e=>kk b o (by simpa using hb) e) f0 f1 f3 f4 f5
  refine⟨_,rfl,go_of (s:={ s with heap:=h',toks:=tk }) (n:="range_iterator") st' rfl rfl (by decide) ⟨.int (lo+i),H,I1,⟨t,?_⟩,⟨rfl,rfl⟩,st',fun b hb=>(hf b hb).1⟩⟩
  rw[Int.mul_one]
 done:=by
  intro X hP hw hK hc i pins s σ H E I hf st hg
  subst hP hw hK
  obtain⟨f0,f1,f2,f3,f4,f5⟩:=hf it (by simp)
  exact wpAny_pyNext_range_end (I.ok.hd hc) st (by have:n≤i:=hg;omega) fun h' eb=>⟨rfl,I.turned (t':=s.toks) (fun b o hb e=>eb b o hb e) f0 f1 f3 f4 f5⟩
 self:=fun _ _ _ _ _ st h=>wpAny_pyIter_rangeiter st h
end L2
namespace L2
open PySem PySem.Spec PyProof.Rows
section
variable{X:Cx}{tg:Expr}
def iList(K:PySem.W.Frag)(tl:TE):TI:=fun σ H R=>tl σ H fun x H1=>∃ a,x = .ref a∧(∃ xs,SqL K H1 a xs)∧R (Itl K a) H1
def iTup(K:PySem.W.Frag)(tl:TE):TI:=fun σ H R=>tl σ H fun x H1=>∃ a,x = .ref a∧(∃ xs,SqT K H1 a xs)∧R (Itt K a) H1
theorem pi_list{l:Expr}{tl:TE}(hl:PE X l tl):PI X tg l (iList X.K tl):=by
 intro pins s σ H R I h
 refine thn (hl pins s σ H _ I h) fun v s1 ⟨x,H1,I1,r1,q1⟩=>?_
 obtain⟨a,e,⟨xs,hq⟩,q⟩:=q1
 subst e
 cases r1
 obtain⟨its,rv,p,hz⟩:=I1.list hq
 refine wpAny_pyIter_list p.isList ?_
 refine⟨s1.heap.objs.size,[s1.heap.objs.size],_,_,H1,rfl,I1.kept (t':=s1.toks) fun b o e=>Heap.get?_push_of_some _ e,turn_list a _,⟨_,Heap.get?_push_size _ rfl,rfl,rfl⟩,fun b hb=>?_,q⟩
 have e:b=s1.heap.objs.size:=by simpa using hb
 subst e
 exact I1.fpOk (Nat.le_refl _) (I1.hok.fresh (Nat.le_refl _))
theorem pi_tup{l:Expr}{tl:TE}(hl:PE X l tl):PI X tg l (iTup X.K tl):=by
 intro pins s σ H R I h
 refine thn (hl pins s σ H _ I h) fun v s1 ⟨x,H1,I1,r1,q1⟩=>?_
 obtain⟨a,e,⟨xs,hq⟩,q⟩:=q1
 subst e
 cases r1
 obtain⟨its,rv,p,hz⟩:=I1.tuple hq
 refine wpAny_pyIter_tuple (show s1.heap.IsTuple a its.toArray from p) ?_
 refine⟨s1.heap.objs.size,[s1.heap.objs.size],_,_,H1,rfl,I1.kept (t':=s1.toks) fun b o e=>Heap.get?_push_of_some _ e,turn_tuple a _,⟨_,Heap.get?_push_size _ rfl,rfl,rfl⟩,fun b hb=>?_,q⟩
 have e:b=s1.heap.objs.size:=by simpa using hb
 subst e
 exact I1.fpOk (Nat.le_refl _) (I1.hok.fresh (Nat.le_refl _))
theorem range_it{pins:List (Addr×Obj)}{σ:St}{H:Hp}{s:Shared}{R:It→Hp→Prop}{E:Value→Shared→Prop}{lo hi:Int}{t u v:Tok}{tk:Nat}(I:Inv X pins σ H s)(h1:-(2 ^ 62)≤lo)(h2:lo < 2 ^ 62)(h3:-(2 ^ 62)≤hi)(h4:hi < 2 ^ 62)
  (q:R (Itr lo (hi - lo).toNat) H):wpAny (model X.prog X.w) X.A (pyIter (.ref s.heap.objs.size)) (PIE X pins σ tg R) E { s with heap:=s.heap.push { cls:=.type "range",data:=.fields #[.int lo t,.int hi u,.int 1 v] },toks:=tk }:=by
 refine wpAny_pyIter_range (IsRange.new ..) (small_one h1 h2 h3 h4) ?_
 have I1:Inv X pins σ H { s with heap:=s.heap.push { cls:=.type "range",data:=.fields #[.int lo t,.int hi u,.int 1 v] },toks:=tk }:=I.kept fun b o e=>Heap.get?_push_of_some _ e
 refine⟨(s.heap.push { cls:=.type "range",data:=.fields #[.int lo t,.int hi u,.int 1 v] }).objs.size,[(s.heap.push { cls:=.type "range",data:=.fields #[.int lo t,.int hi u,.int 1 v] }).objs.size],_,_,H,rfl,
  I1.kept (t':=tk) fun b o e=>Heap.get?_push_of_some _ e,turn_range _ lo (hi - lo).toNat,?_,fun b hb=>?_,q⟩
 ·have e1:lo+((0:Nat):Int) * 1=lo:=by simp
  have e2:(((hi - lo).toNat:Nat):Int) - ((0:Nat):Int)=Builtin.Range.rangeSize lo hi 1:=by rw[rangeSize_one];split<;>omega
  show IsRangeIter _ _ (lo+((0:Nat):Int) * 1) ((((hi - lo).toNat:Nat):Int) - ((0:Nat):Int)) 1
  rw[e1,e2]
  exact Heap.get?_push_size _ rfl
 ·have e:b=(s.heap.push { cls:=.type "range",data:=.fields #[.int lo t,.int hi u,.int 1 v] }).objs.size:=by simpa using hb
  subst e
  exact I1.fpOk (Nat.le_refl _) (I1.hok.fresh (Nat.le_refl _))
def iRng1(ta:TA):TI:=fun σ H R=>ta σ H fun vs H1=>∃ j:Int,vs=[.int j]∧-(2 ^ 62)≤j∧j < 2 ^ 62∧R (Itr 0 j.toNat) H1
theorem pi_range1{a:Expr}{ta:TA}{p pos:Pos}(hg:Gl X "range")(hm:X.mg "range" = none)(ha:PA X [a] ta)(hs:starEach [a] X.env=[(false,eval a X.env)]:=by rfl):PI X tg (.Call (.Name "range" p) [a] [] pos) (iRng1 ta):=by
 intro pins s σ H R I h
 refine Call_ (ld_blt I hg hm boot_range (PyProof.Rows.callWith_type1 (thn (ha pos pins s σ H _ I h) fun us s1 ⟨vs,H1,I1,r1,q1⟩=>?_) hs rfl))
 obtain⟨j,e,q1,q2,q⟩:=q1
 subst e
 cases r1 with
 | cons r rr=>
  cases rr
  obtain⟨t,rfl⟩:=r
  exact call_range_1 (range_it I1 (by omega) (by omega) q1 q2 (by simpa using q))
def tFor(wi:TI)(g:TG)(tb:TS):TS:=fun D σ H=>wi σ H fun J H1=>∃ W:Nat→Nat→St→Hp→Prop,(∃ m,W 0 m σ H1)∧∀ i m σ H,W i m σ H →
 (J.stop i H∧D.nx σ H)∨(J.go i H∧∃ N:St→Hp→Prop,(∀ σ' H',N σ' H'→∃ m',m' < m∧W (i+1) m' σ' H')∧∀ x H',J.yld i H x H'→g x σ H' fun σ2 H2=>tb { D with nx:=N,ct:=N,bk:=D.nx } σ2 H2)
def pinsAt(fp:List Addr)(h:Heap):List (Addr×Obj):=fp.filterMap fun b=>(h.get? b).map fun o=>(b,o)
theorem mem_pinsAt{fp:List Addr}{h:Heap}{b:Addr}{o:Obj}(hb:b∈fp)(e:h.get? b=some o):(b,o)∈pinsAt fp h:=List.mem_filterMap.mpr ⟨b,hb,by rw[e];rfl⟩
theorem of_pinsAt{fp:List Addr}{h:Heap}{p:Addr×Obj}(hp:p∈pinsAt fp h):p.1∈fp∧h.get? p.1=some p.2:=by
 obtain⟨b,hb,e⟩:=List.mem_filterMap.mp hp
 cases q:h.get? b with
 | none=>rw[q] at e;cases e
 | some o=>
  rw[q] at e
  have e':(b,o)=p:=Option.some.inj e
  subst e'
  exact⟨hb,q⟩
theorem Inv.pinned{pins:List (Addr×Obj)}{σ:St}{H:Hp}{s:Shared}{fp:List Addr}(I:Inv X pins σ H s)(hf:∀ b∈fp,FpOk X pins H b)(ho:∀ b∈fp,∃ o,s.heap.get? b=some o∧∀ v,o.data ≠ .cell v):Inv X (pins++pinsAt fp s.heap) σ H s:=
 I.pins_of fun p hp=>(List.mem_append.mp hp).elim (fun z=>I.pin p (List.mem_append_right _ z)) fun z=>by
  obtain⟨hb,e⟩:=of_pinsAt z
  obtain⟨f0,f1,f2,_⟩:=hf p.1 hb
  obtain⟨o,e',d⟩:=ho p.1 hb
  rw[e] at e';cases e'
  exact⟨e,f0,f1,f2,d⟩
theorem Inv.unpinned{pins pl:List (Addr×Obj)}{σ:St}{H:Hp}{s:Shared}(I:Inv X (pins++pl) σ H s):Inv X pins σ H s:=I.pins_of fun p hp=>I.pin p (List.mem_append_right _ (List.mem_append_left _ hp))
theorem ps_for{iter:Expr}{body:List Stmt}{wi:TI}{g:TG}{tb:TS}{pos:Pos}(hp:PassesOwn (model X.prog X.w) X.A X.env X.xe)(hc:X.calm=true)(hi:PI X tg iter wi)(hg:PG X tg g)(hb:PSs X body tb)
  (hs:∀ x,foldedSetIterable iter X.env x=pure x:=by intro _;rfl):PS X (.For tg iter body [] pos) (tFor wi g tb):=by
 intro pins s σ H D I h
 refine wpAny_For (thn (hi pins s σ H _ I h) fun v s1 h1=>thn h1 fun itv s2 h2=>?_) hs
 obtain⟨it,fp,tn,J,H2,e,I2,T,st2,f2,W,⟨m0,w0⟩,turn⟩:=h2
 subst e
 have stat:∀{H':Hp},(∀ b∈fp,H' b=none)→∀ b∈fp,FpOk X pins H' b:=fun hn b hb=>⟨hn b hb,(f2 b hb).2⟩
 refine codeAny_forLoop_any (fun n s'=>∃ i σ' H',Inv X pins σ' H' s'∧tn i s'.heap∧(∀ b∈fp,H' b=none)∧W i n σ' H') ?_ m0 ⟨0,σ,H2,I2,st2,fun b hb=>(f2 b hb).1,w0⟩
 rintro n s3 ⟨i,σ3,H3,I3,st3,fr3,w3⟩
 rcases turn i n σ3 H3 w3 with⟨stop,qn⟩ | ⟨go,N,hN,step⟩
 ·refine wpAny_passesOwn hp (thn (T.done X rfl rfl rfl hc i pins s3 σ3 H3 X.xe I3 (stat fr3) st3 stop) fun r s4 ⟨hr,I4⟩=>?_)
  subst hr
  exact wpAny_execs_nil ⟨σ3,H3,I4,qn⟩
 ·refine wpAny_passesOwn hp (thn (T.item X rfl rfl rfl hc i pins s3 σ3 H3 X.xe I3 (stat fr3) st3 go) fun r s4 ⟨u,hr,h4⟩=>?_)
  subst hr
  refine wpAny_passesOwn hp (thn h4 fun _ s5 ⟨x,H5,I5,r5,y5,st5,fr5⟩=>?_)
  have I5':=I5.pinned (stat fr5) (T.obj _ _ st5)
  refine wpAny_passesOwn hp (thn (hg _ s5 σ3 H5 x u _ I5' r5 (step x H5 y5)) fun _ s6 ⟨σ6,H6,I6,q6⟩=>?_)
  refine wpAny_passesOwn hp (thn (hb _ s6 σ6 H6 _ I6 q6) fun f s7 q7=>?_)
  have again:∀{σ7:St} {H7:Hp},Inv X (pins++pinsAt fp s5.heap) σ7 H7 s7→N σ7 H7→∃ m,m < n∧∃ i σ' H',Inv X pins σ' H' s7∧tn i s7.heap∧(∀ b∈fp,H' b=none)∧W i m σ' H':=fun {σ7 H7} I7 n7=>by
   obtain⟨m',hm,w7⟩:=hN σ7 H7 n7
   refine⟨m',hm,i+1,σ7,H7,I7.unpinned,T.keep _ _ _ st5 fun b hb o e=>(I7.pin (b,o) (List.mem_append_right _ (List.mem_append_right _ (mem_pinsAt hb e)))).1,fun b hb=>?_,w7⟩
   obtain⟨o,e,d⟩:=T.obj _ _ st5 b hb
   exact(I7.pin (b,o) (List.mem_append_right _ (List.mem_append_right _ (mem_pinsAt hb e)))).2.1
  cases f with
  | next=>obtain⟨σ7,H7,I7,n7⟩:=q7;exact again I7 n7
  | cont=>obtain⟨σ7,H7,I7,n7⟩:=q7;exact again I7 n7
  | brk=>obtain⟨σ7,H7,I7,q7⟩:=q7;exact⟨σ7,H7,I7.unpinned,q7⟩
  | ret v=>obtain⟨x7,σ7,H7,I7,r7,q7⟩:=q7;exact⟨x7,σ7,H7,I7.unpinned,r7,q7⟩
end
theorem for_list{K:PySem.W.Frag}{a:Addr}{xs:List V}{g:TG}{tb:TS}{D:Ends}{σ:St}{H:Hp}(Pv:Nat→St→Hp→Prop)(h0:Pv 0 σ H)(hl:∀ i σ H,i≤xs.length→Pv i σ H→SqL K H a xs)
  (hs:∀ i x σ H,xs[i]? = some x→Pv i σ H→g x σ H fun σ2 H2=>tb { D with nx:=Pv (i+1),ct:=Pv (i+1),bk:=D.nx } σ2 H2) (hd:∀ σ H,Pv xs.length σ H→D.nx σ H) :
  ∃ W:Nat→Nat→St→Hp→Prop,(∃ m,W 0 m σ H)∧∀ i m σ H,W i m σ H →
   ((Itl K a).stop i H∧D.nx σ H)∨((Itl K a).go i H∧∃ N:St→Hp→Prop,(∀ σ' H',N σ' H'→∃ m',m' < m∧W (i+1) m' σ' H')∧∀ x H',(Itl K a).yld i H x H'→g x σ H' fun σ2 H2=>tb { D with nx:=N,ct:=N,bk:=D.nx } σ2 H2):=by
 refine⟨fun i m σ H=>m=xs.length - i∧i≤xs.length∧Pv i σ H,⟨xs.length,by simp,Nat.zero_le _,h0⟩,?_⟩
 rintro i m σ H ⟨rfl,hi,p⟩
 have q:=hl i σ H hi p
 by_cases hlt:i < xs.length
 ·refine .inr ⟨⟨xs,xs[i],q,by simp [hlt]⟩,Pv (i+1),fun σ' H' p'=>⟨xs.length - (i+1),by omega,rfl,hlt,p'⟩,fun x H' y=>?_⟩
  obtain⟨e,y⟩:=y
  subst e
  exact hs i x σ _ (y xs q) p
 ·have e:i=xs.length:=by omega
  subst e
  exact .inl ⟨⟨xs,q,Nat.le_refl _⟩,hd σ H p⟩
theorem for_tup{K:PySem.W.Frag}{a:Addr}{xs:List V}{g:TG}{tb:TS}{D:Ends}{σ:St}{H:Hp}(Pv:Nat→St→Hp→Prop)(h0:Pv 0 σ H)(hl:∀ i σ H,i≤xs.length→Pv i σ H→SqT K H a xs)
  (hs:∀ i x σ H,xs[i]? = some x→Pv i σ H→g x σ H fun σ2 H2=>tb { D with nx:=Pv (i+1),ct:=Pv (i+1),bk:=D.nx } σ2 H2) (hd:∀ σ H,Pv xs.length σ H→D.nx σ H) :
  ∃ W:Nat→Nat→St→Hp→Prop,(∃ m,W 0 m σ H)∧∀ i m σ H,W i m σ H →
   ((Itt K a).stop i H∧D.nx σ H)∨((Itt K a).go i H∧∃ N:St→Hp→Prop,(∀ σ' H',N σ' H'→∃ m',m' < m∧W (i+1) m' σ' H')∧∀ x H',(Itt K a).yld i H x H'→g x σ H' fun σ2 H2=>tb { D with nx:=N,ct:=N,bk:=D.nx } σ2 H2):=by
 refine⟨fun i m σ H=>m=xs.length - i∧i≤xs.length∧Pv i σ H,⟨xs.length,by simp,Nat.zero_le _,h0⟩,?_⟩
 rintro i m σ H ⟨rfl,hi,p⟩
 have q:=hl i σ H hi p
 by_cases hlt:i < xs.length
 ·refine .inr ⟨⟨xs,xs[i],q,by simp [hlt]⟩,Pv (i+1),fun σ' H' p'=>⟨xs.length - (i+1),by omega,rfl,hlt,p'⟩,fun x H' y=>?_⟩
  obtain⟨e,y⟩:=y
  subst e
  exact hs i x σ _ (y xs q) p
 ·have e:i=xs.length:=by omega
  subst e
  exact .inl ⟨⟨xs,q,Nat.le_refl _⟩,hd σ H p⟩
theorem for_range{lo:Int}{n:Nat}{g:TG}{tb:TS}{D:Ends}{σ:St}{H:Hp}(Pv:Nat→St→Hp→Prop)(h0:Pv 0 σ H)
  (hs:∀ i σ H,i < n→Pv i σ H→g (.int (lo+i)) σ H fun σ2 H2=>tb { D with nx:=Pv (i+1),ct:=Pv (i+1),bk:=D.nx } σ2 H2) (hd:∀ σ H,Pv n σ H→D.nx σ H) :
  ∃ W:Nat→Nat→St→Hp→Prop,(∃ m,W 0 m σ H)∧∀ i m σ H,W i m σ H →
   ((Itr lo n).stop i H∧D.nx σ H)∨((Itr lo n).go i H∧∃ N:St→Hp→Prop,(∀ σ' H',N σ' H'→∃ m',m' < m∧W (i+1) m' σ' H')∧∀ x H',(Itr lo n).yld i H x H'→g x σ H' fun σ2 H2=>tb { D with nx:=N,ct:=N,bk:=D.nx } σ2 H2):=by
 refine⟨fun i m σ H=>m=n - i∧i≤n∧Pv i σ H,⟨n,by simp,Nat.zero_le _,h0⟩,?_⟩
 rintro i m σ H ⟨rfl,hi,p⟩
 by_cases hlt:i < n
 ·refine .inr ⟨hlt,Pv (i+1),fun σ' H' p'=>⟨n - (i+1),by omega,rfl,hlt,p'⟩,fun x H' y=>?_⟩
  obtain⟨e,y⟩:=y
  subst e y
  exact hs i σ _ hlt p
 ·have e:i=n:=by omega
  subst e
  exact .inl ⟨Nat.le_refl _,hd σ H p⟩
theorem while_by{c:TT}{tb:TS}{D:Ends}{σ:St}{H:Hp}(Pv:St→Hp→Prop)(μ:St→Hp→Nat)(h0:Pv σ H)
  (hs:∀ σ H,Pv σ H→c σ H fun b H1=>if b=true then tb { D with nx:=fun σ' H'=>Pv σ' H'∧μ σ' H' < μ σ H,ct:=fun σ' H'=>Pv σ' H'∧μ σ' H' < μ σ H,bk:=D.nx } σ H1 else D.nx σ H1)
  (mono:∀ σ H Q Q',(∀ b H1,Q b H1→Q' b H1)→c σ H Q→c σ H Q'):tWhile c tb D σ H:=by
 refine⟨fun m σ H=>m=μ σ H∧Pv σ H,⟨_,rfl,h0⟩,?_⟩
 rintro m σ H ⟨rfl,p⟩
 refine mono σ H _ _ (fun b H1 q=>?_) (hs σ H p)
 cases b with
 | true=>exact⟨_,fun σ' H' ⟨p',l⟩=>⟨_,l,rfl,p'⟩,q⟩
 | false=>exact q
end L2
namespace L2
open PySem PySem.Spec PyProof.Rows
abbrev R2:=V→V→Hp→VK→Prop
def OpR(X:Cx)(f:Value→Value→Sem Value)(r:R2):Prop:=
 ∀(pins:List (Addr×Obj)) (s:Shared) (σ:St) (H:Hp) (x y:V) (v u:Value) (Q:VK),Inv X pins σ H s→RelV x v→RelV y u→r x y H Q →
  wpAny (model X.prog X.w) X.A (f v u) (EP X pins σ Q) X.xe s
def UnR(X:Cx)(f:Value→Sem Value)(r:V→Hp→VK→Prop):Prop:=
 ∀(pins:List (Addr×Obj)) (s:Shared) (σ:St) (H:Hp) (x:V) (v:Value) (Q:VK),Inv X pins σ H s→RelV x v→r x H Q →
  wpAny (model X.prog X.w) X.A (f v) (EP X pins σ Q) X.xe s
def CallR(X:Cx)(f:Value)(r:List V→Hp→VK→Prop):Prop:=
 ∀(pins:List (Addr×Obj)) (s:Shared) (σ:St) (H:Hp) (xs:List V) (us:List Value) (Q:VK),Inv X pins σ H s→Vals xs us→r xs H Q →
  wpAny (model X.prog X.w) X.A (call f us) (EP X pins σ Q) X.xe s
def TruR(X:Cx)(r:V→Hp→(Bool→Hp→Prop)→Prop):Prop:=
 ∀(pins:List (Addr×Obj)) (s:Shared) (σ:St) (H:Hp) (x:V) (v:Value) (Q:Bool→Hp→Prop),Inv X pins σ H s→RelV x v→r x H Q →
  wpAny (model X.prog X.w) X.A (truthy v) (TP X pins σ Q) X.xe s
def tOp(r:R2)(ta tb:TE):TE:=fun σ H Q=>ta σ H fun x H1=>tb σ H1 fun y H2=>r x y H2 Q
def tUn(r:V→Hp→VK→Prop)(ta:TE):TE:=fun σ H Q=>ta σ H fun x H1=>r x H1 Q
def rI(C:Int→Int→Prop)(g:Int→Int→V):R2:=fun x y H Q=>∃ i j,x = .int i∧y = .int j∧C i j∧Q (g i j) H
def rI0(g:Int→Int→V):R2:=fun x y H Q=>∃ i j,x = .int i∧y = .int j∧Q (g i j) H
def rU(g:Int→V):V→Hp→VK→Prop:=fun x H Q=>∃ i,x = .int i∧Q (g i) H
section
variable{X:Cx}{a b c:Expr}{ta tb tc:TE}{pos:Pos}
theorem binT(ha:PE X a ta)(hb:PE X b tb){pins:List (Addr×Obj)}{s:Shared}{σ:St}{H:Hp}{R:V→V→Hp→Prop}(I:Inv X pins σ H s)
  (h:ta σ H fun x H1=>tb σ H1 fun y H2=>R x y H2) {Q:Value→Shared→Prop} {f:Value→Value→Sem Value}
  (hf:∀ v u s2 x y H2,Inv X pins σ H2 s2→RelV x v→RelV y u→R x y H2→wpAny (model X.prog X.w) X.A (f v u) Q X.xe s2) :
  wpAny (model X.prog X.w) X.A (eval a X.env) (fun v s₁=>wpAny (model X.prog X.w) X.A (eval b X.env) (fun u s₂=>wpAny (model X.prog X.w) X.A (f v u) Q X.xe s₂) X.xe s₁) X.xe s:=by
 refine thn (ha pins s σ H _ I h) fun v s1 ⟨x,H1,I1,r1,q1⟩=>?_
 refine thn (hb pins s1 σ H1 _ I1 q1) fun u s2 ⟨y,H2,I2,r2,q2⟩=>?_
 exact hf v u s2 x y H2 I2 r1 r2 q2
theorem pe_op{op:Operator}{r:R2}(ho:OpR X (binaryOp op) r)(ha:PE X a ta)(hb:PE X b tb):PE X (.BinOp a op b pos) (tOp r ta tb):=by
 intro pins s σ H Q I h
 exact wpAny_BinOp (binT ha hb I h fun v u s2 x y H2 I2 rx ry q=>ho pins s2 σ H2 x y v u Q I2 rx ry q)
theorem pe_un{op:UnaryOp}{r:V→Hp→VK→Prop}(ho:UnR X (unaryOp op) r)(ha:PE X a ta):PE X (.UnaryOp op a pos) (tUn r ta):=by
 intro pins s σ H Q I h
 exact UnaryOp_ (thn (ha pins s σ H _ I h) fun v s1 ⟨x,H1,I1,r1,q1⟩=>ho pins s1 σ H1 x v Q I1 r1 q1)
theorem opI{f:Value→Value→Sem Value}{C:Int→Int→Prop}{g:Int→Int→Int}
  (rule:∀(i j:Int) (t u:Tok) (s:Shared) (Q:Value→Shared→Prop) (E:Value→Shared→Prop),C i j→Q (.int (g i j) s.toks) { s with toks:=s.toks+1 }→wpAny (model X.prog X.w) X.A (f (.int i t) (.int j u)) Q E s) :
  OpR X f (rI C fun i j=>.int (g i j)):=by
 intro pins s σ H x y v u Q I rx ry h
 obtain⟨i,j,rfl,rfl,hc,q⟩:=h
 obtain⟨t,rfl⟩:=rx
 obtain⟨t',rfl⟩:=ry
 exact rule i j t t' s _ _ hc ⟨.int (g i j),H,I.tok _,⟨_,rfl⟩,q⟩
theorem opI0{f:Value→Value→Sem Value}{g:Int→Int→Int}
  (rule:∀(i j:Int) (t u:Tok) (s:Shared) (Q:Value→Shared→Prop) (E:Value→Shared→Prop),Q (.int (g i j) s.toks) { s with toks:=s.toks+1 }→wpAny (model X.prog X.w) X.A (f (.int i t) (.int j u)) Q E s) :
  OpR X f (rI0 fun i j=>.int (g i j)):=by
 intro pins s σ H x y v u Q I rx ry h
 obtain⟨i,j,rfl,rfl,q⟩:=h
 obtain⟨t,rfl⟩:=rx
 obtain⟨t',rfl⟩:=ry
 exact rule i j t t' s _ _ ⟨.int (g i j),H,I.tok _,⟨_,rfl⟩,q⟩
theorem opB0{f:Value→Value→Sem Value}{g:Int→Int→Bool}
  (rule:∀(i j:Int) (t u:Tok) (s:Shared) (Q:Value→Shared→Prop) (E:Value→Shared→Prop),Q (.bool (g i j)) s→wpAny (model X.prog X.w) X.A (f (.int i t) (.int j u)) Q E s) :
  OpR X f (rI0 fun i j=>.bl (g i j)):=by
 intro pins s σ H x y v u Q I rx ry h
 obtain⟨i,j,rfl,rfl,q⟩:=h
 obtain⟨t,rfl⟩:=rx
 obtain⟨t',rfl⟩:=ry
 exact rule i j t t' s _ _ ⟨.bl (g i j),H,I,rfl,q⟩
def CDiv(i j:Int):Prop:=0 < j∧j < 1073741824
def CPow(i j:Int):Prop:=0≤j∧j≤1000000∧i.natAbs < 2 ^ 64
def CMul(i j:Int):Prop:=(-(2 ^ 64) < i∧i < 2 ^ 64)∨(-(2 ^ 64) < j∧j < 2 ^ 64)
theorem CMul.ok{i j:Int}(h:CMul i j):IntMulOk i j:=by
 rcases h with⟨h1,h2⟩ | ⟨h1,h2⟩
 ·exact .of_left (intBits_le_64 h1 h2)
 ·exact .of_right (intBits_le_64 h1 h2)
theorem two_pow_nn(k:Nat):(0:Int)≤2 ^ k:=by
 rw[two_pow_cast]
 exact Int.natCast_nonneg _
theorem op_add:OpR X (binaryOp .Add) (rI0 fun i j=>.int (i+j)):=opI0 fun _ _ _ _ _ _ _ q=>add_int q
theorem op_sub:OpR X (binaryOp .Sub) (rI0 fun i j=>.int (i - j)):=opI0 fun _ _ _ _ _ _ _ q=>sub_int q
theorem op_mul:OpR X (binaryOp .Mult) (rI CMul fun i j=>.int (i * j)):=opI fun _ _ _ _ _ _ _ hc q=>mul_int q hc.ok
theorem op_fdiv:OpR X (binaryOp .FloorDiv) (rI CDiv fun i j=>.int (i / j)):=opI fun i j _ _ _ _ _ hc q=>by
 have h1:(0:Int) < j:=hc.1
 have h2:j < 1073741824:=hc.2
 exact floordiv_int (by omega) (by rw[Int.fdiv_eq_ediv_of_nonneg i (by omega)];exact q) (.inl (PyProof.noPylong_small (by omega)))
theorem op_mod:OpR X (binaryOp .Mod) (rI (fun _ j=>0 < j) fun i j=>.int (i % j)):=opI fun i j _ _ _ _ _ hc q=>by
 have h1:(0:Int) < j:=hc
 exact mod_int' (by omega) (by rw[Int.fmod_eq_emod_of_nonneg i (by omega)];exact q)
theorem op_pow:OpR X (binaryOp .Pow) (rI CPow fun i j=>.int (i ^ j.toNat)):=opI fun _ _ _ _ _ _ _ hc q=>pow_int_small hc.1 hc.2.1 hc.2.2 q
theorem op_shl:OpR X (binaryOp .LShift) (rI CPow fun i j=>.int (i * 2 ^ j.toNat)):=opI fun _ _ _ _ _ _ _ hc q=>lshift_int_small hc.1 hc.2.1 hc.2.2 q
theorem op_shr:OpR X (binaryOp .RShift) (rI (fun _ j=>0≤j) fun i j=>.int (i / 2 ^ j.toNat)):=opI fun i j _ _ _ _ _ hc q=>
 rshift_int hc (by rw[Int.fdiv_eq_ediv_of_nonneg i (two_pow_nn _)];exact q)
theorem op_and:OpR X (binaryOp .BitAnd) (rI0 fun i j=>.int (Builtin.bitAnd i j)):=opI0 fun _ _ _ _ _ _ _ q=>and_int q
theorem op_or:OpR X (binaryOp .BitOr) (rI0 fun i j=>.int (Builtin.bitOr i j)):=opI0 fun _ _ _ _ _ _ _ q=>or_int q
theorem unI{f:Value→Sem Value}{g:Int→Int}
  (rule:∀(i:Int) (t:Tok) (s:Shared) (Q:Value→Shared→Prop) (E:Value→Shared→Prop),Q (.int (g i) s.toks) { s with toks:=s.toks+1 }→wpAny (model X.prog X.w) X.A (f (.int i t)) Q E s) :
  UnR X f (rU fun i=>.int (g i)):=by
 intro pins s σ H x v Q I rx h
 obtain⟨i,rfl,q⟩:=h
 obtain⟨t,rfl⟩:=rx
 exact rule i t s _ _ ⟨.int (g i),H,I.tok _,⟨_,rfl⟩,q⟩
theorem un_neg:UnR X (unaryOp .USub) (rU fun i=>.int (-i)):=unI fun _ _ _ _ _ q=>neg_int q
end
def scal:V→V→Bool
 | .non,.non=>true | .non,.int _=>true | .int _,.non=>true | .non,.bl _=>true | .bl _,.non=>true | .non,.str _=>true | .str _,.non=>true
 | .int _,.int _=>true | .bl _,.bl _=>true | .str _,.str _=>true | .byt _,.byt _=>true
 | .int _,.str _=>true | .str _,.int _=>true | .bl _,.str _=>true | .str _,.bl _=>true
 | _,_=>false
def rEq:R2:=fun x y H Q=>scal x y=true∧Q (.bl (decide (x=y))) H
def rNe:R2:=fun x y H Q=>scal x y=true∧Q (.bl (!decide (x=y))) H
theorem dec_int{i j:Int}:decide (V.int i=V.int j)=(i == j):=by
 rw[Bool.eq_iff_iff]
 simp
theorem dec_bl{i j:Bool}:decide (V.bl i=V.bl j)=(i == j):=by
 rw[Bool.eq_iff_iff]
 simp
theorem dec_str{i j:Str}:decide (V.str i=V.str j)=(i == j):=by
 rw[Bool.eq_iff_iff]
 simp
theorem dec_byt{i j:Array UInt8}:decide (V.byt i=V.byt j)=(i.toList == j.toList):=by
 rw[Bool.eq_iff_iff]
 cases i
 cases j
 simp
section
variable{X:Cx}{a b c:Expr}{ta tb tc:TE}{pos:Pos}
theorem fin_bl{pins:List (Addr×Obj)}{σ:St}{H:Hp}{s:Shared}{Q:VK}{k k':Bool}(I:Inv X pins σ H s)(q:Q (.bl k) H)(e:k=k'):EP X pins σ Q (.bool k') s:=by
 subst e
 exact⟨.bl k,H,I,rfl,q⟩
theorem op_eq:OpR X (compareOp .Eq) rEq:=by
 intro pins s σ H x y v u Q I rx ry h
 obtain⟨hs,q⟩:=h
 cases x with
 | non=>
  cases rx
  cases y with
  | non=>cases ry;exact PySem.EqNone.eq_none_none (fin_bl I q (by simp))
  | bl j=>cases ry;exact PySem.EqNone.eq_none_bool (fin_bl I q (by simp))
  | int j=>obtain⟨t',rfl⟩:=ry;exact PySem.EqNone.eq_none_int (fin_bl I q (by simp))
  | str j=>obtain⟨t',rfl⟩:=ry;exact PySem.EqNone.eq_none_str (fin_bl I q (by simp))
  | _=>exact absurd (show false=true from hs) Bool.false_ne_true
 | bl i=>
  cases rx
  cases y with
  | non=>cases ry;exact PySem.EqNone.eq_bool_none (fin_bl I q (by simp))
  | bl j=>cases ry;exact eq_bool (fin_bl I q dec_bl)
  | str j=>obtain⟨t',rfl⟩:=ry;exact PySem.EqMixed.eq_bool_str (fin_bl I q (by simp))
  | _=>exact absurd (show false=true from hs) Bool.false_ne_true
 | int i=>
  obtain⟨t,rfl⟩:=rx
  cases y with
  | non=>cases ry;exact PySem.EqNone.eq_int_none (fin_bl I q (by simp))
  | int j=>obtain⟨t',rfl⟩:=ry;exact eq_int (fin_bl I q dec_int)
  | str j=>obtain⟨t',rfl⟩:=ry;exact PySem.EqMixed.eq_int_str (fin_bl I q (by simp))
  | _=>exact absurd (show false=true from hs) Bool.false_ne_true
 | str i=>
  obtain⟨t,rfl⟩:=rx
  cases y with
  | non=>cases ry;exact PySem.EqNone.eq_str_none (fin_bl I q (by simp))
  | bl j=>cases ry;exact PySem.EqMixed.eq_str_bool (fin_bl I q (by simp))
  | int j=>obtain⟨t',rfl⟩:=ry;exact PySem.EqMixed.eq_str_int (fin_bl I q (by simp))
  | str j=>obtain⟨t',rfl⟩:=ry;exact eq_str (fin_bl I q dec_str)
  | _=>exact absurd (show false=true from hs) Bool.false_ne_true
 | byt i=>
  obtain⟨t,rfl⟩:=rx
  cases y with
  | byt j=>obtain⟨t',rfl⟩:=ry;exact PySem.W.eq_bytes (fin_bl I q dec_byt)
  | _=>exact absurd (show false=true from hs) Bool.false_ne_true
 | _=>cases y<;>exact absurd (show false=true from hs) Bool.false_ne_true
theorem op_ne:OpR X (compareOp .NotEq) rNe:=by
 intro pins s σ H x y v u Q I rx ry h
 obtain⟨hs,q⟩:=h
 cases x with
 | non=>
  cases rx
  cases y with
  | non=>cases ry;exact PySem.EqNone.ne_none_none (fin_bl I q (by simp))
  | bl j=>cases ry;exact PySem.EqNone.ne_none_bool (fin_bl I q (by simp))
  | int j=>obtain⟨t',rfl⟩:=ry;exact PySem.EqNone.ne_none_int (fin_bl I q (by simp))
  | str j=>obtain⟨t',rfl⟩:=ry;exact PySem.EqNone.ne_none_str (fin_bl I q (by simp))
  | _=>exact absurd (show false=true from hs) Bool.false_ne_true
 | bl i=>
  cases rx
  cases y with
  | non=>cases ry;exact PySem.EqNone.ne_bool_none (fin_bl I q (by simp))
  | bl j=>cases ry;exact ne_bool (fin_bl I q (congrArg not dec_bl))
  | str j=>obtain⟨t',rfl⟩:=ry;exact PySem.EqMixed.ne_bool_str (fin_bl I q (by simp))
  | _=>exact absurd (show false=true from hs) Bool.false_ne_true
 | int i=>
  obtain⟨t,rfl⟩:=rx
  cases y with
  | non=>cases ry;exact PySem.EqNone.ne_int_none (fin_bl I q (by simp))
  | int j=>obtain⟨t',rfl⟩:=ry;exact ne_int (fin_bl I q (congrArg not dec_int))
  | str j=>obtain⟨t',rfl⟩:=ry;exact PySem.EqMixed.ne_int_str (fin_bl I q (by simp))
  | _=>exact absurd (show false=true from hs) Bool.false_ne_true
 | str i=>
  obtain⟨t,rfl⟩:=rx
  cases y with
  | non=>cases ry;exact PySem.EqNone.ne_str_none (fin_bl I q (by simp))
  | bl j=>cases ry;exact PySem.EqMixed.ne_str_bool (fin_bl I q (by simp))
  | int j=>obtain⟨t',rfl⟩:=ry;exact PySem.EqMixed.ne_str_int (fin_bl I q (by simp))
  | str j=>obtain⟨t',rfl⟩:=ry;exact ne_str (fin_bl I q (congrArg not dec_str))
  | _=>exact absurd (show false=true from hs) Bool.false_ne_true
 | byt i=>
  obtain⟨t,rfl⟩:=rx
  cases y with
  | byt j=>obtain⟨t',rfl⟩:=ry;exact PySem.W.ne_bytes (fin_bl I q (congrArg not dec_byt))
  | _=>exact absurd (show false=true from hs) Bool.false_ne_true
 | _=>cases y<;>exact absurd (show false=true from hs) Bool.false_ne_true
theorem op_lt:OpR X (compareOp .Lt) (rI0 fun i j=>.bl (decide (i < j))):=opB0 fun _ _ _ _ _ _ _ q=>lt_int q
theorem op_gt:OpR X (compareOp .Gt) (rI0 fun i j=>.bl (decide (j < i))):=opB0 fun _ _ _ _ _ _ _ q=>gt_int q
theorem op_isN:OpR X (compareOp .Is) (fun x y H Q=>y = .non∧Q (.bl (decide (x = .non))) H):=by
 intro pins s σ H x y v u Q I rx ry h
 obtain⟨rfl,q⟩:=h
 cases ry
 refine is_none_gen (fin_bl I q ?_)
 cases x<;>first
  | (cases rx;rfl)
  | (obtain⟨t,rfl⟩:=rx;rfl)
theorem nomark(b:Expr){op:CmpOp}(h:op ≠ .In:=by decide)(h2:op ≠ .NotIn:=by decide):behindInMarks op b=false:=by
 have e1:(op == CmpOp.In)=false:=by cases op<;>first | rfl | exact absurd rfl h
 have e2:(op == CmpOp.NotIn)=false:=by cases op<;>first | rfl | exact absurd rfl h2
 cases b<;>simp [behindInMarks,e1,e2]
theorem pe_cmpR{op:CmpOp}{r:R2}(ho:OpR X (compareOp op) r)(ha:PE X a ta)(hb:PE X b tb)(hm:behindInMarks op b=false):PE X (.Compare a [op] [b] pos) (tOp r ta tb):=by
 intro pins s σ H Q I h
 exact wpAny_Compare1 (binT ha hb I h fun v u s2 x y H2 I2 rx ry q=>ho pins s2 σ H2 x y v u Q I2 rx ry q) hm
def tTest(t:TE):TT:=fun σ H Q=>t σ H fun x H'=>∃ k,x = .bl k∧Q k H'
theorem pt_cmpR{op:CmpOp}{r:R2}(ho:OpR X (compareOp op) r)(ha:PE X a ta)(hb:PE X b tb)(hm:behindInMarks op b=false):PT X (.Compare a [op] [b] pos) (tTest (tOp r ta tb)):=by
 intro pins s σ H Q I h
 refine wpAny_isTrue_Compare1 (thn (ha pins s σ H _ I h) fun v s1 ⟨x,H1,I1,r1,q1⟩=>thn (hb pins s1 σ H1 _ I1 q1) fun u s2 ⟨y,H2,I2,r2,q2⟩=>
  thn (ho pins s2 σ H2 x y v u _ I2 r1 r2 q2) fun c s3 ⟨z,H3,I3,r3,k,e,q3⟩=>?_) hm
 subst e
 cases r3
 exact wpAny_truthy_bool ⟨H3,I3,q3⟩
def tChain(r r':R2)(ta tb tc:TE):TE:=fun σ H Q=>ta σ H fun x H1=>tb σ H1 fun y H2=>r x y H2 fun z H3=>∃ k,z = .bl k ∧
 (if k=true then tc σ H3 fun w' H4=>r' y w' H4 Q else Q (.bl false) H3)
theorem pt_chain{op op':CmpOp}{r r':R2}(ho:OpR X (compareOp op) r)(ho':OpR X (compareOp op') r')(ha:PE X a ta)(hb:PE X b tb)(hc:PE X c tc)
  (hm:lastMarks [op,op'] [b,c]=false:=by with_unfolding_all rfl):PT X (.Compare a [op,op'] [b,c] pos) (tTest (tChain r r' ta tb tc)):=by
 intro pins s σ H Q I h
 refine isTrue_chain (thn (ha pins s σ H _ I h) fun v s1 ⟨x,H1,I1,r1,q1⟩=>test_link (thn (hb pins s1 σ H1 _ I1 q1) fun u s2 ⟨y,H2,I2,r2,q2⟩=>
  thn (ho pins s2 σ H2 x y v u _ I2 r1 r2 q2) fun d s3 ⟨z,H3,I3,r3,k,e,q3⟩=>?_)) hm
 subst e
 cases r3
 refine wpAny_truthy_bool ?_
 cases k with
 | false=>
  obtain⟨k',e',q'⟩:=q3
  cases e'
  exact ite_ff ⟨H3,I3,q'⟩
 | true=>
  refine ite_tt (test_last (thn (hc pins s3 σ H3 _ I3 q3) fun w' s4 ⟨z',H4,I4,r4,q4⟩=>thn (ho' pins s4 σ H4 y z' u w' _ I4 r2 r4 q4) fun d' s5 ⟨z2,H5,I5,r5,k2,e2,q5⟩=>?_))
  subst e2
  cases r5
  exact wpAny_truthy_bool ⟨H5,I5,q5⟩
def TruV(K:PySem.W.Frag)(x:V)(H:Hp)(k:Bool):Prop:=
 match x with
 | .non=>k=false
 | .bl b=>k=b
 | .int i=>k=(i != 0)
 | .str y=>y.length≤sizeLine∧k=((y.length:Int) != 0)
 | .byt y=>y.size≤sizeLine∧k=((y.size:Int) != 0)
 | .ref p=>(∃ xs,SqL K H p xs∧k = !xs.isEmpty)∨(∃ xs,SqT K H p xs∧k = !xs.isEmpty)∨∃ kvs,H p=some (.dK kvs)∧k = !kvs.isEmpty
 | _=>False
theorem isEmpty_kv{κ:Type}{kvs:List (κ×V)}{vs:List (κ×Value)}(r:KV kvs vs):(!vs.isEmpty) = !kvs.isEmpty:=by
 cases r<;>rfl
theorem isEmpty_of{xs:List V}{its:List Value}(r:Vals xs its):(!its.toArray.isEmpty) = !xs.isEmpty:=by
 cases r<;>simp
theorem line63:(sizeLine:Nat) < 2 ^ 63:=by rw[sizeLine_eq];decide
theorem tru_ok:TruR X (fun x H Q=>∃ k,TruV X.K x H k∧Q k H):=by
 intro pins s σ H x v Q I rx h
 obtain⟨k,e,q⟩:=h
 have hl:=line63
 have hs:sizeLine=16777216:=sizeLine_eq
 cases x with
 | non=>
  cases rx
  have e':k=false:=e
  subst e'
  exact truthy_none ⟨H,I,q⟩
 | bl b=>
  cases rx
  have e':k=b:=e
  subst e'
  exact wpAny_truthy_bool ⟨H,I,q⟩
 | int i=>
  obtain⟨t,rfl⟩:=rx
  have e':k=(i != 0):=e
  subst e'
  exact PySem.P.truthy_int ⟨H,I,q⟩
 | str y=>
  obtain⟨t,rfl⟩:=rx
  obtain⟨hy,e'⟩:y.length≤sizeLine∧k=((y.length:Int) != 0):=e
  subst e'
  exact PySem.P.truthy_str (by omega) ⟨H,I.tok _,q⟩
 | byt y=>
  obtain⟨t,rfl⟩:=rx
  obtain⟨hy,e'⟩:y.size≤sizeLine∧k=((y.size:Int) != 0):=e
  subst e'
  exact PySem.W.truthy_bytes (by omega) ⟨H,I.tok _,q⟩
 | ref p=>
  cases rx
  have e':(∃ xs,SqL X.K H p xs∧k = !xs.isEmpty)∨(∃ xs,SqT X.K H p xs∧k = !xs.isEmpty)∨∃ kvs,H p=some (.dK kvs)∧k = !kvs.isEmpty:=e
  rcases e' with⟨xs,hx,e'⟩ | ⟨xs,hx,e'⟩ | ⟨kvs,hx,e'⟩
  ·subst e'
   obtain⟨its,r,pl,hz⟩:=I.list hx
   have hlen:=r.length
   exact wpAny_truthy_list pl.isList (by simp only[List.size_toArray];omega) ⟨H,I.tok _,by rw[isEmpty_of r];exact q⟩
  ·subst e'
   obtain⟨its,r,pl,hz⟩:=I.tuple hx
   have hlen:=r.length
   exact truthy_tuple pl (by simp only[List.size_toArray];omega) ⟨H,I.tok _,by rw[isEmpty_of r];exact q⟩
  ·subst e'
   obtain⟨hz,hS,vs,r,m⟩:kvs.length≤sizeLine∧(p == sysModules)=false∧∃ vs,KV kvs vs∧s.heap.DictOf (mixKind X.prog X.w) p vs:=I.hok p _ hx
   have hlen:kvs.length=vs.length:=Paired.length r
   exact wpAny_truthy_dict hS m (by omega) ⟨H,I.tok _,by rw[isEmpty_kv r];exact q⟩
 | _=>exact(show False from e).elim
theorem pt_truth(ha:PE X a ta)(he:∀ whole,isTrue a X.env whole=(do let v ← whole;standAt a.pos;holding [v] (truthy v))) :
  PT X a (fun σ H Q=>ta σ H fun x H'=>∃ k,TruV X.K x H' k∧Q k H'):=by
 intro pins s σ H Q I h
 exact isTrue_plain (thn (ha pins s σ H _ I h) fun v s1 ⟨x,H1,I1,r1,q1⟩=>tru_ok pins s1 σ H1 x v Q I1 r1 q1) (he _)
theorem op_add_str:OpR X (binaryOp .Add) (fun x y H Q=>∃ i j,x = .str i∧y = .str j∧i.length+j.length≤sizeLine∧Q (.str (i++j)) H):=by
 intro pins s σ H x y v u Q I rx ry h
 obtain⟨i,j,rfl,rfl,hz,q⟩:=h
 obtain⟨t,rfl⟩:=rx
 obtain⟨t',rfl⟩:=ry
 exact add_str (fun t' tk=>⟨.str (i++j),H,I.tok _,⟨_,rfl⟩,q⟩) hz
theorem vals1{x:V}{us:List Value}(r:Vals [x] us):∃ u,us=[u]∧RelV x u:=by
 cases r with
 | cons r1 r2=>cases r2;exact⟨_,rfl,r1⟩
theorem vals2{x y:V}{us:List Value}(r:Vals [x,y] us):∃ u w',us=[u,w']∧RelV x u∧RelV y w':=by
 cases r with
 | cons r1 r2=>
  cases r2 with
  | cons r3 r4=>cases r4;exact⟨_,_,rfl,r1,r3⟩
theorem call_max2(hc:X.calm=true):CallR X (.builtin "max") (fun xs H Q=>∃ i j,xs=[.int i,.int j]∧Q (.int (if j > i then j else i)) H):=by
 intro pins s σ H xs us Q I r h
 obtain⟨i,j,rfl,q⟩:=h
 obtain⟨u,w',rfl,⟨t,rfl⟩,⟨t',rfl⟩⟩:=vals2 r
 refine max_two_ints (I.ok.hd hc) fun h' tk k=>⟨_,H,I.kept k,?_,q⟩
 by_cases hj:j > i
 ·rw[if_pos hj,if_pos hj];exact⟨_,rfl⟩
 ·rw[if_neg hj,if_neg hj];exact⟨_,rfl⟩
theorem call_min2(hc:X.calm=true):CallR X (.builtin "min") (fun xs H Q=>∃ i j,xs=[.int i,.int j]∧Q (.int (if j < i then j else i)) H):=by
 intro pins s σ H xs us Q I r h
 obtain⟨i,j,rfl,q⟩:=h
 obtain⟨u,w',rfl,⟨t,rfl⟩,⟨t',rfl⟩⟩:=vals2 r
 refine min_two_ints (I.ok.hd hc) fun h' tk k=>⟨_,H,I.kept k,?_,q⟩
 by_cases hj:j < i
 ·rw[if_pos hj,if_pos hj];exact⟨_,rfl⟩
 ·rw[if_neg hj,if_neg hj];exact⟨_,rfl⟩
theorem call_str_int:CallR X (.type "str") (fun xs H Q=>∃ i,xs=[.int i]∧i.natAbs.log2 < 1920∧Q (.str (toString i)) H):=by
 intro pins s σ H xs us Q I r h
 obtain⟨i,rfl,hz,q⟩:=h
 obtain⟨u,rfl,t,rfl⟩:=vals1 r
 exact PySem.P.str_of_int hz ⟨.str _,H,I.tok _,⟨_,rfl⟩,q⟩
end
end L2
namespace L2
open PySem PySem.Spec PyProof.Rows
structure ObjM(h:Heap)(x dx C:Addr)(mA:Str→Option Value):Prop where
 obj:h.get? x=some (PySem.W.instObj C dx)
 ns:h.Ns1 dx mA
 ne:dx≠x
theorem lookIn_ns{h:Heap}{dx:Addr}{mA:Str→Option Value}(n:h.Ns1 dx mA):∃ od,h.get? dx=some od∧∀ name,PySem.W.lookIn name od=some (mA name):=by
 obtain⟨o,es,ep,ho,hd,hk,_,hm⟩:=n
 refine⟨o,ho,fun name=>?_⟩
 have e:=hm name
 unfold nsFind findBy at e
 rw[← Array.find?_toList] at e
 unfold PySem.W.lookIn
 rw[hd]
 dsimp only
 split
 ·rename_i y q
  rw[q] at e
  exact congrArg some e
 ·rename_i q
  rw[q] at e
  have a:es.toList.any (·.refKey)=false:=by
   rw[List.any_eq_false]
   intro y hy
   obtain⟨z,t,hkey⟩:=hk y (Array.mem_toList_iff.mp hy)
   simp [DictEntry.refKey,hkey]
  have a':¬ es.toList.any (·.refKey)=true:=by rw[a];exact Bool.false_ne_true
  rw[if_neg a']
  exact congrArg some e
theorem ObjM.look{h:Heap}{x dx C:Addr}{mA:Str→Option Value}(I:ObjM h x dx C mA):∃ od,PySem.W.InstAt h x (PySem.W.instObj C dx) C (some od)∧∀ name,PySem.W.lookIn name od=some (mA name):=
 let ⟨od,ho,hl⟩:=lookIn_ns I.ns
 ⟨od,⟨I.obj,rfl,rfl,ho⟩,hl⟩
section
variable{prog:Program}{w:World}{A:Around}{E:Value→Shared→Prop}{s:Shared}{K:PySem.W.Frag}{x dx C f:Addr}{mA:Str→Option Value}{name:Str}{v:Value}
theorem get_map{expr:Bool}{Q:Value→Shared→Prop}(X:K.In s.heap)(I:ObjM s.heap x dx C mA)(hg:PySem.W.plainGet K C name=true)(hh:PySem.W.hasDictIn K C=true)
  (ha:PySem.W.findIn K (.ref C) name=some none) (hv:mA name=some v) (hv':PySem.W.handedIn v=true) (h:Q v { s with toks:=s.toks+1 }) :
  wpAny (model prog w) A (getAttr (.ref x) name expr) Q E s:=by
 obtain⟨od,J,hl⟩:=I.look
 exact PySem.W.get_value X J (PySem.W.plainGet_of hg).1 (PySem.W.findObj_own hh ha rfl (by rw[hl,hv])) hv' h
theorem get_meth{pl:Sem Bool}{Q:Value×List Value→Shared→Prop}(X:K.In s.heap)(I:ObjM s.heap x dx C mA)(hg:PySem.W.plainGet K C name=true)
  (hf:PySem.W.findIn K (.ref C) name=some (some (.ref f))) (ht:PySem.W.isFn K (.ref f)=true) (hv:mA name=none) (h:Q (.ref f,[.ref x]) s) :
  wpAny (model prog w) A (getMethod (.ref x) name pl) Q E s:=by
 obtain⟨od,J,hl⟩:=I.look
 exact PySem.W.method_fn X J (PySem.W.plainGet_of hg).1 (PySem.W.plainGet_of hg).2 hf (beq_iff_eq.mp ht) (by show(PySem.W.lookIn name od).map (·.isSome)=some false;rw[hl,hv];rfl) h
theorem set_map{ns:List Str}{Q:Unit→Shared→Prop}(X:K.In s.heap)(I:ObjM s.heap x dx C mA)
  (hs:PySem.W.findIn K (.ref C) "__setattr__" = some (some (.builtin "object.__setattr__"))) (hp:PySem.W.plainOver K C=true) (ht:PySem.W.takerIn K C name=some none) (hh:PySem.W.hasDictIn K C=true)
  (hw:PySem.Within mA ns) (hsz:ns.length≤sizeLine)
  (h:∀ h',ObjM h' x dx C (fun y=>if y=name then some v else mA y)→Heap.SameBut dx s.heap h'→Q () { s with heap:=h',toks:=s.toks+2 }) :
  wpAny (model prog w) A (setAttr (.ref x) name v) Q E s:=by
 obtain⟨od,J,hl⟩:=I.look
 refine PySem.W.set_plain X J hs (PySem.W.osa_open (s:={ s with toks:=s.toks+1 }) (r:=none) X J hp ht fun b=>?_)
 obtain⟨cd,hc,hd'⟩:=PySem.W.any_some hh
 have hx:s.heap.get? x=some ⟨.ref C,some dx,.plain,#[]⟩:=I.obj
 refine wpAny_bind (wpAny_pure (wpAny_bind (wpAny_bind (wpAny_loadPart hx (wpAny_bind (PySem.W.Looks.here (s:={ s with toks:=s.toks+1 }) (PySem.W.looks_clsIn X hc) ?_))))))
 rw[hd']
 refine wpAny_pure (a:=some dx) (wpAny_bind (wpAny_pure (wpAny_bind ?_)))
 refine wpAny_nsSet1 (s:={ s with toks:=s.toks+1 }) I.ns fun h' hn2 hs2=>?_
 obtain⟨oD,esD,epD,hoD,hdD,hcD⟩:=hn2.count (PySem.Within.cons name v hw)
 refine wpAny_bind (wpAny_lookBehind hoD (by rw[hdD];exact pastItsLine_dict (Nat.le_trans hcD (by rw[List.length_cons];omega))) ?_)
 exact wpAny_pure (h _ ⟨(hs2.2 _ (Ne.symm I.ne)).trans I.obj,hn2,I.ne⟩ hs2)
theorem make_map{R:Result→Shared→Prop}{vs:List Value}{kw:List (Str×Value)}(X:K.In s.heap)(hm:PySem.W.makesIn K C=true)
  (hi:PySem.W.findIn K (.ref C) "__init__" = some (some (.ref f))) (hf:PySem.W.typeIn K (.ref f)=some (.type "function"))
  (h:codeAny (model prog w) (A.under (.builtin "type.__call__" ⟨.ref C :: vs,kw⟩)) (.call (.ref f) ⟨.ref (s.heap.objs.size+1) :: vs,kw⟩) (PySem.W.InitBack (s.heap.objs.size+1) R)
   { s with heap:=(s.heap.push PySem.W.emptyDict).push (PySem.W.instObj C s.heap.objs.size) }) :
  codeAny (model prog w) A (.call (.ref C) ⟨vs,kw⟩) R s:=by
 obtain⟨hh,g,d,t,os⟩:=s
 exact PySem.W.make_core (PySem.W.makes_of X hm) (PySem.W.looks_findIn X hi) (fun self=>PySem.W.bind_fn X self hf) (.inl rfl) h
theorem make_map0{R:Result→Shared→Prop}(X:K.In s.heap)(hm:PySem.W.makesIn K C=true)
  (hi:PySem.W.findIn K (.ref C) "__init__" = some (some (.builtin "object.__init__")))
  (hb:∀ self,PySem.W.Looks (model prog w) s.heap (bindSpecial (.builtin "object.__init__") self) (.builtin "object.__init__",[self]))
  (h:codeAny (model prog w) (A.under (.builtin "type.__call__" ⟨[.ref C],[]⟩)) (.call (.builtin "object.__init__") ⟨[.ref (s.heap.objs.size+1)],[]⟩) (PySem.W.InitBack (s.heap.objs.size+1) R)
   { s with heap:=(s.heap.push PySem.W.emptyDict).push (PySem.W.instObj C s.heap.objs.size) }) :
  codeAny (model prog w) A (.call (.ref C) ⟨[],[]⟩) R s:=by
 obtain⟨hh,g,d,t,os⟩:=s
 exact PySem.W.make_core (PySem.W.makes_of X hm) (PySem.W.looks_findIn X hi) hb (.inr ⟨rfl,rfl⟩) h
end
def putF(f:Str)(v:V):List (Str×V)→List (Str×V)
 | []=>[(f,v)]
 | (g,x) :: r=>if g=f then(g,v) :: r else(g,x) :: putF f v r
theorem lookup_putF(f g:Str)(v:V):∀ fs:List (Str×V),(putF f v fs).lookup g=if g=f then some v else fs.lookup g
 | []=>by
  show List.lookup g [(f,v)]=_
  by_cases h:g=f
  ·have hb:(g == f)=true:=beq_iff_eq.mpr h
   simp only[List.lookup,hb,if_pos h]
  ·have hb:(g == f)=false:=beq_eq_false_iff_ne.mpr h
   simp only[List.lookup,hb,if_neg h]
 | (k,x) :: r=>by
  have ih:=lookup_putF f g v r
  rw[show putF f v ((k,x) :: r)=(if k=f then(k,v) :: r else(k,x) :: putF f v r) from rfl]
  by_cases hk:k=f
  ·rw[if_pos hk]
   by_cases h:g=k
   ·have hb:(g == k)=true:=beq_iff_eq.mpr h
    simp only[List.lookup,hb,if_pos (h.trans hk)]
   ·have hb:(g == k)=false:=beq_eq_false_iff_ne.mpr h
    simp only[List.lookup,hb,if_neg (fun e:g=f=>h (e.trans hk.symm))]
  ·rw[if_neg hk]
   by_cases h:g=k
   ·have hb:(g == k)=true:=beq_iff_eq.mpr h
    simp only[List.lookup,hb,if_neg (fun e:g=f=>hk (h.symm.trans e))]
   ·have hb:(g == k)=false:=beq_eq_false_iff_ne.mpr h
    simp only[List.lookup,hb]
    exact ih
theorem keys_putF(f:Str)(v:V):∀ fs:List (Str×V),f∈(putF f v fs).map (·.1)∧∀ g,g∈fs.map (·.1)→g∈(putF f v fs).map (·.1)
 | []=>⟨by simp [putF],fun g h=>by simp at h⟩
 | (k,x) :: r=>by
  obtain⟨i1,i2⟩:=keys_putF f v r
  rw[show putF f v ((k,x) :: r)=(if k=f then(k,v) :: r else(k,x) :: putF f v r) from rfl]
  by_cases hk:k=f
  ·rw[if_pos hk]
   subst hk
   exact⟨by simp,fun g h=>by simpa using h⟩
  ·rw[if_neg hk]
   refine⟨?_,fun g h=>?_⟩
   ·rw[List.map_cons]
    exact List.mem_cons_of_mem _ i1
   ·rw[List.map_cons] at h ⊢
    rcases List.mem_cons.mp h with e | e
    ·exact List.mem_cons.mpr (.inl e)
    ·exact List.mem_cons_of_mem _ (i2 g e)
theorem length_putF(f:Str)(v:V):∀ fs:List (Str×V),(putF f v fs).length≤fs.length+1
 | []=>by simp [putF]
 | (k,x) :: r=>by
  have ih:=length_putF f v r
  rw[show putF f v ((k,x) :: r)=(if k=f then(k,v) :: r else(k,x) :: putF f v r) from rfl]
  by_cases hk:k=f
  ·rw[if_pos hk,List.length_cons,List.length_cons];omega
  ·rw[if_neg hk,List.length_cons,List.length_cons];omega
theorem RelO.some_of{v:V}{o:Option Value}(r:RelO (some v) o):∃ u,o=some u∧RelV v u:=by
 cases o with
 | none=>exact(show False from r).elim
 | some u=>exact⟨u,rfl,r⟩
theorem RelO.none_of{o:Option Value}(r:RelO none o):o=none:=by
 cases o with
 | none=>rfl
 | some u=>exact(show False from r).elim
theorem handed_of{v:V}{u:Value}(r:RelV v u):PySem.W.handedIn u=true:=by
 cases v with
 | non=>cases (show u=Value.none from r);rfl
 | bl b=>cases (show u=Value.bool b from r);rfl
 | int i=>obtain⟨t,e⟩:=(show ∃ t,u=Value.int i t from r);cases e;rfl
 | str x=>obtain⟨t,e⟩:=(show ∃ t,u=Value.str x t from r);cases e;rfl
 | byt b=>obtain⟨t,e⟩:=(show ∃ t,u=Value.bytes b t from r);cases e;rfl
 | flt b=>obtain⟨t,e⟩:=(show ∃ t,u=Value.float b t from r);cases e;rfl
 | ref a=>cases (show u=Value.ref a from r);rfl
 | ty n=>cases (show u=Value.type n from r);rfl
section
variable{P:Program}{w:World}{H H':Hp}{h h':Heap}{a C dx:Addr}{fs fs':List (Str×V)}
theorem ins_get(hok:HOk P w H h)(e:H a=some (.ins C dx fs)):∃ mA,ObjM h a dx C mA∧(∀ f,RelO (fs.lookup f) (mA f))∧PySem.Within mA (fs.map (·.1))∧fs.length≤1000∧H dx=some (.own a):=by
 obtain⟨d,z,ne,ob,mA,n,r,q⟩:=(show ObjOk P w H h a (.ins C dx fs) from hok a _ e)
 exact⟨mA,⟨ob,n,ne⟩,r,q,z,d⟩
end
structure Cls(K:PySem.W.Frag)(C:Addr):Prop where
 pg:PySem.W.plainGet K C Str.empty=true
 hd:PySem.W.hasDictIn K C=true
 po:PySem.W.plainOver K C=true
 sa:PySem.W.findIn K (.ref C) "__setattr__" = some (some (.builtin "object.__setattr__"))
theorem Cls.get{K:PySem.W.Frag}{C:Addr}(c:Cls K C)(f:Str):PySem.W.plainGet K C f=true:=c.pg
def NoAttr(K:PySem.W.Frag)(C:Addr)(f:Str):Prop:=PySem.W.findIn K (.ref C) f=some none
theorem NoAttr.taker{K:PySem.W.Frag}{C:Addr}{f:Str}(n:NoAttr K C f):PySem.W.takerIn K C f=some none:=by
 unfold PySem.W.takerIn
 rw[show PySem.W.findIn K (.ref C) f=some none from n]
 rfl
structure Meth(K:PySem.W.Frag)(C:Addr)(m:Str)(f:Addr):Prop where
 at_:PySem.W.findIn K (.ref C) m=some (some (.ref f))
 fn:PySem.W.isFn K (.ref f)=true
 kp:PySem.W.keepIn K (.ref f)=true
section
variable{X:Cx}{pins:List (Addr×Obj)}{σ:St}{H:Hp}{s:Shared}{a C dx:Addr}{fs:List (Str×V)}{f:Str}{v:V}{A:Around}{E:Value→Shared→Prop}
theorem getattr_ok{b:Bool}{Q:Value→Shared→Prop}(I:Inv X pins σ H s)(e:H a=some (.ins C dx fs))(c:Cls X.K C)(n:NoAttr X.K C f)(l:fs.lookup f=some v)
  (h:∀ u s',Inv X pins σ H s'→RelV v u→Q u s'):wpAny (model X.prog X.w) A (getAttr (.ref a) f b) Q E s:=by
 obtain⟨mA,O,r,_,_,_⟩:=ins_get I.hok e
 obtain⟨u,hu,ru⟩:=RelO.some_of (v:=v) (o:=mA f) (by rw[← l];exact r f)
 exact get_map I.kIn O (c.get f) c.hd n hu (handed_of ru) (h u _ (I.tok _) ru)
theorem getmeth_ok{m:Str}{g:Addr}{pl:Sem Bool}{Q:Value×List Value→Shared→Prop}(I:Inv X pins σ H s)(e:H a=some (.ins C dx fs))(c:Cls X.K C)(k:Meth X.K C m g)(l:fs.lookup m=none)
  (h:Q (.ref g,[.ref a]) s):wpAny (model X.prog X.w) A (getMethod (.ref a) m pl) Q E s:=by
 obtain⟨mA,O,r,_,_,_⟩:=ins_get I.hok e
 have hn:mA m=none:=RelO.none_of (by rw[← l];exact r m)
 exact get_meth I.kIn O (c.get m) k.at_ k.fn hn h
theorem setattr_ok{y:V}{u:Value}{Q:Unit→Shared→Prop}(I:Inv X pins σ H s)(e:H a=some (.ins C dx fs))(c:Cls X.K C)(n:NoAttr X.K C f)(hl:fs.length < 1000)(ry:RelV y u)
  (h:∀ s',Inv X pins σ (upd H a (.ins C dx (putF f y fs))) s'→Q () s'):wpAny (model X.prog X.w) A (setAttr (.ref a) f u) Q E s:=by
 obtain⟨mA,O,r,wi,_,ho⟩:=ins_get I.hok e
 have hz:(fs.map (·.1)).length≤sizeLine:=by rw[List.length_map,sizeLine_eq];omega
 refine set_map I.kIn O c.sa c.po n.taker c.hd wi hz fun h' O' sb=>h _ ?_
 have hd:∃ o,h'.get? dx=some o:=let ⟨o,_,_,e',_⟩:=O'.ns;⟨o,e'⟩
 refine I.write (x:=a) (e:=dx) (by rw[e];exact True.intro) (.inr ho) (fun b q hb z=>(sb.2 b hb).trans z) hd ?_
 refine⟨by rw[upd_ne O.ne];exact ho,?_,O.ne,O'.obj,_,O'.ns,fun g=>?_,fun g hg=>?_⟩
 ·have:=length_putF f y fs;omega
 ·show RelO ((putF f y fs).lookup g) (if g=f then some u else mA g)
  rw[lookup_putF]
  by_cases q:g=f
  ·rw[if_pos q,if_pos q];exact ry
  ·rw[if_neg q,if_neg q];exact r g
 ·by_cases q:g=f
  ·rw[q];exact(keys_putF f y fs).1
  ·refine(keys_putF f y fs).2 g (wi g fun z=>hg ?_)
   show(if g=f then some u else mA g)=none
   rw[if_neg q];exact z
theorem Inv.made(I:Inv X pins σ H s):Inv X pins σ (upd (upd H s.heap.objs.size (.own (s.heap.objs.size+1))) (s.heap.objs.size+1) (.ins C s.heap.objs.size []))
  { s with heap:=(s.heap.push PySem.W.emptyDict).push (PySem.W.instObj C s.heap.objs.size) }:=by
 have e1:(s.heap.push PySem.W.emptyDict).get? s.heap.objs.size=some PySem.W.emptyDict:=Heap.get?_push_size s.heap rfl
 have e2:((s.heap.push PySem.W.emptyDict).push (PySem.W.instObj C s.heap.objs.size)).get? (s.heap.objs.size+1)=some (PySem.W.instObj C s.heap.objs.size):=by
  have:=Heap.get?_push_size (s.heap.push PySem.W.emptyDict) (o:=PySem.W.instObj C s.heap.objs.size) rfl
  rwa [Heap.size_push] at this
 have e3:(s.heap.push PySem.W.emptyDict).Ns s.heap.objs.size (fun _=>none):=⟨PySem.W.emptyDict,#[],_,e1,rfl,(fun e he=>absurd he (by simp)),fun _=>rfl⟩
 have I1:=I.laid (a:=s.heap.objs.size) (o:=.own (s.heap.objs.size+1)) (h':=s.heap.push PySem.W.emptyDict) (t':=s.toks) (fun b u q=>Heap.get?_push_of_some _ q) (Nat.le_refl _) ⟨_,e1⟩
 refine I1.laid (a:=s.heap.objs.size+1) (o:=.ins C s.heap.objs.size []) (t':=s.toks) (fun b u q=>Heap.get?_push_of_some _ q) (Nat.le_of_eq (Heap.size_push _ _)) ?_
 have ne:s.heap.objs.size≠s.heap.objs.size+1:=Nat.ne_of_lt (Nat.lt_succ_self _)
 refine⟨by rw[upd_ne ne,upd_same],Nat.zero_le _,ne,e2,fun _=>none,(Heap.Ns1.of_empty e3).at fun o q=>Heap.get?_push_of_some _ q,fun _=>True.intro,fun y hy=>absurd rfl hy⟩
theorem attr_of{prog:Program}{w:World}{env:Env}{e:Expr}{f:Str}{pos:Pos}{s:Shared}{Q:Value→Shared→Prop}(hb:attributeBase e f env (eval e env)=eval e env)
  (h:wpAny (model prog w) A (eval e env) (fun o s₁=>wpAny (model prog w) A (getAttr o f true) Q E s₁) E s):wpAny (model prog w) A (eval (.Attribute e f pos) env) Q E s:=
 Attribute_any_ h (by rw[arm_eval_Attribute,hb])
end
def tFld(K:PySem.W.Frag)(ta:TE)(f:Str):TE:=fun σ H Q=>ta σ H fun x H1=>∃ a C dx fs v,x = .ref a∧H1 a=some (.ins C dx fs)∧Cls K C∧NoAttr K C f∧fs.lookup f=some v∧Q v H1
def sFld(K:PySem.W.Frag)(ta tv:TE)(f:Str):TS:=fun D σ H=>tv σ H fun y H1=>ta σ H1 fun x H2=>∃ a C dx fs,x = .ref a∧H2 a=some (.ins C dx fs)∧Cls K C∧NoAttr K C f∧fs.length < 1000 ∧
 D.nx σ (upd H2 a (.ins C dx (putF f y fs)))
section
variable{X:Cx}{o e value:Expr}{f:Str}{pos pos' tpos:Pos}{ta tv:TE}
theorem pe_fld(he:PE X e ta)(hb:attributeBase e f X.env (eval e X.env)=eval e X.env):PE X (.Attribute e f pos) (tFld X.K ta f):=by
 intro pins s σ H Q I h
 refine attr_of hb (thn (he pins s σ H _ I h) fun u s1 ⟨x,H1,I1,rx,a,C,dx,fs,v,ex,ea,c,n,l,q⟩=>?_)
 subst ex
 obtain rfl:u=Value.ref a:=rx
 exact getattr_ok I1 ea c n l fun u' s2 I2 ru=>⟨v,H1,I2,ru,q⟩
theorem ps_fld(ha:PE X o ta)(hv:PE X value tv)(hs:swapsWith value (some (.Attribute o f pos')) pos.line X.env=pure false):PS X (.Assign [.Attribute o f pos'] value pos) (sFld X.K ta tv f):=by
 intro pins s σ H D I h
 refine plainObj_wpAny_Assign_Attribute (thn (hv pins s σ H _ I h) fun u s1 ⟨y,H1,I1,ry,q⟩=>thn (ha pins s1 σ H1 _ I1 q) fun ov s2 ⟨x,H2,I2,rx,a,C,dx,fs,ex,ea,c,n,l,q2⟩=>?_) hs
 subst ex
 obtain rfl:ov=Value.ref a:=rx
 exact setattr_ok I2 ea c n l ry fun s3 I3=>⟨σ,_,I3,q2⟩
end
section
variable{X:Cx}{pins:List (Addr×Obj)}{σ:St}{H:Hp}{s:Shared}{A:Around}{E:Value→Shared→Prop}{Q:Value→Shared→Prop}{c:Value}{b:Bool}
inductive TyOf(K:PySem.W.Frag)(H:Hp):V→Value→Prop where
 | non:TyOf K H .non (.type "NoneType")
 | bl (x:Bool):TyOf K H (.bl x) (.type "bool")
 | int (i:Int):TyOf K H (.int i) (.type "int")
 | str (x:Str):TyOf K H (.str x) (.type "str")
 | flt (x:UInt64):TyOf K H (.flt x) (.type "float")
 | lst {a:Addr} {xs:List V} (e:H a=some (.lst xs)):TyOf K H (.ref a) (.type "list")
 | frz {a:Addr} {o:Obj} {xs:List V} (e:H a=some (.frz o (.lst xs))):TyOf K H (.ref a) (.type "list")
 | tup {a:Addr} {xs:List V} (e:H a=some (.tup xs)):TyOf K H (.ref a) (.type "tuple")
 | dK {a:Addr} {kvs:List (Key×V)} (e:H a=some (.dK kvs)):TyOf K H (.ref a) (.type "dict")
 | dT {a:Addr} {kvs:List (List Key×V)} (e:H a=some (.dT kvs)):TyOf K H (.ref a) (.type "dict")
 | ins {a C dx:Addr} {fs:List (Str×V)} (e:H a=some (.ins C dx fs)) (cl:Cls K C) (ha:PySem.W.findIn K (.ref C) "__class__" = some (some (.builtin "object.__class__")))
   (hn:PySem.W.specialIn K (.builtin "object.__class__") "__get__" = some (some (.builtin "getset_descriptor.__get__"))) (htk:PySem.W.takesIn K (.builtin "object.__class__")=some true)
   (hm:PySem.W.mroIn K C (.type "object")=some true):TyOf K H (.ref a) (.ref C)
theorem isinst_ok{x:V}{u t:Value}(I:Inv X pins σ H s)(rx:RelV x u)(ty:TyOf X.K H x t)(e:PySem.W.kitOne X.K t c=some b)(h:∀ tk,Q (.bool b) { s with toks:=tk }) :
  wpAny (model X.prog X.w) A (call (.builtin "isinstance") [u,c]) Q E s:=by
 cases ty with
 | non=>cases (show u=Value.none from rx);exact PySem.W.kia_one PySem.W.kitx_none I.kIn True.intro e (fun z=>nomatch z) h
 | bl y=>cases (show u=Value.bool y from rx);exact PySem.W.kia_one PySem.W.kitx_bool I.kIn True.intro e (fun z=>nomatch z) h
 | int i=>obtain⟨t,q⟩:=(show ∃ t,u=Value.int i t from rx);cases q;exact PySem.W.kia_one PySem.W.kitx_int I.kIn True.intro e (fun z=>nomatch z) h
 | str y=>obtain⟨t,q⟩:=(show ∃ t,u=Value.str y t from rx);cases q;exact PySem.W.kia_one PySem.W.kitx_str I.kIn True.intro e (fun z=>nomatch z) h
 | flt y=>obtain⟨t,q⟩:=(show ∃ t,u=Value.float y t from rx);cases q;exact PySem.W.kia_one PySem.W.kitx_float I.kIn True.intro e (fun z=>nomatch z) h
 | @lst a xs ea=>
  cases (show u=Value.ref a from rx)
  obtain⟨_,_,n,_,h1⟩:=(show ObjOk X.prog X.w H s.heap a (.lst xs) from I.hok a _ ea)
  exact PySem.W.kia_one PySem.W.kitx_list I.kIn ⟨_,h1,rfl⟩ e (fun z=>nomatch z) h
 | @frz a ob xs ea=>
  cases (show u=Value.ref a from rx)
  obtain⟨_,_,_,n,_,h1⟩:=(show ObjOk X.prog X.w H s.heap a (.frz ob (.lst xs)) from I.hok a _ ea)
  exact PySem.W.kia_one PySem.W.kitx_list I.kIn ⟨_,h1,rfl⟩ e (fun z=>nomatch z) h
 | @tup a xs ea=>
  cases (show u=Value.ref a from rx)
  obtain⟨_,_,_,p⟩:=(show ObjOk X.prog X.w H s.heap a (.tup xs) from I.hok a _ ea)
  obtain⟨o,h1,h2,_⟩:=p
  exact PySem.W.kia_one PySem.W.kitx_tuple I.kIn ⟨o,h1,h2⟩ e (fun z=>nomatch z) h
 | @dK a kvs ea=>
  cases (show u=Value.ref a from rx)
  obtain⟨_,_,vs,_,p⟩:=(show ObjOk X.prog X.w H s.heap a (.dK kvs) from I.hok a _ ea)
  obtain⟨o,es,ep,h1,h2,_⟩:=p
  exact PySem.W.kia_one PySem.W.kitx_dict I.kIn ⟨o,h1,h2.1⟩ e (fun z=>nomatch z) h
 | @dT a kvs ea=>
  cases (show u=Value.ref a from rx)
  obtain⟨_,_,xs,_,o,es,ep,h1,h2,_⟩:=(show ObjOk X.prog X.w H s.heap a (.dT kvs) from I.hok a _ ea)
  exact PySem.W.kia_one PySem.W.kitx_dict I.kIn ⟨o,h1,h2.1⟩ e (fun z=>nomatch z) h
 | @ins a C dx fs ea cl ha hn htk hm=>
  cases (show u=Value.ref a from rx)
  obtain⟨mA,O,_⟩:=ins_get I.hok ea
  obtain⟨od,J,_⟩:=O.look
  exact PySem.W.kia_one (PySem.W.kitx_own (cl.get _) cl.hd ha hn htk hm) I.kIn J e (fun z=>nomatch z) h
end
end L2
namespace L2
open PySem PySem.Spec PyProof.Rows
structure Room(k:Nat)(A:Around):Prop where
 hd:A.handled=none
 dp:A.depth+3 * k+5 < recursionLimit
 un:A.units+16 * k+200 < cLine
theorem Room.mono{j k:Nat}{A:Around}(r:Room k A)(h:j≤k):Room j A:=⟨r.hd,by have:=r.dp;omega,by have:=r.un;omega⟩
theorem Room.deeper{k:Nat}{A:Around}(r:Room (k+1) A)(env:Env):Room k (A.deeper env):=
 ⟨r.hd,by have:=r.dp;show A.depth+1+3 * k+5 < _;omega,by have:=r.un;show A.units+3+16 * k+200 < _;omega⟩
theorem make_depth{A:Around}{C:Addr}{us:List Value}{kw:List (Str×Value)}:(A.under (.builtin "type.__call__" ⟨.ref C :: us,kw⟩)).depth=A.depth+1:=by
 first | rfl | simp [Around.under,Code.weight,Code.isCreation,Code.isGuard,Code.isCaller,Code.frames,Code.isFrame,guardIds]
theorem make_units{A:Around}{C:Addr}{us:List Value}{kw:List (Str×Value)}:(A.under (.builtin "type.__call__" ⟨.ref C :: us,kw⟩)).units=A.units+1:=by
 first | rfl | simp [Around.under,Code.cUnits,Code.frames,Code.isFrame]
theorem Room.make{k:Nat}{A:Around}(r:Room (k+1) A)(C:Addr)(us:List Value)(kw:List (Str×Value)):Room k (A.under (.builtin "type.__call__" ⟨.ref C :: us,kw⟩)):=
 ⟨r.hd,by have:=r.dp;rw[make_depth];omega,by have:=r.un;rw[make_units];omega⟩
theorem Room.depth{k:Nat}{A:Around}(r:Room k A):A.depth < recursionLimit:=by have:=r.dp;omega
theorem Room.units{k:Nat}{A:Around}(r:Room k A):A.units+64 < cLine:=by have:=r.un;omega
def tNil:TA:=fun _ H Q=>Q [] H
def tCons(ta:TE)(tr:TA):TA:=fun σ H Q=>ta σ H fun x H1=>tr σ H1 fun xs H2=>Q (x :: xs) H2
section
variable{X:Cx}{e:Expr}{es:List Expr}{te:TE}{t:TA}{pos:Pos}
theorem pa_nil:PA X [] tNil:=fun _ _ _ _ H Q I h=>Calls.spliced_nil ⟨[],H,I,.nil,h⟩
theorem pa_cons(ha:PE X e te)(hr:PA X es t)(hs:starEach (e :: es) X.env=(false,eval e X.env) :: starEach es X.env:=by rfl):PA X (e :: es) (tCons te t):=by
 intro pos pins s σ H Q I h
 rw[hs]
 show wpAny _ _ (spliced ((false,eval e X.env) :: backTo pos (starEach es X.env))) _ _ s
 refine Calls.spliced_cons (thn (ha pins s σ H _ I h) fun u s1 ⟨x,H1,I1,r1,q1⟩=>?_)
 exact thn (hr pos pins s1 σ H1 _ I1 q1) fun us s2 ⟨xs,H2,I2,r2,q2⟩=>⟨x :: xs,H2,I2,.cons r1 r2,q2⟩
def tTup(t:TA):TE:=fun σ H Q=>t σ H fun xs H1=>xs.length≤sizeLine∧∀ p,H1 p=none→Q (.ref p) (upd H1 p (.tup xs))
def tLst(t:TA):TE:=fun σ H Q=>t σ H fun xs H1=>xs.length≤sizeLine∧∀ p,H1 p=none→Q (.ref p) (upd H1 p (.lst xs))
theorem pe_tup{x1}(h:PA X es t):PE X (.Tuple es x1 pos) (tTup t):=by
 intro pins s σ H Q I hq
 refine wpAny_Tuple_spliced (thn (h pos pins s σ H _ I hq) fun us s1 ⟨xs,H1,I1,r,z,q⟩=>⟨by rw[← r.length];exact z,?_⟩)
 have hf:H1 s1.heap.objs.size=none:=I1.hok.fresh (Nat.le_refl _)
 refine⟨.ref s1.heap.objs.size,upd H1 s1.heap.objs.size (.tup xs),I1.laid (t':=s1.toks) (fun b u e=>Heap.get?_push_of_some _ e) (Nat.le_refl _) ?_,rfl,q _ hf⟩
 exact⟨z,us,r,⟨_,Heap.get?_push_size _ rfl,rfl,_,rfl⟩⟩
theorem pe_lst(h:PA X es t):PE X (.List es pos) (tLst t):=by
 intro pins s σ H Q I hq
 refine wpAny_List_spliced (thn (h pos pins s σ H _ I hq) fun us s1 ⟨xs,H1,I1,r,z,q⟩=>⟨by rw[← r.length];exact z,?_⟩)
 have hf:H1 s1.heap.objs.size=none:=I1.hok.fresh (Nat.le_refl _)
 refine⟨.ref s1.heap.objs.size,upd H1 s1.heap.objs.size (.lst xs),I1.laid (t':=s1.toks) (fun b u e=>Heap.get?_push_of_some _ e) (Nat.le_refl _) ?_,rfl,q _ hf⟩
 exact⟨z,us,0,r,Heap.get?_push_size _ rfl⟩
end
abbrev Sp:=List V→Hp→VK→XK→Prop
abbrev CXT:=List Env→Hp→Shared→XK→Value→Shared→Prop
structure Env0(P:Program)(w:World)(K:PySem.W.Frag)(mg:Str→Option Value)(base:Heap)(A:Around)(outer:List Env)(s:Shared)(H:Hp):Prop where
 frames:A.frames=some outer
 mod:Mod K mg base
 bs:∀ b o,base.get? b=some o→s.heap.get? b=some o∧H b=none
 bsz:base.objs.size≤s.heap.objs.size
 funs:s.heap.FunFrames base outer
 frf:∀ b∈frs outer,H b=none
 hok:HOk P w H s.heap
 bare:AllBare s.gens
def CE(outer:List Env)(P:Program)(w:World)(H:Hp)(s:Shared)(Q:VK)(u:Value)(s':Shared):Prop:=
 ∃ v H',s'.os=s.os∧AllBare s'.gens∧Un (frs outer) [] H H' s.heap s'.heap∧HOk P w H' s'.heap∧RelV v u∧Q v H'
def CR(CX:CXT)(outer:List Env)(P:Program)(w:World)(H:Hp)(s:Shared)(Q:VK)(E:XK)(r:Result)(s':Shared):Prop:=
 match r with
 | .ok (.ret u)=>CE outer P w H s Q u s'
 | .ok _=>False
 | .error e=>CX outer H s E e s'
structure FnOk(P:Program)(w:World)(K:PySem.W.Frag)(mg:Str→Option Value)(base:Heap)(CX:CXT)(k:Nat)(f:Addr)(fd:FuncData)(ps:List Str)(sp:Sp):Prop where
 len:∀ vs H Q E,sp vs H Q E→vs.length=ps.length
 run:∀(A:Around) (outer:List Env) (s:Shared) (H:Hp) (args:Args) (us:List Value) (vs:List V) (Q:VK) (E:XK),Room k A→Env0 P w K mg base A outer s H→BindsTo s fd args (ps.zip us)→Vals vs us→sp vs H Q E →
  codeAny (model P w) A (.call (.ref f) args) (CR CX outer P w H s Q E) s
theorem FnOk.mono{P:Program}{w:World}{K:PySem.W.Frag}{mg:Str→Option Value}{base:Heap}{CX:CXT}{j k:Nat}{f:Addr}{fd:FuncData}{ps:List Str}{sp:Sp}(F:FnOk P w K mg base CX j f fd ps sp)(h:j≤k) :
  FnOk P w K mg base CX k f fd ps sp:=⟨F.len,fun A outer s H args us vs Q E hr=>F.run A outer s H args us vs Q E (hr.mono h)⟩
theorem Env0.make{P:Program}{w:World}{K:PySem.W.Frag}{mg:Str→Option Value}{base:Heap}{A:Around}{outer:List Env}{s:Shared}{H:Hp}(e:Env0 P w K mg base A outer s H)(C:Addr)(us:List Value)(kw:List (Str×Value)) :
  Env0 P w K mg base (A.under (.builtin "type.__call__" ⟨.ref C :: us,kw⟩)) outer s H:=⟨by first | exact e.frames | (simpa [Around.under,Code.envs,Code.isFrame,pushEnvs] using e.frames),e.mod,e.bs,e.bsz,e.funs,e.frf,e.hok,e.bare⟩
section
variable{X:Cx}{pins:List (Addr×Obj)}{σ:St}{H:Hp}{s s':Shared}
theorem Inv.env0(I:Inv X pins σ H s):Env0 X.prog X.w X.K X.mg X.base X.A X.stack s H:=
 ⟨I.ok.frames,I.ok.mod,I.bs,Nat.le_trans I.ok.bsz I.sz,I.stack,I.stkFree,I.hok,I.bare⟩
theorem Inv.after{Q:VK}{u:Value}(I:Inv X pins σ H s)(h:CE X.stack X.prog X.w H s Q u s'):EP X pins σ Q u s':=by
 obtain⟨v,H',os,bare,un,hok,r,q⟩:=h
 obtain⟨hh,g,d,t,os'⟩:=s'
 obtain rfl:os'=s.os:=os
 exact⟨v,H',I.call (h':=hh) (g':=g) (d':=d) (t':=t) (ch:=[]) un hok bare (fun b z=>absurd z (by simp)),r,q⟩
end
def tCall(sp:Sp)(dvs:List V)(E:XK)(t:TA):TE:=fun σ H Q=>t σ H fun vs H1=>sp (vs++dvs) H1 Q E
def tMeth(C:Addr)(m:Str)(sp:Sp)(dvs:List V)(E:XK)(ta:TE)(t:TA):TE:=fun σ H Q=>ta σ H fun x H1=>∃ a dx fs,x = .ref a∧H1 a=some (.ins C dx fs)∧fs.lookup m=none ∧
 t σ H1 fun vs H2=>sp (x :: (vs++dvs)) H2 Q E
def tMake(C:Addr)(sp:Sp)(dvs:List V)(E:XK)(t:TA):TE:=fun σ H Q=>t σ H fun vs H1=>∀ x dx,H1 x=none→H1 dx=none→dx≠x →
 sp (.ref x :: (vs++dvs)) (upd (upd H1 dx (.own x)) x (.ins C dx [])) (fun v H2=>v = .non∧Q (.ref x) H2) E
def Binds(K:PySem.W.Frag)(fd:FuncData)(ps:List Str)(ds:List Value):Prop:=
 ∀(s:Shared) (us:List Value),K.In s.heap→(us++ds).length=ps.length→BindsTo s fd ⟨us,[]⟩ (ps.zip (us++ds))
theorem Binds.all{K:PySem.W.Frag}{fd:FuncData}{ps:List Str}(h:∀ us:List Value,us.length=ps.length→bindArgs fd ⟨us,[]⟩=pure (ps.zip us)):Binds K fd ps []:=fun s us _ hl=>by
 rw[List.append_nil] at hl ⊢
 exact .of_eq (h us hl)
def Passes(CX:CXT)(X:Cx)(E:XK):Prop:=∀(pins:List (Addr×Obj)) (σ:St) (H:Hp) (s:Shared) (e:Value) (s':Shared),Inv X pins σ H s→CX X.stack H s E e s'→X.xe e s'
section
variable{X:Cx}{CX:CXT}{k:Nat}{f C:Addr}{fd:FuncData}{ps:List Str}{sp:Sp}{dvs:List V}{ds:List Value}{E:XK}{x m:Str}{p pos apos:Pos}{e o:Expr}{es:List Expr}{ta:TE}{t:TA}
theorem run_fn{pins:List (Addr×Obj)}{σ:St}{H:Hp}{s:Shared}{Q:VK}{us:List Value}{vs:List V}(F:FnOk X.prog X.w X.K X.mg X.base CX k f fd ps sp)(hr:Room k X.A)(hb:Binds X.K fd ps ds)(hd:Vals dvs ds)(hx:Passes CX X E)
  (I:Inv X pins σ H s) (r:Vals vs us) (h:sp (vs++dvs) H Q E):wpAny (model X.prog X.w) X.A (call (.ref f) us) (EP X pins σ Q) X.xe s:=by
 have r2:Vals (vs++dvs) (us++ds):=r.append hd
 have hl:(us++ds).length=ps.length:=by rw[← r2.length];exact F.len _ _ _ _ h
 refine wpAny_call (codeAny_mono (F.run X.A X.stack s H ⟨us,[]⟩ (us++ds) (vs++dvs) Q E hr I.env0 (hb s us I.kIn hl) r2 h) fun r s' hq=>?_)
 cases r with
 | error e=>exact hx pins σ H s e s' I hq
 | ok fl=>
  cases fl with
  | ret u=>exact I.after hq
  | next=>exact False.elim hq
  | brk=>exact False.elim hq
  | cont=>exact False.elim hq
theorem pe_call(F:FnOk X.prog X.w X.K X.mg X.base CX k f fd ps sp)(hr:Room k X.A)(hg:Gl X x)(hm:X.mg x=some (.ref f))(hk:PySem.W.keepIn X.K (.ref f)=true)(hb:Binds X.K fd ps ds)(hd:Vals dvs ds)(hx:Passes CX X E)
  (ha:PA X (e :: es) t) (hdb:(x == ("__debug__":Str))=false:=by decide) (he:starEach (e :: es) X.env=(false,eval e X.env) :: starEach es X.env:=by rfl) (hpl:(backTo pos (starEach es X.env)).any (·.1)=false:=by rfl) :
  PE X (.Call (.Name x p) (e :: es) [] pos) (tCall sp dvs E t):=by
 intro pins s σ H Q I h
 refine wpAny_Call_Name_kw (ld_glob I hg hm ?_ hdb)
 refine PySem.W.callWith_K (h₀:=X.base) I.ok.mod.kin hk (thn (ha pos pins s σ H _ I h) fun us s1 ⟨vs,H1,I1,r,q⟩=>⟨I1.kIn,?_⟩) he hpl
 exact run_fn F hr hb hd hx I1 r q
theorem pe_meth{pl:Sem Bool}(he:PE X o ta)(c:Cls X.K C)(hm:Meth X.K C m f)(F:FnOk X.prog X.w X.K X.mg X.base CX k f fd ps sp)(hr:Room k X.A)(hb:Binds X.K fd ps ds)(hd:Vals dvs ds)(hx:Passes CX X E)(ha:PA X (e :: es) t)
  (hst:starEach (e :: es) X.env=(false,eval e X.env) :: starEach es X.env:=by rfl) (hpl:(backTo pos (starEach es X.env)).any (·.1)=false:=by rfl)
  (ht:eval (.Call (.Attribute o m apos) (e :: es) [] pos) X.env=(do
   let ov ← eval o X.env
   standAt apos.atName
   let (f,first) ← holding [ov] (getMethod ov m pl)
   callWith pos f first (backTo pos (starEach (e :: es) X.env)) (backToKw pos (keywordEach [] X.env))):=by rfl) :
  PE X (.Call (.Attribute o m apos) (e :: es) [] pos) (tMeth C m sp dvs E ta t):=by
 intro pins s σ H Q I h
 refine PySem.W.methodCall_KW (pl:=pl) (thn (he pins s σ H _ I h) fun u s1 ⟨x,H1,I1,rx,a,dx,fs,ex,ea,l,q⟩=>?_) ht
 subst ex
 obtain rfl:u=Value.ref a:=rx
 refine getmeth_ok I1 ea c hm l ?_
 refine PySem.W.callWith_K (first:=[.ref a]) (h₀:=X.base) I.ok.mod.kin hm.kp (thn (ha pos pins s1 σ H1 _ I1 q) fun us s2 ⟨vs,H2,I2,r,q2⟩=>⟨I2.kIn,?_⟩) hst hpl
 exact run_fn (us:=.ref a :: us) (vs:=.ref a :: vs) F hr hb hd hx I2 (.cons rfl r) q2
theorem pe_meth0{pl:Sem Bool}(he:PE X o ta)(c:Cls X.K C)(hm:Meth X.K C m f)(F:FnOk X.prog X.w X.K X.mg X.base CX k f fd ps sp)(hr:Room k X.A)(hb:Binds X.K fd ps ds)(hd:Vals dvs ds)(hx:Passes CX X E)
  (ht:eval (.Call (.Attribute o m apos) [] [] pos) X.env=(do
   let ov ← eval o X.env
   standAt apos.atName
   let (f,first) ← holding [ov] (getMethod ov m pl)
   callWith pos f first (backTo pos (starEach [] X.env)) (backToKw pos (keywordEach [] X.env))):=by rfl) :
  PE X (.Call (.Attribute o m apos) [] [] pos) (tMeth C m sp dvs E ta tNil):=by
 intro pins s σ H Q I h
 refine PySem.W.methodCall_KW (pl:=pl) (thn (he pins s σ H _ I h) fun u s1 ⟨x,H1,I1,rx,a,dx,fs,ex,ea,l,q⟩=>?_) ht
 subst ex
 obtain rfl:u=Value.ref a:=rx
 refine getmeth_ok I1 ea c hm l ?_
 exact PySem.W.callWith_K0 (first:=[.ref a]) I1.kIn hm.kp (run_fn (us:=[.ref a]) (vs:=[.ref a]) F hr hb hd hx I1 (.cons rfl .nil) q)
structure Mk(K:PySem.W.Frag)(C f:Addr):Prop where
 makes:PySem.W.makesIn K C=true
 init:PySem.W.findIn K (.ref C) "__init__" = some (some (.ref f))
 fn:PySem.W.isFn K (.ref f)=true
 kp:PySem.W.keepIn K (.ref C)=true
theorem run_make{pins:List (Addr×Obj)}{σ:St}{H:Hp}{s:Shared}{Q:VK}{us:List Value}{vs:List V}(M:Mk X.K C f)(F:FnOk X.prog X.w X.K X.mg X.base CX k f fd ps sp)(hr:Room (k+1) X.A)(hb:Binds X.K fd ps ds)(hd:Vals dvs ds)
  (hx:Passes CX X E) (I:Inv X pins σ H s) (r:Vals vs us)
  (h:∀ x dx,H x=none→H dx=none→dx≠x→sp (.ref x :: (vs++dvs)) (upd (upd H dx (.own x)) x (.ins C dx [])) (fun v H2=>v = .non∧Q (.ref x) H2) E) :
  wpAny (model X.prog X.w) X.A (call (.ref C) us) (EP X pins σ Q) X.xe s:=by
 have hq:=h (s.heap.objs.size+1) s.heap.objs.size (I.hok.fresh (Nat.le_succ _)) (I.hok.fresh (Nat.le_refl _)) (Nat.ne_of_lt (Nat.lt_succ_self _))
 have I2:=Inv.made (C:=C) I
 have r2:Vals (V.ref (s.heap.objs.size+1) :: (vs++dvs)) (Value.ref (s.heap.objs.size+1) :: (us++ds)):=.cons rfl (r.append hd)
 have hl:(Value.ref (s.heap.objs.size+1) :: us++ds).length=ps.length:=by
  have e:=r2.length
  rw[F.len _ _ _ _ hq] at e
  exact e.symm
 refine wpAny_call (make_map (f:=f) I.kIn M.makes M.init (beq_iff_eq.mp M.fn) (codeAny_mono (F.run _ X.stack _ _ ⟨Value.ref (s.heap.objs.size+1) :: us,[]⟩ (Value.ref (s.heap.objs.size+1) :: (us++ds)) _ _ E (hr.make C us [])
  (I2.env0.make C us []) (hb _ (Value.ref (s.heap.objs.size+1) :: us) I2.kIn hl) r2 hq) fun r s' hq'=>?_))
 cases r with
 | error e=>exact hx pins σ _ _ e s' I2 hq'
 | ok fl=>
  cases fl with
  | ret u=>
   obtain⟨v,H',I3,rv,ev,q3⟩:=I2.after hq'
   subst ev
   exact⟨rv,⟨V.ref (s.heap.objs.size+1),H',I3,rfl,q3⟩⟩
  | next=>exact False.elim hq'
  | brk=>exact False.elim hq'
  | cont=>exact False.elim hq'
theorem pe_make(M:Mk X.K C f)(F:FnOk X.prog X.w X.K X.mg X.base CX k f fd ps sp)(hr:Room (k+1) X.A)(hg:Gl X x)(hm:X.mg x=some (.ref C))(hb:Binds X.K fd ps ds)(hd:Vals dvs ds)(hx:Passes CX X E)
  (ha:PA X (e :: es) t) (hdb:(x == ("__debug__":Str))=false:=by decide) (he:starEach (e :: es) X.env=(false,eval e X.env) :: starEach es X.env:=by rfl) (hpl:(backTo pos (starEach es X.env)).any (·.1)=false:=by rfl) :
  PE X (.Call (.Name x p) (e :: es) [] pos) (tMake C sp dvs E t):=by
 intro pins s σ H Q I h
 refine wpAny_Call_Name_kw (ld_glob I hg hm ?_ hdb)
 refine PySem.W.callWith_K (h₀:=X.base) I.ok.mod.kin M.kp (thn (ha pos pins s σ H _ I h) fun us s1 ⟨vs,H1,I1,r,q⟩=>⟨I1.kIn,?_⟩) he hpl
 exact run_make M F hr hb hd hx I1 r q
end
section
variable{X:Cx}{CX:CXT}{k:Nat}{f C:Addr}{fd:FuncData}{ps ks:List Str}{sp:Sp}{E:XK}{x m:Str}{p pos apos kpos:Pos}{e o:Expr}{es:List Expr}{kws:List Keyword}{te ta:TE}{t tk:TA}{nm:Option Str}
variable{g:List Value→List Value→List Value}{gV:List V→List V→List V}
end
structure FnScope(N P:List Str)(sc:Scope):Prop where
 kind:sc.kind = .function
 co:sc.isCoroutine=false
 gen:sc.isGenerator=false
 nd:N.Nodup
 pre:N.take P.length=P
 par:∀ x∈P,sc.names.lookup x=some .local∨sc.names.lookup x=some .cell
 nofree:∀ y∈sc.names,y.2 ≠ .free
theorem bindL_out{kindOf:Str→Option NameKind}{x:Str}:∀{binds:List (Str×Value)} {m:Str→Option Value},(∀ v,(x,v)∉binds)→bindL kindOf binds m x=m x
 | [],_,_=>rfl
 | (n,v) :: r,m,h=>by
  unfold bindL
  rw[bindL_out fun w hw=>h w (List.mem_cons_of_mem _ hw)]
  split
  ·have:x≠n:=by rintro rfl;exact h v List.mem_cons_self
   simp [this]
  ·rfl
theorem bindC_out{kindOf:Str→Option NameKind}{x:Str}:∀{binds:List (Str×Value)} {m:Str→Option Value},(∀ v,(x,v)∉binds)→bindC kindOf binds m x=m x
 | [],_,_=>rfl
 | (n,v) :: r,m,h=>by
  unfold bindC
  rw[bindC_out fun w hw=>h w (List.mem_cons_of_mem _ hw)]
  split
  ·rfl
  ·have:x≠n:=by rintro rfl;exact h v List.mem_cons_self
   simp [this]
theorem bindL_get{kindOf:Str→Option NameKind}{x:Str}{v:Value}:∀{P:List Str} {vs:List Value} {i:Nat} {m:Str→Option Value},P.Nodup→P[i]? = some x→vs[i]? = some v→kindOf x=some .local →
  bindL kindOf (P.zip vs) m x=some v
 | [],_,_,_,_,h,_,_=>by simp at h
 | _ :: _,[],_,_,_,_,h,_=>by simp at h
 | p :: P,w :: vs,0,m,nd,h1,h2,hk=>by
  simp at h1 h2;subst h1;subst h2
  show bindL kindOf ((p,w) :: P.zip vs) m p=_
  unfold bindL
  rw[bindL_out fun v hv=>(List.nodup_cons.mp nd).1 (List.of_mem_zip hv).1,if_pos hk]
  simp
 | p :: P,w :: vs,i+1,m,nd,h1,h2,hk=>by
  show bindL kindOf ((p,w) :: P.zip vs) m x=_
  unfold bindL
  exact bindL_get (i:=i) (List.nodup_cons.mp nd).2 (by simpa using h1) (by simpa using h2) hk
theorem bindC_get{kindOf:Str→Option NameKind}{x:Str}{v:Value}:∀{P:List Str} {vs:List Value} {i:Nat} {m:Str→Option Value},P.Nodup→P[i]? = some x→vs[i]? = some v→kindOf x≠some .local →
  bindC kindOf (P.zip vs) m x=some v
 | [],_,_,_,_,h,_,_=>by simp at h
 | _ :: _,[],_,_,_,_,h,_=>by simp at h
 | p :: P,w :: vs,0,m,nd,h1,h2,hk=>by
  simp at h1 h2;subst h1;subst h2
  show bindC kindOf ((p,w) :: P.zip vs) m p=_
  unfold bindC
  rw[bindC_out fun v hv=>(List.nodup_cons.mp nd).1 (List.of_mem_zip hv).1,if_neg hk]
  simp
 | p :: P,w :: vs,i+1,m,nd,h1,h2,hk=>by
  show bindC kindOf ((p,w) :: P.zip vs) m x=_
  unfold bindC
  exact bindC_get (i:=i) (List.nodup_cons.mp nd).2 (by simpa using h1) (by simpa using h2) hk
def start(N:List Str)(vs:List V):St:=vs.map some++List.replicate (N.length - vs.length) none
def cxOf(CX:CXT)(P:Program)(w:World)(K:PySem.W.Frag)(mg:Str→Option Value)(base:Heap)(N:List Str)(qual:Str)(scope:Scope)(f:Addr)(cd:Value)(A:Around)(outer:List Env)(s:Shared)(H:Hp)(E:XK):Cx where
 prog:=P
 w:=w
 K:=K
 mg:=mg
 base:=base
 A:=A.deeper (envOfC qual scope s.heap.objs.size f cd)
 N:=N
 s₀:=s
 H₀:=H
 env:=envOfC qual scope s.heap.objs.size f cd
 outer:=outer
 stack:=envOfC qual scope s.heap.objs.size f cd :: outer
 ex:=[]
 calm:=true
 fn:=fun _=>true
 pn:=[]
 xe:=fun e s'=>wpAny (model P w) (A.deeper (envOfC qual scope s.heap.objs.size f cd)) (leaving (envOfC qual scope s.heap.objs.size f cd) e) (fun _ s''=>CX outer H s E e s'') (fun e' s''=>CX outer H s E e' s'') s'
theorem cell_has{sc:Scope}{n:Nat}{x:Str}(h:sc.names.lookup x=some .cell):∃ c,(cellsFrom n sc.names []).lookup x=some c:=by
 have q:=PySem.W.cellsFrom_some sc.names n [] (.inl h)
 exact Option.isSome_iff_exists.mp q
theorem inv_start{CX:CXT}{P:Program}{w:World}{K:PySem.W.Frag}{mg:Str→Option Value}{base:Heap}{N ps:List Str}{qual:Str}{scope:Scope}{f:Addr}{cd:Value}{A:Around}{outer:List Env}{s s1:Shared}{H:Hp}{E:XK}{us:List Value}{vs:List V}
  (S:FnScope N ps scope) (hd:A.handled=none) (e0:Env0 P w K mg base A outer s H) (hl:vs.length=ps.length) (r:Vals vs us)
  (x:InCallC s s.heap.objs.size (bindL (envOfC qual scope s.heap.objs.size f cd).kindOf (ps.zip us) fun _=>none) (cellsFrom (s.heap.objs.size+1) scope.names []) (bindC (envOfC qual scope s.heap.objs.size f cd).kindOf (ps.zip us) fun _=>none) s1) :
  Inv (cxOf CX P w K mg base N qual scope f cd A outer s H E) [] (start N vs) H s1:=by
 have hpl:ps.length≤N.length:=by have:=congrArg List.length S.pre;rw[List.length_take] at this;omega
 obtain⟨h1,tk,rfl,hk⟩:=x.done
 have noA:∀ b:Addr,b∉(cxOf CX P w K mg base N qual scope f cd A outer s H E).ex:=fun b z=>absurd (show b∈([]:List Addr) from z) (by simp)
 refine⟨⟨e0.mod,S.kind,rfl,rfl,Nat.le_refl _,fun y z c h1 h2=>?_,fun y hy=>?_,fun y c _ h=>?_,fun _=>hd,Around.frames_deeper e0.frames,.inr ⟨rfl,rfl⟩,fun b z=>absurd z (noA b),e0.bs,e0.bsz,fun b _ _=>noA b,fun b z=>absurd z (noA b),e0.funs,e0.frf⟩,
  rfl,e0.bare,Un.kept hk,⟨_,x.toInCall.ns,fun i y v h1 h2 h3=>?_⟩,fun y c h=>⟨_,x.cell y c h⟩,e0.hok.fresh (Nat.le_refl _),fun y c h=>?_,fun p hp=>absurd (show p∈([]:List (Addr×Obj)) from hp) (by simp),e0.hok.kept hk,?_⟩
 ·exact name_of_addr x.apart (PySem.mem_of_lookup h1) (PySem.mem_of_lookup h2)
 ·have hy:scope.names.lookup y=some .cell∨scope.names.lookup y=some .free:=hy
  rcases hy with hy | hy
  ·exact cell_has hy
  ·exact absurd rfl (S.nofree _ (PySem.mem_of_lookup hy))
 ·exact Nat.le_of_lt (x.above y c (PySem.mem_of_lookup h))
 ·have hi:i < vs.length:=by
   unfold start at h2
   by_cases hi:i < vs.length
   ·exact hi
   ·rw[List.getElem?_append_right (by simpa using hi)] at h2
    rw[List.getElem?_replicate] at h2
    split at h2<;>cases h2
  have ha:vs[i]? = some v:=by
   unfold start at h2
   rw[List.getElem?_append_left (by simpa using hi),List.getElem?_map] at h2
   cases e:vs[i]? with
   | none=>rw[e] at h2;cases h2
   | some a=>rw[e] at h2;cases h2;rfl
  obtain⟨u,hu,rv⟩:=r.get ha
  have hp:ps[i]? = some y:=by
   rw[← S.pre,List.getElem?_take_of_lt (by omega)];exact h1
  have ndP:ps.Nodup:=by rw[← S.pre];exact S.nd.sublist (List.take_sublist _ _)
  refine⟨u,rv,?_⟩
  rcases S.par y (List.mem_of_getElem? hp) with k | k
  ·exact .inl ⟨k,bindL_get ndP hp hu k⟩
  ·obtain⟨c,e⟩:=cell_has (n:=s.heap.objs.size+1) k
   refine .inr ⟨.inl k,c,e,?_⟩
   have q:=x.cell y c e
   rw[bindC_get ndP hp hu (by show scope.names.lookup y≠_;rw[k];decide)] at q
   exact q
 ·exact e0.hok.fresh (Nat.le_of_lt (x.above y c (PySem.mem_of_lookup h)))
 ·unfold start
  show _=N.length
  rw[List.length_append,List.length_map,List.length_replicate]
  omega
theorem fn_of{CX:CXT}{P:Program}{w:World}{K:PySem.W.Frag}{mg:Str→Option Value}{base:Heap}{k:Nat}{f:Addr}{name qual:Str}{params:Arguments}{body:List Stmt}{scope:Scope}{dV kV doc pm cdv ct oc:Value}{an od:Option Addr}
  {osl:Array (Option Value)} {N ps:List Str} {sp:Sp} (lk:K.lookup f=some ⟨oc,od,.func (PySem.W.fnOf name qual params body scope dV kV doc pm an cdv ct),osl⟩) (hcd:PySem.W.codeIn K cdv qual=true) (S:FnScope N ps scope)
  (len:∀ vs H Q E,sp vs H Q E→vs.length=ps.length)
  (hbody:∀(A:Around) (outer:List Env) (s:Shared) (H:Hp) (vs:List V) (Q:VK) (E:XK),Room k (A.deeper (envOfC qual scope s.heap.objs.size f cdv))→sp vs H Q E →
   ∃ t,PSs (cxOf CX P w K mg base N qual scope f cdv A outer s H E) body t∧t { nx:=fun _ H'=>Q .non H',rt:=Q } (start N vs) H) :
  FnOk P w K mg base CX (k+1) f (PySem.W.fnOf name qual params body scope dV kV doc pm an cdv ct) ps sp:=by
 refine⟨len,fun A outer s H args us vs Q E hr e0 hb r hsp=>?_⟩
 have hl:=len _ _ _ _ hsp
 have KX:K.In s.heap:=e0.mod.kin.keeps fun b o e=>(e0.bs b o e).1
 have lim:s.heap.NoLimit:=e0.mod.nolimit.keeps fun b o e=>(e0.bs b o e).1
 have hkind:∀ y∈ps.zip us,scope.names.lookup y.1=some .local∨(scope.names.lookup y.1=some .cell∧((cellsFrom (s.heap.objs.size+1) scope.names []).lookup y.1).isSome=true):=fun⟨n,v⟩ hy=>by
  rcases S.par n (List.of_mem_zip hy).1 with q | q
  ·exact .inl q
  ·exact .inr ⟨q,PySem.W.cellsFrom_some _ _ _ (.inl q)⟩
 refine codeAny_call_function hr.depth (KX _ _ lk) rfl S.co S.gen rfl (PySem.W.codeRec_of KX hcd) (hb _ _ _ _ ?_)
 refine wpAny_newFunctionEnv_cells S.kind hkind fun env he s1 x=>?_
 subst he
 refine⟨lim.keeps x.toInCall.keep,codeAny_func ?_⟩
 obtain⟨t,ht,hq⟩:=hbody A outer s H vs Q E (hr.deeper _) hsp
 have I:Inv (cxOf CX P w K mg base N qual scope f cdv A outer s H E) [] (start N vs) H s1:=inv_start S hr.hd e0 hl r x
 refine wpAny_mono (ht [] s1 (start N vs) H _ I hq) (fun fl s' hs=>?_) fun e s' hs=>hs
 have fin:∀{σ':St} {H':Hp} {v:V} {u:Value},Inv (cxOf CX P w K mg base N qual scope f cdv A outer s H E) [] σ' H' s'→RelV v u→Q v H'→CE outer P w H s Q u s':=
  fun {σ' H' v u} J rv q=>⟨v,H',J.os,J.bare,J.base,J.hok,rv,q⟩
 cases fl with
 | ret u=>
  obtain⟨v,σ',H',J,rv,q⟩:=hs
  exact fin J rv q
 | next=>
  obtain⟨σ',H',J,q⟩:=hs
  exact fin (v:=V.non) (u:=Value.none) J rfl q
 | brk=>
  obtain⟨_,_,_,q⟩:=hs
  exact False.elim q
 | cont=>
  obtain⟨_,_,_,q⟩:=hs
  exact False.elim q
end L2
namespace L2
open PySem PySem.Spec PyProof.Rows
section
variable{X:Cx}{x:Str}{p pos:Pos}{e:Expr}{es:List Expr}{t:TA}{id T:String}{r:List V→Hp→VK→Prop}
def tCB(r:List V→Hp→VK→Prop)(t:TA):TE:=fun σ H Q=>t σ H fun vs H1=>r vs H1 Q
theorem pe_callB(hc:CallR X (.builtin id) r)(hg:Gl X x)(hm:X.mg x=none)(hv:bootBuiltins x=some (.builtin id))(ha:PA X (e :: es) t)(hn:x≠"__name__":=by decide)(hdb:(x == ("__debug__":Str))=false:=by decide)
  (he:starEach (e :: es) X.env=(false,eval e X.env) :: starEach es X.env:=by rfl) (hpl:(backTo pos (starEach es X.env)).any (·.1)=false:=by rfl):PE X (.Call (.Name x p) (e :: es) [] pos) (tCB r t):=by
 intro pins s σ H Q I h
 refine wpAny_Call_Name_kw (ld_blt I hg hm hv ?_ hn hdb)
 exact PyProof.Rows.callWith_builtin1 (thn (ha pos pins s σ H _ I h) fun us s1 ⟨vs,H1,I1,r1,q1⟩=>hc pins s1 σ H1 vs us Q I1 r1 q1) he hpl
theorem pe_callTy(hc:CallR X (.type T) r)(hg:Gl X x)(hm:X.mg x=none)(hv:bootBuiltins x=some (.type T))(ha:PA X (e :: es) t)(hn:x≠"__name__":=by decide)(hdb:(x == ("__debug__":Str))=false:=by decide)
  (he:starEach (e :: es) X.env=(false,eval e X.env) :: starEach es X.env:=by rfl) (hpl:(backTo pos (starEach es X.env)).any (·.1)=false:=by rfl):PE X (.Call (.Name x p) (e :: es) [] pos) (tCB r t):=by
 intro pins s σ H Q I h
 refine wpAny_Call_Name_kw (ld_blt I hg hm hv ?_ hn hdb)
 exact PyProof.Rows.callWith_type1 (thn (ha pos pins s σ H _ I h) fun us s1 ⟨vs,H1,I1,r1,q1⟩=>hc pins s1 σ H1 vs us Q I1 r1 q1) he hpl
end
end L2
namespace HT
open PySem PyProof.Rows
def lexLt:List Int→List Int→Bool
 | [],[]=>false
 | [],_ :: _=>true
 | _ :: _,[]=>false
 | x :: xs,y :: ys=>if x=y then lexLt xs ys else decide (x < y)
theorem lexLt_cons(x y:Int)(xs ys:List Int):lexLt (x :: xs) (y :: ys)=if x=y then lexLt xs ys else decide (x < y):=rfl
theorem lexLt_nil_nil:lexLt [] []=false:=rfl
theorem lexLt_nil_cons(y:Int)(ys:List Int):lexLt [] (y :: ys)=true:=rfl
theorem lexLt_cons_nil(x:Int)(xs:List Int):lexLt (x :: xs) []=false:=rfl
theorem eqAt_int(A:Around)(s:Shared)(a:Int)(t:Tok)(c:Int)(u:Tok):∃ e,SeqAt.EqAt A s (.int a t) (.int c u) e∧(e=true↔a=c):=
 ⟨(a == c),SeqAt.EqAt.int_int a t c u,by simp⟩
theorem rcLt_int(A:Around)(s:Shared)(a:Int)(t:Tok)(c:Int)(u:Tok)(prog:Program)(w:World)(E:Value→Shared→Prop)(Q:Value→Shared→Prop)(h:Q (.bool (decide (a < c))) s) :
  wpAny (model prog w) A (richCompare .Lt (.int a t) (.int c u)) Q E s:=
 (PyProof.Rows.lt_int h:wpAny (model prog w) A (compareOp .Lt (.int a t) (.int c u)) Q E s)
section
open PySem.SeqAt
open PySem.AutoSeq1 (wpAny_loadPart')
open PySem.MeetsSeq PySem.MeetsSeq2 PySem.MeetsSeq3
end
section
variable{prog:Program}{w:World}{A:Around}{E:Value→Shared→Prop}{s:Shared}
theorem cat_tup{t b:Addr}{vs ws:List Value}{Q:Value→Shared→Prop}(ht:IsTup s.heap t vs.toArray)(hb:IsTup s.heap b ws.toArray)(hv:vs≠[])
  (h1:ws=[]→Q (.ref t) s) (h2:ws≠[]→Q (.ref s.heap.objs.size) { s with heap:=s.heap.push { cls:=.type "tuple",data:=.seq (vs++ws).toArray } })
  (hsz:vs.length+ws.length≤sizeLine):wpAny (model prog w) A (binaryOp .Add (.ref t) (.ref b)) Q E s:=by
 obtain⟨⟨cls,dd,data,sl⟩,ho,hc,n,hd⟩:=id ht
 obtain⟨⟨cls2,dd2,data2,sl2⟩,ho2,hc2,n2,hd2⟩:=id hb
 simp only at hc hd hc2 hd2
 subst hc hd hc2 hd2
 have e:vs.toArray++ws.toArray=(vs++ws).toArray:=by simp
 by_cases hw:ws=[]
 ·exact concat_meets ⟨_,ho,rfl⟩ ⟨_,ho2,rfl⟩ noFill_tuple_add seq_tuple_add PySem.F.slot_tuple_add PySem.F.entry_tuple_add (PySem.F.args_tuple_add_2 _ _)
   (tuple_addW1 t b vs.toArray ws.toArray n n2 dd dd2 sl sl2 (by simpa using hv) (by simp [hw])) ⟨ho,ho2,h1 hw⟩
 ·refine concat_meets ⟨_,ho,rfl⟩ ⟨_,ho2,rfl⟩ noFill_tuple_add seq_tuple_add PySem.F.slot_tuple_add PySem.F.entry_tuple_add (PySem.F.args_tuple_add_2 _ _)
   (tuple_addW2 t b vs.toArray ws.toArray n n2 dd dd2 sl sl2 (by simpa using hv) (by simpa using hw) (by rw[List.size_toArray,List.size_toArray];exact hsz)) ⟨ho,ho2,?_⟩
  rw[e]
  exact h2 hw
def sIx(n d:Nat):Option Int→Nat
 | none=>d
 | some v=>if v < 0 then(v+(n:Int)).toNat else min v.toNat n
theorem sIx_nat(n d k:Nat):sIx n d (some (k:Int))=min k n:=by
 show(if(k:Int) < 0 then((k:Int)+(n:Int)).toNat else min (k:Int).toNat n)=min k n
 rw[if_neg (by omega),Int.toNat_natCast]
theorem sIx_le(n d:Nat)(hd:d≤n)(o:Option Int):sIx n d o≤n:=by
 cases o with
 | none=>exact hd
 | some v=>
  show(if v < 0 then(v+(n:Int)).toNat else min v.toNat n)≤n
  by_cases hv:v < 0
  ·rw[if_pos hv];omega
  ·rw[if_neg hv];exact Nat.min_le_right _ _
theorem clip_eq(v:Int)(n d:Nat):(if v < 0 then max (v+(n:Int)) 0 else min v (n:Int))=((sIx n d (some v):Nat):Int):=by
 show(if v < 0 then max (v+(n:Int)) 0 else min v (n:Int))=(((if v < 0 then(v+(n:Int)).toNat else min v.toNat n):Nat):Int)
 by_cases hv:v < 0
 ·simp only[if_pos hv];omega
 ·simp only[if_neg hv];omega
theorem adjust_gen(lo hi:Option Int)(n:Nat):Builtin.Slice.sliceAdjust lo hi 1 (n:Int)=(((sIx n 0 lo:Nat):Int),((sIx n n hi:Nat):Int)):=by
 have h1:¬ ((1:Int) < 0):=by omega
 unfold Builtin.Slice.sliceAdjust
 simp only[h1,if_false]
 refine Prod.ext ?_ ?_
 ·cases lo with
  | none=>rfl
  | some v=>exact clip_eq v n 0
 ·cases hi with
  | none=>rfl
  | some v=>exact clip_eq v n n
theorem places_gen(i j:Nat):Builtin.Slice.slicePlaces (i:Int) (j:Int) 1=j - i:=by
 unfold Builtin.Slice.slicePlaces
 have h1:(1:Int) > 0:=by omega
 simp only[h1,if_true,Int.ediv_one]
 split<;>omega
theorem slicePart_{v:Value}{o:Option Int}{Q:Option Int→Shared→Prop}(p:IsPart v o)(h:Q o s):wpAny (model prog w) A (Builtin.Slice.slicePartIndex v) Q E s:=by
 cases p with
 | none=>exact slicePart_none h
 | int i t=>exact slicePart_int h
theorem sliceApplied_gen{sl:Addr}{vl vu:Value}{lo hi:Option Int}{n:Nat}{Q:Int×Int×Nat→Shared→Prop}(hs:s.heap.IsSliceOf sl vl vu .none)(pl:IsPart vl lo)(pu:IsPart vu hi)
  (h:Q (((sIx n 0 lo:Nat):Int),1,sIx n n hi - sIx n 0 lo) s):wpAny (model prog w) A (Builtin.Slice.sliceApplied (.ref sl) (pure (n:Int))) Q E s:=by
 obtain⟨os,hos,hcs,hds⟩:=id hs
 unfold Builtin.Slice.sliceApplied Builtin.Slice.sliceFields
 refine wpAny_bind (wpAny_bind (wpAny_field hos hds (x:=vl) rfl (wpAny_bind (wpAny_field hos hds (x:=vu) rfl (wpAny_bind (wpAny_field hos hds (x:=.none) rfl (wpAny_pure ?_)))))))
 refine wpAny_bind (slicePart_none ?_)
 show wpAny _ _ (if((1:Int) == 0)=true then _ else _) _ _ s
 rw[if_neg (by decide)]
 refine wpAny_bind (slicePart_ pl (wpAny_bind (slicePart_ pu (wpAny_bind (wpAny_pure ?_)))))
 show wpAny _ _ (match Builtin.Slice.sliceAdjust lo hi 1 (n:Int) with | (lo,hi)=>pure (lo,(1:Int),Builtin.Slice.slicePlaces lo hi 1)) _ _ s
 rw[adjust_gen lo hi n]
 show wpAny _ _ (pure (((sIx n 0 lo:Nat):Int),(1:Int),Builtin.Slice.slicePlaces ((sIx n 0 lo:Nat):Int) ((sIx n n hi:Nat):Int) 1)) _ _ s
 rw[places_gen]
 exact wpAny_pure h
theorem pick_gen(xs:Array Value)(i k:Nat):((List.range k).filterMap fun(m:Nat)=>xs[((i:Int)+(m:Int) * 1).toNat]?).toArray=((xs.toList.drop i).take k).toArray:=by
 have e:(fun(m:Nat)=>xs[((i:Int)+(m:Int) * 1).toNat]?)=fun m=>xs[i+m]?:=by
  funext m
  have:((i:Int)+(m:Int) * 1).toNat=i+m:=by omega
  rw[this]
 rw[e]
 have:=pick_run xs i k
 rw[List.filterMap_map] at this
 have e2:((fun x=>xs[x]?) ∘ fun x=>i+x)=fun m=>xs[i+m]?:=rfl
 rw[e2] at this
 rw[this]
theorem getItem_tuple_cut{t sl:Addr}{items:Array Value}{vl vu:Value}{lo hi:Option Int}{Q:Value→Shared→Prop}(ht:IsTup s.heap t items)(hs:s.heap.IsSliceOf sl vl vu .none)(pl:IsPart vl lo)(pu:IsPart vu hi)
  (hw:¬ (sIx items.size 0 lo=0∧sIx items.size items.size hi=items.size))
  (h:Q (.ref s.heap.objs.size) { s with heap:=s.heap.push { cls:=.type "tuple",data:=.seq ((items.toList.drop (sIx items.size 0 lo)).take (sIx items.size items.size hi - sIx items.size 0 lo)).toArray } })
  (hsz:items.size≤sizeLine):wpAny (model prog w) A (getItem (.ref t) (.ref sl)) Q E s:=by
 have htake:sizeOk (.seq ((items.toList.drop (sIx items.size 0 lo)).take (sIx items.size items.size hi - sIx items.size 0 lo)).toArray):=by
  show((items.toList.drop (sIx items.size 0 lo)).take (sIx items.size items.size hi - sIx items.size 0 lo)).toArray.size≤sizeLine
  rw[List.size_toArray,List.length_take,List.length_drop,Array.length_toList]
  omega
 have hj:sIx items.size items.size hi≤items.size:=sIx_le _ _ (Nat.le_refl _) hi
 obtain⟨os,hos,hcs,hds⟩:=id hs
 have hTs:s.TypeIs (.ref sl) "slice":=⟨os,hos,hcs⟩
 unfold getItem
 try with_reducible refine wpAny_holding ?_
 first | refine wpAny_bind (wpAny_pure ?_) | skip
 refine wpAny_bind (wpAny_sequenceKey ht.typeIs (by decide) ?_)
 refine wpAny_bind (wpAny_callSpecial?_slot (name:=Str.ofString "__getitem__") ht.typeIs PyProof.Rows.slot_tuple_getitem
  (wpAny_call_entry PyProof.Rows.slot_tuple_getitem ht.typeIs entry_tuple_getitem ?_ (args_tuple_getitem _ _)))
 show wpAny _ _ (Builtin.Tuple.tupleItemsOf (.ref t) >>= _) _ _ s
 refine wpAny_bind (tupleItemsOf_ ht ?_)
 refine wpAny_bind (wpAny_typeOf hTs ?_)
 rw[if_pos (by decide)]
 refine wpAny_bind (sliceApplied_gen hs pl pu ?_)
 have hno:¬ ((((sIx items.size 0 lo:Nat):Int) == 0 && (1:Int) == 1 && (sIx items.size items.size hi - sIx items.size 0 lo) == items.size)=true):=by
  intro q
  rw[Bool.and_eq_true,Bool.and_eq_true] at q
  have q1:((sIx items.size 0 lo:Nat):Int)=0:=eq_of_beq q.1.1
  have q2:sIx items.size items.size hi - sIx items.size 0 lo=items.size:=eq_of_beq q.2
  exact hw ⟨by omega,by omega⟩
 show wpAny _ _ (if(((sIx items.size 0 lo:Nat):Int) == 0 && (1:Int) == 1 && (sIx items.size items.size hi - sIx items.size 0 lo) == items.size)=true then _ else _) _ _ s
 rw[if_neg hno,pick_gen]
 first
  | exact wpAny_bind (m:=Builtin.Tuple.tupleExact _) (wpAny_newObj_type (wpAny_pure ⟨_,rfl,wpAny_pure h⟩) htake)
  | exact wpAny_bind (m:=Builtin.Tuple.tupleExact _) (wpAny_newObj_type (wpAny_bind (wpAny_pure (wpAny_pure ⟨_,rfl,wpAny_pure h⟩))) htake)
  | exact wpAny_bind (wpAny_bind (m:=Builtin.Tuple.tupleExact _) (wpAny_newObj_type (wpAny_pure (wpAny_pure ⟨_,rfl,wpAny_pure h⟩)) htake))
  | exact wpAny_bind (wpAny_bind (m:=Builtin.Tuple.tupleExact _) (wpAny_newObj_type (wpAny_pure ⟨_,rfl,wpAny_pure h⟩) htake))
end
end HT
namespace L2
open PySem PySem.Spec PyProof.Rows
abbrev TO:=St→Hp→(Option Int→Hp→Prop)→Prop
def PO(X:Cx)(e:Option Expr)(t:TO):Prop:=
 ∀(pins:List (Addr×Obj)) (s:Shared) (σ:St) (H:Hp) (Q:Option Int→Hp→Prop),Inv X pins σ H s→t σ H Q →
  wpAny (model X.prog X.w) X.A (evalPart e X.env) (fun u s'=>∃ o H',Inv X pins σ H' s'∧IsPart u o∧Q o H') X.xe s
def tNoPart:TO:=fun _ H Q=>Q none H
def tPart(t:TE):TO:=fun σ H Q=>t σ H fun x H1=>∃ i,x = .int i∧Q (some i) H1
theorem intsAre_of{ns:List Int}:∀{us:List Value},Vals (ns.map V.int) us→IntsAre us ns:=by
 induction ns with
 | nil=>intro us r;rw[List.map_nil] at r;cases r;exact .nil
 | cons n ns ih=>
  intro us r
  rw[List.map_cons] at r
  cases r with
  | cons r1 r2=>
   obtain⟨t,e⟩:=r1
   subst e
   exact .cons n t (ih r2)
section
variable{X:Cx}{e:Expr}{te:TE}{lo hi:Option Expr}{tl th:TO}{pos p2:Pos}
theorem po_none:PO X none tNoPart:=by
 intro pins s σ H Q I h
 rw[evalPart_none]
 exact wpAny_pure ⟨none,H,I,.none,h⟩
theorem po_some(h:PE X e te):PO X (some e) (tPart te):=by
 intro pins s σ H Q I hw
 rw[evalPart_some]
 refine thn (h pins s σ H _ I hw) fun u s1 ⟨x,H1,I1,r1,q1⟩=>?_
 obtain⟨i,rfl,q⟩:=q1
 obtain⟨t,rfl⟩:=r1
 exact⟨some i,H1,I1,.int i t,q⟩
def SlR(X:Cx)(r:V→Option Int→Option Int→Hp→VK→Prop):Prop:=
 ∀(pins:List (Addr×Obj)) (s:Shared) (σ:St) (H:Hp) (x:V) (v vl vu:Value) (lo hi:Option Int) (sl:Addr) (Q:VK),Inv X pins σ H s→RelV x v→s.heap.IsSliceOf sl vl vu .none→IsPart vl lo→IsPart vu hi→r x lo hi H Q →
  ∃ T id,typeLookup (.type T) "__getitem__" = pure (some (.builtin id))∧s.TypeIs v T∧wpAny (model X.prog X.w) X.A (getItem v (.ref sl)) (EP X pins σ Q) X.xe s
def tSl(r:V→Option Int→Option Int→Hp→VK→Prop)(te:TE)(tl th:TO):TE:=fun σ H Q=>te σ H fun x H1=>tl σ H1 fun l H2=>th σ H2 fun u H3=>r x l u H3 Q
theorem pe_slice{r:V→Option Int→Option Int→Hp→VK→Prop}(hr:SlR X r)(he:PE X e te)(hl:PO X lo tl)(hu:PO X hi th):PE X (.Subscript e (.Slice lo hi none p2) pos) (tSl r te tl th):=by
 intro pins s σ H Q I h
 refine Subscript_ (thn (he pins s σ H _ I h) fun v s1 ⟨x,H1,I1,r1,q1⟩=>?_)
 refine wpAny_Slice (thn (hl pins s1 σ H1 _ I1 q1) fun vl s2 ⟨l,H2,I2,pl,q2⟩=>thn (hu pins s2 σ H2 _ I2 q2) fun vu s3 ⟨u,H3,I3,pu,q3⟩=>?_)
 rw[evalPart_none]
 refine wpAny_pure ?_
 have I4:Inv X pins σ H3 { s3 with heap:=s3.heap.push { cls:=.type "slice",data:=.fields #[vl,vu,.none] } }:=I3.kept (t':=s3.toks) fun b ob q=>Heap.get?_push_of_some _ q
 obtain⟨T,id,hT,ht,hg⟩:=hr pins { s3 with heap:=s3.heap.push { cls:=.type "slice",data:=.fields #[vl,vu,.none] } } σ H3 x v vl vu l u s3.heap.objs.size Q I4 r1 (Heap.IsSliceOf.new ..) pl pu q3
 show wpAny (model X.prog X.w) X.A (subscriptTail e (.Slice lo hi none p2) v (.ref s3.heap.objs.size)) (EP X pins σ Q) X.xe { s3 with heap:=s3.heap.push { cls:=.type "slice",data:=.fields #[vl,vu,.none] } }
 exact tail_any (ops:=[.ref s3.heap.objs.size,v]) ht hT hg (by with_unfolding_all rfl)
def cutV(xs:List V)(lo hi:Option Int):List V:=(xs.drop (HT.sIx xs.length 0 lo)).take (HT.sIx xs.length xs.length hi - HT.sIx xs.length 0 lo)
theorem cutV_length(xs:List V)(lo hi:Option Int):(cutV xs lo hi).length≤xs.length:=by
 unfold cutV
 rw[List.length_take,List.length_drop]
 omega
def rSlT(K:PySem.W.Frag):V→Option Int→Option Int→Hp→VK→Prop:=fun x lo hi H Q=>∃ a xs,x = .ref a∧SqT K H a xs ∧
 ¬ (HT.sIx xs.length 0 lo=0∧HT.sIx xs.length xs.length hi=xs.length)∧∀ p,H p=none→Q (.ref p) (upd H p (.tup (cutV xs lo hi)))
theorem sl_tup:SlR X (rSlT X.K):=by
 intro pins s σ H x v vl vu lo hi sl Q I rx hs pl pu h
 obtain⟨a,xs,rfl,hx,hw,q⟩:=h
 cases rx
 obtain⟨its,r,ht,hz⟩:=I.tuple hx
 have hlen:its.toArray.size=xs.length:=by rw[List.size_toArray];exact r.length.symm
 refine⟨"tuple",_,PyProof.Rows.slot_tuple_getitem.lookup,ht.typeIs,?_⟩
 refine HT.getItem_tuple_cut ht hs pl pu (by rw[hlen];exact hw) ?_ (by rw[hlen];exact hz)
 rw[hlen]
 refine⟨.ref s.heap.objs.size,_,I.laid (t':=s.toks) (o:=.tup (cutV xs lo hi)) (fun b ob q=>Heap.get?_push_of_some _ q) (Nat.le_refl _) ?_,rfl,q _ (I.hok.fresh (Nat.le_refl _))⟩
 exact⟨Nat.le_trans (cutV_length xs lo hi) hz,_,(r.drop (HT.sIx xs.length 0 lo)).take (HT.sIx xs.length xs.length hi - HT.sIx xs.length 0 lo),IsTup.new _ _⟩
def rCatT(K:PySem.W.Frag):R2:=fun x y H Q=>∃ a b xs ys,x = .ref a∧y = .ref b∧SqT K H a xs∧SqT K H b ys∧xs≠[]∧xs.length+ys.length≤sizeLine ∧
 (ys=[]→Q (.ref a) H)∧(ys≠[]→∀ p,H p=none→Q (.ref p) (upd H p (.tup (xs++ys))))
theorem Vals.nil_iff{xs:List V}{us:List Value}(r:Vals xs us):us=[]↔xs=[]:=by
 cases r with
 | nil=>simp
 | cons _ _=>simp
theorem op_catT:OpR X (binaryOp .Add) (rCatT X.K):=by
 intro pins s σ H x y v u Q I rx ry h
 obtain⟨a,b,xs,ys,rfl,rfl,ha,hb,hx,hz,q1,q2⟩:=h
 cases rx
 cases ry
 obtain⟨its,r1,p1,_⟩:=I.tuple ha
 obtain⟨its2,r2,p2,_⟩:=I.tuple hb
 refine HT.cat_tup p1 p2 (fun z=>hx (r1.nil_iff.mp z)) (fun z=>⟨.ref a,H,I,rfl,q1 (r2.nil_iff.mp z)⟩) (fun z=>?_) (by rw[← r1.length,← r2.length];exact hz)
 refine⟨.ref s.heap.objs.size,_,I.laid (t':=s.toks) (o:=.tup (xs++ys)) (fun b ob q=>Heap.get?_push_of_some _ q) (Nat.le_refl _) ?_,rfl,q2 (fun w=>z (r2.nil_iff.mpr w)) _ (I.hok.fresh (Nat.le_refl _))⟩
 exact⟨by rw[List.length_append];exact hz,_,r1.append r2,IsTup.new _ _⟩
end
end L2
namespace L2
open PySem PySem.Spec PyProof.Rows
def ixN(n:Nat)(i:Int):Option Nat:=if 0≤i then(if i < n then some i.toNat else none) else if -(n:Int)≤i then some (i+n).toNat else none
def atI{α:Type}(xs:List α)(i:Int):Option α:=(ixN xs.length i).bind fun j=>xs[j]?
theorem ixN_seq{n:Nat}{i:Int}{j:Nat}(h:ixN n i=some j):seqIndex? i n=some j∧j < n∧-(n:Int)≤i∧i < n:=by
 unfold ixN at h
 by_cases h0:0≤i
 ·rw[if_pos h0] at h
  by_cases h1:i < n
  ·rw[if_pos h1] at h
   have e:i.toNat=j:=Option.some.inj h
   exact⟨by rw[seqIndex_of h0 h1,e],by omega,by omega,h1⟩
  ·rw[if_neg h1] at h;cases h
 ·rw[if_neg h0] at h
  by_cases h1:-(n:Int)≤i
  ·rw[if_pos h1] at h
   have e:(i+n).toNat=j:=Option.some.inj h
   exact⟨by rw[seqIndex_neg (by omega) h1,e],by omega,h1,by omega⟩
  ·rw[if_neg h1] at h;cases h
theorem atI_get{α:Type}{xs:List α}{i:Int}{v:α}(h:atI xs i=some v):∃ j,seqIndex? i xs.length=some j∧xs[j]? = some v∧j < xs.length∧-(xs.length:Int)≤i∧i < xs.length:=by
 unfold atI at h
 cases e:ixN xs.length i with
 | none=>rw[e] at h;cases h
 | some j=>
  rw[e] at h
  obtain⟨h1,h2,h3,h4⟩:=ixN_seq e
  exact⟨j,h1,h,h2,h3,h4⟩
theorem atI_nat{α:Type}{xs:List α}{j:Nat}{v:α}(h:xs[j]? = some v):atI xs (j:Int)=some v:=by
 have hj:j < xs.length:=(List.getElem?_eq_some_iff.mp h).1
 have e:ixN xs.length (j:Int)=some j:=by
  unfold ixN
  rw[if_pos (by omega),if_pos (by omega)];simp
 unfold atI;rw[e];exact h
def PlainIx(b:Expr):Prop:=∀ o i,subscripted b false o i=operate [o,i] (getItem o i)
def IxR(X:Cx)(r:R2):Prop:=
 ∀(value slice:Expr) (pins:List (Addr×Obj)) (s:Shared) (σ:St) (H:Hp) (x y:V) (v u:Value) (Q:VK),Inv X pins σ H s→RelV x v→RelV y u→r x y H Q →
  subscripted slice false v u=operate [v,u] (getItem v u)→wpAny (model X.prog X.w) X.A (subscriptTail value slice v u) (EP X pins σ Q) X.xe s
def MtR(X:Cx)(id:String)(r:V→List V→Hp→VK→Prop):Prop:=
 ∀(pins:List (Addr×Obj)) (s:Shared) (σ:St) (H:Hp) (x:V) (xs:List V) (v:Value) (us:List Value) (Q:VK),Inv X pins σ H s→RelV x v→Vals xs us→r x xs H Q →
  wpAny (model X.prog X.w) X.A (call (.builtin id) (v :: us)) (EP X pins σ Q) X.xe s
section
variable{X:Cx}{a b:Expr}{ta tb:TE}{pos:Pos}
theorem pe_ix{r:R2}(hr:IxR X r)(ha:PE X a ta)(hb:PE X b tb)(hs:PlainIx b):PE X (.Subscript a b pos) (tOp r ta tb):=by
 intro pins s σ H Q I h
 exact Subscript_ (binT ha hb I h fun v u s2 x y H2 I2 rx ry q=>hr a b pins s2 σ H2 x y v u Q I2 rx ry q (hs _ _))
def rIxL(K:PySem.W.Frag):R2:=fun x y H Q=>∃ p xs i v,x = .ref p∧y = .int i∧SqL K H p xs∧atI xs i=some v∧Q v H
def rIxT(K:PySem.W.Frag):R2:=fun x y H Q=>∃ p xs i v,x = .ref p∧y = .int i∧SqT K H p xs∧atI xs i=some v∧Q v H
def rIxS:R2:=fun x y H Q=>∃ z i c,x = .str z∧y = .int i∧z.length≤sizeLine∧atI z.cps.toList i=some c∧Q (.str ⟨#[c]⟩) H
theorem ix_list:IxR X (rIxL X.K):=by
 intro value slice pins s σ H x y v u Q I rx ry h hs
 obtain⟨p,xs,i,z,rfl,rfl,hq,he,q⟩:=h
 cases rx
 obtain⟨t,rfl⟩:=ry
 obtain⟨its,r,pl,hz⟩:=I.list hq
 obtain⟨j,h1,h2,h3,h4,h5⟩:=atI_get he
 obtain⟨w,ew,rw'⟩:=r.get h2
 have hl:=r.length
 have hn:=line63
 have fin:EP X pins σ Q w s:=⟨z,H,I,rw',q⟩
 by_cases h0:0≤i
 ·have hj:i.toNat=j:=by
   rw[seqIndex_of h0 h5] at h1
   exact Option.some.inj h1
  exact item_listR pl.isList h0 (by omega) (by rw[hj];simpa using ew) fin hs
 ·have hj:(i+(its.toArray.size:Int)).toNat=j:=by
   rw[seqIndex_neg (by omega) h4] at h1
   rw[List.size_toArray,← hl]
   exact Option.some.inj h1
  exact subscriptTail_builtinR (x:=w) pl.isList.typeIs slot_list_getitem.lookup
   (wpAny_getItem_list_neg (Q:=fun r s'=>r=w∧EP X pins σ Q r s') pl.isList (by omega) (by rw[List.size_toArray]<;>omega) (by omega) (by rw[hj];simpa using ew) ⟨rfl,fin⟩) hs
theorem ix_tup:IxR X (rIxT X.K):=by
 intro value slice pins s σ H x y v u Q I rx ry h hs
 obtain⟨p,xs,i,z,rfl,rfl,hq,he,q⟩:=h
 cases rx
 obtain⟨t,rfl⟩:=ry
 obtain⟨its,r,pl,hz⟩:=I.tuple hq
 obtain⟨j,h1,h2,h3,h4,h5⟩:=atI_get he
 obtain⟨w,ew,rw'⟩:=r.get h2
 have hl:=r.length
 have hn:=line63
 have fin:EP X pins σ Q w s:=⟨z,H,I,rw',q⟩
 exact subscriptTail_builtinR (x:=w) pl.typeIs slot_tuple_getitem.lookup
  (getItem_tuple (j:=j) (Q:=fun r s'=>r=w∧EP X pins σ Q r s') pl (by omega) (by omega) (by rw[List.size_toArray,← hl];exact h1) (by simpa using ew) ⟨rfl,fin⟩) hs
theorem ix_str:IxR X rIxS:=by
  intro value slice pins s σ H x y v u Q I rx ry h hs
  obtain⟨z,i,c,rfl,rfl,hz,he,q⟩:=h
  obtain⟨t,rfl⟩:=rx
  obtain⟨t',rfl⟩:=ry
  obtain⟨j,h1,h2,h3,h4,h5⟩:=atI_get he
  have hl:z.cps.toList.length=z.length:=by simp [Str.length]
  rw[hl] at h1 h4 h5
  have hn:=line63
  exact tail_any (typeIs_str s z t) slot_str_getitem.lookup (getItem_str (c:=c) (by
    have e1:decide (i < -(2 ^ 63:Int))=false:=decide_eq_false (by omega)
    have e2:decide (i ≥ 2 ^ 63)=false:=decide_eq_false (by omega)
    rw[e1,e2,Bool.or_false]) (by rw[h1];simpa using h2) ⟨.str ⟨#[c]⟩,H,I.tok _,⟨_,rfl⟩,q⟩) hs
theorem slice_bounds(lo hi:Option Int)(n:Nat):(sliceBounds lo hi none n).1=((HT.sIx n 0 lo:Nat):Int)∧(sliceBounds lo hi none n).2.1=((HT.sIx n n hi:Nat):Int)∧(sliceBounds lo hi none n).2.2=1:=by
 refine⟨?_,?_,rfl⟩
 ·cases lo with
  | none=>simp [sliceBounds,HT.sIx]
  | some i=>
   simp only[sliceBounds,HT.sIx,Option.getD_none,show(1:Int) > 0 by decide,if_true]
   by_cases h:i < 0
   ·simp only[h,if_true]<;>omega
   ·simp only[h,if_false]<;>omega
 ·cases hi with
  | none=>simp [sliceBounds,HT.sIx]
  | some i=>
   simp only[sliceBounds,HT.sIx,Option.getD_none,show(1:Int) > 0 by decide,if_true]
   by_cases h:i < 0
   ·simp only[h,if_true]<;>omega
   ·simp only[h,if_false]<;>omega
theorem slicePick_cut(its:List Value)(lo hi:Option Int):slicePick its.toArray lo hi none=((its.drop (HT.sIx its.length 0 lo)).take (HT.sIx its.length its.length hi - HT.sIx its.length 0 lo)).toArray:=by
 obtain⟨h1,h2,h3⟩:=slice_bounds lo hi its.toArray.size
 unfold slicePick
 rw[h1,h2,h3]
 simp only[sliceRange_one,pick_run,List.size_toArray]<;>rfl
def rSlL(K:PySem.W.Frag):V→Option Int→Option Int→Hp→VK→Prop:=fun x lo hi H Q=>∃ a xs,x = .ref a∧SqL K H a xs∧∀ p,H p=none→Q (.ref p) (upd H p (.lst (cutV xs lo hi)))
theorem sl_list:SlR X (rSlL X.K):=by
 intro pins s σ H x v vl vu lo hi sl Q I rx hs pl pu h
 obtain⟨a,xs,rfl,hx,q⟩:=h
 cases rx
 obtain⟨its,r,ht,hz⟩:=I.list hx
 have hlen:=r.length
 refine⟨"list",_,slot_list_getitem.lookup,ht.isList.typeIs,?_⟩
 refine wpAny_getItem_list_slice ht.isList hs pl pu .none (by simp) ?_ (by rw[List.size_toArray]<;>omega)
 rw[slicePick_cut,← hlen]
 refine⟨.ref s.heap.objs.size,_,I.laid (t':=s.toks) (o:=.lst (cutV xs lo hi)) (fun b ob q=>Heap.get?_push_of_some _ q) (Nat.le_refl _) ?_,rfl,q _ (I.hok.fresh (Nat.le_refl _))⟩
 exact⟨Nat.le_trans (cutV_length xs lo hi) hz,_,0,(r.drop (HT.sIx xs.length 0 lo)).take (HT.sIx xs.length xs.length hi - HT.sIx xs.length 0 lo),Heap.get?_push_size _ rfl⟩
def flatV:V→Bool
 | .non=>true
 | .bl _=>true
 | .int _=>true
 | .str _=>true
 | _=>false
def eqV:V→V→Bool
 | .non,.non=>true
 | .bl a,.bl b=>a == b
 | .bl a,.int b=>(if a then 1 else 0) == b
 | .int a,.bl b=>a == (if b then 1 else 0)
 | .int a,.int b=>a == b
 | .str a,.str b=>a == b
 | _,_=>false
theorem eqAt_V{A:Around}{s:Shared}{y x:V}{u v:Value}(ry:RelV y u)(rx:RelV x v)(fy:flatV y=true)(fx:flatV x=true):SeqAt.EqAt A s u v (eqV y x):=by
 cases y with
 | non=>
  cases ry
  cases x with
  | non=>cases rx;exact SeqAt.EqAt.same _
  | bl b=>cases rx;exact SeqAt.EqAt.none_bool b
  | int b=>obtain⟨t,rfl⟩:=rx;exact SeqAt.EqAt.none_int b t
  | str b=>obtain⟨t,rfl⟩:=rx;exact SeqAt.EqAt.none_str b t
  | _=>exact absurd (show false=true from fx) Bool.false_ne_true
 | bl a=>
  cases ry
  cases x with
  | non=>cases rx;exact SeqAt.EqAt.bool_none a
  | bl b=>cases rx;exact SeqAt.EqAt.bool_bool a b
  | int b=>obtain⟨t,rfl⟩:=rx;exact SeqAt.EqAt.bool_int a b t
  | str b=>obtain⟨t,rfl⟩:=rx;exact SeqAt.EqAt.bool_str a b t
  | _=>exact absurd (show false=true from fx) Bool.false_ne_true
 | int a=>
  obtain⟨t',rfl⟩:=ry
  cases x with
  | non=>cases rx;exact SeqAt.EqAt.int_none a t'
  | bl b=>cases rx;exact SeqAt.EqAt.int_bool a t' b
  | int b=>obtain⟨t,rfl⟩:=rx;exact SeqAt.EqAt.int_int a t' b t
  | str b=>obtain⟨t,rfl⟩:=rx;exact SeqAt.EqAt.int_str a t' b t
  | _=>exact absurd (show false=true from fx) Bool.false_ne_true
 | str a=>
  obtain⟨t',rfl⟩:=ry
  cases x with
  | non=>cases rx;exact SeqAt.EqAt.str_none a t'
  | bl b=>cases rx;exact SeqAt.EqAt.str_bool a t' b
  | int b=>obtain⟨t,rfl⟩:=rx;exact SeqAt.EqAt.str_int a t' b t
  | str b=>obtain⟨t,rfl⟩:=rx;exact SeqAt.EqAt.str_str a t' b t
  | _=>exact absurd (show false=true from fx) Bool.false_ne_true
 | _=>exact absurd (show false=true from fy) Bool.false_ne_true
def eqU(x:V)(u:Value):Bool:=match u with
 | .none=>eqV .non x
 | .bool b=>eqV (.bl b) x
 | .int i _=>eqV (.int i) x
 | .str z _=>eqV (.str z) x
 | _=>false
theorem eqU_of{x y:V}{u:Value}(r:RelV y u)(f:flatV y=true):eqU x u=eqV y x:=by
 cases y with
 | non=>cases r;rfl
 | bl b=>cases r;rfl
 | int i=>obtain⟨t,rfl⟩:=r;rfl
 | str z=>obtain⟨t,rfl⟩:=r;rfl
 | _=>exact absurd (show false=true from f) Bool.false_ne_true
theorem any_eqU{x:V}:∀{xs:List V} {us:List Value},Vals xs us→xs.all flatV=true→us.any (eqU x)=xs.any fun y=>eqV y x
 | _,_,.nil,_=>rfl
 | y :: xs,u :: us,.cons r t,f=>by
  rw[List.all_cons,Bool.and_eq_true] at f
  rw[List.any_cons,List.any_cons,eqU_of r f.1,any_eqU t f.2]
theorem mem_eqAt{A:Around}{s:Shared}{x:V}{v:Value}(rx:RelV x v)(fx:flatV x=true):∀{xs:List V} {us:List Value},Vals xs us→xs.all flatV=true→∀ u∈us,SeqAt.EqAt A s u v (eqU x u)
 | _,_,.nil,_=>fun u hu=>by cases hu
 | y :: xs,u :: us,.cons r t,f=>fun u' hu=>by
  rw[List.all_cons,Bool.and_eq_true] at f
  rcases List.mem_cons.mp hu with rfl | hu
  ·rw[eqU_of r f.1];exact eqAt_V r rx f.1 fx
  ·exact mem_eqAt rx fx t f.2 u' hu
def inV(x:V)(xs:List V):Bool:=xs.any fun y=>eqV y x
def rIn(K:PySem.W.Frag)(neg:Bool):R2:=fun x y H Q=>∃ p xs,y = .ref p∧(SqL K H p xs∨SqT K H p xs)∧flatV x=true∧xs.all flatV=true∧Q (.bl (if neg then !inV x xs else inV x xs)) H
theorem op_in_seq:OpR X (compareOp .In) (rIn X.K false):=by
 intro pins s σ H x y v u Q I rx ry h
 obtain⟨p,xs,rfl,hq,fx,fs,q⟩:=h
 cases ry
 rcases hq with hq | hq
 ·obtain⟨its,r,pl,hz⟩:=I.list hq
  refine SeqAt.in_listAt (eqU x) pl.isList (fun w hw=>mem_eqAt rx fx r fs w (by simpa using hw)) ⟨.bl _,H,I,rfl,?_⟩
  rw[show its.toArray.any (eqU x)=its.any (eqU x) by simp,any_eqU r fs]
  exact q
 ·obtain⟨its,r,pl,hz⟩:=I.tuple hq
  refine SeqAt.in_tupleAt (eqU x) pl (fun w hw=>mem_eqAt rx fx r fs w (by simpa using hw)) ⟨.bl _,H,I,rfl,?_⟩
  rw[show its.toArray.any (eqU x)=its.any (eqU x) by simp,any_eqU r fs]
  exact q
theorem op_notIn_seq:OpR X (compareOp .NotIn) (rIn X.K true):=by
 intro pins s σ H x y v u Q I rx ry h
 obtain⟨p,xs,rfl,hq,fx,fs,q⟩:=h
 cases ry
 rcases hq with hq | hq
 ·obtain⟨its,r,pl,hz⟩:=I.list hq
  refine SeqAt.notIn_listAt (eqU x) pl.isList (fun w hw=>mem_eqAt rx fx r fs w (by simpa using hw)) ⟨.bl _,H,I,rfl,?_⟩
  rw[show its.toArray.any (eqU x)=its.any (eqU x) by simp,any_eqU r fs]
  exact q
 ·obtain⟨its,r,pl,hz⟩:=I.tuple hq
  refine SeqAt.notIn_tupleAt (eqU x) pl (fun w hw=>mem_eqAt rx fx r fs w (by simpa using hw)) ⟨.bl _,H,I,rfl,?_⟩
  rw[show its.toArray.any (eqU x)=its.any (eqU x) by simp,any_eqU r fs]
  exact q
theorem call_len_seq:CallR X (.builtin "len") (fun xs H Q=>∃ p ys,xs=[.ref p]∧(SqL X.K H p ys∨SqT X.K H p ys)∧Q (.int ys.length) H):=by
 intro pins s σ H xs us Q I r h
 obtain⟨p,ys,rfl,hq,q⟩:=h
 obtain⟨u,rfl,rx⟩:=vals1 r
 cases rx
 have hn:=line63
 rcases hq with hq | hq
 ·obtain⟨its,r',pl,hz⟩:=I.list hq
  have hlen:=r'.length
  exact Calls.call_len_list pl.isList (by simp only[List.size_toArray]<;>omega) ⟨.int ys.length,H,I.tok _,⟨s.toks+1,by rw[List.size_toArray,hlen]⟩,q⟩
 ·obtain⟨its,r',pl,hz⟩:=I.tuple hq
  have hlen:=r'.length
  exact len_tuple pl (by simp only[List.size_toArray]<;>omega) ⟨.int ys.length,H,I.tok _,⟨s.toks+1,by rw[List.size_toArray,hlen]⟩,q⟩
theorem call_len_str:CallR X (.builtin "len") (fun xs H Q=>∃ z,xs=[.str z]∧z.length≤sizeLine∧Q (.int z.length) H):=by
 intro pins s σ H xs us Q I r h
 obtain⟨z,rfl,hz,q⟩:=h
 obtain⟨u,rfl,t,rfl⟩:=vals1 r
 have hn:=line63
 exact len_str (by omega) ⟨.int z.length,H,I.tok _,⟨_,rfl⟩,q⟩
theorem call_list_of:CallR X (.type "list") (fun xs H Q=>∃ p ys,xs=[.ref p]∧(SqL X.K H p ys∨SqT X.K H p ys)∧∀ l,H l=none→Q (.ref l) (upd H l (.lst ys))):=by
 intro pins s σ H xs us Q I r h
 obtain⟨p,ys,rfl,hq,q⟩:=h
 obtain⟨u,rfl,rx⟩:=vals1 r
 cases rx
 have fin:∀(its:List Value),Vals ys its→ys.length≤sizeLine→∀(h':Heap) (c':Nat),(∀ b o',s.heap.get? b=some o'→h'.get? b=some o') →
   h'.get? s.heap.objs.size=some { cls:=.type "list",dict:=none,data:=.seq its.toArray c',slots:=#[] }→EP X pins σ Q (.ref s.heap.objs.size) { s with heap:=h' }:=fun its r' hz h' c' kp e=>
  ⟨.ref s.heap.objs.size,_,I.laid (t':=s.toks) kp (Nat.le_refl _) (show ObjOk X.prog X.w _ h' _ (.lst ys) from⟨hz,its,c',r',e⟩),rfl,q _ (I.hok.fresh (Nat.le_refl _))⟩
 rcases hq with hq | hq
 ·obtain⟨its,r',pl,hz⟩:=I.list hq
  have hlen:=r'.length
  obtain⟨o,ho,hc,n,hd⟩:=pl.isList
  exact call_list_seq p (.inl rfl) ho hc hd (fun h' c' kp e=>fin its r' hz h' c' kp e) (by simp only[List.size_toArray]<;>omega)
 ·obtain⟨its,r',pl,hz⟩:=I.tuple hq
  have hlen:=r'.length
  obtain⟨o,ho,hc,n,hd⟩:=pl
  exact call_list_seq p (.inr rfl) ho hc hd (fun h' c' kp e=>fin its r' hz h' c' kp e) (by simp only[List.size_toArray]<;>omega)
theorem call_tuple_of:CallR X (.type "tuple") (fun xs H Q=>∃ p ys,xs=[.ref p]∧((SqL X.K H p ys∧∀ l,H l=none→Q (.ref l) (upd H l (.tup ys)))∨(SqT X.K H p ys∧Q (.ref p) H))):=by
 intro pins s σ H xs us Q I r h
 obtain⟨p,ys,rfl,h⟩:=h
 obtain⟨u,rfl,rx⟩:=vals1 r
 cases rx
 rcases h with⟨hq,q⟩ | ⟨hq,q⟩
 ·obtain⟨its,r',pl,hz⟩:=I.list hq
  have hlen:=r'.length
  refine call_tuple_list pl.isList (fun h' kp=>?_) (by simp only[List.size_toArray]<;>omega)
  have I1:Inv X pins σ H { s with heap:=h' }:=I.kept (t':=s.toks) kp
  have I2:Inv X pins σ (upd H h'.objs.size (.tup ys)) { s with heap:=h'.push { cls:=.type "tuple",data:=.seq its.toArray } }:=
   I1.laid (t':=s.toks) (fun b o e=>Heap.get?_push_of_some _ e) (Nat.le_refl _) (show ObjOk X.prog X.w _ _ _ (.tup ys) from⟨hz,its,r',IsTup.new _ _⟩)
  exact⟨.ref h'.objs.size,_,I2,rfl,q _ (I1.hok.fresh (Nat.le_refl _))⟩
 ·obtain⟨its,r',pl,hz⟩:=I.tuple hq
  exact call_tuple_same pl ⟨.ref p,H,I,rfl,q⟩
def tyV(K:PySem.W.Frag)(T:String)(x:V)(H:Hp):Prop:=match x with
 | .str _=>T = "str"
 | .int _=>T = "int"
 | .ref p=>(T = "list"∧∃ xs,SqL K H p xs)∨(T = "tuple"∧∃ o,K.lookup p=some o∧o.cls = .type "tuple"∧o.dict=none) ∨
   (T = "dict"∧((∃ kvs,H p=some (.dK kvs))∨∃ kvs,H p=some (.dT kvs)))∨(T = "set"∧∃ S n,H p=some (.set S n))
 | _=>False
theorem tyV_is{pins:List (Addr×Obj)}{σ:St}{H:Hp}{s:Shared}{T:String}{x:V}{v:Value}(I:Inv X pins σ H s)(r:RelV x v)(ty:tyV X.K T x H) :
  s.TypeIs v T∧∀ a,v = .ref a→∃ ob,s.heap.get? a=some ob∧ob.dict=none:=by
 cases x with
 | str z=>
  obtain⟨t,rfl⟩:=r
  cases (show T = "str" from ty)
  exact⟨typeIs_str s z t,fun _ e=>nomatch e⟩
 | int i=>
  obtain⟨t,rfl⟩:=r
  cases (show T = "int" from ty)
  exact⟨typeIs_int s i t,fun _ e=>nomatch e⟩
 | ref p=>
  cases r
  rcases ty with⟨rfl,xs,hq⟩ | ⟨rfl,o,hk,hc,hd⟩ | ⟨rfl,hk⟩ | ⟨rfl,S,n,hk⟩
  ·obtain⟨its,_,pl,_⟩:=I.list hq
   refine⟨pl.isList.typeIs,fun a e=>?_⟩
   cases e
   obtain⟨o,n,e,c,hd,_⟩:=pl
   exact⟨o,e,hd⟩
  ·refine⟨⟨o,I.kIn p o hk,hc⟩,fun a e=>?_⟩
   cases e
   exact⟨o,I.kIn _ o hk,hd⟩
  ·have z:∃ o,s.heap.get? p=some o∧o.ExactDict:=by
    rcases hk with⟨kvs,hk⟩ | ⟨kvs,hk⟩
    ·obtain⟨_,_,_,_,o,_,_,e,ex,_⟩:=I.hok p _ hk
     exact⟨o,e,ex⟩
    ·obtain⟨_,_,_,_,o,_,_,e,ex,_⟩:=I.hok p _ hk
     exact⟨o,e,ex⟩
   obtain⟨o,e,ex⟩:=z
   refine⟨⟨o,e,ex.1⟩,fun a e2=>?_⟩
   cases e2
   exact⟨o,e,ex.2.1⟩
  ·obtain⟨o,_,_,_,e,ex,_⟩:=I.hok p _ hk
   refine⟨⟨o,e,ex.1⟩,fun a e2=>?_⟩
   cases e2
   exact⟨o,e,ex.2.1⟩
 | _=>exact False.elim ty
def tBM(K:PySem.W.Frag)(T:String)(r:V→List V→Hp→VK→Prop)(to:TE)(t:TA):TE:=fun σ H Q=>to σ H fun x H1=>tyV K T x H1∧t σ H1 fun xs H2=>r x xs H2 Q
variable{o e:Expr}{es:List Expr}{to:TE}{t:TA}{name:Str}{apos cpos:Pos}{T id:String}{r:V→List V→Hp→VK→Prop}
theorem pe_bm(pa:PlainAttrs T)(slot:Slot T name id)(hty:typeOf (.builtin id)=pure (.type "method_descriptor"))(hm:MtR X id r)(ho:PE X o to)(ha:PA X (e :: es) t)
  (hbase:attributeBase o name X.env (eval o X.env)=eval o X.env:=by rfl)
  (hfew:((backTo cpos (starEach (e :: es) X.env)).all (fun x=>!x.1) && (backToKw cpos (keywordEach [] X.env)).all (fun x=>x.1.isSome)
   && decide ((e :: es).length+([]:List Keyword).length+(if([]:List Keyword).isEmpty then 0 else 1) < 30))=true:=by rfl)
  (hline:(apos.endLine == cpos.line)=true:=by rfl) (hs:starEach (e :: es) X.env=(false,eval e X.env) :: starEach es X.env:=by rfl) (hplain:(backTo cpos (starEach es X.env)).any (·.1)=false:=by rfl) :
  PE X (.Call (.Attribute o name apos) (e :: es) [] cpos) (tBM X.K T r to t):=by
 intro pins s σ H Q I h
 refine wpAny_Call_method_late hbase hfew hline rfl (thn (ho pins s σ H _ I h) fun v s1 ⟨x,H1,I1,r1,ty,q1⟩=>?_)
 obtain⟨h1,h2⟩:=tyV_is I1 r1 ty
 refine⟨T,id,pa,slot,hty,h1,h2,?_⟩
 have hA:=ha cpos pins s1 σ H1 _ I1 q1
 rw[hs] at hA ⊢
 refine Calls.callWith_builtin (by show(false || (backTo cpos (starEach es X.env)).any (·.1))=false;rw[hplain]<;>rfl) (Calls.evalArgs_plain ?_)
 exact thn hA fun us s2 ⟨vs,H2,I2,r2,q2⟩=>hm pins s2 σ H2 x vs v us Q I2 r1 r2 q2
end
end L2
namespace L2
open PySem PySem.Spec PyProof.Rows
def MtM(X:Cx)(id:String)(r:V→List V→Hp→VK→Prop):Prop:=
 ∀(pins:List (Addr×Obj)) (s:Shared) (σ:St) (H:Hp) (x:V) (xs:List V) (v:Value) (us:List Value) (Q:VK),Inv X pins σ H s→RelV x v→Vals xs us→r x xs H Q →
  wpAny (model X.prog X.w) X.A (call (.builtin id) (v :: us)) (EP X pins σ Q) X.xe s
theorem Vals.one:∀{x:V} {us:List Value},Vals [x] us→∃ u,us=[u]∧RelV x u
 | _,_,.cons r .nil=>⟨_,rfl,r⟩
section
variable{X:Cx}{pins:List (Addr×Obj)}{σ:St}{H:Hp}{s:Shared}{l b:Addr}{xs ys zs:List V}
theorem Inv.lset{its its':List Value}{n:Nat}{f:Array Value→Array Value}{t':Nat}(I:Inv X pins σ H s)(hH:H l=some (.lst xs))
  (e:s.heap.get? l=some { cls:=.type "list",data:=.seq its.toArray n }) (hf:f its.toArray=its'.toArray) (hv:Vals ys its') (hz:ys.length≤sizeLine) :
  Inv X pins σ (upd H l (.lst ys)) { s with heap:=s.heap.update l (Obj.mapSeq f),toks:=t' }:=by
 have q:=PySem.IsL.update e f
 rw[hf] at q
 refine I.write (x:=l) (e:=l) (by rw[hH];exact trivial) (.inl rfl) (fun b' u hb hu=>(Heap.get?_update_other s.heap (Obj.mapSeq f) (Ne.symm hb)).trans hu) ⟨_,q⟩ ?_
 exact⟨hz,its',_,hv,q⟩
theorem Inv.lnew{its:List Value}{t':Nat}(I:Inv X pins σ H s)(hv:Vals ys its)(hz:ys.length≤sizeLine) :
  Inv X pins σ (upd H s.heap.objs.size (.lst ys)) { s with heap:=s.heap.push { cls:=.type "list",data:=.seq its.toArray },toks:=t' }:=
 I.laid (fun _ _ q=>Heap.get?_push_of_some _ q) (Nat.le_refl _) ⟨hz,its,0,hv,Heap.get?_push_size _ rfl⟩
theorem Inv.fresh(I:Inv X pins σ H s):H s.heap.objs.size=none:=I.hok.fresh (Nat.le_refl _)
theorem Inv.lstM(I:Inv X pins σ H s)(hH:H l=some (.lst xs)):xs.length≤sizeLine∧∃(its:List Value) (n:Nat),Vals xs its∧xs.length=its.length∧s.heap.get? l=some { cls:=.type "list",data:=.seq its.toArray n }:=by
 obtain⟨z,its,n,r,e⟩:=I.hok l _ hH
 exact⟨z,its,n,r,r.length,e⟩
theorem notLongL{n:Nat}(h:n≤sizeLine):Builtin.List.listTooLong n=false:=by
 unfold Builtin.List.listTooLong
 exact decide_eq_false (by omega)
end
section
variable{X:Cx}
def rAppend:V→List V→Hp→VK→Prop:=fun x vs H Q=>∃ l xs y,x = .ref l∧vs=[y]∧H l=some (.lst xs)∧xs.length < sizeLine∧Q .non (upd H l (.lst (xs++[y])))
theorem mt_append:MtM X "list.append" rAppend:=by
 intro pins s σ H x vs v us Q I rx rv h
 obtain⟨l,xs,y,rfl,rfl,hH,hz,q⟩:=h
 cases rx
 obtain⟨u,rfl,ru⟩:=rv.one
 obtain⟨z,its,n,r,hl,e⟩:=I.lstM hH
 refine call_meets F.slot_list_append ⟨_,e,rfl⟩ F.entry_list_append (F.args_list_append_2 _ _) (PySem.list_append l its.toArray n u (by rw[List.size_toArray];omega)) ⟨e,?_⟩
 refine⟨.non,_,I.lset (its':=its++[u]) hH e (by simp) (r.append (.cons ru .nil)) ?_,rfl,q⟩
 rw[List.length_append,List.length_singleton]
 omega
def rExtend:V→List V→Hp→VK→Prop:=fun x vs H Q=>∃ l b xs zs,x = .ref l∧vs=[.ref b]∧H l=some (.lst xs)∧H b=some (.lst zs)∧xs.length+zs.length≤sizeLine∧Q .non (upd H l (.lst (xs++zs)))
theorem mt_extend:MtM X "list.extend" rExtend:=by
 intro pins s σ H x vs v us Q I rx rv h
 obtain⟨l,b,xs,zs,rfl,rfl,hH,hB,hz,q⟩:=h
 cases rx
 obtain⟨u,rfl,ru⟩:=rv.one
 cases ru
 obtain⟨z,its,n,r,hl,e⟩:=I.lstM hH
 obtain⟨z2,its2,n2,r2,hl2,e2⟩:=I.lstM hB
 have hsz:its.toArray.size+its2.toArray.size≤sizeLine:=by rw[List.size_toArray,List.size_toArray];omega
 have hlong:¬ (!its.toArray.isEmpty && Builtin.List.listTooLong (its.toArray.size+its2.toArray.size))=true:=by
  rw[notLongL hsz,Bool.and_false]
  exact Bool.false_ne_true
 refine call_meets F.slot_list_extend ⟨_,e,rfl⟩ F.entry_list_extend (F.args_list_extend_2 _ _)
  (AutoSeq1.list_extend_list_list_0 l its.toArray n b its2.toArray n2 hlong (by rw[List.size_toArray];omega) (by omega)) ⟨e,e2,?_⟩
 refine⟨.non,_,I.lset (its':=its++its2) hH e (by simp) (r.append r2) ?_,rfl,q⟩
 rw[List.length_append]
 omega
def rCat:R2:=fun x y H Q=>∃ l b xs zs,x = .ref l∧y = .ref b∧H l=some (.lst xs)∧H b=some (.lst zs)∧xs.length+zs.length≤sizeLine∧∀ p,H p=none→Q (.ref p) (upd H p (.lst (xs++zs)))
theorem op_cat:OpR X (binaryOp .Add) rCat:=by
 intro pins s σ H x y v u Q I rx ry h
 obtain⟨l,b,xs,zs,rfl,rfl,hH,hB,hz,q⟩:=h
 cases rx
 cases ry
 obtain⟨z,its,n,r,hl,e⟩:=I.lstM hH
 obtain⟨z2,its2,n2,r2,hl2,e2⟩:=I.lstM hB
 refine PySem.P.add_list e e2 ?_ (by rw[List.size_toArray,List.size_toArray];omega)
 have ea:its.toArray++its2.toArray=(its++its2).toArray:=by simp
 rw[ea]
 exact⟨.ref _,_,I.lnew (t':=s.toks) (r.append r2) (by rw[List.length_append];omega),rfl,q _ I.fresh⟩
end
section
variable{prog:Program}{w:World}{A:Around}{E:Value→Shared→Prop}{s:Shared}
end
section
variable{X:Cx}
end
end L2
namespace Att
open PySem PySem.W PySem.Calls PyProof.Rows
theorem ints_of_wellAll{P:Params}{h:Heap}:∀(ns:List Int) (vs:List Value),WellAll P h vs (ns.map WData.int)→IntsAre vs ns:=by
 intro ns
 induction ns with
 | nil=>
  intro vs w
  rw[List.map_nil] at w
  cases w
  exact .nil
 | cons n ns ih=>
  intro vs w
  rw[List.map_cons] at w
  cases w with
  | cons a b=>
   cases a
   exact .cons _ _ (ih _ b)
theorem script_of{l:OpenLaw}{n:Nat}(hn:l.most=some n){P:Params}{h:Heap}{args:List WData}{vals:List Value}
  (hpre:l.row.toRowW.claim.pre args=true) (hwl:WellAll P h vals args) :
  ∃ a vs ns,vals=[Value.ref a]∧args=[WData.list (ns.map WData.int)]∧h.get? a=some { cls:=.type "list",data:=.seq vs.toArray }∧IntsAre vs ns∧ns.length≤n:=by
 have hsh:WShape.hasAll [] args [.list .int]=true:=(pre_splitW hpre).1
 have hc:l.pre.holds [] { args:=args }=true:=(pre_splitW hpre).2
 obtain⟨d,r,rfl,h1,h2⟩:=hasAllW_cons hsh
 obtain rfl:=hasAllW_nil h2
 obtain⟨xs,rfl,h3⟩:=hasW_list h1
 obtain⟨ns,rfl⟩:=items_int h3
 have hlen:ns.length≤n:=by
  unfold OpenLaw.pre at hc
  have h4:(WTm.not (.lt (.lit (.int (n:Int))) (.len (.arg 0)))).holds [] { args:=[.list (ns.map .int)] }=true:=by
   have h4:=(holds_andW hc).1
   rw[hn] at h4
   exact h4
  have h5:=condW_of h4 (w_not (w_lt w_lit (w_len_list (w_arg rfl))))
  rw[List.length_map] at h5
  refine Nat.le_of_not_lt fun q=>?_
  have q':(n:Int) < ((ns.length:Nat):Int):=by omega
  first
   | (rw[decide_eq_true q'] at h5;exact absurd h5 (by decide))
   | (simp at h5;omega)
 cases hwl with
 | cons w1 w2=>
  cases w2
  cases w1 with
  | list ho hall=>exact⟨_,_,ns,rfl,rfl,ho,ints_of_wellAll ns _ hall,hlen⟩
theorem post_true(l:OpenLaw)(args:List WData):l.row.toRowW.claim.post args (.bool true) args=true:=
 postW_of (r:=l.row.toRowW) (X:=(true == true))
  (show WShape.has [] (.bool true) .bool=true by first | rfl | decide | simp [WShape.has,WShape.arms,WShape.armsAll])
  (show(WTm.eq .res (.lit (.bool true))).value [] { args:=args,res:=some (.bool true),after:=args }=some (.bool (true == true)) from w_eq_bool (w_res rfl) w_lit) rfl
theorem attach_call{l:OpenLaw}{n:Nat}{q:Program}{loose:List Str}{XP:(Str→Option Value)→Heap→Prop}{YP:World→Heap→Prop}{d:DefRec}
  (hn:l.most=some n) (hdf:d.params.defaults=[])
  (call:∀(w:World) (s₀ s₁:Shared) (mg mb:Str→Option Value) (fa:Addr) (o:Obj) (pm cd doc:Value) (a:Addr) (vs:List Value) (ns:List Int),
   Ground q loose [] XP w s₀ mg mb s₁.heap→YP w s₁.heap →
   s₁.heap.get? fa=some o→o.data = .func (docDef d.name d.params d.body d.scope pm cd doc)→s₁.heap.CodeRec cd d.name→mg d.name=some (.ref fa) →
   s₁.heap.get? a=some { cls:=.type "list",data:=.seq vs.toArray }→IntsAre vs ns→ns.length≤n→s₁.gens = #[] →
   codeAny (model l.prog w) callerA (.call (.ref fa) ⟨[.ref a],[]⟩) (fun r s'=>r = .ok (.ret (.bool true))∧OldK s₁.heap s'.heap∧s'.os=s₁.os∧AllBare s'.gens) s₁) :
  WalkO q loose XP YP l.row.toRowW d [] (fun f vs=>PySem.call f vs):=by
 intro w s₀ s₁ mg mb G Y fa o pm cd doc dV kV ho hd hcd hD hmg hg args vals as hpre hlay hrd hwl hlo
 obtain rfl:dV = .none:=Dflts.none hD hdf
 obtain rfl:kV = .none:=Dflts.noKw hD
 obtain⟨a,vs,ns,rfl,rfl,hobj,hints,hlen⟩:=script_of hn hpre hwl
 refine enter_call (codeAny_mono (call w s₀ s₁ mg mb fa o pm cd doc a vs ns G Y ho (fd_plain hd) hcd hmg hobj hints hlen hg) fun r s' hq=>?_)
 obtain⟨rfl,h2,h3,h4⟩:=hq
 exact⟨.inl ⟨.bool true,.bool true,[],rfl,fun _=>rfl,.bool true,post_true l _,fun _=>⟨List.Pairwise.nil,fun _ hm=>(nomatch hm)⟩⟩,h2,h3,h4⟩
section
variable{prog:Program}{w:World}{A:Around}{E:Value→Shared→Prop}{s:Shared}{K:Frag}
end
end Att
namespace L2
open PySem PySem.Spec PyProof.Rows
theorem vals_ints:∀{vs:List Value} {ns:List Int},IntsAre vs ns→Vals (ns.map V.int) vs
 | _,_,.nil=>.nil
 | _,_,.cons n t h=>.cons ⟨t,rfl⟩ (vals_ints h)
def Only(H:Hp):Prop:=∀ b,H b=none∨∃ o xs,H b=some (.frz o (.lst xs))
theorem law_call{P:Program}{w:World}{K:PySem.W.Frag}{mg mb:Str→Option Value}{CX:CXT}{k:Nat}{fa a:Addr}{fd:FuncData}{x:Str}{sp:Sp}{s₁:Shared}{vs:List Value}{ns:List Int}
    (KX:K.In s₁.heap) (hns:s₁.heap.Ns mainGlobals mg) (hb:s₁.heap.Ns builtinsNs mb) (hbb:∀ x:Str,x≠"__name__"→mb x=bootBuiltins x) (hlim:s₁.heap.NoLimit) (hg:s₁.gens = #[])
    (ha:s₁.heap.get? a=some { cls:=.type "list",data:=.seq vs.toArray }) (hi:IntsAre vs ns) (hl:ns.length≤sizeLine) (hr:Room k callerA)
    (F:∀ base:Heap,K.In base→base.Ns mainGlobals mg→FnOk P w K mg base CX k fa fd [x] sp) (hbind:∀(s:Shared) (u:Value),BindsTo s fd ⟨[u],[]⟩ [(x,u)])
    (hsp:∀ H:Hp,Only H→SqL K H a (ns.map V.int)→sp [.ref a] H (fun v _=>v = .bl true) fun _ _ _=>False)
    (hCX:∀ H e s',CX [] H s₁ (fun _ _ _=>False) e s'→False) :
    codeAny (model P w) callerA (.call (.ref fa) ⟨[.ref a],[]⟩) (fun r s'=>r = .ok (.ret (.bool true))∧OldK s₁.heap s'.heap∧s'.os=s₁.os∧AllBare s'.gens) s₁:=by
  have rv:=vals_ints hi
  have lenV:=hi.length
  have core:∀ H:Hp,Only H→SqL K H a (ns.map V.int)→HOk P w H s₁.heap→(∀ b,H b≠none→b=a)→(H a≠none→K.lookup a=none) →
      codeAny (model P w) callerA (.call (.ref fa) ⟨[.ref a],[]⟩) (fun r s'=>r = .ok (.ret (.bool true))∧OldK s₁.heap s'.heap∧s'.os=s₁.os∧AllBare s'.gens) s₁:=by
    intro H hO hS hok hA hK
    have base_of:∀{b:Addr} {o:Obj},s₁.heap.get? b=some o→H b=none→(hidT s₁.heap H).get? b=some o:=fun e n=>hidT_get e n
    have noA:∀{b:Addr} {o:Obj} {es:Array DictEntry} {ep:Nat},s₁.heap.get? b=some o→o.data = .dict es ep→H b=none:=fun {b o es ep} e d=>by
      cases q:H b with
      | none=>rfl
      | some u=>
        have e':b=a:=hA b (by rw[q];simp)
        subst e'
        rw[ha] at e;cases e
        have d':Data.seq vs.toArray _=Data.dict es ep:=d
        cases d'
    have nsK:∀{b:Addr} {m:Str→Option Value},s₁.heap.Ns b m→(hidT s₁.heap H).Ns b m:=fun {b m} ⟨o,es,ep,e,d,r⟩=>⟨o,es,ep,base_of e (noA e d),d,r⟩
    have hKb:K.In (hidT s₁.heap H):=fun b o e=>base_of (KX b o e) (by
      cases q:H b with
      | none=>rfl
      | some u=>
        have e':b=a:=hA b (by rw[q];simp)
        subst e'
        rw[hK (by rw[q];simp)] at e;cases e)
    have hM:Mod K mg (hidT s₁.heap H):=⟨hKb,nsK hns,⟨mb,nsK hb,hbb⟩,let ⟨mc,h1,h2⟩:=hlim;⟨mc,nsK h1,h2⟩⟩
    have e0:Env0 P w K mg (hidT s₁.heap H) callerA [] s₁ H:=⟨rfl,hM,fun b o e=>of_hidT e,Nat.le_of_eq (hidT_size _ _),trivial,fun b hb=>absurd (show b∈([]:List Addr) from hb) (by simp),hok,.of_eq hg⟩
    refine codeAny_mono ((F _ hKb (nsK hns)).run callerA [] s₁ H ⟨[.ref a],[]⟩ [.ref a] [.ref a] _ _ hr e0 (hbind s₁ (.ref a)) (.cons rfl .nil) (hsp H hO hS)) fun r s' h=>?_
    cases r with
    | error e=>exact(hCX H e s' h).elim
    | ok fl=>
      cases fl with
      | next=>exact False.elim h
      | brk=>exact False.elim h
      | cont=>exact False.elim h
      | ret u=>
        obtain⟨v,H',os,bare,un,hok',r',q⟩:=h
        have q':v = .bl true:=q
        subst q'
        obtain rfl:u=Value.bool true:=r'
        refine⟨rfl,OldK.of_keep fun b o e=>?_,os,bare⟩
        cases q:H b with
        | none=>exact un.keep b o e q (by intro z;exact absurd (show b∈([]:List Addr) from z) (by simp)) (by simp)
        | some u=>
          rcases hO b with z | ⟨ob,xs,z⟩
          · rw[q] at z;cases z
          · have z2:=un.frzs b ob _ z
            obtain⟨e1,_⟩:=hok b _ z
            obtain⟨e2,_⟩:=hok' b _ z2
            rw[e] at e1;cases e1
            exact e2
  cases hk:K.lookup a with
  | some o=>
    have e:=KX a o hk
    rw[ha] at e
    cases e
    refine core (fun _=>none) (fun _=>.inl rfl) (.inr ⟨_,vs.toArray,_,hk,rfl,rfl,rfl,by rw[List.size_toArray,lenV];exact hl,by simpa using rv⟩) (fun b u z=>by have z':(none:Option HO)=some u:=z;cases z') (fun b z=>absurd rfl z) fun z=>absurd rfl z
  | none=>
    refine core (fun b=>if b=a then some (.frz { cls:=.type "list",data:=.seq vs.toArray } (.lst (ns.map V.int))) else none) (fun b=>?_) (.inl (.inr ⟨{ cls:=.type "list",data:=.seq vs.toArray },if_pos rfl⟩)) (fun b u z=>?_) (fun b z=>?_) fun _=>hk
    · by_cases hb:b=a
      · exact .inr ⟨_,_,if_pos hb⟩
      · exact .inl (if_neg hb)
    · by_cases hb:b=a
      · have z':=(if_pos hb).symm.trans z
        cases z'
        subst hb
        exact⟨ha,by rw[List.length_map];exact hl,vs,_,rv,ha⟩
      · have z':=(if_neg hb).symm.trans z
        cases z'
    · by_cases hb:b=a
      · exact hb
      · exact absurd (if_neg hb) z
end L2
namespace L2
open PySem PySem.Spec PyProof.Rows
theorem walk_of{l:PySem.W.OpenLaw}{n k:Nat}{q:Program}{loose:List Str}{XP:(Str→Option Value)→Heap→Prop}{YP:World→Heap→Prop}{d:DefRec}{K:Params→PySem.W.Frag}{CX:World→CXT}{sp:World→Sp}{x:Str}
  (hn:l.most=some n) (hn2:n≤sizeLine) (hdf:d.params.defaults=[]) (hr:Room k callerA)
  (hY:∀(w:World) (h:Heap),YP w h→(K w.params).In h)
  (F:∀(w:World) (mg:Str→Option Value) (fa:Addr) (h:Heap),(K w.params).In h→h.Ns mainGlobals mg→mg d.name=some (.ref fa) →
   ∃ fd:FuncData,(∀(s:Shared) (u:Value),BindsTo s fd ⟨[u],[]⟩ [(x,u)]) ∧
    ∀ base:Heap,(K w.params).In base→base.Ns mainGlobals mg→FnOk l.prog w (K w.params) mg base (CX w) k fa fd [x] (sp w))
  (hsp:∀(w:World) (H:Hp) (a:Addr) (ns:List Int),ns.length≤n→Only H→SqL (K w.params) H a (ns.map V.int)→sp w [.ref a] H (fun v _=>v = .bl true) fun _ _ _=>False)
  (hCX:∀(w:World) (H:Hp) (s:Shared) (e:Value) (s':Shared),CX w [] H s (fun _ _ _=>False) e s'→False) :
  PySem.W.WalkO q loose XP YP l.row.toRowW d [] (fun f vs=>PySem.call f vs):=by
 refine Att.attach_call hn hdf fun w s₀ s₁ mg mb fa o pm cd doc a vs ns G Y ho hd hcd hmg hobj hints hlen hg=>?_
 have KX:=hY w _ Y
 obtain⟨fd,hb,hF⟩:=F w mg fa _ KX G.T.g hmg
 exact law_call KX G.T.g G.T.b G.T.builtins G.T.nolimit hg hobj hints (Nat.le_trans hlen hn2) hr hF hb (fun H hO hS=>hsp w H a ns hlen hO hS) fun H e s'=>hCX w H s₁ e s'
end L2
namespace L2
open PySem PySem.Spec PyProof.Rows
def inClass(s:Stmt)(j:Nat):Stmt:=match s with
 | .ClassDef _ _ _ body _ _ _ _ _ _ _=>body.getD j (.Pass ⟨0,0,0,0⟩)
 | _=>.Pass ⟨0,0,0,0⟩
def defArgs(s:Stmt):Arguments:=match s with
 | .FunctionDef _ a _ _ _ _ _ _ _ _=>a
 | _=>{ posonlyargs:=[],args:=[],vararg:=none,kwonlyargs:=[],kw_defaults:=[],kwarg:=none,defaults:=[] }
def defBody(s:Stmt):List Stmt:=match s with
 | .FunctionDef _ _ b _ _ _ _ _ _ _=>b
 | _=>[]
def defScope(s:Stmt):Scope:=match s with
 | .FunctionDef _ _ _ _ _ _ sc _ _ _=>sc
 | _=>{ kind:=.function,names:=[],isGenerator:=false,isCoroutine:=false }
abbrev CX0:CXT:=fun _ _ _ _ _ _=>False
abbrev E0:XK:=fun _ _ _=>False
theorem pass0{X:Cx}:Passes CX0 X E0:=fun _ _ _ _ _ _ _ h=>h.elim
structure Fun(K:PySem.W.Frag)(x qual:Str)(st:Stmt)(f:Addr)(fd:FuncData):Prop where
 ex:∃(oc:Value) (od:Option Addr) (kV doc pm:Value) (an:Option Addr) (cdv ct:Value) (osl:Array (Option Value)),
  fd=PySem.W.fnOf x qual (defArgs st) (defBody st) (defScope st) .none kV doc pm an cdv ct∧K.lookup f=some ⟨oc,od,.func fd,osl⟩∧PySem.W.codeIn K cdv qual=true
 kp:PySem.W.keepIn K (.ref f)=true
section
variable{P:Program}{w:World}{K:PySem.W.Frag}{mg:Str→Option Value}{base:Heap}
theorem Fun.ok{x qual:Str}{st:Stmt}{f:Addr}{fd:FuncData}{N ps:List Str}{k:Nat}{sp:Sp}(F:Fun K x qual st f fd)(S:FnScope N ps (defScope st))(len:∀ vs H Q E,sp vs H Q E→vs.length=ps.length)
  (hbody:∀(cdv:Value) (A:Around) (outer:List Env) (s:Shared) (H:Hp) (vs:List V) (Q:VK) (E:XK),Room k (A.deeper (envOfC qual (defScope st) s.heap.objs.size f cdv))→sp vs H Q E →
   ∃ t,PSs (cxOf CX0 P w K mg base N qual (defScope st) f cdv A outer s H E).nox (defBody st) t∧t { nx:=fun _ H'=>Q .non H',rt:=Q } (start N vs) H):FnOk P w K mg base CX0 (k+1) f fd ps sp:=by
 obtain⟨oc,od,kV,doc,pm,an,cdv,ct,osl,rfl,lk,hcd⟩:=F.ex
 refine fn_of lk hcd S len fun A outer s H vs Q E hr hsp=>?_
 obtain⟨t,h,q⟩:=hbody cdv A outer s H vs Q E hr hsp
 exact⟨t,h.nox,q⟩
theorem Fun.binds{x qual:Str}{st:Stmt}{f:Addr}{fd:FuncData}{ps:List Str}(F:Fun K x qual st f fd)
  (h:∀(kV doc pm:Value) (an:Option Addr) (cdv ct:Value) (us:List Value),us.length=ps.length→bindArgs (PySem.W.fnOf x qual (defArgs st) (defBody st) (defScope st) .none kV doc pm an cdv ct) ⟨us,[]⟩=pure (ps.zip us)):Binds K fd ps []:=by
 obtain⟨oc,od,kV,doc,pm,an,cdv,ct,osl,rfl,lk,hcd⟩:=F.ex
 exact .all (h kV doc pm an cdv ct)
theorem fun_mk{x qual:Str}{st:Stmt}{f:Addr}{oc:Value}{od an:Option Addr}{osl:Array (Option Value)}{kV doc pm cdv ct:Value}(l:K.lookup f=some ⟨oc,od,.func (PySem.W.fnOf x qual (defArgs st) (defBody st) (defScope st) .none kV doc pm an cdv ct),osl⟩)
  (c:PySem.W.codeIn K cdv qual=true) (k:PySem.W.keepIn K (.ref f)=true):Fun K x qual st f (PySem.W.fnOf x qual (defArgs st) (defBody st) (defScope st) .none kV doc pm an cdv ct):=⟨⟨oc,od,kV,doc,pm,an,cdv,ct,osl,rfl,l,c⟩,k⟩
end
theorem small1000{n:Nat}(h:n≤1000):n < sizeLine:=Nat.lt_of_le_of_lt h (by decide)
section
variable{X:Cx}
theorem pv(i:Nat){x:Str}{pos:Pos}(hN:X.N[i]? = some x:=by rfl)(hv:Vis X.env.scope x:=by first | exact Or.inl rfl | exact Or.inr (Or.inl rfl) | exact Or.inr (Or.inr rfl))(hd:(x == ("__debug__":Str))=false:=by decide)
  (hcd:(x == ("__classdict__":Str))=false:=by decide):PE X (.Name x pos) (tVar i):=pe_var hN hv hd hcd
end
theorem iteF{A B:Prop}(h:B):if false=true then A else B:=by
 rw[if_neg Bool.false_ne_true]
 exact h
theorem iteT{A B:Prop}(h:A):if true=true then A else B:=by
 rw[if_pos rfl]
 exact h
theorem ite2{c A B:Prop} [Decidable c](h1:c→A)(h2:¬ c→B):if c then A else B:=by
 by_cases h:c
 ·rw[if_pos h]
  exact h1 h
 ·rw[if_neg h]
  exact h2 h
def Same(H H':Hp):Prop:=∀ b o,H b=some o→H' b=some o
theorem Same.refl(H:Hp):Same H H:=fun _ _ h=>h
theorem Same.trans{H H1 H2:Hp}(a:Same H H1)(b:Same H1 H2):Same H H2:=fun c o h=>b c o (a c o h)
theorem Same.free{H H':Hp}(e:Same H H'){l:Addr}(h:H' l=Option.none):H l=Option.none:=by
 cases q:H l with
 | none=>rfl
 | some o=>
  rw[e l o q] at h
  cases h
theorem Same.seq{K:PySem.W.Frag}{H H':Hp}{a:Addr}{xs:List V}(e:Same H H')(h:SqL K H a xs):SqL K H' a xs:=by
 rcases h with(h | ⟨o,h⟩) | h
 ·exact .inl (.inl (e _ _ h))
 ·exact .inl (.inr ⟨o,e _ _ h⟩)
 ·exact .inr h
end L2
set_option maxHeartbeats 4000000
namespace L2
open PySem PySem.Spec PyProof.Rows
def clOf(env:Env):List (Str×NameKind)→List (Str×Addr)→List (Str×Addr)
 | [],acc=>acc
 | (n,k) :: r,acc=>clOf env r (if k == NameKind.free then(match env.cells.lookup n with | some c=>(n,c) :: acc | none=>acc) else acc)
theorem clo_fold{env:Env}{f:Str×NameKind→List (Str×Addr)→Sem (ForInStep (List (Str×Addr)))}
  (hf:∀ n k acc,f (n,k) acc=if(k == NameKind.free)=true then(do let c ← cellOf env n;pure (ForInStep.yield ((n,c) :: acc))) else pure (ForInStep.yield acc)) :
  ∀(l:List (Str×NameKind)) (acc:List (Str×Addr)),(∀ y∈l,y.2 = .free→∃ c,env.cells.lookup y.1=some c)→forIn l acc f=(pure (clOf env l acc):Sem _)
 | [],acc,_=>rfl
 | (n,k) :: r,acc,h=>by
  rw[List.forIn_cons,hf]
  have ih:=clo_fold hf r
  by_cases hk:(k == NameKind.free)=true
  ·have hk':k = .free:=by simpa using hk
   obtain⟨c,hc⟩:=h (n,k) List.mem_cons_self hk'
   have e:cellOf env n=(pure c:Sem _):=by unfold cellOf;rw[hc]
   rw[if_pos hk,e,pure_bind,pure_bind]
   show forIn r ((n,c) :: acc) f=_
   rw[ih _ fun y hy=>h y (List.mem_cons_of_mem _ hy)]
   unfold clOf
   rw[if_pos hk]
   have hc2:List.lookup n env.cells=some c:=hc
   simp only[hc2]
   cases r<;>rfl
  ·rw[if_neg hk,pure_bind]
   show forIn r acc f=_
   rw[ih _ fun y hy=>h y (List.mem_cons_of_mem _ hy)]
   conv=>rhs;unfold clOf
   rw[if_neg hk]
theorem clo_eq{scope:Scope}{env:Env}(h:∀ y∈scope.names,y.2 = .free→∃ c,env.cells.lookup y.1=some c):closureFor scope env=(pure (clOf env scope.names []):Sem _):=by
 have e:closureFor scope env=(forIn scope.names ([]:List (Str×Addr)) (fun x cs=>match x with
   | (name,kind)=>if(kind == NameKind.free)=true then(do let c ← cellOf env name;pure (ForInStep.yield ((name,c) :: cs))) else pure (ForInStep.yield cs)) >>= fun cs=>pure cs):=rfl
 rw[e,clo_fold (env:=env) (fun n k acc=>rfl) scope.names [] h]
 rfl
theorem cl_sub{env:Env}:∀{l:List (Str×NameKind)} {acc:List (Str×Addr)},(∀ x c,acc.lookup x=some c→env.cells.lookup x=some c)→∀ x c,(clOf env l acc).lookup x=some c→env.cells.lookup x=some c
 | [],acc,h,x,c,e=>h x c e
 | (n,k) :: r,acc,h,x,c,e=>by
  unfold clOf at e
  refine cl_sub (l:=r) (fun y d hd=>?_) x c e
  by_cases hk:(k == NameKind.free)=true
  ·rw[if_pos hk] at hd
   cases hc:env.cells.lookup n with
   | none=>rw[hc] at hd;exact h y d hd
   | some c'=>
    rw[hc] at hd
    simp only[List.lookup_cons] at hd
    by_cases hy:(y == n)=true
    ·rw[hy] at hd
     have e1:y=n:=by simpa using hy
     cases hd
     rw[e1];exact hc
    ·have hy':(y == n)=false:=by simpa using hy
     rw[hy'] at hd
     exact h y d hd
  ·rw[if_neg hk] at hd;exact h y d hd
theorem cl_mono{env:Env}:∀{l:List (Str×NameKind)} {acc:List (Str×Addr)} {x:Str},(acc.lookup x).isSome=true→((clOf env l acc).lookup x).isSome=true
 | [],acc,x,h=>h
 | (n,k) :: r,acc,x,h=>by
  unfold clOf
  refine cl_mono (l:=r) ?_
  by_cases hk:(k == NameKind.free)=true
  ·rw[if_pos hk]
   cases hc:env.cells.lookup n with
   | none=>exact h
   | some c'=>
    simp only[List.lookup_cons]
    by_cases hy:(x == n)=true
    ·rw[hy];rfl
    ·have hy':(x == n)=false:=by simpa using hy
     rw[hy'];exact h
  ·rw[if_neg hk];exact h
theorem cl_has{env:Env}:∀{l:List (Str×NameKind)} {acc:List (Str×Addr)} {x:Str} {c:Addr},(x,NameKind.free)∈l→env.cells.lookup x=some c→((clOf env l acc).lookup x).isSome=true
 | (n,k) :: r,acc,x,c,hm,hc=>by
  unfold clOf
  rcases List.mem_cons.mp hm with e | hm
  ·cases e
   rw[if_pos (by rfl)]
   rw[hc]
   refine cl_mono ?_
   simp
  ·exact cl_has hm hc
theorem relabel_of{env:Env}:∀{names:List (Str×NameKind)} {x:Str} {k:NameKind},(∀ y∈names,y.2 ≠ .cell) →
  (names.map fun(n,k)=>if(k == NameKind.free && env.scope.kind == .function && env.kindOf n == some .cell) then(n,NameKind.cell) else(n,k)).lookup x=some k→(k = .cell∨k = .free)→(x,NameKind.free)∈names
 | [],_,_,_,h,_=>by simp at h
 | (n,j) :: r,x,k,hn,h,hk=>by
  rw[List.map_cons] at h
  cases hx:x == n with
  | true=>
   have hxe:x=n:=by simpa using hx
   subst hxe
   by_cases hc:(j == NameKind.free && env.scope.kind == .function && env.kindOf x == some .cell)=true
   ·have hj:j = .free:=by
     simp only[Bool.and_eq_true] at hc
     simpa using hc.1.1
    subst hj
    exact List.mem_cons_self
   ·rw[show(match ((x,j):Str×NameKind) with | (n,k)=>if(k == NameKind.free && env.scope.kind == .function && env.kindOf n == some .cell)=true then(n,NameKind.cell) else(n,k))=(x,j) from if_neg hc] at h
    simp only[List.lookup_cons,beq_self_eq_true] at h
    cases h
    rcases hk with e | e
    ·exact absurd e (hn (x,j) List.mem_cons_self)
    ·rw[e];exact List.mem_cons_self
  | false=>
   refine List.mem_cons_of_mem _ (relabel_of (env:=env) (fun y hy=>hn y (List.mem_cons_of_mem _ hy)) ?_ hk)
   by_cases hc:(j == NameKind.free && env.scope.kind == .function && env.kindOf n == some .cell)=true
   ·rw[show(match ((n,j):Str×NameKind) with | (n,k)=>if(k == NameKind.free && env.scope.kind == .function && env.kindOf n == some .cell)=true then(n,NameKind.cell) else(n,k))=(n,NameKind.cell) from if_pos hc] at h
    simp only[List.lookup_cons,hx] at h
    exact h
   ·rw[show(match ((n,j):Str×NameKind) with | (n,k)=>if(k == NameKind.free && env.scope.kind == .function && env.kindOf n == some .cell)=true then(n,NameKind.cell) else(n,k))=(n,j) from if_neg hc] at h
    simp only[List.lookup_cons,hx] at h
    exact h
theorem relabel_free{env:Env}:∀{names:List (Str×NameKind)} {x:Str},names.lookup x=some .free →
  (names.map fun(n,k)=>if(k == NameKind.free && env.scope.kind == .function && env.kindOf n == some .cell) then(n,NameKind.cell) else(n,k)).lookup x=some .cell ∨
  (names.map fun(n,k)=>if(k == NameKind.free && env.scope.kind == .function && env.kindOf n == some .cell) then(n,NameKind.cell) else(n,k)).lookup x=some .free
 | [],_,h=>by simp at h
 | (n,j) :: r,x,h=>by
  rw[List.map_cons]
  cases hx:x == n with
  | true=>
   simp only[List.lookup_cons,hx] at h
   cases h
   by_cases hc:(NameKind.free == NameKind.free && env.scope.kind == .function && env.kindOf n == some .cell)=true
   ·refine .inl ?_
    rw[show(match ((n,NameKind.free):Str×NameKind) with | (n,k)=>if(k == NameKind.free && env.scope.kind == .function && env.kindOf n == some .cell)=true then(n,NameKind.cell) else(n,k))=(n,NameKind.cell) from if_pos hc]
    simp only[List.lookup_cons,hx]
   ·refine .inr ?_
    rw[show(match ((n,NameKind.free):Str×NameKind) with | (n,k)=>if(k == NameKind.free && env.scope.kind == .function && env.kindOf n == some .cell)=true then(n,NameKind.cell) else(n,k))=(n,NameKind.free) from if_neg hc]
    simp only[List.lookup_cons,hx]
  | false=>
   simp only[List.lookup_cons,hx] at h
   have ih:=relabel_free (env:=env) h
   by_cases hc:(j == NameKind.free && env.scope.kind == .function && env.kindOf n == some .cell)=true
   ·rw[show(match ((n,j):Str×NameKind) with | (n,k)=>if(k == NameKind.free && env.scope.kind == .function && env.kindOf n == some .cell)=true then(n,NameKind.cell) else(n,k))=(n,NameKind.cell) from if_pos hc]
    simp only[List.lookup_cons,hx]
    exact ih
   ·rw[show(match ((n,j):Str×NameKind) with | (n,k)=>if(k == NameKind.free && env.scope.kind == .function && env.kindOf n == some .cell)=true then(n,NameKind.cell) else(n,k))=(n,j) from if_neg hc]
    simp only[List.lookup_cons,hx]
    exact ih
theorem lookup_mem{x:Str}{k:NameKind}:∀{l:List (Str×NameKind)},l.lookup x=some k→(x,k)∈l
 | [],h=>by simp at h
 | (n,j) :: r,h=>by
  cases hx:x == n with
  | true=>
   simp only[List.lookup_cons,hx] at h
   cases h
   have e:x=n:=by simpa using hx
   rw[e];exact List.mem_cons_self
  | false=>
   simp only[List.lookup_cons,hx] at h
   exact List.mem_cons_of_mem _ (lookup_mem h)
def blk(X:Cx)(N:List Str)(scope:Scope)(C:Addr)(s₀:Shared)(H₀:Hp)(ex:List Addr)(xe:Value→Shared→Prop):Cx:=
 { X with N:=N,s₀:=s₀,H₀:=H₀,env:=compEnvC scope (clOf X.env scope.names []) C X.env,outer:=X.stack,stack:=X.stack,ex:=ex,fn:=fun _=>false,pn:=[],xe:=xe }
structure Blk(X:Cx)(N:List Str)(caps:List (Option Nat))(scope:Scope):Prop where
 kind:scope.kind = .function
 nocell:∀ y∈scope.names,y.2 ≠ .cell
 names:∀ y∈scope.names,y.2 = .local→scope.names.lookup y.1=some .local
 free:∀ y∈scope.names,y.2 = .free→X.env.kindOf y.1=some .cell∨X.env.kindOf y.1=some .free
 len:caps.length=N.length
 cap:∀(i j:Nat) (x:Str),caps[i]? = some (some j)→N[i]? = some x→X.N[j]? = some x∧Vis X.env.scope x∧scope.names.lookup x=some .free
def capSt(caps:List (Option Nat))(σ:St):St:=caps.map fun c=>match c with | some j=>(σ[j]?).join | none=>none
section
variable{X:Cx}{pins:List (Addr×Obj)}{σ:St}{H:Hp}{s:Shared}
theorem blk_ok{N:List Str}{caps:List (Option Nat)}{scope:Scope}{fp:List Addr}{xe:Value→Shared→Prop}(B:Blk X N caps scope)(I:Inv X pins σ H s)(hlt:∀ b∈fp,b < s.heap.objs.size)(hf:∀ b∈fp,FpOk X pins H b) :
  (blk X N scope s.heap.objs.size s H fp xe).Ok where
 mod:=I.ok.mod
 kind:=B.kind
 glob:=I.ok.glob
 blt:=I.ok.blt
 above:=Nat.le_refl _
 inj:=fun x y c hx hy=>I.ok.inj x y c (cl_sub (fun _ _ e=>by simp at e) x c hx) (cl_sub (fun _ _ e=>by simp at e) y c hy)
 has:=fun x hk=>by
  have hm:(x,NameKind.free)∈scope.names:=hk.elim (fun e=>relabel_of B.nocell e (.inl rfl)) fun e=>relabel_of B.nocell e (.inr rfl)
  obtain⟨c,hc⟩:=I.ok.has x (B.free _ hm rfl)
  exact Option.isSome_iff_exists.mp (cl_has hm hc)
 cab:=fun x c h _=>by cases h
 hd:=I.ok.hd
 frames:=I.ok.frames
 stk:=.inl rfl
 exf:=fun b hb=>⟨Nat.ne_of_lt (hlt b hb),fun x c hc=>(hf b hb).2.2.2.2.1 x c (cl_sub (fun _ _ e=>by simp at e) x c hc)⟩
 bs:=I.bs
 bsz:=Nat.le_trans I.ok.bsz I.sz
 noex:=fun b o e hb=>by
  rcases(hf b hb).2.2.2.1 with h | h
  ·exact I.ok.noex b o e h
  ·exact absurd (Heap.lt_size (I.ok.bs b o e).1) (Nat.not_lt.mpr h)
 exfs:=fun b hb hs=>by
  rcases List.mem_cons.mp (I.stkSub b hs) with e | e
  ·exact(hf b hb).2.1 e
  ·exact(hf b hb).2.2.1 e
 funs:=I.stack
 frf:=I.stkFree
theorem blk_inv{N:List Str}{caps:List (Option Nat)}{scope:Scope}{fp:List Addr}{xe:Value→Shared→Prop}{h₁:Heap}{t':Nat}(B:Blk X N caps scope)(I:Inv X pins σ H s)(hlt:∀ b∈fp,b < s.heap.objs.size)(hf:∀ b∈fp,FpOk X pins H b)
  {m:Str→Option Value} (hn:h₁.Ns s.heap.objs.size m) (hk:∀ b o,s.heap.get? b=some o→h₁.get? b=some o) :
  Inv (blk X N scope s.heap.objs.size s H fp xe) [] (capSt caps σ) H { s with heap:=h₁,toks:=t' } where
 ok:=blk_ok B I hlt hf
 os:=rfl
 bare:=I.bare
 base:=Un.kept hk
 loc:=by
  refine⟨m,hn,fun i x v hN hσ hv=>?_⟩
  unfold capSt at hσ
  rw[List.getElem?_map] at hσ
  cases hc:caps[i]? with
  | none=>rw[hc] at hσ;cases hσ
  | some oj=>
   rw[hc] at hσ
   cases oj with
   | none=>cases hσ
   | some j=>
    have hσ':(σ[j]?).join=some v:=Option.some.inj hσ
    have hj:σ[j]? = some (some v):=by
     cases q:σ[j]? with
     | none=>rw[q] at hσ';cases hσ'
     | some o=>rw[q] at hσ';have:o=some v:=hσ';rw[this]
    obtain⟨hNj,hVis,hfr⟩:=B.cap i j x hc hN
    obtain⟨m',_,hl⟩:=I.loc
    obtain⟨u,ru,lk⟩:=hl j x v hNj hj hVis
    have hm:=lookup_mem hfr
    have hkX:=B.free _ hm rfl
    refine⟨u,ru,.inr ⟨relabel_free hfr,?_⟩⟩
    rcases lk with⟨e,_⟩ | ⟨_,c,hc1,hc2⟩
    ·rcases hkX with e' | e'
     ·rw[e] at e';cases e'
     ·rw[e] at e';cases e'
    ·obtain⟨c',hc'⟩:=Option.isSome_iff_exists.mp (cl_has (env:=X.env) (acc:=[]) hm hc1)
     have h2:=cl_sub (fun _ _ e=>by simp at e) x c' hc'
     rw[hc1] at h2
     cases h2
     exact⟨c,hc',hc2.keeps hk⟩
 cell:=fun x c hc=>by
  obtain⟨v,hv⟩:=I.cell x c (cl_sub (fun _ _ e=>by simp at e) x c hc)
  exact⟨v,hv.keeps hk⟩
 free:=I.hok.fresh (Nat.le_refl _)
 freeC:=fun x c hc=>I.freeC x c (cl_sub (fun _ _ e=>by simp at e) x c hc)
 pin:=fun p hp=>by cases hp
 hok:=I.hok.kept hk
 len:=by unfold capSt;rw[List.length_map];exact B.len
end
end L2
namespace L2
open PySem PySem.Spec PyProof.Rows
section
variable{prog:Program}{w:World}{A:Around}{R:Result→Shared→Prop}{s:Shared}
abbrev testsOf(ifs:List Expr)(env:Env):Sem Bool:=forIn ifs true fun c r=>if r=true then do let ok ← isTrue c env (eval c env);pure (ForInStep.yield ok) else pure (ForInStep.yield r)
theorem comp_loop{elt target iter:Expr}{ifs:List Expr}{scope:Scope}{pos:Pos}{it acc:Value}{env:Env}(I:Nat→Shared→Prop)
  (turn:∀ n s,I n s→wpAny (model prog w) A (pyNext it) (fun r s₁=>match r with
   | none=>R (.ok .next) s₁
   | some v=>wpAny (model prog w) A (letOwnedTupleGo target it v) (fun _ s₁'=>wpAny (model prog w) A (assign target env v) (fun _ s₂=>
     wpAny (model prog w) A (testsOf ifs env) (fun ok s₃=>
      if ok=true then wpAny (model prog w) A (eval elt env) (fun x s₄=>
       wpAny (model prog w) A (call (.builtin "list.append") [acc,x]) (fun _ s₅=>∃ m,m < n∧I m s₅) (notedBy (model prog w) A env fun e s'=>R (.error e) s') s₄) (notedBy (model prog w) A env fun e s'=>R (.error e) s') s₃
      else ∃ m,m < n∧I m s₃) (notedBy (model prog w) A env fun e s'=>R (.error e) s') s₂) (notedBy (model prog w) A env fun e s'=>R (.error e) s') s₁') (notedBy (model prog w) A env fun e s'=>R (.error e) s') s₁) (notedBy (model prog w) A env fun e s'=>R (.error e) s') s)
  (n:Nat) (h:I n s):codeAny (model prog w) A (.compLoop (.ListComp elt [⟨target,iter,ifs,0⟩] scope pos) 0 it acc env) R s:=by
 refine codeAny_loop rfl I (fun n s hI=>?_) n h
 show wpAny _ A ((compTurn (.ListComp elt [⟨target,iter,ifs,0⟩] scope pos) 0 it acc env).onRaise (fun x=>do noteFrame x env;theTreesLotGoes x)) _ _ s
 refine wpAny_noted ?_
 rw[compTurn_list]
 refine wpAny_bind (wpAny_standAt (wpAny_bind (wpAny_mono (turn n s hI) (fun r s₁ h₁=>?_) fun _ _ h'=>h')))
 cases r with
 | none=>exact wpAny_pure h₁
 | some v=>
  refine wpAny_bind (wpAny_mono h₁ (fun _ s₁' h₁'=>?_) fun _ _ h'=>h')
  refine wpAny_bind (wpAny_mono h₁' (fun _ s₂ h₂=>wpAny_bind (wpAny_mono h₂ (fun ok s₃ h₃=>?_) fun _ _ h'=>h')) fun _ _ h'=>h')
  cases ok with
  | false=>exact wpAny_pure ⟨rfl,h₃⟩
  | true=>
   exact wpAny_bind (wpAny_bind (wpAny_mono h₃ (fun x s₄ h₄=>wpAny_bind (wpAny_mono h₄ (fun _ s₅ h₅=>wpAny_pure (wpAny_pure ⟨rfl,h₅⟩)) fun _ _ h'=>h')) fun _ _ h'=>h'))
end
def PF(X:Cx)(ifs:List Expr)(t:TT):Prop:=
 ∀(pins:List (Addr×Obj)) (s:Shared) (σ:St) (H:Hp) (Q:Bool→Hp→Prop),Inv X pins σ H s→t σ H Q→wpAny (model X.prog X.w) X.A (testsOf ifs X.env) (TP X pins σ Q) X.xe s
def tYes:TT:=fun _ H Q=>Q true H
theorem pf_nil{X:Cx}:PF X [] tYes:=fun pins s σ H Q I h=>wpAny_tests_nil ⟨H,I,h⟩
theorem pf_one{X:Cx}{c:Expr}{t:TT}(h:PT X c t):PF X [c] t:=fun pins s σ H Q I q=>wpAny_tests_one (h pins s σ H Q I q)
def tCompR(g:TG)(tt:TT)(te:TE)(σ0:St)(J:It)(H1:Hp)(Q:V→Hp→Prop):Prop:=
 ∀ l,H1 l=none→∃ W:Nat→Nat→St→Hp→Prop,(∃ m,W 0 m σ0 (upd H1 l (.lst [])))∧∀ i m σ H,W i m σ H →
  (J.stop i H∧Q (.ref l) H)∨(J.go i H∧∀ x H',J.yld i H x H'→g x σ H' fun σ2 H2=>tt σ2 H2 fun c H3=>
   if c=true then te σ2 H3 fun v H4=>∃ xs,H4 l=some (.lst xs)∧xs.length < sizeLine∧∃ m',m' < m∧W (i+1) m' σ2 (upd H4 l (.lst (xs++[v])))
   else ∃ m',m' < m∧W (i+1) m' σ2 H3)
def tComp(caps:List (Option Nat))(wi:TI)(g:TG)(tt:TT)(te:TE):TE:=fun σ H Q=>wi σ H fun J H1=>tCompR g tt te (capSt caps σ) J H1 Q
structure Loose(X:Cx)(pins:List (Addr×Obj))(H:Hp)(C:Addr):Prop where
 un:H C=none
 loc:C≠X.env.locals
 ab:X.s₀.heap.objs.size≤C
 cel:∀ x c,X.env.cells.lookup x=some c→c≠C
 pin:∀ p∈X.pn++pins,p.1≠C
section
variable{X:Cx}{pins:List (Addr×Obj)}{σ:St}{H:Hp}{s:Shared}
def blkX(X:Cx)(N:List Str)(scope:Scope)(use:Option (Value→Sem Unit))(Q:Value→Shared→Prop)(acc:Value)(C:Addr):Value→Shared→Prop:=
 notedBy (model X.prog X.w) X.A (compEnvC scope (clOf X.env scope.names []) C X.env) fun e s'=>compPost (model X.prog X.w) X.A X.xe use Q acc C (.error e) s'
theorem comp_core{tg elt iter:Expr}{ifs:List Expr}{scope:Scope}{pos pos':Pos}{N:List Str}{caps:List (Option Nat)}{wi:TI}{g:TG}{tt:TT}{te:TE}{use:Option (Value→Sem Unit)}{Q:Value→Shared→Prop}{Qv:V→Hp→Prop}
  {xe:Value→Shared→Prop} (hc:X.calm=true) (B:Blk X N caps scope) (hi:PI X tg iter wi)
  (hg:∀ C s₀ H₀ ex,PG (blk X N scope C s₀ H₀ ex xe) tg g) (ht:∀ C s₀ H₀ ex,PF (blk X N scope C s₀ H₀ ex xe) ifs tt) (he:∀ C s₀ H₀ ex,PE (blk X N scope C s₀ H₀ ex xe) elt te)
  (I:Inv X pins σ H s) (h:wi σ H fun J H1=>tCompR g tt te (capSt caps σ) J H1 Qv)
  (fin:∀ l C H' s5,Inv X pins σ H' s5→(∃ m,s5.heap.Ns C m)→Loose X pins H' C→Qv (.ref l) H'→compPost (model X.prog X.w) X.A X.xe use Q (.ref l) C (.ok .next) s5)
  (hx:∀ acc C e s',xe e s'→blkX X N scope use Q acc C e s')
  (hs:∀ x,foldedSetIterable iter X.env x=pure x:=by intro _;rfl) :
  wpAny (model X.prog X.w) X.A (comprehension (.ListComp elt [⟨tg,iter,ifs,0⟩] scope pos) scope X.env pos' (newList []) false (eval iter X.env) use) Q X.xe s:=by
 have hclos:closureFor scope X.env=(pure (clOf X.env scope.names []):Sem _):=clo_eq fun y hy hf=>I.ok.has y.1 (B.free y hy hf)
 refine wpAny_comprehension_free rfl hs hclos B.kind B.names (thn (hi pins s σ H _ I h) fun v s1 h1=>thn h1 fun itv s2 h2=>?_)
 obtain⟨it,fp,tn,J,H2,e,I2,T,st2,f2,hJ⟩:=h2
 subst e
 have I3:Inv X pins σ (upd H2 s2.heap.objs.size (.lst [])) { s2 with heap:=s2.heap.push { cls:=.type "list",data:=.seq ([]:List Value).toArray },toks:=s2.toks }:=I2.lnew (ys:=[]) (its:=[]) .nil (Nat.zero_le _)
 have hfr2:H2 s2.heap.objs.size=none:=I2.fresh
 obtain⟨W,⟨m0,w0⟩,turn⟩:=hJ s2.heap.objs.size hfr2
 refine wpAny_newList ?_
 generalize hs3:({ s2 with heap:=s2.heap.push { cls:=.type "list",data:=.seq ([]:List Value).toArray } }:Shared)=s3
 have es3:({ s2 with heap:=s2.heap.push { cls:=.type "list",data:=.seq ([]:List Value).toArray },toks:=s2.toks }:Shared)=s3:=hs3
 rw[es3] at I3
 have keep3:∀ b o,s2.heap.get? b=some o→s3.heap.get? b=some o:=fun b o e=>by rw[← hs3];exact Heap.get?_push_of_some _ e
 have fpo:∀ b∈fp,∃ o,s2.heap.get? b=some o∧∀ v,o.data ≠ .cell v:=T.obj _ _ st2
 have hlt2:∀ b∈fp,b < s2.heap.objs.size:=fun b hb=>by obtain⟨o,e,_⟩:=fpo b hb;exact Heap.lt_size e
 have hlt3:∀ b∈fp,b < s3.heap.objs.size:=fun b hb=>by obtain⟨o,e,_⟩:=fpo b hb;exact Heap.lt_size (keep3 b o e)
 have hf3:∀ b∈fp,FpOk X pins (upd H2 s2.heap.objs.size (.lst [])) b:=fun b hb=>⟨by rw[upd_ne (Nat.ne_of_lt (hlt2 b hb))];exact(f2 b hb).1,(f2 b hb).2⟩
 refine wpAny_newFunctionEnv B.nocell (by intro y hy;simp at hy) (fun h₁ hns₁ hsb₁=>?_) B.kind
 try dsimp only at hns₁ hsb₁ ⊢
 have keep4:∀ b o,s3.heap.get? b=some o→h₁.get? b=some o:=fun b o e=>hsb₁.extBut b o (Nat.ne_of_lt (Heap.lt_size e)) (Heap.get?_push_of_some _ e)
 have I4:∀ t',Inv (blk X N scope s3.heap.objs.size s3 (upd H2 s2.heap.objs.size (.lst [])) fp xe) [] (capSt caps σ) (upd H2 s2.heap.objs.size (.lst [])) { s3 with heap:=h₁,toks:=t' }:=fun t'=>blk_inv B I3 hlt3 hf3 hns₁ keep4
 generalize hY:blk X N scope s3.heap.objs.size s3 (upd H2 s2.heap.objs.size (.lst [])) fp xe=Y at I4
 have Yp:Y.prog=X.prog:=by rw[← hY];rfl
 have Yw:Y.w=X.w:=by rw[← hY];rfl
 have YK:Y.K=X.K:=by rw[← hY];rfl
 have Yc:Y.calm=true:=by rw[← hY];exact hc
 have YA:Y.A=X.A:=by rw[← hY];rfl
 have Yx:Y.xe=xe:=by rw[← hY];rfl
 have Ye:Y.env=compEnvC scope (clOf X.env scope.names []) s3.heap.objs.size X.env:=by rw[← hY];rfl
 have hgY:PG Y tg g:=by rw[← hY];exact hg _ _ _ _
 have htY:PF Y ifs tt:=by rw[← hY];exact ht _ _ _ _
 have heY:PE Y elt te:=by rw[← hY];exact he _ _ _ _
 have stat:∀{H':Hp},(∀ b∈fp,H' b=none)→∀ b∈fp,FpOk Y [] H' b:=fun {H'} hn b hb=>by
  refine⟨hn b hb,?_,?_,.inl (by rw[← hY];exact hb),?_,?_⟩
  ·rw[Ye];exact Nat.ne_of_lt (hlt3 b hb)
  ·intro hm
   rw[← hY] at hm
   rcases List.mem_cons.mp (I3.stkSub b hm) with e | e
   ·exact(f2 b hb).2.1 e
   ·exact(f2 b hb).2.2.1 e
  ·intro x c hcl
   rw[Ye] at hcl
   exact(f2 b hb).2.2.2.2.1 x c (cl_sub (fun _ _ e=>by simp at e) x c hcl)
  ·intro p hp
   rw[← hY] at hp
   cases hp
 have st4:tn 0 h₁:=T.keep _ _ _ st2 fun b hb o e=>keep4 b o (keep3 b o e)
 have toX:∀ e s',xe e s'→notedBy (model X.prog X.w) X.A (compEnvC scope (clOf X.env scope.names []) s3.heap.objs.size X.env) (fun e s'=>compPost (model X.prog X.w) X.A X.xe use Q (.ref s2.heap.objs.size) s3.heap.objs.size (.error e) s') e s':=fun e s' hxe=>hx _ _ e s' hxe
 have loop:∀ tk,codeAny (model X.prog X.w) X.A (.compLoop (.ListComp elt [⟨tg,iter,ifs,0⟩] scope pos) 0 (.ref it) (.ref s2.heap.objs.size) (compEnvC scope (clOf X.env scope.names []) s3.heap.objs.size X.env))
   (compPost (model X.prog X.w) X.A X.xe use Q (.ref s2.heap.objs.size) s3.heap.objs.size) { s3 with heap:=h₁,toks:=tk }:=by
  intro tk
  refine comp_loop (fun n s'=>∃ i σ' H',Inv Y [] σ' H' s'∧tn i s'.heap∧(∀ b∈fp,H' b=none)∧W i n σ' H') ?_ m0 ⟨0,_,_,I4 tk,st4,fun b hb=>(hf3 b hb).1,w0⟩
  rintro n s5 ⟨i,σ5,H5,I5,st5,fr5,w5⟩
  have moX:∀{α:Type} {t:Sem α} {Q1:α→Shared→Prop} {s:Shared},wpAny (model X.prog X.w) X.A t Q1 xe s→wpAny (model X.prog X.w) X.A t Q1
    (notedBy (model X.prog X.w) X.A (compEnvC scope (clOf X.env scope.names []) s3.heap.objs.size X.env) (fun e s'=>compPost (model X.prog X.w) X.A X.xe use Q (.ref s2.heap.objs.size) s3.heap.objs.size (.error e) s')) s:=
   fun h=>wpAny_mono h (fun _ _ q=>q) toX
  rcases turn i n σ5 H5 w5 with⟨stop,q⟩ | ⟨go,step⟩
  ·have z:=T.done Y Yp Yw YK Yc i [] s5 σ5 H5 xe I5 (stat fr5) st5 stop
   rw[YA] at z
   refine moX (thn z fun r s6 ⟨hr,I6⟩=>?_)
   subst hr
   obtain⟨m,hm,_⟩:=I6.loc
   have hCn:H5 s3.heap.objs.size=none:=by have z:=I6.free;rw[Ye] at z;exact z
   have un:Un (frs X.stack) fp (upd H2 s2.heap.objs.size (.lst [])) H5 s3.heap s6.heap:=by have z:=I6.base;rw[← hY] at z;exact z
   have hos:s6.os=s3.os:=by have z:=I6.os;rw[← hY] at z;exact z
   have hok:HOk X.prog X.w H5 s6.heap:=by have z:=I6.hok;rw[Yp,Yw] at z;exact z
   have IX:Inv X pins σ H5 s6:=I3.call' (ch:=fp) hos un hok I6.bare fun b hb=>⟨(f2 b hb).2.2.2.1,(f2 b hb).2.1,(f2 b hb).2.2.2.2.1,(f2 b hb).2.2.2.2.2⟩
   refine fin _ _ H5 s6 IX ⟨m,by rw[Ye] at hm;exact hm⟩ ⟨hCn,?_,I3.sz,?_,?_⟩ q
   ·exact Nat.ne_of_gt I3.lt
   ·intro x c hcl
    obtain⟨v,hv⟩:=I3.cell x c hcl
    exact Nat.ne_of_lt hv.lt
   ·intro p hp
    exact Nat.ne_of_lt (Heap.lt_size (I3.pin p hp).1)
  ·have z:=T.item Y Yp Yw YK Yc i [] s5 σ5 H5 xe I5 (stat fr5) st5 go
   rw[YA] at z
   refine moX (thn z fun r s6 ⟨u,hr,h6⟩=>?_)
   subst hr
   refine moX (thn h6 fun _ s7 ⟨x,H7,I7,r7,y7,st7,fr7⟩=>?_)
   have I7':=I7.pinned (stat fr7) (T.obj _ _ st7)
   have hN:=step x H7 y7
   have again:∀{σ':St} {H':Hp} {s':Shared} {m':Nat},m' < n→Inv Y ([]++pinsAt fp s7.heap) σ' H' s'→W (i+1) m' σ' H'→∃ m,m < n∧∃ i σ'' H'',Inv Y [] σ'' H'' s'∧tn i s'.heap∧(∀ b∈fp,H'' b=none)∧W i m σ'' H'':=fun {σ' H' s' m'} hm I' w'=>by
    refine⟨m',hm,i+1,σ',H',I'.unpinned,T.keep _ _ _ st7 fun b hb o e=>(I'.pin (b,o) (List.mem_append_right _ (List.mem_append_right _ (mem_pinsAt hb e)))).1,fun b hb=>?_,w'⟩
    obtain⟨o,e,d⟩:=T.obj _ _ st7 b hb
    exact(I'.pin (b,o) (List.mem_append_right _ (List.mem_append_right _ (mem_pinsAt hb e)))).2.1
   have z:=hgY _ s7 σ5 H7 x u _ I7' r7 hN
   rw[Yp,Yw,YA,Ye,Yx] at z
   refine moX (thn z fun _ s8 ⟨σ8,H8,I8,q8⟩=>?_)
   have z:=htY _ s8 σ8 H8 _ I8 q8
   rw[Yp,Yw,YA,Ye,Yx] at z
   refine moX (thn z fun ok s9 ⟨H9,I9,q9⟩=>?_)
   cases ok with
   | false=>
    obtain⟨m',hm,w'⟩:=q9
    exact again hm I9 w'
   | true=>
    have q9':te σ8 H9 fun v H4=>∃ xs,H4 s2.heap.objs.size=some (.lst xs)∧xs.length < sizeLine∧∃ m',m' < n∧W (i+1) m' σ8 (upd H4 s2.heap.objs.size (.lst (xs++[v]))):=q9
    have z:=heY _ s9 σ8 H9 _ I9 q9'
    rw[Yp,Yw,YA,Ye,Yx] at z
    refine moX (thn z fun u10 s10 ⟨v10,H10,I10,r10,q10⟩=>?_)
    obtain⟨xs,hl,hz,m',hm,w'⟩:=q10
    have ap:=mt_append (X:=Y) _ s10 σ8 H10 (.ref s2.heap.objs.size) [v10] (.ref s2.heap.objs.size) [u10] (fun _ H'=>W (i+1) m' σ8 H') I10 rfl (.cons r10 .nil) ⟨_,xs,v10,rfl,rfl,hl,hz,w'⟩
    rw[Yp,Yw,YA,Yx] at ap
    refine moX (thn ap fun _ s11 ⟨_,H11,I11,_,w11⟩=>again hm I11 w11)
 exact codeAny_compStart_list (loop _) (T.self _ 0 _ _ _ st4 (loop _))
theorem pe_comp{tg elt iter:Expr}{ifs:List Expr}{scope:Scope}{pos:Pos}(N:List Str)(caps:List (Option Nat)){wi:TI}{g:TG}{tt:TT}{te:TE}(hc:X.calm=true)(B:Blk X N caps scope)(hi:PI X tg iter wi)
  (hg:∀ C s₀ H₀ ex,PG (blk X N scope C s₀ H₀ ex fun _ _=>False) tg g) (ht:∀ C s₀ H₀ ex,PF (blk X N scope C s₀ H₀ ex fun _ _=>False) ifs tt) (he:∀ C s₀ H₀ ex,PE (blk X N scope C s₀ H₀ ex fun _ _=>False) elt te)
  (hs:∀ x,foldedSetIterable iter X.env x=pure x:=by intro _;rfl):PE X (.ListComp elt [⟨tg,iter,ifs,0⟩] scope pos) (tComp caps wi g tt te):=by
 intro pins s σ H Q I h
 rw[eval_ListComp]
 refine comp_core (use:=none) (Qv:=Q) hc B hi hg ht he I h (fun l C H' s5 I5 ⟨m,hm⟩ lo q=>?_) (fun _ _ _ _ f=>f.elim) hs
 refine⟨m,hm,fun h' hs'=>⟨.ref l,H',?_,rfl,q⟩⟩
 exact I5.turned (it:=C) (t':=s5.toks) (fun b o hb e=>hs'.extBut b o hb e) lo.un lo.loc (.inr lo.ab) lo.cel lo.pin
theorem ps_setcomp{i:Nat}{x:Str}{pos':Pos}{tg elt iter:Expr}{ifs:List Expr}{scope:Scope}{pos spos:Pos}(N:List Str)(caps:List (Option Nat)){wi:TI}{g:TG}{tt:TT}{te:TE}(hc:X.calm=true)
  (hN:X.N.Nodup) (hi':X.N[i]? = some x) (hx:Loc X.env.scope x) (B:Blk X N caps scope) (hi:PI X tg iter wi)
  (hg:∀ C s₀ H₀ ex,PG (blk X N scope C s₀ H₀ ex fun _ _=>False) tg g) (ht:∀ C s₀ H₀ ex,PF (blk X N scope C s₀ H₀ ex fun _ _=>False) ifs tt) (he:∀ C s₀ H₀ ex,PE (blk X N scope C s₀ H₀ ex fun _ _=>False) elt te)
  (hsw:swapsWith (.ListComp elt [⟨tg,iter,ifs,0⟩] scope pos) (some (.Name x pos')) spos.line X.env=pure true:=by rfl)
  (hs:∀ x,foldedSetIterable iter X.env x=pure x:=by intro _;rfl) (hf:X.fn x=true∨X.env.scope.names.lookup x=some .local:=by first | exact .inl rfl | exact .inr rfl | assumption) :
  PS X (.Assign [.Name x pos'] (.ListComp elt [⟨tg,iter,ifs,0⟩] scope pos) spos) (tAsg (tComp caps wi g tt te) (gName i)):=by
 intro pins s σ H D I h
 rw[exec_Assign_Name_used _ _ _ _ hsw]
 refine wpAny_bind (wpAny_standAt (wpAny_bind ?_))
 show wpAny _ X.A (do let _ ← comprehension (.ListComp elt [⟨tg,iter,ifs,0⟩] scope pos) scope X.env _ (newList []) false (eval iter X.env) (some (assign (.Name x pos') X.env))) _ _ s
 refine wpAny_bind (wpAny_mono (comp_core (use:=some (assign (.Name x pos') X.env)) (Q:=fun _ s'=>SP X pins D .next s') (Qv:=fun v H1=>gName i v σ H1 D.nx) hc B hi hg ht he I h (fun l C H' s5 I5 ⟨m,hm⟩ lo q=>?_) (fun _ _ _ _ f=>f.elim) hs)
  (fun _ s' hq=>wpAny_pure (wpAny_pure hq)) fun _ _ e=>e)
 show wpAny _ X.A (assign (.Name x pos') X.env (.ref l)) _ _ _
 refine wpAny_assign_Name (store_ok2 I5 hN hi' hx (v:=.ref l) rfl (fun s6 I6 ⟨a,sb,ha⟩=>?_) hf)
 have hCa:C≠a:=by
  rcases ha with e | e
  ·rw[e];exact lo.loc
  ·exact Ne.symm (lo.cel x a e)
 refine⟨m,hm.sameBut sb hCa,fun h' hs'=>⟨_,H',?_,q⟩⟩
 exact I6.turned (it:=C) (t':=s6.toks) (fun b o hb e=>hs'.extBut b o hb e) lo.un lo.loc (.inr lo.ab) lo.cel lo.pin
end
end L2
namespace L2
open PySem PySem.Spec PyProof.Rows
section
variable{X:Cx}
def Wide(i:Int):Prop:=i.natAbs < 2 ^ 4000
theorem bits_of_wide{i:Int}(h:Wide i):Builtin.Int.intBits i≤2 ^ 20:=by
 unfold Builtin.Int.intBits
 split
 ·exact Nat.zero_le _
 ·rename_i h0
  have hne:i.natAbs≠0:=by
   intro e
   have:i=0:=Int.natAbs_eq_zero.mp e
   rw[this] at h0
   exact h0 rfl
  have hl:i.natAbs.log2 < 4000:=(Nat.log2_lt hne).mpr h
  have e:(2:Nat) ^ 20=1048576:=by decide
  omega
def CMulW(i j:Int):Prop:=Wide i∧Wide j
theorem op_mulW:OpR X (binaryOp .Mult) (rI CMulW fun i j=>.int (i * j)):=opI fun _ _ _ _ _ _ _ hc q=>mul_int q (IntMulOk.of_bits (bits_of_wide hc.1) (bits_of_wide hc.2))
def rEqL(K:PySem.W.Frag)(neg:Bool):R2:=fun x y H Q=>∃(a b:Addr) (ns ms:List Int),x = .ref a∧y = .ref b∧SqL K H a (ns.map V.int)∧SqL K H b (ms.map V.int)∧Q (.bl (if neg then !decide (ns=ms) else decide (ns=ms))) H
theorem isL_of{h:Heap}{a:Addr}{its:Array Value}(p:PlainL h a its):h.IsList a its:=by
 obtain⟨o,n,e,c,_,d⟩:=p
 exact⟨o,e,c,n,d⟩
theorem op_eqL(hu:X.A.units+64 < cLine):OpR X (compareOp .Eq) (rEqL X.K false):=by
 intro pins s σ H x y v u Q I rx ry h
 obtain⟨a,b,ns,ms,rfl,rfl,hA,hB,q⟩:=h
 cases rx
 cases ry
 obtain⟨ia,va,pa,_⟩:=I.list hA
 obtain⟨ib,vb,pb,_⟩:=I.list hB
 exact PySem.W.ke_eq_ints (isL_of pa) (isL_of pb) (intsAre_of va) (intsAre_of vb) hu ⟨.bl _,H,I,rfl,q⟩
theorem op_neL(hu:X.A.units+64 < cLine):OpR X (compareOp .NotEq) (rEqL X.K true):=by
 intro pins s σ H x y v u Q I rx ry h
 obtain⟨a,b,ns,ms,rfl,rfl,hA,hB,q⟩:=h
 cases rx
 cases ry
 obtain⟨ia,va,pa,_⟩:=I.list hA
 obtain⟨ib,vb,pb,_⟩:=I.list hB
 exact PySem.W.ke_ne_ints (isL_of pa) (isL_of pb) (intsAre_of va) (intsAre_of vb) hu ⟨.bl _,H,I,rfl,q⟩
def rIsT(K:PySem.W.Frag):List V→Hp→VK→Prop:=fun xs H Q=>∃ x n t b,xs=[x,.ty n]∧TyOf K H x t∧PySem.W.kitOne K t (.type n)=some b∧Q (.bl b) H
theorem call_isT:CallR X (.builtin "isinstance") (rIsT X.K):=by
 intro pins s σ H xs us Q I r h
 obtain⟨x,n,t,b,rfl,ty,e,q⟩:=h
 obtain⟨u,w',rfl,r1,r2⟩:=vals2 r
 cases r2
 exact isinst_ok I r1 ty e fun tk=>⟨.bl b,H,I.tok tk,rfl,q⟩
end
def blkOk(sc:Scope)(N0 N:List Str)(caps:List (Option Nat))(scope:Scope):Bool:=
 decide (scope.kind = .function) && scope.names.all (fun y=>decide (y.2 ≠ .cell)) && scope.names.all (fun y=>decide (y.2 ≠ .local) || decide (scope.names.lookup y.1=some .local)) &&
 scope.names.all (fun y=>decide (y.2 ≠ .free) || (decide (sc.names.lookup y.1=some .cell) || decide (sc.names.lookup y.1=some .free))) && decide (caps.length=N.length) &&
 (List.range caps.length).all fun i=>match caps[i]?,N[i]? with
  | some (some j),some x=>decide (N0[j]? = some x) && (decide (sc.names.lookup x=some .cell) || decide (sc.names.lookup x=some .free)) && decide (scope.names.lookup x=some .free)
  | _,_=>true
theorem Blk.by{X:Cx}{N:List Str}{caps:List (Option Nat)}{scope:Scope}{sc:Scope}{N0:List Str}(hsc:X.env.scope=sc)(hN:X.N=N0)(h:blkOk sc N0 N caps scope=true):Blk X N caps scope:=by
 unfold blkOk at h
 simp only[Bool.and_eq_true,decide_eq_true_eq,List.all_eq_true,Bool.or_eq_true] at h
 obtain⟨⟨⟨⟨⟨h1,h2⟩,h3⟩,h4⟩,h5⟩,h6⟩:=h
 subst hsc
 subst hN
 refine⟨h1,h2,fun y hy e=>(h3 y hy).elim (fun z=>absurd e z) id,fun y hy e=>(h4 y hy).elim (fun z=>absurd e z) id,h5,fun i j x e1 e2=>?_⟩
 have hi:i < caps.length:=(List.getElem?_eq_some_iff.mp e1).1
 have z:=h6 i (List.mem_range.mpr hi)
 rw[e1,e2] at z
 simp only[Bool.and_eq_true,decide_eq_true_eq,Bool.or_eq_true] at z
 exact⟨z.1.1,.inr z.1.2,z.2⟩
theorem same_upd{H:Hp}{p:Addr}(h:H p=none)(o:HO):Same H (upd H p o):=fun b u q=>by rw[upd_ne (ne_of_none q h)];exact q
theorem same_upd2{H0 H:Hp}{p:Addr}(h:H0 p=none)(s:Same H0 H)(o:HO):Same H0 (upd H p o):=fun b u q=>by rw[upd_ne (ne_of_none q h)];exact s b u q
theorem comp_any{tt:TT}{te:TE}{σ0:St}{H1:Hp}{Q:V→Hp→Prop}{J:It}(n:Nat)(xs:Nat→V)(p:Nat→Bool)(f:Nat→V)(hn:n≤sizeLine)
  (hgo:∀ i H,Same H1 H→i < n→J.go i H) (hstop:∀ H,Same H1 H→J.stop n H) (hy:∀ i H x H',Same H1 H→i < n→J.yld i H x H'→H'=H∧x=xs i)
  (hT:∀ i H,i < n→Same H1 H→∀ R:Bool→Hp→Prop,(∀ H',Same H H'→R (p i) H')→tt (σ0.set 0 (some (xs i))) H R)
  (hE:∀ i H,i < n→p i=true→Same H1 H→∀ R:V→Hp→Prop,(∀ H',Same H H'→R (f i) H')→te (σ0.set 0 (some (xs i))) H R)
  (hQ:∀ l H,Same H1 H→H1 l=none→H l=some (.lst (((List.range n).filter p).map f))→Q (.ref l) H):tCompR (gName 0) tt te σ0 J H1 Q:=by
 intro l hl
 refine⟨fun i m σ H=>m=n - i∧i≤n∧Same H1 H∧H l=some (.lst (((List.range i).filter p).map f))∧∀ o,σ.set 0 o=σ0.set 0 o,⟨n,by simp,Nat.zero_le _,same_upd hl _,upd_same,fun _=>rfl⟩,?_⟩
 rintro i m σ H ⟨rfl,hi,sm,hL,hσ⟩
 by_cases hlt:i < n
 ·refine .inr ⟨hgo i H sm hlt,fun x H' y=>?_⟩
  obtain⟨rfl,rfl⟩:=hy i H x H' sm hlt y
  show tt (σ.set 0 (some (xs i))) H' _
  rw[hσ]
  refine hT i H' hlt sm _ fun H2 s2=>?_
  have er:(List.range (i+1)).filter p=(List.range i).filter p++(if p i=true then [i] else []):=by
   rw[List.range_succ,List.filter_append]
   by_cases hp:p i=true
   ·rw[if_pos hp,List.filter_cons_of_pos hp,List.filter_nil]
   ·rw[if_neg hp,List.filter_cons_of_neg hp,List.filter_nil]
  have hσ2:∀ o,(σ0.set 0 (some (xs i))).set 0 o=σ0.set 0 o:=fun o=>List.set_set _
  by_cases hp:p i=true
  ·rw[if_pos hp]
   refine hE i H2 hlt hp (sm.trans s2) _ fun H3 s3=>?_
   refine⟨_,s3 _ _ (s2 _ _ hL),?_,n - (i+1),by omega,rfl,hlt,?_,?_,hσ2⟩
   ·rw[List.length_map]
    have:=List.length_filter_le p (List.range i)
    rw[List.length_range] at this
    omega
   ·exact same_upd2 hl (sm.trans (s2.trans s3)) _
   ·rw[upd_same,er,if_pos hp,List.map_append]
    rfl
  ·rw[if_neg hp]
   refine⟨n - (i+1),by omega,rfl,hlt,sm.trans s2,?_,hσ2⟩
   rw[er,if_neg hp,List.append_nil]
   exact s2 _ _ hL
 ·have e:i=n:=by omega
  subst e
  exact .inl ⟨hstop H sm,hQ l H sm hl hL⟩
theorem comp_range{tt:TT}{te:TE}{σ0:St}{H1:Hp}{Q:V→Hp→Prop}{lo:Int}{n:Nat}(p:Nat→Bool)(f:Nat→V)(hn:n≤sizeLine)
  (hT:∀ i H,i < n→Same H1 H→∀ R:Bool→Hp→Prop,(∀ H',Same H H'→R (p i) H')→tt (σ0.set 0 (some (.int (lo+(i:Nat))))) H R)
  (hE:∀ i H,i < n→p i=true→Same H1 H→∀ R:V→Hp→Prop,(∀ H',Same H H'→R (f i) H')→te (σ0.set 0 (some (.int (lo+(i:Nat))))) H R)
  (hQ:∀ l H,Same H1 H→H1 l=none→H l=some (.lst (((List.range n).filter p).map f))→Q (.ref l) H):tCompR (gName 0) tt te σ0 (Itr lo n) H1 Q:=
 comp_any n (fun i=>.int (lo+(i:Nat))) p f hn (fun _ _ _ h=>h) (fun _ _=>Nat.le_refl _) (fun _ _ _ _ _ _ y=>y) hT hE hQ
theorem filter_map_range{α β:Type}(xs:List α)(p:α→Bool)(f:α→β)(d:α):((List.range xs.length).filter fun i=>p (xs.getD i d)).map (fun i=>f (xs.getD i d))=(xs.filter p).map f:=by
 have e:(List.range xs.length).map (fun i=>xs.getD i d)=xs:=by
  apply List.ext_getElem
  ·simp
  ·intro i h1 h2
   simp
   rw[List.getElem?_eq_getElem (by simpa using h2)]
   rfl
 have h:(((List.range xs.length).map (fun i=>xs.getD i d)).filter p).map f=((List.range xs.length).filter fun i=>p (xs.getD i d)).map (fun i=>f (xs.getD i d)):=by
  rw[List.filter_map,List.map_map]
  rfl
 rw[e] at h
 exact h.symm
theorem comp_list{K:PySem.W.Frag}{tt:TT}{te:TE}{σ0:St}{H1:Hp}{Q:V→Hp→Prop}{a:Addr}{xs:List V}(p:V→Bool)(f:V→V)(hS:SqL K H1 a xs)(hn:xs.length≤sizeLine)
  (hT:∀ x H,x∈xs→Same H1 H→∀ R:Bool→Hp→Prop,(∀ H',Same H H'→R (p x) H')→tt (σ0.set 0 (some x)) H R)
  (hE:∀ x H,x∈xs→p x=true→Same H1 H→∀ R:V→Hp→Prop,(∀ H',Same H H'→R (f x) H')→te (σ0.set 0 (some x)) H R)
  (hQ:∀ l H,Same H1 H→H1 l=none→H l=some (.lst ((xs.filter p).map f))→Q (.ref l) H):tCompR (gName 0) tt te σ0 (Itl K a) H1 Q:=by
 have at_:∀ i,i < xs.length→xs[i]? = some (xs.getD i .non):=fun i h=>by
  rw[List.getD_eq_getElem?_getD,List.getElem?_eq_getElem h]
  rfl
 have mem:∀ i,i < xs.length→xs.getD i .non∈xs:=fun i h=>by
  have:=at_ i h
  exact List.mem_of_getElem? this
 refine comp_any xs.length (fun i=>xs.getD i .non) (fun i=>p (xs.getD i .non)) (fun i=>f (xs.getD i .non)) hn (fun i H sm h=>⟨xs,_,sm.seq hS,at_ i h⟩) (fun H sm=>⟨xs,sm.seq hS,Nat.le_refl _⟩)
  (fun i H x H' sm h y=>⟨y.1,?_⟩) (fun i H h sm=>hT _ H (mem i h) sm) (fun i H h hp sm=>hE _ H (mem i h) hp sm) (fun l H sm hl hL=>hQ l H sm hl ?_)
 ·have e:=y.2 xs (sm.seq hS)
  rw[at_ i h] at e
  exact(Option.some.inj e).symm
 ·rw[hL,filter_map_range]
end L2
namespace L2
open PySem PySem.Spec PyProof.Rows
section
variable{X:Cx}{e st:Expr}{te:TE}{ts:TO}{pos p2:Pos}
theorem truth_bls{prog:Program}{w:World}{A:Around}{bs:List Bool}{its:List Value}(r:Vals (bs.map V.bl) its):TruthOf prog w A (fun i v=>its.toArray[i]? = some v) fun i=>bs.getD i true:=by
 intro i v s Q E hP hQ
 have hP':its[i]? = some v:=by simpa using hP
 have hi:i < bs.length:=by
  have:=(List.getElem?_eq_some_iff.mp hP').1
  have h2:=r.length
  rw[List.length_map] at h2
  omega
 obtain⟨u,hu,ru⟩:=r.get (i:=i) (x:=.bl bs[i]) (by rw[List.getElem?_map,List.getElem?_eq_getElem hi];rfl)
 rw[hP'] at hu
 cases hu
 cases ru
 have e:bs.getD i true=bs[i]:=by rw[List.getD_eq_getElem?_getD,List.getElem?_eq_getElem hi];rfl
 have hQ':Q (bs.getD i true) s:=hQ
 rw[e] at hQ'
 exact wpAny_truthy_bool hQ'
theorem call_allL(hc:X.calm=true):CallR X (.builtin "all") (fun xs H Q=>∃(a:Addr) (bs:List Bool),xs=[.ref a]∧SqL X.K H a (bs.map V.bl)∧Q (.bl (bs.all id)) H):=by
 intro pins s σ H xs us Q I r h
 obtain⟨a,bs,rfl,hS,q⟩:=h
 obtain⟨u,rfl,ru⟩:=vals1 r
 cases ru
 obtain⟨its,ri,pl,hz⟩:=I.list hS
 have hl:s.heap.IsList a its.toArray:=isL_of pl
 have ha:a < s.heap.objs.size:=by obtain⟨_,e,_⟩:=hl;exact Heap.lt_size e
 have hh:X.A.in1.handled=none:=I.ok.hd hc
 refine call_all_walk (wpAny_pyIter_list hl ?_)
 refine⟨s.heap.objs.size,[s.heap.objs.size,a],[s.heap.objs.size],its.toArray.size,(fun i v=>its.toArray[i]? = some v),(fun i h=>h.IsListIter s.heap.objs.size a i∧h.IsList a its.toArray),(fun i=>bs.getD i true),rfl,Walks.list hh s.heap.objs.size a (Nat.ne_of_lt ha) its.toArray,
  ⟨⟨_,Heap.get?_push_size _ rfl,rfl,rfl⟩,hl.push _⟩,truth_bls ri,fun h' tk hk=>?_⟩
 have e:(List.range its.toArray.size).all (fun i=>bs.getD i true)=bs.all id:=by
  have h2:=ri.length
  rw[List.length_map] at h2
  have h3:its.toArray.size=bs.length:=by simp [h2]
  rw[h3]
  have e1:(List.range bs.length).map (fun i=>bs.getD i true)=bs:=by
   apply List.ext_getElem
   ·simp
   ·intro i h1 h2
    simp
    rw[List.getElem?_eq_getElem (by simpa using h2)]
    rfl
  conv=>rhs;rw[← e1]
  rw[List.all_map]
  rfl
 rw[e]
 refine⟨.bl _,H,I.kept (t':=tk) fun b o eb=>hk b o ?_ (Heap.get?_push_of_some _ eb),rfl,q⟩
 intro hm
 have:b=s.heap.objs.size:=by simpa using hm
 rw[this] at eb
 exact absurd (Heap.lt_size eb) (Nat.lt_irrefl _)
end
end L2
namespace L2
open PySem PySem.Spec PyProof.Rows
def RecAt(base:Heap)(e:Addr)(cls:Value)(od:Option Addr)(ctx fl:Value)(h:Heap):Prop:=
 ∃ oe vs T oT ts,(h.get? e=some oe∧(oe.cls=cls∧oe.dict=od)∧oe.data = .fields vs∧vs[1]? = some (.ref T)∧vs[2]? = some ctx)∧base.get? T=none∧T≠e∧h.get? T=some oT∧oT.data = .fields ts∧ts[3]? = some fl
structure FlyC(base:Heap)(l:List Env)(e:Addr)(cls:Value)(od:Option Addr)(ctx fl:Value)(h:Heap):Prop where
 stays:base.StaysIn h
 new:base.get? e=none
 frames:h.FunFrames base l
 rcd:RecAt base e cls od ctx fl h
section
variable{M:Model}{A:Around}{E:Value→Shared→Prop}{s:Shared}{base:Heap}{env:Env}{outer:List Env}{L e:Addr}{cls ctx:Value}{od:Option Addr}{Q:Unit→Shared→Prop}
theorem dict_mapFields(o:Obj)(f:Array Value→Array Value):(o.mapFields f).dict=o.dict:=by
 unfold Obj.mapFields
 split<;>rfl
theorem noFields{h:Heap}{a:Addr}{o:Obj}{vs:Array Value}(ho:h.get? a=some o)(hd:o.data = .fields vs){b:Addr}{u:Obj}(hb:h.get? b=some u)(hn:∀ ws,u.data ≠ .fields ws):b≠a:=by
 rintro rfl
 have z:=hb.symm.trans ho
 cases z
 exact hn vs hd
theorem setRec{h:Heap}{a:Addr}{i:Nat}{v:Value}(hk:base.StaysIn h)(ha:base.get? a=none){l:List Env}(hl:h.FunFrames base l){o:Obj}{vs:Array Value}(ho:h.get? a=some o)(hd:o.data = .fields vs) :
  let h':=h.update a (Obj.mapFields (·.setIfInBounds i v))
  base.StaysIn h'∧h'.FunFrames base l∧h.UpToSlots h'∧(∀ b,b≠a→h'.get? b=h.get? b)∧∃ o',h'.get? a=some o'∧(o'.cls=o.cls∧o'.dict=o.dict)∧o'.data = .fields (vs.setIfInBounds i v):=by
 intro h'
 have oth:∀ b,b≠a→h'.get? b=h.get? b:=fun b hb=>Heap.get?_update_other _ _ (Ne.symm hb)
 have hd':=Obj.data_mapFields hd (·.setIfInBounds i v)
 refine⟨fun b u hb=>?_,hl.of_keeps fun b u hb hn=>?_,fun b u hb hn=>?_,oth,_,Heap.get?_update_self _ ho (Obj.isFreed_of_fields hd'),⟨Obj.cls_mapFields _ _,dict_mapFields _ _⟩,hd'⟩
 ·rw[oth b (fun z=>by rw[z,ha] at hb;cases hb)]
  exact hk b u hb
 ·exact⟨u,(oth b (noFields ho hd hb hn)).trans hb,rfl⟩
 ·exact⟨u.slots,(oth b (noFields ho hd hb hn)).trans hb⟩
theorem entryC{head:Value}{hadNext:Bool}{oe:Obj}{vs:Array Value}(hfr:A.frames=some (env :: outer))(hl:s.heap.FunFrames base (env :: outer))(hf:env.frame=some L)(hk:base.StaysIn s.heap)(hn:base.get? e=none)
  (he:s.heap.get? e=some oe) (hc:oe.cls=cls∧oe.dict=od) (hd:oe.data = .fields vs) (h2:vs[2]? = some ctx)
  (h:∀ h',FlyC base (env :: outer) e cls od ctx (rawInt L) h'→s.heap.UpToSlots h'→Q () { s with heap:=h' }) :
  wpAny M A (do let a ← frameOf env;let pl ← entryPlaceOf L hadNext;let b ← EntryCells.newEntry head a .none (rawInt L) .none pl;setField (.ref e) 1 b) Q E s:=by
 have hef:e∉(env :: outer).filterMap (·.frame):=fun hm=>by
  obtain⟨_,o,ho,hnf⟩:=hl.mem hm
  exact noFields he hd ho hnf rfl
 refine wpAny_bind (wpAny_frameOf_fun hfr hl hf fun g1 so=>wpAny_bind (wpAny_entryPlaceOf fun pl hpl=>?_))
 unfold EntryCells.newEntry
 unfold newFields
 refine wpAny_bind (wpAny_newObj_type ?_ (hpl.sizeOk5 _ _ _ _ _))
 generalize hob:({ cls:=.type "traceback",dict:=none,data:=.fields ([head,Value.ref L,.none,rawInt L,.none]++(if pl.isEmpty then List.replicate 6 Value.none else pl)).toArray }:Obj)=ob
 have obd:∃ ts:Array Value,ob.data = .fields ts∧ts[3]? = some (rawInt L):=by
  rw[← hob]
  refine⟨_,rfl,?_⟩
  simp
 have e1:g1.get? e=some oe:=(so.2.1 e hef).trans he
 have k1:base.StaysIn g1:=fun b o hb=>(so.2.1 b fun hm=>by rw[(hl.mem hm).1] at hb;cases hb).trans (hk b o hb)
 have l1:g1.FunFrames base (env :: outer):=hl.of_keeps fun b o hb _=>by
  obtain⟨sl,q⟩:=so.2.2 b o hb
  exact⟨_,q,rfl⟩
 have up1:s.heap.UpToSlots g1:=fun b o hb _=>so.2.2 b o hb
 have e2:(g1.push ob).get? e=some oe:=Heap.get?_push_of_some _ e1
 have k2:base.StaysIn (g1.push ob):=fun b o hb=>Heap.get?_push_of_some _ (k1 b o hb)
 have l2:(g1.push ob).FunFrames base (env :: outer):=l1.of_keeps fun b o hb _=>⟨o,Heap.get?_push_of_some _ hb,rfl⟩
 have up2:g1.UpToSlots (g1.push ob):=Heap.UpToSlots.of_keeps fun b o hb=>Heap.get?_push_of_some _ hb
 have hT:(g1.push ob).get? g1.objs.size=some ob:=Heap.get?_push_size _ (by obtain⟨ts,z,_⟩:=obd;exact Obj.isFreed_of_fields z)
 have hsz:1 < vs.size:=Nat.lt_trans (by decide) (Array.getElem?_eq_some_iff.mp h2).1
 obtain⟨k3,l3,up3,oth,oe3,e3,c3,d3⟩:=setRec (i:=1) (v:=.ref g1.objs.size) k2 hn l2 e2 hd
 refine wpAny_setField e2 hd hsz (h _ ⟨k3,hn,l3,oe3,vs.setIfInBounds 1 (.ref g1.objs.size),g1.objs.size,ob,?_⟩ ((up1.trans up2).trans up3))
 obtain⟨ts,z1,z2⟩:=obd
 have hTe:g1.objs.size≠e:=Nat.ne_of_gt (Heap.lt_size e1)
 refine⟨ts,⟨e3,⟨c3.1.trans hc.1,c3.2.trans hc.2⟩,d3,by simp [hsz],?_⟩,k1.fresh,hTe,(oth _ hTe).trans hT,z1,z2⟩
 rw[Array.getElem?_setIfInBounds_ne (by decide)]
 exact h2
theorem noteC0{oe:Obj}{vs:Array Value}(hfr:A.frames=some (env :: outer))(hl:s.heap.FunFrames base (env :: outer))(hf:env.frame=some L)(hk:base.StaysIn s.heap)(hn:base.get? e=none)
  (he:s.heap.get? e=some oe) (hc:oe.cls=cls∧oe.dict=od) (hd:oe.data = .fields vs) (h1:vs[1]? = some .none) (h2:vs[2]? = some ctx)
  (h:∀ h',FlyC base (env :: outer) e cls od ctx (rawInt L) h'→s.heap.UpToSlots h'→Q () { s with heap:=h' }):wpAny M A (noteFrame (.ref e) env) Q E s:=by
 unfold noteFrame
 simp only[hf]
 refine wpAny_bind (wpAny_field he hd h1 ?_)
 rw[if_neg (by decide)]
 exact entryC hfr hl hf hk hn he hc hd h2 h
theorem noteC(hfr:A.frames=some (env :: outer))(hf:env.frame=some L)(x:FlyC base (env :: outer) e cls od ctx .none s.heap)
  (h:∀ h',FlyC base (env :: outer) e cls od ctx (rawInt L) h'→s.heap.UpToSlots h'→Q () { s with heap:=h' }):wpAny M A (noteFrame (.ref e) env) Q E s:=by
 obtain⟨oe,vs,T,oT,ts,⟨he,hc,hd,h1,h2⟩,hT0,hTe,hT,hdT,h3⟩:=x.rcd
 unfold noteFrame
 simp only[hf]
 refine wpAny_bind (wpAny_field he hd h1 ?_)
 rw[if_pos (by simp:(Value.ref T != Value.none)=true)]
 refine wpAny_bind (wpAny_field hT hdT h3 ?_)
 rw[if_neg (by simp [rawInt]:¬ ((Value.none == rawInt L)=true))]
 obtain⟨k3,l3,up3,oth,_⟩:=setRec (i:=3) (v:=.none) x.stays hT0 x.frames hT hdT
 refine wpAny_bind (wpAny_setField hT hdT (Array.getElem?_eq_some_iff.mp h3).1 ?_)
 exact entryC hfr l3 hf k3 x.new ((oth e (Ne.symm hTe)).trans he) hc hd h2 fun h' y up=>h h' y (up3.trans up)
theorem landC{fl:Value}{l:List Env}(x:FlyC base l e cls od ctx fl s.heap)(h:∀ h',FlyC base l e cls od ctx .none h'→s.heap.UpToSlots h'→Q () { s with heap:=h' }):wpAny M A (setFlight (.ref e) none) Q E s:=by
 obtain⟨oe,vs,T,oT,ts,⟨he,hc,hd,h1,h2⟩,hT0,hTe,hT,hdT,h3⟩:=x.rcd
 have hsz:=(Array.getElem?_eq_some_iff.mp h3).1
 obtain⟨k3,l3,up3,oth,oT3,e3,c3,d3⟩:=setRec (i:=3) (v:=.none) x.stays hT0 x.frames hT hdT
 unfold setFlight
 refine wpAny_bind (wpAny_field he hd h1 ?_)
 rw[if_pos (by simp:(Value.ref T != Value.none)=true)]
 refine wpAny_setField hT hdT hsz (h _ ⟨k3,x.new,l3,oe,vs,T,oT3,_,⟨(oth e (Ne.symm hTe)).trans he,hc,hd,h1,h2⟩,hT0,hTe,e3,d3,by simp [hsz]⟩ up3)
theorem FlyC.pop{fl:Value}{h:Heap}(x:FlyC base (env :: outer) e cls od ctx fl h):FlyC base outer e cls od ctx fl h:=⟨x.stays,x.new,x.frames.2.2,x.rcd⟩
theorem leaveC0{oe:Obj}{vs:Array Value}(hfr:A.frames=some (env :: outer))(hl:s.heap.FunFrames base (env :: outer))(hf:env.frame=some L)(hk:base.StaysIn s.heap)(hn:base.get? e=none)
  (he:s.heap.get? e=some oe) (hc:oe.cls=cls∧oe.dict=od) (hd:oe.data = .fields vs) (h1:vs[1]? = some .none) (h2:vs[2]? = some ctx)
  (h:∀ h',FlyC base outer e cls od ctx .none h'→s.heap.UpToSlots h'→Q () { s with heap:=h' }):wpAny M A (leaving env (.ref e)) Q E s:=by
 unfold leaving
 exact wpAny_bind (noteC0 hfr hl hf hk hn he hc hd h1 h2 fun g1 x1 u1=>landC (s:={ s with heap:=g1 }) x1 fun g2 x2 u2=>h g2 x2.pop (u1.trans u2))
theorem leaveC(hfr:A.frames=some (env :: outer))(hf:env.frame=some L)(x:FlyC base (env :: outer) e cls od ctx .none s.heap)
  (h:∀ h',FlyC base outer e cls od ctx .none h'→s.heap.UpToSlots h'→Q () { s with heap:=h' }):wpAny M A (leaving env (.ref e)) Q E s:=by
 unfold leaving
 exact wpAny_bind (noteC hfr hf x fun g1 x1 u1=>landC (s:={ s with heap:=g1 }) x1 fun g2 x2 u2=>h g2 x2.pop (u1.trans u2))
end
end L2
namespace L2
open PySem PySem.Spec PyProof.Rows
section
variable{P:Program}{w:World}{H:Hp}{h h'' B:Heap}{a:Addr}{o:HO}
theorem ObjOk.there(x:ObjOk P w H h a o):∃ ob,h.get? a=some ob:=by
 cases o with
 | lst xs=>obtain⟨_,_,_,_,e⟩:=x;exact⟨_,e⟩
 | tup xs=>obtain⟨_,_,_,ob,e,_⟩:=x;exact⟨ob,e⟩
 | dK kvs=>obtain⟨_,_,_,_,ob,_,_,e,_⟩:=x;exact⟨ob,e⟩
 | dT kvs=>obtain⟨_,_,_,_,ob,_,_,e,_⟩:=x;exact⟨ob,e⟩
 | set S n=>obtain⟨ob,_,_,_,e,_⟩:=x;exact⟨ob,e⟩
 | ins C dx fs=>obtain⟨_,_,_,e,_⟩:=x;exact⟨_,e⟩
 | own y=>exact x
 | xd fs=>obtain⟨_,⟨_,_,_,e,_⟩,_⟩:=x;exact⟨_,e⟩
 | rng lo hi=>obtain⟨_,_,_,e⟩:=x;exact⟨_,e⟩
 | frz ob u=>exact⟨_,x.1⟩
 | tbl ps=>exact⟨_,(show h.get? a=some _ from x)⟩
 | met f y=>exact⟨_,(show h.get? a=some _ from x)⟩
 | ext φ=>exact x.2.1
theorem HOk.stays(x:HOk P w H h)(trk:∀ b o,H b=some o→∃ ob,B.get? b=some ob)(b1:B.StaysIn h)(b2:B.StaysIn h''):HOk P w H h'':=fun a o e=>
 (x a o e).stay (fun b u hb q=>by
  have z:∃ ob,B.get? b=some ob:=hb.elim (fun z=>z ▸ trk a o e) fun z=>trk b _ z
  obtain⟨ob,e1⟩:=z
  have e2:=(b1 _ _ e1).symm.trans q
  cases e2
  exact b2 _ _ e1) (fun _ q=>q) fun _ _ q=>q
end
inductive Chn(B:Heap):Value→Prop where
 | nil:Chn B .none
 | cons {c:Addr} {o:Obj} {vs:Array Value} {ctx:Value}:B.get? c=some o→o.data = .fields vs→vs[2]? = some ctx→Chn B ctx→Chn B (.ref c)
structure Fly(l:List Env)(H:Hp)(e:Addr)(cls:Value)(od:Option Addr)(B h:Heap):Prop where
 fly:∃ ctx,FlyC B l e cls od ctx .none h∧Chn B ctx
 trk:∀ b o,H b=some o→∃ ob,B.get? b=some ob
 noe:H e=none
def CX1(P:Program)(w:World):CXT:=fun outer H s E e s'=>∃(ea:Addr) (cls:Value) (od:Option Addr) (H':Hp) (B:Heap),e = .ref ea∧s'.os=s.os∧AllBare s'.gens∧Un (frs outer) [] H H' s.heap s'.heap∧HOk P w H' s'.heap ∧
 Fly outer H' ea cls od B s'.heap∧(∀ b o,s.heap.get? b=some o→b∉frs outer→∃ ob,B.get? b=some ob)∧E cls od H'
section
variable{X:Cx}{pins:List (Addr×Obj)}{σ:St}{H:Hp}{s:Shared}{B h'':Heap}
theorem Inv.un_fly(J:Inv X pins σ H s)(hex:X.ex=[])(b1:B.StaysIn s.heap)(b2:B.StaysIn h'')(up:s.heap.UpToSlots h'')(inB:∀ b o,X.s₀.heap.get? b=some o→b∉X.fs→∃ ob,B.get? b=some ob) :
  Un X.fs [] X.H₀ H X.s₀.heap h'' where
 keep:=fun b o e n hb _=>by
  have e1:=J.base.keep b o e n hb (by rw[hex];simp)
  obtain⟨ob,eb⟩:=inB b o e hb
  have e2:=(b1 _ _ eb).symm.trans e1
  cases e2
  exact b2 _ _ eb
 slot:=fun b o e n hb _=>by
  obtain⟨sl,e1⟩:=J.base.slot b o e n hb (by rw[hex];simp)
  obtain⟨_,o2,ho2,hd⟩:=J.funs.mem hb
  rw[e1] at ho2
  cases ho2
  obtain⟨sl2,e2⟩:=up b _ e1 hd
  exact⟨sl2,e2⟩
 free:=fun b o e n _=>J.base.free b o e n (by rw[hex];simp)
 there:=fun b o e _=>by
  by_cases hb:b∈X.fs
  ·obtain⟨_,o2,ho2,hd⟩:=J.funs.mem hb
   obtain⟨sl,e2⟩:=up b o2 ho2 hd
   exact⟨_,e2⟩
  ·obtain⟨ob,eb⟩:=inB b o e hb
   exact⟨ob,b2 _ _ eb⟩
 tups:=J.base.tups
 frzs:=J.base.frzs
 tbls:=J.base.tbls
theorem Inv.notFr(J:Inv X pins σ H s){b:Addr}{o:Obj}(e:X.s₀.heap.get? b=some o)(hb:b∉X.fs):b∉frs X.stack:=fun z=>by
 rcases List.mem_cons.mp (J.stkSub b z) with q | q
 ·exact absurd (Nat.lt_of_lt_of_le (Heap.lt_size e) J.ok.above) (by rw[q];exact Nat.lt_irrefl _)
 ·exact hb q
def under(X:Cx)(s:Shared):Heap:=PySem.W.hideAll s.heap (frs X.stack)
theorem under_in{b:Addr}{o:Obj}(e:s.heap.get? b=some o)(hb:b∉frs X.stack):(under X s).get? b=some o:=PySem.W.hideAll_get _ e hb
theorem under_stays:(under X s).StaysIn s.heap:=fun b o q=>PySem.W.of_hideAll _ q
theorem Inv.under_frames(J:Inv X pins σ H s):s.heap.FunFrames (under X s) X.stack:=PySem.W.funFrames_hide J.stack fun env he a ha=>List.mem_filterMap.mpr ⟨env,he,ha⟩
theorem Inv.under_trk(J:Inv X pins σ H s):∀ b o,H b=some o→∃ ob,(under X s).get? b=some ob:=fun b o e=>by
 obtain⟨ob,q⟩:=(J.hok b o e).there
 exact⟨ob,under_in q fun z=>by rw[J.stkFree b z] at e;cases e⟩
end
structure MadeC(h h':Heap)(e:Addr)(cls ctx:Value):Prop where
 keeps:∀ b o,h.get? b=some o→h'.get? b=some o
 new:h.get? e=none
 rcd:∃ oe vs,h'.get? e=some oe∧(oe.cls=cls∧oe.dict=none)∧oe.data = .fields vs∧vs[1]? = some .none∧vs[2]? = some ctx
theorem MadeC.of{h h':Heap}{e:Addr}{cls:Value}{args:List Value}(x:Heap.MadeExcOf h h' e cls args):MadeC h h' e cls .none:=by
 obtain⟨t,he,_⟩:=x.there
 exact⟨x.keeps,x.new,_,_,he,⟨rfl,rfl⟩,rfl,rfl,rfl⟩
structure Thr(X:Cx)(E:XK):Prop where
 new:∀(pins:List (Addr×Obj)) (σ:St) (H:Hp) (s:Shared) (h':Heap) (e C:Addr) (ctx:Value),Inv X pins σ H s→MadeC s.heap h' e (.ref C) ctx→Chn (under X s) ctx→E (.ref C) none H→X.xe (.ref e) { s with heap:=h' }
 on:Passes (CX1 X.prog X.w) X E
 own:PassesOwn (model X.prog X.w) X.A X.env X.xe
 ownAt:∀ hd,PassesOwnAt (model X.prog X.w) (X.A.mark hd) X.A X.env X.xe
theorem thr_def{P:Program}{w:World}{K:PySem.W.Frag}{mg:Str→Option Value}{base:Heap}{N:List Str}{qual:Str}{scope:Scope}{f:Addr}{cd:Value}{A:Around}{outer:List Env}{s:Shared}{H:Hp}{E:XK} :
  Thr (cxOf (CX1 P w) P w K mg base N qual scope f cd A outer s H E) E where
 own:=PassesOwn.leaving
 ownAt:=fun _=>PassesOwnAt.leaving
 new:=by
  intro pins σ H1 s1 h' e C ctx I hx hch hE
  have fr:(under (cxOf (CX1 P w) P w K mg base N qual scope f cd A outer s H E) s1).StaysIn s1.heap:=under_stays
  have hn:(under (cxOf (CX1 P w) P w K mg base N qual scope f cd A outer s H E) s1).get? e=none:=by
   cases q:(under (cxOf (CX1 P w) P w K mg base N qual scope f cd A outer s H E) s1).get? e with
   | none=>rfl
   | some o=>
    have z:=fr _ _ q
    rw[hx.new] at z
    cases z
  obtain⟨oe,vs,he,hc,hd,h1,h2⟩:=hx.rcd
  refine leaveC0 (outer:=outer) I.ok.frames (I.under_frames.of_keeps fun b o hb _=>⟨o,hx.keeps b o hb,rfl⟩) rfl (fun b o q=>hx.keeps b o (fr b o q)) hn he hc hd h1 h2 fun h'' x1 x4=>?_
  have up:s1.heap.UpToSlots h'':=(Heap.UpToSlots.of_keeps hx.keeps).trans x4
  have inB:∀ b o,s.heap.get? b=some o→b∉frs outer→∃ ob,(under (cxOf (CX1 P w) P w K mg base N qual scope f cd A outer s H E) s1).get? b=some ob:=fun b o eb hb=>by
   obtain⟨o',e'⟩:=I.base.there b o eb (by intro z;cases z)
   exact⟨o',under_in e' (I.notFr eb hb)⟩
  refine⟨e,.ref C,none,H1,_,rfl,I.os,I.bare,I.un_fly rfl fr x1.stays up inB,I.hok.stays I.under_trk fr x1.stays,⟨⟨ctx,x1,hch⟩,I.under_trk,?_⟩,inB,hE⟩
  cases q:H1 e with
  | none=>rfl
  | some o=>
   obtain⟨ob,z⟩:=(I.hok e o q).there
   rw[hx.new] at z
   cases z
 on:=by
  intro pins σ H1 s1 e s' I hc
  obtain⟨ea,cls,od,H',B,rfl,os,bare,un,hok,F,inB,hE⟩:=hc
  have J:=I.call' os un hok bare fun b z=>absurd z (by simp)
  obtain⟨ctx,fl,hch⟩:=F.fly
  refine leaveC (outer:=outer) I.ok.frames rfl fl fun h'' x1 x2=>?_
  have inB':∀ b o,s.heap.get? b=some o→b∉frs outer→∃ ob,B.get? b=some ob:=fun b o eb hb=>by
   obtain⟨o',e'⟩:=I.base.there b o eb (by intro z;cases z)
   exact inB b o' e' (I.notFr eb hb)
  exact⟨ea,cls,od,H',B,rfl,J.os,J.bare,J.un_fly rfl fl.stays x1.stays x2 inB',hok.stays F.trk fl.stays x1.stays,⟨⟨ctx,x1,hch⟩,F.trk,F.noe⟩,inB',hE⟩
theorem Fun.okX{P:Program}{w:World}{K:PySem.W.Frag}{mg:Str→Option Value}{base:Heap}{x qual:Str}{st:Stmt}{f:Addr}{fd:FuncData}{N ps:List Str}{k:Nat}{sp:Sp}(F:Fun K x qual st f fd)(S:FnScope N ps (defScope st))(len:∀ vs H Q E,sp vs H Q E→vs.length=ps.length)
  (hbody:∀(cdv:Value) (A:Around) (outer:List Env) (s:Shared) (H:Hp) (vs:List V) (Q:VK) (E:XK),Room k (A.deeper (envOfC qual (defScope st) s.heap.objs.size f cdv))→sp vs H Q E →
   Thr (cxOf (CX1 P w) P w K mg base N qual (defScope st) f cdv A outer s H E) E →
   ∃ t,PSs (cxOf (CX1 P w) P w K mg base N qual (defScope st) f cdv A outer s H E) (defBody st) t∧t { nx:=fun _ H'=>Q .non H',rt:=Q } (start N vs) H):FnOk P w K mg base (CX1 P w) (k+1) f fd ps sp:=by
 obtain⟨oc,od,kV,doc,pm,an,cdv,ct,osl,rfl,lk,hcd⟩:=F.ex
 exact fn_of lk hcd S len fun A outer s H vs Q E hr hsp=>hbody cdv A outer s H vs Q E hr hsp thr_def
abbrev veTail:List Value:=[.type "ValueError",.type "Exception",.type "BaseException",.type "object"]
theorem exc_obj{K:PySem.W.Frag}{h:Heap}{C:Addr}{bmB:List Value}{newId:String}(X:K.In h)(q:PySem.W.excIn K C bmB newId=true) :
  ∃ bm N nm qn bs hdct sn sub ab col dd k0 k1 k2 k3 k5 mN,h.get? C=some (excClassObj nm qn C N bs bm hdct sn sub ab col dd k0 k1 k2 k3 k5 newId)∧h.Ns N mN∧mN "__init__" = none∧OwnTail h bmB bm:=by
 unfold PySem.W.excIn at q
 split at q
 ·rename_i ddx cdx slx hlook
  split at q
  ·rename_i Cx bmx j0 j1 j2 j3 nx j5 hmro hslots
   simp only[beq_iff_eq,Bool.and_eq_true,Bool.not_eq_true'] at q
   obtain⟨⟨⟨⟨⟨eC,eN⟩,edel⟩,etl⟩,eok⟩,eni⟩:=q
   subst eC
   subst eN
   obtain⟨f1,f2,f3,f4,f5,f6,f7,f8,f9,f10,f11⟩:=cdx
   have e1:f3=_:=hmro
   have e2:f11=false:=edel
   subst e1
   subst e2
   obtain⟨lst⟩:=slx
   have e3:lst=_:=hslots
   subst e3
   exact⟨bmx,f4,f1,f5,f2,f6,f7,f8,f9,f10,ddx,j0,j1,j2,j3,j5,_,X _ _ hlook,.of_isNs (PySem.W.isNs_of_in X eok),PySem.W.nsMap_none_of_in X eok eni,PySem.W.tail_of_in X etl⟩
  ·cases q
 ·cases q
def tRaise(C:Addr)(E:XK)(t:TA):TS:=fun _ σ H=>t σ H fun vs H1=>vs.length≤sizeLine∧E (.ref C) none H1
theorem ps_raise{X:Cx}{x:Str}{np cpos pos:Pos}{e:Expr}{es:List Expr}{t:TA}{C:Addr}{E:XK}(T:Thr X E)(hh:X.A.handled=none)(hg:Gl X x)(hm:X.mg x=some (.ref C))(hc:PySem.W.excIn X.K C veTail "ValueError.__new__" = true)(ha:PA X (e :: es) t)
  (hdb:(x == ("__debug__":Str))=false:=by decide) (he:starEach (e :: es) X.env=(false,eval e X.env) :: starEach es X.env:=by rfl) (hpl:(backTo cpos (starEach es X.env)).any (·.1)=false:=by rfl) :
  PS X (.Raise (some (.Call (.Name x np) (e :: es) [] cpos)) none pos) (tRaise C E t):=by
 intro pins s σ H D I h
 obtain⟨bm,N,nm,qn,bs,hdct,sn,sub,ab,col,dd,k0,k1,k2,k3,k5,mN,hC,hN,hni,hT⟩:=exc_obj I.mod.kin hc
 have hB:bm.contains (.type "BaseException")=true:=hT.hasType PySem.F.excBase_ValueError.hasBase
 refine wpAny_Raise_call_subT (k5:=k5) (k3:=k3) (k2:=k2) (k1:=k1) (k0:=k0) (dd:=dd) (col:=col) (ab:=ab) (sub:=sub) (sn:=sn) (hdct:=hdct) (bs:=bs) (N:=N) (q:=qn) (nm:=nm) (bm:=bm) (C:=C) PySem.F.excBase_ValueError (mN:=mN) hB hh (by rw[he];show(false || (backTo cpos (starEach es X.env)).any (·.1))=false;rw[hpl];rfl) hni (ld_glob I hg hm ⟨rfl,?_⟩ hdb)
 have hA:=ha cpos pins s σ H _ I h
 rw[he] at hA ⊢
 refine Calls.evalArgs_plain (thn hA fun us s2 q2=>?_)
 obtain⟨vs,H2,I2,r,hz,hE⟩:=q2
 exact⟨rfl,by rw[← r.length];exact hz,I2.bk _ _ hC,hN.keeps I2.bk,hT.keeps I2.bk,fun h' e' hx=>T.new pins σ H2 s2 h' e' C .none I2 (.of hx) .nil hE⟩
end L2
namespace L2
open PySem PySem.Spec PyProof.Rows
def Held(X:Cx)(pins:List (Addr×Obj))(B:Heap):Prop:=(∀ b o,X.s₀.heap.get? b=some o→b∉X.ex→b∉X.fs→∃ ob,B.get? b=some ob)∧∀ p∈X.pn++pins,∃ ob,B.get? p.1=some ob
def XP(X:Cx)(pins:List (Addr×Obj))(σ:St)(Ex:XK)(e:Value)(s':Shared):Prop:=
 ∃(ea:Addr) (cls:Value) (od:Option Addr) (H':Hp) (B:Heap),e = .ref ea∧Inv X pins σ H' s'∧Fly X.stack H' ea cls od B s'.heap∧Held X pins B∧Ex cls od H'
section
variable{X:Cx}{pins:List (Addr×Obj)}{σ:St}{H:Hp}{s:Shared}{B h'':Heap}
end
section
variable{X:Cx}{k:Nat}{f:Addr}{fd:FuncData}{ps:List Str}{sp:Sp}{dvs:List V}{ds:List Value}{x:Str}{p pos:Pos}{e:Expr}{es:List Expr}{t:TA}
end
end L2
namespace L2
open PySem PySem.Spec PyProof.Rows Builtin Builtin.ObjectAttr Builtin.Getset_descriptor
section
variable{prog:Program}{w:World}{A:Around}{E:Value→Shared→Prop}{K:PySem.W.Frag}{a C:Addr}
end
end L2
namespace L2
open PySem PySem.Spec PyProof.Rows Builtin Builtin.ObjectAttr Builtin.Getset_descriptor
section
variable{prog:Program}{w:World}{A:Around}{E:Value→Shared→Prop}{K:PySem.W.Frag}{a C:Addr}
end
end L2
namespace L2
open PySem PySem.Spec PyProof.Rows
section
variable{X:Cx}{pos:Pos}
theorem mt_find:MtR X "str.find" (fun x xs H Q=>∃ i j,x = .str i∧xs=[.str j]∧Q (.int (Txt.find i j)) H):=by
 intro pins s σ H x xs v us Q I rx rv h
 obtain⟨i,j,rfl,rfl,q⟩:=h
 obtain⟨t,rfl⟩:=rx
 obtain⟨u,rfl,ru⟩:=rv.one
 obtain⟨t',rfl⟩:=ru
 exact SC.find ⟨.int _,H,I.tok _,⟨_,rfl⟩,q⟩
theorem pass1{P:Program}{w:World}:Passes (CX1 P w) X E0:=fun _ _ _ _ _ _ _ h=>by
 obtain⟨_,_,_,_,_,_,_,_,_,_,_,_,z⟩:=h
 exact z.elim
end
end L2
namespace L2
open PySem PySem.Spec PyProof.Rows
def vS(ys:List Str):List V:=ys.map V.str
theorem vS_len(ys:List Str):(vS ys).length=ys.length:=List.length_map _
theorem vals_values:∀ l:List (Str×Tok),Vals (vS (l.map (·.1))) (strValues l)
 | []=>.nil
 | (x,t) :: r=>.cons ⟨t,rfl⟩ (vals_values r)
theorem vals_from(tk:Nat)(xs:List Str):Vals (vS xs) (strsFrom tk xs):=by
 rw[strsFrom_eq]
 have:=vals_values (numbered tk xs)
 rwa [numbered_texts] at this
theorem strsAre_of:∀{ys:List Str} {us:List Value},Vals (vS ys) us→StrsAre us ys
 | [],_,.nil=>.nil
 | y :: r,_,.cons h t=>by
  obtain⟨tk,rfl⟩:=h
  exact .cons _ _ (strsAre_of t)
section
variable{X:Cx}
theorem mt_join:MtR X "str.join" (fun x xs H Q=>∃ sep a ys,x = .str sep∧xs=[.ref a]∧SqL X.K H a (vS ys)∧(ys.map (·.length)).sum+ys.length * sep.length≤16777216∧Q (.str (Txt.join sep ys)) H):=by
 intro pins s σ H x xs v us Q I rx rv h
 obtain⟨sep,a,ys,rfl,rfl,hS,hok,q⟩:=h
 obtain⟨t,rfl⟩:=rx
 obtain⟨u,rfl,ru⟩:=rv.one
 cases ru
 obtain⟨its,r,pl,hz⟩:=I.list hS
 exact join_list (isL_of pl) (by simpa using strsAre_of r) hok fun t' k=>⟨.str _,H,I.tok k,⟨_,rfl⟩,q⟩
theorem mt_split:MtR X "str.split" (fun x xs H Q=>∃ i j,x = .str i∧xs=[.str j]∧(j.length == 0)=false∧i.length≤10000∧∀ l,H l=none→Q (.ref l) (upd H l (.lst (vS (Txt.split i j))))):=by
 intro pins s σ H x xs v us Q I rx rv h
 obtain⟨i,j,rfl,rfl,hj,hi,q⟩:=h
 obtain⟨t,rfl⟩:=rx
 obtain⟨u,rfl,ru⟩:=rv.one
 obtain⟨t',rfl⟩:=ru
 have sl:=sizeLine_eq
 have hsz:i.length≤sizeLine:=by omega
 have same:Txt.split i j=[i]→(∀ h' tk,h'=s.heap.push { cls:=.type "list",data:=.seq ([.str i t]:List Value).toArray }→EP X pins σ Q (.ref s.heap.objs.size) { s with heap:=h',toks:=tk }):=fun e h' tk eh=>by
  subst eh
  refine⟨.ref s.heap.objs.size,_,I.lnew (t':=tk) (ys:=vS (Txt.split i j)) (its:=[.str i t]) ?_ ?_,rfl,q _ I.fresh⟩
  ·rw[e]
   exact .cons ⟨t,rfl⟩ .nil
  ·rw[e]
   show 1≤sizeLine
   omega
 by_cases h1:(decide (i.length < j.length) || decide (Builtin.Str.strKind i < Builtin.Str.strKind j))=true
 ·refine call_meets F.slot_str_split (typeIs_str _ _ _) F.entry_str_split (F.args_str_split_2 _ _) (meets_str_split_cannot_occur i j t t' h1) ?_
  exact same (if_pos h1) _ s.toks rfl
 ·have h1':=Bool.eq_false_iff.mpr h1
  by_cases hf:(Builtin.Str.occurrences i j 0 i.length (i.length+1)).isEmpty=true
  ·refine call_meets F.slot_str_split (typeIs_str _ _ _) F.entry_str_split (F.args_str_split_2 _ _) (meets_str_split_not_found i j t t' h1' hj hf) ?_
   exact same ((if_neg h1).trans (if_pos hf)) _ s.toks rfl
  ·have hf':=Bool.eq_false_iff.mpr hf
   have hp:Txt.split i j=Builtin.Str.partsBetween i (Builtin.Str.occurrences i j 0 i.length (i.length+1)) j.length:=(if_neg h1).trans (if_neg hf)
   have hn:(Builtin.Str.partsBetween i (Builtin.Str.occurrences i j 0 i.length (i.length+1)) j.length).length≤sizeLine:=by
    rw[len_partsBetween]
    have:=StrLaws.occ_length_le i j 0 i.length (i.length+1)
    omega
   refine call_meets F.slot_str_split (typeIs_str _ _ _) F.entry_str_split (F.args_str_split_2 _ _) (meets_str_split_sep i j t t' h1' hj hf' hsz hn) ?_
   refine⟨.ref s.heap.objs.size,_,I.lnew (ys:=vS (Txt.split i j)) (its:=strsFrom s.toks (Builtin.Str.partsBetween i (Builtin.Str.occurrences i j 0 i.length (i.length+1)) j.length)) ?_ ?_,rfl,q _ I.fresh⟩
   ·rw[hp]
    exact vals_from _ _
   ·rw[vS_len,hp]
    exact hn
def rSlS:V→Option Int→Option Int→Hp→VK→Prop:=fun x lo hi H Q=>∃ z,x = .str z∧z.length≤10000∧Q (.str (Txt.slice z lo hi)) H
theorem isPart_of{v:Value}{o:Option Int}(p:IsPart v o):∃ l:Option (Int×Tok),partValue l=v∧l.map (·.1)=o:=by
 cases p with
 | none=>exact⟨none,rfl,rfl⟩
 | int i t=>exact⟨some (i,t),rfl,rfl⟩
theorem sl_str:SlR X rSlS:=by
 intro pins s σ H x v vl vu lo hi sl Q I rx hs pl pu h
 obtain⟨z,rfl,hz,q⟩:=h
 obtain⟨t,rfl⟩:=rx
 obtain⟨l,rfl,el⟩:=isPart_of pl
 obtain⟨u,rfl,eu⟩:=isPart_of pu
 refine⟨"str",_,F.slot_str_getitem.lookup,typeIs_str _ _ _,?_⟩
 refine wpAny_getItem_str_slice (l:=l) (u:=u) (st:=none) hs rfl (post_val_or_str ⟨?_,fun t' k=>?_⟩)
 ·have e:=Txt.slice_le z lo hi
  rw[← el,← eu] at e
  have sl':=sizeLine_eq
  refine Nat.le_trans e ?_
  omega
 ·refine⟨.str _,H,I.tok k,⟨_,rfl⟩,?_⟩
  rw[← el,← eu] at q
  exact q
def Its(x:Str):It:=⟨fun i _=>i < x.cps.size,fun i H v H'=>H'=H∧∃ c,x.cps[i]? = some c∧v = .str ⟨#[c]⟩,fun i _=>x.cps.size≤i⟩
theorem turn_strA{P:Program}{w:World}{K:PySem.W.Frag}{tg:Expr}(x:Str)(t:Tok)(it:Addr):Turn P w K tg (Its x) [it] it (fun i h=>h.IsStrIter it "str_ascii_iterator" x t i) where
 mem:=by simp
 obj:=fun i h st b hb=>by
  have e:b=it:=by simpa using hb
  subst e
  obtain⟨o,e,c,d⟩:=st
  exact⟨o,e,fun v z=>by rw[d] at z;cases z⟩
 keep:=fun i h h' st k=>by
  obtain⟨o,e,r⟩:=st
  exact⟨o,k it (by simp) o e,r⟩
 item:=by
  intro X hP hw hK hc i pins s σ H E I hf st hg
  subst hP hw hK
  have hi:i < x.cps.size:=hg
  obtain⟨f0,f1,f2,f3,f4,f5⟩:=hf it (by simp)
  refine wpAny_pyNext_ascii_item st (c:=x.cps[i]) (by simp [hi]) fun h' st' sb=>?_
  have I1:Inv X pins σ H { s with heap:=h',toks:=s.toks+1 }:=I.turned (t':=s.toks+1) (fun b o hb e=>(sb.2 b hb).trans e) f0 f1 f3 f4 f5
  obtain⟨o,e,c,d⟩:=id st'
  exact⟨_,rfl,go_of (s:={ s with heap:=h',toks:=s.toks+1 }) e c d (by decide) ⟨.str _,H,I1,⟨_,rfl⟩,⟨rfl,x.cps[i],by simp [hi],rfl⟩,st',fun b hb=>(hf b hb).1⟩⟩
 done:=by
  intro X hP hw hK hc i pins s σ H E I hf st hg
  subst hP hw hK
  have hi:x.cps.size≤i:=hg
  obtain⟨f0,f1,f2,f3,f4,f5⟩:=hf it (by simp)
  exact wpAny_pyNext_ascii_end (I.ok.hd hc) st (by simp [hi]) fun h' eb=>⟨rfl,I.turned (t':=s.toks) (fun b o hb e=>eb b o hb e) f0 f1 f3 f4 f5⟩
 self:=fun _ _ _ _ _ st h=>wpAny_pyIter_striter_ascii st h
theorem turn_strW{P:Program}{w:World}{K:PySem.W.Frag}{tg:Expr}(x:Str)(t:Tok)(it:Addr):Turn P w K tg (Its x) [it] it (fun i h=>h.IsStrIter it "str_iterator" x t i) where
 mem:=by simp
 obj:=fun i h st b hb=>by
  have e:b=it:=by simpa using hb
  subst e
  obtain⟨o,e,c,d⟩:=st
  exact⟨o,e,fun v z=>by rw[d] at z;cases z⟩
 keep:=fun i h h' st k=>by
  obtain⟨o,e,r⟩:=st
  exact⟨o,k it (by simp) o e,r⟩
 item:=by
  intro X hP hw hK hc i pins s σ H E I hf st hg
  subst hP hw hK
  have hi:i < x.cps.size:=hg
  obtain⟨f0,f1,f2,f3,f4,f5⟩:=hf it (by simp)
  refine wpAny_pyNext_wide_item st (c:=x.cps[i]) (by simp [hi]) fun h' st' sb=>?_
  have I1:Inv X pins σ H { s with heap:=h',toks:=s.toks+1 }:=I.turned (t':=s.toks+1) (fun b o hb e=>(sb.2 b hb).trans e) f0 f1 f3 f4 f5
  obtain⟨o,e,c,d⟩:=id st'
  exact⟨_,rfl,go_of (s:={ s with heap:=h',toks:=s.toks+1 }) e c d (by decide) ⟨.str _,H,I1,⟨_,rfl⟩,⟨rfl,x.cps[i],by simp [hi],rfl⟩,st',fun b hb=>(hf b hb).1⟩⟩
 done:=by
  intro X hP hw hK hc i pins s σ H E I hf st hg
  subst hP hw hK
  have hi:x.cps.size≤i:=hg
  obtain⟨f0,f1,f2,f3,f4,f5⟩:=hf it (by simp)
  exact wpAny_pyNext_wide_end (I.ok.hd hc) st (by simp [hi]) fun h' eb=>⟨rfl,I.turned (t':=s.toks) (fun b o hb e=>eb b o hb e) f0 f1 f3 f4 f5⟩
 self:=fun _ _ _ _ _ st h=>wpAny_pyIter_striter_wide st h
def iStr(tl:TE):TI:=fun σ H R=>tl σ H fun x H1=>∃ z,x = .str z∧R (Its z) H1
theorem pi_str{tg l:Expr}{tl:TE}(hl:PE X l tl):PI X tg l (iStr tl):=by
 intro pins s σ H R I h
 refine thn (hl pins s σ H _ I h) fun v s1 ⟨x,H1,I1,r1,q1⟩=>?_
 obtain⟨z,rfl,q⟩:=q1
 obtain⟨t,rfl⟩:=r1
 have fp:∀ b∈[s1.heap.objs.size],FpOk X pins H1 b:=fun b hb=>by
  have e:b=s1.heap.objs.size:=by simpa using hb
  subst e
  exact I1.fpOk (Nat.le_refl _) (I1.hok.fresh (Nat.le_refl _))
 cases ha:z.cps.all (· < 128)
 ·exact wpAny_pyIter_wide ha ⟨s1.heap.objs.size,[s1.heap.objs.size],_,_,H1,rfl,I1.kept (t':=s1.toks) fun b o e=>Heap.get?_push_of_some _ e,turn_strW z t _,⟨_,Heap.get?_push_size _ rfl,rfl,rfl⟩,fp,q⟩
 ·exact wpAny_pyIter_ascii ha ⟨s1.heap.objs.size,[s1.heap.objs.size],_,_,H1,rfl,I1.kept (t':=s1.toks) fun b o e=>Heap.get?_push_of_some _ e,turn_strA z t _,⟨_,Heap.get?_push_size _ rfl,rfl,rfl⟩,fp,q⟩
end
end L2
namespace L2
open PySem PySem.Spec PyProof.Rows
section
variable{prog:Program}{w:World}
end
end L2
namespace L2
open PySem PySem.Spec PyProof.Rows
section
variable{X:Cx}{pins:List (Addr×Obj)}{σ:St}{H:Hp}{s:Shared}{x:Str}{np cp cp2 cpos rpos:Pos}{msg:Str}{j j2:Nat}{C e1:Addr}
end
end L2
namespace L2
open PySem PySem.Spec PyProof.Rows
theorem op_eqNil{X:Cx}(hu:X.A.units+64 < cLine):OpR X (compareOp .Eq) (fun x y H Q=>∃(a b:Addr) (xs:List V),x = .ref a∧y = .ref b∧SqL X.K H a xs∧SqL X.K H b []∧Q (.bl xs.isEmpty) H):=by
 intro pins s σ H x y v u Q I rx ry h
 obtain⟨a,b,xs,rfl,rfl,hA,hB,q⟩:=h
 cases xs with
 | nil=>exact op_eqL hu pins s σ H _ _ v u Q I rx ry ⟨a,b,[],[],rfl,rfl,hA,hB,q⟩
 | cons x0 xr=>
  cases rx
  cases ry
  obtain⟨ia,va,pa,_⟩:=I.list hA
  obtain⟨ib,vb,pb,_⟩:=I.list hB
  have l1:=va.length
  have l2:=vb.length
  refine PySem.SeqAt.eq_list_lengthsAt (isL_of pa) (isL_of pb) ?_ (by omega) ⟨.bl false,H,I,rfl,q⟩
  simp only[List.size_toArray,← l1,← l2,List.length_cons,List.length_nil]
  simp
end L2
namespace L2
open PySem PySem.Spec PyProof.Rows
section
variable{P:Program}{w:World}{A:Around}{E:Value→Shared→Prop}{s:Shared}{kd:SortKind}{a0:Array Keyed}
def Cmp(P:Program)(w:World)(A:Around)(s:Shared)(kd:SortKind)(ks:List Value):Prop:=
 ∀ x∈ks,∀ y∈ks,∀(E:Value→Shared→Prop) (Q:Bool→Shared→Prop),(∀ b,Q b s)→wpAny (model P w) A (keyLt' kd x y) Q E s
structure SB(kd:SortKind)(a0:Array Keyed)(st:SortSt):Prop where
 pm:(arrOf st).Perm a0
 kn:kindOf st=kd
 fl:failedOf st=none
 pn:pendingOf st = #[]
theorem SB.sz{st:SortSt}(h:SB kd a0 st):(arrOf st).size=a0.size:=h.pm.size_eq
theorem SB.put{st:SortSt}{xs:Array Keyed}(h:SB kd a0 st)(p:xs.Perm (arrOf st)):SB kd a0 (setArr st xs):=⟨p.trans h.pm,h.kn,h.fl,h.pn⟩
theorem SB.get{st:SortSt}{i:Nat}(h:SB kd a0 st)(hi:i < a0.size):∃ x p,(arrOf st)[i]? = some (x,p)∧x∈a0.toList.map (·.1):=by
 have hi2:i < (arrOf st).size:=h.sz ▸ hi
 have m:(arrOf st)[i]∈(arrOf st).toList:=by simp
 exact⟨(arrOf st)[i].1,(arrOf st)[i].2,getElem?_pos _ i hi2,List.mem_map.mpr ⟨_,(Array.perm_iff_toList_perm.mp h.pm).mem_iff.mp m,rfl⟩⟩
theorem lt_any{st:SortSt}{i j:Nat}{Q:Option Bool→SortSt→Prop}(hC:Cmp P w A s kd (a0.toList.map (·.1)))(hB:SB kd a0 st)(hi:i < a0.size)(hj:j < a0.size)(h:∀ b,Q (some b) st):wpS (model P w) A E s (ltAt' i j) Q st:=by
 obtain⟨x,p,e1,m1⟩:=hB.get hi
 obtain⟨y,q,e2,m2⟩:=hB.get hj
 rw[ltAt'_eq]
 refine wpS_bind (wpS_get (show wpS _ _ _ _ (do let x ← elem' (arrOf st) i;let y ← elem' (arrOf st) j;lt' x y) Q st from ?_))
 rw[elem'_eq,elem'_eq,e1,e2]
 refine wpS_bind (wpS_pure (wpS_bind (wpS_pure (show wpS _ _ _ _ (lt' (x,p) (y,q)) Q st from ?_))))
 rw[lt'_eq]
 refine wpS_bind (wpS_get (show wpS _ _ _ _ (do let r ← (liftM (keyLt' (kindOf st) x y).attempt:StateT SortSt Sem _);_) Q st from ?_))
 rw[hB.kn]
 exact wpS_bind (wpS_lift (wpAny_attempt (hC x m1 y m2 _ _ fun b=>⟨rfl,wpS_pure (h b)⟩)))
variable(hC:Cmp P w A s kd (a0.toList.map (·.1)))
include hC
theorem asc_any{st:SortSt}{a m:Nat}{Q:AscSt→SortSt→Prop}(hm:m≤a0.size)(h1:1≤a)(h2:a≤m)(hB:SB kd a0 st)(h:∀ n,a≤n→n≤m→Q (none,n) st):wpS (model P w) A E s (ascLoop a m) Q st:=by
 unfold ascLoop
 refine wpS_forRange (I:=fun x c t=>t=st∧c=(none,x)) (fun x c t hx1 hx2 z=>?_) (fun c t z=>?_) ⟨rfl,rfl⟩
 ·obtain⟨rfl,rfl⟩:=z
  refine wpS_bind (lt_any hC hB (by dsimp only;omega) (by dsimp only;omega) fun b=>?_)
  cases b with
  | true=>exact wpS_pure (h x hx1 (by omega))
  | false=>exact wpS_pure ⟨rfl,rfl⟩
 ·obtain⟨rfl,rfl⟩:=z
  exact h _ (by omega) (by omega)
theorem tail_any{st:SortSt}{n m:Nat}{Q:Option Nat→SortSt→Prop}(hm:m≤a0.size)(h1:1≤n)(h2:n≤m)(hB:SB kd a0 st)(h:∀ k t,SB kd a0 t→1≤k→k≤m→Q (some k) t):wpS (model P w) A E s (tail3 n m) Q st:=by
 unfold tail3
 exact wpS_bind (wpS_reverse (wpS_bind (asc_any hC hm h1 h2 (hB.put (mirror_perm _ _ _ _)) fun k k1 k2=>wpS_pure (h k _ (hB.put (mirror_perm _ _ _ _)) (by omega) k2))))
theorem desc_any{st:SortSt}{n m:Nat}{Q:DescSt→SortSt→Prop}(hm:m≤a0.size)(h1:1≤n)(h2:n≤m)(hB:SB kd a0 st)(h:∀ k q t,SB kd a0 t→n≤k→k≤m→Q (none,k,q) t):wpS (model P w) A E s (descLoop n m) Q st:=by
 unfold descLoop
 refine wpS_forRange (I:=fun x c t=>SB kd a0 t∧∃ q,c=(none,x,q)) (fun x c t hx1 hx2 z=>?_) (fun c t z=>?_) ⟨hB,0,rfl⟩
 ·obtain⟨hB2,q,rfl⟩:=z
  refine wpS_bind (lt_any hC hB2 (by dsimp only;omega) (by dsimp only;omega) fun b=>?_)
  cases b with
  | true=>
   show wpS _ _ _ _ (if q > 0 then _ else _) _ _
   split
   ·exact wpS_bind (wpS_reverse (wpS_pure ⟨hB2.put (mirror_perm _ _ _ _),0,rfl⟩))
   ·exact wpS_pure ⟨hB2,0,rfl⟩
  | false=>
   refine wpS_bind (lt_any hC hB2 (by dsimp only;omega) (by dsimp only;omega) fun b=>?_)
   cases b with
   | true=>exact wpS_pure (h x q t hB2 hx1 (by omega))
   | false=>exact wpS_pure ⟨hB2,q+1,rfl⟩
 ·obtain⟨hB2,q,rfl⟩:=z
  exact h _ q t hB2 (by omega) (by omega)
theorem part_any{st:SortSt}{n m:Nat}{Q:Option Nat→SortSt→Prop}(hm:m≤a0.size)(h2:n+1≤m)(hB:SB kd a0 st)(h:∀ k t,SB kd a0 t→1≤k→k≤m→Q (some k) t):wpS (model P w) A E s (descPart n m) Q st:=by
 unfold descPart
 refine wpS_bind (wpS_lift (wpAny_rule ⟨rfl,wpS_bind (desc_any hC hm (by omega) h2 hB fun k q t hB2 k1 k2=>?_)⟩))
 show wpS _ _ _ _ (if q > 0 then _ else _) _ _
 split
 ·exact wpS_bind (wpS_reverse (tail_any hC hm (by dsimp only;omega) (by dsimp only;omega) (hB2.put (mirror_perm _ _ _ _)) h))
 ·exact tail_any hC hm (by dsimp only;omega) (by dsimp only;omega) hB2 h
theorem count_any{st:SortSt}{m:Nat}{Q:Option Nat→SortSt→Prop}(hm:m≤a0.size)(h1:1≤m)(hB:SB kd a0 st)(h:∀ k t,SB kd a0 t→1≤k→k≤m→Q (some k) t):wpS (model P w) A E s (countRun' 0 m) Q st:=by
 rw[countRun0_eq]
 refine wpS_bind (asc_any hC hm (Nat.le_refl 1) h1 hB fun n n1 n2=>?_)
 show wpS _ _ _ _ (if(n == m)=true then _ else if n > 1 then _ else _) _ _
 split
 ·exact wpS_pure (h n st hB n1 n2)
 ·rename_i ne
  have ne2:n≠m:=fun z=>ne (beq_iff_eq.mpr z)
  split
  ·refine wpS_bind (lt_any hC hB (by omega) (by dsimp only;omega) fun b=>?_)
   cases b with
   | true=>exact wpS_pure (h n st hB n1 n2)
   | false=>exact wpS_bind (wpS_reverse (part_any hC hm (by dsimp only;omega) (hB.put (mirror_perm _ _ _ _)) h))
  ·exact part_any hC hm (by dsimp only;omega) hB h
theorem ins_any{st:SortSt}{n ok:Nat}{Q:Bool→SortSt→Prop}(hn:n≤a0.size)(hB:SB kd a0 st)(h:∀ t,SB kd a0 t→Q true t):wpS (model P w) A E s (binarySort' 0 n ok) Q st:=by
 rw[binarySort'_eq]
 refine wpS_bind (wpS_mono (wpS_forRange (I:=fun _ c t=>c=(none,())∧SB kd a0 t) (Q:=fun c t=>c=(none,())∧SB kd a0 t) (fun k c t hk1 hk2 z=>?_) (fun c t z=>z) ⟨rfl,hB⟩) fun c t z=>?_)
 ·obtain⟨rfl,hB2⟩:=z
  refine wpS_bind (wpS_mono (wpS_forRange (I:=fun _ c u=>u=t∧∃ l r,c=(none,l,r)∧r≤k) (Q:=fun c u=>u=t∧∃ l r,c=(none,l,r)) (fun x c u hx1 hx2 y=>?_) (fun c u y=>?_) ⟨rfl,0,k,rfl,Nat.le_refl k⟩) fun c u y=>?_)
  ·obtain⟨rfl,l,r,rfl,hr⟩:=y
   show wpS _ _ _ _ (if l ≥ r then _ else _) _ _
   split
   ·exact wpS_pure ⟨rfl,l,r,rfl⟩
   ·refine wpS_bind (lt_any hC hB2 (by omega) (by dsimp only;omega) fun b=>?_)
    cases b with
    | true=>exact wpS_pure ⟨rfl,l,(l+r) / 2,rfl,by omega⟩
    | false=>exact wpS_pure ⟨rfl,(l+r) / 2+1,r,rfl,hr⟩
  ·obtain⟨rfl,l,r,rfl,_⟩:=y
   exact⟨rfl,l,r,rfl⟩
  ·obtain⟨rfl,l,r,rfl⟩:=y
   show wpS _ _ _ _ (do moveDown' (0+k) (0+l);pure (ForInStep.yield (none,()))) _ _
   rw[moveDown'_eq]
   exact wpS_bind (wpS_modify (wpS_pure ⟨rfl,hB2.put (bubble_perm _ _ _)⟩))
 ·obtain⟨rfl,hB2⟩:=z
  exact wpS_pure (h t hB2)
theorem runs_any{st:SortSt}{Q:Unit→SortSt→Prop}(hB:SB kd a0 st)(h2:1≤a0.size)(h64:a0.size < 64)(h:∀ t,(arrOf t).Perm a0→failedOf t=none→Q () t):wpS (model P w) A E s sortRuns' Q st:=by
 have mr:minRun' a0.size a0.size 0=a0.size:=by
  obtain⟨f,hf⟩:∃ f,a0.size=f+1:=⟨a0.size - 1,by omega⟩
  rw[hf,minRun'_succ,if_pos (by omega)]
 have dn:∀ t,SB kd a0 t→(arrOf (setPending t ((pendingOf t).push (0,a0.size,0)))).Perm a0∧failedOf (setPending t ((pendingOf t).push (0,a0.size,0)))=none∧pendingOf (setPending t ((pendingOf t).push (0,a0.size,0))) = #[(0,a0.size,0)]:=
  fun t hB=>⟨hB.pm,hB.fl,by show(pendingOf t).push _=_;rw[hB.pn];rfl⟩
 rw[sortRuns'_eq]
 refine wpS_bind (wpS_get ?_)
 dsimp only
 simp only[hB.sz,mr]
 refine wpS_bind (wpS_mono (wpS_forRange (I:=fun x c t=>(x=0∧c=(none,0)∧SB kd a0 t)∨(c=(none,a0.size)∧(arrOf t).Perm a0∧failedOf t=none∧pendingOf t = #[(0,a0.size,0)]))
  (Q:=fun c t=>c=(none,a0.size)∧(arrOf t).Perm a0∧failedOf t=none∧pendingOf t = #[(0,a0.size,0)]) (fun x c t hx1 hx2 z=>?_) (fun c t z=>?_) (.inl ⟨rfl,rfl,hB⟩)) fun c t z=>?_)
 ·rcases z with⟨rfl,rfl,hB2⟩ | ⟨rfl,hD⟩
  ·dsimp only
   rw[if_neg (show ¬ 0 ≥ a0.size by omega)]
   simp only[Nat.sub_zero,Nat.min_self,Nat.zero_add]
   refine wpS_bind (count_any hC (Nat.le_refl _) h2 hB2 fun k u hB3 k1 k2=>?_)
   dsimp only
   have bk:∀ v,SB kd a0 v→(pendingOf v).back? = none:=fun v hv=>by rw[hv.pn];rfl
   by_cases lt:k < a0.size
   ·rw[if_pos lt]
    refine wpS_bind (wpS_lift (wpAny_rule ⟨rfl,wpS_bind (ins_any hC (Nat.le_refl _) hB3 fun v hB4=>?_)⟩))
    rw[if_neg (show ¬ (!true)=true by decide)]
    refine wpS_bind (wpS_get ?_)
    rw[bk v hB4]
    exact wpS_bind (wpS_modify (wpS_pure (.inr ⟨rfl,dn v hB4⟩)))
   ·rw[if_neg lt]
    have ek:k=a0.size:=by omega
    subst ek
    refine wpS_bind (wpS_get ?_)
    rw[bk u hB3]
    exact wpS_bind (wpS_modify (wpS_pure (.inr ⟨rfl,dn u hB3⟩)))
  ·dsimp only
   rw[if_pos (Nat.le_refl _)]
   exact wpS_pure ⟨rfl,hD⟩
 ·rcases z with⟨hx,_,_⟩ | hD
  ·omega
  ·exact hD
 ·obtain⟨rfl,d1,d2,d3⟩:=z
  refine wpS_bind (wpS_mono (wpS_forRange (I:=fun _ c u=>u=t∧c=(none,())) (Q:=fun c u=>u=t∧c=(none,())) (fun x c u _ _ y=>?_) (fun _ _ y=>y) ⟨rfl,rfl⟩) fun c u y=>?_)
  ·obtain⟨rfl,rfl⟩:=y
   refine wpS_bind (wpS_get ?_)
   rw[if_pos (by rw[d3];exact Nat.le_refl 1)]
   exact wpS_pure ⟨rfl,rfl⟩
  ·obtain⟨rfl,rfl⟩:=y
   exact wpS_pure (h _ d1 d2)
end
section
variable{P:Program}{w:World}{A:Around}{E:Value→Shared→Prop}{s:Shared}{kd:SortKind}
structure Keys(P:Program)(w:World)(A:Around)(s:Shared)(kd:SortKind)(vs:List Value):Prop where
 kind:2≤vs.length→∀(E:Value→Shared→Prop) (Q:SortKind→Shared→Prop),Q kd s→wpAny (model P w) A (keyKind' vs.toArray) Q E s
 cmp:Cmp P w A s kd vs
theorem pairs_fst(vs:List Value):(pairsOf vs).toList.map (·.1)=vs:=by
 rw[pairsOf_toList]
 exact List.map_fst_zip (Nat.le_refl _)
theorem pairs_perm{vs:List Value}{xs:Array Keyed}(h:xs.Perm (pairsOf vs)):(xs.map (·.2)).toList.Perm vs:=by
 have z:=(Array.perm_iff_toList_perm.mp h).map (·.2)
 rw[pairsOf_toList,List.map_snd_zip (Nat.le_refl _)] at z
 rwa [Array.toList_map]
theorem sort_any{a:Addr}{vs:List Value}{n:Nat}{R:Fin→Shared→Prop}(ho:s.heap.get? a=some (seqObj "list" vs.toArray n))(h64:vs.length < 64)
  (hK:∀ h',(∀ b o,b≠a→s.heap.get? b=some o→h'.get? b=some o)→Keys P w A { s with heap:=h' } kd vs)
  (h:∀ out:Array Value,out.toList.Perm vs→R (.done (.ret .none)) { s with heap:=sortedHeap s.heap a vs out }):wpAny (model P w) A (Builtin.«list.sort» ⟨[.ref a],[]⟩) R E s:=by
 have ha:a < s.heap.objs.size:=Heap.lt_size ho
 rw[list_sort_plain]
 refine wpAny_bind (listItems_at ho rfl (wpAny_bind (listUpdate_at ho rfl ?_)))
 obtain⟨e1,ho1⟩:∃ e,(s.heap.update a (Obj.mapSeq fun _=>#[])).get? a=some (seqObj "list" #[] e):=⟨_,get?_update_seq ho fun _=>#[]⟩
 refine wpAny_bind (seqEpoch_at ho1 rfl (wpAny_bind (wpAny_newTuple (wpAny_bind (wpAny_newList (wpAny_holding ?_))))))
 show wpAny (model P w) A _ R E { s with heap:=((s.heap.update a (Obj.mapSeq fun _=>#[])).push (seqObj "tuple" vs.toArray 0)).push (seqObj "list" #[] 0) }
 have ho6:(((s.heap.update a (Obj.mapSeq fun _=>#[])).push (seqObj "tuple" vs.toArray 0)).push (seqObj "list" #[] 0)).get? a=some (seqObj "list" #[] e1):=Heap.get?_push_of_some _ (Heap.get?_push_of_some _ ho1)
 have kp:=hK (((s.heap.update a (Obj.mapSeq fun _=>#[])).push (seqObj "tuple" vs.toArray 0)).push (seqObj "list" #[] 0)) fun b o hb q=>
  Heap.get?_push_of_some _ (Heap.get?_push_of_some _ (by rw[Heap.get?_update_other _ _ (Ne.symm hb)];exact q))
 have fin:∀ t:SortSt,(arrOf t).Perm (pairsOf vs)→R (.done (.ret .none)) { s with heap:=sortedHeap s.heap a vs ((arrOf t).map (·.2)) }:=fun t hp=>h _ (pairs_perm hp)
 have sz:vs.toArray.size=vs.length:=List.size_toArray
 dsimp only
 have szp:∀ t:SortSt,(arrOf t).Perm (pairsOf vs)→((arrOf t).map (·.2)).size≤sizeLine+1:=fun t hp=>by
  rw[Array.size_map,hp.size_eq,pairsOf_size,sizeLine_eq]
  omega
 by_cases c2:vs.toArray.size < 2
 ·rw[if_pos c2,if_pos c2]
  refine wpAny_bind (wpAny_pure ?_)
  rw[StateT.run_pure]
  refine wpAny_bind (wpAny_pure ?_)
  dsimp only
  refine wpAny_bind (seqEpoch_at ho6 rfl (wpAny_bind (listUpdate_at ho6 rfl ?_ (hsz2:=szp (SortSt.mk' general' (vs.toArray.zip vs.toArray) #[] 7 none) (Array.Perm.refl _)))))
  rw[if_neg (by simp)]
  exact wpAny_pure (fin (SortSt.mk' general' (vs.toArray.zip vs.toArray) #[] 7 none) (Array.Perm.refl _))
 ·rw[if_neg c2,if_neg c2]
  refine wpAny_bind (kp.kind (by omega) _ _ ?_)
  have cm:Cmp P w A { s with heap:=((s.heap.update a (Obj.mapSeq fun _=>#[])).push (seqObj "tuple" vs.toArray 0)).push (seqObj "list" #[] 0) } kd ((pairsOf vs).toList.map (·.1)):=by
   rw[pairs_fst]
   exact kp.cmp
  have run:=runs_any (E:=E) (Q:=fun _ t=>(arrOf t).Perm (pairsOf vs)∧failedOf t=none) cm (st:=SortSt.mk' kd (vs.toArray.zip vs.toArray) #[] 7 none) ⟨Array.Perm.refl _,rfl,rfl,rfl⟩ (by rw[pairsOf_size];omega) (by rw[pairsOf_size];exact h64) fun t p f=>⟨p,f⟩
  refine wpAny_bind (wpAny_mono run (fun r s' z=>?_) fun _ _ e=>e)
  obtain⟨⟨⟩,t⟩:=r
  obtain⟨rfl,hp,hf⟩:=z
  dsimp only
  refine wpAny_bind (seqEpoch_at ho6 rfl (wpAny_bind (listUpdate_at ho6 rfl ?_ (hsz2:=szp t hp))))
  rw[hf]
  dsimp only
  rw[if_neg (by simp)]
  exact wpAny_pure (fin t hp)
theorem sorted_any{l:Addr}{vs:List Value}{Q:Value→Shared→Prop}(hl:s.heap.IsList l vs.toArray)(h64:vs.length < 64)
  (hK:∀ A' h',(∀ b o,s.heap.get? b=some o→h'.get? b=some o)→Keys P w A' { s with heap:=h' } kd vs)
  (h:∀ out:Array Value,out.toList.Perm vs→Q (.ref (s.heap.objs.size+1)) { s with heap:=sortedAll s.heap vs out }):wpAny (model P w) A (call (.builtin "sorted") [.ref l]) Q E s:=by
 refine Calls.call_function_entry kind_sorted plain_sorted entry_sorted (args_sorted1 _) ?_
 unfold Builtin.«sorted»
 refine wpAny_bind (m:=checkCount "sorted" 1 1 _) (wpAny_pure (wpAny_bind (collect_list hl ?_ (by rw[sizeLine_eq];omega))))
 refine wpAny_bind (wpAny_newList ?_)
 have sz:((s.heap.push (seqObj "list" #[] 0)).update s.heap.objs.size (Obj.mapSeq (· ++ vs.toArray))).objs.size=s.heap.objs.size+1:=by rw[Heap.size_update,size_push']
 have hoL:(((s.heap.push (seqObj "list" #[] 0)).update s.heap.objs.size (Obj.mapSeq (· ++ vs.toArray))).push (seqObj "list" vs.toArray 0)).get? (s.heap.objs.size+1)=some (seqObj "list" vs.toArray 0):=sz ▸ Heap.get?_push_size _ rfl
 show wpAny _ _ _ _ _ { s with heap:=((s.heap.push (seqObj "list" #[] 0)).update s.heap.objs.size (Obj.mapSeq (· ++ vs.toArray))).push (seqObj "list" vs.toArray 0) }
 rw[sz]
 refine wpAny_bind (wpAny_holding (wpAny_call_entry slot_list_sort ⟨_,hoL,rfl⟩ entry_list_sort (sort_any (kd:=kd) hoL h64 (fun h' k=>hK _ h' fun b o q=>?_) fun out p=>⟨_,rfl,wpAny_pure ⟨_,rfl,h out p⟩⟩) (args_list_sort _)))
 have hb:b < s.heap.objs.size:=Heap.lt_size q
 refine k b o (Nat.ne_of_lt (Nat.lt_succ_of_lt hb)) (Heap.get?_push_of_some _ ?_)
 rw[Heap.get?_update_other _ _ (Nat.ne_of_lt hb).symm]
 exact Heap.get?_push_of_some _ q
end
end L2
namespace L2
open PySem PySem.Spec PyProof.Rows
theorem first_eq(v:Value):firstOfTuple' v=(do
  if(← typeOf v) != .type "tuple" then return none
  return (← Builtin.List.listItems v)[0]?):=rfl
theorem keyLt_tup(f:Bool)(x y:Value):keyLt' (tuples' f) x y=(do
  let xs ← Builtin.List.listItems x;let ys ← Builtin.List.listItems y
  for ((p,q),i) in (xs.toList.zip ys.toList).zipIdx do
   if !(← eqBool p q) then return ← oneLt' (f && i == 0) p q
  return decide (xs.size < ys.size)):=rfl
section
variable{P:Program}{w:World}{A:Around}{E:Value→Shared→Prop}{s:Shared}
theorem wp_mapM{M:Model}{β:Type}{f:Value→Sem β}{g:Value→β}:∀{vs:List Value} {Q:List β→Shared→Prop},(∀ x∈vs,∀(Q:β→Shared→Prop),Q (g x) s→wpAny M A (f x) Q E s)→Q (vs.map g) s→wpAny M A (vs.mapM f) Q E s
 | [],Q,_,h=>by
  rw[List.mapM_nil]
  exact wpAny_pure h
 | x :: r,Q,hx,h=>by
  rw[List.mapM_cons]
  exact wpAny_bind (hx x List.mem_cons_self _ (wpAny_bind (wp_mapM (fun y hy=>hx y (List.mem_cons_of_mem _ hy)) (wpAny_pure h))))
theorem lt_ints{f:Bool}{a b:Int}{t u:Tok}{Q:Bool→Shared→Prop}(h:∀ b,Q b s):wpAny (model P w) A (oneLt' f (.int a t) (.int b u)) Q E s:=by
 cases f with
 | true=>exact oneLt_int (h _)
 | false=>
  rw[oneLt'_eq]
  rw[if_neg Bool.false_ne_true]
  refine wpAny_bind (wpAny_richCompare_same (T:="int") (typeIs_int s a t) (typeIs_int s b u) slot_int_lt (call_int_lt ⟨nofun,?_⟩))
  exact wpAny_truthy_bool (h _)
def PairAt(h:Heap)(v:Value):Prop:=∃(a:Addr) (i j:Int) (t u:Tok) (o:Obj) (n:Nat),v = .ref a∧h.get? a=some o∧o.cls = .type "tuple"∧o.data = .seq #[.int i t,.int j u] n
theorem cmp_pairs{vs:List Value}(hp:∀ v∈vs,PairAt s.heap v)(f:Bool):Cmp P w A s (tuples' f) vs:=by
 intro x hx y hy E Q h
 obtain⟨a,i,j,t,u,o,n,rfl,ho,hc,hd⟩:=hp x hx
 obtain⟨a2,i2,j2,t2,u2,o2,n2,rfl,ho2,hc2,hd2⟩:=hp y hy
 rw[keyLt_tup]
 refine wpAny_bind (listItems_at ho hd (wpAny_bind (listItems_at ho2 hd2 ?_)))
 show wpAny (model P w) A (do
  let r ← forIn [((Value.int i t,Value.int i2 t2),0),((Value.int j u,Value.int j2 u2),1)] (none,()) _
  _) Q E s
 rw[List.forIn_cons]
 refine wpAny_bind (wpAny_bind ?_)
 refine wpAny_bind (wpAny_eqBool_int ?_)
 by_cases c:(i == i2)=true
 ·rw[c,if_neg (by decide)]
  refine wpAny_pure ?_
  show wpAny (model P w) A (forIn [((Value.int j u,Value.int j2 u2),1)] ((none,()):Option Bool×Unit) _) _ E s
  rw[List.forIn_cons]
  refine wpAny_bind (wpAny_bind (wpAny_eqBool_int ?_))
  by_cases d:(j == j2)=true
  ·rw[d,if_neg (by decide)]
   refine wpAny_pure ?_
   show wpAny (model P w) A (forIn [] ((none,()):Option Bool×Unit) _) _ E s
   rw[List.forIn_nil]
   exact wpAny_pure (wpAny_pure (h _))
  ·rw[Bool.eq_false_iff.mpr d,if_pos (by decide)]
   exact wpAny_bind (lt_ints fun b=>wpAny_pure (wpAny_pure (wpAny_pure (h b))))
 ·rw[Bool.eq_false_iff.mpr c,if_pos (by decide)]
  exact wpAny_bind (lt_ints fun b=>wpAny_pure (wpAny_pure (wpAny_pure (h b))))
theorem kind_pairs{vs:List Value}(hp:∀ v∈vs,PairAt s.heap v)(h2:2≤vs.length){Q:SortKind→Shared→Prop}(h:Q (tuples' true) s):wpAny (model P w) A (keyKind' vs.toArray) Q E s:=by
 rw[keyKind'_eq,List.mapM_toArray]
 obtain⟨g,hg⟩:∃ g:Value→Option Value,∀ v∈vs,∃(i:Int) (t:Tok),g v=some (.int i t)∧∀(Q:Option Value→Shared→Prop),Q (g v) s→wpAny (model P w) A (firstOfTuple' v) Q E s:=by
  have all:∀ v∈vs,∃ y:Option Value,∃(i:Int) (t:Tok),y=some (.int i t)∧∀(Q:Option Value→Shared→Prop),Q y s→wpAny (model P w) A (firstOfTuple' v) Q E s:=by
   intro v hv
   obtain⟨a,i,j,t,u,o,n,rfl,ho,hc,hd⟩:=hp v hv
   refine⟨some (.int i t),i,t,rfl,fun Q q=>?_⟩
   rw[first_eq]
   refine wpAny_bind (wpAny_typeOf (T:="tuple") ⟨o,ho,hc⟩ ?_)
   rw[if_neg (by decide)]
   exact wpAny_bind (listItems_at ho hd (wpAny_pure q))
  refine⟨fun v=>if hv:v∈vs then(all v hv).choose else none,fun v hv=>?_⟩
  dsimp only
  rw[dif_pos hv]
  exact(all v hv).choose_spec
 refine wpAny_bind ?_
 rw[map_eq_pure_bind]
 refine wpAny_bind (wp_mapM (g:=g) (fun x hx Q q=>(hg x hx).choose_spec.choose_spec.2 Q q) (wpAny_pure ?_))
 have e1:((vs.map g).toArray.all fun x=>x.isSome)=true:=by
  rw[List.all_toArray,List.all_map,List.all_eq_true]
  intro v hv
  obtain⟨i,t,e,_⟩:=hg v hv
  show(g v).isSome=true
  rw[e]
  rfl
 rw[if_pos e1]
 refine wpAny_bind (wpAny_rule (wpAny_bind ?_))
 rw[oneTypeOnly'_eq]
 have allI:∀ x∈(vs.map g).filterMap id,∃(i:Int) (t:Tok),x = .int i t:=by
  intro x hx
  obtain⟨y,hy,e⟩:=List.mem_filterMap.mp hx
  obtain⟨v,hv,rfl⟩:=List.mem_map.mp hy
  obtain⟨i,t,e2,_⟩:=hg v hv
  have e3:g v=some x:=e
  rw[e2] at e3
  cases e3
  exact⟨i,t,rfl⟩
 have ne:∃ x r,(vs.map g).filterMap id=x :: r:=by
  cases vs with
  | nil=>exact absurd h2 (by decide)
  | cons v r=>
   obtain⟨i,t,e2,_⟩:=hg v List.mem_cons_self
   refine⟨.int i t,(r.map g).filterMap id,?_⟩
   rw[List.map_cons,List.filterMap_cons]
   rw[e2]
   rfl
 have ea:(Array.filterMap id (vs.map g).toArray)=((vs.map g).filterMap id).toArray:=by simp
 rw[ea]
 generalize (vs.map g).filterMap id=zs at allI ne
 obtain⟨x,r,rfl⟩:=ne
 refine wpAny_bind ?_
 rw[List.mapM_toArray,map_eq_pure_bind]
 refine wpAny_bind (wp_mapM (g:=fun _=>Value.type "int") (fun y hy Q q=>?_) (wpAny_pure ?_))
 ·obtain⟨i,t,rfl⟩:=allI y hy
  exact wpAny_typeOf (typeIs_int s i t) q
 ·have hall:(((x :: r).map fun _=>Value.type "int").toArray.all fun y=>y == Value.type "int")=true:=by
   rw[List.all_toArray,List.all_map,List.all_eq_true]
   intro _ _
   rfl
  have h0:((x :: r).map fun _=>Value.type "int").toArray[0]? = some (Value.type "int"):=rfl
  rw[h0]
  dsimp only
  rw[hall]
  exact wpAny_pure (wpAny_pure h)
theorem keys_pairs{vs:List Value}(hp:∀ v∈vs,PairAt s.heap v):Keys P w A s (tuples' true) vs:=⟨fun h2 E Q q=>kind_pairs hp h2 q,cmp_pairs hp true⟩
end
theorem call_sorted2{X:Cx}:CallR X (.builtin "sorted") (fun xs H Q=>∃(a:Addr) (ps:List Addr),xs=[.ref a]∧SqL X.K H a (ps.map V.ref)∧ps.length < 64∧(∀ p∈ps,∃ i j:Int,SqT X.K H p [.int i,.int j]) ∧
  ∀(l:Addr) (qs:List Addr),H l=none→qs.Perm ps→Q (.ref l) (upd H l (.lst (qs.map V.ref)))):=by
 intro pins s σ H xs us Q I r h
 obtain⟨a,ps,rfl,hS,h64,hP,q⟩:=h
 obtain⟨u,rfl,ru⟩:=vals1 r
 cases ru
 obtain⟨its,vi,pl,hz⟩:=I.list hS
 have ei:∀(ps:List Addr) (its:List Value),Vals (ps.map V.ref) its→its=ps.map Value.ref:=by
  intro ps
  induction ps with
  | nil=>intro its z;cases z;rfl
  | cons p r ih=>
   intro its z
   cases z with
   | cons z1 z2=>
    have e:_=Value.ref p:=z1
    rw[e,ih _ z2]
    rfl
 have e:=ei ps its vi
 subst e
 have pairs:∀ v∈ps.map Value.ref,PairAt s.heap v:=by
  intro v hv
  obtain⟨p,hp,rfl⟩:=List.mem_map.mp hv
  obtain⟨i,j,hT⟩:=hP p hp
  obtain⟨its2,v2,⟨o,ho,hc,n,hd⟩,_⟩:=I.tuple hT
  cases v2 with
  | cons a1 a2=>
   cases a2 with
   | cons b1 b2=>
    cases b2
    obtain⟨t,rfl⟩:=a1
    obtain⟨u,rfl⟩:=b1
    exact⟨p,i,j,t,u,o,n,rfl,ho,hc,hd⟩
 refine sorted_any (kd:=tuples' true) (isL_of pl) (by rw[List.length_map];exact h64) (fun A' h' k=>keys_pairs fun v hv=>?_) fun out hp=>?_
 ·obtain⟨p,i,j,t,u,o,n,rfl,ho,hc,hd⟩:=pairs v hv
  exact⟨p,i,j,t,u,o,n,rfl,k _ _ ho,hc,hd⟩
 ·obtain⟨qs,eq,pq⟩:∃ qs:List Addr,out.toList=qs.map Value.ref∧qs.Perm ps:=by
   have un:∀ l:List Value,(∀ v∈l,∃ p,v=Value.ref p)→∃ qs:List Addr,l=qs.map Value.ref:=by
    intro l
    induction l with
    | nil=>intro _;exact⟨[],rfl⟩
    | cons v r ih=>
     intro hv
     obtain⟨p,rfl⟩:=hv v List.mem_cons_self
     obtain⟨qs,rfl⟩:=ih fun y hy=>hv y (List.mem_cons_of_mem _ hy)
     exact⟨p :: qs,rfl⟩
   obtain⟨qs,e⟩:=un out.toList fun v hv=>by
    obtain⟨p,_,rfl⟩:=List.mem_map.mp (hp.mem_iff.mp hv)
    exact⟨p,rfl⟩
   refine⟨qs,e,?_⟩
   rw[e] at hp
   have z:=hp.map fun v=>match v with | .ref p=>p | _=>0
   rw[List.map_map,List.map_map] at z
   have c:((fun v=>match v with | .ref p=>p | _=>0) ∘ Value.ref:Addr→Addr)=id:=rfl
   rwa [c,List.map_id,List.map_id] at z
  obtain⟨e,he⟩:=sortedAll_at s.heap (ps.map Value.ref) out
  have hf:H (s.heap.objs.size+1)=none:=I.hok.fresh (Nat.le_succ _)
  have vq:∀ qs:List Addr,Vals (qs.map V.ref) (qs.map Value.ref):=by
   intro qs
   induction qs with
   | nil=>exact .nil
   | cons p r ih=>exact .cons rfl ih
  refine⟨.ref (s.heap.objs.size+1),upd H (s.heap.objs.size+1) (.lst (qs.map V.ref)),I.laid (t':=s.toks) (fun b u q=>sortedAll_old q) (Nat.le_succ _) ⟨?_,qs.map Value.ref,e,vq qs,?_⟩,rfl,q _ qs hf pq⟩
  ·rw[List.length_map,pq.length_eq,sizeLine_eq]
   omega
  ·rw[he,← eq]
end L2
namespace L2
open PySem PySem.Spec PyProof.Rows
section
variable{X:Cx}
theorem call_sum(hc:X.calm=true):CallR X (.builtin "sum") (fun xs H Q=>∃(a:Addr) (ns:List Int),xs=[.ref a]∧SqL X.K H a (ns.map V.int)∧Q (.int ns.sum) H):=by
 intro pins s σ H xs us Q I r h
 obtain⟨a,ns,rfl,hS,q⟩:=h
 obtain⟨u,rfl,ru⟩:=vals1 r
 cases ru
 obtain⟨its,vi,pl,hz⟩:=I.list hS
 have hi:=intsAre_of vi
 obtain⟨xs,hx⟩:=hi.allInts.items
 have hl:s.heap.IsList a (intItems xs):=hx ▸ isL_of pl
 refine sum_intListG (I.ok.hd hc) hl fun h' tk t' hk=>?_
 have e1:ns=xs.toList.map (·.1):=by
  rw[← nums_intItems,← hx]
  exact hi.numsOf.symm
 have e2:preSum (numAt xs) xs.size=ns.sum:=by
  rw[e1,preSum_eq,List.take_of_length_le (by simp)]
 rw[e2]
 exact⟨.int ns.sum,H,I.kept hk,⟨_,rfl⟩,q⟩
end
section
variable{X:Cx}
end
end L2
namespace L2
open PySem PySem.Spec PyProof.Rows
section
open PySem.SeqAt
open PySem.AutoSeq1 (wpAny_loadPart')
open PySem.MeetsSeq PySem.MeetsSeq2 PySem.MeetsSeq3
theorem drop_ints{xs:Array Value}{i:Nat}{ns:List Int}(h:IntsAre (xs.toList.drop i) ns):(ns=[]∧xs[((i:Nat):Int).toNat]? = none∧xs.size≤i)∨∃(c:Int) (t:Tok) (r:List Int),ns=c :: r∧xs[((i:Nat):Int).toNat]? = some (.int c t)∧i < xs.size∧IntsAre (xs.toList.drop (i+1)) r:=by
 by_cases lt:i < xs.size
 ·right
  have e:xs.toList.drop i=xs[i] :: xs.toList.drop (i+1):=by simp [List.drop_eq_getElem_cons,lt]
  rw[e] at h
  generalize xs.toList.drop (i+1)=tl at h ⊢
  generalize hv:xs[i]=v at h
  cases h with
  | cons c t h2=>exact⟨c,t,_,rfl,by rw[Int.toNat_natCast,getElem?_pos xs i lt,hv],lt,h2⟩
 ·left
  have e:xs.toList.drop i=[]:=List.drop_eq_nil_of_le (by simpa using lt)
  rw[e] at h
  cases h
  exact⟨rfl,by simp;omega,by omega⟩
theorem lt_loop(l b:Addr)(xs ys:Array Value)(n n2:Nat)(dd dd2:Option Addr)(sl sl2:Array (Option Value)):∀(k i:Nat) (ns ms:List Int),ns.length=k→IntsAre (xs.toList.drop i) ns→IntsAre (ys.toList.drop i) ms→i≤xs.size→i≤ys.size →
  Meets (Builtin.«list.__eq__.loop» ⟨[.ref l,.ref b,rawInt ((i:Nat):Int),rawInt 0],[]⟩) (fun A R s=>s.heap.get? l=some { cls:=.type "list",dict:=dd,data:=.seq xs n,slots:=sl } ∧
   s.heap.get? b=some { cls:=.type "list",dict:=dd2,data:=.seq ys n2,slots:=sl2 }∧R (.ok (.ret (.bool (HT.lexLt ns ms)))) s):=by
 intro k
 induction k with
 | zero=>
  intro i ns ms hk hx hy bx bY prog w A R s h
  obtain⟨hp,g,d,tk,os⟩:=s
  obtain⟨hl,hb,h⟩:=h
  have e0:ns=[]:=List.eq_nil_of_length_eq_zero hk
  subst e0
  rcases drop_ints hx with⟨_,i1,lx⟩ | ⟨c,t,r,q,_⟩
  ·have h2:HT.lexLt [] ms=decide (xs.size < ys.size):=by
    rcases drop_ints hy with⟨rfl,_,ly⟩ | ⟨c,t,r,rfl,_,ly,_⟩
    ·exact(decide_eq_false (by omega)).symm
    ·exact(decide_eq_true (by omega)).symm
   rw[h2] at h
   wp_walk using wpAny_loadPart' hl,wpAny_loadPart' hb
   rw[i1]
   wp_walk using wpAny_loadPart' hl,wpAny_loadPart' hb
   exact h
  ·cases q
 | succ k ih=>
  intro i ns ms hk hx hy bx bY prog w A R s h
  obtain⟨hp,g,d,tk,os⟩:=s
  obtain⟨hl,hb,h⟩:=h
  rcases drop_ints hx with⟨rfl,_,_⟩ | ⟨c,t,r,rfl,i1,lx,hx2⟩
  ·cases hk
  rcases drop_ints hy with⟨rfl,i2,ly⟩ | ⟨c2,t2,r2,rfl,i2,ly,hy2⟩
  ·rw[show HT.lexLt (c :: r) []=decide (xs.size < ys.size) from(decide_eq_false (by omega)).symm] at h
   wp_walk using wpAny_loadPart' hl,wpAny_loadPart' hb
   rw[i1,i2]
   wp_walk using wpAny_loadPart' hl,wpAny_loadPart' hb
   exact h
  ·wp_walk using wpAny_loadPart' hl,wpAny_loadPart' hb
   rw[i1,i2]
   refine wpAny_bind (wpAny_eqBool_int ?_)
   have up:((i:Int)+1)=((i+1:Nat):Int):=by omega
   by_cases e:c=c2
   ·subst e
    rw[HT.lexLt_cons,if_pos rfl] at h
    rw[beq_self_eq_true]
    wp_walk
    rw[up]
    refine⟨plainId_quiet plain_eq_loop _,codeAny_builtin entry_eq_loop ?_⟩
    rw[Around.under_plainId plain_eq_loop _]
    exact ih (i+1) r r2 (by simpa using hk) hx2 hy2 lx ly prog w A R _ ⟨hl,hb,h⟩
   ·rw[HT.lexLt_cons,if_neg e] at h
    rw[show(c == c2)=false from beq_eq_false_iff_ne.mpr e]
    wp_walk using wpAny_loadPart' hl,wpAny_loadPart' hb
    rw[i1,i2]
    have hr:=HT.rcLt_int A.in1 ⟨hp,g,d,tk,os⟩ c t c2 t2 prog w
    wp_walk using hr
    exact h
theorem list_lt_ints(l b:Addr)(xs ys:Array Value)(n n2:Nat)(dd dd2:Option Addr)(sl sl2:Array (Option Value))(ns ms:List Int)(hx:IntsAre xs.toList ns)(hy:IntsAre ys.toList ms) :
  Meets (Builtin.«list.__lt__» ⟨[.ref l,.ref b],[]⟩) (fun A R s=>s.heap.get? l=some { cls:=.type "list",dict:=dd,data:=.seq xs n,slots:=sl } ∧
   s.heap.get? b=some { cls:=.type "list",dict:=dd2,data:=.seq ys n2,slots:=sl2 }∧R (.ok (.ret (.bool (HT.lexLt ns ms)))) s):=by
 intro prog w A R s h
 obtain⟨hp,g,d,tk,os⟩:=s
 obtain⟨hl,hb,h⟩:=h
 have f3:=AutoSeq1.sub_list_list
 wp_walk using wpAny_loadPart' hl,wpAny_loadPart' hb
 refine⟨plainId_quiet plain_eq_loop _,codeAny_builtin entry_eq_loop ?_⟩
 rw[Around.under_plainId plain_eq_loop _]
 exact lt_loop l b xs ys n n2 dd dd2 sl sl2 _ 0 ns ms rfl hx hy (Nat.zero_le _) (Nat.zero_le _) prog w A R _ ⟨hl,hb,h⟩
end
section
variable{X:Cx}
end
end L2
namespace L2
open PySem PySem.Spec PyProof.Rows
theorem comp_some{te:TE}{σ0:St}{H1:Hp}{Q:V→Hp→Prop}{lo:Int}{n:Nat}(G:Nat→V→Hp→Prop)(hn:n≤sizeLine)(hG:∀ i v H H',G i v H→Same H H'→G i v H')(hU:∀ i v H l xs ys,G i v H→H l=some (.lst xs)→G i v (upd H l (.lst ys)))
  (hE:∀ i H,i < n→Same H1 H→∀ R:V→Hp→Prop,(∀ v H',Same H H'→G i v H'→R v H')→te (σ0.set 0 (some (.int (lo+(i:Nat))))) H R)
  (hQ:∀ l H vs,Same H1 H→H1 l=none→H l=some (.lst vs)→vs.length=n→(∀ i v,vs[i]? = some v→G i v H)→Q (.ref l) H):tCompR (gName 0) tYes te σ0 (Itr lo n) H1 Q:=by
 intro l hl
 refine⟨fun i m σ H=>m=n - i∧i≤n∧Same H1 H∧(∃ vs,H l=some (.lst vs)∧vs.length=i∧∀ j v,vs[j]? = some v→G j v H)∧∀ o,σ.set 0 o=σ0.set 0 o,⟨n,by simp,Nat.zero_le _,same_upd hl _,⟨[],upd_same,rfl,fun j v z=>by simp at z⟩,fun _=>rfl⟩,?_⟩
 rintro i m σ H ⟨rfl,hi,sm,⟨vs,hL,hvl,hvs⟩,hσ⟩
 by_cases lt:i < n
 ·refine .inr ⟨lt,fun x H' y=>?_⟩
  obtain⟨rfl,rfl⟩:=y
  unfold gName tYes
  dsimp only
  rw[hσ,if_pos rfl]
  refine hE i H' lt sm _ fun v H3 s3 hv=>⟨vs,s3 _ _ hL,by omega,n - (i+1),by omega,rfl,lt,same_upd2 hl (sm.trans s3) _,⟨vs++[v],upd_same,by rw[List.length_append,hvl];rfl,fun j u hj=>?_⟩,fun o=>List.set_set _⟩
  by_cases c:j < vs.length
  ·rw[List.getElem?_append_left c] at hj
   exact hU j u H3 l _ _ (hG j u H' H3 (hvs j u hj) s3) (s3 _ _ hL)
  ·rw[List.getElem?_append_right (by omega)] at hj
   have e:j - vs.length=0:=by
    cases q:j - vs.length with
    | zero=>rfl
    | succ k=>rw[q] at hj;simp at hj
   rw[e] at hj
   have e2:v=u:=by simpa using hj
   subst e2
   have e3:j=i:=by omega
   subst e3
   exact hU j v H3 l _ _ hv (s3 _ _ hL)
 ·have e:i=n:=by omega
  subst e
  exact .inl ⟨Nat.le_refl _,hQ l H vs sm hl hL hvl hvs⟩
end L2
namespace L2
open PySem PySem.Spec PyProof.Rows
section
variable{X:Cx}{pins:List (Addr×Obj)}{σ:St}{H:Hp}{s:Shared}
end
section
variable{X:Cx}
theorem call_maxL(hc:X.calm=true):CallR X (.builtin "max") (fun xs H Q=>∃(a:Addr) (ns:List Int),xs=[.ref a]∧SqL X.K H a (ns.map V.int)∧0 < ns.length∧∀ M,M∈ns→(∀ k∈ns,k≤M)→Q (.int M) H):=by
 intro pins s σ H xs us Q I r h
 obtain⟨a,ns,rfl,hS,hn,q⟩:=h
 obtain⟨u,rfl,ru⟩:=vals1 r
 cases ru
 obtain⟨its,vi,pl,hz⟩:=I.list hS
 have hi:=intsAre_of vi
 obtain⟨xs,hx⟩:=hi.allInts.items
 have hl:s.heap.IsList a (intItems xs):=hx ▸ isL_of pl
 have hns:ns=xs.toList.map (·.1):=by
  rw[← nums_intItems,← hx]
  exact hi.numsOf.symm
 have hsz:0 < xs.size:=by
  rw[hns,List.length_map,Array.length_toList] at hn
  exact hn
 refine max_intList (I.ok.hd hc) hl hsz fun v h' tk hv hk=>?_
 obtain⟨t,rfl⟩:=intItems_at hv
 obtain⟨g1,g2⟩:=argBest_gt (numAt xs) (xs.size - 1)
 refine⟨.int _,H,I.kept hk,⟨_,rfl⟩,q _ ?_ fun k hk'=>?_⟩
 ·rw[hns,numAt_eq]
  exact getD_mem (by rw[List.length_map,Array.length_toList];omega)
 ·rw[hns] at hk'
  obtain⟨j,hj,rfl⟩:=mem_getD hk'
  rw[List.length_map,Array.length_toList] at hj
  rw[← numAt_eq]
  exact g2 j (by omega)
theorem mt_index:MtR X "list.index" (fun x xs H Q=>∃(a:Addr) (k:Int) (ns:List Int) (j:Nat),x = .ref a∧xs=[.int k]∧SqL X.K H a (ns.map V.int)∧ns.length≤1000∧ns[j]? = some k∧(∀ m < j,ns[m]?≠some k)∧Q (.int (j:Nat)) H):=by
 intro pins s σ H x xs v us Q I rx rv h
 obtain⟨a,k,ns,j,rfl,rfl,hS,hl,hj,hno,q⟩:=h
 cases rx
 obtain⟨u,rfl,t,rfl⟩:=vals1 rv
 obtain⟨its,vi,pl,hz⟩:=I.list hS
 have hi:=intsAre_of vi
 obtain⟨⟨cls,dd,data,sl⟩,ho,hc,n,hd⟩:=isL_of pl
 simp only at hc hd
 subst hc hd
 have len:its.length=ns.length:=hi.length
 have at_:∀ m (hm:m < its.toArray.size),isInt k its.toArray[m]=decide (ns[m]? = some k):=fun m hm=>by
  have hm':m < ns.length:=by rw[← len];simpa using hm
  obtain⟨t0,e0⟩:=PyProof.Rows.IntsAre.get hi m ns[m] (List.getElem?_eq_getElem hm')
  have e1:its.toArray[m] = .int ns[m] t0:=by
   have hm2:m < its.length:=by simpa using hm
   have e2:its[m]? = some its[m]:=List.getElem?_eq_getElem hm2
   have e3:its[m] = .int ns[m] t0:=by
    rw[e0] at e2
    exact(Option.some.inj e2).symm
   simpa using e3
  rw[e1,List.getElem?_eq_getElem hm']
  show(_ == _)=_
  by_cases c:ns[m]=k
  ·rw[c]
   simp
  ·have c2:¬ k=ns[m]:=fun z=>c z.symm
   simp [c,c2]
 have jl:j < its.toArray.size:=by
  have:=(List.getElem?_eq_some_iff.mp hj).1
  simp [len,this]
 refine call_meets PySem.F.slot_list_index ⟨_,ho,rfl⟩ PySem.F.entry_list_index (PySem.F.args_list_index_2 _ _) (PySem.SeqAt.list_indexAt a its.toArray n dd sl (.int k t) (isInt k) j jl ?_ ?_ ?_) ⟨ho,fun y hy=>(eq_isInt k t hi y (by simpa using hy)).at _ _,⟨.int (j:Nat),H,I.tok _,⟨_,rfl⟩,q⟩⟩
 ·have:ns.length≤1000:=hl
  have:=(List.getElem?_eq_some_iff.mp hj).1
  omega
 ·rw[at_ j jl,hj]
  exact decide_eq_true rfl
 ·intro m hm hmj
  rw[at_ m hm]
  exact decide_eq_false (hno m hmj)
end
end L2
namespace L2
open PySem PySem.Spec PyProof.Rows
theorem op_neNil{X:Cx}(hu:X.A.units+64 < cLine):OpR X (compareOp .NotEq) (fun x y H Q=>∃(a b:Addr) (xs:List V),x = .ref a∧y = .ref b∧SqL X.K H a xs∧SqL X.K H b []∧Q (.bl (!xs.isEmpty)) H):=by
 intro pins s σ H x y v u Q I rx ry h
 obtain⟨a,b,xs,rfl,rfl,hA,hB,q⟩:=h
 cases xs with
 | nil=>exact op_neL hu pins s σ H _ _ v u Q I rx ry ⟨a,b,[],[],rfl,rfl,hA,hB,q⟩
 | cons x0 xr=>
  cases rx
  cases ry
  obtain⟨ia,va,pa,_⟩:=I.list hA
  obtain⟨ib,vb,pb,_⟩:=I.list hB
  have l1:=va.length
  have l2:=vb.length
  obtain⟨⟨cls,dd,data,sl⟩,ho,hc,n,hd⟩:=isL_of pa
  obtain⟨⟨cls2,dd2,data2,sl2⟩,ho2,hc2,n2,hd2⟩:=isL_of pb
  simp only at hc hd hc2 hd2
  subst hc hd hc2 hd2
  refine richCompare_meets_room (op:=.NotEq) ⟨_,ho,rfl⟩ ⟨_,ho2,rfl⟩ PySem.F.slot_list_ne PySem.F.entry_list_ne (PySem.F.args_list_ne_2 _ _) (PySem.SeqAt.list_ne_lengthsAt a b ia.toArray ib.toArray n n2 dd dd2 sl sl2 ?_) ⟨ho,ho2,(fun z=>nomatch z),.bl true,H,I,rfl,q⟩ (by omega)
  simp only[List.size_toArray,← l1,← l2,List.length_cons,List.length_nil]
  simp
end L2
namespace L2
open PySem PySem.Spec PyProof.Rows
theorem rcGt_int(A:Around)(s:Shared)(a:Int)(t:Tok)(c:Int)(u:Tok)(prog:Program)(w:World)(E:Value→Shared→Prop)(Q:Value→Shared→Prop)(h:Q (.bool (decide (c < a))) s) :
  wpAny (model prog w) A (richCompare .Gt (.int a t) (.int c u)) Q E s:=
 (PyProof.Rows.gt_int h:wpAny (model prog w) A (compareOp .Gt (.int a t) (.int c u)) Q E s)
section
open PySem.SeqAt
open PySem.AutoSeq1 (wpAny_loadPart')
open PySem.MeetsSeq PySem.MeetsSeq2 PySem.MeetsSeq3
theorem tuple_gt_ints(l b:Addr)(items items2:Array Value)(n n2:Nat)(dd dd2:Option Addr)(sl sl2:Array (Option Value))(ns ms:List Int)(hi:IntsAre items.toList ns)(hj:IntsAre items2.toList ms) :
  Meets (Builtin.«tuple.__gt__» ⟨[.ref l,.ref b],[]⟩)
   (fun _ R s=>s.heap.get? l=some { cls:=.type "tuple",dict:=dd,data:=.seq items n,slots:=sl }∧s.heap.get? b=some { cls:=.type "tuple",dict:=dd2,data:=.seq items2 n2,slots:=sl2 } ∧
    R (.ok (.ret (.bool (HT.lexLt ms ns)))) s):=
 .of_wp fun prog w A R s h=>by
  obtain⟨hp,g,d,tk,os⟩:=s;obtain⟨hl,hb,h⟩:=h
  have f2:=AutoSeq1.sub_tuple_tuple
  have z1:items.size=ns.length:=by rw[← hi.length];simp
  have z2:items2.size=ms.length:=by rw[← hj.length];simp
  wp_walk using wpAny_loadPart' hl,wpAny_loadPart' hb,wpAny_forIn_list _ (fun rest b s'=>b.1=none∧s'=⟨hp,g,d,tk,os⟩∧∃(vs ws:List Value) (ns' ms':List Int),rest=vs.zip ws ∧
   IntsAre vs ns'∧IntsAre ws ms'∧ns'.length+items2.size=ms'.length+items.size∧R (.ok (.ret (.bool (HT.lexLt ms' ns')))) ⟨hp,g,d,tk,os⟩) _
  case turn=>
   rintro⟨y,x⟩ rest b s' ⟨hb',rfl,vs,ws,ns',ms',hz,hvi,hwi,hlen,hR⟩
   cases hvi with
   | nil=>rw[List.zip_nil_left] at hz;cases hz
   | cons a t hvi'=>
    cases hwi with
    | nil=>rw[List.zip_nil_right] at hz;cases hz
    | cons c u hwi'=>
     rw[List.zip_cons_cons] at hz
     injection hz with hyx hrest
     injection hyx with hy hx
     subst hy hx
     rw[HT.lexLt_cons] at hR
     simp only[List.length_cons] at hlen
     obtain⟨e,he,hiff⟩:=HT.eqAt_int A.in1 ⟨hp,g,d,tk,os⟩ a t c u
     refine wpAny_bind (he prog w _ _ ?_)
     cases e with
     | true=>
      rw[if_pos (hiff.mp rfl).symm] at hR
      wp_walk
      exact⟨rfl,rfl,_,_,_,_,hrest,hvi',hwi',by omega,hR⟩
     | false=>
      rw[if_neg (fun q=>absurd (hiff.mpr q.symm) Bool.false_ne_true)] at hR
      have hri:=rcGt_int A.in1 ⟨hp,g,d,tk,os⟩ a t c u prog w
      wp_walk using hri
      exact⟨_,rfl,by simpa using hR⟩
  case fin=>
   rintro⟨b1,b2⟩ s' ⟨hb',rfl,vs,ws,ns',ms',hz,hvi,hwi,hlen,hR⟩
   simp only at hb'
   subst hb'
   have hv:HT.lexLt ms' ns'=decide (items2.size < items.size):=by
    cases hvi with
    | nil=>
     cases hwi with
     | nil=>
      simp only[List.length_nil] at hlen
      rw[HT.lexLt_nil_nil]
      exact(decide_eq_false (by omega)).symm
     | cons c u hw=>
      simp only[List.length_nil,List.length_cons] at hlen
      rw[HT.lexLt_cons_nil]
      exact(decide_eq_false (by omega)).symm
    | cons a t hv=>
     cases hwi with
     | nil=>
      simp only[List.length_nil,List.length_cons] at hlen
      rw[HT.lexLt_nil_cons]
      exact(decide_eq_true (by omega)).symm
     | cons c u hw=>
      rw[List.zip_cons_cons] at hz
      cases hz
   rw[hv] at hR
   wp_walk
   exact⟨_,rfl,by simpa [Builtin.Tuple.tupleCompareSizes] using hR⟩
  case h=>
   exact⟨rfl,rfl,items.toList,items2.toList,ns,ms,rfl,hi,hj,by omega,h⟩
end
section
variable{X:Cx}
theorem op_gtT(hu:X.A.units+64 < cLine):OpR X (compareOp .Gt) (fun x y H Q=>∃(a b:Addr) (ns ms:List Int),x = .ref a∧y = .ref b∧SqT X.K H a (ns.map V.int)∧SqT X.K H b (ms.map V.int)∧Q (.bl (HT.lexLt ms ns)) H):=by
 intro pins s σ H x y v u Q I rx ry h
 obtain⟨a,b,ns,ms,rfl,rfl,ha,hb,q⟩:=h
 cases rx
 cases ry
 obtain⟨its,r1,p1,_⟩:=I.tuple ha
 obtain⟨its2,r2,p2,_⟩:=I.tuple hb
 have i1:IntsAre its.toArray.toList ns:=intsAre_of r1
 have i2:IntsAre its2.toArray.toList ms:=intsAre_of r2
 obtain⟨⟨cls,dd,data,sl⟩,ho,hc,n,hd⟩:=id p1
 obtain⟨⟨cls2,dd2,data2,sl2⟩,ho2,hc2,n2,hd2⟩:=id p2
 simp only at hc hd hc2 hd2
 subst hc hd hc2 hd2
 exact richCompare_meets_room (op:=.Gt) ⟨_,ho,rfl⟩ ⟨_,ho2,rfl⟩ PySem.F.slot_tuple_gt PySem.F.entry_tuple_gt (PySem.F.args_tuple_gt_2 _ _) (tuple_gt_ints a b its.toArray its2.toArray n n2 dd dd2 sl sl2 ns ms i1 i2)
  ⟨ho,ho2,(fun z=>nomatch z),.bl (HT.lexLt ms ns),H,I,rfl,q⟩ (by omega)
def eqVs:List V→List V→Bool
 | [],[]=>true
 | x :: xs,y :: ys=>eqV x y && eqVs xs ys
 | _,_=>false
theorem eqVs_all:∀(xs ys:List V),((List.range (min xs.length ys.length)).all (fun j=>eqV (xs.getD j .non) (ys.getD j .non)) && xs.length == ys.length)=eqVs xs ys
 | [],[]=>rfl
 | [],_ :: _=>rfl
 | _ :: _,[]=>rfl
 | x :: xs,y :: ys=>by
  have e:min (x :: xs).length (y :: ys).length=min xs.length ys.length+1:=by simp only[List.length_cons];omega
  rw[e,List.range_succ_eq_map,List.all_cons,List.all_map]
  show _=(eqV x y && eqVs xs ys)
  rw[← eqVs_all xs ys,Bool.and_assoc]
  have e2:((x :: xs).length == (y :: ys).length)=(xs.length == ys.length):=by simp
  rw[e2]
  rfl
theorem flat_at{xs:List V}{us:List Value}(r:Vals xs us)(f:xs.all flatV=true){j:Nat}(h:j < us.toArray.size):RelV (xs.getD j .non) us.toArray[j]∧flatV (xs.getD j .non)=true:=by
 have hj:j < us.length:=by simpa using h
 have hx:j < xs.length:=by rw[r.length];exact hj
 obtain⟨u,e,ru⟩:=r.get (List.getElem?_eq_getElem hx)
 rw[List.getElem?_eq_getElem hj] at e
 have g:xs.getD j .non=xs[j]:=by rw[List.getD_eq_getElem?_getD,List.getElem?_eq_getElem hx];rfl
 rw[g]
 have eu:us[j]=u:=Option.some.inj e
 refine⟨?_,List.all_eq_true.mp f _ (List.getElem_mem hx)⟩
 show RelV xs[j] us.toArray[j]
 rw[List.getElem_toArray,eu]
 exact ru
def rEqF(K:PySem.W.Frag)(tup neg:Bool):R2:=fun x y H Q=>∃(a b:Addr) (xs ys:List V),x = .ref a∧y = .ref b∧(if tup then SqT K H a xs∧SqT K H b ys else SqL K H a xs∧SqL K H b ys)∧xs.all flatV=true∧ys.all flatV=true∧Q (.bl (if neg then !eqVs xs ys else eqVs xs ys)) H
theorem op_neFT(hu:X.A.units+64 < cLine):OpR X (compareOp .NotEq) (rEqF X.K true true):=by
 intro pins s σ H x y v u Q I rx ry h
 obtain⟨a,b,xs,ys,rfl,rfl,⟨ha,hb⟩,fx,fy,q⟩:=h
 cases rx
 cases ry
 obtain⟨its,r1,p1,_⟩:=I.tuple ha
 obtain⟨its2,r2,p2,_⟩:=I.tuple hb
 refine SeqAt.RcNeAt.tuples (e:=fun j=>eqV (xs.getD j .non) (ys.getD j .non)) p1 p2 (by omega) (fun j h1 h2=>eqAt_V (flat_at r1 fx h1).1 (flat_at r2 fy h2).1 (flat_at r1 fx h1).2 (flat_at r2 fy h2).2) _ _ _ _ ⟨.bl _,H,I,rfl,?_⟩
 have z:=eqVs_all xs ys
 rw[r1.length,r2.length] at z
 rw[List.size_toArray,List.size_toArray,z]
 exact q
theorem eqVs_len:∀{xs ys:List V},xs.length≠ys.length→eqVs xs ys=false
 | [],[],h=>absurd rfl h
 | [],_ :: _,_=>rfl
 | _ :: _,[],_=>rfl
 | x :: xs,y :: ys,h=>by
  show(eqV x y && eqVs xs ys)=false
  rw[eqVs_len (xs:=xs) (ys:=ys) (fun z=>h (by simp [z])),Bool.and_false]
theorem op_neFL(hu:X.A.units+64 < cLine):OpR X (compareOp .NotEq) (rEqF X.K false true):=by
 intro pins s σ H x y v u Q I rx ry h
 obtain⟨a,b,xs,ys,rfl,rfl,⟨ha,hb⟩,fx,fy,q⟩:=h
 cases rx
 cases ry
 obtain⟨its,r1,p1,_⟩:=I.list ha
 obtain⟨its2,r2,p2,_⟩:=I.list hb
 by_cases e:xs.length=ys.length
 ·refine SeqAt.RcNeAt.lists (e:=fun j=>eqV (xs.getD j .non) (ys.getD j .non)) p1.isList p2.isList (by simp [← r1.length,← r2.length,e]) (by omega) (fun j h1 h2=>eqAt_V (flat_at r1 fx h1).1 (flat_at r2 fy h2).1 (flat_at r1 fx h1).2 (flat_at r2 fy h2).2) _ _ _ _ ⟨.bl _,H,I,rfl,?_⟩
  have z:=eqVs_all xs ys
  rw[e,Nat.min_self,beq_self_eq_true,Bool.and_true,← e,r1.length] at z
  rw[List.size_toArray,z]
  exact q
 ·refine SeqAt.RcNeAt.lists_lengths p1.isList p2.isList (by simp [← r1.length,← r2.length,e]) (by omega) _ _ _ _ ⟨.bl true,H,I,rfl,?_⟩
  have q':Q (.bl (!eqVs xs ys)) H:=q
  rw[eqVs_len e] at q'
  exact q'
end
theorem comp_someJ{te:TE}{σ0:St}{H1:Hp}{Q:V→Hp→Prop}{J:It}(n:Nat)(xs:Nat→V)(G:Addr→Nat→V→Hp→Prop)(hn:n≤sizeLine)
  (hgo:∀ i H,Same H1 H→i < n→J.go i H) (hstop:∀ H,Same H1 H→J.stop n H) (hy:∀ i H x H',Same H1 H→i < n→J.yld i H x H'→H'=H∧x=xs i)
  (hG:∀ l i v H H',G l i v H→Same H H'→G l i v H') (hU:∀ l i v H xs ys,G l i v H→H l=some (.lst xs)→G l i v (upd H l (.lst ys)))
  (hE:∀ i H l vs,i < n→Same H1 H→H1 l=none→H l=some (.lst vs)→∀ R:V→Hp→Prop,(∀ v H',Same H H'→G l i v H'→R v H')→te (σ0.set 0 (some (xs i))) H R)
  (hQ:∀ l H vs,Same H1 H→H1 l=none→H l=some (.lst vs)→vs.length=n→(∀ i v,vs[i]? = some v→G l i v H)→Q (.ref l) H):tCompR (gName 0) tYes te σ0 J H1 Q:=by
 intro l hl
 refine⟨fun i m σ H=>m=n - i∧i≤n∧Same H1 H∧(∃ vs,H l=some (.lst vs)∧vs.length=i∧∀ j v,vs[j]? = some v→G l j v H)∧∀ o,σ.set 0 o=σ0.set 0 o,⟨n,by simp,Nat.zero_le _,same_upd hl _,⟨[],upd_same,rfl,fun j v z=>by simp at z⟩,fun _=>rfl⟩,?_⟩
 rintro i m σ H ⟨rfl,hi,sm,⟨vs,hL,hvl,hvs⟩,hσ⟩
 by_cases lt:i < n
 ·refine .inr ⟨hgo i H sm lt,fun x H' y=>?_⟩
  obtain⟨rfl,rfl⟩:=hy i H x H' sm lt y
  unfold gName tYes
  dsimp only
  rw[hσ,if_pos rfl]
  refine hE i H' l vs lt sm hl hL _ fun v H3 s3 hv=>⟨vs,s3 _ _ hL,by omega,n - (i+1),by omega,rfl,lt,same_upd2 hl (sm.trans s3) _,⟨vs++[v],upd_same,by rw[List.length_append,hvl];rfl,fun j u hj=>?_⟩,fun o=>List.set_set _⟩
  by_cases c:j < vs.length
  ·rw[List.getElem?_append_left c] at hj
   exact hU l j u H3 _ _ (hG l j u H' H3 (hvs j u hj) s3) (s3 _ _ hL)
  ·rw[List.getElem?_append_right (by omega)] at hj
   have e:j - vs.length=0:=by
    cases q:j - vs.length with
    | zero=>rfl
    | succ k=>rw[q] at hj;simp at hj
   rw[e] at hj
   have e2:v=u:=by simpa using hj
   subst e2
   have e3:j=i:=by omega
   subst e3
   exact hU l j v H3 _ _ hv (s3 _ _ hL)
 ·have e:i=n:=by omega
  subst e
  exact .inl ⟨hstop H sm,hQ l H vs sm hl hL hvl hvs⟩
theorem comp_someL{K:PySem.W.Frag}{te:TE}{σ0:St}{H1:Hp}{Q:V→Hp→Prop}{a:Addr}{xs:List V}(G:Addr→Nat→V→Hp→Prop)(hS:SqL K H1 a xs)(hn:xs.length≤sizeLine)
  (hG:∀ l i v H H',G l i v H→Same H H'→G l i v H') (hU:∀ l i v H xs ys,G l i v H→H l=some (.lst xs)→G l i v (upd H l (.lst ys)))
  (hE:∀ i x H l vs,xs[i]? = some x→Same H1 H→H1 l=none→H l=some (.lst vs)→∀ R:V→Hp→Prop,(∀ v H',Same H H'→G l i v H'→R v H')→te (σ0.set 0 (some x)) H R)
  (hQ:∀ l H vs,Same H1 H→H1 l=none→H l=some (.lst vs)→vs.length=xs.length→(∀ i v,vs[i]? = some v→G l i v H)→Q (.ref l) H):tCompR (gName 0) tYes te σ0 (Itl K a) H1 Q:=by
 have at_:∀ i,i < xs.length→xs[i]? = some (xs.getD i .non):=fun i h=>by
  rw[List.getD_eq_getElem?_getD,List.getElem?_eq_getElem h]
  rfl
 refine comp_someJ xs.length (fun i=>xs.getD i .non) G hn (fun i H sm h=>⟨xs,_,sm.seq hS,at_ i h⟩) (fun H sm=>⟨xs,sm.seq hS,Nat.le_refl _⟩)
  (fun i H x H' sm h y=>⟨y.1,?_⟩) hG hU (fun i H l vs h sm hl hL=>hE i _ H l vs (at_ i h) sm hl hL) hQ
 have e:=y.2 xs (sm.seq hS)
 rw[at_ i h] at e
 exact(Option.some.inj e).symm
theorem Same.seqT{K:PySem.W.Frag}{H H':Hp}{a:Addr}{xs:List V}(e:Same H H')(h:SqT K H a xs):SqT K H' a xs:=by
 rcases h with(h | ⟨o,h⟩) | h
 ·exact .inl (.inl (e _ _ h))
 ·exact .inl (.inr ⟨o,e _ _ h⟩)
 ·exact .inr h
end L2
namespace L2
open PySem PySem.Spec PyProof.Rows
end L2
namespace L2
open PySem PySem.Spec PyProof.Rows
structure Mk0(K:PySem.W.Frag)(C:Addr):Prop where
 makes:PySem.W.makesIn K C=true
 init:PySem.W.findIn K (.ref C) "__init__" = some (some (.builtin "object.__init__"))
 kp:PySem.W.keepIn K (.ref C)=true
def tMake0(C:Addr):TE:=fun σ H Q=>∀ x dx,H x=none→H dx=none→dx≠x→Q (.ref x) (upd (upd H dx (.own x)) x (.ins C dx []))
section
variable{X:Cx}{CX:CXT}{k:Nat}{C:Addr}{E:XK}{x m:Str}{p pos apos:Pos}{e o:Expr}{es:List Expr}{ta:TE}{t:TA}
theorem run_make0{pins:List (Addr×Obj)}{σ:St}{H:Hp}{s:Shared}{Q:VK}(M:Mk0 X.K C)(I:Inv X pins σ H s)
  (h:∀ x dx,H x=none→H dx=none→dx≠x→Q (.ref x) (upd (upd H dx (.own x)) x (.ins C dx []))) :
  wpAny (model X.prog X.w) X.A (call (.ref C) []) (EP X pins σ Q) X.xe s:=by
 have hq:=h (s.heap.objs.size+1) s.heap.objs.size (I.hok.fresh (Nat.le_succ _)) (I.hok.fresh (Nat.le_refl _)) (Nat.ne_of_lt (Nat.lt_succ_self _))
 have I2:=Inv.made (C:=C) I
 have Y:=PySem.W.makes_of (M:=model X.prog X.w) I.kIn M.makes
 refine wpAny_call (make_map0 I.kIn M.makes M.init (fun self=>PySem.W.Looks.of_pure (PySem.W.oi_bind self)) ?_)
 obtain⟨hh,g,d,tk,os⟩:=s
 have hx:((hh.push PySem.W.emptyDict).push (PySem.W.instObj C hh.objs.size)).get? (hh.objs.size+1)=some (PySem.W.instObj C hh.objs.size):=by heap_get
 have t1:PySem.W.Looks (model X.prog X.w) ((hh.push PySem.W.emptyDict).push (PySem.W.instObj C hh.objs.size)) (typeOf (.ref (hh.objs.size+1))) (.ref C):=(PySem.W.Looks.ld hx).andThen .now
 have t2:PySem.W.Looks (model X.prog X.w) ((hh.push PySem.W.emptyDict).push (PySem.W.instObj C hh.objs.size)) (isInstance (.ref (hh.objs.size+1)) (.type "object")) true:=t1.andThen (Y.top.keeps fun b o e=>Heap.get?_push_of_some _ (Heap.get?_push_of_some _ e))
 refine codeAny_call_builtin PySem.W.oi_plain PySem.W.entry_oi (@PySem.W.check_slot (model X.prog X.w) _ _ _ "object.__init__" "object" "__init__" (.ref (hh.objs.size+1)) [] [] _ PySem.W.oi_kind PySem.W.oi_split t2 (PySem.W.oi_args (.ref (hh.objs.size+1))) ?_)
 rw[PySem.W.oi_run]
 exact wpAny_pure (And.intro rfl ⟨.ref (hh.objs.size+1),_,I2,rfl,hq⟩)
theorem pe_makeO(M:Mk0 X.K C)(hg:Gl X x)(hm:X.mg x=some (.ref C))(hdb:(x == ("__debug__":Str))=false:=by decide):PE X (.Call (.Name x p) [] [] pos) (tMake0 C):=by
 intro pins s σ H Q I h
 refine wpAny_Call_Name_kw (ld_glob I hg hm ?_ hdb)
 exact PySem.W.callWith_K0 I.kIn M.kp (run_make0 M I h)
structure MethF(P:Program)(w:World)(K:PySem.W.Frag)(mg:Str→Option Value)(base:Heap)(CX:CXT)(k:Nat)(ι:Type)(m:Str)(ps:List Str)(sp:ι→Sp)(cs:ι→Addr)(f:ι→Addr)(fd:ι→FuncData):Prop where
 c:∀ i,Cls K (cs i)
 hm:∀ i,Meth K (cs i) m (f i)
 F:∀ i,FnOk P w K mg base CX k (f i) (fd i) ps (sp i)
 hb:∀ i,Binds K (fd i) ps []
def tMethF{ι:Type}(m:Str)(sp:ι→Sp)(cs:ι→Addr)(E:XK)(ta:TE)(t:TA):TE:=fun σ H Q=>ta σ H fun x H1=>∃ i a dx fs,x = .ref a∧H1 a=some (.ins (cs i) dx fs)∧fs.lookup m=none∧t σ H1 fun vs H2=>sp i (x :: vs) H2 Q E
theorem pe_methF{ι:Type}{ps:List Str}{sp:ι→Sp}{cs f:ι→Addr}{fd:ι→FuncData}{pl:Sem Bool}(he:PE X o ta)(M:MethF X.prog X.w X.K X.mg X.base CX k ι m ps sp cs f fd)(hr:Room k X.A)(hx:Passes CX X E)(ha:PA X (e :: es) t)
  (hst:starEach (e :: es) X.env=(false,eval e X.env) :: starEach es X.env:=by rfl) (hpl:(backTo pos (starEach es X.env)).any (·.1)=false:=by rfl)
  (ht:eval (.Call (.Attribute o m apos) (e :: es) [] pos) X.env=(do
   let ov ← eval o X.env
   standAt apos.atName
   let (f,first) ← holding [ov] (getMethod ov m pl)
   callWith pos f first (backTo pos (starEach (e :: es) X.env)) (backToKw pos (keywordEach [] X.env))):=by rfl) :
  PE X (.Call (.Attribute o m apos) (e :: es) [] pos) (tMethF m sp cs E ta t):=by
 intro pins s σ H Q I h
 refine PySem.W.methodCall_KW (pl:=pl) (thn (he pins s σ H _ I h) fun u s1 ⟨x,H1,I1,rx,i,a,dx,fs,ex,ea,l,q⟩=>?_) ht
 subst ex
 obtain rfl:u=Value.ref a:=rx
 refine getmeth_ok I1 ea (M.c i) (M.hm i) l ?_
 refine PySem.W.callWith_K (first:=[.ref a]) (h₀:=X.base) I.ok.mod.kin (M.hm i).kp (thn (ha pos pins s1 σ H1 _ I1 q) fun us s2 ⟨vs,H2,I2,r,q2⟩=>⟨I2.kIn,?_⟩) hst hpl
 exact run_fn (us:=.ref a :: us) (vs:=.ref a :: vs) (dvs:=[]) (M.F i) hr (M.hb i) .nil hx I2 (.cons rfl r) (by rw[List.append_nil];exact q2)
theorem pe_methF0{ι:Type}{ps:List Str}{sp:ι→Sp}{cs f:ι→Addr}{fd:ι→FuncData}{pl:Sem Bool}(he:PE X o ta)(M:MethF X.prog X.w X.K X.mg X.base CX k ι m ps sp cs f fd)(hr:Room k X.A)(hx:Passes CX X E)
  (ht:eval (.Call (.Attribute o m apos) [] [] pos) X.env=(do
   let ov ← eval o X.env
   standAt apos.atName
   let (f,first) ← holding [ov] (getMethod ov m pl)
   callWith pos f first (backTo pos (starEach [] X.env)) (backToKw pos (keywordEach [] X.env))):=by rfl) :
  PE X (.Call (.Attribute o m apos) [] [] pos) (tMethF m sp cs E ta tNil):=by
 intro pins s σ H Q I h
 refine PySem.W.methodCall_KW (pl:=pl) (thn (he pins s σ H _ I h) fun u s1 ⟨x,H1,I1,rx,i,a,dx,fs,ex,ea,l,q⟩=>?_) ht
 subst ex
 obtain rfl:u=Value.ref a:=rx
 refine getmeth_ok I1 ea (M.c i) (M.hm i) l ?_
 exact PySem.W.callWith_K0 (first:=[.ref a]) I1.kIn (M.hm i).kp (run_fn (us:=[.ref a]) (vs:=[.ref a]) (dvs:=[]) (M.F i) hr (M.hb i) .nil hx I1 (.cons rfl .nil) q)
end
end L2
namespace My
open PySem L2
theorem pickA{α:Type}(xs:List α)(m:Int)(hm:m=(xs.length:Int))(h0:0 < xs.length)(z:Int):∃ v,v∈xs∧atI xs (z % m)=some v:=by
 subst hm
 have a0:0≤z % (xs.length:Int):=Int.emod_nonneg _ (by omega)
 have a1:z % (xs.length:Int) < xs.length:=Int.emod_lt_of_pos _ (by omega)
 obtain⟨k,hk⟩:=Int.eq_ofNat_of_zero_le a0
 rw[hk] at a1 ⊢
 have hk':k < xs.length:=by omega
 exact⟨xs[k],List.getElem_mem hk',atI_nat (List.getElem?_eq_getElem hk')⟩
theorem str_app_len(i j:Str):(i++j).length=i.length+j.length:=by
 show(i.cps++j.cps).size=_
 rw[Array.size_append]
 rfl
theorem app_le{i j:Str}{a b:Nat}(h1:i.length≤a)(h2:j.length≤b):(i++j).length≤a+b:=by rw[str_app_len];omega
theorem fitsAB{i j:Str}{a b:Nat}(h1:i.length≤a)(h2:j.length≤b)(h:a+b≤1000):i.length+j.length≤sizeLine:=by rw[sizeLine_eq];omega
theorem fits3(n:Nat)(h:n≤1000):n≤sizeLine:=by rw[sizeLine_eq];omega
theorem all_nil{α:Type}{p:α→Prop}:∀ x∈([]:List α),p x:=fun _ h=>nomatch h
theorem all_cons{α:Type}{p:α→Prop}{a:α}{l:List α}(h:p a)(r:∀ x∈l,p x):∀ x∈a :: l,p x:=fun x hx=>by
 rcases List.mem_cons.mp hx with e | e
 ·rw[e];exact h
 ·exact r x e
theorem item_at{ns:List Int}{k:Int}(h:0 < ns.length):∃ v:Int,atI (ns.map V.int) (k % (((ns.map V.int).length:Nat):Int))=some (.int v):=by
 obtain⟨v,hv,e⟩:=pickA (ns.map V.int) _ rfl (by rw[List.length_map];exact h) k
 obtain⟨n,_,rfl⟩:=List.mem_map.mp hv
 exact⟨n,e⟩
section
variable{P:Program}{w:World}{K:PySem.W.Frag}{mg:Str→Option Value}{base:Heap}
structure Lib(P:Program)(w:World)(K:PySem.W.Frag)(mg:Str→Option Value)(base:Heap)(k:Nat)(x:Str)(ps:List Str)(sp:Sp)(f:Addr)(fd:FuncData):Prop where
 ok:FnOk P w K mg base CX0 k f fd ps sp
 bd:Binds K fd ps []
 kp:PySem.W.keepIn K (.ref f)=true
 mg:mg x=some (.ref f)
structure LibX(P:Program)(w:World)(K:PySem.W.Frag)(mg:Str→Option Value)(base:Heap)(k:Nat)(x:Str)(ps:List Str)(sp:Sp)(f:Addr)(fd:FuncData):Prop where
 ok:FnOk P w K mg base (CX1 P w) k f fd ps sp
 bd:Binds K fd ps []
 kp:PySem.W.keepIn K (.ref f)=true
 mg:mg x=some (.ref f)
end
end My
namespace My
open PySem L2
def p4{α:Type}(a b c d:α):Fin 4→α:=fun i=>match i with | 0=>a | 1=>b | 2=>c | 3=>d
def wd:Fin 4→Str:=p4 "free" "follow" "cut" "beat"
def wds:List Str:=["free","follow","cut","beat"]
theorem wd_at(i:Fin 4):wds[i.val]? = some (wd i):=match i with | 0=>rfl | 1=>rfl | 2=>rfl | 3=>rfl
theorem wd_mem{t:Str}(h:t∈wds):∃ i,t=wd i:=by
 rcases List.mem_cons.mp h with h | h
 ·exact⟨0,h⟩
 rcases List.mem_cons.mp h with h | h
 ·exact⟨1,h⟩
 rcases List.mem_cons.mp h with h | h
 ·exact⟨2,h⟩
 rcases List.mem_cons.mp h with h | h
 ·exact⟨3,h⟩
 ·exact nomatch h
theorem mem_wd(i:Fin 4):wd i∈wds:=List.mem_of_getElem? (wd_at i)
theorem wd_inj:∀ i j:Fin 4,wd i=wd j→i=j:=by decide +kernel
theorem wd_len:∀ i:Fin 4,3≤(wd i).length∧(wd i).length≤6:=by decide +kernel
section
variable{P:Program}{w:World}{K:PySem.W.Frag}{mg:Str→Option Value}{base:Heap}{f g:Addr}{fd gd:FuncData}
def spWord(i:Fin 4):Sp:=fun vs H Q _=>∃ a,vs=[.ref a]∧Q (.str (wd i)) H
abbrev WordF(P:Program)(w:World)(K:PySem.W.Frag)(mg:Str→Option Value)(base:Heap)(k:Nat)(cs f:Fin 4→Addr)(fd:Fin 4→FuncData):Prop:=MethF P w K mg base CX0 k (Fin 4) "word" ["self"] spWord cs f fd
def spDuty(cs:Fin 4→Addr)(CN:Addr):Sp:=fun vs H Q E=>∃ t:Str,vs=[.str t]∧(∀ i,t=wd i→∀ x dx H',Same H H'→H x=none→H' x=some (.ins (cs i) dx [])→Q (.ref x) H')∧(t∉wds→∀ H',Same H H'→E (.ref CN) none H')
structure DutyC(K:PySem.W.Frag)(mg:Str→Option Value)(cs:Fin 4→Addr)(CN:Addr):Prop where
 mF:mg "Free" = some (.ref (cs 0))
 mL:mg "Follow" = some (.ref (cs 1))
 mC:mg "Cut" = some (.ref (cs 2))
 mB:mg "Beat" = some (.ref (cs 3))
 mak:∀ i,Mk0 K (cs i)
 mN:mg "NoTable" = some (.ref CN)
 hN:PySem.W.excIn K CN veTail "ValueError.__new__" = true
theorem same_make{H:Hp}{x dx:Addr}{o:HO}(hx:H x=none)(hd:H dx=none)(n:dx≠x):Same H (upd (upd H dx (.own x)) x o):=fun b u q=>by
 rw[upd_ne (ne_of_none q hx),upd_ne (ne_of_none q hd)]
 exact q
theorem ok_word{st:Stmt}{qual wx:Str}{k:Nat}{sp:Sp}(F:Fun K "word" qual st f fd)(sc:FnScope ["self"] ["self"] (defScope st)){p1 p2:Pos}{j:Nat}(hb:defBody st=[.Return (some (.Constant (.str wx) j p1)) p2])(hs:∀ vs H Q E,sp vs H Q E→∃ a,vs=[V.ref a]∧Q (.str wx) H):FnOk P w K mg base CX0 (k+1) f fd ["self"] sp:=by
 refine F.ok sc (fun vs H Q E h=>?_) (fun cdv A outer s H vs Q E hr h=>?_)
 ·obtain⟨a,rfl,_⟩:=hs vs H Q E h
  rfl
 obtain⟨a,rfl,q⟩:=hs vs H Q E h
 rw[hb]
 exact⟨_,pss_one (ps_ret pe_str),q⟩
end
end My
namespace My
open PySem L2
abbrev sLet:Str:="abcd"
abbrev sFig:Str:="12345678"
theorem fig_mem(c:Nat):c∈sFig.cps.toList↔49≤c∧c≤56:=by
 have e:sFig.cps.toList=[49,50,51,52,53,54,55,56]:=by decide +kernel
 rw[e]
 simp only[List.mem_cons,List.not_mem_nil,or_false]
 omega
theorem find_fig(c:Nat):Txt.find sFig ⟨#[c]⟩=if 49≤c∧c≤56 then((c - 49:Nat):Int) else -1:=by
 by_cases h:49≤c∧c≤56
 ·rw[if_pos h]
  have h4:c=49∨c=50∨c=51∨c=52∨c=53∨c=54∨c=55∨c=56:=by omega
  rcases h4 with rfl | rfl | rfl | rfl | rfl | rfl | rfl | rfl<;>decide +kernel
 ·rw[if_neg h]
  have e:=PyProof.Rows.empty_one sFig c
  rw[decide_eq_false (fun z=>h ((fig_mem c).mp z))] at e
  unfold Txt.find
  cases q:Builtin.Str.occurrences sFig ⟨#[c]⟩ 0 sFig.length 1 with
  | nil=>rfl
  | cons a b=>rw[q] at e;cases e
end My
namespace L2
open PySem PySem.Spec PyProof.Rows
section
variable{prog:Program}{w:World}{A:Around}{E:Value→Shared→Prop}{s:Shared}
end
section
variable{X:Cx}{e st:Expr}{te:TE}{lo:Option Expr}{tl ts:TO}{pos p2:Pos}
def tStep(K:PySem.W.Frag)(te:TE)(tl ts:TO):TE:=fun σ H Q=>te σ H fun x H1=>tl σ H1 fun o H2=>ts σ H2 fun o2 H3=>o2=some 2∧∃ a x0 x1 x2 x3 x4 x5 x6 x7 x8 x9,x = .ref a∧SqL K H3 a [x0,x1,x2,x3,x4,x5,x6,x7,x8,x9] ∧
 ((o=some 0∧∀ p,H3 p=none→Q (.ref p) (upd H3 p (.lst [x0,x2,x4,x6,x8])))∨(o=some 1∧∀ p,H3 p=none→Q (.ref p) (upd H3 p (.lst [x1,x3,x5,x7,x9]))))
theorem pick_of{ys zs:List Value}{n:Nat}{lo hi st:Option Int}{ix:List Nat}(hn:ys.length=n)(h:sliceRange (sliceBounds lo hi st n).1 (sliceBounds lo hi st n).2.1 (sliceBounds lo hi st n).2.2=ix)(hz:ix.filterMap (ys[·]?)=zs):slicePick ys.toArray lo hi st=zs.toArray:=by
 unfold slicePick
 rw[List.size_toArray,hn,h,← hz]
 congr 2
 funext i
 simp
theorem ten{xs:List Value}(h:xs.length=10):∃ a b c d e f g i j k,xs=[a,b,c,d,e,f,g,i,j,k]:=match xs,h with | [a,b,c,d,e,f,g,i,j,k],_=>⟨a,b,c,d,e,f,g,i,j,k,rfl⟩
theorem pe_step(he:PE X e te)(hl:PO X lo tl)(hst:PO X (some st) ts):PE X (.Subscript e (.Slice lo none (some st) p2) pos) (tStep X.K te tl ts):=by
 intro pins s σ H Q I h
 refine Subscript_ (thn (he pins s σ H _ I h) fun v s1 ⟨x,H1,I1,r1,q1⟩=>?_)
 refine wpAny_Slice (thn (hl pins s1 σ H1 _ I1 q1) fun vl s2 ⟨l,H2,I2,pl,q2⟩=>?_)
 rw[evalPart_none]
 refine wpAny_pure (thn (hst pins s2 σ H2 _ I2 q2) fun vs s3 ⟨o,H3,I3,po,q3⟩=>?_)
 obtain⟨rfl,a,x0,x1,x2,x3,x4,x5,x6,x7,x8,x9,rfl,hx,q⟩:=q3
 cases r1
 have I4:Inv X pins σ H3 { s3 with heap:=s3.heap.push { cls:=.type "slice",data:=.fields #[vl,.none,vs] } }:=I3.kept (t':=s3.toks) fun b ob q=>Heap.get?_push_of_some _ q
 obtain⟨its,r,ht,hz⟩:=I4.list hx
 have hlen:=r.length
 obtain⟨y0,y1,y2,y3,y4,y5,y6,y7,y8,y9,rfl⟩:=ten hlen.symm
 cases r with | cons r0 r=>cases r with | cons r1 r=>cases r with | cons r2 r=>cases r with | cons r3 r=>cases r with | cons r4 r=>cases r with | cons r5 r=>cases r with | cons r6 r=>cases r with | cons r7 r=>cases r with | cons r8 r=>cases r with | cons r9 r=>
 show wpAny (model X.prog X.w) X.A (subscriptTail e (.Slice lo none (some st) p2) (.ref a) (.ref s3.heap.objs.size)) (EP X pins σ Q) X.xe { s3 with heap:=s3.heap.push { cls:=.type "slice",data:=.fields #[vl,.none,vs] } }
 refine PyProof.Rows.tail_any (ops:=[.ref a,.ref s3.heap.objs.size]) ht.isList.typeIs slot_list_getitem.lookup ?_ (by with_unfolding_all rfl)
 refine wpAny_getItem_list_slice ht.isList (Heap.IsSliceOf.new ..) pl .none po (by decide) ?_ (by rw[List.size_toArray]<;>exact Nat.le_of_lt (small1000 (show 10≤1000 by decide)))
 rcases q with⟨rfl,q⟩ | ⟨rfl,q⟩
 ·have ep:slicePick [y0,y1,y2,y3,y4,y5,y6,y7,y8,y9].toArray (some 0) none (some 2)=[y0,y2,y4,y6,y8].toArray:=pick_of (n:=10) (ix:=[0,2,4,6,8]) rfl (by decide +kernel) rfl
  rw[ep]
  exact⟨.ref _,_,I4.lnew (t':=s3.toks) (ys:=[x0,x2,x4,x6,x8]) (its:=[y0,y2,y4,y6,y8]) (.cons r0 (.cons r2 (.cons r4 (.cons r6 (.cons r8 .nil))))) (Nat.le_of_lt (small1000 (show 5≤1000 by decide))),rfl,q _ I4.fresh⟩
 ·have ep:slicePick [y0,y1,y2,y3,y4,y5,y6,y7,y8,y9].toArray (some 1) none (some 2)=[y1,y3,y5,y7,y9].toArray:=pick_of (n:=10) (ix:=[1,3,5,7,9]) rfl (by decide +kernel) rfl
  rw[ep]
  exact⟨.ref _,_,I4.lnew (t':=s3.toks) (ys:=[x1,x3,x5,x7,x9]) (its:=[y1,y3,y5,y7,y9]) (.cons r1 (.cons r3 (.cons r5 (.cons r7 (.cons r9 .nil))))) (Nat.le_of_lt (small1000 (show 5≤1000 by decide))),rfl,q _ I4.fresh⟩
theorem call_int_str:CallR X (.type "int") (fun xs H Q=>∃ x n,xs=[.str x]∧PySem.intText? x=some n∧x.length≤640∧Q (.int n) H):=by
 intro pins s σ H xs us Q I r h
 obtain⟨x,n,rfl,hn,hl,q⟩:=h
 obtain⟨u,rfl,t,rfl⟩:=vals1 r
 exact PySem.W.KIN.call_text hn hl ⟨.int n,H,I.tok _,⟨_,rfl⟩,q⟩
def chars(t:Str):List Str:=t.cps.toList.map fun c=>⟨#[c]⟩
theorem chars_len(t:Str):(chars t).length=t.length:=by unfold chars;rw[List.length_map];rfl
theorem vals_chars{t:Str}{acc:Array Value}(h:ItemsOf (SignAt t) acc t.cps.size):Vals (vS (chars t)) acc.toList:=by
 obtain⟨hs,hi⟩:=h
 have key:∀(cs:List Nat) (us:List Value),us.length=cs.length→(∀(j:Nat) v,us[j]? = some v→∃ c u,cs[j]? = some c∧v = .str ⟨#[c]⟩ u)→Vals ((cs.map fun c=>(⟨#[c]⟩:Str)).map V.str) us:=by
  intro cs
  induction cs with
  | nil=>
   intro us hl _
   have e:us=[]:=List.eq_nil_of_length_eq_zero hl
   subst e
   exact .nil
  | cons c cs ih=>
   intro us hl hu
   cases us with
   | nil=>cases hl
   | cons u us=>
    obtain⟨c',t',hc,hv⟩:=hu 0 u rfl
    have e:c=c':=Option.some.inj hc
    subst e
    exact .cons ⟨_,hv⟩ (ih us (Nat.succ.inj hl) fun j v hj=>hu (j+1) v hj)
 refine key t.cps.toList acc.toList (by simpa using hs) fun j v hj=>?_
 obtain⟨c,u,h1,h2⟩:=hi j v (by simpa using hj)
 exact⟨c,u,by simpa using h1,h2⟩
theorem call_list_strL(hc:X.calm=true):CallR X (.type "list") (fun xs H Q=>∃ t,xs=[.str t]∧t.length≤1000∧∀ l,H l=none→Q (.ref l) (upd H l (.lst (vS (chars t))))):=by
 intro pins s σ H xs us Q I r h
 obtain⟨x,rfl,hl,q⟩:=h
 obtain⟨u,rfl,t,rfl⟩:=vals1 r
 have hz:x.length≤sizeLine:=Nat.le_of_lt (small1000 hl)
 refine call_list_str (I.ok.hd hc) x t (fun h' tk acc' c' kp e hi=>?_) hz
 have hv:=vals_chars hi
 exact⟨.ref s.heap.objs.size,_,I.laid (t':=tk) kp (Nat.le_refl _) (show ObjOk X.prog X.w _ h' _ (.lst (vS (chars x))) from⟨by rw[vS_len,chars_len];exact hz,acc'.toList,c',hv,by simpa using e⟩),rfl,q _ (I.hok.fresh (Nat.le_refl _))⟩
theorem vals_strs:∀{us:List Value} {ss:List Str},StrsAre us ss→Vals (vS ss) us
 | _,_,.nil=>.nil
 | _,_,.cons x t h=>.cons ⟨t,rfl⟩ (vals_strs h)
theorem call_sorted_str(hc:X.calm=true):CallR X (.builtin "sorted") (fun xs H Q=>∃ t,xs=[.str t]∧t.length < 64∧∀ l ss,H l=none→ss.Perm (chars t)→sortedS ss=true→Q (.ref l) (upd H l (.lst (vS ss)))):=by
 intro pins s σ H xs us Q I r h
 obtain⟨x,rfl,hl,q⟩:=h
 obtain⟨u,rfl,t,rfl⟩:=vals1 r
 have hz:x.length≤sizeLine:=Nat.le_of_lt (small1000 (by omega))
 refine Calls.call_function_entry kind_sorted plain_sorted entry_sorted (args_sorted1 _) ?_
 unfold Builtin.«sorted»
 refine wpAny_bind (m:=checkCount "sorted" 1 1 _) (wpAny_pure ?_)
 refine wpAny_bind (wpAny_collect_str (A:=X.A.in1) (show X.A.in1.handled=none from I.ok.hd hc) x t (fun s1 acc kp hg hd ho hi=>?_) hz)
 have hv:=vals_chars hi
 have hS:StrsAre acc.toList (chars x):=strsAre_of hv
 have hlen:acc.toList.length < 64:=by rw[← hv.length,vS_len,chars_len];exact hl
 obtain⟨hp1,g1,d1,t1,o1⟩:=s1
 simp only at hg hd ho kp
 subst hg hd ho
 have I1:Inv X pins σ H { s with heap:=hp1,toks:=t1 }:=I.kept (t':=t1) kp
 refine wpAny_bind (wpAny_newList ?_)
 have hoL:(hp1.push (seqObj "list" acc.toList.toArray 0)).get? hp1.objs.size=some (seqObj "list" acc.toList.toArray 0):=Heap.get?_push_size _ rfl
 refine wpAny_bind (wpAny_holding (wpAny_call_entry slot_list_sort ⟨_,hoL,rfl⟩ entry_list_sort (list_sort_treeK (κ:=strKind) strKind_oneLt hoL hS.keysOf (fun v₁ v₂ rest e=>keyKind_strs (by rw[← e];exact hS)) hlen fun st' hp hs=>⟨_,rfl,wpAny_pure ⟨_,rfl,?_⟩⟩) (args_list_sort _)))
 obtain⟨ss',h1,h2,h3⟩:=sorted_out_str hS hp hs
 obtain⟨ep,he⟩:=sortedHeap_at (out:=(arrOf st').map (·.2)) hoL
 have hl2:ss'.length=x.length:=by rw[h2.length_eq,chars_len]
 refine⟨.ref hp1.objs.size,_,I1.laid (t':=t1) (a:=hp1.objs.size) (o:=.lst (vS ss')) (h':=sortedHeap (hp1.push (seqObj "list" acc.toList.toArray 0)) hp1.objs.size acc.toList ((arrOf st').map (·.2))) (fun b u e=>?_) (Nat.le_refl _) ?_,rfl,q _ ss' (I1.hok.fresh (Nat.le_refl _)) h2 h3⟩
 ·have hb:=Heap.lt_size e
  rw[sortedHeap_old (Nat.ne_of_lt hb) (by rw[size_push'];exact Nat.lt_succ_of_lt hb)]
  exact Heap.get?_push_of_some _ e
 ·refine⟨by rw[vS_len,hl2];exact hz,((arrOf st').map (·.2)).toList,ep,vals_strs h1,?_⟩
  rw[Array.toArray_toList]
  exact he
end
def rFind:V→List V→Hp→VK→Prop:=fun x xs H Q=>∃ i j,x = .str i∧xs=[.str j]∧Q (.int (Txt.find i j)) H
theorem pe_findK{X:Cx}{K:PySem.W.Frag}{o e:Expr}{to:TE}{t:TA}{apos cpos:Pos}(hK:X.K=K)(ho:PE X o to)(ha:PA X [e] t)
  (hbase:attributeBase o "find" X.env (eval o X.env)=eval o X.env:=by rfl)
  (hfew:((backTo cpos (starEach [e] X.env)).all (fun x=>!x.1) && (backToKw cpos (keywordEach [] X.env)).all (fun x=>x.1.isSome) && decide ([e].length+([]:List Keyword).length+(if([]:List Keyword).isEmpty then 0 else 1) < 30))=true:=by rfl)
  (hline:(apos.endLine == cpos.line)=true:=by rfl) (hs:starEach [e] X.env=[(false,eval e X.env)]:=by rfl):PE X (.Call (.Attribute o "find" apos) [e] [] cpos) (tBM K "str" rFind to t):=by
 subst hK
 exact pe_bm PySem.F.plainAttrs_str PySem.F.slot_str_find PySem.F.type_str_find mt_find ho ha hbase hfew hline hs rfl
structure FunD(K:PySem.W.Frag)(x qual:Str)(st:Stmt)(f:Addr)(fd:FuncData):Prop where
 ex:∃(oc:Value) (od:Option Addr) (dV kV doc pm:Value) (an:Option Addr) (cdv ct:Value) (osl:Array (Option Value)),
  fd=PySem.W.fnOf x qual (defArgs st) (defBody st) (defScope st) dV kV doc pm an cdv ct∧K.lookup f=some ⟨oc,od,.func fd,osl⟩∧PySem.W.codeIn K cdv qual=true
 kp:PySem.W.keepIn K (.ref f)=true
theorem FunD.ok{P:Program}{w:World}{K:PySem.W.Frag}{mg:Str→Option Value}{base:Heap}{x qual:Str}{st:Stmt}{f:Addr}{fd:FuncData}{N ps:List Str}{k:Nat}{sp:Sp}(F:FunD K x qual st f fd)(S:FnScope N ps (defScope st))(len:∀ vs H Q E,sp vs H Q E→vs.length=ps.length)
  (hbody:∀(cdv:Value) (A:Around) (outer:List Env) (s:Shared) (H:Hp) (vs:List V) (Q:VK) (E:XK),Room k (A.deeper (envOfC qual (defScope st) s.heap.objs.size f cdv))→sp vs H Q E →
   ∃ t,PSs (cxOf CX0 P w K mg base N qual (defScope st) f cdv A outer s H E).nox (defBody st) t∧t { nx:=fun _ H'=>Q .non H',rt:=Q } (start N vs) H):FnOk P w K mg base CX0 (k+1) f fd ps sp:=by
 obtain⟨oc,od,dV,kV,doc,pm,an,cdv,ct,osl,rfl,lk,hcd⟩:=F.ex
 refine fn_of lk hcd S len fun A outer s H vs Q E hr hsp=>?_
 obtain⟨t,h,q⟩:=hbody cdv A outer s H vs Q E hr hsp
 exact⟨t,h.nox,q⟩
theorem funD_mk{K:PySem.W.Frag}{x qual:Str}{st:Stmt}{f:Addr}{oc:Value}{od an:Option Addr}{osl:Array (Option Value)}{dV kV doc pm cdv ct:Value}(l:K.lookup f=some ⟨oc,od,.func (PySem.W.fnOf x qual (defArgs st) (defBody st) (defScope st) dV kV doc pm an cdv ct),osl⟩)
  (c:PySem.W.codeIn K cdv qual=true) (k:PySem.W.keepIn K (.ref f)=true):FunD K x qual st f (PySem.W.fnOf x qual (defArgs st) (defBody st) (defScope st) dV kV doc pm an cdv ct):=⟨⟨oc,od,dV,kV,doc,pm,an,cdv,ct,osl,rfl,l,c⟩,k⟩
end L2
namespace My
open PySem L2 PySem.Spec PyProof.Rows
def joinL:List (List Nat)→List Nat
 | []=>[]
 | [x]=>x
 | x :: y :: r=>x++32 :: joinL (y :: r)
theorem cut_eq:∀(x y a b:List Nat),32∉x→32∉y→x++32 :: a=y++32 :: b→x=y∧a=b
 | [],[],a,b,_,_,h=>by
  injection h with _ h
  exact⟨rfl,h⟩
 | [],c :: y,a,b,_,hy,h=>by
  injection h with h _
  exact absurd (h ▸ List.mem_cons_self) hy
 | c :: x,[],a,b,hx,_,h=>by
  injection h with h _
  exact absurd (h ▸ List.mem_cons_self) hx
 | c :: x,d :: y,a,b,hx,hy,h=>by
  injection h with h1 h2
  obtain⟨e1,e2⟩:=cut_eq x y a b (fun z=>hx (List.mem_cons_of_mem _ z)) (fun z=>hy (List.mem_cons_of_mem _ z)) h2
  exact⟨by rw[h1,e1],e2⟩
theorem joinL_inj:∀ xs ys:List (List Nat),xs≠[]→ys≠[]→(∀ x∈xs,32∉x)→(∀ y∈ys,32∉y)→joinL xs=joinL ys→xs=ys
 | [],_,h,_,_,_,_=>absurd rfl h
 | _,[],_,h,_,_,_=>absurd rfl h
 | [x],[y],_,_,_,_,h=>by
  have e:x=y:=h
  rw[e]
 | [x],y :: y2 :: r,_,_,hx,_,h=>by
  have e:x=y++32 :: joinL (y2 :: r):=h
  refine absurd ?_ (hx x List.mem_cons_self)
  rw[e]
  exact List.mem_append_right _ List.mem_cons_self
 | x :: x2 :: r,[y],_,_,_,hy,h=>by
  have e:x++32 :: joinL (x2 :: r)=y:=h
  refine absurd ?_ (hy y List.mem_cons_self)
  rw[← e]
  exact List.mem_append_right _ List.mem_cons_self
 | x :: x2 :: r,y :: y2 :: r2,_,_,hx,hy,h=>by
  obtain⟨e1,e2⟩:=cut_eq x y _ _ (hx x List.mem_cons_self) (hy y List.mem_cons_self) h
  have e3:=joinL_inj (x2 :: r) (y2 :: r2) (List.cons_ne_nil _ _) (List.cons_ne_nil _ _) (fun z hz=>hx z (List.mem_cons_of_mem _ hz)) (fun z hz=>hy z (List.mem_cons_of_mem _ hz)) e2
  rw[e1,e3]
abbrev blank:Str:=" "
theorem blank_cps:blank=⟨#[32]⟩:=by decide +kernel
theorem join_toList:∀ ws:List Str,(Txt.join blank ws).cps.toList=joinL (ws.map fun w=>w.cps.toList):=by
 intro ws
 unfold Txt.join
 rw[StrLaws.glued_eq_join]
 induction ws with
 | nil=>rfl
 | cons x r ih=>
  cases r with
  | nil=>rfl
  | cons y r=>
   show(x++blank++Str.join blank (y :: r)).cps.toList=x.cps.toList++32 :: joinL ((y :: r).map fun w=>w.cps.toList)
   rw[← ih,blank_cps]
   show((x.cps ++ #[32])++(Str.join ⟨#[32]⟩ (y :: r)).cps).toList=_
   rw[Array.toList_append,Array.toList_append,List.append_assoc]
   rfl
theorem str_ext{a b:Str}(h:a.cps.toList=b.cps.toList):a=b:=by
 obtain⟨⟨a⟩⟩:=a
 obtain⟨⟨b⟩⟩:=b
 cases h
 rfl
theorem split_ne(x:Str):Txt.split x blank≠[]:=by
 unfold Txt.split
 split
 ·exact List.cons_ne_nil _ _
 ·split
  ·exact List.cons_ne_nil _ _
  ·intro z
   have l:=PyProof.Rows.len_partsBetween x (Builtin.Str.occurrences x blank 0 x.length (x.length+1)) blank.length
   rw[z] at l
   cases l
theorem split_join(ws:List Str)(h:ws≠[])(hf:∀ w∈ws,32∉w.cps.toList):Txt.split (Txt.join blank ws) blank=ws:=by
 have e1:Txt.join blank (Txt.split (Txt.join blank ws) blank)=Txt.join blank ws:=by
  have z:=StrLaws.join_split (Txt.join blank ws) blank
  rw[← StrLaws.glued_eq_join] at z
  exact z
 have e2:=congrArg (fun s:Str=>s.cps.toList) e1
 rw[join_toList,join_toList] at e2
 have e3:=joinL_inj _ _ (fun z=>split_ne _ (List.map_eq_nil_iff.mp z)) (fun z=>h (List.map_eq_nil_iff.mp z)) (fun x hx=>?_) (fun y hy=>?_) e2
 ·have inj:∀ a b:List Str,(a.map fun w=>w.cps.toList)=(b.map fun w=>w.cps.toList)→a=b:=by
   intro a
   induction a with
   | nil=>intro b hb;cases b with
    | nil=>rfl
    | cons y r=>cases hb
   | cons x r ih=>intro b hb;cases b with
    | nil=>cases hb
    | cons y r2=>
     injection hb with h1 h2
     rw[str_ext h1,ih r2 h2]
  exact inj _ _ e3
 ·obtain⟨w,hw,rfl⟩:=List.mem_map.mp hx
  rw[blank_cps] at hw
  exact StrLaws.split_free _ 32 w hw
 ·obtain⟨w,hw,rfl⟩:=List.mem_map.mp hy
  exact hf w hw
theorem join_len(sep:Str)(ws:List Str):(Txt.join sep ws).length≤(ws.map (·.length)).sum+ws.length * sep.length:=by
 unfold Txt.join
 rw[StrLaws.glued_eq_join]
 exact StrLaws.join_length_le sep ws
theorem blank_len:blank.length=1:=by decide +kernel
def vN(ys:List Nat):List V:=ys.map fun c=>V.int (c:Nat)
theorem vN_len(ys:List Nat):(vN ys).length=ys.length:=List.length_map _
theorem vN_ints(ys:List Nat):vN ys=(ys.map fun c=>((c:Nat):Int)).map V.int:=by unfold vN;rw[List.map_map];rfl
theorem vS_flat:∀(ys:List Str),(vS ys).all flatV=true
 | []=>rfl
 | _ :: ys=>by
  show(true && (vS ys).all flatV)=true
  rw[vS_flat ys]
  rfl
def sgn(i:Nat):Str:=⟨#[49+i]⟩
def figS(l:List Nat):Str:=⟨(l.map (49 + ·)).toArray⟩
theorem figS_len(l:List Nat):(figS l).length=l.length:=by
 show((l.map (49 + ·)).toArray).size=_
 rw[List.size_toArray,List.length_map]
theorem chars_fig(l:List Nat):chars (figS l)=l.map sgn:=by
 unfold chars figS
 rw[show(⟨(l.map (49 + ·)).toArray⟩:Str).cps.toList=l.map (49 + ·) from rfl,List.map_map]
 rfl
theorem perm_sorted:∀{xs ys:List Nat},xs.Perm ys→xs.Pairwise (·≤·)→ys.Pairwise (·≤·)→xs=ys
 | [],ys,p,_,_=>p.nil_eq
 | x :: xs,[],p,_,_=>by have:=p.length_eq;cases this
 | x :: xs,y :: ys,p,hx,hy=>by
  obtain⟨hx1,hx2⟩:=List.pairwise_cons.mp hx
  obtain⟨hy1,hy2⟩:=List.pairwise_cons.mp hy
  have e:x=y:=by
   have a:x∈y :: ys:=p.subset (List.mem_cons_self ..)
   have b:y∈x :: xs:=p.symm.subset (List.mem_cons_self ..)
   rcases List.mem_cons.mp a with a | a
   ·exact a
   ·rcases List.mem_cons.mp b with b | b
    ·exact b.symm
    ·have:=hx1 y b
     have:=hy1 x a
     omega
  subst e
  rw[perm_sorted p.cons_inv hx2 hy2]
theorem sgn_le{a b:Nat}(h:ltCps (sgn b).cps.toList (sgn a).cps.toList=false):a≤b:=by
 rw[PyProof.Rows.ltCps_eq] at h
 have h2:¬ ([49+b]:List Nat) < [49+a]:=of_decide_eq_false h
 rcases Nat.lt_or_ge b a with z | z
 ·exact absurd (List.cons_lt_cons_iff.mpr (.inl (by omega))) h2
 ·exact z
theorem rising_le:∀{a:Nat} {l:List Nat},risingS (sgn a) (l.map sgn)=true→(a :: l).Pairwise (·≤·)
 | a,[],_=>List.pairwise_singleton ..
 | a,b :: l,h=>by
  have h':(!ltCps (sgn b).cps.toList (sgn a).cps.toList && risingS (sgn b) (l.map sgn))=true:=h
  rw[Bool.and_eq_true] at h'
  have ab:a≤b:=sgn_le (by simpa using h'.1)
  have r:=rising_le (a:=b) (l:=l) h'.2
  refine List.pairwise_cons.mpr ⟨fun c hc=>?_,r⟩
  rcases List.mem_cons.mp hc with e | hc
  ·omega
  ·have:=(List.pairwise_cons.mp r).1 c hc
   omega
theorem sorted_le:∀{l:List Nat},sortedS (l.map sgn)=true→l.Pairwise (·≤·)
 | [],_=>.nil
 | a :: l,h=>rising_le (show risingS (sgn a) (l.map sgn)=true from h)
theorem of_perm_map:∀{ss:List Str} {l:List Nat},ss.Perm (l.map sgn)→∃ ks:List Nat,ss=ks.map sgn∧ks.Perm l:=by
 intro ss l p
 have inj:∀ a b,sgn a=sgn b→a=b:=fun a b e=>by
  unfold sgn at e
  injection e with e
  have e1:[49+a]=[49+b]:=congrArg Array.toList e
  injection e1 with e1
  omega
 refine⟨ss.map (fun s=>s.cps.toList.headD 0 - 49),?_,?_⟩
 ·rw[List.map_map]
  have:∀ s∈ss,(sgn ∘ fun s:Str=>s.cps.toList.headD 0 - 49) s=s:=fun s hs=>by
   obtain⟨i,_,rfl⟩:=List.mem_map.mp (p.subset hs)
   show sgn ((49+i) - 49)=sgn i
   congr 1
   omega
  exact((List.map_congr_left this).trans (List.map_id' ss)).symm
 ·have q:=p.map (fun s:Str=>s.cps.toList.headD 0 - 49)
  rw[List.map_map] at q
  have:l.map ((fun s:Str=>s.cps.toList.headD 0 - 49) ∘ sgn)=l:=by
   have:∀ i∈l,((fun s:Str=>s.cps.toList.headD 0 - 49) ∘ sgn) i=i:=fun i _=>by
    show(49+i) - 49=i
    omega
   exact(List.map_congr_left this).trans (List.map_id' _)
  rw[this] at q
  exact q
theorem range_sorted(h:Nat):(List.range h).Pairwise (·≤·):=(List.pairwise_lt_range).imp fun h=>Nat.le_of_lt h
theorem order_sorted{ss:List Str}{l:List Nat}{h:Nat}(hl:l.Perm (List.range h))(p:ss.Perm (chars (figS l)))(s:sortedS ss=true):ss=(List.range h).map sgn:=by
 rw[chars_fig] at p
 obtain⟨ks,rfl,pk⟩:=of_perm_map p
 rw[perm_sorted (pk.trans hl) (sorted_le s) (range_sorted h)]
theorem fig_slice:∀ h≤8,chars (Txt.slice sFig none (some ((h:Nat):Int)))=(List.range h).map sgn:=by decide +kernel
theorem find_sgn:∀ i < 8,Txt.find sFig (sgn i)=((i:Nat):Int):=by decide +kernel
theorem eqVs_str:∀(ys:List Str),eqVs (vS ys) (vS ys)=true
 | []=>rfl
 | y :: ys=>by
  show((y == y) && eqVs (vS ys) (vS ys))=true
  rw[eqVs_str ys,beq_self_eq_true]
  rfl
structure Fx where
 s:Nat
 h:Nat
 n:Nat
 d:_root_.Fin 4
 pl:List Nat
 tr:List Nat
structure Fx.Ok(f:Fx):Prop where
 s1:1≤f.s
 s4:f.s≤4
 h1:1≤f.h
 h8:f.h≤8
 n34:f.n=3∨f.n=4
 pp:f.pl.Perm (List.range f.h)
 pt:f.tr.Perm (List.range f.h)
def sizeT(f:Fx):Str:=⟨#[48+f.s,120,48+f.h]⟩
def seatT(f:Fx):Str:=⟨#[48+f.n]⟩
def tabW(f:Fx):List Str:=["pack",sizeT f,"seats",seatT f,"duty",wd f.d,"plain",figS f.pl,"trump",figS f.tr]
def tabT(f:Fx):Str:=Txt.join blank (tabW f)
theorem perm_lt{l:List Nat}{h:Nat}(p:l.Perm (List.range h)):∀ i∈l,i < h:=fun i hi=>List.mem_range.mp (p.subset hi)
theorem perm_len{l:List Nat}{h:Nat}(p:l.Perm (List.range h)):l.length=h:=by rw[p.length_eq,List.length_range]
theorem fig_free(l:List Nat):32∉(figS l).cps.toList:=by
 rw[show(figS l).cps.toList=l.map (49 + ·) from rfl]
 intro z
 obtain⟨i,_,e⟩:=List.mem_map.mp z
 omega
theorem wd_free:∀ i:_root_.Fin 4,32∉(wd i).cps.toList:=by decide +kernel
theorem tab_split(f:Fx):Txt.split (tabT f) blank=tabW f:=by
 refine split_join (tabW f) (by unfold tabW;exact List.cons_ne_nil _ _) ?_
 refine all_cons (by decide +kernel) (all_cons ?_ (all_cons (by decide +kernel) (all_cons ?_ (all_cons (by decide +kernel) (all_cons (wd_free _) (all_cons (by decide +kernel) (all_cons (fig_free _) (all_cons (by decide +kernel) (all_cons (fig_free _) all_nil)))))))))
 ·show 32∉[48+f.s,120,48+f.h]
  simp
  omega
 ·show 32∉[48+f.n]
  simp
  omega
theorem tab_len{f:Fx}(ok:f.Ok):(tabT f).length≤99:=by
 have j:=join_len blank (tabW f)
 have e:((tabW f).map (·.length)).sum≤4+(3+(5+(1+(4+(6+(5+(8+(5+(8+0))))))))):=by
  have a:=(wd_len f.d).2
  have b:(figS f.pl).length≤8:=by rw[figS_len,perm_len ok.pp];exact ok.h8
  have c:(figS f.tr).length≤8:=by rw[figS_len,perm_len ok.pt];exact ok.h8
  show 4+(3+(5+(1+(4+((wd f.d).length+(5+((figS f.pl).length+(5+((figS f.tr).length+0)))))))))≤_
  omega
 have e2:(tabW f).length=10:=rfl
 rw[e2,blank_len] at j
 have:(tabT f).length=(Txt.join blank (tabW f)).length:=rfl
 omega
theorem str_num:∀ i≤8,(toString ((i:Nat):Int):Str)=⟨#[48+i]⟩:=by decide +kernel
theorem joinE_toList:∀ ws:List Str,(Txt.join "" ws).cps.toList=(ws.map fun w=>w.cps.toList).flatten:=by
 intro ws
 unfold Txt.join
 rw[StrLaws.glued_eq_join]
 induction ws with
 | nil=>rfl
 | cons x r ih=>
  cases r with
  | nil=>
   show x.cps.toList=x.cps.toList++[]
   rw[List.append_nil]
  | cons y r=>
   show(x ++ "" ++ Str.join "" (y :: r)).cps.toList=x.cps.toList++((y :: r).map fun w=>w.cps.toList).flatten
   rw[← ih]
   show((x.cps++("":Str).cps)++(Str.join "" (y :: r)).cps).toList=_
   rw[Array.toList_append,Array.toList_append]
   have e:("":Str).cps.toList=[]:=by decide +kernel
   rw[e,List.append_nil]
theorem join_sgn(l:List Nat):Txt.join "" (l.map sgn)=figS l:=by
 refine str_ext ?_
 rw[joinE_toList,List.map_map]
 show((l.map fun i=>[49+i]).flatten)=l.map (49 + ·)
 induction l with
 | nil=>rfl
 | cons i l ih=>rw[List.map_cons,List.flatten_cons,ih];rfl
def sgV(x:V):V:=match x with | .int i=>.str ⟨#[48+(i+1).toNat]⟩ | _=>.non
theorem sgV_int(i:Nat):sgV (.int (i:Nat)) = .str ⟨#[48+(i+1)]⟩:=by
 show V.str ⟨#[48+(((i:Nat):Int)+1).toNat]⟩=_
 have e:(((i:Nat):Int)+1).toNat=i+1:=by omega
 rw[e]
theorem sgV_list(l:List Nat):((vN l).filter fun _=>true).map sgV=vS (l.map sgn):=by
 rw[List.filter_eq_self.mpr (fun _ _=>rfl)]
 unfold vN vS
 rw[List.map_map,List.map_map]
 refine List.map_congr_left fun i _=>?_
 show sgV (.int (i:Nat)) = .str (sgn i)
 rw[sgV_int]
 unfold sgn
 rw[show 48+(i+1)=49+i by omega]
theorem sgn_sum{l:List Nat}{h:Nat}(p:l.Perm (List.range h))(h8:h≤8):((l.map sgn).map (·.length)).sum+(l.map sgn).length * ("":Str).length≤16777216:=by
 have e:∀ l:List Nat,((l.map sgn).map (·.length)).sum=l.length:=fun l=>by
  induction l with
  | nil=>rfl
  | cons i l ih=>
   show 1+((l.map sgn).map (·.length)).sum=_
   rw[ih,List.length_cons]
   omega
 have z:("":Str).length=0:=by decide +kernel
 rw[e,z,perm_len p]
 omega
end My
namespace My
open PySem L2
def top(i:Nat):Stmt:=PySem.Challenge.pw_trickproof_k32_alike_moves.main.body.getD i (.Pass ⟨0,0,0,0⟩)
abbrev sFreeWord:Stmt:=inClass (top 28) 0
abbrev sFollowWord:Stmt:=inClass (top 29) 0
abbrev sCutWord:Stmt:=inClass (top 30) 0
abbrev sBeatWord:Stmt:=inClass (top 31) 0
abbrev sDutyOf:Stmt:=top 32
abbrev sMarks:Stmt:=top 35
abbrev sReadSize:Stmt:=top 36
abbrev sReadSeats:Stmt:=top 37
abbrev sReadOrder:Stmt:=top 38
section
variable{P:Program}{w:World}{K:PySem.W.Frag}{mg:Str→Option Value}{base:Heap}{f g:Addr}{fd gd:FuncData}
theorem scFreeWord:FnScope ["self"] ["self"] (defScope sFreeWord):=⟨rfl,rfl,rfl,by decide +kernel,rfl,by decide +kernel,by decide +kernel⟩
theorem scFollowWord:FnScope ["self"] ["self"] (defScope sFollowWord):=⟨rfl,rfl,rfl,by decide +kernel,rfl,by decide +kernel,by decide +kernel⟩
theorem scCutWord:FnScope ["self"] ["self"] (defScope sCutWord):=⟨rfl,rfl,rfl,by decide +kernel,rfl,by decide +kernel,by decide +kernel⟩
theorem scBeatWord:FnScope ["self"] ["self"] (defScope sBeatWord):=⟨rfl,rfl,rfl,by decide +kernel,rfl,by decide +kernel,by decide +kernel⟩
theorem ok_freeWord{k:Nat}(F:Fun K "word" "Free.word" sFreeWord f fd):FnOk P w K mg base CX0 (k+1) f fd ["self"] (spWord 0):=ok_word F scFreeWord rfl fun _ _ _ _ h=>h
theorem ok_followWord{k:Nat}(F:Fun K "word" "Follow.word" sFollowWord f fd):FnOk P w K mg base CX0 (k+1) f fd ["self"] (spWord 1):=ok_word F scFollowWord rfl fun _ _ _ _ h=>h
theorem ok_cutWord{k:Nat}(F:Fun K "word" "Cut.word" sCutWord f fd):FnOk P w K mg base CX0 (k+1) f fd ["self"] (spWord 2):=ok_word F scCutWord rfl fun _ _ _ _ h=>h
theorem ok_beatWord{k:Nat}(F:Fun K "word" "Beat.word" sBeatWord f fd):FnOk P w K mg base CX0 (k+1) f fd ["self"] (spWord 3):=ok_word F scBeatWord rfl fun _ _ _ _ h=>h
theorem scDutyOf:FnScope ["word","duty"] ["word"] (defScope sDutyOf):=⟨rfl,rfl,rfl,by decide +kernel,rfl,by decide +kernel,by decide +kernel⟩
theorem ok_dutyOf{k:Nat}{CN:Addr}{cs fw:Fin 4→Addr}{fdw:Fin 4→FuncData}(F:Fun K "duty_of" "duty_of" sDutyOf f fd)(D:DutyC K mg cs CN)(W:WordF P w K mg base k cs fw fdw):FnOk P w K mg base (CX1 P w) (k+1) f fd ["word"] (spDuty cs CN):=by
 refine F.okX scDutyOf (fun vs H Q E h=>?_) (fun cdv A outer s H vs Q E hr h T=>?_)
 ·obtain⟨x,rfl,_⟩:=h
  rfl
 obtain⟨t,rfl,q,qn⟩:=h
 refine⟨_,pss_cons (ps_for T.own rfl (pi_tup (pe_tup (pa_cons (pe_makeO (D.mak 0) rfl D.mF) (pa_cons (pe_makeO (D.mak 1) rfl D.mL) (pa_cons (pe_makeO (D.mak 2) rfl D.mC) (pa_cons (pe_makeO (D.mak 3) rfl D.mB) pa_nil)))))) (pg_name (i:=1) scDutyOf.nd rfl (Or.inl rfl))
   (pss_one (ps_if (pt_cmpR op_eq (pe_methF0 (pv 1) W hr pass0) (pv 0) (nomark _)) (pss_one (ps_ret (pv 1))) pss_nil)))
  (pss_one (ps_raise T hr.hd rfl D.mN D.hN (pa_cons pe_str pa_nil))),?_⟩
 intro x0 d0 hx0 hd0 n0 x1 d1 hx1 hd1 n1 x2 d2 hx2 hd2 n2 x3 d3 hx3 hd3 n3
 refine⟨fits3 4 (by decide),fun p hp=>?_⟩
 have s0:=same_make (o:=.ins (cs 0) d0 []) hx0 hd0 n0
 have s1:=same_make (o:=.ins (cs 1) d1 []) hx1 hd1 n1
 have s2:=same_make (o:=.ins (cs 2) d2 []) hx2 hd2 n2
 have s3:=same_make (o:=.ins (cs 3) d3 []) hx3 hd3 n3
 have sp:=same_upd hp (.tup [.ref x0,.ref x1,.ref x2,.ref x3])
 have sA:=s0.trans (s1.trans (s2.trans (s3.trans sp)))
 have g0:=sp _ _ (s3 _ _ (s2 _ _ (s1 _ _ (upd_same (a:=x0) (o:=.ins (cs 0) d0 [])))))
 have g1:=sp _ _ (s3 _ _ (s2 _ _ (upd_same (a:=x1) (o:=.ins (cs 1) d1 []))))
 have g2:=sp _ _ (s3 _ _ (upd_same (a:=x2) (o:=.ins (cs 2) d2 [])))
 have g3:=sp _ _ (upd_same (a:=x3) (o:=.ins (cs 3) d3 []))
 have gp:=upd_same (H:=upd (upd (upd (upd (upd (upd (upd (upd H d0 (.own x0)) x0 (.ins (cs 0) d0 [])) d1 (.own x1)) x1 (.ins (cs 1) d1 [])) d2 (.own x2)) x2 (.ins (cs 2) d2 [])) d3 (.own x3)) x3 (.ins (cs 3) d3 [])) (a:=p) (o:=.tup [.ref x0,.ref x1,.ref x2,.ref x3])
 revert g0 g1 g2 g3 gp sA
 generalize upd _ p (.tup [.ref x0,.ref x1,.ref x2,.ref x3])=H4
 intro sA g0 g1 g2 g3 gp
 have hx1':=s0.free hx1
 have hx2':=s0.free (s1.free hx2)
 have hx3':=s0.free (s1.free (s2.free hx3))
 have G:∀(i:Nat) (x:V),([V.ref x0,V.ref x1,V.ref x2,V.ref x3]:List V)[i]? = some x→∃(j:Fin 4) (y dy:Addr),j.val=i∧x = .ref y∧H y=none∧H4 y=some (.ins (cs j) dy []):=fun i x hx=>by
  match i,hx with
  | 0,hx=>exact⟨0,x0,d0,rfl,(Option.some.inj hx).symm,hx0,g0⟩
  | 1,hx=>exact⟨1,x1,d1,rfl,(Option.some.inj hx).symm,hx1',g1⟩
  | 2,hx=>exact⟨2,x2,d2,rfl,(Option.some.inj hx).symm,hx2',g2⟩
  | 3,hx=>exact⟨3,x3,d3,rfl,(Option.some.inj hx).symm,hx3',g3⟩
 refine⟨p,rfl,⟨_,SqT.of gp⟩,for_tup (xs:=[.ref x0,.ref x1,.ref x2,.ref x3]) (fun i σ H'=>H'=H4∧(∃ x,σ=[some (.str t),x])∧∀ j:Fin 4,j.val < i→t≠wd j) ⟨rfl,⟨_,rfl⟩,fun j hj=>absurd hj (Nat.not_lt_zero _)⟩ (fun i σ H' _ z=>by obtain⟨rfl,_⟩:=z;exact SqT.of gp) (fun i x σ H' hx z=>?_) (fun σ H' z=>?_)⟩
 ·obtain⟨rfl,⟨x',rfl⟩,hno⟩:=z
  obtain⟨j,y,dy,hj,rfl,hy,gy⟩:=G i x hx
  refine⟨_,rfl,j,y,dy,[],rfl,gy,rfl,y,rfl,_,rfl,rfl,_,rfl,ite2 (fun c=>?_) (fun c=>?_)⟩
  ·have c':=of_decide_eq_true c
   injection c' with c'
   exact⟨_,rfl,q j c'.symm y dy H' sA hy gy⟩
  ·refine⟨rfl,⟨_,rfl⟩,fun j' hj' e=>?_⟩
   by_cases lt:j'.val < i
   ·exact hno j' lt e
   ·have ej:j'=j:=Fin.ext (by omega)
    subst ej
    exact c (decide_eq_true (by rw[e]))
 ·obtain⟨rfl,⟨x',rfl⟩,hno⟩:=z
  refine⟨fits3 1 (by decide),qn (fun z=>?_) _ sA⟩
  obtain⟨j,hj⟩:=wd_mem z
  exact hno j j.isLt hj
def spMarks:Sp:=fun vs H Q _=>∃ f:Fx,vs=[.str (tabT f)]∧f.Ok∧∀ l H',Same H H'→H l=none→H' l=some (.lst (vS [sizeT f,seatT f,wd f.d,figS f.pl,figS f.tr]))→Q (.ref l) H'
theorem scMarks:FnScope ["text","words"] ["text"] (defScope sMarks):=⟨rfl,rfl,rfl,by decide +kernel,rfl,by decide +kernel,by decide +kernel⟩
def marks:List Str:=["pack","seats","duty","plain","trump"]
theorem ok_marks{k:Nat}{CN aM:Addr}(F:Fun K "words_behind_marks" "words_behind_marks" sMarks f fd)(mM:mg "MARKS" = some (.ref aM))(hM:∀ H,SqT K H aM (vS marks))(mC:mg "NoTable" = some (.ref CN))(hC:PySem.W.excIn K CN veTail "ValueError.__new__" = true)
  (mi:mg "isinstance" = none) (ms:mg "str" = none) (ml:mg "len" = none) (mt:mg "tuple" = none):FnOk P w K mg base (CX1 P w) (k+1) f fd ["text"] spMarks:=by
 refine F.okX scMarks (fun vs H Q E h=>?_) (fun cdv A outer s H vs Q E hr h T=>?_)
 ·obtain⟨x,rfl,_⟩:=h
  rfl
 obtain⟨fx,rfl,ok,q⟩:=h
 refine⟨_,pss_cons (ps_if (pt_not (pt_truth (pe_callB call_isT rfl mi PyProof.Rows.boot_isinstance (pa_cons (pv 0) (pa_cons (pe_bltn (v:=.ty "str") rfl ms PyProof.Rows.boot_str rfl) pa_nil))) (fun _=>rfl))) (pss_one (ps_raise T hr.hd rfl mC hC (pa_cons pe_str pa_nil))) pss_nil)
  (pss_cons (ps_set (i:=1) scMarks.nd rfl (Or.inl rfl) (pe_bm PySem.F.plainAttrs_str PySem.F.slot_str_split PySem.F.type_str_split mt_split (pv 0) (pa_cons pe_str pa_nil)))
  (pss_cons (ps_if (PW.pt (pw_or (pt_cmpR op_ne (pe_callB call_len_seq rfl ml PySem.boot_len (pa_cons (pv 1) pa_nil)) (pe_op op_mul pe_int (pe_callB call_len_seq rfl ml PySem.boot_len (pa_cons (pe_glob (v:=.ref aM) rfl mM rfl) pa_nil))) (nomark _))
    (pw_or1 (pt_cmpR (op_neFT hr.units) (pe_callTy call_tuple_of rfl mt PyProof.Rows.boot_tuple (pa_cons (pe_step (pv 1) (po_some pe_int) (po_some pe_int)) pa_nil)) (pe_glob (v:=.ref aM) rfl mM rfl) (nomark _))))) (pss_one (ps_raise T hr.hd rfl mC hC (pa_cons pe_str pa_nil))) pss_nil)
  (pss_one (ps_ret (pe_step (pv 1) (po_some pe_int) (po_some pe_int)))))),?_⟩
 have tl:=tab_len ok
 refine⟨_,rfl,_,_,_,true,rfl,.str _,rfl,true,rfl,iteF ?_⟩
 refine⟨_,rfl,rfl,tabT fx,blank,rfl,rfl,(by decide +kernel),by omega,fun l hl=>?_⟩
 rw[tab_split]
 have s1:=same_upd hl (.lst (vS (tabW fx)))
 refine⟨_,rfl,l,_,rfl,.inl (SqL.of upd_same),aM,_,rfl,.inr (hM _),_,_,rfl,rfl,.inl ⟨by decide,by decide⟩,rfl,_,rfl,iteF ?_⟩
 refine⟨_,rfl,_,rfl,_,rfl,rfl,l,.str "pack",.str (sizeT fx),.str "seats",.str (seatT fx),.str "duty",.str (wd fx.d),.str "plain",.str (figS fx.pl),.str "trump",.str (figS fx.tr),rfl,SqL.of upd_same,.inl ⟨rfl,fun p hp=>?_⟩⟩
 have s2:=same_upd hp (.lst (vS marks))
 refine⟨p,vS marks,rfl,.inl ⟨SqL.of upd_same,fun p2 hp2=>?_⟩⟩
 have s3:=same_upd hp2 (.tup (vS marks))
 refine⟨p2,aM,vS marks,vS marks,rfl,rfl,⟨SqT.of upd_same,hM _⟩,vS_flat _,vS_flat _,_,rfl,?_⟩
 show if(!eqVs (vS marks) (vS marks))=true then _ else _
 rw[eqVs_str]
 refine iteF ?_
 have sA:=s1.trans (s2.trans s3)
 refine⟨_,rfl,_,rfl,_,rfl,rfl,l,.str "pack",.str (sizeT fx),.str "seats",.str (seatT fx),.str "duty",.str (wd fx.d),.str "plain",.str (figS fx.pl),.str "trump",.str (figS fx.tr),rfl,SqL.of (s3 _ _ (s2 _ _ upd_same)),.inr ⟨rfl,fun p3 hp3=>?_⟩⟩
 exact q p3 _ (sA.trans (same_upd hp3 _)) (sA.free hp3) upd_same
def spSize:Sp:=fun vs H Q _=>∃ f:Fx,vs=[.str (sizeT f)]∧f.Ok∧∀ p H',Same H H'→H p=none→H' p=some (.tup [.int (f.s:Nat),.int (f.h:Nat)])→Q (.ref p) H'
theorem scSize:FnScope ["word","suits","heights"] ["word"] (defScope sReadSize):=⟨rfl,rfl,rfl,by decide +kernel,rfl,by decide +kernel,by decide +kernel⟩
theorem ok_size{k:Nat}{CN:Addr}{t1 t2:Tok}(F:Fun K "read_size" "read_size" sReadSize f fd)(mF:mg "FIGURES" = some (.str sFig t1))(mL:mg "LETTERS" = some (.str sLet t2))(mC:mg "NoTable" = some (.ref CN))(hC:PySem.W.excIn K CN veTail "ValueError.__new__" = true)(ml:mg "len" = none) :
  FnOk P w K mg base (CX1 P w) (k+1) f fd ["word"] spSize:=by
 refine F.okX scSize (fun vs H Q E h=>?_) (fun cdv A outer s H vs Q E hr h T=>?_)
 ·obtain⟨x,rfl,_⟩:=h
  rfl
 obtain⟨fx,rfl,ok,q⟩:=h
 refine⟨_,pss_cons (ps_if (PW.pt (pw_or (pt_cmpR op_ne (pe_callB call_len_str rfl ml PySem.boot_len (pa_cons (pv 0) pa_nil)) pe_int (nomark _)) (pw_or1 (pt_cmpR op_ne (pe_ix ix_str (pv 0) pe_int (fun _ _=>rfl)) pe_str (nomark _))))) (pss_one (ps_raise T hr.hd rfl mC hC (pa_cons pe_str pa_nil))) pss_nil)
  (pss_cons (ps_set (i:=1) scSize.nd rfl (Or.inl rfl) (pe_op op_add (pe_bm PySem.F.plainAttrs_str PySem.F.slot_str_find PySem.F.type_str_find mt_find (pe_glob (v:=.str sFig) rfl mF ⟨_,rfl⟩) (pa_cons (pe_ix ix_str (pv 0) pe_int (fun _ _=>rfl)) pa_nil)) pe_int))
  (pss_cons (ps_set (i:=2) scSize.nd rfl (Or.inl rfl) (pe_op op_add (pe_bm PySem.F.plainAttrs_str PySem.F.slot_str_find PySem.F.type_str_find mt_find (pe_glob (v:=.str sFig) rfl mF ⟨_,rfl⟩) (pa_cons (pe_ix ix_str (pv 0) pe_int (fun _ _=>rfl)) pa_nil)) pe_int))
  (pss_cons (ps_if (PW.pt (pw_or (pt_cmpR op_eq (pv 1) pe_int (nomark _)) (pw_or (pt_cmpR op_gt (pv 1) (pe_callB call_len_str rfl ml PySem.boot_len (pa_cons (pe_glob (v:=.str sLet) rfl mL ⟨_,rfl⟩) pa_nil)) (nomark _)) (pw_or1 (pt_cmpR op_eq (pv 2) pe_int (nomark _)))))) (pss_one (ps_raise T hr.hd rfl mC hC (pa_cons pe_str pa_nil))) pss_nil)
  (pss_one (ps_ret (pe_tup (pa_cons (pv 1) (pa_cons (pv 2) pa_nil)))))))),?_⟩
 have hz:(sizeT fx).length≤sizeLine:=fits3 3 (by decide)
 have at0:atI (sizeT fx).cps.toList 0=some (48+fx.s):=atI_nat (j:=0) rfl
 have at1:atI (sizeT fx).cps.toList 1=some 120:=atI_nat (j:=1) rfl
 have at2:atI (sizeT fx).cps.toList 2=some (48+fx.h):=atI_nat (j:=2) rfl
 have s1:=ok.s1
 have s4:=ok.s4
 have h1:=ok.h1
 have h8:=ok.h8
 refine⟨_,rfl,_,rfl,hz,rfl,_,rfl,iteF ⟨_,rfl,_,_,_,rfl,rfl,hz,at1,rfl,_,rfl,?_⟩⟩
 rw[decide_eq_true (show V.str ⟨#[120]⟩=V.str "x" by decide +kernel)]
 refine iteF ?_
 refine⟨rfl,_,rfl,_,_,_,rfl,rfl,hz,at0,_,_,rfl,rfl,_,_,rfl,rfl,?_⟩
 refine⟨rfl,_,rfl,_,_,_,rfl,rfl,hz,at2,_,_,rfl,rfl,_,_,rfl,rfl,?_⟩
 rw[find_fig,find_fig,if_pos (by omega),if_pos (by omega)]
 have e1:((48+fx.s - 49:Nat):Int)+1=((fx.s:Nat):Int):=by omega
 have e2:((48+fx.h - 49:Nat):Int)+1=((fx.h:Nat):Int):=by omega
 dsimp only
 rw[e1,e2]
 refine⟨_,rfl,rfl,_,rfl,?_⟩
 rw[decide_eq_false (fun y=>by injection y with y;omega)]
 refine iteF ⟨_,rfl,_,rfl,fits3 4 (by decide),_,_,rfl,rfl,_,rfl,?_⟩
 have l4:((sLet.length:Nat):Int)=4:=by decide +kernel
 rw[l4,decide_eq_false (show ¬ (4:Int) < ((fx.s:Nat):Int) by omega)]
 refine iteF ⟨_,rfl,rfl,_,rfl,?_⟩
 rw[decide_eq_false (fun y=>by injection y with y;omega)]
 refine iteF ⟨_,rfl,_,rfl,fits3 2 (by decide),fun p hp=>q p _ (same_upd hp _) hp upd_same⟩
def spSeats:Sp:=fun vs H Q _=>∃ f:Fx,vs=[.str (seatT f)]∧f.Ok∧∀ H',Same H H'→Q (.int (f.n:Nat)) H'
theorem scSeats:FnScope ["word"] ["word"] (defScope sReadSeats):=⟨rfl,rfl,rfl,by decide +kernel,rfl,by decide +kernel,by decide +kernel⟩
theorem ok_seats{k:Nat}{CN:Addr}(F:Fun K "read_seats" "read_seats" sReadSeats f fd)(mC:mg "NoTable" = some (.ref CN))(hC:PySem.W.excIn K CN veTail "ValueError.__new__" = true)(mI:mg "int" = none):FnOk P w K mg base (CX1 P w) (k+1) f fd ["word"] spSeats:=by
 refine F.okX scSeats (fun vs H Q E h=>?_) (fun cdv A outer s H vs Q E hr h T=>?_)
 ·obtain⟨x,rfl,_⟩:=h
  rfl
 obtain⟨fx,rfl,ok,q⟩:=h
 refine⟨_,pss_cons (ps_if (pt_cmpR op_notIn_seq (pv 0) (pe_tup (pa_cons pe_str (pa_cons pe_str pa_nil))) rfl) (pss_one (ps_raise T hr.hd rfl mC hC (pa_cons pe_str pa_nil))) pss_nil)
  (pss_one (ps_ret (pe_callTy call_int_str rfl mI PyProof.Rows.boot_int (pa_cons (pv 0) pa_nil)))),?_⟩
 refine⟨_,rfl,fits3 2 (by decide),fun p hp=>?_⟩
 have s1:=same_upd hp (.tup (vS ["3","4"]))
 refine⟨p,vS ["3","4"],rfl,.inr (SqT.of upd_same),rfl,rfl,_,rfl,?_⟩
 show if(!inV (.str (seatT fx)) (vS ["3","4"]))=true then _ else _
 rcases ok.n34 with e | e
 ·have es:seatT fx = "3":=by unfold seatT;rw[e];decide +kernel
  rw[es,show inV (.str "3") (vS ["3","4"])=true by decide +kernel]
  refine iteF ⟨_,rfl,_,3,rfl,by decide +kernel,by decide +kernel,?_⟩
  have:=q _ s1
  rw[e] at this
  exact this
 ·have es:seatT fx = "4":=by unfold seatT;rw[e];decide +kernel
  rw[es,show inV (.str "4") (vS ["3","4"])=true by decide +kernel]
  refine iteF ⟨_,rfl,_,4,rfl,by decide +kernel,by decide +kernel,?_⟩
  have:=q _ s1
  rw[e] at this
  exact this
def spOrd:Sp:=fun vs H Q _=>∃(l:List Nat) (h:Nat),vs=[.str (figS l),.int (h:Nat)]∧h≤8∧l.Perm (List.range h)∧∀ p H',Same H H'→H p=none→H' p=some (.tup (vN l))→Q (.ref p) H'
theorem scOrd:FnScope ["word","heights"] ["word","heights"] (defScope sReadOrder):=⟨rfl,rfl,rfl,by decide +kernel,rfl,by decide +kernel,by decide +kernel⟩
theorem ok_ord{k:Nat}{CN:Addr}{t1:Tok}(F:Fun K "read_order" "read_order" sReadOrder f fd)(mF:mg "FIGURES" = some (.str sFig t1))(mC:mg "NoTable" = some (.ref CN))(hC:PySem.W.excIn K CN veTail "ValueError.__new__" = true)(mS:mg "sorted" = none)(mLi:mg "list" = none)(mt:mg "tuple" = none) :
  FnOk P w K mg base (CX1 P w) (k+1) f fd ["word","heights"] spOrd:=by
 refine F.okX scOrd (fun vs H Q E h=>?_) (fun cdv A outer s H vs Q E hr h T=>?_)
 ·obtain⟨l,h,rfl,_⟩:=h
  rfl
 obtain⟨l,h,rfl,h8,pm,q⟩:=h
 refine⟨_,pss_cons (ps_if (pt_cmpR (op_neFL hr.units) (pe_callB (call_sorted_str rfl) rfl mS PyProof.Rows.boot_sorted (pa_cons (pv 0) pa_nil)) (pe_callTy (call_list_strL rfl) rfl mLi PyProof.Rows.boot_list (pa_cons (pe_slice sl_str (pe_glob (v:=.str sFig) rfl mF ⟨_,rfl⟩) po_none (po_some (pv 1))) pa_nil)) (nomark _)) (pss_one (ps_raise T hr.hd rfl mC hC (pa_cons pe_str pa_nil))) pss_nil)
  (pss_one (ps_ret (pe_callTy call_tuple_of rfl mt PyProof.Rows.boot_tuple (pa_cons (pe_comp ["figure"] [none] rfl (Blk.by (sc:=defScope sReadOrder) (N0:=["word","heights"]) rfl rfl (by decide +kernel)) (pi_str (pv 0)) (fun C s₀ H₀ ex=>pg_name (i:=0) (show(["figure"]:List Str).Nodup by decide +kernel) rfl (Or.inl rfl))
   (fun C s₀ H₀ ex=>pf_nil) (fun C s₀ H₀ ex=>pe_findK (K:=K) rfl (pe_glob (v:=.str sFig) rfl mF ⟨_,rfl⟩) (pa_cons (pv 0) pa_nil))) pa_nil)))),?_⟩
 have ll:l.length=h:=perm_len pm
 refine⟨_,rfl,figS l,rfl,(by rw[figS_len];omega),fun l1 ss hl1 hp hs=>?_⟩
 have es:=order_sorted pm hp hs
 subst es
 have s1:=same_upd hl1 (.lst (vS ((List.range h).map sgn)))
 refine⟨_,rfl,_,rfl,sFig,rfl,(by decide +kernel),_,rfl,Nat.le_trans (Txt.slice_le _ _ _) (by decide +kernel),fun l2 hl2=>?_⟩
 rw[fig_slice h h8]
 have s2:=same_upd hl2 (.lst (vS ((List.range h).map sgn)))
 refine⟨l1,l2,_,_,rfl,rfl,⟨SqL.of (s2 _ _ upd_same),SqL.of upd_same⟩,vS_flat _,vS_flat _,_,rfl,?_⟩
 show if(!eqVs (vS ((List.range h).map sgn)) (vS ((List.range h).map sgn)))=true then _ else _
 rw[eqVs_str]
 refine iteF ⟨_,rfl,figS l,rfl,?_⟩
 have sA:=s1.trans s2
 refine comp_any l.length (fun i=>.str (sgn (l.getD i 0))) (fun _=>true) (fun i=>.int ((l.getD i 0:Nat):Int)) (fits3 _ (by omega)) (fun i H3 s3 hi=>?_) (fun H3 s3=>?_) (fun i H3 x H4 s3 hi y=>?_) (fun i H3 hi sm R hR=>hR H3 (Same.refl H3)) (fun i H3 hi hp sm R hR=>?_) (fun l3 H3 s3 hl3 hL3=>?_)
 ·show i < (figS l).cps.size
  have:=figS_len l
  unfold Str.length at this
  omega
 ·show(figS l).cps.size≤l.length
  have:=figS_len l
  unfold Str.length at this
  omega
 ·obtain⟨rfl,c,hc,rfl⟩:=y
  refine⟨rfl,?_⟩
  have e:(figS l).cps.toList[i]? = some c:=by rw[← hc];simp
  rw[show(figS l).cps.toList=l.map (49 + ·) from rfl,List.getElem?_map,List.getElem?_eq_getElem hi] at e
  have e2:49+l[i]=c:=Option.some.inj e
  rw[List.getD_eq_getElem?_getD,List.getElem?_eq_getElem hi,← e2]
  rfl
 ·have lt:l.getD i 0 < 8:=by
   rw[List.getD_eq_getElem?_getD,List.getElem?_eq_getElem hi]
   have:=perm_lt pm l[i] (List.getElem_mem hi)
   show l[i] < 8
   omega
  refine⟨rfl,_,rfl,_,_,rfl,rfl,?_⟩
  show R (.int (Txt.find sFig (sgn (l.getD i 0)))) H3
  rw[find_sgn _ lt]
  exact hR H3 (Same.refl H3)
 ·have e:((List.range l.length).filter fun _=>true).map (fun i=>V.int ((l.getD i 0:Nat):Int))=vN l:=by
   have z:=filter_map_range l (fun _=>true) (fun c=>V.int ((c:Nat):Int)) 0
   rw[z,List.filter_eq_self.mpr (fun _ _=>rfl)]
   rfl
  rw[e] at hL3
  refine⟨l3,_,rfl,.inl ⟨SqL.of hL3,fun p hp=>?_⟩⟩
  have sB:=sA.trans s3
  exact q p _ (sB.trans (same_upd hp _)) (sB.free hp) upd_same
end
end My
namespace My
open PySem L2
def Keep(x:Addr)(H H':Hp):Prop:=∀ b o,b≠x→H b=some o→H' b=some o
theorem Keep.trans{x:Addr}{H H1 H2:Hp}(a:Keep x H H1)(b:Keep x H1 H2):Keep x H H2:=fun c o n h=>b c o n (a c o n h)
theorem Keep.of{x:Addr}{H H':Hp}(s:Same H H'):Keep x H H':=fun b o _ h=>s b o h
theorem Keep.upd{x:Addr}{H:Hp}{o:HO}:Keep x H (upd H x o):=fun b u n h=>by rw[upd_ne n];exact h
def tF1(f:Fx)(po to:Addr):List (Str×V):=putF "suits" (.int (f.s:Nat)) []
def tF2(f:Fx)(po to:Addr):List (Str×V):=putF "heights" (.int (f.h:Nat)) (tF1 f po to)
def tF3(f:Fx)(po to:Addr):List (Str×V):=putF "seats" (.int (f.n:Nat)) (tF2 f po to)
def tF4(f:Fx)(po to:Addr):List (Str×V):=putF "duty_word" (.str (wd f.d)) (tF3 f po to)
def tF5(f:Fx)(po to:Addr):List (Str×V):=putF "plain_order" (.ref po) (tF4 f po to)
def tF6(f:Fx)(po to:Addr):List (Str×V):=putF "trump_order" (.ref to) (tF5 f po to)
def tF7(f:Fx)(po to:Addr):List (Str×V):=putF "written" (.str (tabT f)) (tF6 f po to)
abbrev tabF:=tF7
theorem tF1_len(f:Fx)(po to:Addr):(tF1 f po to).length≤1:=length_putF _ _ _
theorem tF2_len(f:Fx)(po to:Addr):(tF2 f po to).length≤2:=Nat.le_trans (length_putF _ _ _) (Nat.succ_le_succ (tF1_len f po to))
theorem tF3_len(f:Fx)(po to:Addr):(tF3 f po to).length≤3:=Nat.le_trans (length_putF _ _ _) (Nat.succ_le_succ (tF2_len f po to))
theorem tF4_len(f:Fx)(po to:Addr):(tF4 f po to).length≤4:=Nat.le_trans (length_putF _ _ _) (Nat.succ_le_succ (tF3_len f po to))
theorem tF5_len(f:Fx)(po to:Addr):(tF5 f po to).length≤5:=Nat.le_trans (length_putF _ _ _) (Nat.succ_le_succ (tF4_len f po to))
theorem tF6_len(f:Fx)(po to:Addr):(tF6 f po to).length≤6:=Nat.le_trans (length_putF _ _ _) (Nat.succ_le_succ (tF5_len f po to))
theorem look7_suits(f:Fx)(po to:Addr):(tF7 f po to).lookup ("suits":Str)=some (V.int (f.s:Nat)):=by
 unfold tF7
 rw[lookup_putF]
 rw[if_neg (by decide +kernel)]
 unfold tF6
 rw[lookup_putF]
 rw[if_neg (by decide +kernel)]
 unfold tF5
 rw[lookup_putF]
 rw[if_neg (by decide +kernel)]
 unfold tF4
 rw[lookup_putF]
 rw[if_neg (by decide +kernel)]
 unfold tF3
 rw[lookup_putF]
 rw[if_neg (by decide +kernel)]
 unfold tF2
 rw[lookup_putF]
 rw[if_neg (by decide +kernel)]
 unfold tF1
 rw[lookup_putF]
 rw[if_pos rfl]
theorem look7_seats(f:Fx)(po to:Addr):(tF7 f po to).lookup ("seats":Str)=some (V.int (f.n:Nat)):=by
 unfold tF7
 rw[lookup_putF]
 rw[if_neg (by decide +kernel)]
 unfold tF6
 rw[lookup_putF]
 rw[if_neg (by decide +kernel)]
 unfold tF5
 rw[lookup_putF]
 rw[if_neg (by decide +kernel)]
 unfold tF4
 rw[lookup_putF]
 rw[if_neg (by decide +kernel)]
 unfold tF3
 rw[lookup_putF]
 rw[if_pos rfl]
theorem look7_duty_word(f:Fx)(po to:Addr):(tF7 f po to).lookup ("duty_word":Str)=some (V.str (wd f.d)):=by
 unfold tF7
 rw[lookup_putF]
 rw[if_neg (by decide +kernel)]
 unfold tF6
 rw[lookup_putF]
 rw[if_neg (by decide +kernel)]
 unfold tF5
 rw[lookup_putF]
 rw[if_neg (by decide +kernel)]
 unfold tF4
 rw[lookup_putF]
 rw[if_pos rfl]
theorem look7_plain_order(f:Fx)(po to:Addr):(tF7 f po to).lookup ("plain_order":Str)=some (V.ref po):=by
 unfold tF7
 rw[lookup_putF]
 rw[if_neg (by decide +kernel)]
 unfold tF6
 rw[lookup_putF]
 rw[if_neg (by decide +kernel)]
 unfold tF5
 rw[lookup_putF]
 rw[if_pos rfl]
theorem look7_trump_order(f:Fx)(po to:Addr):(tF7 f po to).lookup ("trump_order":Str)=some (V.ref to):=by
 unfold tF7
 rw[lookup_putF]
 rw[if_neg (by decide +kernel)]
 unfold tF6
 rw[lookup_putF]
 rw[if_pos rfl]
theorem look4_heights(f:Fx)(po to:Addr):(tF4 f po to).lookup ("heights":Str)=some (V.int (f.h:Nat)):=by
 unfold tF4
 rw[lookup_putF]
 rw[if_neg (by decide +kernel)]
 unfold tF3
 rw[lookup_putF]
 rw[if_neg (by decide +kernel)]
 unfold tF2
 rw[lookup_putF]
 rw[if_pos rfl]
theorem look5_heights(f:Fx)(po to:Addr):(tF5 f po to).lookup ("heights":Str)=some (V.int (f.h:Nat)):=by
 unfold tF5
 rw[lookup_putF]
 rw[if_neg (by decide +kernel)]
 unfold tF4
 rw[lookup_putF]
 rw[if_neg (by decide +kernel)]
 unfold tF3
 rw[lookup_putF]
 rw[if_neg (by decide +kernel)]
 unfold tF2
 rw[lookup_putF]
 rw[if_pos rfl]
theorem look7_duty(f:Fx)(po to:Addr):(tF7 f po to).lookup ("duty":Str)=none:=by
 unfold tF7
 rw[lookup_putF]
 rw[if_neg (by decide +kernel)]
 unfold tF6
 rw[lookup_putF]
 rw[if_neg (by decide +kernel)]
 unfold tF5
 rw[lookup_putF]
 rw[if_neg (by decide +kernel)]
 unfold tF4
 rw[lookup_putF]
 rw[if_neg (by decide +kernel)]
 unfold tF3
 rw[lookup_putF]
 rw[if_neg (by decide +kernel)]
 unfold tF2
 rw[lookup_putF]
 rw[if_neg (by decide +kernel)]
 unfold tF1
 rw[lookup_putF]
 rw[if_neg (by decide +kernel)]
 rfl
theorem look7_order(f:Fx)(po to:Addr):(tF7 f po to).lookup ("order":Str)=none:=by
 unfold tF7
 rw[lookup_putF]
 rw[if_neg (by decide +kernel)]
 unfold tF6
 rw[lookup_putF]
 rw[if_neg (by decide +kernel)]
 unfold tF5
 rw[lookup_putF]
 rw[if_neg (by decide +kernel)]
 unfold tF4
 rw[lookup_putF]
 rw[if_neg (by decide +kernel)]
 unfold tF3
 rw[lookup_putF]
 rw[if_neg (by decide +kernel)]
 unfold tF2
 rw[lookup_putF]
 rw[if_neg (by decide +kernel)]
 unfold tF1
 rw[lookup_putF]
 rw[if_neg (by decide +kernel)]
 rfl
structure TabC(K:PySem.W.Frag)(mg:Str→Option Value)(CT:Addr):Prop where
 cl:Cls K CT
 mT:mg "Table" = some (.ref CT)
 nS:NoAttr K CT "suits"
 nH:NoAttr K CT "heights"
 nN:NoAttr K CT "seats"
 nD:NoAttr K CT "duty_word"
 nP:NoAttr K CT "plain_order"
 nT:NoAttr K CT "trump_order"
 nW:NoAttr K CT "written"
def IsTab(CT:Addr)(f:Fx)(H:Hp)(x:Addr):Prop:=∃ dx po to,H x=some (.ins CT dx (tabF f po to))∧H po=some (.tup (vN f.pl))∧H to=some (.tup (vN f.tr))
theorem IsTab.same{CT x:Addr}{f:Fx}{H H':Hp}(h:IsTab CT f H x)(s:Same H H'):IsTab CT f H' x:=by
 obtain⟨dx,po,to,a,b,c⟩:=h
 exact⟨dx,po,to,s _ _ a,s _ _ b,s _ _ c⟩
def gamF(x:Addr)(tv:V):List (Str×V):=putF "trump" tv (putF "table" (.ref x) [])
theorem gam_table(x:Addr)(tv:V):(gamF x tv).lookup ("table":Str)=some (V.ref x):=by
 unfold gamF
 rw[lookup_putF,if_neg (by decide +kernel),lookup_putF,if_pos rfl]
theorem gam_trump(x:Addr)(tv:V):(gamF x tv).lookup ("trump":Str)=some tv:=by
 unfold gamF
 rw[lookup_putF,if_pos rfl]
theorem gam_none(x:Addr)(tv:V)(m:Str)(h1:m≠"trump")(h2:m≠"table"):(gamF x tv).lookup m=none:=by
 unfold gamF
 rw[lookup_putF,if_neg h1,lookup_putF,if_neg h2]
 rfl
structure GamC(K:PySem.W.Frag)(mg:Str→Option Value)(CG:Addr):Prop where
 cl:Cls K CG
 mG:mg "Game" = some (.ref CG)
 nT:NoAttr K CG "table"
 nU:NoAttr K CG "trump"
def IsGam(CG x:Addr)(tv:V)(H:Hp)(g:Addr):Prop:=∃ dg,H g=some (.ins CG dg (gamF x tv))
theorem IsGam.same{CG x g:Addr}{tv:V}{H H':Hp}(h:IsGam CG x tv H g)(s:Same H H'):IsGam CG x tv H' g:=by
 obtain⟨dg,a⟩:=h
 exact⟨dg,s _ _ a⟩
end My
namespace My
open PySem L2
abbrev sTabInit:Stmt:=inClass (top 40) 0
theorem fromH{F:Hp→Prop}{H H':Hp}(e:H'=H)(h:F H):F H':=by rw[e];exact h
section
variable{P:Program}{w:World}{K:PySem.W.Frag}{mg:Str→Option Value}{base:Heap}{f g:Addr}{fd gd:FuncData}
def spTab(CT:Addr):Sp:=fun vs H Q _=>∃(x dx:Addr) (f:Fx),vs=[.ref x,.str (tabT f)]∧f.Ok∧H x=some (.ins CT dx [])∧∀ po to H',Keep x H H'→H' x=some (.ins CT dx (tabF f po to))→H' po=some (.tup (vN f.pl))→H' to=some (.tup (vN f.tr))→Q .non H'
theorem scTab:FnScope ["self","text","words","size"] ["self","text"] (defScope sTabInit):=⟨rfl,rfl,rfl,by decide +kernel,rfl,by decide +kernel,by decide +kernel⟩
theorem ok_tab{k:Nat}{CT CN f1 f2 f3 f4 f5:Addr}{d1 d2 d3 d4 d5:FuncData}{cs fw:Fin 4→Addr}{fdw:Fin 4→FuncData}(F:Fun K "__init__" "Table.__init__" sTabInit f fd)(C:TabC K mg CT)(LM:LibX P w K mg base k "words_behind_marks" ["text"] spMarks f1 d1)(LZ:LibX P w K mg base k "read_size" ["word"] spSize f2 d2)
  (LS:LibX P w K mg base k "read_seats" ["word"] spSeats f3 d3) (LO:LibX P w K mg base k "read_order" ["word","heights"] spOrd f4 d4) (LD:LibX P w K mg base k "duty_of" ["word"] (spDuty cs CN) f5 d5) (W:WordF P w K mg base k cs fw fdw):FnOk P w K mg base CX0 (k+1) f fd ["self","text"] (spTab CT):=by
 refine F.ok scTab (fun vs H Q E h=>?_) (fun cdv A outer s H vs Q E hr h=>?_)
 ·obtain⟨x,dx,fx,rfl,_⟩:=h
  rfl
 obtain⟨x,dx,fx,rfl,ok,hx,q⟩:=h
 refine⟨_,pss_cons (ps_set (i:=2) scTab.nd rfl (Or.inl rfl) (pe_call LM.ok hr rfl LM.mg LM.kp LM.bd .nil pass1 (pa_cons (pv 1) pa_nil)))
  (pss_cons (ps_set (i:=3) scTab.nd rfl (Or.inl rfl) (pe_call LZ.ok hr rfl LZ.mg LZ.kp LZ.bd .nil pass1 (pa_cons (pe_ix ix_list (pv 2) pe_int (fun _ _=>rfl)) pa_nil)))
  (pss_cons (ps_fld (pv 0) (pe_ix ix_tup (pv 3) pe_int (fun _ _=>rfl)) rfl)
  (pss_cons (ps_fld (pv 0) (pe_ix ix_tup (pv 3) pe_int (fun _ _=>rfl)) rfl)
  (pss_cons (ps_fld (pv 0) (pe_call LS.ok hr rfl LS.mg LS.kp LS.bd .nil pass1 (pa_cons (pe_ix ix_list (pv 2) pe_int (fun _ _=>rfl)) pa_nil)) rfl)
  (pss_cons (ps_fld (pv 0) (pe_methF0 (pe_call LD.ok hr rfl LD.mg LD.kp LD.bd .nil pass1 (pa_cons (pe_ix ix_list (pv 2) pe_int (fun _ _=>rfl)) pa_nil)) W hr pass0) rfl)
  (pss_cons (ps_fld (pv 0) (pe_call LO.ok hr rfl LO.mg LO.kp LO.bd .nil pass1 (pa_cons (pe_ix ix_list (pv 2) pe_int (fun _ _=>rfl)) (pa_cons (pe_fld (pv 0) rfl) pa_nil))) rfl)
  (pss_cons (ps_fld (pv 0) (pe_call LO.ok hr rfl LO.mg LO.kp LO.bd .nil pass1 (pa_cons (pe_ix ix_list (pv 2) pe_int (fun _ _=>rfl)) (pa_cons (pe_fld (pv 0) rfl) pa_nil))) rfl)
  (pss_one (ps_fld (pv 0) (pv 1) rfl))))))))),?_⟩
 refine⟨_,rfl,fx,rfl,ok,fun l H1 s1 hl hL=>?_⟩
 have hx1:=s1 _ _ hx
 have nlx:l≠x:=ne_of hL hx1 (by intro z;cases z)
 refine⟨_,rfl,l,_,0,.str (sizeT fx),rfl,rfl,SqL.of hL,rfl,fx,rfl,ok,fun p H2 s2 hp hP=>?_⟩
 have hx2:=s2 _ _ hx1
 have hL2:=s2 _ _ hL
 have npx:p≠x:=ne_of hP hx2 (by intro z;cases z)
 refine⟨_,rfl,p,_,0,.int (fx.s:Nat),rfl,rfl,SqT.of hP,rfl,_,rfl,x,CT,dx,[],rfl,hx2,C.cl,C.nS,by decide,?_⟩
 refine⟨_,rfl,p,[.int (fx.s:Nat),.int (fx.h:Nat)],1,.int (fx.h:Nat),rfl,rfl,SqT.of (by rw[upd_ne npx];exact hP),rfl,_,rfl,x,CT,dx,tF1 fx 0 0,rfl,upd_same,C.cl,C.nH,Nat.lt_of_le_of_lt (tF1_len _ _ _) (by decide),?_⟩
 have k2:Keep x H (upd H2 x (.ins CT dx (tF2 fx 0 0))):=(Keep.of (s1.trans s2)).trans Keep.upd
 have hL3:(upd H2 x (.ins CT dx (tF2 fx 0 0))) l=some (.lst (vS [sizeT fx,seatT fx,wd fx.d,figS fx.pl,figS fx.tr])):=by rw[upd_ne nlx];exact hL2
 have hx3:(upd H2 x (.ins CT dx (tF2 fx 0 0))) x=some (.ins CT dx (tF2 fx 0 0)):=upd_same
 refine fromH (H:=upd H2 x (.ins CT dx (tF2 fx 0 0))) ?_ ?_
 ·first | rfl | exact upd_upd | (rw[upd_upd];rfl)
 revert k2 hL3 hx3
 generalize upd H2 x (.ins CT dx (tF2 fx 0 0))=H3
 intro k2 hL3 hx3
 refine⟨_,rfl,l,_,1,.str (seatT fx),rfl,rfl,SqL.of hL3,rfl,fx,rfl,ok,fun H4 s4=>⟨_,rfl,x,CT,dx,tF2 fx 0 0,rfl,s4 _ _ hx3,C.cl,C.nN,Nat.lt_of_le_of_lt (tF2_len _ _ _) (by decide),?_⟩⟩
 have k4:Keep x H (upd H4 x (.ins CT dx (tF3 fx 0 0))):=k2.trans ((Keep.of s4).trans Keep.upd)
 have hL5:(upd H4 x (.ins CT dx (tF3 fx 0 0))) l=some (.lst (vS [sizeT fx,seatT fx,wd fx.d,figS fx.pl,figS fx.tr])):=by rw[upd_ne nlx];exact s4 _ _ hL3
 have hx5:(upd H4 x (.ins CT dx (tF3 fx 0 0))) x=some (.ins CT dx (tF3 fx 0 0)):=upd_same
 refine fromH (H:=upd H4 x (.ins CT dx (tF3 fx 0 0))) ?_ ?_
 ·first | rfl | exact upd_upd | (rw[upd_upd];rfl)
 revert k4 hL5 hx5
 generalize upd H4 x (.ins CT dx (tF3 fx 0 0))=H5
 intro k4 hL5 hx5
 refine⟨_,rfl,l,_,2,.str (wd fx.d),rfl,rfl,SqL.of hL5,rfl,wd fx.d,rfl,fun i e y dy H6 s6 hy h6=>?_,fun z=>absurd (mem_wd _) z⟩
 have ei:=wd_inj _ _ e
 subst ei
 refine⟨fx.d,y,dy,[],rfl,h6,rfl,y,rfl,_,rfl,x,CT,dx,tF3 fx 0 0,rfl,s6 _ _ hx5,C.cl,C.nD,Nat.lt_of_le_of_lt (tF3_len _ _ _) (by decide),?_⟩
 have k6:Keep x H (upd H6 x (.ins CT dx (tF4 fx 0 0))):=k4.trans ((Keep.of s6).trans Keep.upd)
 have hL7:(upd H6 x (.ins CT dx (tF4 fx 0 0))) l=some (.lst (vS [sizeT fx,seatT fx,wd fx.d,figS fx.pl,figS fx.tr])):=by rw[upd_ne nlx];exact s6 _ _ hL5
 have hx7:(upd H6 x (.ins CT dx (tF4 fx 0 0))) x=some (.ins CT dx (tF4 fx 0 0)):=upd_same
 refine fromH (H:=upd H6 x (.ins CT dx (tF4 fx 0 0))) ?_ ?_
 ·first | rfl | exact upd_upd | (rw[upd_upd];rfl)
 revert k6 hL7 hx7
 generalize upd H6 x (.ins CT dx (tF4 fx 0 0))=H7
 intro k6 hL7 hx7
 refine⟨_,rfl,l,_,3,.str (figS fx.pl),rfl,rfl,SqL.of hL7,rfl,_,rfl,x,CT,dx,_,_,rfl,hx7,C.cl,C.nH,look4_heights _ _ _,fx.pl,fx.h,rfl,ok.h8,ok.pp,fun po H8 s8 hpo hP8=>⟨_,rfl,x,CT,dx,tF4 fx po 0,rfl,s8 _ _ hx7,C.cl,C.nP,Nat.lt_of_le_of_lt (tF4_len _ _ _) (by decide),?_⟩⟩
 have nox:po≠x:=fun z=>by
  rw[z,hx7] at hpo
  cases hpo
 have k8:Keep x H (upd H8 x (.ins CT dx (tF5 fx po 0))):=k6.trans ((Keep.of s8).trans Keep.upd)
 have hL9:(upd H8 x (.ins CT dx (tF5 fx po 0))) l=some (.lst (vS [sizeT fx,seatT fx,wd fx.d,figS fx.pl,figS fx.tr])):=by rw[upd_ne nlx];exact s8 _ _ hL7
 have hP9:(upd H8 x (.ins CT dx (tF5 fx po 0))) po=some (.tup (vN fx.pl)):=by rw[upd_ne nox];exact hP8
 have hx9:(upd H8 x (.ins CT dx (tF5 fx po 0))) x=some (.ins CT dx (tF5 fx po 0)):=upd_same
 refine fromH (H:=upd H8 x (.ins CT dx (tF5 fx po 0))) ?_ ?_
 ·first | rfl | exact upd_upd | (rw[upd_upd];rfl)
 revert k8 hL9 hP9 hx9
 generalize upd H8 x (.ins CT dx (tF5 fx po 0))=H9
 intro k8 hL9 hP9 hx9
 refine⟨_,rfl,l,_,4,.str (figS fx.tr),rfl,rfl,SqL.of hL9,rfl,_,rfl,x,CT,dx,_,_,rfl,hx9,C.cl,C.nH,look5_heights _ _ _,fx.tr,fx.h,rfl,ok.h8,ok.pt,fun to H10 s10 hto hT10=>⟨_,rfl,x,CT,dx,tF5 fx po to,rfl,s10 _ _ hx9,C.cl,C.nT,Nat.lt_of_le_of_lt (tF5_len _ _ _) (by decide),?_⟩⟩
 have ntx:to≠x:=fun z=>by
  rw[z,hx9] at hto
  cases hto
 refine⟨_,rfl,_,rfl,x,CT,dx,tF6 fx po to,rfl,upd_same,C.cl,C.nW,Nat.lt_of_le_of_lt (tF6_len _ _ _) (by decide),?_⟩
 rw[upd_upd]
 refine q po to _ (k8.trans ((Keep.of s10).trans Keep.upd)) upd_same ?_ ?_
 ·rw[upd_ne nox];exact s10 _ _ hP9
 ·rw[upd_ne ntx];exact hT10
end
end My
namespace My
open PySem L2
abbrev sTabDuty:Stmt:=inClass (top 40) 2
abbrev sTabOrder:Stmt:=inClass (top 40) 3
abbrev sGamInit:Stmt:=inClass (top 41) 0
section
variable{P:Program}{w:World}{K:PySem.W.Frag}{mg:Str→Option Value}{base:Heap}{f g:Addr}{fd gd:FuncData}
def spTDuty(CT:Addr):Sp:=fun vs H Q _=>∃(x:Addr) (f:Fx),vs=[.ref x]∧IsTab CT f H x∧Q (.str (wd f.d)) H
theorem scTDuty:FnScope ["self"] ["self"] (defScope sTabDuty):=⟨rfl,rfl,rfl,by decide +kernel,rfl,by decide +kernel,by decide +kernel⟩
theorem ok_tduty{k:Nat}{CT:Addr}(F:Fun K "duty" "Table.duty" sTabDuty f fd)(C:TabC K mg CT):FnOk P w K mg base CX0 (k+1) f fd ["self"] (spTDuty CT):=by
 refine F.ok scTDuty (fun vs H Q E h=>?_) (fun cdv A outer s H vs Q E hr h=>?_)
 ·obtain⟨x,fx,rfl,_⟩:=h
  rfl
 obtain⟨x,fx,rfl,⟨dx,po,to,hx,_,_⟩,q⟩:=h
 refine⟨_,pss_one (ps_ret (pe_fld (pv 0) rfl)),?_⟩
 exact⟨_,rfl,x,CT,dx,_,_,rfl,hx,C.cl,C.nD,look7_duty_word _ _ _,q⟩
def ordOf(f:Fx)(b:Bool):List Nat:=if b then f.tr else f.pl
def spTOrder(CT:Addr):Sp:=fun vs H Q _=>∃(x:Addr) (f:Fx) (b:Bool),vs=[.ref x,.bl b]∧IsTab CT f H x∧∀ l H',Same H H'→H l=none→H' l=some (.lst (vN (ordOf f b)))→Q (.ref l) H'
theorem scTOrder:FnScope ["self","is_trump"] ["self","is_trump"] (defScope sTabOrder):=⟨rfl,rfl,rfl,by decide +kernel,rfl,by decide +kernel,by decide +kernel⟩
theorem ok_torder{k:Nat}{CT:Addr}(F:Fun K "order" "Table.order" sTabOrder f fd)(C:TabC K mg CT)(mLi:mg "list" = none):FnOk P w K mg base CX0 (k+1) f fd ["self","is_trump"] (spTOrder CT):=by
 refine F.ok scTOrder (fun vs H Q E h=>?_) (fun cdv A outer s H vs Q E hr h=>?_)
 ·obtain⟨x,fx,b,rfl,_⟩:=h
  rfl
 obtain⟨x,fx,b,rfl,⟨dx,po,to,hx,hp,ht⟩,q⟩:=h
 refine⟨_,pss_one (ps_ret (pe_callTy call_list_of rfl mLi PyProof.Rows.boot_list (pa_cons (pe_ifExp (pt_truth (pv 1) (fun _=>rfl)) (pe_fld (pv 0) rfl) (pe_fld (pv 0) rfl)) pa_nil))),?_⟩
 refine⟨_,rfl,b,rfl,?_⟩
 cases b with
 | true=>exact iteT ⟨_,rfl,x,CT,dx,_,_,rfl,hx,C.cl,C.nT,look7_trump_order _ _ _,to,_,rfl,.inr (SqT.of ht),fun l hl=>q l _ (same_upd hl _) hl upd_same⟩
 | false=>exact iteF ⟨_,rfl,x,CT,dx,_,_,rfl,hx,C.cl,C.nP,look7_plain_order _ _ _,po,_,rfl,.inr (SqT.of hp),fun l hl=>q l _ (same_upd hl _) hl upd_same⟩
def spGam(CG:Addr):Sp:=fun vs H Q _=>∃(g dg x:Addr) (tv:V),vs=[.ref g,.ref x,tv]∧H g=some (.ins CG dg [])∧Q .non (upd H g (.ins CG dg (gamF x tv)))
theorem scGam:FnScope ["self","table","trump"] ["self","table","trump"] (defScope sGamInit):=⟨rfl,rfl,rfl,by decide +kernel,rfl,by decide +kernel,by decide +kernel⟩
theorem ok_gam{k:Nat}{CG:Addr}(F:FunD K "__init__" "Game.__init__" sGamInit f fd)(C:GamC K mg CG):FnOk P w K mg base CX0 (k+1) f fd ["self","table","trump"] (spGam CG):=by
 refine F.ok scGam (fun vs H Q E h=>?_) (fun cdv A outer s H vs Q E hr h=>?_)
 ·obtain⟨g,dg,x,tv,rfl,_⟩:=h
  rfl
 obtain⟨g,dg,x,tv,rfl,hg,q⟩:=h
 refine⟨_,pss_cons (ps_fld (pv 0) (pv 1) rfl) (pss_one (ps_fld (pv 0) (pv 2) rfl)),?_⟩
 refine⟨_,rfl,_,rfl,g,CG,dg,[],rfl,hg,C.cl,C.nT,by decide,?_⟩
 refine⟨_,rfl,_,rfl,g,CG,dg,putF "table" (.ref x) [],rfl,upd_same,C.cl,C.nU,Nat.lt_of_le_of_lt (length_putF _ _ _) (by decide),?_⟩
 rw[upd_upd]
 exact q
end
end My
namespace My
open PySem L2
def packL(s h:Nat):List Nat:=(List.range s).flatMap fun u=>(List.range h).map fun v=>8 * u+v
end My
namespace L2
open PySem PySem.Spec PyProof.Rows
end L2
namespace My
open PySem L2
def pos(x:Nat):List Nat→Nat
 | []=>0
 | y :: l=>if y=x then 0 else pos x l+1
theorem pos_at{x:Nat}:∀{l:List Nat},x∈l→l[pos x l]? = some x∧∀ m < pos x l,l[m]?≠some x
 | [],h=>nomatch h
 | y :: l,h=>by
  unfold pos
  by_cases c:y=x
  ·rw[if_pos c]
   exact⟨by rw[c];rfl,fun m hm=>absurd hm (Nat.not_lt_zero _)⟩
  ·rw[if_neg c]
   have hl:x∈l:=by
    rcases List.mem_cons.mp h with e | e
    ·exact absurd e.symm c
    ·exact e
   obtain⟨a,b⟩:=pos_at hl
   refine⟨a,fun m hm=>?_⟩
   cases m with
   | zero=>exact fun z=>c (Option.some.inj z)
   | succ m=>exact b m (by omega)
theorem pos_inj{l:List Nat}{x y:Nat}(hx:x∈l)(hy:y∈l)(e:pos x l=pos y l):x=y:=by
 have a:=(pos_at hx).1
 have b:=(pos_at hy).1
 rw[e,b] at a
 exact(Option.some.inj a).symm
def tvV:Option Nat→V
 | none=>.non
 | some t=>.int (t:Nat)
theorem tv_eq(t:Option Nat)(s:Nat):decide (V.int (s:Nat)=tvV t)=decide (t=some s):=by
 cases t with
 | none=>
  rw[decide_eq_false (fun z=>nomatch z),decide_eq_false (fun z=>nomatch z)]
 | some u=>
  by_cases c:s=u
  ·subst c
   rw[decide_eq_true (show V.int (s:Nat)=tvV (some s) from rfl),decide_eq_true rfl]
  ·rw[decide_eq_false (fun z=>c (by injection z with z;omega)),decide_eq_false (fun z=>c (Option.some.inj z).symm)]
theorem tv_scal(t:Option Nat)(s:Int):scal (.int s) (tvV t)=true:=by cases t<;>rfl
theorem tv_flat(t:Option Nat):flatV (tvV t)=true:=by cases t<;>rfl
def overB(f:Fx)(t:Option Nat)(c o led:Nat):Bool:=
 if c / 8=o / 8 then decide (c / 8=led∨t=some (c / 8)) && decide (pos (o % 8) (if t=some (c / 8) then f.tr else f.pl) < pos (c % 8) (if t=some (c / 8) then f.tr else f.pl))
 else if t=some (c / 8) then true else decide (c / 8=led) && !decide (t=some (o / 8))
theorem ov_same{f:Fx}{t:Option Nat}{c o led:Nat}(h:c / 8=o / 8):overB f t c o led=(decide (c / 8=led∨t=some (c / 8)) && decide (pos (o % 8) (if t=some (c / 8) then f.tr else f.pl) < pos (c % 8) (if t=some (c / 8) then f.tr else f.pl))):=if_pos h
theorem ov_diff{f:Fx}{t:Option Nat}{c o led:Nat}(h:¬ c / 8=o / 8):overB f t c o led=(if t=some (c / 8) then true else decide (c / 8=led) && !decide (t=some (o / 8))):=if_neg h
theorem over_strong{f:Fx}(ok:f.Ok){t:Option Nat}{c o led:Nat}(hc:c % 8 < f.h)(ho:o % 8 < f.h)(ne:c≠o)(s1:c / 8=led∨t=some (c / 8))(s2:o / 8=led∨t=some (o / 8)):overB f t c o led=true∨overB f t o c led=true:=by
 by_cases s:c / 8=o / 8
 ·rw[ov_same s,ov_same s.symm,← s,decide_eq_true s1,Bool.true_and,Bool.true_and,decide_eq_true_eq,decide_eq_true_eq]
  have hmem:∀ x,x < f.h→x∈(if t=some (c / 8) then f.tr else f.pl):=fun x hx=>by
   split
   ·exact ok.pt.symm.subset (List.mem_range.mpr hx)
   ·exact ok.pp.symm.subset (List.mem_range.mpr hx)
  have np:pos (c % 8) (if t=some (c / 8) then f.tr else f.pl)≠pos (o % 8) (if t=some (c / 8) then f.tr else f.pl):=fun z=>by
   have:=pos_inj (hmem _ hc) (hmem _ ho) z
   omega
  omega
 ·rw[ov_diff s,ov_diff (fun z=>s z.symm)]
  by_cases c1:t=some (c / 8)
  ·exact .inl (if_pos c1)
  ·by_cases c2:t=some (o / 8)
   ·exact .inr (if_pos c2)
   ·exfalso
    rcases s1 with s1 | s1
    ·rcases s2 with s2 | s2
     ·omega
     ·exact c2 s2
    ·exact c1 s1
theorem inV_two(s led:Nat)(t:Option Nat):inV (.int (s:Nat)) [tvV t,.int (led:Nat)]=decide (s=led∨t=some s):=by
 have e:inV (.int (s:Nat)) [tvV t,.int (led:Nat)]=(eqV (tvV t) (.int (s:Nat)) || (eqV (.int (led:Nat)) (.int (s:Nat)) || false)):=rfl
 rw[e]
 have e1:eqV (tvV t) (.int (s:Nat))=decide (t=some s):=by
  cases t with
  | none=>rw[decide_eq_false (fun z=>nomatch z)];rfl
  | some u=>
   show(((u:Nat):Int) == (s:Nat))=_
   by_cases c:u=s
   ·subst c;simp
   ·rw[decide_eq_false (fun z=>c (Option.some.inj z))]
    exact beq_eq_false_iff_ne.mpr (by omega)
 have e2:eqV (.int (led:Nat)) (.int (s:Nat))=decide (s=led):=by
  show(((led:Nat):Int) == (s:Nat))=_
  by_cases c:s=led
  ·subst c;simp
  ·rw[decide_eq_false c]
   exact beq_eq_false_iff_ne.mpr (by omega)
 rw[e1,e2]
 by_cases a:s=led<;>by_cases b:t=some s<;>simp [a,b]
theorem in_vN(x:Nat):∀(l:List Nat),inV (.int (x:Nat)) (vN l)=decide (x∈l)
 | []=>by rw[decide_eq_false (List.not_mem_nil)];rfl
 | y :: l=>by
  have e:inV (.int (x:Nat)) (vN (y :: l))=((((y:Nat):Int) == (x:Nat)) || inV (.int (x:Nat)) (vN l)):=rfl
  rw[e,in_vN x l]
  by_cases c:x=y
  ·subst c
   simp
  ·have b:(((y:Nat):Int) == (x:Nat))=false:=beq_eq_false_iff_ne.mpr (by omega)
   rw[b,Bool.false_or]
   by_cases d:x∈l
   ·rw[decide_eq_true d,decide_eq_true (List.mem_cons_of_mem _ d)]
   ·rw[decide_eq_false d,decide_eq_false fun z=>by
     rcases List.mem_cons.mp z with z | z
     ·exact c z
     ·exact d z]
theorem vN_flat:∀(l:List Nat),(vN l).all flatV=true
 | []=>rfl
 | _ :: l=>by
  show(true && (vN l).all flatV)=true
  rw[vN_flat l]
  rfl
theorem ix_vN{l:List Nat}{x:Nat}(h:x∈l):(l.map fun c=>((c:Nat):Int))[pos x l]? = some ((x:Nat):Int)∧∀ m < pos x l,(l.map fun c=>((c:Nat):Int))[m]?≠some ((x:Nat):Int):=by
 obtain⟨a,b⟩:=pos_at h
 refine⟨by rw[List.getElem?_map,a];rfl,fun m hm z=>?_⟩
 rw[List.getElem?_map] at z
 cases e:l[m]? with
 | none=>rw[e] at z;cases z
 | some y=>
  rw[e] at z
  have:((y:Nat):Int)=(x:Nat):=Option.some.inj z
  have ey:y=x:=by omega
  rw[ey] at e
  exact b m hm e
end My
namespace My
open PySem L2
abbrev sLater:Stmt:=top 39
abbrev sStronger:Stmt:=inClass (top 41) 2
abbrev sOver:Stmt:=inClass (top 41) 3
section
variable{P:Program}{w:World}{K:PySem.W.Frag}{mg:Str→Option Value}{base:Heap}{f g:Addr}{fd gd:FuncData}
theorem chg{a b:Bool}{A B:Prop}(e:a=b)(h:if b=true then A else B):if a=true then A else B:=by rw[e];exact h
theorem chgQ{a b:Bool}{Q:VK}{H:Hp}(e:a=b)(h:Q (.bl b) H):Q (.bl a) H:=by rw[e];exact h
def spLater(K:PySem.W.Frag):Sp:=fun vs H Q _=>∃(l:Addr) (ls:List Nat) (x y:Nat),vs=[.ref l,.int (x:Nat),.int (y:Nat)]∧SqL K H l (vN ls)∧ls.length≤1000∧x∈ls∧y∈ls∧Q (.bl (decide (pos y ls < pos x ls))) H
theorem scLater:FnScope ["order","height","other"] ["order","height","other"] (defScope sLater):=⟨rfl,rfl,rfl,by decide +kernel,rfl,by decide +kernel,by decide +kernel⟩
theorem ok_later{k:Nat}(F:Fun K "is_later" "is_later" sLater f fd):FnOk P w K mg base CX0 (k+1) f fd ["order","height","other"] (spLater K):=by
 refine F.ok scLater (fun vs H Q E h=>?_) (fun cdv A outer s H vs Q E hr h=>?_)
 ·obtain⟨l,ls,x,y,rfl,_⟩:=h
  rfl
 obtain⟨l,ls,x,y,rfl,hS,hl,hx,hy,q⟩:=h
 refine⟨_,pss_cons (ps_if (PW.pt (pw_or (pt_cmpR op_notIn_seq (pv 1) (pv 0) rfl) (pw_or1 (pt_cmpR op_notIn_seq (pv 2) (pv 0) rfl)))) (pss_one (ps_ret pe_bl)) pss_nil)
  (pss_one (ps_ret (pe_cmpR op_gt (pe_bm PySem.F.plainAttrs_list PySem.F.slot_list_index PySem.F.type_list_index mt_index (pv 0) (pa_cons (pv 1) pa_nil)) (pe_bm PySem.F.plainAttrs_list PySem.F.slot_list_index PySem.F.type_list_index mt_index (pv 0) (pa_cons (pv 2) pa_nil)) (nomark _)))),?_⟩
 refine⟨_,rfl,_,rfl,l,vN ls,rfl,.inl hS,rfl,vN_flat _,_,rfl,?_⟩
 show(if(!inV (.int (x:Nat)) (vN ls))=true then _ else _)
 rw[in_vN,decide_eq_true hx]
 refine iteF ⟨_,rfl,_,rfl,l,vN ls,rfl,.inl hS,rfl,vN_flat _,_,rfl,?_⟩
 show(if(!inV (.int (y:Nat)) (vN ls))=true then _ else _)
 rw[in_vN,decide_eq_true hy]
 refine iteF ?_
 have hS':SqL K H l ((ls.map fun c=>((c:Nat):Int)).map V.int):=by rw[← vN_ints];exact hS
 have ll:(ls.map fun c=>((c:Nat):Int)).length≤1000:=by rw[List.length_map];exact hl
 refine⟨_,rfl,.inl ⟨rfl,_,hS⟩,_,rfl,l,_,_,pos x ls,rfl,rfl,hS',ll,(ix_vN hx).1,(ix_vN hx).2,?_⟩
 refine⟨_,rfl,.inl ⟨rfl,_,hS⟩,_,rfl,l,_,_,pos y ls,rfl,rfl,hS',ll,(ix_vN hy).1,(ix_vN hy).2,_,_,rfl,rfl,?_⟩
 have e:decide (((pos y ls:Nat):Int) < ((pos x ls:Nat):Int))=decide (pos y ls < pos x ls):=by
  by_cases c:pos y ls < pos x ls
  ·rw[decide_eq_true c,decide_eq_true (by omega)]
  ·rw[decide_eq_false c,decide_eq_false (by omega)]
 show Q (.bl (decide (((pos y ls:Nat):Int) < ((pos x ls:Nat):Int)))) H
 rw[e]
 exact q
def ordT(f:Fx)(t:Option Nat)(c:Nat):List Nat:=if t=some (c / 8) then f.tr else f.pl
theorem ordT_mem{f:Fx}(ok:f.Ok){t:Option Nat}{c x:Nat}(hx:x < f.h):x∈ordT f t c:=by
 unfold ordT
 split
 ·exact ok.pt.symm.subset (List.mem_range.mpr hx)
 ·exact ok.pp.symm.subset (List.mem_range.mpr hx)
theorem ordT_len{f:Fx}(ok:f.Ok){t:Option Nat}{c:Nat}:(ordT f t c).length≤1000:=by
 have h8:=ok.h8
 unfold ordT
 split
 ·rw[perm_len ok.pt];omega
 ·rw[perm_len ok.pp];omega
def spStronger(CT CG:Addr):Sp:=fun vs H Q _=>∃(gm x:Addr) (t:Option Nat) (f:Fx) (c o:Nat),vs=[.ref gm,.int (c:Nat),.int (o:Nat)]∧f.Ok∧IsGam CG x (tvV t) H gm∧IsTab CT f H x∧c % 8 < f.h∧o % 8 < f.h∧∀ H',Same H H'→Q (.bl (decide (pos (o % 8) (ordT f t c) < pos (c % 8) (ordT f t c)))) H'
theorem scStronger:FnScope ["self","card","other","order"] ["self","card","other"] (defScope sStronger):=⟨rfl,rfl,rfl,by decide +kernel,rfl,by decide +kernel,by decide +kernel⟩
theorem ok_stronger{k:Nat}{CT CG f1 m3:Addr}{d1 e3:FuncData}{t1:Tok}(F:Fun K "is_stronger" "Game.is_stronger" sStronger f fd)(C:TabC K mg CT)(CGm:GamC K mg CG)(LL:Lib P w K mg base k "is_later" ["order","height","other"] (spLater K) f1 d1)
  (MO:Meth K CT "order" m3) (FO:FnOk P w K mg base CX0 k m3 e3 ["self","is_trump"] (spTOrder CT)) (BO:Binds K e3 ["self","is_trump"] []) (mH:mg "HEIGHTS" = some (.int 8 t1)):FnOk P w K mg base CX0 (k+1) f fd ["self","card","other"] (spStronger CT CG):=by
 refine F.ok scStronger (fun vs H Q E h=>?_) (fun cdv A outer s H vs Q E hr h=>?_)
 ·obtain⟨gm,x,t,fx,c,o,rfl,_⟩:=h
  rfl
 obtain⟨gm,x,t,fx,c,o,rfl,ok,hg,ht,hc,ho,q⟩:=h
 refine⟨_,pss_cons (ps_set (i:=3) scStronger.nd rfl (Or.inl rfl) (pe_meth (pe_fld (pv 0) rfl) C.cl MO FO hr BO .nil pass0 (pa_cons (pe_cmpR op_eq (pe_op op_fdiv (pv 1) (pe_glob (v:=.int 8) rfl mH ⟨_,rfl⟩)) (pe_fld (pv 0) rfl) (nomark _)) pa_nil)))
  (pss_one (ps_ret (pe_call LL.ok hr rfl LL.mg LL.kp LL.bd .nil pass0 (pa_cons (pv 3) (pa_cons (pe_op op_mod (pv 1) (pe_glob (v:=.int 8) rfl mH ⟨_,rfl⟩)) (pa_cons (pe_op op_mod (pv 2) (pe_glob (v:=.int 8) rfl mH ⟨_,rfl⟩)) pa_nil)))))),?_⟩
 obtain⟨dg,hG⟩:=id hg
 obtain⟨dx,po,to,hX,_,_⟩:=id ht
 have e1:((c:Nat):Int) / 8=((c / 8:Nat):Int):=by omega
 refine⟨_,rfl,gm,CG,dg,_,_,rfl,hG,CGm.cl,CGm.nT,gam_table _ _,x,dx,_,rfl,hX,look7_order _ _ _,?_⟩
 refine⟨_,rfl,_,_,rfl,rfl,⟨by decide,by decide⟩,_,rfl,gm,CG,dg,_,_,rfl,hG,CGm.cl,CGm.nU,gam_trump _ _,tv_scal _ _,x,fx,decide (t=some (c / 8)),?_,ht,fun l H1 s1 hl hL=>?_⟩
 ·show V.ref x :: ([V.bl (decide (V.int (((c:Nat):Int) / 8)=tvV t))]++[])=[V.ref x,V.bl (decide (t=some (c / 8)))]
  rw[e1,tv_eq]
  rfl
 have eo:ordOf fx (decide (t=some (c / 8)))=ordT fx t c:=by
  unfold ordOf ordT
  by_cases z:t=some (c / 8)
  ·rw[if_pos z,if_pos (decide_eq_true z)]
  ·rw[if_neg z,if_neg (by rw[decide_eq_false z];decide)]
 rw[eo] at hL
 have e2:((c:Nat):Int) % 8=((c % 8:Nat):Int):=by omega
 have e3:((o:Nat):Int) % 8=((o % 8:Nat):Int):=by omega
 refine⟨_,rfl,_,rfl,_,_,rfl,rfl,(show(0:Int) < 8 by decide),_,rfl,_,_,rfl,rfl,(show(0:Int) < 8 by decide),l,ordT fx t c,c % 8,o % 8,?_,SqL.of hL,ordT_len ok,ordT_mem ok hc,ordT_mem ok ho,q _ s1⟩
 dsimp only
 rw[e2,e3]
 rfl
def spOver(CT CG:Addr):Sp:=fun vs H Q _=>∃(gm x:Addr) (t:Option Nat) (f:Fx) (c o led:Nat),vs=[.ref gm,.int (c:Nat),.int (o:Nat),.int (led:Nat)]∧f.Ok∧IsGam CG x (tvV t) H gm∧IsTab CT f H x∧c % 8 < f.h∧o % 8 < f.h∧∀ H',Same H H'→Q (.bl (overB f t c o led)) H'
abbrev pOver:List Str:=["self","card","other","led"]
theorem scOver:FnScope ["self","card","other","led","suit"] pOver (defScope sOver):=⟨rfl,rfl,rfl,by decide +kernel,rfl,by decide +kernel,by decide +kernel⟩
theorem dec_nat(a b:Nat):decide (V.int (a:Nat)=V.int (b:Nat))=decide (a=b):=by
 by_cases c:a=b
 ·subst c
  rw[decide_eq_true rfl,decide_eq_true rfl]
 ·rw[decide_eq_false c,decide_eq_false (fun z=>c (by injection z with z;omega))]
theorem ok_over{k:Nat}{CT CG m3:Addr}{e3:FuncData}{t1:Tok}(F:Fun K "is_over" "Game.is_over" sOver f fd)(CGm:GamC K mg CG)(MS:Meth K CG "is_stronger" m3)(FS:FnOk P w K mg base CX0 k m3 e3 ["self","card","other"] (spStronger CT CG))(BS:Binds K e3 ["self","card","other"] [])(mH:mg "HEIGHTS" = some (.int 8 t1)) :
  FnOk P w K mg base CX0 (k+1) f fd pOver (spOver CT CG):=by
 refine F.ok scOver (fun vs H Q E h=>?_) (fun cdv A outer s H vs Q E hr h=>?_)
 ·obtain⟨gm,x,t,fx,c,o,led,rfl,_⟩:=h
  rfl
 obtain⟨gm,x,t,fx,c,o,led,rfl,ok,hg,ht,hc,ho,q⟩:=h
 refine⟨_,pss_cons (ps_set (i:=4) scOver.nd rfl (Or.inl rfl) (pe_op op_fdiv (pv 1) (pe_glob (v:=.int 8) rfl mH ⟨_,rfl⟩)))
  (pss_cons (ps_if (pt_cmpR op_eq (pv 4) (pe_op op_fdiv (pv 2) (pe_glob (v:=.int 8) rfl mH ⟨_,rfl⟩)) (nomark _)) (pss_one (ps_ret (pe_and (pe_cmpR op_in_seq (pv 4) (pe_tup (pa_cons (pe_fld (pv 0) rfl) (pa_cons (pv 3) pa_nil))) rfl) (pe_one (pe_meth (pv 0) CGm.cl MS FS hr BS .nil pass0 (pa_cons (pv 1) (pa_cons (pv 2) pa_nil))))))) pss_nil)
  (pss_cons (ps_if (pt_cmpR op_eq (pv 4) (pe_fld (pv 0) rfl) (nomark _)) (pss_one (ps_ret pe_bl)) pss_nil)
  (pss_one (ps_ret (pe_and (pe_cmpR op_eq (pv 4) (pv 3) (nomark _)) (pe_one (pe_cmpR op_ne (pe_op op_fdiv (pv 2) (pe_glob (v:=.int 8) rfl mH ⟨_,rfl⟩)) (pe_fld (pv 0) rfl) (nomark _)))))))),?_⟩
 obtain⟨dg,hG⟩:=id hg
 have e1:((c:Nat):Int) / 8=((c / 8:Nat):Int):=by omega
 have e2:((o:Nat):Int) / 8=((o / 8:Nat):Int):=by omega
 refine⟨_,rfl,_,_,rfl,rfl,⟨by decide,by decide⟩,?_⟩
 dsimp only
 rw[e1]
 refine⟨_,rfl,_,rfl,_,_,rfl,rfl,⟨by decide,by decide⟩,rfl,_,rfl,?_⟩
 refine chg (congrArg (fun z=>decide (V.int ((c / 8:Nat):Int)=V.int z)) e2) ?_
 rw[dec_nat]
 by_cases sm:c / 8=o / 8
 ·rw[decide_eq_true sm]
  refine iteT ⟨_,rfl,_,rfl,gm,CG,dg,_,_,rfl,hG,CGm.cl,CGm.nU,gam_trump _ _,_,rfl,fits3 2 (by decide),fun p hp=>?_⟩
  have s1:=same_upd hp (.tup [tvV t,.int (led:Nat)])
  have fl:[tvV t,V.int (led:Nat)].all flatV=true:=by
   show(flatV (tvV t) && (true && true))=true
   rw[tv_flat]
   rfl
  refine⟨p,[tvV t,.int (led:Nat)],rfl,.inr (SqT.of upd_same),rfl,fl,?_⟩
  show ∃ b,V.bl (inV (.int ((c / 8:Nat):Int)) [tvV t,.int (led:Nat)])=_∧_
  rw[inV_two]
  refine⟨_,rfl,?_⟩
  by_cases sg:c / 8=led∨t=some (c / 8)
  ·rw[decide_eq_true sg]
   refine iteT ⟨_,rfl,gm,dg,_,rfl,s1 _ _ hG,gam_none _ _ _ (by decide +kernel) (by decide +kernel),_,rfl,_,rfl,gm,x,t,fx,c,o,rfl,ok,hg.same s1,ht.same s1,hc,ho,fun H2 s2=>?_⟩
   have z:=q H2 (s1.trans s2)
   rw[ov_same sm,decide_eq_true sg,Bool.true_and] at z
   exact z
  ·rw[decide_eq_false sg]
   refine iteF ?_
   have z:=q _ s1
   rw[ov_same sm,decide_eq_false sg,Bool.false_and] at z
   exact z
 ·rw[decide_eq_false sm]
  refine iteF ⟨_,rfl,_,rfl,gm,CG,dg,_,_,rfl,hG,CGm.cl,CGm.nU,gam_trump _ _,tv_scal _ _,_,rfl,?_⟩
  have z:=q H (Same.refl _)
  rw[ov_diff sm] at z
  rw[tv_eq]
  by_cases c1:t=some (c / 8)
  ·rw[decide_eq_true c1]
   rw[if_pos c1] at z
   exact iteT z
  ·rw[decide_eq_false c1]
   rw[if_neg c1] at z
   refine iteF ⟨_,rfl,_,rfl,rfl,_,rfl,?_⟩
   rw[dec_nat]
   by_cases c2:c / 8=led
   ·rw[decide_eq_true c2]
    rw[decide_eq_true c2,Bool.true_and] at z
    refine iteT ⟨_,rfl,_,_,rfl,rfl,⟨by decide,by decide⟩,_,rfl,gm,CG,dg,_,_,rfl,hG,CGm.cl,CGm.nU,gam_trump _ _,tv_scal _ _,?_⟩
    refine chgQ (congrArg (fun z=>(!decide (V.int z=tvV t))) e2) ?_
    rw[tv_eq]
    exact z
   ·rw[decide_eq_false c2]
    rw[decide_eq_false c2,Bool.false_and] at z
    exact iteF z
end
end My
namespace L2
open PySem PySem.Spec PyProof.Rows
open AutoSeq1 (wpAny_loadPart')
section
variable{prog:Program}{w:World}{A:Around}{E:Value→Shared→Prop}{s:Shared}{it t:Addr}{i:Nat}{items:Array Value}
theorem nextOf_tup{x:Value}{Q:Value→Shared→Prop}(hI:s.heap.IsTupleIter it t i)(hT:s.heap.IsTuple t items)(hx:items[i]? = some x)
  (q:∀ h',h'.IsTupleIter it t (i+1)→Heap.SameBut it s.heap h'→Q x { s with heap:=h' }):wpAny (model prog w) A (Builtin.SmallTypes.nextOf (.ref it)) Q E s:=by
 obtain⟨o,g1,g2,g3⟩:=id hI
 obtain⟨ot,k1,_,_,k2⟩:=hT
 unfold Builtin.SmallTypes.nextOf
 refine wpAny_bind (wpAny_callSpecial?_slot (name:=Str.ofString "__next__") hI.typeIs F.slot_tuple_iterator_next (wpAny_call_entry F.slot_tuple_iterator_next hI.typeIs F.entry_tuple_iterator_next ?_ (F.args_tuple_iterator_next_1 _)))
 show wpAny _ _ (field (.ref it) 0 >>= _) _ _ s;refine wpAny_bind (wpAny_field g1 g3 (x:=.ref t) rfl ?_)
 show wpAny _ _ (if(Value.ref t == Value.none)=true then _ else _) _ _ s;rw[if_neg (show ¬ ((Value.ref t == Value.none)=true) from Bool.false_ne_true)]
 show wpAny _ _ (field (.ref it) 1 >>= _) _ _ s;refine wpAny_bind (wpAny_field g1 g3 (x:=.int i 0) rfl ?_)
 show wpAny _ _ (seqItems? (.ref t) >>= _) _ _ s;refine wpAny_bind (wpAny_seqItems k1 k2 ?_)
 simp only[Int.toNat_natCast,hx]
 exact wpAny_bind (wpAny_setField g1 g3 (by simp) (wpAny_pure ⟨x,rfl,wpAny_pure (q _ ⟨_,Heap.get?_update_self _ g1 (Obj.isFreed_of_fields (Obj.data_mapFields g3 _)),(Obj.cls_mapFields ..).trans g2,by rw[Obj.data_mapFields g3];simp [rawInt]⟩ (Heap.SameBut.update ..))⟩))
theorem nextOf_tupE{Q:Value→Shared→Prop}(hh:A.handled=none)(hI:s.heap.IsTupleIter it t i)(hT:s.heap.IsTuple t items)(hx:items[i]? = none)
  (q:∀ h' e,Heap.ExtBut it s.heap h'→(∃ o,h'.get? e=some o∧o.cls = .type "StopIteration")→E (.ref e) { s with heap:=h' }):wpAny (model prog w) A (Builtin.SmallTypes.nextOf (.ref it)) Q E s:=by
 obtain⟨o,g1,g2,g3⟩:=id hI
 obtain⟨ot,k1,_,_,k2⟩:=hT
 unfold Builtin.SmallTypes.nextOf
 refine wpAny_bind (wpAny_callSpecial?_slot (name:=Str.ofString "__next__") hI.typeIs F.slot_tuple_iterator_next (wpAny_call_entry F.slot_tuple_iterator_next hI.typeIs F.entry_tuple_iterator_next ?_ (F.args_tuple_iterator_next_1 _)))
 show wpAny _ _ (field (.ref it) 0 >>= _) _ _ s;refine wpAny_bind (wpAny_field g1 g3 (x:=.ref t) rfl ?_)
 show wpAny _ _ (if(Value.ref t == Value.none)=true then _ else _) _ _ s;rw[if_neg (show ¬ ((Value.ref t == Value.none)=true) from Bool.false_ne_true)]
 show wpAny _ _ (field (.ref it) 1 >>= _) _ _ s;refine wpAny_bind (wpAny_field g1 g3 (x:=.int i 0) rfl ?_)
 show wpAny _ _ (seqItems? (.ref t) >>= _) _ _ s;refine wpAny_bind (wpAny_seqItems k1 k2 ?_)
 simp only[Int.toNat_natCast,hx]
 refine wpAny_bind (wpAny_rule (wpAny_bind (wpAny_setField g1 g3 (by simp) ?_)))
 show wpAny _ _ (newExc (.type "StopIteration") [] >>= _) _ _ _;refine wpAny_bind ?_
 simp only[newExc,newTuple]
 refine wpAny_bind (wpAny_newObj_type (wpAny_bind (m:=firstArgMember _ _) (wpAny_of_eq (a:=Value.none) (by first | rfl | (simp only[firstArgMember];rfl)) (wpAny_newObj_type ?_ (by size_fits)))) (by size_fits))
 simp only[raiseNew]
 refine wpAny_bind (wpAny_handled ?_);first | rw[show A.in1.handled=none from hh] | rw[hh]
 exact wpAny_bind (wpAny_pure (wpAny_throw (q _ _ (((Heap.SameBut.update ..).extBut.push _).push _) ⟨_,Heap.get?_push_size _ rfl,rfl⟩)))
end
theorem draws_tup{prog:Program}{w:World}{A:Around}(hh:A.handled=none)(it t:Addr)(hne:t≠it)(items:Array Value) :
  Draws prog w A it [it,t] items.size (fun i v=>items[i]? = some v) (fun i h=>h.IsTupleIter it t i∧h.IsTuple t items) where
 live:=fun _ _ z=>let ⟨o,ho,_⟩:=z.1;⟨o,ho⟩
 frame:=fun _ _ _ z k=>⟨z.1.at fun o e=>k it (by simp) o e,let ⟨o,ho,r⟩:=z.2;⟨o,k t (by simp) o ho,r⟩⟩
 item:=fun i s Q E hi z q=>by
  refine nextOf_tup z.1 z.2 (x:=items[i]) (by simp [hi]) fun h' a b=>?_
  obtain⟨o,ho,r⟩:=z.2
  exact q _ h' s.toks (by simp [hi]) ⟨a,o,b.extBut t o hne ho,r⟩ b
 done:=fun s Q E z q=>nextOf_tupE hh z.1 z.2 (by simp) q
theorem meets_enumT(l:Addr)(items:Array Value)(n:Nat)(dct:Option Addr)(sl:Array (Option Value)) :
  Meets (Builtin.«enumerate.__new__» ⟨[.type "enumerate",.ref l],[]⟩) (fun _ R s=>s.heap.get? l=some { cls:=.type "tuple",dict:=dct,data:=.seq items n,slots:=sl } ∧
   R (.ok (.ret (.ref (s.heap.push { cls:=.type "tuple_iterator",data:=.fields #[.ref l,.int 0 0] }).objs.size)))
    { s with heap:=(s.heap.push { cls:=.type "tuple_iterator",data:=.fields #[.ref l,.int 0 0] }).push { cls:=.type "enumerate",data:=.fields #[.none,.bool false,.ref s.heap.objs.size,rawInt 0,.none,.none] } }):=
 .of_wp fun prog w A R s h=>by
  obtain⟨hp,g,d,tk,os⟩:=s
  obtain⟨hl,h⟩:=h
  have hq:=sub_enumerate
  have hT:Heap.IsTuple (Shared.heap ⟨hp,g,d,tk,os⟩) l items:=⟨_,hl,rfl,n,rfl⟩
  wp_walk using wpAny_loadPart' hl
  refine wpAny_stack_any fun _=>wpAny_pure ?_
  split
  ·rename_i c _ _ _ _ _
   cases (c == Value.type "enumerate")<;>(wp_walk using wpAny_loadPart' hl,wpAny_pyIter_tuple hT;exact⟨_,rfl,h⟩)
  ·wp_walk using wpAny_loadPart' hl,wpAny_pyIter_tuple hT
   exact⟨_,rfl,h⟩
theorem call_enumT{prog:Program}{w:World}{A:Around}{E:Value→Shared→Prop}{s:Shared}{l:Addr}{items:Array Value}{Q:Value→Shared→Prop}(hT:s.heap.IsTuple l items)
  (q:∀ h',IsEnum h' (s.heap.objs.size+1) s.heap.objs.size 0 .none→h'.IsTupleIter s.heap.objs.size l 0→h'.objs.size=s.heap.objs.size+2→(∀ b o,s.heap.get? b=some o→h'.get? b=some o)→Q (.ref (s.heap.objs.size+1)) { s with heap:=h' }) :
  wpAny (model prog w) A (call (.type "enumerate") [.ref l]) Q E s:=by
 obtain⟨⟨c,dct,dt,sl⟩,hl,hc,n,hd⟩:=hT
 replace hc:c = .type "tuple":=hc
 replace hd:dt = .seq items n:=hd
 subst hc hd
 refine callType_new F.called_enumerate (by decide) (F.typeCall_enumerate_1 _) (F.newCall_enumerate_1 _) (fun ob=>F.args_object_init_2 ob _) F.entry_enumerate_new (meets_enumT l items n dct sl) ⟨hl,?_⟩
 have hz:(s.heap.push { cls:=.type "tuple_iterator",data:=.fields #[.ref l,.int 0 0] }).objs.size=s.heap.objs.size+1:=Heap.size_push ..
 show _∧_;rw[hz]
 have he:IsEnum ((s.heap.push { cls:=.type "tuple_iterator",data:=.fields #[.ref l,.int 0 0] }).push { cls:=.type "enumerate",data:=.fields #[.none,.bool false,.ref s.heap.objs.size,rawInt 0,.none,.none] }) (s.heap.objs.size+1) s.heap.objs.size 0 .none:=by
  have z:=Heap.get?_push_size (s.heap.push { cls:=.type "tuple_iterator",data:=.fields #[.ref l,.int 0 0] }) (o:={ cls:=.type "enumerate",data:=.fields #[.none,.bool false,.ref s.heap.objs.size,rawInt 0,.none,.none] }) rfl
  rw[hz] at z;exact z
 exact⟨⟨_,he,rfl⟩,q _ he ⟨_,Heap.get?_push_of_some _ (Heap.get?_push_size _ rfl),rfl,rfl⟩ (by rw[Heap.size_push,hz]) fun b o x=>Heap.get?_push_of_some _ (Heap.get?_push_of_some _ x)⟩
def IteT(K:PySem.W.Frag)(a:Addr):It:=
 ⟨fun i H=>∃ xs x,SqT K H a xs∧xs[i]? = some x,fun i H v H'=>∃ p x,v = .ref p∧H p=none∧H'=upd H p (.tup [.int (i:Nat),x])∧∀ xs,SqT K H a xs→xs[i]? = some x,fun i H=>∃ xs,SqT K H a xs∧xs.length≤i⟩
theorem turn_enumT{P:Program}{w:World}{K:PySem.W.Frag}{es:List Expr}{x1}{tp:Pos}(a e it:Addr)(hne:e≠it):Turn P w K (.Tuple es x1 tp) (IteT K a) [e,it] e (fun i h=>(∃ old,IsEnum h e it i old)∧h.IsTupleIter it a i) where
  mem:=by simp
  obj:=fun i h st b hb=>by
    obtain⟨⟨old,he⟩,⟨o,ho,c,d⟩⟩:=st
    rcases List.mem_cons.mp hb with rfl | hb
    · exact⟨_,he,fun v z=>by cases z⟩
    · have q:b=it:=by simpa using hb
      subst q
      exact⟨o,ho,fun v z=>by rw[d] at z;cases z⟩
  keep:=fun i h h' st k=>by
    obtain⟨⟨old,he⟩,hi⟩:=st
    exact⟨⟨old,k e (by simp) _ he⟩,hi.at fun o q=>k it (by simp) o q⟩
  item:=by
    intro X hP hw hK hc i pins s σ H E I hf st hg
    subst hP hw hK
    obtain⟨xs,x,hq,hx⟩:=hg
    obtain⟨⟨old,he⟩,hit⟩:=st
    obtain⟨its,rv,p,hz⟩:=I.tuple hq
    obtain⟨u,hu,ru⟩:=rv.get hx
    obtain⟨a0,a1,a2,a3,a4,a5⟩:=hf e (by simp)
    obtain⟨f0,f1,f2,f3,f4,f5⟩:=hf it (by simp)
    have pT:s.heap.IsTuple a its.toArray:=p
    obtain⟨oi,hoi,ci,di⟩:=id hit
    obtain⟨oa,hoa,ca,_⟩:=id pT
    have n1:a≠it:=fun z=>by
      rw[z,hoi] at hoa
      cases hoa
      rw[ca] at ci
      exact absurd ci (by decide)
    have n2:a≠e:=fun z=>by
      rw[z,he] at hoa
      cases hoa
      exact absurd (show Value.type "enumerate" = Value.type "tuple" from ca) (by decide)
    refine wpAny_pyNext_enum_itemD (draws_tup (A:=X.A.in1) (I.ok.hd hc) it a n1 its.toArray) he ⟨hit,pT⟩ (by
      have:=(List.getElem?_eq_some_iff.mp hu).1
      simpa using this) hne (by
        intro z
        rcases List.mem_cons.mp z with z | z
        · exact hne z
        · exact n2 (List.mem_singleton.mp z).symm) fun x' h' tk hx' eo hst ht hsz hk=>⟨_,rfl,?_⟩
    have ex:x'=u:=by
      have z:its[i]? = some x':=by simpa using hx'
      rw[hu] at z
      exact(Option.some.inj z).symm
    subst ex
    refine wpAny_letOwnedTupleGo_enum eo fun h2 he2 sb2=>?_
    have sb2':Heap.SameBut e h' h2:=sb2
    have hn:H s.heap.objs.size=none:=I.fresh
    have le:e < s.heap.objs.size:=Heap.lt_size he
    have li:it < s.heap.objs.size:=Heap.lt_size hoi
    have I1:Inv X pins σ (upd H s.heap.objs.size (.tup [.int (i:Nat),x])) { s with heap:=s.heap.push { cls:=.type "tuple",data:=.seq #[.int i tk,x'] },toks:=tk+1 }:=
      I.laid (t':=tk+1) (fun b ob q=>Heap.get?_push_of_some _ q) (Nat.le_refl _) ⟨by rw[sizeLine_eq];show 2≤_;decide,[.int i tk,x'],.cons ⟨_,rfl⟩ (.cons ru .nil),IsTup.new _ _⟩
    obtain⟨oi2,hoi2,ci2,di2⟩:=id hst.1
    have hoi3:h2.get? it=some oi2:=(sb2'.2 it (Ne.symm hne)).trans hoi2
    have gi:((s.heap.push { cls:=.type "tuple",data:=.seq #[.int i tk,x'] }).update it (fun _=>oi2)).get? it=some oi2:=Heap.get?_update_self _ (Heap.get?_push_of_some _ hoi) (Obj.isFreed_of_fields di2)
    have I2:=I1.turned (h':=(s.heap.push { cls:=.type "tuple",data:=.seq #[.int i tk,x'] }).update it (fun _=>oi2)) (t':=tk+1) (it:=it) (fun b o hb q=>(Heap.get?_update_other _ _ (Ne.symm hb)).trans q) (by rw[upd_ne (Nat.ne_of_lt li)];exact f0) f1 f3 f4 f5
    have I3:=I2.turned (h':=h2) (t':=tk+1) (it:=e) (fun b o hb q=>by
      by_cases c:b=it
      · subst c
        have q':=gi.symm.trans q
        cases q'
        exact hoi3
      · have q1:(s.heap.push { cls:=.type "tuple",data:=.seq #[.int i tk,x'] }).get? b=some o:=(Heap.get?_update_other _ _ (Ne.symm c)).symm.trans q
        by_cases d:b=s.heap.objs.size
        · subst d
          have q2:=(Heap.get?_push_size s.heap (o:={ cls:=.type "tuple",data:=.seq #[.int i tk,x'] }) rfl).symm.trans q1
          cases q2
          exact(sb2'.2 _ hb).trans ht
        · rw[Heap.get?_push_ne _ _ _ d] at q1
          exact(sb2'.2 b hb).trans (hk b o hb c q1)) (by rw[upd_ne (Nat.ne_of_lt le)];exact a0) a1 a3 a4 a5
    refine⟨.ref s.heap.objs.size,_,I3,rfl,⟨s.heap.objs.size,x,rfl,hn,rfl,fun ys hy=>by rw[I.tuple_inj hy hq];exact hx⟩,⟨⟨_,he2⟩,oi2,hoi3,ci2,di2⟩,fun b hb=>?_⟩
    rcases List.mem_cons.mp hb with rfl | hb
    · rw[upd_ne (Nat.ne_of_lt le)];exact a0
    · have q:b=it:=by simpa using hb
      subst q
      rw[upd_ne (Nat.ne_of_lt li)];exact f0
  done:=by
    intro X hP hw hK hc i pins s σ H E I hf st hg
    subst hP hw hK
    obtain⟨xs,hq,hx⟩:=hg
    obtain⟨⟨old,he⟩,hit⟩:=st
    obtain⟨its,rv,p,hz⟩:=I.tuple hq
    have pT:s.heap.IsTuple a its.toArray:=p
    obtain⟨f0,f1,f2,f3,f4,f5⟩:=hf it (by simp)
    have hl:=rv.length
    have hT:s.TypeIs (.ref e) "enumerate":=⟨_,he,rfl⟩
    unfold pyNext
    refine wpAny_bind (wpAny_attempt (wpAny_callSpecial?_slot (name:=Str.ofString "__next__") hT F.slot_enumerate_next (wpAny_call_entry F.slot_enumerate_next hT F.entry_enumerate_next ?_ (F.args_enumerate_next_1 _))))
    show wpAny _ _ (field (.ref e) 2 >>= _) _ _ _;refine wpAny_bind (wpAny_field he rfl (x:=.ref it) rfl ?_)
    refine wpAny_bind (nextOf_tupE (I.ok.hd hc) hit pT (by simp;omega) fun h' x eb hx'=>?_)
    obtain⟨o,ho,hc'⟩:=hx'
    exact wpAny_bind (wpAny_isInstance (T:="StopIteration") (b:=true) ⟨o,ho,hc'⟩ isSubtype_stop (wpAny_pure ⟨rfl,I.turned (t':=s.toks) (fun b o hb e=>eb b o hb e) f0 f1 f3 f4 f5⟩))
  self:=fun _ _ _ _ _ st h=>by
    obtain⟨⟨old,he⟩,_⟩:=st
    exact wpAny_pyIter_enum he h
section
variable{X:Cx}
def iEnumT(K:PySem.W.Frag)(ta:TA):TI:=fun σ H R=>ta σ H fun vs H1=>∃ a xs,vs=[.ref a]∧SqT K H1 a xs∧R (IteT K a) H1
theorem pi_enumT{es:List Expr}{x1}{tp p pos:Pos}{l:Expr}{ta:TA}(hg:Gl X "enumerate")(hm:X.mg "enumerate" = none)(ha:PA X [l] ta)(hs:starEach [l] X.env=[(false,eval l X.env)]:=by rfl):PI X (.Tuple es x1 tp) (.Call (.Name "enumerate" p) [l] [] pos) (iEnumT X.K ta):=by
 intro pins s σ H R I h
 refine Call_ (ld_blt I hg hm boot_enumerate (PyProof.Rows.callWith_type1 (thn (ha pos pins s σ H _ I h) fun us s1 ⟨vs,H1,I1,r1,q1⟩=>?_) hs rfl))
 obtain⟨a,xs,rfl,hL,q⟩:=q1
 obtain⟨u,rfl,ru⟩:=vals1 r1
 cases ru
 obtain⟨its,rv,pT,hz⟩:=I1.tuple hL
 refine call_enumT (show s1.heap.IsTuple a its.toArray from pT) fun h' en li sz hk=>?_
 have I2:Inv X pins σ H1 { s1 with heap:=h' }:=I1.kept (t':=s1.toks) hk
 refine wpAny_pyIter_enum en ⟨s1.heap.objs.size+1,[s1.heap.objs.size+1,s1.heap.objs.size],_,IteT X.K a,H1,rfl,I2,turn_enumT a _ _ (Nat.succ_ne_self _),⟨⟨_,en⟩,li⟩,fun b hb=>?_,q⟩
 have hb':s1.heap.objs.size≤b:=by
  rcases List.mem_cons.mp hb with rfl | hb
  ·exact Nat.le_succ _
  ·have q:b=s1.heap.objs.size:=by simpa using hb
   rw[q]
   exact Nat.le_refl _
 exact I1.fpOk (H':=H1) hb' (I1.hok.fresh hb')
end
end L2
namespace My
open PySem L2
theorem pos_le(x:Nat):∀ l:List Nat,pos x l≤l.length
 | []=>Nat.le_refl _
 | y :: l=>by
  unfold pos
  have:=pos_le x l
  split
  ·exact Nat.zero_le _
  ·exact Nat.succ_le_succ this
def rk(f:Fx)(t:Option Nat)(led c:Nat):Nat:=
 if t=some (c / 8) then 20+pos (c % 8) f.tr else if c / 8=led then 10+pos (c % 8) f.pl else 0
theorem over_rk{f:Fx}(ok:f.Ok)(t:Option Nat)(c o led:Nat):overB f t c o led=decide (rk f t led o < rk f t led c):=by
 have l1:∀ x,pos x f.tr≤8:=fun x=>Nat.le_trans (pos_le x _) (by rw[perm_len ok.pt];exact ok.h8)
 have l2:∀ x,pos x f.pl≤8:=fun x=>Nat.le_trans (pos_le x _) (by rw[perm_len ok.pp];exact ok.h8)
 have a1:=l1 (c % 8)
 have a2:=l1 (o % 8)
 have a3:=l2 (c % 8)
 have a4:=l2 (o % 8)
 unfold rk
 by_cases s:c / 8=o / 8
 ·rw[ov_same s,← s]
  by_cases c1:t=some (c / 8)
  ·rw[if_pos c1,if_pos c1,if_pos c1,decide_eq_true (Or.inr c1),Bool.true_and]
   exact decide_eq_decide.mpr ⟨fun h=>by omega,fun h=>by omega⟩
  ·rw[if_neg c1,if_neg c1,if_neg c1]
   by_cases c2:c / 8=led
   ·rw[if_pos c2,if_pos c2,decide_eq_true (Or.inl c2),Bool.true_and]
    exact decide_eq_decide.mpr ⟨fun h=>by omega,fun h=>by omega⟩
   ·rw[if_neg c2,if_neg c2,decide_eq_false (fun z=>z.elim c2 c1),Bool.false_and]
    exact(decide_eq_false (Nat.lt_irrefl 0)).symm
 ·rw[ov_diff s]
  by_cases c1:t=some (c / 8)
  ·have c2:¬ t=some (o / 8):=fun z=>s (by rw[c1] at z;exact Option.some.inj z)
   rw[if_pos c1,if_pos c1,if_neg c2]
   refine(decide_eq_true ?_).symm
   split<;>omega
  ·rw[if_neg c1,if_neg c1]
   by_cases c2:t=some (o / 8)
   ·rw[if_pos c2,decide_eq_true c2]
    show(decide (c / 8=led) && false)=_
    rw[Bool.and_false]
    refine(decide_eq_false ?_).symm
    split<;>omega
   ·rw[if_neg c2,decide_eq_false c2]
    show(decide (c / 8=led) && true)=_
    rw[Bool.and_true]
    by_cases c3:c / 8=led
    ·rw[if_pos c3,if_neg (fun z=>s (c3.trans z.symm)),decide_eq_true c3]
     exact(decide_eq_true (by omega)).symm
    ·rw[if_neg c3,decide_eq_false c3]
     exact(decide_eq_false (Nat.not_lt_zero _)).symm
theorem rk_inj{f:Fx}(ok:f.Ok){t:Option Nat}{led c o:Nat}(hc:c % 8 < f.h)(ho:o % 8 < f.h)(h10:10≤rk f t led c)(e:rk f t led c=rk f t led o):c=o:=by
 by_cases ne:c=o
 ·exact ne
 ·exfalso
  have l1:∀ x,pos x f.tr≤8:=fun x=>Nat.le_trans (pos_le x _) (by rw[perm_len ok.pt];exact ok.h8)
  have l2:∀ x,pos x f.pl≤8:=fun x=>Nat.le_trans (pos_le x _) (by rw[perm_len ok.pp];exact ok.h8)
  have st:∀ c,10≤rk f t led c→c / 8=led∨t=some (c / 8):=fun c h=>by
   unfold rk at h
   by_cases c1:t=some (c / 8)
   ·exact .inr c1
   ·rw[if_neg c1] at h
    by_cases c2:c / 8=led
    ·exact .inl c2
    ·rw[if_neg c2] at h
     omega
  rcases over_strong ok (t:=t) (led:=led) hc ho ne (st c h10) (st o (by omega)) with z | z
  ·rw[over_rk ok,decide_eq_true_eq] at z
   omega
  ·rw[over_rk ok,decide_eq_true_eq] at z
   omega
theorem rk_led(f:Fx)(t:Option Nat)(c:Nat):10≤rk f t (c / 8) c:=by
 unfold rk
 by_cases c1:t=some (c / 8)
 ·rw[if_pos c1];omega
 ·rw[if_neg c1,if_pos rfl];omega
def Win(f:Fx)(t:Option Nat)(led:Nat)(ys:List Nat)(h:Nat):Prop:=∃ m,ys[h]? = some m∧∀ c∈ys,c≠m→overB f t m c led=true
structure Trk(f:Fx)(ys:List Nat):Prop where
 nd:ys.Nodup
 ht:∀ c∈ys,c % 8 < f.h
 ne:0 < ys.length
def ledOf(ys:List Nat):Nat:=ys.getD 0 0 / 8
theorem win_of{f:Fx}(ok:f.Ok){t:Option Nat}{ys:List Nat}(T:Trk f ys){h:Nat}(hh:h < ys.length)(hm:∀ j,j < ys.length→rk f t (ledOf ys) (ys.getD j 0)≤rk f t (ledOf ys) (ys.getD h 0)):Win f t (ledOf ys) ys h:=by
 have at_:∀ i,i < ys.length→ys[i]? = some (ys.getD i 0):=fun i hi=>by rw[List.getD_eq_getElem?_getD,List.getElem?_eq_getElem hi];rfl
 refine⟨_,at_ h hh,fun c hc n=>?_⟩
 obtain⟨j,hj,e⟩:=List.mem_iff_getElem.mp hc
 have ej:ys.getD j 0=c:=by rw[List.getD_eq_getElem?_getD,List.getElem?_eq_getElem hj,e];rfl
 have m0:=rk_led f t (ys.getD 0 0)
 have m1:=hm 0 T.ne
 have mj:=hm j hj
 rw[ej] at mj
 have hmem:ys.getD h 0∈ys:=List.mem_of_getElem? (at_ h hh)
 rw[over_rk ok,decide_eq_true_eq]
 rcases Nat.lt_or_eq_of_le mj with z | z
 ·exact z
 ·exact absurd (rk_inj ok (T.ht _ hmem) (T.ht c hc) (Nat.le_trans m0 m1) z.symm).symm n
theorem nd_at{ys:List Nat}(nd:ys.Nodup){i j:Nat}{c:Nat}(a:ys[i]? = some c)(b:ys[j]? = some c):i=j:=by
 obtain⟨hi,ei⟩:=List.getElem?_eq_some_iff.mp a
 obtain⟨hj,ej⟩:=List.getElem?_eq_some_iff.mp b
 have pw:=List.pairwise_iff_getElem.mp nd
 rcases Nat.lt_trichotomy i j with z | z | z
 ·exact absurd (ei.trans ej.symm) (pw i j hi hj z)
 ·exact z
 ·exact absurd (ej.trans ei.symm) (pw j i hj hi z)
theorem for_enumT{K:PySem.W.Frag}{a:Addr}{xs:List V}{g:TG}{tb:TS}{D:Ends}{σ:St}{H:Hp}(Pv:Nat→St→Hp→Prop)(h0:Pv 0 σ H)(hS:∀ i σ H,Pv i σ H→SqT K H a xs)
  (hs:∀ i x p σ H,xs[i]? = some x→Pv i σ H→H p=none→g (.ref p) σ (upd H p (.tup [.int (i:Nat),x])) fun σ2 H2=>tb { D with nx:=Pv (i+1),ct:=Pv (i+1),bk:=D.nx } σ2 H2) (hd:∀ σ H,Pv xs.length σ H→D.nx σ H) :
  ∃ W:Nat→Nat→St→Hp→Prop,(∃ m,W 0 m σ H)∧∀ i m σ H,W i m σ H →
   ((IteT K a).stop i H∧D.nx σ H)∨((IteT K a).go i H∧∃ N:St→Hp→Prop,(∀ σ' H',N σ' H'→∃ m',m' < m∧W (i+1) m' σ' H')∧∀ v H',(IteT K a).yld i H v H'→g v σ H' fun σ2 H2=>tb { D with nx:=N,ct:=N,bk:=D.nx } σ2 H2):=by
 refine⟨fun i m σ H=>m=xs.length - i∧i≤xs.length∧Pv i σ H,⟨xs.length,by simp,Nat.zero_le _,h0⟩,?_⟩
 rintro i m σ H ⟨rfl,hi,p⟩
 have sa:=hS i σ H p
 by_cases hlt:i < xs.length
 ·refine .inr ⟨⟨xs,_,sa,List.getElem?_eq_getElem hlt⟩,Pv (i+1),fun σ' H' p'=>⟨xs.length - (i+1),by omega,rfl,hlt,p'⟩,fun v H' y=>?_⟩
  obtain⟨q,x,rfl,hq,rfl,hx⟩:=y
  exact hs i x q σ H (hx xs sa) p hq
 ·have e:i=xs.length:=by omega
  subst e
  exact .inl ⟨⟨xs,sa,Nat.le_refl _⟩,hd σ H p⟩
end My
namespace My
open PySem
def cardsN(h:Nat):List Nat:=(List.range 32).filter h.testBit
def pcK(k h:Nat):Nat:=((List.range k).filter h.testBit).length
theorem pcK_succ(k h:Nat):pcK (k+1) h=h % 2+pcK k (h / 2):=by
 unfold pcK
 rw[List.range_succ_eq_map,List.filter_cons,List.filter_map,]
 have e:(h.testBit ∘ Nat.succ)=(h / 2).testBit:=by
  funext i
  exact Nat.testBit_succ h i
 rw[e]
 have h0:h.testBit 0=decide (h % 2=1):=Nat.testBit_zero h
 by_cases o:h % 2=1
 ·rw[if_pos (by rw[h0];exact decide_eq_true o),List.length_cons,List.length_map,o,Nat.add_comm]
 ·rw[if_neg (by rw[h0,decide_eq_false o];exact Bool.false_ne_true),List.length_map]
  omega
theorem pcK_drop:∀ k h:Nat,0 < h→h < 2 ^ k→pcK k (h &&& (h - 1))+1=pcK k h
 | 0,h,h0,h1=>by simp at h1;omega
 | k+1,h,h0,h1=>by
  rw[pcK_succ,pcK_succ]
  have e1:(h &&& (h - 1)) / 2=h / 2 &&& (h - 1) / 2:=Nat.and_div_two
  have e2:(h &&& (h - 1)) % 2=0:=by
   have z:=Nat.and_mod_two_pow (a:=h) (b:=h - 1) (n:=1)
   rw[show(2:Nat) ^ 1=2 from rfl] at z
   rw[z]
   rcases Nat.mod_two_eq_zero_or_one h with e | e
   ·rw[e];exact Nat.zero_and _
   ·rw[show(h - 1) % 2=0 by omega];exact Nat.and_zero _
  rw[e1,e2]
  rcases Nat.mod_two_eq_zero_or_one h with e | e
  ·have ih:=pcK_drop k (h / 2) (by omega) (by rw[Nat.pow_succ] at h1;omega)
   rw[show(h - 1) / 2=h / 2 - 1 by omega,e]
   omega
  ·rw[show(h - 1) / 2=h / 2 by omega,Nat.and_self,e]
   omega
theorem pcK_zero(k:Nat):pcK k 0=0:=by
 unfold pcK
 rw[List.length_eq_zero_iff,List.filter_eq_nil_iff]
 intro a _
 simp
def part(h s:Nat):Nat:=h &&& (255 * 2 ^ (8 * s))
theorem mask_bit:∀ s < 4,∀ c < 32,Nat.testBit (255 * 2 ^ (8 * s)) c=decide (c / 8=s):=by decide +kernel
theorem cards_lt{h c:Nat}(hc:c∈cardsN h):c < 32:=List.mem_range.mp (List.mem_filter.mp hc).1
end My
namespace My
theorem cards_end{h i:Nat}(hi:i≤32)(hz:h / 2 ^ i=0):(List.range i).filter h.testBit=cardsN h:=by
 unfold cardsN
 have hl:h < 2 ^ i:=by
  rcases Nat.div_eq_zero_iff.mp hz with e | e
  ·have:0 < 2 ^ i:=Nat.pow_pos (by decide)
   omega
  ·exact e
 have e32:32=i+(32 - i):=by omega
 rw[e32,List.range_add,List.filter_append]
 have e:List.filter h.testBit ((List.range (32 - i)).map (i + ·))=[]:=by
  rw[List.filter_eq_nil_iff]
  intro a ha
  obtain⟨b,_,rfl⟩:=List.mem_map.mp ha
  rw[Nat.testBit_lt_two_pow (Nat.lt_of_lt_of_le hl (Nat.pow_le_pow_right (by decide) (by omega)))]
  exact Bool.false_ne_true
 rw[e,List.append_nil]
theorem cards_step(h i:Nat):(List.range (i+1)).filter h.testBit=(List.range i).filter h.testBit++(if h / 2 ^ i % 2=1 then [i] else []):=by
 rw[List.range_succ,List.filter_append]
 have e:h.testBit i=decide (h / 2 ^ i % 2=1):=Nat.testBit_eq_decide_div_mod_eq
 by_cases o:h / 2 ^ i % 2=1
 ·rw[if_pos o,List.filter_cons_of_pos (by rw[e];exact decide_eq_true o),List.filter_nil]
 ·rw[if_neg o,List.filter_cons_of_neg (by rw[e,decide_eq_false o];exact Bool.false_ne_true),List.filter_nil]
theorem small_pos{h i:Nat}(h32:h < 4294967296)(hi:i≤32)(hp:0 < h / 2 ^ i):i < 32:=by
 rcases Nat.lt_or_ge i 32 with e | e
 ·exact e
 ·have:i=32:=by omega
  subst this
  have:h / 2 ^ 32=0:=Nat.div_eq_of_lt h32
  omega
def orAll(cs:List Nat)(a:Nat):Nat:=cs.foldl (fun a c=>a ||| 2 ^ c) a
theorem orAll_bit:∀(cs:List Nat) (a i:Nat),(orAll cs a).testBit i=(a.testBit i || decide (i∈cs))
 | [],a,i=>by simp [orAll]
 | c :: r,a,i=>by
  show(orAll r (a ||| 2 ^ c)).testBit i=_
  rw[orAll_bit r,Nat.testBit_or,Nat.testBit_two_pow]
  by_cases e:c=i
  ·subst e;simp
  ·have e2:i≠c:=fun z=>e z.symm
   simp [e,e2]
theorem mem_cards{h i:Nat}(hh:h < 4294967296):i∈cardsN h↔h.testBit i=true:=by
 unfold cardsN
 rw[List.mem_filter,List.mem_range]
 constructor
 ·exact fun z=>z.2
 ·intro z
  refine⟨?_,z⟩
  rcases Nat.lt_or_ge i 32 with e | e
  ·exact e
  ·rw[Nat.testBit_lt_two_pow (Nat.lt_of_lt_of_le hh (Nat.pow_le_pow_right (n:=2) (by decide) e))] at z
   cases z
theorem orAll_eq{h:Nat}(hh:h < 4294967296){cs:List Nat}(hm:∀ i,i∈cs↔i∈cardsN h):orAll cs 0=h:=by
 refine Nat.eq_of_testBit_eq fun i=>?_
 rw[orAll_bit,Nat.zero_testBit,Bool.false_or]
 by_cases e:h.testBit i=true
 ·rw[e];exact decide_eq_true ((hm i).mpr ((mem_cards hh).mpr e))
 ·rw[Bool.eq_false_iff.mpr e];exact decide_eq_false fun z=>e ((mem_cards hh).mp ((hm i).mp z))
theorem orAll_snoc(cs:List Nat)(c a:Nat):orAll (cs++[c]) a=orAll cs a ||| 2 ^ c:=by unfold orAll;rw[List.foldl_append];rfl
end My
namespace My
open PySem L2
def hN(cs:List Nat):Nat:=orAll cs 0
theorem hN_bit(cs:List Nat)(i:Nat):(hN cs).testBit i=decide (i∈cs):=by
 unfold hN
 rw[orAll_bit,Nat.zero_testBit,Bool.false_or]
theorem hN_ext{a b:List Nat}(h:∀ i,i∈a↔i∈b):hN a=hN b:=by
 refine Nat.eq_of_testBit_eq fun i=>?_
 rw[hN_bit,hN_bit]
 exact decide_eq_decide.mpr (h i)
theorem hN_lt{cs:List Nat}(h:∀ c∈cs,c < 32):hN cs < 4294967296:=by
 refine Nat.lt_pow_two_of_testBit (n:=32) (hN cs) fun i hi=>?_
 rw[hN_bit]
 exact decide_eq_false fun m=>by have:=h i m;omega
theorem hN_pos{cs:List Nat}:0 < hN cs↔cs≠[]:=by
 constructor
 ·intro h z
  rw[z] at h
  exact Nat.lt_irrefl 0 h
 ·intro h
  cases cs with
  | nil=>exact absurd rfl h
  | cons c l=>
   refine Nat.pos_of_ne_zero fun z=>?_
   have e:=hN_bit (c :: l) c
   rw[z,Nat.zero_testBit,decide_eq_true List.mem_cons_self] at e
   cases e
theorem hN_part{cs:List Nat}(h:∀ c∈cs,c < 32){s:Nat}(hs:s < 4):part (hN cs) s=hN (cs.filter fun c=>decide (c / 8=s)):=by
 refine Nat.eq_of_testBit_eq fun i=>?_
 unfold part
 rw[Nat.testBit_and,hN_bit,hN_bit]
 by_cases m:i∈cs
 ·rw[mask_bit s hs i (h i m),decide_eq_true m,Bool.true_and]
  refine decide_eq_decide.mpr ⟨fun z=>List.mem_filter.mpr ⟨m,decide_eq_true z⟩,fun z=>of_decide_eq_true (List.mem_filter.mp z).2⟩
 ·rw[decide_eq_false m,Bool.false_and]
  exact(decide_eq_false fun z=>m (List.mem_filter.mp z).1).symm
theorem hN_cards{cs:List Nat}(h:∀ c∈cs,c < 32)(i:Nat):i∈cardsN (hN cs)↔i∈cs:=by
 rw[mem_cards (hN_lt h),hN_bit,decide_eq_true_eq]
theorem hN_snoc(cs:List Nat)(c:Nat):hN (cs++[c])=hN cs ||| 2 ^ c:=orAll_snoc cs c 0
theorem hN_cons{c:Nat}{cs:List Nat}(h:c∉cs):hN (c :: cs)=2 ^ c+hN cs:=by
 have e:hN (c :: cs)=hN cs ||| 2 ^ c:=by
  rw[← hN_snoc]
  exact hN_ext fun i=>by rw[List.mem_cons,List.mem_append,List.mem_singleton];exact Or.comm
 rw[e]
 have z:hN cs &&& 2 ^ c=0:=by
  refine Nat.eq_of_testBit_eq fun i=>?_
  rw[Nat.testBit_and,hN_bit,Nat.testBit_two_pow,Nat.zero_testBit]
  by_cases q:c=i
  ·subst q
   rw[decide_eq_false h]
   rfl
  ·rw[decide_eq_false q,Bool.and_false]
 have k:=PyProof.Rows.nat_or_add_and (hN cs) (2 ^ c)
 rw[z] at k
 omega
theorem hN_sum:∀{cs:List Nat},cs.Nodup→(cs.map fun c=>2 ^ c).sum=hN cs
 | [],_=>rfl
 | c :: cs,nd=>by
  obtain⟨n1,n2⟩:=List.nodup_cons.mp nd
  rw[List.map_cons,List.sum_cons,hN_sum n2,hN_cons n1]
def folL(s:Nat)(cs:List Nat):List Nat:=cs.filter fun c=>decide (c / 8=s)
def orL(a b:List Nat):List Nat:=if a=[] then b else a
def trL(t:Option Nat)(cs:List Nat):List Nat:=match t with | none=>[] | some u=>folL u cs
def cutL(t:Option Nat)(led:Nat)(cs:List Nat):List Nat:=orL (folL led cs) (orL (trL t cs) cs)
def topL(f:Fx)(t:Option Nat)(ys cs:List Nat):List Nat:=cs.filter fun c=>ys.all fun o=>overB f t c o (ledOf ys)
def alw(d:_root_.Fin 4)(f:Fx)(t:Option Nat)(ys cs:List Nat):List Nat:=match d with
 | 0=>cs
 | 1=>orL (folL (ledOf ys) cs) cs
 | 2=>cutL t (ledOf ys) cs
 | 3=>orL (topL f t ys (cutL t (ledOf ys) cs)) (cutL t (ledOf ys) cs)
theorem orL_sub{a b cs:List Nat}(ha:∀ c∈a,c∈cs)(hb:∀ c∈b,c∈cs):∀ c∈orL a b,c∈cs:=fun c hc=>by
 unfold orL at hc
 by_cases z:a=[]
 ·rw[if_pos z] at hc;exact hb c hc
 ·rw[if_neg z] at hc;exact ha c hc
theorem folL_sub(s:Nat)(cs:List Nat):∀ c∈folL s cs,c∈cs:=fun c hc=>(List.mem_filter.mp hc).1
theorem trL_sub(t:Option Nat)(cs:List Nat):∀ c∈trL t cs,c∈cs:=fun c hc=>by
 cases t with
 | none=>exact nomatch hc
 | some u=>exact folL_sub u cs c hc
theorem cutL_sub(t:Option Nat)(led:Nat)(cs:List Nat):∀ c∈cutL t led cs,c∈cs:=orL_sub (folL_sub _ _) (orL_sub (trL_sub _ _) fun _ h=>h)
theorem alw_sub(d:_root_.Fin 4)(f:Fx)(t:Option Nat)(ys cs:List Nat):∀ c∈alw d f t ys cs,c∈cs:=by
 match d with
 | 0=>exact fun _ h=>h
 | 1=>exact orL_sub (folL_sub _ _) fun _ h=>h
 | 2=>exact cutL_sub _ _ _
 | 3=>exact orL_sub (fun c hc=>cutL_sub _ _ _ c (List.mem_filter.mp hc).1) (cutL_sub _ _ _)
theorem orL_nd{a b:List Nat}(ha:a.Nodup)(hb:b.Nodup):(orL a b).Nodup:=by
 unfold orL
 split
 ·exact hb
 ·exact ha
theorem folL_nd{s:Nat}{cs:List Nat}(h:cs.Nodup):(folL s cs).Nodup:=h.filter _
theorem cutL_nd{t:Option Nat}{led:Nat}{cs:List Nat}(h:cs.Nodup):(cutL t led cs).Nodup:=by
 refine orL_nd (folL_nd h) (orL_nd ?_ h)
 cases t with
 | none=>exact List.nodup_nil
 | some u=>exact folL_nd h
theorem alw_nd{d:_root_.Fin 4}{f:Fx}{t:Option Nat}{ys cs:List Nat}(h:cs.Nodup):(alw d f t ys cs).Nodup:=by
 match d with
 | 0=>exact h
 | 1=>exact orL_nd (folL_nd h) h
 | 2=>exact cutL_nd h
 | 3=>exact orL_nd ((cutL_nd h).filter _) (cutL_nd h)
theorem hN_orL{a b:List Nat}:hN (orL a b)=if 0 < hN a then hN a else hN b:=by
 unfold orL
 by_cases z:a=[]
 ·rw[if_pos z,if_neg fun q=>hN_pos.mp q z]
 ·rw[if_neg z,if_pos (hN_pos.mpr z)]
end My
namespace My
open PySem L2
abbrev sCardsIn:Stmt:=top 4
abbrev sHandOf:Stmt:=top 5
abbrev sOfSuit:Stmt:=top 7
def cardsV(h:Nat):List V:=(cardsN h).map fun c=>V.int (c:Nat)
theorem cardsV_eq(h:Nat):cardsV h=vN (cardsN h):=rfl
theorem vN_app(xs ys:List Nat):vN xs++vN ys=vN (xs++ys):=(List.map_append).symm
theorem vN_get{ys:List Nat}{i:Nat}{x:V}(h:(vN ys)[i]? = some x):∃ c,ys[i]? = some c∧x = .int (c:Nat):=by
 unfold vN at h
 rw[List.getElem?_map] at h
 cases e:ys[i]? with
 | none=>rw[e] at h;cases h
 | some c=>rw[e] at h;cases h;exact⟨c,rfl,rfl⟩
theorem or_pp{x y:Int}(hx:0≤x)(hy:0≤y):Builtin.bitOr x y=((x.toNat ||| y.toNat:Nat):Int):=by
 rw[PyProof.Rows.bitOr_and,PyProof.Rows.bitAnd_pp hx hy]
 have:=PyProof.Rows.nat_or_add_and x.toNat y.toNat
 omega
theorem or_nat(a c:Nat):Builtin.bitOr (a:Int) (1 * 2 ^ ((c:Nat):Int).toNat)=((a ||| 2 ^ c:Nat):Int):=by
 have e:(1:Int) * 2 ^ ((c:Nat):Int).toNat=((2 ^ c:Nat):Int):=by
  rw[Int.one_mul,Int.toNat_natCast,Int.natCast_pow];rfl
 rw[e,or_pp (Int.natCast_nonneg _) (Int.natCast_nonneg _),Int.toNat_natCast,Int.toNat_natCast]
theorem and1(a:Nat):Builtin.bitAnd (a:Int) 1=((a % 2:Nat):Int):=by
 rw[PyProof.Rows.bitAnd_pp (Int.natCast_nonneg _) (by decide),Int.toNat_natCast]
 exact congrArg _ (Nat.and_one_is_mod a)
theorem shr1(h i:Nat):((h / 2 ^ i:Nat):Int) / 2 ^ ((1:Int).toNat)=((h / 2 ^ (i+1):Nat):Int):=by
 rw[Nat.pow_succ,← Nat.div_div_eq_div_mul]
 show((h / 2 ^ i:Nat):Int) / 2=_
 omega
theorem filter_short(h n:Nat):((List.range n).filter h.testBit).length≤n:=by
 have:=List.length_filter_le h.testBit (List.range n)
 rwa [List.length_range] at this
section
variable{P:Program}{w:World}{K:PySem.W.Frag}{mg:Str→Option Value}{base:Heap}{f g:Addr}{fd gd:FuncData}
def spCardsIn(K:PySem.W.Frag):Sp:=fun vs H Q _=>∃ h:Nat,vs=[.int h]∧h < 4294967296∧∀ l H',Same H H'→H l=none→H' l=some (.lst (cardsV h))→Q (.ref l) H'
theorem scCardsIn:FnScope ["hand","cards","card"] ["hand"] (defScope sCardsIn):=⟨rfl,rfl,rfl,by decide +kernel,rfl,by decide +kernel,by decide +kernel⟩
theorem ok_cardsIn{k:Nat}(F:Fun K "cards_in" "cards_in" sCardsIn f fd):FnOk P w K mg base CX0 (k+1) f fd ["hand"] (spCardsIn K):=by
 refine F.ok scCardsIn (fun vs H Q E h=>?_) (fun cdv A outer s H vs Q E hr h=>?_)
 ·obtain⟨h,rfl,_⟩:=h
  rfl
 obtain⟨h,rfl,h32,q⟩:=h
 refine⟨_,pss_cons (ps_set (i:=1) scCardsIn.nd rfl (Or.inl rfl) (pe_lst pa_nil))
  (pss_cons (ps_set (i:=2) scCardsIn.nd rfl (Or.inl rfl) pe_int)
  (pss_cons (ps_while PassesOwn.never (pt_cmpR op_gt (pv 0) pe_int (nomark _))
   (pss_cons (ps_if (pt_cmpR op_eq (pe_op op_and (pv 0) pe_int) pe_int (nomark _)) (pss_one (ps_expr (pe_bm PySem.F.plainAttrs_list PySem.F.slot_list_append PySem.F.type_list_append mt_append (pv 1) (pa_cons (pv 2) pa_nil)))) pss_nil)
   (pss_cons (ps_set (i:=0) scCardsIn.nd rfl (Or.inl rfl) (pe_op op_shr (pv 0) pe_int))
   (pss_one (ps_set (i:=2) scCardsIn.nd rfl (Or.inl rfl) (pe_op op_add (pv 2) pe_int))))))
  (pss_one (ps_ret (pv 1))))),?_⟩
 refine⟨Nat.zero_le _,fun l hl=>?_⟩
 refine while_by (fun σ H'=>∃ i:Nat,σ=[some (.int ((h / 2 ^ i:Nat):Int)),some (.ref l),some (.int (i:Nat))]∧i≤32∧Same H H'∧H' l=some (.lst (vN ((List.range i).filter h.testBit))))
  (fun σ _=>match σ with | [_,_,some (.int i)]=>32 - i.toNat | _=>0) ⟨0,?_,Nat.zero_le _,same_upd hl _,upd_same⟩ (fun σ H1 z=>?_) (fun σ H1 R R' m ⟨v,e,i,j,e1,e2,b,e3,r⟩=>⟨v,e,i,j,e1,e2,b,e3,m _ _ r⟩)
 ·rw[Nat.pow_zero,Nat.div_one]
  rfl
 obtain⟨i,rfl,hi,sm,hL⟩:=z
 refine⟨_,rfl,_,_,rfl,rfl,_,rfl,ite2 (fun c=>?_) fun c=>?_⟩
 ·have c':(0:Int) < ((h / 2 ^ i:Nat):Int):=of_decide_eq_true c
  have hi':i < 32:=small_pos h32 hi (by omega)
  refine⟨_,rfl,_,_,rfl,rfl,rfl,_,rfl,ite2 (fun c1=>?_) fun c1=>?_⟩
  ·have o:h / 2 ^ i % 2=1:=by
    have c2:decide (V.int (Builtin.bitAnd ((h / 2 ^ i:Nat):Int) 1)=V.int 1)=true:=c1
    rw[and1] at c2
    have e:=of_decide_eq_true c2
    injection e with e
    omega
   refine⟨_,rfl,.inl ⟨rfl,_,SqL.of hL⟩,_,rfl,l,_,_,rfl,rfl,hL,?_,?_⟩
   ·rw[vN_len]
    exact small1000 (Nat.le_trans (filter_short h i) (by omega))
   refine⟨_,rfl,_,_,rfl,rfl,(show(0:Int)≤1 by decide),_,rfl,_,_,rfl,rfl,⟨i+1,?_,hi',same_upd2 hl sm _,?_⟩,?_⟩
   ·show [some (V.int (((h / 2 ^ i:Nat):Int) / 2 ^ ((1:Int).toNat))),some (V.ref l),some (V.int ((i:Nat)+1))]=_
    rw[shr1]
    rfl
   ·rw[upd_same,cards_step,if_pos o,← vN_app]
    rfl
   ·show 32 - (((i:Nat):Int)+1).toNat < 32 - ((i:Nat):Int).toNat
    omega
  ·have o:¬ h / 2 ^ i % 2=1:=by
    intro o
    refine c1 ?_
    show decide (V.int (Builtin.bitAnd ((h / 2 ^ i:Nat):Int) 1)=V.int 1)=true
    rw[and1,o]
    exact decide_eq_true rfl
   refine⟨_,rfl,_,_,rfl,rfl,(show(0:Int)≤1 by decide),_,rfl,_,_,rfl,rfl,⟨i+1,?_,hi',sm,?_⟩,?_⟩
   ·show [some (V.int (((h / 2 ^ i:Nat):Int) / 2 ^ ((1:Int).toNat))),some (V.ref l),some (V.int ((i:Nat)+1))]=_
    rw[shr1]
    rfl
   ·rw[cards_step,if_neg o,List.append_nil]
    exact hL
   ·show 32 - (((i:Nat):Int)+1).toNat < 32 - ((i:Nat):Int).toNat
    omega
 ·have c':¬ (0:Int) < ((h / 2 ^ i:Nat):Int):=of_decide_eq_false (Bool.eq_false_iff.mpr c)
  refine⟨_,rfl,q l H1 sm hl ?_⟩
  have z0:h / 2 ^ i=0:=by
   generalize h / 2 ^ i=n at c'
   omega
  rw[hL,cards_end hi z0]
  rfl
def spHandOf(K:PySem.W.Frag):Sp:=fun vs H Q _=>∃(a:Addr) (cs:List Nat),vs=[.ref a]∧SqL K H a (vN cs)∧(∀ c∈cs,c < 32)∧Q (.int (orAll cs 0:Nat)) H
theorem scHandOf:FnScope ["cards","hand","card"] ["cards"] (defScope sHandOf):=⟨rfl,rfl,rfl,by decide +kernel,rfl,by decide +kernel,by decide +kernel⟩
theorem ok_handOf{k:Nat}(F:Fun K "hand_of" "hand_of" sHandOf f fd):FnOk P w K mg base CX0 (k+1) f fd ["cards"] (spHandOf K):=by
 refine F.ok scHandOf (fun vs H Q E h=>?_) (fun cdv A outer s H vs Q E hr h=>?_)
 ·obtain⟨a,cs,rfl,_⟩:=h
  rfl
 obtain⟨a,cs,rfl,hS,hc,q⟩:=h
 refine⟨_,pss_cons (ps_set (i:=1) scHandOf.nd rfl (Or.inl rfl) pe_int)
  (pss_cons (ps_for PassesOwn.never rfl (pi_list (pv 0)) (pg_name (i:=2) scHandOf.nd rfl (Or.inl rfl)) (pss_one (ps_set (i:=1) scHandOf.nd rfl (Or.inl rfl) (pe_op op_or (pv 1) (pe_op op_shl pe_int (pv 2))))))
  (pss_one (ps_ret (pv 1)))),?_⟩
 refine⟨_,rfl,a,rfl,⟨_,hS⟩,for_list (xs:=vN cs) (fun i σ H2=>H2=H∧∃ x,σ=[some (.ref a),some (.int (orAll (cs.take i) 0:Nat)),x]) ⟨rfl,_,rfl⟩ (fun i σ H2 _ z=>z.1 ▸ hS) (fun i x σ H2 hx z=>?_) (fun σ H2 z=>?_)⟩
 ·obtain⟨rfl,y,rfl⟩:=z
  obtain⟨c,hi,rfl⟩:=vN_get hx
  have c32:=hc c (List.mem_of_getElem? hi)
  refine⟨_,rfl,_,rfl,_,_,rfl,rfl,⟨by omega,by omega,by decide⟩,_,_,rfl,rfl,rfl,some (.int (c:Nat)),?_⟩
  show [some (V.ref a),some (V.int (Builtin.bitOr ((orAll (cs.take i) 0:Nat):Int) (1 * 2 ^ ((c:Nat):Int).toNat))),some (V.int (c:Nat))]=_
  rw[or_nat]
  have e:cs.take (i+1)=cs.take i++[c]:=by
   rw[List.take_add_one,hi]
   rfl
  rw[e,orAll_snoc]
 ·obtain⟨rfl,y,rfl⟩:=z
  refine⟨_,rfl,?_⟩
  rw[vN_len,List.take_length]
  exact q
def spOfSuit(K:PySem.W.Frag):Sp:=fun vs H Q _=>∃ h s:Nat,vs=[.int h,.int s]∧h < 4294967296∧s < 4∧Q (.int (part h s)) H
theorem scOfSuit:FnScope ["hand","suit"] ["hand","suit"] (defScope sOfSuit):=⟨rfl,rfl,rfl,by decide +kernel,rfl,by decide +kernel,by decide +kernel⟩
theorem ok_ofSuit{k:Nat}{t1 t2:Tok}(F:Fun K "of_suit" "of_suit" sOfSuit f fd)(mL:mg "LOWEST_SUIT" = some (.int 255 t1))(mH:mg "HEIGHTS" = some (.int 8 t2)):FnOk P w K mg base CX0 (k+1) f fd ["hand","suit"] (spOfSuit K):=by
 refine F.ok scOfSuit (fun vs H Q E h=>?_) (fun cdv A outer s H vs Q E hr h=>?_)
 ·obtain⟨h,s,rfl,_⟩:=h
  rfl
 obtain⟨h,u,rfl,h32,hu,q⟩:=h
 refine⟨_,pss_one (ps_ret (pe_op op_and (pv 0) (pe_op op_shl (pe_glob (v:=.int 255) rfl mL ⟨_,rfl⟩) (pe_op op_mul (pe_glob (v:=.int 8) rfl mH ⟨_,rfl⟩) (pv 1))))),?_⟩
 refine⟨_,rfl,_,rfl,_,_,rfl,rfl,.inl ⟨by decide,by decide⟩,_,_,rfl,rfl,⟨by omega,by omega,by decide⟩,_,_,rfl,rfl,?_⟩
 have e:((8:Int) * (u:Nat)).toNat=8 * u:=by omega
 have e2:(255:Int) * 2 ^ (8 * u)=((255 * 2 ^ (8 * u):Nat):Int):=by rw[Int.natCast_mul,Int.natCast_pow];rfl
 show Q (V.int (Builtin.bitAnd ((h:Nat):Int) ((255:Int) * 2 ^ ((8:Int) * (u:Nat)).toNat))) H
 rw[e,e2,PyProof.Rows.bitAnd_pp (Int.natCast_nonneg _) (Int.natCast_nonneg _)]
 exact q
end
end My
namespace L2
open PySem PySem.Spec PyProof.Rows
theorem pt_truthB{X:Cx}{a:Expr}{ta:TE}(ha:PE X a ta)(he:∀ whole,isTrue a X.env whole=(do let v ← whole;standAt a.pos;holding [v] (truthy v))):PT X a (tTest ta):=by
 intro pins s σ H Q I h
 exact isTrue_plain (thn (ha pins s σ H _ I h) fun v s1 ⟨x,H1,I1,r1,k,e,q1⟩=>tru_ok pins s1 σ H1 x v Q I1 r1 ⟨k,by subst e;rfl,q1⟩) (he _)
theorem comp_tup{K:PySem.W.Frag}{tt:TT}{te:TE}{σ0:St}{H1:Hp}{Q:V→Hp→Prop}{a:Addr}{xs:List V}(p:V→Bool)(f:V→V)(hS:SqT K H1 a xs)(hn:xs.length≤sizeLine)
  (hT:∀ x H,x∈xs→Same H1 H→∀ R:Bool→Hp→Prop,(∀ H',Same H H'→R (p x) H')→tt (σ0.set 0 (some x)) H R)
  (hE:∀ x H,x∈xs→p x=true→Same H1 H→∀ R:V→Hp→Prop,(∀ H',Same H H'→R (f x) H')→te (σ0.set 0 (some x)) H R)
  (hQ:∀ l H,Same H1 H→H1 l=none→H l=some (.lst ((xs.filter p).map f))→Q (.ref l) H):tCompR (gName 0) tt te σ0 (Itt K a) H1 Q:=by
 have at_:∀ i,i < xs.length→xs[i]? = some (xs.getD i .non):=fun i h=>by
  rw[List.getD_eq_getElem?_getD,List.getElem?_eq_getElem h]
  rfl
 have mem:∀ i,i < xs.length→xs.getD i .non∈xs:=fun i h=>List.mem_of_getElem? (at_ i h)
 refine comp_any xs.length (fun i=>xs.getD i .non) (fun i=>p (xs.getD i .non)) (fun i=>f (xs.getD i .non)) hn (fun i H sm h=>⟨xs,_,sm.seqT hS,at_ i h⟩) (fun H sm=>⟨xs,sm.seqT hS,Nat.le_refl _⟩)
  (fun i H x H' sm h y=>⟨y.1,?_⟩) (fun i H h sm=>hT _ H (mem i h) sm) (fun i H h hp sm=>hE _ H (mem i h) hp sm) (fun l H sm hl hL=>hQ l H sm hl ?_)
 ·have e:=y.2 xs (sm.seqT hS)
  rw[at_ i h] at e
  exact(Option.some.inj e).symm
 ·rw[hL,filter_map_range]
end L2
namespace My
open PySem L2
abbrev sLedSuit:Stmt:=top 25
abbrev sFoc:Stmt:=top 26
abbrev sGoesAll:Stmt:=top 27
abbrev sFreeAl:Stmt:=inClass (top 28) 1
abbrev sFollowAl:Stmt:=inClass (top 29) 1
abbrev sCutAl:Stmt:=inClass (top 30) 1
abbrev sBeatAl:Stmt:=inClass (top 31) 1
abbrev sMay:Stmt:=inClass (top 41) 5
theorem at_vN{ys:List Nat}{i:Nat}(h:i < ys.length):atI (vN ys) (i:Nat)=some (.int ((ys.getD i 0:Nat):Int)):=by
 have e:(vN ys)[i]? = some (.int ((ys.getD i 0:Nat):Int)):=by
  unfold vN
  rw[List.getElem?_map,List.getElem?_eq_getElem h,List.getD_eq_getElem?_getD,List.getElem?_eq_getElem h]
  rfl
 exact atI_nat e
theorem gtz(n:Nat):decide ((0:Int) < ((n:Nat):Int))=decide (0 < n):=decide_eq_decide.mpr ⟨fun h=>by omega,fun h=>by omega⟩
structure Beg(f:Fx)(ys cs:List Nat):Prop where
 ne:0 < ys.length
 len:ys.length≤32
 ys8:∀ c∈ys,c / 8 < 4∧c % 8 < f.h
 cs8:∀ c∈cs,c < 32∧c % 8 < f.h
theorem Beg.c32{f:Fx}{ys cs:List Nat}(B:Beg f ys cs):∀ c∈cs,c < 32:=fun c h=>(B.cs8 c h).1
theorem Beg.led{f:Fx}{ys cs:List Nat}(B:Beg f ys cs):ledOf ys < 4:=by
 have m:ys.getD 0 0∈ys:=by
  rw[List.getD_eq_getElem?_getD,List.getElem?_eq_getElem B.ne]
  exact List.getElem_mem _
 exact(B.ys8 _ m).1
theorem Beg.sub{f:Fx}{ys cs ds:List Nat}(B:Beg f ys cs)(h:∀ c∈ds,c∈cs):Beg f ys ds:=⟨B.ne,B.len,B.ys8,fun c hc=>B.cs8 c (h c hc)⟩
section
variable{P:Program}{w:World}{K:PySem.W.Frag}{mg:Str→Option Value}{base:Heap}{f g:Addr}{fd gd:FuncData}
def spLed(K:PySem.W.Frag):Sp:=fun vs H Q _=>∃(p:Addr) (fx:Fx) (ys cs:List Nat),vs=[.int (hN cs:Nat),.ref p]∧SqT K H p (vN ys)∧Beg fx ys cs∧Q (.int (hN (folL (ledOf ys) cs):Nat)) H
theorem scLed:FnScope ["hand","trick"] ["hand","trick"] (defScope sLedSuit):=⟨rfl,rfl,rfl,by decide +kernel,rfl,by decide +kernel,by decide +kernel⟩
theorem ok_led{k:Nat}{f1:Addr}{d1:FuncData}{t1:Tok}(F:Fun K "of_led_suit" "of_led_suit" sLedSuit f fd)(LO:Lib P w K mg base k "of_suit" ["hand","suit"] (spOfSuit K) f1 d1)(mH:mg "HEIGHTS" = some (.int 8 t1)):FnOk P w K mg base CX0 (k+1) f fd ["hand","trick"] (spLed K):=by
 refine F.ok scLed (fun vs H Q E h=>?_) (fun cdv A outer s H vs Q E hr h=>?_)
 ·obtain⟨p,fx,ys,cs,rfl,_⟩:=h
  rfl
 obtain⟨p,fx,ys,cs,rfl,hT,B,q⟩:=h
 refine⟨_,pss_one (ps_ret (pe_call LO.ok hr rfl LO.mg LO.kp LO.bd .nil pass0 (pa_cons (pv 0) (pa_cons (pe_op op_fdiv (pe_ix ix_tup (pv 1) pe_int (fun _ _=>rfl)) (pe_glob (v:=.int 8) rfl mH ⟨_,rfl⟩)) pa_nil)))),?_⟩
 have e0:(((ys.getD 0 0:Nat):Int) / 8)=((ledOf ys:Nat):Int):=by unfold ledOf;omega
 refine⟨_,rfl,_,rfl,p,_,_,_,rfl,rfl,hT,at_vN (i:=0) B.ne,_,_,rfl,rfl,⟨by decide,by decide⟩,hN cs,ledOf ys,(show [V.int (hN cs:Nat),V.int (((ys.getD 0 0:Nat):Int) / 8)]=_ by rw[e0]),hN_lt B.c32,B.led,?_⟩
 rw[hN_part B.c32 B.led]
 exact q
def TrB(t:Option Nat):Prop:=∀ u,t=some u→u < 4
def spFoc(K:PySem.W.Frag)(CG:Addr):Sp:=fun vs H Q _=>∃(gm x p:Addr) (t:Option Nat) (fx:Fx) (ys cs:List Nat),vs=[.ref gm,.int (hN cs:Nat),.ref p]∧IsGam CG x (tvV t) H gm∧TrB t∧SqT K H p (vN ys)∧Beg fx ys cs∧Q (.int (hN (cutL t (ledOf ys) cs):Nat)) H
abbrev nFoc:List Str:=["game","hand","trick","followers","trumps"]
theorem scFoc:FnScope nFoc ["game","hand","trick"] (defScope sFoc):=⟨rfl,rfl,rfl,by decide +kernel,rfl,by decide +kernel,by decide +kernel⟩
theorem ok_foc{k:Nat}{f1 f2 CG:Addr}{d1 d2:FuncData}(F:Fun K "followed_or_cut" "followed_or_cut" sFoc f fd)(CGm:GamC K mg CG)(LL:Lib P w K mg base k "of_led_suit" ["hand","trick"] (spLed K) f1 d1)(LO:Lib P w K mg base k "of_suit" ["hand","suit"] (spOfSuit K) f2 d2) :
  FnOk P w K mg base CX0 (k+1) f fd ["game","hand","trick"] (spFoc K CG):=by
 refine F.ok scFoc (fun vs H Q E h=>?_) (fun cdv A outer s H vs Q E hr h=>?_)
 ·obtain⟨gm,x,p,t,fx,ys,cs,rfl,_⟩:=h
  rfl
 obtain⟨gm,x,p,t,fx,ys,cs,rfl,⟨dg,hG⟩,hb,hT,B,q⟩:=h
 refine⟨_,pss_cons (ps_set (i:=3) scFoc.nd rfl (Or.inl rfl) (pe_call LL.ok hr rfl LL.mg LL.kp LL.bd .nil pass0 (pa_cons (pv 1) (pa_cons (pv 2) pa_nil))))
  (pss_cons (ps_if (pt_cmpR op_gt (pv 3) pe_int (nomark _)) (pss_one (ps_ret (pv 3))) pss_nil)
  (pss_cons (ps_if (pt_cmpR op_isN (pe_fld (pv 0) rfl) pe_non (nomark _)) (pss_one (ps_ret (pv 1))) pss_nil)
  (pss_cons (ps_set (i:=4) scFoc.nd rfl (Or.inl rfl) (pe_call LO.ok hr rfl LO.mg LO.kp LO.bd .nil pass0 (pa_cons (pv 1) (pa_cons (pe_fld (pv 0) rfl) pa_nil))))
  (pss_one (ps_ret (pe_ifExp (pt_cmpR op_gt (pv 4) pe_int (nomark _)) (pv 4) (pv 1))))))),?_⟩
 refine⟨_,rfl,_,rfl,p,fx,ys,cs,rfl,hT,B,?_⟩
 refine⟨_,rfl,_,_,rfl,rfl,_,rfl,?_⟩
 refine chg (gtz _) ?_
 unfold cutL at q
 rw[hN_orL] at q
 by_cases c1:0 < hN (folL (ledOf ys) cs)
 ·rw[decide_eq_true c1]
  rw[if_pos c1] at q
  exact iteT ⟨_,rfl,q⟩
 rw[decide_eq_false c1]
 rw[if_neg c1,hN_orL] at q
 refine iteF ⟨_,rfl,gm,CG,dg,_,_,rfl,hG,CGm.cl,CGm.nU,gam_trump _ _,rfl,_,rfl,?_⟩
 cases t with
 | none=>
  have z:hN (trL none cs)=0:=rfl
  rw[z,if_neg (Nat.lt_irrefl 0)] at q
  exact iteT ⟨_,rfl,q⟩
 | some u=>
  refine iteF ⟨_,rfl,_,rfl,gm,CG,dg,_,_,rfl,hG,CGm.cl,CGm.nU,gam_trump _ _,hN cs,u,rfl,hN_lt B.c32,hb u rfl,?_⟩
  rw[hN_part B.c32 (hb u rfl)]
  have e:hN (trL (some u) cs)=hN (cs.filter fun c=>decide (c / 8=u)):=rfl
  rw[e] at q
  refine⟨_,rfl,_,_,rfl,rfl,_,rfl,?_⟩
  refine chg (gtz _) ?_
  by_cases c2:0 < hN (cs.filter fun c=>decide (c / 8=u))
  ·rw[decide_eq_true c2]
   rw[if_pos c2] at q
   exact iteT ⟨_,rfl,q⟩
  ·rw[decide_eq_false c2]
   rw[if_neg c2] at q
   exact iteF ⟨_,rfl,q⟩
end
section
variable{P:Program}{w:World}{K:PySem.W.Frag}{mg:Str→Option Value}{base:Heap}{f g:Addr}{fd gd:FuncData}
def ovV(fx:Fx)(t:Option Nat)(c led:Nat)(x:V):Bool:=match x with | .int i=>overB fx t c i.toNat led | _=>false
theorem ovV_list(fx:Fx)(t:Option Nat)(c led:Nat)(ys:List Nat):(((vN ys).filter fun _=>true).map fun x=>V.bl (ovV fx t c led x))=(ys.map fun o=>overB fx t c o led).map V.bl:=by
 rw[List.filter_eq_self.mpr fun _ _=>rfl]
 unfold vN
 rw[List.map_map,List.map_map]
 refine List.map_congr_left fun o _=>?_
 show V.bl (overB fx t c (((o:Nat):Int).toNat) led)=V.bl (overB fx t c o led)
 rw[Int.toNat_natCast]
def spGoes(K:PySem.W.Frag)(CT CG:Addr):Sp:=fun vs H Q _=>∃(gm x p:Addr) (t:Option Nat) (fx:Fx) (ys:List Nat) (c:Nat),vs=[.ref gm,.int (c:Nat),.ref p]∧fx.Ok∧IsGam CG x (tvV t) H gm∧IsTab CT fx H x∧SqT K H p (vN ys)∧Beg fx ys []∧c % 8 < fx.h∧∀ H',Same H H'→Q (.bl (ys.all fun o=>overB fx t c o (ledOf ys))) H'
abbrev nGoes:List Str:=["game","card","trick","led"]
abbrev nGoesB:List Str:=["other","game","card","led"]
theorem scGoes:FnScope nGoes ["game","card","trick"] (defScope sGoesAll):=⟨rfl,rfl,rfl,by decide +kernel,rfl,by decide +kernel,by decide +kernel⟩
theorem ok_goes{k:Nat}{CT CG m3:Addr}{e3:FuncData}{t1:Tok}(F:Fun K "goes_over_all" "goes_over_all" sGoesAll f fd)(CGm:GamC K mg CG)(MV:Meth K CG "is_over" m3)(FV:FnOk P w K mg base CX0 k m3 e3 pOver (spOver CT CG))(BV:Binds K e3 pOver [])(mH:mg "HEIGHTS" = some (.int 8 t1))(mA:mg "all" = none) :
  FnOk P w K mg base CX0 (k+1) f fd ["game","card","trick"] (spGoes K CT CG):=by
 refine F.ok scGoes (fun vs H Q E h=>?_) (fun cdv A outer s H vs Q E hr h=>?_)
 ·obtain⟨gm,x,p,t,fx,ys,c,rfl,_⟩:=h
  rfl
 obtain⟨gm,x,p,t,fx,ys,c,rfl,ok,hg,ht,hT,B,hc,q⟩:=h
 refine⟨_,pss_cons (ps_set (i:=3) scGoes.nd rfl (Or.inr rfl) (pe_op op_fdiv (pe_ix ix_tup (pv 2) pe_int (fun _ _=>rfl)) (pe_glob (v:=.int 8) rfl mH ⟨_,rfl⟩)))
  (pss_one (ps_ret (pe_callB (call_allL rfl) rfl mA PyProof.Rows.boot_all (pa_cons (pe_comp nGoesB [none,some 0,some 1,some 3] rfl (Blk.by (sc:=defScope sGoesAll) (N0:=nGoes) rfl rfl (by decide +kernel)) (pi_tup (pv 2)) (fun C s₀ H₀ ex=>pg_name (i:=0) (show nGoesB.Nodup by decide +kernel) rfl (Or.inl rfl)) (fun C s₀ H₀ ex=>pf_nil)
   (fun C s₀ H₀ ex=>pe_meth (pv 1) CGm.cl MV FV hr BV .nil pass0 (pa_cons (pv 2) (pa_cons (pv 0) (pa_cons (pv 3) pa_nil))))) pa_nil)))),?_⟩
 have e0:(((ys.getD 0 0:Nat):Int) / 8)=((ledOf ys:Nat):Int):=by unfold ledOf;omega
 refine⟨_,rfl,p,_,_,_,rfl,rfl,hT,at_vN (i:=0) B.ne,_,_,rfl,rfl,⟨by decide,by decide⟩,?_⟩
 have h32:=B.len
 refine⟨_,rfl,p,rfl,⟨_,hT⟩,comp_tup (K:=K) (xs:=vN ys) (fun _=>true) (fun x=>.bl (ovV fx t c (ledOf ys) x)) hT (fits3 _ (by rw[vN_len];omega)) (fun y H3 hy sm R hR=>hR H3 (Same.refl H3)) (fun y H3 hy hp sm R hR=>?_) (fun lq H4 s4 hlq hL4=>?_)⟩
 ·obtain⟨o,ho,rfl⟩:=List.mem_map.mp hy
  obtain⟨dg,hG⟩:=id (hg.same sm)
  refine⟨_,rfl,gm,dg,_,rfl,hG,gam_none _ _ _ (by decide +kernel) (by decide +kernel),_,rfl,_,rfl,_,rfl,gm,x,t,fx,c,o,ledOf ys,(show [V.ref gm,V.int (c:Nat),V.int (o:Nat),V.int (((ys.getD 0 0:Nat):Int) / 8)]=_ by rw[e0]),ok,hg.same sm,ht.same sm,hc,(B.ys8 o ho).2,fun H5 s5=>?_⟩
  have r:=hR H5 s5
  have e:ovV fx t c (ledOf ys) (.int (o:Nat))=overB fx t c o (ledOf ys):=by
   show overB fx t c (((o:Nat):Int).toNat) (ledOf ys)=_
   rw[Int.toNat_natCast]
  rw[e] at r
  exact r
 ·rw[ovV_list] at hL4
  refine⟨lq,_,rfl,SqL.of hL4,?_⟩
  have z:=q H4 s4
  rw[List.all_map]
  exact z
def spAl(K:PySem.W.Frag)(CT CG:Addr)(i:_root_.Fin 4):Sp:=fun vs H Q _=>∃(a gm x p:Addr) (t:Option Nat) (fx:Fx) (ys cs:List Nat),vs=[.ref a,.ref gm,.int (hN cs:Nat),.ref p]∧fx.Ok∧IsGam CG x (tvV t) H gm∧IsTab CT fx H x∧TrB t∧SqT K H p (vN ys)∧Beg fx ys cs∧∀ H',Same H H'→Q (.int (hN (alw i fx t ys cs):Nat)) H'
abbrev pAl:List Str:=["self","game","hand","trick"]
theorem scFreeAl:FnScope pAl pAl (defScope sFreeAl):=⟨rfl,rfl,rfl,by decide +kernel,rfl,by decide +kernel,by decide +kernel⟩
theorem ok_freeAl{k:Nat}{CT CG:Addr}(F:Fun K "allowed" "Free.allowed" sFreeAl f fd):FnOk P w K mg base CX0 (k+1) f fd pAl (spAl K CT CG 0):=by
 refine F.ok scFreeAl (fun vs H Q E h=>?_) (fun cdv A outer s H vs Q E hr h=>?_)
 ·obtain⟨a,gm,x,p,t,fx,ys,cs,rfl,_⟩:=h
  rfl
 obtain⟨a,gm,x,p,t,fx,ys,cs,rfl,ok,hg,ht,hb,hT,B,q⟩:=h
 exact⟨_,pss_one (ps_ret (pv 2)),_,rfl,q H (Same.refl H)⟩
abbrev nFollowAl:List Str:=["self","game","hand","trick","followers"]
theorem scFollowAl:FnScope nFollowAl pAl (defScope sFollowAl):=⟨rfl,rfl,rfl,by decide +kernel,rfl,by decide +kernel,by decide +kernel⟩
theorem ok_followAl{k:Nat}{CT CG f1:Addr}{d1:FuncData}(F:Fun K "allowed" "Follow.allowed" sFollowAl f fd)(LL:Lib P w K mg base k "of_led_suit" ["hand","trick"] (spLed K) f1 d1):FnOk P w K mg base CX0 (k+1) f fd pAl (spAl K CT CG 1):=by
 refine F.ok scFollowAl (fun vs H Q E h=>?_) (fun cdv A outer s H vs Q E hr h=>?_)
 ·obtain⟨a,gm,x,p,t,fx,ys,cs,rfl,_⟩:=h
  rfl
 obtain⟨a,gm,x,p,t,fx,ys,cs,rfl,ok,hg,ht,hb,hT,B,q⟩:=h
 refine⟨_,pss_cons (ps_set (i:=4) scFollowAl.nd rfl (Or.inl rfl) (pe_call LL.ok hr rfl LL.mg LL.kp LL.bd .nil pass0 (pa_cons (pv 2) (pa_cons (pv 3) pa_nil))))
  (pss_one (ps_ret (pe_ifExp (pt_cmpR op_gt (pv 4) pe_int (nomark _)) (pv 4) (pv 2)))),?_⟩
 refine⟨_,rfl,_,rfl,p,fx,ys,cs,rfl,hT,B,?_⟩
 refine⟨_,rfl,_,_,rfl,rfl,_,rfl,?_⟩
 refine chg (gtz _) ?_
 have q':=q H (Same.refl H)
 have e:hN (alw 1 fx t ys cs)=if 0 < hN (folL (ledOf ys) cs) then hN (folL (ledOf ys) cs) else hN cs:=hN_orL
 rw[e] at q'
 by_cases c1:0 < hN (folL (ledOf ys) cs)
 ·rw[decide_eq_true c1]
  rw[if_pos c1] at q'
  exact iteT ⟨_,rfl,q'⟩
 ·rw[decide_eq_false c1]
  rw[if_neg c1] at q'
  exact iteF ⟨_,rfl,q'⟩
theorem scCutAl:FnScope pAl pAl (defScope sCutAl):=⟨rfl,rfl,rfl,by decide +kernel,rfl,by decide +kernel,by decide +kernel⟩
theorem ok_cutAl{k:Nat}{CT CG f1:Addr}{d1:FuncData}(F:Fun K "allowed" "Cut.allowed" sCutAl f fd)(LF:Lib P w K mg base k "followed_or_cut" ["game","hand","trick"] (spFoc K CG) f1 d1):FnOk P w K mg base CX0 (k+1) f fd pAl (spAl K CT CG 2):=by
 refine F.ok scCutAl (fun vs H Q E h=>?_) (fun cdv A outer s H vs Q E hr h=>?_)
 ·obtain⟨a,gm,x,p,t,fx,ys,cs,rfl,_⟩:=h
  rfl
 obtain⟨a,gm,x,p,t,fx,ys,cs,rfl,ok,hg,ht,hb,hT,B,q⟩:=h
 exact⟨_,pss_one (ps_ret (pe_call LF.ok hr rfl LF.mg LF.kp LF.bd .nil pass0 (pa_cons (pv 1) (pa_cons (pv 2) (pa_cons (pv 3) pa_nil))))),_,rfl,_,rfl,_,rfl,gm,x,p,t,fx,ys,cs,rfl,hg,hb,hT,B,q H (Same.refl H)⟩
abbrev nBeatAl:List Str:=["self","game","hand","trick","choice","beaters"]
abbrev nBeatB:List Str:=["card","game","trick"]
theorem scBeatAl:FnScope nBeatAl pAl (defScope sBeatAl):=⟨rfl,rfl,rfl,by decide +kernel,rfl,by decide +kernel,by decide +kernel⟩
def topV(fx:Fx)(t:Option Nat)(ys:List Nat)(x:V):Bool:=match x with | .int i=>ys.all fun o=>overB fx t i.toNat o (ledOf ys) | _=>false
theorem topV_list(fx:Fx)(t:Option Nat)(ys ds:List Nat):(((vN ds).filter (topV fx t ys)).map fun x=>x)=vN (ds.filter fun c=>ys.all fun o=>overB fx t c o (ledOf ys)):=by
 rw[List.map_id']
 unfold vN
 rw[List.filter_map]
 refine congrArg _ (List.filter_congr fun c _=>?_)
 show(ys.all fun o=>overB fx t (((c:Nat):Int).toNat) o (ledOf ys))=_
 rw[Int.toNat_natCast]
theorem ok_beatAl{k:Nat}{CT CG f1 f2 f3 f4:Addr}{d1 d2 d3 d4:FuncData}(F:Fun K "allowed" "Beat.allowed" sBeatAl f fd)(LF:Lib P w K mg base k "followed_or_cut" ["game","hand","trick"] (spFoc K CG) f1 d1)
  (LH:Lib P w K mg base k "hand_of" ["cards"] (spHandOf K) f2 d2) (LI:Lib P w K mg base k "cards_in" ["hand"] (spCardsIn K) f3 d3) (LG:Lib P w K mg base k "goes_over_all" ["game","card","trick"] (spGoes K CT CG) f4 d4):FnOk P w K mg base CX0 (k+1) f fd pAl (spAl K CT CG 3):=by
 refine F.ok scBeatAl (fun vs H Q E h=>?_) (fun cdv A outer s H vs Q E hr h=>?_)
 ·obtain⟨a,gm,x,p,t,fx,ys,cs,rfl,_⟩:=h
  rfl
 obtain⟨a,gm,x,p,t,fx,ys,cs,rfl,ok,hg,ht,hb,hT,B,q⟩:=h
 refine⟨_,pss_cons (ps_set (i:=4) scBeatAl.nd rfl (Or.inl rfl) (pe_call LF.ok hr rfl LF.mg LF.kp LF.bd .nil pass0 (pa_cons (pv 1) (pa_cons (pv 2) (pa_cons (pv 3) pa_nil)))))
  (pss_cons (ps_set (i:=5) scBeatAl.nd rfl (Or.inl rfl) (pe_call LH.ok hr rfl LH.mg LH.kp LH.bd .nil pass0 (pa_cons (pe_comp nBeatB [none,some 1,some 3] rfl (Blk.by (sc:=defScope sBeatAl) (N0:=nBeatAl) rfl rfl (by decide +kernel)) (pi_list (pe_call LI.ok hr rfl LI.mg LI.kp LI.bd .nil pass0 (pa_cons (pv 4) pa_nil))) (fun C s₀ H₀ ex=>pg_name (i:=0) (show nBeatB.Nodup by decide +kernel) rfl (Or.inl rfl))
   (fun C s₀ H₀ ex=>pf_one (pt_truthB (pe_call LG.ok hr rfl LG.mg LG.kp LG.bd .nil pass0 (pa_cons (pv 1) (pa_cons (pv 0) (pa_cons (pv 2) pa_nil)))) (fun _=>rfl))) (fun C s₀ H₀ ex=>pv 0)) pa_nil)))
  (pss_one (ps_ret (pe_ifExp (pt_cmpR op_gt (pv 5) pe_int (nomark _)) (pv 5) (pv 4))))),?_⟩
 have hsub:=cutL_sub t (ledOf ys) cs
 have B2:=B.sub hsub
 refine⟨_,rfl,_,rfl,_,rfl,gm,x,p,t,fx,ys,cs,rfl,hg,hb,hT,B,?_⟩
 refine⟨_,rfl,hN (cutL t (ledOf ys) cs),rfl,hN_lt B2.c32,fun l1 H1 s1 hl1 hL1=>?_⟩
 rw[cardsV_eq] at hL1
 have hmem:=hN_cards B2.c32
 have hlen:(cardsN (hN (cutL t (ledOf ys) cs))).length≤32:=by
  unfold cardsN
  exact Nat.le_trans (List.length_filter_le _ _) (by rw[List.length_range];exact Nat.le_refl _)
 refine⟨l1,rfl,⟨_,SqL.of hL1⟩,comp_list (K:=K) (xs:=vN (cardsN (hN (cutL t (ledOf ys) cs)))) (topV fx t ys) (fun y=>y) (SqL.of hL1) (fits3 _ (by rw[vN_len];omega)) (fun y H3 hy sm R hR=>?_) (fun y H3 hy hp sm R hR=>⟨_,rfl,hR H3 (Same.refl H3)⟩) (fun lq H4 s4 hlq hL4=>?_)⟩
 ·obtain⟨c,hc,rfl⟩:=List.mem_map.mp hy
  have s3:=s1.trans sm
  have c8:=(B2.cs8 c ((hmem c).mp hc)).2
  refine⟨_,rfl,_,rfl,_,rfl,gm,x,p,t,fx,ys,c,rfl,ok,hg.same s3,ht.same s3,s3.seqT hT,B.sub (fun c hc=>nomatch hc),c8,fun H5 s5=>⟨_,rfl,?_⟩⟩
  have r:=hR H5 s5
  have e:topV fx t ys (.int (c:Nat))=ys.all fun o=>overB fx t c o (ledOf ys):=by
   show(ys.all fun o=>overB fx t (((c:Nat):Int).toNat) o (ledOf ys))=_
   rw[Int.toNat_natCast]
  rw[e] at r
  exact r
 ·rw[topV_list] at hL4
  refine⟨lq,_,rfl,SqL.of hL4,fun c hc=>cards_lt (List.mem_filter.mp hc).1,?_⟩
  have eo:orAll ((cardsN (hN (cutL t (ledOf ys) cs))).filter fun c=>ys.all fun o=>overB fx t c o (ledOf ys)) 0=hN (topL fx t ys (cutL t (ledOf ys) cs)):=by
   refine hN_ext fun i=>?_
   unfold topL
   rw[List.mem_filter,List.mem_filter,hmem]
  rw[eo]
  refine⟨_,rfl,_,_,rfl,rfl,_,rfl,?_⟩
  refine chg (gtz _) ?_
  have q':=q H4 (s1.trans s4)
  have e:hN (alw 3 fx t ys cs)=if 0 < hN (topL fx t ys (cutL t (ledOf ys) cs)) then hN (topL fx t ys (cutL t (ledOf ys) cs)) else hN (cutL t (ledOf ys) cs):=hN_orL
  rw[e] at q'
  by_cases c1:0 < hN (topL fx t ys (cutL t (ledOf ys) cs))
  ·rw[decide_eq_true c1]
   rw[if_pos c1] at q'
   exact iteT ⟨_,rfl,q'⟩
  ·rw[decide_eq_false c1]
   rw[if_neg c1] at q'
   exact iteF ⟨_,rfl,q'⟩
end
end My
namespace My
open PySem L2
section
variable{P:Program}{w:World}{K:PySem.W.Frag}{mg:Str→Option Value}{base:Heap}{f g:Addr}{fd gd:FuncData}
def spMay(K:PySem.W.Frag)(CT CG:Addr):Sp:=fun vs H Q _=>∃(gm x p:Addr) (t:Option Nat) (fx:Fx) (ys cs:List Nat),vs=[.ref gm,.int (hN cs:Nat),.ref p]∧fx.Ok∧IsGam CG x (tvV t) H gm∧IsTab CT fx H x∧TrB t∧SqT K H p (vN ys)∧(ys=[]∨Beg fx ys cs)∧∀ H',Same H H'→Q (.int (hN (if ys=[] then cs else alw fx.d fx t ys cs):Nat)) H'
theorem scMay:FnScope ["self","hand","trick"] ["self","hand","trick"] (defScope sMay):=⟨rfl,rfl,rfl,by decide +kernel,rfl,by decide +kernel,by decide +kernel⟩
abbrev AlF(P:Program)(w:World)(K:PySem.W.Frag)(mg:Str→Option Value)(base:Heap)(CT CG:Addr)(k:Nat)(c4 f4:_root_.Fin 4→Addr)(d4:_root_.Fin 4→FuncData):Prop:=MethF P w K mg base CX0 k (_root_.Fin 4) "allowed" pAl (spAl K CT CG) c4 f4 d4
theorem len0(ys:List Nat):decide (V.int (((vN ys).length:Nat):Int)=V.int 0)=decide (ys=[]):=by
 rw[vN_len]
 refine decide_eq_decide.mpr ⟨fun h=>?_,fun h=>by rw[h];rfl⟩
 injection h with h
 exact List.eq_nil_of_length_eq_zero (by omega)
theorem ok_may{k:Nat}{CT CG CN f1 m2:Addr}{d1 e2:FuncData}{c4 f4:_root_.Fin 4→Addr}{d4:_root_.Fin 4→FuncData}(F:Fun K "may" "Game.may" sMay f fd)(C:TabC K mg CT)(CGm:GamC K mg CG)(LD:LibX P w K mg base k "duty_of" ["word"] (spDuty c4 CN) f1 d1)
  (MD:Meth K CT "duty" m2) (FD:FnOk P w K mg base CX0 k m2 e2 ["self"] (spTDuty CT)) (BD:Binds K e2 ["self"] []) (MA:AlF P w K mg base CT CG k c4 f4 d4) (ml:mg "len" = none) :
  FnOk P w K mg base CX0 (k+1) f fd ["self","hand","trick"] (spMay K CT CG):=by
 refine F.ok scMay (fun vs H Q E h=>?_) (fun cdv A outer s H vs Q E hr h=>?_)
 ·obtain⟨gm,x,p,t,fx,ys,cs,rfl,_⟩:=h
  rfl
 obtain⟨gm,x,p,t,fx,ys,cs,rfl,ok,hg,ht,hb,hT,B,q⟩:=h
 refine⟨_,pss_cons (ps_if (pt_cmpR op_eq (pe_callB call_len_seq rfl ml PySem.boot_len (pa_cons (pv 2) pa_nil)) pe_int (nomark _)) (pss_one (ps_ret (pv 1))) pss_nil)
  (pss_one (ps_ret (pe_methF (pe_call LD.ok hr rfl LD.mg LD.kp LD.bd .nil pass1 (pa_cons (pe_meth0 (pe_fld (pv 0) rfl) C.cl MD FD hr BD .nil pass0) pa_nil)) MA hr pass0 (pa_cons (pv 0) (pa_cons (pv 1) (pa_cons (pv 2) pa_nil)))))),?_⟩
 refine⟨_,rfl,p,_,rfl,.inr hT,rfl,_,rfl,?_⟩
 refine chg (len0 ys) ?_
 by_cases c0:ys=[]
 ·rw[decide_eq_true c0]
  have q':=q H (Same.refl H)
  rw[if_pos c0] at q'
  exact iteT ⟨_,rfl,q'⟩
 ·rw[decide_eq_false c0]
  have B':=B.resolve_left c0
  obtain⟨dg,hG⟩:=id hg
  obtain⟨dx,po,to,hX,_,_⟩:=id ht
  refine iteF ⟨_,rfl,gm,CG,dg,_,_,rfl,hG,CGm.cl,CGm.nT,gam_table _ _,x,dx,_,rfl,hX,look7_duty _ _ _,x,fx,rfl,ht,wd fx.d,rfl,fun i e y dy H6 s6 hy h6=>?_,fun z=>absurd (mem_wd _) z⟩
  have ei:=wd_inj _ _ e
  refine⟨i,y,dy,[],rfl,h6,rfl,_,rfl,_,rfl,_,rfl,y,gm,x,p,t,fx,ys,cs,rfl,ok,hg.same s6,ht.same s6,hb,s6.seqT hT,B',fun H7 s7=>?_⟩
  have q':=q H7 (s6.trans s7)
  rw[if_neg c0,ei] at q'
  exact q'
end
end My
namespace My
open PySem L2
theorem count_one{p q:Nat→Bool}{c:Nat}:∀{l:List Nat},l.Nodup→c∈l→(∀ b,b≠c→p b=q b)→p c=false→q c=true→(l.filter p).length+1=(l.filter q).length
 | [],_,h,_,_,_=>nomatch h
 | a :: l,nd,h,e,pc,qc=>by
  obtain⟨na,nd'⟩:=List.nodup_cons.mp nd
  by_cases z:a=c
  ·subst z
   rw[List.filter_cons_of_neg (by rw[pc];exact Bool.false_ne_true),List.filter_cons_of_pos qc,List.length_cons]
   congr 2
   exact List.filter_congr fun b hb=>e b fun z=>na (z ▸ hb)
  ·have m:c∈l:=(List.mem_cons.mp h).resolve_left (Ne.symm z)
   have ih:=count_one nd' m e pc qc
   have ea:=e a z
   cases r:q a with
   | true=>rw[r] at ea;rw[List.filter_cons_of_pos ea,List.filter_cons_of_pos r,List.length_cons,List.length_cons,ih]
   | false=>rw[r] at ea;rw[List.filter_cons_of_neg (by rw[ea];exact Bool.false_ne_true),List.filter_cons_of_neg (by rw[r];exact Bool.false_ne_true),ih]
theorem two_bit(c b:Nat):(2 ^ c).testBit b=decide (c=b):=by
 rw[Nat.testBit_two_pow]
theorem xor_bit(h c b:Nat)(hc:h.testBit c=true):(h ^^^ 2 ^ c).testBit b=(!decide (c=b) && h.testBit b):=by
 rw[Nat.testBit_xor,two_bit]
 by_cases e:c=b
 ·subst e
  rw[hc,decide_eq_true rfl]
  rfl
 ·rw[decide_eq_false e]
  cases h.testBit b<;>rfl
theorem pc_xor{h c:Nat}(hc:h.testBit c=true)(c32:c < 32):pcK 32 (h ^^^ 2 ^ c)+1=pcK 32 h:=by
 unfold pcK
 refine count_one (c:=c) List.nodup_range (List.mem_range.mpr c32) (fun b n=>?_) ?_ hc
 ·rw[xor_bit _ _ _ hc,decide_eq_false (Ne.symm n)]
  rfl
 ·rw[xor_bit _ _ _ hc,decide_eq_true rfl]
  rfl
theorem xor_add{h c:Nat}(hc:h.testBit c=true):(h ^^^ 2 ^ c)+2 ^ c=h:=by
 have a:=PyProof.Rows.nat_or_add_and (h ^^^ 2 ^ c) (2 ^ c)
 have e1:(h ^^^ 2 ^ c) ||| 2 ^ c=h:=Nat.eq_of_testBit_eq fun b=>by
  rw[Nat.testBit_or,xor_bit _ _ _ hc,two_bit]
  by_cases e:c=b
  ·subst e
   rw[hc,decide_eq_true rfl]
   rfl
  ·rw[decide_eq_false e]
   cases h.testBit b<;>rfl
 have e2:(h ^^^ 2 ^ c) &&& 2 ^ c=0:=Nat.eq_of_testBit_eq fun b=>by
  rw[Nat.testBit_and,xor_bit _ _ _ hc,two_bit,Nat.zero_testBit]
  by_cases e:c=b
  ·rw[decide_eq_true e]
   rfl
  ·rw[decide_eq_false e,Bool.and_false]
 rw[e1,e2] at a
 omega
theorem lt32{h:Nat}(hb:∀ b,h.testBit b=true→b < 32):h < 4294967296:=by
 refine Nat.lt_pow_two_of_testBit (n:=32) h fun i hi=>?_
 cases e:h.testBit i with
 | false=>rfl
 | true=>exact absurd (hb i e) (by omega)
theorem set_count{α:Type}{p:α→Bool}{x:α}:∀{l:List α} {i:Nat} {a:α},l[i]? = some a→(l.set i x).countP p+(if p a then 1 else 0)=l.countP p+(if p x then 1 else 0)
 | [],_,_,h=>by simp at h
 | b :: l,0,a,h=>by
  have e:b=a:=Option.some.inj h
  subst e
  rw[List.set_cons_zero,List.countP_cons,List.countP_cons]
  omega
 | b :: l,i+1,a,h=>by
  have ih:=set_count (p:=p) (x:=x) (l:=l) (i:=i) (a:=a) h
  rw[List.set_cons_succ,List.countP_cons,List.countP_cons]
  omega
theorem set_sum{α:Type}{g:α→Nat}{x:α}:∀{l:List α} {i:Nat} {a:α},l[i]? = some a→((l.set i x).map g).sum+g a=(l.map g).sum+g x
 | [],_,_,h=>by simp at h
 | b :: l,0,a,h=>by
  have e:b=a:=Option.some.inj h
  subst e
  rw[List.set_cons_zero,List.map_cons,List.map_cons,List.sum_cons,List.sum_cons]
  omega
 | b :: l,i+1,a,h=>by
  have ih:=set_sum (g:=g) (x:=x) (l:=l) (i:=i) (a:=a) h
  rw[List.set_cons_succ,List.map_cons,List.map_cons,List.sum_cons,List.sum_cons]
  omega
def off(n lead i:Nat):Nat:=(i+n - lead) % n
theorem off_seat{n lead k:Nat}(hn:n=3∨n=4)(hl:lead < n)(hk:k < n):off n lead ((lead+k) % n)=k:=by
 have all:∀ n∈[3,4],∀ lead < n,∀ k < n,off n lead ((lead+k) % n)=k:=by decide
 exact all n (by rcases hn with rfl | rfl<;>simp) lead hl k hk
theorem off_back{n lead i:Nat}(hn:n=3∨n=4)(hl:lead < n)(hi:i < n):(lead+off n lead i) % n=i∧off n lead i < n:=by
 have all:∀ n∈[3,4],∀ lead < n,∀ i < n,(lead+off n lead i) % n=i∧off n lead i < n:=by decide
 exact all n (by rcases hn with rfl | rfl<;>simp) lead hl i hi
abbrev cntB(hs ys:List Nat)(b:Nat):Nat:=hs.countP (fun h=>h.testBit b)+ys.count b
structure Plc(f:Fx)(hs:List Nat)(lead:Nat)(ys:List Nat)(m:Nat):Prop where
 len:hs.length=f.n
 ld:lead < f.n
 yl:ys.length < f.n
 one:∀ b,cntB hs ys b≤1
 pk:∀ b,0 < cntB hs ys b→b / 8 < f.s∧b % 8 < f.h
 lv:∀ i h,hs[i]? = some h→pcK 32 h+(if off f.n lead i < ys.length then 1 else 0)=m
section
variable{f:Fx}{hs ys:List Nat}{lead m:Nat}
theorem Plc.b32(ok:f.Ok)(P:Plc f hs lead ys m){b:Nat}(h:0 < cntB hs ys b):b < 32:=by
 have:=P.pk b h
 have:=ok.s4
 have:=ok.h8
 omega
theorem cnt_hand{h b:Nat}(hh:h∈hs)(hb:h.testBit b=true):0 < cntB hs ys b:=Nat.lt_of_lt_of_le (List.countP_pos_iff.mpr ⟨h,hh,hb⟩) (Nat.le_add_right _ _)
theorem cnt_card{c:Nat}(hc:c∈ys):0 < cntB hs ys c:=Nat.lt_of_lt_of_le (List.count_pos_iff.mpr hc) (Nat.le_add_left _ _)
theorem Plc.h32(ok:f.Ok)(P:Plc f hs lead ys m){h:Nat}(hh:h∈hs):h < 4294967296:=lt32 fun b hb=>P.b32 ok (cnt_hand hh hb)
theorem Plc.y32(ok:f.Ok)(P:Plc f hs lead ys m){c:Nat}(hc:c∈ys):c < 32:=P.b32 ok (cnt_card hc)
theorem Plc.nd(P:Plc f hs lead ys m):ys.Nodup:=List.nodup_iff_count.mpr fun b=>by have:=P.one b;unfold cntB at this;omega
theorem Plc.apart(P:Plc f hs lead ys m){h c:Nat}(hh:h∈hs)(hc:c∈ys):h.testBit c=false:=by
 cases e:h.testBit c with
 | false=>rfl
 | true=>
  have h1:0 < hs.countP (fun h=>h.testBit c):=List.countP_pos_iff.mpr ⟨h,hh,e⟩
  have h2:=List.count_pos_iff.mpr hc
  have:=P.one c
  unfold cntB at this
  omega
theorem seat_lt(ok:f.Ok)(lead k:Nat):(lead+k) % f.n < f.n:=Nat.mod_lt _ (by rcases ok.n34 with e | e<;>omega)
theorem Plc.turn(ok:f.Ok)(P:Plc f hs lead ys m):∃ h,hs[(lead+ys.length) % f.n]? = some h∧pcK 32 h=m:=by
 have sl:=seat_lt ok lead ys.length
 have hl:(lead+ys.length) % f.n < hs.length:=by rw[P.len];exact sl
 refine⟨_,List.getElem?_eq_getElem hl,?_⟩
 have:=P.lv _ _ (List.getElem?_eq_getElem hl)
 rw[off_seat ok.n34 P.ld P.yl,if_neg (Nat.lt_irrefl _)] at this
 exact this
theorem Plc.le(P:Plc f hs lead ys m){h:Nat}(hh:h∈hs):pcK 32 h≤m:=by
 obtain⟨i,hi,e⟩:=List.mem_iff_getElem.mp hh
 have:=P.lv i h (by rw[List.getElem?_eq_getElem hi,e])
 omega
theorem Plc.max(ok:f.Ok)(P:Plc f hs lead ys m):m∈hs.map (pcK 32)∧∀ x∈hs.map (pcK 32),x≤m:=by
 obtain⟨h,e1,e2⟩:=P.turn ok
 refine⟨List.mem_map.mpr ⟨h,List.mem_of_getElem? e1,e2⟩,fun x hx=>?_⟩
 obtain⟨h',hm,rfl⟩:=List.mem_map.mp hx
 exact P.le hm
theorem Plc.none(ok:f.Ok)(P:Plc f hs lead ys 0):ys=[]:=by
 cases ys with
 | nil=>rfl
 | cons c r=>
  exfalso
  have hl:lead < hs.length:=by rw[P.len];exact P.ld
  have:=P.lv lead _ (List.getElem?_eq_getElem hl)
  have e:off f.n lead lead=0:=by
   have:=off_seat (k:=0) ok.n34 P.ld (by have:=P.ld;omega)
   rw[Nat.add_zero,Nat.mod_eq_of_lt P.ld] at this
   exact this
  rw[e,if_pos (by simp)] at this
  omega
theorem Plc.step(ok:f.Ok)(P:Plc f hs lead ys m){h c:Nat}(hh:hs[(lead+ys.length) % f.n]? = some h)(hc:h.testBit c=true) :
  (∀ b,cntB (hs.set ((lead+ys.length) % f.n) (h ^^^ 2 ^ c)) (ys++[c]) b=cntB hs ys b)∧(hs.set ((lead+ys.length) % f.n) (h ^^^ 2 ^ c)).sum+2 ^ c=hs.sum ∧
  ((hs.set ((lead+ys.length) % f.n) (h ^^^ 2 ^ c)).map (pcK 32)).sum+1=(hs.map (pcK 32)).sum∧0 < m ∧
  (ys.length+1 < f.n→Plc f (hs.set ((lead+ys.length) % f.n) (h ^^^ 2 ^ c)) lead (ys++[c]) m) ∧
  (ys.length+1=f.n→∀ t,t < f.n→Plc f (hs.set ((lead+ys.length) % f.n) (h ^^^ 2 ^ c)) t [] (m - 1)):=by
 have hm:h∈hs:=List.mem_of_getElem? hh
 have c32:=P.b32 ok (cnt_hand (ys:=ys) hm hc)
 have A:∀ b,cntB (hs.set ((lead+ys.length) % f.n) (h ^^^ 2 ^ c)) (ys++[c]) b=cntB hs ys b:=fun b=>by
  have z:=set_count (p:=fun h=>h.testBit b) (x:=h ^^^ 2 ^ c) hh
  unfold cntB
  rw[List.count_append,List.count_singleton]
  have e:=xor_bit h c b hc
  by_cases q:c=b
  ·subst q
   rw[decide_eq_true rfl] at e
   have e':(h ^^^ 2 ^ c).testBit c=false:=e
   rw[hc,e'] at z
   simp only[if_true,Bool.false_eq_true,if_false,beq_self_eq_true] at z ⊢
   omega
  ·rw[decide_eq_false q] at e
   have e':(h ^^^ 2 ^ c).testBit b=h.testBit b:=e
   rw[e'] at z
   rw[if_neg (by simpa using q)]
   omega
 have pc:=pc_xor hc c32
 have S1:=set_sum (g:=id) (x:=h ^^^ 2 ^ c) hh
 have S2:=set_sum (g:=pcK 32) (x:=h ^^^ 2 ^ c) hh
 rw[List.map_id,List.map_id] at S1
 have xa:=xor_add hc
 have S1':(hs.set ((lead+ys.length) % f.n) (h ^^^ 2 ^ c)).sum+h=hs.sum+(h ^^^ 2 ^ c):=S1
 have tl:=P.lv _ _ hh
 rw[off_seat ok.n34 P.ld P.yl,if_neg (Nat.lt_irrefl _)] at tl
 refine⟨A,by omega,by omega,by omega,fun hl=>⟨by rw[List.length_set];exact P.len,P.ld,by rw[List.length_append];exact hl,fun b=>by rw[A];exact P.one b,fun b=>by rw[A];exact P.pk b,fun i g e=>?_⟩,
  fun hl t ht=>⟨by rw[List.length_set];exact P.len,ht,by show 0 < f.n;omega,fun b=>?_,fun b hb=>?_,fun i g e=>?_⟩⟩
 ·rw[List.length_append,List.length_singleton]
  by_cases q:i=(lead+ys.length) % f.n
  ·subst q
   have hi:(lead+ys.length) % f.n < hs.length:=by rw[P.len];exact seat_lt ok _ _
   rw[List.getElem?_set_self hi] at e
   cases e
   rw[off_seat ok.n34 P.ld P.yl,if_pos (Nat.lt_succ_self _)]
   omega
  ·rw[List.getElem?_set_ne (Ne.symm q)] at e
   have:=P.lv i g e
   have hi:i < f.n:=by rw[← P.len];exact(List.getElem?_eq_some_iff.mp e).1
   obtain⟨o1,o2⟩:=off_back ok.n34 P.ld hi
   have ne:off f.n lead i≠ys.length:=fun z=>q (by rw[← o1,z])
   by_cases w:off f.n lead i < ys.length
   ·rw[if_pos w] at this
    rw[if_pos (by omega)]
    exact this
   ·rw[if_neg w] at this
    rw[if_neg (by omega)]
    exact this
 ·have:=A b
  have:=P.one b
  unfold cntB at *
  rw[List.count_append] at *
  simp only[List.count_nil] at *
  omega
 ·refine P.pk b ?_
  have:=A b
  unfold cntB at *
  rw[List.count_append] at *
  simp only[List.count_nil] at *
  omega
 ·have hi:i < f.n:=by
   have:=(List.getElem?_eq_some_iff.mp e).1
   rw[List.length_set,P.len] at this
   exact this
  show pcK 32 g+(if off f.n t i < 0 then 1 else 0)=m - 1
  rw[if_neg (Nat.not_lt_zero _)]
  by_cases q:i=(lead+ys.length) % f.n
  ·subst q
   have hi:(lead+ys.length) % f.n < hs.length:=by rw[P.len];exact seat_lt ok _ _
   rw[List.getElem?_set_self hi] at e
   cases e
   omega
  ·rw[List.getElem?_set_ne (Ne.symm q)] at e
   have:=P.lv i g e
   obtain⟨o1,o2⟩:=off_back ok.n34 P.ld hi
   have ne:off f.n lead i≠ys.length:=fun z=>q (by rw[← o1,z])
   rw[if_pos (by omega)] at this
   omega
end
theorem pack_mem{s h b:Nat}(h8:h≤8):b∈packL s h↔b / 8 < s∧b % 8 < h:=by
 unfold packL
 rw[List.mem_flatMap]
 constructor
 ·rintro⟨u,hu,hb⟩
  obtain⟨v,hv,rfl⟩:=List.mem_map.mp hb
  have:=List.mem_range.mp hu
  have:=List.mem_range.mp hv
  constructor<;>omega
 ·rintro⟨h1,h2⟩
  exact⟨b / 8,List.mem_range.mpr h1,List.mem_map.mpr ⟨b % 8,List.mem_range.mpr h2,by omega⟩⟩
end My
namespace My
open PySem L2
section
variable{f:Fx}{hs ys ws:List Nat}{lead m i:Nat}
end
end My
namespace L2
open PySem PySem.Spec PyProof.Rows Builtin Builtin.ObjectAttr
section
variable{prog:Program}{w:World}{A:Around}{E:Value→Shared→Prop}{h:Heap}{g:Array GenState}{d:Drawn}{t:Nat}{os:OsState}
variable{nm q:Str}{C N:Addr}{bs bm bmB:List Value}{hdct:Bool}{sn:List Str}{sub:List Value}{ab:Bool}{col:Option Bool}{dd:Option Addr}{k0 k1 k2 k3 k5:Option Value}{B newId initId:String}
end
section
variable{prog:Program}{w:World}{A:Around}{E:Value→Shared→Prop}{s:Shared}{K:PySem.W.Frag}{x C:Addr}{o:Obj}{vs:Array Value}{name:Str}{v:Value}
end
end L2
namespace L2
open PySem PySem.Spec PyProof.Rows
section
variable{M:Model}{A:Around}{E:Value→Shared→Prop}{env:Env}
variable{nm q:Str}{C N:Addr}{bs bm:List Value}{hdct:Bool}{sn:List Str}{sub:List Value}{ab:Bool}{col:Option Bool}{dd:Option Addr}{k0 k1 k2 k3 k5:Option Value}{newId:String}
end
end L2
namespace L2
open PySem PySem.Spec PyProof.Rows
section
variable{X:Cx}{n:Str}{np hpos np2 hpos2 pos:Pos}{i:Nat}
end
section
variable{X:Cx}{k:Nat}{f C:Addr}{fd:FuncData}{ps:List Str}{sp:Sp}{dvs:List V}{ds:List Value}{m name:Str}{p pos apos cpos:Pos}{o e a:Expr}{es:List Expr}{ta to:TE}{t:TA}
end
end L2
namespace L2
open PySem PySem.Spec PyProof.Rows
end L2
namespace L2
open PySem PySem.Spec PyProof.Rows
inductive DeepEq(K:PySem.W.Frag)(H:Hp):Nat→V→V→Prop
 | flat {d:Nat} {x:V}:flatV x=true→DeepEq K H d x x
 | tup {d:Nat} {p q:Addr} {xs ys:List V}:SqT K H p xs→SqT K H q ys→xs.length=ys.length→(∀ j,j < xs.length→DeepEq K H d (xs.getD j .non) (ys.getD j .non))→DeepEq K H (d+1) (.ref p) (.ref q)
 | lst {d:Nat} {p q:Addr} {xs ys:List V}:SqL K H p xs→SqL K H q ys→xs.length=ys.length→(∀ j,j < xs.length→DeepEq K H d (xs.getD j .non) (ys.getD j .non))→DeepEq K H (d+1) (.ref p) (.ref q)
theorem eqV_refl{x:V}(h:flatV x=true):eqV x x=true:=by
 cases x with
 | non=>rfl
 | bl b=>exact beq_self_eq_true b
 | int i=>exact beq_self_eq_true i
 | str t=>exact beq_self_eq_true t
 | _=>cases h
theorem item_rel{xs:List V}{us:List Value}(r:Vals xs us){j:Nat}(h:j < us.toArray.size):RelV (xs.getD j .non) us.toArray[j]∧j < xs.length:=by
 have hj:j < us.length:=by simpa using h
 have hx:j < xs.length:=by rw[r.length];exact hj
 obtain⟨u,e,ru⟩:=r.get (List.getElem?_eq_getElem hx)
 rw[List.getElem?_eq_getElem hj] at e
 have g:xs.getD j .non=xs[j]:=by rw[List.getD_eq_getElem?_getD,List.getElem?_eq_getElem hx];rfl
 have eu:us[j]=u:=Option.some.inj e
 refine⟨?_,hx⟩
 rw[g,List.getElem_toArray,eu]
 exact ru
theorem all_t(n:Nat):(List.range n).all (fun _=>true)=true:=List.all_eq_true.mpr fun _ _=>rfl
section
variable{X:Cx}{pins:List (Addr×Obj)}{σ:St}{H:Hp}{s:Shared}
theorem DeepEq.at(I:Inv X pins σ H s){d:Nat}{x y:V}(h:DeepEq X.K H d x y):∀{A:Around} {u v:Value},RelV x u→RelV y v→A.units+d < cLine→SeqAt.EqAt A s u v true:=by
 induction h with
 | flat f=>
  intro A u v rx ry _
  have:=eqAt_V (A:=A) (s:=s) rx ry f f
  rwa [eqV_refl f] at this
 | @tup d p q xs ys hp hq hl hi ih=>
  intro A u v rx ry hu
  cases rx
  cases ry
  by_cases e:p=q
  ·subst e;exact SeqAt.EqAt.same _
  obtain⟨its,r1,p1,_⟩:=I.tuple hp
  obtain⟨its2,r2,p2,_⟩:=I.tuple hq
  have l1:=r1.length
  have l2:=r2.length
  have z:=SeqAt.RcAt.tuples (A:=A) (s:=s) (e:=fun _=>true) p1 p2 (by omega) (fun j h1 h2=>ih j (item_rel r1 h1).2 (A:=A.in1) (item_rel r1 h1).1 (item_rel r2 h2).1 (by show A.units+1+d < cLine;omega))
  have ez:((List.range (min its.toArray.size its2.toArray.size)).all (fun _=>true) && its.toArray.size == its2.toArray.size)=true:=by
   rw[all_t,Bool.true_and]
   simp [← l1,← l2,hl]
  rw[ez] at z
  exact SeqAt.EqAt.of_refs e z
 | @lst d p q xs ys hp hq hl hi ih=>
  intro A u v rx ry hu
  cases rx
  cases ry
  by_cases e:p=q
  ·subst e;exact SeqAt.EqAt.same _
  obtain⟨its,r1,p1,_⟩:=I.list hp
  obtain⟨its2,r2,p2,_⟩:=I.list hq
  have l1:=r1.length
  have l2:=r2.length
  have z:=SeqAt.RcAt.lists (A:=A) (s:=s) (e:=fun _=>true) p1.isList p2.isList (by simp [← l1,← l2,hl]) (by omega) (fun j h1 h2=>ih j (item_rel r1 h1).2 (A:=A.in1) (item_rel r1 h1).1 (item_rel r2 h2).1 (by show A.units+1+d < cLine;omega))
  rw[all_t] at z
  exact SeqAt.EqAt.of_refs e z
end
end L2
namespace L2
open PySem PySem.Spec PyProof.Rows
theorem call_int_b{X:Cx}:CallR X (.type "int") (fun xs H Q=>∃ b,xs=[.bl b]∧Q (.int (if b then 1 else 0)) H):=by
 intro pins s σ H xs us Q I r h
 obtain⟨b,rfl,q⟩:=h
 obtain⟨u,rfl,ru⟩:=vals1 r
 cases ru
 exact call_int_bool ⟨.int _,H,I.tok _,⟨_,rfl⟩,q⟩
end L2
namespace L2
open PySem PySem.Spec PyProof.Rows
section
variable{X:Cx}{k:Nat}{f C:Addr}{fd:FuncData}{ps:List Str}{sp:Sp}{dvs:List V}{ds:List Value}{x:Str}{p pos:Pos}{e:Expr}{es:List Expr}{t:TA}
end
end L2
namespace My
open PySem L2
theorem set_nm{te:TE}{i:Nat}{u:TS}{D:Ends}{σ:St}{H:Hp}(G:V→Hp→Prop)(h:∀ R:V→Hp→Prop,(∀ v H',G v H'→R v H')→te σ H R)(hu:∀ v H',G v H'→u D (σ.set i (some v)) H'):tSeq (tAsg te (gName i)) u D σ H:=h _ hu
theorem seq_cut{s u:TS}{D:Ends}{σ:St}{H:Hp}(Pv:St→Hp→Prop)(h1:∀ D':Ends,D'.rt=D.rt→(∀ σ H,Pv σ H→D'.nx σ H)→s D' σ H)(h2:∀ σ H,Pv σ H→u D σ H):tSeq s u D σ H:=h1 { D with nx:=u D } rfl h2
theorem nx_of{T:St→Hp→Prop}{rt:VK}{bk ct:St→Hp→Prop}{σ:St}{H:Hp}(h:T σ H):tNext (Ends.mk T rt bk ct) σ H:=h
theorem int_dec{a b:Int}:decide (V.int a=V.int b)=decide (a=b):=decide_eq_decide.mpr ⟨fun h=>by injection h,fun h=>by rw[h]⟩
theorem nat_dec{a b:Nat}:decide (V.int (a:Nat)=V.int (b:Nat))=decide (a=b):=int_dec.trans (decide_eq_decide.mpr ⟨fun h=>by omega,fun h=>by omega⟩)
theorem natLit{r n:Nat}{i:Int}(h:i=((n:Nat):Int)):decide (V.int ((r:Nat):Int)=V.int i)=decide (r=n):=by subst h;exact nat_dec
end My
namespace L2
open PySem
end L2
namespace L2
open PySem PySem.Spec PyProof.Rows
section
variable{X:Cx}
end
end L2
namespace My
open PySem L2 PySem.Spec PyProof.Rows
section
variable{X:Cx}{e st:Expr}{te:TE}{ts:TO}{pos p2:Pos}
end
def up(c:Nat):Nat:=if 97≤c∧c≤122 then c - 32 else c
end My
namespace L2
open PySem PySem.Spec PyProof.Rows
section
variable{prog:Program}{w:World}{A:Around}{E:Value→Shared→Prop}{s:Shared}
end
section
variable{prog:Program}{w:World}{A:Around}{E:Value→Shared→Prop}{s:Shared}{h₀:Heap}{L l:Addr}{m:Str→Option Value}{news:List (Addr×Obj)}{Q:Value→Shared→Prop}
end
end L2
namespace L2
open PySem PySem.Spec PyProof.Rows
section
variable{prog:Program}{w:World}{A:Around}{E:Value→Shared→Prop}{s:Shared}{Q:Value→Shared→Prop}{pv nm qual:Str}{p p1 p2 p3:Pos}{f cc nl c':Addr}{pm ctv:Value}
end
end L2
namespace L2
open PySem PySem.Spec PyProof.Rows
section
variable{X:Cx}{pins:List (Addr×Obj)}{σ:St}{H:Hp}{s:Shared}{c P:Addr}{pv nm:Str}{p p1 p2 p3 pos:Pos}{cc:Addr}
end
end L2
namespace L2
open PySem PySem.Spec PyProof.Rows Att
theorem ObjOk.obj{P:Program}{w:World}{H:Hp}{h:Heap}{a:Addr}{o:HO}(x:ObjOk P w H h a o):∃ u,h.get? a=some u:=by
 cases o with
 | lst xs=>obtain⟨_,_,_,_,e⟩:=x;exact⟨_,e⟩
 | tup xs=>obtain⟨_,_,_,⟨u,e,_⟩⟩:=x;exact⟨u,e⟩
 | dK kvs=>obtain⟨_,_,_,_,o,_,_,e,_⟩:=x;exact⟨_,e⟩
 | dT kvs=>obtain⟨_,_,_,_,o,_,_,e,_⟩:=x;exact⟨_,e⟩
 | set S n=>obtain⟨o,_,_,_,e,_⟩:=x;exact⟨_,e⟩
 | ins C dx fs=>obtain⟨_,_,_,e,_⟩:=x;exact⟨_,e⟩
 | own y=>obtain⟨_,e⟩:=x;exact⟨_,e⟩
 | xd fs=>obtain⟨_,⟨_,_,_,e,_⟩,_⟩:=x;exact⟨_,e⟩
 | rng lo hi=>obtain⟨_,_,_,e⟩:=x;exact⟨_,e⟩
 | frz ob u=>obtain⟨e,_⟩:=x;exact⟨_,e⟩
 | tbl ps=>exact⟨_,(show h.get? a=some _ from x)⟩
 | met f y=>exact⟨_,(show h.get? a=some _ from x)⟩
 | ext φ=>obtain⟨_,⟨_,e⟩,_⟩:=x;exact⟨_,e⟩
section
variable{X:Cx}{pins:List (Addr×Obj)}{σ:St}{H:Hp}{s:Shared}{c P:Addr}{pv nm:Str}{p p1 p2 p3 pos:Pos}{cc:Addr}
end
end L2
namespace L2
open PySem PySem.Spec PyProof.Rows Att
section
variable{X:Cx}{c P:Addr}{pv nm:Str}{p p1 p2 p3 pos np cpos kp:Pos}{e:Expr}{t:TA}{i:Nat}
end
end L2
namespace L2
open PySem PySem.Spec PyProof.Rows
end L2
namespace L2
open PySem PySem.Spec PyProof.Rows
section
variable{X:Cx}
theorem ints_of_vals:∀{ns:List Int} {us:List Value},Vals (ns.map V.int) us→IntsAre us ns
 | [],[],_=>.nil
 | n :: ns,u :: us,h=>by
  cases h with
  | cons r rr=>
   obtain⟨t,rfl⟩:=r
   exact .cons n t (ints_of_vals rr)
theorem call_sortedI:CallR X (.builtin "sorted") (fun xs H Q=>∃(a:Addr) (ns:List Int),xs=[.ref a]∧SqL X.K H a (ns.map V.int)∧ns.length < 64∧∀(l:Addr) (ms:List Int),H l=none→ms.Perm ns→ms.Pairwise (·≤·)→Q (.ref l) (upd H l (.lst (ms.map V.int)))):=by
 intro pins s σ H xs us Q I r h
 obtain⟨a,ns,rfl,hS,h64,q⟩:=h
 obtain⟨u,rfl,ru⟩:=vals1 r
 cases ru
 obtain⟨its,ri,pl,hz⟩:=I.list hS
 have hl:s.heap.IsList a its.toArray:=isL_of pl
 have hI:=ints_of_vals ri
 refine sorted_ints hl hI (by have:=hI.length;omega) fun out ms a1 a2 a3=>?_
 obtain⟨e,he⟩:=sortedAll_at s.heap its out
 refine⟨.ref (s.heap.objs.size+1),_,I.laid (t':=s.toks) (a:=s.heap.objs.size+1) (o:=.lst (ms.map V.int)) (fun b u e=>sortedAll_old e) (Nat.le_succ _) ⟨by rw[List.length_map,a2.length_eq,sizeLine_eq];omega,out.toList,e,vals_ints a1,by simpa using he⟩,rfl,q _ ms (I.hok.fresh (Nat.le_succ _)) a2 a3⟩
def rCatG:R2:=fun x y H Q=>∃ a b xs ys,x = .ref a∧y = .ref b∧H a=some (.tup xs)∧H b=some (.tup ys)∧xs.length+ys.length≤sizeLine∧∀ p H',Same H H'→H' p=some (.tup (xs++ys))→Q (.ref p) H'
theorem op_catG:OpR X (binaryOp .Add) rCatG:=by
 intro pins s σ H x y v u Q I rx ry h
 obtain⟨a,b,xs,ys,rfl,rfl,ha,hb,hz,q⟩:=h
 by_cases hx:xs=[]
 ·subst hx
  cases rx
  cases ry
  obtain⟨its,r1,p1,_⟩:=I.tuple (.inl (.inl ha))
  obtain⟨its2,r2,p2,_⟩:=I.tuple (.inl (.inl hb))
  have e1:its=[]:=r1.nil_iff.mpr rfl
  subst e1
  obtain⟨⟨cls,dd,data,sl⟩,ho,hc,n,hd⟩:=id p1
  obtain⟨⟨cls2,dd2,data2,sl2⟩,ho2,hc2,n2,hd2⟩:=id p2
  simp only at hc hd hc2 hd2
  subst hc hd hc2 hd2
  exact concat_meets ⟨_,ho,rfl⟩ ⟨_,ho2,rfl⟩ noFill_tuple_add seq_tuple_add PySem.F.slot_tuple_add PySem.F.entry_tuple_add (PySem.F.args_tuple_add_2 _ _)
   (tuple_addW0 a b _ _ n n2 dd dd2 sl sl2 rfl) ⟨ho,ho2,⟨.ref b,H,I,rfl,q b H (fun _ _ e=>e) hb⟩⟩
 ·exact op_catT pins s σ H _ _ v u Q I rx ry ⟨a,b,xs,ys,rfl,rfl,.inl (.inl ha),.inl (.inl hb),hx,hz,fun e=>by subst e;exact q a H (fun _ _ e=>e) (by rw[List.append_nil];exact ha),
   fun _ p hp=>q p _ (fun c o e=>by rw[upd_ne (ne_of_none e hp)];exact e) upd_same⟩
end
end L2
namespace My
open PySem L2
abbrev sMany:Stmt:=top 6
abbrev sRound:Stmt:=top 14
abbrev sTurnAt:Stmt:=top 15
abbrev sMoves:Stmt:=top 16
abbrev sLeft:Stmt:=top 17
theorem pack_len:∀ s≤4,∀ h≤8,(packL s h).length≤32:=by decide +kernel
section
variable{P:Program}{w:World}{K:PySem.W.Frag}{mg:Str→Option Value}{base:Heap}{f g:Addr}{fd gd:FuncData}
def spMany(K:PySem.W.Frag):Sp:=fun vs H Q _=>∃ h:Nat,vs=[.int h]∧h < 4294967296∧Q (.int (pcK 32 h)) H
theorem scMany:FnScope ["hand","number"] ["hand"] (defScope sMany):=⟨rfl,rfl,rfl,by decide +kernel,rfl,by decide +kernel,by decide +kernel⟩
theorem ok_many{k:Nat}(F:Fun K "many" "many" sMany f fd):FnOk P w K mg base CX0 (k+1) f fd ["hand"] (spMany K):=by
 refine F.ok scMany (fun vs H Q E h=>?_) (fun cdv A outer s H vs Q E hr h=>?_)
 ·obtain⟨h,rfl,_⟩:=h
  rfl
 obtain⟨h,rfl,h32,q⟩:=h
 refine⟨_,pss_cons (ps_set (i:=1) scMany.nd rfl (Or.inl rfl) pe_int)
  (pss_cons (ps_while PassesOwn.never (pt_cmpR op_gt (pv 0) pe_int (nomark _)) (pss_cons (ps_set (i:=0) scMany.nd rfl (Or.inl rfl) (pe_op op_and (pv 0) (pe_op op_sub (pv 0) pe_int)))
   (pss_one (ps_set (i:=1) scMany.nd rfl (Or.inl rfl) (pe_op op_add (pv 1) pe_int)))))
  (pss_one (ps_ret (pv 1)))),?_⟩
 refine while_by (fun σ H'=>H'=H∧∃ a n:Nat,σ=[some (.int (a:Nat)),some (.int (n:Nat))]∧a < 4294967296∧n+pcK 32 a=pcK 32 h) (fun σ _=>match σ with | some (.int a) :: _=>a.toNat | _=>0)
  ⟨rfl,h,0,rfl,h32,Nat.zero_add _⟩ (fun σ H1 z=>?_) (fun σ H1 R R' m ⟨v,e,i,j,e1,e2,b,e3,r⟩=>⟨v,e,i,j,e1,e2,b,e3,m _ _ r⟩)
 obtain⟨rfl,a,n,rfl,a32,inv⟩:=z
 refine⟨_,rfl,_,_,rfl,rfl,_,rfl,ite2 (fun c=>?_) fun c=>?_⟩
 ·have c':(0:Int) < (a:Nat):=of_decide_eq_true c
  refine⟨_,rfl,_,rfl,_,_,rfl,rfl,_,_,rfl,rfl,?_⟩
  refine⟨_,rfl,_,_,rfl,rfl,?_⟩
  have e:((a:Nat):Int) - 1=((a - 1:Nat):Int):=by omega
  have d:=pcK_drop 32 a (by omega) (by rw[show(2:Nat) ^ 32=4294967296 from rfl];exact a32)
  have l:a &&& (a - 1)≤a - 1:=Nat.and_le_right
  refine⟨⟨rfl,a &&& (a - 1),n+1,?_,by omega,by omega⟩,?_⟩
  ·show [some (V.int (Builtin.bitAnd (a:Nat) ((a:Nat) - 1))),some (V.int ((n:Nat)+1))]=_
   rw[e,PyProof.Rows.bitAnd_pp (Int.natCast_nonneg _) (Int.natCast_nonneg _)]
   rfl
  ·show(Builtin.bitAnd (a:Nat) ((a:Nat) - 1)).toNat < ((a:Nat):Int).toNat
   rw[e,PyProof.Rows.bitAnd_pp (Int.natCast_nonneg _) (Int.natCast_nonneg _)]
   show((a &&& (a - 1):Nat):Int).toNat < _
   omega
 ·have c':¬ (0:Int) < (a:Nat):=of_decide_eq_false (Bool.eq_false_iff.mpr c)
  have z:a=0:=by omega
  subst z
  rw[pcK_zero] at inv
  refine⟨_,rfl,?_⟩
  have e:n=pcK 32 h:=by omega
  rw[e]
  exact q
end
end My
namespace My
open PySem L2
section
variable{P:Program}{w:World}{K:PySem.W.Frag}{mg:Str→Option Value}{base:Heap}{f g:Addr}{fd gd:FuncData}
theorem shl_nat(c:Nat):(1:Int) * 2 ^ (((c:Nat):Int)).toNat=((2 ^ c:Nat):Int):=by
 rw[Int.toNat_natCast,Int.one_mul,Int.natCast_pow]
 rfl
def IsPl(H:Hp)(p:Addr)(hs:List Nat)(lead:Nat)(ys:List Nat):Prop:=∃ hp tp,H p=some (.tup [.ref hp,.int (lead:Nat),.ref tp])∧H hp=some (.tup (vN hs))∧H tp=some (.tup (vN ys))
theorem IsPl.same{H H':Hp}{p:Addr}{hs ys:List Nat}{lead:Nat}(h:IsPl H p hs lead ys)(s:Same H H'):IsPl H' p hs lead ys:=by
 obtain⟨hp,tp,a,b,c⟩:=h
 exact⟨hp,tp,s _ _ a,s _ _ b,s _ _ c⟩
structure GamH(CT CG:Addr)(f:Fx)(t:Option Nat)(H:Hp)(gm x:Addr):Prop where
 ok:f.Ok
 g:IsGam CG x (tvV t) H gm
 t:IsTab CT f H x
theorem GamH.same{CT CG:Addr}{f:Fx}{t:Option Nat}{H H':Hp}{gm x:Addr}(h:GamH CT CG f t H gm x)(s:Same H H'):GamH CT CG f t H' gm x:=⟨h.ok,h.g.same s,h.t.same s⟩
def spRound(CT CG:Addr):Sp:=fun vs H Q _=>∃(gm x:Addr) (t:Option Nat) (fx:Fx) (i j:Nat),vs=[.ref gm,.int (i:Nat),.int (j:Nat)]∧GamH CT CG fx t H gm x∧Q (.int ((i+j) % fx.n:Nat)) H
theorem scRound:FnScope ["game","lead","steps"] ["game","lead","steps"] (defScope sRound):=⟨rfl,rfl,rfl,by decide +kernel,rfl,by decide +kernel,by decide +kernel⟩
theorem ok_round{k:Nat}{CT CG:Addr}(F:Fun K "seat_round" "seat_round" sRound f fd)(C:TabC K mg CT)(CGm:GamC K mg CG):FnOk P w K mg base CX0 (k+1) f fd ["game","lead","steps"] (spRound CT CG):=by
 refine F.ok scRound (fun vs H Q E h=>?_) (fun cdv A outer s H vs Q E hr h=>?_)
 ·obtain⟨gm,x,t,fx,i,j,rfl,_⟩:=h
  rfl
 obtain⟨gm,x,t,fx,i,j,rfl,G,q⟩:=h
 refine⟨_,pss_one (ps_ret (pe_op op_mod (pe_op op_add (pv 1) (pv 2)) (pe_fld (pe_fld (pv 0) rfl) rfl))),?_⟩
 obtain⟨dg,hg⟩:=G.g
 obtain⟨dx,po,to,hx,_,_⟩:=G.t
 have n0:0 < fx.n:=by rcases G.ok.n34 with e | e<;>omega
 refine⟨_,rfl,_,rfl,_,_,rfl,rfl,_,rfl,gm,CG,dg,_,_,rfl,hg,CGm.cl,CGm.nT,gam_table _ _,x,CT,dx,_,_,rfl,hx,C.cl,C.nN,look7_seats _ _ _,_,_,rfl,rfl,(by show(0:Int) < ((fx.n:Nat):Int);omega),?_⟩
 have e:(((i:Nat):Int)+((j:Nat):Int)) % ((fx.n:Nat):Int)=(((i+j) % fx.n:Nat):Int):=by rw[Int.natCast_emod,Int.natCast_add]
 show Q (V.int ((((i:Nat):Int)+((j:Nat):Int)) % ((fx.n:Nat):Int))) H
 rw[e]
 exact q
def spLeft(K:PySem.W.Frag):Sp:=fun vs H Q _=>∃(p:Addr) (fx:Fx) (hs ys:List Nat) (lead m:Nat),vs=[.ref p]∧fx.Ok∧IsPl H p hs lead ys∧Plc fx hs lead ys m∧∀ H',Same H H'→Q (.int (m:Nat)) H'
theorem scLeft:FnScope ["place"] ["place"] (defScope sLeft):=⟨rfl,rfl,rfl,by decide +kernel,rfl,by decide +kernel,by decide +kernel⟩
def pcV(x:V):V:=match x with | .int i=>.int ((pcK 32 i.toNat:Nat):Int) | _=>.non
theorem pcV_list(hs:List Nat):((vN hs).filter fun _=>true).map pcV=(hs.map fun h=>((pcK 32 h:Nat):Int)).map V.int:=by
 rw[List.filter_eq_self.mpr fun _ _=>rfl]
 unfold vN
 rw[List.map_map,List.map_map]
 refine List.map_congr_left fun h _=>?_
 show V.int ((pcK 32 (((h:Nat):Int)).toNat:Nat):Int)=_
 rw[Int.toNat_natCast]
 rfl
theorem ok_left{k:Nat}{f1:Addr}{d1:FuncData}(F:Fun K "left" "left" sLeft f fd)(LM:Lib P w K mg base k "many" ["hand"] (spMany K) f1 d1)(mM:mg "max" = none):FnOk P w K mg base CX0 (k+1) f fd ["place"] (spLeft K):=by
 refine F.ok scLeft (fun vs H Q E h=>?_) (fun cdv A outer s H vs Q E hr h=>?_)
 ·obtain⟨p,fx,hs,ys,lead,m,rfl,_⟩:=h
  rfl
 obtain⟨p,fx,hs,ys,lead,m,rfl,ok,⟨hp,tp,h1,h2,h3⟩,Pl,q⟩:=h
 refine⟨_,pss_one (ps_ret (pe_callB (call_maxL rfl) rfl mM PyProof.Rows.boot_max (pa_cons (pe_comp ["hand"] [none] rfl (Blk.by (sc:=defScope sLeft) (N0:=["place"]) rfl rfl (by decide +kernel)) (pi_tup (pe_ix ix_tup (pv 0) pe_int (fun _ _=>rfl))) (fun C s₀ H₀ ex=>pg_name (i:=0) (show(["hand"]:List Str).Nodup by decide +kernel) rfl (Or.inl rfl)) (fun C s₀ H₀ ex=>pf_nil)
   (fun C s₀ H₀ ex=>pe_call LM.ok hr rfl LM.mg LM.kp LM.bd .nil pass0 (pa_cons (pv 0) pa_nil))) pa_nil))),?_⟩
 have n4:hs.length≤4:=by rw[Pl.len];rcases ok.n34 with e | e<;>omega
 refine⟨_,rfl,p,_,_,_,rfl,rfl,SqT.of h1,(rfl:atI [V.ref hp,V.int (lead:Nat),V.ref tp] 0=some (V.ref hp)),hp,rfl,⟨_,SqT.of h2⟩,comp_tup (K:=K) (xs:=vN hs) (fun _=>true) pcV (SqT.of h2) (fits3 _ (by rw[vN_len];omega)) (fun y H3 hy sm R hR=>hR H3 (Same.refl H3)) (fun y H3 hy hp sm R hR=>?_) (fun lq H4 s4 hlq hL4=>?_)⟩
 ·obtain⟨h,hh,rfl⟩:=List.mem_map.mp hy
  refine⟨_,rfl,h,rfl,Pl.h32 ok hh,?_⟩
  have z:=hR H3 (Same.refl H3)
  have e:pcV (V.int (h:Nat))=V.int ((pcK 32 h:Nat):Int):=by
   show V.int ((pcK 32 (((h:Nat):Int)).toNat:Nat):Int)=_
   rw[Int.toNat_natCast]
  rw[e] at z
  exact z
 ·rw[pcV_list] at hL4
  obtain⟨m1,m2⟩:=Pl.max ok
  refine⟨lq,_,rfl,SqL.of hL4,?_,fun M hM hmax=>?_⟩
  ·rw[List.length_map,Pl.len]
   rcases ok.n34 with e | e<;>omega
  ·have e:M=(m:Nat):=by
    obtain⟨h,hh,e1⟩:=List.mem_map.mp hM
    have a1:=m2 _ (List.mem_map.mpr ⟨h,hh,rfl⟩)
    obtain⟨h',hh',e2⟩:=List.mem_map.mp m1
    have a2:=hmax _ (List.mem_map.mpr ⟨h',hh',rfl⟩)
    omega
   rw[e]
   exact q H4 s4
theorem vN_at{ws:List Nat}{j w:Nat}(h:ws[j]? = some w):atI (vN ws) (j:Nat)=some (.int (w:Nat)):=atI_nat (by unfold vN;rw[List.getElem?_map,h];rfl)
def powV(x:V):V:=match x with | .int i=>.int ((2 ^ i.toNat:Nat):Int) | _=>.non
theorem powV_list(ys:List Nat):((vN ys).filter fun _=>true).map powV=vN (ys.map fun c=>2 ^ c):=by
 rw[List.filter_eq_self.mpr fun _ _=>rfl]
 unfold vN
 rw[List.map_map,List.map_map]
 refine List.map_congr_left fun c _=>?_
 show V.int ((2 ^ (((c:Nat):Int)).toNat:Nat):Int)=_
 rw[Int.toNat_natCast]
 rfl
def turnV(f:Fx)(lead:Nat)(ys:List Nat)(m:Nat):V:=if m=0 then .non else .int (((lead+ys.length) % f.n:Nat):Int)
def spTurnAt(CT CG:Addr):Sp:=fun vs H Q _=>∃(gm x p:Addr) (t:Option Nat) (fx:Fx) (hs ys:List Nat) (lead m:Nat),vs=[.ref gm,.ref p]∧GamH CT CG fx t H gm x∧IsPl H p hs lead ys∧Plc fx hs lead ys m∧∀ H',Same H H'→Q (turnV fx lead ys m) H'
theorem scTurnAt:FnScope ["game","place"] ["game","place"] (defScope sTurnAt):=⟨rfl,rfl,rfl,by decide +kernel,rfl,by decide +kernel,by decide +kernel⟩
theorem ok_turnAt{k:Nat}{CT CG f1 f2:Addr}{d1 d2:FuncData}(F:Fun K "turn_at" "turn_at" sTurnAt f fd)(LL:Lib P w K mg base k "left" ["place"] (spLeft K) f1 d1)(LR:Lib P w K mg base k "seat_round" ["game","lead","steps"] (spRound CT CG) f2 d2)(ml:mg "len" = none) :
  FnOk P w K mg base CX0 (k+1) f fd ["game","place"] (spTurnAt CT CG):=by
 refine F.ok scTurnAt (fun vs H Q E h=>?_) (fun cdv A outer s H vs Q E hr h=>?_)
 ·obtain⟨gm,x,p,t,fx,hs,ys,lead,m,rfl,_⟩:=h
  rfl
 obtain⟨gm,x,p,t,fx,hs,ys,lead,m,rfl,G,hPl,Pl,q⟩:=h
 refine⟨_,pss_cons (ps_if (pt_cmpR op_eq (pe_call LL.ok hr rfl LL.mg LL.kp LL.bd .nil pass0 (pa_cons (pv 1) pa_nil)) pe_int (nomark _)) (pss_one (ps_ret pe_non)) pss_nil)
  (pss_one (ps_ret (pe_call LR.ok hr rfl LR.mg LR.kp LR.bd .nil pass0 (pa_cons (pv 0) (pa_cons (pe_ix ix_tup (pv 1) pe_int (fun _ _=>rfl)) (pa_cons (pe_callB call_len_seq rfl ml PySem.boot_len (pa_cons (pe_ix ix_tup (pv 1) pe_int (fun _ _=>rfl)) pa_nil)) pa_nil)))))),?_⟩
 refine⟨_,rfl,p,fx,hs,ys,lead,m,rfl,G.ok,hPl,Pl,fun H1 s1=>⟨rfl,_,rfl,?_⟩⟩
 have e0:decide (V.int ((m:Nat):Int)=V.int 0)=decide (m=0):=natLit (n:=0) rfl
 refine chg e0 ?_
 have q1:=q H1 s1
 unfold turnV at q1
 by_cases c:m=0
 ·rw[if_pos c] at q1
  rw[decide_eq_true c]
  exact iteT q1
 ·rw[if_neg c] at q1
  rw[decide_eq_false c]
  obtain⟨hp,tp,h1,h2,h3⟩:=hPl.same s1
  refine iteF ⟨_,rfl,_,rfl,p,_,_,_,rfl,rfl,SqT.of h1,(rfl:atI [V.ref hp,V.int (lead:Nat),V.ref tp] 1=some (V.int (lead:Nat))),_,rfl,p,_,_,_,rfl,rfl,SqT.of h1,(rfl:atI [V.ref hp,V.int (lead:Nat),V.ref tp] 2=some (V.ref tp)),tp,_,rfl,.inr (SqT.of h3),gm,x,t,fx,lead,ys.length,?_,G.same s1,q1⟩
  show [V.ref gm,V.int (lead:Nat),V.int (((vN ys).length:Nat):Int)]=_
  rw[vN_len]
def mayL(f:Fx)(t:Option Nat)(ys:List Nat)(h:Nat):List Nat:=cardsN (hN (if ys=[] then cardsN h else alw f.d f t ys (cardsN h)))
theorem may_in{f:Fx}{t:Option Nat}{ys:List Nat}{h c:Nat}(h32:h < 4294967296)(hc:c∈mayL f t ys h):h.testBit c=true∧c < 32:=by
 unfold mayL at hc
 have sub:∀ x∈(if ys=[] then cardsN h else alw f.d f t ys (cardsN h)),x∈cardsN h:=fun x hx=>by
  by_cases e:ys=[]
  ·rw[if_pos e] at hx;exact hx
  ·rw[if_neg e] at hx;exact alw_sub _ _ _ _ _ x hx
 have l32:∀ x∈(if ys=[] then cardsN h else alw f.d f t ys (cardsN h)),x < 32:=fun x hx=>cards_lt (sub x hx)
 have m:=sub c ((hN_cards l32 c).mp hc)
 exact⟨(mem_cards h32).mp m,cards_lt m⟩
def moveL(f:Fx)(t:Option Nat)(hs:List Nat)(lead:Nat)(ys:List Nat)(m:Nat):List Nat:=if m=0 then [] else mayL f t ys (hs.getD ((lead+ys.length) % f.n) 0)
def spMoves(CT CG:Addr):Sp:=fun vs H Q _=>∃(gm x p:Addr) (t:Option Nat) (fx:Fx) (hs ys:List Nat) (lead m:Nat),vs=[.ref gm,.ref p]∧GamH CT CG fx t H gm x∧TrB t∧IsPl H p hs lead ys∧Plc fx hs lead ys m ∧
 ∀ l H',Same H H'→H l=none→H' l=some (.lst (vN (moveL fx t hs lead ys m)))→Q (.ref l) H'
theorem scMoves:FnScope ["game","place","seat"] ["game","place"] (defScope sMoves):=⟨rfl,rfl,rfl,by decide +kernel,rfl,by decide +kernel,by decide +kernel⟩
theorem Plc.beg{f:Fx}{hs ys:List Nat}{lead m h:Nat}(ok:f.Ok)(Pl:Plc f hs lead ys m)(hh:h∈hs):ys=[]∨Beg f ys (cardsN h):=by
 by_cases e:ys=[]
 ·exact .inl e
 ·have h32:=Pl.h32 ok hh
  have yl:=Pl.yl
  have n4:f.n≤4:=by rcases ok.n34 with z | z<;>omega
  have s4:=ok.s4
  refine .inr ⟨List.length_pos_iff.mpr e,by omega,fun c hc=>?_,fun c hc=>?_⟩
  ·have:=Pl.pk c (cnt_card hc)
   omega
  ·have:=Pl.pk c (cnt_hand (ys:=ys) hh ((mem_cards h32).mp hc))
   exact⟨cards_lt hc,this.2⟩
theorem ok_moves{k:Nat}{CT CG f1 f2 m3:Addr}{d1 d2 e3:FuncData}(F:Fun K "moves" "moves" sMoves f fd)(CGm:GamC K mg CG)(LT:Lib P w K mg base k "turn_at" ["game","place"] (spTurnAt CT CG) f1 d1)(LC:Lib P w K mg base k "cards_in" ["hand"] (spCardsIn K) f2 d2)
  (MM:Meth K CG "may" m3) (FM:FnOk P w K mg base CX0 k m3 e3 ["self","hand","trick"] (spMay K CT CG)) (BM:Binds K e3 ["self","hand","trick"] []):FnOk P w K mg base CX0 (k+1) f fd ["game","place"] (spMoves CT CG):=by
 refine F.ok scMoves (fun vs H Q E h=>?_) (fun cdv A outer s H vs Q E hr h=>?_)
 ·obtain⟨gm,x,p,t,fx,hs,ys,lead,m,rfl,_⟩:=h
  rfl
 obtain⟨gm,x,p,t,fx,hs,ys,lead,m,rfl,G,tb,hPl,Pl,q⟩:=h
 refine⟨_,pss_cons (ps_set (i:=2) scMoves.nd rfl (Or.inl rfl) (pe_call LT.ok hr rfl LT.mg LT.kp LT.bd .nil pass0 (pa_cons (pv 0) (pa_cons (pv 1) pa_nil))))
  (pss_cons (ps_if (pt_cmpR op_isN (pv 2) pe_non (nomark _)) (pss_one (ps_ret (pe_lst pa_nil))) pss_nil)
  (pss_one (ps_ret (pe_call LC.ok hr rfl LC.mg LC.kp LC.bd .nil pass0 (pa_cons (pe_meth (pv 0) CGm.cl MM FM hr BM .nil pass0 (pa_cons (pe_ix ix_tup (pe_ix ix_tup (pv 1) pe_int (fun _ _=>rfl)) (pv 2) (fun _ _=>rfl)) (pa_cons (pe_ix ix_tup (pv 1) pe_int (fun _ _=>rfl)) pa_nil))) pa_nil))))),?_⟩
 refine⟨_,rfl,_,rfl,gm,x,p,t,fx,hs,ys,lead,m,rfl,G,hPl,Pl,fun H1 s1=>?_⟩
 by_cases c:m=0
 ·have e:turnV fx lead ys m = .non:=by unfold turnV;rw[if_pos c]
  rw[e]
  refine⟨_,rfl,rfl,_,rfl,chg (decide_eq_true rfl:decide (V.non=V.non)=true) (iteT ⟨fits3 0 (by decide),fun l hl=>q l _ (s1.trans (same_upd hl _)) (s1.free hl) ?_⟩)⟩
  rw[upd_same]
  unfold moveL
  rw[if_pos c]
  rfl
 ·have e:turnV fx lead ys m = .int (((lead+ys.length) % fx.n:Nat):Int):=by unfold turnV;rw[if_neg c]
  rw[e]
  refine⟨_,rfl,rfl,_,rfl,chg (decide_eq_false (fun z=>nomatch z):decide (V.int (((lead+ys.length) % fx.n:Nat):Int)=V.non)=false) (iteF ?_)⟩
  obtain⟨h,eh,_⟩:=Pl.turn G.ok
  have hh:h∈hs:=List.mem_of_getElem? eh
  have h32:=Pl.h32 G.ok hh
  obtain⟨hp,tp,h1,h2,h3⟩:=hPl.same s1
  obtain⟨dg,hG⟩:=(G.same s1).g
  have eN:hN (cardsN h)=h:=orAll_eq h32 fun _=>Iff.rfl
  refine⟨_,rfl,gm,dg,_,rfl,hG,gam_none _ _ _ (by decide +kernel) (by decide +kernel),_,rfl,p,_,_,_,rfl,rfl,SqT.of h1,(rfl:atI [V.ref hp,V.int (lead:Nat),V.ref tp] 0=some (V.ref hp)),_,rfl,hp,_,_,_,rfl,rfl,SqT.of h2,vN_at eh,
   _,rfl,p,_,_,_,rfl,rfl,SqT.of h1,(rfl:atI [V.ref hp,V.int (lead:Nat),V.ref tp] 2=some (V.ref tp)),gm,x,tp,t,fx,ys,cardsN h,?_,G.ok,(G.same s1).g,(G.same s1).t,tb,SqT.of h3,Pl.beg G.ok hh,fun H2 s2=>?_⟩
  ·rw[eN]
   rfl
  ·have sub:∀ y∈(if ys=[] then cardsN h else alw fx.d fx t ys (cardsN h)),y < 32:=fun y hy=>by
    by_cases e:ys=[]
    ·rw[if_pos e] at hy;exact cards_lt hy
    ·rw[if_neg e] at hy;exact cards_lt (alw_sub _ _ _ _ _ y hy)
   refine⟨_,rfl,hN_lt sub,fun l H3 s3 hl hL=>q l H3 (s1.trans (s2.trans s3)) ((s1.trans s2).free hl) ?_⟩
   rw[hL]
   unfold moveL mayL
   rw[if_neg c,List.getD_eq_getElem?_getD,eh]
   rfl
def tkV:Option Nat→V
 | none=>.non
 | some i=>.int (i:Nat)
structure Nxt(f:Fx)(t:Option Nat)(hs:List Nat)(lead:Nat)(ys:List Nat)(h c:Nat)(hs':List Nat)(lead':Nat)(ys':List Nat)(tk:Option Nat):Prop where
 hand:hs'=hs.set ((lead+ys.length) % f.n) (h ^^^ 2 ^ c)
 go:ys.length+1 < f.n→lead'=lead∧ys'=ys++[c]∧tk=none
 full:ys.length+1=f.n→ys'=[]∧tk=some lead'∧∃ i,Win f t (ledOf (ys++[c])) (ys++[c]) i∧lead'=(lead+i) % f.n
end
end My
namespace My
open PySem L2
section
variable{fx:Fx}{t:Option Nat}{hs ys hs' ys':List Nat}{lead lead' m h c:Nat}{tk:Option Nat}
theorem Nxt.plc(ok:fx.Ok)(Pl:Plc fx hs lead ys m)(eh:hs[(lead+ys.length) % fx.n]? = some h)(hc:h.testBit c=true)(N:Nxt fx t hs lead ys h c hs' lead' ys' tk) :
  ∃ m',Plc fx hs' lead' ys' m'∧hs'.sum+2 ^ c=hs.sum∧(hs'.map (pcK 32)).sum+1=(hs.map (pcK 32)).sum∧0 < m∧((tk=none∧m'=m∧lead'=lead∧ys'=ys++[c]∧ys.length+1 < fx.n)∨(tk=some lead'∧m'+1=m∧ys'=[]∧lead' < fx.n)):=by
 obtain⟨A,S1,S2,m0,g1,g2⟩:=Pl.step ok eh hc
 have yl:=Pl.yl
 by_cases cl:ys.length+1 < fx.n
 ·obtain⟨e1,e2,e3⟩:=N.go cl
  rw[N.hand,e1,e2]
  exact⟨m,g1 cl,S1,S2,m0,.inl ⟨e3,rfl,rfl,rfl,cl⟩⟩
 ·have cl2:ys.length+1=fx.n:=by omega
  obtain⟨e1,e2,i,_,e3⟩:=N.full cl2
  have ll:lead' < fx.n:=by rw[e3];exact seat_lt ok _ _
  rw[N.hand,e1]
  exact⟨m - 1,g2 cl2 lead' ll,S1,S2,m0,.inr ⟨e2,by omega,rfl,ll⟩⟩
theorem trk_nd(Pl:Plc fx hs lead ys m)(eh:hs[(lead+ys.length) % fx.n]? = some h)(hc:h.testBit c=true):(ys++[c]).Nodup:=by
 refine List.nodup_append.mpr ⟨Pl.nd,List.nodup_cons.mpr ⟨List.not_mem_nil,List.nodup_nil⟩,fun y hy z hz=>?_⟩
 rw[List.mem_singleton.mp hz]
 intro e
 subst e
 have:=Pl.apart (List.mem_of_getElem? eh) hy
 rw[hc] at this
 cases this
end
theorem nxE{T:St→Hp→Prop}{rt:VK}{bk ct:St→Hp→Prop}{σ:St}{H:Hp}(h:T σ H):(Ends.mk T rt bk ct).nx σ H:=h
theorem eq_int(a b:Int):decide (V.int a=V.int b)=decide (a=b):=decide_eq_decide.mpr ⟨fun h=>by injection h,fun h=>by rw[h]⟩
section
variable{P:Program}{w:World}{K:PySem.W.Frag}{mg:Str→Option Value}{base:Heap}{f g:Addr}{fd gd:FuncData}
end
end My
namespace L2
open PySem PySem.Spec PyProof.Rows
section
variable{κ:Type} [DecidableEq κ]
end
section
variable{P:Program}{w:World}{H:Hp}{h:Heap}{a:Addr}
end
section
variable{X:Cx}{pins:List (Addr×Obj)}{σ:St}{H:Hp}{s:Shared}{a:Addr}{y v:V}{u r:Value}{o:Option V}{A:Around}{E:Value→Shared→Prop}
end
section
variable{X:Cx}{pins:List (Addr×Obj)}{σ:St}{H:Hp}{s:Shared}{a:Addr}{kvs:List (Key×V)}{k:Key}{u:Value}{A:Around}{E:Value→Shared→Prop}
end
section
variable{X:Cx}{o i e value:Expr}{pos pos' tpos:Pos}{td ty tv:TE}
end
section
variable{X:Cx}{pos:Pos}
end
section
variable{X:Cx}{pins:List (Addr×Obj)}{σ:St}{H:Hp}{s:Shared}{a:Addr}{y d:V}{u r:Value}{o:Option V}{A:Around}{E:Value→Shared→Prop}
end
section
variable{X:Cx}{o e f:Expr}{apos cpos:Pos}{td ty tx:TE}
end
section
variable{X:Cx}{pins:List (Addr×Obj)}{σ:St}{H:Hp}{s:Shared}{a:Addr}{kvs:List (Key×V)}{A:Around}{E:Value→Shared→Prop}
end
section
variable{X:Cx}{pins:List (Addr×Obj)}{σ:St}{H:Hp}{s:Shared}{a:Addr}{y:V}{u:Value}{A:Around}{E:Value→Shared→Prop}
end
end L2
namespace L2
open PySem PySem.Spec PyProof.Rows
end L2
namespace L2
open PySem PySem.Spec PyProof.Rows
end L2
namespace L2
open PySem PySem.Spec PyProof.Rows
theorem walks_with{prog:Program}{w:World}{A:Around}{I:Addr}{fp wr:List Addr}{n:Nat}{P:Nat→Value→Prop}{St:Nat→Heap→Prop}(W:Walks prog w A I fp wr n P St)(T:List (Addr×Obj))(hT:∀ q∈T,q.1∉wr) :
  Walks prog w A I (fp++T.map (·.1)) wr n P (fun i h=>St i h∧∀ q∈T,h.get? q.1=some q.2) where
 sub:=fun b hb=>List.mem_append_left _ (W.sub b hb)
 frame:=fun i h h' st hk=>⟨W.frame i h h' st.1 fun b hb o e=>hk b (List.mem_append_left _ hb) o e,fun q hq=>hk q.1 (List.mem_append_right _ (List.mem_map_of_mem hq)) _ (st.2 q hq)⟩
 item:=fun i st Q E hi hs hQ=>W.item i st Q E hi hs.1 fun v h' tk hP hst' hk=>hQ v h' tk hP ⟨hst',fun q hq=>hk q.1 q.2 (hT q hq) (hs.2 q hq)⟩ hk
 done:=fun st Q E hs hQ=>W.done st Q E hs.1 hQ
 self:=fun i st Q E hs hQ=>W.self i st Q E hs.1 hQ
section
variable{prog:Program}{w:World}{A:Around}{R:Result→Shared→Prop}{I:Addr}{fp wr:List Addr}{n:Nat}{P:Nat→Value→Prop}{St:Nat→Heap→Prop}
def CmpIn(prog:Program)(w:World)(A:Around)(P:Nat→Value→Prop)(St:Nat→Heap→Prop)(bt:Nat→Nat→Bool):Prop:=
 ∀ i j vi vj m (st:Shared) (Q:Value→Shared→Prop) (E:Value→Shared→Prop),P i vi→P j vj→St m st.heap→Q (.bool (bt i j)) st→wpAny (model prog w) A (richCompare .Gt vi vj) Q E st
theorem max_turns(W:Walks prog w A.in1 I fp wr n P St)(bt:Nat→Nat→Bool)(hc:CmpIn prog w A.in1 P St bt)(C:Addr)(hC:C∉fp):∀(k j:Nat) (st:Shared) (vb:Value) (c:Nat),n - (j+1)=k→j+1≤n→St (j+1) st.heap→P (argBest bt j) vb →
  st.heap.get? C=some { cls:=.type "list",dict:=none,data:=.seq #[vb,vb] c,slots:=#[] } →
  (∀ v h' tk,P (argBest bt (n - 1)) v→(∀ b o,b∉wr→b≠C→st.heap.get? b=some o→h'.get? b=some o)→R (.ok (.ret v)) { st with heap:=h',toks:=tk }) →
  codeAny (model prog w) A (.builtin "max.loop" ⟨[.ref I,.none,.ref C],[]⟩) R st:=by
 have nC:C∉wr:=fun z=>hC (W.sub _ z)
 have nm:(toString "max" ++ toString ".loop":String) = "max.loop":=by decide
 intro k
 induction k with
 | zero=>
  intro j st vb c e1 e2 h1 h2 h3 h4
  have e3:j+1=n:=by omega
  apply codeAny_builtin F.entry_max_loop
  rw[Around.under_plainId F.plain_max_loop]
  show wpAny _ A.in1 (seqItems? (.ref C) >>= _) _ _ st
  refine wpAny_bind (wpAny_seqItems h3 rfl ?_)
  show wpAny _ A.in1 (tryCatch (pyNext (.ref I)) _ >>= _) _ _ st
  refine wpAny_bind (wpAny_tryCatch (W.done st _ _ (e3 ▸ h1) fun g tk kp=>?_))
  have h5:=kp C _ nC h3
  show wpAny _ A.in1 (updateSeq C (fun _=>#[]) >>= _) _ _ _
  refine wpAny_bind (wpAny_updateSeq h5 rfl (wpAny_bind (wpAny_letGo (wpAny_pure ?_))))
  exact h4 vb _ tk (by rw[← e3];exact h2) fun b o n1 n2 e=>(Heap.get?_update_other _ _ (Ne.symm n2)).trans (kp b o n1 e)
 | succ k ih=>
  intro j st vb c e1 e2 h1 h2 h3 h4
  have e3:j+1 < n:=by omega
  apply codeAny_builtin F.entry_max_loop
  rw[Around.under_plainId F.plain_max_loop]
  show wpAny _ A.in1 (seqItems? (.ref C) >>= _) _ _ st
  refine wpAny_bind (wpAny_seqItems h3 rfl ?_)
  show wpAny _ A.in1 (tryCatch (pyNext (.ref I)) _ >>= _) _ _ st
  refine wpAny_bind (wpAny_tryCatch (W.item (j+1) st _ _ e3 h1 fun v g tk hP hg kp=>?_))
  have h5:=kp C _ nC h3
  show wpAny _ A.in1 (tryCatch (holding [v,v] (richCompare .Gt v vb >>= _)) _ >>= _) _ _ _
  refine wpAny_bind (wpAny_tryCatch (wpAny_holding (wpAny_bind (hc (j+1) (argBest bt j) v vb (j+1+1) _ _ _ hP h2 hg (wpAny_bind (wpAny_holding (wpAny_truthy_bool (wpAny_bind (wpAny_letGo (wpAny_pure ?_))))))))))
  cases hb:bt (j+1) (argBest bt j) with
  | true=>
   simp only[if_true]
   refine wpAny_bind (wpAny_updateSeq h5 rfl (wpAny_bind (wpAny_letGo ?_)))
   rw[nm]
   refine wpAny_pure ⟨plainId_quiet F.plain_max_loop _,ih (j+1) _ v _ (by omega) e3 (W.frame _ _ _ hg fun b hbf o e=>(Heap.get?_update_other _ _ (fun z:C=b=>hC (by rw[z];exact hbf))).trans e) (by simp only[argBest,hb,if_true];exact hP) (Heap.get?_update_self _ h5 rfl) fun v2 g2 tk2 hP2 kp2=>?_⟩
   exact h4 v2 g2 tk2 hP2 fun b o n1 n2 e=>kp2 b o n1 n2 ((Heap.get?_update_other _ _ (Ne.symm n2)).trans (kp b o n1 e))
  | false=>
   simp only[Bool.false_eq_true,if_false]
   refine wpAny_bind (wpAny_letGo ?_)
   rw[nm]
   refine wpAny_pure ⟨plainId_quiet F.plain_max_loop _,ih (j+1) _ vb c (by omega) e3 hg (by simp only[argBest,hb,Bool.false_eq_true,if_false];exact h2) h5 fun v2 g2 tk2 hP2 kp2=>?_⟩
   exact h4 v2 g2 tk2 hP2 fun b o n1 n2 e=>kp2 b o n1 n2 (kp b o n1 e)
end
theorem call_maxIn{prog:Program}{w:World}{A:Around}{E:Value→Shared→Prop}{s:Shared}{x:Value}{Q:Value→Shared→Prop}
  (h:wpAny (model prog w) A.in1 (pyIter x) (fun it s₂=>∃ I fp wr n P St bt,it = .ref I∧Walks prog w A.in1 I fp wr n P St∧St 0 s₂.heap∧(∀ b∈fp,b < s₂.heap.objs.size)∧0 < n∧CmpIn prog w A.in1 P St bt ∧
   ∀ v h' tk,P (argBest bt (n - 1)) v→(∀ b o,b∉wr→s₂.heap.get? b=some o→h'.get? b=some o)→Q v { s₂ with heap:=h',toks:=tk }) E s):wpAny (model prog w) A (call (.builtin "max") [x]) Q E s:=by
 have nm:(toString "max" ++ toString ".loop":String) = "max.loop":=by decide
 refine call_function_tree F.kind_max F.plain_max F.entry_max (F.args_max1 _) ?_
 show wpAny _ A.in1 (Builtin.Builtins.bindParams "max" ["key","default"] 0 ⟨[],[]⟩ >>= _) _ _ s
 refine wpAny_bind (wpAny_of_eq (show Builtin.Builtins.bindParams "max" ["key","default"] 0 ⟨[],[]⟩=pure [none,none] from rfl) (wpAny_bind (wpAny_pure (wpAny_bind (wpAny_mono h (fun it s₂ h₂=>?_) fun _ _ e=>e)))))
 obtain⟨I,fp,wr,n,P,St,bt,rfl,W,st0,hfp,hn,hc,hQ⟩:=h₂
 refine wpAny_bind (wpAny_newObj_type ?_)
 have nf:s₂.heap.objs.size∉fp:=fun hm=>Nat.lt_irrefl _ (hfp _ hm)
 have nw:s₂.heap.objs.size∉wr:=fun z=>nf (W.sub _ z)
 rw[nm]
 refine wpAny_pure ⟨plainId_quiet F.plain_max_loop _,?_⟩
 apply codeAny_builtin F.entry_max_loop
 rw[Around.under_plainId F.plain_max_loop]
 have hC:(s₂.heap.push { cls:=.type "list",data:=.seq ([]:List Value).toArray }).get? s₂.heap.objs.size=some { cls:=.type "list",data:=.seq ([]:List Value).toArray }:=Heap.get?_push_size _ rfl
 show wpAny _ A.in1 (seqItems? (.ref s₂.heap.objs.size) >>= _) _ _ _
 refine wpAny_bind (wpAny_seqItems hC rfl ?_)
 show wpAny _ A.in1 (tryCatch (pyNext (.ref I)) _ >>= _) _ _ _
 refine wpAny_bind (wpAny_tryCatch (W.item 0 _ _ _ hn (W.frame _ _ _ st0 fun b _ o e=>Heap.get?_push_of_some _ e) fun v g tk hP hg kp=>?_))
 have h5:=kp _ _ nw hC
 show wpAny _ A.in1 (updateSeq s₂.heap.objs.size (fun _=>#[v,v]) >>= _) _ _ _
 refine wpAny_bind (wpAny_updateSeq h5 rfl ?_)
 rw[nm]
 refine wpAny_pure ⟨plainId_quiet F.plain_max_loop _,max_turns W bt hc _ nf _ 0 _ v _ rfl hn (W.frame _ _ _ hg fun b hbf o e=>(Heap.get?_update_other _ _ (fun z:s₂.heap.objs.size=b=>nf (by rw[z];exact hbf))).trans e) hP (Heap.get?_update_self _ h5 rfl) fun v2 g2 tk2 hP2 kp2=>?_⟩
 exact hQ v2 g2 tk2 hP2 fun b o n1 e=>kp2 b o n1 (Nat.ne_of_lt (Heap.lt_size e)) ((Heap.get?_update_other _ _ (Nat.ne_of_gt (Heap.lt_size e))).trans (kp b o n1 (Heap.get?_push_of_some _ e)))
end L2
namespace L2
open PySem PySem.Spec PyProof.Rows
def TupL(K:PySem.W.Frag)(H:Hp)(a:Addr)(ps:List Addr)(nss:List (List Int)):Prop:=SqL K H a (ps.map V.ref)∧ps.length=nss.length∧∀(j:Nat) (p:Addr),ps[j]? = some p→∃ ns,nss[j]? = some ns∧H p=some (.tup (ns.map V.int))
theorem vals_refs:∀{ps:List Addr} {us:List Value},Vals (ps.map V.ref) us→us=ps.map Value.ref
 | [],[],_=>rfl
 | p :: ps,u :: us,h=>by
  cases h with
  | cons r rr=>
   have e:u=Value.ref p:=r
   rw[e,vals_refs rr]
   rfl
def intsOf(vs:List V):List Int:=vs.map fun v=>match v with | .int i=>i | _=>0
theorem intsOf_ints(ns:List Int):intsOf (ns.map V.int)=ns:=by
 unfold intsOf
 rw[List.map_map]
 have:((fun v:V=>match v with | .int i=>i | _=>0) ∘ V.int)=id:=by funext c;rfl
 rw[this,List.map_id]
def tupIs(H:Hp)(k:List Int)(y:Value):Bool:=match y with | .ref q=>(match H q with | some (.tup vs)=>decide (intsOf vs=k) | _=>false) | _=>false
theorem tupIs_at{H:Hp}{k ns:List Int}{q:Addr}(h:H q=some (.tup (ns.map V.int))):tupIs H k (.ref q)=decide (ns=k):=by
 show(match H q with | some (.tup vs)=>decide (intsOf vs=k) | _=>false)=_
 rw[h]
 show decide (intsOf (ns.map V.int)=k)=_
 rw[intsOf_ints]
theorem eqVs_ints:∀(ns ms:List Int),eqVs (ns.map V.int) (ms.map V.int)=decide (ns=ms)
 | [],[]=>rfl
 | [],_ :: _=>rfl
 | _ :: _,[]=>rfl
 | n :: ns,m :: ms=>by
  show(eqV (V.int n) (V.int m) && eqVs (ns.map V.int) (ms.map V.int))=_
  rw[eqVs_ints ns ms]
  have:eqV (V.int n) (V.int m)=(n == m):=rfl
  rw[this]
  by_cases e1:n=m<;>by_cases e2:ns=ms<;>simp [e1,e2]
theorem flat_ints(ns:List Int):(ns.map V.int).all flatV=true:=by
 rw[List.all_map]
 exact List.all_eq_true.mpr fun _ _=>rfl
section
variable{X:Cx}{pins:List (Addr×Obj)}{σ:St}{H:Hp}{s:Shared}
theorem eqAt_tups(I:Inv X pins σ H s){A:Around}{p q:Addr}{ns ms:List Int}(hp:H p=some (.tup (ns.map V.int)))(hq:H q=some (.tup (ms.map V.int)))(hu:A.units < cLine):SeqAt.EqAt A s (.ref p) (.ref q) (decide (ns=ms)):=by
 by_cases e:p=q
 ·subst e
  rw[hp] at hq
  have:ns=ms:=by
   have z:ns.map V.int=ms.map V.int:=by
    have:=Option.some.inj hq
    injection this
   have:=congrArg intsOf z
   rw[intsOf_ints,intsOf_ints] at this
   exact this
  rw[decide_eq_true this]
  exact SeqAt.EqAt.same _
 ·obtain⟨its,r1,p1,_⟩:=I.tuple (SqT.of hp)
  obtain⟨its2,r2,p2,_⟩:=I.tuple (SqT.of hq)
  have z:=SeqAt.RcAt.tuples (A:=A) (s:=s) (e:=fun j=>eqV ((ns.map V.int).getD j .non) ((ms.map V.int).getD j .non)) p1 p2 hu (fun j h1 h2=>eqAt_V (flat_at r1 (flat_ints ns) h1).1 (flat_at r2 (flat_ints ms) h2).1 (flat_at r1 (flat_ints ns) h1).2 (flat_at r2 (flat_ints ms) h2).2)
  have y:=eqVs_all (ns.map V.int) (ms.map V.int)
  rw[r1.length,r2.length] at y
  rw[List.size_toArray,List.size_toArray,y,eqVs_ints] at z
  exact SeqAt.EqAt.of_refs e z
theorem mt_indexT(hu:X.A.units+64 < cLine):MtR X "list.index" (fun x xs H Q=>∃(a p:Addr) (ps:List Addr) (nss:List (List Int)) (k:List Int) (j:Nat),x = .ref a∧xs=[.ref p]∧TupL X.K H a ps nss∧ps.length≤1000∧H p=some (.tup (k.map V.int))∧nss[j]? = some k∧(∀ m < j,nss[m]?≠some k)∧Q (.int (j:Nat)) H):=by
 intro pins s σ H x xs v us Q I rx rv h
 obtain⟨a,p,ps,nss,k,j,rfl,rfl,⟨hS,hl,hT⟩,h1000,hp,hj,hno,q⟩:=h
 cases rx
 obtain⟨u,rfl,ru⟩:=vals1 rv
 have eu:u=Value.ref p:=ru
 subst eu
 obtain⟨its,vi,pl,hz⟩:=I.list hS
 have ei:=vals_refs vi
 subst ei
 obtain⟨⟨cls,dd,data,sl⟩,ho,hc,n,hd⟩:=isL_of pl
 simp only at hc hd
 subst hc hd
 have jl:j < ps.length:=by rw[hl];exact(List.getElem?_eq_some_iff.mp hj).1
 have at_:∀ m (hm:m < (ps.map Value.ref).toArray.size),∃(q:Addr) (ns:List Int),(ps.map Value.ref).toArray[m] = .ref q∧nss[m]? = some ns∧H q=some (.tup (ns.map V.int)):=fun m hm=>by
  have hm':m < ps.length:=by simpa using hm
  obtain⟨ns,e1,e2⟩:=hT m ps[m] (List.getElem?_eq_getElem hm')
  exact⟨ps[m],ns,by simp,e1,e2⟩
 refine call_meets PySem.F.slot_list_index ⟨_,ho,rfl⟩ PySem.F.entry_list_index (PySem.F.args_list_index_2 _ _) (PySem.SeqAt.list_indexAt a (ps.map Value.ref).toArray n dd sl (.ref p) (tupIs H k) j (by simpa using jl) (by omega) ?_ ?_) ⟨ho,fun y hy=>?_,⟨.int (j:Nat),H,I.tok _,⟨_,rfl⟩,q⟩⟩
 ·obtain⟨q,ns,e1,e2,e3⟩:=at_ j (by simpa using jl)
  rw[e1,tupIs_at e3]
  rw[hj] at e2
  exact decide_eq_true (Option.some.inj e2).symm
 ·intro m hm hmj
  obtain⟨q,ns,e1,e2,e3⟩:=at_ m hm
  rw[e1,tupIs_at e3]
  exact decide_eq_false fun z=>hno m hmj (by rw[e2,z])
 ·have hy':y∈ps.map Value.ref:=by simpa using hy
  obtain⟨q,hq,rfl⟩:=List.mem_map.mp hy'
  obtain⟨m,hm,em⟩:=List.mem_iff_getElem.mp hq
  obtain⟨ns,e1,e2⟩:=hT m q (by rw[List.getElem?_eq_getElem hm,em])
  rw[tupIs_at e2]
  exact eqAt_tups I e2 hp (by show X.A.units+1 < cLine;omega)
theorem call_maxT(hc:X.calm=true)(hu:X.A.units+64 < cLine):CallR X (.builtin "max") (fun xs H Q=>∃(a:Addr) (ps:List Addr) (nss:List (List Int)) (g:Nat→Int),xs=[.ref a]∧TupL X.K H a ps nss∧0 < ps.length∧(∀(i j:Nat) (ns ms:List Int),nss[i]? = some ns→nss[j]? = some ms→HT.lexLt ms ns=decide (g i > g j)) ∧
  ∀(j:Nat) (p:Addr),ps[j]? = some p→(∀ i,i < ps.length→g i≤g j)→Q (.ref p) H):=by
 intro pins s σ H xs us Q I r h
 obtain⟨a,ps,nss,g,rfl,⟨hS,hl,hT⟩,hn,hg,q⟩:=h
 obtain⟨u,rfl,ru⟩:=vals1 r
 cases ru
 obtain⟨its,vi,pl,hz⟩:=I.list hS
 have ei:=vals_refs vi
 subst ei
 have hL:s.heap.IsList a (ps.map Value.ref).toArray:=isL_of pl
 have ha:a < s.heap.objs.size:=by obtain⟨_,e,_⟩:=hL;exact Heap.lt_size e
 have hh:X.A.in1.handled=none:=I.ok.hd hc
 have tob:∀ p∈ps,∃ o,s.heap.get? p=some o:=fun p hp=>by
  obtain⟨m,hm,em⟩:=List.mem_iff_getElem.mp hp
  obtain⟨ns,_,e2⟩:=hT m p (by rw[List.getElem?_eq_getElem hm,em])
  exact ObjOk.obj (I.hok p _ e2)
 let T:List (Addr×Obj):=ps.filterMap fun p=>(s.heap.get? p).map fun o=>(p,o)
 have mT:∀ q∈T,s.heap.get? q.1=some q.2:=fun q hq=>by
  obtain⟨p,hp,e⟩:=List.mem_filterMap.mp hq
  obtain⟨o,e1,e2⟩:=Option.map_eq_some_iff.mp e
  subst e2
  exact e1
 have inT:∀ p o,p∈ps→s.heap.get? p=some o→(p,o)∈T:=fun p o hp e=>List.mem_filterMap.mpr ⟨p,hp,by rw[e];rfl⟩
 refine call_maxIn (wpAny_pyIter_list hL ?_)
 refine⟨s.heap.objs.size,_,[s.heap.objs.size],(ps.map Value.ref).toArray.size,_,_,(fun i j=>decide (g i > g j)),rfl,walks_with (Walks.list hh s.heap.objs.size a (Nat.ne_of_lt ha) (ps.map Value.ref).toArray) T (fun q hq z=>?_),⟨⟨⟨_,Heap.get?_push_size _ rfl,rfl,rfl⟩,hL.push _⟩,fun q hq=>Heap.get?_push_of_some _ (mT q hq)⟩,?_,by simpa using hn,?_,fun v h' tk hP hk=>?_⟩
 ·have:=Heap.lt_size (mT q hq)
  rw[List.mem_singleton.mp z] at this
  exact Nat.lt_irrefl _ this
 ·intro b hb
  show b < (s.heap.push _).objs.size
  rw[Heap.size_push]
  rcases List.mem_append.mp hb with z | z
  ·rcases List.mem_cons.mp z with z | z
   ·rw[z];exact Nat.lt_succ_self _
   ·rw[List.mem_singleton.mp z];exact Nat.lt_succ_of_lt ha
  ·obtain⟨q,hq,rfl⟩:=List.mem_map.mp z
   exact Nat.lt_succ_of_lt (Heap.lt_size (mT q hq))
 ·intro i j vi vj m st Q2 E2 hPi hPj hst hQ2
  have get:∀(i:Nat) (vi:Value),(ps.map Value.ref).toArray[i]? = some vi→∃(p:Addr) (ns:List Int),vi = .ref p∧p∈ps∧nss[i]? = some ns∧H p=some (.tup (ns.map V.int)):=fun i vi e=>by
   have e':(ps.map Value.ref)[i]? = some vi:=by simpa using e
   rw[List.getElem?_map] at e'
   obtain⟨p,e1,e2⟩:=Option.map_eq_some_iff.mp e'
   obtain⟨ns,e3,e4⟩:=hT i p e1
   exact⟨p,ns,e2.symm,List.mem_of_getElem? e1,e3,e4⟩
  obtain⟨p1,ns,rfl,m1,n1,t1⟩:=get i vi hPi
  obtain⟨p2,ms,rfl,m2,n2,t2⟩:=get j vj hPj
  obtain⟨its1,r1,q1,_⟩:=I.tuple (SqT.of t1)
  obtain⟨its2,r2,q2,_⟩:=I.tuple (SqT.of t2)
  have i1:IntsAre its1.toArray.toList ns:=intsAre_of r1
  have i2:IntsAre its2.toArray.toList ms:=intsAre_of r2
  obtain⟨⟨cls,dd,data,sl⟩,ho,hcl,n,hd⟩:=id q1
  obtain⟨⟨cls2,dd2,data2,sl2⟩,ho2,hcl2,nn2,hd2⟩:=id q2
  simp only at hcl hd hcl2 hd2
  subst hcl hd hcl2 hd2
  have o1:=hst.2 _ (inT p1 _ m1 ho)
  have o2:=hst.2 _ (inT p2 _ m2 ho2)
  have e:HT.lexLt ms ns=decide (g i > g j):=hg i j ns ms n1 n2
  exact richCompare_meets_room (op:=.Gt) ⟨_,o1,rfl⟩ ⟨_,o2,rfl⟩ PySem.F.slot_tuple_gt PySem.F.entry_tuple_gt (PySem.F.args_tuple_gt_2 _ _) (tuple_gt_ints p1 p2 its1.toArray its2.toArray n nn2 dd dd2 sl sl2 ns ms i1 i2)
   ⟨o1,o2,(fun z=>nomatch z),by rw[e];exact hQ2⟩ (by show X.A.units+1 < cLine;omega)
 ·obtain⟨b1,b2⟩:=argBest_gt g ((ps.map Value.ref).toArray.size - 1)
  have sz:(ps.map Value.ref).toArray.size=ps.length:=by simp
  have hP':(ps.map Value.ref)[argBest (fun i j=>decide (g i > g j)) ((ps.map Value.ref).toArray.size - 1)]? = some v:=by simpa using hP
  rw[List.getElem?_map] at hP'
  obtain⟨p,e1,e2⟩:=Option.map_eq_some_iff.mp hP'
  subst e2
  refine⟨.ref p,H,I.kept (t':=tk) fun b o eb=>hk b o ?_ (Heap.get?_push_of_some _ eb),rfl,q _ p e1 fun i hi=>b2 i (by omega)⟩
  intro hm
  have:b=s.heap.objs.size:=by simpa using hm
  subst this
  exact absurd (Heap.lt_size eb) (Nat.lt_irrefl _)
end
end L2
namespace L2
open PySem PySem.Spec PyProof.Rows
theorem cells_app:∀(names:List (Str×NameKind)) (n:Nat) (acc:List (Str×Addr)),cellsFrom n names acc=cellsFrom n names []++acc
 | [],_,acc=>rfl
 | (x,k) :: r,n,acc=>by
  unfold cellsFrom
  by_cases hk:(k == NameKind.cell)=true
  ·rw[if_pos hk,if_pos hk,cells_app r (n+1) ((x,n) :: acc),cells_app r (n+1) [(x,n)],List.append_assoc];rfl
  ·rw[if_neg hk,if_neg hk];exact cells_app r n acc
theorem cells_mem{x:Str}{c:Addr}:∀(names:List (Str×NameKind)) (n:Nat) (acc:List (Str×Addr)),(x,c)∈cellsFrom n names acc→(x,NameKind.cell)∈names∨(x,c)∈acc
 | [],_,acc,h=>.inr h
 | (y,k) :: r,n,acc,h=>by
  unfold cellsFrom at h
  by_cases hk:(k == NameKind.cell)=true
  ·rw[if_pos hk] at h
   rcases cells_mem r (n+1) _ h with q | q
   ·exact .inl (List.mem_cons_of_mem _ q)
   ·rcases List.mem_cons.mp q with e | e
    ·cases e
     have e2:k = .cell:=by simpa using hk
     rw[e2];exact .inl List.mem_cons_self
    ·exact .inr e
  ·rw[if_neg hk] at h
   rcases cells_mem r n _ h with q | q
   ·exact .inl (List.mem_cons_of_mem _ q)
   ·exact .inr q
theorem lookup_app{α:Type}{x:Str}:∀(l m:List (Str×α)),(l++m).lookup x=(l.lookup x).orElse fun _=>m.lookup x
 | [],m=>rfl
 | (y,a) :: r,m=>by
  rw[List.cons_append,List.lookup_cons,List.lookup_cons]
  cases x == y with
  | true=>rfl
  | false=>exact lookup_app r m
theorem lookup_relabel{env:Env}{x:Str}:∀(names:List (Str×NameKind)),
  (names.map fun(n,k)=>if(k == NameKind.free && env.scope.kind == .function && env.kindOf n == some .cell) then(n,NameKind.cell) else(n,k)).lookup x=(names.lookup x).map fun k=>if(k == NameKind.free && env.scope.kind == .function && env.kindOf x == some .cell) then NameKind.cell else k
 | []=>rfl
 | (y,k) :: r=>by
  have ih:=lookup_relabel (env:=env) (x:=x) r
  show List.lookup x ((if(k == NameKind.free && env.scope.kind == .function && env.kindOf y == some .cell)=true then(y,NameKind.cell) else(y,k)) :: _)=_
  by_cases hk:(k == NameKind.free && env.scope.kind == .function && env.kindOf y == some .cell)=true
  ·rw[if_pos hk,List.lookup_cons,List.lookup_cons]
   by_cases e:x=y
   ·subst e
    rw[beq_self_eq_true]
    show some _=some _
    exact(congrArg some (if_pos hk)).symm
   ·have e':(x == y)=false:=by simpa using e
    rw[e']
    exact ih
  ·rw[if_neg hk,List.lookup_cons,List.lookup_cons]
   by_cases e:x=y
   ·subst e
    rw[beq_self_eq_true]
    show some _=some _
    exact(congrArg some (if_neg hk)).symm
   ·have e':(x == y)=false:=by simpa using e
    rw[e']
    exact ih
theorem relabel_two{env:Env}{names:List (Str×NameKind)}{x:Str}{k:NameKind}
  (h:(names.map fun(n,k)=>if(k == NameKind.free && env.scope.kind == .function && env.kindOf n == some .cell) then(n,NameKind.cell) else(n,k)).lookup x=some k) (hk:k = .cell∨k = .free) :
  names.lookup x=some .cell∨names.lookup x=some .free:=by
 rw[lookup_relabel] at h
 cases q:names.lookup x with
 | none=>rw[q] at h;cases h
 | some j=>
  rw[q] at h
  by_cases hj:(j == NameKind.free && env.scope.kind == .function && env.kindOf x == some .cell)=true
  ·have e:j = .free:=by
    rw[Bool.and_eq_true,Bool.and_eq_true] at hj
    simpa using hj.1.1
   rw[e];exact .inr rfl
  ·have h':some (if(j == NameKind.free && env.scope.kind == .function && env.kindOf x == some .cell)=true then NameKind.cell else j)=some k:=h
   rw[if_neg hj] at h'
   cases h'
   rcases hk with e | e
   ·rw[e];exact .inl rfl
   ·rw[e];exact .inr rfl
def clC(env:Env)(scope:Scope)(C:Addr):List (Str×Addr):=cellsFrom (C+1) scope.names (clOf env scope.names [])
def ownC(scope:Scope)(x:Str):Bool:=match scope.names.lookup x with | some .cell=>true | _=>false
def blkC(X:Cx)(N:List Str)(scope:Scope)(C:Addr)(s₀:Shared)(H₀:Hp)(ex:List Addr)(xe:Value→Shared→Prop):Cx:=
 { X with N:=N,s₀:=s₀,H₀:=H₀,env:=compEnvC scope (clC X.env scope C) C X.env,outer:=X.stack,stack:=X.stack,ex:=ex,fn:=ownC scope,pn:=[],xe:=xe }
structure BlkC(X:Cx)(N:List Str)(caps:List (Option Nat))(scope:Scope):Prop where
 kind:scope.kind = .function
 own:∀ y∈scope.names,y.2 = .cell→scope.names.lookup y.1=some .cell
 names:∀ y∈scope.names,y.2 = .local→scope.names.lookup y.1=some .local
 free:∀ y∈scope.names,y.2 = .free→X.env.kindOf y.1=some .cell∨X.env.kindOf y.1=some .free
 len:caps.length=N.length
 cap:∀(i j:Nat) (x:Str),caps[i]? = some (some j)→N[i]? = some x→X.N[j]? = some x∧Vis X.env.scope x∧scope.names.lookup x=some .free
theorem clC_cases{env:Env}{scope:Scope}{C:Addr}{x:Str}{c:Addr}(h:(clC env scope C).lookup x=some c) :
  (cellsFrom (C+1) scope.names []).lookup x=some c∨((cellsFrom (C+1) scope.names []).lookup x=none∧(clOf env scope.names []).lookup x=some c):=by
 unfold clC at h
 rw[cells_app,lookup_app] at h
 cases q:(cellsFrom (C+1) scope.names []).lookup x with
 | some d=>rw[q] at h;exact .inl h
 | none=>rw[q] at h;exact .inr ⟨rfl,h⟩
theorem clC_own{env:Env}{scope:Scope}{C:Addr}{x:Str}{c:Addr}(h:(cellsFrom (C+1) scope.names []).lookup x=some c):(clC env scope C).lookup x=some c:=by
 unfold clC
 rw[cells_app,lookup_app,h];rfl
theorem clC_took{env:Env}{scope:Scope}{C:Addr}{x:Str}{c:Addr}(h0:(cellsFrom (C+1) scope.names []).lookup x=none)(h:(clOf env scope.names []).lookup x=some c):(clC env scope C).lookup x=some c:=by
 unfold clC
 rw[cells_app,lookup_app,h0];exact h
theorem own_none{X:Cx}{N:List Str}{caps:List (Option Nat)}{scope:Scope}{C:Addr}{x:Str}(B:BlkC X N caps scope)(h:scope.names.lookup x=some .free):(cellsFrom (C+1) scope.names []).lookup x=none:=by
 cases q:(cellsFrom (C+1) scope.names []).lookup x with
 | none=>rfl
 | some c=>
  rcases cells_mem _ _ _ (PySem.mem_of_lookup q) with e | e
  ·have:=B.own _ e rfl
   rw[h] at this;cases this
  ·cases e
structure CellsAt(scope:Scope)(C:Addr)(h:Heap):Prop where
 cell:∀ x c,(cellsFrom (C+1) scope.names []).lookup x=some c→h.IsCell c none
theorem own_ok(scope:Scope)(h:Heap):CellsOk (pushCells (h.push { cls:=.type "dict",data:=.dict #[] }) scope.names) (h.objs.size+1) (cellsFrom (h.objs.size+1) scope.names []):=by
 have ok:=cellsFrom_ok scope.names (h.push { cls:=.type "dict",data:=.dict #[] }) (h.objs.size+1) [] ⟨fun _ _ hm=>(nomatch hm),List.Pairwise.nil⟩ (by rw[Heap.size_push];exact Nat.le_refl _)
 rw[Heap.size_push] at ok
 exact ok
theorem nfe_cells{M:Model}{A:Around}{E:Value→Shared→Prop}{s:Shared}{scope:Scope}{globals:Addr}{cl:List (Str×Addr)}{qual:Str}{env:Env}{Q:Env→Shared→Prop}
  (hQ:∀ h₁:Heap,h₁.Ns s.heap.objs.size (fun _=>none)→(∀ b o,s.heap.get? b=some o→h₁.get? b=some o)→CellsAt scope s.heap.objs.size h₁ →
   Q { scope,locals:=s.heap.objs.size,globals,cells:=cellsFrom (s.heap.objs.size+1) scope.names cl,qual,func:=none,code:=env.code,frame:=env.frame,builtins:=env.builtins } { s with heap:=h₁ }) :
  wpAny M A (newFunctionEnv scope globals cl [] qual none .none (some env)) Q E s:=by
 simp only[newFunctionEnv,Option.isSome_some,if_true]
 refine wpAny_bind (wpAny_alloc ?_)
 refine wpAny_bind (wpAny_layCells _ (fun name kind cells=>by cases hkc:kind == NameKind.cell<;>simp [hkc]) _ _ _ _ ?_)
 rw[show({ s with heap:=s.heap.push { cls:=.type "dict",data:=.dict #[] } }:Shared).heap.objs.size=s.heap.objs.size+1 from Heap.size_push ..]
 refine wpAny_bind ?_
 rw[List.forIn_nil]
 have ok:=own_ok scope s.heap
 refine wpAny_pure (wpAny_pure (hQ _ ((Heap.Ns.new s.heap (.type "dict")).keeps (pushCells_keeps _ _)) (fun b o e=>pushCells_keeps _ _ b o (Heap.get?_push_of_some _ e)) ⟨fun x c h=>(ok.empty x c (PySem.mem_of_lookup h)).1⟩))
section
variable{X:Cx}{pins:List (Addr×Obj)}{σ:St}{H:Hp}{s:Shared}
theorem own_above{scope:Scope}{h:Heap}{x:Str}{c:Addr}(e:(cellsFrom (h.objs.size+1) scope.names []).lookup x=some c):h.objs.size < c:=((own_ok scope h).empty x c (PySem.mem_of_lookup e)).2
theorem blkC_ok{N:List Str}{caps:List (Option Nat)}{scope:Scope}{fp:List Addr}{xe:Value→Shared→Prop}(B:BlkC X N caps scope)(I:Inv X pins σ H s)(hlt:∀ b∈fp,b < s.heap.objs.size)(hf:∀ b∈fp,FpOk X pins H b) :
  (blkC X N scope s.heap.objs.size s H fp xe).Ok where
 mod:=I.ok.mod
 kind:=B.kind
 glob:=I.ok.glob
 blt:=I.ok.blt
 above:=Nat.le_refl _
 inj:=fun x y c hx hy=>by
  have sub:=fun(z:Str) (c:Addr) (h:(clOf X.env scope.names []).lookup z=some c)=>cl_sub (env:=X.env) (acc:=[]) (fun _ _ e=>by simp at e) z c h
  rcases clC_cases hx with h1 | ⟨_,h1⟩<;>rcases clC_cases hy with h2 | ⟨_,h2⟩
  ·exact name_of_addr (own_ok scope s.heap).apart (PySem.mem_of_lookup h1) (PySem.mem_of_lookup h2)
  ·obtain⟨v,q⟩:=I.cell y c (sub y c h2)
   exact absurd (own_above h1) (Nat.not_lt.mpr (Nat.le_of_lt q.lt))
  ·obtain⟨v,q⟩:=I.cell x c (sub x c h1)
   exact absurd (own_above h2) (Nat.not_lt.mpr (Nat.le_of_lt q.lt))
  ·exact I.ok.inj x y c (sub x c h1) (sub y c h2)
 has:=fun x hk=>by
  have hm:scope.names.lookup x=some .cell∨scope.names.lookup x=some .free:=hk.elim (fun e=>relabel_two e (.inl rfl)) fun e=>relabel_two e (.inr rfl)
  rcases hm with e | e
  ·obtain⟨c,hc⟩:=cell_has (n:=s.heap.objs.size+1) e
   exact⟨c,clC_own hc⟩
  ·have hm:=lookup_mem e
   obtain⟨c,hc⟩:=I.ok.has x (B.free _ hm rfl)
   obtain⟨d,hd⟩:=Option.isSome_iff_exists.mp (cl_has (env:=X.env) (acc:=[]) hm hc)
   exact⟨d,clC_took (own_none B e) hd⟩
 cab:=fun x c h hc=>by
  have e:scope.names.lookup x=some .cell:=by
   have h':ownC scope x=true:=h
   unfold ownC at h'
   split at h'
   ·assumption
   ·cases h'
  obtain⟨d,hd⟩:=cell_has (n:=s.heap.objs.size+1) e
  have:=clC_own (env:=X.env) hd
  have hc':(clC X.env scope s.heap.objs.size).lookup x=some c:=hc
  rw[this] at hc'
  cases hc'
  exact Nat.le_of_lt (own_above hd)
 hd:=I.ok.hd
 frames:=I.ok.frames
 stk:=.inl rfl
 exf:=fun b hb=>⟨Nat.ne_of_lt (hlt b hb),fun x c hc=>by
  rcases clC_cases hc with h1 | ⟨_,h1⟩
  ·exact Nat.ne_of_gt (Nat.lt_trans (hlt b hb) (own_above h1))
  ·exact(hf b hb).2.2.2.2.1 x c (cl_sub (fun _ _ e=>by simp at e) x c h1)⟩
 bs:=I.bs
 bsz:=Nat.le_trans I.ok.bsz I.sz
 noex:=fun b o e hb=>by
  rcases(hf b hb).2.2.2.1 with h | h
  ·exact I.ok.noex b o e h
  ·exact absurd (Heap.lt_size (I.ok.bs b o e).1) (Nat.not_lt.mpr h)
 exfs:=fun b hb hs=>by
  rcases List.mem_cons.mp (I.stkSub b hs) with e | e
  ·exact(hf b hb).2.1 e
  ·exact(hf b hb).2.2.1 e
 funs:=I.stack
 frf:=I.stkFree
theorem blkC_inv{N:List Str}{caps:List (Option Nat)}{scope:Scope}{fp:List Addr}{xe:Value→Shared→Prop}{h₁:Heap}{t':Nat}(B:BlkC X N caps scope)(I:Inv X pins σ H s)(hlt:∀ b∈fp,b < s.heap.objs.size)(hf:∀ b∈fp,FpOk X pins H b)
  {m:Str→Option Value} (hn:h₁.Ns s.heap.objs.size m) (hk:∀ b o,s.heap.get? b=some o→h₁.get? b=some o) (hcs:CellsAt scope s.heap.objs.size h₁) :
  Inv (blkC X N scope s.heap.objs.size s H fp xe) [] (capSt caps σ) H { s with heap:=h₁,toks:=t' } where
 ok:=blkC_ok B I hlt hf
 os:=rfl
 bare:=I.bare
 base:=Un.kept hk
 loc:=by
  refine⟨m,hn,fun i x v hN hσ hv=>?_⟩
  unfold capSt at hσ
  rw[List.getElem?_map] at hσ
  cases hc:caps[i]? with
  | none=>rw[hc] at hσ;cases hσ
  | some oj=>
   rw[hc] at hσ
   cases oj with
   | none=>cases hσ
   | some j=>
    have hσ':(σ[j]?).join=some v:=Option.some.inj hσ
    have hj:σ[j]? = some (some v):=by
     cases q:σ[j]? with
     | none=>rw[q] at hσ';cases hσ'
     | some o=>rw[q] at hσ';have:o=some v:=hσ';rw[this]
    obtain⟨hNj,hVis,hfr⟩:=B.cap i j x hc hN
    obtain⟨m',_,hl⟩:=I.loc
    obtain⟨u,ru,lk⟩:=hl j x v hNj hj hVis
    have hm:=lookup_mem hfr
    have hkX:=B.free _ hm rfl
    refine⟨u,ru,.inr ⟨relabel_free hfr,?_⟩⟩
    rcases lk with⟨e,_⟩ | ⟨_,c,hc1,hc2⟩
    ·rcases hkX with e' | e'
     ·rw[e] at e';cases e'
     ·rw[e] at e';cases e'
    ·obtain⟨c',hc'⟩:=Option.isSome_iff_exists.mp (cl_has (env:=X.env) (acc:=[]) hm hc1)
     have h2:=cl_sub (fun _ _ e=>by simp at e) x c' hc'
     rw[hc1] at h2
     cases h2
     exact⟨c,clC_took (own_none B hfr) hc',hc2.keeps hk⟩
 cell:=fun x c hc=>by
  rcases clC_cases hc with h1 | ⟨_,h1⟩
  ·exact⟨none,hcs.cell x c h1⟩
  ·obtain⟨v,hv⟩:=I.cell x c (cl_sub (fun _ _ e=>by simp at e) x c h1)
   exact⟨v,hv.keeps hk⟩
 free:=I.hok.fresh (Nat.le_refl _)
 freeC:=fun x c hc=>by
  rcases clC_cases hc with h1 | ⟨_,h1⟩
  ·exact I.hok.fresh (Nat.le_of_lt (own_above h1))
  ·exact I.freeC x c (cl_sub (fun _ _ e=>by simp at e) x c h1)
 pin:=fun p hp=>by cases hp
 hok:=I.hok.kept hk
 len:=by unfold capSt;rw[List.length_map];exact B.len
def blkCX(X:Cx)(N:List Str)(scope:Scope)(use:Option (Value→Sem Unit))(Q:Value→Shared→Prop)(acc:Value)(C:Addr):Value→Shared→Prop:=
 notedBy (model X.prog X.w) X.A (compEnvC scope (clC X.env scope C) C X.env) fun e s'=>compPost (model X.prog X.w) X.A X.xe use Q acc C (.error e) s'
theorem comp_coreC{tg elt iter:Expr}{ifs:List Expr}{scope:Scope}{pos pos':Pos}{N:List Str}{caps:List (Option Nat)}{wi:TI}{g:TG}{tt:TT}{te:TE}{use:Option (Value→Sem Unit)}{Q:Value→Shared→Prop}{Qv:V→Hp→Prop}
  {xe:Value→Shared→Prop} (hc:X.calm=true) (B:BlkC X N caps scope) (hi:PI X tg iter wi)
  (hg:∀ C s₀ H₀ ex,PG (blkC X N scope C s₀ H₀ ex xe) tg g) (ht:∀ C s₀ H₀ ex,PF (blkC X N scope C s₀ H₀ ex xe) ifs tt) (he:∀ C s₀ H₀ ex,PE (blkC X N scope C s₀ H₀ ex xe) elt te)
  (I:Inv X pins σ H s) (h:wi σ H fun J H1=>tCompR g tt te (capSt caps σ) J H1 Qv)
  (fin:∀ l C H' s5,Inv X pins σ H' s5→(∃ m,s5.heap.Ns C m)→Loose X pins H' C→Qv (.ref l) H'→compPost (model X.prog X.w) X.A X.xe use Q (.ref l) C (.ok .next) s5)
  (hx:∀ acc C e s',xe e s'→blkCX X N scope use Q acc C e s')
  (hs:∀ x,foldedSetIterable iter X.env x=pure x:=by intro _;rfl) :
  wpAny (model X.prog X.w) X.A (comprehension (.ListComp elt [⟨tg,iter,ifs,0⟩] scope pos) scope X.env pos' (newList []) false (eval iter X.env) use) Q X.xe s:=by
 have hclos:closureFor scope X.env=(pure (clOf X.env scope.names []):Sem _):=clo_eq fun y hy hf=>I.ok.has y.1 (B.free y hy hf)
 refine wpAny_comprehension_free rfl hs hclos B.kind B.names (thn (hi pins s σ H _ I h) fun v s1 h1=>thn h1 fun itv s2 h2=>?_)
 obtain⟨it,fp,tn,J,H2,e,I2,T,st2,f2,hJ⟩:=h2
 subst e
 have I3:Inv X pins σ (upd H2 s2.heap.objs.size (.lst [])) { s2 with heap:=s2.heap.push { cls:=.type "list",data:=.seq ([]:List Value).toArray },toks:=s2.toks }:=I2.lnew (ys:=[]) (its:=[]) .nil (Nat.zero_le _)
 have hfr2:H2 s2.heap.objs.size=none:=I2.fresh
 obtain⟨W,⟨m0,w0⟩,turn⟩:=hJ s2.heap.objs.size hfr2
 refine wpAny_newList ?_
 generalize hs3:({ s2 with heap:=s2.heap.push { cls:=.type "list",data:=.seq ([]:List Value).toArray } }:Shared)=s3
 have es3:({ s2 with heap:=s2.heap.push { cls:=.type "list",data:=.seq ([]:List Value).toArray },toks:=s2.toks }:Shared)=s3:=hs3
 rw[es3] at I3
 have keep3:∀ b o,s2.heap.get? b=some o→s3.heap.get? b=some o:=fun b o e=>by rw[← hs3];exact Heap.get?_push_of_some _ e
 have fpo:∀ b∈fp,∃ o,s2.heap.get? b=some o∧∀ v,o.data ≠ .cell v:=T.obj _ _ st2
 have hlt2:∀ b∈fp,b < s2.heap.objs.size:=fun b hb=>by obtain⟨o,e,_⟩:=fpo b hb;exact Heap.lt_size e
 have hlt3:∀ b∈fp,b < s3.heap.objs.size:=fun b hb=>by obtain⟨o,e,_⟩:=fpo b hb;exact Heap.lt_size (keep3 b o e)
 have hf3:∀ b∈fp,FpOk X pins (upd H2 s2.heap.objs.size (.lst [])) b:=fun b hb=>⟨by rw[upd_ne (Nat.ne_of_lt (hlt2 b hb))];exact(f2 b hb).1,(f2 b hb).2⟩
 refine nfe_cells fun h₁ hns₁ keep4 hcs₁=>?_
 have I4:∀ t',Inv (blkC X N scope s3.heap.objs.size s3 (upd H2 s2.heap.objs.size (.lst [])) fp xe) [] (capSt caps σ) (upd H2 s2.heap.objs.size (.lst [])) { s3 with heap:=h₁,toks:=t' }:=fun t'=>blkC_inv B I3 hlt3 hf3 hns₁ keep4 hcs₁
 generalize hY:blkC X N scope s3.heap.objs.size s3 (upd H2 s2.heap.objs.size (.lst [])) fp xe=Y at I4
 have Yp:Y.prog=X.prog:=by rw[← hY];rfl
 have Yw:Y.w=X.w:=by rw[← hY];rfl
 have YK:Y.K=X.K:=by rw[← hY];rfl
 have Yc:Y.calm=true:=by rw[← hY];exact hc
 have YA:Y.A=X.A:=by rw[← hY];rfl
 have Yx:Y.xe=xe:=by rw[← hY];rfl
 have Ye:Y.env=compEnvC scope (clC X.env scope s3.heap.objs.size) s3.heap.objs.size X.env:=by rw[← hY];rfl
 have hgY:PG Y tg g:=by rw[← hY];exact hg _ _ _ _
 have htY:PF Y ifs tt:=by rw[← hY];exact ht _ _ _ _
 have heY:PE Y elt te:=by rw[← hY];exact he _ _ _ _
 have stat:∀{H':Hp},(∀ b∈fp,H' b=none)→∀ b∈fp,FpOk Y [] H' b:=fun {H'} hn b hb=>by
  refine⟨hn b hb,?_,?_,.inl (by rw[← hY];exact hb),?_,?_⟩
  ·rw[Ye];exact Nat.ne_of_lt (hlt3 b hb)
  ·intro hm
   rw[← hY] at hm
   rcases List.mem_cons.mp (I3.stkSub b hm) with e | e
   ·exact(f2 b hb).2.1 e
   ·exact(f2 b hb).2.2.1 e
  ·intro x c hcl
   rw[Ye] at hcl
   rcases clC_cases hcl with h1 | ⟨_,h1⟩
   ·exact Nat.ne_of_gt (Nat.lt_trans (hlt3 b hb) (own_above h1))
   ·exact(f2 b hb).2.2.2.2.1 x c (cl_sub (fun _ _ e=>by simp at e) x c h1)
  ·intro p hp
   rw[← hY] at hp
   cases hp
 have st4:tn 0 h₁:=T.keep _ _ _ st2 fun b hb o e=>keep4 b o (keep3 b o e)
 have toX:∀ e s',xe e s'→notedBy (model X.prog X.w) X.A (compEnvC scope (clC X.env scope s3.heap.objs.size) s3.heap.objs.size X.env) (fun e s'=>compPost (model X.prog X.w) X.A X.xe use Q (.ref s2.heap.objs.size) s3.heap.objs.size (.error e) s') e s':=fun e s' hxe=>hx _ _ e s' hxe
 have loop:∀ tk,codeAny (model X.prog X.w) X.A (.compLoop (.ListComp elt [⟨tg,iter,ifs,0⟩] scope pos) 0 (.ref it) (.ref s2.heap.objs.size) (compEnvC scope (clC X.env scope s3.heap.objs.size) s3.heap.objs.size X.env))
   (compPost (model X.prog X.w) X.A X.xe use Q (.ref s2.heap.objs.size) s3.heap.objs.size) { s3 with heap:=h₁,toks:=tk }:=by
  intro tk
  refine comp_loop (fun n s'=>∃ i σ' H',Inv Y [] σ' H' s'∧tn i s'.heap∧(∀ b∈fp,H' b=none)∧W i n σ' H') ?_ m0 ⟨0,_,_,I4 tk,st4,fun b hb=>(hf3 b hb).1,w0⟩
  rintro n s5 ⟨i,σ5,H5,I5,st5,fr5,w5⟩
  have moX:∀{α:Type} {t:Sem α} {Q1:α→Shared→Prop} {s:Shared},wpAny (model X.prog X.w) X.A t Q1 xe s→wpAny (model X.prog X.w) X.A t Q1
    (notedBy (model X.prog X.w) X.A (compEnvC scope (clC X.env scope s3.heap.objs.size) s3.heap.objs.size X.env) (fun e s'=>compPost (model X.prog X.w) X.A X.xe use Q (.ref s2.heap.objs.size) s3.heap.objs.size (.error e) s')) s:=
   fun h=>wpAny_mono h (fun _ _ q=>q) toX
  rcases turn i n σ5 H5 w5 with⟨stop,q⟩ | ⟨go,step⟩
  ·have z:=T.done Y Yp Yw YK Yc i [] s5 σ5 H5 xe I5 (stat fr5) st5 stop
   rw[YA] at z
   refine moX (thn z fun r s6 ⟨hr,I6⟩=>?_)
   subst hr
   obtain⟨m,hm,_⟩:=I6.loc
   have hCn:H5 s3.heap.objs.size=none:=by have z:=I6.free;rw[Ye] at z;exact z
   have un:Un (frs X.stack) fp (upd H2 s2.heap.objs.size (.lst [])) H5 s3.heap s6.heap:=by have z:=I6.base;rw[← hY] at z;exact z
   have hos:s6.os=s3.os:=by have z:=I6.os;rw[← hY] at z;exact z
   have hok:HOk X.prog X.w H5 s6.heap:=by have z:=I6.hok;rw[Yp,Yw] at z;exact z
   have IX:Inv X pins σ H5 s6:=I3.call' (ch:=fp) hos un hok I6.bare fun b hb=>⟨(f2 b hb).2.2.2.1,(f2 b hb).2.1,(f2 b hb).2.2.2.2.1,(f2 b hb).2.2.2.2.2⟩
   refine fin _ _ H5 s6 IX ⟨m,by rw[Ye] at hm;exact hm⟩ ⟨hCn,?_,I3.sz,?_,?_⟩ q
   ·exact Nat.ne_of_gt I3.lt
   ·intro x c hcl
    obtain⟨v,hv⟩:=I3.cell x c hcl
    exact Nat.ne_of_lt hv.lt
   ·intro p hp
    exact Nat.ne_of_lt (Heap.lt_size (I3.pin p hp).1)
  ·have z:=T.item Y Yp Yw YK Yc i [] s5 σ5 H5 xe I5 (stat fr5) st5 go
   rw[YA] at z
   refine moX (thn z fun r s6 ⟨u,hr,h6⟩=>?_)
   subst hr
   refine moX (thn h6 fun _ s7 ⟨x,H7,I7,r7,y7,st7,fr7⟩=>?_)
   have I7':=I7.pinned (stat fr7) (T.obj _ _ st7)
   have hN:=step x H7 y7
   have again:∀{σ':St} {H':Hp} {s':Shared} {m':Nat},m' < n→Inv Y ([]++pinsAt fp s7.heap) σ' H' s'→W (i+1) m' σ' H'→∃ m,m < n∧∃ i σ'' H'',Inv Y [] σ'' H'' s'∧tn i s'.heap∧(∀ b∈fp,H'' b=none)∧W i m σ'' H'':=fun {σ' H' s' m'} hm I' w'=>by
    refine⟨m',hm,i+1,σ',H',I'.unpinned,T.keep _ _ _ st7 fun b hb o e=>(I'.pin (b,o) (List.mem_append_right _ (List.mem_append_right _ (mem_pinsAt hb e)))).1,fun b hb=>?_,w'⟩
    obtain⟨o,e,d⟩:=T.obj _ _ st7 b hb
    exact(I'.pin (b,o) (List.mem_append_right _ (List.mem_append_right _ (mem_pinsAt hb e)))).2.1
   have z:=hgY _ s7 σ5 H7 x u _ I7' r7 hN
   rw[Yp,Yw,YA,Ye,Yx] at z
   refine moX (thn z fun _ s8 ⟨σ8,H8,I8,q8⟩=>?_)
   have z:=htY _ s8 σ8 H8 _ I8 q8
   rw[Yp,Yw,YA,Ye,Yx] at z
   refine moX (thn z fun ok s9 ⟨H9,I9,q9⟩=>?_)
   cases ok with
   | false=>
    obtain⟨m',hm,w'⟩:=q9
    exact again hm I9 w'
   | true=>
    have q9':te σ8 H9 fun v H4=>∃ xs,H4 s2.heap.objs.size=some (.lst xs)∧xs.length < sizeLine∧∃ m',m' < n∧W (i+1) m' σ8 (upd H4 s2.heap.objs.size (.lst (xs++[v]))):=q9
    have z:=heY _ s9 σ8 H9 _ I9 q9'
    rw[Yp,Yw,YA,Ye,Yx] at z
    refine moX (thn z fun u10 s10 ⟨v10,H10,I10,r10,q10⟩=>?_)
    obtain⟨xs,hl,hz,m',hm,w'⟩:=q10
    have ap:=mt_append (X:=Y) _ s10 σ8 H10 (.ref s2.heap.objs.size) [v10] (.ref s2.heap.objs.size) [u10] (fun _ H'=>W (i+1) m' σ8 H') I10 rfl (.cons r10 .nil) ⟨_,xs,v10,rfl,rfl,hl,hz,w'⟩
    rw[Yp,Yw,YA,Yx] at ap
    refine moX (thn ap fun _ s11 ⟨_,H11,I11,_,w11⟩=>again hm I11 w11)
 exact codeAny_compStart_list (loop _) (T.self _ 0 _ _ _ st4 (loop _))
theorem ps_setcompC{i:Nat}{x:Str}{pos':Pos}{tg elt iter:Expr}{ifs:List Expr}{scope:Scope}{pos spos:Pos}(N:List Str)(caps:List (Option Nat)){wi:TI}{g:TG}{tt:TT}{te:TE}(hc:X.calm=true)
  (hN:X.N.Nodup) (hi':X.N[i]? = some x) (hx:Loc X.env.scope x) (B:BlkC X N caps scope) (hi:PI X tg iter wi)
  (hg:∀ C s₀ H₀ ex,PG (blkC X N scope C s₀ H₀ ex fun _ _=>False) tg g) (ht:∀ C s₀ H₀ ex,PF (blkC X N scope C s₀ H₀ ex fun _ _=>False) ifs tt) (he:∀ C s₀ H₀ ex,PE (blkC X N scope C s₀ H₀ ex fun _ _=>False) elt te)
  (hsw:swapsWith (.ListComp elt [⟨tg,iter,ifs,0⟩] scope pos) (some (.Name x pos')) spos.line X.env=pure true:=by rfl)
  (hs:∀ x,foldedSetIterable iter X.env x=pure x:=by intro _;rfl) (hf:X.fn x=true∨X.env.scope.names.lookup x=some .local:=by first | exact .inl rfl | exact .inr rfl | assumption) :
  PS X (.Assign [.Name x pos'] (.ListComp elt [⟨tg,iter,ifs,0⟩] scope pos) spos) (tAsg (tComp caps wi g tt te) (gName i)):=by
 intro pins s σ H D I h
 rw[exec_Assign_Name_used _ _ _ _ hsw]
 refine wpAny_bind (wpAny_standAt (wpAny_bind ?_))
 show wpAny _ X.A (do let _ ← comprehension (.ListComp elt [⟨tg,iter,ifs,0⟩] scope pos) scope X.env _ (newList []) false (eval iter X.env) (some (assign (.Name x pos') X.env))) _ _ s
 refine wpAny_bind (wpAny_mono (comp_coreC (use:=some (assign (.Name x pos') X.env)) (Q:=fun _ s'=>SP X pins D .next s') (Qv:=fun v H1=>gName i v σ H1 D.nx) hc B hi hg ht he I h (fun l C H' s5 I5 ⟨m,hm⟩ lo q=>?_) (fun _ _ _ _ f=>f.elim) hs)
  (fun _ s' hq=>wpAny_pure (wpAny_pure hq)) fun _ _ e=>e)
 show wpAny _ X.A (assign (.Name x pos') X.env (.ref l)) _ _ _
 refine wpAny_assign_Name (store_ok2 I5 hN hi' hx (v:=.ref l) rfl (fun s6 I6 ⟨a,sb,ha⟩=>?_) hf)
 have hCa:C≠a:=by
  rcases ha with e | e
  ·rw[e];exact lo.loc
  ·exact Ne.symm (lo.cel x a e)
 refine⟨m,hm.sameBut sb hCa,fun h' hs'=>⟨_,H',?_,q⟩⟩
 exact I6.turned (it:=C) (t':=s6.toks) (fun b o hb e=>hs'.extBut b o hb e) lo.un lo.loc (.inr lo.ab) lo.cel lo.pin
end
def relS(scope sc:Scope):Scope:=
 { scope with names:=scope.names.map fun(n,k)=>if(k == .free && sc.kind == .function && sc.names.lookup n == some .cell) then(n,.cell) else(n,k) }
def blkOkC(sc:Scope)(N0 N:List Str)(caps:List (Option Nat))(scope:Scope):Bool:=
 decide (scope.kind = .function) && scope.names.all (fun y=>decide (y.2 ≠ .cell) || decide (scope.names.lookup y.1=some .cell)) && scope.names.all (fun y=>decide (y.2 ≠ .local) || decide (scope.names.lookup y.1=some .local)) &&
 scope.names.all (fun y=>decide (y.2 ≠ .free) || (decide (sc.names.lookup y.1=some .cell) || decide (sc.names.lookup y.1=some .free))) && decide (caps.length=N.length) &&
 (List.range caps.length).all fun i=>match caps[i]?,N[i]? with
  | some (some j),some x=>decide (N0[j]? = some x) && (decide (sc.names.lookup x=some .cell) || decide (sc.names.lookup x=some .free)) && decide (scope.names.lookup x=some .free)
  | _,_=>true
theorem BlkC.by{X:Cx}{N:List Str}{caps:List (Option Nat)}{scope:Scope}{sc:Scope}{N0:List Str}(hsc:X.env.scope=sc)(hN:X.N=N0)(h:blkOkC sc N0 N caps scope=true):BlkC X N caps scope:=by
 unfold blkOkC at h
 simp only[Bool.and_eq_true,decide_eq_true_eq,List.all_eq_true,Bool.or_eq_true] at h
 obtain⟨⟨⟨⟨⟨h1,h2⟩,h3⟩,h4⟩,h5⟩,h6⟩:=h
 subst hsc
 subst hN
 refine⟨h1,fun y hy e=>(h2 y hy).elim (fun z=>absurd e z) id,fun y hy e=>(h3 y hy).elim (fun z=>absurd e z) id,fun y hy e=>(h4 y hy).elim (fun z=>absurd e z) id,h5,fun i j x e1 e2=>?_⟩
 have hi:i < caps.length:=(List.getElem?_eq_some_iff.mp e1).1
 have z:=h6 i (List.mem_range.mpr hi)
 rw[e1,e2] at z
 simp only[Bool.and_eq_true,decide_eq_true_eq,Bool.or_eq_true] at z
 exact⟨z.1.1,.inr z.1.2,z.2⟩
theorem pi_listK{X:Cx}{tg:Expr}(K:PySem.W.Frag)(hK:X.K=K){l:Expr}{tl:TE}(hl:PE X l tl):PI X tg l (iList K tl):=by
 subst hK
 exact pi_list hl
end L2
namespace L2
open PySem PySem.Spec PyProof.Rows
theorem op_neD{X:Cx}{d:Nat}(hd:d≤60)(hu:X.A.units+64 < cLine):OpR X (compareOp .NotEq) (fun x y H Q=>∃ a b,x = .ref a∧y = .ref b∧DeepEq X.K H d x y∧Q (.bl false) H):=by
 intro pins s σ H x y v u Q I rx ry h
 obtain⟨a,b,rfl,rfl,h,q⟩:=h
 cases rx
 cases ry
 cases h with
 | flat f=>cases f
 | @tup d _ _ xs ys hp hq hl hi=>
  obtain⟨its,r1,p1,_⟩:=I.tuple hp
  obtain⟨its2,r2,p2,_⟩:=I.tuple hq
  have l1:=r1.length
  have l2:=r2.length
  refine SeqAt.RcNeAt.tuples (e:=fun _=>true) p1 p2 (by omega) (fun j h1 h2=>DeepEq.at I (hi j (item_rel r1 h1).2) (A:=X.A.in1) (item_rel r1 h1).1 (item_rel r2 h2).1 (by show X.A.units+1+d < cLine;omega)) _ _ _ _ ⟨.bl _,H,I,rfl,?_⟩
  have ez:((List.range (min its.toArray.size its2.toArray.size)).all (fun _=>true) && its.toArray.size == its2.toArray.size)=true:=by
   rw[all_t,Bool.true_and]
   simp [← l1,← l2,hl]
  rw[ez]
  exact q
 | @lst d _ _ xs ys hp hq hl hi=>
  obtain⟨its,r1,p1,_⟩:=I.list hp
  obtain⟨its2,r2,p2,_⟩:=I.list hq
  have l1:=r1.length
  have l2:=r2.length
  refine SeqAt.RcNeAt.lists (e:=fun _=>true) p1.isList p2.isList (by simp [← l1,← l2,hl]) (by omega) (fun j h1 h2=>DeepEq.at I (hi j (item_rel r1 h1).2) (A:=X.A.in1) (item_rel r1 h1).1 (item_rel r2 h2).1 (by show X.A.units+1+d < cLine;omega)) _ _ _ _ ⟨.bl _,H,I,rfl,?_⟩
  rw[all_t]
  exact q
end L2
namespace L2
open PySem PySem.Spec PyProof.Rows
end L2
namespace L2
open PySem PySem.Spec PyProof.Rows
variable{X:Cx}
end L2
namespace L2
open PySem PySem.Spec PyProof.Rows
end L2
namespace HT
open PySem PySem.Spec PyProof.Rows
section
variable{prog:Program}{w:World}{A:Around}{E:Value→Shared→Prop}{s:Shared}
theorem getItem_tuple_all{t sl:Addr}{items:Array Value}{vl vu:Value}{lo hi:Option Int}{Q:Value→Shared→Prop}(ht:IsTup s.heap t items)(hs:s.heap.IsSliceOf sl vl vu .none)(pl:IsPart vl lo)(pu:IsPart vu hi)
  (hw:sIx items.size 0 lo=0∧sIx items.size items.size hi=items.size) (h:Q (.ref t) s):wpAny (model prog w) A (getItem (.ref t) (.ref sl)) Q E s:=by
 obtain⟨os,hos,hcs,hds⟩:=id hs
 have hTs:s.TypeIs (.ref sl) "slice":=⟨os,hos,hcs⟩
 unfold getItem
 try with_reducible refine wpAny_holding ?_
 first | refine wpAny_bind (wpAny_pure ?_) | skip
 refine wpAny_bind (wpAny_sequenceKey ht.typeIs (by decide) ?_)
 refine wpAny_bind (wpAny_callSpecial?_slot (name:=Str.ofString "__getitem__") ht.typeIs PyProof.Rows.slot_tuple_getitem
  (wpAny_call_entry PyProof.Rows.slot_tuple_getitem ht.typeIs entry_tuple_getitem ?_ (args_tuple_getitem _ _)))
 show wpAny _ _ (Builtin.Tuple.tupleItemsOf (.ref t) >>= _) _ _ s
 refine wpAny_bind (tupleItemsOf_ ht ?_)
 refine wpAny_bind (wpAny_typeOf hTs ?_)
 rw[if_pos (by decide)]
 refine wpAny_bind (sliceApplied_gen hs pl pu ?_)
 have hyes:(((sIx items.size 0 lo:Nat):Int) == 0 && (1:Int) == 1 && (sIx items.size items.size hi - sIx items.size 0 lo) == items.size)=true:=by
  rw[hw.1,hw.2,Nat.sub_zero]
  simp
 show wpAny _ _ (if(((sIx items.size 0 lo:Nat):Int) == 0 && (1:Int) == 1 && (sIx items.size items.size hi - sIx items.size 0 lo) == items.size)=true then _ else _) _ _ s
 rw[if_pos hyes]
 refine wpAny_bind (m:=Builtin.Tuple.tupleIsExact _) ?_
 unfold Builtin.Tuple.tupleIsExact
 refine wpAny_bind (wpAny_typeOf ht.typeIs (wpAny_pure ?_))
 rw[if_pos (by decide)]
 refine wpAny_bind (wpAny_rule ?_)
 exact wpAny_pure ⟨_,rfl,wpAny_pure h⟩
end
end HT
namespace L2
open PySem PySem.Spec PyProof.Rows
section
variable{X:Cx}
def rSlG:V→Option Int→Option Int→Hp→VK→Prop:=fun x lo hi H Q=>∃ a xs,x = .ref a∧H a=some (.tup xs)∧∀ p H',Same H H'→H' p=some (.tup (cutV xs lo hi))→Q (.ref p) H'
theorem sl_tupG:SlR X rSlG:=by
 intro pins s σ H x v vl vu lo hi sl Q I rx hs pl pu h
 obtain⟨a,xs,rfl,hx,q⟩:=h
 by_cases hw:HT.sIx xs.length 0 lo=0∧HT.sIx xs.length xs.length hi=xs.length
 ·cases rx
  obtain⟨its,r,ht,hz⟩:=I.tuple (SqT.of hx)
  have hlen:its.toArray.size=xs.length:=by rw[List.size_toArray];exact r.length.symm
  refine⟨"tuple",_,PyProof.Rows.slot_tuple_getitem.lookup,ht.typeIs,?_⟩
  refine HT.getItem_tuple_all ht hs pl pu (by rw[hlen];exact hw) ⟨.ref a,H,I,rfl,q a H (Same.refl H) ?_⟩
  have e:cutV xs lo hi=xs:=by
   unfold cutV
   rw[hw.1,hw.2,List.drop_zero,Nat.sub_zero,List.take_length]
  rw[e]
  exact hx
 ·exact sl_tup pins s σ H _ v vl vu lo hi sl Q I rx hs pl pu ⟨a,xs,rfl,SqT.of hx,hw,fun p hp=>q p _ (same_upd hp _) upd_same⟩
end
end L2
namespace L2
open PySem PySem.Spec PyProof.Rows
section
variable{prog:Program}{w:World}
abbrev PKey:=List Key×Int×List Key
variable{A:Around}{E:Value→Shared→Prop}{s:Shared}
end
end L2
namespace L2
open PySem PySem.Spec PyProof.Rows
abbrev PEnt:=PKey×Addr×Int
section
variable{P:Program}{w:World}{H:Hp}{h:Heap}{a:Addr}
end
section
variable{X:Cx}{o i value:Expr}{td ty tv:TE}{pos pos':Pos}
end
end L2
namespace L2
open PySem PySem.Spec PyProof.Rows
theorem pe_joinK{X:Cx}{K:PySem.W.Frag}{o e:Expr}{to:TE}{t:TA}{apos cpos:Pos}(hK:X.K=K)(ho:PE X o to)(ha:PA X [e] t)
  (hbase:attributeBase o "join" X.env (eval o X.env)=eval o X.env:=by rfl)
  (hfew:((backTo cpos (starEach [e] X.env)).all (fun x=>!x.1) && (backToKw cpos (keywordEach [] X.env)).all (fun x=>x.1.isSome)
   && decide (([e]:List Expr).length+([]:List Keyword).length+(if([]:List Keyword).isEmpty then 0 else 1) < 30))=true:=by rfl)
  (hline:(apos.endLine == cpos.line)=true:=by rfl) (hs:starEach [e] X.env=(false,eval e X.env) :: starEach [] X.env:=by rfl) (hplain:(backTo cpos (starEach [] X.env)).any (·.1)=false:=by rfl) :
  PE X (.Call (.Attribute o "join" apos) [e] [] cpos) (tBM K "str" (fun x xs H Q=>∃ sep a ys,x = .str sep∧xs=[.ref a]∧SqL K H a (vS ys)∧(ys.map (·.length)).sum+ys.length * sep.length≤16777216∧Q (.str (Txt.join sep ys)) H) to t):=by
 subst hK
 exact pe_bm PySem.F.plainAttrs_str PySem.F.slot_str_join PySem.F.type_str_join mt_join ho ha hbase hfew hline hs hplain
end L2
namespace My
open PySem L2
def totC(hs:List Nat):Nat:=(hs.map (pcK 32)).sum
def gainN(side:Nat):Option Nat→Nat
 | none=>0
 | some s=>if side.testBit s=true then 1 else 0
open Classical in
noncomputable def nxF (fx:Fx) (t:Option Nat) (hs:List Nat) (lead:Nat) (ys:List Nat) (h c:Nat):List Nat×Nat×List Nat×Option Nat:=
 if e:∃ z:List Nat×Nat×List Nat×Option Nat,Nxt fx t hs lead ys h c z.1 z.2.1 z.2.2.1 z.2.2.2 then Classical.choose e else([],0,[],none)
def pickN(b:Bool)(ns:List Nat):Nat:=if ns=[] then 0 else if b=true then ns.foldl max 0 else(ns.drop 1).foldl min (ns.getD 0 0)
noncomputable def valF (fx:Fx) (t:Option Nat) (side:Nat):Nat→List Nat→Nat→List Nat→Nat
 | 0,_,_,_=>0
 | k+1,hs,lead,ys=>pickN (side.testBit ((lead+ys.length) % fx.n)) ((mayL fx t ys (hs.getD ((lead+ys.length) % fx.n) 0)).map fun c=>
   gainN side (nxF fx t hs lead ys (hs.getD ((lead+ys.length) % fx.n) 0) c).2.2.2+valF fx t side k (nxF fx t hs lead ys (hs.getD ((lead+ys.length) % fx.n) 0) c).1 (nxF fx t hs lead ys (hs.getD ((lead+ys.length) % fx.n) 0) c).2.1 (nxF fx t hs lead ys (hs.getD ((lead+ys.length) % fx.n) 0) c).2.2.1)
noncomputable def valP (fx:Fx) (t:Option Nat) (side:Nat) (hs:List Nat) (lead:Nat) (ys:List Nat):Nat:=valF fx t side (totC hs) hs lead ys
noncomputable def numP (fx:Fx) (t:Option Nat) (side:Nat) (hs:List Nat) (lead:Nat) (ys:List Nat) (c:Nat):Nat:=
 gainN side (nxF fx t hs lead ys (hs.getD ((lead+ys.length) % fx.n) 0) c).2.2.2+valP fx t side (nxF fx t hs lead ys (hs.getD ((lead+ys.length) % fx.n) 0) c).1 (nxF fx t hs lead ys (hs.getD ((lead+ys.length) % fx.n) 0) c).2.1 (nxF fx t hs lead ys (hs.getD ((lead+ys.length) % fx.n) 0) c).2.2.1
section
variable{P:Program}{w:World}{K:PySem.W.Frag}{mg:Str→Option Value}{base:Heap}{f g:Addr}{fd gd:FuncData}
section
variable{CR r gm d:Addr}{fx:Fx}{t:Option Nat}{side:Nat}{H H':Hp}{es:List PEnt}
end
noncomputable def prL (fx:Fx) (t:Option Nat) (side:Nat) (hs:List Nat) (lead:Nat) (ys:List Nat) (m:Nat):List (Nat×Nat):=(moveL fx t hs lead ys m).map fun c=>(c,numP fx t side hs lead ys c)
end
end My
namespace My
open PySem L2
abbrev sMixed:Stmt:=top 43
abbrev sOrder:Stmt:=top 44
abbrev sRules:Stmt:=top 45
section
variable{P:Program}{w:World}{K:PySem.W.Frag}{mg:Str→Option Value}{base:Heap}{f g:Addr}{fd gd:FuncData}
def spMixed(K:PySem.W.Frag):Sp:=fun vs H Q _=>∃(a:Addr) (ns:List Int) (k:Int),vs=[.ref a,.int k]∧SqL K H a (ns.map V.int)∧ns.length≤63∧0≤k∧k≤10000∧∀ z:Int,Q (.int z) H
abbrev pMixed:List Str:=["_law_script","_law_k"]
theorem scMixed:FnScope ["_law_script","_law_k","_law_number","_law_root"] pMixed (defScope sMixed):=⟨rfl,rfl,rfl,by decide +kernel,rfl,by decide +kernel,by decide +kernel⟩
theorem wide_of{i:Int}(h:i.natAbs < 2 ^ 900):Wide i:=Nat.lt_trans h (Nat.pow_lt_pow_right (by decide) (by decide))
theorem small_wide{i:Int}(h0:-(10 ^ 100) < i)(h1:i < 10 ^ 100):i.natAbs < 2 ^ 900:=by
 have e:(10:Int) ^ 100=((10 ^ 100:Nat):Int):=by decide
 have l:(10:Nat) ^ 100 < 2 ^ 900:=by decide
 rw[e] at h0 h1
 omega
theorem ok_mixed{k:Nat}(F:Fun K "_law_mixed" "_law_mixed" sMixed f fd)(ml:mg "len" = none):FnOk P w K mg base CX0 (k+1) f fd pMixed (spMixed K):=by
 refine F.ok scMixed (fun vs H Q E h=>?_) (fun cdv A outer s H vs Q E hr h=>?_)
 ·obtain⟨a,ns,k,rfl,_⟩:=h
  rfl
 obtain⟨a,ns,j,rfl,hS,h63,h0,h1,q⟩:=h
 refine⟨_,pss_cons (ps_set (i:=2) scMixed.nd rfl (Or.inl rfl) (pe_op op_add (pv 1) pe_int))
  (pss_cons (ps_if (pt_cmpR op_gt (pe_callB call_len_seq rfl ml PySem.boot_len (pa_cons (pv 0) pa_nil)) pe_int (nomark _))
   (pss_one (ps_set (i:=2) scMixed.nd rfl (Or.inl rfl) (pe_op op_add (pv 2) (pe_op op_mul (pe_op op_mod (pe_ix ix_list (pv 0) (pe_op op_mod (pv 1) (pe_callB call_len_seq rfl ml PySem.boot_len (pa_cons (pv 0) pa_nil))) (fun _ _=>rfl)) (pe_op op_pow pe_int pe_int))
    (pe_op op_add (pe_op op_fdiv (pv 1) (pe_callB call_len_seq rfl ml PySem.boot_len (pa_cons (pv 0) pa_nil))) pe_int))))) pss_nil)
  (pss_cons (ps_set (i:=3) scMixed.nd rfl (Or.inl rfl) (pe_op op_mul (pv 2) pe_int))
  (pss_one (ps_ret (pe_op op_fdiv (pe_op op_mulW (pe_op op_mulW (pv 3) (pv 3)) (pv 3)) pe_int))))),?_⟩
 have hl:(ns.map V.int).length=ns.length:=List.length_map _
 refine⟨_,rfl,_,_,rfl,rfl,_,rfl,a,_,rfl,.inl hS,_,_,rfl,rfl,_,rfl,?_⟩
 have fin:∀ n:Int,0≤n→n < 10 ^ 70→∀ σ:St,σ[2]? = some (some (V.int n))→σ.length=4 →
   (tSeq (tAsg (tOp (rI CMul fun i j=>.int (i * j)) (tVar 2) (tC (.int 6364136223846793005))) (gName 3)) (tRet (tOp (rI CDiv fun i j=>.int (i / j)) (tOp (rI CMulW fun i j=>.int (i * j)) (tOp (rI CMulW fun i j=>.int (i * j)) (tVar 3) (tVar 3)) (tVar 3)) (tC (.int 1000003)))):TS)
    { nx:=fun _ H'=>Q .non H',rt:=Q } σ H:=by
  intro n n0 n1 σ e2 hlen
  have e70:(10:Int) ^ 70=10000000000000000000000000000000000000000000000000000000000000000000000:=by decide
  have e100:(10:Int) ^ 100=10000000000000000000000000000000000000000000000000000000000000000000000000000000000000000000000000000:=by decide
  rw[e70] at n1
  have e3:(σ.set 3 (some (V.int (n * 6364136223846793005))))[3]? = some (some (V.int (n * 6364136223846793005))):=by
   rw[List.getElem?_set_self (by omega)]
  have w1:(n * 6364136223846793005).natAbs < 2 ^ 900:=small_wide (by rw[e100];omega) (by rw[e100];omega)
  have w2:(n * 6364136223846793005 * (n * 6364136223846793005)).natAbs < 2 ^ 1800:=by
   rw[Int.natAbs_mul]
   have:(2:Nat) ^ 1800=2 ^ 900 * 2 ^ 900:=by rw[← Nat.pow_add]
   rw[this]
   exact Nat.mul_lt_mul'' w1 w1
  refine⟨_,e2,_,_,rfl,rfl,.inr ⟨by decide,by decide⟩,?_⟩
  refine⟨_,e3,_,e3,_,_,rfl,rfl,⟨wide_of w1,wide_of w1⟩,_,e3,_,_,rfl,rfl,⟨Nat.lt_trans w2 (Nat.pow_lt_pow_right (by decide) (by decide)),wide_of w1⟩,_,_,rfl,rfl,⟨by decide,by decide⟩,?_⟩
  exact q _
 refine ite2 (fun c=>?_) (fun c=>?_)
 ·have c':(((ns.map V.int).length:Nat):Int) > 0:=of_decide_eq_true c
  rw[hl] at c'
  obtain⟨v,hv⟩:=item_at (ns:=ns) (k:=j) (by omega)
  have d0:0≤j / (((ns.map V.int).length:Nat):Int):=Int.ediv_nonneg h0 (by omega)
  have d1:j / (((ns.map V.int).length:Nat):Int)≤j:=Int.ediv_le_self _ h0
  have p0:(0:Int) < 10 ^ (64:Int).toNat:=by decide
  have m0:0≤v % 10 ^ (64:Int).toNat:=Int.emod_nonneg _ (by omega)
  have m1:v % 10 ^ (64:Int).toNat < 10 ^ (64:Int).toNat:=Int.emod_lt_of_pos _ p0
  refine⟨_,rfl,_,rfl,_,rfl,_,rfl,a,_,rfl,.inl hS,_,_,rfl,rfl,(by rw[hl];omega),a,_,_,_,rfl,rfl,hS,hv,_,_,rfl,rfl,⟨by decide,by decide,by decide⟩,_,_,rfl,rfl,p0,_,rfl,_,rfl,a,_,rfl,.inl hS,_,_,rfl,rfl,⟨by rw[hl];omega,by rw[hl];omega⟩,_,_,rfl,rfl,_,_,rfl,rfl,.inr ⟨by omega,by omega⟩,_,_,rfl,rfl,?_⟩
  refine fin _ ?_ ?_ _ rfl rfl
  ·have:=Int.mul_nonneg m0 (show 0≤j / (((ns.map V.int).length:Nat):Int)+1 by omega)
   omega
  ·have z:=Int.mul_le_mul_of_nonneg_left (show j / (((ns.map V.int).length:Nat):Int)+1≤10001 by omega) m0
   have e64:(10:Int) ^ (64:Int).toNat=10000000000000000000000000000000000000000000000000000000000000000:=by decide
   have e70:(10:Int) ^ 70=10000000000000000000000000000000000000000000000000000000000000000000000:=by decide
   rw[e64] at m1
   rw[e70]
   rw[e64] at z ⊢
   omega
 ·refine fin _ (by omega) ?_ _ rfl rfl
  have e70:(10:Int) ^ 70=10000000000000000000000000000000000000000000000000000000000000000000000:=by decide
  rw[e70]
  omega
theorem refs_at(F:Nat→Addr→Prop):∀(vs:List V) (k:Nat),(∀ i v,vs[i]? = some v→∃ p,v = .ref p∧F (k+i) p)→∃ ps:List Addr,vs=ps.map V.ref∧∀ i p,ps[i]? = some p→F (k+i) p
 | [],_,_=>⟨[],rfl,fun i p h=>by simp at h⟩
 | v :: vs,k,h=>by
  obtain⟨p,e,hp⟩:=h 0 v rfl
  obtain⟨ps,e2,hs⟩:=refs_at F vs (k+1) (fun i v hv=>by
   obtain⟨p,e,z⟩:=h (i+1) v (by simpa using hv)
   exact⟨p,e,by rwa [show k+1+i=k+(i+1) by omega]⟩)
  refine⟨p :: ps,by rw[e,e2];rfl,fun i u hu=>?_⟩
  cases i with
  | zero=>
   have e:p=u:=by simpa using hu
   subst e
   exact hp
  | succ i=>
   have z:=hs i u (by simpa using hu)
   rwa [show k+1+i=k+(i+1) by omega] at z
def snd2(H:Hp)(p:Addr):Nat:=match H p with | some (.tup [_,.int i])=>i.toNat | _=>0
def sndV(H:Hp)(x:V):V:=match x with | .ref p=>.int ((snd2 H p:Nat):Int) | _=>.non
structure Prs(H:Hp)(ps:List Addr)(xs:List Nat):Prop where
 len:ps.length=xs.length
 at_:∀(i:Nat) (p:Addr) (c:Nat),ps[i]? = some p→xs[i]? = some c→∃ x:Int,H p=some (.tup [.int x,.int ((c:Nat):Int)])
theorem Prs.map{H:Hp}{ps:List Addr}{xs:List Nat}(h:Prs H ps xs):ps.map (snd2 H)=xs:=by
 apply List.ext_getElem?
 intro i
 rw[List.getElem?_map]
 cases e:ps[i]? with
 | none=>
  have:xs[i]? = none:=by
   rw[List.getElem?_eq_none_iff] at *
   rw[← h.len]
   exact e
  rw[this]
  rfl
 | some p=>
  have hi:i < xs.length:=by rw[← h.len];exact(List.getElem?_eq_some_iff.mp e).1
  obtain⟨x,hx⟩:=h.at_ i p _ e (List.getElem?_eq_getElem hi)
  rw[List.getElem?_eq_getElem hi]
  show some (snd2 H p)=some xs[i]
  unfold snd2
  rw[hx]
  exact congrArg some (Int.toNat_natCast _)
theorem Prs.tup{H:Hp}{ps:List Addr}{xs:List Nat}(h:Prs H ps xs):∀ p∈ps,∃ x:Int,H p=some (.tup [.int x,.int ((snd2 H p:Nat):Int)]):=fun p hp=>by
 obtain⟨i,hi⟩:=List.getElem?_of_mem hp
 have hl:i < xs.length:=by rw[← h.len];exact(List.getElem?_eq_some_iff.mp hi).1
 obtain⟨x,hx⟩:=h.at_ i p _ hi (List.getElem?_eq_getElem hl)
 refine⟨x,?_⟩
 unfold snd2
 rw[hx]
 show some (HO.tup [V.int x,V.int _])=some (HO.tup [V.int x,V.int ((((xs[i]:Nat):Int).toNat:Nat):Int)])
 rw[Int.toNat_natCast]
def spOrder(K:PySem.W.Frag):Sp:=fun vs H Q _=>∃(a:Addr) (ns:List Int) (k h:Nat),vs=[.ref a,.int (k:Nat),.int (h:Nat)]∧SqL K H a (ns.map V.int)∧ns.length≤63∧k≤1000∧h≤8∧∀(l:Addr) (ls:List Nat) H',ls.Perm (List.range h)→Same H H'→H l=none→H' l=some (.lst (vN ls))→Q (.ref l) H'
abbrev pOrder:List Str:=["_law_script","_law_k","_law_heights"]
abbrev nOrder:List Str:=["_law_script","_law_k","_law_heights","_law_order_here"]
abbrev nO1:List Str:=["_law_height","_law_script","_law_k"]
theorem scOrder:FnScope nOrder pOrder (defScope sOrder):=⟨rfl,rfl,rfl,by decide +kernel,rfl,by decide +kernel,by decide +kernel⟩
theorem ok_order{k:Nat}{f1:Addr}{d1:FuncData}(F:Fun K "_law_order" "_law_order" sOrder f fd)(LX:Lib P w K mg base k "_law_mixed" pMixed (spMixed K) f1 d1)(mr:mg "range" = none)(mso:mg "sorted" = none):FnOk P w K mg base CX0 (k+1) f fd pOrder (spOrder K):=by
 refine F.ok scOrder (fun vs H Q E h=>?_) (fun cdv A outer s H vs Q E hr h=>?_)
 ·obtain⟨a,ns,kk,h,rfl,_⟩:=h
  rfl
 obtain⟨a,ns,kk,h,rfl,hS,h63,k1000,h8,q⟩:=h
 refine⟨_,pss_cons (ps_set (i:=3) scOrder.nd rfl (Or.inl rfl) (pe_callB call_sorted2 rfl mso PyProof.Rows.boot_sorted (pa_cons (pe_comp nO1 [none,some 0,some 1] rfl (Blk.by (sc:=defScope sOrder) (N0:=nOrder) rfl rfl (by decide +kernel)) (pi_range1 rfl mr (pa_cons (pv 2) pa_nil))
   (fun C s₀ H₀ ex=>pg_name (i:=0) (show nO1.Nodup by decide +kernel) rfl (Or.inl rfl)) (fun C s₀ H₀ ex=>pf_nil)
   (fun C s₀ H₀ ex=>pe_tup (pa_cons (pe_op op_mod (pe_call LX.ok hr rfl LX.mg LX.kp LX.bd .nil pass0 (pa_cons (pv 1) (pa_cons (pe_op op_add (pv 2) (pv 0)) pa_nil))) pe_int) (pa_cons (pv 0) pa_nil)))) pa_nil)))
  (pss_one (ps_ret (pe_comp ["_law_pair"] [none] rfl (Blk.by (sc:=defScope sOrder) (N0:=nOrder) rfl rfl (by decide +kernel)) (pi_list (pv 3)) (fun C s₀ H₀ ex=>pg_name (i:=0) (show(["_law_pair"]:List Str).Nodup by decide +kernel) rfl (Or.inl rfl)) (fun C s₀ H₀ ex=>pf_nil)
   (fun C s₀ H₀ ex=>pe_ix (show IxR _ (rIxT K) from ix_tup) (pv 0) pe_int (fun _ _=>rfl))))),?_⟩
 refine⟨_,rfl,(h:Int),rfl,by omega,by omega,?_⟩
 refine comp_some (n:=h) (lo:=0) (fun i v H=>∃(p:Addr) (x:Int),v = .ref p∧H p=some (.tup [.int x,.int ((i:Nat):Int)])) (fits3 _ (by omega)) (fun i v H H' ⟨p,x,e,h⟩ sm=>⟨p,x,e,sm _ _ h⟩) (fun i v H l xs ys ⟨p,x,e,h⟩ hl=>⟨p,x,e,?_⟩) (fun i H2 hi sm R hR=>?_) (fun l H2 vs sm hl hL hvl hvs=>?_)
 ·rw[upd_ne (fun z=>by rw[z,hl] at h;cases h)]
  exact h
 ·refine⟨_,rfl,_,rfl,_,rfl,_,_,rfl,rfl,a,ns,((kk:Nat):Int)+(0+((i:Nat):Int)),rfl,sm.seq hS,h63,by omega,by omega,fun y=>?_⟩
  refine⟨_,_,rfl,rfl,(show(0:Int) < 10007 by decide),_,rfl,fits3 2 (by decide),fun p hp=>hR _ _ (same_upd hp _) ⟨p,y % 10007,rfl,?_⟩⟩
  rw[upd_same,Int.zero_add]
 obtain⟨ps,rfl,hps⟩:=refs_at (fun i p=>∃ x:Int,H2 p=some (.tup [.int x,.int ((i:Nat):Int)])) vs 0 fun i v hv=>by
  obtain⟨p,x,e,h⟩:=hvs i v hv
  exact⟨p,e,x,by rw[Nat.zero_add];exact h⟩
 rw[List.length_map] at hvl
 have Pr:Prs H2 ps (List.range h):=⟨by rw[hvl,List.length_range],fun i p c e1 e2=>by
  obtain⟨x,hx⟩:=hps i p e1
  have hi:i < h:=by
   have:=(List.getElem?_eq_some_iff.mp e2).1
   rw[List.length_range] at this
   exact this
  rw[List.getElem?_range hi] at e2
  cases e2
  exact⟨x,by rw[hx,Nat.zero_add]⟩⟩
 refine⟨l,ps,rfl,SqL.of hL,by omega,fun p hp=>?_,fun l2 qs hl2 pq=>?_⟩
 ·obtain⟨x,hx⟩:=Pr.tup p hp
  exact⟨_,_,SqT.of hx⟩
 have ql:qs.length=h:=pq.length_eq.trans hvl
 have sm2:=same_upd hl2 (.lst (qs.map V.ref))
 refine⟨_,rfl,l2,rfl,⟨_,SqL.of upd_same⟩,comp_list (K:=K) (xs:=qs.map V.ref) (fun _=>true) (sndV H2) (SqL.of upd_same) (fits3 _ (by rw[List.length_map];omega)) (fun x H3 hx sm R hR=>hR H3 (Same.refl H3)) (fun x H3 hx hp sm4 R hR=>?_) (fun l4 H4 sm4 hl4 hL4=>?_)⟩
 ·obtain⟨p,hp,rfl⟩:=List.mem_map.mp hx
  obtain⟨x,hx⟩:=Pr.tup p (pq.mem_iff.mp hp)
  exact⟨_,rfl,p,_,_,_,rfl,rfl,SqT.of (sm4 _ _ (sm2 _ _ hx)),atI_nat (j:=1) rfl,hR H3 (Same.refl H3)⟩
 ·rw[List.filter_eq_self.mpr fun _ _=>rfl,List.map_map] at hL4
  have pm:(qs.map (snd2 H2)).Perm (List.range h):=by rw[← Pr.map];exact pq.map _
  refine q l4 (qs.map (snd2 H2)) H4 pm ((sm.trans sm2).trans sm4) (sm.free (sm2.free hl4)) ?_
  rw[hL4]
  unfold vN
  rw[List.map_map]
  rfl
def trI:Option Nat→Int
 | none=>4
 | some u=>((u:Nat):Int)
def rtV(f:Fx)(t:Option Nat)(sz:Nat)(lo:Addr):List V:=[.int (f.n:Nat),.int (f.s:Nat),.int (sz:Nat),.str (wd f.d),.int (trI t),.ref lo]
def IsRt(H:Hp)(d:Addr)(f:Fx)(t:Option Nat)(sz:Nat):Prop:=∃ lo lp lh,H d=some (.tup (rtV f t sz lo))∧H lo=some (.lst [.ref lp,.ref lh])∧H lp=some (.lst (vN f.pl))∧H lh=some (.lst (vN f.tr))
theorem IsRt.same{H H':Hp}{d:Addr}{f:Fx}{t:Option Nat}{sz:Nat}(h:IsRt H d f t sz)(s:Same H H'):IsRt H' d f t sz:=by
 obtain⟨lo,lp,lh,a,b,c,e⟩:=h
 exact⟨lo,lp,lh,s _ _ a,s _ _ b,s _ _ c,s _ _ e⟩
theorem rt_get{f:Fx}{t:Option Nat}{sz:Nat}{lo:Addr}:atI (rtV f t sz lo) 0=some (.int (f.n:Nat))∧atI (rtV f t sz lo) 1=some (.int (f.s:Nat))∧atI (rtV f t sz lo) 2=some (.int (sz:Nat))∧atI (rtV f t sz lo) 3=some (.str (wd f.d))∧atI (rtV f t sz lo) 4=some (.int (trI t))∧atI (rtV f t sz lo) 5=some (.ref lo):=⟨rfl,rfl,rfl,rfl,rfl,rfl⟩
theorem trI_at(p:Int):∃ t:Option Nat,TrB t∧p % 5=trI t:=by
 have h0:=Int.emod_nonneg p (show(5:Int)≠0 by decide)
 have h1:=Int.emod_lt_of_pos p (show(0:Int) < 5 by decide)
 by_cases e:p % 5=4
 ·exact⟨none,(fun u e=>nomatch e),e⟩
 ·exact⟨some (p % 5).toNat,fun u z=>by cases z;omega,by show p % 5=(((p % 5).toNat:Nat):Int);omega⟩
theorem duty_at(p:Int):∃ d:_root_.Fin 4,atI [V.str "free",V.str "follow",V.str "cut",V.str "beat"] (p % 4)=some (.str (wd d)):=by
 have h0:=Int.emod_nonneg p (show(4:Int)≠0 by decide)
 have h1:=Int.emod_lt_of_pos p (show(0:Int) < 4 by decide)
 generalize p % 4=r at h0 h1
 have:r=0∨r=1∨r=2∨r=3:=by omega
 rcases this with rfl | rfl | rfl | rfl
 ·exact⟨0,rfl⟩
 ·exact⟨1,rfl⟩
 ·exact⟨2,rfl⟩
 ·exact⟨3,rfl⟩
theorem nat_v{z:Int}(h:0≤z):V.int z=V.int ((z.toNat:Nat):Int):=by rw[Int.toNat_of_nonneg h]
def spRules(K:PySem.W.Frag):Sp:=fun vs H Q _=>∃(a:Addr) (ns:List Int) (mo:Nat),vs=[.ref a,.int (mo:Nat)]∧SqL K H a (ns.map V.int)∧ns.length≤63∧mo≤100 ∧
 ∀ d f t sz H',Same H H'→H d=none→IsRt H' d f t sz→f.Ok→TrB t→sz≤mo→(f.n=4→sz≤2∨sz+1≤mo)→sz * f.n≤f.s * f.h→Q (.ref d) H'
abbrev nRules:List Str:=["_law_script","_law_most","_law_seats","_law_suits","_law_size","_law_low","_law_heights","_law_word","_law_trump","_law_orders"]
theorem scRules:FnScope nRules ["_law_script","_law_most"] (defScope sRules):=⟨rfl,rfl,rfl,by decide +kernel,rfl,by decide +kernel,by decide +kernel⟩
theorem ok_rules{k:Nat}{f1 f2:Addr}{d1 d2:FuncData}(F:Fun K "_law_rules" "_law_rules" sRules f fd)(LX:Lib P w K mg base k "_law_mixed" pMixed (spMixed K) f1 d1)(LO:Lib P w K mg base k "_law_order" pOrder (spOrder K) f2 d2)(mMx:mg "max" = none)(mMn:mg "min" = none):FnOk P w K mg base CX0 (k+1) f fd ["_law_script","_law_most"] (spRules K):=by
 refine F.ok scRules (fun vs H Q E h=>?_) (fun cdv A outer s H vs Q E hr h=>?_)
 ·obtain⟨a,ns,mo,rfl,_⟩:=h
  rfl
 obtain⟨a,ns,mo,rfl,hS,h63,mo100,q⟩:=h
 refine⟨_,pss_cons (ps_set (i:=2) scRules.nd rfl (Or.inl rfl) (pe_op op_add pe_int (pe_op op_mod (pe_call LX.ok hr rfl LX.mg LX.kp LX.bd .nil pass0 (pa_cons (pv 0) (pa_cons pe_int pa_nil))) pe_int)))
  (pss_cons (ps_set (i:=3) scRules.nd rfl (Or.inl rfl) (pe_op op_add pe_int (pe_op op_mod (pe_call LX.ok hr rfl LX.mg LX.kp LX.bd .nil pass0 (pa_cons (pv 0) (pa_cons pe_int pa_nil))) pe_int)))
  (pss_cons (ps_set (i:=4) scRules.nd rfl (Or.inl rfl) (pe_callB (call_min2 rfl) rfl mMn PyProof.Rows.boot_min (pa_cons (pe_op op_mod (pe_call LX.ok hr rfl LX.mg LX.kp LX.bd .nil pass0 (pa_cons (pv 0) (pa_cons pe_int pa_nil))) (pe_op op_add (pv 1) pe_int)) (pa_cons (pe_op op_fdiv (pe_op op_mul pe_int (pv 3)) (pv 2)) pa_nil))))
  (pss_cons (ps_if (pt_cmpR op_eq (pv 2) pe_int (nomark _)) (pss_one (ps_set (i:=4) scRules.nd rfl (Or.inl rfl) (pe_callB (call_min2 rfl) rfl mMn PyProof.Rows.boot_min (pa_cons (pv 4) (pa_cons (pe_callB (call_max2 rfl) rfl mMx PyProof.Rows.boot_max (pa_cons pe_int (pa_cons (pe_op op_sub (pv 1) pe_int) pa_nil))) pa_nil))))) pss_nil)
  (pss_cons (ps_set (i:=5) scRules.nd rfl (Or.inl rfl) (pe_callB (call_max2 rfl) rfl mMx PyProof.Rows.boot_max (pa_cons pe_int (pa_cons (pe_op op_fdiv (pe_op op_sub (pe_op op_add (pe_op op_mul (pv 2) (pv 4)) (pv 3)) pe_int) (pv 3)) pa_nil))))
  (pss_cons (ps_set (i:=6) scRules.nd rfl (Or.inl rfl) (pe_op op_add (pv 5) (pe_op op_mod (pe_call LX.ok hr rfl LX.mg LX.kp LX.bd .nil pass0 (pa_cons (pv 0) (pa_cons pe_int pa_nil))) (pe_op op_sub pe_int (pv 5)))))
  (pss_cons (ps_set (i:=7) scRules.nd rfl (Or.inl rfl) (pe_ix ix_list (pe_lst (pa_cons pe_str (pa_cons pe_str (pa_cons pe_str (pa_cons pe_str pa_nil))))) (pe_op op_mod (pe_call LX.ok hr rfl LX.mg LX.kp LX.bd .nil pass0 (pa_cons (pv 0) (pa_cons pe_int pa_nil))) pe_int) (fun _ _=>rfl)))
  (pss_cons (ps_set (i:=8) scRules.nd rfl (Or.inl rfl) (pe_op op_mod (pe_call LX.ok hr rfl LX.mg LX.kp LX.bd .nil pass0 (pa_cons (pv 0) (pa_cons pe_int pa_nil))) pe_int))
  (pss_cons (ps_set (i:=9) scRules.nd rfl (Or.inl rfl) (pe_lst (pa_cons (pe_call LO.ok hr rfl LO.mg LO.kp LO.bd .nil pass0 (pa_cons (pv 0) (pa_cons pe_int (pa_cons (pv 6) pa_nil)))) (pa_cons (pe_call LO.ok hr rfl LO.mg LO.kp LO.bd .nil pass0 (pa_cons (pv 0) (pa_cons pe_int (pa_cons (pv 6) pa_nil)))) pa_nil))))
  (pss_one (ps_ret (pe_tup (pa_cons (pv 2) (pa_cons (pv 3) (pa_cons (pv 4) (pa_cons (pv 7) (pa_cons (pv 8) (pa_cons (pv 9) pa_nil))))))))))))))))),?_⟩
 have z1000:=fits3 1000 (by decide)
 refine set_nm (fun v H1=>H1=H∧∃ n:Nat,v = .int (n:Nat)∧(n=3∨n=4)) (fun R hR=>⟨_,rfl,a,ns,0,rfl,hS,h63,by decide,by decide,fun z=>⟨_,_,rfl,rfl,(show(0:Int) < 2 by decide),_,_,rfl,rfl,hR _ _ ⟨rfl,(3+z % 2).toNat,nat_v (by omega),by omega⟩⟩⟩) (fun v H1 z=>?_)
 obtain⟨rfl,n,rfl,hn⟩:=z
 refine set_nm (fun v H2=>H2=H1∧∃ u:Nat,v = .int (u:Nat)∧1≤u∧u≤4) (fun R hR=>⟨_,rfl,a,ns,1,rfl,hS,h63,by decide,by decide,fun z=>⟨_,_,rfl,rfl,(show(0:Int) < 4 by decide),_,_,rfl,rfl,hR _ _ ⟨rfl,(1+z % 4).toNat,nat_v (by omega),by omega,by omega⟩⟩⟩) (fun v H2 z=>?_)
 obtain⟨rfl,u,rfl,u1,u4⟩:=z
 have n0:0 < n:=by omega
 have eq8:(8:Int) * ((u:Nat):Int) / ((n:Nat):Int)=((8 * u / n:Nat):Int):=by rw[Int.natCast_ediv,Int.natCast_mul];rfl
 have q8:8 * u / n * n≤8 * u:=Nat.div_mul_le_self _ _
 refine set_nm (fun v H3=>H3=H2∧∃ sz:Nat,v = .int (sz:Nat)∧sz≤mo∧sz * n≤8 * u) (fun R hR=>⟨_,rfl,a,ns,2,rfl,hS,h63,by decide,by decide,fun z=>⟨_,rfl,_,_,rfl,rfl,_,_,rfl,rfl,(by show(0:Int) < ((mo:Nat):Int)+1;omega),_,rfl,_,_,rfl,rfl,.inl ⟨by decide,by decide⟩,_,rfl,_,_,rfl,rfl,⟨(by show(0:Int) < ((n:Nat):Int);omega),(by show((n:Nat):Int) < _;omega)⟩,_,_,rfl,?_⟩⟩) (fun v H3 z=>?_)
 ·have r0:=Int.emod_nonneg z (show((mo:Nat):Int)+1≠0 by omega)
  have r1:=Int.emod_lt_of_pos z (show(0:Int) < ((mo:Nat):Int)+1 by omega)
  rw[eq8]
  generalize 8 * u / n=g8 at q8 ⊢
  refine hR _ _ ⟨rfl,(if((g8:Nat):Int) < z % (((mo:Nat):Int)+1) then((g8:Nat):Int) else z % (((mo:Nat):Int)+1)).toNat,nat_v (by split<;>omega),?_,?_⟩
  ·split<;>omega
  ·have le:(if((g8:Nat):Int) < z % (((mo:Nat):Int)+1) then((g8:Nat):Int) else z % (((mo:Nat):Int)+1)).toNat≤g8:=by split<;>omega
   exact Nat.le_trans (Nat.mul_le_mul_right _ le) q8
 obtain⟨rfl,sz0,rfl,szm0,szn0⟩:=z
 refine seq_cut (fun σ H4=>H4=H3∧∃ sz:Nat,σ=[some (.ref a),some (.int (mo:Nat)),some (.int (n:Nat)),some (.int (u:Nat)),some (.int (sz:Nat)),none,none,none,none,none]∧sz≤mo∧(n=4→sz≤2∨sz+1≤mo)∧sz * n≤8 * u) (fun D' er nx=>?_) (fun σ H4 z=>?_)
 ·refine⟨_,rfl,rfl,_,rfl,?_⟩
  have e4:decide (V.int ((n:Nat):Int)=V.int 4)=decide (n=4):=natLit rfl
  refine chg e4 ?_
  by_cases c:n=4
  ·rw[decide_eq_true c]
   refine iteT ⟨_,rfl,_,rfl,_,_,rfl,rfl,_,_,rfl,_,_,rfl,?_⟩
   have v0:V.int (if(if((mo:Nat):Int) - 1 > 2 then((mo:Nat):Int) - 1 else 2) < ((sz0:Nat):Int) then(if((mo:Nat):Int) - 1 > 2 then((mo:Nat):Int) - 1 else 2) else((sz0:Nat):Int))=V.int (((if(if((mo:Nat):Int) - 1 > 2 then((mo:Nat):Int) - 1 else 2) < ((sz0:Nat):Int) then(if((mo:Nat):Int) - 1 > 2 then((mo:Nat):Int) - 1 else 2) else((sz0:Nat):Int)).toNat:Nat):Int):=nat_v (by split<;>split<;>omega)
   refine nx _ _ ⟨rfl,(if(if((mo:Nat):Int) - 1 > 2 then((mo:Nat):Int) - 1 else 2) < ((sz0:Nat):Int) then(if((mo:Nat):Int) - 1 > 2 then((mo:Nat):Int) - 1 else 2) else((sz0:Nat):Int)).toNat,by rw[← v0];rfl,?_,fun _=>?_,?_⟩
   ·split<;>split<;>omega
   ·split<;>split<;>omega
   ·have le:(if(if((mo:Nat):Int) - 1 > 2 then((mo:Nat):Int) - 1 else 2) < ((sz0:Nat):Int) then(if((mo:Nat):Int) - 1 > 2 then((mo:Nat):Int) - 1 else 2) else((sz0:Nat):Int)).toNat≤sz0:=by split<;>split<;>omega
    exact Nat.le_trans (Nat.mul_le_mul_right _ le) szn0
  ·rw[decide_eq_false c]
   exact iteF (nx _ _ ⟨rfl,sz0,rfl,szm0,fun z=>absurd z c,szn0⟩)
 obtain⟨rfl,sz,rfl,szm,sz4,szn⟩:=z
 have ns8:n * sz≤8 * u:=by rw[Nat.mul_comm];exact szn
 refine set_nm (fun v H5=>H5=H4∧∃ lw:Nat,v = .int (lw:Nat)∧1≤lw∧lw≤8∧sz * n≤u * lw) (fun R hR=>⟨_,rfl,_,rfl,_,_,rfl,rfl,.inl ⟨by omega,by omega⟩,_,rfl,_,_,rfl,rfl,_,_,rfl,rfl,_,rfl,_,_,rfl,rfl,⟨(by show(0:Int) < ((u:Nat):Int);omega),(by show((u:Nat):Int) < _;omega)⟩,_,_,rfl,?_⟩) (fun v H5 z=>?_)
 ·have e:(((n:Nat):Int) * ((sz:Nat):Int)+((u:Nat):Int) - 1) / ((u:Nat):Int)=(((n * sz+u - 1) / u:Nat):Int):=by
   rw[Int.natCast_ediv,← Int.natCast_mul]
   congr 1
   omega
  rw[e]
  have d1:(n * sz+u - 1) / u≤8:=by
   have:(n * sz+u - 1) / u < 9:=Nat.div_lt_of_lt_mul (by omega)
   omega
  have d2:n * sz≤u * ((n * sz+u - 1) / u):=by
   have:=Nat.div_add_mod (n * sz+u - 1) u
   have:=Nat.mod_lt (n * sz+u - 1) (show u > 0 by omega)
   omega
  generalize (n * sz+u - 1) / u=g9 at d1 d2 ⊢
  refine hR _ _ ⟨rfl,(if((g9:Nat):Int) > 1 then((g9:Nat):Int) else 1).toNat,nat_v (by split<;>omega),by split<;>omega,by split<;>omega,?_⟩
  have le:g9≤(if((g9:Nat):Int) > 1 then((g9:Nat):Int) else 1).toNat:=by split<;>omega
  rw[Nat.mul_comm sz n]
  exact Nat.le_trans d2 (Nat.mul_le_mul_left _ le)
 obtain⟨rfl,lw,rfl,lw1,lw8,lwn⟩:=z
 refine set_nm (fun v H6=>H6=H5∧∃ hh:Nat,v = .int (hh:Nat)∧lw≤hh∧hh≤8) (fun R hR=>⟨_,rfl,_,rfl,a,ns,3,rfl,hS,h63,by decide,by decide,fun z=>⟨_,rfl,_,_,rfl,rfl,_,_,rfl,rfl,(by show(0:Int) < 9 - ((lw:Nat):Int);omega),_,_,rfl,rfl,?_⟩⟩) (fun v H6 z=>?_)
 ·have r0:=Int.emod_nonneg z (show(9:Int) - ((lw:Nat):Int)≠0 by omega)
  have r1:=Int.emod_lt_of_pos z (show(0:Int) < 9 - ((lw:Nat):Int) by omega)
  exact hR _ _ ⟨rfl,(((lw:Nat):Int)+z % (9 - ((lw:Nat):Int))).toNat,nat_v (by omega),by omega,by omega⟩
 obtain⟨rfl,hh,rfl,hlw,hh8⟩:=z
 refine set_nm (fun v H7=>Same H6 H7∧∃ dd:_root_.Fin 4,v = .str (wd dd)) (fun R hR=>⟨fits3 4 (by decide),fun lq hlq=>⟨_,rfl,a,ns,4,rfl,((same_upd hlq _).seq hS),h63,by decide,by decide,fun z=>?_⟩⟩) (fun v H7 z=>?_)
 ·obtain⟨dd,et⟩:=duty_at z
  exact⟨_,_,rfl,rfl,(show(0:Int) < 4 by decide),lq,_,_,_,rfl,rfl,SqL.of upd_same,et,hR _ _ ⟨same_upd hlq _,dd,rfl⟩⟩
 obtain⟨s7,dd,rfl⟩:=z
 refine set_nm (fun v H8=>H8=H7∧∃ t,TrB t∧v = .int (trI t)) (fun R hR=>⟨_,rfl,a,ns,5,rfl,(s7.seq hS),h63,by decide,by decide,fun z=>?_⟩) (fun v H8 z=>?_)
 ·obtain⟨t,tb,et⟩:=trI_at z
  exact⟨_,_,rfl,rfl,(show(0:Int) < 5 by decide),hR _ _ ⟨rfl,t,tb,by show V.int (z % 5)=_;rw[et]⟩⟩
 obtain⟨rfl,t,tb,rfl⟩:=z
 refine set_nm (fun v H9=>Same H8 H9∧∃ lo lp lh pl tr,v = .ref lo∧pl.Perm (List.range hh)∧tr.Perm (List.range hh)∧H9 lo=some (.lst [.ref lp,.ref lh])∧H9 lp=some (.lst (vN pl))∧H9 lh=some (.lst (vN tr))) (fun R hR=>?_) (fun v H9 z=>?_)
 ·refine⟨_,rfl,_,rfl,a,ns,40,hh,rfl,s7.seq hS,h63,by decide,hh8,fun lp pl H9 pp s9 _ hlp=>⟨_,rfl,_,rfl,a,ns,50,hh,rfl,(s7.trans s9).seq hS,h63,by decide,hh8,fun lh tr HA pt sA _ hlh=>⟨fits3 2 (by decide),fun lo hlo=>?_⟩⟩⟩
  have aO:=same_upd hlo (.lst [.ref lp,.ref lh])
  exact hR _ _ ⟨(s9.trans sA).trans aO,lo,lp,lh,pl,tr,rfl,pp,pt,upd_same,aO _ _ (sA _ _ hlp),aO _ _ hlh⟩
 obtain⟨s9,lo,lp,lh,pl,tr,rfl,pp,pt,hlo,hlp,hlh⟩:=z
 refine⟨_,rfl,_,rfl,_,rfl,_,rfl,_,rfl,_,rfl,fits3 6 (by decide),fun d hd=>?_⟩
 have aD:=same_upd hd (.tup (rtV ⟨u,hh,n,dd,pl,tr⟩ t sz lo))
 refine q d ⟨u,hh,n,dd,pl,tr⟩ t sz _ ((s7.trans s9).trans aD) ((s7.trans s9).free hd) ⟨lo,lp,lh,upd_same,aD _ _ hlo,aD _ _ hlp,aD _ _ hlh⟩ ⟨u1,u4,by show 1≤hh;omega,hh8,hn,pp,pt⟩ tb szm sz4 ?_
 show sz * n≤u * hh
 exact Nat.le_trans lwn (Nat.mul_le_mul_left _ hlw)
end
end My
namespace My
open PySem L2
abbrev sText:Stmt:=top 46
abbrev sGame:Stmt:=top 47
abbrev sGames:Stmt:=top 48
section
variable{P:Program}{w:World}{K:PySem.W.Frag}{mg:Str→Option Value}{base:Heap}{f g:Addr}{fd gd:FuncData}
def figV(H:Hp)(x:V):V:=match x with | .ref a=>(match H a with | some (.lst vs)=>.str (figS (vs.map fun v:V=>match v with | .int i=>i.toNat | _=>0)) | _=>.non) | _=>.non
theorem figV_at{H:Hp}{a:Addr}{cs:List Nat}(h:H a=some (.lst (vN cs))):figV H (.ref a) = .str (figS cs):=by
 show(match H a with | some (.lst vs)=>V.str (figS (vs.map fun v:V=>match v with | .int i=>i.toNat | _=>0)) | _=>.non)=_
 rw[h]
 show V.str (figS ((vN cs).map _))=_
 unfold vN
 rw[List.map_map]
 congr 2
 refine(List.map_congr_left fun x _=>?_).trans (List.map_id _)
 exact Int.toNat_natCast x
theorem fig8_at:∀ i < 8,atI ("12345678":Str).cps.toList ((i:Nat):Int)=some (49+i):=by decide +kernel
theorem make_same{H1 H':Hp}{x dx:Addr}{o:HO}(hx:H1 x=none)(hd:H1 dx=none)(n:dx≠x)(kp:Keep x (upd (upd H1 dx (.own x)) x o) H'):Same H1 H':=fun b u hb=>
 kp b u (ne_of_none hb hx) (same_make hx hd n b u hb)
theorem size_eq(f:Fx):((⟨#[48+f.s]⟩:Str) ++ "x" ++ ⟨#[48+f.h]⟩)=sizeT f:=by
 refine str_ext ?_
 have ap:∀ a b:Str,(a++b).cps.toList=a.cps.toList++b.cps.toList:=fun a b=>by
  show(a.cps++b.cps).toList=_
  rw[Array.toList_append]
 rw[ap,ap,show("x":Str).cps.toList=[120] by decide +kernel]
 rfl
def spText:Sp:=fun vs H Q _=>∃(d:Addr) (f:Fx) (t:Option Nat) (sz:Nat),vs=[.ref d]∧f.Ok∧IsRt H d f t sz∧∀ H',Same H H'→Q (.str (tabT f)) H'
abbrev nText:List Str:=["_law_rules_here","_law_figures","_law_shape","_law_words"]
theorem scText:FnScope nText ["_law_rules_here"] (defScope sText):=⟨rfl,rfl,rfl,by decide +kernel,rfl,by decide +kernel,by decide +kernel⟩
def cTx:Scope:=match defBody sText with
 | .Assign _ (.ListComp _ _ sc _) _ :: _=>sc
 | _=>defScope sText
theorem ok_text{k:Nat}(F:Fun K "_law_text" "_law_text" sText f fd)(ms:mg "str" = none)(ml:mg "len" = none):FnOk P w K mg base CX0 (k+1) f fd ["_law_rules_here"] spText:=by
 refine F.ok scText (fun vs H Q E h=>?_) (fun cdv A outer s H vs Q E hr h=>?_)
 ·obtain⟨d,fx,t,sz,rfl,_⟩:=h
  rfl
 obtain⟨d,fx,t,sz,rfl,ok,⟨lo,lp,lh,hD,hO,hP,hT⟩,q⟩:=h
 refine⟨_,pss_cons (ps_setcomp (i:=1) ["_law_order_here"] [none] rfl scText.nd rfl (Or.inl rfl) (Blk.by (sc:=defScope sText) (N0:=nText) rfl rfl (by decide +kernel)) (pi_list (pe_ix ix_tup (pv 0) pe_int (fun _ _=>rfl))) (fun C s₀ H₀ ex=>pg_name (i:=0) (show(["_law_order_here"]:List Str).Nodup by decide +kernel) rfl (Or.inl rfl)) (fun C s₀ H₀ ex=>pf_nil)
   (fun C s₀ H₀ ex=>pe_joinK (K:=K) rfl pe_str (pa_cons (pe_comp ["_law_height"] [none] rfl (Blk.by (sc:=relS cTx (defScope sText)) (N0:=["_law_order_here"]) rfl rfl (by decide +kernel)) (pi_listK K rfl (pv 0)) (fun C s₀ H₀ ex=>pg_name (i:=0) (show(["_law_height"]:List Str).Nodup by decide +kernel) rfl (Or.inl rfl)) (fun C s₀ H₀ ex=>pf_nil)
    (fun C s₀ H₀ ex=>pe_ix (show IxR _ rIxS from ix_str) pe_str (pv 0) (fun _ _=>rfl))) pa_nil)))
  (pss_cons (ps_set (i:=2) scText.nd rfl (Or.inl rfl) (pe_op op_add_str (pe_op op_add_str (pe_callTy call_str_int rfl ms PyProof.Rows.boot_str (pa_cons (pe_ix ix_tup (pv 0) pe_int (fun _ _=>rfl)) pa_nil)) pe_str) (pe_callTy call_str_int rfl ms PyProof.Rows.boot_str (pa_cons (pe_callB call_len_seq rfl ml PySem.boot_len (pa_cons (pe_ix ix_list (pe_ix ix_tup (pv 0) pe_int (fun _ _=>rfl)) pe_int (fun _ _=>rfl)) pa_nil)) pa_nil))))
  (pss_cons (ps_set (i:=3) scText.nd rfl (Or.inl rfl) (pe_lst (pa_cons pe_str (pa_cons (pv 2) (pa_cons pe_str (pa_cons (pe_callTy call_str_int rfl ms PyProof.Rows.boot_str (pa_cons (pe_ix ix_tup (pv 0) pe_int (fun _ _=>rfl)) pa_nil)) (pa_cons pe_str (pa_cons (pe_ix ix_tup (pv 0) pe_int (fun _ _=>rfl)) pa_nil))))))))
  (pss_one (ps_ret (pe_bm PySem.F.plainAttrs_str PySem.F.slot_str_join PySem.F.type_str_join mt_join pe_str (pa_cons (pe_op op_cat (pv 3) (pe_lst (pa_cons pe_str (pa_cons (pe_ix ix_list (pv 1) pe_int (fun _ _=>rfl)) (pa_cons pe_str (pa_cons (pe_ix ix_list (pv 1) pe_int (fun _ _=>rfl)) pa_nil)))))) pa_nil)))))),?_⟩
 obtain⟨g1,g2,g3,g4,g5,g6⟩:=@rt_get fx t sz lo
 have sm:∀ i:Nat,i≤8→(((i:Nat):Int).natAbs).log2 < 1920:=fun i hi=>by
  have:((i:Nat):Int).natAbs=i:=rfl
  rw[this]
  exact Nat.lt_of_le_of_lt (Nat.log2_le_self i) (by omega)
 have s4:=ok.s4
 have h8:=ok.h8
 have n4:fx.n≤8:=by rcases ok.n34 with e | e<;>omega
 have one:∀ x:Nat,(⟨#[x]⟩:Str).length≤1:=fun _=>Nat.le_refl 1
 have w2:("x":Str).length≤1:=by decide +kernel
 have num:∀(ls:List Nat) (x:V),ls.Perm (List.range fx.h)→x∈vN ls→∃ i:Nat,i < 8∧x = .int (i:Nat):=fun ls x pm hx=>by
  obtain⟨i,hi,rfl⟩:=List.mem_map.mp hx
  have:=perm_lt pm i hi
  exact⟨i,by omega,rfl⟩
 refine set_nm (fun v H1=>Same H H1∧∃ lf,v = .ref lf∧H1 lf=some (.lst [.str (figS fx.pl),.str (figS fx.tr)])) (fun R hR=>?_) (fun v H1 z=>?_)
 ·refine⟨_,rfl,d,_,_,_,rfl,rfl,SqT.of hD,g6,lo,rfl,⟨_,SqL.of hO⟩,comp_list (K:=K) (xs:=[.ref lp,.ref lh]) (fun _=>true) (figV H) (SqL.of hO) (fits3 2 (by decide)) (fun x H3 hx sm R hR=>hR H3 (Same.refl H3)) (fun x H3 hx hp s3 R hR=>?_) (fun lf H1 s1 hlf hLf=>hR _ _ ⟨s1,lf,rfl,?_⟩)⟩
  ·have ex:∃(av:Addr) (os:List Nat),x = .ref av∧os.Perm (List.range fx.h)∧H av=some (.lst (vN os)):=by
    rcases List.mem_cons.mp hx with e | e
    ·exact⟨lp,fx.pl,e,ok.pp,hP⟩
    ·exact⟨lh,fx.tr,List.mem_singleton.mp e,ok.pt,hT⟩
   obtain⟨av,os,rfl,pm,hav⟩:=ex
   have hav3:=s3 _ _ hav
   refine⟨rfl,_,rfl,av,rfl,⟨_,SqL.of hav3⟩,comp_list (K:=K) (xs:=vN os) (fun _=>true) sgV (SqL.of hav3) (by rw[vN_len,perm_len pm];exact fits3 _ (by omega)) (fun x H3 hx s3 R hR=>hR H3 (Same.refl H3)) (fun x H3 hx hp s3 R hR=>?_) (fun l1 H4 s4 hl1 hL1=>?_)⟩
   ·obtain⟨i,hi,rfl⟩:=num _ x pm hx
    have z:=hR H3 (Same.refl H3)
    rw[sgV_int,show 48+(i+1)=49+i by omega] at z
    exact⟨_,rfl,_,_,_,rfl,rfl,fits3 8 (by decide),fig8_at i hi,z⟩
   rw[sgV_list] at hL1
   have z:=hR H4 s4
   rw[figV_at hav,← join_sgn] at z
   exact⟨_,l1,os.map sgn,rfl,rfl,SqL.of hL1,sgn_sum pm h8,z⟩
  ·rw[hLf]
   show some (HO.lst [figV H (.ref lp),figV H (.ref lh)])=_
   rw[figV_at hP,figV_at hT]
 obtain⟨s1,lf,rfl,hlf⟩:=z
 refine set_nm (fun v H2=>H2=H1∧v = .str (sizeT fx)) (fun R hR=>?_) (fun v H2 z=>?_)
 ·refine⟨_,rfl,d,_,_,_,rfl,rfl,SqT.of (s1 _ _ hD),g2,_,rfl,sm _ (by omega),?_⟩
  rw[str_num _ (by omega)]
  refine⟨_,_,rfl,rfl,fitsAB (one _) w2 (by decide),_,rfl,d,_,_,_,rfl,rfl,SqT.of (s1 _ _ hD),g6,lo,_,_,_,rfl,rfl,SqL.of (s1 _ _ hO),(rfl:atI [V.ref lp,V.ref lh] 0=some (V.ref lp)),lp,_,rfl,.inl (SqL.of (s1 _ _ hP)),?_⟩
  rw[vN_len,perm_len ok.pp]
  refine⟨_,rfl,sm _ h8,?_⟩
  rw[str_num _ h8]
  refine⟨_,_,rfl,rfl,fitsAB (app_le (one _) w2) (one _) (by decide),?_⟩
  rw[size_eq]
  exact hR _ _ ⟨rfl,rfl⟩
 obtain⟨rfl,rfl⟩:=z
 refine set_nm (fun v H3=>Same H2 H3∧∃ lw,v = .ref lw∧H3 lw=some (.lst [.str "pack",.str (sizeT fx),.str "seats",.str (seatT fx),.str "duty",.str (wd fx.d)])) (fun R hR=>?_) (fun v H3 z=>?_)
 ·refine⟨_,rfl,_,rfl,d,_,_,_,rfl,rfl,SqT.of (s1 _ _ hD),g1,_,rfl,sm _ n4,?_⟩
  rw[str_num _ n4]
  exact⟨_,rfl,d,_,_,_,rfl,rfl,SqT.of (s1 _ _ hD),g4,fits3 6 (by decide),fun lw hlw=>hR _ _ ⟨same_upd hlw _,lw,rfl,upd_same⟩⟩
 obtain⟨s3,lw,rfl,hlw⟩:=z
 have hlf3:=s3 _ _ hlf
 refine⟨rfl,_,rfl,_,rfl,lf,_,_,_,rfl,rfl,SqL.of hlf3,(rfl:atI [V.str (figS fx.pl),V.str (figS fx.tr)] 0=some (V.str (figS fx.pl))),_,rfl,lf,_,_,_,rfl,rfl,SqL.of hlf3,(rfl:atI [V.str (figS fx.pl),V.str (figS fx.tr)] 1=some (V.str (figS fx.tr))),fits3 4 (by decide),fun l4 hl4=>?_⟩
 have a4:=same_upd hl4 (.lst [.str "plain",.str (figS fx.pl),.str "trump",.str (figS fx.tr)])
 refine⟨lw,l4,_,_,rfl,rfl,a4 _ _ hlw,upd_same,fits3 10 (by decide),fun l5 hl5=>?_⟩
 have a5:=same_upd hl5 (.lst ([V.str "pack",V.str (sizeT fx),V.str "seats",V.str (seatT fx),V.str "duty",V.str (wd fx.d)]++[V.str "plain",V.str (figS fx.pl),V.str "trump",V.str (figS fx.tr)]))
 have wl:=(wd_len fx.d).2
 refine⟨_,l5,tabW fx,rfl,rfl,SqL.of upd_same,?_,q _ (((s1.trans s3).trans a4).trans a5)⟩
 have e1:("pack":Str).length=4:=by decide +kernel
 have e2:("seats":Str).length=5:=by decide +kernel
 have e3:("duty":Str).length=4:=by decide +kernel
 have e4:("plain":Str).length=5:=by decide +kernel
 have e5:("trump":Str).length=5:=by decide +kernel
 have e6:(" ":Str).length=1:=by decide +kernel
 have l1:(figS fx.pl).length≤8:=by rw[figS_len,perm_len ok.pp];exact h8
 have l2:(figS fx.tr).length≤8:=by rw[figS_len,perm_len ok.pt];exact h8
 have l3:(sizeT fx).length=3:=rfl
 have l4':(seatT fx).length=1:=rfl
 unfold tabW
 simp only[List.map_cons,List.map_nil,List.sum_cons,List.sum_nil,List.length_cons,List.length_nil,e1,e2,e3,e4,e5,e6,l3,l4']
 omega
def spGame(CT CG:Addr):Sp:=fun vs H Q _=>∃(x d:Addr) (f:Fx) (t:Option Nat) (sz:Nat),vs=[.ref x,.ref d]∧f.Ok∧TrB t∧IsRt H d f t sz∧IsTab CT f H x∧∀ gm H',Same H H'→GamH CT CG f t H' gm x→Q (.ref gm) H'
abbrev pGame:List Str:=["_law_table","_law_rules_here"]
theorem scGame:FnScope pGame pGame (defScope sGame):=⟨rfl,rfl,rfl,by decide +kernel,rfl,by decide +kernel,by decide +kernel⟩
theorem ok_game{k:Nat}{CT CG fG:Addr}{dG:FuncData}(F:Fun K "_law_game" "_law_game" sGame f fd)(CGm:GamC K mg CG)
  (MkG:Mk K CG fG) (FG:FnOk P w K mg base CX0 k fG dG ["self","table","trump"] (spGam CG)) (BG0:Binds K dG ["self","table","trump"] []) (BG1:Binds K dG ["self","table","trump"] [.none]) :
  FnOk P w K mg base CX0 (k+2) f fd pGame (spGame CT CG):=by
 refine F.ok scGame (fun vs H Q E h=>?_) (fun cdv A outer s H vs Q E hr h=>?_)
 ·obtain⟨x,d,fx,t,sz,rfl,_⟩:=h
  rfl
 obtain⟨x,d,fx,t,sz,rfl,ok,tb,hRt,hx,q⟩:=h
 obtain⟨lo,lp,lh,hD,hO,hP,hT⟩:=id hRt
 obtain⟨dx,po,to,x1,x2,x3⟩:=id hx
 refine⟨_,pss_cons (ps_if (pt_cmpR op_eq (pe_ix ix_tup (pv 1) pe_int (fun _ _=>rfl)) pe_int (nomark _)) (pss_one (ps_ret (pe_make MkG FG hr rfl CGm.mG BG1 (show Vals [V.non] [Value.none] from .cons rfl .nil) pass0 (pa_cons (pv 0) pa_nil)))) pss_nil)
  (pss_one (ps_ret (pe_make MkG FG hr rfl CGm.mG BG0 .nil pass0 (pa_cons (pv 0) (pa_cons (pe_ix ix_tup (pv 1) pe_int (fun _ _=>rfl)) pa_nil))))),?_⟩
 obtain⟨g1,g2,g3,g4,g5,g6⟩:=@rt_get fx t sz lo
 refine⟨_,rfl,d,_,_,_,rfl,rfl,SqT.of hD,g5,rfl,_,rfl,?_⟩
 cases t with
 | none=>
  refine chg (decide_eq_true rfl:decide (V.int (trI none)=V.int 4)=true) (iteT ⟨_,rfl,?_⟩)
  intro gm dg hgm hdg ng
  refine⟨gm,dg,x,.non,rfl,upd_same,rfl,?_⟩
  rw[upd_upd]
  have sg:=same_make (o:=.ins CG dg (gamF x .non)) hgm hdg ng
  exact q gm _ sg ⟨ok,⟨dg,upd_same⟩,⟨dx,po,to,sg _ _ x1,sg _ _ x2,sg _ _ x3⟩⟩
 | some u=>
  have u4:=tb u rfl
  have eU:decide (V.int (trI (some u))=V.int 4)=false:=by
   show decide (V.int ((u:Nat):Int)=V.int 4)=false
   exact(natLit (r:=u) (n:=4) (i:=4) rfl).trans (decide_eq_false (by omega))
  refine chg eU (iteF ⟨_,rfl,_,rfl,d,_,_,_,rfl,rfl,SqT.of hD,g5,?_⟩)
  intro gm dg hgm hdg ng
  refine⟨gm,dg,x,tvV (some u),rfl,upd_same,rfl,?_⟩
  rw[upd_upd]
  have sg:=same_make (o:=.ins CG dg (gamF x (tvV (some u)))) hgm hdg ng
  exact q gm _ sg ⟨ok,⟨dg,upd_same⟩,⟨dx,po,to,sg _ _ x1,sg _ _ x2,sg _ _ x3⟩⟩
def IsG(CT CG:Addr)(f:Fx)(sz:Nat)(H:Hp)(u:Addr):Prop:=∃ gm gx d t,TrB t∧H u=some (.tup [.ref gm,.ref d])∧GamH CT CG f t H gm gx∧IsRt H d f t sz
theorem IsG.same{CT CG:Addr}{f:Fx}{sz:Nat}{H H':Hp}{u:Addr}(h:IsG CT CG f sz H u)(s:Same H H'):IsG CT CG f sz H' u:=by
 obtain⟨gm,gx,d,t,a,b,c,e⟩:=h
 exact⟨gm,gx,d,t,a,s _ _ b,c.same s,e.same s⟩
def spGames(K:PySem.W.Frag)(CT CG:Addr):Sp:=fun vs H Q _=>∃(a:Addr) (ns:List Int) (d:Addr) (f:Fx) (t:Option Nat) (sz:Nat),vs=[.ref a,.ref d]∧SqL K H a (ns.map V.int)∧ns.length≤63∧f.Ok∧TrB t∧IsRt H d f t sz∧∀ l (us:List Addr) H',Same H H'→H' l=some (.lst (us.map V.ref))→us.length=3→(∀ u∈us,IsG CT CG f sz H' u)→Q (.ref l) H'
abbrev pGames:List Str:=["_law_script","_law_rules_here"]
abbrev nGames:List Str:=["_law_script","_law_rules_here","_law_table","_law_unlike","_law_first"]
theorem scGames:FnScope nGames pGames (defScope sGames):=⟨rfl,rfl,rfl,by decide +kernel,rfl,by decide +kernel,by decide +kernel⟩
theorem ok_games{k:Nat}{CT CG fI f1 f2 f3:Addr}{dI d1 d2 d3:FuncData}(F:Fun K "_law_games" "_law_games" sGames f fd)(C:TabC K mg CT)(LX:Lib P w K mg base (k+1) "_law_mixed" pMixed (spMixed K) f1 d1)(LT:Lib P w K mg base (k+1) "_law_text" ["_law_rules_here"] spText f2 d2)(LG:Lib P w K mg base (k+1) "_law_game" pGame (spGame CT CG) f3 d3)(MkT:Mk K CT fI)(FI:FnOk P w K mg base CX0 k fI dI ["self","text"] (spTab CT))(BI:Binds K dI ["self","text"] []) :
  FnOk P w K mg base CX0 (k+2) f fd pGames (spGames K CT CG):=by
 refine F.ok scGames (fun vs H Q E h=>?_) (fun cdv A outer s H vs Q E hr h=>?_)
 ·obtain⟨a,ns,d,fx,t,sz,rfl,_⟩:=h
  rfl
 obtain⟨a,ns,d,fx,t,sz,rfl,hS,h63,ok,tb,hRt,q⟩:=h
 obtain⟨lo,lp,lh,hD,hO,hP,hT⟩:=id hRt
 obtain⟨g1,g2,g3,g4,g5,g6⟩:=@rt_get fx t sz lo
 refine⟨_,pss_cons (ps_set (i:=2) scGames.nd rfl (Or.inl rfl) (pe_make MkT FI hr rfl C.mT BI .nil pass0 (pa_cons (pe_call LT.ok hr rfl LT.mg LT.kp LT.bd .nil pass0 (pa_cons (pv 1) pa_nil)) pa_nil)))
  (pss_cons (ps_set (i:=3) scGames.nd rfl (Or.inl rfl) (pe_op op_catG (pe_op op_catG (pe_slice sl_tupG (pv 1) po_none (po_some pe_int)) (pe_tup (pa_cons (pe_op op_mod (pe_op op_add (pe_op op_add (pe_ix ix_tup (pv 1) pe_int (fun _ _=>rfl)) pe_int) (pe_op op_mod (pe_call LX.ok hr rfl LX.mg LX.kp LX.bd .nil pass0 (pa_cons (pv 0) (pa_cons pe_int pa_nil))) pe_int)) pe_int) pa_nil))) (pe_slice sl_tupG (pv 1) (po_some pe_int) po_none)))
  (pss_cons (ps_set (i:=4) scGames.nd rfl (Or.inl rfl) (pe_tup (pa_cons (pe_call LG.ok hr rfl LG.mg LG.kp LG.bd .nil pass0 (pa_cons (pv 2) (pa_cons (pv 1) pa_nil))) (pa_cons (pv 1) pa_nil))))
  (pss_one (ps_ret (pe_lst (pa_cons (pv 4) (pa_cons (pe_tup (pa_cons (pe_call LG.ok hr rfl LG.mg LG.kp LG.bd .nil pass0 (pa_cons (pv 2) (pa_cons (pv 3) pa_nil))) (pa_cons (pv 3) pa_nil))) (pa_cons (pv 4) pa_nil)))))))),?_⟩
 refine set_nm (fun v H1=>Same H H1∧∃ x,v = .ref x∧IsTab CT fx H1 x) (fun R hR=>?_) (fun v H1 z=>?_)
 ·refine⟨_,rfl,d,fx,t,sz,rfl,ok,hRt,fun H1 s1=>?_⟩
  intro x dx hx hdx nx
  refine⟨x,dx,fx,rfl,ok,upd_same,fun po to H3 kp hx3 hpo hto=>⟨rfl,hR _ _ ⟨s1.trans (make_same hx hdx nx kp),x,rfl,dx,po,to,hx3,hpo,hto⟩⟩⟩
 obtain⟨s1,x,rfl,hX1⟩:=z
 have hD1:=s1 _ _ hD
 refine set_nm (fun v H2=>Same H1 H2∧∃ d2 t2,v = .ref d2∧TrB t2∧IsRt H2 d2 fx t2 sz) (fun R hR=>?_) (fun v H2 z=>?_)
 ·refine⟨_,rfl,_,rfl,d,_,rfl,hD1,fun p1 H2 s2 hp1=>?_⟩
  have c1:cutV (rtV fx t sz lo) none (some 4)=[.int (fx.n:Nat),.int (fx.s:Nat),.int (sz:Nat),.str (wd fx.d)]:=rfl
  rw[c1] at hp1
  refine⟨_,rfl,d,_,_,_,rfl,rfl,SqT.of (s2 _ _ hD1),g5,_,_,rfl,rfl,_,rfl,a,ns,10,rfl,(s1.trans s2).seq hS,h63,by decide,by decide,fun z=>⟨_,_,rfl,rfl,(show(0:Int) < 4 by decide),_,_,rfl,rfl,_,_,rfl,rfl,(show(0:Int) < 5 by decide),?_⟩⟩
  obtain⟨t2,tb2,et⟩:=trI_at (trI t+1+z % 4)
  refine⟨fits3 1 (by decide),fun p2 hp2=>?_⟩
  have a2:=same_upd hp2 (.tup [V.int ((trI t+1+z % 4) % 5)])
  have hP2:(upd H2 p2 (.tup [V.int ((trI t+1+z % 4) % 5)])) p2=some (.tup [.int (trI t2)]):=by rw[upd_same,et]
  generalize upd H2 p2 (.tup [V.int ((trI t+1+z % 4) % 5)])=H3 at a2 hP2 ⊢
  refine⟨p1,p2,_,_,rfl,rfl,a2 _ _ hp1,hP2,fits3 5 (by decide),fun p3 H4 s4 hp3=>?_⟩
  have s24:=(s2.trans a2).trans s4
  refine⟨_,rfl,_,rfl,d,_,rfl,s24 _ _ hD1,fun p5 H5 s5 hp5=>?_⟩
  have c2:cutV (rtV fx t sz lo) (some 5) none=[.ref lo]:=rfl
  rw[c2] at hp5
  refine⟨p3,p5,_,_,rfl,rfl,s5 _ _ hp3,hp5,fits3 6 (by decide),fun p6 H6 s6 hp6=>?_⟩
  have s26:=(s24.trans s5).trans s6
  exact hR _ _ ⟨s26,p6,t2,rfl,tb2,lo,lp,lh,hp6,s26 _ _ (s1 _ _ hO),s26 _ _ (s1 _ _ hP),s26 _ _ (s1 _ _ hT)⟩
 obtain⟨s2,d2,t2,rfl,tb2,hRt2⟩:=z
 have s12:=s1.trans s2
 refine set_nm (fun v H3=>Same H2 H3∧∃ u,v = .ref u∧IsG CT CG fx sz H3 u) (fun R hR=>?_) (fun v H3 z=>?_)
 ·refine⟨_,rfl,_,rfl,x,d,fx,t,sz,rfl,ok,tb,hRt.same s12,hX1.same s2,fun gm H3 s3 G=>⟨_,rfl,fits3 2 (by decide),fun u hu=>?_⟩⟩
  have a3:=same_upd hu (.tup [.ref gm,.ref d])
  exact hR _ _ ⟨s3.trans a3,u,rfl,gm,x,d,t,tb,upd_same,G.same a3,((hRt.same s12).same s3).same a3⟩
 obtain⟨s3,u1,rfl,G1⟩:=z
 refine⟨_,rfl,_,rfl,_,rfl,x,d2,fx,t2,sz,rfl,ok,tb2,hRt2.same s3,(hX1.same s2).same s3,fun gm H4 s4 G=>⟨_,rfl,fits3 2 (by decide),fun u2 hu2=>⟨_,rfl,fits3 3 (by decide),fun l hl=>?_⟩⟩⟩
 have a4:=same_upd hu2 (.tup [.ref gm,.ref d2])
 have a5:=same_upd hl (.lst [.ref u1,.ref u2,.ref u1])
 have s45:=(s4.trans a4).trans a5
 have G1':=G1.same s45
 have G2':IsG CT CG fx sz (upd (upd H4 u2 (.tup [.ref gm,.ref d2])) l (.lst [.ref u1,.ref u2,.ref u1])) u2:=⟨gm,x,d2,t2,tb2,a5 _ _ upd_same,(G.same a4).same a5,(((hRt2.same s3).same s4).same a4).same a5⟩
 refine q l [u1,u2,u1] _ ((s12.trans s3).trans s45) upd_same rfl fun u hu=>?_
 simp only[List.mem_cons,List.not_mem_nil,or_false] at hu
 rcases hu with rfl | rfl | rfl
 ·exact G1'
 ·exact G2'
 ·exact G1'
end
end My
namespace My
open PySem L2
abbrev sRank:Stmt:=top 49
abbrev sLMay:Stmt:=top 50
theorem alw_mid(d:_root_.Fin 4)(d0:d≠0)(d3:d≠3)(fx:Fx)(t:Option Nat)(ys cs:List Nat):(if d=1 then orL (folL (ledOf ys) cs) cs else cutL t (ledOf ys) cs)=alw d fx t ys cs:=match d,d0,d3 with
 | 0,h,_=>absurd rfl h
 | 1,_,_=>rfl
 | 2,_,_=>rfl
 | 3,_,h=>absurd rfl h
theorem wd_dec(d j:_root_.Fin 4):decide (V.str (wd d)=V.str (wd j))=decide (d=j):=decide_eq_decide.mpr ⟨fun h=>by injection h with h;exact wd_inj _ _ h,fun h=>by rw[h]⟩
def folV(s:Nat)(x:V):Bool:=match x with | .int i=>decide (i.toNat / 8=s) | _=>false
theorem folV_nat(s c:Nat):folV s (.int (c:Nat))=decide (c / 8=s):=by
 show decide (((c:Nat):Int).toNat / 8=s)=_
 rw[Int.toNat_natCast]
theorem folV_list(s:Nat)(cs:List Nat):(((vN cs).filter (folV s)).map fun x=>x)=vN (folL s cs):=by
 rw[List.map_id']
 unfold vN folL
 rw[List.filter_map]
 exact congrArg _ (List.filter_congr fun c _=>folV_nat s c)
def trV(t:Option Nat)(x:V):Bool:=match x with | .int i=>decide (t=some (i.toNat / 8)) | _=>false
theorem trV_nat(t:Option Nat)(c:Nat):trV t (.int (c:Nat))=decide (t=some (c / 8)):=by
 show decide (t=some (((c:Nat):Int).toNat / 8))=_
 rw[Int.toNat_natCast]
theorem trV_list(t:Option Nat)(cs:List Nat):(((vN cs).filter (trV t)).map fun x=>x)=vN (trL t cs):=by
 rw[List.map_id']
 have e:(vN cs).filter (trV t)=vN (cs.filter fun c=>decide (t=some (c / 8))):=by
  unfold vN
  rw[List.filter_map]
  exact congrArg _ (List.filter_congr fun c _=>trV_nat t c)
 rw[e]
 refine congrArg vN ?_
 cases t with
 | none=>exact List.filter_eq_nil_iff.mpr fun c _=>by simp
 | some u=>exact List.filter_congr fun c _=>decide_eq_decide.mpr ⟨fun h=>(Option.some.inj h).symm,fun h=>by rw[h]⟩
theorem vN_nil(cs:List Nat):(vN cs).isEmpty=decide (cs=[]):=by cases cs<;>rfl
section
variable{P:Program}{w:World}{K:PySem.W.Frag}{mg:Str→Option Value}{base:Heap}{f g:Addr}{fd gd:FuncData}
def rankL(f:Fx)(t:Option Nat)(led c:Nat):List Int:=if t=some (c / 8) then [2,((pos (c % 8) f.tr:Nat):Int)] else if c / 8=led then [1,((pos (c % 8) f.pl:Nat):Int)] else [0,0]
theorem lex2(a b c d:Int):HT.lexLt [a,b] [c,d]=decide (a < c∨a=c∧b < d):=by
 show(if a=c then(if b=d then HT.lexLt [] [] else decide (b < d)) else decide (a < c))=_
 by_cases e:a=c
 ·rw[if_pos e]
  by_cases e2:b=d
  ·rw[if_pos e2]
   exact(decide_eq_false (by omega)).symm
  ·rw[if_neg e2]
   exact decide_eq_decide.mpr ⟨fun h=>by omega,fun h=>by omega⟩
 ·rw[if_neg e]
  exact decide_eq_decide.mpr ⟨fun h=>by omega,fun h=>by omega⟩
theorem rank_form{f:Fx}(ok:f.Ok)(t:Option Nat)(led c:Nat):∃ a b:Nat,rankL f t led c=[((a:Nat):Int),((b:Nat):Int)]∧rk f t led c=10 * a+b∧b≤8:=by
 have l1:∀ x,pos x f.tr≤8:=fun x=>Nat.le_trans (pos_le x _) (by rw[perm_len ok.pt];exact ok.h8)
 have l2:∀ x,pos x f.pl≤8:=fun x=>Nat.le_trans (pos_le x _) (by rw[perm_len ok.pp];exact ok.h8)
 unfold rankL rk
 by_cases c1:t=some (c / 8)
 ·rw[if_pos c1,if_pos c1]
  exact⟨2,pos (c % 8) f.tr,rfl,rfl,l1 _⟩
 ·rw[if_neg c1,if_neg c1]
  by_cases c2:c / 8=led
  ·rw[if_pos c2,if_pos c2]
   exact⟨1,pos (c % 8) f.pl,rfl,rfl,l2 _⟩
  ·rw[if_neg c2,if_neg c2]
   exact⟨0,0,rfl,rfl,Nat.zero_le _⟩
theorem rank_lex{f:Fx}(ok:f.Ok)(t:Option Nat)(led c o:Nat):HT.lexLt (rankL f t led c) (rankL f t led o)=decide (((rk f t led o:Nat):Int) > ((rk f t led c:Nat):Int)):=by
 obtain⟨a,b,e1,e2,h1⟩:=rank_form ok t led c
 obtain⟨a',b',f1,f2,h2⟩:=rank_form ok t led o
 rw[e1,f1,e2,f2,lex2]
 exact decide_eq_decide.mpr ⟨fun h=>by omega,fun h=>by omega⟩
theorem rank_eq{f:Fx}(ok:f.Ok){t:Option Nat}{led c o:Nat}(h:rankL f t led c=rankL f t led o):rk f t led c=rk f t led o:=by
 obtain⟨a,b,e1,e2,h1⟩:=rank_form ok t led c
 obtain⟨a',b',f1,f2,h2⟩:=rank_form ok t led o
 rw[e1,f1] at h
 injection h with h3 h4
 injection h4 with h5
 omega
def spRank:Sp:=fun vs H Q _=>∃(d:Addr) (f:Fx) (t:Option Nat) (sz c led:Nat),vs=[.ref d,.int (c:Nat),.int (led:Nat)]∧f.Ok∧IsRt H d f t sz∧c % 8 < f.h∧c < 32∧∀ p H',Same H H'→H' p=some (.tup ((rankL f t led c).map V.int))→Q (.ref p) H'
abbrev pRank:List Str:=["_law_rules_here","_law_card","_law_led"]
theorem scRank:FnScope pRank pRank (defScope sRank):=⟨rfl,rfl,rfl,by decide +kernel,rfl,by decide +kernel,by decide +kernel⟩
theorem tr_dec(t:Option Nat){c:Nat}(hc:c < 32):decide (V.int (((c:Nat):Int) / 8)=V.int (trI t))=decide (t=some (c / 8)):=by
 have e8:((c:Nat):Int) / 8=((c / 8:Nat):Int):=by omega
 rw[e8,eq_int]
 cases t with
 | none=>exact decide_eq_decide.mpr ⟨(fun h=>by have h':((c / 8:Nat):Int)=4:=h;omega),(fun h=>nomatch h)⟩
 | some u=>
  refine decide_eq_decide.mpr ⟨fun h=>?_,fun h=>?_⟩
  ·have h':((c / 8:Nat):Int)=((u:Nat):Int):=h
   have:c / 8=u:=by omega
   rw[this]
  ·rw[Option.some.inj h]
   rfl
theorem ints_get{l:List Nat}{j x:Nat}:(l.map fun c=>((c:Nat):Int))[j]? = some ((x:Nat):Int)↔l[j]? = some x:=by
 rw[List.getElem?_map]
 constructor
 ·intro h
  obtain⟨y,e1,e2⟩:=Option.map_eq_some_iff.mp h
  have:y=x:=by omega
  rw[e1,this]
 ·intro h
  rw[h]
  rfl
theorem ok_rank{k:Nat}(F:Fun K "_law_strength" "_law_strength" sRank f fd):FnOk P w K mg base CX0 (k+1) f fd pRank spRank:=by
 refine F.ok scRank (fun vs H Q E h=>?_) (fun cdv A outer s H vs Q E hr h=>?_)
 ·obtain⟨d,fx,t,sz,c,led,rfl,_⟩:=h
  rfl
 obtain⟨d,fx,t,sz,c,led,rfl,ok,⟨lo,lp,lh,hD,hO,hP,hT⟩,ch,c32,q⟩:=h
 refine⟨_,pss_cons (ps_if (pt_cmpR op_eq (pe_op op_fdiv (pv 1) pe_int) (pe_ix ix_tup (pv 0) pe_int (fun _ _=>rfl)) (nomark _)) (pss_one (ps_ret (pe_tup (pa_cons pe_int (pa_cons (pe_bm PySem.F.plainAttrs_list PySem.F.slot_list_index PySem.F.type_list_index mt_index (pe_ix ix_list (pe_ix ix_tup (pv 0) pe_int (fun _ _=>rfl)) pe_int (fun _ _=>rfl)) (pa_cons (pe_op op_mod (pv 1) pe_int) pa_nil)) pa_nil))))) pss_nil)
  (pss_cons (ps_if (pt_cmpR op_eq (pe_op op_fdiv (pv 1) pe_int) (pv 2) (nomark _)) (pss_one (ps_ret (pe_tup (pa_cons pe_int (pa_cons (pe_bm PySem.F.plainAttrs_list PySem.F.slot_list_index PySem.F.type_list_index mt_index (pe_ix ix_list (pe_ix ix_tup (pv 0) pe_int (fun _ _=>rfl)) pe_int (fun _ _=>rfl)) (pa_cons (pe_op op_mod (pv 1) pe_int) pa_nil)) pa_nil))))) pss_nil)
  (pss_one (ps_ret (pe_tup (pa_cons pe_int (pa_cons pe_int pa_nil)))))),?_⟩
 obtain⟨g1,g2,g3,g4,g5,g6⟩:=@rt_get fx t sz lo
 have h8:=ok.h8
 have em:((c:Nat):Int) % 8=((c % 8:Nat):Int):=by omega
 have m1:c % 8∈fx.tr:=ok.pt.mem_iff.mpr (List.mem_range.mpr ch)
 have m2:c % 8∈fx.pl:=ok.pp.mem_iff.mpr (List.mem_range.mpr ch)
 have l1:fx.tr.length≤1000:=by rw[perm_len ok.pt];omega
 have l2:fx.pl.length≤1000:=by rw[perm_len ok.pp];omega
 refine⟨_,rfl,_,_,rfl,rfl,⟨by decide,by decide⟩,_,rfl,d,_,_,_,rfl,rfl,SqT.of hD,g5,rfl,_,rfl,chg (tr_dec t c32) ?_⟩
 by_cases c1:t=some (c / 8)
 ·rw[decide_eq_true c1]
  have hT':H lh=some (.lst ((fx.tr.map fun c=>((c:Nat):Int)).map V.int)):=by rw[← vN_ints];exact hT
  refine iteT ⟨_,rfl,d,_,_,_,rfl,rfl,SqT.of hD,g6,lo,_,_,_,rfl,rfl,SqL.of hO,(rfl:atI [V.ref lp,V.ref lh] 1=some (V.ref lh)),.inl ⟨rfl,_,SqL.of hT⟩,_,rfl,_,_,rfl,rfl,(show(0:Int) < 8 by decide),lh,((c % 8:Nat):Int),_,pos (c % 8) fx.tr,rfl,(by show [V.int (((c:Nat):Int) % 8)]=_;rw[em]),SqL.of hT',by rw[List.length_map];exact l1,ints_get.mpr (pos_at m1).1,fun m hm z=>(pos_at m1).2 m hm (ints_get.mp z),fits3 2 (by decide),fun p hp=>q p _ (same_upd hp _) ?_⟩
  rw[upd_same]
  unfold rankL
  rw[if_pos c1]
  rfl
 ·rw[decide_eq_false c1]
  have eL:decide (V.int (((c:Nat):Int) / 8)=V.int ((led:Nat):Int))=decide (c / 8=led):=(eq_int _ _).trans (decide_eq_decide.mpr ⟨fun h=>by omega,fun h=>by omega⟩)
  refine iteF ⟨_,rfl,_,_,rfl,rfl,⟨by decide,by decide⟩,_,rfl,rfl,_,rfl,chg eL ?_⟩
  by_cases c2:c / 8=led
  ·rw[decide_eq_true c2]
   have hP':H lp=some (.lst ((fx.pl.map fun c=>((c:Nat):Int)).map V.int)):=by rw[← vN_ints];exact hP
   refine iteT ⟨_,rfl,d,_,_,_,rfl,rfl,SqT.of hD,g6,lo,_,_,_,rfl,rfl,SqL.of hO,(rfl:atI [V.ref lp,V.ref lh] 0=some (V.ref lp)),.inl ⟨rfl,_,SqL.of hP⟩,_,rfl,_,_,rfl,rfl,(show(0:Int) < 8 by decide),lp,((c % 8:Nat):Int),_,pos (c % 8) fx.pl,rfl,(by show [V.int (((c:Nat):Int) % 8)]=_;rw[em]),SqL.of hP',by rw[List.length_map];exact l2,ints_get.mpr (pos_at m2).1,fun m hm z=>(pos_at m2).2 m hm (ints_get.mp z),fits3 2 (by decide),fun p hp=>q p _ (same_upd hp _) ?_⟩
   rw[upd_same]
   unfold rankL
   rw[if_neg c1,if_pos c2]
   rfl
  ·rw[decide_eq_false c2]
   refine iteF ⟨fits3 2 (by decide),fun p hp=>q p _ (same_upd hp _) ?_⟩
   rw[upd_same]
   unfold rankL
   rw[if_neg c1,if_neg c2]
   rfl
theorem orL_e{a b:List Nat}(h:a=[]):orL a b=b:=if_pos h
theorem orL_n{a b:List Nat}(h:a≠[]):orL a b=a:=if_neg h
theorem orL_assoc(a b c:List Nat):orL (orL a b) c=orL a (orL b c):=by
 unfold orL
 by_cases e:a=[]
 ·rw[if_pos e,if_pos e]
 ·rw[if_neg e,if_neg e,if_neg e]
def gtV(f:Fx)(t:Option Nat)(led M:Nat)(x:V):Bool:=match x with | .int i=>decide (M < rk f t led i.toNat) | _=>false
theorem gtV_nat(f:Fx)(t:Option Nat)(led M c:Nat):gtV f t led M (.int (c:Nat))=decide (M < rk f t led c):=by
 show decide (M < rk f t led (((c:Nat):Int).toNat))=_
 rw[Int.toNat_natCast]
theorem gtV_list(f:Fx)(t:Option Nat)(led M:Nat)(cs:List Nat):(((vN cs).filter (gtV f t led M)).map fun x=>x)=vN (cs.filter fun c=>decide (M < rk f t led c)):=by
 rw[List.map_id']
 unfold vN
 rw[List.filter_map]
 exact congrArg _ (List.filter_congr fun c _=>gtV_nat f t led M c)
theorem top_eq{f:Fx}(ok:f.Ok){t:Option Nat}{ys cs:List Nat}{j:Nat}{y:Nat}(hj:ys[j]? = some y)(hm:∀ o∈ys,rk f t (ledOf ys) o≤rk f t (ledOf ys) y):(cs.filter fun c=>decide (rk f t (ledOf ys) y < rk f t (ledOf ys) c))=topL f t ys cs:=by
 unfold topL
 refine List.filter_congr fun c _=>?_
 rw[Bool.eq_iff_iff,decide_eq_true_eq,List.all_eq_true]
 constructor
 ·intro h o ho
  rw[over_rk ok,decide_eq_true_eq]
  exact Nat.lt_of_le_of_lt (hm o ho) h
 ·intro h
  have:=h y (List.mem_of_getElem? hj)
  rw[over_rk ok,decide_eq_true_eq] at this
  exact this
def spLMay:Sp:=fun vs H Q _=>∃(d cp tp:Addr) (f:Fx) (t:Option Nat) (sz:Nat) (cs ys:List Nat),vs=[.ref d,.ref cp,.ref tp]∧f.Ok∧IsRt H d f t sz∧H cp=some (.lst (vN cs))∧H tp=some (.lst (vN ys))∧cs.length≤100∧(∀ c∈cs,c < 32)∧(ys=[]∨Beg f ys cs)∧∀ o H',Same H H'→H o=none→H' o=some (.lst (vN (if ys=[] then cs else alw f.d f t ys cs)))→Q (.ref o) H'
abbrev pLMay:List Str:=["_law_rules_here","_law_cards","_law_trick"]
abbrev nLMay:List Str:=["_law_rules_here","_law_cards","_law_trick","_law_led","_law_some","_law_same","_law_high","_law_better"]
theorem scLMay:FnScope nLMay pLMay (defScope sLMay):=⟨rfl,rfl,rfl,by decide +kernel,rfl,by decide +kernel,by decide +kernel⟩
abbrev nB1:List Str:=["_law_card","_law_led"]
abbrev nB2:List Str:=["_law_card","_law_rules_here"]
abbrev nB3:List Str:=["_law_card","_law_rules_here","_law_led"]
abbrev nB4:List Str:=["_law_card","_law_rules_here","_law_led","_law_high"]
theorem ok_lmay{k:Nat}{f1:Addr}{d1:FuncData}(F:Fun K "_law_may" "_law_may" sLMay f fd)(LR:Lib P w K mg base k "_law_strength" pRank spRank f1 d1)(mLi:mg "list" = none)(mM:mg "max" = none):FnOk P w K mg base CX0 (k+1) f fd pLMay spLMay:=by
 refine F.ok scLMay (fun vs H Q E h=>?_) (fun cdv A outer s H vs Q E hr h=>?_)
 ·obtain⟨d,cp,tp,fx,t,sz,cs,ys,rfl,_⟩:=h
  rfl
 obtain⟨d,cp,tp,fx,t,sz,cs,ys,rfl,ok,hRt,hC,hY,c100,c32,hB,q⟩:=h
 refine⟨_,pss_cons (ps_if (pt_cmpR (op_eqNil hr.units) (pv 2) (pe_lst pa_nil) (nomark _)) (pss_one (ps_ret (pe_callTy call_list_of rfl mLi PyProof.Rows.boot_list (pa_cons (pv 1) pa_nil)))) pss_nil)
  (pss_cons (ps_set (i:=3) scLMay.nd rfl (Or.inr rfl) (pe_op op_fdiv (pe_ix ix_list (pv 2) pe_int (fun _ _=>rfl)) pe_int))
  (pss_cons (ps_set (i:=4) scLMay.nd rfl (Or.inl rfl) (pe_callTy call_list_of rfl mLi PyProof.Rows.boot_list (pa_cons (pv 1) pa_nil)))
  (pss_cons (ps_if (pt_cmpR op_ne (pe_ix ix_tup (pv 0) pe_int (fun _ _=>rfl)) pe_str (nomark _))
   (pss_cons (ps_setcomp (i:=5) nB1 [none,some 3] rfl scLMay.nd rfl (Or.inl rfl) (Blk.by (sc:=defScope sLMay) (N0:=nLMay) rfl rfl (by decide +kernel)) (pi_list (pv 1)) (fun C s₀ H₀ ex=>pg_name (i:=0) (show nB1.Nodup by decide +kernel) rfl (Or.inl rfl)) (fun C s₀ H₀ ex=>pf_one (pt_cmpR op_eq (pe_op op_fdiv (pv 0) pe_int) (pv 1) (nomark _))) (fun C s₀ H₀ ex=>pv 0))
   (pss_cons (ps_if (PW.pt (pw_and (pt_cmpR (op_eqNil hr.units) (pv 5) (pe_lst pa_nil) (nomark _)) (pw_and1 (pt_cmpR op_ne (pe_ix ix_tup (pv 0) pe_int (fun _ _=>rfl)) pe_str (nomark _)))))
    (pss_one (ps_setcomp (i:=5) nB2 [none,some 0] rfl scLMay.nd rfl (Or.inl rfl) (Blk.by (sc:=defScope sLMay) (N0:=nLMay) rfl rfl (by decide +kernel)) (pi_list (pv 1)) (fun C s₀ H₀ ex=>pg_name (i:=0) (show nB2.Nodup by decide +kernel) rfl (Or.inl rfl)) (fun C s₀ H₀ ex=>pf_one (pt_cmpR op_eq (pe_op op_fdiv (pv 0) pe_int) (pe_ix (show IxR _ (rIxT K) from ix_tup) (pv 1) pe_int (fun _ _=>rfl)) (nomark _))) (fun C s₀ H₀ ex=>pv 0))) pss_nil)
   (pss_one (ps_if (pt_cmpR (op_neNil hr.units) (pv 5) (pe_lst pa_nil) (nomark _)) (pss_one (ps_set (i:=4) scLMay.nd rfl (Or.inl rfl) (pv 5))) pss_nil)))) pss_nil)
  (pss_cons (ps_if (pt_cmpR op_eq (pe_ix ix_tup (pv 0) pe_int (fun _ _=>rfl)) pe_str (nomark _))
   (pss_cons (ps_set (i:=6) scLMay.nd rfl (Or.inr rfl) (pe_callB (call_maxT rfl hr.units) rfl mM PyProof.Rows.boot_max (pa_cons (pe_comp nB3 [none,some 0,some 3] rfl (Blk.by (sc:=defScope sLMay) (N0:=nLMay) rfl rfl (by decide +kernel)) (pi_list (pv 2)) (fun C s₀ H₀ ex=>pg_name (i:=0) (show nB3.Nodup by decide +kernel) rfl (Or.inl rfl)) (fun C s₀ H₀ ex=>pf_nil)
     (fun C s₀ H₀ ex=>pe_call LR.ok hr rfl LR.mg LR.kp LR.bd .nil pass0 (pa_cons (pv 1) (pa_cons (pv 0) (pa_cons (pv 2) pa_nil))))) pa_nil)))
   (pss_cons (ps_setcomp (i:=7) nB4 [none,some 0,some 3,some 6] rfl scLMay.nd rfl (Or.inl rfl) (Blk.by (sc:=defScope sLMay) (N0:=nLMay) rfl rfl (by decide +kernel)) (pi_list (pv 4)) (fun C s₀ H₀ ex=>pg_name (i:=0) (show nB4.Nodup by decide +kernel) rfl (Or.inl rfl))
     (fun C s₀ H₀ ex=>pf_one (pt_cmpR (show OpR _ (compareOp .Gt) (fun x y H Q=>∃(a b:Addr) (ns ms:List Int),x = .ref a∧y = .ref b∧SqT K H a (ns.map V.int)∧SqT K H b (ms.map V.int)∧Q (.bl (HT.lexLt ms ns)) H) from op_gtT hr.units) (pe_call LR.ok hr rfl LR.mg LR.kp LR.bd .nil pass0 (pa_cons (pv 1) (pa_cons (pv 0) (pa_cons (pv 2) pa_nil)))) (pv 3) (nomark _))) (fun C s₀ H₀ ex=>pv 0))
   (pss_one (ps_if (pt_cmpR (op_neNil hr.units) (pv 7) (pe_lst pa_nil) (nomark _)) (pss_one (ps_set (i:=4) scLMay.nd rfl (Or.inl rfl) (pv 7))) pss_nil)))) pss_nil)
  (pss_one (ps_ret (pv 4))))))),?_⟩
 obtain⟨lo,lp,lh,hD,hO,hP,hT⟩:=id hRt
 obtain⟨g1,g2,g3,g4,g5,g6⟩:=@rt_get fx t sz lo
 refine⟨_,rfl,fits3 0 (by decide),fun lz hlz=>?_⟩
 have az:=same_upd hlz (.lst [])
 refine⟨tp,lz,_,rfl,rfl,SqL.of (az _ _ hY),SqL.of upd_same,_,rfl,chg (vN_nil ys) ?_⟩
 generalize upd H lz (.lst [])=Hz at az ⊢
 by_cases y0:ys=[]
 ·rw[decide_eq_true y0]
  refine iteT ⟨_,rfl,cp,_,rfl,.inl (SqL.of (az _ _ hC)),fun l hl=>q l _ (az.trans (same_upd hl _)) (az.free hl) ?_⟩
  rw[upd_same,if_pos y0]
 rw[decide_eq_false y0]
 have B:=hB.resolve_left y0
 have s4':=ok.s4
 have y32:∀ y∈ys,y < 32:=fun y hy=>by have:=(B.ys8 y hy).1;omega
 have el:((ys.getD 0 0:Nat):Int) / 8=((ledOf ys:Nat):Int):=by unfold ledOf;omega
 refine iteF (nx_of ?_)
 refine set_nm (fun v H1=>H1=Hz∧v = .int ((ledOf ys:Nat):Int)) (fun R hR=>⟨_,rfl,tp,_,_,_,rfl,rfl,SqL.of (az _ _ hY),at_vN (i:=0) B.ne,_,_,rfl,rfl,⟨by decide,by decide⟩,hR _ _ ⟨rfl,congrArg V.int el⟩⟩) (fun v H1 z=>?_)
 obtain⟨rfl,rfl⟩:=z
 refine set_nm (fun v H2=>Same H H2∧∃ l,v = .ref l∧H l=none∧H2 l=some (.lst (vN cs))) (fun R hR=>⟨_,rfl,cp,_,rfl,.inl (SqL.of (az _ _ hC)),fun l hl=>hR _ _ ⟨az.trans (same_upd hl _),l,rfl,az.free hl,upd_same⟩⟩) (fun v H2 z=>?_)
 obtain⟨s2,l2,rfl,nl2,hL2⟩:=z
 have neD:∀ i:_root_.Fin 4,(!decide (V.str (wd fx.d)=V.str (wd i))) = !decide (fx.d=i):=fun i=>congrArg (fun b=>!b) (wd_dec fx.d i)
 refine seq_cut (fun σ H4=>Same H H4∧∃(l4:Addr) (mid:List Nat) (x5:Option V),σ=[some (.ref d),some (.ref cp),some (.ref tp),some (.int ((ledOf ys:Nat):Int)),some (.ref l4),x5,none,none]∧H l4=none∧H4 l4=some (.lst (vN mid))∧mid=(if fx.d=0 then cs else if fx.d=1 then orL (folL (ledOf ys) cs) cs else cutL t (ledOf ys) cs)) (fun D' er nx=>?_) (fun σ H4 z=>?_)
 ·refine⟨_,rfl,d,_,_,_,rfl,rfl,SqT.of (s2 _ _ hD),g4,rfl,_,rfl,chg (neD 0) ?_⟩
  by_cases d0:fx.d=0
  ·rw[decide_eq_true d0]
   exact iteF (nx _ _ ⟨s2,l2,cs,none,rfl,nl2,hL2,by rw[if_pos d0]⟩)
  rw[decide_eq_false d0]
  refine iteT ?_
  have hC2:=s2 _ _ hC
  refine set_nm (fun v H3=>∃ l,v = .ref l∧Same H2 H3∧H2 l=none∧H3 l=some (.lst (vN (folL (ledOf ys) cs)))) (fun R hR=>?_) (fun v H3 z=>?_)
  ·refine⟨_,rfl,cp,rfl,⟨_,SqL.of hC2⟩,comp_list (K:=K) (xs:=vN cs) (folV (ledOf ys)) (fun x=>x) (SqL.of hC2) (fits3 _ (by rw[vN_len];omega)) (fun x H3 hx sm R hR=>?_) (fun x H3 hx hp sm R hR=>⟨_,rfl,hR H3 (Same.refl H3)⟩) (fun l H3 sm hl hL=>hR _ _ ⟨l,rfl,sm,hl,by rw[hL,folV_list]⟩)⟩
   obtain⟨c,hc,rfl⟩:=List.mem_map.mp hx
   have e:decide (V.int (((c:Nat):Int) / 8)=V.int ((ledOf ys:Nat):Int))=folV (ledOf ys) (.int (c:Nat)):=by
    rw[folV_nat,eq_int]
    exact decide_eq_decide.mpr ⟨fun h=>by omega,fun h=>by omega⟩
   refine⟨_,rfl,_,_,rfl,rfl,⟨by decide,by decide⟩,_,rfl,rfl,_,rfl,?_⟩
   have z:=hR H3 (Same.refl H3)
   rw[← e] at z
   exact z
  obtain⟨l3,rfl,s3,nl3,hL3⟩:=z
  have s23:=s2.trans s3
  refine seq_cut (fun σ H5=>Same H H5∧∃(l5:Addr) (ss:List Nat),σ=[some (.ref d),some (.ref cp),some (.ref tp),some (.int ((ledOf ys:Nat):Int)),some (.ref l2),some (.ref l5),none,none]∧H l5=none∧H5 l2=some (.lst (vN cs))∧H5 l5=some (.lst (vN ss))∧ss=(if fx.d=1 then folL (ledOf ys) cs else orL (folL (ledOf ys) cs) (trL t cs))) (fun D2 er2 nx2=>?_) (fun σ H5 z=>?_)
  ·refine⟨_,rfl,fits3 0 (by decide),fun lq hlq=>?_⟩
   have aq:=same_upd hlq (.lst [])
   refine⟨l3,lq,_,rfl,rfl,SqL.of (aq _ _ hL3),SqL.of upd_same,_,rfl,chg (vN_nil _) ?_⟩
   generalize upd H3 lq (.lst [])=Hq at aq ⊢
   have sq:=s23.trans aq
   by_cases f0:folL (ledOf ys) cs=[]
   ·rw[decide_eq_true f0]
    refine iteT ⟨_,rfl,d,_,_,_,rfl,rfl,SqT.of (sq _ _ hD),g4,rfl,_,rfl,chg (neD 1) ?_⟩
    by_cases d1:fx.d=1
    ·rw[decide_eq_true d1]
     exact iteF (nx2 _ _ ⟨sq,l3,_,rfl,s2.free nl3,aq _ _ (s3 _ _ hL2),aq _ _ hL3,by rw[if_pos d1]⟩)
    ·rw[decide_eq_false d1]
     have hCq:=sq _ _ hC
     refine iteT ⟨_,rfl,cp,rfl,⟨_,SqL.of hCq⟩,comp_list (K:=K) (xs:=vN cs) (trV t) (fun x=>x) (SqL.of hCq) (fits3 _ (by rw[vN_len];omega)) (fun x H3 hx sm R hR=>?_) (fun x H3 hx hp sm R hR=>⟨_,rfl,hR H3 (Same.refl H3)⟩) (fun l H6 sm hl hL=>nx2 _ _ ⟨sq.trans sm,l,_,rfl,sq.free hl,sm _ _ (aq _ _ (s3 _ _ hL2)),by rw[hL,trV_list],?_⟩)⟩
     ·obtain⟨c,hc,rfl⟩:=List.mem_map.mp hx
      refine⟨_,rfl,_,_,rfl,rfl,⟨by decide,by decide⟩,_,rfl,d,_,_,_,rfl,rfl,SqT.of (sm _ _ (sq _ _ hD)),g5,rfl,_,rfl,?_⟩
      have z:=hR H3 (Same.refl H3)
      rw[trV_nat,← tr_dec t (c32 c hc)] at z
      exact z
     ·rw[if_neg d1]
      unfold orL
      rw[if_pos f0]
   ·rw[decide_eq_false f0]
    refine iteF (iteF (nx2 _ _ ⟨sq,l3,_,rfl,s2.free nl3,aq _ _ (s3 _ _ hL2),aq _ _ hL3,?_⟩))
    unfold orL
    rw[if_neg f0]
    split<;>rfl
  obtain⟨s5,l5,ss,rfl,nl5,hL25,hL5,ess⟩:=z
  have emid:orL ss cs=(if fx.d=1 then orL (folL (ledOf ys) cs) cs else cutL t (ledOf ys) cs):=by
   rw[ess]
   by_cases d1:fx.d=1
   ·rw[if_pos d1,if_pos d1]
   ·rw[if_neg d1,if_neg d1,orL_assoc]
    rfl
  refine⟨_,rfl,fits3 0 (by decide),fun lq hlq=>?_⟩
  have aq:=same_upd hlq (.lst [])
  refine⟨l5,lq,_,rfl,rfl,SqL.of (aq _ _ hL5),SqL.of upd_same,_,rfl,chg (congrArg (fun b=>!b) (vN_nil _)) ?_⟩
  generalize upd H5 lq (.lst [])=Hq at aq ⊢
  by_cases f0:ss=[]
  ·rw[decide_eq_true f0]
   refine iteF (nx _ _ ⟨s5.trans aq,l2,cs,_,rfl,nl2,aq _ _ hL25,?_⟩)
   rw[if_neg d0,← emid]
   unfold orL
   rw[if_pos f0]
  ·rw[decide_eq_false f0]
   refine iteT ⟨_,rfl,nx _ _ ⟨s5.trans aq,l5,ss,_,rfl,nl5,aq _ _ hL5,?_⟩⟩
   rw[if_neg d0,← emid]
   unfold orL
   rw[if_neg f0]
 obtain⟨s4,l4,mid,x5,rfl,nl4,hL4,emid⟩:=z
 have msub:∀ c∈mid,c∈cs:=fun c hc=>by
  rw[emid] at hc
  by_cases d0:fx.d=0
  ·rw[if_pos d0] at hc
   exact hc
  ·rw[if_neg d0] at hc
   by_cases d1:fx.d=1
   ·rw[if_pos d1] at hc
    exact orL_sub (folL_sub _ _) (fun _ h=>h) c hc
   ·rw[if_neg d1] at hc
    exact cutL_sub _ _ _ c hc
 have mlen:mid.length≤100:=by
  rw[emid]
  split
  ·exact c100
  ·have lF:(folL (ledOf ys) cs).length≤cs.length:=List.length_filter_le _ _
   have lT:(trL t cs).length≤cs.length:=by
    cases t with
    | none=>exact Nat.zero_le _
    | some u=>exact List.length_filter_le _ _
   split
   ·unfold orL;split<;>omega
   ·show(orL (folL (ledOf ys) cs) (orL (trL t cs) cs)).length≤100
    unfold orL
    split
    ·split<;>omega
    ·omega
 refine seq_cut (fun σ H5=>Same H H5∧∃(l5:Addr) (x5 x6 x7:Option V),σ=[some (.ref d),some (.ref cp),some (.ref tp),some (.int ((ledOf ys:Nat):Int)),some (.ref l5),x5,x6,x7]∧H l5=none∧H5 l5=some (.lst (vN (alw fx.d fx t ys cs)))) (fun D' er nx=>?_) (fun σ H5 z=>?_)
 ·refine⟨_,rfl,d,_,_,_,rfl,rfl,SqT.of (s4 _ _ hD),g4,rfl,_,rfl,chg (wd_dec fx.d 3) ?_⟩
  by_cases d3:fx.d=3
  ·rw[decide_eq_true d3]
   refine iteT ?_
   have hRt4:=hRt.same s4
   have hY4:=s4 _ _ hY
   have yl:=B.len
   have lm:=mlen
   refine set_nm (fun v H6=>∃(p:Addr) (j y:Nat),v = .ref p∧Same H4 H6∧ys[j]? = some y∧(∀ o∈ys,rk fx t (ledOf ys) o≤rk fx t (ledOf ys) y)∧H6 p=some (.tup ((rankL fx t (ledOf ys) y).map V.int))) (fun R hR=>?_) (fun v H6 z=>?_)
   ·refine⟨_,rfl,tp,rfl,⟨_,SqL.of hY4⟩,comp_someL (K:=K) (xs:=vN ys) (fun _ i v H=>∃(p:Addr) (y:Nat),ys[i]? = some y∧v = .ref p∧H p=some (.tup ((rankL fx t (ledOf ys) y).map V.int))) (SqL.of hY4) (fits3 _ (by rw[vN_len];omega)) (fun l i v H H' g sm=>?_) (fun l i v H xs zs g hl=>?_) (fun i x H5 l vs hx sm hl hL R hR=>?_) (fun l H5 vs sm hl hL hvl hvs=>?_)⟩
    ·obtain⟨p,y,a1,a2,a3⟩:=g
     exact⟨p,y,a1,a2,sm _ _ a3⟩
    ·obtain⟨p,y,a1,a2,a3⟩:=g
     exact⟨p,y,a1,a2,by rw[upd_ne (ne_of a3 hl (fun z=>nomatch z))];exact a3⟩
    ·obtain⟨y,hy,rfl⟩:=vN_get hx
     exact⟨_,rfl,_,rfl,_,rfl,d,fx,t,sz,y,ledOf ys,rfl,ok,hRt4.same sm,(B.ys8 y (List.mem_of_getElem? hy)).2,y32 y (List.mem_of_getElem? hy),fun p H6 s6 hp6=>hR _ _ s6 ⟨p,y,hy,rfl,hp6⟩⟩
    ·rw[vN_len] at hvl
     have ex:∃ ps:List Addr,vs=ps.map V.ref:=by
      refine⟨vs.map fun v=>match v with | .ref a=>a | _=>0,?_⟩
      rw[List.map_map]
      apply List.ext_getElem?
      intro j
      rw[List.getElem?_map]
      cases e:vs[j]? with
      | none=>rfl
      | some v=>
       obtain⟨p,y,_,rfl,_⟩:=hvs j v e
       rfl
     obtain⟨ps,rfl⟩:=ex
     rw[List.length_map] at hvl
     refine⟨l,ps,ys.map (rankL fx t (ledOf ys)),(fun i=>((rk fx t (ledOf ys) (ys.getD i 0):Nat):Int)),rfl,⟨SqL.of hL,by rw[List.length_map];exact hvl,fun j p hj=>?_⟩,by rw[hvl];exact B.ne,fun i j ns ms hi hj=>?_,fun j p hj hmax=>?_⟩
     ·obtain⟨p',y,a1,a2,a3⟩:=hvs j (.ref p) (by rw[List.getElem?_map,hj];rfl)
      injection a2 with a2
      subst a2
      exact⟨_,by rw[List.getElem?_map,a1];rfl,a3⟩
     ·rw[List.getElem?_map] at hi hj
      obtain⟨a,a1,rfl⟩:=Option.map_eq_some_iff.mp hi
      obtain⟨b,b1,rfl⟩:=Option.map_eq_some_iff.mp hj
      show HT.lexLt _ _=decide (((rk fx t (ledOf ys) (ys.getD i 0):Nat):Int) > ((rk fx t (ledOf ys) (ys.getD j 0):Nat):Int))
      rw[List.getD_eq_getElem?_getD,List.getD_eq_getElem?_getD,a1,b1]
      exact rank_lex ok t _ b a
     ·obtain⟨p',y,a1,a2,a3⟩:=hvs j (.ref p) (by rw[List.getElem?_map,hj];rfl)
      injection a2 with a2
      subst a2
      refine hR _ _ ⟨p,j,y,rfl,sm,a1,fun o ho=>?_,a3⟩
      obtain⟨m,hm,em⟩:=List.mem_iff_getElem.mp ho
      have:((rk fx t (ledOf ys) (ys.getD m 0):Nat):Int)≤((rk fx t (ledOf ys) (ys.getD j 0):Nat):Int):=hmax m (by rw[hvl];exact hm)
      rw[List.getD_eq_getElem?_getD,List.getD_eq_getElem?_getD,a1,List.getElem?_eq_getElem hm,em] at this
      have t2:((rk fx t (ledOf ys) o:Nat):Int)≤((rk fx t (ledOf ys) y:Nat):Int):=this
      omega
   obtain⟨p,j,y,rfl,s6,hj,hmx,hp6⟩:=z
   have hL6:=s6 _ _ hL4
   refine set_nm (fun v H7=>∃ l,v = .ref l∧Same H6 H7∧H7 l=some (.lst (vN (topL fx t ys mid)))∧H6 l=none) (fun R hR=>?_) (fun v H7 z=>?_)
   ·refine⟨_,rfl,l4,rfl,⟨_,SqL.of hL6⟩,comp_list (K:=K) (xs:=vN (mid)) (gtV fx t (ledOf ys) (rk fx t (ledOf ys) y)) (fun x=>x) (SqL.of hL6) (fits3 _ (by rw[vN_len];omega)) (fun x H7 hx sm R hR=>?_) (fun x H3 hx hp sm R hR=>⟨_,rfl,hR H3 (Same.refl H3)⟩) (fun l H7 sm hl hL=>hR _ _ ⟨l,rfl,sm,by rw[hL,gtV_list,top_eq ok hj hmx],hl⟩)⟩
    obtain⟨c,hc,rfl⟩:=List.mem_map.mp hx
    have cin:c∈cs:=msub c hc
    refine⟨_,rfl,_,rfl,_,rfl,d,fx,t,sz,c,ledOf ys,rfl,ok,(hRt4.same s6).same sm,(B.cs8 c cin).2,c32 c cin,fun p8 H8 s8 hp8=>?_⟩
    have z:=hR H8 s8
    refine⟨_,rfl,p8,p,_,_,rfl,rfl,SqT.of hp8,SqT.of (s8 _ _ (sm _ _ hp6)),_,rfl,?_⟩
    have e:gtV fx t (ledOf ys) (rk fx t (ledOf ys) y) (.int (c:Nat))=HT.lexLt (rankL fx t (ledOf ys) y) (rankL fx t (ledOf ys) c):=by
     rw[gtV_nat,rank_lex ok]
     exact decide_eq_decide.mpr ⟨fun h=>by omega,fun h=>by omega⟩
    rw[e] at z
    exact z
   obtain⟨l7,rfl,s7,hL7,nl7⟩:=z
   have s67:=(s4.trans s6).trans s7
   have ea:alw fx.d fx t ys cs=orL (topL fx t ys mid) mid:=by
    rw[emid,d3]
    rfl
   refine⟨_,rfl,fits3 0 (by decide),fun lq hlq=>?_⟩
   have aq:=same_upd hlq (.lst [])
   refine⟨l7,lq,_,rfl,rfl,SqL.of (aq _ _ hL7),SqL.of upd_same,_,rfl,chg (congrArg (fun b=>!b) (vN_nil _)) ?_⟩
   generalize upd H7 lq (.lst [])=Hq at aq ⊢
   by_cases t0:topL fx t ys mid=[]
   ·rw[decide_eq_true t0]
    refine iteF (nx _ _ ⟨s67.trans aq,l4,_,_,_,rfl,nl4,?_⟩)
    rw[aq _ _ (s7 _ _ hL6),ea,orL_e t0]
   ·rw[decide_eq_false t0]
    refine iteT ⟨_,rfl,nx _ _ ⟨s67.trans aq,l7,_,_,_,rfl,(s4.trans s6).free nl7,?_⟩⟩
    rw[aq _ _ hL7,ea,orL_n t0]
  ·rw[decide_eq_false d3]
   refine iteF (nx _ _ ⟨s4,l4,_,_,_,rfl,nl4,?_⟩)
   rw[hL4,emid]
   by_cases d0:fx.d=0
   ·rw[if_pos d0,d0]
    rfl
   ·rw[if_neg d0,alw_mid fx.d d0 d3]
 obtain⟨s5,l5,x5,x6,x7,rfl,nl5,hL5⟩:=z
 exact⟨_,rfl,q l5 H5 s5 nl5 (by rw[if_neg y0];exact hL5)⟩
end
end My
namespace My
open PySem L2
theorem chunks(ls:List Nat)(sz:Nat):∀ n,((List.range n).map fun j=>(ls.drop (sz * j)).take sz).flatten=ls.take (sz * n)
 | 0=>by simp
 | n+1=>by
  rw[List.range_succ,List.map_append,List.flatten_append,chunks ls sz n,Nat.mul_succ,List.take_add]
  simp
theorem flat_perm:∀(css:List (List Nat)) (F:Nat→List Nat),(∀(j:Nat) (cs:List Nat),css[j]? = some cs→cs.Perm (F j))→css.flatten.Perm ((List.range css.length).map F).flatten
 | [],_,_=>by simp
 | c :: r,F,h=>by
  rw[List.length_cons,List.range_succ_eq_map,List.map_cons,List.flatten_cons,List.flatten_cons,List.map_map]
  exact(h 0 c rfl).append (flat_perm r (F ∘ Nat.succ) fun j cs e=>h (j+1) cs e)
structure DealOk(f:Fx)(sz:Nat)(css:List (List Nat)):Prop where
 len:css.length=f.n
 each:∀ cs∈css,cs.length=sz
 nd:css.flatten.Nodup
 pk:∀ c∈css.flatten,c / 8 < f.s∧c % 8 < f.h
 up:∀ cs∈css,cs.Pairwise (·≤·)
theorem pack_nd:∀ s≤4,∀ h≤8,(packL s h).Nodup:=by decide +kernel
theorem pack_length(s h:Nat):(packL s h).length=s * h:=by
 unfold packL
 induction s with
 | zero=>simp
 | succ s ih=>rw[List.range_succ,List.flatMap_append,List.length_append,ih];simp [Nat.succ_mul]
theorem perm_nd:∀{a b:List Nat},a.Nodup→b.Nodup→(∀ x,x∈a↔x∈b)→a.length=b.length
 | [],b,_,_,h=>by
  cases b with
  | nil=>rfl
  | cons x r=>exact absurd ((h x).mpr List.mem_cons_self) List.not_mem_nil
 | x :: a,b,ha,hb,h=>by
  have hx:x∈b:=(h x).mp List.mem_cons_self
  obtain⟨na,ha'⟩:=List.nodup_cons.mp ha
  have e:=perm_nd (a:=a) (b:=b.erase x) ha' (hb.erase x) fun y=>by
   rw[hb.mem_erase_iff]
   constructor
   ·exact fun hy=>⟨fun z=>na (z ▸ hy),(h y).mp (List.mem_cons_of_mem _ hy)⟩
   ·rintro⟨n,hy⟩
    exact(List.mem_cons.mp ((h y).mpr hy)).resolve_left n
  rw[List.length_cons,e,List.length_erase_of_mem hx]
  have:=List.length_pos_of_mem hx
  omega
theorem pc_hN{cs:List Nat}(nd:cs.Nodup)(h:∀ c∈cs,c < 32):pcK 32 (hN cs)=cs.length:=
 perm_nd (List.Pairwise.filter _ List.nodup_range) nd fun x=>hN_cards h x
theorem count_flat(b:Nat):∀(css:List (List Nat)),(css.map hN).countP (fun h=>h.testBit b)≤css.flatten.count b
 | []=>Nat.zero_le _
 | c :: r=>by
  have ih:=count_flat b r
  rw[List.map_cons,List.countP_cons,List.flatten_cons,List.count_append,hN_bit]
  by_cases e:b∈c
  ·have:=List.count_pos_iff.mpr e
   rw[decide_eq_true e,if_pos rfl]
   omega
  ·rw[decide_eq_false e,if_neg Bool.false_ne_true]
   omega
theorem DealOk.nd1{f:Fx}{sz:Nat}{css:List (List Nat)}(D:DealOk f sz css){cs:List Nat}(h:cs∈css):cs.Nodup:=(List.pairwise_flatten.mp D.nd).1 cs h
theorem DealOk.c32{f:Fx}{sz:Nat}{css:List (List Nat)}(ok:f.Ok)(D:DealOk f sz css){cs:List Nat}(h:cs∈css):∀ c∈cs,c < 32:=fun c hc=>by
 have:=D.pk c (List.mem_flatten.mpr ⟨cs,h,hc⟩)
 have:=ok.s4
 have:=ok.h8
 omega
theorem DealOk.plc{f:Fx}{sz:Nat}{css:List (List Nat)}(ok:f.Ok)(D:DealOk f sz css){lead:Nat}(hl:lead < f.n):Plc f (css.map hN) lead [] sz:=by
 have c1:∀ b,cntB (css.map hN) [] b≤css.flatten.count b:=fun b=>by
  unfold cntB
  rw[List.count_nil]
  exact count_flat b css
 refine⟨by rw[List.length_map];exact D.len,hl,by show 0 < f.n;omega,fun b=>Nat.le_trans (c1 b) (List.nodup_iff_count.mp D.nd b),fun b hb=>D.pk b (List.count_pos_iff.mp (Nat.lt_of_lt_of_le hb (c1 b))),fun i h e=>?_⟩
 rw[List.getElem?_map] at e
 obtain⟨cs,e1,rfl⟩:=Option.map_eq_some_iff.mp e
 have m:=List.mem_of_getElem? e1
 show pcK 32 (hN cs)+(if off f.n lead i < 0 then 1 else 0)=sz
 rw[pc_hN (D.nd1 m) (D.c32 ok m),if_neg (Nat.not_lt_zero _),D.each cs m,Nat.add_zero]
end My
namespace My
open PySem L2
abbrev sLTurn:Stmt:=top 51
abbrev sLPut:Stmt:=top 52
section
variable{P:Program}{w:World}{K:PySem.W.Frag}{mg:Str→Option Value}{base:Heap}{f g:Addr}{fd gd:FuncData}
def IsDl(H:Hp)(as:List Addr)(css:List (List Nat)):Prop:=as.length=css.length∧∀(j:Nat) (a:Addr),as[j]? = some a→∃ cs,css[j]? = some cs∧H a=some (.lst (vN cs))
theorem IsDl.same{H H':Hp}{as:List Addr}{css:List (List Nat)}(h:IsDl H as css)(s:Same H H'):IsDl H' as css:=⟨h.1,fun j a e=>let ⟨cs,x,y⟩:=h.2 j a e;⟨cs,x,s _ _ y⟩⟩
def IsSt(H:Hp)(st:Addr)(css:List (List Nat))(lead:Nat)(ys:List Nat):Prop:=∃(lc lt:Addr) (as:List Addr),H st=some (.tup [.ref lc,.int (lead:Nat),.ref lt])∧H lc=some (.lst (as.map V.ref))∧IsDl H as css∧H lt=some (.lst (vN ys))
theorem IsSt.same{H H':Hp}{st:Addr}{css:List (List Nat)}{lead:Nat}{ys:List Nat}(h:IsSt H st css lead ys)(s:Same H H'):IsSt H' st css lead ys:=by
 obtain⟨lc,lt,as,a,b,c,d⟩:=h
 exact⟨lc,lt,as,s _ _ a,s _ _ b,c.same s,s _ _ d⟩
def IsStN(B H:Hp)(st:Addr)(css:List (List Nat))(lead:Nat)(ys:List Nat):Prop:=∃(lc lt:Addr) (as:List Addr),H st=some (.tup [.ref lc,.int (lead:Nat),.ref lt])∧H lc=some (.lst (as.map V.ref))∧IsDl H as css∧H lt=some (.lst (vN ys))∧B st=none∧B lc=none∧B lt=none∧∀ a∈as,B a=none
theorem IsStN.is{B H:Hp}{st:Addr}{css:List (List Nat)}{lead:Nat}{ys:List Nat}(h:IsStN B H st css lead ys):IsSt H st css lead ys:=by
 obtain⟨lc,lt,as,a,b,c,d,_⟩:=h
 exact⟨lc,lt,as,a,b,c,d⟩
structure StOk(f:Fx)(css:List (List Nat))(lead:Nat)(ys:List Nat)(m:Nat):Prop where
 plc:Plc f (css.map hN) lead ys m
 up:∀ cs∈css,cs.Pairwise (· < ·)
section
variable{fx:Fx}{css:List (List Nat)}{lead m:Nat}{ys cs:List Nat}
theorem StOk.nd(S:StOk fx css lead ys m):∀ cs∈css,cs.Nodup:=fun cs h=>(S.up cs h).imp fun {a b} l e=>by omega
theorem StOk.len(S:StOk fx css lead ys m):css.length=fx.n:=by have:=S.plc.len;rw[List.length_map] at this;exact this
theorem StOk.pk(S:StOk fx css lead ys m)(h:cs∈css){c:Nat}(hc:c∈cs):c / 8 < fx.s∧c % 8 < fx.h:=
 S.plc.pk c (cnt_hand (ys:=ys) (List.mem_map.mpr ⟨cs,h,rfl⟩) (by rw[hN_bit];exact decide_eq_true hc))
theorem StOk.c32(ok:fx.Ok)(S:StOk fx css lead ys m)(h:cs∈css):∀ c∈cs,c < 32:=fun c hc=>by
 have:=S.pk h hc
 have:=ok.s4
 have:=ok.h8
 omega
theorem StOk.cl(ok:fx.Ok)(S:StOk fx css lead ys m)(h:cs∈css):cs.length≤32∧cs.length=pcK 32 (hN cs):=by
 have e:=pc_hN (S.nd cs h) (S.c32 ok h)
 have:pcK 32 (hN cs)≤32:=by
  unfold pcK
  have:=List.length_filter_le (fun b=>(hN cs).testBit b) (List.range 32)
  rw[List.length_range] at this
  exact this
 omega
theorem StOk.turn(ok:fx.Ok)(S:StOk fx css lead ys m):∃ cs,css[(lead+ys.length) % fx.n]? = some cs∧cs.length=m:=by
 obtain⟨h,e1,e2⟩:=S.plc.turn ok
 rw[List.getElem?_map] at e1
 obtain⟨cs,e3,rfl⟩:=Option.map_eq_some_iff.mp e1
 exact⟨cs,e3,by rw[(S.cl ok (List.mem_of_getElem? e3)).2,e2]⟩
theorem hN_less{cs:List Nat}{c:Nat}(h:c∈cs):hN (cs.filter fun o=>decide (o≠c))=hN cs ^^^ 2 ^ c:=Nat.eq_of_testBit_eq fun b=>by
 rw[hN_bit,xor_bit _ _ _ (by rw[hN_bit];exact decide_eq_true h),hN_bit]
 by_cases e:c=b
 ·subst e
  rw[decide_eq_true rfl]
  exact decide_eq_false (fun z=>absurd (of_decide_eq_true (List.mem_filter.mp z).2) (fun n=>n rfl))
 ·rw[decide_eq_false e,Bool.not_false,Bool.true_and]
  refine decide_eq_decide.mpr ⟨fun z=>(List.mem_filter.mp z).1,fun z=>List.mem_filter.mpr ⟨z,decide_eq_true (Ne.symm e)⟩⟩
theorem StOk.put(ok:fx.Ok){t:Option Nat}{c lead':Nat}{ys':List Nat}{tk:Option Nat}(S:StOk fx css lead ys m)(ec:css[(lead+ys.length) % fx.n]? = some cs)(hc:c∈cs)(N:Nxt fx t (css.map hN) lead ys (hN cs) c ((css.set ((lead+ys.length) % fx.n) (cs.filter fun o=>decide (o≠c))).map hN) lead' ys' tk) :
  ∃ m',StOk fx (css.set ((lead+ys.length) % fx.n) (cs.filter fun o=>decide (o≠c))) lead' ys' m'∧0 < m∧((tk=none∧m'=m∧lead'=lead∧ys'=ys++[c]∧ys.length+1 < fx.n)∨(tk=some lead'∧m'+1=m∧ys'=[]∧lead' < fx.n))∧0 < m:=by
 have eh:(css.map hN)[(lead+ys.length) % fx.n]? = some (hN cs):=by rw[List.getElem?_map,ec];rfl
 have hb:(hN cs).testBit c=true:=by rw[hN_bit];exact decide_eq_true hc
 obtain⟨m',P',_,_,m0,alt⟩:=N.plc ok S.plc eh hb
 refine⟨m',⟨P',fun cs' h=>?_⟩,m0,alt,m0⟩
 rcases List.mem_or_eq_of_mem_set h with z | z
 ·exact S.up cs' z
 ·rw[z]
  exact(S.up cs (List.mem_of_getElem? ec)).filter _
end
def spLTurn:Sp:=fun vs H Q _=>∃(st:Addr) (css:List (List Nat)) (lead:Nat) (ys:List Nat),vs=[.ref st]∧IsSt H st css lead ys∧0 < css.length∧Q (.int (((lead+ys.length) % css.length:Nat):Int)) H
abbrev pLTurn:List Str:=["_law_state_here"]
theorem scLTurn:FnScope pLTurn pLTurn (defScope sLTurn):=⟨rfl,rfl,rfl,by decide +kernel,rfl,by decide +kernel,by decide +kernel⟩
theorem ok_lturn{k:Nat}(F:Fun K "_law_turn" "_law_turn" sLTurn f fd)(ml:mg "len" = none):FnOk P w K mg base CX0 (k+1) f fd pLTurn spLTurn:=by
 refine F.ok scLTurn (fun vs H Q E h=>?_) (fun cdv A outer s H vs Q E hr h=>?_)
 ·obtain⟨st,css,lead,ys,rfl,_⟩:=h
  rfl
 obtain⟨st,css,lead,ys,rfl,⟨lc,lt,as,h1,h2,h3,h4⟩,n0,q⟩:=h
 refine⟨_,pss_one (ps_ret (pe_op op_mod (pe_op op_add (pe_ix ix_tup (pv 0) pe_int (fun _ _=>rfl)) (pe_callB call_len_seq rfl ml PySem.boot_len (pa_cons (pe_ix ix_tup (pv 0) pe_int (fun _ _=>rfl)) pa_nil))) (pe_callB call_len_seq rfl ml PySem.boot_len (pa_cons (pe_ix ix_tup (pv 0) pe_int (fun _ _=>rfl)) pa_nil)))),?_⟩
 refine⟨_,rfl,st,_,_,_,rfl,rfl,SqT.of h1,(rfl:atI [V.ref lc,V.int (lead:Nat),V.ref lt] 1=some (V.int (lead:Nat))),_,rfl,st,_,_,_,rfl,rfl,SqT.of h1,(rfl:atI [V.ref lc,V.int (lead:Nat),V.ref lt] 2=some (V.ref lt)),lt,_,rfl,.inl (SqL.of h4),_,_,rfl,rfl,_,rfl,st,_,_,_,rfl,rfl,SqT.of h1,(rfl:atI [V.ref lc,V.int (lead:Nat),V.ref lt] 0=some (V.ref lc)),lc,_,rfl,.inl (SqL.of h2),_,_,rfl,rfl,(by show(0:Int) < (((as.map V.ref).length:Nat):Int);rw[List.length_map,h3.1];omega),?_⟩
 have e:(((lead:Nat):Int)+(((vN ys).length:Nat):Int)) % (((as.map V.ref).length:Nat):Int)=(((lead+ys.length) % css.length:Nat):Int):=by
  rw[vN_len,List.length_map,h3.1]
  rfl
 show Q (.int ((((lead:Nat):Int)+(((vN ys).length:Nat):Int)) % (((as.map V.ref).length:Nat):Int))) H
 rw[e]
 exact q
def spLPut:Sp:=fun vs H Q _=>∃(d st:Addr) (f:Fx) (t:Option Nat) (sz:Nat) (css:List (List Nat)) (lead m:Nat) (ys cs:List Nat) (c:Nat),vs=[.ref d,.ref st,.int (c:Nat)]∧f.Ok∧IsRt H d f t sz∧IsSt H st css lead ys∧StOk f css lead ys m∧css[(lead+ys.length) % f.n]? = some cs∧c∈cs ∧
 ∀ r st' lead' ys' tk H',Same H H'→H' r=some (.tup [.ref st',tkV tk])→IsStN H H' st' (css.set ((lead+ys.length) % f.n) (cs.filter fun o=>decide (o≠c))) lead' ys'→Nxt f t (css.map hN) lead ys (hN cs) c ((css.set ((lead+ys.length) % f.n) (cs.filter fun o=>decide (o≠c))).map hN) lead' ys' tk→Q (.ref r) H'
abbrev pLPut:List Str:=["_law_rules_here","_law_state_here","_law_card"]
abbrev nLPut:List Str:=["_law_rules_here","_law_state_here","_law_card","_law_hands","_law_lead","_law_trick","_law_seat","_law_later","_law_led","_law_strengths","_law_taker"]
theorem scLPut:FnScope nLPut pLPut (defScope sLPut):=⟨rfl,rfl,rfl,by decide +kernel,rfl,by decide +kernel,by decide +kernel⟩
abbrev nC1:List Str:=["_law_k","_law_hands","_law_seat","_law_card"]
abbrev nC2:List Str:=["_law_one","_law_k","_law_seat","_law_card"]
abbrev nC3:List Str:=["_law_one","_law_rules_here","_law_led"]
def cPut:Scope:=match defBody sLPut with
 | [_,_,.Assign _ (.ListComp _ _ sc _) _,_,_,_,_,_,_]=>sc
 | _=>defScope sLPut
def keepV(i seat c:Nat)(x:V):Bool:=match x with | .int o=>decide (i≠seat) || decide (o≠((c:Nat):Int)) | _=>false
theorem keepV_list(i seat c:Nat)(cs:List Nat):(((vN cs).filter (keepV i seat c)).map fun x=>x)=vN (cs.filter fun o=>decide (i≠seat) || decide (o≠c)):=by
 rw[List.map_id']
 unfold vN
 rw[List.filter_map]
 refine congrArg _ (List.filter_congr fun o _=>?_)
 show(decide (i≠seat) || decide (((o:Nat):Int)≠((c:Nat):Int)))=_
 have:decide (((o:Nat):Int)≠((c:Nat):Int))=decide (o≠c):=decide_eq_decide.mpr ⟨fun h=>by omega,fun h=>by omega⟩
 rw[this]
theorem refs_of{vs:List V}(h:∀(j:Nat) (v:V),vs[j]? = some v→∃ p:Addr,v = .ref p):∃ ps:List Addr,vs=ps.map V.ref:=by
 refine⟨vs.map fun v=>match v with | .ref a=>a | _=>0,?_⟩
 rw[List.map_map]
 apply List.ext_getElem?
 intro j
 rw[List.getElem?_map]
 cases e:vs[j]? with
 | none=>rfl
 | some v=>
  obtain⟨p,rfl⟩:=h j v e
  rfl
theorem ok_lput{k:Nat}{f1 f2:Addr}{d1 d2:FuncData}(F:Fun K "_law_put" "_law_put" sLPut f fd)(LT:Lib P w K mg base k "_law_turn" pLTurn spLTurn f1 d1)(LR:Lib P w K mg base k "_law_strength" pRank spRank f2 d2)(ml:mg "len" = none)(mr:mg "range" = none)(mM:mg "max" = none):FnOk P w K mg base CX0 (k+1) f fd pLPut spLPut:=by
 refine F.ok scLPut (fun vs H Q E h=>?_) (fun cdv A outer s H vs Q E hr h=>?_)
 ·obtain⟨d,st,fx,t,sz,css,lead,m,ys,cs,c,rfl,_⟩:=h
  rfl
 obtain⟨d,st,fx,t,sz,css,lead,m,ys,cs,c,rfl,ok,hRt,hSt,S,ec,hc,q⟩:=h
 refine⟨_,pss_cons (ps_asg (pv 1) (pg_tup rfl (pgs_cons (pg_name (i:=3) scLPut.nd rfl (Or.inr rfl)) (pgs_cons (pg_name (i:=4) scLPut.nd rfl (Or.inl rfl)) (pgs_cons (pg_name (i:=5) scLPut.nd rfl (Or.inl rfl)) pgs_nil)))))
  (pss_cons (ps_set (i:=6) scLPut.nd rfl (Or.inr rfl) (pe_call LT.ok hr rfl LT.mg LT.kp LT.bd .nil pass0 (pa_cons (pv 1) pa_nil)))
  (pss_cons (ps_setcompC (i:=7) nC1 [none,some 3,some 6,some 2] rfl scLPut.nd rfl (Or.inl rfl) (BlkC.by (sc:=defScope sLPut) (N0:=nLPut) rfl rfl (by decide +kernel)) (pi_range1 rfl mr (pa_cons (pe_callB call_len_seq rfl ml PySem.boot_len (pa_cons (pv 3) pa_nil)) pa_nil)) (fun C s₀ H₀ ex=>pg_name (i:=0) (show nC1.Nodup by decide +kernel) rfl (Or.inr rfl)) (fun C s₀ H₀ ex=>pf_nil)
   (fun C s₀ H₀ ex=>pe_comp nC2 [none,some 0,some 2,some 3] rfl (Blk.by (sc:=relS cPut (defScope sLPut)) (N0:=nC1) rfl rfl (by decide +kernel)) (pi_listK K rfl (pe_ix (show IxR _ (rIxL K) from ix_list) (pv 1) (pv 0) (fun _ _=>rfl))) (fun C s₀ H₀ ex=>pg_name (i:=0) (show nC2.Nodup by decide +kernel) rfl (Or.inl rfl))
    (fun C s₀ H₀ ex=>pf_one (PW.pt (pw_or (pt_cmpR op_ne (pv 1) (pv 2) (nomark _)) (pw_or1 (pt_cmpR op_ne (pv 0) (pv 3) (nomark _)))))) (fun C s₀ H₀ ex=>pv 0)))
  (pss_cons (ps_set (i:=5) scLPut.nd rfl (Or.inl rfl) (pe_op op_cat (pv 5) (pe_lst (pa_cons (pv 2) pa_nil))))
  (pss_cons (ps_if (pt_cmpR op_lt (pe_callB call_len_seq rfl ml PySem.boot_len (pa_cons (pv 5) pa_nil)) (pe_callB call_len_seq rfl ml PySem.boot_len (pa_cons (pv 3) pa_nil)) (nomark _))
   (pss_one (ps_ret (pe_tup (pa_cons (pe_tup (pa_cons (pv 7) (pa_cons (pv 4) (pa_cons (pv 5) pa_nil)))) (pa_cons pe_non pa_nil))))) pss_nil)
  (pss_cons (ps_set (i:=8) scLPut.nd rfl (Or.inr rfl) (pe_op op_fdiv (pe_ix ix_list (pv 5) pe_int (fun _ _=>rfl)) pe_int))
  (pss_cons (ps_setcomp (i:=9) nC3 [none,some 0,some 8] rfl scLPut.nd rfl (Or.inl rfl) (Blk.by (sc:=defScope sLPut) (N0:=nLPut) rfl rfl (by decide +kernel)) (pi_list (pv 5)) (fun C s₀ H₀ ex=>pg_name (i:=0) (show nC3.Nodup by decide +kernel) rfl (Or.inl rfl)) (fun C s₀ H₀ ex=>pf_nil)
   (fun C s₀ H₀ ex=>pe_call LR.ok hr rfl LR.mg LR.kp LR.bd .nil pass0 (pa_cons (pv 1) (pa_cons (pv 0) (pa_cons (pv 2) pa_nil)))))
  (pss_cons (ps_set (i:=10) scLPut.nd rfl (Or.inl rfl) (pe_op op_mod (pe_op op_add (pv 4) (pe_bm PySem.F.plainAttrs_list PySem.F.slot_list_index PySem.F.type_list_index (mt_indexT hr.units) (pv 9) (pa_cons (pe_callB (call_maxT rfl hr.units) rfl mM PyProof.Rows.boot_max (pa_cons (pv 9) pa_nil)) pa_nil))) (pe_callB call_len_seq rfl ml PySem.boot_len (pa_cons (pv 3) pa_nil))))
  (pss_one (ps_ret (pe_tup (pa_cons (pe_tup (pa_cons (pv 7) (pa_cons (pv 10) (pa_cons (pe_lst pa_nil) pa_nil)))) (pa_cons (pv 10) pa_nil)))))))))))),?_⟩
 have n4:fx.n≤4:=by rcases ok.n34 with e | e<;>omega
 have n0:0 < fx.n:=by rcases ok.n34 with e | e<;>omega
 have hlen:=S.len
 have yl:=S.plc.yl
 obtain⟨lc,lt,as,h1,h2,h3,h4⟩:=id hSt
 have al:as.length=fx.n:=h3.1.trans hlen
 have sl:(lead+ys.length) % fx.n < fx.n:=seat_lt ok _ _
 have cm:=List.mem_of_getElem? ec
 have eh:(css.map hN)[(lead+ys.length) % fx.n]? = some (hN cs):=by rw[List.getElem?_map,ec];rfl
 have hb:(hN cs).testBit c=true:=by rw[hN_bit];exact decide_eq_true hc
 refine⟨_,rfl,st,_,rfl,SqT.of h1,rfl,_,_,rfl,_,_,rfl,_,_,rfl,rfl,?_⟩
 refine nxE ?_
 refine set_nm (fun v H1=>H1=H∧v = .int (((lead+ys.length) % fx.n:Nat):Int)) (fun R hR=>⟨_,rfl,st,css,lead,ys,rfl,hSt,by omega,hR _ _ ⟨rfl,by rw[hlen]⟩⟩) (fun v H1 z=>?_)
 obtain⟨rfl,rfl⟩:=z
 generalize eseat:(lead+ys.length) % fx.n=seat at *
 refine set_nm (fun v H2=>∃(l:Addr) (bs:List Addr),v = .ref l∧Same H1 H2∧H2 l=some (.lst (bs.map V.ref))∧IsDl H2 bs (css.set seat (cs.filter fun o=>decide (o≠c)))∧H1 l=none∧∀ b∈bs,H1 b=none) (fun R hR=>?_) (fun v H2 z=>?_)
 ·refine⟨_,rfl,lc,_,rfl,.inl (SqL.of h2),(((as.map V.ref).length:Nat):Int),rfl,by omega,by rw[List.length_map];omega,?_⟩
  refine comp_someJ (J:=Itr 0 (as.map V.ref).length) (as.map V.ref).length (fun i=>.int (0+((i:Nat):Int))) (fun l i v H=>∃(a:Addr) (ds:List Nat),css[i]? = some ds∧v = .ref a∧a≠l∧H a=some (.lst (vN (ds.filter fun o=>decide (i≠seat) || decide (o≠c))))∧H1 a=none) (fits3 _ (by rw[List.length_map];omega)) (fun i H _ hi=>hi) (fun H _=>Nat.le_refl _) (fun i H x H' _ _ y=>y) (fun l i v H H' g sm=>?_) (fun l i v H xs zs g hl=>?_) (fun i H3 l vs hi sm hl hL R hR=>?_) (fun l H3 vs sm hl hL hvl hvs=>?_)
  ·obtain⟨a,ds,g1,g2,g3,g4,g5⟩:=g
   exact⟨a,ds,g1,g2,g3,sm _ _ g4,g5⟩
  ·obtain⟨a,ds,g1,g2,g3,g4,g5⟩:=g
   exact⟨a,ds,g1,g2,g3,by rw[upd_ne g3];exact g4,g5⟩
  ·rw[List.length_map] at hi
   obtain⟨ds,hd1,hd2⟩:=h3.2 i as[i] (List.getElem?_eq_getElem hi)
   have dm:=List.mem_of_getElem? hd1
   have dl:=(S.cl ok dm).1
   refine⟨_,rfl,_,rfl,lc,_,_,_,rfl,rfl,SqL.of (sm _ _ h2),(by rw[Int.zero_add];exact atI_nat (by rw[List.getElem?_map,List.getElem?_eq_getElem hi];rfl):atI (as.map V.ref) (0+((i:Nat):Int))=some (V.ref as[i])),as[i],rfl,⟨_,SqL.of (sm _ _ hd2)⟩,?_⟩
   refine comp_list (K:=K) (xs:=vN ds) (keepV i seat c) (fun x=>x) (SqL.of (sm _ _ hd2)) (fits3 _ (by rw[vN_len];omega)) (fun x H4 hx s4 R hR=>?_) (fun x H4 hx hp s4 R hR=>⟨_,rfl,hR H4 (Same.refl H4)⟩) (fun l4 H4 s4 hl4 hL4=>hR _ _ s4 ⟨l4,ds,hd1,rfl,fun z=>?_,by rw[hL4,keepV_list],sm.free hl4⟩)
   ·obtain⟨o,ho,rfl⟩:=List.mem_map.mp hx
    have e1:(!decide (V.int (0+((i:Nat):Int))=V.int ((seat:Nat):Int)))=decide (i≠seat):=by
     rw[eq_int,← decide_not]
     exact decide_eq_decide.mpr ⟨fun h=>by omega,fun h=>by omega⟩
    have e2:(!decide (V.int ((o:Nat):Int)=V.int ((c:Nat):Int)))=decide (((o:Nat):Int)≠((c:Nat):Int)):=by
     rw[eq_int,← decide_not]
    have z:=hR H4 (Same.refl H4)
    have ek:keepV i seat c (V.int ((o:Nat):Int))=(decide (i≠seat) || decide (((o:Nat):Int)≠((c:Nat):Int))):=rfl
    rw[ek] at z
    refine⟨_,rfl,_,rfl,rfl,_,rfl,chg e1 ?_⟩
    by_cases hs:i=seat
    ·rw[decide_eq_false (fun n=>n hs)] at z ⊢
     refine iteF ⟨_,rfl,_,rfl,rfl,_,rfl,?_⟩
     rw[Bool.false_or,← e2] at z
     exact z
    ·rw[decide_eq_true hs] at z ⊢
     exact iteT z
   ·rw[z] at hl4
    rw[hL] at hl4
    cases hl4
  ·rw[List.length_map] at hvl
   obtain⟨bs,rfl⟩:=refs_of fun j v e=>let ⟨a,_,_,e2,_⟩:=hvs j v e;⟨a,e2⟩
   rw[List.length_map] at hvl
   refine hR _ _ ⟨l,bs,rfl,sm,hL,⟨by rw[List.length_set,hvl,h3.1],fun j b hj=>?_⟩,hl,fun b hb=>?_⟩
   rotate_left
   ·obtain⟨j,hj,ej⟩:=List.mem_iff_getElem.mp hb
    obtain⟨a,ds,g1,g2,_,g4,g5⟩:=hvs j (.ref b) (by rw[List.getElem?_map,List.getElem?_eq_getElem hj,ej];rfl)
    injection g2 with g2
    rw[g2]
    exact g5
   obtain⟨a,ds,g1,g2,_,g4,_⟩:=hvs j (.ref b) (by rw[List.getElem?_map,hj];rfl)
   injection g2 with g2
   subst g2
   refine⟨_,?_,g4⟩
   by_cases hs:j=seat
   ·subst hs
    rw[List.getElem?_set_self (List.getElem?_eq_some_iff.mp g1).1]
    rw[ec] at g1
    cases g1
    refine congrArg some (List.filter_congr fun o _=>?_)
    have ej:decide (j≠j)=false:=decide_eq_false (fun n=>n rfl)
    rw[ej,Bool.false_or]
   ·rw[List.getElem?_set_ne (Ne.symm hs),g1]
    refine congrArg some (List.filter_eq_self.mpr fun o _=>?_).symm
    rw[decide_eq_true hs,Bool.true_or]
 obtain⟨lr,bs,rfl,s2,hR2,hD2,nR,nB⟩:=z
 have eY:vN ys++[V.int (c:Nat)]=vN (ys++[c]):=by unfold vN;rw[List.map_append];rfl
 refine set_nm (fun v H3=>∃(l:Addr),v = .ref l∧Same H2 H3∧H3 l=some (.lst (vN (ys++[c])))∧H2 l=none) (fun R hR=>?_) (fun v H3 z=>?_)
 ·refine⟨_,rfl,_,rfl,fits3 1 (by decide),fun l hl=>⟨lt,l,_,_,rfl,rfl,same_upd hl _ _ _ (s2 _ _ h4),upd_same,fits3 _ (by rw[vN_len];show ys.length+1≤1000;omega),fun pn hpn=>hR _ _ ⟨pn,rfl,(same_upd hl _).trans (same_upd hpn _),by rw[upd_same,eY],(same_upd hl _).free hpn⟩⟩⟩
 obtain⟨lq,rfl,s3,hY3,nY⟩:=z
 have s13:=s2.trans s3
 have e3:decide (((((vN (ys++[c])).length:Nat)):Int) < (((as.map V.ref).length:Nat):Int))=decide (ys.length+1 < fx.n):=by
  rw[vN_len,List.length_append,List.length_singleton,List.length_map,al]
  exact decide_eq_decide.mpr ⟨fun h=>by omega,fun h=>by omega⟩
 refine⟨_,rfl,lq,_,rfl,.inl (SqL.of hY3),_,rfl,lc,_,rfl,.inl (SqL.of (s13 _ _ h2)),_,_,rfl,rfl,_,rfl,chg e3 ?_⟩
 have eset:(css.set seat (cs.filter fun o=>decide (o≠c))).map hN=(css.map hN).set seat (hN cs ^^^ 2 ^ c):=by rw[List.map_set,hN_less hc]
 by_cases cl:ys.length+1 < fx.n
 ·rw[decide_eq_true cl]
  refine iteT ⟨_,rfl,_,rfl,_,rfl,fits3 3 (by decide),fun p1 hp1=>⟨fits3 2 (by decide),fun p2 hp2=>?_⟩⟩
  have a1:=same_upd hp1 (.tup [.ref lr,.int (lead:Nat),.ref lq])
  have a2:=same_upd hp2 (.tup [.ref p1,.non])
  have a12:=a1.trans a2
  refine q p2 p1 lead (ys++[c]) none _ (s13.trans a12) upd_same ⟨lr,lq,bs,a2 _ _ upd_same,a12 _ _ (s3 _ _ hR2),(hD2.same s3).same a12,a12 _ _ hY3,s13.free hp1,nR,s2.free nY,nB⟩ ⟨by rw[eset,eseat],fun _=>⟨rfl,rfl,rfl⟩,fun z=>by omega⟩
 ·rw[decide_eq_false cl]
  refine iteF (nx_of ?_)
  have cl2:ys.length+1=fx.n:=by omega
  have T:Trk fx (ys++[c]):=⟨trk_nd S.plc (by rw[eseat];exact eh) hb,fun y hy=>by
   rcases List.mem_append.mp hy with z | z
   ·exact(S.plc.pk y (cnt_card z)).2
   ·rw[List.mem_singleton.mp z]
    exact(S.pk cm hc).2,by rw[List.length_append];exact Nat.succ_pos _⟩
  generalize ezs:ys++[c]=zs at *
  have zl:zs.length=fx.n:=by rw[← ezs,List.length_append,List.length_singleton];exact cl2
  have el:((zs.getD 0 0:Nat):Int) / 8=((ledOf zs:Nat):Int):=by unfold ledOf;omega
  have hRt3:=hRt.same s13
  have z32:∀ y∈zs,y < 32:=fun y hy=>by
   rw[← ezs] at hy
   rcases List.mem_append.mp hy with z | z
   ·exact S.plc.y32 ok z
   ·rw[List.mem_singleton.mp z]
    exact S.c32 ok cm c hc
  refine set_nm (fun v H4=>H3=H4∧v = .int ((ledOf zs:Nat):Int)) (fun R hR=>⟨_,rfl,lq,_,_,_,rfl,rfl,SqL.of hY3,at_vN (i:=0) T.ne,_,_,rfl,rfl,⟨by decide,by decide⟩,hR _ _ ⟨rfl,congrArg V.int el⟩⟩) (fun v H4 z=>?_)
  obtain⟨rfl,rfl⟩:=z
  refine set_nm (fun v H4=>∃(l:Addr) (ps:List Addr),v = .ref l∧Same H3 H4∧TupL K H4 l ps (zs.map (rankL fx t (ledOf zs)))∧ps.length=zs.length) (fun R hR=>?_) (fun v H4 z=>?_)
  ·refine⟨_,rfl,lq,rfl,⟨_,SqL.of hY3⟩,comp_someL (K:=K) (xs:=vN zs) (fun _ i v H=>∃(p:Addr) (y:Nat),zs[i]? = some y∧v = .ref p∧H p=some (.tup ((rankL fx t (ledOf zs) y).map V.int))) (SqL.of hY3) (fits3 _ (by rw[vN_len];omega)) (fun l i v H H' g sm=>?_) (fun l i v H xs zs g hl=>?_) (fun i x H5 l vs hx sm hl hL R hR=>?_) (fun l H5 vs sm hl hL hvl hvs=>?_)⟩
   ·obtain⟨p,y,a1,a2,a3⟩:=g
    exact⟨p,y,a1,a2,sm _ _ a3⟩
   ·obtain⟨p,y,a1,a2,a3⟩:=g
    exact⟨p,y,a1,a2,by rw[upd_ne (ne_of a3 hl (fun z=>nomatch z))];exact a3⟩
   ·obtain⟨y,hy,rfl⟩:=vN_get hx
    exact⟨_,rfl,_,rfl,_,rfl,d,fx,t,sz,y,ledOf zs,rfl,ok,hRt3.same sm,T.ht y (List.mem_of_getElem? hy),z32 y (List.mem_of_getElem? hy),fun p H6 s6 hp6=>hR _ _ s6 ⟨p,y,hy,rfl,hp6⟩⟩
   ·rw[vN_len] at hvl
    obtain⟨ps,rfl⟩:=refs_of fun j v e=>let ⟨a,_,_,e2,_⟩:=hvs j v e;⟨a,e2⟩
    rw[List.length_map] at hvl
    refine hR _ _ ⟨l,ps,rfl,sm,⟨SqL.of hL,by rw[List.length_map];exact hvl,fun j p hj=>?_⟩,hvl⟩
    obtain⟨p',y,a1,a2,a3⟩:=hvs j (.ref p) (by rw[List.getElem?_map,hj];rfl)
    injection a2 with a2
    subst a2
    exact⟨_,by rw[List.getElem?_map,a1];rfl,a3⟩
  obtain⟨lk,ps,rfl,s4,hT4,pl4⟩:=z
  have s14:=s13.trans s4
  refine set_nm (fun v H5=>H5=H4∧∃ i,Win fx t (ledOf zs) zs i∧v = .int (((lead+i) % fx.n:Nat):Int)) (fun R hR=>?_) (fun v H5 z=>?_)
  ·refine⟨_,rfl,_,rfl,.inl ⟨rfl,_,hT4.1⟩,_,rfl,lk,ps,_,(fun i=>((rk fx t (ledOf zs) (zs.getD i 0):Nat):Int)),rfl,hT4,by omega,fun i j ns ms hi hj=>?_,fun j p hj hmax=>?_⟩
   ·rw[List.getElem?_map] at hi hj
    obtain⟨a,a1,rfl⟩:=Option.map_eq_some_iff.mp hi
    obtain⟨b,b1,rfl⟩:=Option.map_eq_some_iff.mp hj
    show HT.lexLt _ _=decide (((rk fx t (ledOf zs) (zs.getD i 0):Nat):Int) > ((rk fx t (ledOf zs) (zs.getD j 0):Nat):Int))
    rw[List.getD_eq_getElem?_getD,List.getD_eq_getElem?_getD,a1,b1]
    exact rank_lex ok t _ b a
   ·have jl:j < zs.length:=by rw[← pl4];exact(List.getElem?_eq_some_iff.mp hj).1
    have at_:∀ i,i < zs.length→zs[i]? = some (zs.getD i 0):=fun i hi=>by rw[List.getD_eq_getElem?_getD,List.getElem?_eq_getElem hi];rfl
    have hm:∀ i,i < zs.length→rk fx t (ledOf zs) (zs.getD i 0)≤rk fx t (ledOf zs) (zs.getD j 0):=fun i hi=>by
     have:=hmax i (by rw[pl4];exact hi)
     have t2:((rk fx t (ledOf zs) (zs.getD i 0):Nat):Int)≤((rk fx t (ledOf zs) (zs.getD j 0):Nat):Int):=this
     omega
    have W:=win_of ok T jl hm
    obtain⟨ks,hk1,hk2⟩:=hT4.2.2 j p hj
    have hks:ks=rankL fx t (ledOf zs) (zs.getD j 0):=by
     rw[List.getElem?_map,at_ j jl] at hk1
     exact(Option.some.inj hk1).symm
    have r10:10≤rk fx t (ledOf zs) (zs.getD j 0):=Nat.le_trans (rk_led fx t (zs.getD 0 0)) (hm 0 T.ne)
    refine⟨lk,p,ps,_,ks,j,rfl,rfl,hT4,by omega,hk2,hk1,fun m' hm' z=>?_,_,_,rfl,rfl,_,rfl,lc,_,rfl,.inl (SqL.of (s14 _ _ h2)),_,_,rfl,rfl,(by show(0:Int) < (((as.map V.ref).length:Nat):Int);rw[List.length_map,al];omega),hR _ _ ⟨rfl,j,W,?_⟩⟩
    ·have ml':m' < zs.length:=by omega
     rw[List.getElem?_map,at_ m' ml'] at z
     have z':rankL fx t (ledOf zs) (zs.getD m' 0)=ks:=Option.some.inj z
     rw[hks] at z'
     have e5:=rank_eq ok z'
     have e6:=rk_inj ok (T.ht _ (List.mem_of_getElem? (at_ m' ml'))) (T.ht _ (List.mem_of_getElem? (at_ j jl))) (by rw[e5];exact r10) e5
     have:=nd_at T.nd (at_ m' ml') (by rw[at_ j jl,e6])
     omega
    ·show V.int ((((lead:Nat):Int)+((j:Nat):Int)) % (((as.map V.ref).length:Nat):Int))=_
     rw[List.length_map,al]
     rfl
  obtain⟨rfl,i,W,rfl⟩:=z
  refine⟨_,rfl,_,rfl,fits3 0 (by decide),fun le hle=>⟨fits3 3 (by decide),fun p1 hp1=>⟨_,rfl,fits3 2 (by decide),fun p2 hp2=>?_⟩⟩⟩
  have a0:=same_upd hle (.lst [])
  have a1:=same_upd hp1 (.tup [.ref lr,.int (((lead+i) % fx.n:Nat):Int),.ref le])
  have a2:=same_upd hp2 (.tup [.ref p1,.int (((lead+i) % fx.n:Nat):Int)])
  have a12:=a1.trans a2
  have a02:=a0.trans a12
  refine q p2 p1 ((lead+i) % fx.n) [] (some ((lead+i) % fx.n)) _ (s14.trans a02) upd_same ⟨lr,le,bs,a2 _ _ upd_same,a02 _ _ (s4 _ _ (s3 _ _ hR2)),((hD2.same s3).same s4).same a02,a12 _ _ upd_same,(s14.trans a0).free hp1,nR,s14.free hle,nB⟩ ⟨by rw[eset,eseat],fun z=>by omega,fun _=>⟨rfl,rfl,i,by rw[ezs];exact W,rfl⟩⟩
end
end My
namespace My
open PySem L2
abbrev sLPlace:Stmt:=top 54
abbrev sLState:Stmt:=top 53
section
variable{P:Program}{w:World}{K:PySem.W.Frag}{mg:Str→Option Value}{base:Heap}{f g:Addr}{fd gd:FuncData}
theorem Lib.mono{j k:Nat}{x:Str}{ps:List Str}{sp:Sp}{f1:Addr}{d1:FuncData}(L:Lib P w K mg base j x ps sp f1 d1)(h:j≤k):Lib P w K mg base k x ps sp f1 d1:=⟨L.ok.mono h,L.bd,L.kp,L.mg⟩
def natsOf(vs:List V):List Nat:=vs.map fun v=>match v with | .int i=>i.toNat | _=>0
theorem natsOf_vN(cs:List Nat):natsOf (vN cs)=cs:=by
 unfold natsOf vN
 rw[List.map_map]
 have:((fun v:V=>match v with | .int i=>i.toNat | _=>0) ∘ fun c:Nat=>V.int (c:Nat))=id:=by funext c;exact Int.toNat_natCast c
 rw[this,List.map_id]
def handV(H:Hp)(x:V):V:=match x with | .ref a=>(match H a with | some (.lst vs)=>.int ((hN (natsOf vs):Nat):Int) | _=>.non) | _=>.non
theorem handV_at{H:Hp}{a:Addr}{cs:List Nat}(h:H a=some (.lst (vN cs))):handV H (.ref a) = .int ((hN cs:Nat):Int):=by
 show(match H a with | some (.lst vs)=>V.int ((hN (natsOf vs):Nat):Int) | _=>.non)=_
 rw[h]
 show V.int ((hN (natsOf (vN cs)):Nat):Int)=_
 rw[natsOf_vN]
theorem handV_list{H:Hp}{as:List Addr}{css:List (List Nat)}(h:IsDl H as css):((as.map V.ref).filter fun _=>true).map (handV H)=vN (css.map hN):=by
 rw[List.filter_eq_self.mpr fun _ _=>rfl]
 unfold vN
 rw[List.map_map,List.map_map]
 apply List.ext_getElem?
 intro j
 rw[List.getElem?_map,List.getElem?_map]
 cases e:as[j]? with
 | none=>
  have:css[j]? = none:=by
   rw[List.getElem?_eq_none_iff] at e ⊢
   rw[← h.1]
   exact e
  rw[this]
  rfl
 | some a=>
  obtain⟨cs,e1,e2⟩:=h.2 j a e
  rw[e1]
  show some (handV H (V.ref a))=some (V.int ((hN cs:Nat):Int))
  rw[handV_at e2]
theorem deal_total{f:Fx}{sz:Nat}(ok:f.Ok):∀{css:List (List Nat)},(∀ cs∈css,cs.length=sz∧cs.Nodup∧∀ c∈cs,c < 32)→((css.map hN).map (pcK 32)).sum=css.length * sz
 | [],_=>by simp
 | c :: r,h=>by
  obtain⟨a,b,d⟩:=h c List.mem_cons_self
  rw[List.map_cons,List.map_cons,List.sum_cons,deal_total ok fun cs hcs=>h cs (List.mem_cons_of_mem _ hcs),pc_hN b d,a,List.length_cons,Nat.succ_mul]
  omega
theorem DealOk.total{f:Fx}{sz:Nat}{css:List (List Nat)}(ok:f.Ok)(D:DealOk f sz css):((css.map hN).map (pcK 32)).sum=f.n * sz:=by
 rw[deal_total ok fun cs hcs=>⟨D.each cs hcs,D.nd1 hcs,D.c32 ok hcs⟩,D.len]
theorem deep_ints{K:PySem.W.Frag}{H:Hp}{d:Nat}(ys:List Nat):∀ j,j < (vN ys).length→DeepEq K H d ((vN ys).getD j .non) ((vN ys).getD j .non):=fun j hj=>by
 have e:(vN ys)[j]? = some ((vN ys).getD j .non):=by rw[List.getD_eq_getElem?_getD,List.getElem?_eq_getElem hj];rfl
 obtain⟨c,_,e2⟩:=vN_get e
 rw[e2]
 exact .flat rfl
theorem deep_lst{K:PySem.W.Frag}{H:Hp}{d:Nat}{p q:Addr}{ys:List Nat}(hp:H p=some (.lst (vN ys)))(hq:H q=some (.lst (vN ys))):DeepEq K H (d+1) (.ref p) (.ref q):=.lst (SqL.of hp) (SqL.of hq) rfl (deep_ints ys)
theorem sum_nat:∀(xs:List Nat),((xs.map fun x=>((x:Nat):Int))).sum=((xs.sum:Nat):Int)
 | []=>rfl
 | x :: xs=>by rw[List.map_cons,List.sum_cons,List.sum_cons,sum_nat xs,Int.natCast_add]
theorem orL_nn{a b:List Nat}(h:b≠[]):orL a b≠[]:=by
 unfold orL
 split
 ·exact h
 ·assumption
theorem alw_nn{d:_root_.Fin 4}{f:Fx}{t:Option Nat}{ys cs:List Nat}(h:cs≠[]):alw d f t ys cs≠[]:=by
 match d with
 | 0=>exact h
 | 1=>exact orL_nn h
 | 2=>exact orL_nn (orL_nn h)
 | 3=>exact orL_nn (orL_nn (orL_nn h))
theorem len32{cs:List Nat}(nd:cs.Nodup)(h:∀ c∈cs,c < 32):cs.length≤32:=by
 have e:=pc_hN nd h
 have:pcK 32 (hN cs)≤32:=by
  unfold pcK
  have:=List.length_filter_le (fun b=>(hN cs).testBit b) (List.range 32)
  rw[List.length_range] at this
  exact this
 omega
theorem sum_zero:∀{l:List Nat},(∀ x∈l,x=0)→l.sum=0
 | [],_=>rfl
 | x :: l,h=>by rw[List.sum_cons,h x List.mem_cons_self,sum_zero fun y hy=>h y (List.mem_cons_of_mem _ hy)]
theorem StOk.pos{n:Nat}{fx:Fx}{css:List (List Nat)}{lead m i:Nat}{ys:List Nat}(S:StOk fx css lead ys m)(h:((css.map hN).map (pcK 32)).sum+i=n)(hi:i < n):0 < m:=by
 rcases Nat.eq_zero_or_pos m with z | z
 ·exfalso
  have all:∀ x∈(css.map hN).map (pcK 32),x=0:=fun x hx=>by
   obtain⟨g,hg,rfl⟩:=List.mem_map.mp hx
   have:=S.plc.le hg
   omega
  have:((css.map hN).map (pcK 32)).sum=0:=sum_zero all
  omega
 ·exact z
theorem StOk.beg{fx:Fx}(ok:fx.Ok){css:List (List Nat)}{lead m:Nat}{ys cs:List Nat}(S:StOk fx css lead ys m)(h:cs∈css):ys=[]∨Beg fx ys cs:=by
 by_cases e:ys=[]
 ·exact .inl e
 ·refine .inr ⟨List.length_pos_iff.mpr e,?_,fun c hc=>?_,fun c hc=>⟨S.c32 ok h c hc,(S.pk h hc).2⟩⟩
  ·have:=S.plc.yl
   rcases ok.n34 with e | e<;>omega
  ·have:=S.plc.pk c (cnt_card hc)
   have:=ok.s4
   omega
theorem DealOk.st{f:Fx}{sz:Nat}{css:List (List Nat)}(ok:f.Ok)(D:DealOk f sz css){lead:Nat}(hl:lead < f.n):StOk f css lead [] sz:=⟨D.plc ok hl,fun cs h=>List.Pairwise.imp₂ (fun {a b} (l:a≤b) (n:a≠b)=>by omega) (D.up cs h) (D.nd1 h)⟩
theorem ints_nat{ms:List Int}{cs:List Nat}(h:ms.Perm (cs.map fun c=>((c:Nat):Int))):∃ ds:List Nat,ms.map V.int=vN ds∧ds.Perm cs∧(ms.Pairwise (·≤·)→ds.Pairwise (·≤·)):=by
 have all:∀ m∈ms,∃ c:Nat,m=(c:Int):=fun m hm=>by
  obtain⟨c,_,e⟩:=List.mem_map.mp (h.mem_iff.mp hm)
  exact⟨c,e.symm⟩
 refine⟨ms.map Int.toNat,?_,?_,fun pw=>?_⟩
 ·unfold vN
  rw[List.map_map]
  refine List.map_congr_left fun m hm=>?_
  obtain⟨c,e⟩:=all m hm
  show V.int m=V.int ((m.toNat:Nat):Int)
  rw[e,Int.toNat_natCast]
 ·have:=h.map Int.toNat
  rw[List.map_map] at this
  have e:cs.map (Int.toNat ∘ fun c=>((c:Nat):Int))=cs:=by
   have:(Int.toNat ∘ fun c:Nat=>((c:Nat):Int))=id:=by funext c;exact Int.toNat_natCast c
   rw[this,List.map_id]
  rw[e] at this
  exact this
 ·refine List.pairwise_map.mpr (pw.imp fun {a b} hab=>?_)
  omega
def cPl:Scope:=match defBody sLPlace with
 | [.Return (some (.Tuple (.Call _ [.ListComp _ _ sc _] _ _ :: _) _ _)) _]=>sc
 | _=>defScope sLPlace
def spLPlace(K:PySem.W.Frag):Sp:=fun vs H Q _=>∃(st:Addr) (fx:Fx) (css:List (List Nat)) (lead m:Nat) (ys:List Nat),vs=[.ref st]∧fx.Ok∧IsSt H st css lead ys∧StOk fx css lead ys m∧∀ p H',Same H H'→IsPl H' p (css.map hN) lead ys→Q (.ref p) H'
theorem scLPlace:FnScope ["_law_state_here"] ["_law_state_here"] (defScope sLPlace):=⟨rfl,rfl,rfl,by decide +kernel,rfl,by decide +kernel,by decide +kernel⟩
theorem ok_lplace{k:Nat}(F:Fun K "_law_place" "_law_place" sLPlace f fd)(mT:mg "tuple" = none)(mS:mg "sum" = none):FnOk P w K mg base CX0 (k+1) f fd ["_law_state_here"] (spLPlace K):=by
 refine F.ok scLPlace (fun vs H Q E h=>?_) (fun cdv A outer s H vs Q E hr h=>?_)
 ·obtain⟨st,fx,css,lead,m,ys,rfl,_⟩:=h
  rfl
 obtain⟨st,fx,css,lead,m,ys,rfl,ok,⟨lc,lt,as,h1,h2,h3,h4⟩,S,q⟩:=h
 refine⟨_,pss_one (ps_ret (pe_tup (pa_cons (pe_callTy call_tuple_of rfl mT PyProof.Rows.boot_tuple (pa_cons (pe_comp ["_law_hand"] [none] rfl (Blk.by (sc:=defScope sLPlace) (N0:=["_law_state_here"]) rfl rfl (by decide +kernel)) (pi_list (pe_ix ix_tup (pv 0) pe_int (fun _ _=>rfl))) (fun C s₀ H₀ ex=>pg_name (i:=0) (show(["_law_hand"]:List Str).Nodup by decide +kernel) rfl (Or.inl rfl)) (fun C s₀ H₀ ex=>pf_nil)
   (fun C s₀ H₀ ex=>pe_callB (show CallR _ (.builtin "sum") (fun xs H Q=>∃(a:Addr) (ns:List Int),xs=[.ref a]∧SqL K H a (ns.map V.int)∧Q (.int ns.sum) H) from call_sum rfl) rfl mS PyProof.Rows.boot_sum (pa_cons (pe_comp ["_law_card"] [none] rfl (Blk.by (sc:=relS cPl (defScope sLPlace)) (N0:=["_law_hand"]) rfl rfl (by decide +kernel)) (pi_listK K rfl (pv 0)) (fun C s₀ H₀ ex=>pg_name (i:=0) (show(["_law_card"]:List Str).Nodup by decide +kernel) rfl (Or.inl rfl)) (fun C s₀ H₀ ex=>pf_nil)
    (fun C s₀ H₀ ex=>pe_op op_shl pe_int (pv 0))) pa_nil))) pa_nil)) (pa_cons (pe_ix ix_tup (pv 0) pe_int (fun _ _=>rfl)) (pa_cons (pe_callTy call_tuple_of rfl mT PyProof.Rows.boot_tuple (pa_cons (pe_ix ix_tup (pv 0) pe_int (fun _ _=>rfl)) pa_nil)) pa_nil))))),?_⟩
 have n4:fx.n≤4:=by rcases ok.n34 with e | e<;>omega
 have al:as.length=fx.n:=h3.1.trans S.len
 refine⟨_,rfl,st,_,_,_,rfl,rfl,SqT.of h1,(rfl:atI [V.ref lc,V.int (lead:Nat),V.ref lt] 0=some (V.ref lc)),lc,rfl,⟨_,SqL.of h2⟩,comp_list (K:=K) (xs:=as.map V.ref) (fun _=>true) (handV H) (SqL.of h2) (fits3 _ (by rw[List.length_map];omega)) (fun x H3 hx sm R hR=>hR H3 (Same.refl H3)) (fun xv H5 hx hp sm R hR=>?_) (fun lq H4 s4 hlq hLq=>?_)⟩
 ·obtain⟨av,hav,rfl⟩:=List.mem_map.mp hx
  obtain⟨j,hj,ej⟩:=List.mem_iff_getElem.mp hav
  obtain⟨cs,e1,e2⟩:=h3.2 j av (by rw[List.getElem?_eq_getElem hj,ej])
  have mcs:=List.mem_of_getElem? e1
  have cl:=(S.cl ok mcs).1
  have e2':=sm _ _ e2
  refine⟨_,rfl,av,rfl,⟨_,SqL.of e2'⟩,comp_list (K:=K) (xs:=vN cs) (fun _=>true) powV (SqL.of e2') (fits3 _ (by rw[vN_len];omega)) (fun x H3 hx sm R hR=>hR H3 (Same.refl H3)) (fun x H3 hx hp sm R hR=>?_) (fun l H1 sm1 hl hL1=>?_)⟩
  ·obtain⟨c,hc,rfl⟩:=List.mem_map.mp hx
   have:=S.c32 ok mcs c hc
   refine⟨_,rfl,_,_,rfl,rfl,⟨by omega,by omega,by decide⟩,?_⟩
   have z:=hR H3 (Same.refl H3)
   show R (V.int ((1:Int) * 2 ^ (((c:Nat):Int)).toNat)) H3
   rw[shl_nat]
   have e:powV (V.int (c:Nat))=V.int ((2 ^ c:Nat):Int):=by
    show V.int ((2 ^ (((c:Nat):Int)).toNat:Nat):Int)=_
    rw[Int.toNat_natCast]
   rw[e] at z
   exact z
  ·rw[powV_list,vN_ints] at hL1
   have z:=hR H1 sm1
   rw[handV_at e2] at z
   refine⟨l,_,rfl,SqL.of hL1,?_⟩
   rw[sum_nat,hN_sum (S.nd cs mcs)]
   exact z
 rw[handV_list h3] at hLq
 refine⟨lq,_,rfl,.inl ⟨SqL.of hLq,fun th hth=>?_⟩⟩
 have s5:=s4.trans (same_upd hth (.tup (vN (css.map hN))))
 refine⟨_,rfl,st,_,_,_,rfl,rfl,SqT.of (s5 _ _ h1),(rfl:atI [V.ref lc,V.int (lead:Nat),V.ref lt] 1=some (V.int (lead:Nat))),_,rfl,st,_,_,_,rfl,rfl,SqT.of (s5 _ _ h1),(rfl:atI [V.ref lc,V.int (lead:Nat),V.ref lt] 2=some (V.ref lt)),lt,_,rfl,.inl ⟨SqL.of (s5 _ _ h4),fun tz htz=>⟨fits3 3 (by decide),fun p hp=>?_⟩⟩⟩
 have a6:=same_upd htz (.tup (vN ys))
 have a7:=same_upd hp (.tup [.ref th,.int (lead:Nat),.ref tz])
 exact q p _ ((s5.trans a6).trans a7) ⟨th,tz,upd_same,a7 _ _ (a6 _ _ upd_same),a7 _ _ upd_same⟩
theorem deal_ok2{f:Fx}(ok:f.Ok){sz:Nat}{ds:List Nat}{css:List (List Nat)}(hp:ds.Perm (packL f.s f.h))(hsz:sz * f.n≤f.s * f.h)(hl:css.length=f.n)
  (hc:∀(j:Nat) (cs:List Nat),css[j]? = some cs→cs.Perm ((ds.drop (sz * j)).take sz)) (hu:∀ cs∈css,cs.Pairwise (·≤·)):DealOk f sz css:=by
 have ll:ds.length=f.s * f.h:=by rw[hp.length_eq,pack_length]
 have e1:=flat_perm css _ hc
 rw[hl,chunks ds sz f.n] at e1
 refine⟨hl,fun cs hcs=>?_,?_,fun c hcc=>?_,hu⟩
 ·obtain⟨j,hj,e⟩:=List.mem_iff_getElem.mp hcs
  have p:=hc j cs (by rw[List.getElem?_eq_getElem hj,e])
  rw[p.length_eq,List.length_take,List.length_drop,ll]
  have h1:sz * (j+1)≤sz * f.n:=Nat.mul_le_mul_left _ (by omega)
  rw[Nat.mul_succ] at h1
  omega
 ·exact e1.nodup_iff.mpr (List.Nodup.sublist (List.take_sublist _ _) (hp.nodup_iff.mpr (pack_nd f.s ok.s4 f.h ok.h8)))
 ·exact(pack_mem ok.h8).mp (hp.mem_iff.mp (List.mem_of_mem_take (e1.mem_iff.mp hcc)))
def spLState(K:PySem.W.Frag):Sp:=fun vs H Q _=>∃(a:Addr) (ns:List Int) (d:Addr) (f:Fx) (t:Option Nat) (sz steps:Nat),vs=[.ref a,.ref d,.int (steps:Nat)]∧SqL K H a (ns.map V.int)∧ns.length≤63∧f.Ok∧IsRt H d f t sz∧sz * f.n≤f.s * f.h∧steps≤1000 ∧
 ∀ st css lead ys m H',Same H H'→IsSt H' st css lead ys→StOk f css lead ys m→((css.map hN).map (pcK 32)).sum+min steps (f.n * sz)=f.n * sz→Q (.ref st) H'
abbrev pLState:List Str:=["_law_script","_law_rules_here","_law_steps_here"]
abbrev nLState:List Str:=["_law_script","_law_rules_here","_law_steps_here","_law_seats","_law_suits","_law_size","_law_word","_law_trump","_law_orders","_law_pack","_law_suit","_law_order_here","_law_hands","_law_state_here","_law_k","_law_some"]
theorem scLState:FnScope nLState pLState (defScope sLState):=⟨rfl,rfl,rfl,by decide +kernel,rfl,by decide +kernel,by decide +kernel⟩
abbrev nS1:List Str:=["_law_height","_law_suit"]
abbrev nS2:List Str:=["_law_card","_law_script"]
abbrev nS3:List Str:=["_law_k","_law_order_here","_law_size"]
def cSt:Scope:=match (defBody sLState).getD 4 (.Pass ⟨0,0,0,0⟩) with
 | .Assign _ (.ListComp _ _ sc _) _=>sc
 | _=>defScope sLState
theorem cut_midV(xs:List V)(c d:Nat)(hc:c≤xs.length)(hd:d≤xs.length):cutV xs (some (c:Int)) (some (d:Int))=(xs.drop c).take (d - c):=by
 unfold cutV
 rw[HT.sIx_nat,HT.sIx_nat,Nat.min_eq_left hc,Nat.min_eq_left hd]
theorem ok_lstate{k:Nat}{f1 f3 f4 f5:Addr}{d1 d3 d4 d5:FuncData}(F:Fun K "_law_state" "_law_state" sLState f fd)(LX:Lib P w K mg base k "_law_mixed" pMixed (spMixed K) f1 d1)(LT:Lib P w K mg base k "_law_turn" pLTurn spLTurn f3 d3)
  (LM:Lib P w K mg base k "_law_may" pLMay spLMay f4 d4) (LP:Lib P w K mg base k "_law_put" pLPut spLPut f5 d5) (ml:mg "len" = none) (mr:mg "range" = none) (mMn:mg "min" = none) (mso:mg "sorted" = none):FnOk P w K mg base CX0 (k+1) f fd pLState (spLState K):=by
 refine F.ok scLState (fun vs H Q E h=>?_) (fun cdv A outer s H vs Q E hr h=>?_)
 ·obtain⟨a,ns,d,fx,t,sz,steps,rfl,_⟩:=h
  rfl
 obtain⟨a,ns,d,fx,t,sz,steps,rfl,hS,h63,ok,hRt,szn,st1000,q⟩:=h
 refine⟨_,pss_cons (ps_asg (pv 1) (pg_tup rfl (pgs_cons (pg_name (i:=3) scLState.nd rfl (Or.inl rfl)) (pgs_cons (pg_name (i:=4) scLState.nd rfl (Or.inl rfl)) (pgs_cons (pg_name (i:=5) scLState.nd rfl (Or.inr rfl)) (pgs_cons (pg_name (i:=6) scLState.nd rfl (Or.inl rfl)) (pgs_cons (pg_name (i:=7) scLState.nd rfl (Or.inl rfl)) (pgs_cons (pg_name (i:=8) scLState.nd rfl (Or.inl rfl)) pgs_nil))))))))
  (pss_cons (ps_set (i:=9) scLState.nd rfl (Or.inl rfl) (pe_lst pa_nil))
  (pss_cons (ps_for PassesOwn.never rfl (pi_range1 rfl mr (pa_cons (pv 4) pa_nil)) (pg_name (i:=10) scLState.nd rfl (Or.inr rfl)) (pss_one (ps_set (i:=9) scLState.nd rfl (Or.inl rfl) (pe_op op_cat (pv 9) (pe_comp nS1 [none,some 10] rfl (Blk.by (sc:=defScope sLState) (N0:=nLState) rfl rfl (by decide +kernel)) (pi_range1 rfl mr (pa_cons (pe_callB call_len_seq rfl ml PySem.boot_len (pa_cons (pe_ix ix_list (pv 8) pe_int (fun _ _=>rfl)) pa_nil)) pa_nil)) (fun C s₀ H₀ ex=>pg_name (i:=0) (show nS1.Nodup by decide +kernel) rfl (Or.inl rfl))
    (fun C s₀ H₀ ex=>pf_nil) (fun C s₀ H₀ ex=>pe_op op_add (pe_op op_mul pe_int (pv 1)) (pv 0)))))))
  (pss_cons (ps_set (i:=11) scLState.nd rfl (Or.inr rfl) (pe_callB call_sorted2 rfl mso PyProof.Rows.boot_sorted (pa_cons (pe_comp nS2 [none,some 0] rfl (Blk.by (sc:=defScope sLState) (N0:=nLState) rfl rfl (by decide +kernel)) (pi_list (pv 9)) (fun C s₀ H₀ ex=>pg_name (i:=0) (show nS2.Nodup by decide +kernel) rfl (Or.inl rfl)) (fun C s₀ H₀ ex=>pf_nil)
    (fun C s₀ H₀ ex=>pe_tup (pa_cons (pe_op op_mod (pe_call LX.ok hr rfl LX.mg LX.kp LX.bd .nil pass0 (pa_cons (pv 1) (pa_cons (pe_op op_add pe_int (pv 0)) pa_nil))) pe_int) (pa_cons (pv 0) pa_nil)))) pa_nil)))
  (pss_cons (ps_setcomp (i:=12) nS3 [none,some 11,some 5] rfl scLState.nd rfl (Or.inl rfl) (Blk.by (sc:=defScope sLState) (N0:=nLState) rfl rfl (by decide +kernel)) (pi_range1 rfl mr (pa_cons (pv 3) pa_nil)) (fun C s₀ H₀ ex=>pg_name (i:=0) (show nS3.Nodup by decide +kernel) rfl (Or.inl rfl)) (fun C s₀ H₀ ex=>pf_nil)
    (fun C s₀ H₀ ex=>pe_callB (show CallR _ (.builtin "sorted") (fun xs H Q=>∃(a:Addr) (ns:List Int),xs=[.ref a]∧SqL K H a (ns.map V.int)∧ns.length < 64∧∀(l:Addr) (ms:List Int),H l=none→ms.Perm ns→ms.Pairwise (·≤·)→Q (.ref l) (upd H l (.lst (ms.map V.int)))) from call_sortedI) rfl mso PyProof.Rows.boot_sorted (pa_cons (pe_comp ["_law_pair"] [none] rfl (Blk.by (sc:=relS cSt (defScope sLState)) (N0:=nS3) rfl rfl (by decide +kernel)) (pi_listK K rfl (pe_slice (show SlR _ (rSlL K) from sl_list) (pv 1) (po_some (pe_op op_mul (pv 0) (pv 2))) (po_some (pe_op op_add (pe_op op_mul (pv 0) (pv 2)) (pv 2))))) (fun C s₀ H₀ ex=>pg_name (i:=0) (show(["_law_pair"]:List Str).Nodup by decide +kernel) rfl (Or.inl rfl)) (fun C s₀ H₀ ex=>pf_nil)
     (fun C s₀ H₀ ex=>pe_ix (show IxR _ (rIxT K) from ix_tup) (pv 0) pe_int (fun _ _=>rfl))) pa_nil)))
  (pss_cons (ps_set (i:=13) scLState.nd rfl (Or.inl rfl) (pe_tup (pa_cons (pv 12) (pa_cons (pe_op op_mod (pe_call LX.ok hr rfl LX.mg LX.kp LX.bd .nil pass0 (pa_cons (pv 0) (pa_cons pe_int pa_nil))) (pv 3)) (pa_cons (pe_lst pa_nil) pa_nil)))))
  (pss_cons (ps_for PassesOwn.never rfl (pi_range1 rfl mr (pa_cons (pe_callB (call_min2 rfl) rfl mMn PyProof.Rows.boot_min (pa_cons (pv 2) (pa_cons (pe_op op_mul (pv 3) (pv 5)) pa_nil))) pa_nil)) (pg_name (i:=14) scLState.nd rfl (Or.inl rfl))
   (pss_cons (ps_set (i:=15) scLState.nd rfl (Or.inl rfl) (pe_call LM.ok hr rfl LM.mg LM.kp LM.bd .nil pass0 (pa_cons (pv 1) (pa_cons (pe_ix ix_list (pe_ix ix_tup (pv 13) pe_int (fun _ _=>rfl)) (pe_call LT.ok hr rfl LT.mg LT.kp LT.bd .nil pass0 (pa_cons (pv 13) pa_nil)) (fun _ _=>rfl)) (pa_cons (pe_ix ix_tup (pv 13) pe_int (fun _ _=>rfl)) pa_nil)))))
   (pss_one (ps_set (i:=13) scLState.nd rfl (Or.inl rfl) (pe_ix ix_tup (pe_call LP.ok hr rfl LP.mg LP.kp LP.bd .nil pass0 (pa_cons (pv 1) (pa_cons (pv 13) (pa_cons (pe_ix ix_list (pv 15) (pe_op op_mod (pe_call LX.ok hr rfl LX.mg LX.kp LX.bd .nil pass0 (pa_cons (pv 0) (pa_cons (pe_op op_add pe_int (pv 14)) pa_nil))) (pe_callB call_len_seq rfl ml PySem.boot_len (pa_cons (pv 15) pa_nil))) (fun _ _=>rfl)) pa_nil)))) pe_int (fun _ _=>rfl))))))
  (pss_one (ps_ret (pv 13))))))))),?_⟩
 obtain⟨lo,lp,lh,hD,hO,hP,hT⟩:=id hRt
 have n4:fx.n≤4:=by rcases ok.n34 with e | e<;>omega
 have n0:0 < fx.n:=by rcases ok.n34 with e | e<;>omega
 have s4:=ok.s4
 have h8:=ok.h8
 have sn:fx.s * fx.h≤32:=Nat.le_trans (Nat.mul_le_mul s4 h8) (by decide)
 have szc:fx.n * sz=sz * fx.n:=Nat.mul_comm _ _
 have sz32:sz≤32:=by
  have:sz * 1≤sz * fx.n:=Nat.mul_le_mul_left _ n0
  omega
 have z1000:=fits3 1000 (by decide)
 refine⟨_,rfl,d,_,rfl,SqT.of hD,rfl,_,_,rfl,_,_,rfl,_,_,rfl,_,_,rfl,_,_,rfl,_,_,rfl,rfl,?_⟩
 refine nxE ?_
 refine set_nm (fun v H1=>∃ l,v = .ref l∧Same H H1∧H1 l=some (.lst [])) (fun R hR=>⟨fits3 0 (by decide),fun l hl=>hR _ _ ⟨l,rfl,same_upd hl _,upd_same⟩⟩) (fun v H1 z=>?_)
 obtain⟨l0,rfl,s1,hl0⟩:=z
 refine seq_cut (fun σ H2=>Same H H2∧∃(lk:Addr) (x10:Option V),σ=[some (.ref a),some (.ref d),some (.int (steps:Nat)),some (.int (fx.n:Nat)),some (.int (fx.s:Nat)),some (.int (sz:Nat)),some (.str (wd fx.d)),some (.int (trI t)),some (.ref lo),some (.ref lk),x10,none,none,none,none,none]∧H2 lk=some (.lst (vN (packL fx.s fx.h)))) (fun D' er nx=>?_) (fun σ H2 z=>?_)
 ·refine⟨_,rfl,(fx.s:Int),rfl,by omega,by omega,?_⟩
  refine for_range (n:=fx.s) (fun i σ H'=>Same H H'∧∃(lk:Addr) (x10:Option V),σ=[some (.ref a),some (.ref d),some (.int (steps:Nat)),some (.int (fx.n:Nat)),some (.int (fx.s:Nat)),some (.int (sz:Nat)),some (.str (wd fx.d)),some (.int (trI t)),some (.ref lo),some (.ref lk),x10,none,none,none,none,none]∧H' lk=some (.lst (vN (packL i fx.h)))) ⟨s1,l0,none,rfl,hl0⟩ (fun i σ H2 hi z=>?_) (fun σ H2 z=>nx _ _ z)
  obtain⟨s2,lk,x10,rfl,hL2⟩:=z
  refine⟨_,rfl,_,rfl,lo,_,_,_,rfl,rfl,SqL.of (s2 _ _ hO),(rfl:atI [V.ref lp,V.ref lh] 0=some (V.ref lp)),lp,_,rfl,.inl (SqL.of (s2 _ _ hP)),((fx.h:Nat):Int),(by rw[vN_len,perm_len ok.pp]),by omega,by omega,?_⟩
  refine comp_range (n:=fx.h) (lo:=0) (fun _=>true) (fun j=>.int ((8 * i+j:Nat):Int)) (fits3 _ (by omega)) (fun j H3 hj sm R hR=>hR H3 (Same.refl H3)) (fun j H3 hj hp sm R hR=>?_) (fun l3 H3 s3 hl3 hL3=>?_)
  ·refine⟨_,rfl,_,_,rfl,rfl,.inl ⟨by decide,by decide⟩,_,rfl,_,_,rfl,rfl,?_⟩
   have e:(8:Int) * (0+(i:Nat))+(0+(j:Nat))=((8 * i+j:Nat):Int):=by omega
   show R (.int ((8:Int) * (0+(i:Nat))+(0+(j:Nat)))) H3
   rw[e]
   exact hR H3 (Same.refl H3)
  have e3:((List.range fx.h).filter fun _=>true).map (fun j=>V.int ((8 * i+j:Nat):Int))=vN ((List.range fx.h).map fun v=>8 * i+v):=by
   rw[List.filter_eq_self.mpr (fun _ _=>rfl)]
   unfold vN
   rw[List.map_map]
   rfl
  rw[e3] at hL3
  have hL4:=s3 _ _ hL2
  have ll:(vN (packL i fx.h)).length+(vN ((List.range fx.h).map fun v=>8 * i+v)).length≤sizeLine:=by
   rw[vN_len,vN_len,List.length_map,List.length_range]
   have:=pack_len i (by omega) fx.h h8
   omega
  refine⟨lk,l3,_,_,rfl,rfl,hL4,hL3,ll,fun pn hpn=>⟨(s2.trans s3).trans (same_upd hpn _),pn,_,rfl,?_⟩⟩
  rw[upd_same]
  congr 2
  unfold packL vN
  rw[List.range_succ,List.flatMap_append,List.map_append]
  congr 1
  simp
 obtain⟨s2,lk,x10,rfl,hK2⟩:=z
 have pl32:=pack_len fx.s s4 fx.h h8
 have plen:=pack_length fx.s fx.h
 have p32:∀ c∈packL fx.s fx.h,c < 32:=fun c hc=>by
  have:=(pack_mem h8).mp hc
  omega
 refine set_nm (fun v H3=>∃(lq:Addr) (qs:List Addr) (gf:Addr→Nat),v = .ref lq∧Same H2 H3∧H3 lq=some (.lst (qs.map V.ref))∧(∀ p∈qs,∃ x:Int,H3 p=some (.tup [.int x,.int ((gf p:Nat):Int)]))∧(qs.map gf).Perm (packL fx.s fx.h)) (fun R hR=>?_) (fun v H3 z=>?_)
 ·refine⟨_,rfl,lk,rfl,⟨_,SqL.of hK2⟩,comp_someL (K:=K) (xs:=vN (packL fx.s fx.h)) (fun _ i v H=>∃(p:Addr) (x:Int) (c:Nat),(packL fx.s fx.h)[i]? = some c∧v = .ref p∧H p=some (.tup [.int x,.int ((c:Nat):Int)])) (SqL.of hK2) (fits3 _ (by rw[vN_len];omega)) (fun l i v H H' g sm=>?_) (fun l i v H xs zs g hl=>?_) (fun i x H5 l vs hx sm hl hL R hR=>?_) (fun l H5 vs sm hl hL hvl hvs=>?_)⟩
  ·obtain⟨p,x,c,a1,a2,a3⟩:=g
   exact⟨p,x,c,a1,a2,sm _ _ a3⟩
  ·obtain⟨p,x,c,a1,a2,a3⟩:=g
   exact⟨p,x,c,a1,a2,by rw[upd_ne (ne_of a3 hl (fun z=>nomatch z))];exact a3⟩
  ·obtain⟨c,hc,rfl⟩:=vN_get hx
   have c32:=p32 c (List.mem_of_getElem? hc)
   exact⟨_,rfl,_,rfl,_,_,rfl,rfl,a,ns,(60:Int)+((c:Nat):Int),rfl,(s2.trans sm).seq hS,h63,by omega,by omega,fun y=>⟨_,_,rfl,rfl,(show(0:Int) < 10007 by decide),_,rfl,fits3 2 (by decide),fun p hp=>hR _ _ (same_upd hp _) ⟨p,y % 10007,c,hc,rfl,upd_same⟩⟩⟩
  ·rw[vN_len] at hvl
   obtain⟨ps,rfl,hps⟩:=refs_at (fun i p=>∃(x:Int) (c:Nat),(packL fx.s fx.h)[i]? = some c∧H5 p=some (.tup [.int x,.int ((c:Nat):Int)])) vs 0 fun i v hv=>by
    obtain⟨p,x,c,a1,a2,a3⟩:=hvs i v hv
    exact⟨p,a2,x,c,by rw[Nat.zero_add];exact a1,a3⟩
   rw[List.length_map] at hvl
   have Pr:Prs H5 ps (packL fx.s fx.h):=⟨hvl,fun i p c e1 e2=>by
    obtain⟨x,c',a1,a2⟩:=hps i p e1
    rw[Nat.zero_add,e2] at a1
    cases a1
    exact⟨x,a2⟩⟩
   refine⟨l,ps,rfl,SqL.of hL,by omega,fun p hp=>?_,fun l2 qs hl2 pq=>?_⟩
   ·obtain⟨x,hx⟩:=Pr.tup p hp
    exact⟨_,_,SqT.of hx⟩
   have sm2:=same_upd hl2 (.lst (qs.map V.ref))
   refine hR _ _ ⟨l2,qs,snd2 H5,rfl,sm.trans sm2,upd_same,fun p hp=>?_,?_⟩
   ·obtain⟨x,hx⟩:=Pr.tup p (pq.mem_iff.mp hp)
    exact⟨x,sm2 _ _ hx⟩
   ·have:=pq.map (snd2 H5)
    rw[Pr.map] at this
    exact this
 obtain⟨lq,qs,gf,rfl,s3,hQ3,hqs,pqs⟩:=z
 have ql:qs.length=fx.s * fx.h:=by
  have:=pqs.length_eq
  rw[List.length_map,plen] at this
  exact this
 have s23:=s2.trans s3
 refine set_nm (fun v H4=>∃(l:Addr) (as:List Addr) (css:List (List Nat)),v = .ref l∧Same H3 H4∧H4 l=some (.lst (as.map V.ref))∧IsDl H4 as css∧DealOk fx sz css) (fun R hR=>?_) (fun v H4 z=>?_)
 ·refine⟨_,rfl,(fx.n:Int),rfl,by omega,by omega,?_⟩
  refine comp_someJ (J:=Itr 0 fx.n) fx.n (fun i=>.int (0+((i:Nat):Int))) (fun l i v H=>∃(av:Addr) (cs:List Nat),v = .ref av∧av≠l∧H av=some (.lst (vN cs))∧cs.Perm (((qs.map gf).drop (sz * i)).take sz)∧cs.Pairwise (·≤·)) (fits3 _ (by omega)) (fun i H _ hi=>hi) (fun H _=>Nat.le_refl _) (fun i H x H' _ _ y=>y) (fun l i v H H' g sm=>?_) (fun l i v H xs zs g hl=>?_) (fun i H5 l vs hi sm hl hL R hR=>?_) (fun l H5 vs sm hl hL hvl hvs=>?_)
  ·obtain⟨av,cs,g1,g2,g3,g4,g5⟩:=g
   exact⟨av,cs,g1,g2,sm _ _ g3,g4,g5⟩
  ·obtain⟨av,cs,g1,g2,g3,g4,g5⟩:=g
   exact⟨av,cs,g1,g2,by rw[upd_ne g2];exact g3,g4,g5⟩
  ·have b1:sz * i+sz≤qs.length:=by
    rw[ql]
    have:sz * (i+1)≤sz * fx.n:=Nat.mul_le_mul_left _ (by omega)
    rw[Nat.mul_succ] at this
    omega
   have eI:(0+((i:Nat):Int)) * ((sz:Nat):Int)=((sz * i:Nat):Int):=by rw[Int.zero_add,Int.natCast_mul,Int.mul_comm]
   have eJ:(0+((i:Nat):Int)) * ((sz:Nat):Int)+((sz:Nat):Int)=((sz * i+sz:Nat):Int):=by rw[eI,Int.natCast_add]
   have hQ5:=sm _ _ hQ3
   refine⟨_,rfl,_,rfl,_,rfl,_,_,rfl,rfl,.inl ⟨by omega,by omega⟩,_,rfl,_,rfl,_,rfl,_,_,rfl,rfl,.inl ⟨by omega,by omega⟩,_,rfl,_,_,rfl,rfl,_,rfl,lq,_,rfl,SqL.of hQ5,fun lc hlc=>?_⟩
   have eC:cutV (qs.map V.ref) (some ((0+((i:Nat):Int)) * ((sz:Nat):Int))) (some ((0+((i:Nat):Int)) * ((sz:Nat):Int)+((sz:Nat):Int)))=((qs.drop (sz * i)).take sz).map V.ref:=by
    rw[eJ,eI,cut_midV _ (sz * i) (sz * i+sz) (by rw[List.length_map];omega) (by rw[List.length_map];omega),List.map_take,List.map_drop,Nat.add_sub_cancel_left]
   have s7:=same_upd hlc (.lst (cutV (qs.map V.ref) (some ((0+((i:Nat):Int)) * ((sz:Nat):Int))) (some ((0+((i:Nat):Int)) * ((sz:Nat):Int)+((sz:Nat):Int)))))
   have hC:upd H5 lc (.lst (cutV (qs.map V.ref) (some ((0+((i:Nat):Int)) * ((sz:Nat):Int))) (some ((0+((i:Nat):Int)) * ((sz:Nat):Int)+((sz:Nat):Int))))) lc=some (.lst (((qs.drop (sz * i)).take sz).map V.ref)):=by rw[upd_same,eC]
   have cl:((qs.drop (sz * i)).take sz).length=sz:=by rw[List.length_take,List.length_drop];omega
   refine⟨lc,rfl,⟨_,SqL.of hC⟩,comp_list (K:=K) (xs:=((qs.drop (sz * i)).take sz).map V.ref) (fun _=>true) (fun x=>match x with | .ref p=>.int ((gf p:Nat):Int) | _=>.non) (SqL.of hC) (fits3 _ (by rw[List.length_map,cl];omega)) (fun x H3 hx sm R hR=>hR H3 (Same.refl H3)) (fun x H8 hx hp sm8 R hR=>?_) (fun lr H8 s8 hlr hL8=>?_)⟩
   ·obtain⟨p,hp,rfl⟩:=List.mem_map.mp hx
    obtain⟨x,hx⟩:=hqs p (List.mem_of_mem_drop (List.mem_of_mem_take hp))
    exact⟨_,rfl,p,_,_,_,rfl,rfl,SqT.of (sm8 _ _ (s7 _ _ (sm _ _ hx))),atI_nat (j:=1) rfl,hR H8 (Same.refl H8)⟩
   have e8:(((((qs.drop (sz * i)).take sz).map V.ref).filter fun _=>true).map fun x=>match x with | .ref p=>V.int ((gf p:Nat):Int) | _=>.non)=((((qs.map gf).drop (sz * i)).take sz).map fun c=>((c:Nat):Int)).map V.int:=by
    rw[List.filter_eq_self.mpr fun _ _=>rfl,← List.map_drop,← List.map_take,List.map_map,List.map_map,List.map_map]
    rfl
   rw[e8] at hL8
   refine⟨lr,_,rfl,SqL.of hL8,by rw[List.length_map,List.length_take,List.length_drop,List.length_map];omega,fun l9 ms hl9 hp9 pw9=>?_⟩
   obtain⟨ds,e1,e2,e3⟩:=ints_nat hp9
   rw[e1]
   have a9:=same_upd hl9 (.lst (vN ds))
   refine hR _ _ ((s7.trans s8).trans a9) ⟨l9,ds,rfl,fun z=>?_,upd_same,e2,e3 pw9⟩
   rw[z] at hl9
   rw[(s7.trans s8) _ _ hL] at hl9
   cases hl9
  ·obtain⟨as,rfl,has⟩:=refs_at (fun i p=>∃ cs:List Nat,H5 p=some (.lst (vN cs))∧cs.Perm (((qs.map gf).drop (sz * i)).take sz)∧cs.Pairwise (·≤·)) vs 0 fun i v hv=>by
    obtain⟨av,cs,g1,g2,g3,g4,g5⟩:=hvs i v hv
    exact⟨av,g1,cs,g3,by rw[Nat.zero_add];exact g4,g5⟩
   rw[List.length_map] at hvl
   have cho:∀ j,j < as.length→∃ cs:List Nat,H5 (as.getD j 0)=some (.lst (vN cs))∧cs.Perm (((qs.map gf).drop (sz * j)).take sz)∧cs.Pairwise (·≤·):=fun j hj=>by
    obtain⟨cs,h⟩:=has j _ (List.getElem?_eq_getElem hj)
    rw[Nat.zero_add] at h
    refine⟨cs,?_,h.2⟩
    rw[List.getD_eq_getElem?_getD,List.getElem?_eq_getElem hj]
    exact h.1
   have fch:∃ g:Nat→List Nat,∀ j,j < as.length→H5 (as.getD j 0)=some (.lst (vN (g j)))∧(g j).Perm (((qs.map gf).drop (sz * j)).take sz)∧(g j).Pairwise (·≤·):=by
    classical
    refine⟨fun j=>if h:j < as.length then Classical.choose (cho j h) else [],fun j hj=>?_⟩
    dsimp only
    rw[dif_pos hj]
    exact Classical.choose_spec (cho j hj)
   obtain⟨g,hg⟩:=fch
   refine hR _ _ ⟨l,as,(List.range as.length).map g,rfl,sm,hL,⟨by rw[List.length_map,List.length_range],fun j av hj=>?_⟩,deal_ok2 ok pqs szn (by rw[List.length_map,List.length_range,hvl]) (fun j cs e=>?_) fun cs hcs=>?_⟩
   ·have jl:=(List.getElem?_eq_some_iff.mp hj).1
    refine⟨g j,by rw[List.getElem?_map,List.getElem?_range jl];rfl,?_⟩
    have:=(hg j jl).1
    rw[List.getD_eq_getElem?_getD,hj] at this
    exact this
   ·rw[List.getElem?_map] at e
    obtain⟨i,hi,rfl⟩:=Option.map_eq_some_iff.mp e
    have jl:j < as.length:=by
     have:=(List.getElem?_eq_some_iff.mp hi).1
     rw[List.length_range] at this
     exact this
    rw[List.getElem?_range jl] at hi
    cases hi
    exact(hg j jl).2.1
   ·obtain⟨j,hj,rfl⟩:=List.mem_map.mp hcs
    exact(hg j (List.mem_range.mp hj)).2.2
 obtain⟨l,as,css,rfl,s4',hL4,hDl4,D⟩:=z
 have s24:=s23.trans s4'
 refine set_nm (fun v H5=>Same H4 H5∧∃(st:Addr) (lead:Nat),v = .ref st∧IsSt H5 st css lead []∧StOk fx css lead [] sz∧((css.map hN).map (pcK 32)).sum=fx.n * sz) (fun R hR=>?_) (fun v H5 z=>?_)
 ·refine⟨_,rfl,_,rfl,a,ns,6,rfl,s24.seq hS,h63,by decide,by decide,fun c4=>⟨_,rfl,_,_,rfl,rfl,(by show(0:Int) < ((fx.n:Nat):Int);omega),fits3 0 (by decide),fun tz htz=>⟨fits3 3 (by decide),fun p hp=>?_⟩⟩⟩
  have r0:=Int.emod_nonneg c4 (show((fx.n:Nat):Int)≠0 by omega)
  have r1:=Int.emod_lt_of_pos c4 (show(0:Int) < ((fx.n:Nat):Int) by omega)
  obtain⟨lead,el⟩:∃ lead:Nat,c4 % ((fx.n:Nat):Int)=(lead:Nat):=⟨(c4 % ((fx.n:Nat):Int)).toNat,by omega⟩
  have hl0':lead < fx.n:=by omega
  have a6:=same_upd htz (.lst [])
  have a7:=same_upd hp (.tup [.ref l,.int (c4 % ((fx.n:Nat):Int)),.ref tz])
  have a67:=a6.trans a7
  exact hR _ _ ⟨a67,p,lead,rfl,⟨l,tz,as,(by rw[upd_same];show some (HO.tup [V.ref l,V.int (c4 % ((fx.n:Nat):Int)),V.ref tz])=_;rw[el]),a67 _ _ hL4,hDl4.same a67,a7 _ _ upd_same⟩,D.st ok hl0',D.total ok⟩
 obtain⟨s5,st0,lead0,rfl,hSt0,S0,tot0⟩:=z
 have s25:=s24.trans s5
 have emin:(if((fx.n:Nat):Int) * ((sz:Nat):Int) < ((steps:Nat):Int) then((fx.n:Nat):Int) * ((sz:Nat):Int) else((steps:Nat):Int))=((min steps (fx.n * sz):Nat):Int):=by
  rw[← Int.natCast_mul]
  split<;>omega
 have mn:min steps (fx.n * sz)≤1000:=by omega
 refine seq_cut (fun σ H2'=>Same H5 H2'∧∃(st:Addr) (css:List (List Nat)) (lead m:Nat) (ys:List Nat) (x14 x15:Option V),σ=[some (.ref a),some (.ref d),some (.int (steps:Nat)),some (.int (fx.n:Nat)),some (.int (fx.s:Nat)),some (.int (sz:Nat)),some (.str (wd fx.d)),some (.int (trI t)),some (.ref lo),some (.ref lk),x10,some (.ref lq),some (.ref l),some (.ref st),x14,x15]∧IsSt H2' st css lead ys∧StOk fx css lead ys m∧((css.map hN).map (pcK 32)).sum+min steps (fx.n * sz)=fx.n * sz) (fun D' er nx=>?_) (fun σ H6 z=>?_)
 ·refine⟨_,rfl,_,rfl,_,rfl,_,_,rfl,rfl,.inl ⟨by omega,by omega⟩,_,_,rfl,((min steps (fx.n * sz):Nat):Int),(congrArg (fun x=>[V.int x]) emin),by omega,by omega,?_⟩
  refine for_range (n:=min steps (fx.n * sz)) (fun i σ H2'=>Same H5 H2'∧∃(st:Addr) (css:List (List Nat)) (lead m:Nat) (ys:List Nat) (x14 x15:Option V),σ=[some (.ref a),some (.ref d),some (.int (steps:Nat)),some (.int (fx.n:Nat)),some (.int (fx.s:Nat)),some (.int (sz:Nat)),some (.str (wd fx.d)),some (.int (trI t)),some (.ref lo),some (.ref lk),x10,some (.ref lq),some (.ref l),some (.ref st),x14,x15]∧IsSt H2' st css lead ys∧StOk fx css lead ys m∧((css.map hN).map (pcK 32)).sum+i=fx.n * sz) ⟨Same.refl H5,st0,css,lead0,sz,[],none,none,rfl,hSt0,S0,tot0⟩ (fun i σ H6 hi z=>?_) (fun σ H6 z=>nx _ _ z)
  obtain⟨s6,st,css',lead,m,ys,x14,x15,rfl,hSt,S,tot⟩:=z
  have sA:=s25.trans s6
  have hS6:=sA.seq hS
  have hRt6:=hRt.same sA
  obtain⟨lc,lt,as',h1,h2,h3,h4⟩:=id hSt
  have mp:=S.pos tot (by omega)
  obtain⟨cs,ec,ecl⟩:=S.turn ok
  have cm:=List.mem_of_getElem? ec
  have cl:=(S.cl ok cm).1
  have csn:cs≠[]:=fun z=>by rw[z] at ecl;simp at ecl;omega
  have sl:(lead+ys.length) % fx.n < as'.length:=by rw[h3.1,S.len];exact seat_lt ok _ _
  obtain⟨cs',e1,e2⟩:=h3.2 _ _ (List.getElem?_eq_getElem sl)
  rw[ec] at e1
  cases e1
  refine set_nm (fun v H7=>Same H6 H7∧∃(l6:Addr) (so:List Nat),v = .ref l6∧H7 l6=some (.lst (vN so))∧so≠[]∧(∀ x∈so,x∈cs)∧so.length≤32) (fun R hR=>?_) (fun v H7 z=>?_)
  ·refine⟨_,rfl,_,rfl,st,_,_,_,rfl,rfl,SqT.of h1,(rfl:atI [V.ref lc,V.int (lead:Nat),V.ref lt] 0=some (V.ref lc)),_,rfl,st,css',lead,ys,rfl,hSt,by rw[S.len];exact n0,lc,_,_,V.ref as'[(lead+ys.length) % fx.n],rfl,rfl,SqL.of h2,(by rw[S.len];exact atI_nat (by rw[List.getElem?_map,List.getElem?_eq_getElem sl];rfl)),_,rfl,st,_,_,_,rfl,rfl,SqT.of h1,(rfl:atI [V.ref lc,V.int (lead:Nat),V.ref lt] 2=some (V.ref lt)),?_⟩
   refine⟨d,as'[(lead+ys.length) % fx.n],lt,fx,t,sz,cs,ys,rfl,ok,hRt6,e2,h4,by omega,S.c32 ok cm,S.beg ok cm,fun o H7 s7 _ ho=>hR _ _ ⟨s7,o,_,rfl,ho,?_,?_,?_⟩⟩
   ·split
    ·exact csn
    ·exact alw_nn csn
   ·split
    ·exact fun x hx=>hx
    ·exact alw_sub _ _ _ _ _
   ·split
    ·exact cl
    ·exact len32 (alw_nd (S.nd cs cm)) fun c hc=>S.c32 ok cm c (alw_sub _ _ _ _ _ c hc)
  obtain⟨s7,l6,so,rfl,hL6,son,sos,sol⟩:=z
  have sop:=List.length_pos_iff.mpr son
  refine⟨_,rfl,_,rfl,_,rfl,_,rfl,_,rfl,_,_,rfl,rfl,a,ns,(100:Int)+(0+((i:Nat):Int)),rfl,s7.seq hS6,h63,by omega,by omega,fun c=>?_⟩
  have r0:=Int.emod_nonneg c (show((so.length:Nat):Int)≠0 by omega)
  have r1:=Int.emod_lt_of_pos c (show(0:Int) < ((so.length:Nat):Int) by omega)
  obtain⟨j,ej⟩:∃ j:Nat,c % ((so.length:Nat):Int)=(j:Nat):=⟨(c % ((so.length:Nat):Int)).toNat,by omega⟩
  have jl:j < so.length:=by omega
  have hx:so.getD j 0∈so:=by rw[List.getD_eq_getElem?_getD,List.getElem?_eq_getElem jl];exact List.getElem_mem _
  have hat:atI (vN so) (c % (((vN so).length:Nat):Int))=some (.int ((so.getD j 0:Nat):Int)):=by rw[vN_len,ej];exact at_vN jl
  refine⟨_,rfl,l6,_,rfl,.inl (SqL.of hL6),_,_,rfl,rfl,(by show(0:Int) < (((vN so).length:Nat):Int);rw[vN_len];omega),l6,_,_,_,rfl,rfl,SqL.of hL6,hat,?_⟩
  refine⟨d,st,fx,t,sz,css',lead,m,ys,cs,so.getD j 0,rfl,ok,hRt6.same s7,hSt.same s7,S,ec,sos _ hx,fun r st' lead' ys' tk H8 s8 hr8 hSt8 N=>?_⟩
  obtain⟨m',S',_,alt,_⟩:=S.put ok ec (sos _ hx) N
  have eh:(css'.map hN)[(lead+ys.length) % fx.n]? = some (hN cs):=by rw[List.getElem?_map,ec];rfl
  have hb:(hN cs).testBit (so.getD j 0)=true:=by rw[hN_bit];exact decide_eq_true (sos _ hx)
  obtain⟨_,_,_,S2,_⟩:=N.plc ok S.plc eh hb
  refine⟨r,_,_,_,rfl,rfl,SqT.of hr8,(rfl:atI [V.ref st',tkV tk] 0=some (V.ref st')),?_⟩
  exact⟨(s6.trans s7).trans s8,st',_,lead',m',ys',_,_,rfl,hSt8.is,S',by omega⟩
 obtain⟨s6,st,css',lead,m,ys,x14,x15,rfl,hSt,S,tot⟩:=z
 exact⟨_,rfl,q st css' lead ys m H6 (s25.trans s6) hSt S tot⟩
end
end My
namespace My
open PySem L2
section
variable{P:Program}{w:World}{K:PySem.W.Frag}{mg:Str→Option Value}{base:Heap}{f g:Addr}{fd gd:FuncData}
noncomputable def bestL (fx:Fx) (t:Option Nat) (side:Nat) (hs:List Nat) (lead:Nat) (ys:List Nat) (m:Nat):List Nat:=((prL fx t side hs lead ys m).filter fun x=>decide (x.2=pickN (side.testBit ((lead+ys.length) % fx.n)) ((prL fx t side hs lead ys m).map (·.2)))).map (·.1)
end
end My
namespace My
open PySem L2
section
variable{f:Fx}{hs ys ws:List Nat}{lead m i:Nat}
end
end My
namespace My
open PySem L2
end My
namespace L2
open PySem PySem.Spec PyProof.Rows
abbrev hk(kk:Value→Int):PyProof.Rows.KeyKind:={ α:=Int,blt:=fun a b=>decide (a < b),irrefl:=fun a=>by simp,trans:=fun a b c h1 h2=>by simp at *;omega,negTrans:=fun a b c h=>by simp at *;omega,total:=fun a b h1 h2=>by simp at *;omega,keyOf:=fun v=>some (kk v),dflt:=0 }
def kAt(kk:Value→Int)(xs:Array Keyed)(i:Nat):Int:=match xs[i]? with | some p=>kk p.1 | none=>0
theorem kAt_KK(kk:Value→Int)(xs:Array Keyed)(i:Nat):kAt kk xs i=KK (hk kk) xs i:=by
 unfold kAt KK
 cases xs[i]? <;> rfl
theorem kAt_bubble{kk:Value→Int}{xs:Array Keyed}{src d:Nat}(h1:src < xs.size)(h2:d≤src)(k:Nat):kAt kk (bubble xs src d) k=if k=src - d then kAt kk xs src else if src - d < k∧k≤src then kAt kk xs (k - 1) else kAt kk xs k:=by
 rw[kAt_KK,KK_bubble h1 h2 k,kAt_KK,kAt_KK,kAt_KK]
theorem kAt_mirror{kk:Value→Int}{xs:Array Keyed}{i j:Nat}(h:j≤xs.size)(k:Nat):kAt kk (mirror xs i j ((j - i) / 2)) k=if i≤k∧k < j then kAt kk xs (i+j - 1 - k) else kAt kk xs k:=by
 rw[kAt_KK,KK_mirror h k,kAt_KK,kAt_KK]
theorem nd_get{α:Type}{l:List α}(nd:l.Nodup){i j:Nat}(hi:i < l.length)(hj:j < l.length)(e:l[i]=l[j]):i=j:=by
 have pw:=List.pairwise_iff_getElem.mp nd
 rcases Nat.lt_trichotomy i j with z | z | z
 ·exact absurd e (pw i j hi hj z)
 ·exact z
 ·exact absurd e.symm (pw j i hj hi z)
def SrtTo(kk:Value→Int)(xs:Array Keyed)(k:Nat):Prop:=∀ i j,i < j→j < k→kAt kk xs i < kAt kk xs j
def DscTo(kk:Value→Int)(xs:Array Keyed)(k:Nat):Prop:=∀ i j,i < j→j < k→kAt kk xs j < kAt kk xs i
section
variable{P:Program}{w:World}{A:Around}{E:Value→Shared→Prop}{s:Shared}{kd:SortKind}{a0:Array Keyed}{kk:Value→Int}
def CmpB(P:Program)(w:World)(A:Around)(s:Shared)(kd:SortKind)(kk:Value→Int)(ks:List Value):Prop:=
 ∀ x∈ks,∀ y∈ks,∀(E:Value→Shared→Prop) (Q:Bool→Shared→Prop),Q (decide (kk x < kk y)) s→wpAny (model P w) A (keyLt' kd x y) Q E s
theorem SB.getK{st:SortSt}{i:Nat}(h:SB kd a0 st)(hi:i < a0.size):∃ x p,(arrOf st)[i]? = some (x,p)∧x∈a0.toList.map (·.1)∧kAt kk (arrOf st) i=kk x:=by
 obtain⟨x,p,e,m⟩:=h.get hi
 exact⟨x,p,e,m,by unfold kAt;rw[e]⟩
theorem SB.ne{st:SortSt}(h:SB kd a0 st)(nd:(a0.toList.map fun p=>kk p.1).Nodup){i j:Nat}(hi:i < a0.size)(hj:j < a0.size)(ne:i≠j):kAt kk (arrOf st) i≠kAt kk (arrOf st) j:=by
 have pm:=(Array.perm_iff_toList_perm.mp h.pm).map fun p:Keyed=>kk p.1
 have nd2:((arrOf st).toList.map fun p=>kk p.1).Nodup:=pm.nodup_iff.mpr nd
 have sz:=h.sz
 have g:∀ i,i < a0.size→((arrOf st).toList.map fun p=>kk p.1)[i]? = some (kAt kk (arrOf st) i):=fun i hi=>by
  rw[List.getElem?_map,Array.getElem?_toList]
  unfold kAt
  rw[getElem?_pos (arrOf st) i (by omega)]
  rfl
 intro e
 have l:((arrOf st).toList.map fun p=>kk p.1).length=a0.size:=by rw[List.length_map,Array.length_toList,sz]
 have h1:i < ((arrOf st).toList.map fun p=>kk p.1).length:=by omega
 have h2:j < ((arrOf st).toList.map fun p=>kk p.1).length:=by omega
 have g1:=g i hi
 have g2:=g j hj
 rw[List.getElem?_eq_getElem h1] at g1
 rw[List.getElem?_eq_getElem h2] at g2
 refine ne (nd_get nd2 h1 h2 ?_)
 rw[Option.some.inj g1,Option.some.inj g2,e]
theorem lt_by{st:SortSt}{i j:Nat}{Q:Option Bool→SortSt→Prop}(hC:CmpB P w A s kd kk (a0.toList.map (·.1)))(hB:SB kd a0 st)(hi:i < a0.size)(hj:j < a0.size)(h:Q (some (decide (kAt kk (arrOf st) i < kAt kk (arrOf st) j))) st):wpS (model P w) A E s (ltAt' i j) Q st:=by
 obtain⟨x,p,e1,m1,k1⟩:=hB.getK (kk:=kk) hi
 obtain⟨y,q,e2,m2,k2⟩:=hB.getK (kk:=kk) hj
 rw[k1,k2] at h
 rw[ltAt'_eq]
 refine wpS_bind (wpS_get (show wpS _ _ _ _ (do let x ← elem' (arrOf st) i;let y ← elem' (arrOf st) j;lt' x y) Q st from ?_))
 rw[elem'_eq,elem'_eq,e1,e2]
 refine wpS_bind (wpS_pure (wpS_bind (wpS_pure (show wpS _ _ _ _ (lt' (x,p) (y,q)) Q st from ?_))))
 rw[lt'_eq]
 refine wpS_bind (wpS_get (show wpS _ _ _ _ (do let r ← (liftM (keyLt' (kindOf st) x y).attempt:StateT SortSt Sem _);_) Q st from ?_))
 rw[hB.kn]
 exact wpS_bind (wpS_lift (wpAny_attempt (hC x m1 y m2 _ _ ⟨rfl,wpS_pure h⟩)))
variable(hC:CmpB P w A s kd kk (a0.toList.map (·.1)))(nd:(a0.toList.map fun p=>kk p.1).Nodup)
include hC nd
theorem asc_by{st:SortSt}{a m:Nat}{Q:AscSt→SortSt→Prop}(hm:m≤a0.size)(h1:1≤a)(h2:a≤m)(hB:SB kd a0 st)(hs:SrtTo kk (arrOf st) a)(h:∀ n,a≤n→n≤m→SrtTo kk (arrOf st) n→(n < m→kAt kk (arrOf st) n < kAt kk (arrOf st) (n - 1))→Q (none,n) st):wpS (model P w) A E s (ascLoop a m) Q st:=by
 unfold ascLoop
 refine wpS_forRange (I:=fun x c t=>t=st∧c=(none,x)∧SrtTo kk (arrOf st) x) (fun x c t hx1 hx2 z=>?_) (fun c t z=>?_) ⟨rfl,rfl,hs⟩
 ·obtain⟨rfl,rfl,hx⟩:=z
  refine wpS_bind (lt_by hC hB (by dsimp only;omega) (by dsimp only;omega) ?_)
  dsimp only
  by_cases c:kAt kk (arrOf t) x < kAt kk (arrOf t) (x - 1)
  ·rw[decide_eq_true c]
   exact wpS_pure (h x hx1 (by omega) hx fun _=>c)
  ·rw[decide_eq_false c]
   refine wpS_pure ⟨rfl,rfl,fun i j hij hj=>?_⟩
   by_cases e:j=x
   ·subst e
    have ne:=hB.ne nd (i:=j) (j:=j - 1) (by omega) (by omega) (by omega)
    by_cases e2:i=j - 1
    ·rw[e2];omega
    ·have:=hx i (j - 1) (by omega) (by omega)
     omega
   ·exact hx i j hij (by omega)
 ·obtain⟨rfl,rfl,hx⟩:=z
  have e:max a m=m:=by omega
  rw[e] at hx ⊢
  exact h _ h2 (Nat.le_refl _) hx fun z=>absurd z (Nat.lt_irrefl _)
theorem tail_by{st:SortSt}{n m:Nat}{Q:Option Nat→SortSt→Prop}(hm:m≤a0.size)(h1:1≤n)(h2:n≤m)(hB:SB kd a0 st)(hd:DscTo kk (arrOf st) n)(h:∀ k t,SB kd a0 t→1≤k→k≤m→SrtTo kk (arrOf t) k→Q (some k) t):wpS (model P w) A E s (tail3 n m) Q st:=by
 unfold tail3
 have hB2:SB kd a0 (setArr st (mirror (arrOf st) 0 n ((n - 0) / 2))):=hB.put (mirror_perm _ _ _ _)
 have hs:SrtTo kk (arrOf (setArr st (mirror (arrOf st) 0 n ((n - 0) / 2)))) n:=fun i j hij hj=>by
  show kAt kk (mirror (arrOf st) 0 n ((n - 0) / 2)) i < kAt kk (mirror (arrOf st) 0 n ((n - 0) / 2)) j
  rw[kAt_mirror (by rw[hB.sz];omega),kAt_mirror (by rw[hB.sz];omega),if_pos (by omega),if_pos (by omega)]
  exact hd _ _ (by omega) (by omega)
 exact wpS_bind (wpS_reverse (wpS_bind (asc_by hC nd hm h1 h2 hB2 hs fun k k1 k2 k3 _=>wpS_pure (h k _ hB2 (by omega) k2 k3))))
theorem desc_by{st:SortSt}{n m:Nat}{Q:DescSt→SortSt→Prop}(hm:m≤a0.size)(h1:1≤n)(h2:n≤m)(hB:SB kd a0 st)(hd:DscTo kk (arrOf st) n)(h:∀ k,n≤k→k≤m→DscTo kk (arrOf st) k→Q (none,k,0) st):wpS (model P w) A E s (descLoop n m) Q st:=by
 unfold descLoop
 refine wpS_forRange (I:=fun x c t=>t=st∧c=(none,x,0)∧DscTo kk (arrOf st) x) (fun x c t hx1 hx2 z=>?_) (fun c t z=>?_) ⟨rfl,rfl,hd⟩
 ·obtain⟨rfl,rfl,hx⟩:=z
  refine wpS_bind (lt_by hC hB (by dsimp only;omega) (by dsimp only;omega) ?_)
  dsimp only
  have ne:=hB.ne nd (i:=x) (j:=x - 1) (by omega) (by omega) (by omega)
  by_cases c:kAt kk (arrOf t) x < kAt kk (arrOf t) (x - 1)
  ·rw[decide_eq_true c]
   refine wpS_pure ⟨rfl,rfl,fun i j hij hj=>?_⟩
   by_cases e:j=x
   ·subst e
    by_cases e2:i=j - 1
    ·rw[e2];omega
    ·have:=hx i (j - 1) (by omega) (by omega)
     omega
   ·exact hx i j hij (by omega)
  ·rw[decide_eq_false c]
   refine wpS_bind (lt_by hC hB (by omega) (by omega) ?_)
   rw[decide_eq_true (show kAt kk (arrOf t) (x - 1) < kAt kk (arrOf t) x by omega)]
   exact wpS_pure (h x hx1 (by omega) hx)
 ·obtain⟨rfl,rfl,hx⟩:=z
  have e:max n m=m:=by omega
  rw[e] at hx ⊢
  exact h _ h2 (Nat.le_refl _) hx
theorem part_by{st:SortSt}{n m:Nat}{Q:Option Nat→SortSt→Prop}(hm:m≤a0.size)(h2:n+1≤m)(hB:SB kd a0 st)(hd:DscTo kk (arrOf st) (n+1))(h:∀ k t,SB kd a0 t→1≤k→k≤m→SrtTo kk (arrOf t) k→Q (some k) t):wpS (model P w) A E s (descPart n m) Q st:=by
 unfold descPart
 refine wpS_bind (wpS_lift (wpAny_rule ⟨rfl,wpS_bind (desc_by hC nd hm (by omega) h2 hB hd fun k k1 k2 k3=>?_)⟩))
 show wpS _ _ _ _ (if 0 > 0 then _ else _) _ _
 rw[if_neg (by decide)]
 exact tail_by hC nd hm (by dsimp only;omega) (by dsimp only;omega) hB k3 h
theorem count_by{st:SortSt}{m:Nat}{Q:Option Nat→SortSt→Prop}(hm:m≤a0.size)(h1:1≤m)(hB:SB kd a0 st)(h:∀ k t,SB kd a0 t→1≤k→k≤m→SrtTo kk (arrOf t) k→Q (some k) t):wpS (model P w) A E s (countRun' 0 m) Q st:=by
 rw[countRun0_eq]
 refine wpS_bind (asc_by hC nd hm (Nat.le_refl 1) h1 hB (fun i j a b=>by omega) fun n n1 n2 n3 n4=>?_)
 show wpS _ _ _ _ (if(n == m)=true then _ else if n > 1 then _ else _) _ _
 split
 ·exact wpS_pure (h n st hB n1 n2 n3)
 ·rename_i ne
  have ne2:n≠m:=fun z=>ne (beq_iff_eq.mpr z)
  split
  ·refine wpS_bind (lt_by hC hB (by omega) (by dsimp only;omega) ?_)
   dsimp only
   rw[decide_eq_true (n3 0 (n - 1) (by omega) (by omega))]
   exact wpS_pure (h n st hB n1 n2 n3)
  ·have e:n=1:=by omega
   subst e
   refine part_by hC nd hm (by dsimp only;omega) hB (fun i j a b=>?_) h
   have ei:i=0:=by omega
   have ej:j=1:=by omega
   rw[ei,ej]
   exact n4 (by omega)
theorem ins_by{st:SortSt}{n ok:Nat}{Q:Bool→SortSt→Prop}(hn:n≤a0.size)(ho:ok≤n)(hB:SB kd a0 st)(hs:SrtTo kk (arrOf st) ok)(h:∀ t,SB kd a0 t→SrtTo kk (arrOf t) n→Q true t):wpS (model P w) A E s (binarySort' 0 n ok) Q st:=by
 rw[binarySort'_eq]
 refine wpS_bind (wpS_mono (wpS_forRange (I:=fun x c t=>c=(none,())∧SB kd a0 t∧SrtTo kk (arrOf t) x) (Q:=fun c t=>c=(none,())∧SB kd a0 t∧SrtTo kk (arrOf t) n) (fun k c t hk1 hk2 z=>?_) (fun c t z=>⟨z.1,z.2.1,fun i j a b=>z.2.2 i j a (by omega)⟩) ⟨rfl,hB,fun i j a b=>hs i j a (by omega)⟩) fun c t z=>?_)
 ·obtain⟨rfl,hB2,hS2⟩:=z
  refine wpS_bind (wpS_mono (wpS_forRange (I:=fun x c u=>u=t∧∃ l r,c=(none,l,r)∧l≤r∧r≤k∧r - l+x≤k∧(∀ i,i < l→kAt kk (arrOf t) i < kAt kk (arrOf t) k)∧(∀ i,r≤i→i < k→kAt kk (arrOf t) k < kAt kk (arrOf t) i))
   (Q:=fun c u=>u=t∧∃ l r,c=(none,l,r)∧l≤k∧(∀ i,i < l→kAt kk (arrOf t) i < kAt kk (arrOf t) k)∧(∀ i,l≤i→i < k→kAt kk (arrOf t) k < kAt kk (arrOf t) i)) (fun x c u hx1 hx2 y=>?_) (fun c u y=>?_) ⟨rfl,0,k,rfl,Nat.zero_le _,Nat.le_refl k,by omega,fun i hi=>absurd hi (Nat.not_lt_zero _),fun i a b=>by omega⟩) fun c u y=>?_)
  ·obtain⟨rfl,l,r,rfl,lr,rk,fu,y1,y2⟩:=y
   show wpS _ _ _ _ (if l ≥ r then _ else _) _ _
   split
   ·rename_i ge
    have e:l=r:=by omega
    subst e
    exact wpS_pure ⟨rfl,l,l,rfl,rk,y1,y2⟩
   ·refine wpS_bind (lt_by hC hB2 (by omega) (by dsimp only;omega) ?_)
    dsimp only
    rw[Nat.zero_add,Nat.zero_add]
    have ne:=hB2.ne nd (i:=k) (j:=(l+r) / 2) (by omega) (by omega) (by omega)
    by_cases c:kAt kk (arrOf u) k < kAt kk (arrOf u) ((l+r) / 2)
    ·rw[decide_eq_true c]
     refine wpS_pure ⟨rfl,l,(l+r) / 2,rfl,by omega,by omega,by omega,y1,fun i a b=>?_⟩
     by_cases e:i=(l+r) / 2
     ·rw[e];exact c
     ·have:=hS2 ((l+r) / 2) i (by omega) b
      omega
    ·rw[decide_eq_false c]
     refine wpS_pure ⟨rfl,(l+r) / 2+1,r,rfl,by omega,rk,by omega,fun i a=>?_,y2⟩
     by_cases e:i=(l+r) / 2
     ·rw[e];omega
     ·have:=hS2 i ((l+r) / 2) (by omega) (by omega)
      omega
  ·obtain⟨rfl,l,r,rfl,lr,rk,fu,y1,y2⟩:=y
   have e:l=r:=by
    have:max 0 k=k:=by omega
    rw[this] at fu
    omega
   subst e
   exact⟨rfl,l,l,rfl,rk,y1,y2⟩
  ·obtain⟨rfl,l,r,rfl,lk,y1,y2⟩:=y
   show wpS _ _ _ _ (do moveDown' (0+k) (0+l);pure (ForInStep.yield (none,()))) _ _
   rw[moveDown'_eq,Nat.zero_add,Nat.zero_add]
   refine wpS_bind (wpS_modify (wpS_pure ⟨rfl,hB2.put (bubble_perm _ _ _),fun i j a b=>?_⟩))
   show kAt kk (bubble (arrOf u) k (k - l)) i < kAt kk (bubble (arrOf u) k (k - l)) j
   have kz:k < (arrOf u).size:=by rw[hB2.sz];omega
   have ek:k - (k - l)=l:=by omega
   rw[kAt_bubble kz (by omega),kAt_bubble kz (by omega),ek]
   by_cases c1:i=l
   ·rw[if_pos c1,if_neg (by omega),if_pos (by omega)]
    exact y2 (j - 1) (by omega) (by omega)
   ·rw[if_neg c1]
    by_cases c2:l < i∧i≤k
    ·rw[if_pos c2,if_neg (by omega),if_pos (by omega)]
     exact hS2 (i - 1) (j - 1) (by omega) (by omega)
    ·rw[if_neg c2]
     by_cases c3:j=l
     ·rw[if_pos c3]
      exact y1 i (by omega)
     ·rw[if_neg c3]
      by_cases c4:l < j∧j≤k
      ·rw[if_pos c4]
       by_cases c5:i=j - 1
       ·exfalso;omega
       ·exact hS2 i (j - 1) (by omega) (by omega)
      ·rw[if_neg c4]
       exact hS2 i j a (by omega)
 ·obtain⟨rfl,hB2,hS2⟩:=z
  exact wpS_pure (h t hB2 hS2)
theorem runs_by{st:SortSt}{Q:Unit→SortSt→Prop}(hB:SB kd a0 st)(h2:1≤a0.size)(h64:a0.size < 64)(h:∀ t,(arrOf t).Perm a0→failedOf t=none→SrtTo kk (arrOf t) a0.size→Q () t):wpS (model P w) A E s sortRuns' Q st:=by
 have mr:minRun' a0.size a0.size 0=a0.size:=by
  obtain⟨f,hf⟩:∃ f,a0.size=f+1:=⟨a0.size - 1,by omega⟩
  rw[hf,minRun'_succ,if_pos (by omega)]
 have dn:∀ t,SB kd a0 t→SrtTo kk (arrOf t) a0.size→(arrOf (setPending t ((pendingOf t).push (0,a0.size,0)))).Perm a0∧failedOf (setPending t ((pendingOf t).push (0,a0.size,0)))=none∧pendingOf (setPending t ((pendingOf t).push (0,a0.size,0))) = #[(0,a0.size,0)]∧SrtTo kk (arrOf (setPending t ((pendingOf t).push (0,a0.size,0)))) a0.size:=
  fun t hB hs=>⟨hB.pm,hB.fl,by show(pendingOf t).push _=_;rw[hB.pn];rfl,hs⟩
 rw[sortRuns'_eq]
 refine wpS_bind (wpS_get ?_)
 dsimp only
 simp only[hB.sz,mr]
 refine wpS_bind (wpS_mono (wpS_forRange (I:=fun x c t=>(x=0∧c=(none,0)∧SB kd a0 t)∨(c=(none,a0.size)∧(arrOf t).Perm a0∧failedOf t=none∧pendingOf t = #[(0,a0.size,0)]∧SrtTo kk (arrOf t) a0.size))
  (Q:=fun c t=>c=(none,a0.size)∧(arrOf t).Perm a0∧failedOf t=none∧pendingOf t = #[(0,a0.size,0)]∧SrtTo kk (arrOf t) a0.size) (fun x c t hx1 hx2 z=>?_) (fun c t z=>?_) (.inl ⟨rfl,rfl,hB⟩)) fun c t z=>?_)
 ·rcases z with⟨rfl,rfl,hB2⟩ | ⟨rfl,hD⟩
  ·dsimp only
   rw[if_neg (show ¬ 0 ≥ a0.size by omega)]
   simp only[Nat.sub_zero,Nat.min_self,Nat.zero_add]
   refine wpS_bind (count_by hC nd (Nat.le_refl _) h2 hB2 fun k u hB3 k1 k2 k3=>?_)
   dsimp only
   have bk:∀ v,SB kd a0 v→(pendingOf v).back? = none:=fun v hv=>by rw[hv.pn];rfl
   by_cases lt:k < a0.size
   ·rw[if_pos lt]
    refine wpS_bind (wpS_lift (wpAny_rule ⟨rfl,wpS_bind (ins_by hC nd (Nat.le_refl _) k2 hB3 k3 fun v hB4 k4=>?_)⟩))
    rw[if_neg (show ¬ (!true)=true by decide)]
    refine wpS_bind (wpS_get ?_)
    rw[bk v hB4]
    exact wpS_bind (wpS_modify (wpS_pure (.inr ⟨rfl,dn v hB4 k4⟩)))
   ·rw[if_neg lt]
    have ek:k=a0.size:=by omega
    subst ek
    refine wpS_bind (wpS_get ?_)
    rw[bk u hB3]
    exact wpS_bind (wpS_modify (wpS_pure (.inr ⟨rfl,dn u hB3 k3⟩)))
  ·dsimp only
   rw[if_pos (Nat.le_refl _)]
   exact wpS_pure ⟨rfl,hD⟩
 ·rcases z with⟨hx,_,_⟩ | hD
  ·omega
  ·exact hD
 ·obtain⟨rfl,d1,d2,d3,d4⟩:=z
  refine wpS_bind (wpS_mono (wpS_forRange (I:=fun _ c u=>u=t∧c=(none,())) (Q:=fun c u=>u=t∧c=(none,())) (fun x c u _ _ y=>?_) (fun _ _ y=>y) ⟨rfl,rfl⟩) fun c u y=>?_)
  ·obtain⟨rfl,rfl⟩:=y
   refine wpS_bind (wpS_get ?_)
   rw[if_pos (by rw[d3];exact Nat.le_refl 1)]
   exact wpS_pure ⟨rfl,rfl⟩
  ·obtain⟨rfl,rfl⟩:=y
   exact wpS_pure (h _ d1 d2 d4)
end
section
variable{P:Program}{w:World}{A:Around}{E:Value→Shared→Prop}{s:Shared}{kd:SortKind}{kk:Value→Int}
structure KeysB(P:Program)(w:World)(A:Around)(s:Shared)(kd:SortKind)(kk:Value→Int)(vs:List Value):Prop where
 kind:2≤vs.length→∀(E:Value→Shared→Prop) (Q:SortKind→Shared→Prop),Q kd s→wpAny (model P w) A (keyKind' vs.toArray) Q E s
 cmp:CmpB P w A s kd kk vs
theorem rise_out{vs:List Value}{xs:Array Keyed}(hp:xs.Perm (pairsOf vs))(hs:SrtTo kk xs (pairsOf vs).size):(xs.map (·.2)).toList.Pairwise fun x y=>kk x < kk y:=by
 rw[Array.toList_map,List.pairwise_iff_getElem]
 intro i j hi hj hij
 have szx:xs.size=(pairsOf vs).size:=hp.size_eq
 rw[List.length_map,Array.length_toList] at hi hj
 have same:∀ p∈xs.toList,p.1=p.2:=fun p hpm=>by
  have:=(Array.perm_iff_toList_perm.mp hp).mem_iff.mp hpm
  rw[pairsOf_toList] at this
  obtain⟨k,hk,ek⟩:=List.mem_iff_getElem.mp this
  rw[List.getElem_zip] at ek
  rw[← ek]
 have z:=hs i j hij (by omega)
 unfold kAt at z
 rw[getElem?_pos xs i hi,getElem?_pos xs j hj] at z
 have e1:=same xs[i] (by simp)
 have e2:=same xs[j] (by simp)
 simp only[List.getElem_map,Array.getElem_toList]
 rw[← e1,← e2]
 exact z
theorem sort_by{a:Addr}{vs:List Value}{n:Nat}{R:Fin→Shared→Prop}(ho:s.heap.get? a=some (seqObj "list" vs.toArray n))(h64:vs.length < 64)(nd:(vs.map kk).Nodup)
  (hK:∀ h',(∀ b o,b≠a→s.heap.get? b=some o→h'.get? b=some o)→KeysB P w A { s with heap:=h' } kd kk vs)
  (h:∀ out:Array Value,out.toList.Perm vs→(out.toList.Pairwise fun x y=>kk x < kk y)→R (.done (.ret .none)) { s with heap:=sortedHeap s.heap a vs out }):wpAny (model P w) A (Builtin.«list.sort» ⟨[.ref a],[]⟩) R E s:=by
 have ha:a < s.heap.objs.size:=Heap.lt_size ho
 rw[list_sort_plain]
 refine wpAny_bind (listItems_at ho rfl (wpAny_bind (listUpdate_at ho rfl ?_)))
 obtain⟨e1,ho1⟩:∃ e,(s.heap.update a (Obj.mapSeq fun _=>#[])).get? a=some (seqObj "list" #[] e):=⟨_,get?_update_seq ho fun _=>#[]⟩
 refine wpAny_bind (seqEpoch_at ho1 rfl (wpAny_bind (wpAny_newTuple (wpAny_bind (wpAny_newList (wpAny_holding ?_))))))
 show wpAny (model P w) A _ R E { s with heap:=((s.heap.update a (Obj.mapSeq fun _=>#[])).push (seqObj "tuple" vs.toArray 0)).push (seqObj "list" #[] 0) }
 have ho6:(((s.heap.update a (Obj.mapSeq fun _=>#[])).push (seqObj "tuple" vs.toArray 0)).push (seqObj "list" #[] 0)).get? a=some (seqObj "list" #[] e1):=Heap.get?_push_of_some _ (Heap.get?_push_of_some _ ho1)
 have kp:=hK (((s.heap.update a (Obj.mapSeq fun _=>#[])).push (seqObj "tuple" vs.toArray 0)).push (seqObj "list" #[] 0)) fun b o hb q=>
  Heap.get?_push_of_some _ (Heap.get?_push_of_some _ (by rw[Heap.get?_update_other _ _ (Ne.symm hb)];exact q))
 have fin:∀ t:SortSt,(arrOf t).Perm (pairsOf vs)→SrtTo kk (arrOf t) (pairsOf vs).size→R (.done (.ret .none)) { s with heap:=sortedHeap s.heap a vs ((arrOf t).map (·.2)) }:=fun t hp hs=>h _ (pairs_perm hp) (rise_out hp hs)
 have sz:vs.toArray.size=vs.length:=List.size_toArray
 dsimp only
 have szp:∀ t:SortSt,(arrOf t).Perm (pairsOf vs)→((arrOf t).map (·.2)).size≤sizeLine+1:=fun t hp=>by
  rw[Array.size_map,hp.size_eq,pairsOf_size,sizeLine_eq]
  omega
 by_cases c2:vs.toArray.size < 2
 ·rw[if_pos c2,if_pos c2]
  refine wpAny_bind (wpAny_pure ?_)
  rw[StateT.run_pure]
  refine wpAny_bind (wpAny_pure ?_)
  dsimp only
  refine wpAny_bind (seqEpoch_at ho6 rfl (wpAny_bind (listUpdate_at ho6 rfl ?_ (hsz2:=szp (SortSt.mk' general' (vs.toArray.zip vs.toArray) #[] 7 none) (Array.Perm.refl _)))))
  rw[if_neg (by simp)]
  exact wpAny_pure (fin (SortSt.mk' general' (vs.toArray.zip vs.toArray) #[] 7 none) (Array.Perm.refl _) fun i j a b=>by rw[pairsOf_size] at b;omega)
 ·rw[if_neg c2,if_neg c2]
  refine wpAny_bind (kp.kind (by omega) _ _ ?_)
  have cm:CmpB P w A { s with heap:=((s.heap.update a (Obj.mapSeq fun _=>#[])).push (seqObj "tuple" vs.toArray 0)).push (seqObj "list" #[] 0) } kd kk ((pairsOf vs).toList.map (·.1)):=by
   rw[pairs_fst]
   exact kp.cmp
  have nd2:((pairsOf vs).toList.map fun p=>kk p.1).Nodup:=by
   have e:((pairsOf vs).toList.map fun p=>kk p.1)=vs.map kk:=by
    conv=>rhs;rw[← pairs_fst vs]
    rw[List.map_map]
    rfl
   rw[e]
   exact nd
  have run:=runs_by (E:=E) (Q:=fun _ t=>(arrOf t).Perm (pairsOf vs)∧failedOf t=none∧SrtTo kk (arrOf t) (pairsOf vs).size) cm nd2 (st:=SortSt.mk' kd (vs.toArray.zip vs.toArray) #[] 7 none) ⟨Array.Perm.refl _,rfl,rfl,rfl⟩ (by rw[pairsOf_size];omega) (by rw[pairsOf_size];exact h64) fun t a b c=>⟨a,b,c⟩
  refine wpAny_bind (wpAny_mono run (fun r s' z=>?_) fun _ _ e=>e)
  obtain⟨⟨⟩,t⟩:=r
  obtain⟨rfl,hp,hf,hr⟩:=z
  dsimp only
  refine wpAny_bind (seqEpoch_at ho6 rfl (wpAny_bind (listUpdate_at ho6 rfl ?_ (hsz2:=szp t hp))))
  rw[hf]
  dsimp only
  rw[if_neg (by simp)]
  exact wpAny_pure (fin t hp hr)
theorem sorted_by{l:Addr}{vs:List Value}{Q:Value→Shared→Prop}(hl:s.heap.IsList l vs.toArray)(h64:vs.length < 64)(nd:(vs.map kk).Nodup)
  (hK:∀ A' h',A'.units≤A.units+4→(∀ b o,s.heap.get? b=some o→h'.get? b=some o)→KeysB P w A' { s with heap:=h' } kd kk vs)
  (h:∀ out:Array Value,out.toList.Perm vs→(out.toList.Pairwise fun x y=>kk x < kk y)→Q (.ref (s.heap.objs.size+1)) { s with heap:=sortedAll s.heap vs out }):wpAny (model P w) A (call (.builtin "sorted") [.ref l]) Q E s:=by
 refine Calls.call_function_entry kind_sorted plain_sorted entry_sorted (args_sorted1 _) ?_
 unfold Builtin.«sorted»
 refine wpAny_bind (m:=checkCount "sorted" 1 1 _) (wpAny_pure (wpAny_bind (collect_list hl ?_ (by rw[sizeLine_eq];omega))))
 refine wpAny_bind (wpAny_newList ?_)
 have sz:((s.heap.push (seqObj "list" #[] 0)).update s.heap.objs.size (Obj.mapSeq (· ++ vs.toArray))).objs.size=s.heap.objs.size+1:=by rw[Heap.size_update,size_push']
 have hoL:(((s.heap.push (seqObj "list" #[] 0)).update s.heap.objs.size (Obj.mapSeq (· ++ vs.toArray))).push (seqObj "list" vs.toArray 0)).get? (s.heap.objs.size+1)=some (seqObj "list" vs.toArray 0):=sz ▸ Heap.get?_push_size _ rfl
 show wpAny _ _ _ _ _ { s with heap:=((s.heap.push (seqObj "list" #[] 0)).update s.heap.objs.size (Obj.mapSeq (· ++ vs.toArray))).push (seqObj "list" vs.toArray 0) }
 rw[sz]
 refine wpAny_bind (wpAny_holding (wpAny_call_entry slot_list_sort ⟨_,hoL,rfl⟩ entry_list_sort (sort_by (kd:=kd) (kk:=kk) hoL h64 nd (fun h' k=>hK _ h' (show A.units+1+1≤A.units+4 by omega) fun b o q=>?_) fun out p r=>⟨_,rfl,wpAny_pure ⟨_,rfl,h out p r⟩⟩) (args_list_sort _)))
 have hb:b < s.heap.objs.size:=Heap.lt_size q
 refine k b o (Nat.ne_of_lt (Nat.lt_succ_of_lt hb)) (Heap.get?_push_of_some _ ?_)
 rw[Heap.get?_update_other _ _ (Nat.ne_of_lt hb).symm]
 exact Heap.get?_push_of_some _ q
end
section
variable{P:Program}{w:World}{A:Around}{E:Value→Shared→Prop}{s:Shared}
end
end L2
namespace L2
open PySem PySem.Spec PyProof.Rows
theorem keyLt_one(x y:Value):keyLt' oneType' x y=oneLt' true x y:=rfl
section
variable{P:Program}{w:World}{A:Around}{E:Value→Shared→Prop}{s:Shared}
theorem oneLt_lists{a b:Addr}{xs ys:Array Value}{n n2:Nat}{dd dd2:Option Addr}{sl sl2:Array (Option Value)}{ns ms:List Int}{Q:Bool→Shared→Prop}(ho:s.heap.get? a=some { cls:=.type "list",dict:=dd,data:=.seq xs n,slots:=sl })
  (ho2:s.heap.get? b=some { cls:=.type "list",dict:=dd2,data:=.seq ys n2,slots:=sl2 }) (hx:IntsAre xs.toList ns) (hy:IntsAre ys.toList ms) (hu:A.units < cLine) (h:Q (HT.lexLt ns ms) s):wpAny (model P w) A (oneLt' true (.ref a) (.ref b)) Q E s:=by
 rw[oneLt'_eq]
 simp only[if_true]
 refine wpAny_bind (wpAny_cRoomFor hu (wpAny_bind (wpAny_callSpecialIfBound?_slot (T:="list") ⟨_,ho,rfl⟩ PySem.F.slot_list_lt ?_)))
 exact call_meets PySem.F.slot_list_lt ⟨_,ho,rfl⟩ PySem.F.entry_list_lt (PySem.F.args_list_lt_2 _ _) (list_lt_ints a b xs ys n n2 dd dd2 sl sl2 ns ms hx hy) ⟨ho,ho2,wpAny_truthy_bool h⟩
def ListK(h:Heap)(kk:Value→Int)(v:Value):Prop:=∃(a:Addr) (ns:List Int) (xs:Array Value) (n:Nat) (dd:Option Addr) (sl:Array (Option Value)),v = .ref a∧h.get? a=some { cls:=.type "list",dict:=dd,data:=.seq xs n,slots:=sl }∧IntsAre xs.toList (kk v :: ns)
theorem cmpB_lists{kk:Value→Int}{vs:List Value}(hu:A.units < cLine)(hp:∀ v∈vs,ListK s.heap kk v)(hi:∀ x∈vs,∀ y∈vs,kk x=kk y→x=y):CmpB P w A s oneType' kk vs:=by
 intro x hx y hy E Q h
 have inj:=hi x hx y hy
 obtain⟨a,ns,xs,n,dd,sl,rfl,ho,hI⟩:=hp x hx
 obtain⟨a2,ns2,xs2,n2,dd2,sl2,rfl,ho2,hI2⟩:=hp y hy
 rw[keyLt_one]
 refine oneLt_lists ho ho2 hI hI2 hu ?_
 rw[HT.lexLt_cons]
 by_cases c:kk (.ref a)=kk (.ref a2)
 ·have e:=inj c
  cases e
  rw[ho] at ho2
  cases ho2
  rw[if_pos rfl]
  have e2:ns=ns2:=by
   have u:∀{l:List Value} {m1 m2:List Int},IntsAre l m1→IntsAre l m2→m1=m2:=by
    intro l
    induction l with
    | nil=>intro m1 m2 h1 h2;cases h1;cases h2;rfl
    | cons v r ih=>
     intro m1 m2 h1 h2
     cases h1 with
     | cons n1 t1 q1=>
      cases h2 with
      | cons n2 t2 q2=>rw[ih q1 q2]
   have:=u hI hI2
   injection this
  subst e2
  have irr:∀ l:List Int,HT.lexLt l l=false:=by
   intro l
   induction l with
   | nil=>rfl
   | cons x r ih=>rw[HT.lexLt_cons,if_pos rfl];exact ih
  rw[irr]
  rw[decide_eq_false (Int.lt_irrefl _)] at h
  exact h
 ·rw[if_neg c]
  exact h
theorem kind_lists{kk:Value→Int}{vs:List Value}(hp:∀ v∈vs,ListK s.heap kk v)(h2:2≤vs.length){Q:SortKind→Shared→Prop}(h:Q oneType' s):wpAny (model P w) A (keyKind' vs.toArray) Q E s:=by
 rw[keyKind'_eq,List.mapM_toArray]
 have ty:∀ v∈vs,s.TypeIs v "list":=fun v hv=>by
  obtain⟨a,ns,xs,n,dd,sl,rfl,ho,hI⟩:=hp v hv
  exact⟨_,ho,rfl⟩
 refine wpAny_bind ?_
 rw[map_eq_pure_bind]
 refine wpAny_bind (wp_mapM (g:=fun _=>(none:Option Value)) (fun x hx Q q=>?_) (wpAny_pure ?_))
 ·rw[first_eq]
  refine wpAny_bind (wpAny_typeOf (ty x hx) ?_)
  rw[if_pos (by decide)]
  exact wpAny_pure q
 obtain⟨v0,r,rfl⟩:∃ v0 r,vs=v0 :: r:=by
  cases vs with
  | nil=>exact absurd h2 (by decide)
  | cons v r=>exact⟨v,r,rfl⟩
 have e1:(((v0 :: r).map fun _=>(none:Option Value)).toArray.all fun x=>x.isSome)=false:=by
  rw[List.all_toArray]
  rfl
 rw[e1,if_neg Bool.false_ne_true]
 have e2:((((v0 :: r).map fun _=>(none:Option Value)).toArray[0]?.bind id).isSome)=false:=rfl
 rw[e2,if_neg Bool.false_ne_true]
 refine wpAny_bind ?_
 rw[oneTypeOnly'_eq]
 refine wpAny_bind ?_
 rw[List.mapM_toArray,map_eq_pure_bind]
 refine wpAny_bind (wp_mapM (g:=fun _=>Value.type "list") (fun y hy Q q=>wpAny_typeOf (ty y hy) q) (wpAny_pure ?_))
 have hall:(((v0 :: r).map fun _=>Value.type "list").toArray.all fun y=>y == Value.type "list")=true:=by
  rw[List.all_toArray,List.all_map,List.all_eq_true]
  intro _ _
  rfl
 have h0:((v0 :: r).map fun _=>Value.type "list").toArray[0]? = some (Value.type "list"):=rfl
 rw[h0]
 dsimp only
 rw[hall]
 exact wpAny_pure (wpAny_pure h)
end
theorem call_sortedLB{X:Cx}(hu:X.A.units+64 < cLine):CallR X (.builtin "sorted") (fun xs H Q=>∃(a:Addr) (ps:List Addr) (g:Addr→Int),xs=[.ref a]∧SqL X.K H a (ps.map V.ref)∧ps.length < 64∧(∀ p∈ps,∃ ns:List Int,SqL X.K H p ((g p :: ns).map V.int))∧(ps.map g).Nodup ∧
  ∀(l:Addr) (qs:List Addr),H l=none→qs.Perm ps→(qs.Pairwise fun p q=>g p < g q)→Q (.ref l) (upd H l (.lst (qs.map V.ref)))):=by
 intro pins s σ H xs us Q I r h
 obtain⟨a,ps,g,rfl,hS,h64,hP,ndg,q⟩:=h
 obtain⟨u,rfl,ru⟩:=vals1 r
 cases ru
 obtain⟨its,vi,pl,hz⟩:=I.list hS
 have ei:∀(ps:List Addr) (its:List Value),Vals (ps.map V.ref) its→its=ps.map Value.ref:=by
  intro ps
  induction ps with
  | nil=>intro its z;cases z;rfl
  | cons p r ih=>
   intro its z
   cases z with
   | cons z1 z2=>
    have e:_=Value.ref p:=z1
    rw[e,ih _ z2]
    rfl
 have e:=ei ps its vi
 subst e
 obtain⟨kk,hkk⟩:∃ kk:Value→Int,∀ p,kk (.ref p)=g p:=⟨fun v=>match v with | .ref p=>g p | _=>0,fun _=>rfl⟩
 have ek:(ps.map Value.ref).map kk=ps.map g:=by
  rw[List.map_map]
  exact List.map_congr_left fun p _=>hkk p
 have lists:∀ v∈ps.map Value.ref,ListK s.heap kk v:=by
  intro v hv
  obtain⟨p,hp,rfl⟩:=List.mem_map.mp hv
  obtain⟨ns,hT⟩:=hP p hp
  obtain⟨its2,v2,pl2,_⟩:=I.list hT
  obtain⟨⟨cls,dd,data,sl⟩,ho,hc,n,hd⟩:=isL_of pl2
  simp only at hc hd
  subst hc hd
  refine⟨p,ns,its2.toArray,n,dd,sl,rfl,ho,?_⟩
  rw[hkk]
  exact intsAre_of v2
 have inj:∀ x∈ps.map Value.ref,∀ y∈ps.map Value.ref,kk x=kk y→x=y:=by
  intro x hx y hy e
  have nd:((ps.map Value.ref).map kk).Nodup:=by rw[ek];exact ndg
  obtain⟨i,hi,e1⟩:=List.mem_iff_getElem.mp hx
  obtain⟨j,hj,e2⟩:=List.mem_iff_getElem.mp hy
  have h1:i < ((ps.map Value.ref).map kk).length:=by rw[List.length_map];exact hi
  have h2:j < ((ps.map Value.ref).map kk).length:=by rw[List.length_map];exact hj
  have ij:=nd_get nd h1 h2 (by rw[List.getElem_map (f:=kk),List.getElem_map (f:=kk),e1,e2,e])
  subst ij
  rw[← e1,← e2]
 refine sorted_by (kd:=oneType') (kk:=kk) (isL_of pl) (by rw[List.length_map];exact h64) (by rw[ek];exact ndg) (fun A' h' hA k=>?_) fun out hp hr=>?_
 ·have pr:∀ v∈ps.map Value.ref,ListK h' kk v:=fun v hv=>by
   obtain⟨p,ns,xs,n,dd,sl,rfl,ho,e⟩:=lists v hv
   exact⟨p,ns,xs,n,dd,sl,rfl,k _ _ ho,e⟩
  exact⟨fun h2 E Q q=>kind_lists pr h2 q,cmpB_lists (by omega) pr inj⟩
 ·obtain⟨qs,eq,pq⟩:∃ qs:List Addr,out.toList=qs.map Value.ref∧qs.Perm ps:=by
   have un:∀ l:List Value,(∀ v∈l,∃ p,v=Value.ref p)→∃ qs:List Addr,l=qs.map Value.ref:=by
    intro l
    induction l with
    | nil=>intro _;exact⟨[],rfl⟩
    | cons v r ih=>
     intro hv
     obtain⟨p,rfl⟩:=hv v List.mem_cons_self
     obtain⟨qs,rfl⟩:=ih fun y hy=>hv y (List.mem_cons_of_mem _ hy)
     exact⟨p :: qs,rfl⟩
   obtain⟨qs,e⟩:=un out.toList fun v hv=>by
    obtain⟨p,_,rfl⟩:=List.mem_map.mp (hp.mem_iff.mp hv)
    exact⟨p,rfl⟩
   refine⟨qs,e,?_⟩
   rw[e] at hp
   have z:=hp.map fun v=>match v with | .ref p=>p | _=>0
   rw[List.map_map,List.map_map] at z
   have c:((fun v=>match v with | .ref p=>p | _=>0) ∘ Value.ref:Addr→Addr)=id:=rfl
   rwa [c,List.map_id,List.map_id] at z
  obtain⟨e,he⟩:=sortedAll_at s.heap (ps.map Value.ref) out
  have hf:H (s.heap.objs.size+1)=none:=I.hok.fresh (Nat.le_succ _)
  have vq:∀ qs:List Addr,Vals (qs.map V.ref) (qs.map Value.ref):=by
   intro qs
   induction qs with
   | nil=>exact .nil
   | cons p r ih=>exact .cons rfl ih
  have rq:qs.Pairwise fun p q=>g p < g q:=by
   rw[eq,List.pairwise_map] at hr
   exact hr.imp fun {p q} h=>by rw[hkk,hkk] at h;exact h
  refine⟨.ref (s.heap.objs.size+1),upd H (s.heap.objs.size+1) (.lst (qs.map V.ref)),I.laid (t':=s.toks) (fun b u q=>sortedAll_old q) (Nat.le_succ _) ⟨?_,qs.map Value.ref,e,vq qs,?_⟩,rfl,q _ qs hf pq rq⟩
  ·rw[List.length_map,pq.length_eq,sizeLine_eq]
   omega
  ·rw[he,← eq]
end L2
namespace L2
open PySem PySem.Spec PyProof.Rows
end L2
namespace L2
open PySem PySem.Spec PyProof.Rows
theorem nd_at'{α:Type}{l:List α}(nd:l.Nodup){i j:Nat}{c:α}(a:l[i]? = some c)(b:l[j]? = some c):i=j:=by
 obtain⟨hi,ei⟩:=List.getElem?_eq_some_iff.mp a
 obtain⟨hj,ej⟩:=List.getElem?_eq_some_iff.mp b
 exact nd_get nd hi hj (ei.trans ej.symm)
theorem comp_listS{K:PySem.W.Frag}{tt:TT}{te:TE}{σ0:St}{H1:Hp}{Q:V→Hp→Prop}{a:Addr}{xs:List V}(p:V→Bool)(G:Addr→V→V→Hp→Prop)(hS:SqL K H1 a xs)(hn:xs.length≤sizeLine)
  (hG:∀ l x v H H',G l x v H→Same H H'→G l x v H') (hU:∀ l x v H zs ys,G l x v H→H l=some (.lst zs)→G l x v (upd H l (.lst ys)))
  (hT:∀ x H,x∈xs→Same H1 H→∀ R:Bool→Hp→Prop,(∀ H',Same H H'→R (p x) H')→tt (σ0.set 0 (some x)) H R)
  (hE:∀ x H l vs,x∈xs→p x=true→Same H1 H→H1 l=none→H l=some (.lst vs)→∀ R:V→Hp→Prop,(∀ v H',Same H H'→G l x v H'→R v H')→te (σ0.set 0 (some x)) H R)
  (hQ:∀ l H vs,Same H1 H→H1 l=none→H l=some (.lst vs)→vs.length=(xs.filter p).length→(∀(i:Nat) (v x:V),vs[i]? = some v→(xs.filter p)[i]? = some x→G l x v H)→Q (.ref l) H):tCompR (gName 0) tt te σ0 (Itl K a) H1 Q:=by
 intro l hl
 refine⟨fun i m σ H=>m=xs.length - i∧i≤xs.length∧Same H1 H∧(∃ vs,H l=some (.lst vs)∧vs.length=((xs.take i).filter p).length∧∀(j:Nat) (v x:V),vs[j]? = some v→((xs.take i).filter p)[j]? = some x→G l x v H)∧∀ o,σ.set 0 o=σ0.set 0 o,⟨xs.length,by simp,Nat.zero_le _,same_upd hl _,⟨[],upd_same,rfl,fun j v x e=>nomatch e⟩,fun _=>rfl⟩,?_⟩
 rintro i m σ H ⟨rfl,hi,sm,⟨vs,hL,hvl,hvs⟩,hσ⟩
 by_cases lt:i < xs.length
 ·have ex:xs[i]? = some xs[i]:=List.getElem?_eq_getElem lt
  refine .inr ⟨⟨xs,_,sm.seq hS,ex⟩,fun x H' y=>?_⟩
  obtain⟨rfl,y2⟩:=y
  have hx:xs[i]? = some x:=y2 xs (sm.seq hS)
  have hxm:=List.mem_of_getElem? hx
  unfold gName
  dsimp only
  rw[hσ]
  have er:(xs.take (i+1)).filter p=(xs.take i).filter p++(if p x=true then [x] else []):=by
   rw[List.take_succ,hx,List.filter_append]
   show _++List.filter p [x]=_
   by_cases hp:p x=true
   ·rw[if_pos hp,List.filter_cons_of_pos hp,List.filter_nil]
   ·rw[if_neg hp,List.filter_cons_of_neg hp,List.filter_nil]
  have lf:vs.length < sizeLine:=by
   rw[hvl]
   have:=List.length_filter_le p (xs.take i)
   rw[List.length_take] at this
   omega
  refine hT x H' hxm sm _ fun H2 s2=>?_
  by_cases hp:p x=true
  ·rw[if_pos hp]
   refine hE x H2 l vs hxm hp (sm.trans s2) hl (s2 _ _ hL) _ fun v H3 s3 hv=>⟨vs,s3 _ _ (s2 _ _ hL),lf,xs.length - (i+1),by omega,rfl,lt,same_upd2 hl (sm.trans (s2.trans s3)) _,⟨vs++[v],upd_same,by rw[er,if_pos hp,List.length_append,List.length_append,hvl];rfl,fun j u z hu hz=>?_⟩,fun o=>List.set_set _⟩
   refine hU l z u H3 vs _ ?_ (s3 _ _ (s2 _ _ hL))
   rw[er,if_pos hp] at hz
   by_cases q:j < vs.length
   ·rw[List.getElem?_append_left q] at hu
    rw[List.getElem?_append_left (by rw[← hvl];exact q)] at hz
    exact hG l z u H' H3 (hvs j u z hu hz) (s2.trans s3)
   ·have:=(List.getElem?_eq_some_iff.mp hu).1
    rw[List.length_append,List.length_singleton] at this
    have e:j=vs.length:=by omega
    subst e
    rw[List.getElem?_append_right (Nat.le_refl _),Nat.sub_self] at hu
    rw[hvl,List.getElem?_append_right (Nat.le_refl _),Nat.sub_self] at hz
    cases hu
    cases hz
    exact hv
  ·rw[if_neg hp]
   refine⟨xs.length - (i+1),by omega,rfl,lt,sm.trans s2,⟨vs,s2 _ _ hL,by rw[er,if_neg hp,List.append_nil];exact hvl,fun j u z hu hz=>?_⟩,fun o=>List.set_set _⟩
   rw[er,if_neg hp,List.append_nil] at hz
   exact hG l z u H' H2 (hvs j u z hu hz) s2
 ·have e:i=xs.length:=by omega
  subst e
  rw[List.take_length] at hvl hvs
  exact .inl ⟨⟨xs,sm.seq hS,Nat.le_refl _⟩,hQ l H vs sm hl hL hvl hvs⟩
end L2
namespace My
open PySem L2
abbrev sOth:Stmt:=top 19
abbrev sGrp:Stmt:=top 20
abbrev sAlike:Stmt:=top 21
section
variable{P:Program}{w:World}{K:PySem.W.Frag}{mg:Str→Option Value}{base:Heap}{f g:Addr}{fd gd:FuncData}
def ownF(n:Nat)(hs:List Nat)(lead:Nat)(ys:List Nat)(c:Nat):Nat:=if hs.findIdx (fun h=>h.testBit c) < hs.length then hs.findIdx (fun h=>h.testBit c) else if c∈ys then(lead+ys.idxOf c) % n else 99
theorem own_hand{fx:Fx}{hs ys:List Nat}{lead m:Nat}(Pl:Plc fx hs lead ys m){i h c:Nat}(eh:hs[i]? = some h)(hb:h.testBit c=true):ownF fx.n hs lead ys c=i:=by
 obtain⟨hi,ei⟩:=List.getElem?_eq_some_iff.mp eh
 have one:=Pl.one c
 have lt:hs.findIdx (fun h=>h.testBit c) < hs.length:=List.findIdx_lt_length_of_exists ⟨h,List.mem_of_getElem? eh,hb⟩
 unfold ownF
 rw[if_pos lt]
 have hj:=List.findIdx_getElem (w:=lt)
 have two:∀(l:List Nat) (a b:Nat) (ha:a < l.length) (hbb:b < l.length),a < b→(l[a]).testBit c=true→(l[b]).testBit c=true→2≤l.countP fun h=>h.testBit c:=by
  intro l
  induction l with
  | nil=>intro a b ha;exact absurd ha (Nat.not_lt_zero _)
  | cons y l ih=>
   intro a b ha hbb ab ya yb
   match a,b with
   | 0,b+1=>
    have y0:y.testBit c=true:=ya
    have:0 < l.countP fun h=>h.testBit c:=List.countP_pos_iff.mpr ⟨l[b]'(by simpa using hbb),List.getElem_mem _,yb⟩
    rw[List.countP_cons_of_pos (p:=fun h:Nat=>h.testBit c) y0]
    omega
   | a+1,b+1=>
    have:=ih a b (by simpa using ha) (by simpa using hbb) (by omega) ya yb
    have q:(l.countP fun h=>h.testBit c)≤((y :: l).countP fun h=>h.testBit c):=(List.sublist_cons_self y l).countP_le
    omega
 rcases Nat.lt_trichotomy (hs.findIdx (fun h=>h.testBit c)) i with q | q | q
 ·have:=two hs _ _ lt hi q hj (by rw[ei];exact hb)
  unfold cntB at one
  omega
 ·exact q
 ·have:=two hs _ _ hi lt q (by rw[ei];exact hb) hj
  unfold cntB at one
  omega
def othL(n:Nat)(hs:List Nat)(lead:Nat)(ys:List Nat):List Nat:=ys++((List.range hs.length).filter fun i=>decide (i≠(lead+ys.length) % n)).flatMap fun i=>cardsN (hs.getD i 0)
theorem mem_oth{n:Nat}{hs:List Nat}{lead:Nat}{ys:List Nat}(h32:∀ h∈hs,h < 4294967296){c:Nat}:c∈othL n hs lead ys↔c∈ys∨∃ i h,hs[i]? = some h∧i≠(lead+ys.length) % n∧h.testBit c=true:=by
 unfold othL
 rw[List.mem_append,List.mem_flatMap]
 refine or_congr Iff.rfl ?_
 constructor
 ·rintro⟨i,hi,hc⟩
  obtain⟨i1,i2⟩:=List.mem_filter.mp hi
  have il:=List.mem_range.mp i1
  have e:hs[i]? = some (hs.getD i 0):=by rw[List.getD_eq_getElem?_getD,List.getElem?_eq_getElem il];rfl
  exact⟨i,_,e,of_decide_eq_true i2,(mem_cards (h32 _ (List.mem_of_getElem? e))).mp hc⟩
 ·rintro⟨i,h,e,ne,hb⟩
  have il:=(List.getElem?_eq_some_iff.mp e).1
  refine⟨i,List.mem_filter.mpr ⟨List.mem_range.mpr il,decide_eq_true ne⟩,?_⟩
  rw[List.getD_eq_getElem?_getD,e]
  exact(mem_cards (h32 _ (List.mem_of_getElem? e))).mpr hb
def suitL(fx:Fx)(t:Option Nat)(u:Nat):List Nat:=(ordOf fx (decide (t=some u))).map fun v=>8 * u+v
def nOth(oth cs:List Nat)(i:Nat):Nat:=(cs.take i).countP fun x=>decide (x∈oth)
def lab(oth cs:List Nat)(c:Nat):Nat:=nOth oth cs (pos c cs)
def grp(oth cho cs:List Nat)(i k:Nat):List Nat:=(cs.take i).filter fun c=>decide (c∈cho) && decide (lab oth cs c=k)
def fullG(oth cho cs:List Nat)(i:Nat):List (List Nat):=(List.range (nOth oth cs i+1)).map (grp oth cho cs i)
section
variable{oth cho cs:List Nat}
theorem nOth_le{i j:Nat}(h:i≤j):nOth oth cs i≤nOth oth cs j:=by
 unfold nOth
 have e:cs.take i=(cs.take j).take i:=by rw[List.take_take,Nat.min_eq_left h]
 rw[e]
 exact(List.take_sublist _ _).countP_le
theorem nOth_succ{i c:Nat}(e:cs[i]? = some c):nOth oth cs (i+1)=nOth oth cs i+(if c∈oth then 1 else 0):=by
 unfold nOth
 rw[List.take_add_one,e,List.countP_append]
 congr 1
 show List.countP _ [c]=_
 rw[List.countP_singleton]
 by_cases q:c∈oth
 ·rw[if_pos q,decide_eq_true q]
  rfl
 ·rw[if_neg q,decide_eq_false q]
  rfl
theorem pos_of(nd:cs.Nodup){i c:Nat}(e:cs[i]? = some c):pos c cs=i:=nd_at nd (pos_at (List.mem_of_getElem? e)).1 e
theorem take_pos(nd:cs.Nodup){i c:Nat}(h:c∈cs.take i):pos c cs < i∧c∈cs:=by
 obtain⟨j,hj,e⟩:=List.mem_iff_getElem.mp h
 rw[List.length_take] at hj
 have e2:cs[j]? = some c:=by
  have:=List.getElem?_eq_getElem (l:=cs.take i) (i:=j) (by rw[List.length_take];exact hj)
  rw[e,List.getElem?_take] at this
  rw[if_pos (by omega)] at this
  exact this
 exact⟨by rw[pos_of nd e2];omega,List.mem_of_getElem? e2⟩
theorem grp_succ{i c:Nat}(e:cs[i]? = some c)(k:Nat):grp oth cho cs (i+1) k=grp oth cho cs i k++(if c∈cho∧lab oth cs c=k then [c] else []):=by
 unfold grp
 rw[List.take_add_one,e,List.filter_append]
 congr 1
 show List.filter _ [c]=_
 by_cases q:c∈cho∧lab oth cs c=k
 ·rw[if_pos q,List.filter_cons_of_pos (by rw[decide_eq_true q.1,decide_eq_true q.2];rfl),List.filter_nil]
 ·rw[if_neg q,List.filter_cons_of_neg,List.filter_nil]
  intro z
  rw[Bool.and_eq_true_iff] at z
  exact q ⟨of_decide_eq_true z.1,of_decide_eq_true z.2⟩
theorem lab_at(nd:cs.Nodup){i c:Nat}(e:cs[i]? = some c):lab oth cs c=nOth oth cs i:=by unfold lab;rw[pos_of nd e]
theorem full_oth(nd:cs.Nodup){i c:Nat}(e:cs[i]? = some c)(ho:c∈oth)(hc:c∉cho):fullG oth cho cs (i+1)=fullG oth cho cs i++[[]]:=by
 unfold fullG
 rw[nOth_succ e,if_pos ho,List.range_succ,List.map_append]
 congr 1
 ·refine List.map_congr_left fun k _=>?_
  rw[grp_succ e,if_neg (fun z=>hc z.1),List.append_nil]
 ·show [grp oth cho cs (i+1) (nOth oth cs i+1)]=[[]]
  congr 1
  rw[grp_succ e,if_neg (fun z=>hc z.1),List.append_nil]
  unfold grp
  rw[List.filter_eq_nil_iff]
  intro x hx z
  rw[Bool.and_eq_true_iff] at z
  have l:=of_decide_eq_true z.2
  have p:=(take_pos nd hx).1
  have:lab oth cs x≤nOth oth cs i:=nOth_le (by omega)
  omega
theorem full_cho(nd:cs.Nodup){i c:Nat}(e:cs[i]? = some c)(ho:c∉oth)(hc:c∈cho):fullG oth cho cs (i+1)=(fullG oth cho cs i).set (nOth oth cs i) (grp oth cho cs i (nOth oth cs i)++[c]):=by
 unfold fullG
 rw[nOth_succ e,if_neg ho,Nat.add_zero]
 apply List.ext_getElem?
 intro k
 rw[List.getElem?_map]
 by_cases hk:k < nOth oth cs i+1
 ·rw[List.getElem?_range hk]
  show some (grp oth cho cs (i+1) k)=_
  rw[grp_succ e,lab_at nd e]
  by_cases q:nOth oth cs i=k
  ·subst q
   rw[if_pos ⟨hc,rfl⟩,List.getElem?_set_self (by rw[List.length_map,List.length_range];omega)]
  ·rw[if_neg (fun z=>q z.2),List.append_nil,List.getElem?_set_ne q,List.getElem?_map,List.getElem?_range hk]
   rfl
 ·rw[List.getElem?_eq_none (by rw[List.length_range];omega),List.getElem?_eq_none (by rw[List.length_set,List.length_map,List.length_range];omega)]
  rfl
theorem full_no{i c:Nat}(e:cs[i]? = some c)(ho:c∉oth)(hc:c∉cho):fullG oth cho cs (i+1)=fullG oth cho cs i:=by
 unfold fullG
 rw[nOth_succ e,if_neg ho,Nat.add_zero]
 refine List.map_congr_left fun k _=>?_
 rw[grp_succ e,if_neg (fun z=>hc z.1),List.append_nil]
theorem full_len(i:Nat):(fullG oth cho cs i).length=nOth oth cs i+1:=by unfold fullG;rw[List.length_map,List.length_range]
theorem nOth_len(i:Nat):nOth oth cs i≤cs.length:=by
 unfold nOth
 exact Nat.le_trans List.countP_le_length (by rw[List.length_take];omega)
theorem full_last(i:Nat):(fullG oth cho cs i)[nOth oth cs i]? = some (grp oth cho cs i (nOth oth cs i)):=by
 unfold fullG
 rw[List.getElem?_map,List.getElem?_range (Nat.lt_succ_self _)]
 rfl
theorem mem_grp{k c:Nat}:c∈grp oth cho cs cs.length k↔c∈cs∧c∈cho∧lab oth cs c=k:=by
 unfold grp
 rw[List.take_length,List.mem_filter,Bool.and_eq_true_iff,decide_eq_true_eq,decide_eq_true_eq]
theorem lab_le(c:Nat):lab oth cs c≤nOth oth cs cs.length:=by
 unfold lab
 by_cases q:pos c cs≤cs.length
 ·exact nOth_le q
 ·unfold nOth
  rw[List.take_of_length_le (by omega),List.take_length]
  exact Nat.le_refl _
theorem lab_eq(nd:cs.Nodup){a b:Nat}(ha:a∈cs)(hb:b∈cs)(ao:a∉oth)(bo:b∉oth):lab oth cs a=lab oth cs b↔∀ x∈oth,x∈cs→¬ ((pos a cs < pos x cs∧pos x cs < pos b cs)∨(pos b cs < pos x cs∧pos x cs < pos a cs)):=by
 have key:∀{a b:Nat},a∈cs→b∈cs→a∉oth→pos a cs≤pos b cs→(lab oth cs a=lab oth cs b↔∀ x∈oth,x∈cs→¬ (pos a cs < pos x cs∧pos x cs < pos b cs)):=by
  intro a b ha hb ao le
  unfold lab
  constructor
  ·intro e x hx hxc ⟨z1,z2⟩
   have s:=nOth_succ (oth:=oth) (pos_at hxc).1
   rw[if_pos hx] at s
   have m1:=nOth_le (oth:=oth) (cs:=cs) (show pos a cs≤pos x cs by omega)
   have m2:=nOth_le (oth:=oth) (cs:=cs) (show pos x cs+1≤pos b cs by omega)
   omega
  ·intro h
   have step:∀ d,pos a cs+d≤pos b cs→nOth oth cs (pos a cs+d)=nOth oth cs (pos a cs):=by
    intro d
    induction d with
    | zero=>intro _;rfl
    | succ d ih=>
     intro hd
     have bl:=(List.getElem?_eq_some_iff.mp (pos_at hb).1).1
     have hl:pos a cs+d < cs.length:=by omega
     have e:=List.getElem?_eq_getElem hl
     have s:=nOth_succ (oth:=oth) e
     rw[if_neg,Nat.add_zero] at s
     ·rw[← Nat.add_assoc,s]
      exact ih (by omega)
     ·intro z
      have p:=pos_of nd e
      by_cases d0:d=0
      ·subst d0
       have:cs[pos a cs+0]=a:=by
        have q:=(pos_at ha).1
        rw[List.getElem?_eq_getElem (by omega)] at q
        exact Option.some.inj q
       rw[this] at z
       exact ao z
      ·exact h _ z (List.getElem_mem hl) ⟨by omega,by omega⟩
   have:=step (pos b cs - pos a cs) (by omega)
   rw[Nat.add_sub_cancel' le] at this
   exact this.symm
 rcases Nat.le_total (pos a cs) (pos b cs) with le | le
 ·rw[key ha hb ao le]
  exact⟨fun h x hx hc z=>z.elim (h x hx hc) (fun z=>by omega),fun h x hx hc z=>h x hx hc (.inl z)⟩
 ·rw[eq_comm,key hb ha bo le]
  exact⟨fun h x hx hc z=>z.elim (fun z=>by omega) (h x hx hc),fun h x hx hc z=>h x hx hc (.inr z)⟩
end
theorem ord_perm{fx:Fx}(ok:fx.Ok)(b:Bool):(ordOf fx b).Perm (List.range fx.h):=by
 cases b with
 | true=>exact ok.pt
 | false=>exact ok.pp
theorem suit_nd{fx:Fx}(ok:fx.Ok)(t:Option Nat)(u:Nat):(suitL fx t u).Nodup:=by
 unfold suitL
 have nd:(ordOf fx (decide (t=some u))).Nodup:=(ord_perm ok _).nodup_iff.mpr List.nodup_range
 exact List.Pairwise.map _ (fun a b h=>by omega) nd
theorem mem_suit{fx:Fx}(ok:fx.Ok){t:Option Nat}{u c:Nat}:c∈suitL fx t u↔c / 8=u∧c % 8 < fx.h:=by
 unfold suitL
 have h8:=ok.h8
 rw[List.mem_map]
 constructor
 ·rintro⟨v,hv,rfl⟩
  have:=List.mem_range.mp ((ord_perm ok _).mem_iff.mp hv)
  omega
 ·rintro⟨h1,h2⟩
  exact⟨c % 8,(ord_perm ok _).mem_iff.mpr (List.mem_range.mpr h2),by omega⟩
theorem suit_len{fx:Fx}(ok:fx.Ok)(t:Option Nat)(u:Nat):(suitL fx t u).length≤8:=by
 unfold suitL
 rw[List.length_map,perm_len (ord_perm ok _)]
 exact ok.h8
def labC(fx:Fx)(t:Option Nat)(oth:List Nat)(c:Nat):Nat:=lab oth (suitL fx t (c / 8)) c
theorem suit_pos{fx:Fx}(ok:fx.Ok){t:Option Nat}{u c:Nat}(hu:c / 8=u)(hc:c % 8 < fx.h):pos c (suitL fx t u)=pos (c % 8) (ordOf fx (decide (t=some u))):=by
 refine pos_of (suit_nd ok t u) ?_
 unfold suitL
 rw[List.getElem?_map,(pos_at ((ord_perm ok _).mem_iff.mpr (List.mem_range.mpr hc))).1]
 show some (8 * u+c % 8)=some c
 congr 1
 omega
structure GsOk(fx:Fx)(t:Option Nat)(oth cho:List Nat)(n:Nat)(gss:List (List Nat)):Prop where
 up:∀ g∈gss,g≠[]∧g.Pairwise (· < ·)
 cl:∀ g∈gss,∃ u k,u < n∧∀ c,c∈g↔c∈cho∧c / 8=u∧labC fx t oth c=k
 all:∀ c∈cho,c / 8 < n→∃ g∈gss,c∈g
 ap:gss.Pairwise fun a b=>∀ c,c∈a→c∉b
theorem GsOk.zero(fx:Fx)(t:Option Nat)(oth cho:List Nat):GsOk fx t oth cho 0 []:=⟨(fun g hg=>nomatch hg),(fun g hg=>nomatch hg),fun c _ h=>absurd h (Nat.not_lt_zero _),List.Pairwise.nil⟩
def spOth(CT CG:Addr):Sp:=fun vs H Q _=>∃(gm x p:Addr) (t:Option Nat) (fx:Fx) (hs ys:List Nat) (lead m:Nat),vs=[.ref gm,.ref p]∧GamH CT CG fx t H gm x∧IsPl H p hs lead ys∧Plc fx hs lead ys m∧∀ l H',Same H H'→H l=none→H' l=some (.lst (vN (othL fx.n hs lead ys)))→Q (.ref l) H'
abbrev nOthN:List Str:=["game","place","in_turn","cards","seat","hand"]
theorem scOth:FnScope nOthN ["game","place"] (defScope sOth):=⟨rfl,rfl,rfl,by decide +kernel,rfl,by decide +kernel,by decide +kernel⟩
theorem oth_len{n:Nat}{hs:List Nat}{lead:Nat}{ys:List Nat}:∀ i,(((List.range i).filter fun j=>decide (j≠(lead+ys.length) % n)).flatMap fun j=>cardsN (hs.getD j 0)).length≤32 * i:=by
 intro i
 induction i with
 | zero=>exact Nat.le_refl _
 | succ i ih=>
  rw[List.range_succ,List.filter_append,List.flatMap_append,List.length_append]
  have:((List.filter (fun j=>decide (j≠(lead+ys.length) % n)) [i]).flatMap fun j=>cardsN (hs.getD j 0)).length≤32:=by
   by_cases q:i≠(lead+ys.length) % n
   ·rw[List.filter_cons_of_pos (by exact decide_eq_true q),List.filter_nil,List.flatMap_cons,List.flatMap_nil,List.append_nil]
    unfold cardsN
    have:=List.length_filter_le (hs.getD i 0).testBit (List.range 32)
    rwa [List.length_range] at this
   ·rw[List.filter_cons_of_neg (by rw[decide_eq_false q];exact Bool.false_ne_true),List.filter_nil]
    exact Nat.zero_le _
  omega
theorem ok_oth{k:Nat}{CT CG f1 f2:Addr}{d1 d2:FuncData}(F:Fun K "cards_of_others" "cards_of_others" sOth f fd)(LT:Lib P w K mg base k "turn_at" ["game","place"] (spTurnAt CT CG) f1 d1)(LI:Lib P w K mg base k "cards_in" ["hand"] (spCardsIn K) f2 d2)(mLi:mg "list" = none)(me:mg "enumerate" = none) :
    FnOk P w K mg base CX0 (k+1) f fd ["game","place"] (spOth CT CG):=by
  refine F.ok scOth (fun vs H Q E h=>?_) (fun cdv A outer s H vs Q E hr h=>?_)
  · obtain⟨gm,x,p,t,fx,hs,ys,lead,m,rfl,_⟩:=h
    rfl
  obtain⟨gm,x,p,t,fx,hs,ys,lead,m,rfl,G,hIp,Pl,q⟩:=h
  refine⟨_,pss_cons (ps_set (i:=2) scOth.nd rfl (Or.inl rfl) (pe_call LT.ok hr rfl LT.mg LT.kp LT.bd .nil pass0 (pa_cons (pv 0) (pa_cons (pv 1) pa_nil))))
    (pss_cons (ps_set (i:=3) scOth.nd rfl (Or.inl rfl) (pe_callTy call_list_of rfl mLi PyProof.Rows.boot_list (pa_cons (pe_ix ix_tup (pv 1) pe_int (fun _ _=>rfl)) pa_nil)))
    (pss_cons (ps_for PassesOwn.never rfl (pi_enumT rfl me (pa_cons (pe_ix ix_tup (pv 1) pe_int (fun _ _=>rfl)) pa_nil)) (pg_tup rfl (pgs_cons (pg_name (i:=4) scOth.nd rfl (Or.inl rfl)) (pgs_cons (pg_name (i:=5) scOth.nd rfl (Or.inl rfl)) pgs_nil)))
      (pss_one (ps_if (pt_cmpR op_ne (pv 4) (pv 2) (nomark _)) (pss_one (ps_expr (pe_bm PySem.F.plainAttrs_list PySem.F.slot_list_extend PySem.F.type_list_extend mt_extend (pv 3) (pa_cons (pe_call LI.ok hr rfl LI.mg LI.kp LI.bd .nil pass0 (pa_cons (pv 5) pa_nil)) pa_nil)))) pss_nil)))
    (pss_one (ps_ret (pv 3))))),?_⟩
  have ok:=G.ok
  have n4:fx.n≤4:=by rcases ok.n34 with e | e<;>omega
  have yl:=Pl.yl
  have hl:=Pl.len
  refine set_nm (fun v H1=>Same H H1∧v=turnV fx lead ys m) (fun R hR=>⟨_,rfl,_,rfl,gm,x,p,t,fx,hs,ys,lead,m,rfl,G,hIp,Pl,fun H1 s1=>hR _ _ ⟨s1,rfl⟩⟩) (fun v H1 z=>?_)
  obtain⟨s1,rfl⟩:=z
  obtain⟨hp,tp,h1,h2,h3⟩:=hIp.same s1
  have a0:atI [V.ref hp,V.int (lead:Nat),V.ref tp] 0=some (V.ref hp):=rfl
  have a2:atI [V.ref hp,V.int (lead:Nat),V.ref tp] 2=some (V.ref tp):=rfl
  refine set_nm (fun v H2=>∃ l,v = .ref l∧H1 l=none∧H2=upd H1 l (.lst (vN ys))) (fun R hR=>⟨_,rfl,p,_,_,_,rfl,rfl,SqT.of h1,a2,tp,_,rfl,.inr (SqT.of h3),fun l hl=>hR _ _ ⟨l,rfl,hl,rfl⟩⟩) (fun v H2 z=>?_)
  obtain⟨l,rfl,hlN,rfl⟩:=z
  have s2:=same_upd hlN (.lst (vN ys))
  refine⟨_,rfl,p,_,_,_,rfl,rfl,SqT.of (s2 _ _ h1),a0,hp,_,rfl,SqT.of (s2 _ _ h2),?_⟩
  refine for_enumT (K:=K) (a:=hp) (xs:=vN hs) (fun i σ H'=>Same H1 H'∧∃(x4 x5:Option V),σ=[some (.ref gm),some (.ref p),some (turnV fx lead ys m),some (.ref l),x4,x5]∧H' l=some (.lst (vN (ys++((List.range i).filter fun j=>decide (j≠(lead+ys.length) % fx.n)).flatMap fun j=>cardsN (hs.getD j 0)))))
    ⟨s2,none,none,rfl,by rw[upd_same];simp⟩ (fun i σ H' z=>SqT.of (z.1 _ _ h2)) (fun i v r σ H' hv z hr1=>?_) (fun σ H' z=>?_)
  · obtain⟨s3,x4,x5,rfl,hL⟩:=z
    obtain⟨h,hh,rfl⟩:=vN_get hv
    have il:=(List.getElem?_eq_some_iff.mp hh).1
    have hh32:=Pl.h32 ok (List.mem_of_getElem? hh)
    have eg:hs.getD i 0=h:=by rw[List.getD_eq_getElem?_getD,hh];rfl
    have s4:=s3.trans (same_upd hr1 (.tup [.int (i:Nat),.int (h:Nat)]))
    have hL4:upd H' r (.tup [.int (i:Nat),.int (h:Nat)]) l=some (.lst (vN (ys++((List.range i).filter fun j=>decide (j≠(lead+ys.length) % fx.n)).flatMap fun j=>cardsN (hs.getD j 0)))):=by rw[upd_ne (ne_of_none hL hr1)];exact hL
    refine⟨r,_,rfl,SqT.of upd_same,rfl,_,_,rfl,_,_,rfl,rfl,?_⟩
    have ll:=oth_len (n:=fx.n) (hs:=hs) (lead:=lead) (ys:=ys) i
    have ext:(ys++((List.range (i+1)).filter fun j=>decide (j≠(lead+ys.length) % fx.n)).flatMap fun j=>cardsN (hs.getD j 0))=(ys++((List.range i).filter fun j=>decide (j≠(lead+ys.length) % fx.n)).flatMap fun j=>cardsN (hs.getD j 0))++(if i≠(lead+ys.length) % fx.n then cardsN h else []):=by
      rw[List.range_succ,List.filter_append,List.flatMap_append,List.append_assoc]
      congr 2
      by_cases e:i≠(lead+ys.length) % fx.n
      · rw[if_pos e,List.filter_cons_of_pos (by exact decide_eq_true e),List.filter_nil,List.flatMap_cons,List.flatMap_nil,List.append_nil,eg]
      · rw[if_neg e,List.filter_cons_of_neg (by rw[decide_eq_false e];exact Bool.false_ne_true),List.filter_nil]
        rfl
    have c32:(cardsN h).length≤32:=by
      unfold cardsN
      have:=List.length_filter_le h.testBit (List.range 32)
      rwa [List.length_range] at this
    by_cases m0:m=0
    · have tv:turnV fx lead ys m = .non:=by unfold turnV;rw[if_pos m0]
      have ce:cardsN h=[]:=by
        have:=(Pl.le (List.mem_of_getElem? hh))
        have e:pcK 32 h=(cardsN h).length:=rfl
        exact List.length_eq_zero_iff.mp (by omega)
      refine⟨_,rfl,_,rfl,(by rw[tv];rfl),_,rfl,chg (b:=true) (by rw[tv];rfl) (iteT ?_)⟩
      refine⟨_,rfl,.inl ⟨rfl,_,SqL.of hL4⟩,_,rfl,h,rfl,hh32,fun l5 H5 s5 hl5 hL5=>⟨l,l5,_,_,rfl,rfl,s5 _ _ hL4,hL5,?_,?_⟩⟩
      · show(vN _).length+(vN (cardsN h)).length≤sizeLine
        rw[vN_len,vN_len,List.length_append]
        exact Nat.le_trans (by omega) (fits3 1000 (by decide))
      · refine⟨fun b o hb=>by rw[upd_ne (ne_of_none hb hlN)];exact s5 _ _ (s4 _ _ hb),_,_,rfl,?_⟩
        rw[upd_same,ext,ce]
        split<;>(unfold vN;simp [cardsV,ce])
    · have tv:turnV fx lead ys m = .int (((lead+ys.length) % fx.n:Nat):Int):=by unfold turnV;rw[if_neg m0]
      refine⟨_,rfl,_,rfl,(by rw[tv];rfl),_,rfl,chg (b:=decide (i≠(lead+ys.length) % fx.n)) (by
        rw[tv]
        show(!decide (V.int ((i:Nat):Int)=V.int (((lead+ys.length) % fx.n:Nat):Int)))=_
        rw[nat_dec]
        by_cases e:i=(lead+ys.length) % fx.n
        · rw[decide_eq_true e,decide_eq_false (fun z=>z e)];rfl
        · rw[decide_eq_false e,decide_eq_true e];rfl) (ite2 (fun e=>?_) (fun e=>?_))⟩
      · have e':=of_decide_eq_true e
        refine⟨_,rfl,.inl ⟨rfl,_,SqL.of hL4⟩,_,rfl,h,rfl,hh32,fun l5 H5 s5 hl5 hL5=>⟨l,l5,_,_,rfl,rfl,s5 _ _ hL4,hL5,?_,?_⟩⟩
        · show(vN _).length+(vN (cardsN h)).length≤sizeLine
          rw[vN_len,vN_len,List.length_append]
          exact Nat.le_trans (by omega) (fits3 1000 (by decide))
        · refine⟨fun b o hb=>by rw[upd_ne (ne_of_none hb hlN)];exact s5 _ _ (s4 _ _ hb),_,_,rfl,?_⟩
          rw[upd_same,ext,if_pos e']
          unfold vN
          rw[List.map_append (l₂:=cardsN h)]
          rfl
      · have e':¬ i≠(lead+ys.length) % fx.n:=fun z=>by rw[decide_eq_true z] at e;exact e rfl
        refine⟨s4,_,_,rfl,?_⟩
        rw[hL4,ext,if_neg e',List.append_nil]
  · obtain⟨s3,x4,x5,rfl,hL⟩:=z
    rw[vN_len] at hL
    exact⟨_,rfl,q l H' (s1.trans s3) (s1.free hlN) hL⟩
theorem mem_le{ms:List Nat}{g:List Nat}(p:ms.Perm g)(nd:g.Nodup)(le:ms.Pairwise (·≤·)):ms.Pairwise (· < ·):=by
 have nd':ms.Nodup:=p.nodup_iff.mpr nd
 exact(List.pairwise_and_iff.mpr ⟨le,nd'⟩).imp fun h=>Nat.lt_of_le_of_ne h.1 h.2
def spGrp(CT CG:Addr):Sp:=fun vs H Q _=>∃(gm x lc lo:Addr) (t:Option Nat) (fx:Fx) (u:Nat) (cho oth:List Nat),vs=[.ref gm,.int (u:Nat),.ref lc,.ref lo]∧GamH CT CG fx t H gm x∧u < 4∧H lc=some (.lst (vN cho))∧H lo=some (.lst (vN oth))∧(∀ c∈oth,c∉cho) ∧
 ∀ l as gss H',Same H H'→H l=none→H' l=some (.lst (as.map V.ref))→IsDl H' as gss→(∀ a∈as,H a=none)→gss.length≤9→(∀ g∈gss,g≠[]∧g.Pairwise (· < ·))→(∀ g∈gss,∃ k,∀ c,c∈g↔c∈suitL fx t u∧c∈cho∧lab oth (suitL fx t u) c=k)→(∀ c∈cho,c∈suitL fx t u→∃ g∈gss,c∈g)→(gss.Pairwise fun a b=>∀ c,c∈a→c∉b)→Q (.ref l) H'
abbrev pGrp:List Str:=["game","suit","choice","others"]
abbrev nGrp:List Str:=["game","suit","choice","others","groups","height","card"]
theorem scGrp:FnScope nGrp pGrp (defScope sGrp):=⟨rfl,rfl,rfl,by decide +kernel,rfl,by decide +kernel,by decide +kernel⟩
structure Grps(H0 H:Hp)(lg:Addr)(bs:List Addr)(gs:List (List Nat)):Prop where
 l:H lg=some (.lst (bs.map V.ref))
 d:IsDl H bs gs
 nd:bs.Nodup
 nl:lg∉bs
 fl:H0 lg=none
 fb:∀ b∈bs,H0 b=none
theorem Grps.push{H0 H:Hp}{lg:Addr}{bs:List Addr}{gs:List (List Nat)}(g:Grps H0 H lg bs gs)(s:Same H0 H){b:Addr}(hb:H b=none):Grps H0 (upd (upd H b (.lst [])) lg (.lst (bs.map V.ref++[V.ref b]))) lg (bs++[b]) (gs++[[]]):=by
 have nb:b∉bs:=fun z=>by
  obtain⟨j,hj,e⟩:=List.mem_iff_getElem.mp z
  obtain⟨cs,_,e2⟩:=g.d.2 j b (by rw[List.getElem?_eq_getElem hj,e])
  rw[hb] at e2
  cases e2
 have nlb:b≠lg:=fun z=>by
  have:=g.l
  rw[← z,hb] at this
  cases this
 refine⟨by rw[upd_same,List.map_append];rfl,⟨by rw[List.length_append,List.length_append,g.d.1];rfl,fun j a e=>?_⟩,?_,fun z=>?_,g.fl,fun a ha=>?_⟩
 ·by_cases q:j < bs.length
  ·rw[List.getElem?_append_left q] at e
   obtain⟨cs,e1,e2⟩:=g.d.2 j a e
   have am:=List.mem_of_getElem? e
   refine⟨cs,by rw[List.getElem?_append_left (by rw[← g.d.1];exact q)];exact e1,?_⟩
   have n1:a≠lg:=fun z=>g.nl (z ▸ am)
   have n2:a≠b:=fun z=>nb (z ▸ am)
   rw[upd_ne n1,upd_ne n2]
   exact e2
  ·have:=(List.getElem?_eq_some_iff.mp e).1
   rw[List.length_append,List.length_singleton] at this
   have ej:j=bs.length:=by omega
   subst ej
   rw[List.getElem?_append_right (Nat.le_refl _),Nat.sub_self] at e
   cases e
   refine⟨[],by rw[g.d.1,List.getElem?_append_right (Nat.le_refl _),Nat.sub_self];rfl,?_⟩
   rw[upd_ne nlb,upd_same]
   rfl
 ·exact List.nodup_append.mpr ⟨g.nd,List.nodup_cons.mpr ⟨List.not_mem_nil,List.nodup_nil⟩,fun x hx y hy=>by rw[List.mem_singleton.mp hy];exact fun z=>nb (z ▸ hx)⟩
 ·rcases List.mem_append.mp z with z | z
  ·exact g.nl z
  ·exact nlb (List.mem_singleton.mp z).symm
 ·rcases List.mem_append.mp ha with z | z
  ·exact g.fb a z
  ·rw[List.mem_singleton.mp z]
   exact s.free hb
theorem Grps.add{H0 H:Hp}{lg:Addr}{bs:List Addr}{gs:List (List Nat)}(g:Grps H0 H lg bs gs){j:Nat}{b:Addr}{cs:List Nat}(hb:bs[j]? = some b)(hc:gs[j]? = some cs)(c:Nat):Grps H0 (upd H b (.lst (vN cs++[V.int (c:Nat)]))) lg bs (gs.set j (cs++[c])):=by
 have bm:=List.mem_of_getElem? hb
 have n0:lg≠b:=fun z=>g.nl (z ▸ bm)
 refine⟨by rw[upd_ne n0];exact g.l,⟨by rw[List.length_set];exact g.d.1,fun i a e=>?_⟩,g.nd,g.nl,g.fl,g.fb⟩
 by_cases q:j=i
 ·subst q
  rw[hb] at e
  cases e
  refine⟨cs++[c],List.getElem?_set_self (List.getElem?_eq_some_iff.mp hc).1,?_⟩
  rw[upd_same]
  unfold vN
  rw[List.map_append]
  rfl
 ·obtain⟨ds,e1,e2⟩:=g.d.2 i a e
  refine⟨ds,by rw[List.getElem?_set_ne q];exact e1,?_⟩
  have n1:a≠b:=fun z=>q (nd_at' g.nd hb (z ▸ e))
  rw[upd_ne n1]
  exact e2
def decA(H:Hp)(a:Addr):List Nat:=match H a with | some (.lst vs)=>vs.map (fun v=>match v with | .int i=>i.toNat | _=>0) | _=>[]
theorem decA_of{H:Hp}{a:Addr}{cs:List Nat}(h:H a=some (.lst (vN cs))):decA H a=cs:=by
 unfold decA
 rw[h]
 unfold vN
 show(cs.map fun c=>V.int ((c:Nat):Int)).map _=cs
 rw[List.map_map]
 conv=>rhs;rw[← List.map_id cs]
 exact List.map_congr_left fun c _=>Int.toNat_natCast c
def neV(H:Hp)(x:V):Bool:=match x with | .ref b=>decide (0 < (decA H b).length) | _=>false
theorem ok_grp{k:Nat}{CT CG m3:Addr}{e3:FuncData}{t1:Tok}(F:Fun K "groups_of_suit" "groups_of_suit" sGrp f fd)(C:TabC K mg CT)(CGm:GamC K mg CG)(MO:Meth K CT "order" m3)(FO:FnOk P w K mg base CX0 k m3 e3 ["self","is_trump"] (spTOrder CT))(BO:Binds K e3 ["self","is_trump"] [])
  (mH:mg "HEIGHTS" = some (.int 8 t1)) (mS:mg "sorted" = none) (ml:mg "len" = none):FnOk P w K mg base CX0 (k+1) f fd pGrp (spGrp CT CG):=by
 refine F.ok scGrp (fun vs H Q E h=>?_) (fun cdv A outer s H vs Q E hr h=>?_)
 ·obtain⟨gm,x,lc,lo,t,fx,u,cho,oth,rfl,_⟩:=h
  rfl
 obtain⟨gm,x,lc,lo,t,fx,u,cho,oth,rfl,G,u4,hlc,hlo,dj,q⟩:=h
 refine⟨_,pss_cons (ps_set (i:=4) scGrp.nd rfl (Or.inl rfl) (pe_lst (pa_cons (pe_lst pa_nil) pa_nil)))
  (pss_cons (ps_for PassesOwn.never rfl (pi_list (pe_meth (pe_fld (pv 0) rfl) C.cl MO FO hr BO .nil pass0 (pa_cons (pe_cmpR op_eq (pv 1) (pe_fld (pv 0) rfl) (nomark _)) pa_nil))) (pg_name (i:=5) scGrp.nd rfl (Or.inl rfl))
   (pss_cons (ps_set (i:=6) scGrp.nd rfl (Or.inl rfl) (pe_op op_add (pe_op op_mul (pe_glob (v:=.int 8) rfl mH ⟨_,rfl⟩) (pv 1)) (pv 5)))
   (pss_cons (ps_if (pt_cmpR op_in_seq (pv 6) (pv 3) rfl) (pss_one (ps_expr (pe_bm PySem.F.plainAttrs_list PySem.F.slot_list_append PySem.F.type_list_append mt_append (pv 4) (pa_cons (pe_lst pa_nil) pa_nil)))) pss_nil)
   (pss_one (ps_if (pt_cmpR op_in_seq (pv 6) (pv 2) rfl) (pss_one (ps_expr (pe_bm PySem.F.plainAttrs_list PySem.F.slot_list_append PySem.F.type_list_append mt_append (pe_ix ix_list (pv 4) (pe_un un_neg pe_int) (fun _ _=>rfl)) (pa_cons (pv 6) pa_nil)))) pss_nil)))))
  (pss_one (ps_ret (pe_comp ["group"] [none] rfl (Blk.by (sc:=defScope sGrp) (N0:=nGrp) rfl rfl (by decide +kernel)) (pi_list (pv 4)) (fun C s₀ H₀ ex=>pg_name (i:=0) (show(["group"]:List Str).Nodup by decide +kernel) rfl (Or.inl rfl))
   (fun C s₀ H₀ ex=>pf_one (pt_cmpR op_gt (pe_callB (show CallR _ (.builtin "len") (fun xs H Q=>∃ p ys,xs=[.ref p]∧(SqL K H p ys∨SqT K H p ys)∧Q (.int ys.length) H) from call_len_seq) rfl ml PySem.boot_len (pa_cons (pv 0) pa_nil)) pe_int (nomark _)))
   (fun C s₀ H₀ ex=>pe_callB (show CallR _ (.builtin "sorted") (fun xs H Q=>∃(a:Addr) (ns:List Int),xs=[.ref a]∧SqL K H a (ns.map V.int)∧ns.length < 64∧∀(l:Addr) (ms:List Int),H l=none→ms.Perm ns→ms.Pairwise (·≤·)→Q (.ref l) (upd H l (.lst (ms.map V.int)))) from call_sortedI) rfl mS PyProof.Rows.boot_sorted (pa_cons (pv 0) pa_nil)))))),?_⟩
 have ok:=G.ok
 obtain⟨dg,hG⟩:=id G.g
 obtain⟨dx,po,to,hX,hX1,hX2⟩:=id G.t
 refine set_nm (fun v H1=>Same H H1∧∃ lg b,v = .ref lg∧Grps H H1 lg [b] [[]]) (fun R hR=>⟨fits3 0 (by decide),fun b hb=>⟨fits3 1 (by decide),fun lg hlg=>?_⟩⟩) (fun v H1 z=>?_)
 ·have sb:=same_upd hb (.lst [])
  have sl:=same_upd hlg (.lst [V.ref b])
  have ne:b≠lg:=fun z=>by rw[← z,upd_same] at hlg;cases hlg
  refine hR _ _ ⟨sb.trans sl,lg,b,rfl,upd_same,⟨rfl,fun j a e=>?_⟩,List.nodup_cons.mpr ⟨List.not_mem_nil,List.nodup_nil⟩,fun z=>ne (List.mem_singleton.mp z).symm,sb.free hlg,fun a ha=>by rw[List.mem_singleton.mp ha];exact hb⟩
  match j with
  | 0=>
   cases e
   exact⟨[],rfl,sl _ _ upd_same⟩
 obtain⟨s1,lg,b0,rfl,g0⟩:=z
 have nd:=suit_nd ok t u
 have sl8:=suit_len ok t u
 have e0:[([]:List Nat)]=fullG oth cho (suitL fx t u) 0:=by
  unfold fullG nOth grp
  rw[List.take_zero]
  rfl
 rw[e0] at g0
 have hG1:=s1 _ _ hG
 refine⟨_,rfl,gm,CG,dg,_,_,rfl,hG1,CGm.cl,CGm.nT,gam_table _ _,x,dx,_,rfl,s1 _ _ hX,look7_order _ _ _,?_⟩
 refine⟨_,rfl,_,rfl,gm,CG,dg,_,_,rfl,hG1,CGm.cl,CGm.nU,gam_trump _ _,tv_scal _ _,x,fx,decide (t=some u),?_,(G.t.same s1),fun l2 H2 s2 hl2 hL2=>?_⟩
 ·show V.ref x :: ([V.bl (decide (V.int ((u:Nat):Int)=tvV t))]++[])=[V.ref x,V.bl (decide (t=some u))]
  rw[tv_eq]
  rfl
 have g2:Grps H H2 lg [b0] (fullG oth cho (suitL fx t u) 0):=⟨s2 _ _ g0.l,g0.d.same s2,g0.nd,g0.nl,g0.fl,g0.fb⟩
 have s12:=s1.trans s2
 refine⟨l2,rfl,⟨_,SqL.of hL2⟩,for_list (K:=K) (xs:=vN (ordOf fx (decide (t=some u)))) (fun i σ H3=>Same H H3∧H3 l2=some (.lst (vN (ordOf fx (decide (t=some u)))))∧l2≠lg∧∃(bs:List Addr) (x5 x6:Option V),σ=[some (.ref gm),some (.int (u:Nat)),some (.ref lc),some (.ref lo),some (.ref lg),x5,x6]∧l2∉bs∧Grps H H3 lg bs (fullG oth cho (suitL fx t u) i))
  ⟨s12,hL2,(fun z=>by rw[z,g0.l] at hl2;cases hl2),[b0],none,none,rfl,(fun z=>by
   have hb:=List.mem_singleton.mp z
   obtain⟨cs,_,e⟩:=g0.d.2 0 b0 rfl
   rw[← hb,hl2] at e
   cases e),g2⟩ (fun i σ H3 _ z=>SqL.of z.2.1) (fun i v σ H3 hv z=>?_) (fun σ H3 z=>?_)⟩
 ·obtain⟨s3,hL3,nlg,bs,x5,x6,rfl,nb2,g3⟩:=z
  obtain⟨vv,hvv,rfl⟩:=vN_get hv
  have ec:(suitL fx t u)[i]? = some (8 * u+vv):=by unfold suitL;rw[List.getElem?_map,hvv];rfl
  have vh:vv < 8:=Nat.lt_of_lt_of_le (List.mem_range.mp ((ord_perm ok _).mem_iff.mp (List.mem_of_getElem? hvv))) ok.h8
  refine set_nm (fun v H4=>H3=H4∧v = .int ((8 * u+vv:Nat):Int)) (fun R hR=>⟨_,rfl,_,_,rfl,rfl,.inl ⟨by decide,by decide⟩,_,rfl,_,_,rfl,rfl,hR _ _ ⟨rfl,by congr 1⟩⟩) (fun v H4 z=>?_)
  obtain⟨rfl,rfl⟩:=z
  have hlo3:=s3 _ _ hlo
  have hlc3:=s3 _ _ hlc
  have lb:=g3.d.1
  rw[full_len] at lb
  have nl8:=nOth_len (oth:=oth) (cs:=suitL fx t u) i
  refine seq_cut (fun σ H5=>Same H H5∧H5 l2=some (.lst (vN (ordOf fx (decide (t=some u)))))∧∃ bs:List Addr,σ=[some (.ref gm),some (.int (u:Nat)),some (.ref lc),some (.ref lo),some (.ref lg),some (.int (vv:Nat)),some (.int ((8 * u+vv:Nat):Int))]∧l2∉bs∧Grps H H5 lg bs (if 8 * u+vv∈oth then fullG oth cho (suitL fx t u) i++[[]] else fullG oth cho (suitL fx t u) i)) (fun D' er nx=>?_) (fun σ H5 z=>?_)
  ·refine⟨_,rfl,_,rfl,lo,_,rfl,.inl (SqL.of hlo3),rfl,vN_flat _,_,rfl,?_⟩
   show if inV (.int ((8 * u+vv:Nat):Int)) (vN oth)=true then _ else _
   rw[in_vN]
   refine ite2 (fun e=>?_) (fun e=>?_)
   ·have ho:=of_decide_eq_true e
    refine⟨_,rfl,.inl ⟨rfl,_,SqL.of g3.l⟩,fits3 0 (by decide),fun b hb=>⟨lg,bs.map V.ref,V.ref b,rfl,rfl,?_,?_,nx _ _ ⟨?_,?_,bs++[b],rfl,?_,?_⟩⟩⟩
    ·rw[upd_ne (ne_of_none g3.l hb)]
     exact g3.l
    ·rw[List.length_map]
     exact Nat.lt_of_lt_of_le (by omega) (fits3 1000 (by decide))
    ·exact same_upd2 g3.fl (s3.trans (same_upd hb _)) _
    ·rw[upd_ne nlg,upd_ne (ne_of_none hL3 hb)]
     exact hL3
    ·intro z
     rcases List.mem_append.mp z with z | z
     ·exact nb2 z
     ·have:=List.mem_singleton.mp z
      rw[← this,hL3] at hb
      cases hb
    ·rw[if_pos ho]
     exact g3.push s3 hb
   ·have ho:8 * u+vv∉oth:=fun z=>by rw[decide_eq_true z] at e;exact e rfl
    exact nx _ _ ⟨s3,hL3,bs,rfl,nb2,by rw[if_neg ho];exact g3⟩
  obtain⟨s5,hL5,bs,rfl,nb2,g5⟩:=z
  have hlc5:=s5 _ _ hlc
  refine⟨_,rfl,_,rfl,lc,_,rfl,.inl (SqL.of hlc5),rfl,vN_flat _,_,rfl,?_⟩
  show if inV (.int ((8 * u+vv:Nat):Int)) (vN cho)=true then _ else _
  rw[in_vN]
  refine ite2 (fun e=>?_) (fun e=>?_)
  ·have hc:=of_decide_eq_true e
   have ho:8 * u+vv∉oth:=fun z=>dj _ z hc
   rw[if_neg ho] at g5
   have lb5:=g5.d.1
   rw[full_len] at lb5
   have jl:nOth oth (suitL fx t u) i < bs.length:=by omega
   have eb:bs[nOth oth (suitL fx t u) i]? = some bs[nOth oth (suitL fx t u) i]:=List.getElem?_eq_getElem jl
   obtain⟨cs,e1,e2⟩:=g5.d.2 _ _ eb
   have e1':=e1
   rw[full_last] at e1
   cases e1
   have at1:atI (bs.map V.ref) (-1)=some (V.ref bs[nOth oth (suitL fx t u) i]):=by
    have hl:(bs.map V.ref).length=nOth oth (suitL fx t u) i+1:=by rw[List.length_map];omega
    have ie:ixN (bs.map V.ref).length (-1)=some (nOth oth (suitL fx t u) i):=by
     rw[hl]
     unfold ixN
     simp
     omega
    unfold atI
    rw[ie]
    show(bs.map V.ref)[nOth oth (suitL fx t u) i]? = _
    rw[List.getElem?_map,eb]
    rfl
   refine⟨_,rfl,_,rfl,lg,_,_,_,rfl,rfl,SqL.of g5.l,at1,.inl ⟨rfl,_,SqL.of e2⟩,_,rfl,_,_,_,rfl,rfl,e2,?_,?_⟩
   ·rw[vN_len]
    unfold grp
    refine Nat.lt_of_le_of_lt (List.length_filter_le _ _) ?_
    rw[List.length_take]
    exact Nat.lt_of_lt_of_le (by omega) (fits3 1000 (by decide))
   ·have bm:=List.mem_of_getElem? eb
    refine⟨same_upd2 (g5.fb _ bm) s5 _,?_,nlg,bs,_,_,rfl,nb2,?_⟩
    ·have n1:l2≠bs[nOth oth (suitL fx t u) i]:=fun z=>nb2 (z ▸ bm)
     rw[upd_ne n1]
     exact hL5
    ·rw[full_cho nd ec ho hc]
     exact g5.add eb e1' _
  ·have hc:8 * u+vv∉cho:=fun z=>by rw[decide_eq_true z] at e;exact e rfl
   refine⟨s5,hL5,nlg,bs,_,_,rfl,nb2,?_⟩
   by_cases ho:8 * u+vv∈oth
   ·rw[if_pos ho] at g5
    rw[full_oth nd ec ho hc]
    exact g5
   ·rw[if_neg ho] at g5
    rw[full_no ec ho hc]
    exact g5
 ·obtain⟨s3,hL3,nlg,bs,x5,x6,rfl,nb2,g3⟩:=z
  have el:(vN (ordOf fx (decide (t=some u)))).length=(suitL fx t u).length:=by unfold suitL;rw[vN_len,List.length_map]
  rw[el] at g3
  have lb:=g3.d.1
  rw[full_len] at lb
  have nl8:=nOth_len (oth:=oth) (cs:=suitL fx t u) (suitL fx t u).length
  have bk:∀(j:Nat) (b:Addr),bs[j]? = some b→H3 b=some (.lst (vN (grp oth cho (suitL fx t u) (suitL fx t u).length j))):=fun j b e=>by
   obtain⟨cs,e1,e2⟩:=g3.d.2 j b e
   have hj:=(List.getElem?_eq_some_iff.mp e).1
   unfold fullG at e1
   rw[List.getElem?_map,List.getElem?_range (by omega)] at e1
   cases e1
   exact e2
  refine⟨_,rfl,lg,rfl,⟨_,SqL.of g3.l⟩,comp_listS (K:=K) (xs:=bs.map V.ref) (neV H3) (fun l x v H'=>∃(b r:Addr) (gs ms:List Nat),x = .ref b∧v = .ref r∧r≠l∧H3 r=none∧H3 b=some (.lst (vN gs))∧H' r=some (.lst (vN ms))∧ms.Perm gs∧ms.Pairwise (·≤·)) (SqL.of g3.l) (by rw[List.length_map];exact Nat.le_trans (by omega) (fits3 1000 (by decide))) (fun l x v H' H'' g sm=>?_) (fun l x v H' zs ys g hl=>?_) (fun x H' hx sm R hR=>?_) (fun x H' l vs hx hp sm hl hL R hR=>?_) (fun l H4 vs s4 hl hL hvl hvs=>?_)⟩
  ·obtain⟨b,r,gs,ms,a1,a2,a0,a3,a4,a5,a6,a7⟩:=g
   exact⟨b,r,gs,ms,a1,a2,a0,a3,a4,sm _ _ a5,a6,a7⟩
  ·obtain⟨b,r,gs,ms,a1,a2,a0,a3,a4,a5,a6,a7⟩:=g
   exact⟨b,r,gs,ms,a1,a2,a0,a3,a4,by rw[upd_ne a0];exact a5,a6,a7⟩
  ·obtain⟨b,hb,rfl⟩:=List.mem_map.mp hx
   obtain⟨j,hj,ej⟩:=List.mem_iff_getElem.mp hb
   have e2:=bk j b (by rw[List.getElem?_eq_getElem hj,ej])
   refine⟨_,rfl,b,_,rfl,.inl (SqL.of (sm _ _ e2)),_,_,rfl,rfl,_,rfl,?_⟩
   have z:=hR H' (Same.refl H')
   have e:neV H3 (V.ref b)=decide ((0:Int) < (((vN (grp oth cho (suitL fx t u) (suitL fx t u).length j)).length:Nat):Int)):=by
    show decide (0 < (decA H3 b).length)=_
    rw[decA_of e2,vN_len]
    exact decide_eq_decide.mpr ⟨fun h=>by omega,fun h=>by omega⟩
   rw[e] at z
   exact z
  ·obtain⟨b,hb,rfl⟩:=List.mem_map.mp hx
   obtain⟨j,hj,ej⟩:=List.mem_iff_getElem.mp hb
   have e2:=bk j b (by rw[List.getElem?_eq_getElem hj,ej])
   have e2':=sm _ _ e2
   rw[vN_ints] at e2'
   have gl:(grp oth cho (suitL fx t u) (suitL fx t u).length j).length≤8:=by
    unfold grp
    refine Nat.le_trans (List.length_filter_le _ _) ?_
    rw[List.length_take]
    omega
   refine⟨_,rfl,b,_,rfl,SqL.of e2',by rw[List.length_map];omega,fun r ms hr1 pm le=>?_⟩
   obtain⟨ds,e3,e4,e5⟩:=ints_nat pm
   refine hR _ _ (same_upd hr1 _) ⟨b,r,_,ds,rfl,rfl,(fun z=>by rw[z,hL] at hr1;cases hr1),sm.free hr1,e2,by rw[upd_same,e3],e4,e5 le⟩
  ·obtain⟨as,rfl,has⟩:=refs_at (fun i r=>∃(b:Addr) (gs ms:List Nat),((bs.map V.ref).filter (neV H3))[i]? = some (V.ref b)∧H3 r=none∧H3 b=some (.lst (vN gs))∧H4 r=some (.lst (vN ms))∧ms.Perm gs∧ms.Pairwise (·≤·)) vs 0 fun i v hv=>by
    have hi:i < ((bs.map V.ref).filter (neV H3)).length:=by rw[← hvl];exact(List.getElem?_eq_some_iff.mp hv).1
    obtain⟨b,r,gs,ms,a1,a2,a0,a3,a4,a5,a6,a7⟩:=hvs i v _ hv (List.getElem?_eq_getElem hi)
    refine⟨r,a2,b,gs,ms,?_,a3,a4,a5,a6,a7⟩
    rw[Nat.zero_add,List.getElem?_eq_getElem hi,a1]
   rw[List.length_map] at hvl
   have each:∀(i:Nat) (r:Addr),as[i]? = some r→∃(b:Addr) (k:Nat),((bs.map V.ref).filter (neV H3))[i]? = some (V.ref b)∧bs[k]? = some b∧H3 r=none∧H4 r=some (.lst (vN (decA H4 r)))∧(decA H4 r)≠[]∧(decA H4 r).Pairwise (· < ·)∧∀ c,c∈decA H4 r↔c∈suitL fx t u∧c∈cho∧lab oth (suitL fx t u) c=k:=fun i r hr=>by
    obtain⟨b,gs,ms,a1,a3,a4,a5,a6,a7⟩:=has i r hr
    rw[Nat.zero_add] at a1
    have hm:=List.mem_of_getElem? a1
    obtain⟨hm1,hm2⟩:=List.mem_filter.mp hm
    obtain⟨b',hb',eb'⟩:=List.mem_map.mp hm1
    cases eb'
    obtain⟨k,hk,ek⟩:=List.mem_iff_getElem.mp hb'
    have ek':bs[k]? = some b:=by rw[List.getElem?_eq_getElem hk,ek]
    have e2:=bk k b ek'
    have eg:gs=grp oth cho (suitL fx t u) (suitL fx t u).length k:=by rw[← decA_of a4,decA_of e2]
    subst eg
    have dm:=decA_of a5
    have hne:0 < (decA H3 b).length:=of_decide_eq_true hm2
    rw[decA_of e2] at hne
    refine⟨b,k,a1,ek',a3,by rw[dm];exact a5,?_,?_,fun c=>?_⟩
    ·rw[dm]
     intro z
     rw[z] at a6
     have:=a6.length_eq
     simp at this
     omega
    ·rw[dm]
     refine mem_le a6 ?_ a7
     unfold grp
     exact(List.Nodup.sublist (List.take_sublist _ _) nd).filter _
    ·rw[dm,a6.mem_iff,mem_grp]
   refine q l as (as.map (decA H4)) H4 (s3.trans s4) (s3.free hl) hL ⟨by rw[List.length_map],fun j r e=>?_⟩ (fun r hr1=>?_) ?_ (fun g hg=>?_) (fun g hg=>?_) (fun c hc hcs=>?_) ?_
   ·obtain⟨_,_,_,_,_,h4,_⟩:=each j r e
    exact⟨decA H4 r,by rw[List.getElem?_map,e];rfl,h4⟩
   ·obtain⟨j,hj,ej⟩:=List.mem_iff_getElem.mp hr1
    obtain⟨_,_,_,_,h3,_⟩:=each j r (by rw[List.getElem?_eq_getElem hj,ej])
    exact s3.free h3
   ·rw[List.length_map,hvl]
    refine Nat.le_trans (List.length_filter_le _ _) ?_
    rw[List.length_map]
    omega
   ·obtain⟨r,hr1,rfl⟩:=List.mem_map.mp hg
    obtain⟨j,hj,ej⟩:=List.mem_iff_getElem.mp hr1
    obtain⟨_,_,_,_,_,_,h5,h6,_⟩:=each j r (by rw[List.getElem?_eq_getElem hj,ej])
    exact⟨h5,h6⟩
   ·obtain⟨r,hr1,rfl⟩:=List.mem_map.mp hg
    obtain⟨j,hj,ej⟩:=List.mem_iff_getElem.mp hr1
    obtain⟨_,k,_,_,_,_,_,_,h7⟩:=each j r (by rw[List.getElem?_eq_getElem hj,ej])
    exact⟨k,h7⟩
   ·have kl:=lab_le (oth:=oth) (cs:=suitL fx t u) c
    have hk:lab oth (suitL fx t u) c < bs.length:=by omega
    have ek:bs[lab oth (suitL fx t u) c]? = some bs[lab oth (suitL fx t u) c]:=List.getElem?_eq_getElem hk
    have e2:=bk _ _ ek
    have cm:c∈grp oth cho (suitL fx t u) (suitL fx t u).length (lab oth (suitL fx t u) c):=mem_grp.mpr ⟨hcs,hc,rfl⟩
    have hm:V.ref bs[lab oth (suitL fx t u) c]∈(bs.map V.ref).filter (neV H3):=List.mem_filter.mpr ⟨List.mem_map.mpr ⟨_,List.getElem_mem hk,rfl⟩,decide_eq_true (by rw[decA_of e2];exact List.length_pos_of_mem cm)⟩
    obtain⟨i,hi,ei⟩:=List.mem_iff_getElem.mp hm
    have hi2:i < as.length:=by rw[hvl];exact hi
    obtain⟨b,k',h1,h2,h3,h4,h5,h6,h7⟩:=each i as[i] (List.getElem?_eq_getElem hi2)
    rw[List.getElem?_eq_getElem hi,ei] at h1
    cases h1
    have kk:lab oth (suitL fx t u) c=k':=nd_at' g3.nd ek h2
    exact⟨decA H4 as[i],List.mem_map.mpr ⟨_,List.getElem_mem hi2,rfl⟩,(h7 c).mpr ⟨hcs,hc,kk⟩⟩
   ·rw[List.pairwise_map,List.pairwise_iff_getElem]
    intro i j hi hj hij c hci hcj
    obtain⟨b,k1,p1,p2,_,_,_,_,p7⟩:=each i as[i] (List.getElem?_eq_getElem hi)
    obtain⟨b',k2,r1,r2,_,_,_,_,r7⟩:=each j as[j] (List.getElem?_eq_getElem hj)
    have e1:=((p7 c).mp hci).2.2
    have e2:=((r7 c).mp hcj).2.2
    rw[e1] at e2
    subst e2
    rw[p2] at r2
    cases r2
    have ndf:((bs.map V.ref).filter (neV H3)).Nodup:=(List.Pairwise.map _ (fun a b h z=>h (by injection z)) g3.nd).filter _
    have:=nd_at' ndf p1 r1
    omega
theorem GsOk.more{fx:Fx}(ok:fx.Ok){t:Option Nat}{oth cho:List Nat}{n:Nat}{gss gs:List (List Nat)}(g:GsOk fx t oth cho n gss)(pk:∀ c∈cho,c % 8 < fx.h)(up:∀ g∈gs,g≠[]∧g.Pairwise (· < ·))(cl:∀ g∈gs,∃ k,∀ c,c∈g↔c∈suitL fx t n∧c∈cho∧lab oth (suitL fx t n) c=k)(all:∀ c∈cho,c∈suitL fx t n→∃ g∈gs,c∈g)(ap:gs.Pairwise fun a b=>∀ c,c∈a→c∉b):GsOk fx t oth cho (n+1) (gss++gs):=by
 refine⟨fun a ha=>?_,fun a ha=>?_,fun c hc h=>?_,List.pairwise_append.mpr ⟨g.ap,ap,fun a ha b hb c hca hcb=>?_⟩⟩
 ·rcases List.mem_append.mp ha with z | z
  ·exact g.up a z
  ·exact up a z
 ·rcases List.mem_append.mp ha with z | z
  ·obtain⟨u,k,hu,h⟩:=g.cl a z
   exact⟨u,k,by omega,h⟩
  ·obtain⟨k,h⟩:=cl a z
   refine⟨n,k,by omega,fun c=>?_⟩
   rw[h c,mem_suit ok]
   constructor
   ·rintro⟨⟨h1,h2⟩,h3,h4⟩
    exact⟨h3,h1,by unfold labC;rw[h1];exact h4⟩
   ·rintro⟨h1,h2,h3⟩
    exact⟨⟨h2,pk c h1⟩,h1,by unfold labC at h3;rw[h2] at h3;exact h3⟩
 ·by_cases e:c / 8 < n
  ·obtain⟨a,ha,hca⟩:=g.all c hc e
   exact⟨a,List.mem_append_left _ ha,hca⟩
  ·obtain⟨a,ha,hca⟩:=all c hc ((mem_suit ok).mpr ⟨by omega,pk c hc⟩)
   exact⟨a,List.mem_append_right _ ha,hca⟩
 ·obtain⟨u,k,hu,h⟩:=g.cl a ha
  obtain⟨k2,h2⟩:=cl b hb
  have e1:=((h c).mp hca).2.1
  have e2:=(mem_suit ok).mp ((h2 c).mp hcb).1
  omega
theorem GsOk.perm{fx:Fx}{t:Option Nat}{oth cho:List Nat}{n:Nat}{gss gs:List (List Nat)}(g:GsOk fx t oth cho n gss)(p:gs.Perm gss):GsOk fx t oth cho n gs:=
 ⟨fun a ha=>g.up a (p.mem_iff.mp ha),fun a ha=>g.cl a (p.mem_iff.mp ha),fun c hc h=>let ⟨a,ha,hca⟩:=g.all c hc h;⟨a,p.mem_iff.mpr ha,hca⟩,(p.pairwise_iff (fun {a b} h c hc hb=>h c hb hc)).mpr g.ap⟩
theorem head_in{g:List Nat}(h:g≠[]):g.headD 0∈g:=by
 match g,h with
 | x :: r,_=>exact List.mem_cons_self
theorem GsOk.heads{fx:Fx}{t:Option Nat}{oth cho:List Nat}{n:Nat}{gss:List (List Nat)}(g:GsOk fx t oth cho n gss):(gss.map fun a=>a.headD 0).Nodup:=by
 refine List.pairwise_map.mpr (List.Pairwise.imp_of_mem (fun {a b} ha hb h e=>?_) g.ap)
 exact h _ (head_in (g.up a ha).1) (e ▸ head_in (g.up b hb).1)
theorem move_in{fx:Fx}(ok:fx.Ok){t:Option Nat}{hs ys:List Nat}{lead m:Nat}(Pl:Plc fx hs lead ys m){c:Nat}(hc:c∈moveL fx t hs lead ys m):∃ h,hs[(lead+ys.length) % fx.n]? = some h∧h.testBit c=true∧c < 32∧c / 8 < fx.s∧c % 8 < fx.h∧m≠0∧c∈mayL fx t ys h:=by
 unfold moveL at hc
 by_cases m0:m=0
 ·rw[if_pos m0] at hc
  cases hc
 ·rw[if_neg m0] at hc
  obtain⟨h,eh,_⟩:=Pl.turn ok
  have eg:hs.getD ((lead+ys.length) % fx.n) 0=h:=by rw[List.getD_eq_getElem?_getD,eh];rfl
  rw[eg] at hc
  have hm:=List.mem_of_getElem? eh
  obtain⟨h1,h2⟩:=may_in (Pl.h32 ok hm) hc
  obtain⟨p1,p2⟩:=Pl.pk c (cnt_hand hm h1)
  exact⟨h,eh,h1,h2,p1,p2,m0,hc⟩
theorem oth_apart{fx:Fx}(ok:fx.Ok){t:Option Nat}{hs ys:List Nat}{lead m:Nat}(Pl:Plc fx hs lead ys m):∀ c∈othL fx.n hs lead ys,c∉moveL fx t hs lead ys m:=fun c hc hm=>by
 obtain⟨h,eh,hb,_⟩:=move_in ok Pl hm
 rcases(mem_oth fun h hh=>Pl.h32 ok hh).mp hc with z | ⟨i,g,eg,ne,gb⟩
 ·have:=Pl.apart (List.mem_of_getElem? eh) z
  rw[hb] at this
  cases this
 ·have e1:=own_hand Pl eh hb
  have e2:=own_hand Pl eg gb
  exact ne (e2.symm.trans e1)
def spAlike(CT CG:Addr):Sp:=fun vs H Q _=>∃(gm x p:Addr) (t:Option Nat) (fx:Fx) (hs ys:List Nat) (lead m:Nat),vs=[.ref gm,.ref p]∧GamH CT CG fx t H gm x∧TrB t∧IsPl H p hs lead ys∧Plc fx hs lead ys m ∧
 ∀ l as gss H',Same H H'→H l=none→H' l=some (.lst (as.map V.ref))→IsDl H' as gss→(∀ a∈as,H a=none)→l∉as→GsOk fx t (othL fx.n hs lead ys) (moveL fx t hs lead ys m) fx.s gss→(gss.Pairwise fun a b=>a.headD 0 < b.headD 0)→gss.length≤40→Q (.ref l) H'
abbrev nAlike:List Str:=["game","place","choice","others","groups","suit"]
theorem scAlike:FnScope nAlike ["game","place"] (defScope sAlike):=⟨rfl,rfl,rfl,by decide +kernel,rfl,by decide +kernel,by decide +kernel⟩
theorem ok_alike{k:Nat}{CT CG f1 f2 f3:Addr}{d1 d2 d3:FuncData}(F:Fun K "alike" "alike" sAlike f fd)(C:TabC K mg CT)(CGm:GamC K mg CG)(LM:Lib P w K mg base k "moves" ["game","place"] (spMoves CT CG) f1 d1)(LO:Lib P w K mg base k "cards_of_others" ["game","place"] (spOth CT CG) f2 d2)(LG:Lib P w K mg base k "groups_of_suit" pGrp (spGrp CT CG) f3 d3)(mr:mg "range" = none)(mS:mg "sorted" = none) :
  FnOk P w K mg base CX0 (k+1) f fd ["game","place"] (spAlike CT CG):=by
 refine F.ok scAlike (fun vs H Q E h=>?_) (fun cdv A outer s H vs Q E hr h=>?_)
 ·obtain⟨gm,x,p,t,fx,hs,ys,lead,m,rfl,_⟩:=h
  rfl
 obtain⟨gm,x,p,t,fx,hs,ys,lead,m,rfl,G,tb,hp,Pl,q⟩:=h
 refine⟨_,pss_cons (ps_set (i:=2) scAlike.nd rfl (Or.inl rfl) (pe_call LM.ok hr rfl LM.mg LM.kp LM.bd .nil pass0 (pa_cons (pv 0) (pa_cons (pv 1) pa_nil))))
  (pss_cons (ps_set (i:=3) scAlike.nd rfl (Or.inl rfl) (pe_call LO.ok hr rfl LO.mg LO.kp LO.bd .nil pass0 (pa_cons (pv 0) (pa_cons (pv 1) pa_nil))))
  (pss_cons (ps_set (i:=4) scAlike.nd rfl (Or.inl rfl) (pe_lst pa_nil))
  (pss_cons (ps_for PassesOwn.never rfl (pi_range1 rfl mr (pa_cons (pe_fld (pe_fld (pv 0) rfl) rfl) pa_nil)) (pg_name (i:=5) scAlike.nd rfl (Or.inl rfl))
   (pss_one (ps_expr (pe_bm PySem.F.plainAttrs_list PySem.F.slot_list_extend PySem.F.type_list_extend mt_extend (pv 4) (pa_cons (pe_call LG.ok hr rfl LG.mg LG.kp LG.bd .nil pass0 (pa_cons (pv 0) (pa_cons (pv 5) (pa_cons (pv 2) (pa_cons (pv 3) pa_nil))))) pa_nil)))))
  (pss_one (ps_ret (pe_callB (call_sortedLB hr.units) rfl mS PyProof.Rows.boot_sorted (pa_cons (pv 4) pa_nil))))))),?_⟩
 have ok:=G.ok
 have s4:=ok.s4
 refine set_nm (fun v H1=>Same H H1∧∃ lc,v = .ref lc∧H1 lc=some (.lst (vN (moveL fx t hs lead ys m)))) (fun R hR=>⟨_,rfl,_,rfl,gm,x,p,t,fx,hs,ys,lead,m,rfl,G,tb,hp,Pl,fun l H' s1 _ hL=>hR _ _ ⟨s1,l,rfl,hL⟩⟩) (fun v H1 z=>?_)
 obtain⟨s1,lc,rfl,hlc⟩:=z
 refine set_nm (fun v H2=>Same H1 H2∧∃ lo,v = .ref lo∧H2 lo=some (.lst (vN (othL fx.n hs lead ys)))) (fun R hR=>⟨_,rfl,_,rfl,gm,x,p,t,fx,hs,ys,lead,m,rfl,G.same s1,hp.same s1,Pl,fun l H' s2 _ hL=>hR _ _ ⟨s2,l,rfl,hL⟩⟩) (fun v H2 z=>?_)
 obtain⟨s2,lo,rfl,hlo⟩:=z
 refine set_nm (fun v H3=>∃ lg,v = .ref lg∧H2 lg=none∧H3=upd H2 lg (.lst [])) (fun R hR=>⟨fits3 0 (by decide),fun lg hlg=>hR _ _ ⟨lg,rfl,hlg,rfl⟩⟩) (fun v H3 z=>?_)
 obtain⟨lg,rfl,hlg,rfl⟩:=z
 have s12:=s1.trans s2
 have s3:=same_upd hlg (.lst [])
 obtain⟨dg,hG⟩:=id (G.g.same (s12.trans s3))
 obtain⟨dx,po,to,hX,hX1,hX2⟩:=id (G.t.same (s12.trans s3))
 refine⟨_,rfl,gm,CG,dg,_,_,rfl,hG,CGm.cl,CGm.nT,gam_table _ _,x,CT,dx,_,_,rfl,hX,C.cl,C.nS,look7_suits _ _ _,((fx.s:Nat):Int),rfl,by omega,by omega,?_⟩
 refine for_range (n:=fx.s) (lo:=0) (fun i σ H'=>Same H2 H'∧∃(as:List Addr) (gss:List (List Nat)) (x5:Option V),σ=[some (.ref gm),some (.ref p),some (.ref lc),some (.ref lo),some (.ref lg),x5]∧H' lg=some (.lst (as.map V.ref))∧lg∉as∧IsDl H' as gss∧(∀ a∈as,H2 a=none)∧GsOk fx t (othL fx.n hs lead ys) (moveL fx t hs lead ys m) i gss∧gss.length≤9 * i)
  ⟨s3,[],[],none,rfl,upd_same,List.not_mem_nil,⟨rfl,fun j a e=>nomatch e⟩,(fun a ha=>nomatch ha),GsOk.zero _ _ _ _,Nat.le_refl _⟩ (fun i σ H' hi z=>?_) (fun σ H' z=>?_)
 ·obtain⟨s5,as,gss,x5,rfl,hL,nl,D,fr,gk,gl⟩:=z
  have s15:=s12.trans s5
  refine⟨_,rfl,.inl ⟨rfl,_,SqL.of hL⟩,_,rfl,_,rfl,_,rfl,_,rfl,gm,x,lc,lo,t,fx,i,moveL fx t hs lead ys m,othL fx.n hs lead ys,(by rw[Int.zero_add];rfl),G.same s15,by omega,s5 _ _ (s2 _ _ hlc),s5 _ _ hlo,oth_apart ok Pl,fun l bs gs H6 s6 hl6 hL6 D6 fr6 gl6 up6 cl6 all6 ap6=>?_⟩
  refine⟨lg,l,_,_,rfl,rfl,s6 _ _ hL,hL6,?_,?_⟩
  ·rw[List.length_map,List.length_map,D.1,D6.1]
   exact Nat.le_trans (by omega) (fits3 1000 (by decide))
  have nb:∀ b∈bs,b≠lg:=fun b hb z=>by
   have:=fr6 b hb
   rw[z,hL] at this
   cases this
  refine⟨same_upd2 hlg (s5.trans s6) _,as++bs,gss++gs,_,rfl,by rw[upd_same,List.map_append],fun z=>?_,⟨by rw[List.length_append,List.length_append,D.1,D6.1],fun j a e=>?_⟩,fun a ha=>?_,gk.more ok (fun c hc=>(move_in ok Pl hc).choose_spec.2.2.2.2.1) up6 cl6 all6 ap6,by rw[List.length_append];omega⟩
  ·rcases List.mem_append.mp z with z | z
   ·exact nl z
   ·exact nb lg z rfl
  ·by_cases w:j < as.length
   ·rw[List.getElem?_append_left w] at e
    obtain⟨cs,e1,e2⟩:=D.2 j a e
    have am:a≠lg:=fun z=>nl (z ▸ List.mem_of_getElem? e)
    exact⟨cs,by rw[List.getElem?_append_left (by rw[← D.1];exact w)];exact e1,by rw[upd_ne am];exact s6 _ _ e2⟩
   ·rw[List.getElem?_append_right (by omega)] at e
    obtain⟨cs,e1,e2⟩:=D6.2 _ a e
    have am:a≠lg:=nb a (List.mem_of_getElem? e)
    exact⟨cs,by rw[List.getElem?_append_right (by rw[← D.1];omega),← D.1];exact e1,by rw[upd_ne am];exact e2⟩
  ·rcases List.mem_append.mp ha with z | z
   ·exact fr a z
   ·exact s5.free (fr6 a z)
 ·obtain⟨s5,as,gss,x5,rfl,hL,nl,D,fr,gk,gl⟩:=z
  have eg:gss=as.map (decA H'):=by
   apply List.ext_getElem?
   intro j
   rw[List.getElem?_map]
   cases ej:as[j]? with
   | none=>
    rw[List.getElem?_eq_none_iff] at ej
    rw[List.getElem?_eq_none (by rw[← D.1];exact ej)]
    rfl
   | some a=>
    obtain⟨cs,e1,e2⟩:=D.2 j a ej
    rw[e1]
    show some cs=some (decA H' a)
    rw[decA_of e2]
  have at_:∀ a∈as,H' a=some (.lst (vN (decA H' a)))∧decA H' a∈gss:=fun a ha=>by
   obtain⟨j,hj,ej⟩:=List.mem_iff_getElem.mp ha
   obtain⟨cs,e1,e2⟩:=D.2 j a (by rw[List.getElem?_eq_getElem hj,ej])
   rw[decA_of e2]
   exact⟨e2,List.mem_of_getElem? e1⟩
  refine⟨_,rfl,lg,as,fun a=>(((decA H' a).headD 0:Nat):Int),rfl,SqL.of hL,by rw[D.1];omega,fun a ha=>?_,?_,fun l qs hl pq rq=>?_⟩
  ·obtain⟨e1,e2⟩:=at_ a ha
   have ne:=(gk.up _ e2).1
   match hd:decA H' a,ne with
   | y :: r,_=>
    rw[hd,vN_ints] at e1
    refine⟨r.map fun c=>((c:Nat):Int),SqL.of ?_⟩
    show H' a=some (.lst (((((decA H' a).headD 0:Nat):Int) :: r.map fun c=>((c:Nat):Int)).map V.int))
    rw[e1,hd]
    rfl
  ·have e:(as.map fun a=>(((decA H' a).headD 0:Nat):Int))=(gss.map fun a=>a.headD 0).map fun c=>((c:Nat):Int):=by
    rw[eg,List.map_map,List.map_map]
    rfl
   rw[e]
   exact List.Pairwise.map _ (fun a b h z=>h (by omega)) gk.heads
  ·have s6:=same_upd hl (.lst (qs.map V.ref))
   have s26:=s5.trans s6
   have pg:(qs.map (decA H')).Perm gss:=by rw[eg];exact pq.map _
   refine q l qs (qs.map (decA H')) _ (s12.trans s26) (s12.free (s5.free hl)) upd_same ⟨by rw[List.length_map],fun j a e=>?_⟩ (fun a ha=>s12.free (fr a (pq.mem_iff.mp ha))) (fun z=>?_) (gk.perm pg) ?_ (by rw[pg.length_eq];omega)
   ·exact⟨decA H' a,by rw[List.getElem?_map,e];rfl,s6 _ _ (at_ a (pq.mem_iff.mp (List.mem_of_getElem? e))).1⟩
   ·have:=(at_ l (pq.mem_iff.mp z)).1
    rw[hl] at this
    cases this
   ·rw[List.pairwise_map]
    exact rq.imp fun {a b} h=>by
     have h':(((decA H' a).headD 0:Nat):Int) < (((decA H' b).headD 0:Nat):Int):=h
     omega
end
end My
namespace My
open PySem L2
abbrev sSteps:Stmt:=top 55
abbrev sWhole:Stmt:=top 56
abbrev sBtw:Stmt:=top 57
abbrev sRight:Stmt:=top 58
section
variable{P:Program}{w:World}{K:PySem.W.Frag}{mg:Str→Option Value}{base:Heap}{f g:Addr}{fd gd:FuncData}
def spSteps(K:PySem.W.Frag):Sp:=fun vs H Q _=>∃(a:Addr) (ns:List Int) (d:Addr) (f:Fx) (t:Option Nat) (sz:Nat),vs=[.ref a,.ref d]∧SqL K H a (ns.map V.int)∧ns.length≤63∧f.Ok∧IsRt H d f t sz∧sz≤100∧∀ steps:Nat,steps≤1000→f.n * sz≤steps+9→Q (.int (steps:Nat)) H
abbrev pSteps:List Str:=["_law_script","_law_rules_here"]
abbrev nSteps:List Str:=["_law_script","_law_rules_here","_law_whole_here","_law_steps_here"]
theorem scSteps:FnScope nSteps pSteps (defScope sSteps):=⟨rfl,rfl,rfl,by decide +kernel,rfl,by decide +kernel,by decide +kernel⟩
theorem ok_steps{k:Nat}{f1:Addr}{d1:FuncData}(F:Fun K "_law_steps" "_law_steps" sSteps f fd)(LX:Lib P w K mg base k "_law_mixed" pMixed (spMixed K) f1 d1)(mMx:mg "max" = none):FnOk P w K mg base CX0 (k+1) f fd pSteps (spSteps K):=by
 refine F.ok scSteps (fun vs H Q E h=>?_) (fun cdv A outer s H vs Q E hr h=>?_)
 ·obtain⟨a,ns,d,fx,t,sz,rfl,_⟩:=h
  rfl
 obtain⟨a,ns,d,fx,t,sz,rfl,hS,h63,ok,hRt,sz100,q⟩:=h
 refine⟨_,pss_cons (ps_set (i:=2) scSteps.nd rfl (Or.inl rfl) (pe_op op_mul (pe_ix ix_tup (pv 1) pe_int (fun _ _=>rfl)) (pe_ix ix_tup (pv 1) pe_int (fun _ _=>rfl))))
  (pss_cons (ps_set (i:=3) scSteps.nd rfl (Or.inl rfl) (pe_op op_mod (pe_call LX.ok hr rfl LX.mg LX.kp LX.bd .nil pass0 (pa_cons (pv 0) (pa_cons pe_int pa_nil))) (pe_op op_add (pv 2) pe_int)))
  (pss_cons (ps_if (pt_cmpR op_eq (pe_op op_mod (pe_call LX.ok hr rfl LX.mg LX.kp LX.bd .nil pass0 (pa_cons (pv 0) (pa_cons pe_int pa_nil))) pe_int) pe_int (nomark _)) (pss_one (ps_set (i:=3) scSteps.nd rfl (Or.inl rfl) (pe_op op_mod (pe_call LX.ok hr rfl LX.mg LX.kp LX.bd .nil pass0 (pa_cons (pv 0) (pa_cons pe_int pa_nil))) pe_int))) pss_nil)
  (pss_one (ps_ret (pe_callB (call_max2 rfl) rfl mMx PyProof.Rows.boot_max (pa_cons (pv 3) (pa_cons (pe_op op_sub (pv 2) pe_int) pa_nil))))))),?_⟩
 obtain⟨lo,lp,lh,hD,hO,hP,hT⟩:=id hRt
 obtain⟨g1,g2,g3,g4,g5,g6⟩:=@rt_get fx t sz lo
 have n4:fx.n≤4:=by rcases ok.n34 with e | e<;>omega
 have nz:fx.n * sz≤4 * 100:=Nat.mul_le_mul n4 sz100
 refine set_nm (fun v H1=>H1=H∧v = .int ((fx.n * sz:Nat):Int)) (fun R hR=>⟨_,rfl,d,_,_,_,rfl,rfl,SqT.of hD,g1,_,rfl,d,_,_,_,rfl,rfl,SqT.of hD,g3,_,_,rfl,rfl,.inl ⟨by omega,by omega⟩,hR _ _ ⟨rfl,by rw[Int.natCast_mul]⟩⟩) (fun v H1 z=>?_)
 obtain⟨rfl,rfl⟩:=z
 generalize fx.n * sz=wh at nz q ⊢
 refine set_nm (fun v H2=>H2=H1∧∃ u:Nat,v = .int (u:Nat)∧u≤1000) (fun R hR=>⟨_,rfl,a,ns,7,rfl,hS,h63,by decide,by decide,fun z=>⟨_,rfl,_,_,rfl,rfl,_,_,rfl,rfl,(by show(0:Int) < ((wh:Nat):Int)+1;omega),?_⟩⟩) (fun v H2 z=>?_)
 ·have r0:=Int.emod_nonneg z (show((wh:Nat):Int)+1≠0 by omega)
  have r1:=Int.emod_lt_of_pos z (show(0:Int) < ((wh:Nat):Int)+1 by omega)
  exact hR _ _ ⟨rfl,(z % (((wh:Nat):Int)+1)).toNat,nat_v r0,by omega⟩
 obtain⟨rfl,u,rfl,u1⟩:=z
 refine seq_cut (fun σ H3=>H3=H2∧∃ u:Nat,σ=[some (.ref a),some (.ref d),some (.int (wh:Nat)),some (.int (u:Nat))]∧u≤1000) (fun D' er nx=>?_) (fun σ H3 z=>?_)
 ·refine⟨_,rfl,a,ns,8,rfl,hS,h63,by decide,by decide,fun z=>⟨_,_,rfl,rfl,(show(0:Int) < 3 by decide),rfl,_,rfl,ite2 (fun _=>⟨_,rfl,a,ns,7,rfl,hS,h63,by decide,by decide,fun z=>⟨_,_,rfl,rfl,(show(0:Int) < 3 by decide),?_⟩⟩) (fun _=>nx _ _ ⟨rfl,u,rfl,u1⟩)⟩⟩
  have r0:=Int.emod_nonneg z (show(3:Int)≠0 by decide)
  have r1:=Int.emod_lt_of_pos z (show(0:Int) < 3 by decide)
  have e:V.int (z % 3)=V.int (((z % 3).toNat:Nat):Int):=nat_v r0
  refine nx _ _ ⟨rfl,(z % 3).toNat,?_,by omega⟩
  rw[← e]
  rfl
 obtain⟨rfl,u,rfl,u1⟩:=z
 refine⟨_,rfl,_,rfl,_,_,rfl,rfl,_,_,rfl,?_⟩
 have e:V.int (if((wh:Nat):Int) - 9 > ((u:Nat):Int) then((wh:Nat):Int) - 9 else((u:Nat):Int))=V.int (((if((wh:Nat):Int) - 9 > ((u:Nat):Int) then((wh:Nat):Int) - 9 else((u:Nat):Int)).toNat:Nat):Int):=nat_v (by split<;>omega)
 show Q (V.int (if((wh:Nat):Int) - 9 > ((u:Nat):Int) then((wh:Nat):Int) - 9 else((u:Nat):Int))) H3
 rw[e]
 exact q _ (by split<;>omega) (by split<;>omega)
def spWhole(K:PySem.W.Frag):Sp:=fun vs H Q _=>∃ i:Int,vs=[.int i]∧Q (.bl true) H
theorem scWhole:FnScope ["_law_found"] ["_law_found"] (defScope sWhole):=⟨rfl,rfl,rfl,by decide +kernel,rfl,by decide +kernel,by decide +kernel⟩
theorem ok_whole{k:Nat}(F:Fun K "_law_whole" "_law_whole" sWhole f fd)(mi:mg "isinstance" = none)(mI:mg "int" = none)(mB:mg "bool" = none):FnOk P w K mg base CX0 (k+1) f fd ["_law_found"] (spWhole K):=by
 refine F.ok scWhole (fun vs H Q E h=>?_) (fun cdv A outer s H vs Q E hr h=>?_)
 ·obtain⟨h,rfl,_⟩:=h
  rfl
 obtain⟨i,rfl,q⟩:=h
 refine⟨_,pss_one (ps_ret (pe_and (pe_callB call_isT rfl mi PyProof.Rows.boot_isinstance (pa_cons (pv 0) (pa_cons (pe_bltn (v:=.ty "int") rfl mI PyProof.Rows.boot_int rfl) pa_nil)))
  (pe_one (pe_not (pe_callB call_isT rfl mi PyProof.Rows.boot_isinstance (pa_cons (pv 0) (pa_cons (pe_bltn (v:=.ty "bool") rfl mB PyProof.Rows.boot_bool rfl) pa_nil))))))),?_⟩
 refine⟨_,rfl,_,_,_,true,rfl,.int i,rfl,true,rfl,iteT ?_⟩
 exact⟨_,rfl,_,_,_,false,rfl,.int i,by with_unfolding_all rfl,false,rfl,q⟩
theorem rise_eq:∀{a b:List Nat},a.Pairwise (· < ·)→b.Pairwise (· < ·)→(∀ i,i∈a↔i∈b)→a=b
 | [],[],_,_,_=>rfl
 | [],y :: b,_,_,h=>nomatch (h y).mpr List.mem_cons_self
 | x :: a,[],_,_,h=>nomatch (h x).mp List.mem_cons_self
 | x :: a,y :: b,pa,pb,h=>by
  obtain⟨a1,a2⟩:=List.pairwise_cons.mp pa
  obtain⟨b1,b2⟩:=List.pairwise_cons.mp pb
  have e:x=y:=by
   rcases List.mem_cons.mp ((h x).mp List.mem_cons_self) with z | z
   ·exact z
   ·rcases List.mem_cons.mp ((h y).mpr List.mem_cons_self) with u | u
    ·exact u.symm
    ·have:=a1 y u
     have:=b1 x z
     omega
  subst e
  rw[rise_eq a2 b2 fun i=>⟨fun m=>?_,fun m=>?_⟩]
  ·rcases List.mem_cons.mp ((h i).mp (List.mem_cons_of_mem _ m)) with z | z
   ·have:=a1 i m
    omega
   ·exact z
  ·rcases List.mem_cons.mp ((h i).mpr (List.mem_cons_of_mem _ m)) with z | z
   ·have:=b1 i m
    omega
   ·exact z
theorem cards_hN{A:List Nat}(ri:A.Pairwise (· < ·))(h:∀ c∈A,c < 32):cardsN (hN A)=A:=by
 refine rise_eq ?_ ri (hN_cards h)
 exact List.Pairwise.filter _ List.pairwise_lt_range
theorem orL_sl{a b cs:List Nat}(ha:a.Sublist cs)(hb:b.Sublist cs):(orL a b).Sublist cs:=by
 unfold orL
 split
 ·exact hb
 ·exact ha
theorem folL_sl(s:Nat)(cs:List Nat):(folL s cs).Sublist cs:=List.filter_sublist
theorem cutL_sl(t:Option Nat)(led:Nat)(cs:List Nat):(cutL t led cs).Sublist cs:=by
 refine orL_sl (folL_sl _ _) (orL_sl ?_ (List.Sublist.refl _))
 cases t with
 | none=>exact List.nil_sublist _
 | some u=>exact folL_sl _ _
theorem alw_sl(d:_root_.Fin 4)(f:Fx)(t:Option Nat)(ys cs:List Nat):(alw d f t ys cs).Sublist cs:=by
 match d with
 | 0=>exact List.Sublist.refl _
 | 1=>exact orL_sl (folL_sl _ _) (List.Sublist.refl _)
 | 2=>exact cutL_sl _ _ _
 | 3=>exact orL_sl (List.filter_sublist.trans (cutL_sl _ _ _)) (cutL_sl _ _ _)
theorem may_due{f:Fx}{t:Option Nat}{ys cs:List Nat}(up:cs.Pairwise (· < ·))(c32:∀ c∈cs,c < 32){ds:List Nat}(hp:ds.Perm (if ys=[] then cs else alw f.d f t ys cs))(hs:ds.Pairwise (·≤·)):ds=mayL f t ys (hN cs):=by
 have ec:cardsN (hN cs)=cs:=cards_hN up c32
 have sl:(if ys=[] then cs else alw f.d f t ys cs).Sublist cs:=by
  split
  ·exact List.Sublist.refl _
  ·exact alw_sl _ _ _ _ _
 have uX:=up.sublist sl
 unfold mayL
 rw[ec,cards_hN uX fun c hc=>c32 c (sl.subset hc)]
 refine rise_eq ?_ uX fun i=>hp.mem_iff
 have nd:ds.Nodup:=hp.nodup_iff.mpr (uX.imp fun {a b} l e=>by omega)
 exact List.Pairwise.imp₂ (fun {a b} (l:a≤b) (n:a≠b)=>by omega) hs nd
theorem StOk.moveL{fx:Fx}(ok:fx.Ok){t:Option Nat}{css:List (List Nat)}{lead m:Nat}{ys cs:List Nat}(S:StOk fx css lead ys m)(ec:css[(lead+ys.length) % fx.n]? = some cs)(ecl:cs.length=m):moveL fx t (css.map hN) lead ys m=mayL fx t ys (hN cs):=by
 unfold My.moveL
 by_cases m0:m=0
 ·rw[if_pos m0]
  have:cs=[]:=List.eq_nil_of_length_eq_zero (by omega)
  subst this
  unfold mayL
  have y0:ys=[]:=by
   have Pl0:=S.plc
   rw[m0] at Pl0
   exact Pl0.none ok
  rw[if_pos y0]
  rfl
 ·rw[if_neg m0,List.getD_eq_getElem?_getD,List.getElem?_map,ec]
  rfl
def gonL(n:Nat)(css:List (List Nat))(seat:Nat)(ys:List Nat)(i:Nat):List Nat:=ys++((List.range i).filter fun j=>decide (j≠seat)).flatMap fun j=>css.getD j []
theorem gon_oth{fx:Fx}(ok:fx.Ok){css:List (List Nat)}{lead m:Nat}{ys:List Nat}(S:StOk fx css lead ys m){c:Nat}:c∈gonL fx.n css ((lead+ys.length) % fx.n) ys css.length↔c∈othL fx.n (css.map hN) lead ys:=by
 rw[mem_oth fun h hh=>S.plc.h32 ok hh]
 unfold gonL
 rw[List.mem_append,List.mem_flatMap]
 refine or_congr Iff.rfl ?_
 constructor
 ·rintro⟨i,hi,hc⟩
  obtain⟨i1,i2⟩:=List.mem_filter.mp hi
  have il:=List.mem_range.mp i1
  have e:css[i]? = some (css.getD i []):=by rw[List.getD_eq_getElem?_getD,List.getElem?_eq_getElem il];rfl
  exact⟨i,hN (css.getD i []),by rw[List.getElem?_map,e];rfl,of_decide_eq_true i2,by rw[hN_bit];exact decide_eq_true hc⟩
 ·rintro⟨i,h,e,ne,hb⟩
  rw[List.getElem?_map] at e
  obtain⟨cs,ecs,rfl⟩:=Option.map_eq_some_iff.mp e
  have il:=(List.getElem?_eq_some_iff.mp ecs).1
  refine⟨i,List.mem_filter.mpr ⟨List.mem_range.mpr il,decide_eq_true ne⟩,?_⟩
  rw[List.getD_eq_getElem?_getD,ecs]
  rw[hN_bit] at hb
  exact of_decide_eq_true hb
theorem two_sorted{ds:List Nat}{p q:Nat}(pm:ds.Perm [p,q])(le:ds.Pairwise (·≤·)):ds=[min p q,max p q]:=by
 refine perm_sorted (pm.trans ?_) le ?_
 ·rcases Nat.le_total p q with h | h
  ·rw[Nat.min_eq_left h,Nat.max_eq_right h]
  ·rw[Nat.min_eq_right h,Nat.max_eq_left h]
   exact List.Perm.swap _ _ _
 ·refine List.pairwise_cons.mpr ⟨fun x hx=>?_,List.pairwise_cons.mpr ⟨(fun x hx=>nomatch hx),List.Pairwise.nil⟩⟩
  rw[List.mem_singleton.mp hx]
  omega
def spBtw:Sp:=fun vs H Q _=>∃(d st:Addr) (f:Fx) (t:Option Nat) (sz:Nat) (css:List (List Nat)) (lead m:Nat) (ys:List Nat) (one oth:Nat),vs=[.ref d,.ref st,.int (one:Nat),.int (oth:Nat)]∧f.Ok∧IsRt H d f t sz∧IsSt H st css lead ys∧StOk f css lead ys m∧one < 32∧oth < 32∧one % 8 < f.h∧oth % 8 < f.h∧one∉othL f.n (css.map hN) lead ys∧oth∉othL f.n (css.map hN) lead ys ∧
 ∀ H',Same H H'→Q (.bl (!decide (one / 8=oth / 8∧labC f t (othL f.n (css.map hN) lead ys) one=labC f t (othL f.n (css.map hN) lead ys) oth))) H'
abbrev pBtw:List Str:=["_law_rules_here","_law_state_here","_law_one","_law_other"]
abbrev nBtw:List Str:=["_law_rules_here","_law_state_here","_law_one","_law_other","_law_order_here","_law_places","_law_seat","_law_cards","_law_k","_law_card"]
theorem scBtw:FnScope nBtw pBtw (defScope sBtw):=⟨rfl,rfl,rfl,by decide +kernel,rfl,by decide +kernel,by decide +kernel⟩
theorem ok_btw{k:Nat}{f1:Addr}{d1:FuncData}(F:Fun K "_law_between" "_law_between" sBtw f fd)(LT:Lib P w K mg base k "_law_turn" pLTurn spLTurn f1 d1)(mLi:mg "list" = none)(mr:mg "range" = none)(ml:mg "len" = none)(mI:mg "int" = none)(mS:mg "sorted" = none):FnOk P w K mg base CX0 (k+1) f fd pBtw spBtw:=by
  refine F.ok scBtw (fun vs H Q E h=>?_) (fun cdv A outer s H vs Q E hr h=>?_)
  · obtain⟨d,st,fx,t,sz,css,lead,m,ys,one,oth,rfl,_⟩:=h
    rfl
  obtain⟨d,st,fx,t,sz,css,lead,m,ys,one,oth,rfl,ok,hRt,hSt,S,o32,u32,oh,uh,ono,uno,q⟩:=h
  refine⟨_,pss_cons (ps_if (pt_cmpR op_ne (pe_op op_fdiv (pv 2) pe_int) (pe_op op_fdiv (pv 3) pe_int) (nomark _)) (pss_one (ps_ret pe_bl)) pss_nil)
    (pss_cons (ps_set (i:=4) scBtw.nd rfl (Or.inl rfl) (pe_ix ix_list (pe_ix ix_tup (pv 0) pe_int (fun _ _=>rfl)) (pe_callTy call_int_b rfl mI PyProof.Rows.boot_int (pa_cons (pe_cmpR op_eq (pe_op op_fdiv (pv 2) pe_int) (pe_ix ix_tup (pv 0) pe_int (fun _ _=>rfl)) (nomark _)) pa_nil)) (fun _ _=>rfl)))
    (pss_cons (ps_set (i:=5) scBtw.nd rfl (Or.inl rfl) (pe_callB call_sortedI rfl mS PyProof.Rows.boot_sorted (pa_cons (pe_lst (pa_cons (pe_bm PySem.F.plainAttrs_list PySem.F.slot_list_index PySem.F.type_list_index mt_index (pv 4) (pa_cons (pe_op op_mod (pv 2) pe_int) pa_nil)) (pa_cons (pe_bm PySem.F.plainAttrs_list PySem.F.slot_list_index PySem.F.type_list_index mt_index (pv 4) (pa_cons (pe_op op_mod (pv 3) pe_int) pa_nil)) pa_nil))) pa_nil)))
    (pss_cons (ps_set (i:=6) scBtw.nd rfl (Or.inl rfl) (pe_call LT.ok hr rfl LT.mg LT.kp LT.bd .nil pass0 (pa_cons (pv 1) pa_nil)))
    (pss_cons (ps_set (i:=7) scBtw.nd rfl (Or.inl rfl) (pe_callTy call_list_of rfl mLi PyProof.Rows.boot_list (pa_cons (pe_ix ix_tup (pv 1) pe_int (fun _ _=>rfl)) pa_nil)))
    (pss_cons (ps_for PassesOwn.never rfl (pi_range1 rfl mr (pa_cons (pe_callB call_len_seq rfl ml PySem.boot_len (pa_cons (pe_ix ix_tup (pv 1) pe_int (fun _ _=>rfl)) pa_nil)) pa_nil)) (pg_name (i:=8) scBtw.nd rfl (Or.inl rfl))
      (pss_one (ps_if (pt_cmpR op_ne (pv 8) (pv 6) (nomark _)) (pss_one (ps_set (i:=7) scBtw.nd rfl (Or.inl rfl) (pe_op op_cat (pv 7) (pe_ix ix_list (pe_ix ix_tup (pv 1) pe_int (fun _ _=>rfl)) (pv 8) (fun _ _=>rfl))))) pss_nil)))
    (pss_cons (ps_for PassesOwn.never rfl (pi_list (pv 7)) (pg_name (i:=9) scBtw.nd rfl (Or.inl rfl))
      (pss_one (ps_if (PW.pt (pw_and (pt_cmpR op_eq (pe_op op_fdiv (pv 9) pe_int) (pe_op op_fdiv (pv 2) pe_int) (nomark _)) (pw_and1 (pt_chain op_lt op_lt (pe_ix ix_list (pv 5) pe_int (fun _ _=>rfl)) (pe_bm PySem.F.plainAttrs_list PySem.F.slot_list_index PySem.F.type_list_index mt_index (pv 4) (pa_cons (pe_op op_mod (pv 9) pe_int) pa_nil)) (pe_ix ix_list (pv 5) pe_int (fun _ _=>rfl)))))) (pss_one (ps_ret pe_bl)) pss_nil)))
    (pss_one (ps_ret pe_bl)))))))),?_⟩
  have n4:fx.n≤4:=by rcases ok.n34 with e | e<;>omega
  have n0:0 < fx.n:=by rcases ok.n34 with e | e<;>omega
  have h8:=ok.h8
  have yl:=S.plc.yl
  have z1000:=fits3 1000 (by decide)
  have eo1:((one:Nat):Int) / 8=((one / 8:Nat):Int):=by omega
  have eu1:((oth:Nat):Int) / 8=((oth / 8:Nat):Int):=by omega
  refine⟨_,rfl,_,_,rfl,rfl,⟨by decide,by decide⟩,_,rfl,_,_,rfl,rfl,⟨by decide,by decide⟩,rfl,_,rfl,?_⟩
  show if(!decide (V.int (((one:Nat):Int) / 8)=V.int (((oth:Nat):Int) / 8)))=true then _ else _
  rw[eo1,eu1,nat_dec]
  refine ite2 (fun e=>?_) (fun e=>?_)
  · have ne:¬ one / 8=oth / 8:=fun z=>by rw[decide_eq_true z] at e;exact Bool.noConfusion e
    have z:=q H (Same.refl H)
    rw[decide_eq_false (fun w=>ne w.1)] at z
    exact z
  have es:one / 8=oth / 8:=by
    by_cases c:one / 8=oth / 8
    · exact c
    · rw[decide_eq_false c] at e
      exact absurd rfl e
  refine nx_of ?_
  obtain⟨lo,lpl,lhi,hD,hO,hP,hT⟩:=id hRt
  obtain⟨g1,g2,g3,g4,g5,g6⟩:=@rt_get fx t sz lo
  obtain⟨lord,hlo⟩:∃ lord,atI [V.ref lpl,V.ref lhi] (if decide (t=some (one / 8))=true then 1 else 0)=some (V.ref lord)∧H lord=some (.lst (vN (ordOf fx (decide (t=some (one / 8)))))):=by
    by_cases e:t=some (one / 8)
    · rw[decide_eq_true e,if_pos rfl]
      exact⟨lhi,rfl,hT⟩
    · rw[decide_eq_false e,if_neg Bool.false_ne_true]
      exact⟨lpl,rfl,hP⟩
  generalize hord:ordOf fx (decide (t=some (one / 8)))=ord at hlo
  have opm:=ord_perm ok (decide (t=some (one / 8)))
  rw[hord] at opm
  have ol:ord.length=fx.h:=perm_len opm
  have omem:∀{v:Nat},v < fx.h→v∈ord:=fun h=>opm.mem_iff.mpr (List.mem_range.mpr h)
  refine set_nm (fun v H1=>H=H1∧v = .ref lord) (fun R hR=>?_) (fun v H1 z=>?_)
  · refine⟨_,rfl,d,_,_,_,rfl,rfl,SqT.of hD,g6,_,rfl,_,_,rfl,rfl,⟨by decide,by decide⟩,_,rfl,d,_,_,_,rfl,rfl,SqT.of hD,g5,rfl,_,rfl,?_⟩
    refine⟨lo,_,_,V.ref lord,rfl,rfl,SqL.of hO,?_,hR _ _ ⟨rfl,rfl⟩⟩
    show atI [V.ref lpl,V.ref lhi] (if decide (V.int (((one:Nat):Int) / 8)=V.int (trI t))=true then 1 else 0)=_
    rw[tr_dec t o32]
    exact hlo.1
  obtain⟨rfl,rfl⟩:=z
  have hlo2:=hlo.2
  have hloI:=hlo2
  rw[vN_ints] at hloI
  have eo8:((one:Nat):Int) % 8=((one % 8:Nat):Int):=by omega
  have eu8:((oth:Nat):Int) % 8=((oth % 8:Nat):Int):=by omega
  refine set_nm (fun v H1=>Same H H1∧∃ lq,v = .ref lq∧H1 lq=some (.lst (vN [min (pos (one % 8) ord) (pos (oth % 8) ord),max (pos (one % 8) ord) (pos (oth % 8) ord)]))) (fun R hR=>?_) (fun v H1 z=>?_)
  · obtain⟨i1,i2⟩:=ix_vN (omem oh)
    obtain⟨j1,j2⟩:=ix_vN (omem uh)
    refine⟨_,rfl,.inl ⟨rfl,_,SqL.of hloI⟩,_,rfl,_,_,rfl,rfl,(show(0:Int) < 8 by decide),lord,((one % 8:Nat):Int),_,pos (one % 8) ord,rfl,(by show [V.int (((one:Nat):Int) % 8)]=_;rw[eo8]),SqL.of hloI,by rw[List.length_map];omega,i1,i2,?_⟩
    refine⟨_,rfl,.inl ⟨rfl,_,SqL.of hloI⟩,_,rfl,_,_,rfl,rfl,(show(0:Int) < 8 by decide),lord,((oth % 8:Nat):Int),_,pos (oth % 8) ord,rfl,(by show [V.int (((oth:Nat):Int) % 8)]=_;rw[eu8]),SqL.of hloI,by rw[List.length_map];omega,j1,j2,fits3 2 (by decide),fun l2 hl2=>?_⟩
    have s2:=same_upd hl2 (.lst [V.int ((pos (one % 8) ord:Nat):Int),V.int ((pos (oth % 8) ord:Nat):Int)])
    refine⟨l2,[((pos (one % 8) ord:Nat):Int),((pos (oth % 8) ord:Nat):Int)],rfl,SqL.of upd_same,(show 2 < 64 by decide),fun lq ms hlq pm le=>hR _ _ ⟨s2.trans (same_upd hlq _),lq,rfl,?_⟩⟩
    obtain⟨ds,e3,e4,e5⟩:=ints_nat (cs:=[pos (one % 8) ord,pos (oth % 8) ord]) pm
    rw[upd_same,e3,two_sorted e4 (e5 le)]
  obtain⟨s1,lq,rfl,hlq⟩:=z
  obtain⟨lc',lt',as',k1,k2,k3,k4⟩:=hSt.same s1
  have a0:atI [V.ref lc',V.int (lead:Nat),V.ref lt'] 0=some (V.ref lc'):=rfl
  have a2:atI [V.ref lc',V.int (lead:Nat),V.ref lt'] 2=some (V.ref lt'):=rfl
  refine set_nm (fun v H3=>H1=H3∧v = .int (((lead+ys.length) % fx.n:Nat):Int)) (fun R hR=>⟨_,rfl,st,css,lead,ys,rfl,hSt.same s1,by rw[S.len];exact n0,hR _ _ ⟨rfl,by rw[S.len]⟩⟩) (fun v H3 z=>?_)
  obtain⟨rfl,rfl⟩:=z
  refine set_nm (fun v H2=>Same H1 H2∧∃ lg,v = .ref lg∧H2 lg=some (.lst (vN ys))) (fun R hR=>⟨_,rfl,st,_,_,_,rfl,rfl,SqT.of k1,a2,lt',_,rfl,.inl (SqL.of k4),fun lg hlg=>hR _ _ ⟨same_upd hlg _,lg,rfl,upd_same⟩⟩) (fun v H2 z=>?_)
  obtain⟨s2,lg,rfl,hlg⟩:=z
  have lenE:(as'.map V.ref).length=css.length:=by rw[List.length_map];exact k3.1
  refine⟨_,rfl,st,_,_,_,rfl,rfl,SqT.of (s2 _ _ k1),a0,lc',_,rfl,.inl (SqL.of (s2 _ _ k2)),(((as'.map V.ref).length:Nat):Int),rfl,by omega,by rw[lenE,S.len];omega,?_⟩
  rw[lenE]
  refine for_range (n:=css.length) (lo:=0) (fun i σ H4=>Same H1 H4∧∃(lg:Addr) (x8 x9:Option V),σ=[some (.ref d),some (.ref st),some (.int (one:Nat)),some (.int (oth:Nat)),some (.ref lord),some (.ref lq),some (.int (((lead+ys.length) % fx.n:Nat):Int)),some (.ref lg),x8,x9]∧H4 lg=some (.lst (vN (gonL fx.n css ((lead+ys.length) % fx.n) ys i)))∧(gonL fx.n css ((lead+ys.length) % fx.n) ys i).length≤4+32 * i)
    ⟨s2,lg,none,none,rfl,by rw[hlg];unfold gonL;simp,by unfold gonL;simp;omega⟩ (fun i σ H4 hi z=>?_) (fun σ H4 z=>?_)
  · obtain⟨s4,lg,x8,x9,rfl,hg,gl⟩:=z
    have ial:i < as'.length:=by rw[k3.1];exact hi
    obtain⟨cs',e1,e2⟩:=k3.2 i as'[i] (List.getElem?_eq_getElem ial)
    have eg:css.getD i []=cs':=by rw[List.getD_eq_getElem?_getD,e1];rfl
    have cl':=(S.cl ok (List.mem_of_getElem? e1)).1
    have ext:gonL fx.n css ((lead+ys.length) % fx.n) ys (i+1)=gonL fx.n css ((lead+ys.length) % fx.n) ys i++(if i≠(lead+ys.length) % fx.n then cs' else []):=by
      unfold gonL
      rw[List.range_succ,List.filter_append,List.flatMap_append,List.append_assoc]
      congr 2
      by_cases e:i≠(lead+ys.length) % fx.n
      · rw[if_pos e,List.filter_cons_of_pos (by exact decide_eq_true e),List.filter_nil,List.flatMap_cons,List.flatMap_nil,List.append_nil,eg]
      · rw[if_neg e,List.filter_cons_of_neg (by rw[decide_eq_false e];exact Bool.false_ne_true),List.filter_nil]
        rfl
    refine⟨_,rfl,_,rfl,rfl,_,rfl,chg (b:=decide (i≠(lead+ys.length) % fx.n)) (by
      show(!decide (V.int ((0:Int)+((i:Nat):Int))=V.int (((lead+ys.length) % fx.n:Nat):Int)))=_
      rw[Int.zero_add,nat_dec]
      by_cases e:i=(lead+ys.length) % fx.n
      · rw[decide_eq_true e,decide_eq_false (fun z=>z e)];rfl
      · rw[decide_eq_false e,decide_eq_true e];rfl) (ite2 (fun e=>?_) (fun e=>?_))⟩
    · have e':=of_decide_eq_true e
      refine⟨_,rfl,_,rfl,st,_,_,_,rfl,rfl,SqT.of (s4 _ _ k1),a0,_,rfl,lc',_,_,V.ref as'[i],rfl,rfl,SqL.of (s4 _ _ k2),(by rw[Int.zero_add];exact atI_nat (by rw[List.getElem?_map,List.getElem?_eq_getElem ial];rfl)),lg,as'[i],_,_,rfl,rfl,hg,s4 _ _ e2,?_,fun l9 hl9=>?_⟩
      · rw[vN_len,vN_len]
        exact Nat.le_trans (by rw[S.len] at hi;omega) z1000
      · refine⟨s4.trans (same_upd hl9 _),l9,_,_,rfl,?_,?_⟩
        · rw[upd_same,ext,if_pos e']
          unfold vN
          rw[List.map_append]
        · rw[ext,if_pos e',List.length_append]
          omega
    · have e':¬ i≠(lead+ys.length) % fx.n:=fun z=>by rw[decide_eq_true z] at e;exact e rfl
      exact⟨s4,lg,_,_,rfl,by rw[hg,ext,if_neg e',List.append_nil],by rw[ext,if_neg e',List.append_nil];omega⟩
  obtain⟨s4,lg,x8,x9,rfl,hg,gl⟩:=z
  generalize hgon:gonL fx.n css ((lead+ys.length) % fx.n) ys css.length=gon at hg gl
  rw[S.len] at gl
  have gm:∀ c,c∈gon↔c∈othL fx.n (css.map hN) lead ys:=fun c=>by rw[← hgon];exact gon_oth ok S
  have s04:=s1.trans s4
  have hlq4:=s4 _ _ hlq
  have hlo4:=s04 _ _ hloI
  have gin:∀ c∈gon,c < 32∧c % 8 < fx.h:=fun c hc=>by
    rcases(mem_oth fun h hh=>S.plc.h32 ok hh).mp ((gm c).mp hc) with z | ⟨i,h,e,_,hb⟩
    · exact⟨S.plc.y32 ok z,(S.plc.pk c (cnt_card z)).2⟩
    · have:=cnt_hand (ys:=ys) (List.mem_of_getElem? e) hb
      exact⟨S.plc.b32 ok this,(S.plc.pk c this).2⟩
  have nd:=suit_nd ok t (one / 8)
  have le:=lab_eq nd ((mem_suit ok).mpr ⟨rfl,oh⟩) ((mem_suit ok).mpr ⟨es.symm,uh⟩) ono uno
  have pO:pos one (suitL fx t (one / 8))=pos (one % 8) ord:=by rw[suit_pos ok rfl oh,hord]
  have pU:pos oth (suitL fx t (one / 8))=pos (oth % 8) ord:=by rw[suit_pos ok es.symm uh,hord]
  have lbl:(one / 8=oth / 8∧labC fx t (othL fx.n (css.map hN) lead ys) one=labC fx t (othL fx.n (css.map hN) lead ys) oth)↔∀ x∈gon,x / 8=one / 8→¬ (min (pos (one % 8) ord) (pos (oth % 8) ord) < pos (x % 8) ord∧pos (x % 8) ord < max (pos (one % 8) ord) (pos (oth % 8) ord)):=by
    unfold labC
    rw[← es,le,pO,pU]
    constructor
    · rintro⟨_,h⟩ x hx xs ⟨z1,z2⟩
      have xh:=(gin x hx).2
      have px:pos x (suitL fx t (one / 8))=pos (x % 8) ord:=by rw[suit_pos ok xs xh,hord]
      have:=h x ((gm x).mp hx) ((mem_suit ok).mpr ⟨xs,xh⟩)
      rw[px] at this
      omega
    · intro h
      refine⟨rfl,fun x hx xs=>?_⟩
      obtain⟨x1,x2⟩:=(mem_suit ok).mp xs
      have px:pos x (suitL fx t (one / 8))=pos (x % 8) ord:=by rw[suit_pos ok x1 x2,hord]
      rw[px]
      have:=h x ((gm x).mpr hx) x1
      omega
  have at0:atI (vN [min (pos (one % 8) ord) (pos (oth % 8) ord),max (pos (one % 8) ord) (pos (oth % 8) ord)]) 0=some (V.int ((min (pos (one % 8) ord) (pos (oth % 8) ord):Nat):Int)):=rfl
  have at1:atI (vN [min (pos (one % 8) ord) (pos (oth % 8) ord),max (pos (one % 8) ord) (pos (oth % 8) ord)]) 1=some (V.int ((max (pos (one % 8) ord) (pos (oth % 8) ord):Nat):Int)):=rfl
  refine⟨_,rfl,lg,rfl,⟨_,SqL.of hg⟩,for_list (K:=K) (xs:=vN gon) (fun i σ H5=>H5=H4∧(∀ x∈gon.take i,x / 8=one / 8→¬ (min (pos (one % 8) ord) (pos (oth % 8) ord) < pos (x % 8) ord∧pos (x % 8) ord < max (pos (one % 8) ord) (pos (oth % 8) ord)))∧∃(x8 x9:Option V),σ=[some (.ref d),some (.ref st),some (.int (one:Nat)),some (.int (oth:Nat)),some (.ref lord),some (.ref lq),some (.int (((lead+ys.length) % fx.n:Nat):Int)),some (.ref lg),x8,x9])
    ⟨rfl,(fun x hx=>by rw[List.take_zero] at hx;cases hx),_,_,rfl⟩ (fun i σ H5 _ z=>z.1 ▸ SqL.of hg) (fun i v σ H5 hv z=>?_) (fun σ H5 z=>?_)⟩
  · obtain⟨rfl,hall,x8,x9,rfl⟩:=z
    obtain⟨c,hc,rfl⟩:=vN_get hv
    have cm:=List.mem_of_getElem? hc
    obtain⟨c32,ch⟩:=gin c cm
    have ec1:((c:Nat):Int) / 8=((c / 8:Nat):Int):=by omega
    have ec8:((c:Nat):Int) % 8=((c % 8:Nat):Int):=by omega
    have tk:gon.take (i+1)=gon.take i++[c]:=by rw[List.take_add_one,hc];rfl
    have next:(¬ (c / 8=one / 8∧min (pos (one % 8) ord) (pos (oth % 8) ord) < pos (c % 8) ord∧pos (c % 8) ord < max (pos (one % 8) ord) (pos (oth % 8) ord)))→∀ x∈gon.take (i+1),x / 8=one / 8→¬ (min (pos (one % 8) ord) (pos (oth % 8) ord) < pos (x % 8) ord∧pos (x % 8) ord < max (pos (one % 8) ord) (pos (oth % 8) ord)):=fun h x hx xs z=>by
      rw[tk] at hx
      rcases List.mem_append.mp hx with w | w
      · exact hall x w xs z
      · rw[List.mem_singleton.mp w] at xs z
        exact h ⟨xs,z⟩
    refine⟨_,rfl,_,_,rfl,rfl,⟨by decide,by decide⟩,_,rfl,_,_,rfl,rfl,⟨by decide,by decide⟩,rfl,_,rfl,?_⟩
    show if decide (V.int (((c:Nat):Int) / 8)=V.int (((one:Nat):Int) / 8))=true then _ else _
    rw[ec1,eo1,nat_dec]
    refine ite2 (fun e=>?_) (fun e=>iteF ⟨rfl,next (fun z=>by rw[decide_eq_true z.1] at e;exact e rfl),_,_,rfl⟩)
    have sc:=of_decide_eq_true e
    obtain⟨i1,i2⟩:=ix_vN (omem ch)
    refine⟨_,rfl,lq,_,_,_,rfl,rfl,SqL.of hlq4,at0,_,rfl,.inl ⟨rfl,_,SqL.of hlo4⟩,_,rfl,_,_,rfl,rfl,(show(0:Int) < 8 by decide),lord,((c % 8:Nat):Int),_,pos (c % 8) ord,rfl,(by show [V.int (((c:Nat):Int) % 8)]=_;rw[ec8]),SqL.of hlo4,by rw[List.length_map];omega,i1,i2,_,_,rfl,rfl,_,rfl,ite2 (fun e1=>?_) (fun e1=>⟨_,rfl,iteF ⟨rfl,next (fun z=>?_),_,_,rfl⟩⟩)⟩
    · have l1:=of_decide_eq_true e1
      refine⟨_,rfl,lq,_,_,_,rfl,rfl,SqL.of hlq4,at1,_,_,rfl,rfl,_,rfl,ite2 (fun e2=>?_) (fun e2=>⟨rfl,next (fun z=>?_),_,_,rfl⟩)⟩
      · have l2:=of_decide_eq_true e2
        have z:=q H5 s04
        rw[decide_eq_false (fun w=>lbl.mp w c cm sc ⟨by omega,by omega⟩)] at z
        exact z
      · have:decide (((pos (c % 8) ord:Nat):Int) < ((max (pos (one % 8) ord) (pos (oth % 8) ord):Nat):Int))=true:=decide_eq_true (by omega)
        exact e2 this
    · have:decide (((min (pos (one % 8) ord) (pos (oth % 8) ord):Nat):Int) < ((pos (c % 8) ord:Nat):Int))=true:=decide_eq_true (by omega)
      exact e1 this
  · obtain⟨rfl,hall,x8,x9,rfl⟩:=z
    rw[vN_len,List.take_length] at hall
    have z:=q H5 s04
    rw[decide_eq_true (lbl.mpr hall)] at z
    exact z
theorem cards_ndN(h:Nat):(cardsN h).Nodup:=by unfold cardsN;exact List.nodup_range.filter _
theorem keys_uniq{g:Addr→Int}:∀{l m:List Addr},l.Perm m→l.Pairwise (fun a b=>g a < g b)→m.Pairwise (fun a b=>g a < g b)→l=m
 | [],[],_,_,_=>rfl
 | [],y :: m,p,_,_=>by have:=p.length_eq;simp at this
 | x :: l,[],p,_,_=>by have:=p.length_eq;simp at this
 | x :: l,y :: m,p,pl,pm=>by
  obtain⟨a1,a2⟩:=List.pairwise_cons.mp pl
  obtain⟨b1,b2⟩:=List.pairwise_cons.mp pm
  have e:x=y:=by
   rcases List.mem_cons.mp (p.mem_iff.mp List.mem_cons_self) with z | z
   ·exact z
   ·rcases List.mem_cons.mp (p.mem_iff.mpr List.mem_cons_self) with w | w
    ·exact w.symm
    ·have:=b1 x z
     have:=a1 y w
     omega
  subst e
  rw[keys_uniq (p.cons_inv) a2 b2]
theorem flat_nd:∀{gss:List (List Nat)},(∀ g∈gss,g.Nodup)→(gss.Pairwise fun a b=>∀ c,c∈a→c∉b)→gss.flatten.Nodup:=fun h1 h2=>List.pairwise_flatten.mpr ⟨h1,h2.imp fun {a b} h x hx y hy e=>by subst e;exact h x hx hy⟩
theorem perm_of_mem{a b:List Nat}(na:a.Nodup)(nb:b.Nodup)(h:∀ x,x∈a↔x∈b):a.Perm b:=by
 refine List.perm_iff_count.mpr fun x=>?_
 have ca:=List.nodup_iff_count.mp na x
 have cb:=List.nodup_iff_count.mp nb x
 have e:0 < a.count x↔0 < b.count x:=by rw[List.count_pos_iff,List.count_pos_iff];exact h x
 omega
def spRight:Sp:=fun vs H Q _=>∃(d st l:Addr) (f:Fx) (t:Option Nat) (sz:Nat) (css:List (List Nat)) (lead m:Nat) (ys:List Nat) (as:List Addr) (gss:List (List Nat)),vs=[.ref d,.ref st,.ref l]∧f.Ok∧IsRt H d f t sz∧IsSt H st css lead ys∧StOk f css lead ys m∧H l=some (.lst (as.map V.ref))∧IsDl H as gss ∧
 GsOk f t (othL f.n (css.map hN) lead ys) (moveL f t (css.map hN) lead ys m) f.s gss∧(gss.Pairwise fun a b=>a.headD 0 < b.headD 0)∧gss.length≤40∧∀ H',Same H H'→Q (.bl true) H'
abbrev pRight:List Str:=["_law_rules_here","_law_state_here","_law_groups"]
abbrev nRight:List Str:=["_law_rules_here","_law_state_here","_law_groups","_law_cards","_law_group","_law_k","_law_j","_law_card"]
theorem scRight:FnScope nRight pRight (defScope sRight):=⟨rfl,rfl,rfl,by decide +kernel,rfl,by decide +kernel,by decide +kernel⟩
theorem ok_right{k:Nat}{f1 f2 f3 f4:Addr}{d1 d2 d3 d4:FuncData}(F:Fun K "_law_right" "_law_right" sRight f fd)(LT:Lib P w K mg base k "_law_turn" pLTurn spLTurn f1 d1)(LM:Lib P w K mg base k "_law_may" pLMay spLMay f2 d2)(LW:Lib P w K mg base k "_law_whole" ["_law_found"] (spWhole K) f3 d3)(LB:Lib P w K mg base k "_law_between" pBtw spBtw f4 d4)
  (mi:mg "isinstance" = none) (mLi:mg "list" = none) (mr:mg "range" = none) (ml:mg "len" = none) (mS:mg "sorted" = none) (mA:mg "all" = none):FnOk P w K mg base CX0 (k+1) f fd pRight spRight:=by
 refine F.ok scRight (fun vs H Q E h=>?_) (fun cdv A outer s H vs Q E hr h=>?_)
 ·obtain⟨d,st,l,fx,t,sz,css,lead,m,ys,as,gss,rfl,_⟩:=h
  rfl
 obtain⟨d,st,l,fx,t,sz,css,lead,m,ys,as,gss,rfl,ok,hRt,hSt,S,hL,D,gk,hds,gl,q⟩:=h
 refine⟨_,pss_cons (ps_if (pt_not (pt_truth (pe_callB call_isT rfl mi PyProof.Rows.boot_isinstance (pa_cons (pv 2) (pa_cons (pe_bltn (v:=.ty "list") rfl mLi PyProof.Rows.boot_list rfl) pa_nil))) (fun _=>rfl))) (pss_one (ps_ret pe_bl)) pss_nil)
  (pss_cons (ps_set (i:=3) scRight.nd rfl (Or.inl rfl) (pe_lst pa_nil))
  (pss_cons (ps_for PassesOwn.never rfl (pi_list (pv 2)) (pg_name (i:=4) scRight.nd rfl (Or.inl rfl))
   (pss_cons (ps_if (PW.pt (pw_or (pt_not (pt_truth (pe_callB call_isT rfl mi PyProof.Rows.boot_isinstance (pa_cons (pv 4) (pa_cons (pe_bltn (v:=.ty "list") rfl mLi PyProof.Rows.boot_list rfl) pa_nil))) (fun _=>rfl))) (pw_or (pt_cmpR (op_eqNil hr.units) (pv 4) (pe_lst pa_nil) (nomark _)) (pw_or1 (pt_cmpR (op_neD (d:=1) (by decide) hr.units) (pv 4) (pe_callB call_sortedI rfl mS PyProof.Rows.boot_sorted (pa_cons (pv 4) pa_nil)) (nomark _)))))) (pss_one (ps_ret pe_bl)) pss_nil)
   (pss_cons (ps_if (pt_not (pt_truth (pe_callB (call_allL rfl) rfl mA PyProof.Rows.boot_all (pa_cons (pe_comp ["_law_card"] [none] rfl (Blk.by (sc:=defScope sRight) (N0:=nRight) rfl rfl (by decide +kernel)) (pi_list (pv 4)) (fun C s₀ H₀ ex=>pg_name (i:=0) (show(["_law_card"]:List Str).Nodup by decide +kernel) rfl (Or.inl rfl)) (fun C s₀ H₀ ex=>pf_nil) (fun C s₀ H₀ ex=>pe_call LW.ok hr rfl LW.mg LW.kp LW.bd .nil pass0 (pa_cons (pv 0) pa_nil))) pa_nil)) (fun _=>rfl))) (pss_one (ps_ret pe_bl)) pss_nil)
   (pss_one (ps_set (i:=3) scRight.nd rfl (Or.inl rfl) (pe_op op_cat (pv 3) (pv 4)))))))
  (pss_cons (ps_if (pt_cmpR (op_neD (d:=2) (by decide) hr.units) (pv 2) (pe_callB (call_sortedLB hr.units) rfl mS PyProof.Rows.boot_sorted (pa_cons (pv 2) pa_nil)) (nomark _)) (pss_one (ps_ret pe_bl)) pss_nil)
  (pss_cons (ps_if (pt_cmpR (op_neD (d:=1) (by decide) hr.units) (pe_callB call_sortedI rfl mS PyProof.Rows.boot_sorted (pa_cons (pv 3) pa_nil)) (pe_callB call_sortedI rfl mS PyProof.Rows.boot_sorted (pa_cons (pe_call LM.ok hr rfl LM.mg LM.kp LM.bd .nil pass0 (pa_cons (pv 0) (pa_cons (pe_ix ix_list (pe_ix ix_tup (pv 1) pe_int (fun _ _=>rfl)) (pe_call LT.ok hr rfl LT.mg LT.kp LT.bd .nil pass0 (pa_cons (pv 1) pa_nil)) (fun _ _=>rfl)) (pa_cons (pe_ix ix_tup (pv 1) pe_int (fun _ _=>rfl)) pa_nil)))) pa_nil)) (nomark _)) (pss_one (ps_ret pe_bl)) pss_nil)
  (pss_cons (ps_for PassesOwn.never rfl (pi_range1 rfl mr (pa_cons (pe_callB call_len_seq rfl ml PySem.boot_len (pa_cons (pv 2) pa_nil)) pa_nil)) (pg_name (i:=5) scRight.nd rfl (Or.inl rfl))
   (pss_one (ps_for PassesOwn.never rfl (pi_range1 rfl mr (pa_cons (pe_op op_add (pv 5) pe_int) pa_nil)) (pg_name (i:=6) scRight.nd rfl (Or.inl rfl))
    (pss_one (ps_for PassesOwn.never rfl (pi_list (pe_ix ix_list (pv 2) (pv 6) (fun _ _=>rfl))) (pg_name (i:=7) scRight.nd rfl (Or.inl rfl))
     (pss_one (ps_if (pt_cmpR op_ne (pe_call LB.ok hr rfl LB.mg LB.kp LB.bd .nil pass0 (pa_cons (pv 0) (pa_cons (pv 1) (pa_cons (pe_ix ix_list (pe_ix ix_list (pv 2) (pv 5) (fun _ _=>rfl)) pe_int (fun _ _=>rfl)) (pa_cons (pv 7) pa_nil))))) (pe_cmpR op_lt (pv 6) (pv 5) (nomark _)) (nomark _)) (pss_one (ps_ret pe_bl)) pss_nil)))))))
  (pss_one (ps_ret pe_bl))))))),?_⟩
 have z1000:=fits3 1000 (by decide)
 have n0:0 < fx.n:=by rcases ok.n34 with e | e<;>omega
 have al:as.length=gss.length:=D.1
 have at_:∀{j:Nat} {a:Addr},as[j]? = some a→gss[j]? = some (decA H a)∧H a=some (.lst (vN (decA H a))):=fun {j a} e=>by
  obtain⟨cs,e1,e2⟩:=D.2 j a e
  rw[decA_of e2]
  exact⟨e1,e2⟩
 have mv:∀ g∈gss,∀ c∈g,c∈moveL fx t (css.map hN) lead ys m:=fun g hg c hc=>by
  obtain⟨u,kk,_,h⟩:=gk.cl g hg
  exact((h c).mp hc).1
 have gl32:∀ g∈gss,g.length≤32:=fun g hg=>len32 ((gk.up g hg).2.imp fun h=>Nat.ne_of_lt h) fun c hc=>(move_in ok S.plc (mv g hg c hc)).choose_spec.2.2.1
 have mvn:(moveL fx t (css.map hN) lead ys m).Nodup:=by
  unfold moveL
  split
  ·exact List.nodup_nil
  ·unfold mayL
   exact cards_ndN _
 have fperm:gss.flatten.Perm (moveL fx t (css.map hN) lead ys m):=by
  refine perm_of_mem (flat_nd (fun g hg=>(gk.up g hg).2.imp fun h=>Nat.ne_of_lt h) gk.ap) mvn fun c=>?_
  rw[List.mem_flatten]
  constructor
  ·rintro⟨g,hg,hc⟩
   exact mv g hg c hc
  ·intro hc
   obtain⟨g,hg,hcg⟩:=gk.all c hc (move_in ok S.plc hc).choose_spec.2.2.2.1
   exact⟨g,hg,hcg⟩
 have mup:(moveL fx t (css.map hN) lead ys m).Pairwise (· < ·):=by
  unfold moveL
  split
  ·exact List.Pairwise.nil
  ·unfold mayL cardsN
   exact List.Pairwise.filter _ List.pairwise_lt_range
 have m32:(moveL fx t (css.map hN) lead ys m).length≤32:=len32 mvn fun c hc=>(move_in ok S.plc hc).choose_spec.2.2.1
 have fl32:∀ i,(gss.take i).flatten.length≤32:=fun i=>by
  have e:gss.flatten.length=(gss.take i).flatten.length+(gss.drop i).flatten.length:=by rw[← List.length_append,← List.flatten_append,List.take_append_drop]
  rw[fperm.length_eq] at e
  omega
 refine⟨_,rfl,_,_,_,true,rfl,.lst hL,by with_unfolding_all rfl,true,rfl,iteF (nx_of ?_)⟩
 refine set_nm (fun v H1=>∃ lc,v = .ref lc∧H lc=none∧H1=upd H lc (.lst [])) (fun R hR=>⟨fits3 0 (by decide),fun lc hlc=>hR _ _ ⟨lc,rfl,hlc,rfl⟩⟩) (fun v H1 z=>?_)
 obtain⟨lc,rfl,hlc,rfl⟩:=z
 have s1:=same_upd hlc (.lst [])
 refine seq_cut (fun σ H2=>Same H H2∧∃(lc:Addr) (x4:Option V),σ=[some (.ref d),some (.ref st),some (.ref l),some (.ref lc),x4,none,none,none]∧H2 lc=some (.lst (vN gss.flatten))) (fun D' er nx=>?_) (fun σ H2 z=>?_)
 ·refine⟨_,rfl,l,rfl,⟨_,SqL.of (s1 _ _ hL)⟩,for_list (K:=K) (xs:=as.map V.ref) (fun i σ H2=>Same H H2∧∃(lc:Addr) (x4:Option V),σ=[some (.ref d),some (.ref st),some (.ref l),some (.ref lc),x4,none,none,none]∧H2 lc=some (.lst (vN (gss.take i).flatten)))
   ⟨s1,lc,none,rfl,upd_same⟩ (fun i σ H2 _ z=>SqL.of (z.1 _ _ hL)) (fun i v σ H2 hv z=>?_) (fun σ H2 z=>?_)⟩
  ·obtain⟨s2,lc,x4,rfl,hlc2⟩:=z
   have fl:=fl32 i
   rw[List.getElem?_map] at hv
   obtain⟨u,hu',rfl⟩:=Option.map_eq_some_iff.mp hv
   obtain⟨eg,hg⟩:=at_ hu'
   have il:=(List.getElem?_eq_some_iff.mp hu').1
   have gm':=List.mem_of_getElem? eg
   obtain⟨gne,gup⟩:=gk.up _ gm'
   have g32:=gl32 _ gm'
   have hg2:=s2 _ _ hg
   have hgI:=hg2
   rw[vN_ints] at hgI
   have en:(vN (decA H u)).isEmpty=false:=by
    cases e:decA H u with
    | nil=>exact absurd e gne
    | cons _ _=>rfl
   refine⟨_,rfl,_,_,_,true,rfl,.lst hg2,by with_unfolding_all rfl,true,rfl,iteF ?_⟩
   refine⟨_,rfl,fits3 0 (by decide),fun l0 hl0=>?_⟩
   have s0:=same_upd hl0 (.lst [])
   refine⟨u,l0,_,rfl,rfl,SqL.of (s0 _ _ hg2),SqL.of upd_same,_,rfl,chg en (iteF ?_)⟩
   refine⟨_,rfl,_,rfl,u,_,rfl,SqL.of (s0 _ _ hgI),by rw[List.length_map];omega,fun l3 ms hl3 pm le=>?_⟩
   have s3:=s0.trans (same_upd hl3 (.lst (ms.map V.int)))
   obtain⟨ds,e3,e4,e5⟩:=ints_nat pm
   have ed:ds=decA H u:=perm_sorted e4 (e5 le) (gup.imp fun h=>Nat.le_of_lt h)
   have h3:upd (upd H2 l0 (.lst [])) l3 (.lst (ms.map V.int)) l3=some (.lst (vN (decA H u))):=by rw[upd_same,e3,ed]
   refine⟨u,l3,rfl,rfl,deep_lst (s3 _ _ hg2) h3,_,rfl,iteF (nx_of ?_)⟩
   have s23:=s2.trans s3
   refine⟨_,rfl,u,rfl,⟨_,SqL.of (s3 _ _ hg2)⟩,comp_list (K:=K) (xs:=vN (decA H u)) (fun _=>true) (fun _=>.bl true) (SqL.of (s3 _ _ hg2)) (by rw[vN_len];exact Nat.le_trans g32 (fits3 32 (by decide))) (fun x H4 hx sm R hR=>hR H4 (Same.refl H4)) (fun x H4 hx hp sm R hR=>?_) (fun lb H4 s4 hlb hLb=>?_)⟩
   ·obtain⟨c,_,rfl⟩:=List.mem_map.mp hx
    exact⟨_,rfl,_,rfl,hR H4 (Same.refl H4)⟩
   have eb:((vN (decA H u)).filter fun _=>true).map (fun _=>V.bl true)=((vN (decA H u)).map fun _=>true).map V.bl:=by
    rw[List.filter_eq_self.mpr fun _ _=>rfl,List.map_map]
    rfl
   rw[eb] at hLb
   have eall:((vN (decA H u)).map fun _=>true).all id=true:=by
    rw[List.all_map]
    exact List.all_eq_true.mpr fun _ _=>rfl
   refine⟨lb,_,rfl,SqL.of hLb,_,rfl,chg (b:=false) (by show(!(((vN (decA H u)).map fun _=>true).all id))=false;rw[eall];rfl) (iteF (nx_of ?_))⟩
   have s24:=s3.trans s4
   refine⟨_,rfl,_,rfl,lc,u,_,_,rfl,rfl,s24 _ _ hlc2,s24 _ _ hg2,?_,fun l5 hl5=>?_⟩
   ·rw[vN_len,vN_len]
    exact Nat.le_trans (by omega) z1000
   ·have tk:gss.take (i+1)=gss.take i++[decA H u]:=by rw[List.take_add_one,eg];rfl
    refine⟨(s2.trans s24).trans (same_upd hl5 _),l5,_,rfl,?_⟩
    rw[upd_same,tk,List.flatten_append]
    unfold vN
    rw[List.map_append]
    simp
  ·obtain⟨s2,lc,x4,rfl,hlc2⟩:=z
   rw[List.length_map,al,List.take_length] at hlc2
   exact nx _ _ ⟨s2,lc,x4,rfl,hlc2⟩
 obtain⟨s2,lc2,x4,rfl,hlc2⟩:=z
 have hL2:=s2 _ _ hL
 have heads:∀ a∈as,∃ ns:List Int,SqL K H2 a (((((decA H a).headD 0:Nat):Int) :: ns).map V.int):=fun a ha=>by
  obtain⟨j,hj,ej⟩:=List.mem_iff_getElem.mp ha
  obtain⟨eg,hg⟩:=at_ (j:=j) (a:=a) (by rw[List.getElem?_eq_getElem hj,ej])
  have ne:=(gk.up _ (List.mem_of_getElem? eg)).1
  have e1:=s2 _ _ hg
  match hd:decA H a,ne with
  | y :: r,_=>
   rw[hd,vN_ints] at e1
   exact⟨r.map fun c=>((c:Nat):Int),SqL.of e1⟩
 have eg:gss=as.map (decA H):=by
  apply List.ext_getElem?
  intro j
  rw[List.getElem?_map]
  cases ej:as[j]? with
  | none=>
   rw[List.getElem?_eq_none_iff] at ej
   rw[List.getElem?_eq_none (by omega)]
   rfl
  | some a=>
   rw[(at_ ej).1]
   rfl
 have rise:as.Pairwise fun a b=>(((decA H a).headD 0:Nat):Int) < (((decA H b).headD 0:Nat):Int):=by
  rw[eg,List.pairwise_map] at hds
  exact hds.imp fun h=>by omega
 refine⟨_,rfl,_,rfl,l,as,fun a=>(((decA H a).headD 0:Nat):Int),rfl,SqL.of hL2,by omega,heads,?_,fun l3 qs hl3 pq rq=>?_⟩
 ·exact(List.pairwise_map.mpr (rise.imp fun h=>Int.ne_of_lt h))
 have eq:qs=as:=keys_uniq pq rq rise
 subst eq
 have s3:=same_upd hl3 (.lst (qs.map V.ref))
 have s23:=s2.trans s3
 refine⟨l,l3,rfl,rfl,?_,_,rfl,iteF (nx_of ?_)⟩
 ·refine .lst (SqL.of (s3 _ _ hL2)) (SqL.of upd_same) rfl fun j hj=>?_
  rw[List.length_map] at hj
  have e1:(qs.map V.ref).getD j .non=V.ref qs[j]:=by rw[List.getD_eq_getElem?_getD,List.getElem?_map,List.getElem?_eq_getElem hj];rfl
  rw[e1]
  have hg:=s23 _ _ (at_ (List.getElem?_eq_getElem hj)).2
  exact deep_lst hg hg
 have hlc3:=s3 _ _ hlc2
 rw[vN_ints] at hlc3
 refine⟨_,rfl,lc2,_,rfl,SqL.of hlc3,by rw[List.length_map,fperm.length_eq];omega,fun l4 ms hl4 pm le=>?_⟩
 have s4:=same_upd hl4 (.lst (ms.map V.int))
 obtain⟨ds,e3,e4,e5⟩:=ints_nat pm
 have ed:ds=moveL fx t (css.map hN) lead ys m:=perm_sorted (e4.trans fperm) (e5 le) (mup.imp fun h=>Nat.le_of_lt h)
 have s24:=s23.trans s4
 obtain⟨cs,ec,ecl⟩:=S.turn ok
 have cm:=List.mem_of_getElem? ec
 obtain⟨lc',lt',as',k1,k2,k3,k4⟩:=hSt.same s24
 have sl:(lead+ys.length) % fx.n < as'.length:=by rw[k3.1,S.len];exact seat_lt ok _ _
 obtain⟨cs',e1,e2⟩:=k3.2 _ _ (List.getElem?_eq_getElem sl)
 rw[ec] at e1
 cases e1
 have emv:moveL fx t (css.map hN) lead ys m=mayL fx t ys (hN cs):=S.moveL ok ec ecl
 have cl:=(S.cl ok cm).1
 have xl:(if ys=[] then cs else alw fx.d fx t ys cs).length≤32:=by
  split
  ·exact cl
  ·exact len32 (alw_nd (S.nd cs cm)) fun c hc=>S.c32 ok cm c (alw_sub _ _ _ _ _ c hc)
 refine⟨_,rfl,_,rfl,st,_,_,_,rfl,rfl,SqT.of k1,(rfl:atI [V.ref lc',V.int (lead:Nat),V.ref lt'] 0=some (V.ref lc')),_,rfl,st,css,lead,ys,rfl,hSt.same s24,by rw[S.len];exact n0,lc',_,_,V.ref as'[(lead+ys.length) % fx.n],rfl,rfl,SqL.of k2,(by rw[S.len];exact atI_nat (by rw[List.getElem?_map,List.getElem?_eq_getElem sl];rfl)),_,rfl,st,_,_,_,rfl,rfl,SqT.of k1,(rfl:atI [V.ref lc',V.int (lead:Nat),V.ref lt'] 2=some (V.ref lt')),?_⟩
 refine⟨d,as'[(lead+ys.length) % fx.n],lt',fx,t,sz,cs,ys,rfl,ok,hRt.same s24,e2,k4,by omega,S.c32 ok cm,S.beg ok cm,fun o HC sC _ ho=>?_⟩
 rw[vN_ints] at ho
 refine⟨o,_,rfl,SqL.of ho,by rw[List.length_map];omega,fun l9 ms2 hl9 hp hs=>?_⟩
 obtain⟨ds2,f3,f4,f5⟩:=ints_nat hp
 have e6:=may_due (f:=fx) (t:=t) (ys:=ys) (S.up cs cm) (S.c32 ok cm) f4 (f5 hs)
 have a9:=same_upd hl9 (.lst (ms2.map V.int))
 have sCA:=sC.trans a9
 have h4:upd HC l9 (.lst (ms2.map V.int)) l4=some (.lst (vN (moveL fx t (css.map hN) lead ys m))):=by
  refine sCA _ _ ?_
  rw[upd_same,e3,ed]
 have h9:upd HC l9 (.lst (ms2.map V.int)) l9=some (.lst (vN (moveL fx t (css.map hN) lead ys m))):=by rw[upd_same,f3,e6,emv]
 refine⟨l4,l9,rfl,rfl,deep_lst h4 h9,_,rfl,iteF (nx_of ?_)⟩
 have s29:=s24.trans sCA
 have hL9:=s29 _ _ hL
 have lenE:(qs.map V.ref).length=qs.length:=List.length_map _
 refine⟨_,rfl,l,_,rfl,.inl (SqL.of hL9),(((qs.map V.ref).length:Nat):Int),rfl,by omega,by rw[lenE];omega,?_⟩
 rw[lenE]
 refine for_range (n:=qs.length) (lo:=0) (fun i σ H5=>Same H H5∧∃(x5 x6 x7:Option V),σ=[some (.ref d),some (.ref st),some (.ref l),some (.ref lc2),x4,x5,x6,x7]) ⟨s29,_,_,_,rfl⟩ (fun i σ H5 hi z=>?_) (fun σ H5 z=>?_)
 ·obtain⟨s5,x5,x6,x7,rfl⟩:=z
  have ei:((0:Int)+((i:Nat):Int))+1=((i+1:Nat):Int):=by omega
  refine⟨_,rfl,_,_,rfl,rfl,((i+1:Nat):Int),(by show [V.int ((0:Int)+((i:Nat):Int)+1)]=_;rw[ei]),by omega,by omega,?_⟩
  refine for_range (n:=i+1) (lo:=0) (fun j σ H6=>Same H H6∧∃(x6 x7:Option V),σ=[some (.ref d),some (.ref st),some (.ref l),some (.ref lc2),x4,some (.int ((0:Int)+((i:Nat):Int))),x6,x7]) ⟨s5,_,_,rfl⟩ (fun j σ H6 hj z=>?_) (fun σ H6 z=>?_)
  ·obtain⟨s6,x6,x7,rfl⟩:=z
   have jl:j < qs.length:=by omega
   obtain⟨ej,hgj⟩:=at_ (List.getElem?_eq_getElem jl)
   obtain⟨ek,hgk⟩:=at_ (List.getElem?_eq_getElem hi)
   have jm:=List.mem_of_getElem? ej
   have km:=List.mem_of_getElem? ek
   have kne:=(gk.up _ km).1
   have hh:=head_in kne
   have hkm:=mv _ km _ hh
   obtain⟨_,_,_,k32,_,kh,_⟩:=move_in ok S.plc hkm
   refine⟨_,rfl,_,rfl,l,_,_,V.ref qs[j],rfl,rfl,SqL.of (s6 _ _ hL),(by rw[Int.zero_add];exact atI_nat (by rw[List.getElem?_map,List.getElem?_eq_getElem jl];rfl)),qs[j],rfl,⟨_,SqL.of (s6 _ _ hgj)⟩,for_list (K:=K) (xs:=vN (decA H qs[j])) (fun r σ H7=>Same H H7∧∃(x7:Option V),σ=[some (.ref d),some (.ref st),some (.ref l),some (.ref lc2),x4,some (.int ((0:Int)+((i:Nat):Int))),some (.int ((0:Int)+((j:Nat):Int))),x7])
    ⟨s6,_,rfl⟩ (fun r σ H7 _ z=>SqL.of (z.1 _ _ hgj)) (fun r v σ H7 hv z=>?_) (fun σ H7 z=>?_)⟩
   ·obtain⟨s7,x7,rfl⟩:=z
    obtain⟨c,hc,rfl⟩:=vN_get hv
    have ccm:=List.mem_of_getElem? hc
    have hcm:=mv _ jm _ ccm
    obtain⟨_,_,_,c32,_,ch,_⟩:=move_in ok S.plc hcm
    have at0:atI (vN (decA H qs[i])) 0=some (V.int (((decA H qs[i]).headD 0:Nat):Int)):=by
     match decA H qs[i],kne with
     | y :: r,_=>exact(atI_nat (xs:=vN (y :: r)) (j:=0) rfl:atI (vN (y :: r)) ((0:Nat):Int)=_)
    refine⟨_,rfl,_,rfl,_,rfl,_,rfl,l,_,_,V.ref qs[i],rfl,rfl,SqL.of (s7 _ _ hL),(by rw[Int.zero_add];exact atI_nat (by rw[List.getElem?_map,List.getElem?_eq_getElem hi];rfl)),qs[i],_,_,_,rfl,rfl,SqL.of (s7 _ _ hgk),at0,_,rfl,?_⟩
    refine⟨d,st,fx,t,sz,css,lead,m,ys,(decA H qs[i]).headD 0,c,rfl,ok,hRt.same s7,hSt.same s7,S,k32,c32,kh,ch,(fun z=>oth_apart ok S.plc _ z hkm),(fun z=>oth_apart ok S.plc _ z hcm),fun H8 s8=>?_⟩
    refine⟨_,rfl,_,rfl,_,_,rfl,rfl,rfl,_,rfl,chg ?_ (iteF ⟨s7.trans s8,_,rfl⟩)⟩
    show(!decide (V.bl (!decide ((decA H qs[i]).headD 0 / 8=c / 8∧labC fx t (othL fx.n (css.map hN) lead ys) ((decA H qs[i]).headD 0)=labC fx t (othL fx.n (css.map hN) lead ys) c))=V.bl (decide ((0:Int)+((j:Nat):Int) < (0:Int)+((i:Nat):Int)))))=false
    have key:(!decide ((decA H qs[i]).headD 0 / 8=c / 8∧labC fx t (othL fx.n (css.map hN) lead ys) ((decA H qs[i]).headD 0)=labC fx t (othL fx.n (css.map hN) lead ys) c))=decide ((0:Int)+((j:Nat):Int) < (0:Int)+((i:Nat):Int)):=by
     obtain⟨u,kk,_,hcl⟩:=gk.cl _ km
     have h1:=(hcl _).mp hh
     have same:((decA H qs[i]).headD 0 / 8=c / 8∧labC fx t (othL fx.n (css.map hN) lead ys) ((decA H qs[i]).headD 0)=labC fx t (othL fx.n (css.map hN) lead ys) c)↔c∈decA H qs[i]:=by
      rw[hcl c]
      constructor
      ·rintro⟨w1,w2⟩
       exact⟨hcm,w1 ▸ h1.2.1,w2 ▸ h1.2.2⟩
      ·rintro⟨_,w1,w2⟩
       exact⟨h1.2.1.trans w1.symm,h1.2.2.trans w2.symm⟩
     by_cases lt:j < i
     ·have no:c∉decA H qs[i]:=by
       have w:=List.pairwise_iff_getElem.mp gk.ap j i (by omega) (by omega) lt
       have gj:gss[j]'(by omega)=decA H qs[j]:=by rw[List.getElem?_eq_getElem (by omega)] at ej;exact Option.some.inj ej
       have gi:gss[i]'(by omega)=decA H qs[i]:=by rw[List.getElem?_eq_getElem (by omega)] at ek;exact Option.some.inj ek
       rw[gj,gi] at w
       exact w c ccm
      rw[decide_eq_false (fun w=>no (same.mp w)),decide_eq_true (show(0:Int)+((j:Nat):Int) < (0:Int)+((i:Nat):Int) by omega)]
      rfl
     ·have e:j=i:=by omega
      subst e
      rw[decide_eq_true (same.mpr ccm),decide_eq_false (show ¬ (0:Int)+((j:Nat):Int) < (0:Int)+((j:Nat):Int) by omega)]
      rfl
    rw[key,decide_eq_true rfl]
    rfl
   ·obtain⟨s7,x7,rfl⟩:=z
    exact⟨s7,_,_,rfl⟩
  ·obtain⟨s6,x6,x7,rfl⟩:=z
   exact⟨s6,_,_,_,rfl⟩
 ·obtain⟨s5,x5,x6,x7,rfl⟩:=z
  exact q H5 s5
end
end My
namespace My
open PySem L2
abbrev sLaw:Stmt:=top 59
section
variable{P:Program}{w:World}{K:PySem.W.Frag}{mg:Str→Option Value}{base:Heap}{f g:Addr}{fd gd:FuncData}
theorem key_ext{α:Type}(k:α→Nat):∀{l m:List α},l.Pairwise (fun a b=>k a < k b)→m.Pairwise (fun a b=>k a < k b)→(∀ x,x∈l↔x∈m)→l=m
 | [],[],_,_,_=>rfl
 | [],y :: m,_,_,h=>nomatch (h y).mpr List.mem_cons_self
 | x :: l,[],_,_,h=>nomatch (h x).mp List.mem_cons_self
 | x :: l,y :: m,pl,pm,h=>by
  obtain⟨a1,a2⟩:=List.pairwise_cons.mp pl
  obtain⟨b1,b2⟩:=List.pairwise_cons.mp pm
  have e:x=y:=by
   rcases List.mem_cons.mp ((h x).mp List.mem_cons_self) with z | z
   ·exact z
   ·rcases List.mem_cons.mp ((h y).mpr List.mem_cons_self) with w | w
    ·exact w.symm
    ·have:=b1 x z
     have:=a1 y w
     omega
  subst e
  have t:l=m:=key_ext k a2 b2 fun z=>by
   constructor
   ·intro hz
    rcases List.mem_cons.mp ((h z).mp (List.mem_cons_of_mem _ hz)) with w | w
    ·subst w
     exact absurd (a1 z hz) (Nat.lt_irrefl _)
    ·exact w
   ·intro hz
    rcases List.mem_cons.mp ((h z).mpr (List.mem_cons_of_mem _ hz)) with w | w
    ·subst w
     exact absurd (b1 z hz) (Nat.lt_irrefl _)
    ·exact w
  rw[t]
theorem GsOk.sub{fx:Fx}{t:Option Nat}{oth cho:List Nat}{n:Nat}{gss gs:List (List Nat)}(a:GsOk fx t oth cho n gss)(b:GsOk fx t oth cho n gs):∀ g∈gss,g∈gs:=fun g hg=>by
 obtain⟨u,k,hu,h⟩:=a.cl g hg
 have hh:=(h _).mp (head_in (a.up g hg).1)
 obtain⟨g2,hg2,hc2⟩:=b.all _ hh.1 (by rw[hh.2.1];exact hu)
 obtain⟨u2,k2,_,h2⟩:=b.cl g2 hg2
 have hh2:=(h2 _).mp hc2
 have e:g=g2:=key_ext id (a.up g hg).2 (b.up g2 hg2).2 fun c=>by
  rw[h c,h2 c,← hh.2.1,← hh.2.2,← hh2.2.1,← hh2.2.2]
 rw[e]
 exact hg2
theorem GsOk.uniq{fx:Fx}{t:Option Nat}{oth cho:List Nat}{n:Nat}{gss gs:List (List Nat)}(a:GsOk fx t oth cho n gss)(b:GsOk fx t oth cho n gs)(ha:gss.Pairwise fun a b=>a.headD 0 < b.headD 0)(hb:gs.Pairwise fun a b=>a.headD 0 < b.headD 0):gss=gs:=
 key_ext (fun g=>g.headD 0) ha hb fun g=>⟨a.sub b g,b.sub a g⟩
def spLaw(K:PySem.W.Frag):Sp:=fun vs H Q _=>∃(a:Addr) (ns:List Int),vs=[.ref a]∧SqL K H a (ns.map V.int)∧ns.length≤63∧∀ H',Q (.bl true) H'
abbrev nLaw:List Str:=["_law_script","_law_rules_here","_law_state_here","_law_game_here","_law_own","_law_groups","_law_kept"]
theorem scLaw:FnScope nLaw ["_law_script"] (defScope sLaw):=⟨rfl,rfl,rfl,by decide +kernel,rfl,by decide +kernel,by decide +kernel⟩
theorem ok_law{k:Nat}{CT CG f2 f3 f4 f5 f6 f7 f8:Addr}{d2 d3 d4 d5 d6 d7 d8:FuncData}(F:Fun K "law" "law" sLaw f fd)(LRu:Lib P w K mg base k "_law_rules" ["_law_script","_law_most"] (spRules K) f2 d2)(LSt:Lib P w K mg base k "_law_state" pLState (spLState K) f3 d3)(LSp:Lib P w K mg base k "_law_steps" pSteps (spSteps K) f4 d4)
  (LGs:Lib P w K mg base k "_law_games" pGames (spGames K CT CG) f5 d5) (LPl:Lib P w K mg base k "_law_place" ["_law_state_here"] (spLPlace K) f6 d6) (LAl:Lib P w K mg base k "alike" ["game","place"] (spAlike CT CG) f7 d7) (LRt:Lib P w K mg base k "_law_right" pRight spRight f8 d8) (mLi:mg "list" = none) :
  FnOk P w K mg base CX0 (k+1) f fd ["_law_script"] (spLaw K):=by
 refine F.ok scLaw (fun vs H Q E h=>?_) (fun cdv A outer s H vs Q E hr h=>?_)
 ·obtain⟨a,ns,rfl,_⟩:=h
  rfl
 obtain⟨a,ns,rfl,hS,h63,q⟩:=h
 refine⟨_,pss_cons (ps_set (i:=1) scLaw.nd rfl (Or.inl rfl) (pe_call LRu.ok hr rfl LRu.mg LRu.kp LRu.bd .nil pass0 (pa_cons (pv 0) (pa_cons pe_int pa_nil))))
  (pss_cons (ps_set (i:=2) scLaw.nd rfl (Or.inl rfl) (pe_call LSt.ok hr rfl LSt.mg LSt.kp LSt.bd .nil pass0 (pa_cons (pv 0) (pa_cons (pv 1) (pa_cons (pe_call LSp.ok hr rfl LSp.mg LSp.kp LSp.bd .nil pass0 (pa_cons (pv 0) (pa_cons (pv 1) pa_nil))) pa_nil)))))
  (pss_cons (ps_for PassesOwn.never rfl (pi_list (pe_call LGs.ok hr rfl LGs.mg LGs.kp LGs.bd .nil pass0 (pa_cons (pv 0) (pa_cons (pv 1) pa_nil)))) (pg_tup rfl (pgs_cons (pg_name (i:=3) scLaw.nd rfl (Or.inl rfl)) (pgs_cons (pg_name (i:=4) scLaw.nd rfl (Or.inl rfl)) pgs_nil)))
   (pss_cons (ps_set (i:=5) scLaw.nd rfl (Or.inl rfl) (pe_call LAl.ok hr rfl LAl.mg LAl.kp LAl.bd .nil pass0 (pa_cons (pv 3) (pa_cons (pe_call LPl.ok hr rfl LPl.mg LPl.kp LPl.bd .nil pass0 (pa_cons (pv 2) pa_nil)) pa_nil))))
   (pss_cons (ps_if (pt_not (pt_truth (pe_call LRt.ok hr rfl LRt.mg LRt.kp LRt.bd .nil pass0 (pa_cons (pv 4) (pa_cons (pv 2) (pa_cons (pv 5) pa_nil)))) (fun _=>rfl))) (pss_one (ps_ret pe_bl)) pss_nil)
   (pss_cons (ps_setcomp (i:=6) ["_law_group"] [none] rfl scLaw.nd rfl (Or.inl rfl) (Blk.by (sc:=defScope sLaw) (N0:=nLaw) rfl rfl (by decide +kernel)) (pi_list (pv 5)) (fun C s₀ H₀ ex=>pg_name (i:=0) (show(["_law_group"]:List Str).Nodup by decide +kernel) rfl (Or.inl rfl)) (fun C s₀ H₀ ex=>pf_nil)
    (fun C s₀ H₀ ex=>pe_callTy (show CallR _ (.type "list") (fun xs H Q=>∃ p ys,xs=[.ref p]∧(SqL K H p ys∨SqT K H p ys)∧∀ l,H l=none→Q (.ref l) (upd H l (.lst ys))) from call_list_of) rfl mLi PyProof.Rows.boot_list (pa_cons (pv 0) pa_nil)))
   (pss_cons (ps_expr (pe_bm PySem.F.plainAttrs_list PySem.F.slot_list_append PySem.F.type_list_append mt_append (pv 5) (pa_cons (pe_lst (pa_cons pe_int pa_nil)) pa_nil)))
   (pss_cons (ps_if (pt_cmpR (op_neNil hr.units) (pv 6) (pe_lst pa_nil) (nomark _)) (pss_one (ps_expr (pe_bm PySem.F.plainAttrs_list PySem.F.slot_list_append PySem.F.type_list_append mt_append (pe_ix ix_list (pv 5) pe_int (fun _ _=>rfl)) (pa_cons pe_int pa_nil)))) pss_nil)
   (pss_one (ps_if (pt_cmpR (op_neD (d:=2) (by decide) hr.units) (pe_call LAl.ok hr rfl LAl.mg LAl.kp LAl.bd .nil pass0 (pa_cons (pv 3) (pa_cons (pe_call LPl.ok hr rfl LPl.mg LPl.kp LPl.bd .nil pass0 (pa_cons (pv 2) pa_nil)) pa_nil))) (pv 6) (nomark _)) (pss_one (ps_ret pe_bl)) pss_nil))))))))
  (pss_one (ps_ret pe_bl)))),?_⟩
 have z1000:=fits3 1000 (by decide)
 refine set_nm (fun v H1=>∃(d:Addr) (fx:Fx) (t:Option Nat) (sz:Nat),v = .ref d∧Same H H1∧IsRt H1 d fx t sz∧fx.Ok∧TrB t∧sz≤4∧sz * fx.n≤fx.s * fx.h) (fun R hR=>⟨_,rfl,a,ns,4,rfl,hS,h63,by decide,fun d f t sz H' s1 _ hRt ok tb szm _ szn=>hR _ _ ⟨d,f,t,sz,rfl,s1,hRt,ok,tb,szm,szn⟩⟩) (fun v H1 z=>?_)
 obtain⟨d,fx,t,sz,rfl,s1,hRt,ok,tb,sz4,szn⟩:=z
 have n4:fx.n≤4:=by rcases ok.n34 with e | e<;>omega
 have n0:0 < fx.n:=by rcases ok.n34 with e | e<;>omega
 have nz:fx.n * sz≤4 * 4:=Nat.mul_le_mul n4 sz4
 have hS1:=s1.seq hS
 refine set_nm (fun v H2=>∃(st:Addr) (css:List (List Nat)) (lead:Nat) (ys:List Nat) (m:Nat),v = .ref st∧Same H1 H2∧IsSt H2 st css lead ys∧StOk fx css lead ys m) (fun R hR=>?_) (fun v H2 z=>?_)
 ·exact⟨_,rfl,_,rfl,_,rfl,_,rfl,a,ns,d,fx,t,sz,rfl,hS1,h63,ok,hRt,by omega,fun steps s1000 h11=>⟨a,ns,d,fx,t,sz,steps,rfl,hS1,h63,ok,hRt,szn,s1000,fun st css lead ys m H2 s2 hSt S tot=>hR _ _ ⟨st,css,lead,ys,m,rfl,s2,hSt,S⟩⟩⟩
 obtain⟨st,css,lead,ys,m,rfl,s2,hSt2,S⟩:=z
 have s12:=s1.trans s2
 have hRt2:=hRt.same s2
 have Pl:=S.plc
 refine⟨_,rfl,_,rfl,a,ns,d,fx,t,sz,rfl,s12.seq hS,h63,ok,tb,hRt2,fun lg us H6 s6 hlg lus hG=>⟨lg,rfl,⟨_,SqL.of hlg⟩,for_list (K:=K) (xs:=us.map V.ref) (fun i σ H9=>Same H6 H9∧∃(x3 x4 x5 x6:Option V),σ=[some (.ref a),some (.ref d),some (.ref st),x3,x4,x5,x6]) ⟨Same.refl H6,none,none,none,none,rfl⟩ (fun i σ H9 _ z=>SqL.of (z.1 _ _ hlg)) (fun i v σ H9 hv z=>?_) (fun σ H9 z=>?_)⟩⟩
 ·obtain⟨s9,x3,x4,x5,x6,rfl⟩:=z
  rw[List.getElem?_map] at hv
  obtain⟨g,hg,rfl⟩:=Option.map_eq_some_iff.mp hv
  obtain⟨gm,gx,e,tt,tbt,h1,G9,hE⟩:=(hG g (List.mem_of_getElem? hg)).same s9
  refine⟨g,_,rfl,SqT.of h1,rfl,_,_,rfl,_,_,rfl,rfl,?_⟩
  have hSt9:=hSt2.same (s6.trans s9)
  refine set_nm (fun v HA=>Same H9 HA∧∃(l:Addr) (as:List Addr) (gss:List (List Nat)),v = .ref l∧H9 l=none∧HA l=some (.lst (as.map V.ref))∧IsDl HA as gss∧(∀ a∈as,H9 a=none)∧l∉as∧GsOk fx tt (othL fx.n (css.map hN) lead ys) (moveL fx tt (css.map hN) lead ys m) fx.s gss∧(gss.Pairwise fun a b=>a.headD 0 < b.headD 0)∧gss.length≤40) (fun R hR=>?_) (fun v HA z=>?_)
  ·exact⟨_,rfl,_,rfl,st,fx,css,lead,m,ys,rfl,ok,hSt9,S,fun p H5 s5 hp=>⟨gm,gx,p,tt,fx,css.map hN,ys,lead,m,rfl,G9.same s5,tbt,hp,Pl,fun l as gss HA sA hl hL D fr nl gk hds gl=>hR _ _ ⟨s5.trans sA,l,as,gss,rfl,s5.free hl,hL,D,fun a ha=>s5.free (fr a ha),nl,gk,hds,gl⟩⟩⟩
  obtain⟨sA,l,as,gss,rfl,hl9,hL,D,fr,nl,gk,hds,gl⟩:=z
  refine⟨_,rfl,_,rfl,_,rfl,e,st,l,fx,tt,sz,css,lead,m,ys,as,gss,rfl,ok,hE.same sA,hSt9.same sA,S,hL,D,gk,hds,gl,fun HB sB=>⟨true,rfl,iteF (nx_of ?_)⟩⟩
  have hLB:=sB _ _ hL
  have DB:=D.same sB
  have sAB:=sA.trans sB
  refine set_nm (fun v HC=>Same HB HC∧∃(lk:Addr) (rs:List Addr),v = .ref lk∧HB lk=none∧HC lk=some (.lst (rs.map V.ref))∧IsDl HC rs gss∧∀ r∈rs,HB r=none) (fun R hR=>?_) (fun v HC z=>?_)
  ·refine⟨_,rfl,l,rfl,⟨_,SqL.of hLB⟩,comp_someL (K:=K) (xs:=as.map V.ref) (fun l2 i v H=>∃(r:Addr) (cs:List Nat),v = .ref r∧r≠l2∧HB r=none∧gss[i]? = some cs∧H r=some (.lst (vN cs))) (SqL.of hLB) (by rw[List.length_map,D.1];exact Nat.le_trans (by omega) z1000) (fun l2 i v H H' g sm=>?_) (fun l2 i v H xs zs g hl=>?_) (fun i x H5 l2 vs hx sm hl2 hL2 R hR=>?_) (fun l2 H5 vs sm hl2 hL2 hvl hvs=>?_)⟩
   ·obtain⟨r,cs,a1,a2,a3,a4,a5⟩:=g
    exact⟨r,cs,a1,a2,a3,a4,sm _ _ a5⟩
   ·obtain⟨r,cs,a1,a2,a3,a4,a5⟩:=g
    exact⟨r,cs,a1,a2,a3,a4,by rw[upd_ne a2];exact a5⟩
   ·rw[List.getElem?_map] at hx
    obtain⟨u,hu',rfl⟩:=Option.map_eq_some_iff.mp hx
    obtain⟨cs,e1,e2⟩:=DB.2 i u hu'
    exact⟨_,rfl,u,_,rfl,.inl (SqL.of (sm _ _ e2)),fun r hr1=>hR _ _ (same_upd hr1 _) ⟨r,cs,rfl,(fun z=>by rw[z,hL2] at hr1;cases hr1),sm.free hr1,e1,upd_same⟩⟩
   ·obtain⟨rs,rfl,hrs⟩:=refs_at (fun i r=>∃ cs:List Nat,HB r=none∧gss[i]? = some cs∧H5 r=some (.lst (vN cs))) vs 0 fun i v hv=>by
     obtain⟨r,cs,a1,a2,a3,a4,a5⟩:=hvs i v hv
     exact⟨r,a1,cs,a3,by rw[Nat.zero_add];exact a4,a5⟩
    rw[List.length_map,List.length_map,D.1] at hvl
    refine hR _ _ ⟨sm,l2,rs,rfl,hl2,hL2,⟨hvl,fun j r hr1=>?_⟩,fun r hr1=>?_⟩
    ·obtain⟨cs,a3,a4,a5⟩:=hrs j r hr1
     rw[Nat.zero_add] at a4
     exact⟨cs,a4,a5⟩
    ·obtain⟨j,hj,ej⟩:=List.mem_iff_getElem.mp hr1
     obtain⟨cs,a3,_⟩:=hrs j r (by rw[List.getElem?_eq_getElem hj,ej])
     exact a3
  obtain⟨sC,lk,rs,rfl,hlkB,hlk,Dk,fk⟩:=z
  have hLC:=sC _ _ hLB
  have DC:=DB.same sC
  refine⟨_,rfl,.inl ⟨rfl,_,SqL.of hLC⟩,fits3 1 (by decide),fun z0 hz0=>⟨l,as.map V.ref,V.ref z0,rfl,rfl,by rw[upd_ne (ne_of_none hLC hz0)];exact hLC,by rw[List.length_map,D.1];exact Nat.lt_of_lt_of_le (by omega) z1000,?_⟩⟩
  refine nxE ?_
  have sz0:=same_upd hz0 (.lst [V.int 0])
  have nkl:lk≠l:=fun z=>by rw[z,hLB] at hlkB;cases hlkB
  have nrl:∀ r∈rs,r≠l:=fun r hr1 z=>by
   have:=fk r hr1
   rw[z,hLB] at this
   cases this
  refine seq_cut (fun σ HD=>Same H9 HD∧σ=[some (.ref a),some (.ref d),some (.ref st),some (.ref gm),some (.ref e),some (.ref l),some (.ref lk)]∧HD lk=some (.lst (rs.map V.ref))∧IsDl HD rs gss) (fun D' er nx=>?_) (fun σ HD z=>?_)
  ·have kD:Same H9 (upd (upd HC z0 (.lst [V.int 0])) l (.lst (as.map V.ref++[V.ref z0]))):=same_upd2 hl9 ((sAB.trans sC).trans sz0) _
   have hk2:upd (upd HC z0 (.lst [V.int 0])) l (.lst (as.map V.ref++[V.ref z0])) lk=some (.lst (rs.map V.ref)):=by rw[upd_ne nkl];exact sz0 _ _ hlk
   have Dk2:IsDl (upd (upd HC z0 (.lst [V.int 0])) l (.lst (as.map V.ref++[V.ref z0]))) rs gss:=⟨Dk.1,fun j r hr1=>by
    obtain⟨cs,c1,c2⟩:=Dk.2 j r hr1
    exact⟨cs,c1,by rw[upd_ne (nrl r (List.mem_of_getElem? hr1))];exact sz0 _ _ c2⟩⟩
   refine⟨_,rfl,fits3 0 (by decide),fun n1 hn1=>?_⟩
   have sn:=same_upd hn1 (.lst [])
   refine⟨lk,n1,_,rfl,rfl,SqL.of (sn _ _ hk2),SqL.of upd_same,_,rfl,ite2 (fun c=>?_) (fun c=>nx _ _ ⟨kD.trans sn,rfl,sn _ _ hk2,Dk2.same sn⟩)⟩
   have rne:rs≠[]:=fun z=>by rw[z] at c;exact Bool.noConfusion c
   have g0:0 < gss.length:=by rw[← Dk.1];exact List.length_pos_iff.mpr rne
   have al:0 < as.length:=by rw[D.1];exact g0
   obtain⟨cs0,c1,c2⟩:=DC.2 0 as[0] (List.getElem?_eq_getElem al)
   have a0m:=List.getElem_mem al
   have n0l:as[0]≠l:=fun z=>nl (z ▸ a0m)
   have ha0:upd (upd (upd HC z0 (.lst [V.int 0])) l (.lst (as.map V.ref++[V.ref z0]))) n1 (.lst []) as[0]=some (.lst (vN cs0)):=by
    refine sn _ _ ?_
    rw[upd_ne n0l]
    exact sz0 _ _ c2
   have hl2:upd (upd (upd HC z0 (.lst [V.int 0])) l (.lst (as.map V.ref++[V.ref z0]))) n1 (.lst []) l=some (.lst (as.map V.ref++[V.ref z0])):=sn _ _ upd_same
   have at0:atI (as.map V.ref++[V.ref z0]) 0=some (V.ref as[0]):=by
    refine(atI_nat (j:=0) ?_:atI (as.map V.ref++[V.ref z0]) ((0:Nat):Int)=_)
    rw[List.getElem?_append_left (by rw[List.length_map];exact al),List.getElem?_map,List.getElem?_eq_getElem al]
    rfl
   have cl0:cs0.length≤32:=by
    have gm0:=List.mem_of_getElem? c1
    refine len32 ((gk.up _ gm0).2.imp fun h=>Nat.ne_of_lt h) fun c hc=>?_
    obtain⟨u,kk,_,hcl⟩:=gk.cl _ gm0
    exact(move_in ok Pl ((hcl c).mp hc).1).choose_spec.2.2.1
   refine⟨_,rfl,l,_,_,_,rfl,rfl,SqL.of hl2,at0,.inl ⟨rfl,_,SqL.of ha0⟩,as[0],_,_,rfl,rfl,ha0,by rw[vN_len];exact Nat.lt_of_lt_of_le (by omega) z1000,nx _ _ ⟨same_upd2 (fr _ a0m) (kD.trans sn) _,rfl,?_,⟨Dk.1,fun j r hr1=>?_⟩⟩⟩
   ·have nk0:lk≠as[0]:=fun z=>by rw[z,DB.2 0 as[0] (List.getElem?_eq_getElem al) |>.choose_spec.2] at hlkB;cases hlkB
    rw[upd_ne nk0]
    exact sn _ _ hk2
   ·obtain⟨cs,d1,d2⟩:=Dk2.2 j r hr1
    have nr0:r≠as[0]:=fun z=>by
     have:=fk r (List.mem_of_getElem? hr1)
     rw[z,DB.2 0 as[0] (List.getElem?_eq_getElem al) |>.choose_spec.2] at this
     cases this
    exact⟨cs,d1,by rw[upd_ne nr0];exact sn _ _ d2⟩
  obtain⟨sD,rfl,hkD,DkD⟩:=z
  refine⟨_,rfl,_,rfl,st,fx,css,lead,m,ys,rfl,ok,hSt9.same sD,S,fun p H5 s5 hp=>⟨gm,gx,p,tt,fx,css.map hN,ys,lead,m,rfl,(G9.same sD).same s5,tbt,hp,Pl,fun l2 as2 gss2 HE' sE _ hL2 D2 _ _ gk2 hds2 gl2=>?_⟩⟩
  have eg:=gk2.uniq gk hds2 hds
  subst eg
  have sDE:=s5.trans sE
  refine⟨_,rfl,l2,lk,rfl,rfl,.lst (SqL.of hL2) (SqL.of (sDE _ _ hkD)) (by rw[List.length_map,List.length_map,D2.1,Dk.1]) (fun j hj=>?_),_,rfl,iteF ⟨(s9.trans sD).trans sDE,_,_,_,_,rfl⟩⟩
  rw[List.length_map] at hj
  have hjr:j < rs.length:=by rw[Dk.1,← D2.1];exact hj
  obtain⟨cs,c1,c2⟩:=D2.2 j as2[j] (List.getElem?_eq_getElem hj)
  obtain⟨cs',c1',c2'⟩:=DkD.2 j rs[j] (List.getElem?_eq_getElem hjr)
  rw[c1] at c1'
  cases c1'
  have e1:(as2.map V.ref).getD j .non=V.ref as2[j]:=by rw[List.getD_eq_getElem?_getD,List.getElem?_map,List.getElem?_eq_getElem hj];rfl
  have e2:(rs.map V.ref).getD j .non=V.ref rs[j]:=by rw[List.getD_eq_getElem?_getD,List.getElem?_map,List.getElem?_eq_getElem hjr];rfl
  rw[e1,e2]
  exact deep_lst c2 (sDE _ _ c2')
 ·obtain⟨s9,x3,x4,x5,x6,rfl⟩:=z
  refine nxE ?_
  exact q _
end
end My
namespace My
open PySem L2
theorem all_mk{wd dtd:Option Addr}{dtc:Value}{tw1 tw2 tw3 tw4 tw5:Tok}{wn dtn:Nat}{wsl dts:Array (Option Value)}{l:PySem.W.OpenLaw}{w:World}{K:PySem.W.Frag}{h:Heap}{mg:Str→Option Value}{fa f1 f2 f3 f4 f5 f6 f7 f8 f9 f10 f11 f12 f13 f14 f15 f16 f17 f18 f19 f20 f21 f22 f23 f24 f25 f26 f27 f28 f29 f30 f31 f32 f33 f34 f35 f36 f37 f_F f_L f_C f_B f_AF f_AL f_AC f_AB f_I f_D f_O f_G f_S f_V f_M CN CF CL CC CB CT CG aM dT:Addr}(X:K.In h)(G:h.Ns mainGlobals mg)(hfa:mg "law" = some (.ref fa))
  {d1 d2 d3 d4 d5 d6 d7 d8 d9 d10 d11 d12 d13 d14 d15 d16 d17 d18 d19 d20 d21 d22 d23 d24 d25 d26 d27 d28 d29 d30 d31 d32 d33 d34 d35 d36 d_F d_L d_C d_B d_AF d_AL d_AC d_AB d_I d_D d_O d_S d_V d_M:FuncData} {od37 an37 od_G an_G:Option Addr} {sl37 sl_G:Array (Option Value)} {oc37 kV37 dc37 pm37 cd37 ct37 oc_G kV_G dc_G pm_G cd_G ct_G:Value} {t1 t2 t3 t4:Tok}
  (a1:PySem.W.nsIn K mainGlobals "duty_of" = some (some (.ref f1)))
  (a2:PySem.W.nsIn K mainGlobals "words_behind_marks" = some (some (.ref f2)))
  (a3:PySem.W.nsIn K mainGlobals "read_size" = some (some (.ref f3)))
  (a4:PySem.W.nsIn K mainGlobals "read_seats" = some (some (.ref f4)))
  (a5:PySem.W.nsIn K mainGlobals "read_order" = some (some (.ref f5)))
  (a6:PySem.W.nsIn K mainGlobals "is_later" = some (some (.ref f6)))
  (a7:PySem.W.nsIn K mainGlobals "cards_in" = some (some (.ref f7)))
  (a8:PySem.W.nsIn K mainGlobals "hand_of" = some (some (.ref f8)))
  (a9:PySem.W.nsIn K mainGlobals "of_suit" = some (some (.ref f9)))
  (a10:PySem.W.nsIn K mainGlobals "of_led_suit" = some (some (.ref f10)))
  (a11:PySem.W.nsIn K mainGlobals "followed_or_cut" = some (some (.ref f11)))
  (a12:PySem.W.nsIn K mainGlobals "goes_over_all" = some (some (.ref f12)))
  (a13:PySem.W.nsIn K mainGlobals "many" = some (some (.ref f13)))
  (a14:PySem.W.nsIn K mainGlobals "seat_round" = some (some (.ref f14)))
  (a15:PySem.W.nsIn K mainGlobals "turn_at" = some (some (.ref f15)))
  (a16:PySem.W.nsIn K mainGlobals "moves" = some (some (.ref f16)))
  (a17:PySem.W.nsIn K mainGlobals "left" = some (some (.ref f17)))
  (a18:PySem.W.nsIn K mainGlobals "_law_mixed" = some (some (.ref f18)))
  (a19:PySem.W.nsIn K mainGlobals "_law_order" = some (some (.ref f19)))
  (a20:PySem.W.nsIn K mainGlobals "_law_rules" = some (some (.ref f20)))
  (a21:PySem.W.nsIn K mainGlobals "_law_text" = some (some (.ref f21)))
  (a22:PySem.W.nsIn K mainGlobals "_law_game" = some (some (.ref f22)))
  (a23:PySem.W.nsIn K mainGlobals "_law_strength" = some (some (.ref f23)))
  (a24:PySem.W.nsIn K mainGlobals "_law_may" = some (some (.ref f24)))
  (a25:PySem.W.nsIn K mainGlobals "_law_turn" = some (some (.ref f25)))
  (a26:PySem.W.nsIn K mainGlobals "_law_put" = some (some (.ref f26)))
  (a27:PySem.W.nsIn K mainGlobals "_law_state" = some (some (.ref f27)))
  (a28:PySem.W.nsIn K mainGlobals "_law_place" = some (some (.ref f28)))
  (a29:PySem.W.nsIn K mainGlobals "_law_games" = some (some (.ref f29)))
  (a30:PySem.W.nsIn K mainGlobals "cards_of_others" = some (some (.ref f30)))
  (a31:PySem.W.nsIn K mainGlobals "groups_of_suit" = some (some (.ref f31)))
  (a32:PySem.W.nsIn K mainGlobals "alike" = some (some (.ref f32)))
  (a33:PySem.W.nsIn K mainGlobals "_law_steps" = some (some (.ref f33)))
  (a34:PySem.W.nsIn K mainGlobals "_law_whole" = some (some (.ref f34)))
  (a35:PySem.W.nsIn K mainGlobals "_law_between" = some (some (.ref f35)))
  (a36:PySem.W.nsIn K mainGlobals "_law_right" = some (some (.ref f36)))
  (a37:PySem.W.nsIn K mainGlobals "law" = some (some (.ref f37)))
  (hCN:PySem.W.nsIn K mainGlobals "NoTable" = some (some (.ref CN)))
  (hCF:PySem.W.nsIn K mainGlobals "Free" = some (some (.ref CF)))
  (hCL:PySem.W.nsIn K mainGlobals "Follow" = some (some (.ref CL)))
  (hCC:PySem.W.nsIn K mainGlobals "Cut" = some (some (.ref CC)))
  (hCB:PySem.W.nsIn K mainGlobals "Beat" = some (some (.ref CB)))
  (hCT:PySem.W.nsIn K mainGlobals "Table" = some (some (.ref CT)))
  (hCG:PySem.W.nsIn K mainGlobals "Game" = some (some (.ref CG)))
  (w1:PySem.W.nsIn K mainGlobals "MARKS" = some (some (.ref aM)))
  (l37:K.lookup f37=some ⟨oc37,od37,.func (PySem.W.fnOf "law" "law" (defArgs sLaw) (defBody sLaw) (defScope sLaw) .none kV37 dc37 pm37 an37 cd37 ct37),sl37⟩)
  (c37:PySem.W.codeIn K cd37 "law" = true)
  (k37:PySem.W.keepIn K (.ref f37)=true)
  (a_F:PySem.W.findIn K (.ref CF) "word" = some (some (.ref f_F)))
  (i_F:PySem.W.isFn K (.ref f_F)=true)
  (a_L:PySem.W.findIn K (.ref CL) "word" = some (some (.ref f_L)))
  (i_L:PySem.W.isFn K (.ref f_L)=true)
  (a_C:PySem.W.findIn K (.ref CC) "word" = some (some (.ref f_C)))
  (i_C:PySem.W.isFn K (.ref f_C)=true)
  (a_B:PySem.W.findIn K (.ref CB) "word" = some (some (.ref f_B)))
  (i_B:PySem.W.isFn K (.ref f_B)=true)
  (a_AF:PySem.W.findIn K (.ref CF) "allowed" = some (some (.ref f_AF)))
  (i_AF:PySem.W.isFn K (.ref f_AF)=true)
  (a_AL:PySem.W.findIn K (.ref CL) "allowed" = some (some (.ref f_AL)))
  (i_AL:PySem.W.isFn K (.ref f_AL)=true)
  (a_AC:PySem.W.findIn K (.ref CC) "allowed" = some (some (.ref f_AC)))
  (i_AC:PySem.W.isFn K (.ref f_AC)=true)
  (a_AB:PySem.W.findIn K (.ref CB) "allowed" = some (some (.ref f_AB)))
  (i_AB:PySem.W.isFn K (.ref f_AB)=true)
  (a_I:PySem.W.findIn K (.ref CT) "__init__" = some (some (.ref f_I)))
  (i_I:PySem.W.isFn K (.ref f_I)=true)
  (a_D:PySem.W.findIn K (.ref CT) "duty" = some (some (.ref f_D)))
  (i_D:PySem.W.isFn K (.ref f_D)=true)
  (a_O:PySem.W.findIn K (.ref CT) "order" = some (some (.ref f_O)))
  (i_O:PySem.W.isFn K (.ref f_O)=true)
  (a_G:PySem.W.findIn K (.ref CG) "__init__" = some (some (.ref f_G)))
  (l_G:K.lookup f_G=some ⟨oc_G,od_G,.func (PySem.W.fnOf "__init__" "Game.__init__" (defArgs sGamInit) (defBody sGamInit) (defScope sGamInit) (.ref dT) kV_G dc_G pm_G an_G cd_G ct_G),sl_G⟩)
  (c_G:PySem.W.codeIn K cd_G "Game.__init__" = true)
  (k_G:PySem.W.keepIn K (.ref f_G)=true)
  (i_G:PySem.W.isFn K (.ref f_G)=true)
  (a_S:PySem.W.findIn K (.ref CG) "is_stronger" = some (some (.ref f_S)))
  (i_S:PySem.W.isFn K (.ref f_S)=true)
  (a_V:PySem.W.findIn K (.ref CG) "is_over" = some (some (.ref f_V)))
  (i_V:PySem.W.isFn K (.ref f_V)=true)
  (a_M:PySem.W.findIn K (.ref CG) "may" = some (some (.ref f_M)))
  (i_M:PySem.W.isFn K (.ref f_M)=true)
  (g1:PySem.W.nsIn K mainGlobals "HEIGHTS" = some (some (.int 8 t1)))
  (g2:PySem.W.nsIn K mainGlobals "LETTERS" = some (some (.str "abcd" t2)))
  (g3:PySem.W.nsIn K mainGlobals "FIGURES" = some (some (.str "12345678" t3)))
  (g4:PySem.W.nsIn K mainGlobals "LOWEST_SUIT" = some (some (.int 255 t4)))
  (z1:PySem.W.nsIn K mainGlobals "len" = some none)
  (z2:PySem.W.nsIn K mainGlobals "range" = some none)
  (z3:PySem.W.nsIn K mainGlobals "isinstance" = some none)
  (z4:PySem.W.nsIn K mainGlobals "int" = some none)
  (z5:PySem.W.nsIn K mainGlobals "str" = some none)
  (z6:PySem.W.nsIn K mainGlobals "list" = some none)
  (z7:PySem.W.nsIn K mainGlobals "tuple" = some none)
  (z8:PySem.W.nsIn K mainGlobals "sorted" = some none)
  (z9:PySem.W.nsIn K mainGlobals "sum" = some none)
  (z10:PySem.W.nsIn K mainGlobals "all" = some none)
  (z11:PySem.W.nsIn K mainGlobals "any" = some none)
  (z12:PySem.W.nsIn K mainGlobals "enumerate" = some none)
  (z13:PySem.W.nsIn K mainGlobals "max" = some none)
  (z14:PySem.W.nsIn K mainGlobals "min" = some none)
  (z15:PySem.W.nsIn K mainGlobals "bool" = some none)
  (pgCF:PySem.W.plainGet K CF Str.empty=true)
  (hdCF:PySem.W.hasDictIn K CF=true)
  (poCF:PySem.W.plainOver K CF=true)
  (saCF:PySem.W.findIn K (.ref CF) "__setattr__" = some (some (.builtin "object.__setattr__")))
  (mkCF:PySem.W.makesIn K CF=true)
  (kcCF:PySem.W.keepIn K (.ref CF)=true)
  (oiCF:PySem.W.findIn K (.ref CF) "__init__" = some (some (.builtin "object.__init__")))
  (pgCL:PySem.W.plainGet K CL Str.empty=true)
  (hdCL:PySem.W.hasDictIn K CL=true)
  (poCL:PySem.W.plainOver K CL=true)
  (saCL:PySem.W.findIn K (.ref CL) "__setattr__" = some (some (.builtin "object.__setattr__")))
  (mkCL:PySem.W.makesIn K CL=true)
  (kcCL:PySem.W.keepIn K (.ref CL)=true)
  (oiCL:PySem.W.findIn K (.ref CL) "__init__" = some (some (.builtin "object.__init__")))
  (pgCC:PySem.W.plainGet K CC Str.empty=true)
  (hdCC:PySem.W.hasDictIn K CC=true)
  (poCC:PySem.W.plainOver K CC=true)
  (saCC:PySem.W.findIn K (.ref CC) "__setattr__" = some (some (.builtin "object.__setattr__")))
  (mkCC:PySem.W.makesIn K CC=true)
  (kcCC:PySem.W.keepIn K (.ref CC)=true)
  (oiCC:PySem.W.findIn K (.ref CC) "__init__" = some (some (.builtin "object.__init__")))
  (pgCB:PySem.W.plainGet K CB Str.empty=true)
  (hdCB:PySem.W.hasDictIn K CB=true)
  (poCB:PySem.W.plainOver K CB=true)
  (saCB:PySem.W.findIn K (.ref CB) "__setattr__" = some (some (.builtin "object.__setattr__")))
  (mkCB:PySem.W.makesIn K CB=true)
  (kcCB:PySem.W.keepIn K (.ref CB)=true)
  (oiCB:PySem.W.findIn K (.ref CB) "__init__" = some (some (.builtin "object.__init__")))
  (pgCT:PySem.W.plainGet K CT Str.empty=true)
  (hdCT:PySem.W.hasDictIn K CT=true)
  (poCT:PySem.W.plainOver K CT=true)
  (saCT:PySem.W.findIn K (.ref CT) "__setattr__" = some (some (.builtin "object.__setattr__")))
  (mkCT:PySem.W.makesIn K CT=true)
  (kcCT:PySem.W.keepIn K (.ref CT)=true)
  (pgCG:PySem.W.plainGet K CG Str.empty=true)
  (hdCG:PySem.W.hasDictIn K CG=true)
  (poCG:PySem.W.plainOver K CG=true)
  (saCG:PySem.W.findIn K (.ref CG) "__setattr__" = some (some (.builtin "object.__setattr__")))
  (mkCG:PySem.W.makesIn K CG=true)
  (kcCG:PySem.W.keepIn K (.ref CG)=true)
  (nTS:PySem.W.findIn K (.ref CT) "suits" = some none)
  (nTH:PySem.W.findIn K (.ref CT) "heights" = some none)
  (nTN:PySem.W.findIn K (.ref CT) "seats" = some none)
  (nTD:PySem.W.findIn K (.ref CT) "duty_word" = some none)
  (nTP:PySem.W.findIn K (.ref CT) "plain_order" = some none)
  (nTT:PySem.W.findIn K (.ref CT) "trump_order" = some none)
  (nTW:PySem.W.findIn K (.ref CT) "written" = some none)
  (nGT:PySem.W.findIn K (.ref CG) "table" = some none)
  (nGU:PySem.W.findIn K (.ref CG) "trump" = some none)
  (w2:K.lookup aM=some ⟨.type "tuple",wd,.seq #[.str "pack" tw1,.str "seats" tw2,.str "duty" tw3,.str "plain" tw4,.str "trump" tw5] wn,wsl⟩)
  (w3:K.lookup dT=some ⟨dtc,dtd,.seq #[.none] dtn,dts⟩)
  (F1:Fun K "duty_of" "duty_of" sDutyOf f1 d1)
  (F2:Fun K "words_behind_marks" "words_behind_marks" sMarks f2 d2)
  (F3:Fun K "read_size" "read_size" sReadSize f3 d3)
  (F4:Fun K "read_seats" "read_seats" sReadSeats f4 d4)
  (F5:Fun K "read_order" "read_order" sReadOrder f5 d5)
  (F6:Fun K "is_later" "is_later" sLater f6 d6)
  (F7:Fun K "cards_in" "cards_in" sCardsIn f7 d7)
  (F8:Fun K "hand_of" "hand_of" sHandOf f8 d8)
  (F9:Fun K "of_suit" "of_suit" sOfSuit f9 d9)
  (F10:Fun K "of_led_suit" "of_led_suit" sLedSuit f10 d10)
  (F11:Fun K "followed_or_cut" "followed_or_cut" sFoc f11 d11)
  (F12:Fun K "goes_over_all" "goes_over_all" sGoesAll f12 d12)
  (F13:Fun K "many" "many" sMany f13 d13)
  (F14:Fun K "seat_round" "seat_round" sRound f14 d14)
  (F15:Fun K "turn_at" "turn_at" sTurnAt f15 d15)
  (F16:Fun K "moves" "moves" sMoves f16 d16)
  (F17:Fun K "left" "left" sLeft f17 d17)
  (F18:Fun K "_law_mixed" "_law_mixed" sMixed f18 d18)
  (F19:Fun K "_law_order" "_law_order" sOrder f19 d19)
  (F20:Fun K "_law_rules" "_law_rules" sRules f20 d20)
  (F21:Fun K "_law_text" "_law_text" sText f21 d21)
  (F22:Fun K "_law_game" "_law_game" sGame f22 d22)
  (F23:Fun K "_law_strength" "_law_strength" sRank f23 d23)
  (F24:Fun K "_law_may" "_law_may" sLMay f24 d24)
  (F25:Fun K "_law_turn" "_law_turn" sLTurn f25 d25)
  (F26:Fun K "_law_put" "_law_put" sLPut f26 d26)
  (F27:Fun K "_law_state" "_law_state" sLState f27 d27)
  (F28:Fun K "_law_place" "_law_place" sLPlace f28 d28)
  (F29:Fun K "_law_games" "_law_games" sGames f29 d29)
  (F30:Fun K "cards_of_others" "cards_of_others" sOth f30 d30)
  (F31:Fun K "groups_of_suit" "groups_of_suit" sGrp f31 d31)
  (F32:Fun K "alike" "alike" sAlike f32 d32)
  (F33:Fun K "_law_steps" "_law_steps" sSteps f33 d33)
  (F34:Fun K "_law_whole" "_law_whole" sWhole f34 d34)
  (F35:Fun K "_law_between" "_law_between" sBtw f35 d35)
  (F36:Fun K "_law_right" "_law_right" sRight f36 d36)
  (F_F:Fun K "word" "Free.word" sFreeWord f_F d_F)
  (F_L:Fun K "word" "Follow.word" sFollowWord f_L d_L)
  (F_C:Fun K "word" "Cut.word" sCutWord f_C d_C)
  (F_B:Fun K "word" "Beat.word" sBeatWord f_B d_B)
  (F_AF:Fun K "allowed" "Free.allowed" sFreeAl f_AF d_AF)
  (F_AL:Fun K "allowed" "Follow.allowed" sFollowAl f_AL d_AL)
  (F_AC:Fun K "allowed" "Cut.allowed" sCutAl f_AC d_AC)
  (F_AB:Fun K "allowed" "Beat.allowed" sBeatAl f_AB d_AB)
  (F_I:Fun K "__init__" "Table.__init__" sTabInit f_I d_I)
  (F_D:Fun K "duty" "Table.duty" sTabDuty f_D d_D)
  (F_O:Fun K "order" "Table.order" sTabOrder f_O d_O)
  (F_S:Fun K "is_stronger" "Game.is_stronger" sStronger f_S d_S)
  (F_V:Fun K "is_over" "Game.is_over" sOver f_V d_V)
  (F_M:Fun K "may" "Game.may" sMay f_M d_M)
  (x1:PySem.W.excIn K CN veTail "ValueError.__new__" = true)
  : ∃ fd:FuncData,(∀(s:Shared) (v:Value),BindsTo s fd ⟨[v],[]⟩ [("_law_script",v)])∧∀ base:Heap,K.In base→base.Ns mainGlobals mg→FnOk l.prog w K mg base CX0 21 fa fd ["_law_script"] (spLaw K):=by
 have e:=hfa.symm.trans (PySem.W.mg_of X G a37)
 cases e
 have k1:=F1.kp
 have b1:=F1.binds (ps:=["word"]) fun _ _ _ _ _ _ us hl=>match us,hl with | [_],_=>rfl
 have m1:=PySem.W.mg_of X G a1
 have k2:=F2.kp
 have b2:=F2.binds (ps:=["text"]) fun _ _ _ _ _ _ us hl=>match us,hl with | [_],_=>rfl
 have m2:=PySem.W.mg_of X G a2
 have k3:=F3.kp
 have b3:=F3.binds (ps:=["word"]) fun _ _ _ _ _ _ us hl=>match us,hl with | [_],_=>rfl
 have m3:=PySem.W.mg_of X G a3
 have k4:=F4.kp
 have b4:=F4.binds (ps:=["word"]) fun _ _ _ _ _ _ us hl=>match us,hl with | [_],_=>rfl
 have m4:=PySem.W.mg_of X G a4
 have k5:=F5.kp
 have b5:=F5.binds (ps:=["word","heights"]) fun _ _ _ _ _ _ us hl=>match us,hl with | [_,_],_=>rfl
 have m5:=PySem.W.mg_of X G a5
 have k6:=F6.kp
 have b6:=F6.binds (ps:=["order","height","other"]) fun _ _ _ _ _ _ us hl=>match us,hl with | [_,_,_],_=>rfl
 have m6:=PySem.W.mg_of X G a6
 have k7:=F7.kp
 have b7:=F7.binds (ps:=["hand"]) fun _ _ _ _ _ _ us hl=>match us,hl with | [_],_=>rfl
 have m7:=PySem.W.mg_of X G a7
 have k8:=F8.kp
 have b8:=F8.binds (ps:=["cards"]) fun _ _ _ _ _ _ us hl=>match us,hl with | [_],_=>rfl
 have m8:=PySem.W.mg_of X G a8
 have k9:=F9.kp
 have b9:=F9.binds (ps:=["hand","suit"]) fun _ _ _ _ _ _ us hl=>match us,hl with | [_,_],_=>rfl
 have m9:=PySem.W.mg_of X G a9
 have k10:=F10.kp
 have b10:=F10.binds (ps:=["hand","trick"]) fun _ _ _ _ _ _ us hl=>match us,hl with | [_,_],_=>rfl
 have m10:=PySem.W.mg_of X G a10
 have k11:=F11.kp
 have b11:=F11.binds (ps:=["game","hand","trick"]) fun _ _ _ _ _ _ us hl=>match us,hl with | [_,_,_],_=>rfl
 have m11:=PySem.W.mg_of X G a11
 have k12:=F12.kp
 have b12:=F12.binds (ps:=["game","card","trick"]) fun _ _ _ _ _ _ us hl=>match us,hl with | [_,_,_],_=>rfl
 have m12:=PySem.W.mg_of X G a12
 have k13:=F13.kp
 have b13:=F13.binds (ps:=["hand"]) fun _ _ _ _ _ _ us hl=>match us,hl with | [_],_=>rfl
 have m13:=PySem.W.mg_of X G a13
 have k14:=F14.kp
 have b14:=F14.binds (ps:=["game","lead","steps"]) fun _ _ _ _ _ _ us hl=>match us,hl with | [_,_,_],_=>rfl
 have m14:=PySem.W.mg_of X G a14
 have k15:=F15.kp
 have b15:=F15.binds (ps:=["game","place"]) fun _ _ _ _ _ _ us hl=>match us,hl with | [_,_],_=>rfl
 have m15:=PySem.W.mg_of X G a15
 have k16:=F16.kp
 have b16:=F16.binds (ps:=["game","place"]) fun _ _ _ _ _ _ us hl=>match us,hl with | [_,_],_=>rfl
 have m16:=PySem.W.mg_of X G a16
 have k17:=F17.kp
 have b17:=F17.binds (ps:=["place"]) fun _ _ _ _ _ _ us hl=>match us,hl with | [_],_=>rfl
 have m17:=PySem.W.mg_of X G a17
 have k18:=F18.kp
 have b18:=F18.binds (ps:=pMixed) fun _ _ _ _ _ _ us hl=>match us,hl with | [_,_],_=>rfl
 have m18:=PySem.W.mg_of X G a18
 have k19:=F19.kp
 have b19:=F19.binds (ps:=pOrder) fun _ _ _ _ _ _ us hl=>match us,hl with | [_,_,_],_=>rfl
 have m19:=PySem.W.mg_of X G a19
 have k20:=F20.kp
 have b20:=F20.binds (ps:=["_law_script","_law_most"]) fun _ _ _ _ _ _ us hl=>match us,hl with | [_,_],_=>rfl
 have m20:=PySem.W.mg_of X G a20
 have k21:=F21.kp
 have b21:=F21.binds (ps:=["_law_rules_here"]) fun _ _ _ _ _ _ us hl=>match us,hl with | [_],_=>rfl
 have m21:=PySem.W.mg_of X G a21
 have k22:=F22.kp
 have b22:=F22.binds (ps:=pGame) fun _ _ _ _ _ _ us hl=>match us,hl with | [_,_],_=>rfl
 have m22:=PySem.W.mg_of X G a22
 have k23:=F23.kp
 have b23:=F23.binds (ps:=pRank) fun _ _ _ _ _ _ us hl=>match us,hl with | [_,_,_],_=>rfl
 have m23:=PySem.W.mg_of X G a23
 have k24:=F24.kp
 have b24:=F24.binds (ps:=pLMay) fun _ _ _ _ _ _ us hl=>match us,hl with | [_,_,_],_=>rfl
 have m24:=PySem.W.mg_of X G a24
 have k25:=F25.kp
 have b25:=F25.binds (ps:=pLTurn) fun _ _ _ _ _ _ us hl=>match us,hl with | [_],_=>rfl
 have m25:=PySem.W.mg_of X G a25
 have k26:=F26.kp
 have b26:=F26.binds (ps:=pLPut) fun _ _ _ _ _ _ us hl=>match us,hl with | [_,_,_],_=>rfl
 have m26:=PySem.W.mg_of X G a26
 have k27:=F27.kp
 have b27:=F27.binds (ps:=pLState) fun _ _ _ _ _ _ us hl=>match us,hl with | [_,_,_],_=>rfl
 have m27:=PySem.W.mg_of X G a27
 have k28:=F28.kp
 have b28:=F28.binds (ps:=["_law_state_here"]) fun _ _ _ _ _ _ us hl=>match us,hl with | [_],_=>rfl
 have m28:=PySem.W.mg_of X G a28
 have k29:=F29.kp
 have b29:=F29.binds (ps:=pGames) fun _ _ _ _ _ _ us hl=>match us,hl with | [_,_],_=>rfl
 have m29:=PySem.W.mg_of X G a29
 have k30:=F30.kp
 have b30:=F30.binds (ps:=["game","place"]) fun _ _ _ _ _ _ us hl=>match us,hl with | [_,_],_=>rfl
 have m30:=PySem.W.mg_of X G a30
 have k31:=F31.kp
 have b31:=F31.binds (ps:=pGrp) fun _ _ _ _ _ _ us hl=>match us,hl with | [_,_,_,_],_=>rfl
 have m31:=PySem.W.mg_of X G a31
 have k32:=F32.kp
 have b32:=F32.binds (ps:=["game","place"]) fun _ _ _ _ _ _ us hl=>match us,hl with | [_,_],_=>rfl
 have m32:=PySem.W.mg_of X G a32
 have k33:=F33.kp
 have b33:=F33.binds (ps:=pSteps) fun _ _ _ _ _ _ us hl=>match us,hl with | [_,_],_=>rfl
 have m33:=PySem.W.mg_of X G a33
 have k34:=F34.kp
 have b34:=F34.binds (ps:=["_law_found"]) fun _ _ _ _ _ _ us hl=>match us,hl with | [_],_=>rfl
 have m34:=PySem.W.mg_of X G a34
 have k35:=F35.kp
 have b35:=F35.binds (ps:=pBtw) fun _ _ _ _ _ _ us hl=>match us,hl with | [_,_,_,_],_=>rfl
 have m35:=PySem.W.mg_of X G a35
 have k36:=F36.kp
 have b36:=F36.binds (ps:=pRight) fun _ _ _ _ _ _ us hl=>match us,hl with | [_,_,_],_=>rfl
 have m36:=PySem.W.mg_of X G a36
 have F37:=fun_mk (st:=sLaw) l37 c37 k37
 have m37:=PySem.W.mg_of X G a37
 have k_F:=F_F.kp
 have b_F:=F_F.binds (ps:=["self"]) fun _ _ _ _ _ _ us hl=>match us,hl with | [_],_=>rfl
 have m_F:Meth K CF "word" f_F:=⟨a_F,i_F,k_F⟩
 have k_L:=F_L.kp
 have b_L:=F_L.binds (ps:=["self"]) fun _ _ _ _ _ _ us hl=>match us,hl with | [_],_=>rfl
 have m_L:Meth K CL "word" f_L:=⟨a_L,i_L,k_L⟩
 have k_C:=F_C.kp
 have b_C:=F_C.binds (ps:=["self"]) fun _ _ _ _ _ _ us hl=>match us,hl with | [_],_=>rfl
 have m_C:Meth K CC "word" f_C:=⟨a_C,i_C,k_C⟩
 have k_B:=F_B.kp
 have b_B:=F_B.binds (ps:=["self"]) fun _ _ _ _ _ _ us hl=>match us,hl with | [_],_=>rfl
 have m_B:Meth K CB "word" f_B:=⟨a_B,i_B,k_B⟩
 have k_AF:=F_AF.kp
 have b_AF:=F_AF.binds (ps:=pAl) fun _ _ _ _ _ _ us hl=>match us,hl with | [_,_,_,_],_=>rfl
 have m_AF:Meth K CF "allowed" f_AF:=⟨a_AF,i_AF,k_AF⟩
 have k_AL:=F_AL.kp
 have b_AL:=F_AL.binds (ps:=pAl) fun _ _ _ _ _ _ us hl=>match us,hl with | [_,_,_,_],_=>rfl
 have m_AL:Meth K CL "allowed" f_AL:=⟨a_AL,i_AL,k_AL⟩
 have k_AC:=F_AC.kp
 have b_AC:=F_AC.binds (ps:=pAl) fun _ _ _ _ _ _ us hl=>match us,hl with | [_,_,_,_],_=>rfl
 have m_AC:Meth K CC "allowed" f_AC:=⟨a_AC,i_AC,k_AC⟩
 have k_AB:=F_AB.kp
 have b_AB:=F_AB.binds (ps:=pAl) fun _ _ _ _ _ _ us hl=>match us,hl with | [_,_,_,_],_=>rfl
 have m_AB:Meth K CB "allowed" f_AB:=⟨a_AB,i_AB,k_AB⟩
 have k_I:=F_I.kp
 have b_I:=F_I.binds (ps:=["self","text"]) fun _ _ _ _ _ _ us hl=>match us,hl with | [_,_],_=>rfl
 have m_I:Meth K CT "__init__" f_I:=⟨a_I,i_I,k_I⟩
 have k_D:=F_D.kp
 have b_D:=F_D.binds (ps:=["self"]) fun _ _ _ _ _ _ us hl=>match us,hl with | [_],_=>rfl
 have m_D:Meth K CT "duty" f_D:=⟨a_D,i_D,k_D⟩
 have k_O:=F_O.kp
 have b_O:=F_O.binds (ps:=["self","is_trump"]) fun _ _ _ _ _ _ us hl=>match us,hl with | [_,_],_=>rfl
 have m_O:Meth K CT "order" f_O:=⟨a_O,i_O,k_O⟩
 have F_G:=funD_mk (st:=sGamInit) l_G c_G k_G
 have m_G:Meth K CG "__init__" f_G:=⟨a_G,i_G,k_G⟩
 have k_S:=F_S.kp
 have b_S:=F_S.binds (ps:=["self","card","other"]) fun _ _ _ _ _ _ us hl=>match us,hl with | [_,_,_],_=>rfl
 have m_S:Meth K CG "is_stronger" f_S:=⟨a_S,i_S,k_S⟩
 have k_V:=F_V.kp
 have b_V:=F_V.binds (ps:=pOver) fun _ _ _ _ _ _ us hl=>match us,hl with | [_,_,_,_],_=>rfl
 have m_V:Meth K CG "is_over" f_V:=⟨a_V,i_V,k_V⟩
 have k_M:=F_M.kp
 have b_M:=F_M.binds (ps:=["self","hand","trick"]) fun _ _ _ _ _ _ us hl=>match us,hl with | [_,_,_],_=>rfl
 have m_M:Meth K CG "may" f_M:=⟨a_M,i_M,k_M⟩
 have mg1:=PySem.W.mg_of X G g1
 have mg2:=PySem.W.mg_of X G g2
 have mg3:=PySem.W.mg_of X G g3
 have mg4:=PySem.W.mg_of X G g4
 have mn_len:=PySem.W.mg_none_of X G z1
 have mn_range:=PySem.W.mg_none_of X G z2
 have mn_isinstance:=PySem.W.mg_none_of X G z3
 have mn_int:=PySem.W.mg_none_of X G z4
 have mn_str:=PySem.W.mg_none_of X G z5
 have mn_list:=PySem.W.mg_none_of X G z6
 have mn_tuple:=PySem.W.mg_none_of X G z7
 have mn_sorted:=PySem.W.mg_none_of X G z8
 have mn_sum:=PySem.W.mg_none_of X G z9
 have mn_all:=PySem.W.mg_none_of X G z10
 have mn_any:=PySem.W.mg_none_of X G z11
 have mn_enumerate:=PySem.W.mg_none_of X G z12
 have mn_max:=PySem.W.mg_none_of X G z13
 have mn_min:=PySem.W.mg_none_of X G z14
 have mn_bool:=PySem.W.mg_none_of X G z15
 refine⟨PySem.W.fnOf "law" "law" (defArgs sLaw) (defBody sLaw) (defScope sLaw) .none kV37 dc37 pm37 an37 cd37 ct37,fun s v=>.of_eq rfl,fun base _ _=>?_⟩
 let cs:Fin 4→Addr:=p4 CF CL CC CB
 let fw:Fin 4→Addr:=p4 f_F f_L f_C f_B
 let fl:Fin 4→Addr:=p4 f_AF f_AL f_AC f_AB
 have mN:=PySem.W.mg_of X G hCN
 have D:DutyC K mg cs CN:=⟨PySem.W.mg_of X G hCF,PySem.W.mg_of X G hCL,PySem.W.mg_of X G hCC,PySem.W.mg_of X G hCB,fun i=>match i with | 0=>⟨mkCF,oiCF,kcCF⟩ | 1=>⟨mkCL,oiCL,kcCL⟩ | 2=>⟨mkCC,oiCC,kcCC⟩ | 3=>⟨mkCB,oiCB,kcCB⟩,mN,x1⟩
 have W:∀ k,∃ fdw,WordF l.prog w K mg base (k+1) cs fw fdw:=fun k=>⟨p4 _ _ _ _,fun i=>match i with | 0=>⟨pgCF,hdCF,poCF,saCF⟩ | 1=>⟨pgCL,hdCL,poCL,saCL⟩ | 2=>⟨pgCC,hdCC,poCC,saCC⟩ | 3=>⟨pgCB,hdCB,poCB,saCB⟩,fun i=>match i with | 0=>m_F | 1=>m_L | 2=>m_C | 3=>m_B,fun i=>match i with | 0=>ok_freeWord F_F | 1=>ok_followWord F_L | 2=>ok_cutWord F_C | 3=>ok_beatWord F_B,fun i=>match i with | 0=>b_F | 1=>b_L | 2=>b_C | 3=>b_B⟩
 obtain⟨_,W14⟩:=W 13
 obtain⟨_,W15⟩:=W 14
 obtain⟨_,W16⟩:=W 15
 have C:TabC K mg CT:=⟨⟨pgCT,hdCT,poCT,saCT⟩,PySem.W.mg_of X G hCT,nTS,nTH,nTN,nTD,nTP,nTT,nTW⟩
 have CGm:GamC K mg CG:=⟨⟨pgCG,hdCG,poCG,saCG⟩,PySem.W.mg_of X G hCG,nGT,nGU⟩
 have hM:∀ H,SqT K H aM (vS marks):=fun H=>.inr ⟨_,_,_,w2,rfl,rfl,fits3 5 (by decide),.cons ⟨_,rfl⟩ (.cons ⟨_,rfl⟩ (.cons ⟨_,rfl⟩ (.cons ⟨_,rfl⟩ (.cons ⟨_,rfl⟩ .nil))))⟩
 have FI:=ok_tab (k:=16) F_I C ⟨ok_marks (k:=15) F2 (PySem.W.mg_of X G w1) hM mN x1 mn_isinstance mn_str mn_len mn_tuple,b2,k2,m2⟩ ⟨ok_size F3 mg3 mg2 mN x1 mn_len,b3,k3,m3⟩ ⟨ok_seats F4 mN x1 mn_int,b4,k4,m4⟩ ⟨ok_ord F5 mg3 mN x1 mn_sorted mn_list mn_tuple,b5,k5,m5⟩ ⟨ok_dutyOf (k:=15) F1 D W15,b1,k1,m1⟩ W16
 have BG0:Binds K _ ["self","table","trump"] []:=fun s us hX hl=>match us,hl with | [_,_,_],_=>by first | exact .of_eq rfl | exact PySem.W.binds_K (fd:=PySem.W.fnOf "__init__" "Game.__init__" (defArgs sGamInit) (defBody sGamInit) (defScope sGamInit) (.ref dT) kV_G dc_G pm_G an_G cd_G ct_G) hX rfl w3 rfl rfl rfl
 have BG1:Binds K _ ["self","table","trump"] [.none]:=fun s us hX hl=>match us,(show us.length=2 from Nat.succ.inj ((List.length_append (as:=us) (bs:=[Value.none])).symm.trans hl)) with | [_,_],_=>by exact PySem.W.binds_K (fd:=PySem.W.fnOf "__init__" "Game.__init__" (defArgs sGamInit) (defBody sGamInit) (defScope sGamInit) (.ref dT) kV_G dc_G pm_G an_G cd_G ct_G) hX rfl w3 rfl rfl rfl
 have LO:∀ k,Lib l.prog w K mg base (k+1) "of_suit" ["hand","suit"] (spOfSuit K) f9 _:=fun k=>⟨ok_ofSuit F9 mg4 mg1,b9,k9,m9⟩
 have LL:∀ k,Lib l.prog w K mg base (k+2) "of_led_suit" ["hand","trick"] (spLed K) f10 _:=fun k=>⟨ok_led (k:=k+1) F10 (LO k) mg1,b10,k10,m10⟩
 have LF:∀ k,Lib l.prog w K mg base (k+3) "followed_or_cut" ["game","hand","trick"] (spFoc K CG) f11 _:=fun k=>⟨ok_foc (k:=k+2) F11 CGm (LL k) (LO (k+1)),b11,k11,m11⟩
 have FS:∀ k,FnOk l.prog w K mg base CX0 (k+2) f_S _ ["self","card","other"] (spStronger CT CG):=fun k=>ok_stronger (k:=k+1) F_S C CGm ⟨ok_later (k:=k) F6,b6,k6,m6⟩ m_O (ok_torder (k:=k) F_O C mn_list) b_O mg1
 have FV:∀ k,FnOk l.prog w K mg base CX0 (k+3) f_V _ pOver (spOver CT CG):=fun k=>ok_over (k:=k+2) F_V CGm m_S (FS k) b_S mg1
 have LGA:∀ k,Lib l.prog w K mg base (k+4) "goes_over_all" ["game","card","trick"] (spGoes K CT CG) f12 _:=fun k=>⟨ok_goes (k:=k+3) F12 CGm m_V (FV k) b_V mg1 mn_all,b12,k12,m12⟩
 have LH:∀ k,Lib l.prog w K mg base (k+1) "hand_of" ["cards"] (spHandOf K) f8 _:=fun k=>⟨ok_handOf F8,b8,k8,m8⟩
 have LI:∀ k,Lib l.prog w K mg base (k+1) "cards_in" ["hand"] (spCardsIn K) f7 _:=fun k=>⟨ok_cardsIn F7,b7,k7,m7⟩
 have MA:∃ d4,∀ k,AlF l.prog w K mg base CT CG (k+5) cs fl d4:=⟨p4 _ _ _ _,fun k=>⟨fun i=>match i with | 0=>⟨pgCF,hdCF,poCF,saCF⟩ | 1=>⟨pgCL,hdCL,poCL,saCL⟩ | 2=>⟨pgCC,hdCC,poCC,saCC⟩ | 3=>⟨pgCB,hdCB,poCB,saCB⟩,fun i=>match i with | 0=>m_AF | 1=>m_AL | 2=>m_AC | 3=>m_AB,fun i=>match i with | 0=>ok_freeAl F_AF | 1=>ok_followAl (k:=k+4) F_AL (LL (k+2)) | 2=>ok_cutAl (k:=k+4) F_AC (LF (k+1)) | 3=>ok_beatAl (k:=k+4) F_AB (LF (k+1)) (LH (k+3)) (LI (k+3)) (LGA k),fun i=>match i with | 0=>b_AF | 1=>b_AL | 2=>b_AC | 3=>b_AB⟩⟩
 obtain⟨_,MA⟩:=MA
 have LRd:∀ k,Lib l.prog w K mg base (k+1) "seat_round" ["game","lead","steps"] (spRound CT CG) f14 _:=fun k=>⟨ok_round F14 C CGm,b14,k14,m14⟩
 have LMn:∀ k,Lib l.prog w K mg base (k+1) "many" ["hand"] (spMany K) f13 _:=fun k=>⟨ok_many F13,b13,k13,m13⟩
 have LLf:∀ k,Lib l.prog w K mg base (k+2) "left" ["place"] (spLeft K) f17 _:=fun k=>⟨ok_left (k:=k+1) F17 (LMn k) mn_max,b17,k17,m17⟩
 have LTa:∀ k,Lib l.prog w K mg base (k+3) "turn_at" ["game","place"] (spTurnAt CT CG) f15 _:=fun k=>⟨ok_turnAt (k:=k+2) F15 (LLf k) (LRd (k+1)) mn_len,b15,k15,m15⟩
 have FM:FnOk l.prog w K mg base CX0 16 f_M _ ["self","hand","trick"] (spMay K CT CG):=ok_may (k:=15) F_M C CGm ⟨ok_dutyOf (k:=14) F1 D W14,b1,k1,m1⟩ m_D (ok_tduty (k:=14) F_D C) b_D (MA 10) mn_len
 have LMo:Lib l.prog w K mg base 17 "moves" ["game","place"] (spMoves CT CG) f16 _:=⟨ok_moves (k:=16) F16 CGm (LTa 13) (LI 15) m_M FM b_M,b16,k16,m16⟩
 have LX:∀ k,Lib l.prog w K mg base (k+1) "_law_mixed" pMixed (spMixed K) f18 _:=fun k=>⟨ok_mixed F18 mn_len,b18,k18,m18⟩
 have LOr:∀ k,Lib l.prog w K mg base (k+2) "_law_order" pOrder (spOrder K) f19 _:=fun k=>⟨ok_order (k:=k+1) F19 (LX k) mn_range mn_sorted,b19,k19,m19⟩
 have LRu:∀ k,Lib l.prog w K mg base (k+3) "_law_rules" ["_law_script","_law_most"] (spRules K) f20 _:=fun k=>⟨ok_rules (k:=k+2) F20 (LX (k+1)) (LOr k) mn_max mn_min,b20,k20,m20⟩
 have LTx:∀ k,Lib l.prog w K mg base (k+1) "_law_text" ["_law_rules_here"] spText f21 _:=fun k=>⟨ok_text F21 mn_str mn_len,b21,k21,m21⟩
 have LRk:∀ k,Lib l.prog w K mg base (k+1) "_law_strength" pRank spRank f23 _:=fun k=>⟨ok_rank F23,b23,k23,m23⟩
 have LMy:∀ k,Lib l.prog w K mg base (k+2) "_law_may" pLMay spLMay f24 _:=fun k=>⟨ok_lmay (k:=k+1) F24 (LRk k) mn_list mn_max,b24,k24,m24⟩
 have LTu:∀ k,Lib l.prog w K mg base (k+1) "_law_turn" pLTurn spLTurn f25 _:=fun k=>⟨ok_lturn F25 mn_len,b25,k25,m25⟩
 have LPu:∀ k,Lib l.prog w K mg base (k+2) "_law_put" pLPut spLPut f26 _:=fun k=>⟨ok_lput (k:=k+1) F26 (LTu k) (LRk k) mn_len mn_range mn_max,b26,k26,m26⟩
 have LPc:∀ k,Lib l.prog w K mg base (k+1) "_law_place" ["_law_state_here"] (spLPlace K) f28 _:=fun k=>⟨ok_lplace F28 mn_tuple mn_sum,b28,k28,m28⟩
 have LSt:∀ k,Lib l.prog w K mg base (k+3) "_law_state" pLState (spLState K) f27 _:=fun k=>⟨ok_lstate (k:=k+2) F27 (LX (k+1)) (LTu (k+1)) (LMy k) (LPu k) mn_len mn_range mn_min mn_sorted,b27,k27,m27⟩
 have LGm:Lib l.prog w K mg base 19 "_law_game" pGame (spGame CT CG) f22 _:=⟨ok_game (k:=17) F22 CGm ⟨mkCG,a_G,i_G,kcCG⟩ (ok_gam (k:=16) F_G CGm) BG0 BG1,b22,k22,m22⟩
 have LWh:∀ k,Lib l.prog w K mg base (k+1) "_law_whole" ["_law_found"] (spWhole K) f34 _:=fun k=>⟨ok_whole F34 mn_isinstance mn_int mn_bool,b34,k34,m34⟩
 have LGs:Lib l.prog w K mg base 20 "_law_games" pGames (spGames K CT CG) f29 _:=⟨ok_games (k:=18) F29 C (LX 18) (LTx 18) LGm ⟨mkCT,a_I,i_I,kcCT⟩ (FI.mono (by decide)) b_I,b29,k29,m29⟩
 have LSp:∀ k,Lib l.prog w K mg base (k+2) "_law_steps" pSteps (spSteps K) f33 _:=fun k=>⟨ok_steps (k:=k+1) F33 (LX k) mn_max,b33,k33,m33⟩
 have LOt:∀ k,Lib l.prog w K mg base (k+4) "cards_of_others" ["game","place"] (spOth CT CG) f30 _:=fun k=>⟨ok_oth (k:=k+3) F30 (LTa k) (LI (k+2)) mn_list mn_enumerate,b30,k30,m30⟩
 have LGr:∀ k,Lib l.prog w K mg base (k+2) "groups_of_suit" pGrp (spGrp CT CG) f31 _:=fun k=>⟨ok_grp (k:=k+1) F31 C CGm m_O (ok_torder (k:=k) F_O C mn_list) b_O mg1 mn_sorted mn_len,b31,k31,m31⟩
 have LAl:Lib l.prog w K mg base 18 "alike" ["game","place"] (spAlike CT CG) f32 _:=⟨ok_alike (k:=17) F32 C CGm LMo (LOt 13) (LGr 15) mn_range mn_sorted,b32,k32,m32⟩
 have LBt:∀ k,Lib l.prog w K mg base (k+2) "_law_between" pBtw spBtw f35 _:=fun k=>⟨ok_btw (k:=k+1) F35 (LTu k) mn_list mn_range mn_len mn_int mn_sorted,b35,k35,m35⟩
 have LRg:∀ k,Lib l.prog w K mg base (k+3) "_law_right" pRight spRight f36 _:=fun k=>⟨ok_right (k:=k+2) F36 (LTu (k+1)) (LMy k) (LWh (k+1)) (LBt k) mn_isinstance mn_list mn_range mn_len mn_sorted mn_all,b36,k36,m36⟩
 exact ok_law (k:=20) F37 (LRu 17) (LSt 17) (LSp 18) LGs (LPc 19) (LAl.mono (by decide)) (LRg 17) mn_list
theorem walk{l:PySem.W.OpenLaw}{q:Program}{loose:List Str}{XP:(Str→Option Value)→Heap→Prop}{YP:World→Heap→Prop}{d:DefRec}{K:Params→PySem.W.Frag}(hn:l.most=some 63)(hdf:d.params.defaults=[])
  (hY:∀(w:World) (h:Heap),YP w h→(K w.params).In h)
  (F:∀(w:World) (mg:Str→Option Value) (fa:Addr) (h:Heap),(K w.params).In h→h.Ns mainGlobals mg→mg d.name=some (.ref fa) →
   ∃ fd:FuncData,(∀(s:Shared) (u:Value),BindsTo s fd ⟨[u],[]⟩ [("_law_script",u)])∧∀ base:Heap,(K w.params).In base→base.Ns mainGlobals mg→FnOk l.prog w (K w.params) mg base CX0 21 fa fd ["_law_script"] (spLaw (K w.params))) :
  PySem.W.WalkO q loose XP YP l.row.toRowW d [] (fun f vs=>PySem.call f vs):=
 L2.walk_of (n:=63) (k:=21) (x:="_law_script") (CX:=fun _=>CX0) (sp:=fun w=>spLaw (K w.params)) hn (by decide) hdf ⟨rfl,by decide,by decide⟩ hY F (fun _ _ a ns hl _ hS=>⟨a,ns,rfl,hS,hl,fun _=>rfl⟩) fun _ _ _ _ _ z=>z
end My
namespace PySem.W.Fast
def tw7125852465089772868:=0
def tw3277677000804885715:=0
def tw2946089629590891335:=0
def tw4211578308935740332:=0
def tw15024215151296663764:=0
def tw5901186614781053053:=0
def tw16740937115569286202:=0
def tw6771359591497511650:=0
def tw5508466927492546637:=0
def tw6754175805402097823:=0
def tw11620869605909808460:=0
def tw16753407139826335488:=0
def tw1767420610193464128:=0
def tw7429299841482474219:=0
def tw4754731093733732976:=0
def tw2260978041800674213:=0
def tw5167101464284377688:=0
def tw4638924313864818963:=0
def tw11489728035475052157:=0
def tw10324623784304793866:=0
def tw16703523147828389484:=0
def tw4469062480294838278:=0
def tw14624649572013064335:=0
def tw10868953086945750290:=0
def tw4294974424021584772:=0
def tw16015874383665342769:=0
def tw16001742265876665964:=0
def tw17985501129306613686:=0
def tw9554455519183514203:=0
def tw5628817768594615810:=0
def tw4543777970088773200:=0
def tw781566627869972557:=0
def tw5440573669263621901:=0
def tw11605079479397977384:=0
def tw15963026587664962910:=0
def tw4503375244161102028:=0
def tw2159110297100980539:=0
def tw2476335624480473811:=0
def tw14643076411441449664:=0
def tw18073852757948766781:=0
def tw5395551347120322646:=0
def tw17356412210194019870:=0
def tw17518489682463390315:=0
def tw4539306252433606690:=0
def tw18091804610775925473:=0
def tw16787825606574892829:=0
def tw727401464675066945:=0
def tw9394070449067046211:=0
def tw10524652111272845498:=0
def tw1675410048412471572:=0
def tw2224745342256318217:=0
def tw14869165251276594269:=0
def tw27383044566143987:=0
def tw6736274894670943576:=0
def tw14135841683371224378:=0
def tw17630686477285140500:=0
def tw78392378443227826:=0
def tw5353595038775946121:=0
def tw13774270066606232202:=0
def tw5561476654826688372:=0
def tw12675524782937621411:=0
def tw18416933525448133885:=0
def tw5858830454896888127:=0
def tw5124155795214615839:=0
def tw8437706892624504553:=0
def tw5269631305075685379:=0
def tw9076569623521675710:=0
def tw17785405575533735186:=0
def tw1065904370823693641:=0
def tw10477380663337417688:=0
def tw4646490518385603066:=0
def tw8154407657145851484:=0
def tw6562749987692089422:=0
def tw4463861991851982177:=0
def tw15116857714074241632:=0
def tw1022087612285440406:=0
def tw4123194142568268925:=0
def tw13946416382816430896:=0
def tw16936266357160159902:=0
def tw11381037622503172530:=0
def tw13841659600845613142:=0
def tw11296843659993989984:=0
def tw5509665322178706327:=0
def tw2619427591980631654:=0
def tw15559448715475751968:=0
def tw3044391456113126227:=0
def tw9680263056107719680:=0
def tw11020615768147868229:=0
def tw12499991046300257325:=0
def tw7348644768522587600:=0
def tw16732197751004249061:=0
def tw16660606151373726285:=0
def tw13856360157335670242:=0
def tw13096080508557401643:=0
def tw3882090861191575963:=0
def tw16595133692162417501:=0
def tw16602517216142145846:=0
def tw7054769744195399909:=0
def tw9678882214682964394:=0
def tw12108112327791447247:=0
def tw981688533133137698:=0
def tw17006308736773419690:=0
def tw10741869036861715337:=0
def tw12587574202070494844:=0
def tw5366205077396501555:=0
def tw16393332684379385578:=0
def tw15418024615947497357:=0
def tw15529639412321484215:=0
def tw6778900780522387669:=0
def tw17391144570792839680:=0
def tw16839178411895132238:=0
def tw2119751621730056309:=0
def tw7595259465974812068:=0
def tw9759118633152056585:=0
def tw2800144850748988839:=0
def tw6751581976747635091:=0
def tw3310132742912302020:=0
def tw12207280157887271164:=0
def tw17122844522739179701:=0
def tw3749930795913528040:=0
def tw13574374770441301095:=0
def tw1246084740188016919:=0
def tw6019456111214202458:=0
def tw4759507410518585594:=0
def tw18036651707172237725:=0
def tw1813608044871244132:=0
def tw2179328337334844491:=0
def tw16916912006678125500:=0
def tw17792225163033103573:=0
def tw17568281350930504125:=0
def tw4674283973056660230:=0
def tw7987177748627214136:=0
def tw14533404488526757425:=0
def tw3438695003717610652:=0
def tw9785033766078658990:=0
def tw5207715949385451492:=0
def tw1119845290890093787:=0
def tw1368653708832917045:=0
def tw13997679421399529114:=0
def tw9962616463945975933:=0
def tw5662843717221479746:=0
def tw14591531711703781502:=0
def tw7790313598442095879:=0
def tw2345605131660786973:=0
def tw17003880662925758252:=0
def tw571471953985798637:=0
def tw998732357196385015:=0
def tw1487086841762746024:=0
def tw3414318476436077251:=0
def tw9965564077556240544:=0
def tw3925054425764726452:=0
def tw3028211336150119540:=0
def tw1347828765013548273:=0
def tw3366456050089589266:=0
def tw17341803239766871947:=0
def tw15100267025273046234:=0
def tw7116065550604593758:=0
def tw9776741925557311973:=0
def tw13152700599527020851:=0
def tw6482732138746227053:=0
def tw530548098042595886:=0
def tw1433295853741500105:=0
def tw13295979619476171556:=0
def tw13827252360928463828:=0
def tw17158894246896529886:=0
def tw10003424986142925477:=0
def tw11617166381652092437:=0
def tw17172753444320133213:=0
def tw9633864583711850778:=0
def tw16897306359107781732:=0
def tw13212788246788951473:=0
def tw1141441389216116588:=0
def tw11440580014410093060:=0
def tw17335009822112865348:=0
def tw14324543166288713525:=0
def tw18098225951307595296:=0
def tw12096576764915011536:=0
def tw17808135808163268421:=0
def tw9487809172708953648:=0
def tw17846109695145404963:=0
def tw5446553004616029145:=0
def tw12162278240301439305:=0
def tw12460029606358248354:=0
def tw8317999075597203630:=0
def tw18197099915864818229:=0
def tw7496113076610089626:=0
def tw18162151288573561980:=0
def tw11379986383363466035:=0
def tw5239171875429197176:=0
def tw384451911636060902:=0
def tw17459621697044231698:=0
def tw2582828165385060267:=0
def tw13114675928027612557:=0
def tw12226920466237518897:=0
def tw5063263298719759052:=0
def tw11675791104020286359:=0
def tw2834161520262272880:=0
def tw15366991700262958818:=0
def tw2971780904198278432:=0
def tw16994637490432176802:=0
def tw12300682455975159164:=0
def tw2756764971829670208:=0
def tw18143306244941194413:=0
def tw11668142735463072247:=0
def tw3175553568658822455:=0
def tw5775173705682390823:=0
def tw5969234879766812566:=0
def tw13026368215181204965:=0
def tw917062531518801734:=0
def tw4936446870082909683:=0
def tw7212745045012189099:=0
def tw8523309251816673543:=0
def tw6886653265374381493:=0
def tw5450492381774467069:=0
def tw15805898284851081961:=0
def tw4591203860580010905:=0
def tw9129024763130295827:=0
def tw14709346204730611553:=0
def tw13460144749747785748:=0
def tw2711129947546215432:=0
def tw161655767153850828:=0
def tw11050435134912835932:=0
def tw9668779116488873188:=0
def tw9188777967594158591:=0
def tw12534605779728041015:=0
def tw8632464042810994649:=0
def tw2171612946367279471:=0
def tw3705371016773865341:=0
def tw5183859535215837532:=0
def tw13087370740992389403:=0
def tw11311569163672370943:=0
def tw3660328004881940051:=0
def tw4493020248639907870:=0
def tw8594446003269578988:=0
def tw9201452075183820021:=0
def tw10850628993227861301:=0
def tw15852352594205229367:=0
def tw11839117818901948271:=0
def tw8336209352880466560:=0
def tw17220566988412361456:=0
def tw6708596270103906009:=0
def tw14050759786838732745:=0
def tw16024772746727487968:=0
def tw6004318865695575756:=0
def tw3734534771508966234:=0
def tw358846194184311632:=0
def tw9029721412580873614:=0
def tw4289894660694351716:=0
def tw6936221360423576894:=0
def tw1435890711947117400:=0
def tw5730476070729088067:=0
def tw13392431646947165559:=0
def tw14885282921929265940:=0
def tw6342496001169752852:=0
def tw17435368143128963830:=0
def tw12829025817756692394:=0
def tw4327456069022109488:=0
def tw14684134703503965085:=0
def tw10236201073737100417:=0
def tw13564322272262209685:=0
def tw604732452994971936:=0
def tw14545927166655581595:=0
def tw2062977105452740747:=0
def tw840070863753521648:=0
def tw7513124205134827836:=0
def tw8195676222439478965:=0
def tw11714587834354237260:=0
def tw12881527468688110452:=0
def tw10780991954640774915:=0
def tw2768757774689109143:=0
def tw3022803941068945653:=0
def tw17314345655638156714:=0
def tw16027741328008020222:=0
def tw11623451284226246279:=0
def tw14280036806430146194:=0
def tw14675713558925865069:=0
def tw14269634255752526556:=0
def tw16226313823167228198:=0
def tw3016698641050752201:=0
def tw1423945549925905555:=0
def tw9956422311163933897:=0
def tw8274253104387551864:=0
def tw7325964826757534227:=0
def tw10121846881278350454:=0
def tw8105970745780567572:=0
def tw3397618185075371077:=0
def tw2163141076391888387:=0
def tw78292194396019103:=0
def tw14996879867634412036:=0
def tw14969398749538651477:=0
def tw3449168389997911572:=0
def tw11587291755806070185:=0
def tw11582357808902478002:=0
def tw11283688691987037134:=0
def tw12506416979403169878:=0
def tw3746594373690474578:=0
def tw2549966164253824241:=0
def tw17050344457940353926:=0
def tw935540549383782318:=0
def tw4107855863986743989:=0
def tw17954663711323374651:=0
def tw6276204980450693252:=0
def tw18237516018578658964:=0
def tw8630724230262695540:=0
def tw9332858554503495848:=0
def tw875292831474609731:=0
def tw3397626740359271108:=0
def tw5110057541555059263:=0
def tw231974517582966136:=0
def tw7748715120587975687:=0
def tw794545978443360530:=0
def tw6156573899494433987:=0
def tw7392454171500744850:=0
def tw13257505223514469652:=0
def tw11741311497644702190:=0
def tw11523548985129054218:=0
def tw1416349661617108131:=0
def tw3819768657188460639:=0
def tw5038750436932467360:=0
def tw6497366573485422818:=0
def tw12793072942193825356:=0
def tw6320743297531248610:=0
def tw6353558409797711130:=0
def tw4613312814736454027:=0
def tw7150089219448454209:=0
def tw5059826648709692314:=0
def tw15996228081168977963:=0
def tw14112545191507722694:=0
def tw11258141135925792278:=0
def tw472301383019414740:=0
def tw3979859728805627764:=0
def tw3256252530943249702:=0
def tw7708978555450269380:=0
def tw1401463312822897206:=0
def tw330309155049085809:=0
def tw4092727941534204833:=0
def tw16576110862437283209:=0
def tw6229185534228786477:=0
def tw13490661688759186466:=0
def tw2273145397840127560:=0
def tw17426196447311365507:=0
def tw14998142702648614019:=0
def tw7841490356633283038:=0
def tw14627145770807149507:=0
def tw960549614060524612:=0
def tw5850225508396164328:=0
def tw4395135275190897150:=0
def tw6980125020615609169:=0
def tw7018179287076185144:=0
def tw12778411677276856826:=0
def tw15910554714230555947:=0
def tw14575995378089469172:=0
def tw9280904218372322163:=0
def tw6710072030948020459:=0
def tw11819034474648339622:=0
def tw1887136269985361576:=0
def tw12810631955568679869:=0
def tw11161877461572286594:=0
def tw15334544164192771618:=0
def tw1081800211881730483:=0
def tw16145418743714227708:=0
def tw8475964759713358450:=0
def tw13783473663817226953:=0
def tw1084535434529058903:=0
def tw1869947594878318318:=0
def tw11720675105659710041:=0
def tw4804946173169564457:=0
def tw16990129857700779271:=0
def tw2810340309375069851:=0
def tw9042397345560069020:=0
def tw14656134139702453549:=0
def tw12190753578594916803:=0
def tw5695393953100669916:=0
def tw9336341998573566019:=0
def tw1892725378677273793:=0
def tw14834303675803547028:=0
def tw11388562163178339875:=0
def tw13575516897841557566:=0
def tw14644390628902249239:=0
def tw12268747893818243359:=0
def tw6508070567648599492:=0
def tw10218710736794440481:=0
def tw5656140176318521536:=0
def tw7331960410376585750:=0
def tw9309773646520181623:=0
def tw1402699832619657996:=0
def tw5824114325088976597:=0
def tw8680228553896912429:=0
def tw12047618173736451901:=0
def tw12929403436423700805:=0
def tw11425551005593939983:=0
def tw11743416885817201836:=0
def tw7371463561902302457:=0
def tw15698033627525715700:=0
def tw18136554935473609177:=0
def tw13671547365308382101:=0
def tw13637935847661368366:=0
def tw10174772073952635796:=0
def tw5894255854076166055:=0
def tw3154927052942326875:=0
def tw16740638264839486838:=0
def tw6056846823841812471:=0
def tw4755951777337899212:=0
def tw10893950830234141969:=0
def tw14020377579191495452:=0
def tw7880709283112194287:=0
def tw10298365818001655586:=0
def tw1277187920043819541:=0
def tw14142026183316693359:=0
def tw14613797283241669420:=0
def tw17966040618344393165:=0
def tw15251509367674229781:=0
def tw5962993041046062083:=0
def tw5728671997405849833:=0
def tw12917873976777873893:=0
def tw18064401140869466883:=0
def tw14569178919223139805:=0
def tw14811398671242656470:=0
def tw6342650020291763142:=0
def tw12205792258688983588:=0
def tw7482662287198485384:=0
def tw11483327531543590775:=0
def tw15444115159734516277:=0
def tw15594101439064214307:=0
def tw9405661601039455015:=0
def tw15996465964284257159:=0
def tw9186768267181798288:=0
def tw16956538448800315138:=0
def tw18407088103243625354:=0
def tw5337874304687881615:=0
def tw11854564551335566467:=0
def tw11293397064155626656:=0
def tw9590628540863142655:=0
def tw14525260386042027435:=0
def tw18037524162605785385:=0
def tw5734288796929605162:=0
def tw4495068160347754552:=0
def tw13435001417220202521:=0
def tw4234179701276228275:=0
def tw622625908201364397:=0
def tw14910519273378328399:=0
def tw4289624204291369660:=0
def tw2670057304273603112:=0
def tw9208390320224524496:=0
def tw1468512670535671102:=0
def tw2481895706336470158:=0
def tw7185566096005285708:=0
def tw4503069400560276538:=0
def tw1203995811487521013:=0
def tw648697192979569312:=0
def tw14322668994744237916:=0
def tw16306483040022830209:=0
def tw8271591332102299424:=0
def tw13923891616240837952:=0
def tw1710289688868837768:=0
def tw5225861246209184720:=0
def tw5970155053119842734:=0
def tw16292898946967644688:=0
def tw4213420996785604631:=0
def tw894955405944762742:=0
def tw1123650209975254595:=0
def tw12653110324896646667:=0
def tw15596955206940832274:=0
def tw4605301790094843470:=0
def tw77809255270395089:=0
def tw5238679255247413256:=0
def tw12441832517950260312:=0
def tw17381193988600404885:=0
def tw7278214813012031757:=0
def tw15084859307639509317:=0
def tw5579248254776286718:=0
def tw9405804711745574610:=0
def tw17745845837307480666:=0
def tw14573606555158215054:=0
end PySem.W.Fast
open PySem PySem.W PyProof.Rows
set_option maxRecDepth 100000 in
set_option maxHeartbeats 0 in
theorem PySem.Challenge.cw_trickproof_k32_alike_moves_holds : PySem.Challenge.rw_trickproof_k32_alike_moves.Holds := by
 w_on;o_law;k_head;(case hw=>w_witness2)
 k_fill
 refine My.walk (l:=PySem.Challenge.rw_trickproof_k32_alike_moves) rfl rfl (fun w h Y=>PySem.W.kIn_of Y) ?F
 case F=>
  intro w mg fa h KX G hmg
  refine' My.all_mk KX G hmg ?_ ?_ ?_ ?_ ?_ ?_ ?_ ?_ ?_ ?_ ?_ ?_ ?_ ?_ ?_ ?_ ?_ ?_ ?_ ?_ ?_ ?_ ?_ ?_ ?_ ?_ ?_ ?_ ?_ ?_ ?_ ?_ ?_ ?_ ?_ ?_ ?_ ?_ ?_ ?_ ?_ ?_ ?_ ?_ ?_ ?_ ?_ ?_ ?_ ?_ ?_ ?_ ?_ ?_ ?_ ?_ ?_ ?_ ?_ ?_ ?_ ?_ ?_ ?_ ?_ ?_ ?_ ?_ ?_ ?_ ?_ ?_ ?_ ?_ ?_ ?_ ?_ ?_ ?_ ?_ ?_ ?_ ?_ ?_ ?_ ?_ ?_ ?_ ?_ ?_ ?_ ?_ ?_ ?_ ?_ ?_ ?_ ?_ ?_ ?_ ?_ ?_ ?_ ?_ ?_ ?_ ?_ ?_ ?_ ?_ ?_ ?_ ?_ ?_ ?_ ?_ ?_ ?_ ?_ ?_ ?_ ?_ ?_ ?_ ?_ ?_ ?_ ?_ ?_ ?_ ?_ ?_ ?_ ?_ ?_ ?_ ?_ ?_ ?_ ?_ ?_ ?_ ?_ ?_ ?_ ?_ ?_ ?_ ?_ ?_ ?_ ?_ ?_ ?_ ?_ ?_ ?_ ?_ ?_ ?_ ?_ ?_ ?_ ?_ ?_ ?_ ?_ ?_ ?_ ?_ ?_ ?_ ?_ ?_ ?_ ?_ ?_ ?_ ?_ ?_ ?_ ?_ ?_ ?_ ?_ ?_ ?_ ?_ ?_ ?_ ?_ ?_ ?_ ?_ ?_ ?_ ?_ ?_ ?_ ?_ ?_ ?x1
  rotate_left 145
  iterate 151 k_is
  iterate 50 (refine' L2.fun_mk ?_ ?_ ?_;rotate_left 9;iterate 3 k_is)
  (case x1=>k_exc)
#print axioms PySem.Challenge.cw_trickproof_k32_alike_moves_holds
