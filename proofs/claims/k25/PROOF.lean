import PyProof.Rows.All
import Wide.All
import OpenK.AllK
import Wide.FinOn
import Lean
import PyProof.EqAt
import PyProof.EqKinds
import PyProof.TupleCall
import PyProof.NeKinds
import PyProof.ListStr
import PyProof.Rows.SortStr
import KE.KIntText
import PySem.Challenge.RW_trickproof_k25_cards_refused
set_option Elab.async false
set_option linter.all false
set_option maxRecDepth 100000
namespace L2
open PySem PySem.Spec PyProof.Rows
abbrev _root_.Js:=@PyProof.Rows.boot_isinstance
abbrev _root_.Y6:=@PyProof.Rows.boot_tuple
abbrev _root_.Ya:=@PyProof.Rows.boot_list
abbrev _root_.U2:=@PyProof.Rows.boot_int
abbrev _root_.Ja:=@PySem.F.plainAttrs_list
abbrev _root_.Jp:=@PySem.F.slot_list_append
abbrev _root_.Jo:=@PySem.F.type_list_append
abbrev _root_.Z5:=@PySem.boot_len
abbrev _root_.Zb:=@List.getElem?_eq_getElem
abbrev _root_.Zk:=@List.getD_eq_getElem?_getD
abbrev _root_.Zm:=@List.getElem?_map
abbrev _root_.Ym:=@List.getElem?_append_left
abbrev _root_.Yh:=@List.getElem?_append_right
abbrev _root_.Zt:=@List.getElem?_eq_some_iff
abbrev _root_.Zr:=@List.mem_of_getElem?
abbrev _root_.Zx:=@List.mem_cons_of_mem
abbrev _root_.Zw:=@List.mem_cons_self
abbrev _root_.Zi:=@List.length_map
abbrev _root_.Z3:=@List.length_append
abbrev _root_.J4:=@List.length_range
abbrev _root_.Jk:=@List.length_cons
abbrev _root_.J3:=@List.map_append
abbrev _root_.Z8:=@List.map_map
abbrev _root_.Z2:=@List.mem_map
abbrev _root_.Yt:=@List.mem_append
abbrev _root_.Jt:=@List.mem_singleton
abbrev _root_.Zn:=@Option.some.inj
abbrev _root_.Zz:=@Bool.false_ne_true
abbrev _root_.Zv:=@Int.toNat_natCast
abbrev _root_.Zd:=@decide_eq_false
abbrev _root_.Zf:=@decide_eq_true
abbrev _root_.Ze:=@Heap.get?_push_of_some
abbrev _root_.Zs:=@Heap.lt_size
abbrev _root_.Zc:=@wpAny_bind
abbrev _root_.Jm:=@List.mem_range
abbrev _root_.Ux:=@List.length_set
abbrev _root_.Z1:=@Nat.lt_of_lt_of_le
abbrev _root_.J2:=@Nat.le_of_lt
abbrev _root_.Jj:=@Nat.lt_of_le_of_lt
abbrev _root_.Yb:=@List.append_nil
abbrev _root_.Jv:=@List.mem_iff_getElem
abbrev _root_.Xr:=@List.ext_getElem?
abbrev _root_.Qs:=@List.append_assoc
abbrev _root_.Jx:=@of_decide_eq_true
abbrev _root_.Yy:=@List.getElem_mem
abbrev _root_.Yv:=@List.not_mem_nil
abbrev _root_.Yz:=@Int.emod_nonneg
abbrev _root_.Yi:=@Int.emod_lt_of_pos
abbrev _root_.Jz:=@List.map_congr_left
abbrev Xs:=Sum Int Str
def Mq:Xs→Value→Bool
 | .inl k,v=>Value.isInt k v
 | .inr x,v=>Value.isStrOf x v
def Zp5(w:World):Xs→Int
 | .inl k=>hashInt k
 | .inr x=>hashStr w x
theorem Uj:∀{k:Xs} {v:Value},Mq k v=true→(∃ i t,k=Sum.inl i∧v=Value.int i t)∨(∃ x t,k=Sum.inr x∧v=Value.str x t)
 | .inl i,v,h=>by
  obtain⟨t,e⟩:=Value.isInt_shape (k:=i) (v:=v) h;exact .inl ⟨i,t,rfl,e⟩
 | .inr x,v,h=>by
  obtain⟨t,e⟩:=Value.isStrOf_shape (x:=x) (v:=v) h;exact .inr ⟨x,t,rfl,e⟩
theorem Zd1(i:Int)(t:Tok):Mq (.inl i) (.int i t)=true:=by simp [Mq,Value.isInt]
theorem Zd0(x:Str)(t:Tok):Mq (.inr x) (.str x t)=true:=by simp [Mq,Value.isStrOf]
theorem Zm5(a b:Int):decide ((Sum.inl a:Xs)=Sum.inl b)=(a == b):=by
 by_cases e:a=b
 ·subst e;simp
 ·have h:¬ (Sum.inl a:Xs)=Sum.inl b:=fun q=>e (Sum.inl.inj q)
  rw[Zd h];exact(beq_eq_false_iff_ne.mpr e).symm
theorem Zm2(a b:Str):decide ((Sum.inr a:Xs)=Sum.inr b)=decide (a=b):=by
 by_cases e:a=b
 ·subst e;simp
 ·have h:¬ (Sum.inr a:Xs)=Sum.inr b:=fun q=>e (Sum.inr.inj q)
  rw[Zd h,Zd e]
theorem Zm4(a:Int)(b:Str):decide ((Sum.inl a:Xs)=Sum.inr b)=false:=Zd (fun q=>nomatch q)
theorem Zm3(a:Str)(b:Int):decide ((Sum.inr a:Xs)=Sum.inl b)=false:=Zd (fun q=>nomatch q)
def Ul(prog:Program)(w:World):PySem.KeyKind prog w Xs where
 is:=Mq
 hash:=Zp5 w
 inj:=fun v a b ha hb=>by
  rcases Uj ha with⟨i,t,rfl,rfl⟩ | ⟨x,t,rfl,rfl⟩
  ·rcases Uj hb with⟨j,u,rfl,e⟩ | ⟨y,u,rfl,e⟩
   ·injection e with e1 _;rw[e1]
   ·exact nomatch e
  ·rcases Uj hb with⟨j,u,rfl,e⟩ | ⟨y,u,rfl,e⟩
   ·exact nomatch e
   ·injection e with e1 _;rw[e1]
 byValue:=fun k v h=>by
  rcases Uj h with⟨i,t,rfl,rfl⟩ | ⟨x,t,rfl,rfl⟩<;>rfl
 pyHash:=fun hv h=>by
  rcases Uj hv with⟨i,t,rfl,rfl⟩ | ⟨x,t,rfl,rfl⟩
  ·exact wpAny_pyHash_int h
  ·exact wpAny_pyHash_str h
 eqBool:=fun hu hv h=>by
  rcases Uj hu with⟨i,t,rfl,rfl⟩ | ⟨x,t,rfl,rfl⟩
  ·rcases Uj hv with⟨j,u,rfl,rfl⟩ | ⟨y,u,rfl,rfl⟩
   ·rw[Zm5] at h;exact wpAny_eqBool_int h
   ·rw[Zm4] at h;exact SeqAt.EqAt.int_str i t y u _ _ _ _ h
  ·rcases Uj hv with⟨j,u,rfl,rfl⟩ | ⟨y,u,rfl,rfl⟩
   ·rw[Zm3] at h;exact SeqAt.EqAt.str_int x t j u _ _ _ _ h
   ·rw[Zm2] at h;exact wpAny_eqBool_str h
 «strs»:=fun k x t v h=>by
  rcases Uj h with⟨i,u,rfl,e⟩ | ⟨y,u,rfl,e⟩
  ·exact nomatch e
  ·injection e with e1 _
   subst e1;cases v<;>rfl
theorem Kb(prog:Program)(w:World)(i:Int)(t:Tok):(Ul prog w).is (.inl i) (.int i t)=true:=Zd1 i t
theorem Ka(prog:Program)(w:World)(x:Str)(t:Tok):(Ul prog w).is (.inr x) (.str x t)=true:=Zd0 x t
inductive V where
 | non | bl (b:Bool) | int (i:Int) | str (x:Str) | byt (b:Array UInt8) | flt (b:UInt64) | ref (a:Addr) | ty (n:String)
 deriving DecidableEq
def RelV:V→Value→Prop
 | .non,u=>u=Value.none
 | .bl b,u=>u=Value.bool b
 | .int i,u=>∃ t,u=Value.int i t
 | .str x,u=>∃ t,u=Value.str x t
 | .byt b,u=>∃ t,u=Value.bytes b t
 | .flt b,u=>∃ t,u=Value.float b t
 | .ref a,u=>u=Value.ref a
 | .ty n,u=>u=Value.type n
abbrev Vals:List V→List Value→Prop:=Paired RelV
theorem Vals.length{xs:List V}{us:List Value}(r:Vals xs us):xs.length=us.length:=Paired.length r
theorem Vals.get:∀{xs:List V} {us:List Value} {i:Nat} {x:V},Vals xs us→xs[i]? = some x→∃ u,us[i]? = some u∧RelV x u
 | _,_,_,_,.nil,e=>by simp at e
 | _,_,0,_,.cons r _,e=>by simp at e;subst e;exact⟨_,rfl,r⟩
 | _,_,i+1,x,.cons _ t,e=>by
  obtain⟨u,h1,h2⟩:=Vals.get (i:=i) (x:=x) t (by simpa using e);exact⟨u,by simpa using h1,h2⟩
theorem Vals.set{x:V}{u:Value}(r:RelV x u):∀{xs:List V} {us:List Value} (i:Nat),Vals xs us→Vals (xs.set i x) (us.set i u)
 | _,_,_,.nil=>.nil
 | _,_,0,.cons _ t=>.cons r t
 | _,_,i+1,.cons q t=>.cons q (Vals.set r i t)
theorem Vals.append:∀{xs ys:List V} {us ws:List Value},Vals xs us→Vals ys ws→Vals (xs++ys) (us++ws)
 | _,_,_,_,.nil,s=>s
 | _,_,_,_,.cons r t,s=>.cons r (Vals.append t s)
theorem Vals.take:∀{xs:List V} {us:List Value} (n:Nat),Vals xs us→Vals (xs.take n) (us.take n)
 | _,_,0,_=>.nil
 | _,_,_+1,.nil=>.nil
 | _,_,n+1,.cons r t=>.cons r (Vals.take n t)
theorem Vals.drop:∀{xs:List V} {us:List Value} (n:Nat),Vals xs us→Vals (xs.drop n) (us.drop n)
 | _,_,0,r=>r
 | _,_,_+1,.nil=>.nil
 | _,_,n+1,.cons _ t=>Vals.drop n t
def RelO:Option V→Option Value→Prop
 | some v,some u=>RelV v u
 | none,none=>True
 | _,_=>False
def KV{κ:Type}:List (κ×V)→List (κ×Value)→Prop:=Paired fun(p:κ×V) (q:κ×Value)=>p.1=q.1∧RelV p.2 q.2
def kV:Xs→V
 | .inl i=>.int i
 | .inr x=>.str x
inductive HO where
 | lst (xs:List V)
 | tup (xs:List V)
 | dK (kvs:List (Xs×V)) | dT (kvs:List (List Xs×V))
 | set (S:Int→Bool) (n:Nat)
 | ins (C dx:Addr) (fs:List (Str×V))
 | own (x:Addr)
 | xd (fs:List (Str×V))
 | met (f x:Addr)
 | rng (lo hi:Int)
 | frz (o:Obj) (u:HO)
 | tbl (ps:Array Value)
 | ext (φ:Heap→Prop)
abbrev Hp:=Addr→Option HO
def upd(H:Hp)(a:Addr)(o:HO):Hp:=fun b=>if b=a then some o else H b
theorem Zj{H:Hp}{a:Addr}{o:HO}:upd H a o a=some o:=by unfold upd;rw[if_pos rfl]
theorem Zu{H:Hp}{a b:Addr}{o:HO}(h:b≠a):upd H a o b=H b:=by unfold upd;rw[if_neg h]
theorem Uf{H:Hp}{a:Addr}{o u:HO}:upd (upd H a o) a u=upd H a u:=by
 funext b;unfold upd;split<;>rfl
theorem X3{H:Hp}{a b:Addr}{o u:HO}(h:H a=some o)(h':H b=some u)(d:o≠u):a≠b:=by
 intro e;subst e;rw[h] at h';exact d (Zn h')
theorem Jb{H:Hp}{a b:Addr}{o:HO}(h:H a=some o)(h':H b=none):a≠b:=by
 intro e;subst e;rw[h] at h';cases h'
section
variable(P:Program)(w:World)
def ObjOk(H:Hp)(h:Heap)(a:Addr):HO→Prop
 | .lst xs=>xs.length≤sizeLine∧∃(its:List Value) (n:Nat),Vals xs its∧h.get? a=some { cls:=.type "list",data:=.seq its.toArray n }
 | .tup xs=>xs.length≤sizeLine∧∃ its:List Value,Vals xs its∧IsTup h a its.toArray
 | .dK kvs=>kvs.length≤sizeLine∧(a == sysModules)=false∧∃ vs,KV kvs vs∧h.DictOf (Ul P w) a vs
 | .dT kvs=>kvs.length≤sizeLine∧(a == sysModules)=false∧∃ xs:List (List Xs×Addr×Value),
   Paired (fun(p:List Xs×V) (q:List Xs×Addr×Value)=>p.1=q.1∧H q.2.1=some (.tup (p.1.map kV))∧RelV p.2 q.2.2) kvs xs ∧
   ∃ o es ep,h.get? a=some o∧o.ExactDict∧o.data = .dict es ep∧es.toList=xs.map (entryOfKey (tupleKind (Ul P w)))∧(xs.map (·.1)).Nodup
 | .set S n=>h.SetOf (intKind P w) a S n
 | .ins C dx fs=>H dx=some (.own a)∧fs.length≤1000∧dx≠a∧h.get? a=some (W.instObj C dx) ∧
   ∃ mA,h.Ns1 dx mA∧(∀ f,RelO (fs.lookup f) (mA f))∧PySem.Within mA (fs.map (·.1))
 | .own _=>∃ o,h.get? a=some o
 | .xd fs=>∃ mA,h.Ns1 a mA∧∀ f,RelO (fs.lookup f) (mA f)
 | .rng lo hi=>∃ t u v,h.get? a=some { cls:=.type "range",data:=.fields #[.int lo t,.int hi u,.int 1 v] }
 | .frz o u=>h.get? a=some o∧ObjOk H h a u
 | .tbl ps=>h.get? a=some { cls:=.none,data:=.fields ps }
 | .met f x=>h.get? a=some (W.methodObj (.ref f) (.ref x))
 | .ext φ=>φ h∧(∃ o,h.get? a=some o)∧∀ h1 h2:Heap,φ h1→(∀ o,h1.get? a=some o→h2.get? a=some o)→φ h2
def HOk(H:Hp)(h:Heap):Prop:=∀ a o,H a=some o→ObjOk P w H h a o
end
section
variable{P:Program}{w:World}{H H':Hp}{h h':Heap}{a:Addr}{o:HO}
theorem ObjOk.lt(x:ObjOk P w H h a o):a < h.objs.size:=by
 cases o with
 | lst xs=>obtain⟨_,_,_,_,e⟩:=x;exact Zs e
 | tup xs=>obtain⟨_,_,_,p⟩:=x;exact p.lt
 | dK kvs=>obtain⟨_,_,_,_,o,_,_,e,_⟩:=x;exact Zs e
 | dT kvs=>obtain⟨_,_,_,_,o,_,_,e,_⟩:=x;exact Zs e
 | set S n=>obtain⟨o,_,_,_,e,_⟩:=x;exact Zs e
 | ins C dx fs=>obtain⟨_,_,_,e,_⟩:=x;exact Zs e
 | own y=>obtain⟨_,e⟩:=x;exact Zs e
 | xd fs=>obtain⟨_,⟨_,_,_,e,_⟩,_⟩:=x;exact Zs e
 | rng lo hi=>obtain⟨_,_,_,e⟩:=x;exact Zs e
 | frz ob u=>obtain⟨e,_⟩:=x;exact Zs e
 | tbl ps=>exact Zs (show h.get? a=some _ from x)
 | met f y=>exact Zs (show h.get? a=some _ from x)
 | ext φ=>obtain⟨_,⟨_,e⟩,_⟩:=x;exact Zs e
theorem Paired.mapP{α β:Type}{F G:α→β→Prop}:∀{l₁:List α} {l₂:List β},Paired F l₁ l₂→(∀ a b,F a b→G a b)→Paired G l₁ l₂
 | _,_,.nil,_=>.nil
 | _,_,.cons r t,f=>.cons (f _ _ r) (Paired.mapP t f)
theorem ObjOk.stay(x:ObjOk P w H h a o)(k:∀ b u,(b=a∨H b=some (.own a))→h.get? b=some u→h'.get? b=some u)
  (ho:∀ b,H b=some (.own a)→H' b=some (.own a)) (ht:∀ b xs,H b=some (.tup xs)→H' b=some (.tup xs)):ObjOk P w H' h' a o:=by
 induction o with
 | lst xs=>obtain⟨z,its,n,r,e⟩:=x;exact⟨z,its,n,r,k _ _ (.inl rfl) e⟩
 | tup xs=>obtain⟨z,its,r,ob,e,c⟩:=x;exact⟨z,its,r,ob,k _ _ (.inl rfl) e,c⟩
 | dK kvs=>obtain⟨z,y,vs,r,ob,es,ep,e,c⟩:=x;exact⟨z,y,vs,r,ob,es,ep,k _ _ (.inl rfl) e,c⟩
 | dT kvs=>
  obtain⟨z,y,xs,r,ob,es,ep,e,c⟩:=x;exact⟨z,y,xs,Paired.mapP r fun p q z=>⟨z.1,ht _ _ z.2.1,z.2.2⟩,ob,es,ep,k _ _ (.inl rfl) e,c⟩
 | set S n=>obtain⟨ob,es,ep,t,e,c⟩:=x;exact⟨ob,es,ep,t,k _ _ (.inl rfl) e,c⟩
 | ins C dx fs=>
  obtain⟨d,z,ne,e,mA,⟨od,es,ep,e2,c⟩,r⟩:=x;exact⟨ho _ d,z,ne,k _ _ (.inl rfl) e,mA,⟨od,es,ep,k _ _ (.inr d) e2,c⟩,r⟩
 | own y=>obtain⟨ob,e⟩:=x;exact⟨ob,k _ _ (.inl rfl) e⟩
 | xd fs=>obtain⟨mA,⟨od,es,ep,e,c⟩,r⟩:=x;exact⟨mA,⟨od,es,ep,k _ _ (.inl rfl) e,c⟩,r⟩
 | rng lo hi=>obtain⟨t,u,v,e⟩:=x;exact⟨t,u,v,k _ _ (.inl rfl) e⟩
 | frz ob u ih=>obtain⟨e,q⟩:=x;exact⟨k _ _ (.inl rfl) e,ih q⟩
 | tbl ps=>
  have e:h.get? a=some { cls:=.none,data:=.fields ps }:=x;show h'.get? a=some { cls:=.none,data:=.fields ps };exact k a _ (.inl rfl) e
 | met f y=>
  have e:h.get? a=some (W.methodObj (.ref f) (.ref y)):=x;show h'.get? a=some (W.methodObj (.ref f) (.ref y));exact k a _ (.inl rfl) e
 | ext φ=>obtain⟨p,⟨o,e⟩,st⟩:=x;exact⟨st _ _ p fun o q=>k _ _ (.inl rfl) q,⟨o,k _ _ (.inl rfl) e⟩,st⟩
theorem HOk.lt(x:HOk P w H h)(e:H a=some o):a < h.objs.size:=(x a o e).lt
theorem HOk.fresh(x:HOk P w H h)(e:h.objs.size≤a):H a=none:=by
 cases q:H a with
 | none=>rfl
 | some u=>exact absurd (Z1 (x.lt q) e) (Nat.lt_irrefl _)
theorem HOk.kept(x:HOk P w H h)(k:∀ b u,h.get? b=some u→h'.get? b=some u):HOk P w H h':=fun a o e=>
 (x a o e).stay (fun b u _ q=>k b u q) (fun _ q=>q) fun _ _ q=>q
theorem HOk.laid(x:HOk P w H h)(k:∀ b u,h.get? b=some u→h'.get? b=some u)(hp:h.objs.size≤a)(new:ObjOk P w (upd H a o) h' a o):HOk P w (upd H a o) h':=fun b u e=>by
 have hn:=x.fresh hp;by_cases hb:b=a
 ·subst hb;rw[Zj] at e;cases e;exact new
 ·rw[Zu hb] at e
  exact(x b u e).stay (fun c v _ q=>k c v q) (fun c q=>by rw[Zu (Jb q hn)];exact q) fun c xs q=>by rw[Zu (Jb q hn)];exact q
end
def Rd(H:Hp)(a:Addr)(u:HO):Prop:=H a=some u∨∃ o,H a=some (.frz o u)
theorem Rd.ok{P:Program}{w:World}{H:Hp}{h:Heap}{a:Addr}{u:HO}(r:Rd H a u)(x:HOk P w H h):ObjOk P w H h a u:=by
 rcases r with r | ⟨o,r⟩
 ·exact x a u r
 ·obtain⟨_,q⟩:=x a _ r
  exact q
def Mut:Option HO→Prop
 | some (.lst _)=>True
 | some (.dK _)=>True
 | some (.dT _)=>True
 | some (.set _ _)=>True
 | some (.ins _ _ _)=>True
 | some (.ext _)=>True
 | _=>False
section
variable{P:Program}{w:World}{H:Hp}{h h':Heap}{x e:Addr}{o':HO}
theorem HOk.write(ok:HOk P w H h)(mu:Mut (H x))(he:e=x∨H e=some (.own x))(k:∀ b u,b≠e→h.get? b=some u→h'.get? b=some u)(heo:∃ u,h'.get? e=some u)
  (new:ObjOk P w (upd H x o') h' x o'):HOk P w (upd H x o') h':=fun b u q=>by
 have nown:∀ c y,H c=some (.own y)→c≠x:=fun c y r z=>by subst z;rw[r] at mu;exact mu
 have ntup:∀ c xs,H c=some (.tup xs)→c≠x:=fun c xs r z=>by subst z;rw[r] at mu;exact mu
 by_cases hb:b=x
 ·subst hb;rw[Zj] at q;cases q;exact new
 ·rw[Zu hb] at q
  by_cases hbe:b=e
  ·have q':H b=some (.own x):=by
    rcases he with z | z
    ·exact absurd (hbe.trans z) hb
    ·rw[hbe];exact z
   rw[q] at q';cases q';obtain⟨v,hv⟩:=heo;exact⟨v,by rw[hbe];exact hv⟩
  ·refine(ok b u q).stay (fun c v hc r=>k c v ?_ r) (fun c r=>by rw[Zu (nown c b r)];exact r) fun c xs r=>by rw[Zu (ntup c xs r)];exact r
   rcases hc with rfl | hc
   ·exact hbe
   ·rintro rfl
    rcases he with z | z
    ·exact nown c b hc z
    ·rw[hc] at z;cases z;exact hb rfl
end
structure Un(fs ex:List Addr)(H H':Hp)(h h':Heap):Prop where
 keep:∀ b o,h.get? b=some o→H b=none→b∉fs→b∉ex→h'.get? b=some o
 slot:∀ b o,h.get? b=some o→H b=none→b∈fs→b∉ex→∃ sl,h'.get? b=some { o with slots:=sl }
 free:∀ b o,h.get? b=some o→H b=none→b∉ex→H' b=none
 there:∀ b o,h.get? b=some o→b∉ex→∃ o',h'.get? b=some o'
 tups:∀ b xs,H b=some (.tup xs)→H' b=some (.tup xs)
 frzs:∀ b o u,H b=some (.frz o u)→H' b=some (.frz o u)
 tbls:∀ b ps,H b=some (.tbl ps)→∃ more,H' b=some (.tbl (ps++more))
section
variable{fs fs' ex ex':List Addr}{H H1 H2:Hp}{h h1 h2 h':Heap}{a x e:Addr}{o:HO}
theorem Un.any(u:Un fs ex H H1 h h1){b:Addr}{ob:Obj}(q:h.get? b=some ob)(n:H b=none)(hx:b∉ex):∃ sl,h1.get? b=some { ob with slots:=sl }:=by
 by_cases hb:b∈fs
 ·exact u.slot b ob q n hb hx
 ·exact⟨ob.slots,u.keep b ob q n hb hx⟩
theorem Un.kept(k:∀ b u,h.get? b=some u→h'.get? b=some u):Un fs ex H H h h':=
 ⟨fun b ob q _ _ _=>k b ob q,fun b ob q _ _ _=>⟨ob.slots,k b ob q⟩,fun _ _ _ n _=>n,fun b ob q _=>⟨ob,k b ob q⟩,fun _ _ q=>q,fun _ _ _ q=>q,fun _ ps q=>⟨#[],by rw[q];simp⟩⟩
theorem Un.refl:Un fs ex H H h h:=Un.kept fun _ _ q=>q
theorem Un.laid(k:∀ b u,h.get? b=some u→h'.get? b=some u)(hp:h.objs.size≤a)(hn:H a=none):Un fs ex H (upd H a o) h h' where
 keep:=fun b u q _ _ _=>k b u q
 slot:=fun b u q _ _ _=>⟨u.slots,k b u q⟩
 free:=fun b u q n _=>by rw[Zu (Nat.ne_of_lt (Z1 (Zs q) hp))];exact n
 there:=fun b u q _=>⟨u,k b u q⟩
 tups:=fun b xs q=>by rw[Zu (Jb q hn)];exact q
 frzs:=fun b u xs q=>by rw[Zu (Jb q hn)];exact q
 tbls:=fun b ps q=>⟨#[],by rw[Zu (Jb q hn),q];simp⟩
theorem Un.write(mu:Mut (H x))(he:e=x∨H e=some (.own x))(k:∀ b u,b≠e→h.get? b=some u→h'.get? b=some u)(heo:∃ u,h'.get? e=some u):Un fs ex H (upd H x o) h h':=by
 have hx:∀ b,H b=none→b≠x:=fun b n z=>by subst z;rw[n] at mu;exact mu
 have hb:∀ b,H b=none→b≠e:=fun b n z=>by
  subst z;rcases he with r | r
  ·exact hx b n r
  ·rw[n] at r;cases r
 have hm:∀ b u,H b=some u→¬ Mut (some u)→b≠x:=fun b u q nm z=>by subst z;rw[q] at mu;exact nm mu
 refine⟨fun b u q n _ _=>k b u (hb b n) q,fun b u q n _ _=>⟨u.slots,k b u (hb b n) q⟩,fun b u q n _=>by rw[Zu (hx b n)];exact n,fun b u q _=>?_,
  fun b xs q=>by rw[Zu (hm b _ q fun z=>z)];exact q,fun b u xs q=>by rw[Zu (hm b _ q fun z=>z)];exact q,fun b ps q=>⟨#[],by rw[Zu (hm b _ q fun z=>z),q];simp⟩⟩
 by_cases hbe:b=e
 ·subst hbe;exact heo
 ·exact⟨u,k b u hbe q⟩
end
def trk(h:Heap)(H:Hp):List Addr:=(List.range h.objs.size).filter fun a=>(H a).isSome
def Md(h:Heap)(H:Hp):Heap:=W.hideAll h (trk h H)
theorem Zd4(h:Heap)(H:Hp):(Md h H).objs.size=h.objs.size:=W.hideAll_size _ _
theorem Zhs{h:Heap}{H:Hp}{b:Addr}{o:Obj}(e:h.get? b=some o)(n:H b=none):(Md h H).get? b=some o:=
 W.hideAll_get _ e fun hm=>by
  have q:(H b).isSome=true:=(List.mem_filter.mp hm).2;rw[n] at q;simp at q
theorem Zj9{h:Heap}{H:Hp}{b:Addr}{o:Obj}(e:(Md h H).get? b=some o):h.get? b=some o∧H b=none:=by
 have e':h.get? b=some o:=W.of_hideAll (trk h H) e;refine⟨e',?_⟩;cases q:H b with
 | none=>rfl
 | some x=>
  have hm:b∈trk h H:=List.mem_filter.mpr ⟨Jm.mpr (Zs e'),by simp [q]⟩;have z:(Md h H).get? b=none:=W.hideAll_none (trk h H) hm;rw[z] at e;cases e
def Zk2(g h:Heap)(L:Addr):List (Addr×Obj):=(List.range h.objs.size).filterMap fun a=>if a=L∨(g.get? a).isSome=true then none else(h.get? a).map fun o=>(a,o)
def rest(g h:Heap)(L d:Addr):List (Addr×Obj):=(Zk2 g h L).filter fun p=>decide (p.1≠d)
structure Mod(K:W.Frag)(mg:Str→Option Value)(base:Heap):Prop where
 kin:K.In base
 glob:base.Ns mainGlobals mg
 blt:∃ mb,base.Ns builtinsNs mb∧∀ x:Str,x≠"__name__"→mb x=bootBuiltins x
 nolimit:base.NoLimit
structure Cx where
 prog:Program
 w:World
 K:W.Frag
 mg:Str→Option Value
 base:Heap
 A:Around
 N:List Str
 s₀:Shared
 H₀:Hp
 env:Env
 outer:List Env
 stack:List Env
 ex:List Addr
 fn:Str→Bool
 calm:Bool
 pn:List (Addr×Obj)
 xe:Value→Shared→Prop
def Vc(l:List Env):List Addr:=l.filterMap (·.frame)
abbrev Cx.fs(X:Cx):List Addr:=Vc X.outer
def Vis(sc:Scope)(x:Str):Prop:=sc.names.lookup x=some .local∨sc.names.lookup x=some .cell∨sc.names.lookup x=some .free
def Loc(sc:Scope)(x:Str):Prop:=sc.names.lookup x=some .local∨sc.names.lookup x=some .cell
def Zqi(env:Env)(h:Heap)(m:Str→Option Value)(x:Str)(u:Value):Prop:=
 (env.kindOf x=some .local∧m x=some u)∨((env.kindOf x=some .cell∨env.kindOf x=some .free)∧∃ c,env.cells.lookup x=some c∧h.IsCell c (some u))
structure Cx.Ok(X:Cx):Prop where
 mod:Mod X.K X.mg X.base
 kind:X.env.scope.kind = .function
 glob:X.env.globals=mainGlobals
 blt:X.env.builtins=builtinsNs
 above:X.s₀.heap.objs.size≤X.env.locals
 inj:∀ x y c,X.env.cells.lookup x=some c→X.env.cells.lookup y=some c→x=y
 has:∀ x,(X.env.kindOf x=some .cell∨X.env.kindOf x=some .free)→∃ c,X.env.cells.lookup x=some c
 cab:∀ x c,X.fn x=true→X.env.cells.lookup x=some c→X.s₀.heap.objs.size≤c
 hd:X.calm=true→X.A.handled=none
 frames:X.A.frames=some X.stack
 stk:X.stack=X.outer∨(X.stack=X.env :: X.outer∧X.env.frame=some X.env.locals)
 exf:∀ b∈X.ex,b≠X.env.locals∧∀ x c,X.env.cells.lookup x=some c→c≠b
 bs:∀ b o,X.base.get? b=some o→X.s₀.heap.get? b=some o∧X.H₀ b=none
 bsz:X.base.objs.size≤X.s₀.heap.objs.size
 noex:∀ b o,X.base.get? b=some o→b∉X.ex
 exfs:∀ b∈X.ex,b∉X.fs
 funs:X.s₀.heap.FunFrames X.base X.outer
 frf:∀ b∈X.fs,X.H₀ b=none
structure Inv(X:Cx)(pins:List (Addr×Obj))(σ:List (Option V))(H:Hp)(s:Shared):Prop where
 ok:X.Ok
 os:s.os=X.s₀.os
 bare:AllBare s.gens
 base:Un X.fs X.ex X.H₀ H X.s₀.heap s.heap
 loc:∃ m,s.heap.Ns X.env.locals m∧∀(i:Nat) (x:Str) (v:V),X.N[i]? = some x→σ[i]? = some (some v)→Vis X.env.scope x→∃ u,RelV v u∧Zqi X.env s.heap m x u
 cell:∀ x c,X.env.cells.lookup x=some c→∃ v,s.heap.IsCell c v
 free:H X.env.locals=none
 freeC:∀ x c,X.env.cells.lookup x=some c→H c=none
 pin:∀ p∈X.pn++pins,s.heap.get? p.1=some p.2∧H p.1=none∧p.1≠X.env.locals∧p.1∉X.fs∧∀ v,p.2.data ≠ .cell v
 hok:HOk X.prog X.w H s.heap
 len:σ.length=X.N.length
section
variable{X:Cx}{pins:List (Addr×Obj)}{σ:List (Option V)}{H H':Hp}{s:Shared}{h':Heap}
theorem Cx.Ok.nofr(ok:X.Ok){b:Addr}{o:Obj}(e:X.base.get? b=some o):b∉X.fs:=fun hb=>by
 have:=(ok.funs.mem hb).1;rw[e] at this;cases this
theorem Inv.bs(I:Inv X pins σ H s):∀ b o,X.base.get? b=some o→s.heap.get? b=some o∧H b=none:=fun b o e=>
 ⟨I.base.keep b o (I.ok.bs b o e).1 (I.ok.bs b o e).2 (I.ok.nofr e) (I.ok.noex b o e),I.base.free b o (I.ok.bs b o e).1 (I.ok.bs b o e).2 (I.ok.noex b o e)⟩
theorem Inv.bk(I:Inv X pins σ H s):∀ b o,X.base.get? b=some o→s.heap.get? b=some o:=fun b o e=>(I.bs b o e).1
theorem Inv.mod(I:Inv X pins σ H s):Mod X.K X.mg X.base:=I.ok.mod
theorem Inv.kIn(I:Inv X pins σ H s):X.K.In s.heap:=I.ok.mod.kin.keeps I.bk
theorem Inv.lt(I:Inv X pins σ H s):X.env.locals < s.heap.objs.size:=let ⟨_,hn,_⟩:=I.loc;hn.lt
theorem Inv.sz(I:Inv X pins σ H s):X.s₀.heap.objs.size≤s.heap.objs.size:=Nat.le_trans I.ok.above (J2 I.lt)
theorem Inv.nofs(I:Inv X pins σ H s){a:Addr}(h:s.heap.objs.size≤a):a∉X.fs:=fun hb=>by
 obtain⟨_,o,ho,_⟩:=I.ok.funs.mem hb;exact absurd (Z1 (Zs ho) (Nat.le_trans I.sz h)) (Nat.lt_irrefl _)
theorem Inv.cne(I:Inv X pins σ H s):∀ x c,X.env.cells.lookup x=some c→c≠X.env.locals:=fun x c e z=>by
 obtain⟨v,o,ho,hd⟩:=I.cell x c e;obtain⟨m,⟨o',es,ep,ho',hd',_⟩,_⟩:=I.loc;rw[z,ho'] at ho;cases ho;rw[hd'] at hd;cases hd
theorem Inv.funs(I:Inv X pins σ H s):s.heap.FunFrames X.base X.outer:=by
 have all:∀(l:List Env),(∀ b∈Vc l,b∈X.fs)→X.s₀.heap.FunFrames X.base l→s.heap.FunFrames X.base l:=by
  intro l
  induction l with
  | nil=>intro _ _;trivial
  | cons env r ih=>
   intro hs hl;obtain⟨hk,⟨L,o,hf,hn,ho,hd⟩,hr⟩:=hl;have hL:L∈X.fs:=hs L (by unfold Vc;rw[List.filterMap_cons,hf];exact Zw);obtain⟨sl,e⟩:=I.base.slot L o ho (I.ok.frf L hL) hL fun z=>I.ok.exfs L z hL;exact⟨hk,⟨L,_,hf,hn,e,hd⟩,ih (fun b hb=>hs b (by unfold Vc;rw[List.filterMap_cons,hf];exact Zx _ hb)) hr⟩
 exact all X.outer (fun _ hb=>hb) I.ok.funs
theorem Inv.stack(I:Inv X pins σ H s):s.heap.FunFrames X.base X.stack:=by
 rcases I.ok.stk with e | ⟨e,hf⟩
 ·rw[e];exact I.funs
 ·rw[e]
  obtain⟨m,hn,_⟩:=I.loc;refine .cons (by rw[I.ok.kind];decide) hf hn ?_ I.funs;exact Heap.get?_none_of_le (Nat.le_trans I.ok.bsz I.ok.above)
theorem Inv.stkSub(I:Inv X pins σ H s):∀ b∈Vc X.stack,b∈X.env.locals :: X.fs:=fun b hb=>by
 rcases I.ok.stk with e | ⟨e,hf⟩
 ·rw[e] at hb;exact Zx _ hb
 ·rw[e] at hb
  unfold Vc at hb;rw[List.filterMap_cons,hf] at hb;exact hb
theorem Inv.stkFree(I:Inv X pins σ H s):∀ b∈Vc X.stack,H b=none:=fun b hb=>by
 rcases List.mem_cons.mp (I.stkSub b hb) with e | hb
 ·rw[e];exact I.free
 ·obtain⟨_,o,ho,_⟩:=I.ok.funs.mem hb
  exact I.base.free b o ho (I.ok.frf b hb) fun z=>I.ok.exfs b z hb
theorem Inv.step{g':Array GenState}{t':Nat}{d':Drawn}{ch:List Addr}(I:Inv X pins σ H s)
  (hch:∀ b∈ch,(b∈X.ex∨X.s₀.heap.objs.size≤b)∧b≠X.env.locals∧(∀ x c,X.env.cells.lookup x=some c→c≠b)∧∀ p∈X.pn++pins,p.1≠b)
  (keep:∀ b o,b≠X.env.locals→b∉X.fs→b∉ch→s.heap.get? b=some o→H b=none→h'.get? b=some o)
  (slot:∀ b o,b≠X.env.locals→b∈X.fs→b∉ch→s.heap.get? b=some o→H b=none→∃ sl,h'.get? b=some { o with slots:=sl }) (free:∀ b o,b∉ch→s.heap.get? b=some o→H b=none→H' b=none)
  (there:∀ b o,b∉ch→s.heap.get? b=some o→∃ o',h'.get? b=some o')
  (tups:∀ b xs,H b=some (.tup xs)→H' b=some (.tup xs)) (frzs:∀ b o u,H b=some (.frz o u)→H' b=some (.frz o u)) (tbls:∀ b ps,H b=some (.tbl ps)→∃ more,H' b=some (.tbl (ps++more)))
  (ns:∀ m,s.heap.Ns X.env.locals m→h'.Ns X.env.locals m) (hok:HOk X.prog X.w H' h') (hg:AllBare g') :
  Inv X pins σ H' { s with heap:=h',gens:=g',drawn:=d',toks:=t' }:=by
 have neL:∀ b o,X.s₀.heap.get? b=some o→b≠X.env.locals:=fun b o e=>Nat.ne_of_lt (Z1 (Zs e) I.ok.above);have neC:∀ b o,X.s₀.heap.get? b=some o→b∉X.ex→b∉ch:=fun b o e hx hb=>by
  rcases(hch b hb).1 with z | z
  ·exact hx z
  ·exact absurd (Z1 (Zs e) z) (Nat.lt_irrefl _)
 have cellK:∀ x c,X.env.cells.lookup x=some c→∀ v,s.heap.IsCell c v→h'.IsCell c v:=fun x c e v ⟨o,ho,hd⟩=>by
  have nch:c∉ch:=fun z=>(hch c z).2.2.1 x c e rfl;by_cases hc:c∈X.fs
  ·obtain⟨sl,q⟩:=slot c o (I.cne x c e) hc nch ho (I.freeC x c e)
   exact⟨_,q,hd⟩
  ·exact⟨o,keep c o (I.cne x c e) hc nch ho (I.freeC x c e),hd⟩
 refine⟨I.ok,I.os,hg,⟨fun b o e n hb hx=>?_,fun b o e n hb hx=>?_,fun b o e n hx=>?_,fun b o e hx=>?_,fun b xs e=>tups b xs (I.base.tups b xs e),fun b o xs e=>frzs b o xs (I.base.frzs b o xs e),fun b ps e=>?_⟩,?_,fun x c e=>?_,?_,fun x c e=>?_,fun p hp=>?_,hok,I.len⟩
 ·exact keep b o (neL b o e) hb (neC b o e hx) (I.base.keep b o e n hb hx) (I.base.free b o e n hx)
 ·obtain⟨sl,e1⟩:=I.base.slot b o e n hb hx
  obtain⟨sl',e2⟩:=slot b _ (neL b o e) hb (neC b o e hx) e1 (I.base.free b o e n hx);exact⟨sl',e2⟩
 ·obtain⟨o',e1⟩:=I.base.there b o e hx
  exact free b o' (neC b o e hx) e1 (I.base.free b o e n hx)
 ·obtain⟨o',e1⟩:=I.base.there b o e hx
  exact there b o' (neC b o e hx) e1
 ·obtain⟨m1,e1⟩:=I.base.tbls b ps e
  obtain⟨m2,e2⟩:=tbls b _ e1;exact⟨m1++m2,by rw[e2,Array.append_assoc]⟩
 ·obtain⟨m,hn,hl⟩:=I.loc
  refine⟨m,ns m hn,fun i x v e1 e2 e3=>?_⟩;obtain⟨u,r,l⟩:=hl i x v e1 e2 e3;refine⟨u,r,?_⟩;rcases l with l | ⟨k,c,e,z⟩
  ·exact .inl l
  ·exact .inr ⟨k,c,e,cellK x c e _ z⟩
 ·obtain⟨v,z⟩:=I.cell x c e
  exact⟨v,cellK x c e v z⟩
 ·obtain⟨m,⟨o,_,_,ho,_⟩,_⟩:=I.loc
  exact free _ o (fun z=>(hch _ z).2.1 rfl) ho I.free
 ·obtain⟨v,o,ho,hd⟩:=I.cell x c e
  exact free c o (fun z=>(hch c z).2.2.1 x c e rfl) ho (I.freeC x c e)
 ·obtain⟨e,n,ne,nf,d⟩:=I.pin p hp
  have nch:p.1∉ch:=fun z=>(hch p.1 z).2.2.2 p hp rfl;exact⟨keep p.1 p.2 ne nf nch e n,free p.1 p.2 nch e n,ne,nf,d⟩
theorem Inv.un{t':Nat}(I:Inv X pins σ H s)(u:Un X.fs [] H H' s.heap h')(hok:HOk X.prog X.w H' h'):Inv X pins σ H' { s with heap:=h',toks:=t' }:=by
 obtain⟨m,⟨o,es,ep,ho,r⟩,_⟩:=id I.loc;obtain⟨sl,hL⟩:=u.any ho I.free (by simp);exact I.step (g':=s.gens) (d':=s.drawn) (ch:=[]) (fun _ z=>nomatch z) (fun b o _ hb _ e n=>u.keep b o e n hb (by simp)) (fun b o _ hb _ e n=>u.slot b o e n hb (by simp)) (fun b o _ e n=>u.free b o e n (by simp)) (fun b o _ e=>u.there b o e (by simp)) u.tups u.frzs u.tbls (fun m' hm=>by
  obtain⟨o',es',ep',ho',r'⟩:=hm;rw[ho] at ho';cases ho';exact⟨_,es',ep',hL,r'⟩) hok I.bare
theorem Inv.call{g':Array GenState}{t':Nat}{d':Drawn}{ch:List Addr}(I:Inv X pins σ H s)(u:Un (Vc X.stack) ch H H' s.heap h')(hok:HOk X.prog X.w H' h')(hg:AllBare g')
  (hch:∀ b∈ch,(b∈X.ex∨X.s₀.heap.objs.size≤b)∧b≠X.env.locals∧(∀ x c,X.env.cells.lookup x=some c→c≠b)∧∀ p∈X.pn++pins,p.1≠b) :
  Inv X pins σ H' { s with heap:=h',gens:=g',drawn:=d',toks:=t' }:=by
 obtain⟨m,⟨o,es,ep,ho,r⟩,_⟩:=id I.loc;obtain⟨sl,hL⟩:=u.any ho I.free fun z=>(hch _ z).2.1 rfl;exact I.step (ch:=ch) hch (fun b o hL hb hc e n=>u.keep b o e n (fun z=>(List.mem_cons.mp (I.stkSub b z)).elim hL hb) hc) (fun b o _ _ hc e n=>u.any e n hc) (fun b o hc e n=>u.free b o e n hc) (fun b o hc e=>u.there b o e hc) u.tups u.frzs u.tbls (fun m' hm=>by
  obtain⟨o',es',ep',ho',r'⟩:=hm;rw[ho] at ho';cases ho';exact⟨_,es',ep',hL,r'⟩) hok hg
theorem Inv.turned{t':Nat}{it:Addr}(I:Inv X pins σ H s)(k:∀ b o,b≠it→s.heap.get? b=some o→h'.get? b=some o)(hn:H it=none)(hL:it≠X.env.locals)
  (h1:it∈X.ex∨X.s₀.heap.objs.size≤it) (h2:∀ x c,X.env.cells.lookup x=some c→c≠it) (h3:∀ p∈X.pn++pins,p.1≠it):Inv X pins σ H { s with heap:=h',toks:=t' }:=by
 have nit:∀ b u,H b=some u→b≠it:=fun b u e z=>by rw[z,hn] at e;cases e
 refine I.step (g':=s.gens) (d':=s.drawn) (ch:=[it]) (fun b hb=>?_) (fun b o _ _ hc e _=>k b o (fun z=>hc (by simp [z])) e) (fun b o _ _ hc e _=>⟨o.slots,k b o (fun z=>hc (by simp [z])) e⟩) (fun _ _ _ _ n=>n)
  (fun b o hc e=>⟨o,k b o (fun z=>hc (by simp [z])) e⟩) (fun _ _ e=>e) (fun _ _ _ e=>e) (fun b ps e=>⟨#[],by rw[e];simp⟩) (fun m hm=>?_) (fun b u e=>?_) I.bare
 ·have e:b=it:=by simpa using hb
  subst e;exact⟨h1,hL,h2,h3⟩
 ·obtain⟨o,es,ep,ho,r⟩:=hm
  exact⟨o,es,ep,k _ o (Ne.symm hL) ho,r⟩
 ·refine(I.hok b u e).stay (fun c v hc q=>k c v ?_ q) (fun _ q=>q) fun _ _ q=>q
  rcases hc with z | z
  ·rw[z];exact nit b u e
  ·exact nit c _ z
theorem Inv.tok(I:Inv X pins σ H s)(t:Nat):Inv X pins σ H { s with toks:=t }:=I.un (h':=s.heap) (t':=t) Un.refl I.hok
theorem Inv.kept{t':Nat}(I:Inv X pins σ H s)(k:∀ b u,s.heap.get? b=some u→h'.get? b=some u):Inv X pins σ H { s with heap:=h',toks:=t' }:=I.un (Un.kept k) (I.hok.kept k)
theorem Inv.laid{a:Addr}{o:HO}{t':Nat}(I:Inv X pins σ H s)(k:∀ b u,s.heap.get? b=some u→h'.get? b=some u)(hp:s.heap.objs.size≤a)(new:ObjOk X.prog X.w (upd H a o) h' a o) :
  Inv X pins σ (upd H a o) { s with heap:=h',toks:=t' }:=I.un (Un.laid k hp (I.hok.fresh hp)) (I.hok.laid k hp new)
theorem Inv.write{x e:Addr}{o:HO}{t':Nat}(I:Inv X pins σ H s)(mu:Mut (H x))(he:e=x∨H e=some (.own x))(k:∀ b u,b≠e→s.heap.get? b=some u→h'.get? b=some u)(heo:∃ u,h'.get? e=some u)
  (new:ObjOk X.prog X.w (upd H x o) h' x o):Inv X pins σ (upd H x o) { s with heap:=h',toks:=t' }:=I.un (Un.write mu he k heo) (I.hok.write mu he k heo new)
theorem Inv.pins_of{pins':List (Addr×Obj)}(I:Inv X pins σ H s)(h:∀ p∈pins',s.heap.get? p.1=some p.2∧H p.1=none∧p.1≠X.env.locals∧p.1∉X.fs∧∀ v,p.2.data ≠ .cell v):Inv X pins' σ H s:=
 ⟨I.ok,I.os,I.bare,I.base,I.loc,I.cell,I.free,I.freeC,fun p hp=>(Yt.mp hp).elim (fun z=>I.pin p (List.mem_append_left _ z)) (h p),I.hok,I.len⟩
theorem G6{N:List Str}(hN:N.Nodup){i j:Nat}{x:Str}(a:N[i]? = some x)(b:N[j]? = some x):i=j:=by
 obtain⟨h1,e1⟩:=Zt.mp a;obtain⟨h2,e2⟩:=Zt.mp b;exact(List.getElem_inj hN).mp (e1.trans e2.symm)
theorem Vg{M:Model}{A:Around}{E:Value→Shared→Prop}{i:Nat}{x:Str}{v:V}{u:Value}{Q:Unit→Shared→Prop}(I:Inv X pins σ H s)(hN:X.N.Nodup)(hi:X.N[i]? = some x)(hx:Loc X.env.scope x)(r:RelV v u)
  (h:∀ s',Inv X pins (σ.set i (some v)) H s'→(∃ a,Heap.SameBut a s.heap s'.heap∧(a=X.env.locals∨X.env.cells.lookup x=some a))→Q () s') (hf:X.fn x=true∨X.env.scope.names.lookup x=some .local:=by first | exact .inl rfl | exact .inr rfl | assumption):wpAny M A (storeName X.env x u) Q E s:=by
 obtain⟨m,hn,hl⟩:=id I.loc;have hcls:(X.env.scope.kind == .class || (X.env.scope.kind == .module && X.env.locals != X.env.globals))=false:=by rw[I.ok.kind];rfl
 have hiσ:i < σ.length:=by rw[I.len];exact(Zt.mp hi).1
 have cne:=I.cne;have tracked:∀{a:Addr} {h':Heap},(∃ o,s.heap.get? a=some o∧H a=none)→Heap.SameBut a s.heap h'→HOk X.prog X.w H h':=fun {a h'} ha hs b ob e=>by
  obtain⟨_,_,hfree⟩:=ha;refine(I.hok b ob e).stay (fun c w' hc q=>(hs.2 c ?_).trans q) (fun _ q=>q) fun _ _ q=>q;rintro rfl;rcases hc with rfl | hc
  ·rw[hfree] at e;cases e
  ·rw[hfree] at hc;cases hc
 rcases hx with hk | hk
 ·refine wpAny_storeName_local hk hn (fun h' hn' hs=>?_) hcls
  obtain⟨oL,_,_,hoL,_⟩:=id hn;refine h _ ⟨I.ok,I.os,I.bare,⟨fun b o e n hb hx=>?_,fun b o e n hb hx=>?_,I.base.free,fun b o e hx=>?_,I.base.tups,I.base.frzs,I.base.tbls⟩,⟨_,hn',fun j y v' e1 e2 e3=>?_⟩,fun y c e=>?_,I.free,I.freeC,fun p hp=>?_,tracked ⟨oL,hoL,I.free⟩ hs,by simpa using I.len⟩ ⟨_,hs,.inl rfl⟩
  ·exact(hs.2 b (Nat.ne_of_lt (Z1 (Zs e) I.ok.above))).trans (I.base.keep b o e n hb hx)
  ·obtain⟨sl,e1⟩:=I.base.slot b o e n hb hx
   exact⟨sl,(hs.2 b (Nat.ne_of_lt (Z1 (Zs e) I.ok.above))).trans e1⟩
  ·obtain⟨o',e1⟩:=I.base.there b o e hx
   exact⟨o',(hs.2 b (Nat.ne_of_lt (Z1 (Zs e) I.ok.above))).trans e1⟩
  ·by_cases hj:j=i
   ·subst hj
    rw[hi] at e1;cases e1;rw[List.getElem?_set_self hiσ] at e2;cases e2;exact⟨u,r,.inl ⟨hk,by simp⟩⟩
   ·rw[List.getElem?_set_ne (Ne.symm hj)] at e2
    obtain⟨u',r',q⟩:=hl j y v' e1 e2 e3;refine⟨u',r',?_⟩;rcases q with⟨k,e⟩ | ⟨k,c,e,z⟩
    ·refine .inl ⟨k,?_⟩
     have:y≠x:=fun e=>hj (G6 hN e1 (e ▸ hi));simp [this,e]
    ·exact .inr ⟨k,c,e,z.sameBut hs (cne y c e)⟩
  ·obtain⟨w',z⟩:=I.cell y c e
   exact⟨w',z.sameBut hs (cne y c e)⟩
  ·obtain⟨e,n,ne,nf,d⟩:=I.pin p hp
   exact⟨(hs.2 p.1 ne).trans e,n,ne,nf,d⟩
 ·have hfn:X.fn x=true:=by
   rcases hf with z | z
   ·exact z
   ·rw[z] at hk;cases hk
  obtain⟨c,hc⟩:=I.ok.has x (.inl hk);obtain⟨w',z⟩:=I.cell x c hc;refine wpAny_storeName_cell I.ok.kind hk hc z (fun h' hc' hs=>?_);obtain⟨oc,hoc,hocd⟩:=id z;refine h { s with heap:=h' } ⟨I.ok,I.os,I.bare,⟨fun b o e n hb hx=>?_,fun b o e n hb hx=>?_,I.base.free,fun b o e hx=>?_,I.base.tups,I.base.frzs,I.base.tbls⟩,⟨m,hn.sameBut hs (Ne.symm (cne x c hc)),fun j y v' e1 e2 e3=>?_⟩,fun y c' e=>?_,I.free,I.freeC,fun p hp=>?_,tracked ⟨oc,hoc,I.freeC x c hc⟩ hs,by simpa using I.len⟩ ⟨c,hs,.inr hc⟩
  ·exact(hs.2 b (Nat.ne_of_lt (Z1 (Zs e) (I.ok.cab x c hfn hc)))).trans (I.base.keep b o e n hb hx)
  ·obtain⟨sl,e1⟩:=I.base.slot b o e n hb hx
   exact⟨sl,(hs.2 b (Nat.ne_of_lt (Z1 (Zs e) (I.ok.cab x c hfn hc)))).trans e1⟩
  ·obtain⟨o',e1⟩:=I.base.there b o e hx
   exact⟨o',(hs.2 b (Nat.ne_of_lt (Z1 (Zs e) (I.ok.cab x c hfn hc)))).trans e1⟩
  ·by_cases hj:j=i
   ·subst hj
    rw[hi] at e1;cases e1;rw[List.getElem?_set_self hiσ] at e2;cases e2;exact⟨u,r,.inr ⟨.inl hk,c,hc,hc'⟩⟩
   ·rw[List.getElem?_set_ne (Ne.symm hj)] at e2
    obtain⟨u',r',q⟩:=hl j y v' e1 e2 e3;refine⟨u',r',?_⟩;rcases q with q | ⟨k,c',e,z'⟩
    ·exact .inl q
    ·refine .inr ⟨k,c',e,z'.sameBut hs ?_⟩
     rintro rfl;exact hj (G6 hN e1 (I.ok.inj _ _ _ e hc ▸ hi))
  ·by_cases hcc:c'=c
   ·subst hcc;exact⟨_,hc'⟩
   ·obtain⟨w2,z2⟩:=I.cell y c' e
    exact⟨w2,z2.sameBut hs hcc⟩
  ·obtain⟨e,n,ne,nf,d⟩:=I.pin p hp
   refine⟨(hs.2 p.1 ?_).trans e,n,ne,nf,d⟩;intro q;rw[q,hoc] at e;have q':oc=p.2:=Zn e;exact d w' (by rw[← q'];exact hocd)
theorem R6{M:Model}{A:Around}{E:Value→Shared→Prop}{i:Nat}{x:Str}{v:V}{u:Value}{Q:Unit→Shared→Prop}(I:Inv X pins σ H s)(hN:X.N.Nodup)(hi:X.N[i]? = some x)(hx:Loc X.env.scope x)(r:RelV v u)
  (h:∀ s',Inv X pins (σ.set i (some v)) H s'→Q () s') (hf:X.fn x=true∨X.env.scope.names.lookup x=some .local:=by first | exact .inl rfl | exact .inr rfl | assumption):wpAny M A (storeName X.env x u) Q E s:=
 Vg I hN hi hx r (fun s' I' _=>h s' I') hf
theorem Inv.call'{s':Shared}{ch:List Addr}(I:Inv X pins σ H s)(ho:s'.os=s.os)(u:Un (Vc X.stack) ch H H' s.heap s'.heap)(hok:HOk X.prog X.w H' s'.heap)(hg:AllBare s'.gens)
  (hch:∀ b∈ch,(b∈X.ex∨X.s₀.heap.objs.size≤b)∧b≠X.env.locals∧(∀ x c,X.env.cells.lookup x=some c→c≠b)∧∀ p∈X.pn++pins,p.1≠b):Inv X pins σ H' s':=by
 obtain⟨h',g',d',t',o'⟩:=s';have e:o'=s.os:=ho;subst e;exact I.call (g':=g') (t':=t') (d':=d') u hok hg hch
end
abbrev XK:=Value→Option Addr→Hp→Prop
abbrev St:=List (Option V)
abbrev VK:=V→Hp→Prop
abbrev TE:=St→Hp→VK→Prop
abbrev TT:=St→Hp→(Bool→Hp→Prop)→Prop
abbrev TA:=St→Hp→(List V→Hp→Prop)→Prop
structure Ends where
 nx:St→Hp→Prop
 rt:VK
 bk:St→Hp→Prop:=fun _ _=>False
 ct:St→Hp→Prop:=fun _ _=>False
abbrev TS:=Ends→St→Hp→Prop
def EP(X:Cx)(pins:List (Addr×Obj))(σ:St)(Q:VK)(u:Value)(s':Shared):Prop:=∃ v H',Inv X pins σ H' s'∧RelV v u∧Q v H'
def TP(X:Cx)(pins:List (Addr×Obj))(σ:St)(Q:Bool→Hp→Prop)(b:Bool)(s':Shared):Prop:=∃ H',Inv X pins σ H' s'∧Q b H'
def AP(X:Cx)(pins:List (Addr×Obj))(σ:St)(Q:List V→Hp→Prop)(us:List Value)(s':Shared):Prop:=∃ vs H',Inv X pins σ H' s'∧Vals vs us∧Q vs H'
def SP(X:Cx)(pins:List (Addr×Obj))(D:Ends)(f:Flow)(s':Shared):Prop:=
 match f with
 | .next=>∃ σ' H',Inv X pins σ' H' s'∧D.nx σ' H'
 | .brk=>∃ σ' H',Inv X pins σ' H' s'∧D.bk σ' H'
 | .cont=>∃ σ' H',Inv X pins σ' H' s'∧D.ct σ' H'
 | .ret u=>∃ v σ' H',Inv X pins σ' H' s'∧RelV v u∧D.rt v H'
def PE(X:Cx)(e:Expr)(t:TE):Prop:=
 ∀(pins:List (Addr×Obj)) (s:Shared) (σ:St) (H:Hp) (Q:VK),Inv X pins σ H s→t σ H Q→wpAny (model X.prog X.w) X.A (eval e X.env) (EP X pins σ Q) X.xe s
def PT(X:Cx)(e:Expr)(t:TT):Prop:=
 ∀(pins:List (Addr×Obj)) (s:Shared) (σ:St) (H:Hp) (Q:Bool→Hp→Prop),Inv X pins σ H s→t σ H Q→wpAny (model X.prog X.w) X.A (isTrue e X.env (eval e X.env)) (TP X pins σ Q) X.xe s
def PW(X:Cx)(e:Expr)(t:TT):Prop:=
 ∀(whole:Sem Value) (pins:List (Addr×Obj)) (s:Shared) (σ:St) (H:Hp) (Q:Bool→Hp→Prop),Inv X pins σ H s→t σ H Q→wpAny (model X.prog X.w) X.A (isTrue e X.env whole) (TP X pins σ Q) X.xe s
theorem PW.pt{X:Cx}{e:Expr}{t:TT}(h:PW X e t):PT X e t:=h _
def PA(X:Cx)(es:List Expr)(t:TA):Prop:=
 ∀(pos:Pos) (pins:List (Addr×Obj)) (s:Shared) (σ:St) (H:Hp) (Q:List V→Hp→Prop),Inv X pins σ H s→t σ H Q→wpAny (model X.prog X.w) X.A (spliced (backTo pos (starEach es X.env))) (AP X pins σ Q) X.xe s
def PS(X:Cx)(st:Stmt)(t:TS):Prop:=
 ∀(pins:List (Addr×Obj)) (s:Shared) (σ:St) (H:Hp) (D:Ends),Inv X pins σ H s→t D σ H→wpAny (model X.prog X.w) X.A (exec st X.env) (SP X pins D) X.xe s
def PSs(X:Cx)(st:List Stmt)(t:TS):Prop:=
 ∀(pins:List (Addr×Obj)) (s:Shared) (σ:St) (H:Hp) (D:Ends),Inv X pins σ H s→t D σ H→wpAny (model X.prog X.w) X.A (execs st X.env) (SP X pins D) X.xe s
theorem Y5{α:Type}{t:Sem α}{Q Q':α→Shared→Prop}{M:Model}{A:Around}{E:Value→Shared→Prop}{s:Shared}(h:wpAny M A t Q E s)(hQ:∀ a s,Q a s→Q' a s):wpAny M A t Q' E s:=wpAny_mono h hQ fun _ _ x=>x
section
variable{X:Cx}
def Znq(i:Nat):TE:=fun σ H Q=>∃ v,σ[i]? = some (some v)∧Q v H
def tC(v:V):TE:=fun _ H Q=>Q v H
theorem Zmd{i:Nat}{x:Str}{pos:Pos}(hN:X.N[i]? = some x)(hv:Vis X.env.scope x)(hd:(x == ("__debug__":Str))=false:=by decide)(hcd:(x == ("__classdict__":Str))=false:=by decide):PE X (.Name x pos) (Znq i):=by
 intro pins s σ H Q I h;obtain⟨v,e,h⟩:=h;obtain⟨m,hn,hl⟩:=I.loc;obtain⟨u,r,l⟩:=hl i x v hN e hv;have fin:EP X pins σ Q u s:=⟨v,H,I,r,h⟩;rcases l with⟨hk,hm⟩ | ⟨hk,c,hc,hcell⟩
 ·exact wpAny_Name (wpAny_loadName_local I.ok.kind hk hn hm fin) hd
 ·rcases hk with hk | hk
  ·exact wpAny_Name (wpAny_loadName_cell I.ok.kind hk hc hcell fin) hd
  ·exact wpAny_Name (wpAny_loadName_free I.ok.kind hk hc hcell fin hcd) hd
theorem Zl{i j pos}:PE X (.Constant (.int i) j pos) (tC (.int i)):=fun _ _ _ H _ I h=>wpAny_Constant_int ⟨.int i,H,I.tok _,⟨_,rfl⟩,h⟩
theorem Qe{b j pos}:PE X (.Constant (.bool b) j pos) (tC (.bl b)):=fun _ _ _ H _ I h=>Constant_bool ⟨.bl b,H,I,rfl,h⟩
theorem Uz{j pos}:PE X (.Constant .none j pos) (tC .non):=fun _ _ _ H _ I h=>Constant_none ⟨.non,H,I,rfl,h⟩
theorem Ji{x j pos}:PE X (.Constant (.str x) j pos) (tC (.str x)):=fun _ _ _ H _ I h=>Calls.Constant_str ⟨.str x,H,I.tok _,⟨_,rfl⟩,h⟩
def Gl(X:Cx)(x:Str):Prop:=X.env.kindOf x=some .globalImplicit
theorem Eh{E:Value→Shared→Prop}{pins:List (Addr×Obj)}{s:Shared}{σ:St}{H:Hp}{x:Str}{u:Value}{pos:Pos}{Q:Value→Shared→Prop}(I:Inv X pins σ H s)(hg:Gl X x)(hm:X.mg x=some u)(h:Q u s)
  (hd:(x == ("__debug__":Str))=false:=by decide):wpAny (model X.prog X.w) X.A (eval (.Name x pos) X.env) Q E s:=
 Calls.Name_function_global I.ok.kind hg (Calls.loadGlobal_global (by rw[I.ok.glob];exact I.mod.glob.keeps I.bk) hm h) hd
theorem N8{E:Value→Shared→Prop}{pins:List (Addr×Obj)}{s:Shared}{σ:St}{H:Hp}{x:Str}{u:Value}{pos:Pos}{Q:Value→Shared→Prop}(I:Inv X pins σ H s)(hg:Gl X x)(hm:X.mg x=none)(hv:bootBuiltins x=some u)(h:Q u s)
  (hn:x≠"__name__":=by decide) (hd:(x == ("__debug__":Str))=false:=by decide):wpAny (model X.prog X.w) X.A (eval (.Name x pos) X.env) Q E s:=by
 obtain⟨mb,h1,h2⟩:=I.mod.blt;exact Calls.Name_function_global I.ok.kind hg (Calls.loadGlobal_builtin (by rw[I.ok.glob];exact I.mod.glob.keeps I.bk) hm (by rw[I.ok.blt];exact h1.keeps I.bk) ((h2 x hn).trans hv) h) hd
theorem J0{x:Str}{v:V}{u:Value}{pos:Pos}(hg:Gl X x)(hm:X.mg x=some u)(r:RelV v u)(hd:(x == ("__debug__":Str))=false:=by decide):PE X (.Name x pos) (tC v):=
 fun _ _ _ H _ I h=>Eh I hg hm ⟨v,H,I,r,h⟩ hd
theorem Bq{x:Str}{v:V}{u:Value}{pos:Pos}(hg:Gl X x)(hm:X.mg x=none)(hv:bootBuiltins x=some u)(r:RelV v u)(hn:x≠"__name__":=by decide)(hd:(x == ("__debug__":Str))=false:=by decide):PE X (.Name x pos) (tC v):=
 fun _ _ _ H _ I h=>N8 I hg hm hv ⟨v,H,I,r,h⟩ hn hd
variable{a b:Expr}{ta tb:TE}{pos:Pos}
def PC(X:Cx)(op:CmpOp)(a b:Expr)(t:TE):Prop:=
 ∀(pins:List (Addr×Obj)) (s:Shared) (σ:St) (H:Hp) (Q:VK),Inv X pins σ H s→t σ H Q →
  wpAny (model X.prog X.w) X.A (eval a X.env) (fun v s₁=>wpAny (model X.prog X.w) X.A (eval b X.env) (fun u s₂=>wpAny (model X.prog X.w) X.A (compareOp op v u) (EP X pins σ Q) X.xe s₂) X.xe s₁) X.xe s
def tB(t:TE):TT:=fun σ H Q=>t σ H fun x H1=>∃ c,x = .bl c∧Q c H1
variable{tA tB':TT}{rest:List Expr}
def Zpn(t u:TT):TT:=fun σ H Q=>t σ H fun c H1=>if c=true then u σ H1 Q else Q false H1
def tOr(t u:TT):TT:=fun σ H Q=>t σ H fun c H1=>if c=true then Q true H1 else u σ H1 Q
def Zpi(t:TT):TT:=fun σ H Q=>t σ H fun c H1=>Q (!c) H1
theorem Rv(ha:PT X a tA):PW X (.BoolOp .And [a] pos) tA:=by
 intro wh pins s σ H Q I h;refine isTrue_and (Y5 (ha pins s σ H Q I h) fun c s1 e=>?_);cases c with
 | true=>exact isTrue_and_nil e
 | false=>exact e
theorem Qt(ha:PT X a tA):PW X (.BoolOp .Or [a] pos) tA:=by
 intro wh pins s σ H Q I h;refine isTrue_or (Y5 (ha pins s σ H Q I h) fun c s1 e=>?_);cases c with
 | false=>exact isTrue_or_nil e
 | true=>exact e
theorem Of(ha:PT X a tA)(hb:PW X (.BoolOp .And (b :: rest) pos) tB'):PW X (.BoolOp .And (a :: b :: rest) pos) (Zpn tA tB'):=by
 intro wh pins s σ H Q I h;refine isTrue_and (Y5 (ha pins s σ H _ I h) fun c s1 ⟨H1,I1,q1⟩=>?_);cases c with
 | true=>exact hb wh pins s1 σ H1 Q I1 q1
 | false=>exact⟨H1,I1,q1⟩
theorem Ek(ha:PT X a tA)(hb:PW X (.BoolOp .Or (b :: rest) pos) tB'):PW X (.BoolOp .Or (a :: b :: rest) pos) (tOr tA tB'):=by
 intro wh pins s σ H Q I h;refine isTrue_or (Y5 (ha pins s σ H _ I h) fun c s1 ⟨H1,I1,q1⟩=>?_);cases c with
 | true=>exact⟨H1,I1,q1⟩
 | false=>exact hb wh pins s1 σ H1 Q I1 q1
theorem Eb(ha:PT X a tA):PT X (.UnaryOp .Not a pos) (Zpi tA):=by
 intro pins s σ H Q I h;exact isTrue_not (ha pins s σ H (fun c H1=>Q (!c) H1) I h)
def Zn2(ta tb:TE):TE:=fun σ H Q=>ta σ H fun x H1=>∃ c,x = .bl c∧if c=true then tb σ H1 Q else Q (.bl false) H1
def Znu(ta:TE):TE:=fun σ H Q=>ta σ H fun x H1=>∃ c,x = .bl c∧Q (.bl (!c)) H1
theorem Gu{op}{t:TE}(h:PE X a t):PE X (.BoolOp op [a] pos) t:=fun pins s σ H Q I hw=>BoolOp_one (h pins s σ H Q I hw)
theorem Gv(ha:PE X a ta)(hb:PE X (.BoolOp .And (b :: rest) pos) tb):PE X (.BoolOp .And (a :: b :: rest) pos) (Zn2 ta tb):=by
 intro pins s σ H Q I h;refine BoolOp_and (Y5 (ha pins s σ H _ I h) fun v s1 ⟨x,H1,I1,r1,q1⟩=>?_);obtain⟨c,rfl,q1⟩:=q1;cases r1;refine wpAny_truthy_bool ?_;cases c with
 | true=>exact hb pins s1 σ H1 Q I1 q1
 | false=>exact⟨.bl false,H1,I1,rfl,q1⟩
theorem Zme(ha:PE X a ta):PE X (.UnaryOp .Not a pos) (Znu ta):=by
 intro pins s σ H Q I h;refine UnaryOp_ (Y5 (ha pins s σ H _ I h) fun v s1 ⟨x,H1,I1,r1,q1⟩=>?_);obtain⟨c,rfl,q1⟩:=q1;cases r1;exact not_of (wpAny_truthy_bool ⟨.bl (!c),H1,I1,rfl,q1⟩)
def tIf(t:TT)(ta tb:TE):TE:=fun σ H Q=>t σ H fun c H1=>if c=true then ta σ H1 Q else tb σ H1 Q
theorem Bp{c:Expr}(hc:PT X c tA)(ha:PE X a ta)(hb:PE X b tb):PE X (.IfExp c a b pos) (tIf tA ta tb):=by
 intro pins s σ H Q I h;refine wpAny_IfExp (Y5 (hc pins s σ H _ I h) fun d s1 ⟨H1,I1,q1⟩=>?_);cases d with
 | true=>exact ha pins s1 σ H1 Q I1 q1
 | false=>exact hb pins s1 σ H1 Q I1 q1
end
def SqL(K:W.Frag)(H:Hp)(a:Addr)(xs:List V):Prop:=
 Rd H a (.lst xs) ∨
  ∃(o:Obj) (its:Array Value) (n:Nat),K.lookup a=some o∧o.cls = .type "list"∧o.dict=none∧o.data = .seq its n∧its.size≤sizeLine∧Vals xs its.toList
def SqT(K:W.Frag)(H:Hp)(a:Addr)(xs:List V):Prop:=
 Rd H a (.tup xs) ∨
  ∃(o:Obj) (its:Array Value) (n:Nat),K.lookup a=some o∧o.cls = .type "tuple"∧o.data = .seq its n∧its.size≤sizeLine∧Vals xs its.toList
def Zqe:Value→Option V
 | .none=>some .non
 | .bool b=>some (.bl b)
 | .int i _=>some (.int i)
 | .str x _=>some (.str x)
 | .bytes b _=>some (.byt b)
 | .float b _=>some (.flt b)
 | .ref a=>some (.ref a)
 | .type n=>some (.ty n)
 | _=>none
theorem RelV.abs{x:V}{u:Value}(r:RelV x u):Zqe u=some x:=by
 cases x with
 | non=>cases r;rfl
 | bl _=>cases r;rfl
 | int _=>obtain⟨t,rfl⟩:=r;rfl
 | str _=>obtain⟨t,rfl⟩:=r;rfl
 | byt _=>obtain⟨t,rfl⟩:=r;rfl
 | flt _=>obtain⟨t,rfl⟩:=r;rfl
 | ref _=>cases r;rfl
 | ty _=>cases r;rfl
theorem RelV.inj{x y:V}{u:Value}(r:RelV x u)(q:RelV y u):x=y:=Zn (r.abs.symm.trans q.abs)
theorem Vals.inj:∀{xs ys:List V} {us:List Value},Vals xs us→Vals ys us→xs=ys
 | _,_,_,.nil,.nil=>rfl
 | _,_,_,.cons r t,.cons r' t'=>by rw[r.inj r',Vals.inj t t']
section
variable{X:Cx}{pins:List (Addr×Obj)}{σ:St}{H:Hp}{s:Shared}{a:Addr}{xs ys:List V}
theorem SqL.of{K:W.Frag}(h:H a=some (.lst xs)):SqL K H a xs:=.inl (.inl h)
theorem SqT.of{K:W.Frag}(h:H a=some (.tup xs)):SqT K H a xs:=.inl (.inl h)
theorem Inv.list(I:Inv X pins σ H s)(h:SqL X.K H a xs):∃ its:List Value,Vals xs its∧PlainL s.heap a its.toArray∧xs.length≤sizeLine:=by
 rcases h with h | ⟨o,its,n,hk,hc,hd,hs,hz,r⟩
 ·obtain⟨z,its,n,r,e⟩:=h.ok I.hok
  exact⟨its,r,⟨_,n,e,rfl,rfl,rfl⟩,z⟩
 ·refine⟨its.toList,r,⟨o,n,I.kIn a o hk,hc,hd,by simpa using hs⟩,?_⟩
  have e:=r.length;simp only[Array.length_toList] at e;omega
theorem Inv.tuple(I:Inv X pins σ H s)(h:SqT X.K H a xs):∃ its:List Value,Vals xs its∧IsTup s.heap a its.toArray∧xs.length≤sizeLine:=by
 rcases h with h | ⟨o,its,n,hk,hc,hs,hz,r⟩
 ·obtain⟨z,its,r,p⟩:=h.ok I.hok
  exact⟨its,r,p,z⟩
 ·refine⟨its.toList,r,⟨o,I.kIn a o hk,hc,n,by simpa using hs⟩,?_⟩
  have e:=r.length;simp only[Array.length_toList] at e;omega
theorem Inv.list_inj(I:Inv X pins σ H s)(h:SqL X.K H a xs)(h':SqL X.K H a ys):xs=ys:=by
 obtain⟨its,r,⟨o,n,e,_,_,d⟩,_⟩:=I.list h;obtain⟨its',r',⟨o',n',e',_,_,d'⟩,_⟩:=I.list h';rw[e] at e';cases e';rw[d] at d';injection d' with d1 _
 have:its=its':=by simpa using congrArg Array.toList d1
 subst this;exact r.inj r'
theorem Inv.tuple_inj(I:Inv X pins σ H s)(h:SqT X.K H a xs)(h':SqT X.K H a ys):xs=ys:=by
 obtain⟨its,r,⟨o,e,_,n,d⟩,_⟩:=I.tuple h;obtain⟨its',r',⟨o',e',_,n',d'⟩,_⟩:=I.tuple h';rw[e] at e';cases e';rw[d] at d';injection d' with d1 _
 have:its=its':=by simpa using congrArg Array.toList d1
 subst this;exact r.inj r'
end
abbrev Cx.wish(X:Cx)(E:Value→Shared→Prop):Cx:={ X with xe:=E }
abbrev Cx.nox(X:Cx):Cx:=X.wish fun _ _=>False
theorem Cx.Ok.wish{X:Cx}(ok:X.Ok)(E:Value→Shared→Prop):(X.wish E).Ok:=
 ⟨ok.mod,ok.kind,ok.glob,ok.blt,ok.above,ok.inj,ok.has,ok.cab,ok.hd,ok.frames,ok.stk,ok.exf,ok.bs,ok.bsz,ok.noex,ok.exfs,ok.funs,ok.frf⟩
theorem Cx.Ok.unwish{X:Cx}{E:Value→Shared→Prop}(ok:(X.wish E).Ok):X.Ok:=
 ⟨ok.mod,ok.kind,ok.glob,ok.blt,ok.above,ok.inj,ok.has,ok.cab,ok.hd,ok.frames,ok.stk,ok.exf,ok.bs,ok.bsz,ok.noex,ok.exfs,ok.funs,ok.frf⟩
section
variable{X:Cx}{pins:List (Addr×Obj)}{σ:St}{H:Hp}{s:Shared}{E:Value→Shared→Prop}
theorem Inv.wish(I:Inv X pins σ H s)(E:Value→Shared→Prop):Inv (X.wish E) pins σ H s:=⟨I.ok.wish E,I.os,I.bare,I.base,I.loc,I.cell,I.free,I.freeC,I.pin,I.hok,I.len⟩
theorem Inv.unwish(I:Inv (X.wish E) pins σ H s):Inv X pins σ H s:=⟨I.ok.unwish,I.os,I.bare,I.base,I.loc,I.cell,I.free,I.freeC,I.pin,I.hok,I.len⟩
theorem SP.unwish{D:Ends}{f:Flow}{s':Shared}(h:SP (X.wish E) pins D f s'):SP X pins D f s':=by
 cases f with
 | next=>obtain⟨σ',H',I,q⟩:=h;exact⟨σ',H',I.unwish,q⟩
 | brk=>obtain⟨σ',H',I,q⟩:=h;exact⟨σ',H',I.unwish,q⟩
 | cont=>obtain⟨σ',H',I,q⟩:=h;exact⟨σ',H',I.unwish,q⟩
 | ret u=>obtain⟨v,σ',H',I,r,q⟩:=h;exact⟨v,σ',H',I.unwish,r,q⟩
theorem PSs.nox{st:List Stmt}{t:TS}(h:PSs X.nox st t):PSs X st t:=fun pins s σ H D I hw=>
 wpAny_mono (h pins s σ H D (I.wish _) hw) (fun _ _ q=>q.unwish) fun _ _ z=>False.elim z
end
section
variable{X:Cx}{st:Stmt}{rest:List Stmt}{t u:TS}{e:Expr}{te:TE}{pos:Pos}
def Zk8:TS:=fun D σ H=>D.nx σ H
def Ziv(t u:TS):TS:=fun D σ H=>t { D with nx:=u D } σ H
theorem Jg:PSs X [] Zk8:=fun _ _ σ H _ I h=>wpAny_execs_nil ⟨σ,H,I,h⟩
theorem Zg(h1:PS X st t)(h2:PSs X rest u):PSs X (st :: rest) (Ziv t u):=by
 intro pins s σ H D I h;refine wpAny_execs_cons (Y5 (h1 pins s σ H { D with nx:=u D } I h) fun f s1 q=>?_);cases f with
 | next=>
  obtain⟨σ',H',I',q⟩:=q;exact h2 pins s1 σ' H' D I' q
 | ret v=>exact q
 | brk=>exact q
 | cont=>exact q
theorem Zq(h1:PS X st t):PSs X [st] t:=by
 intro pins s σ H D I h;refine wpAny_execs_cons (Y5 (h1 pins s σ H D I h) fun f s1 q=>?_);cases f with
 | next=>exact wpAny_execs_nil q
 | ret v=>exact q
 | brk=>exact q
 | cont=>exact q
theorem Inv.quiet{pins:List (Addr×Obj)}{σ:St}{H:Hp}{s:Shared}(I:Inv X pins σ H s):interactive X.env=false:=by simp [interactive,I.ok.kind]
def Zk9(te:TE):TS:=fun D σ H=>te σ H fun _ H1=>D.nx σ H1
theorem Xn(he:PE X e te)(hs:swapsWith e none pos.line X.env=pure false:=by rfl):PS X (.Expr e pos) (Zk9 te):=by
 intro pins s σ H D I h;exact wpAny_Expr_any (Y5 (he pins s σ H _ I h) fun v s1 ⟨x,H1,I1,r1,q1⟩=>⟨σ,H1,I1,q1⟩) I.quiet hs
def Zph(te:TE):TS:=fun D σ H=>te σ H D.rt
theorem Z6(he:PE X e te):PS X (.Return (some e) pos) (Zph te):=by
 intro pins s σ H D I h;exact wpAny_Return_some (Y5 (he pins s σ H _ I h) fun v s1 ⟨x,H1,I1,r1,q1⟩=>⟨x,σ,H1,I1,r1,q1⟩)
def Zpk(c:TT)(t u:TS):TS:=fun D σ H=>c σ H fun b H1=>if b=true then t D σ H1 else u D σ H1
theorem Ju{c:Expr}{a b:List Stmt}{tc:TT}(hc:PT X c tc)(ha:PSs X a t)(hb:PSs X b u):PS X (.If c a b pos) (Zpk tc t u):=by
 intro pins s σ H D I h;refine wpAny_If (Y5 (hc pins s σ H _ I h) fun d s1 ⟨H1,I1,q1⟩=>?_);cases d with
 | true=>exact ha pins s1 σ H1 D I1 q1
 | false=>exact hb pins s1 σ H1 D I1 q1
def Ze8:TS:=fun _ _ _=>False
theorem Go:PS X st Ze8:=fun _ _ _ _ _ _ h=>h.elim
theorem Zc6{sts:List Stmt}:PSs X sts Ze8:=fun _ _ _ _ _ _ h=>h.elim
end
abbrev TG:=V→St→Hp→(St→Hp→Prop)→Prop
abbrev TGs:=List V→St→Hp→(St→Hp→Prop)→Prop
def PG(X:Cx)(target:Expr)(t:TG):Prop:=
 ∀(pins:List (Addr×Obj)) (s:Shared) (σ:St) (H:Hp) (v:V) (u:Value) (Q:St→Hp→Prop),Inv X pins σ H s→RelV v u→t v σ H Q →
  wpAny (model X.prog X.w) X.A (assign target X.env u) (fun _ s'=>∃ σ' H',Inv X pins σ' H' s'∧Q σ' H') X.xe s
def PGs(X:Cx)(ts:List Expr)(t:TGs):Prop:=
 ∀(pins:List (Addr×Obj)) (s:Shared) (σ:St) (H:Hp) (vs:List V) (us:List Value) (Q:St→Hp→Prop),Inv X pins σ H s→Vals vs us→t vs σ H Q →
  wpAny (model X.prog X.w) X.A (assignInOrder ((assignEach ts X.env).map (·.2)) us) (fun _ s'=>∃ σ' H',Inv X pins σ' H' s'∧Q σ' H') X.xe s
abbrev Znd:=V→V→V→Hp→(Hp→Prop)→Prop
def Zo3(X:Cx)(t:Znd):Prop:=
 ∀(pins:List (Addr×Obj)) (s:Shared) (σ:St) (H:Hp) (o i v:V) (ov iv u:Value) (Q:Hp→Prop),Inv X pins σ H s→RelV o ov→RelV i iv→RelV v u→t o i v H Q →
  wpAny (model X.prog X.w) X.A (setItem ov iv u) (fun _ s'=>∃ H',Inv X pins σ H' s'∧Q H') X.xe s
section
variable{X:Cx}{pos:Pos}
def Qr(i:Nat):TG:=fun v σ H Q=>Q (σ.set i (some v)) H
theorem Jr{i:Nat}{x:Str}(hN:X.N.Nodup)(hi:X.N[i]? = some x)(hx:Loc X.env.scope x)(hf:X.fn x=true∨X.env.scope.names.lookup x=some .local:=by first | exact .inl rfl | exact .inr rfl | assumption):PG X (.Name x pos) (Qr i):=by
 intro pins s σ H v u Q I r h;exact wpAny_assign_Name (R6 I hN hi hx r (fun s' I'=>⟨_,H,I',h⟩) hf)
def Zqa:TGs:=fun vs σ H Q=>vs=[]∧Q σ H
def Zox(t:TG)(u:TGs):TGs:=fun vs σ H Q=>∃ v r,vs=v :: r∧t v σ H fun σ' H'=>u r σ' H' Q
theorem Rw:PGs X [] Zqa:=by
 intro pins s σ H vs us Q I r h;obtain⟨e,h⟩:=h;subst e;cases r;exact assignInOrder_nil ⟨σ,H,I,h⟩
theorem Xo{e:Expr}{es:List Expr}{t:TG}{u:TGs}(h1:PG X e t)(h2:PGs X es u)
  (hs:(assignEach (e :: es) X.env).map (·.2)=assign e X.env :: (assignEach es X.env).map (·.2):=by rfl):PGs X (e :: es) (Zox t u):=by
 intro pins s σ H vs us Q I r h;obtain⟨v,vr,e1,h⟩:=h;subst e1;cases r with
 | cons r rr=>
  rw[hs];refine assignInOrder_cons (Y5 (h1 pins s σ H _ _ _ I r h) fun _ s1 ⟨σ1,H1,I1,q1⟩=>?_);exact h2 pins s1 σ1 H1 _ _ Q I1 rr q1
def Zp8(K:W.Frag)(n:Nat)(t:TGs):TG:=fun v σ H Q=>∃ a xs,v = .ref a∧SqT K H a xs∧xs.length=n∧t xs σ H Q
theorem Oi{es:List Expr}{k:Nat}{t:TGs}{n:Nat}(hc:X.calm=true)(h:PGs X es t)
  (hn:(assignEach es X.env).length=n:=by rfl) (hst:(assignEach es X.env).findIdx? (·.1)=none:=by rfl):PG X (.Tuple es k pos) (Zp8 X.K n t):=by
 intro pins s σ H v u Q I r hw;obtain⟨a,xs,e1,hq,hl,hw⟩:=hw;subst e1;cases r;obtain⟨its,rv,ht,hz⟩:=I.tuple hq;refine assign_Tuple_tuple (I.ok.hd hc) ht (by simp [hn,← hl,rv.length]) hst fun h' hx=>?_;have I1:Inv X pins σ H { s with heap:=h' }:=I.kept (t':=s.toks) fun b o e=>hx b o (Nat.ne_of_lt (Zs e)) e;exact h pins _ σ H xs _ Q I1 (by simpa using rv) hw
def Zp9(to ti:TE)(t:Znd):TG:=fun v σ H Q=>to σ H fun o H1=>ti σ H1 fun i H2=>t o i v H2 fun H3=>Q σ H3
theorem Zf8{o i:Expr}{to ti:TE}{t:Znd}(ho:PE X o to)(hi:PE X i ti)(hs:Zo3 X t)
  (ha:∀ v,assign (.Subscript o i pos) X.env v=(do
   let ov ← holding [v] (eval o X.env)
   let iv ← holding [v,ov] (eval i X.env)
   standAt pos
   holding [v,ov,iv] (setItem ov iv v)
   release [v,ov,iv] []):=by intro _;rfl):PG X (.Subscript o i pos) (Zp9 to ti t):=by
 intro pins s σ H v u Q I r h;rw[ha];refine Zc (wpAny_holding (Y5 (ho pins s σ H _ I h) fun ov s1 ⟨x,H1,I1,r1,q1⟩=>?_));refine Zc (wpAny_holding (Y5 (hi pins s1 σ H1 _ I1 q1) fun iv s2 ⟨y,H2,I2,r2,q2⟩=>?_));refine Zc (wpAny_standAt (Zc (wpAny_holding (Y5 (hs pins s2 σ H2 x y v ov iv u _ I2 r1 r2 r q2) fun _ s3 ⟨H3,I3,q3⟩=>?_))));exact wpAny_release ⟨σ,H3,I3,q3⟩
def Zfd(te:TE)(g:TG):TS:=fun D σ H=>te σ H fun x H1=>g x σ H1 D.nx
theorem Og{tg e:Expr}{te:TE}{g:TG}(he:PE X e te)(hg:PG X tg g)(hs:swapsWithSole [tg] e pos.line X.env=pure false:=by rfl)(hw:swappedStores [tg] e X.env=pure none:=by rfl)
  (h1:(assignEach [tg] X.env).map (·.2)=[assign tg X.env]:=by rfl):PS X (.Assign [tg] e pos) (Zfd te g):=by
 intro pins s σ H D I h;refine wpAny_Assign_stores (Y5 (he pins s σ H _ I h) fun v s1 ⟨x,H1,I1,r1,q1⟩=>?_) hs hw;rw[h1];exact Y5 (hg pins s1 σ H1 x v _ I1 r1 q1) fun _ s2 q=>q
theorem Z4{i:Nat}{x:Str}{e:Expr}{te:TE}{pos':Pos}(hN:X.N.Nodup)(hi:X.N[i]? = some x)(hx:Loc X.env.scope x)(he:PE X e te)(hs:swapsWith e (some (.Name x pos')) pos.line X.env=pure false:=by rfl)(hf:X.fn x=true∨X.env.scope.names.lookup x=some .local:=by first | exact .inl rfl | exact .inr rfl | assumption) :
  PS X (.Assign [.Name x pos'] e pos) (Zfd te (Qr i)):=by
 intro pins s σ H D I h;refine wpAny_Assign_Name (Y5 (he pins s σ H _ I h) fun v s1 ⟨y,H1,I1,r1,q1⟩=>?_) hs;exact R6 I1 hN hi hx r1 (fun s2 I2=>⟨_,H1,I2,q1⟩) hf
def Ze6(c:TT)(tb:TS):TS:=fun D σ H=>∃ W:Nat→St→Hp→Prop,(∃ m,W m σ H)∧∀ m σ H,W m σ H →
 c σ H fun b H1=>if b=true then ∃ N:St→Hp→Prop,(∀ σ' H',N σ' H'→∃ m',m' < m∧W m' σ' H')∧tb { D with nx:=N,ct:=N,bk:=D.nx } σ H1 else D.nx σ H1
theorem Ai{c:Expr}{body:List Stmt}{tc:TT}{tb:TS}(hp:PassesOwn (model X.prog X.w) X.A X.env X.xe)(hc:PT X c tc)(hb:PSs X body tb):PS X (.While c body [] pos) (Ze6 tc tb):=by
 intro pins s σ H D I h;obtain⟨W,⟨m0,w0⟩,turn⟩:=h;refine wpAny_While (codeAny_whileLoop (fun n s'=>∃ σ' H',Inv X pins σ' H' s'∧W n σ' H') ?_ m0 ⟨σ,H,I,w0⟩);rintro n s1 ⟨σ1,H1,I1,w1⟩;refine wpAny_passesOwn hp (Y5 (hc pins s1 σ1 H1 _ I1 (turn n σ1 H1 w1)) fun b s2 ⟨H2,I2,q2⟩=>?_);cases b with
 | true=>
  obtain⟨N,hN,q2⟩:=q2;rw[if_pos rfl];refine wpAny_passesOwn hp (Y5 (hb pins s2 σ1 H2 _ I2 q2) fun f s3 q3=>?_);cases f with
  | next=>
   obtain⟨σ3,H3,I3,n3⟩:=q3;obtain⟨m',hm,w3⟩:=hN σ3 H3 n3;exact⟨m',hm,σ3,H3,I3,w3⟩
  | cont=>
   obtain⟨σ3,H3,I3,n3⟩:=q3;obtain⟨m',hm,w3⟩:=hN σ3 H3 n3;exact⟨m',hm,σ3,H3,I3,w3⟩
  | brk=>exact q3
  | ret v=>exact q3
 | false=>
  rw[if_neg Zz];exact wpAny_execs_nil ⟨σ1,H2,I2,q2⟩
end
structure It where
 go:Nat→Hp→Prop
 yld:Nat→Hp→V→Hp→Prop
 stop:Nat→Hp→Prop
def Ba(X:Cx)(pins:List (Addr×Obj))(H:Hp)(b:Addr):Prop:=
 H b=none∧b≠X.env.locals∧b∉X.fs∧(b∈X.ex∨X.s₀.heap.objs.size≤b)∧(∀ x c,X.env.cells.lookup x=some c→c≠b)∧∀ p∈X.pn++pins,p.1≠b
theorem Inv.fpOk{X:Cx}{pins:List (Addr×Obj)}{σ:St}{H H':Hp}{s:Shared}{b:Addr}(I:Inv X pins σ H s)(hb:s.heap.objs.size≤b)(hn:H' b=none):Ba X pins H' b:=by
 refine⟨hn,Nat.ne_of_gt (Z1 I.lt hb),I.nofs hb,.inr (Nat.le_trans I.sz hb),fun x c e z=>?_,fun p hp z=>?_⟩
 ·obtain⟨v,q⟩:=I.cell x c e
  exact absurd (Z1 q.lt (by rw[z];exact hb)) (Nat.lt_irrefl _)
 ·exact absurd (Z1 (Zs (I.pin p hp).1) (by rw[z];exact hb)) (Nat.lt_irrefl _)
structure Turn(P:Program)(w:World)(K:W.Frag)(tg:Expr)(J:It)(fp:List Addr)(it:Addr)(tn:Nat→Heap→Prop):Prop where
 mem:it∈fp
 obj:∀ i h,tn i h→∀ b∈fp,∃ o,h.get? b=some o∧∀ v,o.data ≠ .cell v
 keep:∀ i h h',tn i h→(∀ b∈fp,∀ o,h.get? b=some o→h'.get? b=some o)→tn i h'
 item:∀(X:Cx),X.prog=P→X.w=w→X.K=K→X.calm=true→∀(i:Nat) (pins:List (Addr×Obj)) (s:Shared) (σ:St) (H:Hp) (E:Value→Shared→Prop),Inv X pins σ H s→(∀ b∈fp,Ba X pins H b)→tn i s.heap→J.go i H →
  wpAny (model P w) X.A (pyNext (.ref it)) (fun r s1=>∃ u,r=some u ∧
   wpAny (model P w) X.A (letOwnedTupleGo tg (.ref it) u) (fun _ s2=>∃ x H',Inv X pins σ H' s2∧RelV x u∧J.yld i H x H'∧tn (i+1) s2.heap∧∀ b∈fp,H' b=none) E s1) E s
 done:∀(X:Cx),X.prog=P→X.w=w→X.K=K→X.calm=true→∀(i:Nat) (pins:List (Addr×Obj)) (s:Shared) (σ:St) (H:Hp) (E:Value→Shared→Prop),Inv X pins σ H s→(∀ b∈fp,Ba X pins H b)→tn i s.heap→J.stop i H →
  wpAny (model P w) X.A (pyNext (.ref it)) (fun r s1=>r=none∧Inv X pins σ H s1) E s
 self:∀(A:Around) (i:Nat) (s:Shared) (Q:Value→Shared→Prop) (E:Value→Shared→Prop),tn i s.heap→Q (.ref it) s→wpAny (model P w) A (pyIter (.ref it)) Q E s
abbrev TI:=St→Hp→(It→Hp→Prop)→Prop
def PIE(X:Cx)(pins:List (Addr×Obj))(σ:St)(tg:Expr)(R:It→Hp→Prop)(itv:Value)(s2:Shared):Prop:=
 ∃(it:Addr) (fp:List Addr) (tn:Nat→Heap→Prop) (J:It) (H':Hp),itv = .ref it∧Inv X pins σ H' s2∧Turn X.prog X.w X.K tg J fp it tn∧tn 0 s2.heap∧(∀ b∈fp,Ba X pins H' b)∧R J H'
def PI(X:Cx)(tg iter:Expr)(wi:TI):Prop:=
 ∀(pins:List (Addr×Obj)) (s:Shared) (σ:St) (H:Hp) (R:It→Hp→Prop),Inv X pins σ H s→wi σ H R →
  wpAny (model X.prog X.w) X.A (eval iter X.env) (fun v s1=>wpAny (model X.prog X.w) X.A (pyIter v) (PIE X pins σ tg R) X.xe s1) X.xe s
theorem Ki{M:Model}{A:Around}{E:Value→Shared→Prop}{s:Shared}{tg:Expr}{it:Addr}{u:Value}{o:Obj}{n:String}{vs:Array Value}{Q:Unit→Shared→Prop}(ho:s.heap.get? it=some o)(hc:o.cls = .type n)(hd:o.data = .fields vs)
    (hn:["enumerate","zip","dict_itemiterator","dict_reverseitemiterator","odict_iterator","itertools.zip_longest","itertools.pairwise"].contains n=false) (hQ:Q () s):wpAny M A (letOwnedTupleGo tg (.ref it) u) Q E s:=by
  unfold letOwnedTupleGo;cases tg<;>first
    | exact wpAny_pure hQ
    | (cases u<;>first
        | exact wpAny_pure hQ
        | (refine Zc (wpAny_load ho ?_)
           rw[hc,hd];show wpAny M A (if(["enumerate","zip","dict_itemiterator","dict_reverseitemiterator","odict_iterator","itertools.zip_longest","itertools.pairwise"].contains n && vs[0]? == some (rawInt _))=true then _ else _) Q E s;rw[if_neg (by intro h;rw[hn,Bool.false_and] at h;cases h)];exact wpAny_pure hQ))
def Itl(K:W.Frag)(a:Addr):It:=
 ⟨fun i H=>∃ xs x,SqL K H a xs∧xs[i]? = some x,fun i H x H'=>H'=H∧∀ xs,SqL K H a xs→xs[i]? = some x,fun i H=>∃ xs,SqL K H a xs∧xs.length≤i⟩
def Itt(K:W.Frag)(a:Addr):It:=
 ⟨fun i H=>∃ xs x,SqT K H a xs∧xs[i]? = some x,fun i H x H'=>H'=H∧∀ xs,SqT K H a xs→xs[i]? = some x,fun i H=>∃ xs,SqT K H a xs∧xs.length≤i⟩
def Itr(lo:Int)(n:Nat):It:=⟨fun i _=>i < n,fun i H x H'=>H'=H∧x = .int (lo+i),fun i _=>n≤i⟩
theorem Zcs{P:Program}{w:World}{K:W.Frag}{tg:Expr}(a it:Addr):Turn P w K tg (Itl K a) [it] it (fun i h=>h.IsListIter it a i) where
 mem:=by simp
 obj:=fun i h st b hb=>by
  have e:b=it:=by simpa using hb
  subst e;obtain⟨o,e,c,d⟩:=st;exact⟨o,e,fun v z=>by rw[d] at z;cases z⟩
 keep:=fun i h h' st k=>st.at fun o e=>k it (by simp) o e
 item:=by
  intro X hP hw hK hc i pins s σ H E I hf st hg;subst hP hw hK;obtain⟨xs,x,hq,hx⟩:=hg;obtain⟨its,rv,p,hz⟩:=I.list hq;obtain⟨u,hu,ru⟩:=rv.get hx;obtain⟨f0,f1,f2,f3,f4,f5⟩:=hf it (by simp);refine wpAny_pyNext_list_item st p.isList (x:=u) (by simpa using hu) fun h' st' sb=>?_;have I1:Inv X pins σ H { s with heap:=h' }:=I.turned (t':=s.toks) (fun b o hb e=>(sb.2 b hb).trans e) f0 f1 f3 f4 f5;obtain⟨o,e,c,d⟩:=id st';exact⟨u,rfl,Ki (s:={ s with heap:=h' }) e c d (by decide) ⟨x,H,I1,ru,⟨rfl,fun ys hy=>by rw[I.list_inj hy hq];exact hx⟩,st',fun b hb=>(hf b hb).1⟩⟩
 done:=by
  intro X hP hw hK hc i pins s σ H E I hf st hg;subst hP hw hK;obtain⟨xs,hq,hx⟩:=hg;obtain⟨its,rv,p,hz⟩:=I.list hq;obtain⟨f0,f1,f2,f3,f4,f5⟩:=hf it (by simp);have hl:=rv.length;exact wpAny_pyNext_list_end (I.ok.hd hc) st p.isList (by simp;omega) fun h' eb=>⟨rfl,I.turned (t':=s.toks) (fun b o hb e=>eb b o hb e) f0 f1 f3 f4 f5⟩
 self:=fun _ _ _ _ _ st h=>wpAny_pyIter_listiter st h
theorem K6{P:Program}{w:World}{K:W.Frag}{tg:Expr}(a it:Addr):Turn P w K tg (Itt K a) [it] it (fun i h=>h.IsTupleIter it a i) where
 mem:=by simp
 obj:=fun i h st b hb=>by
  have e:b=it:=by simpa using hb
  subst e;obtain⟨o,e,c,d⟩:=st;exact⟨o,e,fun v z=>by rw[d] at z;cases z⟩
 keep:=fun i h h' st k=>st.at fun o e=>k it (by simp) o e
 item:=by
  intro X hP hw hK hc i pins s σ H E I hf st hg;subst hP hw hK;obtain⟨xs,x,hq,hx⟩:=hg;obtain⟨its,rv,p,hz⟩:=I.tuple hq;obtain⟨u,hu,ru⟩:=rv.get hx;obtain⟨f0,f1,f2,f3,f4,f5⟩:=hf it (by simp);refine wpAny_pyNext_tuple_item st (show s.heap.IsTuple a its.toArray from p) (x:=u) (by simpa using hu) fun h' st' sb=>?_;have I1:Inv X pins σ H { s with heap:=h' }:=I.turned (t':=s.toks) (fun b o hb e=>(sb.2 b hb).trans e) f0 f1 f3 f4 f5;obtain⟨o,e,c,d⟩:=id st';exact⟨u,rfl,Ki (s:={ s with heap:=h' }) e c d (by decide) ⟨x,H,I1,ru,⟨rfl,fun ys hy=>by rw[I.tuple_inj hy hq];exact hx⟩,st',fun b hb=>(hf b hb).1⟩⟩
 done:=by
  intro X hP hw hK hc i pins s σ H E I hf st hg;subst hP hw hK;obtain⟨xs,hq,hx⟩:=hg;obtain⟨its,rv,p,hz⟩:=I.tuple hq;obtain⟨f0,f1,f2,f3,f4,f5⟩:=hf it (by simp);have hl:=rv.length;exact wpAny_pyNext_tuple_end (I.ok.hd hc) st (show s.heap.IsTuple a its.toArray from p) (by simp;omega) fun h' eb=>⟨rfl,I.turned (t':=s.toks) (fun b o hb e=>eb b o hb e) f0 f1 f3 f4 f5⟩
 self:=fun _ _ _ _ _ st h=>wpAny_pyIter_tupleiter st h
theorem K7{P:Program}{w:World}{K:PySem.W.Frag}{tg:Expr}(it:Addr)(lo:Int)(n:Nat):Turn P w K tg (Itr lo n) [it] it (fun i h=>IsRangeIter h it (lo+(i:Nat) * 1) ((n:Int) - (i:Nat)) 1) where
 mem:=by simp
 obj:=fun i h st b hb=>by
  have e:b=it:=by simpa using hb
  subst e;exact⟨_,st,fun v z=>by
   have z':Data.fields _=Data.cell v:=z;cases z'⟩
 keep:=fun i h h' st k=>k it (by simp) _ st
 item:=by
  intro X hP hw hK hc i pins s σ H E I hf st hg;subst hP hw hK;obtain⟨f0,f1,f2,f3,f4,f5⟩:=hf it (by simp);have W:=Walks.range (prog:=X.prog) (w:=X.w) (I.ok.hd hc) it lo 1 n;refine W.item i s _ _ hg st fun v h' tk hv st' kk=>?_;obtain⟨t,rfl⟩:=hv;have I1:Inv X pins σ H { s with heap:=h',toks:=tk }:=I.turned (fun b o hb e=>kk b o (by simpa using hb) e) f0 f1 f3 f4 f5;refine⟨_,rfl,Ki (s:={ s with heap:=h',toks:=tk }) (n:="range_iterator") st' rfl rfl (by decide) ⟨.int (lo+i),H,I1,⟨t,?_⟩,⟨rfl,rfl⟩,st',fun b hb=>(hf b hb).1⟩⟩;rw[Int.mul_one]
 done:=by
  intro X hP hw hK hc i pins s σ H E I hf st hg;subst hP hw hK;obtain⟨f0,f1,f2,f3,f4,f5⟩:=hf it (by simp);exact wpAny_pyNext_range_end (I.ok.hd hc) st (by have:n≤i:=hg;omega) fun h' eb=>⟨rfl,I.turned (t':=s.toks) (fun b o hb e=>eb b o hb e) f0 f1 f3 f4 f5⟩
 self:=fun _ _ _ _ _ st h=>wpAny_pyIter_rangeiter st h
section
variable{X:Cx}{tg:Expr}
def Zln(K:W.Frag)(tl:TE):TI:=fun σ H R=>tl σ H fun x H1=>∃ a,x = .ref a∧(∃ xs,SqL K H1 a xs)∧R (Itl K a) H1
def Zp6(K:W.Frag)(tl:TE):TI:=fun σ H R=>tl σ H fun x H1=>∃ a,x = .ref a∧(∃ xs,SqT K H1 a xs)∧R (Itt K a) H1
theorem Uh{l:Expr}{tl:TE}(hl:PE X l tl):PI X tg l (Zln X.K tl):=by
 intro pins s σ H R I h;refine Y5 (hl pins s σ H _ I h) fun v s1 ⟨x,H1,I1,r1,q1⟩=>?_;obtain⟨a,e,⟨xs,hq⟩,q⟩:=q1;subst e;cases r1;obtain⟨its,rv,p,hz⟩:=I1.list hq;refine wpAny_pyIter_list p.isList ?_;refine⟨s1.heap.objs.size,[s1.heap.objs.size],_,_,H1,rfl,I1.kept (t':=s1.toks) fun b o e=>Ze _ e,Zcs a _,⟨_,Heap.get?_push_size _ rfl,rfl,rfl⟩,fun b hb=>?_,q⟩;have e:b=s1.heap.objs.size:=by simpa using hb
 subst e;exact I1.fpOk (Nat.le_refl _) (I1.hok.fresh (Nat.le_refl _))
theorem Oh{l:Expr}{tl:TE}(hl:PE X l tl):PI X tg l (Zp6 X.K tl):=by
 intro pins s σ H R I h;refine Y5 (hl pins s σ H _ I h) fun v s1 ⟨x,H1,I1,r1,q1⟩=>?_;obtain⟨a,e,⟨xs,hq⟩,q⟩:=q1;subst e;cases r1;obtain⟨its,rv,p,hz⟩:=I1.tuple hq;refine wpAny_pyIter_tuple (show s1.heap.IsTuple a its.toArray from p) ?_;refine⟨s1.heap.objs.size,[s1.heap.objs.size],_,_,H1,rfl,I1.kept (t':=s1.toks) fun b o e=>Ze _ e,K6 a _,⟨_,Heap.get?_push_size _ rfl,rfl,rfl⟩,fun b hb=>?_,q⟩;have e:b=s1.heap.objs.size:=by simpa using hb
 subst e;exact I1.fpOk (Nat.le_refl _) (I1.hok.fresh (Nat.le_refl _))
theorem Zf2{pins:List (Addr×Obj)}{σ:St}{H:Hp}{s:Shared}{R:It→Hp→Prop}{E:Value→Shared→Prop}{lo hi:Int}{t u v:Tok}{tk:Nat}(I:Inv X pins σ H s)(h1:-(2 ^ 62)≤lo)(h2:lo < 2 ^ 62)(h3:-(2 ^ 62)≤hi)(h4:hi < 2 ^ 62)
  (q:R (Itr lo (hi - lo).toNat) H):wpAny (model X.prog X.w) X.A (pyIter (.ref s.heap.objs.size)) (PIE X pins σ tg R) E { s with heap:=s.heap.push { cls:=.type "range",data:=.fields #[.int lo t,.int hi u,.int 1 v] },toks:=tk }:=by
 refine wpAny_pyIter_range (IsRange.new ..) (small_one h1 h2 h3 h4) ?_;have I1:Inv X pins σ H { s with heap:=s.heap.push { cls:=.type "range",data:=.fields #[.int lo t,.int hi u,.int 1 v] },toks:=tk }:=I.kept fun b o e=>Ze _ e;refine⟨(s.heap.push { cls:=.type "range",data:=.fields #[.int lo t,.int hi u,.int 1 v] }).objs.size,[(s.heap.push { cls:=.type "range",data:=.fields #[.int lo t,.int hi u,.int 1 v] }).objs.size],_,_,H,rfl,
  I1.kept (t':=tk) fun b o e=>Ze _ e,K7 _ lo (hi - lo).toNat,?_,fun b hb=>?_,q⟩
 ·have e1:lo+((0:Nat):Int) * 1=lo:=by simp
  have e2:(((hi - lo).toNat:Nat):Int) - ((0:Nat):Int)=Builtin.Range.rangeSize lo hi 1:=by rw[rangeSize_one];split<;>omega
  show IsRangeIter _ _ (lo+((0:Nat):Int) * 1) ((((hi - lo).toNat:Nat):Int) - ((0:Nat):Int)) 1;rw[e1,e2];exact Heap.get?_push_size _ rfl
 ·have e:b=(s.heap.push { cls:=.type "range",data:=.fields #[.int lo t,.int hi u,.int 1 v] }).objs.size:=by simpa using hb
  subst e;exact I1.fpOk (Nat.le_refl _) (I1.hok.fresh (Nat.le_refl _))
def Zow(ta:TA):TI:=fun σ H R=>ta σ H fun vs H1=>∃ j:Int,vs=[.int j]∧-(2 ^ 62)≤j∧j < 2 ^ 62∧R (Itr 0 j.toNat) H1
theorem Uy{a:Expr}{ta:TA}{p pos:Pos}(hg:Gl X "range")(hm:X.mg "range" = none)(ha:PA X [a] ta)(hs:starEach [a] X.env=[(false,eval a X.env)]:=by rfl):PI X tg (.Call (.Name "range" p) [a] [] pos) (Zow ta):=by
 intro pins s σ H R I h;refine Call_ (N8 I hg hm boot_range (PyProof.Rows.callWith_type1 (Y5 (ha pos pins s σ H _ I h) fun us s1 ⟨vs,H1,I1,r1,q1⟩=>?_) hs rfl));obtain⟨j,e,q1,q2,q⟩:=q1;subst e;cases r1 with
 | cons r rr=>
  cases rr;obtain⟨t,rfl⟩:=r;exact call_range_1 (Zf2 I1 (by omega) (by omega) q1 q2 (by simpa using q))
def Zpl(wi:TI)(g:TG)(tb:TS):TS:=fun D σ H=>wi σ H fun J H1=>∃ W:Nat→Nat→St→Hp→Prop,(∃ m,W 0 m σ H1)∧∀ i m σ H,W i m σ H →
 (J.stop i H∧D.nx σ H)∨(J.go i H∧∃ N:St→Hp→Prop,(∀ σ' H',N σ' H'→∃ m',m' < m∧W (i+1) m' σ' H')∧∀ x H',J.yld i H x H'→g x σ H' fun σ2 H2=>tb { D with nx:=N,ct:=N,bk:=D.nx } σ2 H2)
def Vr(fp:List Addr)(h:Heap):List (Addr×Obj):=fp.filterMap fun b=>(h.get? b).map fun o=>(b,o)
theorem Xv{fp:List Addr}{h:Heap}{b:Addr}{o:Obj}(hb:b∈fp)(e:h.get? b=some o):(b,o)∈Vr fp h:=List.mem_filterMap.mpr ⟨b,hb,by rw[e];rfl⟩
theorem Zdn{fp:List Addr}{h:Heap}{p:Addr×Obj}(hp:p∈Vr fp h):p.1∈fp∧h.get? p.1=some p.2:=by
 obtain⟨b,hb,e⟩:=List.mem_filterMap.mp hp;cases q:h.get? b with
 | none=>rw[q] at e;cases e
 | some o=>
  rw[q] at e;have e':(b,o)=p:=Zn e;subst e';exact⟨hb,q⟩
theorem Inv.pinned{pins:List (Addr×Obj)}{σ:St}{H:Hp}{s:Shared}{fp:List Addr}(I:Inv X pins σ H s)(hf:∀ b∈fp,Ba X pins H b)(ho:∀ b∈fp,∃ o,s.heap.get? b=some o∧∀ v,o.data ≠ .cell v):Inv X (pins++Vr fp s.heap) σ H s:=
 I.pins_of fun p hp=>(Yt.mp hp).elim (fun z=>I.pin p (List.mem_append_right _ z)) fun z=>by
  obtain⟨hb,e⟩:=Zdn z;obtain⟨f0,f1,f2,_⟩:=hf p.1 hb;obtain⟨o,e',d⟩:=ho p.1 hb;rw[e] at e';cases e';exact⟨e,f0,f1,f2,d⟩
theorem Inv.unpinned{pins pl:List (Addr×Obj)}{σ:St}{H:Hp}{s:Shared}(I:Inv X (pins++pl) σ H s):Inv X pins σ H s:=I.pins_of fun p hp=>I.pin p (List.mem_append_right _ (List.mem_append_left _ hp))
theorem X0{iter:Expr}{body:List Stmt}{wi:TI}{g:TG}{tb:TS}{pos:Pos}(hp:PassesOwn (model X.prog X.w) X.A X.env X.xe)(hc:X.calm=true)(hi:PI X tg iter wi)(hg:PG X tg g)(hb:PSs X body tb)
  (hs:∀ x,foldedSetIterable iter X.env x=pure x:=by intro _;rfl):PS X (.For tg iter body [] pos) (Zpl wi g tb):=by
 intro pins s σ H D I h;refine wpAny_For (Y5 (hi pins s σ H _ I h) fun v s1 h1=>Y5 h1 fun itv s2 h2=>?_) hs;obtain⟨it,fp,tn,J,H2,e,I2,T,st2,f2,W,⟨m0,w0⟩,turn⟩:=h2;subst e;have stat:∀{H':Hp},(∀ b∈fp,H' b=none)→∀ b∈fp,Ba X pins H' b:=fun hn b hb=>⟨hn b hb,(f2 b hb).2⟩;refine codeAny_forLoop_any (fun n s'=>∃ i σ' H',Inv X pins σ' H' s'∧tn i s'.heap∧(∀ b∈fp,H' b=none)∧W i n σ' H') ?_ m0 ⟨0,σ,H2,I2,st2,fun b hb=>(f2 b hb).1,w0⟩;rintro n s3 ⟨i,σ3,H3,I3,st3,fr3,w3⟩;rcases turn i n σ3 H3 w3 with⟨stop,qn⟩ | ⟨go,N,hN,step⟩
 ·refine wpAny_passesOwn hp (Y5 (T.done X rfl rfl rfl hc i pins s3 σ3 H3 X.xe I3 (stat fr3) st3 stop) fun r s4 ⟨hr,I4⟩=>?_)
  subst hr;exact wpAny_execs_nil ⟨σ3,H3,I4,qn⟩
 ·refine wpAny_passesOwn hp (Y5 (T.item X rfl rfl rfl hc i pins s3 σ3 H3 X.xe I3 (stat fr3) st3 go) fun r s4 ⟨u,hr,h4⟩=>?_)
  subst hr;refine wpAny_passesOwn hp (Y5 h4 fun _ s5 ⟨x,H5,I5,r5,y5,st5,fr5⟩=>?_);have I5':=I5.pinned (stat fr5) (T.obj _ _ st5);refine wpAny_passesOwn hp (Y5 (hg _ s5 σ3 H5 x u _ I5' r5 (step x H5 y5)) fun _ s6 ⟨σ6,H6,I6,q6⟩=>?_);refine wpAny_passesOwn hp (Y5 (hb _ s6 σ6 H6 _ I6 q6) fun f s7 q7=>?_);have again:∀{σ7:St} {H7:Hp},Inv X (pins++Vr fp s5.heap) σ7 H7 s7→N σ7 H7→∃ m,m < n∧∃ i σ' H',Inv X pins σ' H' s7∧tn i s7.heap∧(∀ b∈fp,H' b=none)∧W i m σ' H':=fun {σ7 H7} I7 n7=>by
   obtain⟨m',hm,w7⟩:=hN σ7 H7 n7;refine⟨m',hm,i+1,σ7,H7,I7.unpinned,T.keep _ _ _ st5 fun b hb o e=>(I7.pin (b,o) (List.mem_append_right _ (List.mem_append_right _ (Xv hb e)))).1,fun b hb=>?_,w7⟩;obtain⟨o,e,d⟩:=T.obj _ _ st5 b hb;exact(I7.pin (b,o) (List.mem_append_right _ (List.mem_append_right _ (Xv hb e)))).2.1
  cases f with
  | next=>obtain⟨σ7,H7,I7,n7⟩:=q7;exact again I7 n7
  | cont=>obtain⟨σ7,H7,I7,n7⟩:=q7;exact again I7 n7
  | brk=>obtain⟨σ7,H7,I7,q7⟩:=q7;exact⟨σ7,H7,I7.unpinned,q7⟩
  | ret v=>obtain⟨x7,σ7,H7,I7,r7,q7⟩:=q7;exact⟨x7,σ7,H7,I7.unpinned,r7,q7⟩
end
theorem Ti{K:PySem.W.Frag}{a:Addr}{xs:List V}{g:TG}{tb:TS}{D:Ends}{σ:St}{H:Hp}(Pv:Nat→St→Hp→Prop)(h0:Pv 0 σ H)(hl:∀ i σ H,i≤xs.length→Pv i σ H→SqL K H a xs)
  (hs:∀ i x σ H,xs[i]? = some x→Pv i σ H→g x σ H fun σ2 H2=>tb { D with nx:=Pv (i+1),ct:=Pv (i+1),bk:=D.nx } σ2 H2) (hd:∀ σ H,Pv xs.length σ H→D.nx σ H) :
  ∃ W:Nat→Nat→St→Hp→Prop,(∃ m,W 0 m σ H)∧∀ i m σ H,W i m σ H →
   ((Itl K a).stop i H∧D.nx σ H)∨((Itl K a).go i H∧∃ N:St→Hp→Prop,(∀ σ' H',N σ' H'→∃ m',m' < m∧W (i+1) m' σ' H')∧∀ x H',(Itl K a).yld i H x H'→g x σ H' fun σ2 H2=>tb { D with nx:=N,ct:=N,bk:=D.nx } σ2 H2):=by
 refine⟨fun i m σ H=>m=xs.length - i∧i≤xs.length∧Pv i σ H,⟨xs.length,by simp,Nat.zero_le _,h0⟩,?_⟩;rintro i m σ H ⟨rfl,hi,p⟩;have q:=hl i σ H hi p;by_cases hlt:i < xs.length
 ·refine .inr ⟨⟨xs,xs[i],q,by simp [hlt]⟩,Pv (i+1),fun σ' H' p'=>⟨xs.length - (i+1),by omega,rfl,hlt,p'⟩,fun x H' y=>?_⟩
  obtain⟨e,y⟩:=y;subst e;exact hs i x σ _ (y xs q) p
 ·have e:i=xs.length:=by omega
  subst e;exact .inl ⟨⟨xs,q,Nat.le_refl _⟩,hd σ H p⟩
theorem Zkq{K:PySem.W.Frag}{a:Addr}{xs:List V}{g:TG}{tb:TS}{D:Ends}{σ:St}{H:Hp}(Pv:Nat→St→Hp→Prop)(h0:Pv 0 σ H)(hl:∀ i σ H,i≤xs.length→Pv i σ H→SqT K H a xs)
  (hs:∀ i x σ H,xs[i]? = some x→Pv i σ H→g x σ H fun σ2 H2=>tb { D with nx:=Pv (i+1),ct:=Pv (i+1),bk:=D.nx } σ2 H2) (hd:∀ σ H,Pv xs.length σ H→D.nx σ H) :
  ∃ W:Nat→Nat→St→Hp→Prop,(∃ m,W 0 m σ H)∧∀ i m σ H,W i m σ H →
   ((Itt K a).stop i H∧D.nx σ H)∨((Itt K a).go i H∧∃ N:St→Hp→Prop,(∀ σ' H',N σ' H'→∃ m',m' < m∧W (i+1) m' σ' H')∧∀ x H',(Itt K a).yld i H x H'→g x σ H' fun σ2 H2=>tb { D with nx:=N,ct:=N,bk:=D.nx } σ2 H2):=by
 refine⟨fun i m σ H=>m=xs.length - i∧i≤xs.length∧Pv i σ H,⟨xs.length,by simp,Nat.zero_le _,h0⟩,?_⟩;rintro i m σ H ⟨rfl,hi,p⟩;have q:=hl i σ H hi p;by_cases hlt:i < xs.length
 ·refine .inr ⟨⟨xs,xs[i],q,by simp [hlt]⟩,Pv (i+1),fun σ' H' p'=>⟨xs.length - (i+1),by omega,rfl,hlt,p'⟩,fun x H' y=>?_⟩
  obtain⟨e,y⟩:=y;subst e;exact hs i x σ _ (y xs q) p
 ·have e:i=xs.length:=by omega
  subst e;exact .inl ⟨⟨xs,q,Nat.le_refl _⟩,hd σ H p⟩
theorem X9{lo:Int}{n:Nat}{g:TG}{tb:TS}{D:Ends}{σ:St}{H:Hp}(Pv:Nat→St→Hp→Prop)(h0:Pv 0 σ H)
  (hs:∀ i σ H,i < n→Pv i σ H→g (.int (lo+i)) σ H fun σ2 H2=>tb { D with nx:=Pv (i+1),ct:=Pv (i+1),bk:=D.nx } σ2 H2) (hd:∀ σ H,Pv n σ H→D.nx σ H) :
  ∃ W:Nat→Nat→St→Hp→Prop,(∃ m,W 0 m σ H)∧∀ i m σ H,W i m σ H →
   ((Itr lo n).stop i H∧D.nx σ H)∨((Itr lo n).go i H∧∃ N:St→Hp→Prop,(∀ σ' H',N σ' H'→∃ m',m' < m∧W (i+1) m' σ' H')∧∀ x H',(Itr lo n).yld i H x H'→g x σ H' fun σ2 H2=>tb { D with nx:=N,ct:=N,bk:=D.nx } σ2 H2):=by
 refine⟨fun i m σ H=>m=n - i∧i≤n∧Pv i σ H,⟨n,by simp,Nat.zero_le _,h0⟩,?_⟩;rintro i m σ H ⟨rfl,hi,p⟩;by_cases hlt:i < n
 ·refine .inr ⟨hlt,Pv (i+1),fun σ' H' p'=>⟨n - (i+1),by omega,rfl,hlt,p'⟩,fun x H' y=>?_⟩
  obtain⟨e,y⟩:=y;subst e y;exact hs i σ _ hlt p
 ·have e:i=n:=by omega
  subst e;exact .inl ⟨Nat.le_refl _,hd σ H p⟩
theorem O4{c:TT}{tb:TS}{D:Ends}{σ:St}{H:Hp}(Pv:St→Hp→Prop)(μ:St→Hp→Nat)(h0:Pv σ H)
  (hs:∀ σ H,Pv σ H→c σ H fun b H1=>if b=true then tb { D with nx:=fun σ' H'=>Pv σ' H'∧μ σ' H' < μ σ H,ct:=fun σ' H'=>Pv σ' H'∧μ σ' H' < μ σ H,bk:=D.nx } σ H1 else D.nx σ H1)
  (mono:∀ σ H Q Q',(∀ b H1,Q b H1→Q' b H1)→c σ H Q→c σ H Q'):Ze6 c tb D σ H:=by
 refine⟨fun m σ H=>m=μ σ H∧Pv σ H,⟨_,rfl,h0⟩,?_⟩;rintro m σ H ⟨rfl,p⟩;refine mono σ H _ _ (fun b H1 q=>?_) (hs σ H p);cases b with
 | true=>exact⟨_,fun σ' H' ⟨p',l⟩=>⟨_,l,rfl,p'⟩,q⟩
 | false=>exact q
abbrev R2:=V→V→Hp→VK→Prop
def No(X:Cx)(f:Value→Value→Sem Value)(r:R2):Prop:=
 ∀(pins:List (Addr×Obj)) (s:Shared) (σ:St) (H:Hp) (x y:V) (v u:Value) (Q:VK),Inv X pins σ H s→RelV x v→RelV y u→r x y H Q →
  wpAny (model X.prog X.w) X.A (f v u) (EP X pins σ Q) X.xe s
def UnR(X:Cx)(f:Value→Sem Value)(r:V→Hp→VK→Prop):Prop:=
 ∀(pins:List (Addr×Obj)) (s:Shared) (σ:St) (H:Hp) (x:V) (v:Value) (Q:VK),Inv X pins σ H s→RelV x v→r x H Q →
  wpAny (model X.prog X.w) X.A (f v) (EP X pins σ Q) X.xe s
def U8(X:Cx)(f:Value)(r:List V→Hp→VK→Prop):Prop:=
 ∀(pins:List (Addr×Obj)) (s:Shared) (σ:St) (H:Hp) (xs:List V) (us:List Value) (Q:VK),Inv X pins σ H s→Vals xs us→r xs H Q →
  wpAny (model X.prog X.w) X.A (call f us) (EP X pins σ Q) X.xe s
def Zqg(X:Cx)(r:V→Hp→(Bool→Hp→Prop)→Prop):Prop:=
 ∀(pins:List (Addr×Obj)) (s:Shared) (σ:St) (H:Hp) (x:V) (v:Value) (Q:Bool→Hp→Prop),Inv X pins σ H s→RelV x v→r x H Q →
  wpAny (model X.prog X.w) X.A (truthy v) (TP X pins σ Q) X.xe s
def tOp(r:R2)(ta tb:TE):TE:=fun σ H Q=>ta σ H fun x H1=>tb σ H1 fun y H2=>r x y H2 Q
def tUn(r:V→Hp→VK→Prop)(ta:TE):TE:=fun σ H Q=>ta σ H fun x H1=>r x H1 Q
def rI(C:Int→Int→Prop)(g:Int→Int→V):R2:=fun x y H Q=>∃ i j,x = .int i∧y = .int j∧C i j∧Q (g i j) H
def rI0(g:Int→Int→V):R2:=fun x y H Q=>∃ i j,x = .int i∧y = .int j∧Q (g i j) H
def rU(g:Int→V):V→Hp→VK→Prop:=fun x H Q=>∃ i,x = .int i∧Q (g i) H
section
variable{X:Cx}{a b c:Expr}{ta tb tc:TE}{pos:Pos}
theorem Zna(ha:PE X a ta)(hb:PE X b tb){pins:List (Addr×Obj)}{s:Shared}{σ:St}{H:Hp}{R:V→V→Hp→Prop}(I:Inv X pins σ H s)
  (h:ta σ H fun x H1=>tb σ H1 fun y H2=>R x y H2) {Q:Value→Shared→Prop} {f:Value→Value→Sem Value}
  (hf:∀ v u s2 x y H2,Inv X pins σ H2 s2→RelV x v→RelV y u→R x y H2→wpAny (model X.prog X.w) X.A (f v u) Q X.xe s2) :
  wpAny (model X.prog X.w) X.A (eval a X.env) (fun v s₁=>wpAny (model X.prog X.w) X.A (eval b X.env) (fun u s₂=>wpAny (model X.prog X.w) X.A (f v u) Q X.xe s₂) X.xe s₁) X.xe s:=by
 refine Y5 (ha pins s σ H _ I h) fun v s1 ⟨x,H1,I1,r1,q1⟩=>?_;refine Y5 (hb pins s1 σ H1 _ I1 q1) fun u s2 ⟨y,H2,I2,r2,q2⟩=>?_;exact hf v u s2 x y H2 I2 r1 r2 q2
theorem Z0{op:Operator}{r:R2}(ho:No X (binaryOp op) r)(ha:PE X a ta)(hb:PE X b tb):PE X (.BinOp a op b pos) (tOp r ta tb):=by
 intro pins s σ H Q I h;exact wpAny_BinOp (Zna ha hb I h fun v u s2 x y H2 I2 rx ry q=>ho pins s2 σ H2 x y v u Q I2 rx ry q)
theorem Zlf{op:UnaryOp}{r:V→Hp→VK→Prop}(ho:UnR X (unaryOp op) r)(ha:PE X a ta):PE X (.UnaryOp op a pos) (tUn r ta):=by
 intro pins s σ H Q I h;exact UnaryOp_ (Y5 (ha pins s σ H _ I h) fun v s1 ⟨x,H1,I1,r1,q1⟩=>ho pins s1 σ H1 x v Q I1 r1 q1)
theorem opI{f:Value→Value→Sem Value}{C:Int→Int→Prop}{g:Int→Int→Int}
  (rule:∀(i j:Int) (t u:Tok) (s:Shared) (Q:Value→Shared→Prop) (E:Value→Shared→Prop),C i j→Q (.int (g i j) s.toks) { s with toks:=s.toks+1 }→wpAny (model X.prog X.w) X.A (f (.int i t) (.int j u)) Q E s) :
  No X f (rI C fun i j=>.int (g i j)):=by
 intro pins s σ H x y v u Q I rx ry h;obtain⟨i,j,rfl,rfl,hc,q⟩:=h;obtain⟨t,rfl⟩:=rx;obtain⟨t',rfl⟩:=ry;exact rule i j t t' s _ _ hc ⟨.int (g i j),H,I.tok _,⟨_,rfl⟩,q⟩
theorem Zgl{f:Value→Value→Sem Value}{g:Int→Int→Int}
  (rule:∀(i j:Int) (t u:Tok) (s:Shared) (Q:Value→Shared→Prop) (E:Value→Shared→Prop),Q (.int (g i j) s.toks) { s with toks:=s.toks+1 }→wpAny (model X.prog X.w) X.A (f (.int i t) (.int j u)) Q E s) :
  No X f (rI0 fun i j=>.int (g i j)):=by
 intro pins s σ H x y v u Q I rx ry h;obtain⟨i,j,rfl,rfl,q⟩:=h;obtain⟨t,rfl⟩:=rx;obtain⟨t',rfl⟩:=ry;exact rule i j t t' s _ _ ⟨.int (g i j),H,I.tok _,⟨_,rfl⟩,q⟩
theorem Zmn{f:Value→Value→Sem Value}{g:Int→Int→Bool}
  (rule:∀(i j:Int) (t u:Tok) (s:Shared) (Q:Value→Shared→Prop) (E:Value→Shared→Prop),Q (.bool (g i j)) s→wpAny (model X.prog X.w) X.A (f (.int i t) (.int j u)) Q E s) :
  No X f (rI0 fun i j=>.bl (g i j)):=by
 intro pins s σ H x y v u Q I rx ry h;obtain⟨i,j,rfl,rfl,q⟩:=h;obtain⟨t,rfl⟩:=rx;obtain⟨t',rfl⟩:=ry;exact rule i j t t' s _ _ ⟨.bl (g i j),H,I,rfl,q⟩
def Zql(i j:Int):Prop:=0 < j∧j < 1073741824
def Zqk(i j:Int):Prop:=0≤j∧j≤1000000∧i.natAbs < 2 ^ 64
def CMul(i j:Int):Prop:=(-(2 ^ 64) < i∧i < 2 ^ 64)∨(-(2 ^ 64) < j∧j < 2 ^ 64)
theorem CMul.ok{i j:Int}(h:CMul i j):IntMulOk i j:=by
 rcases h with⟨h1,h2⟩ | ⟨h1,h2⟩
 ·exact .of_left (intBits_le_64 h1 h2)
 ·exact .of_right (intBits_le_64 h1 h2)
theorem K5(k:Nat):(0:Int)≤2 ^ k:=by
 rw[two_pow_cast];exact Int.natCast_nonneg _
theorem Yq:No X (binaryOp .Add) (rI0 fun i j=>.int (i+j)):=Zgl fun _ _ _ _ _ _ _ q=>add_int q
theorem Zgk:No X (binaryOp .Sub) (rI0 fun i j=>.int (i - j)):=Zgl fun _ _ _ _ _ _ _ q=>sub_int q
theorem Xd:No X (binaryOp .Mult) (rI CMul fun i j=>.int (i * j)):=opI fun _ _ _ _ _ _ _ hc q=>mul_int q hc.ok
theorem J1:No X (binaryOp .FloorDiv) (rI Zql fun i j=>.int (i / j)):=opI fun i j _ _ _ _ _ hc q=>by
 have h1:(0:Int) < j:=hc.1;have h2:j < 1073741824:=hc.2;exact floordiv_int (by omega) (by rw[Int.fdiv_eq_ediv_of_nonneg i (by omega)];exact q) (.inl (PyProof.noPylong_small (by omega)))
theorem Yg:No X (binaryOp .Mod) (rI (fun _ j=>0 < j) fun i j=>.int (i % j)):=opI fun i j _ _ _ _ _ hc q=>by
 have h1:(0:Int) < j:=hc;exact mod_int' (by omega) (by rw[Int.fmod_eq_emod_of_nonneg i (by omega)];exact q)
theorem Vv:No X (binaryOp .LShift) (rI Zqk fun i j=>.int (i * 2 ^ j.toNat)):=opI fun _ _ _ _ _ _ _ hc q=>lshift_int_small hc.1 hc.2.1 hc.2.2 q
theorem Zmk:No X (binaryOp .RShift) (rI (fun _ j=>0≤j) fun i j=>.int (i / 2 ^ j.toNat)):=opI fun i j _ _ _ _ _ hc q=>
 rshift_int hc (by rw[Int.fdiv_eq_ediv_of_nonneg i (K5 _)];exact q)
theorem On:No X (binaryOp .BitAnd) (rI0 fun i j=>.int (Builtin.bitAnd i j)):=Zgl fun _ _ _ _ _ _ _ q=>and_int q
theorem Zby:No X (binaryOp .BitOr) (rI0 fun i j=>.int (Builtin.bitOr i j)):=Zgl fun _ _ _ _ _ _ _ q=>or_int q
theorem Zmj:No X (binaryOp .BitXor) (rI0 fun i j=>.int (Builtin.bitXor i j)):=Zgl fun _ _ _ _ _ _ _ q=>xor_int q
theorem unI{f:Value→Sem Value}{g:Int→Int}
  (rule:∀(i:Int) (t:Tok) (s:Shared) (Q:Value→Shared→Prop) (E:Value→Shared→Prop),Q (.int (g i) s.toks) { s with toks:=s.toks+1 }→wpAny (model X.prog X.w) X.A (f (.int i t)) Q E s) :
  UnR X f (rU fun i=>.int (g i)):=by
 intro pins s σ H x v Q I rx h;obtain⟨i,rfl,q⟩:=h;obtain⟨t,rfl⟩:=rx;exact rule i t s _ _ ⟨.int (g i),H,I.tok _,⟨_,rfl⟩,q⟩
theorem Zew:UnR X (unaryOp .USub) (rU fun i=>.int (-i)):=unI fun _ _ _ _ _ q=>neg_int q
end
def Zl4:V→V→Bool
 | .non,.non=>true | .non,.int _=>true | .int _,.non=>true | .non,.bl _=>true | .bl _,.non=>true | .non,.str _=>true | .str _,.non=>true
 | .int _,.int _=>true | .bl _,.bl _=>true | .str _,.str _=>true | .byt _,.byt _=>true
 | .int _,.str _=>true | .str _,.int _=>true | .bl _,.str _=>true | .str _,.bl _=>true
 | _,_=>false
def rEq:R2:=fun x y H Q=>Zl4 x y=true∧Q (.bl (decide (x=y))) H
def rNe:R2:=fun x y H Q=>Zl4 x y=true∧Q (.bl (!decide (x=y))) H
theorem Zcj{i j:Int}:decide (V.int i=V.int j)=(i == j):=by
 rw[Bool.eq_iff_iff];simp
theorem Zia{i j:Bool}:decide (V.bl i=V.bl j)=(i == j):=by
 rw[Bool.eq_iff_iff];simp
theorem Zch{i j:Str}:decide (V.str i=V.str j)=(i == j):=by
 rw[Bool.eq_iff_iff];simp
theorem Zck{i j:Array UInt8}:decide (V.byt i=V.byt j)=(i.toList == j.toList):=by
 rw[Bool.eq_iff_iff];cases i;cases j;simp
section
variable{X:Cx}{a b c:Expr}{ta tb tc:TE}{pos:Pos}
theorem Yr{pins:List (Addr×Obj)}{σ:St}{H:Hp}{s:Shared}{Q:VK}{k k':Bool}(I:Inv X pins σ H s)(q:Q (.bl k) H)(e:k=k'):EP X pins σ Q (.bool k') s:=by
 subst e;exact⟨.bl k,H,I,rfl,q⟩
theorem Uc:No X (compareOp .Eq) rEq:=by
 intro pins s σ H x y v u Q I rx ry h;obtain⟨hs,q⟩:=h;cases x with
 | non=>
  cases rx;cases y with
  | non=>cases ry;exact PySem.EqNone.eq_none_none (Yr I q (by simp))
  | bl j=>cases ry;exact PySem.EqNone.eq_none_bool (Yr I q (by simp))
  | int j=>obtain⟨t',rfl⟩:=ry;exact PySem.EqNone.eq_none_int (Yr I q (by simp))
  | str j=>obtain⟨t',rfl⟩:=ry;exact PySem.EqNone.eq_none_str (Yr I q (by simp))
  | _=>exact absurd (show false=true from hs) Zz
 | bl i=>
  cases rx;cases y with
  | non=>cases ry;exact PySem.EqNone.eq_bool_none (Yr I q (by simp))
  | bl j=>cases ry;exact eq_bool (Yr I q Zia)
  | str j=>obtain⟨t',rfl⟩:=ry;exact PySem.EqMixed.eq_bool_str (Yr I q (by simp))
  | _=>exact absurd (show false=true from hs) Zz
 | int i=>
  obtain⟨t,rfl⟩:=rx;cases y with
  | non=>cases ry;exact PySem.EqNone.eq_int_none (Yr I q (by simp))
  | int j=>obtain⟨t',rfl⟩:=ry;exact eq_int (Yr I q Zcj)
  | str j=>obtain⟨t',rfl⟩:=ry;exact PySem.EqMixed.eq_int_str (Yr I q (by simp))
  | _=>exact absurd (show false=true from hs) Zz
 | str i=>
  obtain⟨t,rfl⟩:=rx;cases y with
  | non=>cases ry;exact PySem.EqNone.eq_str_none (Yr I q (by simp))
  | bl j=>cases ry;exact PySem.EqMixed.eq_str_bool (Yr I q (by simp))
  | int j=>obtain⟨t',rfl⟩:=ry;exact PySem.EqMixed.eq_str_int (Yr I q (by simp))
  | str j=>obtain⟨t',rfl⟩:=ry;exact eq_str (Yr I q Zch)
  | _=>exact absurd (show false=true from hs) Zz
 | byt i=>
  obtain⟨t,rfl⟩:=rx;cases y with
  | byt j=>obtain⟨t',rfl⟩:=ry;exact W.eq_bytes (Yr I q Zck)
  | _=>exact absurd (show false=true from hs) Zz
 | _=>cases y<;>exact absurd (show false=true from hs) Zz
theorem Qf:No X (compareOp .NotEq) rNe:=by
 intro pins s σ H x y v u Q I rx ry h;obtain⟨hs,q⟩:=h;cases x with
 | non=>
  cases rx;cases y with
  | non=>cases ry;exact PySem.EqNone.ne_none_none (Yr I q (by simp))
  | bl j=>cases ry;exact PySem.EqNone.ne_none_bool (Yr I q (by simp))
  | int j=>obtain⟨t',rfl⟩:=ry;exact PySem.EqNone.ne_none_int (Yr I q (by simp))
  | str j=>obtain⟨t',rfl⟩:=ry;exact PySem.EqNone.ne_none_str (Yr I q (by simp))
  | _=>exact absurd (show false=true from hs) Zz
 | bl i=>
  cases rx;cases y with
  | non=>cases ry;exact PySem.EqNone.ne_bool_none (Yr I q (by simp))
  | bl j=>cases ry;exact ne_bool (Yr I q (congrArg not Zia))
  | str j=>obtain⟨t',rfl⟩:=ry;exact PySem.EqMixed.ne_bool_str (Yr I q (by simp))
  | _=>exact absurd (show false=true from hs) Zz
 | int i=>
  obtain⟨t,rfl⟩:=rx;cases y with
  | non=>cases ry;exact PySem.EqNone.ne_int_none (Yr I q (by simp))
  | int j=>obtain⟨t',rfl⟩:=ry;exact ne_int (Yr I q (congrArg not Zcj))
  | str j=>obtain⟨t',rfl⟩:=ry;exact PySem.EqMixed.ne_int_str (Yr I q (by simp))
  | _=>exact absurd (show false=true from hs) Zz
 | str i=>
  obtain⟨t,rfl⟩:=rx;cases y with
  | non=>cases ry;exact PySem.EqNone.ne_str_none (Yr I q (by simp))
  | bl j=>cases ry;exact PySem.EqMixed.ne_str_bool (Yr I q (by simp))
  | int j=>obtain⟨t',rfl⟩:=ry;exact PySem.EqMixed.ne_str_int (Yr I q (by simp))
  | str j=>obtain⟨t',rfl⟩:=ry;exact ne_str (Yr I q (congrArg not Zch))
  | _=>exact absurd (show false=true from hs) Zz
 | byt i=>
  obtain⟨t,rfl⟩:=rx;cases y with
  | byt j=>obtain⟨t',rfl⟩:=ry;exact W.ne_bytes (Yr I q (congrArg not Zck))
  | _=>exact absurd (show false=true from hs) Zz
 | _=>cases y<;>exact absurd (show false=true from hs) Zz
theorem Zbz:No X (compareOp .Lt) (rI0 fun i j=>.bl (decide (i < j))):=Zmn fun _ _ _ _ _ _ _ q=>lt_int q
theorem Qg:No X (compareOp .Gt) (rI0 fun i j=>.bl (decide (j < i))):=Zmn fun _ _ _ _ _ _ _ q=>gt_int q
theorem Zli:No X (compareOp .GtE) (rI0 fun i j=>.bl (decide (j≤i))):=Zmn fun _ _ _ _ _ _ _ q=>ge_int q
theorem Vw:No X (compareOp .Is) (fun x y H Q=>y = .non∧Q (.bl (decide (x = .non))) H):=by
 intro pins s σ H x y v u Q I rx ry h;obtain⟨rfl,q⟩:=h;cases ry;refine is_none_gen (Yr I q ?_);cases x<;>first
  | (cases rx;rfl)
  | (obtain⟨t,rfl⟩:=rx;rfl)
theorem Ry:No X (compareOp .IsNot) (fun x y H Q=>y = .non∧Q (.bl (!decide (x = .non))) H):=by
 intro pins s σ H x y v u Q I rx ry h;obtain⟨rfl,q⟩:=h;cases ry;refine isnot_none_gen (Yr I q ?_);cases x<;>first
  | (cases rx;rfl)
  | (obtain⟨t,rfl⟩:=rx;rfl)
theorem Jd(b:Expr){op:CmpOp}(h:op ≠ .In:=by decide)(h2:op ≠ .NotIn:=by decide):behindInMarks op b=false:=by
 have e1:(op == CmpOp.In)=false:=by cases op<;>first | rfl | exact absurd rfl h
 have e2:(op == CmpOp.NotIn)=false:=by cases op<;>first | rfl | exact absurd rfl h2
 cases b<;>simp [behindInMarks,e1,e2]
theorem Xa{op:CmpOp}{r:R2}(ho:No X (compareOp op) r)(ha:PE X a ta)(hb:PE X b tb)(hm:behindInMarks op b=false):PE X (.Compare a [op] [b] pos) (tOp r ta tb):=by
 intro pins s σ H Q I h;exact wpAny_Compare1 (Zna ha hb I h fun v u s2 x y H2 I2 rx ry q=>ho pins s2 σ H2 x y v u Q I2 rx ry q) hm
def Zk7(t:TE):TT:=fun σ H Q=>t σ H fun x H'=>∃ k,x = .bl k∧Q k H'
theorem Z7{op:CmpOp}{r:R2}(ho:No X (compareOp op) r)(ha:PE X a ta)(hb:PE X b tb)(hm:behindInMarks op b=false):PT X (.Compare a [op] [b] pos) (Zk7 (tOp r ta tb)):=by
 intro pins s σ H Q I h;refine wpAny_isTrue_Compare1 (Y5 (ha pins s σ H _ I h) fun v s1 ⟨x,H1,I1,r1,q1⟩=>Y5 (hb pins s1 σ H1 _ I1 q1) fun u s2 ⟨y,H2,I2,r2,q2⟩=>
  Y5 (ho pins s2 σ H2 x y v u _ I2 r1 r2 q2) fun c s3 ⟨z,H3,I3,r3,k,e,q3⟩=>?_) hm
 subst e;cases r3;exact wpAny_truthy_bool ⟨H3,I3,q3⟩
def Zo1(K:W.Frag)(x:V)(H:Hp)(k:Bool):Prop:=
 match x with
 | .non=>k=false
 | .bl b=>k=b
 | .int i=>k=(i != 0)
 | .str y=>y.length≤sizeLine∧k=((y.length:Int) != 0)
 | .byt y=>y.size≤sizeLine∧k=((y.size:Int) != 0)
 | .ref p=>(∃ xs,SqL K H p xs∧k = !xs.isEmpty)∨(∃ xs,SqT K H p xs∧k = !xs.isEmpty)∨∃ kvs,H p=some (.dK kvs)∧k = !kvs.isEmpty
 | _=>False
theorem Zas{κ:Type}{kvs:List (κ×V)}{vs:List (κ×Value)}(r:KV kvs vs):(!vs.isEmpty) = !kvs.isEmpty:=by
 cases r<;>rfl
theorem Tg{xs:List V}{its:List Value}(r:Vals xs its):(!its.toArray.isEmpty) = !xs.isEmpty:=by
 cases r<;>simp
theorem N7:(sizeLine:Nat) < 2 ^ 63:=by rw[sizeLine_eq];decide
theorem Ze0:Zqg X (fun x H Q=>∃ k,Zo1 X.K x H k∧Q k H):=by
 intro pins s σ H x v Q I rx h;obtain⟨k,e,q⟩:=h;have hl:=N7;have hs:sizeLine=16777216:=sizeLine_eq;cases x with
 | non=>
  cases rx;have e':k=false:=e;subst e';exact truthy_none ⟨H,I,q⟩
 | bl b=>
  cases rx;have e':k=b:=e;subst e';exact wpAny_truthy_bool ⟨H,I,q⟩
 | int i=>
  obtain⟨t,rfl⟩:=rx;have e':k=(i != 0):=e;subst e';exact PySem.P.truthy_int ⟨H,I,q⟩
 | str y=>
  obtain⟨t,rfl⟩:=rx;obtain⟨hy,e'⟩:y.length≤sizeLine∧k=((y.length:Int) != 0):=e;subst e';exact PySem.P.truthy_str (by omega) ⟨H,I.tok _,q⟩
 | byt y=>
  obtain⟨t,rfl⟩:=rx;obtain⟨hy,e'⟩:y.size≤sizeLine∧k=((y.size:Int) != 0):=e;subst e';exact W.truthy_bytes (by omega) ⟨H,I.tok _,q⟩
 | ref p=>
  cases rx;have e':(∃ xs,SqL X.K H p xs∧k = !xs.isEmpty)∨(∃ xs,SqT X.K H p xs∧k = !xs.isEmpty)∨∃ kvs,H p=some (.dK kvs)∧k = !kvs.isEmpty:=e;rcases e' with⟨xs,hx,e'⟩ | ⟨xs,hx,e'⟩ | ⟨kvs,hx,e'⟩
  ·subst e'
   obtain⟨its,r,pl,hz⟩:=I.list hx;have hlen:=r.length;exact wpAny_truthy_list pl.isList (by simp only[List.size_toArray];omega) ⟨H,I.tok _,by rw[Tg r];exact q⟩
  ·subst e'
   obtain⟨its,r,pl,hz⟩:=I.tuple hx;have hlen:=r.length;exact truthy_tuple pl (by simp only[List.size_toArray];omega) ⟨H,I.tok _,by rw[Tg r];exact q⟩
  ·subst e'
   obtain⟨hz,hS,vs,r,m⟩:kvs.length≤sizeLine∧(p == sysModules)=false∧∃ vs,KV kvs vs∧s.heap.DictOf (Ul X.prog X.w) p vs:=I.hok p _ hx;have hlen:kvs.length=vs.length:=Paired.length r;exact wpAny_truthy_dict hS m (by omega) ⟨H,I.tok _,by rw[Zas r];exact q⟩
 | _=>exact(show False from e).elim
theorem Ug(ha:PE X a ta)(he:∀ whole,isTrue a X.env whole=(do let v ← whole;standAt a.pos;holding [v] (truthy v))) :
  PT X a (fun σ H Q=>ta σ H fun x H'=>∃ k,Zo1 X.K x H' k∧Q k H'):=by
 intro pins s σ H Q I h;exact isTrue_plain (Y5 (ha pins s σ H _ I h) fun v s1 ⟨x,H1,I1,r1,q1⟩=>Ze0 pins s1 σ H1 x v Q I1 r1 q1) (he _)
theorem Y9:No X (binaryOp .Add) (fun x y H Q=>∃ i j,x = .str i∧y = .str j∧i.length+j.length≤sizeLine∧Q (.str (i++j)) H):=by
 intro pins s σ H x y v u Q I rx ry h;obtain⟨i,j,rfl,rfl,hz,q⟩:=h;obtain⟨t,rfl⟩:=rx;obtain⟨t',rfl⟩:=ry;exact add_str (fun t' tk=>⟨.str (i++j),H,I.tok _,⟨_,rfl⟩,q⟩) hz
theorem Xc{x:V}{us:List Value}(r:Vals [x] us):∃ u,us=[u]∧RelV x u:=by
 cases r with
 | cons r1 r2=>cases r2;exact⟨_,rfl,r1⟩
theorem O5{x y:V}{us:List Value}(r:Vals [x,y] us):∃ u w',us=[u,w']∧RelV x u∧RelV y w':=by
 cases r with
 | cons r1 r2=>
  cases r2 with
  | cons r3 r4=>cases r4;exact⟨_,_,rfl,r1,r3⟩
theorem Zel(hc:X.calm=true):U8 X (.builtin "max") (fun xs H Q=>∃ i j,xs=[.int i,.int j]∧Q (.int (if j > i then j else i)) H):=by
 intro pins s σ H xs us Q I r h;obtain⟨i,j,rfl,q⟩:=h;obtain⟨u,w',rfl,⟨t,rfl⟩,⟨t',rfl⟩⟩:=O5 r;refine max_two_ints (I.ok.hd hc) fun h' tk k=>⟨_,H,I.kept k,?_,q⟩;by_cases hj:j > i
 ·rw[if_pos hj,if_pos hj];exact⟨_,rfl⟩
 ·rw[if_neg hj,if_neg hj];exact⟨_,rfl⟩
theorem Zej(hc:X.calm=true):U8 X (.builtin "min") (fun xs H Q=>∃ i j,xs=[.int i,.int j]∧Q (.int (if j < i then j else i)) H):=by
 intro pins s σ H xs us Q I r h;obtain⟨i,j,rfl,q⟩:=h;obtain⟨u,w',rfl,⟨t,rfl⟩,⟨t',rfl⟩⟩:=O5 r;refine min_two_ints (I.ok.hd hc) fun h' tk k=>⟨_,H,I.kept k,?_,q⟩;by_cases hj:j < i
 ·rw[if_pos hj,if_pos hj];exact⟨_,rfl⟩
 ·rw[if_neg hj,if_neg hj];exact⟨_,rfl⟩
theorem Ej:U8 X (.type "str") (fun xs H Q=>∃ i,xs=[.int i]∧i.natAbs.log2 < 1920∧Q (.str (toString i)) H):=by
 intro pins s σ H xs us Q I r h;obtain⟨i,rfl,hz,q⟩:=h;obtain⟨u,rfl,t,rfl⟩:=Xc r;exact PySem.P.str_of_int hz ⟨.str _,H,I.tok _,⟨_,rfl⟩,q⟩
end
structure ObjM(h:Heap)(x dx C:Addr)(mA:Str→Option Value):Prop where
 obj:h.get? x=some (W.instObj C dx)
 ns:h.Ns1 dx mA
 ne:dx≠x
theorem Vz{h:Heap}{dx:Addr}{mA:Str→Option Value}(n:h.Ns1 dx mA):∃ od,h.get? dx=some od∧∀ name,W.lookIn name od=some (mA name):=by
 obtain⟨o,es,ep,ho,hd,hk,_,hm⟩:=n;refine⟨o,ho,fun name=>?_⟩;have e:=hm name;unfold nsFind findBy at e;rw[← Array.find?_toList] at e;unfold W.lookIn;rw[hd];dsimp only;split
 ·rename_i y q
  rw[q] at e;exact congrArg some e
 ·rename_i q
  rw[q] at e;have a:es.toList.any (·.refKey)=false:=by
   rw[List.any_eq_false];intro y hy;obtain⟨z,t,hkey⟩:=hk y (Array.mem_toList_iff.mp hy);simp [DictEntry.refKey,hkey]
  have a':¬ es.toList.any (·.refKey)=true:=by rw[a];exact Zz
  rw[if_neg a'];exact congrArg some e
theorem ObjM.look{h:Heap}{x dx C:Addr}{mA:Str→Option Value}(I:ObjM h x dx C mA):∃ od,W.InstAt h x (W.instObj C dx) C (some od)∧∀ name,W.lookIn name od=some (mA name):=
 let ⟨od,ho,hl⟩:=Vz I.ns
 ⟨od,⟨I.obj,rfl,rfl,ho⟩,hl⟩
section
variable{prog:Program}{w:World}{A:Around}{E:Value→Shared→Prop}{s:Shared}{K:W.Frag}{x dx C f:Addr}{mA:Str→Option Value}{name:Str}{v:Value}
theorem Zkm{expr:Bool}{Q:Value→Shared→Prop}(X:K.In s.heap)(I:ObjM s.heap x dx C mA)(hg:W.plainGet K C name=true)(hh:W.hasDictIn K C=true)
  (ha:W.findIn K (.ref C) name=some none) (hv:mA name=some v) (hv':W.handedIn v=true) (h:Q v { s with toks:=s.toks+1 }) :
  wpAny (model prog w) A (getAttr (.ref x) name expr) Q E s:=by
 obtain⟨od,J,hl⟩:=I.look;exact W.get_value X J (W.plainGet_of hg).1 (W.findObj_own hh ha rfl (by rw[hl,hv])) hv' h
theorem Zhw{pl:Sem Bool}{Q:Value×List Value→Shared→Prop}(X:K.In s.heap)(I:ObjM s.heap x dx C mA)(hg:W.plainGet K C name=true)
  (hf:W.findIn K (.ref C) name=some (some (.ref f))) (ht:W.isFn K (.ref f)=true) (hv:mA name=none) (h:Q (.ref f,[.ref x]) s) :
  wpAny (model prog w) A (getMethod (.ref x) name pl) Q E s:=by
 obtain⟨od,J,hl⟩:=I.look;exact W.method_fn X J (W.plainGet_of hg).1 (W.plainGet_of hg).2 hf (beq_iff_eq.mp ht) (by show(W.lookIn name od).map (·.isSome)=some false;rw[hl,hv];rfl) h
theorem Zi0{ns:List Str}{Q:Unit→Shared→Prop}(X:K.In s.heap)(I:ObjM s.heap x dx C mA)
  (hs:W.findIn K (.ref C) "__setattr__" = some (some (.builtin "object.__setattr__"))) (hp:W.plainOver K C=true) (ht:W.takerIn K C name=some none) (hh:W.hasDictIn K C=true)
  (hw:PySem.Within mA ns) (hsz:ns.length≤sizeLine)
  (h:∀ h',ObjM h' x dx C (fun y=>if y=name then some v else mA y)→Heap.SameBut dx s.heap h'→Q () { s with heap:=h',toks:=s.toks+2 }) :
  wpAny (model prog w) A (setAttr (.ref x) name v) Q E s:=by
 obtain⟨od,J,hl⟩:=I.look;refine W.set_plain X J hs (W.osa_open (s:={ s with toks:=s.toks+1 }) (r:=none) X J hp ht fun b=>?_);obtain⟨cd,hc,hd'⟩:=W.any_some hh;have hx:s.heap.get? x=some ⟨.ref C,some dx,.plain,#[]⟩:=I.obj;refine Zc (wpAny_pure (Zc (Zc (wpAny_loadPart hx (Zc (W.Looks.here (s:={ s with toks:=s.toks+1 }) (W.looks_clsIn X hc) ?_))))));rw[hd'];refine wpAny_pure (a:=some dx) (Zc (wpAny_pure (Zc ?_)));refine wpAny_nsSet1 (s:={ s with toks:=s.toks+1 }) I.ns fun h' hn2 hs2=>?_;obtain⟨oD,esD,epD,hoD,hdD,hcD⟩:=hn2.count (PySem.Within.cons name v hw);refine Zc (wpAny_lookBehind hoD (by rw[hdD];exact pastItsLine_dict (Nat.le_trans hcD (by rw[Jk];omega))) ?_);exact wpAny_pure (h _ ⟨(hs2.2 _ (Ne.symm I.ne)).trans I.obj,hn2,I.ne⟩ hs2)
theorem Zhi{R:Result→Shared→Prop}{vs:List Value}{kw:List (Str×Value)}(X:K.In s.heap)(hm:W.makesIn K C=true)
  (hi:W.findIn K (.ref C) "__init__" = some (some (.ref f))) (hf:W.typeIn K (.ref f)=some (.type "function"))
  (h:codeAny (model prog w) (A.under (.builtin "type.__call__" ⟨.ref C :: vs,kw⟩)) (.call (.ref f) ⟨.ref (s.heap.objs.size+1) :: vs,kw⟩) (W.InitBack (s.heap.objs.size+1) R)
   { s with heap:=(s.heap.push W.emptyDict).push (W.instObj C s.heap.objs.size) }) :
  codeAny (model prog w) A (.call (.ref C) ⟨vs,kw⟩) R s:=by
 obtain⟨hh,g,d,t,os⟩:=s;exact W.make_core (W.makes_of X hm) (W.looks_findIn X hi) (fun self=>W.bind_fn X self hf) (.inl rfl) h
theorem Zdv{R:Result→Shared→Prop}(X:K.In s.heap)(hm:W.makesIn K C=true)
  (hi:W.findIn K (.ref C) "__init__" = some (some (.builtin "object.__init__")))
  (hb:∀ self,W.Looks (model prog w) s.heap (bindSpecial (.builtin "object.__init__") self) (.builtin "object.__init__",[self]))
  (h:codeAny (model prog w) (A.under (.builtin "type.__call__" ⟨[.ref C],[]⟩)) (.call (.builtin "object.__init__") ⟨[.ref (s.heap.objs.size+1)],[]⟩) (W.InitBack (s.heap.objs.size+1) R)
   { s with heap:=(s.heap.push W.emptyDict).push (W.instObj C s.heap.objs.size) }) :
  codeAny (model prog w) A (.call (.ref C) ⟨[],[]⟩) R s:=by
 obtain⟨hh,g,d,t,os⟩:=s;exact W.make_core (W.makes_of X hm) (W.looks_findIn X hi) hb (.inr ⟨rfl,rfl⟩) h
end
def Yu(f:Str)(v:V):List (Str×V)→List (Str×V)
 | []=>[(f,v)]
 | (g,x) :: r=>if g=f then(g,v) :: r else(g,x) :: Yu f v r
theorem Zo(f g:Str)(v:V):∀ fs:List (Str×V),(Yu f v fs).lookup g=if g=f then some v else fs.lookup g
 | []=>by
  show List.lookup g [(f,v)]=_;by_cases h:g=f
  ·have hb:(g == f)=true:=beq_iff_eq.mpr h
   simp only[List.lookup,hb,if_pos h]
  ·have hb:(g == f)=false:=beq_eq_false_iff_ne.mpr h
   simp only[List.lookup,hb,if_neg h]
 | (k,x) :: r=>by
  have ih:=Zo f g v r;rw[show Yu f v ((k,x) :: r)=(if k=f then(k,v) :: r else(k,x) :: Yu f v r) from rfl];by_cases hk:k=f
  ·rw[if_pos hk]
   by_cases h:g=k
   ·have hb:(g == k)=true:=beq_iff_eq.mpr h
    simp only[List.lookup,hb,if_pos (h.trans hk)]
   ·have hb:(g == k)=false:=beq_eq_false_iff_ne.mpr h
    simp only[List.lookup,hb,if_neg (fun e:g=f=>h (e.trans hk.symm))]
  ·rw[if_neg hk]
   by_cases h:g=k
   ·have hb:(g == k)=true:=beq_iff_eq.mpr h
    simp only[List.lookup,hb,if_neg (fun e:g=f=>hk (h.symm.trans e))]
   ·have hb:(g == k)=false:=beq_eq_false_iff_ne.mpr h
    simp only[List.lookup,hb];exact ih
theorem V0(f:Str)(v:V):∀ fs:List (Str×V),f∈(Yu f v fs).map (·.1)∧∀ g,g∈fs.map (·.1)→g∈(Yu f v fs).map (·.1)
 | []=>⟨by simp [Yu],fun g h=>by simp at h⟩
 | (k,x) :: r=>by
  obtain⟨i1,i2⟩:=V0 f v r;rw[show Yu f v ((k,x) :: r)=(if k=f then(k,v) :: r else(k,x) :: Yu f v r) from rfl];by_cases hk:k=f
  ·rw[if_pos hk]
   subst hk;exact⟨by simp,fun g h=>by simpa using h⟩
  ·rw[if_neg hk]
   refine⟨?_,fun g h=>?_⟩
   ·rw[List.map_cons]
    exact Zx _ i1
   ·rw[List.map_cons] at h ⊢
    rcases List.mem_cons.mp h with e | e
    ·exact List.mem_cons.mpr (.inl e)
    ·exact Zx _ (i2 g e)
theorem Y8(f:Str)(v:V):∀ fs:List (Str×V),(Yu f v fs).length≤fs.length+1
 | []=>by simp [Yu]
 | (k,x) :: r=>by
  have ih:=Y8 f v r;rw[show Yu f v ((k,x) :: r)=(if k=f then(k,v) :: r else(k,x) :: Yu f v r) from rfl];by_cases hk:k=f
  ·rw[if_pos hk,Jk,Jk];omega
  ·rw[if_neg hk,Jk,Jk];omega
theorem RelO.some_of{v:V}{o:Option Value}(r:RelO (some v) o):∃ u,o=some u∧RelV v u:=by
 cases o with
 | none=>exact(show False from r).elim
 | some u=>exact⟨u,rfl,r⟩
theorem RelO.none_of{o:Option Value}(r:RelO none o):o=none:=by
 cases o with
 | none=>rfl
 | some u=>exact(show False from r).elim
theorem Mu{v:V}{u:Value}(r:RelV v u):W.handedIn u=true:=by
 cases v with
 | non=>cases (show u=Value.none from r);rfl
 | bl b=>cases (show u=Value.bool b from r);rfl
 | int i=>obtain⟨t,e⟩:=(show ∃ t,u=Value.int i t from r);cases e;rfl
 | str x=>obtain⟨t,e⟩:=(show ∃ t,u=Value.str x t from r);cases e;rfl
 | byt b=>obtain⟨t,e⟩:=(show ∃ t,u=Value.bytes b t from r);cases e;rfl
 | flt b=>obtain⟨t,e⟩:=(show ∃ t,u=Value.float b t from r);cases e;rfl
 | ref a=>cases (show u=Value.ref a from r);rfl
 | ty n=>cases (show u=Value.type n from r);rfl
section
variable{P:Program}{w:World}{H H':Hp}{h h':Heap}{a C dx:Addr}{fs fs':List (Str×V)}
theorem R0(hok:HOk P w H h)(e:H a=some (.ins C dx fs)):∃ mA,ObjM h a dx C mA∧(∀ f,RelO (fs.lookup f) (mA f))∧PySem.Within mA (fs.map (·.1))∧fs.length≤1000∧H dx=some (.own a):=by
 obtain⟨d,z,ne,ob,mA,n,r,q⟩:=(show ObjOk P w H h a (.ins C dx fs) from hok a _ e);exact⟨mA,⟨ob,n,ne⟩,r,q,z,d⟩
end
structure Cls(K:W.Frag)(C:Addr):Prop where
 pg:W.plainGet K C Str.empty=true
 hd:W.hasDictIn K C=true
 po:W.plainOver K C=true
 sa:W.findIn K (.ref C) "__setattr__" = some (some (.builtin "object.__setattr__"))
theorem Cls.get{K:W.Frag}{C:Addr}(c:Cls K C)(f:Str):W.plainGet K C f=true:=c.pg
def NoAttr(K:W.Frag)(C:Addr)(f:Str):Prop:=W.findIn K (.ref C) f=some none
theorem NoAttr.taker{K:W.Frag}{C:Addr}{f:Str}(n:NoAttr K C f):W.takerIn K C f=some none:=by
 unfold W.takerIn;rw[show W.findIn K (.ref C) f=some none from n];rfl
structure Meth(K:W.Frag)(C:Addr)(m:Str)(f:Addr):Prop where
 at_:W.findIn K (.ref C) m=some (some (.ref f))
 fn:W.isFn K (.ref f)=true
 kp:W.keepIn K (.ref f)=true
section
variable{X:Cx}{pins:List (Addr×Obj)}{σ:St}{H:Hp}{s:Shared}{a C dx:Addr}{fs:List (Str×V)}{f:Str}{v:V}{A:Around}{E:Value→Shared→Prop}
theorem Zav{b:Bool}{Q:Value→Shared→Prop}(I:Inv X pins σ H s)(e:H a=some (.ins C dx fs))(c:Cls X.K C)(n:NoAttr X.K C f)(l:fs.lookup f=some v)
  (h:∀ u s',Inv X pins σ H s'→RelV v u→Q u s'):wpAny (model X.prog X.w) A (getAttr (.ref a) f b) Q E s:=by
 obtain⟨mA,O,r,_,_,_⟩:=R0 I.hok e;obtain⟨u,hu,ru⟩:=RelO.some_of (v:=v) (o:=mA f) (by rw[← l];exact r f);exact Zkm I.kIn O (c.get f) c.hd n hu (Mu ru) (h u _ (I.tok _) ru)
theorem Qh{m:Str}{g:Addr}{pl:Sem Bool}{Q:Value×List Value→Shared→Prop}(I:Inv X pins σ H s)(e:H a=some (.ins C dx fs))(c:Cls X.K C)(k:Meth X.K C m g)(l:fs.lookup m=none)
  (h:Q (.ref g,[.ref a]) s):wpAny (model X.prog X.w) A (getMethod (.ref a) m pl) Q E s:=by
 obtain⟨mA,O,r,_,_,_⟩:=R0 I.hok e;have hn:mA m=none:=RelO.none_of (by rw[← l];exact r m);exact Zhw I.kIn O (c.get m) k.at_ k.fn hn h
theorem Sn{y:V}{u:Value}{Q:Unit→Shared→Prop}(I:Inv X pins σ H s)(e:H a=some (.ins C dx fs))(c:Cls X.K C)(n:NoAttr X.K C f)(hl:fs.length < 1000)(ry:RelV y u)
  (h:∀ s',Inv X pins σ (upd H a (.ins C dx (Yu f y fs))) s'→Q () s'):wpAny (model X.prog X.w) A (setAttr (.ref a) f u) Q E s:=by
 obtain⟨mA,O,r,wi,_,ho⟩:=R0 I.hok e;have hz:(fs.map (·.1)).length≤sizeLine:=by rw[Zi,sizeLine_eq];omega
 refine Zi0 I.kIn O c.sa c.po n.taker c.hd wi hz fun h' O' sb=>h _ ?_;have hd:∃ o,h'.get? dx=some o:=let ⟨o,_,_,e',_⟩:=O'.ns;⟨o,e'⟩;refine I.write (x:=a) (e:=dx) (by rw[e];exact True.intro) (.inr ho) (fun b q hb z=>(sb.2 b hb).trans z) hd ?_;refine⟨by rw[Zu O.ne];exact ho,?_,O.ne,O'.obj,_,O'.ns,fun g=>?_,fun g hg=>?_⟩
 ·have:=Y8 f y fs;omega
 ·show RelO ((Yu f y fs).lookup g) (if g=f then some u else mA g)
  rw[Zo];by_cases q:g=f
  ·rw[if_pos q,if_pos q];exact ry
  ·rw[if_neg q,if_neg q];exact r g
 ·by_cases q:g=f
  ·rw[q];exact(V0 f y fs).1
  ·refine(V0 f y fs).2 g (wi g fun z=>hg ?_)
   show(if g=f then some u else mA g)=none;rw[if_neg q];exact z
theorem Inv.made(I:Inv X pins σ H s):Inv X pins σ (upd (upd H s.heap.objs.size (.own (s.heap.objs.size+1))) (s.heap.objs.size+1) (.ins C s.heap.objs.size []))
  { s with heap:=(s.heap.push W.emptyDict).push (W.instObj C s.heap.objs.size) }:=by
 have e1:(s.heap.push W.emptyDict).get? s.heap.objs.size=some W.emptyDict:=Heap.get?_push_size s.heap rfl;have e2:((s.heap.push W.emptyDict).push (W.instObj C s.heap.objs.size)).get? (s.heap.objs.size+1)=some (W.instObj C s.heap.objs.size):=by
  have:=Heap.get?_push_size (s.heap.push W.emptyDict) (o:=W.instObj C s.heap.objs.size) rfl
  rwa [Heap.size_push] at this
 have e3:(s.heap.push W.emptyDict).Ns s.heap.objs.size (fun _=>none):=⟨W.emptyDict,#[],_,e1,rfl,(fun e he=>absurd he (by simp)),fun _=>rfl⟩;have I1:=I.laid (a:=s.heap.objs.size) (o:=.own (s.heap.objs.size+1)) (h':=s.heap.push W.emptyDict) (t':=s.toks) (fun b u q=>Ze _ q) (Nat.le_refl _) ⟨_,e1⟩;refine I1.laid (a:=s.heap.objs.size+1) (o:=.ins C s.heap.objs.size []) (t':=s.toks) (fun b u q=>Ze _ q) (Nat.le_of_eq (Heap.size_push _ _)) ?_;have ne:s.heap.objs.size≠s.heap.objs.size+1:=Nat.ne_of_lt (Nat.lt_succ_self _);refine⟨by rw[Zu ne,Zj],Nat.zero_le _,ne,e2,fun _=>none,(Heap.Ns1.of_empty e3).at fun o q=>Ze _ q,fun _=>True.intro,fun y hy=>absurd rfl hy⟩
theorem Zcn{prog:Program}{w:World}{env:Env}{e:Expr}{f:Str}{pos:Pos}{s:Shared}{Q:Value→Shared→Prop}(hb:attributeBase e f env (eval e env)=eval e env)
  (h:wpAny (model prog w) A (eval e env) (fun o s₁=>wpAny (model prog w) A (getAttr o f true) Q E s₁) E s):wpAny (model prog w) A (eval (.Attribute e f pos) env) Q E s:=
 Attribute_any_ h (by rw[arm_eval_Attribute,hb])
end
def Znx(K:W.Frag)(ta:TE)(f:Str):TE:=fun σ H Q=>ta σ H fun x H1=>∃ a C dx fs v,x = .ref a∧H1 a=some (.ins C dx fs)∧Cls K C∧NoAttr K C f∧fs.lookup f=some v∧Q v H1
def Zpo(K:W.Frag)(ta tv:TE)(f:Str):TS:=fun D σ H=>tv σ H fun y H1=>ta σ H1 fun x H2=>∃ a C dx fs,x = .ref a∧H2 a=some (.ins C dx fs)∧Cls K C∧NoAttr K C f∧fs.length < 1000 ∧
 D.nx σ (upd H2 a (.ins C dx (Yu f y fs)))
section
variable{X:Cx}{o e value:Expr}{f:Str}{pos pos' tpos:Pos}{ta tv:TE}
theorem Jy(he:PE X e ta)(hb:attributeBase e f X.env (eval e X.env)=eval e X.env):PE X (.Attribute e f pos) (Znx X.K ta f):=by
 intro pins s σ H Q I h;refine Zcn hb (Y5 (he pins s σ H _ I h) fun u s1 ⟨x,H1,I1,rx,a,C,dx,fs,v,ex,ea,c,n,l,q⟩=>?_);subst ex;obtain rfl:u=Value.ref a:=rx;exact Zav I1 ea c n l fun u' s2 I2 ru=>⟨v,H1,I2,ru,q⟩
theorem Xh(ha:PE X o ta)(hv:PE X value tv)(hs:swapsWith value (some (.Attribute o f pos')) pos.line X.env=pure false):PS X (.Assign [.Attribute o f pos'] value pos) (Zpo X.K ta tv f):=by
 intro pins s σ H D I h;refine plainObj_wpAny_Assign_Attribute (Y5 (hv pins s σ H _ I h) fun u s1 ⟨y,H1,I1,ry,q⟩=>Y5 (ha pins s1 σ H1 _ I1 q) fun ov s2 ⟨x,H2,I2,rx,a,C,dx,fs,ex,ea,c,n,l,q2⟩=>?_) hs;subst ex;obtain rfl:ov=Value.ref a:=rx;exact Sn I2 ea c n l ry fun s3 I3=>⟨σ,_,I3,q2⟩
end
section
variable{X:Cx}{pins:List (Addr×Obj)}{σ:St}{H:Hp}{s:Shared}{A:Around}{E:Value→Shared→Prop}{Q:Value→Shared→Prop}{c:Value}{b:Bool}
inductive TyOf(K:W.Frag)(H:Hp):V→Value→Prop where
 | non:TyOf K H .non (.type "NoneType")
 | bl (x:Bool):TyOf K H (.bl x) (.type "bool")
 | int (i:Int):TyOf K H (.int i) (.type "int")
 | str (x:Str):TyOf K H (.str x) (.type "str")
 | flt (x:UInt64):TyOf K H (.flt x) (.type "float")
 | lst {a:Addr} {xs:List V} (e:H a=some (.lst xs)):TyOf K H (.ref a) (.type "list")
 | frz {a:Addr} {o:Obj} {xs:List V} (e:H a=some (.frz o (.lst xs))):TyOf K H (.ref a) (.type "list")
 | tup {a:Addr} {xs:List V} (e:H a=some (.tup xs)):TyOf K H (.ref a) (.type "tuple")
 | dK {a:Addr} {kvs:List (Xs×V)} (e:H a=some (.dK kvs)):TyOf K H (.ref a) (.type "dict")
 | dT {a:Addr} {kvs:List (List Xs×V)} (e:H a=some (.dT kvs)):TyOf K H (.ref a) (.type "dict")
 | ins {a C dx:Addr} {fs:List (Str×V)} (e:H a=some (.ins C dx fs)) (cl:Cls K C) (ha:W.findIn K (.ref C) "__class__" = some (some (.builtin "object.__class__")))
   (hn:W.specialIn K (.builtin "object.__class__") "__get__" = some (some (.builtin "getset_descriptor.__get__"))) (htk:W.takesIn K (.builtin "object.__class__")=some true)
   (hm:W.mroIn K C (.type "object")=some true):TyOf K H (.ref a) (.ref C)
theorem Zd2{x:V}{u t:Value}(I:Inv X pins σ H s)(rx:RelV x u)(ty:TyOf X.K H x t)(e:W.kitOne X.K t c=some b)(h:∀ tk,Q (.bool b) { s with toks:=tk }) :
  wpAny (model X.prog X.w) A (call (.builtin "isinstance") [u,c]) Q E s:=by
 cases ty with
 | non=>cases (show u=Value.none from rx);exact W.kia_one W.kitx_none I.kIn True.intro e (fun z=>nomatch z) h
 | bl y=>cases (show u=Value.bool y from rx);exact W.kia_one W.kitx_bool I.kIn True.intro e (fun z=>nomatch z) h
 | int i=>obtain⟨t,q⟩:=(show ∃ t,u=Value.int i t from rx);cases q;exact W.kia_one W.kitx_int I.kIn True.intro e (fun z=>nomatch z) h
 | str y=>obtain⟨t,q⟩:=(show ∃ t,u=Value.str y t from rx);cases q;exact W.kia_one W.kitx_str I.kIn True.intro e (fun z=>nomatch z) h
 | flt y=>obtain⟨t,q⟩:=(show ∃ t,u=Value.float y t from rx);cases q;exact W.kia_one W.kitx_float I.kIn True.intro e (fun z=>nomatch z) h
 | @lst a xs ea=>
  cases (show u=Value.ref a from rx);obtain⟨_,_,n,_,h1⟩:=(show ObjOk X.prog X.w H s.heap a (.lst xs) from I.hok a _ ea);exact W.kia_one W.kitx_list I.kIn ⟨_,h1,rfl⟩ e (fun z=>nomatch z) h
 | @frz a ob xs ea=>
  cases (show u=Value.ref a from rx);obtain⟨_,_,_,n,_,h1⟩:=(show ObjOk X.prog X.w H s.heap a (.frz ob (.lst xs)) from I.hok a _ ea);exact W.kia_one W.kitx_list I.kIn ⟨_,h1,rfl⟩ e (fun z=>nomatch z) h
 | @tup a xs ea=>
  cases (show u=Value.ref a from rx);obtain⟨_,_,_,p⟩:=(show ObjOk X.prog X.w H s.heap a (.tup xs) from I.hok a _ ea);obtain⟨o,h1,h2,_⟩:=p;exact W.kia_one W.kitx_tuple I.kIn ⟨o,h1,h2⟩ e (fun z=>nomatch z) h
 | @dK a kvs ea=>
  cases (show u=Value.ref a from rx);obtain⟨_,_,vs,_,p⟩:=(show ObjOk X.prog X.w H s.heap a (.dK kvs) from I.hok a _ ea);obtain⟨o,es,ep,h1,h2,_⟩:=p;exact W.kia_one W.kitx_dict I.kIn ⟨o,h1,h2.1⟩ e (fun z=>nomatch z) h
 | @dT a kvs ea=>
  cases (show u=Value.ref a from rx);obtain⟨_,_,xs,_,o,es,ep,h1,h2,_⟩:=(show ObjOk X.prog X.w H s.heap a (.dT kvs) from I.hok a _ ea);exact W.kia_one W.kitx_dict I.kIn ⟨o,h1,h2.1⟩ e (fun z=>nomatch z) h
 | @ins a C dx fs ea cl ha hn htk hm=>
  cases (show u=Value.ref a from rx);obtain⟨mA,O,_⟩:=R0 I.hok ea;obtain⟨od,J,_⟩:=O.look;exact W.kia_one (W.kitx_own (cl.get _) cl.hd ha hn htk hm) I.kIn J e (fun z=>nomatch z) h
end
structure Room(k:Nat)(A:Around):Prop where
 hd:A.handled=none
 dp:A.depth+3 * k+5 < recursionLimit
 un:A.units+16 * k+200 < cLine
theorem Room.mono{j k:Nat}{A:Around}(r:Room k A)(h:j≤k):Room j A:=⟨r.hd,by have:=r.dp;omega,by have:=r.un;omega⟩
theorem Room.deeper{k:Nat}{A:Around}(r:Room (k+1) A)(env:Env):Room k (A.deeper env):=
 ⟨r.hd,by have:=r.dp;show A.depth+1+3 * k+5 < _;omega,by have:=r.un;show A.units+3+16 * k+200 < _;omega⟩
theorem Zao{A:Around}{C:Addr}{us:List Value}{kw:List (Str×Value)}:(A.under (.builtin "type.__call__" ⟨.ref C :: us,kw⟩)).depth=A.depth+1:=by
 first | rfl | simp [Around.under,Code.weight,Code.isCreation,Code.isGuard,Code.isCaller,Code.frames,Code.isFrame,guardIds]
theorem Zan{A:Around}{C:Addr}{us:List Value}{kw:List (Str×Value)}:(A.under (.builtin "type.__call__" ⟨.ref C :: us,kw⟩)).units=A.units+1:=by
 first | rfl | simp [Around.under,Code.cUnits,Code.frames,Code.isFrame]
theorem Room.make{k:Nat}{A:Around}(r:Room (k+1) A)(C:Addr)(us:List Value)(kw:List (Str×Value)):Room k (A.under (.builtin "type.__call__" ⟨.ref C :: us,kw⟩)):=
 ⟨r.hd,by have:=r.dp;rw[Zao];omega,by have:=r.un;rw[Zan];omega⟩
theorem Room.depth{k:Nat}{A:Around}(r:Room k A):A.depth < recursionLimit:=by have:=r.dp;omega
theorem Room.units{k:Nat}{A:Around}(r:Room k A):A.units+64 < cLine:=by have:=r.un;omega
def Zl0:TA:=fun _ H Q=>Q [] H
def Zn0(ta:TE)(tr:TA):TA:=fun σ H Q=>ta σ H fun x H1=>tr σ H1 fun xs H2=>Q (x :: xs) H2
section
variable{X:Cx}{e:Expr}{es:List Expr}{te:TE}{t:TA}{pos:Pos}
theorem Zh:PA X [] Zl0:=fun _ _ _ _ H Q I h=>Calls.spliced_nil ⟨[],H,I,.nil,h⟩
theorem Za(ha:PE X e te)(hr:PA X es t)(hs:starEach (e :: es) X.env=(false,eval e X.env) :: starEach es X.env:=by rfl):PA X (e :: es) (Zn0 te t):=by
 intro pos pins s σ H Q I h;rw[hs];show wpAny _ _ (spliced ((false,eval e X.env) :: backTo pos (starEach es X.env))) _ _ s;refine Calls.spliced_cons (Y5 (ha pins s σ H _ I h) fun u s1 ⟨x,H1,I1,r1,q1⟩=>?_);exact Y5 (hr pos pins s1 σ H1 _ I1 q1) fun us s2 ⟨xs,H2,I2,r2,q2⟩=>⟨x :: xs,H2,I2,.cons r1 r2,q2⟩
def Zpg(t:TA):TE:=fun σ H Q=>t σ H fun xs H1=>xs.length≤sizeLine∧∀ p,H1 p=none→Q (.ref p) (upd H1 p (.tup xs))
def Zpj(t:TA):TE:=fun σ H Q=>t σ H fun xs H1=>xs.length≤sizeLine∧∀ p,H1 p=none→Q (.ref p) (upd H1 p (.lst xs))
theorem Y2{x1}(h:PA X es t):PE X (.Tuple es x1 pos) (Zpg t):=by
 intro pins s σ H Q I hq;refine wpAny_Tuple_spliced (Y5 (h pos pins s σ H _ I hq) fun us s1 ⟨xs,H1,I1,r,z,q⟩=>⟨by rw[← r.length];exact z,?_⟩);have hf:H1 s1.heap.objs.size=none:=I1.hok.fresh (Nat.le_refl _);refine⟨.ref s1.heap.objs.size,upd H1 s1.heap.objs.size (.tup xs),I1.laid (t':=s1.toks) (fun b u e=>Ze _ e) (Nat.le_refl _) ?_,rfl,q _ hf⟩;exact⟨z,us,r,⟨_,Heap.get?_push_size _ rfl,rfl,_,rfl⟩⟩
theorem U0(h:PA X es t):PE X (.List es pos) (Zpj t):=by
 intro pins s σ H Q I hq;refine wpAny_List_spliced (Y5 (h pos pins s σ H _ I hq) fun us s1 ⟨xs,H1,I1,r,z,q⟩=>⟨by rw[← r.length];exact z,?_⟩);have hf:H1 s1.heap.objs.size=none:=I1.hok.fresh (Nat.le_refl _);refine⟨.ref s1.heap.objs.size,upd H1 s1.heap.objs.size (.lst xs),I1.laid (t':=s1.toks) (fun b u e=>Ze _ e) (Nat.le_refl _) ?_,rfl,q _ hf⟩;exact⟨z,us,0,r,Heap.get?_push_size _ rfl⟩
end
abbrev Sp:=List V→Hp→VK→XK→Prop
abbrev CXT:=List Env→Hp→Shared→XK→Value→Shared→Prop
structure Env0(P:Program)(w:World)(K:W.Frag)(mg:Str→Option Value)(base:Heap)(A:Around)(outer:List Env)(s:Shared)(H:Hp):Prop where
 frames:A.frames=some outer
 mod:Mod K mg base
 bs:∀ b o,base.get? b=some o→s.heap.get? b=some o∧H b=none
 bsz:base.objs.size≤s.heap.objs.size
 funs:s.heap.FunFrames base outer
 frf:∀ b∈Vc outer,H b=none
 hok:HOk P w H s.heap
 bare:AllBare s.gens
def CE(outer:List Env)(P:Program)(w:World)(H:Hp)(s:Shared)(Q:VK)(u:Value)(s':Shared):Prop:=
 ∃ v H',s'.os=s.os∧AllBare s'.gens∧Un (Vc outer) [] H H' s.heap s'.heap∧HOk P w H' s'.heap∧RelV v u∧Q v H'
def CR(CX:CXT)(outer:List Env)(P:Program)(w:World)(H:Hp)(s:Shared)(Q:VK)(E:XK)(r:Result)(s':Shared):Prop:=
 match r with
 | .ok (.ret u)=>CE outer P w H s Q u s'
 | .ok _=>False
 | .error e=>CX outer H s E e s'
structure FnOk(P:Program)(w:World)(K:W.Frag)(mg:Str→Option Value)(base:Heap)(CX:CXT)(k:Nat)(f:Addr)(fd:FuncData)(ps:List Str)(sp:Sp):Prop where
 len:∀ vs H Q E,sp vs H Q E→vs.length=ps.length
 run:∀(A:Around) (outer:List Env) (s:Shared) (H:Hp) (args:Args) (us:List Value) (vs:List V) (Q:VK) (E:XK),Room k A→Env0 P w K mg base A outer s H→BindsTo s fd args (ps.zip us)→Vals vs us→sp vs H Q E →
  codeAny (model P w) A (.call (.ref f) args) (CR CX outer P w H s Q E) s
theorem FnOk.mono{P:Program}{w:World}{K:W.Frag}{mg:Str→Option Value}{base:Heap}{CX:CXT}{j k:Nat}{f:Addr}{fd:FuncData}{ps:List Str}{sp:Sp}(F:FnOk P w K mg base CX j f fd ps sp)(h:j≤k) :
  FnOk P w K mg base CX k f fd ps sp:=⟨F.len,fun A outer s H args us vs Q E hr=>F.run A outer s H args us vs Q E (hr.mono h)⟩
theorem Env0.make{P:Program}{w:World}{K:W.Frag}{mg:Str→Option Value}{base:Heap}{A:Around}{outer:List Env}{s:Shared}{H:Hp}(e:Env0 P w K mg base A outer s H)(C:Addr)(us:List Value)(kw:List (Str×Value)) :
  Env0 P w K mg base (A.under (.builtin "type.__call__" ⟨.ref C :: us,kw⟩)) outer s H:=⟨by first | exact e.frames | (simpa [Around.under,Code.envs,Code.isFrame,pushEnvs] using e.frames),e.mod,e.bs,e.bsz,e.funs,e.frf,e.hok,e.bare⟩
section
variable{X:Cx}{pins:List (Addr×Obj)}{σ:St}{H:Hp}{s s':Shared}
theorem Inv.env0(I:Inv X pins σ H s):Env0 X.prog X.w X.K X.mg X.base X.A X.stack s H:=
 ⟨I.ok.frames,I.ok.mod,I.bs,Nat.le_trans I.ok.bsz I.sz,I.stack,I.stkFree,I.hok,I.bare⟩
theorem Inv.after{Q:VK}{u:Value}(I:Inv X pins σ H s)(h:CE X.stack X.prog X.w H s Q u s'):EP X pins σ Q u s':=by
 obtain⟨v,H',os,bare,un,hok,r,q⟩:=h;obtain⟨hh,g,d,t,os'⟩:=s';obtain rfl:os'=s.os:=os;exact⟨v,H',I.call (h':=hh) (g':=g) (d':=d) (t':=t) (ch:=[]) un hok bare (fun b z=>absurd z (by simp)),r,q⟩
end
def Zn1(sp:Sp)(dvs:List V)(E:XK)(t:TA):TE:=fun σ H Q=>t σ H fun vs H1=>sp (vs++dvs) H1 Q E
def Zfa(C:Addr)(m:Str)(sp:Sp)(dvs:List V)(E:XK)(ta:TE)(t:TA):TE:=fun σ H Q=>ta σ H fun x H1=>∃ a dx fs,x = .ref a∧H1 a=some (.ins C dx fs)∧fs.lookup m=none ∧
 t σ H1 fun vs H2=>sp (x :: (vs++dvs)) H2 Q E
def Znv(C:Addr)(sp:Sp)(dvs:List V)(E:XK)(t:TA):TE:=fun σ H Q=>t σ H fun vs H1=>∀ x dx,H1 x=none→H1 dx=none→dx≠x →
 sp (.ref x :: (vs++dvs)) (upd (upd H1 dx (.own x)) x (.ins C dx [])) (fun v H2=>v = .non∧Q (.ref x) H2) E
def Binds(K:W.Frag)(fd:FuncData)(ps:List Str)(ds:List Value):Prop:=
 ∀(s:Shared) (us:List Value),K.In s.heap→(us++ds).length=ps.length→BindsTo s fd ⟨us,[]⟩ (ps.zip (us++ds))
theorem Binds.all{K:W.Frag}{fd:FuncData}{ps:List Str}(h:∀ us:List Value,us.length=ps.length→bindArgs fd ⟨us,[]⟩=pure (ps.zip us)):Binds K fd ps []:=fun s us _ hl=>by
 rw[Yb] at hl ⊢;exact .of_eq (h us hl)
def Qm(CX:CXT)(X:Cx)(E:XK):Prop:=∀(pins:List (Addr×Obj)) (σ:St) (H:Hp) (s:Shared) (e:Value) (s':Shared),Inv X pins σ H s→CX X.stack H s E e s'→X.xe e s'
section
variable{X:Cx}{CX:CXT}{k:Nat}{f C:Addr}{fd:FuncData}{ps:List Str}{sp:Sp}{dvs:List V}{ds:List Value}{E:XK}{x m:Str}{p pos apos:Pos}{e o:Expr}{es:List Expr}{ta:TE}{t:TA}
theorem Gm{pins:List (Addr×Obj)}{σ:St}{H:Hp}{s:Shared}{Q:VK}{us:List Value}{vs:List V}(F:FnOk X.prog X.w X.K X.mg X.base CX k f fd ps sp)(hr:Room k X.A)(hb:Binds X.K fd ps ds)(hd:Vals dvs ds)(hx:Qm CX X E)
  (I:Inv X pins σ H s) (r:Vals vs us) (h:sp (vs++dvs) H Q E):wpAny (model X.prog X.w) X.A (call (.ref f) us) (EP X pins σ Q) X.xe s:=by
 have r2:Vals (vs++dvs) (us++ds):=r.append hd;have hl:(us++ds).length=ps.length:=by rw[← r2.length];exact F.len _ _ _ _ h
 refine wpAny_call (codeAny_mono (F.run X.A X.stack s H ⟨us,[]⟩ (us++ds) (vs++dvs) Q E hr I.env0 (hb s us I.kIn hl) r2 h) fun r s' hq=>?_);cases r with
 | error e=>exact hx pins σ H s e s' I hq
 | ok fl=>
  cases fl with
  | ret u=>exact I.after hq
  | next=>exact False.elim hq
  | brk=>exact False.elim hq
  | cont=>exact False.elim hq
theorem Z9(F:FnOk X.prog X.w X.K X.mg X.base CX k f fd ps sp)(hr:Room k X.A)(hg:Gl X x)(hm:X.mg x=some (.ref f))(hk:W.keepIn X.K (.ref f)=true)(hb:Binds X.K fd ps ds)(hd:Vals dvs ds)(hx:Qm CX X E)
  (ha:PA X (e :: es) t) (hdb:(x == ("__debug__":Str))=false:=by decide) (he:starEach (e :: es) X.env=(false,eval e X.env) :: starEach es X.env:=by rfl) (hpl:(backTo pos (starEach es X.env)).any (·.1)=false:=by rfl) :
  PE X (.Call (.Name x p) (e :: es) [] pos) (Zn1 sp dvs E t):=by
 intro pins s σ H Q I h;refine wpAny_Call_Name_kw (Eh I hg hm ?_ hdb);refine W.callWith_K (h₀:=X.base) I.ok.mod.kin hk (Y5 (ha pos pins s σ H _ I h) fun us s1 ⟨vs,H1,I1,r,q⟩=>⟨I1.kIn,?_⟩) he hpl;exact Gm F hr hb hd hx I1 r q
theorem X4{pl:Sem Bool}(he:PE X o ta)(c:Cls X.K C)(hm:Meth X.K C m f)(F:FnOk X.prog X.w X.K X.mg X.base CX k f fd ps sp)(hr:Room k X.A)(hb:Binds X.K fd ps ds)(hd:Vals dvs ds)(hx:Qm CX X E)(ha:PA X (e :: es) t)
  (hst:starEach (e :: es) X.env=(false,eval e X.env) :: starEach es X.env:=by rfl) (hpl:(backTo pos (starEach es X.env)).any (·.1)=false:=by rfl)
  (ht:eval (.Call (.Attribute o m apos) (e :: es) [] pos) X.env=(do
   let ov ← eval o X.env
   standAt apos.atName
   let (f,first) ← holding [ov] (getMethod ov m pl)
   callWith pos f first (backTo pos (starEach (e :: es) X.env)) (backToKw pos (keywordEach [] X.env))):=by rfl) :
  PE X (.Call (.Attribute o m apos) (e :: es) [] pos) (Zfa C m sp dvs E ta t):=by
 intro pins s σ H Q I h;refine W.methodCall_KW (pl:=pl) (Y5 (he pins s σ H _ I h) fun u s1 ⟨x,H1,I1,rx,a,dx,fs,ex,ea,l,q⟩=>?_) ht;subst ex;obtain rfl:u=Value.ref a:=rx;refine Qh I1 ea c hm l ?_;refine W.callWith_K (first:=[.ref a]) (h₀:=X.base) I.ok.mod.kin hm.kp (Y5 (ha pos pins s1 σ H1 _ I1 q) fun us s2 ⟨vs,H2,I2,r,q2⟩=>⟨I2.kIn,?_⟩) hst hpl;exact Gm (us:=.ref a :: us) (vs:=.ref a :: vs) F hr hb hd hx I2 (.cons rfl r) q2
theorem Uv{pl:Sem Bool}(he:PE X o ta)(c:Cls X.K C)(hm:Meth X.K C m f)(F:FnOk X.prog X.w X.K X.mg X.base CX k f fd ps sp)(hr:Room k X.A)(hb:Binds X.K fd ps ds)(hd:Vals dvs ds)(hx:Qm CX X E)
  (ht:eval (.Call (.Attribute o m apos) [] [] pos) X.env=(do
   let ov ← eval o X.env
   standAt apos.atName
   let (f,first) ← holding [ov] (getMethod ov m pl)
   callWith pos f first (backTo pos (starEach [] X.env)) (backToKw pos (keywordEach [] X.env))):=by rfl) :
  PE X (.Call (.Attribute o m apos) [] [] pos) (Zfa C m sp dvs E ta Zl0):=by
 intro pins s σ H Q I h;refine W.methodCall_KW (pl:=pl) (Y5 (he pins s σ H _ I h) fun u s1 ⟨x,H1,I1,rx,a,dx,fs,ex,ea,l,q⟩=>?_) ht;subst ex;obtain rfl:u=Value.ref a:=rx;refine Qh I1 ea c hm l ?_;exact W.callWith_K0 (first:=[.ref a]) I1.kIn hm.kp (Gm (us:=[.ref a]) (vs:=[.ref a]) F hr hb hd hx I1 (.cons rfl .nil) q)
structure Mk(K:W.Frag)(C f:Addr):Prop where
 makes:W.makesIn K C=true
 init:W.findIn K (.ref C) "__init__" = some (some (.ref f))
 fn:W.isFn K (.ref f)=true
 kp:W.keepIn K (.ref C)=true
theorem Zfy{pins:List (Addr×Obj)}{σ:St}{H:Hp}{s:Shared}{Q:VK}{us:List Value}{vs:List V}(M:Mk X.K C f)(F:FnOk X.prog X.w X.K X.mg X.base CX k f fd ps sp)(hr:Room (k+1) X.A)(hb:Binds X.K fd ps ds)(hd:Vals dvs ds)
  (hx:Qm CX X E) (I:Inv X pins σ H s) (r:Vals vs us)
  (h:∀ x dx,H x=none→H dx=none→dx≠x→sp (.ref x :: (vs++dvs)) (upd (upd H dx (.own x)) x (.ins C dx [])) (fun v H2=>v = .non∧Q (.ref x) H2) E) :
  wpAny (model X.prog X.w) X.A (call (.ref C) us) (EP X pins σ Q) X.xe s:=by
 have hq:=h (s.heap.objs.size+1) s.heap.objs.size (I.hok.fresh (Nat.le_succ _)) (I.hok.fresh (Nat.le_refl _)) (Nat.ne_of_lt (Nat.lt_succ_self _));have I2:=Inv.made (C:=C) I;have r2:Vals (V.ref (s.heap.objs.size+1) :: (vs++dvs)) (Value.ref (s.heap.objs.size+1) :: (us++ds)):=.cons rfl (r.append hd);have hl:(Value.ref (s.heap.objs.size+1) :: us++ds).length=ps.length:=by
  have e:=r2.length;rw[F.len _ _ _ _ hq] at e;exact e.symm
 refine wpAny_call (Zhi (f:=f) I.kIn M.makes M.init (beq_iff_eq.mp M.fn) (codeAny_mono (F.run _ X.stack _ _ ⟨Value.ref (s.heap.objs.size+1) :: us,[]⟩ (Value.ref (s.heap.objs.size+1) :: (us++ds)) _ _ E (hr.make C us [])
  (I2.env0.make C us []) (hb _ (Value.ref (s.heap.objs.size+1) :: us) I2.kIn hl) r2 hq) fun r s' hq'=>?_))
 cases r with
 | error e=>exact hx pins σ _ _ e s' I2 hq'
 | ok fl=>
  cases fl with
  | ret u=>
   obtain⟨v,H',I3,rv,ev,q3⟩:=I2.after hq';subst ev;exact⟨rv,⟨V.ref (s.heap.objs.size+1),H',I3,rfl,q3⟩⟩
  | next=>exact False.elim hq'
  | brk=>exact False.elim hq'
  | cont=>exact False.elim hq'
theorem Bo(M:Mk X.K C f)(F:FnOk X.prog X.w X.K X.mg X.base CX k f fd ps sp)(hr:Room (k+1) X.A)(hg:Gl X x)(hm:X.mg x=some (.ref C))(hb:Binds X.K fd ps ds)(hd:Vals dvs ds)(hx:Qm CX X E)
  (ha:PA X (e :: es) t) (hdb:(x == ("__debug__":Str))=false:=by decide) (he:starEach (e :: es) X.env=(false,eval e X.env) :: starEach es X.env:=by rfl) (hpl:(backTo pos (starEach es X.env)).any (·.1)=false:=by rfl) :
  PE X (.Call (.Name x p) (e :: es) [] pos) (Znv C sp dvs E t):=by
 intro pins s σ H Q I h;refine wpAny_Call_Name_kw (Eh I hg hm ?_ hdb);refine W.callWith_K (h₀:=X.base) I.ok.mod.kin M.kp (Y5 (ha pos pins s σ H _ I h) fun us s1 ⟨vs,H1,I1,r,q⟩=>⟨I1.kIn,?_⟩) he hpl;exact Zfy M F hr hb hd hx I1 r q
end
section
variable{X:Cx}{CX:CXT}{k:Nat}{f C:Addr}{fd:FuncData}{ps ks:List Str}{sp:Sp}{E:XK}{x m:Str}{p pos apos kpos:Pos}{e o:Expr}{es:List Expr}{kws:List Keyword}{te ta:TE}{t tk:TA}{nm:Option Str}
variable{g:List Value→List Value→List Value}{gV:List V→List V→List V}
end
structure FnScope(N P:List Str)(sc:Scope):Prop where
 kind:sc.kind = .function
 co:sc.isCoroutine=false
 gen:sc.isGenerator=false
 nd:N.Nodup
 pre:N.take P.length=P
 par:∀ x∈P,sc.names.lookup x=some .local∨sc.names.lookup x=some .cell
 nofree:∀ y∈sc.names,y.2 ≠ .free
theorem M7{kindOf:Str→Option NameKind}{x:Str}:∀{binds:List (Str×Value)} {m:Str→Option Value},(∀ v,(x,v)∉binds)→bindL kindOf binds m x=m x
 | [],_,_=>rfl
 | (n,v) :: r,m,h=>by
  unfold bindL;rw[M7 fun w hw=>h w (Zx _ hw)];split
  ·have:x≠n:=by rintro rfl;exact h v Zw
   simp [this]
  ·rfl
theorem M9{kindOf:Str→Option NameKind}{x:Str}:∀{binds:List (Str×Value)} {m:Str→Option Value},(∀ v,(x,v)∉binds)→bindC kindOf binds m x=m x
 | [],_,_=>rfl
 | (n,v) :: r,m,h=>by
  unfold bindC;rw[M9 fun w hw=>h w (Zx _ hw)];split
  ·rfl
  ·have:x≠n:=by rintro rfl;exact h v Zw
   simp [this]
theorem M8{kindOf:Str→Option NameKind}{x:Str}{v:Value}:∀{P:List Str} {vs:List Value} {i:Nat} {m:Str→Option Value},P.Nodup→P[i]? = some x→vs[i]? = some v→kindOf x=some .local →
  bindL kindOf (P.zip vs) m x=some v
 | [],_,_,_,_,h,_,_=>by simp at h
 | _ :: _,[],_,_,_,_,h,_=>by simp at h
 | p :: P,w :: vs,0,m,nd,h1,h2,hk=>by
  simp at h1 h2;subst h1;subst h2;show bindL kindOf ((p,w) :: P.zip vs) m p=_;unfold bindL;rw[M7 fun v hv=>(List.nodup_cons.mp nd).1 (List.of_mem_zip hv).1,if_pos hk];simp
 | p :: P,w :: vs,i+1,m,nd,h1,h2,hk=>by
  show bindL kindOf ((p,w) :: P.zip vs) m x=_;unfold bindL;exact M8 (i:=i) (List.nodup_cons.mp nd).2 (by simpa using h1) (by simpa using h2) hk
theorem Da{kindOf:Str→Option NameKind}{x:Str}{v:Value}:∀{P:List Str} {vs:List Value} {i:Nat} {m:Str→Option Value},P.Nodup→P[i]? = some x→vs[i]? = some v→kindOf x≠some .local →
  bindC kindOf (P.zip vs) m x=some v
 | [],_,_,_,_,h,_,_=>by simp at h
 | _ :: _,[],_,_,_,_,h,_=>by simp at h
 | p :: P,w :: vs,0,m,nd,h1,h2,hk=>by
  simp at h1 h2;subst h1;subst h2;show bindC kindOf ((p,w) :: P.zip vs) m p=_;unfold bindC;rw[M9 fun v hv=>(List.nodup_cons.mp nd).1 (List.of_mem_zip hv).1,if_neg hk];simp
 | p :: P,w :: vs,i+1,m,nd,h1,h2,hk=>by
  show bindC kindOf ((p,w) :: P.zip vs) m x=_;unfold bindC;exact Da (i:=i) (List.nodup_cons.mp nd).2 (by simpa using h1) (by simpa using h2) hk
def start(N:List Str)(vs:List V):St:=vs.map some++List.replicate (N.length - vs.length) none
def Qk(CX:CXT)(P:Program)(w:World)(K:W.Frag)(mg:Str→Option Value)(base:Heap)(N:List Str)(qual:Str)(scope:Scope)(f:Addr)(cd:Value)(A:Around)(outer:List Env)(s:Shared)(H:Hp)(E:XK):Cx where
 prog:=P
 w:=w
 K:=K
 mg:=mg
 base:=base
 A:=A.deeper (envOfC qual scope s.heap.objs.size f cd)
 N:=N
 s₀:=s
 H₀:=H
 env:=envOfC qual scope s.heap.objs.size f cd
 outer:=outer
 stack:=envOfC qual scope s.heap.objs.size f cd :: outer
 ex:=[]
 calm:=true
 fn:=fun _=>true
 pn:=[]
 xe:=fun e s'=>wpAny (model P w) (A.deeper (envOfC qual scope s.heap.objs.size f cd)) (leaving (envOfC qual scope s.heap.objs.size f cd) e) (fun _ s''=>CX outer H s E e s'') (fun e' s''=>CX outer H s E e' s'') s'
theorem B8{sc:Scope}{n:Nat}{x:Str}(h:sc.names.lookup x=some .cell):∃ c,(cellsFrom n sc.names []).lookup x=some c:=by
 have q:=W.cellsFrom_some sc.names n [] (.inl h);exact Option.isSome_iff_exists.mp q
theorem Zd3{CX:CXT}{P:Program}{w:World}{K:W.Frag}{mg:Str→Option Value}{base:Heap}{N ps:List Str}{qual:Str}{scope:Scope}{f:Addr}{cd:Value}{A:Around}{outer:List Env}{s s1:Shared}{H:Hp}{E:XK}{us:List Value}{vs:List V}
  (S:FnScope N ps scope) (hd:A.handled=none) (e0:Env0 P w K mg base A outer s H) (hl:vs.length=ps.length) (r:Vals vs us)
  (x:InCallC s s.heap.objs.size (bindL (envOfC qual scope s.heap.objs.size f cd).kindOf (ps.zip us) fun _=>none) (cellsFrom (s.heap.objs.size+1) scope.names []) (bindC (envOfC qual scope s.heap.objs.size f cd).kindOf (ps.zip us) fun _=>none) s1) :
  Inv (Qk CX P w K mg base N qual scope f cd A outer s H E) [] (start N vs) H s1:=by
 have hpl:ps.length≤N.length:=by have:=congrArg List.length S.pre;rw[List.length_take] at this;omega
 obtain⟨h1,tk,rfl,hk⟩:=x.done;have noA:∀ b:Addr,b∉(Qk CX P w K mg base N qual scope f cd A outer s H E).ex:=fun b z=>absurd (show b∈([]:List Addr) from z) (by simp);refine⟨⟨e0.mod,S.kind,rfl,rfl,Nat.le_refl _,fun y z c h1 h2=>?_,fun y hy=>?_,fun y c _ h=>?_,fun _=>hd,Around.frames_deeper e0.frames,.inr ⟨rfl,rfl⟩,fun b z=>absurd z (noA b),e0.bs,e0.bsz,fun b _ _=>noA b,fun b z=>absurd z (noA b),e0.funs,e0.frf⟩,
  rfl,e0.bare,Un.kept hk,⟨_,x.toInCall.ns,fun i y v h1 h2 h3=>?_⟩,fun y c h=>⟨_,x.cell y c h⟩,e0.hok.fresh (Nat.le_refl _),fun y c h=>?_,fun p hp=>absurd (show p∈([]:List (Addr×Obj)) from hp) (by simp),e0.hok.kept hk,?_⟩
 ·exact name_of_addr x.apart (PySem.mem_of_lookup h1) (PySem.mem_of_lookup h2)
 ·have hy:scope.names.lookup y=some .cell∨scope.names.lookup y=some .free:=hy
  rcases hy with hy | hy
  ·exact B8 hy
  ·exact absurd rfl (S.nofree _ (PySem.mem_of_lookup hy))
 ·exact J2 (x.above y c (PySem.mem_of_lookup h))
 ·have hi:i < vs.length:=by
   unfold start at h2;by_cases hi:i < vs.length
   ·exact hi
   ·rw[Yh (by simpa using hi)] at h2
    rw[List.getElem?_replicate] at h2;split at h2<;>cases h2
  have ha:vs[i]? = some v:=by
   unfold start at h2;rw[Ym (by simpa using hi),Zm] at h2;cases e:vs[i]? with
   | none=>rw[e] at h2;cases h2
   | some a=>rw[e] at h2;cases h2;rfl
  obtain⟨u,hu,rv⟩:=r.get ha;have hp:ps[i]? = some y:=by
   rw[← S.pre,List.getElem?_take_of_lt (by omega)];exact h1
  have ndP:ps.Nodup:=by rw[← S.pre];exact S.nd.sublist (List.take_sublist _ _)
  refine⟨u,rv,?_⟩;rcases S.par y (Zr hp) with k | k
  ·exact .inl ⟨k,M8 ndP hp hu k⟩
  ·obtain⟨c,e⟩:=B8 (n:=s.heap.objs.size+1) k
   refine .inr ⟨.inl k,c,e,?_⟩;have q:=x.cell y c e;rw[Da ndP hp hu (by show scope.names.lookup y≠_;rw[k];decide)] at q;exact q
 ·exact e0.hok.fresh (J2 (x.above y c (PySem.mem_of_lookup h)))
 ·unfold start
  show _=N.length;rw[Z3,Zi,List.length_replicate];omega
theorem Zcf{CX:CXT}{P:Program}{w:World}{K:W.Frag}{mg:Str→Option Value}{base:Heap}{k:Nat}{f:Addr}{name qual:Str}{params:Arguments}{body:List Stmt}{scope:Scope}{dV kV doc pm cdv ct oc:Value}{an od:Option Addr}
  {osl:Array (Option Value)} {N ps:List Str} {sp:Sp} (lk:K.lookup f=some ⟨oc,od,.func (W.fnOf name qual params body scope dV kV doc pm an cdv ct),osl⟩) (hcd:W.codeIn K cdv qual=true) (S:FnScope N ps scope)
  (len:∀ vs H Q E,sp vs H Q E→vs.length=ps.length)
  (hbody:∀(A:Around) (outer:List Env) (s:Shared) (H:Hp) (vs:List V) (Q:VK) (E:XK),Room k (A.deeper (envOfC qual scope s.heap.objs.size f cdv))→sp vs H Q E →
   ∃ t,PSs (Qk CX P w K mg base N qual scope f cdv A outer s H E) body t∧t { nx:=fun _ H'=>Q .non H',rt:=Q } (start N vs) H) :
  FnOk P w K mg base CX (k+1) f (W.fnOf name qual params body scope dV kV doc pm an cdv ct) ps sp:=by
 refine⟨len,fun A outer s H args us vs Q E hr e0 hb r hsp=>?_⟩;have hl:=len _ _ _ _ hsp;have KX:K.In s.heap:=e0.mod.kin.keeps fun b o e=>(e0.bs b o e).1;have lim:s.heap.NoLimit:=e0.mod.nolimit.keeps fun b o e=>(e0.bs b o e).1;have hkind:∀ y∈ps.zip us,scope.names.lookup y.1=some .local∨(scope.names.lookup y.1=some .cell∧((cellsFrom (s.heap.objs.size+1) scope.names []).lookup y.1).isSome=true):=fun⟨n,v⟩ hy=>by
  rcases S.par n (List.of_mem_zip hy).1 with q | q
  ·exact .inl q
  ·exact .inr ⟨q,W.cellsFrom_some _ _ _ (.inl q)⟩
 refine codeAny_call_function hr.depth (KX _ _ lk) rfl S.co S.gen rfl (W.codeRec_of KX hcd) (hb _ _ _ _ ?_);refine wpAny_newFunctionEnv_cells S.kind hkind fun env he s1 x=>?_;subst he;refine⟨lim.keeps x.toInCall.keep,codeAny_func ?_⟩;obtain⟨t,ht,hq⟩:=hbody A outer s H vs Q E (hr.deeper _) hsp;have I:Inv (Qk CX P w K mg base N qual scope f cdv A outer s H E) [] (start N vs) H s1:=Zd3 S hr.hd e0 hl r x;refine wpAny_mono (ht [] s1 (start N vs) H _ I hq) (fun fl s' hs=>?_) fun e s' hs=>hs;have fin:∀{σ':St} {H':Hp} {v:V} {u:Value},Inv (Qk CX P w K mg base N qual scope f cdv A outer s H E) [] σ' H' s'→RelV v u→Q v H'→CE outer P w H s Q u s':=
  fun {σ' H' v u} J rv q=>⟨v,H',J.os,J.bare,J.base,J.hok,rv,q⟩
 cases fl with
 | ret u=>
  obtain⟨v,σ',H',J,rv,q⟩:=hs;exact fin J rv q
 | next=>
  obtain⟨σ',H',J,q⟩:=hs;exact fin (v:=V.non) (u:=Value.none) J rfl q
 | brk=>
  obtain⟨_,_,_,q⟩:=hs;exact False.elim q
 | cont=>
  obtain⟨_,_,_,q⟩:=hs;exact False.elim q
section
variable{X:Cx}{x:Str}{p pos:Pos}{e:Expr}{es:List Expr}{t:TA}{id T:String}{r:List V→Hp→VK→Prop}
def tCB(r:List V→Hp→VK→Prop)(t:TA):TE:=fun σ H Q=>t σ H fun vs H1=>r vs H1 Q
theorem Jf(hc:U8 X (.builtin id) r)(hg:Gl X x)(hm:X.mg x=none)(hv:bootBuiltins x=some (.builtin id))(ha:PA X (e :: es) t)(hn:x≠"__name__":=by decide)(hdb:(x == ("__debug__":Str))=false:=by decide)
  (he:starEach (e :: es) X.env=(false,eval e X.env) :: starEach es X.env:=by rfl) (hpl:(backTo pos (starEach es X.env)).any (·.1)=false:=by rfl):PE X (.Call (.Name x p) (e :: es) [] pos) (tCB r t):=by
 intro pins s σ H Q I h;refine wpAny_Call_Name_kw (N8 I hg hm hv ?_ hn hdb);exact PyProof.Rows.callWith_builtin1 (Y5 (ha pos pins s σ H _ I h) fun us s1 ⟨vs,H1,I1,r1,q1⟩=>hc pins s1 σ H1 vs us Q I1 r1 q1) he hpl
theorem Yf(hc:U8 X (.type T) r)(hg:Gl X x)(hm:X.mg x=none)(hv:bootBuiltins x=some (.type T))(ha:PA X (e :: es) t)(hn:x≠"__name__":=by decide)(hdb:(x == ("__debug__":Str))=false:=by decide)
  (he:starEach (e :: es) X.env=(false,eval e X.env) :: starEach es X.env:=by rfl) (hpl:(backTo pos (starEach es X.env)).any (·.1)=false:=by rfl):PE X (.Call (.Name x p) (e :: es) [] pos) (tCB r t):=by
 intro pins s σ H Q I h;refine wpAny_Call_Name_kw (N8 I hg hm hv ?_ hn hdb);exact PyProof.Rows.callWith_type1 (Y5 (ha pos pins s σ H _ I h) fun us s1 ⟨vs,H1,I1,r1,q1⟩=>hc pins s1 σ H1 vs us Q I1 r1 q1) he hpl
end
end L2
namespace HT
open PySem PyProof.Rows
def lexLt:List Int→List Int→Bool
 | [],[]=>false
 | [],_ :: _=>true
 | _ :: _,[]=>false
 | x :: xs,y :: ys=>if x=y then lexLt xs ys else decide (x < y)
theorem lexLt_cons(x y:Int)(xs ys:List Int):lexLt (x :: xs) (y :: ys)=if x=y then lexLt xs ys else decide (x < y):=rfl
theorem lexLt_nil_nil:lexLt [] []=false:=rfl
theorem lexLt_nil_cons(y:Int)(ys:List Int):lexLt [] (y :: ys)=true:=rfl
theorem lexLt_cons_nil(x:Int)(xs:List Int):lexLt (x :: xs) []=false:=rfl
theorem eqAt_int(A:Around)(s:Shared)(a:Int)(t:Tok)(c:Int)(u:Tok):∃ e,SeqAt.EqAt A s (.int a t) (.int c u) e∧(e=true↔a=c):=
 ⟨(a == c),SeqAt.EqAt.int_int a t c u,by simp⟩
section
open PySem.SeqAt
open PySem.AutoSeq1 (wpAny_loadPart')
open PySem.MeetsSeq PySem.MeetsSeq2 PySem.MeetsSeq3
end
section
variable{prog:Program}{w:World}{A:Around}{E:Value→Shared→Prop}{s:Shared}
theorem cat_tup{t b:Addr}{vs ws:List Value}{Q:Value→Shared→Prop}(ht:IsTup s.heap t vs.toArray)(hb:IsTup s.heap b ws.toArray)(hv:vs≠[])
  (h1:ws=[]→Q (.ref t) s) (h2:ws≠[]→Q (.ref s.heap.objs.size) { s with heap:=s.heap.push { cls:=.type "tuple",data:=.seq (vs++ws).toArray } })
  (hsz:vs.length+ws.length≤sizeLine):wpAny (model prog w) A (binaryOp .Add (.ref t) (.ref b)) Q E s:=by
 obtain⟨⟨cls,dd,data,sl⟩,ho,hc,n,hd⟩:=id ht;obtain⟨⟨cls2,dd2,data2,sl2⟩,ho2,hc2,n2,hd2⟩:=id hb;simp only at hc hd hc2 hd2;subst hc hd hc2 hd2;have e:vs.toArray++ws.toArray=(vs++ws).toArray:=by simp
 by_cases hw:ws=[]
 ·exact concat_meets ⟨_,ho,rfl⟩ ⟨_,ho2,rfl⟩ noFill_tuple_add seq_tuple_add PySem.F.slot_tuple_add PySem.F.entry_tuple_add (PySem.F.args_tuple_add_2 _ _)
   (tuple_addW1 t b vs.toArray ws.toArray n n2 dd dd2 sl sl2 (by simpa using hv) (by simp [hw])) ⟨ho,ho2,h1 hw⟩
 ·refine concat_meets ⟨_,ho,rfl⟩ ⟨_,ho2,rfl⟩ noFill_tuple_add seq_tuple_add PySem.F.slot_tuple_add PySem.F.entry_tuple_add (PySem.F.args_tuple_add_2 _ _)
   (tuple_addW2 t b vs.toArray ws.toArray n n2 dd dd2 sl sl2 (by simpa using hv) (by simpa using hw) (by rw[List.size_toArray,List.size_toArray];exact hsz)) ⟨ho,ho2,?_⟩
  rw[e];exact h2 hw
def sIx(n d:Nat):Option Int→Nat
 | none=>d
 | some v=>if v < 0 then(v+(n:Int)).toNat else min v.toNat n
theorem sIx_none(n d:Nat):sIx n d none=d:=rfl
theorem sIx_nat(n d k:Nat):sIx n d (some (k:Int))=min k n:=by
 show(if(k:Int) < 0 then((k:Int)+(n:Int)).toNat else min (k:Int).toNat n)=min k n;rw[if_neg (by omega),Zv]
end
end HT
namespace L2
open PySem PySem.Spec PyProof.Rows
abbrev TO:=St→Hp→(Option Int→Hp→Prop)→Prop
def PO(X:Cx)(e:Option Expr)(t:TO):Prop:=
 ∀(pins:List (Addr×Obj)) (s:Shared) (σ:St) (H:Hp) (Q:Option Int→Hp→Prop),Inv X pins σ H s→t σ H Q →
  wpAny (model X.prog X.w) X.A (evalPart e X.env) (fun u s'=>∃ o H',Inv X pins σ H' s'∧IsPart u o∧Q o H') X.xe s
def Zix:TO:=fun _ H Q=>Q none H
def Znt(t:TE):TO:=fun σ H Q=>t σ H fun x H1=>∃ i,x = .int i∧Q (some i) H1
theorem U7{ns:List Int}:∀{us:List Value},Vals (ns.map V.int) us→IntsAre us ns:=by
 induction ns with
 | nil=>intro us r;rw[List.map_nil] at r;cases r;exact .nil
 | cons n ns ih=>
  intro us r;rw[List.map_cons] at r;cases r with
  | cons r1 r2=>
   obtain⟨t,e⟩:=r1;subst e;exact .cons n t (ih r2)
section
variable{X:Cx}{e:Expr}{te:TE}{lo hi:Option Expr}{tl th:TO}{pos p2:Pos}
theorem Zbs:PO X none Zix:=by
 intro pins s σ H Q I h;rw[evalPart_none];exact wpAny_pure ⟨none,H,I,.none,h⟩
theorem Qq(h:PE X e te):PO X (some e) (Znt te):=by
 intro pins s σ H Q I hw;rw[evalPart_some];refine Y5 (h pins s σ H _ I hw) fun u s1 ⟨x,H1,I1,r1,q1⟩=>?_;obtain⟨i,rfl,q⟩:=q1;obtain⟨t,rfl⟩:=r1;exact⟨some i,H1,I1,.int i t,q⟩
def SlR(X:Cx)(r:V→Option Int→Option Int→Hp→VK→Prop):Prop:=
 ∀(pins:List (Addr×Obj)) (s:Shared) (σ:St) (H:Hp) (x:V) (v vl vu:Value) (lo hi:Option Int) (sl:Addr) (Q:VK),Inv X pins σ H s→RelV x v→s.heap.IsSliceOf sl vl vu .none→IsPart vl lo→IsPart vu hi→r x lo hi H Q →
  ∃ T id,typeLookup (.type T) "__getitem__" = pure (some (.builtin id))∧s.TypeIs v T∧wpAny (model X.prog X.w) X.A (getItem v (.ref sl)) (EP X pins σ Q) X.xe s
def tSl(r:V→Option Int→Option Int→Hp→VK→Prop)(te:TE)(tl th:TO):TE:=fun σ H Q=>te σ H fun x H1=>tl σ H1 fun l H2=>th σ H2 fun u H3=>r x l u H3 Q
theorem Gs{r:V→Option Int→Option Int→Hp→VK→Prop}(hr:SlR X r)(he:PE X e te)(hl:PO X lo tl)(hu:PO X hi th):PE X (.Subscript e (.Slice lo hi none p2) pos) (tSl r te tl th):=by
 intro pins s σ H Q I h;refine Subscript_ (Y5 (he pins s σ H _ I h) fun v s1 ⟨x,H1,I1,r1,q1⟩=>?_);refine wpAny_Slice (Y5 (hl pins s1 σ H1 _ I1 q1) fun vl s2 ⟨l,H2,I2,pl,q2⟩=>Y5 (hu pins s2 σ H2 _ I2 q2) fun vu s3 ⟨u,H3,I3,pu,q3⟩=>?_);rw[evalPart_none];refine wpAny_pure ?_;have I4:Inv X pins σ H3 { s3 with heap:=s3.heap.push { cls:=.type "slice",data:=.fields #[vl,vu,.none] } }:=I3.kept (t':=s3.toks) fun b ob q=>Ze _ q;obtain⟨T,id,hT,ht,hg⟩:=hr pins { s3 with heap:=s3.heap.push { cls:=.type "slice",data:=.fields #[vl,vu,.none] } } σ H3 x v vl vu l u s3.heap.objs.size Q I4 r1 (Heap.IsSliceOf.new ..) pl pu q3;show wpAny (model X.prog X.w) X.A (subscriptTail e (.Slice lo hi none p2) v (.ref s3.heap.objs.size)) (EP X pins σ Q) X.xe { s3 with heap:=s3.heap.push { cls:=.type "slice",data:=.fields #[vl,vu,.none] } };exact tail_any (ops:=[.ref s3.heap.objs.size,v]) ht hT hg (by with_unfolding_all rfl)
def Rp(xs:List V)(lo hi:Option Int):List V:=(xs.drop (HT.sIx xs.length 0 lo)).take (HT.sIx xs.length xs.length hi - HT.sIx xs.length 0 lo)
theorem Ks(xs:List V)(lo hi:Option Int):(Rp xs lo hi).length≤xs.length:=by
 unfold Rp;rw[List.length_take,List.length_drop];omega
def Zoi(K:W.Frag):R2:=fun x y H Q=>∃ a b xs ys,x = .ref a∧y = .ref b∧SqT K H a xs∧SqT K H b ys∧xs≠[]∧xs.length+ys.length≤sizeLine ∧
 (ys=[]→Q (.ref a) H)∧(ys≠[]→∀ p,H p=none→Q (.ref p) (upd H p (.tup (xs++ys))))
theorem Vals.nil_iff{xs:List V}{us:List Value}(r:Vals xs us):us=[]↔xs=[]:=by
 cases r with
 | nil=>simp
 | cons _ _=>simp
theorem Zju:No X (binaryOp .Add) (Zoi X.K):=by
 intro pins s σ H x y v u Q I rx ry h;obtain⟨a,b,xs,ys,rfl,rfl,ha,hb,hx,hz,q1,q2⟩:=h;cases rx;cases ry;obtain⟨its,r1,p1,_⟩:=I.tuple ha;obtain⟨its2,r2,p2,_⟩:=I.tuple hb;refine HT.cat_tup p1 p2 (fun z=>hx (r1.nil_iff.mp z)) (fun z=>⟨.ref a,H,I,rfl,q1 (r2.nil_iff.mp z)⟩) (fun z=>?_) (by rw[← r1.length,← r2.length];exact hz);refine⟨.ref s.heap.objs.size,_,I.laid (t':=s.toks) (o:=.tup (xs++ys)) (fun b ob q=>Ze _ q) (Nat.le_refl _) ?_,rfl,q2 (fun w=>z (r2.nil_iff.mpr w)) _ (I.hok.fresh (Nat.le_refl _))⟩;exact⟨by rw[Z3];exact hz,_,r1.append r2,IsTup.new _ _⟩
end
def ixN(n:Nat)(i:Int):Option Nat:=if 0≤i then(if i < n then some i.toNat else none) else if -(n:Int)≤i then some (i+n).toNat else none
def Xg{α:Type}(xs:List α)(i:Int):Option α:=(ixN xs.length i).bind fun j=>xs[j]?
theorem Zb8{n:Nat}{i:Int}{j:Nat}(h:ixN n i=some j):seqIndex? i n=some j∧j < n∧-(n:Int)≤i∧i < n:=by
 unfold ixN at h;by_cases h0:0≤i
 ·rw[if_pos h0] at h
  by_cases h1:i < n
  ·rw[if_pos h1] at h
   have e:i.toNat=j:=Zn h;exact⟨by rw[seqIndex_of h0 h1,e],by omega,by omega,h1⟩
  ·rw[if_neg h1] at h;cases h
 ·rw[if_neg h0] at h
  by_cases h1:-(n:Int)≤i
  ·rw[if_pos h1] at h
   have e:(i+n).toNat=j:=Zn h;exact⟨by rw[seqIndex_neg (by omega) h1,e],by omega,h1,by omega⟩
  ·rw[if_neg h1] at h;cases h
theorem O0{α:Type}{xs:List α}{i:Int}{v:α}(h:Xg xs i=some v):∃ j,seqIndex? i xs.length=some j∧xs[j]? = some v∧j < xs.length∧-(xs.length:Int)≤i∧i < xs.length:=by
 unfold Xg at h;cases e:ixN xs.length i with
 | none=>rw[e] at h;cases h
 | some j=>
  rw[e] at h;obtain⟨h1,h2,h3,h4⟩:=Zb8 e;exact⟨j,h1,h,h2,h3,h4⟩
theorem Um{α:Type}{xs:List α}{j:Nat}{v:α}(h:xs[j]? = some v):Xg xs (j:Int)=some v:=by
 have hj:j < xs.length:=(Zt.mp h).1;have e:ixN xs.length (j:Int)=some j:=by
  unfold ixN;rw[if_pos (by omega),if_pos (by omega)];simp
 unfold Xg;rw[e];exact h
def Zk3(b:Expr):Prop:=∀ o i,subscripted b false o i=operate [o,i] (getItem o i)
def IxR(X:Cx)(r:R2):Prop:=
 ∀(value slice:Expr) (pins:List (Addr×Obj)) (s:Shared) (σ:St) (H:Hp) (x y:V) (v u:Value) (Q:VK),Inv X pins σ H s→RelV x v→RelV y u→r x y H Q →
  subscripted slice false v u=operate [v,u] (getItem v u)→wpAny (model X.prog X.w) X.A (subscriptTail value slice v u) (EP X pins σ Q) X.xe s
def MtR(X:Cx)(id:String)(r:V→List V→Hp→VK→Prop):Prop:=
 ∀(pins:List (Addr×Obj)) (s:Shared) (σ:St) (H:Hp) (x:V) (xs:List V) (v:Value) (us:List Value) (Q:VK),Inv X pins σ H s→RelV x v→Vals xs us→r x xs H Q →
  wpAny (model X.prog X.w) X.A (call (.builtin id) (v :: us)) (EP X pins σ Q) X.xe s
section
variable{X:Cx}{a b:Expr}{ta tb:TE}{pos:Pos}
theorem Jn{r:R2}(hr:IxR X r)(ha:PE X a ta)(hb:PE X b tb)(hs:Zk3 b):PE X (.Subscript a b pos) (tOp r ta tb):=by
 intro pins s σ H Q I h;exact Subscript_ (Zna ha hb I h fun v u s2 x y H2 I2 rx ry q=>hr a b pins s2 σ H2 x y v u Q I2 rx ry q (hs _ _))
def Zf3(K:W.Frag):R2:=fun x y H Q=>∃ p xs i v,x = .ref p∧y = .int i∧SqL K H p xs∧Xg xs i=some v∧Q v H
def Zps(K:W.Frag):R2:=fun x y H Q=>∃ p xs i v,x = .ref p∧y = .int i∧SqT K H p xs∧Xg xs i=some v∧Q v H
def Zma:R2:=fun x y H Q=>∃ z i c,x = .str z∧y = .int i∧z.length≤sizeLine∧Xg z.cps.toList i=some c∧Q (.str ⟨#[c]⟩) H
theorem Yd:IxR X (Zf3 X.K):=by
 intro value slice pins s σ H x y v u Q I rx ry h hs;obtain⟨p,xs,i,z,rfl,rfl,hq,he,q⟩:=h;cases rx;obtain⟨t,rfl⟩:=ry;obtain⟨its,r,pl,hz⟩:=I.list hq;obtain⟨j,h1,h2,h3,h4,h5⟩:=O0 he;obtain⟨w,ew,rw'⟩:=r.get h2;have hl:=r.length;have hn:=N7;have fin:EP X pins σ Q w s:=⟨z,H,I,rw',q⟩;by_cases h0:0≤i
 ·have hj:i.toNat=j:=by
   rw[seqIndex_of h0 h5] at h1;exact Zn h1
  exact item_listR pl.isList h0 (by omega) (by rw[hj];simpa using ew) fin hs
 ·have hj:(i+(its.toArray.size:Int)).toNat=j:=by
   rw[seqIndex_neg (by omega) h4] at h1;rw[List.size_toArray,← hl];exact Zn h1
  exact subscriptTail_builtinR (x:=w) pl.isList.typeIs slot_list_getitem.lookup
   (wpAny_getItem_list_neg (Q:=fun r s'=>r=w∧EP X pins σ Q r s') pl.isList (by omega) (by rw[List.size_toArray]<;>omega) (by omega) (by rw[hj];simpa using ew) ⟨rfl,fin⟩) hs
theorem Jw:IxR X (Zps X.K):=by
 intro value slice pins s σ H x y v u Q I rx ry h hs;obtain⟨p,xs,i,z,rfl,rfl,hq,he,q⟩:=h;cases rx;obtain⟨t,rfl⟩:=ry;obtain⟨its,r,pl,hz⟩:=I.tuple hq;obtain⟨j,h1,h2,h3,h4,h5⟩:=O0 he;obtain⟨w,ew,rw'⟩:=r.get h2;have hl:=r.length;have hn:=N7;have fin:EP X pins σ Q w s:=⟨z,H,I,rw',q⟩;exact subscriptTail_builtinR (x:=w) pl.typeIs slot_tuple_getitem.lookup
  (getItem_tuple (j:=j) (Q:=fun r s'=>r=w∧EP X pins σ Q r s') pl (by omega) (by omega) (by rw[List.size_toArray,← hl];exact h1) (by simpa using ew) ⟨rfl,fin⟩) hs
theorem Tf:IxR X Zma:=by
  intro value slice pins s σ H x y v u Q I rx ry h hs;obtain⟨z,i,c,rfl,rfl,hz,he,q⟩:=h;obtain⟨t,rfl⟩:=rx;obtain⟨t',rfl⟩:=ry;obtain⟨j,h1,h2,h3,h4,h5⟩:=O0 he;have hl:z.cps.toList.length=z.length:=by simp [Str.length]
  rw[hl] at h1 h4 h5;have hn:=N7;exact tail_any (typeIs_str s z t) slot_str_getitem.lookup (getItem_str (c:=c) (by
    have e1:decide (i < -(2 ^ 63:Int))=false:=Zd (by omega);have e2:decide (i ≥ 2 ^ 63)=false:=Zd (by omega);rw[e1,e2,Bool.or_false]) (by rw[h1];simpa using h2) ⟨.str ⟨#[c]⟩,H,I.tok _,⟨_,rfl⟩,q⟩) hs
theorem Zam(its:List Value)(n j:Nat)(u:Value):Obj.mapSeq (·.setIfInBounds j u) { cls:=.type "list",data:=.seq its.toArray n } = { cls:=.type "list",data:=.seq (its.set j u).toArray n }:=by
 simp [Obj.mapSeq]
theorem Inv.lst{pins:List (Addr×Obj)}{σ:St}{H:Hp}{s:Shared}{p:Addr}{xs:List V}(I:Inv X pins σ H s)(h:H p=some (.lst xs)) :
  ∃(its:List Value) (n:Nat),Vals xs its∧s.heap.get? p=some { cls:=.type "list",data:=.seq its.toArray n }∧xs.length≤sizeLine:=by
 obtain⟨z,its,n,r,e⟩:=I.hok p _ h;exact⟨its,n,r,e,z⟩
theorem Inv.lstUpd{pins:List (Addr×Obj)}{σ:St}{H:Hp}{s:Shared}{p:Addr}{xs ys:List V}{its its':List Value}{n n':Nat}{f:Obj→Obj}(I:Inv X pins σ H s)(h:H p=some (.lst xs))
  (ho:s.heap.get? p=some { cls:=.type "list",data:=.seq its.toArray n }) (hf:f { cls:=.type "list",data:=.seq its.toArray n } = { cls:=.type "list",data:=.seq its'.toArray n' }) (r:Vals ys its') (hz:ys.length≤sizeLine) (t:Nat) :
  Inv X pins σ (upd H p (.lst ys)) { s with heap:=s.heap.update p f,toks:=t }:=by
 have e:(s.heap.update p f).get? p=some { cls:=.type "list",data:=.seq its'.toArray n' }:=by
  rw[Heap.get?_update_self f ho (by rw[hf]<;>rfl),hf]
 refine I.write (x:=p) (e:=p) (by rw[h];trivial) (.inl rfl) (fun b u hb q=>(Heap.get?_update_other _ _ (Ne.symm hb)).trans q) ⟨_,e⟩ ?_;exact⟨hz,its',n',r,e⟩
def Zoe:V→V→V→Hp→(Hp→Prop)→Prop:=fun o i v H Q=>∃ p xs k j,o = .ref p∧i = .int k∧H p=some (.lst xs)∧ixN xs.length k=some j∧Q (upd H p (.lst (xs.set j v)))
theorem Ae:Zo3 X Zoe:=by
 intro pins s σ H o i v ov iv u Q I ro ri rv h;obtain⟨p,xs,k,j,rfl,rfl,hp,hj,q⟩:=h;cases ro;obtain⟨t,rfl⟩:=ri;obtain⟨its,n,r,ho,hz⟩:=I.lst hp;obtain⟨h1,h2,h3,h4⟩:=Zb8 hj;have hl:=r.length;have hn:=N7;have I':Inv X pins σ (upd H p (.lst (xs.set j v))) { s with heap:=s.heap.update p (Obj.mapSeq (·.setIfInBounds j u)) }:=
  I.lstUpd hp ho (Zam its n j u) (r.set rv j) (by rw[Ux];exact hz) s.toks
 by_cases h0:0≤k
 ·have hk:k.toNat=j:=by
   rw[seqIndex_of h0 h4] at h1;exact Zn h1
  exact W.ki_setAt ho h0 (by omega) (by rw[List.size_toArray,← hl];exact h4) (by rw[hk];exact⟨_,I',q⟩)
 ·have hk:(k+(its.toArray.size:Int)).toNat=j:=by
   rw[seqIndex_neg (by omega) h3] at h1;rw[List.size_toArray,← hl];exact Zn h1
  exact W.ki_setBack ho (by omega) (by rw[List.size_toArray,← hl];exact h3) (by omega) (by rw[hk];exact⟨_,I',q⟩)
theorem Dx(lo hi:Option Int)(n:Nat):(sliceBounds lo hi none n).1=((HT.sIx n 0 lo:Nat):Int)∧(sliceBounds lo hi none n).2.1=((HT.sIx n n hi:Nat):Int)∧(sliceBounds lo hi none n).2.2=1:=by
 refine⟨?_,?_,rfl⟩
 ·cases lo with
  | none=>simp [sliceBounds,HT.sIx]
  | some i=>
   simp only[sliceBounds,HT.sIx,Option.getD_none,show(1:Int) > 0 by decide,if_true];by_cases h:i < 0
   ·simp only[h,if_true]<;>omega
   ·simp only[h,if_false]<;>omega
 ·cases hi with
  | none=>simp [sliceBounds,HT.sIx]
  | some i=>
   simp only[sliceBounds,HT.sIx,Option.getD_none,show(1:Int) > 0 by decide,if_true];by_cases h:i < 0
   ·simp only[h,if_true]<;>omega
   ·simp only[h,if_false]<;>omega
theorem T3(its:List Value)(lo hi:Option Int):slicePick its.toArray lo hi none=((its.drop (HT.sIx its.length 0 lo)).take (HT.sIx its.length its.length hi - HT.sIx its.length 0 lo)).toArray:=by
 obtain⟨h1,h2,h3⟩:=Dx lo hi its.toArray.size;unfold slicePick;rw[h1,h2,h3];simp only[sliceRange_one,pick_run,List.size_toArray]<;>rfl
def Zpr(K:W.Frag):V→Option Int→Option Int→Hp→VK→Prop:=fun x lo hi H Q=>∃ a xs,x = .ref a∧SqL K H a xs∧∀ p,H p=none→Q (.ref p) (upd H p (.lst (Rp xs lo hi)))
theorem Zbm:SlR X (Zpr X.K):=by
 intro pins s σ H x v vl vu lo hi sl Q I rx hs pl pu h;obtain⟨a,xs,rfl,hx,q⟩:=h;cases rx;obtain⟨its,r,ht,hz⟩:=I.list hx;have hlen:=r.length;refine⟨"list",_,slot_list_getitem.lookup,ht.isList.typeIs,?_⟩;refine wpAny_getItem_list_slice ht.isList hs pl pu .none (by simp) ?_ (by rw[List.size_toArray]<;>omega);rw[T3,← hlen];refine⟨.ref s.heap.objs.size,_,I.laid (t':=s.toks) (o:=.lst (Rp xs lo hi)) (fun b ob q=>Ze _ q) (Nat.le_refl _) ?_,rfl,q _ (I.hok.fresh (Nat.le_refl _))⟩;exact⟨Nat.le_trans (Ks xs lo hi) hz,_,0,(r.drop (HT.sIx xs.length 0 lo)).take (HT.sIx xs.length xs.length hi - HT.sIx xs.length 0 lo),Heap.get?_push_size _ rfl⟩
def U3:V→Bool
 | .non=>true
 | .bl _=>true
 | .int _=>true
 | .str _=>true
 | _=>false
def T0:V→V→Bool
 | .non,.non=>true
 | .bl a,.bl b=>a == b
 | .bl a,.int b=>(if a then 1 else 0) == b
 | .int a,.bl b=>a == (if b then 1 else 0)
 | .int a,.int b=>a == b
 | .str a,.str b=>a == b
 | _,_=>false
theorem Tl{A:Around}{s:Shared}{y x:V}{u v:Value}(ry:RelV y u)(rx:RelV x v)(fy:U3 y=true)(fx:U3 x=true):SeqAt.EqAt A s u v (T0 y x):=by
 cases y with
 | non=>
  cases ry;cases x with
  | non=>cases rx;exact SeqAt.EqAt.same _
  | bl b=>cases rx;exact SeqAt.EqAt.none_bool b
  | int b=>obtain⟨t,rfl⟩:=rx;exact SeqAt.EqAt.none_int b t
  | str b=>obtain⟨t,rfl⟩:=rx;exact SeqAt.EqAt.none_str b t
  | _=>exact absurd (show false=true from fx) Zz
 | bl a=>
  cases ry;cases x with
  | non=>cases rx;exact SeqAt.EqAt.bool_none a
  | bl b=>cases rx;exact SeqAt.EqAt.bool_bool a b
  | int b=>obtain⟨t,rfl⟩:=rx;exact SeqAt.EqAt.bool_int a b t
  | str b=>obtain⟨t,rfl⟩:=rx;exact SeqAt.EqAt.bool_str a b t
  | _=>exact absurd (show false=true from fx) Zz
 | int a=>
  obtain⟨t',rfl⟩:=ry;cases x with
  | non=>cases rx;exact SeqAt.EqAt.int_none a t'
  | bl b=>cases rx;exact SeqAt.EqAt.int_bool a t' b
  | int b=>obtain⟨t,rfl⟩:=rx;exact SeqAt.EqAt.int_int a t' b t
  | str b=>obtain⟨t,rfl⟩:=rx;exact SeqAt.EqAt.int_str a t' b t
  | _=>exact absurd (show false=true from fx) Zz
 | str a=>
  obtain⟨t',rfl⟩:=ry;cases x with
  | non=>cases rx;exact SeqAt.EqAt.str_none a t'
  | bl b=>cases rx;exact SeqAt.EqAt.str_bool a t' b
  | int b=>obtain⟨t,rfl⟩:=rx;exact SeqAt.EqAt.str_int a t' b t
  | str b=>obtain⟨t,rfl⟩:=rx;exact SeqAt.EqAt.str_str a t' b t
  | _=>exact absurd (show false=true from fx) Zz
 | _=>exact absurd (show false=true from fy) Zz
def eqU(x:V)(u:Value):Bool:=match u with
 | .none=>T0 .non x
 | .bool b=>T0 (.bl b) x
 | .int i _=>T0 (.int i) x
 | .str z _=>T0 (.str z) x
 | _=>false
theorem Zh3{x y:V}{u:Value}(r:RelV y u)(f:U3 y=true):eqU x u=T0 y x:=by
 cases y with
 | non=>cases r;rfl
 | bl b=>cases r;rfl
 | int i=>obtain⟨t,rfl⟩:=r;rfl
 | str z=>obtain⟨t,rfl⟩:=r;rfl
 | _=>exact absurd (show false=true from f) Zz
theorem Vb{x:V}:∀{xs:List V} {us:List Value},Vals xs us→xs.all U3=true→us.any (eqU x)=xs.any fun y=>T0 y x
 | _,_,.nil,_=>rfl
 | y :: xs,u :: us,.cons r t,f=>by
  rw[List.all_cons,Bool.and_eq_true] at f;rw[List.any_cons,List.any_cons,Zh3 r f.1,Vb t f.2]
theorem Ey{A:Around}{s:Shared}{x:V}{v:Value}(rx:RelV x v)(fx:U3 x=true):∀{xs:List V} {us:List Value},Vals xs us→xs.all U3=true→∀ u∈us,SeqAt.EqAt A s u v (eqU x u)
 | _,_,.nil,_=>fun u hu=>by cases hu
 | y :: xs,u :: us,.cons r t,f=>fun u' hu=>by
  rw[List.all_cons,Bool.and_eq_true] at f;rcases List.mem_cons.mp hu with rfl | hu
  ·rw[Zh3 r f.1];exact Tl r rx f.1 fx
  ·exact Ey rx fx t f.2 u' hu
def B1(x:V)(xs:List V):Bool:=xs.any fun y=>T0 y x
def rIn(K:W.Frag)(neg:Bool):R2:=fun x y H Q=>∃ p xs,y = .ref p∧(SqL K H p xs∨SqT K H p xs)∧U3 x=true∧xs.all U3=true∧Q (.bl (if neg then !B1 x xs else B1 x xs)) H
theorem Zdb:No X (compareOp .In) (rIn X.K false):=by
 intro pins s σ H x y v u Q I rx ry h;obtain⟨p,xs,rfl,hq,fx,fs,q⟩:=h;cases ry;rcases hq with hq | hq
 ·obtain⟨its,r,pl,hz⟩:=I.list hq
  refine SeqAt.in_listAt (eqU x) pl.isList (fun w hw=>Ey rx fx r fs w (by simpa using hw)) ⟨.bl _,H,I,rfl,?_⟩;rw[show its.toArray.any (eqU x)=its.any (eqU x) by simp,Vb r fs];exact q
 ·obtain⟨its,r,pl,hz⟩:=I.tuple hq
  refine SeqAt.in_tupleAt (eqU x) pl (fun w hw=>Ey rx fx r fs w (by simpa using hw)) ⟨.bl _,H,I,rfl,?_⟩;rw[show its.toArray.any (eqU x)=its.any (eqU x) by simp,Vb r fs];exact q
theorem Y7:No X (compareOp .NotIn) (rIn X.K true):=by
 intro pins s σ H x y v u Q I rx ry h;obtain⟨p,xs,rfl,hq,fx,fs,q⟩:=h;cases ry;rcases hq with hq | hq
 ·obtain⟨its,r,pl,hz⟩:=I.list hq
  refine SeqAt.notIn_listAt (eqU x) pl.isList (fun w hw=>Ey rx fx r fs w (by simpa using hw)) ⟨.bl _,H,I,rfl,?_⟩;rw[show its.toArray.any (eqU x)=its.any (eqU x) by simp,Vb r fs];exact q
 ·obtain⟨its,r,pl,hz⟩:=I.tuple hq
  refine SeqAt.notIn_tupleAt (eqU x) pl (fun w hw=>Ey rx fx r fs w (by simpa using hw)) ⟨.bl _,H,I,rfl,?_⟩;rw[show its.toArray.any (eqU x)=its.any (eqU x) by simp,Vb r fs];exact q
theorem Je:U8 X (.builtin "len") (fun xs H Q=>∃ p ys,xs=[.ref p]∧(SqL X.K H p ys∨SqT X.K H p ys)∧Q (.int ys.length) H):=by
 intro pins s σ H xs us Q I r h;obtain⟨p,ys,rfl,hq,q⟩:=h;obtain⟨u,rfl,rx⟩:=Xc r;cases rx;have hn:=N7;rcases hq with hq | hq
 ·obtain⟨its,r',pl,hz⟩:=I.list hq
  have hlen:=r'.length;exact Calls.call_len_list pl.isList (by simp only[List.size_toArray]<;>omega) ⟨.int ys.length,H,I.tok _,⟨s.toks+1,by rw[List.size_toArray,hlen]⟩,q⟩
 ·obtain⟨its,r',pl,hz⟩:=I.tuple hq
  have hlen:=r'.length;exact len_tuple pl (by simp only[List.size_toArray]<;>omega) ⟨.int ys.length,H,I.tok _,⟨s.toks+1,by rw[List.size_toArray,hlen]⟩,q⟩
theorem B9:U8 X (.builtin "len") (fun xs H Q=>∃ z,xs=[.str z]∧z.length≤sizeLine∧Q (.int z.length) H):=by
 intro pins s σ H xs us Q I r h;obtain⟨z,rfl,hz,q⟩:=h;obtain⟨u,rfl,t,rfl⟩:=Xc r;have hn:=N7;exact len_str (by omega) ⟨.int z.length,H,I.tok _,⟨_,rfl⟩,q⟩
theorem Ut:U8 X (.type "list") (fun xs H Q=>∃ p ys,xs=[.ref p]∧(SqL X.K H p ys∨SqT X.K H p ys)∧∀ l,H l=none→Q (.ref l) (upd H l (.lst ys))):=by
 intro pins s σ H xs us Q I r h;obtain⟨p,ys,rfl,hq,q⟩:=h;obtain⟨u,rfl,rx⟩:=Xc r;cases rx;have fin:∀(its:List Value),Vals ys its→ys.length≤sizeLine→∀(h':Heap) (c':Nat),(∀ b o',s.heap.get? b=some o'→h'.get? b=some o') →
   h'.get? s.heap.objs.size=some { cls:=.type "list",dict:=none,data:=.seq its.toArray c',slots:=#[] }→EP X pins σ Q (.ref s.heap.objs.size) { s with heap:=h' }:=fun its r' hz h' c' kp e=>
  ⟨.ref s.heap.objs.size,_,I.laid (t':=s.toks) kp (Nat.le_refl _) (show ObjOk X.prog X.w _ h' _ (.lst ys) from⟨hz,its,c',r',e⟩),rfl,q _ (I.hok.fresh (Nat.le_refl _))⟩
 rcases hq with hq | hq
 ·obtain⟨its,r',pl,hz⟩:=I.list hq
  have hlen:=r'.length;obtain⟨o,ho,hc,n,hd⟩:=pl.isList;exact call_list_seq p (.inl rfl) ho hc hd (fun h' c' kp e=>fin its r' hz h' c' kp e) (by simp only[List.size_toArray]<;>omega)
 ·obtain⟨its,r',pl,hz⟩:=I.tuple hq
  have hlen:=r'.length;obtain⟨o,ho,hc,n,hd⟩:=pl;exact call_list_seq p (.inr rfl) ho hc hd (fun h' c' kp e=>fin its r' hz h' c' kp e) (by simp only[List.size_toArray]<;>omega)
theorem Xe:U8 X (.type "tuple") (fun xs H Q=>∃ p ys,xs=[.ref p]∧((SqL X.K H p ys∧∀ l,H l=none→Q (.ref l) (upd H l (.tup ys)))∨(SqT X.K H p ys∧Q (.ref p) H))):=by
 intro pins s σ H xs us Q I r h;obtain⟨p,ys,rfl,h⟩:=h;obtain⟨u,rfl,rx⟩:=Xc r;cases rx;rcases h with⟨hq,q⟩ | ⟨hq,q⟩
 ·obtain⟨its,r',pl,hz⟩:=I.list hq
  have hlen:=r'.length;refine call_tuple_list pl.isList (fun h' kp=>?_) (by simp only[List.size_toArray]<;>omega);have I1:Inv X pins σ H { s with heap:=h' }:=I.kept (t':=s.toks) kp;have I2:Inv X pins σ (upd H h'.objs.size (.tup ys)) { s with heap:=h'.push { cls:=.type "tuple",data:=.seq its.toArray } }:=
   I1.laid (t':=s.toks) (fun b o e=>Ze _ e) (Nat.le_refl _) (show ObjOk X.prog X.w _ _ _ (.tup ys) from⟨hz,its,r',IsTup.new _ _⟩)
  exact⟨.ref h'.objs.size,_,I2,rfl,q _ (I1.hok.fresh (Nat.le_refl _))⟩
 ·obtain⟨its,r',pl,hz⟩:=I.tuple hq
  exact call_tuple_same pl ⟨.ref p,H,I,rfl,q⟩
def tyV(K:W.Frag)(T:String)(x:V)(H:Hp):Prop:=match x with
 | .str _=>T = "str"
 | .int _=>T = "int"
 | .ref p=>(T = "list"∧∃ xs,SqL K H p xs)∨(T = "tuple"∧∃ o,K.lookup p=some o∧o.cls = .type "tuple"∧o.dict=none) ∨
   (T = "dict"∧((∃ kvs,H p=some (.dK kvs))∨∃ kvs,H p=some (.dT kvs)))∨(T = "set"∧∃ S n,H p=some (.set S n))
 | _=>False
theorem Zlw{pins:List (Addr×Obj)}{σ:St}{H:Hp}{s:Shared}{T:String}{x:V}{v:Value}(I:Inv X pins σ H s)(r:RelV x v)(ty:tyV X.K T x H) :
  s.TypeIs v T∧∀ a,v = .ref a→∃ ob,s.heap.get? a=some ob∧ob.dict=none:=by
 cases x with
 | str z=>
  obtain⟨t,rfl⟩:=r;cases (show T = "str" from ty);exact⟨typeIs_str s z t,fun _ e=>nomatch e⟩
 | int i=>
  obtain⟨t,rfl⟩:=r;cases (show T = "int" from ty);exact⟨typeIs_int s i t,fun _ e=>nomatch e⟩
 | ref p=>
  cases r;rcases ty with⟨rfl,xs,hq⟩ | ⟨rfl,o,hk,hc,hd⟩ | ⟨rfl,hk⟩ | ⟨rfl,S,n,hk⟩
  ·obtain⟨its,_,pl,_⟩:=I.list hq
   refine⟨pl.isList.typeIs,fun a e=>?_⟩;cases e;obtain⟨o,n,e,c,hd,_⟩:=pl;exact⟨o,e,hd⟩
  ·refine⟨⟨o,I.kIn p o hk,hc⟩,fun a e=>?_⟩
   cases e;exact⟨o,I.kIn _ o hk,hd⟩
  ·have z:∃ o,s.heap.get? p=some o∧o.ExactDict:=by
    rcases hk with⟨kvs,hk⟩ | ⟨kvs,hk⟩
    ·obtain⟨_,_,_,_,o,_,_,e,ex,_⟩:=I.hok p _ hk
     exact⟨o,e,ex⟩
    ·obtain⟨_,_,_,_,o,_,_,e,ex,_⟩:=I.hok p _ hk
     exact⟨o,e,ex⟩
   obtain⟨o,e,ex⟩:=z;refine⟨⟨o,e,ex.1⟩,fun a e2=>?_⟩;cases e2;exact⟨o,e,ex.2.1⟩
  ·obtain⟨o,_,_,_,e,ex,_⟩:=I.hok p _ hk
   refine⟨⟨o,e,ex.1⟩,fun a e2=>?_⟩;cases e2;exact⟨o,e,ex.2.1⟩
 | _=>exact False.elim ty
def tBM(K:W.Frag)(T:String)(r:V→List V→Hp→VK→Prop)(to:TE)(t:TA):TE:=fun σ H Q=>to σ H fun x H1=>tyV K T x H1∧t σ H1 fun xs H2=>r x xs H2 Q
variable{o e:Expr}{es:List Expr}{to:TE}{t:TA}{name:Str}{apos cpos:Pos}{T id:String}{r:V→List V→Hp→VK→Prop}
theorem U5(pa:PlainAttrs T)(slot:Slot T name id)(hty:typeOf (.builtin id)=pure (.type "method_descriptor"))(hm:MtR X id r)(ho:PE X o to)(ha:PA X (e :: es) t)
  (hbase:attributeBase o name X.env (eval o X.env)=eval o X.env:=by rfl)
  (hfew:((backTo cpos (starEach (e :: es) X.env)).all (fun x=>!x.1) && (backToKw cpos (keywordEach [] X.env)).all (fun x=>x.1.isSome)
   && decide ((e :: es).length+([]:List Keyword).length+(if([]:List Keyword).isEmpty then 0 else 1) < 30))=true:=by rfl)
  (hline:(apos.endLine == cpos.line)=true:=by rfl) (hs:starEach (e :: es) X.env=(false,eval e X.env) :: starEach es X.env:=by rfl) (hplain:(backTo cpos (starEach es X.env)).any (·.1)=false:=by rfl) :
  PE X (.Call (.Attribute o name apos) (e :: es) [] cpos) (tBM X.K T r to t):=by
 intro pins s σ H Q I h;refine wpAny_Call_method_late hbase hfew hline rfl (Y5 (ho pins s σ H _ I h) fun v s1 ⟨x,H1,I1,r1,ty,q1⟩=>?_);obtain⟨h1,h2⟩:=Zlw I1 r1 ty;refine⟨T,id,pa,slot,hty,h1,h2,?_⟩;have hA:=ha cpos pins s1 σ H1 _ I1 q1;rw[hs] at hA ⊢;refine Calls.callWith_builtin (by show(false || (backTo cpos (starEach es X.env)).any (·.1))=false;rw[hplain]<;>rfl) (Calls.evalArgs_plain ?_);exact Y5 hA fun us s2 ⟨vs,H2,I2,r2,q2⟩=>hm pins s2 σ H2 x vs v us Q I2 r1 r2 q2
end
def MtM(X:Cx)(id:String)(r:V→List V→Hp→VK→Prop):Prop:=
 ∀(pins:List (Addr×Obj)) (s:Shared) (σ:St) (H:Hp) (x:V) (xs:List V) (v:Value) (us:List Value) (Q:VK),Inv X pins σ H s→RelV x v→Vals xs us→r x xs H Q →
  wpAny (model X.prog X.w) X.A (call (.builtin id) (v :: us)) (EP X pins σ Q) X.xe s
theorem Vals.one:∀{x:V} {us:List Value},Vals [x] us→∃ u,us=[u]∧RelV x u
 | _,_,.cons r .nil=>⟨_,rfl,r⟩
section
variable{X:Cx}{pins:List (Addr×Obj)}{σ:St}{H:Hp}{s:Shared}{l b:Addr}{xs ys zs:List V}
theorem Inv.lset{its its':List Value}{n:Nat}{f:Array Value→Array Value}{t':Nat}(I:Inv X pins σ H s)(hH:H l=some (.lst xs))
  (e:s.heap.get? l=some { cls:=.type "list",data:=.seq its.toArray n }) (hf:f its.toArray=its'.toArray) (hv:Vals ys its') (hz:ys.length≤sizeLine) :
  Inv X pins σ (upd H l (.lst ys)) { s with heap:=s.heap.update l (Obj.mapSeq f),toks:=t' }:=by
 have q:=PySem.IsL.update e f;rw[hf] at q;refine I.write (x:=l) (e:=l) (by rw[hH];exact trivial) (.inl rfl) (fun b' u hb hu=>(Heap.get?_update_other s.heap (Obj.mapSeq f) (Ne.symm hb)).trans hu) ⟨_,q⟩ ?_;exact⟨hz,its',_,hv,q⟩
theorem Inv.lnew{its:List Value}{t':Nat}(I:Inv X pins σ H s)(hv:Vals ys its)(hz:ys.length≤sizeLine) :
  Inv X pins σ (upd H s.heap.objs.size (.lst ys)) { s with heap:=s.heap.push { cls:=.type "list",data:=.seq its.toArray },toks:=t' }:=
 I.laid (fun _ _ q=>Ze _ q) (Nat.le_refl _) ⟨hz,its,0,hv,Heap.get?_push_size _ rfl⟩
theorem Inv.fresh(I:Inv X pins σ H s):H s.heap.objs.size=none:=I.hok.fresh (Nat.le_refl _)
theorem Inv.lstM(I:Inv X pins σ H s)(hH:H l=some (.lst xs)):xs.length≤sizeLine∧∃(its:List Value) (n:Nat),Vals xs its∧xs.length=its.length∧s.heap.get? l=some { cls:=.type "list",data:=.seq its.toArray n }:=by
 obtain⟨z,its,n,r,e⟩:=I.hok l _ hH;exact⟨z,its,n,r,r.length,e⟩
theorem Zg6{n:Nat}(h:n≤sizeLine):Builtin.List.listTooLong n=false:=by
 unfold Builtin.List.listTooLong;exact Zd (by omega)
end
section
variable{X:Cx}
def Zjg:V→List V→Hp→VK→Prop:=fun x vs H Q=>∃ l xs y,x = .ref l∧vs=[y]∧H l=some (.lst xs)∧xs.length < sizeLine∧Q .non (upd H l (.lst (xs++[y])))
theorem Ud:MtM X "list.append" Zjg:=by
 intro pins s σ H x vs v us Q I rx rv h;obtain⟨l,xs,y,rfl,rfl,hH,hz,q⟩:=h;cases rx;obtain⟨u,rfl,ru⟩:=rv.one;obtain⟨z,its,n,r,hl,e⟩:=I.lstM hH;refine call_meets F.slot_list_append ⟨_,e,rfl⟩ F.entry_list_append (F.args_list_append_2 _ _) (PySem.list_append l its.toArray n u (by rw[List.size_toArray];omega)) ⟨e,?_⟩;refine⟨.non,_,I.lset (its':=its++[u]) hH e (by simp) (r.append (.cons ru .nil)) ?_,rfl,q⟩;rw[Z3,List.length_singleton];omega
def Zjf:V→List V→Hp→VK→Prop:=fun x vs H Q=>∃ l b xs zs,x = .ref l∧vs=[.ref b]∧H l=some (.lst xs)∧H b=some (.lst zs)∧xs.length+zs.length≤sizeLine∧Q .non (upd H l (.lst (xs++zs)))
theorem Zdt:MtM X "list.extend" Zjf:=by
 intro pins s σ H x vs v us Q I rx rv h;obtain⟨l,b,xs,zs,rfl,rfl,hH,hB,hz,q⟩:=h;cases rx;obtain⟨u,rfl,ru⟩:=rv.one;cases ru;obtain⟨z,its,n,r,hl,e⟩:=I.lstM hH;obtain⟨z2,its2,n2,r2,hl2,e2⟩:=I.lstM hB;have hsz:its.toArray.size+its2.toArray.size≤sizeLine:=by rw[List.size_toArray,List.size_toArray];omega
 have hlong:¬ (!its.toArray.isEmpty && Builtin.List.listTooLong (its.toArray.size+its2.toArray.size))=true:=by
  rw[Zg6 hsz,Bool.and_false];exact Zz
 refine call_meets F.slot_list_extend ⟨_,e,rfl⟩ F.entry_list_extend (F.args_list_extend_2 _ _)
  (AutoSeq1.list_extend_list_list_0 l its.toArray n b its2.toArray n2 hlong (by rw[List.size_toArray];omega) (by omega)) ⟨e,e2,?_⟩
 refine⟨.non,_,I.lset (its':=its++its2) hH e (by simp) (r.append r2) ?_,rfl,q⟩;rw[Z3];omega
def Zpv:R2:=fun x y H Q=>∃ l b xs zs,x = .ref l∧y = .ref b∧H l=some (.lst xs)∧H b=some (.lst zs)∧xs.length+zs.length≤sizeLine∧∀ p,H p=none→Q (.ref p) (upd H p (.lst (xs++zs)))
theorem Zad:No X (binaryOp .Add) Zpv:=by
 intro pins s σ H x y v u Q I rx ry h;obtain⟨l,b,xs,zs,rfl,rfl,hH,hB,hz,q⟩:=h;cases rx;cases ry;obtain⟨z,its,n,r,hl,e⟩:=I.lstM hH;obtain⟨z2,its2,n2,r2,hl2,e2⟩:=I.lstM hB;refine PySem.P.add_list e e2 ?_ (by rw[List.size_toArray,List.size_toArray];omega);have ea:its.toArray++its2.toArray=(its++its2).toArray:=by simp
 rw[ea];exact⟨.ref _,_,I.lnew (t':=s.toks) (r.append r2) (by rw[Z3];omega),rfl,q _ I.fresh⟩
end
section
variable{prog:Program}{w:World}{A:Around}{E:Value→Shared→Prop}{s:Shared}
end
section
variable{X:Cx}
end
end L2
namespace Att
open PySem PySem.W PySem.Calls PyProof.Rows
theorem Ro{P:Params}{h:Heap}:∀(ns:List Int) (vs:List Value),WellAll P h vs (ns.map WData.int)→IntsAre vs ns:=by
 intro ns
 induction ns with
 | nil=>
  intro vs w;rw[List.map_nil] at w;cases w;exact .nil
 | cons n ns ih=>
  intro vs w;rw[List.map_cons] at w;cases w with
  | cons a b=>
   cases a;exact .cons _ _ (ih _ b)
theorem Zc1{l:OpenLaw}{n:Nat}(hn:l.most=some n){P:Params}{h:Heap}{args:List WData}{vals:List Value}
  (hpre:l.row.toRowW.claim.pre args=true) (hwl:WellAll P h vals args) :
  ∃ a vs ns,vals=[Value.ref a]∧args=[WData.list (ns.map WData.int)]∧h.get? a=some { cls:=.type "list",data:=.seq vs.toArray }∧IntsAre vs ns∧ns.length≤n:=by
 have hsh:WShape.hasAll [] args [.list .int]=true:=(pre_splitW hpre).1;have hc:l.pre.holds [] { args:=args }=true:=(pre_splitW hpre).2;obtain⟨d,r,rfl,h1,h2⟩:=hasAllW_cons hsh;obtain rfl:=hasAllW_nil h2;obtain⟨xs,rfl,h3⟩:=hasW_list h1;obtain⟨ns,rfl⟩:=items_int h3;have hlen:ns.length≤n:=by
  unfold OpenLaw.pre at hc;have h4:(WTm.not (.lt (.lit (.int (n:Int))) (.len (.arg 0)))).holds [] { args:=[.list (ns.map .int)] }=true:=by
   have h4:=(holds_andW hc).1;rw[hn] at h4;exact h4
  have h5:=condW_of h4 (w_not (w_lt w_lit (w_len_list (w_arg rfl))));rw[Zi] at h5;refine Nat.le_of_not_lt fun q=>?_;have q':(n:Int) < ((ns.length:Nat):Int):=by omega
  first
   | (rw[Zf q'] at h5;exact absurd h5 (by decide))
   | (simp at h5;omega)
 cases hwl with
 | cons w1 w2=>
  cases w2;cases w1 with
  | list ho hall=>exact⟨_,_,ns,rfl,rfl,ho,Ro ns _ hall,hlen⟩
theorem Zc8(l:OpenLaw)(args:List WData):l.row.toRowW.claim.post args (.bool true) args=true:=
 postW_of (r:=l.row.toRowW) (X:=(true == true))
  (show WShape.has [] (.bool true) .bool=true by first | rfl | decide | simp [WShape.has,WShape.arms,WShape.armsAll])
  (show(WTm.eq .res (.lit (.bool true))).value [] { args:=args,res:=some (.bool true),after:=args }=some (.bool (true == true)) from w_eq_bool (w_res rfl) w_lit) rfl
theorem attach_call{l:OpenLaw}{n:Nat}{q:Program}{loose:List Str}{XP:(Str→Option Value)→Heap→Prop}{YP:World→Heap→Prop}{d:DefRec}
  (hn:l.most=some n) (hdf:d.params.defaults=[])
  (call:∀(w:World) (s₀ s₁:Shared) (mg mb:Str→Option Value) (fa:Addr) (o:Obj) (pm cd doc:Value) (a:Addr) (vs:List Value) (ns:List Int),
   Ground q loose [] XP w s₀ mg mb s₁.heap→YP w s₁.heap →
   s₁.heap.get? fa=some o→o.data = .func (docDef d.name d.params d.body d.scope pm cd doc)→s₁.heap.CodeRec cd d.name→mg d.name=some (.ref fa) →
   s₁.heap.get? a=some { cls:=.type "list",data:=.seq vs.toArray }→IntsAre vs ns→ns.length≤n→s₁.gens = #[] →
   codeAny (model l.prog w) callerA (.call (.ref fa) ⟨[.ref a],[]⟩) (fun r s'=>r = .ok (.ret (.bool true))∧OldK s₁.heap s'.heap∧s'.os=s₁.os∧AllBare s'.gens) s₁) :
  WalkO q loose XP YP l.row.toRowW d [] (fun f vs=>PySem.call f vs):=by
 intro w s₀ s₁ mg mb G Y fa o pm cd doc dV kV ho hd hcd hD hmg hg args vals as hpre hlay hrd hwl hlo;obtain rfl:dV = .none:=Dflts.none hD hdf;obtain rfl:kV = .none:=Dflts.noKw hD;obtain⟨a,vs,ns,rfl,rfl,hobj,hints,hlen⟩:=Zc1 hn hpre hwl;refine enter_call (codeAny_mono (call w s₀ s₁ mg mb fa o pm cd doc a vs ns G Y ho (fd_plain hd) hcd hmg hobj hints hlen hg) fun r s' hq=>?_);obtain⟨rfl,h2,h3,h4⟩:=hq;exact⟨.inl ⟨.bool true,.bool true,[],rfl,fun _=>rfl,.bool true,Zc8 l _,fun _=>⟨List.Pairwise.nil,fun _ hm=>(nomatch hm)⟩⟩,h2,h3,h4⟩
section
variable{prog:Program}{w:World}{A:Around}{E:Value→Shared→Prop}{s:Shared}{K:Frag}
def G8(h:Heap):Heap:={ h with objs:=#[] }
theorem N6(h:Heap)(b:Addr):(G8 h).get? b=none:=by
 cases e:(G8 h).get? b with
 | none=>rfl
 | some o=>exact absurd (Zs e) (Nat.not_lt_zero _)
def Oq(h:Heap)(L d:Addr):List (Addr×Obj):=(List.range h.objs.size).filterMap fun a=>if a=L∨a=d then none else(h.get? a).map fun o=>(a,o)
theorem mem_ledger{h:Heap}{L d a:Addr}{o:Obj}:(a,o)∈Oq h L d↔a≠L∧a≠d∧h.get? a=some o:=by
 unfold Oq;rw[List.mem_filterMap];constructor
 ·rintro⟨b,_,e⟩
  split at e
  ·cases e
  ·rename_i hb
   obtain⟨o',ho,e'⟩:=Option.map_eq_some_iff.mp e;cases e';exact⟨fun q=>hb (.inl q),fun q=>hb (.inr q),ho⟩
 ·rintro⟨n1,n2,ho⟩
  refine⟨a,Jm.mpr (Zs ho),?_⟩;rw[if_neg (show ¬ (a=L∨a=d) from fun q=>q.elim n1 n2),ho]<;>rfl
theorem Zhy{h:Heap}{L:Addr}{m:Str→Option Value}(n:h.Ns L m):Fr (G8 h) L h m:=
 ⟨n,fun b o e=>(by rw[N6] at e;cases e),Nat.zero_le _⟩
end
end Att
namespace L2
open PySem PySem.Spec PyProof.Rows
theorem Nd:∀{vs:List Value} {ns:List Int},IntsAre vs ns→Vals (ns.map V.int) vs
 | _,_,.nil=>.nil
 | _,_,.cons n t h=>.cons ⟨t,rfl⟩ (Nd h)
def Yo(s:Stmt)(j:Nat):Stmt:=match s with
 | .ClassDef _ _ _ body _ _ _ _ _ _ _=>body.getD j (.Pass ⟨0,0,0,0⟩)
 | _=>.Pass ⟨0,0,0,0⟩
def Us(s:Stmt):Arguments:=match s with
 | .FunctionDef _ a _ _ _ _ _ _ _ _=>a
 | _=>{ posonlyargs:=[],args:=[],vararg:=none,kwonlyargs:=[],kw_defaults:=[],kwarg:=none,defaults:=[] }
def Y0(s:Stmt):List Stmt:=match s with
 | .FunctionDef _ _ b _ _ _ _ _ _ _=>b
 | _=>[]
def Zp(s:Stmt):Scope:=match s with
 | .FunctionDef _ _ _ _ _ _ sc _ _ _=>sc
 | _=>{ kind:=.function,names:=[],isGenerator:=false,isCoroutine:=false }
abbrev Y4:CXT:=fun _ _ _ _ _ _=>False
abbrev E0:XK:=fun _ _ _=>False
theorem Jh{X:Cx}:Qm Y4 X E0:=fun _ _ _ _ _ _ _ h=>h.elim
structure Fun(K:W.Frag)(x qual:Str)(st:Stmt)(f:Addr)(fd:FuncData):Prop where
 ex:∃(oc:Value) (od:Option Addr) (kV doc pm:Value) (an:Option Addr) (cdv ct:Value) (osl:Array (Option Value)),
  fd=W.fnOf x qual (Us st) (Y0 st) (Zp st) .none kV doc pm an cdv ct∧K.lookup f=some ⟨oc,od,.func fd,osl⟩∧W.codeIn K cdv qual=true
 kp:W.keepIn K (.ref f)=true
section
variable{P:Program}{w:World}{K:W.Frag}{mg:Str→Option Value}{base:Heap}
theorem Fun.ok{x qual:Str}{st:Stmt}{f:Addr}{fd:FuncData}{N ps:List Str}{k:Nat}{sp:Sp}(F:Fun K x qual st f fd)(S:FnScope N ps (Zp st))(len:∀ vs H Q E,sp vs H Q E→vs.length=ps.length)
  (hbody:∀(cdv:Value) (A:Around) (outer:List Env) (s:Shared) (H:Hp) (vs:List V) (Q:VK) (E:XK),Room k (A.deeper (envOfC qual (Zp st) s.heap.objs.size f cdv))→sp vs H Q E →
   ∃ t,PSs (Qk Y4 P w K mg base N qual (Zp st) f cdv A outer s H E).nox (Y0 st) t∧t { nx:=fun _ H'=>Q .non H',rt:=Q } (start N vs) H):FnOk P w K mg base Y4 (k+1) f fd ps sp:=by
 obtain⟨oc,od,kV,doc,pm,an,cdv,ct,osl,rfl,lk,hcd⟩:=F.ex;refine Zcf lk hcd S len fun A outer s H vs Q E hr hsp=>?_;obtain⟨t,h,q⟩:=hbody cdv A outer s H vs Q E hr hsp;exact⟨t,h.nox,q⟩
theorem Fun.binds{x qual:Str}{st:Stmt}{f:Addr}{fd:FuncData}{ps:List Str}(F:Fun K x qual st f fd)
  (h:∀(kV doc pm:Value) (an:Option Addr) (cdv ct:Value) (us:List Value),us.length=ps.length→bindArgs (W.fnOf x qual (Us st) (Y0 st) (Zp st) .none kV doc pm an cdv ct) ⟨us,[]⟩=pure (ps.zip us)):Binds K fd ps []:=by
 obtain⟨oc,od,kV,doc,pm,an,cdv,ct,osl,rfl,lk,hcd⟩:=F.ex;exact .all (h kV doc pm an cdv ct)
theorem fun_mk{x qual:Str}{st:Stmt}{f:Addr}{oc:Value}{od an:Option Addr}{osl:Array (Option Value)}{kV doc pm cdv ct:Value}(l:K.lookup f=some ⟨oc,od,.func (W.fnOf x qual (Us st) (Y0 st) (Zp st) .none kV doc pm an cdv ct),osl⟩)
  (c:W.codeIn K cdv qual=true) (k:W.keepIn K (.ref f)=true):Fun K x qual st f (W.fnOf x qual (Us st) (Y0 st) (Zp st) .none kV doc pm an cdv ct):=⟨⟨oc,od,kV,doc,pm,an,cdv,ct,osl,rfl,l,c⟩,k⟩
end
theorem X6{n:Nat}(h:n≤1000):n < sizeLine:=Jj h (by decide)
section
variable{X:Cx}
theorem pv(i:Nat){x:Str}{pos:Pos}(hN:X.N[i]? = some x:=by rfl)(hv:Vis X.env.scope x:=by first | exact Or.inl rfl | exact Or.inr (Or.inl rfl) | exact Or.inr (Or.inr rfl))(hd:(x == ("__debug__":Str))=false:=by decide)
  (hcd:(x == ("__classdict__":Str))=false:=by decide):PE X (.Name x pos) (Znq i):=Zmd hN hv hd hcd
end
theorem J9{A B:Prop}(h:B):if false=true then A else B:=by
 rw[if_neg Zz];exact h
theorem Ub{A B:Prop}(h:A):if true=true then A else B:=by
 rw[if_pos rfl];exact h
theorem Bz{c A B:Prop} [Decidable c](h1:c→A)(h2:¬ c→B):if c then A else B:=by
 by_cases h:c
 ·rw[if_pos h]
  exact h1 h
 ·rw[if_neg h]
  exact h2 h
def Same(H H':Hp):Prop:=∀ b o,H b=some o→H' b=some o
theorem Same.refl(H:Hp):Same H H:=fun _ _ h=>h
theorem Same.trans{H H1 H2:Hp}(a:Same H H1)(b:Same H1 H2):Same H H2:=fun c o h=>b c o (a c o h)
theorem Same.free{H H':Hp}(e:Same H H'){l:Addr}(h:H' l=Option.none):H l=Option.none:=by
 cases q:H l with
 | none=>rfl
 | some o=>
  rw[e l o q] at h;cases h
theorem Same.seq{K:W.Frag}{H H':Hp}{a:Addr}{xs:List V}(e:Same H H')(h:SqL K H a xs):SqL K H' a xs:=by
 rcases h with(h | ⟨o,h⟩) | h
 ·exact .inl (.inl (e _ _ h))
 ·exact .inl (.inr ⟨o,e _ _ h⟩)
 ·exact .inr h
end L2
set_option maxHeartbeats 4000000
namespace L2
open PySem PySem.Spec PyProof.Rows
def Ql(env:Env):List (Str×NameKind)→List (Str×Addr)→List (Str×Addr)
 | [],acc=>acc
 | (n,k) :: r,acc=>Ql env r (if k == NameKind.free then(match env.cells.lookup n with | some c=>(n,c) :: acc | none=>acc) else acc)
theorem Kv{env:Env}{f:Str×NameKind→List (Str×Addr)→Sem (ForInStep (List (Str×Addr)))}
  (hf:∀ n k acc,f (n,k) acc=if(k == NameKind.free)=true then(do let c ← cellOf env n;pure (ForInStep.yield ((n,c) :: acc))) else pure (ForInStep.yield acc)) :
  ∀(l:List (Str×NameKind)) (acc:List (Str×Addr)),(∀ y∈l,y.2 = .free→∃ c,env.cells.lookup y.1=some c)→forIn l acc f=(pure (Ql env l acc):Sem _)
 | [],acc,_=>rfl
 | (n,k) :: r,acc,h=>by
  rw[List.forIn_cons,hf];have ih:=Kv hf r;by_cases hk:(k == NameKind.free)=true
  ·have hk':k = .free:=by simpa using hk
   obtain⟨c,hc⟩:=h (n,k) Zw hk';have e:cellOf env n=(pure c:Sem _):=by unfold cellOf;rw[hc]
   rw[if_pos hk,e,pure_bind,pure_bind];show forIn r ((n,c) :: acc) f=_;rw[ih _ fun y hy=>h y (Zx _ hy)];unfold Ql;rw[if_pos hk];have hc2:List.lookup n env.cells=some c:=hc;simp only[hc2];cases r<;>rfl
  ·rw[if_neg hk,pure_bind]
   show forIn r acc f=_;rw[ih _ fun y hy=>h y (Zx _ hy)]
   conv=>rhs;unfold Ql
   rw[if_neg hk]
theorem Zid{scope:Scope}{env:Env}(h:∀ y∈scope.names,y.2 = .free→∃ c,env.cells.lookup y.1=some c):closureFor scope env=(pure (Ql env scope.names []):Sem _):=by
 have e:closureFor scope env=(forIn scope.names ([]:List (Str×Addr)) (fun x cs=>match x with
   | (name,kind)=>if(kind == NameKind.free)=true then(do let c ← cellOf env name;pure (ForInStep.yield ((name,c) :: cs))) else pure (ForInStep.yield cs)) >>= fun cs=>pure cs):=rfl
 rw[e,Kv (env:=env) (fun n k acc=>rfl) scope.names [] h];rfl
theorem Xq{env:Env}:∀{l:List (Str×NameKind)} {acc:List (Str×Addr)},(∀ x c,acc.lookup x=some c→env.cells.lookup x=some c)→∀ x c,(Ql env l acc).lookup x=some c→env.cells.lookup x=some c
 | [],acc,h,x,c,e=>h x c e
 | (n,k) :: r,acc,h,x,c,e=>by
  unfold Ql at e;refine Xq (l:=r) (fun y d hd=>?_) x c e;by_cases hk:(k == NameKind.free)=true
  ·rw[if_pos hk] at hd
   cases hc:env.cells.lookup n with
   | none=>rw[hc] at hd;exact h y d hd
   | some c'=>
    rw[hc] at hd;simp only[List.lookup_cons] at hd;by_cases hy:(y == n)=true
    ·rw[hy] at hd
     have e1:y=n:=by simpa using hy
     cases hd;rw[e1];exact hc
    ·have hy':(y == n)=false:=by simpa using hy
     rw[hy'] at hd;exact h y d hd
  ·rw[if_neg hk] at hd;exact h y d hd
theorem Zcl{env:Env}:∀{l:List (Str×NameKind)} {acc:List (Str×Addr)} {x:Str},(acc.lookup x).isSome=true→((Ql env l acc).lookup x).isSome=true
 | [],acc,x,h=>h
 | (n,k) :: r,acc,x,h=>by
  unfold Ql;refine Zcl (l:=r) ?_;by_cases hk:(k == NameKind.free)=true
  ·rw[if_pos hk]
   cases hc:env.cells.lookup n with
   | none=>exact h
   | some c'=>
    simp only[List.lookup_cons];by_cases hy:(x == n)=true
    ·rw[hy];rfl
    ·have hy':(x == n)=false:=by simpa using hy
     rw[hy'];exact h
  ·rw[if_neg hk];exact h
theorem Tt{env:Env}:∀{l:List (Str×NameKind)} {acc:List (Str×Addr)} {x:Str} {c:Addr},(x,NameKind.free)∈l→env.cells.lookup x=some c→((Ql env l acc).lookup x).isSome=true
 | (n,k) :: r,acc,x,c,hm,hc=>by
  unfold Ql;rcases List.mem_cons.mp hm with e | hm
  ·cases e
   rw[if_pos (by rfl)];rw[hc];refine Zcl ?_;simp
  ·exact Tt hm hc
theorem N3{env:Env}:∀{names:List (Str×NameKind)} {x:Str} {k:NameKind},(∀ y∈names,y.2 ≠ .cell) →
  (names.map fun(n,k)=>if(k == NameKind.free && env.scope.kind == .function && env.kindOf n == some .cell) then(n,NameKind.cell) else(n,k)).lookup x=some k→(k = .cell∨k = .free)→(x,NameKind.free)∈names
 | [],_,_,_,h,_=>by simp at h
 | (n,j) :: r,x,k,hn,h,hk=>by
  rw[List.map_cons] at h;cases hx:x == n with
  | true=>
   have hxe:x=n:=by simpa using hx
   subst hxe;by_cases hc:(j == NameKind.free && env.scope.kind == .function && env.kindOf x == some .cell)=true
   ·have hj:j = .free:=by
     simp only[Bool.and_eq_true] at hc
     simpa using hc.1.1
    subst hj;exact Zw
   ·rw[show(match ((x,j):Str×NameKind) with | (n,k)=>if(k == NameKind.free && env.scope.kind == .function && env.kindOf n == some .cell)=true then(n,NameKind.cell) else(n,k))=(x,j) from if_neg hc] at h
    simp only[List.lookup_cons,beq_self_eq_true] at h;cases h;rcases hk with e | e
    ·exact absurd e (hn (x,j) Zw)
    ·rw[e];exact Zw
  | false=>
   refine Zx _ (N3 (env:=env) (fun y hy=>hn y (Zx _ hy)) ?_ hk);by_cases hc:(j == NameKind.free && env.scope.kind == .function && env.kindOf n == some .cell)=true
   ·rw[show(match ((n,j):Str×NameKind) with | (n,k)=>if(k == NameKind.free && env.scope.kind == .function && env.kindOf n == some .cell)=true then(n,NameKind.cell) else(n,k))=(n,NameKind.cell) from if_pos hc] at h
    simp only[List.lookup_cons,hx] at h;exact h
   ·rw[show(match ((n,j):Str×NameKind) with | (n,k)=>if(k == NameKind.free && env.scope.kind == .function && env.kindOf n == some .cell)=true then(n,NameKind.cell) else(n,k))=(n,j) from if_neg hc] at h
    simp only[List.lookup_cons,hx] at h;exact h
theorem Q9{env:Env}:∀{names:List (Str×NameKind)} {x:Str},names.lookup x=some .free →
  (names.map fun(n,k)=>if(k == NameKind.free && env.scope.kind == .function && env.kindOf n == some .cell) then(n,NameKind.cell) else(n,k)).lookup x=some .cell ∨
  (names.map fun(n,k)=>if(k == NameKind.free && env.scope.kind == .function && env.kindOf n == some .cell) then(n,NameKind.cell) else(n,k)).lookup x=some .free
 | [],_,h=>by simp at h
 | (n,j) :: r,x,h=>by
  rw[List.map_cons];cases hx:x == n with
  | true=>
   simp only[List.lookup_cons,hx] at h;cases h;by_cases hc:(NameKind.free == NameKind.free && env.scope.kind == .function && env.kindOf n == some .cell)=true
   ·refine .inl ?_
    rw[show(match ((n,NameKind.free):Str×NameKind) with | (n,k)=>if(k == NameKind.free && env.scope.kind == .function && env.kindOf n == some .cell)=true then(n,NameKind.cell) else(n,k))=(n,NameKind.cell) from if_pos hc];simp only[List.lookup_cons,hx]
   ·refine .inr ?_
    rw[show(match ((n,NameKind.free):Str×NameKind) with | (n,k)=>if(k == NameKind.free && env.scope.kind == .function && env.kindOf n == some .cell)=true then(n,NameKind.cell) else(n,k))=(n,NameKind.free) from if_neg hc];simp only[List.lookup_cons,hx]
  | false=>
   simp only[List.lookup_cons,hx] at h;have ih:=Q9 (env:=env) h;by_cases hc:(j == NameKind.free && env.scope.kind == .function && env.kindOf n == some .cell)=true
   ·rw[show(match ((n,j):Str×NameKind) with | (n,k)=>if(k == NameKind.free && env.scope.kind == .function && env.kindOf n == some .cell)=true then(n,NameKind.cell) else(n,k))=(n,NameKind.cell) from if_pos hc]
    simp only[List.lookup_cons,hx];exact ih
   ·rw[show(match ((n,j):Str×NameKind) with | (n,k)=>if(k == NameKind.free && env.scope.kind == .function && env.kindOf n == some .cell)=true then(n,NameKind.cell) else(n,k))=(n,j) from if_neg hc]
    simp only[List.lookup_cons,hx];exact ih
theorem Ef{x:Str}{k:NameKind}:∀{l:List (Str×NameKind)},l.lookup x=some k→(x,k)∈l
 | [],h=>by simp at h
 | (n,j) :: r,h=>by
  cases hx:x == n with
  | true=>
   simp only[List.lookup_cons,hx] at h;cases h;have e:x=n:=by simpa using hx
   rw[e];exact Zw
  | false=>
   simp only[List.lookup_cons,hx] at h;exact Zx _ (Ef h)
def blk(X:Cx)(N:List Str)(scope:Scope)(C:Addr)(s₀:Shared)(H₀:Hp)(ex:List Addr)(xe:Value→Shared→Prop):Cx:=
 { X with N:=N,s₀:=s₀,H₀:=H₀,env:=compEnvC scope (Ql X.env scope.names []) C X.env,outer:=X.stack,stack:=X.stack,ex:=ex,fn:=fun _=>false,pn:=[],xe:=xe }
structure Blk(X:Cx)(N:List Str)(caps:List (Option Nat))(scope:Scope):Prop where
 kind:scope.kind = .function
 nocell:∀ y∈scope.names,y.2 ≠ .cell
 names:∀ y∈scope.names,y.2 = .local→scope.names.lookup y.1=some .local
 free:∀ y∈scope.names,y.2 = .free→X.env.kindOf y.1=some .cell∨X.env.kindOf y.1=some .free
 len:caps.length=N.length
 cap:∀(i j:Nat) (x:Str),caps[i]? = some (some j)→N[i]? = some x→X.N[j]? = some x∧Vis X.env.scope x∧scope.names.lookup x=some .free
def Nb(caps:List (Option Nat))(σ:St):St:=caps.map fun c=>match c with | some j=>(σ[j]?).join | none=>none
section
variable{X:Cx}{pins:List (Addr×Obj)}{σ:St}{H:Hp}{s:Shared}
theorem Zm9{N:List Str}{caps:List (Option Nat)}{scope:Scope}{fp:List Addr}{xe:Value→Shared→Prop}(B:Blk X N caps scope)(I:Inv X pins σ H s)(hlt:∀ b∈fp,b < s.heap.objs.size)(hf:∀ b∈fp,Ba X pins H b) :
  (blk X N scope s.heap.objs.size s H fp xe).Ok where
 mod:=I.ok.mod
 kind:=B.kind
 glob:=I.ok.glob
 blt:=I.ok.blt
 above:=Nat.le_refl _
 inj:=fun x y c hx hy=>I.ok.inj x y c (Xq (fun _ _ e=>by simp at e) x c hx) (Xq (fun _ _ e=>by simp at e) y c hy)
 has:=fun x hk=>by
  have hm:(x,NameKind.free)∈scope.names:=hk.elim (fun e=>N3 B.nocell e (.inl rfl)) fun e=>N3 B.nocell e (.inr rfl);obtain⟨c,hc⟩:=I.ok.has x (B.free _ hm rfl);exact Option.isSome_iff_exists.mp (Tt hm hc)
 cab:=fun x c h _=>by cases h
 hd:=I.ok.hd
 frames:=I.ok.frames
 stk:=.inl rfl
 exf:=fun b hb=>⟨Nat.ne_of_lt (hlt b hb),fun x c hc=>(hf b hb).2.2.2.2.1 x c (Xq (fun _ _ e=>by simp at e) x c hc)⟩
 bs:=I.bs
 bsz:=Nat.le_trans I.ok.bsz I.sz
 noex:=fun b o e hb=>by
  rcases(hf b hb).2.2.2.1 with h | h
  ·exact I.ok.noex b o e h
  ·exact absurd (Zs (I.ok.bs b o e).1) (Nat.not_lt.mpr h)
 exfs:=fun b hb hs=>by
  rcases List.mem_cons.mp (I.stkSub b hs) with e | e
  ·exact(hf b hb).2.1 e
  ·exact(hf b hb).2.2.1 e
 funs:=I.stack
 frf:=I.stkFree
theorem Zkx{N:List Str}{caps:List (Option Nat)}{scope:Scope}{fp:List Addr}{xe:Value→Shared→Prop}{h₁:Heap}{t':Nat}(B:Blk X N caps scope)(I:Inv X pins σ H s)(hlt:∀ b∈fp,b < s.heap.objs.size)(hf:∀ b∈fp,Ba X pins H b)
  {m:Str→Option Value} (hn:h₁.Ns s.heap.objs.size m) (hk:∀ b o,s.heap.get? b=some o→h₁.get? b=some o) :
  Inv (blk X N scope s.heap.objs.size s H fp xe) [] (Nb caps σ) H { s with heap:=h₁,toks:=t' } where
 ok:=Zm9 B I hlt hf
 os:=rfl
 bare:=I.bare
 base:=Un.kept hk
 loc:=by
  refine⟨m,hn,fun i x v hN hσ hv=>?_⟩;unfold Nb at hσ;rw[Zm] at hσ;cases hc:caps[i]? with
  | none=>rw[hc] at hσ;cases hσ
  | some oj=>
   rw[hc] at hσ;cases oj with
   | none=>cases hσ
   | some j=>
    have hσ':(σ[j]?).join=some v:=Zn hσ;have hj:σ[j]? = some (some v):=by
     cases q:σ[j]? with
     | none=>rw[q] at hσ';cases hσ'
     | some o=>rw[q] at hσ';have:o=some v:=hσ';rw[this]
    obtain⟨hNj,hVis,hfr⟩:=B.cap i j x hc hN;obtain⟨m',_,hl⟩:=I.loc;obtain⟨u,ru,lk⟩:=hl j x v hNj hj hVis;have hm:=Ef hfr;have hkX:=B.free _ hm rfl;refine⟨u,ru,.inr ⟨Q9 hfr,?_⟩⟩;rcases lk with⟨e,_⟩ | ⟨_,c,hc1,hc2⟩
    ·rcases hkX with e' | e'
     ·rw[e] at e';cases e'
     ·rw[e] at e';cases e'
    ·obtain⟨c',hc'⟩:=Option.isSome_iff_exists.mp (Tt (env:=X.env) (acc:=[]) hm hc1)
     have h2:=Xq (fun _ _ e=>by simp at e) x c' hc';rw[hc1] at h2;cases h2;exact⟨c,hc',hc2.keeps hk⟩
 cell:=fun x c hc=>by
  obtain⟨v,hv⟩:=I.cell x c (Xq (fun _ _ e=>by simp at e) x c hc);exact⟨v,hv.keeps hk⟩
 free:=I.hok.fresh (Nat.le_refl _)
 freeC:=fun x c hc=>I.freeC x c (Xq (fun _ _ e=>by simp at e) x c hc)
 pin:=fun p hp=>by cases hp
 hok:=I.hok.kept hk
 len:=by unfold Nb;rw[Zi];exact B.len
end
section
variable{prog:Program}{w:World}{A:Around}{R:Result→Shared→Prop}{s:Shared}
abbrev Za7(ifs:List Expr)(env:Env):Sem Bool:=forIn ifs true fun c r=>if r=true then do let ok ← isTrue c env (eval c env);pure (ForInStep.yield ok) else pure (ForInStep.yield r)
theorem M0{elt target iter:Expr}{ifs:List Expr}{scope:Scope}{pos:Pos}{it acc:Value}{env:Env}(I:Nat→Shared→Prop)
  (turn:∀ n s,I n s→wpAny (model prog w) A (pyNext it) (fun r s₁=>match r with
   | none=>R (.ok .next) s₁
   | some v=>wpAny (model prog w) A (letOwnedTupleGo target it v) (fun _ s₁'=>wpAny (model prog w) A (assign target env v) (fun _ s₂=>
     wpAny (model prog w) A (Za7 ifs env) (fun ok s₃=>
      if ok=true then wpAny (model prog w) A (eval elt env) (fun x s₄=>
       wpAny (model prog w) A (call (.builtin "list.append") [acc,x]) (fun _ s₅=>∃ m,m < n∧I m s₅) (notedBy (model prog w) A env fun e s'=>R (.error e) s') s₄) (notedBy (model prog w) A env fun e s'=>R (.error e) s') s₃
      else ∃ m,m < n∧I m s₃) (notedBy (model prog w) A env fun e s'=>R (.error e) s') s₂) (notedBy (model prog w) A env fun e s'=>R (.error e) s') s₁') (notedBy (model prog w) A env fun e s'=>R (.error e) s') s₁) (notedBy (model prog w) A env fun e s'=>R (.error e) s') s)
  (n:Nat) (h:I n s):codeAny (model prog w) A (.compLoop (.ListComp elt [⟨target,iter,ifs,0⟩] scope pos) 0 it acc env) R s:=by
 refine codeAny_loop rfl I (fun n s hI=>?_) n h;show wpAny _ A ((compTurn (.ListComp elt [⟨target,iter,ifs,0⟩] scope pos) 0 it acc env).onRaise (fun x=>do noteFrame x env;theTreesLotGoes x)) _ _ s;refine wpAny_noted ?_;rw[compTurn_list];refine Zc (wpAny_standAt (Zc (wpAny_mono (turn n s hI) (fun r s₁ h₁=>?_) fun _ _ h'=>h')));cases r with
 | none=>exact wpAny_pure h₁
 | some v=>
  refine Zc (wpAny_mono h₁ (fun _ s₁' h₁'=>?_) fun _ _ h'=>h');refine Zc (wpAny_mono h₁' (fun _ s₂ h₂=>Zc (wpAny_mono h₂ (fun ok s₃ h₃=>?_) fun _ _ h'=>h')) fun _ _ h'=>h');cases ok with
  | false=>exact wpAny_pure ⟨rfl,h₃⟩
  | true=>
   exact Zc (Zc (wpAny_mono h₃ (fun x s₄ h₄=>Zc (wpAny_mono h₄ (fun _ s₅ h₅=>wpAny_pure (wpAny_pure ⟨rfl,h₅⟩)) fun _ _ h'=>h')) fun _ _ h'=>h'))
end
def PF(X:Cx)(ifs:List Expr)(t:TT):Prop:=
 ∀(pins:List (Addr×Obj)) (s:Shared) (σ:St) (H:Hp) (Q:Bool→Hp→Prop),Inv X pins σ H s→t σ H Q→wpAny (model X.prog X.w) X.A (Za7 ifs X.env) (TP X pins σ Q) X.xe s
def Ziu:TT:=fun _ H Q=>Q true H
theorem U4{X:Cx}:PF X [] Ziu:=fun pins s σ H Q I h=>wpAny_tests_nil ⟨H,I,h⟩
theorem Gq{X:Cx}{c:Expr}{t:TT}(h:PT X c t):PF X [c] t:=fun pins s σ H Q I q=>wpAny_tests_one (h pins s σ H Q I q)
def Q7(g:TG)(tt:TT)(te:TE)(σ0:St)(J:It)(H1:Hp)(Q:V→Hp→Prop):Prop:=
 ∀ l,H1 l=none→∃ W:Nat→Nat→St→Hp→Prop,(∃ m,W 0 m σ0 (upd H1 l (.lst [])))∧∀ i m σ H,W i m σ H →
  (J.stop i H∧Q (.ref l) H)∨(J.go i H∧∀ x H',J.yld i H x H'→g x σ H' fun σ2 H2=>tt σ2 H2 fun c H3=>
   if c=true then te σ2 H3 fun v H4=>∃ xs,H4 l=some (.lst xs)∧xs.length < sizeLine∧∃ m',m' < m∧W (i+1) m' σ2 (upd H4 l (.lst (xs++[v])))
   else ∃ m',m' < m∧W (i+1) m' σ2 H3)
def Zfc(caps:List (Option Nat))(wi:TI)(g:TG)(tt:TT)(te:TE):TE:=fun σ H Q=>wi σ H fun J H1=>Q7 g tt te (Nb caps σ) J H1 Q
structure Loose(X:Cx)(pins:List (Addr×Obj))(H:Hp)(C:Addr):Prop where
 un:H C=none
 loc:C≠X.env.locals
 ab:X.s₀.heap.objs.size≤C
 cel:∀ x c,X.env.cells.lookup x=some c→c≠C
 pin:∀ p∈X.pn++pins,p.1≠C
section
variable{X:Cx}{pins:List (Addr×Obj)}{σ:St}{H:Hp}{s:Shared}
def Zqd(X:Cx)(N:List Str)(scope:Scope)(use:Option (Value→Sem Unit))(Q:Value→Shared→Prop)(acc:Value)(C:Addr):Value→Shared→Prop:=
 notedBy (model X.prog X.w) X.A (compEnvC scope (Ql X.env scope.names []) C X.env) fun e s'=>compPost (model X.prog X.w) X.A X.xe use Q acc C (.error e) s'
theorem M1{tg elt iter:Expr}{ifs:List Expr}{scope:Scope}{pos pos':Pos}{N:List Str}{caps:List (Option Nat)}{wi:TI}{g:TG}{tt:TT}{te:TE}{use:Option (Value→Sem Unit)}{Q:Value→Shared→Prop}{Qv:V→Hp→Prop}
  {xe:Value→Shared→Prop} (hc:X.calm=true) (B:Blk X N caps scope) (hi:PI X tg iter wi)
  (hg:∀ C s₀ H₀ ex,PG (blk X N scope C s₀ H₀ ex xe) tg g) (ht:∀ C s₀ H₀ ex,PF (blk X N scope C s₀ H₀ ex xe) ifs tt) (he:∀ C s₀ H₀ ex,PE (blk X N scope C s₀ H₀ ex xe) elt te)
  (I:Inv X pins σ H s) (h:wi σ H fun J H1=>Q7 g tt te (Nb caps σ) J H1 Qv)
  (fin:∀ l C H' s5,Inv X pins σ H' s5→(∃ m,s5.heap.Ns C m)→Loose X pins H' C→Qv (.ref l) H'→compPost (model X.prog X.w) X.A X.xe use Q (.ref l) C (.ok .next) s5)
  (hx:∀ acc C e s',xe e s'→Zqd X N scope use Q acc C e s')
  (hs:∀ x,foldedSetIterable iter X.env x=pure x:=by intro _;rfl) :
  wpAny (model X.prog X.w) X.A (comprehension (.ListComp elt [⟨tg,iter,ifs,0⟩] scope pos) scope X.env pos' (newList []) false (eval iter X.env) use) Q X.xe s:=by
 have hclos:closureFor scope X.env=(pure (Ql X.env scope.names []):Sem _):=Zid fun y hy hf=>I.ok.has y.1 (B.free y hy hf);refine wpAny_comprehension_free rfl hs hclos B.kind B.names (Y5 (hi pins s σ H _ I h) fun v s1 h1=>Y5 h1 fun itv s2 h2=>?_);obtain⟨it,fp,tn,J,H2,e,I2,T,st2,f2,hJ⟩:=h2;subst e;have I3:Inv X pins σ (upd H2 s2.heap.objs.size (.lst [])) { s2 with heap:=s2.heap.push { cls:=.type "list",data:=.seq ([]:List Value).toArray },toks:=s2.toks }:=I2.lnew (ys:=[]) (its:=[]) .nil (Nat.zero_le _);have hfr2:H2 s2.heap.objs.size=none:=I2.fresh;obtain⟨W,⟨m0,w0⟩,turn⟩:=hJ s2.heap.objs.size hfr2;refine wpAny_newList ?_;generalize hs3:({ s2 with heap:=s2.heap.push { cls:=.type "list",data:=.seq ([]:List Value).toArray } }:Shared)=s3;have es3:({ s2 with heap:=s2.heap.push { cls:=.type "list",data:=.seq ([]:List Value).toArray },toks:=s2.toks }:Shared)=s3:=hs3;rw[es3] at I3;have keep3:∀ b o,s2.heap.get? b=some o→s3.heap.get? b=some o:=fun b o e=>by rw[← hs3];exact Ze _ e
 have fpo:∀ b∈fp,∃ o,s2.heap.get? b=some o∧∀ v,o.data ≠ .cell v:=T.obj _ _ st2;have hlt2:∀ b∈fp,b < s2.heap.objs.size:=fun b hb=>by obtain⟨o,e,_⟩:=fpo b hb;exact Zs e
 have hlt3:∀ b∈fp,b < s3.heap.objs.size:=fun b hb=>by obtain⟨o,e,_⟩:=fpo b hb;exact Zs (keep3 b o e)
 have hf3:∀ b∈fp,Ba X pins (upd H2 s2.heap.objs.size (.lst [])) b:=fun b hb=>⟨by rw[Zu (Nat.ne_of_lt (hlt2 b hb))];exact(f2 b hb).1,(f2 b hb).2⟩;refine wpAny_newFunctionEnv B.nocell (by intro y hy;simp at hy) (fun h₁ hns₁ hsb₁=>?_) B.kind
 try dsimp only at hns₁ hsb₁ ⊢
 have keep4:∀ b o,s3.heap.get? b=some o→h₁.get? b=some o:=fun b o e=>hsb₁.extBut b o (Nat.ne_of_lt (Zs e)) (Ze _ e);have I4:∀ t',Inv (blk X N scope s3.heap.objs.size s3 (upd H2 s2.heap.objs.size (.lst [])) fp xe) [] (Nb caps σ) (upd H2 s2.heap.objs.size (.lst [])) { s3 with heap:=h₁,toks:=t' }:=fun t'=>Zkx B I3 hlt3 hf3 hns₁ keep4;generalize hY:blk X N scope s3.heap.objs.size s3 (upd H2 s2.heap.objs.size (.lst [])) fp xe=Y at I4;have Yp:Y.prog=X.prog:=by rw[← hY];rfl
 have Yw:Y.w=X.w:=by rw[← hY];rfl
 have YK:Y.K=X.K:=by rw[← hY];rfl
 have Yc:Y.calm=true:=by rw[← hY];exact hc
 have YA:Y.A=X.A:=by rw[← hY];rfl
 have Yx:Y.xe=xe:=by rw[← hY];rfl
 have Ye:Y.env=compEnvC scope (Ql X.env scope.names []) s3.heap.objs.size X.env:=by rw[← hY];rfl
 have hgY:PG Y tg g:=by rw[← hY];exact hg _ _ _ _
 have htY:PF Y ifs tt:=by rw[← hY];exact ht _ _ _ _
 have heY:PE Y elt te:=by rw[← hY];exact he _ _ _ _
 have stat:∀{H':Hp},(∀ b∈fp,H' b=none)→∀ b∈fp,Ba Y [] H' b:=fun {H'} hn b hb=>by
  refine⟨hn b hb,?_,?_,.inl (by rw[← hY];exact hb),?_,?_⟩
  ·rw[Ye];exact Nat.ne_of_lt (hlt3 b hb)
  ·intro hm
   rw[← hY] at hm;rcases List.mem_cons.mp (I3.stkSub b hm) with e | e
   ·exact(f2 b hb).2.1 e
   ·exact(f2 b hb).2.2.1 e
  ·intro x c hcl
   rw[Ye] at hcl;exact(f2 b hb).2.2.2.2.1 x c (Xq (fun _ _ e=>by simp at e) x c hcl)
  ·intro p hp
   rw[← hY] at hp;cases hp
 have st4:tn 0 h₁:=T.keep _ _ _ st2 fun b hb o e=>keep4 b o (keep3 b o e);have toX:∀ e s',xe e s'→notedBy (model X.prog X.w) X.A (compEnvC scope (Ql X.env scope.names []) s3.heap.objs.size X.env) (fun e s'=>compPost (model X.prog X.w) X.A X.xe use Q (.ref s2.heap.objs.size) s3.heap.objs.size (.error e) s') e s':=fun e s' hxe=>hx _ _ e s' hxe;have loop:∀ tk,codeAny (model X.prog X.w) X.A (.compLoop (.ListComp elt [⟨tg,iter,ifs,0⟩] scope pos) 0 (.ref it) (.ref s2.heap.objs.size) (compEnvC scope (Ql X.env scope.names []) s3.heap.objs.size X.env))
   (compPost (model X.prog X.w) X.A X.xe use Q (.ref s2.heap.objs.size) s3.heap.objs.size) { s3 with heap:=h₁,toks:=tk }:=by
  intro tk;refine M0 (fun n s'=>∃ i σ' H',Inv Y [] σ' H' s'∧tn i s'.heap∧(∀ b∈fp,H' b=none)∧W i n σ' H') ?_ m0 ⟨0,_,_,I4 tk,st4,fun b hb=>(hf3 b hb).1,w0⟩;rintro n s5 ⟨i,σ5,H5,I5,st5,fr5,w5⟩;have moX:∀{α:Type} {t:Sem α} {Q1:α→Shared→Prop} {s:Shared},wpAny (model X.prog X.w) X.A t Q1 xe s→wpAny (model X.prog X.w) X.A t Q1
    (notedBy (model X.prog X.w) X.A (compEnvC scope (Ql X.env scope.names []) s3.heap.objs.size X.env) (fun e s'=>compPost (model X.prog X.w) X.A X.xe use Q (.ref s2.heap.objs.size) s3.heap.objs.size (.error e) s')) s:=
   fun h=>wpAny_mono h (fun _ _ q=>q) toX
  rcases turn i n σ5 H5 w5 with⟨stop,q⟩ | ⟨go,step⟩
  ·have z:=T.done Y Yp Yw YK Yc i [] s5 σ5 H5 xe I5 (stat fr5) st5 stop
   rw[YA] at z;refine moX (Y5 z fun r s6 ⟨hr,I6⟩=>?_);subst hr;obtain⟨m,hm,_⟩:=I6.loc;have hCn:H5 s3.heap.objs.size=none:=by have z:=I6.free;rw[Ye] at z;exact z
   have un:Un (Vc X.stack) fp (upd H2 s2.heap.objs.size (.lst [])) H5 s3.heap s6.heap:=by have z:=I6.base;rw[← hY] at z;exact z
   have hos:s6.os=s3.os:=by have z:=I6.os;rw[← hY] at z;exact z
   have hok:HOk X.prog X.w H5 s6.heap:=by have z:=I6.hok;rw[Yp,Yw] at z;exact z
   have IX:Inv X pins σ H5 s6:=I3.call' (ch:=fp) hos un hok I6.bare fun b hb=>⟨(f2 b hb).2.2.2.1,(f2 b hb).2.1,(f2 b hb).2.2.2.2.1,(f2 b hb).2.2.2.2.2⟩;refine fin _ _ H5 s6 IX ⟨m,by rw[Ye] at hm;exact hm⟩ ⟨hCn,?_,I3.sz,?_,?_⟩ q
   ·exact Nat.ne_of_gt I3.lt
   ·intro x c hcl
    obtain⟨v,hv⟩:=I3.cell x c hcl;exact Nat.ne_of_lt hv.lt
   ·intro p hp
    exact Nat.ne_of_lt (Zs (I3.pin p hp).1)
  ·have z:=T.item Y Yp Yw YK Yc i [] s5 σ5 H5 xe I5 (stat fr5) st5 go
   rw[YA] at z;refine moX (Y5 z fun r s6 ⟨u,hr,h6⟩=>?_);subst hr;refine moX (Y5 h6 fun _ s7 ⟨x,H7,I7,r7,y7,st7,fr7⟩=>?_);have I7':=I7.pinned (stat fr7) (T.obj _ _ st7);have hN:=step x H7 y7;have again:∀{σ':St} {H':Hp} {s':Shared} {m':Nat},m' < n→Inv Y ([]++Vr fp s7.heap) σ' H' s'→W (i+1) m' σ' H'→∃ m,m < n∧∃ i σ'' H'',Inv Y [] σ'' H'' s'∧tn i s'.heap∧(∀ b∈fp,H'' b=none)∧W i m σ'' H'':=fun {σ' H' s' m'} hm I' w'=>by
    refine⟨m',hm,i+1,σ',H',I'.unpinned,T.keep _ _ _ st7 fun b hb o e=>(I'.pin (b,o) (List.mem_append_right _ (List.mem_append_right _ (Xv hb e)))).1,fun b hb=>?_,w'⟩;obtain⟨o,e,d⟩:=T.obj _ _ st7 b hb;exact(I'.pin (b,o) (List.mem_append_right _ (List.mem_append_right _ (Xv hb e)))).2.1
   have z:=hgY _ s7 σ5 H7 x u _ I7' r7 hN;rw[Yp,Yw,YA,Ye,Yx] at z;refine moX (Y5 z fun _ s8 ⟨σ8,H8,I8,q8⟩=>?_);have z:=htY _ s8 σ8 H8 _ I8 q8;rw[Yp,Yw,YA,Ye,Yx] at z;refine moX (Y5 z fun ok s9 ⟨H9,I9,q9⟩=>?_);cases ok with
   | false=>
    obtain⟨m',hm,w'⟩:=q9;exact again hm I9 w'
   | true=>
    have q9':te σ8 H9 fun v H4=>∃ xs,H4 s2.heap.objs.size=some (.lst xs)∧xs.length < sizeLine∧∃ m',m' < n∧W (i+1) m' σ8 (upd H4 s2.heap.objs.size (.lst (xs++[v]))):=q9;have z:=heY _ s9 σ8 H9 _ I9 q9';rw[Yp,Yw,YA,Ye,Yx] at z;refine moX (Y5 z fun u10 s10 ⟨v10,H10,I10,r10,q10⟩=>?_);obtain⟨xs,hl,hz,m',hm,w'⟩:=q10;have ap:=Ud (X:=Y) _ s10 σ8 H10 (.ref s2.heap.objs.size) [v10] (.ref s2.heap.objs.size) [u10] (fun _ H'=>W (i+1) m' σ8 H') I10 rfl (.cons r10 .nil) ⟨_,xs,v10,rfl,rfl,hl,hz,w'⟩;rw[Yp,Yw,YA,Yx] at ap;refine moX (Y5 ap fun _ s11 ⟨_,H11,I11,_,w11⟩=>again hm I11 w11)
 exact codeAny_compStart_list (loop _) (T.self _ 0 _ _ _ st4 (loop _))
theorem Ui{tg elt iter:Expr}{ifs:List Expr}{scope:Scope}{pos:Pos}(N:List Str)(caps:List (Option Nat)){wi:TI}{g:TG}{tt:TT}{te:TE}(hc:X.calm=true)(B:Blk X N caps scope)(hi:PI X tg iter wi)
  (hg:∀ C s₀ H₀ ex,PG (blk X N scope C s₀ H₀ ex fun _ _=>False) tg g) (ht:∀ C s₀ H₀ ex,PF (blk X N scope C s₀ H₀ ex fun _ _=>False) ifs tt) (he:∀ C s₀ H₀ ex,PE (blk X N scope C s₀ H₀ ex fun _ _=>False) elt te)
  (hs:∀ x,foldedSetIterable iter X.env x=pure x:=by intro _;rfl):PE X (.ListComp elt [⟨tg,iter,ifs,0⟩] scope pos) (Zfc caps wi g tt te):=by
 intro pins s σ H Q I h;rw[eval_ListComp];refine M1 (use:=none) (Qv:=Q) hc B hi hg ht he I h (fun l C H' s5 I5 ⟨m,hm⟩ lo q=>?_) (fun _ _ _ _ f=>f.elim) hs;refine⟨m,hm,fun h' hs'=>⟨.ref l,H',?_,rfl,q⟩⟩;exact I5.turned (it:=C) (t':=s5.toks) (fun b o hb e=>hs'.extBut b o hb e) lo.un lo.loc (.inr lo.ab) lo.cel lo.pin
theorem Ec{i:Nat}{x:Str}{pos':Pos}{tg elt iter:Expr}{ifs:List Expr}{scope:Scope}{pos spos:Pos}(N:List Str)(caps:List (Option Nat)){wi:TI}{g:TG}{tt:TT}{te:TE}(hc:X.calm=true)
  (hN:X.N.Nodup) (hi':X.N[i]? = some x) (hx:Loc X.env.scope x) (B:Blk X N caps scope) (hi:PI X tg iter wi)
  (hg:∀ C s₀ H₀ ex,PG (blk X N scope C s₀ H₀ ex fun _ _=>False) tg g) (ht:∀ C s₀ H₀ ex,PF (blk X N scope C s₀ H₀ ex fun _ _=>False) ifs tt) (he:∀ C s₀ H₀ ex,PE (blk X N scope C s₀ H₀ ex fun _ _=>False) elt te)
  (hsw:swapsWith (.ListComp elt [⟨tg,iter,ifs,0⟩] scope pos) (some (.Name x pos')) spos.line X.env=pure true:=by rfl)
  (hs:∀ x,foldedSetIterable iter X.env x=pure x:=by intro _;rfl) (hf:X.fn x=true∨X.env.scope.names.lookup x=some .local:=by first | exact .inl rfl | exact .inr rfl | assumption) :
  PS X (.Assign [.Name x pos'] (.ListComp elt [⟨tg,iter,ifs,0⟩] scope pos) spos) (Zfd (Zfc caps wi g tt te) (Qr i)):=by
 intro pins s σ H D I h;rw[exec_Assign_Name_used _ _ _ _ hsw];refine Zc (wpAny_standAt (Zc ?_));show wpAny _ X.A (do let _ ← comprehension (.ListComp elt [⟨tg,iter,ifs,0⟩] scope pos) scope X.env _ (newList []) false (eval iter X.env) (some (assign (.Name x pos') X.env))) _ _ s;refine Zc (wpAny_mono (M1 (use:=some (assign (.Name x pos') X.env)) (Q:=fun _ s'=>SP X pins D .next s') (Qv:=fun v H1=>Qr i v σ H1 D.nx) hc B hi hg ht he I h (fun l C H' s5 I5 ⟨m,hm⟩ lo q=>?_) (fun _ _ _ _ f=>f.elim) hs)
  (fun _ s' hq=>wpAny_pure (wpAny_pure hq)) fun _ _ e=>e)
 show wpAny _ X.A (assign (.Name x pos') X.env (.ref l)) _ _ _;refine wpAny_assign_Name (Vg I5 hN hi' hx (v:=.ref l) rfl (fun s6 I6 ⟨a,sb,ha⟩=>?_) hf);have hCa:C≠a:=by
  rcases ha with e | e
  ·rw[e];exact lo.loc
  ·exact Ne.symm (lo.cel x a e)
 refine⟨m,hm.sameBut sb hCa,fun h' hs'=>⟨_,H',?_,q⟩⟩;exact I6.turned (it:=C) (t':=s6.toks) (fun b o hb e=>hs'.extBut b o hb e) lo.un lo.loc (.inr lo.ab) lo.cel lo.pin
end
section
variable{X:Cx}
def Wide(i:Int):Prop:=i.natAbs < 2 ^ 4000
theorem Qu{h:Heap}{a:Addr}{its:Array Value}(p:PlainL h a its):h.IsList a its:=by
 obtain⟨o,n,e,c,_,d⟩:=p;exact⟨o,e,c,n,d⟩
def Zpt(K:W.Frag):List V→Hp→VK→Prop:=fun xs H Q=>∃ x n t b,xs=[x,.ty n]∧TyOf K H x t∧W.kitOne K t (.type n)=some b∧Q (.bl b) H
theorem Va:U8 X (.builtin "isinstance") (Zpt X.K):=by
 intro pins s σ H xs us Q I r h;obtain⟨x,n,t,b,rfl,ty,e,q⟩:=h;obtain⟨u,w',rfl,r1,r2⟩:=O5 r;cases r2;exact Zd2 I r1 ty e fun tk=>⟨.bl b,H,I.tok tk,rfl,q⟩
end
def Zlp(sc:Scope)(N0 N:List Str)(caps:List (Option Nat))(scope:Scope):Bool:=
 decide (scope.kind = .function) && scope.names.all (fun y=>decide (y.2 ≠ .cell)) && scope.names.all (fun y=>decide (y.2 ≠ .local) || decide (scope.names.lookup y.1=some .local)) &&
 scope.names.all (fun y=>decide (y.2 ≠ .free) || (decide (sc.names.lookup y.1=some .cell) || decide (sc.names.lookup y.1=some .free))) && decide (caps.length=N.length) &&
 (List.range caps.length).all fun i=>match caps[i]?,N[i]? with
  | some (some j),some x=>decide (N0[j]? = some x) && (decide (sc.names.lookup x=some .cell) || decide (sc.names.lookup x=some .free)) && decide (scope.names.lookup x=some .free)
  | _,_=>true
theorem Blk.by{X:Cx}{N:List Str}{caps:List (Option Nat)}{scope:Scope}{sc:Scope}{N0:List Str}(hsc:X.env.scope=sc)(hN:X.N=N0)(h:Zlp sc N0 N caps scope=true):Blk X N caps scope:=by
 unfold Zlp at h;simp only[Bool.and_eq_true,decide_eq_true_eq,List.all_eq_true,Bool.or_eq_true] at h;obtain⟨⟨⟨⟨⟨h1,h2⟩,h3⟩,h4⟩,h5⟩,h6⟩:=h;subst hsc;subst hN;refine⟨h1,h2,fun y hy e=>(h3 y hy).elim (fun z=>absurd e z) id,fun y hy e=>(h4 y hy).elim (fun z=>absurd e z) id,h5,fun i j x e1 e2=>?_⟩;have hi:i < caps.length:=(Zt.mp e1).1;have z:=h6 i (Jm.mpr hi);rw[e1,e2] at z;simp only[Bool.and_eq_true,decide_eq_true_eq,Bool.or_eq_true] at z;exact⟨z.1.1,.inr z.1.2,z.2⟩
theorem Zy{H:Hp}{p:Addr}(h:H p=none)(o:HO):Same H (upd H p o):=fun b u q=>by rw[Zu (Jb q h)];exact q
theorem Qw{H0 H:Hp}{p:Addr}(h:H0 p=none)(s:Same H0 H)(o:HO):Same H0 (upd H p o):=fun b u q=>by rw[Zu (Jb q h)];exact s b u q
theorem B7{tt:TT}{te:TE}{σ0:St}{H1:Hp}{Q:V→Hp→Prop}{J:It}(n:Nat)(xs:Nat→V)(p:Nat→Bool)(f:Nat→V)(hn:n≤sizeLine)
  (hgo:∀ i H,Same H1 H→i < n→J.go i H) (hstop:∀ H,Same H1 H→J.stop n H) (hy:∀ i H x H',Same H1 H→i < n→J.yld i H x H'→H'=H∧x=xs i)
  (hT:∀ i H,i < n→Same H1 H→∀ R:Bool→Hp→Prop,(∀ H',Same H H'→R (p i) H')→tt (σ0.set 0 (some (xs i))) H R)
  (hE:∀ i H,i < n→p i=true→Same H1 H→∀ R:V→Hp→Prop,(∀ H',Same H H'→R (f i) H')→te (σ0.set 0 (some (xs i))) H R)
  (hQ:∀ l H,Same H1 H→H1 l=none→H l=some (.lst (((List.range n).filter p).map f))→Q (.ref l) H):Q7 (Qr 0) tt te σ0 J H1 Q:=by
 intro l hl;refine⟨fun i m σ H=>m=n - i∧i≤n∧Same H1 H∧H l=some (.lst (((List.range i).filter p).map f))∧∀ o,σ.set 0 o=σ0.set 0 o,⟨n,by simp,Nat.zero_le _,Zy hl _,Zj,fun _=>rfl⟩,?_⟩;rintro i m σ H ⟨rfl,hi,sm,hL,hσ⟩;by_cases hlt:i < n
 ·refine .inr ⟨hgo i H sm hlt,fun x H' y=>?_⟩
  obtain⟨rfl,rfl⟩:=hy i H x H' sm hlt y;show tt (σ.set 0 (some (xs i))) H' _;rw[hσ];refine hT i H' hlt sm _ fun H2 s2=>?_;have er:(List.range (i+1)).filter p=(List.range i).filter p++(if p i=true then [i] else []):=by
   rw[List.range_succ,List.filter_append];by_cases hp:p i=true
   ·rw[if_pos hp,List.filter_cons_of_pos hp,List.filter_nil]
   ·rw[if_neg hp,List.filter_cons_of_neg hp,List.filter_nil]
  have hσ2:∀ o,(σ0.set 0 (some (xs i))).set 0 o=σ0.set 0 o:=fun o=>List.set_set _;by_cases hp:p i=true
  ·rw[if_pos hp]
   refine hE i H2 hlt hp (sm.trans s2) _ fun H3 s3=>?_;refine⟨_,s3 _ _ (s2 _ _ hL),?_,n - (i+1),by omega,rfl,hlt,?_,?_,hσ2⟩
   ·rw[Zi]
    have:=List.length_filter_le p (List.range i);rw[J4] at this;omega
   ·exact Qw hl (sm.trans (s2.trans s3)) _
   ·rw[Zj,er,if_pos hp,J3]
    rfl
  ·rw[if_neg hp]
   refine⟨n - (i+1),by omega,rfl,hlt,sm.trans s2,?_,hσ2⟩;rw[er,if_neg hp,Yb];exact s2 _ _ hL
 ·have e:i=n:=by omega
  subst e;exact .inl ⟨hstop H sm,hQ l H sm hl hL⟩
theorem N9{tt:TT}{te:TE}{σ0:St}{H1:Hp}{Q:V→Hp→Prop}{lo:Int}{n:Nat}(p:Nat→Bool)(f:Nat→V)(hn:n≤sizeLine)
  (hT:∀ i H,i < n→Same H1 H→∀ R:Bool→Hp→Prop,(∀ H',Same H H'→R (p i) H')→tt (σ0.set 0 (some (.int (lo+(i:Nat))))) H R)
  (hE:∀ i H,i < n→p i=true→Same H1 H→∀ R:V→Hp→Prop,(∀ H',Same H H'→R (f i) H')→te (σ0.set 0 (some (.int (lo+(i:Nat))))) H R)
  (hQ:∀ l H,Same H1 H→H1 l=none→H l=some (.lst (((List.range n).filter p).map f))→Q (.ref l) H):Q7 (Qr 0) tt te σ0 (Itr lo n) H1 Q:=
 B7 n (fun i=>.int (lo+(i:Nat))) p f hn (fun _ _ _ h=>h) (fun _ _=>Nat.le_refl _) (fun _ _ _ _ _ _ y=>y) hT hE hQ
theorem Xx{α β:Type}(xs:List α)(p:α→Bool)(f:α→β)(d:α):((List.range xs.length).filter fun i=>p (xs.getD i d)).map (fun i=>f (xs.getD i d))=(xs.filter p).map f:=by
 have e:(List.range xs.length).map (fun i=>xs.getD i d)=xs:=by
  apply List.ext_getElem
  ·simp
  ·intro i h1 h2
   simp;rw[Zb (by simpa using h2)];rfl
 have h:(((List.range xs.length).map (fun i=>xs.getD i d)).filter p).map f=((List.range xs.length).filter fun i=>p (xs.getD i d)).map (fun i=>f (xs.getD i d)):=by
  rw[List.filter_map,Z8];rfl
 rw[e] at h;exact h.symm
theorem Ue{K:W.Frag}{tt:TT}{te:TE}{σ0:St}{H1:Hp}{Q:V→Hp→Prop}{a:Addr}{xs:List V}(p:V→Bool)(f:V→V)(hS:SqL K H1 a xs)(hn:xs.length≤sizeLine)
  (hT:∀ x H,x∈xs→Same H1 H→∀ R:Bool→Hp→Prop,(∀ H',Same H H'→R (p x) H')→tt (σ0.set 0 (some x)) H R)
  (hE:∀ x H,x∈xs→p x=true→Same H1 H→∀ R:V→Hp→Prop,(∀ H',Same H H'→R (f x) H')→te (σ0.set 0 (some x)) H R)
  (hQ:∀ l H,Same H1 H→H1 l=none→H l=some (.lst ((xs.filter p).map f))→Q (.ref l) H):Q7 (Qr 0) tt te σ0 (Itl K a) H1 Q:=by
 have at_:∀ i,i < xs.length→xs[i]? = some (xs.getD i .non):=fun i h=>by
  rw[Zk,Zb h];rfl
 have mem:∀ i,i < xs.length→xs.getD i .non∈xs:=fun i h=>by
  have:=at_ i h;exact Zr this
 refine B7 xs.length (fun i=>xs.getD i .non) (fun i=>p (xs.getD i .non)) (fun i=>f (xs.getD i .non)) hn (fun i H sm h=>⟨xs,_,sm.seq hS,at_ i h⟩) (fun H sm=>⟨xs,sm.seq hS,Nat.le_refl _⟩)
  (fun i H x H' sm h y=>⟨y.1,?_⟩) (fun i H h sm=>hT _ H (mem i h) sm) (fun i H h hp sm=>hE _ H (mem i h) hp sm) (fun l H sm hl hL=>hQ l H sm hl ?_)
 ·have e:=y.2 xs (sm.seq hS)
  rw[at_ i h] at e;exact(Zn e).symm
 ·rw[hL,Xx]
section
variable{X:Cx}{e st:Expr}{te:TE}{ts:TO}{pos p2:Pos}
theorem Zcu{prog:Program}{w:World}{A:Around}{bs:List Bool}{its:List Value}(r:Vals (bs.map V.bl) its):TruthOf prog w A (fun i v=>its.toArray[i]? = some v) fun i=>bs.getD i true:=by
 intro i v s Q E hP hQ;have hP':its[i]? = some v:=by simpa using hP
 have hi:i < bs.length:=by
  have:=(Zt.mp hP').1;have h2:=r.length;rw[Zi] at h2;omega
 obtain⟨u,hu,ru⟩:=r.get (i:=i) (x:=.bl bs[i]) (by rw[Zm,Zb hi];rfl);rw[hP'] at hu;cases hu;cases ru;have e:bs.getD i true=bs[i]:=by rw[Zk,Zb hi];rfl
 have hQ':Q (bs.getD i true) s:=hQ;rw[e] at hQ';exact wpAny_truthy_bool hQ'
theorem M5(hc:X.calm=true):U8 X (.builtin "all") (fun xs H Q=>∃(a:Addr) (bs:List Bool),xs=[.ref a]∧SqL X.K H a (bs.map V.bl)∧Q (.bl (bs.all id)) H):=by
 intro pins s σ H xs us Q I r h;obtain⟨a,bs,rfl,hS,q⟩:=h;obtain⟨u,rfl,ru⟩:=Xc r;cases ru;obtain⟨its,ri,pl,hz⟩:=I.list hS;have hl:s.heap.IsList a its.toArray:=Qu pl;have ha:a < s.heap.objs.size:=by obtain⟨_,e,_⟩:=hl;exact Zs e
 have hh:X.A.in1.handled=none:=I.ok.hd hc;refine call_all_walk (wpAny_pyIter_list hl ?_);refine⟨s.heap.objs.size,[s.heap.objs.size,a],[s.heap.objs.size],its.toArray.size,(fun i v=>its.toArray[i]? = some v),(fun i h=>h.IsListIter s.heap.objs.size a i∧h.IsList a its.toArray),(fun i=>bs.getD i true),rfl,Walks.list hh s.heap.objs.size a (Nat.ne_of_lt ha) its.toArray,
  ⟨⟨_,Heap.get?_push_size _ rfl,rfl,rfl⟩,hl.push _⟩,Zcu ri,fun h' tk hk=>?_⟩
 have e:(List.range its.toArray.size).all (fun i=>bs.getD i true)=bs.all id:=by
  have h2:=ri.length;rw[Zi] at h2;have h3:its.toArray.size=bs.length:=by simp [h2]
  rw[h3];have e1:(List.range bs.length).map (fun i=>bs.getD i true)=bs:=by
   apply List.ext_getElem
   ·simp
   ·intro i h1 h2
    simp;rw[Zb (by simpa using h2)];rfl
  conv=>rhs;rw[← e1]
  rw[List.all_map];rfl
 rw[e];refine⟨.bl _,H,I.kept (t':=tk) fun b o eb=>hk b o ?_ (Ze _ eb),rfl,q⟩;intro hm;have:b=s.heap.objs.size:=by simpa using hm
 rw[this] at eb;exact absurd (Zs eb) (Nat.lt_irrefl _)
end
def Zo2(base:Heap)(e:Addr)(cls:Value)(od:Option Addr)(ctx fl:Value)(h:Heap):Prop:=
 ∃ oe vs T oT ts,(h.get? e=some oe∧(oe.cls=cls∧oe.dict=od)∧oe.data = .fields vs∧vs[1]? = some (.ref T)∧vs[2]? = some ctx)∧base.get? T=none∧T≠e∧h.get? T=some oT∧oT.data = .fields ts∧ts[3]? = some fl
structure FlyC(base:Heap)(l:List Env)(e:Addr)(cls:Value)(od:Option Addr)(ctx fl:Value)(h:Heap):Prop where
 stays:base.StaysIn h
 new:base.get? e=none
 frames:h.FunFrames base l
 rcd:Zo2 base e cls od ctx fl h
section
variable{M:Model}{A:Around}{E:Value→Shared→Prop}{s:Shared}{base:Heap}{env:Env}{outer:List Env}{L e:Addr}{cls ctx:Value}{od:Option Addr}{Q:Unit→Shared→Prop}
theorem To(o:Obj)(f:Array Value→Array Value):(o.mapFields f).dict=o.dict:=by
 unfold Obj.mapFields;split<;>rfl
theorem Ta{h:Heap}{a:Addr}{o:Obj}{vs:Array Value}(ho:h.get? a=some o)(hd:o.data = .fields vs){b:Addr}{u:Obj}(hb:h.get? b=some u)(hn:∀ ws,u.data ≠ .fields ws):b≠a:=by
 rintro rfl;have z:=hb.symm.trans ho;cases z;exact hn vs hd
theorem So{h:Heap}{a:Addr}{i:Nat}{v:Value}(hk:base.StaysIn h)(ha:base.get? a=none){l:List Env}(hl:h.FunFrames base l){o:Obj}{vs:Array Value}(ho:h.get? a=some o)(hd:o.data = .fields vs) :
  let h':=h.update a (Obj.mapFields (·.setIfInBounds i v))
  base.StaysIn h'∧h'.FunFrames base l∧h.UpToSlots h'∧(∀ b,b≠a→h'.get? b=h.get? b)∧∃ o',h'.get? a=some o'∧(o'.cls=o.cls∧o'.dict=o.dict)∧o'.data = .fields (vs.setIfInBounds i v):=by
 intro h';have oth:∀ b,b≠a→h'.get? b=h.get? b:=fun b hb=>Heap.get?_update_other _ _ (Ne.symm hb);have hd':=Obj.data_mapFields hd (·.setIfInBounds i v);refine⟨fun b u hb=>?_,hl.of_keeps fun b u hb hn=>?_,fun b u hb hn=>?_,oth,_,Heap.get?_update_self _ ho (Obj.isFreed_of_fields hd'),⟨Obj.cls_mapFields _ _,To _ _⟩,hd'⟩
 ·rw[oth b (fun z=>by rw[z,ha] at hb;cases hb)]
  exact hk b u hb
 ·exact⟨u,(oth b (Ta ho hd hb hn)).trans hb,rfl⟩
 ·exact⟨u.slots,(oth b (Ta ho hd hb hn)).trans hb⟩
theorem Zh4{head:Value}{hadNext:Bool}{oe:Obj}{vs:Array Value}(hfr:A.frames=some (env :: outer))(hl:s.heap.FunFrames base (env :: outer))(hf:env.frame=some L)(hk:base.StaysIn s.heap)(hn:base.get? e=none)
  (he:s.heap.get? e=some oe) (hc:oe.cls=cls∧oe.dict=od) (hd:oe.data = .fields vs) (h2:vs[2]? = some ctx)
  (h:∀ h',FlyC base (env :: outer) e cls od ctx (rawInt L) h'→s.heap.UpToSlots h'→Q () { s with heap:=h' }) :
  wpAny M A (do let a ← frameOf env;let pl ← entryPlaceOf L hadNext;let b ← EntryCells.newEntry head a .none (rawInt L) .none pl;setField (.ref e) 1 b) Q E s:=by
 have hef:e∉(env :: outer).filterMap (·.frame):=fun hm=>by
  obtain⟨_,o,ho,hnf⟩:=hl.mem hm;exact Ta he hd ho hnf rfl
 refine Zc (wpAny_frameOf_fun hfr hl hf fun g1 so=>Zc (wpAny_entryPlaceOf fun pl hpl=>?_));unfold EntryCells.newEntry;unfold newFields;refine Zc (wpAny_newObj_type ?_ (hpl.sizeOk5 _ _ _ _ _));generalize hob:({ cls:=.type "traceback",dict:=none,data:=.fields ([head,Value.ref L,.none,rawInt L,.none]++(if pl.isEmpty then List.replicate 6 Value.none else pl)).toArray }:Obj)=ob;have obd:∃ ts:Array Value,ob.data = .fields ts∧ts[3]? = some (rawInt L):=by
  rw[← hob];refine⟨_,rfl,?_⟩;simp
 have e1:g1.get? e=some oe:=(so.2.1 e hef).trans he;have k1:base.StaysIn g1:=fun b o hb=>(so.2.1 b fun hm=>by rw[(hl.mem hm).1] at hb;cases hb).trans (hk b o hb);have l1:g1.FunFrames base (env :: outer):=hl.of_keeps fun b o hb _=>by
  obtain⟨sl,q⟩:=so.2.2 b o hb;exact⟨_,q,rfl⟩
 have up1:s.heap.UpToSlots g1:=fun b o hb _=>so.2.2 b o hb;have e2:(g1.push ob).get? e=some oe:=Ze _ e1;have k2:base.StaysIn (g1.push ob):=fun b o hb=>Ze _ (k1 b o hb);have l2:(g1.push ob).FunFrames base (env :: outer):=l1.of_keeps fun b o hb _=>⟨o,Ze _ hb,rfl⟩;have up2:g1.UpToSlots (g1.push ob):=Heap.UpToSlots.of_keeps fun b o hb=>Ze _ hb;have hT:(g1.push ob).get? g1.objs.size=some ob:=Heap.get?_push_size _ (by obtain⟨ts,z,_⟩:=obd;exact Obj.isFreed_of_fields z);have hsz:1 < vs.size:=Nat.lt_trans (by decide) (Array.getElem?_eq_some_iff.mp h2).1;obtain⟨k3,l3,up3,oth,oe3,e3,c3,d3⟩:=So (i:=1) (v:=.ref g1.objs.size) k2 hn l2 e2 hd;refine wpAny_setField e2 hd hsz (h _ ⟨k3,hn,l3,oe3,vs.setIfInBounds 1 (.ref g1.objs.size),g1.objs.size,ob,?_⟩ ((up1.trans up2).trans up3));obtain⟨ts,z1,z2⟩:=obd;have hTe:g1.objs.size≠e:=Nat.ne_of_gt (Zs e1);refine⟨ts,⟨e3,⟨c3.1.trans hc.1,c3.2.trans hc.2⟩,d3,by simp [hsz],?_⟩,k1.fresh,hTe,(oth _ hTe).trans hT,z1,z2⟩;rw[Array.getElem?_setIfInBounds_ne (by decide)];exact h2
theorem Zmw{oe:Obj}{vs:Array Value}(hfr:A.frames=some (env :: outer))(hl:s.heap.FunFrames base (env :: outer))(hf:env.frame=some L)(hk:base.StaysIn s.heap)(hn:base.get? e=none)
  (he:s.heap.get? e=some oe) (hc:oe.cls=cls∧oe.dict=od) (hd:oe.data = .fields vs) (h1:vs[1]? = some .none) (h2:vs[2]? = some ctx)
  (h:∀ h',FlyC base (env :: outer) e cls od ctx (rawInt L) h'→s.heap.UpToSlots h'→Q () { s with heap:=h' }):wpAny M A (noteFrame (.ref e) env) Q E s:=by
 unfold noteFrame;simp only[hf];refine Zc (wpAny_field he hd h1 ?_);rw[if_neg (by decide)];exact Zh4 hfr hl hf hk hn he hc hd h2 h
theorem Zlk(hfr:A.frames=some (env :: outer))(hf:env.frame=some L)(x:FlyC base (env :: outer) e cls od ctx .none s.heap)
  (h:∀ h',FlyC base (env :: outer) e cls od ctx (rawInt L) h'→s.heap.UpToSlots h'→Q () { s with heap:=h' }):wpAny M A (noteFrame (.ref e) env) Q E s:=by
 obtain⟨oe,vs,T,oT,ts,⟨he,hc,hd,h1,h2⟩,hT0,hTe,hT,hdT,h3⟩:=x.rcd;unfold noteFrame;simp only[hf];refine Zc (wpAny_field he hd h1 ?_);rw[if_pos (by simp:(Value.ref T != Value.none)=true)];refine Zc (wpAny_field hT hdT h3 ?_);rw[if_neg (by simp [rawInt]:¬ ((Value.none == rawInt L)=true))];obtain⟨k3,l3,up3,oth,_⟩:=So (i:=3) (v:=.none) x.stays hT0 x.frames hT hdT;refine Zc (wpAny_setField hT hdT (Array.getElem?_eq_some_iff.mp h3).1 ?_);exact Zh4 hfr l3 hf k3 x.new ((oth e (Ne.symm hTe)).trans he) hc hd h2 fun h' y up=>h h' y (up3.trans up)
theorem Zb5{fl:Value}{l:List Env}(x:FlyC base l e cls od ctx fl s.heap)(h:∀ h',FlyC base l e cls od ctx .none h'→s.heap.UpToSlots h'→Q () { s with heap:=h' }):wpAny M A (setFlight (.ref e) none) Q E s:=by
 obtain⟨oe,vs,T,oT,ts,⟨he,hc,hd,h1,h2⟩,hT0,hTe,hT,hdT,h3⟩:=x.rcd;have hsz:=(Array.getElem?_eq_some_iff.mp h3).1;obtain⟨k3,l3,up3,oth,oT3,e3,c3,d3⟩:=So (i:=3) (v:=.none) x.stays hT0 x.frames hT hdT;unfold setFlight;refine Zc (wpAny_field he hd h1 ?_);rw[if_pos (by simp:(Value.ref T != Value.none)=true)];refine wpAny_setField hT hdT hsz (h _ ⟨k3,x.new,l3,oe,vs,T,oT3,_,⟨(oth e (Ne.symm hTe)).trans he,hc,hd,h1,h2⟩,hT0,hTe,e3,d3,by simp [hsz]⟩ up3)
theorem FlyC.pop{fl:Value}{h:Heap}(x:FlyC base (env :: outer) e cls od ctx fl h):FlyC base outer e cls od ctx fl h:=⟨x.stays,x.new,x.frames.2.2,x.rcd⟩
theorem Zb4{oe:Obj}{vs:Array Value}(hfr:A.frames=some (env :: outer))(hl:s.heap.FunFrames base (env :: outer))(hf:env.frame=some L)(hk:base.StaysIn s.heap)(hn:base.get? e=none)
  (he:s.heap.get? e=some oe) (hc:oe.cls=cls∧oe.dict=od) (hd:oe.data = .fields vs) (h1:vs[1]? = some .none) (h2:vs[2]? = some ctx)
  (h:∀ h',FlyC base outer e cls od ctx .none h'→s.heap.UpToSlots h'→Q () { s with heap:=h' }):wpAny M A (leaving env (.ref e)) Q E s:=by
 unfold leaving;exact Zc (Zmw hfr hl hf hk hn he hc hd h1 h2 fun g1 x1 u1=>Zb5 (s:={ s with heap:=g1 }) x1 fun g2 x2 u2=>h g2 x2.pop (u1.trans u2))
theorem Zm1(hfr:A.frames=some (env :: outer))(hf:env.frame=some L)(x:FlyC base (env :: outer) e cls od ctx .none s.heap)
  (h:∀ h',FlyC base outer e cls od ctx .none h'→s.heap.UpToSlots h'→Q () { s with heap:=h' }):wpAny M A (leaving env (.ref e)) Q E s:=by
 unfold leaving;exact Zc (Zlk hfr hf x fun g1 x1 u1=>Zb5 (s:={ s with heap:=g1 }) x1 fun g2 x2 u2=>h g2 x2.pop (u1.trans u2))
end
section
variable{P:Program}{w:World}{H:Hp}{h h'' B:Heap}{a:Addr}{o:HO}
theorem ObjOk.there(x:ObjOk P w H h a o):∃ ob,h.get? a=some ob:=by
 cases o with
 | lst xs=>obtain⟨_,_,_,_,e⟩:=x;exact⟨_,e⟩
 | tup xs=>obtain⟨_,_,_,ob,e,_⟩:=x;exact⟨ob,e⟩
 | dK kvs=>obtain⟨_,_,_,_,ob,_,_,e,_⟩:=x;exact⟨ob,e⟩
 | dT kvs=>obtain⟨_,_,_,_,ob,_,_,e,_⟩:=x;exact⟨ob,e⟩
 | set S n=>obtain⟨ob,_,_,_,e,_⟩:=x;exact⟨ob,e⟩
 | ins C dx fs=>obtain⟨_,_,_,e,_⟩:=x;exact⟨_,e⟩
 | own y=>exact x
 | xd fs=>obtain⟨_,⟨_,_,_,e,_⟩,_⟩:=x;exact⟨_,e⟩
 | rng lo hi=>obtain⟨_,_,_,e⟩:=x;exact⟨_,e⟩
 | frz ob u=>exact⟨_,x.1⟩
 | tbl ps=>exact⟨_,(show h.get? a=some _ from x)⟩
 | met f y=>exact⟨_,(show h.get? a=some _ from x)⟩
 | ext φ=>exact x.2.1
theorem HOk.stays(x:HOk P w H h)(trk:∀ b o,H b=some o→∃ ob,B.get? b=some ob)(b1:B.StaysIn h)(b2:B.StaysIn h''):HOk P w H h'':=fun a o e=>
 (x a o e).stay (fun b u hb q=>by
  have z:∃ ob,B.get? b=some ob:=hb.elim (fun z=>z ▸ trk a o e) fun z=>trk b _ z;obtain⟨ob,e1⟩:=z;have e2:=(b1 _ _ e1).symm.trans q;cases e2;exact b2 _ _ e1) (fun _ q=>q) fun _ _ q=>q
end
inductive Chn(B:Heap):Value→Prop where
 | nil:Chn B .none
 | cons {c:Addr} {o:Obj} {vs:Array Value} {ctx:Value}:B.get? c=some o→o.data = .fields vs→vs[2]? = some ctx→Chn B ctx→Chn B (.ref c)
structure Fly(l:List Env)(H:Hp)(e:Addr)(cls:Value)(od:Option Addr)(B h:Heap):Prop where
 fly:∃ ctx,FlyC B l e cls od ctx .none h∧Chn B ctx
 trk:∀ b o,H b=some o→∃ ob,B.get? b=some ob
 noe:H e=none
def V8(P:Program)(w:World):CXT:=fun outer H s E e s'=>∃(ea:Addr) (cls:Value) (od:Option Addr) (H':Hp) (B:Heap),e = .ref ea∧s'.os=s.os∧AllBare s'.gens∧Un (Vc outer) [] H H' s.heap s'.heap∧HOk P w H' s'.heap ∧
 Fly outer H' ea cls od B s'.heap∧(∀ b o,s.heap.get? b=some o→b∉Vc outer→∃ ob,B.get? b=some ob)∧E cls od H'
section
variable{X:Cx}{pins:List (Addr×Obj)}{σ:St}{H:Hp}{s:Shared}{B h'':Heap}
theorem Inv.un_fly(J:Inv X pins σ H s)(hex:X.ex=[])(b1:B.StaysIn s.heap)(b2:B.StaysIn h'')(up:s.heap.UpToSlots h'')(inB:∀ b o,X.s₀.heap.get? b=some o→b∉X.fs→∃ ob,B.get? b=some ob) :
  Un X.fs [] X.H₀ H X.s₀.heap h'' where
 keep:=fun b o e n hb _=>by
  have e1:=J.base.keep b o e n hb (by rw[hex];simp);obtain⟨ob,eb⟩:=inB b o e hb;have e2:=(b1 _ _ eb).symm.trans e1;cases e2;exact b2 _ _ eb
 slot:=fun b o e n hb _=>by
  obtain⟨sl,e1⟩:=J.base.slot b o e n hb (by rw[hex];simp);obtain⟨_,o2,ho2,hd⟩:=J.funs.mem hb;rw[e1] at ho2;cases ho2;obtain⟨sl2,e2⟩:=up b _ e1 hd;exact⟨sl2,e2⟩
 free:=fun b o e n _=>J.base.free b o e n (by rw[hex];simp)
 there:=fun b o e _=>by
  by_cases hb:b∈X.fs
  ·obtain⟨_,o2,ho2,hd⟩:=J.funs.mem hb
   obtain⟨sl,e2⟩:=up b o2 ho2 hd;exact⟨_,e2⟩
  ·obtain⟨ob,eb⟩:=inB b o e hb
   exact⟨ob,b2 _ _ eb⟩
 tups:=J.base.tups
 frzs:=J.base.frzs
 tbls:=J.base.tbls
theorem Inv.notFr(J:Inv X pins σ H s){b:Addr}{o:Obj}(e:X.s₀.heap.get? b=some o)(hb:b∉X.fs):b∉Vc X.stack:=fun z=>by
 rcases List.mem_cons.mp (J.stkSub b z) with q | q
 ·exact absurd (Z1 (Zs e) J.ok.above) (by rw[q];exact Nat.lt_irrefl _)
 ·exact hb q
def under(X:Cx)(s:Shared):Heap:=W.hideAll s.heap (Vc X.stack)
theorem O9{b:Addr}{o:Obj}(e:s.heap.get? b=some o)(hb:b∉Vc X.stack):(under X s).get? b=some o:=W.hideAll_get _ e hb
theorem O8:(under X s).StaysIn s.heap:=fun b o q=>W.of_hideAll _ q
theorem Inv.under_frames(J:Inv X pins σ H s):s.heap.FunFrames (under X s) X.stack:=W.funFrames_hide J.stack fun env he a ha=>List.mem_filterMap.mpr ⟨env,he,ha⟩
theorem Inv.under_trk(J:Inv X pins σ H s):∀ b o,H b=some o→∃ ob,(under X s).get? b=some ob:=fun b o e=>by
 obtain⟨ob,q⟩:=(J.hok b o e).there;exact⟨ob,O9 q fun z=>by rw[J.stkFree b z] at e;cases e⟩
end
structure MadeC(h h':Heap)(e:Addr)(cls ctx:Value):Prop where
 keeps:∀ b o,h.get? b=some o→h'.get? b=some o
 new:h.get? e=none
 rcd:∃ oe vs,h'.get? e=some oe∧(oe.cls=cls∧oe.dict=none)∧oe.data = .fields vs∧vs[1]? = some .none∧vs[2]? = some ctx
theorem MadeC.of{h h':Heap}{e:Addr}{cls:Value}{args:List Value}(x:Heap.MadeExcOf h h' e cls args):MadeC h h' e cls .none:=by
 obtain⟨t,he,_⟩:=x.there;exact⟨x.keeps,x.new,_,_,he,⟨rfl,rfl⟩,rfl,rfl,rfl⟩
structure Thr(X:Cx)(E:XK):Prop where
 new:∀(pins:List (Addr×Obj)) (σ:St) (H:Hp) (s:Shared) (h':Heap) (e C:Addr) (ctx:Value),Inv X pins σ H s→MadeC s.heap h' e (.ref C) ctx→Chn (under X s) ctx→E (.ref C) none H→X.xe (.ref e) { s with heap:=h' }
 on:Qm (V8 X.prog X.w) X E
 own:PassesOwn (model X.prog X.w) X.A X.env X.xe
 ownAt:∀ hd,PassesOwnAt (model X.prog X.w) (X.A.mark hd) X.A X.env X.xe
theorem Zir{P:Program}{w:World}{K:W.Frag}{mg:Str→Option Value}{base:Heap}{N:List Str}{qual:Str}{scope:Scope}{f:Addr}{cd:Value}{A:Around}{outer:List Env}{s:Shared}{H:Hp}{E:XK} :
  Thr (Qk (V8 P w) P w K mg base N qual scope f cd A outer s H E) E where
 own:=PassesOwn.leaving
 ownAt:=fun _=>PassesOwnAt.leaving
 new:=by
  intro pins σ H1 s1 h' e C ctx I hx hch hE;have fr:(under (Qk (V8 P w) P w K mg base N qual scope f cd A outer s H E) s1).StaysIn s1.heap:=O8;have hn:(under (Qk (V8 P w) P w K mg base N qual scope f cd A outer s H E) s1).get? e=none:=by
   cases q:(under (Qk (V8 P w) P w K mg base N qual scope f cd A outer s H E) s1).get? e with
   | none=>rfl
   | some o=>
    have z:=fr _ _ q;rw[hx.new] at z;cases z
  obtain⟨oe,vs,he,hc,hd,h1,h2⟩:=hx.rcd;refine Zb4 (outer:=outer) I.ok.frames (I.under_frames.of_keeps fun b o hb _=>⟨o,hx.keeps b o hb,rfl⟩) rfl (fun b o q=>hx.keeps b o (fr b o q)) hn he hc hd h1 h2 fun h'' x1 x4=>?_;have up:s1.heap.UpToSlots h'':=(Heap.UpToSlots.of_keeps hx.keeps).trans x4;have inB:∀ b o,s.heap.get? b=some o→b∉Vc outer→∃ ob,(under (Qk (V8 P w) P w K mg base N qual scope f cd A outer s H E) s1).get? b=some ob:=fun b o eb hb=>by
   obtain⟨o',e'⟩:=I.base.there b o eb (by intro z;cases z);exact⟨o',O9 e' (I.notFr eb hb)⟩
  refine⟨e,.ref C,none,H1,_,rfl,I.os,I.bare,I.un_fly rfl fr x1.stays up inB,I.hok.stays I.under_trk fr x1.stays,⟨⟨ctx,x1,hch⟩,I.under_trk,?_⟩,inB,hE⟩;cases q:H1 e with
  | none=>rfl
  | some o=>
   obtain⟨ob,z⟩:=(I.hok e o q).there;rw[hx.new] at z;cases z
 on:=by
  intro pins σ H1 s1 e s' I hc;obtain⟨ea,cls,od,H',B,rfl,os,bare,un,hok,F,inB,hE⟩:=hc;have J:=I.call' os un hok bare fun b z=>absurd z (by simp);obtain⟨ctx,fl,hch⟩:=F.fly;refine Zm1 (outer:=outer) I.ok.frames rfl fl fun h'' x1 x2=>?_;have inB':∀ b o,s.heap.get? b=some o→b∉Vc outer→∃ ob,B.get? b=some ob:=fun b o eb hb=>by
   obtain⟨o',e'⟩:=I.base.there b o eb (by intro z;cases z);exact inB b o' e' (I.notFr eb hb)
  exact⟨ea,cls,od,H',B,rfl,J.os,J.bare,J.un_fly rfl fl.stays x1.stays x2 inB',hok.stays F.trk fl.stays x1.stays,⟨⟨ctx,x1,hch⟩,F.trk,F.noe⟩,inB',hE⟩
theorem Fun.okX{P:Program}{w:World}{K:W.Frag}{mg:Str→Option Value}{base:Heap}{x qual:Str}{st:Stmt}{f:Addr}{fd:FuncData}{N ps:List Str}{k:Nat}{sp:Sp}(F:Fun K x qual st f fd)(S:FnScope N ps (Zp st))(len:∀ vs H Q E,sp vs H Q E→vs.length=ps.length)
  (hbody:∀(cdv:Value) (A:Around) (outer:List Env) (s:Shared) (H:Hp) (vs:List V) (Q:VK) (E:XK),Room k (A.deeper (envOfC qual (Zp st) s.heap.objs.size f cdv))→sp vs H Q E →
   Thr (Qk (V8 P w) P w K mg base N qual (Zp st) f cdv A outer s H E) E →
   ∃ t,PSs (Qk (V8 P w) P w K mg base N qual (Zp st) f cdv A outer s H E) (Y0 st) t∧t { nx:=fun _ H'=>Q .non H',rt:=Q } (start N vs) H):FnOk P w K mg base (V8 P w) (k+1) f fd ps sp:=by
 obtain⟨oc,od,kV,doc,pm,an,cdv,ct,osl,rfl,lk,hcd⟩:=F.ex;exact Zcf lk hcd S len fun A outer s H vs Q E hr hsp=>hbody cdv A outer s H vs Q E hr hsp Zir
abbrev Uk:List Value:=[.type "ValueError",.type "Exception",.type "BaseException",.type "object"]
theorem Zkt{K:W.Frag}{h:Heap}{C:Addr}{bmB:List Value}{newId:String}(X:K.In h)(q:W.excIn K C bmB newId=true) :
  ∃ bm N nm qn bs hdct sn sub ab col dd k0 k1 k2 k3 k5 mN,h.get? C=some (excClassObj nm qn C N bs bm hdct sn sub ab col dd k0 k1 k2 k3 k5 newId)∧h.Ns N mN∧mN "__init__" = none∧OwnTail h bmB bm:=by
 unfold W.excIn at q;split at q
 ·rename_i ddx cdx slx hlook
  split at q
  ·rename_i Cx bmx j0 j1 j2 j3 nx j5 hmro hslots
   simp only[beq_iff_eq,Bool.and_eq_true,Bool.not_eq_true'] at q;obtain⟨⟨⟨⟨⟨eC,eN⟩,edel⟩,etl⟩,eok⟩,eni⟩:=q;subst eC;subst eN;obtain⟨f1,f2,f3,f4,f5,f6,f7,f8,f9,f10,f11⟩:=cdx;have e1:f3=_:=hmro;have e2:f11=false:=edel;subst e1;subst e2;obtain⟨lst⟩:=slx;have e3:lst=_:=hslots;subst e3;exact⟨bmx,f4,f1,f5,f2,f6,f7,f8,f9,f10,ddx,j0,j1,j2,j3,j5,_,X _ _ hlook,.of_isNs (W.isNs_of_in X eok),W.nsMap_none_of_in X eok eni,W.tail_of_in X etl⟩
  ·cases q
 ·cases q
def Zlz(C:Addr)(E:XK)(t:TA):TS:=fun _ σ H=>t σ H fun vs H1=>vs.length≤sizeLine∧E (.ref C) none H1
theorem Qd{X:Cx}{x:Str}{np cpos pos:Pos}{e:Expr}{es:List Expr}{t:TA}{C:Addr}{E:XK}(T:Thr X E)(hh:X.A.handled=none)(hg:Gl X x)(hm:X.mg x=some (.ref C))(hc:W.excIn X.K C Uk "ValueError.__new__" = true)(ha:PA X (e :: es) t)
  (hdb:(x == ("__debug__":Str))=false:=by decide) (he:starEach (e :: es) X.env=(false,eval e X.env) :: starEach es X.env:=by rfl) (hpl:(backTo cpos (starEach es X.env)).any (·.1)=false:=by rfl) :
  PS X (.Raise (some (.Call (.Name x np) (e :: es) [] cpos)) none pos) (Zlz C E t):=by
 intro pins s σ H D I h;obtain⟨bm,N,nm,qn,bs,hdct,sn,sub,ab,col,dd,k0,k1,k2,k3,k5,mN,hC,hN,hni,hT⟩:=Zkt I.mod.kin hc;have hB:bm.contains (.type "BaseException")=true:=hT.hasType PySem.F.excBase_ValueError.hasBase;refine wpAny_Raise_call_subT (k5:=k5) (k3:=k3) (k2:=k2) (k1:=k1) (k0:=k0) (dd:=dd) (col:=col) (ab:=ab) (sub:=sub) (sn:=sn) (hdct:=hdct) (bs:=bs) (N:=N) (q:=qn) (nm:=nm) (bm:=bm) (C:=C) PySem.F.excBase_ValueError (mN:=mN) hB hh (by rw[he];show(false || (backTo cpos (starEach es X.env)).any (·.1))=false;rw[hpl];rfl) hni (Eh I hg hm ⟨rfl,?_⟩ hdb);have hA:=ha cpos pins s σ H _ I h;rw[he] at hA ⊢;refine Calls.evalArgs_plain (Y5 hA fun us s2 q2=>?_);obtain⟨vs,H2,I2,r,hz,hE⟩:=q2;exact⟨rfl,by rw[← r.length];exact hz,I2.bk _ _ hC,hN.keeps I2.bk,hT.keeps I2.bk,fun h' e' hx=>T.new pins σ H2 s2 h' e' C .none I2 (.of hx) .nil hE⟩
def Zk4(X:Cx)(pins:List (Addr×Obj))(B:Heap):Prop:=(∀ b o,X.s₀.heap.get? b=some o→b∉X.ex→b∉X.fs→∃ ob,B.get? b=some ob)∧∀ p∈X.pn++pins,∃ ob,B.get? p.1=some ob
def XP(X:Cx)(pins:List (Addr×Obj))(σ:St)(Ex:XK)(e:Value)(s':Shared):Prop:=
 ∃(ea:Addr) (cls:Value) (od:Option Addr) (H':Hp) (B:Heap),e = .ref ea∧Inv X pins σ H' s'∧Fly X.stack H' ea cls od B s'.heap∧Zk4 X pins B∧Ex cls od H'
section
variable{X:Cx}{pins:List (Addr×Obj)}{σ:St}{H:Hp}{s:Shared}{B h'':Heap}
theorem Inv.held(I:Inv X pins σ H s)(inB:∀ b o,s.heap.get? b=some o→b∉Vc X.stack→∃ ob,B.get? b=some ob):Zk4 X pins B:=by
 refine⟨fun b o e hx hb=>?_,fun p hp=>?_⟩
 ·obtain⟨o',e'⟩:=I.base.there b o e hx
  exact inB b o' e' (I.notFr e hb)
 ·obtain⟨e,n,ne,nf,d⟩:=I.pin p hp
  exact inB _ _ e fun z=>by
   rcases List.mem_cons.mp (I.stkSub _ z) with q | q
   ·exact ne q
   ·exact nf q
theorem Inv.landed(J:Inv X pins σ H s)(hB:Zk4 X pins B)(trk:∀ b o,H b=some o→∃ ob,B.get? b=some ob)(b1:B.StaysIn s.heap)(b2:B.StaysIn h'')(up:s.heap.UpToSlots h''):Inv X pins σ H { s with heap:=h'' }:=by
 have exact_:∀ b o,s.heap.get? b=some o→(∃ ob,B.get? b=some ob)→h''.get? b=some o:=fun b o e z=>by
  obtain⟨ob,eb⟩:=z;have e2:=(b1 _ _ eb).symm.trans e;cases e2;exact b2 _ _ eb
 have cellK:∀ c v,s.heap.IsCell c v→h''.IsCell c v:=fun c v z=>by
  obtain⟨o,ho,hd⟩:=z;obtain⟨sl,e⟩:=up c o ho fun ws q=>by rw[hd] at q;cases q
  exact⟨_,e,hd⟩
 refine⟨J.ok,J.os,J.bare,⟨fun b o e n hb hx=>?_,fun b o e n hb hx=>?_,J.base.free,fun b o e hx=>?_,J.base.tups,J.base.frzs,J.base.tbls⟩,?_,fun x c e=>?_,J.free,J.freeC,fun p hp=>?_,J.hok.stays trk b1 b2,J.len⟩
 ·exact exact_ b o (J.base.keep b o e n hb hx) (hB.1 b o e hx hb)
 ·obtain⟨sl,e1⟩:=J.base.slot b o e n hb hx
  obtain⟨_,o2,ho2,hd⟩:=J.funs.mem hb;rw[e1] at ho2;cases ho2;obtain⟨sl2,e2⟩:=up b _ e1 hd;exact⟨sl2,e2⟩
 ·by_cases hb:b∈X.fs
  ·obtain⟨_,o2,ho2,hd⟩:=J.funs.mem hb
   obtain⟨sl,e2⟩:=up b o2 ho2 hd;exact⟨_,e2⟩
  ·obtain⟨ob,eb⟩:=hB.1 b o e hx hb
   exact⟨ob,b2 _ _ eb⟩
 ·obtain⟨m,hn,hl⟩:=J.loc
  refine⟨m,up.ns hn,fun i x v e1 e2 e3=>?_⟩;obtain⟨u,r,l⟩:=hl i x v e1 e2 e3;refine⟨u,r,?_⟩;rcases l with l | ⟨k,c,e,z⟩
  ·exact .inl l
  ·exact .inr ⟨k,c,e,cellK c _ z⟩
 ·obtain⟨v,z⟩:=J.cell x c e
  exact⟨v,cellK c v z⟩
 ·obtain⟨e,n,ne,nf,d⟩:=J.pin p hp
  exact⟨exact_ _ _ e (hB.2 p hp),n,ne,nf,d⟩
def hCx(X:Cx)(e:Addr):Cx:={ X with A:=X.A.mark (some (.ref e)),calm:=false,xe:=fun _ _=>False }
theorem Inv.inH{e:Addr}(J:Inv X pins σ H s):Inv (hCx X e) pins σ H s:=
 ⟨⟨J.ok.mod,J.ok.kind,J.ok.glob,J.ok.blt,J.ok.above,J.ok.inj,J.ok.has,J.ok.cab,fun z=>Bool.noConfusion z,J.ok.frames,J.ok.stk,J.ok.exf,J.ok.bs,J.ok.bsz,J.ok.noex,J.ok.exfs,J.ok.funs,J.ok.frf⟩,J.os,J.bare,J.base,J.loc,J.cell,J.free,J.freeC,J.pin,J.hok,J.len⟩
theorem Inv.outH{e:Addr}(ok:X.Ok)(J:Inv (hCx X e) pins σ H s):Inv X pins σ H s:=⟨ok,J.os,J.bare,J.base,J.loc,J.cell,J.free,J.freeC,J.pin,J.hok,J.len⟩
theorem Nl{M:Model}{A:Around}{E:Value→Shared→Prop}{i:Nat}{n:Str}{pos:Pos}{Q:Unit→Shared→Prop}(J:Inv X pins σ H s)(hN:X.N.Nodup)(hi:X.N[i]? = some n)(hlo:X.env.kindOf n=some .local)
  (h:∀ s',Inv X pins (σ.set i none) H s'→Q () s'):wpAny M A (do bindName X.env n .none;unbindBehindTheSuite X.env n pos) Q E s:=by
 obtain⟨m,hn,hl⟩:=J.loc;refine wpAny_nameGoes_keeps hlo hn (by rw[J.ok.kind];rfl) fun h' v hn' hs=>h _ ?_;have hiσ:i < σ.length:=by rw[J.len];exact(Zt.mp hi).1
 obtain⟨oL,esL,epL,hoL,hdL,_⟩:=id hn;have neB:∀ b o,X.s₀.heap.get? b=some o→b≠X.env.locals:=fun b o e=>Nat.ne_of_lt (Z1 (Zs e) J.ok.above);refine⟨J.ok,J.os,J.bare,⟨fun b o e k hb hx=>?_,fun b o e k hb hx=>?_,J.base.free,fun b o e hx=>?_,J.base.tups,J.base.frzs,J.base.tbls⟩,⟨_,hn',fun j y v' e1 e2 e3=>?_⟩,fun y c e=>?_,J.free,J.freeC,fun p hp=>?_,fun b ob e=>?_,by simpa using J.len⟩
 ·exact(hs.2 b (neB b o e)).trans (J.base.keep b o e k hb hx)
 ·obtain⟨sl,q⟩:=J.base.slot b o e k hb hx
  exact⟨sl,(hs.2 b (neB b o e)).trans q⟩
 ·obtain⟨o',q⟩:=J.base.there b o e hx
  exact⟨o',(hs.2 b (neB b o e)).trans q⟩
 ·by_cases hj:j=i
  ·subst hj
   rw[List.getElem?_set_self hiσ] at e2;cases e2
  ·rw[List.getElem?_set_ne (Ne.symm hj)] at e2
   obtain⟨u',r',q⟩:=hl j y v' e1 e2 e3;refine⟨u',r',?_⟩;have hy:y≠n:=fun z=>hj (G6 hN e1 (z ▸ hi));rcases q with⟨k,e⟩ | ⟨k,c,e,z⟩
   ·exact .inl ⟨k,by simp [hy,e]⟩
   ·exact .inr ⟨k,c,e,z.sameBut hs (J.cne y c e)⟩
 ·obtain⟨w',z⟩:=J.cell y c e
  exact⟨w',z.sameBut hs (J.cne y c e)⟩
 ·obtain⟨e,k,ne,nf,d⟩:=J.pin p hp
  exact⟨(hs.2 p.1 ne).trans e,k,ne,nf,d⟩
 ·refine(J.hok b ob e).stay (fun c w' hc q=>(hs.2 c ?_).trans q) (fun _ q=>q) fun _ _ q=>q
  rintro rfl;have fr:=J.free;rcases hc with hc | hc
  ·rw[hc,e] at fr
   cases fr
  ·rw[hc] at fr
   cases fr
end
def PEX(X:Cx)(e:Expr)(t:XK→TE):Prop:=
 ∀(pins:List (Addr×Obj)) (s:Shared) (σ:St) (H:Hp) (Q:VK) (Ex:XK),Inv X pins σ H s→t Ex σ H Q→wpAny (model X.prog X.w) X.A (eval e X.env) (EP X pins σ Q) (XP X pins σ Ex) s
def PSX(X:Cx)(st:List Stmt)(t:XK→TS):Prop:=
 ∀(pins:List (Addr×Obj)) (s:Shared) (σ:St) (H:Hp) (D:Ends) (Ex:XK),Inv X pins σ H s→t Ex D σ H→wpAny (model X.prog X.w) X.A (execs st X.env) (SP X pins D) (XP X pins σ Ex) s
section
variable{X:Cx}{k:Nat}{f:Addr}{fd:FuncData}{ps:List Str}{sp:Sp}{dvs:List V}{ds:List Value}{x:Str}{p pos:Pos}{e:Expr}{es:List Expr}{t:TA}
theorem Zjc{pins:List (Addr×Obj)}{σ:St}{H:Hp}{s:Shared}{Q:VK}{Ex:XK}{us:List Value}{vs:List V}(F:FnOk X.prog X.w X.K X.mg X.base (V8 X.prog X.w) k f fd ps sp)(hr:Room k X.A)(hb:Binds X.K fd ps ds)(hd:Vals dvs ds)
  (I:Inv X pins σ H s) (r:Vals vs us) (h:sp (vs++dvs) H Q Ex):wpAny (model X.prog X.w) X.A (call (.ref f) us) (EP X pins σ Q) (XP X pins σ Ex) s:=by
 have r2:Vals (vs++dvs) (us++ds):=r.append hd;have hl:(us++ds).length=ps.length:=by rw[← r2.length];exact F.len _ _ _ _ h
 refine wpAny_call (codeAny_mono (F.run X.A X.stack s H ⟨us,[]⟩ (us++ds) (vs++dvs) Q Ex hr I.env0 (hb s us I.kIn hl) r2 h) fun r s' hq=>?_);cases r with
 | error e=>
  obtain⟨ea,cls,od,H',B,rfl,os,bare,un,hok,F,inB,hE⟩:=hq;exact⟨ea,cls,od,H',B,rfl,I.call' os un hok bare fun b z=>absurd z (by simp),F,I.held inB,hE⟩
 | ok fl=>
  cases fl with
  | ret u=>exact I.after hq
  | next=>exact False.elim hq
  | brk=>exact False.elim hq
  | cont=>exact False.elim hq
end
theorem FlyC.looks{M:Model}{base h:Heap}{l:List Env}{e:Addr}{cls ctx fl:Value}{od:Option Addr}(x:FlyC base l e cls od ctx fl h):W.Looks M h (typeOf (.ref e)) cls:=by
 obtain⟨oe,vs,_,_,_,⟨ho,hc,_⟩,_⟩:=x.rcd;exact hc.1 ▸ (W.Looks.ld ho).andThen .now
end L2
namespace L2
open PySem PySem.Spec PyProof.Rows Builtin Builtin.ObjectAttr Builtin.Getset_descriptor
structure ExcF(K:W.Frag)(C:Addr):Prop where
 cl:(W.clsIn K C).isSome=true
 ga:W.findIn K (.ref C) "__getattribute__" = some (some (.builtin "BaseException.__getattribute__"))
 hk:W.findIn K (.ref C) "__getattr__" = some none
 cs:W.findIn K (.ref C) "__class__" = some (some (.builtin "object.__class__"))
 gt:W.specialIn K (.builtin "object.__class__") "__get__" = some (some (.builtin "getset_descriptor.__get__"))
 tk:W.takesIn K (.builtin "object.__class__")=some true
 mo:W.mroIn K C (.type "object")=some true
 mb:W.mroIn K C (.type "BaseException")=some true
def Tz(a C:Addr)(h:Heap):Prop:=∃ o,h.get? a=some o∧o.cls = .ref C
theorem Qz{a C:Addr}{M:Model}{h:Heap}(p:Tz a C h):W.Looks M h (typeOf (.ref a)) (.ref C):=by
 obtain⟨o,h1,h2⟩:=p;exact h2 ▸ (W.Looks.ld h1).andThen .now
section
variable{prog:Program}{w:World}{A:Around}{E:Value→Shared→Prop}{K:W.Frag}{a C:Addr}
theorem Zd8{s:Shared}{tp:Value}{R:Result→Shared→Prop}(F:ExcF K C)(X:K.In s.heap)(p:Tz a C s.heap)(h:R (.ok (.ret (.ref C))) s) :
  codeAny (model prog w) A (.call (.builtin "getset_descriptor.__get__") ⟨[.builtin "object.__class__",.ref a,tp],[]⟩) R s:=by
 obtain⟨hh,g,dr,t,os⟩:=s;have L0:=Qz (M:=model prog w) p;have L1:=W.looks_mroIn (M:=model prog w) X F.mo;refine codeAny_call_builtin W.KF.slot_gs.plain W.KF.entry_gs (W.KF.slot_gs.check _ _ _ _ _ _ _ _ W.KF.type_class (W.KF.args_gs _ _ _) ?_);unfold Builtin.«getset_descriptor.__get__»;unfold descrGet;rw[W.dga_obj];refine Zc (wpAny_pure ?_);unfold descrGetter descrCheckInstance;unfold descrNameAndClass isInstance;simp only[W.KF.owner_class]
 repeat lk
 refine⟨Code.quiet_builtin _ (by decide +kernel),codeAny_builtin W.KF.entry_class ?_⟩;unfold Builtin.«object.__class__»;unfold shownTypeOf
 repeat lk
 exact h
theorem Zaw{M:Model}{h:Heap}(F:ExcF K C)(X:K.In h):W.Looks M h (Builtin.ObjectAttr.find (.ref a) (.ref C) "__class__") (.bind (.builtin "getset_descriptor.__get__") (.builtin "object.__class__")):=by
 have L1:=W.looks_findIn (M:=M) X F.cs;have L2:=W.looks_specialIn (M:=M) X F.gt;have L3:=W.looks_takesIn (M:=M) X F.tk;have L4:W.Looks M h (Builtin.ObjectAttr.dataDescriptor? (some (.builtin "object.__class__")) (some (.builtin "getset_descriptor.__get__"))) (some (.builtin "getset_descriptor.__get__",.builtin "object.__class__")):=L3.andThen .now;exact L1.andThen (L2.andThen (L4.andThen (W.Looks.tag .now)))
theorem Rk{M:Model}{s:Shared}{nameV:Value}{Q:Unit→Shared→Prop}(F:ExcF K C)(X:K.In s.heap)(p:Tz a C s.heap)(hq:Q () s):wpAny M A (checkBuiltinCall "BaseException.__getattribute__" ⟨[.ref a,nameV],[]⟩) Q E s:=by
 have hk:builtinKind "BaseException.__getattribute__" = some .slot:=by decide +kernel
 have hsplit:splitId "BaseException.__getattribute__" = some ("BaseException","__getattribute__"):=by decide +kernel
 have ha:=PySem.F.args_bexc_ga (.ref a) nameV;have LI:W.Looks M s.heap (isInstance (.ref a) (.type "BaseException")) true:=(Qz p).andThen (W.looks_mroIn X F.mb);simp only[checkBuiltinCall,hk,hsplit];refine Zc (LI.here ?_);obtain⟨hh,g,d,t,os⟩:=s
 repeat (first | assumption | wp_step)
theorem Kn{s:Shared}{tk:Tok}{Q:Fin→Shared→Prop}(F:ExcF K C)(X:K.In s.heap)(p:Tz a C s.heap)(hq:Q (.done (.ret (.ref C))) s) :
  wpAny (model prog w) A (Builtin.«object.__getattribute__» ⟨[.ref a,.str "__class__" tk],[]⟩) Q E s:=by
 obtain⟨hh,g,d,t,os⟩:=s;have L0:=Qz (M:=model prog w) p;have L1:=Zaw (a:=a) (M:=model prog w) F X;unfold Builtin.«object.__getattribute__»
 repeat (first | (with_reducible refine wpAny_call (Zd8 F X p ?_)) | lk | wp_step)
 exact hq
theorem Ko{s:Shared}{Q:Option Value→Shared→Prop}(F:ExcF K C)(X:K.In s.heap)(p:Tz a C s.heap)(h:Q (some (.ref C)) { s with toks:=s.toks+1 }):wpAny (model prog w) A (getAttr? (.ref a) "__class__") Q E s:=by
 obtain⟨hh,g,d,t,os⟩:=s;have L0:=Qz (M:=model prog w) p;have L1:=W.looks_findIn (M:=model prog w) X F.ga;have L2:=W.looks_findIn (M:=model prog w) X F.hk;have hb:bindSpecial (.builtin "BaseException.__getattribute__") (.ref a)=pure (.builtin "BaseException.__getattribute__",[.ref a]):=PySem.F.excAttr_ValueError.ga.bind (.ref a);unfold getAttr? getAttrBy? getAttrBy;refine Zc (wpAny_mkText (Zc (wpAny_attempt (wpAny_holding (Zc (L0.at (Zc (L1.at ?_))))))));show wpAny _ _ (getAttrByItsOwn (.ref a) _ (.ref C) (.builtin "BaseException.__getattribute__") false false) _ _ _;unfold getAttrByItsOwn hookBefore;refine Zc ?_;rw[if_pos (show onTheHeap (Value.ref C)=true from rfl)];refine L2.at ?_;refine Zc (wpAny_attempt (wpAny_holding ?_));show wpAny _ _ (boundAndCalled (.builtin "BaseException.__getattribute__") (.ref a) _) _ _ _;unfold boundAndCalled;rw[hb];refine Zc (wpAny_pure ?_);refine wpAny_call (codeAny_call_builtin PySem.F.excAttr_ValueError.ga.plain PySem.F.entry_bexc_ga (Rk F X p (Kn F X p ?_)));show wpAny (model prog w) A (handedOut (.ref C)) _ _ _;exact W.handed_on rfl (wpAny_pure h)
theorem Kf(F:ExcF K C):W.KitX K (.ref a) (.ref C) (Tz a C) where
 ty:=fun M h _ p=>Qz p
 it:=fun M h X _=>by
  have z:=F.cl;unfold W.clsIn at z;split at z
  ·rename_i c1 d1 cd1 sl1 ho
   intro A1 Q1 E1 s1 k1 q1;unfold isType loadHead;exact Zc (wpAny_loadPart (k1 _ _ (X _ _ ho)) (wpAny_pure q1))
  ·cases z
 ne:=fun h tp dd its n sl X htp=>by
  refine Bool.eq_false_iff.mpr fun q=>?_;have e:C=tp:=Value.ref.inj (beq_iff_eq.mp q);subst e;have z:=F.cl;unfold W.clsIn at z;split at z
  ·rename_i c1 d1 cd1 sl1 ho
   have y:=(X _ _ ho).symm.trans htp;cases y
  ·cases z
 ca:=fun X p k=>Ko F X p k
end
def isC:V→Bool | .ref _=>true | .ty _=>true | _=>false
def toC:V→Value | .ref D=>.ref D | .ty n=>.type n | _=>.none
theorem Ze3{c:V}{u:Value}(h:isC c=true)(r:RelV c u):u=toC c:=by
 cases c with
 | ref D=>exact r
 | ty n=>exact r
 | _=>cases h
end L2
namespace L2
open PySem PySem.Spec PyProof.Rows
section
variable{X:Cx}{pos:Pos}
theorem Op:MtR X "str.find" (fun x xs H Q=>∃ i j,x = .str i∧xs=[.str j]∧Q (.int (Txt.find i j)) H):=by
 intro pins s σ H x xs v us Q I rx rv h;obtain⟨i,j,rfl,rfl,q⟩:=h;obtain⟨t,rfl⟩:=rx;obtain⟨u,rfl,ru⟩:=rv.one;obtain⟨t',rfl⟩:=ru;exact SC.find ⟨.int _,H,I.tok _,⟨_,rfl⟩,q⟩
theorem Gw{P:Program}{w:World}:Qm (V8 P w) X E0:=fun _ _ _ _ _ _ _ h=>by
 obtain⟨_,_,_,_,_,_,_,_,_,_,_,_,z⟩:=h;exact z.elim
end
def vS(ys:List Str):List V:=ys.map V.str
theorem Db(ys:List Str):(vS ys).length=ys.length:=Zi _
theorem V9:∀ l:List (Str×Tok),Vals (vS (l.map (·.1))) (strValues l)
 | []=>.nil
 | (x,t) :: r=>.cons ⟨t,rfl⟩ (V9 r)
theorem Zcp(tk:Nat)(xs:List Str):Vals (vS xs) (strsFrom tk xs):=by
 rw[strsFrom_eq];have:=V9 (numbered tk xs)
 rwa [numbered_texts] at this
theorem Nt:∀{ys:List Str} {us:List Value},Vals (vS ys) us→StrsAre us ys
 | [],_,.nil=>.nil
 | y :: r,_,.cons h t=>by
  obtain⟨tk,rfl⟩:=h;exact .cons _ _ (Nt t)
section
variable{X:Cx}
theorem Zb3:MtR X "str.join" (fun x xs H Q=>∃ sep a ys,x = .str sep∧xs=[.ref a]∧SqL X.K H a (vS ys)∧(ys.map (·.length)).sum+ys.length * sep.length≤16777216∧Q (.str (Txt.join sep ys)) H):=by
 intro pins s σ H x xs v us Q I rx rv h;obtain⟨sep,a,ys,rfl,rfl,hS,hok,q⟩:=h;obtain⟨t,rfl⟩:=rx;obtain⟨u,rfl,ru⟩:=rv.one;cases ru;obtain⟨its,r,pl,hz⟩:=I.list hS;exact join_list (Qu pl) (by simpa using Nt r) hok fun t' k=>⟨.str _,H,I.tok k,⟨_,rfl⟩,q⟩
theorem Zhd:MtR X "str.split" (fun x xs H Q=>∃ i j,x = .str i∧xs=[.str j]∧(j.length == 0)=false∧i.length≤10000∧∀ l,H l=none→Q (.ref l) (upd H l (.lst (vS (Txt.split i j))))):=by
 intro pins s σ H x xs v us Q I rx rv h;obtain⟨i,j,rfl,rfl,hj,hi,q⟩:=h;obtain⟨t,rfl⟩:=rx;obtain⟨u,rfl,ru⟩:=rv.one;obtain⟨t',rfl⟩:=ru;have sl:=sizeLine_eq;have hsz:i.length≤sizeLine:=by omega
 have same:Txt.split i j=[i]→(∀ h' tk,h'=s.heap.push { cls:=.type "list",data:=.seq ([.str i t]:List Value).toArray }→EP X pins σ Q (.ref s.heap.objs.size) { s with heap:=h',toks:=tk }):=fun e h' tk eh=>by
  subst eh;refine⟨.ref s.heap.objs.size,_,I.lnew (t':=tk) (ys:=vS (Txt.split i j)) (its:=[.str i t]) ?_ ?_,rfl,q _ I.fresh⟩
  ·rw[e]
   exact .cons ⟨t,rfl⟩ .nil
  ·rw[e]
   show 1≤sizeLine;omega
 by_cases h1:(decide (i.length < j.length) || decide (Builtin.Str.strKind i < Builtin.Str.strKind j))=true
 ·refine call_meets F.slot_str_split (typeIs_str _ _ _) F.entry_str_split (F.args_str_split_2 _ _) (meets_str_split_cannot_occur i j t t' h1) ?_
  exact same (if_pos h1) _ s.toks rfl
 ·have h1':=Bool.eq_false_iff.mpr h1
  by_cases hf:(Builtin.Str.occurrences i j 0 i.length (i.length+1)).isEmpty=true
  ·refine call_meets F.slot_str_split (typeIs_str _ _ _) F.entry_str_split (F.args_str_split_2 _ _) (meets_str_split_not_found i j t t' h1' hj hf) ?_
   exact same ((if_neg h1).trans (if_pos hf)) _ s.toks rfl
  ·have hf':=Bool.eq_false_iff.mpr hf
   have hp:Txt.split i j=Builtin.Str.partsBetween i (Builtin.Str.occurrences i j 0 i.length (i.length+1)) j.length:=(if_neg h1).trans (if_neg hf);have hn:(Builtin.Str.partsBetween i (Builtin.Str.occurrences i j 0 i.length (i.length+1)) j.length).length≤sizeLine:=by
    rw[len_partsBetween];have:=StrLaws.occ_length_le i j 0 i.length (i.length+1);omega
   refine call_meets F.slot_str_split (typeIs_str _ _ _) F.entry_str_split (F.args_str_split_2 _ _) (meets_str_split_sep i j t t' h1' hj hf' hsz hn) ?_;refine⟨.ref s.heap.objs.size,_,I.lnew (ys:=vS (Txt.split i j)) (its:=strsFrom s.toks (Builtin.Str.partsBetween i (Builtin.Str.occurrences i j 0 i.length (i.length+1)) j.length)) ?_ ?_,rfl,q _ I.fresh⟩
   ·rw[hp]
    exact Zcp _ _
   ·rw[Db,hp]
    exact hn
def Zpq:V→Option Int→Option Int→Hp→VK→Prop:=fun x lo hi H Q=>∃ z,x = .str z∧z.length≤10000∧Q (.str (Txt.slice z lo hi)) H
theorem Mt{v:Value}{o:Option Int}(p:IsPart v o):∃ l:Option (Int×Tok),partValue l=v∧l.map (·.1)=o:=by
 cases p with
 | none=>exact⟨none,rfl,rfl⟩
 | int i t=>exact⟨some (i,t),rfl,rfl⟩
theorem Zl2:SlR X Zpq:=by
 intro pins s σ H x v vl vu lo hi sl Q I rx hs pl pu h;obtain⟨z,rfl,hz,q⟩:=h;obtain⟨t,rfl⟩:=rx;obtain⟨l,rfl,el⟩:=Mt pl;obtain⟨u,rfl,eu⟩:=Mt pu;refine⟨"str",_,F.slot_str_getitem.lookup,typeIs_str _ _ _,?_⟩;refine wpAny_getItem_str_slice (l:=l) (u:=u) (st:=none) hs rfl (post_val_or_str ⟨?_,fun t' k=>?_⟩)
 ·have e:=Txt.slice_le z lo hi
  rw[← el,← eu] at e;have sl':=sizeLine_eq;refine Nat.le_trans e ?_;omega
 ·refine⟨.str _,H,I.tok k,⟨_,rfl⟩,?_⟩
  rw[← el,← eu] at q;exact q
def Its(x:Str):It:=⟨fun i _=>i < x.cps.size,fun i H v H'=>H'=H∧∃ c,x.cps[i]? = some c∧v = .str ⟨#[c]⟩,fun i _=>x.cps.size≤i⟩
theorem Zcr{P:Program}{w:World}{K:W.Frag}{tg:Expr}(x:Str)(t:Tok)(it:Addr):Turn P w K tg (Its x) [it] it (fun i h=>h.IsStrIter it "str_ascii_iterator" x t i) where
 mem:=by simp
 obj:=fun i h st b hb=>by
  have e:b=it:=by simpa using hb
  subst e;obtain⟨o,e,c,d⟩:=st;exact⟨o,e,fun v z=>by rw[d] at z;cases z⟩
 keep:=fun i h h' st k=>by
  obtain⟨o,e,r⟩:=st;exact⟨o,k it (by simp) o e,r⟩
 item:=by
  intro X hP hw hK hc i pins s σ H E I hf st hg;subst hP hw hK;have hi:i < x.cps.size:=hg;obtain⟨f0,f1,f2,f3,f4,f5⟩:=hf it (by simp);refine wpAny_pyNext_ascii_item st (c:=x.cps[i]) (by simp [hi]) fun h' st' sb=>?_;have I1:Inv X pins σ H { s with heap:=h',toks:=s.toks+1 }:=I.turned (t':=s.toks+1) (fun b o hb e=>(sb.2 b hb).trans e) f0 f1 f3 f4 f5;obtain⟨o,e,c,d⟩:=id st';exact⟨_,rfl,Ki (s:={ s with heap:=h',toks:=s.toks+1 }) e c d (by decide) ⟨.str _,H,I1,⟨_,rfl⟩,⟨rfl,x.cps[i],by simp [hi],rfl⟩,st',fun b hb=>(hf b hb).1⟩⟩
 done:=by
  intro X hP hw hK hc i pins s σ H E I hf st hg;subst hP hw hK;have hi:x.cps.size≤i:=hg;obtain⟨f0,f1,f2,f3,f4,f5⟩:=hf it (by simp);exact wpAny_pyNext_ascii_end (I.ok.hd hc) st (by simp [hi]) fun h' eb=>⟨rfl,I.turned (t':=s.toks) (fun b o hb e=>eb b o hb e) f0 f1 f3 f4 f5⟩
 self:=fun _ _ _ _ _ st h=>wpAny_pyIter_striter_ascii st h
theorem Zcq{P:Program}{w:World}{K:W.Frag}{tg:Expr}(x:Str)(t:Tok)(it:Addr):Turn P w K tg (Its x) [it] it (fun i h=>h.IsStrIter it "str_iterator" x t i) where
 mem:=by simp
 obj:=fun i h st b hb=>by
  have e:b=it:=by simpa using hb
  subst e;obtain⟨o,e,c,d⟩:=st;exact⟨o,e,fun v z=>by rw[d] at z;cases z⟩
 keep:=fun i h h' st k=>by
  obtain⟨o,e,r⟩:=st;exact⟨o,k it (by simp) o e,r⟩
 item:=by
  intro X hP hw hK hc i pins s σ H E I hf st hg;subst hP hw hK;have hi:i < x.cps.size:=hg;obtain⟨f0,f1,f2,f3,f4,f5⟩:=hf it (by simp);refine wpAny_pyNext_wide_item st (c:=x.cps[i]) (by simp [hi]) fun h' st' sb=>?_;have I1:Inv X pins σ H { s with heap:=h',toks:=s.toks+1 }:=I.turned (t':=s.toks+1) (fun b o hb e=>(sb.2 b hb).trans e) f0 f1 f3 f4 f5;obtain⟨o,e,c,d⟩:=id st';exact⟨_,rfl,Ki (s:={ s with heap:=h',toks:=s.toks+1 }) e c d (by decide) ⟨.str _,H,I1,⟨_,rfl⟩,⟨rfl,x.cps[i],by simp [hi],rfl⟩,st',fun b hb=>(hf b hb).1⟩⟩
 done:=by
  intro X hP hw hK hc i pins s σ H E I hf st hg;subst hP hw hK;have hi:x.cps.size≤i:=hg;obtain⟨f0,f1,f2,f3,f4,f5⟩:=hf it (by simp);exact wpAny_pyNext_wide_end (I.ok.hd hc) st (by simp [hi]) fun h' eb=>⟨rfl,I.turned (t':=s.toks) (fun b o hb e=>eb b o hb e) f0 f1 f3 f4 f5⟩
 self:=fun _ _ _ _ _ st h=>wpAny_pyIter_striter_wide st h
def Zp7(tl:TE):TI:=fun σ H R=>tl σ H fun x H1=>∃ z,x = .str z∧R (Its z) H1
theorem Zmc{tg l:Expr}{tl:TE}(hl:PE X l tl):PI X tg l (Zp7 tl):=by
 intro pins s σ H R I h;refine Y5 (hl pins s σ H _ I h) fun v s1 ⟨x,H1,I1,r1,q1⟩=>?_;obtain⟨z,rfl,q⟩:=q1;obtain⟨t,rfl⟩:=r1;have fp:∀ b∈[s1.heap.objs.size],Ba X pins H1 b:=fun b hb=>by
  have e:b=s1.heap.objs.size:=by simpa using hb
  subst e;exact I1.fpOk (Nat.le_refl _) (I1.hok.fresh (Nat.le_refl _))
 cases ha:z.cps.all (· < 128)
 ·exact wpAny_pyIter_wide ha ⟨s1.heap.objs.size,[s1.heap.objs.size],_,_,H1,rfl,I1.kept (t':=s1.toks) fun b o e=>Ze _ e,Zcq z t _,⟨_,Heap.get?_push_size _ rfl,rfl,rfl⟩,fp,q⟩
 ·exact wpAny_pyIter_ascii ha ⟨s1.heap.objs.size,[s1.heap.objs.size],_,_,H1,rfl,I1.kept (t':=s1.toks) fun b o e=>Ze _ e,Zcr z t _,⟨_,Heap.get?_push_size _ rfl,rfl,rfl⟩,fp,q⟩
end
section
variable{prog:Program}{w:World}
end
section
variable{X:Cx}{pins:List (Addr×Obj)}{σ:St}{H:Hp}{s:Shared}{x:Str}{np cp cp2 cpos rpos:Pos}{msg:Str}{j j2:Nat}{C e1:Addr}
end
section
variable{P:Program}{w:World}{A:Around}{E:Value→Shared→Prop}{s:Shared}{kd:SortKind}{a0:Array Keyed}
def Cmp(P:Program)(w:World)(A:Around)(s:Shared)(kd:SortKind)(ks:List Value):Prop:=
 ∀ x∈ks,∀ y∈ks,∀(E:Value→Shared→Prop) (Q:Bool→Shared→Prop),(∀ b,Q b s)→wpAny (model P w) A (keyLt' kd x y) Q E s
structure SB(kd:SortKind)(a0:Array Keyed)(st:SortSt):Prop where
 pm:(arrOf st).Perm a0
 kn:kindOf st=kd
 fl:failedOf st=none
 pn:pendingOf st = #[]
variable(hC:Cmp P w A s kd (a0.toList.map (·.1)))
include hC
end
section
variable{P:Program}{w:World}{A:Around}{E:Value→Shared→Prop}{s:Shared}{kd:SortKind}
end
section
variable{P:Program}{w:World}{A:Around}{E:Value→Shared→Prop}{s:Shared}
end
section
variable{X:Cx}
theorem Zif(hc:X.calm=true):U8 X (.builtin "sum") (fun xs H Q=>∃(a:Addr) (ns:List Int),xs=[.ref a]∧SqL X.K H a (ns.map V.int)∧Q (.int ns.sum) H):=by
 intro pins s σ H xs us Q I r h;obtain⟨a,ns,rfl,hS,q⟩:=h;obtain⟨u,rfl,ru⟩:=Xc r;cases ru;obtain⟨its,vi,pl,hz⟩:=I.list hS;have hi:=U7 vi;obtain⟨xs,hx⟩:=hi.allInts.items;have hl:s.heap.IsList a (intItems xs):=hx ▸ Qu pl;refine sum_intListG (I.ok.hd hc) hl fun h' tk t' hk=>?_;have e1:ns=xs.toList.map (·.1):=by
  rw[← nums_intItems,← hx];exact hi.numsOf.symm
 have e2:preSum (numAt xs) xs.size=ns.sum:=by
  rw[e1,preSum_eq,List.take_of_length_le (by simp)]
 rw[e2];exact⟨.int ns.sum,H,I.kept hk,⟨_,rfl⟩,q⟩
theorem Zhe:MtR X "list.count" (fun x xs H Q=>∃(a:Addr) (k:Int) (ns:List Int),x = .ref a∧xs=[.int k]∧SqL X.K H a (ns.map V.int)∧Q (.int (ns.count k:Nat)) H):=by
 intro pins s σ H x xs v us Q I rx rv h;obtain⟨a,k,ns,rfl,rfl,hS,q⟩:=h;cases rx;obtain⟨u,rfl,t,rfl⟩:=Xc rv;obtain⟨its,vi,pl,hz⟩:=I.list hS;exact count_list_ints (Qu pl) (U7 vi) ⟨.int (ns.count k:Nat),H,I.tok _,⟨_,rfl⟩,q⟩
theorem Zf4{e:Expr}{te:XK→TE}{pos:Pos}(he:PEX X e te)(hs:swapsWith e none pos.line X.env=pure false:=by rfl):PSX X [.Expr e pos] (fun Ex=>Zk9 (te Ex)):=by
 intro pins s σ H D Ex I h;exact wpAny_execs_cons (wpAny_Expr_any (Y5 (he pins s σ H _ Ex I h) fun v s1 ⟨x,H1,I1,r1,q1⟩=>wpAny_execs_nil ⟨σ,H1,I1,q1⟩) I.quiet hs)
end
section
open PySem.SeqAt
open PySem.AutoSeq1 (wpAny_loadPart')
open PySem.MeetsSeq PySem.MeetsSeq2 PySem.MeetsSeq3
end
section
variable{X:Cx}
end
section
variable{X:Cx}{pins:List (Addr×Obj)}{σ:St}{H:Hp}{s:Shared}
end
section
variable{X:Cx}
theorem Zek(hc:X.calm=true):U8 X (.builtin "max") (fun xs H Q=>∃(a:Addr) (ns:List Int),xs=[.ref a]∧SqL X.K H a (ns.map V.int)∧0 < ns.length∧∀ M,M∈ns→(∀ k∈ns,k≤M)→Q (.int M) H):=by
 intro pins s σ H xs us Q I r h;obtain⟨a,ns,rfl,hS,hn,q⟩:=h;obtain⟨u,rfl,ru⟩:=Xc r;cases ru;obtain⟨its,vi,pl,hz⟩:=I.list hS;have hi:=U7 vi;obtain⟨xs,hx⟩:=hi.allInts.items;have hl:s.heap.IsList a (intItems xs):=hx ▸ Qu pl;have hns:ns=xs.toList.map (·.1):=by
  rw[← nums_intItems,← hx];exact hi.numsOf.symm
 have hsz:0 < xs.size:=by
  rw[hns,Zi,Array.length_toList] at hn;exact hn
 refine max_intList (I.ok.hd hc) hl hsz fun v h' tk hv hk=>?_;obtain⟨t,rfl⟩:=intItems_at hv;obtain⟨g1,g2⟩:=argBest_gt (numAt xs) (xs.size - 1);refine⟨.int _,H,I.kept hk,⟨_,rfl⟩,q _ ?_ fun k hk'=>?_⟩
 ·rw[hns,numAt_eq]
  exact getD_mem (by rw[Zi,Array.length_toList];omega)
 ·rw[hns] at hk'
  obtain⟨j,hj,rfl⟩:=mem_getD hk';rw[Zi,Array.length_toList] at hj;rw[← numAt_eq];exact g2 j (by omega)
theorem Bt:MtR X "list.index" (fun x xs H Q=>∃(a:Addr) (k:Int) (ns:List Int) (j:Nat),x = .ref a∧xs=[.int k]∧SqL X.K H a (ns.map V.int)∧ns.length≤1000∧ns[j]? = some k∧(∀ m < j,ns[m]?≠some k)∧Q (.int (j:Nat)) H):=by
 intro pins s σ H x xs v us Q I rx rv h;obtain⟨a,k,ns,j,rfl,rfl,hS,hl,hj,hno,q⟩:=h;cases rx;obtain⟨u,rfl,t,rfl⟩:=Xc rv;obtain⟨its,vi,pl,hz⟩:=I.list hS;have hi:=U7 vi;obtain⟨⟨cls,dd,data,sl⟩,ho,hc,n,hd⟩:=Qu pl;simp only at hc hd;subst hc hd;have len:its.length=ns.length:=hi.length;have at_:∀ m (hm:m < its.toArray.size),isInt k its.toArray[m]=decide (ns[m]? = some k):=fun m hm=>by
  have hm':m < ns.length:=by rw[← len];simpa using hm
  obtain⟨t0,e0⟩:=PyProof.Rows.IntsAre.get hi m ns[m] (Zb hm');have e1:its.toArray[m] = .int ns[m] t0:=by
   have hm2:m < its.length:=by simpa using hm
   have e2:its[m]? = some its[m]:=Zb hm2;have e3:its[m] = .int ns[m] t0:=by
    rw[e0] at e2;exact(Zn e2).symm
   simpa using e3
  rw[e1,Zb hm'];show(_ == _)=_;by_cases c:ns[m]=k
  ·rw[c]
   simp
  ·have c2:¬ k=ns[m]:=fun z=>c z.symm
   simp [c,c2]
 have jl:j < its.toArray.size:=by
  have:=(Zt.mp hj).1;simp [len,this]
 refine call_meets PySem.F.slot_list_index ⟨_,ho,rfl⟩ PySem.F.entry_list_index (PySem.F.args_list_index_2 _ _) (PySem.SeqAt.list_indexAt a its.toArray n dd sl (.int k t) (isInt k) j jl ?_ ?_ ?_) ⟨ho,fun y hy=>(eq_isInt k t hi y (by simpa using hy)).at _ _,⟨.int (j:Nat),H,I.tok _,⟨_,rfl⟩,q⟩⟩
 ·have:ns.length≤1000:=hl
  have:=(Zt.mp hj).1;omega
 ·rw[at_ j jl,hj]
  exact Zf rfl
 ·intro m hm hmj
  rw[at_ m hm];exact Zd (hno m hmj)
end
theorem Zf1(A:Around)(s:Shared)(a:Int)(t:Tok)(c:Int)(u:Tok)(prog:Program)(w:World)(E:Value→Shared→Prop)(Q:Value→Shared→Prop)(h:Q (.bool (decide (c < a))) s) :
  wpAny (model prog w) A (richCompare .Gt (.int a t) (.int c u)) Q E s:=
 (PyProof.Rows.gt_int h:wpAny (model prog w) A (compareOp .Gt (.int a t) (.int c u)) Q E s)
section
open PySem.SeqAt
open PySem.AutoSeq1 (wpAny_loadPart')
open PySem.MeetsSeq PySem.MeetsSeq2 PySem.MeetsSeq3
theorem Np(l b:Addr)(items items2:Array Value)(n n2:Nat)(dd dd2:Option Addr)(sl sl2:Array (Option Value))(ns ms:List Int)(hi:IntsAre items.toList ns)(hj:IntsAre items2.toList ms) :
  Meets (Builtin.«tuple.__gt__» ⟨[.ref l,.ref b],[]⟩)
   (fun _ R s=>s.heap.get? l=some { cls:=.type "tuple",dict:=dd,data:=.seq items n,slots:=sl }∧s.heap.get? b=some { cls:=.type "tuple",dict:=dd2,data:=.seq items2 n2,slots:=sl2 } ∧
    R (.ok (.ret (.bool (HT.lexLt ms ns)))) s):=
 .of_wp fun prog w A R s h=>by
  obtain⟨hp,g,d,tk,os⟩:=s;obtain⟨hl,hb,h⟩:=h;have f2:=AutoSeq1.sub_tuple_tuple;have z1:items.size=ns.length:=by rw[← hi.length];simp
  have z2:items2.size=ms.length:=by rw[← hj.length];simp
  wp_walk using wpAny_loadPart' hl,wpAny_loadPart' hb,wpAny_forIn_list _ (fun rest b s'=>b.1=none∧s'=⟨hp,g,d,tk,os⟩∧∃(vs ws:List Value) (ns' ms':List Int),rest=vs.zip ws ∧
   IntsAre vs ns'∧IntsAre ws ms'∧ns'.length+items2.size=ms'.length+items.size∧R (.ok (.ret (.bool (HT.lexLt ms' ns')))) ⟨hp,g,d,tk,os⟩) _
  case turn=>
   rintro⟨y,x⟩ rest b s' ⟨hb',rfl,vs,ws,ns',ms',hz,hvi,hwi,hlen,hR⟩;cases hvi with
   | nil=>rw[List.zip_nil_left] at hz;cases hz
   | cons a t hvi'=>
    cases hwi with
    | nil=>rw[List.zip_nil_right] at hz;cases hz
    | cons c u hwi'=>
     rw[List.zip_cons_cons] at hz;injection hz with hyx hrest
     injection hyx with hy hx
     subst hy hx;rw[HT.lexLt_cons] at hR;simp only[Jk] at hlen;obtain⟨e,he,hiff⟩:=HT.eqAt_int A.in1 ⟨hp,g,d,tk,os⟩ a t c u;refine Zc (he prog w _ _ ?_);cases e with
     | true=>
      rw[if_pos (hiff.mp rfl).symm] at hR
      wp_walk
      exact⟨rfl,rfl,_,_,_,_,hrest,hvi',hwi',by omega,hR⟩
     | false=>
      rw[if_neg (fun q=>absurd (hiff.mpr q.symm) Zz)] at hR;have hri:=Zf1 A.in1 ⟨hp,g,d,tk,os⟩ a t c u prog w
      wp_walk using hri
      exact⟨_,rfl,by simpa using hR⟩
  case fin=>
   rintro⟨b1,b2⟩ s' ⟨hb',rfl,vs,ws,ns',ms',hz,hvi,hwi,hlen,hR⟩;simp only at hb';subst hb';have hv:HT.lexLt ms' ns'=decide (items2.size < items.size):=by
    cases hvi with
    | nil=>
     cases hwi with
     | nil=>
      simp only[List.length_nil] at hlen;rw[HT.lexLt_nil_nil];exact(Zd (by omega)).symm
     | cons c u hw=>
      simp only[List.length_nil,Jk] at hlen;rw[HT.lexLt_cons_nil];exact(Zd (by omega)).symm
    | cons a t hv=>
     cases hwi with
     | nil=>
      simp only[List.length_nil,Jk] at hlen;rw[HT.lexLt_nil_cons];exact(Zf (by omega)).symm
     | cons c u hw=>
      rw[List.zip_cons_cons] at hz;cases hz
   rw[hv] at hR
   wp_walk
   exact⟨_,rfl,by simpa [Builtin.Tuple.tupleCompareSizes] using hR⟩
  case h=>
   exact⟨rfl,rfl,items.toList,items2.toList,ns,ms,rfl,hi,hj,by omega,h⟩
end
section
variable{X:Cx}
theorem Zml(hu:X.A.units+64 < cLine):No X (compareOp .Gt) (fun x y H Q=>∃(a b:Addr) (ns ms:List Int),x = .ref a∧y = .ref b∧SqT X.K H a (ns.map V.int)∧SqT X.K H b (ms.map V.int)∧Q (.bl (HT.lexLt ms ns)) H):=by
 intro pins s σ H x y v u Q I rx ry h;obtain⟨a,b,ns,ms,rfl,rfl,ha,hb,q⟩:=h;cases rx;cases ry;obtain⟨its,r1,p1,_⟩:=I.tuple ha;obtain⟨its2,r2,p2,_⟩:=I.tuple hb;have i1:IntsAre its.toArray.toList ns:=U7 r1;have i2:IntsAre its2.toArray.toList ms:=U7 r2;obtain⟨⟨cls,dd,data,sl⟩,ho,hc,n,hd⟩:=id p1;obtain⟨⟨cls2,dd2,data2,sl2⟩,ho2,hc2,n2,hd2⟩:=id p2;simp only at hc hd hc2 hd2;subst hc hd hc2 hd2;exact richCompare_meets_room (op:=.Gt) ⟨_,ho,rfl⟩ ⟨_,ho2,rfl⟩ PySem.F.slot_tuple_gt PySem.F.entry_tuple_gt (PySem.F.args_tuple_gt_2 _ _) (Np a b its.toArray its2.toArray n n2 dd dd2 sl sl2 ns ms i1 i2)
  ⟨ho,ho2,(fun z=>nomatch z),.bl (HT.lexLt ms ns),H,I,rfl,q⟩ (by omega)
def B6:List V→List V→Bool
 | [],[]=>true
 | x :: xs,y :: ys=>T0 x y && B6 xs ys
 | _,_=>false
theorem B5:∀(xs ys:List V),((List.range (min xs.length ys.length)).all (fun j=>T0 (xs.getD j .non) (ys.getD j .non)) && xs.length == ys.length)=B6 xs ys
 | [],[]=>rfl
 | [],_ :: _=>rfl
 | _ :: _,[]=>rfl
 | x :: xs,y :: ys=>by
  have e:min (x :: xs).length (y :: ys).length=min xs.length ys.length+1:=by simp only[Jk];omega
  rw[e,List.range_succ_eq_map,List.all_cons,List.all_map];show _=(T0 x y && B6 xs ys);rw[← B5 xs ys,Bool.and_assoc];have e2:((x :: xs).length == (y :: ys).length)=(xs.length == ys.length):=by simp
  rw[e2];rfl
theorem Xf{xs:List V}{us:List Value}(r:Vals xs us)(f:xs.all U3=true){j:Nat}(h:j < us.toArray.size):RelV (xs.getD j .non) us.toArray[j]∧U3 (xs.getD j .non)=true:=by
 have hj:j < us.length:=by simpa using h
 have hx:j < xs.length:=by rw[r.length];exact hj
 obtain⟨u,e,ru⟩:=r.get (Zb hx);rw[Zb hj] at e;have g:xs.getD j .non=xs[j]:=by rw[Zk,Zb hx];rfl
 rw[g];have eu:us[j]=u:=Zn e;refine⟨?_,List.all_eq_true.mp f _ (Yy hx)⟩;show RelV xs[j] us.toArray[j];rw[List.getElem_toArray,eu];exact ru
def Zoh(K:W.Frag)(tup neg:Bool):R2:=fun x y H Q=>∃(a b:Addr) (xs ys:List V),x = .ref a∧y = .ref b∧(if tup then SqT K H a xs∧SqT K H b ys else SqL K H a xs∧SqL K H b ys)∧xs.all U3=true∧ys.all U3=true∧Q (.bl (if neg then !B6 xs ys else B6 xs ys)) H
theorem Zjs(hu:X.A.units+64 < cLine):No X (compareOp .NotEq) (Zoh X.K true true):=by
 intro pins s σ H x y v u Q I rx ry h;obtain⟨a,b,xs,ys,rfl,rfl,⟨ha,hb⟩,fx,fy,q⟩:=h;cases rx;cases ry;obtain⟨its,r1,p1,_⟩:=I.tuple ha;obtain⟨its2,r2,p2,_⟩:=I.tuple hb;refine SeqAt.RcNeAt.tuples (e:=fun j=>T0 (xs.getD j .non) (ys.getD j .non)) p1 p2 (by omega) (fun j h1 h2=>Tl (Xf r1 fx h1).1 (Xf r2 fy h2).1 (Xf r1 fx h1).2 (Xf r2 fy h2).2) _ _ _ _ ⟨.bl _,H,I,rfl,?_⟩;have z:=B5 xs ys;rw[r1.length,r2.length] at z;rw[List.size_toArray,List.size_toArray,z];exact q
theorem Kp:∀{xs ys:List V},xs.length≠ys.length→B6 xs ys=false
 | [],[],h=>absurd rfl h
 | [],_ :: _,_=>rfl
 | _ :: _,[],_=>rfl
 | x :: xs,y :: ys,h=>by
  show(T0 x y && B6 xs ys)=false;rw[Kp (xs:=xs) (ys:=ys) (fun z=>h (by simp [z])),Bool.and_false]
theorem Zjt(hu:X.A.units+64 < cLine):No X (compareOp .NotEq) (Zoh X.K false true):=by
 intro pins s σ H x y v u Q I rx ry h;obtain⟨a,b,xs,ys,rfl,rfl,⟨ha,hb⟩,fx,fy,q⟩:=h;cases rx;cases ry;obtain⟨its,r1,p1,_⟩:=I.list ha;obtain⟨its2,r2,p2,_⟩:=I.list hb;by_cases e:xs.length=ys.length
 ·refine SeqAt.RcNeAt.lists (e:=fun j=>T0 (xs.getD j .non) (ys.getD j .non)) p1.isList p2.isList (by simp [← r1.length,← r2.length,e]) (by omega) (fun j h1 h2=>Tl (Xf r1 fx h1).1 (Xf r2 fy h2).1 (Xf r1 fx h1).2 (Xf r2 fy h2).2) _ _ _ _ ⟨.bl _,H,I,rfl,?_⟩
  have z:=B5 xs ys;rw[e,Nat.min_self,beq_self_eq_true,Bool.and_true,← e,r1.length] at z;rw[List.size_toArray,z];exact q
 ·refine SeqAt.RcNeAt.lists_lengths p1.isList p2.isList (by simp [← r1.length,← r2.length,e]) (by omega) _ _ _ _ ⟨.bl true,H,I,rfl,?_⟩
  have q':Q (.bl (!B6 xs ys)) H:=q;rw[Kp e] at q';exact q'
end
theorem Ts{te:TE}{σ0:St}{H1:Hp}{Q:V→Hp→Prop}{J:It}(n:Nat)(xs:Nat→V)(G:Addr→Nat→V→Hp→Prop)(hn:n≤sizeLine)
  (hgo:∀ i H,Same H1 H→i < n→J.go i H) (hstop:∀ H,Same H1 H→J.stop n H) (hy:∀ i H x H',Same H1 H→i < n→J.yld i H x H'→H'=H∧x=xs i)
  (hG:∀ l i v H H',G l i v H→Same H H'→G l i v H') (hU:∀ l i v H xs ys,G l i v H→H l=some (.lst xs)→G l i v (upd H l (.lst ys)))
  (hE:∀ i H l vs,i < n→Same H1 H→H1 l=none→H l=some (.lst vs)→∀ R:V→Hp→Prop,(∀ v H',Same H H'→G l i v H'→R v H')→te (σ0.set 0 (some (xs i))) H R)
  (hQ:∀ l H vs,Same H1 H→H1 l=none→H l=some (.lst vs)→vs.length=n→(∀ i v,vs[i]? = some v→G l i v H)→Q (.ref l) H):Q7 (Qr 0) Ziu te σ0 J H1 Q:=by
 intro l hl;refine⟨fun i m σ H=>m=n - i∧i≤n∧Same H1 H∧(∃ vs,H l=some (.lst vs)∧vs.length=i∧∀ j v,vs[j]? = some v→G l j v H)∧∀ o,σ.set 0 o=σ0.set 0 o,⟨n,by simp,Nat.zero_le _,Zy hl _,⟨[],Zj,rfl,fun j v z=>by simp at z⟩,fun _=>rfl⟩,?_⟩;rintro i m σ H ⟨rfl,hi,sm,⟨vs,hL,hvl,hvs⟩,hσ⟩;by_cases lt:i < n
 ·refine .inr ⟨hgo i H sm lt,fun x H' y=>?_⟩
  obtain⟨rfl,rfl⟩:=hy i H x H' sm lt y;unfold Qr Ziu;dsimp only;rw[hσ,if_pos rfl];refine hE i H' l vs lt sm hl hL _ fun v H3 s3 hv=>⟨vs,s3 _ _ hL,by omega,n - (i+1),by omega,rfl,lt,Qw hl (sm.trans s3) _,⟨vs++[v],Zj,by rw[Z3,hvl];rfl,fun j u hj=>?_⟩,fun o=>List.set_set _⟩;by_cases c:j < vs.length
  ·rw[Ym c] at hj
   exact hU l j u H3 _ _ (hG l j u H' H3 (hvs j u hj) s3) (s3 _ _ hL)
  ·rw[Yh (by omega)] at hj
   have e:j - vs.length=0:=by
    cases q:j - vs.length with
    | zero=>rfl
    | succ k=>rw[q] at hj;simp at hj
   rw[e] at hj;have e2:v=u:=by simpa using hj
   subst e2;have e3:j=i:=by omega
   subst e3;exact hU l j v H3 _ _ hv (s3 _ _ hL)
 ·have e:i=n:=by omega
  subst e;exact .inl ⟨hstop H sm,hQ l H vs sm hl hL hvl hvs⟩
theorem Tr{K:W.Frag}{te:TE}{σ0:St}{H1:Hp}{Q:V→Hp→Prop}{a:Addr}{xs:List V}(G:Addr→Nat→V→Hp→Prop)(hS:SqL K H1 a xs)(hn:xs.length≤sizeLine)
  (hG:∀ l i v H H',G l i v H→Same H H'→G l i v H') (hU:∀ l i v H xs ys,G l i v H→H l=some (.lst xs)→G l i v (upd H l (.lst ys)))
  (hE:∀ i x H l vs,xs[i]? = some x→Same H1 H→H1 l=none→H l=some (.lst vs)→∀ R:V→Hp→Prop,(∀ v H',Same H H'→G l i v H'→R v H')→te (σ0.set 0 (some x)) H R)
  (hQ:∀ l H vs,Same H1 H→H1 l=none→H l=some (.lst vs)→vs.length=xs.length→(∀ i v,vs[i]? = some v→G l i v H)→Q (.ref l) H):Q7 (Qr 0) Ziu te σ0 (Itl K a) H1 Q:=by
 have at_:∀ i,i < xs.length→xs[i]? = some (xs.getD i .non):=fun i h=>by
  rw[Zk,Zb h];rfl
 refine Ts xs.length (fun i=>xs.getD i .non) G hn (fun i H sm h=>⟨xs,_,sm.seq hS,at_ i h⟩) (fun H sm=>⟨xs,sm.seq hS,Nat.le_refl _⟩)
  (fun i H x H' sm h y=>⟨y.1,?_⟩) hG hU (fun i H l vs h sm hl hL=>hE i _ H l vs (at_ i h) sm hl hL) hQ
 have e:=y.2 xs (sm.seq hS);rw[at_ i h] at e;exact(Zn e).symm
theorem Same.seqT{K:W.Frag}{H H':Hp}{a:Addr}{xs:List V}(e:Same H H')(h:SqT K H a xs):SqT K H' a xs:=by
 rcases h with(h | ⟨o,h⟩) | h
 ·exact .inl (.inl (e _ _ h))
 ·exact .inl (.inr ⟨o,e _ _ h⟩)
 ·exact .inr h
theorem Za6:∀{cs:List V} {us:List Value},cs.all isC=true→Vals cs us→us=cs.map toC
 | _,_,_,.nil=>rfl
 | c :: cs,u :: us,f,.cons r t=>by
  rw[List.all_cons,Bool.and_eq_true] at f;rw[List.map_cons,Ze3 f.1 r,Za6 f.2 t]
structure Mk0(K:W.Frag)(C:Addr):Prop where
 makes:W.makesIn K C=true
 init:W.findIn K (.ref C) "__init__" = some (some (.builtin "object.__init__"))
 kp:W.keepIn K (.ref C)=true
def Zl1(C:Addr):TE:=fun σ H Q=>∀ x dx,H x=none→H dx=none→dx≠x→Q (.ref x) (upd (upd H dx (.own x)) x (.ins C dx []))
section
variable{X:Cx}{CX:CXT}{k:Nat}{C:Addr}{E:XK}{x m:Str}{p pos apos:Pos}{e o:Expr}{es:List Expr}{ta:TE}{t:TA}
theorem Zc4{pins:List (Addr×Obj)}{σ:St}{H:Hp}{s:Shared}{Q:VK}(M:Mk0 X.K C)(I:Inv X pins σ H s)
  (h:∀ x dx,H x=none→H dx=none→dx≠x→Q (.ref x) (upd (upd H dx (.own x)) x (.ins C dx []))) :
  wpAny (model X.prog X.w) X.A (call (.ref C) []) (EP X pins σ Q) X.xe s:=by
 have hq:=h (s.heap.objs.size+1) s.heap.objs.size (I.hok.fresh (Nat.le_succ _)) (I.hok.fresh (Nat.le_refl _)) (Nat.ne_of_lt (Nat.lt_succ_self _));have I2:=Inv.made (C:=C) I;have Y:=W.makes_of (M:=model X.prog X.w) I.kIn M.makes;refine wpAny_call (Zdv I.kIn M.makes M.init (fun self=>W.Looks.of_pure (W.oi_bind self)) ?_);obtain⟨hh,g,d,tk,os⟩:=s;have hx:((hh.push W.emptyDict).push (W.instObj C hh.objs.size)).get? (hh.objs.size+1)=some (W.instObj C hh.objs.size):=by heap_get
 have t1:W.Looks (model X.prog X.w) ((hh.push W.emptyDict).push (W.instObj C hh.objs.size)) (typeOf (.ref (hh.objs.size+1))) (.ref C):=(W.Looks.ld hx).andThen .now;have t2:W.Looks (model X.prog X.w) ((hh.push W.emptyDict).push (W.instObj C hh.objs.size)) (isInstance (.ref (hh.objs.size+1)) (.type "object")) true:=t1.andThen (Y.top.keeps fun b o e=>Ze _ (Ze _ e));refine codeAny_call_builtin W.oi_plain W.entry_oi (@W.check_slot (model X.prog X.w) _ _ _ "object.__init__" "object" "__init__" (.ref (hh.objs.size+1)) [] [] _ W.oi_kind W.oi_split t2 (W.oi_args (.ref (hh.objs.size+1))) ?_);rw[W.oi_run];exact wpAny_pure (And.intro rfl ⟨.ref (hh.objs.size+1),_,I2,rfl,hq⟩)
theorem Bn(M:Mk0 X.K C)(hg:Gl X x)(hm:X.mg x=some (.ref C))(hdb:(x == ("__debug__":Str))=false:=by decide):PE X (.Call (.Name x p) [] [] pos) (Zl1 C):=by
 intro pins s σ H Q I h;refine wpAny_Call_Name_kw (Eh I hg hm ?_ hdb);exact W.callWith_K0 I.kIn M.kp (Zc4 M I h)
structure MethF(P:Program)(w:World)(K:W.Frag)(mg:Str→Option Value)(base:Heap)(CX:CXT)(k:Nat)(ι:Type)(m:Str)(ps:List Str)(sp:ι→Sp)(cs:ι→Addr)(f:ι→Addr)(fd:ι→FuncData):Prop where
 c:∀ i,Cls K (cs i)
 hm:∀ i,Meth K (cs i) m (f i)
 F:∀ i,FnOk P w K mg base CX k (f i) (fd i) ps (sp i)
 hb:∀ i,Binds K (fd i) ps []
def Ze9{ι:Type}(m:Str)(sp:ι→Sp)(cs:ι→Addr)(E:XK)(ta:TE)(t:TA):TE:=fun σ H Q=>ta σ H fun x H1=>∃ i a dx fs,x = .ref a∧H1 a=some (.ins (cs i) dx fs)∧fs.lookup m=none∧t σ H1 fun vs H2=>sp i (x :: vs) H2 Q E
theorem Zga{ι:Type}{ps:List Str}{sp:ι→Sp}{cs f:ι→Addr}{fd:ι→FuncData}{pl:Sem Bool}(he:PE X o ta)(M:MethF X.prog X.w X.K X.mg X.base CX k ι m ps sp cs f fd)(hr:Room k X.A)(hx:Qm CX X E)(ha:PA X (e :: es) t)
  (hst:starEach (e :: es) X.env=(false,eval e X.env) :: starEach es X.env:=by rfl) (hpl:(backTo pos (starEach es X.env)).any (·.1)=false:=by rfl)
  (ht:eval (.Call (.Attribute o m apos) (e :: es) [] pos) X.env=(do
   let ov ← eval o X.env
   standAt apos.atName
   let (f,first) ← holding [ov] (getMethod ov m pl)
   callWith pos f first (backTo pos (starEach (e :: es) X.env)) (backToKw pos (keywordEach [] X.env))):=by rfl) :
  PE X (.Call (.Attribute o m apos) (e :: es) [] pos) (Ze9 m sp cs E ta t):=by
 intro pins s σ H Q I h;refine W.methodCall_KW (pl:=pl) (Y5 (he pins s σ H _ I h) fun u s1 ⟨x,H1,I1,rx,i,a,dx,fs,ex,ea,l,q⟩=>?_) ht;subst ex;obtain rfl:u=Value.ref a:=rx;refine Qh I1 ea (M.c i) (M.hm i) l ?_;refine W.callWith_K (first:=[.ref a]) (h₀:=X.base) I.ok.mod.kin (M.hm i).kp (Y5 (ha pos pins s1 σ H1 _ I1 q) fun us s2 ⟨vs,H2,I2,r,q2⟩=>⟨I2.kIn,?_⟩) hst hpl;exact Gm (us:=.ref a :: us) (vs:=.ref a :: vs) (dvs:=[]) (M.F i) hr (M.hb i) .nil hx I2 (.cons rfl r) (by rw[Yb];exact q2)
theorem Mm{ι:Type}{ps:List Str}{sp:ι→Sp}{cs f:ι→Addr}{fd:ι→FuncData}{pl:Sem Bool}(he:PE X o ta)(M:MethF X.prog X.w X.K X.mg X.base CX k ι m ps sp cs f fd)(hr:Room k X.A)(hx:Qm CX X E)
  (ht:eval (.Call (.Attribute o m apos) [] [] pos) X.env=(do
   let ov ← eval o X.env
   standAt apos.atName
   let (f,first) ← holding [ov] (getMethod ov m pl)
   callWith pos f first (backTo pos (starEach [] X.env)) (backToKw pos (keywordEach [] X.env))):=by rfl) :
  PE X (.Call (.Attribute o m apos) [] [] pos) (Ze9 m sp cs E ta Zl0):=by
 intro pins s σ H Q I h;refine W.methodCall_KW (pl:=pl) (Y5 (he pins s σ H _ I h) fun u s1 ⟨x,H1,I1,rx,i,a,dx,fs,ex,ea,l,q⟩=>?_) ht;subst ex;obtain rfl:u=Value.ref a:=rx;refine Qh I1 ea (M.c i) (M.hm i) l ?_;exact W.callWith_K0 (first:=[.ref a]) I1.kIn (M.hm i).kp (Gm (us:=[.ref a]) (vs:=[.ref a]) (dvs:=[]) (M.F i) hr (M.hb i) .nil hx I1 (.cons rfl .nil) q)
end
end L2
namespace My
open PySem L2
theorem Zm8{c:Bool}{t u:TS}{D:Ends}{σ:St}{H:Hp}(Pv:St→Hp→Prop)(h1:c=true→∀ D':Ends,D'.rt=D.rt→(∀ σ H,Pv σ H→D'.nx σ H)→t D' σ H)
  (h2:c=false→∀ D':Ends,D'.rt=D.rt→(∀ σ H,Pv σ H→D'.nx σ H)→u D' σ H) (h3:∀ σ H,Pv σ H→D.nx σ H):if c=true then t D σ H else u D σ H:=by
 cases c with
 | true=>exact Ub (h1 rfl D rfl h3)
 | false=>exact J9 (h2 rfl D rfl h3)
theorem Zok{α:Type}(xs:List α)(m:Int)(hm:m=(xs.length:Int))(h0:0 < xs.length)(z:Int):∃ v,v∈xs∧Xg xs (z % m)=some v:=by
 subst hm;have a0:0≤z % (xs.length:Int):=Yz _ (by omega);have a1:z % (xs.length:Int) < xs.length:=Yi _ (by omega);obtain⟨k,hk⟩:=Int.eq_ofNat_of_zero_le a0;rw[hk] at a1 ⊢;have hk':k < xs.length:=by omega
 exact⟨xs[k],Yy hk',Um (Zb hk')⟩
theorem Ab(i j:Str):(i++j).length=i.length+j.length:=by
 show(i.cps++j.cps).size=_;rw[Array.size_append];rfl
theorem U1{i j:Str}{a b:Nat}(h1:i.length≤a)(h2:j.length≤b):(i++j).length≤a+b:=by rw[Ab];omega
theorem Qi{i j:Str}{a b:Nat}(h1:i.length≤a)(h2:j.length≤b)(h:a+b≤1000):i.length+j.length≤sizeLine:=by rw[sizeLine_eq];omega
theorem Jl(n:Nat)(h:n≤1000):n≤sizeLine:=by rw[sizeLine_eq];omega
theorem Zk1{α:Type}{p:α→Prop}:∀ x∈([]:List α),p x:=fun _ h=>nomatch h
theorem all_cons{α:Type}{p:α→Prop}{a:α}{l:List α}(h:p a)(r:∀ x∈l,p x):∀ x∈a :: l,p x:=fun x hx=>by
 rcases List.mem_cons.mp hx with e | e
 ·rw[e];exact h
 ·exact r x e
theorem Zkh{ns:List Int}{k:Int}(h:0 < ns.length):∃ v:Int,Xg (ns.map V.int) (k % (((ns.map V.int).length:Nat):Int))=some (.int v):=by
 obtain⟨v,hv,e⟩:=Zok (ns.map V.int) _ rfl (by rw[Zi];exact h) k;obtain⟨n,_,rfl⟩:=Z2.mp hv;exact⟨n,e⟩
section
variable{P:Program}{w:World}{K:W.Frag}{mg:Str→Option Value}{base:Heap}
structure Lib(P:Program)(w:World)(K:W.Frag)(mg:Str→Option Value)(base:Heap)(k:Nat)(x:Str)(ps:List Str)(sp:Sp)(f:Addr)(fd:FuncData):Prop where
 ok:FnOk P w K mg base Y4 k f fd ps sp
 bd:Binds K fd ps []
 kp:W.keepIn K (.ref f)=true
 mg:mg x=some (.ref f)
structure LibX(P:Program)(w:World)(K:W.Frag)(mg:Str→Option Value)(base:Heap)(k:Nat)(x:Str)(ps:List Str)(sp:Sp)(f:Addr)(fd:FuncData):Prop where
 ok:FnOk P w K mg base (V8 P w) k f fd ps sp
 bd:Binds K fd ps []
 kp:W.keepIn K (.ref f)=true
 mg:mg x=some (.ref f)
end
def p4{α:Type}(a b c d:α):Fin 4→α:=fun i=>match i with | 0=>a | 1=>b | 2=>c | 3=>d
def wd:Fin 4→Str:=p4 "free" "follow" "cut" "beat"
def wds:List Str:=["free","follow","cut","beat"]
theorem Znn(i:Fin 4):wds[i.val]? = some (wd i):=match i with | 0=>rfl | 1=>rfl | 2=>rfl | 3=>rfl
theorem Zlu{t:Str}(h:t∈wds):∃ i,t=wd i:=by
 rcases List.mem_cons.mp h with h | h
 ·exact⟨0,h⟩
 rcases List.mem_cons.mp h with h | h
 ·exact⟨1,h⟩
 rcases List.mem_cons.mp h with h | h
 ·exact⟨2,h⟩
 rcases List.mem_cons.mp h with h | h
 ·exact⟨3,h⟩
 ·exact nomatch h
theorem Zhf(i:Fin 4):wd i∈wds:=Zr (Znn i)
theorem K2:∀ i j:Fin 4,wd i=wd j→i=j:=by decide +kernel
theorem Zeu:∀ i:Fin 4,3≤(wd i).length∧(wd i).length≤6:=by decide +kernel
section
variable{P:Program}{w:World}{K:W.Frag}{mg:Str→Option Value}{base:Heap}{f g:Addr}{fd gd:FuncData}
def R7(i:Fin 4):Sp:=fun vs H Q _=>∃ a,vs=[.ref a]∧Q (.str (wd i)) H
abbrev Zik(P:Program)(w:World)(K:W.Frag)(mg:Str→Option Value)(base:Heap)(k:Nat)(cs f:Fin 4→Addr)(fd:Fin 4→FuncData):Prop:=MethF P w K mg base Y4 k (Fin 4) "word" ["self"] R7 cs f fd
def Sj(cs:Fin 4→Addr)(CN:Addr):Sp:=fun vs H Q E=>∃ t:Str,vs=[.str t]∧(∀ i,t=wd i→∀ x dx H',Same H H'→H x=none→H' x=some (.ins (cs i) dx [])→Q (.ref x) H')∧(t∉wds→∀ H',Same H H'→E (.ref CN) none H')
structure DutyC(K:W.Frag)(mg:Str→Option Value)(cs:Fin 4→Addr)(CN:Addr):Prop where
 mF:mg "Free" = some (.ref (cs 0))
 mL:mg "Follow" = some (.ref (cs 1))
 mC:mg "Cut" = some (.ref (cs 2))
 mB:mg "Beat" = some (.ref (cs 3))
 mak:∀ i,Mk0 K (cs i)
 mN:mg "NoTable" = some (.ref CN)
 hN:W.excIn K CN Uk "ValueError.__new__" = true
theorem Xi{H:Hp}{x dx:Addr}{o:HO}(hx:H x=none)(hd:H dx=none)(n:dx≠x):Same H (upd (upd H dx (.own x)) x o):=fun b u q=>by
 rw[Zu (Jb q hx),Zu (Jb q hd)];exact q
theorem Rz{st:Stmt}{qual wx:Str}{k:Nat}{sp:Sp}(F:Fun K "word" qual st f fd)(sc:FnScope ["self"] ["self"] (Zp st)){p1 p2:Pos}{j:Nat}(hb:Y0 st=[.Return (some (.Constant (.str wx) j p1)) p2])(hs:∀ vs H Q E,sp vs H Q E→∃ a,vs=[V.ref a]∧Q (.str wx) H):FnOk P w K mg base Y4 (k+1) f fd ["self"] sp:=by
 refine F.ok sc (fun vs H Q E h=>?_) (fun cdv A outer s H vs Q E hr h=>?_)
 ·obtain⟨a,rfl,_⟩:=hs vs H Q E h
  rfl
 obtain⟨a,rfl,q⟩:=hs vs H Q E h;rw[hb];exact⟨_,Zq (Z6 Ji),q⟩
end
abbrev sLet:Str:="abcd"
abbrev sFig:Str:="12345678"
theorem Zks(c:Nat):c∈sFig.cps.toList↔49≤c∧c≤56:=by
 have e:sFig.cps.toList=[49,50,51,52,53,54,55,56]:=by decide +kernel
 rw[e];simp only[List.mem_cons,Yv,or_false];omega
theorem Kk(c:Nat):Txt.find sFig ⟨#[c]⟩=if 49≤c∧c≤56 then((c - 49:Nat):Int) else -1:=by
 by_cases h:49≤c∧c≤56
 ·rw[if_pos h]
  have h4:c=49∨c=50∨c=51∨c=52∨c=53∨c=54∨c=55∨c=56:=by omega
  rcases h4 with rfl | rfl | rfl | rfl | rfl | rfl | rfl | rfl<;>decide +kernel
 ·rw[if_neg h]
  have e:=PyProof.Rows.empty_one sFig c;rw[Zd (fun z=>h ((Zks c).mp z))] at e;unfold Txt.find;cases q:Builtin.Str.occurrences sFig ⟨#[c]⟩ 0 sFig.length 1 with
  | nil=>rfl
  | cons a b=>rw[q] at e;cases e
end My
namespace L2
open PySem PySem.Spec PyProof.Rows
section
variable{prog:Program}{w:World}{A:Around}{E:Value→Shared→Prop}{s:Shared}
end
section
variable{X:Cx}{e st:Expr}{te:TE}{lo:Option Expr}{tl ts:TO}{pos p2:Pos}
def Zns(K:W.Frag)(te:TE)(tl ts:TO):TE:=fun σ H Q=>te σ H fun x H1=>tl σ H1 fun o H2=>ts σ H2 fun o2 H3=>o2=some 2∧∃ a x0 x1 x2 x3 x4 x5 x6 x7 x8 x9,x = .ref a∧SqL K H3 a [x0,x1,x2,x3,x4,x5,x6,x7,x8,x9] ∧
 ((o=some 0∧∀ p,H3 p=none→Q (.ref p) (upd H3 p (.lst [x0,x2,x4,x6,x8])))∨(o=some 1∧∀ p,H3 p=none→Q (.ref p) (upd H3 p (.lst [x1,x3,x5,x7,x9]))))
theorem Zbt{ys zs:List Value}{n:Nat}{lo hi st:Option Int}{ix:List Nat}(hn:ys.length=n)(h:sliceRange (sliceBounds lo hi st n).1 (sliceBounds lo hi st n).2.1 (sliceBounds lo hi st n).2.2=ix)(hz:ix.filterMap (ys[·]?)=zs):slicePick ys.toArray lo hi st=zs.toArray:=by
 unfold slicePick;rw[List.size_toArray,hn,h,← hz]
 congr 2
 funext i
 simp
theorem ten{xs:List Value}(h:xs.length=10):∃ a b c d e f g i j k,xs=[a,b,c,d,e,f,g,i,j,k]:=match xs,h with | [a,b,c,d,e,f,g,i,j,k],_=>⟨a,b,c,d,e,f,g,i,j,k,rfl⟩
theorem Zbw(he:PE X e te)(hl:PO X lo tl)(hst:PO X (some st) ts):PE X (.Subscript e (.Slice lo none (some st) p2) pos) (Zns X.K te tl ts):=by
 intro pins s σ H Q I h;refine Subscript_ (Y5 (he pins s σ H _ I h) fun v s1 ⟨x,H1,I1,r1,q1⟩=>?_);refine wpAny_Slice (Y5 (hl pins s1 σ H1 _ I1 q1) fun vl s2 ⟨l,H2,I2,pl,q2⟩=>?_);rw[evalPart_none];refine wpAny_pure (Y5 (hst pins s2 σ H2 _ I2 q2) fun vs s3 ⟨o,H3,I3,po,q3⟩=>?_);obtain⟨rfl,a,x0,x1,x2,x3,x4,x5,x6,x7,x8,x9,rfl,hx,q⟩:=q3;cases r1;have I4:Inv X pins σ H3 { s3 with heap:=s3.heap.push { cls:=.type "slice",data:=.fields #[vl,.none,vs] } }:=I3.kept (t':=s3.toks) fun b ob q=>Ze _ q;obtain⟨its,r,ht,hz⟩:=I4.list hx;have hlen:=r.length;obtain⟨y0,y1,y2,y3,y4,y5,y6,y7,y8,y9,rfl⟩:=ten hlen.symm;cases r with | cons r0 r=>cases r with | cons r1 r=>cases r with | cons r2 r=>cases r with | cons r3 r=>cases r with | cons r4 r=>cases r with | cons r5 r=>cases r with | cons r6 r=>cases r with | cons r7 r=>cases r with | cons r8 r=>cases r with | cons r9 r=>
 show wpAny (model X.prog X.w) X.A (subscriptTail e (.Slice lo none (some st) p2) (.ref a) (.ref s3.heap.objs.size)) (EP X pins σ Q) X.xe { s3 with heap:=s3.heap.push { cls:=.type "slice",data:=.fields #[vl,.none,vs] } };refine PyProof.Rows.tail_any (ops:=[.ref a,.ref s3.heap.objs.size]) ht.isList.typeIs slot_list_getitem.lookup ?_ (by with_unfolding_all rfl);refine wpAny_getItem_list_slice ht.isList (Heap.IsSliceOf.new ..) pl .none po (by decide) ?_ (by rw[List.size_toArray]<;>exact J2 (X6 (show 10≤1000 by decide)));rcases q with⟨rfl,q⟩ | ⟨rfl,q⟩
 ·have ep:slicePick [y0,y1,y2,y3,y4,y5,y6,y7,y8,y9].toArray (some 0) none (some 2)=[y0,y2,y4,y6,y8].toArray:=Zbt (n:=10) (ix:=[0,2,4,6,8]) rfl (by decide +kernel) rfl
  rw[ep];exact⟨.ref _,_,I4.lnew (t':=s3.toks) (ys:=[x0,x2,x4,x6,x8]) (its:=[y0,y2,y4,y6,y8]) (.cons r0 (.cons r2 (.cons r4 (.cons r6 (.cons r8 .nil))))) (J2 (X6 (show 5≤1000 by decide))),rfl,q _ I4.fresh⟩
 ·have ep:slicePick [y0,y1,y2,y3,y4,y5,y6,y7,y8,y9].toArray (some 1) none (some 2)=[y1,y3,y5,y7,y9].toArray:=Zbt (n:=10) (ix:=[1,3,5,7,9]) rfl (by decide +kernel) rfl
  rw[ep];exact⟨.ref _,_,I4.lnew (t':=s3.toks) (ys:=[x1,x3,x5,x7,x9]) (its:=[y1,y3,y5,y7,y9]) (.cons r1 (.cons r3 (.cons r5 (.cons r7 (.cons r9 .nil))))) (J2 (X6 (show 5≤1000 by decide))),rfl,q _ I4.fresh⟩
theorem Oz:U8 X (.type "int") (fun xs H Q=>∃ x n,xs=[.str x]∧PySem.intText? x=some n∧x.length≤640∧Q (.int n) H):=by
 intro pins s σ H xs us Q I r h;obtain⟨x,n,rfl,hn,hl,q⟩:=h;obtain⟨u,rfl,t,rfl⟩:=Xc r;exact W.KIN.call_text hn hl ⟨.int n,H,I.tok _,⟨_,rfl⟩,q⟩
def Na(t:Str):List Str:=t.cps.toList.map fun c=>⟨#[c]⟩
theorem V5(t:Str):(Na t).length=t.length:=by unfold Na;rw[Zi];rfl
theorem R1{t:Str}{acc:Array Value}(h:ItemsOf (SignAt t) acc t.cps.size):Vals (vS (Na t)) acc.toList:=by
 obtain⟨hs,hi⟩:=h;have key:∀(cs:List Nat) (us:List Value),us.length=cs.length→(∀(j:Nat) v,us[j]? = some v→∃ c u,cs[j]? = some c∧v = .str ⟨#[c]⟩ u)→Vals ((cs.map fun c=>(⟨#[c]⟩:Str)).map V.str) us:=by
  intro cs
  induction cs with
  | nil=>
   intro us hl _;have e:us=[]:=List.eq_nil_of_length_eq_zero hl;subst e;exact .nil
  | cons c cs ih=>
   intro us hl hu;cases us with
   | nil=>cases hl
   | cons u us=>
    obtain⟨c',t',hc,hv⟩:=hu 0 u rfl;have e:c=c':=Zn hc;subst e;exact .cons ⟨_,hv⟩ (ih us (Nat.succ.inj hl) fun j v hj=>hu (j+1) v hj)
 refine key t.cps.toList acc.toList (by simpa using hs) fun j v hj=>?_;obtain⟨c,u,h1,h2⟩:=hi j v (by simpa using hj);exact⟨c,u,by simpa using h1,h2⟩
theorem Tw(hc:X.calm=true):U8 X (.type "list") (fun xs H Q=>∃ t,xs=[.str t]∧t.length≤1000∧∀ l,H l=none→Q (.ref l) (upd H l (.lst (vS (Na t))))):=by
 intro pins s σ H xs us Q I r h;obtain⟨x,rfl,hl,q⟩:=h;obtain⟨u,rfl,t,rfl⟩:=Xc r;have hz:x.length≤sizeLine:=J2 (X6 hl);refine call_list_str (I.ok.hd hc) x t (fun h' tk acc' c' kp e hi=>?_) hz;have hv:=R1 hi;exact⟨.ref s.heap.objs.size,_,I.laid (t':=tk) kp (Nat.le_refl _) (show ObjOk X.prog X.w _ h' _ (.lst (vS (Na x))) from⟨by rw[Db,V5];exact hz,acc'.toList,c',hv,by simpa using e⟩),rfl,q _ (I.hok.fresh (Nat.le_refl _))⟩
theorem Mg:∀{us:List Value} {ss:List Str},StrsAre us ss→Vals (vS ss) us
 | _,_,.nil=>.nil
 | _,_,.cons x t h=>.cons ⟨t,rfl⟩ (Mg h)
theorem Rq(hc:X.calm=true):U8 X (.builtin "sorted") (fun xs H Q=>∃ t,xs=[.str t]∧t.length < 64∧∀ l ss,H l=none→ss.Perm (Na t)→sortedS ss=true→Q (.ref l) (upd H l (.lst (vS ss)))):=by
 intro pins s σ H xs us Q I r h;obtain⟨x,rfl,hl,q⟩:=h;obtain⟨u,rfl,t,rfl⟩:=Xc r;have hz:x.length≤sizeLine:=J2 (X6 (by omega));refine Calls.call_function_entry kind_sorted plain_sorted entry_sorted (args_sorted1 _) ?_;unfold Builtin.«sorted»;refine Zc (m:=checkCount "sorted" 1 1 _) (wpAny_pure ?_);refine Zc (wpAny_collect_str (A:=X.A.in1) (show X.A.in1.handled=none from I.ok.hd hc) x t (fun s1 acc kp hg hd ho hi=>?_) hz);have hv:=R1 hi;have hS:StrsAre acc.toList (Na x):=Nt hv;have hlen:acc.toList.length < 64:=by rw[← hv.length,Db,V5];exact hl
 obtain⟨hp1,g1,d1,t1,o1⟩:=s1;simp only at hg hd ho kp;subst hg hd ho;have I1:Inv X pins σ H { s with heap:=hp1,toks:=t1 }:=I.kept (t':=t1) kp;refine Zc (wpAny_newList ?_);have hoL:(hp1.push (seqObj "list" acc.toList.toArray 0)).get? hp1.objs.size=some (seqObj "list" acc.toList.toArray 0):=Heap.get?_push_size _ rfl;refine Zc (wpAny_holding (wpAny_call_entry slot_list_sort ⟨_,hoL,rfl⟩ entry_list_sort (list_sort_treeK (κ:=strKind) strKind_oneLt hoL hS.keysOf (fun v₁ v₂ rest e=>keyKind_strs (by rw[← e];exact hS)) hlen fun st' hp hs=>⟨_,rfl,wpAny_pure ⟨_,rfl,?_⟩⟩) (args_list_sort _)));obtain⟨ss',h1,h2,h3⟩:=sorted_out_str hS hp hs;obtain⟨ep,he⟩:=sortedHeap_at (out:=(arrOf st').map (·.2)) hoL;have hl2:ss'.length=x.length:=by rw[h2.length_eq,V5]
 refine⟨.ref hp1.objs.size,_,I1.laid (t':=t1) (a:=hp1.objs.size) (o:=.lst (vS ss')) (h':=sortedHeap (hp1.push (seqObj "list" acc.toList.toArray 0)) hp1.objs.size acc.toList ((arrOf st').map (·.2))) (fun b u e=>?_) (Nat.le_refl _) ?_,rfl,q _ ss' (I1.hok.fresh (Nat.le_refl _)) h2 h3⟩
 ·have hb:=Zs e
  rw[sortedHeap_old (Nat.ne_of_lt hb) (by rw[size_push'];exact Nat.lt_succ_of_lt hb)];exact Ze _ e
 ·refine⟨by rw[Db,hl2];exact hz,((arrOf st').map (·.2)).toList,ep,Mg h1,?_⟩
  rw[Array.toArray_toList];exact he
end
def Zog:V→List V→Hp→VK→Prop:=fun x xs H Q=>∃ i j,x = .str i∧xs=[.str j]∧Q (.int (Txt.find i j)) H
theorem Zgb{X:Cx}{K:W.Frag}{o e:Expr}{to:TE}{t:TA}{apos cpos:Pos}(hK:X.K=K)(ho:PE X o to)(ha:PA X [e] t)
  (hbase:attributeBase o "find" X.env (eval o X.env)=eval o X.env:=by rfl)
  (hfew:((backTo cpos (starEach [e] X.env)).all (fun x=>!x.1) && (backToKw cpos (keywordEach [] X.env)).all (fun x=>x.1.isSome) && decide ([e].length+([]:List Keyword).length+(if([]:List Keyword).isEmpty then 0 else 1) < 30))=true:=by rfl)
  (hline:(apos.endLine == cpos.line)=true:=by rfl) (hs:starEach [e] X.env=[(false,eval e X.env)]:=by rfl):PE X (.Call (.Attribute o "find" apos) [e] [] cpos) (tBM K "str" Zog to t):=by
 subst hK;exact U5 PySem.F.plainAttrs_str PySem.F.slot_str_find PySem.F.type_str_find Op ho ha hbase hfew hline hs rfl
structure FunD(K:W.Frag)(x qual:Str)(st:Stmt)(f:Addr)(fd:FuncData):Prop where
 ex:∃(oc:Value) (od:Option Addr) (dV kV doc pm:Value) (an:Option Addr) (cdv ct:Value) (osl:Array (Option Value)),
  fd=W.fnOf x qual (Us st) (Y0 st) (Zp st) dV kV doc pm an cdv ct∧K.lookup f=some ⟨oc,od,.func fd,osl⟩∧W.codeIn K cdv qual=true
 kp:W.keepIn K (.ref f)=true
theorem FunD.ok{P:Program}{w:World}{K:W.Frag}{mg:Str→Option Value}{base:Heap}{x qual:Str}{st:Stmt}{f:Addr}{fd:FuncData}{N ps:List Str}{k:Nat}{sp:Sp}(F:FunD K x qual st f fd)(S:FnScope N ps (Zp st))(len:∀ vs H Q E,sp vs H Q E→vs.length=ps.length)
  (hbody:∀(cdv:Value) (A:Around) (outer:List Env) (s:Shared) (H:Hp) (vs:List V) (Q:VK) (E:XK),Room k (A.deeper (envOfC qual (Zp st) s.heap.objs.size f cdv))→sp vs H Q E →
   ∃ t,PSs (Qk Y4 P w K mg base N qual (Zp st) f cdv A outer s H E).nox (Y0 st) t∧t { nx:=fun _ H'=>Q .non H',rt:=Q } (start N vs) H):FnOk P w K mg base Y4 (k+1) f fd ps sp:=by
 obtain⟨oc,od,dV,kV,doc,pm,an,cdv,ct,osl,rfl,lk,hcd⟩:=F.ex;refine Zcf lk hcd S len fun A outer s H vs Q E hr hsp=>?_;obtain⟨t,h,q⟩:=hbody cdv A outer s H vs Q E hr hsp;exact⟨t,h.nox,q⟩
theorem Zkp{K:W.Frag}{x qual:Str}{st:Stmt}{f:Addr}{oc:Value}{od an:Option Addr}{osl:Array (Option Value)}{dV kV doc pm cdv ct:Value}(l:K.lookup f=some ⟨oc,od,.func (W.fnOf x qual (Us st) (Y0 st) (Zp st) dV kV doc pm an cdv ct),osl⟩)
  (c:W.codeIn K cdv qual=true) (k:W.keepIn K (.ref f)=true):FunD K x qual st f (W.fnOf x qual (Us st) (Y0 st) (Zp st) dV kV doc pm an cdv ct):=⟨⟨oc,od,dV,kV,doc,pm,an,cdv,ct,osl,rfl,l,c⟩,k⟩
end L2
namespace My
open PySem L2 PySem.Spec PyProof.Rows
def Te:List (List Nat)→List Nat
 | []=>[]
 | [x]=>x
 | x :: y :: r=>x++32 :: Te (y :: r)
theorem Zic:∀(x y a b:List Nat),32∉x→32∉y→x++32 :: a=y++32 :: b→x=y∧a=b
 | [],[],a,b,_,_,h=>by
  injection h with _ h
  exact⟨rfl,h⟩
 | [],c :: y,a,b,_,hy,h=>by
  injection h with h _
  exact absurd (h ▸ Zw) hy
 | c :: x,[],a,b,hx,_,h=>by
  injection h with h _
  exact absurd (h ▸ Zw) hx
 | c :: x,d :: y,a,b,hx,hy,h=>by
  injection h with h1 h2
  obtain⟨e1,e2⟩:=Zic x y a b (fun z=>hx (Zx _ z)) (fun z=>hy (Zx _ z)) h2;exact⟨by rw[h1,e1],e2⟩
theorem Mr:∀ xs ys:List (List Nat),xs≠[]→ys≠[]→(∀ x∈xs,32∉x)→(∀ y∈ys,32∉y)→Te xs=Te ys→xs=ys
 | [],_,h,_,_,_,_=>absurd rfl h
 | _,[],_,h,_,_,_=>absurd rfl h
 | [x],[y],_,_,_,_,h=>by
  have e:x=y:=h;rw[e]
 | [x],y :: y2 :: r,_,_,hx,_,h=>by
  have e:x=y++32 :: Te (y2 :: r):=h;refine absurd ?_ (hx x Zw);rw[e];exact List.mem_append_right _ Zw
 | x :: x2 :: r,[y],_,_,_,hy,h=>by
  have e:x++32 :: Te (x2 :: r)=y:=h;refine absurd ?_ (hy y Zw);rw[← e];exact List.mem_append_right _ Zw
 | x :: x2 :: r,y :: y2 :: r2,_,_,hx,hy,h=>by
  obtain⟨e1,e2⟩:=Zic x y _ _ (hx x Zw) (hy y Zw) h;have e3:=Mr (x2 :: r) (y2 :: r2) (List.cons_ne_nil _ _) (List.cons_ne_nil _ _) (fun z hz=>hx z (Zx _ hz)) (fun z hz=>hy z (Zx _ hz)) e2;rw[e1,e3]
abbrev blank:Str:=" "
theorem M6:blank=⟨#[32]⟩:=by decide +kernel
theorem E5:∀ ws:List Str,(Txt.join blank ws).cps.toList=Te (ws.map fun w=>w.cps.toList):=by
 intro ws;unfold Txt.join;rw[StrLaws.glued_eq_join]
 induction ws with
 | nil=>rfl
 | cons x r ih=>
  cases r with
  | nil=>rfl
  | cons y r=>
   show(x++blank++Str.join blank (y :: r)).cps.toList=x.cps.toList++32 :: Te ((y :: r).map fun w=>w.cps.toList);rw[← ih,M6];show((x.cps ++ #[32])++(Str.join ⟨#[32]⟩ (y :: r)).cps).toList=_;rw[Array.toList_append,Array.toList_append,Qs];rfl
theorem Dh{a b:Str}(h:a.cps.toList=b.cps.toList):a=b:=by
 obtain⟨⟨a⟩⟩:=a;obtain⟨⟨b⟩⟩:=b;cases h;rfl
theorem Zff(x:Str):Txt.split x blank≠[]:=by
 unfold Txt.split;split
 ·exact List.cons_ne_nil _ _
 ·split
  ·exact List.cons_ne_nil _ _
  ·intro z
   have l:=PyProof.Rows.len_partsBetween x (Builtin.Str.occurrences x blank 0 x.length (x.length+1)) blank.length;rw[z] at l;cases l
theorem Sd(ws:List Str)(h:ws≠[])(hf:∀ w∈ws,32∉w.cps.toList):Txt.split (Txt.join blank ws) blank=ws:=by
 have e1:Txt.join blank (Txt.split (Txt.join blank ws) blank)=Txt.join blank ws:=by
  have z:=StrLaws.join_split (Txt.join blank ws) blank;rw[← StrLaws.glued_eq_join] at z;exact z
 have e2:=congrArg (fun s:Str=>s.cps.toList) e1;rw[E5,E5] at e2;have e3:=Mr _ _ (fun z=>Zff _ (List.map_eq_nil_iff.mp z)) (fun z=>h (List.map_eq_nil_iff.mp z)) (fun x hx=>?_) (fun y hy=>?_) e2
 ·have inj:∀ a b:List Str,(a.map fun w=>w.cps.toList)=(b.map fun w=>w.cps.toList)→a=b:=by
   intro a
   induction a with
   | nil=>intro b hb;cases b with
    | nil=>rfl
    | cons y r=>cases hb
   | cons x r ih=>intro b hb;cases b with
    | nil=>cases hb
    | cons y r2=>
     injection hb with h1 h2
     rw[Dh h1,ih r2 h2]
  exact inj _ _ e3
 ·obtain⟨w,hw,rfl⟩:=Z2.mp hx
  rw[M6] at hw;exact StrLaws.split_free _ 32 w hw
 ·obtain⟨w,hw,rfl⟩:=Z2.mp hy
  exact hf w hw
theorem Zho(sep:Str)(ws:List Str):(Txt.join sep ws).length≤(ws.map (·.length)).sum+ws.length * sep.length:=by
 unfold Txt.join;rw[StrLaws.glued_eq_join];exact StrLaws.join_length_le sep ws
theorem Zeo:blank.length=1:=by decide +kernel
def vN(ys:List Nat):List V:=ys.map fun c=>V.int (c:Nat)
theorem Jq(ys:List Nat):(vN ys).length=ys.length:=Zi _
theorem Nf(ys:List Nat):vN ys=(ys.map fun c=>((c:Nat):Int)).map V.int:=by unfold vN;rw[Z8];rfl
theorem Bb:∀(ys:List Str),(vS ys).all U3=true
 | []=>rfl
 | _ :: ys=>by
  show(true && (vS ys).all U3)=true;rw[Bb ys];rfl
def Qn(i:Nat):Str:=⟨#[49+i]⟩
def Uq(l:List Nat):Str:=⟨(l.map (49 + ·)).toArray⟩
theorem Qj(l:List Nat):(Uq l).length=l.length:=by
 show((l.map (49 + ·)).toArray).size=_;rw[List.size_toArray,Zi]
theorem Zeh(l:List Nat):Na (Uq l)=l.map Qn:=by
 unfold Na Uq;rw[show(⟨(l.map (49 + ·)).toArray⟩:Str).cps.toList=l.map (49 + ·) from rfl,Z8];rfl
theorem Rg:∀{xs ys:List Nat},xs.Perm ys→xs.Pairwise (·≤·)→ys.Pairwise (·≤·)→xs=ys
 | [],ys,p,_,_=>p.nil_eq
 | x :: xs,[],p,_,_=>by have:=p.length_eq;cases this
 | x :: xs,y :: ys,p,hx,hy=>by
  obtain⟨hx1,hx2⟩:=List.pairwise_cons.mp hx;obtain⟨hy1,hy2⟩:=List.pairwise_cons.mp hy;have e:x=y:=by
   have a:x∈y :: ys:=p.subset (Zw ..);have b:y∈x :: xs:=p.symm.subset (Zw ..);rcases List.mem_cons.mp a with a | a
   ·exact a
   ·rcases List.mem_cons.mp b with b | b
    ·exact b.symm
    ·have:=hx1 y b
     have:=hy1 x a;omega
  subst e;rw[Rg p.cons_inv hx2 hy2]
theorem Zl3{a b:Nat}(h:ltCps (Qn b).cps.toList (Qn a).cps.toList=false):a≤b:=by
 rw[PyProof.Rows.ltCps_eq] at h;have h2:¬ ([49+b]:List Nat) < [49+a]:=of_decide_eq_false h;rcases Nat.lt_or_ge b a with z | z
 ·exact absurd (List.cons_lt_cons_iff.mpr (.inl (by omega))) h2
 ·exact z
theorem Mj:∀{a:Nat} {l:List Nat},risingS (Qn a) (l.map Qn)=true→(a :: l).Pairwise (·≤·)
 | a,[],_=>List.pairwise_singleton ..
 | a,b :: l,h=>by
  have h':(!ltCps (Qn b).cps.toList (Qn a).cps.toList && risingS (Qn b) (l.map Qn))=true:=h;rw[Bool.and_eq_true] at h';have ab:a≤b:=Zl3 (by simpa using h'.1);have r:=Mj (a:=b) (l:=l) h'.2;refine List.pairwise_cons.mpr ⟨fun c hc=>?_,r⟩;rcases List.mem_cons.mp hc with e | hc
  ·omega
  ·have:=(List.pairwise_cons.mp r).1 c hc
   omega
theorem Zcz:∀{l:List Nat},sortedS (l.map Qn)=true→l.Pairwise (·≤·)
 | [],_=>.nil
 | a :: l,h=>Mj (show risingS (Qn a) (l.map Qn)=true from h)
theorem A8:∀{ss:List Str} {l:List Nat},ss.Perm (l.map Qn)→∃ ks:List Nat,ss=ks.map Qn∧ks.Perm l:=by
 intro ss l p;have inj:∀ a b,Qn a=Qn b→a=b:=fun a b e=>by
  unfold Qn at e;injection e with e
  have e1:[49+a]=[49+b]:=congrArg Array.toList e;injection e1 with e1
  omega
 refine⟨ss.map (fun s=>s.cps.toList.headD 0 - 49),?_,?_⟩
 ·rw[Z8]
  have:∀ s∈ss,(Qn ∘ fun s:Str=>s.cps.toList.headD 0 - 49) s=s:=fun s hs=>by
   obtain⟨i,_,rfl⟩:=Z2.mp (p.subset hs);show Qn ((49+i) - 49)=Qn i
   congr 1
   omega
  exact((Jz this).trans (List.map_id' ss)).symm
 ·have q:=p.map (fun s:Str=>s.cps.toList.headD 0 - 49)
  rw[Z8] at q;have:l.map ((fun s:Str=>s.cps.toList.headD 0 - 49) ∘ Qn)=l:=by
   have:∀ i∈l,((fun s:Str=>s.cps.toList.headD 0 - 49) ∘ Qn) i=i:=fun i _=>by
    show(49+i) - 49=i;omega
   exact(Jz this).trans (List.map_id' _)
  rw[this] at q;exact q
theorem Oe(h:Nat):(List.range h).Pairwise (·≤·):=(List.pairwise_lt_range).imp fun h=>J2 h
theorem Oj{ss:List Str}{l:List Nat}{h:Nat}(hl:l.Perm (List.range h))(p:ss.Perm (Na (Uq l)))(s:sortedS ss=true):ss=(List.range h).map Qn:=by
 rw[Zeh] at p;obtain⟨ks,rfl,pk⟩:=A8 p;rw[Rg (pk.trans hl) (Zcz s) (Oe h)]
theorem Zd7:∀ h≤8,Na (Txt.slice sFig none (some ((h:Nat):Int)))=(List.range h).map Qn:=by decide +kernel
theorem Zh0:∀ i < 8,Txt.find sFig (Qn i)=((i:Nat):Int):=by decide +kernel
theorem Tk:∀(ys:List Str),B6 (vS ys) (vS ys)=true
 | []=>rfl
 | y :: ys=>by
  show((y == y) && B6 (vS ys) (vS ys))=true;rw[Tk ys,beq_self_eq_true];rfl
structure Fx where
 s:Nat
 h:Nat
 n:Nat
 d:_root_.Fin 4
 pl:List Nat
 tr:List Nat
structure Fx.Ok(f:Fx):Prop where
 s1:1≤f.s
 s4:f.s≤4
 h1:1≤f.h
 h8:f.h≤8
 n34:f.n=3∨f.n=4
 pp:f.pl.Perm (List.range f.h)
 pt:f.tr.Perm (List.range f.h)
def Qp(f:Fx):Str:=⟨#[48+f.s,120,48+f.h]⟩
def Qc(f:Fx):Str:=⟨#[48+f.n]⟩
def De(f:Fx):List Str:=["pack",Qp f,"seats",Qc f,"duty",wd f.d,"plain",Uq f.pl,"trump",Uq f.tr]
def T2(f:Fx):Str:=Txt.join blank (De f)
theorem Zbv{l:List Nat}{h:Nat}(p:l.Perm (List.range h)):∀ i∈l,i < h:=fun i hi=>Jm.mp (p.subset hi)
theorem Y1{l:List Nat}{h:Nat}(p:l.Perm (List.range h)):l.length=h:=by rw[p.length_eq,J4]
theorem Kl(l:List Nat):32∉(Uq l).cps.toList:=by
 rw[show(Uq l).cps.toList=l.map (49 + ·) from rfl];intro z;obtain⟨i,_,e⟩:=Z2.mp z;omega
theorem Zio:∀ i:_root_.Fin 4,32∉(wd i).cps.toList:=by decide +kernel
theorem Zcw(f:Fx):Txt.split (T2 f) blank=De f:=by
 refine Sd (De f) (by unfold De;exact List.cons_ne_nil _ _) ?_;refine all_cons (by decide +kernel) (all_cons ?_ (all_cons (by decide +kernel) (all_cons ?_ (all_cons (by decide +kernel) (all_cons (Zio _) (all_cons (by decide +kernel) (all_cons (Kl _) (all_cons (by decide +kernel) (all_cons (Kl _) Zk1)))))))))
 ·show 32∉[48+f.s,120,48+f.h]
  simp;omega
 ·show 32∉[48+f.n]
  simp;omega
theorem Zit{f:Fx}(ok:f.Ok):(T2 f).length≤99:=by
 have j:=Zho blank (De f);have e:((De f).map (·.length)).sum≤4+(3+(5+(1+(4+(6+(5+(8+(5+(8+0))))))))):=by
  have a:=(Zeu f.d).2;have b:(Uq f.pl).length≤8:=by rw[Qj,Y1 ok.pp];exact ok.h8
  have c:(Uq f.tr).length≤8:=by rw[Qj,Y1 ok.pt];exact ok.h8
  show 4+(3+(5+(1+(4+((wd f.d).length+(5+((Uq f.pl).length+(5+((Uq f.tr).length+0)))))))))≤_;omega
 have e2:(De f).length=10:=rfl;rw[e2,Zeo] at j;have:(T2 f).length=(Txt.join blank (De f)).length:=rfl;omega
theorem Dg:∀ i≤8,(toString ((i:Nat):Int):Str)=⟨#[48+i]⟩:=by decide +kernel
theorem Os:∀ ws:List Str,(Txt.join "" ws).cps.toList=(ws.map fun w=>w.cps.toList).flatten:=by
 intro ws;unfold Txt.join;rw[StrLaws.glued_eq_join]
 induction ws with
 | nil=>rfl
 | cons x r ih=>
  cases r with
  | nil=>
   show x.cps.toList=x.cps.toList++[];rw[Yb]
  | cons y r=>
   show(x ++ "" ++ Str.join "" (y :: r)).cps.toList=x.cps.toList++((y :: r).map fun w=>w.cps.toList).flatten;rw[← ih];show((x.cps++("":Str).cps)++(Str.join "" (y :: r)).cps).toList=_;rw[Array.toList_append,Array.toList_append];have e:("":Str).cps.toList=[]:=by decide +kernel
   rw[e,Yb]
theorem Kg(l:List Nat):Txt.join "" (l.map Qn)=Uq l:=by
 refine Dh ?_;rw[Os,Z8];show((l.map fun i=>[49+i]).flatten)=l.map (49 + ·)
 induction l with
 | nil=>rfl
 | cons i l ih=>rw[List.map_cons,List.flatten_cons,ih];rfl
def sgV(x:V):V:=match x with | .int i=>.str ⟨#[48+(i+1).toNat]⟩ | _=>.non
theorem Dy(i:Nat):sgV (.int (i:Nat)) = .str ⟨#[48+(i+1)]⟩:=by
 show V.str ⟨#[48+(((i:Nat):Int)+1).toNat]⟩=_;have e:(((i:Nat):Int)+1).toNat=i+1:=by omega
 rw[e]
theorem Ad(l:List Nat):((vN l).filter fun _=>true).map sgV=vS (l.map Qn):=by
 rw[List.filter_eq_self.mpr (fun _ _=>rfl)];unfold vN vS;rw[Z8,Z8];refine Jz fun i _=>?_;show sgV (.int (i:Nat)) = .str (Qn i);rw[Dy];unfold Qn;rw[show 48+(i+1)=49+i by omega]
theorem Zbn{l:List Nat}{h:Nat}(p:l.Perm (List.range h))(h8:h≤8):((l.map Qn).map (·.length)).sum+(l.map Qn).length * ("":Str).length≤16777216:=by
 have e:∀ l:List Nat,((l.map Qn).map (·.length)).sum=l.length:=fun l=>by
  induction l with
  | nil=>rfl
  | cons i l ih=>
   show 1+((l.map Qn).map (·.length)).sum=_;rw[ih,Jk];omega
 have z:("":Str).length=0:=by decide +kernel
 rw[e,z,Y1 p];omega
theorem Zis(f:Fx):(("pack ":Str)++⟨#[48+f.s]⟩ ++ "x" ++ ⟨#[48+f.h]⟩ ++ " seats " ++ ⟨#[48+f.n]⟩ ++ " duty " ++ wd f.d ++ " plain " ++ Uq f.pl ++ " trump " ++ Uq f.tr)=T2 f:=by
 refine Dh ?_;unfold T2;rw[E5];have ap:∀ a b:Str,(a++b).cps.toList=a.cps.toList++b.cps.toList:=fun a b=>by
  show(a.cps++b.cps).toList=_;rw[Array.toList_append]
 rw[ap,ap,ap,ap,ap,ap,ap,ap,ap,ap,ap];show _=("pack":Str).cps.toList++32 :: ([48+f.s,120,48+f.h]++32 :: (("seats":Str).cps.toList++32 :: ([48+f.n]++32 :: (("duty":Str).cps.toList++32 :: ((wd f.d).cps.toList++32 :: (("plain":Str).cps.toList++32 :: ((Uq f.pl).cps.toList++32 :: (("trump":Str).cps.toList++32 :: (Uq f.tr).cps.toList))))))));have e1:("pack ":Str).cps.toList=("pack":Str).cps.toList++[32]:=by decide +kernel
 have e2:("x":Str).cps.toList=[120]:=by decide +kernel
 have e3:(" seats ":Str).cps.toList=32 :: (("seats":Str).cps.toList++[32]):=by decide +kernel
 have e4:(" duty ":Str).cps.toList=32 :: (("duty":Str).cps.toList++[32]):=by decide +kernel
 have e5:(" plain ":Str).cps.toList=32 :: (("plain":Str).cps.toList++[32]):=by decide +kernel
 have e6:(" trump ":Str).cps.toList=32 :: (("trump":Str).cps.toList++[32]):=by decide +kernel
 rw[e1,e2,e3,e4,e5,e6];simp [Qs]
end My
namespace My
open PySem L2
def top(i:Nat):Stmt:=PySem.Challenge.pw_trickproof_k25_cards_refused.main.body.getD i (.Pass ⟨0,0,0,0⟩)
abbrev Vo:Stmt:=Yo (top 48) 0
abbrev Es:Stmt:=Yo (top 49) 0
abbrev Gi:Stmt:=Yo (top 50) 0
abbrev Vq:Stmt:=Yo (top 51) 0
abbrev Ob:Stmt:=top 52
abbrev S3:Stmt:=top 55
abbrev Vm:Stmt:=top 56
abbrev Ny:Stmt:=top 57
abbrev Q8:Stmt:=top 58
section
variable{P:Program}{w:World}{K:W.Frag}{mg:Str→Option Value}{base:Heap}{f g:Addr}{fd gd:FuncData}
theorem Sr:FnScope ["self"] ["self"] (Zp Vo):=⟨rfl,rfl,rfl,by decide +kernel,rfl,by decide +kernel,by decide +kernel⟩
theorem D0:FnScope ["self"] ["self"] (Zp Es):=⟨rfl,rfl,rfl,by decide +kernel,rfl,by decide +kernel,by decide +kernel⟩
theorem Zc3:FnScope ["self"] ["self"] (Zp Gi):=⟨rfl,rfl,rfl,by decide +kernel,rfl,by decide +kernel,by decide +kernel⟩
theorem Ss:FnScope ["self"] ["self"] (Zp Vq):=⟨rfl,rfl,rfl,by decide +kernel,rfl,by decide +kernel,by decide +kernel⟩
theorem A2{k:Nat}(F:Fun K "word" "Free.word" Vo f fd):FnOk P w K mg base Y4 (k+1) f fd ["self"] (R7 0):=Rz F Sr rfl fun _ _ _ _ h=>h
theorem T7{k:Nat}(F:Fun K "word" "Follow.word" Es f fd):FnOk P w K mg base Y4 (k+1) f fd ["self"] (R7 1):=Rz F D0 rfl fun _ _ _ _ h=>h
theorem Zah{k:Nat}(F:Fun K "word" "Cut.word" Gi f fd):FnOk P w K mg base Y4 (k+1) f fd ["self"] (R7 2):=Rz F Zc3 rfl fun _ _ _ _ h=>h
theorem A5{k:Nat}(F:Fun K "word" "Beat.word" Vq f fd):FnOk P w K mg base Y4 (k+1) f fd ["self"] (R7 3):=Rz F Ss rfl fun _ _ _ _ h=>h
theorem scDutyOf:FnScope ["word","duty"] ["word"] (Zp Ob):=⟨rfl,rfl,rfl,by decide +kernel,rfl,by decide +kernel,by decide +kernel⟩
theorem Mp{k:Nat}{CN:Addr}{cs fw:Fin 4→Addr}{fdw:Fin 4→FuncData}(F:Fun K "duty_of" "duty_of" Ob f fd)(D:DutyC K mg cs CN)(W:Zik P w K mg base k cs fw fdw):FnOk P w K mg base (V8 P w) (k+1) f fd ["word"] (Sj cs CN):=by
 refine F.okX scDutyOf (fun vs H Q E h=>?_) (fun cdv A outer s H vs Q E hr h T=>?_)
 ·obtain⟨x,rfl,_⟩:=h
  rfl
 obtain⟨t,rfl,q,qn⟩:=h;refine⟨_,Zg (X0 T.own rfl (Oh (Y2 (Za (Bn (D.mak 0) rfl D.mF) (Za (Bn (D.mak 1) rfl D.mL) (Za (Bn (D.mak 2) rfl D.mC) (Za (Bn (D.mak 3) rfl D.mB) Zh)))))) (Jr (i:=1) scDutyOf.nd rfl (Or.inl rfl))
   (Zq (Ju (Z7 Uc (Mm (pv 1) W hr Jh) (pv 0) (Jd _)) (Zq (Z6 (pv 1))) Jg)))
  (Zq (Qd T hr.hd rfl D.mN D.hN (Za Ji Zh))),?_⟩
 intro x0 d0 hx0 hd0 n0 x1 d1 hx1 hd1 n1 x2 d2 hx2 hd2 n2 x3 d3 hx3 hd3 n3;refine⟨Jl 4 (by decide),fun p hp=>?_⟩;have s0:=Xi (o:=.ins (cs 0) d0 []) hx0 hd0 n0;have s1:=Xi (o:=.ins (cs 1) d1 []) hx1 hd1 n1;have s2:=Xi (o:=.ins (cs 2) d2 []) hx2 hd2 n2;have s3:=Xi (o:=.ins (cs 3) d3 []) hx3 hd3 n3;have sp:=Zy hp (.tup [.ref x0,.ref x1,.ref x2,.ref x3]);have sA:=s0.trans (s1.trans (s2.trans (s3.trans sp)));have g0:=sp _ _ (s3 _ _ (s2 _ _ (s1 _ _ (Zj (a:=x0) (o:=.ins (cs 0) d0 [])))));have g1:=sp _ _ (s3 _ _ (s2 _ _ (Zj (a:=x1) (o:=.ins (cs 1) d1 []))));have g2:=sp _ _ (s3 _ _ (Zj (a:=x2) (o:=.ins (cs 2) d2 [])));have g3:=sp _ _ (Zj (a:=x3) (o:=.ins (cs 3) d3 []));have gp:=Zj (H:=upd (upd (upd (upd (upd (upd (upd (upd H d0 (.own x0)) x0 (.ins (cs 0) d0 [])) d1 (.own x1)) x1 (.ins (cs 1) d1 [])) d2 (.own x2)) x2 (.ins (cs 2) d2 [])) d3 (.own x3)) x3 (.ins (cs 3) d3 [])) (a:=p) (o:=.tup [.ref x0,.ref x1,.ref x2,.ref x3])
 revert g0 g1 g2 g3 gp sA
 generalize upd _ p (.tup [.ref x0,.ref x1,.ref x2,.ref x3])=H4;intro sA g0 g1 g2 g3 gp;have hx1':=s0.free hx1;have hx2':=s0.free (s1.free hx2);have hx3':=s0.free (s1.free (s2.free hx3));have G:∀(i:Nat) (x:V),([V.ref x0,V.ref x1,V.ref x2,V.ref x3]:List V)[i]? = some x→∃(j:Fin 4) (y dy:Addr),j.val=i∧x = .ref y∧H y=none∧H4 y=some (.ins (cs j) dy []):=fun i x hx=>by
  match i,hx with
  | 0,hx=>exact⟨0,x0,d0,rfl,(Zn hx).symm,hx0,g0⟩
  | 1,hx=>exact⟨1,x1,d1,rfl,(Zn hx).symm,hx1',g1⟩
  | 2,hx=>exact⟨2,x2,d2,rfl,(Zn hx).symm,hx2',g2⟩
  | 3,hx=>exact⟨3,x3,d3,rfl,(Zn hx).symm,hx3',g3⟩
 refine⟨p,rfl,⟨_,SqT.of gp⟩,Zkq (xs:=[.ref x0,.ref x1,.ref x2,.ref x3]) (fun i σ H'=>H'=H4∧(∃ x,σ=[some (.str t),x])∧∀ j:Fin 4,j.val < i→t≠wd j) ⟨rfl,⟨_,rfl⟩,fun j hj=>absurd hj (Nat.not_lt_zero _)⟩ (fun i σ H' _ z=>by obtain⟨rfl,_⟩:=z;exact SqT.of gp) (fun i x σ H' hx z=>?_) (fun σ H' z=>?_)⟩
 ·obtain⟨rfl,⟨x',rfl⟩,hno⟩:=z
  obtain⟨j,y,dy,hj,rfl,hy,gy⟩:=G i x hx;refine⟨_,rfl,j,y,dy,[],rfl,gy,rfl,y,rfl,_,rfl,rfl,_,rfl,Bz (fun c=>?_) (fun c=>?_)⟩
  ·have c':=Jx c
   injection c' with c'
   exact⟨_,rfl,q j c'.symm y dy H' sA hy gy⟩
  ·refine⟨rfl,⟨_,rfl⟩,fun j' hj' e=>?_⟩
   by_cases lt:j'.val < i
   ·exact hno j' lt e
   ·have ej:j'=j:=Fin.ext (by omega)
    subst ej;exact c (Zf (by rw[e]))
 ·obtain⟨rfl,⟨x',rfl⟩,hno⟩:=z
  refine⟨Jl 1 (by decide),qn (fun z=>?_) _ sA⟩;obtain⟨j,hj⟩:=Zlu z;exact hno j j.isLt hj
def Zbf:Sp:=fun vs H Q _=>∃ f:Fx,vs=[.str (T2 f)]∧f.Ok∧∀ l H',Same H H'→H l=none→H' l=some (.lst (vS [Qp f,Qc f,wd f.d,Uq f.pl,Uq f.tr]))→Q (.ref l) H'
theorem scMarks:FnScope ["text","words"] ["text"] (Zp S3):=⟨rfl,rfl,rfl,by decide +kernel,rfl,by decide +kernel,by decide +kernel⟩
def Bv:List Str:=["pack","seats","duty","plain","trump"]
theorem Zgv{k:Nat}{CN aM:Addr}(F:Fun K "words_behind_marks" "words_behind_marks" S3 f fd)(mM:mg "MARKS" = some (.ref aM))(hM:∀ H,SqT K H aM (vS Bv))(mC:mg "NoTable" = some (.ref CN))(hC:W.excIn K CN Uk "ValueError.__new__" = true)
  (mi:mg "isinstance" = none) (ms:mg "str" = none) (ml:mg "len" = none) (mt:mg "tuple" = none):FnOk P w K mg base (V8 P w) (k+1) f fd ["text"] Zbf:=by
 refine F.okX scMarks (fun vs H Q E h=>?_) (fun cdv A outer s H vs Q E hr h T=>?_)
 ·obtain⟨x,rfl,_⟩:=h
  rfl
 obtain⟨fx,rfl,ok,q⟩:=h;refine⟨_,Zg (Ju (Eb (Ug (Jf Va rfl mi Js (Za (pv 0) (Za (Bq (v:=.ty "str") rfl ms PyProof.Rows.boot_str rfl) Zh))) (fun _=>rfl))) (Zq (Qd T hr.hd rfl mC hC (Za Ji Zh))) Jg)
  (Zg (Z4 (i:=1) scMarks.nd rfl (Or.inl rfl) (U5 PySem.F.plainAttrs_str PySem.F.slot_str_split PySem.F.type_str_split Zhd (pv 0) (Za Ji Zh)))
  (Zg (Ju (PW.pt (Ek (Z7 Qf (Jf Je rfl ml Z5 (Za (pv 1) Zh)) (Z0 Xd Zl (Jf Je rfl ml Z5 (Za (J0 (v:=.ref aM) rfl mM rfl) Zh))) (Jd _))
    (Qt (Z7 (Zjs hr.units) (Yf Xe rfl mt Y6 (Za (Zbw (pv 1) (Qq Zl) (Qq Zl)) Zh)) (J0 (v:=.ref aM) rfl mM rfl) (Jd _))))) (Zq (Qd T hr.hd rfl mC hC (Za Ji Zh))) Jg)
  (Zq (Z6 (Zbw (pv 1) (Qq Zl) (Qq Zl)))))),?_⟩
 have tl:=Zit ok;refine⟨_,rfl,_,_,_,true,rfl,.str _,rfl,true,rfl,J9 ?_⟩;refine⟨_,rfl,rfl,T2 fx,blank,rfl,rfl,(by decide +kernel),by omega,fun l hl=>?_⟩;rw[Zcw];have s1:=Zy hl (.lst (vS (De fx)));refine⟨_,rfl,l,_,rfl,.inl (SqL.of Zj),aM,_,rfl,.inr (hM _),_,_,rfl,rfl,.inl ⟨by decide,by decide⟩,rfl,_,rfl,J9 ?_⟩;refine⟨_,rfl,_,rfl,_,rfl,rfl,l,.str "pack",.str (Qp fx),.str "seats",.str (Qc fx),.str "duty",.str (wd fx.d),.str "plain",.str (Uq fx.pl),.str "trump",.str (Uq fx.tr),rfl,SqL.of Zj,.inl ⟨rfl,fun p hp=>?_⟩⟩;have s2:=Zy hp (.lst (vS Bv));refine⟨p,vS Bv,rfl,.inl ⟨SqL.of Zj,fun p2 hp2=>?_⟩⟩;have s3:=Zy hp2 (.tup (vS Bv));refine⟨p2,aM,vS Bv,vS Bv,rfl,rfl,⟨SqT.of Zj,hM _⟩,Bb _,Bb _,_,rfl,?_⟩;show if(!B6 (vS Bv) (vS Bv))=true then _ else _
 rw[Tk];refine J9 ?_;have sA:=s1.trans (s2.trans s3);refine⟨_,rfl,_,rfl,_,rfl,rfl,l,.str "pack",.str (Qp fx),.str "seats",.str (Qc fx),.str "duty",.str (wd fx.d),.str "plain",.str (Uq fx.pl),.str "trump",.str (Uq fx.tr),rfl,SqL.of (s3 _ _ (s2 _ _ Zj)),.inr ⟨rfl,fun p3 hp3=>?_⟩⟩;exact q p3 _ (sA.trans (Zy hp3 _)) (sA.free hp3) Zj
def Zfg:Sp:=fun vs H Q _=>∃ f:Fx,vs=[.str (Qp f)]∧f.Ok∧∀ p H',Same H H'→H p=none→H' p=some (.tup [.int (f.s:Nat),.int (f.h:Nat)])→Q (.ref p) H'
theorem scSize:FnScope ["word","suits","heights"] ["word"] (Zp Vm):=⟨rfl,rfl,rfl,by decide +kernel,rfl,by decide +kernel,by decide +kernel⟩
theorem Zjx{k:Nat}{CN:Addr}{t1 t2:Tok}(F:Fun K "read_size" "read_size" Vm f fd)(mF:mg "FIGURES" = some (.str sFig t1))(mL:mg "LETTERS" = some (.str sLet t2))(mC:mg "NoTable" = some (.ref CN))(hC:W.excIn K CN Uk "ValueError.__new__" = true)(ml:mg "len" = none) :
  FnOk P w K mg base (V8 P w) (k+1) f fd ["word"] Zfg:=by
 refine F.okX scSize (fun vs H Q E h=>?_) (fun cdv A outer s H vs Q E hr h T=>?_)
 ·obtain⟨x,rfl,_⟩:=h
  rfl
 obtain⟨fx,rfl,ok,q⟩:=h;refine⟨_,Zg (Ju (PW.pt (Ek (Z7 Qf (Jf B9 rfl ml Z5 (Za (pv 0) Zh)) Zl (Jd _)) (Qt (Z7 Qf (Jn Tf (pv 0) Zl (fun _ _=>rfl)) Ji (Jd _))))) (Zq (Qd T hr.hd rfl mC hC (Za Ji Zh))) Jg)
  (Zg (Z4 (i:=1) scSize.nd rfl (Or.inl rfl) (Z0 Yq (U5 PySem.F.plainAttrs_str PySem.F.slot_str_find PySem.F.type_str_find Op (J0 (v:=.str sFig) rfl mF ⟨_,rfl⟩) (Za (Jn Tf (pv 0) Zl (fun _ _=>rfl)) Zh)) Zl))
  (Zg (Z4 (i:=2) scSize.nd rfl (Or.inl rfl) (Z0 Yq (U5 PySem.F.plainAttrs_str PySem.F.slot_str_find PySem.F.type_str_find Op (J0 (v:=.str sFig) rfl mF ⟨_,rfl⟩) (Za (Jn Tf (pv 0) Zl (fun _ _=>rfl)) Zh)) Zl))
  (Zg (Ju (PW.pt (Ek (Z7 Uc (pv 1) Zl (Jd _)) (Ek (Z7 Qg (pv 1) (Jf B9 rfl ml Z5 (Za (J0 (v:=.str sLet) rfl mL ⟨_,rfl⟩) Zh)) (Jd _)) (Qt (Z7 Uc (pv 2) Zl (Jd _)))))) (Zq (Qd T hr.hd rfl mC hC (Za Ji Zh))) Jg)
  (Zq (Z6 (Y2 (Za (pv 1) (Za (pv 2) Zh)))))))),?_⟩
 have hz:(Qp fx).length≤sizeLine:=Jl 3 (by decide);have at0:Xg (Qp fx).cps.toList 0=some (48+fx.s):=Um (j:=0) rfl;have at1:Xg (Qp fx).cps.toList 1=some 120:=Um (j:=1) rfl;have at2:Xg (Qp fx).cps.toList 2=some (48+fx.h):=Um (j:=2) rfl;have s1:=ok.s1;have s4:=ok.s4;have h1:=ok.h1;have h8:=ok.h8;refine⟨_,rfl,_,rfl,hz,rfl,_,rfl,J9 ⟨_,rfl,_,_,_,rfl,rfl,hz,at1,rfl,_,rfl,?_⟩⟩;rw[Zf (show V.str ⟨#[120]⟩=V.str "x" by decide +kernel)];refine J9 ?_;refine⟨rfl,_,rfl,_,_,_,rfl,rfl,hz,at0,_,_,rfl,rfl,_,_,rfl,rfl,?_⟩;refine⟨rfl,_,rfl,_,_,_,rfl,rfl,hz,at2,_,_,rfl,rfl,_,_,rfl,rfl,?_⟩;rw[Kk,Kk,if_pos (by omega),if_pos (by omega)];have e1:((48+fx.s - 49:Nat):Int)+1=((fx.s:Nat):Int):=by omega
 have e2:((48+fx.h - 49:Nat):Int)+1=((fx.h:Nat):Int):=by omega
 dsimp only;rw[e1,e2];refine⟨_,rfl,rfl,_,rfl,?_⟩;rw[Zd (fun y=>by injection y with y;omega)];refine J9 ⟨_,rfl,_,rfl,Jl 4 (by decide),_,_,rfl,rfl,_,rfl,?_⟩;have l4:((sLet.length:Nat):Int)=4:=by decide +kernel
 rw[l4,Zd (show ¬ (4:Int) < ((fx.s:Nat):Int) by omega)];refine J9 ⟨_,rfl,rfl,_,rfl,?_⟩;rw[Zd (fun y=>by injection y with y;omega)];refine J9 ⟨_,rfl,_,rfl,Jl 2 (by decide),fun p hp=>q p _ (Zy hp _) hp Zj⟩
def Zbe:Sp:=fun vs H Q _=>∃ f:Fx,vs=[.str (Qc f)]∧f.Ok∧∀ H',Same H H'→Q (.int (f.n:Nat)) H'
theorem Zi3:FnScope ["word"] ["word"] (Zp Ny):=⟨rfl,rfl,rfl,by decide +kernel,rfl,by decide +kernel,by decide +kernel⟩
theorem Zgo{k:Nat}{CN:Addr}(F:Fun K "read_seats" "read_seats" Ny f fd)(mC:mg "NoTable" = some (.ref CN))(hC:W.excIn K CN Uk "ValueError.__new__" = true)(mI:mg "int" = none):FnOk P w K mg base (V8 P w) (k+1) f fd ["word"] Zbe:=by
 refine F.okX Zi3 (fun vs H Q E h=>?_) (fun cdv A outer s H vs Q E hr h T=>?_)
 ·obtain⟨x,rfl,_⟩:=h
  rfl
 obtain⟨fx,rfl,ok,q⟩:=h;refine⟨_,Zg (Ju (Z7 Y7 (pv 0) (Y2 (Za Ji (Za Ji Zh))) rfl) (Zq (Qd T hr.hd rfl mC hC (Za Ji Zh))) Jg)
  (Zq (Z6 (Yf Oz rfl mI U2 (Za (pv 0) Zh)))),?_⟩
 refine⟨_,rfl,Jl 2 (by decide),fun p hp=>?_⟩;have s1:=Zy hp (.tup (vS ["3","4"]));refine⟨p,vS ["3","4"],rfl,.inr (SqT.of Zj),rfl,rfl,_,rfl,?_⟩;show if(!B1 (.str (Qc fx)) (vS ["3","4"]))=true then _ else _
 rcases ok.n34 with e | e
 ·have es:Qc fx = "3":=by unfold Qc;rw[e];decide +kernel
  rw[es,show B1 (.str "3") (vS ["3","4"])=true by decide +kernel];refine J9 ⟨_,rfl,_,3,rfl,by decide +kernel,by decide +kernel,?_⟩;have:=q _ s1;rw[e] at this;exact this
 ·have es:Qc fx = "4":=by unfold Qc;rw[e];decide +kernel
  rw[es,show B1 (.str "4") (vS ["3","4"])=true by decide +kernel];refine J9 ⟨_,rfl,_,4,rfl,by decide +kernel,by decide +kernel,?_⟩;have:=q _ s1;rw[e] at this;exact this
def Zlb:Sp:=fun vs H Q _=>∃(l:List Nat) (h:Nat),vs=[.str (Uq l),.int (h:Nat)]∧h≤8∧l.Perm (List.range h)∧∀ p H',Same H H'→H p=none→H' p=some (.tup (vN l))→Q (.ref p) H'
theorem Zn6:FnScope ["word","heights"] ["word","heights"] (Zp Q8):=⟨rfl,rfl,rfl,by decide +kernel,rfl,by decide +kernel,by decide +kernel⟩
theorem Zmp{k:Nat}{CN:Addr}{t1:Tok}(F:Fun K "read_order" "read_order" Q8 f fd)(mF:mg "FIGURES" = some (.str sFig t1))(mC:mg "NoTable" = some (.ref CN))(hC:W.excIn K CN Uk "ValueError.__new__" = true)(mS:mg "sorted" = none)(mLi:mg "list" = none)(mt:mg "tuple" = none) :
  FnOk P w K mg base (V8 P w) (k+1) f fd ["word","heights"] Zlb:=by
 refine F.okX Zn6 (fun vs H Q E h=>?_) (fun cdv A outer s H vs Q E hr h T=>?_)
 ·obtain⟨l,h,rfl,_⟩:=h
  rfl
 obtain⟨l,h,rfl,h8,pm,q⟩:=h;refine⟨_,Zg (Ju (Z7 (Zjt hr.units) (Jf (Rq rfl) rfl mS PyProof.Rows.boot_sorted (Za (pv 0) Zh)) (Yf (Tw rfl) rfl mLi Ya (Za (Gs Zl2 (J0 (v:=.str sFig) rfl mF ⟨_,rfl⟩) Zbs (Qq (pv 1))) Zh)) (Jd _)) (Zq (Qd T hr.hd rfl mC hC (Za Ji Zh))) Jg)
  (Zq (Z6 (Yf Xe rfl mt Y6 (Za (Ui ["figure"] [none] rfl (Blk.by (sc:=Zp Q8) (N0:=["word","heights"]) rfl rfl (by decide +kernel)) (Zmc (pv 0)) (fun C s₀ H₀ ex=>Jr (i:=0) (show(["figure"]:List Str).Nodup by decide +kernel) rfl (Or.inl rfl))
   (fun C s₀ H₀ ex=>U4) (fun C s₀ H₀ ex=>Zgb (K:=K) rfl (J0 (v:=.str sFig) rfl mF ⟨_,rfl⟩) (Za (pv 0) Zh))) Zh)))),?_⟩
 have ll:l.length=h:=Y1 pm;refine⟨_,rfl,Uq l,rfl,(by rw[Qj];omega),fun l1 ss hl1 hp hs=>?_⟩;have es:=Oj pm hp hs;subst es;have s1:=Zy hl1 (.lst (vS ((List.range h).map Qn)));refine⟨_,rfl,_,rfl,sFig,rfl,(by decide +kernel),_,rfl,Nat.le_trans (Txt.slice_le _ _ _) (by decide +kernel),fun l2 hl2=>?_⟩;rw[Zd7 h h8];have s2:=Zy hl2 (.lst (vS ((List.range h).map Qn)));refine⟨l1,l2,_,_,rfl,rfl,⟨SqL.of (s2 _ _ Zj),SqL.of Zj⟩,Bb _,Bb _,_,rfl,?_⟩;show if(!B6 (vS ((List.range h).map Qn)) (vS ((List.range h).map Qn)))=true then _ else _
 rw[Tk];refine J9 ⟨_,rfl,Uq l,rfl,?_⟩;have sA:=s1.trans s2;refine B7 l.length (fun i=>.str (Qn (l.getD i 0))) (fun _=>true) (fun i=>.int ((l.getD i 0:Nat):Int)) (Jl _ (by omega)) (fun i H3 s3 hi=>?_) (fun H3 s3=>?_) (fun i H3 x H4 s3 hi y=>?_) (fun i H3 hi sm R hR=>hR H3 (Same.refl H3)) (fun i H3 hi hp sm R hR=>?_) (fun l3 H3 s3 hl3 hL3=>?_)
 ·show i < (Uq l).cps.size
  have:=Qj l;unfold Str.length at this;omega
 ·show(Uq l).cps.size≤l.length
  have:=Qj l;unfold Str.length at this;omega
 ·obtain⟨rfl,c,hc,rfl⟩:=y
  refine⟨rfl,?_⟩;have e:(Uq l).cps.toList[i]? = some c:=by rw[← hc];simp
  rw[show(Uq l).cps.toList=l.map (49 + ·) from rfl,Zm,Zb hi] at e;have e2:49+l[i]=c:=Zn e;rw[Zk,Zb hi,← e2];rfl
 ·have lt:l.getD i 0 < 8:=by
   rw[Zk,Zb hi];have:=Zbv pm l[i] (Yy hi);show l[i] < 8;omega
  refine⟨rfl,_,rfl,_,_,rfl,rfl,?_⟩;show R (.int (Txt.find sFig (Qn (l.getD i 0)))) H3;rw[Zh0 _ lt];exact hR H3 (Same.refl H3)
 ·have e:((List.range l.length).filter fun _=>true).map (fun i=>V.int ((l.getD i 0:Nat):Int))=vN l:=by
   have z:=Xx l (fun _=>true) (fun c=>V.int ((c:Nat):Int)) 0;rw[z,List.filter_eq_self.mpr (fun _ _=>rfl)];rfl
  rw[e] at hL3;refine⟨l3,_,rfl,.inl ⟨SqL.of hL3,fun p hp=>?_⟩⟩;have sB:=sA.trans s3;exact q p _ (sB.trans (Zy hp _)) (sB.free hp) Zj
end
def Keep(x:Addr)(H H':Hp):Prop:=∀ b o,b≠x→H b=some o→H' b=some o
theorem Keep.trans{x:Addr}{H H1 H2:Hp}(a:Keep x H H1)(b:Keep x H1 H2):Keep x H H2:=fun c o n h=>b c o n (a c o n h)
theorem Keep.of{x:Addr}{H H':Hp}(s:Same H H'):Keep x H H':=fun b o _ h=>s b o h
theorem Keep.upd{x:Addr}{H:Hp}{o:HO}:Keep x H (upd H x o):=fun b u n h=>by rw[Zu n];exact h
def tF1(f:Fx)(po to:Addr):List (Str×V):=Yu "suits" (.int (f.s:Nat)) []
def Sc(f:Fx)(po to:Addr):List (Str×V):=Yu "heights" (.int (f.h:Nat)) (tF1 f po to)
def K0(f:Fx)(po to:Addr):List (Str×V):=Yu "seats" (.int (f.n:Nat)) (Sc f po to)
def O2(f:Fx)(po to:Addr):List (Str×V):=Yu "duty_word" (.str (wd f.d)) (K0 f po to)
def Df(f:Fx)(po to:Addr):List (Str×V):=Yu "plain_order" (.ref po) (O2 f po to)
def tF6(f:Fx)(po to:Addr):List (Str×V):=Yu "trump_order" (.ref to) (Df f po to)
def Aa(f:Fx)(po to:Addr):List (Str×V):=Yu "written" (.str (T2 f)) (tF6 f po to)
abbrev Znp:=Aa
theorem Zbc(f:Fx)(po to:Addr):(tF1 f po to).length≤1:=Y8 _ _ _
theorem Zbb(f:Fx)(po to:Addr):(Sc f po to).length≤2:=Nat.le_trans (Y8 _ _ _) (Nat.succ_le_succ (Zbc f po to))
theorem Zba(f:Fx)(po to:Addr):(K0 f po to).length≤3:=Nat.le_trans (Y8 _ _ _) (Nat.succ_le_succ (Zbb f po to))
theorem Za9(f:Fx)(po to:Addr):(O2 f po to).length≤4:=Nat.le_trans (Y8 _ _ _) (Nat.succ_le_succ (Zba f po to))
theorem Za8(f:Fx)(po to:Addr):(Df f po to).length≤5:=Nat.le_trans (Y8 _ _ _) (Nat.succ_le_succ (Za9 f po to))
theorem Ziy(f:Fx)(po to:Addr):(tF6 f po to).length≤6:=Nat.le_trans (Y8 _ _ _) (Nat.succ_le_succ (Za8 f po to))
theorem Kd(f:Fx)(po to:Addr):(Aa f po to).lookup ("suits":Str)=some (V.int (f.s:Nat)):=by
 unfold Aa;rw[Zo];rw[if_neg (by decide +kernel)];unfold tF6;rw[Zo];rw[if_neg (by decide +kernel)];unfold Df;rw[Zo];rw[if_neg (by decide +kernel)];unfold O2;rw[Zo];rw[if_neg (by decide +kernel)];unfold K0;rw[Zo];rw[if_neg (by decide +kernel)];unfold Sc;rw[Zo];rw[if_neg (by decide +kernel)];unfold tF1;rw[Zo];rw[if_pos rfl]
theorem T8(f:Fx)(po to:Addr):(Aa f po to).lookup ("heights":Str)=some (V.int (f.h:Nat)):=by
 unfold Aa;rw[Zo];rw[if_neg (by decide +kernel)];unfold tF6;rw[Zo];rw[if_neg (by decide +kernel)];unfold Df;rw[Zo];rw[if_neg (by decide +kernel)];unfold O2;rw[Zo];rw[if_neg (by decide +kernel)];unfold K0;rw[Zo];rw[if_neg (by decide +kernel)];unfold Sc;rw[Zo];rw[if_pos rfl]
theorem Xk(f:Fx)(po to:Addr):(Aa f po to).lookup ("seats":Str)=some (V.int (f.n:Nat)):=by
 unfold Aa;rw[Zo];rw[if_neg (by decide +kernel)];unfold tF6;rw[Zo];rw[if_neg (by decide +kernel)];unfold Df;rw[Zo];rw[if_neg (by decide +kernel)];unfold O2;rw[Zo];rw[if_neg (by decide +kernel)];unfold K0;rw[Zo];rw[if_pos rfl]
theorem Rn(f:Fx)(po to:Addr):(Aa f po to).lookup ("duty_word":Str)=some (V.str (wd f.d)):=by
 unfold Aa;rw[Zo];rw[if_neg (by decide +kernel)];unfold tF6;rw[Zo];rw[if_neg (by decide +kernel)];unfold Df;rw[Zo];rw[if_neg (by decide +kernel)];unfold O2;rw[Zo];rw[if_pos rfl]
theorem Bx(f:Fx)(po to:Addr):(Aa f po to).lookup ("plain_order":Str)=some (V.ref po):=by
 unfold Aa;rw[Zo];rw[if_neg (by decide +kernel)];unfold tF6;rw[Zo];rw[if_neg (by decide +kernel)];unfold Df;rw[Zo];rw[if_pos rfl]
theorem Bw(f:Fx)(po to:Addr):(Aa f po to).lookup ("trump_order":Str)=some (V.ref to):=by
 unfold Aa;rw[Zo];rw[if_neg (by decide +kernel)];unfold tF6;rw[Zo];rw[if_pos rfl]
theorem Ma(f:Fx)(po to:Addr):(O2 f po to).lookup ("heights":Str)=some (V.int (f.h:Nat)):=by
 unfold O2;rw[Zo];rw[if_neg (by decide +kernel)];unfold K0;rw[Zo];rw[if_neg (by decide +kernel)];unfold Sc;rw[Zo];rw[if_pos rfl]
theorem T9(f:Fx)(po to:Addr):(Df f po to).lookup ("heights":Str)=some (V.int (f.h:Nat)):=by
 unfold Df;rw[Zo];rw[if_neg (by decide +kernel)];unfold O2;rw[Zo];rw[if_neg (by decide +kernel)];unfold K0;rw[Zo];rw[if_neg (by decide +kernel)];unfold Sc;rw[Zo];rw[if_pos rfl]
theorem Zap(f:Fx)(po to:Addr):(Aa f po to).lookup ("duty":Str)=none:=by
 unfold Aa;rw[Zo];rw[if_neg (by decide +kernel)];unfold tF6;rw[Zo];rw[if_neg (by decide +kernel)];unfold Df;rw[Zo];rw[if_neg (by decide +kernel)];unfold O2;rw[Zo];rw[if_neg (by decide +kernel)];unfold K0;rw[Zo];rw[if_neg (by decide +kernel)];unfold Sc;rw[Zo];rw[if_neg (by decide +kernel)];unfold tF1;rw[Zo];rw[if_neg (by decide +kernel)];rfl
theorem Ke(f:Fx)(po to:Addr):(Aa f po to).lookup ("order":Str)=none:=by
 unfold Aa;rw[Zo];rw[if_neg (by decide +kernel)];unfold tF6;rw[Zo];rw[if_neg (by decide +kernel)];unfold Df;rw[Zo];rw[if_neg (by decide +kernel)];unfold O2;rw[Zo];rw[if_neg (by decide +kernel)];unfold K0;rw[Zo];rw[if_neg (by decide +kernel)];unfold Sc;rw[Zo];rw[if_neg (by decide +kernel)];unfold tF1;rw[Zo];rw[if_neg (by decide +kernel)];rfl
structure TabC(K:W.Frag)(mg:Str→Option Value)(CT:Addr):Prop where
 cl:Cls K CT
 mT:mg "Table" = some (.ref CT)
 nS:NoAttr K CT "suits"
 nH:NoAttr K CT "heights"
 nN:NoAttr K CT "seats"
 nD:NoAttr K CT "duty_word"
 nP:NoAttr K CT "plain_order"
 nT:NoAttr K CT "trump_order"
 nW:NoAttr K CT "written"
def IsTab(CT:Addr)(f:Fx)(H:Hp)(x:Addr):Prop:=∃ dx po to,H x=some (.ins CT dx (Znp f po to))∧H po=some (.tup (vN f.pl))∧H to=some (.tup (vN f.tr))
theorem IsTab.same{CT x:Addr}{f:Fx}{H H':Hp}(h:IsTab CT f H x)(s:Same H H'):IsTab CT f H' x:=by
 obtain⟨dx,po,to,a,b,c⟩:=h;exact⟨dx,po,to,s _ _ a,s _ _ b,s _ _ c⟩
def Me(x:Addr)(tv:V):List (Str×V):=Yu "trump" tv (Yu "table" (.ref x) [])
theorem Up(x:Addr)(tv:V):(Me x tv).lookup ("table":Str)=some (V.ref x):=by
 unfold Me;rw[Zo,if_neg (by decide +kernel),Zo,if_pos rfl]
theorem X8(x:Addr)(tv:V):(Me x tv).lookup ("trump":Str)=some tv:=by
 unfold Me;rw[Zo,if_pos rfl]
theorem Qy(x:Addr)(tv:V)(m:Str)(h1:m≠"trump")(h2:m≠"table"):(Me x tv).lookup m=none:=by
 unfold Me;rw[Zo,if_neg h1,Zo,if_neg h2];rfl
structure GamC(K:W.Frag)(mg:Str→Option Value)(CG:Addr):Prop where
 cl:Cls K CG
 mG:mg "Game" = some (.ref CG)
 nT:NoAttr K CG "table"
 nU:NoAttr K CG "trump"
def IsGam(CG x:Addr)(tv:V)(H:Hp)(g:Addr):Prop:=∃ dg,H g=some (.ins CG dg (Me x tv))
theorem IsGam.same{CG x g:Addr}{tv:V}{H H':Hp}(h:IsGam CG x tv H g)(s:Same H H'):IsGam CG x tv H' g:=by
 obtain⟨dg,a⟩:=h;exact⟨dg,s _ _ a⟩
abbrev Gc:Stmt:=Yo (top 60) 0
theorem Zce{F:Hp→Prop}{H H':Hp}(e:H'=H)(h:F H):F H':=by rw[e];exact h
section
variable{P:Program}{w:World}{K:W.Frag}{mg:Str→Option Value}{base:Heap}{f g:Addr}{fd gd:FuncData}
def Zla(CT:Addr):Sp:=fun vs H Q _=>∃(x dx:Addr) (f:Fx),vs=[.ref x,.str (T2 f)]∧f.Ok∧H x=some (.ins CT dx [])∧∀ po to H',Keep x H H'→H' x=some (.ins CT dx (Znp f po to))→H' po=some (.tup (vN f.pl))→H' to=some (.tup (vN f.tr))→Q .non H'
theorem scTab:FnScope ["self","text","words","size"] ["self","text"] (Zp Gc):=⟨rfl,rfl,rfl,by decide +kernel,rfl,by decide +kernel,by decide +kernel⟩
theorem Zmo{k:Nat}{CT CN f1 f2 f3 f4 f5:Addr}{d1 d2 d3 d4 d5:FuncData}{cs fw:Fin 4→Addr}{fdw:Fin 4→FuncData}(F:Fun K "__init__" "Table.__init__" Gc f fd)(C:TabC K mg CT)(LM:LibX P w K mg base k "words_behind_marks" ["text"] Zbf f1 d1)(LZ:LibX P w K mg base k "read_size" ["word"] Zfg f2 d2)
  (LS:LibX P w K mg base k "read_seats" ["word"] Zbe f3 d3) (LO:LibX P w K mg base k "read_order" ["word","heights"] Zlb f4 d4) (LD:LibX P w K mg base k "duty_of" ["word"] (Sj cs CN) f5 d5) (W:Zik P w K mg base k cs fw fdw):FnOk P w K mg base Y4 (k+1) f fd ["self","text"] (Zla CT):=by
 refine F.ok scTab (fun vs H Q E h=>?_) (fun cdv A outer s H vs Q E hr h=>?_)
 ·obtain⟨x,dx,fx,rfl,_⟩:=h
  rfl
 obtain⟨x,dx,fx,rfl,ok,hx,q⟩:=h;refine⟨_,Zg (Z4 (i:=2) scTab.nd rfl (Or.inl rfl) (Z9 LM.ok hr rfl LM.mg LM.kp LM.bd .nil Gw (Za (pv 1) Zh)))
  (Zg (Z4 (i:=3) scTab.nd rfl (Or.inl rfl) (Z9 LZ.ok hr rfl LZ.mg LZ.kp LZ.bd .nil Gw (Za (Jn Yd (pv 2) Zl (fun _ _=>rfl)) Zh)))
  (Zg (Xh (pv 0) (Jn Jw (pv 3) Zl (fun _ _=>rfl)) rfl)
  (Zg (Xh (pv 0) (Jn Jw (pv 3) Zl (fun _ _=>rfl)) rfl)
  (Zg (Xh (pv 0) (Z9 LS.ok hr rfl LS.mg LS.kp LS.bd .nil Gw (Za (Jn Yd (pv 2) Zl (fun _ _=>rfl)) Zh)) rfl)
  (Zg (Xh (pv 0) (Mm (Z9 LD.ok hr rfl LD.mg LD.kp LD.bd .nil Gw (Za (Jn Yd (pv 2) Zl (fun _ _=>rfl)) Zh)) W hr Jh) rfl)
  (Zg (Xh (pv 0) (Z9 LO.ok hr rfl LO.mg LO.kp LO.bd .nil Gw (Za (Jn Yd (pv 2) Zl (fun _ _=>rfl)) (Za (Jy (pv 0) rfl) Zh))) rfl)
  (Zg (Xh (pv 0) (Z9 LO.ok hr rfl LO.mg LO.kp LO.bd .nil Gw (Za (Jn Yd (pv 2) Zl (fun _ _=>rfl)) (Za (Jy (pv 0) rfl) Zh))) rfl)
  (Zq (Xh (pv 0) (pv 1) rfl))))))))),?_⟩
 refine⟨_,rfl,fx,rfl,ok,fun l H1 s1 hl hL=>?_⟩;have hx1:=s1 _ _ hx;have nlx:l≠x:=X3 hL hx1 (by intro z;cases z);refine⟨_,rfl,l,_,0,.str (Qp fx),rfl,rfl,SqL.of hL,rfl,fx,rfl,ok,fun p H2 s2 hp hP=>?_⟩;have hx2:=s2 _ _ hx1;have hL2:=s2 _ _ hL;have npx:p≠x:=X3 hP hx2 (by intro z;cases z);refine⟨_,rfl,p,_,0,.int (fx.s:Nat),rfl,rfl,SqT.of hP,rfl,_,rfl,x,CT,dx,[],rfl,hx2,C.cl,C.nS,by decide,?_⟩;refine⟨_,rfl,p,[.int (fx.s:Nat),.int (fx.h:Nat)],1,.int (fx.h:Nat),rfl,rfl,SqT.of (by rw[Zu npx];exact hP),rfl,_,rfl,x,CT,dx,tF1 fx 0 0,rfl,Zj,C.cl,C.nH,Jj (Zbc _ _ _) (by decide),?_⟩;have k2:Keep x H (upd H2 x (.ins CT dx (Sc fx 0 0))):=(Keep.of (s1.trans s2)).trans Keep.upd;have hL3:(upd H2 x (.ins CT dx (Sc fx 0 0))) l=some (.lst (vS [Qp fx,Qc fx,wd fx.d,Uq fx.pl,Uq fx.tr])):=by rw[Zu nlx];exact hL2
 have hx3:(upd H2 x (.ins CT dx (Sc fx 0 0))) x=some (.ins CT dx (Sc fx 0 0)):=Zj;refine Zce (H:=upd H2 x (.ins CT dx (Sc fx 0 0))) ?_ ?_
 ·first | rfl | exact Uf | (rw[Uf];rfl)
 revert k2 hL3 hx3
 generalize upd H2 x (.ins CT dx (Sc fx 0 0))=H3;intro k2 hL3 hx3;refine⟨_,rfl,l,_,1,.str (Qc fx),rfl,rfl,SqL.of hL3,rfl,fx,rfl,ok,fun H4 s4=>⟨_,rfl,x,CT,dx,Sc fx 0 0,rfl,s4 _ _ hx3,C.cl,C.nN,Jj (Zbb _ _ _) (by decide),?_⟩⟩;have k4:Keep x H (upd H4 x (.ins CT dx (K0 fx 0 0))):=k2.trans ((Keep.of s4).trans Keep.upd);have hL5:(upd H4 x (.ins CT dx (K0 fx 0 0))) l=some (.lst (vS [Qp fx,Qc fx,wd fx.d,Uq fx.pl,Uq fx.tr])):=by rw[Zu nlx];exact s4 _ _ hL3
 have hx5:(upd H4 x (.ins CT dx (K0 fx 0 0))) x=some (.ins CT dx (K0 fx 0 0)):=Zj;refine Zce (H:=upd H4 x (.ins CT dx (K0 fx 0 0))) ?_ ?_
 ·first | rfl | exact Uf | (rw[Uf];rfl)
 revert k4 hL5 hx5
 generalize upd H4 x (.ins CT dx (K0 fx 0 0))=H5;intro k4 hL5 hx5;refine⟨_,rfl,l,_,2,.str (wd fx.d),rfl,rfl,SqL.of hL5,rfl,wd fx.d,rfl,fun i e y dy H6 s6 hy h6=>?_,fun z=>absurd (Zhf _) z⟩;have ei:=K2 _ _ e;subst ei;refine⟨fx.d,y,dy,[],rfl,h6,rfl,y,rfl,_,rfl,x,CT,dx,K0 fx 0 0,rfl,s6 _ _ hx5,C.cl,C.nD,Jj (Zba _ _ _) (by decide),?_⟩;have k6:Keep x H (upd H6 x (.ins CT dx (O2 fx 0 0))):=k4.trans ((Keep.of s6).trans Keep.upd);have hL7:(upd H6 x (.ins CT dx (O2 fx 0 0))) l=some (.lst (vS [Qp fx,Qc fx,wd fx.d,Uq fx.pl,Uq fx.tr])):=by rw[Zu nlx];exact s6 _ _ hL5
 have hx7:(upd H6 x (.ins CT dx (O2 fx 0 0))) x=some (.ins CT dx (O2 fx 0 0)):=Zj;refine Zce (H:=upd H6 x (.ins CT dx (O2 fx 0 0))) ?_ ?_
 ·first | rfl | exact Uf | (rw[Uf];rfl)
 revert k6 hL7 hx7
 generalize upd H6 x (.ins CT dx (O2 fx 0 0))=H7;intro k6 hL7 hx7;refine⟨_,rfl,l,_,3,.str (Uq fx.pl),rfl,rfl,SqL.of hL7,rfl,_,rfl,x,CT,dx,_,_,rfl,hx7,C.cl,C.nH,Ma _ _ _,fx.pl,fx.h,rfl,ok.h8,ok.pp,fun po H8 s8 hpo hP8=>⟨_,rfl,x,CT,dx,O2 fx po 0,rfl,s8 _ _ hx7,C.cl,C.nP,Jj (Za9 _ _ _) (by decide),?_⟩⟩;have nox:po≠x:=fun z=>by
  rw[z,hx7] at hpo;cases hpo
 have k8:Keep x H (upd H8 x (.ins CT dx (Df fx po 0))):=k6.trans ((Keep.of s8).trans Keep.upd);have hL9:(upd H8 x (.ins CT dx (Df fx po 0))) l=some (.lst (vS [Qp fx,Qc fx,wd fx.d,Uq fx.pl,Uq fx.tr])):=by rw[Zu nlx];exact s8 _ _ hL7
 have hP9:(upd H8 x (.ins CT dx (Df fx po 0))) po=some (.tup (vN fx.pl)):=by rw[Zu nox];exact hP8
 have hx9:(upd H8 x (.ins CT dx (Df fx po 0))) x=some (.ins CT dx (Df fx po 0)):=Zj;refine Zce (H:=upd H8 x (.ins CT dx (Df fx po 0))) ?_ ?_
 ·first | rfl | exact Uf | (rw[Uf];rfl)
 revert k8 hL9 hP9 hx9
 generalize upd H8 x (.ins CT dx (Df fx po 0))=H9;intro k8 hL9 hP9 hx9;refine⟨_,rfl,l,_,4,.str (Uq fx.tr),rfl,rfl,SqL.of hL9,rfl,_,rfl,x,CT,dx,_,_,rfl,hx9,C.cl,C.nH,T9 _ _ _,fx.tr,fx.h,rfl,ok.h8,ok.pt,fun to H10 s10 hto hT10=>⟨_,rfl,x,CT,dx,Df fx po to,rfl,s10 _ _ hx9,C.cl,C.nT,Jj (Za8 _ _ _) (by decide),?_⟩⟩;have ntx:to≠x:=fun z=>by
  rw[z,hx9] at hto;cases hto
 refine⟨_,rfl,_,rfl,x,CT,dx,tF6 fx po to,rfl,Zj,C.cl,C.nW,Jj (Ziy _ _ _) (by decide),?_⟩;rw[Uf];refine q po to _ (k8.trans ((Keep.of s10).trans Keep.upd)) Zj ?_ ?_
 ·rw[Zu nox];exact s10 _ _ hP9
 ·rw[Zu ntx];exact hT10
abbrev Gd:Stmt:=Yo (top 60) 2
abbrev Vk:Stmt:=Yo (top 60) 3
abbrev Uu:Stmt:=Yo (top 61) 0
def Dk(CT:Addr):Sp:=fun vs H Q _=>∃(x:Addr) (f:Fx),vs=[.ref x]∧IsTab CT f H x∧Q (.str (wd f.d)) H
theorem Zi2:FnScope ["self"] ["self"] (Zp Gd):=⟨rfl,rfl,rfl,by decide +kernel,rfl,by decide +kernel,by decide +kernel⟩
theorem Aw{k:Nat}{CT:Addr}(F:Fun K "duty" "Table.duty" Gd f fd)(C:TabC K mg CT):FnOk P w K mg base Y4 (k+1) f fd ["self"] (Dk CT):=by
 refine F.ok Zi2 (fun vs H Q E h=>?_) (fun cdv A outer s H vs Q E hr h=>?_)
 ·obtain⟨x,fx,rfl,_⟩:=h
  rfl
 obtain⟨x,fx,rfl,⟨dx,po,to,hx,_,_⟩,q⟩:=h;refine⟨_,Zq (Z6 (Jy (pv 0) rfl)),?_⟩;exact⟨_,rfl,x,CT,dx,_,_,rfl,hx,C.cl,C.nD,Rn _ _ _,q⟩
def Zgi(f:Fx)(b:Bool):List Nat:=if b then f.tr else f.pl
def Ac(CT:Addr):Sp:=fun vs H Q _=>∃(x:Addr) (f:Fx) (b:Bool),vs=[.ref x,.bl b]∧IsTab CT f H x∧∀ l H',Same H H'→H l=none→H' l=some (.lst (vN (Zgi f b)))→Q (.ref l) H'
theorem Zfo:FnScope ["self","is_trump"] ["self","is_trump"] (Zp Vk):=⟨rfl,rfl,rfl,by decide +kernel,rfl,by decide +kernel,by decide +kernel⟩
theorem Zde{k:Nat}{CT:Addr}(F:Fun K "order" "Table.order" Vk f fd)(C:TabC K mg CT)(mLi:mg "list" = none):FnOk P w K mg base Y4 (k+1) f fd ["self","is_trump"] (Ac CT):=by
 refine F.ok Zfo (fun vs H Q E h=>?_) (fun cdv A outer s H vs Q E hr h=>?_)
 ·obtain⟨x,fx,b,rfl,_⟩:=h
  rfl
 obtain⟨x,fx,b,rfl,⟨dx,po,to,hx,hp,ht⟩,q⟩:=h;refine⟨_,Zq (Z6 (Yf Ut rfl mLi Ya (Za (Bp (Ug (pv 1) (fun _=>rfl)) (Jy (pv 0) rfl) (Jy (pv 0) rfl)) Zh))),?_⟩;refine⟨_,rfl,b,rfl,?_⟩;cases b with
 | true=>exact Ub ⟨_,rfl,x,CT,dx,_,_,rfl,hx,C.cl,C.nT,Bw _ _ _,to,_,rfl,.inr (SqT.of ht),fun l hl=>q l _ (Zy hl _) hl Zj⟩
 | false=>exact J9 ⟨_,rfl,x,CT,dx,_,_,rfl,hx,C.cl,C.nP,Bx _ _ _,po,_,rfl,.inr (SqT.of hp),fun l hl=>q l _ (Zy hl _) hl Zj⟩
def Zlc(CG:Addr):Sp:=fun vs H Q _=>∃(g dg x:Addr) (tv:V),vs=[.ref g,.ref x,tv]∧H g=some (.ins CG dg [])∧Q .non (upd H g (.ins CG dg (Me x tv)))
theorem Zn9:FnScope ["self","table","trump"] ["self","table","trump"] (Zp Uu):=⟨rfl,rfl,rfl,by decide +kernel,rfl,by decide +kernel,by decide +kernel⟩
theorem Zmt{k:Nat}{CG:Addr}(F:FunD K "__init__" "Game.__init__" Uu f fd)(C:GamC K mg CG):FnOk P w K mg base Y4 (k+1) f fd ["self","table","trump"] (Zlc CG):=by
 refine F.ok Zn9 (fun vs H Q E h=>?_) (fun cdv A outer s H vs Q E hr h=>?_)
 ·obtain⟨g,dg,x,tv,rfl,_⟩:=h
  rfl
 obtain⟨g,dg,x,tv,rfl,hg,q⟩:=h;refine⟨_,Zg (Xh (pv 0) (pv 1) rfl) (Zq (Xh (pv 0) (pv 2) rfl)),?_⟩;refine⟨_,rfl,_,rfl,g,CG,dg,[],rfl,hg,C.cl,C.nT,by decide,?_⟩;refine⟨_,rfl,_,rfl,g,CG,dg,Yu "table" (.ref x) [],rfl,Zj,C.cl,C.nU,Jj (Y8 _ _ _) (by decide),?_⟩;rw[Uf];exact q
end
def Yj(s h:Nat):List Nat:=(List.range s).flatMap fun u=>(List.range h).map fun v=>8 * u+v
def Gy(s h:Nat):Nat:=((Yj s h).map (2 ^ ·)).sum
end My
namespace L2
open PySem PySem.Spec PyProof.Rows
end L2
namespace My
open PySem L2
def pos(x:Nat):List Nat→Nat
 | []=>0
 | y :: l=>if y=x then 0 else pos x l+1
theorem Eu{x:Nat}:∀{l:List Nat},x∈l→l[pos x l]? = some x∧∀ m < pos x l,l[m]?≠some x
 | [],h=>nomatch h
 | y :: l,h=>by
  unfold pos;by_cases c:y=x
  ·rw[if_pos c]
   exact⟨by rw[c];rfl,fun m hm=>absurd hm (Nat.not_lt_zero _)⟩
  ·rw[if_neg c]
   have hl:x∈l:=by
    rcases List.mem_cons.mp h with e | e
    ·exact absurd e.symm c
    ·exact e
   obtain⟨a,b⟩:=Eu hl;refine⟨a,fun m hm=>?_⟩;cases m with
   | zero=>exact fun z=>c (Zn z)
   | succ m=>exact b m (by omega)
theorem Zjl{l:List Nat}{x y:Nat}(hx:x∈l)(hy:y∈l)(e:pos x l=pos y l):x=y:=by
 have a:=(Eu hx).1;have b:=(Eu hy).1;rw[e,b] at a;exact(Zn a).symm
def Q5:Option Nat→V
 | none=>.non
 | some t=>.int (t:Nat)
theorem Zex(t:Option Nat)(s:Nat):decide (V.int (s:Nat)=Q5 t)=decide (t=some s):=by
 cases t with
 | none=>
  rw[Zd (fun z=>nomatch z),Zd (fun z=>nomatch z)]
 | some u=>
  by_cases c:s=u
  ·subst c
   rw[Zf (show V.int (s:Nat)=Q5 (some s) from rfl),Zf rfl]
  ·rw[Zd (fun z=>c (by injection z with z;omega)),Zd (fun z=>c (Zn z).symm)]
theorem Dd(t:Option Nat)(s:Int):Zl4 (.int s) (Q5 t)=true:=by cases t<;>rfl
theorem Zip(t:Option Nat):U3 (Q5 t)=true:=by cases t<;>rfl
def U6(f:Fx)(t:Option Nat)(c o led:Nat):Bool:=
 if c / 8=o / 8 then decide (c / 8=led∨t=some (c / 8)) && decide (pos (o % 8) (if t=some (c / 8) then f.tr else f.pl) < pos (c % 8) (if t=some (c / 8) then f.tr else f.pl))
 else if t=some (c / 8) then true else decide (c / 8=led) && !decide (t=some (o / 8))
theorem Ee{f:Fx}{t:Option Nat}{c o led:Nat}(h:c / 8=o / 8):U6 f t c o led=(decide (c / 8=led∨t=some (c / 8)) && decide (pos (o % 8) (if t=some (c / 8) then f.tr else f.pl) < pos (c % 8) (if t=some (c / 8) then f.tr else f.pl))):=if_pos h
theorem Nk{f:Fx}{t:Option Nat}{c o led:Nat}(h:¬ c / 8=o / 8):U6 f t c o led=(if t=some (c / 8) then true else decide (c / 8=led) && !decide (t=some (o / 8))):=if_neg h
theorem T6(f:Fx)(t:Option Nat)(c o led:Nat):U6 f t c o led=true→U6 f t o c led=true→False:=by
 by_cases s:c / 8=o / 8
 ·rw[Ee s,Ee s.symm,← s]
  intro a b;rw[Bool.and_eq_true,decide_eq_true_eq,decide_eq_true_eq] at a b;omega
 ·rw[Nk s,Nk (fun z=>s z.symm)]
  by_cases c1:t=some (c / 8)
  ·have c2:¬ t=some (o / 8):=fun z=>s (by rw[c1] at z;exact Zn z)
   rw[if_neg c2];intro _ b;rw[Zf c1] at b;simp at b
  ·rw[if_neg c1]
   by_cases c2:t=some (o / 8)
   ·intro a _
    rw[Zf c2] at a;simp at a
   ·rw[if_neg c2]
    intro a b;rw[Bool.and_eq_true,decide_eq_true_eq] at a b;omega
theorem At{f:Fx}(ok:f.Ok){t:Option Nat}{c o led:Nat}(hc:c % 8 < f.h)(ho:o % 8 < f.h)(ne:c≠o)(s1:c / 8=led∨t=some (c / 8))(s2:o / 8=led∨t=some (o / 8)):U6 f t c o led=true∨U6 f t o c led=true:=by
 by_cases s:c / 8=o / 8
 ·rw[Ee s,Ee s.symm,← s,Zf s1,Bool.true_and,Bool.true_and,decide_eq_true_eq,decide_eq_true_eq]
  have hmem:∀ x,x < f.h→x∈(if t=some (c / 8) then f.tr else f.pl):=fun x hx=>by
   split
   ·exact ok.pt.symm.subset (Jm.mpr hx)
   ·exact ok.pp.symm.subset (Jm.mpr hx)
  have np:pos (c % 8) (if t=some (c / 8) then f.tr else f.pl)≠pos (o % 8) (if t=some (c / 8) then f.tr else f.pl):=fun z=>by
   have:=Zjl (hmem _ hc) (hmem _ ho) z;omega
  omega
 ·rw[Nk s,Nk (fun z=>s z.symm)]
  by_cases c1:t=some (c / 8)
  ·exact .inl (if_pos c1)
  ·by_cases c2:t=some (o / 8)
   ·exact .inr (if_pos c2)
   ·exfalso
    rcases s1 with s1 | s1
    ·rcases s2 with s2 | s2
     ·omega
     ·exact c2 s2
    ·exact c1 s1
theorem Zki(s led:Nat)(t:Option Nat):B1 (.int (s:Nat)) [Q5 t,.int (led:Nat)]=decide (s=led∨t=some s):=by
 have e:B1 (.int (s:Nat)) [Q5 t,.int (led:Nat)]=(T0 (Q5 t) (.int (s:Nat)) || (T0 (.int (led:Nat)) (.int (s:Nat)) || false)):=rfl;rw[e];have e1:T0 (Q5 t) (.int (s:Nat))=decide (t=some s):=by
  cases t with
  | none=>rw[Zd (fun z=>nomatch z)];rfl
  | some u=>
   show(((u:Nat):Int) == (s:Nat))=_;by_cases c:u=s
   ·subst c;simp
   ·rw[Zd (fun z=>c (Zn z))]
    exact beq_eq_false_iff_ne.mpr (by omega)
 have e2:T0 (.int (led:Nat)) (.int (s:Nat))=decide (s=led):=by
  show(((led:Nat):Int) == (s:Nat))=_;by_cases c:s=led
  ·subst c;simp
  ·rw[Zd c]
   exact beq_eq_false_iff_ne.mpr (by omega)
 rw[e1,e2];by_cases a:s=led<;>by_cases b:t=some s<;>simp [a,b]
theorem Zhq(x:Nat):∀(l:List Nat),B1 (.int (x:Nat)) (vN l)=decide (x∈l)
 | []=>by rw[Zd (Yv)];rfl
 | y :: l=>by
  have e:B1 (.int (x:Nat)) (vN (y :: l))=((((y:Nat):Int) == (x:Nat)) || B1 (.int (x:Nat)) (vN l)):=rfl;rw[e,Zhq x l];by_cases c:x=y
  ·subst c
   simp
  ·have b:(((y:Nat):Int) == (x:Nat))=false:=beq_eq_false_iff_ne.mpr (by omega)
   rw[b,Bool.false_or];by_cases d:x∈l
   ·rw[Zf d,Zf (Zx _ d)]
   ·rw[Zd d,Zd fun z=>by
     rcases List.mem_cons.mp z with z | z
     ·exact c z
     ·exact d z]
theorem Dc:∀(l:List Nat),(vN l).all U3=true
 | []=>rfl
 | _ :: l=>by
  show(true && (vN l).all U3)=true;rw[Dc l];rfl
theorem Zb7{l:List Nat}{x:Nat}(h:x∈l):(l.map fun c=>((c:Nat):Int))[pos x l]? = some ((x:Nat):Int)∧∀ m < pos x l,(l.map fun c=>((c:Nat):Int))[m]?≠some ((x:Nat):Int):=by
 obtain⟨a,b⟩:=Eu h;refine⟨by rw[Zm,a];rfl,fun m hm z=>?_⟩;rw[Zm] at z;cases e:l[m]? with
 | none=>rw[e] at z;cases z
 | some y=>
  rw[e] at z;have:((y:Nat):Int)=(x:Nat):=Zn z;have ey:y=x:=by omega
  rw[ey] at e;exact b m hm e
abbrev S4:Stmt:=top 59
abbrev Vl:Stmt:=Yo (top 61) 2
abbrev Zfv:Stmt:=Yo (top 61) 3
section
variable{P:Program}{w:World}{K:W.Frag}{mg:Str→Option Value}{base:Heap}{f g:Addr}{fd gd:FuncData}
theorem Xu{a b:Bool}{A B:Prop}(e:a=b)(h:if b=true then A else B):if a=true then A else B:=by rw[e];exact h
theorem Zqb{a b:Bool}{Q:VK}{H:Hp}(e:a=b)(h:Q (.bl b) H):Q (.bl a) H:=by rw[e];exact h
def Zbi(K:W.Frag):Sp:=fun vs H Q _=>∃(l:Addr) (ls:List Nat) (x y:Nat),vs=[.ref l,.int (x:Nat),.int (y:Nat)]∧SqL K H l (vN ls)∧ls.length≤1000∧x∈ls∧y∈ls∧Q (.bl (decide (pos y ls < pos x ls))) H
theorem Zi7:FnScope ["order","height","other"] ["order","height","other"] (Zp S4):=⟨rfl,rfl,rfl,by decide +kernel,rfl,by decide +kernel,by decide +kernel⟩
theorem Zg1{k:Nat}(F:Fun K "is_later" "is_later" S4 f fd):FnOk P w K mg base Y4 (k+1) f fd ["order","height","other"] (Zbi K):=by
 refine F.ok Zi7 (fun vs H Q E h=>?_) (fun cdv A outer s H vs Q E hr h=>?_)
 ·obtain⟨l,ls,x,y,rfl,_⟩:=h
  rfl
 obtain⟨l,ls,x,y,rfl,hS,hl,hx,hy,q⟩:=h;refine⟨_,Zg (Ju (PW.pt (Ek (Z7 Y7 (pv 1) (pv 0) rfl) (Qt (Z7 Y7 (pv 2) (pv 0) rfl)))) (Zq (Z6 Qe)) Jg)
  (Zq (Z6 (Xa Qg (U5 Ja PySem.F.slot_list_index PySem.F.type_list_index Bt (pv 0) (Za (pv 1) Zh)) (U5 Ja PySem.F.slot_list_index PySem.F.type_list_index Bt (pv 0) (Za (pv 2) Zh)) (Jd _)))),?_⟩
 refine⟨_,rfl,_,rfl,l,vN ls,rfl,.inl hS,rfl,Dc _,_,rfl,?_⟩;show(if(!B1 (.int (x:Nat)) (vN ls))=true then _ else _);rw[Zhq,Zf hx];refine J9 ⟨_,rfl,_,rfl,l,vN ls,rfl,.inl hS,rfl,Dc _,_,rfl,?_⟩;show(if(!B1 (.int (y:Nat)) (vN ls))=true then _ else _);rw[Zhq,Zf hy];refine J9 ?_;have hS':SqL K H l ((ls.map fun c=>((c:Nat):Int)).map V.int):=by rw[← Nf];exact hS
 have ll:(ls.map fun c=>((c:Nat):Int)).length≤1000:=by rw[Zi];exact hl
 refine⟨_,rfl,.inl ⟨rfl,_,hS⟩,_,rfl,l,_,_,pos x ls,rfl,rfl,hS',ll,(Zb7 hx).1,(Zb7 hx).2,?_⟩;refine⟨_,rfl,.inl ⟨rfl,_,hS⟩,_,rfl,l,_,_,pos y ls,rfl,rfl,hS',ll,(Zb7 hy).1,(Zb7 hy).2,_,_,rfl,rfl,?_⟩;have e:decide (((pos y ls:Nat):Int) < ((pos x ls:Nat):Int))=decide (pos y ls < pos x ls):=by
  by_cases c:pos y ls < pos x ls
  ·rw[Zf c,Zf (by omega)]
  ·rw[Zd c,Zd (by omega)]
 show Q (.bl (decide (((pos y ls:Nat):Int) < ((pos x ls:Nat):Int)))) H;rw[e];exact q
def Ol(f:Fx)(t:Option Nat)(c:Nat):List Nat:=if t=some (c / 8) then f.tr else f.pl
theorem Av{f:Fx}(ok:f.Ok){t:Option Nat}{c x:Nat}(hx:x < f.h):x∈Ol f t c:=by
 unfold Ol;split
 ·exact ok.pt.symm.subset (Jm.mpr hx)
 ·exact ok.pp.symm.subset (Jm.mpr hx)
theorem Zgh{f:Fx}(ok:f.Ok){t:Option Nat}{c:Nat}:(Ol f t c).length≤1000:=by
 have h8:=ok.h8;unfold Ol;split
 ·rw[Y1 ok.pt];omega
 ·rw[Y1 ok.pp];omega
def Nu(CT CG:Addr):Sp:=fun vs H Q _=>∃(gm x:Addr) (t:Option Nat) (f:Fx) (c o:Nat),vs=[.ref gm,.int (c:Nat),.int (o:Nat)]∧f.Ok∧IsGam CG x (Q5 t) H gm∧IsTab CT f H x∧c % 8 < f.h∧o % 8 < f.h∧∀ H',Same H H'→Q (.bl (decide (pos (o % 8) (Ol f t c) < pos (c % 8) (Ol f t c)))) H'
theorem scStronger:FnScope ["self","card","other","order"] ["self","card","other"] (Zp Vl):=⟨rfl,rfl,rfl,by decide +kernel,rfl,by decide +kernel,by decide +kernel⟩
theorem Ax{k:Nat}{CT CG f1 m3:Addr}{d1 e3:FuncData}{t1:Tok}(F:Fun K "is_stronger" "Game.is_stronger" Vl f fd)(C:TabC K mg CT)(CGm:GamC K mg CG)(LL:Lib P w K mg base k "is_later" ["order","height","other"] (Zbi K) f1 d1)
  (MO:Meth K CT "order" m3) (FO:FnOk P w K mg base Y4 k m3 e3 ["self","is_trump"] (Ac CT)) (BO:Binds K e3 ["self","is_trump"] []) (mH:mg "HEIGHTS" = some (.int 8 t1)):FnOk P w K mg base Y4 (k+1) f fd ["self","card","other"] (Nu CT CG):=by
 refine F.ok scStronger (fun vs H Q E h=>?_) (fun cdv A outer s H vs Q E hr h=>?_)
 ·obtain⟨gm,x,t,fx,c,o,rfl,_⟩:=h
  rfl
 obtain⟨gm,x,t,fx,c,o,rfl,ok,hg,ht,hc,ho,q⟩:=h;refine⟨_,Zg (Z4 (i:=3) scStronger.nd rfl (Or.inl rfl) (X4 (Jy (pv 0) rfl) C.cl MO FO hr BO .nil Jh (Za (Xa Uc (Z0 J1 (pv 1) (J0 (v:=.int 8) rfl mH ⟨_,rfl⟩)) (Jy (pv 0) rfl) (Jd _)) Zh)))
  (Zq (Z6 (Z9 LL.ok hr rfl LL.mg LL.kp LL.bd .nil Jh (Za (pv 3) (Za (Z0 Yg (pv 1) (J0 (v:=.int 8) rfl mH ⟨_,rfl⟩)) (Za (Z0 Yg (pv 2) (J0 (v:=.int 8) rfl mH ⟨_,rfl⟩)) Zh)))))),?_⟩
 obtain⟨dg,hG⟩:=id hg;obtain⟨dx,po,to,hX,_,_⟩:=id ht;have e1:((c:Nat):Int) / 8=((c / 8:Nat):Int):=by omega
 refine⟨_,rfl,gm,CG,dg,_,_,rfl,hG,CGm.cl,CGm.nT,Up _ _,x,dx,_,rfl,hX,Ke _ _ _,?_⟩;refine⟨_,rfl,_,_,rfl,rfl,⟨by decide,by decide⟩,_,rfl,gm,CG,dg,_,_,rfl,hG,CGm.cl,CGm.nU,X8 _ _,Dd _ _,x,fx,decide (t=some (c / 8)),?_,ht,fun l H1 s1 hl hL=>?_⟩
 ·show V.ref x :: ([V.bl (decide (V.int (((c:Nat):Int) / 8)=Q5 t))]++[])=[V.ref x,V.bl (decide (t=some (c / 8)))]
  rw[e1,Zex];rfl
 have eo:Zgi fx (decide (t=some (c / 8)))=Ol fx t c:=by
  unfold Zgi Ol;by_cases z:t=some (c / 8)
  ·rw[if_pos z,if_pos (Zf z)]
  ·rw[if_neg z,if_neg (by rw[Zd z];decide)]
 rw[eo] at hL;have e2:((c:Nat):Int) % 8=((c % 8:Nat):Int):=by omega
 have e3:((o:Nat):Int) % 8=((o % 8:Nat):Int):=by omega
 refine⟨_,rfl,_,rfl,_,_,rfl,rfl,(show(0:Int) < 8 by decide),_,rfl,_,_,rfl,rfl,(show(0:Int) < 8 by decide),l,Ol fx t c,c % 8,o % 8,?_,SqL.of hL,Zgh ok,Av ok hc,Av ok ho,q _ s1⟩;dsimp only;rw[e2,e3];rfl
def Do(CT CG:Addr):Sp:=fun vs H Q _=>∃(gm x:Addr) (t:Option Nat) (f:Fx) (c o led:Nat),vs=[.ref gm,.int (c:Nat),.int (o:Nat),.int (led:Nat)]∧f.Ok∧IsGam CG x (Q5 t) H gm∧IsTab CT f H x∧c % 8 < f.h∧o % 8 < f.h∧∀ H',Same H H'→Q (.bl (U6 f t c o led)) H'
abbrev Ri:List Str:=["self","card","other","led"]
theorem scOver:FnScope ["self","card","other","led","suit"] Ri (Zp Zfv):=⟨rfl,rfl,rfl,by decide +kernel,rfl,by decide +kernel,by decide +kernel⟩
theorem Zci(a b:Nat):decide (V.int (a:Nat)=V.int (b:Nat))=decide (a=b):=by
 by_cases c:a=b
 ·subst c
  rw[Zf rfl,Zf rfl]
 ·rw[Zd c,Zd (fun z=>c (by injection z with z;omega))]
theorem Zj0{k:Nat}{CT CG m3:Addr}{e3:FuncData}{t1:Tok}(F:Fun K "is_over" "Game.is_over" Zfv f fd)(CGm:GamC K mg CG)(MS:Meth K CG "is_stronger" m3)(FS:FnOk P w K mg base Y4 k m3 e3 ["self","card","other"] (Nu CT CG))(BS:Binds K e3 ["self","card","other"] [])(mH:mg "HEIGHTS" = some (.int 8 t1)) :
  FnOk P w K mg base Y4 (k+1) f fd Ri (Do CT CG):=by
 refine F.ok scOver (fun vs H Q E h=>?_) (fun cdv A outer s H vs Q E hr h=>?_)
 ·obtain⟨gm,x,t,fx,c,o,led,rfl,_⟩:=h
  rfl
 obtain⟨gm,x,t,fx,c,o,led,rfl,ok,hg,ht,hc,ho,q⟩:=h;refine⟨_,Zg (Z4 (i:=4) scOver.nd rfl (Or.inl rfl) (Z0 J1 (pv 1) (J0 (v:=.int 8) rfl mH ⟨_,rfl⟩)))
  (Zg (Ju (Z7 Uc (pv 4) (Z0 J1 (pv 2) (J0 (v:=.int 8) rfl mH ⟨_,rfl⟩)) (Jd _)) (Zq (Z6 (Gv (Xa Zdb (pv 4) (Y2 (Za (Jy (pv 0) rfl) (Za (pv 3) Zh))) rfl) (Gu (X4 (pv 0) CGm.cl MS FS hr BS .nil Jh (Za (pv 1) (Za (pv 2) Zh))))))) Jg)
  (Zg (Ju (Z7 Uc (pv 4) (Jy (pv 0) rfl) (Jd _)) (Zq (Z6 Qe)) Jg)
  (Zq (Z6 (Gv (Xa Uc (pv 4) (pv 3) (Jd _)) (Gu (Xa Qf (Z0 J1 (pv 2) (J0 (v:=.int 8) rfl mH ⟨_,rfl⟩)) (Jy (pv 0) rfl) (Jd _)))))))),?_⟩
 obtain⟨dg,hG⟩:=id hg;have e1:((c:Nat):Int) / 8=((c / 8:Nat):Int):=by omega
 have e2:((o:Nat):Int) / 8=((o / 8:Nat):Int):=by omega
 refine⟨_,rfl,_,_,rfl,rfl,⟨by decide,by decide⟩,?_⟩;dsimp only;rw[e1];refine⟨_,rfl,_,rfl,_,_,rfl,rfl,⟨by decide,by decide⟩,rfl,_,rfl,?_⟩;refine Xu (congrArg (fun z=>decide (V.int ((c / 8:Nat):Int)=V.int z)) e2) ?_;rw[Zci];by_cases sm:c / 8=o / 8
 ·rw[Zf sm]
  refine Ub ⟨_,rfl,_,rfl,gm,CG,dg,_,_,rfl,hG,CGm.cl,CGm.nU,X8 _ _,_,rfl,Jl 2 (by decide),fun p hp=>?_⟩;have s1:=Zy hp (.tup [Q5 t,.int (led:Nat)]);have fl:[Q5 t,V.int (led:Nat)].all U3=true:=by
   show(U3 (Q5 t) && (true && true))=true;rw[Zip];rfl
  refine⟨p,[Q5 t,.int (led:Nat)],rfl,.inr (SqT.of Zj),rfl,fl,?_⟩;show ∃ b,V.bl (B1 (.int ((c / 8:Nat):Int)) [Q5 t,.int (led:Nat)])=_∧_;rw[Zki];refine⟨_,rfl,?_⟩;by_cases sg:c / 8=led∨t=some (c / 8)
  ·rw[Zf sg]
   refine Ub ⟨_,rfl,gm,dg,_,rfl,s1 _ _ hG,Qy _ _ _ (by decide +kernel) (by decide +kernel),_,rfl,_,rfl,gm,x,t,fx,c,o,rfl,ok,hg.same s1,ht.same s1,hc,ho,fun H2 s2=>?_⟩;have z:=q H2 (s1.trans s2);rw[Ee sm,Zf sg,Bool.true_and] at z;exact z
  ·rw[Zd sg]
   refine J9 ?_;have z:=q _ s1;rw[Ee sm,Zd sg,Bool.false_and] at z;exact z
 ·rw[Zd sm]
  refine J9 ⟨_,rfl,_,rfl,gm,CG,dg,_,_,rfl,hG,CGm.cl,CGm.nU,X8 _ _,Dd _ _,_,rfl,?_⟩;have z:=q H (Same.refl _);rw[Nk sm] at z;rw[Zex];by_cases c1:t=some (c / 8)
  ·rw[Zf c1]
   rw[if_pos c1] at z;exact Ub z
  ·rw[Zd c1]
   rw[if_neg c1] at z;refine J9 ⟨_,rfl,_,rfl,rfl,_,rfl,?_⟩;rw[Zci];by_cases c2:c / 8=led
   ·rw[Zf c2]
    rw[Zf c2,Bool.true_and] at z;refine Ub ⟨_,rfl,_,_,rfl,rfl,⟨by decide,by decide⟩,_,rfl,gm,CG,dg,_,_,rfl,hG,CGm.cl,CGm.nU,X8 _ _,Dd _ _,?_⟩;refine Zqb (congrArg (fun z=>(!decide (V.int z=Q5 t))) e2) ?_;rw[Zex];exact z
   ·rw[Zd c2]
    rw[Zd c2,Bool.false_and] at z;exact J9 z
end
end My
namespace L2
open PySem PySem.Spec PyProof.Rows
open AutoSeq1 (wpAny_loadPart')
section
variable{prog:Program}{w:World}{A:Around}{E:Value→Shared→Prop}{s:Shared}{it t:Addr}{i:Nat}{items:Array Value}
theorem Zak{x:Value}{Q:Value→Shared→Prop}(hI:s.heap.IsTupleIter it t i)(hT:s.heap.IsTuple t items)(hx:items[i]? = some x)
  (q:∀ h',h'.IsTupleIter it t (i+1)→Heap.SameBut it s.heap h'→Q x { s with heap:=h' }):wpAny (model prog w) A (Builtin.SmallTypes.nextOf (.ref it)) Q E s:=by
 obtain⟨o,g1,g2,g3⟩:=id hI;obtain⟨ot,k1,_,_,k2⟩:=hT;unfold Builtin.SmallTypes.nextOf;refine Zc (wpAny_callSpecial?_slot (name:=Str.ofString "__next__") hI.typeIs F.slot_tuple_iterator_next (wpAny_call_entry F.slot_tuple_iterator_next hI.typeIs F.entry_tuple_iterator_next ?_ (F.args_tuple_iterator_next_1 _)));show wpAny _ _ (field (.ref it) 0 >>= _) _ _ s;refine Zc (wpAny_field g1 g3 (x:=.ref t) rfl ?_);show wpAny _ _ (if(Value.ref t == Value.none)=true then _ else _) _ _ s;rw[if_neg (show ¬ ((Value.ref t == Value.none)=true) from Zz)];show wpAny _ _ (field (.ref it) 1 >>= _) _ _ s;refine Zc (wpAny_field g1 g3 (x:=.int i 0) rfl ?_);show wpAny _ _ (seqItems? (.ref t) >>= _) _ _ s;refine Zc (wpAny_seqItems k1 k2 ?_);simp only[Zv,hx];exact Zc (wpAny_setField g1 g3 (by simp) (wpAny_pure ⟨x,rfl,wpAny_pure (q _ ⟨_,Heap.get?_update_self _ g1 (Obj.isFreed_of_fields (Obj.data_mapFields g3 _)),(Obj.cls_mapFields ..).trans g2,by rw[Obj.data_mapFields g3];simp [rawInt]⟩ (Heap.SameBut.update ..))⟩))
theorem Rj{Q:Value→Shared→Prop}(hh:A.handled=none)(hI:s.heap.IsTupleIter it t i)(hT:s.heap.IsTuple t items)(hx:items[i]? = none)
  (q:∀ h' e,Heap.ExtBut it s.heap h'→(∃ o,h'.get? e=some o∧o.cls = .type "StopIteration")→E (.ref e) { s with heap:=h' }):wpAny (model prog w) A (Builtin.SmallTypes.nextOf (.ref it)) Q E s:=by
 obtain⟨o,g1,g2,g3⟩:=id hI;obtain⟨ot,k1,_,_,k2⟩:=hT;unfold Builtin.SmallTypes.nextOf;refine Zc (wpAny_callSpecial?_slot (name:=Str.ofString "__next__") hI.typeIs F.slot_tuple_iterator_next (wpAny_call_entry F.slot_tuple_iterator_next hI.typeIs F.entry_tuple_iterator_next ?_ (F.args_tuple_iterator_next_1 _)));show wpAny _ _ (field (.ref it) 0 >>= _) _ _ s;refine Zc (wpAny_field g1 g3 (x:=.ref t) rfl ?_);show wpAny _ _ (if(Value.ref t == Value.none)=true then _ else _) _ _ s;rw[if_neg (show ¬ ((Value.ref t == Value.none)=true) from Zz)];show wpAny _ _ (field (.ref it) 1 >>= _) _ _ s;refine Zc (wpAny_field g1 g3 (x:=.int i 0) rfl ?_);show wpAny _ _ (seqItems? (.ref t) >>= _) _ _ s;refine Zc (wpAny_seqItems k1 k2 ?_);simp only[Zv,hx];refine Zc (wpAny_rule (Zc (wpAny_setField g1 g3 (by simp) ?_)));show wpAny _ _ (newExc (.type "StopIteration") [] >>= _) _ _ _;refine Zc ?_;simp only[newExc,newTuple];refine Zc (wpAny_newObj_type (Zc (m:=firstArgMember _ _) (wpAny_of_eq (a:=Value.none) (by first | rfl | (simp only[firstArgMember];rfl)) (wpAny_newObj_type ?_ (by size_fits)))) (by size_fits));simp only[raiseNew];refine Zc (wpAny_handled ?_);first | rw[show A.in1.handled=none from hh] | rw[hh]
 exact Zc (wpAny_pure (wpAny_throw (q _ _ (((Heap.SameBut.update ..).extBut.push _).push _) ⟨_,Heap.get?_push_size _ rfl,rfl⟩)))
end
theorem Zea{prog:Program}{w:World}{A:Around}(hh:A.handled=none)(it t:Addr)(hne:t≠it)(items:Array Value) :
  Draws prog w A it [it,t] items.size (fun i v=>items[i]? = some v) (fun i h=>h.IsTupleIter it t i∧h.IsTuple t items) where
 live:=fun _ _ z=>let ⟨o,ho,_⟩:=z.1;⟨o,ho⟩
 frame:=fun _ _ _ z k=>⟨z.1.at fun o e=>k it (by simp) o e,let ⟨o,ho,r⟩:=z.2;⟨o,k t (by simp) o ho,r⟩⟩
 item:=fun i s Q E hi z q=>by
  refine Zak z.1 z.2 (x:=items[i]) (by simp [hi]) fun h' a b=>?_;obtain⟨o,ho,r⟩:=z.2;exact q _ h' s.toks (by simp [hi]) ⟨a,o,b.extBut t o hne ho,r⟩ b
 done:=fun s Q E z q=>Rj hh z.1 z.2 (by simp) q
theorem Kc(l:Addr)(items:Array Value)(n:Nat)(dct:Option Addr)(sl:Array (Option Value)) :
  Meets (Builtin.«enumerate.__new__» ⟨[.type "enumerate",.ref l],[]⟩) (fun _ R s=>s.heap.get? l=some { cls:=.type "tuple",dict:=dct,data:=.seq items n,slots:=sl } ∧
   R (.ok (.ret (.ref (s.heap.push { cls:=.type "tuple_iterator",data:=.fields #[.ref l,.int 0 0] }).objs.size)))
    { s with heap:=(s.heap.push { cls:=.type "tuple_iterator",data:=.fields #[.ref l,.int 0 0] }).push { cls:=.type "enumerate",data:=.fields #[.none,.bool false,.ref s.heap.objs.size,rawInt 0,.none,.none] } }):=
 .of_wp fun prog w A R s h=>by
  obtain⟨hp,g,d,tk,os⟩:=s;obtain⟨hl,h⟩:=h;have hq:=sub_enumerate;have hT:Heap.IsTuple (Shared.heap ⟨hp,g,d,tk,os⟩) l items:=⟨_,hl,rfl,n,rfl⟩
  wp_walk using wpAny_loadPart' hl
  refine wpAny_stack_any fun _=>wpAny_pure ?_;split
  ·rename_i c _ _ _ _ _
   cases (c == Value.type "enumerate")<;>(wp_walk using wpAny_loadPart' hl,wpAny_pyIter_tuple hT;exact⟨_,rfl,h⟩)
  ·wp_walk using wpAny_loadPart' hl,wpAny_pyIter_tuple hT
   exact⟨_,rfl,h⟩
theorem Za3{prog:Program}{w:World}{A:Around}{E:Value→Shared→Prop}{s:Shared}{l:Addr}{items:Array Value}{Q:Value→Shared→Prop}(hT:s.heap.IsTuple l items)
  (q:∀ h',IsEnum h' (s.heap.objs.size+1) s.heap.objs.size 0 .none→h'.IsTupleIter s.heap.objs.size l 0→h'.objs.size=s.heap.objs.size+2→(∀ b o,s.heap.get? b=some o→h'.get? b=some o)→Q (.ref (s.heap.objs.size+1)) { s with heap:=h' }) :
  wpAny (model prog w) A (call (.type "enumerate") [.ref l]) Q E s:=by
 obtain⟨⟨c,dct,dt,sl⟩,hl,hc,n,hd⟩:=hT
 replace hc:c = .type "tuple":=hc
 replace hd:dt = .seq items n:=hd
 subst hc hd;refine callType_new F.called_enumerate (by decide) (F.typeCall_enumerate_1 _) (F.newCall_enumerate_1 _) (fun ob=>F.args_object_init_2 ob _) F.entry_enumerate_new (Kc l items n dct sl) ⟨hl,?_⟩;have hz:(s.heap.push { cls:=.type "tuple_iterator",data:=.fields #[.ref l,.int 0 0] }).objs.size=s.heap.objs.size+1:=Heap.size_push ..;show _∧_;rw[hz];have he:IsEnum ((s.heap.push { cls:=.type "tuple_iterator",data:=.fields #[.ref l,.int 0 0] }).push { cls:=.type "enumerate",data:=.fields #[.none,.bool false,.ref s.heap.objs.size,rawInt 0,.none,.none] }) (s.heap.objs.size+1) s.heap.objs.size 0 .none:=by
  have z:=Heap.get?_push_size (s.heap.push { cls:=.type "tuple_iterator",data:=.fields #[.ref l,.int 0 0] }) (o:={ cls:=.type "enumerate",data:=.fields #[.none,.bool false,.ref s.heap.objs.size,rawInt 0,.none,.none] }) rfl;rw[hz] at z;exact z
 exact⟨⟨_,he,rfl⟩,q _ he ⟨_,Ze _ (Heap.get?_push_size _ rfl),rfl,rfl⟩ (by rw[Heap.size_push,hz]) fun b o x=>Ze _ (Ze _ x)⟩
def Zep(K:W.Frag)(a:Addr):It:=
 ⟨fun i H=>∃ xs x,SqT K H a xs∧xs[i]? = some x,fun i H v H'=>∃ p x,v = .ref p∧H p=none∧H'=upd H p (.tup [.int (i:Nat),x])∧∀ xs,SqT K H a xs→xs[i]? = some x,fun i H=>∃ xs,SqT K H a xs∧xs.length≤i⟩
theorem K8{P:Program}{w:World}{K:W.Frag}{es:List Expr}{x1}{tp:Pos}(a e it:Addr)(hne:e≠it):Turn P w K (.Tuple es x1 tp) (Zep K a) [e,it] e (fun i h=>(∃ old,IsEnum h e it i old)∧h.IsTupleIter it a i) where
  mem:=by simp
  obj:=fun i h st b hb=>by
    obtain⟨⟨old,he⟩,⟨o,ho,c,d⟩⟩:=st;rcases List.mem_cons.mp hb with rfl | hb
    · exact⟨_,he,fun v z=>by cases z⟩
    · have q:b=it:=by simpa using hb
      subst q;exact⟨o,ho,fun v z=>by rw[d] at z;cases z⟩
  keep:=fun i h h' st k=>by
    obtain⟨⟨old,he⟩,hi⟩:=st;exact⟨⟨old,k e (by simp) _ he⟩,hi.at fun o q=>k it (by simp) o q⟩
  item:=by
    intro X hP hw hK hc i pins s σ H E I hf st hg;subst hP hw hK;obtain⟨xs,x,hq,hx⟩:=hg;obtain⟨⟨old,he⟩,hit⟩:=st;obtain⟨its,rv,p,hz⟩:=I.tuple hq;obtain⟨u,hu,ru⟩:=rv.get hx;obtain⟨a0,a1,a2,a3,a4,a5⟩:=hf e (by simp);obtain⟨f0,f1,f2,f3,f4,f5⟩:=hf it (by simp);have pT:s.heap.IsTuple a its.toArray:=p;obtain⟨oi,hoi,ci,di⟩:=id hit;obtain⟨oa,hoa,ca,_⟩:=id pT;have n1:a≠it:=fun z=>by
      rw[z,hoi] at hoa;cases hoa;rw[ca] at ci;exact absurd ci (by decide)
    have n2:a≠e:=fun z=>by
      rw[z,he] at hoa;cases hoa;exact absurd (show Value.type "enumerate" = Value.type "tuple" from ca) (by decide)
    refine wpAny_pyNext_enum_itemD (Zea (A:=X.A.in1) (I.ok.hd hc) it a n1 its.toArray) he ⟨hit,pT⟩ (by
      have:=(Zt.mp hu).1
      simpa using this) hne (by
        intro z;rcases List.mem_cons.mp z with z | z
        · exact hne z
        · exact n2 (Jt.mp z).symm) fun x' h' tk hx' eo hst ht hsz hk=>⟨_,rfl,?_⟩
    have ex:x'=u:=by
      have z:its[i]? = some x':=by simpa using hx'
      rw[hu] at z;exact(Zn z).symm
    subst ex;refine wpAny_letOwnedTupleGo_enum eo fun h2 he2 sb2=>?_;have sb2':Heap.SameBut e h' h2:=sb2;have hn:H s.heap.objs.size=none:=I.fresh;have le:e < s.heap.objs.size:=Zs he;have li:it < s.heap.objs.size:=Zs hoi;have I1:Inv X pins σ (upd H s.heap.objs.size (.tup [.int (i:Nat),x])) { s with heap:=s.heap.push { cls:=.type "tuple",data:=.seq #[.int i tk,x'] },toks:=tk+1 }:=
      I.laid (t':=tk+1) (fun b ob q=>Ze _ q) (Nat.le_refl _) ⟨by rw[sizeLine_eq];show 2≤_;decide,[.int i tk,x'],.cons ⟨_,rfl⟩ (.cons ru .nil),IsTup.new _ _⟩
    obtain⟨oi2,hoi2,ci2,di2⟩:=id hst.1;have hoi3:h2.get? it=some oi2:=(sb2'.2 it (Ne.symm hne)).trans hoi2;have gi:((s.heap.push { cls:=.type "tuple",data:=.seq #[.int i tk,x'] }).update it (fun _=>oi2)).get? it=some oi2:=Heap.get?_update_self _ (Ze _ hoi) (Obj.isFreed_of_fields di2);have I2:=I1.turned (h':=(s.heap.push { cls:=.type "tuple",data:=.seq #[.int i tk,x'] }).update it (fun _=>oi2)) (t':=tk+1) (it:=it) (fun b o hb q=>(Heap.get?_update_other _ _ (Ne.symm hb)).trans q) (by rw[Zu (Nat.ne_of_lt li)];exact f0) f1 f3 f4 f5;have I3:=I2.turned (h':=h2) (t':=tk+1) (it:=e) (fun b o hb q=>by
      by_cases c:b=it
      · subst c
        have q':=gi.symm.trans q;cases q';exact hoi3
      · have q1:(s.heap.push { cls:=.type "tuple",data:=.seq #[.int i tk,x'] }).get? b=some o:=(Heap.get?_update_other _ _ (Ne.symm c)).symm.trans q
        by_cases d:b=s.heap.objs.size
        · subst d
          have q2:=(Heap.get?_push_size s.heap (o:={ cls:=.type "tuple",data:=.seq #[.int i tk,x'] }) rfl).symm.trans q1;cases q2;exact(sb2'.2 _ hb).trans ht
        · rw[Heap.get?_push_ne _ _ _ d] at q1
          exact(sb2'.2 b hb).trans (hk b o hb c q1)) (by rw[Zu (Nat.ne_of_lt le)];exact a0) a1 a3 a4 a5
    refine⟨.ref s.heap.objs.size,_,I3,rfl,⟨s.heap.objs.size,x,rfl,hn,rfl,fun ys hy=>by rw[I.tuple_inj hy hq];exact hx⟩,⟨⟨_,he2⟩,oi2,hoi3,ci2,di2⟩,fun b hb=>?_⟩;rcases List.mem_cons.mp hb with rfl | hb
    · rw[Zu (Nat.ne_of_lt le)];exact a0
    · have q:b=it:=by simpa using hb
      subst q;rw[Zu (Nat.ne_of_lt li)];exact f0
  done:=by
    intro X hP hw hK hc i pins s σ H E I hf st hg;subst hP hw hK;obtain⟨xs,hq,hx⟩:=hg;obtain⟨⟨old,he⟩,hit⟩:=st;obtain⟨its,rv,p,hz⟩:=I.tuple hq;have pT:s.heap.IsTuple a its.toArray:=p;obtain⟨f0,f1,f2,f3,f4,f5⟩:=hf it (by simp);have hl:=rv.length;have hT:s.TypeIs (.ref e) "enumerate":=⟨_,he,rfl⟩;unfold pyNext;refine Zc (wpAny_attempt (wpAny_callSpecial?_slot (name:=Str.ofString "__next__") hT F.slot_enumerate_next (wpAny_call_entry F.slot_enumerate_next hT F.entry_enumerate_next ?_ (F.args_enumerate_next_1 _))));show wpAny _ _ (field (.ref e) 2 >>= _) _ _ _;refine Zc (wpAny_field he rfl (x:=.ref it) rfl ?_);refine Zc (Rj (I.ok.hd hc) hit pT (by simp;omega) fun h' x eb hx'=>?_);obtain⟨o,ho,hc'⟩:=hx';exact Zc (wpAny_isInstance (T:="StopIteration") (b:=true) ⟨o,ho,hc'⟩ isSubtype_stop (wpAny_pure ⟨rfl,I.turned (t':=s.toks) (fun b o hb e=>eb b o hb e) f0 f1 f3 f4 f5⟩))
  self:=fun _ _ _ _ _ st h=>by
    obtain⟨⟨old,he⟩,_⟩:=st;exact wpAny_pyIter_enum he h
section
variable{X:Cx}
def Zm6(K:W.Frag)(ta:TA):TI:=fun σ H R=>ta σ H fun vs H1=>∃ a xs,vs=[.ref a]∧SqT K H1 a xs∧R (Zep K a) H1
theorem Al{es:List Expr}{x1}{tp p pos:Pos}{l:Expr}{ta:TA}(hg:Gl X "enumerate")(hm:X.mg "enumerate" = none)(ha:PA X [l] ta)(hs:starEach [l] X.env=[(false,eval l X.env)]:=by rfl):PI X (.Tuple es x1 tp) (.Call (.Name "enumerate" p) [l] [] pos) (Zm6 X.K ta):=by
 intro pins s σ H R I h;refine Call_ (N8 I hg hm boot_enumerate (PyProof.Rows.callWith_type1 (Y5 (ha pos pins s σ H _ I h) fun us s1 ⟨vs,H1,I1,r1,q1⟩=>?_) hs rfl));obtain⟨a,xs,rfl,hL,q⟩:=q1;obtain⟨u,rfl,ru⟩:=Xc r1;cases ru;obtain⟨its,rv,pT,hz⟩:=I1.tuple hL;refine Za3 (show s1.heap.IsTuple a its.toArray from pT) fun h' en li sz hk=>?_;have I2:Inv X pins σ H1 { s1 with heap:=h' }:=I1.kept (t':=s1.toks) hk;refine wpAny_pyIter_enum en ⟨s1.heap.objs.size+1,[s1.heap.objs.size+1,s1.heap.objs.size],_,Zep X.K a,H1,rfl,I2,K8 a _ _ (Nat.succ_ne_self _),⟨⟨_,en⟩,li⟩,fun b hb=>?_,q⟩;have hb':s1.heap.objs.size≤b:=by
  rcases List.mem_cons.mp hb with rfl | hb
  ·exact Nat.le_succ _
  ·have q:b=s1.heap.objs.size:=by simpa using hb
   rw[q];exact Nat.le_refl _
 exact I1.fpOk (H':=H1) hb' (I1.hok.fresh hb')
end
end L2
namespace My
open PySem L2
theorem N5(x:Nat):∀ l:List Nat,pos x l≤l.length
 | []=>Nat.le_refl _
 | y :: l=>by
  unfold pos;have:=N5 x l;split
  ·exact Nat.zero_le _
  ·exact Nat.succ_le_succ this
def rk(f:Fx)(t:Option Nat)(led c:Nat):Nat:=
 if t=some (c / 8) then 20+pos (c % 8) f.tr else if c / 8=led then 10+pos (c % 8) f.pl else 0
theorem Nj{f:Fx}(ok:f.Ok)(t:Option Nat)(c o led:Nat):U6 f t c o led=decide (rk f t led o < rk f t led c):=by
 have l1:∀ x,pos x f.tr≤8:=fun x=>Nat.le_trans (N5 x _) (by rw[Y1 ok.pt];exact ok.h8);have l2:∀ x,pos x f.pl≤8:=fun x=>Nat.le_trans (N5 x _) (by rw[Y1 ok.pp];exact ok.h8);have a1:=l1 (c % 8);have a2:=l1 (o % 8);have a3:=l2 (c % 8);have a4:=l2 (o % 8);unfold rk;by_cases s:c / 8=o / 8
 ·rw[Ee s,← s]
  by_cases c1:t=some (c / 8)
  ·rw[if_pos c1,if_pos c1,if_pos c1,Zf (Or.inr c1),Bool.true_and]
   exact decide_eq_decide.mpr ⟨fun h=>by omega,fun h=>by omega⟩
  ·rw[if_neg c1,if_neg c1,if_neg c1]
   by_cases c2:c / 8=led
   ·rw[if_pos c2,if_pos c2,Zf (Or.inl c2),Bool.true_and]
    exact decide_eq_decide.mpr ⟨fun h=>by omega,fun h=>by omega⟩
   ·rw[if_neg c2,if_neg c2,Zd (fun z=>z.elim c2 c1),Bool.false_and]
    exact(Zd (Nat.lt_irrefl 0)).symm
 ·rw[Nk s]
  by_cases c1:t=some (c / 8)
  ·have c2:¬ t=some (o / 8):=fun z=>s (by rw[c1] at z;exact Zn z)
   rw[if_pos c1,if_pos c1,if_neg c2];refine(Zf ?_).symm;split<;>omega
  ·rw[if_neg c1,if_neg c1]
   by_cases c2:t=some (o / 8)
   ·rw[if_pos c2,Zf c2]
    show(decide (c / 8=led) && false)=_;rw[Bool.and_false];refine(Zd ?_).symm;split<;>omega
   ·rw[if_neg c2,Zd c2]
    show(decide (c / 8=led) && true)=_;rw[Bool.and_true];by_cases c3:c / 8=led
    ·rw[if_pos c3,if_neg (fun z=>s (c3.trans z.symm)),Zf c3]
     exact(Zf (by omega)).symm
    ·rw[if_neg c3,Zd c3]
     exact(Zd (Nat.not_lt_zero _)).symm
theorem Zf0{f:Fx}(ok:f.Ok){t:Option Nat}{led c o:Nat}(hc:c % 8 < f.h)(ho:o % 8 < f.h)(h10:10≤rk f t led c)(e:rk f t led c=rk f t led o):c=o:=by
 by_cases ne:c=o
 ·exact ne
 ·exfalso
  have l1:∀ x,pos x f.tr≤8:=fun x=>Nat.le_trans (N5 x _) (by rw[Y1 ok.pt];exact ok.h8);have l2:∀ x,pos x f.pl≤8:=fun x=>Nat.le_trans (N5 x _) (by rw[Y1 ok.pp];exact ok.h8);have st:∀ c,10≤rk f t led c→c / 8=led∨t=some (c / 8):=fun c h=>by
   unfold rk at h;by_cases c1:t=some (c / 8)
   ·exact .inr c1
   ·rw[if_neg c1] at h
    by_cases c2:c / 8=led
    ·exact .inl c2
    ·rw[if_neg c2] at h
     omega
  rcases At ok (t:=t) (led:=led) hc ho ne (st c h10) (st o (by omega)) with z | z
  ·rw[Nj ok,decide_eq_true_eq] at z
   omega
  ·rw[Nj ok,decide_eq_true_eq] at z
   omega
theorem Zfz(f:Fx)(t:Option Nat)(c:Nat):10≤rk f t (c / 8) c:=by
 unfold rk;by_cases c1:t=some (c / 8)
 ·rw[if_pos c1];omega
 ·rw[if_neg c1,if_pos rfl];omega
def Win(f:Fx)(t:Option Nat)(led:Nat)(ys:List Nat)(h:Nat):Prop:=∃ m,ys[h]? = some m∧∀ c∈ys,c≠m→U6 f t m c led=true
structure Trk(f:Fx)(ys:List Nat):Prop where
 nd:ys.Nodup
 ht:∀ c∈ys,c % 8 < f.h
 ne:0 < ys.length
def Jc(ys:List Nat):Nat:=ys.getD 0 0 / 8
theorem Zes{f:Fx}(ok:f.Ok){t:Option Nat}{ys:List Nat}(T:Trk f ys){h:Nat}(hh:h < ys.length)(hm:∀ j,j < ys.length→rk f t (Jc ys) (ys.getD j 0)≤rk f t (Jc ys) (ys.getD h 0)):Win f t (Jc ys) ys h:=by
 have at_:∀ i,i < ys.length→ys[i]? = some (ys.getD i 0):=fun i hi=>by rw[Zk,Zb hi];rfl
 refine⟨_,at_ h hh,fun c hc n=>?_⟩;obtain⟨j,hj,e⟩:=Jv.mp hc;have ej:ys.getD j 0=c:=by rw[Zk,Zb hj,e];rfl
 have m0:=Zfz f t (ys.getD 0 0);have m1:=hm 0 T.ne;have mj:=hm j hj;rw[ej] at mj;have hmem:ys.getD h 0∈ys:=Zr (at_ h hh);rw[Nj ok,decide_eq_true_eq];rcases Nat.lt_or_eq_of_le mj with z | z
 ·exact z
 ·exact absurd (Zf0 ok (T.ht _ hmem) (T.ht c hc) (Nat.le_trans m0 m1) z.symm).symm n
theorem Zet{f:Fx}{t:Option Nat}{led:Nat}{ys zs:List Nat}(hp:∀ c,c∈ys↔c∈zs){h k:Nat}(a:Win f t led ys h)(b:Win f t led zs k):ys[h]? = zs[k]?:=by
 obtain⟨m,hm,am⟩:=a;obtain⟨n,hn,bn⟩:=b;by_cases e:m=n
 ·rw[hm,hn,e]
 ·exfalso
  have x:=am n ((hp n).mpr (Zr hn)) (Ne.symm e);have y:=bn m ((hp m).mp (Zr hm)) e;exact T6 f t m n led x y
theorem Zg7{ys:List Nat}(nd:ys.Nodup){i j:Nat}{c:Nat}(a:ys[i]? = some c)(b:ys[j]? = some c):i=j:=by
 obtain⟨hi,ei⟩:=Zt.mp a;obtain⟨hj,ej⟩:=Zt.mp b;have pw:=List.pairwise_iff_getElem.mp nd;rcases Nat.lt_trichotomy i j with z | z | z
 ·exact absurd (ei.trans ej.symm) (pw i j hi hj z)
 ·exact z
 ·exact absurd (ej.trans ei.symm) (pw j i hj hi z)
theorem Zer{f:Fx}{t:Option Nat}{led:Nat}{ys:List Nat}(nd:ys.Nodup){h k:Nat}(a:Win f t led ys h)(b:Win f t led ys k):h=k:=by
 have e:=Zet (fun _=>Iff.rfl) a b;obtain⟨m,hm,_⟩:=a;exact Zg7 nd hm (e.symm.trans hm)
theorem Mv{K:PySem.W.Frag}{a:Addr}{xs:List V}{g:TG}{tb:TS}{D:Ends}{σ:St}{H:Hp}(Pv:Nat→St→Hp→Prop)(h0:Pv 0 σ H)(hS:∀ i σ H,Pv i σ H→SqT K H a xs)
  (hs:∀ i x p σ H,xs[i]? = some x→Pv i σ H→H p=none→g (.ref p) σ (upd H p (.tup [.int (i:Nat),x])) fun σ2 H2=>tb { D with nx:=Pv (i+1),ct:=Pv (i+1),bk:=D.nx } σ2 H2) (hd:∀ σ H,Pv xs.length σ H→D.nx σ H) :
  ∃ W:Nat→Nat→St→Hp→Prop,(∃ m,W 0 m σ H)∧∀ i m σ H,W i m σ H →
   ((Zep K a).stop i H∧D.nx σ H)∨((Zep K a).go i H∧∃ N:St→Hp→Prop,(∀ σ' H',N σ' H'→∃ m',m' < m∧W (i+1) m' σ' H')∧∀ v H',(Zep K a).yld i H v H'→g v σ H' fun σ2 H2=>tb { D with nx:=N,ct:=N,bk:=D.nx } σ2 H2):=by
 refine⟨fun i m σ H=>m=xs.length - i∧i≤xs.length∧Pv i σ H,⟨xs.length,by simp,Nat.zero_le _,h0⟩,?_⟩;rintro i m σ H ⟨rfl,hi,p⟩;have sa:=hS i σ H p;by_cases hlt:i < xs.length
 ·refine .inr ⟨⟨xs,_,sa,Zb hlt⟩,Pv (i+1),fun σ' H' p'=>⟨xs.length - (i+1),by omega,rfl,hlt,p'⟩,fun v H' y=>?_⟩
  obtain⟨q,x,rfl,hq,rfl,hx⟩:=y;exact hs i x q σ H (hx xs sa) p hq
 ·have e:i=xs.length:=by omega
  subst e;exact .inl ⟨⟨xs,sa,Nat.le_refl _⟩,hd σ H p⟩
end My
namespace My
open PySem
def Ys(h:Nat):List Nat:=(List.range 32).filter h.testBit
def Xt(k h:Nat):Nat:=((List.range k).filter h.testBit).length
theorem Ao(k h:Nat):Xt (k+1) h=h % 2+Xt k (h / 2):=by
 unfold Xt;rw[List.range_succ_eq_map,List.filter_cons,List.filter_map,];have e:(h.testBit ∘ Nat.succ)=(h / 2).testBit:=by
  funext i
  exact Nat.testBit_succ h i
 rw[e];have h0:h.testBit 0=decide (h % 2=1):=Nat.testBit_zero h;by_cases o:h % 2=1
 ·rw[if_pos (by rw[h0];exact Zf o),Jk,Zi,o,Nat.add_comm]
 ·rw[if_neg (by rw[h0,Zd o];exact Zz),Zi]
  omega
theorem Ap:∀ k h:Nat,0 < h→h < 2 ^ k→Xt k (h &&& (h - 1))+1=Xt k h
 | 0,h,h0,h1=>by simp at h1;omega
 | k+1,h,h0,h1=>by
  rw[Ao,Ao];have e1:(h &&& (h - 1)) / 2=h / 2 &&& (h - 1) / 2:=Nat.and_div_two;have e2:(h &&& (h - 1)) % 2=0:=by
   have z:=Nat.and_mod_two_pow (a:=h) (b:=h - 1) (n:=1);rw[show(2:Nat) ^ 1=2 from rfl] at z;rw[z];rcases Nat.mod_two_eq_zero_or_one h with e | e
   ·rw[e];exact Nat.zero_and _
   ·rw[show(h - 1) % 2=0 by omega];exact Nat.and_zero _
  rw[e1,e2];rcases Nat.mod_two_eq_zero_or_one h with e | e
  ·have ih:=Ap k (h / 2) (by omega) (by rw[Nat.pow_succ] at h1;omega)
   rw[show(h - 1) / 2=h / 2 - 1 by omega,e];omega
  ·rw[show(h - 1) / 2=h / 2 by omega,Nat.and_self,e]
   omega
theorem Zgd(k:Nat):Xt k 0=0:=by
 unfold Xt;rw[List.length_eq_zero_iff,List.filter_eq_nil_iff];intro a _;simp
def Zmg(h s:Nat):Nat:=h &&& (255 * 2 ^ (8 * s))
theorem Zhh:∀ s < 4,∀ c < 32,Nat.testBit (255 * 2 ^ (8 * s)) c=decide (c / 8=s):=by decide +kernel
theorem Q3{h c:Nat}(hc:c∈Ys h):c < 32:=Jm.mp (List.mem_filter.mp hc).1
end My
namespace My
theorem Zei{h i:Nat}(hi:i≤32)(hz:h / 2 ^ i=0):(List.range i).filter h.testBit=Ys h:=by
 unfold Ys;have hl:h < 2 ^ i:=by
  rcases Nat.div_eq_zero_iff.mp hz with e | e
  ·have:0 < 2 ^ i:=Nat.pow_pos (by decide)
   omega
  ·exact e
 have e32:32=i+(32 - i):=by omega
 rw[e32,List.range_add,List.filter_append];have e:List.filter h.testBit ((List.range (32 - i)).map (i + ·))=[]:=by
  rw[List.filter_eq_nil_iff];intro a ha;obtain⟨b,_,rfl⟩:=Z2.mp ha;rw[Nat.testBit_lt_two_pow (Z1 hl (Nat.pow_le_pow_right (by decide) (by omega)))];exact Zz
 rw[e,Yb]
theorem Tv(h i:Nat):(List.range (i+1)).filter h.testBit=(List.range i).filter h.testBit++(if h / 2 ^ i % 2=1 then [i] else []):=by
 rw[List.range_succ,List.filter_append];have e:h.testBit i=decide (h / 2 ^ i % 2=1):=Nat.testBit_eq_decide_div_mod_eq;by_cases o:h / 2 ^ i % 2=1
 ·rw[if_pos o,List.filter_cons_of_pos (by rw[e];exact Zf o),List.filter_nil]
 ·rw[if_neg o,List.filter_cons_of_neg (by rw[e,Zd o];exact Zz),List.filter_nil]
theorem Zc0{h i:Nat}(h32:h < 4294967296)(hi:i≤32)(hp:0 < h / 2 ^ i):i < 32:=by
 rcases Nat.lt_or_ge i 32 with e | e
 ·exact e
 ·have:i=32:=by omega
  subst this;have:h / 2 ^ 32=0:=Nat.div_eq_of_lt h32;omega
def Qx(cs:List Nat)(a:Nat):Nat:=cs.foldl (fun a c=>a ||| 2 ^ c) a
theorem Vu:∀(cs:List Nat) (a i:Nat),(Qx cs a).testBit i=(a.testBit i || decide (i∈cs))
 | [],a,i=>by simp [Qx]
 | c :: r,a,i=>by
  show(Qx r (a ||| 2 ^ c)).testBit i=_;rw[Vu r,Nat.testBit_or,Nat.testBit_two_pow];by_cases e:c=i
  ·subst e;simp
  ·have e2:i≠c:=fun z=>e z.symm
   simp [e,e2]
theorem Xj{h i:Nat}(hh:h < 4294967296):i∈Ys h↔h.testBit i=true:=by
 unfold Ys;rw[List.mem_filter,Jm];constructor
 ·exact fun z=>z.2
 ·intro z
  refine⟨?_,z⟩;rcases Nat.lt_or_ge i 32 with e | e
  ·exact e
  ·rw[Nat.testBit_lt_two_pow (Z1 hh (Nat.pow_le_pow_right (n:=2) (by decide) e))] at z
   cases z
theorem Zgj{h:Nat}(hh:h < 4294967296){cs:List Nat}(hm:∀ i,i∈cs↔i∈Ys h):Qx cs 0=h:=by
 refine Nat.eq_of_testBit_eq fun i=>?_;rw[Vu,Nat.zero_testBit,Bool.false_or];by_cases e:h.testBit i=true
 ·rw[e];exact Zf ((hm i).mpr ((Xj hh).mpr e))
 ·rw[Bool.eq_false_iff.mpr e];exact Zd fun z=>e ((Xj hh).mp ((hm i).mp z))
theorem G4(cs:List Nat)(c a:Nat):Qx (cs++[c]) a=Qx cs a ||| 2 ^ c:=by unfold Qx;rw[List.foldl_append];rfl
end My
namespace My
open PySem L2
def hN(cs:List Nat):Nat:=Qx cs 0
theorem Ur(cs:List Nat)(i:Nat):(hN cs).testBit i=decide (i∈cs):=by
 unfold hN;rw[Vu,Nat.zero_testBit,Bool.false_or]
theorem Zhu{a b:List Nat}(h:∀ i,i∈a↔i∈b):hN a=hN b:=by
 refine Nat.eq_of_testBit_eq fun i=>?_;rw[Ur,Ur];exact decide_eq_decide.mpr (h i)
theorem Th{cs:List Nat}(h:∀ c∈cs,c < 32):hN cs < 4294967296:=by
 refine Nat.lt_pow_two_of_testBit (n:=32) (hN cs) fun i hi=>?_;rw[Ur];exact Zd fun m=>by have:=h i m;omega
theorem hN_pos{cs:List Nat}:0 < hN cs↔cs≠[]:=by
 constructor
 ·intro h z
  rw[z] at h;exact Nat.lt_irrefl 0 h
 ·intro h
  cases cs with
  | nil=>exact absurd rfl h
  | cons c l=>
   refine Nat.pos_of_ne_zero fun z=>?_;have e:=Ur (c :: l) c;rw[z,Nat.zero_testBit,Zf Zw] at e;cases e
theorem Zcc{cs:List Nat}(h:∀ c∈cs,c < 32){s:Nat}(hs:s < 4):Zmg (hN cs) s=hN (cs.filter fun c=>decide (c / 8=s)):=by
 refine Nat.eq_of_testBit_eq fun i=>?_;unfold Zmg;rw[Nat.testBit_and,Ur,Ur];by_cases m:i∈cs
 ·rw[Zhh s hs i (h i m),Zf m,Bool.true_and]
  refine decide_eq_decide.mpr ⟨fun z=>List.mem_filter.mpr ⟨m,Zf z⟩,fun z=>Jx (List.mem_filter.mp z).2⟩
 ·rw[Zd m,Bool.false_and]
  exact(Zd fun z=>m (List.mem_filter.mp z).1).symm
theorem B3{cs:List Nat}(h:∀ c∈cs,c < 32)(i:Nat):i∈Ys (hN cs)↔i∈cs:=by
 rw[Xj (Th h),Ur,decide_eq_true_eq]
theorem Zkj(cs:List Nat)(c:Nat):hN (cs++[c])=hN cs ||| 2 ^ c:=G4 cs c 0
theorem Zkl{c:Nat}{cs:List Nat}(h:c∉cs):hN (c :: cs)=2 ^ c+hN cs:=by
 have e:hN (c :: cs)=hN cs ||| 2 ^ c:=by
  rw[← Zkj];exact Zhu fun i=>by rw[List.mem_cons,Yt,Jt];exact Or.comm
 rw[e];have z:hN cs &&& 2 ^ c=0:=by
  refine Nat.eq_of_testBit_eq fun i=>?_;rw[Nat.testBit_and,Ur,Nat.testBit_two_pow,Nat.zero_testBit];by_cases q:c=i
  ·subst q
   rw[Zd h];rfl
  ·rw[Zd q,Bool.and_false]
 have k:=PyProof.Rows.nat_or_add_and (hN cs) (2 ^ c);rw[z] at k;omega
theorem Zht:∀{cs:List Nat},cs.Nodup→(cs.map fun c=>2 ^ c).sum=hN cs
 | [],_=>rfl
 | c :: cs,nd=>by
  obtain⟨n1,n2⟩:=List.nodup_cons.mp nd;rw[List.map_cons,List.sum_cons,Zht n2,Zkl n1]
def Ei(s:Nat)(cs:List Nat):List Nat:=cs.filter fun c=>decide (c / 8=s)
def El(a b:List Nat):List Nat:=if a=[] then b else a
def trL(t:Option Nat)(cs:List Nat):List Nat:=match t with | none=>[] | some u=>Ei u cs
def Em(t:Option Nat)(led:Nat)(cs:List Nat):List Nat:=El (Ei led cs) (El (trL t cs) cs)
def Ve(f:Fx)(t:Option Nat)(ys cs:List Nat):List Nat:=cs.filter fun c=>ys.all fun o=>U6 f t c o (Jc ys)
def O3(d:_root_.Fin 4)(f:Fx)(t:Option Nat)(ys cs:List Nat):List Nat:=match d with
 | 0=>cs
 | 1=>El (Ei (Jc ys) cs) cs
 | 2=>Em t (Jc ys) cs
 | 3=>El (Ve f t ys (Em t (Jc ys) cs)) (Em t (Jc ys) cs)
theorem Br{a b cs:List Nat}(ha:∀ c∈a,c∈cs)(hb:∀ c∈b,c∈cs):∀ c∈El a b,c∈cs:=fun c hc=>by
 unfold El at hc;by_cases z:a=[]
 ·rw[if_pos z] at hc;exact hb c hc
 ·rw[if_neg z] at hc;exact ha c hc
theorem B4(s:Nat)(cs:List Nat):∀ c∈Ei s cs,c∈cs:=fun c hc=>(List.mem_filter.mp hc).1
theorem Ziq(t:Option Nat)(cs:List Nat):∀ c∈trL t cs,c∈cs:=fun c hc=>by
 cases t with
 | none=>exact nomatch hc
 | some u=>exact B4 u cs c hc
theorem E7(t:Option Nat)(led:Nat)(cs:List Nat):∀ c∈Em t led cs,c∈cs:=Br (B4 _ _) (Br (Ziq _ _) fun _ h=>h)
theorem O1(d:_root_.Fin 4)(f:Fx)(t:Option Nat)(ys cs:List Nat):∀ c∈O3 d f t ys cs,c∈cs:=by
 match d with
 | 0=>exact fun _ h=>h
 | 1=>exact Br (B4 _ _) fun _ h=>h
 | 2=>exact E7 _ _ _
 | 3=>exact Br (fun c hc=>E7 _ _ _ c (List.mem_filter.mp hc).1) (E7 _ _ _)
theorem Ot{a b:List Nat}:hN (El a b)=if 0 < hN a then hN a else hN b:=by
 unfold El;by_cases z:a=[]
 ·rw[if_pos z,if_neg fun q=>hN_pos.mp q z]
 ·rw[if_neg z,if_pos (hN_pos.mpr z)]
abbrev Gj:Stmt:=top 4
abbrev D9:Stmt:=top 5
abbrev D6:Stmt:=top 7
def V7(h:Nat):List V:=(Ys h).map fun c=>V.int (c:Nat)
theorem Q4(h:Nat):V7 h=vN (Ys h):=rfl
theorem Zlv(xs ys:List Nat):vN xs++vN ys=vN (xs++ys):=(J3).symm
theorem En{ys:List Nat}{i:Nat}{x:V}(h:(vN ys)[i]? = some x):∃ c,ys[i]? = some c∧x = .int (c:Nat):=by
 unfold vN at h;rw[Zm] at h;cases e:ys[i]? with
 | none=>rw[e] at h;cases h
 | some c=>rw[e] at h;cases h;exact⟨c,rfl,rfl⟩
theorem Zon{x y:Int}(hx:0≤x)(hy:0≤y):Builtin.bitOr x y=((x.toNat ||| y.toNat:Nat):Int):=by
 rw[PyProof.Rows.bitOr_and,PyProof.Rows.bitAnd_pp hx hy];have:=PyProof.Rows.nat_or_add_and x.toNat y.toNat;omega
theorem Zmi(a c:Nat):Builtin.bitOr (a:Int) (1 * 2 ^ ((c:Nat):Int).toNat)=((a ||| 2 ^ c:Nat):Int):=by
 have e:(1:Int) * 2 ^ ((c:Nat):Int).toNat=((2 ^ c:Nat):Int):=by
  rw[Int.one_mul,Zv,Int.natCast_pow];rfl
 rw[e,Zon (Int.natCast_nonneg _) (Int.natCast_nonneg _),Zv,Zv]
theorem Zo0(a:Nat):Builtin.bitAnd (a:Int) 1=((a % 2:Nat):Int):=by
 rw[PyProof.Rows.bitAnd_pp (Int.natCast_nonneg _) (by decide),Zv];exact congrArg _ (Nat.and_one_is_mod a)
theorem Zn3(h i:Nat):((h / 2 ^ i:Nat):Int) / 2 ^ ((1:Int).toNat)=((h / 2 ^ (i+1):Nat):Int):=by
 rw[Nat.pow_succ,← Nat.div_div_eq_div_mul];show((h / 2 ^ i:Nat):Int) / 2=_;omega
theorem Ov(h n:Nat):((List.range n).filter h.testBit).length≤n:=by
 have:=List.length_filter_le h.testBit (List.range n)
 rwa [J4] at this
section
variable{P:Program}{w:World}{K:W.Frag}{mg:Str→Option Value}{base:Heap}{f g:Addr}{fd gd:FuncData}
def X5(K:W.Frag):Sp:=fun vs H Q _=>∃ h:Nat,vs=[.int h]∧h < 4294967296∧∀ l H',Same H H'→H l=none→H' l=some (.lst (V7 h))→Q (.ref l) H'
theorem scCardsIn:FnScope ["hand","cards","card"] ["hand"] (Zp Gj):=⟨rfl,rfl,rfl,by decide +kernel,rfl,by decide +kernel,by decide +kernel⟩
theorem Zai{k:Nat}(F:Fun K "cards_in" "cards_in" Gj f fd):FnOk P w K mg base Y4 (k+1) f fd ["hand"] (X5 K):=by
 refine F.ok scCardsIn (fun vs H Q E h=>?_) (fun cdv A outer s H vs Q E hr h=>?_)
 ·obtain⟨h,rfl,_⟩:=h
  rfl
 obtain⟨h,rfl,h32,q⟩:=h;refine⟨_,Zg (Z4 (i:=1) scCardsIn.nd rfl (Or.inl rfl) (U0 Zh))
  (Zg (Z4 (i:=2) scCardsIn.nd rfl (Or.inl rfl) Zl)
  (Zg (Ai PassesOwn.never (Z7 Qg (pv 0) Zl (Jd _))
   (Zg (Ju (Z7 Uc (Z0 On (pv 0) Zl) Zl (Jd _)) (Zq (Xn (U5 Ja Jp Jo Ud (pv 1) (Za (pv 2) Zh)))) Jg)
   (Zg (Z4 (i:=0) scCardsIn.nd rfl (Or.inl rfl) (Z0 Zmk (pv 0) Zl))
   (Zq (Z4 (i:=2) scCardsIn.nd rfl (Or.inl rfl) (Z0 Yq (pv 2) Zl))))))
  (Zq (Z6 (pv 1))))),?_⟩
 refine⟨Nat.zero_le _,fun l hl=>?_⟩;refine O4 (fun σ H'=>∃ i:Nat,σ=[some (.int ((h / 2 ^ i:Nat):Int)),some (.ref l),some (.int (i:Nat))]∧i≤32∧Same H H'∧H' l=some (.lst (vN ((List.range i).filter h.testBit))))
  (fun σ _=>match σ with | [_,_,some (.int i)]=>32 - i.toNat | _=>0) ⟨0,?_,Nat.zero_le _,Zy hl _,Zj⟩ (fun σ H1 z=>?_) (fun σ H1 R R' m ⟨v,e,i,j,e1,e2,b,e3,r⟩=>⟨v,e,i,j,e1,e2,b,e3,m _ _ r⟩)
 ·rw[Nat.pow_zero,Nat.div_one]
  rfl
 obtain⟨i,rfl,hi,sm,hL⟩:=z;refine⟨_,rfl,_,_,rfl,rfl,_,rfl,Bz (fun c=>?_) fun c=>?_⟩
 ·have c':(0:Int) < ((h / 2 ^ i:Nat):Int):=Jx c
  have hi':i < 32:=Zc0 h32 hi (by omega);refine⟨_,rfl,_,_,rfl,rfl,rfl,_,rfl,Bz (fun c1=>?_) fun c1=>?_⟩
  ·have o:h / 2 ^ i % 2=1:=by
    have c2:decide (V.int (Builtin.bitAnd ((h / 2 ^ i:Nat):Int) 1)=V.int 1)=true:=c1;rw[Zo0] at c2;have e:=Jx c2;injection e with e
    omega
   refine⟨_,rfl,.inl ⟨rfl,_,SqL.of hL⟩,_,rfl,l,_,_,rfl,rfl,hL,?_,?_⟩
   ·rw[Jq]
    exact X6 (Nat.le_trans (Ov h i) (by omega))
   refine⟨_,rfl,_,_,rfl,rfl,(show(0:Int)≤1 by decide),_,rfl,_,_,rfl,rfl,⟨i+1,?_,hi',Qw hl sm _,?_⟩,?_⟩
   ·show [some (V.int (((h / 2 ^ i:Nat):Int) / 2 ^ ((1:Int).toNat))),some (V.ref l),some (V.int ((i:Nat)+1))]=_
    rw[Zn3];rfl
   ·rw[Zj,Tv,if_pos o,← Zlv]
    rfl
   ·show 32 - (((i:Nat):Int)+1).toNat < 32 - ((i:Nat):Int).toNat
    omega
  ·have o:¬ h / 2 ^ i % 2=1:=by
    intro o;refine c1 ?_;show decide (V.int (Builtin.bitAnd ((h / 2 ^ i:Nat):Int) 1)=V.int 1)=true;rw[Zo0,o];exact Zf rfl
   refine⟨_,rfl,_,_,rfl,rfl,(show(0:Int)≤1 by decide),_,rfl,_,_,rfl,rfl,⟨i+1,?_,hi',sm,?_⟩,?_⟩
   ·show [some (V.int (((h / 2 ^ i:Nat):Int) / 2 ^ ((1:Int).toNat))),some (V.ref l),some (V.int ((i:Nat)+1))]=_
    rw[Zn3];rfl
   ·rw[Tv,if_neg o,Yb]
    exact hL
   ·show 32 - (((i:Nat):Int)+1).toNat < 32 - ((i:Nat):Int).toNat
    omega
 ·have c':¬ (0:Int) < ((h / 2 ^ i:Nat):Int):=of_decide_eq_false (Bool.eq_false_iff.mpr c)
  refine⟨_,rfl,q l H1 sm hl ?_⟩;have z0:h / 2 ^ i=0:=by
   generalize h / 2 ^ i=n at c';omega
  rw[hL,Zei hi z0];rfl
def Bg(K:W.Frag):Sp:=fun vs H Q _=>∃(a:Addr) (cs:List Nat),vs=[.ref a]∧SqL K H a (vN cs)∧(∀ c∈cs,c < 32)∧Q (.int (Qx cs 0:Nat)) H
theorem scHandOf:FnScope ["cards","hand","card"] ["cards"] (Zp D9):=⟨rfl,rfl,rfl,by decide +kernel,rfl,by decide +kernel,by decide +kernel⟩
theorem Zdj{k:Nat}(F:Fun K "hand_of" "hand_of" D9 f fd):FnOk P w K mg base Y4 (k+1) f fd ["cards"] (Bg K):=by
 refine F.ok scHandOf (fun vs H Q E h=>?_) (fun cdv A outer s H vs Q E hr h=>?_)
 ·obtain⟨a,cs,rfl,_⟩:=h
  rfl
 obtain⟨a,cs,rfl,hS,hc,q⟩:=h;refine⟨_,Zg (Z4 (i:=1) scHandOf.nd rfl (Or.inl rfl) Zl)
  (Zg (X0 PassesOwn.never rfl (Uh (pv 0)) (Jr (i:=2) scHandOf.nd rfl (Or.inl rfl)) (Zq (Z4 (i:=1) scHandOf.nd rfl (Or.inl rfl) (Z0 Zby (pv 1) (Z0 Vv Zl (pv 2))))))
  (Zq (Z6 (pv 1)))),?_⟩
 refine⟨_,rfl,a,rfl,⟨_,hS⟩,Ti (xs:=vN cs) (fun i σ H2=>H2=H∧∃ x,σ=[some (.ref a),some (.int (Qx (cs.take i) 0:Nat)),x]) ⟨rfl,_,rfl⟩ (fun i σ H2 _ z=>z.1 ▸ hS) (fun i x σ H2 hx z=>?_) (fun σ H2 z=>?_)⟩
 ·obtain⟨rfl,y,rfl⟩:=z
  obtain⟨c,hi,rfl⟩:=En hx;have c32:=hc c (Zr hi);refine⟨_,rfl,_,rfl,_,_,rfl,rfl,⟨by omega,by omega,by decide⟩,_,_,rfl,rfl,rfl,some (.int (c:Nat)),?_⟩;show [some (V.ref a),some (V.int (Builtin.bitOr ((Qx (cs.take i) 0:Nat):Int) (1 * 2 ^ ((c:Nat):Int).toNat))),some (V.int (c:Nat))]=_;rw[Zmi];have e:cs.take (i+1)=cs.take i++[c]:=by
   rw[List.take_add_one,hi];rfl
  rw[e,G4]
 ·obtain⟨rfl,y,rfl⟩:=z
  refine⟨_,rfl,?_⟩;rw[Jq,List.take_length];exact q
def Bf(K:W.Frag):Sp:=fun vs H Q _=>∃ h s:Nat,vs=[.int h,.int s]∧h < 4294967296∧s < 4∧Q (.int (Zmg h s)) H
theorem Zfq:FnScope ["hand","suit"] ["hand","suit"] (Zp D6):=⟨rfl,rfl,rfl,by decide +kernel,rfl,by decide +kernel,by decide +kernel⟩
theorem Zdi{k:Nat}{t1 t2:Tok}(F:Fun K "of_suit" "of_suit" D6 f fd)(mL:mg "LOWEST_SUIT" = some (.int 255 t1))(mH:mg "HEIGHTS" = some (.int 8 t2)):FnOk P w K mg base Y4 (k+1) f fd ["hand","suit"] (Bf K):=by
 refine F.ok Zfq (fun vs H Q E h=>?_) (fun cdv A outer s H vs Q E hr h=>?_)
 ·obtain⟨h,s,rfl,_⟩:=h
  rfl
 obtain⟨h,u,rfl,h32,hu,q⟩:=h;refine⟨_,Zq (Z6 (Z0 On (pv 0) (Z0 Vv (J0 (v:=.int 255) rfl mL ⟨_,rfl⟩) (Z0 Xd (J0 (v:=.int 8) rfl mH ⟨_,rfl⟩) (pv 1))))),?_⟩;refine⟨_,rfl,_,rfl,_,_,rfl,rfl,.inl ⟨by decide,by decide⟩,_,_,rfl,rfl,⟨by omega,by omega,by decide⟩,_,_,rfl,rfl,?_⟩;have e:((8:Int) * (u:Nat)).toNat=8 * u:=by omega
 have e2:(255:Int) * 2 ^ (8 * u)=((255 * 2 ^ (8 * u):Nat):Int):=by rw[Int.natCast_mul,Int.natCast_pow];rfl
 show Q (V.int (Builtin.bitAnd ((h:Nat):Int) ((255:Int) * 2 ^ ((8:Int) * (u:Nat)).toNat))) H;rw[e,e2,PyProof.Rows.bitAnd_pp (Int.natCast_nonneg _) (Int.natCast_nonneg _)];exact q
end
end My
namespace L2
open PySem PySem.Spec PyProof.Rows
theorem Zc5{X:Cx}{a:Expr}{ta:TE}(ha:PE X a ta)(he:∀ whole,isTrue a X.env whole=(do let v ← whole;standAt a.pos;holding [v] (truthy v))):PT X a (Zk7 ta):=by
 intro pins s σ H Q I h;exact isTrue_plain (Y5 (ha pins s σ H _ I h) fun v s1 ⟨x,H1,I1,r1,k,e,q1⟩=>Ze0 pins s1 σ H1 x v Q I1 r1 ⟨k,by subst e;rfl,q1⟩) (he _)
theorem Tq{K:W.Frag}{tt:TT}{te:TE}{σ0:St}{H1:Hp}{Q:V→Hp→Prop}{a:Addr}{xs:List V}(p:V→Bool)(f:V→V)(hS:SqT K H1 a xs)(hn:xs.length≤sizeLine)
  (hT:∀ x H,x∈xs→Same H1 H→∀ R:Bool→Hp→Prop,(∀ H',Same H H'→R (p x) H')→tt (σ0.set 0 (some x)) H R)
  (hE:∀ x H,x∈xs→p x=true→Same H1 H→∀ R:V→Hp→Prop,(∀ H',Same H H'→R (f x) H')→te (σ0.set 0 (some x)) H R)
  (hQ:∀ l H,Same H1 H→H1 l=none→H l=some (.lst ((xs.filter p).map f))→Q (.ref l) H):Q7 (Qr 0) tt te σ0 (Itt K a) H1 Q:=by
 have at_:∀ i,i < xs.length→xs[i]? = some (xs.getD i .non):=fun i h=>by
  rw[Zk,Zb h];rfl
 have mem:∀ i,i < xs.length→xs.getD i .non∈xs:=fun i h=>Zr (at_ i h);refine B7 xs.length (fun i=>xs.getD i .non) (fun i=>p (xs.getD i .non)) (fun i=>f (xs.getD i .non)) hn (fun i H sm h=>⟨xs,_,sm.seqT hS,at_ i h⟩) (fun H sm=>⟨xs,sm.seqT hS,Nat.le_refl _⟩)
  (fun i H x H' sm h y=>⟨y.1,?_⟩) (fun i H h sm=>hT _ H (mem i h) sm) (fun i H h hp sm=>hE _ H (mem i h) hp sm) (fun l H sm hl hL=>hQ l H sm hl ?_)
 ·have e:=y.2 xs (sm.seqT hS)
  rw[at_ i h] at e;exact(Zn e).symm
 ·rw[hL,Xx]
end L2
namespace My
open PySem L2
abbrev Gg:Stmt:=top 45
abbrev Zl9:Stmt:=top 46
abbrev Bj:Stmt:=top 47
abbrev Oa:Stmt:=Yo (top 48) 1
abbrev Vp:Stmt:=Yo (top 49) 1
abbrev S7:Stmt:=Yo (top 50) 1
abbrev Rs:Stmt:=Yo (top 51) 1
abbrev Zl8:Stmt:=Yo (top 61) 5
theorem Rl{ys:List Nat}{i:Nat}(h:i < ys.length):Xg (vN ys) (i:Nat)=some (.int ((ys.getD i 0:Nat):Int)):=by
 have e:(vN ys)[i]? = some (.int ((ys.getD i 0:Nat):Int)):=by
  unfold vN;rw[Zm,Zb h,Zk,Zb h];rfl
 exact Um e
theorem gtz(n:Nat):decide ((0:Int) < ((n:Nat):Int))=decide (0 < n):=decide_eq_decide.mpr ⟨fun h=>by omega,fun h=>by omega⟩
structure Beg(f:Fx)(ys cs:List Nat):Prop where
 ne:0 < ys.length
 len:ys.length≤32
 ys8:∀ c∈ys,c / 8 < 4∧c % 8 < f.h
 cs8:∀ c∈cs,c < 32∧c % 8 < f.h
theorem Beg.c32{f:Fx}{ys cs:List Nat}(B:Beg f ys cs):∀ c∈cs,c < 32:=fun c h=>(B.cs8 c h).1
theorem Beg.led{f:Fx}{ys cs:List Nat}(B:Beg f ys cs):Jc ys < 4:=by
 have m:ys.getD 0 0∈ys:=by
  rw[Zk,Zb B.ne];exact Yy _
 exact(B.ys8 _ m).1
theorem Beg.sub{f:Fx}{ys cs ds:List Nat}(B:Beg f ys cs)(h:∀ c∈ds,c∈cs):Beg f ys ds:=⟨B.ne,B.len,B.ys8,fun c hc=>B.cs8 c (h c hc)⟩
section
variable{P:Program}{w:World}{K:W.Frag}{mg:Str→Option Value}{base:Heap}{f g:Addr}{fd gd:FuncData}
def Zbh(K:W.Frag):Sp:=fun vs H Q _=>∃(p:Addr) (fx:Fx) (ys cs:List Nat),vs=[.int (hN cs:Nat),.ref p]∧SqT K H p (vN ys)∧Beg fx ys cs∧Q (.int (hN (Ei (Jc ys) cs):Nat)) H
theorem Zn8:FnScope ["hand","trick"] ["hand","trick"] (Zp Gg):=⟨rfl,rfl,rfl,by decide +kernel,rfl,by decide +kernel,by decide +kernel⟩
theorem Zmr{k:Nat}{f1:Addr}{d1:FuncData}{t1:Tok}(F:Fun K "of_led_suit" "of_led_suit" Gg f fd)(LO:Lib P w K mg base k "of_suit" ["hand","suit"] (Bf K) f1 d1)(mH:mg "HEIGHTS" = some (.int 8 t1)):FnOk P w K mg base Y4 (k+1) f fd ["hand","trick"] (Zbh K):=by
 refine F.ok Zn8 (fun vs H Q E h=>?_) (fun cdv A outer s H vs Q E hr h=>?_)
 ·obtain⟨p,fx,ys,cs,rfl,_⟩:=h
  rfl
 obtain⟨p,fx,ys,cs,rfl,hT,B,q⟩:=h;refine⟨_,Zq (Z6 (Z9 LO.ok hr rfl LO.mg LO.kp LO.bd .nil Jh (Za (pv 0) (Za (Z0 J1 (Jn Jw (pv 1) Zl (fun _ _=>rfl)) (J0 (v:=.int 8) rfl mH ⟨_,rfl⟩)) Zh)))),?_⟩;have e0:(((ys.getD 0 0:Nat):Int) / 8)=((Jc ys:Nat):Int):=by unfold Jc;omega
 refine⟨_,rfl,_,rfl,p,_,_,_,rfl,rfl,hT,Rl (i:=0) B.ne,_,_,rfl,rfl,⟨by decide,by decide⟩,hN cs,Jc ys,(show [V.int (hN cs:Nat),V.int (((ys.getD 0 0:Nat):Int) / 8)]=_ by rw[e0]),Th B.c32,B.led,?_⟩;rw[Zcc B.c32 B.led];exact q
def K1(t:Option Nat):Prop:=∀ u,t=some u→u < 4
def Zbk(K:W.Frag)(CG:Addr):Sp:=fun vs H Q _=>∃(gm x p:Addr) (t:Option Nat) (fx:Fx) (ys cs:List Nat),vs=[.ref gm,.int (hN cs:Nat),.ref p]∧IsGam CG x (Q5 t) H gm∧K1 t∧SqT K H p (vN ys)∧Beg fx ys cs∧Q (.int (hN (Em t (Jc ys) cs):Nat)) H
abbrev Zp3:List Str:=["game","hand","trick","followers","trumps"]
theorem scFoc:FnScope Zp3 ["game","hand","trick"] (Zp Zl9):=⟨rfl,rfl,rfl,by decide +kernel,rfl,by decide +kernel,by decide +kernel⟩
theorem Zmu{k:Nat}{f1 f2 CG:Addr}{d1 d2:FuncData}(F:Fun K "followed_or_cut" "followed_or_cut" Zl9 f fd)(CGm:GamC K mg CG)(LL:Lib P w K mg base k "of_led_suit" ["hand","trick"] (Zbh K) f1 d1)(LO:Lib P w K mg base k "of_suit" ["hand","suit"] (Bf K) f2 d2) :
  FnOk P w K mg base Y4 (k+1) f fd ["game","hand","trick"] (Zbk K CG):=by
 refine F.ok scFoc (fun vs H Q E h=>?_) (fun cdv A outer s H vs Q E hr h=>?_)
 ·obtain⟨gm,x,p,t,fx,ys,cs,rfl,_⟩:=h
  rfl
 obtain⟨gm,x,p,t,fx,ys,cs,rfl,⟨dg,hG⟩,hb,hT,B,q⟩:=h;refine⟨_,Zg (Z4 (i:=3) scFoc.nd rfl (Or.inl rfl) (Z9 LL.ok hr rfl LL.mg LL.kp LL.bd .nil Jh (Za (pv 1) (Za (pv 2) Zh))))
  (Zg (Ju (Z7 Qg (pv 3) Zl (Jd _)) (Zq (Z6 (pv 3))) Jg)
  (Zg (Ju (Z7 Vw (Jy (pv 0) rfl) Uz (Jd _)) (Zq (Z6 (pv 1))) Jg)
  (Zg (Z4 (i:=4) scFoc.nd rfl (Or.inl rfl) (Z9 LO.ok hr rfl LO.mg LO.kp LO.bd .nil Jh (Za (pv 1) (Za (Jy (pv 0) rfl) Zh))))
  (Zq (Z6 (Bp (Z7 Qg (pv 4) Zl (Jd _)) (pv 4) (pv 1))))))),?_⟩
 refine⟨_,rfl,_,rfl,p,fx,ys,cs,rfl,hT,B,?_⟩;refine⟨_,rfl,_,_,rfl,rfl,_,rfl,?_⟩;refine Xu (gtz _) ?_;unfold Em at q;rw[Ot] at q;by_cases c1:0 < hN (Ei (Jc ys) cs)
 ·rw[Zf c1]
  rw[if_pos c1] at q;exact Ub ⟨_,rfl,q⟩
 rw[Zd c1];rw[if_neg c1,Ot] at q;refine J9 ⟨_,rfl,gm,CG,dg,_,_,rfl,hG,CGm.cl,CGm.nU,X8 _ _,rfl,_,rfl,?_⟩;cases t with
 | none=>
  have z:hN (trL none cs)=0:=rfl;rw[z,if_neg (Nat.lt_irrefl 0)] at q;exact Ub ⟨_,rfl,q⟩
 | some u=>
  refine J9 ⟨_,rfl,_,rfl,gm,CG,dg,_,_,rfl,hG,CGm.cl,CGm.nU,X8 _ _,hN cs,u,rfl,Th B.c32,hb u rfl,?_⟩;rw[Zcc B.c32 (hb u rfl)];have e:hN (trL (some u) cs)=hN (cs.filter fun c=>decide (c / 8=u)):=rfl;rw[e] at q;refine⟨_,rfl,_,_,rfl,rfl,_,rfl,?_⟩;refine Xu (gtz _) ?_;by_cases c2:0 < hN (cs.filter fun c=>decide (c / 8=u))
  ·rw[Zf c2]
   rw[if_pos c2] at q;exact Ub ⟨_,rfl,q⟩
  ·rw[Zd c2]
   rw[if_neg c2] at q;exact J9 ⟨_,rfl,q⟩
def ovV(fx:Fx)(t:Option Nat)(c led:Nat)(x:V):Bool:=match x with | .int i=>U6 fx t c i.toNat led | _=>false
theorem Zgg(fx:Fx)(t:Option Nat)(c led:Nat)(ys:List Nat):(((vN ys).filter fun _=>true).map fun x=>V.bl (ovV fx t c led x))=(ys.map fun o=>U6 fx t c o led).map V.bl:=by
 rw[List.filter_eq_self.mpr fun _ _=>rfl];unfold vN;rw[Z8,Z8];refine Jz fun o _=>?_;show V.bl (U6 fx t c (((o:Nat):Int).toNat) led)=V.bl (U6 fx t c o led);rw[Zv]
def Sh(K:W.Frag)(CT CG:Addr):Sp:=fun vs H Q _=>∃(gm x p:Addr) (t:Option Nat) (fx:Fx) (ys:List Nat) (c:Nat),vs=[.ref gm,.int (c:Nat),.ref p]∧fx.Ok∧IsGam CG x (Q5 t) H gm∧IsTab CT fx H x∧SqT K H p (vN ys)∧Beg fx ys []∧c % 8 < fx.h∧∀ H',Same H H'→Q (.bl (ys.all fun o=>U6 fx t c o (Jc ys))) H'
abbrev Zll:List Str:=["game","card","trick","led"]
abbrev nGoesB:List Str:=["other","game","card","led"]
theorem scGoes:FnScope Zll ["game","card","trick"] (Zp Bj):=⟨rfl,rfl,rfl,by decide +kernel,rfl,by decide +kernel,by decide +kernel⟩
theorem Zj5{k:Nat}{CT CG m3:Addr}{e3:FuncData}{t1:Tok}(F:Fun K "goes_over_all" "goes_over_all" Bj f fd)(CGm:GamC K mg CG)(MV:Meth K CG "is_over" m3)(FV:FnOk P w K mg base Y4 k m3 e3 Ri (Do CT CG))(BV:Binds K e3 Ri [])(mH:mg "HEIGHTS" = some (.int 8 t1))(mA:mg "all" = none) :
  FnOk P w K mg base Y4 (k+1) f fd ["game","card","trick"] (Sh K CT CG):=by
 refine F.ok scGoes (fun vs H Q E h=>?_) (fun cdv A outer s H vs Q E hr h=>?_)
 ·obtain⟨gm,x,p,t,fx,ys,c,rfl,_⟩:=h
  rfl
 obtain⟨gm,x,p,t,fx,ys,c,rfl,ok,hg,ht,hT,B,hc,q⟩:=h;refine⟨_,Zg (Z4 (i:=3) scGoes.nd rfl (Or.inr rfl) (Z0 J1 (Jn Jw (pv 2) Zl (fun _ _=>rfl)) (J0 (v:=.int 8) rfl mH ⟨_,rfl⟩)))
  (Zq (Z6 (Jf (M5 rfl) rfl mA PyProof.Rows.boot_all (Za (Ui nGoesB [none,some 0,some 1,some 3] rfl (Blk.by (sc:=Zp Bj) (N0:=Zll) rfl rfl (by decide +kernel)) (Oh (pv 2)) (fun C s₀ H₀ ex=>Jr (i:=0) (show nGoesB.Nodup by decide +kernel) rfl (Or.inl rfl)) (fun C s₀ H₀ ex=>U4)
   (fun C s₀ H₀ ex=>X4 (pv 1) CGm.cl MV FV hr BV .nil Jh (Za (pv 2) (Za (pv 0) (Za (pv 3) Zh))))) Zh)))),?_⟩
 have e0:(((ys.getD 0 0:Nat):Int) / 8)=((Jc ys:Nat):Int):=by unfold Jc;omega
 refine⟨_,rfl,p,_,_,_,rfl,rfl,hT,Rl (i:=0) B.ne,_,_,rfl,rfl,⟨by decide,by decide⟩,?_⟩;have h32:=B.len;refine⟨_,rfl,p,rfl,⟨_,hT⟩,Tq (K:=K) (xs:=vN ys) (fun _=>true) (fun x=>.bl (ovV fx t c (Jc ys) x)) hT (Jl _ (by rw[Jq];omega)) (fun y H3 hy sm R hR=>hR H3 (Same.refl H3)) (fun y H3 hy hp sm R hR=>?_) (fun lq H4 s4 hlq hL4=>?_)⟩
 ·obtain⟨o,ho,rfl⟩:=Z2.mp hy
  obtain⟨dg,hG⟩:=id (hg.same sm);refine⟨_,rfl,gm,dg,_,rfl,hG,Qy _ _ _ (by decide +kernel) (by decide +kernel),_,rfl,_,rfl,_,rfl,gm,x,t,fx,c,o,Jc ys,(show [V.ref gm,V.int (c:Nat),V.int (o:Nat),V.int (((ys.getD 0 0:Nat):Int) / 8)]=_ by rw[e0]),ok,hg.same sm,ht.same sm,hc,(B.ys8 o ho).2,fun H5 s5=>?_⟩;have r:=hR H5 s5;have e:ovV fx t c (Jc ys) (.int (o:Nat))=U6 fx t c o (Jc ys):=by
   show U6 fx t c (((o:Nat):Int).toNat) (Jc ys)=_;rw[Zv]
  rw[e] at r;exact r
 ·rw[Zgg] at hL4
  refine⟨lq,_,rfl,SqL.of hL4,?_⟩;have z:=q H4 s4;rw[List.all_map];exact z
def Zfk(K:W.Frag)(CT CG:Addr)(i:_root_.Fin 4):Sp:=fun vs H Q _=>∃(a gm x p:Addr) (t:Option Nat) (fx:Fx) (ys cs:List Nat),vs=[.ref a,.ref gm,.int (hN cs:Nat),.ref p]∧fx.Ok∧IsGam CG x (Q5 t) H gm∧IsTab CT fx H x∧K1 t∧SqT K H p (vN ys)∧Beg fx ys cs∧∀ H',Same H H'→Q (.int (hN (O3 i fx t ys cs):Nat)) H'
abbrev pAl:List Str:=["self","game","hand","trick"]
theorem Zfr:FnScope pAl pAl (Zp Oa):=⟨rfl,rfl,rfl,by decide +kernel,rfl,by decide +kernel,by decide +kernel⟩
theorem Zdk{k:Nat}{CT CG:Addr}(F:Fun K "allowed" "Free.allowed" Oa f fd):FnOk P w K mg base Y4 (k+1) f fd pAl (Zfk K CT CG 0):=by
 refine F.ok Zfr (fun vs H Q E h=>?_) (fun cdv A outer s H vs Q E hr h=>?_)
 ·obtain⟨a,gm,x,p,t,fx,ys,cs,rfl,_⟩:=h
  rfl
 obtain⟨a,gm,x,p,t,fx,ys,cs,rfl,ok,hg,ht,hb,hT,B,q⟩:=h;exact⟨_,Zq (Z6 (pv 2)),_,rfl,q H (Same.refl H)⟩
abbrev Zdr:List Str:=["self","game","hand","trick","followers"]
theorem scFollowAl:FnScope Zdr pAl (Zp Vp):=⟨rfl,rfl,rfl,by decide +kernel,rfl,by decide +kernel,by decide +kernel⟩
theorem A4{k:Nat}{CT CG f1:Addr}{d1:FuncData}(F:Fun K "allowed" "Follow.allowed" Vp f fd)(LL:Lib P w K mg base k "of_led_suit" ["hand","trick"] (Zbh K) f1 d1):FnOk P w K mg base Y4 (k+1) f fd pAl (Zfk K CT CG 1):=by
 refine F.ok scFollowAl (fun vs H Q E h=>?_) (fun cdv A outer s H vs Q E hr h=>?_)
 ·obtain⟨a,gm,x,p,t,fx,ys,cs,rfl,_⟩:=h
  rfl
 obtain⟨a,gm,x,p,t,fx,ys,cs,rfl,ok,hg,ht,hb,hT,B,q⟩:=h;refine⟨_,Zg (Z4 (i:=4) scFollowAl.nd rfl (Or.inl rfl) (Z9 LL.ok hr rfl LL.mg LL.kp LL.bd .nil Jh (Za (pv 2) (Za (pv 3) Zh))))
  (Zq (Z6 (Bp (Z7 Qg (pv 4) Zl (Jd _)) (pv 4) (pv 2)))),?_⟩
 refine⟨_,rfl,_,rfl,p,fx,ys,cs,rfl,hT,B,?_⟩;refine⟨_,rfl,_,_,rfl,rfl,_,rfl,?_⟩;refine Xu (gtz _) ?_;have q':=q H (Same.refl H);have e:hN (O3 1 fx t ys cs)=if 0 < hN (Ei (Jc ys) cs) then hN (Ei (Jc ys) cs) else hN cs:=Ot
 rw[e] at q';by_cases c1:0 < hN (Ei (Jc ys) cs)
 ·rw[Zf c1]
  rw[if_pos c1] at q';exact Ub ⟨_,rfl,q'⟩
 ·rw[Zd c1]
  rw[if_neg c1] at q';exact J9 ⟨_,rfl,q'⟩
theorem Zjb:FnScope pAl pAl (Zp S7):=⟨rfl,rfl,rfl,by decide +kernel,rfl,by decide +kernel,by decide +kernel⟩
theorem Zg4{k:Nat}{CT CG f1:Addr}{d1:FuncData}(F:Fun K "allowed" "Cut.allowed" S7 f fd)(LF:Lib P w K mg base k "followed_or_cut" ["game","hand","trick"] (Zbk K CG) f1 d1):FnOk P w K mg base Y4 (k+1) f fd pAl (Zfk K CT CG 2):=by
 refine F.ok Zjb (fun vs H Q E h=>?_) (fun cdv A outer s H vs Q E hr h=>?_)
 ·obtain⟨a,gm,x,p,t,fx,ys,cs,rfl,_⟩:=h
  rfl
 obtain⟨a,gm,x,p,t,fx,ys,cs,rfl,ok,hg,ht,hb,hT,B,q⟩:=h;exact⟨_,Zq (Z6 (Z9 LF.ok hr rfl LF.mg LF.kp LF.bd .nil Jh (Za (pv 1) (Za (pv 2) (Za (pv 3) Zh))))),_,rfl,_,rfl,_,rfl,gm,x,p,t,fx,ys,cs,rfl,hg,hb,hT,B,q H (Same.refl H)⟩
abbrev Zb2:List Str:=["self","game","hand","trick","choice","beaters"]
abbrev nBeatB:List Str:=["card","game","trick"]
theorem scBeatAl:FnScope Zb2 pAl (Zp Rs):=⟨rfl,rfl,rfl,by decide +kernel,rfl,by decide +kernel,by decide +kernel⟩
def Zly(fx:Fx)(t:Option Nat)(ys:List Nat)(x:V):Bool:=match x with | .int i=>ys.all fun o=>U6 fx t i.toNat o (Jc ys) | _=>false
theorem Zcv(fx:Fx)(t:Option Nat)(ys ds:List Nat):(((vN ds).filter (Zly fx t ys)).map fun x=>x)=vN (ds.filter fun c=>ys.all fun o=>U6 fx t c o (Jc ys)):=by
 rw[List.map_id'];unfold vN;rw[List.filter_map];refine congrArg _ (List.filter_congr fun c _=>?_);show(ys.all fun o=>U6 fx t (((c:Nat):Int).toNat) o (Jc ys))=_;rw[Zv]
theorem Zdm{k:Nat}{CT CG f1 f2 f3 f4:Addr}{d1 d2 d3 d4:FuncData}(F:Fun K "allowed" "Beat.allowed" Rs f fd)(LF:Lib P w K mg base k "followed_or_cut" ["game","hand","trick"] (Zbk K CG) f1 d1)
  (LH:Lib P w K mg base k "hand_of" ["cards"] (Bg K) f2 d2) (LI:Lib P w K mg base k "cards_in" ["hand"] (X5 K) f3 d3) (LG:Lib P w K mg base k "goes_over_all" ["game","card","trick"] (Sh K CT CG) f4 d4):FnOk P w K mg base Y4 (k+1) f fd pAl (Zfk K CT CG 3):=by
 refine F.ok scBeatAl (fun vs H Q E h=>?_) (fun cdv A outer s H vs Q E hr h=>?_)
 ·obtain⟨a,gm,x,p,t,fx,ys,cs,rfl,_⟩:=h
  rfl
 obtain⟨a,gm,x,p,t,fx,ys,cs,rfl,ok,hg,ht,hb,hT,B,q⟩:=h;refine⟨_,Zg (Z4 (i:=4) scBeatAl.nd rfl (Or.inl rfl) (Z9 LF.ok hr rfl LF.mg LF.kp LF.bd .nil Jh (Za (pv 1) (Za (pv 2) (Za (pv 3) Zh)))))
  (Zg (Z4 (i:=5) scBeatAl.nd rfl (Or.inl rfl) (Z9 LH.ok hr rfl LH.mg LH.kp LH.bd .nil Jh (Za (Ui nBeatB [none,some 1,some 3] rfl (Blk.by (sc:=Zp Rs) (N0:=Zb2) rfl rfl (by decide +kernel)) (Uh (Z9 LI.ok hr rfl LI.mg LI.kp LI.bd .nil Jh (Za (pv 4) Zh))) (fun C s₀ H₀ ex=>Jr (i:=0) (show nBeatB.Nodup by decide +kernel) rfl (Or.inl rfl))
   (fun C s₀ H₀ ex=>Gq (Zc5 (Z9 LG.ok hr rfl LG.mg LG.kp LG.bd .nil Jh (Za (pv 1) (Za (pv 0) (Za (pv 2) Zh)))) (fun _=>rfl))) (fun C s₀ H₀ ex=>pv 0)) Zh)))
  (Zq (Z6 (Bp (Z7 Qg (pv 5) Zl (Jd _)) (pv 5) (pv 4))))),?_⟩
 have hsub:=E7 t (Jc ys) cs;have B2:=B.sub hsub;refine⟨_,rfl,_,rfl,_,rfl,gm,x,p,t,fx,ys,cs,rfl,hg,hb,hT,B,?_⟩;refine⟨_,rfl,hN (Em t (Jc ys) cs),rfl,Th B2.c32,fun l1 H1 s1 hl1 hL1=>?_⟩;rw[Q4] at hL1;have hmem:=B3 B2.c32;have hlen:(Ys (hN (Em t (Jc ys) cs))).length≤32:=by
  unfold Ys;exact Nat.le_trans (List.length_filter_le _ _) (by rw[J4];exact Nat.le_refl _)
 refine⟨l1,rfl,⟨_,SqL.of hL1⟩,Ue (K:=K) (xs:=vN (Ys (hN (Em t (Jc ys) cs)))) (Zly fx t ys) (fun y=>y) (SqL.of hL1) (Jl _ (by rw[Jq];omega)) (fun y H3 hy sm R hR=>?_) (fun y H3 hy hp sm R hR=>⟨_,rfl,hR H3 (Same.refl H3)⟩) (fun lq H4 s4 hlq hL4=>?_)⟩
 ·obtain⟨c,hc,rfl⟩:=Z2.mp hy
  have s3:=s1.trans sm;have c8:=(B2.cs8 c ((hmem c).mp hc)).2;refine⟨_,rfl,_,rfl,_,rfl,gm,x,p,t,fx,ys,c,rfl,ok,hg.same s3,ht.same s3,s3.seqT hT,B.sub (fun c hc=>nomatch hc),c8,fun H5 s5=>⟨_,rfl,?_⟩⟩;have r:=hR H5 s5;have e:Zly fx t ys (.int (c:Nat))=ys.all fun o=>U6 fx t c o (Jc ys):=by
   show(ys.all fun o=>U6 fx t (((c:Nat):Int).toNat) o (Jc ys))=_;rw[Zv]
  rw[e] at r;exact r
 ·rw[Zcv] at hL4
  refine⟨lq,_,rfl,SqL.of hL4,fun c hc=>Q3 (List.mem_filter.mp hc).1,?_⟩;have eo:Qx ((Ys (hN (Em t (Jc ys) cs))).filter fun c=>ys.all fun o=>U6 fx t c o (Jc ys)) 0=hN (Ve fx t ys (Em t (Jc ys) cs)):=by
   refine Zhu fun i=>?_;unfold Ve;rw[List.mem_filter,List.mem_filter,hmem]
  rw[eo];refine⟨_,rfl,_,_,rfl,rfl,_,rfl,?_⟩;refine Xu (gtz _) ?_;have q':=q H4 (s1.trans s4);have e:hN (O3 3 fx t ys cs)=if 0 < hN (Ve fx t ys (Em t (Jc ys) cs)) then hN (Ve fx t ys (Em t (Jc ys) cs)) else hN (Em t (Jc ys) cs):=Ot
  rw[e] at q';by_cases c1:0 < hN (Ve fx t ys (Em t (Jc ys) cs))
  ·rw[Zf c1]
   rw[if_pos c1] at q';exact Ub ⟨_,rfl,q'⟩
  ·rw[Zd c1]
   rw[if_neg c1] at q';exact J9 ⟨_,rfl,q'⟩
end
abbrev D1:Stmt:=Yo (top 61) 4
theorem Zko{ys:List Nat}{i c:Nat}(h:ys[i]? = some c):ys.getD i 0=c:=by rw[Zk,h];rfl
theorem Zou{ys:List Nat}{i c:Nat}(h:ys[i]? = some c):i < ys.length:=(Zt.mp h).1
section
variable{P:Program}{w:World}{K:W.Frag}{mg:Str→Option Value}{base:Heap}{f g:Addr}{fd gd:FuncData}
def R8(K:W.Frag)(CT CG:Addr):Sp:=fun vs H Q _=>∃(gm x p:Addr) (t:Option Nat) (f:Fx) (ys:List Nat),vs=[.ref gm,.ref p]∧f.Ok∧IsGam CG x (Q5 t) H gm∧IsTab CT f H x∧SqT K H p (vN ys)∧Trk f ys∧∀ h H',Same H H'→Win f t (Jc ys) ys h→Q (.int (h:Nat)) H'
abbrev Zka:List Str:=["self","trick","led","highest","number","card"]
theorem scWinner:FnScope Zka ["self","trick"] (Zp D1):=⟨rfl,rfl,rfl,by decide +kernel,rfl,by decide +kernel,by decide +kernel⟩
theorem Zdc{k:Nat}{CT CG m3:Addr}{e3:FuncData}{t1:Tok}(F:Fun K "winner" "Game.winner" D1 f fd)(CGm:GamC K mg CG)(MV:Meth K CG "is_over" m3)(FV:FnOk P w K mg base Y4 k m3 e3 Ri (Do CT CG))(BV:Binds K e3 Ri [])(mH:mg "HEIGHTS" = some (.int 8 t1))(me:mg "enumerate" = none) :
  FnOk P w K mg base Y4 (k+1) f fd ["self","trick"] (R8 K CT CG):=by
 refine F.ok scWinner (fun vs H Q E h=>?_) (fun cdv A outer s H vs Q E hr h=>?_)
 ·obtain⟨gm,x,p,t,fx,ys,rfl,_⟩:=h
  rfl
 obtain⟨gm,x,p,t,fx,ys,rfl,ok,hg,ht,hT,T,q⟩:=h;refine⟨_,Zg (Z4 (i:=2) scWinner.nd rfl (Or.inl rfl) (Z0 J1 (Jn Jw (pv 1) Zl (fun _ _=>rfl)) (J0 (v:=.int 8) rfl mH ⟨_,rfl⟩)))
  (Zg (Z4 (i:=3) scWinner.nd rfl (Or.inl rfl) Zl)
  (Zg (X0 PassesOwn.never rfl (Al rfl me (Za (pv 1) Zh)) (Oi rfl (Xo (Jr (i:=4) scWinner.nd rfl (Or.inl rfl)) (Xo (Jr (i:=5) scWinner.nd rfl (Or.inl rfl)) Rw)))
   (Zq (Ju (Ug (X4 (pv 0) CGm.cl MV FV hr BV .nil Jh (Za (pv 5) (Za (Jn Jw (pv 1) (pv 3) (fun _ _=>rfl)) (Za (pv 2) Zh)))) (fun _=>rfl)) (Zq (Z4 (i:=3) scWinner.nd rfl (Or.inl rfl) (pv 4))) Jg)))
  (Zq (Z6 (pv 3))))),?_⟩
 have e0:(((ys.getD 0 0:Nat):Int) / 8)=((Jc ys:Nat):Int):=by unfold Jc;omega
 refine⟨_,rfl,p,_,_,_,rfl,rfl,hT,Rl (i:=0) T.ne,_,_,rfl,rfl,⟨by decide,by decide⟩,?_⟩;refine⟨_,rfl,p,_,rfl,hT,?_⟩;refine Mv (K:=K) (a:=p) (xs:=vN ys) (fun i σ H'=>Same H H'∧∃(h:Nat) (x4 x5:Option V),σ=[some (.ref gm),some (.ref p),some (.int ((Jc ys:Nat):Int)),some (.int (h:Nat)),x4,x5]∧h < ys.length∧∀ j < i,rk fx t (Jc ys) (ys.getD j 0)≤rk fx t (Jc ys) (ys.getD h 0))
  ⟨Same.refl H,0,none,none,?_,T.ne,fun j hj=>absurd hj (Nat.not_lt_zero _)⟩ (fun i σ H1 z=>z.1.seqT hT) (fun i v r σ H1 hv z hr1=>?_) (fun σ H1 z=>?_)
 ·show [_,_,some (V.int (((ys.getD 0 0:Nat):Int) / 8)),_,_,_]=_
  rw[e0];rfl
 ·obtain⟨s1,h,x4,x5,rfl,hh,hm⟩:=z
  obtain⟨c,hc,rfl⟩:=En hv;have s2:=s1.trans (Zy hr1 (.tup [.int (i:Nat),.int (c:Nat)]));refine⟨r,_,rfl,SqT.of Zj,rfl,_,_,rfl,_,_,rfl,rfl,?_⟩;obtain⟨dg,hG⟩:=id (hg.same s2);have cm:c∈ys:=Zr hc;have hmem:ys.getD h 0∈ys:=by
   rw[Zk,Zb hh];exact Yy _
  refine⟨_,rfl,gm,dg,_,rfl,hG,Qy _ _ _ (by decide +kernel) (by decide +kernel),_,rfl,_,rfl,_,rfl,p,_,_,_,rfl,rfl,s2.seqT hT,Rl hh,_,rfl,gm,x,t,fx,c,ys.getD h 0,Jc ys,rfl,ok,hg.same s2,ht.same s2,T.ht c cm,T.ht _ hmem,fun H3 s3=>⟨_,rfl,?_⟩⟩;rw[Nj ok];have gc:=Zko hc;refine Bz (fun y=>?_) fun y=>?_
  ·have y:=Jx y
   refine⟨_,rfl,s2.trans s3,i,_,_,rfl,Zou hc,fun j hj=>?_⟩;rw[gc];rcases Nat.lt_or_eq_of_le (Nat.le_of_lt_succ hj) with z | z
   ·exact Nat.le_trans (hm j z) (J2 y)
   ·rw[z,gc]
    exact Nat.le_refl _
  ·have y:¬ rk fx t (Jc ys) (ys.getD h 0) < rk fx t (Jc ys) c:=fun z=>y (Zf z)
   refine⟨s2.trans s3,h,_,_,rfl,hh,fun j hj=>?_⟩;rcases Nat.lt_or_eq_of_le (Nat.le_of_lt_succ hj) with z | z
   ·exact hm j z
   ·rw[z,gc]
    exact Nat.le_of_not_lt y
 ·obtain⟨s1,h,x4,x5,rfl,hh,hm⟩:=z
  rw[Jq] at hm;exact⟨_,rfl,q h H1 s1 (Zes ok T hh hm)⟩
def Zfi(K:W.Frag)(CT CG:Addr):Sp:=fun vs H Q _=>∃(gm x p:Addr) (t:Option Nat) (fx:Fx) (ys cs:List Nat),vs=[.ref gm,.int (hN cs:Nat),.ref p]∧fx.Ok∧IsGam CG x (Q5 t) H gm∧IsTab CT fx H x∧K1 t∧SqT K H p (vN ys)∧(ys=[]∨Beg fx ys cs)∧∀ H',Same H H'→Q (.int (hN (if ys=[] then cs else O3 fx.d fx t ys cs):Nat)) H'
theorem Zn7:FnScope ["self","hand","trick"] ["self","hand","trick"] (Zp Zl8):=⟨rfl,rfl,rfl,by decide +kernel,rfl,by decide +kernel,by decide +kernel⟩
abbrev AlF(P:Program)(w:World)(K:W.Frag)(mg:Str→Option Value)(base:Heap)(CT CG:Addr)(k:Nat)(c4 f4:_root_.Fin 4→Addr)(d4:_root_.Fin 4→FuncData):Prop:=MethF P w K mg base Y4 k (_root_.Fin 4) "allowed" pAl (Zfk K CT CG) c4 f4 d4
theorem Zdw(ys:List Nat):decide (V.int (((vN ys).length:Nat):Int)=V.int 0)=decide (ys=[]):=by
 rw[Jq];refine decide_eq_decide.mpr ⟨fun h=>?_,fun h=>by rw[h];rfl⟩;injection h with h
 exact List.eq_nil_of_length_eq_zero (by omega)
theorem Zmq{k:Nat}{CT CG CN f1 m2:Addr}{d1 e2:FuncData}{c4 f4:_root_.Fin 4→Addr}{d4:_root_.Fin 4→FuncData}(F:Fun K "may" "Game.may" Zl8 f fd)(C:TabC K mg CT)(CGm:GamC K mg CG)(LD:LibX P w K mg base k "duty_of" ["word"] (Sj c4 CN) f1 d1)
  (MD:Meth K CT "duty" m2) (FD:FnOk P w K mg base Y4 k m2 e2 ["self"] (Dk CT)) (BD:Binds K e2 ["self"] []) (MA:AlF P w K mg base CT CG k c4 f4 d4) (ml:mg "len" = none) :
  FnOk P w K mg base Y4 (k+1) f fd ["self","hand","trick"] (Zfi K CT CG):=by
 refine F.ok Zn7 (fun vs H Q E h=>?_) (fun cdv A outer s H vs Q E hr h=>?_)
 ·obtain⟨gm,x,p,t,fx,ys,cs,rfl,_⟩:=h
  rfl
 obtain⟨gm,x,p,t,fx,ys,cs,rfl,ok,hg,ht,hb,hT,B,q⟩:=h;refine⟨_,Zg (Ju (Z7 Uc (Jf Je rfl ml Z5 (Za (pv 2) Zh)) Zl (Jd _)) (Zq (Z6 (pv 1))) Jg)
  (Zq (Z6 (Zga (Z9 LD.ok hr rfl LD.mg LD.kp LD.bd .nil Gw (Za (Uv (Jy (pv 0) rfl) C.cl MD FD hr BD .nil Jh) Zh)) MA hr Jh (Za (pv 0) (Za (pv 1) (Za (pv 2) Zh)))))),?_⟩
 refine⟨_,rfl,p,_,rfl,.inr hT,rfl,_,rfl,?_⟩;refine Xu (Zdw ys) ?_;by_cases c0:ys=[]
 ·rw[Zf c0]
  have q':=q H (Same.refl H);rw[if_pos c0] at q';exact Ub ⟨_,rfl,q'⟩
 ·rw[Zd c0]
  have B':=B.resolve_left c0;obtain⟨dg,hG⟩:=id hg;obtain⟨dx,po,to,hX,_,_⟩:=id ht;refine J9 ⟨_,rfl,gm,CG,dg,_,_,rfl,hG,CGm.cl,CGm.nT,Up _ _,x,dx,_,rfl,hX,Zap _ _ _,x,fx,rfl,ht,wd fx.d,rfl,fun i e y dy H6 s6 hy h6=>?_,fun z=>absurd (Zhf _) z⟩;have ei:=K2 _ _ e;refine⟨i,y,dy,[],rfl,h6,rfl,_,rfl,_,rfl,_,rfl,y,gm,x,p,t,fx,ys,cs,rfl,ok,hg.same s6,ht.same s6,hb,s6.seqT hT,B',fun H7 s7=>?_⟩;have q':=q H7 (s6.trans s7);rw[if_neg c0,ei] at q';exact q'
end
theorem V4{p q:Nat→Bool}{c:Nat}:∀{l:List Nat},l.Nodup→c∈l→(∀ b,b≠c→p b=q b)→p c=false→q c=true→(l.filter p).length+1=(l.filter q).length
 | [],_,h,_,_,_=>nomatch h
 | a :: l,nd,h,e,pc,qc=>by
  obtain⟨na,nd'⟩:=List.nodup_cons.mp nd;by_cases z:a=c
  ·subst z
   rw[List.filter_cons_of_neg (by rw[pc];exact Zz),List.filter_cons_of_pos qc,Jk]
   congr 2
   exact List.filter_congr fun b hb=>e b fun z=>na (z ▸ hb)
  ·have m:c∈l:=(List.mem_cons.mp h).resolve_left (Ne.symm z)
   have ih:=V4 nd' m e pc qc;have ea:=e a z;cases r:q a with
   | true=>rw[r] at ea;rw[List.filter_cons_of_pos ea,List.filter_cons_of_pos r,Jk,Jk,ih]
   | false=>rw[r] at ea;rw[List.filter_cons_of_neg (by rw[ea];exact Zz),List.filter_cons_of_neg (by rw[r];exact Zz),ih]
theorem Qo(c b:Nat):(2 ^ c).testBit b=decide (c=b):=by
 rw[Nat.testBit_two_pow]
theorem Nc(h c b:Nat)(hc:h.testBit c=true):(h ^^^ 2 ^ c).testBit b=(!decide (c=b) && h.testBit b):=by
 rw[Nat.testBit_xor,Qo];by_cases e:c=b
 ·subst e
  rw[hc,Zf rfl];rfl
 ·rw[Zd e]
  cases h.testBit b<;>rfl
theorem Zmf{h c:Nat}(hc:h.testBit c=true)(c32:c < 32):Xt 32 (h ^^^ 2 ^ c)+1=Xt 32 h:=by
 unfold Xt;refine V4 (c:=c) List.nodup_range (Jm.mpr c32) (fun b n=>?_) ?_ hc
 ·rw[Nc _ _ _ hc,Zd (Ne.symm n)]
  rfl
 ·rw[Nc _ _ _ hc,Zf rfl]
  rfl
theorem Zom{h c:Nat}(hc:h.testBit c=false)(c32:c < 32):Xt 32 h+1=Xt 32 (h ||| 2 ^ c):=by
 unfold Xt;refine V4 (c:=c) List.nodup_range (Jm.mpr c32) (fun b n=>?_) hc ?_
 ·rw[Nat.testBit_or,Qo,Zd (Ne.symm n),Bool.or_false]
 ·rw[Nat.testBit_or,Qo,Zf rfl,Bool.or_true]
theorem Zin{h c:Nat}(hc:h.testBit c=true):(h ^^^ 2 ^ c)+2 ^ c=h:=by
 have a:=PyProof.Rows.nat_or_add_and (h ^^^ 2 ^ c) (2 ^ c);have e1:(h ^^^ 2 ^ c) ||| 2 ^ c=h:=Nat.eq_of_testBit_eq fun b=>by
  rw[Nat.testBit_or,Nc _ _ _ hc,Qo];by_cases e:c=b
  ·subst e
   rw[hc,Zf rfl];rfl
  ·rw[Zd e]
   cases h.testBit b<;>rfl
 have e2:(h ^^^ 2 ^ c) &&& 2 ^ c=0:=Nat.eq_of_testBit_eq fun b=>by
  rw[Nat.testBit_and,Nc _ _ _ hc,Qo,Nat.zero_testBit];by_cases e:c=b
  ·rw[Zf e]
   rfl
  ·rw[Zd e,Bool.and_false]
 rw[e1,e2] at a;omega
theorem Zov{h:Nat}(hb:∀ b,h.testBit b=true→b < 32):h < 4294967296:=by
 refine Nat.lt_pow_two_of_testBit (n:=32) h fun i hi=>?_;cases e:h.testBit i with
 | false=>rfl
 | true=>exact absurd (hb i e) (by omega)
theorem Mi{α:Type}{p:α→Bool}{x:α}:∀{l:List α} {i:Nat} {a:α},l[i]? = some a→(l.set i x).countP p+(if p a then 1 else 0)=l.countP p+(if p x then 1 else 0)
 | [],_,_,h=>by simp at h
 | b :: l,0,a,h=>by
  have e:b=a:=Zn h;subst e;rw[List.set_cons_zero,List.countP_cons,List.countP_cons];omega
 | b :: l,i+1,a,h=>by
  have ih:=Mi (p:=p) (x:=x) (l:=l) (i:=i) (a:=a) h;rw[List.set_cons_succ,List.countP_cons,List.countP_cons];omega
theorem Dz{α:Type}{g:α→Nat}{x:α}:∀{l:List α} {i:Nat} {a:α},l[i]? = some a→((l.set i x).map g).sum+g a=(l.map g).sum+g x
 | [],_,_,h=>by simp at h
 | b :: l,0,a,h=>by
  have e:b=a:=Zn h;subst e;rw[List.set_cons_zero,List.map_cons,List.map_cons,List.sum_cons,List.sum_cons];omega
 | b :: l,i+1,a,h=>by
  have ih:=Dz (g:=g) (x:=x) (l:=l) (i:=i) (a:=a) h;rw[List.set_cons_succ,List.map_cons,List.map_cons,List.sum_cons,List.sum_cons];omega
def A6(n lead i:Nat):Nat:=(i+n - lead) % n
theorem Ew{n lead k:Nat}(hn:n=3∨n=4)(hl:lead < n)(hk:k < n):A6 n lead ((lead+k) % n)=k:=by
 have all:∀ n∈[3,4],∀ lead < n,∀ k < n,A6 n lead ((lead+k) % n)=k:=by decide
 exact all n (by rcases hn with rfl | rfl<;>simp) lead hl k hk
theorem G5{n lead i:Nat}(hn:n=3∨n=4)(hl:lead < n)(hi:i < n):(lead+A6 n lead i) % n=i∧A6 n lead i < n:=by
 have all:∀ n∈[3,4],∀ lead < n,∀ i < n,(lead+A6 n lead i) % n=i∧A6 n lead i < n:=by decide
 exact all n (by rcases hn with rfl | rfl<;>simp) lead hl i hi
abbrev E9(hs ys:List Nat)(b:Nat):Nat:=hs.countP (fun h=>h.testBit b)+ys.count b
structure Plc(f:Fx)(hs:List Nat)(lead:Nat)(ys:List Nat)(m:Nat):Prop where
 len:hs.length=f.n
 ld:lead < f.n
 yl:ys.length < f.n
 one:∀ b,E9 hs ys b≤1
 pk:∀ b,0 < E9 hs ys b→b / 8 < f.s∧b % 8 < f.h
 lv:∀ i h,hs[i]? = some h→Xt 32 h+(if A6 f.n lead i < ys.length then 1 else 0)=m
section
variable{f:Fx}{hs ys:List Nat}{lead m:Nat}
theorem Plc.b32(ok:f.Ok)(P:Plc f hs lead ys m){b:Nat}(h:0 < E9 hs ys b):b < 32:=by
 have:=P.pk b h;have:=ok.s4;have:=ok.h8;omega
theorem Xz{h b:Nat}(hh:h∈hs)(hb:h.testBit b=true):0 < E9 hs ys b:=Z1 (List.countP_pos_iff.mpr ⟨h,hh,hb⟩) (Nat.le_add_right _ _)
theorem Q0{c:Nat}(hc:c∈ys):0 < E9 hs ys c:=Z1 (List.count_pos_iff.mpr hc) (Nat.le_add_left _ _)
theorem Plc.h32(ok:f.Ok)(P:Plc f hs lead ys m){h:Nat}(hh:h∈hs):h < 4294967296:=Zov fun b hb=>P.b32 ok (Xz hh hb)
theorem Plc.y32(ok:f.Ok)(P:Plc f hs lead ys m){c:Nat}(hc:c∈ys):c < 32:=P.b32 ok (Q0 hc)
theorem Plc.nd(P:Plc f hs lead ys m):ys.Nodup:=List.nodup_iff_count.mpr fun b=>by have:=P.one b;unfold E9 at this;omega
theorem Plc.apart(P:Plc f hs lead ys m){h c:Nat}(hh:h∈hs)(hc:c∈ys):h.testBit c=false:=by
 cases e:h.testBit c with
 | false=>rfl
 | true=>
  have h1:0 < hs.countP (fun h=>h.testBit c):=List.countP_pos_iff.mpr ⟨h,hh,e⟩;have h2:=List.count_pos_iff.mpr hc;have:=P.one c;unfold E9 at this;omega
theorem Xy(ok:f.Ok)(lead k:Nat):(lead+k) % f.n < f.n:=Nat.mod_lt _ (by rcases ok.n34 with e | e<;>omega)
theorem Plc.turn(ok:f.Ok)(P:Plc f hs lead ys m):∃ h,hs[(lead+ys.length) % f.n]? = some h∧Xt 32 h=m:=by
 have sl:=Xy ok lead ys.length;have hl:(lead+ys.length) % f.n < hs.length:=by rw[P.len];exact sl
 refine⟨_,Zb hl,?_⟩;have:=P.lv _ _ (Zb hl);rw[Ew ok.n34 P.ld P.yl,if_neg (Nat.lt_irrefl _)] at this;exact this
theorem Plc.le(P:Plc f hs lead ys m){h:Nat}(hh:h∈hs):Xt 32 h≤m:=by
 obtain⟨i,hi,e⟩:=Jv.mp hh;have:=P.lv i h (by rw[Zb hi,e]);omega
theorem Plc.max(ok:f.Ok)(P:Plc f hs lead ys m):m∈hs.map (Xt 32)∧∀ x∈hs.map (Xt 32),x≤m:=by
 obtain⟨h,e1,e2⟩:=P.turn ok;refine⟨Z2.mpr ⟨h,Zr e1,e2⟩,fun x hx=>?_⟩;obtain⟨h',hm,rfl⟩:=Z2.mp hx;exact P.le hm
theorem Plc.step(ok:f.Ok)(P:Plc f hs lead ys m){h c:Nat}(hh:hs[(lead+ys.length) % f.n]? = some h)(hc:h.testBit c=true) :
  (∀ b,E9 (hs.set ((lead+ys.length) % f.n) (h ^^^ 2 ^ c)) (ys++[c]) b=E9 hs ys b)∧(hs.set ((lead+ys.length) % f.n) (h ^^^ 2 ^ c)).sum+2 ^ c=hs.sum ∧
  ((hs.set ((lead+ys.length) % f.n) (h ^^^ 2 ^ c)).map (Xt 32)).sum+1=(hs.map (Xt 32)).sum∧0 < m ∧
  (ys.length+1 < f.n→Plc f (hs.set ((lead+ys.length) % f.n) (h ^^^ 2 ^ c)) lead (ys++[c]) m) ∧
  (ys.length+1=f.n→∀ t,t < f.n→Plc f (hs.set ((lead+ys.length) % f.n) (h ^^^ 2 ^ c)) t [] (m - 1)):=by
 have hm:h∈hs:=Zr hh;have c32:=P.b32 ok (Xz (ys:=ys) hm hc);have A:∀ b,E9 (hs.set ((lead+ys.length) % f.n) (h ^^^ 2 ^ c)) (ys++[c]) b=E9 hs ys b:=fun b=>by
  have z:=Mi (p:=fun h=>h.testBit b) (x:=h ^^^ 2 ^ c) hh;unfold E9;rw[List.count_append,List.count_singleton];have e:=Nc h c b hc;by_cases q:c=b
  ·subst q
   rw[Zf rfl] at e;have e':(h ^^^ 2 ^ c).testBit c=false:=e;rw[hc,e'] at z;simp only[if_true,Bool.false_eq_true,if_false,beq_self_eq_true] at z ⊢;omega
  ·rw[Zd q] at e
   have e':(h ^^^ 2 ^ c).testBit b=h.testBit b:=e;rw[e'] at z;rw[if_neg (by simpa using q)];omega
 have pc:=Zmf hc c32;have S1:=Dz (g:=id) (x:=h ^^^ 2 ^ c) hh;have S2:=Dz (g:=Xt 32) (x:=h ^^^ 2 ^ c) hh;rw[List.map_id,List.map_id] at S1;have xa:=Zin hc;have S1':(hs.set ((lead+ys.length) % f.n) (h ^^^ 2 ^ c)).sum+h=hs.sum+(h ^^^ 2 ^ c):=S1;have tl:=P.lv _ _ hh;rw[Ew ok.n34 P.ld P.yl,if_neg (Nat.lt_irrefl _)] at tl;refine⟨A,by omega,by omega,by omega,fun hl=>⟨by rw[Ux];exact P.len,P.ld,by rw[Z3];exact hl,fun b=>by rw[A];exact P.one b,fun b=>by rw[A];exact P.pk b,fun i g e=>?_⟩,
  fun hl t ht=>⟨by rw[Ux];exact P.len,ht,by show 0 < f.n;omega,fun b=>?_,fun b hb=>?_,fun i g e=>?_⟩⟩
 ·rw[Z3,List.length_singleton]
  by_cases q:i=(lead+ys.length) % f.n
  ·subst q
   have hi:(lead+ys.length) % f.n < hs.length:=by rw[P.len];exact Xy ok _ _
   rw[List.getElem?_set_self hi] at e;cases e;rw[Ew ok.n34 P.ld P.yl,if_pos (Nat.lt_succ_self _)];omega
  ·rw[List.getElem?_set_ne (Ne.symm q)] at e
   have:=P.lv i g e;have hi:i < f.n:=by rw[← P.len];exact(Zt.mp e).1
   obtain⟨o1,o2⟩:=G5 ok.n34 P.ld hi;have ne:A6 f.n lead i≠ys.length:=fun z=>q (by rw[← o1,z]);by_cases w:A6 f.n lead i < ys.length
   ·rw[if_pos w] at this
    rw[if_pos (by omega)];exact this
   ·rw[if_neg w] at this
    rw[if_neg (by omega)];exact this
 ·have:=A b
  have:=P.one b;unfold E9 at *;rw[List.count_append] at *;simp only[List.count_nil] at *;omega
 ·refine P.pk b ?_
  have:=A b;unfold E9 at *;rw[List.count_append] at *;simp only[List.count_nil] at *;omega
 ·have hi:i < f.n:=by
   have:=(Zt.mp e).1;rw[Ux,P.len] at this;exact this
  show Xt 32 g+(if A6 f.n t i < 0 then 1 else 0)=m - 1;rw[if_neg (Nat.not_lt_zero _)];by_cases q:i=(lead+ys.length) % f.n
  ·subst q
   have hi:(lead+ys.length) % f.n < hs.length:=by rw[P.len];exact Xy ok _ _
   rw[List.getElem?_set_self hi] at e;cases e;omega
  ·rw[List.getElem?_set_ne (Ne.symm q)] at e
   have:=P.lv i g e;obtain⟨o1,o2⟩:=G5 ok.n34 P.ld hi;have ne:A6 f.n lead i≠ys.length:=fun z=>q (by rw[← o1,z]);rw[if_pos (by omega)] at this;omega
end
def X1:List Nat→Nat→Bool
 | [],_=>true
 | h :: r,s=>if s &&& h=0 then X1 r (s ||| h) else false
def Zhk(hs:List Nat):Bool:=hs.all fun h=>decide (Xt 32 h=Xt 32 (hs.getD 0 0))
theorem Ky:∀{hs:List Nat} {s:Nat},(∀ b,hs.countP (fun h=>h.testBit b)+(if s.testBit b then 1 else 0)≤1)→X1 hs s=true
 | [],_,_=>rfl
 | h :: r,s,hb=>by
  have z:s &&& h=0:=Nat.eq_of_testBit_eq fun b=>by
   have:=hb b;rw[List.countP_cons] at this;rw[Nat.testBit_and,Nat.zero_testBit];cases e1:s.testBit b with
   | false=>rfl
   | true=>
    cases e2:h.testBit b with
    | false=>rfl
    | true=>
     rw[e1,e2] at this;simp at this
  show(if s &&& h=0 then X1 r (s ||| h) else false)=true;rw[if_pos z];refine Ky fun b=>?_;have:=hb b;rw[List.countP_cons] at this;rw[Nat.testBit_or];cases e1:s.testBit b<;>cases e2:h.testBit b<;>rw[e1,e2] at this<;>simp at this ⊢ <;> omega
theorem Zef(ys:List Nat)(b:Nat):(ys.map fun c=>2 ^ c).countP (fun h=>h.testBit b)=ys.count b:=by
 rw[List.countP_map,List.count];refine List.countP_congr fun c _=>?_;show(2 ^ c).testBit b=true↔(c == b)=true;rw[Qo];simp
theorem Plc.parts{f:Fx}{hs ys:List Nat}{lead m:Nat}(P:Plc f hs lead ys m):X1 (hs++ys.map fun c=>2 ^ c) 0=true:=by
 refine Ky fun b=>?_;rw[List.countP_append,Zef,Nat.zero_testBit];exact P.one b
theorem Zhj{ws:List Nat}{m:Nat}(h:∀ w∈ws,Xt 32 w=m)(h0:0 < ws.length):Zhk ws=true:=by
 refine List.all_eq_true.mpr fun w hw=>Zf ?_;have m0:ws.getD 0 0∈ws:=by
  rw[Zk,Zb h0];exact Yy _
 rw[h w hw,h _ m0]
theorem Aq{s h b:Nat}(h8:h≤8):b∈Yj s h↔b / 8 < s∧b % 8 < h:=by
 unfold Yj;rw[List.mem_flatMap];constructor
 ·rintro⟨u,hu,hb⟩
  obtain⟨v,hv,rfl⟩:=Z2.mp hb;have:=Jm.mp hu;have:=Jm.mp hv;constructor<;>omega
 ·rintro⟨h1,h2⟩
  exact⟨b / 8,Jm.mpr h1,Z2.mpr ⟨b % 8,Jm.mpr h2,by omega⟩⟩
theorem Plc.inpack{f:Fx}{hs ys:List Nat}{lead m:Nat}(ok:f.Ok)(P:Plc f hs lead ys m){p:Nat}(hp:p∈hs++ys.map fun c=>2 ^ c):p ||| hN (Yj f.s f.h)=hN (Yj f.s f.h):=Nat.eq_of_testBit_eq fun b=>by
 rw[Nat.testBit_or,Ur];cases e:p.testBit b with
 | false=>rfl
 | true=>
  have h:0 < E9 hs ys b:=by
   rcases Yt.mp hp with z | z
   ·exact Xz z e
   ·obtain⟨c,hc,rfl⟩:=Z2.mp z
    rw[Qo] at e;have e':c=b:=Jx e;subst e';exact Q0 hc
  rw[Zf ((Aq ok.h8).mpr (P.pk b h))];rfl
structure WsOk(f:Fx)(hs:List Nat)(lead i:Nat)(ws:List Nat):Prop where
 len:ws.length=f.n
 at_:∀ j w,ws[j]? = some w→∃ h,hs[j]? = some h∧(A6 f.n lead j < i→Xt 32 w=Xt 32 h+1∧w < 4294967296)∧(¬ A6 f.n lead j < i→w=h)
section
variable{f:Fx}{hs ys ws:List Nat}{lead m i:Nat}
theorem WsOk.start(P:Plc f hs lead ys m):WsOk f hs lead 0 hs:=⟨P.len,fun j w e=>⟨w,e,fun z=>absurd z (Nat.not_lt_zero _),fun _=>rfl⟩⟩
theorem WsOk.step(ok:f.Ok)(P:Plc f hs lead ys m)(W:WsOk f hs lead i ws){c:Nat}(hc:ys[i]? = some c):∃ w,ws[(lead+i) % f.n]? = some w∧WsOk f hs lead (i+1) (ws.set ((lead+i) % f.n) (w ||| 2 ^ c)):=by
 have il:i < ys.length:=(Zt.mp hc).1;have yl:=P.yl;have sl:=Xy ok lead i;have hl:(lead+i) % f.n < ws.length:=by rw[W.len];exact sl
 have cm:c∈ys:=Zr hc;have oi:=Ew ok.n34 P.ld (show i < f.n by omega);refine⟨_,Zb hl,by rw[Ux];exact W.len,fun j w e=>?_⟩;by_cases q:j=(lead+i) % f.n
 ·subst q
  rw[List.getElem?_set_self hl] at e;cases e;obtain⟨h,e1,_,e2⟩:=W.at_ _ _ (Zb hl);refine⟨h,e1,fun _=>?_,fun z=>absurd (by rw[oi];exact Nat.lt_succ_self _) z⟩;have e3:=e2 (by rw[oi];exact Nat.lt_irrefl _);have hm:h∈hs:=Zr e1;rw[e3];refine⟨(Zom (P.apart hm cm) (P.y32 ok cm)).symm,Zov fun b hb=>?_⟩;rw[Nat.testBit_or,Qo] at hb;cases z:h.testBit b with
  | true=>exact P.b32 ok (Xz (ys:=ys) hm z)
  | false=>
   rw[z] at hb;have e4:c=b:=by simpa using hb
   rw[← e4];exact P.y32 ok cm
 ·rw[List.getElem?_set_ne (Ne.symm q)] at e
  obtain⟨h,e1,e2,e3⟩:=W.at_ j w e;have hj:j < f.n:=by rw[← W.len];exact(Zt.mp e).1
  obtain⟨o1,o2⟩:=G5 ok.n34 P.ld hj;have ne:A6 f.n lead j≠i:=fun z=>q (by rw[← o1,z]);exact⟨h,e1,fun z=>e2 (by omega),fun z=>e3 (by omega)⟩
theorem WsOk.end_(ok:f.Ok)(P:Plc f hs lead ys m)(W:WsOk f hs lead ys.length ws):∀ w∈ws,w < 4294967296∧Xt 32 w=m:=fun w hw=>by
 obtain⟨j,hj,e⟩:=Jv.mp hw;obtain⟨h,e1,e2,e3⟩:=W.at_ j w (by rw[Zb hj,e]);have:=P.lv j h e1;by_cases z:A6 f.n lead j < ys.length
 ·rw[if_pos z] at this
  obtain⟨a,b⟩:=e2 z;exact⟨b,by omega⟩
 ·rw[if_neg z] at this
  rw[e3 z];exact⟨P.h32 ok (Zr e1),this⟩
end
end My
namespace L2
open PySem PySem.Spec PyProof.Rows Builtin Builtin.ObjectAttr
section
variable{prog:Program}{w:World}{A:Around}{E:Value→Shared→Prop}{h:Heap}{g:Array GenState}{d:Drawn}{t:Nat}{os:OsState}
variable{nm q:Str}{C N:Addr}{bs bm bmB:List Value}{hdct:Bool}{sn:List Str}{sub:List Value}{ab:Bool}{col:Option Bool}{dd:Option Addr}{k0 k1 k2 k3 k5:Option Value}{B newId initId:String}
theorem Rm(F:ExcBaseFacts B newId initId bmB)(T:OwnTail h bmB bm){mN:Str→Option Value}{rest:List Value}{fI:Addr}{oI:Obj}{Q:Fin→Shared→Prop}
  (hC:h.get? C=some (excClassObj nm q C N bs bm hdct sn sub ab col dd k0 k1 k2 k3 k5 newId)) (hn:h.Ns N mN) (hi:mN "__init__" = some (.ref fI)) (hfI:h.get? fI=some oI) (hfc:oI.cls = .type "function")
  (hq:∀ h' e,Heap.MadeExcOf h h' e (.ref C) rest→wpAny (model prog w) A (call (.ref fI) (.ref e :: rest)) (fun r s'=>r = .none∧Q (.done (.ret (.ref e))) s') E ⟨h',g,d,t,os⟩) (hrest:rest.length≤sizeLine) :
  wpAny (model prog w) A (Builtin.«type.__call__» ⟨.ref C :: rest,[]⟩) Q E ⟨h,g,d,t,os⟩:=by
 repeat (first | with_reducible refine wpAny_loadPart_at hC ?_ | with_reducible refine wpAny_madeBy_exc hC ?_ | wp_step)
 refine codeAny_call_builtin_code (Code.quiet_builtin _ F.quiet) (wpAny_check_new_subT F T hC ?_);refine codeAny_exc_new_subT F T hC ?_ hrest;show wpAny _ _ _ _ _ _;generalize hp1:h.push { cls:=.type "tuple",data:=.seq rest.toArray }=p1;generalize hp2:p1.push { cls:=.ref C,data:=.fields #[.ref h.objs.size,.none,.none,.none,.bool false,.none] }=p2;have kp:∀ b o,h.get? b=some o→p2.get? b=some o:=fun b o e=>by rw[← hp2,← hp1];exact Ze _ (Ze _ e)
 have hC₁:=kp _ _ hC;have hfI₁:=kp _ _ hfI;have hn₁:p2.Ns N mN:=hn.keeps kp;have T₁:=T.keeps kp;have hget:p2.get? (h.objs.size+1)=some { cls:=.ref C,data:=.fields #[.ref h.objs.size,.none,.none,.none,.bool false,.none] }:=by
  rw[← hp2];exact Heap.get?_push_at (by rw[← hp1,Heap.size_push]) rfl
 have hcC:(Value.ref C :: bm).contains (.ref C)=true:=by simp
 unfold isInstance
 repeat (first | with_reducible refine wpAny_loadPart_at hget ?_ | (with_reducible refine wpAny_isSubtype_exc hC₁ ?_;rw[hcC]) | wp_step)
 show wpAny _ _ (typeLookup (.ref C) _) _ _ _;refine wpAny_typeLookup_tail hC₁ hn₁ T₁ F.mroIs F.init.lookup ?_;rw[hi];refine wpAny_holding (Zc ?_);unfold bindSpecial;refine Zc (wpAny_typeOf (T:="function") ⟨_,hfI₁,hfc⟩ ?_);rw[if_pos (by decide)];refine wpAny_pure (Zc (wpAny_mono (hq _ (h.objs.size+1) ⟨kp,Heap.get?_none_of_le (Nat.le_succ _),h.objs.size,hget,Heap.get?_none_of_le (Nat.le_refl _),?_⟩) (fun r s' hr=>?_) fun _ _ x=>x))
 ·rw[← hp2,← hp1];exact Ze _ (Heap.get?_push_at rfl rfl)
 ·obtain⟨rfl,hQ⟩:=hr
  wp_walk
  exact hQ
theorem Za2(F:ExcBaseFacts B newId initId bmB)(T:OwnTail h bmB bm){mN:Str→Option Value}{rest:List Value}{fI:Addr}{oI:Obj}{Q:Value→Shared→Prop}
  (hC:h.get? C=some (excClassObj nm q C N bs bm hdct sn sub ab col dd k0 k1 k2 k3 k5 newId)) (hn:h.Ns N mN) (hi:mN "__init__" = some (.ref fI)) (hfI:h.get? fI=some oI) (hfc:oI.cls = .type "function")
  (hq:∀ h' e,Heap.MadeExcOf h h' e (.ref C) rest→wpAny (model prog w) (A.under (.builtin "type.__call__" ⟨.ref C :: rest,[]⟩)) (call (.ref fI) (.ref e :: rest)) (fun r s'=>r = .none∧Q (.ref e) s') E ⟨h',g,d,t,os⟩) (hrest:rest.length≤sizeLine) :
  wpAny (model prog w) A (call (.ref C) rest) Q E ⟨h,g,d,t,os⟩:=by
 have f1:=tc_lookup;have f2:=tc_bind (.ref C);have hT:(⟨h,g,d,t,os⟩:Shared).TypeIs (.ref C) "type":=⟨_,hC,rfl⟩;refine wpAny_call (codeAny_of_tree ?_);show wpAny _ _ (callAny (.ref C) _) _ _ _
 repeat (any_goals (first | assumption | with_reducible refine wpAny_loadPart_at hC ?_ | wp_step))
 refine⟨rfl,?_⟩;refine codeAny_call_builtin_at (Code.quiet_builtin _ (by decide +kernel)) entry_typeCall (wpAny_check_type_call_sub hC (Rm (hrest:=hrest) F T hC hn hi hfI hfc fun h' e hm=>?_));exact hq h' e hm
end
def Ev:List Value→Bool
 | .ref _ :: r=>Ev r
 | l=>l == Uk
theorem Re(self:Value):∀{l:List Value},Ev l=true→refuseLoop self "__setattr__" l=pure ()
 | .ref c :: r,e=>by rw[refuseLoop_ref];exact Re self e
 | [],e=>by rw[show([]:List Value)=Uk from beq_iff_eq.mp e];exact PySem.F.store_ValueError.passes self
 | .none :: r,e=>by rw[show(.none :: r:List Value)=Uk from beq_iff_eq.mp e];exact PySem.F.store_ValueError.passes self
 | .type n :: r,e=>by rw[show(.type n :: r:List Value)=Uk from beq_iff_eq.mp e];exact PySem.F.store_ValueError.passes self
 | .bool n :: r,e=>by rw[show(.bool n :: r:List Value)=Uk from beq_iff_eq.mp e];exact PySem.F.store_ValueError.passes self
 | .builtin n :: r,e=>by rw[show(.builtin n :: r:List Value)=Uk from beq_iff_eq.mp e];exact PySem.F.store_ValueError.passes self
 | .int n t :: r,e=>by rw[show(.int n t :: r:List Value)=Uk from beq_iff_eq.mp e];exact PySem.F.store_ValueError.passes self
 | .str n t :: r,e=>by rw[show(.str n t :: r:List Value)=Uk from beq_iff_eq.mp e];exact PySem.F.store_ValueError.passes self
 | .bytes n t :: r,e=>by rw[show(.bytes n t :: r:List Value)=Uk from beq_iff_eq.mp e];exact PySem.F.store_ValueError.passes self
 | .float n t :: r,e=>by rw[show(.float n t :: r:List Value)=Uk from beq_iff_eq.mp e];exact PySem.F.store_ValueError.passes self
theorem Ze5:∀{l:List Value},Ev l=true→l.contains (.type "object")=true:=by
 intro l e
 induction l with
 | nil=>exact absurd e (by decide)
 | cons v r ih=>
  have gen:((v :: r) == Uk)=true→(v :: r).contains (.type "object")=true:=fun q=>by
   rw[beq_iff_eq.mp q]
   decide
  cases v with
  | ref c=>rw[List.contains_cons,ih e,Bool.or_true]
  | _=>exact gen e
def Zlh(K:W.Frag)(C:Addr):Bool:=(W.clsIn K C).any fun cd=>Ev cd.mro
structure ExcS(K:W.Frag)(C:Addr):Prop where
 sa:W.findIn K (.ref C) "__setattr__" = some (some (.builtin "object.__setattr__"))
 ov:Zlh K C=true
 hd:W.hasDictIn K C=true
section
variable{prog:Program}{w:World}{A:Around}{E:Value→Shared→Prop}{s:Shared}{K:W.Frag}{x C:Addr}{o:Obj}{vs:Array Value}{name:Str}{v:Value}
theorem Au{tk:Tok}{R:Result→Shared→Prop}(X:K.In s.heap)(hx:s.heap.get? x=some o)(hc:o.cls = .ref C)(F:ExcS K C)(n:NoAttr K C name)
  (h:∀ b,wpAny (model prog w) A.in1 (storeInOwnDict (.ref x) (.ref C) (.str name tk) name v b)
   (fun fin s'=>match fin with | .done f=>R (.ok f) s' | .again c'=>c'.quiet=true∧codeAny (model prog w) A c' R s') (fun e s'=>R (.error e) s') s) :
  codeAny (model prog w) A (.call (.builtin "object.__setattr__") ⟨[.ref x,.str name tk,v],[]⟩) R s:=by
 have SF:=PySem.F.store_object;have ty:W.Looks (model prog w) s.heap (typeOf (.ref x)) (.ref C):=hc ▸ (W.Looks.ld hx).andThen .now;obtain⟨cd,hcd,ho⟩:=W.any_some F.ov;have ne:cd.mro.isEmpty=false:=by cases q:cd.mro with | nil=>rw[q] at ho;exact absurd ho (by decide) | cons _ _=>rfl
 have sub:W.Looks (model prog w) s.heap (isInstance (.ref x) (.type "object")) true:=ty.andThen (W.looks_mroIn X (by unfold W.mroIn;rw[hcd,Option.bind_some,if_neg (by rw[ne];decide),Ze5 ho]));refine codeAny_call_builtin SF.slot.plain SF.entry (@W.check_slot (model prog w) _ _ s "object.__setattr__" "object" "__setattr__" (.ref x) [.str name tk,v] [] _ SF.kind SF.split sub (SF.args (.ref x) (.str name tk) v) ?_);have hm:W.Looks (model prog w) s.heap (mroOf (.ref C)) cd.mro:=(W.looks_clsIn X hcd).andThen .now;rw[W.osa_eq,refuse_eq];refine Zc (Zc (ty.here (Zc (hm.here ?_))));rw[Re _ ho];refine wpAny_pure (Zc (ty.here (Zc ((W.looks_findIn X n).here (Zc (wpAny_pure ?_))))));exact h _
theorem Zfm{Q:Unit→Shared→Prop}(X:K.In s.heap)(hx:s.heap.get? x=some o)(hc:o.cls = .ref C)(hd:o.data = .fields vs)(hn:o.dict=none)(F:ExcS K C)(n:NoAttr K C name)
  (h:∀ h' t',h'.Ns1 s.heap.objs.size (fun y=>if y=name then some v else none)→h'.get? x=some { o with dict:=some s.heap.objs.size }→(∀ b ob,b≠x→s.heap.get? b=some ob→h'.get? b=some ob)→Q () { s with heap:=h',toks:=t' }) :
  wpAny (model prog w) A (setAttr (.ref x) name v) Q E s:=by
 have J:W.InstAt s.heap x o C none:=⟨hx,hc,by unfold W.notCls;rw[hd],by rw[hn];trivial⟩;refine W.set_plain X J F.sa (Au (s:={ s with toks:=s.toks+1 }) X hx hc F n fun b=>?_);obtain⟨cd,hcd,hdd⟩:=W.any_some F.hd;obtain⟨hp,g,d,t,os⟩:=s;have hx₁:(hp.push { cls:=.type "dict",data:=.dict #[] }).get? x=some o:=Ze _ hx;have hxs:x≠hp.objs.size:=Nat.ne_of_lt (Zs hx);refine Zc (wpAny_pure (Zc (Zc (wpAny_loadPart hx ?_))));rw[hc];dsimp only;refine Zc ((W.looks_clsIn X hcd).at ?_);rw[hdd];dsimp only;rw[hn,hd];dsimp only;refine Zc (wpAny_alloc' ?_);refine Zc (wpAny_update' hx₁ ?_);refine wpAny_pure ?_;have hgd:((hp.push { cls:=.type "dict",data:=.dict #[] }).update x fun o=>{ o with dict:=some hp.objs.size }).get? hp.objs.size=some { cls:=.type "dict",data:=.dict #[] }:=
  (Heap.get?_update_ne _ _ _ _ hxs.symm).trans (Heap.get?_push_at rfl rfl)
 have hnd:((hp.push { cls:=.type "dict",data:=.dict #[] }).update x fun o=>{ o with dict:=some hp.objs.size }).Ns hp.objs.size (fun _=>none):=
  ⟨_,#[],_,hgd,rfl,fun e he=>absurd he (by simp),fun _=>rfl⟩
 show wpAny _ _ (storeInDict hp.objs.size (.str name _) name v) _ _ _;unfold storeInDict newKeyGuard;refine Zc (wpAny_pure (Zc (wpAny_nsSet1 (Heap.Ns1.of_empty hnd) fun h' hn' hs=>?_)));obtain⟨oD,esD,epD,hoD,hdD,hcD⟩:=hn'.count (Within.cons name v Within.nil);refine Zc (wpAny_lookBehind hoD (by rw[hdD];exact pastItsLine_dict (Nat.le_trans hcD (by rw[Jk,List.length_nil,sizeLine_eq];omega))) ?_);refine wpAny_pure (h h' _ hn' ?_ fun b ob hb hob=>?_)
 ·refine(hs.2 x hxs).trans (Heap.get?_update_self _ hx₁ ?_)
  have hfr:=(Heap.get?_some_iff.mp hx).2;obtain⟨oc,od,odt,osl⟩:=o;cases odt<;>first | rfl | exact hfr
 ·exact(hs.2 b (Nat.ne_of_lt (Zs hob))).trans ((Heap.get?_update_ne _ _ _ _ hb).trans (Ze _ hob))
theorem Zfl{dx:Addr}{mA:Str→Option Value}{ns:List Str}{Q:Unit→Shared→Prop}(X:K.In s.heap)(hx:s.heap.get? x=some o)(hc:o.cls = .ref C)(hd:o.data = .fields vs)(hn:o.dict=some dx)(hne:dx≠x)(hN:s.heap.Ns1 dx mA)(F:ExcS K C)(n:NoAttr K C name)
  (hw:Within mA ns) (hsz:ns.length≤sizeLine)
  (h:∀ h' t',h'.Ns1 dx (fun y=>if y=name then some v else mA y)→Heap.SameBut dx s.heap h'→Q () { s with heap:=h',toks:=t' }) :
  wpAny (model prog w) A (setAttr (.ref x) name v) Q E s:=by
 obtain⟨od,hod,hl⟩:=Vz hN;have J:W.InstAt s.heap x o C (some od):=⟨hx,hc,by unfold W.notCls;rw[hd],by rw[hn];exact hod⟩;refine W.set_plain X J F.sa (Au (s:={ s with toks:=s.toks+1 }) X hx hc F n fun b=>?_);obtain⟨cd,hcd,hdd⟩:=W.any_some F.hd;obtain⟨hp,g,d,t,os⟩:=s;refine Zc (wpAny_pure (Zc (Zc (wpAny_loadPart hx ?_))));rw[hc];dsimp only;refine Zc ((W.looks_clsIn X hcd).at ?_);rw[hdd];dsimp only;rw[hn];refine wpAny_pure (a:=some dx) ?_;show wpAny _ _ (storeInDict dx (.str name _) name v) _ _ _;unfold storeInDict newKeyGuard;refine Zc (wpAny_pure (Zc (wpAny_nsSet1 hN fun h' hn' hs=>?_)));obtain⟨oD,esD,epD,hoD,hdD,hcD⟩:=hn'.count (Within.cons name v hw);refine Zc (wpAny_lookBehind hoD (by rw[hdD];exact pastItsLine_dict (Nat.le_trans hcD (by rw[Jk];omega))) ?_);exact wpAny_pure (h h' _ hn' hs)
theorem Zkn{expr:Bool}{dx:Addr}{mA:Str→Option Value}{Q:Value→Shared→Prop}(X:K.In s.heap)(F:ExcF K C)(G:ExcS K C)(n:NoAttr K C name)(hx:s.heap.get? x=some o)(hc:o.cls = .ref C)(hd:o.data = .fields vs)(hn:o.dict=some dx)(hN:s.heap.Ns1 dx mA)
  (hv:mA name=some v) (hh:W.handedIn v=true) (h:Q v { s with toks:=s.toks+1 }):wpAny (model prog w) A (getAttr (.ref x) name expr) Q E s:=by
 obtain⟨od,hod,hl⟩:=Vz hN;have J:W.InstAt s.heap x o C (some od):=⟨hx,hc,by unfold W.notCls;rw[hd],by rw[hn];exact hod⟩;have p:Tz x C s.heap:=⟨o,hx,hc⟩;obtain⟨hp,g,d,t,os⟩:=s;have L0:=Qz (M:=model prog w) p;have L1:=W.looks_findIn (M:=model prog w) X F.ga;have L2:=W.looks_findIn (M:=model prog w) X F.hk;have L3:=W.looks_find (M:=model prog w) X J (W.findObj_own G.hd n rfl (by rw[hl,hv]));have hb:bindSpecial (.builtin "BaseException.__getattribute__") (.ref x)=pure (.builtin "BaseException.__getattribute__",[.ref x]):=PySem.F.excAttr_ValueError.ga.bind (.ref x);have hx0:(expr && onTheHeap (Value.builtin "BaseException.__getattribute__"))=false:=by cases expr<;>rfl
 unfold getAttr getAttrBy;refine Zc (wpAny_mkText (wpAny_holding (Zc (L0.at (Zc (L1.at ?_))))));show wpAny _ _ (getAttrByItsOwn (.ref x) _ (.ref C) (.builtin "BaseException.__getattribute__") true expr) _ _ _;unfold getAttrByItsOwn hookBefore callGetattribute;refine Zc ?_;rw[if_pos (show onTheHeap (Value.ref C)=true from rfl)];refine L2.at ?_;refine Zc (wpAny_attempt (wpAny_holding ?_));rw[hx0,if_neg Zz];show wpAny _ _ (boundAndCalled (.builtin "BaseException.__getattribute__") (.ref x) _) _ _ _;unfold boundAndCalled;rw[hb];refine Zc (wpAny_pure ?_);refine wpAny_call (codeAny_call_builtin PySem.F.excAttr_ValueError.ga.plain PySem.F.entry_bexc_ga (Rk (s:=⟨hp,g,d,t+1,os⟩) F X p ?_));unfold Builtin.«object.__getattribute__»;have ent:∀(Q:Fin→Shared→Prop) (E:Value→Shared→Prop) (A:Around),Q (.done (.ret v)) ⟨hp,g,d,t+1,os⟩→wpAny (model prog w) A (Builtin.«object.__getattribute__» ⟨[.ref x,.str name t],[]⟩) Q E ⟨hp,g,d,t+1,os⟩:=fun Q E A q=>by
  unfold Builtin.«object.__getattribute__»
  repeat (first | exact q | lk | wp_step)
 refine ent _ _ _ ?_;show wpAny (model prog w) A (handedOut v) _ _ _;rw[W.handedOut_of hh];exact wpAny_pure h
end
end L2
namespace L2
open PySem PySem.Spec PyProof.Rows
def T5(a C:Addr)(od:Option Addr):HO:=.ext fun h=>∃ o vs,h.get? a=some o∧o.cls = .ref C∧o.dict=od∧o.data = .fields vs∧vs[1]? = some .none∧vs[2]? = some .none
theorem Zbr{P:Program}{w:World}{H:Hp}{h:Heap}{a C:Addr}{od:Option Addr}{o:Obj}{vs:Array Value}(e:h.get? a=some o)(c:o.cls = .ref C)(d:o.dict=od)(f:o.data = .fields vs)(h1:vs[1]? = some .none)(h2:vs[2]? = some .none):ObjOk P w H h a (T5 a C od):=
 ⟨⟨o,vs,e,c,d,f,h1,h2⟩,⟨o,e⟩,fun _ _ ⟨o,ws,e1,e2⟩ k=>⟨o,ws,k _ e1,e2⟩⟩
theorem Znm{P:Program}{w:World}{H:Hp}{h:Heap}{a:Addr}{f:Str}{y:V}{u:Value}(n:h.Ns1 a (fun z=>if z=f then some u else none))(r:RelV y u):ObjOk P w H h a (.xd [(f,y)]):=by
 refine⟨_,n,fun g=>?_⟩;by_cases q:g=f
 ·have hb:(g == f)=true:=beq_iff_eq.mpr q
  simp only[List.lookup,hb,if_pos q];exact r
 ·have hb:(g == f)=false:=beq_eq_false_iff_ne.mpr q
  simp only[List.lookup,hb,if_neg q];exact True.intro
theorem Zlt{P:Program}{w:World}{H:Hp}{h:Heap}{a:Addr}{f:Str}{y:V}{u:Value}{mA:Str→Option Value}{fs:List (Str×V)}(n:h.Ns1 a (fun z=>if z=f then some u else mA z))(r:RelV y u)(rs:∀ g,RelO (fs.lookup g) (mA g)):ObjOk P w H h a (.xd (Yu f y fs)):=by
 refine⟨_,n,fun g=>?_⟩;rw[Zo];by_cases q:g=f
 ·rw[if_pos q,if_pos q];exact r
 ·rw[if_neg q,if_neg q];exact rs g
def Zoc(K:W.Frag)(ta tv:TE)(f:Str):TS:=fun D σ H=>tv σ H fun y H1=>ta σ H1 fun x H2=>∃ a C,x = .ref a∧H2 a=some (T5 a C none)∧ExcS K C∧NoAttr K C f ∧
 ∀ d,H2 d=none→d≠a→D.nx σ (upd (upd H2 a (T5 a C (some d))) d (.xd [(f,y)]))
theorem Zjj{X:Cx}{o value:Expr}{f:Str}{pos pos':Pos}{ta tv:TE}(ha:PE X o ta)(hv:PE X value tv)(hs:swapsWith value (some (.Attribute o f pos')) pos.line X.env=pure false):PS X (.Assign [.Attribute o f pos'] value pos) (Zoc X.K ta tv f):=by
 intro pins s σ H D I h;refine plainObj_wpAny_Assign_Attribute (Y5 (hv pins s σ H _ I h) fun u s1 ⟨y,H1,I1,ry,q⟩=>Y5 (ha pins s1 σ H1 _ I1 q) fun ov s2 ⟨x,H2,I2,rx,a,C,ex,ea,F,n,q2⟩=>?_) hs;subst ex;obtain rfl:ov=Value.ref a:=rx;obtain⟨⟨oe,vs,e1,e2,e3,e4,e5,e6⟩,_,_⟩:=I2.hok a _ ea;refine Zfm I2.kIn e1 e2 e4 e3 F n fun h' t' hN hx hk=>⟨σ,_,?_,q2 s2.heap.objs.size I2.fresh (fun z=>absurd (Zs e1) (by rw[← z];exact Nat.lt_irrefl _))⟩;have hd:s2.heap.objs.size≠a:=fun z=>absurd (Zs e1) (by rw[← z];exact Nat.lt_irrefl _);have old:∀ b u,H2 b=some u→b≠s2.heap.objs.size:=fun b u q z=>by
  have y:=I2.fresh;rw[← z,q] at y;cases y
 have up1:∀ b,b≠a→b≠s2.heap.objs.size→upd (upd H2 a (T5 a C (some s2.heap.objs.size))) s2.heap.objs.size (.xd [(f,y)]) b=H2 b:=fun b h1 h2=>by rw[Zu h2,Zu h1]
 have na:∀ b u,H2 b=some u→(∀ φ,u ≠ .ext φ)→b≠a:=fun b u q k z=>by
  rw[z,ea] at q;cases q;exact k _ rfl
 refine I2.un (t':=t') ⟨fun b ob q nn _ _=>hk b ob (fun z=>by rw[z,ea] at nn;cases nn) q,fun b ob q nn _ _=>⟨ob.slots,hk b ob (fun z=>by rw[z,ea] at nn;cases nn) q⟩,fun b ob q nn _=>?_,fun b ob q _=>?_,fun b xs q=>?_,fun b ob u q=>?_,fun b ps q=>?_⟩ fun b u q=>?_
 ·rw[up1 b (fun z=>by rw[z,ea] at nn;cases nn) (Nat.ne_of_lt (Zs q))]
  exact nn
 ·by_cases z:b=a
  ·subst z;exact⟨_,hx⟩
  ·exact⟨ob,hk b ob z q⟩
 ·rw[up1 b (na b _ q fun _ z=>by cases z) (old b _ q)]
  exact q
 ·rw[up1 b (na b _ q fun _ z=>by cases z) (old b _ q)]
  exact q
 ·refine⟨#[],?_⟩
  rw[up1 b (na b _ q fun _ z=>by cases z) (old b _ q),q];simp
 ·by_cases z1:b=s2.heap.objs.size
  ·subst z1
   rw[Zj] at q;cases q;exact Znm hN ry
  ·rw[Zu z1] at q
   by_cases z2:b=a
   ·subst z2
    rw[Zj] at q;cases q;exact Zbr hx e2 rfl e4 e5 e6
   ·rw[Zu z2] at q
    refine(I2.hok b u q).stay (fun c w' hc r=>hk c w' ?_ r) (fun c r=>?_) fun c xs r=>?_
    ·rcases hc with hc | hc
     ·rw[hc];exact z2
     ·exact na c _ hc fun _ z=>by cases z
    ·rw[up1 c (na c _ r fun _ z=>by cases z) (old c _ r)];exact r
    ·rw[up1 c (na c _ r fun _ z=>by cases z) (old c _ r)];exact r
def Tj(K:W.Frag)(C:Addr)(bmB:List Value)(newId:String)(fI:Addr):Bool:=match K.lookup C with
 | some ⟨.type "type",_,.cls cd,sl⟩=>(match cd.mro,sl.toList with
  | .ref C' :: bm,[_,_,_,_,some (.builtin n),_]=>C' == C && n == newId && !cd.hasDel && W.tailIn K bmB bm && W.nsOkIn K cd.ns && W.nsIn K cd.ns "__init__" == some (some (.ref fI))
  | _,_=>false)
 | _=>false
theorem Zaj{K:W.Frag}{h:Heap}{N:Addr}{mg:Str→Option Value}{n:Str}{v:Value}(X:K.In h)(G:h.Ns N mg)(e:W.nsIn K N n=some (some v)):mg n=some v:=by
 obtain⟨o,es,ep,ho,hd,_,hf⟩:=G;unfold W.nsIn at e;split at e
 ·rename_i c d es' n' sl q
  have:=X _ _ q;rw[ho] at this;cases this;cases hd;split at e
  ·rename_i en he
   rw[← hf];unfold nsFind findBy;rw[← Array.find?_toList,he];exact Zn e
  ·split at e<;>cases e
 ·cases e
theorem Zh1{K:W.Frag}{h:Heap}{C fI:Addr}{bmB:List Value}{newId:String}(X:K.In h)(q:Tj K C bmB newId fI=true) :
  ∃ bm N nm qn bs hdct sn sub ab col dd k0 k1 k2 k3 k5 mN,h.get? C=some (excClassObj nm qn C N bs bm hdct sn sub ab col dd k0 k1 k2 k3 k5 newId)∧h.Ns N mN∧mN "__init__" = some (.ref fI)∧OwnTail h bmB bm:=by
 unfold Tj at q;split at q
 ·rename_i ddx cdx slx hlook
  split at q
  ·rename_i Cx bmx j0 j1 j2 j3 nx j5 hmro hslots
   simp only[beq_iff_eq,Bool.and_eq_true,Bool.not_eq_true'] at q;obtain⟨⟨⟨⟨⟨eC,eN⟩,edel⟩,etl⟩,eok⟩,eni⟩:=q;subst eC;subst eN;obtain⟨f1,f2,f3,f4,f5,f6,f7,f8,f9,f10,f11⟩:=cdx;have e1:f3=_:=hmro;have e2:f11=false:=edel;subst e1;subst e2;obtain⟨lst⟩:=slx;have e3:lst=_:=hslots;subst e3;exact⟨bmx,f4,f1,f5,f2,f6,f7,f8,f9,f10,ddx,j0,j1,j2,j3,j5,_,X _ _ hlook,.of_isNs (W.isNs_of_in X eok),Zaj X (.of_isNs (W.isNs_of_in X eok)) eni,W.tail_of_in X etl⟩
  ·cases q
 ·cases q
section
variable{M:Model}{A:Around}{E:Value→Shared→Prop}{env:Env}
variable{nm q:Str}{C N:Addr}{bs bm:List Value}{hdct:Bool}{sn:List Str}{sub:List Value}{ab:Bool}{col:Option Bool}{dd:Option Addr}{k0 k1 k2 k3 k5:Option Value}{newId:String}
theorem Ah{s:Shared}{x:Sem Value}{Q:Flow→Shared→Prop}(hbase:bm.contains (.type "BaseException")=true)(hh:A.handled=none)
  (h:wpAny M A x (fun v s₁=>∃ e o vs,v = .ref e∧s₁.heap.get? C=some (excClassObj nm q C N bs bm hdct sn sub ab col dd k0 k1 k2 k3 k5 newId)∧s₁.heap.get? e=some o∧o.cls = .ref C∧o.data = .fields vs∧vs[1]? = some .none∧E (.ref e) s₁) E s) :
  wpAny M A (raiseStmt env (some x) none) Q E s:=by
 have hcB:(Value.ref C :: bm).contains (.type "BaseException")=true:=by rw[List.contains_cons,hbase,Bool.or_true]
 unfold raiseStmt;refine Zc (wpAny_mono h (fun v s₁ h₁=>?_) fun _ _ x=>x);obtain⟨e,o,vs,rfl,hC,he,hc,hd,h1,hE⟩:=h₁;obtain⟨hp,g,d,tk,os⟩:=s₁;obtain⟨oc,od,odt,osl⟩:=o;have hc':oc = .ref C:=hc;have hd':odt = .fields vs:=hd;subst hc' hd'
 repeat (first | with_reducible refine wpAny_field he rfl h1 ?_ | with_reducible refine wpAny_loadPart_at he ?_ | with_reducible refine wpAny_loadPart_at hC ?_ | (with_reducible refine wpAny_isSubtype_exc hC ?_;rw[hcB]) | wp_step)
 exact wpAny_raiseNew_none hh hE
end
def Znc(X:Cx)(E:XK):Prop:=∀(pins:List (Addr×Obj)) (σ:St) (H:Hp) (s:Shared) (e C:Addr) (oe:Obj) (vs:Array Value) (od:Option Addr),Inv X pins σ H s→H e=none→X.s₀.heap.get? e=none→s.heap.get? e=some oe→oe.cls = .ref C→oe.dict=od→oe.data = .fields vs→vs[1]? = some .none→vs[2]? = some .none→E (.ref C) od H→X.xe (.ref e) s
theorem Ze4{P:Program}{w:World}{K:W.Frag}{mg:Str→Option Value}{base:Heap}{N:List Str}{qual:Str}{scope:Scope}{f:Addr}{cd:Value}{A:Around}{outer:List Env}{s:Shared}{H:Hp}{E:XK} :
  Znc (Qk (V8 P w) P w K mg base N qual scope f cd A outer s H E) E:=by
 intro pins σ H1 s1 e C oe vs od I hHe h0 he hc hdo hd h1 h2 hE;generalize hX:Qk (V8 P w) P w K mg base N qual scope f cd A outer s H E=X at I;have hk:(W.hideAll s1.heap (e :: Vc X.stack)).StaysIn s1.heap:=fun b o q=>W.of_hideAll _ q;have hn:(W.hideAll s1.heap (e :: Vc X.stack)).get? e=none:=W.hideAll_none _ (.head _);have hfr:s1.heap.FunFrames (W.hideAll s1.heap (e :: Vc X.stack)) X.stack:=W.funFrames_hide I.stack fun env he a ha=>Zx _ (List.mem_filterMap.mpr ⟨env,he,ha⟩);have trk:∀ b o,H1 b=some o→∃ ob,(W.hideAll s1.heap (e :: Vc X.stack)).get? b=some ob:=fun b o q=>by
  obtain⟨ob,z⟩:=(I.hok b o q).there;refine⟨ob,W.hideAll_get _ z fun y=>?_⟩;rcases List.mem_cons.mp y with y | y
  ·rw[y,hHe] at q;cases q
  ·rw[I.stkFree b y] at q;cases q
 have inB:∀ b o,s.heap.get? b=some o→b∉Vc outer→∃ ob,(W.hideAll s1.heap (e :: Vc X.stack)).get? b=some ob:=fun b o eb hb=>by
  subst hX;obtain⟨o',e'⟩:=I.base.there b o eb (by intro z;cases z);refine⟨o',W.hideAll_get _ e' fun y=>?_⟩;rcases List.mem_cons.mp y with y | y
  ·rw[y] at eb
   rw[show s.heap.get? e=none from h0] at eb;cases eb
  ·exact I.notFr eb hb y
 subst hX;refine Zb4 (outer:=outer) I.ok.frames hfr rfl hk hn he ⟨hc,hdo⟩ hd h1 h2 fun h'' x1 x4=>?_;exact⟨e,.ref C,od,H1,_,rfl,I.os,I.bare,I.un_fly rfl hk x1.stays x4 inB,I.hok.stays trk hk x1.stays,⟨⟨_,x1,.nil⟩,trk,hHe⟩,inB,hE⟩
theorem Fun.okXD{P:Program}{w:World}{K:W.Frag}{mg:Str→Option Value}{base:Heap}{x qual:Str}{st:Stmt}{f:Addr}{fd:FuncData}{N ps:List Str}{k:Nat}{sp:Sp}(F:Fun K x qual st f fd)(S:FnScope N ps (Zp st))(len:∀ vs H Q E,sp vs H Q E→vs.length=ps.length)
  (hbody:∀(cdv:Value) (A:Around) (outer:List Env) (s:Shared) (H:Hp) (vs:List V) (Q:VK) (E:XK),Room k (A.deeper (envOfC qual (Zp st) s.heap.objs.size f cdv))→sp vs H Q E →
   Thr (Qk (V8 P w) P w K mg base N qual (Zp st) f cdv A outer s H E) E→Znc (Qk (V8 P w) P w K mg base N qual (Zp st) f cdv A outer s H E) E →
   ∃ t,PSs (Qk (V8 P w) P w K mg base N qual (Zp st) f cdv A outer s H E) (Y0 st) t∧t { nx:=fun _ H'=>Q .non H',rt:=Q } (start N vs) H):FnOk P w K mg base (V8 P w) (k+1) f fd ps sp:=
 F.okX S len fun cdv A outer s H vs Q E hr h T=>hbody cdv A outer s H vs Q E hr h T Ze4
def Tn(H:Hp)(a:Addr):Hp:=fun b=>if b=a then none else H b
theorem Xp{H:Hp}{a b:Addr}(h:b≠a):Tn H a b=H b:=if_neg h
theorem Tm{H:Hp}{a:Addr}:Tn H a a=none:=if_pos rfl
def Ziw(C:Addr)(sp:Sp)(E:XK)(t:TA):TS:=fun _ σ H=>t σ H fun vs H1=>vs.length≤sizeLine∧∀ ea,H1 ea=none →
 sp (.ref ea :: vs) (upd H1 ea (T5 ea C none)) (fun v H2=>v = .non∧∃ od,H2 ea=some (T5 ea C od)∧E (.ref C) od (Tn H2 ea)) E0
theorem Zc7{X:Cx}{k:Nat}{f:Addr}{fd:FuncData}{ps:List Str}{sp:Sp}{x:Str}{np cpos pos:Pos}{e:Expr}{es:List Expr}{t:TA}{C:Addr}{E:XK}(T:Znc X E)(hh:X.A.handled=none)(hg:Gl X x)(hm:X.mg x=some (.ref C))
  (hc:Tj X.K C Uk "ValueError.__new__" f=true) (hfn:W.isFn X.K (.ref f)=true) (F:FnOk X.prog X.w X.K X.mg X.base Y4 k f fd ps sp) (hr:Room (k+1) X.A) (hb:Binds X.K fd ps []) (hex:X.ex=[]) (ha:PA X (e :: es) t)
  (hdb:(x == ("__debug__":Str))=false:=by decide) (he:starEach (e :: es) X.env=(false,eval e X.env) :: starEach es X.env:=by rfl) (hpl:(backTo cpos (starEach es X.env)).any (·.1)=false:=by rfl) :
  PS X (.Raise (some (.Call (.Name x np) (e :: es) [] cpos)) none pos) (Ziw C sp E t):=by
 intro pins s σ H D I h;obtain⟨bm,N,nm,qn,bs,hdct,sn,sub,ab,col,dd,k0,k1,k2,k3,k5,mN,hC,hN,hni,hT⟩:=Zh1 I.mod.kin hc;have hB:bm.contains (.type "BaseException")=true:=hT.hasType PySem.F.excBase_ValueError.hasBase;rw[arm_exec_Raise];simp only[evalOpt,Option.map];refine Zc (wpAny_standAt (Ah (C:=C) (nm:=nm) (q:=qn) (N:=N) (bs:=bs) (bm:=bm) (hdct:=hdct) (sn:=sn) (sub:=sub) (ab:=ab) (col:=col) (dd:=dd) (k0:=k0) (k1:=k1) (k2:=k2) (k3:=k3) (k5:=k5) (newId:="ValueError.__new__") hB hh ?_));refine Zc (wpAny_mono (wpAny_Call_ofName (Eh I hg hm ?_ hdb)) (fun v s₃ h₃=>Zc (wpAny_standAt (wpAny_pure h₃))) fun _ _ x=>x);unfold callWith;have hplain:(backTo cpos (starEach (e :: es) X.env)).any (·.1)=false:=by rw[he];show(false || (backTo cpos (starEach es X.env)).any (·.1))=false;rw[hpl];rfl
 have hA:=ha cpos pins s σ H _ I h;rw[he] at hA hplain ⊢;refine Zc (wpAny_holding (Calls.evalArgs_plain (Y5 hA fun us s2 q2=>Zc (wpAny_standAt ?_))));obtain⟨vs,H2,I2,r,hz,hE⟩:=q2;have lenu:=r.length;have hC2:=I2.bk _ _ hC;have hN2:=hN.keeps I2.bk;have hT2:=hT.keeps I2.bk;obtain⟨oI,hoI,hfc⟩:∃ oI,s2.heap.get? f=some oI∧oI.cls = .type "function":=by
  have z:W.typeIn X.K (.ref f)=some (.type "function"):=beq_iff_eq.mp hfn;obtain⟨oI,ho,hc⟩:=Option.map_eq_some_iff.mp z;exact⟨oI,I2.kIn _ _ ho,hc⟩
 obtain⟨hp,g,d,tk,os⟩:=s2;simp only[hplain,List.nil_append];refine Zc (wpAny_keeperOf_exc hC2 ?_);refine Zc (Za2 (hrest:=by omega) PySem.F.excBase_ValueError hT2 hC2 hN2 hni hoI hfc fun h1 ea hm1=>?_);obtain⟨tp,e1,_,_⟩:=hm1.there;have new:hp.get? ea=none:=hm1.new;have nea:∀ b o,hp.get? b=some o→b≠ea:=fun b o q z=>by rw[z,new] at q;cases q
 have hHe:H2 ea=none:=by
  cases q:H2 ea with
  | none=>rfl
  | some o=>
   obtain⟨ob,z⟩:=(I2.hok ea o q).there;exact absurd rfl (nea ea ob z)
 have nex:∀ b o,H2 b=some o→b≠ea:=fun b o q z=>by rw[z,hHe] at q;cases q
 have h0:X.s₀.heap.get? ea=none:=by
  cases q:X.s₀.heap.get? ea with
  | none=>rfl
  | some o=>
   obtain⟨o',z⟩:=I2.base.there ea o q (by rw[hex];simp);exact absurd rfl (nea ea o' z)
 have I3:Inv X pins σ (upd H2 ea (T5 ea C none)) ⟨h1,g,d,tk,os⟩:=by
  refine I2.un (t':=tk) ⟨fun b o q _ _ _=>hm1.keeps b o q,fun b o q _ _ _=>⟨o.slots,hm1.keeps b o q⟩,fun b o q n _=>by rw[Zu (nea b o q)];exact n,fun b o q _=>⟨o,hm1.keeps b o q⟩,
   fun b xs q=>by rw[Zu (nex b _ q)];exact q,fun b o u q=>by rw[Zu (nex b _ q)];exact q,fun b ps q=>⟨#[],by rw[Zu (nex b _ q),q];simp⟩⟩ fun b u q=>?_
  by_cases z:b=ea
  ·subst z
   rw[Zj] at q;cases q;exact Zbr e1 rfl rfl rfl rfl rfl
  ·rw[Zu z] at q
   exact(I2.hok b u q).stay (fun c w' _ r=>hm1.keeps c w' r) (fun c r=>by rw[Zu (nex c _ r)];exact r) fun c xs r=>by rw[Zu (nex c _ r)];exact r
 have hq:=hE ea hHe;have r2:Vals (V.ref ea :: vs) (Value.ref ea :: us):=.cons rfl r;have hl:(Value.ref ea :: us++[]).length=ps.length:=by
  have e:=r2.length;rw[F.len _ _ _ _ hq] at e;rw[Yb];exact e.symm
 have hbb:=hb ⟨h1,g,d,tk,os⟩ (Value.ref ea :: us) I3.kIn hl;rw[Yb] at hbb;refine wpAny_call (codeAny_mono (F.run _ X.stack _ _ ⟨Value.ref ea :: us,[]⟩ (Value.ref ea :: us) _ _ E0 (hr.make C us []) (I3.env0.make C us []) hbb r2 hq) fun r' s' hq'=>?_);cases r' with
 | error e=>exact(show False from hq').elim
 | ok fl=>
  cases fl with
  | next=>exact False.elim hq'
  | brk=>exact False.elim hq'
  | cont=>exact False.elim hq'
  | ret u=>
   obtain⟨v,H4,os',bare,un,hok,rv,rfl,od,hH4,hE4⟩:=hq';have nown:∀ b o,H4 b=some o→(∀ φ,o ≠ .ext φ)→b≠ea:=fun b o q k z=>by
    rw[z,hH4] at q;cases q;exact k _ rfl
   have un5:Un (Vc X.stack) [] H2 (Tn H4 ea) hp s'.heap:=by
    refine⟨fun b o q n hb hx=>un.keep b o (hm1.keeps b o q) (by rw[Zu (nea b o q)];exact n) hb hx,fun b o q n hb hx=>un.slot b o (hm1.keeps b o q) (by rw[Zu (nea b o q)];exact n) hb hx,
     fun b o q n hx=>by rw[Xp (nea b o q)];exact un.free b o (hm1.keeps b o q) (by rw[Zu (nea b o q)];exact n) hx,fun b o q hx=>un.there b o (hm1.keeps b o q) hx,
     fun b xs q=>by rw[Xp (nex b _ q)];exact un.tups b xs (by rw[Zu (nex b _ q)];exact q),fun b o u q=>by rw[Xp (nex b _ q)];exact un.frzs b o u (by rw[Zu (nex b _ q)];exact q),
     fun b ps q=>by rw[Xp (nex b _ q)];exact un.tbls b ps (by rw[Zu (nex b _ q)];exact q)⟩
   have hok5:HOk X.prog X.w (Tn H4 ea) s'.heap:=fun b o q=>by
    by_cases z:b=ea
    ·rw[z,Tm] at q;cases q
    ·rw[Xp z] at q
     exact(hok b o q).stay (fun _ _ _ r=>r) (fun c r=>by rw[Xp (nown c _ r fun _ y=>by cases y)];exact r) fun c xs r=>by rw[Xp (nown c _ r fun _ y=>by cases y)];exact r
   have I5:Inv X pins σ (Tn H4 ea) s':=I2.call' (ch:=[]) os' un5 hok5 bare fun b z=>absurd z (by simp);obtain⟨⟨oe,ws,e1',c1,d1,f1,g1,g2⟩,_,_⟩:=hok ea _ hH4;refine⟨rv,Zc (wpAny_holding (wpAny_point (wpAny_pure ?_)))⟩;exact⟨ea,oe,ws,rfl,I5.bk _ _ hC,e1',c1,f1,g1,T pins σ (Tn H4 ea) s' ea C oe ws od I5 Tm h0 e1' c1 d1 f1 g1 g2 hE4⟩
def V2(a C:Addr)(od:Option Addr):HO:=.ext fun h=>∃ o vs,h.get? a=some o∧o.cls = .ref C∧o.dict=od∧o.data = .fields vs
theorem Inv.trackD{X:Cx}{pins:List (Addr×Obj)}{σ:St}{H:Hp}{s:Shared}{a C:Addr}{od:Option Addr}{ob:Obj}{vs:Array Value}(J:Inv X pins σ H s)(hn:H a=none)(h0:X.s₀.heap.get? a=none)(ho:s.heap.get? a=some ob)(hc:ob.cls = .ref C)(hdd:ob.dict=od)(hd:ob.data = .fields vs)(hp:∀ p∈X.pn++pins,p.1≠a) :
  Inv X pins σ (upd H a (V2 a C od)) s:=by
 have other:∀ b u,H b=some u→upd H a (V2 a C od) b=some u:=fun b u q=>by rw[Zu (Jb q hn)];exact q
 have nel:X.env.locals≠a:=fun z=>by
  obtain⟨m,⟨o,es,ep,h1,h2,_⟩,_⟩:=J.loc;rw[z,ho] at h1;cases h1;rw[hd] at h2;cases h2
 have nec:∀ x c,X.env.cells.lookup x=some c→c≠a:=fun x c e z=>by
  obtain⟨v,o,h1,h2⟩:=J.cell x c e;rw[z,ho] at h1;cases h1;rw[hd] at h2;cases h2
 refine⟨J.ok,J.os,J.bare,⟨J.base.keep,J.base.slot,fun b o e n hx=>?_,J.base.there,fun b xs q=>other _ _ (J.base.tups b xs q),fun b o u q=>other _ _ (J.base.frzs b o u q),fun b ps q=>?_⟩,J.loc,J.cell,?_,fun x c e=>?_,fun p q=>?_,fun b u e=>?_,J.len⟩
 ·rw[Zu fun z=>by rw[z,h0] at e;cases e]
  exact J.base.free b o e n hx
 ·obtain⟨more,e⟩:=J.base.tbls b ps q
  exact⟨more,other _ _ e⟩
 ·rw[Zu nel]
  exact J.free
 ·rw[Zu (nec x c e)]
  exact J.freeC x c e
 ·obtain⟨e,n,r⟩:=J.pin p q
  exact⟨e,by rw[Zu (hp p q)];exact n,r⟩
 ·by_cases hb:b=a
  ·subst hb
   rw[Zj] at e;cases e;exact⟨⟨ob,vs,ho,hc,hdd,hd⟩,⟨ob,ho⟩,fun h1 h2 ⟨o,ws,e1,e2⟩ k=>⟨o,ws,k _ e1,e2⟩⟩
  ·rw[Zu hb] at e
   exact(J.hok b u e).stay (fun _ _ _ q=>q) (fun c q=>other _ _ q) fun c xs q=>other _ _ q
def Zof(K:W.Frag):List V→Hp→VK→Prop:=fun xs H Q=>∃ a C od c b,xs=[.ref a,c]∧isC c=true∧H a=some (V2 a C od)∧ExcF K C∧W.kitOne K (.ref C) (toC c)=some b∧Q (.bl b) H
theorem M4{X:Cx}:U8 X (.builtin "isinstance") (Zof X.K):=by
 intro pins s σ H xs us Q I r h;obtain⟨a,C,od,c,b,rfl,hc,hH,F,e,q⟩:=h;obtain⟨u,w',rfl,r1,r2⟩:=O5 r;cases r1;have e2:=Ze3 hc r2;subst e2;obtain⟨⟨o,vs,e1,e3,e4⟩,_,_⟩:=I.hok a _ hH;exact W.kia_one (Kf F) I.kIn ⟨o,e1,e3⟩ e (fun z=>nomatch z) fun tk=>⟨.bl b,H,I.tok tk,rfl,q⟩
def Zmb(K:W.Frag):List V→Hp→VK→Prop:=fun xs H Q=>∃ a C od p cs b,xs=[.ref a,.ref p]∧H p=some (.tup cs)∧cs.all isC=true∧H a=some (V2 a C od)∧ExcF K C∧W.kitAny K (.ref C) (cs.map toC)=some b∧Q (.bl b) H
theorem Tx{X:Cx}:U8 X (.builtin "isinstance") (Zmb X.K):=by
 intro pins s σ H xs us Q I r h;obtain⟨a,C,od,p,cs,b,rfl,hp,hc,hH,F,e,q⟩:=h;obtain⟨u,w',rfl,r1,r2⟩:=O5 r;cases r1;cases r2;obtain⟨⟨o,vs,e1,e3,e4⟩,_,_⟩:=I.hok a _ hH;obtain⟨its,ri,pt,_⟩:=I.tuple (SqT.of hp);obtain⟨⟨cls,dd,data,sl⟩,ho,hcl,n,hd⟩:=id pt;simp only at hcl hd;subst hcl hd;have ei:=Za6 hc ri;rw[← ei] at e;exact W.kia_tup (Kf F) I.kIn ⟨o,e1,e3⟩ ho e (fun z=>nomatch z) fun tk=>⟨.bl b,H,I.tok tk,rfl,q⟩
def Znw(K:W.Frag)(ta:TE)(f:Str):TE:=fun σ H Q=>ta σ H fun x H1=>∃ a C d fs v,x = .ref a∧H1 a=some (V2 a C (some d))∧H1 d=some (.xd fs)∧ExcF K C∧ExcS K C∧NoAttr K C f∧fs.lookup f=some v∧Q v H1
theorem Rx{X:Cx}{e:Expr}{f:Str}{pos:Pos}{ta:TE}(he:PE X e ta)(hb:attributeBase e f X.env (eval e X.env)=eval e X.env):PE X (.Attribute e f pos) (Znw X.K ta f):=by
 intro pins s σ H Q I h;refine Zcn hb (Y5 (he pins s σ H _ I h) fun u s1 ⟨x,H1,I1,rx,a,C,d,fs,v,ex,ea,ed,F,G,n,l,q⟩=>?_);subst ex;obtain rfl:u=Value.ref a:=rx;obtain⟨⟨o,vs,e1,e2,e3,e4⟩,_,_⟩:=I1.hok a _ ea;obtain⟨mA,hN,hr⟩:=I1.hok d _ ed;obtain⟨u',hu,ru⟩:=RelO.some_of (v:=v) (o:=mA f) (by rw[← l];exact hr f);exact Zkn I1.kIn F G n e1 e2 e4 e3 hN hu (Mu ru) ⟨v,H1,I1.tok _,ru,q⟩
section
variable{X:Cx}{n:Str}{np hpos np2 hpos2 pos:Pos}{i:Nat}
def asD(D:Ends)(i:Nat):Ends:={ nx:=fun σ' H'=>D.nx (σ'.set i none) H',rt:=D.rt,bk:=fun σ' H'=>D.bk (σ'.set i none) H',ct:=fun σ' H'=>D.ct (σ'.set i none) H' }
theorem Zfe{pins:List (Addr×Obj)}{σ:St}{H1:Hp}{D:Ends}{ea C:Addr}{od:Option Addr}{B:Heap}{s1:Shared}{h5:Heap}{l:List Env}{ctx:Value}{b₀:Stmt}{suite:List Stmt}{th:TS}(hex:X.ex=[])(hN:X.N.Nodup)(hi:X.N[i]? = some n)(hlo:X.env.kindOf n=some .local)
  (J:Inv X pins σ H1 s1) (hB:Zk4 X pins B) (trk:∀ b o,H1 b=some o→∃ ob,B.get? b=some ob) (noe:H1 ea=none) (st:B.StaysIn s1.heap) (fl5:FlyC B l ea (.ref C) od ctx .none h5) (up5:s1.heap.UpToSlots h5)
  (hs:∀ e,PSs (hCx X e) (b₀ :: suite) th) (hth:th (asD D i) (σ.set i (some (.ref ea))) (upd H1 ea (V2 ea C od))) :
  codeAny (model X.prog X.w) (X.A.mark (some (.ref ea))) (.handlers (.ref ea) [.ExceptHandler none (some n) (b₀ :: suite) hpos] X.env) (fun r s₂=>match r with
   | .ok f=>wpAny (model X.prog X.w) X.A (do bindName X.env n .none;unbindBehindTheSuite X.env n hpos) (fun _ s₃=>SP X pins D f s₃) X.xe s₂
   | .error x=>cameBackBy (model X.prog X.w) X.A X.env X.xe x s₂) { s1 with heap:=h5 }:=by
 refine codeAny_handlers_suite_as (Zb5 fl5 fun h6 fl6 up6=>?_);have J6:Inv X pins σ H1 { s1 with heap:=h6 }:=J.landed hB trk st fl6.stays (up5.trans up6);obtain⟨oe,vs,_,_,_,⟨ho,hc,hd,_,_⟩,_⟩:=fl6.rcd;have h0:X.s₀.heap.get? ea=none:=by
  cases q:X.s₀.heap.get? ea with
  | none=>rfl
  | some o=>
   by_cases hb:ea∈X.fs
   ·obtain⟨_,o2,ho2,hd2⟩:=J6.funs.mem hb
    rw[ho] at ho2;cases ho2;exact absurd hd (hd2 vs)
   ·obtain⟨ob,z⟩:=hB.1 ea o q (by rw[hex];simp) hb
    rw[fl6.new] at z;cases z
 have J7:Inv X pins σ (upd H1 ea (V2 ea C od)) { s1 with heap:=h6 }:=J6.trackD noe h0 ho hc.1 hc.2 hd fun p hp z=>by
  obtain⟨ob,y⟩:=hB.2 p hp;rw[z,fl6.new] at y;cases y
 have J8:Inv (hCx X ea) pins σ (upd H1 ea (V2 ea C od)) { s1 with heap:=h6 }:=J7.inH;refine R6 (X:=hCx X ea) J8 hN hi (Or.inl hlo) (v:=.ref ea) rfl (fun s7 I7=>?_) (Or.inr hlo);refine wpAny_mono (hs ea pins s7 _ _ _ I7 hth) (fun fw s8 q8=>?_) fun _ _ z=>False.elim z;show wpAny (model X.prog X.w) X.A (do bindName X.env n .none;unbindBehindTheSuite X.env n hpos) (fun _ s9=>SP X pins D fw s9) X.xe s8;cases fw with
 | next=>
  obtain⟨σ',H',I',q'⟩:=q8;exact Nl (I'.outH J.ok) hN hi hlo fun s' K'=>⟨_,H',K',q'⟩
 | brk=>
  obtain⟨σ',H',I',q'⟩:=q8;exact Nl (I'.outH J.ok) hN hi hlo fun s' K'=>⟨_,H',K',q'⟩
 | cont=>
  obtain⟨σ',H',I',q'⟩:=q8;exact Nl (I'.outH J.ok) hN hi hlo fun s' K'=>⟨_,H',K',q'⟩
 | ret u=>
  obtain⟨v,σ',H',I',r',q'⟩:=q8;exact Nl (I'.outH J.ok) hN hi hlo fun s' K'=>⟨v,_,H',K',r',q'⟩
def Znr(K:W.Frag)(tb:XK→TS)(i:Nat)(CT:Value)(th:TS):TS:=fun D σ H=>
 tb (fun cls od H1=>∃ C,cls = .ref C∧W.exmOne K cls CT=some true∧∀ ea,H1 ea=none→th (asD D i) (σ.set i (some (.ref ea))) (upd H1 ea (V2 ea C od))) D σ H
theorem Zjh{body:List Stmt}{T:Str}{b₀:Stmt}{suite:List Stmt}{CT:Addr}{tb:XK→TS}{th:TS}(hst:X.stack=X.env :: X.outer)(hfr:X.env.frame=some X.env.locals)(hex:X.ex=[])(hN:X.N.Nodup)(hi:X.N[i]? = some n)
  (hlo:X.env.kindOf n=some .local) (hb:PSX X body tb) (hg:Gl X T) (hm:X.mg T=some (.ref CT)) (hs:∀ e,PSs (hCx X e) (b₀ :: suite) th) (hdb:(T == ("__debug__":Str))=false:=by decide) :
  PS X (.Try body [.ExceptHandler (some (.Name T np)) (some n) (b₀ :: suite) hpos] [] [] pos) (Znr X.K tb i (.ref CT) th):=by
 intro pins s σ H D I h;refine wpAny_Try_except (wpAny_mono (hb pins s σ H D _ I h) (fun f s1 hq=>?_) fun e s1 hx=>?_)
 ·cases f with
  | next=>exact wpAny_execs_nil hq
  | brk=>exact hq
  | cont=>exact hq
  | ret u=>exact hq
 obtain⟨ea,cls,od,H1,B,rfl,J,F,hB,C,rfl,hm1,hth⟩:=hx;obtain⟨ctx,fl,hch⟩:=F.fly;rw[hst] at fl;refine Zlk (by rw[J.ok.frames,hst]) hfr fl fun h4 held4 up4=>Zb5 held4 fun h5 fl5 up5=>?_;have J5:Inv X pins σ H1 { s1 with heap:=h5 }:=J.landed hB F.trk fl.stays fl5.stays (up4.trans up5);have LT:W.Looks (model X.prog X.w) h5 (typeOf (.ref ea)) (.ref C):=fl5.looks;refine wpAny_handleBy_cons (codeAny_handlers_test (Eh (X:=hCx X ea) J5.inH hg hm ?_ hdb)) (by intro q;cases q);refine(W.exm_one J5.kIn LT hm1).here ?_;exact Zfe hex hN hi hlo J hB F.trk F.noe fl.stays fl5 (up4.trans up5) hs (hth ea F.noe)
end
section
variable{X:Cx}{k:Nat}{f C:Addr}{fd:FuncData}{ps:List Str}{sp:Sp}{dvs:List V}{ds:List Value}{m name:Str}{p pos apos cpos:Pos}{o e a:Expr}{es:List Expr}{ta to:TE}{t:TA}
theorem Zf9{pl:Sem Bool}(he:PE X.nox o ta)(c:Cls X.K C)(hm:Meth X.K C m f)(F:FnOk X.prog X.w X.K X.mg X.base (V8 X.prog X.w) k f fd ps sp)(hr:Room k X.A)(hb:Binds X.K fd ps ds)(hd:Vals dvs ds)(ha:PA X.nox (e :: es) t)
  (hst:starEach (e :: es) X.env=(false,eval e X.env) :: starEach es X.env:=by rfl) (hpl:(backTo pos (starEach es X.env)).any (·.1)=false:=by rfl)
  (ht:eval (.Call (.Attribute o m apos) (e :: es) [] pos) X.env=(do
   let ov ← eval o X.env
   standAt apos.atName
   let (f,first) ← holding [ov] (getMethod ov m pl)
   callWith pos f first (backTo pos (starEach (e :: es) X.env)) (backToKw pos (keywordEach [] X.env))):=by rfl) :
  PEX X (.Call (.Attribute o m apos) (e :: es) [] pos) (fun Ex=>Zfa C m sp dvs Ex ta t):=by
 intro pins s σ H Q Ex I h;refine W.methodCall_KW (pl:=pl) (wpAny_mono (he pins s σ H _ (I.wish _) h) (fun u s1 ⟨x,H1,I1,rx,a,dx,fs,ex,ea,l,q⟩=>?_) fun _ _ z=>False.elim z) ht;subst ex;obtain rfl:u=Value.ref a:=rx;refine Qh I1.unwish ea c hm l ?_;refine W.callWith_K (first:=[.ref a]) (h₀:=X.base) I.ok.mod.kin hm.kp (wpAny_mono (ha pos pins s1 σ H1 _ I1 q) (fun us s2 ⟨vs,H2,I2,r,q2⟩=>⟨I2.unwish.kIn,?_⟩) fun _ _ z=>False.elim z) hst hpl;exact Zjc (us:=.ref a :: us) (vs:=.ref a :: vs) F hr hb hd I2.unwish (.cons rfl r) q2
end
inductive DeepEq(K:W.Frag)(H:Hp):Nat→V→V→Prop
 | flat {d:Nat} {x:V}:U3 x=true→DeepEq K H d x x
 | tup {d:Nat} {p q:Addr} {xs ys:List V}:SqT K H p xs→SqT K H q ys→xs.length=ys.length→(∀ j,j < xs.length→DeepEq K H d (xs.getD j .non) (ys.getD j .non))→DeepEq K H (d+1) (.ref p) (.ref q)
 | lst {d:Nat} {p q:Addr} {xs ys:List V}:SqL K H p xs→SqL K H q ys→xs.length=ys.length→(∀ j,j < xs.length→DeepEq K H d (xs.getD j .non) (ys.getD j .non))→DeepEq K H (d+1) (.ref p) (.ref q)
theorem Zh2{x:V}(h:U3 x=true):T0 x x=true:=by
 cases x with
 | non=>rfl
 | bl b=>exact beq_self_eq_true b
 | int i=>exact beq_self_eq_true i
 | str t=>exact beq_self_eq_true t
 | _=>cases h
theorem Uw{xs:List V}{us:List Value}(r:Vals xs us){j:Nat}(h:j < us.toArray.size):RelV (xs.getD j .non) us.toArray[j]∧j < xs.length:=by
 have hj:j < us.length:=by simpa using h
 have hx:j < xs.length:=by rw[r.length];exact hj
 obtain⟨u,e,ru⟩:=r.get (Zb hx);rw[Zb hj] at e;have g:xs.getD j .non=xs[j]:=by rw[Zk,Zb hx];rfl
 have eu:us[j]=u:=Zn e;refine⟨?_,hx⟩;rw[g,List.getElem_toArray,eu];exact ru
theorem Zco(n:Nat):(List.range n).all (fun _=>true)=true:=List.all_eq_true.mpr fun _ _=>rfl
section
variable{X:Cx}{pins:List (Addr×Obj)}{σ:St}{H:Hp}{s:Shared}
theorem DeepEq.at(I:Inv X pins σ H s){d:Nat}{x y:V}(h:DeepEq X.K H d x y):∀{A:Around} {u v:Value},RelV x u→RelV y v→A.units+d < cLine→SeqAt.EqAt A s u v true:=by
 induction h with
 | flat f=>
  intro A u v rx ry _;have:=Tl (A:=A) (s:=s) rx ry f f
  rwa [Zh2 f] at this
 | @tup d p q xs ys hp hq hl hi ih=>
  intro A u v rx ry hu;cases rx;cases ry;by_cases e:p=q
  ·subst e;exact SeqAt.EqAt.same _
  obtain⟨its,r1,p1,_⟩:=I.tuple hp;obtain⟨its2,r2,p2,_⟩:=I.tuple hq;have l1:=r1.length;have l2:=r2.length;have z:=SeqAt.RcAt.tuples (A:=A) (s:=s) (e:=fun _=>true) p1 p2 (by omega) (fun j h1 h2=>ih j (Uw r1 h1).2 (A:=A.in1) (Uw r1 h1).1 (Uw r2 h2).1 (by show A.units+1+d < cLine;omega));have ez:((List.range (min its.toArray.size its2.toArray.size)).all (fun _=>true) && its.toArray.size == its2.toArray.size)=true:=by
   rw[Zco,Bool.true_and];simp [← l1,← l2,hl]
  rw[ez] at z;exact SeqAt.EqAt.of_refs e z
 | @lst d p q xs ys hp hq hl hi ih=>
  intro A u v rx ry hu;cases rx;cases ry;by_cases e:p=q
  ·subst e;exact SeqAt.EqAt.same _
  obtain⟨its,r1,p1,_⟩:=I.list hp;obtain⟨its2,r2,p2,_⟩:=I.list hq;have l1:=r1.length;have l2:=r2.length;have z:=SeqAt.RcAt.lists (A:=A) (s:=s) (e:=fun _=>true) p1.isList p2.isList (by simp [← l1,← l2,hl]) (by omega) (fun j h1 h2=>ih j (Uw r1 h1).2 (A:=A.in1) (Uw r1 h1).1 (Uw r2 h2).1 (by show A.units+1+d < cLine;omega));rw[Zco] at z;exact SeqAt.EqAt.of_refs e z
def Zpu(K:W.Frag)(d:Nat):R2:=fun x y H Q=>∃ a b,x = .ref a∧y = .ref b∧DeepEq K H d x y∧Q (.bl true) H
theorem Zmm{d:Nat}(hd:d≤60)(hu:X.A.units+64 < cLine):No X (compareOp .Eq) (Zpu X.K d):=by
 intro pins s σ H x y v u Q I rx ry h;obtain⟨a,b,rfl,rfl,h,q⟩:=h;cases rx;cases ry;cases h with
 | flat f=>cases f
 | @tup d _ _ xs ys hp hq hl hi=>
  obtain⟨its,r1,p1,_⟩:=I.tuple hp;obtain⟨its2,r2,p2,_⟩:=I.tuple hq;have l1:=r1.length;have l2:=r2.length;refine SeqAt.RcAt.tuples (e:=fun _=>true) p1 p2 (by omega) (fun j h1 h2=>DeepEq.at I (hi j (Uw r1 h1).2) (A:=X.A.in1) (Uw r1 h1).1 (Uw r2 h2).1 (by show X.A.units+1+d < cLine;omega)) _ _ _ _ ⟨.bl _,H,I,rfl,?_⟩;have ez:((List.range (min its.toArray.size its2.toArray.size)).all (fun _=>true) && its.toArray.size == its2.toArray.size)=true:=by
   rw[Zco,Bool.true_and];simp [← l1,← l2,hl]
  rw[ez];exact q
 | @lst d _ _ xs ys hp hq hl hi=>
  obtain⟨its,r1,p1,_⟩:=I.list hp;obtain⟨its2,r2,p2,_⟩:=I.list hq;have l1:=r1.length;have l2:=r2.length;refine SeqAt.RcAt.lists (e:=fun _=>true) p1.isList p2.isList (by simp [← l1,← l2,hl]) (by omega) (fun j h1 h2=>DeepEq.at I (hi j (Uw r1 h1).2) (A:=X.A.in1) (Uw r1 h1).1 (Uw r2 h2).1 (by show X.A.units+1+d < cLine;omega)) _ _ _ _ ⟨.bl _,H,I,rfl,?_⟩;rw[Zco];exact q
end
theorem Ty{X:Cx}:U8 X (.type "int") (fun xs H Q=>∃ b,xs=[.bl b]∧Q (.int (if b then 1 else 0)) H):=by
 intro pins s σ H xs us Q I r h;obtain⟨b,rfl,q⟩:=h;obtain⟨u,rfl,ru⟩:=Xc r;cases ru;exact call_int_bool ⟨.int _,H,I.tok _,⟨_,rfl⟩,q⟩
section
variable{X:Cx}{k:Nat}{f C:Addr}{fd:FuncData}{ps:List Str}{sp:Sp}{dvs:List V}{ds:List Value}{x:Str}{p pos:Pos}{e:Expr}{es:List Expr}{t:TA}
end
end L2
namespace My
open PySem L2
theorem Yk{te:TE}{i:Nat}{u:TS}{D:Ends}{σ:St}{H:Hp}(G:V→Hp→Prop)(h:∀ R:V→Hp→Prop,(∀ v H',G v H'→R v H')→te σ H R)(hu:∀ v H',G v H'→u D (σ.set i (some v)) H'):Ziv (Zfd te (Qr i)) u D σ H:=h _ hu
theorem U9{s u:TS}{D:Ends}{σ:St}{H:Hp}(Pv:St→Hp→Prop)(h1:∀ D':Ends,D'.rt=D.rt→(∀ σ H,Pv σ H→D'.nx σ H)→s D' σ H)(h2:∀ σ H,Pv σ H→u D σ H):Ziv s u D σ H:=h1 { D with nx:=u D } rfl h2
theorem Bs{T:St→Hp→Prop}{rt:VK}{bk ct:St→Hp→Prop}{σ:St}{H:Hp}(h:T σ H):Zk8 (Ends.mk T rt bk ct) σ H:=h
theorem int_dec{a b:Int}:decide (V.int a=V.int b)=decide (a=b):=decide_eq_decide.mpr ⟨fun h=>by injection h,fun h=>by rw[h]⟩
theorem Zb0{a b:Nat}:decide (V.int (a:Nat)=V.int (b:Nat))=decide (a=b):=int_dec.trans (decide_eq_decide.mpr ⟨fun h=>by omega,fun h=>by omega⟩)
theorem Vx{r n:Nat}{i:Int}(h:i=((n:Nat):Int)):decide (V.int ((r:Nat):Int)=V.int i)=decide (r=n):=by subst h;exact Zb0
theorem Zb9{n i:Nat}(h:i < n):ixN n ((i:Nat):Int)=some i:=by
 unfold ixN;rw[if_pos (by omega),if_pos (by omega),Zv]
end My
namespace L2
open PySem
end L2
namespace L2
open PySem PySem.Spec PyProof.Rows
section
variable{X:Cx}
end
end L2
namespace My
open PySem L2 PySem.Spec PyProof.Rows
section
variable{X:Cx}{e st:Expr}{te:TE}{ts:TO}{pos p2:Pos}
end
def up(c:Nat):Nat:=if 97≤c∧c≤122 then c - 32 else c
end My
namespace L2
open PySem PySem.Spec PyProof.Rows
section
variable{prog:Program}{w:World}{A:Around}{E:Value→Shared→Prop}{s:Shared}
theorem Kt{Q:List Value→Shared→Prop}{r:Addr}{a b c:Int}{t u v:Tok}{n:Nat}(hh:A.handled=none)(hr:IsRange s.heap r a b c t u v)(hsmall:Builtin.Range.small a b c=true)
  (hn:Builtin.Range.rangeSize a b c=n) (hlen:n≤2 ^ 24)
  (hQ:∀ h' tk acc,(∀ b o,s.heap.get? b=some o→h'.get? b=some o)→ItemsOf (fun i v=>∃ t,v = .int (a+i * c) t) acc n→Q acc.toList { s with heap:=h',toks:=tk }) :
  wpAny (model prog w) A (collect (.ref r)) Q E s:=by
 have key:∀ R:Result→Shared→Prop,(∀ h' tk acc c',(∀ b o,s.heap.get? b=some o→h'.get? b=some o)→h'.get? s.heap.objs.size=some { cls:=.type "list",dict:=none,data:=.seq acc c',slots:=#[] } →
   ItemsOf (fun i v=>∃ t,v = .int (a+i * c) t) acc n→R (.ok (.ret (.ref s.heap.objs.size))) { s with heap:=h',toks:=tk })→codeAny (model prog w) A (.builtin "proto.collect" ⟨[.ref r],[]⟩) R s:=by
  intro R hR;refine codeAny_builtin F.entry_proto_collect ?_;rw[Around.under_plainId F.plain_proto_collect _];show wpAny _ A.in1 (newList [] >>= fun l=>again (.builtin "list.__iadd__" ⟨[l,.ref r],[]⟩)) _ _ s;refine Zc (wpAny_newObj_type ?_);refine wpAny_pure ⟨plainId_quiet F.plain_list_iadd _,codeAny_builtin F.entry_list_iadd ?_⟩;rw[Around.under_plainId F.plain_list_iadd _];have hS:(s.heap.push { cls:=.type "list",data:=.seq ([]:List Value).toArray }).get? s.heap.objs.size=some { cls:=.type "list",data:=.seq ([]:List Value).toArray }:=Heap.get?_push_size _ rfl;exact wpAny_extend_range (A:=A) (R:=R) (s:={ s with heap:=s.heap.push { cls:=.type "list",data:=.seq ([]:List Value).toArray } }) hh (Ze _ hr) hsmall hn hlen s.heap.objs.size (.ref s.heap.objs.size) 0 hS fun h' tk acc c' hk hS' hacc=>
   hR h' tk acc c' (fun b o e=>hk b o (Nat.ne_of_lt (Zs e)) (Ze _ e)) hS' hacc
 unfold collect;refine Zc (wpAny_runValue (key _ fun h' tk acc c' kp hS' hacc=>?_));show wpAny _ A (load s.heap.objs.size >>= _) _ _ _;refine Zc (wpAny_load hS' ?_);exact wpAny_pure (hQ h' tk acc kp hacc)
end
def Xm(n:Nat):List Int:=(List.range n).map Int.ofNat
theorem Ea(n:Nat):(Xm n).length=n:=by unfold Xm;rw[Zi,J4]
theorem Mc{acc:Array Value}{n:Nat}(h:ItemsOf (fun i v=>∃ t,v = .int (0+i * 1) t) acc n):IntsAre acc.toList (Xm n):=by
 obtain⟨hs,hi⟩:=h;have key:∀(k:Nat) (us:List Value) (j:Nat),us.length=k→(∀ i v,us[i]? = some v→∃ t,v=Value.int ((j+i:Nat):Int) t)→IntsAre us ((List.range' j k).map Int.ofNat):=by
  intro k
  induction k with
  | zero=>
   intro us j hl _;cases us with
   | nil=>exact .nil
   | cons _ _=>cases hl
  | succ k ih=>
   intro us j hl hu;cases us with
   | nil=>cases hl
   | cons u us=>
    obtain⟨t,rfl⟩:=hu 0 u rfl;rw[List.range'_succ];refine .cons _ t (ih us (j+1) (Nat.succ.inj hl) fun i v hv=>?_);obtain⟨t',e⟩:=hu (i+1) v hv;exact⟨t',by rw[e];congr 1;omega⟩
 have e:=key n acc.toList 0 (by simpa using hs) fun i v hv=>by
  obtain⟨t,e⟩:=hi i v (by simpa using hv);exact⟨t,by rw[e];congr 1;omega⟩
 unfold Xm;rw[List.range_eq_range'];exact e
section
variable{prog:Program}{w:World}{A:Around}{E:Value→Shared→Prop}{s:Shared}{h₀:Heap}{L l:Addr}{m:Str→Option Value}{news:List (Addr×Obj)}{Q:Value→Shared→Prop}
theorem Sl{n:Nat}{f:Value}{kw:List (Str×Value)}{t u v:Tok}(g:Int→Int)(F:Fr h₀ L s.heap m)(N:News h₀ L s.heap news)(hh:A.handled=none)(hr:IsRange s.heap l 0 n 1 t u v)(h64:n < 64)
  (ha1:argsOk "sorted" ⟨[.ref l],kw⟩) (ha2:∀ x,argsOk "list.sort" ⟨[.ref x],kw⟩) (ht:∀ x,Builtin.«list.sort» ⟨[.ref x],kw⟩=ksk_tree x f false)
  (turn:∀(i:Int) (t:Tok) (h:Heap) (tk:Nat) (own:List (Addr×Obj)),i∈Xm n→Fr h₀ L h m→News h₀ L h (news++own) →
   wpAny (model prog w) A.in1.in1 (call f [.int i t]) (KskEnd h₀ L m (news++own) (g i) { s with heap:=h,toks:=tk }) (fun _ _=>False) { s with heap:=h,toks:=tk })
  (done:∀ D vs' ns' c h' tk,Fr h₀ L h' m→News h₀ L h' ((D,seqObj "list" (List.toArray vs') c) :: news)→(∀ b o,s.heap.get? b=some o→b < D)→IntsAre vs' ns'→ns'.Perm (Xm n)→Q (.ref D) { s with heap:=h',toks:=tk }) :
  wpAny (model prog w) A (call (.builtin "sorted") [.ref l] kw) Q E s:=by
 refine call_function_entry_kw kind_sorted plain_sorted entry_sorted ha1 ?_;unfold Builtin.«sorted»;refine Zc (m:=checkCount "sorted" 1 1 _) (wpAny_pure ?_);have hsz:Builtin.Range.rangeSize 0 n 1=(n:Int):=by
  unfold Builtin.Range.rangeSize;simp
  try omega
 have hsm:Builtin.Range.small 0 n 1=true:=by
  unfold Builtin.Range.small;rw[hsz];unfold Builtin.Range.rangeFitsLong;simp
  try omega
 refine Zc (Kt (A:=A.in1) hh hr hsm hsz (by omega) fun h1 tk1 acc kp hi=>?_);have hI:=Mc hi;have hlen:acc.toList.length=n:=by rw[hI.length,Ea]
 refine Zc (wpAny_newList ?_ (by rw[sizeLine_eq];omega));have hL:L < h1.objs.size:=(F.ns.keeps kp).lt;have hoL:(h1.push (seqObj "list" acc.toList.toArray 0)).get? h1.objs.size=some (seqObj "list" acc.toList.toArray 0):=Heap.get?_push_size _ rfl;have keep:∀ b o,s.heap.get? b=some o→(h1.push (seqObj "list" acc.toList.toArray 0)).get? b=some o:=fun b o q=>Ze _ (kp b o q);refine Zc (wpAny_holding (wpAny_call_entry_kw slot_list_sort ⟨_,hoL,rfl⟩ entry_list_sort ?body (ha2 _)))
 case body=>
  have ht':=ht h1.objs.size;show wpAny (model prog w) A.in1.in1 (Builtin.«list.sort» ⟨[.ref h1.objs.size],kw⟩) _ _ _;rw[ht'];refine ksk_sort (s:={ s with heap:=h1.push (seqObj "list" acc.toList.toArray 0),toks:=tk1 }) (kz:=(Xm n).map g)
   (F.kept keep) (N.grown keep) hoL (Nat.ne_of_gt hL) (Heap.get?_none_of_le (Nat.le_trans F.above (J2 hL)))
   (fun p hp=>Nat.ne_of_lt (Zs (kp _ _ (N p hp).1))) (by rw[Zi,Ea,hlen]) (by omega) (fun i v k hv hk h tk own F' N'=>?_) fun h' tk out c F' N' ko=>⟨_,rfl,?_⟩
  ·rw[Zm] at hk
   cases q:(Xm n)[i]? with
   | none=>rw[q] at hk;simp at hk
   | some z=>
    rw[q] at hk;have hk':some (g z)=some k:=hk;cases hk';obtain⟨t',ht'⟩:=hI.get i z q;rw[ht'] at hv;cases hv;exact turn z t' h tk own (Zr q) F' N'
  ·refine wpAny_pure ⟨_,rfl,?_⟩
   obtain⟨ps,hp,ho,hs⟩:=ko;have hrel:∀ p,p∈((Xm n).map g).zip acc.toList→p.2∈acc.toList:=fun p hp=>(List.of_mem_zip (a:=p.1) (b:=p.2) hp).2;have hI2:IntsAre (ps.map Prod.snd) ((ps.map Prod.snd).map numOf):=intsAre_map _ fun v hv=>by
    obtain⟨p,hp',rfl⟩:=Z2.mp hv;exact hI.all _ (hrel p (hp.mem_iff.mp hp'))
   have hP:((ps.map Prod.snd).map numOf).Perm (Xm n):=by
    have h1:=(hp.map Prod.snd).map numOf;rw[List.map_snd_zip (by rw[Zi,Ea];omega),hI.nums] at h1;exact h1
   rw[← ho] at hI2 hP;exact done _ out.toList _ c h' tk F' (by simpa using N') (fun b o e=>Zs (kp b o e)) hI2 hP
end
abbrev Yn(pv:Str)(p:Pos):Arguments:={ posonlyargs:=[],args:=[{ arg:=pv,annotation:=none,pos:=p }],vararg:=none,kwonlyargs:=[],kw_defaults:=[],kwarg:=none,defaults:=[] }
abbrev Ua(pv nm:Str):Scope:={ kind:=.function,names:=[(pv,.local),(nm,.free)],isGenerator:=false,isCoroutine:=false,more:=[] }
abbrev Xb(pv nm:Str)(p1 p2 p3:Pos):Expr:=.Subscript (.Name nm p1) (.Name pv p2) p3
section
variable{prog:Program}{w:World}{A:Around}{E:Value→Shared→Prop}{s:Shared}{Q:Value→Shared→Prop}{pv nm qual:Str}{p p1 p2 p3:Pos}{f cc nl c':Addr}{pm ctv:Value}
theorem Zhl{its:List Value}{j:Nat}{t tt:Tok}{k:Int}(hroom:A.depth < recursionLimit)(hlim:s.heap.NoLimit)
  (hf:s.heap.get? f=some (W.kla_obj "<lambda>" qual (Yn pv p) (Xb pv nm p1 p2 p3) (Ua pv nm) [(nm,cc)] pm c' ctv)) (hcd:s.heap.CodeRec (.ref c') qual)
  (hc:s.heap.IsCell cc (some (.ref nl))) (hl:s.heap.IsList nl its.toArray) (hit:its[j]? = some (.int k tt)) (hj:j < 1000)
  (hbind:∀ u:Value,bindArgs (W.kla_fn "<lambda>" qual (Yn pv p) (Xb pv nm p1 p2 p3) (Ua pv nm) [(nm,cc)] pm (.ref c') ctv) ⟨[u],[]⟩=pure [(pv,u)])
  (hne:(pv == nm)=false) (hne':(nm == pv)=false) (hd1:(nm == ("__debug__":Str))=false) (hd2:(pv == ("__debug__":Str))=false) (hcd1:(nm == ("__classdict__":Str))=false)
  (h:∀ h' tk,(∀ b o,s.heap.get? b=some o→h'.get? b=some o)→Q (.int k tt) { s with heap:=h',toks:=tk }) :
  wpAny (model prog w) A (call (.ref f) [.int j t]) Q E s:=by
 refine wpAny_call (W.kla_callFunE hroom hf rfl rfl rfl rfl hcd ?_);rw[hbind];refine wpAny_pure (wpAny_newFunctionEnv ?hc ?hl (fun h₁ hns hsb=>⟨hlim.fresh _ hsb,?_⟩) rfl)
 case hc=>
  intro x hx;simp only[List.mem_cons,Yv,or_false] at hx;rcases hx with rfl | rfl
  ·exact fun z=>nomatch z
  ·exact fun z=>nomatch z
 case hl=>
  intro x hx;rw[Jt.mp hx];show List.lookup pv [(pv,NameKind.local),(nm,NameKind.free)]=_;simp
 have hk₁:∀ b o,s.heap.get? b=some o→h₁.get? b=some o:=fun b o e=>hsb.extBut b o (Nat.ne_of_lt (Zs e)) (Ze _ e);refine W.kla_codeExpr ?_;refine Subscript_ (wpAny_Name (wpAny_loadName_free (c:=cc) (v:=.ref nl) rfl ?k1 ?k2 ?k3 ?_ hcd1) hd1)
 case k1=>
  show List.lookup nm [(pv,NameKind.local),(nm,NameKind.free)]=_;simp [List.lookup,hne']
 case k2=>
  show List.lookup nm [(nm,cc)]=_;simp
 case k3=>
  obtain⟨o,ho,hd⟩:=hc;exact⟨o,hk₁ _ _ ho,hd⟩
 refine wpAny_Name (wpAny_loadName_local (v:=.int j t) rfl ?l1 hns ?l2 ?_) hd2
 case l1=>
  show List.lookup pv [(pv,NameKind.local),(nm,NameKind.free)]=_;simp
 case l2=>
  show List.lookup pv [(pv,Value.int j t)]=_;simp
 refine item_listR (items:=its.toArray) (x:=.int k tt) ?_ (Int.natCast_nonneg j) (by omega) (by simpa using hit) ?_
 ·obtain⟨o,ho,r⟩:=hl
  exact⟨o,hk₁ _ _ ho,r⟩
 ·exact h h₁ _ hk₁
end
structure LamOk(X:Cx)(c P:Addr):Prop where
 code:X.env.code = .ref c
 hd:W.CodeHd X.base c P
 bm:∃ bm ob,X.mg "__builtins__" = some (.ref bm)∧bm≠builtinsNs∧X.base.get? bm=some ob∧ob.cls = .type "module"∧ob.dict=some builtinsNs∧ob.data = .plain
def E8(c':Addr)(qual:Str):HO:=.ext fun h=>h.CodeRec (.ref c') qual
abbrev Vf(pos:Pos)(c':Addr):Array Value:=#[rawInt pos.line,rawInt pos.col,.ref c']
def Tab2(H:Hp)(P:Addr)(pos:Pos)(qual:Str):Prop:=∃ c',c'≠P∧H P=some (.tbl (Vf pos c'))∧H c'=some (E8 c' qual)
def TabSt(H:Hp)(P:Addr)(pos:Pos)(qual:Str):Prop:=H P=some (.tbl #[])∨Tab2 H P pos qual
def SameT(P:Addr)(H H':Hp):Prop:=∀ b o,b≠P→H b=some o→H' b=some o
section
variable{X:Cx}{pins:List (Addr×Obj)}{σ:St}{H:Hp}{s:Shared}{c P:Addr}{pv nm:Str}{p p1 p2 p3 pos:Pos}{cc:Addr}
theorem Km{h:Heap}{c':Addr}{qual:Str}(hr:h.CodeRec (.ref c') qual):ObjOk X.prog X.w H h c' (E8 c' qual):=by
 refine⟨hr,?_,?_⟩
 ·obtain⟨c2,o,vs,t,e,g,r⟩:=hr
  cases e;exact⟨o,g⟩
 ·rintro h1 h2 ⟨c2,o,vs,t,e,g,r⟩ k
  cases e;exact⟨c',o,vs,t,rfl,k _ g,r⟩
theorem Zhm{Q:Value→Shared→Prop}{E:Value→Shared→Prop}(I:Inv X pins σ H s)(O:LamOk X c P)(ht:TabSt H P pos (X.env.qual ++ "<lambda>"))
  (hcl:closureFor (Ua pv nm) X.env=pure [(nm,cc)])
  (h:∀(f c':Addr) (pm ctv:Value) (H2:Hp) (h':Heap) (tk:Nat),Inv X pins σ H2 { s with heap:=h',toks:=tk }→SameT P H H2→Tab2 H2 P pos (X.env.qual ++ "<lambda>")→h'.CodeRec (.ref c') (X.env.qual ++ "<lambda>") →
   h'.get? f=some (W.kla_obj "<lambda>" (X.env.qual ++ "<lambda>") (Yn pv p) (Xb pv nm p1 p2 p3) (Ua pv nm) [(nm,cc)] pm c' ctv)→Q (.ref f) { s with heap:=h',toks:=tk }) :
  wpAny (model X.prog X.w) X.A (eval (.Lambda (Yn pv p) (Xb pv nm p1 p2 p3) (Ua pv nm) pos) X.env) Q E s:=by
 refine W.kla_eval rfl ?_;have hg:=I.mod.glob.keeps I.bk;have hPt:∃ ps,H P=some (.tbl ps):=by
  rcases ht with e | ⟨c',_,e,_⟩
  ·exact⟨_,e⟩
  ·exact⟨_,e⟩
 have nP:∀ b o,X.base.get? b=some o→b≠P:=fun b o e z=>by
  obtain⟨ps,e2⟩:=hPt;have:=(I.bs b o e).2;rw[z,e2] at this;cases this
 have hgP:mainGlobals≠P:=by
  obtain⟨o,es,ep,e,_⟩:=I.mod.glob;exact nP _ o e
 have hb:s.heap.BuiltinsAt X.mg P:=by
  obtain⟨bm,ob,b1,b2,b3,b4,b5,b6⟩:=O.bm;refine⟨bm,ob,b1,b2,fun q=>?_,nP _ _ b3,I.bk _ _ b3,b4,b5,b6⟩;obtain⟨o,es,ep,e,hd,_⟩:=I.mod.glob;rw[q,e] at b3;cases b3;rw[hd] at b6;cases b6
 have C:=O.hd.keeps I.bk;rcases ht with e | ht2
 ·have hP:s.heap.get? P=some (W.tabObj #[]):=I.hok P _ e
  refine W.kla_makeFunction (mg:=X.mg) hcl I.ok.glob hg O.code C hP trivial rfl hgP hb fun c' ctv h' tk hx hge hlt hrec htb=>?_;have hcN:H c'=none:=I.hok.fresh hge;have hcP:c'≠P:=fun z=>by rw[z,e] at hcN;cases hcN
  have hLP:X.env.locals≠P:=fun z=>by have:=I.free;rw[z,e] at this;cases this
  have kp:∀ b o,b≠P→s.heap.get? b=some o→(h'.push (W.kla_obj "<lambda>" (X.env.qual ++ "<lambda>") (Yn pv p) (Xb pv nm p1 p2 p3) (Ua pv nm) [(nm,cc)] ((X.mg "__name__").getD .none) c' ctv)).get? b=some o:=
   fun b o n q=>Ze _ (hx b o n q)
  have hH2P:upd (upd H P (.tbl (Vf pos c'))) c' (E8 c' (X.env.qual ++ "<lambda>")) P=some (.tbl (Vf pos c')):=by rw[Zu hcP.symm,Zj]
  have hH2:∀ b,b≠P→b≠c'→upd (upd H P (.tbl (Vf pos c'))) c' (E8 c' (X.env.qual ++ "<lambda>")) b=H b:=fun b n1 n2=>by rw[Zu n2,Zu n1]
  have hSm:SameT P H (upd (upd H P (.tbl (Vf pos c'))) c' (E8 c' (X.env.qual ++ "<lambda>"))):=fun b o n q=>by
   rw[hH2 b n (Jb q hcN)];exact q
  have nbP:∀ b,H b=none→b≠P:=fun b n z=>by rw[z,e] at n;cases n
  have nbc:∀ b o,s.heap.get? b=some o→b≠c':=fun b o q=>Nat.ne_of_lt (Z1 (Zs q) hge);have hrec':(h'.push (W.kla_obj "<lambda>" (X.env.qual ++ "<lambda>") (Yn pv p) (Xb pv nm p1 p2 p3) (Ua pv nm) [(nm,cc)] ((X.mg "__name__").getD .none) c' ctv)).CodeRec (.ref c') (X.env.qual ++ "<lambda>"):=hrec.push _;refine h h'.objs.size c' _ ctv _ _ tk (I.step (g':=s.gens) (d':=s.drawn) (t':=tk) (ch:=[]) (fun _ z=>nomatch z) (fun b o _ _ _ q n=>kp b o (nbP b n) q) (fun b o _ _ _ q n=>⟨o.slots,kp b o (nbP b n) q⟩)
   (fun b o _ q n=>by rw[hH2 b (nbP b n) (nbc b o q)];exact n) (fun b o _ q=>?_) (fun b xs q=>hSm b _ (fun z=>by rw[z,e] at q;cases q) q) (fun b o u q=>hSm b _ (fun z=>by rw[z,e] at q;cases q) q) (fun b ps q=>?_)
   (fun m hm=>?_) (fun b u q=>?_) I.bare) hSm ⟨c',hcP,hH2P,Zj⟩ hrec' (Heap.get?_push_size _ rfl)
  ·by_cases hbP:b=P
   ·subst hbP
    exact⟨_,Ze _ htb⟩
   ·exact⟨o,kp b o hbP q⟩
  ·by_cases hbP:b=P
   ·subst hbP
    rw[e] at q;cases q;exact⟨Vf pos c',by rw[hH2P];simp⟩
   ·exact⟨#[],by rw[hSm b _ hbP q];simp⟩
  ·obtain⟨o,es,ep,ho,r⟩:=hm
   exact⟨o,es,ep,kp _ o hLP ho,r⟩
  ·by_cases hbc:b=c'
   ·subst hbc
    rw[Zj] at q;cases q;exact Km hrec'
   ·by_cases hbP:b=P
    ·subst hbP
     rw[hH2P] at q;cases q;show Heap.get? _ _=some _;have z:=Ze (W.kla_obj "<lambda>" (X.env.qual ++ "<lambda>") (Yn pv p) (Xb pv nm p1 p2 p3) (Ua pv nm) [(nm,cc)] ((X.mg "__name__").getD .none) c' ctv) htb
     simpa using z
    ·rw[hH2 b hbP hbc] at q
     refine(I.hok b u q).stay (fun d v hd r=>kp d v ?_ r) (fun d r=>hSm d _ (fun z=>by rw[z,e] at r;cases r) r) fun d xs r=>hSm d _ (fun z=>by rw[z,e] at r;cases r) r;rcases hd with rfl | hd
     ·exact hbP
     ·intro z
      rw[z,e] at hd;cases hd
 ·obtain⟨c',hcP,e,ec⟩:=ht2
  have hP:s.heap.get? P=some (W.tabObj (Vf pos c')):=I.hok P _ e;have hrec:s.heap.CodeRec (.ref c') (X.env.qual ++ "<lambda>"):=(I.hok c' _ ec).1;refine W.kla_makeFunctionHit (mg:=X.mg) (cv:=.ref c') hcl I.ok.glob hg O.code C hP (by simp [TriplesOk,rawInt]) (by simp [codeAmong,rawInt]) hb fun ctv h' tk hx hge=>?_;have kp:=fun b o q=>Ze (W.kla_obj "<lambda>" (X.env.qual ++ "<lambda>") (Yn pv p) (Xb pv nm p1 p2 p3) (Ua pv nm) [(nm,cc)] ((X.mg "__name__").getD .none) c' ctv) (hx b o q);exact h h'.objs.size c' _ ctv H _ tk (I.kept (t':=tk) kp) (fun _ _ _ q=>q) ⟨c',hcP,e,ec⟩ (hrec.keeps kp) (Heap.get?_push_size _ rfl)
end
end L2
namespace L2
open PySem PySem.Spec PyProof.Rows Att
theorem ObjOk.obj{P:Program}{w:World}{H:Hp}{h:Heap}{a:Addr}{o:HO}(x:ObjOk P w H h a o):∃ u,h.get? a=some u:=by
 cases o with
 | lst xs=>obtain⟨_,_,_,_,e⟩:=x;exact⟨_,e⟩
 | tup xs=>obtain⟨_,_,_,⟨u,e,_⟩⟩:=x;exact⟨u,e⟩
 | dK kvs=>obtain⟨_,_,_,_,o,_,_,e,_⟩:=x;exact⟨_,e⟩
 | dT kvs=>obtain⟨_,_,_,_,o,_,_,e,_⟩:=x;exact⟨_,e⟩
 | set S n=>obtain⟨o,_,_,_,e,_⟩:=x;exact⟨_,e⟩
 | ins C dx fs=>obtain⟨_,_,_,e,_⟩:=x;exact⟨_,e⟩
 | own y=>obtain⟨_,e⟩:=x;exact⟨_,e⟩
 | xd fs=>obtain⟨_,⟨_,_,_,e,_⟩,_⟩:=x;exact⟨_,e⟩
 | rng lo hi=>obtain⟨_,_,_,e⟩:=x;exact⟨_,e⟩
 | frz ob u=>obtain⟨e,_⟩:=x;exact⟨_,e⟩
 | tbl ps=>exact⟨_,(show h.get? a=some _ from x)⟩
 | met f y=>exact⟨_,(show h.get? a=some _ from x)⟩
 | ext φ=>obtain⟨_,⟨_,e⟩,_⟩:=x;exact⟨_,e⟩
theorem Zlj{h:Heap}{a:Addr}{m m':Str→Option Value}(x:h.Ns a m)(y:h.Ns a m'):m=m':=by
 obtain⟨o,es,ep,e,d,_,r⟩:=x;obtain⟨o',es',ep',e',d',_,r'⟩:=y;rw[e] at e';cases e';rw[d] at d';cases d'
 funext z
 rw[← r z,← r' z]
section
variable{X:Cx}{pins:List (Addr×Obj)}{σ:St}{H:Hp}{s:Shared}{c P:Addr}{pv nm:Str}{p p1 p2 p3 pos:Pos}{cc:Addr}
theorem Ag{Q:VK}{f c' nl r:Addr}{pm ctv:Value}{qual:Str}{n:Nat}{ns:List Int}(I:Inv X pins σ H s)(hr:Room 1 X.A)
  (hrec:s.heap.CodeRec (.ref c') qual) (hf:s.heap.get? f=some (W.kla_obj "<lambda>" qual (Yn pv p) (Xb pv nm p1 p2 p3) (Ua pv nm) [(nm,cc)] pm c' ctv))
  (hcc:s.heap.IsCell cc (some (.ref nl))) (hS:SqL X.K H nl (ns.map V.int)) (hn:n≤ns.length) (hrg:H r=some (.rng 0 n)) (h64:n < 64)
  (hbind:∀ u:Value,bindArgs (W.kla_fn "<lambda>" qual (Yn pv p) (Xb pv nm p1 p2 p3) (Ua pv nm) [(nm,cc)] pm (.ref c') ctv) ⟨[u],[]⟩=pure [(pv,u)])
  (hne:(pv == nm)=false) (hne':(nm == pv)=false) (hd1:(nm == ("__debug__":Str))=false) (hd2:(pv == ("__debug__":Str))=false) (hcd1:(nm == ("__classdict__":Str))=false)
  (q:∀(l:Addr) (zs:List Int),zs.Perm (Xm n)→H l=none→Q (.ref l) (upd H l (.lst (zs.map V.int)))) :
  wpAny (model X.prog X.w) X.A (call (.builtin "sorted") [.ref r] [(Str.ofString "key",.ref f)]) (EP X pins σ Q) X.xe s:=by
 obtain⟨m,hm,_⟩:=id I.loc;have hrg':∃ t u v,s.heap.get? r=some { cls:=.type "range",data:=.fields #[.int 0 t,.int n u,.int 1 v] }:=I.hok r _ hrg;obtain⟨t0,t1,t2,hR⟩:=hrg';obtain⟨its,rv,pl,hz⟩:=I.list hS;obtain⟨oL,esL,epL,hoL,hdL,rL⟩:=id hm;have nL:∀ b o,s.heap.get? b=some o→(∀ es ep,o.data ≠ .dict es ep)→b≠X.env.locals:=fun b o e d z=>by
  rw[z,hoL] at e;cases e;exact d _ _ hdL
 have N0:News (G8 s.heap) X.env.locals s.heap (Oq s.heap X.env.locals X.env.locals):=fun⟨a,o⟩ hp=>by
  obtain⟨n1,_,e⟩:=mem_ledger.mp hp;exact⟨e,n1,N6 _ _⟩
 have lenI:its.length=ns.length:=by rw[← rv.length,Zi]
 refine Sl (g:=fun i=>ns.getD i.toNat 0) (f:=.ref f) (Zhy hm) N0 hr.hd hR h64 (ksk_s1 _ _) (fun x=>ksk_l1 _ _) (fun x=>ksk_t1 f x) (fun i t h tk own hi F' N'=>?_) fun D vs' ns' ep h' tk F' N' hlt hI hp=>?_
 ·have kp:∀ b o,s.heap.get? b=some o→b≠X.env.locals→h.get? b=some o:=fun b o e n1=>(N' (b,o) (List.mem_append_left _ (mem_ledger.mpr ⟨n1,n1,e⟩))).1
  obtain⟨j,hj,rfl⟩:∃ j:Nat,j < n∧i=(j:Int):=by
   obtain⟨j,h1,h2⟩:=Z2.mp hi;exact⟨j,Jm.mp h1,h2.symm⟩
  have hjn:j < ns.length:=Z1 hj hn;obtain⟨wv,ew,rw'⟩:=rv.get (i:=j) (x:=V.int (ns.getD j 0)) (by rw[Zm,Zk,Zb hjn];rfl);obtain⟨tt,rfl⟩:=rw';have kb:∀ b o,X.base.get? b=some o→h.get? b=some o:=fun b o e=>kp b o (I.bk b o e) (Nat.ne_of_lt (Z1 (Zs e) (Nat.le_trans I.ok.bsz I.ok.above)));refine Zhl (A:=X.A.in1.in1) (s:={ s with heap:=h,toks:=tk }) (its:=its) (j:=j) (k:=ns.getD j 0) (tt:=tt) (nl:=nl) (cc:=cc) ?_ (I.mod.nolimit.keeps kb) (kp _ _ hf (nL _ _ hf (fun _ _ z=>nomatch z))) ?_ ?_ ?_ ew (by omega) hbind hne hne' hd1 hd2 hcd1 fun h2 tk2 k2=>?_
  ·have:=hr.dp
   show X.A.depth < recursionLimit;omega
  ·obtain⟨c2,o,vs,t3,e,g,hd,r3⟩:=hrec
   exact⟨c2,o,vs,t3,e,kp _ _ g (nL _ _ g (fun _ _ z=>by rw[hd] at z;cases z)),hd,r3⟩
  ·obtain⟨o,ho,hd⟩:=hcc
   exact⟨o,kp _ _ ho (nL _ _ ho (fun _ _ z=>by rw[hd] at z;cases z)),hd⟩
  ·have pl':=pl.isList
   obtain⟨o,ho,hc,ep2,hd⟩:=pl';exact⟨o,kp _ _ ho (nL _ _ ho (fun _ _ z=>by rw[hd] at z;cases z)),hc,ep2,hd⟩
  ·exact⟨h2,tk2,tt,rfl,by simp,F'.kept k2,N'.grown k2⟩
 ·have kp:∀ b o,s.heap.get? b=some o→b≠X.env.locals→h'.get? b=some o:=fun b o e n1=>(N' (b,o) (Zx _ (mem_ledger.mpr ⟨n1,n1,e⟩))).1
  have hD:=(N' _ (Zw ..)).1;have hDN:H D=none:=by
   cases z:H D with
   | none=>rfl
   | some u=>
    obtain⟨o,e⟩:=ObjOk.obj (I.hok D u z);exact absurd (hlt D o e) (Nat.lt_irrefl _)
  have nD:∀ b o,s.heap.get? b=some o→b≠D:=fun b o e=>Nat.ne_of_lt (hlt b o e);have hv:Vals (ns'.map V.int) vs':=Nd hI;have hl:ns'.length=n:=by rw[hp.length_eq,Ea]
  have nLH:∀ b u,H b=some u→b≠X.env.locals:=fun b u e z=>by have:=I.free;rw[← z,e] at this;cases this
  refine⟨.ref D,_,I.step (g':=s.gens) (d':=s.drawn) (t':=tk) (ch:=[]) (H':=upd H D (.lst (ns'.map V.int))) (fun _ z=>nomatch z) (fun b o n1 _ _ e _=>kp b o e n1) (fun b o n1 _ _ e _=>⟨o.slots,kp b o e n1⟩)
   (fun b o _ e n=>by rw[Zu (nD b o e)];exact n) (fun b o _ e=>?_) (fun b xs e=>by rw[Zu (Jb e hDN)];exact e) (fun b o u e=>by rw[Zu (Jb e hDN)];exact e)
   (fun b ps e=>⟨#[],by rw[Zu (Jb e hDN),e];simp⟩) (fun m' hm'=>?_) (fun b u e=>?_) I.bare,rfl,q D ns' hp hDN⟩
  ·by_cases hb:b=X.env.locals
   ·obtain⟨o',es,ep2,ho,_⟩:=F'.ns
    exact⟨o',by rw[hb];exact ho⟩
   ·exact⟨o,kp b o e hb⟩
  ·rw[← Zlj hm hm']
   exact F'.ns
  ·by_cases hb:b=D
   ·subst hb
    rw[Zj] at e;cases e;exact⟨by rw[Zi,hl,sizeLine_eq];omega,vs',ep,hv,hD⟩
   ·rw[Zu hb] at e
    refine(I.hok b u e).stay (fun d v hd r=>kp d v r ?_) (fun d r=>by rw[Zu (Jb r hDN)];exact r) fun d xs r=>by rw[Zu (Jb r hDN)];exact r
    rcases hd with rfl | hd
    ·exact nLH _ _ e
    ·exact nLH _ _ hd
end
theorem Ku{env:Env}{pv nm:Str}{cc:Addr}(h:env.cells.lookup nm=some cc):closureFor (Ua pv nm) env=pure [(nm,cc)]:=by
 unfold closureFor cellOf;simp [h]
 try rfl
def Ze7(K:W.Frag)(P:Addr)(pos:Pos)(qual:Str)(i:Nat)(t:TA):TE:=fun σ H Q=>t σ H fun vs H1=>∃(r nl:Addr) (n:Nat) (ns:List Int),vs=[.ref r]∧H1 r=some (.rng 0 n)∧n < 64∧σ[i]? = some (some (.ref nl))∧SqL K H1 nl (ns.map V.int)∧n≤ns.length ∧
 TabSt H1 P pos qual∧∀(H2:Hp) (l:Addr) (zs:List Int),SameT P H1 H2→Tab2 H2 P pos qual→zs.Perm (Xm n)→H2 l=none→Q (.ref l) (upd H2 l (.lst (zs.map V.int)))
section
variable{X:Cx}{c P:Addr}{pv nm:Str}{p p1 p2 p3 pos np cpos kp:Pos}{e:Expr}{t:TA}{i:Nat}
theorem Gr(O:LamOk X c P)(hr:Room 1 X.A)(hg:Gl X "sorted")(hm:X.mg "sorted" = none)(hN:X.N[i]? = some nm)(hk:X.env.kindOf nm=some .cell)(hv:Vis X.env.scope nm)(ha:PA X [e] t)
  (hne:(pv == nm)=false:=by decide) (hne':(nm == pv)=false:=by decide) (hd1:(nm == ("__debug__":Str))=false:=by decide) (hd2:(pv == ("__debug__":Str))=false:=by decide) (hcd1:(nm == ("__classdict__":Str))=false:=by decide)
  (hbind:∀(q:Str) (cl:List (Str×Addr)) (pm ctv:Value) (c':Addr) (u:Value),bindArgs (W.kla_fn "<lambda>" q (Yn pv p) (Xb pv nm p1 p2 p3) (Ua pv nm) cl pm (.ref c') ctv) ⟨[u],[]⟩=pure [(pv,u)]:=by intros;rfl)
  (he:backTo cpos (starEach [e] X.env)=(false,eval e X.env) :: backTo cpos (starEach [] X.env):=by rfl) (hpl:(backTo cpos (starEach [e] X.env)).any (·.1)=false:=by rfl) :
  PE X (.Call (.Name "sorted" np) [e] [⟨some "key",.Lambda (Yn pv p) (Xb pv nm p1 p2 p3) (Ua pv nm) pos,kp⟩] cpos) (Ze7 X.K P pos (X.env.qual ++ "<lambda>") i t):=by
 intro pins s σ H Q I h;refine wpAny_Call_Name_kw (N8 I hg hm (show bootBuiltins "sorted" = some (.builtin "sorted") from by kernel_rfl) ?_);refine callWith_kw (Y5 (ha cpos pins s σ H _ I h) fun us s1 ⟨vs,H1,I1,r1,q1⟩=>?_) he hpl rfl rfl;obtain⟨r,nl,n,ns,rfl,hrg,h64,hs,hS,hn,hT,q⟩:=q1;obtain⟨ur,rfl,rr⟩:=Xc r1;cases rr;obtain⟨cc,hcc⟩:=I1.ok.has nm (.inl hk);show wpAny _ _ (evalAll ((do let v ← eval (.Lambda (Yn pv p) (Xb pv nm p1 p2 p3) (Ua pv nm) pos) X.env;standAt cpos;pure v) :: [])) _ _ s1;refine wpAny_evalAll_cons (Zc (Zhm I1 O hT (Ku hcc) fun f c' pm ctv H2 h' tk I2 sm t2 hrec hf=>Zc (wpAny_standAt (wpAny_pure (wpAny_evalAll_nil ?_)))));have nP:∀ b o,H1 b=some o→(∀ ps,o ≠ .tbl ps)→H2 b=some o:=fun b o e d=>sm b o (fun z=>by
  rcases hT with e2 | ⟨_,_,e2,_⟩
  ·rw[z,e2] at e;exact d _ (Zn e).symm
  ·rw[z,e2] at e;exact d _ (Zn e).symm) e
 have hS2:SqL X.K H2 nl (ns.map V.int):=by
  rcases hS with(e | ⟨o,e⟩) | e
  ·exact .inl (.inl (nP _ _ e (fun _ z=>nomatch z)))
  ·exact .inl (.inr ⟨o,nP _ _ e (fun _ z=>nomatch z)⟩)
  ·exact .inr e
 have hcell:h'.IsCell cc (some (.ref nl)):=by
  obtain⟨m,hm2,hl⟩:=I2.loc;obtain⟨u,ru,lk⟩:=hl i nm (.ref nl) hN hs hv;cases ru;rcases lk with⟨k1,_⟩ | ⟨_,c2,e2,hc2⟩
  ·rw[hk] at k1;cases k1
  ·rw[hcc] at e2
   cases e2;exact hc2
 exact Ag I2 hr hrec hf hcell hS2 hn (nP _ _ hrg (fun _ z=>nomatch z)) h64 (fun u=>hbind _ _ _ _ _ u) hne hne' hd1 hd2 hcd1 fun l zs hp hl=>q H2 l zs sm t2 hp hl
end
end L2
namespace L2
open PySem PySem.Spec PyProof.Rows
def Kz(mg:Str→Option Value)(h:Heap):Prop:=∃ bm ob,mg "__builtins__" = some (.ref bm)∧bm≠builtinsNs∧h.get? bm=some ob∧ob.cls = .type "module"∧ob.dict=some builtinsNs∧ob.data = .plain
structure BaseT(mg:Str→Option Value)(cts:List (Addr×Addr))(base:Heap):Prop where
 bm:Kz mg base
 hd:∀ q∈cts,W.CodeHd base q.1 q.2
theorem Zdx{P:Program}{w:World}{K:W.Frag}{mg mb:Str→Option Value}{CX:CXT}{k:Nat}{fa a:Addr}{fd:FuncData}{x:Str}{sp:Sp}{s₁:Shared}{vs:List Value}{ns:List Int}{cts:List (Addr×Addr)}
    (KX:K.In s₁.heap) (hns:s₁.heap.Ns mainGlobals mg) (hb:s₁.heap.Ns builtinsNs mb) (hbb:∀ x:Str,x≠"__name__"→mb x=bootBuiltins x) (hlim:s₁.heap.NoLimit) (hg:s₁.gens = #[]) (hbm:Kz mg s₁.heap)
    (ha:s₁.heap.get? a=some { cls:=.type "list",data:=.seq vs.toArray }) (hi:IntsAre vs ns) (hl:ns.length≤sizeLine) (hr:Room k callerA)
    (hT:∀ q∈cts,W.CodeHd s₁.heap q.1 q.2∧s₁.heap.get? q.2=some (W.tabObj #[])∧K.lookup q.2=none)
    (F:∀ base:Heap,K.In base→base.Ns mainGlobals mg→BaseT mg cts base→FnOk P w K mg base CX k fa fd [x] sp) (hbind:∀(s:Shared) (u:Value),BindsTo s fd ⟨[u],[]⟩ [(x,u)])
    (hsp:∀ H:Hp,(∀ q∈cts,H q.2=some (.tbl #[]))→SqL K H a (ns.map V.int)→sp [.ref a] H (fun v _=>v = .bl true) fun _ _ _=>False)
    (hCX:∀ H e s',CX [] H s₁ (fun _ _ _=>False) e s'→False) :
    codeAny (model P w) callerA (.call (.ref fa) ⟨[.ref a],[]⟩) (fun r s'=>r = .ok (.ret (.bool true))∧OldK s₁.heap s'.heap∧s'.os=s₁.os∧AllBare s'.gens) s₁:=by
  have rv:=Nd hi;have lenV:=hi.length;have naT:∀ q∈cts,q.2≠a:=fun q hq z=>by
    have e:=(hT q hq).2.1;rw[z,ha] at e;cases e
  have core:∀ H:Hp,(∀ q∈cts,H q.2=some (.tbl #[]))→SqL K H a (ns.map V.int)→HOk P w H s₁.heap→(∀ b,H b≠none→b=a∨∃ q∈cts,b=q.2)→(H a≠none→K.lookup a=none∧∃ o xs,H a=some (.frz o (.lst xs))) →
      codeAny (model P w) callerA (.call (.ref fa) ⟨[.ref a],[]⟩) (fun r s'=>r = .ok (.ret (.bool true))∧OldK s₁.heap s'.heap∧s'.os=s₁.os∧AllBare s'.gens) s₁:=by
    intro H hO hS hok hA hK;have base_of:∀{b:Addr} {o:Obj},s₁.heap.get? b=some o→H b=none→(Md s₁.heap H).get? b=some o:=fun e n=>Zhs e n;have free:∀{b:Addr} {o:Obj},s₁.heap.get? b=some o→o.cls ≠ .type "list"→o.cls ≠ .none→H b=none:=fun {b o} e d1 d2=>by
      cases q:H b with
      | none=>rfl
      | some u=>
        rcases hA b (by rw[q];simp) with z | ⟨p,hp,z⟩
        · subst z
          rw[ha] at e;cases e;exact absurd rfl d1
        · have e2:=(hT p hp).2.1
          rw[← z,e] at e2;cases e2;exact absurd rfl d2
    have noA:∀{b:Addr} {o:Obj} {es:Array DictEntry} {ep:Nat},s₁.heap.get? b=some o→o.data = .dict es ep→H b=none:=fun {b o es ep} e d=>by
      cases q:H b with
      | none=>rfl
      | some u=>
        rcases hA b (by rw[q];simp) with z | ⟨p,hp,z⟩
        · subst z
          rw[ha] at e;cases e;have d':Data.seq vs.toArray _=Data.dict es ep:=d;cases d'
        · have e2:=(hT p hp).2.1
          rw[← z,e] at e2;cases e2;have d':Data.fields _=Data.dict es ep:=d;cases d'
    have nsK:∀{b:Addr} {m:Str→Option Value},s₁.heap.Ns b m→(Md s₁.heap H).Ns b m:=fun {b m} ⟨o,es,ep,e,d,r⟩=>⟨o,es,ep,base_of e (noA e d),d,r⟩;have hKb:K.In (Md s₁.heap H):=fun b o e=>base_of (KX b o e) (by
      cases q:H b with
      | none=>rfl
      | some u=>
        rcases hA b (by rw[q];simp) with z | ⟨p,hp,z⟩
        · subst z
          rw[(hK (by rw[q];simp)).1] at e;cases e
        · rw[z,(hT p hp).2.2] at e;cases e)
    have hBT:BaseT mg cts (Md s₁.heap H):=by
      refine⟨?_,fun p hp=>?_⟩
      · obtain⟨bm,ob,b1,b2,b3,b4,b5,b6⟩:=hbm
        exact⟨bm,ob,b1,b2,base_of b3 (free b3 (by rw[b4];decide) (by rw[b4];nofun)),b4,b5,b6⟩
      · obtain⟨o,vs2,file,tf,flags,tg,inF,text,tt,e1,e2,r⟩:=(hT p hp).1
        exact⟨o,vs2,file,tf,flags,tg,inF,text,tt,base_of e1 (free e1 (by rw[e2];decide) (by rw[e2];nofun)),e2,r⟩
    have hM:Mod K mg (Md s₁.heap H):=⟨hKb,nsK hns,⟨mb,nsK hb,hbb⟩,let ⟨mc,h1,h2⟩:=hlim;⟨mc,nsK h1,h2⟩⟩;have e0:Env0 P w K mg (Md s₁.heap H) callerA [] s₁ H:=⟨rfl,hM,fun b o e=>Zj9 e,Nat.le_of_eq (Zd4 _ _),trivial,fun b hb=>absurd (show b∈([]:List Addr) from hb) (by simp),hok,.of_eq hg⟩;refine codeAny_mono ((F _ hKb (nsK hns) hBT).run callerA [] s₁ H ⟨[.ref a],[]⟩ [.ref a] [.ref a] _ _ hr e0 (hbind s₁ (.ref a)) (.cons rfl .nil) (hsp H hO hS)) fun r s' h=>?_;cases r with
    | error e=>exact(hCX H e s' h).elim
    | ok fl=>
      cases fl with
      | next=>exact False.elim h
      | brk=>exact False.elim h
      | cont=>exact False.elim h
      | ret u=>
        obtain⟨v,H',os,bare,un,hok',r',q⟩:=h;have q':v = .bl true:=q;subst q';obtain rfl:u=Value.bool true:=r';have all:∀ b o,s₁.heap.get? b=some o→s'.heap.get? b=some o∨(∃ p∈cts,b=p.2):=fun b o e=>by
          cases q:H b with
          | none=>exact .inl (un.keep b o e q (by intro z;exact absurd (show b∈([]:List Addr) from z) (by simp)) (by simp))
          | some u=>
            rcases hA b (by rw[q];simp) with z | z
            · subst z
              obtain⟨ob,xs,z⟩:=(hK (by rw[q];simp)).2;have z2:=un.frzs b ob _ z;obtain⟨e1,_⟩:=hok b _ z;obtain⟨e2,_⟩:=hok' b _ z2;rw[e] at e1;cases e1;exact .inl e2
            · exact .inr z
        have tabs:∀ p∈cts,∃ more,s'.heap.get? p.2=some (W.tabObj (#[]++more)):=fun p hp=>by
          obtain⟨more,e⟩:=un.tbls p.2 _ (hO p hp);exact⟨more,hok' p.2 _ e⟩
        refine⟨rfl,⟨fun b o e=>?_,fun b o e=>?_⟩,os,bare⟩
        · rcases all b o e with z | ⟨p,hp,rfl⟩
          · exact .inl z
          · obtain⟨more,e2⟩:=tabs p hp
            obtain⟨h1,h2,_⟩:=hT p hp;rw[e] at h2;cases h2;exact .inr (.inl ⟨(h1.tab e).isCodeTable,rfl,#[],more,rfl,e2⟩)
        · rcases all b o e with z | ⟨p,hp,rfl⟩
          · exact⟨o,z⟩
          · obtain⟨more,e2⟩:=tabs p hp
            exact⟨_,e2⟩
  have dec:∀ b,(∃ q∈cts,b=q.2)∨¬ ∃ q∈cts,b=q.2:=fun b=>Classical.em _;cases hk:K.lookup a with
  | some o=>
    have e:=KX a o hk;rw[ha] at e;cases e
    classical
    refine core (fun b=>if(∃ q∈cts,b=q.2) then some (.tbl #[]) else none) (fun q hq=>if_pos ⟨q,hq,rfl⟩) (.inr ⟨_,vs.toArray,_,hk,rfl,rfl,rfl,by rw[List.size_toArray,lenV];exact hl,by simpa using rv⟩) (fun b u z=>?_) (fun b z=>?_) fun z=>?_
    · by_cases hb:∃ q∈cts,b=q.2
      · have z':=(if_pos hb).symm.trans z
        cases z';obtain⟨q,hq,rfl⟩:=hb;exact(hT q hq).2.1
      · have z':=(if_neg hb).symm.trans z
        cases z'
    · by_cases hb:∃ q∈cts,b=q.2
      · exact .inr hb
      · exact absurd (if_neg hb) z
    · by_cases hb:∃ q∈cts,a=q.2
      · obtain⟨q,hq,e⟩:=hb
        exact absurd e.symm (naT q hq)
      · exact absurd (if_neg hb) z
  | none=>
    classical
    refine core (fun b=>if b=a then some (.frz { cls:=.type "list",data:=.seq vs.toArray } (.lst (ns.map V.int))) else if(∃ q∈cts,b=q.2) then some (.tbl #[]) else none) (fun q hq=>?_) (.inl (.inr ⟨{ cls:=.type "list",data:=.seq vs.toArray },if_pos rfl⟩)) (fun b u z=>?_) (fun b z=>?_) fun _=>⟨hk,_,_,if_pos rfl⟩
    · show(if q.2=a then _ else _)=_
      rw[if_neg (naT q hq),if_pos ⟨q,hq,rfl⟩]
    · by_cases hb:b=a
      · have z':=(if_pos hb).symm.trans z
        cases z';subst hb;exact⟨ha,by rw[Zi];exact hl,vs,_,rv,ha⟩
      · have z1:=(if_neg hb).symm.trans z
        by_cases hb2:∃ q∈cts,b=q.2
        · have z':=(if_pos hb2).symm.trans z1
          cases z';obtain⟨q,hq,rfl⟩:=hb2;exact(hT q hq).2.1
        · have z':=(if_neg hb2).symm.trans z1
          cases z'
    · by_cases hb:b=a
      · exact .inl hb
      · by_cases hb2:∃ q∈cts,b=q.2
        · exact .inr hb2
        · exact absurd ((if_neg hb).trans (if_neg hb2)) z
theorem walk_ofT{l:W.OpenLaw}{n k:Nat}{q:Program}{loose:List Str}{XP:(Str→Option Value)→Heap→Prop}{YP:World→Heap→Prop}{d:DefRec}{K:Params→W.Frag}{CX:World→CXT}{sp:World→List (Addr×Addr)→Sp}{x:Str}
  (hn:l.most=some n) (hn2:n≤sizeLine) (hdf:d.params.defaults=[]) (hr:Room k callerA)
  (hY:∀(w:World) (h:Heap),YP w h→(K w.params).In h)
  (F:∀(w:World) (mg mb:Str→Option Value) (mean:ExcName→Option Value) (fa:Addr) (h:Heap),YP w h→(K w.params).In h→PyProof.Rows.Top q (W.looseW q loose) mean mg mb h→mg d.name=some (.ref fa) →
   ∃(fd:FuncData) (cts:List (Addr×Addr)),(∀ p∈cts,W.CodeHd h p.1 p.2∧h.get? p.2=some (W.tabObj #[])∧(K w.params).lookup p.2=none)∧(∀(s:Shared) (u:Value),BindsTo s fd ⟨[u],[]⟩ [(x,u)]) ∧
    (∀ base:Heap,(K w.params).In base→base.Ns mainGlobals mg→BaseT mg cts base→FnOk l.prog w (K w.params) mg base (CX w) k fa fd [x] (sp w cts)) ∧
    ∀(H:Hp) (a:Addr) (ns:List Int),ns.length≤n→(∀ p∈cts,H p.2=some (.tbl #[]))→SqL (K w.params) H a (ns.map V.int)→sp w cts [.ref a] H (fun v _=>v = .bl true) fun _ _ _=>False)
  (hCX:∀(w:World) (H:Hp) (s:Shared) (e:Value) (s':Shared),CX w [] H s (fun _ _ _=>False) e s'→False) :
  W.WalkO q loose XP YP l.row.toRowW d [] (fun f vs=>PySem.call f vs):=by
 refine Att.attach_call hn hdf fun w s₀ s₁ mg mb fa o pm cd doc a vs ns G Y ho hd hcd hmg hobj hints hlen hg=>?_;have KX:=hY w _ Y;obtain⟨fd,cts,hT,hb,hF,hsp⟩:=F w mg mb _ fa _ Y KX G.T hmg;exact Zdx KX G.T.g G.T.b G.T.builtins G.T.nolimit hg G.T.bmain hobj hints (Nat.le_trans hlen hn2) hr hT hF hb (fun H hO hS=>hsp H a ns hlen hO hS) fun H e s'=>hCX w H s₁ e s'
section
variable{X:Cx}
theorem K9{prog:Program}{w:World}{A:Around}{bs:List Bool}{its:List Value}(ri:Vals (bs.map V.bl) its):TruthOf prog w A (fun i v=>its.toArray[i]? = some v) (fun i=>bs.getD i false):=by
 intro i v s Q E hv hQ;have hv':its[i]? = some v:=by simpa using hv
 have hi:i < bs.length:=by
  have h1:=(Zt.mp hv').1;have h2:=ri.length;rw[Zi] at h2;omega
 obtain⟨u,eu,ru⟩:=ri.get (i:=i) (x:=.bl (bs[i])) (by rw[Zm,Zb hi];rfl);rw[hv'] at eu;cases eu;cases ru;have e:bs.getD i false=bs[i]:=by rw[Zk,Zb hi];rfl
 have hQ':Q (bs.getD i false) s:=hQ;rw[e] at hQ';exact wpAny_truthy_bool hQ'
theorem Zem(hc:X.calm=true):U8 X (.builtin "any") (fun xs H Q=>∃(a:Addr) (bs:List Bool),xs=[.ref a]∧SqL X.K H a (bs.map V.bl)∧Q (.bl (bs.any id)) H):=by
 intro pins s σ H xs us Q I r h;obtain⟨a,bs,rfl,hS,q⟩:=h;obtain⟨u,rfl,ru⟩:=Xc r;cases ru;obtain⟨its,ri,pl,hz⟩:=I.list hS;have hl:s.heap.IsList a its.toArray:=Qu pl;have ha:a < s.heap.objs.size:=by obtain⟨_,e,_⟩:=hl;exact Zs e
 have hh:X.A.in1.handled=none:=I.ok.hd hc;refine call_any_walk (wpAny_pyIter_list hl ?_);refine⟨s.heap.objs.size,[s.heap.objs.size,a],[s.heap.objs.size],its.toArray.size,(fun i v=>its.toArray[i]? = some v),(fun i h=>h.IsListIter s.heap.objs.size a i∧h.IsList a its.toArray),(fun i=>bs.getD i false),rfl,Walks.list hh s.heap.objs.size a (Nat.ne_of_lt ha) its.toArray,
  ⟨⟨_,Heap.get?_push_size _ rfl,rfl,rfl⟩,hl.push _⟩,K9 ri,fun h' tk hk=>?_⟩
 have e:(List.range its.toArray.size).any (fun i=>bs.getD i false)=bs.any id:=by
  have h2:=ri.length;rw[Zi] at h2;have h3:its.toArray.size=bs.length:=by simp [h2]
  rw[h3];have e1:(List.range bs.length).map (fun i=>bs.getD i false)=bs:=by
   apply List.ext_getElem
   ·simp
   ·intro i h1 h2
    simp;rw[Zb (by simpa using h2)];rfl
  conv=>rhs;rw[← e1]
  rw[List.any_map];rfl
 rw[e];refine⟨.bl _,H,I.kept (t':=tk) fun b o eb=>hk b o ?_ (Ze _ eb),rfl,q⟩;intro hm;have:b=s.heap.objs.size:=by simpa using hm
 subst this;exact absurd (Zs eb) (Nat.lt_irrefl _)
theorem B0:∀{ns:List Int} {us:List Value},Vals (ns.map V.int) us→IntsAre us ns
 | [],[],_=>.nil
 | n :: ns,u :: us,h=>by
  cases h with
  | cons r rr=>
   obtain⟨t,rfl⟩:=r;exact .cons n t (B0 rr)
theorem Oy:U8 X (.builtin "sorted") (fun xs H Q=>∃(a:Addr) (ns:List Int),xs=[.ref a]∧SqL X.K H a (ns.map V.int)∧ns.length < 64∧∀(l:Addr) (ms:List Int),H l=none→ms.Perm ns→ms.Pairwise (·≤·)→Q (.ref l) (upd H l (.lst (ms.map V.int)))):=by
 intro pins s σ H xs us Q I r h;obtain⟨a,ns,rfl,hS,h64,q⟩:=h;obtain⟨u,rfl,ru⟩:=Xc r;cases ru;obtain⟨its,ri,pl,hz⟩:=I.list hS;have hl:s.heap.IsList a its.toArray:=Qu pl;have hI:=B0 ri;refine sorted_ints hl hI (by have:=hI.length;omega) fun out ms a1 a2 a3=>?_;obtain⟨e,he⟩:=sortedAll_at s.heap its out;refine⟨.ref (s.heap.objs.size+1),_,I.laid (t':=s.toks) (a:=s.heap.objs.size+1) (o:=.lst (ms.map V.int)) (fun b u e=>sortedAll_old e) (Nat.le_succ _) ⟨by rw[Zi,a2.length_eq,sizeLine_eq];omega,out.toList,e,Nd a1,by simpa using he⟩,rfl,q _ ms (I.hok.fresh (Nat.le_succ _)) a2 a3⟩
theorem M2:U8 X (.type "range") (fun xs H Q=>∃ n:Nat,xs=[.int (n:Nat)]∧n < 1000∧∀ r,H r=none→Q (.ref r) (upd H r (.rng 0 (n:Nat)))):=by
 intro pins s σ H xs us Q I r h;obtain⟨n,rfl,hn,q⟩:=h;obtain⟨u,rfl,t,rfl⟩:=Xc r;refine call_range_1 ?_;exact⟨.ref s.heap.objs.size,_,I.laid (a:=s.heap.objs.size) (o:=.rng 0 (n:Nat)) (fun b u e=>Ze _ e) (Nat.le_refl _) ⟨_,_,_,Heap.get?_push_size _ rfl⟩,rfl,q _ (I.hok.fresh (Nat.le_refl _))⟩
def Zoj:R2:=fun x y H Q=>∃ a b xs ys,x = .ref a∧y = .ref b∧H a=some (.tup xs)∧H b=some (.tup ys)∧xs.length+ys.length≤sizeLine∧∀ p H',Same H H'→H' p=some (.tup (xs++ys))→Q (.ref p) H'
theorem Zjv:No X (binaryOp .Add) Zoj:=by
 intro pins s σ H x y v u Q I rx ry h;obtain⟨a,b,xs,ys,rfl,rfl,ha,hb,hz,q⟩:=h;by_cases hx:xs=[]
 ·subst hx
  cases rx;cases ry;obtain⟨its,r1,p1,_⟩:=I.tuple (.inl (.inl ha));obtain⟨its2,r2,p2,_⟩:=I.tuple (.inl (.inl hb));have e1:its=[]:=r1.nil_iff.mpr rfl;subst e1;obtain⟨⟨cls,dd,data,sl⟩,ho,hc,n,hd⟩:=id p1;obtain⟨⟨cls2,dd2,data2,sl2⟩,ho2,hc2,n2,hd2⟩:=id p2;simp only at hc hd hc2 hd2;subst hc hd hc2 hd2;exact concat_meets ⟨_,ho,rfl⟩ ⟨_,ho2,rfl⟩ noFill_tuple_add seq_tuple_add PySem.F.slot_tuple_add PySem.F.entry_tuple_add (PySem.F.args_tuple_add_2 _ _)
   (tuple_addW0 a b _ _ n n2 dd dd2 sl sl2 rfl) ⟨ho,ho2,⟨.ref b,H,I,rfl,q b H (fun _ _ e=>e) hb⟩⟩
 ·exact Zju pins s σ H _ _ v u Q I rx ry ⟨a,b,xs,ys,rfl,rfl,.inl (.inl ha),.inl (.inl hb),hx,hz,fun e=>by subst e;exact q a H (fun _ _ e=>e) (by rw[Yb];exact ha),
   fun _ p hp=>q p _ (fun c o e=>by rw[Zu (Jb e hp)];exact e) Zj⟩
end
end L2
namespace My
open PySem L2
abbrev Zfw:Stmt:=top 6
abbrev S8:Stmt:=top 29
abbrev D7:Stmt:=top 30
abbrev Bk:Stmt:=Yo (top 61) 1
abbrev D8:Stmt:=top 32
abbrev Sx:Stmt:=top 33
abbrev Zfs:Stmt:=top 34
abbrev Er:Stmt:=top 35
abbrev D2:Stmt:=top 36
abbrev Sz:Stmt:=top 37
abbrev Zbo:Stmt:=top 38
abbrev Oc:Stmt:=top 39
theorem Zbx:∀ s≤4,∀ h≤8,Qx (Yj s h) 0=Gy s h:=by decide +kernel
theorem Zjr:∀ s≤4,∀ h≤8,∀ c∈Yj s h,c < 32:=by decide +kernel
theorem Gx:∀ s≤4,∀ h≤8,(Yj s h).length≤32:=by decide +kernel
section
variable{P:Program}{w:World}{K:W.Frag}{mg:Str→Option Value}{base:Heap}{f g:Addr}{fd gd:FuncData}
def Dr(K:W.Frag):Sp:=fun vs H Q _=>∃ h:Nat,vs=[.int h]∧h < 4294967296∧Q (.int (Xt 32 h)) H
theorem scMany:FnScope ["hand","number"] ["hand"] (Zp Zfw):=⟨rfl,rfl,rfl,by decide +kernel,rfl,by decide +kernel,by decide +kernel⟩
theorem Zj1{k:Nat}(F:Fun K "many" "many" Zfw f fd):FnOk P w K mg base Y4 (k+1) f fd ["hand"] (Dr K):=by
 refine F.ok scMany (fun vs H Q E h=>?_) (fun cdv A outer s H vs Q E hr h=>?_)
 ·obtain⟨h,rfl,_⟩:=h
  rfl
 obtain⟨h,rfl,h32,q⟩:=h;refine⟨_,Zg (Z4 (i:=1) scMany.nd rfl (Or.inl rfl) Zl)
  (Zg (Ai PassesOwn.never (Z7 Qg (pv 0) Zl (Jd _)) (Zg (Z4 (i:=0) scMany.nd rfl (Or.inl rfl) (Z0 On (pv 0) (Z0 Zgk (pv 0) Zl)))
   (Zq (Z4 (i:=1) scMany.nd rfl (Or.inl rfl) (Z0 Yq (pv 1) Zl)))))
  (Zq (Z6 (pv 1)))),?_⟩
 refine O4 (fun σ H'=>H'=H∧∃ a n:Nat,σ=[some (.int (a:Nat)),some (.int (n:Nat))]∧a < 4294967296∧n+Xt 32 a=Xt 32 h) (fun σ _=>match σ with | some (.int a) :: _=>a.toNat | _=>0)
  ⟨rfl,h,0,rfl,h32,Nat.zero_add _⟩ (fun σ H1 z=>?_) (fun σ H1 R R' m ⟨v,e,i,j,e1,e2,b,e3,r⟩=>⟨v,e,i,j,e1,e2,b,e3,m _ _ r⟩)
 obtain⟨rfl,a,n,rfl,a32,inv⟩:=z;refine⟨_,rfl,_,_,rfl,rfl,_,rfl,Bz (fun c=>?_) fun c=>?_⟩
 ·have c':(0:Int) < (a:Nat):=Jx c
  refine⟨_,rfl,_,rfl,_,_,rfl,rfl,_,_,rfl,rfl,?_⟩;refine⟨_,rfl,_,_,rfl,rfl,?_⟩;have e:((a:Nat):Int) - 1=((a - 1:Nat):Int):=by omega
  have d:=Ap 32 a (by omega) (by rw[show(2:Nat) ^ 32=4294967296 from rfl];exact a32);have l:a &&& (a - 1)≤a - 1:=Nat.and_le_right;refine⟨⟨rfl,a &&& (a - 1),n+1,?_,by omega,by omega⟩,?_⟩
  ·show [some (V.int (Builtin.bitAnd (a:Nat) ((a:Nat) - 1))),some (V.int ((n:Nat)+1))]=_
   rw[e,PyProof.Rows.bitAnd_pp (Int.natCast_nonneg _) (Int.natCast_nonneg _)];rfl
  ·show(Builtin.bitAnd (a:Nat) ((a:Nat) - 1)).toNat < ((a:Nat):Int).toNat
   rw[e,PyProof.Rows.bitAnd_pp (Int.natCast_nonneg _) (Int.natCast_nonneg _)];show((a &&& (a - 1):Nat):Int).toNat < _;omega
 ·have c':¬ (0:Int) < (a:Nat):=of_decide_eq_false (Bool.eq_false_iff.mpr c)
  have z:a=0:=by omega
  subst z;rw[Zgd] at inv;refine⟨_,rfl,?_⟩;have e:n=Xt 32 h:=by omega
  rw[e];exact q
def Zbl(K:W.Frag):Sp:=fun vs H Q _=>∃(a:Addr) (hs:List Nat),vs=[.ref a]∧SqL K H a (vN hs)∧Q (.bl (X1 hs 0)) H
theorem scApart:FnScope ["hands","seen","hand"] ["hands"] (Zp S8):=⟨rfl,rfl,rfl,by decide +kernel,rfl,by decide +kernel,by decide +kernel⟩
theorem Zg5{k:Nat}(F:Fun K "is_apart" "is_apart" S8 f fd):FnOk P w K mg base Y4 (k+1) f fd ["hands"] (Zbl K):=by
 refine F.ok scApart (fun vs H Q E h=>?_) (fun cdv A outer s H vs Q E hr h=>?_)
 ·obtain⟨a,hs,rfl,_⟩:=h
  rfl
 obtain⟨a,hs,rfl,hS,q⟩:=h;refine⟨_,Zg (Z4 (i:=1) scApart.nd rfl (Or.inl rfl) Zl)
  (Zg (X0 PassesOwn.never rfl (Uh (pv 0)) (Jr (i:=2) scApart.nd rfl (Or.inl rfl))
   (Zg (Ju (Z7 Qf (Z0 On (pv 1) (pv 2)) Zl (Jd _)) (Zq (Z6 Qe)) Jg)
   (Zq (Z4 (i:=1) scApart.nd rfl (Or.inl rfl) (Z0 Zby (pv 1) (pv 2))))))
  (Zq (Z6 Qe))),?_⟩
 refine⟨_,rfl,a,rfl,⟨_,hS⟩,Ti (xs:=vN hs) (fun i σ H2=>H2=H∧∃(sn:Nat) (x:Option V),X1 hs 0=X1 (hs.drop i) sn∧σ=[some (.ref a),some (.int ((sn:Nat):Int)),x]) ⟨rfl,0,none,rfl,rfl⟩ (fun i σ H2 _ z=>z.1 ▸ hS) (fun i x σ H2 hx z=>?_) (fun σ H2 z=>?_)⟩
 ·obtain⟨rfl,sn,y,ha,rfl⟩:=z
  obtain⟨h,hi,rfl⟩:=En hx;have il:i < hs.length:=(Zt.mp hi).1;have ed:hs.drop i=h :: hs.drop (i+1):=by
   rw[List.drop_eq_getElem_cons il];rw[Zb il] at hi;rw[Zn hi]
  have eA:Builtin.bitAnd ((sn:Nat):Int) ((h:Nat):Int)=((sn &&& h:Nat):Int):=by
   rw[PyProof.Rows.bitAnd_pp (by omega) (by omega),Zv,Zv]
  have eO:Builtin.bitOr ((sn:Nat):Int) ((h:Nat):Int)=((sn ||| h:Nat):Int):=by
   rw[PyProof.Rows.bitOr_and,PyProof.Rows.bitAnd_pp (by omega) (by omega),Zv,Zv];have:=PyProof.Rows.nat_or_add_and sn h;omega
  have e0:(!decide (V.int (Builtin.bitAnd ((sn:Nat):Int) ((h:Nat):Int))=V.int 0)) = !decide (sn &&& h=0):=by
   rw[eA];exact congrArg (fun b=>!b) (Vx (n:=0) rfl)
  rw[ed] at ha;refine⟨_,rfl,_,rfl,_,_,rfl,rfl,rfl,_,rfl,Xu e0 ?_⟩;by_cases c:sn &&& h=0
  ·rw[Zf c]
   refine J9 ⟨_,rfl,_,rfl,_,_,rfl,rfl,rfl,sn ||| h,some (.int ((h:Nat):Int)),?_,?_⟩
   ·rw[ha]
    show(if sn &&& h=0 then X1 (hs.drop (i+1)) (sn ||| h) else false)=_;rw[if_pos c]
   ·show [some (V.ref a),some (V.int (Builtin.bitOr ((sn:Nat):Int) ((h:Nat):Int))),some (V.int ((h:Nat):Int))]=_
    rw[eO]
  ·rw[Zd c]
   have:X1 hs 0=false:=by
    rw[ha];show(if sn &&& h=0 then X1 (hs.drop (i+1)) (sn ||| h) else false)=_;rw[if_neg c]
   rw[this] at q;exact Ub q
 ·obtain⟨rfl,sn,y,ha,rfl⟩:=z
  rw[Jq,List.drop_length] at ha;have:X1 hs 0=true:=ha;rw[this] at q;exact q
def Zbg(K:W.Frag):Sp:=fun vs H Q _=>∃(a:Addr) (hs:List Nat),vs=[.ref a]∧H a=some (.lst (vN hs))∧(∀ h∈hs,h < 4294967296)∧0 < hs.length∧hs.length≤100∧∀ H',Same H H'→Q (.bl (Zhk hs)) H'
theorem Zi6:FnScope ["hands"] ["hands"] (Zp D7):=⟨rfl,rfl,rfl,by decide +kernel,rfl,by decide +kernel,by decide +kernel⟩
def lvV(m:Nat)(x:V):Bool:=match x with | .int i=>decide (Xt 32 i.toNat=m) | _=>false
theorem Zg0{k:Nat}{f1:Addr}{d1:FuncData}(F:Fun K "is_level" "is_level" D7 f fd)(LM:Lib P w K mg base k "many" ["hand"] (Dr K) f1 d1)(mA:mg "all" = none):FnOk P w K mg base Y4 (k+1) f fd ["hands"] (Zbg K):=by
 refine F.ok Zi6 (fun vs H Q E h=>?_) (fun cdv A outer s H vs Q E hr h=>?_)
 ·obtain⟨a,hs,rfl,_⟩:=h
  rfl
 obtain⟨a,hs,rfl,hL,h32,h0,h100,q⟩:=h;refine⟨_,Zq (Z6 (Jf (M5 rfl) rfl mA PyProof.Rows.boot_all (Za (Ui ["hand","hands"] [none,some 0] rfl (Blk.by (sc:=Zp D7) (N0:=["hands"]) rfl rfl (by decide +kernel)) (Uh (pv 0)) (fun C s₀ H₀ ex=>Jr (i:=0) (show(["hand","hands"]:List Str).Nodup by decide +kernel) rfl (Or.inl rfl)) (fun C s₀ H₀ ex=>U4)
   (fun C s₀ H₀ ex=>Xa Uc (Z9 LM.ok hr rfl LM.mg LM.kp LM.bd .nil Jh (Za (pv 0) Zh)) (Z9 LM.ok hr rfl LM.mg LM.kp LM.bd .nil Jh (Za (Jn (show IxR _ (Zf3 K) from Yd) (pv 1) Zl (fun _ _=>rfl)) Zh)) (Jd _))) Zh))),?_⟩
 have hg:hs[0]? = some (hs.getD 0 0):=by rw[Zk,Zb h0];rfl
 have lt0:hs.getD 0 0 < 4294967296:=h32 _ (Zr hg);refine⟨_,rfl,a,rfl,⟨_,SqL.of hL⟩,Ue (K:=K) (xs:=vN hs) (fun _=>true) (fun x=>.bl (lvV (Xt 32 (hs.getD 0 0)) x)) (SqL.of hL) (Jl _ (by rw[Jq];omega)) (fun x H3 hx sm R hR=>hR H3 (Same.refl H3)) (fun x H3 hx hp sm R hR=>?_) (fun l H1 sm hl hL1=>?_)⟩
 ·obtain⟨h,hh,rfl⟩:=Z2.mp hx
  refine⟨_,rfl,h,rfl,h32 h hh,_,rfl,a,_,0,.int ((hs.getD 0 0:Nat):Int),rfl,rfl,SqL.of (sm _ _ hL),Um (j:=0) (by unfold vN;rw[Zm,hg];rfl),hs.getD 0 0,rfl,lt0,rfl,?_⟩;have z:=hR H3 (Same.refl H3);have e:lvV (Xt 32 (hs.getD 0 0)) (.int ((h:Nat):Int))=decide (Xt 32 h=Xt 32 (hs.getD 0 0)):=by
   show decide (Xt 32 (((h:Nat):Int).toNat)=_)=_;rw[Zv]
  rw[e] at z;have e2:decide (V.int ((Xt 32 h:Nat):Int)=V.int ((Xt 32 (hs.getD 0 0):Nat):Int))=decide (Xt 32 h=Xt 32 (hs.getD 0 0)):=Zb0;rw[← e2] at z;exact z
 ·refine⟨l,(hs.map fun h=>decide (Xt 32 h=Xt 32 (hs.getD 0 0))),rfl,?_,?_⟩
  ·rw[List.filter_eq_self.mpr fun _ _=>rfl] at hL1
   refine SqL.of ?_;rw[hL1];unfold vN;rw[Z8,Z8]
   congr 2
  ·have z:=q H1 sm
   rw[List.all_map];exact z
def Zbj(CT CG:Addr):Sp:=fun vs H Q _=>∃(gm x:Addr) (tv:V) (f:Fx),vs=[.ref gm]∧f.Ok∧IsGam CG x tv H gm∧IsTab CT f H x∧∀ H',Same H H'→Q (.int (Gy f.s f.h:Nat)) H'
theorem scGPack:FnScope ["self","cards","suit"] ["self"] (Zp Bk):=⟨rfl,rfl,rfl,by decide +kernel,rfl,by decide +kernel,by decide +kernel⟩
theorem Zg2{k:Nat}{CT CG f1:Addr}{d1:FuncData}{t1:Tok}(F:Fun K "pack" "Game.pack" Bk f fd)(C:TabC K mg CT)(CGm:GamC K mg CG)(LH:Lib P w K mg base k "hand_of" ["cards"] (Bg K) f1 d1)(mH:mg "HEIGHTS" = some (.int 8 t1))(mr:mg "range" = none) :
  FnOk P w K mg base Y4 (k+1) f fd ["self"] (Zbj CT CG):=by
 refine F.ok scGPack (fun vs H Q E h=>?_) (fun cdv A outer s H vs Q E hr h=>?_)
 ·obtain⟨gm,x,tv,fx,rfl,_⟩:=h
  rfl
 obtain⟨gm,x,tv,fx,rfl,ok,hg,ht,q⟩:=h;refine⟨_,Zg (Z4 (i:=1) scGPack.nd rfl (Or.inl rfl) (U0 Zh))
  (Zg (X0 PassesOwn.never rfl (Uy rfl mr (Za (Jy (Jy (pv 0) rfl) rfl) Zh)) (Jr (i:=2) scGPack.nd rfl (Or.inr rfl))
   (Zq (Xn (U5 Ja PySem.F.slot_list_extend PySem.F.type_list_extend Zdt (pv 1) (Za (Ui ["height","suit"] [none,some 2] rfl (Blk.by (sc:=Zp Bk) (N0:=["self","cards","suit"]) rfl rfl (by decide +kernel)) (Uy rfl mr (Za (Jy (Jy (pv 0) rfl) rfl) Zh)) (fun C s₀ H₀ ex=>Jr (i:=0) (show(["height","suit"]:List Str).Nodup by decide +kernel) rfl (Or.inl rfl))
    (fun C s₀ H₀ ex=>U4) (fun C s₀ H₀ ex=>Z0 Yq (Z0 Xd (J0 (v:=.int 8) rfl mH ⟨_,rfl⟩) (pv 1)) (pv 0))) Zh)))))
  (Zq (Z6 (Z9 LH.ok hr rfl LH.mg LH.kp LH.bd .nil Jh (Za (pv 1) Zh))))),?_⟩
 have s4:=ok.s4;have h8:=ok.h8;refine⟨Jl 0 (by decide),fun l hl=>?_⟩;have s1:=Zy hl (.lst []);obtain⟨dg,hg1⟩:=hg.same s1;obtain⟨dx,po,to,hx1,_,_⟩:=ht.same s1;refine⟨_,rfl,gm,CG,dg,_,_,rfl,hg1,CGm.cl,CGm.nT,Up _ _,x,CT,dx,_,_,rfl,hx1,C.cl,C.nS,Kd _ _ _,(fx.s:Int),rfl,by omega,by omega,?_⟩;refine X9 (n:=fx.s) (fun i σ H'=>Same H H'∧H' l=some (.lst (vN (Yj i fx.h)))∧∃ x2,σ=[some (.ref gm),some (.ref l),x2]) ⟨s1,Zj,_,rfl⟩ (fun i σ H2 hi z=>?_) (fun σ H2 z=>?_)
 ·obtain⟨s2,hL2,x2,rfl⟩:=z
  obtain⟨dg,hg2⟩:=hg.same s2;obtain⟨dx,po,to,hx2,_,_⟩:=ht.same s2;refine⟨_,rfl,.inl ⟨rfl,_,SqL.of hL2⟩,?_⟩;refine⟨_,rfl,gm,CG,dg,_,_,rfl,hg2,CGm.cl,CGm.nT,Up _ _,x,CT,dx,_,_,rfl,hx2,C.cl,C.nH,T8 _ _ _,(fx.h:Int),rfl,by omega,by omega,?_⟩;refine N9 (n:=fx.h) (lo:=0) (fun _=>true) (fun j=>.int ((8 * i+j:Nat):Int)) (Jl _ (by omega)) (fun j H3 hj sm R hR=>hR H3 (Same.refl H3)) (fun j H3 hj hp sm R hR=>?_) (fun l3 H3 s3 hl3 hL3=>?_)
  ·refine⟨_,rfl,_,_,rfl,rfl,.inl ⟨by decide,by decide⟩,_,rfl,_,_,rfl,rfl,?_⟩
   have e:(8:Int) * (0+(i:Nat))+(0+(j:Nat))=((8 * i+j:Nat):Int):=by omega
   show R (.int ((8:Int) * (0+(i:Nat))+(0+(j:Nat)))) H3;rw[e];exact hR H3 (Same.refl H3)
  have e3:((List.range fx.h).filter fun _=>true).map (fun j=>V.int ((8 * i+j:Nat):Int))=vN ((List.range fx.h).map fun v=>8 * i+v):=by
   rw[List.filter_eq_self.mpr (fun _ _=>rfl)];unfold vN;rw[Z8];rfl
  rw[e3] at hL3;have hL4:=s3 _ _ hL2;have ll:(vN (Yj i fx.h)).length+(vN ((List.range fx.h).map fun v=>8 * i+v)).length≤sizeLine:=by
   rw[Jq,Jq,Zi,J4];have:=Gx i (by omega) fx.h h8;have:=Jl 100 (by decide);omega
  refine⟨l,l3,_,_,rfl,rfl,hL4,hL3,ll,?_,?_,_,rfl⟩
  ·intro b o hb
   have n:b≠l:=fun z=>by rw[z,hl] at hb;cases hb
   rw[Zu n];exact s3 _ _ (s2 _ _ hb)
  ·rw[Zj]
   congr 2
   unfold Yj vN;rw[List.range_succ,List.flatMap_append,J3]
   congr 1
   simp
 ·obtain⟨s2,hL2,x2,rfl⟩:=z
  refine⟨_,rfl,l,Yj fx.s fx.h,rfl,SqL.of hL2,Zjr _ s4 _ h8,?_⟩;rw[Zbx _ s4 _ h8];exact q _ s2
theorem Rr(c:Nat):(1:Int) * 2 ^ (((c:Nat):Int)).toNat=((2 ^ c:Nat):Int):=by
 rw[Zv,Int.one_mul,Int.natCast_pow];rfl
theorem orN(a b:Nat):Builtin.bitOr ((a:Nat):Int) ((b:Nat):Int)=((a ||| b:Nat):Int):=by
 rw[PyProof.Rows.bitOr_and,PyProof.Rows.bitAnd_pp (by omega) (by omega),Zv,Zv];have:=PyProof.Rows.nat_or_add_and a b;omega
theorem Zpf(a b:Nat):Builtin.bitXor ((a:Nat):Int) ((b:Nat):Int)=((a ^^^ b:Nat):Int):=by
 show Builtin.bitOr ((a:Nat):Int) ((b:Nat):Int) - Builtin.bitAnd ((a:Nat):Int) ((b:Nat):Int)=_;rw[orN,PyProof.Rows.bitAnd_pp (by omega) (by omega),Zv,Zv];have:=PyProof.Rows.nat_or_add_and a b;have e:(a ^^^ b)+(a &&& b)=a ||| b:=by
  have z:=PyProof.Rows.nat_or_add_and (a ^^^ b) (a &&& b);have e1:(a ^^^ b) ||| (a &&& b)=a ||| b:=Nat.eq_of_testBit_eq fun i=>by
   rw[Nat.testBit_or,Nat.testBit_xor,Nat.testBit_and,Nat.testBit_or];cases a.testBit i<;>cases b.testBit i<;>rfl
  have e2:(a ^^^ b) &&& (a &&& b)=0:=Nat.eq_of_testBit_eq fun i=>by
   rw[Nat.testBit_and,Nat.testBit_xor,Nat.testBit_and,Nat.zero_testBit];cases a.testBit i<;>cases b.testBit i<;>rfl
  rw[e1,e2] at z;omega
 omega
def IsPl(H:Hp)(p:Addr)(hs:List Nat)(lead:Nat)(ys:List Nat):Prop:=∃ hp tp,H p=some (.tup [.ref hp,.int (lead:Nat),.ref tp])∧H hp=some (.tup (vN hs))∧H tp=some (.tup (vN ys))
theorem IsPl.same{H H':Hp}{p:Addr}{hs ys:List Nat}{lead:Nat}(h:IsPl H p hs lead ys)(s:Same H H'):IsPl H' p hs lead ys:=by
 obtain⟨hp,tp,a,b,c⟩:=h;exact⟨hp,tp,s _ _ a,s _ _ b,s _ _ c⟩
structure GamH(CT CG:Addr)(f:Fx)(t:Option Nat)(H:Hp)(gm x:Addr):Prop where
 ok:f.Ok
 g:IsGam CG x (Q5 t) H gm
 t:IsTab CT f H x
theorem GamH.same{CT CG:Addr}{f:Fx}{t:Option Nat}{H H':Hp}{gm x:Addr}(h:GamH CT CG f t H gm x)(s:Same H H'):GamH CT CG f t H' gm x:=⟨h.ok,h.g.same s,h.t.same s⟩
def Zfh(CT CG:Addr):Sp:=fun vs H Q _=>∃(gm x:Addr) (t:Option Nat) (fx:Fx) (i:Nat),vs=[.ref gm,.int (i:Nat)]∧GamH CT CG fx t H gm x∧Q (.bl (decide (i < fx.n))) H
theorem Zl5:FnScope ["game","seat"] ["game","seat"] (Zp D8):=⟨rfl,rfl,rfl,by decide +kernel,rfl,by decide +kernel,by decide +kernel⟩
theorem Zjy{k:Nat}{CT CG:Addr}(F:Fun K "is_seat" "is_seat" D8 f fd)(C:TabC K mg CT)(CGm:GamC K mg CG):FnOk P w K mg base Y4 (k+1) f fd ["game","seat"] (Zfh CT CG):=by
 refine F.ok Zl5 (fun vs H Q E h=>?_) (fun cdv A outer s H vs Q E hr h=>?_)
 ·obtain⟨gm,x,t,fx,i,rfl,_⟩:=h
  rfl
 obtain⟨gm,x,t,fx,i,rfl,G,q⟩:=h;refine⟨_,Zq (Z6 (Gv (Xa Zli (pv 1) Zl (Jd _)) (Gu (Xa Zbz (pv 1) (Jy (Jy (pv 0) rfl) rfl) (Jd _))))),?_⟩;obtain⟨dg,hg⟩:=G.g;obtain⟨dx,po,to,hx,_,_⟩:=G.t;refine⟨_,rfl,_,_,rfl,rfl,_,rfl,Bz (fun _=>?_) fun z=>absurd (Zf (Int.natCast_nonneg i)) z⟩;refine⟨_,rfl,_,rfl,gm,CG,dg,_,_,rfl,hg,CGm.cl,CGm.nT,Up _ _,x,CT,dx,_,_,rfl,hx,C.cl,C.nN,Xk _ _ _,_,_,rfl,rfl,?_⟩;have e:decide (((i:Nat):Int) < ((fx.n:Nat):Int))=decide (i < fx.n):=decide_eq_decide.mpr ⟨fun h=>by omega,fun h=>by omega⟩;show Q (V.bl (decide (((i:Nat):Int) < ((fx.n:Nat):Int)))) H;rw[e];exact q
def Bd(CT CG:Addr):Sp:=fun vs H Q _=>∃(gm x:Addr) (t:Option Nat) (fx:Fx) (i j:Nat),vs=[.ref gm,.int (i:Nat),.int (j:Nat)]∧GamH CT CG fx t H gm x∧Q (.int ((i+j) % fx.n:Nat)) H
theorem Zi4:FnScope ["game","lead","steps"] ["game","lead","steps"] (Zp Sx):=⟨rfl,rfl,rfl,by decide +kernel,rfl,by decide +kernel,by decide +kernel⟩
theorem Zgq{k:Nat}{CT CG:Addr}(F:Fun K "seat_round" "seat_round" Sx f fd)(C:TabC K mg CT)(CGm:GamC K mg CG):FnOk P w K mg base Y4 (k+1) f fd ["game","lead","steps"] (Bd CT CG):=by
 refine F.ok Zi4 (fun vs H Q E h=>?_) (fun cdv A outer s H vs Q E hr h=>?_)
 ·obtain⟨gm,x,t,fx,i,j,rfl,_⟩:=h
  rfl
 obtain⟨gm,x,t,fx,i,j,rfl,G,q⟩:=h;refine⟨_,Zq (Z6 (Z0 Yg (Z0 Yq (pv 1) (pv 2)) (Jy (Jy (pv 0) rfl) rfl))),?_⟩;obtain⟨dg,hg⟩:=G.g;obtain⟨dx,po,to,hx,_,_⟩:=G.t;have n0:0 < fx.n:=by rcases G.ok.n34 with e | e<;>omega
 refine⟨_,rfl,_,rfl,_,_,rfl,rfl,_,rfl,gm,CG,dg,_,_,rfl,hg,CGm.cl,CGm.nT,Up _ _,x,CT,dx,_,_,rfl,hx,C.cl,C.nN,Xk _ _ _,_,_,rfl,rfl,(by show(0:Int) < ((fx.n:Nat):Int);omega),?_⟩;have e:(((i:Nat):Int)+((j:Nat):Int)) % ((fx.n:Nat):Int)=(((i+j) % fx.n:Nat):Int):=by rw[Int.natCast_emod,Int.natCast_add]
 show Q (V.int ((((i:Nat):Int)+((j:Nat):Int)) % ((fx.n:Nat):Int))) H;rw[e];exact q
def Sf(K:W.Frag):Sp:=fun vs H Q _=>∃(p:Addr) (fx:Fx) (hs ys:List Nat) (lead m:Nat),vs=[.ref p]∧fx.Ok∧IsPl H p hs lead ys∧Plc fx hs lead ys m∧∀ H',Same H H'→Q (.int (m:Nat)) H'
theorem Zl7:FnScope ["place"] ["place"] (Zp Zbo):=⟨rfl,rfl,rfl,by decide +kernel,rfl,by decide +kernel,by decide +kernel⟩
def pcV(x:V):V:=match x with | .int i=>.int ((Xt 32 i.toNat:Nat):Int) | _=>.non
theorem Zgc(hs:List Nat):((vN hs).filter fun _=>true).map pcV=(hs.map fun h=>((Xt 32 h:Nat):Int)).map V.int:=by
 rw[List.filter_eq_self.mpr fun _ _=>rfl];unfold vN;rw[Z8,Z8];refine Jz fun h _=>?_;show V.int ((Xt 32 (((h:Nat):Int)).toNat:Nat):Int)=_;rw[Zv];rfl
theorem Zj4{k:Nat}{f1:Addr}{d1:FuncData}(F:Fun K "left" "left" Zbo f fd)(LM:Lib P w K mg base k "many" ["hand"] (Dr K) f1 d1)(mM:mg "max" = none):FnOk P w K mg base Y4 (k+1) f fd ["place"] (Sf K):=by
 refine F.ok Zl7 (fun vs H Q E h=>?_) (fun cdv A outer s H vs Q E hr h=>?_)
 ·obtain⟨p,fx,hs,ys,lead,m,rfl,_⟩:=h
  rfl
 obtain⟨p,fx,hs,ys,lead,m,rfl,ok,⟨hp,tp,h1,h2,h3⟩,Pl,q⟩:=h;refine⟨_,Zq (Z6 (Jf (Zek rfl) rfl mM PyProof.Rows.boot_max (Za (Ui ["hand"] [none] rfl (Blk.by (sc:=Zp Zbo) (N0:=["place"]) rfl rfl (by decide +kernel)) (Oh (Jn Jw (pv 0) Zl (fun _ _=>rfl))) (fun C s₀ H₀ ex=>Jr (i:=0) (show(["hand"]:List Str).Nodup by decide +kernel) rfl (Or.inl rfl)) (fun C s₀ H₀ ex=>U4)
   (fun C s₀ H₀ ex=>Z9 LM.ok hr rfl LM.mg LM.kp LM.bd .nil Jh (Za (pv 0) Zh))) Zh))),?_⟩
 have n4:hs.length≤4:=by rw[Pl.len];rcases ok.n34 with e | e<;>omega
 refine⟨_,rfl,p,_,_,_,rfl,rfl,SqT.of h1,(rfl:Xg [V.ref hp,V.int (lead:Nat),V.ref tp] 0=some (V.ref hp)),hp,rfl,⟨_,SqT.of h2⟩,Tq (K:=K) (xs:=vN hs) (fun _=>true) pcV (SqT.of h2) (Jl _ (by rw[Jq];omega)) (fun y H3 hy sm R hR=>hR H3 (Same.refl H3)) (fun y H3 hy hp sm R hR=>?_) (fun lq H4 s4 hlq hL4=>?_)⟩
 ·obtain⟨h,hh,rfl⟩:=Z2.mp hy
  refine⟨_,rfl,h,rfl,Pl.h32 ok hh,?_⟩;have z:=hR H3 (Same.refl H3);have e:pcV (V.int (h:Nat))=V.int ((Xt 32 h:Nat):Int):=by
   show V.int ((Xt 32 (((h:Nat):Int)).toNat:Nat):Int)=_;rw[Zv]
  rw[e] at z;exact z
 ·rw[Zgc] at hL4
  obtain⟨m1,m2⟩:=Pl.max ok;refine⟨lq,_,rfl,SqL.of hL4,?_,fun M hM hmax=>?_⟩
  ·rw[Zi,Pl.len]
   rcases ok.n34 with e | e<;>omega
  ·have e:M=(m:Nat):=by
    obtain⟨h,hh,e1⟩:=Z2.mp hM;have a1:=m2 _ (Z2.mpr ⟨h,hh,rfl⟩);obtain⟨h',hh',e2⟩:=Z2.mp m1;have a2:=hmax _ (Z2.mpr ⟨h',hh',rfl⟩);omega
   rw[e];exact q H4 s4
theorem Zev(ws:List Nat)(j x:Nat):(vN ws).set j (.int (x:Nat))=vN (ws.set j x):=by
 unfold vN;rw[List.map_set]
theorem O7{ws:List Nat}{j w:Nat}(h:ws[j]? = some w):Xg (vN ws) (j:Nat)=some (.int (w:Nat)):=Um (by unfold vN;rw[Zm,h];rfl)
def Se(CT CG:Addr):Sp:=fun vs H Q _=>∃(gm x p:Addr) (t:Option Nat) (fx:Fx) (hs ys:List Nat) (lead m:Nat),vs=[.ref gm,.ref p]∧GamH CT CG fx t H gm x∧IsPl H p hs lead ys∧Plc fx hs lead ys m ∧
 ∀ l ws H',Same H H'→H l=none→H' l=some (.lst (vN ws))→ws.length=fx.n→(∀ w∈ws,w < 4294967296∧Xt 32 w=m)→Q (.ref l) H'
abbrev Zos:List Str:=["game","place","hands","number","card","seat"]
theorem scWith:FnScope Zos ["game","place"] (Zp Zfs):=⟨rfl,rfl,rfl,by decide +kernel,rfl,by decide +kernel,by decide +kernel⟩
theorem Zjw{k:Nat}{CT CG f1:Addr}{d1:FuncData}(F:Fun K "hands_with_trick" "hands_with_trick" Zfs f fd)(LR:Lib P w K mg base k "seat_round" ["game","lead","steps"] (Bd CT CG) f1 d1)(mLi:mg "list" = none)(me:mg "enumerate" = none) :
  FnOk P w K mg base Y4 (k+1) f fd ["game","place"] (Se CT CG):=by
 refine F.ok scWith (fun vs H Q E h=>?_) (fun cdv A outer s H vs Q E hr h=>?_)
 ·obtain⟨gm,x,p,t,fx,hs,ys,lead,m,rfl,_⟩:=h
  rfl
 obtain⟨gm,x,p,t,fx,hs,ys,lead,m,rfl,G,⟨hp,tp,h1,h2,h3⟩,Pl,q⟩:=h;refine⟨_,Zg (Z4 (i:=2) scWith.nd rfl (Or.inl rfl) (Yf Ut rfl mLi Ya (Za (Jn Jw (pv 1) Zl (fun _ _=>rfl)) Zh)))
  (Zg (X0 PassesOwn.never rfl (Al rfl me (Za (Jn Jw (pv 1) Zl (fun _ _=>rfl)) Zh)) (Oi rfl (Xo (Jr (i:=3) scWith.nd rfl (Or.inl rfl)) (Xo (Jr (i:=4) scWith.nd rfl (Or.inl rfl)) Rw)))
   (Zg (Z4 (i:=5) scWith.nd rfl (Or.inl rfl) (Z9 LR.ok hr rfl LR.mg LR.kp LR.bd .nil Jh (Za (pv 0) (Za (Jn Jw (pv 1) Zl (fun _ _=>rfl)) (Za (pv 3) Zh)))))
   (Zq (Og (Z0 Zby (Jn Yd (pv 2) (pv 5) (fun _ _=>rfl)) (Z0 Vv Zl (pv 4))) (Zf8 (pv 2) (pv 5) Ae)))))
  (Zq (Z6 (pv 2)))),?_⟩
 have ok:=G.ok;refine⟨_,rfl,p,_,_,_,rfl,rfl,SqT.of h1,(rfl:Xg [V.ref hp,V.int (lead:Nat),V.ref tp] 0=some (V.ref hp)),hp,_,rfl,.inr (SqT.of h2),fun l hl=>?_⟩;have s1:=Zy hl (.lst (vN hs));refine⟨_,rfl,p,_,_,_,rfl,rfl,SqT.of (s1 _ _ h1),(rfl:Xg [V.ref hp,V.int (lead:Nat),V.ref tp] 2=some (V.ref tp)),tp,_,rfl,SqT.of (s1 _ _ h3),?_⟩;refine Mv (K:=K) (a:=tp) (xs:=vN ys) (fun i σ H'=>Same H H'∧∃(ws:List Nat) (x3 x4 x5:Option V),σ=[some (.ref gm),some (.ref p),some (.ref l),x3,x4,x5]∧H' l=some (.lst (vN ws))∧WsOk fx hs lead i ws)
  ⟨s1,hs,none,none,none,rfl,Zj,WsOk.start Pl⟩ (fun i σ H1 z=>SqT.of (z.1 _ _ h3)) (fun i v r σ H1 hv z hr1=>?_) (fun σ H1 z=>?_)
 ·obtain⟨s2,ws,x3,x4,x5,rfl,hL,W⟩:=z
  obtain⟨c,hc,rfl⟩:=En hv;have s3:=s2.trans (Zy hr1 (.tup [.int (i:Nat),.int (c:Nat)]));have hL3:upd H1 r (.tup [.int (i:Nat),.int (c:Nat)]) l=some (.lst (vN ws)):=by rw[Zu (Jb hL hr1)];exact hL
  obtain⟨wv,ew,W'⟩:=W.step ok Pl hc;have c32:=Pl.y32 ok (Zr hc);refine⟨r,_,rfl,SqT.of Zj,rfl,_,_,rfl,_,_,rfl,rfl,?_⟩;refine⟨_,rfl,_,rfl,p,_,_,_,rfl,rfl,SqT.of (s3 _ _ h1),(rfl:Xg [V.ref hp,V.int (lead:Nat),V.ref tp] 1=some (V.int (lead:Nat))),_,rfl,gm,x,t,fx,lead,i,rfl,G.same s3,?_⟩;refine⟨_,rfl,_,rfl,l,_,_,_,rfl,rfl,SqL.of hL3,O7 ew,_,rfl,_,_,rfl,rfl,⟨by omega,by omega,by decide⟩,_,_,rfl,rfl,?_⟩;refine⟨_,rfl,_,rfl,l,_,_,(lead+i) % fx.n,rfl,rfl,hL3,?_,?_⟩
  ·refine Zb9 ?_
   rw[Jq];exact(Zt.mp ew).1
  ·refine⟨fun b o hb=>?_,ws.set ((lead+i) % fx.n) (wv ||| 2 ^ c),_,_,_,rfl,?_,W'⟩
   ·rw[Zu (Jb hb hl)]
    exact s3 _ _ hb
   ·rw[Zj,← Zev]
    show some (HO.lst ((vN ws).set ((lead+i) % fx.n) (V.int (Builtin.bitOr ((wv:Nat):Int) ((1:Int) * 2 ^ (((c:Nat):Int)).toNat)))))=_;rw[Rr,orN]
 ·obtain⟨s2,ws,x3,x4,x5,rfl,hL,W⟩:=z
  rw[Jq] at W;exact⟨_,rfl,q l ws H1 s2 hl hL W.len (W.end_ ok Pl)⟩
theorem Zge{f:Fx}(ok:f.Ok):Gy f.s f.h=hN (Yj f.s f.h):=(Zbx _ ok.s4 _ ok.h8).symm
def Zf5(x:V):V:=match x with | .int i=>.int ((2 ^ i.toNat:Nat):Int) | _=>.non
theorem Ml(ys:List Nat):((vN ys).filter fun _=>true).map Zf5=vN (ys.map fun c=>2 ^ c):=by
 rw[List.filter_eq_self.mpr fun _ _=>rfl];unfold vN;rw[Z8,Z8];refine Jz fun c _=>?_;show V.int ((2 ^ (((c:Nat):Int)).toNat:Nat):Int)=_;rw[Zv];rfl
def Vj(CT CG:Addr):Sp:=fun vs H Q _=>∃(gm x p:Addr) (t:Option Nat) (fx:Fx) (hs ys:List Nat) (lead m:Nat),vs=[.ref gm,.ref p]∧GamH CT CG fx t H gm x∧IsPl H p hs lead ys∧Plc fx hs lead ys m∧∀ H',Same H H'→Q (.bl true) H'
abbrev Tc:List Str:=["game","place","hands","trick","parts","pack"]
theorem scIsPlace:FnScope Tc ["game","place"] (Zp Er):=⟨rfl,rfl,rfl,by decide +kernel,rfl,by decide +kernel,by decide +kernel⟩
theorem Zag{k:Nat}{CT CG f1 f2 f3 f4 m5:Addr}{d1 d2 d3 d4 e5:FuncData}(F:Fun K "is_place" "is_place" Er f fd)(C:TabC K mg CT)(CGm:GamC K mg CG)(LS:Lib P w K mg base k "is_seat" ["game","seat"] (Zfh CT CG) f1 d1)
  (LA:Lib P w K mg base k "is_apart" ["hands"] (Zbl K) f2 d2) (LV:Lib P w K mg base k "is_level" ["hands"] (Zbg K) f3 d3) (LW:Lib P w K mg base k "hands_with_trick" ["game","place"] (Se CT CG) f4 d4)
  (MP:Meth K CG "pack" m5) (FP:FnOk P w K mg base Y4 k m5 e5 ["self"] (Zbj CT CG)) (BP:Binds K e5 ["self"] []) (ml:mg "len" = none) (mLi:mg "list" = none) (mY:mg "any" = none) :
  FnOk P w K mg base Y4 (k+1) f fd ["game","place"] (Vj CT CG):=by
 refine F.ok scIsPlace (fun vs H Q E h=>?_) (fun cdv A outer s H vs Q E hr h=>?_)
 ·obtain⟨gm,x,p,t,fx,hs,ys,lead,m,rfl,_⟩:=h
  rfl
 obtain⟨gm,x,p,t,fx,hs,ys,lead,m,rfl,G,hPl,Pl,q⟩:=h;obtain⟨hp,tp,h1,h2,h3⟩:=id hPl;refine⟨_,Zg (Z4 (i:=2) scIsPlace.nd rfl (Or.inl rfl) (Yf Ut rfl mLi Ya (Za (Jn Jw (pv 1) Zl (fun _ _=>rfl)) Zh)))
  (Zg (Z4 (i:=3) scIsPlace.nd rfl (Or.inl rfl) (Jn Jw (pv 1) Zl (fun _ _=>rfl)))
  (Zg (Ju (PW.pt (Ek (Z7 Qf (Jf Je rfl ml Z5 (Za (pv 2) Zh)) (Jy (Jy (pv 0) rfl) rfl) (Jd _)) (Ek (Z7 Zli (Jf Je rfl ml Z5 (Za (pv 3) Zh)) (Jy (Jy (pv 0) rfl) rfl) (Jd _))
   (Qt (Eb (Ug (Z9 LS.ok hr rfl LS.mg LS.kp LS.bd .nil Jh (Za (pv 0) (Za (Jn Jw (pv 1) Zl (fun _ _=>rfl)) Zh))) (fun _=>rfl))))))) (Zq (Z6 Qe)) Jg)
  (Zg (Z4 (i:=4) scIsPlace.nd rfl (Or.inl rfl) (Z0 Zad (pv 2) (Ui ["card"] [none] rfl (Blk.by (sc:=Zp Er) (N0:=Tc) rfl rfl (by decide +kernel)) (Oh (pv 3)) (fun C s₀ H₀ ex=>Jr (i:=0) (show(["card"]:List Str).Nodup by decide +kernel) rfl (Or.inl rfl)) (fun C s₀ H₀ ex=>U4)
   (fun C s₀ H₀ ex=>Z0 Vv Zl (pv 0)))))
  (Zg (Z4 (i:=5) scIsPlace.nd rfl (Or.inr rfl) (Uv (pv 0) CGm.cl MP FP hr BP .nil Jh))
  (Zg (Ju (PW.pt (Ek (Eb (Ug (Z9 LA.ok hr rfl LA.mg LA.kp LA.bd .nil Jh (Za (pv 4) Zh)) (fun _=>rfl))) (Qt (Ug (Jf (Zem rfl) rfl mY PyProof.Rows.boot_any (Za (Ui ["part","pack"] [none,some 5] rfl (Blk.by (sc:=Zp Er) (N0:=Tc) rfl rfl (by decide +kernel)) (Uh (pv 4)) (fun C s₀ H₀ ex=>Jr (i:=0) (show(["part","pack"]:List Str).Nodup by decide +kernel) rfl (Or.inl rfl)) (fun C s₀ H₀ ex=>U4)
   (fun C s₀ H₀ ex=>Xa Qf (Z0 Zby (pv 0) (pv 1)) (pv 1) (Jd _))) Zh)) (fun _=>rfl))))) (Zq (Z6 Qe)) Jg)
  (Zq (Z6 (Z9 LV.ok hr rfl LV.mg LV.kp LV.bd .nil Jh (Za (Z9 LW.ok hr rfl LW.mg LW.kp LW.bd .nil Jh (Za (pv 0) (Za (pv 1) Zh))) Zh))))))))),?_⟩
 have ok:=G.ok;have n4:fx.n≤4:=by rcases ok.n34 with e | e<;>omega
 have n0:0 < fx.n:=by rcases ok.n34 with e | e<;>omega
 refine⟨_,rfl,p,_,_,_,rfl,rfl,SqT.of h1,(rfl:Xg [V.ref hp,V.int (lead:Nat),V.ref tp] 0=some (V.ref hp)),hp,_,rfl,.inr (SqT.of h2),fun l hl=>?_⟩;have s1:=Zy hl (.lst (vN hs));refine⟨_,rfl,p,_,_,_,rfl,rfl,SqT.of (s1 _ _ h1),(rfl:Xg [V.ref hp,V.int (lead:Nat),V.ref tp] 2=some (V.ref tp)),?_⟩;obtain⟨dg,hg⟩:=(G.same s1).g;obtain⟨dx,po,to,hx,_,_⟩:=(G.same s1).t;have e1:(!decide (V.int (((vN hs).length:Nat):Int)=V.int ((fx.n:Nat):Int)))=false:=by rw[Jq,Pl.len,Zf rfl];rfl
 have e2:decide (((fx.n:Nat):Int)≤(((vN ys).length:Nat):Int))=false:=by rw[Jq];exact Zd (by have:=Pl.yl;omega)
 refine⟨_,rfl,l,_,rfl,.inl (SqL.of Zj),_,rfl,gm,CG,dg,_,_,rfl,hg,CGm.cl,CGm.nT,Up _ _,x,CT,dx,_,_,rfl,hx,C.cl,C.nN,Xk _ _ _,rfl,_,rfl,Xu e1 (J9 ?_)⟩;refine⟨_,rfl,tp,_,rfl,.inr (SqT.of (s1 _ _ h3)),_,rfl,gm,CG,dg,_,_,rfl,hg,CGm.cl,CGm.nT,Up _ _,x,CT,dx,_,_,rfl,hx,C.cl,C.nN,Xk _ _ _,_,_,rfl,rfl,_,rfl,Xu e2 (J9 ?_)⟩;refine⟨_,rfl,_,rfl,p,_,_,_,rfl,rfl,SqT.of (s1 _ _ h1),(rfl:Xg [V.ref hp,V.int (lead:Nat),V.ref tp] 1=some (V.int (lead:Nat))),gm,x,t,fx,lead,rfl,G.same s1,_,rfl,?_⟩;refine Xu (by rw[Zf Pl.ld];rfl:(!decide (lead < fx.n))=false) (J9 ?_);refine⟨_,rfl,_,rfl,tp,rfl,⟨_,SqT.of (s1 _ _ h3)⟩,Tq (K:=K) (xs:=vN ys) (fun _=>true) Zf5 (SqT.of (s1 _ _ h3)) (Jl _ (by rw[Jq];have:=Pl.yl;omega)) (fun y H3 hy sm R hR=>hR H3 (Same.refl H3)) (fun y H3 hy hp sm R hR=>?_) (fun lq H4 s4 hlq hL4=>?_)⟩
 ·obtain⟨c,hc,rfl⟩:=Z2.mp hy
  have c32:=Pl.y32 ok hc;refine⟨_,rfl,_,_,rfl,rfl,⟨by omega,by omega,by decide⟩,?_⟩;have z:=hR H3 (Same.refl H3);show R (V.int ((1:Int) * 2 ^ (((c:Nat):Int)).toNat)) H3;rw[Rr];have e:Zf5 (V.int (c:Nat))=V.int ((2 ^ c:Nat):Int):=by
   show V.int ((2 ^ (((c:Nat):Int)).toNat:Nat):Int)=_;rw[Zv]
  rw[e] at z;exact z
 rw[Ml] at hL4;have sl4:=s4 _ _ (Zj:upd H l (.lst (vN hs)) l=_);have ll:(vN hs).length+(vN (ys.map fun c=>2 ^ c)).length≤sizeLine:=Jl _ (by rw[Jq,Jq,Zi,Pl.len];have:=Pl.yl;omega);refine⟨l,lq,_,_,rfl,rfl,sl4,hL4,ll,fun pq hpq=>?_⟩;have s5:Same H (upd H4 pq (.lst (vN hs++vN (ys.map fun c=>2 ^ c)))):=(s1.trans s4).trans (Zy hpq _);have eP:vN hs++vN (ys.map fun c=>2 ^ c)=vN (hs++ys.map fun c=>2 ^ c):=by unfold vN;rw[J3]
 rw[eP] at s5 ⊢;obtain⟨dg5,hg5⟩:=(G.same s5).g;refine⟨_,rfl,gm,dg5,_,rfl,hg5,Qy _ _ _ (by decide +kernel) (by decide +kernel),gm,x,_,fx,rfl,ok,(G.same s5).g,(G.same s5).t,fun H6 s6=>?_⟩;have s7:=s5.trans s6;have hL6:H6 pq=some (.lst (vN (hs++ys.map fun c=>2 ^ c))):=s6 _ _ Zj;refine⟨_,rfl,pq,_,rfl,SqL.of hL6,_,rfl,Xu (by rw[Pl.parts];rfl:(!X1 (hs++ys.map fun c=>2 ^ c) 0)=false) (J9 ?_)⟩;refine⟨_,rfl,pq,rfl,⟨_,SqL.of hL6⟩,Ue (K:=K) (xs:=vN (hs++ys.map fun c=>2 ^ c)) (fun _=>true) (fun _=>.bl false) (SqL.of hL6) (Jl _ (by rw[Jq,Z3,Zi,Pl.len];have:=Pl.yl;omega)) (fun x H3 hx sm R hR=>hR H3 (Same.refl H3)) (fun x H8 hx hp sm R hR=>?_) (fun lz H8 s8 hz hz8=>?_)⟩
 ·obtain⟨pt,hpt,rfl⟩:=Z2.mp hx
  refine⟨_,rfl,_,rfl,_,_,rfl,rfl,_,rfl,rfl,?_⟩;have z:=hR H8 (Same.refl H8);have e:(!decide (V.int (Builtin.bitOr ((pt:Nat):Int) ((Gy fx.s fx.h:Nat):Int))=V.int ((Gy fx.s fx.h:Nat):Int)))=false:=by
   rw[orN,Zge ok,Pl.inpack ok hpt,Zf rfl];rfl
  show R (V.bl (!decide (V.int (Builtin.bitOr ((pt:Nat):Int) ((Gy fx.s fx.h:Nat):Int))=V.int ((Gy fx.s fx.h:Nat):Int)))) H8;rw[e];exact z
 ·have eb:((vN (hs++ys.map fun c=>2 ^ c)).filter fun _=>true).map (fun _=>V.bl false)=((hs++ys.map fun c=>2 ^ c).map fun _=>false).map V.bl:=by
   rw[List.filter_eq_self.mpr fun _ _=>rfl];unfold vN;rw[Z8,Z8];rfl
  rw[eb] at hz8;refine⟨lz,_,rfl,SqL.of hz8,_,rfl,?_⟩;have ea:((hs++ys.map fun c=>2 ^ c).map fun _=>false).any id=false:=by
   rw[List.any_map];exact List.any_eq_false.mpr fun _ _=>Zz
  refine Xu ea (J9 ?_);have s9:=s7.trans s8;refine⟨_,rfl,_,rfl,gm,x,p,t,fx,hs,ys,lead,m,rfl,G.same s9,hPl.same s9,Pl,fun lw ws H9 t9 hw hw9 lenw allw=>?_⟩;refine⟨lw,ws,rfl,hw9,fun w hw=>(allw w hw).1,by omega,by omega,fun H10 t10=>?_⟩;rw[Zhj (fun w hw=>(allw w hw).2) (by omega)];exact q H10 ((s9.trans t9).trans t10)
def X2(f:Fx)(lead:Nat)(ys:List Nat)(m:Nat):V:=if m=0 then .non else .int (((lead+ys.length) % f.n:Nat):Int)
def Bc(CT CG:Addr):Sp:=fun vs H Q _=>∃(gm x p:Addr) (t:Option Nat) (fx:Fx) (hs ys:List Nat) (lead m:Nat),vs=[.ref gm,.ref p]∧GamH CT CG fx t H gm x∧IsPl H p hs lead ys∧Plc fx hs lead ys m∧∀ H',Same H H'→Q (X2 fx lead ys m) H'
theorem Zfn:FnScope ["game","place"] ["game","place"] (Zp D2):=⟨rfl,rfl,rfl,by decide +kernel,rfl,by decide +kernel,by decide +kernel⟩
theorem Zdd{k:Nat}{CT CG f1 f2:Addr}{d1 d2:FuncData}(F:Fun K "turn_at" "turn_at" D2 f fd)(LL:Lib P w K mg base k "left" ["place"] (Sf K) f1 d1)(LR:Lib P w K mg base k "seat_round" ["game","lead","steps"] (Bd CT CG) f2 d2)(ml:mg "len" = none) :
  FnOk P w K mg base Y4 (k+1) f fd ["game","place"] (Bc CT CG):=by
 refine F.ok Zfn (fun vs H Q E h=>?_) (fun cdv A outer s H vs Q E hr h=>?_)
 ·obtain⟨gm,x,p,t,fx,hs,ys,lead,m,rfl,_⟩:=h
  rfl
 obtain⟨gm,x,p,t,fx,hs,ys,lead,m,rfl,G,hPl,Pl,q⟩:=h;refine⟨_,Zg (Ju (Z7 Uc (Z9 LL.ok hr rfl LL.mg LL.kp LL.bd .nil Jh (Za (pv 1) Zh)) Zl (Jd _)) (Zq (Z6 Uz)) Jg)
  (Zq (Z6 (Z9 LR.ok hr rfl LR.mg LR.kp LR.bd .nil Jh (Za (pv 0) (Za (Jn Jw (pv 1) Zl (fun _ _=>rfl)) (Za (Jf Je rfl ml Z5 (Za (Jn Jw (pv 1) Zl (fun _ _=>rfl)) Zh)) Zh)))))),?_⟩
 refine⟨_,rfl,p,fx,hs,ys,lead,m,rfl,G.ok,hPl,Pl,fun H1 s1=>⟨rfl,_,rfl,?_⟩⟩;have e0:decide (V.int ((m:Nat):Int)=V.int 0)=decide (m=0):=Vx (n:=0) rfl;refine Xu e0 ?_;have q1:=q H1 s1;unfold X2 at q1;by_cases c:m=0
 ·rw[if_pos c] at q1
  rw[Zf c];exact Ub q1
 ·rw[if_neg c] at q1
  rw[Zd c];obtain⟨hp,tp,h1,h2,h3⟩:=hPl.same s1;refine J9 ⟨_,rfl,_,rfl,p,_,_,_,rfl,rfl,SqT.of h1,(rfl:Xg [V.ref hp,V.int (lead:Nat),V.ref tp] 1=some (V.int (lead:Nat))),_,rfl,p,_,_,_,rfl,rfl,SqT.of h1,(rfl:Xg [V.ref hp,V.int (lead:Nat),V.ref tp] 2=some (V.ref tp)),tp,_,rfl,.inr (SqT.of h3),gm,x,t,fx,lead,ys.length,?_,G.same s1,q1⟩;show [V.ref gm,V.int (lead:Nat),V.int (((vN ys).length:Nat):Int)]=_;rw[Jq]
def Xw(f:Fx)(t:Option Nat)(ys:List Nat)(h:Nat):List Nat:=Ys (hN (if ys=[] then Ys h else O3 f.d f t ys (Ys h)))
theorem Zhg{f:Fx}{t:Option Nat}{ys:List Nat}{h c:Nat}(h32:h < 4294967296)(hc:c∈Xw f t ys h):h.testBit c=true∧c < 32:=by
 unfold Xw at hc;have sub:∀ x∈(if ys=[] then Ys h else O3 f.d f t ys (Ys h)),x∈Ys h:=fun x hx=>by
  by_cases e:ys=[]
  ·rw[if_pos e] at hx;exact hx
  ·rw[if_neg e] at hx;exact O1 _ _ _ _ _ x hx
 have l32:∀ x∈(if ys=[] then Ys h else O3 f.d f t ys (Ys h)),x < 32:=fun x hx=>Q3 (sub x hx);have m:=sub c ((B3 l32 c).mp hc);exact⟨(Xj h32).mp m,Q3 m⟩
def Bu(f:Fx)(t:Option Nat)(hs:List Nat)(lead:Nat)(ys:List Nat)(m:Nat):List Nat:=if m=0 then [] else Xw f t ys (hs.getD ((lead+ys.length) % f.n) 0)
def Dq(CT CG:Addr):Sp:=fun vs H Q _=>∃(gm x p:Addr) (t:Option Nat) (fx:Fx) (hs ys:List Nat) (lead m:Nat),vs=[.ref gm,.ref p]∧GamH CT CG fx t H gm x∧K1 t∧IsPl H p hs lead ys∧Plc fx hs lead ys m ∧
 ∀ l H',Same H H'→H l=none→H' l=some (.lst (vN (Bu fx t hs lead ys m)))→Q (.ref l) H'
theorem scMoves:FnScope ["game","place","seat"] ["game","place"] (Zp Sz):=⟨rfl,rfl,rfl,by decide +kernel,rfl,by decide +kernel,by decide +kernel⟩
theorem Plc.beg{f:Fx}{hs ys:List Nat}{lead m h:Nat}(ok:f.Ok)(Pl:Plc f hs lead ys m)(hh:h∈hs):ys=[]∨Beg f ys (Ys h):=by
 by_cases e:ys=[]
 ·exact .inl e
 ·have h32:=Pl.h32 ok hh
  have yl:=Pl.yl;have n4:f.n≤4:=by rcases ok.n34 with z | z<;>omega
  have s4:=ok.s4;refine .inr ⟨List.length_pos_iff.mpr e,by omega,fun c hc=>?_,fun c hc=>?_⟩
  ·have:=Pl.pk c (Q0 hc)
   omega
  ·have:=Pl.pk c (Xz (ys:=ys) hh ((Xj h32).mp hc))
   exact⟨Q3 hc,this.2⟩
theorem Zgu{k:Nat}{CT CG f1 f2 m3:Addr}{d1 d2 e3:FuncData}(F:Fun K "moves" "moves" Sz f fd)(CGm:GamC K mg CG)(LT:Lib P w K mg base k "turn_at" ["game","place"] (Bc CT CG) f1 d1)(LC:Lib P w K mg base k "cards_in" ["hand"] (X5 K) f2 d2)
  (MM:Meth K CG "may" m3) (FM:FnOk P w K mg base Y4 k m3 e3 ["self","hand","trick"] (Zfi K CT CG)) (BM:Binds K e3 ["self","hand","trick"] []):FnOk P w K mg base Y4 (k+1) f fd ["game","place"] (Dq CT CG):=by
 refine F.ok scMoves (fun vs H Q E h=>?_) (fun cdv A outer s H vs Q E hr h=>?_)
 ·obtain⟨gm,x,p,t,fx,hs,ys,lead,m,rfl,_⟩:=h
  rfl
 obtain⟨gm,x,p,t,fx,hs,ys,lead,m,rfl,G,tb,hPl,Pl,q⟩:=h;refine⟨_,Zg (Z4 (i:=2) scMoves.nd rfl (Or.inl rfl) (Z9 LT.ok hr rfl LT.mg LT.kp LT.bd .nil Jh (Za (pv 0) (Za (pv 1) Zh))))
  (Zg (Ju (Z7 Vw (pv 2) Uz (Jd _)) (Zq (Z6 (U0 Zh))) Jg)
  (Zq (Z6 (Z9 LC.ok hr rfl LC.mg LC.kp LC.bd .nil Jh (Za (X4 (pv 0) CGm.cl MM FM hr BM .nil Jh (Za (Jn Jw (Jn Jw (pv 1) Zl (fun _ _=>rfl)) (pv 2) (fun _ _=>rfl)) (Za (Jn Jw (pv 1) Zl (fun _ _=>rfl)) Zh))) Zh))))),?_⟩
 refine⟨_,rfl,_,rfl,gm,x,p,t,fx,hs,ys,lead,m,rfl,G,hPl,Pl,fun H1 s1=>?_⟩;by_cases c:m=0
 ·have e:X2 fx lead ys m = .non:=by unfold X2;rw[if_pos c]
  rw[e];refine⟨_,rfl,rfl,_,rfl,Xu (Zf rfl:decide (V.non=V.non)=true) (Ub ⟨Jl 0 (by decide),fun l hl=>q l _ (s1.trans (Zy hl _)) (s1.free hl) ?_⟩)⟩;rw[Zj];unfold Bu;rw[if_pos c];rfl
 ·have e:X2 fx lead ys m = .int (((lead+ys.length) % fx.n:Nat):Int):=by unfold X2;rw[if_neg c]
  rw[e];refine⟨_,rfl,rfl,_,rfl,Xu (Zd (fun z=>nomatch z):decide (V.int (((lead+ys.length) % fx.n:Nat):Int)=V.non)=false) (J9 ?_)⟩;obtain⟨h,eh,_⟩:=Pl.turn G.ok;have hh:h∈hs:=Zr eh;have h32:=Pl.h32 G.ok hh;obtain⟨hp,tp,h1,h2,h3⟩:=hPl.same s1;obtain⟨dg,hG⟩:=(G.same s1).g;have eN:hN (Ys h)=h:=Zgj h32 fun _=>Iff.rfl;refine⟨_,rfl,gm,dg,_,rfl,hG,Qy _ _ _ (by decide +kernel) (by decide +kernel),_,rfl,p,_,_,_,rfl,rfl,SqT.of h1,(rfl:Xg [V.ref hp,V.int (lead:Nat),V.ref tp] 0=some (V.ref hp)),_,rfl,hp,_,_,_,rfl,rfl,SqT.of h2,O7 eh,
   _,rfl,p,_,_,_,rfl,rfl,SqT.of h1,(rfl:Xg [V.ref hp,V.int (lead:Nat),V.ref tp] 2=some (V.ref tp)),gm,x,tp,t,fx,ys,Ys h,?_,G.ok,(G.same s1).g,(G.same s1).t,tb,SqT.of h3,Pl.beg G.ok hh,fun H2 s2=>?_⟩
  ·rw[eN]
   rfl
  ·have sub:∀ y∈(if ys=[] then Ys h else O3 fx.d fx t ys (Ys h)),y < 32:=fun y hy=>by
    by_cases e:ys=[]
    ·rw[if_pos e] at hy;exact Q3 hy
    ·rw[if_neg e] at hy;exact Q3 (O1 _ _ _ _ _ y hy)
   refine⟨_,rfl,Th sub,fun l H3 s3 hl hL=>q l H3 (s1.trans (s2.trans s3)) ((s1.trans s2).free hl) ?_⟩;rw[hL];unfold Bu Xw;rw[if_neg c,Zk,eh];rfl
def T1:Option Nat→V
 | none=>.non
 | some i=>.int (i:Nat)
structure Nxt(f:Fx)(t:Option Nat)(hs:List Nat)(lead:Nat)(ys:List Nat)(h c:Nat)(hs':List Nat)(lead':Nat)(ys':List Nat)(tk:Option Nat):Prop where
 hand:hs'=hs.set ((lead+ys.length) % f.n) (h ^^^ 2 ^ c)
 go:ys.length+1 < f.n→lead'=lead∧ys'=ys++[c]∧tk=none
 full:ys.length+1=f.n→ys'=[]∧tk=some lead'∧∃ i,Win f t (Jc (ys++[c])) (ys++[c]) i∧lead'=(lead+i) % f.n
def Gb(K:W.Frag)(CT CG:Addr):Sp:=fun vs H Q _=>∃(gm x p:Addr) (t:Option Nat) (fx:Fx) (hs ys:List Nat) (lead m h c:Nat),vs=[.ref gm,.ref p,.int (c:Nat)]∧GamH CT CG fx t H gm x∧IsPl H p hs lead ys∧Plc fx hs lead ys m∧hs[(lead+ys.length) % fx.n]? = some h∧h.testBit c=true ∧
 ∀ r p' hs' lead' ys' tk H',Same H H'→Nxt fx t hs lead ys h c hs' lead' ys' tk→H' r=some (.tup [.ref p',T1 tk])→IsPl H' p' hs' lead' ys'→Q (.ref r) H'
abbrev Zkc:List Str:=["game","place","card","seat","hands","trick","taker"]
theorem scBehind:FnScope Zkc ["game","place","card"] (Zp Oc):=⟨rfl,rfl,rfl,by decide +kernel,rfl,by decide +kernel,by decide +kernel⟩
theorem Zdl{k:Nat}{CT CG f1 m3:Addr}{d1 e3:FuncData}(F:Fun K "behind" "behind" Oc f fd)(C:TabC K mg CT)(CGm:GamC K mg CG)(LR:Lib P w K mg base k "seat_round" ["game","lead","steps"] (Bd CT CG) f1 d1)
  (MW:Meth K CG "winner" m3) (FW:FnOk P w K mg base Y4 k m3 e3 ["self","trick"] (R8 K CT CG)) (BW:Binds K e3 ["self","trick"] []) (ml:mg "len" = none) (mLi:mg "list" = none) (mT:mg "tuple" = none):FnOk P w K mg base Y4 (k+1) f fd ["game","place","card"] (Gb K CT CG):=by
 refine F.ok scBehind (fun vs H Q E h=>?_) (fun cdv A outer s H vs Q E hr h=>?_)
 ·obtain⟨gm,x,p,t,fx,hs,ys,lead,m,h,c,rfl,_⟩:=h
  rfl
 obtain⟨gm,x,p,t,fx,hs,ys,lead,m,h,c,rfl,G,hPl,Pl,eh,hc,q⟩:=h;obtain⟨hp,tp,h1,h2,h3⟩:=id hPl;refine⟨_,Zg (Z4 (i:=3) scBehind.nd rfl (Or.inl rfl) (Z9 LR.ok hr rfl LR.mg LR.kp LR.bd .nil Jh (Za (pv 0) (Za (Jn Jw (pv 1) Zl (fun _ _=>rfl)) (Za (Jf Je rfl ml Z5 (Za (Jn Jw (pv 1) Zl (fun _ _=>rfl)) Zh)) Zh)))))
  (Zg (Z4 (i:=4) scBehind.nd rfl (Or.inl rfl) (Yf Ut rfl mLi Ya (Za (Jn Jw (pv 1) Zl (fun _ _=>rfl)) Zh)))
  (Zg (Og (Z0 Zmj (Jn Yd (pv 4) (pv 3) (fun _ _=>rfl)) (Z0 Vv Zl (pv 2))) (Zf8 (pv 4) (pv 3) Ae))
  (Zg (Z4 (i:=5) scBehind.nd rfl (Or.inl rfl) (Z0 Zjv (Jn Jw (pv 1) Zl (fun _ _=>rfl)) (Y2 (Za (pv 2) Zh))))
  (Zg (Ju (Z7 Zbz (Jf Je rfl ml Z5 (Za (pv 5) Zh)) (Jy (Jy (pv 0) rfl) rfl) (Jd _))
   (Zq (Z6 (Y2 (Za (Y2 (Za (Yf Xe rfl mT Y6 (Za (pv 4) Zh)) (Za (Jn Jw (pv 1) Zl (fun _ _=>rfl)) (Za (pv 5) Zh)))) (Za Uz Zh))))) Jg)
  (Zg (Z4 (i:=6) scBehind.nd rfl (Or.inl rfl) (Z9 LR.ok hr rfl LR.mg LR.kp LR.bd .nil Jh (Za (pv 0) (Za (Jn Jw (pv 1) Zl (fun _ _=>rfl)) (Za (X4 (pv 0) CGm.cl MW FW hr BW .nil Jh (Za (pv 5) Zh)) Zh)))))
  (Zq (Z6 (Y2 (Za (Y2 (Za (Yf Xe rfl mT Y6 (Za (pv 4) Zh)) (Za (pv 6) (Za (Y2 Zh) Zh)))) (Za (pv 6) Zh)))))))))),?_⟩
 have ok:=G.ok;have n4:fx.n≤4:=by rcases ok.n34 with e | e<;>omega
 have yl:=Pl.yl;have hm:h∈hs:=Zr eh;have c32:=Pl.b32 ok (Xz (ys:=ys) hm hc);refine⟨_,rfl,_,rfl,p,_,_,_,rfl,rfl,SqT.of h1,(rfl:Xg [V.ref hp,V.int (lead:Nat),V.ref tp] 1=some (V.int (lead:Nat))),_,rfl,p,_,_,_,rfl,rfl,SqT.of h1,(rfl:Xg [V.ref hp,V.int (lead:Nat),V.ref tp] 2=some (V.ref tp)),tp,_,rfl,.inr (SqT.of h3),gm,x,t,fx,lead,ys.length,(by show [V.ref gm,V.int (lead:Nat),V.int (((vN ys).length:Nat):Int)]=_;rw[Jq]),G,?_⟩;refine⟨_,rfl,p,_,_,_,rfl,rfl,SqT.of h1,(rfl:Xg [V.ref hp,V.int (lead:Nat),V.ref tp] 0=some (V.ref hp)),hp,_,rfl,.inr (SqT.of h2),fun l hl=>?_⟩;have s1:=Zy hl (.lst (vN hs));refine⟨_,rfl,_,rfl,l,_,_,_,rfl,rfl,SqL.of Zj,O7 eh,_,rfl,_,_,rfl,rfl,⟨by omega,by omega,by decide⟩,_,_,rfl,rfl,?_⟩;refine⟨_,rfl,_,rfl,l,_,_,(lead+ys.length) % fx.n,rfl,rfl,Zj,Zb9 (by rw[Jq];exact(Zt.mp eh).1),?_⟩;have eS:(vN hs).set ((lead+ys.length) % fx.n) (V.int (Builtin.bitXor ((h:Nat):Int) ((1:Int) * 2 ^ (((c:Nat):Int)).toNat)))=vN (hs.set ((lead+ys.length) % fx.n) (h ^^^ 2 ^ c)):=by
  rw[Rr,Zpf,Zev]
 have s2:Same H (upd (upd H l (.lst (vN hs))) l (.lst (vN (hs.set ((lead+ys.length) % fx.n) (h ^^^ 2 ^ c))))):=by
  rw[Uf];exact Zy hl _
 show Ziv _ _ _ _ (upd (upd H l (.lst (vN hs))) l (.lst ((vN hs).set ((lead+ys.length) % fx.n) (V.int (Builtin.bitXor ((h:Nat):Int) ((1:Int) * 2 ^ (((c:Nat):Int)).toNat))))));rw[eS];have hL2:upd (upd H l (.lst (vN hs))) l (.lst (vN (hs.set ((lead+ys.length) % fx.n) (h ^^^ 2 ^ c)))) l=some (.lst (vN (hs.set ((lead+ys.length) % fx.n) (h ^^^ 2 ^ c)))):=Zj;generalize upd (upd H l (.lst (vN hs))) l (.lst (vN (hs.set ((lead+ys.length) % fx.n) (h ^^^ 2 ^ c))))=H2 at s2 hL2 ⊢;refine⟨_,rfl,p,_,_,_,rfl,rfl,SqT.of (s2 _ _ h1),(rfl:Xg [V.ref hp,V.int (lead:Nat),V.ref tp] 2=some (V.ref tp)),_,rfl,Jl 1 (by decide),fun c1 hc1=>?_⟩;have s3:=s2.trans (Zy hc1 (.tup [.int (c:Nat)]));refine⟨tp,c1,_,_,rfl,rfl,s3 _ _ h3,Zj,Jl _ (by rw[Jq];show ys.length+1≤1000;omega),fun tq H4 s4 hq4=>?_⟩;have eY:vN ys++[V.int (c:Nat)]=vN (ys++[c]):=by unfold vN;rw[J3];rfl
 rw[eY] at hq4;have s5:=s3.trans s4;have hL4:H4 l=some (.lst (vN (hs.set ((lead+ys.length) % fx.n) (h ^^^ 2 ^ c)))):=s4 _ _ (Zy hc1 _ _ _ hL2);obtain⟨dg,hg⟩:=(G.same s5).g;obtain⟨dx,po,to,hx,_,_⟩:=(G.same s5).t;have e2:decide ((((vN (ys++[c])).length:Nat):Int) < ((fx.n:Nat):Int))=decide (ys.length+1 < fx.n):=by
  rw[Jq,Z3,List.length_singleton];exact decide_eq_decide.mpr ⟨fun z=>by omega,fun z=>by omega⟩
 refine⟨_,rfl,tq,_,rfl,.inr (SqT.of hq4),_,rfl,gm,CG,dg,_,_,rfl,hg,CGm.cl,CGm.nT,Up _ _,x,CT,dx,_,_,rfl,hx,C.cl,C.nN,Xk _ _ _,_,_,rfl,rfl,_,rfl,Xu e2 ?_⟩;by_cases cl:ys.length+1 < fx.n
 ·rw[Zf cl]
  refine Ub ⟨_,rfl,l,_,rfl,.inl ⟨SqL.of hL4,fun th hth=>?_⟩⟩;have s6:=s5.trans (Zy hth (.tup (vN (hs.set ((lead+ys.length) % fx.n) (h ^^^ 2 ^ c)))));refine⟨_,rfl,p,_,_,_,rfl,rfl,SqT.of (s6 _ _ h1),(rfl:Xg [V.ref hp,V.int (lead:Nat),V.ref tp] 1=some (V.int (lead:Nat))),_,rfl,Jl 3 (by decide),fun pp hpp=>⟨Jl 2 (by decide),fun r hr1=>?_⟩⟩;have a1:=Zy hpp (.tup [.ref th,.int (lead:Nat),.ref tq]);have a2:=Zy hr1 (.tup [.ref pp,.non]);refine q r pp _ lead (ys++[c]) none _ (s6.trans (a1.trans a2)) ⟨rfl,fun _=>⟨rfl,rfl,rfl⟩,fun z=>absurd z (by omega)⟩ Zj ⟨th,tq,a2 _ _ Zj,a2 _ _ (a1 _ _ Zj),a2 _ _ (a1 _ _ ?_)⟩;exact Zy hth _ _ _ hq4
 ·have cl2:ys.length+1=fx.n:=by omega
  rw[Zd cl];have T:Trk fx (ys++[c]):=by
   refine⟨?_,fun y hy=>?_,by rw[Z3];exact Nat.succ_pos _⟩
   ·refine List.nodup_append.mpr ⟨Pl.nd,List.nodup_cons.mpr ⟨Yv,List.nodup_nil⟩,fun y hy z hz=>?_⟩
    rw[Jt.mp hz];intro e;subst e;have:=Pl.apart hm hy;rw[hc] at this;cases this
   ·rcases Yt.mp hy with z | z
    ·exact(Pl.pk y (Q0 z)).2
    ·rw[Jt.mp z]
     exact(Pl.pk c (Xz (ys:=ys) hm hc)).2
  refine J9 ⟨_,rfl,_,rfl,p,_,_,_,rfl,rfl,SqT.of (s5 _ _ h1),(rfl:Xg [V.ref hp,V.int (lead:Nat),V.ref tp] 1=some (V.int (lead:Nat))),_,rfl,gm,dg,_,rfl,hg,Qy _ _ _ (by decide +kernel) (by decide +kernel),_,rfl,gm,x,tq,t,fx,ys++[c],rfl,ok,(G.same s5).g,(G.same s5).t,SqT.of hq4,T,fun i H5 t5 W=>?_⟩;have s6:=s5.trans t5;refine⟨gm,x,t,fx,lead,i,rfl,G.same s6,?_⟩;refine⟨_,rfl,l,_,rfl,.inl ⟨SqL.of (t5 _ _ hL4),fun th hth=>?_⟩⟩;have a0:=Zy hth (.tup (vN (hs.set ((lead+ys.length) % fx.n) (h ^^^ 2 ^ c))));refine⟨_,rfl,Jl 0 (by decide),fun tz htz=>⟨Jl 3 (by decide),fun pp hpp=>⟨_,rfl,Jl 2 (by decide),fun r hr1=>?_⟩⟩⟩;have a1:=Zy htz (.tup []);have a2:=Zy hpp (.tup [.ref th,.int (((lead+i) % fx.n:Nat):Int),.ref tz]);have a3:=Zy hr1 (.tup [.ref pp,.int (((lead+i) % fx.n:Nat):Int)]);exact q r pp _ ((lead+i) % fx.n) [] (some ((lead+i) % fx.n)) _ (s6.trans (a0.trans (a1.trans (a2.trans a3)))) ⟨rfl,fun z=>absurd z (by omega),fun _=>⟨rfl,rfl,i,W,rfl⟩⟩ Zj ⟨th,tz,a3 _ _ Zj,a3 _ _ (a2 _ _ (a1 _ _ Zj)),a3 _ _ (a2 _ _ Zj)⟩
end
end My
namespace L2
open PySem PySem.Spec PyProof.Rows
theorem Fun.okC{P:Program}{w:World}{K:W.Frag}{mg:Str→Option Value}{base:Heap}{x qual:Str}{st:Stmt}{f c:Addr}{fd:FuncData}{N ps:List Str}{k:Nat}{sp:Sp}(F:Fun K x qual st f fd)(hc:fd.code = .ref c)(S:FnScope N ps (Zp st))(len:∀ vs H Q E,sp vs H Q E→vs.length=ps.length)
  (hbody:∀(A:Around) (outer:List Env) (s:Shared) (H:Hp) (vs:List V) (Q:VK) (E:XK),Room k (A.deeper (envOfC qual (Zp st) s.heap.objs.size f (.ref c)))→sp vs H Q E →
   ∃ t,PSs (Qk Y4 P w K mg base N qual (Zp st) f (.ref c) A outer s H E).nox (Y0 st) t∧t { nx:=fun _ H'=>Q .non H',rt:=Q } (start N vs) H):FnOk P w K mg base Y4 (k+1) f fd ps sp:=by
 obtain⟨oc,od,kV,doc,pm,an,cdv,ct,osl,rfl,lk,hcd⟩:=F.ex;have hc':cdv = .ref c:=hc;subst hc';refine Zcf lk hcd S len fun A outer s H vs Q E hr hsp=>?_;obtain⟨t,h,q⟩:=hbody A outer s H vs Q E hr hsp;exact⟨t,h.nox,q⟩
theorem SameT.trans{P:Addr}{H H1 H2:Hp}(a:SameT P H H1)(b:SameT P H1 H2):SameT P H H2:=fun c o n e=>b c o n (a c o n e)
theorem Same.t{P:Addr}{H H1:Hp}(a:Same H H1):SameT P H H1:=fun c o _ e=>a c o e
theorem Tab2.same{H H1:Hp}{P:Addr}{pos:Pos}{q:Str}(h:Tab2 H P pos q)(s:Same H H1):Tab2 H1 P pos q:=by
 obtain⟨c,n,a,b⟩:=h;exact⟨c,n,s _ _ a,s _ _ b⟩
theorem TabSt.same{H H1:Hp}{P:Addr}{pos:Pos}{q:Str}(h:TabSt H P pos q)(s:Same H H1):TabSt H1 P pos q:=by
 rcases h with h | h
 ·exact .inl (s _ _ h)
 ·exact .inr (h.same s)
theorem Tab2.some{H:Hp}{P:Addr}{pos:Pos}{q:Str}(h:Tab2 H P pos q):∃ ps,H P=some (.tbl ps):=by
 obtain⟨c,n,a,b⟩:=h;exact⟨_,a⟩
theorem TabSt.some{H:Hp}{P:Addr}{pos:Pos}{q:Str}(h:TabSt H P pos q):∃ ps,H P=some (.tbl ps):=by
 rcases h with h | h
 ·exact⟨_,h⟩
 ·exact h.some
theorem SameT.keep{P:Addr}{H H1:Hp}{pos:Pos}{q:Str}(s:SameT P H H1)(t:TabSt H P pos q){b:Addr}{o:HO}(e:H b=some o)(n:∀ ps,o ≠ .tbl ps):H1 b=some o:=s b o (fun z=>by
 obtain⟨ps,e2⟩:=t.some;rw[z,e2] at e;exact n ps (Zn e).symm) e
theorem SameT.seq{K:W.Frag}{P:Addr}{H H1:Hp}{pos:Pos}{q:Str}(s:SameT P H H1)(t:TabSt H P pos q){a:Addr}{xs:List V}(h:SqL K H a xs):SqL K H1 a xs:=by
 rcases h with(e | ⟨o,e⟩) | e
 ·exact .inl (.inl (s.keep t e (fun _ z=>nomatch z)))
 ·exact .inl (.inr ⟨o,s.keep t e (fun _ z=>nomatch z)⟩)
 ·exact .inr e
theorem SameT.free{P:Addr}{H H1:Hp}{pos:Pos}{q:Str}(s:SameT P H H1)(t2:Tab2 H1 P pos q){l:Addr}(h:H1 l=none):H l=none:=by
 cases e:H l with
 | none=>rfl
 | some o=>
  by_cases n:l=P
  ·obtain⟨ps,e2⟩:=t2.some
   rw[n,e2] at h;cases h
  ·rw[s l o n e] at h
   cases h
section
variable{κ:Type} [DecidableEq κ]
def Q6(kvs:List (κ×V))(k:κ):Option V:=(kvs.find? fun kv=>decide (kv.1=k)).map (·.2)
def N4(kvs:List (κ×V))(k:κ)(v:V):List (κ×V):=
 if(kvs.any fun kv=>decide (kv.1=k))=true then kvs.map (fun kv=>if kv.1=k then(kv.1,v) else kv) else kvs++[(k,v)]
theorem R3{p:κ×V}{r:List (κ×V)}{k:κ}(e:p.1=k):Q6 (p :: r) k=some p.2:=by simp [Q6,List.find?_cons,e]
theorem R4{p:κ×V}{r:List (κ×V)}{k:κ}(e:¬ p.1=k):Q6 (p :: r) k=Q6 r k:=by simp [Q6,List.find?_cons,e]
theorem O6(k:κ):∀ kvs:List (κ×V),(kvs.any fun kv=>decide (kv.1=k))=(Q6 kvs k).isSome
 | []=>rfl
 | p :: r=>by
  rw[List.any_cons];by_cases e:p.1=k
  ·simp only[R3 e,Zf e,Bool.true_or,Option.isSome_some]
  ·rw[R4 e,Zd e,Bool.false_or];exact O6 k r
theorem E3(kvs:List (κ×V))(k:κ)(v:V):(N4 kvs k v).length≤kvs.length+1:=by
 unfold N4;split
 ·rw[Zi];omega
 ·rw[Z3,Jk,List.length_nil];omega
theorem RelO.isSome_eq{o:Option V}{u:Option Value}(r:RelO o u):o.isSome=u.isSome:=by
 cases o with
 | none=>cases u with
  | none=>rfl
  | some _=>exact(show False from r).elim
 | some _=>cases u with
  | none=>exact(show False from r).elim
  | some _=>rfl
theorem KV.val{kvs:List (κ×V)}{vs:List (κ×Value)}(r:KV kvs vs)(k:κ):RelO (Q6 kvs k) (valueAt vs k):=by
 unfold KV at r
 induction r with
 | nil=>exact True.intro
 | @cons p q ps qs h t ih=>
  obtain⟨h1,h2⟩:=h;by_cases e:p.1=k
  ·have e':q.1=k:=h1.symm.trans e
   have b:valueAt (q :: qs) k=some q.2:=by simp [valueAt,List.find?_cons,e']
   rw[R3 e,b];exact h2
  ·have e':¬ q.1=k:=fun z=>e (h1.trans z)
   have b:valueAt (q :: qs) k=valueAt qs k:=by simp [valueAt,List.find?_cons,e']
   rw[R4 e,b];exact ih
theorem KV.any{kvs:List (κ×V)}{vs:List (κ×Value)}(r:KV kvs vs)(k:κ):(kvs.any fun kv=>decide (kv.1=k))=vs.any fun kv=>decide (kv.1=k):=by
 unfold KV at r
 induction r with
 | nil=>rfl
 | cons h t ih=>rw[List.any_cons,List.any_cons,ih,h.1]
theorem KV.repl{kvs:List (κ×V)}{vs:List (κ×Value)}(r:KV kvs vs)(k:κ){y:V}{u:Value}(ry:RelV y u) :
  KV (kvs.map fun kv=>if kv.1=k then(kv.1,y) else kv) (vs.map fun kv=>if kv.1=k then(kv.1,u) else kv):=by
 unfold KV at r ⊢
 induction r with
 | nil=>exact .nil
 | @cons p q ps qs h t ih=>
  rw[List.map_cons,List.map_cons];refine .cons ?_ ih;obtain⟨h1,h2⟩:=h;by_cases e:p.1=k
  ·rw[if_pos e,if_pos (h1.symm.trans e)];exact⟨h1,ry⟩
  ·rw[if_neg e,if_neg (fun z=>e (h1.trans z))];exact⟨h1,h2⟩
theorem KV.put{kvs:List (κ×V)}{vs:List (κ×Value)}(r:KV kvs vs)(k:κ){y:V}{u:Value}(ry:RelV y u):KV (N4 kvs k y) (stored vs k u):=by
 unfold N4 stored;rw[r.any k];by_cases e:(vs.any fun kv=>decide (kv.1=k))=true
 ·rw[if_pos e,if_pos e];exact r.repl k ry
 ·rw[if_neg e,if_neg e];exact Paired.snoc r ⟨rfl,ry⟩
theorem KV.length{kvs:List (κ×V)}{vs:List (κ×Value)}(r:KV kvs vs):kvs.length=vs.length:=Paired.length r
end
theorem Zb6{P:Program}{w:World}{k:Xs}{u:Value}(r:RelV (kV k) u):(Ul P w).is k u=true:=by
 cases k with
 | inl i=>obtain⟨t,e⟩:=(show ∃ t,u=Value.int i t from r);subst e;exact Kb P w i t
 | inr x=>obtain⟨t,e⟩:=(show ∃ t,u=Value.str x t from r);subst e;exact Ka P w x t
theorem Ms{P:Program}{w:World}:∀{ks:List Xs} {us:List Value},Vals (ks.map kV) us→ItemsAre (Ul P w) ks us
 | [],_,r=>by rw[List.map_nil] at r;cases r;exact .nil
 | k :: ks,_,r=>by
  rw[List.map_cons] at r;cases r with
  | cons h t=>exact .cons (Zb6 h) (Ms t)
abbrev KT(H:Hp):List (List Xs×V)→List (List Xs×Addr×Value)→Prop:=Paired fun p q=>p.1=q.1∧H q.2.1=some (.tup (p.1.map kV))∧RelV p.2 q.2.2
theorem KT.val{H:Hp}{kvs:List (List Xs×V)}{xs:List (List Xs×Addr×Value)}(r:KT H kvs xs)(k:List Xs):RelO (Q6 kvs k) ((atKey xs k).map (·.2)):=by
 induction r with
 | nil=>exact True.intro
 | @cons p q ps qs h t ih=>
  obtain⟨h1,_,h2⟩:=h;by_cases e:p.1=k
  ·have e':q.1=k:=h1.symm.trans e
   have b:atKey (q :: qs) k=some q.2:=by simp [atKey,List.find?_cons,e']
   rw[R3 e,b];exact h2
  ·have e':¬ q.1=k:=fun z=>e (h1.trans z)
   have b:atKey (q :: qs) k=atKey qs k:=by simp [atKey,List.find?_cons,e']
   rw[R4 e,b];exact ih
theorem KT.repl{H:Hp}{kvs:List (List Xs×V)}{xs:List (List Xs×Addr×Value)}(r:KT H kvs xs)(k:List Xs){y:V}{u:Value}(ry:RelV y u) :
  KT H (kvs.map fun kv=>if kv.1=k then(kv.1,y) else kv) (xs.map (putAt k u)):=by
 induction r with
 | nil=>exact .nil
 | @cons p q ps qs h t ih=>
  rw[List.map_cons,List.map_cons];refine .cons ?_ ih;obtain⟨h1,h2,h3⟩:=h;unfold putAt;by_cases e:p.1=k
  ·rw[if_pos e,if_pos (h1.symm.trans e)];exact⟨h1,h2,ry⟩
  ·rw[if_neg e,if_neg (fun z=>e (h1.trans z))];exact⟨h1,h2,h3⟩
theorem KT.put{H:Hp}{kvs:List (List Xs×V)}{xs:List (List Xs×Addr×Value)}(r:KT H kvs xs)(k:List Xs){b:Addr}{y:V}{u:Value}(hb:H b=some (.tup (k.map kV)))(ry:RelV y u) :
  KT H (N4 kvs k y) (storedH xs k b u):=by
 have e:(kvs.any fun kv=>decide (kv.1=k))=(atKey xs k).isSome:=by
  rw[O6,(r.val k).isSome_eq,Option.isSome_map]
 unfold N4 storedH;rw[e];by_cases q:(atKey xs k).isSome=true
 ·rw[if_pos q,if_pos q];exact r.repl k ry
 ·rw[if_neg q,if_neg q];exact Paired.snoc r ⟨rfl,hb,ry⟩
theorem KT.keeps{H H':Hp}{kvs:List (List Xs×V)}{xs:List (List Xs×Addr×Value)}(r:KT H kvs xs)(ht:∀ b ys,H b=some (.tup ys)→H' b=some (.tup ys)):KT H' kvs xs:=
 Paired.mapP r fun _ _ z=>⟨z.1,ht _ _ z.2.1,z.2.2⟩
section
variable{P:Program}{w:World}{H:Hp}{h:Heap}{a:Addr}
theorem Zld{u:HO}(ok:HOk P w H h)(e:Rd H a u):ObjOk P w H h a u:=e.ok ok
theorem Zh6{kvs:List (Xs×V)}(ok:HOk P w H h)(e:Rd H a (.dK kvs)):kvs.length≤sizeLine∧(a == sysModules)=false∧∃ vs,KV kvs vs∧h.DictOf (Ul P w) a vs:=
 show ObjOk P w H h a (.dK kvs) from Zld ok e
theorem Zlo{kvs:List (Xs×V)}(ok:HOk P w H h)(e:H a=some (.dK kvs)):kvs.length≤sizeLine∧(a == sysModules)=false∧∃ vs,KV kvs vs∧h.DictOf (Ul P w) a vs:=Zh6 ok (.inl e)
theorem Zaq{ks:List Xs}(ok:HOk P w H h)(e:H a=some (.tup (ks.map kV))):(tupleKind (Ul P w)).is h ks a:=by
 obtain⟨_,its,r,o,h1,h2,n,h3⟩:=(show ObjOk P w H h a (.tup (ks.map kV)) from ok a _ e);exact⟨o,its.toArray,n,h1,h2,h3,by simpa using Ms r⟩
theorem Zh5{kvs:List (List Xs×V)}(ok:HOk P w H h)(e:Rd H a (.dT kvs)):kvs.length≤sizeLine∧(a == sysModules)=false ∧
  ∃ xs,KT H kvs xs∧h.DictOfH (tupleKind (Ul P w)) a xs:=by
 obtain⟨z,y,xs,r,o,es,ep,h1,h2,h3,h4,h5⟩:=(show ObjOk P w H h a (.dT kvs) from Zld ok e);refine⟨z,y,xs,r,o,es,ep,h1,h2,h3,h4,fun x hx=>?_,h5⟩;have all:∀{l:List (List Xs×V)} {m:List (List Xs×Addr×Value)},KT H l m→∀ x∈m,(tupleKind (Ul P w)).is h x.1 x.2.1:=by
  intro l m q
  induction q with
  | nil=>intro x hx;exact nomatch hx
  | @cons p q ps qs hq t ih=>
   intro x hx;rcases List.mem_cons.mp hx with e | hx
   ·subst e
    exact Zaq ok (by rw[← hq.1];exact hq.2.1)
   ·exact ih x hx
 exact all r x hx
theorem Zoy{kvs:List (List Xs×V)}(ok:HOk P w H h)(e:H a=some (.dT kvs)):kvs.length≤sizeLine∧(a == sysModules)=false ∧
  ∃ xs,KT H kvs xs∧h.DictOfH (tupleKind (Ul P w)) a xs:=Zh5 ok (.inl e)
end
def Zk5(H:Hp)(a:Addr)(y:V)(r:Option V):Prop:=
 (∃ kvs k,Rd H a (.dK kvs)∧y=kV k∧r=Q6 kvs k)∨∃ kvs k b,Rd H a (.dT kvs)∧y = .ref b∧H b=some (.tup (k.map kV))∧r=Q6 kvs k
def Zo6(H:Hp)(a:Addr)(y v:V)(H':Hp):Prop:=
 (∃ kvs k,H a=some (.dK kvs)∧y=kV k∧kvs.length < sizeLine∧H'=upd H a (.dK (N4 kvs k v))) ∨
 ∃ kvs k b,H a=some (.dT kvs)∧y = .ref b∧H b=some (.tup (k.map kV))∧kvs.length < sizeLine∧H'=upd H a (.dT (N4 kvs k v))
section
variable{X:Cx}{pins:List (Addr×Obj)}{σ:St}{H:Hp}{s:Shared}{a:Addr}{y v:V}{u r:Value}{o:Option V}{A:Around}{E:Value→Shared→Prop}
theorem Inv.big(I:Inv X pins σ H s):sysModules < s.heap.objs.size:=by
 have h:mainGlobals < s.heap.objs.size:=(I.mod.glob.keeps I.bk).lt;exact Nat.lt_trans (by decide) h
theorem Zed{Q:Value→Shared→Prop}(hu:A.units+1 < cLine)(I:Inv X pins σ H s)(g:Zk5 H a y (some v))(ry:RelV y u)(h:∀ w' s',Inv X pins σ H s'→RelV v w'→Q w' s') :
  wpAny (model X.prog X.w) A (getItem (.ref a) u) Q E s:=by
 rcases g with⟨kvs,k,e,ey,l⟩ | ⟨kvs,k,b,e,ey,eb,l⟩
 ·subst ey
  obtain⟨z,hd,vs,rel,dd⟩:=Zh6 I.hok e;obtain⟨w',hw,rw'⟩:=RelO.some_of (v:=v) (o:=valueAt vs k) (by rw[l];exact rel.val k);exact wpAny_getItem_of (Zb6 ry) dd.mapOf hw (h w' _ (I.tok _) rw')
 ·subst ey
  cases (show u=Value.ref b from ry);obtain⟨z,hd,xs,rel,dd⟩:=Zh5 I.hok e;obtain⟨w',hw,rw'⟩:=RelO.some_of (v:=v) (o:=(atKey xs k).map (·.2)) (by rw[l];exact rel.val k);obtain⟨p,hp,hp2⟩:=Option.map_eq_some_iff.mp hw;refine wpAny_getItem_heap (tupleKind_room_in1 hu) (Zaq I.hok eb) dd hp ?_;rw[hp2];exact h w' _ (I.tok _) rw'
theorem Ow{h':Heap}{t':Nat}{ob:HO}(I:Inv X pins σ H s)(mu:Mut (H a))(hs:Heap.SameBut a s.heap h')(he:∃ q,h'.get? a=some q)(new:ObjOk X.prog X.w (upd H a ob) h' a ob) :
  Inv X pins σ (upd H a ob) { s with heap:=h',toks:=t' }:=
 I.write (x:=a) (e:=a) mu (.inl rfl) (fun b q hb z=>(hs.2 b hb).trans z) he new
theorem Zh7{P:Program}{w:World}{H':Hp}{h':Heap}{kvs:List (Xs×V)}{vs:List (Xs×Value)}(z:kvs.length≤sizeLine)(hd:(a == sysModules)=false)(rel:KV kvs vs)(dd:h'.DictOf (Ul P w) a vs) :
  ObjOk P w H' h' a (.dK kvs):=⟨z,hd,vs,rel,dd⟩
theorem Zec{H':Hp}{Q:Unit→Shared→Prop}(hu:A.units+1 < cLine)(I:Inv X pins σ H s)(g:Zo6 H a y v H')(ry:RelV y u)(rv:RelV v r)(h:∀ s',Inv X pins σ H' s'→Q () s') :
  wpAny (model X.prog X.w) A (setItem (.ref a) u r) Q E s:=by
 rcases g with⟨kvs,k,e,ey,l,eH⟩ | ⟨kvs,k,b,e,ey,eb,l,eH⟩
 ·subst ey eH
  obtain⟨z,hd,vs,rel,dd⟩:=Zlo I.hok e;have hz:vs.length≤sizeLine:=by rw[← rel.length];exact z
  have hl:(N4 kvs k v).length≤sizeLine:=by have:=E3 kvs k v;omega
  refine wpAny_setItem_pairs (hsz:=hz) (Zb6 ry) dd fun h' dd' hs=>h _ ?_;have he:∃ q,h'.get? a=some q:=let ⟨q,_,_,hq,_⟩:=dd';⟨q,hq⟩;exact Ow I (by rw[e];exact True.intro) hs he (Zh7 hl hd (rel.put k rv) dd')
 ·subst ey eH
  cases (show u=Value.ref b from ry);obtain⟨z,hd,xs,rel,dd⟩:=Zoy I.hok e;have hz:xs.length≤sizeLine:=by rw[← Paired.length rel];exact z
  have hl:(N4 kvs k v).length≤sizeLine:=by have:=E3 kvs k v;omega
  refine wpAny_setItem_heap (hsz:=hz) (tupleKind_room_in1 hu) (Zaq I.hok eb) dd fun h' dd' hs=>h _ ?_;obtain⟨q,es,ep,hq,h2,h3,h4,_,h5⟩:=dd';refine Ow I (by rw[e];exact True.intro) hs ⟨q,hq⟩ ⟨hl,hd,_,(rel.put k eb rv).keeps fun c ys ec=>?_,q,es,ep,hq,h2,h3,h4,h5⟩;rw[Zu (X3 ec e (fun z=>nomatch z))];exact ec
end
section
variable{X:Cx}{pins:List (Addr×Obj)}{σ:St}{H:Hp}{s:Shared}{a:Addr}{kvs:List (Xs×V)}{k:Xs}{u:Value}{A:Around}{E:Value→Shared→Prop}
end
def Zo4(i:Expr):Prop:=∀ ov iv,subscripted i false ov iv=operate [ov,iv] (getItem ov iv)
theorem Ziz{prog:Program}{w:World}{A:Around}{E:Value→Shared→Prop}{s:Shared}{env:Env}{value slice:Expr}{pos:Pos}{T id:String}{Q:Value→Shared→Prop}
  (hl:typeLookup (.type T) "__getitem__" = pure (some (.builtin id))) (hs:Zo4 slice)
  (h:wpAny (model prog w) A (eval value env) (fun o s₁=>wpAny (model prog w) A (eval slice env) (fun i s₂=>s₂.TypeIs o T∧wpAny (model prog w) A (getItem o i) Q E s₂) E s₁) E s) :
  wpAny (model prog w) A (eval (.Subscript value slice pos) env) Q E s:=by
 refine Subscript_ (wpAny_mono h (fun o s₁ h₁=>wpAny_mono h₁ (fun i s₂ h₂=>?_) fun _ _ x=>x) fun _ _ x=>x);obtain⟨hT,h₂⟩:=h₂;unfold subscriptTail;refine Zc ?_;rw[getitemInPython_of_ne hT.not_modules];refine Zc (wpAny_specialOf hT hl ?_);have fin:wpAny (model prog w) A (subscripted slice false o i) (fun r s₃=>wpAny (model prog w) A (letTemporaryGo value o r >>= fun _=>pure r) Q E s₃) E s₂:=by
  rw[hs o i];exact wpAny_operating (wpAny_mono h₂ (fun r s₃ h₃=>Zc (wpAny_letTemporaryGo (wpAny_pure h₃))) fun _ _ x=>x)
 first
  | exact wpAny_pure (Zc fin)
  | exact Zc (wpAny_pure (Zc fin))
  | exact Zc fin
theorem Kq{X:Cx}{pins:List (Addr×Obj)}{σ:St}{H:Hp}{s:Shared}{a:Addr}{y:V}{o:Option V}(I:Inv X pins σ H s)(g:Zk5 H a y o):s.TypeIs (.ref a) "dict":=by
 rcases g with⟨kvs,k,e,_,_⟩ | ⟨kvs,k,b,e,_,_,_⟩
 ·obtain⟨_,_,vs,_,dd⟩:=Zh6 I.hok e
  exact dd.typeIs
 ·obtain⟨_,_,xs,_,dd⟩:=Zh5 I.hok e
  exact dd.typeIs
def Znz(td ty:TE):TE:=fun σ H Q=>td σ H fun x H1=>ty σ H1 fun y H2=>∃ a v,x = .ref a∧Zk5 H2 a y (some v)∧Q v H2
def Zod(td ty tv:TE):TS:=fun D σ H=>tv σ H fun v H1=>td σ H1 fun x H2=>ty σ H2 fun y H3=>∃ a H4,x = .ref a∧Zo6 H3 a y v H4∧D.nx σ H4
section
variable{X:Cx}{o i e value:Expr}{pos pos' tpos:Pos}{td ty tv:TE}
theorem Yl(hu:X.A.units+1 < cLine)(ho:PE X o td)(hi:PE X i ty)(hs:Zo4 i):PE X (.Subscript o i pos) (Znz td ty):=by
 intro pins s σ H Q I h;refine Ziz PySem.F.slot_dict_getitem.lookup hs (Y5 (ho pins s σ H _ I h) fun u s1 ⟨x,H1,I1,rx,q1⟩=>Y5 (hi pins s1 σ H1 _ I1 q1) fun iv s2 ⟨y,H2,I2,ry,a,v,ex,g,q2⟩=>?_);subst ex;obtain rfl:u=Value.ref a:=rx;exact⟨Kq I2 g,Zed hu I2 g ry fun w' s3 I3 rw'=>⟨v,H2,I3,rw',q2⟩⟩
theorem Bm(hu:X.A.units+1 < cLine)(ho:PE X o td)(hi:PE X i ty)(hv:PE X value tv)(hs:swapsWith value (some (.Subscript o i pos')) pos.line X.env=pure false) :
  PS X (.Assign [.Subscript o i pos'] value pos) (Zod td ty tv):=by
 intro pins s σ H D I h;refine wpAny_Assign_Subscript (Y5 (hv pins s σ H _ I h) fun r s1 ⟨v,H1,I1,rv,q1⟩=>Y5 (ho pins s1 σ H1 _ I1 q1) fun u s2 ⟨x,H2,I2,rx,q2⟩=>Y5 (hi pins s2 σ H2 _ I2 q2) fun iv s3 ⟨y,H3,I3,ry,a,H4,ex,g,q3⟩=>?_) hs;subst ex;obtain rfl:u=Value.ref a:=rx;exact Zec hu I3 g ry rv fun s4 I4=>⟨σ,H4,I4,q3⟩
end
theorem Zh8{P:Program}{w:World}{H:Hp}(h:Heap)(hb:sysModules < h.objs.size):ObjOk P w H (h.push { cls:=.type "dict",data:=.dict #[] }) h.objs.size (.dK []):=
 ⟨Nat.zero_le _,beq_eq_false_iff_ne.mpr (Ne.symm (Nat.ne_of_lt hb)),[],.nil,Heap.DictOf.new h⟩
section
variable{X:Cx}{pos:Pos}
end
def Sb:List (TE×TE)→St→Hp→(List (V×V)→Hp→Prop)→Prop
 | [],_,H,Q=>Q [] H
 | (tk,tv) :: r,σ,H,Q=>tk σ H fun x H1=>tv σ H1 fun y H2=>Sb r σ H2 fun ps H3=>Q ((x,y) :: ps) H3
abbrev VV:List (V×V)→List (Value×Value)→Prop:=Paired fun p q=>RelV p.1 q.1∧RelV p.2 q.2
def PPs(X:Cx)(pos:Pos)(keys:List (Option Expr))(values:List Expr)(trs:List (TE×TE)):Prop:=
 ∀(pins:List (Addr×Obj)) (s:Shared) (σ:St) (H:Hp) (Q:List (V×V)→Hp→Prop),Inv X pins σ H s→Sb trs σ H Q →
  wpAny (model X.prog X.w) X.A (evalPairs (pairTrees keys values X.env pos)) (fun vs s'=>∃ ps H',Inv X pins σ H' s'∧VV ps vs∧Q ps H') X.xe s
theorem Zjk{X:Cx}{pos:Pos}:PPs X pos [] [] []:=fun pins s σ H Q I h=>pairTrees_nil_walk ⟨[],H,I,.nil,h⟩
theorem Gp{X:Cx}{pos:Pos}{k v:Expr}{ks:List (Option Expr)}{vs:List Expr}{tk tv:TE}{trs:List (TE×TE)}(hk:PE X k tk)(hv:PE X v tv)(hr:PPs X pos ks vs trs) :
  PPs X pos (some k :: ks) (v :: vs) ((tk,tv) :: trs):=fun pins s σ H Q I h=>
 pairTrees_cons_walk (Y5 (hk pins s σ H _ I h) fun u s1 ⟨x,H1,I1,rx,q1⟩=>Y5 (hv pins s1 σ H1 _ I1 q1) fun w2 s2 ⟨y,H2,I2,ry,q2⟩=>
  Y5 (hr pins s2 σ H2 _ I2 q2) fun ws s3 ⟨ps,H3,I3,rel,q3⟩=>⟨(x,y) :: ps,H3,I3,.cons ⟨rx,ry⟩ rel,q3⟩)
def Td(kvs more:List (Xs×V)):List (Xs×V):=more.foldl (fun acc kv=>N4 acc kv.1 kv.2) kvs
theorem KV.merge:∀{more:List (Xs×V)} {rs:List (Xs×Value)} {kvs:List (Xs×V)} {vs:List (Xs×Value)},KV more rs→KV kvs vs→KV (Td kvs more) (merged vs rs):=by
 intro more rs kvs vs r;unfold KV at r
 induction r generalizing kvs vs with
 | nil=>intro q;exact q
 | @cons p q ps qs h t ih=>
  intro r0;have e:KV (N4 kvs p.1 p.2) (stored vs q.1 q.2):=by
   have:=r0.put p.1 h.2;rw[← h.1];exact this
  exact ih e
theorem Nq:∀(more kvs:List (Xs×V)),(Td kvs more).length≤kvs.length+more.length
 | [],kvs=>by show kvs.length≤kvs.length+0;omega
 | p :: r,kvs=>by
  have h1:=Nq r (N4 kvs p.1 p.2);have h2:=E3 kvs p.1 p.2;show(Td (N4 kvs p.1 p.2) r).length≤_;rw[Jk];omega
theorem Tu{P:Program}{w:World}:∀{kvs:List (Xs×V)} {ws:List (Value×Value)},VV (kvs.map fun kv=>(kV kv.1,kv.2)) ws→∃ rs,Carries (Ul P w) ws rs∧KV kvs rs
 | [],_,r=>by rw[List.map_nil] at r;cases r;exact⟨[],True.intro,.nil⟩
 | p :: kvs,_,r=>by
  rw[List.map_cons] at r;cases r with
  | @cons a b as bs h t=>
   obtain⟨rs,c,q⟩:=Tu (P:=P) (w:=w) t;obtain⟨b1,b2⟩:=b;exact⟨(p.1,b2) :: rs,⟨Zb6 h.1,rfl,c⟩,.cons ⟨rfl,h.2⟩ q⟩
def Zny(trs:List (TE×TE)):TE:=fun σ H Q=>∀ p,H p=none→Sb trs σ (upd H p (.dK [])) fun ps H2=>H2 p=some (.dK [])∧∃ kvs:List (Xs×V),ps=kvs.map (fun kv=>(kV kv.1,kv.2))∧kvs.length≤15∧Q (.ref p) (upd H2 p (.dK (Td [] kvs)))
theorem Zjo{X:Cx}{pos:Pos}{keys:List (Option Expr)}{values:List Expr}{trs:List (TE×TE)}(h:PPs X pos keys values trs)(hall:keys.all (·.isSome)=true)(hl:keys.length=values.length)(h0:keys≠[])
  (h15:keys.length≤15):PE X (.Dict keys values pos) (Zny trs):=by
 intro pins s σ H Q I q;have hn:=I.hok.fresh (Nat.le_refl s.heap.objs.size);have I1:=I.laid (a:=s.heap.objs.size) (o:=.dK []) (h':=s.heap.push { cls:=.type "dict",data:=.dict #[] }) (t':=s.toks) (fun _ _ q=>Ze _ q) (Nat.le_refl _) (Zh8 s.heap I.big);refine wpAny_Dict_walk (knd:=Ul X.prog X.w) hall hl h0 h15 (Y5 (h pins _ σ _ _ I1 (q _ hn)) fun ws s2 ⟨ps,H2,I2,rel,e,kvs,ep,lk,q2⟩=>?_);subst ep;obtain⟨rs,c,rk⟩:=Tu (P:=X.prog) (w:=X.w) rel;obtain⟨z,hd,vs0,r0,dd⟩:=Zlo I2.hok e;cases r0;refine⟨rs,c,dd,fun h' dd' hs=>⟨.ref s.heap.objs.size,_,?_,rfl,q2⟩⟩;have hz:(Td [] kvs).length≤sizeLine:=by
  have h1:=Nq kvs [];rw[List.length_nil] at h1;rw[sizeLine_eq];omega
 have he:∃ q,h'.get? s.heap.objs.size=some q:=let ⟨q,_,_,hq,_⟩:=dd';⟨q,hq⟩;exact Ow I2 (by rw[e];exact True.intro) hs he (Zh7 hz hd (rk.merge .nil) dd')
section
variable{X:Cx}{pins:List (Addr×Obj)}{σ:St}{H:Hp}{s:Shared}{a:Addr}{y d:V}{u r:Value}{o:Option V}{A:Around}{E:Value→Shared→Prop}
end
section
variable{X:Cx}{o e f:Expr}{apos cpos:Pos}{td ty tx:TE}
end
section
variable{X:Cx}{pins:List (Addr×Obj)}{σ:St}{H:Hp}{s:Shared}{a:Addr}{kvs:List (Xs×V)}{A:Around}{E:Value→Shared→Prop}
end
section
variable{X:Cx}{pins:List (Addr×Obj)}{σ:St}{H:Hp}{s:Shared}{a:Addr}{y:V}{u:Value}{A:Around}{E:Value→Shared→Prop}
end
end L2
namespace My
open PySem L2
abbrev Zfx:Stmt:=top 63
abbrev S6:Stmt:=top 64
abbrev Nz:Stmt:=top 65
abbrev Sw:Stmt:=top 66
abbrev Af:Stmt:=top 67
abbrev Bl:Stmt:=top 68
abbrev Zbp:Stmt:=top 73
abbrev Zaa:Pos:=⟨338,43,338,88⟩
abbrev Zjm:Pos:=⟨366,52,366,87⟩
abbrev Ak:Pos:=⟨450,33,450,63⟩
section
variable{P:Program}{w:World}{K:W.Frag}{mg:Str→Option Value}{base:Heap}{f g:Addr}{fd gd:FuncData}
theorem Zee(xs:List V)(c:Nat)(hc:c≤xs.length):Rp xs (some (c:Int)) none=xs.drop c:=by
 unfold Rp;rw[HT.sIx_nat,HT.sIx_none,Nat.min_eq_left hc];exact List.take_of_length_le (by rw[List.length_drop];exact Nat.le_refl _)
theorem Zib(xs:List V)(c d:Nat)(hc:c≤xs.length)(hd:d≤xs.length):Rp xs (some (c:Int)) (some (d:Int))=(xs.drop c).take (d - c):=by
 unfold Rp;rw[HT.sIx_nat,HT.sIx_nat,Nat.min_eq_left hc,Nat.min_eq_left hd]
def Dw(K:W.Frag):Sp:=fun vs H Q _=>∃(a:Addr) (ns:List Int) (k:Nat),vs=[.ref a,.int (k:Nat)]∧SqL K H a (ns.map V.int)∧k≤1000∧∀ z:Int,Q (.int z) H
abbrev Mo:List Str:=["_law_script","_law_k"]
theorem scCell:FnScope ["_law_script","_law_k","_law_base"] Mo (Zp Zfx):=⟨rfl,rfl,rfl,by decide +kernel,rfl,by decide +kernel,by decide +kernel⟩
theorem Zj8{k:Nat}(F:Fun K "_law_cell" "_law_cell" Zfx f fd)(ml:mg "len" = none):FnOk P w K mg base Y4 (k+1) f fd Mo (Dw K):=by
 refine F.ok scCell (fun vs H Q E h=>?_) (fun cdv A outer s H vs Q E hr h=>?_)
 ·obtain⟨a,ns,k,rfl,_⟩:=h
  rfl
 obtain⟨a,ns,j,rfl,hS,h1,q⟩:=h;refine⟨_,Zg (Ju (Z7 Zbz (pv 1) (Jf Je rfl ml Z5 (Za (pv 0) Zh)) (Jd _)) (Zq (Z6 (Jn Yd (pv 0) (pv 1) (fun _ _=>rfl)))) Jg)
  (Zg (Z4 (i:=2) scCell.nd rfl (Or.inl rfl) (Z0 Yq (Z0 Xd Zl (pv 1)) Zl))
  (Zg (Ju (Z7 Qg (Jf Je rfl ml Z5 (Za (pv 0) Zh)) Zl (Jd _))
   (Zq (Z4 (i:=2) scCell.nd rfl (Or.inl rfl) (Z0 Yq (pv 2) (Z0 Xd (Z0 Yg (Jn Yd (pv 0) (Z0 Yg (Z0 Xd (pv 1) Zl) (Jf Je rfl ml Z5 (Za (pv 0) Zh))) (fun _ _=>rfl)) Zl) Zl)))) Jg)
  (Zq (Z6 (Z0 Yq (Z0 Yg (Z0 Xd (pv 2) (pv 2)) Zl) (pv 1)))))),?_⟩
 have hl:(ns.map V.int).length=ns.length:=Zi _;refine⟨_,rfl,_,rfl,a,_,rfl,.inl hS,_,_,rfl,rfl,_,rfl,Bz (fun c=>?_) (fun c=>?_)⟩
 ·have c':((j:Nat):Int) < (((ns.map V.int).length:Nat):Int):=Jx c
  have hj:j < ns.length:=by rw[hl] at c';omega
  exact⟨_,rfl,_,rfl,a,_,_,_,rfl,rfl,hS,Um (by rw[Zm,Zb hj];rfl),q _⟩
 refine⟨_,rfl,_,_,rfl,rfl,.inl ⟨by decide,by decide⟩,_,_,rfl,rfl,?_⟩;refine⟨_,rfl,a,_,rfl,.inl hS,_,_,rfl,rfl,_,rfl,?_⟩;refine Zm8 (fun σ H'=>H'=H∧∃ z:Int,0≤z∧z < 100000000000000∧σ=[some (.ref a),some (.int (j:Nat)),some (.int z)]) (fun c D' _ nx=>?_) (fun c D' _ nx=>?_) (fun σ H' z=>?_)
 ·have c':(((ns.map V.int).length:Nat):Int) > 0:=Jx c
  rw[hl] at c';obtain⟨v,hv⟩:=Zkh (ns:=ns) (k:=(j:Int) * 5) (by omega);have a0:=Yz v (show(1000000007:Int)≠0 by decide);have a1:=Yi v (show(0:Int) < 1000000007 by decide);refine⟨_,rfl,_,rfl,_,rfl,_,_,rfl,rfl,.inr ⟨by decide,by decide⟩,_,rfl,a,_,rfl,.inl hS,_,_,rfl,rfl,(by rw[hl];omega),a,_,_,_,rfl,rfl,hS,hv,_,_,rfl,rfl,(show(0:Int) < 1000000007 by decide),_,_,rfl,rfl,.inr ⟨by decide,by decide⟩,_,_,rfl,rfl,?_⟩;exact nx _ _ ⟨rfl,3 * (j:Int)+17+v % 1000000007 * 40507,by omega,by omega,rfl⟩
 ·exact nx _ _ ⟨rfl,3 * (j:Int)+17,by omega,by omega,rfl⟩
 ·obtain⟨rfl,z,z0,z1,rfl⟩:=z
  exact⟨_,rfl,_,rfl,_,_,rfl,rfl,.inl ⟨by omega,by omega⟩,_,_,rfl,rfl,(show(0:Int) < 2147483563 by decide),_,rfl,_,_,rfl,rfl,q _⟩
def Bh:Sp:=fun vs H Q _=>∃(c:Int) (n:Nat),vs=[.int c,.int (n:Nat)]∧n≤100∧∀(l:Addr) (ns:List Int) (H':Hp),Same H H'→H l=none→H' l=some (.lst (ns.map V.int))→ns.length=n→(∀ z∈ns,0≤z)→Q (.ref l) H'
abbrev Vt:List Str:=["_law_cell_here","_law_amount"]
abbrev Zm0:List Str:=["_law_cell_here","_law_amount","_law_number","_law_found","_law_k"]
theorem scDrawn:FnScope Zm0 Vt (Zp S6):=⟨rfl,rfl,rfl,by decide +kernel,rfl,by decide +kernel,by decide +kernel⟩
theorem Zg3{k:Nat}(F:Fun K "_law_drawn" "_law_drawn" S6 f fd)(mr:mg "range" = none):FnOk P w K mg base Y4 (k+1) f fd Vt Bh:=by
 refine F.ok scDrawn (fun vs H Q E h=>?_) (fun cdv A outer s H vs Q E hr h=>?_)
 ·obtain⟨c,n,rfl,_⟩:=h
  rfl
 obtain⟨c,n,rfl,hn,q⟩:=h;refine⟨_,Zg (Z4 (i:=2) scDrawn.nd rfl (Or.inl rfl) (Z0 Yg (pv 0) Zl))
  (Zg (Z4 (i:=3) scDrawn.nd rfl (Or.inl rfl) (U0 Zh))
  (Zg (X0 PassesOwn.never rfl (Uy rfl mr (Za (Z0 Yq (pv 1) Zl) Zh)) (Jr (i:=4) scDrawn.nd rfl (Or.inl rfl))
   (Zg (Z4 (i:=2) scDrawn.nd rfl (Or.inl rfl) (Z0 Yg (Z0 Yq (Z0 Yq (Z0 Xd (pv 2) (Z0 Yq (Z0 Yq (pv 2) (Z0 Xd Zl (pv 4))) Zl)) (Z0 Xd Zl (pv 4))) Zl) Zl))
   (Zq (Xn (U5 Ja Jp Jo Ud (pv 3) (Za (Z0 J1 (pv 2) Zl) Zh))))))
  (Zq (Z6 (Gs Zbm (pv 3) (Qq Zl) Zbs))))),?_⟩
 have a0:=Yz c (show(998244353:Int)≠0 by decide);have a1:=Yi c (show(0:Int) < 998244353 by decide);refine⟨_,rfl,_,_,rfl,rfl,(show(0:Int) < 998244353 by decide),?_⟩;refine⟨Jl 0 (by decide),fun l hl=>?_⟩;have s1:=Zy hl (.lst []);refine⟨_,rfl,_,_,rfl,rfl,((n+2:Nat):Int),(by show [V.int (((n:Nat):Int)+2)]=_;rfl),by omega,by omega,?_⟩;refine X9 (n:=n+2) (fun i σ H'=>Same H H'∧∃(z:Int) (ns:List Int) (x4:Option V),0≤z∧z < 998244353∧ns.length=i∧(∀ y∈ns,0≤y)∧H' l=some (.lst (ns.map V.int))∧σ=[some (.int c),some (.int (n:Nat)),some (.int z),some (.ref l),x4])
  ⟨s1,_,[],none,a0,a1,rfl,(fun y hy=>nomatch hy),Zj,rfl⟩ (fun i σ H2 hi z=>?_) (fun σ H2 z=>?_)
 ·obtain⟨s2,z,ns,x4,z0,z1,ln,ny,hL,rfl⟩:=z
  refine⟨_,rfl,_,rfl,_,rfl,_,_,rfl,rfl,.inl ⟨by decide,by decide⟩,_,_,rfl,rfl,_,_,rfl,rfl,_,_,rfl,rfl,.inl ⟨by omega,by omega⟩,_,rfl,_,_,rfl,rfl,.inl ⟨by decide,by decide⟩,_,_,rfl,rfl,_,_,rfl,rfl,_,_,rfl,rfl,(show(0:Int) < 998244353 by decide),?_⟩;have b0:=Yz (z * (z+2 * (0+((i:Nat):Int))+91)+1013 * (0+((i:Nat):Int))+7) (show(998244353:Int)≠0 by decide);have b1:=Yi (z * (z+2 * (0+((i:Nat):Int))+91)+1013 * (0+((i:Nat):Int))+7) (show(0:Int) < 998244353 by decide);refine⟨_,rfl,.inl ⟨rfl,_,SqL.of hL⟩,_,rfl,_,_,rfl,rfl,⟨by decide,by decide⟩,l,ns.map V.int,_,rfl,rfl,hL,Jl _ (by rw[Zi];omega),?_⟩;refine⟨fun b o hb=>?_,_,ns++[(z * (z+2 * (0+((i:Nat):Int))+91)+1013 * (0+((i:Nat):Int))+7) % 998244353 / 5],_,b0,b1,?_,?_,?_,rfl⟩
  ·rw[Zu (Jb hb hl)]
   exact s2 _ _ hb
  ·rw[Z3,ln]
   rfl
  ·intro y hy
   rcases Yt.mp hy with y1 | y1
   ·exact ny y y1
   ·rw[Jt.mp y1]
    exact Int.ediv_nonneg b0 (by decide)
  ·rw[Zj,J3]
   rfl
 ·obtain⟨s2,z,ns,x4,z0,z1,ln,ny,hL,rfl⟩:=z
  refine⟨_,rfl,_,rfl,l,_,rfl,SqL.of hL,fun p hp=>?_⟩;have e:Rp (ns.map V.int) (some 2) none=(ns.drop 2).map V.int:=by
   have:=Zee (ns.map V.int) 2 (by rw[Zi,ln];omega);rw[List.map_drop];exact this
  rw[e];refine q p (ns.drop 2) _ (s2.trans (Zy hp _)) (s2.free hp) Zj ?_ fun y hy=>ny y (List.mem_of_mem_drop hy);rw[List.length_drop,ln];omega
abbrev qO:Str:=(("_law_order":Str) ++ ".<locals>.") ++ "<lambda>"
theorem S9(n:Nat):Xm n=(List.range n).map fun i=>((i:Nat):Int):=rfl
theorem Am{zs:List Int}{n:Nat}(h:zs.Perm (Xm n)):∃ ls:List Nat,ls.Perm (List.range n)∧zs.map V.int=vN ls:=by
 refine⟨zs.map Int.toNat,?_,?_⟩
 ·have:=h.map Int.toNat
  rw[S9,Z8] at this;have e:(List.range n).map (Int.toNat ∘ fun i=>((i:Nat):Int))=List.range n:=by
   have:(Int.toNat ∘ fun i:Nat=>((i:Nat):Int))=id:=by funext i;exact Zv i
   rw[this,List.map_id]
  rw[e] at this;exact this
 ·unfold vN
  rw[Z8];refine Jz fun z hz=>?_;obtain⟨i,_,e⟩:=Z2.mp (h.mem_iff.mp hz);show V.int z=V.int ((z.toNat:Nat):Int);have:z=((i:Nat):Int):=e.symm;rw[this,Zv]
def Dp(PO:Addr):Sp:=fun vs H Q _=>∃(c:Int) (h:Nat),vs=[.int c,.int (h:Nat)]∧h≤8∧TabSt H PO Zaa qO∧∀ l ls H',SameT PO H H'→Tab2 H' PO Zaa qO→H l=none→H' l=some (.lst (vN ls))→ls.Perm (List.range h)→Q (.ref l) H'
abbrev Zg9:List Str:=["_law_cell_here","_law_heights","_law_numbers"]
theorem scOrder:FnScope Zg9 ["_law_cell_here","_law_heights"] (Zp Nz):=⟨rfl,rfl,rfl,by decide +kernel,rfl,by decide +kernel,by decide +kernel⟩
theorem Zgt{k:Nat}{c PO f1:Addr}{d1:FuncData}(F:Fun K "_law_order" "_law_order" Nz f fd)(hc:fd.code = .ref c)(hB:Kz mg base)(hH:W.CodeHd base c PO)(LD:Lib P w K mg base (k+1) "_law_drawn" Vt Bh f1 d1)(mr:mg "range" = none)(mS:mg "sorted" = none) :
  FnOk P w K mg base Y4 (k+2) f fd ["_law_cell_here","_law_heights"] (Dp PO):=by
 refine F.okC hc scOrder (fun vs H Q E h=>?_) (fun A outer s H vs Q E hr h=>?_)
 ·obtain⟨c,h,rfl,_⟩:=h
  rfl
 obtain⟨cc,h,rfl,h8,ht,q⟩:=h;have O:LamOk (Qk Y4 P w K mg base Zg9 "_law_order" (Zp Nz) f (.ref c) A outer s H E).nox c PO:=⟨rfl,hH,hB⟩;refine⟨_,Zg (Z4 (i:=2) scOrder.nd rfl (Or.inr rfl) (Z9 LD.ok hr rfl LD.mg LD.kp LD.bd .nil Jh (Za (pv 0) (Za (pv 1) Zh))))
  (Zq (Z6 (Gr (i:=2) O (hr.mono (by omega)) rfl mS rfl rfl (Or.inr (Or.inl rfl)) (Za (Yf M2 rfl mr PyProof.Rows.boot_range (Za (pv 1) Zh)) Zh)))),?_⟩
 refine⟨_,rfl,_,rfl,cc,h,rfl,by omega,fun l ns H1 s1 hl hL ln ny=>?_⟩;refine⟨_,rfl,h,rfl,by omega,fun r hr1=>?_⟩;have s2:=s1.trans (Zy hr1 (.rng 0 (h:Nat)));refine⟨r,l,h,ns,rfl,Zj,by omega,rfl,SqL.of (Zy hr1 _ _ _ hL),by omega,ht.same s2,fun H2 l2 zs sm t2 hp hl2=>?_⟩;obtain⟨ls,hls,e⟩:=Am hp;rw[e];have t3:=t2.same (Zy hl2 (.lst (vN ls)));have sm2:SameT PO H (upd H2 l2 (.lst (vN ls))):=(s2.t.trans sm).trans (Zy hl2 _).t;exact q l2 ls _ sm2 t3 ((s2.t.trans sm).free t2 hl2) Zj hls
abbrev kS(s:Str):Xs:=.inr s
def ruK(f:Fx)(t:Option Nat)(sz:Nat)(lp lh:Addr):List (Xs×V):=[(kS "seats",.int (f.n:Nat)),(kS "suits",.int (f.s:Nat)),(kS "heights",.int (f.h:Nat)),(kS "trump",Q5 t),(kS "duty",.str (wd f.d)),(kS "plain",.ref lp),(kS "high",.ref lh),(kS "size",.int (sz:Nat))]
def IsRu(H:Hp)(d:Addr)(f:Fx)(t:Option Nat)(sz:Nat):Prop:=∃ lp lh,H d=some (.dK (ruK f t sz lp lh))∧H lp=some (.lst (vN f.pl))∧H lh=some (.lst (vN f.tr))
theorem IsRu.same{H H':Hp}{d:Addr}{f:Fx}{t:Option Nat}{sz:Nat}(h:IsRu H d f t sz)(s:Same H H'):IsRu H' d f t sz:=by
 obtain⟨lp,lh,a,b,c⟩:=h;exact⟨lp,lh,s _ _ a,s _ _ b,s _ _ c⟩
theorem Et{f:Fx}{t:Option Nat}{sz:Nat}{lp lh:Addr}:Q6 (ruK f t sz lp lh) (kS "seats")=some (.int (f.n:Nat))∧Q6 (ruK f t sz lp lh) (kS "suits")=some (.int (f.s:Nat))∧Q6 (ruK f t sz lp lh) (kS "heights")=some (.int (f.h:Nat)) ∧
  Q6 (ruK f t sz lp lh) (kS "trump")=some (Q5 t)∧Q6 (ruK f t sz lp lh) (kS "duty")=some (.str (wd f.d))∧Q6 (ruK f t sz lp lh) (kS "plain")=some (.ref lp)∧Q6 (ruK f t sz lp lh) (kS "high")=some (.ref lh)∧Q6 (ruK f t sz lp lh) (kS "size")=some (.int (sz:Nat)):=by
 refine⟨?_,?_,?_,?_,?_,?_,?_,?_⟩<;>rfl
def ru3(n s h:Nat):List (Xs×V):=[(kS "seats",.int (n:Nat)),(kS "suits",.int (s:Nat)),(kS "heights",.int (h:Nat))]
theorem Zg8{z:Int}(h:0≤z):V.int z=V.int ((z.toNat:Nat):Int):=by rw[Int.toNat_of_nonneg h]
theorem Zez(p:Int):∃ t:Option Nat,K1 t∧Xg [V.int 0,V.int 1,V.int 2,V.int 3,V.non] (p % 5)=some (Q5 t):=by
 have h0:=Yz p (show(5:Int)≠0 by decide);have h1:=Yi p (show(0:Int) < 5 by decide);generalize p % 5=r at h0 h1;have:r=0∨r=1∨r=2∨r=3∨r=4:=by omega
 rcases this with rfl | rfl | rfl | rfl | rfl
 ·exact⟨some 0,fun u e=>by cases e;decide,rfl⟩
 ·exact⟨some 1,fun u e=>by cases e;decide,rfl⟩
 ·exact⟨some 2,fun u e=>by cases e;decide,rfl⟩
 ·exact⟨some 3,fun u e=>by cases e;decide,rfl⟩
 ·exact⟨none,(fun u e=>nomatch e),rfl⟩
theorem Zku(p:Int):∃ d:_root_.Fin 4,Xg [V.str "free",V.str "follow",V.str "cut",V.str "beat"] (p % 4)=some (.str (wd d)):=by
 have h0:=Yz p (show(4:Int)≠0 by decide);have h1:=Yi p (show(0:Int) < 4 by decide);generalize p % 4=r at h0 h1;have:r=0∨r=1∨r=2∨r=3:=by omega
 rcases this with rfl | rfl | rfl | rfl
 ·exact⟨0,rfl⟩
 ·exact⟨1,rfl⟩
 ·exact⟨2,rfl⟩
 ·exact⟨3,rfl⟩
def Dl(K:W.Frag)(PO:Addr):Sp:=fun vs H Q _=>∃(a:Addr) (ns:List Int) (mo:Nat),vs=[.ref a,.int (mo:Nat)]∧SqL K H a (ns.map V.int)∧TabSt H PO Zaa qO ∧
 ∀ d f t sz H',SameT PO H H'→Tab2 H' PO Zaa qO→H d=none→IsRu H' d f t sz→f.Ok→K1 t→sz≤mo→sz * f.n≤f.s * f.h→Q (.ref d) H'
abbrev Zmy:List Str:=["_law_script","_law_most","_law_cell_here","_law_seats","_law_suits","_law_heights","_law_pick","_law_rules_here"]
theorem scRules:FnScope Zmy ["_law_script","_law_most"] (Zp Sw):=⟨rfl,rfl,rfl,by decide +kernel,rfl,by decide +kernel,by decide +kernel⟩
theorem Zgp{k:Nat}{PO f1 f2:Addr}{d1 d2:FuncData}(F:Fun K "_law_rules" "_law_rules" Sw f fd)(LC:Lib P w K mg base k "_law_cell" Mo (Dw K) f1 d1)(LO:Lib P w K mg base k "_law_order" ["_law_cell_here","_law_heights"] (Dp PO) f2 d2)(mMx:mg "max" = none)(mMn:mg "min" = none) :
  FnOk P w K mg base Y4 (k+1) f fd ["_law_script","_law_most"] (Dl K PO):=by
 refine F.ok scRules (fun vs H Q E h=>?_) (fun cdv A outer s H vs Q E hr h=>?_)
 ·obtain⟨a,ns,mo,rfl,_⟩:=h
  rfl
 obtain⟨a,ns,mo,rfl,hS,ht,q⟩:=h;have hu:=Jj (Nat.add_le_add_left (show 1≤64 by decide) _) hr.units;refine⟨_,Zg (Z4 (i:=2) scRules.nd rfl (Or.inl rfl) (Z9 LC.ok hr rfl LC.mg LC.kp LC.bd .nil Jh (Za (pv 0) (Za Zl Zh))))
  (Zg (Z4 (i:=3) scRules.nd rfl (Or.inl rfl) (Z0 Yq Zl (Z0 Yg (pv 2) Zl)))
  (Zg (Z4 (i:=4) scRules.nd rfl (Or.inl rfl) (Z0 Yq Zl (Z0 Yg (Z0 J1 (pv 2) Zl) Zl)))
  (Zg (Z4 (i:=5) scRules.nd rfl (Or.inl rfl) (Jf (Zel rfl) rfl mMx PyProof.Rows.boot_max (Za (Z0 Yq Zl (Z0 Yg (Z0 J1 (pv 2) Zl) Zl)) (Za (Z0 J1 Zl (pv 4)) Zh))))
  (Zg (Z4 (i:=6) scRules.nd rfl (Or.inl rfl) (Z9 LC.ok hr rfl LC.mg LC.kp LC.bd .nil Jh (Za (pv 0) (Za Zl Zh))))
  (Zg (Z4 (i:=7) scRules.nd rfl (Or.inl rfl) (Zjo (Gp Ji (pv 3) (Gp Ji (pv 4) (Gp Ji (pv 5) Zjk))) rfl rfl (fun z=>nomatch z) (by decide)))
  (Zg (Bm hu (pv 7) Ji (Jn Yd (U0 (Za Zl (Za Zl (Za Zl (Za Zl (Za Uz Zh)))))) (Z0 Yg (pv 6) Zl) (fun _ _=>rfl)) rfl)
  (Zg (Bm hu (pv 7) Ji (Jn Yd (U0 (Za Ji (Za Ji (Za Ji (Za Ji Zh))))) (Z0 Yg (Z0 J1 (pv 6) Zl) Zl) (fun _ _=>rfl)) rfl)
  (Zg (Bm hu (pv 7) Ji (Z9 LO.ok hr rfl LO.mg LO.kp LO.bd .nil Jh (Za (Z9 LC.ok hr rfl LC.mg LC.kp LC.bd .nil Jh (Za (pv 0) (Za Zl Zh))) (Za (pv 5) Zh))) rfl)
  (Zg (Bm hu (pv 7) Ji (Z9 LO.ok hr rfl LO.mg LO.kp LO.bd .nil Jh (Za (Z0 Yq (Z0 J1 (Z9 LC.ok hr rfl LC.mg LC.kp LC.bd .nil Jh (Za (pv 0) (Za Zl Zh))) Zl) Zl) (Za (pv 5) Zh))) rfl)
  (Zg (Bm hu (pv 7) Ji (Jf (Zej rfl) rfl mMn PyProof.Rows.boot_min (Za (pv 1) (Za (Z0 Yg (Z0 J1 (pv 6) Zl) (Z0 Yq (Z0 J1 (Z0 Xd (pv 4) (pv 5)) (pv 3)) Zl)) Zh))) rfl)
  (Zq (Z6 (pv 7))))))))))))),?_⟩
 refine Yk (fun v H1=>H1=H∧∃ c:Int,v = .int c) (fun R hR=>⟨_,rfl,a,ns,0,rfl,hS,by omega,fun c=>hR _ _ ⟨rfl,c,rfl⟩⟩) (fun v H0 z=>?_);obtain⟨rfl,c,rfl⟩:=z;refine Yk (fun v H1=>H1=H0∧∃ n:Nat,v = .int (n:Nat)∧(n=3∨n=4)) (fun R hR=>?_) (fun v H1 z=>?_)
 ·refine⟨_,rfl,_,_,rfl,rfl,(show(0:Int) < 2 by decide),_,_,rfl,rfl,hR _ _ ⟨rfl,(3+c % 2).toNat,Zg8 (by omega),by omega⟩⟩
 obtain⟨rfl,n,rfl,hn⟩:=z;refine Yk (fun v H2=>H2=H1∧∃ s:Nat,v = .int (s:Nat)∧1≤s∧s≤4) (fun R hR=>?_) (fun v H2 z=>?_)
 ·refine⟨_,rfl,_,_,rfl,rfl,⟨by decide,by decide⟩,_,_,rfl,rfl,(show(0:Int) < 4 by decide),_,_,rfl,rfl,hR _ _ ⟨rfl,(1+c / 2 % 4).toNat,Zg8 (by omega),by omega,by omega⟩⟩
 obtain⟨rfl,sn,rfl,s1,s4⟩:=z;refine Yk (fun v H3=>H3=H2∧∃ h:Nat,v = .int (h:Nat)∧1≤h∧h≤8) (fun R hR=>?_) (fun v H3 z=>?_)
 ·refine⟨_,rfl,_,_,rfl,rfl,⟨by decide,by decide⟩,_,_,rfl,rfl,(show(0:Int) < 8 by decide),_,_,rfl,rfl,_,rfl,_,_,rfl,rfl,⟨(by show(0:Int) < ((sn:Nat):Int);omega),(by show((sn:Nat):Int) < _;omega)⟩,_,_,rfl,hR _ _ ⟨rfl,(if(4:Int) / ((sn:Nat):Int) > 1+c / 8 % 8 then(4:Int) / ((sn:Nat):Int) else 1+c / 8 % 8).toNat,?_,?_,?_⟩⟩
  all_goals
   have d1:(4:Int) / ((sn:Nat):Int)≤4:=Int.ediv_le_self _ (by decide);have d0:(0:Int)≤(4:Int) / ((sn:Nat):Int):=Int.ediv_nonneg (by decide) (by omega)
  ·refine Zg8 ?_
   show(0:Int)≤if(4:Int) / ((sn:Nat):Int) > 1+c / 8 % 8 then(4:Int) / ((sn:Nat):Int) else 1+c / 8 % 8
   split<;>omega
  ·split<;>omega
  ·split<;>omega
 obtain⟨rfl,hn8,rfl,h1,h8⟩:=z;refine Yk (fun v H4=>H4=H3∧∃ c:Int,v = .int c) (fun R hR=>⟨_,rfl,a,ns,1,rfl,hS,by omega,fun c=>hR _ _ ⟨rfl,c,rfl⟩⟩) (fun v H4 z=>?_);obtain⟨rfl,p,rfl⟩:=z;refine Yk (fun v H5=>Same H4 H5∧∃ d,v = .ref d∧H4 d=none∧H5 d=some (.dK (ru3 n sn hn8))) (fun R hR=>fun d hd=>⟨_,rfl,_,rfl,_,rfl,Zj,ru3 n sn hn8,rfl,(by show 3≤15;decide),hR _ _ ⟨?_,d,rfl,hd,Zj⟩⟩) (fun v H5 z=>?_)
 ·rw[Uf]
  exact Zy hd _
 obtain⟨sm5,d,rfl,hd,hd5⟩:=z;refine U9 (fun σ H6=>Same H4 H6∧σ=[some (.ref a),some (.int (mo:Nat)),some (.int c),some (.int (n:Nat)),some (.int (sn:Nat)),some (.int (hn8:Nat)),some (.int p),some (.ref d)]∧∃ t,K1 t∧H6 d=some (.dK (ru3 n sn hn8++[(kS "trump",Q5 t)]))) (fun D' er nx=>?_) (fun σ H6 z=>?_)
 ·obtain⟨t,tb,et⟩:=Zez p
  refine⟨Jl 5 (by decide),fun lq hlq=>⟨_,rfl,_,_,rfl,rfl,(show(0:Int) < 5 by decide),lq,_,_,_,rfl,rfl,SqL.of Zj,et,_,rfl,d,_,rfl,.inl ⟨ru3 n sn hn8,kS "trump",?_,rfl,Jl 4 (by decide),rfl⟩,nx _ _ ⟨?_,rfl,t,tb,?_⟩⟩⟩
  ·rw[Zu (Jb hd5 hlq)]
   exact hd5
  ·exact fun b o hb=>by
    rw[Zu (Jb hb hd)];exact Qw (sm5.free hlq) sm5 _ _ _ hb
  ·rw[Zj]
   rfl
 obtain⟨sm6,rfl,t,tb,hd6⟩:=z;refine U9 (fun σ H7=>Same H4 H7∧σ=[some (.ref a),some (.int (mo:Nat)),some (.int c),some (.int (n:Nat)),some (.int (sn:Nat)),some (.int (hn8:Nat)),some (.int p),some (.ref d)]∧∃ dd:_root_.Fin 4,H7 d=some (.dK (ru3 n sn hn8++[(kS "trump",Q5 t),(kS "duty",.str (wd dd))]))) (fun D' er nx=>?_) (fun σ H7 z=>?_)
 ·obtain⟨dd,et⟩:=Zku (p / 5)
  refine⟨Jl 4 (by decide),fun lq hlq=>⟨_,rfl,_,_,rfl,rfl,⟨by decide,by decide⟩,_,_,rfl,rfl,(show(0:Int) < 4 by decide),lq,_,_,_,rfl,rfl,SqL.of Zj,et,_,rfl,d,_,rfl,.inl ⟨ru3 n sn hn8++[(kS "trump",Q5 t)],kS "duty",?_,rfl,Jl 5 (by decide),rfl⟩,nx _ _ ⟨?_,rfl,dd,?_⟩⟩⟩
  ·rw[Zu (Jb hd6 hlq)]
   exact hd6
  ·exact fun b o hb=>by
    rw[Zu (Jb hb hd)];exact Qw (sm6.free hlq) sm6 _ _ _ hb
  ·rw[Zj]
   rfl
 obtain⟨sm7,rfl,dd,hd7⟩:=z;refine U9 (fun σ H8=>SameT PO H4 H8∧Tab2 H8 PO Zaa qO∧σ=[some (.ref a),some (.int (mo:Nat)),some (.int c),some (.int (n:Nat)),some (.int (sn:Nat)),some (.int (hn8:Nat)),some (.int p),some (.ref d)]∧∃ lp pl,pl.Perm (List.range hn8)∧H8 lp=some (.lst (vN pl))∧H8 d=some (.dK (ru3 n sn hn8++[(kS "trump",Q5 t),(kS "duty",.str (wd dd)),(kS "plain",.ref lp)]))) (fun D' er nx=>?_) (fun σ H8 z=>?_)
 ·refine⟨_,rfl,a,ns,2,rfl,sm7.seq hS,by omega,fun c2=>⟨_,rfl,c2,hn8,rfl,h8,ht.same sm7,fun lp pl H8 sm8 t8 hl8 hL8 hp=>?_⟩⟩
  have hd8:H8 d=some (.dK _):=sm8.keep (ht.same sm7) hd7 (fun _ z=>nomatch z);have nd:lp≠d:=X3 hL8 hd8 (fun z=>nomatch z);refine⟨_,rfl,d,_,rfl,.inl ⟨ru3 n sn hn8++[(kS "trump",Q5 t),(kS "duty",.str (wd dd))],kS "plain",hd8,rfl,Jl 6 (by decide),rfl⟩,nx _ _ ⟨?_,?_,rfl,lp,pl,hp,?_,?_⟩⟩
  ·exact fun b o n hb=>by
    rw[Zu (Jb hb hd)];exact sm8 b o n (sm7 _ _ hb)
  ·obtain⟨cc,n1,e1,e2⟩:=t8
   exact⟨cc,n1,by rw[Zu (X3 e1 hd8 (fun z=>nomatch z))];exact e1,by rw[Zu (X3 e2 hd8 (fun z=>nomatch z))];exact e2⟩
  ·rw[Zu nd]
   exact hL8
  ·rw[Zj]
   rfl
 obtain⟨sm8,t8,rfl,lp,pl,pp,hp8,hd8⟩:=z;refine U9 (fun σ H9=>SameT PO H4 H9∧Tab2 H9 PO Zaa qO∧σ=[some (.ref a),some (.int (mo:Nat)),some (.int c),some (.int (n:Nat)),some (.int (sn:Nat)),some (.int (hn8:Nat)),some (.int p),some (.ref d)]∧H9 lp=some (.lst (vN pl))∧∃ lh tr,tr.Perm (List.range hn8)∧H9 lh=some (.lst (vN tr))∧H9 d=some (.dK (ru3 n sn hn8++[(kS "trump",Q5 t),(kS "duty",.str (wd dd)),(kS "plain",.ref lp),(kS "high",.ref lh)]))) (fun D' er nx=>?_) (fun σ H9 z=>?_)
 ·refine⟨_,rfl,a,ns,2,rfl,sm8.seq ht hS,by omega,fun c2=>⟨_,_,rfl,rfl,⟨by decide,by decide⟩,_,_,rfl,rfl,_,rfl,c2 / 7+1,hn8,rfl,h8,.inr t8,fun lh tr H9 sm9 t9 hl9 hL9 hp=>?_⟩⟩
  have hd9:H9 d=some (.dK _):=sm9.keep (.inr t8) hd8 (fun _ z=>nomatch z);have hlp9:H9 lp=some (.lst (vN pl)):=sm9.keep (.inr t8) hp8 (fun _ z=>nomatch z);have nd:lh≠d:=X3 hL9 hd9 (fun z=>nomatch z);refine⟨_,rfl,d,_,rfl,.inl ⟨ru3 n sn hn8++[(kS "trump",Q5 t),(kS "duty",.str (wd dd)),(kS "plain",.ref lp)],kS "high",hd9,rfl,Jl 7 (by decide),rfl⟩,nx _ _ ⟨?_,?_,rfl,?_,lh,tr,hp,?_,?_⟩⟩
  ·exact fun b o n hb=>by
    rw[Zu (Jb hb hd)];exact sm9 b o n (sm8 b o n hb)
  ·obtain⟨cc,n1,e1,e2⟩:=t9
   exact⟨cc,n1,by rw[Zu (X3 e1 hd9 (fun z=>nomatch z))];exact e1,by rw[Zu (X3 e2 hd9 (fun z=>nomatch z))];exact e2⟩
  ·rw[Zu (X3 hlp9 hd9 (fun z=>nomatch z))]
   exact hlp9
  ·rw[Zu nd]
   exact hL9
  ·rw[Zj]
   rfl
 obtain⟨sm9,t9,rfl,hp9,lh,tr,pt,hh9,hd9⟩:=z;have n0:(0:Int) < ((n:Nat):Int):=by omega
 have m0:(0:Int)≤((sn:Nat):Int) * ((hn8:Nat):Int) / ((n:Nat):Int):=Int.ediv_nonneg (Int.mul_nonneg (by omega) (by omega)) (by omega);have m1:(0:Int) < ((sn:Nat):Int) * ((hn8:Nat):Int) / ((n:Nat):Int)+1:=by omega
 have r0:=Yz (p / 20) (Int.ne_of_gt m1);have r1:=Yi (p / 20) m1;refine⟨_,rfl,_,rfl,_,_,rfl,rfl,⟨by decide,by decide⟩,_,rfl,_,rfl,_,_,rfl,rfl,.inl ⟨by omega,by omega⟩,_,rfl,_,_,rfl,rfl,⟨n0,by omega⟩,_,_,rfl,rfl,_,_,rfl,rfl,m1,_,_,rfl,?_⟩;generalize p / 20 % (((sn:Nat):Int) * ((hn8:Nat):Int) / ((n:Nat):Int)+1)=r at r0 r1;have hsz:(if r < ((mo:Nat):Int) then r else((mo:Nat):Int))=(((if r < ((mo:Nat):Int) then r else((mo:Nat):Int)).toNat:Nat):Int):=by
  rw[Int.toNat_of_nonneg];split<;>omega
 refine⟨_,rfl,d,_,rfl,.inl ⟨ru3 n sn hn8++[(kS "trump",Q5 t),(kS "duty",.str (wd dd)),(kS "plain",.ref lp),(kS "high",.ref lh)],kS "size",hd9,rfl,Jl 8 (by decide),rfl⟩,?_⟩;refine⟨_,rfl,q d ⟨sn,hn8,n,dd,pl,tr⟩ t (if r < ((mo:Nat):Int) then r else((mo:Nat):Int)).toNat _ ?_ ?_ hd ⟨lp,lh,?_,?_,?_⟩ ⟨s1,s4,h1,h8,hn,pp,pt⟩ tb ?_ ?_⟩
 ·exact fun b o n hb=>by
   rw[Zu (Jb hb hd)];exact sm9 b o n hb
 ·obtain⟨cc,n1,e1,e2⟩:=t9
  exact⟨cc,n1,by rw[Zu (X3 e1 hd9 (fun z=>nomatch z))];exact e1,by rw[Zu (X3 e2 hd9 (fun z=>nomatch z))];exact e2⟩
 ·rw[Zj]
  show some (HO.dK (N4 (ru3 n sn hn8++[(kS "trump",Q5 t),(kS "duty",.str (wd dd)),(kS "plain",.ref lp),(kS "high",.ref lh)]) (kS "size") (V.int (if r < ((mo:Nat):Int) then r else((mo:Nat):Int)))))=_;rw[hsz];rfl
 ·rw[Zu (X3 hp9 hd9 (fun z=>nomatch z))]
  exact hp9
 ·rw[Zu (X3 hh9 hd9 (fun z=>nomatch z))]
  exact hh9
 ·split<;>omega
 ·show(if r < ((mo:Nat):Int) then r else((mo:Nat):Int)).toNat * n≤sn * hn8
  have d1:((sn:Nat):Int) * ((hn8:Nat):Int) / ((n:Nat):Int) * ((n:Nat):Int)≤((sn:Nat):Int) * ((hn8:Nat):Int):=Int.ediv_mul_le _ (by omega);have d2:(((if r < ((mo:Nat):Int) then r else((mo:Nat):Int)).toNat:Nat):Int)≤((sn:Nat):Int) * ((hn8:Nat):Int) / ((n:Nat):Int):=by
   rw[← hsz];split<;>omega
  have d3:(((if r < ((mo:Nat):Int) then r else((mo:Nat):Int)).toNat:Nat):Int) * ((n:Nat):Int)≤((sn:Nat):Int) * ((hn8:Nat):Int):=Int.le_trans (Int.mul_le_mul_of_nonneg_right d2 (by omega)) d1;rw[← Int.natCast_mul,← Int.natCast_mul] at d3;omega
theorem V3{H:Hp}{d:Addr}{kvs:List (Xs×V)}{k:Xs}{v:V}(e:H d=some (.dK kvs))(h:Q6 kvs k=some v):Zk5 H d (kV k) (some v):=.inl ⟨kvs,k,.inl e,rfl,h.symm⟩
theorem Zcg:∀ i < 8,Xg ("12345678":Str).cps.toList ((i:Nat):Int)=some (49+i):=by decide +kernel
theorem Vy{H1 H':Hp}{x dx:Addr}{o:HO}(hx:H1 x=none)(hd:H1 dx=none)(n:dx≠x)(kp:Keep x (upd (upd H1 dx (.own x)) x o) H'):Same H1 H':=fun b u hb=>
 kp b u (Jb hb hx) (Xi hx hd n b u hb)
def Si(CT CG:Addr):Sp:=fun vs H Q _=>∃(d:Addr) (f:Fx) (t:Option Nat) (sz:Nat),vs=[.ref d]∧f.Ok∧IsRu H d f t sz∧∀ gm x H',Same H H'→GamH CT CG f t H' gm x→Q (.ref gm) H'
abbrev Zhc:List Str:=["_law_rules_here","_law_figures","_law_text"]
theorem scGame:FnScope Zhc ["_law_rules_here"] (Zp Af):=⟨rfl,rfl,rfl,by decide +kernel,rfl,by decide +kernel,by decide +kernel⟩
theorem Zj6{k:Nat}{CT CG fI fG:Addr}{dI dG:FuncData}(F:Fun K "_law_game" "_law_game" Af f fd)(C:TabC K mg CT)(CGm:GamC K mg CG)(MkT:Mk K CT fI)(FI:FnOk P w K mg base Y4 k fI dI ["self","text"] (Zla CT))(BI:Binds K dI ["self","text"] [])
  (MkG:Mk K CG fG) (FG:FnOk P w K mg base Y4 k fG dG ["self","table","trump"] (Zlc CG)) (BG0:Binds K dG ["self","table","trump"] []) (BG1:Binds K dG ["self","table","trump"] [.none]) (ms:mg "str" = none) :
  FnOk P w K mg base Y4 (k+2) f fd ["_law_rules_here"] (Si CT CG):=by
 refine F.ok scGame (fun vs H Q E h=>?_) (fun cdv A outer s H vs Q E hr h=>?_)
 ·obtain⟨d,fx,t,sz,rfl,_⟩:=h
  rfl
 obtain⟨d,fx,t,sz,rfl,ok,⟨lp,lh,hD,hP,hT⟩,q⟩:=h;have hu:=Jj (Nat.add_le_add_left (show 1≤64 by decide) _) hr.units;refine⟨_,Zg (Z4 (i:=1) scGame.nd rfl (Or.inr rfl) Ji)
  (Zg (Z4 (i:=2) scGame.nd rfl (Or.inl rfl) (Z0 Y9 (Z0 Y9 (Z0 Y9 Ji (Yf Ej rfl ms PyProof.Rows.boot_str (Za (Yl hu (pv 0) Ji (fun _ _=>rfl)) Zh))) Ji) (Yf Ej rfl ms PyProof.Rows.boot_str (Za (Yl hu (pv 0) Ji (fun _ _=>rfl)) Zh))))
  (Zg (Z4 (i:=2) scGame.nd rfl (Or.inl rfl) (Z0 Y9 (Z0 Y9 (Z0 Y9 (Z0 Y9 (pv 2) Ji) (Yf Ej rfl ms PyProof.Rows.boot_str (Za (Yl hu (pv 0) Ji (fun _ _=>rfl)) Zh))) Ji) (Yl hu (pv 0) Ji (fun _ _=>rfl))))
  (Zg (Z4 (i:=2) scGame.nd rfl (Or.inl rfl) (Z0 Y9 (Z0 Y9 (pv 2) Ji) (U5 PySem.F.plainAttrs_str PySem.F.slot_str_join PySem.F.type_str_join Zb3 Ji (Za (Ui ["_law_k","_law_figures"] [none,some 1] rfl (Blk.by (sc:=Zp Af) (N0:=Zhc) rfl rfl (by decide +kernel)) (Uh (Yl hu (pv 0) Ji (fun _ _=>rfl))) (fun C s₀ H₀ ex=>Jr (i:=0) (show(["_law_k","_law_figures"]:List Str).Nodup by decide +kernel) rfl (Or.inl rfl)) (fun C s₀ H₀ ex=>U4)
    (fun C s₀ H₀ ex=>Jn (show IxR _ Zma from Tf) (pv 1) (pv 0) (fun _ _=>rfl))) Zh))))
  (Zg (Z4 (i:=2) scGame.nd rfl (Or.inl rfl) (Z0 Y9 (Z0 Y9 (pv 2) Ji) (U5 PySem.F.plainAttrs_str PySem.F.slot_str_join PySem.F.type_str_join Zb3 Ji (Za (Ui ["_law_k","_law_figures"] [none,some 1] rfl (Blk.by (sc:=Zp Af) (N0:=Zhc) rfl rfl (by decide +kernel)) (Uh (Yl hu (pv 0) Ji (fun _ _=>rfl))) (fun C s₀ H₀ ex=>Jr (i:=0) (show(["_law_k","_law_figures"]:List Str).Nodup by decide +kernel) rfl (Or.inl rfl)) (fun C s₀ H₀ ex=>U4)
    (fun C s₀ H₀ ex=>Jn (show IxR _ Zma from Tf) (pv 1) (pv 0) (fun _ _=>rfl))) Zh))))
  (Zg (Ju (Z7 Vw (Yl hu (pv 0) Ji (fun _ _=>rfl)) Uz (Jd _)) (Zq (Z6 (Bo MkG FG hr rfl CGm.mG BG1 (show Vals [V.non] [Value.none] from .cons rfl .nil) Jh (Za (Bo MkT FI hr rfl C.mT BI .nil Jh (Za (pv 2) Zh)) Zh)))) Jg)
  (Zq (Z6 (Bo MkG FG hr rfl CGm.mG BG0 .nil Jh (Za (Bo MkT FI hr rfl C.mT BI .nil Jh (Za (pv 2) Zh)) (Za (Yl hu (pv 0) Ji (fun _ _=>rfl)) Zh)))))))))),?_⟩
 have sm:∀ i:Nat,i≤8→(((i:Nat):Int).natAbs).log2 < 1920:=fun i hi=>by
  have:((i:Nat):Int).natAbs=i:=rfl;rw[this];exact Jj (Nat.log2_le_self i) (by omega)
 have s4:=ok.s4;have h8:=ok.h8;have n4:fx.n≤8:=by rcases ok.n34 with e | e<;>omega
 have one:∀ x:Nat,(⟨#[x]⟩:Str).length≤1:=fun _=>Nat.le_refl 1;have w1:("pack ":Str).length≤5:=by decide +kernel
 have w2:("x":Str).length≤1:=by decide +kernel
 have w3:(" seats ":Str).length≤7:=by decide +kernel
 have w4:(" duty ":Str).length≤6:=by decide +kernel
 have w5:(" plain ":Str).length≤7:=by decide +kernel
 have w6:(" trump ":Str).length≤7:=by decide +kernel
 have wl:=(Zeu fx.d).2;obtain⟨g1,g2,g3,g4,g5,g6,g7,g8⟩:=@Et fx t sz lp lh;have num:∀(ls:List Nat) (x:V),ls.Perm (List.range fx.h)→x∈vN ls→∃ i:Nat,i < 8∧x = .int (i:Nat):=fun ls x pm hx=>by
  obtain⟨i,hi,rfl⟩:=Z2.mp hx;have:=Zbv pm i hi;exact⟨i,by omega,rfl⟩
 refine⟨_,rfl,d,_,rfl,V3 hD g2,_,rfl,sm _ (by omega),?_⟩;rw[Dg _ (by omega)];refine⟨_,_,rfl,rfl,Qi w1 (one _) (by decide),_,_,rfl,rfl,Qi (U1 w1 (one _)) w2 (by decide),_,rfl,d,_,rfl,V3 hD g3,_,rfl,sm _ h8,?_⟩;rw[Dg _ h8];refine⟨_,_,rfl,rfl,Qi (U1 (U1 w1 (one _)) w2) (one _) (by decide),?_⟩;have L0:=U1 (U1 (U1 w1 (one (48+fx.s))) w2) (one (48+fx.h));refine⟨_,rfl,_,_,rfl,rfl,Qi L0 w3 (by decide),_,rfl,d,_,rfl,V3 hD g1,_,rfl,sm _ n4,?_⟩;rw[Dg _ n4];refine⟨_,_,rfl,rfl,Qi (U1 L0 w3) (one _) (by decide),?_⟩;have L1:=U1 (U1 L0 w3) (one (48+fx.n));refine⟨_,_,rfl,rfl,Qi L1 w4 (by decide),_,rfl,d,_,rfl,V3 hD g5,_,_,rfl,rfl,Qi (U1 L1 w4) wl (by decide),?_⟩;refine⟨_,rfl,_,_,rfl,rfl,Qi (U1 (U1 L1 w4) wl) w5 (by decide),?_⟩;have L2:=U1 (U1 (U1 L1 w4) wl) w5;refine⟨rfl,_,rfl,d,_,rfl,V3 hD g6,lp,rfl,⟨_,SqL.of hP⟩,Ue (K:=K) (xs:=vN fx.pl) (fun _=>true) sgV (SqL.of hP) (by rw[Jq,Y1 ok.pp];exact Jl _ (by omega)) (fun x H3 hx s3 R hR=>hR H3 (Same.refl H3)) (fun x H3 hx hp s3 R hR=>?_) (fun l1 H1 s1 hl1 hL1=>?_)⟩
 ·obtain⟨i,hi,rfl⟩:=num _ x ok.pp hx
  have z:=hR H3 (Same.refl H3);rw[Dy,show 48+(i+1)=49+i by omega] at z;exact⟨_,rfl,_,rfl,_,_,_,rfl,rfl,Jl 8 (by decide),Zcg i hi,z⟩
 rw[Ad] at hL1;have j1:=Kg fx.pl;have jl:(Txt.join "" (fx.pl.map Qn)).length≤8:=by rw[j1,Qj,Y1 ok.pp];exact h8
 refine⟨_,l1,fx.pl.map Qn,rfl,rfl,SqL.of hL1,Zbn ok.pp h8,_,_,rfl,rfl,Qi L2 jl (by decide),?_⟩;refine⟨_,rfl,_,_,rfl,rfl,Qi (U1 L2 jl) w6 (by decide),?_⟩;have L3:=U1 (U1 L2 jl) w6;have hT1:=s1 _ _ hT;have hD1:=s1 _ _ hD;refine⟨rfl,_,rfl,d,_,rfl,V3 hD1 g7,lh,rfl,⟨_,SqL.of hT1⟩,Ue (K:=K) (xs:=vN fx.tr) (fun _=>true) sgV (SqL.of hT1) (by rw[Jq,Y1 ok.pt];exact Jl _ (by omega)) (fun x H3 hx s3 R hR=>hR H3 (Same.refl H3)) (fun x H3 hx hp s3 R hR=>?_) (fun l2 H2 s2 hl2 hL2=>?_)⟩
 ·obtain⟨i,hi,rfl⟩:=num _ x ok.pt hx
  have z:=hR H3 (Same.refl H3);rw[Dy,show 48+(i+1)=49+i by omega] at z;exact⟨_,rfl,_,rfl,_,_,_,rfl,rfl,Jl 8 (by decide),Zcg i hi,z⟩
 rw[Ad] at hL2;have j2:=Kg fx.tr;have jl2:(Txt.join "" (fx.tr.map Qn)).length≤8:=by rw[j2,Qj,Y1 ok.pt];exact h8
 refine⟨_,l2,fx.tr.map Qn,rfl,rfl,SqL.of hL2,Zbn ok.pt h8,_,_,rfl,rfl,Qi L3 jl2 (by decide),?_⟩;have et:(("pack ":Str)++⟨#[48+fx.s]⟩ ++ "x" ++ ⟨#[48+fx.h]⟩ ++ " seats " ++ ⟨#[48+fx.n]⟩ ++ " duty " ++ wd fx.d ++ " plain " ++ Txt.join "" (fx.pl.map Qn) ++ " trump " ++ Txt.join "" (fx.tr.map Qn))=T2 fx:=by
  rw[j1,j2];exact Zis fx
 rw[et];have s12:=s1.trans s2;have hD2:=s12 _ _ hD;refine⟨_,rfl,d,_,rfl,V3 hD2 g4,rfl,_,rfl,?_⟩;cases t with
 | none=>
  refine Xu (Zf rfl:decide (Q5 none=V.non)=true) (Ub ⟨_,rfl,?_⟩);intro x dx hx hdx nx;refine⟨x,dx,fx,rfl,ok,Zj,fun po to H3 kp hx3 hpo hto=>⟨rfl,?_⟩⟩;have sx:=Vy hx hdx nx kp;intro gm dg hgm hdg ng;refine⟨gm,dg,x,.non,rfl,Zj,rfl,?_⟩;rw[Uf];have sg:=Xi (o:=.ins CG dg (Me x .non)) hgm hdg ng;exact q gm x _ ((s12.trans sx).trans sg) ⟨ok,⟨dg,Zj⟩,⟨dx,po,to,sg _ _ hx3,sg _ _ hpo,sg _ _ hto⟩⟩
 | some u=>
  refine Xu (Zd (fun z=>nomatch z):decide (Q5 (some u)=V.non)=false) (J9 ⟨_,rfl,?_⟩);intro x dx hx hdx nx;refine⟨x,dx,fx,rfl,ok,Zj,fun po to H3 kp hx3 hpo hto=>⟨rfl,?_⟩⟩;have sx:=Vy hx hdx nx kp;refine⟨_,rfl,d,_,rfl,V3 (sx _ _ hD2) g4,?_⟩;intro gm dg hgm hdg ng;refine⟨gm,dg,x,Q5 (some u),rfl,Zj,rfl,?_⟩;rw[Uf];have sg:=Xi (o:=.ins CG dg (Me x (Q5 (some u)))) hgm hdg ng;exact q gm x _ ((s12.trans sx).trans sg) ⟨ok,⟨dg,Zj⟩,⟨dx,po,to,sg _ _ hx3,sg _ _ hpo,sg _ _ hto⟩⟩
def Dv(K:W.Frag):Sp:=fun vs H Q _=>∃(a:Addr) (cs:List Nat),vs=[.ref a]∧SqL K H a (vN cs)∧cs.Nodup∧(∀ c∈cs,c < 32)∧cs.length≤100∧∀ H',Same H H'→Q (.int (hN cs:Nat)) H'
theorem Zja:FnScope ["_law_cards"] ["_law_cards"] (Zp Zbp):=⟨rfl,rfl,rfl,by decide +kernel,rfl,by decide +kernel,by decide +kernel⟩
theorem Zbd:∀(xs:List Nat),((xs.map fun x=>((x:Nat):Int))).sum=((xs.sum:Nat):Int)
 | []=>rfl
 | x :: xs=>by rw[List.map_cons,List.sum_cons,List.sum_cons,Zbd xs,Int.natCast_add]
theorem Zgz{k:Nat}(F:Fun K "_law_hand" "_law_hand" Zbp f fd)(mS:mg "sum" = none):FnOk P w K mg base Y4 (k+1) f fd ["_law_cards"] (Dv K):=by
 refine F.ok Zja (fun vs H Q E h=>?_) (fun cdv A outer s H vs Q E hr h=>?_)
 ·obtain⟨a,cs,rfl,_⟩:=h
  rfl
 obtain⟨a,cs,rfl,hS,nd,c32,l100,q⟩:=h;refine⟨_,Zq (Z6 (Jf (Zif rfl) rfl mS PyProof.Rows.boot_sum (Za (Ui ["_law_card"] [none] rfl (Blk.by (sc:=Zp Zbp) (N0:=["_law_cards"]) rfl rfl (by decide +kernel)) (Uh (pv 0)) (fun C s₀ H₀ ex=>Jr (i:=0) (show(["_law_card"]:List Str).Nodup by decide +kernel) rfl (Or.inl rfl)) (fun C s₀ H₀ ex=>U4)
   (fun C s₀ H₀ ex=>Z0 Vv Zl (pv 0))) Zh))),?_⟩
 refine⟨_,rfl,a,rfl,⟨_,hS⟩,Ue (K:=K) (xs:=vN cs) (fun _=>true) Zf5 hS (Jl _ (by rw[Jq];omega)) (fun x H3 hx sm R hR=>hR H3 (Same.refl H3)) (fun x H3 hx hp sm R hR=>?_) (fun l H1 sm hl hL1=>?_)⟩
 ·obtain⟨c,hc,rfl⟩:=Z2.mp hx
  have:=c32 c hc;refine⟨_,rfl,_,_,rfl,rfl,⟨by omega,by omega,by decide⟩,?_⟩;have z:=hR H3 (Same.refl H3);show R (V.int ((1:Int) * 2 ^ (((c:Nat):Int)).toNat)) H3;rw[Rr];have e:Zf5 (V.int (c:Nat))=V.int ((2 ^ c:Nat):Int):=by
   show V.int ((2 ^ (((c:Nat):Int)).toNat:Nat):Int)=_;rw[Zv]
  rw[e] at z;exact z
 ·rw[Ml,Nf] at hL1
  refine⟨l,_,rfl,SqL.of hL1,?_⟩;rw[Zbd,Zht nd];exact q H1 sm
end
theorem Zie(ls:List Nat)(sz:Nat):∀ n,((List.range n).map fun j=>(ls.drop (sz * j)).take sz).flatten=ls.take (sz * n)
 | 0=>by simp
 | n+1=>by
  rw[List.range_succ,J3,List.flatten_append,Zie ls sz n,Nat.mul_succ,List.take_add];simp
theorem Mw:∀(css:List (List Nat)) (F:Nat→List Nat),(∀(j:Nat) (cs:List Nat),css[j]? = some cs→cs.Perm (F j))→css.flatten.Perm ((List.range css.length).map F).flatten
 | [],_,_=>by simp
 | c :: r,F,h=>by
  rw[Jk,List.range_succ_eq_map,List.map_cons,List.flatten_cons,List.flatten_cons,Z8];exact(h 0 c rfl).append (Mw r (F ∘ Nat.succ) fun j cs e=>h (j+1) cs e)
structure DealOk(f:Fx)(sz:Nat)(css:List (List Nat)):Prop where
 len:css.length=f.n
 each:∀ cs∈css,cs.length=sz
 nd:css.flatten.Nodup
 pk:∀ c∈css.flatten,c / 8 < f.s∧c % 8 < f.h
 up:∀ cs∈css,cs.Pairwise (·≤·)
theorem Zjq:∀ s≤4,∀ h≤8,(Yj s h).Nodup:=by decide +kernel
theorem Rh(s h:Nat):(Yj s h).length=s * h:=by
 unfold Yj
 induction s with
 | zero=>simp
 | succ s ih=>rw[List.range_succ,List.flatMap_append,Z3,ih];simp [Nat.succ_mul]
theorem Zkw{f:Fx}(ok:f.Ok){sz:Nat}{ls:List Nat}{css:List (List Nat)}(hp:ls.Perm (List.range (Yj f.s f.h).length))(hsz:sz * f.n≤f.s * f.h)(hl:css.length=f.n)
  (hc:∀(j:Nat) (cs:List Nat),css[j]? = some cs→cs.Perm (((ls.drop (sz * j)).take sz).map fun k=>(Yj f.s f.h).getD k 0)) (hu:∀ cs∈css,cs.Pairwise (·≤·)):DealOk f sz css:=by
 have ll:ls.length=f.s * f.h:=by rw[hp.length_eq,J4,Rh]
 have e1:=Mw css _ hc;have e2:((List.range css.length).map fun j=>((ls.drop (sz * j)).take sz).map fun k=>(Yj f.s f.h).getD k 0).flatten=(ls.take (sz * f.n)).map fun k=>(Yj f.s f.h).getD k 0:=by
  rw[hl,← Zie ls sz f.n,List.map_flatten,Z8];rfl
 rw[e2] at e1;have mem:∀ k∈ls.take (sz * f.n),k < (Yj f.s f.h).length:=fun k hk=>Jm.mp (hp.mem_iff.mp (List.mem_of_mem_take hk));refine⟨hl,fun cs hcs=>?_,?_,fun c hcc=>?_,hu⟩
 ·obtain⟨j,hj,e⟩:=Jv.mp hcs
  have p:=hc j cs (by rw[Zb hj,e]);rw[p.length_eq,Zi,List.length_take,List.length_drop,ll];have h1:sz * (j+1)≤sz * f.n:=Nat.mul_le_mul_left _ (by omega);rw[Nat.mul_succ] at h1;omega
 ·refine e1.nodup_iff.mpr ?_
  have nl:(ls.take (sz * f.n)).Nodup:=List.Nodup.sublist (List.take_sublist _ _) (hp.nodup_iff.mpr List.nodup_range);refine List.pairwise_map.mpr (List.Pairwise.imp_of_mem (fun {a b} ha hb n e=>n ?_) nl);have la:=mem a ha;have lb:=mem b hb;rw[Zk,Zk,Zb la,Zb lb] at e;have e':(Yj f.s f.h)[a]=(Yj f.s f.h)[b]:=e;exact Zg7 (Zjq f.s ok.s4 f.h ok.h8) (c:=(Yj f.s f.h)[a]) (Zb la) (by rw[Zb lb,e'])
 ·obtain⟨k,hk,rfl⟩:=Z2.mp (e1.mem_iff.mp hcc)
  have lk:=mem k hk;have m:(Yj f.s f.h).getD k 0∈Yj f.s f.h:=by
   rw[Zk,Zb lk];exact Yy _
  exact(Aq ok.h8).mp m
theorem Zbu:∀{a b:List Nat},a.Nodup→b.Nodup→(∀ x,x∈a↔x∈b)→a.length=b.length
 | [],b,_,_,h=>by
  cases b with
  | nil=>rfl
  | cons x r=>exact absurd ((h x).mpr Zw) Yv
 | x :: a,b,ha,hb,h=>by
  have hx:x∈b:=(h x).mp Zw;obtain⟨na,ha'⟩:=List.nodup_cons.mp ha;have e:=Zbu (a:=a) (b:=b.erase x) ha' (hb.erase x) fun y=>by
   rw[hb.mem_erase_iff];constructor
   ·exact fun hy=>⟨fun z=>na (z ▸ hy),(h y).mp (Zx _ hy)⟩
   ·rintro⟨n,hy⟩
    exact(List.mem_cons.mp ((h y).mpr hy)).resolve_left n
  rw[Jk,e,List.length_erase_of_mem hx];have:=List.length_pos_of_mem hx;omega
theorem Zlg{cs:List Nat}(nd:cs.Nodup)(h:∀ c∈cs,c < 32):Xt 32 (hN cs)=cs.length:=
 Zbu (List.Pairwise.filter _ List.nodup_range) nd fun x=>B3 h x
theorem Tp(b:Nat):∀(css:List (List Nat)),(css.map hN).countP (fun h=>h.testBit b)≤css.flatten.count b
 | []=>Nat.zero_le _
 | c :: r=>by
  have ih:=Tp b r;rw[List.map_cons,List.countP_cons,List.flatten_cons,List.count_append,Ur];by_cases e:b∈c
  ·have:=List.count_pos_iff.mpr e
   rw[Zf e,if_pos rfl];omega
  ·rw[Zd e,if_neg Zz]
   omega
theorem DealOk.nd1{f:Fx}{sz:Nat}{css:List (List Nat)}(D:DealOk f sz css){cs:List Nat}(h:cs∈css):cs.Nodup:=(List.pairwise_flatten.mp D.nd).1 cs h
theorem DealOk.c32{f:Fx}{sz:Nat}{css:List (List Nat)}(ok:f.Ok)(D:DealOk f sz css){cs:List Nat}(h:cs∈css):∀ c∈cs,c < 32:=fun c hc=>by
 have:=D.pk c (List.mem_flatten.mpr ⟨cs,h,hc⟩);have:=ok.s4;have:=ok.h8;omega
theorem DealOk.plc{f:Fx}{sz:Nat}{css:List (List Nat)}(ok:f.Ok)(D:DealOk f sz css){lead:Nat}(hl:lead < f.n):Plc f (css.map hN) lead [] sz:=by
 have c1:∀ b,E9 (css.map hN) [] b≤css.flatten.count b:=fun b=>by
  unfold E9;rw[List.count_nil];exact Tp b css
 refine⟨by rw[Zi];exact D.len,hl,by show 0 < f.n;omega,fun b=>Nat.le_trans (c1 b) (List.nodup_iff_count.mp D.nd b),fun b hb=>D.pk b (List.count_pos_iff.mp (Z1 hb (c1 b))),fun i h e=>?_⟩;rw[Zm] at e;obtain⟨cs,e1,rfl⟩:=Option.map_eq_some_iff.mp e;have m:=Zr e1;show Xt 32 (hN cs)+(if A6 f.n lead i < 0 then 1 else 0)=sz;rw[Zlg (D.nd1 m) (D.c32 ok m),if_neg (Nat.not_lt_zero _),D.each cs m,Nat.add_zero]
section
variable{P:Program}{w:World}{K:W.Frag}{mg:Str→Option Value}{base:Heap}{f g:Addr}{fd gd:FuncData}
abbrev qD:Str:=(("_law_deal":Str) ++ ".<locals>.") ++ "<lambda>"
def IsDl(H:Hp)(as:List Addr)(css:List (List Nat)):Prop:=as.length=css.length∧∀(j:Nat) (a:Addr),as[j]? = some a→∃ cs,css[j]? = some cs∧H a=some (.lst (vN cs))
theorem IsDl.same{H H':Hp}{as:List Addr}{css:List (List Nat)}(h:IsDl H as css)(s:Same H H'):IsDl H' as css:=⟨h.1,fun j a e=>let ⟨cs,x,y⟩:=h.2 j a e;⟨cs,x,s _ _ y⟩⟩
def Sk(PD:Addr):Sp:=fun vs H Q _=>∃(c:Int) (d:Addr) (f:Fx) (t:Option Nat) (sz:Nat),vs=[.int c,.ref d]∧f.Ok∧IsRu H d f t sz∧sz * f.n≤f.s * f.h∧TabSt H PD Zjm qD ∧
 ∀ l as css H',SameT PD H H'→Tab2 H' PD Zjm qD→H l=none→H' l=some (.lst (as.map V.ref))→IsDl H' as css→DealOk f sz css→Q (.ref l) H'
abbrev Zb1:List Str:=["_law_cell_here","_law_rules_here","_law_pack","_law_suit","_law_numbers","_law_places","_law_size","_law_hands","_law_seat"]
theorem scDeal:FnScope Zb1 ["_law_cell_here","_law_rules_here"] (Zp Bl):=⟨rfl,rfl,rfl,by decide +kernel,rfl,by decide +kernel,by decide +kernel⟩
def pkV(pk:List Nat)(x:V):V:=match x with | .int i=>.int ((pk.getD i.toNat 0:Nat):Int) | _=>.non
theorem Zf6(pk ls:List Nat):((vN ls).filter fun _=>true).map (pkV pk)=vN (ls.map fun k=>pk.getD k 0):=by
 rw[List.filter_eq_self.mpr fun _ _=>rfl];unfold vN;rw[Z8,Z8];refine Jz fun c _=>?_;show V.int ((pk.getD (((c:Nat):Int)).toNat 0:Nat):Int)=_;rw[Zv];rfl
theorem Zhp{ms:List Int}{cs:List Nat}(h:ms.Perm (cs.map fun c=>((c:Nat):Int))):∃ ds:List Nat,ms.map V.int=vN ds∧ds.Perm cs∧(ms.Pairwise (·≤·)→ds.Pairwise (·≤·)):=by
 have all:∀ m∈ms,∃ c:Nat,m=(c:Int):=fun m hm=>by
  obtain⟨c,_,e⟩:=Z2.mp (h.mem_iff.mp hm);exact⟨c,e.symm⟩
 refine⟨ms.map Int.toNat,?_,?_,fun pw=>?_⟩
 ·unfold vN
  rw[Z8];refine Jz fun m hm=>?_;obtain⟨c,e⟩:=all m hm;show V.int m=V.int ((m.toNat:Nat):Int);rw[e,Zv]
 ·have:=h.map Int.toNat
  rw[Z8] at this;have e:cs.map (Int.toNat ∘ fun c=>((c:Nat):Int))=cs:=by
   have:(Int.toNat ∘ fun c:Nat=>((c:Nat):Int))=id:=by funext c;exact Zv c
   rw[this,List.map_id]
  rw[e] at this;exact this
 ·refine List.pairwise_map.mpr (pw.imp fun {a b} hab=>?_)
  omega
theorem Zj7{k:Nat}{c PD f1:Addr}{d1:FuncData}(F:Fun K "_law_deal" "_law_deal" Bl f fd)(hc:fd.code = .ref c)(hB:Kz mg base)(hH:W.CodeHd base c PD)(LD:Lib P w K mg base (k+1) "_law_drawn" Vt Bh f1 d1)(mr:mg "range" = none)(mS:mg "sorted" = none)(ml:mg "len" = none) :
  FnOk P w K mg base Y4 (k+2) f fd ["_law_cell_here","_law_rules_here"] (Sk PD):=by
 refine F.okC hc scDeal (fun vs H Q E h=>?_) (fun A outer s H vs Q E hr h=>?_)
 ·obtain⟨c,d,fx,t,sz,rfl,_⟩:=h
  rfl
 obtain⟨cc,d,fx,t,sz,rfl,ok,hRu,hsz,ht,q⟩:=h;have O:LamOk (Qk Y4 P w K mg base Zb1 "_law_deal" (Zp Bl) f (.ref c) A outer s H E).nox c PD:=⟨rfl,hH,hB⟩;have hu:=Jj (Nat.add_le_add_left (show 1≤64 by decide) _) hr.units;refine⟨_,Zg (Z4 (i:=2) scDeal.nd rfl (Or.inr rfl) (U0 Zh))
  (Zg (X0 PassesOwn.never rfl (Uy rfl mr (Za (Yl hu (pv 1) Ji (fun _ _=>rfl)) Zh)) (Jr (i:=3) scDeal.nd rfl (Or.inr rfl))
   (Zq (Z4 (i:=2) scDeal.nd rfl (Or.inr rfl) (Z0 Zad (pv 2) (Ui ["_law_height","_law_suit"] [none,some 3] rfl (Blk.by (sc:=Zp Bl) (N0:=Zb1) rfl rfl (by decide +kernel)) (Uy rfl mr (Za (Yl hu (pv 1) Ji (fun _ _=>rfl)) Zh)) (fun C s₀ H₀ ex=>Jr (i:=0) (show(["_law_height","_law_suit"]:List Str).Nodup by decide +kernel) rfl (Or.inl rfl))
    (fun C s₀ H₀ ex=>U4) (fun C s₀ H₀ ex=>Z0 Yq (Z0 Xd Zl (pv 1)) (pv 0)))))))
  (Zg (Z4 (i:=4) scDeal.nd rfl (Or.inr rfl) (Z9 LD.ok hr rfl LD.mg LD.kp LD.bd .nil Jh (Za (pv 0) (Za (Jf Je rfl ml Z5 (Za (pv 2) Zh)) Zh))))
  (Zg (Z4 (i:=5) scDeal.nd rfl (Or.inl rfl) (Gr (i:=4) O (hr.mono (by omega)) rfl mS rfl rfl (Or.inr (Or.inl rfl)) (Za (Yf M2 rfl mr PyProof.Rows.boot_range (Za (Jf Je rfl ml Z5 (Za (pv 2) Zh)) Zh)) Zh)))
  (Zg (Z4 (i:=6) scDeal.nd rfl (Or.inl rfl) (Yl hu (pv 1) Ji (fun _ _=>rfl)))
  (Zg (Z4 (i:=7) scDeal.nd rfl (Or.inl rfl) (U0 Zh))
  (Zg (X0 PassesOwn.never rfl (Uy rfl mr (Za (Yl hu (pv 1) Ji (fun _ _=>rfl)) Zh)) (Jr (i:=8) scDeal.nd rfl (Or.inl rfl))
   (Zq (Xn (U5 Ja Jp Jo Ud (pv 7) (Za (Jf Oy rfl mS PyProof.Rows.boot_sorted (Za (Ui ["_law_k","_law_pack"] [none,some 2] rfl (Blk.by (sc:=Zp Bl) (N0:=Zb1) rfl rfl (by decide +kernel)) (Uh (Gs Zbm (pv 5) (Qq (Z0 Xd (pv 6) (pv 8))) (Qq (Z0 Yq (Z0 Xd (pv 6) (pv 8)) (pv 6))))) (fun C s₀ H₀ ex=>Jr (i:=0) (show(["_law_k","_law_pack"]:List Str).Nodup by decide +kernel) rfl (Or.inl rfl))
    (fun C s₀ H₀ ex=>U4) (fun C s₀ H₀ ex=>Jn (show IxR _ (Zf3 K) from Yd) (pv 1) (pv 0) (fun _ _=>rfl))) Zh)) Zh)))))
  (Zq (Z6 (pv 7))))))))),?_⟩
 obtain⟨lp,lh,hD,hP,hT⟩:=id hRu;obtain⟨g1,g2,g3,g4,g5,g6,g7,g8⟩:=@Et fx t sz lp lh;have s4:=ok.s4;have h8:=ok.h8;have n4:fx.n≤4:=by rcases ok.n34 with e | e<;>omega
 refine Yk (fun v H1=>∃ l,v = .ref l∧Same H H1∧H1 l=some (.lst [])) (fun R hR=>⟨Jl 0 (by decide),fun l hl=>hR _ _ ⟨l,rfl,Zy hl _,Zj⟩⟩) (fun v H1 z=>?_);obtain⟨l0,rfl,s1,hl0⟩:=z;refine U9 (fun σ H2=>Same H H2∧∃(lk:Addr) (x3:Option V),σ=[some (.int cc),some (.ref d),some (.ref lk),x3,none,none,none,none,none]∧H2 lk=some (.lst (vN (Yj fx.s fx.h)))) (fun D' er nx=>?_) (fun σ H2 z=>?_)
 ·refine⟨_,rfl,d,_,rfl,V3 (s1 _ _ hD) g2,(fx.s:Int),rfl,by omega,by omega,?_⟩
  refine X9 (n:=fx.s) (fun i σ H'=>Same H H'∧∃(lk:Addr) (x3:Option V),σ=[some (.int cc),some (.ref d),some (.ref lk),x3,none,none,none,none,none]∧H' lk=some (.lst (vN (Yj i fx.h)))) ⟨s1,l0,none,rfl,hl0⟩ (fun i σ H2 hi z=>?_) (fun σ H2 z=>nx _ _ z);obtain⟨s2,lk,x3,rfl,hL2⟩:=z;refine⟨_,rfl,_,rfl,d,_,rfl,V3 (s2 _ _ hD) g3,(fx.h:Int),rfl,by omega,by omega,?_⟩;refine N9 (n:=fx.h) (lo:=0) (fun _=>true) (fun j=>.int ((8 * i+j:Nat):Int)) (Jl _ (by omega)) (fun j H3 hj sm R hR=>hR H3 (Same.refl H3)) (fun j H3 hj hp sm R hR=>?_) (fun l3 H3 s3 hl3 hL3=>?_)
  ·refine⟨_,rfl,_,_,rfl,rfl,.inl ⟨by decide,by decide⟩,_,rfl,_,_,rfl,rfl,?_⟩
   have e:(8:Int) * (0+(i:Nat))+(0+(j:Nat))=((8 * i+j:Nat):Int):=by omega
   show R (.int ((8:Int) * (0+(i:Nat))+(0+(j:Nat)))) H3;rw[e];exact hR H3 (Same.refl H3)
  have e3:((List.range fx.h).filter fun _=>true).map (fun j=>V.int ((8 * i+j:Nat):Int))=vN ((List.range fx.h).map fun v=>8 * i+v):=by
   rw[List.filter_eq_self.mpr (fun _ _=>rfl)];unfold vN;rw[Z8];rfl
  rw[e3] at hL3;have hL4:=s3 _ _ hL2;have ll:(vN (Yj i fx.h)).length+(vN ((List.range fx.h).map fun v=>8 * i+v)).length≤sizeLine:=by
   rw[Jq,Jq,Zi,J4];have:=Gx i (by omega) fx.h h8;have:=Jl 100 (by decide);omega
  refine⟨lk,l3,_,_,rfl,rfl,hL4,hL3,ll,fun pn hpn=>⟨(s2.trans s3).trans (Zy hpn _),pn,_,rfl,?_⟩⟩;rw[Zj]
  congr 2
  unfold Yj vN;rw[List.range_succ,List.flatMap_append,J3]
  congr 1
  simp
 obtain⟨s2,lk,x3,rfl,hK2⟩:=z;have pl32:=Gx fx.s s4 fx.h h8;refine Yk (fun v H3=>∃(ln:Addr) (ns:List Int),v = .ref ln∧Same H2 H3∧H3 ln=some (.lst (ns.map V.int))∧ns.length=(Yj fx.s fx.h).length) (fun R hR=>⟨_,rfl,_,rfl,lk,_,rfl,.inl (SqL.of hK2),cc,(Yj fx.s fx.h).length,(by show [V.int cc,V.int (((vN (Yj fx.s fx.h)).length:Nat):Int)]=_;rw[Jq]),by omega,fun ln ns H3 s3 hn hL3 len3 _=>hR _ _ ⟨ln,ns,rfl,s3,hL3,len3⟩⟩) (fun v H3 z=>?_);obtain⟨ln,ns,rfl,s3,hN3,len3⟩:=z;refine Yk (fun v H4=>∃(lq:Addr) (ls:List Nat),v = .ref lq∧SameT PD H H4∧Tab2 H4 PD Zjm qD∧H4 lq=some (.lst (vN ls))∧H4 lk=some (.lst (vN (Yj fx.s fx.h)))∧ls.Perm (List.range (Yj fx.s fx.h).length)) (fun R hR=>?_) (fun v H4 z=>?_)
 ·refine⟨_,rfl,lk,_,rfl,.inl (SqL.of (s3 _ _ hK2)),(Yj fx.s fx.h).length,(by show [V.int (((vN (Yj fx.s fx.h)).length:Nat):Int)]=_;rw[Jq]),by omega,fun r hr1=>?_⟩
  have a1:=Zy hr1 (.rng 0 ((Yj fx.s fx.h).length:Nat));have s13:=(s2.trans s3).trans a1;refine⟨r,ln,(Yj fx.s fx.h).length,ns,rfl,Zj,by omega,rfl,SqL.of (a1 _ _ hN3),by omega,ht.same s13,fun H5 l5 zs sm t2 hp hl5=>?_⟩;obtain⟨ls,hls,e⟩:=Am hp;rw[e];have t1:=ht.same s13;refine hR _ _ ⟨l5,ls,rfl,(s13.t.trans sm).trans (Zy hl5 _).t,t2.same (Zy hl5 _),Zj,Zy hl5 _ _ _ (sm.keep t1 (a1 _ _ (s3 _ _ hK2)) (fun _ z=>nomatch z)),hls⟩
 obtain⟨lq,ls,rfl,sm4,t4,hQ4,hK4,hls⟩:=z;have ll:ls.length=(Yj fx.s fx.h).length:=by rw[hls.length_eq,J4]
 have plen:=Rh fx.s fx.h;have hD4:H4 d=some (.dK _):=sm4.keep ht hD (fun _ z=>nomatch z);refine⟨_,rfl,d,_,rfl,V3 hD4 g8,?_⟩;refine⟨Jl 0 (by decide),fun lz hlz=>?_⟩;have s5:=Zy hlz (.lst []);refine⟨_,rfl,d,_,rfl,V3 (s5 _ _ hD4) g1,(fx.n:Int),rfl,by omega,by omega,?_⟩;refine X9 (n:=fx.n) (fun i σ H'=>Same H4 H'∧∃(as:List Addr) (css:List (List Nat)) (x8:Option V),σ=[some (.int cc),some (.ref d),some (.ref lk),x3,some (.ref ln),some (.ref lq),some (.int (sz:Nat)),some (.ref lz),x8]∧H' lz=some (.lst (as.map V.ref))∧css.length=i∧IsDl H' as css∧lz∉as ∧
  (∀(j:Nat) (cs:List Nat),css[j]? = some cs→cs.Perm (((ls.drop (sz * j)).take sz).map fun k=>(Yj fx.s fx.h).getD k 0))∧∀ cs∈css,cs.Pairwise (·≤·))
  ⟨s5,[],[],none,rfl,Zj,rfl,⟨rfl,fun j a e=>by simp at e⟩,Yv,(fun j cs e=>by simp at e),fun cs hcs=>nomatch hcs⟩ (fun i σ H6 hi z=>?_) (fun σ H6 z=>?_)
 ·obtain⟨s6,as,css,x8,rfl,hZ6,lcss,hDl,nz,hch,hup⟩:=z
  have b1:sz * i+sz≤ls.length:=by
   rw[ll,plen];have:sz * (i+1)≤sz * fx.n:=Nat.mul_le_mul_left _ (by omega);rw[Nat.mul_succ] at this;omega
  have eI:((sz:Nat):Int) * (0+((i:Nat):Int))=((sz * i:Nat):Int):=by rw[Int.zero_add,Int.natCast_mul]
  have eJ:((sz:Nat):Int) * (0+((i:Nat):Int))+((sz:Nat):Int)=((sz * i+sz:Nat):Int):=by rw[eI,Int.natCast_add]
  have sz32:sz≤1000:=by omega
  refine⟨_,rfl,.inl ⟨rfl,_,SqL.of hZ6⟩,?_⟩;have hQ6:=s6 _ _ hQ4;refine⟨_,rfl,_,rfl,_,rfl,_,_,rfl,rfl,.inl ⟨by omega,by omega⟩,_,rfl,?_⟩;refine⟨_,rfl,_,rfl,_,_,rfl,rfl,.inl ⟨by omega,by omega⟩,_,rfl,_,_,rfl,rfl,_,rfl,lq,_,rfl,SqL.of hQ6,fun lc hlc=>?_⟩;have eC:Rp (vN ls) (some (((sz:Nat):Int) * (0+((i:Nat):Int)))) (some (((sz:Nat):Int) * (0+((i:Nat):Int))+((sz:Nat):Int)))=vN ((ls.drop (sz * i)).take sz):=by
   rw[eJ,eI,Zib (vN ls) (sz * i) (sz * i+sz) (by rw[Jq];omega) (by rw[Jq];omega)];unfold vN;rw[List.map_take,List.map_drop,Nat.add_sub_cancel_left]
  have hC:upd H6 lc (.lst (Rp (vN ls) (some (((sz:Nat):Int) * (0+((i:Nat):Int)))) (some (((sz:Nat):Int) * (0+((i:Nat):Int))+((sz:Nat):Int))))) lc=some (.lst (vN ((ls.drop (sz * i)).take sz))):=by rw[Zj,eC]
  have s7:=Zy hlc (.lst (Rp (vN ls) (some (((sz:Nat):Int) * (0+((i:Nat):Int)))) (some (((sz:Nat):Int) * (0+((i:Nat):Int))+((sz:Nat):Int)))));have cl:((ls.drop (sz * i)).take sz).length=sz:=by rw[List.length_take,List.length_drop];omega
  have sz64:sz < 64:=by
   have:1 * sz≤fx.n * sz:=Nat.mul_le_mul_right _ (by omega);rw[Nat.mul_comm fx.n sz] at this;omega
  refine⟨lc,rfl,⟨_,SqL.of hC⟩,Ue (K:=K) (xs:=vN ((ls.drop (sz * i)).take sz)) (fun _=>true) (pkV (Yj fx.s fx.h)) (SqL.of hC) (Jl _ (by rw[Jq,cl];omega)) (fun x H3 hx sm R hR=>hR H3 (Same.refl H3)) (fun x H8 hx hp sm R hR=>?_) (fun lr H8 s8 hlr hL8=>?_)⟩
  ·obtain⟨kk,hk,rfl⟩:=Z2.mp hx
   have kl:kk < (Yj fx.s fx.h).length:=Jm.mp (hls.mem_iff.mp (List.mem_of_mem_drop (List.mem_of_mem_take hk)));have z:=hR H8 (Same.refl H8);have e:pkV (Yj fx.s fx.h) (V.int (kk:Nat))=V.int (((Yj fx.s fx.h).getD kk 0:Nat):Int):=by
    show V.int (((Yj fx.s fx.h).getD (((kk:Nat):Int)).toNat 0:Nat):Int)=_;rw[Zv]
   rw[e] at z;exact⟨_,rfl,_,rfl,lk,_,_,_,rfl,rfl,SqL.of (sm _ _ (s7 _ _ (s6 _ _ hK4))),Rl kl,z⟩
  rw[Zf6,Nf] at hL8;refine⟨lr,_,rfl,SqL.of hL8,by rw[Zi,Zi,cl];exact sz64,fun l9 ms hl9 hp9 pw9=>?_⟩;obtain⟨ds,e1,e2,e3⟩:=Zhp hp9;rw[e1];have s9:Same H6 (upd H8 l9 (.lst (vN ds))):=(s7.trans s8).trans (Zy hl9 _);have hZ9:upd H8 l9 (.lst (vN ds)) lz=some (.lst (as.map V.ref)):=s9 _ _ hZ6;have n9:l9≠lz:=fun z=>by rw[z,Zj] at hZ9;have:=s8 _ _ (s7 _ _ hZ6);rw[z,this] at hl9;cases hl9
  have al:as.length≤4:=by rw[hDl.1,lcss];omega
  refine⟨lz,as.map V.ref,_,rfl,rfl,hZ9,Jl _ (by rw[Zi];omega),?_⟩;refine⟨fun b o hb=>?_,as++[l9],css++[ds],_,rfl,?_,by rw[Z3,lcss];rfl,⟨by rw[Z3,Z3,hDl.1];rfl,fun j a e=>?_⟩,?_,fun j cs e=>?_,fun cs hcs=>?_⟩
  ·rw[Zu (Jb hb hlz)]
   exact s9 _ _ (s6 _ _ hb)
  ·rw[Zj,J3]
   rfl
  ·rcases Nat.lt_or_ge j as.length with z | z
   ·rw[Ym z] at e
    obtain⟨cs,c1,c2⟩:=hDl.2 j a e;refine⟨cs,by rw[Ym (by rw[← hDl.1];exact z)];exact c1,?_⟩;have na:a≠lz:=fun z=>nz (by rw[← z];exact Zr e);rw[Zu na];exact s9 _ _ c2
   ·rw[Yh z] at e
    have j0:j - as.length=0:=by
     have:=(Zt.mp e).1;rw[List.length_singleton] at this;omega
    rw[j0] at e;have ea:l9=a:=Zn e;subst ea;refine⟨ds,?_,by rw[Zu n9,Zj]⟩;rw[Yh (by rw[← hDl.1];exact z),← hDl.1,j0];rfl
  ·intro m
   rcases Yt.mp m with m | m
   ·exact nz m
   ·exact n9 (Jt.mp m).symm
  ·rcases Nat.lt_or_ge j css.length with z | z
   ·rw[Ym z] at e
    exact hch j cs e
   ·rw[Yh z] at e
    have j0:j - css.length=0:=by
     have:=(Zt.mp e).1;rw[List.length_singleton] at this;omega
    rw[j0] at e;have ea:ds=cs:=Zn e;subst ea;have ji:j=i:=by omega
    rw[ji];exact e2
  ·rcases Yt.mp hcs with m | m
   ·exact hup cs m
   ·rw[Jt.mp m]
    exact e3 pw9
 ·obtain⟨s6,as,css,x8,rfl,hZ6,lcss,hDl,nz,hch,hup⟩:=z
  have t6:=t4.same s6;refine⟨_,rfl,q lz as css H6 (sm4.trans s6.t) t6 (sm4.free t4 hlz) hZ6 hDl (Zkw ok hls hsz lcss hch hup)⟩
end
end My
namespace L2
open PySem PySem.Spec PyProof.Rows
theorem K4{prog:Program}{w:World}{A:Around}{I:Addr}{fp wr:List Addr}{n:Nat}{P:Nat→Value→Prop}{St:Nat→Heap→Prop}(W:Walks prog w A I fp wr n P St)(T:List (Addr×Obj))(hT:∀ q∈T,q.1∉wr) :
  Walks prog w A I (fp++T.map (·.1)) wr n P (fun i h=>St i h∧∀ q∈T,h.get? q.1=some q.2) where
 sub:=fun b hb=>List.mem_append_left _ (W.sub b hb)
 frame:=fun i h h' st hk=>⟨W.frame i h h' st.1 fun b hb o e=>hk b (List.mem_append_left _ hb) o e,fun q hq=>hk q.1 (List.mem_append_right _ (List.mem_map_of_mem hq)) _ (st.2 q hq)⟩
 item:=fun i st Q E hi hs hQ=>W.item i st Q E hi hs.1 fun v h' tk hP hst' hk=>hQ v h' tk hP ⟨hst',fun q hq=>hk q.1 q.2 (hT q hq) (hs.2 q hq)⟩ hk
 done:=fun st Q E hs hQ=>W.done st Q E hs.1 hQ
 self:=fun i st Q E hs hQ=>W.self i st Q E hs.1 hQ
section
variable{prog:Program}{w:World}{A:Around}{R:Result→Shared→Prop}{I:Addr}{fp wr:List Addr}{n:Nat}{P:Nat→Value→Prop}{St:Nat→Heap→Prop}
def Zls(prog:Program)(w:World)(A:Around)(P:Nat→Value→Prop)(St:Nat→Heap→Prop)(bt:Nat→Nat→Bool):Prop:=
 ∀ i j vi vj m (st:Shared) (Q:Value→Shared→Prop) (E:Value→Shared→Prop),P i vi→P j vj→St m st.heap→Q (.bool (bt i j)) st→wpAny (model prog w) A (richCompare .Gt vi vj) Q E st
theorem Zdu(W:Walks prog w A.in1 I fp wr n P St)(bt:Nat→Nat→Bool)(hc:Zls prog w A.in1 P St bt)(C:Addr)(hC:C∉fp):∀(k j:Nat) (st:Shared) (vb:Value) (c:Nat),n - (j+1)=k→j+1≤n→St (j+1) st.heap→P (argBest bt j) vb →
  st.heap.get? C=some { cls:=.type "list",dict:=none,data:=.seq #[vb,vb] c,slots:=#[] } →
  (∀ v h' tk,P (argBest bt (n - 1)) v→(∀ b o,b∉wr→b≠C→st.heap.get? b=some o→h'.get? b=some o)→R (.ok (.ret v)) { st with heap:=h',toks:=tk }) →
  codeAny (model prog w) A (.builtin "max.loop" ⟨[.ref I,.none,.ref C],[]⟩) R st:=by
 have nC:C∉wr:=fun z=>hC (W.sub _ z);have nm:(toString "max" ++ toString ".loop":String) = "max.loop":=by decide
 intro k
 induction k with
 | zero=>
  intro j st vb c e1 e2 h1 h2 h3 h4;have e3:j+1=n:=by omega
  apply codeAny_builtin F.entry_max_loop;rw[Around.under_plainId F.plain_max_loop];show wpAny _ A.in1 (seqItems? (.ref C) >>= _) _ _ st;refine Zc (wpAny_seqItems h3 rfl ?_);show wpAny _ A.in1 (tryCatch (pyNext (.ref I)) _ >>= _) _ _ st;refine Zc (wpAny_tryCatch (W.done st _ _ (e3 ▸ h1) fun g tk kp=>?_));have h5:=kp C _ nC h3;show wpAny _ A.in1 (updateSeq C (fun _=>#[]) >>= _) _ _ _;refine Zc (wpAny_updateSeq h5 rfl (Zc (wpAny_letGo (wpAny_pure ?_))));exact h4 vb _ tk (by rw[← e3];exact h2) fun b o n1 n2 e=>(Heap.get?_update_other _ _ (Ne.symm n2)).trans (kp b o n1 e)
 | succ k ih=>
  intro j st vb c e1 e2 h1 h2 h3 h4;have e3:j+1 < n:=by omega
  apply codeAny_builtin F.entry_max_loop;rw[Around.under_plainId F.plain_max_loop];show wpAny _ A.in1 (seqItems? (.ref C) >>= _) _ _ st;refine Zc (wpAny_seqItems h3 rfl ?_);show wpAny _ A.in1 (tryCatch (pyNext (.ref I)) _ >>= _) _ _ st;refine Zc (wpAny_tryCatch (W.item (j+1) st _ _ e3 h1 fun v g tk hP hg kp=>?_));have h5:=kp C _ nC h3;show wpAny _ A.in1 (tryCatch (holding [v,v] (richCompare .Gt v vb >>= _)) _ >>= _) _ _ _;refine Zc (wpAny_tryCatch (wpAny_holding (Zc (hc (j+1) (argBest bt j) v vb (j+1+1) _ _ _ hP h2 hg (Zc (wpAny_holding (wpAny_truthy_bool (Zc (wpAny_letGo (wpAny_pure ?_))))))))));cases hb:bt (j+1) (argBest bt j) with
  | true=>
   simp only[if_true];refine Zc (wpAny_updateSeq h5 rfl (Zc (wpAny_letGo ?_)));rw[nm];refine wpAny_pure ⟨plainId_quiet F.plain_max_loop _,ih (j+1) _ v _ (by omega) e3 (W.frame _ _ _ hg fun b hbf o e=>(Heap.get?_update_other _ _ (fun z:C=b=>hC (by rw[z];exact hbf))).trans e) (by simp only[argBest,hb,if_true];exact hP) (Heap.get?_update_self _ h5 rfl) fun v2 g2 tk2 hP2 kp2=>?_⟩;exact h4 v2 g2 tk2 hP2 fun b o n1 n2 e=>kp2 b o n1 n2 ((Heap.get?_update_other _ _ (Ne.symm n2)).trans (kp b o n1 e))
  | false=>
   simp only[Bool.false_eq_true,if_false];refine Zc (wpAny_letGo ?_);rw[nm];refine wpAny_pure ⟨plainId_quiet F.plain_max_loop _,ih (j+1) _ vb c (by omega) e3 hg (by simp only[argBest,hb,Bool.false_eq_true,if_false];exact h2) h5 fun v2 g2 tk2 hP2 kp2=>?_⟩;exact h4 v2 g2 tk2 hP2 fun b o n1 n2 e=>kp2 b o n1 n2 (kp b o n1 e)
end
theorem Za1{prog:Program}{w:World}{A:Around}{E:Value→Shared→Prop}{s:Shared}{x:Value}{Q:Value→Shared→Prop}
  (h:wpAny (model prog w) A.in1 (pyIter x) (fun it s₂=>∃ I fp wr n P St bt,it = .ref I∧Walks prog w A.in1 I fp wr n P St∧St 0 s₂.heap∧(∀ b∈fp,b < s₂.heap.objs.size)∧0 < n∧Zls prog w A.in1 P St bt ∧
   ∀ v h' tk,P (argBest bt (n - 1)) v→(∀ b o,b∉wr→s₂.heap.get? b=some o→h'.get? b=some o)→Q v { s₂ with heap:=h',toks:=tk }) E s):wpAny (model prog w) A (call (.builtin "max") [x]) Q E s:=by
 have nm:(toString "max" ++ toString ".loop":String) = "max.loop":=by decide
 refine call_function_tree F.kind_max F.plain_max F.entry_max (F.args_max1 _) ?_;show wpAny _ A.in1 (Builtin.Builtins.bindParams "max" ["key","default"] 0 ⟨[],[]⟩ >>= _) _ _ s;refine Zc (wpAny_of_eq (show Builtin.Builtins.bindParams "max" ["key","default"] 0 ⟨[],[]⟩=pure [none,none] from rfl) (Zc (wpAny_pure (Zc (wpAny_mono h (fun it s₂ h₂=>?_) fun _ _ e=>e)))));obtain⟨I,fp,wr,n,P,St,bt,rfl,W,st0,hfp,hn,hc,hQ⟩:=h₂;refine Zc (wpAny_newObj_type ?_);have nf:s₂.heap.objs.size∉fp:=fun hm=>Nat.lt_irrefl _ (hfp _ hm);have nw:s₂.heap.objs.size∉wr:=fun z=>nf (W.sub _ z);rw[nm];refine wpAny_pure ⟨plainId_quiet F.plain_max_loop _,?_⟩;apply codeAny_builtin F.entry_max_loop;rw[Around.under_plainId F.plain_max_loop];have hC:(s₂.heap.push { cls:=.type "list",data:=.seq ([]:List Value).toArray }).get? s₂.heap.objs.size=some { cls:=.type "list",data:=.seq ([]:List Value).toArray }:=Heap.get?_push_size _ rfl;show wpAny _ A.in1 (seqItems? (.ref s₂.heap.objs.size) >>= _) _ _ _;refine Zc (wpAny_seqItems hC rfl ?_);show wpAny _ A.in1 (tryCatch (pyNext (.ref I)) _ >>= _) _ _ _;refine Zc (wpAny_tryCatch (W.item 0 _ _ _ hn (W.frame _ _ _ st0 fun b _ o e=>Ze _ e) fun v g tk hP hg kp=>?_));have h5:=kp _ _ nw hC;show wpAny _ A.in1 (updateSeq s₂.heap.objs.size (fun _=>#[v,v]) >>= _) _ _ _;refine Zc (wpAny_updateSeq h5 rfl ?_);rw[nm];refine wpAny_pure ⟨plainId_quiet F.plain_max_loop _,Zdu W bt hc _ nf _ 0 _ v _ rfl hn (W.frame _ _ _ hg fun b hbf o e=>(Heap.get?_update_other _ _ (fun z:s₂.heap.objs.size=b=>nf (by rw[z];exact hbf))).trans e) hP (Heap.get?_update_self _ h5 rfl) fun v2 g2 tk2 hP2 kp2=>?_⟩;exact hQ v2 g2 tk2 hP2 fun b o n1 e=>kp2 b o n1 (Nat.ne_of_lt (Zs e)) ((Heap.get?_update_other _ _ (Nat.ne_of_gt (Zs e))).trans (kp b o n1 (Ze _ e)))
def Znb(K:W.Frag)(H:Hp)(a:Addr)(ps:List Addr)(nss:List (List Int)):Prop:=SqL K H a (ps.map V.ref)∧ps.length=nss.length∧∀(j:Nat) (p:Addr),ps[j]? = some p→∃ ns,nss[j]? = some ns∧H p=some (.tup (ns.map V.int))
theorem Vd:∀{ps:List Addr} {us:List Value},Vals (ps.map V.ref) us→us=ps.map Value.ref
 | [],[],_=>rfl
 | p :: ps,u :: us,h=>by
  cases h with
  | cons r rr=>
   have e:u=Value.ref p:=r;rw[e,Vd rr];rfl
def V1(vs:List V):List Int:=vs.map fun v=>match v with | .int i=>i | _=>0
theorem E6(ns:List Int):V1 (ns.map V.int)=ns:=by
 unfold V1;rw[Z8];have:((fun v:V=>match v with | .int i=>i | _=>0) ∘ V.int)=id:=by funext c;rfl
 rw[this,List.map_id]
def Zk6(H:Hp)(k:List Int)(y:Value):Bool:=match y with | .ref q=>(match H q with | some (.tup vs)=>decide (V1 vs=k) | _=>false) | _=>false
theorem R5{H:Hp}{k ns:List Int}{q:Addr}(h:H q=some (.tup (ns.map V.int))):Zk6 H k (.ref q)=decide (ns=k):=by
 show(match H q with | some (.tup vs)=>decide (V1 vs=k) | _=>false)=_;rw[h];show decide (V1 (ns.map V.int)=k)=_;rw[E6]
theorem Mx:∀(ns ms:List Int),B6 (ns.map V.int) (ms.map V.int)=decide (ns=ms)
 | [],[]=>rfl
 | [],_ :: _=>rfl
 | _ :: _,[]=>rfl
 | n :: ns,m :: ms=>by
  show(T0 (V.int n) (V.int m) && B6 (ns.map V.int) (ms.map V.int))=_;rw[Mx ns ms];have:T0 (V.int n) (V.int m)=(n == m):=rfl;rw[this];by_cases e1:n=m<;>by_cases e2:ns=ms<;>simp [e1,e2]
theorem Nn(ns:List Int):(ns.map V.int).all U3=true:=by
 rw[List.all_map];exact List.all_eq_true.mpr fun _ _=>rfl
section
variable{X:Cx}{pins:List (Addr×Obj)}{σ:St}{H:Hp}{s:Shared}
theorem Zd9(I:Inv X pins σ H s){A:Around}{p q:Addr}{ns ms:List Int}(hp:H p=some (.tup (ns.map V.int)))(hq:H q=some (.tup (ms.map V.int)))(hu:A.units < cLine):SeqAt.EqAt A s (.ref p) (.ref q) (decide (ns=ms)):=by
 by_cases e:p=q
 ·subst e
  rw[hp] at hq;have:ns=ms:=by
   have z:ns.map V.int=ms.map V.int:=by
    have:=Zn hq;injection this
   have:=congrArg V1 z;rw[E6,E6] at this;exact this
  rw[Zf this];exact SeqAt.EqAt.same _
 ·obtain⟨its,r1,p1,_⟩:=I.tuple (SqT.of hp)
  obtain⟨its2,r2,p2,_⟩:=I.tuple (SqT.of hq);have z:=SeqAt.RcAt.tuples (A:=A) (s:=s) (e:=fun j=>T0 ((ns.map V.int).getD j .non) ((ms.map V.int).getD j .non)) p1 p2 hu (fun j h1 h2=>Tl (Xf r1 (Nn ns) h1).1 (Xf r2 (Nn ms) h2).1 (Xf r1 (Nn ns) h1).2 (Xf r2 (Nn ms) h2).2);have y:=B5 (ns.map V.int) (ms.map V.int);rw[r1.length,r2.length] at y;rw[List.size_toArray,List.size_toArray,y,Mx] at z;exact SeqAt.EqAt.of_refs e z
theorem Zds(hu:X.A.units+64 < cLine):MtR X "list.index" (fun x xs H Q=>∃(a p:Addr) (ps:List Addr) (nss:List (List Int)) (k:List Int) (j:Nat),x = .ref a∧xs=[.ref p]∧Znb X.K H a ps nss∧ps.length≤1000∧H p=some (.tup (k.map V.int))∧nss[j]? = some k∧(∀ m < j,nss[m]?≠some k)∧Q (.int (j:Nat)) H):=by
 intro pins s σ H x xs v us Q I rx rv h;obtain⟨a,p,ps,nss,k,j,rfl,rfl,⟨hS,hl,hT⟩,h1000,hp,hj,hno,q⟩:=h;cases rx;obtain⟨u,rfl,ru⟩:=Xc rv;have eu:u=Value.ref p:=ru;subst eu;obtain⟨its,vi,pl,hz⟩:=I.list hS;have ei:=Vd vi;subst ei;obtain⟨⟨cls,dd,data,sl⟩,ho,hc,n,hd⟩:=Qu pl;simp only at hc hd;subst hc hd;have jl:j < ps.length:=by rw[hl];exact(Zt.mp hj).1
 have at_:∀ m (hm:m < (ps.map Value.ref).toArray.size),∃(q:Addr) (ns:List Int),(ps.map Value.ref).toArray[m] = .ref q∧nss[m]? = some ns∧H q=some (.tup (ns.map V.int)):=fun m hm=>by
  have hm':m < ps.length:=by simpa using hm
  obtain⟨ns,e1,e2⟩:=hT m ps[m] (Zb hm');exact⟨ps[m],ns,by simp,e1,e2⟩
 refine call_meets PySem.F.slot_list_index ⟨_,ho,rfl⟩ PySem.F.entry_list_index (PySem.F.args_list_index_2 _ _) (PySem.SeqAt.list_indexAt a (ps.map Value.ref).toArray n dd sl (.ref p) (Zk6 H k) j (by simpa using jl) (by omega) ?_ ?_) ⟨ho,fun y hy=>?_,⟨.int (j:Nat),H,I.tok _,⟨_,rfl⟩,q⟩⟩
 ·obtain⟨q,ns,e1,e2,e3⟩:=at_ j (by simpa using jl)
  rw[e1,R5 e3];rw[hj] at e2;exact Zf (Zn e2).symm
 ·intro m hm hmj
  obtain⟨q,ns,e1,e2,e3⟩:=at_ m hm;rw[e1,R5 e3];exact Zd fun z=>hno m hmj (by rw[e2,z])
 ·have hy':y∈ps.map Value.ref:=by simpa using hy
  obtain⟨q,hq,rfl⟩:=Z2.mp hy';obtain⟨m,hm,em⟩:=Jv.mp hq;obtain⟨ns,e1,e2⟩:=hT m q (by rw[Zb hm,em]);rw[R5 e2];exact Zd9 I e2 hp (by show X.A.units+1 < cLine;omega)
theorem M3(hc:X.calm=true)(hu:X.A.units+64 < cLine):U8 X (.builtin "max") (fun xs H Q=>∃(a:Addr) (ps:List Addr) (nss:List (List Int)) (g:Nat→Int),xs=[.ref a]∧Znb X.K H a ps nss∧0 < ps.length∧(∀(i j:Nat) (ns ms:List Int),nss[i]? = some ns→nss[j]? = some ms→HT.lexLt ms ns=decide (g i > g j)) ∧
  ∀(j:Nat) (p:Addr),ps[j]? = some p→(∀ i,i < ps.length→g i≤g j)→Q (.ref p) H):=by
 intro pins s σ H xs us Q I r h;obtain⟨a,ps,nss,g,rfl,⟨hS,hl,hT⟩,hn,hg,q⟩:=h;obtain⟨u,rfl,ru⟩:=Xc r;cases ru;obtain⟨its,vi,pl,hz⟩:=I.list hS;have ei:=Vd vi;subst ei;have hL:s.heap.IsList a (ps.map Value.ref).toArray:=Qu pl;have ha:a < s.heap.objs.size:=by obtain⟨_,e,_⟩:=hL;exact Zs e
 have hh:X.A.in1.handled=none:=I.ok.hd hc;have tob:∀ p∈ps,∃ o,s.heap.get? p=some o:=fun p hp=>by
  obtain⟨m,hm,em⟩:=Jv.mp hp;obtain⟨ns,_,e2⟩:=hT m p (by rw[Zb hm,em]);exact ObjOk.obj (I.hok p _ e2)
 let T:List (Addr×Obj):=ps.filterMap fun p=>(s.heap.get? p).map fun o=>(p,o)
 have mT:∀ q∈T,s.heap.get? q.1=some q.2:=fun q hq=>by
  obtain⟨p,hp,e⟩:=List.mem_filterMap.mp hq;obtain⟨o,e1,e2⟩:=Option.map_eq_some_iff.mp e;subst e2;exact e1
 have inT:∀ p o,p∈ps→s.heap.get? p=some o→(p,o)∈T:=fun p o hp e=>List.mem_filterMap.mpr ⟨p,hp,by rw[e];rfl⟩;refine Za1 (wpAny_pyIter_list hL ?_);refine⟨s.heap.objs.size,_,[s.heap.objs.size],(ps.map Value.ref).toArray.size,_,_,(fun i j=>decide (g i > g j)),rfl,K4 (Walks.list hh s.heap.objs.size a (Nat.ne_of_lt ha) (ps.map Value.ref).toArray) T (fun q hq z=>?_),⟨⟨⟨_,Heap.get?_push_size _ rfl,rfl,rfl⟩,hL.push _⟩,fun q hq=>Ze _ (mT q hq)⟩,?_,by simpa using hn,?_,fun v h' tk hP hk=>?_⟩
 ·have:=Zs (mT q hq)
  rw[Jt.mp z] at this;exact Nat.lt_irrefl _ this
 ·intro b hb
  show b < (s.heap.push _).objs.size;rw[Heap.size_push];rcases Yt.mp hb with z | z
  ·rcases List.mem_cons.mp z with z | z
   ·rw[z];exact Nat.lt_succ_self _
   ·rw[Jt.mp z];exact Nat.lt_succ_of_lt ha
  ·obtain⟨q,hq,rfl⟩:=Z2.mp z
   exact Nat.lt_succ_of_lt (Zs (mT q hq))
 ·intro i j vi vj m st Q2 E2 hPi hPj hst hQ2
  have get:∀(i:Nat) (vi:Value),(ps.map Value.ref).toArray[i]? = some vi→∃(p:Addr) (ns:List Int),vi = .ref p∧p∈ps∧nss[i]? = some ns∧H p=some (.tup (ns.map V.int)):=fun i vi e=>by
   have e':(ps.map Value.ref)[i]? = some vi:=by simpa using e
   rw[Zm] at e';obtain⟨p,e1,e2⟩:=Option.map_eq_some_iff.mp e';obtain⟨ns,e3,e4⟩:=hT i p e1;exact⟨p,ns,e2.symm,Zr e1,e3,e4⟩
  obtain⟨p1,ns,rfl,m1,n1,t1⟩:=get i vi hPi;obtain⟨p2,ms,rfl,m2,n2,t2⟩:=get j vj hPj;obtain⟨its1,r1,q1,_⟩:=I.tuple (SqT.of t1);obtain⟨its2,r2,q2,_⟩:=I.tuple (SqT.of t2);have i1:IntsAre its1.toArray.toList ns:=U7 r1;have i2:IntsAre its2.toArray.toList ms:=U7 r2;obtain⟨⟨cls,dd,data,sl⟩,ho,hcl,n,hd⟩:=id q1;obtain⟨⟨cls2,dd2,data2,sl2⟩,ho2,hcl2,nn2,hd2⟩:=id q2;simp only at hcl hd hcl2 hd2;subst hcl hd hcl2 hd2;have o1:=hst.2 _ (inT p1 _ m1 ho);have o2:=hst.2 _ (inT p2 _ m2 ho2);have e:HT.lexLt ms ns=decide (g i > g j):=hg i j ns ms n1 n2;exact richCompare_meets_room (op:=.Gt) ⟨_,o1,rfl⟩ ⟨_,o2,rfl⟩ PySem.F.slot_tuple_gt PySem.F.entry_tuple_gt (PySem.F.args_tuple_gt_2 _ _) (Np p1 p2 its1.toArray its2.toArray n nn2 dd dd2 sl sl2 ns ms i1 i2)
   ⟨o1,o2,(fun z=>nomatch z),by rw[e];exact hQ2⟩ (by show X.A.units+1 < cLine;omega)
 ·obtain⟨b1,b2⟩:=argBest_gt g ((ps.map Value.ref).toArray.size - 1)
  have sz:(ps.map Value.ref).toArray.size=ps.length:=by simp
  have hP':(ps.map Value.ref)[argBest (fun i j=>decide (g i > g j)) ((ps.map Value.ref).toArray.size - 1)]? = some v:=by simpa using hP
  rw[Zm] at hP';obtain⟨p,e1,e2⟩:=Option.map_eq_some_iff.mp hP';subst e2;refine⟨.ref p,H,I.kept (t':=tk) fun b o eb=>hk b o ?_ (Ze _ eb),rfl,q _ p e1 fun i hi=>b2 i (by omega)⟩;intro hm;have:b=s.heap.objs.size:=by simpa using hm
  subst this;exact absurd (Zs eb) (Nat.lt_irrefl _)
end
end L2
namespace My
open PySem L2
abbrev Zfu:Stmt:=top 69
abbrev Gh:Stmt:=top 70
abbrev S5:Stmt:=top 71
abbrev Rb:Stmt:=top 72
theorem Zk0(d:_root_.Fin 4)(d0:d≠0)(d3:d≠3)(fx:Fx)(t:Option Nat)(ys cs:List Nat):(if d=1 then El (Ei (Jc ys) cs) cs else Em t (Jc ys) cs)=O3 d fx t ys cs:=match d,d0,d3 with
 | 0,h,_=>absurd rfl h
 | 1,_,_=>rfl
 | 2,_,_=>rfl
 | 3,_,h=>absurd rfl h
theorem K3(d j:_root_.Fin 4):decide (V.str (wd d)=V.str (wd j))=decide (d=j):=decide_eq_decide.mpr ⟨fun h=>by injection h with h;exact K2 _ _ h,fun h=>by rw[h]⟩
def Zkr(s:Nat)(x:V):Bool:=match x with | .int i=>decide (i.toNat / 8=s) | _=>false
theorem Kj(s c:Nat):Zkr s (.int (c:Nat))=decide (c / 8=s):=by
 show decide (((c:Nat):Int).toNat / 8=s)=_;rw[Zv]
theorem Zd5(s:Nat)(cs:List Nat):(((vN cs).filter (Zkr s)).map fun x=>x)=vN (Ei s cs):=by
 rw[List.map_id'];unfold vN Ei;rw[List.filter_map];exact congrArg _ (List.filter_congr fun c _=>Kj s c)
def trV(t:Option Nat)(x:V):Bool:=match x with | .int i=>decide (t=some (i.toNat / 8)) | _=>false
theorem Za5(t:Option Nat)(c:Nat):trV t (.int (c:Nat))=decide (t=some (c / 8)):=by
 show decide (t=some (((c:Nat):Int).toNat / 8))=_;rw[Zv]
theorem Ze2(t:Option Nat)(cs:List Nat):(((vN cs).filter (trV t)).map fun x=>x)=vN (trL t cs):=by
 rw[List.map_id'];have e:(vN cs).filter (trV t)=vN (cs.filter fun c=>decide (t=some (c / 8))):=by
  unfold vN;rw[List.filter_map];exact congrArg _ (List.filter_congr fun c _=>Za5 t c)
 rw[e];refine congrArg vN ?_;cases t with
 | none=>exact List.filter_eq_nil_iff.mpr fun c _=>by simp
 | some u=>exact List.filter_congr fun c _=>decide_eq_decide.mpr ⟨fun h=>(Zn h).symm,fun h=>by rw[h]⟩
theorem Nm(ys:List Nat):(vN ys).all U3=true:=by
 unfold vN;rw[List.all_map];exact List.all_eq_true.mpr fun _ _=>rfl
theorem eq_int(a b:Int):decide (V.int a=V.int b)=decide (a=b):=decide_eq_decide.mpr ⟨fun h=>by injection h,fun h=>by rw[h]⟩
section
variable{P:Program}{w:World}{K:W.Frag}{mg:Str→Option Value}{base:Heap}{f g:Addr}{fd gd:FuncData}
def Xl(f:Fx)(t:Option Nat)(led c:Nat):List Int:=if t=some (c / 8) then [2,((pos (c % 8) f.tr:Nat):Int)] else if c / 8=led then [1,((pos (c % 8) f.pl:Nat):Int)] else [0,0]
theorem Zp4(a b c d:Int):HT.lexLt [a,b] [c,d]=decide (a < c∨a=c∧b < d):=by
 show(if a=c then(if b=d then HT.lexLt [] [] else decide (b < d)) else decide (a < c))=_;by_cases e:a=c
 ·rw[if_pos e]
  by_cases e2:b=d
  ·rw[if_pos e2]
   exact(Zd (by omega)).symm
  ·rw[if_neg e2]
   exact decide_eq_decide.mpr ⟨fun h=>by omega,fun h=>by omega⟩
 ·rw[if_neg e]
  exact decide_eq_decide.mpr ⟨fun h=>by omega,fun h=>by omega⟩
theorem Ni{f:Fx}(ok:f.Ok)(t:Option Nat)(led c:Nat):∃ a b:Nat,Xl f t led c=[((a:Nat):Int),((b:Nat):Int)]∧rk f t led c=10 * a+b∧b≤8:=by
 have l1:∀ x,pos x f.tr≤8:=fun x=>Nat.le_trans (N5 x _) (by rw[Y1 ok.pt];exact ok.h8);have l2:∀ x,pos x f.pl≤8:=fun x=>Nat.le_trans (N5 x _) (by rw[Y1 ok.pp];exact ok.h8);unfold Xl rk;by_cases c1:t=some (c / 8)
 ·rw[if_pos c1,if_pos c1]
  exact⟨2,pos (c % 8) f.tr,rfl,rfl,l1 _⟩
 ·rw[if_neg c1,if_neg c1]
  by_cases c2:c / 8=led
  ·rw[if_pos c2,if_pos c2]
   exact⟨1,pos (c % 8) f.pl,rfl,rfl,l2 _⟩
  ·rw[if_neg c2,if_neg c2]
   exact⟨0,0,rfl,rfl,Nat.zero_le _⟩
theorem Gn{f:Fx}(ok:f.Ok)(t:Option Nat)(led c o:Nat):HT.lexLt (Xl f t led c) (Xl f t led o)=decide (((rk f t led o:Nat):Int) > ((rk f t led c:Nat):Int)):=by
 obtain⟨a,b,e1,e2,h1⟩:=Ni ok t led c;obtain⟨a',b',f1,f2,h2⟩:=Ni ok t led o;rw[e1,f1,e2,f2,Zp4];exact decide_eq_decide.mpr ⟨fun h=>by omega,fun h=>by omega⟩
theorem Zje{f:Fx}(ok:f.Ok){t:Option Nat}{led c o:Nat}(h:Xl f t led c=Xl f t led o):rk f t led c=rk f t led o:=by
 obtain⟨a,b,e1,e2,h1⟩:=Ni ok t led c;obtain⟨a',b',f1,f2,h2⟩:=Ni ok t led o;rw[e1,f1] at h;injection h with h3 h4
 injection h4 with h5
 omega
def Dm:Sp:=fun vs H Q _=>∃(d:Addr) (f:Fx) (t:Option Nat) (sz c led:Nat),vs=[.ref d,.int (c:Nat),.int (led:Nat)]∧f.Ok∧IsRu H d f t sz∧c % 8 < f.h∧∀ p H',Same H H'→H' p=some (.tup ((Xl f t led c).map V.int))→Q (.ref p) H'
abbrev G0:List Str:=["_law_rules_here","_law_card","_law_led"]
theorem Zl6:FnScope G0 G0 (Zp Zfu):=⟨rfl,rfl,rfl,by decide +kernel,rfl,by decide +kernel,by decide +kernel⟩
theorem Zey(t:Option Nat)(c:Nat):decide (V.int (((c:Nat):Int) / 8)=Q5 t)=decide (t=some (c / 8)):=by
 have e8:((c:Nat):Int) / 8=((c / 8:Nat):Int):=by omega
 rw[e8];cases t with
 | none=>exact decide_eq_decide.mpr ⟨(fun h=>nomatch h),(fun h=>nomatch h)⟩
 | some u=>
  refine decide_eq_decide.mpr ⟨fun h=>?_,fun h=>?_⟩
  ·have h':V.int ((c / 8:Nat):Int)=V.int ((u:Nat):Int):=h
   injection h' with h'
   have:c / 8=u:=by omega
   rw[this]
  ·rw[Zn h]
   rfl
theorem ints_get{l:List Nat}{j x:Nat}:(l.map fun c=>((c:Nat):Int))[j]? = some ((x:Nat):Int)↔l[j]? = some x:=by
 rw[Zm];constructor
 ·intro h
  obtain⟨y,e1,e2⟩:=Option.map_eq_some_iff.mp h;have:y=x:=by omega
  rw[e1,this]
 ·intro h
  rw[h];rfl
theorem Zjz{k:Nat}(F:Fun K "_law_rank" "_law_rank" Zfu f fd):FnOk P w K mg base Y4 (k+1) f fd G0 Dm:=by
 refine F.ok Zl6 (fun vs H Q E h=>?_) (fun cdv A outer s H vs Q E hr h=>?_)
 ·obtain⟨d,fx,t,sz,c,led,rfl,_⟩:=h
  rfl
 obtain⟨d,fx,t,sz,c,led,rfl,ok,⟨lp,lh,hD,hP,hT⟩,ch,q⟩:=h;have hu:=Jj (Nat.add_le_add_left (show 1≤64 by decide) _) hr.units;refine⟨_,Zg (Ju (Z7 Uc (Z0 J1 (pv 1) Zl) (Yl hu (pv 0) Ji (fun _ _=>rfl)) (Jd _)) (Zq (Z6 (Y2 (Za Zl (Za (U5 Ja PySem.F.slot_list_index PySem.F.type_list_index Bt (Yl hu (pv 0) Ji (fun _ _=>rfl)) (Za (Z0 Yg (pv 1) Zl) Zh)) Zh))))) Jg)
  (Zg (Ju (Z7 Uc (Z0 J1 (pv 1) Zl) (pv 2) (Jd _)) (Zq (Z6 (Y2 (Za Zl (Za (U5 Ja PySem.F.slot_list_index PySem.F.type_list_index Bt (Yl hu (pv 0) Ji (fun _ _=>rfl)) (Za (Z0 Yg (pv 1) Zl) Zh)) Zh))))) Jg)
  (Zq (Z6 (Y2 (Za Zl (Za Zl Zh)))))),?_⟩
 obtain⟨g1,g2,g3,g4,g5,g6,g7,g8⟩:=@Et fx t sz lp lh;have h8:=ok.h8;have em:((c:Nat):Int) % 8=((c % 8:Nat):Int):=by omega
 have m1:c % 8∈fx.tr:=ok.pt.mem_iff.mpr (Jm.mpr ch);have m2:c % 8∈fx.pl:=ok.pp.mem_iff.mpr (Jm.mpr ch);have l1:fx.tr.length≤1000:=by rw[Y1 ok.pt];omega
 have l2:fx.pl.length≤1000:=by rw[Y1 ok.pp];omega
 refine⟨_,rfl,_,_,rfl,rfl,⟨by decide,by decide⟩,_,rfl,d,_,rfl,V3 hD g4,(by cases t<;>rfl),_,rfl,Xu (Zey t c) ?_⟩;by_cases c1:t=some (c / 8)
 ·rw[Zf c1]
  have hT':H lh=some (.lst ((fx.tr.map fun c=>((c:Nat):Int)).map V.int)):=by rw[← Nf];exact hT
  refine Ub ⟨_,rfl,d,_,rfl,V3 hD g7,.inl ⟨rfl,_,SqL.of hT⟩,_,rfl,_,_,rfl,rfl,(show(0:Int) < 8 by decide),lh,((c % 8:Nat):Int),_,pos (c % 8) fx.tr,rfl,(by show [V.int (((c:Nat):Int) % 8)]=_;rw[em]),SqL.of hT',by rw[Zi];exact l1,ints_get.mpr (Eu m1).1,fun m hm z=>(Eu m1).2 m hm (ints_get.mp z),Jl 2 (by decide),fun p hp=>q p _ (Zy hp _) ?_⟩;rw[Zj];unfold Xl;rw[if_pos c1];rfl
 ·rw[Zd c1]
  have eL:decide (V.int (((c:Nat):Int) / 8)=V.int ((led:Nat):Int))=decide (c / 8=led):=(eq_int _ _).trans (decide_eq_decide.mpr ⟨fun h=>by omega,fun h=>by omega⟩);refine J9 ⟨_,rfl,_,_,rfl,rfl,⟨by decide,by decide⟩,_,rfl,rfl,_,rfl,Xu eL ?_⟩;by_cases c2:c / 8=led
  ·rw[Zf c2]
   have hP':H lp=some (.lst ((fx.pl.map fun c=>((c:Nat):Int)).map V.int)):=by rw[← Nf];exact hP
   refine Ub ⟨_,rfl,d,_,rfl,V3 hD g6,.inl ⟨rfl,_,SqL.of hP⟩,_,rfl,_,_,rfl,rfl,(show(0:Int) < 8 by decide),lp,((c % 8:Nat):Int),_,pos (c % 8) fx.pl,rfl,(by show [V.int (((c:Nat):Int) % 8)]=_;rw[em]),SqL.of hP',by rw[Zi];exact l2,ints_get.mpr (Eu m2).1,fun m hm z=>(Eu m2).2 m hm (ints_get.mp z),Jl 2 (by decide),fun p hp=>q p _ (Zy hp _) ?_⟩;rw[Zj];unfold Xl;rw[if_neg c1,if_pos c2];rfl
  ·rw[Zd c2]
   refine J9 ⟨Jl 2 (by decide),fun p hp=>q p _ (Zy hp _) ?_⟩;rw[Zj];unfold Xl;rw[if_neg c1,if_neg c2];rfl
theorem Zop{a b:List Nat}(h:a=[]):El a b=b:=if_pos h
theorem Zoo{a b:List Nat}(h:a≠[]):El a b=a:=if_neg h
theorem Zda(a b c:List Nat):El (El a b) c=El a (El b c):=by
 unfold El;by_cases e:a=[]
 ·rw[if_pos e,if_pos e]
 ·rw[if_neg e,if_neg e,if_neg e]
def gtV(f:Fx)(t:Option Nat)(led M:Nat)(x:V):Bool:=match x with | .int i=>decide (M < rk f t led i.toNat) | _=>false
theorem Zcd(f:Fx)(t:Option Nat)(led M c:Nat):gtV f t led M (.int (c:Nat))=decide (M < rk f t led c):=by
 show decide (M < rk f t led (((c:Nat):Int).toNat))=_;rw[Zv]
theorem Zhv(f:Fx)(t:Option Nat)(led M:Nat)(cs:List Nat):(((vN cs).filter (gtV f t led M)).map fun x=>x)=vN (cs.filter fun c=>decide (M < rk f t led c)):=by
 rw[List.map_id'];unfold vN;rw[List.filter_map];exact congrArg _ (List.filter_congr fun c _=>Zcd f t led M c)
theorem Zlx{f:Fx}(ok:f.Ok){t:Option Nat}{ys cs:List Nat}{j:Nat}{y:Nat}(hj:ys[j]? = some y)(hm:∀ o∈ys,rk f t (Jc ys) o≤rk f t (Jc ys) y):(cs.filter fun c=>decide (rk f t (Jc ys) y < rk f t (Jc ys) c))=Ve f t ys cs:=by
 unfold Ve;refine List.filter_congr fun c _=>?_;rw[Bool.eq_iff_iff,decide_eq_true_eq,List.all_eq_true];constructor
 ·intro h o ho
  rw[Nj ok,decide_eq_true_eq];exact Jj (hm o ho) h
 ·intro h
  have:=h y (Zr hj);rw[Nj ok,decide_eq_true_eq] at this;exact this
def Du:Sp:=fun vs H Q _=>∃(d cp tp:Addr) (f:Fx) (t:Option Nat) (sz:Nat) (cs ys:List Nat),vs=[.ref d,.ref cp,.ref tp]∧f.Ok∧IsRu H d f t sz∧H cp=some (.lst (vN cs))∧H tp=some (.lst (vN ys))∧cs.length≤100∧(ys=[]∨Beg f ys cs)∧∀ o H',Same H H'→H' o=some (.lst (vN (if ys=[] then cs else O3 f.d f t ys cs)))→Q (.ref o) H'
abbrev Mn:List Str:=["_law_rules_here","_law_cards","_law_trick"]
abbrev A9:List Str:=["_law_rules_here","_law_cards","_law_trick","_law_led","_law_some","_law_high","_law_over"]
theorem scLMay:FnScope A9 Mn (Zp Gh):=⟨rfl,rfl,rfl,by decide +kernel,rfl,by decide +kernel,by decide +kernel⟩
abbrev nB1:List Str:=["_law_card","_law_led"]
abbrev nB2:List Str:=["_law_card","_law_rules_here"]
abbrev nB3:List Str:=["_law_card","_law_rules_here","_law_led"]
abbrev nB4:List Str:=["_law_card","_law_rules_here","_law_led","_law_high"]
theorem Zj3{k:Nat}{f1:Addr}{d1:FuncData}(F:Fun K "_law_may" "_law_may" Gh f fd)(LR:Lib P w K mg base k "_law_rank" G0 Dm f1 d1)(ml:mg "len" = none)(mLi:mg "list" = none)(mM:mg "max" = none):FnOk P w K mg base Y4 (k+1) f fd Mn Du:=by
 refine F.ok scLMay (fun vs H Q E h=>?_) (fun cdv A outer s H vs Q E hr h=>?_)
 ·obtain⟨d,cp,tp,fx,t,sz,cs,ys,rfl,_⟩:=h
  rfl
 obtain⟨d,cp,tp,fx,t,sz,cs,ys,rfl,ok,hRu,hC,hY,c100,hB,q⟩:=h;have hu:=Jj (Nat.add_le_add_left (show 1≤64 by decide) _) hr.units;refine⟨_,Zg (Ju (PW.pt (Ek (Z7 Uc (Jf Je rfl ml Z5 (Za (pv 2) Zh)) Zl (Jd _)) (Qt (Z7 Uc (Yl hu (pv 0) Ji (fun _ _=>rfl)) Ji (Jd _))))) (Zq (Z6 (Yf Ut rfl mLi Ya (Za (pv 1) Zh)))) Jg)
  (Zg (Z4 (i:=3) scLMay.nd rfl (Or.inr rfl) (Z0 J1 (Jn Yd (pv 2) Zl (fun _ _=>rfl)) Zl))
  (Zg (Ec (i:=4) nB1 [none,some 3] rfl scLMay.nd rfl (Or.inl rfl) (Blk.by (sc:=Zp Gh) (N0:=A9) rfl rfl (by decide +kernel)) (Uh (pv 1)) (fun C s₀ H₀ ex=>Jr (i:=0) (show nB1.Nodup by decide +kernel) rfl (Or.inl rfl)) (fun C s₀ H₀ ex=>Gq (Z7 Uc (Z0 J1 (pv 0) Zl) (pv 1) (Jd _))) (fun C s₀ H₀ ex=>pv 0))
  (Zg (Ju (PW.pt (Of (Z7 Uc (Jf Je rfl ml Z5 (Za (pv 4) Zh)) Zl (Jd _)) (Rv (Z7 Qf (Yl hu (pv 0) Ji (fun _ _=>rfl)) Ji (Jd _)))))
   (Zq (Ec (i:=4) nB2 [none,some 0] rfl scLMay.nd rfl (Or.inl rfl) (Blk.by (sc:=Zp Gh) (N0:=A9) rfl rfl (by decide +kernel)) (Uh (pv 1)) (fun C s₀ H₀ ex=>Jr (i:=0) (show nB2.Nodup by decide +kernel) rfl (Or.inl rfl)) (fun C s₀ H₀ ex=>Gq (Z7 Uc (Z0 J1 (pv 0) Zl) (Yl hu (pv 1) Ji (fun _ _=>rfl)) (Jd _))) (fun C s₀ H₀ ex=>pv 0))) Jg)
  (Zg (Ju (Z7 Uc (Jf Je rfl ml Z5 (Za (pv 4) Zh)) Zl (Jd _)) (Zq (Z4 (i:=4) scLMay.nd rfl (Or.inl rfl) (Yf Ut rfl mLi Ya (Za (pv 1) Zh)))) Jg)
  (Zg (Ju (Z7 Uc (Yl hu (pv 0) Ji (fun _ _=>rfl)) Ji (Jd _))
   (Zg (Z4 (i:=5) scLMay.nd rfl (Or.inr rfl) (Jf (M3 rfl hr.units) rfl mM PyProof.Rows.boot_max (Za (Ui nB3 [none,some 0,some 3] rfl (Blk.by (sc:=Zp Gh) (N0:=A9) rfl rfl (by decide +kernel)) (Uh (pv 2)) (fun C s₀ H₀ ex=>Jr (i:=0) (show nB3.Nodup by decide +kernel) rfl (Or.inl rfl)) (fun C s₀ H₀ ex=>U4)
     (fun C s₀ H₀ ex=>Z9 LR.ok hr rfl LR.mg LR.kp LR.bd .nil Jh (Za (pv 1) (Za (pv 0) (Za (pv 2) Zh))))) Zh)))
   (Zg (Ec (i:=6) nB4 [none,some 0,some 3,some 5] rfl scLMay.nd rfl (Or.inl rfl) (Blk.by (sc:=Zp Gh) (N0:=A9) rfl rfl (by decide +kernel)) (Uh (pv 4)) (fun C s₀ H₀ ex=>Jr (i:=0) (show nB4.Nodup by decide +kernel) rfl (Or.inl rfl))
     (fun C s₀ H₀ ex=>Gq (Z7 (show No _ (compareOp .Gt) (fun x y H Q=>∃(a b:Addr) (ns ms:List Int),x = .ref a∧y = .ref b∧SqT K H a (ns.map V.int)∧SqT K H b (ms.map V.int)∧Q (.bl (HT.lexLt ms ns)) H) from Zml hr.units) (Z9 LR.ok hr rfl LR.mg LR.kp LR.bd .nil Jh (Za (pv 1) (Za (pv 0) (Za (pv 2) Zh)))) (pv 3) (Jd _))) (fun C s₀ H₀ ex=>pv 0))
   (Zq (Ju (Z7 Qg (Jf Je rfl ml Z5 (Za (pv 6) Zh)) Zl (Jd _)) (Zq (Z4 (i:=4) scLMay.nd rfl (Or.inl rfl) (pv 6))) Jg)))) Jg)
  (Zq (Z6 (pv 4)))))))),?_⟩
 obtain⟨lp,lh,hD,hP,hT⟩:=id hRu;obtain⟨g1,g2,g3,g4,g5,g6,g7,g8⟩:=@Et fx t sz lp lh;refine⟨_,rfl,tp,_,rfl,.inl (SqL.of hY),rfl,_,rfl,Xu (Zdw ys) ?_⟩;by_cases y0:ys=[]
 ·rw[Zf y0]
  refine Ub (Ub ⟨_,rfl,cp,_,rfl,.inl (SqL.of hC),fun l hl=>q l _ (Zy hl _) ?_⟩);rw[Zj,if_pos y0]
 rw[Zd y0];have B:=hB.resolve_left y0;refine J9 ⟨_,rfl,d,_,rfl,V3 hD g5,rfl,_,rfl,Xu (K3 fx.d 0) ?_⟩;by_cases d0:fx.d=0
 ·rw[Zf d0]
  refine Ub ⟨_,rfl,cp,_,rfl,.inl (SqL.of hC),fun l hl=>q l _ (Zy hl _) ?_⟩;rw[Zj,if_neg y0,d0];rfl
 rw[Zd d0];have el:((ys.getD 0 0:Nat):Int) / 8=((Jc ys:Nat):Int):=by unfold Jc;omega
 refine J9 (Bs ?_);refine Yk (fun v H1=>H1=H∧v = .int ((Jc ys:Nat):Int)) (fun R hR=>⟨_,rfl,tp,_,_,_,rfl,rfl,SqL.of hY,Rl (i:=0) B.ne,_,_,rfl,rfl,⟨by decide,by decide⟩,hR _ _ ⟨rfl,congrArg V.int el⟩⟩) (fun v H1 z=>?_);obtain⟨rfl,rfl⟩:=z;refine Yk (fun v H2=>∃ l,v = .ref l∧Same H1 H2∧H2 l=some (.lst (vN (Ei (Jc ys) cs)))) (fun R hR=>?_) (fun v H2 z=>?_)
 ·refine⟨_,rfl,cp,rfl,⟨_,SqL.of hC⟩,Ue (K:=K) (xs:=vN cs) (Zkr (Jc ys)) (fun x=>x) (SqL.of hC) (Jl _ (by rw[Jq];omega)) (fun x H3 hx sm R hR=>?_) (fun x H3 hx hp sm R hR=>⟨_,rfl,hR H3 (Same.refl H3)⟩) (fun l H3 sm hl hL=>hR _ _ ⟨l,rfl,sm,by rw[hL,Zd5]⟩)⟩
  obtain⟨c,hc,rfl⟩:=Z2.mp hx;have e:decide (V.int (((c:Nat):Int) / 8)=V.int ((Jc ys:Nat):Int))=Zkr (Jc ys) (.int (c:Nat)):=by
   rw[Kj,eq_int];exact decide_eq_decide.mpr ⟨fun h=>by omega,fun h=>by omega⟩
  refine⟨_,rfl,_,_,rfl,rfl,⟨by decide,by decide⟩,_,rfl,rfl,_,rfl,?_⟩;have z:=hR H3 (Same.refl H3);rw[← e] at z;exact z
 obtain⟨l2,rfl,s2,hL2⟩:=z;have lF:(Ei (Jc ys) cs).length≤cs.length:=List.length_filter_le _ _;refine U9 (fun σ H3=>Same H1 H3∧∃(l3:Addr) (ss:List Nat),σ=[some (.ref d),some (.ref cp),some (.ref tp),some (.int ((Jc ys:Nat):Int)),some (.ref l3),none,none]∧H3 l3=some (.lst (vN ss))∧ss=(if fx.d=1 then Ei (Jc ys) cs else El (Ei (Jc ys) cs) (trL t cs))) (fun D' er nx=>?_) (fun σ H3 z=>?_)
 ·refine⟨_,rfl,l2,_,rfl,.inl (SqL.of hL2),rfl,_,rfl,Xu (Zdw _) ?_⟩
  by_cases f0:Ei (Jc ys) cs=[]
  ·rw[Zf f0]
   have e1:(!decide (V.str (wd fx.d)=V.str "follow")) = !decide (fx.d=1):=congrArg (fun b=>!b) (K3 fx.d 1);refine Ub ⟨_,rfl,d,_,rfl,V3 (s2 _ _ hD) g5,rfl,_,rfl,Xu e1 ?_⟩;by_cases d1:fx.d=1
   ·rw[Zf d1]
    exact J9 (nx _ _ ⟨s2,l2,_,rfl,hL2,by rw[if_pos d1]⟩)
   ·rw[Zd d1]
    refine Ub ⟨_,rfl,cp,rfl,⟨_,SqL.of (s2 _ _ hC)⟩,Ue (K:=K) (xs:=vN cs) (trV t) (fun x=>x) (SqL.of (s2 _ _ hC)) (Jl _ (by rw[Jq];omega)) (fun x H3 hx sm R hR=>?_) (fun x H3 hx hp sm R hR=>⟨_,rfl,hR H3 (Same.refl H3)⟩) (fun l H3 sm hl hL=>nx _ _ ⟨s2.trans sm,l,_,rfl,by rw[hL,Ze2],?_⟩)⟩
    ·obtain⟨c,hc,rfl⟩:=Z2.mp hx
     refine⟨_,rfl,_,_,rfl,rfl,⟨by decide,by decide⟩,_,rfl,d,_,rfl,V3 (sm _ _ (s2 _ _ hD)) g4,(by cases t<;>rfl),_,rfl,?_⟩;have z:=hR H3 (Same.refl H3);rw[Za5,← Zey] at z;exact z
    ·rw[if_neg d1]
     unfold El;rw[if_pos f0]
  ·rw[Zd f0]
   refine J9 (J9 (nx _ _ ⟨s2,l2,_,rfl,hL2,?_⟩));unfold El;rw[if_neg f0];split<;>rfl
 obtain⟨s3,l3,ss,rfl,hL3,ess⟩:=z;have lss:ss.length≤100:=by
  rw[ess];split
  ·omega
  ·unfold El
   split
   ·cases t with
    | none=>exact Nat.zero_le _
    | some u=>exact Nat.le_trans (List.length_filter_le _ _) c100
   ·omega
 refine U9 (fun σ H4=>Same H1 H4∧∃(l4:Addr),σ=[some (.ref d),some (.ref cp),some (.ref tp),some (.int ((Jc ys:Nat):Int)),some (.ref l4),none,none]∧H4 l4=some (.lst (vN (El ss cs)))) (fun D' er nx=>?_) (fun σ H4 z=>?_)
 ·refine⟨_,rfl,l3,_,rfl,.inl (SqL.of hL3),rfl,_,rfl,Xu (Zdw _) ?_⟩
  by_cases f0:ss=[]
  ·rw[Zf f0]
   refine Ub ⟨_,rfl,cp,_,rfl,.inl (SqL.of (s3 _ _ hC)),fun l hl=>nx _ _ ⟨s3.trans (Zy hl _),l,rfl,?_⟩⟩;rw[Zj];unfold El;rw[if_pos f0]
  ·rw[Zd f0]
   refine J9 (nx _ _ ⟨s3,l3,rfl,?_⟩);unfold El;rw[if_neg f0];exact hL3
 obtain⟨s4,l4,rfl,hL4⟩:=z;have lm:(El ss cs).length≤100:=by unfold El;split<;>omega
 have emid:El ss cs=(if fx.d=1 then El (Ei (Jc ys) cs) cs else Em t (Jc ys) cs):=by
  rw[ess];by_cases d1:fx.d=1
  ·rw[if_pos d1,if_pos d1]
  ·rw[if_neg d1,if_neg d1,Zda]
   rfl
 refine U9 (fun σ H5=>Same H1 H5∧∃(l5:Addr) (x5 x6:Option V),σ=[some (.ref d),some (.ref cp),some (.ref tp),some (.int ((Jc ys:Nat):Int)),some (.ref l5),x5,x6]∧H5 l5=some (.lst (vN (O3 fx.d fx t ys cs)))) (fun D' er nx=>?_) (fun σ H5 z=>?_)
 ·refine⟨_,rfl,d,_,rfl,V3 (s4 _ _ hD) g5,rfl,_,rfl,Xu (K3 fx.d 3) ?_⟩
  by_cases d3:fx.d=3
  ·rw[Zf d3]
   refine Ub ?_;have hRu4:=hRu.same s4;have hY4:=s4 _ _ hY;have yl:=B.len;refine Yk (fun v H6=>∃(p:Addr) (j y:Nat),v = .ref p∧Same H4 H6∧ys[j]? = some y∧(∀ o∈ys,rk fx t (Jc ys) o≤rk fx t (Jc ys) y)∧H6 p=some (.tup ((Xl fx t (Jc ys) y).map V.int))) (fun R hR=>?_) (fun v H6 z=>?_)
   ·refine⟨_,rfl,tp,rfl,⟨_,SqL.of hY4⟩,Tr (K:=K) (xs:=vN ys) (fun _ i v H=>∃(p:Addr) (y:Nat),ys[i]? = some y∧v = .ref p∧H p=some (.tup ((Xl fx t (Jc ys) y).map V.int))) (SqL.of hY4) (Jl _ (by rw[Jq];omega)) (fun l i v H H' g sm=>?_) (fun l i v H xs zs g hl=>?_) (fun i x H5 l vs hx sm hl hL R hR=>?_) (fun l H5 vs sm hl hL hvl hvs=>?_)⟩
    ·obtain⟨p,y,a1,a2,a3⟩:=g
     exact⟨p,y,a1,a2,sm _ _ a3⟩
    ·obtain⟨p,y,a1,a2,a3⟩:=g
     exact⟨p,y,a1,a2,by rw[Zu (X3 a3 hl (fun z=>nomatch z))];exact a3⟩
    ·obtain⟨y,hy,rfl⟩:=En hx
     exact⟨_,rfl,_,rfl,_,rfl,d,fx,t,sz,y,Jc ys,rfl,ok,hRu4.same sm,(B.ys8 y (Zr hy)).2,fun p H6 s6 hp6=>hR _ _ s6 ⟨p,y,hy,rfl,hp6⟩⟩
    ·rw[Jq] at hvl
     have ex:∃ ps:List Addr,vs=ps.map V.ref:=by
      refine⟨vs.map fun v=>match v with | .ref a=>a | _=>0,?_⟩;rw[Z8];apply Xr;intro j;rw[Zm];cases e:vs[j]? with
      | none=>rfl
      | some v=>
       obtain⟨p,y,_,rfl,_⟩:=hvs j v e;rfl
     obtain⟨ps,rfl⟩:=ex;rw[Zi] at hvl;refine⟨l,ps,ys.map (Xl fx t (Jc ys)),(fun i=>((rk fx t (Jc ys) (ys.getD i 0):Nat):Int)),rfl,⟨SqL.of hL,by rw[Zi];exact hvl,fun j p hj=>?_⟩,by rw[hvl];exact B.ne,fun i j ns ms hi hj=>?_,fun j p hj hmax=>?_⟩
     ·obtain⟨p',y,a1,a2,a3⟩:=hvs j (.ref p) (by rw[Zm,hj];rfl)
      injection a2 with a2
      subst a2;exact⟨_,by rw[Zm,a1];rfl,a3⟩
     ·rw[Zm] at hi hj
      obtain⟨a,a1,rfl⟩:=Option.map_eq_some_iff.mp hi;obtain⟨b,b1,rfl⟩:=Option.map_eq_some_iff.mp hj;show HT.lexLt _ _=decide (((rk fx t (Jc ys) (ys.getD i 0):Nat):Int) > ((rk fx t (Jc ys) (ys.getD j 0):Nat):Int));rw[Zk,Zk,a1,b1];exact Gn ok t _ b a
     ·obtain⟨p',y,a1,a2,a3⟩:=hvs j (.ref p) (by rw[Zm,hj];rfl)
      injection a2 with a2
      subst a2;refine hR _ _ ⟨p,j,y,rfl,sm,a1,fun o ho=>?_,a3⟩;obtain⟨m,hm,em⟩:=Jv.mp ho;have:((rk fx t (Jc ys) (ys.getD m 0):Nat):Int)≤((rk fx t (Jc ys) (ys.getD j 0):Nat):Int):=hmax m (by rw[hvl];exact hm);rw[Zk,Zk,a1,Zb hm,em] at this;have t2:((rk fx t (Jc ys) o:Nat):Int)≤((rk fx t (Jc ys) y:Nat):Int):=this;omega
   obtain⟨p,j,y,rfl,s6,hj,hmx,hp6⟩:=z;have hL6:=s6 _ _ hL4;refine Yk (fun v H7=>∃ l,v = .ref l∧Same H6 H7∧H7 l=some (.lst (vN (Ve fx t ys (El ss cs))))) (fun R hR=>?_) (fun v H7 z=>?_)
   ·refine⟨_,rfl,l4,rfl,⟨_,SqL.of hL6⟩,Ue (K:=K) (xs:=vN (El ss cs)) (gtV fx t (Jc ys) (rk fx t (Jc ys) y)) (fun x=>x) (SqL.of hL6) (Jl _ (by rw[Jq];omega)) (fun x H7 hx sm R hR=>?_) (fun x H3 hx hp sm R hR=>⟨_,rfl,hR H3 (Same.refl H3)⟩) (fun l H7 sm hl hL=>hR _ _ ⟨l,rfl,sm,by rw[hL,Zhv,Zlx ok hj hmx]⟩)⟩
    obtain⟨c,hc,rfl⟩:=Z2.mp hx;have cin:c∈cs:=by
     rw[emid] at hc;by_cases d1:fx.d=1
     ·rw[if_pos d1] at hc
      exact Br (B4 _ _) (fun _ h=>h) c hc
     ·rw[if_neg d1] at hc
      exact E7 _ _ _ c hc
    refine⟨_,rfl,_,rfl,_,rfl,d,fx,t,sz,c,Jc ys,rfl,ok,(hRu4.same s6).same sm,(B.cs8 c cin).2,fun p8 H8 s8 hp8=>?_⟩;have z:=hR H8 s8;refine⟨_,rfl,p8,p,_,_,rfl,rfl,SqT.of hp8,SqT.of (s8 _ _ (sm _ _ hp6)),_,rfl,?_⟩;have e:gtV fx t (Jc ys) (rk fx t (Jc ys) y) (.int (c:Nat))=HT.lexLt (Xl fx t (Jc ys) y) (Xl fx t (Jc ys) c):=by
     rw[Zcd,Gn ok];exact decide_eq_decide.mpr ⟨fun h=>by omega,fun h=>by omega⟩
    rw[e] at z;exact z
   obtain⟨l7,rfl,s7,hL7⟩:=z;have s67:=(s4.trans s6).trans s7;have ea:O3 fx.d fx t ys cs=El (Ve fx t ys (El ss cs)) (El ss cs):=by
    rw[emid,d3];rfl
   have eg:decide ((0:Int) < (((vN (Ve fx t ys (El ss cs))).length:Nat):Int))=decide (Ve fx t ys (El ss cs)≠[]):=by
    rw[Jq];exact decide_eq_decide.mpr ⟨fun h z=>by rw[z] at h;exact absurd h (by decide),fun h=>by have:=List.length_pos_iff.mpr h;omega⟩
   refine⟨_,rfl,l7,_,rfl,.inl (SqL.of hL7),_,_,rfl,rfl,_,rfl,Xu eg ?_⟩;by_cases t0:Ve fx t ys (El ss cs)=[]
   ·rw[Zd (fun z=>z t0)]
    refine J9 (nx _ _ ⟨s67,l4,_,_,rfl,?_⟩);rw[s7 _ _ hL6,ea,Zop t0]
   ·rw[Zf t0]
    refine Ub ⟨_,rfl,nx _ _ ⟨s67,l7,_,_,rfl,?_⟩⟩;rw[hL7,ea,Zoo t0]
  ·rw[Zd d3]
   refine J9 (nx _ _ ⟨s4,l4,_,_,rfl,?_⟩);rw[hL4,emid,Zk0 fx.d d0 d3]
 obtain⟨s5,l5,x5,x6,rfl,hL5⟩:=z;exact⟨_,rfl,q l5 H5 s5 (by rw[if_neg y0];exact hL5)⟩
end
end My
namespace L2
open PySem PySem.Spec PyProof.Rows
theorem Qb:∀(names:List (Str×NameKind)) (n:Nat) (acc:List (Str×Addr)),cellsFrom n names acc=cellsFrom n names []++acc
 | [],_,acc=>rfl
 | (x,k) :: r,n,acc=>by
  unfold cellsFrom;by_cases hk:(k == NameKind.cell)=true
  ·rw[if_pos hk,if_pos hk,Qb r (n+1) ((x,n) :: acc),Qb r (n+1) [(x,n)],Qs];rfl
  ·rw[if_neg hk,if_neg hk];exact Qb r n acc
theorem V6{x:Str}{c:Addr}:∀(names:List (Str×NameKind)) (n:Nat) (acc:List (Str×Addr)),(x,c)∈cellsFrom n names acc→(x,NameKind.cell)∈names∨(x,c)∈acc
 | [],_,acc,h=>.inr h
 | (y,k) :: r,n,acc,h=>by
  unfold cellsFrom at h;by_cases hk:(k == NameKind.cell)=true
  ·rw[if_pos hk] at h
   rcases V6 r (n+1) _ h with q | q
   ·exact .inl (Zx _ q)
   ·rcases List.mem_cons.mp q with e | e
    ·cases e
     have e2:k = .cell:=by simpa using hk
     rw[e2];exact .inl Zw
    ·exact .inr e
  ·rw[if_neg hk] at h
   rcases V6 r n _ h with q | q
   ·exact .inl (Zx _ q)
   ·exact .inr q
theorem Eg{α:Type}{x:Str}:∀(l m:List (Str×α)),(l++m).lookup x=(l.lookup x).orElse fun _=>m.lookup x
 | [],m=>rfl
 | (y,a) :: r,m=>by
  rw[List.cons_append,List.lookup_cons,List.lookup_cons];cases x == y with
  | true=>rfl
  | false=>exact Eg r m
theorem Ez{env:Env}{x:Str}:∀(names:List (Str×NameKind)),
  (names.map fun(n,k)=>if(k == NameKind.free && env.scope.kind == .function && env.kindOf n == some .cell) then(n,NameKind.cell) else(n,k)).lookup x=(names.lookup x).map fun k=>if(k == NameKind.free && env.scope.kind == .function && env.kindOf x == some .cell) then NameKind.cell else k
 | []=>rfl
 | (y,k) :: r=>by
  have ih:=Ez (env:=env) (x:=x) r;show List.lookup x ((if(k == NameKind.free && env.scope.kind == .function && env.kindOf y == some .cell)=true then(y,NameKind.cell) else(y,k)) :: _)=_;by_cases hk:(k == NameKind.free && env.scope.kind == .function && env.kindOf y == some .cell)=true
  ·rw[if_pos hk,List.lookup_cons,List.lookup_cons]
   by_cases e:x=y
   ·subst e
    rw[beq_self_eq_true];show some _=some _;exact(congrArg some (if_pos hk)).symm
   ·have e':(x == y)=false:=by simpa using e
    rw[e'];exact ih
  ·rw[if_neg hk,List.lookup_cons,List.lookup_cons]
   by_cases e:x=y
   ·subst e
    rw[beq_self_eq_true];show some _=some _;exact(congrArg some (if_neg hk)).symm
   ·have e':(x == y)=false:=by simpa using e
    rw[e'];exact ih
theorem Rc{env:Env}{names:List (Str×NameKind)}{x:Str}{k:NameKind}
  (h:(names.map fun(n,k)=>if(k == NameKind.free && env.scope.kind == .function && env.kindOf n == some .cell) then(n,NameKind.cell) else(n,k)).lookup x=some k) (hk:k = .cell∨k = .free) :
  names.lookup x=some .cell∨names.lookup x=some .free:=by
 rw[Ez] at h;cases q:names.lookup x with
 | none=>rw[q] at h;cases h
 | some j=>
  rw[q] at h;by_cases hj:(j == NameKind.free && env.scope.kind == .function && env.kindOf x == some .cell)=true
  ·have e:j = .free:=by
    rw[Bool.and_eq_true,Bool.and_eq_true] at hj
    simpa using hj.1.1
   rw[e];exact .inr rfl
  ·have h':some (if(j == NameKind.free && env.scope.kind == .function && env.kindOf x == some .cell)=true then NameKind.cell else j)=some k:=h
   rw[if_neg hj] at h';cases h';rcases hk with e | e
   ·rw[e];exact .inl rfl
   ·rw[e];exact .inr rfl
def clC(env:Env)(scope:Scope)(C:Addr):List (Str×Addr):=cellsFrom (C+1) scope.names (Ql env scope.names [])
def Zmh(scope:Scope)(x:Str):Bool:=match scope.names.lookup x with | some .cell=>true | _=>false
def Mf(X:Cx)(N:List Str)(scope:Scope)(C:Addr)(s₀:Shared)(H₀:Hp)(ex:List Addr)(xe:Value→Shared→Prop):Cx:=
 { X with N:=N,s₀:=s₀,H₀:=H₀,env:=compEnvC scope (clC X.env scope C) C X.env,outer:=X.stack,stack:=X.stack,ex:=ex,fn:=Zmh scope,pn:=[],xe:=xe }
structure BlkC(X:Cx)(N:List Str)(caps:List (Option Nat))(scope:Scope):Prop where
 kind:scope.kind = .function
 own:∀ y∈scope.names,y.2 = .cell→scope.names.lookup y.1=some .cell
 names:∀ y∈scope.names,y.2 = .local→scope.names.lookup y.1=some .local
 free:∀ y∈scope.names,y.2 = .free→X.env.kindOf y.1=some .cell∨X.env.kindOf y.1=some .free
 len:caps.length=N.length
 cap:∀(i j:Nat) (x:Str),caps[i]? = some (some j)→N[i]? = some x→X.N[j]? = some x∧Vis X.env.scope x∧scope.names.lookup x=some .free
theorem Qa{env:Env}{scope:Scope}{C:Addr}{x:Str}{c:Addr}(h:(clC env scope C).lookup x=some c) :
  (cellsFrom (C+1) scope.names []).lookup x=some c∨((cellsFrom (C+1) scope.names []).lookup x=none∧(Ql env scope.names []).lookup x=some c):=by
 unfold clC at h;rw[Qb,Eg] at h;cases q:(cellsFrom (C+1) scope.names []).lookup x with
 | some d=>rw[q] at h;exact .inl h
 | none=>rw[q] at h;exact .inr ⟨rfl,h⟩
theorem Zcm{env:Env}{scope:Scope}{C:Addr}{x:Str}{c:Addr}(h:(cellsFrom (C+1) scope.names []).lookup x=some c):(clC env scope C).lookup x=some c:=by
 unfold clC;rw[Qb,Eg,h];rfl
theorem Kw{env:Env}{scope:Scope}{C:Addr}{x:Str}{c:Addr}(h0:(cellsFrom (C+1) scope.names []).lookup x=none)(h:(Ql env scope.names []).lookup x=some c):(clC env scope C).lookup x=some c:=by
 unfold clC;rw[Qb,Eg,h0];exact h
theorem As{X:Cx}{N:List Str}{caps:List (Option Nat)}{scope:Scope}{C:Addr}{x:Str}(B:BlkC X N caps scope)(h:scope.names.lookup x=some .free):(cellsFrom (C+1) scope.names []).lookup x=none:=by
 cases q:(cellsFrom (C+1) scope.names []).lookup x with
 | none=>rfl
 | some c=>
  rcases V6 _ _ _ (PySem.mem_of_lookup q) with e | e
  ·have:=B.own _ e rfl
   rw[h] at this;cases this
  ·cases e
structure CellsAt(scope:Scope)(C:Addr)(h:Heap):Prop where
 cell:∀ x c,(cellsFrom (C+1) scope.names []).lookup x=some c→h.IsCell c none
theorem Zac(scope:Scope)(h:Heap):CellsOk (pushCells (h.push { cls:=.type "dict",data:=.dict #[] }) scope.names) (h.objs.size+1) (cellsFrom (h.objs.size+1) scope.names []):=by
 have ok:=cellsFrom_ok scope.names (h.push { cls:=.type "dict",data:=.dict #[] }) (h.objs.size+1) [] ⟨fun _ _ hm=>(nomatch hm),List.Pairwise.nil⟩ (by rw[Heap.size_push];exact Nat.le_refl _);rw[Heap.size_push] at ok;exact ok
theorem Zdo{M:Model}{A:Around}{E:Value→Shared→Prop}{s:Shared}{scope:Scope}{globals:Addr}{cl:List (Str×Addr)}{qual:Str}{env:Env}{Q:Env→Shared→Prop}
  (hQ:∀ h₁:Heap,h₁.Ns s.heap.objs.size (fun _=>none)→(∀ b o,s.heap.get? b=some o→h₁.get? b=some o)→CellsAt scope s.heap.objs.size h₁ →
   Q { scope,locals:=s.heap.objs.size,globals,cells:=cellsFrom (s.heap.objs.size+1) scope.names cl,qual,func:=none,code:=env.code,frame:=env.frame,builtins:=env.builtins } { s with heap:=h₁ }) :
  wpAny M A (newFunctionEnv scope globals cl [] qual none .none (some env)) Q E s:=by
 simp only[newFunctionEnv,Option.isSome_some,if_true];refine Zc (wpAny_alloc ?_);refine Zc (wpAny_layCells _ (fun name kind cells=>by cases hkc:kind == NameKind.cell<;>simp [hkc]) _ _ _ _ ?_);rw[show({ s with heap:=s.heap.push { cls:=.type "dict",data:=.dict #[] } }:Shared).heap.objs.size=s.heap.objs.size+1 from Heap.size_push ..];refine Zc ?_;rw[List.forIn_nil];have ok:=Zac scope s.heap;refine wpAny_pure (wpAny_pure (hQ _ ((Heap.Ns.new s.heap (.type "dict")).keeps (pushCells_keeps _ _)) (fun b o e=>pushCells_keeps _ _ b o (Ze _ e)) ⟨fun x c h=>(ok.empty x c (PySem.mem_of_lookup h)).1⟩))
section
variable{X:Cx}{pins:List (Addr×Obj)}{σ:St}{H:Hp}{s:Shared}
theorem X7{scope:Scope}{h:Heap}{x:Str}{c:Addr}(e:(cellsFrom (h.objs.size+1) scope.names []).lookup x=some c):h.objs.size < c:=((Zac scope h).empty x c (PySem.mem_of_lookup e)).2
theorem Zky{N:List Str}{caps:List (Option Nat)}{scope:Scope}{fp:List Addr}{xe:Value→Shared→Prop}(B:BlkC X N caps scope)(I:Inv X pins σ H s)(hlt:∀ b∈fp,b < s.heap.objs.size)(hf:∀ b∈fp,Ba X pins H b) :
  (Mf X N scope s.heap.objs.size s H fp xe).Ok where
 mod:=I.ok.mod
 kind:=B.kind
 glob:=I.ok.glob
 blt:=I.ok.blt
 above:=Nat.le_refl _
 inj:=fun x y c hx hy=>by
  have sub:=fun(z:Str) (c:Addr) (h:(Ql X.env scope.names []).lookup z=some c)=>Xq (env:=X.env) (acc:=[]) (fun _ _ e=>by simp at e) z c h;rcases Qa hx with h1 | ⟨_,h1⟩<;>rcases Qa hy with h2 | ⟨_,h2⟩
  ·exact name_of_addr (Zac scope s.heap).apart (PySem.mem_of_lookup h1) (PySem.mem_of_lookup h2)
  ·obtain⟨v,q⟩:=I.cell y c (sub y c h2)
   exact absurd (X7 h1) (Nat.not_lt.mpr (J2 q.lt))
  ·obtain⟨v,q⟩:=I.cell x c (sub x c h1)
   exact absurd (X7 h2) (Nat.not_lt.mpr (J2 q.lt))
  ·exact I.ok.inj x y c (sub x c h1) (sub y c h2)
 has:=fun x hk=>by
  have hm:scope.names.lookup x=some .cell∨scope.names.lookup x=some .free:=hk.elim (fun e=>Rc e (.inl rfl)) fun e=>Rc e (.inr rfl);rcases hm with e | e
  ·obtain⟨c,hc⟩:=B8 (n:=s.heap.objs.size+1) e
   exact⟨c,Zcm hc⟩
  ·have hm:=Ef e
   obtain⟨c,hc⟩:=I.ok.has x (B.free _ hm rfl);obtain⟨d,hd⟩:=Option.isSome_iff_exists.mp (Tt (env:=X.env) (acc:=[]) hm hc);exact⟨d,Kw (As B e) hd⟩
 cab:=fun x c h hc=>by
  have e:scope.names.lookup x=some .cell:=by
   have h':Zmh scope x=true:=h;unfold Zmh at h';split at h'
   ·assumption
   ·cases h'
  obtain⟨d,hd⟩:=B8 (n:=s.heap.objs.size+1) e;have:=Zcm (env:=X.env) hd;have hc':(clC X.env scope s.heap.objs.size).lookup x=some c:=hc;rw[this] at hc';cases hc';exact J2 (X7 hd)
 hd:=I.ok.hd
 frames:=I.ok.frames
 stk:=.inl rfl
 exf:=fun b hb=>⟨Nat.ne_of_lt (hlt b hb),fun x c hc=>by
  rcases Qa hc with h1 | ⟨_,h1⟩
  ·exact Nat.ne_of_gt (Nat.lt_trans (hlt b hb) (X7 h1))
  ·exact(hf b hb).2.2.2.2.1 x c (Xq (fun _ _ e=>by simp at e) x c h1)⟩
 bs:=I.bs
 bsz:=Nat.le_trans I.ok.bsz I.sz
 noex:=fun b o e hb=>by
  rcases(hf b hb).2.2.2.1 with h | h
  ·exact I.ok.noex b o e h
  ·exact absurd (Zs (I.ok.bs b o e).1) (Nat.not_lt.mpr h)
 exfs:=fun b hb hs=>by
  rcases List.mem_cons.mp (I.stkSub b hs) with e | e
  ·exact(hf b hb).2.1 e
  ·exact(hf b hb).2.2.1 e
 funs:=I.stack
 frf:=I.stkFree
theorem Zih{N:List Str}{caps:List (Option Nat)}{scope:Scope}{fp:List Addr}{xe:Value→Shared→Prop}{h₁:Heap}{t':Nat}(B:BlkC X N caps scope)(I:Inv X pins σ H s)(hlt:∀ b∈fp,b < s.heap.objs.size)(hf:∀ b∈fp,Ba X pins H b)
  {m:Str→Option Value} (hn:h₁.Ns s.heap.objs.size m) (hk:∀ b o,s.heap.get? b=some o→h₁.get? b=some o) (hcs:CellsAt scope s.heap.objs.size h₁) :
  Inv (Mf X N scope s.heap.objs.size s H fp xe) [] (Nb caps σ) H { s with heap:=h₁,toks:=t' } where
 ok:=Zky B I hlt hf
 os:=rfl
 bare:=I.bare
 base:=Un.kept hk
 loc:=by
  refine⟨m,hn,fun i x v hN hσ hv=>?_⟩;unfold Nb at hσ;rw[Zm] at hσ;cases hc:caps[i]? with
  | none=>rw[hc] at hσ;cases hσ
  | some oj=>
   rw[hc] at hσ;cases oj with
   | none=>cases hσ
   | some j=>
    have hσ':(σ[j]?).join=some v:=Zn hσ;have hj:σ[j]? = some (some v):=by
     cases q:σ[j]? with
     | none=>rw[q] at hσ';cases hσ'
     | some o=>rw[q] at hσ';have:o=some v:=hσ';rw[this]
    obtain⟨hNj,hVis,hfr⟩:=B.cap i j x hc hN;obtain⟨m',_,hl⟩:=I.loc;obtain⟨u,ru,lk⟩:=hl j x v hNj hj hVis;have hm:=Ef hfr;have hkX:=B.free _ hm rfl;refine⟨u,ru,.inr ⟨Q9 hfr,?_⟩⟩;rcases lk with⟨e,_⟩ | ⟨_,c,hc1,hc2⟩
    ·rcases hkX with e' | e'
     ·rw[e] at e';cases e'
     ·rw[e] at e';cases e'
    ·obtain⟨c',hc'⟩:=Option.isSome_iff_exists.mp (Tt (env:=X.env) (acc:=[]) hm hc1)
     have h2:=Xq (fun _ _ e=>by simp at e) x c' hc';rw[hc1] at h2;cases h2;exact⟨c,Kw (As B hfr) hc',hc2.keeps hk⟩
 cell:=fun x c hc=>by
  rcases Qa hc with h1 | ⟨_,h1⟩
  ·exact⟨none,hcs.cell x c h1⟩
  ·obtain⟨v,hv⟩:=I.cell x c (Xq (fun _ _ e=>by simp at e) x c h1)
   exact⟨v,hv.keeps hk⟩
 free:=I.hok.fresh (Nat.le_refl _)
 freeC:=fun x c hc=>by
  rcases Qa hc with h1 | ⟨_,h1⟩
  ·exact I.hok.fresh (J2 (X7 h1))
  ·exact I.freeC x c (Xq (fun _ _ e=>by simp at e) x c h1)
 pin:=fun p hp=>by cases hp
 hok:=I.hok.kept hk
 len:=by unfold Nb;rw[Zi];exact B.len
def Zoz(X:Cx)(N:List Str)(scope:Scope)(use:Option (Value→Sem Unit))(Q:Value→Shared→Prop)(acc:Value)(C:Addr):Value→Shared→Prop:=
 notedBy (model X.prog X.w) X.A (compEnvC scope (clC X.env scope C) C X.env) fun e s'=>compPost (model X.prog X.w) X.A X.xe use Q acc C (.error e) s'
theorem Za0{tg elt iter:Expr}{ifs:List Expr}{scope:Scope}{pos pos':Pos}{N:List Str}{caps:List (Option Nat)}{wi:TI}{g:TG}{tt:TT}{te:TE}{use:Option (Value→Sem Unit)}{Q:Value→Shared→Prop}{Qv:V→Hp→Prop}
  {xe:Value→Shared→Prop} (hc:X.calm=true) (B:BlkC X N caps scope) (hi:PI X tg iter wi)
  (hg:∀ C s₀ H₀ ex,PG (Mf X N scope C s₀ H₀ ex xe) tg g) (ht:∀ C s₀ H₀ ex,PF (Mf X N scope C s₀ H₀ ex xe) ifs tt) (he:∀ C s₀ H₀ ex,PE (Mf X N scope C s₀ H₀ ex xe) elt te)
  (I:Inv X pins σ H s) (h:wi σ H fun J H1=>Q7 g tt te (Nb caps σ) J H1 Qv)
  (fin:∀ l C H' s5,Inv X pins σ H' s5→(∃ m,s5.heap.Ns C m)→Loose X pins H' C→Qv (.ref l) H'→compPost (model X.prog X.w) X.A X.xe use Q (.ref l) C (.ok .next) s5)
  (hx:∀ acc C e s',xe e s'→Zoz X N scope use Q acc C e s')
  (hs:∀ x,foldedSetIterable iter X.env x=pure x:=by intro _;rfl) :
  wpAny (model X.prog X.w) X.A (comprehension (.ListComp elt [⟨tg,iter,ifs,0⟩] scope pos) scope X.env pos' (newList []) false (eval iter X.env) use) Q X.xe s:=by
 have hclos:closureFor scope X.env=(pure (Ql X.env scope.names []):Sem _):=Zid fun y hy hf=>I.ok.has y.1 (B.free y hy hf);refine wpAny_comprehension_free rfl hs hclos B.kind B.names (Y5 (hi pins s σ H _ I h) fun v s1 h1=>Y5 h1 fun itv s2 h2=>?_);obtain⟨it,fp,tn,J,H2,e,I2,T,st2,f2,hJ⟩:=h2;subst e;have I3:Inv X pins σ (upd H2 s2.heap.objs.size (.lst [])) { s2 with heap:=s2.heap.push { cls:=.type "list",data:=.seq ([]:List Value).toArray },toks:=s2.toks }:=I2.lnew (ys:=[]) (its:=[]) .nil (Nat.zero_le _);have hfr2:H2 s2.heap.objs.size=none:=I2.fresh;obtain⟨W,⟨m0,w0⟩,turn⟩:=hJ s2.heap.objs.size hfr2;refine wpAny_newList ?_;generalize hs3:({ s2 with heap:=s2.heap.push { cls:=.type "list",data:=.seq ([]:List Value).toArray } }:Shared)=s3;have es3:({ s2 with heap:=s2.heap.push { cls:=.type "list",data:=.seq ([]:List Value).toArray },toks:=s2.toks }:Shared)=s3:=hs3;rw[es3] at I3;have keep3:∀ b o,s2.heap.get? b=some o→s3.heap.get? b=some o:=fun b o e=>by rw[← hs3];exact Ze _ e
 have fpo:∀ b∈fp,∃ o,s2.heap.get? b=some o∧∀ v,o.data ≠ .cell v:=T.obj _ _ st2;have hlt2:∀ b∈fp,b < s2.heap.objs.size:=fun b hb=>by obtain⟨o,e,_⟩:=fpo b hb;exact Zs e
 have hlt3:∀ b∈fp,b < s3.heap.objs.size:=fun b hb=>by obtain⟨o,e,_⟩:=fpo b hb;exact Zs (keep3 b o e)
 have hf3:∀ b∈fp,Ba X pins (upd H2 s2.heap.objs.size (.lst [])) b:=fun b hb=>⟨by rw[Zu (Nat.ne_of_lt (hlt2 b hb))];exact(f2 b hb).1,(f2 b hb).2⟩;refine Zdo fun h₁ hns₁ keep4 hcs₁=>?_;have I4:∀ t',Inv (Mf X N scope s3.heap.objs.size s3 (upd H2 s2.heap.objs.size (.lst [])) fp xe) [] (Nb caps σ) (upd H2 s2.heap.objs.size (.lst [])) { s3 with heap:=h₁,toks:=t' }:=fun t'=>Zih B I3 hlt3 hf3 hns₁ keep4 hcs₁;generalize hY:Mf X N scope s3.heap.objs.size s3 (upd H2 s2.heap.objs.size (.lst [])) fp xe=Y at I4;have Yp:Y.prog=X.prog:=by rw[← hY];rfl
 have Yw:Y.w=X.w:=by rw[← hY];rfl
 have YK:Y.K=X.K:=by rw[← hY];rfl
 have Yc:Y.calm=true:=by rw[← hY];exact hc
 have YA:Y.A=X.A:=by rw[← hY];rfl
 have Yx:Y.xe=xe:=by rw[← hY];rfl
 have Ye:Y.env=compEnvC scope (clC X.env scope s3.heap.objs.size) s3.heap.objs.size X.env:=by rw[← hY];rfl
 have hgY:PG Y tg g:=by rw[← hY];exact hg _ _ _ _
 have htY:PF Y ifs tt:=by rw[← hY];exact ht _ _ _ _
 have heY:PE Y elt te:=by rw[← hY];exact he _ _ _ _
 have stat:∀{H':Hp},(∀ b∈fp,H' b=none)→∀ b∈fp,Ba Y [] H' b:=fun {H'} hn b hb=>by
  refine⟨hn b hb,?_,?_,.inl (by rw[← hY];exact hb),?_,?_⟩
  ·rw[Ye];exact Nat.ne_of_lt (hlt3 b hb)
  ·intro hm
   rw[← hY] at hm;rcases List.mem_cons.mp (I3.stkSub b hm) with e | e
   ·exact(f2 b hb).2.1 e
   ·exact(f2 b hb).2.2.1 e
  ·intro x c hcl
   rw[Ye] at hcl;rcases Qa hcl with h1 | ⟨_,h1⟩
   ·exact Nat.ne_of_gt (Nat.lt_trans (hlt3 b hb) (X7 h1))
   ·exact(f2 b hb).2.2.2.2.1 x c (Xq (fun _ _ e=>by simp at e) x c h1)
  ·intro p hp
   rw[← hY] at hp;cases hp
 have st4:tn 0 h₁:=T.keep _ _ _ st2 fun b hb o e=>keep4 b o (keep3 b o e);have toX:∀ e s',xe e s'→notedBy (model X.prog X.w) X.A (compEnvC scope (clC X.env scope s3.heap.objs.size) s3.heap.objs.size X.env) (fun e s'=>compPost (model X.prog X.w) X.A X.xe use Q (.ref s2.heap.objs.size) s3.heap.objs.size (.error e) s') e s':=fun e s' hxe=>hx _ _ e s' hxe;have loop:∀ tk,codeAny (model X.prog X.w) X.A (.compLoop (.ListComp elt [⟨tg,iter,ifs,0⟩] scope pos) 0 (.ref it) (.ref s2.heap.objs.size) (compEnvC scope (clC X.env scope s3.heap.objs.size) s3.heap.objs.size X.env))
   (compPost (model X.prog X.w) X.A X.xe use Q (.ref s2.heap.objs.size) s3.heap.objs.size) { s3 with heap:=h₁,toks:=tk }:=by
  intro tk;refine M0 (fun n s'=>∃ i σ' H',Inv Y [] σ' H' s'∧tn i s'.heap∧(∀ b∈fp,H' b=none)∧W i n σ' H') ?_ m0 ⟨0,_,_,I4 tk,st4,fun b hb=>(hf3 b hb).1,w0⟩;rintro n s5 ⟨i,σ5,H5,I5,st5,fr5,w5⟩;have moX:∀{α:Type} {t:Sem α} {Q1:α→Shared→Prop} {s:Shared},wpAny (model X.prog X.w) X.A t Q1 xe s→wpAny (model X.prog X.w) X.A t Q1
    (notedBy (model X.prog X.w) X.A (compEnvC scope (clC X.env scope s3.heap.objs.size) s3.heap.objs.size X.env) (fun e s'=>compPost (model X.prog X.w) X.A X.xe use Q (.ref s2.heap.objs.size) s3.heap.objs.size (.error e) s')) s:=
   fun h=>wpAny_mono h (fun _ _ q=>q) toX
  rcases turn i n σ5 H5 w5 with⟨stop,q⟩ | ⟨go,step⟩
  ·have z:=T.done Y Yp Yw YK Yc i [] s5 σ5 H5 xe I5 (stat fr5) st5 stop
   rw[YA] at z;refine moX (Y5 z fun r s6 ⟨hr,I6⟩=>?_);subst hr;obtain⟨m,hm,_⟩:=I6.loc;have hCn:H5 s3.heap.objs.size=none:=by have z:=I6.free;rw[Ye] at z;exact z
   have un:Un (Vc X.stack) fp (upd H2 s2.heap.objs.size (.lst [])) H5 s3.heap s6.heap:=by have z:=I6.base;rw[← hY] at z;exact z
   have hos:s6.os=s3.os:=by have z:=I6.os;rw[← hY] at z;exact z
   have hok:HOk X.prog X.w H5 s6.heap:=by have z:=I6.hok;rw[Yp,Yw] at z;exact z
   have IX:Inv X pins σ H5 s6:=I3.call' (ch:=fp) hos un hok I6.bare fun b hb=>⟨(f2 b hb).2.2.2.1,(f2 b hb).2.1,(f2 b hb).2.2.2.2.1,(f2 b hb).2.2.2.2.2⟩;refine fin _ _ H5 s6 IX ⟨m,by rw[Ye] at hm;exact hm⟩ ⟨hCn,?_,I3.sz,?_,?_⟩ q
   ·exact Nat.ne_of_gt I3.lt
   ·intro x c hcl
    obtain⟨v,hv⟩:=I3.cell x c hcl;exact Nat.ne_of_lt hv.lt
   ·intro p hp
    exact Nat.ne_of_lt (Zs (I3.pin p hp).1)
  ·have z:=T.item Y Yp Yw YK Yc i [] s5 σ5 H5 xe I5 (stat fr5) st5 go
   rw[YA] at z;refine moX (Y5 z fun r s6 ⟨u,hr,h6⟩=>?_);subst hr;refine moX (Y5 h6 fun _ s7 ⟨x,H7,I7,r7,y7,st7,fr7⟩=>?_);have I7':=I7.pinned (stat fr7) (T.obj _ _ st7);have hN:=step x H7 y7;have again:∀{σ':St} {H':Hp} {s':Shared} {m':Nat},m' < n→Inv Y ([]++Vr fp s7.heap) σ' H' s'→W (i+1) m' σ' H'→∃ m,m < n∧∃ i σ'' H'',Inv Y [] σ'' H'' s'∧tn i s'.heap∧(∀ b∈fp,H'' b=none)∧W i m σ'' H'':=fun {σ' H' s' m'} hm I' w'=>by
    refine⟨m',hm,i+1,σ',H',I'.unpinned,T.keep _ _ _ st7 fun b hb o e=>(I'.pin (b,o) (List.mem_append_right _ (List.mem_append_right _ (Xv hb e)))).1,fun b hb=>?_,w'⟩;obtain⟨o,e,d⟩:=T.obj _ _ st7 b hb;exact(I'.pin (b,o) (List.mem_append_right _ (List.mem_append_right _ (Xv hb e)))).2.1
   have z:=hgY _ s7 σ5 H7 x u _ I7' r7 hN;rw[Yp,Yw,YA,Ye,Yx] at z;refine moX (Y5 z fun _ s8 ⟨σ8,H8,I8,q8⟩=>?_);have z:=htY _ s8 σ8 H8 _ I8 q8;rw[Yp,Yw,YA,Ye,Yx] at z;refine moX (Y5 z fun ok s9 ⟨H9,I9,q9⟩=>?_);cases ok with
   | false=>
    obtain⟨m',hm,w'⟩:=q9;exact again hm I9 w'
   | true=>
    have q9':te σ8 H9 fun v H4=>∃ xs,H4 s2.heap.objs.size=some (.lst xs)∧xs.length < sizeLine∧∃ m',m' < n∧W (i+1) m' σ8 (upd H4 s2.heap.objs.size (.lst (xs++[v]))):=q9;have z:=heY _ s9 σ8 H9 _ I9 q9';rw[Yp,Yw,YA,Ye,Yx] at z;refine moX (Y5 z fun u10 s10 ⟨v10,H10,I10,r10,q10⟩=>?_);obtain⟨xs,hl,hz,m',hm,w'⟩:=q10;have ap:=Ud (X:=Y) _ s10 σ8 H10 (.ref s2.heap.objs.size) [v10] (.ref s2.heap.objs.size) [u10] (fun _ H'=>W (i+1) m' σ8 H') I10 rfl (.cons r10 .nil) ⟨_,xs,v10,rfl,rfl,hl,hz,w'⟩;rw[Yp,Yw,YA,Yx] at ap;refine moX (Y5 ap fun _ s11 ⟨_,H11,I11,_,w11⟩=>again hm I11 w11)
 exact codeAny_compStart_list (loop _) (T.self _ 0 _ _ _ st4 (loop _))
theorem Aj{i:Nat}{x:Str}{pos':Pos}{tg elt iter:Expr}{ifs:List Expr}{scope:Scope}{pos spos:Pos}(N:List Str)(caps:List (Option Nat)){wi:TI}{g:TG}{tt:TT}{te:TE}(hc:X.calm=true)
  (hN:X.N.Nodup) (hi':X.N[i]? = some x) (hx:Loc X.env.scope x) (B:BlkC X N caps scope) (hi:PI X tg iter wi)
  (hg:∀ C s₀ H₀ ex,PG (Mf X N scope C s₀ H₀ ex fun _ _=>False) tg g) (ht:∀ C s₀ H₀ ex,PF (Mf X N scope C s₀ H₀ ex fun _ _=>False) ifs tt) (he:∀ C s₀ H₀ ex,PE (Mf X N scope C s₀ H₀ ex fun _ _=>False) elt te)
  (hsw:swapsWith (.ListComp elt [⟨tg,iter,ifs,0⟩] scope pos) (some (.Name x pos')) spos.line X.env=pure true:=by rfl)
  (hs:∀ x,foldedSetIterable iter X.env x=pure x:=by intro _;rfl) (hf:X.fn x=true∨X.env.scope.names.lookup x=some .local:=by first | exact .inl rfl | exact .inr rfl | assumption) :
  PS X (.Assign [.Name x pos'] (.ListComp elt [⟨tg,iter,ifs,0⟩] scope pos) spos) (Zfd (Zfc caps wi g tt te) (Qr i)):=by
 intro pins s σ H D I h;rw[exec_Assign_Name_used _ _ _ _ hsw];refine Zc (wpAny_standAt (Zc ?_));show wpAny _ X.A (do let _ ← comprehension (.ListComp elt [⟨tg,iter,ifs,0⟩] scope pos) scope X.env _ (newList []) false (eval iter X.env) (some (assign (.Name x pos') X.env))) _ _ s;refine Zc (wpAny_mono (Za0 (use:=some (assign (.Name x pos') X.env)) (Q:=fun _ s'=>SP X pins D .next s') (Qv:=fun v H1=>Qr i v σ H1 D.nx) hc B hi hg ht he I h (fun l C H' s5 I5 ⟨m,hm⟩ lo q=>?_) (fun _ _ _ _ f=>f.elim) hs)
  (fun _ s' hq=>wpAny_pure (wpAny_pure hq)) fun _ _ e=>e)
 show wpAny _ X.A (assign (.Name x pos') X.env (.ref l)) _ _ _;refine wpAny_assign_Name (Vg I5 hN hi' hx (v:=.ref l) rfl (fun s6 I6 ⟨a,sb,ha⟩=>?_) hf);have hCa:C≠a:=by
  rcases ha with e | e
  ·rw[e];exact lo.loc
  ·exact Ne.symm (lo.cel x a e)
 refine⟨m,hm.sameBut sb hCa,fun h' hs'=>⟨_,H',?_,q⟩⟩;exact I6.turned (it:=C) (t':=s6.toks) (fun b o hb e=>hs'.extBut b o hb e) lo.un lo.loc (.inr lo.ab) lo.cel lo.pin
end
def Zpp(scope sc:Scope):Scope:=
 { scope with names:=scope.names.map fun(n,k)=>if(k == .free && sc.kind == .function && sc.names.lookup n == some .cell) then(n,.cell) else(n,k) }
def Zig(sc:Scope)(N0 N:List Str)(caps:List (Option Nat))(scope:Scope):Bool:=
 decide (scope.kind = .function) && scope.names.all (fun y=>decide (y.2 ≠ .cell) || decide (scope.names.lookup y.1=some .cell)) && scope.names.all (fun y=>decide (y.2 ≠ .local) || decide (scope.names.lookup y.1=some .local)) &&
 scope.names.all (fun y=>decide (y.2 ≠ .free) || (decide (sc.names.lookup y.1=some .cell) || decide (sc.names.lookup y.1=some .free))) && decide (caps.length=N.length) &&
 (List.range caps.length).all fun i=>match caps[i]?,N[i]? with
  | some (some j),some x=>decide (N0[j]? = some x) && (decide (sc.names.lookup x=some .cell) || decide (sc.names.lookup x=some .free)) && decide (scope.names.lookup x=some .free)
  | _,_=>true
theorem BlkC.by{X:Cx}{N:List Str}{caps:List (Option Nat)}{scope:Scope}{sc:Scope}{N0:List Str}(hsc:X.env.scope=sc)(hN:X.N=N0)(h:Zig sc N0 N caps scope=true):BlkC X N caps scope:=by
 unfold Zig at h;simp only[Bool.and_eq_true,decide_eq_true_eq,List.all_eq_true,Bool.or_eq_true] at h;obtain⟨⟨⟨⟨⟨h1,h2⟩,h3⟩,h4⟩,h5⟩,h6⟩:=h;subst hsc;subst hN;refine⟨h1,fun y hy e=>(h2 y hy).elim (fun z=>absurd e z) id,fun y hy e=>(h3 y hy).elim (fun z=>absurd e z) id,fun y hy e=>(h4 y hy).elim (fun z=>absurd e z) id,h5,fun i j x e1 e2=>?_⟩;have hi:i < caps.length:=(Zt.mp e1).1;have z:=h6 i (Jm.mpr hi);rw[e1,e2] at z;simp only[Bool.and_eq_true,decide_eq_true_eq,Bool.or_eq_true] at z;exact⟨z.1.1,.inr z.1.2,z.2⟩
theorem Zf7{X:Cx}{tg:Expr}(K:W.Frag)(hK:X.K=K){l:Expr}{tl:TE}(hl:PE X l tl):PI X tg l (Zln K tl):=by
 subst hK;exact Uh hl
end L2
namespace My
open PySem L2
section
variable{fx:Fx}{t:Option Nat}{hs ys hs' ys':List Nat}{lead lead' m h c:Nat}{tk:Option Nat}
theorem Nxt.plc(ok:fx.Ok)(Pl:Plc fx hs lead ys m)(eh:hs[(lead+ys.length) % fx.n]? = some h)(hc:h.testBit c=true)(N:Nxt fx t hs lead ys h c hs' lead' ys' tk) :
  ∃ m',Plc fx hs' lead' ys' m'∧hs'.sum+2 ^ c=hs.sum∧(hs'.map (Xt 32)).sum+1=(hs.map (Xt 32)).sum∧0 < m∧((tk=none∧m'=m∧lead'=lead∧ys'=ys++[c]∧ys.length+1 < fx.n)∨(tk=some lead'∧m'+1=m∧ys'=[]∧lead' < fx.n)):=by
 obtain⟨A,S1,S2,m0,g1,g2⟩:=Pl.step ok eh hc;have yl:=Pl.yl;by_cases cl:ys.length+1 < fx.n
 ·obtain⟨e1,e2,e3⟩:=N.go cl
  rw[N.hand,e1,e2];exact⟨m,g1 cl,S1,S2,m0,.inl ⟨e3,rfl,rfl,rfl,cl⟩⟩
 ·have cl2:ys.length+1=fx.n:=by omega
  obtain⟨e1,e2,i,_,e3⟩:=N.full cl2;have ll:lead' < fx.n:=by rw[e3];exact Xy ok _ _
  rw[N.hand,e1];exact⟨m - 1,g2 cl2 lead' ll,S1,S2,m0,.inr ⟨e2,by omega,rfl,ll⟩⟩
theorem Ze1(Pl:Plc fx hs lead ys m)(eh:hs[(lead+ys.length) % fx.n]? = some h)(hc:h.testBit c=true):(ys++[c]).Nodup:=by
 refine List.nodup_append.mpr ⟨Pl.nd,List.nodup_cons.mpr ⟨Yv,List.nodup_nil⟩,fun y hy z hz=>?_⟩;rw[Jt.mp hz];intro e;subst e;have:=Pl.apart (Zr eh) hy;rw[hc] at this;cases this
theorem Nxt.uniq(Pl:Plc fx hs lead ys m)(eh:hs[(lead+ys.length) % fx.n]? = some h)(hc:h.testBit c=true)(N:Nxt fx t hs lead ys h c hs' lead' ys' tk){hs2 ys2:List Nat}{lead2:Nat}{tk2:Option Nat}(M:Nxt fx t hs lead ys h c hs2 lead2 ys2 tk2) :
  hs'=hs2∧lead'=lead2∧ys'=ys2∧tk=tk2:=by
 have yl:=Pl.yl;refine⟨N.hand.trans M.hand.symm,?_⟩;by_cases cl:ys.length+1 < fx.n
 ·obtain⟨e1,e2,e3⟩:=N.go cl
  obtain⟨d1,d2,d3⟩:=M.go cl;exact⟨e1.trans d1.symm,e2.trans d2.symm,e3.trans d3.symm⟩
 ·have cl2:ys.length+1=fx.n:=by omega
  obtain⟨e1,e2,i,W,e3⟩:=N.full cl2;obtain⟨d1,d2,j,V,d3⟩:=M.full cl2;have ij:=Zer (Ze1 Pl eh hc) W V;subst ij;have el:lead'=lead2:=e3.trans d3.symm;exact⟨el,e1.trans d1.symm,by rw[e2,d2,el]⟩
end
section
variable{P:Program}{w:World}{K:W.Frag}{mg:Str→Option Value}{base:Heap}{f g:Addr}{fd gd:FuncData}
def IsSt(H:Hp)(st:Addr)(css:List (List Nat))(lead:Nat)(ys:List Nat):Prop:=∃(lc lt:Addr) (as:List Addr),H st=some (.tup [.ref lc,.int (lead:Nat),.ref lt])∧H lc=some (.lst (as.map V.ref))∧IsDl H as css∧H lt=some (.lst (vN ys))
theorem IsSt.same{H H':Hp}{st:Addr}{css:List (List Nat)}{lead:Nat}{ys:List Nat}(h:IsSt H st css lead ys)(s:Same H H'):IsSt H' st css lead ys:=by
 obtain⟨lc,lt,as,a,b,c,d⟩:=h;exact⟨lc,lt,as,s _ _ a,s _ _ b,c.same s,s _ _ d⟩
def IsStN(B H:Hp)(st:Addr)(css:List (List Nat))(lead:Nat)(ys:List Nat):Prop:=∃(lc lt:Addr) (as:List Addr),H st=some (.tup [.ref lc,.int (lead:Nat),.ref lt])∧H lc=some (.lst (as.map V.ref))∧IsDl H as css∧H lt=some (.lst (vN ys))∧B st=none∧B lc=none∧B lt=none∧∀ a∈as,B a=none
theorem IsStN.kept{B H H':Hp}{st:Addr}{css:List (List Nat)}{lead:Nat}{ys:List Nat}(h:IsStN B H st css lead ys)(s:∀ b o,B b=none→H b=some o→H' b=some o):IsSt H' st css lead ys:=by
 obtain⟨lc,lt,as,a,b,c,d,n1,n2,n3,n4⟩:=h;refine⟨lc,lt,as,s _ _ n1 a,s _ _ n2 b,⟨c.1,fun i u hu=>?_⟩,s _ _ n3 d⟩;obtain⟨cs,e1,e2⟩:=c.2 i u hu;exact⟨cs,e1,s _ _ (n4 u (Zr hu)) e2⟩
structure StOk(f:Fx)(css:List (List Nat))(lead:Nat)(ys:List Nat)(m:Nat):Prop where
 plc:Plc f (css.map hN) lead ys m
 up:∀ cs∈css,cs.Pairwise (· < ·)
section
variable{fx:Fx}{css:List (List Nat)}{lead m:Nat}{ys cs:List Nat}
theorem StOk.nd(S:StOk fx css lead ys m):∀ cs∈css,cs.Nodup:=fun cs h=>(S.up cs h).imp fun {a b} l e=>by omega
theorem StOk.len(S:StOk fx css lead ys m):css.length=fx.n:=by have:=S.plc.len;rw[Zi] at this;exact this
theorem StOk.pk(S:StOk fx css lead ys m)(h:cs∈css){c:Nat}(hc:c∈cs):c / 8 < fx.s∧c % 8 < fx.h:=
 S.plc.pk c (Xz (ys:=ys) (Z2.mpr ⟨cs,h,rfl⟩) (by rw[Ur];exact Zf hc))
theorem StOk.c32(ok:fx.Ok)(S:StOk fx css lead ys m)(h:cs∈css):∀ c∈cs,c < 32:=fun c hc=>by
 have:=S.pk h hc;have:=ok.s4;have:=ok.h8;omega
theorem StOk.cl(ok:fx.Ok)(S:StOk fx css lead ys m)(h:cs∈css):cs.length≤32∧cs.length=Xt 32 (hN cs):=by
 have e:=Zlg (S.nd cs h) (S.c32 ok h);have:Xt 32 (hN cs)≤32:=by
  unfold Xt;have:=List.length_filter_le (fun b=>(hN cs).testBit b) (List.range 32);rw[J4] at this;exact this
 omega
theorem StOk.turn(ok:fx.Ok)(S:StOk fx css lead ys m):∃ cs,css[(lead+ys.length) % fx.n]? = some cs∧cs.length=m:=by
 obtain⟨h,e1,e2⟩:=S.plc.turn ok;rw[Zm] at e1;obtain⟨cs,e3,rfl⟩:=Option.map_eq_some_iff.mp e1;exact⟨cs,e3,by rw[(S.cl ok (Zr e3)).2,e2]⟩
theorem Zkk{cs:List Nat}{c:Nat}(h:c∈cs):hN (cs.filter fun o=>decide (o≠c))=hN cs ^^^ 2 ^ c:=Nat.eq_of_testBit_eq fun b=>by
 rw[Ur,Nc _ _ _ (by rw[Ur];exact Zf h),Ur];by_cases e:c=b
 ·subst e
  rw[Zf rfl];exact Zd (fun z=>absurd (Jx (List.mem_filter.mp z).2) (fun n=>n rfl))
 ·rw[Zd e,Bool.not_false,Bool.true_and]
  refine decide_eq_decide.mpr ⟨fun z=>(List.mem_filter.mp z).1,fun z=>List.mem_filter.mpr ⟨z,Zf (Ne.symm e)⟩⟩
theorem StOk.put(ok:fx.Ok){t:Option Nat}{c lead':Nat}{ys':List Nat}{tk:Option Nat}(S:StOk fx css lead ys m)(ec:css[(lead+ys.length) % fx.n]? = some cs)(hc:c∈cs)(N:Nxt fx t (css.map hN) lead ys (hN cs) c ((css.set ((lead+ys.length) % fx.n) (cs.filter fun o=>decide (o≠c))).map hN) lead' ys' tk) :
  ∃ m',StOk fx (css.set ((lead+ys.length) % fx.n) (cs.filter fun o=>decide (o≠c))) lead' ys' m'∧0 < m∧((tk=none∧m'=m∧lead'=lead∧ys'=ys++[c]∧ys.length+1 < fx.n)∨(tk=some lead'∧m'+1=m∧ys'=[]∧lead' < fx.n))∧0 < m:=by
 have eh:(css.map hN)[(lead+ys.length) % fx.n]? = some (hN cs):=by rw[Zm,ec];rfl
 have hb:(hN cs).testBit c=true:=by rw[Ur];exact Zf hc
 obtain⟨m',P',_,_,m0,alt⟩:=N.plc ok S.plc eh hb;refine⟨m',⟨P',fun cs' h=>?_⟩,m0,alt,m0⟩;rcases List.mem_or_eq_of_mem_set h with z | z
 ·exact S.up cs' z
 ·rw[z]
  exact(S.up cs (Zr ec)).filter _
end
def Ng:Sp:=fun vs H Q _=>∃(st:Addr) (css:List (List Nat)) (lead:Nat) (ys:List Nat),vs=[.ref st]∧IsSt H st css lead ys∧0 < css.length∧Q (.int (((lead+ys.length) % css.length:Nat):Int)) H
abbrev Ed:List Str:=["_law_state"]
theorem Zi8:FnScope Ed Ed (Zp S5):=⟨rfl,rfl,rfl,by decide +kernel,rfl,by decide +kernel,by decide +kernel⟩
theorem Zgw{k:Nat}(F:Fun K "_law_turn" "_law_turn" S5 f fd)(ml:mg "len" = none):FnOk P w K mg base Y4 (k+1) f fd Ed Ng:=by
 refine F.ok Zi8 (fun vs H Q E h=>?_) (fun cdv A outer s H vs Q E hr h=>?_)
 ·obtain⟨st,css,lead,ys,rfl,_⟩:=h
  rfl
 obtain⟨st,css,lead,ys,rfl,⟨lc,lt,as,h1,h2,h3,h4⟩,n0,q⟩:=h;refine⟨_,Zq (Z6 (Z0 Yg (Z0 Yq (Jn Jw (pv 0) Zl (fun _ _=>rfl)) (Jf Je rfl ml Z5 (Za (Jn Jw (pv 0) Zl (fun _ _=>rfl)) Zh))) (Jf Je rfl ml Z5 (Za (Jn Jw (pv 0) Zl (fun _ _=>rfl)) Zh)))),?_⟩;refine⟨_,rfl,st,_,_,_,rfl,rfl,SqT.of h1,(rfl:Xg [V.ref lc,V.int (lead:Nat),V.ref lt] 1=some (V.int (lead:Nat))),_,rfl,st,_,_,_,rfl,rfl,SqT.of h1,(rfl:Xg [V.ref lc,V.int (lead:Nat),V.ref lt] 2=some (V.ref lt)),lt,_,rfl,.inl (SqL.of h4),_,_,rfl,rfl,_,rfl,st,_,_,_,rfl,rfl,SqT.of h1,(rfl:Xg [V.ref lc,V.int (lead:Nat),V.ref lt] 0=some (V.ref lc)),lc,_,rfl,.inl (SqL.of h2),_,_,rfl,rfl,(by show(0:Int) < (((as.map V.ref).length:Nat):Int);rw[Zi,h3.1];omega),?_⟩;have e:(((lead:Nat):Int)+(((vN ys).length:Nat):Int)) % (((as.map V.ref).length:Nat):Int)=(((lead+ys.length) % css.length:Nat):Int):=by
  rw[Jq,Zi,h3.1];rfl
 show Q (.int ((((lead:Nat):Int)+(((vN ys).length:Nat):Int)) % (((as.map V.ref).length:Nat):Int))) H;rw[e];exact q
def Sg:Sp:=fun vs H Q _=>∃(d st:Addr) (f:Fx) (t:Option Nat) (sz:Nat) (css:List (List Nat)) (lead m:Nat) (ys cs:List Nat) (c:Nat),vs=[.ref d,.ref st,.int (c:Nat)]∧f.Ok∧IsRu H d f t sz∧IsSt H st css lead ys∧StOk f css lead ys m∧css[(lead+ys.length) % f.n]? = some cs∧c∈cs ∧
 ∀ r st' lead' ys' tk H',Same H H'→H' r=some (.tup [.ref st',T1 tk])→IsStN H H' st' (css.set ((lead+ys.length) % f.n) (cs.filter fun o=>decide (o≠c))) lead' ys'→Nxt f t (css.map hN) lead ys (hN cs) c ((css.set ((lead+ys.length) % f.n) (cs.filter fun o=>decide (o≠c))).map hN) lead' ys' tk→Q (.ref r) H'
abbrev Ar:List Str:=["_law_rules_here","_law_state","_law_card"]
abbrev Zhb:List Str:=["_law_rules_here","_law_state","_law_card","_law_hands","_law_lead","_law_trick","_law_seat","_law_rest","_law_ranks","_law_taker"]
theorem scLPut:FnScope Zhb Ar (Zp Rb):=⟨rfl,rfl,rfl,by decide +kernel,rfl,by decide +kernel,by decide +kernel⟩
abbrev nC1:List Str:=["_law_k","_law_hands","_law_seat","_law_card"]
abbrev nC2:List Str:=["_law_one","_law_k","_law_seat","_law_card"]
abbrev nC3:List Str:=["_law_one","_law_rules_here","_law_trick"]
def Zqc:Scope:=match Y0 Rb with
 | [_,_,.Assign _ (.ListComp _ _ sc _) _,_,_,_,_,_]=>sc
 | _=>Zp Rb
theorem nxE{T:St→Hp→Prop}{rt:VK}{bk ct:St→Hp→Prop}{σ:St}{H:Hp}(h:T σ H):(Ends.mk T rt bk ct).nx σ H:=h
def Zhn(i seat c:Nat)(x:V):Bool:=match x with | .int o=>decide (i≠seat) || decide (o≠((c:Nat):Int)) | _=>false
theorem Zar(i seat c:Nat)(cs:List Nat):(((vN cs).filter (Zhn i seat c)).map fun x=>x)=vN (cs.filter fun o=>decide (i≠seat) || decide (o≠c)):=by
 rw[List.map_id'];unfold vN;rw[List.filter_map];refine congrArg _ (List.filter_congr fun o _=>?_);show(decide (i≠seat) || decide (((o:Nat):Int)≠((c:Nat):Int)))=_;have:decide (((o:Nat):Int)≠((c:Nat):Int))=decide (o≠c):=decide_eq_decide.mpr ⟨fun h=>by omega,fun h=>by omega⟩;rw[this]
theorem Zbq{vs:List V}(h:∀(j:Nat) (v:V),vs[j]? = some v→∃ p:Addr,v = .ref p):∃ ps:List Addr,vs=ps.map V.ref:=by
 refine⟨vs.map fun v=>match v with | .ref a=>a | _=>0,?_⟩;rw[Z8];apply Xr;intro j;rw[Zm];cases e:vs[j]? with
 | none=>rfl
 | some v=>
  obtain⟨p,rfl⟩:=h j v e;rfl
theorem Zj2{k:Nat}{f1 f2:Addr}{d1 d2:FuncData}(F:Fun K "_law_put" "_law_put" Rb f fd)(LT:Lib P w K mg base k "_law_turn" Ed Ng f1 d1)(LR:Lib P w K mg base k "_law_rank" G0 Dm f2 d2)(ml:mg "len" = none)(mr:mg "range" = none)(mM:mg "max" = none):FnOk P w K mg base Y4 (k+1) f fd Ar Sg:=by
 refine F.ok scLPut (fun vs H Q E h=>?_) (fun cdv A outer s H vs Q E hr h=>?_)
 ·obtain⟨d,st,fx,t,sz,css,lead,m,ys,cs,c,rfl,_⟩:=h
  rfl
 obtain⟨d,st,fx,t,sz,css,lead,m,ys,cs,c,rfl,ok,hRu,hSt,S,ec,hc,q⟩:=h;refine⟨_,Zg (Og (pv 1) (Oi rfl (Xo (Jr (i:=3) scLPut.nd rfl (Or.inr rfl)) (Xo (Jr (i:=4) scLPut.nd rfl (Or.inl rfl)) (Xo (Jr (i:=5) scLPut.nd rfl (Or.inr rfl)) Rw)))))
  (Zg (Z4 (i:=6) scLPut.nd rfl (Or.inr rfl) (Z9 LT.ok hr rfl LT.mg LT.kp LT.bd .nil Jh (Za (pv 1) Zh)))
  (Zg (Aj (i:=7) nC1 [none,some 3,some 6,some 2] rfl scLPut.nd rfl (Or.inl rfl) (BlkC.by (sc:=Zp Rb) (N0:=Zhb) rfl rfl (by decide +kernel)) (Uy rfl mr (Za (Jf Je rfl ml Z5 (Za (pv 3) Zh)) Zh)) (fun C s₀ H₀ ex=>Jr (i:=0) (show nC1.Nodup by decide +kernel) rfl (Or.inr rfl)) (fun C s₀ H₀ ex=>U4)
   (fun C s₀ H₀ ex=>Ui nC2 [none,some 0,some 2,some 3] rfl (Blk.by (sc:=Zpp Zqc (Zp Rb)) (N0:=nC1) rfl rfl (by decide +kernel)) (Zf7 K rfl (Jn (show IxR _ (Zf3 K) from Yd) (pv 1) (pv 0) (fun _ _=>rfl))) (fun C s₀ H₀ ex=>Jr (i:=0) (show nC2.Nodup by decide +kernel) rfl (Or.inl rfl))
    (fun C s₀ H₀ ex=>Gq (PW.pt (Ek (Z7 Qf (pv 1) (pv 2) (Jd _)) (Qt (Z7 Qf (pv 0) (pv 3) (Jd _)))))) (fun C s₀ H₀ ex=>pv 0)))
  (Zg (Z4 (i:=5) scLPut.nd rfl (Or.inr rfl) (Z0 Zad (pv 5) (U0 (Za (pv 2) Zh))))
  (Zg (Ju (Z7 Zbz (Jf Je rfl ml Z5 (Za (pv 5) Zh)) (Jf Je rfl ml Z5 (Za (pv 3) Zh)) (Jd _))
   (Zq (Z6 (Y2 (Za (Y2 (Za (pv 7) (Za (pv 4) (Za (pv 5) Zh)))) (Za Uz Zh))))) Jg)
  (Zg (Ec (i:=8) nC3 [none,some 0,some 5] rfl scLPut.nd rfl (Or.inl rfl) (Blk.by (sc:=Zp Rb) (N0:=Zhb) rfl rfl (by decide +kernel)) (Uh (pv 5)) (fun C s₀ H₀ ex=>Jr (i:=0) (show nC3.Nodup by decide +kernel) rfl (Or.inl rfl)) (fun C s₀ H₀ ex=>U4)
   (fun C s₀ H₀ ex=>Z9 LR.ok hr rfl LR.mg LR.kp LR.bd .nil Jh (Za (pv 1) (Za (pv 0) (Za (Z0 J1 (Jn (show IxR _ (Zf3 K) from Yd) (pv 2) Zl (fun _ _=>rfl)) Zl) Zh)))))
  (Zg (Z4 (i:=9) scLPut.nd rfl (Or.inl rfl) (Z0 Yg (Z0 Yq (pv 4) (U5 Ja PySem.F.slot_list_index PySem.F.type_list_index (Zds hr.units) (pv 8) (Za (Jf (M3 rfl hr.units) rfl mM PyProof.Rows.boot_max (Za (pv 8) Zh)) Zh))) (Jf Je rfl ml Z5 (Za (pv 3) Zh))))
  (Zq (Z6 (Y2 (Za (Y2 (Za (pv 7) (Za (pv 9) (Za (U0 Zh) Zh)))) (Za (pv 9) Zh))))))))))),?_⟩
 have n4:fx.n≤4:=by rcases ok.n34 with e | e<;>omega
 have n0:0 < fx.n:=by rcases ok.n34 with e | e<;>omega
 have hlen:=S.len;have yl:=S.plc.yl;obtain⟨lc,lt,as,h1,h2,h3,h4⟩:=id hSt;have al:as.length=fx.n:=h3.1.trans hlen;have sl:(lead+ys.length) % fx.n < fx.n:=Xy ok _ _;have cm:=Zr ec;have eh:(css.map hN)[(lead+ys.length) % fx.n]? = some (hN cs):=by rw[Zm,ec];rfl
 have hb:(hN cs).testBit c=true:=by rw[Ur];exact Zf hc
 refine⟨_,rfl,st,_,rfl,SqT.of h1,rfl,_,_,rfl,_,_,rfl,_,_,rfl,rfl,?_⟩;refine nxE ?_;refine Yk (fun v H1=>H1=H∧v = .int (((lead+ys.length) % fx.n:Nat):Int)) (fun R hR=>⟨_,rfl,st,css,lead,ys,rfl,hSt,by omega,hR _ _ ⟨rfl,by rw[hlen]⟩⟩) (fun v H1 z=>?_);obtain⟨rfl,rfl⟩:=z;generalize eseat:(lead+ys.length) % fx.n=seat at *;refine Yk (fun v H2=>∃(l:Addr) (bs:List Addr),v = .ref l∧Same H1 H2∧H2 l=some (.lst (bs.map V.ref))∧IsDl H2 bs (css.set seat (cs.filter fun o=>decide (o≠c)))∧H1 l=none∧∀ b∈bs,H1 b=none) (fun R hR=>?_) (fun v H2 z=>?_)
 ·refine⟨_,rfl,lc,_,rfl,.inl (SqL.of h2),(((as.map V.ref).length:Nat):Int),rfl,by omega,by rw[Zi];omega,?_⟩
  refine Ts (J:=Itr 0 (as.map V.ref).length) (as.map V.ref).length (fun i=>.int (0+((i:Nat):Int))) (fun l i v H=>∃(a:Addr) (ds:List Nat),css[i]? = some ds∧v = .ref a∧a≠l∧H a=some (.lst (vN (ds.filter fun o=>decide (i≠seat) || decide (o≠c))))∧H1 a=none) (Jl _ (by rw[Zi];omega)) (fun i H _ hi=>hi) (fun H _=>Nat.le_refl _) (fun i H x H' _ _ y=>y) (fun l i v H H' g sm=>?_) (fun l i v H xs zs g hl=>?_) (fun i H3 l vs hi sm hl hL R hR=>?_) (fun l H3 vs sm hl hL hvl hvs=>?_)
  ·obtain⟨a,ds,g1,g2,g3,g4,g5⟩:=g
   exact⟨a,ds,g1,g2,g3,sm _ _ g4,g5⟩
  ·obtain⟨a,ds,g1,g2,g3,g4,g5⟩:=g
   exact⟨a,ds,g1,g2,g3,by rw[Zu g3];exact g4,g5⟩
  ·rw[Zi] at hi
   obtain⟨ds,hd1,hd2⟩:=h3.2 i as[i] (Zb hi);have dm:=Zr hd1;have dl:=(S.cl ok dm).1;refine⟨_,rfl,_,rfl,lc,_,_,_,rfl,rfl,SqL.of (sm _ _ h2),(by rw[Int.zero_add];exact Um (by rw[Zm,Zb hi];rfl):Xg (as.map V.ref) (0+((i:Nat):Int))=some (V.ref as[i])),as[i],rfl,⟨_,SqL.of (sm _ _ hd2)⟩,?_⟩;refine Ue (K:=K) (xs:=vN ds) (Zhn i seat c) (fun x=>x) (SqL.of (sm _ _ hd2)) (Jl _ (by rw[Jq];omega)) (fun x H4 hx s4 R hR=>?_) (fun x H4 hx hp s4 R hR=>⟨_,rfl,hR H4 (Same.refl H4)⟩) (fun l4 H4 s4 hl4 hL4=>hR _ _ s4 ⟨l4,ds,hd1,rfl,fun z=>?_,by rw[hL4,Zar],sm.free hl4⟩)
   ·obtain⟨o,ho,rfl⟩:=Z2.mp hx
    have e1:(!decide (V.int (0+((i:Nat):Int))=V.int ((seat:Nat):Int)))=decide (i≠seat):=by
     rw[eq_int,← decide_not];exact decide_eq_decide.mpr ⟨fun h=>by omega,fun h=>by omega⟩
    have e2:(!decide (V.int ((o:Nat):Int)=V.int ((c:Nat):Int)))=decide (((o:Nat):Int)≠((c:Nat):Int)):=by
     rw[eq_int,← decide_not]
    have z:=hR H4 (Same.refl H4);have ek:Zhn i seat c (V.int ((o:Nat):Int))=(decide (i≠seat) || decide (((o:Nat):Int)≠((c:Nat):Int))):=rfl;rw[ek] at z;refine⟨_,rfl,_,rfl,rfl,_,rfl,Xu e1 ?_⟩;by_cases hs:i=seat
    ·rw[Zd (fun n=>n hs)] at z ⊢
     refine J9 ⟨_,rfl,_,rfl,rfl,_,rfl,?_⟩;rw[Bool.false_or,← e2] at z;exact z
    ·rw[Zf hs] at z ⊢
     exact Ub z
   ·rw[z] at hl4
    rw[hL] at hl4;cases hl4
  ·rw[Zi] at hvl
   obtain⟨bs,rfl⟩:=Zbq fun j v e=>let ⟨a,_,_,e2,_⟩:=hvs j v e;⟨a,e2⟩;rw[Zi] at hvl;refine hR _ _ ⟨l,bs,rfl,sm,hL,⟨by rw[Ux,hvl,h3.1],fun j b hj=>?_⟩,hl,fun b hb=>?_⟩
   rotate_left
   ·obtain⟨j,hj,ej⟩:=Jv.mp hb
    obtain⟨a,ds,g1,g2,_,g4,g5⟩:=hvs j (.ref b) (by rw[Zm,Zb hj,ej];rfl);injection g2 with g2
    rw[g2];exact g5
   obtain⟨a,ds,g1,g2,_,g4,_⟩:=hvs j (.ref b) (by rw[Zm,hj];rfl);injection g2 with g2
   subst g2;refine⟨_,?_,g4⟩;by_cases hs:j=seat
   ·subst hs
    rw[List.getElem?_set_self (Zt.mp g1).1];rw[ec] at g1;cases g1;refine congrArg some (List.filter_congr fun o _=>?_);have ej:decide (j≠j)=false:=Zd (fun n=>n rfl);rw[ej,Bool.false_or]
   ·rw[List.getElem?_set_ne (Ne.symm hs),g1]
    refine congrArg some (List.filter_eq_self.mpr fun o _=>?_).symm;rw[Zf hs,Bool.true_or]
 obtain⟨lr,bs,rfl,s2,hR2,hD2,nR,nB⟩:=z;have eY:vN ys++[V.int (c:Nat)]=vN (ys++[c]):=by unfold vN;rw[J3];rfl
 refine Yk (fun v H3=>∃(l:Addr),v = .ref l∧Same H2 H3∧H3 l=some (.lst (vN (ys++[c])))∧H2 l=none) (fun R hR=>?_) (fun v H3 z=>?_)
 ·refine⟨_,rfl,_,rfl,Jl 1 (by decide),fun l hl=>⟨lt,l,_,_,rfl,rfl,Zy hl _ _ _ (s2 _ _ h4),Zj,Jl _ (by rw[Jq];show ys.length+1≤1000;omega),fun pn hpn=>hR _ _ ⟨pn,rfl,(Zy hl _).trans (Zy hpn _),by rw[Zj,eY],(Zy hl _).free hpn⟩⟩⟩
 obtain⟨lq,rfl,s3,hY3,nY⟩:=z;have s13:=s2.trans s3;have e3:decide (((((vN (ys++[c])).length:Nat)):Int) < (((as.map V.ref).length:Nat):Int))=decide (ys.length+1 < fx.n):=by
  rw[Jq,Z3,List.length_singleton,Zi,al];exact decide_eq_decide.mpr ⟨fun h=>by omega,fun h=>by omega⟩
 refine⟨_,rfl,lq,_,rfl,.inl (SqL.of hY3),_,rfl,lc,_,rfl,.inl (SqL.of (s13 _ _ h2)),_,_,rfl,rfl,_,rfl,Xu e3 ?_⟩;have eset:(css.set seat (cs.filter fun o=>decide (o≠c))).map hN=(css.map hN).set seat (hN cs ^^^ 2 ^ c):=by rw[List.map_set,Zkk hc]
 by_cases cl:ys.length+1 < fx.n
 ·rw[Zf cl]
  refine Ub ⟨_,rfl,_,rfl,_,rfl,Jl 3 (by decide),fun p1 hp1=>⟨Jl 2 (by decide),fun p2 hp2=>?_⟩⟩;have a1:=Zy hp1 (.tup [.ref lr,.int (lead:Nat),.ref lq]);have a2:=Zy hp2 (.tup [.ref p1,.non]);have a12:=a1.trans a2;refine q p2 p1 lead (ys++[c]) none _ (s13.trans a12) Zj ⟨lr,lq,bs,a2 _ _ Zj,a12 _ _ (s3 _ _ hR2),(hD2.same s3).same a12,a12 _ _ hY3,s13.free hp1,nR,s2.free nY,nB⟩ ⟨by rw[eset,eseat],fun _=>⟨rfl,rfl,rfl⟩,fun z=>by omega⟩
 ·rw[Zd cl]
  refine J9 (Bs ?_);have cl2:ys.length+1=fx.n:=by omega
  have T:Trk fx (ys++[c]):=⟨Ze1 S.plc (by rw[eseat];exact eh) hb,fun y hy=>by
   rcases Yt.mp hy with z | z
   ·exact(S.plc.pk y (Q0 z)).2
   ·rw[Jt.mp z]
    exact(S.pk cm hc).2,by rw[Z3];exact Nat.succ_pos _⟩
  generalize ezs:ys++[c]=zs at *;have zl:zs.length=fx.n:=by rw[← ezs,Z3,List.length_singleton];exact cl2
  have el:((zs.getD 0 0:Nat):Int) / 8=((Jc zs:Nat):Int):=by unfold Jc;omega
  have hRu3:=hRu.same s13;refine Yk (fun v H4=>∃(l:Addr) (ps:List Addr),v = .ref l∧Same H3 H4∧Znb K H4 l ps (zs.map (Xl fx t (Jc zs)))∧ps.length=zs.length) (fun R hR=>?_) (fun v H4 z=>?_)
  ·refine⟨_,rfl,lq,rfl,⟨_,SqL.of hY3⟩,Tr (K:=K) (xs:=vN zs) (fun _ i v H=>∃(p:Addr) (y:Nat),zs[i]? = some y∧v = .ref p∧H p=some (.tup ((Xl fx t (Jc zs) y).map V.int))) (SqL.of hY3) (Jl _ (by rw[Jq];omega)) (fun l i v H H' g sm=>?_) (fun l i v H xs zs g hl=>?_) (fun i x H5 l vs hx sm hl hL R hR=>?_) (fun l H5 vs sm hl hL hvl hvs=>?_)⟩
   ·obtain⟨p,y,a1,a2,a3⟩:=g
    exact⟨p,y,a1,a2,sm _ _ a3⟩
   ·obtain⟨p,y,a1,a2,a3⟩:=g
    exact⟨p,y,a1,a2,by rw[Zu (X3 a3 hl (fun z=>nomatch z))];exact a3⟩
   ·obtain⟨y,hy,rfl⟩:=En hx
    exact⟨_,rfl,_,rfl,_,rfl,lq,_,_,_,rfl,rfl,SqL.of (sm _ _ hY3),Rl (i:=0) T.ne,_,_,rfl,rfl,⟨by decide,by decide⟩,d,fx,t,sz,y,Jc zs,(by show [V.ref d,V.int ((y:Nat):Int),V.int (((zs.getD 0 0:Nat):Int) / 8)]=_;rw[el]),ok,hRu3.same sm,T.ht y (Zr hy),fun p H6 s6 hp6=>hR _ _ s6 ⟨p,y,hy,rfl,hp6⟩⟩
   ·rw[Jq] at hvl
    obtain⟨ps,rfl⟩:=Zbq fun j v e=>let ⟨a,_,_,e2,_⟩:=hvs j v e;⟨a,e2⟩;rw[Zi] at hvl;refine hR _ _ ⟨l,ps,rfl,sm,⟨SqL.of hL,by rw[Zi];exact hvl,fun j p hj=>?_⟩,hvl⟩;obtain⟨p',y,a1,a2,a3⟩:=hvs j (.ref p) (by rw[Zm,hj];rfl);injection a2 with a2
    subst a2;exact⟨_,by rw[Zm,a1];rfl,a3⟩
  obtain⟨lk,ps,rfl,s4,hT4,pl4⟩:=z;have s14:=s13.trans s4;refine Yk (fun v H5=>H5=H4∧∃ i,Win fx t (Jc zs) zs i∧v = .int (((lead+i) % fx.n:Nat):Int)) (fun R hR=>?_) (fun v H5 z=>?_)
  ·refine⟨_,rfl,_,rfl,.inl ⟨rfl,_,hT4.1⟩,_,rfl,lk,ps,_,(fun i=>((rk fx t (Jc zs) (zs.getD i 0):Nat):Int)),rfl,hT4,by omega,fun i j ns ms hi hj=>?_,fun j p hj hmax=>?_⟩
   ·rw[Zm] at hi hj
    obtain⟨a,a1,rfl⟩:=Option.map_eq_some_iff.mp hi;obtain⟨b,b1,rfl⟩:=Option.map_eq_some_iff.mp hj;show HT.lexLt _ _=decide (((rk fx t (Jc zs) (zs.getD i 0):Nat):Int) > ((rk fx t (Jc zs) (zs.getD j 0):Nat):Int));rw[Zk,Zk,a1,b1];exact Gn ok t _ b a
   ·have jl:j < zs.length:=by rw[← pl4];exact(Zt.mp hj).1
    have at_:∀ i,i < zs.length→zs[i]? = some (zs.getD i 0):=fun i hi=>by rw[Zk,Zb hi];rfl
    have hm:∀ i,i < zs.length→rk fx t (Jc zs) (zs.getD i 0)≤rk fx t (Jc zs) (zs.getD j 0):=fun i hi=>by
     have:=hmax i (by rw[pl4];exact hi);have t2:((rk fx t (Jc zs) (zs.getD i 0):Nat):Int)≤((rk fx t (Jc zs) (zs.getD j 0):Nat):Int):=this;omega
    have W:=Zes ok T jl hm;obtain⟨ks,hk1,hk2⟩:=hT4.2.2 j p hj;have hks:ks=Xl fx t (Jc zs) (zs.getD j 0):=by
     rw[Zm,at_ j jl] at hk1;exact(Zn hk1).symm
    have r10:10≤rk fx t (Jc zs) (zs.getD j 0):=Nat.le_trans (Zfz fx t (zs.getD 0 0)) (hm 0 T.ne);refine⟨lk,p,ps,_,ks,j,rfl,rfl,hT4,by omega,hk2,hk1,fun m' hm' z=>?_,_,_,rfl,rfl,_,rfl,lc,_,rfl,.inl (SqL.of (s14 _ _ h2)),_,_,rfl,rfl,(by show(0:Int) < (((as.map V.ref).length:Nat):Int);rw[Zi,al];omega),hR _ _ ⟨rfl,j,W,?_⟩⟩
    ·have ml':m' < zs.length:=by omega
     rw[Zm,at_ m' ml'] at z;have z':Xl fx t (Jc zs) (zs.getD m' 0)=ks:=Zn z;rw[hks] at z';have e5:=Zje ok z';have e6:=Zf0 ok (T.ht _ (Zr (at_ m' ml'))) (T.ht _ (Zr (at_ j jl))) (by rw[e5];exact r10) e5;have:=Zg7 T.nd (at_ m' ml') (by rw[at_ j jl,e6]);omega
    ·show V.int ((((lead:Nat):Int)+((j:Nat):Int)) % (((as.map V.ref).length:Nat):Int))=_
     rw[Zi,al];rfl
  obtain⟨rfl,i,W,rfl⟩:=z;refine⟨_,rfl,_,rfl,Jl 0 (by decide),fun le hle=>⟨Jl 3 (by decide),fun p1 hp1=>⟨_,rfl,Jl 2 (by decide),fun p2 hp2=>?_⟩⟩⟩;have a0:=Zy hle (.lst []);have a1:=Zy hp1 (.tup [.ref lr,.int (((lead+i) % fx.n:Nat):Int),.ref le]);have a2:=Zy hp2 (.tup [.ref p1,.int (((lead+i) % fx.n:Nat):Int)]);have a12:=a1.trans a2;have a02:=a0.trans a12;refine q p2 p1 ((lead+i) % fx.n) [] (some ((lead+i) % fx.n)) _ (s14.trans a02) Zj ⟨lr,le,bs,a2 _ _ Zj,a02 _ _ (s4 _ _ (s3 _ _ hR2)),((hD2.same s3).same s4).same a02,a12 _ _ Zj,(s14.trans a0).free hp1,nR,s14.free hle,nB⟩ ⟨by rw[eset,eseat],fun z=>by omega,fun _=>⟨rfl,rfl,i,by rw[ezs];exact W,rfl⟩⟩
theorem Lib.mono{j k:Nat}{x:Str}{ps:List Str}{sp:Sp}{f1:Addr}{d1:FuncData}(L:Lib P w K mg base j x ps sp f1 d1)(h:j≤k):Lib P w K mg base k x ps sp f1 d1:=⟨L.ok.mono h,L.bd,L.kp,L.mg⟩
def Tb(vs:List V):List Nat:=vs.map fun v=>match v with | .int i=>i.toNat | _=>0
theorem Zdp(cs:List Nat):Tb (vN cs)=cs:=by
 unfold Tb vN;rw[Z8];have:((fun v:V=>match v with | .int i=>i.toNat | _=>0) ∘ fun c:Nat=>V.int (c:Nat))=id:=by funext c;exact Zv c
 rw[this,List.map_id]
def Zcb(H:Hp)(x:V):V:=match x with | .ref a=>(match H a with | some (.lst vs)=>.int ((hN (Tb vs):Nat):Int) | _=>.non) | _=>.non
theorem Kh{H:Hp}{a:Addr}{cs:List Nat}(h:H a=some (.lst (vN cs))):Zcb H (.ref a) = .int ((hN cs:Nat):Int):=by
 show(match H a with | some (.lst vs)=>V.int ((hN (Tb vs):Nat):Int) | _=>.non)=_;rw[h];show V.int ((hN (Tb (vN cs)):Nat):Int)=_;rw[Zdp]
theorem Zau{H:Hp}{as:List Addr}{css:List (List Nat)}(h:IsDl H as css):((as.map V.ref).filter fun _=>true).map (Zcb H)=vN (css.map hN):=by
 rw[List.filter_eq_self.mpr fun _ _=>rfl];unfold vN;rw[Z8,Z8];apply Xr;intro j;rw[Zm,Zm];cases e:as[j]? with
 | none=>
  have:css[j]? = none:=by
   rw[List.getElem?_eq_none_iff] at e ⊢;rw[← h.1];exact e
  rw[this];rfl
 | some a=>
  obtain⟨cs,e1,e2⟩:=h.2 j a e;rw[e1];show some (Zcb H (V.ref a))=some (V.int ((hN cs:Nat):Int));rw[Kh e2]
theorem Mz{K:W.Frag}{H:Hp}{d:Nat}(ys:List Nat):∀ j,j < (vN ys).length→DeepEq K H d ((vN ys).getD j .non) ((vN ys).getD j .non):=fun j hj=>by
 have e:(vN ys)[j]? = some ((vN ys).getD j .non):=by rw[Zk,Zb hj];rfl
 obtain⟨c,_,e2⟩:=En e;rw[e2];exact .flat rfl
theorem Zh9{K:W.Frag}{H:Hp}{d:Nat}{p q:Addr}{ys:List Nat}(hp:H p=some (.lst (vN ys)))(hq:H q=some (.lst (vN ys))):DeepEq K H (d+1) (.ref p) (.ref q):=.lst (SqL.of hp) (SqL.of hq) rfl (Mz ys)
theorem Kr{K:W.Frag}{H:Hp}{d:Nat}{p q:Addr}{ys:List Nat}(hp:H p=some (.tup (vN ys)))(hq:H q=some (.tup (vN ys))):DeepEq K H (d+1) (.ref p) (.ref q):=.tup (SqT.of hp) (SqT.of hq) rfl (Mz ys)
theorem Zkv{K:W.Frag}{H:Hp}{d:Nat}{p q:Addr}{hs ys:List Nat}{lead:Nat}(hp:IsPl H p hs lead ys)(hq:IsPl H q hs lead ys):DeepEq K H (d+2) (.ref p) (.ref q):=by
 obtain⟨a1,a2,a3,a4,a5⟩:=hp;obtain⟨b1,b2,b3,b4,b5⟩:=hq;refine .tup (SqT.of a3) (SqT.of b3) rfl fun j hj=>?_
 match j,hj with
 | 0,_=>exact Kr a4 b4
 | 1,_=>exact .flat rfl
 | 2,_=>exact Kr a5 b5
theorem StOk.beg{fx:Fx}(ok:fx.Ok){css:List (List Nat)}{lead m:Nat}{ys cs:List Nat}(S:StOk fx css lead ys m)(h:cs∈css):ys=[]∨Beg fx ys cs:=by
 by_cases e:ys=[]
 ·exact .inl e
 ·refine .inr ⟨List.length_pos_iff.mpr e,?_,fun c hc=>?_,fun c hc=>⟨S.c32 ok h c hc,(S.pk h hc).2⟩⟩
  ·have:=S.plc.yl
   rcases ok.n34 with e | e<;>omega
  ·have:=S.plc.pk c (Q0 hc)
   have:=ok.s4;omega
theorem DealOk.st{f:Fx}{sz:Nat}{css:List (List Nat)}(ok:f.Ok)(D:DealOk f sz css){lead:Nat}(hl:lead < f.n):StOk f css lead [] sz:=⟨D.plc ok hl,fun cs h=>List.Pairwise.imp₂ (fun {a b} (l:a≤b) (n:a≠b)=>by omega) (D.up cs h) (D.nd1 h)⟩
end
end My
namespace L2
open PySem PySem.Spec PyProof.Rows
variable{X:Cx}
theorem Zjn(K:W.Frag)(hK:X.K=K){e:Expr}{f:Str}{pos:Pos}{ta:TE}(he:PE X e ta)(hb:attributeBase e f X.env (eval e X.env)=eval e X.env):PE X (.Attribute e f pos) (Znx K ta f):=by
 subst hK;exact Jy he hb
theorem Zjp{K:W.Frag}{o e:Expr}{to:TE}{t:TA}{apos cpos:Pos}(hK:X.K=K)(ho:PE X o to)(ha:PA X [e] t)
  (hbase:attributeBase o "count" X.env (eval o X.env)=eval o X.env:=by rfl)
  (hfew:((backTo cpos (starEach [e] X.env)).all (fun x=>!x.1) && (backToKw cpos (keywordEach [] X.env)).all (fun x=>x.1.isSome)
   && decide (([e]:List Expr).length+([]:List Keyword).length+(if([]:List Keyword).isEmpty then 0 else 1) < 30))=true:=by rfl)
  (hline:(apos.endLine == cpos.line)=true:=by rfl) (hs:starEach [e] X.env=(false,eval e X.env) :: starEach [] X.env:=by rfl) (hplain:(backTo cpos (starEach [] X.env)).any (·.1)=false:=by rfl) :
  PE X (.Call (.Attribute o "count" apos) [e] [] cpos) (tBM K "list" (fun x xs H Q=>∃(a:Addr) (k:Int) (ns:List Int),x = .ref a∧xs=[.int k]∧SqL K H a (ns.map V.int)∧Q (.int (ns.count k:Nat)) H) to t):=by
 subst hK;exact U5 Ja PySem.F.slot_list_count PySem.F.type_list_count Zhe ho ha hbase hfew hline hs hplain
end L2
namespace My
open PySem L2
abbrev D5:Stmt:=Yo (top 41) 0
abbrev Nh:Stmt:=Yo (top 41) 1
abbrev D4:Stmt:=Yo (top 41) 2
abbrev Gf:Stmt:=Yo (top 41) 3
abbrev D3:Stmt:=Yo (top 41) 4
abbrev Sy:Stmt:=Yo (top 41) 5
abbrev Bi:Stmt:=Yo (top 41) 6
abbrev Vn:Stmt:=Yo (top 41) 7
section
variable{P:Program}{w:World}{K:W.Frag}{mg:Str→Option Value}{base:Heap}{f g:Addr}{fd gd:FuncData}
theorem E4(f:Str)(v:V):∀ fs:List (Str×V),fs.lookup f≠none→(Yu f v fs).length=fs.length
 | [],h=>absurd rfl h
 | (k,x) :: r,h=>by
  rw[show Yu f v ((k,x) :: r)=(if k=f then(k,v) :: r else(k,x) :: Yu f v r) from rfl];by_cases hk:k=f
  ·rw[if_pos hk];rfl
  ·rw[if_neg hk]
   have e:(f == k)=false:=beq_eq_false_iff_ne.mpr (Ne.symm hk);rw[List.lookup_cons,e] at h;show(Yu f v r).length+1=r.length+1;rw[E4 f v r h]
structure PlyC(K:W.Frag)(mg:Str→Option Value)(CP:Addr):Prop where
 cl:Cls K CP
 mP:mg "Play" = some (.ref CP)
 n1:NoAttr K CP "game"
 n2:NoAttr K CP "beginning"
 n3:NoAttr K CP "now"
 n4:NoAttr K CP "cards"
 n5:NoAttr K CP "takers"
def Zpw:List Str:=["game","beginning","now","cards","takers"]
structure PlyF(gm pb pn lc lk:Addr)(fs:List (Str×V)):Prop where
 l1:fs.lookup ("game":Str)=some (.ref gm)
 l2:fs.lookup ("beginning":Str)=some (.ref pb)
 l3:fs.lookup ("now":Str)=some (.ref pn)
 l4:fs.lookup ("cards":Str)=some (.ref lc)
 l5:fs.lookup ("takers":Str)=some (.ref lk)
 nm:∀ m:Str,m∉Zpw→fs.lookup m=none
 ln:fs.length≤10
theorem PlyF.now{gm pb pn lc lk:Addr}{fs:List (Str×V)}(A:PlyF gm pb pn lc lk fs)(p:Addr):PlyF gm pb p lc lk (Yu "now" (.ref p) fs):=
 ⟨by rw[Zo,if_neg (by decide +kernel)];exact A.l1,by rw[Zo,if_neg (by decide +kernel)];exact A.l2,by rw[Zo,if_pos rfl],by rw[Zo,if_neg (by decide +kernel)];exact A.l4,by rw[Zo,if_neg (by decide +kernel)];exact A.l5,
  fun m hm=>by rw[Zo,if_neg (fun z=>hm (by rw[z];decide +kernel))];exact A.nm m hm,by rw[E4 _ _ _ (by rw[A.l3];exact fun z=>nomatch z)];exact A.ln⟩
structure IsPy(CP:Addr)(H:Hp)(x gm lc lk:Addr)(hs0:List Nat)(lead0:Nat)(hs:List Nat)(lead:Nat)(ys row came:List Nat):Prop where
 o:∃ dx fs pb pn,H x=some (.ins CP dx fs)∧PlyF gm pb pn lc lk fs∧IsPl H pb hs0 lead0 []∧IsPl H pn hs lead ys
 c:H lc=some (.lst (vN row))
 t:H lk=some (.lst (vN came))
 ne:lc≠lk
section
variable{CP x gm lc lk:Addr}{H H':Hp}{hs0 hs ys row came:List Nat}{lead0 lead:Nat}
theorem IsPy.same(h:IsPy CP H x gm lc lk hs0 lead0 hs lead ys row came)(s:Same H H'):IsPy CP H' x gm lc lk hs0 lead0 hs lead ys row came:=by
 obtain⟨⟨dx,fs,pb,pn,a,b,c,d⟩,e,f,g⟩:=h;exact⟨⟨dx,fs,pb,pn,s _ _ a,b,c.same s,d.same s⟩,s _ _ e,s _ _ f,g⟩
def Kept3(x lc lk:Addr)(H H':Hp):Prop:=∀ b o,b≠x→b≠lc→b≠lk→H b=some o→H' b=some o
theorem Kept3.of(s:Same H H'):Kept3 x lc lk H H':=fun b o _ _ _ h=>s b o h
theorem Kept3.trans{H2:Hp}(a:Kept3 x lc lk H H')(b:Kept3 x lc lk H' H2):Kept3 x lc lk H H2:=fun c o h1 h2 h3 h=>b c o h1 h2 h3 (a c o h1 h2 h3 h)
theorem Kept3.px(o:HO):Kept3 x lc lk H (upd H x o):=fun b u h1 _ _ h=>by rw[Zu h1];exact h
theorem Kept3.pc(o:HO):Kept3 x lc lk H (upd H lc o):=fun b u _ h2 _ h=>by rw[Zu h2];exact h
theorem Kept3.pt(o:HO):Kept3 x lc lk H (upd H lk o):=fun b u _ _ h3 h=>by rw[Zu h3];exact h
theorem Nr{p q:Addr}{xs:List V}{o:HO}(h:H p=some (.tup xs))(hq:H q=some o)(n:∀ ys,o ≠ .tup ys):p≠q:=fun z=>by
 rw[z,hq] at h;exact n _ (Zn h)
theorem IsPl.upd{p q:Addr}{o o':HO}(h:IsPl H p hs lead ys)(hq:H q=some o)(n:∀ ys,o ≠ .tup ys):IsPl (upd H q o') p hs lead ys:=by
 obtain⟨a,b,h1,h2,h3⟩:=h;exact⟨a,b,by rw[Zu (Nr h1 hq n)];exact h1,by rw[Zu (Nr h2 hq n)];exact h2,by rw[Zu (Nr h3 hq n)];exact h3⟩
end
def Vi(CP:Addr):Sp:=fun vs H Q _=>∃(x gm lc lk:Addr) (hs0:List Nat) (lead0:Nat) (hs:List Nat) (lead:Nat) (ys row came:List Nat),vs=[.ref x]∧IsPy CP H x gm lc lk hs0 lead0 hs lead ys row came∧∀ p,IsPl H p hs lead ys→Q (.ref p) H
theorem Zn5:FnScope ["self"] ["self"] (Zp Gf):=⟨rfl,rfl,rfl,by decide +kernel,rfl,by decide +kernel,by decide +kernel⟩
theorem Zaf{k:Nat}{CP:Addr}(F:Fun K "place" "Play.place" Gf f fd)(C:PlyC K mg CP):FnOk P w K mg base Y4 (k+1) f fd ["self"] (Vi CP):=by
 refine F.ok Zn5 (fun vs H Q E h=>?_) (fun cdv A outer s H vs Q E hr h=>?_)
 ·obtain⟨x,gm,lc,lk,hs0,lead0,hs,lead,ys,row,came,rfl,_⟩:=h
  rfl
 obtain⟨x,gm,lc,lk,hs0,lead0,hs,lead,ys,row,came,rfl,⟨⟨dx,fs,pb,pn,hx,A1,hb,hn⟩,_,_,_⟩,q⟩:=h;refine⟨_,Zq (Z6 (Jy (pv 0) rfl)),?_⟩;exact⟨_,rfl,x,CP,dx,_,_,rfl,hx,C.cl,C.n3,A1.l3,q pn hn⟩
def Eo(CT CG CP:Addr):Sp:=fun vs H Q _=>∃(x gm gx lc lk:Addr) (t:Option Nat) (fx:Fx) (hs0:List Nat) (lead0:Nat) (hs:List Nat) (lead m:Nat) (ys row came:List Nat),vs=[.ref x]∧IsPy CP H x gm lc lk hs0 lead0 hs lead ys row came∧GamH CT CG fx t H gm gx∧Plc fx hs lead ys m∧∀ H',Same H H'→Q (X2 fx lead ys m) H'
theorem Zfp:FnScope ["self"] ["self"] (Zp D3):=⟨rfl,rfl,rfl,by decide +kernel,rfl,by decide +kernel,by decide +kernel⟩
theorem Zdf{k:Nat}{CT CG CP f1:Addr}{d1:FuncData}(F:Fun K "turn" "Play.turn" D3 f fd)(C:PlyC K mg CP)(LT:Lib P w K mg base k "turn_at" ["game","place"] (Bc CT CG) f1 d1):FnOk P w K mg base Y4 (k+1) f fd ["self"] (Eo CT CG CP):=by
 refine F.ok Zfp (fun vs H Q E h=>?_) (fun cdv A outer s H vs Q E hr h=>?_)
 ·obtain⟨x,gm,gx,lc,lk,t,fx,hs0,lead0,hs,lead,m,ys,row,came,rfl,_⟩:=h
  rfl
 obtain⟨x,gm,gx,lc,lk,t,fx,hs0,lead0,hs,lead,m,ys,row,came,rfl,⟨⟨dx,fs,pb,pn,hx,A1,hb,hn⟩,_,_,_⟩,G,Pl,q⟩:=h;refine⟨_,Zq (Z6 (Z9 LT.ok hr rfl LT.mg LT.kp LT.bd .nil Jh (Za (Jy (pv 0) rfl) (Za (Jy (pv 0) rfl) Zh)))),?_⟩;exact⟨_,rfl,x,CP,dx,_,_,rfl,hx,C.cl,C.n1,A1.l1,_,rfl,x,CP,dx,_,_,rfl,hx,C.cl,C.n3,A1.l3,gm,gx,pn,t,fx,hs,ys,lead,m,rfl,G,hn,Pl,q⟩
def Be(CT CG CP:Addr):Sp:=fun vs H Q _=>∃(x gm gx lc lk:Addr) (t:Option Nat) (fx:Fx) (hs0:List Nat) (lead0:Nat) (hs:List Nat) (lead m:Nat) (ys row came:List Nat),vs=[.ref x]∧K1 t∧IsPy CP H x gm lc lk hs0 lead0 hs lead ys row came∧GamH CT CG fx t H gm gx∧Plc fx hs lead ys m∧∀ l H',Same H H'→H l=none→H' l=some (.lst (vN (Bu fx t hs lead ys m)))→Q (.ref l) H'
theorem Zi5:FnScope ["self"] ["self"] (Zp Sy):=⟨rfl,rfl,rfl,by decide +kernel,rfl,by decide +kernel,by decide +kernel⟩
theorem Zgs{k:Nat}{CT CG CP f1:Addr}{d1:FuncData}(F:Fun K "may" "Play.may" Sy f fd)(C:PlyC K mg CP)(LM:Lib P w K mg base k "moves" ["game","place"] (Dq CT CG) f1 d1):FnOk P w K mg base Y4 (k+1) f fd ["self"] (Be CT CG CP):=by
 refine F.ok Zi5 (fun vs H Q E h=>?_) (fun cdv A outer s H vs Q E hr h=>?_)
 ·obtain⟨x,gm,gx,lc,lk,t,fx,hs0,lead0,hs,lead,m,ys,row,came,rfl,_⟩:=h
  rfl
 obtain⟨x,gm,gx,lc,lk,t,fx,hs0,lead0,hs,lead,m,ys,row,came,rfl,tb,⟨⟨dx,fs,pb,pn,hx,A1,hb,hn⟩,_,_,_⟩,G,Pl,q⟩:=h;refine⟨_,Zq (Z6 (Z9 LM.ok hr rfl LM.mg LM.kp LM.bd .nil Jh (Za (Jy (pv 0) rfl) (Za (Jy (pv 0) rfl) Zh)))),?_⟩;exact⟨_,rfl,x,CP,dx,_,_,rfl,hx,C.cl,C.n1,A1.l1,_,rfl,x,CP,dx,_,_,rfl,hx,C.cl,C.n3,A1.l3,gm,gx,pn,t,fx,hs,ys,lead,m,rfl,G,tb,hn,Pl,q⟩
def Vh(CT CG CP:Addr):Sp:=fun vs H Q _=>∃(x gm gx lc lk:Addr) (t:Option Nat) (fx:Fx) (hs0:List Nat) (lead0:Nat) (hs:List Nat) (lead:Nat) (ys row came:List Nat),vs=[.ref x]∧IsPy CP H x gm lc lk hs0 lead0 hs lead ys row came∧GamH CT CG fx t H gm gx∧∀ l H',Same H H'→H l=none→H' l=some (.lst (vN ((List.range fx.n).map fun s=>came.count s)))→Q (.ref l) H'
theorem Zc2:FnScope ["self"] ["self"] (Zp Bi):=⟨rfl,rfl,rfl,by decide +kernel,rfl,by decide +kernel,by decide +kernel⟩
theorem Zaz(l:List Nat)(k:Nat):(l.map fun c=>((c:Nat):Int)).count ((k:Nat):Int)=l.count k:=by
 rw[List.count,List.countP_map,List.count];refine List.countP_congr fun c _=>?_;show(((c:Nat):Int) == ((k:Nat):Int))=true↔(c == k)=true;rw[beq_iff_eq,beq_iff_eq];omega
theorem Zae{k:Nat}{CT CG CP:Addr}(F:Fun K "taken" "Play.taken" Bi f fd)(CTb:TabC K mg CT)(CGm:GamC K mg CG)(C:PlyC K mg CP)(mr:mg "range" = none):FnOk P w K mg base Y4 (k+1) f fd ["self"] (Vh CT CG CP):=by
 refine F.ok Zc2 (fun vs H Q E h=>?_) (fun cdv A outer s H vs Q E hr h=>?_)
 ·obtain⟨x,gm,gx,lc,lk,t,fx,hs0,lead0,hs,lead,ys,row,came,rfl,_⟩:=h
  rfl
 obtain⟨x,gm,gx,lc,lk,t,fx,hs0,lead0,hs,lead,ys,row,came,rfl,⟨⟨dx,fs,pb,pn,hx,A1,hb,hn⟩,_,hk,_⟩,G,q⟩:=h;refine⟨_,Zq (Z6 (Ui ["seat","self"] [none,some 0] rfl (Blk.by (sc:=Zp Bi) (N0:=["self"]) rfl rfl (by decide +kernel)) (Uy rfl mr (Za (Jy (Jy (Jy (pv 0) rfl) rfl) rfl) Zh)) (fun C s₀ H₀ ex=>Jr (i:=0) (show(["seat","self"]:List Str).Nodup by decide +kernel) rfl (Or.inl rfl)) (fun C s₀ H₀ ex=>U4)
  (fun C s₀ H₀ ex=>Zjp (K:=K) rfl (Zjn K rfl (pv 1) rfl) (Za (pv 0) Zh)))),?_⟩
 obtain⟨dg,hg⟩:=G.g;obtain⟨dx2,po,to,hx2,_,_⟩:=G.t;have n4:fx.n≤4:=by rcases G.ok.n34 with e | e<;>omega
 refine⟨_,rfl,x,CP,dx,_,_,rfl,hx,C.cl,C.n1,A1.l1,gm,CG,dg,_,_,rfl,hg,CGm.cl,CGm.nT,Up _ _,gx,CT,dx2,_,_,rfl,hx2,CTb.cl,CTb.nN,Xk _ _ _,((fx.n:Nat):Int),rfl,by omega,by omega,?_⟩;refine N9 (n:=fx.n) (lo:=0) (fun _=>true) (fun j=>.int ((came.count j:Nat):Int)) (Jl _ (by omega)) (fun j H3 hj sm R hR=>hR H3 (Same.refl H3)) (fun j H3 hj hp sm R hR=>?_) (fun l3 H3 s3 hl3 hL3=>q l3 H3 s3 hl3 ?_)
 ·have hk3:=sm _ _ hk
  rw[Nf] at hk3;refine⟨_,rfl,x,CP,dx,_,_,rfl,sm _ _ hx,C.cl,C.n5,A1.l5,.inl ⟨rfl,_,SqL.of hk3⟩,_,rfl,lk,0+((j:Nat):Int),_,rfl,rfl,SqL.of hk3,?_⟩;rw[Int.zero_add,Zaz];exact hR H3 (Same.refl H3)
 ·rw[hL3,List.filter_eq_self.mpr fun _ _=>rfl]
  unfold vN;rw[Z8];rfl
def Nv(CP:Addr):Sp:=fun vs H Q _=>∃(x gm lc lk:Addr) (hs0:List Nat) (lead0:Nat) (hs:List Nat) (lead:Nat) (ys row came:List Nat),vs=[.ref x]∧IsPy CP H x gm lc lk hs0 lead0 hs lead ys row came∧∀ l H',Same H H'→H l=none→H' l=some (.lst (vN row))→Q (.ref l) H'
theorem Sq:FnScope ["self"] ["self"] (Zp Vn):=⟨rfl,rfl,rfl,by decide +kernel,rfl,by decide +kernel,by decide +kernel⟩
theorem Ay{k:Nat}{CP:Addr}(F:Fun K "played" "Play.played" Vn f fd)(C:PlyC K mg CP)(mLi:mg "list" = none):FnOk P w K mg base Y4 (k+1) f fd ["self"] (Nv CP):=by
 refine F.ok Sq (fun vs H Q E h=>?_) (fun cdv A outer s H vs Q E hr h=>?_)
 ·obtain⟨x,gm,lc,lk,hs0,lead0,hs,lead,ys,row,came,rfl,_⟩:=h
  rfl
 obtain⟨x,gm,lc,lk,hs0,lead0,hs,lead,ys,row,came,rfl,⟨⟨dx,fs,pb,pn,hx,A1,hb,hn⟩,hc,_,_⟩,q⟩:=h;refine⟨_,Zq (Z6 (Yf Ut rfl mLi Ya (Za (Jy (pv 0) rfl) Zh))),?_⟩;exact⟨_,rfl,x,CP,dx,_,_,rfl,hx,C.cl,C.n4,A1.l4,lc,_,rfl,.inl (SqL.of hc),fun l hl=>q l _ (Zy hl _) hl Zj⟩
def Ga(CT CG CP:Addr):Sp:=fun vs H Q _=>∃(x dx gm gx l:Addr) (t:Option Nat) (fx:Fx) (hs:List Nat) (lead m:Nat),vs=[.ref x,.ref gm,.ref l,.int (lead:Nat)]∧H x=some (.ins CP dx [])∧GamH CT CG fx t H gm gx∧H l=some (.lst (vN hs))∧Plc fx hs lead [] m ∧
 ∀ lc lk H',(∀ b o,b≠x→H b=some o→H' b=some o)→H lc=none→H lk=none→IsPy CP H' x gm lc lk hs lead hs lead [] [] []→Q .non H'
abbrev Zkb:List Str:=["self","game","deal","lead","beginning"]
theorem scPyInit:FnScope Zkb ["self","game","deal","lead"] (Zp D5):=⟨rfl,rfl,rfl,by decide +kernel,rfl,by decide +kernel,by decide +kernel⟩
theorem Zdh{k:Nat}{CT CG CP f1:Addr}{d1:FuncData}(F:Fun K "__init__" "Play.__init__" D5 f fd)(C:PlyC K mg CP)(LI:Lib P w K mg base k "is_place" ["game","place"] (Vj CT CG) f1 d1)(mT:mg "tuple" = none):FnOk P w K mg base Y4 (k+1) f fd ["self","game","deal","lead"] (Ga CT CG CP):=by
 refine F.ok scPyInit (fun vs H Q E h=>?_) (fun cdv A outer s H vs Q E hr h=>?_)
 ·obtain⟨x,dx,gm,gx,l,t,fx,hs,lead,m,rfl,_⟩:=h
  rfl
 obtain⟨x,dx,gm,gx,l,t,fx,hs,lead,m,rfl,hx,G,hl,Pl,q⟩:=h;refine⟨_,Zg (Z4 (i:=4) scPyInit.nd rfl (Or.inl rfl) (Y2 (Za (Yf Xe rfl mT Y6 (Za (pv 2) Zh)) (Za (pv 3) (Za (Y2 Zh) Zh)))))
  (Zg (Ju (Eb (Ug (Z9 LI.ok hr rfl LI.mg LI.kp LI.bd .nil Jh (Za (pv 1) (Za (pv 4) Zh))) (fun _=>rfl))) (Zq Go) Jg)
  (Zg (Xh (pv 0) (pv 1) rfl) (Zg (Xh (pv 0) (pv 4) rfl) (Zg (Xh (pv 0) (pv 4) rfl) (Zg (Xh (pv 0) (U0 Zh) rfl) (Zq (Xh (pv 0) (U0 Zh) rfl))))))),?_⟩
 refine⟨_,rfl,l,_,rfl,.inl ⟨SqL.of hl,fun th hth=>?_⟩⟩;refine⟨_,rfl,Jl 0 (by decide),fun tz htz=>⟨Jl 3 (by decide),fun p hp=>?_⟩⟩;have a1:=Zy hth (.tup (vN hs));have a2:=Zy htz (.tup []);have a3:=Zy hp (.tup [.ref th,.int (lead:Nat),.ref tz]);have s3:=(a1.trans a2).trans a3;have hPl:IsPl (upd (upd (upd H th (.tup (vN hs))) tz (.tup [])) p (.tup [.ref th,.int (lead:Nat),.ref tz])) p hs lead []:=⟨th,tz,Zj,a3 _ _ (a2 _ _ Zj),a3 _ _ Zj⟩;generalize eH:upd (upd (upd H th (.tup (vN hs))) tz (.tup [])) p (.tup [.ref th,.int (lead:Nat),.ref tz])=H3 at *;refine⟨_,rfl,_,rfl,gm,gx,p,t,fx,hs,[],lead,m,rfl,G.same s3,hPl,Pl,fun H4 s4=>⟨true,rfl,J9 ?_⟩⟩;have s14:=s3.trans s4;have hx4:=s14 _ _ hx;have hPl4:=hPl.same s4;have b0:∀(f:Str) (v:V) (fs:List (Str×V)) (n:Nat),fs.length≤n→(Yu f v fs).length≤n+1:=fun f v fs n h=>Nat.le_trans (Y8 _ _ _) (Nat.succ_le_succ h);have c1:=b0 "game" (.ref gm) [] 0 (Nat.le_refl _);have c2:=b0 "beginning" (.ref p) _ 1 c1;have c3:=b0 "now" (.ref p) _ 2 c2;refine⟨_,rfl,_,rfl,x,CP,dx,[],rfl,hx4,C.cl,C.n1,by decide,?_⟩;refine⟨_,rfl,_,rfl,x,CP,dx,_,rfl,Zj,C.cl,C.n2,by omega,?_⟩;refine⟨_,rfl,_,rfl,x,CP,dx,_,rfl,Zj,C.cl,C.n3,by omega,?_⟩;rw[Uf,Uf];refine⟨Jl 0 (by decide),fun lc hlc=>?_⟩;have nx:x≠lc:=fun z=>by rw[← z,Zj] at hlc;cases hlc
 have hlc4:H4 lc=none:=by rw[Zu (Ne.symm nx)] at hlc;exact hlc
 have c4:=b0 "cards" (.ref lc) _ 3 c3;refine⟨_,rfl,x,CP,dx,_,rfl,(by rw[Zu nx];exact Zj),C.cl,C.n4,by omega,?_⟩;refine⟨Jl 0 (by decide),fun lk hlk=>?_⟩;have nx2:x≠lk:=fun z=>by rw[← z,Zj] at hlk;cases hlk
 have hlk1:(upd (upd H4 x (.ins CP dx (Yu "now" (.ref p) (Yu "beginning" (.ref p) (Yu "game" (.ref gm) []))))) lc (.lst [])) lk=none:=by rw[Zu (Ne.symm nx2)] at hlk;exact hlk
 have nl:lc≠lk:=fun z=>by rw[← z,Zj] at hlk1;cases hlk1
 have hlk4:H4 lk=none:=by rw[Zu (Ne.symm nl),Zu (Ne.symm nx2)] at hlk1;exact hlk1
 have c5:=b0 "takers" (.ref lk) _ 4 c4;refine⟨_,rfl,x,CP,dx,_,rfl,(by rw[Zu nx2];exact Zj),C.cl,C.n5,by omega,?_⟩;have keep:∀ b o,b≠x→H4 b=some o→(upd (upd (upd (upd (upd H4 x (.ins CP dx (Yu "now" (.ref p) (Yu "beginning" (.ref p) (Yu "game" (.ref gm) []))))) lc (.lst [])) x (.ins CP dx (Yu "cards" (.ref lc) (Yu "now" (.ref p) (Yu "beginning" (.ref p) (Yu "game" (.ref gm) [])))))) lk (.lst [])) x (.ins CP dx (Yu "takers" (.ref lk) (Yu "cards" (.ref lc) (Yu "now" (.ref p) (Yu "beginning" (.ref p) (Yu "game" (.ref gm) [])))))) ) b=some o:=fun b o n h=>by
  rw[Zu n,Zu (Jb h hlk4),Zu n,Zu (Jb h hlc4),Zu n];exact h
 have hPl5:∀ H5:Hp,(∀ b o,b≠x→H4 b=some o→H5 b=some o)→IsPl H5 p hs lead []:=fun H5 kp=>by
  obtain⟨a,b,h1,h2,h3⟩:=hPl4;have nt:∀{q:Addr} {xs:List V},H4 q=some (.tup xs)→q≠x:=fun h=>Nr h hx4 (fun _ z=>nomatch z);exact⟨a,b,kp _ _ (nt h1) h1,kp _ _ (nt h2) h2,kp _ _ (nt h3) h3⟩
 refine q lc lk _ (fun b o n h=>keep b o n (s14 _ _ h)) (s14.free hlc4) (s14.free hlk4) ⟨⟨dx,_,p,p,Zj,⟨?_,?_,?_,?_,?_,fun m hm=>?_,by omega⟩,hPl5 _ keep,hPl5 _ keep⟩,?_,?_,nl⟩
 ·rw[Zo,if_neg (by decide +kernel),Zo,if_neg (by decide +kernel),Zo,if_neg (by decide +kernel),Zo,if_neg (by decide +kernel),Zo,if_pos rfl]
 ·rw[Zo,if_neg (by decide +kernel),Zo,if_neg (by decide +kernel),Zo,if_neg (by decide +kernel),Zo,if_pos rfl]
 ·rw[Zo,if_neg (by decide +kernel),Zo,if_neg (by decide +kernel),Zo,if_pos rfl]
 ·rw[Zo,if_neg (by decide +kernel),Zo,if_pos rfl]
 ·rw[Zo,if_pos rfl]
 ·rw[Zo,if_neg (fun z=>hm (by rw[z];decide +kernel)),Zo,if_neg (fun z=>hm (by rw[z];decide +kernel)),Zo,if_neg (fun z=>hm (by rw[z];decide +kernel)),Zo,if_neg (fun z=>hm (by rw[z];decide +kernel)),Zo,if_neg (fun z=>hm (by rw[z];decide +kernel))]
  rfl
 ·rw[Zu (Ne.symm nx),Zu nl,Zu (Ne.symm nx),Zj]
  rfl
 ·rw[Zu (Ne.symm nx2),Zj]
  rfl
theorem Zlm{c:Nat}{ys:List Nat}:B1 (.int (c:Nat)) (vN ys)=decide (c∈ys):=by
 unfold B1 vN;rw[List.any_map,Bool.eq_iff_iff,List.any_eq_true,decide_eq_true_eq];constructor
 ·rintro⟨y,hy,e⟩
  have e':(((y:Nat):Int) == ((c:Nat):Int))=true:=e;have:y=c:=by have:=beq_iff_eq.mp e';omega
  rw[← this];exact hy
 ·exact fun h=>⟨c,h,beq_self_eq_true _⟩
def Nw(CT CG CP:Addr):Sp:=fun vs H Q _=>∃(x gm gx lc lk:Addr) (t:Option Nat) (fx:Fx) (hs0:List Nat) (lead0:Nat) (hs:List Nat) (lead m h c:Nat) (ys row came:List Nat),vs=[.ref x,.int (((lead+ys.length) % fx.n:Nat):Int),.int (c:Nat)]∧K1 t∧IsPy CP H x gm lc lk hs0 lead0 hs lead ys row came∧GamH CT CG fx t H gm gx∧Plc fx hs lead ys m∧0 < m∧hs[(lead+ys.length) % fx.n]? = some h∧c∈Xw fx t ys h∧∀ H',Same H H'→Q .non H'
abbrev Zdq:List Str:=["self","seat","card","in_turn"]
theorem scPyBroken:FnScope Zdq ["self","seat","card"] (Zp Nh):=⟨rfl,rfl,rfl,by decide +kernel,rfl,by decide +kernel,by decide +kernel⟩
theorem Az{k:Nat}{CT CG CP f1 m1 m2:Addr}{d1 e1 e2:FuncData}(F:Fun K "broken_rule" "Play.broken_rule" Nh f fd)(C:PlyC K mg CP)(MT:Meth K CP "turn" m1)(FT:FnOk P w K mg base Y4 k m1 e1 ["self"] (Eo CT CG CP))(BT:Binds K e1 ["self"] [])(MM:Meth K CP "may" m2)(FM:FnOk P w K mg base Y4 k m2 e2 ["self"] (Be CT CG CP))(BM:Binds K e2 ["self"] [])
  (LC:Lib P w K mg base k "cards_in" ["hand"] (X5 K) f1 d1):FnOk P w K mg base Y4 (k+1) f fd ["self","seat","card"] (Nw CT CG CP):=by
 refine F.ok scPyBroken (fun vs H Q E h=>?_) (fun cdv A outer s H vs Q E hr h=>?_)
 ·obtain⟨x,gm,gx,lc,lk,t,fx,hs0,lead0,hs,lead,m,h,c,ys,row,came,rfl,_⟩:=h
  rfl
 obtain⟨x,gm,gx,lc,lk,t,fx,hs0,lead0,hs,lead,m,h,c,ys,row,came,rfl,tb,Py,G,Pl,m0,eh,hc,q⟩:=h;refine⟨_,Zg (Z4 (i:=3) scPyBroken.nd rfl (Or.inl rfl) (Uv (pv 0) C.cl MT FT hr BT .nil Jh))
  (Zg (Ju (Z7 Vw (pv 3) Uz (Jd _)) (Zq (Z6 Ji)) Jg)
  (Zg (Ju (Z7 Qf (pv 1) (pv 3) (Jd _)) (Zq (Z6 Ji)) Jg)
  (Zg (Ju (Z7 Y7 (pv 2) (Z9 LC.ok hr rfl LC.mg LC.kp LC.bd .nil Jh (Za (Jn Jw (Jn Jw (Jy (pv 0) rfl) Zl (fun _ _=>rfl)) (pv 1) (fun _ _=>rfl)) Zh)) rfl) (Zq (Z6 Ji)) Jg)
  (Zg (Ju (Z7 Y7 (pv 2) (Uv (pv 0) C.cl MM FM hr BM .nil Jh) rfl) (Zq Go) Jg)
  (Zq (Z6 Uz)))))),?_⟩
 have ok:=G.ok;have h32:=Pl.h32 ok (Zr eh);obtain⟨hb,c32⟩:=Zhg h32 hc;obtain⟨dx,fs,pb,pn,hx,A1,hpb,hpn⟩:=id Py.o;refine⟨_,rfl,x,dx,_,rfl,hx,A1.nm _ (by decide +kernel),x,gm,gx,lc,lk,t,fx,hs0,lead0,hs,lead,m,ys,row,came,rfl,Py,G,Pl,fun H1 s1=>?_⟩;have et:X2 fx lead ys m = .int (((lead+ys.length) % fx.n:Nat):Int):=by unfold X2;rw[if_neg (by omega)]
 rw[et];refine⟨_,rfl,rfl,_,rfl,Xu (Zd (fun z=>nomatch z)) (J9 ?_)⟩;have e1:(!decide (V.int (((lead+ys.length) % fx.n:Nat):Int)=V.int (((lead+ys.length) % fx.n:Nat):Int)))=false:=by rw[Zf rfl];rfl
 refine⟨_,rfl,_,rfl,rfl,_,rfl,Xu e1 (J9 ?_)⟩;obtain⟨a,b,h1,h2,h3⟩:=hpn.same s1;refine⟨_,rfl,_,rfl,x,CP,dx,_,_,rfl,s1 _ _ hx,C.cl,C.n3,A1.l3,pn,_,_,_,rfl,rfl,SqT.of h1,(rfl:Xg [V.ref a,V.int (lead:Nat),V.ref b] 0=some (V.ref a)),_,rfl,a,_,_,_,rfl,rfl,SqT.of h2,O7 eh,h,rfl,h32,fun l H2 s2 hl hL=>?_⟩;have e2:(if true=true then !B1 (.int (c:Nat)) (V7 h) else B1 (.int (c:Nat)) (V7 h))=false:=by
  rw[if_pos rfl,Q4,Zlm,Zf ((Xj h32).mpr hb)];rfl
 refine⟨l,_,rfl,.inl (SqL.of hL),rfl,by rw[Q4];exact Nm _,_,rfl,Xu e2 (J9 ?_)⟩;have s12:=s1.trans s2;refine⟨_,rfl,_,rfl,x,dx,_,rfl,s12 _ _ hx,A1.nm _ (by decide +kernel),x,gm,gx,lc,lk,t,fx,hs0,lead0,hs,lead,m,ys,row,came,rfl,tb,Py.same s12,G.same s12,Pl,fun l3 H3 s3 hl3 hL3=>?_⟩;have em:Bu fx t hs lead ys m=Xw fx t ys h:=by
  unfold Bu;rw[if_neg (by omega),Zk,eh];rfl
 rw[em] at hL3;have e3:(if true=true then !B1 (.int (c:Nat)) (vN (Xw fx t ys h)) else B1 (.int (c:Nat)) (vN (Xw fx t ys h)))=false:=by
  rw[if_pos rfl,Zlm,Zf hc];rfl
 exact⟨l3,_,rfl,.inl (SqL.of hL3),rfl,Nm _,_,rfl,Xu e3 (J9 (q H3 (s12.trans s3)))⟩
def Dn(CT CG CP:Addr):Sp:=fun vs H Q _=>∃(x gm gx lc lk:Addr) (t:Option Nat) (fx:Fx) (hs0:List Nat) (lead0:Nat) (hs:List Nat) (lead m h c:Nat) (ys row came:List Nat),vs=[.ref x,.int (((lead+ys.length) % fx.n:Nat):Int),.int (c:Nat)]∧K1 t∧IsPy CP H x gm lc lk hs0 lead0 hs lead ys row came∧GamH CT CG fx t H gm gx∧Plc fx hs lead ys m∧0 < m∧hs[(lead+ys.length) % fx.n]? = some h∧c∈Xw fx t ys h∧row.length≤100∧came.length≤100 ∧
 ∀ hs' lead' ys' tk H',Kept3 x lc lk H H'→Nxt fx t hs lead ys h c hs' lead' ys' tk→IsPy CP H' x gm lc lk hs0 lead0 hs' lead' ys' (row++[c]) (came++tk.toList)→Q (T1 tk) H'
abbrev Zmz:List Str:=["self","seat","card","rule","step"]
theorem scPyPut:FnScope Zmz ["self","seat","card"] (Zp D4):=⟨rfl,rfl,rfl,by decide +kernel,rfl,by decide +kernel,by decide +kernel⟩
theorem Zgr{k:Nat}{CT CG CP f1 m1:Addr}{d1 e1:FuncData}(F:Fun K "put" "Play.put" D4 f fd)(C:PlyC K mg CP)(MB:Meth K CP "broken_rule" m1)(FB:FnOk P w K mg base Y4 k m1 e1 ["self","seat","card"] (Nw CT CG CP))(BB:Binds K e1 ["self","seat","card"] [])
  (LB:Lib P w K mg base k "behind" ["game","place","card"] (Gb K CT CG) f1 d1):FnOk P w K mg base Y4 (k+1) f fd ["self","seat","card"] (Dn CT CG CP):=by
 refine F.ok scPyPut (fun vs H Q E h=>?_) (fun cdv A outer s H vs Q E hr h=>?_)
 ·obtain⟨x,gm,gx,lc,lk,t,fx,hs0,lead0,hs,lead,m,h,c,ys,row,came,rfl,_⟩:=h
  rfl
 obtain⟨x,gm,gx,lc,lk,t,fx,hs0,lead0,hs,lead,m,h,c,ys,row,came,rfl,tb,Py,G,Pl,m0,eh,hc,r100,k100,q⟩:=h;refine⟨_,Zg (Z4 (i:=3) scPyPut.nd rfl (Or.inl rfl) (X4 (pv 0) C.cl MB FB hr BB .nil Jh (Za (pv 1) (Za (pv 2) Zh))))
  (Zg (Ju (Z7 Ry (pv 3) Uz (Jd _)) (Zq Go) Jg)
  (Zg (Z4 (i:=4) scPyPut.nd rfl (Or.inl rfl) (Z9 LB.ok hr rfl LB.mg LB.kp LB.bd .nil Jh (Za (Jy (pv 0) rfl) (Za (Jy (pv 0) rfl) (Za (pv 2) Zh)))))
  (Zg (Xh (pv 0) (Jn Jw (pv 4) Zl (fun _ _=>rfl)) rfl)
  (Zg (Xn (U5 Ja Jp Jo Ud (Jy (pv 0) rfl) (Za (pv 2) Zh)))
  (Zg (Ju (Z7 Ry (Jn Jw (pv 4) Zl (fun _ _=>rfl)) Uz (Jd _)) (Zq (Xn (U5 Ja Jp Jo Ud (Jy (pv 0) rfl) (Za (Jn Jw (pv 4) Zl (fun _ _=>rfl)) Zh)))) Jg)
  (Zq (Z6 (Jn Jw (pv 4) Zl (fun _ _=>rfl))))))))),?_⟩
 have ok:=G.ok;have h32:=Pl.h32 ok (Zr eh);obtain⟨hb,c32⟩:=Zhg h32 hc;have z1000:=Jl 1000 (by decide);obtain⟨dx,fs,pb,pn,hx,A1,hpb,hpn⟩:=id Py.o;refine⟨_,rfl,x,dx,_,rfl,hx,A1.nm _ (by decide +kernel),_,rfl,_,rfl,x,gm,gx,lc,lk,t,fx,hs0,lead0,hs,lead,m,h,c,ys,row,came,rfl,tb,Py,G,Pl,m0,eh,hc,fun H1 s1=>?_⟩;refine⟨_,rfl,rfl,_,rfl,Xu (rfl:(!decide (V.non=V.non))=false) (J9 ?_)⟩;refine⟨_,rfl,x,CP,dx,_,_,rfl,s1 _ _ hx,C.cl,C.n1,A1.l1,_,rfl,x,CP,dx,_,_,rfl,s1 _ _ hx,C.cl,C.n3,A1.l3,_,rfl,gm,gx,pn,t,fx,hs,ys,lead,m,h,c,rfl,G.same s1,hpn.same s1,Pl,eh,hb,fun r p' hs' lead' ys' tk H2 s2 N hr2 hPl'=>?_⟩;have s12:=s1.trans s2;have Py2:=Py.same s12;have hx2:=s12 _ _ hx;have ln:=A1.ln;refine⟨_,rfl,r,_,_,_,rfl,rfl,SqT.of hr2,(rfl:Xg [V.ref p',T1 tk] 0=some (V.ref p')),_,rfl,x,CP,dx,fs,rfl,hx2,C.cl,C.n3,by omega,?_⟩;have hr3:(upd H2 x (.ins CP dx (Yu "now" (.ref p') fs))) r=some (.tup [.ref p',T1 tk]):=by rw[Zu (Nr hr2 hx2 (fun _ z=>nomatch z))];exact hr2
 have nc:lc≠x:=fun z=>by have:=Py2.c;rw[z,hx2] at this;cases this
 have nk:lk≠x:=fun z=>by have:=Py2.t;rw[z,hx2] at this;cases this
 have hc3:(upd H2 x (.ins CP dx (Yu "now" (.ref p') fs))) lc=some (.lst (vN row)):=by rw[Zu nc];exact Py2.c
 have hk3:(upd H2 x (.ins CP dx (Yu "now" (.ref p') fs))) lk=some (.lst (vN came)):=by rw[Zu nk];exact Py2.t
 have A3:=A1.now p';have hpb3:=(hpb.same s12).upd (o':=.ins CP dx (Yu "now" (.ref p') fs)) hx2 (fun _ z=>nomatch z);have hpn3:=hPl'.upd (o':=.ins CP dx (Yu "now" (.ref p') fs)) hx2 (fun _ z=>nomatch z);have k3:Kept3 x lc lk H (upd H2 x (.ins CP dx (Yu "now" (.ref p') fs))):=(Kept3.of s12).trans (Kept3.px _);have hx3:(upd H2 x (.ins CP dx (Yu "now" (.ref p') fs))) x=some (.ins CP dx (Yu "now" (.ref p') fs)):=Zj;generalize eH3:upd H2 x (.ins CP dx (Yu "now" (.ref p') fs))=H3 at *;refine⟨_,rfl,x,CP,dx,_,_,rfl,hx3,C.cl,C.n4,A3.l4,.inl ⟨rfl,_,SqL.of hc3⟩,_,rfl,lc,_,_,rfl,rfl,hc3,by rw[Jq];omega,?_⟩;have eR:vN row++[V.int ((c:Nat):Int)]=vN (row++[c]):=by unfold vN;rw[J3];rfl
 rw[eR];have hr4:(upd H3 lc (.lst (vN (row++[c])))) r=some (.tup [.ref p',T1 tk]):=by rw[Zu (Nr hr3 hc3 (fun _ z=>nomatch z))];exact hr3
 have hk4:(upd H3 lc (.lst (vN (row++[c])))) lk=some (.lst (vN came)):=by rw[Zu (Ne.symm Py.ne)];exact hk3
 have hx4:(upd H3 lc (.lst (vN (row++[c])))) x=some (.ins CP dx (Yu "now" (.ref p') fs)):=by rw[Zu (Ne.symm nc)];exact hx3
 have hpb4:=hpb3.upd (o':=.lst (vN (row++[c]))) hc3 (fun _ z=>nomatch z);have hpn4:=hpn3.upd (o':=.lst (vN (row++[c]))) hc3 (fun _ z=>nomatch z);have hc4:(upd H3 lc (.lst (vN (row++[c])))) lc=some (.lst (vN (row++[c]))):=Zj;have k4:Kept3 x lc lk H (upd H3 lc (.lst (vN (row++[c])))):=k3.trans (Kept3.pc _);generalize eH4:upd H3 lc (.lst (vN (row++[c])))=H4 at *;refine⟨_,rfl,r,_,_,_,rfl,rfl,SqT.of hr4,(rfl:Xg [V.ref p',T1 tk] 1=some (T1 tk)),rfl,_,rfl,?_⟩;cases tk with
 | none=>
  refine Xu (rfl:(!decide (T1 none=V.non))=false) (J9 ?_);refine⟨_,rfl,r,_,_,_,rfl,rfl,SqT.of hr4,(rfl:Xg [V.ref p',T1 none] 1=some (T1 none)),?_⟩;exact q hs' lead' ys' none H4 k4 N ⟨⟨dx,_,pb,p',hx4,A3,hpb4,hpn4⟩,hc4,by rw[hk4];show some (HO.lst (vN came))=some (HO.lst (vN (came++[])));rw[Yb],Py.ne⟩
 | some u=>
  refine Xu (rfl:(!decide (T1 (some u)=V.non))=true) (Ub ?_);refine⟨_,rfl,x,CP,dx,_,_,rfl,hx4,C.cl,C.n5,A3.l5,.inl ⟨rfl,_,SqL.of hk4⟩,_,rfl,r,_,_,_,rfl,rfl,SqT.of hr4,(rfl:Xg [V.ref p',T1 (some u)] 1=some (T1 (some u))),lk,_,_,rfl,rfl,hk4,by rw[Jq];omega,?_⟩;have eC:vN came++[T1 (some u)]=vN (came++[u]):=by unfold vN;rw[J3];rfl
  rw[eC];have hr5:(upd H4 lk (.lst (vN (came++[u])))) r=some (.tup [.ref p',T1 (some u)]):=by rw[Zu (Nr hr4 hk4 (fun _ z=>nomatch z))];exact hr4
  refine⟨_,rfl,r,_,_,_,rfl,rfl,SqT.of hr5,(rfl:Xg [V.ref p',T1 (some u)] 1=some (T1 (some u))),?_⟩;exact q hs' lead' ys' (some u) _ (k4.trans (Kept3.pt _)) N ⟨⟨dx,_,pb,p',by rw[Zu (Ne.symm nk)];exact hx4,A3,hpb4.upd hk4 (fun _ z=>nomatch z),hpn4.upd hk4 (fun _ z=>nomatch z)⟩,by rw[Zu Py.ne];exact hc4,Zj,Py.ne⟩
end
end My
namespace L2
open PySem PySem.Spec PyProof.Rows
def Zob(K:W.Frag)(ta tv:TE)(f:Str):TS:=fun D σ H=>tv σ H fun y H1=>ta σ H1 fun x H2=>∃ a C d fs,x = .ref a∧H2 a=some (T5 a C (some d))∧H2 d=some (.xd fs)∧fs.length≤100∧ExcS K C∧NoAttr K C f ∧
 D.nx σ (upd H2 d (.xd (Yu f y fs)))
theorem Zji{X:Cx}{o value:Expr}{f:Str}{pos pos':Pos}{ta tv:TE}(ha:PE X o ta)(hv:PE X value tv)(hs:swapsWith value (some (.Attribute o f pos')) pos.line X.env=pure false):PS X (.Assign [.Attribute o f pos'] value pos) (Zob X.K ta tv f):=by
 intro pins s σ H D I h;refine plainObj_wpAny_Assign_Attribute (Y5 (hv pins s σ H _ I h) fun u s1 ⟨y,H1,I1,ry,q⟩=>Y5 (ha pins s1 σ H1 _ I1 q) fun ov s2 ⟨x,H2,I2,rx,a,C,d,fs,ex,ea,ed,hl,F,n,q2⟩=>?_) hs;subst ex;obtain rfl:ov=Value.ref a:=rx;obtain⟨⟨oe,vs,e1,e2,e3,e4,e5,e6⟩,_,_⟩:=I2.hok a _ ea;obtain⟨mA,hN,hr⟩:=I2.hok d _ ed;have hne:d≠a:=fun z=>by
  rw[z,ea] at ed;cases ed
 have hw:Within mA (fs.map (·.1)):=fun g hg=>by
  have z:=hr g;obtain⟨w,hw⟩:=Option.ne_none_iff_exists'.mp hg;rw[hw] at z;cases q:fs.lookup g with
  | none=>rw[q] at z;exact z.elim
  | some v=>
   obtain⟨p,hp,e⟩:∃ p∈fs,p.1=g:=by
    clear z hr hg q2 hl ed hw
    induction fs with
    | nil=>cases q
    | cons p ps ih=>
     by_cases c:g == p.1
     ·exact⟨p,Zw ..,(beq_iff_eq.mp c).symm⟩
     ·have c':(g == p.1)=false:=by simpa using c
      obtain⟨k,v'⟩:=p;have q':ps.lookup g=some v:=by
       rw[List.lookup_cons] at q;rw[c'] at q;exact q
      obtain⟨p',h1,h2⟩:=ih q';exact⟨p',Zx _ h1,h2⟩
   exact e ▸ Z2.mpr ⟨p,hp,rfl⟩
 refine Zfl I2.kIn e1 e2 e4 e3 hne hN F n hw (by rw[Zi,sizeLine_eq];omega) fun h' t' hN' hsb=>⟨σ,_,?_,q2⟩;have nd:∀ b u,H2 b=some u→(∀ gs,u ≠ .xd gs)→b≠d:=fun b u q k z=>by
  rw[z,ed] at q;cases q;exact k _ rfl
 have nf:∀ b,H2 b=none→b≠d:=fun b nn z=>by
  rw[z,ed] at nn;cases nn
 have xo:ObjOk X.prog X.w (upd H2 d (.xd (Yu f y fs))) h' d (.xd (Yu f y fs)):=Zlt hN' ry hr;refine I2.un (t':=t') ⟨fun b ob q nn _ _=>(hsb.2 b (nf b nn)).trans q,fun b ob q nn _ _=>⟨ob.slots,(hsb.2 b (nf b nn)).trans q⟩,fun b ob q nn _=>?_,fun b ob q _=>?_,fun b xs q=>?_,fun b ob u q=>?_,fun b ps q=>?_⟩ fun b u q=>?_
 ·rw[Zu (nf b nn)]
  exact nn
 ·by_cases z:b=d
  ·rw[z]
   exact xo.there
  ·exact⟨ob,(hsb.2 b z).trans q⟩
 ·rw[Zu (nd b _ q fun _ z=>by cases z)]
  exact q
 ·rw[Zu (nd b _ q fun _ z=>by cases z)]
  exact q
 ·refine⟨#[],?_⟩
  rw[Zu (nd b _ q fun _ z=>by cases z),q];simp
 ·by_cases z1:b=d
  ·subst z1
   rw[Zj] at q;cases q;exact xo
  ·rw[Zu z1] at q
   refine(I2.hok b u q).stay (fun c w' hc r=>(hsb.2 c ?_).trans r) (fun c r=>?_) fun c xs r=>?_
   ·rcases hc with hc | hc
    ·rw[hc];exact z1
    ·exact nd c _ hc fun _ z=>by cases z
   ·rw[Zu (nd c _ r fun _ z=>by cases z)];exact r
   ·rw[Zu (nd c _ r fun _ z=>by cases z)];exact r
end L2
namespace My
open PySem L2
abbrev Gk:Stmt:=Yo (top 18) 0
abbrev Su:Stmt:=top 75
abbrev Zft:Stmt:=top 76
abbrev Ge:Stmt:=top 77
abbrev N1:Stmt:=top 78
abbrev Sv:Stmt:=top 79
abbrev T4:Stmt:=top 80
section
variable{P:Program}{w:World}{K:W.Frag}{mg:Str→Option Value}{base:Heap}{f g:Addr}{fd gd:FuncData}
def inI(i:Int)(ys:List Nat):Bool:=decide (0≤i∧i.toNat∈ys)
theorem Zca{i:Int}{ys:List Nat}:B1 (.int i) (vN ys)=inI i ys:=by
 unfold B1 vN inI;rw[List.any_map,Bool.eq_iff_iff,List.any_eq_true,decide_eq_true_eq];constructor
 ·rintro⟨y,hy,e⟩
  have e':(((y:Nat):Int) == i)=true:=e;have e2:=beq_iff_eq.mp e';refine⟨by omega,?_⟩;rw[← e2,Zv];exact hy
 ·rintro⟨h0,h⟩
  refine⟨i.toNat,h,?_⟩;show(((i.toNat:Nat):Int) == i)=true;exact beq_iff_eq.mpr (Int.toNat_of_nonneg h0)
noncomputable def brkP (fx:Fx) (t:Option Nat) (hs:List Nat) (lead:Nat) (ys:List Nat) (m:Nat) (seat card:Int):Option Str:=
 if m=0 then some "over" else if seat≠(((lead+ys.length) % fx.n:Nat):Int) then some "turn"
 else if inI card (Ys (hs.getD ((lead+ys.length) % fx.n) 0))=false then some "held" else if inI card (Xw fx t ys (hs.getD ((lead+ys.length) % fx.n) 0))=false then some (wd fx.d) else none
def Ep(CT CG CP:Addr):Sp:=fun vs H Q _=>∃(x gm gx lc lk:Addr) (t:Option Nat) (fx:Fx) (hs0:List Nat) (lead0:Nat) (hs:List Nat) (lead m:Nat) (ys row came:List Nat) (seat card:Int) (r:Str),vs=[.ref x,.int seat,.int card]∧K1 t∧IsPy CP H x gm lc lk hs0 lead0 hs lead ys row came∧GamH CT CG fx t H gm gx∧Plc fx hs lead ys m∧brkP fx t hs lead ys m seat card=some r∧∀ H',Same H H'→Q (.str r) H'
theorem Oo{k:Nat}{CT CG CP f1 m1 m2 m3:Addr}{d1 e1 e2 e3:FuncData}(F:Fun K "broken_rule" "Play.broken_rule" Nh f fd)(C:PlyC K mg CP)(CTb:TabC K mg CT)(CGm:GamC K mg CG)(MT:Meth K CP "turn" m1)(FT:FnOk P w K mg base Y4 k m1 e1 ["self"] (Eo CT CG CP))(BT:Binds K e1 ["self"] [])(MM:Meth K CP "may" m2)(FM:FnOk P w K mg base Y4 k m2 e2 ["self"] (Be CT CG CP))(BM:Binds K e2 ["self"] [])
  (LC:Lib P w K mg base k "cards_in" ["hand"] (X5 K) f1 d1) (MD:Meth K CT "duty" m3) (FD:FnOk P w K mg base Y4 k m3 e3 ["self"] (Dk CT)) (BD:Binds K e3 ["self"] []):FnOk P w K mg base Y4 (k+1) f fd ["self","seat","card"] (Ep CT CG CP):=by
 refine F.ok scPyBroken (fun vs H Q E h=>?_) (fun cdv A outer s H vs Q E hr h=>?_)
 ·obtain⟨x,gm,gx,lc,lk,t,fx,hs0,lead0,hs,lead,m,ys,row,came,seat,card,r,rfl,_⟩:=h
  rfl
 obtain⟨x,gm,gx,lc,lk,t,fx,hs0,lead0,hs,lead,m,ys,row,came,seat,card,r,rfl,tb,Py,G,Pl,hb,q⟩:=h;refine⟨_,Zg (Z4 (i:=3) scPyBroken.nd rfl (Or.inl rfl) (Uv (pv 0) C.cl MT FT hr BT .nil Jh))
  (Zg (Ju (Z7 Vw (pv 3) Uz (Jd _)) (Zq (Z6 Ji)) Jg)
  (Zg (Ju (Z7 Qf (pv 1) (pv 3) (Jd _)) (Zq (Z6 Ji)) Jg)
  (Zg (Ju (Z7 Y7 (pv 2) (Z9 LC.ok hr rfl LC.mg LC.kp LC.bd .nil Jh (Za (Jn Jw (Jn Jw (Jy (pv 0) rfl) Zl (fun _ _=>rfl)) (pv 1) (fun _ _=>rfl)) Zh)) rfl) (Zq (Z6 Ji)) Jg)
  (Zg (Ju (Z7 Y7 (pv 2) (Uv (pv 0) C.cl MM FM hr BM .nil Jh) rfl) (Zq (Z6 (Uv (Jy (Jy (pv 0) rfl) rfl) CTb.cl MD FD hr BD .nil Jh))) Jg)
  (Zq (Z6 Uz)))))),?_⟩
 have ok:=G.ok;obtain⟨dx,fs,pb,pn,hx,A1,hpb,hpn⟩:=id Py.o;refine⟨_,rfl,x,dx,_,rfl,hx,A1.nm _ (by decide +kernel),x,gm,gx,lc,lk,t,fx,hs0,lead0,hs,lead,m,ys,row,came,rfl,Py,G,Pl,fun H1 s1=>?_⟩;unfold brkP at hb;by_cases m0:m=0
 ·rw[if_pos m0] at hb
  have er:("over":Str)=r:=Zn hb;have et:X2 fx lead ys m = .non:=by unfold X2;rw[if_pos m0]
  rw[et];have z:=q H1 s1;rw[← er] at z;exact⟨_,rfl,rfl,_,rfl,Xu (Zf rfl) (Ub z)⟩
 rw[if_neg m0] at hb;have et:X2 fx lead ys m = .int (((lead+ys.length) % fx.n:Nat):Int):=by unfold X2;rw[if_neg m0]
 rw[et];refine⟨_,rfl,rfl,_,rfl,Xu (Zd (fun z=>nomatch z)) (J9 ?_)⟩;by_cases es:seat=(((lead+ys.length) % fx.n:Nat):Int)
 case neg=>
  rw[if_pos es] at hb;have er:("turn":Str)=r:=Zn hb;have z:=q H1 s1;rw[← er] at z;have e1:(!decide (V.int seat=V.int (((lead+ys.length) % fx.n:Nat):Int)))=true:=by
   rw[Zd (fun z=>es (V.int.inj z))];rfl
  exact⟨_,rfl,_,rfl,rfl,_,rfl,Xu e1 (Ub z)⟩
 rw[if_neg (fun z=>z es)] at hb;subst es;have e1:(!decide (V.int (((lead+ys.length) % fx.n:Nat):Int)=V.int (((lead+ys.length) % fx.n:Nat):Int)))=false:=by rw[Zf rfl];rfl
 refine⟨_,rfl,_,rfl,rfl,_,rfl,Xu e1 (J9 ?_)⟩;obtain⟨h,eh,_⟩:=Pl.turn ok;have h32:=Pl.h32 ok (Zr eh);have eg:hs.getD ((lead+ys.length) % fx.n) 0=h:=by rw[Zk,eh];rfl
 rw[eg] at hb;obtain⟨a,b,h1,h2,h3⟩:=hpn.same s1;refine⟨_,rfl,_,rfl,x,CP,dx,_,_,rfl,s1 _ _ hx,C.cl,C.n3,A1.l3,pn,_,_,_,rfl,rfl,SqT.of h1,(rfl:Xg [V.ref a,V.int (lead:Nat),V.ref b] 0=some (V.ref a)),_,rfl,a,_,_,_,rfl,rfl,SqT.of h2,O7 eh,h,rfl,h32,fun l H2 s2 hl hL=>?_⟩;have s12:=s1.trans s2;have e2:(if true=true then !B1 (.int card) (V7 h) else B1 (.int card) (V7 h)) = !inI card (Ys h):=by
  rw[if_pos rfl,Q4,Zca]
 refine⟨l,_,rfl,.inl (SqL.of hL),rfl,by rw[Q4];exact Nm _,_,rfl,Xu e2 ?_⟩;by_cases ei:inI card (Ys h)=false
 ·rw[if_pos ei] at hb
  have er:("held":Str)=r:=Zn hb;have z:=q H2 s12;rw[← er] at z;rw[ei];exact Ub z
 rw[if_neg ei] at hb;rw[Bool.not_eq_false _ |>.mp ei];refine J9 ?_;refine⟨_,rfl,_,rfl,x,dx,_,rfl,s12 _ _ hx,A1.nm _ (by decide +kernel),x,gm,gx,lc,lk,t,fx,hs0,lead0,hs,lead,m,ys,row,came,rfl,tb,Py.same s12,G.same s12,Pl,fun l3 H3 s3 hl3 hL3=>?_⟩;have em:Bu fx t hs lead ys m=Xw fx t ys h:=by
  unfold Bu;rw[if_neg m0,eg]
 rw[em] at hL3;have s13:=s12.trans s3;have e3:(if true=true then !B1 (.int card) (vN (Xw fx t ys h)) else B1 (.int card) (vN (Xw fx t ys h))) = !inI card (Xw fx t ys h):=by
  rw[if_pos rfl,Zca]
 refine⟨l3,_,rfl,.inl (SqL.of hL3),rfl,Nm _,_,rfl,Xu e3 ?_⟩;by_cases ej:inI card (Xw fx t ys h)=false
 ·rw[if_pos ej] at hb
  have er:wd fx.d=r:=Zn hb;have z:=q H3 s13;rw[← er] at z;rw[ej];have G3:=G.same s13;obtain⟨dg,hg⟩:=G3.g;obtain⟨dx2,po,to,hx2,hx3,hx4⟩:=id G3.t;exact Ub ⟨_,rfl,x,CP,dx,_,_,rfl,s13 _ _ hx,C.cl,C.n1,A1.l1,gm,CG,dg,_,_,rfl,hg,CGm.cl,CGm.nT,Up _ _,gx,dx2,_,rfl,hx2,rfl,gx,fx,rfl,G3.t,z⟩
 ·rw[if_neg ej] at hb
  cases hb
structure XC(K:W.Frag)(mg:Str→Option Value)(CW fN:Addr):Prop where
 mW:mg "BadPlay" = some (.ref CW)
 ex:Tj K CW Uk "ValueError.__new__" fN=true
 fn:W.isFn K (.ref fN)=true
 es:ExcS K CW
 nr:NoAttr K CW "rule"
 nt:NoAttr K CW "trick"
def Zii(r:V)(n:V):List (Str×V):=Yu "trick" n [("rule",r)]
def Zfj(CW:Addr):Sp:=fun vs H Q _=>∃(ea:Addr) (v u:V),vs=[.ref ea,v,u]∧H ea=some (T5 ea CW none)∧∀ d,H d=none→d≠ea→Q .non (upd (upd H ea (T5 ea CW (some d))) d (.xd (Zii v u)))
theorem Zoa:FnScope ["self","rule","trick"] ["self","rule","trick"] (Zp Gk):=⟨rfl,rfl,rfl,by decide +kernel,rfl,by decide +kernel,by decide +kernel⟩
theorem Zmv{k:Nat}{CW fN:Addr}(F:Fun K "__init__" "BadPlay.__init__" Gk f fd)(C:XC K mg CW fN):FnOk P w K mg base Y4 (k+1) f fd ["self","rule","trick"] (Zfj CW):=by
 refine F.ok Zoa (fun vs H Q E h=>?_) (fun cdv A outer s H vs Q E hr h=>?_)
 ·obtain⟨ea,v,u,rfl,_⟩:=h
  rfl
 obtain⟨ea,v,u,rfl,he,q⟩:=h;refine⟨_,Zg (Zjj (pv 0) (pv 1) rfl) (Zq (Zji (pv 0) (pv 2) rfl)),?_⟩;refine⟨_,rfl,_,rfl,ea,CW,rfl,he,C.es,C.nr,fun d hd ne=>?_⟩;refine nxE ?_;refine⟨_,rfl,_,rfl,ea,CW,d,[("rule",v)],rfl,by rw[Zu (Ne.symm ne),Zj],Zj,(show 1≤100 by decide),C.es,C.nt,?_⟩;rw[Uf];exact q d hd ne
def R9(CT CG CP CW:Addr):Sp:=fun vs H _ E=>∃(x gm gx lc lk:Addr) (t:Option Nat) (fx:Fx) (hs0:List Nat) (lead0:Nat) (hs:List Nat) (lead m:Nat) (ys row came:List Nat) (seat card:Int) (r:Str),vs=[.ref x,.int seat,.int card]∧K1 t∧IsPy CP H x gm lc lk hs0 lead0 hs lead ys row came∧GamH CT CG fx t H gm gx∧Plc fx hs lead ys m∧came.length≤100∧brkP fx t hs lead ys m seat card=some r ∧
 ∀ d H',Same H H'→H' d=some (.xd (Zii (.str r) (.int ((came.length:Nat):Int))))→E (.ref CW) (some d) H'
theorem Zdg{k:Nat}{CT CG CP CW fN m1:Addr}{dN e1:FuncData}(F:Fun K "put" "Play.put" D4 f fd)(C:PlyC K mg CP)(X:XC K mg CW fN)(FN:FnOk P w K mg base Y4 k fN dN ["self","rule","trick"] (Zfj CW))(BN:Binds K dN ["self","rule","trick"] [])(MB:Meth K CP "broken_rule" m1)(FB:FnOk P w K mg base Y4 (k+1) m1 e1 ["self","seat","card"] (Ep CT CG CP))(BB:Binds K e1 ["self","seat","card"] [])(ml:mg "len" = none) :
  FnOk P w K mg base (V8 P w) (k+2) f fd ["self","seat","card"] (R9 CT CG CP CW):=by
 refine F.okXD scPyPut (fun vs H Q E h=>?_) (fun cdv A outer s H vs Q E hr h T TD=>?_)
 ·obtain⟨x,gm,gx,lc,lk,t,fx,hs0,lead0,hs,lead,m,ys,row,came,seat,card,r,rfl,_⟩:=h
  rfl
 obtain⟨x,gm,gx,lc,lk,t,fx,hs0,lead0,hs,lead,m,ys,row,came,seat,card,r,rfl,tb,Py,G,Pl,k100,hb,q⟩:=h;refine⟨_,Zg (Z4 (i:=3) scPyPut.nd rfl (Or.inl rfl) (X4 (pv 0) C.cl MB FB hr BB .nil Jh (Za (pv 1) (Za (pv 2) Zh))))
  (Zg (Ju (Z7 Ry (pv 3) Uz (Jd _)) (Zq (Zc7 TD hr.hd rfl X.mW X.ex X.fn FN hr BN rfl (Za (pv 3) (Za (Jf Je rfl ml Z5 (Za (Jy (pv 0) rfl) Zh)) Zh)))) Jg)
  Zc6),?_⟩
 obtain⟨dx,fs,pb,pn,hx,A1,hpb,hpn⟩:=id Py.o;refine⟨_,rfl,x,dx,_,rfl,hx,A1.nm _ (by decide +kernel),_,rfl,_,rfl,x,gm,gx,lc,lk,t,fx,hs0,lead0,hs,lead,m,ys,row,came,seat,card,r,rfl,tb,Py,G,Pl,hb,fun H1 s1=>?_⟩;refine⟨_,rfl,rfl,_,rfl,Xu (rfl:(!decide (V.str r=V.non))=true) (Ub ?_)⟩;refine⟨_,rfl,_,rfl,x,CP,dx,_,_,rfl,s1 _ _ hx,C.cl,C.n5,A1.l5,lk,_,rfl,.inl (SqL.of (s1 _ _ Py.t)),Jl 2 (by decide),fun ea hea=>⟨ea,_,_,rfl,Zj,fun d hd ne=>⟨rfl,some d,?_,?_⟩⟩⟩
 ·rw[Zu (Ne.symm ne),Zj]
 ·have hd0:H1 d=none:=by rw[Zu ne] at hd;exact hd
  refine q d _ (fun b o h=>?_) ?_
  ·have h2:=s1 b o h
   have b1:b≠ea:=fun z=>by rw[z,hea] at h2;cases h2
   have b2:b≠d:=fun z=>by rw[z,hd0] at h2;cases h2
   rw[Xp b1,Zu b2,Zu b1,Zu b1];exact h2
  ·rw[Xp ne,Zj,Jq]
def Di(K:W.Frag):Sp:=fun vs H Q _=>∃ i:Int,vs=[.int i]∧Q (.bl true) H
theorem Zi1:FnScope ["_law_found"] ["_law_found"] (Zp Su):=⟨rfl,rfl,rfl,by decide +kernel,rfl,by decide +kernel,by decide +kernel⟩
theorem Zgm{k:Nat}(F:Fun K "_law_whole" "_law_whole" Su f fd)(mi:mg "isinstance" = none)(mI:mg "int" = none)(mB:mg "bool" = none):FnOk P w K mg base Y4 (k+1) f fd ["_law_found"] (Di K):=by
 refine F.ok Zi1 (fun vs H Q E h=>?_) (fun cdv A outer s H vs Q E hr h=>?_)
 ·obtain⟨h,rfl,_⟩:=h
  rfl
 obtain⟨i,rfl,q⟩:=h;refine⟨_,Zq (Z6 (Gv (Jf Va rfl mi Js (Za (pv 0) (Za (Bq (v:=.ty "int") rfl mI U2 rfl) Zh)))
  (Gu (Zme (Jf Va rfl mi Js (Za (pv 0) (Za (Bq (v:=.ty "bool") rfl mB PyProof.Rows.boot_bool rfl) Zh))))))),?_⟩
 refine⟨_,rfl,_,_,_,true,rfl,.int i,rfl,true,rfl,Ub ?_⟩;exact⟨_,rfl,_,_,_,false,rfl,.int i,by with_unfolding_all rfl,false,rfl,q⟩
theorem Rt:∀{a b:List Nat},a.Pairwise (· < ·)→b.Pairwise (· < ·)→(∀ i,i∈a↔i∈b)→a=b
 | [],[],_,_,_=>rfl
 | [],y :: b,_,_,h=>nomatch (h y).mpr Zw
 | x :: a,[],_,_,h=>nomatch (h x).mp Zw
 | x :: a,y :: b,pa,pb,h=>by
  obtain⟨a1,a2⟩:=List.pairwise_cons.mp pa;obtain⟨b1,b2⟩:=List.pairwise_cons.mp pb;have e:x=y:=by
   rcases List.mem_cons.mp ((h x).mp Zw) with z | z
   ·exact z
   ·rcases List.mem_cons.mp ((h y).mpr Zw) with u | u
    ·exact u.symm
    ·have:=a1 y u
     have:=b1 x z;omega
  subst e;rw[Rt a2 b2 fun i=>⟨fun m=>?_,fun m=>?_⟩]
  ·rcases List.mem_cons.mp ((h i).mp (Zx _ m)) with z | z
   ·have:=a1 i m
    omega
   ·exact z
  ·rcases List.mem_cons.mp ((h i).mpr (Zx _ m)) with z | z
   ·have:=b1 i m
    omega
   ·exact z
theorem Kx{A:List Nat}(ri:A.Pairwise (· < ·))(h:∀ c∈A,c < 32):Ys (hN A)=A:=by
 refine Rt ?_ ri (B3 h);exact List.Pairwise.filter _ List.pairwise_lt_range
theorem Om{a b cs:List Nat}(ha:a.Sublist cs)(hb:b.Sublist cs):(El a b).Sublist cs:=by
 unfold El;split
 ·exact hb
 ·exact ha
theorem Ou(s:Nat)(cs:List Nat):(Ei s cs).Sublist cs:=List.filter_sublist
theorem Ox(t:Option Nat)(led:Nat)(cs:List Nat):(Em t led cs).Sublist cs:=by
 refine Om (Ou _ _) (Om ?_ (List.Sublist.refl _));cases t with
 | none=>exact List.nil_sublist _
 | some u=>exact Ou _ _
theorem Zij(d:_root_.Fin 4)(f:Fx)(t:Option Nat)(ys cs:List Nat):(O3 d f t ys cs).Sublist cs:=by
 match d with
 | 0=>exact List.Sublist.refl _
 | 1=>exact Om (Ou _ _) (List.Sublist.refl _)
 | 2=>exact Ox _ _ _
 | 3=>exact Om (List.filter_sublist.trans (Ox _ _ _)) (Ox _ _ _)
theorem Zkf{f:Fx}{t:Option Nat}{ys cs:List Nat}(up:cs.Pairwise (· < ·))(c32:∀ c∈cs,c < 32){ds:List Nat}(hp:ds.Perm (if ys=[] then cs else O3 f.d f t ys cs))(hs:ds.Pairwise (·≤·)):ds=Xw f t ys (hN cs):=by
 have ec:Ys (hN cs)=cs:=Kx up c32;have sl:(if ys=[] then cs else O3 f.d f t ys cs).Sublist cs:=by
  split
  ·exact List.Sublist.refl _
  ·exact Zij _ _ _ _ _
 have uX:=up.sublist sl;unfold Xw;rw[ec,Kx uX fun c hc=>c32 c (sl.subset hc)];refine Rt ?_ uX fun i=>hp.mem_iff;have nd:ds.Nodup:=hp.nodup_iff.mpr (uX.imp fun {a b} l e=>by omega);exact List.Pairwise.imp₂ (fun {a b} (l:a≤b) (n:a≠b)=>by omega) hs nd
theorem Zal{f:Fx}{t:Option Nat}{ys cs:List Nat}(up:cs.Pairwise (· < ·))(c32:∀ c∈cs,c < 32):Xw f t ys (hN cs)=(if ys=[] then cs else O3 f.d f t ys cs):=by
 have sl:(if ys=[] then cs else O3 f.d f t ys cs).Sublist cs:=by
  split
  ·exact List.Sublist.refl _
  ·exact Zij _ _ _ _ _
 exact(Zkf up c32 (List.Perm.refl _) ((up.sublist sl).imp fun {a b} l=>J2 l)).symm
def oR:Option Str→V | none=>.non | some r=>.str r
theorem Zc9{fx:Fx}(ok:fx.Ok){css:List (List Nat)}{lead m:Nat}{ys:List Nat}(S:StOk fx css lead ys m):∃ cs0,css[lead]? = some cs0∧((cs0=[]∧ys=[])↔m=0):=by
 have hl:lead < css.length:=by rw[S.len];exact S.plc.ld
 refine⟨css[lead],Zb hl,?_⟩;have lv:=S.plc.lv lead (hN css[lead]) (by rw[Zm,Zb hl];rfl);have cl:=(S.cl ok (Yy hl)).2;have n0:0 < fx.n:=by rcases ok.n34 with e | e<;>omega
 have o0:A6 fx.n lead lead=0:=by
  have z:=Ew (k:=0) ok.n34 S.plc.ld n0;rw[Nat.add_zero,Nat.mod_eq_of_lt S.plc.ld] at z;exact z
 rw[o0,← cl] at lv;constructor
 ·rintro⟨e1,e2⟩
  rw[e1,e2] at lv;exact lv.symm
 ·intro m0
  rw[m0] at lv;have a:(css[lead]).length=0:=by omega
  have b:ys.length=0:=by
   cases ys with
   | nil=>rfl
   | cons y ys=>
    rw[if_pos (by simp)] at lv;omega
  exact⟨List.eq_nil_of_length_eq_zero a,List.eq_nil_of_length_eq_zero b⟩
theorem Zhr{cs:List Nat}(c32:∀ c∈cs,c < 32)(i:Int):inI i (Ys (hN cs))=inI i cs:=by
 unfold inI;refine decide_eq_decide.mpr ⟨fun h=>⟨h.1,?_⟩,fun h=>⟨h.1,?_⟩⟩
 ·have z:=(Xj (Th c32)).mp h.2
  rw[Ur] at z;exact Jx z
 ·refine(Xj (Th c32)).mpr ?_
  rw[Ur];exact Zf h.2
def Dt:Sp:=fun vs H Q _=>∃(d st:Addr) (f:Fx) (t:Option Nat) (sz:Nat) (css:List (List Nat)) (lead m:Nat) (ys:List Nat) (seat card:Int),vs=[.ref d,.ref st,.int seat,.int card]∧f.Ok∧IsRu H d f t sz∧IsSt H st css lead ys∧StOk f css lead ys m∧∀ H',Same H H'→Q (oR (brkP f t (css.map hN) lead ys m seat card)) H'
abbrev Vs:List Str:=["_law_rules_here","_law_state","_law_seat","_law_card"]
theorem Zi9:FnScope Vs Vs (Zp Zft):=⟨rfl,rfl,rfl,by decide +kernel,rfl,by decide +kernel,by decide +kernel⟩
theorem Zgx{k:Nat}{f1 f2:Addr}{d1 d2:FuncData}(F:Fun K "_law_rule" "_law_rule" Zft f fd)(LT:Lib P w K mg base k "_law_turn" Ed Ng f1 d1)(LM:Lib P w K mg base k "_law_may" Mn Du f2 d2)(ml:mg "len" = none):FnOk P w K mg base Y4 (k+1) f fd Vs Dt:=by
 refine F.ok Zi9 (fun vs H Q E h=>?_) (fun cdv A outer s H vs Q E hr h=>?_)
 ·obtain⟨d,st,fx,t,sz,css,lead,m,ys,seat,card,rfl,_⟩:=h
  rfl
 obtain⟨d,st,fx,t,sz,css,lead,m,ys,seat,card,rfl,ok,hRu,hSt,S,q⟩:=h;have hu:=Jj (Nat.add_le_add_left (show 1≤64 by decide) _) hr.units;refine⟨_,Zg (Ju (PW.pt (Of (Z7 Uc (Jf Je rfl ml Z5 (Za (Jn Yd (Jn Jw (pv 1) Zl (fun _ _=>rfl)) (Jn Jw (pv 1) Zl (fun _ _=>rfl)) (fun _ _=>rfl)) Zh)) Zl (Jd _)) (Rv (Z7 Uc (Jf Je rfl ml Z5 (Za (Jn Jw (pv 1) Zl (fun _ _=>rfl)) Zh)) Zl (Jd _))))) (Zq (Z6 Ji)) Jg)
  (Zg (Ju (Z7 Qf (pv 2) (Z9 LT.ok hr rfl LT.mg LT.kp LT.bd .nil Jh (Za (pv 1) Zh)) (Jd _)) (Zq (Z6 Ji)) Jg)
  (Zg (Ju (Z7 Y7 (pv 3) (Jn Yd (Jn Jw (pv 1) Zl (fun _ _=>rfl)) (pv 2) (fun _ _=>rfl)) rfl) (Zq (Z6 Ji)) Jg)
  (Zg (Ju (Z7 Y7 (pv 3) (Z9 LM.ok hr rfl LM.mg LM.kp LM.bd .nil Jh (Za (pv 0) (Za (Jn Yd (Jn Jw (pv 1) Zl (fun _ _=>rfl)) (pv 2) (fun _ _=>rfl)) (Za (Jn Jw (pv 1) Zl (fun _ _=>rfl)) Zh)))) rfl) (Zq (Z6 (Yl hu (pv 0) Ji (fun _ _=>rfl)))) Jg)
  (Zq (Z6 Uz))))),?_⟩
 have n0:0 < fx.n:=by rcases ok.n34 with e | e<;>omega
 obtain⟨lc',lt',as',k1,k2,k3,k4⟩:=id hSt;obtain⟨cs0,ec0,ov⟩:=Zc9 ok S;have l0:lead < as'.length:=by rw[k3.1,S.len];exact S.plc.ld
 obtain⟨cs0',f1,f2⟩:=k3.2 _ _ (Zb l0);rw[ec0] at f1;cases f1;refine U9 (fun σ H1=>H1=H∧m≠0∧σ=[some (.ref d),some (.ref st),some (.int seat),some (.int card)]) (fun D' er nx=>?_) (fun σ H1 z=>?_)
 ·refine⟨_,rfl,st,_,_,_,rfl,rfl,SqT.of k1,(rfl:Xg [V.ref lc',V.int (lead:Nat),V.ref lt'] 0=some (V.ref lc')),_,rfl,st,_,_,_,rfl,rfl,SqT.of k1,(rfl:Xg [V.ref lc',V.int (lead:Nat),V.ref lt'] 1=some (V.int (lead:Nat))),lc',_,_,V.ref as'[lead],rfl,rfl,SqL.of k2,Um (by rw[Zm,Zb l0];rfl),as'[lead],_,rfl,.inl (SqL.of f2),rfl,_,rfl,Xu (Zdw cs0) ?_⟩
  by_cases c0:cs0=[]
  ·rw[Zf c0]
   refine Ub ⟨_,rfl,st,_,_,_,rfl,rfl,SqT.of k1,(rfl:Xg [V.ref lc',V.int (lead:Nat),V.ref lt'] 2=some (V.ref lt')),lt',_,rfl,.inl (SqL.of k4),rfl,_,rfl,Xu (Zdw ys) ?_⟩;by_cases y0:ys=[]
   ·rw[Zf y0]
    have m0:=ov.mp ⟨c0,y0⟩;have z:=q H (Same.refl H);unfold brkP at z;rw[if_pos m0] at z;refine Ub ?_;show D'.rt (.str "over") H;rw[er];exact z
   ·rw[Zd y0]
    exact J9 (nx _ _ ⟨rfl,fun z=>y0 (ov.mpr z).2,rfl⟩)
  ·rw[Zd c0]
   exact J9 (J9 (nx _ _ ⟨rfl,fun z=>c0 (ov.mpr z).1,rfl⟩))
 obtain⟨rfl,m0,rfl⟩:=z;unfold brkP at q;rw[if_neg m0] at q;refine⟨_,rfl,_,rfl,st,css,lead,ys,rfl,hSt,by rw[S.len];exact n0,?_⟩;rw[S.len];refine⟨rfl,_,rfl,?_⟩;by_cases es:seat=(((lead+ys.length) % fx.n:Nat):Int)
 case neg=>
  have z:=q H1 (Same.refl H1);rw[if_pos es] at z;have e1:(!decide (V.int seat=V.int (((lead+ys.length) % fx.n:Nat):Int)))=true:=by
   rw[Zd (fun z=>es (V.int.inj z))];rfl
  exact Xu e1 (Ub z)
 rw[if_neg (fun z=>z es)] at q;subst es;have e1:(!decide (V.int (((lead+ys.length) % fx.n:Nat):Int)=V.int (((lead+ys.length) % fx.n:Nat):Int)))=false:=by rw[Zf rfl];rfl
 refine Xu e1 (J9 (Bs ?_));obtain⟨cs,ec,ecl⟩:=S.turn ok;have cm:=Zr ec;have cl:=(S.cl ok cm).1;have sl:(lead+ys.length) % fx.n < as'.length:=by rw[k3.1,S.len];exact Xy ok _ _
 obtain⟨cs',j1,j2⟩:=k3.2 _ _ (Zb sl);rw[ec] at j1;cases j1;have eg:(css.map hN).getD ((lead+ys.length) % fx.n) 0=hN cs:=by rw[Zk,Zm,ec];rfl
 rw[eg,Zhr (S.c32 ok cm)] at q;have e2:(if true=true then !B1 (.int card) (vN cs) else B1 (.int card) (vN cs)) = !inI card cs:=by rw[if_pos rfl,Zca]
 refine⟨_,rfl,_,rfl,st,_,_,_,rfl,rfl,SqT.of k1,(rfl:Xg [V.ref lc',V.int (lead:Nat),V.ref lt'] 0=some (V.ref lc')),_,rfl,lc',_,_,V.ref as'[(lead+ys.length) % fx.n],rfl,rfl,SqL.of k2,Um (by rw[Zm,Zb sl];rfl),as'[(lead+ys.length) % fx.n],_,rfl,.inl (SqL.of j2),rfl,Nm _,_,rfl,Xu e2 ?_⟩;by_cases ei:inI card cs=false
 ·have z:=q H1 (Same.refl H1)
  rw[if_pos ei] at z;rw[ei];exact Ub z
 rw[if_neg ei] at q;rw[Bool.not_eq_false _ |>.mp ei];refine J9 (Bs ?_);refine⟨_,rfl,_,rfl,_,rfl,st,_,_,_,rfl,rfl,SqT.of k1,(rfl:Xg [V.ref lc',V.int (lead:Nat),V.ref lt'] 0=some (V.ref lc')),_,rfl,lc',_,_,V.ref as'[(lead+ys.length) % fx.n],rfl,rfl,SqL.of k2,Um (by rw[Zm,Zb sl];rfl),_,rfl,st,_,_,_,rfl,rfl,SqT.of k1,(rfl:Xg [V.ref lc',V.int (lead:Nat),V.ref lt'] 2=some (V.ref lt')),?_⟩;refine⟨d,as'[(lead+ys.length) % fx.n],lt',fx,t,sz,cs,ys,rfl,ok,hRu,j2,k4,by omega,S.beg ok cm,fun o H2 s2 ho=>?_⟩;rw[← Zal (S.up cs cm) (S.c32 ok cm)] at ho;have e3:(if true=true then !B1 (.int card) (vN (Xw fx t ys (hN cs))) else B1 (.int card) (vN (Xw fx t ys (hN cs)))) = !inI card (Xw fx t ys (hN cs)):=by rw[if_pos rfl,Zca]
 refine⟨o,_,rfl,.inl (SqL.of ho),rfl,Nm _,_,rfl,Xu e3 ?_⟩;by_cases ej:inI card (Xw fx t ys (hN cs))=false
 ·have z:=q H2 s2
  rw[if_pos ej] at z;rw[ej];obtain⟨lp,lh,hD,_,_⟩:=hRu.same s2;obtain⟨g1,g2,g3,g4,g5,g6,g7,g8⟩:=@Et fx t sz lp lh;exact Ub ⟨_,rfl,d,_,rfl,V3 hD g5,z⟩
 ·have z:=q H2 s2
  rw[if_neg ej] at z;rw[Bool.not_eq_false _ |>.mp ej];exact J9 (Bs z)
structure ClsB(K:W.Frag)(mg:Str→Option Value)(CE CW:Addr)(c:_root_.Fin 15→Addr):Prop where
 ex:ExcF K CW
 mT:mg "TrickError" = some (.ref CE)
 mB:mg "BadPlay" = some (.ref CW)
 hX:W.exmOne K (.ref CW) (.ref CE)=some true
 m0:mg "NoPlay" = some (.ref (c 0))
 m1:mg "NoCall" = some (.ref (c 1))
 m2:mg "NoCard" = some (.ref (c 2))
 m3:mg "NoDeal" = some (.ref (c 3))
 m4:mg "NoHand" = some (.ref (c 4))
 m5:mg "NoRecord" = some (.ref (c 5))
 m6:mg "NoRow" = some (.ref (c 6))
 m7:mg "NoShare" = some (.ref (c 7))
 m8:mg "NoSheet" = some (.ref (c 8))
 m9:mg "NoTable" = some (.ref (c 9))
 m10:mg "NotNow" = some (.ref (c 10))
 m11:mg "NotYet" = some (.ref (c 11))
 m12:mg "NoView" = some (.ref (c 12))
 m13:mg "TooMany" = some (.ref (c 13))
 m14:mg "TooMuch" = some (.ref (c 14))
 iB:W.kitOne K (.ref CW) (.ref CW)=some true
 iV:W.kitOne K (.ref CW) (.type "ValueError")=some true
 i:∀ j,W.kitOne K (.ref CW) (.ref (c j))=some false
theorem By{K:W.Frag}{t:Value}:∀{cs:List Value},(∀ c∈cs,W.kitOne K t c=some false)→W.kitAny K t cs=some false
 | [],_=>rfl
 | c :: cs,h=>by
  unfold W.kitAny;rw[h c (Zw ..)];exact By fun d hd=>h d (Zx _ hd)
def Nx(CT CG CP:Addr):Sp:=fun vs H Q _=>∃(x gm gx lc lk:Addr) (t:Option Nat) (fx:Fx) (hs0:List Nat) (lead0:Nat) (hs:List Nat) (lead m:Nat) (ys row came:List Nat) (seat card:Int) (r:Str),vs=[.ref x,.int seat,.int card,.str r,.int ((came.length:Nat):Int)]∧K1 t∧IsPy CP H x gm lc lk hs0 lead0 hs lead ys row came∧GamH CT CG fx t H gm gx∧Plc fx hs lead ys m∧came.length≤100∧brkP fx t hs lead ys m seat card=some r∧∀ H',Same H H'→Q (.bl true) H'
abbrev Zgf:List Str:=["_law_play","_law_seat","_law_card","_law_rule_here","_law_trick"]
abbrev Zp2:List Str:=["_law_play","_law_seat","_law_card","_law_rule_here","_law_trick","_law_found","e"]
theorem scRef:FnScope Zp2 Zgf (Zp Ge):=⟨rfl,rfl,rfl,by decide +kernel,rfl,by decide +kernel,by decide +kernel⟩
theorem Zkz(v u:V):(Zii v u).lookup ("rule":Str)=some v∧(Zii v u).lookup ("trick":Str)=some u:=by
 unfold Zii;constructor
 ·rw[Zo,if_neg (by decide +kernel)]
  rfl
 ·rw[Zo,if_pos rfl]
theorem A0{k:Nat}{CT CG CP CE CW fN mU f1:Addr}{dU d1:FuncData}{c:_root_.Fin 15→Addr}(F:Fun K "_law_refused" "_law_refused" Ge f fd)(PC:PlyC K mg CP)(C:ClsB K mg CE CW c)(X:XC K mg CW fN)(MU:Meth K CP "put" mU)(FU:FnOk P w K mg base (V8 P w) k mU dU ["self","seat","card"] (R9 CT CG CP CW))(BU:Binds K dU ["self","seat","card"] [])(LW:Lib P w K mg base k "_law_whole" ["_law_found"] (Di K) f1 d1)(mi:mg "isinstance" = none)(mV:mg "ValueError" = none)(mS:mg "str" = none):FnOk P w K mg base Y4 (k+1) f fd Zgf (Nx CT CG CP):=by
 refine F.ok scRef (fun vs H Q E h=>?_) (fun cdv A outer s H vs Q E hr h=>?_)
 ·obtain⟨x,gm,gx,lc,lk,t,fx,hs0,lead0,hs,lead,m,ys,row,came,seat,card,r,rfl,_⟩:=h
  rfl
 obtain⟨x,gm,gx,lc,lk,t,fx,hs0,lead0,hs,lead,m,ys,row,came,seat,card,r,rfl,tb,Py,G,Pl,k100,hb,q⟩:=h;refine⟨_,Zg (Z4 (i:=5) scRef.nd rfl (Or.inl rfl) Uz)
  (Zg (Zjh (i:=6) rfl rfl rfl scRef.nd rfl rfl (Zf4 (Zf9 (pv 0) PC.cl MU FU hr BU .nil (Za (pv 1) (Za (pv 2) Zh)))) rfl C.mT (fun e=>Zq (Z4 (i:=5) scRef.nd rfl (Or.inl rfl) (pv 6))))
  (Zg (Ju (PW.pt (Ek (Eb (Ug (Jf M4 rfl mi Js (Za (pv 5) (Za (J0 (v:=.ref CW) rfl C.mB rfl) Zh))) (fun _=>rfl))) (Qt (Eb (Ug (Jf M4 rfl mi Js (Za (pv 5) (Za (Bq (v:=.ty "ValueError") rfl mV PyProof.Rows.Boot.«ValueError» rfl) Zh))) (fun _=>rfl)))))) (Zq (Z6 Qe)) Jg)
  (Zg (Ju (Ug (Jf Tx rfl mi Js (Za (pv 5) (Za (Y2 (Za (J0 (v:=.ref (c 0)) rfl C.m0 rfl) (Za (J0 (v:=.ref (c 1)) rfl C.m1 rfl) (Za (J0 (v:=.ref (c 2)) rfl C.m2 rfl) (Za (J0 (v:=.ref (c 3)) rfl C.m3 rfl) (Za (J0 (v:=.ref (c 4)) rfl C.m4 rfl) (Za (J0 (v:=.ref (c 5)) rfl C.m5 rfl) (Za (J0 (v:=.ref (c 6)) rfl C.m6 rfl) (Za (J0 (v:=.ref (c 7)) rfl C.m7 rfl) (Za (J0 (v:=.ref (c 8)) rfl C.m8 rfl) (Za (J0 (v:=.ref (c 9)) rfl C.m9 rfl) Zh))))))))))) Zh))) (fun _=>rfl)) (Zq (Z6 Qe)) Jg)
  (Zg (Ju (Ug (Jf Tx rfl mi Js (Za (pv 5) (Za (Y2 (Za (J0 (v:=.ref (c 10)) rfl C.m10 rfl) (Za (J0 (v:=.ref (c 11)) rfl C.m11 rfl) (Za (J0 (v:=.ref (c 12)) rfl C.m12 rfl) (Za (J0 (v:=.ref (c 13)) rfl C.m13 rfl) (Za (J0 (v:=.ref (c 14)) rfl C.m14 rfl) Zh)))))) Zh))) (fun _=>rfl)) (Zq (Z6 Qe)) Jg)
  (Zg (Ju (PW.pt (Ek (Eb (Ug (Jf Va rfl mi Js (Za (Rx (pv 5) rfl) (Za (Bq (v:=.ty "str") rfl mS PyProof.Rows.boot_str rfl) Zh))) (fun _=>rfl))) (Qt (Z7 Qf (Rx (pv 5) rfl) (pv 3) (Jd _))))) (Zq (Z6 Qe)) Jg)
  (Zq (Z6 (Gv (Z9 LW.ok hr rfl LW.mg LW.kp LW.bd .nil Jh (Za (Rx (pv 5) rfl) Zh)) (Gu (Xa Uc (Rx (pv 5) rfl) (pv 4) (Jd _))))))))))),?_⟩
 obtain⟨dx,fs,pb,pn,hx,A1,hpb,hpn⟩:=id Py.o;refine⟨_,rfl,x,dx,_,rfl,hx,A1.nm _ (by decide +kernel),_,rfl,_,rfl,x,gm,gx,lc,lk,t,fx,hs0,lead0,hs,lead,m,ys,row,came,seat,card,r,rfl,tb,Py,G,Pl,k100,hb,fun d H1 s1 hd=>⟨CW,rfl,C.hX,fun ea hea=>⟨_,rfl,?_⟩⟩⟩;have s2:=Zy hea (V2 ea CW (some d));have hE:(upd H1 ea (V2 ea CW (some d))) ea=some (V2 ea CW (some d)):=Zj;have hd2:=s2 _ _ hd;have s02:=s1.trans s2;generalize upd H1 ea (V2 ea CW (some d))=H2 at hE hd2 s02 ⊢;refine⟨_,rfl,ea,CW,some d,_,true,rfl,rfl,hE,C.ex,C.iB,true,rfl,J9 ⟨_,rfl,ea,CW,some d,_,true,rfl,rfl,hE,C.ex,C.iV,true,rfl,J9 ?_⟩⟩;have k10:∀ js:List (_root_.Fin 15),W.kitAny K (.ref CW) ((js.map fun j=>V.ref (c j)).map toC)=some false:=fun js=>by
  refine By fun v hv=>?_;rw[Z8] at hv;obtain⟨j,_,rfl⟩:=Z2.mp hv;exact C.i j
 refine⟨_,rfl,Jl 10 (by decide),fun p1 hp1=>?_⟩;have a1:=Zy hp1 (.tup ([0,1,2,3,4,5,6,7,8,9].map fun j=>V.ref (c j)));refine⟨ea,CW,some d,p1,_,false,rfl,Zj,rfl,a1 _ _ hE,C.ex,k10 [0,1,2,3,4,5,6,7,8,9],false,rfl,J9 ?_⟩;refine⟨_,rfl,Jl 5 (by decide),fun p2 hp2=>?_⟩;have a2:=Zy hp2 (.tup ([10,11,12,13,14].map fun j=>V.ref (c j)));refine⟨ea,CW,some d,p2,_,false,rfl,Zj,rfl,a2 _ _ (a1 _ _ hE),C.ex,k10 [10,11,12,13,14],false,rfl,J9 ?_⟩;have a12:=a1.trans a2;have hE4:=a12 _ _ hE;have hd4:=a12 _ _ hd2;have s04:=s02.trans a12;obtain⟨b1,b2⟩:=Zkz (.str r) (.int ((came.length:Nat):Int));refine⟨_,rfl,ea,CW,d,_,_,rfl,hE4,hd4,C.ex,X.es,X.nr,b1,_,_,_,true,rfl,.str _,rfl,true,rfl,J9 ?_⟩;have eR:(!decide (V.str r=V.str r))=false:=by rw[Zf rfl];rfl
 refine⟨_,rfl,ea,CW,d,_,_,rfl,hE4,hd4,C.ex,X.es,X.nr,b1,_,rfl,rfl,_,rfl,Xu eR (J9 (Bs ?_))⟩;refine⟨_,rfl,ea,CW,d,_,_,rfl,hE4,hd4,C.ex,X.es,X.nt,b2,_,rfl,true,rfl,Ub ?_⟩;refine⟨_,rfl,ea,CW,d,_,_,rfl,hE4,hd4,C.ex,X.es,X.nt,b2,_,rfl,rfl,?_⟩;rw[Zf rfl];exact q _ s04
end
end My
namespace L2
open PySem PySem.Spec PyProof.Rows
section
variable{prog:Program}{w:World}{A:Around}{E:Value→Shared→Prop}{s:Shared}{h₀:Heap}{L l:Addr}{m:Str→Option Value}{news:List (Addr×Obj)}{Q:Value→Shared→Prop}
theorem Sm{vs:List Value}{kz:List Int}{f:Value}{kw:List (Str×Value)}(F:Fr h₀ L s.heap m)(N:News h₀ L s.heap news)(hl:s.heap.IsList l vs.toArray)(h64:vs.length < 64)(hlen:kz.length=vs.length)
  (ha1:argsOk "sorted" ⟨[.ref l],kw⟩) (ha2:∀ x,argsOk "list.sort" ⟨[.ref x],kw⟩) (ht:∀ x,Builtin.«list.sort» ⟨[.ref x],kw⟩=ksk_tree x f false)
  (turn:∀(i:Nat) (v:Value) (k:Int),vs[i]? = some v→kz[i]? = some k→∀(h:Heap) (tk:Nat) (own:List (Addr×Obj)),Fr h₀ L h m→News h₀ L h (news++own) →
   wpAny (model prog w) A.in1.in1 (call f [v]) (KskEnd h₀ L m (news++own) k { s with heap:=h,toks:=tk }) (fun _ _=>False) { s with heap:=h,toks:=tk })
  (done:∀ D out c h' tk,Fr h₀ L h' m→News h₀ L h' ((D,seqObj "list" out c) :: news)→(∀ b o,s.heap.get? b=some o→b < D)→KskOut false kz vs out.toList→Q (.ref D) { s with heap:=h',toks:=tk }) :
  wpAny (model prog w) A (call (.builtin "sorted") [.ref l] kw) Q E s:=by
 refine call_function_entry_kw kind_sorted plain_sorted entry_sorted ha1 ?_;unfold Builtin.«sorted»;refine Zc (m:=checkCount "sorted" 1 1 _) (wpAny_pure ?_);refine Zc (collect_list hl ?_ (by rw[sizeLine_eq];omega));have kp:∀ b o,s.heap.get? b=some o→((s.heap.push (seqObj "list" #[] 0)).update s.heap.objs.size (Obj.mapSeq (· ++ vs.toArray))).get? b=some o:=fun b o q=>by
  rw[Heap.get?_update_other _ _ (Nat.ne_of_lt (Zs q)).symm];exact Ze _ q
 generalize (s.heap.push (seqObj "list" #[] 0)).update s.heap.objs.size (Obj.mapSeq (· ++ vs.toArray))=h1 at kp ⊢;refine Zc (wpAny_newList ?_ (by rw[sizeLine_eq];omega));have hL:L < h1.objs.size:=(F.ns.keeps kp).lt;have hoL:(h1.push (seqObj "list" vs.toArray 0)).get? h1.objs.size=some (seqObj "list" vs.toArray 0):=Heap.get?_push_size _ rfl;have keep:∀ b o,s.heap.get? b=some o→(h1.push (seqObj "list" vs.toArray 0)).get? b=some o:=fun b o q=>Ze _ (kp b o q);refine Zc (wpAny_holding (wpAny_call_entry_kw slot_list_sort ⟨_,hoL,rfl⟩ entry_list_sort ?body (ha2 _)))
 case body=>
  have ht':=ht h1.objs.size;show wpAny (model prog w) A.in1.in1 (Builtin.«list.sort» ⟨[.ref h1.objs.size],kw⟩) _ _ _;rw[ht'];refine ksk_sort (s:={ s with heap:=h1.push (seqObj "list" vs.toArray 0) }) (kz:=kz)
   (F.kept keep) (N.grown keep) hoL (Nat.ne_of_gt hL) (Heap.get?_none_of_le (Nat.le_trans F.above (J2 hL)))
   (fun p hp=>Nat.ne_of_lt (Zs (kp _ _ (N p hp).1))) hlen h64 (fun i v k hv hk h tk own F' N'=>turn i v k hv hk h tk own F' N') fun h' tk out c F' N' ko=>⟨_,rfl,?_⟩
  exact wpAny_pure ⟨_,rfl,done _ out c h' tk F' N' (fun b o e=>Zs (kp b o e)) ko⟩
end
abbrev Y3(pv:Str):Scope:={ kind:=.function,names:=[(pv,.local)],isGenerator:=false,isCoroutine:=false,more:=[] }
abbrev Uo(pv:Str)(p1 p2 p3:Pos):Expr:=.Subscript (.Name pv p1) (.Constant (.int 0) 0 p2) p3
section
variable{prog:Program}{w:World}{A:Around}{E:Value→Shared→Prop}{s:Shared}{Q:Value→Shared→Prop}{pv qual:Str}{p p1 p2 p3:Pos}{f tp c':Addr}{pm ctv:Value}
theorem Zdy{its:List Value}{tt:Tok}{k:Int}(hroom:A.depth < recursionLimit)(hlim:s.heap.NoLimit)
  (hf:s.heap.get? f=some (W.kla_obj "<lambda>" qual (Yn pv p) (Uo pv p1 p2 p3) (Y3 pv) [] pm c' ctv)) (hcd:s.heap.CodeRec (.ref c') qual)
  (hl:IsTup s.heap tp its.toArray) (hit:its[0]? = some (.int k tt))
  (hbind:∀ u:Value,bindArgs (W.kla_fn "<lambda>" qual (Yn pv p) (Uo pv p1 p2 p3) (Y3 pv) [] pm (.ref c') ctv) ⟨[u],[]⟩=pure [(pv,u)])
  (hd2:(pv == ("__debug__":Str))=false)
  (h:∀ h' tk,(∀ b o,s.heap.get? b=some o→h'.get? b=some o)→Q (.int k tt) { s with heap:=h',toks:=tk }) :
  wpAny (model prog w) A (call (.ref f) [.ref tp]) Q E s:=by
 refine wpAny_call (W.kla_callFunE hroom hf rfl rfl rfl rfl hcd ?_);rw[hbind];refine wpAny_pure (wpAny_newFunctionEnv ?hc ?hl (fun h₁ hns hsb=>⟨hlim.fresh _ hsb,?_⟩) rfl)
 case hc=>
  intro x hx;simp only[List.mem_cons,Yv,or_false] at hx;subst hx;exact fun z=>nomatch z
 case hl=>
  intro x hx;rw[Jt.mp hx];show List.lookup pv [(pv,NameKind.local)]=_;simp
 have hk₁:∀ b o,s.heap.get? b=some o→h₁.get? b=some o:=fun b o e=>hsb.extBut b o (Nat.ne_of_lt (Zs e)) (Ze _ e);refine W.kla_codeExpr ?_;refine Subscript_ (wpAny_Name (wpAny_loadName_local (v:=.ref tp) rfl ?l1 hns ?l2 ?_) hd2)
 case l1=>
  show List.lookup pv [(pv,NameKind.local)]=_;simp
 case l2=>
  show List.lookup pv [(pv,Value.ref tp)]=_;simp
 refine wpAny_Constant_int ?_;refine item_tupleL (l:=its) (j:=0) (x:=.int k tt) ?_ (by decide) (by decide) ?_ hit ?_
 ·obtain⟨o,ho,r⟩:=hl
  exact⟨o,hk₁ _ _ ho,r⟩
 ·cases its with
  | nil=>cases hit
  | cons a r=>
   unfold seqIndex?;simp
   try omega
 ·exact h h₁ _ hk₁
end
section
variable{X:Cx}{pins:List (Addr×Obj)}{σ:St}{H:Hp}{s:Shared}{c P:Addr}{pv:Str}{p p1 p2 p3 pos:Pos}
theorem Zdz{Q:Value→Shared→Prop}{E:Value→Shared→Prop}(I:Inv X pins σ H s)(O:LamOk X c P)(ht:TabSt H P pos (X.env.qual ++ "<lambda>"))
  (hcl:closureFor (Y3 pv) X.env=pure [])
  (h:∀(f c':Addr) (pm ctv:Value) (H2:Hp) (h':Heap) (tk:Nat),Inv X pins σ H2 { s with heap:=h',toks:=tk }→SameT P H H2→Tab2 H2 P pos (X.env.qual ++ "<lambda>")→h'.CodeRec (.ref c') (X.env.qual ++ "<lambda>") →
   h'.get? f=some (W.kla_obj "<lambda>" (X.env.qual ++ "<lambda>") (Yn pv p) (Uo pv p1 p2 p3) (Y3 pv) [] pm c' ctv)→Q (.ref f) { s with heap:=h',toks:=tk }) :
  wpAny (model X.prog X.w) X.A (eval (.Lambda (Yn pv p) (Uo pv p1 p2 p3) (Y3 pv) pos) X.env) Q E s:=by
 refine W.kla_eval rfl ?_;have hg:=I.mod.glob.keeps I.bk;have hPt:∃ ps,H P=some (.tbl ps):=by
  rcases ht with e | ⟨c',_,e,_⟩
  ·exact⟨_,e⟩
  ·exact⟨_,e⟩
 have nP:∀ b o,X.base.get? b=some o→b≠P:=fun b o e z=>by
  obtain⟨ps,e2⟩:=hPt;have:=(I.bs b o e).2;rw[z,e2] at this;cases this
 have hgP:mainGlobals≠P:=by
  obtain⟨o,es,ep,e,_⟩:=I.mod.glob;exact nP _ o e
 have hb:s.heap.BuiltinsAt X.mg P:=by
  obtain⟨bm,ob,b1,b2,b3,b4,b5,b6⟩:=O.bm;refine⟨bm,ob,b1,b2,fun q=>?_,nP _ _ b3,I.bk _ _ b3,b4,b5,b6⟩;obtain⟨o,es,ep,e,hd,_⟩:=I.mod.glob;rw[q,e] at b3;cases b3;rw[hd] at b6;cases b6
 have C:=O.hd.keeps I.bk;rcases ht with e | ht2
 ·have hP:s.heap.get? P=some (W.tabObj #[]):=I.hok P _ e
  refine W.kla_makeFunction (mg:=X.mg) hcl I.ok.glob hg O.code C hP trivial rfl hgP hb fun c' ctv h' tk hx hge hlt hrec htb=>?_;have hcN:H c'=none:=I.hok.fresh hge;have hcP:c'≠P:=fun z=>by rw[z,e] at hcN;cases hcN
  have hLP:X.env.locals≠P:=fun z=>by have:=I.free;rw[z,e] at this;cases this
  have kp:∀ b o,b≠P→s.heap.get? b=some o→(h'.push (W.kla_obj "<lambda>" (X.env.qual ++ "<lambda>") (Yn pv p) (Uo pv p1 p2 p3) (Y3 pv) [] ((X.mg "__name__").getD .none) c' ctv)).get? b=some o:=
   fun b o n q=>Ze _ (hx b o n q)
  have hH2P:upd (upd H P (.tbl (Vf pos c'))) c' (E8 c' (X.env.qual ++ "<lambda>")) P=some (.tbl (Vf pos c')):=by rw[Zu hcP.symm,Zj]
  have hH2:∀ b,b≠P→b≠c'→upd (upd H P (.tbl (Vf pos c'))) c' (E8 c' (X.env.qual ++ "<lambda>")) b=H b:=fun b n1 n2=>by rw[Zu n2,Zu n1]
  have hSm:SameT P H (upd (upd H P (.tbl (Vf pos c'))) c' (E8 c' (X.env.qual ++ "<lambda>"))):=fun b o n q=>by
   rw[hH2 b n (Jb q hcN)];exact q
  have nbP:∀ b,H b=none→b≠P:=fun b n z=>by rw[z,e] at n;cases n
  have nbc:∀ b o,s.heap.get? b=some o→b≠c':=fun b o q=>Nat.ne_of_lt (Z1 (Zs q) hge);have hrec':(h'.push (W.kla_obj "<lambda>" (X.env.qual ++ "<lambda>") (Yn pv p) (Uo pv p1 p2 p3) (Y3 pv) [] ((X.mg "__name__").getD .none) c' ctv)).CodeRec (.ref c') (X.env.qual ++ "<lambda>"):=hrec.push _;refine h h'.objs.size c' _ ctv _ _ tk (I.step (g':=s.gens) (d':=s.drawn) (t':=tk) (ch:=[]) (fun _ z=>nomatch z) (fun b o _ _ _ q n=>kp b o (nbP b n) q) (fun b o _ _ _ q n=>⟨o.slots,kp b o (nbP b n) q⟩)
   (fun b o _ q n=>by rw[hH2 b (nbP b n) (nbc b o q)];exact n) (fun b o _ q=>?_) (fun b xs q=>hSm b _ (fun z=>by rw[z,e] at q;cases q) q) (fun b o u q=>hSm b _ (fun z=>by rw[z,e] at q;cases q) q) (fun b ps q=>?_)
   (fun m hm=>?_) (fun b u q=>?_) I.bare) hSm ⟨c',hcP,hH2P,Zj⟩ hrec' (Heap.get?_push_size _ rfl)
  ·by_cases hbP:b=P
   ·subst hbP
    exact⟨_,Ze _ htb⟩
   ·exact⟨o,kp b o hbP q⟩
  ·by_cases hbP:b=P
   ·subst hbP
    rw[e] at q;cases q;exact⟨Vf pos c',by rw[hH2P];simp⟩
   ·exact⟨#[],by rw[hSm b _ hbP q];simp⟩
  ·obtain⟨o,es,ep,ho,r⟩:=hm
   exact⟨o,es,ep,kp _ o hLP ho,r⟩
  ·by_cases hbc:b=c'
   ·subst hbc
    rw[Zj] at q;cases q;exact Km hrec'
   ·by_cases hbP:b=P
    ·subst hbP
     rw[hH2P] at q;cases q;show Heap.get? _ _=some _;have z:=Ze (W.kla_obj "<lambda>" (X.env.qual ++ "<lambda>") (Yn pv p) (Uo pv p1 p2 p3) (Y3 pv) [] ((X.mg "__name__").getD .none) c' ctv) htb
     simpa using z
    ·rw[hH2 b hbP hbc] at q
     refine(I.hok b u q).stay (fun d v hd r=>kp d v ?_ r) (fun d r=>hSm d _ (fun z=>by rw[z,e] at r;cases r) r) fun d xs r=>hSm d _ (fun z=>by rw[z,e] at r;cases r) r;rcases hd with rfl | hd
     ·exact hbP
     ·intro z
      rw[z,e] at hd;cases hd
 ·obtain⟨c',hcP,e,ec⟩:=ht2
  have hP:s.heap.get? P=some (W.tabObj (Vf pos c')):=I.hok P _ e;have hrec:s.heap.CodeRec (.ref c') (X.env.qual ++ "<lambda>"):=(I.hok c' _ ec).1;refine W.kla_makeFunctionHit (mg:=X.mg) (cv:=.ref c') hcl I.ok.glob hg O.code C hP (by simp [TriplesOk,rawInt]) (by simp [codeAmong,rawInt]) hb fun ctv h' tk hx hge=>?_;have kp:=fun b o q=>Ze (W.kla_obj "<lambda>" (X.env.qual ++ "<lambda>") (Yn pv p) (Uo pv p1 p2 p3) (Y3 pv) [] ((X.mg "__name__").getD .none) c' ctv) (hx b o q);exact h h'.objs.size c' _ ctv H _ tk (I.kept (t':=tk) kp) (fun _ _ _ q=>q) ⟨c',hcP,e,ec⟩ (hrec.keeps kp) (Heap.get?_push_size _ rfl)
end
end L2
namespace L2
open PySem PySem.Spec PyProof.Rows Att
section
variable{X:Cx}{pins:List (Addr×Obj)}{σ:St}{H:Hp}{s:Shared}{c P:Addr}{pv:Str}{p p1 p2 p3 pos:Pos}
theorem Ra:∀{ps:List Addr} {us:List Value},Vals (ps.map V.ref) us→us=ps.map Value.ref
 | [],_,.nil=>rfl
 | a :: ps,_,.cons r rs=>by
  rw[Ra rs];cases r;rfl
theorem Rf:∀(ps:List Addr),Vals (ps.map V.ref) (ps.map Value.ref)
 | []=>.nil
 | a :: ps=>.cons rfl (Rf ps)
theorem Od{Q:VK}{f c' l:Addr}{pm ctv:Value}{qual:Str}{ps:List Addr}{g:Addr→Int}(I:Inv X pins σ H s)(hr:Room 1 X.A)
  (hrec:s.heap.CodeRec (.ref c') qual) (hf:s.heap.get? f=some (W.kla_obj "<lambda>" qual (Yn pv p) (Uo pv p1 p2 p3) (Y3 pv) [] pm c' ctv))
  (hS:SqL X.K H l (ps.map V.ref)) (hT:∀ q∈ps,∃ xs,SqT X.K H q (V.int (g q) :: xs)) (h64:ps.length < 64)
  (hbind:∀ u:Value,bindArgs (W.kla_fn "<lambda>" qual (Yn pv p) (Uo pv p1 p2 p3) (Y3 pv) [] pm (.ref c') ctv) ⟨[u],[]⟩=pure [(pv,u)])
  (hd2:(pv == ("__debug__":Str))=false)
  (q:∀(l:Addr) (qs:List Addr),qs.Perm ps→qs.Pairwise (fun a b=>g a≤g b)→H l=none→Q (.ref l) (upd H l (.lst (qs.map V.ref)))) :
  wpAny (model X.prog X.w) X.A (call (.builtin "sorted") [.ref l] [(Str.ofString "key",.ref f)]) (EP X pins σ Q) X.xe s:=by
 obtain⟨m,hm,_⟩:=id I.loc;obtain⟨its,rv,pl,hz⟩:=I.list hS;have hits:=Ra rv;subst hits;obtain⟨oL,esL,epL,hoL,hdL,rL⟩:=id hm;have nL:∀ b o,s.heap.get? b=some o→(∀ es ep,o.data ≠ .dict es ep)→b≠X.env.locals:=fun b o e d z=>by
  rw[z,hoL] at e;cases e;exact d _ _ hdL
 have N0:News (G8 s.heap) X.env.locals s.heap (Oq s.heap X.env.locals X.env.locals):=fun⟨a,o⟩ hp=>by
  obtain⟨n1,_,e⟩:=mem_ledger.mp hp;exact⟨e,n1,N6 _ _⟩
 refine Sm (kz:=ps.map g) (f:=.ref f) (Zhy hm) N0 pl.isList (by rw[Zi];exact h64) (by rw[Zi,Zi]) (ksk_s1 _ _) (fun x=>ksk_l1 _ _) (fun x=>ksk_t1 f x) (fun i v k hv hk h tk own F' N'=>?_) fun D out ep h' tk F' N' hlt ko=>?_
 ·have kp:∀ b o,s.heap.get? b=some o→b≠X.env.locals→h.get? b=some o:=fun b o e n1=>(N' (b,o) (List.mem_append_left _ (mem_ledger.mpr ⟨n1,n1,e⟩))).1
  rw[Zm] at hv hk;obtain⟨t,ht,rfl⟩:=Option.map_eq_some_iff.mp hv;rw[ht] at hk;have hk':g t=k:=Zn hk;subst hk';obtain⟨xs,hq⟩:=hT t (Zr ht);obtain⟨us,ru,pt,_⟩:=I.tuple hq;obtain⟨wv,ew,rw'⟩:=ru.get (i:=0) (x:=V.int (g t)) rfl;obtain⟨tt,rfl⟩:=rw';have kb:∀ b o,X.base.get? b=some o→h.get? b=some o:=fun b o e=>kp b o (I.bk b o e) (Nat.ne_of_lt (Z1 (Zs e) (Nat.le_trans I.ok.bsz I.ok.above)));refine Zdy (A:=X.A.in1.in1) (s:={ s with heap:=h,toks:=tk }) (its:=us) (k:=g t) (tt:=tt) (tp:=t) ?_ (I.mod.nolimit.keeps kb) (kp _ _ hf (nL _ _ hf (fun _ _ z=>nomatch z))) ?_ ?_ ew hbind hd2 fun h2 tk2 k2=>?_
  ·have:=hr.dp
   show X.A.depth < recursionLimit;omega
  ·obtain⟨c2,o,vs,t3,e,g,hd,r3⟩:=hrec
   exact⟨c2,o,vs,t3,e,kp _ _ g (nL _ _ g (fun _ _ z=>by rw[hd] at z;cases z)),hd,r3⟩
  ·obtain⟨o,ho,hc,ep2,hd⟩:=pt
   exact⟨o,kp _ _ ho (nL _ _ ho (fun _ _ z=>by rw[hd] at z;cases z)),hc,ep2,hd⟩
  ·exact⟨h2,tk2,tt,rfl,rfl,F'.kept k2,N'.grown k2⟩
 ·have kp:∀ b o,s.heap.get? b=some o→b≠X.env.locals→h'.get? b=some o:=fun b o e n1=>(N' (b,o) (Zx _ (mem_ledger.mpr ⟨n1,n1,e⟩))).1
  have hD:=(N' _ (Zw ..)).1;have hDN:H D=none:=by
   cases z:H D with
   | none=>rfl
   | some u=>
    obtain⟨o,e⟩:=ObjOk.obj (I.hok D u z);exact absurd (hlt D o e) (Nat.lt_irrefl _)
  have nD:∀ b o,s.heap.get? b=some o→b≠D:=fun b o e=>Nat.ne_of_lt (hlt b o e);obtain⟨zs,hzp,hzo,hzs⟩:=ko;have ezip:(ps.map g).zip (ps.map Value.ref)=ps.map fun a=>(g a,Value.ref a):=by
   clear hzp hT h64 rv pl hz q hS
   induction ps with
   | nil=>rfl
   | cons a ps ih=>rw[List.map_cons,List.map_cons,List.map_cons,List.zip_cons_cons,ih]
  rw[ezip] at hzp
  let adr:Int×Value→Addr:=fun x=>match x.2 with | .ref a=>a | _=>0
  have hform:∀ x∈zs,x=(g (adr x),Value.ref (adr x)):=fun x hx=>by
   obtain⟨a,_,e⟩:=Z2.mp (hzp.mem_iff.mp hx);rw[← e]
  have ezs:zs=(zs.map adr).map fun a=>(g a,Value.ref a):=by
   rw[Z8]
   conv=>lhs;rw[← List.map_id zs]
   exact Jz fun x hx=>hform x hx
  have hp:(zs.map adr).Perm ps:=by
   have h1:=hzp.map adr;rw[Z8] at h1;have e:(ps.map (adr ∘ fun a=>(g a,Value.ref a)))=ps:=List.map_id'' (fun a=>rfl) ps;rw[e] at h1;exact h1
  have hpw:(zs.map adr).Pairwise (fun a b=>g a≤g b):=by
   rw[ezs] at hzs;rw[List.pairwise_map] at hzs;exact hzs.imp fun h=>by simpa using h
  have hout:out.toList=(zs.map adr).map Value.ref:=by
   rw[hzo]
   conv=>lhs;rw[ezs]
   rw[Z8];rfl
  have hv:Vals ((zs.map adr).map V.ref) out.toList:=by rw[hout];exact Rf _
  have hl:(zs.map adr).length=ps.length:=hp.length_eq;have nLH:∀ b u,H b=some u→b≠X.env.locals:=fun b u e z=>by have:=I.free;rw[← z,e] at this;cases this
  generalize zs.map adr=qs at hp hpw hv hl;refine⟨.ref D,_,I.step (g':=s.gens) (d':=s.drawn) (t':=tk) (ch:=[]) (H':=upd H D (.lst (qs.map V.ref))) (fun _ z=>nomatch z) (fun b o n1 _ _ e _=>kp b o e n1) (fun b o n1 _ _ e _=>⟨o.slots,kp b o e n1⟩)
   (fun b o _ e n=>by rw[Zu (nD b o e)];exact n) (fun b o _ e=>?_) (fun b xs e=>by rw[Zu (Jb e hDN)];exact e) (fun b o u e=>by rw[Zu (Jb e hDN)];exact e)
   (fun b ps e=>⟨#[],by rw[Zu (Jb e hDN),e];simp⟩) (fun m' hm'=>?_) (fun b u e=>?_) I.bare,rfl,q D qs hp hpw hDN⟩
  ·by_cases hb:b=X.env.locals
   ·obtain⟨o',es,ep2,ho,_⟩:=F'.ns
    exact⟨o',by rw[hb];exact ho⟩
   ·exact⟨o,kp b o e hb⟩
  ·rw[← Zlj hm hm']
   exact F'.ns
  ·by_cases hb:b=D
   ·subst hb
    rw[Zj] at e;cases e;exact⟨by rw[Zi,hl,sizeLine_eq];omega,out.toList,ep,hv,by simpa using hD⟩
   ·rw[Zu hb] at e
    refine(I.hok b u e).stay (fun d v hd r=>kp d v r ?_) (fun d r=>by rw[Zu (Jb r hDN)];exact r) fun d xs r=>by rw[Zu (Jb r hDN)];exact r
    rcases hd with rfl | hd
    ·exact nLH _ _ e
    ·exact nLH _ _ hd
end
def Zcy(K:W.Frag)(P:Addr)(pos:Pos)(qual:Str)(t:TA):TE:=fun σ H Q=>t σ H fun vs H1=>∃(l:Addr) (ps:List Addr) (g:Addr→Int),vs=[.ref l]∧SqL K H1 l (ps.map V.ref)∧(∀ q∈ps,∃ xs,SqT K H1 q (V.int (g q) :: xs))∧ps.length < 64 ∧
 TabSt H1 P pos qual∧∀(H2:Hp) (l:Addr) (qs:List Addr),SameT P H1 H2→Tab2 H2 P pos qual→qs.Perm ps→qs.Pairwise (fun a b=>g a≤g b)→H2 l=none→Q (.ref l) (upd H2 l (.lst (qs.map V.ref)))
section
variable{X:Cx}{c P:Addr}{pv:Str}{p p1 p2 p3 pos np cpos kp:Pos}{e:Expr}{t:TA}
theorem An(O:LamOk X c P)(hr:Room 1 X.A)(hg:Gl X "sorted")(hm:X.mg "sorted" = none)(ha:PA X [e] t)
  (hd2:(pv == ("__debug__":Str))=false:=by decide)
  (hbind:∀(q:Str) (pm ctv:Value) (c':Addr) (u:Value),bindArgs (W.kla_fn "<lambda>" q (Yn pv p) (Uo pv p1 p2 p3) (Y3 pv) [] pm (.ref c') ctv) ⟨[u],[]⟩=pure [(pv,u)]:=by intros;rfl)
  (hcl:closureFor (Y3 pv) X.env=pure []:=by rfl)
  (he:backTo cpos (starEach [e] X.env)=(false,eval e X.env) :: backTo cpos (starEach [] X.env):=by rfl) (hpl:(backTo cpos (starEach [e] X.env)).any (·.1)=false:=by rfl) :
  PE X (.Call (.Name "sorted" np) [e] [⟨some "key",.Lambda (Yn pv p) (Uo pv p1 p2 p3) (Y3 pv) pos,kp⟩] cpos) (Zcy X.K P pos (X.env.qual ++ "<lambda>") t):=by
 intro pins s σ H Q I h;refine wpAny_Call_Name_kw (N8 I hg hm (show bootBuiltins "sorted" = some (.builtin "sorted") from by kernel_rfl) ?_);refine callWith_kw (Y5 (ha cpos pins s σ H _ I h) fun us s1 ⟨vs,H1,I1,r1,q1⟩=>?_) he hpl rfl rfl;obtain⟨l,ps,g,rfl,hS,hT0,h64,hT,q⟩:=q1;obtain⟨ur,rfl,rr⟩:=Xc r1;cases rr;show wpAny _ _ (evalAll ((do let v ← eval (.Lambda (Yn pv p) (Uo pv p1 p2 p3) (Y3 pv) pos) X.env;standAt cpos;pure v) :: [])) _ _ s1;refine wpAny_evalAll_cons (Zc (Zdz I1 O hT hcl fun f c' pm ctv H2 h' tk I2 sm t2 hrec hf=>Zc (wpAny_standAt (wpAny_pure (wpAny_evalAll_nil ?_)))));have nP:∀ b o,H1 b=some o→(∀ ps,o ≠ .tbl ps)→H2 b=some o:=fun b o e d=>sm b o (fun z=>by
  rcases hT with e2 | ⟨_,_,e2,_⟩
  ·rw[z,e2] at e;exact d _ (Zn e).symm
  ·rw[z,e2] at e;exact d _ (Zn e).symm) e
 have hS2:SqL X.K H2 l (ps.map V.ref):=by
  rcases hS with(e | ⟨o,e⟩) | e
  ·exact .inl (.inl (nP _ _ e (fun _ z=>nomatch z)))
  ·exact .inl (.inr ⟨o,nP _ _ e (fun _ z=>nomatch z)⟩)
  ·exact .inr e
 have hT2:∀ q∈ps,∃ xs,SqT X.K H2 q (V.int (g q) :: xs):=fun q hq=>by
  obtain⟨xs,h⟩:=hT0 q hq;refine⟨xs,?_⟩;rcases h with(e | ⟨o,e⟩) | e
  ·exact .inl (.inl (nP _ _ e (fun _ z=>nomatch z)))
  ·exact .inl (.inr ⟨o,nP _ _ e (fun _ z=>nomatch z)⟩)
  ·exact .inr e
 exact Od I2 hr hrec hf hS2 hT2 h64 (fun u=>hbind _ _ _ _ u) hd2 fun l qs hp hw hl=>q H2 l qs sm t2 hp hw hl
end
end L2
namespace L2
open PySem PySem.Spec PyProof.Rows
def SameX(H H':Hp):Prop:=∀ c o,(∀ ps,o≠HO.tbl ps)→H c=some o→H' c=some o
theorem Same.x{H H':Hp}(s:Same H H'):SameX H H':=fun c o _ h=>s c o h
theorem SameT.x{P:Addr}{H H1:Hp}{pos:Pos}{q:Str}(s:SameT P H H1)(t:TabSt H P pos q):SameX H H1:=fun c o n h=>s.keep t h n
theorem SameX.trans{H H1 H2:Hp}(a:SameX H H1)(b:SameX H1 H2):SameX H H2:=fun c o n h=>b c o n (a c o n h)
theorem SameX.seq{K:W.Frag}{H H1:Hp}(s:SameX H H1){a:Addr}{xs:List V}(h:SqL K H a xs):SqL K H1 a xs:=by
 rcases h with(e | ⟨o,e⟩) | e
 ·exact .inl (.inl (s _ _ (fun _ z=>nomatch z) e))
 ·exact .inl (.inr ⟨o,s _ _ (fun _ z=>nomatch z) e⟩)
 ·exact .inr e
end L2
namespace My
open PySem L2
section
variable{P:Program}{w:World}{K:W.Frag}{mg:Str→Option Value}{base:Heap}{f g:Addr}{fd gd:FuncData}
structure PyM(P:Program)(w:World)(K:W.Frag)(mg:Str→Option Value)(base:Heap)(k:Nat)(CP:Addr)(m:Str)(sp:Sp)(a:Addr)(e:FuncData):Prop where
 me:Meth K CP m a
 ok:FnOk P w K mg base Y4 k a e ["self"] sp
 bd:Binds K e ["self"] []
def Seen(H:Hp)(e nl:Addr)(fx:Fx)(t:Option Nat)(hs:List Nat)(lead m:Nat)(ys row came:List Nat)(w:Nat):Prop:=
 ∃ v,H e=some (.tup [.int (w:Nat),v])∧((w=0∧∃ p,v = .ref p∧IsPl H p hs lead ys)∨(w=1∧v=X2 fx lead ys m)∨(∃ l xs,v = .ref l∧l≠nl∧H l=some (.lst (vN xs))∧((w=2∧xs=Bu fx t hs lead ys m)∨(w=3∧xs=(List.range fx.n).map fun s=>came.count s)∨(w=4∧xs=row))))
section
variable{H H':Hp}{e nl:Addr}{fx:Fx}{t:Option Nat}{hs:List Nat}{lead m:Nat}{ys row came:List Nat}{w:Nat}
theorem Seen.k(h:Seen H e nl fx t hs lead m ys row came w)(s:∀ c o,c≠nl→(∀ ps,o≠HO.tbl ps)→H c=some o→H' c=some o)(hn:∀ xs,H nl≠some (.tup xs)):Seen H' e nl fx t hs lead m ys row came w:=by
 have st:∀ c xs,H c=some (.tup xs)→H' c=some (.tup xs):=fun c xs h=>s c _ (fun z=>hn xs (by rw[← z];exact h)) (fun _ z=>nomatch z) h;obtain⟨v,he,h⟩:=h;refine⟨v,st _ _ he,?_⟩;rcases h with⟨w0,p,ev,a,b,h1,h2,h3⟩ | h | ⟨l,xs,ev,nl,hl,h⟩
 ·exact .inl ⟨w0,p,ev,a,b,st _ _ h1,st _ _ h2,st _ _ h3⟩
 ·exact .inr (.inl h)
 ·exact .inr (.inr ⟨l,xs,ev,nl,s _ _ nl (fun _ z=>nomatch z) hl,h⟩)
end
abbrev qL:Str:="_law_looks.<locals>." ++ "<lambda>"
def Mb(H:Hp)(e:Addr):Int:=match H e with | some (.tup (.int i :: _))=>i | _=>0
def Ds(CT CG CP PL:Addr):Sp:=fun vs H Q _=>∃(x gm gx lc lk:Addr) (t:Option Nat) (fx:Fx) (hs0:List Nat) (lead0:Nat) (hs:List Nat) (lead m:Nat) (ys row came:List Nat) (cell:Int),vs=[.ref x,.int cell]∧K1 t∧IsPy CP H x gm lc lk hs0 lead0 hs lead ys row came∧GamH CT CG fx t H gm gx∧Plc fx hs lead ys m∧TabSt H PL Ak qL ∧
 ∀ l nl (qs:List Addr) H',SameX H H'→Tab2 H' PL Ak qL→H' l=some (.lst (qs.map V.ref))→qs.length=5→(∀ j q,qs[j]? = some q→Seen H' q nl fx t hs lead m ys row came j)→Q (.ref l) H'
abbrev G1:List Str:=["_law_play","_law_cell_here"]
abbrev Zha:List Str:=["_law_play","_law_cell_here","_law_some","_law_k","_law_way"]
theorem scLooks:FnScope Zha G1 (Zp N1):=⟨rfl,rfl,rfl,by decide +kernel,rfl,by decide +kernel,by decide +kernel⟩
theorem Zd6(c:Int){ks:List Nat}(hp:ks.Perm ((List.range 5).map fun k=>((c+((k:Nat):Int)) % 5).toNat))(hw:ks.Pairwise (·≤·)):ks=[0,1,2,3,4]:=by
 have r0:=Yz c (show(5:Int)≠0 by decide);have r1:=Yi c (show(0:Int) < 5 by decide);have e:∀ k:Nat,((c+((k:Nat):Int)) % 5).toNat=((c % 5).toNat+k) % 5:=fun k=>by omega
 have all:∀ d < 5,((List.range 5).map fun k=>(d+k) % 5).Nodup∧∀ i,i∈((List.range 5).map fun k=>(d+k) % 5)↔i∈[0,1,2,3,4]:=by
  intro d hd
  match d,hd with
  | 0,_=>exact⟨by decide,fun i=>by simp [List.range,List.range.loop]⟩
  | 1,_=>exact⟨by decide,fun i=>by simp [List.range,List.range.loop];omega⟩
  | 2,_=>exact⟨by decide,fun i=>by simp [List.range,List.range.loop];omega⟩
  | 3,_=>exact⟨by decide,fun i=>by simp [List.range,List.range.loop];omega⟩
  | 4,_=>exact⟨by decide,fun i=>by simp [List.range,List.range.loop];omega⟩
 have el:((List.range 5).map fun k=>((c+((k:Nat):Int)) % 5).toNat)=((List.range 5).map fun k=>((c % 5).toNat+k) % 5):=Jz fun k _=>e k;rw[el] at hp;obtain⟨nd,mem⟩:=all (c % 5).toNat (by omega);have nk:ks.Nodup:=hp.nodup_iff.mpr nd;refine Rt ?_ (by decide) fun i=>(hp.mem_iff).trans (mem i);exact hw.imp₂ (fun a b h1 h2=>Nat.lt_of_le_of_ne h1 h2) nk
theorem Zgy{k:Nat}{CT CG CP c PL aP aT aM aK aY:Addr}{eP eT eM eK eY:FuncData}(F:Fun K "_law_looks" "_law_looks" N1 f fd)(hc:fd.code = .ref c)(hB:Kz mg base)(hH:W.CodeHd base c PL)(C:PlyC K mg CP)(MP:PyM P w K mg base (k+1) CP "place" (Vi CP) aP eP)(MT:PyM P w K mg base (k+1) CP "turn" (Eo CT CG CP) aT eT)(MM:PyM P w K mg base (k+1) CP "may" (Be CT CG CP) aM eM)(MK:PyM P w K mg base (k+1) CP "taken" (Vh CT CG CP) aK eK)(MY:PyM P w K mg base (k+1) CP "played" (Nv CP) aY eY)(mr:mg "range" = none)(mS:mg "sorted" = none) :
  FnOk P w K mg base Y4 (k+2) f fd G1 (Ds CT CG CP PL):=by
 refine F.okC hc scLooks (fun vs H Q E h=>?_) (fun A outer s H vs Q E hr h=>?_)
 ·obtain⟨x,gm,gx,lc,lk,t,fx,hs0,lead0,hs,lead,m,ys,row,came,cell,rfl,_⟩:=h
  rfl
 obtain⟨x,gm,gx,lc,lk,t,fx,hs0,lead0,hs,lead,m,ys,row,came,cell,rfl,tb,Py,G,Pl,hT,q⟩:=h;have O:LamOk (Qk Y4 P w K mg base Zha "_law_looks" (Zp N1) f (.ref c) A outer s H E).nox c PL:=⟨rfl,hH,hB⟩;refine⟨_,Zg (Z4 (i:=2) scLooks.nd rfl (Or.inl rfl) (U0 Zh))
  (Zg (X0 PassesOwn.never rfl (Uy rfl mr (Za Zl Zh)) (Jr (i:=3) scLooks.nd rfl (Or.inl rfl))
   (Zg (Z4 (i:=4) scLooks.nd rfl (Or.inl rfl) (Z0 Yg (Z0 Yq (pv 1) (pv 3)) Zl))
   (Zq (Ju (Z7 Uc (pv 4) Zl (Jd _)) (Zq (Xn (U5 Ja Jp Jo Ud (pv 2) (Za (Y2 (Za Zl (Za (Uv (pv 0) C.cl MP.me MP.ok hr MP.bd .nil Jh) Zh))) Zh))))
    (Zq (Ju (Z7 Uc (pv 4) Zl (Jd _)) (Zq (Xn (U5 Ja Jp Jo Ud (pv 2) (Za (Y2 (Za Zl (Za (Uv (pv 0) C.cl MT.me MT.ok hr MT.bd .nil Jh) Zh))) Zh))))
    (Zq (Ju (Z7 Uc (pv 4) Zl (Jd _)) (Zq (Xn (U5 Ja Jp Jo Ud (pv 2) (Za (Y2 (Za Zl (Za (Uv (pv 0) C.cl MM.me MM.ok hr MM.bd .nil Jh) Zh))) Zh))))
    (Zq (Ju (Z7 Uc (pv 4) Zl (Jd _)) (Zq (Xn (U5 Ja Jp Jo Ud (pv 2) (Za (Y2 (Za Zl (Za (Uv (pv 0) C.cl MK.me MK.ok hr MK.bd .nil Jh) Zh))) Zh))))
    (Zq (Xn (U5 Ja Jp Jo Ud (pv 2) (Za (Y2 (Za Zl (Za (Uv (pv 0) C.cl MY.me MY.ok hr MY.bd .nil Jh) Zh))) Zh))))))))))))))
  (Zq (Z6 (An O (hr.mono (by omega)) rfl mS (Za (pv 2) Zh))))),?_⟩
 have z1000:=Jl 1000 (by decide);obtain⟨dx,fs,pb,pn,hx,A1,hpb,hpn⟩:=id Py.o;refine Yk (fun v H1=>∃ l,v = .ref l∧Same H H1∧H l=none∧H1 l=some (.lst [])) (fun R hR=>⟨Jl 0 (by decide),fun l hl=>hR _ _ ⟨l,rfl,Zy hl _,hl,Zj⟩⟩) (fun v H1 z=>?_);obtain⟨l,rfl,s1,nl,hl1⟩:=z;refine⟨(5:Int),rfl,by omega,by omega,?_⟩;refine X9 (n:=5) (fun i σ H'=>Same H H'∧∃(es:List Addr) (x3 x4:Option V),es.length=i∧σ=[some (.ref x),some (.int cell),some (.ref l),x3,x4]∧H' l=some (.lst (es.map V.ref))∧∀ j e,es[j]? = some e→Seen H' e l fx t hs lead m ys row came ((cell+((j:Nat):Int)) % 5).toNat) ⟨s1,[],none,none,rfl,rfl,hl1,fun _ _ h=>nomatch h⟩ (fun i σ H2 hi z=>?_) (fun σ H2 z=>?_)
 ·obtain⟨s2,es,x3,x4,le,rfl,hl2,he⟩:=z
  have hw5:((cell+((i:Nat):Int)) % 5).toNat < 5:=by omega
  refine Yk (fun v H'=>H2=H'∧v = .int ((((cell+((i:Nat):Int)) % 5).toNat:Nat):Int)) (fun R hR=>⟨_,rfl,_,rfl,_,_,rfl,rfl,_,_,rfl,rfl,(show(0:Int) < 5 by decide),hR _ _ ⟨rfl,?_⟩⟩) (fun v H' z=>?_)
  ·show V.int ((cell+(0+((i:Nat):Int))) % 5)=_
   rw[Int.zero_add]
   congr 1
   omega
  obtain⟨rfl,rfl⟩:=z;generalize ew:((cell+((i:Nat):Int)) % 5).toNat=w at hw5 ⊢;have hnt:∀(H5:Hp),H5 l=some (.lst (es.map V.ref))→∀ xs,H5 l≠some (.tup xs):=fun H5 h xs z=>by
   rw[h] at z;cases z
  have fin:∀(H3:Hp) (tz:Addr) (v:V),Same H2 H3→H3 tz=none→Seen (upd H3 tz (.tup [.int ((w:Nat):Int),v])) tz l fx t hs lead m ys row came w→Same H (upd (upd H3 tz (.tup [.int ((w:Nat):Int),v])) l (.lst (es.map V.ref++[.ref tz])))∧∃(es':List Addr) (x3 x4:Option V),es'.length=i+1∧[some (V.ref x),some (V.int cell),some (V.ref l),some (V.int (0+((i:Nat):Int))),some (V.int ((w:Nat):Int))]=[some (V.ref x),some (V.int cell),some (V.ref l),x3,x4]∧(upd (upd H3 tz (.tup [.int ((w:Nat):Int),v])) l (.lst (es.map V.ref++[.ref tz]))) l=some (.lst (es'.map V.ref))∧∀ j e,es'[j]? = some e→Seen (upd (upd H3 tz (.tup [.int ((w:Nat):Int),v])) l (.lst (es.map V.ref++[.ref tz]))) e l fx t hs lead m ys row came ((cell+((j:Nat):Int)) % 5).toNat:=fun H3 tz v s3 htz sn=>by
   have a4:=Zy htz (.tup [.int ((w:Nat):Int),v]);have hl4:=a4 _ _ (s3 _ _ hl2);generalize upd H3 tz (.tup [.int ((w:Nat):Int),v])=H4 at a4 hl4 sn ⊢;refine⟨fun b o h=>by rw[Zu (Jb h nl)];exact a4 _ _ (s3 _ _ (s2 _ _ h)),es++[tz],_,_,by rw[Z3,le];rfl,rfl,by rw[Zj,J3];rfl,fun j e hj=>?_⟩;by_cases c:j < es.length
   ·rw[Ym c] at hj
    exact(he j e hj).k (fun c o n _ h=>by rw[Zu n];exact a4 _ _ (s3 _ _ h)) (hnt H2 hl2)
   ·rw[Yh (by omega)] at hj
    have j0:j - es.length=0:=by
     have:=(Zt.mp hj).1;rw[List.length_singleton] at this;omega
    rw[j0] at hj;have ee:tz=e:=Zn hj;have ej:j=i:=by omega
    subst ee ej;rw[ew];exact sn.k (fun c o n _ h=>by rw[Zu n];exact h) (hnt H4 hl4)
  have hx2:=s2 _ _ hx;have Py2:=Py.same s2;have G2:=G.same s2;refine⟨_,rfl,rfl,_,rfl,Xu (Vx (r:=w) (n:=0) (i:=0) rfl) ?_⟩;by_cases w0:w=0
  ·subst w0
   rw[Zf rfl];refine Ub ⟨_,rfl,.inl ⟨rfl,_,SqL.of hl2⟩,_,rfl,x,dx,_,rfl,hx2,A1.nm _ (by decide +kernel),x,gm,lc,lk,hs0,lead0,hs,lead,ys,row,came,rfl,Py2,fun p hp=>⟨Jl 2 (by decide),fun tz htz=>⟨l,_,_,rfl,rfl,Zy htz _ _ _ hl2,by rw[Zi];omega,?_⟩⟩⟩;exact fin H2 tz (.ref p) (Same.refl H2) htz ⟨_,Zj,.inl ⟨rfl,p,rfl,hp.same (Zy htz _)⟩⟩
  rw[Zd w0];refine J9 ⟨_,rfl,rfl,_,rfl,Xu (Vx (r:=w) (n:=1) (i:=1) rfl) ?_⟩;by_cases w1:w=1
  ·subst w1
   rw[Zf rfl];refine Ub ⟨_,rfl,.inl ⟨rfl,_,SqL.of hl2⟩,_,rfl,x,dx,_,rfl,hx2,A1.nm _ (by decide +kernel),x,gm,gx,lc,lk,t,fx,hs0,lead0,hs,lead,m,ys,row,came,rfl,Py2,G2,Pl,fun H3 s3=>⟨Jl 2 (by decide),fun tz htz=>⟨l,_,_,rfl,rfl,Zy htz _ _ _ (s3 _ _ hl2),by rw[Zi];omega,?_⟩⟩⟩;exact fin H3 tz _ s3 htz ⟨_,Zj,.inr (.inl ⟨rfl,rfl⟩)⟩
  rw[Zd w1];have nll:∀{l':Addr},H2 l'=none→l'≠l:=fun h z=>by rw[z,hl2] at h;cases h
  refine J9 ⟨_,rfl,rfl,_,rfl,Xu (Vx (r:=w) (n:=2) (i:=2) rfl) ?_⟩;by_cases w2:w=2
  ·subst w2
   rw[Zf rfl];refine Ub ⟨_,rfl,.inl ⟨rfl,_,SqL.of hl2⟩,_,rfl,x,dx,_,rfl,hx2,A1.nm _ (by decide +kernel),x,gm,gx,lc,lk,t,fx,hs0,lead0,hs,lead,m,ys,row,came,rfl,tb,Py2,G2,Pl,fun l' H3 s3 hl' hL'=>⟨Jl 2 (by decide),fun tz htz=>⟨l,_,_,rfl,rfl,Zy htz _ _ _ (s3 _ _ hl2),by rw[Zi];omega,?_⟩⟩⟩;exact fin H3 tz _ s3 htz ⟨_,Zj,.inr (.inr ⟨l',_,rfl,nll hl',Zy htz _ _ _ hL',.inl ⟨rfl,rfl⟩⟩)⟩
  rw[Zd w2];refine J9 ⟨_,rfl,rfl,_,rfl,Xu (Vx (r:=w) (n:=3) (i:=3) rfl) ?_⟩;by_cases w3:w=3
  ·subst w3
   rw[Zf rfl];refine Ub ⟨_,rfl,.inl ⟨rfl,_,SqL.of hl2⟩,_,rfl,x,dx,_,rfl,hx2,A1.nm _ (by decide +kernel),x,gm,gx,lc,lk,t,fx,hs0,lead0,hs,lead,ys,row,came,rfl,Py2,G2,fun l' H3 s3 hl' hL'=>⟨Jl 2 (by decide),fun tz htz=>⟨l,_,_,rfl,rfl,Zy htz _ _ _ (s3 _ _ hl2),by rw[Zi];omega,?_⟩⟩⟩;exact fin H3 tz _ s3 htz ⟨_,Zj,.inr (.inr ⟨l',_,rfl,nll hl',Zy htz _ _ _ hL',.inr (.inl ⟨rfl,rfl⟩)⟩)⟩
  rw[Zd w3];have w4:w=4:=by omega
  subst w4;refine J9 ⟨_,rfl,.inl ⟨rfl,_,SqL.of hl2⟩,_,rfl,x,dx,_,rfl,hx2,A1.nm _ (by decide +kernel),x,gm,lc,lk,hs0,lead0,hs,lead,ys,row,came,rfl,Py2,fun l' H3 s3 hl' hL'=>⟨Jl 2 (by decide),fun tz htz=>⟨l,_,_,rfl,rfl,Zy htz _ _ _ (s3 _ _ hl2),by rw[Zi];omega,?_⟩⟩⟩;exact fin H3 tz _ s3 htz ⟨_,Zj,.inr (.inr ⟨l',_,rfl,nll hl',Zy htz _ _ _ hL',.inr (.inr ⟨rfl,rfl⟩)⟩)⟩
 ·obtain⟨s2,es,x3,x4,le,rfl,hl2,he⟩:=z
  refine nxE ?_;have ke:∀(j:Nat) (e:Addr),es[j]? = some e→Mb H2 e=(((cell+((j:Nat):Int)) % 5).toNat:Int)∧∃ v,H2 e=some (.tup [.int (Mb H2 e),v]):=fun j e hj=>by
   obtain⟨v,h1,_⟩:=he j e hj;have k1:Mb H2 e=(((cell+((j:Nat):Int)) % 5).toNat:Int):=by unfold Mb;rw[h1]
   exact⟨k1,v,by rw[k1];exact h1⟩
  refine⟨_,rfl,l,es,Mb H2,rfl,SqL.of hl2,fun e hm=>?_,by omega,hT.same s2,fun H3 l3 qs sm t3 hp hw hl3=>?_⟩
  ·obtain⟨j,hj,rfl⟩:=Jv.mp hm
   obtain⟨_,v,h⟩:=ke j _ (Zb hj);exact⟨[v],SqT.of h⟩
  have ek:es.map (fun e=>(Mb H2 e).toNat)=(List.range 5).map fun k=>((cell+((k:Nat):Int)) % 5).toNat:=by
   apply Xr;intro j;rw[Zm,Zm];by_cases hj:j < 5
   ·have hj':j < es.length:=by omega
    rw[Zb hj',List.getElem?_range hj];obtain⟨k1,_⟩:=ke j _ (Zb hj');show some (Mb H2 es[j]).toNat=some _;rw[k1,Zv]
   ·rw[List.getElem?_eq_none (by omega),List.getElem?_eq_none (by rw[J4];omega)]
    rfl
  have kq:qs.map (fun e=>(Mb H2 e).toNat)=[0,1,2,3,4]:=by
   refine Zd6 cell ?_ ?_
   ·rw[← ek]
    exact hp.map _
   ·rw[List.pairwise_map]
    exact hw.imp fun h=>by omega
  have sX:SameX H2 H3:=SameT.x sm (hT.same s2);have a4:=Zy hl3 (.lst (qs.map V.ref));have lq:qs.length=5:=by rw[hp.length_eq,le]
  refine q l3 l qs _ ((s2.x.trans sX).trans a4.x) (t3.same a4) Zj lq fun j q0 hj=>?_;obtain⟨i,hi,ei⟩:=Jv.mp (hp.mem_iff.mp (Zr hj));have hi':es[i]? = some q0:=by rw[Zb hi,ei]
  have sn:=he i q0 hi';obtain⟨k1,_⟩:=ke i q0 hi';have kj:(Mb H2 q0).toNat=j:=by
   have z:(qs.map (fun e=>(Mb H2 e).toNat))[j]? = ([0,1,2,3,4]:List Nat)[j]?:=by rw[kq]
   rw[Zm,hj] at z;have hj5:j < 5:=by rw[← lq];exact(Zt.mp hj).1
   match j,hj5,z with
   | 0,_,z=>exact Zn z
   | 1,_,z=>exact Zn z
   | 2,_,z=>exact Zn z
   | 3,_,z=>exact Zn z
   | 4,_,z=>exact Zn z
  rw[k1,Zv] at kj;rw[kj] at sn;exact sn.k (fun c o _ n h=>a4 _ _ (sX c o n h)) (fun xs z=>by rw[hl2] at z;cases z)
section
variable{H H2 H3 HB:Hp}{l:List Addr}{b:Addr}{o:HO}
end
theorem Zke{f:Fx}{t:Option Nat}{ys cs:List Nat}(up:cs.Pairwise (· < ·))(c32:∀ c∈cs,c < 32):∀ c∈Xw f t ys (hN cs),c∈cs:=by
 rw[Zal up c32];split
 ·exact fun c h=>h
 ·exact O1 _ _ _ _ _
section
variable{CP gm:Addr}{fx:Fx}{t:Option Nat}{sz:Nat}{H H':Hp}
theorem IsPl.x{p:Addr}{hs ys:List Nat}{lead:Nat}(h:IsPl H p hs lead ys)(s:SameX H H'):IsPl H' p hs lead ys:=by
 obtain⟨a,b,h1,h2,h3⟩:=h;exact⟨a,b,s _ _ (fun _ z=>nomatch z) h1,s _ _ (fun _ z=>nomatch z) h2,s _ _ (fun _ z=>nomatch z) h3⟩
theorem IsPy.x{x lc lk:Addr}{hs0 hs ys row came:List Nat}{lead0 lead:Nat}(h:IsPy CP H x gm lc lk hs0 lead0 hs lead ys row came)(s:SameX H H'):IsPy CP H' x gm lc lk hs0 lead0 hs lead ys row came:=by
 obtain⟨⟨dx,fs,pb,pn,a,b,c,d⟩,e,f,g⟩:=h;exact⟨⟨dx,fs,pb,pn,s _ _ (fun _ z=>nomatch z) a,b,c.x s,d.x s⟩,s _ _ (fun _ z=>nomatch z) e,s _ _ (fun _ z=>nomatch z) f,g⟩
theorem IsSt.x{st:Addr}{css:List (List Nat)}{lead:Nat}{ys:List Nat}(h:IsSt H st css lead ys)(s:SameX H H'):IsSt H' st css lead ys:=by
 obtain⟨lc,lt,as,a,b,c,d⟩:=h;exact⟨lc,lt,as,s _ _ (fun _ z=>nomatch z) a,s _ _ (fun _ z=>nomatch z) b,⟨c.1,fun j a e=>let ⟨cs,x,y⟩:=c.2 j a e;⟨cs,x,s _ _ (fun _ z=>nomatch z) y⟩⟩,s _ _ (fun _ z=>nomatch z) d⟩
theorem IsRu.x{d:Addr}(h:IsRu H d fx t sz)(s:SameX H H'):IsRu H' d fx t sz:=by
 obtain⟨lp,lh,a,b,c⟩:=h;exact⟨lp,lh,s _ _ (fun _ z=>nomatch z) a,s _ _ (fun _ z=>nomatch z) b,s _ _ (fun _ z=>nomatch z) c⟩
theorem GamH.x{CT CG gx:Addr}(h:GamH CT CG fx t H gm gx)(s:SameX H H'):GamH CT CG fx t H' gm gx:=by
 obtain⟨ok,⟨dg,hg⟩,⟨dx,po,to,a,b,c⟩⟩:=h;exact⟨ok,⟨dg,s _ _ (fun _ z=>nomatch z) hg⟩,⟨dx,po,to,s _ _ (fun _ z=>nomatch z) a,s _ _ (fun _ z=>nomatch z) b,s _ _ (fun _ z=>nomatch z) c⟩⟩
end
section
variable{H H':Hp}{e e' nl nl':Addr}{fx:Fx}{t:Option Nat}{hs:List Nat}{lead m:Nat}{ys row came:List Nat}{w:Nat}
theorem Seen.x(h:Seen H e nl fx t hs lead m ys row came w)(s:SameX H H'):Seen H' e nl fx t hs lead m ys row came w:=by
 obtain⟨v,he,h⟩:=h;refine⟨v,s _ _ (fun _ z=>nomatch z) he,?_⟩;rcases h with⟨w0,p,ev,hp⟩ | h | ⟨l,xs,ev,nl,hl,h⟩
 ·exact .inl ⟨w0,p,ev,hp.x s⟩
 ·exact .inr (.inl h)
 ·exact .inr (.inr ⟨l,xs,ev,nl,s _ _ (fun _ z=>nomatch z) hl,h⟩)
theorem Zct:U3 (X2 fx lead ys m)=true:=by
 unfold X2;split<;>rfl
theorem Zeb{K:W.Frag}(h:Seen H e nl fx t hs lead m ys row came w)(h':Seen H e' nl' fx t hs lead m ys row came w):DeepEq K H 3 (.ref e) (.ref e'):=by
 obtain⟨v,he,h⟩:=h;obtain⟨v',he',h'⟩:=h';refine .tup (SqT.of he) (SqT.of he') rfl fun j hj=>?_
 match j,hj with
 | 0,_=>exact .flat rfl
 | 1,_=>
  show DeepEq K H 2 v v';rcases h with⟨w0,p,rfl,hp⟩ | ⟨w1,rfl⟩ | ⟨l,xs,rfl,_,hl,h⟩
  ·rcases h' with⟨_,p',rfl,hp'⟩ | ⟨w1,_⟩ | ⟨_,_,_,_,_,⟨w1,_⟩ | ⟨w1,_⟩ | ⟨w1,_⟩⟩
   ·exact Zkv hp hp'
   all_goals omega
  ·rcases h' with⟨w2,_⟩ | ⟨_,rfl⟩ | ⟨_,_,_,_,_,⟨w2,_⟩ | ⟨w2,_⟩ | ⟨w2,_⟩⟩
   ·omega
   ·exact .flat Zct
   all_goals omega
  ·rcases h' with⟨w2,_⟩ | ⟨w2,_⟩ | ⟨l',xs',rfl,_,hl',h'⟩
   ·rcases h with⟨w1,_⟩ | ⟨w1,_⟩ | ⟨w1,_⟩<;>omega
   ·rcases h with⟨w1,_⟩ | ⟨w1,_⟩ | ⟨w1,_⟩<;>omega
   ·have ex:xs=xs':=by
     rcases h with⟨w1,rfl⟩ | ⟨w1,rfl⟩ | ⟨w1,rfl⟩<;>rcases h' with⟨w2,rfl⟩ | ⟨w2,rfl⟩ | ⟨w2,rfl⟩<;>first | rfl | omega
    subst ex;exact Zh9 hl hl'
theorem Zay{K:W.Frag}{l l':Addr}{qs qs':List Addr}(hl:H l=some (.lst (qs.map V.ref)))(hl':H l'=some (.lst (qs'.map V.ref)))(lq:qs.length=5)(lq':qs'.length=5)
  (h:∀ j q,qs[j]? = some q→Seen H q nl fx t hs lead m ys row came j) (h':∀ j q,qs'[j]? = some q→Seen H q nl' fx t hs lead m ys row came j):DeepEq K H 4 (.ref l) (.ref l'):=by
 refine .lst (SqL.of hl) (SqL.of hl') (by rw[Zi,Zi,lq,lq']) fun j hj=>?_;rw[Zi] at hj;have hj':j < qs'.length:=by omega
 rw[Zk,Zk,Zm,Zm,Zb hj,Zb hj'];exact Zeb (h j _ (Zb hj)) (h' j _ (Zb hj'))
end
theorem Zkd(z:Int){n:Nat}(h:0 < n):∃ j:Nat,z % ((n:Nat):Int)=(j:Nat)∧j < n:=by
 have a:=Yz z (show((n:Nat):Int)≠0 by omega);have b:=Yi z (show(0:Int) < ((n:Nat):Int) by omega);exact⟨(z % ((n:Nat):Int)).toNat,by omega,by omega⟩
theorem Zol(a b z:Int):∃ c:Int,Xg [V.int a,V.int b] (z % 2)=some (.int c):=by
 have:z % 2=0∨z % 2=1:=by omega
 rcases this with e | e
 ·exact⟨a,by rw[e];rfl⟩
 ·exact⟨b,by rw[e];rfl⟩
theorem Zle(a b d z:Int):∃ c:Int,Xg [V.int a,V.int b,V.int d] (z % 3)=some (.int c):=by
 have:z % 3=0∨z % 3=1∨z % 3=2:=by omega
 rcases this with e | e | e
 ·exact⟨a,by rw[e];rfl⟩
 ·exact⟨b,by rw[e];rfl⟩
 ·exact⟨d,by rw[e];rfl⟩
def Dj(CT CG CP PL:Addr):Sp:=fun vs H Q _=>∃(x gm gx lc lk d st:Addr) (t:Option Nat) (fx:Fx) (sz:Nat) (hs0:List Nat) (lead0:Nat) (css:List (List Nat)) (lead m:Nat) (ys row came:List Nat) (cell:Int),vs=[.ref x,.ref d,.ref st,.int cell,.int ((came.length:Nat):Int)]∧K1 t∧IsRu H d fx t sz∧IsPy CP H x gm lc lk hs0 lead0 (css.map hN) lead ys row came∧GamH CT CG fx t H gm gx∧IsSt H st css lead ys∧StOk fx css lead ys m∧came.length≤100∧TabSt H PL Ak qL ∧
 ∀ H',SameX H H'→TabSt H' PL Ak qL→Q (.bl true) H'
abbrev Gz:List Str:=["_law_play","_law_rules_here","_law_state","_law_cell_here","_law_full"]
abbrev Zmx:List Str:=["_law_play","_law_rules_here","_law_state","_law_cell_here","_law_full","_law_seat","_law_by","_law_card","_law_odd","_law_rule_here","_law_before"]
theorem scTried:FnScope Zmx Gz (Zp Sv):=⟨rfl,rfl,rfl,by decide +kernel,rfl,by decide +kernel,by decide +kernel⟩
theorem Zgn{k:Nat}{CT CG CP PL f1 f2 f3 f4:Addr}{d1 d2 d3 d4:FuncData}(F:Fun K "_law_tried" "_law_tried" Sv f fd)(LT:Lib P w K mg base k "_law_turn" Ed Ng f1 d1)(LRl:Lib P w K mg base k "_law_rule" Vs Dt f2 d2)(LL:Lib P w K mg base k "_law_looks" G1 (Ds CT CG CP PL) f3 d3)(LRf:Lib P w K mg base k "_law_refused" Zgf (Nx CT CG CP) f4 d4)(ml:mg "len" = none):FnOk P w K mg base Y4 (k+1) f fd Gz (Dj CT CG CP PL):=by
 refine F.ok scTried (fun vs H Q E h=>?_) (fun cdv A outer s H vs Q E hr h=>?_)
 ·obtain⟨x,gm,gx,lc,lk,d,st,t,fx,sz,hs0,lead0,css,lead,m,ys,row,came,cell,rfl,_⟩:=h
  rfl
 obtain⟨x,gm,gx,lc,lk,d,st,t,fx,sz,hs0,lead0,css,lead,m,ys,row,came,cell,rfl,tb,Ru,Py,G,hSt,S,k100,hT,q⟩:=h;have hu:=Jj (Nat.add_le_add_left (show 1≤64 by decide) _) hr.units;refine⟨_,Zg (Z4 (i:=5) scTried.nd rfl (Or.inl rfl) (Z0 Yg (pv 3) (Yl hu (pv 1) Ji (fun _ _=>rfl))))
  (Zg (Ju (PW.pt (Of (Z7 Qg (Z0 Yg (Z0 J1 (pv 3) Zl) Zl) Zl (Jd _)) (Rv (Z7 Qg (Jf Je rfl ml Z5 (Za (Jn Yd (Jn Jw (pv 2) Zl (fun _ _=>rfl)) (Z9 LT.ok hr rfl LT.mg LT.kp LT.bd .nil Jh (Za (pv 2) Zh)) (fun _ _=>rfl)) Zh)) Zl (Jd _))))) (Zq (Z4 (i:=5) scTried.nd rfl (Or.inl rfl) (Z9 LT.ok hr rfl LT.mg LT.kp LT.bd .nil Jh (Za (pv 2) Zh)))) Jg)
  (Zg (Z4 (i:=6) scTried.nd rfl (Or.inl rfl) (Z0 J1 (pv 3) Zl))
  (Zg (Z4 (i:=7) scTried.nd rfl (Or.inl rfl) (Jn Yd (U0 (Za (Z0 Yg (pv 6) (Z0 Xd Zl (Yl hu (pv 1) Ji (fun _ _=>rfl)))) (Za (Z0 Yg (pv 6) Zl) Zh))) (Z0 Yg (Z0 J1 (pv 3) Zl) Zl) (fun _ _=>rfl)))
  (Zg (Ju (PW.pt (Of (Z7 Qg (Z0 Yg (Z0 J1 (pv 3) Zl) Zl) Zl (Jd _)) (Rv (Z7 Qg (Jf Je rfl ml Z5 (Za (Jn Yd (Jn Jw (pv 2) Zl (fun _ _=>rfl)) (pv 5) (fun _ _=>rfl)) Zh)) Zl (Jd _))))) (Zq (Z4 (i:=7) scTried.nd rfl (Or.inl rfl) (Jn Yd (Jn Yd (Jn Jw (pv 2) Zl (fun _ _=>rfl)) (pv 5) (fun _ _=>rfl)) (Z0 Yg (pv 6) (Jf Je rfl ml Z5 (Za (Jn Yd (Jn Jw (pv 2) Zl (fun _ _=>rfl)) (pv 5) (fun _ _=>rfl)) Zh))) (fun _ _=>rfl)))) Jg)
  (Zg (Z4 (i:=8) scTried.nd rfl (Or.inl rfl) (Z0 J1 (pv 3) Zl))
  (Zg (Ju (Z7 Uc (Z0 Yg (pv 8) Zl) Zl (Jd _)) (Zq (Z4 (i:=5) scTried.nd rfl (Or.inl rfl) (Jn Yd (U0 (Za (Z0 Zgk (Zlf Zew Zl) (Z0 Yg (Z0 J1 (pv 8) Zl) Zl)) (Za (Z0 Yq (Yl hu (pv 1) Ji (fun _ _=>rfl)) (Z0 Yg (Z0 J1 (pv 8) Zl) Zl)) (Za (Z0 Yq (Z9 LT.ok hr rfl LT.mg LT.kp LT.bd .nil Jh (Za (pv 2) Zh)) (Yl hu (pv 1) Ji (fun _ _=>rfl))) Zh)))) (Z0 Yg (Z0 J1 (pv 8) Zl) Zl) (fun _ _=>rfl)))) Jg)
  (Zg (Ju (Z7 Uc (Z0 Yg (pv 8) Zl) Zl (Jd _)) (Zq (Z4 (i:=7) scTried.nd rfl (Or.inl rfl) (Jn Yd (U0 (Za (Zlf Zew Zl) (Za (Z0 Yq Zl (Z0 Yg (Z0 J1 (pv 8) Zl) Zl)) (Za (Z0 Yq Zl (Z0 Yg (Z0 J1 (pv 8) Zl) Zl)) Zh)))) (Z0 Yg (Z0 J1 (pv 8) Zl) Zl) (fun _ _=>rfl)))) Jg)
  (Zg (Z4 (i:=9) scTried.nd rfl (Or.inl rfl) (Z9 LRl.ok hr rfl LRl.mg LRl.kp LRl.bd .nil Jh (Za (pv 1) (Za (pv 2) (Za (pv 5) (Za (pv 7) Zh))))))
  (Zg (Ju (Z7 Vw (pv 9) Uz (Jd _)) (Zq (Z6 Qe)) Jg)
  (Zg (Z4 (i:=10) scTried.nd rfl (Or.inl rfl) (Z9 LL.ok hr rfl LL.mg LL.kp LL.bd .nil Jh (Za (pv 0) (Za (pv 3) Zh))))
  (Zg (Ju (Eb (Ug (Z9 LRf.ok hr rfl LRf.mg LRf.kp LRf.bd .nil Jh (Za (pv 0) (Za (pv 5) (Za (pv 7) (Za (pv 9) (Za (pv 4) Zh)))))) (fun _=>rfl))) (Zq (Z6 Qe)) Jg)
  (Zq (Z6 (Xa (Zmm (d:=4) (by decide) hr.units) (Z9 LL.ok hr rfl LL.mg LL.kp LL.bd .nil Jh (Za (pv 0) (Za (Z0 J1 (pv 3) Zl) Zh))) (pv 10) (Jd _))))))))))))))),?_⟩
 have ok:=G.ok;have n0:0 < fx.n:=by rcases ok.n34 with e | e<;>omega
 have s0p:0 < fx.s:=ok.s1;have z1000:=Jl 1000 (by decide);obtain⟨lp,lh,hDi,_,_⟩:=id Ru;obtain⟨g1,g2,g3,g4,g5,g6,g7,g8⟩:=@Et fx t sz lp lh;obtain⟨lc',lt',as',k1,k2,k3,k4⟩:=id hSt;have al:as'.length=fx.n:=k3.1.trans S.len;have nP:(0:Int) < ((fx.n:Nat):Int):=by omega
 refine Yk (fun v H1=>H1=H∧∃ s0:Nat,v = .int (s0:Nat)∧s0 < fx.n) (fun R hR=>⟨_,rfl,_,rfl,d,_,rfl,V3 hDi g1,_,_,rfl,rfl,nP,?_⟩) (fun v H1 z=>?_)
 ·obtain⟨s0,e0,l0⟩:=Zkd cell n0
  exact hR _ _ ⟨rfl,s0,congrArg V.int e0,l0⟩
 obtain⟨rfl,s0,rfl,l0⟩:=z;have tl:(lead+ys.length) % fx.n < as'.length:=by rw[al];exact Xy ok _ _
 obtain⟨csT,_,jT⟩:=k3.2 _ _ (Zb tl);refine U9 (fun σ H2=>H2=H1∧∃ s1:Nat,s1 < fx.n∧σ=[some (.ref x),some (.ref d),some (.ref st),some (.int cell),some (.int ((came.length:Nat):Int)),some (.int (s1:Nat)),none,none,none,none,none]) (fun D' er nx=>?_) (fun σ H2 z=>?_)
 ·refine⟨_,rfl,_,_,rfl,rfl,⟨by decide,by decide⟩,_,_,rfl,rfl,(show(0:Int) < 3 by decide),_,_,rfl,rfl,_,rfl,Bz (fun _=>?_) (fun _=>J9 (nx _ _ ⟨rfl,s0,l0,rfl⟩))⟩
  refine⟨_,rfl,st,_,_,_,rfl,rfl,SqT.of k1,(rfl:Xg [V.ref lc',V.int (lead:Nat),V.ref lt'] 0=some (V.ref lc')),_,rfl,st,css,lead,ys,rfl,hSt,by rw[S.len];exact n0,?_⟩;rw[S.len];refine⟨lc',_,_,V.ref as'[(lead+ys.length) % fx.n],rfl,rfl,SqL.of k2,Um (by rw[Zm,Zb tl];rfl),as'[(lead+ys.length) % fx.n],_,rfl,.inl (SqL.of jT),_,_,rfl,rfl,_,rfl,Bz (fun _=>?_) (fun _=>nx _ _ ⟨rfl,s0,l0,rfl⟩)⟩;refine⟨_,rfl,st,css,lead,ys,rfl,hSt,by rw[S.len];exact n0,?_⟩;rw[S.len];exact nx _ _ ⟨rfl,_,Xy ok _ _,rfl⟩
 obtain⟨rfl,s1,l1,rfl⟩:=z;refine Yk (fun v H3=>H3=H2∧v = .int (cell / 45)) (fun R hR=>⟨_,rfl,_,_,rfl,rfl,⟨by decide,by decide⟩,hR _ _ ⟨rfl,rfl⟩⟩) (fun v H3 z=>?_);obtain⟨rfl,rfl⟩:=z;refine Yk (fun v H4=>Same H3 H4∧∃ c:Int,v = .int c) (fun R hR=>?_) (fun v H4 z=>?_)
 ·refine⟨_,rfl,_,rfl,d,_,rfl,V3 hDi g2,_,_,rfl,rfl,.inl ⟨by decide,by decide⟩,_,_,rfl,rfl,(by show(0:Int) < 8 * ((fx.s:Nat):Int);omega),_,rfl,_,_,rfl,rfl,(show(0:Int) < 32 by decide),Jl 2 (by decide),fun l hl=>?_⟩
  obtain⟨c,hc⟩:=Zol (cell / 45 % (8 * ((fx.s:Nat):Int))) (cell / 45 % 32) (cell / 15);exact⟨_,rfl,_,_,rfl,rfl,⟨by decide,by decide⟩,_,_,rfl,rfl,(show(0:Int) < 2 by decide),l,_,_,_,rfl,rfl,SqL.of Zj,hc,hR _ _ ⟨Zy hl _,c,rfl⟩⟩
 obtain⟨s4,c0,rfl⟩:=z;have sl:s1 < as'.length:=by omega
 obtain⟨cs1,_,j1⟩:=k3.2 _ _ (Zb sl);have at1:Xg (as'.map V.ref) ((s1:Nat):Int)=some (V.ref as'[s1]):=Um (by rw[Zm,Zb sl];rfl);have q1:=s4 _ _ k1;have q2:=s4 _ _ k2;have q3:=s4 _ _ j1;refine U9 (fun σ H5=>H5=H4∧∃ c1:Int,σ=[some (.ref x),some (.ref d),some (.ref st),some (.int cell),some (.int ((came.length:Nat):Int)),some (.int (s1:Nat)),some (.int (cell / 45)),some (.int c1),none,none,none]) (fun D' er nx=>?_) (fun σ H5 z=>?_)
 ·refine⟨_,rfl,_,_,rfl,rfl,⟨by decide,by decide⟩,_,_,rfl,rfl,(show(0:Int) < 3 by decide),_,_,rfl,rfl,_,rfl,Bz (fun _=>?_) (fun _=>J9 (nx _ _ ⟨rfl,c0,rfl⟩))⟩
  refine⟨_,rfl,st,_,_,_,rfl,rfl,SqT.of q1,(rfl:Xg [V.ref lc',V.int (lead:Nat),V.ref lt'] 0=some (V.ref lc')),_,rfl,lc',_,_,V.ref as'[s1],rfl,rfl,SqL.of q2,at1,as'[s1],_,rfl,.inl (SqL.of q3),_,_,rfl,rfl,_,rfl,Bz (fun hp=>?_) (fun _=>nx _ _ ⟨rfl,c0,rfl⟩)⟩;have pos:0 < (vN cs1).length:=by have:=Jx hp;omega
  obtain⟨j,ej,lj⟩:=Zkd (cell / 45) pos;obtain⟨cc,_,ec⟩:=En (Zb lj);refine⟨_,rfl,st,_,_,_,rfl,rfl,SqT.of q1,(rfl:Xg [V.ref lc',V.int (lead:Nat),V.ref lt'] 0=some (V.ref lc')),_,rfl,lc',_,_,V.ref as'[s1],rfl,rfl,SqL.of q2,at1,_,rfl,_,rfl,st,_,_,_,rfl,rfl,SqT.of q1,(rfl:Xg [V.ref lc',V.int (lead:Nat),V.ref lt'] 0=some (V.ref lc')),_,rfl,lc',_,_,V.ref as'[s1],rfl,rfl,SqL.of q2,at1,as'[s1],_,rfl,.inl (SqL.of q3),_,_,rfl,rfl,(by show(0:Int) < (((vN cs1).length:Nat):Int);omega),as'[s1],_,_,V.int (cc:Nat),rfl,rfl,SqL.of q3,?_,nx _ _ ⟨rfl,_,rfl⟩⟩;show Xg (vN cs1) (cell / 45 % (((vN cs1).length:Nat):Int))=_;rw[ej,← ec];exact Um (Zb lj)
 obtain⟨rfl,c1,rfl⟩:=z;refine Yk (fun v H6=>H6=H5∧v = .int (cell / 4000)) (fun R hR=>⟨_,rfl,_,_,rfl,rfl,⟨by decide,by decide⟩,hR _ _ ⟨rfl,rfl⟩⟩) (fun v H6 z=>?_);obtain⟨rfl,rfl⟩:=z;refine U9 (fun σ H7=>Same H6 H7∧∃ s2:Int,σ=[some (.ref x),some (.ref d),some (.ref st),some (.int cell),some (.int ((came.length:Nat):Int)),some (.int s2),some (.int (cell / 45)),some (.int c1),some (.int (cell / 4000)),none,none]) (fun D' er nx=>?_) (fun σ H7 z=>?_)
 ·refine⟨_,rfl,_,_,rfl,rfl,(show(0:Int) < 8 by decide),rfl,_,rfl,Bz (fun _=>?_) (fun _=>nx _ _ ⟨Same.refl H6,_,rfl⟩)⟩
  refine⟨_,rfl,_,rfl,_,_,rfl,rfl,⟨by decide,by decide⟩,_,_,rfl,rfl,(show(0:Int) < 9 by decide),_,_,rfl,rfl,_,rfl,d,_,rfl,V3 (s4 _ _ hDi) g1,_,rfl,_,_,rfl,rfl,⟨by decide,by decide⟩,_,_,rfl,rfl,(show(0:Int) < 90 by decide),_,_,rfl,rfl,_,rfl,st,css,lead,ys,rfl,hSt.same s4,by rw[S.len];exact n0,?_⟩;rw[S.len];refine⟨_,rfl,d,_,rfl,V3 (s4 _ _ hDi) g1,_,_,rfl,rfl,Jl 3 (by decide),fun l hl=>?_⟩;obtain⟨c,hc⟩:=Zle (-1 - cell / 4000 / 8 % 9) (((fx.n:Nat):Int)+cell / 4000 / 8 % 90) ((((lead+ys.length) % fx.n:Nat):Int)+((fx.n:Nat):Int)) (cell / 4000 / 8);exact⟨_,rfl,_,_,rfl,rfl,⟨by decide,by decide⟩,_,_,rfl,rfl,(show(0:Int) < 3 by decide),l,_,_,_,rfl,rfl,SqL.of Zj,hc,nx _ _ ⟨Zy hl _,c,rfl⟩⟩
 obtain⟨s7,seat,rfl⟩:=z;refine U9 (fun σ H8=>Same H7 H8∧∃ c2:Int,σ=[some (.ref x),some (.ref d),some (.ref st),some (.int cell),some (.int ((came.length:Nat):Int)),some (.int seat),some (.int (cell / 45)),some (.int c2),some (.int (cell / 4000)),none,none]) (fun D' er nx=>?_) (fun σ H8 z=>?_)
 ·refine⟨_,rfl,_,_,rfl,rfl,(show(0:Int) < 8 by decide),rfl,_,rfl,Bz (fun _=>?_) (fun _=>nx _ _ ⟨Same.refl H7,_,rfl⟩)⟩
  refine⟨_,rfl,_,rfl,_,_,rfl,rfl,⟨by decide,by decide⟩,_,_,rfl,rfl,(show(0:Int) < 9 by decide),_,_,rfl,rfl,_,rfl,_,_,rfl,rfl,⟨by decide,by decide⟩,_,_,rfl,rfl,(show(0:Int) < 900 by decide),_,_,rfl,rfl,Jl 3 (by decide),fun l hl=>?_⟩;obtain⟨c,hc⟩:=Zle (-1) (32+cell / 4000 / 8 % 9) (40+cell / 4000 / 8 % 900) (cell / 4000 / 8);exact⟨_,rfl,_,_,rfl,rfl,⟨by decide,by decide⟩,_,_,rfl,rfl,(show(0:Int) < 3 by decide),l,_,_,_,rfl,rfl,SqL.of Zj,hc,nx _ _ ⟨Zy hl _,c,rfl⟩⟩
 obtain⟨s8,card,rfl⟩:=z;have s08:=(s4.trans s7).trans s8;refine Yk (fun v H9=>Same H8 H9∧v=oR (brkP fx t (css.map hN) lead ys m seat card)) (fun R hR=>⟨_,rfl,_,rfl,_,rfl,_,rfl,d,st,fx,t,sz,css,lead,m,ys,seat,card,rfl,ok,Ru.same s08,hSt.same s08,S,fun H9 s9=>hR _ _ ⟨s9,rfl⟩⟩) (fun v H9 z=>?_);obtain⟨s9,rfl⟩:=z;have s09:=s08.trans s9;have hT9:=hT.same s09;generalize hb:brkP fx t (css.map hN) lead ys m seat card=rr;cases rr with
 | none=>exact⟨_,rfl,rfl,_,rfl,Xu (Zf rfl) (Ub (q H9 s09.x hT9))⟩
 | some r=>
 refine⟨_,rfl,rfl,_,rfl,Xu (Zd (fun z=>nomatch z)) (J9 (Bs ?_))⟩;have Py9:=Py.same s09;have G9:=G.same s09;refine Yk (fun v HA=>∃ l nl qs,v = .ref l∧SameX H9 HA∧Tab2 HA PL Ak qL∧HA l=some (.lst (qs.map V.ref))∧qs.length=5∧∀ j q,qs[j]? = some q→Seen HA q nl fx t (css.map hN) lead m ys row came j) (fun R hR=>⟨_,rfl,_,rfl,x,gm,gx,lc,lk,t,fx,hs0,lead0,_,lead,m,ys,row,came,cell,rfl,tb,Py9,G9,S.plc,hT9,fun l nl qs HA sX t2 hl lq sn=>hR _ _ ⟨l,nl,qs,rfl,sX,t2,hl,lq,sn⟩⟩) (fun v HA z=>?_);obtain⟨l,nl,qs,rfl,xA,tA,hlA,lq,snA⟩:=z;have x0A:=s09.x.trans xA;have PyA:=Py.x x0A;have GA:=G.x x0A;refine⟨_,rfl,_,rfl,_,rfl,_,rfl,_,rfl,x,gm,gx,lc,lk,t,fx,hs0,lead0,_,lead,m,ys,row,came,seat,card,r,rfl,tb,PyA,GA,S.plc,k100,hb,fun HB sB=>⟨true,rfl,J9 (Bs ?_)⟩⟩;have tB:TabSt HB PL Ak qL:=.inr (tA.same sB);refine⟨_,rfl,_,rfl,_,_,rfl,rfl,⟨by decide,by decide⟩,x,gm,gx,lc,lk,t,fx,hs0,lead0,_,lead,m,ys,row,came,_,rfl,tb,PyA.same sB,GA.same sB,S.plc,tB,fun l2 nl2 qs2 HC xC tC hlC lq2 snC=>⟨_,rfl,l2,l,rfl,rfl,?_,q HC ((x0A.trans sB.x).trans xC) (.inr tC)⟩⟩;have xAC:=sB.x.trans xC;exact Zay hlC (xAC _ _ (fun _ z=>nomatch z) hlA) lq2 lq snC (fun j q hj=>(snA j q hj).x xAC)
def Mh(K:W.Frag)(cts:List (Addr×Addr)):Sp:=fun vs H Q _=>∃(a:Addr) (ns:List Int),vs=[.ref a]∧SqL K H a (ns.map V.int)∧ns.length≤63∧(∀ p∈cts,H p.2=some (.tbl #[]))∧∀ H',Q (.bl true) H'
abbrev Zot:List Str:=["_law_script","_law_rules_here","_law_deal_here","_law_state","_law_play","_law_full","_law_k","_law_cell_here","_law_some","_law_card","_law_seat","_law_taker"]
theorem scLaw:FnScope Zot ["_law_script"] (Zp T4):=⟨rfl,rfl,rfl,by decide +kernel,rfl,by decide +kernel,by decide +kernel⟩
abbrev nCd:List Str:=["_law_cards"]
theorem Zhz(bb:Bool):∃ mo:Nat,mo≤10∧Xg [V.int 4,V.int 10] (if bb=true then 1 else 0)=some (V.int ((mo:Nat):Int)):=by
 cases bb
 ·exact⟨4,by decide,rfl⟩
 ·exact⟨10,by decide,rfl⟩
theorem Zcx{CP H H' x gm lc lk hs0 lead0 hs lead ys row came P q}{pos:Pos}(h:Tab2 H P pos q)(Py:IsPy CP H x gm lc lk hs0 lead0 hs lead ys row came)(k:Kept3 x lc lk H H'):Tab2 H' P pos q:=by
 obtain⟨c',n,h1,h2⟩:=h;obtain⟨dx,fs,pb,pn,hx,_⟩:=Py.o;have hc:=Py.c;have ht:=Py.t;refine⟨c',n,k _ _ (fun z=>?_) (fun z=>?_) (fun z=>?_) h1,k _ _ (fun z=>?_) (fun z=>?_) (fun z=>?_) h2⟩
 ·rw[z,hx] at h1;cases h1
 ·rw[z,hc] at h1;cases h1
 ·rw[z,ht] at h1;cases h1
 ·rw[z,hx] at h2;cases h2
 ·rw[z,hc] at h2;cases h2
 ·rw[z,ht] at h2;cases h2
theorem Sa{CP H H' x gm lc lk hs0 lead0 hs lead ys row came P q}{pos:Pos}(h:TabSt H P pos q)(Py:IsPy CP H x gm lc lk hs0 lead0 hs lead ys row came)(k:Kept3 x lc lk H H'):TabSt H' P pos q:=by
 rcases h with h1 | h
 ·obtain⟨dx,fs,pb,pn,hx,_⟩:=Py.o
  have hc:=Py.c;have ht:=Py.t;refine .inl (k _ _ (fun z=>?_) (fun z=>?_) (fun z=>?_) h1)
  ·rw[z,hx] at h1;cases h1
  ·rw[z,hc] at h1;cases h1
  ·rw[z,ht] at h1;cases h1
 ·exact .inr (Zcx h Py k)
theorem Zp0{x lc lk:Addr}{HM H2 H3:Hp}(n:HM x=none∧HM lc=none∧HM lk=none)(s:SameX HM H2)(k:Kept3 x lc lk H2 H3):SameX HM H3:=fun c o t h=>k c o (Jb h n.1) (Jb h n.2.1) (Jb h n.2.2) (s c o t h)
theorem Zhx(came:List Nat)(tk:Option Nat):((came.length:Nat):Int)+(if(!decide (T1 tk=V.non))=true then 1 else 0)=(((came++tk.toList).length:Nat):Int):=by
 cases tk with
 | none=>
  show((came.length:Nat):Int)+0=(((came++[]).length:Nat):Int);rw[Yb];omega
 | some u=>
  show((came.length:Nat):Int)+1=(((came++[u]).length:Nat):Int);rw[Z3];rfl
structure Inv25(CP PL:Addr)(HM H:Hp)(x gm lc lk st:Addr)(fx:Fx)(hs0:List Nat)(lead0:Nat)(css:List (List Nat))(lead m:Nat)(ys row came:List Nat)(i:Nat):Prop where
 s:SameX HM H
 tb:TabSt H PL Ak qL
 py:IsPy CP H x gm lc lk hs0 lead0 (css.map hN) lead ys row came
 st:IsSt H st css lead ys
 ok:StOk fx css lead ys m
 rl:row.length≤i
 cl:came.length≤i
theorem Zms{k:Nat}{CT CG CP cO PO cD PD cL PL f1 f2 f3 f4 f5 f6 f7 f8 f9 fa aI aU:Addr}{d1 d2 d3 d4 d5 d6 d7 d8 d9 da eI eU:FuncData}(F:Fun K "law" "law" T4 f fd)(C:PlyC K mg CP)(LC:Lib P w K mg base (k+1) "_law_cell" Mo (Dw K) f1 d1)(LRu:Lib P w K mg base (k+1) "_law_rules" ["_law_script","_law_most"] (Dl K PO) f2 d2)
  (LG:Lib P w K mg base (k+1) "_law_game" ["_law_rules_here"] (Si CT CG) f3 d3) (LD:Lib P w K mg base (k+1) "_law_deal" ["_law_cell_here","_law_rules_here"] (Sk PD) f4 d4) (LT:Lib P w K mg base (k+1) "_law_turn" Ed Ng f5 d5) (LH:Lib P w K mg base (k+1) "_law_hand" ["_law_cards"] (Dv K) f6 d6) (LDr:Lib P w K mg base (k+1) "_law_drawn" ["_law_cell_here","_law_amount"] Bh f7 d7)
  (LM:Lib P w K mg base (k+1) "_law_may" Mn Du f8 d8) (LTr:Lib P w K mg base (k+1) "_law_tried" Gz (Dj CT CG CP PL) f9 d9) (LP:Lib P w K mg base (k+1) "_law_put" Ar Sg fa da)
  (MkP:Mk K CP aI) (FP:FnOk P w K mg base Y4 k aI eI ["self","game","deal","lead"] (Ga CT CG CP)) (BP:Binds K eI ["self","game","deal","lead"] [])
  (MU:Meth K CP "put" aU) (FU:FnOk P w K mg base Y4 (k+1) aU eU ["self","seat","card"] (Dn CT CG CP)) (BU:Binds K eU ["self","seat","card"] [])
  (hPP:PO≠PD∧PO≠PL∧PD≠PL) (mr:mg "range" = none) (ml:mg "len" = none) (mI:mg "int" = none) :
  FnOk P w K mg base Y4 (k+2) f fd ["_law_script"] (Mh K [(cO,PO),(cD,PD),(cL,PL)]):=by
 refine F.ok scLaw (fun vs H Q E h=>?_) (fun cdv A outer s H vs Q E hr h=>?_)
 ·obtain⟨a,ns,rfl,_⟩:=h
  rfl
 obtain⟨a,ns,rfl,hS,h63,hT,q⟩:=h;have hu:=Jj (Nat.add_le_add_left (show 1≤64 by decide) _) hr.units;have tO:H PO=some (.tbl #[]):=hT (cO,PO) Zw;have tD:H PD=some (.tbl #[]):=hT (cD,PD) (Zx _ Zw);have tL:H PL=some (.tbl #[]):=hT (cL,PL) (Zx _ (Zx _ Zw));obtain⟨nOD,nOL,nDL⟩:=hPP;refine⟨_,Zg (Z4 (i:=1) scLaw.nd rfl (Or.inl rfl) (Z9 LRu.ok hr rfl LRu.mg LRu.kp LRu.bd .nil Jh (Za (pv 0) (Za (Jn Yd (U0 (Za Zl (Za Zl Zh))) (Yf Ty rfl mI U2 (Za (Xa Uc (Z0 Yg (Z0 J1 (Z9 LC.ok hr rfl LC.mg LC.kp LC.bd .nil Jh (Za (pv 0) (Za Zl Zh))) Zl) Zl) Zl (Jd _)) Zh)) (fun _ _=>rfl)) Zh))))
  (Zg (Z4 (i:=2) scLaw.nd rfl (Or.inl rfl) (Z9 LD.ok hr rfl LD.mg LD.kp LD.bd .nil Jh (Za (Z9 LC.ok hr rfl LC.mg LC.kp LC.bd .nil Jh (Za (pv 0) (Za Zl Zh))) (Za (pv 1) Zh))))
  (Zg (Z4 (i:=3) scLaw.nd rfl (Or.inl rfl) (Y2 (Za (pv 2) (Za (Z0 Yg (Z9 LC.ok hr rfl LC.mg LC.kp LC.bd .nil Jh (Za (pv 0) (Za Zl Zh))) (Yl hu (pv 1) Ji (fun _ _=>rfl))) (Za (U0 Zh) Zh)))))
  (Zg (Z4 (i:=4) scLaw.nd rfl (Or.inl rfl) (Bo MkP FP hr rfl C.mP BP .nil Jh (Za (Z9 LG.ok hr rfl LG.mg LG.kp LG.bd .nil Jh (Za (pv 1) Zh)) (Za (Ui nCd [none] rfl (Blk.by (sc:=Zp T4) (N0:=Zot) rfl rfl (by decide +kernel)) (Uh (pv 2)) (fun C s₀ H₀ ex=>Jr (i:=0) (show nCd.Nodup by decide +kernel) rfl (Or.inl rfl)) (fun C s₀ H₀ ex=>U4) (fun C s₀ H₀ ex=>Z9 LH.ok hr rfl LH.mg LH.kp LH.bd .nil Jh (Za (pv 0) Zh))) (Za (Jn Jw (pv 3) Zl (fun _ _=>rfl)) Zh)))))
  (Zg (Z4 (i:=5) scLaw.nd rfl (Or.inl rfl) Zl)
  (Zg (X0 PassesOwn.never rfl (Uy rfl mr (Za (Z0 Yq (Z0 Xd (Yl hu (pv 1) Ji (fun _ _=>rfl)) (Yl hu (pv 1) Ji (fun _ _=>rfl))) Zl) Zh)) (Jr (i:=6) scLaw.nd rfl (Or.inl rfl))
   (Zg (X0 PassesOwn.never rfl (Uh (Z9 LDr.ok hr rfl LDr.mg LDr.kp LDr.bd .nil Jh (Za (Z9 LC.ok hr rfl LC.mg LC.kp LC.bd .nil Jh (Za (pv 0) (Za (Z0 Yq Zl (pv 6)) Zh))) (Za Zl Zh)))) (Jr (i:=7) scLaw.nd rfl (Or.inl rfl)) (Zq (Ju (Eb (Ug (Z9 LTr.ok hr rfl LTr.mg LTr.kp LTr.bd .nil Jh (Za (pv 4) (Za (pv 1) (Za (pv 3) (Za (pv 7) (Za (pv 5) Zh)))))) (fun _=>rfl))) (Zq (Z6 Qe)) Jg)))
   (Zg (Z4 (i:=8) scLaw.nd rfl (Or.inl rfl) (Z9 LM.ok hr rfl LM.mg LM.kp LM.bd .nil Jh (Za (pv 1) (Za (Jn Yd (Jn Jw (pv 3) Zl (fun _ _=>rfl)) (Z9 LT.ok hr rfl LT.mg LT.kp LT.bd .nil Jh (Za (pv 3) Zh)) (fun _ _=>rfl)) (Za (Jn Jw (pv 3) Zl (fun _ _=>rfl)) Zh)))))
   (Zq (Ju (Z7 Qg (Jf Je rfl ml Z5 (Za (pv 8) Zh)) Zl (Jd _))
    (Zg (Z4 (i:=9) scLaw.nd rfl (Or.inl rfl) (Jn Yd (pv 8) (Z0 Yg (Z9 LC.ok hr rfl LC.mg LC.kp LC.bd .nil Jh (Za (pv 0) (Za (Z0 Yq Zl (pv 6)) Zh))) (Jf Je rfl ml Z5 (Za (pv 8) Zh))) (fun _ _=>rfl)))
    (Zg (Z4 (i:=10) scLaw.nd rfl (Or.inl rfl) (Z9 LT.ok hr rfl LT.mg LT.kp LT.bd .nil Jh (Za (pv 3) Zh)))
    (Zg (Og (Z9 LP.ok hr rfl LP.mg LP.kp LP.bd .nil Jh (Za (pv 1) (Za (pv 3) (Za (pv 9) Zh)))) (Oi rfl (Xo (Jr (i:=3) scLaw.nd rfl (Or.inl rfl)) (Xo (Jr (i:=11) scLaw.nd rfl (Or.inl rfl)) Rw))))
    (Zg (Ju (Z7 Qf (X4 (pv 4) C.cl MU FU hr BU .nil Jh (Za (pv 10) (Za (pv 9) Zh))) (pv 11) (Jd _)) (Zq (Z6 Qe)) Jg)
    (Zq (Z4 (i:=5) scLaw.nd rfl (Or.inl rfl) (Z0 Yq (pv 5) (Yf Ty rfl mI U2 (Za (Xa Ry (pv 11) Uz (Jd _)) Zh)))))))))
    Jg)))))
  (Zq (Z6 Qe))))))),?_⟩
 have z1000:=Jl 1000 (by decide);refine Yk (fun v H1=>∃(d:Addr) (fx:Fx) (t:Option Nat) (sz:Nat),v = .ref d∧SameX H H1∧H1 PD=some (.tbl #[])∧H1 PL=some (.tbl #[])∧IsRu H1 d fx t sz∧fx.Ok∧K1 t∧sz≤10∧sz * fx.n≤fx.s * fx.h) (fun R hR=>?_) (fun v H1 z=>?_)
 ·refine⟨_,rfl,Jl 2 (by decide),fun l6 hl6=>?_⟩
  have a6:=Zy hl6 (.lst [V.int 4,V.int 10]);have h6:(upd H l6 (.lst [V.int 4,V.int 10])) l6=some (.lst [V.int 4,V.int 10]):=Zj;generalize upd H l6 (.lst [V.int 4,V.int 10])=Ha at a6 h6 ⊢;refine⟨_,rfl,a,ns,1,rfl,a6.seq hS,by omega,fun z=>?_⟩;obtain⟨mo,mo10,hat⟩:=Zhz (decide (V.int (z / 3000 % 8)=V.int 5));refine⟨_,_,rfl,rfl,⟨by decide,by decide⟩,_,_,rfl,rfl,(show(0:Int) < 8 by decide),rfl,_,rfl,l6,_,_,_,rfl,rfl,SqL.of h6,hat,a,ns,mo,rfl,a6.seq hS,.inl (a6 _ _ tO),fun d fx t sz H1 sm1 t1 hd hRu ok tb szm szn=>hR _ _ ⟨d,fx,t,sz,rfl,a6.x.trans (sm1.x (pos:=Zaa) (q:=qO) (.inl (a6 _ _ tO))),sm1 PD _ (Ne.symm nOD) (a6 _ _ tD),sm1 PL _ (Ne.symm nOL) (a6 _ _ tL),hRu,ok,tb,by omega,szn⟩⟩
 obtain⟨d,fx,t,sz,rfl,x1,tD1,tL1,hRu1,ok,tb,sz10,szn⟩:=z;have n4:fx.n≤4:=by rcases ok.n34 with e | e<;>omega
 have n0:0 < fx.n:=by rcases ok.n34 with e | e<;>omega
 have n40:fx.n * sz≤40:=Nat.le_trans (Nat.mul_le_mul n4 sz10) (by decide);have hS1:=x1.seq hS;refine Yk (fun v H2=>∃(l:Addr) (as:List Addr) (css:List (List Nat)),v = .ref l∧SameX H1 H2∧H2 PL=some (.tbl #[])∧H2 l=some (.lst (as.map V.ref))∧IsDl H2 as css∧DealOk fx sz css) (fun R hR=>⟨_,rfl,a,ns,3,rfl,hS1,by omega,fun c3=>⟨_,rfl,c3,d,fx,t,sz,rfl,ok,hRu1,szn,.inl tD1,fun l as css H2 sm2 t2 hl hL hDl D=>hR _ _ ⟨l,as,css,rfl,sm2.x (pos:=Zjm) (q:=qD) (.inl tD1),sm2 PL _ (Ne.symm nDL) tL1,hL,hDl,D⟩⟩⟩) (fun v H2 z=>?_);obtain⟨l,as,css,rfl,x2,tL2,hL,hDl,D⟩:=z;have hS2:=x2.seq hS1;have hRu2:=hRu1.x x2;refine Yk (fun v H3=>Same H2 H3∧∃(st lt:Addr) (lead:Nat),v = .ref st∧lead < fx.n∧H3 st=some (.tup [.ref l,.int (lead:Nat),.ref lt])∧H3 lt=some (.lst [])) (fun R hR=>?_) (fun v H3 z=>?_)
 ·obtain⟨lp,lh,hDi,_,_⟩:=id hRu2
  obtain⟨g1,g2,g3,g4,g5,g6,g7,g8⟩:=@Et fx t sz lp lh;refine⟨_,rfl,_,rfl,a,ns,4,rfl,hS2,by omega,fun c4=>⟨_,rfl,d,_,rfl,V3 hDi g1,_,_,rfl,rfl,(by show(0:Int) < ((fx.n:Nat):Int);omega),Jl 0 (by decide),fun tz htz=>⟨Jl 3 (by decide),fun p hp=>?_⟩⟩⟩;obtain⟨lead,el,ll⟩:=Zkd c4 n0;have a6:=Zy htz (.lst []);have a7:=Zy hp (.tup [.ref l,.int (c4 % ((fx.n:Nat):Int)),.ref tz]);exact hR _ _ ⟨a6.trans a7,p,tz,lead,rfl,ll,(by rw[Zj];show some (HO.tup [V.ref l,V.int (c4 % ((fx.n:Nat):Int)),V.ref tz])=_;rw[el]),a7 _ _ Zj⟩
 obtain⟨s3,st0,lt0,lead0,rfl,ld0,hst0,hlt0⟩:=z;have hSt0:IsSt H3 st0 css lead0 []:=⟨l,lt0,as,hst0,s3 _ _ hL,hDl.same s3,hlt0⟩;have S0:=D.st ok ld0;have hRu3:=hRu2.same s3;have hS3:=s3.seq hS2;refine Yk (fun v H7=>∃(HB:Hp) (x gm gx lc lk:Addr),v = .ref x∧Same H3 HB∧Same HB H7∧(HB x=none∧HB lc=none∧HB lk=none)∧GamH CT CG fx t HB gm gx∧IsPy CP H7 x gm lc lk (css.map hN) lead0 (css.map hN) lead0 [] [] []) (fun R hR=>?_) (fun v H7 z=>?_)
 ·refine⟨_,rfl,d,fx,t,sz,rfl,ok,hRu3,fun gm gx HG sG G=>?_⟩
  have s3G:=s3.trans sG;refine⟨_,rfl,l,rfl,⟨_,SqL.of (s3G _ _ hL)⟩,Ue (K:=K) (xs:=as.map V.ref) (fun _=>true) (Zcb H2) (SqL.of (s3G _ _ hL)) (Jl _ (by rw[Zi,hDl.1,D.len];omega)) (fun x H3 hx sm R hR=>hR H3 (Same.refl H3)) (fun xv H5 hx hp sm R hR=>?_) (fun l2 HB sB hl2 hL2=>?_)⟩
  ·obtain⟨av,hav,rfl⟩:=Z2.mp hx
   obtain⟨j,hj,ej⟩:=Jv.mp hav;obtain⟨cs,e1,e2⟩:=hDl.2 j av (by rw[Zb hj,ej]);have mcs:=Zr e1;refine⟨_,rfl,av,cs,rfl,SqL.of (sm _ _ (s3G _ _ e2)),D.nd1 mcs,D.c32 ok mcs,by rw[D.each cs mcs];omega,fun H6 s6=>?_⟩;have z:=hR H6 s6;rw[Kh e2] at z;exact z
  ·rw[Zau hDl] at hL2
   refine⟨_,rfl,st0,_,_,_,rfl,rfl,SqT.of (sB _ _ (sG _ _ hst0)),(rfl:Xg [V.ref l,V.int (lead0:Nat),V.ref lt0] 1=some (V.int (lead0:Nat))),?_⟩;intro x dx hx hdx nx;have sm:=Xi (o:=.ins CP dx []) hx hdx nx;refine⟨x,dx,gm,gx,l2,t,fx,_,lead0,sz,rfl,Zj,(G.same sB).same sm,sm _ _ hL2,S0.plc,fun lc lk H' kp nlc nlk Py=>⟨rfl,hR _ _ ⟨HB,x,gm,gx,lc,lk,rfl,sG.trans sB,Vy hx hdx nx kp,⟨hx,sm.free nlc,sm.free nlk⟩,G.same sB,Py⟩⟩⟩
 obtain⟨HB,x,gm,gx,lc,lk,rfl,sB,sP,nB,GB,Py0⟩:=z;have RuB:=hRu3.same sB;have SB:=sB.seq hS3;refine Yk (fun v H8=>H8=H7∧v = .int 0) (fun R hR=>hR _ _ ⟨rfl,rfl⟩) (fun v H8 z=>?_);obtain⟨rfl,rfl⟩:=z;obtain⟨lp,lh,hDi,_,_⟩:=id RuB;obtain⟨g1,g2,g3,g4,g5,g6,g7,g8⟩:=@Et fx t sz lp lh;have ez:((fx.n:Nat):Int) * ((sz:Nat):Int)+1=((fx.n * sz+1:Nat):Int):=by rw[← Int.natCast_mul];omega
 refine⟨_,rfl,d,_,rfl,V3 (sP _ _ hDi) g1,_,rfl,d,_,rfl,V3 (sP _ _ hDi) g8,_,_,rfl,rfl,.inl ⟨by omega,by omega⟩,_,_,rfl,rfl,((fx.n * sz+1:Nat):Int),(by show [V.int (((fx.n:Nat):Int) * ((sz:Nat):Int)+1)]=_;rw[ez]),by omega,by omega,?_⟩;refine X9 (n:=fx.n * sz+1) (fun i σ H'=>∃(st:Addr) (css':List (List Nat)) (lead m:Nat) (ys row came:List Nat) (x6 x7 x8 x9 x10 x11:Option V),σ=[some (.ref a),some (.ref d),some (.ref l),some (.ref st),some (.ref x),some (.int ((came.length:Nat):Int)),x6,x7,x8,x9,x10,x11]∧Inv25 CP PL HB H' x gm lc lk st fx (css.map hN) lead0 css' lead m ys row came i)
  ⟨st0,css,lead0,sz,[],[],[],none,none,none,none,none,none,rfl,sP.x,.inl (sP _ _ (sB _ _ (s3 _ _ tL2))),Py0,(hSt0.same sB).same sP,S0,Nat.le_refl 0,Nat.le_refl 0⟩ (fun i σ H9 hi z=>?_) (fun σ H9 z=>q H9)
 obtain⟨st,css',lead,m,ys,row,came,x6,x7,x8,x9,x10,x11,rfl,I⟩:=z;have S:=I.ok;have i5:(5:Int)+(0+((i:Nat):Int))=((5+i:Nat):Int):=by omega
 have i23:(23:Int)+(0+((i:Nat):Int))=((23+i:Nat):Int):=by omega
 have c40:came.length≤100:=by have:=I.cl;omega
 have r40:row.length≤100:=by have:=I.rl;omega
 refine⟨_,rfl,_,rfl,_,_,rfl,rfl,a,ns,5+i,(by show [V.ref a,V.int ((5:Int)+(0+((i:Nat):Int)))]=_;rw[i5]),I.s.seq SB,by omega,fun c5=>⟨c5,2,rfl,by decide,fun lz nz HA sA hlz hLz ln zp=>?_⟩⟩;refine⟨lz,rfl,⟨_,SqL.of hLz⟩,Ti (K:=K) (xs:=nz.map V.int) (fun j σ H'=>(∃ x7:Option V,σ=[some (.ref a),some (.ref d),some (.ref l),some (.ref st),some (.ref x),some (.int ((came.length:Nat):Int)),some (.int (0+((i:Nat):Int))),x7,x8,x9,x10,x11])∧SameX HA H'∧TabSt H' PL Ak qL)
  ⟨⟨x7,rfl⟩,(Same.refl HA).x,I.tb.same sA⟩ (fun j σ H' _ z=>SqL.of (z.2.1 _ _ (fun _ z=>nomatch z) hLz)) (fun j v σ H' hv z=>?_) (fun σ H' z=>?_)⟩
 ·obtain⟨⟨y7,rfl⟩,xA,tA⟩:=z
  rw[Zm] at hv;obtain⟨zc,_,rfl⟩:=Option.map_eq_some_iff.mp hv;have xx:=sA.x.trans xA;refine⟨_,rfl,_,rfl,_,rfl,_,rfl,_,rfl,x,gm,gx,lc,lk,d,st,t,fx,sz,css.map hN,lead0,css',lead,m,ys,row,came,zc,rfl,tb,RuB.x (I.s.trans xx),I.py.x xx,GB.x (I.s.trans xx),I.st.x xx,S,c40,tA,fun HC xC tC=>⟨true,rfl,J9 ⟨⟨_,rfl⟩,xA.trans xC,tC⟩⟩⟩
 obtain⟨⟨y7,rfl⟩,xA,tA⟩:=z;refine nxE ?_;have xx:=sA.x.trans xA;have x3:=I.s.trans xx;have Py3:=I.py.x xx;have St3:=I.st.x xx;generalize H'=H3' at *;obtain⟨cs,ec,ecl⟩:=S.turn ok;have cm:=Zr ec;have cl:=(S.cl ok cm).1;obtain⟨lc',lt',as',k1',k2,k3,k4⟩:=id St3;have sl:(lead+ys.length) % fx.n < as'.length:=by rw[k3.1,S.len];exact Xy ok _ _
 obtain⟨cs',e1,e2'⟩:=k3.2 _ _ (Zb sl);rw[ec] at e1;cases e1;refine Yk (fun v H4=>Same H3' H4∧∃ o,v = .ref o∧H4 o=some (.lst (vN (Xw fx t ys (hN cs))))) (fun R hR=>?_) (fun v H4 z=>?_)
 ·refine⟨_,rfl,_,rfl,st,_,_,_,rfl,rfl,SqT.of k1',(rfl:Xg [V.ref lc',V.int (lead:Nat),V.ref lt'] 0=some (V.ref lc')),_,rfl,st,css',lead,ys,rfl,St3,by rw[S.len];exact n0,lc',_,_,V.ref as'[(lead+ys.length) % fx.n],rfl,rfl,SqL.of k2,(by rw[S.len];exact Um (by rw[Zm,Zb sl];rfl)),_,rfl,st,_,_,_,rfl,rfl,SqT.of k1',(rfl:Xg [V.ref lc',V.int (lead:Nat),V.ref lt'] 2=some (V.ref lt')),?_⟩
  refine⟨d,as'[(lead+ys.length) % fx.n],lt',fx,t,sz,cs,ys,rfl,ok,RuB.x x3,e2',k4,by omega,S.beg ok cm,fun o H4 s4 ho=>hR _ _ ⟨s4,o,rfl,?_⟩⟩;rw[Zal (S.up cs cm) (S.c32 ok cm)];exact ho
 obtain⟨s4,o,rfl,ho⟩:=z;have x4:=x3.trans s4.x;have Py4:=Py3.same s4;have St4:=St3.same s4;have tA4:=tA.same s4;have sos:=Zke (f:=fx) (t:=t) (ys:=ys) (S.up cs cm) (S.c32 ok cm);refine⟨_,rfl,o,_,rfl,.inl (SqL.of ho),_,_,rfl,rfl,_,rfl,Bz (fun hp=>?_) (fun _=>⟨st,css',lead,m,ys,row,came,_,_,_,_,_,_,rfl,x4,tA4,Py4,St4,S,Nat.le_succ_of_le I.rl,Nat.le_succ_of_le I.cl⟩)⟩;have sop:0 < (Xw fx t ys (hN cs)).length:=by have z:=Jx hp;rw[Jq] at z;omega
 refine Yk (fun v H5=>H5=H4∧∃ c,c∈Xw fx t ys (hN cs)∧v = .int (c:Nat)) (fun R hR=>?_) (fun v H5 z=>?_)
 ·generalize Xw fx t ys (hN cs)=so at *
  refine⟨_,rfl,_,rfl,_,rfl,_,_,rfl,rfl,a,ns,23+i,(by show [V.ref a,V.int ((23:Int)+(0+((i:Nat):Int)))]=_;rw[i23]),x4.seq SB,by omega,fun c6=>?_⟩;obtain⟨j,ej,jl⟩:=Zkd c6 sop;have hx:so.getD j 0∈so:=by rw[Zk,Zb jl];exact Yy _
  have hat:Xg (vN so) (c6 % (((vN so).length:Nat):Int))=some (.int ((so.getD j 0:Nat):Int)):=by rw[Jq,ej];exact Rl jl
  exact⟨_,rfl,o,_,rfl,.inl (SqL.of ho),_,_,rfl,rfl,(by show(0:Int) < (((vN so).length:Nat):Int);rw[Jq];omega),o,_,_,_,rfl,rfl,SqL.of ho,hat,hR _ _ ⟨rfl,_,hx,rfl⟩⟩
 obtain⟨rfl,c,hcm,rfl⟩:=z;have hcs:=sos c hcm;have mp:0 < m:=by rw[← ecl];exact List.length_pos_of_mem hcs
 refine Yk (fun v H6=>H6=H5∧v = .int (((lead+ys.length) % fx.n:Nat):Int)) (fun R hR=>⟨_,rfl,st,css',lead,ys,rfl,St4,by rw[S.len];exact n0,hR _ _ ⟨rfl,by rw[S.len]⟩⟩) (fun v H6 z=>?_);obtain⟨rfl,rfl⟩:=z;have eh:(css'.map hN)[(lead+ys.length) % fx.n]? = some (hN cs):=by rw[Zm,ec];rfl
 have hb:(hN cs).testBit c=true:=by rw[Ur];exact Zf hcs
 refine⟨_,rfl,_,rfl,_,rfl,d,st,fx,t,sz,css',lead,m,ys,cs,c,rfl,ok,RuB.x x4,St4,S,ec,hcs,fun r st' lead' ys' tk' H7 s7 hr7 hSt7 N=>?_⟩;refine⟨r,_,rfl,SqT.of hr7,rfl,_,_,rfl,_,_,rfl,rfl,?_⟩;refine nxE ?_;obtain⟨m',S',_,_,_⟩:=S.put ok ec hcs N;have x7:=x4.trans s7.x;have Py7:=Py4.same s7;have G7:=GB.x x7;obtain⟨dx7,fs7,pb7,pn7,hx7,A7,hpb7,hpn7⟩:=id Py7.o;obtain⟨dx6,fs6,pb6,pn6,hx6,_⟩:=id Py4.o;generalize ecss:css'.set ((lead+ys.length) % fx.n) (cs.filter fun o=>decide (o≠c))=css2 at *;refine⟨_,rfl,x,dx7,_,rfl,hx7,A7.nm _ (by decide +kernel),_,rfl,_,rfl,x,gm,gx,lc,lk,t,fx,_,lead0,_,lead,m,hN cs,c,ys,row,came,rfl,tb,Py7,G7,S.plc,mp,eh,hcm,r40,c40,fun hs2 lead2 ys2 tk2 H8 k8 N2 Py8=>?_⟩;obtain⟨u1,u2,u3,u4⟩:=N.uniq S.plc eh hb N2;subst u1 u2 u3 u4;have eN:(!decide (T1 tk'=T1 tk'))=false:=by rw[Zf rfl];rfl
 refine⟨_,rfl,(by cases tk'<;>rfl),_,rfl,Xu eN (J9 (Bs ?_))⟩;have St8:IsSt H8 st' css2 lead' ys':=hSt7.kept fun b o n h=>k8 b o (fun z=>by rw[z,hx6] at n;cases n) (fun z=>by rw[z,Py4.c] at n;cases n) (fun z=>by rw[z,Py4.t] at n;cases n) h;have tkl:tk'.toList.length≤1:=by cases tk'<;>simp
 refine⟨_,rfl,_,rfl,rfl,_,rfl,_,_,rfl,rfl,?_⟩;exact⟨st',css2,lead',m',ys',row++[c],came++tk'.toList,_,_,_,_,_,_,(by rw[← Zhx];rfl),Zp0 nB x7 k8,Sa (tA4.same s7) Py7 k8,Py8,St8,S',by rw[Z3];exact Nat.succ_le_succ I.rl,by rw[Z3];have:=I.cl;omega⟩
end
theorem all_mk{wd dtd:Option Addr}{dtc:Value}{tw1 tw2 tw3 tw4 tw5:Tok}{wn dtn:Nat}{wsl dts:Array (Option Value)}{cdW:ClassData}{ocLO:Value}{odLO:Option Addr}{vsLO:Array Value}{slLO:Array (Option Value)}{ocLD:Value}{odLD:Option Addr}{vsLD:Array Value}{slLD:Array (Option Value)}{ocLL:Value}{odLL:Option Addr}{vsLL:Array Value}{slLL:Array (Option Value)}{l:W.OpenLaw}{w:World}{K:W.Frag}{h:Heap}{mg:Str→Option Value}{fa f1 f2 f3 f4 f5 f6 f7 f8 f9 f10 f11 f12 f13 f14 f15 f16 f17 f18 f19 f20 f21 f22 f23 f24 f25 f26 f27 f28 f29 f30 f31 f32 f33 f34 f35 f36 f37 f38 f39 f40 f_F f_L f_C f_B f_AF f_AL f_AC f_AB f_I f_D f_O f_G f_S f_V f_M f_W f_P f_YI f_YR f_YU f_YP f_YT f_YM f_YK f_YY f_BI CN CF CL CC CB CT CG aM dT CP CE CW e0 e1 e2 e3 e4 e5 e6 e7 e8 e10 e11 e12 e13 e14 cO PO cD PD cL PL:Addr}(X:K.In h)(G:h.Ns mainGlobals mg)(hfa:mg "law" = some (.ref fa))
  {d1 d2 d3 d4 d5 d6 d7 d8 d9 d10 d11 d12 d13 d14 d15 d16 d17 d18 d19 d20 d21 d22 d23 d24 d25 d27 d28 d30 d31 d32 d33 d34 d35 d36 d37 d39 d_F d_L d_C d_B d_AF d_AL d_AC d_AB d_I d_D d_O d_S d_V d_M d_W d_P d_YI d_YR d_YU d_YP d_YT d_YM d_YK d_YY d_BI:FuncData} {od26 an26 od29 an29 od38 an38 od40 an40 od_G an_G:Option Addr} {sl26 sl29 sl38 sl40 sl_G:Array (Option Value)} {oc26 kV26 dc26 pm26 cd26 ct26 oc29 kV29 dc29 pm29 cd29 ct29 oc38 kV38 dc38 pm38 cd38 ct38 oc40 kV40 dc40 pm40 cd40 ct40 oc_G kV_G dc_G pm_G cd_G ct_G:Value} {t1 t2 t3 t4:Tok}
  (a1:W.nsIn K mainGlobals "duty_of" = some (some (.ref f1)))
  (a2:W.nsIn K mainGlobals "words_behind_marks" = some (some (.ref f2)))
  (a3:W.nsIn K mainGlobals "read_size" = some (some (.ref f3)))
  (a4:W.nsIn K mainGlobals "read_seats" = some (some (.ref f4)))
  (a5:W.nsIn K mainGlobals "read_order" = some (some (.ref f5)))
  (a6:W.nsIn K mainGlobals "is_later" = some (some (.ref f6)))
  (a7:W.nsIn K mainGlobals "cards_in" = some (some (.ref f7)))
  (a8:W.nsIn K mainGlobals "hand_of" = some (some (.ref f8)))
  (a9:W.nsIn K mainGlobals "of_suit" = some (some (.ref f9)))
  (a10:W.nsIn K mainGlobals "of_led_suit" = some (some (.ref f10)))
  (a11:W.nsIn K mainGlobals "followed_or_cut" = some (some (.ref f11)))
  (a12:W.nsIn K mainGlobals "goes_over_all" = some (some (.ref f12)))
  (a13:W.nsIn K mainGlobals "many" = some (some (.ref f13)))
  (a14:W.nsIn K mainGlobals "is_apart" = some (some (.ref f14)))
  (a15:W.nsIn K mainGlobals "is_level" = some (some (.ref f15)))
  (a16:W.nsIn K mainGlobals "is_seat" = some (some (.ref f16)))
  (a17:W.nsIn K mainGlobals "seat_round" = some (some (.ref f17)))
  (a18:W.nsIn K mainGlobals "hands_with_trick" = some (some (.ref f18)))
  (a19:W.nsIn K mainGlobals "is_place" = some (some (.ref f19)))
  (a20:W.nsIn K mainGlobals "turn_at" = some (some (.ref f20)))
  (a21:W.nsIn K mainGlobals "moves" = some (some (.ref f21)))
  (a22:W.nsIn K mainGlobals "left" = some (some (.ref f22)))
  (a23:W.nsIn K mainGlobals "behind" = some (some (.ref f23)))
  (a24:W.nsIn K mainGlobals "_law_cell" = some (some (.ref f24)))
  (a25:W.nsIn K mainGlobals "_law_drawn" = some (some (.ref f25)))
  (a26:W.nsIn K mainGlobals "_law_order" = some (some (.ref f26)))
  (a27:W.nsIn K mainGlobals "_law_rules" = some (some (.ref f27)))
  (a28:W.nsIn K mainGlobals "_law_game" = some (some (.ref f28)))
  (a29:W.nsIn K mainGlobals "_law_deal" = some (some (.ref f29)))
  (a30:W.nsIn K mainGlobals "_law_hand" = some (some (.ref f30)))
  (a31:W.nsIn K mainGlobals "_law_rank" = some (some (.ref f31)))
  (a32:W.nsIn K mainGlobals "_law_may" = some (some (.ref f32)))
  (a33:W.nsIn K mainGlobals "_law_turn" = some (some (.ref f33)))
  (a34:W.nsIn K mainGlobals "_law_put" = some (some (.ref f34)))
  (a35:W.nsIn K mainGlobals "_law_whole" = some (some (.ref f35)))
  (a36:W.nsIn K mainGlobals "_law_rule" = some (some (.ref f36)))
  (a37:W.nsIn K mainGlobals "_law_refused" = some (some (.ref f37)))
  (a38:W.nsIn K mainGlobals "_law_looks" = some (some (.ref f38)))
  (a39:W.nsIn K mainGlobals "_law_tried" = some (some (.ref f39)))
  (a40:W.nsIn K mainGlobals "law" = some (some (.ref f40)))
  (hCN:W.nsIn K mainGlobals "NoTable" = some (some (.ref CN)))
  (hCF:W.nsIn K mainGlobals "Free" = some (some (.ref CF)))
  (hCL:W.nsIn K mainGlobals "Follow" = some (some (.ref CL)))
  (hCC:W.nsIn K mainGlobals "Cut" = some (some (.ref CC)))
  (hCB:W.nsIn K mainGlobals "Beat" = some (some (.ref CB)))
  (hCT:W.nsIn K mainGlobals "Table" = some (some (.ref CT)))
  (hCG:W.nsIn K mainGlobals "Game" = some (some (.ref CG)))
  (w1:W.nsIn K mainGlobals "MARKS" = some (some (.ref aM)))
  (hCP:W.nsIn K mainGlobals "Play" = some (some (.ref CP)))
  (hCE:W.nsIn K mainGlobals "TrickError" = some (some (.ref CE)))
  (hCW:W.nsIn K mainGlobals "BadPlay" = some (some (.ref CW)))
  (he0:W.nsIn K mainGlobals "NoPlay" = some (some (.ref e0)))
  (he1:W.nsIn K mainGlobals "NoCall" = some (some (.ref e1)))
  (he2:W.nsIn K mainGlobals "NoCard" = some (some (.ref e2)))
  (he3:W.nsIn K mainGlobals "NoDeal" = some (some (.ref e3)))
  (he4:W.nsIn K mainGlobals "NoHand" = some (some (.ref e4)))
  (he5:W.nsIn K mainGlobals "NoRecord" = some (some (.ref e5)))
  (he6:W.nsIn K mainGlobals "NoRow" = some (some (.ref e6)))
  (he7:W.nsIn K mainGlobals "NoShare" = some (some (.ref e7)))
  (he8:W.nsIn K mainGlobals "NoSheet" = some (some (.ref e8)))
  (he10:W.nsIn K mainGlobals "NotNow" = some (some (.ref e10)))
  (he11:W.nsIn K mainGlobals "NotYet" = some (some (.ref e11)))
  (he12:W.nsIn K mainGlobals "NoView" = some (some (.ref e12)))
  (he13:W.nsIn K mainGlobals "TooMany" = some (some (.ref e13)))
  (he14:W.nsIn K mainGlobals "TooMuch" = some (some (.ref e14)))
  (l26:K.lookup f26=some ⟨oc26,od26,.func (W.fnOf "_law_order" "_law_order" (Us Nz) (Y0 Nz) (Zp Nz) .none kV26 dc26 pm26 an26 cd26 ct26),sl26⟩)
  (c26:W.codeIn K cd26 "_law_order" = true)
  (k26:W.keepIn K (.ref f26)=true)
  (l29:K.lookup f29=some ⟨oc29,od29,.func (W.fnOf "_law_deal" "_law_deal" (Us Bl) (Y0 Bl) (Zp Bl) .none kV29 dc29 pm29 an29 cd29 ct29),sl29⟩)
  (c29:W.codeIn K cd29 "_law_deal" = true)
  (k29:W.keepIn K (.ref f29)=true)
  (l38:K.lookup f38=some ⟨oc38,od38,.func (W.fnOf "_law_looks" "_law_looks" (Us N1) (Y0 N1) (Zp N1) .none kV38 dc38 pm38 an38 cd38 ct38),sl38⟩)
  (c38:W.codeIn K cd38 "_law_looks" = true)
  (k38:W.keepIn K (.ref f38)=true)
  (l40:K.lookup f40=some ⟨oc40,od40,.func (W.fnOf "law" "law" (Us T4) (Y0 T4) (Zp T4) .none kV40 dc40 pm40 an40 cd40 ct40),sl40⟩)
  (c40:W.codeIn K cd40 "law" = true)
  (k40:W.keepIn K (.ref f40)=true)
  (a_F:W.findIn K (.ref CF) "word" = some (some (.ref f_F)))
  (i_F:W.isFn K (.ref f_F)=true)
  (a_L:W.findIn K (.ref CL) "word" = some (some (.ref f_L)))
  (i_L:W.isFn K (.ref f_L)=true)
  (a_C:W.findIn K (.ref CC) "word" = some (some (.ref f_C)))
  (i_C:W.isFn K (.ref f_C)=true)
  (a_B:W.findIn K (.ref CB) "word" = some (some (.ref f_B)))
  (i_B:W.isFn K (.ref f_B)=true)
  (a_AF:W.findIn K (.ref CF) "allowed" = some (some (.ref f_AF)))
  (i_AF:W.isFn K (.ref f_AF)=true)
  (a_AL:W.findIn K (.ref CL) "allowed" = some (some (.ref f_AL)))
  (i_AL:W.isFn K (.ref f_AL)=true)
  (a_AC:W.findIn K (.ref CC) "allowed" = some (some (.ref f_AC)))
  (i_AC:W.isFn K (.ref f_AC)=true)
  (a_AB:W.findIn K (.ref CB) "allowed" = some (some (.ref f_AB)))
  (i_AB:W.isFn K (.ref f_AB)=true)
  (a_I:W.findIn K (.ref CT) "__init__" = some (some (.ref f_I)))
  (i_I:W.isFn K (.ref f_I)=true)
  (a_D:W.findIn K (.ref CT) "duty" = some (some (.ref f_D)))
  (i_D:W.isFn K (.ref f_D)=true)
  (a_O:W.findIn K (.ref CT) "order" = some (some (.ref f_O)))
  (i_O:W.isFn K (.ref f_O)=true)
  (a_G:W.findIn K (.ref CG) "__init__" = some (some (.ref f_G)))
  (l_G:K.lookup f_G=some ⟨oc_G,od_G,.func (W.fnOf "__init__" "Game.__init__" (Us Uu) (Y0 Uu) (Zp Uu) (.ref dT) kV_G dc_G pm_G an_G cd_G ct_G),sl_G⟩)
  (c_G:W.codeIn K cd_G "Game.__init__" = true)
  (k_G:W.keepIn K (.ref f_G)=true)
  (i_G:W.isFn K (.ref f_G)=true)
  (a_S:W.findIn K (.ref CG) "is_stronger" = some (some (.ref f_S)))
  (i_S:W.isFn K (.ref f_S)=true)
  (a_V:W.findIn K (.ref CG) "is_over" = some (some (.ref f_V)))
  (i_V:W.isFn K (.ref f_V)=true)
  (a_M:W.findIn K (.ref CG) "may" = some (some (.ref f_M)))
  (i_M:W.isFn K (.ref f_M)=true)
  (a_W:W.findIn K (.ref CG) "winner" = some (some (.ref f_W)))
  (i_W:W.isFn K (.ref f_W)=true)
  (a_P:W.findIn K (.ref CG) "pack" = some (some (.ref f_P)))
  (i_P:W.isFn K (.ref f_P)=true)
  (a_YI:W.findIn K (.ref CP) "__init__" = some (some (.ref f_YI)))
  (i_YI:W.isFn K (.ref f_YI)=true)
  (a_YR:W.findIn K (.ref CP) "broken_rule" = some (some (.ref f_YR)))
  (i_YR:W.isFn K (.ref f_YR)=true)
  (a_YU:W.findIn K (.ref CP) "put" = some (some (.ref f_YU)))
  (i_YU:W.isFn K (.ref f_YU)=true)
  (a_YP:W.findIn K (.ref CP) "place" = some (some (.ref f_YP)))
  (i_YP:W.isFn K (.ref f_YP)=true)
  (a_YT:W.findIn K (.ref CP) "turn" = some (some (.ref f_YT)))
  (i_YT:W.isFn K (.ref f_YT)=true)
  (a_YM:W.findIn K (.ref CP) "may" = some (some (.ref f_YM)))
  (i_YM:W.isFn K (.ref f_YM)=true)
  (a_YK:W.findIn K (.ref CP) "taken" = some (some (.ref f_YK)))
  (i_YK:W.isFn K (.ref f_YK)=true)
  (a_YY:W.findIn K (.ref CP) "played" = some (some (.ref f_YY)))
  (i_YY:W.isFn K (.ref f_YY)=true)
  (a_BI:W.findIn K (.ref CW) "__init__" = some (some (.ref f_BI)))
  (i_BI:W.isFn K (.ref f_BI)=true)
  (g1:W.nsIn K mainGlobals "HEIGHTS" = some (some (.int 8 t1)))
  (g2:W.nsIn K mainGlobals "LETTERS" = some (some (.str "abcd" t2)))
  (g3:W.nsIn K mainGlobals "FIGURES" = some (some (.str "12345678" t3)))
  (g4:W.nsIn K mainGlobals "LOWEST_SUIT" = some (some (.int 255 t4)))
  (z1:W.nsIn K mainGlobals "len" = some none)
  (z2:W.nsIn K mainGlobals "range" = some none)
  (z3:W.nsIn K mainGlobals "isinstance" = some none)
  (z4:W.nsIn K mainGlobals "int" = some none)
  (z5:W.nsIn K mainGlobals "str" = some none)
  (z6:W.nsIn K mainGlobals "list" = some none)
  (z7:W.nsIn K mainGlobals "tuple" = some none)
  (z8:W.nsIn K mainGlobals "sorted" = some none)
  (z9:W.nsIn K mainGlobals "sum" = some none)
  (z10:W.nsIn K mainGlobals "all" = some none)
  (z11:W.nsIn K mainGlobals "any" = some none)
  (z12:W.nsIn K mainGlobals "enumerate" = some none)
  (z13:W.nsIn K mainGlobals "max" = some none)
  (z14:W.nsIn K mainGlobals "min" = some none)
  (z15:W.nsIn K mainGlobals "bool" = some none)
  (z16:W.nsIn K mainGlobals "ValueError" = some none)
  (pgCF:W.plainGet K CF Str.empty=true)
  (hdCF:W.hasDictIn K CF=true)
  (poCF:W.plainOver K CF=true)
  (saCF:W.findIn K (.ref CF) "__setattr__" = some (some (.builtin "object.__setattr__")))
  (mkCF:W.makesIn K CF=true)
  (kcCF:W.keepIn K (.ref CF)=true)
  (oiCF:W.findIn K (.ref CF) "__init__" = some (some (.builtin "object.__init__")))
  (pgCL:W.plainGet K CL Str.empty=true)
  (hdCL:W.hasDictIn K CL=true)
  (poCL:W.plainOver K CL=true)
  (saCL:W.findIn K (.ref CL) "__setattr__" = some (some (.builtin "object.__setattr__")))
  (mkCL:W.makesIn K CL=true)
  (kcCL:W.keepIn K (.ref CL)=true)
  (oiCL:W.findIn K (.ref CL) "__init__" = some (some (.builtin "object.__init__")))
  (pgCC:W.plainGet K CC Str.empty=true)
  (hdCC:W.hasDictIn K CC=true)
  (poCC:W.plainOver K CC=true)
  (saCC:W.findIn K (.ref CC) "__setattr__" = some (some (.builtin "object.__setattr__")))
  (mkCC:W.makesIn K CC=true)
  (kcCC:W.keepIn K (.ref CC)=true)
  (oiCC:W.findIn K (.ref CC) "__init__" = some (some (.builtin "object.__init__")))
  (pgCB:W.plainGet K CB Str.empty=true)
  (hdCB:W.hasDictIn K CB=true)
  (poCB:W.plainOver K CB=true)
  (saCB:W.findIn K (.ref CB) "__setattr__" = some (some (.builtin "object.__setattr__")))
  (mkCB:W.makesIn K CB=true)
  (kcCB:W.keepIn K (.ref CB)=true)
  (oiCB:W.findIn K (.ref CB) "__init__" = some (some (.builtin "object.__init__")))
  (pgCT:W.plainGet K CT Str.empty=true)
  (hdCT:W.hasDictIn K CT=true)
  (poCT:W.plainOver K CT=true)
  (saCT:W.findIn K (.ref CT) "__setattr__" = some (some (.builtin "object.__setattr__")))
  (mkCT:W.makesIn K CT=true)
  (kcCT:W.keepIn K (.ref CT)=true)
  (pgCG:W.plainGet K CG Str.empty=true)
  (hdCG:W.hasDictIn K CG=true)
  (poCG:W.plainOver K CG=true)
  (saCG:W.findIn K (.ref CG) "__setattr__" = some (some (.builtin "object.__setattr__")))
  (mkCG:W.makesIn K CG=true)
  (kcCG:W.keepIn K (.ref CG)=true)
  (nTS:W.findIn K (.ref CT) "suits" = some none)
  (nTH:W.findIn K (.ref CT) "heights" = some none)
  (nTN:W.findIn K (.ref CT) "seats" = some none)
  (nTD:W.findIn K (.ref CT) "duty_word" = some none)
  (nTP:W.findIn K (.ref CT) "plain_order" = some none)
  (nTT:W.findIn K (.ref CT) "trump_order" = some none)
  (nTW:W.findIn K (.ref CT) "written" = some none)
  (nGT:W.findIn K (.ref CG) "table" = some none)
  (nGU:W.findIn K (.ref CG) "trump" = some none)
  (w2:K.lookup aM=some ⟨.type "tuple",wd,.seq #[.str "pack" tw1,.str "seats" tw2,.str "duty" tw3,.str "plain" tw4,.str "trump" tw5] wn,wsl⟩)
  (w3:K.lookup dT=some ⟨dtc,dtd,.seq #[.none] dtn,dts⟩)
  (pgCP:W.plainGet K CP Str.empty=true)
  (hdCP:W.hasDictIn K CP=true)
  (poCP:W.plainOver K CP=true)
  (saCP:W.findIn K (.ref CP) "__setattr__" = some (some (.builtin "object.__setattr__")))
  (mkCP:W.makesIn K CP=true)
  (kcCP:W.keepIn K (.ref CP)=true)
  (nP1:W.findIn K (.ref CP) "game" = some none)
  (nP2:W.findIn K (.ref CP) "beginning" = some none)
  (nP3:W.findIn K (.ref CP) "now" = some none)
  (nP4:W.findIn K (.ref CP) "cards" = some none)
  (nP5:W.findIn K (.ref CP) "takers" = some none)
  (vy1:W.clsIn K CW=some cdW)
  (vy2:W.findIn K (.ref CW) "__getattribute__" = some (some (.builtin "BaseException.__getattribute__")))
  (vy3:W.findIn K (.ref CW) "__getattr__" = some none)
  (vy4:W.findIn K (.ref CW) "__class__" = some (some (.builtin "object.__class__")))
  (vy5:W.specialIn K (.builtin "object.__class__") "__get__" = some (some (.builtin "getset_descriptor.__get__")))
  (vy6:W.takesIn K (.builtin "object.__class__")=some true)
  (vy7:W.mroIn K CW (.type "object")=some true)
  (vy8:W.mroIn K CW (.type "BaseException")=some true)
  (xb2:W.findIn K (.ref CW) "__setattr__" = some (some (.builtin "object.__setattr__")))
  (xb4:W.hasDictIn K CW=true)
  (xb5:W.findIn K (.ref CW) "rule" = some none)
  (xb6:W.findIn K (.ref CW) "trick" = some none)
  (F1:Fun K "duty_of" "duty_of" Ob f1 d1)
  (F2:Fun K "words_behind_marks" "words_behind_marks" S3 f2 d2)
  (F3:Fun K "read_size" "read_size" Vm f3 d3)
  (F4:Fun K "read_seats" "read_seats" Ny f4 d4)
  (F5:Fun K "read_order" "read_order" Q8 f5 d5)
  (F6:Fun K "is_later" "is_later" S4 f6 d6)
  (F7:Fun K "cards_in" "cards_in" Gj f7 d7)
  (F8:Fun K "hand_of" "hand_of" D9 f8 d8)
  (F9:Fun K "of_suit" "of_suit" D6 f9 d9)
  (F10:Fun K "of_led_suit" "of_led_suit" Gg f10 d10)
  (F11:Fun K "followed_or_cut" "followed_or_cut" Zl9 f11 d11)
  (F12:Fun K "goes_over_all" "goes_over_all" Bj f12 d12)
  (F13:Fun K "many" "many" Zfw f13 d13)
  (F14:Fun K "is_apart" "is_apart" S8 f14 d14)
  (F15:Fun K "is_level" "is_level" D7 f15 d15)
  (F16:Fun K "is_seat" "is_seat" D8 f16 d16)
  (F17:Fun K "seat_round" "seat_round" Sx f17 d17)
  (F18:Fun K "hands_with_trick" "hands_with_trick" Zfs f18 d18)
  (F19:Fun K "is_place" "is_place" Er f19 d19)
  (F20:Fun K "turn_at" "turn_at" D2 f20 d20)
  (F21:Fun K "moves" "moves" Sz f21 d21)
  (F22:Fun K "left" "left" Zbo f22 d22)
  (F23:Fun K "behind" "behind" Oc f23 d23)
  (F24:Fun K "_law_cell" "_law_cell" Zfx f24 d24)
  (F25:Fun K "_law_drawn" "_law_drawn" S6 f25 d25)
  (F27:Fun K "_law_rules" "_law_rules" Sw f27 d27)
  (F28:Fun K "_law_game" "_law_game" Af f28 d28)
  (F30:Fun K "_law_hand" "_law_hand" Zbp f30 d30)
  (F31:Fun K "_law_rank" "_law_rank" Zfu f31 d31)
  (F32:Fun K "_law_may" "_law_may" Gh f32 d32)
  (F33:Fun K "_law_turn" "_law_turn" S5 f33 d33)
  (F34:Fun K "_law_put" "_law_put" Rb f34 d34)
  (F35:Fun K "_law_whole" "_law_whole" Su f35 d35)
  (F36:Fun K "_law_rule" "_law_rule" Zft f36 d36)
  (F37:Fun K "_law_refused" "_law_refused" Ge f37 d37)
  (F39:Fun K "_law_tried" "_law_tried" Sv f39 d39)
  (F_F:Fun K "word" "Free.word" Vo f_F d_F)
  (F_L:Fun K "word" "Follow.word" Es f_L d_L)
  (F_C:Fun K "word" "Cut.word" Gi f_C d_C)
  (F_B:Fun K "word" "Beat.word" Vq f_B d_B)
  (F_AF:Fun K "allowed" "Free.allowed" Oa f_AF d_AF)
  (F_AL:Fun K "allowed" "Follow.allowed" Vp f_AL d_AL)
  (F_AC:Fun K "allowed" "Cut.allowed" S7 f_AC d_AC)
  (F_AB:Fun K "allowed" "Beat.allowed" Rs f_AB d_AB)
  (F_I:Fun K "__init__" "Table.__init__" Gc f_I d_I)
  (F_D:Fun K "duty" "Table.duty" Gd f_D d_D)
  (F_O:Fun K "order" "Table.order" Vk f_O d_O)
  (F_S:Fun K "is_stronger" "Game.is_stronger" Vl f_S d_S)
  (F_V:Fun K "is_over" "Game.is_over" Zfv f_V d_V)
  (F_M:Fun K "may" "Game.may" Zl8 f_M d_M)
  (F_W:Fun K "winner" "Game.winner" D1 f_W d_W)
  (F_P:Fun K "pack" "Game.pack" Bk f_P d_P)
  (F_YI:Fun K "__init__" "Play.__init__" D5 f_YI d_YI)
  (F_YR:Fun K "broken_rule" "Play.broken_rule" Nh f_YR d_YR)
  (F_YU:Fun K "put" "Play.put" D4 f_YU d_YU)
  (F_YP:Fun K "place" "Play.place" Gf f_YP d_YP)
  (F_YT:Fun K "turn" "Play.turn" D3 f_YT d_YT)
  (F_YM:Fun K "may" "Play.may" Sy f_YM d_YM)
  (F_YK:Fun K "taken" "Play.taken" Bi f_YK d_YK)
  (F_YY:Fun K "played" "Play.played" Vn f_YY d_YY)
  (F_BI:Fun K "__init__" "BadPlay.__init__" Gk f_BI d_BI)
  (x1:W.excIn K CN Uk "ValueError.__new__" = true)
  (vx2:W.exmOne K (.ref CW) (.ref CE)=some true)
  (j1:W.kitOne K (.ref CW) (.ref CW)=some true)
  (j2:W.kitOne K (.ref CW) (.type "ValueError")=some true)
  (ke0:W.kitOne K (.ref CW) (.ref e0)=some false)
  (ke1:W.kitOne K (.ref CW) (.ref e1)=some false)
  (ke2:W.kitOne K (.ref CW) (.ref e2)=some false)
  (ke3:W.kitOne K (.ref CW) (.ref e3)=some false)
  (ke4:W.kitOne K (.ref CW) (.ref e4)=some false)
  (ke5:W.kitOne K (.ref CW) (.ref e5)=some false)
  (ke6:W.kitOne K (.ref CW) (.ref e6)=some false)
  (ke7:W.kitOne K (.ref CW) (.ref e7)=some false)
  (ke8:W.kitOne K (.ref CW) (.ref e8)=some false)
  (ke9:W.kitOne K (.ref CW) (.ref CN)=some false)
  (ke10:W.kitOne K (.ref CW) (.ref e10)=some false)
  (ke11:W.kitOne K (.ref CW) (.ref e11)=some false)
  (ke12:W.kitOne K (.ref CW) (.ref e12)=some false)
  (ke13:W.kitOne K (.ref CW) (.ref e13)=some false)
  (ke14:W.kitOne K (.ref CW) (.ref e14)=some false)
  (xb1:Tj K CW Uk "ValueError.__new__" f_BI=true)
  (xb3:Ev cdW.mro=true)
  (eO:cd26 = .ref cO)
  (lcO:K.lookup cO=some ⟨ocLO,odLO,.fields vsLO,slLO⟩)
  (hvO:(vsLO[11]?:Option Value)=some (.ref PO))
  (hcO:W.codeHdIn K cO PO=true)
  (nlO:K.lookup PO=none)
  (tbO:h.get? PO=some (W.tabObj #[]))
  (eD:cd29 = .ref cD)
  (lcD:K.lookup cD=some ⟨ocLD,odLD,.fields vsLD,slLD⟩)
  (hvD:(vsLD[11]?:Option Value)=some (.ref PD))
  (hcD:W.codeHdIn K cD PD=true)
  (nlD:K.lookup PD=none)
  (tbD:h.get? PD=some (W.tabObj #[]))
  (eL:cd38 = .ref cL)
  (lcL:K.lookup cL=some ⟨ocLL,odLL,.fields vsLL,slLL⟩)
  (hvL:(vsLL[11]?:Option Value)=some (.ref PL))
  (hcL:W.codeHdIn K cL PL=true)
  (nlL:K.lookup PL=none)
  (tbL:h.get? PL=some (W.tabObj #[]))
  (pp:PO≠PD∧PO≠PL∧PD≠PL)
  : ∃(fd:FuncData) (cts:List (Addr×Addr)),(∀ p∈cts,W.CodeHd h p.1 p.2∧h.get? p.2=some (W.tabObj #[])∧K.lookup p.2=none)∧(∀(s:Shared) (v:Value),BindsTo s fd ⟨[v],[]⟩ [("_law_script",v)])∧(∀ base:Heap,K.In base→base.Ns mainGlobals mg→BaseT mg cts base→FnOk l.prog w K mg base Y4 23 fa fd ["_law_script"] (Mh K cts)) ∧
   ∀(H:Hp) (a:Addr) (ns:List Int),ns.length≤63→(∀ p∈cts,H p.2=some (.tbl #[]))→SqL K H a (ns.map V.int)→Mh K cts [.ref a] H (fun v _=>v = .bl true) fun _ _ _=>False:=by
 have e:=hfa.symm.trans (W.mg_of X G a40);cases e;have k1:=F1.kp;have b1:=F1.binds (ps:=["word"]) fun _ _ _ _ _ _ us hl=>match us,hl with | [_],_=>rfl
 have m1:=W.mg_of X G a1;have k2:=F2.kp;have b2:=F2.binds (ps:=["text"]) fun _ _ _ _ _ _ us hl=>match us,hl with | [_],_=>rfl
 have m2:=W.mg_of X G a2;have k3:=F3.kp;have b3:=F3.binds (ps:=["word"]) fun _ _ _ _ _ _ us hl=>match us,hl with | [_],_=>rfl
 have m3:=W.mg_of X G a3;have k4:=F4.kp;have b4:=F4.binds (ps:=["word"]) fun _ _ _ _ _ _ us hl=>match us,hl with | [_],_=>rfl
 have m4:=W.mg_of X G a4;have k5:=F5.kp;have b5:=F5.binds (ps:=["word","heights"]) fun _ _ _ _ _ _ us hl=>match us,hl with | [_,_],_=>rfl
 have m5:=W.mg_of X G a5;have k6:=F6.kp;have b6:=F6.binds (ps:=["order","height","other"]) fun _ _ _ _ _ _ us hl=>match us,hl with | [_,_,_],_=>rfl
 have m6:=W.mg_of X G a6;have k7:=F7.kp;have b7:=F7.binds (ps:=["hand"]) fun _ _ _ _ _ _ us hl=>match us,hl with | [_],_=>rfl
 have m7:=W.mg_of X G a7;have k8:=F8.kp;have b8:=F8.binds (ps:=["cards"]) fun _ _ _ _ _ _ us hl=>match us,hl with | [_],_=>rfl
 have m8:=W.mg_of X G a8;have k9:=F9.kp;have b9:=F9.binds (ps:=["hand","suit"]) fun _ _ _ _ _ _ us hl=>match us,hl with | [_,_],_=>rfl
 have m9:=W.mg_of X G a9;have k10:=F10.kp;have b10:=F10.binds (ps:=["hand","trick"]) fun _ _ _ _ _ _ us hl=>match us,hl with | [_,_],_=>rfl
 have m10:=W.mg_of X G a10;have k11:=F11.kp;have b11:=F11.binds (ps:=["game","hand","trick"]) fun _ _ _ _ _ _ us hl=>match us,hl with | [_,_,_],_=>rfl
 have m11:=W.mg_of X G a11;have k12:=F12.kp;have b12:=F12.binds (ps:=["game","card","trick"]) fun _ _ _ _ _ _ us hl=>match us,hl with | [_,_,_],_=>rfl
 have m12:=W.mg_of X G a12;have k13:=F13.kp;have b13:=F13.binds (ps:=["hand"]) fun _ _ _ _ _ _ us hl=>match us,hl with | [_],_=>rfl
 have m13:=W.mg_of X G a13;have k14:=F14.kp;have b14:=F14.binds (ps:=["hands"]) fun _ _ _ _ _ _ us hl=>match us,hl with | [_],_=>rfl
 have m14:=W.mg_of X G a14;have k15:=F15.kp;have b15:=F15.binds (ps:=["hands"]) fun _ _ _ _ _ _ us hl=>match us,hl with | [_],_=>rfl
 have m15:=W.mg_of X G a15;have k16:=F16.kp;have b16:=F16.binds (ps:=["game","seat"]) fun _ _ _ _ _ _ us hl=>match us,hl with | [_,_],_=>rfl
 have m16:=W.mg_of X G a16;have k17:=F17.kp;have b17:=F17.binds (ps:=["game","lead","steps"]) fun _ _ _ _ _ _ us hl=>match us,hl with | [_,_,_],_=>rfl
 have m17:=W.mg_of X G a17;have k18:=F18.kp;have b18:=F18.binds (ps:=["game","place"]) fun _ _ _ _ _ _ us hl=>match us,hl with | [_,_],_=>rfl
 have m18:=W.mg_of X G a18;have k19:=F19.kp;have b19:=F19.binds (ps:=["game","place"]) fun _ _ _ _ _ _ us hl=>match us,hl with | [_,_],_=>rfl
 have m19:=W.mg_of X G a19;have k20:=F20.kp;have b20:=F20.binds (ps:=["game","place"]) fun _ _ _ _ _ _ us hl=>match us,hl with | [_,_],_=>rfl
 have m20:=W.mg_of X G a20;have k21:=F21.kp;have b21:=F21.binds (ps:=["game","place"]) fun _ _ _ _ _ _ us hl=>match us,hl with | [_,_],_=>rfl
 have m21:=W.mg_of X G a21;have k22:=F22.kp;have b22:=F22.binds (ps:=["place"]) fun _ _ _ _ _ _ us hl=>match us,hl with | [_],_=>rfl
 have m22:=W.mg_of X G a22;have k23:=F23.kp;have b23:=F23.binds (ps:=["game","place","card"]) fun _ _ _ _ _ _ us hl=>match us,hl with | [_,_,_],_=>rfl
 have m23:=W.mg_of X G a23;have k24:=F24.kp;have b24:=F24.binds (ps:=Mo) fun _ _ _ _ _ _ us hl=>match us,hl with | [_,_],_=>rfl
 have m24:=W.mg_of X G a24;have k25:=F25.kp;have b25:=F25.binds (ps:=Vt) fun _ _ _ _ _ _ us hl=>match us,hl with | [_,_],_=>rfl
 have m25:=W.mg_of X G a25;have F26:=fun_mk (st:=Nz) l26 c26 k26;have b26:=F26.binds (ps:=["_law_cell_here","_law_heights"]) fun _ _ _ _ _ _ us hl=>match us,hl with | [_,_],_=>rfl
 have m26:=W.mg_of X G a26;have k27:=F27.kp;have b27:=F27.binds (ps:=["_law_script","_law_most"]) fun _ _ _ _ _ _ us hl=>match us,hl with | [_,_],_=>rfl
 have m27:=W.mg_of X G a27;have k28:=F28.kp;have b28:=F28.binds (ps:=["_law_rules_here"]) fun _ _ _ _ _ _ us hl=>match us,hl with | [_],_=>rfl
 have m28:=W.mg_of X G a28;have F29:=fun_mk (st:=Bl) l29 c29 k29;have b29:=F29.binds (ps:=["_law_cell_here","_law_rules_here"]) fun _ _ _ _ _ _ us hl=>match us,hl with | [_,_],_=>rfl
 have m29:=W.mg_of X G a29;have k30:=F30.kp;have b30:=F30.binds (ps:=["_law_cards"]) fun _ _ _ _ _ _ us hl=>match us,hl with | [_],_=>rfl
 have m30:=W.mg_of X G a30;have k31:=F31.kp;have b31:=F31.binds (ps:=G0) fun _ _ _ _ _ _ us hl=>match us,hl with | [_,_,_],_=>rfl
 have m31:=W.mg_of X G a31;have k32:=F32.kp;have b32:=F32.binds (ps:=Mn) fun _ _ _ _ _ _ us hl=>match us,hl with | [_,_,_],_=>rfl
 have m32:=W.mg_of X G a32;have k33:=F33.kp;have b33:=F33.binds (ps:=Ed) fun _ _ _ _ _ _ us hl=>match us,hl with | [_],_=>rfl
 have m33:=W.mg_of X G a33;have k34:=F34.kp;have b34:=F34.binds (ps:=Ar) fun _ _ _ _ _ _ us hl=>match us,hl with | [_,_,_],_=>rfl
 have m34:=W.mg_of X G a34;have k35:=F35.kp;have b35:=F35.binds (ps:=["_law_found"]) fun _ _ _ _ _ _ us hl=>match us,hl with | [_],_=>rfl
 have m35:=W.mg_of X G a35;have k36:=F36.kp;have b36:=F36.binds (ps:=Vs) fun _ _ _ _ _ _ us hl=>match us,hl with | [_,_,_,_],_=>rfl
 have m36:=W.mg_of X G a36;have k37:=F37.kp;have b37:=F37.binds (ps:=Zgf) fun _ _ _ _ _ _ us hl=>match us,hl with | [_,_,_,_,_],_=>rfl
 have m37:=W.mg_of X G a37;have F38:=fun_mk (st:=N1) l38 c38 k38;have b38:=F38.binds (ps:=G1) fun _ _ _ _ _ _ us hl=>match us,hl with | [_,_],_=>rfl
 have m38:=W.mg_of X G a38;have k39:=F39.kp;have b39:=F39.binds (ps:=Gz) fun _ _ _ _ _ _ us hl=>match us,hl with | [_,_,_,_,_],_=>rfl
 have m39:=W.mg_of X G a39;have F40:=fun_mk (st:=T4) l40 c40 k40;have m40:=W.mg_of X G a40;have k_F:=F_F.kp;have b_F:=F_F.binds (ps:=["self"]) fun _ _ _ _ _ _ us hl=>match us,hl with | [_],_=>rfl
 have m_F:Meth K CF "word" f_F:=⟨a_F,i_F,k_F⟩;have k_L:=F_L.kp;have b_L:=F_L.binds (ps:=["self"]) fun _ _ _ _ _ _ us hl=>match us,hl with | [_],_=>rfl
 have m_L:Meth K CL "word" f_L:=⟨a_L,i_L,k_L⟩;have k_C:=F_C.kp;have b_C:=F_C.binds (ps:=["self"]) fun _ _ _ _ _ _ us hl=>match us,hl with | [_],_=>rfl
 have m_C:Meth K CC "word" f_C:=⟨a_C,i_C,k_C⟩;have k_B:=F_B.kp;have b_B:=F_B.binds (ps:=["self"]) fun _ _ _ _ _ _ us hl=>match us,hl with | [_],_=>rfl
 have m_B:Meth K CB "word" f_B:=⟨a_B,i_B,k_B⟩;have k_AF:=F_AF.kp;have b_AF:=F_AF.binds (ps:=pAl) fun _ _ _ _ _ _ us hl=>match us,hl with | [_,_,_,_],_=>rfl
 have m_AF:Meth K CF "allowed" f_AF:=⟨a_AF,i_AF,k_AF⟩;have k_AL:=F_AL.kp;have b_AL:=F_AL.binds (ps:=pAl) fun _ _ _ _ _ _ us hl=>match us,hl with | [_,_,_,_],_=>rfl
 have m_AL:Meth K CL "allowed" f_AL:=⟨a_AL,i_AL,k_AL⟩;have k_AC:=F_AC.kp;have b_AC:=F_AC.binds (ps:=pAl) fun _ _ _ _ _ _ us hl=>match us,hl with | [_,_,_,_],_=>rfl
 have m_AC:Meth K CC "allowed" f_AC:=⟨a_AC,i_AC,k_AC⟩;have k_AB:=F_AB.kp;have b_AB:=F_AB.binds (ps:=pAl) fun _ _ _ _ _ _ us hl=>match us,hl with | [_,_,_,_],_=>rfl
 have m_AB:Meth K CB "allowed" f_AB:=⟨a_AB,i_AB,k_AB⟩;have k_I:=F_I.kp;have b_I:=F_I.binds (ps:=["self","text"]) fun _ _ _ _ _ _ us hl=>match us,hl with | [_,_],_=>rfl
 have m_I:Meth K CT "__init__" f_I:=⟨a_I,i_I,k_I⟩;have k_D:=F_D.kp;have b_D:=F_D.binds (ps:=["self"]) fun _ _ _ _ _ _ us hl=>match us,hl with | [_],_=>rfl
 have m_D:Meth K CT "duty" f_D:=⟨a_D,i_D,k_D⟩;have k_O:=F_O.kp;have b_O:=F_O.binds (ps:=["self","is_trump"]) fun _ _ _ _ _ _ us hl=>match us,hl with | [_,_],_=>rfl
 have m_O:Meth K CT "order" f_O:=⟨a_O,i_O,k_O⟩;have F_G:=Zkp (st:=Uu) l_G c_G k_G;have m_G:Meth K CG "__init__" f_G:=⟨a_G,i_G,k_G⟩;have k_S:=F_S.kp;have b_S:=F_S.binds (ps:=["self","card","other"]) fun _ _ _ _ _ _ us hl=>match us,hl with | [_,_,_],_=>rfl
 have m_S:Meth K CG "is_stronger" f_S:=⟨a_S,i_S,k_S⟩;have k_V:=F_V.kp;have b_V:=F_V.binds (ps:=Ri) fun _ _ _ _ _ _ us hl=>match us,hl with | [_,_,_,_],_=>rfl
 have m_V:Meth K CG "is_over" f_V:=⟨a_V,i_V,k_V⟩;have k_M:=F_M.kp;have b_M:=F_M.binds (ps:=["self","hand","trick"]) fun _ _ _ _ _ _ us hl=>match us,hl with | [_,_,_],_=>rfl
 have m_M:Meth K CG "may" f_M:=⟨a_M,i_M,k_M⟩;have k_W:=F_W.kp;have b_W:=F_W.binds (ps:=["self","trick"]) fun _ _ _ _ _ _ us hl=>match us,hl with | [_,_],_=>rfl
 have m_W:Meth K CG "winner" f_W:=⟨a_W,i_W,k_W⟩;have k_P:=F_P.kp;have b_P:=F_P.binds (ps:=["self"]) fun _ _ _ _ _ _ us hl=>match us,hl with | [_],_=>rfl
 have m_P:Meth K CG "pack" f_P:=⟨a_P,i_P,k_P⟩;have k_YI:=F_YI.kp;have b_YI:=F_YI.binds (ps:=["self","game","deal","lead"]) fun _ _ _ _ _ _ us hl=>match us,hl with | [_,_,_,_],_=>rfl
 have m_YI:Meth K CP "__init__" f_YI:=⟨a_YI,i_YI,k_YI⟩;have k_YR:=F_YR.kp;have b_YR:=F_YR.binds (ps:=["self","seat","card"]) fun _ _ _ _ _ _ us hl=>match us,hl with | [_,_,_],_=>rfl
 have m_YR:Meth K CP "broken_rule" f_YR:=⟨a_YR,i_YR,k_YR⟩;have k_YU:=F_YU.kp;have b_YU:=F_YU.binds (ps:=["self","seat","card"]) fun _ _ _ _ _ _ us hl=>match us,hl with | [_,_,_],_=>rfl
 have m_YU:Meth K CP "put" f_YU:=⟨a_YU,i_YU,k_YU⟩;have k_YP:=F_YP.kp;have b_YP:=F_YP.binds (ps:=["self"]) fun _ _ _ _ _ _ us hl=>match us,hl with | [_],_=>rfl
 have m_YP:Meth K CP "place" f_YP:=⟨a_YP,i_YP,k_YP⟩;have k_YT:=F_YT.kp;have b_YT:=F_YT.binds (ps:=["self"]) fun _ _ _ _ _ _ us hl=>match us,hl with | [_],_=>rfl
 have m_YT:Meth K CP "turn" f_YT:=⟨a_YT,i_YT,k_YT⟩;have k_YM:=F_YM.kp;have b_YM:=F_YM.binds (ps:=["self"]) fun _ _ _ _ _ _ us hl=>match us,hl with | [_],_=>rfl
 have m_YM:Meth K CP "may" f_YM:=⟨a_YM,i_YM,k_YM⟩;have k_YK:=F_YK.kp;have b_YK:=F_YK.binds (ps:=["self"]) fun _ _ _ _ _ _ us hl=>match us,hl with | [_],_=>rfl
 have m_YK:Meth K CP "taken" f_YK:=⟨a_YK,i_YK,k_YK⟩;have k_YY:=F_YY.kp;have b_YY:=F_YY.binds (ps:=["self"]) fun _ _ _ _ _ _ us hl=>match us,hl with | [_],_=>rfl
 have m_YY:Meth K CP "played" f_YY:=⟨a_YY,i_YY,k_YY⟩;have k_BI:=F_BI.kp;have b_BI:=F_BI.binds (ps:=["self","rule","trick"]) fun _ _ _ _ _ _ us hl=>match us,hl with | [_,_,_],_=>rfl
 have m_BI:Meth K CW "__init__" f_BI:=⟨a_BI,i_BI,k_BI⟩;have mg1:=W.mg_of X G g1;have mg2:=W.mg_of X G g2;have mg3:=W.mg_of X G g3;have mg4:=W.mg_of X G g4;have mn_len:=W.mg_none_of X G z1;have mn_range:=W.mg_none_of X G z2;have mn_isinstance:=W.mg_none_of X G z3;have mn_int:=W.mg_none_of X G z4;have mn_str:=W.mg_none_of X G z5;have mn_list:=W.mg_none_of X G z6;have mn_tuple:=W.mg_none_of X G z7;have mn_sorted:=W.mg_none_of X G z8;have mn_sum:=W.mg_none_of X G z9;have mn_all:=W.mg_none_of X G z10;have mn_any:=W.mg_none_of X G z11;have mn_enumerate:=W.mg_none_of X G z12;have mn_max:=W.mg_none_of X G z13;have mn_min:=W.mg_none_of X G z14;have mn_bool:=W.mg_none_of X G z15;have mn_ValueError:=W.mg_none_of X G z16;refine⟨W.fnOf "law" "law" (Us T4) (Y0 T4) (Zp T4) .none kV40 dc40 pm40 an40 cd40 ct40,[(cO,PO),(cD,PD),(cL,PL)],?_,fun s v=>.of_eq rfl,fun base _ _ BT=>?_,fun H a ns hl hT hS=>⟨a,ns,rfl,hS,hl,hT,fun _=>rfl⟩⟩
 ·intro p hp
  simp only[List.mem_cons,Yv,or_false] at hp;rcases hp with rfl | rfl | rfl
  ·exact⟨W.codeHd_of_K X hcO,tbO,nlO⟩
  ·exact⟨W.codeHd_of_K X hcD,tbD,nlD⟩
  ·exact⟨W.codeHd_of_K X hcL,tbL,nlL⟩
 let cs:Fin 4→Addr:=p4 CF CL CC CB
 let fw:Fin 4→Addr:=p4 f_F f_L f_C f_B
 let fl:Fin 4→Addr:=p4 f_AF f_AL f_AC f_AB
 have mN:=W.mg_of X G hCN;have D:DutyC K mg cs CN:=⟨W.mg_of X G hCF,W.mg_of X G hCL,W.mg_of X G hCC,W.mg_of X G hCB,fun i=>match i with | 0=>⟨mkCF,oiCF,kcCF⟩ | 1=>⟨mkCL,oiCL,kcCL⟩ | 2=>⟨mkCC,oiCC,kcCC⟩ | 3=>⟨mkCB,oiCB,kcCB⟩,mN,x1⟩;have Wq:∀ k,∃ fdw,Zik l.prog w K mg base (k+1) cs fw fdw:=fun k=>⟨p4 _ _ _ _,fun i=>match i with | 0=>⟨pgCF,hdCF,poCF,saCF⟩ | 1=>⟨pgCL,hdCL,poCL,saCL⟩ | 2=>⟨pgCC,hdCC,poCC,saCC⟩ | 3=>⟨pgCB,hdCB,poCB,saCB⟩,fun i=>match i with | 0=>m_F | 1=>m_L | 2=>m_C | 3=>m_B,fun i=>match i with | 0=>A2 F_F | 1=>T7 F_L | 2=>Zah F_C | 3=>A5 F_B,fun i=>match i with | 0=>b_F | 1=>b_L | 2=>b_C | 3=>b_B⟩;obtain⟨_,W14⟩:=Wq 13;obtain⟨_,W15⟩:=Wq 14;obtain⟨_,W16⟩:=Wq 15;have C:TabC K mg CT:=⟨⟨pgCT,hdCT,poCT,saCT⟩,W.mg_of X G hCT,nTS,nTH,nTN,nTD,nTP,nTT,nTW⟩;have CGm:GamC K mg CG:=⟨⟨pgCG,hdCG,poCG,saCG⟩,W.mg_of X G hCG,nGT,nGU⟩;have hM:∀ H,SqT K H aM (vS Bv):=fun H=>.inr ⟨_,_,_,w2,rfl,rfl,Jl 5 (by decide),.cons ⟨_,rfl⟩ (.cons ⟨_,rfl⟩ (.cons ⟨_,rfl⟩ (.cons ⟨_,rfl⟩ (.cons ⟨_,rfl⟩ .nil))))⟩;have FI:=Zmo (k:=16) F_I C ⟨Zgv (k:=15) F2 (W.mg_of X G w1) hM mN x1 mn_isinstance mn_str mn_len mn_tuple,b2,k2,m2⟩ ⟨Zjx F3 mg3 mg2 mN x1 mn_len,b3,k3,m3⟩ ⟨Zgo F4 mN x1 mn_int,b4,k4,m4⟩ ⟨Zmp F5 mg3 mN x1 mn_sorted mn_list mn_tuple,b5,k5,m5⟩ ⟨Mp (k:=15) F1 D W15,b1,k1,m1⟩ W16;have BG0:Binds K _ ["self","table","trump"] []:=fun s us hX hl=>match us,hl with | [_,_,_],_=>by first | exact .of_eq rfl | exact W.binds_K (fd:=W.fnOf "__init__" "Game.__init__" (Us Uu) (Y0 Uu) (Zp Uu) (.ref dT) kV_G dc_G pm_G an_G cd_G ct_G) hX rfl w3 rfl rfl rfl
 have BG1:Binds K _ ["self","table","trump"] [.none]:=fun s us hX hl=>match us,(show us.length=2 from Nat.succ.inj ((Z3 (as:=us) (bs:=[Value.none])).symm.trans hl)) with | [_,_],_=>by exact W.binds_K (fd:=W.fnOf "__init__" "Game.__init__" (Us Uu) (Y0 Uu) (Zp Uu) (.ref dT) kV_G dc_G pm_G an_G cd_G ct_G) hX rfl w3 rfl rfl rfl
 have LO:∀ k,Lib l.prog w K mg base (k+1) "of_suit" ["hand","suit"] (Bf K) f9 _:=fun k=>⟨Zdi F9 mg4 mg1,b9,k9,m9⟩;have LL:∀ k,Lib l.prog w K mg base (k+2) "of_led_suit" ["hand","trick"] (Zbh K) f10 _:=fun k=>⟨Zmr (k:=k+1) F10 (LO k) mg1,b10,k10,m10⟩;have LF:∀ k,Lib l.prog w K mg base (k+3) "followed_or_cut" ["game","hand","trick"] (Zbk K CG) f11 _:=fun k=>⟨Zmu (k:=k+2) F11 CGm (LL k) (LO (k+1)),b11,k11,m11⟩;have FS:∀ k,FnOk l.prog w K mg base Y4 (k+2) f_S _ ["self","card","other"] (Nu CT CG):=fun k=>Ax (k:=k+1) F_S C CGm ⟨Zg1 (k:=k) F6,b6,k6,m6⟩ m_O (Zde (k:=k) F_O C mn_list) b_O mg1;have FV:∀ k,FnOk l.prog w K mg base Y4 (k+3) f_V _ Ri (Do CT CG):=fun k=>Zj0 (k:=k+2) F_V CGm m_S (FS k) b_S mg1;have LGA:∀ k,Lib l.prog w K mg base (k+4) "goes_over_all" ["game","card","trick"] (Sh K CT CG) f12 _:=fun k=>⟨Zj5 (k:=k+3) F12 CGm m_V (FV k) b_V mg1 mn_all,b12,k12,m12⟩;have LH:∀ k,Lib l.prog w K mg base (k+1) "hand_of" ["cards"] (Bg K) f8 _:=fun k=>⟨Zdj F8,b8,k8,m8⟩;have LI:∀ k,Lib l.prog w K mg base (k+1) "cards_in" ["hand"] (X5 K) f7 _:=fun k=>⟨Zai F7,b7,k7,m7⟩;have MA:∃ d4,∀ k,AlF l.prog w K mg base CT CG (k+5) cs fl d4:=⟨p4 _ _ _ _,fun k=>⟨fun i=>match i with | 0=>⟨pgCF,hdCF,poCF,saCF⟩ | 1=>⟨pgCL,hdCL,poCL,saCL⟩ | 2=>⟨pgCC,hdCC,poCC,saCC⟩ | 3=>⟨pgCB,hdCB,poCB,saCB⟩,fun i=>match i with | 0=>m_AF | 1=>m_AL | 2=>m_AC | 3=>m_AB,fun i=>match i with | 0=>Zdk F_AF | 1=>A4 (k:=k+4) F_AL (LL (k+2)) | 2=>Zg4 (k:=k+4) F_AC (LF (k+1)) | 3=>Zdm (k:=k+4) F_AB (LF (k+1)) (LH (k+3)) (LI (k+3)) (LGA k),fun i=>match i with | 0=>b_AF | 1=>b_AL | 2=>b_AC | 3=>b_AB⟩⟩;obtain⟨_,MA⟩:=MA;have LRd:∀ k,Lib l.prog w K mg base (k+1) "seat_round" ["game","lead","steps"] (Bd CT CG) f17 _:=fun k=>⟨Zgq F17 C CGm,b17,k17,m17⟩;have LMn:∀ k,Lib l.prog w K mg base (k+1) "many" ["hand"] (Dr K) f13 _:=fun k=>⟨Zj1 F13,b13,k13,m13⟩;have LLf:∀ k,Lib l.prog w K mg base (k+2) "left" ["place"] (Sf K) f22 _:=fun k=>⟨Zj4 (k:=k+1) F22 (LMn k) mn_max,b22,k22,m22⟩;have LTa:∀ k,Lib l.prog w K mg base (k+3) "turn_at" ["game","place"] (Bc CT CG) f20 _:=fun k=>⟨Zdd (k:=k+2) F20 (LLf k) (LRd (k+1)) mn_len,b20,k20,m20⟩;have FM:FnOk l.prog w K mg base Y4 16 f_M _ ["self","hand","trick"] (Zfi K CT CG):=Zmq (k:=15) F_M C CGm ⟨Mp (k:=14) F1 D W14,b1,k1,m1⟩ m_D (Aw (k:=14) F_D C) b_D (MA 10) mn_len;have LMo:Lib l.prog w K mg base 17 "moves" ["game","place"] (Dq CT CG) f21 _:=⟨Zgu (k:=16) F21 CGm (LTa 13) (LI 15) m_M FM b_M,b21,k21,m21⟩;have FW:∀ k,FnOk l.prog w K mg base Y4 (k+4) f_W _ ["self","trick"] (R8 K CT CG):=fun k=>Zdc (k:=k+3) F_W CGm m_V (FV k) b_V mg1 mn_enumerate;have LBe:∀ k,Lib l.prog w K mg base (k+5) "behind" ["game","place","card"] (Gb K CT CG) f23 _:=fun k=>⟨Zdl (k:=k+4) F23 C CGm (LRd (k+3)) m_W (FW k) b_W mn_len mn_list mn_tuple,b23,k23,m23⟩;have LWi:∀ k,Lib l.prog w K mg base (k+2) "hands_with_trick" ["game","place"] (Se CT CG) f18 _:=fun k=>⟨Zjw (k:=k+1) F18 (LRd k) mn_list mn_enumerate,b18,k18,m18⟩;have LIp:∀ k,Lib l.prog w K mg base (k+3) "is_place" ["game","place"] (Vj CT CG) f19 _:=fun k=>⟨Zag (k:=k+2) F19 C CGm ⟨Zjy F16 C CGm,b16,k16,m16⟩ ⟨Zg5 F14,b14,k14,m14⟩ ⟨Zg0 (k:=k+1) F15 (LMn k) mn_all,b15,k15,m15⟩ (LWi k) m_P (Zg2 (k:=k+1) F_P C CGm (LH k) mg1 mn_range) b_P mn_len mn_list mn_any,b19,k19,m19⟩;have LCe:∀ k,Lib l.prog w K mg base (k+1) "_law_cell" Mo (Dw K) f24 _:=fun k=>⟨Zj8 F24 mn_len,b24,k24,m24⟩;have LDr:∀ k,Lib l.prog w K mg base (k+1) "_law_drawn" Vt Bh f25 _:=fun k=>⟨Zg3 F25 mn_range,b25,k25,m25⟩;have LOr:Lib l.prog w K mg base 17 "_law_order" ["_law_cell_here","_law_heights"] (Dp PO) f26 _:=⟨Zgt (k:=15) F26 (show _=_ from eO) BT.bm (BT.hd (cO,PO) Zw) (LDr 15) mn_range mn_sorted,b26,k26,m26⟩;have LRu:Lib l.prog w K mg base 18 "_law_rules" ["_law_script","_law_most"] (Dl K PO) f27 _:=⟨Zgp (k:=17) F27 (LCe 16) LOr mn_max mn_min,b27,k27,m27⟩;have LGm:Lib l.prog w K mg base 19 "_law_game" ["_law_rules_here"] (Si CT CG) f28 _:=⟨Zj6 (k:=17) F28 C CGm ⟨mkCT,a_I,i_I,kcCT⟩ (FI.mono (by decide)) b_I ⟨mkCG,a_G,i_G,kcCG⟩ (Zmt (k:=16) F_G CGm) BG0 BG1 mn_str,b28,k28,m28⟩;have LDe:Lib l.prog w K mg base 18 "_law_deal" ["_law_cell_here","_law_rules_here"] (Sk PD) f29 _:=⟨Zj7 (k:=16) F29 (show _=_ from eD) BT.bm (BT.hd (cD,PD) (Zx _ Zw)) (LDr 16) mn_range mn_sorted mn_len,b29,k29,m29⟩;have LHa:∀ k,Lib l.prog w K mg base (k+1) "_law_hand" ["_law_cards"] (Dv K) f30 _:=fun k=>⟨Zgz F30 mn_sum,b30,k30,m30⟩;have LRk:∀ k,Lib l.prog w K mg base (k+1) "_law_rank" G0 Dm f31 _:=fun k=>⟨Zjz F31,b31,k31,m31⟩;have LMy:∀ k,Lib l.prog w K mg base (k+2) "_law_may" Mn Du f32 _:=fun k=>⟨Zj3 (k:=k+1) F32 (LRk k) mn_len mn_list mn_max,b32,k32,m32⟩;have LTu:∀ k,Lib l.prog w K mg base (k+1) "_law_turn" Ed Ng f33 _:=fun k=>⟨Zgw F33 mn_len,b33,k33,m33⟩;have LPu:∀ k,Lib l.prog w K mg base (k+2) "_law_put" Ar Sg f34 _:=fun k=>⟨Zj2 (k:=k+1) F34 (LTu k) (LRk k) mn_len mn_range mn_max,b34,k34,m34⟩;have CPl:PlyC K mg CP:=⟨⟨pgCP,hdCP,poCP,saCP⟩,W.mg_of X G hCP,nP1,nP2,nP3,nP4,nP5⟩;have LWh:∀ k,Lib l.prog w K mg base (k+1) "_law_whole" ["_law_found"] (Di K) f35 _:=fun k=>⟨Zgm F35 mn_isinstance mn_int mn_bool,b35,k35,m35⟩;have MPl:∀ k,PyM l.prog w K mg base (k+1) CP "place" (Vi CP) f_YP _:=fun k=>⟨m_YP,Zaf F_YP CPl,b_YP⟩;have MTu:∀ k,PyM l.prog w K mg base (k+4) CP "turn" (Eo CT CG CP) f_YT _:=fun k=>⟨m_YT,Zdf (k:=k+3) F_YT CPl (LTa k),b_YT⟩;have MMa:PyM l.prog w K mg base 18 CP "may" (Be CT CG CP) f_YM _:=⟨m_YM,Zgs (k:=17) F_YM CPl LMo,b_YM⟩;have MTk:∀ k,PyM l.prog w K mg base (k+1) CP "taken" (Vh CT CG CP) f_YK _:=fun k=>⟨m_YK,Zae F_YK C CGm CPl mn_range,b_YK⟩;have MYd:∀ k,PyM l.prog w K mg base (k+1) CP "played" (Nv CP) f_YY _:=fun k=>⟨m_YY,Ay F_YY CPl mn_list,b_YY⟩;have FBr:FnOk l.prog w K mg base Y4 19 f_YR _ ["self","seat","card"] (Nw CT CG CP):=Az (k:=18) F_YR CPl m_YT (MTu 14).ok b_YT m_YM MMa.ok b_YM (LI 17);have FPu:FnOk l.prog w K mg base Y4 20 f_YU _ ["self","seat","card"] (Dn CT CG CP):=Zgr (k:=19) F_YU CPl m_YR FBr b_YR (LBe 14);have FIn:FnOk l.prog w K mg base Y4 19 f_YI _ ["self","game","deal","lead"] (Ga CT CG CP):=Zdh (k:=18) F_YI CPl (LIp 15) mn_tuple
 let ec:Fin 15→Addr:=fun i=>match i with | 0=>e0 | 1=>e1 | 2=>e2 | 3=>e3 | 4=>e4 | 5=>e5 | 6=>e6 | 7=>e7 | 8=>e8 | 9=>CN | 10=>e10 | 11=>e11 | 12=>e12 | 13=>e13 | 14=>e14
 have CB:ClsB K mg CE CW ec:=⟨⟨by rw[vy1];rfl,vy2,vy3,vy4,vy5,vy6,vy7,vy8⟩,W.mg_of X G hCE,W.mg_of X G hCW,vx2,W.mg_of X G he0,W.mg_of X G he1,W.mg_of X G he2,W.mg_of X G he3,W.mg_of X G he4,W.mg_of X G he5,W.mg_of X G he6,W.mg_of X G he7,W.mg_of X G he8,W.mg_of X G hCN,W.mg_of X G he10,W.mg_of X G he11,W.mg_of X G he12,W.mg_of X G he13,W.mg_of X G he14,j1,j2,fun i=>match i with | 0=>ke0 | 1=>ke1 | 2=>ke2 | 3=>ke3 | 4=>ke4 | 5=>ke5 | 6=>ke6 | 7=>ke7 | 8=>ke8 | 9=>ke9 | 10=>ke10 | 11=>ke11 | 12=>ke12 | 13=>ke13 | 14=>ke14⟩;have XCW:XC K mg CW f_BI:=⟨W.mg_of X G hCW,xb1,i_BI,⟨xb2,(by unfold Zlh;rw[vy1];exact xb3),xb4⟩,xb5,xb6⟩;have FBa:FnOk l.prog w K mg base Y4 18 f_BI _ ["self","rule","trick"] (Zfj CW):=Zmv (k:=17) F_BI XCW;have FBR:FnOk l.prog w K mg base Y4 19 f_YR _ ["self","seat","card"] (Ep CT CG CP):=Oo (k:=18) F_YR CPl C CGm m_YT (MTu 14).ok b_YT m_YM MMa.ok b_YM (LI 17) m_D (Aw (k:=17) F_D C) b_D;have FPR:FnOk l.prog w K mg base (V8 l.prog w) 20 f_YU _ ["self","seat","card"] (R9 CT CG CP CW):=Zdg (k:=18) F_YU CPl XCW FBa b_BI m_YR FBR b_YR mn_len;have LRf:Lib l.prog w K mg base 21 "_law_refused" Zgf (Nx CT CG CP) f37 _:=⟨A0 (k:=20) F37 CPl CB XCW m_YU FPR b_YU (LWh 19) mn_isinstance mn_ValueError mn_str,b37,k37,m37⟩;have LLk:Lib l.prog w K mg base 21 "_law_looks" G1 (Ds CT CG CP PL) f38 _:=⟨Zgy (k:=19) F38 (show _=_ from eL) BT.bm (BT.hd (cL,PL) (Zx _ (Zx _ Zw))) CPl (MPl 19) (MTu 16) ⟨m_YM,MMa.ok.mono (by decide),b_YM⟩ (MTk 19) (MYd 19) mn_range mn_sorted,b38,k38,m38⟩;have LRl:Lib l.prog w K mg base 21 "_law_rule" Vs Dt f36 _:=⟨Zgx (k:=20) F36 (LTu 19) (LMy 18) mn_len,b36,k36,m36⟩;have LTr:Lib l.prog w K mg base 22 "_law_tried" Gz (Dj CT CG CP PL) f39 _:=⟨Zgn (k:=21) F39 (LTu 20) LRl LLk LRf mn_len,b39,k39,m39⟩;exact Zms (k:=21) F40 CPl (LCe 21) (LRu.mono (by decide)) (LGm.mono (by decide)) (LDe.mono (by decide)) (LTu 21) (LHa 21) (LDr 21) (LMy 20) LTr (LPu 20) ⟨mkCP,a_YI,i_YI,kcCP⟩ (FIn.mono (by decide)) b_YI m_YU (FPu.mono (by decide)) b_YU pp mn_range mn_len mn_int
theorem walk{l:W.OpenLaw}{q:Program}{loose:List Str}{XP:(Str→Option Value)→Heap→Prop}{YP:World→Heap→Prop}{d:DefRec}{K:Params→W.Frag}(hn:l.most=some 63)(hdf:d.params.defaults=[])
  (hY:∀(w:World) (h:Heap),YP w h→(K w.params).In h)
  (F:∀(w:World) (mg mb:Str→Option Value) (mean:ExcName→Option Value) (fa:Addr) (h:Heap),YP w h→(K w.params).In h→PyProof.Rows.Top q (W.looseW q loose) mean mg mb h→mg d.name=some (.ref fa) →
   ∃(fd:FuncData) (cts:List (Addr×Addr)),(∀ p∈cts,W.CodeHd h p.1 p.2∧h.get? p.2=some (W.tabObj #[])∧(K w.params).lookup p.2=none)∧(∀(s:Shared) (u:Value),BindsTo s fd ⟨[u],[]⟩ [("_law_script",u)]) ∧
    (∀ base:Heap,(K w.params).In base→base.Ns mainGlobals mg→BaseT mg cts base→FnOk l.prog w (K w.params) mg base Y4 23 fa fd ["_law_script"] (Mh (K w.params) cts)) ∧
    ∀(H:Hp) (a:Addr) (ns:List Int),ns.length≤63→(∀ p∈cts,H p.2=some (.tbl #[]))→SqL (K w.params) H a (ns.map V.int)→Mh (K w.params) cts [.ref a] H (fun v _=>v = .bl true) fun _ _ _=>False) :
  W.WalkO q loose XP YP l.row.toRowW d [] (fun f vs=>PySem.call f vs):=
 L2.walk_ofT (n:=63) (k:=23) (x:="_law_script") (CX:=fun _=>Y4) (sp:=fun w cts=>Mh (K w.params) cts) hn (by decide) hdf ⟨rfl,by decide,by decide⟩ hY F fun _ _ _ _ _ z=>z
end My
namespace PySem.W.Fast
def tw15184240838986070921:=0
def tw1856237981756465162:=0
def tw15673304163769037911:=0
def tw7466940003310933908:=0
def tw654212202939310723:=0
def tw3081713944970467450:=0
def tw9706624073116604840:=0
def tw10102295883952894936:=0
def tw18106935743530652016:=0
def tw16135770561524041634:=0
def tw923551305367405990:=0
def tw14911684773091714916:=0
def tw1521781871540892289:=0
def tw17010333654475703735:=0
def tw12221847675003791154:=0
def tw11922375998659199758:=0
def tw11092243470688296264:=0
def tw17593172756856298714:=0
def tw5935709026618111762:=0
def tw3875196477702479914:=0
def tw3697978243846965611:=0
def tw3402504312578722514:=0
def tw17744173476565798669:=0
def tw2998529379380346895:=0
def tw12997658137024930198:=0
def tw12362584850536569459:=0
def tw14281021319778221451:=0
def tw16296886063351010225:=0
def tw17364491251463836305:=0
def tw9893605908539939103:=0
def tw8934075288360255533:=0
def tw12600473308754558074:=0
def tw6102776795055578094:=0
def tw2408582264215789250:=0
def tw4706070668467860439:=0
def tw10856902698024834658:=0
def tw9395999961007246535:=0
def tw1038728136920287100:=0
def tw6070844824584130977:=0
def tw6818942520896615135:=0
def tw12565675029670348840:=0
def tw13177739527611539013:=0
def tw2111400017657657415:=0
def tw2466311781643280427:=0
def tw3433109061795883819:=0
def tw2033618448933480053:=0
def tw14892751748680834118:=0
def tw8943443018728820913:=0
def tw2657169213359321019:=0
def tw8324745079382927935:=0
def tw10667997376741611902:=0
def tw14686283034350305378:=0
def tw7357393491222859917:=0
def tw9000351929320336960:=0
def tw17968962348475743342:=0
def tw11438736268283414216:=0
def tw8504784304948396689:=0
def tw15568053426040771333:=0
def tw7951088893944559248:=0
def tw13085256878358055448:=0
def tw4083858408135471062:=0
def tw2224502495034848718:=0
def tw4177835399355470974:=0
def tw6890997682559593900:=0
def tw9423185877573914987:=0
def tw15333203340425737192:=0
def tw7638929224044876949:=0
def tw7950273884005983049:=0
def tw4472879916546142001:=0
def tw12542842874932453571:=0
def tw6746884106492677264:=0
def tw18371555115768209205:=0
def tw9393302045976107642:=0
def tw5589218551833106275:=0
def tw16390861764328626750:=0
def tw18116371752621979124:=0
def tw13171359348276930342:=0
def tw4114530367508649179:=0
def tw5063085780844657666:=0
def tw4160608417034240823:=0
def tw13045619833521316476:=0
def tw12154627504381753241:=0
def tw11520250619851433335:=0
def tw11904510803714548114:=0
def tw15389714633688983880:=0
def tw13115779920897550274:=0
def tw9514677541730515728:=0
def tw13246983758157794427:=0
def tw1927123928311896610:=0
def tw8066350077597722477:=0
def tw11677654026637882066:=0
def tw17100349132242869193:=0
def tw7872765137137846343:=0
def tw16927462957994267896:=0
def tw11018484794553139742:=0
def tw949594427017779353:=0
def tw17970653396234443404:=0
def tw2444313244989920848:=0
def tw13548083857288975447:=0
def tw9845093590491207807:=0
def tw1720728419549958030:=0
def tw17636547432163769671:=0
def tw3270390517106089801:=0
def tw4323440595452200107:=0
def tw14100036415639681589:=0
def tw8400903444169995334:=0
def tw12238823757503094574:=0
def tw5087393121428222196:=0
def tw16309790562202984243:=0
def tw4081884509888459541:=0
def tw5984949080959635255:=0
def tw13799138507043551254:=0
def tw9027339502964117853:=0
def tw8841721836593758600:=0
def tw17691965930864885373:=0
def tw9058233640275133718:=0
def tw2403525648760888675:=0
def tw5150274852008745056:=0
def tw6588513557908882438:=0
def tw16571353752455080736:=0
def tw2742517131084147682:=0
def tw7071372090675543953:=0
def tw10193212956601925521:=0
def tw12360371676384819019:=0
def tw3191254363421314888:=0
def tw2637365938058641447:=0
def tw12650016653671710217:=0
def tw10367869949452057836:=0
def tw5290576492049206423:=0
def tw15337310070257234291:=0
def tw8152658968869944716:=0
def tw16744618363974400760:=0
def tw11943412218852219379:=0
def tw10233170454724406256:=0
def tw3213889148706324060:=0
def tw11043726450240810768:=0
def tw6030632771647367222:=0
def tw8786978350720791096:=0
def tw15184719264026153094:=0
def tw12303374615998794464:=0
def tw12654530108436618422:=0
def tw7009585014087834771:=0
def tw5689184341318627265:=0
def tw15824923358202188969:=0
def tw124363860218929667:=0
def tw8434796243701609649:=0
def tw7713937906793470300:=0
def tw5925751849176511059:=0
def tw17205327997544971681:=0
def tw3642150111093697799:=0
def tw14050543679987727048:=0
def tw10417787780663564679:=0
def tw11045791705857020071:=0
def tw18029723766642778739:=0
def tw5582763366443162079:=0
def tw14044827009555334108:=0
def tw13110070257637283638:=0
def tw8291352726728768546:=0
def tw11624416950945365640:=0
def tw7648868202876657506:=0
def tw6558400574093804935:=0
def tw8149826319571561506:=0
def tw3118735589335792133:=0
def tw4738262623505780973:=0
def tw9221538061402785755:=0
def tw636637919641488822:=0
def tw17005275129399004807:=0
def tw6822757888150903803:=0
def tw7684186752317374394:=0
def tw14330917330875324275:=0
def tw17075955711805311585:=0
def tw2617869810026886679:=0
def tw15180811858858399826:=0
def tw4117407929370603617:=0
def tw5389235499861493877:=0
def tw11150728930381433161:=0
def tw13532644156803326580:=0
def tw12284624898613719105:=0
def tw17819658760461049659:=0
def tw3877962216453235635:=0
def tw4332656582079235531:=0
def tw9544749541882160907:=0
def tw10207425850094237004:=0
def tw6232585252559040247:=0
def tw10866456150645514595:=0
def tw16945195355873451077:=0
def tw17090230656624245841:=0
def tw16917490223944585294:=0
def tw17584261310298424291:=0
def tw12737206813440346856:=0
def tw14735467731728533308:=0
def tw16494326661293139237:=0
def tw11970642455126122048:=0
def tw5709439932462915692:=0
def tw4536311129333811516:=0
def tw12822988184608019080:=0
def tw17940030717735456601:=0
def tw10225873135461911659:=0
def tw6532091907099461965:=0
def tw7859415903515868011:=0
def tw15675824218600778965:=0
def tw9263734271792716769:=0
def tw11390812544731954817:=0
def tw4694911400667990349:=0
def tw10847909389402473978:=0
def tw15708132327330480654:=0
def tw9264059088478378509:=0
def tw12869206986378060364:=0
def tw5289775693904552136:=0
def tw14979295607084566470:=0
def tw14826792367204186471:=0
def tw5314072548594992456:=0
def tw14995947987128458642:=0
def tw12504831837004354984:=0
def tw5807440399499412129:=0
def tw10735273737402829404:=0
def tw12057717735017424329:=0
def tw6926146747392584149:=0
def tw7479867999053754472:=0
def tw713495434031782111:=0
def tw9004904684518517579:=0
def tw2884994807650030799:=0
def tw15436991579910469062:=0
def tw17034642817460238975:=0
def tw5509181626360326577:=0
def tw4795077371944834070:=0
def tw1918479758845706953:=0
def tw10405563766303256502:=0
def tw3787238625283689512:=0
def tw12881030895113101013:=0
def tw8508135627397574918:=0
def tw4405871699615497970:=0
def tw945924269531494573:=0
def tw12477288710458933244:=0
def tw8113455653061731142:=0
def tw4693152588775775648:=0
def tw2110429974169971773:=0
def tw15604139662642313494:=0
def tw12717609698960423465:=0
def tw13267346092267212944:=0
def tw13402939401275397591:=0
def tw4632079174711578035:=0
def tw2395464769784971261:=0
def tw17461508977946870380:=0
def tw8499580256975744896:=0
def tw14472594942914413320:=0
def tw9799882036302711807:=0
def tw11426831988642189525:=0
def tw5800196809714187770:=0
def tw12286933614738928084:=0
def tw3692886476317812766:=0
def tw3721265268535304909:=0
def tw12313830214419425918:=0
def tw3274388691898778306:=0
def tw7179359175241575658:=0
def tw832160803843949009:=0
def tw8601790313856261318:=0
def tw15376913009119629225:=0
def tw10630022141483970370:=0
def tw2976624473350597495:=0
def tw2746887315750113284:=0
def tw3096363969172172062:=0
def tw9778574742186038307:=0
def tw13779771230910607316:=0
def tw3398334055209291885:=0
def tw14124800174997720740:=0
def tw16022785017278946500:=0
def tw4270115648545774402:=0
def tw11380344344727370378:=0
def tw1567776101952639185:=0
def tw4575719868642280188:=0
def tw18363727337430371481:=0
def tw10531987152851340613:=0
def tw11309210034253890263:=0
def tw4069606566744244907:=0
def tw2853264488908623580:=0
def tw2502154899486383470:=0
def tw467005792071254794:=0
def tw10071174534654271791:=0
def tw1623871535454545840:=0
def tw7989967708973901952:=0
def tw14978050966037088317:=0
def tw9503644766633856773:=0
def tw11586740973830344925:=0
def tw5643210886528313575:=0
def tw13577121086564177860:=0
def tw5633228633127570574:=0
def tw9160602055496002320:=0
def tw11976028028141357196:=0
def tw9454835306997856579:=0
def tw11636533247389549325:=0
def tw7799050027096298494:=0
def tw18163868009185239958:=0
def tw18198818599449306172:=0
def tw9857291903450178261:=0
def tw15581739067905712329:=0
def tw16235908341601762042:=0
def tw4853522449846630972:=0
def tw2517746092225767586:=0
def tw691723106402441250:=0
def tw8561318101253024006:=0
def tw17566444725852293340:=0
def tw1990373614889429812:=0
def tw4209416858016353673:=0
def tw3829368006844669500:=0
def tw14975279948191937261:=0
def tw3838914439051270799:=0
def tw8303488592073675893:=0
def tw16135697713988398221:=0
def tw3990540219390326834:=0
def tw5751584558636787448:=0
def tw16006483787361135215:=0
def tw13943464127317653785:=0
def tw6513477751421301820:=0
def tw12260909363929562403:=0
def tw11574831390706213143:=0
def tw13769124202200302079:=0
def tw10110913291763446243:=0
def tw3760521109610671082:=0
def tw12493221437342028800:=0
def tw17932194125903396523:=0
def tw13878141479380746534:=0
def tw13513470384181625034:=0
def tw17683617389670619436:=0
def tw1495420459332332749:=0
def tw3771701417724941409:=0
def tw3304314203798482532:=0
def tw10958746395599377124:=0
def tw13392805335675500955:=0
def tw11820201684150346199:=0
def tw11885408088909975158:=0
def tw13885770510300044789:=0
def tw13686738210564400793:=0
def tw2613436745633301514:=0
def tw2682659782821100994:=0
def tw939325491893083623:=0
def tw3986852959135131865:=0
def tw845589205965693554:=0
def tw15514211080515395531:=0
def tw14527106285813295872:=0
def tw12054347378952267568:=0
def tw13067935096080158001:=0
def tw7471952882340308841:=0
def tw7328645899476762946:=0
def tw4109321715768984542:=0
def tw17541495852895542235:=0
def tw8102709517573431426:=0
def tw12694407697385607114:=0
def tw800434005093746011:=0
def tw1584734183062730260:=0
def tw5193158563442574774:=0
def tw12721910264370305718:=0
def tw13844664657965686997:=0
def tw3499947524155667009:=0
def tw14225700112753786580:=0
def tw4517534599870408461:=0
def tw12049243265738274411:=0
def tw12515119113793595592:=0
def tw14547817771594266983:=0
def tw13194664995865851929:=0
def tw16153707431453120300:=0
def tw16965891481248023298:=0
def tw7479555447397495689:=0
def tw17845805063948769155:=0
def tw6333610604259611799:=0
def tw8654821701651073239:=0
def tw1105409241904617598:=0
def tw16326717942979190330:=0
def tw9580310010981787656:=0
def tw11572005989526583639:=0
def tw12828421338206881786:=0
def tw4369376783528425765:=0
def tw16344919551835148214:=0
def tw13209412650355087424:=0
def tw4595313919475270908:=0
def tw12250741704102572002:=0
def tw4008058682611500453:=0
def tw15610209941395697012:=0
def tw4222285500250392636:=0
def tw17627543284424279135:=0
def tw17589023702991841972:=0
def tw5906870747717449412:=0
def tw7385473017642309623:=0
def tw2965831399585488369:=0
def tw2400614717975057029:=0
def tw15769679953118036434:=0
def tw16650869469372716596:=0
def tw10814957054142556189:=0
def tw18059458131283084533:=0
def tw10291070469548777794:=0
def tw1799975871227438856:=0
def tw3214649923538068400:=0
def tw15405033774798820785:=0
def tw7585704055631446967:=0
def tw17722710413330414420:=0
def tw9422188587622646886:=0
def tw13792653814152541409:=0
def tw9393213963975109653:=0
def tw15008114506349960226:=0
def tw7037856351484956555:=0
def tw689673659932969305:=0
def tw14306041180573804989:=0
def tw6854298685791956485:=0
def tw14404898907796758826:=0
def tw17531194442417571344:=0
def tw18031501620843110637:=0
def tw3824023341209078108:=0
def tw8904046748846121529:=0
def tw3238932186316725246:=0
def tw5861648168409417574:=0
def tw14753195987385147073:=0
def tw3905796825540921041:=0
def tw13227325414836649416:=0
def tw3759208071387046027:=0
def tw12753588587881390380:=0
def tw4157475573040681496:=0
def tw17121122526438926537:=0
def tw13022034212719409741:=0
def tw14072767949901952165:=0
def tw12042411594288908658:=0
def tw4907577437559265429:=0
def tw2247539555381647345:=0
def tw3459758033611153665:=0
def tw11572560482794519791:=0
def tw2087054698056914844:=0
def tw4872416156336246447:=0
def tw18356103949803369749:=0
def tw14355679209763834694:=0
def tw3546473707733226842:=0
def tw16422394205575707238:=0
def tw3233962212399135595:=0
def tw14948409423740019230:=0
def tw8417038713126265537:=0
def tw2516434346157592053:=0
def tw7171229239675641067:=0
def tw10038429276197011950:=0
def tw17341091781101901680:=0
def tw8803599716376442089:=0
def tw12685865856413825244:=0
def tw6484451754695369396:=0
def tw16700786546510171111:=0
def tw1868766703309887415:=0
def tw108883179409375862:=0
def tw1883882138729605163:=0
def tw1435509758820250550:=0
def tw13929724223973555037:=0
def tw7284638034875823639:=0
def tw3775562524291843532:=0
def tw12848739917835452567:=0
def tw10030434166784409714:=0
def tw5708262953554717645:=0
def tw14099869742191288330:=0
def tw15178958522286383540:=0
def tw2732680857494358746:=0
def tw3104510780724651753:=0
def tw17984132943661821698:=0
def tw12268549072265935958:=0
def tw16291519132863233360:=0
def tw9572464511905030029:=0
def tw1777126210817412762:=0
def tw8955859073462549966:=0
def tw344518500312616800:=0
def tw6510658150802515375:=0
def tw2156014562592233789:=0
def tw10517510206714470083:=0
def tw15174450880986737015:=0
def tw7407136591833968906:=0
def tw442037816744473042:=0
def tw6409589359868903363:=0
def tw14627901426088616972:=0
def tw4537635047007155392:=0
def tw15184326996209677157:=0
def tw16765880945153034470:=0
def tw8622121324845138497:=0
def tw8474456980425760450:=0
def tw13745080576185757139:=0
def tw8247269399664247275:=0
def tw18194505677699149330:=0
def tw8206437609972207087:=0
def tw10931935524263275854:=0
def tw6911424095573506704:=0
def tw11243788143332078830:=0
def tw8194880304580968970:=0
def tw16619909808086477254:=0
def tw14896734354650321498:=0
def tw16848056649658390814:=0
def tw3894782184948975233:=0
def tw3178142949176123822:=0
def tw15257574701386354654:=0
def tw17972190493358625351:=0
def tw1109538970836726667:=0
def tw810539137661341725:=0
def tw4292051656654465663:=0
def tw3765153942731155767:=0
def tw15633405086428082774:=0
def tw1347703501937732105:=0
def tw856405494515476815:=0
def tw8383468237462963682:=0
def tw15425166241454643073:=0
def tw4480384183315284040:=0
def tw17730244489858774745:=0
def tw12062772880431703933:=0
def tw6565461749875187853:=0
def tw3714428963738862917:=0
def tw6917482418394736021:=0
def tw356141715330458716:=0
def tw6565545172167847862:=0
def tw5216155051188014020:=0
def tw12550384341406115175:=0
def tw4597324353138394609:=0
def tw6860789012266646394:=0
def tw9555754213817029233:=0
def tw6047942595007209741:=0
def tw8058237361532792252:=0
def tw11571675879437981810:=0
def tw7865461094997599406:=0
def tw10329347259397390926:=0
def tw12526104565110752174:=0
def tw16547026584321264751:=0
def tw16577598735804158386:=0
def tw10560636378917447989:=0
def tw3860926079361280694:=0
def tw664557645870050161:=0
def tw16003983208435418208:=0
def tw3481035769316093643:=0
def tw11520544737579602406:=0
def tw1550537889655296400:=0
def tw18325270853418561874:=0
def tw5643281680738346760:=0
def tw1843208505229607402:=0
def tw7434182726134830057:=0
def tw5471949837501521442:=0
def tw9987630135762799615:=0
def tw3014866239266993151:=0
def tw2039170703697483393:=0
def tw5268955602688764879:=0
def tw527124578587652000:=0
def tw16709905320266433661:=0
def tw50001290799061608:=0
def tw7895238449195811185:=0
def tw4369160475752338124:=0
def tw17089751378381096151:=0
def tw6230732672493699571:=0
def tw9858012713771464919:=0
def tw16933043796829674898:=0
def tw14244609366468213459:=0
def tw10870879694296409267:=0
def tw14131966210489735101:=0
def tw16473495511243212965:=0
def tw2465924406754207582:=0
def tw1600019782796390170:=0
def tw17419650541234618050:=0
def tw9934637585763360088:=0
def tw11876366771557271455:=0
def tw15241122131427890168:=0
def tw16437289858602330016:=0
def tw5571653954143040845:=0
def tw9364417372750028146:=0
def tw16699826673706266306:=0
def tw14281706422508594953:=0
def tw5354469311888754264:=0
def tw8930534260748396245:=0
def tw13803236347319148735:=0
def tw9409484255754252337:=0
def tw14744376108641620712:=0
def tw1956866971597691573:=0
def tw3945202621149300389:=0
def tw8005643109528330114:=0
def tw17977787554147097633:=0
def tw10590255855810441011:=0
def tw18181807282035981918:=0
def tw17843480574042322261:=0
def tw4701822898475147887:=0
def tw850437442276122293:=0
def tw18009951353374118496:=0
def tw8593840786664190598:=0
def tw1230220715224031016:=0
def tw7923153775977470524:=0
def tw6855548957381943983:=0
def tw12997706711256605407:=0
def tw2526166499701929943:=0
def tw14283581571707537860:=0
def tw12165562287018402389:=0
def tw13086669028498573695:=0
def tw1105369395595044695:=0
def tw15640978422848920702:=0
def tw16953828725301268343:=0
def tw66815342470828566:=0
def tw7286085564801058037:=0
def tw13442960346772091955:=0
def tw7240142738815392749:=0
def tw17834325226299998706:=0
def tw8911541938769541633:=0
def tw14252986638952187895:=0
def tw17241978010963963755:=0
def tw8385403814240497695:=0
def tw13933156548714457989:=0
def tw1704276363137990572:=0
def tw17567859401250443611:=0
def tw4759978650560490079:=0
def tw3208487116693960352:=0
def tw9362330899752932431:=0
def tw9788752890165219585:=0
def tw16832495525546551613:=0
def tw12350818951467095720:=0
def tw17961610112209813456:=0
def tw13481291621025801475:=0
def tw7517291244384943866:=0
def tw1189284256315110718:=0
def tw5147734583078279070:=0
def tw4048849031102076790:=0
def tw10302088246880822335:=0
def tw2862916757571496023:=0
def tw4690421428444230156:=0
def tw6296130808039547308:=0
def tw1678392000556090903:=0
def tw3655264593506855622:=0
def tw11227180148809386809:=0
def tw2084196186401856892:=0
def tw1425451412170605897:=0
def tw1880692979973188530:=0
def tw13341518827748468118:=0
def tw13999972157385495097:=0
def tw4089168417434709349:=0
def tw16227816465511807060:=0
def tw18409853693036133630:=0
def tw3492357683432130389:=0
def tw15395065647696798615:=0
def tw15733527986389668075:=0
def tw17586006370021059167:=0
def tw9651275455306192994:=0
def tw2886359347087730420:=0
def tw924031893052257296:=0
def tw5945693638097105137:=0
def tw17303806451132031060:=0
def tw12990545303425459245:=0
def tw16902523802313109025:=0
def tw17132600045038235872:=0
def tw2970483714361268916:=0
def tw13893623793929563001:=0
def tw9883967206838540575:=0
def tw16148624223848093513:=0
def tw1101031546575418996:=0
def tw4803040949936600603:=0
def tw780672768468722369:=0
def tw941182852635175795:=0
def tw4190863027873801609:=0
def tw14224235614272190621:=0
def tw632545329969597932:=0
def tw11224271450516147313:=0
def tw2043520604167542518:=0
def tw6243987674565108884:=0
def tw10559681401392658822:=0
def tw2767977551342056464:=0
def tw1527804759909256176:=0
def tw14293518157634605078:=0
def tw3128780794070896003:=0
def tw9520536690899166810:=0
def tw17587761395182999783:=0
def tw1090719413946613073:=0
def tw18037891285086457938:=0
def tw15223579819085587875:=0
def tw16083755542761935141:=0
def tw6941640029802138071:=0
def tw17631017929848197444:=0
def tw16235447655239279848:=0
def tw11944612508684586983:=0
def tw10963501281980607920:=0
def tw2723203372307965968:=0
def tw9908416940466529322:=0
def tw7141052229547295688:=0
def tw16157029061052824296:=0
def tw12715692746952952961:=0
def tw13501710645903367917:=0
def tw14330481947989121536:=0
def tw13177266257582016206:=0
def tw4469505655452816866:=0
def tw16919637822609539603:=0
def tw5728934380359589040:=0
def tw1229529601370583515:=0
def tw15646451540988369839:=0
def tw10280467018347889361:=0
def tw12597050958824260606:=0
def tw7897588467759762667:=0
def tw4512864527298922816:=0
def tw10256419148947772977:=0
def tw9161505649795810044:=0
def tw17850260667257712888:=0
def tw10676337000873459302:=0
def tw14613893331627664249:=0
def tw17856034758252899660:=0
def tw5248585180793437510:=0
def tw12050995424351036255:=0
def tw5132092959825514819:=0
def tw3076838893471242412:=0
def tw17607114432440090511:=0
def tw10461758161124336808:=0
def tw12717850031422150976:=0
def tw2858926616842465643:=0
def tw6070435657034109340:=0
def tw393639152419261366:=0
def tw10553330099254876252:=0
def tw2053370935843372547:=0
def tw5848762520057226521:=0
def tw17327988133464265995:=0
def tw49777547415069781:=0
def tw719193368691232583:=0
def tw1315108355653067854:=0
def tw15244973897281472122:=0
def tw1626433976512706151:=0
def tw910467469319731872:=0
def tw10331090576531174287:=0
def tw4677630024363185645:=0
def tw1414338003765469656:=0
def tw11628338466214179407:=0
def tw2645211312254366238:=0
def tw1172138755462883415:=0
def tw6828355903046716760:=0
def tw11989430082762276689:=0
def tw11814925009874885184:=0
def tw2624879581033728110:=0
def tw13885351486847738772:=0
def tw3603663499323036399:=0
def tw2352285129327926466:=0
def tw3631250133718082740:=0
def tw6519715814656530981:=0
def tw16615582251383425842:=0
def tw14254480262117912582:=0
def tw11425675147973762905:=0
def tw6786848155732399012:=0
def tw4336601731739467392:=0
def tw11025114741242484599:=0
def tw12732453391998559917:=0
def tw2507723384980411745:=0
def tw16481602786555714261:=0
def tw7247500479726606147:=0
def tw14305453598630782970:=0
def tw18393934478107554494:=0
def tw2437476439361434830:=0
def tw10555537048798170121:=0
def tw14112327609345314617:=0
def tw18144832964630100087:=0
def tw4923248092644540313:=0
def tw17515408389366906052:=0
def tw7195434959037624631:=0
def tw5418476546458995056:=0
def tw11725392646474695370:=0
def tw843663859887928488:=0
def tw18219426590439383519:=0
def tw7798158123696982723:=0
def tw16757598045234943524:=0
def tw11661840309252270628:=0
def tw6605333515749970823:=0
def tw3244433776706386326:=0
def tw1051745846588093011:=0
def tw11460799075141271733:=0
def tw14133408421052839532:=0
def tw3045740545574557908:=0
def tw11861202648238800540:=0
def tw1030044671343044906:=0
def tw7300724103406297628:=0
def tw5800261814729199858:=0
def tw6426571438000242560:=0
def tw7437447957663410444:=0
def tw63457366158151556:=0
def tw11362633500870588675:=0
def tw11840041116818072395:=0
def tw13099341625914267034:=0
def tw4087738520780890752:=0
def tw12193853089813448169:=0
def tw6111176996637228014:=0
def tw17086040882650175191:=0
def tw13067214862316784742:=0
def tw2998541776957500474:=0
def tw395640886386031778:=0
def tw12344773179709042801:=0
def tw3314831918340436590:=0
def tw9612078170191698799:=0
def tw10142630351842778035:=0
def tw9976026525741026434:=0
def tw13816406896793137257:=0
def tw11537298295311268873:=0
def tw9050729984068556852:=0
def tw3267664402764031823:=0
def tw3298363512985367077:=0
def tw16502839658559925194:=0
def tw5629703307620238702:=0
def tw16545968743367841254:=0
def tw4584258190424153499:=0
def tw4769597292022445770:=0
def tw13014994453745531513:=0
def tw11343443208986992215:=0
def tw17279338532324482583:=0
def tw5558129751880775793:=0
def tw8073863495777619454:=0
def tw10653546688077275779:=0
def tw1743343349251977296:=0
def tw2662583674935065954:=0
def tw5320542419446249682:=0
def tw5588935836129821400:=0
def tw2139604102470340846:=0
def tw12093549032913147008:=0
def tw16466482869676987205:=0
def tw8585679785421662469:=0
def tw15852229076334564632:=0
def tw13290937762663859617:=0
def tw4817342663265470385:=0
def tw5353422446275678980:=0
def tw7803952774815752760:=0
def tw4779662432209726617:=0
def tw10776270576264414016:=0
def tw4992519716277690745:=0
def tw988912922195823266:=0
def tw6915331794292651675:=0
def tw16919879384650207899:=0
def tw6297851385421390962:=0
def tw3092815895112694843:=0
def tw1752491447314174655:=0
end PySem.W.Fast
open PySem PySem.W PyProof.Rows
set_option maxRecDepth 100000 in
set_option maxHeartbeats 0 in
theorem PySem.Challenge.cw_trickproof_k25_cards_refused_holds : PySem.Challenge.rw_trickproof_k25_cards_refused.Holds := by
 w_on;o_law;k_head;(case hw=>w_witness2)
 k_fill
 refine My.walk (l:=PySem.Challenge.rw_trickproof_k25_cards_refused) rfl rfl (fun w h Y=>by first | exact PySem.W.km_in_of Y | exact PySem.W.kIn_of Y) ?F
 case F=>
  intro w mg mb mean fa h Y KX T hmg
  have G:=T.g
  refine' My.all_mk KX G hmg ?_ ?_ ?_ ?_ ?_ ?_ ?_ ?_ ?_ ?_ ?_ ?_ ?_ ?_ ?_ ?_ ?_ ?_ ?_ ?_ ?_ ?_ ?_ ?_ ?_ ?_ ?_ ?_ ?_ ?_ ?_ ?_ ?_ ?_ ?_ ?_ ?_ ?_ ?_ ?_ ?_ ?_ ?_ ?_ ?_ ?_ ?_ ?_ ?_ ?_ ?_ ?_ ?_ ?_ ?_ ?_ ?_ ?_ ?_ ?_ ?_ ?_ ?_ ?_ ?_ ?_ ?_ ?_ ?_ ?_ ?_ ?_ ?_ ?_ ?_ ?_ ?_ ?_ ?_ ?_ ?_ ?_ ?_ ?_ ?_ ?_ ?_ ?_ ?_ ?_ ?_ ?_ ?_ ?_ ?_ ?_ ?_ ?_ ?_ ?_ ?_ ?_ ?_ ?_ ?_ ?_ ?_ ?_ ?_ ?_ ?_ ?_ ?_ ?_ ?_ ?_ ?_ ?_ ?_ ?_ ?_ ?_ ?_ ?_ ?_ ?_ ?_ ?_ ?_ ?_ ?_ ?_ ?_ ?_ ?_ ?_ ?_ ?_ ?_ ?_ ?_ ?_ ?_ ?_ ?_ ?_ ?_ ?_ ?_ ?_ ?_ ?_ ?_ ?_ ?_ ?_ ?_ ?_ ?_ ?_ ?_ ?_ ?_ ?_ ?_ ?_ ?_ ?_ ?_ ?_ ?_ ?_ ?_ ?_ ?_ ?_ ?_ ?_ ?_ ?_ ?_ ?_ ?_ ?_ ?_ ?_ ?_ ?_ ?_ ?_ ?_ ?_ ?_ ?_ ?_ ?_ ?_ ?_ ?_ ?_ ?_ ?_ ?_ ?_ ?_ ?_ ?_ ?_ ?_ ?_ ?_ ?_ ?_ ?_ ?_ ?_ ?_ ?_ ?_ ?_ ?_ ?_ ?_ ?_ ?_ ?_ ?_ ?_ ?_ ?_ ?_ ?_ ?_ ?_ ?_ ?_ ?_ ?_ ?_ ?_ ?_ ?_ ?_ ?_ ?_ ?_ ?_ ?_ ?_ ?_ ?_ ?_ ?_ ?_ ?_ ?_ ?_ ?_ ?_ ?_ ?_ ?_ ?_ ?_ ?_ ?_ ?_ ?_ ?_ ?_ ?_ ?_ ?_ ?_ ?_ ?_ ?_ ?_ ?_ ?_ ?_ ?_ ?_ ?_ ?_ ?_ ?_ ?x1 ?vx2 ?j1 ?j2 ?ke0 ?ke1 ?ke2 ?ke3 ?ke4 ?ke5 ?ke6 ?ke7 ?ke8 ?ke9 ?ke10 ?ke11 ?ke12 ?ke13 ?ke14 ?xb1 ?xb3 ?eO ?lcO ?hvO ?hcO ?nlO ?tbO ?eD ?lcD ?hvD ?hcD ?nlD ?tbD ?eL ?lcL ?hvL ?hcL ?nlL ?tbL ?pp
  rotate_left 233
  iterate 226 k_is
  iterate 61 (refine' L2.fun_mk ?_ ?_ ?_;rotate_left 9;iterate 3 k_is)
  (case x1=>k_exc)
  (case vx2=>kts_exm)
  (case j1=>kit_is)
  (case j2=>kit_is)
  (case ke0=>kit_is)
  (case ke1=>kit_is)
  (case ke2=>kit_is)
  (case ke3=>kit_is)
  (case ke4=>kit_is)
  (case ke5=>kit_is)
  (case ke6=>kit_is)
  (case ke7=>kit_is)
  (case ke8=>kit_is)
  (case ke9=>kit_is)
  (case ke10=>kit_is)
  (case ke11=>kit_is)
  (case ke12=>kit_is)
  (case ke13=>kit_is)
  (case ke14=>kit_is)
  (case xb1=>kernel_rfl)
  (case xb3=>exact rfl)
  (case eO=>exact rfl)
  (case lcO=>k_is)
  (case hvO=>exact rfl)
  (case hcO=>first | k_is | kernel_rfl)
  (case nlO=>first | k_is | kernel_rfl)
  (case tbO=>first | exact PySem.W.km_tabs_of Y _ (by simp) | exact(PySem.W.tab_of T KX rfl (by kernel_rfl)).2)
  (case eD=>exact rfl)
  (case lcD=>k_is)
  (case hvD=>exact rfl)
  (case hcD=>first | k_is | kernel_rfl)
  (case nlD=>first | k_is | kernel_rfl)
  (case tbD=>first | exact PySem.W.km_tabs_of Y _ (by simp) | exact(PySem.W.tab_of T KX rfl (by kernel_rfl)).2)
  (case eL=>exact rfl)
  (case lcL=>k_is)
  (case hvL=>exact rfl)
  (case hcL=>first | k_is | kernel_rfl)
  (case nlL=>first | k_is | kernel_rfl)
  (case tbL=>first | exact PySem.W.km_tabs_of Y _ (by simp) | exact(PySem.W.tab_of T KX rfl (by kernel_rfl)).2)
  (case pp=>decide)
#print axioms PySem.Challenge.cw_trickproof_k25_cards_refused_holds
