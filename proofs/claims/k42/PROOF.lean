import PyProof.Rows.All
import Wide.All
import OpenK.AllK
import Wide.FinOn
import Lean
import PyProof.EqAt
import PyProof.EqKinds
import PyProof.TupleCall
import PyProof.NeKinds
import PyProof.ListStr
import PyProof.Rows.SortStr
import KE.KIntText
import PySem.Challenge.RW_trickproof_k42_a_paper_told
set_option Elab.async false
set_option linter.all false
set_option maxRecDepth 100000
namespace L2
open PySem PySem.Spec PyProof.Rows
abbrev _root_.Z5:=@PyProof.Rows.boot_isinstance
abbrev _root_.Jv:=@PyProof.Rows.boot_tuple
abbrev _root_.Ys:=@PyProof.Rows.boot_list
abbrev _root_.Qb:=@PyProof.Rows.boot_int
abbrev _root_.Yi:=@PySem.F.plainAttrs_list
abbrev _root_.Xv:=@PySem.F.slot_list_append
abbrev _root_.Xu:=@PySem.F.type_list_append
abbrev _root_.Ju:=@PySem.boot_len
abbrev _root_.Zg:=@List.getElem?_eq_getElem
abbrev _root_.Zr:=@List.getD_eq_getElem?_getD
abbrev _root_.Z4:=@List.getElem?_map
abbrev _root_.Xp:=@List.getElem?_append_left
abbrev _root_.Xh:=@List.getElem?_append_right
abbrev _root_.Zu:=@List.getElem?_eq_some_iff
abbrev _root_.Zl:=@List.mem_of_getElem?
abbrev _root_.Zx:=@List.mem_cons_of_mem
abbrev _root_.Zw:=@List.mem_cons_self
abbrev _root_.Zk:=@List.length_map
abbrev _root_.Jc:=@List.length_append
abbrev _root_.Yb:=@List.length_range
abbrev _root_.Jo:=@List.length_cons
abbrev _root_.Jw:=@List.map_append
abbrev _root_.Z7:=@List.map_map
abbrev _root_.Zz:=@List.mem_map
abbrev _root_.J1:=@List.mem_append
abbrev _root_.Jg:=@List.mem_singleton
abbrev _root_.Zy:=@Option.some.inj
abbrev _root_.Zp:=@Bool.false_ne_true
abbrev _root_.Z2:=@Int.toNat_natCast
abbrev _root_.Zd:=@decide_eq_false
abbrev _root_.Zc:=@decide_eq_true
abbrev _root_.Zh:=@Heap.get?_push_of_some
abbrev _root_.Z3:=@Heap.lt_size
abbrev _root_.Zb:=@wpAny_bind
abbrev _root_.Yg:=@List.mem_range
abbrev _root_.Xz:=@List.length_set
abbrev _root_.Ji:=@Nat.lt_of_lt_of_le
abbrev _root_.Ui:=@Nat.le_of_lt
abbrev _root_.Jx:=@Nat.lt_of_le_of_lt
abbrev _root_.J9:=@List.append_nil
abbrev _root_.Ua:=@List.mem_iff_getElem
abbrev _root_.Y3:=@List.append_assoc
abbrev _root_.J0:=@of_decide_eq_true
abbrev _root_.Y6:=@List.getElem_mem
abbrev _root_.Y5:=@List.not_mem_nil
abbrev _root_.Yo:=@Int.emod_nonneg
abbrev _root_.Yl:=@Int.emod_lt_of_pos
abbrev _root_.J2:=@List.map_congr_left
abbrev _root_.Ze:=@wpAny_pure
abbrev _root_.Zs:=@Nat.le_refl
abbrev _root_.Z1:=@List.size_toArray
abbrev _root_.Zj:=@if_neg
abbrev _root_.Zv:=@if_pos
abbrev _root_.Ja:=@List.mem_cons
abbrev _root_.Z6:=@Heap.get?_push_size
abbrev _root_.Jd:=@Nat.le_trans
abbrev _root_.Jh:=@Nat.ne_of_lt
abbrev _root_.Ym:=@List.all_eq_true
abbrev _root_.U0:=@List.take_succ
abbrev _root_.Jq:=@Option.map_eq_some_iff
abbrev _root_.X0:=@Int.natCast_add
abbrev _root_.Eh:=@Int.le_refl
abbrev _root_.Xm:=@List.length_take
abbrev _root_.Xl:=@Nat.lt_succ_self
abbrev _root_.Qk:=@beq_self_eq_true
abbrev N2:=Sum Int Str
def Dk:N2→Value→Bool
 | .inl k,v=>Value.isInt k v
 | .inr x,v=>Value.isStrOf x v
def Zs0(w:World):N2→Int
 | .inl k=>hashInt k
 | .inr x=>hashStr w x
theorem Uu:∀{k:N2} {v:Value},Dk k v=true→(∃ i t,k=Sum.inl i∧v=Value.int i t)∨(∃ x t,k=Sum.inr x∧v=Value.str x t)
 | .inl i,v,h=>by
  obtain⟨t,e⟩:=Value.isInt_shape (k:=i) (v:=v) h;exact .inl ⟨i,t,rfl,e⟩
 | .inr x,v,h=>by
  obtain⟨t,e⟩:=Value.isStrOf_shape (x:=x) (v:=v) h;exact .inr ⟨x,t,rfl,e⟩
theorem Zfw(i:Int)(t:Tok):Dk (.inl i) (.int i t)=true:=by simp [Dk,Value.isInt]
theorem Zfv(x:Str)(t:Tok):Dk (.inr x) (.str x t)=true:=by simp [Dk,Value.isStrOf]
theorem Zpn(a b:Int):decide ((Sum.inl a:N2)=Sum.inl b)=(a == b):=by
 by_cases e:a=b
 ·subst e;simp
 ·have h:¬ (Sum.inl a:N2)=Sum.inl b:=fun q=>e (Sum.inl.inj q)
  rw[Zd h];exact(beq_eq_false_iff_ne.mpr e).symm
theorem Zpj(a b:Str):decide ((Sum.inr a:N2)=Sum.inr b)=decide (a=b):=by
 by_cases e:a=b
 ·subst e;simp
 ·have h:¬ (Sum.inr a:N2)=Sum.inr b:=fun q=>e (Sum.inr.inj q)
  rw[Zd h,Zd e]
theorem Zpm(a:Int)(b:Str):decide ((Sum.inl a:N2)=Sum.inr b)=false:=Zd (fun q=>nomatch q)
theorem Zpk(a:Str)(b:Int):decide ((Sum.inr a:N2)=Sum.inl b)=false:=Zd (fun q=>nomatch q)
def Yr(prog:Program)(w:World):PySem.KeyKind prog w N2 where
 is:=Dk
 hash:=Zs0 w
 inj:=fun v a b ha hb=>by
  rcases Uu ha with⟨i,t,rfl,rfl⟩ | ⟨x,t,rfl,rfl⟩
  ·rcases Uu hb with⟨j,u,rfl,e⟩ | ⟨y,u,rfl,e⟩
   ·injection e with e1 _;rw[e1]
   ·exact nomatch e
  ·rcases Uu hb with⟨j,u,rfl,e⟩ | ⟨y,u,rfl,e⟩
   ·exact nomatch e
   ·injection e with e1 _;rw[e1]
 byValue:=fun k v h=>by
  rcases Uu h with⟨i,t,rfl,rfl⟩ | ⟨x,t,rfl,rfl⟩<;>rfl
 pyHash:=fun hv h=>by
  rcases Uu hv with⟨i,t,rfl,rfl⟩ | ⟨x,t,rfl,rfl⟩
  ·exact wpAny_pyHash_int h
  ·exact wpAny_pyHash_str h
 eqBool:=fun hu hv h=>by
  rcases Uu hu with⟨i,t,rfl,rfl⟩ | ⟨x,t,rfl,rfl⟩
  ·rcases Uu hv with⟨j,u,rfl,rfl⟩ | ⟨y,u,rfl,rfl⟩
   ·rw[Zpn] at h;exact wpAny_eqBool_int h
   ·rw[Zpm] at h;exact SeqAt.EqAt.int_str i t y u _ _ _ _ h
  ·rcases Uu hv with⟨j,u,rfl,rfl⟩ | ⟨y,u,rfl,rfl⟩
   ·rw[Zpk] at h;exact SeqAt.EqAt.str_int x t j u _ _ _ _ h
   ·rw[Zpj] at h;exact wpAny_eqBool_str h
 «strs»:=fun k x t v h=>by
  rcases Uu h with⟨i,u,rfl,e⟩ | ⟨y,u,rfl,e⟩
  ·exact nomatch e
  ·injection e with e1 _
   subst e1;cases v<;>rfl
theorem Xf(prog:Program)(w:World)(i:Int)(t:Tok):(Yr prog w).is (.inl i) (.int i t)=true:=Zfw i t
theorem So(prog:Program)(w:World)(x:Str)(t:Tok):(Yr prog w).is (.inr x) (.str x t)=true:=Zfv x t
inductive V where
 | non | bl (b:Bool) | int (i:Int) | str (x:Str) | byt (b:Array UInt8) | flt (b:UInt64) | ref (a:Addr) | ty (n:String)
 deriving DecidableEq
def RelV:V→Value→Prop
 | .non,u=>u=Value.none
 | .bl b,u=>u=Value.bool b
 | .int i,u=>∃ t,u=Value.int i t
 | .str x,u=>∃ t,u=Value.str x t
 | .byt b,u=>∃ t,u=Value.bytes b t
 | .flt b,u=>∃ t,u=Value.float b t
 | .ref a,u=>u=Value.ref a
 | .ty n,u=>u=Value.type n
abbrev Vals:List V→List Value→Prop:=Paired RelV
theorem Vals.length{xs:List V}{us:List Value}(r:Vals xs us):xs.length=us.length:=Paired.length r
theorem Vals.get:∀{xs:List V} {us:List Value} {i:Nat} {x:V},Vals xs us→xs[i]? = some x→∃ u,us[i]? = some u∧RelV x u
 | _,_,_,_,.nil,e=>by simp at e
 | _,_,0,_,.cons r _,e=>by simp at e;subst e;exact⟨_,rfl,r⟩
 | _,_,i+1,x,.cons _ t,e=>by
  obtain⟨u,h1,h2⟩:=Vals.get (i:=i) (x:=x) t (by simpa using e);exact⟨u,by simpa using h1,h2⟩
theorem Vals.set{x:V}{u:Value}(r:RelV x u):∀{xs:List V} {us:List Value} (i:Nat),Vals xs us→Vals (xs.set i x) (us.set i u)
 | _,_,_,.nil=>.nil
 | _,_,0,.cons _ t=>.cons r t
 | _,_,i+1,.cons q t=>.cons q (Vals.set r i t)
theorem Vals.append:∀{xs ys:List V} {us ws:List Value},Vals xs us→Vals ys ws→Vals (xs++ys) (us++ws)
 | _,_,_,_,.nil,s=>s
 | _,_,_,_,.cons r t,s=>.cons r (Vals.append t s)
theorem Vals.take:∀{xs:List V} {us:List Value} (n:Nat),Vals xs us→Vals (xs.take n) (us.take n)
 | _,_,0,_=>.nil
 | _,_,_+1,.nil=>.nil
 | _,_,n+1,.cons r t=>.cons r (Vals.take n t)
theorem Vals.drop:∀{xs:List V} {us:List Value} (n:Nat),Vals xs us→Vals (xs.drop n) (us.drop n)
 | _,_,0,r=>r
 | _,_,_+1,.nil=>.nil
 | _,_,n+1,.cons _ t=>Vals.drop n t
def RelO:Option V→Option Value→Prop
 | some v,some u=>RelV v u
 | none,none=>True
 | _,_=>False
def KV{κ:Type}:List (κ×V)→List (κ×Value)→Prop:=Paired fun(p:κ×V) (q:κ×Value)=>p.1=q.1∧RelV p.2 q.2
def kV:N2→V
 | .inl i=>.int i
 | .inr x=>.str x
inductive HO where
 | lst (xs:List V)
 | tup (xs:List V)
 | dK (kvs:List (N2×V)) | dT (kvs:List (List N2×V))
 | set (S:Int→Bool) (n:Nat)
 | ins (C dx:Addr) (fs:List (Str×V))
 | own (x:Addr)
 | xd (fs:List (Str×V))
 | met (f x:Addr)
 | rng (lo hi:Int)
 | frz (o:Obj) (u:HO)
 | tbl (ps:Array Value)
 | ext (φ:Heap→Prop)
abbrev Hp:=Addr→Option HO
def upd(H:Hp)(a:Addr)(o:HO):Hp:=fun b=>if b=a then some o else H b
theorem Zq{H:Hp}{a:Addr}{o:HO}:upd H a o a=some o:=by unfold upd;rw[Zv rfl]
theorem Z8{H:Hp}{a b:Addr}{o:HO}(h:b≠a):upd H a o b=H b:=by unfold upd;rw[Zj h]
theorem U3{H:Hp}{a:Addr}{o u:HO}:upd (upd H a o) a u=upd H a u:=by
 funext b;unfold upd;split<;>rfl
theorem Znm{H:Hp}{a b:Addr}{o u:HO}(h:H a=some o)(h':H b=some u)(d:o≠u):a≠b:=by
 intro e;subst e;rw[h] at h';exact d (Zy h')
theorem Jz{H:Hp}{a b:Addr}{o:HO}(h:H a=some o)(h':H b=none):a≠b:=by
 intro e;subst e;rw[h] at h';cases h'
section
variable(P:Program)(w:World)
def ObjOk(H:Hp)(h:Heap)(a:Addr):HO→Prop
 | .lst xs=>xs.length≤sizeLine∧∃(its:List Value) (n:Nat),Vals xs its∧h.get? a=some { cls:=.type "list",data:=.seq its.toArray n }
 | .tup xs=>xs.length≤sizeLine∧∃ its:List Value,Vals xs its∧IsTup h a its.toArray
 | .dK kvs=>kvs.length≤sizeLine∧(a == sysModules)=false∧∃ vs,KV kvs vs∧h.DictOf (Yr P w) a vs
 | .dT kvs=>kvs.length≤sizeLine∧(a == sysModules)=false∧∃ xs:List (List N2×Addr×Value),
   Paired (fun(p:List N2×V) (q:List N2×Addr×Value)=>p.1=q.1∧H q.2.1=some (.tup (p.1.map kV))∧RelV p.2 q.2.2) kvs xs ∧
   ∃ o es ep,h.get? a=some o∧o.ExactDict∧o.data = .dict es ep∧es.toList=xs.map (entryOfKey (tupleKind (Yr P w)))∧(xs.map (·.1)).Nodup
 | .set S n=>h.SetOf (intKind P w) a S n
 | .ins C dx fs=>H dx=some (.own a)∧fs.length≤1000∧dx≠a∧h.get? a=some (W.instObj C dx) ∧
   ∃ mA,h.Ns1 dx mA∧(∀ f,RelO (fs.lookup f) (mA f))∧PySem.Within mA (fs.map (·.1))
 | .own _=>∃ o,h.get? a=some o
 | .xd fs=>∃ mA,h.Ns1 a mA∧∀ f,RelO (fs.lookup f) (mA f)
 | .rng lo hi=>∃ t u v,h.get? a=some { cls:=.type "range",data:=.fields #[.int lo t,.int hi u,.int 1 v] }
 | .frz o u=>h.get? a=some o∧ObjOk H h a u
 | .tbl ps=>h.get? a=some { cls:=.none,data:=.fields ps }
 | .met f x=>h.get? a=some (W.methodObj (.ref f) (.ref x))
 | .ext φ=>φ h∧(∃ o,h.get? a=some o)∧∀ h1 h2:Heap,φ h1→(∀ o,h1.get? a=some o→h2.get? a=some o)→φ h2
def HOk(H:Hp)(h:Heap):Prop:=∀ a o,H a=some o→ObjOk P w H h a o
end
section
variable{P:Program}{w:World}{H H':Hp}{h h':Heap}{a:Addr}{o:HO}
theorem ObjOk.lt(x:ObjOk P w H h a o):a < h.objs.size:=by
 cases o with
 | lst xs=>obtain⟨_,_,_,_,e⟩:=x;exact Z3 e
 | tup xs=>obtain⟨_,_,_,p⟩:=x;exact p.lt
 | dK kvs=>obtain⟨_,_,_,_,o,_,_,e,_⟩:=x;exact Z3 e
 | dT kvs=>obtain⟨_,_,_,_,o,_,_,e,_⟩:=x;exact Z3 e
 | set S n=>obtain⟨o,_,_,_,e,_⟩:=x;exact Z3 e
 | ins C dx fs=>obtain⟨_,_,_,e,_⟩:=x;exact Z3 e
 | own y=>obtain⟨_,e⟩:=x;exact Z3 e
 | xd fs=>obtain⟨_,⟨_,_,_,e,_⟩,_⟩:=x;exact Z3 e
 | rng lo hi=>obtain⟨_,_,_,e⟩:=x;exact Z3 e
 | frz ob u=>obtain⟨e,_⟩:=x;exact Z3 e
 | tbl ps=>exact Z3 (show h.get? a=some _ from x)
 | met f y=>exact Z3 (show h.get? a=some _ from x)
 | ext φ=>obtain⟨_,⟨_,e⟩,_⟩:=x;exact Z3 e
theorem Paired.mapP{α β:Type}{F G:α→β→Prop}:∀{l₁:List α} {l₂:List β},Paired F l₁ l₂→(∀ a b,F a b→G a b)→Paired G l₁ l₂
 | _,_,.nil,_=>.nil
 | _,_,.cons r t,f=>.cons (f _ _ r) (Paired.mapP t f)
theorem ObjOk.stay(x:ObjOk P w H h a o)(k:∀ b u,(b=a∨H b=some (.own a))→h.get? b=some u→h'.get? b=some u)
  (ho:∀ b,H b=some (.own a)→H' b=some (.own a)) (ht:∀ b xs,H b=some (.tup xs)→H' b=some (.tup xs)):ObjOk P w H' h' a o:=by
 induction o with
 | lst xs=>obtain⟨z,its,n,r,e⟩:=x;exact⟨z,its,n,r,k _ _ (.inl rfl) e⟩
 | tup xs=>obtain⟨z,its,r,ob,e,c⟩:=x;exact⟨z,its,r,ob,k _ _ (.inl rfl) e,c⟩
 | dK kvs=>obtain⟨z,y,vs,r,ob,es,ep,e,c⟩:=x;exact⟨z,y,vs,r,ob,es,ep,k _ _ (.inl rfl) e,c⟩
 | dT kvs=>
  obtain⟨z,y,xs,r,ob,es,ep,e,c⟩:=x;exact⟨z,y,xs,Paired.mapP r fun p q z=>⟨z.1,ht _ _ z.2.1,z.2.2⟩,ob,es,ep,k _ _ (.inl rfl) e,c⟩
 | set S n=>obtain⟨ob,es,ep,t,e,c⟩:=x;exact⟨ob,es,ep,t,k _ _ (.inl rfl) e,c⟩
 | ins C dx fs=>
  obtain⟨d,z,ne,e,mA,⟨od,es,ep,e2,c⟩,r⟩:=x;exact⟨ho _ d,z,ne,k _ _ (.inl rfl) e,mA,⟨od,es,ep,k _ _ (.inr d) e2,c⟩,r⟩
 | own y=>obtain⟨ob,e⟩:=x;exact⟨ob,k _ _ (.inl rfl) e⟩
 | xd fs=>obtain⟨mA,⟨od,es,ep,e,c⟩,r⟩:=x;exact⟨mA,⟨od,es,ep,k _ _ (.inl rfl) e,c⟩,r⟩
 | rng lo hi=>obtain⟨t,u,v,e⟩:=x;exact⟨t,u,v,k _ _ (.inl rfl) e⟩
 | frz ob u ih=>obtain⟨e,q⟩:=x;exact⟨k _ _ (.inl rfl) e,ih q⟩
 | tbl ps=>
  have e:h.get? a=some { cls:=.none,data:=.fields ps }:=x;show h'.get? a=some { cls:=.none,data:=.fields ps };exact k a _ (.inl rfl) e
 | met f y=>
  have e:h.get? a=some (W.methodObj (.ref f) (.ref y)):=x;show h'.get? a=some (W.methodObj (.ref f) (.ref y));exact k a _ (.inl rfl) e
 | ext φ=>obtain⟨p,⟨o,e⟩,st⟩:=x;exact⟨st _ _ p fun o q=>k _ _ (.inl rfl) q,⟨o,k _ _ (.inl rfl) e⟩,st⟩
theorem HOk.lt(x:HOk P w H h)(e:H a=some o):a < h.objs.size:=(x a o e).lt
theorem HOk.fresh(x:HOk P w H h)(e:h.objs.size≤a):H a=none:=by
 cases q:H a with
 | none=>rfl
 | some u=>exact absurd (Ji (x.lt q) e) (Nat.lt_irrefl _)
theorem HOk.kept(x:HOk P w H h)(k:∀ b u,h.get? b=some u→h'.get? b=some u):HOk P w H h':=fun a o e=>
 (x a o e).stay (fun b u _ q=>k b u q) (fun _ q=>q) fun _ _ q=>q
theorem HOk.laid(x:HOk P w H h)(k:∀ b u,h.get? b=some u→h'.get? b=some u)(hp:h.objs.size≤a)(new:ObjOk P w (upd H a o) h' a o):HOk P w (upd H a o) h':=fun b u e=>by
 have hn:=x.fresh hp;by_cases hb:b=a
 ·subst hb;rw[Zq] at e;cases e;exact new
 ·rw[Z8 hb] at e
  exact(x b u e).stay (fun c v _ q=>k c v q) (fun c q=>by rw[Z8 (Jz q hn)];exact q) fun c xs q=>by rw[Z8 (Jz q hn)];exact q
end
def Rd(H:Hp)(a:Addr)(u:HO):Prop:=H a=some u∨∃ o,H a=some (.frz o u)
theorem Rd.ok{P:Program}{w:World}{H:Hp}{h:Heap}{a:Addr}{u:HO}(r:Rd H a u)(x:HOk P w H h):ObjOk P w H h a u:=by
 rcases r with r | ⟨o,r⟩
 ·exact x a u r
 ·obtain⟨_,q⟩:=x a _ r
  exact q
def Mut:Option HO→Prop
 | some (.lst _)=>True
 | some (.dK _)=>True
 | some (.dT _)=>True
 | some (.set _ _)=>True
 | some (.ins _ _ _)=>True
 | some (.ext _)=>True
 | _=>False
section
variable{P:Program}{w:World}{H:Hp}{h h':Heap}{x e:Addr}{o':HO}
theorem HOk.write(ok:HOk P w H h)(mu:Mut (H x))(he:e=x∨H e=some (.own x))(k:∀ b u,b≠e→h.get? b=some u→h'.get? b=some u)(heo:∃ u,h'.get? e=some u)
  (new:ObjOk P w (upd H x o') h' x o'):HOk P w (upd H x o') h':=fun b u q=>by
 have nown:∀ c y,H c=some (.own y)→c≠x:=fun c y r z=>by subst z;rw[r] at mu;exact mu
 have ntup:∀ c xs,H c=some (.tup xs)→c≠x:=fun c xs r z=>by subst z;rw[r] at mu;exact mu
 by_cases hb:b=x
 ·subst hb;rw[Zq] at q;cases q;exact new
 ·rw[Z8 hb] at q
  by_cases hbe:b=e
  ·have q':H b=some (.own x):=by
    rcases he with z | z
    ·exact absurd (hbe.trans z) hb
    ·rw[hbe];exact z
   rw[q] at q';cases q';obtain⟨v,hv⟩:=heo;exact⟨v,by rw[hbe];exact hv⟩
  ·refine(ok b u q).stay (fun c v hc r=>k c v ?_ r) (fun c r=>by rw[Z8 (nown c b r)];exact r) fun c xs r=>by rw[Z8 (ntup c xs r)];exact r
   rcases hc with rfl | hc
   ·exact hbe
   ·rintro rfl
    rcases he with z | z
    ·exact nown c b hc z
    ·rw[hc] at z;cases z;exact hb rfl
end
structure Un(fs ex:List Addr)(H H':Hp)(h h':Heap):Prop where
 keep:∀ b o,h.get? b=some o→H b=none→b∉fs→b∉ex→h'.get? b=some o
 slot:∀ b o,h.get? b=some o→H b=none→b∈fs→b∉ex→∃ sl,h'.get? b=some { o with slots:=sl }
 free:∀ b o,h.get? b=some o→H b=none→b∉ex→H' b=none
 there:∀ b o,h.get? b=some o→b∉ex→∃ o',h'.get? b=some o'
 tups:∀ b xs,H b=some (.tup xs)→H' b=some (.tup xs)
 frzs:∀ b o u,H b=some (.frz o u)→H' b=some (.frz o u)
 tbls:∀ b ps,H b=some (.tbl ps)→∃ more,H' b=some (.tbl (ps++more))
section
variable{fs fs' ex ex':List Addr}{H H1 H2:Hp}{h h1 h2 h':Heap}{a x e:Addr}{o:HO}
theorem Un.any(u:Un fs ex H H1 h h1){b:Addr}{ob:Obj}(q:h.get? b=some ob)(n:H b=none)(hx:b∉ex):∃ sl,h1.get? b=some { ob with slots:=sl }:=by
 by_cases hb:b∈fs
 ·exact u.slot b ob q n hb hx
 ·exact⟨ob.slots,u.keep b ob q n hb hx⟩
theorem Un.kept(k:∀ b u,h.get? b=some u→h'.get? b=some u):Un fs ex H H h h':=
 ⟨fun b ob q _ _ _=>k b ob q,fun b ob q _ _ _=>⟨ob.slots,k b ob q⟩,fun _ _ _ n _=>n,fun b ob q _=>⟨ob,k b ob q⟩,fun _ _ q=>q,fun _ _ _ q=>q,fun _ ps q=>⟨#[],by rw[q];simp⟩⟩
theorem Un.refl:Un fs ex H H h h:=Un.kept fun _ _ q=>q
theorem Un.laid(k:∀ b u,h.get? b=some u→h'.get? b=some u)(hp:h.objs.size≤a)(hn:H a=none):Un fs ex H (upd H a o) h h' where
 keep:=fun b u q _ _ _=>k b u q
 slot:=fun b u q _ _ _=>⟨u.slots,k b u q⟩
 free:=fun b u q n _=>by rw[Z8 (Jh (Ji (Z3 q) hp))];exact n
 there:=fun b u q _=>⟨u,k b u q⟩
 tups:=fun b xs q=>by rw[Z8 (Jz q hn)];exact q
 frzs:=fun b u xs q=>by rw[Z8 (Jz q hn)];exact q
 tbls:=fun b ps q=>⟨#[],by rw[Z8 (Jz q hn),q];simp⟩
theorem Un.write(mu:Mut (H x))(he:e=x∨H e=some (.own x))(k:∀ b u,b≠e→h.get? b=some u→h'.get? b=some u)(heo:∃ u,h'.get? e=some u):Un fs ex H (upd H x o) h h':=by
 have hx:∀ b,H b=none→b≠x:=fun b n z=>by subst z;rw[n] at mu;exact mu
 have hb:∀ b,H b=none→b≠e:=fun b n z=>by
  subst z;rcases he with r | r
  ·exact hx b n r
  ·rw[n] at r;cases r
 have hm:∀ b u,H b=some u→¬ Mut (some u)→b≠x:=fun b u q nm z=>by subst z;rw[q] at mu;exact nm mu
 refine⟨fun b u q n _ _=>k b u (hb b n) q,fun b u q n _ _=>⟨u.slots,k b u (hb b n) q⟩,fun b u q n _=>by rw[Z8 (hx b n)];exact n,fun b u q _=>?_,
  fun b xs q=>by rw[Z8 (hm b _ q fun z=>z)];exact q,fun b u xs q=>by rw[Z8 (hm b _ q fun z=>z)];exact q,fun b ps q=>⟨#[],by rw[Z8 (hm b _ q fun z=>z),q];simp⟩⟩
 by_cases hbe:b=e
 ·subst hbe;exact heo
 ·exact⟨u,k b u hbe q⟩
end
def trk(h:Heap)(H:Hp):List Addr:=(List.range h.objs.size).filter fun a=>(H a).isSome
def Aw(h:Heap)(H:Hp):Heap:=W.hideAll h (trk h H)
theorem Zf0(h:Heap)(H:Hp):(Aw h H).objs.size=h.objs.size:=W.hideAll_size _ _
theorem Zj7{h:Heap}{H:Hp}{b:Addr}{o:Obj}(e:h.get? b=some o)(n:H b=none):(Aw h H).get? b=some o:=
 W.hideAll_get _ e fun hm=>by
  have q:(H b).isSome=true:=(List.mem_filter.mp hm).2;rw[n] at q;simp at q
theorem Zmf{h:Heap}{H:Hp}{b:Addr}{o:Obj}(e:(Aw h H).get? b=some o):h.get? b=some o∧H b=none:=by
 have e':h.get? b=some o:=W.of_hideAll (trk h H) e;refine⟨e',?_⟩;cases q:H b with
 | none=>rfl
 | some x=>
  have hm:b∈trk h H:=List.mem_filter.mpr ⟨Yg.mpr (Z3 e'),by simp [q]⟩;have z:(Aw h H).get? b=none:=W.hideAll_none (trk h H) hm;rw[z] at e;cases e
def Zm4(g h:Heap)(L:Addr):List (Addr×Obj):=(List.range h.objs.size).filterMap fun a=>if a=L∨(g.get? a).isSome=true then none else(h.get? a).map fun o=>(a,o)
def rest(g h:Heap)(L d:Addr):List (Addr×Obj):=(Zm4 g h L).filter fun p=>decide (p.1≠d)
structure Mod(K:W.Frag)(mg:Str→Option Value)(base:Heap):Prop where
 kin:K.In base
 glob:base.Ns mainGlobals mg
 blt:∃ mb,base.Ns builtinsNs mb∧∀ x:Str,x≠"__name__"→mb x=bootBuiltins x
 nolimit:base.NoLimit
structure Cx where
 prog:Program
 w:World
 K:W.Frag
 mg:Str→Option Value
 base:Heap
 A:Around
 N:List Str
 s₀:Shared
 H₀:Hp
 env:Env
 outer:List Env
 stack:List Env
 ex:List Addr
 fn:Str→Bool
 calm:Bool
 pn:List (Addr×Obj)
 xe:Value→Shared→Prop
def Rg(l:List Env):List Addr:=l.filterMap (·.frame)
abbrev Cx.fs(X:Cx):List Addr:=Rg X.outer
def Vis(sc:Scope)(x:Str):Prop:=sc.names.lookup x=some .local∨sc.names.lookup x=some .cell∨sc.names.lookup x=some .free
def Loc(sc:Scope)(x:Str):Prop:=sc.names.lookup x=some .local∨sc.names.lookup x=some .cell
def Ztc(env:Env)(h:Heap)(m:Str→Option Value)(x:Str)(u:Value):Prop:=
 (env.kindOf x=some .local∧m x=some u)∨((env.kindOf x=some .cell∨env.kindOf x=some .free)∧∃ c,env.cells.lookup x=some c∧h.IsCell c (some u))
structure Cx.Ok(X:Cx):Prop where
 mod:Mod X.K X.mg X.base
 kind:X.env.scope.kind = .function
 glob:X.env.globals=mainGlobals
 blt:X.env.builtins=builtinsNs
 above:X.s₀.heap.objs.size≤X.env.locals
 inj:∀ x y c,X.env.cells.lookup x=some c→X.env.cells.lookup y=some c→x=y
 has:∀ x,(X.env.kindOf x=some .cell∨X.env.kindOf x=some .free)→∃ c,X.env.cells.lookup x=some c
 cab:∀ x c,X.fn x=true→X.env.cells.lookup x=some c→X.s₀.heap.objs.size≤c
 hd:X.calm=true→X.A.handled=none
 frames:X.A.frames=some X.stack
 stk:X.stack=X.outer∨(X.stack=X.env :: X.outer∧X.env.frame=some X.env.locals)
 exf:∀ b∈X.ex,b≠X.env.locals∧∀ x c,X.env.cells.lookup x=some c→c≠b
 bs:∀ b o,X.base.get? b=some o→X.s₀.heap.get? b=some o∧X.H₀ b=none
 bsz:X.base.objs.size≤X.s₀.heap.objs.size
 noex:∀ b o,X.base.get? b=some o→b∉X.ex
 exfs:∀ b∈X.ex,b∉X.fs
 funs:X.s₀.heap.FunFrames X.base X.outer
 frf:∀ b∈X.fs,X.H₀ b=none
structure Inv(X:Cx)(pins:List (Addr×Obj))(σ:List (Option V))(H:Hp)(s:Shared):Prop where
 ok:X.Ok
 os:s.os=X.s₀.os
 bare:AllBare s.gens
 base:Un X.fs X.ex X.H₀ H X.s₀.heap s.heap
 loc:∃ m,s.heap.Ns X.env.locals m∧∀(i:Nat) (x:Str) (v:V),X.N[i]? = some x→σ[i]? = some (some v)→Vis X.env.scope x→∃ u,RelV v u∧Ztc X.env s.heap m x u
 cell:∀ x c,X.env.cells.lookup x=some c→∃ v,s.heap.IsCell c v
 free:H X.env.locals=none
 freeC:∀ x c,X.env.cells.lookup x=some c→H c=none
 pin:∀ p∈X.pn++pins,s.heap.get? p.1=some p.2∧H p.1=none∧p.1≠X.env.locals∧p.1∉X.fs∧∀ v,p.2.data ≠ .cell v
 hok:HOk X.prog X.w H s.heap
 len:σ.length=X.N.length
section
variable{X:Cx}{pins:List (Addr×Obj)}{σ:List (Option V)}{H H':Hp}{s:Shared}{h':Heap}
theorem Cx.Ok.nofr(ok:X.Ok){b:Addr}{o:Obj}(e:X.base.get? b=some o):b∉X.fs:=fun hb=>by
 have:=(ok.funs.mem hb).1;rw[e] at this;cases this
theorem Inv.bs(I:Inv X pins σ H s):∀ b o,X.base.get? b=some o→s.heap.get? b=some o∧H b=none:=fun b o e=>
 ⟨I.base.keep b o (I.ok.bs b o e).1 (I.ok.bs b o e).2 (I.ok.nofr e) (I.ok.noex b o e),I.base.free b o (I.ok.bs b o e).1 (I.ok.bs b o e).2 (I.ok.noex b o e)⟩
theorem Inv.bk(I:Inv X pins σ H s):∀ b o,X.base.get? b=some o→s.heap.get? b=some o:=fun b o e=>(I.bs b o e).1
theorem Inv.mod(I:Inv X pins σ H s):Mod X.K X.mg X.base:=I.ok.mod
theorem Inv.kIn(I:Inv X pins σ H s):X.K.In s.heap:=I.ok.mod.kin.keeps I.bk
theorem Inv.lt(I:Inv X pins σ H s):X.env.locals < s.heap.objs.size:=let ⟨_,hn,_⟩:=I.loc;hn.lt
theorem Inv.sz(I:Inv X pins σ H s):X.s₀.heap.objs.size≤s.heap.objs.size:=Jd I.ok.above (Ui I.lt)
theorem Inv.nofs(I:Inv X pins σ H s){a:Addr}(h:s.heap.objs.size≤a):a∉X.fs:=fun hb=>by
 obtain⟨_,o,ho,_⟩:=I.ok.funs.mem hb;exact absurd (Ji (Z3 ho) (Jd I.sz h)) (Nat.lt_irrefl _)
theorem Inv.cne(I:Inv X pins σ H s):∀ x c,X.env.cells.lookup x=some c→c≠X.env.locals:=fun x c e z=>by
 obtain⟨v,o,ho,hd⟩:=I.cell x c e;obtain⟨m,⟨o',es,ep,ho',hd',_⟩,_⟩:=I.loc;rw[z,ho'] at ho;cases ho;rw[hd'] at hd;cases hd
theorem Inv.funs(I:Inv X pins σ H s):s.heap.FunFrames X.base X.outer:=by
 have all:∀(l:List Env),(∀ b∈Rg l,b∈X.fs)→X.s₀.heap.FunFrames X.base l→s.heap.FunFrames X.base l:=by
  intro l
  induction l with
  | nil=>intro _ _;trivial
  | cons env r ih=>
   intro hs hl;obtain⟨hk,⟨L,o,hf,hn,ho,hd⟩,hr⟩:=hl;have hL:L∈X.fs:=hs L (by unfold Rg;rw[List.filterMap_cons,hf];exact Zw);obtain⟨sl,e⟩:=I.base.slot L o ho (I.ok.frf L hL) hL fun z=>I.ok.exfs L z hL;exact⟨hk,⟨L,_,hf,hn,e,hd⟩,ih (fun b hb=>hs b (by unfold Rg;rw[List.filterMap_cons,hf];exact Zx _ hb)) hr⟩
 exact all X.outer (fun _ hb=>hb) I.ok.funs
theorem Inv.stack(I:Inv X pins σ H s):s.heap.FunFrames X.base X.stack:=by
 rcases I.ok.stk with e | ⟨e,hf⟩
 ·rw[e];exact I.funs
 ·rw[e]
  obtain⟨m,hn,_⟩:=I.loc;refine .cons (by rw[I.ok.kind];decide) hf hn ?_ I.funs;exact Heap.get?_none_of_le (Jd I.ok.bsz I.ok.above)
theorem Inv.stkSub(I:Inv X pins σ H s):∀ b∈Rg X.stack,b∈X.env.locals :: X.fs:=fun b hb=>by
 rcases I.ok.stk with e | ⟨e,hf⟩
 ·rw[e] at hb;exact Zx _ hb
 ·rw[e] at hb
  unfold Rg at hb;rw[List.filterMap_cons,hf] at hb;exact hb
theorem Inv.stkFree(I:Inv X pins σ H s):∀ b∈Rg X.stack,H b=none:=fun b hb=>by
 rcases Ja.mp (I.stkSub b hb) with e | hb
 ·rw[e];exact I.free
 ·obtain⟨_,o,ho,_⟩:=I.ok.funs.mem hb
  exact I.base.free b o ho (I.ok.frf b hb) fun z=>I.ok.exfs b z hb
theorem Inv.step{g':Array GenState}{t':Nat}{d':Drawn}{ch:List Addr}(I:Inv X pins σ H s)
  (hch:∀ b∈ch,(b∈X.ex∨X.s₀.heap.objs.size≤b)∧b≠X.env.locals∧(∀ x c,X.env.cells.lookup x=some c→c≠b)∧∀ p∈X.pn++pins,p.1≠b)
  (keep:∀ b o,b≠X.env.locals→b∉X.fs→b∉ch→s.heap.get? b=some o→H b=none→h'.get? b=some o)
  (slot:∀ b o,b≠X.env.locals→b∈X.fs→b∉ch→s.heap.get? b=some o→H b=none→∃ sl,h'.get? b=some { o with slots:=sl }) (free:∀ b o,b∉ch→s.heap.get? b=some o→H b=none→H' b=none)
  (there:∀ b o,b∉ch→s.heap.get? b=some o→∃ o',h'.get? b=some o')
  (tups:∀ b xs,H b=some (.tup xs)→H' b=some (.tup xs)) (frzs:∀ b o u,H b=some (.frz o u)→H' b=some (.frz o u)) (tbls:∀ b ps,H b=some (.tbl ps)→∃ more,H' b=some (.tbl (ps++more)))
  (ns:∀ m,s.heap.Ns X.env.locals m→h'.Ns X.env.locals m) (hok:HOk X.prog X.w H' h') (hg:AllBare g') :
  Inv X pins σ H' { s with heap:=h',gens:=g',drawn:=d',toks:=t' }:=by
 have neL:∀ b o,X.s₀.heap.get? b=some o→b≠X.env.locals:=fun b o e=>Jh (Ji (Z3 e) I.ok.above);have neC:∀ b o,X.s₀.heap.get? b=some o→b∉X.ex→b∉ch:=fun b o e hx hb=>by
  rcases(hch b hb).1 with z | z
  ·exact hx z
  ·exact absurd (Ji (Z3 e) z) (Nat.lt_irrefl _)
 have cellK:∀ x c,X.env.cells.lookup x=some c→∀ v,s.heap.IsCell c v→h'.IsCell c v:=fun x c e v ⟨o,ho,hd⟩=>by
  have nch:c∉ch:=fun z=>(hch c z).2.2.1 x c e rfl;by_cases hc:c∈X.fs
  ·obtain⟨sl,q⟩:=slot c o (I.cne x c e) hc nch ho (I.freeC x c e)
   exact⟨_,q,hd⟩
  ·exact⟨o,keep c o (I.cne x c e) hc nch ho (I.freeC x c e),hd⟩
 refine⟨I.ok,I.os,hg,⟨fun b o e n hb hx=>?_,fun b o e n hb hx=>?_,fun b o e n hx=>?_,fun b o e hx=>?_,fun b xs e=>tups b xs (I.base.tups b xs e),fun b o xs e=>frzs b o xs (I.base.frzs b o xs e),fun b ps e=>?_⟩,?_,fun x c e=>?_,?_,fun x c e=>?_,fun p hp=>?_,hok,I.len⟩
 ·exact keep b o (neL b o e) hb (neC b o e hx) (I.base.keep b o e n hb hx) (I.base.free b o e n hx)
 ·obtain⟨sl,e1⟩:=I.base.slot b o e n hb hx
  obtain⟨sl',e2⟩:=slot b _ (neL b o e) hb (neC b o e hx) e1 (I.base.free b o e n hx);exact⟨sl',e2⟩
 ·obtain⟨o',e1⟩:=I.base.there b o e hx
  exact free b o' (neC b o e hx) e1 (I.base.free b o e n hx)
 ·obtain⟨o',e1⟩:=I.base.there b o e hx
  exact there b o' (neC b o e hx) e1
 ·obtain⟨m1,e1⟩:=I.base.tbls b ps e
  obtain⟨m2,e2⟩:=tbls b _ e1;exact⟨m1++m2,by rw[e2,Array.append_assoc]⟩
 ·obtain⟨m,hn,hl⟩:=I.loc
  refine⟨m,ns m hn,fun i x v e1 e2 e3=>?_⟩;obtain⟨u,r,l⟩:=hl i x v e1 e2 e3;refine⟨u,r,?_⟩;rcases l with l | ⟨k,c,e,z⟩
  ·exact .inl l
  ·exact .inr ⟨k,c,e,cellK x c e _ z⟩
 ·obtain⟨v,z⟩:=I.cell x c e
  exact⟨v,cellK x c e v z⟩
 ·obtain⟨m,⟨o,_,_,ho,_⟩,_⟩:=I.loc
  exact free _ o (fun z=>(hch _ z).2.1 rfl) ho I.free
 ·obtain⟨v,o,ho,hd⟩:=I.cell x c e
  exact free c o (fun z=>(hch c z).2.2.1 x c e rfl) ho (I.freeC x c e)
 ·obtain⟨e,n,ne,nf,d⟩:=I.pin p hp
  have nch:p.1∉ch:=fun z=>(hch p.1 z).2.2.2 p hp rfl;exact⟨keep p.1 p.2 ne nf nch e n,free p.1 p.2 nch e n,ne,nf,d⟩
theorem Inv.un{t':Nat}(I:Inv X pins σ H s)(u:Un X.fs [] H H' s.heap h')(hok:HOk X.prog X.w H' h'):Inv X pins σ H' { s with heap:=h',toks:=t' }:=by
 obtain⟨m,⟨o,es,ep,ho,r⟩,_⟩:=id I.loc;obtain⟨sl,hL⟩:=u.any ho I.free (by simp);exact I.step (g':=s.gens) (d':=s.drawn) (ch:=[]) (fun _ z=>nomatch z) (fun b o _ hb _ e n=>u.keep b o e n hb (by simp)) (fun b o _ hb _ e n=>u.slot b o e n hb (by simp)) (fun b o _ e n=>u.free b o e n (by simp)) (fun b o _ e=>u.there b o e (by simp)) u.tups u.frzs u.tbls (fun m' hm=>by
  obtain⟨o',es',ep',ho',r'⟩:=hm;rw[ho] at ho';cases ho';exact⟨_,es',ep',hL,r'⟩) hok I.bare
theorem Inv.call{g':Array GenState}{t':Nat}{d':Drawn}{ch:List Addr}(I:Inv X pins σ H s)(u:Un (Rg X.stack) ch H H' s.heap h')(hok:HOk X.prog X.w H' h')(hg:AllBare g')
  (hch:∀ b∈ch,(b∈X.ex∨X.s₀.heap.objs.size≤b)∧b≠X.env.locals∧(∀ x c,X.env.cells.lookup x=some c→c≠b)∧∀ p∈X.pn++pins,p.1≠b) :
  Inv X pins σ H' { s with heap:=h',gens:=g',drawn:=d',toks:=t' }:=by
 obtain⟨m,⟨o,es,ep,ho,r⟩,_⟩:=id I.loc;obtain⟨sl,hL⟩:=u.any ho I.free fun z=>(hch _ z).2.1 rfl;exact I.step (ch:=ch) hch (fun b o hL hb hc e n=>u.keep b o e n (fun z=>(Ja.mp (I.stkSub b z)).elim hL hb) hc) (fun b o _ _ hc e n=>u.any e n hc) (fun b o hc e n=>u.free b o e n hc) (fun b o hc e=>u.there b o e hc) u.tups u.frzs u.tbls (fun m' hm=>by
  obtain⟨o',es',ep',ho',r'⟩:=hm;rw[ho] at ho';cases ho';exact⟨_,es',ep',hL,r'⟩) hok hg
theorem Inv.turned{t':Nat}{it:Addr}(I:Inv X pins σ H s)(k:∀ b o,b≠it→s.heap.get? b=some o→h'.get? b=some o)(hn:H it=none)(hL:it≠X.env.locals)
  (h1:it∈X.ex∨X.s₀.heap.objs.size≤it) (h2:∀ x c,X.env.cells.lookup x=some c→c≠it) (h3:∀ p∈X.pn++pins,p.1≠it):Inv X pins σ H { s with heap:=h',toks:=t' }:=by
 have nit:∀ b u,H b=some u→b≠it:=fun b u e z=>by rw[z,hn] at e;cases e
 refine I.step (g':=s.gens) (d':=s.drawn) (ch:=[it]) (fun b hb=>?_) (fun b o _ _ hc e _=>k b o (fun z=>hc (by simp [z])) e) (fun b o _ _ hc e _=>⟨o.slots,k b o (fun z=>hc (by simp [z])) e⟩) (fun _ _ _ _ n=>n)
  (fun b o hc e=>⟨o,k b o (fun z=>hc (by simp [z])) e⟩) (fun _ _ e=>e) (fun _ _ _ e=>e) (fun b ps e=>⟨#[],by rw[e];simp⟩) (fun m hm=>?_) (fun b u e=>?_) I.bare
 ·have e:b=it:=by simpa using hb
  subst e;exact⟨h1,hL,h2,h3⟩
 ·obtain⟨o,es,ep,ho,r⟩:=hm
  exact⟨o,es,ep,k _ o (Ne.symm hL) ho,r⟩
 ·refine(I.hok b u e).stay (fun c v hc q=>k c v ?_ q) (fun _ q=>q) fun _ _ q=>q
  rcases hc with z | z
  ·rw[z];exact nit b u e
  ·exact nit c _ z
theorem Inv.tok(I:Inv X pins σ H s)(t:Nat):Inv X pins σ H { s with toks:=t }:=I.un (h':=s.heap) (t':=t) Un.refl I.hok
theorem Inv.kept{t':Nat}(I:Inv X pins σ H s)(k:∀ b u,s.heap.get? b=some u→h'.get? b=some u):Inv X pins σ H { s with heap:=h',toks:=t' }:=I.un (Un.kept k) (I.hok.kept k)
theorem Inv.laid{a:Addr}{o:HO}{t':Nat}(I:Inv X pins σ H s)(k:∀ b u,s.heap.get? b=some u→h'.get? b=some u)(hp:s.heap.objs.size≤a)(new:ObjOk X.prog X.w (upd H a o) h' a o) :
  Inv X pins σ (upd H a o) { s with heap:=h',toks:=t' }:=I.un (Un.laid k hp (I.hok.fresh hp)) (I.hok.laid k hp new)
theorem Inv.write{x e:Addr}{o:HO}{t':Nat}(I:Inv X pins σ H s)(mu:Mut (H x))(he:e=x∨H e=some (.own x))(k:∀ b u,b≠e→s.heap.get? b=some u→h'.get? b=some u)(heo:∃ u,h'.get? e=some u)
  (new:ObjOk X.prog X.w (upd H x o) h' x o):Inv X pins σ (upd H x o) { s with heap:=h',toks:=t' }:=I.un (Un.write mu he k heo) (I.hok.write mu he k heo new)
theorem Inv.pins_of{pins':List (Addr×Obj)}(I:Inv X pins σ H s)(h:∀ p∈pins',s.heap.get? p.1=some p.2∧H p.1=none∧p.1≠X.env.locals∧p.1∉X.fs∧∀ v,p.2.data ≠ .cell v):Inv X pins' σ H s:=
 ⟨I.ok,I.os,I.bare,I.base,I.loc,I.cell,I.free,I.freeC,fun p hp=>(J1.mp hp).elim (fun z=>I.pin p (List.mem_append_left _ z)) (h p),I.hok,I.len⟩
theorem T7{N:List Str}(hN:N.Nodup){i j:Nat}{x:Str}(a:N[i]? = some x)(b:N[j]? = some x):i=j:=by
 obtain⟨h1,e1⟩:=Zu.mp a;obtain⟨h2,e2⟩:=Zu.mp b;exact(List.getElem_inj hN).mp (e1.trans e2.symm)
theorem M7{M:Model}{A:Around}{E:Value→Shared→Prop}{i:Nat}{x:Str}{v:V}{u:Value}{Q:Unit→Shared→Prop}(I:Inv X pins σ H s)(hN:X.N.Nodup)(hi:X.N[i]? = some x)(hx:Loc X.env.scope x)(r:RelV v u)
  (h:∀ s',Inv X pins (σ.set i (some v)) H s'→(∃ a,Heap.SameBut a s.heap s'.heap∧(a=X.env.locals∨X.env.cells.lookup x=some a))→Q () s') (hf:X.fn x=true∨X.env.scope.names.lookup x=some .local:=by first | exact .inl rfl | exact .inr rfl | assumption):wpAny M A (storeName X.env x u) Q E s:=by
 obtain⟨m,hn,hl⟩:=id I.loc;have hcls:(X.env.scope.kind == .class || (X.env.scope.kind == .module && X.env.locals != X.env.globals))=false:=by rw[I.ok.kind];rfl
 have hiσ:i < σ.length:=by rw[I.len];exact(Zu.mp hi).1
 have cne:=I.cne;have tracked:∀{a:Addr} {h':Heap},(∃ o,s.heap.get? a=some o∧H a=none)→Heap.SameBut a s.heap h'→HOk X.prog X.w H h':=fun {a h'} ha hs b ob e=>by
  obtain⟨_,_,hfree⟩:=ha;refine(I.hok b ob e).stay (fun c w' hc q=>(hs.2 c ?_).trans q) (fun _ q=>q) fun _ _ q=>q;rintro rfl;rcases hc with rfl | hc
  ·rw[hfree] at e;cases e
  ·rw[hfree] at hc;cases hc
 rcases hx with hk | hk
 ·refine wpAny_storeName_local hk hn (fun h' hn' hs=>?_) hcls
  obtain⟨oL,_,_,hoL,_⟩:=id hn;refine h _ ⟨I.ok,I.os,I.bare,⟨fun b o e n hb hx=>?_,fun b o e n hb hx=>?_,I.base.free,fun b o e hx=>?_,I.base.tups,I.base.frzs,I.base.tbls⟩,⟨_,hn',fun j y v' e1 e2 e3=>?_⟩,fun y c e=>?_,I.free,I.freeC,fun p hp=>?_,tracked ⟨oL,hoL,I.free⟩ hs,by simpa using I.len⟩ ⟨_,hs,.inl rfl⟩
  ·exact(hs.2 b (Jh (Ji (Z3 e) I.ok.above))).trans (I.base.keep b o e n hb hx)
  ·obtain⟨sl,e1⟩:=I.base.slot b o e n hb hx
   exact⟨sl,(hs.2 b (Jh (Ji (Z3 e) I.ok.above))).trans e1⟩
  ·obtain⟨o',e1⟩:=I.base.there b o e hx
   exact⟨o',(hs.2 b (Jh (Ji (Z3 e) I.ok.above))).trans e1⟩
  ·by_cases hj:j=i
   ·subst hj
    rw[hi] at e1;cases e1;rw[List.getElem?_set_self hiσ] at e2;cases e2;exact⟨u,r,.inl ⟨hk,by simp⟩⟩
   ·rw[List.getElem?_set_ne (Ne.symm hj)] at e2
    obtain⟨u',r',q⟩:=hl j y v' e1 e2 e3;refine⟨u',r',?_⟩;rcases q with⟨k,e⟩ | ⟨k,c,e,z⟩
    ·refine .inl ⟨k,?_⟩
     have:y≠x:=fun e=>hj (T7 hN e1 (e ▸ hi));simp [this,e]
    ·exact .inr ⟨k,c,e,z.sameBut hs (cne y c e)⟩
  ·obtain⟨w',z⟩:=I.cell y c e
   exact⟨w',z.sameBut hs (cne y c e)⟩
  ·obtain⟨e,n,ne,nf,d⟩:=I.pin p hp
   exact⟨(hs.2 p.1 ne).trans e,n,ne,nf,d⟩
 ·have hfn:X.fn x=true:=by
   rcases hf with z | z
   ·exact z
   ·rw[z] at hk;cases hk
  obtain⟨c,hc⟩:=I.ok.has x (.inl hk);obtain⟨w',z⟩:=I.cell x c hc;refine wpAny_storeName_cell I.ok.kind hk hc z (fun h' hc' hs=>?_);obtain⟨oc,hoc,hocd⟩:=id z;refine h { s with heap:=h' } ⟨I.ok,I.os,I.bare,⟨fun b o e n hb hx=>?_,fun b o e n hb hx=>?_,I.base.free,fun b o e hx=>?_,I.base.tups,I.base.frzs,I.base.tbls⟩,⟨m,hn.sameBut hs (Ne.symm (cne x c hc)),fun j y v' e1 e2 e3=>?_⟩,fun y c' e=>?_,I.free,I.freeC,fun p hp=>?_,tracked ⟨oc,hoc,I.freeC x c hc⟩ hs,by simpa using I.len⟩ ⟨c,hs,.inr hc⟩
  ·exact(hs.2 b (Jh (Ji (Z3 e) (I.ok.cab x c hfn hc)))).trans (I.base.keep b o e n hb hx)
  ·obtain⟨sl,e1⟩:=I.base.slot b o e n hb hx
   exact⟨sl,(hs.2 b (Jh (Ji (Z3 e) (I.ok.cab x c hfn hc)))).trans e1⟩
  ·obtain⟨o',e1⟩:=I.base.there b o e hx
   exact⟨o',(hs.2 b (Jh (Ji (Z3 e) (I.ok.cab x c hfn hc)))).trans e1⟩
  ·by_cases hj:j=i
   ·subst hj
    rw[hi] at e1;cases e1;rw[List.getElem?_set_self hiσ] at e2;cases e2;exact⟨u,r,.inr ⟨.inl hk,c,hc,hc'⟩⟩
   ·rw[List.getElem?_set_ne (Ne.symm hj)] at e2
    obtain⟨u',r',q⟩:=hl j y v' e1 e2 e3;refine⟨u',r',?_⟩;rcases q with q | ⟨k,c',e,z'⟩
    ·exact .inl q
    ·refine .inr ⟨k,c',e,z'.sameBut hs ?_⟩
     rintro rfl;exact hj (T7 hN e1 (I.ok.inj _ _ _ e hc ▸ hi))
  ·by_cases hcc:c'=c
   ·subst hcc;exact⟨_,hc'⟩
   ·obtain⟨w2,z2⟩:=I.cell y c' e
    exact⟨w2,z2.sameBut hs hcc⟩
  ·obtain⟨e,n,ne,nf,d⟩:=I.pin p hp
   refine⟨(hs.2 p.1 ?_).trans e,n,ne,nf,d⟩;intro q;rw[q,hoc] at e;have q':oc=p.2:=Zy e;exact d w' (by rw[← q'];exact hocd)
theorem Gw{M:Model}{A:Around}{E:Value→Shared→Prop}{i:Nat}{x:Str}{v:V}{u:Value}{Q:Unit→Shared→Prop}(I:Inv X pins σ H s)(hN:X.N.Nodup)(hi:X.N[i]? = some x)(hx:Loc X.env.scope x)(r:RelV v u)
  (h:∀ s',Inv X pins (σ.set i (some v)) H s'→Q () s') (hf:X.fn x=true∨X.env.scope.names.lookup x=some .local:=by first | exact .inl rfl | exact .inr rfl | assumption):wpAny M A (storeName X.env x u) Q E s:=
 M7 I hN hi hx r (fun s' I' _=>h s' I') hf
theorem Inv.call'{s':Shared}{ch:List Addr}(I:Inv X pins σ H s)(ho:s'.os=s.os)(u:Un (Rg X.stack) ch H H' s.heap s'.heap)(hok:HOk X.prog X.w H' s'.heap)(hg:AllBare s'.gens)
  (hch:∀ b∈ch,(b∈X.ex∨X.s₀.heap.objs.size≤b)∧b≠X.env.locals∧(∀ x c,X.env.cells.lookup x=some c→c≠b)∧∀ p∈X.pn++pins,p.1≠b):Inv X pins σ H' s':=by
 obtain⟨h',g',d',t',o'⟩:=s';have e:o'=s.os:=ho;subst e;exact I.call (g':=g') (t':=t') (d':=d') u hok hg hch
end
abbrev XK:=Value→Option Addr→Hp→Prop
abbrev St:=List (Option V)
abbrev VK:=V→Hp→Prop
abbrev TE:=St→Hp→VK→Prop
abbrev TT:=St→Hp→(Bool→Hp→Prop)→Prop
abbrev TA:=St→Hp→(List V→Hp→Prop)→Prop
structure Ends where
 nx:St→Hp→Prop
 rt:VK
 bk:St→Hp→Prop:=fun _ _=>False
 ct:St→Hp→Prop:=fun _ _=>False
abbrev TS:=Ends→St→Hp→Prop
def EP(X:Cx)(pins:List (Addr×Obj))(σ:St)(Q:VK)(u:Value)(s':Shared):Prop:=∃ v H',Inv X pins σ H' s'∧RelV v u∧Q v H'
def TP(X:Cx)(pins:List (Addr×Obj))(σ:St)(Q:Bool→Hp→Prop)(b:Bool)(s':Shared):Prop:=∃ H',Inv X pins σ H' s'∧Q b H'
def AP(X:Cx)(pins:List (Addr×Obj))(σ:St)(Q:List V→Hp→Prop)(us:List Value)(s':Shared):Prop:=∃ vs H',Inv X pins σ H' s'∧Vals vs us∧Q vs H'
def SP(X:Cx)(pins:List (Addr×Obj))(D:Ends)(f:Flow)(s':Shared):Prop:=
 match f with
 | .next=>∃ σ' H',Inv X pins σ' H' s'∧D.nx σ' H'
 | .brk=>∃ σ' H',Inv X pins σ' H' s'∧D.bk σ' H'
 | .cont=>∃ σ' H',Inv X pins σ' H' s'∧D.ct σ' H'
 | .ret u=>∃ v σ' H',Inv X pins σ' H' s'∧RelV v u∧D.rt v H'
def PE(X:Cx)(e:Expr)(t:TE):Prop:=
 ∀(pins:List (Addr×Obj)) (s:Shared) (σ:St) (H:Hp) (Q:VK),Inv X pins σ H s→t σ H Q→wpAny (model X.prog X.w) X.A (eval e X.env) (EP X pins σ Q) X.xe s
def PT(X:Cx)(e:Expr)(t:TT):Prop:=
 ∀(pins:List (Addr×Obj)) (s:Shared) (σ:St) (H:Hp) (Q:Bool→Hp→Prop),Inv X pins σ H s→t σ H Q→wpAny (model X.prog X.w) X.A (isTrue e X.env (eval e X.env)) (TP X pins σ Q) X.xe s
def PW(X:Cx)(e:Expr)(t:TT):Prop:=
 ∀(whole:Sem Value) (pins:List (Addr×Obj)) (s:Shared) (σ:St) (H:Hp) (Q:Bool→Hp→Prop),Inv X pins σ H s→t σ H Q→wpAny (model X.prog X.w) X.A (isTrue e X.env whole) (TP X pins σ Q) X.xe s
theorem PW.pt{X:Cx}{e:Expr}{t:TT}(h:PW X e t):PT X e t:=h _
def PA(X:Cx)(es:List Expr)(t:TA):Prop:=
 ∀(pos:Pos) (pins:List (Addr×Obj)) (s:Shared) (σ:St) (H:Hp) (Q:List V→Hp→Prop),Inv X pins σ H s→t σ H Q→wpAny (model X.prog X.w) X.A (spliced (backTo pos (starEach es X.env))) (AP X pins σ Q) X.xe s
def PS(X:Cx)(st:Stmt)(t:TS):Prop:=
 ∀(pins:List (Addr×Obj)) (s:Shared) (σ:St) (H:Hp) (D:Ends),Inv X pins σ H s→t D σ H→wpAny (model X.prog X.w) X.A (exec st X.env) (SP X pins D) X.xe s
def PSs(X:Cx)(st:List Stmt)(t:TS):Prop:=
 ∀(pins:List (Addr×Obj)) (s:Shared) (σ:St) (H:Hp) (D:Ends),Inv X pins σ H s→t D σ H→wpAny (model X.prog X.w) X.A (execs st X.env) (SP X pins D) X.xe s
theorem Ub{α:Type}{t:Sem α}{Q Q':α→Shared→Prop}{M:Model}{A:Around}{E:Value→Shared→Prop}{s:Shared}(h:wpAny M A t Q E s)(hQ:∀ a s,Q a s→Q' a s):wpAny M A t Q' E s:=wpAny_mono h hQ fun _ _ x=>x
section
variable{X:Cx}
def Zqg(i:Nat):TE:=fun σ H Q=>∃ v,σ[i]? = some (some v)∧Q v H
def tC(v:V):TE:=fun _ H Q=>Q v H
theorem Zor{i:Nat}{x:Str}{pos:Pos}(hN:X.N[i]? = some x)(hv:Vis X.env.scope x)(hd:(x == ("__debug__":Str))=false:=by decide)(hcd:(x == ("__classdict__":Str))=false:=by decide):PE X (.Name x pos) (Zqg i):=by
 intro pins s σ H Q I h;obtain⟨v,e,h⟩:=h;obtain⟨m,hn,hl⟩:=I.loc;obtain⟨u,r,l⟩:=hl i x v hN e hv;have fin:EP X pins σ Q u s:=⟨v,H,I,r,h⟩;rcases l with⟨hk,hm⟩ | ⟨hk,c,hc,hcell⟩
 ·exact wpAny_Name (wpAny_loadName_local I.ok.kind hk hn hm fin) hd
 ·rcases hk with hk | hk
  ·exact wpAny_Name (wpAny_loadName_cell I.ok.kind hk hc hcell fin) hd
  ·exact wpAny_Name (wpAny_loadName_free I.ok.kind hk hc hcell fin hcd) hd
theorem Zo{i j pos}:PE X (.Constant (.int i) j pos) (tC (.int i)):=fun _ _ _ H _ I h=>wpAny_Constant_int ⟨.int i,H,I.tok _,⟨_,rfl⟩,h⟩
theorem Ue{b j pos}:PE X (.Constant (.bool b) j pos) (tC (.bl b)):=fun _ _ _ H _ I h=>Constant_bool ⟨.bl b,H,I,rfl,h⟩
theorem Qe{j pos}:PE X (.Constant .none j pos) (tC .non):=fun _ _ _ H _ I h=>Constant_none ⟨.non,H,I,rfl,h⟩
theorem Ud{x j pos}:PE X (.Constant (.str x) j pos) (tC (.str x)):=fun _ _ _ H _ I h=>Calls.Constant_str ⟨.str x,H,I.tok _,⟨_,rfl⟩,h⟩
def Gl(X:Cx)(x:Str):Prop:=X.env.kindOf x=some .globalImplicit
theorem Eg{E:Value→Shared→Prop}{pins:List (Addr×Obj)}{s:Shared}{σ:St}{H:Hp}{x:Str}{u:Value}{pos:Pos}{Q:Value→Shared→Prop}(I:Inv X pins σ H s)(hg:Gl X x)(hm:X.mg x=some u)(h:Q u s)
  (hd:(x == ("__debug__":Str))=false:=by decide):wpAny (model X.prog X.w) X.A (eval (.Name x pos) X.env) Q E s:=
 Calls.Name_function_global I.ok.kind hg (Calls.loadGlobal_global (by rw[I.ok.glob];exact I.mod.glob.keeps I.bk) hm h) hd
theorem Md{E:Value→Shared→Prop}{pins:List (Addr×Obj)}{s:Shared}{σ:St}{H:Hp}{x:Str}{u:Value}{pos:Pos}{Q:Value→Shared→Prop}(I:Inv X pins σ H s)(hg:Gl X x)(hm:X.mg x=none)(hv:bootBuiltins x=some u)(h:Q u s)
  (hn:x≠"__name__":=by decide) (hd:(x == ("__debug__":Str))=false:=by decide):wpAny (model X.prog X.w) X.A (eval (.Name x pos) X.env) Q E s:=by
 obtain⟨mb,h1,h2⟩:=I.mod.blt;exact Calls.Name_function_global I.ok.kind hg (Calls.loadGlobal_builtin (by rw[I.ok.glob];exact I.mod.glob.keeps I.bk) hm (by rw[I.ok.blt];exact h1.keeps I.bk) ((h2 x hn).trans hv) h) hd
theorem Yy{x:Str}{v:V}{u:Value}{pos:Pos}(hg:Gl X x)(hm:X.mg x=some u)(r:RelV v u)(hd:(x == ("__debug__":Str))=false:=by decide):PE X (.Name x pos) (tC v):=
 fun _ _ _ H _ I h=>Eg I hg hm ⟨v,H,I,r,h⟩ hd
theorem Xa{x:Str}{v:V}{u:Value}{pos:Pos}(hg:Gl X x)(hm:X.mg x=none)(hv:bootBuiltins x=some u)(r:RelV v u)(hn:x≠"__name__":=by decide)(hd:(x == ("__debug__":Str))=false:=by decide):PE X (.Name x pos) (tC v):=
 fun _ _ _ H _ I h=>Md I hg hm hv ⟨v,H,I,r,h⟩ hn hd
variable{a b:Expr}{ta tb:TE}{pos:Pos}
def PC(X:Cx)(op:CmpOp)(a b:Expr)(t:TE):Prop:=
 ∀(pins:List (Addr×Obj)) (s:Shared) (σ:St) (H:Hp) (Q:VK),Inv X pins σ H s→t σ H Q →
  wpAny (model X.prog X.w) X.A (eval a X.env) (fun v s₁=>wpAny (model X.prog X.w) X.A (eval b X.env) (fun u s₂=>wpAny (model X.prog X.w) X.A (compareOp op v u) (EP X pins σ Q) X.xe s₂) X.xe s₁) X.xe s
def tB(t:TE):TT:=fun σ H Q=>t σ H fun x H1=>∃ c,x = .bl c∧Q c H1
theorem Zbm{op:CmpOp}{t:TE}(h:PC X op a b t)(h1:behindInMarks op b=false:=by first | exact nobehind _ (by decide) (by decide) | rfl):PT X (.Compare a [op] [b] pos) (tB t):=by
 intro pins s σ H Q I hw;refine wpAny_isTrue_Compare1 (Ub (h pins s σ H _ I hw) fun v s1 h1=>Ub h1 fun u s2 h2=>Ub h2 fun c s3 ⟨x,H1,I1,r1,q1⟩=>?_) h1;obtain⟨d,rfl,q⟩:=q1;cases r1;exact wpAny_truthy_bool ⟨H1,I1,q⟩
variable{tA tB':TT}{rest:List Expr}
def Zsi(t u:TT):TT:=fun σ H Q=>t σ H fun c H1=>if c=true then u σ H1 Q else Q false H1
def tOr(t u:TT):TT:=fun σ H Q=>t σ H fun c H1=>if c=true then Q true H1 else u σ H1 Q
def Zsd(t:TT):TT:=fun σ H Q=>t σ H fun c H1=>Q (!c) H1
theorem N9(ha:PT X a tA):PW X (.BoolOp .And [a] pos) tA:=by
 intro wh pins s σ H Q I h;refine isTrue_and (Ub (ha pins s σ H Q I h) fun c s1 e=>?_);cases c with
 | true=>exact isTrue_and_nil e
 | false=>exact e
theorem U7(ha:PT X a tA):PW X (.BoolOp .Or [a] pos) tA:=by
 intro wh pins s σ H Q I h;refine isTrue_or (Ub (ha pins s σ H Q I h) fun c s1 e=>?_);cases c with
 | false=>exact isTrue_or_nil e
 | true=>exact e
theorem Br(ha:PT X a tA)(hb:PW X (.BoolOp .And (b :: rest) pos) tB'):PW X (.BoolOp .And (a :: b :: rest) pos) (Zsi tA tB'):=by
 intro wh pins s σ H Q I h;refine isTrue_and (Ub (ha pins s σ H _ I h) fun c s1 ⟨H1,I1,q1⟩=>?_);cases c with
 | true=>exact hb wh pins s1 σ H1 Q I1 q1
 | false=>exact⟨H1,I1,q1⟩
theorem U2(ha:PT X a tA)(hb:PW X (.BoolOp .Or (b :: rest) pos) tB'):PW X (.BoolOp .Or (a :: b :: rest) pos) (tOr tA tB'):=by
 intro wh pins s σ H Q I h;refine isTrue_or (Ub (ha pins s σ H _ I h) fun c s1 ⟨H1,I1,q1⟩=>?_);cases c with
 | true=>exact⟨H1,I1,q1⟩
 | false=>exact hb wh pins s1 σ H1 Q I1 q1
theorem Uc(ha:PT X a tA):PT X (.UnaryOp .Not a pos) (Zsd tA):=by
 intro pins s σ H Q I h;exact isTrue_not (ha pins s σ H (fun c H1=>Q (!c) H1) I h)
def Zqq(ta tb:TE):TE:=fun σ H Q=>ta σ H fun x H1=>∃ c,x = .bl c∧if c=true then tb σ H1 Q else Q (.bl false) H1
def Zsc(ta tb:TE):TE:=fun σ H Q=>ta σ H fun x H1=>∃ c,x = .bl c∧if c=true then Q (.bl true) H1 else tb σ H1 Q
def Zql(ta:TE):TE:=fun σ H Q=>ta σ H fun x H1=>∃ c,x = .bl c∧Q (.bl (!c)) H1
theorem U8{op}{t:TE}(h:PE X a t):PE X (.BoolOp op [a] pos) t:=fun pins s σ H Q I hw=>BoolOp_one (h pins s σ H Q I hw)
theorem Xd(ha:PE X a ta)(hb:PE X (.BoolOp .And (b :: rest) pos) tb):PE X (.BoolOp .And (a :: b :: rest) pos) (Zqq ta tb):=by
 intro pins s σ H Q I h;refine BoolOp_and (Ub (ha pins s σ H _ I h) fun v s1 ⟨x,H1,I1,r1,q1⟩=>?_);obtain⟨c,rfl,q1⟩:=q1;cases r1;refine wpAny_truthy_bool ?_;cases c with
 | true=>exact hb pins s1 σ H1 Q I1 q1
 | false=>exact⟨.bl false,H1,I1,rfl,q1⟩
theorem Zdi(ha:PE X a ta)(hb:PE X (.BoolOp .Or (b :: rest) pos) tb):PE X (.BoolOp .Or (a :: b :: rest) pos) (Zsc ta tb):=by
 intro pins s σ H Q I h;refine BoolOp_or (Ub (ha pins s σ H _ I h) fun v s1 ⟨x,H1,I1,r1,q1⟩=>?_);obtain⟨c,rfl,q1⟩:=q1;cases r1;refine wpAny_truthy_bool ?_;cases c with
 | false=>exact hb pins s1 σ H1 Q I1 q1
 | true=>exact⟨.bl true,H1,I1,rfl,q1⟩
theorem Zbp(ha:PE X a ta):PE X (.UnaryOp .Not a pos) (Zql ta):=by
 intro pins s σ H Q I h;refine UnaryOp_ (Ub (ha pins s σ H _ I h) fun v s1 ⟨x,H1,I1,r1,q1⟩=>?_);obtain⟨c,rfl,q1⟩:=q1;cases r1;exact not_of (wpAny_truthy_bool ⟨.bl (!c),H1,I1,rfl,q1⟩)
def tIf(t:TT)(ta tb:TE):TE:=fun σ H Q=>t σ H fun c H1=>if c=true then ta σ H1 Q else tb σ H1 Q
theorem Em{c:Expr}(hc:PT X c tA)(ha:PE X a ta)(hb:PE X b tb):PE X (.IfExp c a b pos) (tIf tA ta tb):=by
 intro pins s σ H Q I h;refine wpAny_IfExp (Ub (hc pins s σ H _ I h) fun d s1 ⟨H1,I1,q1⟩=>?_);cases d with
 | true=>exact ha pins s1 σ H1 Q I1 q1
 | false=>exact hb pins s1 σ H1 Q I1 q1
end
def SqL(K:W.Frag)(H:Hp)(a:Addr)(xs:List V):Prop:=
 Rd H a (.lst xs) ∨
  ∃(o:Obj) (its:Array Value) (n:Nat),K.lookup a=some o∧o.cls = .type "list"∧o.dict=none∧o.data = .seq its n∧its.size≤sizeLine∧Vals xs its.toList
def SqT(K:W.Frag)(H:Hp)(a:Addr)(xs:List V):Prop:=
 Rd H a (.tup xs) ∨
  ∃(o:Obj) (its:Array Value) (n:Nat),K.lookup a=some o∧o.cls = .type "tuple"∧o.data = .seq its n∧its.size≤sizeLine∧Vals xs its.toList
def Zs8:Value→Option V
 | .none=>some .non
 | .bool b=>some (.bl b)
 | .int i _=>some (.int i)
 | .str x _=>some (.str x)
 | .bytes b _=>some (.byt b)
 | .float b _=>some (.flt b)
 | .ref a=>some (.ref a)
 | .type n=>some (.ty n)
 | _=>none
theorem RelV.abs{x:V}{u:Value}(r:RelV x u):Zs8 u=some x:=by
 cases x with
 | non=>cases r;rfl
 | bl _=>cases r;rfl
 | int _=>obtain⟨t,rfl⟩:=r;rfl
 | str _=>obtain⟨t,rfl⟩:=r;rfl
 | byt _=>obtain⟨t,rfl⟩:=r;rfl
 | flt _=>obtain⟨t,rfl⟩:=r;rfl
 | ref _=>cases r;rfl
 | ty _=>cases r;rfl
theorem RelV.inj{x y:V}{u:Value}(r:RelV x u)(q:RelV y u):x=y:=Zy (r.abs.symm.trans q.abs)
theorem Vals.inj:∀{xs ys:List V} {us:List Value},Vals xs us→Vals ys us→xs=ys
 | _,_,_,.nil,.nil=>rfl
 | _,_,_,.cons r t,.cons r' t'=>by rw[r.inj r',Vals.inj t t']
section
variable{X:Cx}{pins:List (Addr×Obj)}{σ:St}{H:Hp}{s:Shared}{a:Addr}{xs ys:List V}
theorem SqL.of{K:W.Frag}(h:H a=some (.lst xs)):SqL K H a xs:=.inl (.inl h)
theorem SqT.of{K:W.Frag}(h:H a=some (.tup xs)):SqT K H a xs:=.inl (.inl h)
theorem Inv.list(I:Inv X pins σ H s)(h:SqL X.K H a xs):∃ its:List Value,Vals xs its∧PlainL s.heap a its.toArray∧xs.length≤sizeLine:=by
 rcases h with h | ⟨o,its,n,hk,hc,hd,hs,hz,r⟩
 ·obtain⟨z,its,n,r,e⟩:=h.ok I.hok
  exact⟨its,r,⟨_,n,e,rfl,rfl,rfl⟩,z⟩
 ·refine⟨its.toList,r,⟨o,n,I.kIn a o hk,hc,hd,by simpa using hs⟩,?_⟩
  have e:=r.length;simp only[Array.length_toList] at e;omega
theorem Inv.tuple(I:Inv X pins σ H s)(h:SqT X.K H a xs):∃ its:List Value,Vals xs its∧IsTup s.heap a its.toArray∧xs.length≤sizeLine:=by
 rcases h with h | ⟨o,its,n,hk,hc,hs,hz,r⟩
 ·obtain⟨z,its,r,p⟩:=h.ok I.hok
  exact⟨its,r,p,z⟩
 ·refine⟨its.toList,r,⟨o,I.kIn a o hk,hc,n,by simpa using hs⟩,?_⟩
  have e:=r.length;simp only[Array.length_toList] at e;omega
theorem Inv.list_inj(I:Inv X pins σ H s)(h:SqL X.K H a xs)(h':SqL X.K H a ys):xs=ys:=by
 obtain⟨its,r,⟨o,n,e,_,_,d⟩,_⟩:=I.list h;obtain⟨its',r',⟨o',n',e',_,_,d'⟩,_⟩:=I.list h';rw[e] at e';cases e';rw[d] at d';injection d' with d1 _
 have:its=its':=by simpa using congrArg Array.toList d1
 subst this;exact r.inj r'
theorem Inv.tuple_inj(I:Inv X pins σ H s)(h:SqT X.K H a xs)(h':SqT X.K H a ys):xs=ys:=by
 obtain⟨its,r,⟨o,e,_,n,d⟩,_⟩:=I.tuple h;obtain⟨its',r',⟨o',e',_,n',d'⟩,_⟩:=I.tuple h';rw[e] at e';cases e';rw[d] at d';injection d' with d1 _
 have:its=its':=by simpa using congrArg Array.toList d1
 subst this;exact r.inj r'
end
abbrev Cx.wish(X:Cx)(E:Value→Shared→Prop):Cx:={ X with xe:=E }
abbrev Cx.nox(X:Cx):Cx:=X.wish fun _ _=>False
theorem Cx.Ok.wish{X:Cx}(ok:X.Ok)(E:Value→Shared→Prop):(X.wish E).Ok:=
 ⟨ok.mod,ok.kind,ok.glob,ok.blt,ok.above,ok.inj,ok.has,ok.cab,ok.hd,ok.frames,ok.stk,ok.exf,ok.bs,ok.bsz,ok.noex,ok.exfs,ok.funs,ok.frf⟩
theorem Cx.Ok.unwish{X:Cx}{E:Value→Shared→Prop}(ok:(X.wish E).Ok):X.Ok:=
 ⟨ok.mod,ok.kind,ok.glob,ok.blt,ok.above,ok.inj,ok.has,ok.cab,ok.hd,ok.frames,ok.stk,ok.exf,ok.bs,ok.bsz,ok.noex,ok.exfs,ok.funs,ok.frf⟩
section
variable{X:Cx}{pins:List (Addr×Obj)}{σ:St}{H:Hp}{s:Shared}{E:Value→Shared→Prop}
theorem Inv.wish(I:Inv X pins σ H s)(E:Value→Shared→Prop):Inv (X.wish E) pins σ H s:=⟨I.ok.wish E,I.os,I.bare,I.base,I.loc,I.cell,I.free,I.freeC,I.pin,I.hok,I.len⟩
theorem Inv.unwish(I:Inv (X.wish E) pins σ H s):Inv X pins σ H s:=⟨I.ok.unwish,I.os,I.bare,I.base,I.loc,I.cell,I.free,I.freeC,I.pin,I.hok,I.len⟩
theorem SP.unwish{D:Ends}{f:Flow}{s':Shared}(h:SP (X.wish E) pins D f s'):SP X pins D f s':=by
 cases f with
 | next=>obtain⟨σ',H',I,q⟩:=h;exact⟨σ',H',I.unwish,q⟩
 | brk=>obtain⟨σ',H',I,q⟩:=h;exact⟨σ',H',I.unwish,q⟩
 | cont=>obtain⟨σ',H',I,q⟩:=h;exact⟨σ',H',I.unwish,q⟩
 | ret u=>obtain⟨v,σ',H',I,r,q⟩:=h;exact⟨v,σ',H',I.unwish,r,q⟩
theorem PSs.nox{st:List Stmt}{t:TS}(h:PSs X.nox st t):PSs X st t:=fun pins s σ H D I hw=>
 wpAny_mono (h pins s σ H D (I.wish _) hw) (fun _ _ q=>q.unwish) fun _ _ z=>False.elim z
end
section
variable{X:Cx}{st:Stmt}{rest:List Stmt}{t u:TS}{e:Expr}{te:TE}{pos:Pos}
def Zm9:TS:=fun D σ H=>D.nx σ H
def Zg1(t u:TS):TS:=fun D σ H=>t { D with nx:=u D } σ H
theorem Jn:PSs X [] Zm9:=fun _ _ σ H _ I h=>wpAny_execs_nil ⟨σ,H,I,h⟩
theorem Zi(h1:PS X st t)(h2:PSs X rest u):PSs X (st :: rest) (Zg1 t u):=by
 intro pins s σ H D I h;refine wpAny_execs_cons (Ub (h1 pins s σ H { D with nx:=u D } I h) fun f s1 q=>?_);cases f with
 | next=>
  obtain⟨σ',H',I',q⟩:=q;exact h2 pins s1 σ' H' D I' q
 | ret v=>exact q
 | brk=>exact q
 | cont=>exact q
theorem Zn(h1:PS X st t):PSs X [st] t:=by
 intro pins s σ H D I h;refine wpAny_execs_cons (Ub (h1 pins s σ H D I h) fun f s1 q=>?_);cases f with
 | next=>exact wpAny_execs_nil q
 | ret v=>exact q
 | brk=>exact q
 | cont=>exact q
theorem Inv.quiet{pins:List (Addr×Obj)}{σ:St}{H:Hp}{s:Shared}(I:Inv X pins σ H s):interactive X.env=false:=by simp [interactive,I.ok.kind]
def Znb(te:TE):TS:=fun D σ H=>te σ H fun _ H1=>D.nx σ H1
theorem Xx(he:PE X e te)(hs:swapsWith e none pos.line X.env=pure false:=by rfl):PS X (.Expr e pos) (Znb te):=by
 intro pins s σ H D I h;exact wpAny_Expr_any (Ub (he pins s σ H _ I h) fun v s1 ⟨x,H1,I1,r1,q1⟩=>⟨σ,H1,I1,q1⟩) I.quiet hs
def Zsb(te:TE):TS:=fun D σ H=>te σ H D.rt
theorem Z9(he:PE X e te):PS X (.Return (some e) pos) (Zsb te):=by
 intro pins s σ H D I h;exact wpAny_Return_some (Ub (he pins s σ H _ I h) fun v s1 ⟨x,H1,I1,r1,q1⟩=>⟨x,σ,H1,I1,r1,q1⟩)
def Zqj:TS:=fun D _ H=>D.rt .non H
theorem Zda:PS X (.Return none pos) Zqj:=fun _ _ σ H _ I h=>wpAny_Return_none ⟨.non,σ,H,I,rfl,h⟩
def Zqn(c:TT)(t u:TS):TS:=fun D σ H=>c σ H fun b H1=>if b=true then t D σ H1 else u D σ H1
theorem Yd{c:Expr}{a b:List Stmt}{tc:TT}(hc:PT X c tc)(ha:PSs X a t)(hb:PSs X b u):PS X (.If c a b pos) (Zqn tc t u):=by
 intro pins s σ H D I h;refine wpAny_If (Ub (hc pins s σ H _ I h) fun d s1 ⟨H1,I1,q1⟩=>?_);cases d with
 | true=>exact ha pins s1 σ H1 D I1 q1
 | false=>exact hb pins s1 σ H1 D I1 q1
def Zg2:TS:=fun _ _ _=>False
theorem Tp:PS X st Zg2:=fun _ _ _ _ _ _ h=>h.elim
theorem Ze2{sts:List Stmt}:PSs X sts Zg2:=fun _ _ _ _ _ _ h=>h.elim
end
abbrev TG:=V→St→Hp→(St→Hp→Prop)→Prop
abbrev TGs:=List V→St→Hp→(St→Hp→Prop)→Prop
def PG(X:Cx)(target:Expr)(t:TG):Prop:=
 ∀(pins:List (Addr×Obj)) (s:Shared) (σ:St) (H:Hp) (v:V) (u:Value) (Q:St→Hp→Prop),Inv X pins σ H s→RelV v u→t v σ H Q →
  wpAny (model X.prog X.w) X.A (assign target X.env u) (fun _ s'=>∃ σ' H',Inv X pins σ' H' s'∧Q σ' H') X.xe s
def PGs(X:Cx)(ts:List Expr)(t:TGs):Prop:=
 ∀(pins:List (Addr×Obj)) (s:Shared) (σ:St) (H:Hp) (vs:List V) (us:List Value) (Q:St→Hp→Prop),Inv X pins σ H s→Vals vs us→t vs σ H Q →
  wpAny (model X.prog X.w) X.A (assignInOrder ((assignEach ts X.env).map (·.2)) us) (fun _ s'=>∃ σ' H',Inv X pins σ' H' s'∧Q σ' H') X.xe s
abbrev Zp4:=V→V→V→Hp→(Hp→Prop)→Prop
def Zrt(X:Cx)(t:Zp4):Prop:=
 ∀(pins:List (Addr×Obj)) (s:Shared) (σ:St) (H:Hp) (o i v:V) (ov iv u:Value) (Q:Hp→Prop),Inv X pins σ H s→RelV o ov→RelV i iv→RelV v u→t o i v H Q →
  wpAny (model X.prog X.w) X.A (setItem ov iv u) (fun _ s'=>∃ H',Inv X pins σ H' s'∧Q H') X.xe s
section
variable{X:Cx}{pos:Pos}
def Qw(i:Nat):TG:=fun v σ H Q=>Q (σ.set i (some v)) H
theorem Jp{i:Nat}{x:Str}(hN:X.N.Nodup)(hi:X.N[i]? = some x)(hx:Loc X.env.scope x)(hf:X.fn x=true∨X.env.scope.names.lookup x=some .local:=by first | exact .inl rfl | exact .inr rfl | assumption):PG X (.Name x pos) (Qw i):=by
 intro pins s σ H v u Q I r h;exact wpAny_assign_Name (Gw I hN hi hx r (fun s' I'=>⟨_,H,I',h⟩) hf)
def Zpv:TGs:=fun vs σ H Q=>vs=[]∧Q σ H
def S3(t:TG)(u:TGs):TGs:=fun vs σ H Q=>∃ v r,vs=v :: r∧t v σ H fun σ' H'=>u r σ' H' Q
theorem Ql:PGs X [] Zpv:=by
 intro pins s σ H vs us Q I r h;obtain⟨e,h⟩:=h;subst e;cases r;exact assignInOrder_nil ⟨σ,H,I,h⟩
theorem Yj{e:Expr}{es:List Expr}{t:TG}{u:TGs}(h1:PG X e t)(h2:PGs X es u)
  (hs:(assignEach (e :: es) X.env).map (·.2)=assign e X.env :: (assignEach es X.env).map (·.2):=by rfl):PGs X (e :: es) (S3 t u):=by
 intro pins s σ H vs us Q I r h;obtain⟨v,vr,e1,h⟩:=h;subst e1;cases r with
 | cons r rr=>
  rw[hs];refine assignInOrder_cons (Ub (h1 pins s σ H _ _ _ I r h) fun _ s1 ⟨σ1,H1,I1,q1⟩=>?_);exact h2 pins s1 σ1 H1 _ _ Q I1 rr q1
def Zmv(K:W.Frag)(n:Nat)(t:TGs):TG:=fun v σ H Q=>∃ a xs,v = .ref a∧SqT K H a xs∧xs.length=n∧t xs σ H Q
theorem Ra{es:List Expr}{k:Nat}{t:TGs}{n:Nat}(hc:X.calm=true)(h:PGs X es t)
  (hn:(assignEach es X.env).length=n:=by rfl) (hst:(assignEach es X.env).findIdx? (·.1)=none:=by rfl):PG X (.Tuple es k pos) (Zmv X.K n t):=by
 intro pins s σ H v u Q I r hw;obtain⟨a,xs,e1,hq,hl,hw⟩:=hw;subst e1;cases r;obtain⟨its,rv,ht,hz⟩:=I.tuple hq;refine assign_Tuple_tuple (I.ok.hd hc) ht (by simp [hn,← hl,rv.length]) hst fun h' hx=>?_;have I1:Inv X pins σ H { s with heap:=h' }:=I.kept (t':=s.toks) fun b o e=>hx b o (Jh (Z3 e)) e;exact h pins _ σ H xs _ Q I1 (by simpa using rv) hw
def Zs3(to ti:TE)(t:Zp4):TG:=fun v σ H Q=>to σ H fun o H1=>ti σ H1 fun i H2=>t o i v H2 fun H3=>Q σ H3
theorem Zid{o i:Expr}{to ti:TE}{t:Zp4}(ho:PE X o to)(hi:PE X i ti)(hs:Zrt X t)
  (ha:∀ v,assign (.Subscript o i pos) X.env v=(do
   let ov ← holding [v] (eval o X.env)
   let iv ← holding [v,ov] (eval i X.env)
   standAt pos
   holding [v,ov,iv] (setItem ov iv v)
   release [v,ov,iv] []):=by intro _;rfl):PG X (.Subscript o i pos) (Zs3 to ti t):=by
 intro pins s σ H v u Q I r h;rw[ha];refine Zb (wpAny_holding (Ub (ho pins s σ H _ I h) fun ov s1 ⟨x,H1,I1,r1,q1⟩=>?_));refine Zb (wpAny_holding (Ub (hi pins s1 σ H1 _ I1 q1) fun iv s2 ⟨y,H2,I2,r2,q2⟩=>?_));refine Zb (wpAny_standAt (Zb (wpAny_holding (Ub (hs pins s2 σ H2 x y v ov iv u _ I2 r1 r2 r q2) fun _ s3 ⟨H3,I3,q3⟩=>?_))));exact wpAny_release ⟨σ,H3,I3,q3⟩
def Zk1(te:TE)(g:TG):TS:=fun D σ H=>te σ H fun x H1=>g x σ H1 D.nx
theorem Tq{tg e:Expr}{te:TE}{g:TG}(he:PE X e te)(hg:PG X tg g)(hs:swapsWithSole [tg] e pos.line X.env=pure false:=by rfl)(hw:swappedStores [tg] e X.env=pure none:=by rfl)
  (h1:(assignEach [tg] X.env).map (·.2)=[assign tg X.env]:=by rfl):PS X (.Assign [tg] e pos) (Zk1 te g):=by
 intro pins s σ H D I h;refine wpAny_Assign_stores (Ub (he pins s σ H _ I h) fun v s1 ⟨x,H1,I1,r1,q1⟩=>?_) hs hw;rw[h1];exact Ub (hg pins s1 σ H1 x v _ I1 r1 q1) fun _ s2 q=>q
theorem Jf{i:Nat}{x:Str}{e:Expr}{te:TE}{pos':Pos}(hN:X.N.Nodup)(hi:X.N[i]? = some x)(hx:Loc X.env.scope x)(he:PE X e te)(hs:swapsWith e (some (.Name x pos')) pos.line X.env=pure false:=by rfl)(hf:X.fn x=true∨X.env.scope.names.lookup x=some .local:=by first | exact .inl rfl | exact .inr rfl | assumption) :
  PS X (.Assign [.Name x pos'] e pos) (Zk1 te (Qw i)):=by
 intro pins s σ H D I h;refine wpAny_Assign_Name (Ub (he pins s σ H _ I h) fun v s1 ⟨y,H1,I1,r1,q1⟩=>?_) hs;exact Gw I1 hN hi hx r1 (fun s2 I2=>⟨_,H1,I2,q1⟩) hf
def Zg0(c:TT)(tb:TS):TS:=fun D σ H=>∃ W:Nat→St→Hp→Prop,(∃ m,W m σ H)∧∀ m σ H,W m σ H →
 c σ H fun b H1=>if b=true then ∃ N:St→Hp→Prop,(∀ σ' H',N σ' H'→∃ m',m' < m∧W m' σ' H')∧tb { D with nx:=N,ct:=N,bk:=D.nx } σ H1 else D.nx σ H1
theorem Kw{c:Expr}{body:List Stmt}{tc:TT}{tb:TS}(hp:PassesOwn (model X.prog X.w) X.A X.env X.xe)(hc:PT X c tc)(hb:PSs X body tb):PS X (.While c body [] pos) (Zg0 tc tb):=by
 intro pins s σ H D I h;obtain⟨W,⟨m0,w0⟩,turn⟩:=h;refine wpAny_While (codeAny_whileLoop (fun n s'=>∃ σ' H',Inv X pins σ' H' s'∧W n σ' H') ?_ m0 ⟨σ,H,I,w0⟩);rintro n s1 ⟨σ1,H1,I1,w1⟩;refine wpAny_passesOwn hp (Ub (hc pins s1 σ1 H1 _ I1 (turn n σ1 H1 w1)) fun b s2 ⟨H2,I2,q2⟩=>?_);cases b with
 | true=>
  obtain⟨N,hN,q2⟩:=q2;rw[Zv rfl];refine wpAny_passesOwn hp (Ub (hb pins s2 σ1 H2 _ I2 q2) fun f s3 q3=>?_);cases f with
  | next=>
   obtain⟨σ3,H3,I3,n3⟩:=q3;obtain⟨m',hm,w3⟩:=hN σ3 H3 n3;exact⟨m',hm,σ3,H3,I3,w3⟩
  | cont=>
   obtain⟨σ3,H3,I3,n3⟩:=q3;obtain⟨m',hm,w3⟩:=hN σ3 H3 n3;exact⟨m',hm,σ3,H3,I3,w3⟩
  | brk=>exact q3
  | ret v=>exact q3
 | false=>
  rw[Zj Zp];exact wpAny_execs_nil ⟨σ1,H2,I2,q2⟩
end
structure It where
 go:Nat→Hp→Prop
 yld:Nat→Hp→V→Hp→Prop
 stop:Nat→Hp→Prop
def R9(X:Cx)(pins:List (Addr×Obj))(H:Hp)(b:Addr):Prop:=
 H b=none∧b≠X.env.locals∧b∉X.fs∧(b∈X.ex∨X.s₀.heap.objs.size≤b)∧(∀ x c,X.env.cells.lookup x=some c→c≠b)∧∀ p∈X.pn++pins,p.1≠b
theorem Inv.fpOk{X:Cx}{pins:List (Addr×Obj)}{σ:St}{H H':Hp}{s:Shared}{b:Addr}(I:Inv X pins σ H s)(hb:s.heap.objs.size≤b)(hn:H' b=none):R9 X pins H' b:=by
 refine⟨hn,Nat.ne_of_gt (Ji I.lt hb),I.nofs hb,.inr (Jd I.sz hb),fun x c e z=>?_,fun p hp z=>?_⟩
 ·obtain⟨v,q⟩:=I.cell x c e
  exact absurd (Ji q.lt (by rw[z];exact hb)) (Nat.lt_irrefl _)
 ·exact absurd (Ji (Z3 (I.pin p hp).1) (by rw[z];exact hb)) (Nat.lt_irrefl _)
structure Turn(P:Program)(w:World)(K:W.Frag)(tg:Expr)(J:It)(fp:List Addr)(it:Addr)(tn:Nat→Heap→Prop):Prop where
 mem:it∈fp
 obj:∀ i h,tn i h→∀ b∈fp,∃ o,h.get? b=some o∧∀ v,o.data ≠ .cell v
 keep:∀ i h h',tn i h→(∀ b∈fp,∀ o,h.get? b=some o→h'.get? b=some o)→tn i h'
 item:∀(X:Cx),X.prog=P→X.w=w→X.K=K→X.calm=true→∀(i:Nat) (pins:List (Addr×Obj)) (s:Shared) (σ:St) (H:Hp) (E:Value→Shared→Prop),Inv X pins σ H s→(∀ b∈fp,R9 X pins H b)→tn i s.heap→J.go i H →
  wpAny (model P w) X.A (pyNext (.ref it)) (fun r s1=>∃ u,r=some u ∧
   wpAny (model P w) X.A (letOwnedTupleGo tg (.ref it) u) (fun _ s2=>∃ x H',Inv X pins σ H' s2∧RelV x u∧J.yld i H x H'∧tn (i+1) s2.heap∧∀ b∈fp,H' b=none) E s1) E s
 done:∀(X:Cx),X.prog=P→X.w=w→X.K=K→X.calm=true→∀(i:Nat) (pins:List (Addr×Obj)) (s:Shared) (σ:St) (H:Hp) (E:Value→Shared→Prop),Inv X pins σ H s→(∀ b∈fp,R9 X pins H b)→tn i s.heap→J.stop i H →
  wpAny (model P w) X.A (pyNext (.ref it)) (fun r s1=>r=none∧Inv X pins σ H s1) E s
 self:∀(A:Around) (i:Nat) (s:Shared) (Q:Value→Shared→Prop) (E:Value→Shared→Prop),tn i s.heap→Q (.ref it) s→wpAny (model P w) A (pyIter (.ref it)) Q E s
abbrev TI:=St→Hp→(It→Hp→Prop)→Prop
def PIE(X:Cx)(pins:List (Addr×Obj))(σ:St)(tg:Expr)(R:It→Hp→Prop)(itv:Value)(s2:Shared):Prop:=
 ∃(it:Addr) (fp:List Addr) (tn:Nat→Heap→Prop) (J:It) (H':Hp),itv = .ref it∧Inv X pins σ H' s2∧Turn X.prog X.w X.K tg J fp it tn∧tn 0 s2.heap∧(∀ b∈fp,R9 X pins H' b)∧R J H'
def PI(X:Cx)(tg iter:Expr)(wi:TI):Prop:=
 ∀(pins:List (Addr×Obj)) (s:Shared) (σ:St) (H:Hp) (R:It→Hp→Prop),Inv X pins σ H s→wi σ H R →
  wpAny (model X.prog X.w) X.A (eval iter X.env) (fun v s1=>wpAny (model X.prog X.w) X.A (pyIter v) (PIE X pins σ tg R) X.xe s1) X.xe s
theorem Sy{M:Model}{A:Around}{E:Value→Shared→Prop}{s:Shared}{tg:Expr}{it:Addr}{u:Value}{o:Obj}{n:String}{vs:Array Value}{Q:Unit→Shared→Prop}(ho:s.heap.get? it=some o)(hc:o.cls = .type n)(hd:o.data = .fields vs)
    (hn:["enumerate","zip","dict_itemiterator","dict_reverseitemiterator","odict_iterator","itertools.zip_longest","itertools.pairwise"].contains n=false) (hQ:Q () s):wpAny M A (letOwnedTupleGo tg (.ref it) u) Q E s:=by
  unfold letOwnedTupleGo;cases tg<;>first
    | exact Ze hQ
    | (cases u<;>first
        | exact Ze hQ
        | (refine Zb (wpAny_load ho ?_)
           rw[hc,hd];show wpAny M A (if(["enumerate","zip","dict_itemiterator","dict_reverseitemiterator","odict_iterator","itertools.zip_longest","itertools.pairwise"].contains n && vs[0]? == some (rawInt _))=true then _ else _) Q E s;rw[Zj (by intro h;rw[hn,Bool.false_and] at h;cases h)];exact Ze hQ))
def Itl(K:W.Frag)(a:Addr):It:=
 ⟨fun i H=>∃ xs x,SqL K H a xs∧xs[i]? = some x,fun i H x H'=>H'=H∧∀ xs,SqL K H a xs→xs[i]? = some x,fun i H=>∃ xs,SqL K H a xs∧xs.length≤i⟩
def Itt(K:W.Frag)(a:Addr):It:=
 ⟨fun i H=>∃ xs x,SqT K H a xs∧xs[i]? = some x,fun i H x H'=>H'=H∧∀ xs,SqT K H a xs→xs[i]? = some x,fun i H=>∃ xs,SqT K H a xs∧xs.length≤i⟩
def Itr(lo:Int)(n:Nat):It:=⟨fun i _=>i < n,fun i H x H'=>H'=H∧x = .int (lo+i),fun i _=>n≤i⟩
theorem Zel{P:Program}{w:World}{K:W.Frag}{tg:Expr}(a it:Addr):Turn P w K tg (Itl K a) [it] it (fun i h=>h.IsListIter it a i) where
 mem:=by simp
 obj:=fun i h st b hb=>by
  have e:b=it:=by simpa using hb
  subst e;obtain⟨o,e,c,d⟩:=st;exact⟨o,e,fun v z=>by rw[d] at z;cases z⟩
 keep:=fun i h h' st k=>st.at fun o e=>k it (by simp) o e
 item:=by
  intro X hP hw hK hc i pins s σ H E I hf st hg;subst hP hw hK;obtain⟨xs,x,hq,hx⟩:=hg;obtain⟨its,rv,p,hz⟩:=I.list hq;obtain⟨u,hu,ru⟩:=rv.get hx;obtain⟨f0,f1,f2,f3,f4,f5⟩:=hf it (by simp);refine wpAny_pyNext_list_item st p.isList (x:=u) (by simpa using hu) fun h' st' sb=>?_;have I1:Inv X pins σ H { s with heap:=h' }:=I.turned (t':=s.toks) (fun b o hb e=>(sb.2 b hb).trans e) f0 f1 f3 f4 f5;obtain⟨o,e,c,d⟩:=id st';exact⟨u,rfl,Sy (s:={ s with heap:=h' }) e c d (by decide) ⟨x,H,I1,ru,⟨rfl,fun ys hy=>by rw[I.list_inj hy hq];exact hx⟩,st',fun b hb=>(hf b hb).1⟩⟩
 done:=by
  intro X hP hw hK hc i pins s σ H E I hf st hg;subst hP hw hK;obtain⟨xs,hq,hx⟩:=hg;obtain⟨its,rv,p,hz⟩:=I.list hq;obtain⟨f0,f1,f2,f3,f4,f5⟩:=hf it (by simp);have hl:=rv.length;exact wpAny_pyNext_list_end (I.ok.hd hc) st p.isList (by simp;omega) fun h' eb=>⟨rfl,I.turned (t':=s.toks) (fun b o hb e=>eb b o hb e) f0 f1 f3 f4 f5⟩
 self:=fun _ _ _ _ _ st h=>wpAny_pyIter_listiter st h
theorem Zam{P:Program}{w:World}{K:W.Frag}{tg:Expr}(a it:Addr):Turn P w K tg (Itt K a) [it] it (fun i h=>h.IsTupleIter it a i) where
 mem:=by simp
 obj:=fun i h st b hb=>by
  have e:b=it:=by simpa using hb
  subst e;obtain⟨o,e,c,d⟩:=st;exact⟨o,e,fun v z=>by rw[d] at z;cases z⟩
 keep:=fun i h h' st k=>st.at fun o e=>k it (by simp) o e
 item:=by
  intro X hP hw hK hc i pins s σ H E I hf st hg;subst hP hw hK;obtain⟨xs,x,hq,hx⟩:=hg;obtain⟨its,rv,p,hz⟩:=I.tuple hq;obtain⟨u,hu,ru⟩:=rv.get hx;obtain⟨f0,f1,f2,f3,f4,f5⟩:=hf it (by simp);refine wpAny_pyNext_tuple_item st (show s.heap.IsTuple a its.toArray from p) (x:=u) (by simpa using hu) fun h' st' sb=>?_;have I1:Inv X pins σ H { s with heap:=h' }:=I.turned (t':=s.toks) (fun b o hb e=>(sb.2 b hb).trans e) f0 f1 f3 f4 f5;obtain⟨o,e,c,d⟩:=id st';exact⟨u,rfl,Sy (s:={ s with heap:=h' }) e c d (by decide) ⟨x,H,I1,ru,⟨rfl,fun ys hy=>by rw[I.tuple_inj hy hq];exact hx⟩,st',fun b hb=>(hf b hb).1⟩⟩
 done:=by
  intro X hP hw hK hc i pins s σ H E I hf st hg;subst hP hw hK;obtain⟨xs,hq,hx⟩:=hg;obtain⟨its,rv,p,hz⟩:=I.tuple hq;obtain⟨f0,f1,f2,f3,f4,f5⟩:=hf it (by simp);have hl:=rv.length;exact wpAny_pyNext_tuple_end (I.ok.hd hc) st (show s.heap.IsTuple a its.toArray from p) (by simp;omega) fun h' eb=>⟨rfl,I.turned (t':=s.toks) (fun b o hb e=>eb b o hb e) f0 f1 f3 f4 f5⟩
 self:=fun _ _ _ _ _ st h=>wpAny_pyIter_tupleiter st h
theorem Zan{P:Program}{w:World}{K:PySem.W.Frag}{tg:Expr}(it:Addr)(lo:Int)(n:Nat):Turn P w K tg (Itr lo n) [it] it (fun i h=>IsRangeIter h it (lo+(i:Nat) * 1) ((n:Int) - (i:Nat)) 1) where
 mem:=by simp
 obj:=fun i h st b hb=>by
  have e:b=it:=by simpa using hb
  subst e;exact⟨_,st,fun v z=>by
   have z':Data.fields _=Data.cell v:=z;cases z'⟩
 keep:=fun i h h' st k=>k it (by simp) _ st
 item:=by
  intro X hP hw hK hc i pins s σ H E I hf st hg;subst hP hw hK;obtain⟨f0,f1,f2,f3,f4,f5⟩:=hf it (by simp);have W:=Walks.range (prog:=X.prog) (w:=X.w) (I.ok.hd hc) it lo 1 n;refine W.item i s _ _ hg st fun v h' tk hv st' kk=>?_;obtain⟨t,rfl⟩:=hv;have I1:Inv X pins σ H { s with heap:=h',toks:=tk }:=I.turned (fun b o hb e=>kk b o (by simpa using hb) e) f0 f1 f3 f4 f5;refine⟨_,rfl,Sy (s:={ s with heap:=h',toks:=tk }) (n:="range_iterator") st' rfl rfl (by decide) ⟨.int (lo+i),H,I1,⟨t,?_⟩,⟨rfl,rfl⟩,st',fun b hb=>(hf b hb).1⟩⟩;rw[Int.mul_one]
 done:=by
  intro X hP hw hK hc i pins s σ H E I hf st hg;subst hP hw hK;obtain⟨f0,f1,f2,f3,f4,f5⟩:=hf it (by simp);exact wpAny_pyNext_range_end (I.ok.hd hc) st (by have:n≤i:=hg;omega) fun h' eb=>⟨rfl,I.turned (t':=s.toks) (fun b o hb e=>eb b o hb e) f0 f1 f3 f4 f5⟩
 self:=fun _ _ _ _ _ st h=>wpAny_pyIter_rangeiter st h
section
variable{X:Cx}{tg:Expr}
def Znp(K:W.Frag)(tl:TE):TI:=fun σ H R=>tl σ H fun x H1=>∃ a,x = .ref a∧(∃ xs,SqL K H1 a xs)∧R (Itl K a) H1
def Zs1(K:W.Frag)(tl:TE):TI:=fun σ H R=>tl σ H fun x H1=>∃ a,x = .ref a∧(∃ xs,SqT K H1 a xs)∧R (Itt K a) H1
theorem Y4{l:Expr}{tl:TE}(hl:PE X l tl):PI X tg l (Znp X.K tl):=by
 intro pins s σ H R I h;refine Ub (hl pins s σ H _ I h) fun v s1 ⟨x,H1,I1,r1,q1⟩=>?_;obtain⟨a,e,⟨xs,hq⟩,q⟩:=q1;subst e;cases r1;obtain⟨its,rv,p,hz⟩:=I1.list hq;refine wpAny_pyIter_list p.isList ?_;refine⟨s1.heap.objs.size,[s1.heap.objs.size],_,_,H1,rfl,I1.kept (t':=s1.toks) fun b o e=>Zh _ e,Zel a _,⟨_,Z6 _ rfl,rfl,rfl⟩,fun b hb=>?_,q⟩;have e:b=s1.heap.objs.size:=by simpa using hb
 subst e;exact I1.fpOk (Zs _) (I1.hok.fresh (Zs _))
theorem V9{l:Expr}{tl:TE}(hl:PE X l tl):PI X tg l (Zs1 X.K tl):=by
 intro pins s σ H R I h;refine Ub (hl pins s σ H _ I h) fun v s1 ⟨x,H1,I1,r1,q1⟩=>?_;obtain⟨a,e,⟨xs,hq⟩,q⟩:=q1;subst e;cases r1;obtain⟨its,rv,p,hz⟩:=I1.tuple hq;refine wpAny_pyIter_tuple (show s1.heap.IsTuple a its.toArray from p) ?_;refine⟨s1.heap.objs.size,[s1.heap.objs.size],_,_,H1,rfl,I1.kept (t':=s1.toks) fun b o e=>Zh _ e,Zam a _,⟨_,Z6 _ rfl,rfl,rfl⟩,fun b hb=>?_,q⟩;have e:b=s1.heap.objs.size:=by simpa using hb
 subst e;exact I1.fpOk (Zs _) (I1.hok.fresh (Zs _))
theorem Zh2{pins:List (Addr×Obj)}{σ:St}{H:Hp}{s:Shared}{R:It→Hp→Prop}{E:Value→Shared→Prop}{lo hi:Int}{t u v:Tok}{tk:Nat}(I:Inv X pins σ H s)(h1:-(2 ^ 62)≤lo)(h2:lo < 2 ^ 62)(h3:-(2 ^ 62)≤hi)(h4:hi < 2 ^ 62)
  (q:R (Itr lo (hi - lo).toNat) H):wpAny (model X.prog X.w) X.A (pyIter (.ref s.heap.objs.size)) (PIE X pins σ tg R) E { s with heap:=s.heap.push { cls:=.type "range",data:=.fields #[.int lo t,.int hi u,.int 1 v] },toks:=tk }:=by
 refine wpAny_pyIter_range (IsRange.new ..) (small_one h1 h2 h3 h4) ?_;have I1:Inv X pins σ H { s with heap:=s.heap.push { cls:=.type "range",data:=.fields #[.int lo t,.int hi u,.int 1 v] },toks:=tk }:=I.kept fun b o e=>Zh _ e;refine⟨(s.heap.push { cls:=.type "range",data:=.fields #[.int lo t,.int hi u,.int 1 v] }).objs.size,[(s.heap.push { cls:=.type "range",data:=.fields #[.int lo t,.int hi u,.int 1 v] }).objs.size],_,_,H,rfl,
  I1.kept (t':=tk) fun b o e=>Zh _ e,Zan _ lo (hi - lo).toNat,?_,fun b hb=>?_,q⟩
 ·have e1:lo+((0:Nat):Int) * 1=lo:=by simp
  have e2:(((hi - lo).toNat:Nat):Int) - ((0:Nat):Int)=Builtin.Range.rangeSize lo hi 1:=by rw[rangeSize_one];split<;>omega
  show IsRangeIter _ _ (lo+((0:Nat):Int) * 1) ((((hi - lo).toNat:Nat):Int) - ((0:Nat):Int)) 1;rw[e1,e2];exact Z6 _ rfl
 ·have e:b=(s.heap.push { cls:=.type "range",data:=.fields #[.int lo t,.int hi u,.int 1 v] }).objs.size:=by simpa using hb
  subst e;exact I1.fpOk (Zs _) (I1.hok.fresh (Zs _))
def Zrq(ta:TA):TI:=fun σ H R=>ta σ H fun vs H1=>∃ j:Int,vs=[.int j]∧-(2 ^ 62)≤j∧j < 2 ^ 62∧R (Itr 0 j.toNat) H1
theorem Xj{a:Expr}{ta:TA}{p pos:Pos}(hg:Gl X "range")(hm:X.mg "range" = none)(ha:PA X [a] ta)(hs:starEach [a] X.env=[(false,eval a X.env)]:=by rfl):PI X tg (.Call (.Name "range" p) [a] [] pos) (Zrq ta):=by
 intro pins s σ H R I h;refine Call_ (Md I hg hm boot_range (PyProof.Rows.callWith_type1 (Ub (ha pos pins s σ H _ I h) fun us s1 ⟨vs,H1,I1,r1,q1⟩=>?_) hs rfl));obtain⟨j,e,q1,q2,q⟩:=q1;subst e;cases r1 with
 | cons r rr=>
  cases rr;obtain⟨t,rfl⟩:=r;exact call_range_1 (Zh2 I1 (by omega) (by omega) q1 q2 (by simpa using q))
def Zsf(wi:TI)(g:TG)(tb:TS):TS:=fun D σ H=>wi σ H fun J H1=>∃ W:Nat→Nat→St→Hp→Prop,(∃ m,W 0 m σ H1)∧∀ i m σ H,W i m σ H →
 (J.stop i H∧D.nx σ H)∨(J.go i H∧∃ N:St→Hp→Prop,(∀ σ' H',N σ' H'→∃ m',m' < m∧W (i+1) m' σ' H')∧∀ x H',J.yld i H x H'→g x σ H' fun σ2 H2=>tb { D with nx:=N,ct:=N,bk:=D.nx } σ2 H2)
def Tt(fp:List Addr)(h:Heap):List (Addr×Obj):=fp.filterMap fun b=>(h.get? b).map fun o=>(b,o)
theorem E9{fp:List Addr}{h:Heap}{b:Addr}{o:Obj}(hb:b∈fp)(e:h.get? b=some o):(b,o)∈Tt fp h:=List.mem_filterMap.mpr ⟨b,hb,by rw[e];rfl⟩
theorem Zfp{fp:List Addr}{h:Heap}{p:Addr×Obj}(hp:p∈Tt fp h):p.1∈fp∧h.get? p.1=some p.2:=by
 obtain⟨b,hb,e⟩:=List.mem_filterMap.mp hp;cases q:h.get? b with
 | none=>rw[q] at e;cases e
 | some o=>
  rw[q] at e;have e':(b,o)=p:=Zy e;subst e';exact⟨hb,q⟩
theorem Inv.pinned{pins:List (Addr×Obj)}{σ:St}{H:Hp}{s:Shared}{fp:List Addr}(I:Inv X pins σ H s)(hf:∀ b∈fp,R9 X pins H b)(ho:∀ b∈fp,∃ o,s.heap.get? b=some o∧∀ v,o.data ≠ .cell v):Inv X (pins++Tt fp s.heap) σ H s:=
 I.pins_of fun p hp=>(J1.mp hp).elim (fun z=>I.pin p (List.mem_append_right _ z)) fun z=>by
  obtain⟨hb,e⟩:=Zfp z;obtain⟨f0,f1,f2,_⟩:=hf p.1 hb;obtain⟨o,e',d⟩:=ho p.1 hb;rw[e] at e';cases e';exact⟨e,f0,f1,f2,d⟩
theorem Inv.unpinned{pins pl:List (Addr×Obj)}{σ:St}{H:Hp}{s:Shared}(I:Inv X (pins++pl) σ H s):Inv X pins σ H s:=I.pins_of fun p hp=>I.pin p (List.mem_append_right _ (List.mem_append_left _ hp))
theorem Ux{iter:Expr}{body:List Stmt}{wi:TI}{g:TG}{tb:TS}{pos:Pos}(hp:PassesOwn (model X.prog X.w) X.A X.env X.xe)(hc:X.calm=true)(hi:PI X tg iter wi)(hg:PG X tg g)(hb:PSs X body tb)
  (hs:∀ x,foldedSetIterable iter X.env x=pure x:=by intro _;rfl):PS X (.For tg iter body [] pos) (Zsf wi g tb):=by
 intro pins s σ H D I h;refine wpAny_For (Ub (hi pins s σ H _ I h) fun v s1 h1=>Ub h1 fun itv s2 h2=>?_) hs;obtain⟨it,fp,tn,J,H2,e,I2,T,st2,f2,W,⟨m0,w0⟩,turn⟩:=h2;subst e;have stat:∀{H':Hp},(∀ b∈fp,H' b=none)→∀ b∈fp,R9 X pins H' b:=fun hn b hb=>⟨hn b hb,(f2 b hb).2⟩;refine codeAny_forLoop_any (fun n s'=>∃ i σ' H',Inv X pins σ' H' s'∧tn i s'.heap∧(∀ b∈fp,H' b=none)∧W i n σ' H') ?_ m0 ⟨0,σ,H2,I2,st2,fun b hb=>(f2 b hb).1,w0⟩;rintro n s3 ⟨i,σ3,H3,I3,st3,fr3,w3⟩;rcases turn i n σ3 H3 w3 with⟨stop,qn⟩ | ⟨go,N,hN,step⟩
 ·refine wpAny_passesOwn hp (Ub (T.done X rfl rfl rfl hc i pins s3 σ3 H3 X.xe I3 (stat fr3) st3 stop) fun r s4 ⟨hr,I4⟩=>?_)
  subst hr;exact wpAny_execs_nil ⟨σ3,H3,I4,qn⟩
 ·refine wpAny_passesOwn hp (Ub (T.item X rfl rfl rfl hc i pins s3 σ3 H3 X.xe I3 (stat fr3) st3 go) fun r s4 ⟨u,hr,h4⟩=>?_)
  subst hr;refine wpAny_passesOwn hp (Ub h4 fun _ s5 ⟨x,H5,I5,r5,y5,st5,fr5⟩=>?_);have I5':=I5.pinned (stat fr5) (T.obj _ _ st5);refine wpAny_passesOwn hp (Ub (hg _ s5 σ3 H5 x u _ I5' r5 (step x H5 y5)) fun _ s6 ⟨σ6,H6,I6,q6⟩=>?_);refine wpAny_passesOwn hp (Ub (hb _ s6 σ6 H6 _ I6 q6) fun f s7 q7=>?_);have again:∀{σ7:St} {H7:Hp},Inv X (pins++Tt fp s5.heap) σ7 H7 s7→N σ7 H7→∃ m,m < n∧∃ i σ' H',Inv X pins σ' H' s7∧tn i s7.heap∧(∀ b∈fp,H' b=none)∧W i m σ' H':=fun {σ7 H7} I7 n7=>by
   obtain⟨m',hm,w7⟩:=hN σ7 H7 n7;refine⟨m',hm,i+1,σ7,H7,I7.unpinned,T.keep _ _ _ st5 fun b hb o e=>(I7.pin (b,o) (List.mem_append_right _ (List.mem_append_right _ (E9 hb e)))).1,fun b hb=>?_,w7⟩;obtain⟨o,e,d⟩:=T.obj _ _ st5 b hb;exact(I7.pin (b,o) (List.mem_append_right _ (List.mem_append_right _ (E9 hb e)))).2.1
  cases f with
  | next=>obtain⟨σ7,H7,I7,n7⟩:=q7;exact again I7 n7
  | cont=>obtain⟨σ7,H7,I7,n7⟩:=q7;exact again I7 n7
  | brk=>obtain⟨σ7,H7,I7,q7⟩:=q7;exact⟨σ7,H7,I7.unpinned,q7⟩
  | ret v=>obtain⟨x7,σ7,H7,I7,r7,q7⟩:=q7;exact⟨x7,σ7,H7,I7.unpinned,r7,q7⟩
end
theorem Xg{K:PySem.W.Frag}{a:Addr}{xs:List V}{g:TG}{tb:TS}{D:Ends}{σ:St}{H:Hp}(Pv:Nat→St→Hp→Prop)(h0:Pv 0 σ H)(hl:∀ i σ H,i≤xs.length→Pv i σ H→SqL K H a xs)
  (hs:∀ i x σ H,xs[i]? = some x→Pv i σ H→g x σ H fun σ2 H2=>tb { D with nx:=Pv (i+1),ct:=Pv (i+1),bk:=D.nx } σ2 H2) (hd:∀ σ H,Pv xs.length σ H→D.nx σ H) :
  ∃ W:Nat→Nat→St→Hp→Prop,(∃ m,W 0 m σ H)∧∀ i m σ H,W i m σ H →
   ((Itl K a).stop i H∧D.nx σ H)∨((Itl K a).go i H∧∃ N:St→Hp→Prop,(∀ σ' H',N σ' H'→∃ m',m' < m∧W (i+1) m' σ' H')∧∀ x H',(Itl K a).yld i H x H'→g x σ H' fun σ2 H2=>tb { D with nx:=N,ct:=N,bk:=D.nx } σ2 H2):=by
 refine⟨fun i m σ H=>m=xs.length - i∧i≤xs.length∧Pv i σ H,⟨xs.length,by simp,Nat.zero_le _,h0⟩,?_⟩;rintro i m σ H ⟨rfl,hi,p⟩;have q:=hl i σ H hi p;by_cases hlt:i < xs.length
 ·refine .inr ⟨⟨xs,xs[i],q,by simp [hlt]⟩,Pv (i+1),fun σ' H' p'=>⟨xs.length - (i+1),by omega,rfl,hlt,p'⟩,fun x H' y=>?_⟩
  obtain⟨e,y⟩:=y;subst e;exact hs i x σ _ (y xs q) p
 ·have e:i=xs.length:=by omega
  subst e;exact .inl ⟨⟨xs,q,Zs _⟩,hd σ H p⟩
theorem Zmx{K:PySem.W.Frag}{a:Addr}{xs:List V}{g:TG}{tb:TS}{D:Ends}{σ:St}{H:Hp}(Pv:Nat→St→Hp→Prop)(h0:Pv 0 σ H)(hl:∀ i σ H,i≤xs.length→Pv i σ H→SqT K H a xs)
  (hs:∀ i x σ H,xs[i]? = some x→Pv i σ H→g x σ H fun σ2 H2=>tb { D with nx:=Pv (i+1),ct:=Pv (i+1),bk:=D.nx } σ2 H2) (hd:∀ σ H,Pv xs.length σ H→D.nx σ H) :
  ∃ W:Nat→Nat→St→Hp→Prop,(∃ m,W 0 m σ H)∧∀ i m σ H,W i m σ H →
   ((Itt K a).stop i H∧D.nx σ H)∨((Itt K a).go i H∧∃ N:St→Hp→Prop,(∀ σ' H',N σ' H'→∃ m',m' < m∧W (i+1) m' σ' H')∧∀ x H',(Itt K a).yld i H x H'→g x σ H' fun σ2 H2=>tb { D with nx:=N,ct:=N,bk:=D.nx } σ2 H2):=by
 refine⟨fun i m σ H=>m=xs.length - i∧i≤xs.length∧Pv i σ H,⟨xs.length,by simp,Nat.zero_le _,h0⟩,?_⟩;rintro i m σ H ⟨rfl,hi,p⟩;have q:=hl i σ H hi p;by_cases hlt:i < xs.length
 ·refine .inr ⟨⟨xs,xs[i],q,by simp [hlt]⟩,Pv (i+1),fun σ' H' p'=>⟨xs.length - (i+1),by omega,rfl,hlt,p'⟩,fun x H' y=>?_⟩
  obtain⟨e,y⟩:=y;subst e;exact hs i x σ _ (y xs q) p
 ·have e:i=xs.length:=by omega
  subst e;exact .inl ⟨⟨xs,q,Zs _⟩,hd σ H p⟩
theorem Q2{lo:Int}{n:Nat}{g:TG}{tb:TS}{D:Ends}{σ:St}{H:Hp}(Pv:Nat→St→Hp→Prop)(h0:Pv 0 σ H)
  (hs:∀ i σ H,i < n→Pv i σ H→g (.int (lo+i)) σ H fun σ2 H2=>tb { D with nx:=Pv (i+1),ct:=Pv (i+1),bk:=D.nx } σ2 H2) (hd:∀ σ H,Pv n σ H→D.nx σ H) :
  ∃ W:Nat→Nat→St→Hp→Prop,(∃ m,W 0 m σ H)∧∀ i m σ H,W i m σ H →
   ((Itr lo n).stop i H∧D.nx σ H)∨((Itr lo n).go i H∧∃ N:St→Hp→Prop,(∀ σ' H',N σ' H'→∃ m',m' < m∧W (i+1) m' σ' H')∧∀ x H',(Itr lo n).yld i H x H'→g x σ H' fun σ2 H2=>tb { D with nx:=N,ct:=N,bk:=D.nx } σ2 H2):=by
 refine⟨fun i m σ H=>m=n - i∧i≤n∧Pv i σ H,⟨n,by simp,Nat.zero_le _,h0⟩,?_⟩;rintro i m σ H ⟨rfl,hi,p⟩;by_cases hlt:i < n
 ·refine .inr ⟨hlt,Pv (i+1),fun σ' H' p'=>⟨n - (i+1),by omega,rfl,hlt,p'⟩,fun x H' y=>?_⟩
  obtain⟨e,y⟩:=y;subst e y;exact hs i σ _ hlt p
 ·have e:i=n:=by omega
  subst e;exact .inl ⟨Zs _,hd σ H p⟩
theorem Kg{c:TT}{tb:TS}{D:Ends}{σ:St}{H:Hp}(Pv:St→Hp→Prop)(μ:St→Hp→Nat)(h0:Pv σ H)
  (hs:∀ σ H,Pv σ H→c σ H fun b H1=>if b=true then tb { D with nx:=fun σ' H'=>Pv σ' H'∧μ σ' H' < μ σ H,ct:=fun σ' H'=>Pv σ' H'∧μ σ' H' < μ σ H,bk:=D.nx } σ H1 else D.nx σ H1)
  (mono:∀ σ H Q Q',(∀ b H1,Q b H1→Q' b H1)→c σ H Q→c σ H Q'):Zg0 c tb D σ H:=by
 refine⟨fun m σ H=>m=μ σ H∧Pv σ H,⟨_,rfl,h0⟩,?_⟩;rintro m σ H ⟨rfl,p⟩;refine mono σ H _ _ (fun b H1 q=>?_) (hs σ H p);cases b with
 | true=>exact⟨_,fun σ' H' ⟨p',l⟩=>⟨_,l,rfl,p'⟩,q⟩
 | false=>exact q
abbrev R2:=V→V→Hp→VK→Prop
def Nf(X:Cx)(f:Value→Value→Sem Value)(r:R2):Prop:=
 ∀(pins:List (Addr×Obj)) (s:Shared) (σ:St) (H:Hp) (x y:V) (v u:Value) (Q:VK),Inv X pins σ H s→RelV x v→RelV y u→r x y H Q →
  wpAny (model X.prog X.w) X.A (f v u) (EP X pins σ Q) X.xe s
def UnR(X:Cx)(f:Value→Sem Value)(r:V→Hp→VK→Prop):Prop:=
 ∀(pins:List (Addr×Obj)) (s:Shared) (σ:St) (H:Hp) (x:V) (v:Value) (Q:VK),Inv X pins σ H s→RelV x v→r x H Q →
  wpAny (model X.prog X.w) X.A (f v) (EP X pins σ Q) X.xe s
def Xw(X:Cx)(f:Value)(r:List V→Hp→VK→Prop):Prop:=
 ∀(pins:List (Addr×Obj)) (s:Shared) (σ:St) (H:Hp) (xs:List V) (us:List Value) (Q:VK),Inv X pins σ H s→Vals xs us→r xs H Q →
  wpAny (model X.prog X.w) X.A (call f us) (EP X pins σ Q) X.xe s
def Zta(X:Cx)(r:V→Hp→(Bool→Hp→Prop)→Prop):Prop:=
 ∀(pins:List (Addr×Obj)) (s:Shared) (σ:St) (H:Hp) (x:V) (v:Value) (Q:Bool→Hp→Prop),Inv X pins σ H s→RelV x v→r x H Q →
  wpAny (model X.prog X.w) X.A (truthy v) (TP X pins σ Q) X.xe s
def tOp(r:R2)(ta tb:TE):TE:=fun σ H Q=>ta σ H fun x H1=>tb σ H1 fun y H2=>r x y H2 Q
def tUn(r:V→Hp→VK→Prop)(ta:TE):TE:=fun σ H Q=>ta σ H fun x H1=>r x H1 Q
def rI(C:Int→Int→Prop)(g:Int→Int→V):R2:=fun x y H Q=>∃ i j,x = .int i∧y = .int j∧C i j∧Q (g i j) H
def rI0(g:Int→Int→V):R2:=fun x y H Q=>∃ i j,x = .int i∧y = .int j∧Q (g i j) H
def rU(g:Int→V):V→Hp→VK→Prop:=fun x H Q=>∃ i,x = .int i∧Q (g i) H
section
variable{X:Cx}{a b c:Expr}{ta tb tc:TE}{pos:Pos}
theorem Zp0(ha:PE X a ta)(hb:PE X b tb){pins:List (Addr×Obj)}{s:Shared}{σ:St}{H:Hp}{R:V→V→Hp→Prop}(I:Inv X pins σ H s)
  (h:ta σ H fun x H1=>tb σ H1 fun y H2=>R x y H2) {Q:Value→Shared→Prop} {f:Value→Value→Sem Value}
  (hf:∀ v u s2 x y H2,Inv X pins σ H2 s2→RelV x v→RelV y u→R x y H2→wpAny (model X.prog X.w) X.A (f v u) Q X.xe s2) :
  wpAny (model X.prog X.w) X.A (eval a X.env) (fun v s₁=>wpAny (model X.prog X.w) X.A (eval b X.env) (fun u s₂=>wpAny (model X.prog X.w) X.A (f v u) Q X.xe s₂) X.xe s₁) X.xe s:=by
 refine Ub (ha pins s σ H _ I h) fun v s1 ⟨x,H1,I1,r1,q1⟩=>?_;refine Ub (hb pins s1 σ H1 _ I1 q1) fun u s2 ⟨y,H2,I2,r2,q2⟩=>?_;exact hf v u s2 x y H2 I2 r1 r2 q2
theorem Jj{op:Operator}{r:R2}(ho:Nf X (binaryOp op) r)(ha:PE X a ta)(hb:PE X b tb):PE X (.BinOp a op b pos) (tOp r ta tb):=by
 intro pins s σ H Q I h;exact wpAny_BinOp (Zp0 ha hb I h fun v u s2 x y H2 I2 rx ry q=>ho pins s2 σ H2 x y v u Q I2 rx ry q)
theorem Zra{op:UnaryOp}{r:V→Hp→VK→Prop}(ho:UnR X (unaryOp op) r)(ha:PE X a ta):PE X (.UnaryOp op a pos) (tUn r ta):=by
 intro pins s σ H Q I h;exact UnaryOp_ (Ub (ha pins s σ H _ I h) fun v s1 ⟨x,H1,I1,r1,q1⟩=>ho pins s1 σ H1 x v Q I1 r1 q1)
theorem opI{f:Value→Value→Sem Value}{C:Int→Int→Prop}{g:Int→Int→Int}
  (rule:∀(i j:Int) (t u:Tok) (s:Shared) (Q:Value→Shared→Prop) (E:Value→Shared→Prop),C i j→Q (.int (g i j) s.toks) { s with toks:=s.toks+1 }→wpAny (model X.prog X.w) X.A (f (.int i t) (.int j u)) Q E s) :
  Nf X f (rI C fun i j=>.int (g i j)):=by
 intro pins s σ H x y v u Q I rx ry h;obtain⟨i,j,rfl,rfl,hc,q⟩:=h;obtain⟨t,rfl⟩:=rx;obtain⟨t',rfl⟩:=ry;exact rule i j t t' s _ _ hc ⟨.int (g i j),H,I.tok _,⟨_,rfl⟩,q⟩
theorem Ziw{f:Value→Value→Sem Value}{g:Int→Int→Int}
  (rule:∀(i j:Int) (t u:Tok) (s:Shared) (Q:Value→Shared→Prop) (E:Value→Shared→Prop),Q (.int (g i j) s.toks) { s with toks:=s.toks+1 }→wpAny (model X.prog X.w) X.A (f (.int i t) (.int j u)) Q E s) :
  Nf X f (rI0 fun i j=>.int (g i j)):=by
 intro pins s σ H x y v u Q I rx ry h;obtain⟨i,j,rfl,rfl,q⟩:=h;obtain⟨t,rfl⟩:=rx;obtain⟨t',rfl⟩:=ry;exact rule i j t t' s _ _ ⟨.int (g i j),H,I.tok _,⟨_,rfl⟩,q⟩
theorem Zlv{f:Value→Value→Sem Value}{g:Int→Int→Bool}
  (rule:∀(i j:Int) (t u:Tok) (s:Shared) (Q:Value→Shared→Prop) (E:Value→Shared→Prop),Q (.bool (g i j)) s→wpAny (model X.prog X.w) X.A (f (.int i t) (.int j u)) Q E s) :
  Nf X f (rI0 fun i j=>.bl (g i j)):=by
 intro pins s σ H x y v u Q I rx ry h;obtain⟨i,j,rfl,rfl,q⟩:=h;obtain⟨t,rfl⟩:=rx;obtain⟨t',rfl⟩:=ry;exact rule i j t t' s _ _ ⟨.bl (g i j),H,I,rfl,q⟩
def Ztf(i j:Int):Prop:=0 < j∧j < 1073741824
def Zte(i j:Int):Prop:=0≤j∧j≤1000000∧i.natAbs < 2 ^ 64
def CMul(i j:Int):Prop:=(-(2 ^ 64) < i∧i < 2 ^ 64)∨(-(2 ^ 64) < j∧j < 2 ^ 64)
theorem CMul.ok{i j:Int}(h:CMul i j):IntMulOk i j:=by
 rcases h with⟨h1,h2⟩ | ⟨h1,h2⟩
 ·exact .of_left (intBits_le_64 h1 h2)
 ·exact .of_right (intBits_le_64 h1 h2)
theorem Zal(k:Nat):(0:Int)≤2 ^ k:=by
 rw[two_pow_cast];exact Int.natCast_nonneg _
theorem Y8:Nf X (binaryOp .Add) (rI0 fun i j=>.int (i+j)):=Ziw fun _ _ _ _ _ _ _ q=>add_int q
theorem Bs:Nf X (binaryOp .Sub) (rI0 fun i j=>.int (i - j)):=Ziw fun _ _ _ _ _ _ _ q=>sub_int q
theorem Xr:Nf X (binaryOp .Mult) (rI CMul fun i j=>.int (i * j)):=opI fun _ _ _ _ _ _ _ hc q=>mul_int q hc.ok
theorem Xk:Nf X (binaryOp .FloorDiv) (rI Ztf fun i j=>.int (i / j)):=opI fun i j _ _ _ _ _ hc q=>by
 have h1:(0:Int) < j:=hc.1;have h2:j < 1073741824:=hc.2;exact floordiv_int (by omega) (by rw[Int.fdiv_eq_ediv_of_nonneg i (by omega)];exact q) (.inl (PyProof.noPylong_small (by omega)))
theorem Ul:Nf X (binaryOp .Mod) (rI (fun _ j=>0 < j) fun i j=>.int (i % j)):=opI fun i j _ _ _ _ _ hc q=>by
 have h1:(0:Int) < j:=hc;exact mod_int' (by omega) (by rw[Int.fmod_eq_emod_of_nonneg i (by omega)];exact q)
theorem T1:Nf X (binaryOp .LShift) (rI Zte fun i j=>.int (i * 2 ^ j.toNat)):=opI fun _ _ _ _ _ _ _ hc q=>lshift_int_small hc.1 hc.2.1 hc.2.2 q
theorem Ziu:Nf X (binaryOp .RShift) (rI (fun _ j=>0≤j) fun i j=>.int (i / 2 ^ j.toNat)):=opI fun i j _ _ _ _ _ hc q=>
 rshift_int hc (by rw[Int.fdiv_eq_ediv_of_nonneg i (Zal _)];exact q)
theorem T4:Nf X (binaryOp .BitAnd) (rI0 fun i j=>.int (Builtin.bitAnd i j)):=Ziw fun _ _ _ _ _ _ _ q=>and_int q
theorem Zdm:Nf X (binaryOp .BitOr) (rI0 fun i j=>.int (Builtin.bitOr i j)):=Ziw fun _ _ _ _ _ _ _ q=>or_int q
theorem Zox:Nf X (binaryOp .BitXor) (rI0 fun i j=>.int (Builtin.bitXor i j)):=Ziw fun _ _ _ _ _ _ _ q=>xor_int q
theorem unI{f:Value→Sem Value}{g:Int→Int}
  (rule:∀(i:Int) (t:Tok) (s:Shared) (Q:Value→Shared→Prop) (E:Value→Shared→Prop),Q (.int (g i) s.toks) { s with toks:=s.toks+1 }→wpAny (model X.prog X.w) X.A (f (.int i t)) Q E s) :
  UnR X f (rU fun i=>.int (g i)):=by
 intro pins s σ H x v Q I rx h;obtain⟨i,rfl,q⟩:=h;obtain⟨t,rfl⟩:=rx;exact rule i t s _ _ ⟨.int (g i),H,I.tok _,⟨_,rfl⟩,q⟩
theorem Znv:UnR X (unaryOp .USub) (rU fun i=>.int (-i)):=unI fun _ _ _ _ _ q=>neg_int q
end
def Zn5:V→V→Bool
 | .non,.non=>true | .non,.int _=>true | .int _,.non=>true | .non,.bl _=>true | .bl _,.non=>true | .non,.str _=>true | .str _,.non=>true
 | .int _,.int _=>true | .bl _,.bl _=>true | .str _,.str _=>true | .byt _,.byt _=>true
 | .int _,.str _=>true | .str _,.int _=>true | .bl _,.str _=>true | .str _,.bl _=>true
 | _,_=>false
def rEq:R2:=fun x y H Q=>Zn5 x y=true∧Q (.bl (decide (x=y))) H
def rNe:R2:=fun x y H Q=>Zn5 x y=true∧Q (.bl (!decide (x=y))) H
theorem Zd8{i j:Int}:decide (V.int i=V.int j)=(i == j):=by
 rw[Bool.eq_iff_iff];simp
theorem Zki{i j:Bool}:decide (V.bl i=V.bl j)=(i == j):=by
 rw[Bool.eq_iff_iff];simp
theorem Zd6{i j:Str}:decide (V.str i=V.str j)=(i == j):=by
 rw[Bool.eq_iff_iff];simp
theorem Zd9{i j:Array UInt8}:decide (V.byt i=V.byt j)=(i.toList == j.toList):=by
 rw[Bool.eq_iff_iff];cases i;cases j;simp
section
variable{X:Cx}{a b c:Expr}{ta tb tc:TE}{pos:Pos}
theorem Yv{pins:List (Addr×Obj)}{σ:St}{H:Hp}{s:Shared}{Q:VK}{k k':Bool}(I:Inv X pins σ H s)(q:Q (.bl k) H)(e:k=k'):EP X pins σ Q (.bool k') s:=by
 subst e;exact⟨.bl k,H,I,rfl,q⟩
theorem X7:Nf X (compareOp .Eq) rEq:=by
 intro pins s σ H x y v u Q I rx ry h;obtain⟨hs,q⟩:=h;cases x with
 | non=>
  cases rx;cases y with
  | non=>cases ry;exact PySem.EqNone.eq_none_none (Yv I q (by simp))
  | bl j=>cases ry;exact PySem.EqNone.eq_none_bool (Yv I q (by simp))
  | int j=>obtain⟨t',rfl⟩:=ry;exact PySem.EqNone.eq_none_int (Yv I q (by simp))
  | str j=>obtain⟨t',rfl⟩:=ry;exact PySem.EqNone.eq_none_str (Yv I q (by simp))
  | _=>exact absurd (show false=true from hs) Zp
 | bl i=>
  cases rx;cases y with
  | non=>cases ry;exact PySem.EqNone.eq_bool_none (Yv I q (by simp))
  | bl j=>cases ry;exact eq_bool (Yv I q Zki)
  | str j=>obtain⟨t',rfl⟩:=ry;exact PySem.EqMixed.eq_bool_str (Yv I q (by simp))
  | _=>exact absurd (show false=true from hs) Zp
 | int i=>
  obtain⟨t,rfl⟩:=rx;cases y with
  | non=>cases ry;exact PySem.EqNone.eq_int_none (Yv I q (by simp))
  | int j=>obtain⟨t',rfl⟩:=ry;exact eq_int (Yv I q Zd8)
  | str j=>obtain⟨t',rfl⟩:=ry;exact PySem.EqMixed.eq_int_str (Yv I q (by simp))
  | _=>exact absurd (show false=true from hs) Zp
 | str i=>
  obtain⟨t,rfl⟩:=rx;cases y with
  | non=>cases ry;exact PySem.EqNone.eq_str_none (Yv I q (by simp))
  | bl j=>cases ry;exact PySem.EqMixed.eq_str_bool (Yv I q (by simp))
  | int j=>obtain⟨t',rfl⟩:=ry;exact PySem.EqMixed.eq_str_int (Yv I q (by simp))
  | str j=>obtain⟨t',rfl⟩:=ry;exact eq_str (Yv I q Zd6)
  | _=>exact absurd (show false=true from hs) Zp
 | byt i=>
  obtain⟨t,rfl⟩:=rx;cases y with
  | byt j=>obtain⟨t',rfl⟩:=ry;exact W.eq_bytes (Yv I q Zd9)
  | _=>exact absurd (show false=true from hs) Zp
 | _=>cases y<;>exact absurd (show false=true from hs) Zp
theorem No:Nf X (compareOp .NotEq) rNe:=by
 intro pins s σ H x y v u Q I rx ry h;obtain⟨hs,q⟩:=h;cases x with
 | non=>
  cases rx;cases y with
  | non=>cases ry;exact PySem.EqNone.ne_none_none (Yv I q (by simp))
  | bl j=>cases ry;exact PySem.EqNone.ne_none_bool (Yv I q (by simp))
  | int j=>obtain⟨t',rfl⟩:=ry;exact PySem.EqNone.ne_none_int (Yv I q (by simp))
  | str j=>obtain⟨t',rfl⟩:=ry;exact PySem.EqNone.ne_none_str (Yv I q (by simp))
  | _=>exact absurd (show false=true from hs) Zp
 | bl i=>
  cases rx;cases y with
  | non=>cases ry;exact PySem.EqNone.ne_bool_none (Yv I q (by simp))
  | bl j=>cases ry;exact ne_bool (Yv I q (congrArg not Zki))
  | str j=>obtain⟨t',rfl⟩:=ry;exact PySem.EqMixed.ne_bool_str (Yv I q (by simp))
  | _=>exact absurd (show false=true from hs) Zp
 | int i=>
  obtain⟨t,rfl⟩:=rx;cases y with
  | non=>cases ry;exact PySem.EqNone.ne_int_none (Yv I q (by simp))
  | int j=>obtain⟨t',rfl⟩:=ry;exact ne_int (Yv I q (congrArg not Zd8))
  | str j=>obtain⟨t',rfl⟩:=ry;exact PySem.EqMixed.ne_int_str (Yv I q (by simp))
  | _=>exact absurd (show false=true from hs) Zp
 | str i=>
  obtain⟨t,rfl⟩:=rx;cases y with
  | non=>cases ry;exact PySem.EqNone.ne_str_none (Yv I q (by simp))
  | bl j=>cases ry;exact PySem.EqMixed.ne_str_bool (Yv I q (by simp))
  | int j=>obtain⟨t',rfl⟩:=ry;exact PySem.EqMixed.ne_str_int (Yv I q (by simp))
  | str j=>obtain⟨t',rfl⟩:=ry;exact ne_str (Yv I q (congrArg not Zd6))
  | _=>exact absurd (show false=true from hs) Zp
 | byt i=>
  obtain⟨t,rfl⟩:=rx;cases y with
  | byt j=>obtain⟨t',rfl⟩:=ry;exact W.ne_bytes (Yv I q (congrArg not Zd9))
  | _=>exact absurd (show false=true from hs) Zp
 | _=>cases y<;>exact absurd (show false=true from hs) Zp
theorem Df:Nf X (compareOp .Lt) (rI0 fun i j=>.bl (decide (i < j))):=Zlv fun _ _ _ _ _ _ _ q=>lt_int q
theorem Rq:Nf X (compareOp .LtE) (rI0 fun i j=>.bl (decide (i≤j))):=Zlv fun _ _ _ _ _ _ _ q=>le_int q
theorem Q8:Nf X (compareOp .Gt) (rI0 fun i j=>.bl (decide (j < i))):=Zlv fun _ _ _ _ _ _ _ q=>gt_int q
theorem T3:Nf X (compareOp .GtE) (rI0 fun i j=>.bl (decide (j≤i))):=Zlv fun _ _ _ _ _ _ _ q=>ge_int q
theorem T2:Nf X (compareOp .Is) (fun x y H Q=>y = .non∧Q (.bl (decide (x = .non))) H):=by
 intro pins s σ H x y v u Q I rx ry h;obtain⟨rfl,q⟩:=h;cases ry;refine is_none_gen (Yv I q ?_);cases x<;>first
  | (cases rx;rfl)
  | (obtain⟨t,rfl⟩:=rx;rfl)
theorem Gp:Nf X (compareOp .IsNot) (fun x y H Q=>y = .non∧Q (.bl (!decide (x = .non))) H):=by
 intro pins s σ H x y v u Q I rx ry h;obtain⟨rfl,q⟩:=h;cases ry;refine isnot_none_gen (Yv I q ?_);cases x<;>first
  | (cases rx;rfl)
  | (obtain⟨t,rfl⟩:=rx;rfl)
theorem Jl(b:Expr){op:CmpOp}(h:op ≠ .In:=by decide)(h2:op ≠ .NotIn:=by decide):behindInMarks op b=false:=by
 have e1:(op == CmpOp.In)=false:=by cases op<;>first | rfl | exact absurd rfl h
 have e2:(op == CmpOp.NotIn)=false:=by cases op<;>first | rfl | exact absurd rfl h2
 cases b<;>simp [behindInMarks,e1,e2]
theorem Y0{op:CmpOp}{r:R2}(ho:Nf X (compareOp op) r)(ha:PE X a ta)(hb:PE X b tb)(hm:behindInMarks op b=false):PE X (.Compare a [op] [b] pos) (tOp r ta tb):=by
 intro pins s σ H Q I h;exact wpAny_Compare1 (Zp0 ha hb I h fun v u s2 x y H2 I2 rx ry q=>ho pins s2 σ H2 x y v u Q I2 rx ry q) hm
def Zm8(t:TE):TT:=fun σ H Q=>t σ H fun x H'=>∃ k,x = .bl k∧Q k H'
theorem Jm{op:CmpOp}{r:R2}(ho:Nf X (compareOp op) r)(ha:PE X a ta)(hb:PE X b tb)(hm:behindInMarks op b=false):PT X (.Compare a [op] [b] pos) (Zm8 (tOp r ta tb)):=by
 intro pins s σ H Q I h;refine wpAny_isTrue_Compare1 (Ub (ha pins s σ H _ I h) fun v s1 ⟨x,H1,I1,r1,q1⟩=>Ub (hb pins s1 σ H1 _ I1 q1) fun u s2 ⟨y,H2,I2,r2,q2⟩=>
  Ub (ho pins s2 σ H2 x y v u _ I2 r1 r2 q2) fun c s3 ⟨z,H3,I3,r3,k,e,q3⟩=>?_) hm
 subst e;cases r3;exact wpAny_truthy_bool ⟨H3,I3,q3⟩
def Zrr(K:W.Frag)(x:V)(H:Hp)(k:Bool):Prop:=
 match x with
 | .non=>k=false
 | .bl b=>k=b
 | .int i=>k=(i != 0)
 | .str y=>y.length≤sizeLine∧k=((y.length:Int) != 0)
 | .byt y=>y.size≤sizeLine∧k=((y.size:Int) != 0)
 | .ref p=>(∃ xs,SqL K H p xs∧k = !xs.isEmpty)∨(∃ xs,SqT K H p xs∧k = !xs.isEmpty)∨∃ kvs,H p=some (.dK kvs)∧k = !kvs.isEmpty
 | _=>False
theorem Zcd{κ:Type}{kvs:List (κ×V)}{vs:List (κ×Value)}(r:KV kvs vs):(!vs.isEmpty) = !kvs.isEmpty:=by
 cases r<;>rfl
theorem Mf{xs:List V}{its:List Value}(r:Vals xs its):(!its.toArray.isEmpty) = !xs.isEmpty:=by
 cases r<;>simp
theorem Bt:(sizeLine:Nat) < 2 ^ 63:=by rw[sizeLine_eq];decide
theorem Zgu:Zta X (fun x H Q=>∃ k,Zrr X.K x H k∧Q k H):=by
 intro pins s σ H x v Q I rx h;obtain⟨k,e,q⟩:=h;have hl:=Bt;have hs:sizeLine=16777216:=sizeLine_eq;cases x with
 | non=>
  cases rx;have e':k=false:=e;subst e';exact truthy_none ⟨H,I,q⟩
 | bl b=>
  cases rx;have e':k=b:=e;subst e';exact wpAny_truthy_bool ⟨H,I,q⟩
 | int i=>
  obtain⟨t,rfl⟩:=rx;have e':k=(i != 0):=e;subst e';exact PySem.P.truthy_int ⟨H,I,q⟩
 | str y=>
  obtain⟨t,rfl⟩:=rx;obtain⟨hy,e'⟩:y.length≤sizeLine∧k=((y.length:Int) != 0):=e;subst e';exact PySem.P.truthy_str (by omega) ⟨H,I.tok _,q⟩
 | byt y=>
  obtain⟨t,rfl⟩:=rx;obtain⟨hy,e'⟩:y.size≤sizeLine∧k=((y.size:Int) != 0):=e;subst e';exact W.truthy_bytes (by omega) ⟨H,I.tok _,q⟩
 | ref p=>
  cases rx;have e':(∃ xs,SqL X.K H p xs∧k = !xs.isEmpty)∨(∃ xs,SqT X.K H p xs∧k = !xs.isEmpty)∨∃ kvs,H p=some (.dK kvs)∧k = !kvs.isEmpty:=e;rcases e' with⟨xs,hx,e'⟩ | ⟨xs,hx,e'⟩ | ⟨kvs,hx,e'⟩
  ·subst e'
   obtain⟨its,r,pl,hz⟩:=I.list hx;have hlen:=r.length;exact wpAny_truthy_list pl.isList (by simp only[Z1];omega) ⟨H,I.tok _,by rw[Mf r];exact q⟩
  ·subst e'
   obtain⟨its,r,pl,hz⟩:=I.tuple hx;have hlen:=r.length;exact truthy_tuple pl (by simp only[Z1];omega) ⟨H,I.tok _,by rw[Mf r];exact q⟩
  ·subst e'
   obtain⟨hz,hS,vs,r,m⟩:kvs.length≤sizeLine∧(p == sysModules)=false∧∃ vs,KV kvs vs∧s.heap.DictOf (Yr X.prog X.w) p vs:=I.hok p _ hx;have hlen:kvs.length=vs.length:=Paired.length r;exact wpAny_truthy_dict hS m (by omega) ⟨H,I.tok _,by rw[Zcd r];exact q⟩
 | _=>exact(show False from e).elim
theorem Jy(ha:PE X a ta)(he:∀ whole,isTrue a X.env whole=(do let v ← whole;standAt a.pos;holding [v] (truthy v))) :
  PT X a (fun σ H Q=>ta σ H fun x H'=>∃ k,Zrr X.K x H' k∧Q k H'):=by
 intro pins s σ H Q I h;exact isTrue_plain (Ub (ha pins s σ H _ I h) fun v s1 ⟨x,H1,I1,r1,q1⟩=>Zgu pins s1 σ H1 x v Q I1 r1 q1) (he _)
theorem Um:Nf X (binaryOp .Add) (fun x y H Q=>∃ i j,x = .str i∧y = .str j∧i.length+j.length≤sizeLine∧Q (.str (i++j)) H):=by
 intro pins s σ H x y v u Q I rx ry h;obtain⟨i,j,rfl,rfl,hz,q⟩:=h;obtain⟨t,rfl⟩:=rx;obtain⟨t',rfl⟩:=ry;exact add_str (fun t' tk=>⟨.str (i++j),H,I.tok _,⟨_,rfl⟩,q⟩) hz
theorem Qu{x:V}{us:List Value}(r:Vals [x] us):∃ u,us=[u]∧RelV x u:=by
 cases r with
 | cons r1 r2=>cases r2;exact⟨_,rfl,r1⟩
theorem Zcn{x y:V}{us:List Value}(r:Vals [x,y] us):∃ u w',us=[u,w']∧RelV x u∧RelV y w':=by
 cases r with
 | cons r1 r2=>
  cases r2 with
  | cons r3 r4=>cases r4;exact⟨_,_,rfl,r1,r3⟩
theorem Zge(hc:X.calm=true):Xw X (.builtin "max") (fun xs H Q=>∃ i j,xs=[.int i,.int j]∧Q (.int (if j > i then j else i)) H):=by
 intro pins s σ H xs us Q I r h;obtain⟨i,j,rfl,q⟩:=h;obtain⟨u,w',rfl,⟨t,rfl⟩,⟨t',rfl⟩⟩:=Zcn r;refine max_two_ints (I.ok.hd hc) fun h' tk k=>⟨_,H,I.kept k,?_,q⟩;by_cases hj:j > i
 ·rw[Zv hj,Zv hj];exact⟨_,rfl⟩
 ·rw[Zj hj,Zj hj];exact⟨_,rfl⟩
theorem Zgd(hc:X.calm=true):Xw X (.builtin "min") (fun xs H Q=>∃ i j,xs=[.int i,.int j]∧Q (.int (if j < i then j else i)) H):=by
 intro pins s σ H xs us Q I r h;obtain⟨i,j,rfl,q⟩:=h;obtain⟨u,w',rfl,⟨t,rfl⟩,⟨t',rfl⟩⟩:=Zcn r;refine min_two_ints (I.ok.hd hc) fun h' tk k=>⟨_,H,I.kept k,?_,q⟩;by_cases hj:j < i
 ·rw[Zv hj,Zv hj];exact⟨_,rfl⟩
 ·rw[Zj hj,Zj hj];exact⟨_,rfl⟩
theorem X9:Xw X (.type "str") (fun xs H Q=>∃ i,xs=[.int i]∧i.natAbs.log2 < 1920∧Q (.str (toString i)) H):=by
 intro pins s σ H xs us Q I r h;obtain⟨i,rfl,hz,q⟩:=h;obtain⟨u,rfl,t,rfl⟩:=Qu r;exact PySem.P.str_of_int hz ⟨.str _,H,I.tok _,⟨_,rfl⟩,q⟩
end
structure ObjM(h:Heap)(x dx C:Addr)(mA:Str→Option Value):Prop where
 obj:h.get? x=some (W.instObj C dx)
 ns:h.Ns1 dx mA
 ne:dx≠x
theorem Di{h:Heap}{dx:Addr}{mA:Str→Option Value}(n:h.Ns1 dx mA):∃ od,h.get? dx=some od∧∀ name,W.lookIn name od=some (mA name):=by
 obtain⟨o,es,ep,ho,hd,hk,_,hm⟩:=n;refine⟨o,ho,fun name=>?_⟩;have e:=hm name;unfold nsFind findBy at e;rw[← Array.find?_toList] at e;unfold W.lookIn;rw[hd];dsimp only;split
 ·rename_i y q
  rw[q] at e;exact congrArg some e
 ·rename_i q
  rw[q] at e;have a:es.toList.any (·.refKey)=false:=by
   rw[List.any_eq_false];intro y hy;obtain⟨z,t,hkey⟩:=hk y (Array.mem_toList_iff.mp hy);simp [DictEntry.refKey,hkey]
  have a':¬ es.toList.any (·.refKey)=true:=by rw[a];exact Zp
  rw[Zj a'];exact congrArg some e
theorem ObjM.look{h:Heap}{x dx C:Addr}{mA:Str→Option Value}(I:ObjM h x dx C mA):∃ od,W.InstAt h x (W.instObj C dx) C (some od)∧∀ name,W.lookIn name od=some (mA name):=
 let ⟨od,ho,hl⟩:=Di I.ns
 ⟨od,⟨I.obj,rfl,rfl,ho⟩,hl⟩
section
variable{prog:Program}{w:World}{A:Around}{E:Value→Shared→Prop}{s:Shared}{K:W.Frag}{x dx C f:Addr}{mA:Str→Option Value}{name:Str}{v:Value}
theorem Zms{expr:Bool}{Q:Value→Shared→Prop}(X:K.In s.heap)(I:ObjM s.heap x dx C mA)(hg:W.plainGet K C name=true)(hh:W.hasDictIn K C=true)
  (ha:W.findIn K (.ref C) name=some none) (hv:mA name=some v) (hv':W.handedIn v=true) (h:Q v { s with toks:=s.toks+1 }) :
  wpAny (model prog w) A (getAttr (.ref x) name expr) Q E s:=by
 obtain⟨od,J,hl⟩:=I.look;exact W.get_value X J (W.plainGet_of hg).1 (W.findObj_own hh ha rfl (by rw[hl,hv])) hv' h
theorem Zj9{pl:Sem Bool}{Q:Value×List Value→Shared→Prop}(X:K.In s.heap)(I:ObjM s.heap x dx C mA)(hg:W.plainGet K C name=true)
  (hf:W.findIn K (.ref C) name=some (some (.ref f))) (ht:W.isFn K (.ref f)=true) (hv:mA name=none) (h:Q (.ref f,[.ref x]) s) :
  wpAny (model prog w) A (getMethod (.ref x) name pl) Q E s:=by
 obtain⟨od,J,hl⟩:=I.look;exact W.method_fn X J (W.plainGet_of hg).1 (W.plainGet_of hg).2 hf (beq_iff_eq.mp ht) (by show(W.lookIn name od).map (·.isSome)=some false;rw[hl,hv];rfl) h
theorem Zk4{ns:List Str}{Q:Unit→Shared→Prop}(X:K.In s.heap)(I:ObjM s.heap x dx C mA)
  (hs:W.findIn K (.ref C) "__setattr__" = some (some (.builtin "object.__setattr__"))) (hp:W.plainOver K C=true) (ht:W.takerIn K C name=some none) (hh:W.hasDictIn K C=true)
  (hw:PySem.Within mA ns) (hsz:ns.length≤sizeLine)
  (h:∀ h',ObjM h' x dx C (fun y=>if y=name then some v else mA y)→Heap.SameBut dx s.heap h'→Q () { s with heap:=h',toks:=s.toks+2 }) :
  wpAny (model prog w) A (setAttr (.ref x) name v) Q E s:=by
 obtain⟨od,J,hl⟩:=I.look;refine W.set_plain X J hs (W.osa_open (s:={ s with toks:=s.toks+1 }) (r:=none) X J hp ht fun b=>?_);obtain⟨cd,hc,hd'⟩:=W.any_some hh;have hx:s.heap.get? x=some ⟨.ref C,some dx,.plain,#[]⟩:=I.obj;refine Zb (Ze (Zb (Zb (wpAny_loadPart hx (Zb (W.Looks.here (s:={ s with toks:=s.toks+1 }) (W.looks_clsIn X hc) ?_))))));rw[hd'];refine Ze (a:=some dx) (Zb (Ze (Zb ?_)));refine wpAny_nsSet1 (s:={ s with toks:=s.toks+1 }) I.ns fun h' hn2 hs2=>?_;obtain⟨oD,esD,epD,hoD,hdD,hcD⟩:=hn2.count (PySem.Within.cons name v hw);refine Zb (wpAny_lookBehind hoD (by rw[hdD];exact pastItsLine_dict (Jd hcD (by rw[Jo];omega))) ?_);exact Ze (h _ ⟨(hs2.2 _ (Ne.symm I.ne)).trans I.obj,hn2,I.ne⟩ hs2)
theorem Zjx{R:Result→Shared→Prop}{vs:List Value}{kw:List (Str×Value)}(X:K.In s.heap)(hm:W.makesIn K C=true)
  (hi:W.findIn K (.ref C) "__init__" = some (some (.ref f))) (hf:W.typeIn K (.ref f)=some (.type "function"))
  (h:codeAny (model prog w) (A.under (.builtin "type.__call__" ⟨.ref C :: vs,kw⟩)) (.call (.ref f) ⟨.ref (s.heap.objs.size+1) :: vs,kw⟩) (W.InitBack (s.heap.objs.size+1) R)
   { s with heap:=(s.heap.push W.emptyDict).push (W.instObj C s.heap.objs.size) }) :
  codeAny (model prog w) A (.call (.ref C) ⟨vs,kw⟩) R s:=by
 obtain⟨hh,g,d,t,os⟩:=s;exact W.make_core (W.makes_of X hm) (W.looks_findIn X hi) (fun self=>W.bind_fn X self hf) (.inl rfl) h
theorem Zft{R:Result→Shared→Prop}(X:K.In s.heap)(hm:W.makesIn K C=true)
  (hi:W.findIn K (.ref C) "__init__" = some (some (.builtin "object.__init__")))
  (hb:∀ self,W.Looks (model prog w) s.heap (bindSpecial (.builtin "object.__init__") self) (.builtin "object.__init__",[self]))
  (h:codeAny (model prog w) (A.under (.builtin "type.__call__" ⟨[.ref C],[]⟩)) (.call (.builtin "object.__init__") ⟨[.ref (s.heap.objs.size+1)],[]⟩) (W.InitBack (s.heap.objs.size+1) R)
   { s with heap:=(s.heap.push W.emptyDict).push (W.instObj C s.heap.objs.size) }) :
  codeAny (model prog w) A (.call (.ref C) ⟨[],[]⟩) R s:=by
 obtain⟨hh,g,d,t,os⟩:=s;exact W.make_core (W.makes_of X hm) (W.looks_findIn X hi) hb (.inr ⟨rfl,rfl⟩) h
end
def X3(f:Str)(v:V):List (Str×V)→List (Str×V)
 | []=>[(f,v)]
 | (g,x) :: r=>if g=f then(g,v) :: r else(g,x) :: X3 f v r
theorem Zt(f g:Str)(v:V):∀ fs:List (Str×V),(X3 f v fs).lookup g=if g=f then some v else fs.lookup g
 | []=>by
  show List.lookup g [(f,v)]=_;by_cases h:g=f
  ·have hb:(g == f)=true:=beq_iff_eq.mpr h
   simp only[List.lookup,hb,Zv h]
  ·have hb:(g == f)=false:=beq_eq_false_iff_ne.mpr h
   simp only[List.lookup,hb,Zj h]
 | (k,x) :: r=>by
  have ih:=Zt f g v r;rw[show X3 f v ((k,x) :: r)=(if k=f then(k,v) :: r else(k,x) :: X3 f v r) from rfl];by_cases hk:k=f
  ·rw[Zv hk]
   by_cases h:g=k
   ·have hb:(g == k)=true:=beq_iff_eq.mpr h
    simp only[List.lookup,hb,Zv (h.trans hk)]
   ·have hb:(g == k)=false:=beq_eq_false_iff_ne.mpr h
    simp only[List.lookup,hb,Zj (fun e:g=f=>h (e.trans hk.symm))]
  ·rw[Zj hk]
   by_cases h:g=k
   ·have hb:(g == k)=true:=beq_iff_eq.mpr h
    simp only[List.lookup,hb,Zj (fun e:g=f=>hk (h.symm.trans e))]
   ·have hb:(g == k)=false:=beq_eq_false_iff_ne.mpr h
    simp only[List.lookup,hb];exact ih
theorem Rf(f:Str)(v:V):∀ fs:List (Str×V),f∈(X3 f v fs).map (·.1)∧∀ g,g∈fs.map (·.1)→g∈(X3 f v fs).map (·.1)
 | []=>⟨by simp [X3],fun g h=>by simp at h⟩
 | (k,x) :: r=>by
  obtain⟨i1,i2⟩:=Rf f v r;rw[show X3 f v ((k,x) :: r)=(if k=f then(k,v) :: r else(k,x) :: X3 f v r) from rfl];by_cases hk:k=f
  ·rw[Zv hk]
   subst hk;exact⟨by simp,fun g h=>by simpa using h⟩
  ·rw[Zj hk]
   refine⟨?_,fun g h=>?_⟩
   ·rw[List.map_cons]
    exact Zx _ i1
   ·rw[List.map_cons] at h ⊢
    rcases Ja.mp h with e | e
    ·exact Ja.mpr (.inl e)
    ·exact Zx _ (i2 g e)
theorem Y9(f:Str)(v:V):∀ fs:List (Str×V),(X3 f v fs).length≤fs.length+1
 | []=>by simp [X3]
 | (k,x) :: r=>by
  have ih:=Y9 f v r;rw[show X3 f v ((k,x) :: r)=(if k=f then(k,v) :: r else(k,x) :: X3 f v r) from rfl];by_cases hk:k=f
  ·rw[Zv hk,Jo,Jo];omega
  ·rw[Zj hk,Jo,Jo];omega
theorem RelO.some_of{v:V}{o:Option Value}(r:RelO (some v) o):∃ u,o=some u∧RelV v u:=by
 cases o with
 | none=>exact(show False from r).elim
 | some u=>exact⟨u,rfl,r⟩
theorem RelO.none_of{o:Option Value}(r:RelO none o):o=none:=by
 cases o with
 | none=>rfl
 | some u=>exact(show False from r).elim
theorem Do{v:V}{u:Value}(r:RelV v u):W.handedIn u=true:=by
 cases v with
 | non=>cases (show u=Value.none from r);rfl
 | bl b=>cases (show u=Value.bool b from r);rfl
 | int i=>obtain⟨t,e⟩:=(show ∃ t,u=Value.int i t from r);cases e;rfl
 | str x=>obtain⟨t,e⟩:=(show ∃ t,u=Value.str x t from r);cases e;rfl
 | byt b=>obtain⟨t,e⟩:=(show ∃ t,u=Value.bytes b t from r);cases e;rfl
 | flt b=>obtain⟨t,e⟩:=(show ∃ t,u=Value.float b t from r);cases e;rfl
 | ref a=>cases (show u=Value.ref a from r);rfl
 | ty n=>cases (show u=Value.type n from r);rfl
section
variable{P:Program}{w:World}{H H':Hp}{h h':Heap}{a C dx:Addr}{fs fs':List (Str×V)}
theorem Gr(hok:HOk P w H h)(e:H a=some (.ins C dx fs)):∃ mA,ObjM h a dx C mA∧(∀ f,RelO (fs.lookup f) (mA f))∧PySem.Within mA (fs.map (·.1))∧fs.length≤1000∧H dx=some (.own a):=by
 obtain⟨d,z,ne,ob,mA,n,r,q⟩:=(show ObjOk P w H h a (.ins C dx fs) from hok a _ e);exact⟨mA,⟨ob,n,ne⟩,r,q,z,d⟩
end
structure Cls(K:W.Frag)(C:Addr):Prop where
 pg:W.plainGet K C Str.empty=true
 hd:W.hasDictIn K C=true
 po:W.plainOver K C=true
 sa:W.findIn K (.ref C) "__setattr__" = some (some (.builtin "object.__setattr__"))
theorem Cls.get{K:W.Frag}{C:Addr}(c:Cls K C)(f:Str):W.plainGet K C f=true:=c.pg
def NoAttr(K:W.Frag)(C:Addr)(f:Str):Prop:=W.findIn K (.ref C) f=some none
theorem NoAttr.taker{K:W.Frag}{C:Addr}{f:Str}(n:NoAttr K C f):W.takerIn K C f=some none:=by
 unfold W.takerIn;rw[show W.findIn K (.ref C) f=some none from n];rfl
structure Meth(K:W.Frag)(C:Addr)(m:Str)(f:Addr):Prop where
 at_:W.findIn K (.ref C) m=some (some (.ref f))
 fn:W.isFn K (.ref f)=true
 kp:W.keepIn K (.ref f)=true
section
variable{X:Cx}{pins:List (Addr×Obj)}{σ:St}{H:Hp}{s:Shared}{a C dx:Addr}{fs:List (Str×V)}{f:Str}{v:V}{A:Around}{E:Value→Shared→Prop}
theorem Zcg{b:Bool}{Q:Value→Shared→Prop}(I:Inv X pins σ H s)(e:H a=some (.ins C dx fs))(c:Cls X.K C)(n:NoAttr X.K C f)(l:fs.lookup f=some v)
  (h:∀ u s',Inv X pins σ H s'→RelV v u→Q u s'):wpAny (model X.prog X.w) A (getAttr (.ref a) f b) Q E s:=by
 obtain⟨mA,O,r,_,_,_⟩:=Gr I.hok e;obtain⟨u,hu,ru⟩:=RelO.some_of (v:=v) (o:=mA f) (by rw[← l];exact r f);exact Zms I.kIn O (c.get f) c.hd n hu (Do ru) (h u _ (I.tok _) ru)
theorem Na{m:Str}{g:Addr}{pl:Sem Bool}{Q:Value×List Value→Shared→Prop}(I:Inv X pins σ H s)(e:H a=some (.ins C dx fs))(c:Cls X.K C)(k:Meth X.K C m g)(l:fs.lookup m=none)
  (h:Q (.ref g,[.ref a]) s):wpAny (model X.prog X.w) A (getMethod (.ref a) m pl) Q E s:=by
 obtain⟨mA,O,r,_,_,_⟩:=Gr I.hok e;have hn:mA m=none:=RelO.none_of (by rw[← l];exact r m);exact Zj9 I.kIn O (c.get m) k.at_ k.fn hn h
theorem Za4{y:V}{u:Value}{Q:Unit→Shared→Prop}(I:Inv X pins σ H s)(e:H a=some (.ins C dx fs))(c:Cls X.K C)(n:NoAttr X.K C f)(hl:fs.length < 1000)(ry:RelV y u)
  (h:∀ s',Inv X pins σ (upd H a (.ins C dx (X3 f y fs))) s'→Q () s'):wpAny (model X.prog X.w) A (setAttr (.ref a) f u) Q E s:=by
 obtain⟨mA,O,r,wi,_,ho⟩:=Gr I.hok e;have hz:(fs.map (·.1)).length≤sizeLine:=by rw[Zk,sizeLine_eq];omega
 refine Zk4 I.kIn O c.sa c.po n.taker c.hd wi hz fun h' O' sb=>h _ ?_;have hd:∃ o,h'.get? dx=some o:=let ⟨o,_,_,e',_⟩:=O'.ns;⟨o,e'⟩;refine I.write (x:=a) (e:=dx) (by rw[e];exact True.intro) (.inr ho) (fun b q hb z=>(sb.2 b hb).trans z) hd ?_;refine⟨by rw[Z8 O.ne];exact ho,?_,O.ne,O'.obj,_,O'.ns,fun g=>?_,fun g hg=>?_⟩
 ·have:=Y9 f y fs;omega
 ·show RelO ((X3 f y fs).lookup g) (if g=f then some u else mA g)
  rw[Zt];by_cases q:g=f
  ·rw[Zv q,Zv q];exact ry
  ·rw[Zj q,Zj q];exact r g
 ·by_cases q:g=f
  ·rw[q];exact(Rf f y fs).1
  ·refine(Rf f y fs).2 g (wi g fun z=>hg ?_)
   show(if g=f then some u else mA g)=none;rw[Zj q];exact z
theorem Inv.made(I:Inv X pins σ H s):Inv X pins σ (upd (upd H s.heap.objs.size (.own (s.heap.objs.size+1))) (s.heap.objs.size+1) (.ins C s.heap.objs.size []))
  { s with heap:=(s.heap.push W.emptyDict).push (W.instObj C s.heap.objs.size) }:=by
 have e1:(s.heap.push W.emptyDict).get? s.heap.objs.size=some W.emptyDict:=Z6 s.heap rfl;have e2:((s.heap.push W.emptyDict).push (W.instObj C s.heap.objs.size)).get? (s.heap.objs.size+1)=some (W.instObj C s.heap.objs.size):=by
  have:=Z6 (s.heap.push W.emptyDict) (o:=W.instObj C s.heap.objs.size) rfl
  rwa [Heap.size_push] at this
 have e3:(s.heap.push W.emptyDict).Ns s.heap.objs.size (fun _=>none):=⟨W.emptyDict,#[],_,e1,rfl,(fun e he=>absurd he (by simp)),fun _=>rfl⟩;have I1:=I.laid (a:=s.heap.objs.size) (o:=.own (s.heap.objs.size+1)) (h':=s.heap.push W.emptyDict) (t':=s.toks) (fun b u q=>Zh _ q) (Zs _) ⟨_,e1⟩;refine I1.laid (a:=s.heap.objs.size+1) (o:=.ins C s.heap.objs.size []) (t':=s.toks) (fun b u q=>Zh _ q) (Nat.le_of_eq (Heap.size_push _ _)) ?_;have ne:s.heap.objs.size≠s.heap.objs.size+1:=Jh (Xl _);refine⟨by rw[Z8 ne,Zq],Nat.zero_le _,ne,e2,fun _=>none,(Heap.Ns1.of_empty e3).at fun o q=>Zh _ q,fun _=>True.intro,fun y hy=>absurd rfl hy⟩
theorem Zeb{prog:Program}{w:World}{env:Env}{e:Expr}{f:Str}{pos:Pos}{s:Shared}{Q:Value→Shared→Prop}(hb:attributeBase e f env (eval e env)=eval e env)
  (h:wpAny (model prog w) A (eval e env) (fun o s₁=>wpAny (model prog w) A (getAttr o f true) Q E s₁) E s):wpAny (model prog w) A (eval (.Attribute e f pos) env) Q E s:=
 Attribute_any_ h (by rw[arm_eval_Attribute,hb])
end
def Zsg(K:W.Frag)(ta:TE)(f:Str):TE:=fun σ H Q=>ta σ H fun x H1=>∃ a C dx fs v,x = .ref a∧H1 a=some (.ins C dx fs)∧Cls K C∧NoAttr K C f∧fs.lookup f=some v∧Q v H1
def Zsk(K:W.Frag)(ta tv:TE)(f:Str):TS:=fun D σ H=>tv σ H fun y H1=>ta σ H1 fun x H2=>∃ a C dx fs,x = .ref a∧H2 a=some (.ins C dx fs)∧Cls K C∧NoAttr K C f∧fs.length < 1000 ∧
 D.nx σ (upd H2 a (.ins C dx (X3 f y fs)))
section
variable{X:Cx}{o e value:Expr}{f:Str}{pos pos' tpos:Pos}{ta tv:TE}
theorem Jt(he:PE X e ta)(hb:attributeBase e f X.env (eval e X.env)=eval e X.env):PE X (.Attribute e f pos) (Zsg X.K ta f):=by
 intro pins s σ H Q I h;refine Zeb hb (Ub (he pins s σ H _ I h) fun u s1 ⟨x,H1,I1,rx,a,C,dx,fs,v,ex,ea,c,n,l,q⟩=>?_);subst ex;obtain rfl:u=Value.ref a:=rx;exact Zcg I1 ea c n l fun u' s2 I2 ru=>⟨v,H1,I2,ru,q⟩
theorem Xq(ha:PE X o ta)(hv:PE X value tv)(hs:swapsWith value (some (.Attribute o f pos')) pos.line X.env=pure false):PS X (.Assign [.Attribute o f pos'] value pos) (Zsk X.K ta tv f):=by
 intro pins s σ H D I h;refine plainObj_wpAny_Assign_Attribute (Ub (hv pins s σ H _ I h) fun u s1 ⟨y,H1,I1,ry,q⟩=>Ub (ha pins s1 σ H1 _ I1 q) fun ov s2 ⟨x,H2,I2,rx,a,C,dx,fs,ex,ea,c,n,l,q2⟩=>?_) hs;subst ex;obtain rfl:ov=Value.ref a:=rx;exact Za4 I2 ea c n l ry fun s3 I3=>⟨σ,_,I3,q2⟩
end
section
variable{X:Cx}{pins:List (Addr×Obj)}{σ:St}{H:Hp}{s:Shared}{A:Around}{E:Value→Shared→Prop}{Q:Value→Shared→Prop}{c:Value}{b:Bool}
inductive TyOf(K:W.Frag)(H:Hp):V→Value→Prop where
 | non:TyOf K H .non (.type "NoneType")
 | bl (x:Bool):TyOf K H (.bl x) (.type "bool")
 | int (i:Int):TyOf K H (.int i) (.type "int")
 | str (x:Str):TyOf K H (.str x) (.type "str")
 | flt (x:UInt64):TyOf K H (.flt x) (.type "float")
 | lst {a:Addr} {xs:List V} (e:H a=some (.lst xs)):TyOf K H (.ref a) (.type "list")
 | frz {a:Addr} {o:Obj} {xs:List V} (e:H a=some (.frz o (.lst xs))):TyOf K H (.ref a) (.type "list")
 | tup {a:Addr} {xs:List V} (e:H a=some (.tup xs)):TyOf K H (.ref a) (.type "tuple")
 | dK {a:Addr} {kvs:List (N2×V)} (e:H a=some (.dK kvs)):TyOf K H (.ref a) (.type "dict")
 | dT {a:Addr} {kvs:List (List N2×V)} (e:H a=some (.dT kvs)):TyOf K H (.ref a) (.type "dict")
 | ins {a C dx:Addr} {fs:List (Str×V)} (e:H a=some (.ins C dx fs)) (cl:Cls K C) (ha:W.findIn K (.ref C) "__class__" = some (some (.builtin "object.__class__")))
   (hn:W.specialIn K (.builtin "object.__class__") "__get__" = some (some (.builtin "getset_descriptor.__get__"))) (htk:W.takesIn K (.builtin "object.__class__")=some true)
   (hm:W.mroIn K C (.type "object")=some true):TyOf K H (.ref a) (.ref C)
theorem Zfy{x:V}{u t:Value}(I:Inv X pins σ H s)(rx:RelV x u)(ty:TyOf X.K H x t)(e:W.kitOne X.K t c=some b)(h:∀ tk,Q (.bool b) { s with toks:=tk }) :
  wpAny (model X.prog X.w) A (call (.builtin "isinstance") [u,c]) Q E s:=by
 cases ty with
 | non=>cases (show u=Value.none from rx);exact W.kia_one W.kitx_none I.kIn True.intro e (fun z=>nomatch z) h
 | bl y=>cases (show u=Value.bool y from rx);exact W.kia_one W.kitx_bool I.kIn True.intro e (fun z=>nomatch z) h
 | int i=>obtain⟨t,q⟩:=(show ∃ t,u=Value.int i t from rx);cases q;exact W.kia_one W.kitx_int I.kIn True.intro e (fun z=>nomatch z) h
 | str y=>obtain⟨t,q⟩:=(show ∃ t,u=Value.str y t from rx);cases q;exact W.kia_one W.kitx_str I.kIn True.intro e (fun z=>nomatch z) h
 | flt y=>obtain⟨t,q⟩:=(show ∃ t,u=Value.float y t from rx);cases q;exact W.kia_one W.kitx_float I.kIn True.intro e (fun z=>nomatch z) h
 | @lst a xs ea=>
  cases (show u=Value.ref a from rx);obtain⟨_,_,n,_,h1⟩:=(show ObjOk X.prog X.w H s.heap a (.lst xs) from I.hok a _ ea);exact W.kia_one W.kitx_list I.kIn ⟨_,h1,rfl⟩ e (fun z=>nomatch z) h
 | @frz a ob xs ea=>
  cases (show u=Value.ref a from rx);obtain⟨_,_,_,n,_,h1⟩:=(show ObjOk X.prog X.w H s.heap a (.frz ob (.lst xs)) from I.hok a _ ea);exact W.kia_one W.kitx_list I.kIn ⟨_,h1,rfl⟩ e (fun z=>nomatch z) h
 | @tup a xs ea=>
  cases (show u=Value.ref a from rx);obtain⟨_,_,_,p⟩:=(show ObjOk X.prog X.w H s.heap a (.tup xs) from I.hok a _ ea);obtain⟨o,h1,h2,_⟩:=p;exact W.kia_one W.kitx_tuple I.kIn ⟨o,h1,h2⟩ e (fun z=>nomatch z) h
 | @dK a kvs ea=>
  cases (show u=Value.ref a from rx);obtain⟨_,_,vs,_,p⟩:=(show ObjOk X.prog X.w H s.heap a (.dK kvs) from I.hok a _ ea);obtain⟨o,es,ep,h1,h2,_⟩:=p;exact W.kia_one W.kitx_dict I.kIn ⟨o,h1,h2.1⟩ e (fun z=>nomatch z) h
 | @dT a kvs ea=>
  cases (show u=Value.ref a from rx);obtain⟨_,_,xs,_,o,es,ep,h1,h2,_⟩:=(show ObjOk X.prog X.w H s.heap a (.dT kvs) from I.hok a _ ea);exact W.kia_one W.kitx_dict I.kIn ⟨o,h1,h2.1⟩ e (fun z=>nomatch z) h
 | @ins a C dx fs ea cl ha hn htk hm=>
  cases (show u=Value.ref a from rx);obtain⟨mA,O,_⟩:=Gr I.hok ea;obtain⟨od,J,_⟩:=O.look;exact W.kia_one (W.kitx_own (cl.get _) cl.hd ha hn htk hm) I.kIn J e (fun z=>nomatch z) h
end
structure Room(k:Nat)(A:Around):Prop where
 hd:A.handled=none
 dp:A.depth+3 * k+5 < recursionLimit
 un:A.units+16 * k+200 < cLine
theorem Room.mono{j k:Nat}{A:Around}(r:Room k A)(h:j≤k):Room j A:=⟨r.hd,by have:=r.dp;omega,by have:=r.un;omega⟩
theorem Room.deeper{k:Nat}{A:Around}(r:Room (k+1) A)(env:Env):Room k (A.deeper env):=
 ⟨r.hd,by have:=r.dp;show A.depth+1+3 * k+5 < _;omega,by have:=r.un;show A.units+3+16 * k+200 < _;omega⟩
theorem Zb6{A:Around}{C:Addr}{us:List Value}{kw:List (Str×Value)}:(A.under (.builtin "type.__call__" ⟨.ref C :: us,kw⟩)).depth=A.depth+1:=by
 first | rfl | simp [Around.under,Code.weight,Code.isCreation,Code.isGuard,Code.isCaller,Code.frames,Code.isFrame,guardIds]
theorem Zb5{A:Around}{C:Addr}{us:List Value}{kw:List (Str×Value)}:(A.under (.builtin "type.__call__" ⟨.ref C :: us,kw⟩)).units=A.units+1:=by
 first | rfl | simp [Around.under,Code.cUnits,Code.frames,Code.isFrame]
theorem Room.make{k:Nat}{A:Around}(r:Room (k+1) A)(C:Addr)(us:List Value)(kw:List (Str×Value)):Room k (A.under (.builtin "type.__call__" ⟨.ref C :: us,kw⟩)):=
 ⟨r.hd,by have:=r.dp;rw[Zb6];omega,by have:=r.un;rw[Zb5];omega⟩
theorem Room.depth{k:Nat}{A:Around}(r:Room k A):A.depth < recursionLimit:=by have:=r.dp;omega
theorem Room.units{k:Nat}{A:Around}(r:Room k A):A.units+64 < cLine:=by have:=r.un;omega
def Znz:TA:=fun _ H Q=>Q [] H
def Zqp(ta:TE)(tr:TA):TA:=fun σ H Q=>ta σ H fun x H1=>tr σ H1 fun xs H2=>Q (x :: xs) H2
section
variable{X:Cx}{e:Expr}{es:List Expr}{te:TE}{t:TA}{pos:Pos}
theorem Zf:PA X [] Znz:=fun _ _ _ _ H Q I h=>Calls.spliced_nil ⟨[],H,I,.nil,h⟩
theorem Za(ha:PE X e te)(hr:PA X es t)(hs:starEach (e :: es) X.env=(false,eval e X.env) :: starEach es X.env:=by rfl):PA X (e :: es) (Zqp te t):=by
 intro pos pins s σ H Q I h;rw[hs];show wpAny _ _ (spliced ((false,eval e X.env) :: backTo pos (starEach es X.env))) _ _ s;refine Calls.spliced_cons (Ub (ha pins s σ H _ I h) fun u s1 ⟨x,H1,I1,r1,q1⟩=>?_);exact Ub (hr pos pins s1 σ H1 _ I1 q1) fun us s2 ⟨xs,H2,I2,r2,q2⟩=>⟨x :: xs,H2,I2,.cons r1 r2,q2⟩
def Zsa(t:TA):TE:=fun σ H Q=>t σ H fun xs H1=>xs.length≤sizeLine∧∀ p,H1 p=none→Q (.ref p) (upd H1 p (.tup xs))
def Zse(t:TA):TE:=fun σ H Q=>t σ H fun xs H1=>xs.length≤sizeLine∧∀ p,H1 p=none→Q (.ref p) (upd H1 p (.lst xs))
theorem Uy{x1}(h:PA X es t):PE X (.Tuple es x1 pos) (Zsa t):=by
 intro pins s σ H Q I hq;refine wpAny_Tuple_spliced (Ub (h pos pins s σ H _ I hq) fun us s1 ⟨xs,H1,I1,r,z,q⟩=>⟨by rw[← r.length];exact z,?_⟩);have hf:H1 s1.heap.objs.size=none:=I1.hok.fresh (Zs _);refine⟨.ref s1.heap.objs.size,upd H1 s1.heap.objs.size (.tup xs),I1.laid (t':=s1.toks) (fun b u e=>Zh _ e) (Zs _) ?_,rfl,q _ hf⟩;exact⟨z,us,r,⟨_,Z6 _ rfl,rfl,_,rfl⟩⟩
theorem Qf(h:PA X es t):PE X (.List es pos) (Zse t):=by
 intro pins s σ H Q I hq;refine wpAny_List_spliced (Ub (h pos pins s σ H _ I hq) fun us s1 ⟨xs,H1,I1,r,z,q⟩=>⟨by rw[← r.length];exact z,?_⟩);have hf:H1 s1.heap.objs.size=none:=I1.hok.fresh (Zs _);refine⟨.ref s1.heap.objs.size,upd H1 s1.heap.objs.size (.lst xs),I1.laid (t':=s1.toks) (fun b u e=>Zh _ e) (Zs _) ?_,rfl,q _ hf⟩;exact⟨z,us,0,r,Z6 _ rfl⟩
end
abbrev Sp:=List V→Hp→VK→XK→Prop
abbrev CXT:=List Env→Hp→Shared→XK→Value→Shared→Prop
structure Env0(P:Program)(w:World)(K:W.Frag)(mg:Str→Option Value)(base:Heap)(A:Around)(outer:List Env)(s:Shared)(H:Hp):Prop where
 frames:A.frames=some outer
 mod:Mod K mg base
 bs:∀ b o,base.get? b=some o→s.heap.get? b=some o∧H b=none
 bsz:base.objs.size≤s.heap.objs.size
 funs:s.heap.FunFrames base outer
 frf:∀ b∈Rg outer,H b=none
 hok:HOk P w H s.heap
 bare:AllBare s.gens
def CE(outer:List Env)(P:Program)(w:World)(H:Hp)(s:Shared)(Q:VK)(u:Value)(s':Shared):Prop:=
 ∃ v H',s'.os=s.os∧AllBare s'.gens∧Un (Rg outer) [] H H' s.heap s'.heap∧HOk P w H' s'.heap∧RelV v u∧Q v H'
def CR(CX:CXT)(outer:List Env)(P:Program)(w:World)(H:Hp)(s:Shared)(Q:VK)(E:XK)(r:Result)(s':Shared):Prop:=
 match r with
 | .ok (.ret u)=>CE outer P w H s Q u s'
 | .ok _=>False
 | .error e=>CX outer H s E e s'
structure FnOk(P:Program)(w:World)(K:W.Frag)(mg:Str→Option Value)(base:Heap)(CX:CXT)(k:Nat)(f:Addr)(fd:FuncData)(ps:List Str)(sp:Sp):Prop where
 len:∀ vs H Q E,sp vs H Q E→vs.length=ps.length
 run:∀(A:Around) (outer:List Env) (s:Shared) (H:Hp) (args:Args) (us:List Value) (vs:List V) (Q:VK) (E:XK),Room k A→Env0 P w K mg base A outer s H→BindsTo s fd args (ps.zip us)→Vals vs us→sp vs H Q E →
  codeAny (model P w) A (.call (.ref f) args) (CR CX outer P w H s Q E) s
theorem FnOk.mono{P:Program}{w:World}{K:W.Frag}{mg:Str→Option Value}{base:Heap}{CX:CXT}{j k:Nat}{f:Addr}{fd:FuncData}{ps:List Str}{sp:Sp}(F:FnOk P w K mg base CX j f fd ps sp)(h:j≤k) :
  FnOk P w K mg base CX k f fd ps sp:=⟨F.len,fun A outer s H args us vs Q E hr=>F.run A outer s H args us vs Q E (hr.mono h)⟩
theorem FnOk.imp{P:Program}{w:World}{K:W.Frag}{mg:Str→Option Value}{base:Heap}{CX:CXT}{k:Nat}{f:Addr}{fd:FuncData}{ps:List Str}{sp sp':Sp}(F:FnOk P w K mg base CX k f fd ps sp)
  (h:∀ vs H Q E,sp' vs H Q E→sp vs H Q E):FnOk P w K mg base CX k f fd ps sp':=
 ⟨fun vs H Q E q=>F.len vs H Q E (h _ _ _ _ q),fun A outer s H args us vs Q E hr he hb hv hs=>F.run A outer s H args us vs Q E hr he hb hv (h _ _ _ _ hs)⟩
theorem Env0.make{P:Program}{w:World}{K:W.Frag}{mg:Str→Option Value}{base:Heap}{A:Around}{outer:List Env}{s:Shared}{H:Hp}(e:Env0 P w K mg base A outer s H)(C:Addr)(us:List Value)(kw:List (Str×Value)) :
  Env0 P w K mg base (A.under (.builtin "type.__call__" ⟨.ref C :: us,kw⟩)) outer s H:=⟨by first | exact e.frames | (simpa [Around.under,Code.envs,Code.isFrame,pushEnvs] using e.frames),e.mod,e.bs,e.bsz,e.funs,e.frf,e.hok,e.bare⟩
section
variable{X:Cx}{pins:List (Addr×Obj)}{σ:St}{H:Hp}{s s':Shared}
theorem Inv.env0(I:Inv X pins σ H s):Env0 X.prog X.w X.K X.mg X.base X.A X.stack s H:=
 ⟨I.ok.frames,I.ok.mod,I.bs,Jd I.ok.bsz I.sz,I.stack,I.stkFree,I.hok,I.bare⟩
theorem Inv.after{Q:VK}{u:Value}(I:Inv X pins σ H s)(h:CE X.stack X.prog X.w H s Q u s'):EP X pins σ Q u s':=by
 obtain⟨v,H',os,bare,un,hok,r,q⟩:=h;obtain⟨hh,g,d,t,os'⟩:=s';obtain rfl:os'=s.os:=os;exact⟨v,H',I.call (h':=hh) (g':=g) (d':=d) (t':=t) (ch:=[]) un hok bare (fun b z=>absurd z (by simp)),r,q⟩
end
def Znd(sp:Sp)(dvs:List V)(E:XK)(t:TA):TE:=fun σ H Q=>t σ H fun vs H1=>sp (vs++dvs) H1 Q E
def Zna(C:Addr)(m:Str)(sp:Sp)(dvs:List V)(E:XK)(ta:TE)(t:TA):TE:=fun σ H Q=>ta σ H fun x H1=>∃ a dx fs,x = .ref a∧H1 a=some (.ins C dx fs)∧fs.lookup m=none ∧
 t σ H1 fun vs H2=>sp (x :: (vs++dvs)) H2 Q E
def Zqm(C:Addr)(sp:Sp)(dvs:List V)(E:XK)(t:TA):TE:=fun σ H Q=>t σ H fun vs H1=>∀ x dx,H1 x=none→H1 dx=none→dx≠x →
 sp (.ref x :: (vs++dvs)) (upd (upd H1 dx (.own x)) x (.ins C dx [])) (fun v H2=>v = .non∧Q (.ref x) H2) E
def Binds(K:W.Frag)(fd:FuncData)(ps:List Str)(ds:List Value):Prop:=
 ∀(s:Shared) (us:List Value),K.In s.heap→(us++ds).length=ps.length→BindsTo s fd ⟨us,[]⟩ (ps.zip (us++ds))
theorem Binds.all{K:W.Frag}{fd:FuncData}{ps:List Str}(h:∀ us:List Value,us.length=ps.length→bindArgs fd ⟨us,[]⟩=pure (ps.zip us)):Binds K fd ps []:=fun s us _ hl=>by
 rw[J9] at hl ⊢;exact .of_eq (h us hl)
def Eb(CX:CXT)(X:Cx)(E:XK):Prop:=∀(pins:List (Addr×Obj)) (σ:St) (H:Hp) (s:Shared) (e:Value) (s':Shared),Inv X pins σ H s→CX X.stack H s E e s'→X.xe e s'
section
variable{X:Cx}{CX:CXT}{k:Nat}{f C:Addr}{fd:FuncData}{ps:List Str}{sp:Sp}{dvs:List V}{ds:List Value}{E:XK}{x m:Str}{p pos apos:Pos}{e o:Expr}{es:List Expr}{ta:TE}{t:TA}
theorem Tn{pins:List (Addr×Obj)}{σ:St}{H:Hp}{s:Shared}{Q:VK}{us:List Value}{vs:List V}(F:FnOk X.prog X.w X.K X.mg X.base CX k f fd ps sp)(hr:Room k X.A)(hb:Binds X.K fd ps ds)(hd:Vals dvs ds)(hx:Eb CX X E)
  (I:Inv X pins σ H s) (r:Vals vs us) (h:sp (vs++dvs) H Q E):wpAny (model X.prog X.w) X.A (call (.ref f) us) (EP X pins σ Q) X.xe s:=by
 have r2:Vals (vs++dvs) (us++ds):=r.append hd;have hl:(us++ds).length=ps.length:=by rw[← r2.length];exact F.len _ _ _ _ h
 refine wpAny_call (codeAny_mono (F.run X.A X.stack s H ⟨us,[]⟩ (us++ds) (vs++dvs) Q E hr I.env0 (hb s us I.kIn hl) r2 h) fun r s' hq=>?_);cases r with
 | error e=>exact hx pins σ H s e s' I hq
 | ok fl=>
  cases fl with
  | ret u=>exact I.after hq
  | next=>exact False.elim hq
  | brk=>exact False.elim hq
  | cont=>exact False.elim hq
theorem Z0(F:FnOk X.prog X.w X.K X.mg X.base CX k f fd ps sp)(hr:Room k X.A)(hg:Gl X x)(hm:X.mg x=some (.ref f))(hk:W.keepIn X.K (.ref f)=true)(hb:Binds X.K fd ps ds)(hd:Vals dvs ds)(hx:Eb CX X E)
  (ha:PA X (e :: es) t) (hdb:(x == ("__debug__":Str))=false:=by decide) (he:starEach (e :: es) X.env=(false,eval e X.env) :: starEach es X.env:=by rfl) (hpl:(backTo pos (starEach es X.env)).any (·.1)=false:=by rfl) :
  PE X (.Call (.Name x p) (e :: es) [] pos) (Znd sp dvs E t):=by
 intro pins s σ H Q I h;refine wpAny_Call_Name_kw (Eg I hg hm ?_ hdb);refine W.callWith_K (h₀:=X.base) I.ok.mod.kin hk (Ub (ha pos pins s σ H _ I h) fun us s1 ⟨vs,H1,I1,r,q⟩=>⟨I1.kIn,?_⟩) he hpl;exact Tn F hr hb hd hx I1 r q
theorem Uf{pl:Sem Bool}(he:PE X o ta)(c:Cls X.K C)(hm:Meth X.K C m f)(F:FnOk X.prog X.w X.K X.mg X.base CX k f fd ps sp)(hr:Room k X.A)(hb:Binds X.K fd ps ds)(hd:Vals dvs ds)(hx:Eb CX X E)(ha:PA X (e :: es) t)
  (hst:starEach (e :: es) X.env=(false,eval e X.env) :: starEach es X.env:=by rfl) (hpl:(backTo pos (starEach es X.env)).any (·.1)=false:=by rfl)
  (ht:eval (.Call (.Attribute o m apos) (e :: es) [] pos) X.env=(do
   let ov ← eval o X.env
   standAt apos.atName
   let (f,first) ← holding [ov] (getMethod ov m pl)
   callWith pos f first (backTo pos (starEach (e :: es) X.env)) (backToKw pos (keywordEach [] X.env))):=by rfl) :
  PE X (.Call (.Attribute o m apos) (e :: es) [] pos) (Zna C m sp dvs E ta t):=by
 intro pins s σ H Q I h;refine W.methodCall_KW (pl:=pl) (Ub (he pins s σ H _ I h) fun u s1 ⟨x,H1,I1,rx,a,dx,fs,ex,ea,l,q⟩=>?_) ht;subst ex;obtain rfl:u=Value.ref a:=rx;refine Na I1 ea c hm l ?_;refine W.callWith_K (first:=[.ref a]) (h₀:=X.base) I.ok.mod.kin hm.kp (Ub (ha pos pins s1 σ H1 _ I1 q) fun us s2 ⟨vs,H2,I2,r,q2⟩=>⟨I2.kIn,?_⟩) hst hpl;exact Tn (us:=.ref a :: us) (vs:=.ref a :: vs) F hr hb hd hx I2 (.cons rfl r) q2
theorem Vg{pl:Sem Bool}(he:PE X o ta)(c:Cls X.K C)(hm:Meth X.K C m f)(F:FnOk X.prog X.w X.K X.mg X.base CX k f fd ps sp)(hr:Room k X.A)(hb:Binds X.K fd ps ds)(hd:Vals dvs ds)(hx:Eb CX X E)
  (ht:eval (.Call (.Attribute o m apos) [] [] pos) X.env=(do
   let ov ← eval o X.env
   standAt apos.atName
   let (f,first) ← holding [ov] (getMethod ov m pl)
   callWith pos f first (backTo pos (starEach [] X.env)) (backToKw pos (keywordEach [] X.env))):=by rfl) :
  PE X (.Call (.Attribute o m apos) [] [] pos) (Zna C m sp dvs E ta Znz):=by
 intro pins s σ H Q I h;refine W.methodCall_KW (pl:=pl) (Ub (he pins s σ H _ I h) fun u s1 ⟨x,H1,I1,rx,a,dx,fs,ex,ea,l,q⟩=>?_) ht;subst ex;obtain rfl:u=Value.ref a:=rx;refine Na I1 ea c hm l ?_;exact W.callWith_K0 (first:=[.ref a]) I1.kIn hm.kp (Tn (us:=[.ref a]) (vs:=[.ref a]) F hr hb hd hx I1 (.cons rfl .nil) q)
structure Mk(K:W.Frag)(C f:Addr):Prop where
 makes:W.makesIn K C=true
 init:W.findIn K (.ref C) "__init__" = some (some (.ref f))
 fn:W.isFn K (.ref f)=true
 kp:W.keepIn K (.ref C)=true
theorem Zhz{pins:List (Addr×Obj)}{σ:St}{H:Hp}{s:Shared}{Q:VK}{us:List Value}{vs:List V}(M:Mk X.K C f)(F:FnOk X.prog X.w X.K X.mg X.base CX k f fd ps sp)(hr:Room (k+1) X.A)(hb:Binds X.K fd ps ds)(hd:Vals dvs ds)
  (hx:Eb CX X E) (I:Inv X pins σ H s) (r:Vals vs us)
  (h:∀ x dx,H x=none→H dx=none→dx≠x→sp (.ref x :: (vs++dvs)) (upd (upd H dx (.own x)) x (.ins C dx [])) (fun v H2=>v = .non∧Q (.ref x) H2) E) :
  wpAny (model X.prog X.w) X.A (call (.ref C) us) (EP X pins σ Q) X.xe s:=by
 have hq:=h (s.heap.objs.size+1) s.heap.objs.size (I.hok.fresh (Nat.le_succ _)) (I.hok.fresh (Zs _)) (Jh (Xl _));have I2:=Inv.made (C:=C) I;have r2:Vals (V.ref (s.heap.objs.size+1) :: (vs++dvs)) (Value.ref (s.heap.objs.size+1) :: (us++ds)):=.cons rfl (r.append hd);have hl:(Value.ref (s.heap.objs.size+1) :: us++ds).length=ps.length:=by
  have e:=r2.length;rw[F.len _ _ _ _ hq] at e;exact e.symm
 refine wpAny_call (Zjx (f:=f) I.kIn M.makes M.init (beq_iff_eq.mp M.fn) (codeAny_mono (F.run _ X.stack _ _ ⟨Value.ref (s.heap.objs.size+1) :: us,[]⟩ (Value.ref (s.heap.objs.size+1) :: (us++ds)) _ _ E (hr.make C us [])
  (I2.env0.make C us []) (hb _ (Value.ref (s.heap.objs.size+1) :: us) I2.kIn hl) r2 hq) fun r s' hq'=>?_))
 cases r with
 | error e=>exact hx pins σ _ _ e s' I2 hq'
 | ok fl=>
  cases fl with
  | ret u=>
   obtain⟨v,H',I3,rv,ev,q3⟩:=I2.after hq';subst ev;exact⟨rv,⟨V.ref (s.heap.objs.size+1),H',I3,rfl,q3⟩⟩
  | next=>exact False.elim hq'
  | brk=>exact False.elim hq'
  | cont=>exact False.elim hq'
theorem E6(M:Mk X.K C f)(F:FnOk X.prog X.w X.K X.mg X.base CX k f fd ps sp)(hr:Room (k+1) X.A)(hg:Gl X x)(hm:X.mg x=some (.ref C))(hb:Binds X.K fd ps ds)(hd:Vals dvs ds)(hx:Eb CX X E)
  (ha:PA X (e :: es) t) (hdb:(x == ("__debug__":Str))=false:=by decide) (he:starEach (e :: es) X.env=(false,eval e X.env) :: starEach es X.env:=by rfl) (hpl:(backTo pos (starEach es X.env)).any (·.1)=false:=by rfl) :
  PE X (.Call (.Name x p) (e :: es) [] pos) (Zqm C sp dvs E t):=by
 intro pins s σ H Q I h;refine wpAny_Call_Name_kw (Eg I hg hm ?_ hdb);refine W.callWith_K (h₀:=X.base) I.ok.mod.kin M.kp (Ub (ha pos pins s σ H _ I h) fun us s1 ⟨vs,H1,I1,r,q⟩=>⟨I1.kIn,?_⟩) he hpl;exact Zhz M F hr hb hd hx I1 r q
end
section
variable{X:Cx}{CX:CXT}{k:Nat}{f C:Addr}{fd:FuncData}{ps ks:List Str}{sp:Sp}{E:XK}{x m:Str}{p pos apos kpos:Pos}{e o:Expr}{es:List Expr}{kws:List Keyword}{te ta:TE}{t tk:TA}{nm:Option Str}
variable{g:List Value→List Value→List Value}{gV:List V→List V→List V}
end
structure FnScope(N P:List Str)(sc:Scope):Prop where
 kind:sc.kind = .function
 co:sc.isCoroutine=false
 gen:sc.isGenerator=false
 nd:N.Nodup
 pre:N.take P.length=P
 par:∀ x∈P,sc.names.lookup x=some .local∨sc.names.lookup x=some .cell
 nofree:∀ y∈sc.names,y.2 ≠ .free
theorem Uw {N P:List Str}{sc:Scope}(h:N.Nodup ∧ (∀ x ∈ P,sc.names.lookup x=some .local ∨ sc.names.lookup x=some .cell) ∧ ∀ y ∈ sc.names,y.2≠.free)(k:sc.kind=.function:=by rfl)(co:sc.isCoroutine=false:=by rfl)(gen:sc.isGenerator=false:=by rfl)(pre:N.take P.length=P:=by rfl):FnScope N P sc:=⟨k,co,gen,h.1,pre,h.2.1,h.2.2⟩
theorem D0{kindOf:Str→Option NameKind}{x:Str}:∀{binds:List (Str×Value)} {m:Str→Option Value},(∀ v,(x,v)∉binds)→bindL kindOf binds m x=m x
 | [],_,_=>rfl
 | (n,v) :: r,m,h=>by
  unfold bindL;rw[D0 fun w hw=>h w (Zx _ hw)];split
  ·have:x≠n:=by rintro rfl;exact h v Zw
   simp [this]
  ·rfl
theorem D2{kindOf:Str→Option NameKind}{x:Str}:∀{binds:List (Str×Value)} {m:Str→Option Value},(∀ v,(x,v)∉binds)→bindC kindOf binds m x=m x
 | [],_,_=>rfl
 | (n,v) :: r,m,h=>by
  unfold bindC;rw[D2 fun w hw=>h w (Zx _ hw)];split
  ·rfl
  ·have:x≠n:=by rintro rfl;exact h v Zw
   simp [this]
theorem D1{kindOf:Str→Option NameKind}{x:Str}{v:Value}:∀{P:List Str} {vs:List Value} {i:Nat} {m:Str→Option Value},P.Nodup→P[i]? = some x→vs[i]? = some v→kindOf x=some .local →
  bindL kindOf (P.zip vs) m x=some v
 | [],_,_,_,_,h,_,_=>by simp at h
 | _ :: _,[],_,_,_,_,h,_=>by simp at h
 | p :: P,w :: vs,0,m,nd,h1,h2,hk=>by
  simp at h1 h2;subst h1;subst h2;show bindL kindOf ((p,w) :: P.zip vs) m p=_;unfold bindL;rw[D0 fun v hv=>(List.nodup_cons.mp nd).1 (List.of_mem_zip hv).1,Zv hk];simp
 | p :: P,w :: vs,i+1,m,nd,h1,h2,hk=>by
  show bindL kindOf ((p,w) :: P.zip vs) m x=_;unfold bindL;exact D1 (i:=i) (List.nodup_cons.mp nd).2 (by simpa using h1) (by simpa using h2) hk
theorem D4{kindOf:Str→Option NameKind}{x:Str}{v:Value}:∀{P:List Str} {vs:List Value} {i:Nat} {m:Str→Option Value},P.Nodup→P[i]? = some x→vs[i]? = some v→kindOf x≠some .local →
  bindC kindOf (P.zip vs) m x=some v
 | [],_,_,_,_,h,_,_=>by simp at h
 | _ :: _,[],_,_,_,_,h,_=>by simp at h
 | p :: P,w :: vs,0,m,nd,h1,h2,hk=>by
  simp at h1 h2;subst h1;subst h2;show bindC kindOf ((p,w) :: P.zip vs) m p=_;unfold bindC;rw[D2 fun v hv=>(List.nodup_cons.mp nd).1 (List.of_mem_zip hv).1,Zj hk];simp
 | p :: P,w :: vs,i+1,m,nd,h1,h2,hk=>by
  show bindC kindOf ((p,w) :: P.zip vs) m x=_;unfold bindC;exact D4 (i:=i) (List.nodup_cons.mp nd).2 (by simpa using h1) (by simpa using h2) hk
def start(N:List Str)(vs:List V):St:=vs.map some++List.replicate (N.length - vs.length) none
def Nb(CX:CXT)(P:Program)(w:World)(K:W.Frag)(mg:Str→Option Value)(base:Heap)(N:List Str)(qual:Str)(scope:Scope)(f:Addr)(cd:Value)(A:Around)(outer:List Env)(s:Shared)(H:Hp)(E:XK):Cx where
 prog:=P
 w:=w
 K:=K
 mg:=mg
 base:=base
 A:=A.deeper (envOfC qual scope s.heap.objs.size f cd)
 N:=N
 s₀:=s
 H₀:=H
 env:=envOfC qual scope s.heap.objs.size f cd
 outer:=outer
 stack:=envOfC qual scope s.heap.objs.size f cd :: outer
 ex:=[]
 calm:=true
 fn:=fun _=>true
 pn:=[]
 xe:=fun e s'=>wpAny (model P w) (A.deeper (envOfC qual scope s.heap.objs.size f cd)) (leaving (envOfC qual scope s.heap.objs.size f cd) e) (fun _ s''=>CX outer H s E e s'') (fun e' s''=>CX outer H s E e' s'') s'
theorem Zae{sc:Scope}{n:Nat}{x:Str}(h:sc.names.lookup x=some .cell):∃ c,(cellsFrom n sc.names []).lookup x=some c:=by
 have q:=W.cellsFrom_some sc.names n [] (.inl h);exact Option.isSome_iff_exists.mp q
theorem Zfz{CX:CXT}{P:Program}{w:World}{K:W.Frag}{mg:Str→Option Value}{base:Heap}{N ps:List Str}{qual:Str}{scope:Scope}{f:Addr}{cd:Value}{A:Around}{outer:List Env}{s s1:Shared}{H:Hp}{E:XK}{us:List Value}{vs:List V}
  (S:FnScope N ps scope) (hd:A.handled=none) (e0:Env0 P w K mg base A outer s H) (hl:vs.length=ps.length) (r:Vals vs us)
  (x:InCallC s s.heap.objs.size (bindL (envOfC qual scope s.heap.objs.size f cd).kindOf (ps.zip us) fun _=>none) (cellsFrom (s.heap.objs.size+1) scope.names []) (bindC (envOfC qual scope s.heap.objs.size f cd).kindOf (ps.zip us) fun _=>none) s1) :
  Inv (Nb CX P w K mg base N qual scope f cd A outer s H E) [] (start N vs) H s1:=by
 have hpl:ps.length≤N.length:=by have:=congrArg List.length S.pre;rw[Xm] at this;omega
 obtain⟨h1,tk,rfl,hk⟩:=x.done;have noA:∀ b:Addr,b∉(Nb CX P w K mg base N qual scope f cd A outer s H E).ex:=fun b z=>absurd (show b∈([]:List Addr) from z) (by simp);refine⟨⟨e0.mod,S.kind,rfl,rfl,Zs _,fun y z c h1 h2=>?_,fun y hy=>?_,fun y c _ h=>?_,fun _=>hd,Around.frames_deeper e0.frames,.inr ⟨rfl,rfl⟩,fun b z=>absurd z (noA b),e0.bs,e0.bsz,fun b _ _=>noA b,fun b z=>absurd z (noA b),e0.funs,e0.frf⟩,
  rfl,e0.bare,Un.kept hk,⟨_,x.toInCall.ns,fun i y v h1 h2 h3=>?_⟩,fun y c h=>⟨_,x.cell y c h⟩,e0.hok.fresh (Zs _),fun y c h=>?_,fun p hp=>absurd (show p∈([]:List (Addr×Obj)) from hp) (by simp),e0.hok.kept hk,?_⟩
 ·exact name_of_addr x.apart (PySem.mem_of_lookup h1) (PySem.mem_of_lookup h2)
 ·have hy:scope.names.lookup y=some .cell∨scope.names.lookup y=some .free:=hy
  rcases hy with hy | hy
  ·exact Zae hy
  ·exact absurd rfl (S.nofree _ (PySem.mem_of_lookup hy))
 ·exact Ui (x.above y c (PySem.mem_of_lookup h))
 ·have hi:i < vs.length:=by
   unfold start at h2;by_cases hi:i < vs.length
   ·exact hi
   ·rw[Xh (by simpa using hi)] at h2
    rw[List.getElem?_replicate] at h2;split at h2<;>cases h2
  have ha:vs[i]? = some v:=by
   unfold start at h2;rw[Xp (by simpa using hi),Z4] at h2;cases e:vs[i]? with
   | none=>rw[e] at h2;cases h2
   | some a=>rw[e] at h2;cases h2;rfl
  obtain⟨u,hu,rv⟩:=r.get ha;have hp:ps[i]? = some y:=by
   rw[← S.pre,List.getElem?_take_of_lt (by omega)];exact h1
  have ndP:ps.Nodup:=by rw[← S.pre];exact S.nd.sublist (List.take_sublist _ _)
  refine⟨u,rv,?_⟩;rcases S.par y (Zl hp) with k | k
  ·exact .inl ⟨k,D1 ndP hp hu k⟩
  ·obtain⟨c,e⟩:=Zae (n:=s.heap.objs.size+1) k
   refine .inr ⟨.inl k,c,e,?_⟩;have q:=x.cell y c e;rw[D4 ndP hp hu (by show scope.names.lookup y≠_;rw[k];decide)] at q;exact q
 ·exact e0.hok.fresh (Ui (x.above y c (PySem.mem_of_lookup h)))
 ·unfold start
  show _=N.length;rw[Jc,Zk,List.length_replicate];omega
theorem Zkb{CX:CXT}{P:Program}{w:World}{K:W.Frag}{mg:Str→Option Value}{base:Heap}{k:Nat}{f:Addr}{name qual:Str}{params:Arguments}{body:List Stmt}{scope:Scope}{dV kV doc pm cdv ct oc:Value}{an od:Option Addr}
  {osl:Array (Option Value)} {N ps:List Str} {sp:Sp} (lk:K.lookup f=some ⟨oc,od,.func (W.fnOf name qual params body scope dV kV doc pm an cdv ct),osl⟩) (hcd:W.codeIn K cdv qual=true) (S:FnScope N ps scope)
  (len:∀ vs H Q E,sp vs H Q E→vs.length=ps.length)
  (hbody:∀(A:Around) (outer:List Env) (s:Shared) (H:Hp) (vs:List V) (Q:VK) (E:XK),Room k (A.deeper (envOfC qual scope s.heap.objs.size f cdv))→sp vs H Q E →
   ∃ t,PSs (Nb CX P w K mg base N qual scope f cdv A outer s H E) body t∧t { nx:=fun _ H'=>Q .non H',rt:=Q } (start N vs) H) :
  FnOk P w K mg base CX (k+1) f (W.fnOf name qual params body scope dV kV doc pm an cdv ct) ps sp:=by
 refine⟨len,fun A outer s H args us vs Q E hr e0 hb r hsp=>?_⟩;have hl:=len _ _ _ _ hsp;have KX:K.In s.heap:=e0.mod.kin.keeps fun b o e=>(e0.bs b o e).1;have lim:s.heap.NoLimit:=e0.mod.nolimit.keeps fun b o e=>(e0.bs b o e).1;have hkind:∀ y∈ps.zip us,scope.names.lookup y.1=some .local∨(scope.names.lookup y.1=some .cell∧((cellsFrom (s.heap.objs.size+1) scope.names []).lookup y.1).isSome=true):=fun⟨n,v⟩ hy=>by
  rcases S.par n (List.of_mem_zip hy).1 with q | q
  ·exact .inl q
  ·exact .inr ⟨q,W.cellsFrom_some _ _ _ (.inl q)⟩
 refine codeAny_call_function hr.depth (KX _ _ lk) rfl S.co S.gen rfl (W.codeRec_of KX hcd) (hb _ _ _ _ ?_);refine wpAny_newFunctionEnv_cells S.kind hkind fun env he s1 x=>?_;subst he;refine⟨lim.keeps x.toInCall.keep,codeAny_func ?_⟩;obtain⟨t,ht,hq⟩:=hbody A outer s H vs Q E (hr.deeper _) hsp;have I:Inv (Nb CX P w K mg base N qual scope f cdv A outer s H E) [] (start N vs) H s1:=Zfz S hr.hd e0 hl r x;refine wpAny_mono (ht [] s1 (start N vs) H _ I hq) (fun fl s' hs=>?_) fun e s' hs=>hs;have fin:∀{σ':St} {H':Hp} {v:V} {u:Value},Inv (Nb CX P w K mg base N qual scope f cdv A outer s H E) [] σ' H' s'→RelV v u→Q v H'→CE outer P w H s Q u s':=
  fun {σ' H' v u} J rv q=>⟨v,H',J.os,J.bare,J.base,J.hok,rv,q⟩
 cases fl with
 | ret u=>
  obtain⟨v,σ',H',J,rv,q⟩:=hs;exact fin J rv q
 | next=>
  obtain⟨σ',H',J,q⟩:=hs;exact fin (v:=V.non) (u:=Value.none) J rfl q
 | brk=>
  obtain⟨_,_,_,q⟩:=hs;exact False.elim q
 | cont=>
  obtain⟨_,_,_,q⟩:=hs;exact False.elim q
section
variable{X:Cx}{x:Str}{p pos:Pos}{e:Expr}{es:List Expr}{t:TA}{id T:String}{r:List V→Hp→VK→Prop}
def tCB(r:List V→Hp→VK→Prop)(t:TA):TE:=fun σ H Q=>t σ H fun vs H1=>r vs H1 Q
theorem Jk(hc:Xw X (.builtin id) r)(hg:Gl X x)(hm:X.mg x=none)(hv:bootBuiltins x=some (.builtin id))(ha:PA X (e :: es) t)(hn:x≠"__name__":=by decide)(hdb:(x == ("__debug__":Str))=false:=by decide)
  (he:starEach (e :: es) X.env=(false,eval e X.env) :: starEach es X.env:=by rfl) (hpl:(backTo pos (starEach es X.env)).any (·.1)=false:=by rfl):PE X (.Call (.Name x p) (e :: es) [] pos) (tCB r t):=by
 intro pins s σ H Q I h;refine wpAny_Call_Name_kw (Md I hg hm hv ?_ hn hdb);exact PyProof.Rows.callWith_builtin1 (Ub (ha pos pins s σ H _ I h) fun us s1 ⟨vs,H1,I1,r1,q1⟩=>hc pins s1 σ H1 vs us Q I1 r1 q1) he hpl
theorem Yz(hc:Xw X (.type T) r)(hg:Gl X x)(hm:X.mg x=none)(hv:bootBuiltins x=some (.type T))(ha:PA X (e :: es) t)(hn:x≠"__name__":=by decide)(hdb:(x == ("__debug__":Str))=false:=by decide)
  (he:starEach (e :: es) X.env=(false,eval e X.env) :: starEach es X.env:=by rfl) (hpl:(backTo pos (starEach es X.env)).any (·.1)=false:=by rfl):PE X (.Call (.Name x p) (e :: es) [] pos) (tCB r t):=by
 intro pins s σ H Q I h;refine wpAny_Call_Name_kw (Md I hg hm hv ?_ hn hdb);exact PyProof.Rows.callWith_type1 (Ub (ha pos pins s σ H _ I h) fun us s1 ⟨vs,H1,I1,r1,q1⟩=>hc pins s1 σ H1 vs us Q I1 r1 q1) he hpl
end
end L2
namespace HT
open PySem PyProof.Rows
section
open PySem.SeqAt
open PySem.AutoSeq1 (wpAny_loadPart')
open PySem.MeetsSeq PySem.MeetsSeq2 PySem.MeetsSeq3
end
section
variable{prog:Program}{w:World}{A:Around}{E:Value→Shared→Prop}{s:Shared}
theorem cat_tup{t b:Addr}{vs ws:List Value}{Q:Value→Shared→Prop}(ht:IsTup s.heap t vs.toArray)(hb:IsTup s.heap b ws.toArray)(hv:vs≠[])
  (h1:ws=[]→Q (.ref t) s) (h2:ws≠[]→Q (.ref s.heap.objs.size) { s with heap:=s.heap.push { cls:=.type "tuple",data:=.seq (vs++ws).toArray } })
  (hsz:vs.length+ws.length≤sizeLine):wpAny (model prog w) A (binaryOp .Add (.ref t) (.ref b)) Q E s:=by
 obtain⟨⟨cls,dd,data,sl⟩,ho,hc,n,hd⟩:=id ht;obtain⟨⟨cls2,dd2,data2,sl2⟩,ho2,hc2,n2,hd2⟩:=id hb;simp only at hc hd hc2 hd2;subst hc hd hc2 hd2;have e:vs.toArray++ws.toArray=(vs++ws).toArray:=by simp
 by_cases hw:ws=[]
 ·exact concat_meets ⟨_,ho,rfl⟩ ⟨_,ho2,rfl⟩ noFill_tuple_add seq_tuple_add PySem.F.slot_tuple_add PySem.F.entry_tuple_add (PySem.F.args_tuple_add_2 _ _)
   (tuple_addW1 t b vs.toArray ws.toArray n n2 dd dd2 sl sl2 (by simpa using hv) (by simp [hw])) ⟨ho,ho2,h1 hw⟩
 ·refine concat_meets ⟨_,ho,rfl⟩ ⟨_,ho2,rfl⟩ noFill_tuple_add seq_tuple_add PySem.F.slot_tuple_add PySem.F.entry_tuple_add (PySem.F.args_tuple_add_2 _ _)
   (tuple_addW2 t b vs.toArray ws.toArray n n2 dd dd2 sl sl2 (by simpa using hv) (by simpa using hw) (by rw[Z1,Z1];exact hsz)) ⟨ho,ho2,?_⟩
  rw[e];exact h2 hw
def sIx(n d:Nat):Option Int→Nat
 | none=>d
 | some v=>if v < 0 then(v+(n:Int)).toNat else min v.toNat n
theorem sIx_nat(n d k:Nat):sIx n d (some (k:Int))=min k n:=by
 show(if(k:Int) < 0 then((k:Int)+(n:Int)).toNat else min (k:Int).toNat n)=min k n;rw[Zj (by omega),Z2]
end
end HT
namespace L2
open PySem PySem.Spec PyProof.Rows
abbrev TO:=St→Hp→(Option Int→Hp→Prop)→Prop
def PO(X:Cx)(e:Option Expr)(t:TO):Prop:=
 ∀(pins:List (Addr×Obj)) (s:Shared) (σ:St) (H:Hp) (Q:Option Int→Hp→Prop),Inv X pins σ H s→t σ H Q →
  wpAny (model X.prog X.w) X.A (evalPart e X.env) (fun u s'=>∃ o H',Inv X pins σ H' s'∧IsPart u o∧Q o H') X.xe s
def Zkz:TO:=fun _ H Q=>Q none H
def Zqk(t:TE):TO:=fun σ H Q=>t σ H fun x H1=>∃ i,x = .int i∧Q (some i) H1
theorem Qh{ns:List Int}:∀{us:List Value},Vals (ns.map V.int) us→IntsAre us ns:=by
 induction ns with
 | nil=>intro us r;rw[List.map_nil] at r;cases r;exact .nil
 | cons n ns ih=>
  intro us r;rw[List.map_cons] at r;cases r with
  | cons r1 r2=>
   obtain⟨t,e⟩:=r1;subst e;exact .cons n t (ih r2)
section
variable{X:Cx}{e:Expr}{te:TE}{lo hi:Option Expr}{tl th:TO}{pos p2:Pos}
theorem Zll:PO X none Zkz:=by
 intro pins s σ H Q I h;rw[evalPart_none];exact Ze ⟨none,H,I,.none,h⟩
theorem E5(h:PE X e te):PO X (some e) (Zqk te):=by
 intro pins s σ H Q I hw;rw[evalPart_some];refine Ub (h pins s σ H _ I hw) fun u s1 ⟨x,H1,I1,r1,q1⟩=>?_;obtain⟨i,rfl,q⟩:=q1;obtain⟨t,rfl⟩:=r1;exact⟨some i,H1,I1,.int i t,q⟩
def SlR(X:Cx)(r:V→Option Int→Option Int→Hp→VK→Prop):Prop:=
 ∀(pins:List (Addr×Obj)) (s:Shared) (σ:St) (H:Hp) (x:V) (v vl vu:Value) (lo hi:Option Int) (sl:Addr) (Q:VK),Inv X pins σ H s→RelV x v→s.heap.IsSliceOf sl vl vu .none→IsPart vl lo→IsPart vu hi→r x lo hi H Q →
  ∃ T id,typeLookup (.type T) "__getitem__" = pure (some (.builtin id))∧s.TypeIs v T∧wpAny (model X.prog X.w) X.A (getItem v (.ref sl)) (EP X pins σ Q) X.xe s
def tSl(r:V→Option Int→Option Int→Hp→VK→Prop)(te:TE)(tl th:TO):TE:=fun σ H Q=>te σ H fun x H1=>tl σ H1 fun l H2=>th σ H2 fun u H3=>r x l u H3 Q
theorem K0{r:V→Option Int→Option Int→Hp→VK→Prop}(hr:SlR X r)(he:PE X e te)(hl:PO X lo tl)(hu:PO X hi th):PE X (.Subscript e (.Slice lo hi none p2) pos) (tSl r te tl th):=by
 intro pins s σ H Q I h;refine Subscript_ (Ub (he pins s σ H _ I h) fun v s1 ⟨x,H1,I1,r1,q1⟩=>?_);refine wpAny_Slice (Ub (hl pins s1 σ H1 _ I1 q1) fun vl s2 ⟨l,H2,I2,pl,q2⟩=>Ub (hu pins s2 σ H2 _ I2 q2) fun vu s3 ⟨u,H3,I3,pu,q3⟩=>?_);rw[evalPart_none];refine Ze ?_;have I4:Inv X pins σ H3 { s3 with heap:=s3.heap.push { cls:=.type "slice",data:=.fields #[vl,vu,.none] } }:=I3.kept (t':=s3.toks) fun b ob q=>Zh _ q;obtain⟨T,id,hT,ht,hg⟩:=hr pins { s3 with heap:=s3.heap.push { cls:=.type "slice",data:=.fields #[vl,vu,.none] } } σ H3 x v vl vu l u s3.heap.objs.size Q I4 r1 (Heap.IsSliceOf.new ..) pl pu q3;show wpAny (model X.prog X.w) X.A (subscriptTail e (.Slice lo hi none p2) v (.ref s3.heap.objs.size)) (EP X pins σ Q) X.xe { s3 with heap:=s3.heap.push { cls:=.type "slice",data:=.fields #[vl,vu,.none] } };exact tail_any (ops:=[.ref s3.heap.objs.size,v]) ht hT hg (by with_unfolding_all rfl)
def A6(xs:List V)(lo hi:Option Int):List V:=(xs.drop (HT.sIx xs.length 0 lo)).take (HT.sIx xs.length xs.length hi - HT.sIx xs.length 0 lo)
theorem Zaa(xs:List V)(lo hi:Option Int):(A6 xs lo hi).length≤xs.length:=by
 unfold A6;rw[Xm,List.length_drop];omega
def Zq8(K:W.Frag):R2:=fun x y H Q=>∃ a b xs ys,x = .ref a∧y = .ref b∧SqT K H a xs∧SqT K H b ys∧xs≠[]∧xs.length+ys.length≤sizeLine ∧
 (ys=[]→Q (.ref a) H)∧(ys≠[]→∀ p,H p=none→Q (.ref p) (upd H p (.tup (xs++ys))))
theorem Vals.nil_iff{xs:List V}{us:List Value}(r:Vals xs us):us=[]↔xs=[]:=by
 cases r with
 | nil=>simp
 | cons _ _=>simp
theorem Zlt:Nf X (binaryOp .Add) (Zq8 X.K):=by
 intro pins s σ H x y v u Q I rx ry h;obtain⟨a,b,xs,ys,rfl,rfl,ha,hb,hx,hz,q1,q2⟩:=h;cases rx;cases ry;obtain⟨its,r1,p1,_⟩:=I.tuple ha;obtain⟨its2,r2,p2,_⟩:=I.tuple hb;refine HT.cat_tup p1 p2 (fun z=>hx (r1.nil_iff.mp z)) (fun z=>⟨.ref a,H,I,rfl,q1 (r2.nil_iff.mp z)⟩) (fun z=>?_) (by rw[← r1.length,← r2.length];exact hz);refine⟨.ref s.heap.objs.size,_,I.laid (t':=s.toks) (o:=.tup (xs++ys)) (fun b ob q=>Zh _ q) (Zs _) ?_,rfl,q2 (fun w=>z (r2.nil_iff.mpr w)) _ (I.hok.fresh (Zs _))⟩;exact⟨by rw[Jc];exact hz,_,r1.append r2,IsTup.new _ _⟩
end
def ixN(n:Nat)(i:Int):Option Nat:=if 0≤i then(if i < n then some i.toNat else none) else if -(n:Int)≤i then some (i+n).toNat else none
def Xs{α:Type}(xs:List α)(i:Int):Option α:=(ixN xs.length i).bind fun j=>xs[j]?
theorem Zdx{n:Nat}{i:Int}{j:Nat}(h:ixN n i=some j):seqIndex? i n=some j∧j < n∧-(n:Int)≤i∧i < n:=by
 unfold ixN at h;by_cases h0:0≤i
 ·rw[Zv h0] at h
  by_cases h1:i < n
  ·rw[Zv h1] at h
   have e:i.toNat=j:=Zy h;exact⟨by rw[seqIndex_of h0 h1,e],by omega,by omega,h1⟩
  ·rw[Zj h1] at h;cases h
 ·rw[Zj h0] at h
  by_cases h1:-(n:Int)≤i
  ·rw[Zv h1] at h
   have e:(i+n).toNat=j:=Zy h;exact⟨by rw[seqIndex_neg (by omega) h1,e],by omega,h1,by omega⟩
  ·rw[Zj h1] at h;cases h
theorem Kb{α:Type}{xs:List α}{i:Int}{v:α}(h:Xs xs i=some v):∃ j,seqIndex? i xs.length=some j∧xs[j]? = some v∧j < xs.length∧-(xs.length:Int)≤i∧i < xs.length:=by
 unfold Xs at h;cases e:ixN xs.length i with
 | none=>rw[e] at h;cases h
 | some j=>
  rw[e] at h;obtain⟨h1,h2,h3,h4⟩:=Zdx e;exact⟨j,h1,h,h2,h3,h4⟩
theorem Qy{α:Type}{xs:List α}{j:Nat}{v:α}(h:xs[j]? = some v):Xs xs (j:Int)=some v:=by
 have hj:j < xs.length:=(Zu.mp h).1;have e:ixN xs.length (j:Int)=some j:=by
  unfold ixN;rw[Zv (by omega),Zv (by omega)];simp
 unfold Xs;rw[e];exact h
def Zm5(b:Expr):Prop:=∀ o i,subscripted b false o i=operate [o,i] (getItem o i)
def IxR(X:Cx)(r:R2):Prop:=
 ∀(value slice:Expr) (pins:List (Addr×Obj)) (s:Shared) (σ:St) (H:Hp) (x y:V) (v u:Value) (Q:VK),Inv X pins σ H s→RelV x v→RelV y u→r x y H Q →
  subscripted slice false v u=operate [v,u] (getItem v u)→wpAny (model X.prog X.w) X.A (subscriptTail value slice v u) (EP X pins σ Q) X.xe s
def MtR(X:Cx)(id:String)(r:V→List V→Hp→VK→Prop):Prop:=
 ∀(pins:List (Addr×Obj)) (s:Shared) (σ:St) (H:Hp) (x:V) (xs:List V) (v:Value) (us:List Value) (Q:VK),Inv X pins σ H s→RelV x v→Vals xs us→r x xs H Q →
  wpAny (model X.prog X.w) X.A (call (.builtin id) (v :: us)) (EP X pins σ Q) X.xe s
section
variable{X:Cx}{a b:Expr}{ta tb:TE}{pos:Pos}
theorem Jr{r:R2}(hr:IxR X r)(ha:PE X a ta)(hb:PE X b tb)(hs:Zm5 b):PE X (.Subscript a b pos) (tOp r ta tb):=by
 intro pins s σ H Q I h;exact Subscript_ (Zp0 ha hb I h fun v u s2 x y H2 I2 rx ry q=>hr a b pins s2 σ H2 x y v u Q I2 rx ry q (hs _ _))
def Zq3(K:W.Frag):R2:=fun x y H Q=>∃ p xs i v,x = .ref p∧y = .int i∧SqL K H p xs∧Xs xs i=some v∧Q v H
def Zoj(K:W.Frag):R2:=fun x y H Q=>∃ p xs i v,x = .ref p∧y = .int i∧SqT K H p xs∧Xs xs i=some v∧Q v H
def Zsn:R2:=fun x y H Q=>∃ z i c,x = .str z∧y = .int i∧z.length≤sizeLine∧Xs z.cps.toList i=some c∧Q (.str ⟨#[c]⟩) H
theorem Y7:IxR X (Zq3 X.K):=by
 intro value slice pins s σ H x y v u Q I rx ry h hs;obtain⟨p,xs,i,z,rfl,rfl,hq,he,q⟩:=h;cases rx;obtain⟨t,rfl⟩:=ry;obtain⟨its,r,pl,hz⟩:=I.list hq;obtain⟨j,h1,h2,h3,h4,h5⟩:=Kb he;obtain⟨w,ew,rw'⟩:=r.get h2;have hl:=r.length;have hn:=Bt;have fin:EP X pins σ Q w s:=⟨z,H,I,rw',q⟩;by_cases h0:0≤i
 ·have hj:i.toNat=j:=by
   rw[seqIndex_of h0 h5] at h1;exact Zy h1
  exact item_listR pl.isList h0 (by omega) (by rw[hj];simpa using ew) fin hs
 ·have hj:(i+(its.toArray.size:Int)).toNat=j:=by
   rw[seqIndex_neg (by omega) h4] at h1;rw[Z1,← hl];exact Zy h1
  exact subscriptTail_builtinR (x:=w) pl.isList.typeIs slot_list_getitem.lookup
   (wpAny_getItem_list_neg (Q:=fun r s'=>r=w∧EP X pins σ Q r s') pl.isList (by omega) (by rw[Z1]<;>omega) (by omega) (by rw[hj];simpa using ew) ⟨rfl,fin⟩) hs
theorem Js:IxR X (Zoj X.K):=by
 intro value slice pins s σ H x y v u Q I rx ry h hs;obtain⟨p,xs,i,z,rfl,rfl,hq,he,q⟩:=h;cases rx;obtain⟨t,rfl⟩:=ry;obtain⟨its,r,pl,hz⟩:=I.tuple hq;obtain⟨j,h1,h2,h3,h4,h5⟩:=Kb he;obtain⟨w,ew,rw'⟩:=r.get h2;have hl:=r.length;have hn:=Bt;have fin:EP X pins σ Q w s:=⟨z,H,I,rw',q⟩;exact subscriptTail_builtinR (x:=w) pl.typeIs slot_tuple_getitem.lookup
  (getItem_tuple (j:=j) (Q:=fun r s'=>r=w∧EP X pins σ Q r s') pl (by omega) (by omega) (by rw[Z1,← hl];exact h1) (by simpa using ew) ⟨rfl,fin⟩) hs
theorem Zca:IxR X Zsn:=by
  intro value slice pins s σ H x y v u Q I rx ry h hs;obtain⟨z,i,c,rfl,rfl,hz,he,q⟩:=h;obtain⟨t,rfl⟩:=rx;obtain⟨t',rfl⟩:=ry;obtain⟨j,h1,h2,h3,h4,h5⟩:=Kb he;have hl:z.cps.toList.length=z.length:=by simp [Str.length]
  rw[hl] at h1 h4 h5;have hn:=Bt;exact tail_any (typeIs_str s z t) slot_str_getitem.lookup (getItem_str (c:=c) (by
    have e1:decide (i < -(2 ^ 63:Int))=false:=Zd (by omega);have e2:decide (i ≥ 2 ^ 63)=false:=Zd (by omega);rw[e1,e2,Bool.or_false]) (by rw[h1];simpa using h2) ⟨.str ⟨#[c]⟩,H,I.tok _,⟨_,rfl⟩,q⟩) hs
theorem Zb4(its:List Value)(n j:Nat)(u:Value):Obj.mapSeq (·.setIfInBounds j u) { cls:=.type "list",data:=.seq its.toArray n } = { cls:=.type "list",data:=.seq (its.set j u).toArray n }:=by
 simp [Obj.mapSeq]
theorem Inv.lst{pins:List (Addr×Obj)}{σ:St}{H:Hp}{s:Shared}{p:Addr}{xs:List V}(I:Inv X pins σ H s)(h:H p=some (.lst xs)) :
  ∃(its:List Value) (n:Nat),Vals xs its∧s.heap.get? p=some { cls:=.type "list",data:=.seq its.toArray n }∧xs.length≤sizeLine:=by
 obtain⟨z,its,n,r,e⟩:=I.hok p _ h;exact⟨its,n,r,e,z⟩
theorem Inv.lstUpd{pins:List (Addr×Obj)}{σ:St}{H:Hp}{s:Shared}{p:Addr}{xs ys:List V}{its its':List Value}{n n':Nat}{f:Obj→Obj}(I:Inv X pins σ H s)(h:H p=some (.lst xs))
  (ho:s.heap.get? p=some { cls:=.type "list",data:=.seq its.toArray n }) (hf:f { cls:=.type "list",data:=.seq its.toArray n } = { cls:=.type "list",data:=.seq its'.toArray n' }) (r:Vals ys its') (hz:ys.length≤sizeLine) (t:Nat) :
  Inv X pins σ (upd H p (.lst ys)) { s with heap:=s.heap.update p f,toks:=t }:=by
 have e:(s.heap.update p f).get? p=some { cls:=.type "list",data:=.seq its'.toArray n' }:=by
  rw[Heap.get?_update_self f ho (by rw[hf]<;>rfl),hf]
 refine I.write (x:=p) (e:=p) (by rw[h];trivial) (.inl rfl) (fun b u hb q=>(Heap.get?_update_other _ _ (Ne.symm hb)).trans q) ⟨_,e⟩ ?_;exact⟨hz,its',n',r,e⟩
def Zq2:V→V→V→Hp→(Hp→Prop)→Prop:=fun o i v H Q=>∃ p xs k j,o = .ref p∧i = .int k∧H p=some (.lst xs)∧ixN xs.length k=some j∧Q (upd H p (.lst (xs.set j v)))
theorem Kr:Zrt X Zq2:=by
 intro pins s σ H o i v ov iv u Q I ro ri rv h;obtain⟨p,xs,k,j,rfl,rfl,hp,hj,q⟩:=h;cases ro;obtain⟨t,rfl⟩:=ri;obtain⟨its,n,r,ho,hz⟩:=I.lst hp;obtain⟨h1,h2,h3,h4⟩:=Zdx hj;have hl:=r.length;have hn:=Bt;have I':Inv X pins σ (upd H p (.lst (xs.set j v))) { s with heap:=s.heap.update p (Obj.mapSeq (·.setIfInBounds j u)) }:=
  I.lstUpd hp ho (Zb4 its n j u) (r.set rv j) (by rw[Xz];exact hz) s.toks
 by_cases h0:0≤k
 ·have hk:k.toNat=j:=by
   rw[seqIndex_of h0 h4] at h1;exact Zy h1
  exact W.ki_setAt ho h0 (by omega) (by rw[Z1,← hl];exact h4) (by rw[hk];exact⟨_,I',q⟩)
 ·have hk:(k+(its.toArray.size:Int)).toNat=j:=by
   rw[seqIndex_neg (by omega) h3] at h1;rw[Z1,← hl];exact Zy h1
  exact W.ki_setBack ho (by omega) (by rw[Z1,← hl];exact h3) (by omega) (by rw[hk];exact⟨_,I',q⟩)
theorem Ot(lo hi:Option Int)(n:Nat):(sliceBounds lo hi none n).1=((HT.sIx n 0 lo:Nat):Int)∧(sliceBounds lo hi none n).2.1=((HT.sIx n n hi:Nat):Int)∧(sliceBounds lo hi none n).2.2=1:=by
 refine⟨?_,?_,rfl⟩
 ·cases lo with
  | none=>simp [sliceBounds,HT.sIx]
  | some i=>
   simp only[sliceBounds,HT.sIx,Option.getD_none,show(1:Int) > 0 by decide,if_true];by_cases h:i < 0
   ·simp only[h,if_true]<;>omega
   ·simp only[h,if_false]<;>omega
 ·cases hi with
  | none=>simp [sliceBounds,HT.sIx]
  | some i=>
   simp only[sliceBounds,HT.sIx,Option.getD_none,show(1:Int) > 0 by decide,if_true];by_cases h:i < 0
   ·simp only[h,if_true]<;>omega
   ·simp only[h,if_false]<;>omega
theorem Mv(its:List Value)(lo hi:Option Int):slicePick its.toArray lo hi none=((its.drop (HT.sIx its.length 0 lo)).take (HT.sIx its.length its.length hi - HT.sIx its.length 0 lo)).toArray:=by
 obtain⟨h1,h2,h3⟩:=Ot lo hi its.toArray.size;unfold slicePick;rw[h1,h2,h3];simp only[sliceRange_one,pick_run,Z1]<;>rfl
def Zq1(K:W.Frag):V→Option Int→Option Int→Hp→VK→Prop:=fun x lo hi H Q=>∃ a xs,x = .ref a∧SqL K H a xs∧∀ p,H p=none→Q (.ref p) (upd H p (.lst (A6 xs lo hi)))
theorem Zk3:SlR X (Zq1 X.K):=by
 intro pins s σ H x v vl vu lo hi sl Q I rx hs pl pu h;obtain⟨a,xs,rfl,hx,q⟩:=h;cases rx;obtain⟨its,r,ht,hz⟩:=I.list hx;have hlen:=r.length;refine⟨"list",_,slot_list_getitem.lookup,ht.isList.typeIs,?_⟩;refine wpAny_getItem_list_slice ht.isList hs pl pu .none (by simp) ?_ (by rw[Z1]<;>omega);rw[Mv,← hlen];refine⟨.ref s.heap.objs.size,_,I.laid (t':=s.toks) (o:=.lst (A6 xs lo hi)) (fun b ob q=>Zh _ q) (Zs _) ?_,rfl,q _ (I.hok.fresh (Zs _))⟩;exact⟨Jd (Zaa xs lo hi) hz,_,0,(r.drop (HT.sIx xs.length 0 lo)).take (HT.sIx xs.length xs.length hi - HT.sIx xs.length 0 lo),Z6 _ rfl⟩
def Xo:V→Bool
 | .non=>true
 | .bl _=>true
 | .int _=>true
 | .str _=>true
 | _=>false
def Ru:V→V→Bool
 | .non,.non=>true
 | .bl a,.bl b=>a == b
 | .bl a,.int b=>(if a then 1 else 0) == b
 | .int a,.bl b=>a == (if b then 1 else 0)
 | .int a,.int b=>a == b
 | .str a,.str b=>a == b
 | _,_=>false
theorem Mm{A:Around}{s:Shared}{y x:V}{u v:Value}(ry:RelV y u)(rx:RelV x v)(fy:Xo y=true)(fx:Xo x=true):SeqAt.EqAt A s u v (Ru y x):=by
 cases y with
 | non=>
  cases ry;cases x with
  | non=>cases rx;exact SeqAt.EqAt.same _
  | bl b=>cases rx;exact SeqAt.EqAt.none_bool b
  | int b=>obtain⟨t,rfl⟩:=rx;exact SeqAt.EqAt.none_int b t
  | str b=>obtain⟨t,rfl⟩:=rx;exact SeqAt.EqAt.none_str b t
  | _=>exact absurd (show false=true from fx) Zp
 | bl a=>
  cases ry;cases x with
  | non=>cases rx;exact SeqAt.EqAt.bool_none a
  | bl b=>cases rx;exact SeqAt.EqAt.bool_bool a b
  | int b=>obtain⟨t,rfl⟩:=rx;exact SeqAt.EqAt.bool_int a b t
  | str b=>obtain⟨t,rfl⟩:=rx;exact SeqAt.EqAt.bool_str a b t
  | _=>exact absurd (show false=true from fx) Zp
 | int a=>
  obtain⟨t',rfl⟩:=ry;cases x with
  | non=>cases rx;exact SeqAt.EqAt.int_none a t'
  | bl b=>cases rx;exact SeqAt.EqAt.int_bool a t' b
  | int b=>obtain⟨t,rfl⟩:=rx;exact SeqAt.EqAt.int_int a t' b t
  | str b=>obtain⟨t,rfl⟩:=rx;exact SeqAt.EqAt.int_str a t' b t
  | _=>exact absurd (show false=true from fx) Zp
 | str a=>
  obtain⟨t',rfl⟩:=ry;cases x with
  | non=>cases rx;exact SeqAt.EqAt.str_none a t'
  | bl b=>cases rx;exact SeqAt.EqAt.str_bool a t' b
  | int b=>obtain⟨t,rfl⟩:=rx;exact SeqAt.EqAt.str_int a t' b t
  | str b=>obtain⟨t,rfl⟩:=rx;exact SeqAt.EqAt.str_str a t' b t
  | _=>exact absurd (show false=true from fx) Zp
 | _=>exact absurd (show false=true from fy) Zp
def eqU(x:V)(u:Value):Bool:=match u with
 | .none=>Ru .non x
 | .bool b=>Ru (.bl b) x
 | .int i _=>Ru (.int i) x
 | .str z _=>Ru (.str z) x
 | _=>false
theorem Zkf{x y:V}{u:Value}(r:RelV y u)(f:Xo y=true):eqU x u=Ru y x:=by
 cases y with
 | non=>cases r;rfl
 | bl b=>cases r;rfl
 | int i=>obtain⟨t,rfl⟩:=r;rfl
 | str z=>obtain⟨t,rfl⟩:=r;rfl
 | _=>exact absurd (show false=true from f) Zp
theorem Vv{x:V}:∀{xs:List V} {us:List Value},Vals xs us→xs.all Xo=true→us.any (eqU x)=xs.any fun y=>Ru y x
 | _,_,.nil,_=>rfl
 | y :: xs,u :: us,.cons r t,f=>by
  rw[List.all_cons,Bool.and_eq_true] at f;rw[List.any_cons,List.any_cons,Zkf r f.1,Vv t f.2]
theorem Nq{A:Around}{s:Shared}{x:V}{v:Value}(rx:RelV x v)(fx:Xo x=true):∀{xs:List V} {us:List Value},Vals xs us→xs.all Xo=true→∀ u∈us,SeqAt.EqAt A s u v (eqU x u)
 | _,_,.nil,_=>fun u hu=>by cases hu
 | y :: xs,u :: us,.cons r t,f=>fun u' hu=>by
  rw[List.all_cons,Bool.and_eq_true] at f;rcases Ja.mp hu with rfl | hu
  ·rw[Zkf r f.1];exact Mm r rx f.1 fx
  ·exact Nq rx fx t f.2 u' hu
def Sw(x:V)(xs:List V):Bool:=xs.any fun y=>Ru y x
def rIn(K:W.Frag)(neg:Bool):R2:=fun x y H Q=>∃ p xs,y = .ref p∧(SqL K H p xs∨SqT K H p xs)∧Xo x=true∧xs.all Xo=true∧Q (.bl (if neg then !Sw x xs else Sw x xs)) H
theorem Rc:Nf X (compareOp .In) (rIn X.K false):=by
 intro pins s σ H x y v u Q I rx ry h;obtain⟨p,xs,rfl,hq,fx,fs,q⟩:=h;cases ry;rcases hq with hq | hq
 ·obtain⟨its,r,pl,hz⟩:=I.list hq
  refine SeqAt.in_listAt (eqU x) pl.isList (fun w hw=>Nq rx fx r fs w (by simpa using hw)) ⟨.bl _,H,I,rfl,?_⟩;rw[show its.toArray.any (eqU x)=its.any (eqU x) by simp,Vv r fs];exact q
 ·obtain⟨its,r,pl,hz⟩:=I.tuple hq
  refine SeqAt.in_tupleAt (eqU x) pl (fun w hw=>Nq rx fx r fs w (by simpa using hw)) ⟨.bl _,H,I,rfl,?_⟩;rw[show its.toArray.any (eqU x)=its.any (eqU x) by simp,Vv r fs];exact q
theorem E8:Nf X (compareOp .NotIn) (rIn X.K true):=by
 intro pins s σ H x y v u Q I rx ry h;obtain⟨p,xs,rfl,hq,fx,fs,q⟩:=h;cases ry;rcases hq with hq | hq
 ·obtain⟨its,r,pl,hz⟩:=I.list hq
  refine SeqAt.notIn_listAt (eqU x) pl.isList (fun w hw=>Nq rx fx r fs w (by simpa using hw)) ⟨.bl _,H,I,rfl,?_⟩;rw[show its.toArray.any (eqU x)=its.any (eqU x) by simp,Vv r fs];exact q
 ·obtain⟨its,r,pl,hz⟩:=I.tuple hq
  refine SeqAt.notIn_tupleAt (eqU x) pl (fun w hw=>Nq rx fx r fs w (by simpa using hw)) ⟨.bl _,H,I,rfl,?_⟩;rw[show its.toArray.any (eqU x)=its.any (eqU x) by simp,Vv r fs];exact q
theorem Ya:Xw X (.builtin "len") (fun xs H Q=>∃ p ys,xs=[.ref p]∧(SqL X.K H p ys∨SqT X.K H p ys)∧Q (.int ys.length) H):=by
 intro pins s σ H xs us Q I r h;obtain⟨p,ys,rfl,hq,q⟩:=h;obtain⟨u,rfl,rx⟩:=Qu r;cases rx;have hn:=Bt;rcases hq with hq | hq
 ·obtain⟨its,r',pl,hz⟩:=I.list hq
  have hlen:=r'.length;exact Calls.call_len_list pl.isList (by simp only[Z1]<;>omega) ⟨.int ys.length,H,I.tok _,⟨s.toks+1,by rw[Z1,hlen]⟩,q⟩
 ·obtain⟨its,r',pl,hz⟩:=I.tuple hq
  have hlen:=r'.length;exact len_tuple pl (by simp only[Z1]<;>omega) ⟨.int ys.length,H,I.tok _,⟨s.toks+1,by rw[Z1,hlen]⟩,q⟩
theorem Vs:Xw X (.builtin "len") (fun xs H Q=>∃ z,xs=[.str z]∧z.length≤sizeLine∧Q (.int z.length) H):=by
 intro pins s σ H xs us Q I r h;obtain⟨z,rfl,hz,q⟩:=h;obtain⟨u,rfl,t,rfl⟩:=Qu r;have hn:=Bt;exact len_str (by omega) ⟨.int z.length,H,I.tok _,⟨_,rfl⟩,q⟩
theorem Qa:Xw X (.type "list") (fun xs H Q=>∃ p ys,xs=[.ref p]∧(SqL X.K H p ys∨SqT X.K H p ys)∧∀ l,H l=none→Q (.ref l) (upd H l (.lst ys))):=by
 intro pins s σ H xs us Q I r h;obtain⟨p,ys,rfl,hq,q⟩:=h;obtain⟨u,rfl,rx⟩:=Qu r;cases rx;have fin:∀(its:List Value),Vals ys its→ys.length≤sizeLine→∀(h':Heap) (c':Nat),(∀ b o',s.heap.get? b=some o'→h'.get? b=some o') →
   h'.get? s.heap.objs.size=some { cls:=.type "list",dict:=none,data:=.seq its.toArray c',slots:=#[] }→EP X pins σ Q (.ref s.heap.objs.size) { s with heap:=h' }:=fun its r' hz h' c' kp e=>
  ⟨.ref s.heap.objs.size,_,I.laid (t':=s.toks) kp (Zs _) (show ObjOk X.prog X.w _ h' _ (.lst ys) from⟨hz,its,c',r',e⟩),rfl,q _ (I.hok.fresh (Zs _))⟩
 rcases hq with hq | hq
 ·obtain⟨its,r',pl,hz⟩:=I.list hq
  have hlen:=r'.length;obtain⟨o,ho,hc,n,hd⟩:=pl.isList;exact call_list_seq p (.inl rfl) ho hc hd (fun h' c' kp e=>fin its r' hz h' c' kp e) (by simp only[Z1]<;>omega)
 ·obtain⟨its,r',pl,hz⟩:=I.tuple hq
  have hlen:=r'.length;obtain⟨o,ho,hc,n,hd⟩:=pl;exact call_list_seq p (.inr rfl) ho hc hd (fun h' c' kp e=>fin its r' hz h' c' kp e) (by simp only[Z1]<;>omega)
theorem Xt:Xw X (.type "tuple") (fun xs H Q=>∃ p ys,xs=[.ref p]∧((SqL X.K H p ys∧∀ l,H l=none→Q (.ref l) (upd H l (.tup ys)))∨(SqT X.K H p ys∧Q (.ref p) H))):=by
 intro pins s σ H xs us Q I r h;obtain⟨p,ys,rfl,h⟩:=h;obtain⟨u,rfl,rx⟩:=Qu r;cases rx;rcases h with⟨hq,q⟩ | ⟨hq,q⟩
 ·obtain⟨its,r',pl,hz⟩:=I.list hq
  have hlen:=r'.length;refine call_tuple_list pl.isList (fun h' kp=>?_) (by simp only[Z1]<;>omega);have I1:Inv X pins σ H { s with heap:=h' }:=I.kept (t':=s.toks) kp;have I2:Inv X pins σ (upd H h'.objs.size (.tup ys)) { s with heap:=h'.push { cls:=.type "tuple",data:=.seq its.toArray } }:=
   I1.laid (t':=s.toks) (fun b o e=>Zh _ e) (Zs _) (show ObjOk X.prog X.w _ _ _ (.tup ys) from⟨hz,its,r',IsTup.new _ _⟩)
  exact⟨.ref h'.objs.size,_,I2,rfl,q _ (I1.hok.fresh (Zs _))⟩
 ·obtain⟨its,r',pl,hz⟩:=I.tuple hq
  exact call_tuple_same pl ⟨.ref p,H,I,rfl,q⟩
def tyV(K:W.Frag)(T:String)(x:V)(H:Hp):Prop:=match x with
 | .str _=>T = "str"
 | .int _=>T = "int"
 | .ref p=>(T = "list"∧∃ xs,SqL K H p xs)∨(T = "tuple"∧∃ o,K.lookup p=some o∧o.cls = .type "tuple"∧o.dict=none) ∨
   (T = "dict"∧((∃ kvs,H p=some (.dK kvs))∨∃ kvs,H p=some (.dT kvs)))∨(T = "set"∧∃ S n,H p=some (.set S n))
 | _=>False
theorem Zgs{pins:List (Addr×Obj)}{σ:St}{H:Hp}{s:Shared}{T:String}{x:V}{v:Value}(I:Inv X pins σ H s)(r:RelV x v)(ty:tyV X.K T x H) :
  s.TypeIs v T∧∀ a,v = .ref a→∃ ob,s.heap.get? a=some ob∧ob.dict=none:=by
 cases x with
 | str z=>
  obtain⟨t,rfl⟩:=r;cases (show T = "str" from ty);exact⟨typeIs_str s z t,fun _ e=>nomatch e⟩
 | int i=>
  obtain⟨t,rfl⟩:=r;cases (show T = "int" from ty);exact⟨typeIs_int s i t,fun _ e=>nomatch e⟩
 | ref p=>
  cases r;rcases ty with⟨rfl,xs,hq⟩ | ⟨rfl,o,hk,hc,hd⟩ | ⟨rfl,hk⟩ | ⟨rfl,S,n,hk⟩
  ·obtain⟨its,_,pl,_⟩:=I.list hq
   refine⟨pl.isList.typeIs,fun a e=>?_⟩;cases e;obtain⟨o,n,e,c,hd,_⟩:=pl;exact⟨o,e,hd⟩
  ·refine⟨⟨o,I.kIn p o hk,hc⟩,fun a e=>?_⟩
   cases e;exact⟨o,I.kIn _ o hk,hd⟩
  ·have z:∃ o,s.heap.get? p=some o∧o.ExactDict:=by
    rcases hk with⟨kvs,hk⟩ | ⟨kvs,hk⟩
    ·obtain⟨_,_,_,_,o,_,_,e,ex,_⟩:=I.hok p _ hk
     exact⟨o,e,ex⟩
    ·obtain⟨_,_,_,_,o,_,_,e,ex,_⟩:=I.hok p _ hk
     exact⟨o,e,ex⟩
   obtain⟨o,e,ex⟩:=z;refine⟨⟨o,e,ex.1⟩,fun a e2=>?_⟩;cases e2;exact⟨o,e,ex.2.1⟩
  ·obtain⟨o,_,_,_,e,ex,_⟩:=I.hok p _ hk
   refine⟨⟨o,e,ex.1⟩,fun a e2=>?_⟩;cases e2;exact⟨o,e,ex.2.1⟩
 | _=>exact False.elim ty
def Zsh(K:W.Frag)(T:String)(r:V→List V→Hp→VK→Prop)(to:TE):TE:=fun σ H Q=>to σ H fun x H1=>tyV K T x H1∧r x [] H1 Q
def tBM(K:W.Frag)(T:String)(r:V→List V→Hp→VK→Prop)(to:TE)(t:TA):TE:=fun σ H Q=>to σ H fun x H1=>tyV K T x H1∧t σ H1 fun xs H2=>r x xs H2 Q
variable{o e:Expr}{es:List Expr}{to:TE}{t:TA}{name:Str}{apos cpos:Pos}{T id:String}{r:V→List V→Hp→VK→Prop}
theorem Zos(pa:PlainAttrs T)(slot:Slot T name id)(hty:typeOf (.builtin id)=pure (.type "method_descriptor"))(hm:MtR X id r)(ho:PE X o to)
  (hbase:attributeBase o name X.env (eval o X.env)=eval o X.env:=by rfl) (hline:(apos.endLine == cpos.line)=true:=by rfl):PE X (.Call (.Attribute o name apos) [] [] cpos) (Zsh X.K T r to):=by
 intro pins s σ H Q I h;refine wpAny_Call_method0_late hbase hline (Ub (ho pins s σ H _ I h) fun v s1 ⟨x,H1,I1,r1,ty,q1⟩=>?_);obtain⟨h1,h2⟩:=Zgs I1 r1 ty;exact⟨T,id,pa,slot,hty,h1,h2,Calls.callWith_builtin rfl (PySem.evalArgs_none (hm pins s1 σ H1 x [] v [] Q I1 r1 .nil q1))⟩
theorem En(pa:PlainAttrs T)(slot:Slot T name id)(hty:typeOf (.builtin id)=pure (.type "method_descriptor"))(hm:MtR X id r)(ho:PE X o to)(ha:PA X (e :: es) t)
  (hbase:attributeBase o name X.env (eval o X.env)=eval o X.env:=by rfl)
  (hfew:((backTo cpos (starEach (e :: es) X.env)).all (fun x=>!x.1) && (backToKw cpos (keywordEach [] X.env)).all (fun x=>x.1.isSome)
   && decide ((e :: es).length+([]:List Keyword).length+(if([]:List Keyword).isEmpty then 0 else 1) < 30))=true:=by rfl)
  (hline:(apos.endLine == cpos.line)=true:=by rfl) (hs:starEach (e :: es) X.env=(false,eval e X.env) :: starEach es X.env:=by rfl) (hplain:(backTo cpos (starEach es X.env)).any (·.1)=false:=by rfl) :
  PE X (.Call (.Attribute o name apos) (e :: es) [] cpos) (tBM X.K T r to t):=by
 intro pins s σ H Q I h;refine wpAny_Call_method_late hbase hfew hline rfl (Ub (ho pins s σ H _ I h) fun v s1 ⟨x,H1,I1,r1,ty,q1⟩=>?_);obtain⟨h1,h2⟩:=Zgs I1 r1 ty;refine⟨T,id,pa,slot,hty,h1,h2,?_⟩;have hA:=ha cpos pins s1 σ H1 _ I1 q1;rw[hs] at hA ⊢;refine Calls.callWith_builtin (by show(false || (backTo cpos (starEach es X.env)).any (·.1))=false;rw[hplain]<;>rfl) (Calls.evalArgs_plain ?_);exact Ub hA fun us s2 ⟨vs,H2,I2,r2,q2⟩=>hm pins s2 σ H2 x vs v us Q I2 r1 r2 q2
end
def MtM(X:Cx)(id:String)(r:V→List V→Hp→VK→Prop):Prop:=
 ∀(pins:List (Addr×Obj)) (s:Shared) (σ:St) (H:Hp) (x:V) (xs:List V) (v:Value) (us:List Value) (Q:VK),Inv X pins σ H s→RelV x v→Vals xs us→r x xs H Q →
  wpAny (model X.prog X.w) X.A (call (.builtin id) (v :: us)) (EP X pins σ Q) X.xe s
theorem Vals.one:∀{x:V} {us:List Value},Vals [x] us→∃ u,us=[u]∧RelV x u
 | _,_,.cons r .nil=>⟨_,rfl,r⟩
theorem Vals.zero:∀{us:List Value},Vals [] us→us=[]
 | _,.nil=>rfl
theorem Vals.eraseIdx:∀{xs:List V} {us:List Value} (i:Nat),Vals xs us→Vals (xs.eraseIdx i) (us.eraseIdx i)
 | _,_,_,.nil=>.nil
 | _,_,0,.cons _ t=>t
 | _,_,i+1,.cons r t=>.cons r (Vals.eraseIdx i t)
theorem Dj{α:Type}:∀(l:List α) (i:Nat),(l.eraseIdx i).length≤l.length
 | [],_=>Zs _
 | _ :: _,0=>Nat.le_succ _
 | _ :: r,i+1=>Nat.succ_le_succ (Dj r i)
section
variable{X:Cx}{pins:List (Addr×Obj)}{σ:St}{H:Hp}{s:Shared}{l b:Addr}{xs ys zs:List V}
theorem Inv.lset{its its':List Value}{n:Nat}{f:Array Value→Array Value}{t':Nat}(I:Inv X pins σ H s)(hH:H l=some (.lst xs))
  (e:s.heap.get? l=some { cls:=.type "list",data:=.seq its.toArray n }) (hf:f its.toArray=its'.toArray) (hv:Vals ys its') (hz:ys.length≤sizeLine) :
  Inv X pins σ (upd H l (.lst ys)) { s with heap:=s.heap.update l (Obj.mapSeq f),toks:=t' }:=by
 have q:=PySem.IsL.update e f;rw[hf] at q;refine I.write (x:=l) (e:=l) (by rw[hH];exact trivial) (.inl rfl) (fun b' u hb hu=>(Heap.get?_update_other s.heap (Obj.mapSeq f) (Ne.symm hb)).trans hu) ⟨_,q⟩ ?_;exact⟨hz,its',_,hv,q⟩
theorem Inv.lnew{its:List Value}{t':Nat}(I:Inv X pins σ H s)(hv:Vals ys its)(hz:ys.length≤sizeLine) :
  Inv X pins σ (upd H s.heap.objs.size (.lst ys)) { s with heap:=s.heap.push { cls:=.type "list",data:=.seq its.toArray },toks:=t' }:=
 I.laid (fun _ _ q=>Zh _ q) (Zs _) ⟨hz,its,0,hv,Z6 _ rfl⟩
theorem Inv.fresh(I:Inv X pins σ H s):H s.heap.objs.size=none:=I.hok.fresh (Zs _)
theorem Inv.lstM(I:Inv X pins σ H s)(hH:H l=some (.lst xs)):xs.length≤sizeLine∧∃(its:List Value) (n:Nat),Vals xs its∧xs.length=its.length∧s.heap.get? l=some { cls:=.type "list",data:=.seq its.toArray n }:=by
 obtain⟨z,its,n,r,e⟩:=I.hok l _ hH;exact⟨z,its,n,r,r.length,e⟩
theorem Zjj{n:Nat}(h:n≤sizeLine):Builtin.List.listTooLong n=false:=by
 unfold Builtin.List.listTooLong;exact Zd (by omega)
end
section
variable{X:Cx}
def Zlg:V→List V→Hp→VK→Prop:=fun x vs H Q=>∃ l xs y,x = .ref l∧vs=[y]∧H l=some (.lst xs)∧xs.length < sizeLine∧Q .non (upd H l (.lst (xs++[y])))
theorem Bd:MtM X "list.append" Zlg:=by
 intro pins s σ H x vs v us Q I rx rv h;obtain⟨l,xs,y,rfl,rfl,hH,hz,q⟩:=h;cases rx;obtain⟨u,rfl,ru⟩:=rv.one;obtain⟨z,its,n,r,hl,e⟩:=I.lstM hH;refine call_meets F.slot_list_append ⟨_,e,rfl⟩ F.entry_list_append (F.args_list_append_2 _ _) (PySem.list_append l its.toArray n u (by rw[Z1];omega)) ⟨e,?_⟩;refine⟨.non,_,I.lset (its':=its++[u]) hH e (by simp) (r.append (.cons ru .nil)) ?_,rfl,q⟩;rw[Jc,List.length_singleton];omega
def Zlf:V→List V→Hp→VK→Prop:=fun x vs H Q=>∃ l b xs zs,x = .ref l∧vs=[.ref b]∧H l=some (.lst xs)∧H b=some (.lst zs)∧xs.length+zs.length≤sizeLine∧Q .non (upd H l (.lst (xs++zs)))
theorem Zfr:MtM X "list.extend" Zlf:=by
 intro pins s σ H x vs v us Q I rx rv h;obtain⟨l,b,xs,zs,rfl,rfl,hH,hB,hz,q⟩:=h;cases rx;obtain⟨u,rfl,ru⟩:=rv.one;cases ru;obtain⟨z,its,n,r,hl,e⟩:=I.lstM hH;obtain⟨z2,its2,n2,r2,hl2,e2⟩:=I.lstM hB;have hsz:its.toArray.size+its2.toArray.size≤sizeLine:=by rw[Z1,Z1];omega
 have hlong:¬ (!its.toArray.isEmpty && Builtin.List.listTooLong (its.toArray.size+its2.toArray.size))=true:=by
  rw[Zjj hsz,Bool.and_false];exact Zp
 refine call_meets F.slot_list_extend ⟨_,e,rfl⟩ F.entry_list_extend (F.args_list_extend_2 _ _)
  (AutoSeq1.list_extend_list_list_0 l its.toArray n b its2.toArray n2 hlong (by rw[Z1];omega) (by omega)) ⟨e,e2,?_⟩
 refine⟨.non,_,I.lset (its':=its++its2) hH e (by simp) (r.append r2) ?_,rfl,q⟩;rw[Jc];omega
def Zoi:V→List V→Hp→VK→Prop:=fun x vs H Q=>∃ l xs i k y,x = .ref l∧vs=[.int i]∧H l=some (.lst xs)∧-(2 ^ 63)≤i∧i < 2 ^ 63∧seqIndex? i xs.length=some k∧xs[k]? = some y∧Q y (upd H l (.lst (xs.eraseIdx k)))
theorem Zjt:MtM X "list.pop" Zoi:=by
 intro pins s σ H x vs v us Q I rx rv h;obtain⟨l,xs,i,k,y,rfl,rfl,hH,h1,h2,hk,hy,q⟩:=h;cases rx;obtain⟨u,rfl,ru⟩:=rv.one;obtain⟨t,rfl⟩:=ru;obtain⟨z,its,n,r,hl,e⟩:=I.lstM hH;obtain⟨w,hw,rw'⟩:=r.get hy;refine call_meets F.slot_list_pop ⟨_,e,rfl⟩ F.entry_list_pop (F.args_list_pop_2 _ _)
  (MeetsSeq.list_pop_at l its.toArray n i t k w (fitsIndex_both h1 h2) (by rw[Z1,← hl];exact hk) (by rw[← Array.getElem?_toList];exact hw) (by rw[Z1];omega)) ⟨e,?_⟩
 refine⟨y,_,I.lset (its':=its.eraseIdx k) hH e ?_ (r.eraseIdx k) ?_,rw',q⟩
 ·show its.toArray.eraseIdxIfInBounds k=(its.eraseIdx k).toArray
  rw[List.eraseIdxIfInBounds_toArray]
 ·have:=Dj xs k
  omega
def Zok:V→List V→Hp→VK→Prop:=fun x vs H Q=>∃ l xs,x = .ref l∧vs=[]∧H l=some (.lst xs)∧Q .non (upd H l (.lst []))
theorem Zju:MtM X "list.clear" Zok:=by
 intro pins s σ H x vs v us Q I rx rv h;obtain⟨l,xs,rfl,rfl,hH,q⟩:=h;cases rx;have hus:=rv.zero;subst hus;obtain⟨z,its,n,r,hl,e⟩:=I.lstM hH;refine call_meets F.slot_list_clear ⟨_,e,rfl⟩ F.entry_list_clear (F.args_list_clear_1 _) (AutoSeq1.list_clear_list_0 l its.toArray n (by rw[Z1];omega)) ⟨e,?_⟩;exact⟨.non,_,I.lset (its':=[]) (ys:=[]) hH e rfl .nil (Nat.zero_le _),rfl,q⟩
def Zsq:R2:=fun x y H Q=>∃ l b xs zs,x = .ref l∧y = .ref b∧H l=some (.lst xs)∧H b=some (.lst zs)∧xs.length+zs.length≤sizeLine∧∀ p,H p=none→Q (.ref p) (upd H p (.lst (xs++zs)))
theorem Zoz:Nf X (binaryOp .Add) Zsq:=by
 intro pins s σ H x y v u Q I rx ry h;obtain⟨l,b,xs,zs,rfl,rfl,hH,hB,hz,q⟩:=h;cases rx;cases ry;obtain⟨z,its,n,r,hl,e⟩:=I.lstM hH;obtain⟨z2,its2,n2,r2,hl2,e2⟩:=I.lstM hB;refine PySem.P.add_list e e2 ?_ (by rw[Z1,Z1];omega);have ea:its.toArray++its2.toArray=(its++its2).toArray:=by simp
 rw[ea];exact⟨.ref _,_,I.lnew (t':=s.toks) (r.append r2) (by rw[Jc];omega),rfl,q _ I.fresh⟩
end
section
variable{prog:Program}{w:World}{A:Around}{E:Value→Shared→Prop}{s:Shared}
end
section
variable{X:Cx}
end
end L2
namespace Att
open PySem PySem.W PySem.Calls PyProof.Rows
theorem R6{P:Params}{h:Heap}:∀(ns:List Int) (vs:List Value),WellAll P h vs (ns.map WData.int)→IntsAre vs ns:=by
 intro ns
 induction ns with
 | nil=>
  intro vs w;rw[List.map_nil] at w;cases w;exact .nil
 | cons n ns ih=>
  intro vs w;rw[List.map_cons] at w;cases w with
  | cons a b=>
   cases a;exact .cons _ _ (ih _ b)
theorem Zet{l:OpenLaw}{n:Nat}(hn:l.most=some n){P:Params}{h:Heap}{args:List WData}{vals:List Value}
  (hpre:l.row.toRowW.claim.pre args=true) (hwl:WellAll P h vals args) :
  ∃ a vs ns,vals=[Value.ref a]∧args=[WData.list (ns.map WData.int)]∧h.get? a=some { cls:=.type "list",data:=.seq vs.toArray }∧IntsAre vs ns∧ns.length≤n:=by
 have hsh:WShape.hasAll [] args [.list .int]=true:=(pre_splitW hpre).1;have hc:l.pre.holds [] { args:=args }=true:=(pre_splitW hpre).2;obtain⟨d,r,rfl,h1,h2⟩:=hasAllW_cons hsh;obtain rfl:=hasAllW_nil h2;obtain⟨xs,rfl,h3⟩:=hasW_list h1;obtain⟨ns,rfl⟩:=items_int h3;have hlen:ns.length≤n:=by
  unfold OpenLaw.pre at hc;have h4:(WTm.not (.lt (.lit (.int (n:Int))) (.len (.arg 0)))).holds [] { args:=[.list (ns.map .int)] }=true:=by
   have h4:=(holds_andW hc).1;rw[hn] at h4;exact h4
  have h5:=condW_of h4 (w_not (w_lt w_lit (w_len_list (w_arg rfl))));rw[Zk] at h5;refine Nat.le_of_not_lt fun q=>?_;have q':(n:Int) < ((ns.length:Nat):Int):=by omega
  first
   | (rw[Zc q'] at h5;exact absurd h5 (by decide))
   | (simp at h5;omega)
 cases hwl with
 | cons w1 w2=>
  cases w2;cases w1 with
  | list ho hall=>exact⟨_,_,ns,rfl,rfl,ho,R6 ns _ hall,hlen⟩
theorem Ze4(l:OpenLaw)(args:List WData):l.row.toRowW.claim.post args (.bool true) args=true:=
 postW_of (r:=l.row.toRowW) (X:=(true == true))
  (show WShape.has [] (.bool true) .bool=true by first | rfl | decide | simp [WShape.has,WShape.arms,WShape.armsAll])
  (show(WTm.eq .res (.lit (.bool true))).value [] { args:=args,res:=some (.bool true),after:=args }=some (.bool (true == true)) from w_eq_bool (w_res rfl) w_lit) rfl
theorem attach_call{l:OpenLaw}{n:Nat}{q:Program}{loose:List Str}{XP:(Str→Option Value)→Heap→Prop}{YP:World→Heap→Prop}{d:DefRec}
  (hn:l.most=some n) (hdf:d.params.defaults=[])
  (call:∀(w:World) (s₀ s₁:Shared) (mg mb:Str→Option Value) (fa:Addr) (o:Obj) (pm cd doc:Value) (a:Addr) (vs:List Value) (ns:List Int),
   Ground q loose [] XP w s₀ mg mb s₁.heap→YP w s₁.heap →
   s₁.heap.get? fa=some o→o.data = .func (docDef d.name d.params d.body d.scope pm cd doc)→s₁.heap.CodeRec cd d.name→mg d.name=some (.ref fa) →
   s₁.heap.get? a=some { cls:=.type "list",data:=.seq vs.toArray }→IntsAre vs ns→ns.length≤n→s₁.gens = #[] →
   codeAny (model l.prog w) callerA (.call (.ref fa) ⟨[.ref a],[]⟩) (fun r s'=>r = .ok (.ret (.bool true))∧OldK s₁.heap s'.heap∧s'.os=s₁.os∧AllBare s'.gens) s₁) :
  WalkO q loose XP YP l.row.toRowW d [] (fun f vs=>PySem.call f vs):=by
 intro w s₀ s₁ mg mb G Y fa o pm cd doc dV kV ho hd hcd hD hmg hg args vals as hpre hlay hrd hwl hlo;obtain rfl:dV = .none:=Dflts.none hD hdf;obtain rfl:kV = .none:=Dflts.noKw hD;obtain⟨a,vs,ns,rfl,rfl,hobj,hints,hlen⟩:=Zet hn hpre hwl;refine enter_call (codeAny_mono (call w s₀ s₁ mg mb fa o pm cd doc a vs ns G Y ho (fd_plain hd) hcd hmg hobj hints hlen hg) fun r s' hq=>?_);obtain⟨rfl,h2,h3,h4⟩:=hq;exact⟨.inl ⟨.bool true,.bool true,[],rfl,fun _=>rfl,.bool true,Ze4 l _,fun _=>⟨List.Pairwise.nil,fun _ hm=>(nomatch hm)⟩⟩,h2,h3,h4⟩
section
variable{prog:Program}{w:World}{A:Around}{E:Value→Shared→Prop}{s:Shared}{K:Frag}
end
end Att
namespace L2
open PySem PySem.Spec PyProof.Rows
theorem M6:∀{vs:List Value} {ns:List Int},IntsAre vs ns→Vals (ns.map V.int) vs
 | _,_,.nil=>.nil
 | _,_,.cons n t h=>.cons ⟨t,rfl⟩ (M6 h)
def Zp5(H:Hp):Prop:=∀ b,H b=none∨∃ o xs,H b=some (.frz o (.lst xs))
theorem Zj0{P:Program}{w:World}{K:W.Frag}{mg mb:Str→Option Value}{CX:CXT}{k:Nat}{fa a:Addr}{fd:FuncData}{x:Str}{sp:Sp}{s₁:Shared}{vs:List Value}{ns:List Int}
    (KX:K.In s₁.heap) (hns:s₁.heap.Ns mainGlobals mg) (hb:s₁.heap.Ns builtinsNs mb) (hbb:∀ x:Str,x≠"__name__"→mb x=bootBuiltins x) (hlim:s₁.heap.NoLimit) (hg:s₁.gens = #[])
    (ha:s₁.heap.get? a=some { cls:=.type "list",data:=.seq vs.toArray }) (hi:IntsAre vs ns) (hl:ns.length≤sizeLine) (hr:Room k callerA)
    (F:∀ base:Heap,K.In base→base.Ns mainGlobals mg→FnOk P w K mg base CX k fa fd [x] sp) (hbind:∀(s:Shared) (u:Value),BindsTo s fd ⟨[u],[]⟩ [(x,u)])
    (hsp:∀ H:Hp,Zp5 H→SqL K H a (ns.map V.int)→sp [.ref a] H (fun v _=>v = .bl true) fun _ _ _=>False)
    (hCX:∀ H e s',CX [] H s₁ (fun _ _ _=>False) e s'→False) :
    codeAny (model P w) callerA (.call (.ref fa) ⟨[.ref a],[]⟩) (fun r s'=>r = .ok (.ret (.bool true))∧OldK s₁.heap s'.heap∧s'.os=s₁.os∧AllBare s'.gens) s₁:=by
  have rv:=M6 hi;have lenV:=hi.length;have core:∀ H:Hp,Zp5 H→SqL K H a (ns.map V.int)→HOk P w H s₁.heap→(∀ b,H b≠none→b=a)→(H a≠none→K.lookup a=none) →
      codeAny (model P w) callerA (.call (.ref fa) ⟨[.ref a],[]⟩) (fun r s'=>r = .ok (.ret (.bool true))∧OldK s₁.heap s'.heap∧s'.os=s₁.os∧AllBare s'.gens) s₁:=by
    intro H hO hS hok hA hK;have base_of:∀{b:Addr} {o:Obj},s₁.heap.get? b=some o→H b=none→(Aw s₁.heap H).get? b=some o:=fun e n=>Zj7 e n;have noA:∀{b:Addr} {o:Obj} {es:Array DictEntry} {ep:Nat},s₁.heap.get? b=some o→o.data = .dict es ep→H b=none:=fun {b o es ep} e d=>by
      cases q:H b with
      | none=>rfl
      | some u=>
        have e':b=a:=hA b (by rw[q];simp);subst e';rw[ha] at e;cases e;have d':Data.seq vs.toArray _=Data.dict es ep:=d;cases d'
    have nsK:∀{b:Addr} {m:Str→Option Value},s₁.heap.Ns b m→(Aw s₁.heap H).Ns b m:=fun {b m} ⟨o,es,ep,e,d,r⟩=>⟨o,es,ep,base_of e (noA e d),d,r⟩;have hKb:K.In (Aw s₁.heap H):=fun b o e=>base_of (KX b o e) (by
      cases q:H b with
      | none=>rfl
      | some u=>
        have e':b=a:=hA b (by rw[q];simp);subst e';rw[hK (by rw[q];simp)] at e;cases e)
    have hM:Mod K mg (Aw s₁.heap H):=⟨hKb,nsK hns,⟨mb,nsK hb,hbb⟩,let ⟨mc,h1,h2⟩:=hlim;⟨mc,nsK h1,h2⟩⟩;have e0:Env0 P w K mg (Aw s₁.heap H) callerA [] s₁ H:=⟨rfl,hM,fun b o e=>Zmf e,Nat.le_of_eq (Zf0 _ _),trivial,fun b hb=>absurd (show b∈([]:List Addr) from hb) (by simp),hok,.of_eq hg⟩;refine codeAny_mono ((F _ hKb (nsK hns)).run callerA [] s₁ H ⟨[.ref a],[]⟩ [.ref a] [.ref a] _ _ hr e0 (hbind s₁ (.ref a)) (.cons rfl .nil) (hsp H hO hS)) fun r s' h=>?_;cases r with
    | error e=>exact(hCX H e s' h).elim
    | ok fl=>
      cases fl with
      | next=>exact False.elim h
      | brk=>exact False.elim h
      | cont=>exact False.elim h
      | ret u=>
        obtain⟨v,H',os,bare,un,hok',r',q⟩:=h;have q':v = .bl true:=q;subst q';obtain rfl:u=Value.bool true:=r';refine⟨rfl,OldK.of_keep fun b o e=>?_,os,bare⟩;cases q:H b with
        | none=>exact un.keep b o e q (by intro z;exact absurd (show b∈([]:List Addr) from z) (by simp)) (by simp)
        | some u=>
          rcases hO b with z | ⟨ob,xs,z⟩
          · rw[q] at z;cases z
          · have z2:=un.frzs b ob _ z
            obtain⟨e1,_⟩:=hok b _ z;obtain⟨e2,_⟩:=hok' b _ z2;rw[e] at e1;cases e1;exact e2
  cases hk:K.lookup a with
  | some o=>
    have e:=KX a o hk;rw[ha] at e;cases e;refine core (fun _=>none) (fun _=>.inl rfl) (.inr ⟨_,vs.toArray,_,hk,rfl,rfl,rfl,by rw[Z1,lenV];exact hl,by simpa using rv⟩) (fun b u z=>by have z':(none:Option HO)=some u:=z;cases z') (fun b z=>absurd rfl z) fun z=>absurd rfl z
  | none=>
    refine core (fun b=>if b=a then some (.frz { cls:=.type "list",data:=.seq vs.toArray } (.lst (ns.map V.int))) else none) (fun b=>?_) (.inl (.inr ⟨{ cls:=.type "list",data:=.seq vs.toArray },Zv rfl⟩)) (fun b u z=>?_) (fun b z=>?_) fun _=>hk
    · by_cases hb:b=a
      · exact .inr ⟨_,_,Zv hb⟩
      · exact .inl (Zj hb)
    · by_cases hb:b=a
      · have z':=(Zv hb).symm.trans z
        cases z';subst hb;exact⟨ha,by rw[Zk];exact hl,vs,_,rv,ha⟩
      · have z':=(Zj hb).symm.trans z
        cases z'
    · by_cases hb:b=a
      · exact hb
      · exact absurd (Zj hb) z
theorem walk_of{l:W.OpenLaw}{n k:Nat}{q:Program}{loose:List Str}{XP:(Str→Option Value)→Heap→Prop}{YP:World→Heap→Prop}{d:DefRec}{K:Params→W.Frag}{CX:World→CXT}{sp:World→Sp}{x:Str}
  (hn:l.most=some n) (hn2:n≤sizeLine) (hdf:d.params.defaults=[]) (hr:Room k callerA)
  (hY:∀(w:World) (h:Heap),YP w h→(K w.params).In h)
  (F:∀(w:World) (mg:Str→Option Value) (fa:Addr) (h:Heap),(K w.params).In h→h.Ns mainGlobals mg→mg d.name=some (.ref fa) →
   ∃ fd:FuncData,(∀(s:Shared) (u:Value),BindsTo s fd ⟨[u],[]⟩ [(x,u)]) ∧
    ∀ base:Heap,(K w.params).In base→base.Ns mainGlobals mg→FnOk l.prog w (K w.params) mg base (CX w) k fa fd [x] (sp w))
  (hsp:∀(w:World) (H:Hp) (a:Addr) (ns:List Int),ns.length≤n→Zp5 H→SqL (K w.params) H a (ns.map V.int)→sp w [.ref a] H (fun v _=>v = .bl true) fun _ _ _=>False)
  (hCX:∀(w:World) (H:Hp) (s:Shared) (e:Value) (s':Shared),CX w [] H s (fun _ _ _=>False) e s'→False) :
  W.WalkO q loose XP YP l.row.toRowW d [] (fun f vs=>PySem.call f vs):=by
 refine Att.attach_call hn hdf fun w s₀ s₁ mg mb fa o pm cd doc a vs ns G Y ho hd hcd hmg hobj hints hlen hg=>?_;have KX:=hY w _ Y;obtain⟨fd,hb,hF⟩:=F w mg fa _ KX G.T.g hmg;exact Zj0 KX G.T.g G.T.b G.T.builtins G.T.nolimit hg hobj hints (Jd hlen hn2) hr hF hb (fun H hO hS=>hsp w H a ns hlen hO hS) fun H e s'=>hCX w H s₁ e s'
def Yn(s:Stmt)(j:Nat):Stmt:=match s with
 | .ClassDef _ _ _ body _ _ _ _ _ _ _=>body.getD j (.Pass ⟨0,0,0,0⟩)
 | _=>.Pass ⟨0,0,0,0⟩
def Uo(s:Stmt):Arguments:=match s with
 | .FunctionDef _ a _ _ _ _ _ _ _ _=>a
 | _=>{ posonlyargs:=[],args:=[],vararg:=none,kwonlyargs:=[],kw_defaults:=[],kwarg:=none,defaults:=[] }
def Y1(s:Stmt):List Stmt:=match s with
 | .FunctionDef _ _ b _ _ _ _ _ _ _=>b
 | _=>[]
def Zm(s:Stmt):Scope:=match s with
 | .FunctionDef _ _ _ _ _ _ sc _ _ _=>sc
 | _=>{ kind:=.function,names:=[],isGenerator:=false,isCoroutine:=false }
abbrev Yq:CXT:=fun _ _ _ _ _ _=>False
abbrev E0:XK:=fun _ _ _=>False
theorem Jb{X:Cx}:Eb Yq X E0:=fun _ _ _ _ _ _ _ h=>h.elim
structure Fun(K:W.Frag)(x qual:Str)(st:Stmt)(f:Addr)(fd:FuncData):Prop where
 ex:∃(oc:Value) (od:Option Addr) (kV doc pm:Value) (an:Option Addr) (cdv ct:Value) (osl:Array (Option Value)),
  fd=W.fnOf x qual (Uo st) (Y1 st) (Zm st) .none kV doc pm an cdv ct∧K.lookup f=some ⟨oc,od,.func fd,osl⟩∧W.codeIn K cdv qual=true
 kp:W.keepIn K (.ref f)=true
section
variable{P:Program}{w:World}{K:W.Frag}{mg:Str→Option Value}{base:Heap}
theorem Fun.ok{x qual:Str}{st:Stmt}{f:Addr}{fd:FuncData}{N ps:List Str}{k:Nat}{sp:Sp}(F:Fun K x qual st f fd)(S:FnScope N ps (Zm st))(len:∀ vs H Q E,sp vs H Q E→vs.length=ps.length)
  (hbody:∀(cdv:Value) (A:Around) (outer:List Env) (s:Shared) (H:Hp) (vs:List V) (Q:VK) (E:XK),Room k (A.deeper (envOfC qual (Zm st) s.heap.objs.size f cdv))→sp vs H Q E →
   ∃ t,PSs (Nb Yq P w K mg base N qual (Zm st) f cdv A outer s H E).nox (Y1 st) t∧t { nx:=fun _ H'=>Q .non H',rt:=Q } (start N vs) H):FnOk P w K mg base Yq (k+1) f fd ps sp:=by
 obtain⟨oc,od,kV,doc,pm,an,cdv,ct,osl,rfl,lk,hcd⟩:=F.ex;refine Zkb lk hcd S len fun A outer s H vs Q E hr hsp=>?_;obtain⟨t,h,q⟩:=hbody cdv A outer s H vs Q E hr hsp;exact⟨t,h.nox,q⟩
theorem Fun.binds{x qual:Str}{st:Stmt}{f:Addr}{fd:FuncData}{ps:List Str}(F:Fun K x qual st f fd)
  (h:∀(kV doc pm:Value) (an:Option Addr) (cdv ct:Value) (us:List Value),us.length=ps.length→bindArgs (W.fnOf x qual (Uo st) (Y1 st) (Zm st) .none kV doc pm an cdv ct) ⟨us,[]⟩=pure (ps.zip us)):Binds K fd ps []:=by
 obtain⟨oc,od,kV,doc,pm,an,cdv,ct,osl,rfl,lk,hcd⟩:=F.ex;exact .all (h kV doc pm an cdv ct)
theorem fun_mk{x qual:Str}{st:Stmt}{f:Addr}{oc:Value}{od an:Option Addr}{osl:Array (Option Value)}{kV doc pm cdv ct:Value}(l:K.lookup f=some ⟨oc,od,.func (W.fnOf x qual (Uo st) (Y1 st) (Zm st) .none kV doc pm an cdv ct),osl⟩)
  (c:W.codeIn K cdv qual=true) (k:W.keepIn K (.ref f)=true):Fun K x qual st f (W.fnOf x qual (Uo st) (Y1 st) (Zm st) .none kV doc pm an cdv ct):=⟨⟨oc,od,kV,doc,pm,an,cdv,ct,osl,rfl,l,c⟩,k⟩
end
theorem Qz{n:Nat}(h:n≤1000):n < sizeLine:=Jx h (by decide)
section
variable{X:Cx}
theorem pv(i:Nat){x:Str}{pos:Pos}(hN:X.N[i]? = some x:=by rfl)(hv:Vis X.env.scope x:=by first | exact Or.inl rfl | exact Or.inr (Or.inl rfl) | exact Or.inr (Or.inr rfl))(hd:(x == ("__debug__":Str))=false:=by decide)
  (hcd:(x == ("__classdict__":Str))=false:=by decide):PE X (.Name x pos) (Zqg i):=Zor hN hv hd hcd
end
theorem J3{A B:Prop}(h:B):if false=true then A else B:=by
 rw[Zj Zp];exact h
theorem Yt{A B:Prop}(h:A):if true=true then A else B:=by
 rw[Zv rfl];exact h
theorem M3{c A B:Prop} [Decidable c](h1:c→A)(h2:¬ c→B):if c then A else B:=by
 by_cases h:c
 ·rw[Zv h]
  exact h1 h
 ·rw[Zj h]
  exact h2 h
def Same(H H':Hp):Prop:=∀ b o,H b=some o→H' b=some o
theorem Same.refl(H:Hp):Same H H:=fun _ _ h=>h
theorem Same.trans{H H1 H2:Hp}(a:Same H H1)(b:Same H1 H2):Same H H2:=fun c o h=>b c o (a c o h)
theorem Same.free{H H':Hp}(e:Same H H'){l:Addr}(h:H' l=Option.none):H l=Option.none:=by
 cases q:H l with
 | none=>rfl
 | some o=>
  rw[e l o q] at h;cases h
theorem Same.seq{K:W.Frag}{H H':Hp}{a:Addr}{xs:List V}(e:Same H H')(h:SqL K H a xs):SqL K H' a xs:=by
 rcases h with(h | ⟨o,h⟩) | h
 ·exact .inl (.inl (e _ _ h))
 ·exact .inl (.inr ⟨o,e _ _ h⟩)
 ·exact .inr h
end L2
set_option maxHeartbeats 4000000
namespace L2
open PySem PySem.Spec PyProof.Rows
def Nd(env:Env):List (Str×NameKind)→List (Str×Addr)→List (Str×Addr)
 | [],acc=>acc
 | (n,k) :: r,acc=>Nd env r (if k == NameKind.free then(match env.cells.lookup n with | some c=>(n,c) :: acc | none=>acc) else acc)
theorem Zac{env:Env}{f:Str×NameKind→List (Str×Addr)→Sem (ForInStep (List (Str×Addr)))}
  (hf:∀ n k acc,f (n,k) acc=if(k == NameKind.free)=true then(do let c ← cellOf env n;pure (ForInStep.yield ((n,c) :: acc))) else pure (ForInStep.yield acc)) :
  ∀(l:List (Str×NameKind)) (acc:List (Str×Addr)),(∀ y∈l,y.2 = .free→∃ c,env.cells.lookup y.1=some c)→forIn l acc f=(pure (Nd env l acc):Sem _)
 | [],acc,_=>rfl
 | (n,k) :: r,acc,h=>by
  rw[List.forIn_cons,hf];have ih:=Zac hf r;by_cases hk:(k == NameKind.free)=true
  ·have hk':k = .free:=by simpa using hk
   obtain⟨c,hc⟩:=h (n,k) Zw hk';have e:cellOf env n=(pure c:Sem _):=by unfold cellOf;rw[hc]
   rw[Zv hk,e,pure_bind,pure_bind];show forIn r ((n,c) :: acc) f=_;rw[ih _ fun y hy=>h y (Zx _ hy)];unfold Nd;rw[Zv hk];have hc2:List.lookup n env.cells=some c:=hc;simp only[hc2];cases r<;>rfl
  ·rw[Zj hk,pure_bind]
   show forIn r acc f=_;rw[ih _ fun y hy=>h y (Zx _ hy)]
   conv=>rhs;unfold Nd
   rw[Zj hk]
theorem Zpy{scope:Scope}{env:Env}(h:∀ y∈scope.names,y.2 = .free→∃ c,env.cells.lookup y.1=some c):closureFor scope env=(pure (Nd env scope.names []):Sem _):=by
 have e:closureFor scope env=(forIn scope.names ([]:List (Str×Addr)) (fun x cs=>match x with
   | (name,kind)=>if(kind == NameKind.free)=true then(do let c ← cellOf env name;pure (ForInStep.yield ((name,c) :: cs))) else pure (ForInStep.yield cs)) >>= fun cs=>pure cs):=rfl
 rw[e,Zac (env:=env) (fun n k acc=>rfl) scope.names [] h];rfl
theorem Nz{env:Env}:∀{l:List (Str×NameKind)} {acc:List (Str×Addr)},(∀ x c,acc.lookup x=some c→env.cells.lookup x=some c)→∀ x c,(Nd env l acc).lookup x=some c→env.cells.lookup x=some c
 | [],acc,h,x,c,e=>h x c e
 | (n,k) :: r,acc,h,x,c,e=>by
  unfold Nd at e;refine Nz (l:=r) (fun y d hd=>?_) x c e;by_cases hk:(k == NameKind.free)=true
  ·rw[Zv hk] at hd
   cases hc:env.cells.lookup n with
   | none=>rw[hc] at hd;exact h y d hd
   | some c'=>
    rw[hc] at hd;simp only[List.lookup_cons] at hd;by_cases hy:(y == n)=true
    ·rw[hy] at hd
     have e1:y=n:=by simpa using hy
     cases hd;rw[e1];exact hc
    ·have hy':(y == n)=false:=by simpa using hy
     rw[hy'] at hd;exact h y d hd
  ·rw[Zj hk] at hd;exact h y d hd
theorem Zea{env:Env}:∀{l:List (Str×NameKind)} {acc:List (Str×Addr)} {x:Str},(acc.lookup x).isSome=true→((Nd env l acc).lookup x).isSome=true
 | [],acc,x,h=>h
 | (n,k) :: r,acc,x,h=>by
  unfold Nd;refine Zea (l:=r) ?_;by_cases hk:(k == NameKind.free)=true
  ·rw[Zv hk]
   cases hc:env.cells.lookup n with
   | none=>exact h
   | some c'=>
    simp only[List.lookup_cons];by_cases hy:(x == n)=true
    ·rw[hy];rfl
    ·have hy':(x == n)=false:=by simpa using hy
     rw[hy'];exact h
  ·rw[Zj hk];exact h
theorem Zck{env:Env}:∀{l:List (Str×NameKind)} {acc:List (Str×Addr)} {x:Str} {c:Addr},(x,NameKind.free)∈l→env.cells.lookup x=some c→((Nd env l acc).lookup x).isSome=true
 | (n,k) :: r,acc,x,c,hm,hc=>by
  unfold Nd;rcases Ja.mp hm with e | hm
  ·cases e
   rw[Zv (by rfl)];rw[hc];refine Zea ?_;simp
  ·exact Zck hm hc
theorem Bq{env:Env}:∀{names:List (Str×NameKind)} {x:Str} {k:NameKind},(∀ y∈names,y.2 ≠ .cell) →
  (names.map fun(n,k)=>if(k == NameKind.free && env.scope.kind == .function && env.kindOf n == some .cell) then(n,NameKind.cell) else(n,k)).lookup x=some k→(k = .cell∨k = .free)→(x,NameKind.free)∈names
 | [],_,_,_,h,_=>by simp at h
 | (n,j) :: r,x,k,hn,h,hk=>by
  rw[List.map_cons] at h;cases hx:x == n with
  | true=>
   have hxe:x=n:=by simpa using hx
   subst hxe;by_cases hc:(j == NameKind.free && env.scope.kind == .function && env.kindOf x == some .cell)=true
   ·have hj:j = .free:=by
     simp only[Bool.and_eq_true] at hc
     simpa using hc.1.1
    subst hj;exact Zw
   ·rw[show(match ((x,j):Str×NameKind) with | (n,k)=>if(k == NameKind.free && env.scope.kind == .function && env.kindOf n == some .cell)=true then(n,NameKind.cell) else(n,k))=(x,j) from Zj hc] at h
    simp only[List.lookup_cons,Qk] at h;cases h;rcases hk with e | e
    ·exact absurd e (hn (x,j) Zw)
    ·rw[e];exact Zw
  | false=>
   refine Zx _ (Bq (env:=env) (fun y hy=>hn y (Zx _ hy)) ?_ hk);by_cases hc:(j == NameKind.free && env.scope.kind == .function && env.kindOf n == some .cell)=true
   ·rw[show(match ((n,j):Str×NameKind) with | (n,k)=>if(k == NameKind.free && env.scope.kind == .function && env.kindOf n == some .cell)=true then(n,NameKind.cell) else(n,k))=(n,NameKind.cell) from Zv hc] at h
    simp only[List.lookup_cons,hx] at h;exact h
   ·rw[show(match ((n,j):Str×NameKind) with | (n,k)=>if(k == NameKind.free && env.scope.kind == .function && env.kindOf n == some .cell)=true then(n,NameKind.cell) else(n,k))=(n,j) from Zj hc] at h
    simp only[List.lookup_cons,hx] at h;exact h
theorem Vf{env:Env}:∀{names:List (Str×NameKind)} {x:Str},names.lookup x=some .free →
  (names.map fun(n,k)=>if(k == NameKind.free && env.scope.kind == .function && env.kindOf n == some .cell) then(n,NameKind.cell) else(n,k)).lookup x=some .cell ∨
  (names.map fun(n,k)=>if(k == NameKind.free && env.scope.kind == .function && env.kindOf n == some .cell) then(n,NameKind.cell) else(n,k)).lookup x=some .free
 | [],_,h=>by simp at h
 | (n,j) :: r,x,h=>by
  rw[List.map_cons];cases hx:x == n with
  | true=>
   simp only[List.lookup_cons,hx] at h;cases h;by_cases hc:(NameKind.free == NameKind.free && env.scope.kind == .function && env.kindOf n == some .cell)=true
   ·refine .inl ?_
    rw[show(match ((n,NameKind.free):Str×NameKind) with | (n,k)=>if(k == NameKind.free && env.scope.kind == .function && env.kindOf n == some .cell)=true then(n,NameKind.cell) else(n,k))=(n,NameKind.cell) from Zv hc];simp only[List.lookup_cons,hx]
   ·refine .inr ?_
    rw[show(match ((n,NameKind.free):Str×NameKind) with | (n,k)=>if(k == NameKind.free && env.scope.kind == .function && env.kindOf n == some .cell)=true then(n,NameKind.cell) else(n,k))=(n,NameKind.free) from Zj hc];simp only[List.lookup_cons,hx]
  | false=>
   simp only[List.lookup_cons,hx] at h;have ih:=Vf (env:=env) h;by_cases hc:(j == NameKind.free && env.scope.kind == .function && env.kindOf n == some .cell)=true
   ·rw[show(match ((n,j):Str×NameKind) with | (n,k)=>if(k == NameKind.free && env.scope.kind == .function && env.kindOf n == some .cell)=true then(n,NameKind.cell) else(n,k))=(n,NameKind.cell) from Zv hc]
    simp only[List.lookup_cons,hx];exact ih
   ·rw[show(match ((n,j):Str×NameKind) with | (n,k)=>if(k == NameKind.free && env.scope.kind == .function && env.kindOf n == some .cell)=true then(n,NameKind.cell) else(n,k))=(n,j) from Zj hc]
    simp only[List.lookup_cons,hx];exact ih
theorem Mb{x:Str}{k:NameKind}:∀{l:List (Str×NameKind)},l.lookup x=some k→(x,k)∈l
 | [],h=>by simp at h
 | (n,j) :: r,h=>by
  cases hx:x == n with
  | true=>
   simp only[List.lookup_cons,hx] at h;cases h;have e:x=n:=by simpa using hx
   rw[e];exact Zw
  | false=>
   simp only[List.lookup_cons,hx] at h;exact Zx _ (Mb h)
def blk(X:Cx)(N:List Str)(scope:Scope)(C:Addr)(s₀:Shared)(H₀:Hp)(ex:List Addr)(xe:Value→Shared→Prop):Cx:=
 { X with N:=N,s₀:=s₀,H₀:=H₀,env:=compEnvC scope (Nd X.env scope.names []) C X.env,outer:=X.stack,stack:=X.stack,ex:=ex,fn:=fun _=>false,pn:=[],xe:=xe }
structure Blk(X:Cx)(N:List Str)(caps:List (Option Nat))(scope:Scope):Prop where
 kind:scope.kind = .function
 nocell:∀ y∈scope.names,y.2 ≠ .cell
 names:∀ y∈scope.names,y.2 = .local→scope.names.lookup y.1=some .local
 free:∀ y∈scope.names,y.2 = .free→X.env.kindOf y.1=some .cell∨X.env.kindOf y.1=some .free
 len:caps.length=N.length
 cap:∀(i j:Nat) (x:Str),caps[i]? = some (some j)→N[i]? = some x→X.N[j]? = some x∧Vis X.env.scope x∧scope.names.lookup x=some .free
def Dx(caps:List (Option Nat))(σ:St):St:=caps.map fun c=>match c with | some j=>(σ[j]?).join | none=>none
section
variable{X:Cx}{pins:List (Addr×Obj)}{σ:St}{H:Hp}{s:Shared}
theorem Zpz{N:List Str}{caps:List (Option Nat)}{scope:Scope}{fp:List Addr}{xe:Value→Shared→Prop}(B:Blk X N caps scope)(I:Inv X pins σ H s)(hlt:∀ b∈fp,b < s.heap.objs.size)(hf:∀ b∈fp,R9 X pins H b) :
  (blk X N scope s.heap.objs.size s H fp xe).Ok where
 mod:=I.ok.mod
 kind:=B.kind
 glob:=I.ok.glob
 blt:=I.ok.blt
 above:=Zs _
 inj:=fun x y c hx hy=>I.ok.inj x y c (Nz (fun _ _ e=>by simp at e) x c hx) (Nz (fun _ _ e=>by simp at e) y c hy)
 has:=fun x hk=>by
  have hm:(x,NameKind.free)∈scope.names:=hk.elim (fun e=>Bq B.nocell e (.inl rfl)) fun e=>Bq B.nocell e (.inr rfl);obtain⟨c,hc⟩:=I.ok.has x (B.free _ hm rfl);exact Option.isSome_iff_exists.mp (Zck hm hc)
 cab:=fun x c h _=>by cases h
 hd:=I.ok.hd
 frames:=I.ok.frames
 stk:=.inl rfl
 exf:=fun b hb=>⟨Jh (hlt b hb),fun x c hc=>(hf b hb).2.2.2.2.1 x c (Nz (fun _ _ e=>by simp at e) x c hc)⟩
 bs:=I.bs
 bsz:=Jd I.ok.bsz I.sz
 noex:=fun b o e hb=>by
  rcases(hf b hb).2.2.2.1 with h | h
  ·exact I.ok.noex b o e h
  ·exact absurd (Z3 (I.ok.bs b o e).1) (Nat.not_lt.mpr h)
 exfs:=fun b hb hs=>by
  rcases Ja.mp (I.stkSub b hs) with e | e
  ·exact(hf b hb).2.1 e
  ·exact(hf b hb).2.2.1 e
 funs:=I.stack
 frf:=I.stkFree
theorem Zm0{N:List Str}{caps:List (Option Nat)}{scope:Scope}{fp:List Addr}{xe:Value→Shared→Prop}{h₁:Heap}{t':Nat}(B:Blk X N caps scope)(I:Inv X pins σ H s)(hlt:∀ b∈fp,b < s.heap.objs.size)(hf:∀ b∈fp,R9 X pins H b)
  {m:Str→Option Value} (hn:h₁.Ns s.heap.objs.size m) (hk:∀ b o,s.heap.get? b=some o→h₁.get? b=some o) :
  Inv (blk X N scope s.heap.objs.size s H fp xe) [] (Dx caps σ) H { s with heap:=h₁,toks:=t' } where
 ok:=Zpz B I hlt hf
 os:=rfl
 bare:=I.bare
 base:=Un.kept hk
 loc:=by
  refine⟨m,hn,fun i x v hN hσ hv=>?_⟩;unfold Dx at hσ;rw[Z4] at hσ;cases hc:caps[i]? with
  | none=>rw[hc] at hσ;cases hσ
  | some oj=>
   rw[hc] at hσ;cases oj with
   | none=>cases hσ
   | some j=>
    have hσ':(σ[j]?).join=some v:=Zy hσ;have hj:σ[j]? = some (some v):=by
     cases q:σ[j]? with
     | none=>rw[q] at hσ';cases hσ'
     | some o=>rw[q] at hσ';have:o=some v:=hσ';rw[this]
    obtain⟨hNj,hVis,hfr⟩:=B.cap i j x hc hN;obtain⟨m',_,hl⟩:=I.loc;obtain⟨u,ru,lk⟩:=hl j x v hNj hj hVis;have hm:=Mb hfr;have hkX:=B.free _ hm rfl;refine⟨u,ru,.inr ⟨Vf hfr,?_⟩⟩;rcases lk with⟨e,_⟩ | ⟨_,c,hc1,hc2⟩
    ·rcases hkX with e' | e'
     ·rw[e] at e';cases e'
     ·rw[e] at e';cases e'
    ·obtain⟨c',hc'⟩:=Option.isSome_iff_exists.mp (Zck (env:=X.env) (acc:=[]) hm hc1)
     have h2:=Nz (fun _ _ e=>by simp at e) x c' hc';rw[hc1] at h2;cases h2;exact⟨c,hc',hc2.keeps hk⟩
 cell:=fun x c hc=>by
  obtain⟨v,hv⟩:=I.cell x c (Nz (fun _ _ e=>by simp at e) x c hc);exact⟨v,hv.keeps hk⟩
 free:=I.hok.fresh (Zs _)
 freeC:=fun x c hc=>I.freeC x c (Nz (fun _ _ e=>by simp at e) x c hc)
 pin:=fun p hp=>by cases hp
 hok:=I.hok.kept hk
 len:=by unfold Dx;rw[Zk];exact B.len
end
section
variable{prog:Program}{w:World}{A:Around}{R:Result→Shared→Prop}{s:Shared}
abbrev Zcp(ifs:List Expr)(env:Env):Sem Bool:=forIn ifs true fun c r=>if r=true then do let ok ← isTrue c env (eval c env);pure (ForInStep.yield ok) else pure (ForInStep.yield r)
theorem Zf7{elt target iter:Expr}{ifs:List Expr}{scope:Scope}{pos:Pos}{it acc:Value}{env:Env}(I:Nat→Shared→Prop)
  (turn:∀ n s,I n s→wpAny (model prog w) A (pyNext it) (fun r s₁=>match r with
   | none=>R (.ok .next) s₁
   | some v=>wpAny (model prog w) A (letOwnedTupleGo target it v) (fun _ s₁'=>wpAny (model prog w) A (assign target env v) (fun _ s₂=>
     wpAny (model prog w) A (Zcp ifs env) (fun ok s₃=>
      if ok=true then wpAny (model prog w) A (eval elt env) (fun x s₄=>
       wpAny (model prog w) A (call (.builtin "list.append") [acc,x]) (fun _ s₅=>∃ m,m < n∧I m s₅) (notedBy (model prog w) A env fun e s'=>R (.error e) s') s₄) (notedBy (model prog w) A env fun e s'=>R (.error e) s') s₃
      else ∃ m,m < n∧I m s₃) (notedBy (model prog w) A env fun e s'=>R (.error e) s') s₂) (notedBy (model prog w) A env fun e s'=>R (.error e) s') s₁') (notedBy (model prog w) A env fun e s'=>R (.error e) s') s₁) (notedBy (model prog w) A env fun e s'=>R (.error e) s') s)
  (n:Nat) (h:I n s):codeAny (model prog w) A (.compLoop (.ListComp elt [⟨target,iter,ifs,0⟩] scope pos) 0 it acc env) R s:=by
 refine codeAny_loop rfl I (fun n s hI=>?_) n h;show wpAny _ A ((compTurn (.ListComp elt [⟨target,iter,ifs,0⟩] scope pos) 0 it acc env).onRaise (fun x=>do noteFrame x env;theTreesLotGoes x)) _ _ s;refine wpAny_noted ?_;rw[compTurn_list];refine Zb (wpAny_standAt (Zb (wpAny_mono (turn n s hI) (fun r s₁ h₁=>?_) fun _ _ h'=>h')));cases r with
 | none=>exact Ze h₁
 | some v=>
  refine Zb (wpAny_mono h₁ (fun _ s₁' h₁'=>?_) fun _ _ h'=>h');refine Zb (wpAny_mono h₁' (fun _ s₂ h₂=>Zb (wpAny_mono h₂ (fun ok s₃ h₃=>?_) fun _ _ h'=>h')) fun _ _ h'=>h');cases ok with
  | false=>exact Ze ⟨rfl,h₃⟩
  | true=>
   exact Zb (Zb (wpAny_mono h₃ (fun x s₄ h₄=>Zb (wpAny_mono h₄ (fun _ s₅ h₅=>Ze (Ze ⟨rfl,h₅⟩)) fun _ _ h'=>h')) fun _ _ h'=>h'))
end
def PF(X:Cx)(ifs:List Expr)(t:TT):Prop:=
 ∀(pins:List (Addr×Obj)) (s:Shared) (σ:St) (H:Hp) (Q:Bool→Hp→Prop),Inv X pins σ H s→t σ H Q→wpAny (model X.prog X.w) X.A (Zcp ifs X.env) (TP X pins σ Q) X.xe s
def Zgz:TT:=fun _ H Q=>Q true H
theorem U4{X:Cx}:PF X [] Zgz:=fun pins s σ H Q I h=>wpAny_tests_nil ⟨H,I,h⟩
theorem Zie{X:Cx}{c:Expr}{t:TT}(h:PT X c t):PF X [c] t:=fun pins s σ H Q I q=>wpAny_tests_one (h pins s σ H Q I q)
def Ey(g:TG)(tt:TT)(te:TE)(σ0:St)(J:It)(H1:Hp)(Q:V→Hp→Prop):Prop:=
 ∀ l,H1 l=none→∃ W:Nat→Nat→St→Hp→Prop,(∃ m,W 0 m σ0 (upd H1 l (.lst [])))∧∀ i m σ H,W i m σ H →
  (J.stop i H∧Q (.ref l) H)∨(J.go i H∧∀ x H',J.yld i H x H'→g x σ H' fun σ2 H2=>tt σ2 H2 fun c H3=>
   if c=true then te σ2 H3 fun v H4=>∃ xs,H4 l=some (.lst xs)∧xs.length < sizeLine∧∃ m',m' < m∧W (i+1) m' σ2 (upd H4 l (.lst (xs++[v])))
   else ∃ m',m' < m∧W (i+1) m' σ2 H3)
def Znc(caps:List (Option Nat))(wi:TI)(g:TG)(tt:TT)(te:TE):TE:=fun σ H Q=>wi σ H fun J H1=>Ey g tt te (Dx caps σ) J H1 Q
structure Loose(X:Cx)(pins:List (Addr×Obj))(H:Hp)(C:Addr):Prop where
 un:H C=none
 loc:C≠X.env.locals
 ab:X.s₀.heap.objs.size≤C
 cel:∀ x c,X.env.cells.lookup x=some c→c≠C
 pin:∀ p∈X.pn++pins,p.1≠C
section
variable{X:Cx}{pins:List (Addr×Obj)}{σ:St}{H:Hp}{s:Shared}
def Zs6(X:Cx)(N:List Str)(scope:Scope)(use:Option (Value→Sem Unit))(Q:Value→Shared→Prop)(acc:Value)(C:Addr):Value→Shared→Prop:=
 notedBy (model X.prog X.w) X.A (compEnvC scope (Nd X.env scope.names []) C X.env) fun e s'=>compPost (model X.prog X.w) X.A X.xe use Q acc C (.error e) s'
theorem Dw{tg elt iter:Expr}{ifs:List Expr}{scope:Scope}{pos pos':Pos}{N:List Str}{caps:List (Option Nat)}{wi:TI}{g:TG}{tt:TT}{te:TE}{use:Option (Value→Sem Unit)}{Q:Value→Shared→Prop}{Qv:V→Hp→Prop}
  {xe:Value→Shared→Prop} (hc:X.calm=true) (B:Blk X N caps scope) (hi:PI X tg iter wi)
  (hg:∀ C s₀ H₀ ex,PG (blk X N scope C s₀ H₀ ex xe) tg g) (ht:∀ C s₀ H₀ ex,PF (blk X N scope C s₀ H₀ ex xe) ifs tt) (he:∀ C s₀ H₀ ex,PE (blk X N scope C s₀ H₀ ex xe) elt te)
  (I:Inv X pins σ H s) (h:wi σ H fun J H1=>Ey g tt te (Dx caps σ) J H1 Qv)
  (fin:∀ l C H' s5,Inv X pins σ H' s5→(∃ m,s5.heap.Ns C m)→Loose X pins H' C→Qv (.ref l) H'→compPost (model X.prog X.w) X.A X.xe use Q (.ref l) C (.ok .next) s5)
  (hx:∀ acc C e s',xe e s'→Zs6 X N scope use Q acc C e s')
  (hs:∀ x,foldedSetIterable iter X.env x=pure x:=by intro _;rfl) :
  wpAny (model X.prog X.w) X.A (comprehension (.ListComp elt [⟨tg,iter,ifs,0⟩] scope pos) scope X.env pos' (newList []) false (eval iter X.env) use) Q X.xe s:=by
 have hclos:closureFor scope X.env=(pure (Nd X.env scope.names []):Sem _):=Zpy fun y hy hf=>I.ok.has y.1 (B.free y hy hf);refine wpAny_comprehension_free rfl hs hclos B.kind B.names (Ub (hi pins s σ H _ I h) fun v s1 h1=>Ub h1 fun itv s2 h2=>?_);obtain⟨it,fp,tn,J,H2,e,I2,T,st2,f2,hJ⟩:=h2;subst e;have I3:Inv X pins σ (upd H2 s2.heap.objs.size (.lst [])) { s2 with heap:=s2.heap.push { cls:=.type "list",data:=.seq ([]:List Value).toArray },toks:=s2.toks }:=I2.lnew (ys:=[]) (its:=[]) .nil (Nat.zero_le _);have hfr2:H2 s2.heap.objs.size=none:=I2.fresh;obtain⟨W,⟨m0,w0⟩,turn⟩:=hJ s2.heap.objs.size hfr2;refine wpAny_newList ?_;generalize hs3:({ s2 with heap:=s2.heap.push { cls:=.type "list",data:=.seq ([]:List Value).toArray } }:Shared)=s3;have es3:({ s2 with heap:=s2.heap.push { cls:=.type "list",data:=.seq ([]:List Value).toArray },toks:=s2.toks }:Shared)=s3:=hs3;rw[es3] at I3;have keep3:∀ b o,s2.heap.get? b=some o→s3.heap.get? b=some o:=fun b o e=>by rw[← hs3];exact Zh _ e
 have fpo:∀ b∈fp,∃ o,s2.heap.get? b=some o∧∀ v,o.data ≠ .cell v:=T.obj _ _ st2;have hlt2:∀ b∈fp,b < s2.heap.objs.size:=fun b hb=>by obtain⟨o,e,_⟩:=fpo b hb;exact Z3 e
 have hlt3:∀ b∈fp,b < s3.heap.objs.size:=fun b hb=>by obtain⟨o,e,_⟩:=fpo b hb;exact Z3 (keep3 b o e)
 have hf3:∀ b∈fp,R9 X pins (upd H2 s2.heap.objs.size (.lst [])) b:=fun b hb=>⟨by rw[Z8 (Jh (hlt2 b hb))];exact(f2 b hb).1,(f2 b hb).2⟩;refine wpAny_newFunctionEnv B.nocell (by intro y hy;simp at hy) (fun h₁ hns₁ hsb₁=>?_) B.kind
 try dsimp only at hns₁ hsb₁ ⊢
 have keep4:∀ b o,s3.heap.get? b=some o→h₁.get? b=some o:=fun b o e=>hsb₁.extBut b o (Jh (Z3 e)) (Zh _ e);have I4:∀ t',Inv (blk X N scope s3.heap.objs.size s3 (upd H2 s2.heap.objs.size (.lst [])) fp xe) [] (Dx caps σ) (upd H2 s2.heap.objs.size (.lst [])) { s3 with heap:=h₁,toks:=t' }:=fun t'=>Zm0 B I3 hlt3 hf3 hns₁ keep4;generalize hY:blk X N scope s3.heap.objs.size s3 (upd H2 s2.heap.objs.size (.lst [])) fp xe=Y at I4;have Yp:Y.prog=X.prog:=by rw[← hY];rfl
 have Yw:Y.w=X.w:=by rw[← hY];rfl
 have YK:Y.K=X.K:=by rw[← hY];rfl
 have Yc:Y.calm=true:=by rw[← hY];exact hc
 have YA:Y.A=X.A:=by rw[← hY];rfl
 have Yx:Y.xe=xe:=by rw[← hY];rfl
 have Ye:Y.env=compEnvC scope (Nd X.env scope.names []) s3.heap.objs.size X.env:=by rw[← hY];rfl
 have hgY:PG Y tg g:=by rw[← hY];exact hg _ _ _ _
 have htY:PF Y ifs tt:=by rw[← hY];exact ht _ _ _ _
 have heY:PE Y elt te:=by rw[← hY];exact he _ _ _ _
 have stat:∀{H':Hp},(∀ b∈fp,H' b=none)→∀ b∈fp,R9 Y [] H' b:=fun {H'} hn b hb=>by
  refine⟨hn b hb,?_,?_,.inl (by rw[← hY];exact hb),?_,?_⟩
  ·rw[Ye];exact Jh (hlt3 b hb)
  ·intro hm
   rw[← hY] at hm;rcases Ja.mp (I3.stkSub b hm) with e | e
   ·exact(f2 b hb).2.1 e
   ·exact(f2 b hb).2.2.1 e
  ·intro x c hcl
   rw[Ye] at hcl;exact(f2 b hb).2.2.2.2.1 x c (Nz (fun _ _ e=>by simp at e) x c hcl)
  ·intro p hp
   rw[← hY] at hp;cases hp
 have st4:tn 0 h₁:=T.keep _ _ _ st2 fun b hb o e=>keep4 b o (keep3 b o e);have toX:∀ e s',xe e s'→notedBy (model X.prog X.w) X.A (compEnvC scope (Nd X.env scope.names []) s3.heap.objs.size X.env) (fun e s'=>compPost (model X.prog X.w) X.A X.xe use Q (.ref s2.heap.objs.size) s3.heap.objs.size (.error e) s') e s':=fun e s' hxe=>hx _ _ e s' hxe;have loop:∀ tk,codeAny (model X.prog X.w) X.A (.compLoop (.ListComp elt [⟨tg,iter,ifs,0⟩] scope pos) 0 (.ref it) (.ref s2.heap.objs.size) (compEnvC scope (Nd X.env scope.names []) s3.heap.objs.size X.env))
   (compPost (model X.prog X.w) X.A X.xe use Q (.ref s2.heap.objs.size) s3.heap.objs.size) { s3 with heap:=h₁,toks:=tk }:=by
  intro tk;refine Zf7 (fun n s'=>∃ i σ' H',Inv Y [] σ' H' s'∧tn i s'.heap∧(∀ b∈fp,H' b=none)∧W i n σ' H') ?_ m0 ⟨0,_,_,I4 tk,st4,fun b hb=>(hf3 b hb).1,w0⟩;rintro n s5 ⟨i,σ5,H5,I5,st5,fr5,w5⟩;have moX:∀{α:Type} {t:Sem α} {Q1:α→Shared→Prop} {s:Shared},wpAny (model X.prog X.w) X.A t Q1 xe s→wpAny (model X.prog X.w) X.A t Q1
    (notedBy (model X.prog X.w) X.A (compEnvC scope (Nd X.env scope.names []) s3.heap.objs.size X.env) (fun e s'=>compPost (model X.prog X.w) X.A X.xe use Q (.ref s2.heap.objs.size) s3.heap.objs.size (.error e) s')) s:=
   fun h=>wpAny_mono h (fun _ _ q=>q) toX
  rcases turn i n σ5 H5 w5 with⟨stop,q⟩ | ⟨go,step⟩
  ·have z:=T.done Y Yp Yw YK Yc i [] s5 σ5 H5 xe I5 (stat fr5) st5 stop
   rw[YA] at z;refine moX (Ub z fun r s6 ⟨hr,I6⟩=>?_);subst hr;obtain⟨m,hm,_⟩:=I6.loc;have hCn:H5 s3.heap.objs.size=none:=by have z:=I6.free;rw[Ye] at z;exact z
   have un:Un (Rg X.stack) fp (upd H2 s2.heap.objs.size (.lst [])) H5 s3.heap s6.heap:=by have z:=I6.base;rw[← hY] at z;exact z
   have hos:s6.os=s3.os:=by have z:=I6.os;rw[← hY] at z;exact z
   have hok:HOk X.prog X.w H5 s6.heap:=by have z:=I6.hok;rw[Yp,Yw] at z;exact z
   have IX:Inv X pins σ H5 s6:=I3.call' (ch:=fp) hos un hok I6.bare fun b hb=>⟨(f2 b hb).2.2.2.1,(f2 b hb).2.1,(f2 b hb).2.2.2.2.1,(f2 b hb).2.2.2.2.2⟩;refine fin _ _ H5 s6 IX ⟨m,by rw[Ye] at hm;exact hm⟩ ⟨hCn,?_,I3.sz,?_,?_⟩ q
   ·exact Nat.ne_of_gt I3.lt
   ·intro x c hcl
    obtain⟨v,hv⟩:=I3.cell x c hcl;exact Jh hv.lt
   ·intro p hp
    exact Jh (Z3 (I3.pin p hp).1)
  ·have z:=T.item Y Yp Yw YK Yc i [] s5 σ5 H5 xe I5 (stat fr5) st5 go
   rw[YA] at z;refine moX (Ub z fun r s6 ⟨u,hr,h6⟩=>?_);subst hr;refine moX (Ub h6 fun _ s7 ⟨x,H7,I7,r7,y7,st7,fr7⟩=>?_);have I7':=I7.pinned (stat fr7) (T.obj _ _ st7);have hN:=step x H7 y7;have again:∀{σ':St} {H':Hp} {s':Shared} {m':Nat},m' < n→Inv Y ([]++Tt fp s7.heap) σ' H' s'→W (i+1) m' σ' H'→∃ m,m < n∧∃ i σ'' H'',Inv Y [] σ'' H'' s'∧tn i s'.heap∧(∀ b∈fp,H'' b=none)∧W i m σ'' H'':=fun {σ' H' s' m'} hm I' w'=>by
    refine⟨m',hm,i+1,σ',H',I'.unpinned,T.keep _ _ _ st7 fun b hb o e=>(I'.pin (b,o) (List.mem_append_right _ (List.mem_append_right _ (E9 hb e)))).1,fun b hb=>?_,w'⟩;obtain⟨o,e,d⟩:=T.obj _ _ st7 b hb;exact(I'.pin (b,o) (List.mem_append_right _ (List.mem_append_right _ (E9 hb e)))).2.1
   have z:=hgY _ s7 σ5 H7 x u _ I7' r7 hN;rw[Yp,Yw,YA,Ye,Yx] at z;refine moX (Ub z fun _ s8 ⟨σ8,H8,I8,q8⟩=>?_);have z:=htY _ s8 σ8 H8 _ I8 q8;rw[Yp,Yw,YA,Ye,Yx] at z;refine moX (Ub z fun ok s9 ⟨H9,I9,q9⟩=>?_);cases ok with
   | false=>
    obtain⟨m',hm,w'⟩:=q9;exact again hm I9 w'
   | true=>
    have q9':te σ8 H9 fun v H4=>∃ xs,H4 s2.heap.objs.size=some (.lst xs)∧xs.length < sizeLine∧∃ m',m' < n∧W (i+1) m' σ8 (upd H4 s2.heap.objs.size (.lst (xs++[v]))):=q9;have z:=heY _ s9 σ8 H9 _ I9 q9';rw[Yp,Yw,YA,Ye,Yx] at z;refine moX (Ub z fun u10 s10 ⟨v10,H10,I10,r10,q10⟩=>?_);obtain⟨xs,hl,hz,m',hm,w'⟩:=q10;have ap:=Bd (X:=Y) _ s10 σ8 H10 (.ref s2.heap.objs.size) [v10] (.ref s2.heap.objs.size) [u10] (fun _ H'=>W (i+1) m' σ8 H') I10 rfl (.cons r10 .nil) ⟨_,xs,v10,rfl,rfl,hl,hz,w'⟩;rw[Yp,Yw,YA,Yx] at ap;refine moX (Ub ap fun _ s11 ⟨_,H11,I11,_,w11⟩=>again hm I11 w11)
 exact codeAny_compStart_list (loop _) (T.self _ 0 _ _ _ st4 (loop _))
theorem Ug{tg elt iter:Expr}{ifs:List Expr}{scope:Scope}{pos:Pos}(N:List Str)(caps:List (Option Nat)){wi:TI}{g:TG}{tt:TT}{te:TE}(hc:X.calm=true)(B:Blk X N caps scope)(hi:PI X tg iter wi)
  (hg:∀ C s₀ H₀ ex,PG (blk X N scope C s₀ H₀ ex fun _ _=>False) tg g) (ht:∀ C s₀ H₀ ex,PF (blk X N scope C s₀ H₀ ex fun _ _=>False) ifs tt) (he:∀ C s₀ H₀ ex,PE (blk X N scope C s₀ H₀ ex fun _ _=>False) elt te)
  (hs:∀ x,foldedSetIterable iter X.env x=pure x:=by intro _;rfl):PE X (.ListComp elt [⟨tg,iter,ifs,0⟩] scope pos) (Znc caps wi g tt te):=by
 intro pins s σ H Q I h;rw[eval_ListComp];refine Dw (use:=none) (Qv:=Q) hc B hi hg ht he I h (fun l C H' s5 I5 ⟨m,hm⟩ lo q=>?_) (fun _ _ _ _ f=>f.elim) hs;refine⟨m,hm,fun h' hs'=>⟨.ref l,H',?_,rfl,q⟩⟩;exact I5.turned (it:=C) (t':=s5.toks) (fun b o hb e=>hs'.extBut b o hb e) lo.un lo.loc (.inr lo.ab) lo.cel lo.pin
theorem To{i:Nat}{x:Str}{pos':Pos}{tg elt iter:Expr}{ifs:List Expr}{scope:Scope}{pos spos:Pos}(N:List Str)(caps:List (Option Nat)){wi:TI}{g:TG}{tt:TT}{te:TE}(hc:X.calm=true)
  (hN:X.N.Nodup) (hi':X.N[i]? = some x) (hx:Loc X.env.scope x) (B:Blk X N caps scope) (hi:PI X tg iter wi)
  (hg:∀ C s₀ H₀ ex,PG (blk X N scope C s₀ H₀ ex fun _ _=>False) tg g) (ht:∀ C s₀ H₀ ex,PF (blk X N scope C s₀ H₀ ex fun _ _=>False) ifs tt) (he:∀ C s₀ H₀ ex,PE (blk X N scope C s₀ H₀ ex fun _ _=>False) elt te)
  (hsw:swapsWith (.ListComp elt [⟨tg,iter,ifs,0⟩] scope pos) (some (.Name x pos')) spos.line X.env=pure true:=by rfl)
  (hs:∀ x,foldedSetIterable iter X.env x=pure x:=by intro _;rfl) (hf:X.fn x=true∨X.env.scope.names.lookup x=some .local:=by first | exact .inl rfl | exact .inr rfl | assumption) :
  PS X (.Assign [.Name x pos'] (.ListComp elt [⟨tg,iter,ifs,0⟩] scope pos) spos) (Zk1 (Znc caps wi g tt te) (Qw i)):=by
 intro pins s σ H D I h;rw[exec_Assign_Name_used _ _ _ _ hsw];refine Zb (wpAny_standAt (Zb ?_));show wpAny _ X.A (do let _ ← comprehension (.ListComp elt [⟨tg,iter,ifs,0⟩] scope pos) scope X.env _ (newList []) false (eval iter X.env) (some (assign (.Name x pos') X.env))) _ _ s;refine Zb (wpAny_mono (Dw (use:=some (assign (.Name x pos') X.env)) (Q:=fun _ s'=>SP X pins D .next s') (Qv:=fun v H1=>Qw i v σ H1 D.nx) hc B hi hg ht he I h (fun l C H' s5 I5 ⟨m,hm⟩ lo q=>?_) (fun _ _ _ _ f=>f.elim) hs)
  (fun _ s' hq=>Ze (Ze hq)) fun _ _ e=>e)
 show wpAny _ X.A (assign (.Name x pos') X.env (.ref l)) _ _ _;refine wpAny_assign_Name (M7 I5 hN hi' hx (v:=.ref l) rfl (fun s6 I6 ⟨a,sb,ha⟩=>?_) hf);have hCa:C≠a:=by
  rcases ha with e | e
  ·rw[e];exact lo.loc
  ·exact Ne.symm (lo.cel x a e)
 refine⟨m,hm.sameBut sb hCa,fun h' hs'=>⟨_,H',?_,q⟩⟩;exact I6.turned (it:=C) (t':=s6.toks) (fun b o hb e=>hs'.extBut b o hb e) lo.un lo.loc (.inr lo.ab) lo.cel lo.pin
end
section
variable{X:Cx}
def Wide(i:Int):Prop:=i.natAbs < 2 ^ 4000
def Zsp(K:W.Frag)(neg:Bool):R2:=fun x y H Q=>∃(a b:Addr) (ns ms:List Int),x = .ref a∧y = .ref b∧SqL K H a (ns.map V.int)∧SqL K H b (ms.map V.int)∧Q (.bl (if neg then !decide (ns=ms) else decide (ns=ms))) H
theorem Qq{h:Heap}{a:Addr}{its:Array Value}(p:PlainL h a its):h.IsList a its:=by
 obtain⟨o,n,e,c,_,d⟩:=p;exact⟨o,e,c,n,d⟩
theorem Zoy(hu:X.A.units+64 < cLine):Nf X (compareOp .Eq) (Zsp X.K false):=by
 intro pins s σ H x y v u Q I rx ry h;obtain⟨a,b,ns,ms,rfl,rfl,hA,hB,q⟩:=h;cases rx;cases ry;obtain⟨ia,va,pa,_⟩:=I.list hA;obtain⟨ib,vb,pb,_⟩:=I.list hB;exact W.ke_eq_ints (Qq pa) (Qq pb) (Qh va) (Qh vb) hu ⟨.bl _,H,I,rfl,q⟩
def Zso(K:W.Frag):List V→Hp→VK→Prop:=fun xs H Q=>∃ x n t b,xs=[x,.ty n]∧TyOf K H x t∧W.kitOne K t (.type n)=some b∧Q (.bl b) H
theorem Uz:Xw X (.builtin "isinstance") (Zso X.K):=by
 intro pins s σ H xs us Q I r h;obtain⟨x,n,t,b,rfl,ty,e,q⟩:=h;obtain⟨u,w',rfl,r1,r2⟩:=Zcn r;cases r2;exact Zfy I r1 ty e fun tk=>⟨.bl b,H,I.tok tk,rfl,q⟩
end
def Znr(sc:Scope)(N0 N:List Str)(caps:List (Option Nat))(scope:Scope):Bool:=
 decide (scope.kind = .function) && scope.names.all (fun y=>decide (y.2 ≠ .cell)) && scope.names.all (fun y=>decide (y.2 ≠ .local) || decide (scope.names.lookup y.1=some .local)) &&
 scope.names.all (fun y=>decide (y.2 ≠ .free) || (decide (sc.names.lookup y.1=some .cell) || decide (sc.names.lookup y.1=some .free))) && decide (caps.length=N.length) &&
 (List.range caps.length).all fun i=>match caps[i]?,N[i]? with
  | some (some j),some x=>decide (N0[j]? = some x) && (decide (sc.names.lookup x=some .cell) || decide (sc.names.lookup x=some .free)) && decide (scope.names.lookup x=some .free)
  | _,_=>true
theorem Blk.by{X:Cx}{N:List Str}{caps:List (Option Nat)}{scope:Scope}{sc:Scope}{N0:List Str}(hsc:X.env.scope=sc)(hN:X.N=N0)(h:Znr sc N0 N caps scope=true):Blk X N caps scope:=by
 unfold Znr at h;simp only[Bool.and_eq_true,decide_eq_true_eq,Ym,Bool.or_eq_true] at h;obtain⟨⟨⟨⟨⟨h1,h2⟩,h3⟩,h4⟩,h5⟩,h6⟩:=h;subst hsc;subst hN;refine⟨h1,h2,fun y hy e=>(h3 y hy).elim (fun z=>absurd e z) id,fun y hy e=>(h4 y hy).elim (fun z=>absurd e z) id,h5,fun i j x e1 e2=>?_⟩;have hi:i < caps.length:=(Zu.mp e1).1;have z:=h6 i (Yg.mpr hi);rw[e1,e2] at z;simp only[Bool.and_eq_true,decide_eq_true_eq,Bool.or_eq_true] at z;exact⟨z.1.1,.inr z.1.2,z.2⟩
theorem Je{H:Hp}{p:Addr}(h:H p=none)(o:HO):Same H (upd H p o):=fun b u q=>by rw[Z8 (Jz q h)];exact q
theorem N6{H0 H:Hp}{p:Addr}(h:H0 p=none)(s:Same H0 H)(o:HO):Same H0 (upd H p o):=fun b u q=>by rw[Z8 (Jz q h)];exact s b u q
theorem Vr{tt:TT}{te:TE}{σ0:St}{H1:Hp}{Q:V→Hp→Prop}{J:It}(n:Nat)(xs:Nat→V)(p:Nat→Bool)(f:Nat→V)(hn:n≤sizeLine)
  (hgo:∀ i H,Same H1 H→i < n→J.go i H) (hstop:∀ H,Same H1 H→J.stop n H) (hy:∀ i H x H',Same H1 H→i < n→J.yld i H x H'→H'=H∧x=xs i)
  (hT:∀ i H,i < n→Same H1 H→∀ R:Bool→Hp→Prop,(∀ H',Same H H'→R (p i) H')→tt (σ0.set 0 (some (xs i))) H R)
  (hE:∀ i H,i < n→p i=true→Same H1 H→∀ R:V→Hp→Prop,(∀ H',Same H H'→R (f i) H')→te (σ0.set 0 (some (xs i))) H R)
  (hQ:∀ l H,Same H1 H→H1 l=none→H l=some (.lst (((List.range n).filter p).map f))→Q (.ref l) H):Ey (Qw 0) tt te σ0 J H1 Q:=by
 intro l hl;refine⟨fun i m σ H=>m=n - i∧i≤n∧Same H1 H∧H l=some (.lst (((List.range i).filter p).map f))∧∀ o,σ.set 0 o=σ0.set 0 o,⟨n,by simp,Nat.zero_le _,Je hl _,Zq,fun _=>rfl⟩,?_⟩;rintro i m σ H ⟨rfl,hi,sm,hL,hσ⟩;by_cases hlt:i < n
 ·refine .inr ⟨hgo i H sm hlt,fun x H' y=>?_⟩
  obtain⟨rfl,rfl⟩:=hy i H x H' sm hlt y;show tt (σ.set 0 (some (xs i))) H' _;rw[hσ];refine hT i H' hlt sm _ fun H2 s2=>?_;have er:(List.range (i+1)).filter p=(List.range i).filter p++(if p i=true then [i] else []):=by
   rw[List.range_succ,List.filter_append];by_cases hp:p i=true
   ·rw[Zv hp,List.filter_cons_of_pos hp,List.filter_nil]
   ·rw[Zj hp,List.filter_cons_of_neg hp,List.filter_nil]
  have hσ2:∀ o,(σ0.set 0 (some (xs i))).set 0 o=σ0.set 0 o:=fun o=>List.set_set _;by_cases hp:p i=true
  ·rw[Zv hp]
   refine hE i H2 hlt hp (sm.trans s2) _ fun H3 s3=>?_;refine⟨_,s3 _ _ (s2 _ _ hL),?_,n - (i+1),by omega,rfl,hlt,?_,?_,hσ2⟩
   ·rw[Zk]
    have:=List.length_filter_le p (List.range i);rw[Yb] at this;omega
   ·exact N6 hl (sm.trans (s2.trans s3)) _
   ·rw[Zq,er,Zv hp,Jw]
    rfl
  ·rw[Zj hp]
   refine⟨n - (i+1),by omega,rfl,hlt,sm.trans s2,?_,hσ2⟩;rw[er,Zj hp,J9];exact s2 _ _ hL
 ·have e:i=n:=by omega
  subst e;exact .inl ⟨hstop H sm,hQ l H sm hl hL⟩
theorem Bw{tt:TT}{te:TE}{σ0:St}{H1:Hp}{Q:V→Hp→Prop}{lo:Int}{n:Nat}(p:Nat→Bool)(f:Nat→V)(hn:n≤sizeLine)
  (hT:∀ i H,i < n→Same H1 H→∀ R:Bool→Hp→Prop,(∀ H',Same H H'→R (p i) H')→tt (σ0.set 0 (some (.int (lo+(i:Nat))))) H R)
  (hE:∀ i H,i < n→p i=true→Same H1 H→∀ R:V→Hp→Prop,(∀ H',Same H H'→R (f i) H')→te (σ0.set 0 (some (.int (lo+(i:Nat))))) H R)
  (hQ:∀ l H,Same H1 H→H1 l=none→H l=some (.lst (((List.range n).filter p).map f))→Q (.ref l) H):Ey (Qw 0) tt te σ0 (Itr lo n) H1 Q:=
 Vr n (fun i=>.int (lo+(i:Nat))) p f hn (fun _ _ _ h=>h) (fun _ _=>Zs _) (fun _ _ _ _ _ _ y=>y) hT hE hQ
theorem Qi{α β:Type}(xs:List α)(p:α→Bool)(f:α→β)(d:α):((List.range xs.length).filter fun i=>p (xs.getD i d)).map (fun i=>f (xs.getD i d))=(xs.filter p).map f:=by
 have e:(List.range xs.length).map (fun i=>xs.getD i d)=xs:=by
  apply List.ext_getElem
  ·simp
  ·intro i h1 h2
   simp;rw[Zg (by simpa using h2)];rfl
 have h:(((List.range xs.length).map (fun i=>xs.getD i d)).filter p).map f=((List.range xs.length).filter fun i=>p (xs.getD i d)).map (fun i=>f (xs.getD i d)):=by
  rw[List.filter_map,Z7];rfl
 rw[e] at h;exact h.symm
theorem Qj{K:W.Frag}{tt:TT}{te:TE}{σ0:St}{H1:Hp}{Q:V→Hp→Prop}{a:Addr}{xs:List V}(p:V→Bool)(f:V→V)(hS:SqL K H1 a xs)(hn:xs.length≤sizeLine)
  (hT:∀ x H,x∈xs→Same H1 H→∀ R:Bool→Hp→Prop,(∀ H',Same H H'→R (p x) H')→tt (σ0.set 0 (some x)) H R)
  (hE:∀ x H,x∈xs→p x=true→Same H1 H→∀ R:V→Hp→Prop,(∀ H',Same H H'→R (f x) H')→te (σ0.set 0 (some x)) H R)
  (hQ:∀ l H,Same H1 H→H1 l=none→H l=some (.lst ((xs.filter p).map f))→Q (.ref l) H):Ey (Qw 0) tt te σ0 (Itl K a) H1 Q:=by
 have at_:∀ i,i < xs.length→xs[i]? = some (xs.getD i .non):=fun i h=>by
  rw[Zr,Zg h];rfl
 have mem:∀ i,i < xs.length→xs.getD i .non∈xs:=fun i h=>by
  have:=at_ i h;exact Zl this
 refine Vr xs.length (fun i=>xs.getD i .non) (fun i=>p (xs.getD i .non)) (fun i=>f (xs.getD i .non)) hn (fun i H sm h=>⟨xs,_,sm.seq hS,at_ i h⟩) (fun H sm=>⟨xs,sm.seq hS,Zs _⟩)
  (fun i H x H' sm h y=>⟨y.1,?_⟩) (fun i H h sm=>hT _ H (mem i h) sm) (fun i H h hp sm=>hE _ H (mem i h) hp sm) (fun l H sm hl hL=>hQ l H sm hl ?_)
 ·have e:=y.2 xs (sm.seq hS)
  rw[at_ i h] at e;exact(Zy e).symm
 ·rw[hL,Qi]
section
variable{X:Cx}{e st:Expr}{te:TE}{ts:TO}{pos p2:Pos}
theorem Zem{prog:Program}{w:World}{A:Around}{bs:List Bool}{its:List Value}(r:Vals (bs.map V.bl) its):TruthOf prog w A (fun i v=>its.toArray[i]? = some v) fun i=>bs.getD i true:=by
 intro i v s Q E hP hQ;have hP':its[i]? = some v:=by simpa using hP
 have hi:i < bs.length:=by
  have:=(Zu.mp hP').1;have h2:=r.length;rw[Zk] at h2;omega
 obtain⟨u,hu,ru⟩:=r.get (i:=i) (x:=.bl bs[i]) (by rw[Z4,Zg hi];rfl);rw[hP'] at hu;cases hu;cases ru;have e:bs.getD i true=bs[i]:=by rw[Zr,Zg hi];rfl
 have hQ':Q (bs.getD i true) s:=hQ;rw[e] at hQ';exact wpAny_truthy_bool hQ'
theorem Bh(hc:X.calm=true):Xw X (.builtin "all") (fun xs H Q=>∃(a:Addr) (bs:List Bool),xs=[.ref a]∧SqL X.K H a (bs.map V.bl)∧Q (.bl (bs.all id)) H):=by
 intro pins s σ H xs us Q I r h;obtain⟨a,bs,rfl,hS,q⟩:=h;obtain⟨u,rfl,ru⟩:=Qu r;cases ru;obtain⟨its,ri,pl,hz⟩:=I.list hS;have hl:s.heap.IsList a its.toArray:=Qq pl;have ha:a < s.heap.objs.size:=by obtain⟨_,e,_⟩:=hl;exact Z3 e
 have hh:X.A.in1.handled=none:=I.ok.hd hc;refine call_all_walk (wpAny_pyIter_list hl ?_);refine⟨s.heap.objs.size,[s.heap.objs.size,a],[s.heap.objs.size],its.toArray.size,(fun i v=>its.toArray[i]? = some v),(fun i h=>h.IsListIter s.heap.objs.size a i∧h.IsList a its.toArray),(fun i=>bs.getD i true),rfl,Walks.list hh s.heap.objs.size a (Jh ha) its.toArray,
  ⟨⟨_,Z6 _ rfl,rfl,rfl⟩,hl.push _⟩,Zem ri,fun h' tk hk=>?_⟩
 have e:(List.range its.toArray.size).all (fun i=>bs.getD i true)=bs.all id:=by
  have h2:=ri.length;rw[Zk] at h2;have h3:its.toArray.size=bs.length:=by simp [h2]
  rw[h3];have e1:(List.range bs.length).map (fun i=>bs.getD i true)=bs:=by
   apply List.ext_getElem
   ·simp
   ·intro i h1 h2
    simp;rw[Zg (by simpa using h2)];rfl
  conv=>rhs;rw[← e1]
  rw[List.all_map];rfl
 rw[e];refine⟨.bl _,H,I.kept (t':=tk) fun b o eb=>hk b o ?_ (Zh _ eb),rfl,q⟩;intro hm;have:b=s.heap.objs.size:=by simpa using hm
 rw[this] at eb;exact absurd (Z3 eb) (Nat.lt_irrefl _)
end
def Zrs(base:Heap)(e:Addr)(cls:Value)(od:Option Addr)(ctx fl:Value)(h:Heap):Prop:=
 ∃ oe vs T oT ts,(h.get? e=some oe∧(oe.cls=cls∧oe.dict=od)∧oe.data = .fields vs∧vs[1]? = some (.ref T)∧vs[2]? = some ctx)∧base.get? T=none∧T≠e∧h.get? T=some oT∧oT.data = .fields ts∧ts[3]? = some fl
structure FlyC(base:Heap)(l:List Env)(e:Addr)(cls:Value)(od:Option Addr)(ctx fl:Value)(h:Heap):Prop where
 stays:base.StaysIn h
 new:base.get? e=none
 frames:h.FunFrames base l
 rcd:Zrs base e cls od ctx fl h
section
variable{M:Model}{A:Around}{E:Value→Shared→Prop}{s:Shared}{base:Heap}{env:Env}{outer:List Env}{L e:Addr}{cls ctx:Value}{od:Option Addr}{Q:Unit→Shared→Prop}
theorem Mp(o:Obj)(f:Array Value→Array Value):(o.mapFields f).dict=o.dict:=by
 unfold Obj.mapFields;split<;>rfl
theorem T8{h:Heap}{a:Addr}{o:Obj}{vs:Array Value}(ho:h.get? a=some o)(hd:o.data = .fields vs){b:Addr}{u:Obj}(hb:h.get? b=some u)(hn:∀ ws,u.data ≠ .fields ws):b≠a:=by
 rintro rfl;have z:=hb.symm.trans ho;cases z;exact hn vs hd
theorem Za5{h:Heap}{a:Addr}{i:Nat}{v:Value}(hk:base.StaysIn h)(ha:base.get? a=none){l:List Env}(hl:h.FunFrames base l){o:Obj}{vs:Array Value}(ho:h.get? a=some o)(hd:o.data = .fields vs) :
  let h':=h.update a (Obj.mapFields (·.setIfInBounds i v))
  base.StaysIn h'∧h'.FunFrames base l∧h.UpToSlots h'∧(∀ b,b≠a→h'.get? b=h.get? b)∧∃ o',h'.get? a=some o'∧(o'.cls=o.cls∧o'.dict=o.dict)∧o'.data = .fields (vs.setIfInBounds i v):=by
 intro h';have oth:∀ b,b≠a→h'.get? b=h.get? b:=fun b hb=>Heap.get?_update_other _ _ (Ne.symm hb);have hd':=Obj.data_mapFields hd (·.setIfInBounds i v);refine⟨fun b u hb=>?_,hl.of_keeps fun b u hb hn=>?_,fun b u hb hn=>?_,oth,_,Heap.get?_update_self _ ho (Obj.isFreed_of_fields hd'),⟨Obj.cls_mapFields _ _,Mp _ _⟩,hd'⟩
 ·rw[oth b (fun z=>by rw[z,ha] at hb;cases hb)]
  exact hk b u hb
 ·exact⟨u,(oth b (T8 ho hd hb hn)).trans hb,rfl⟩
 ·exact⟨u.slots,(oth b (T8 ho hd hb hn)).trans hb⟩
theorem Zkg{head:Value}{hadNext:Bool}{oe:Obj}{vs:Array Value}(hfr:A.frames=some (env :: outer))(hl:s.heap.FunFrames base (env :: outer))(hf:env.frame=some L)(hk:base.StaysIn s.heap)(hn:base.get? e=none)
  (he:s.heap.get? e=some oe) (hc:oe.cls=cls∧oe.dict=od) (hd:oe.data = .fields vs) (h2:vs[2]? = some ctx)
  (h:∀ h',FlyC base (env :: outer) e cls od ctx (rawInt L) h'→s.heap.UpToSlots h'→Q () { s with heap:=h' }) :
  wpAny M A (do let a ← frameOf env;let pl ← entryPlaceOf L hadNext;let b ← EntryCells.newEntry head a .none (rawInt L) .none pl;setField (.ref e) 1 b) Q E s:=by
 have hef:e∉(env :: outer).filterMap (·.frame):=fun hm=>by
  obtain⟨_,o,ho,hnf⟩:=hl.mem hm;exact T8 he hd ho hnf rfl
 refine Zb (wpAny_frameOf_fun hfr hl hf fun g1 so=>Zb (wpAny_entryPlaceOf fun pl hpl=>?_));unfold EntryCells.newEntry;unfold newFields;refine Zb (wpAny_newObj_type ?_ (hpl.sizeOk5 _ _ _ _ _));generalize hob:({ cls:=.type "traceback",dict:=none,data:=.fields ([head,Value.ref L,.none,rawInt L,.none]++(if pl.isEmpty then List.replicate 6 Value.none else pl)).toArray }:Obj)=ob;have obd:∃ ts:Array Value,ob.data = .fields ts∧ts[3]? = some (rawInt L):=by
  rw[← hob];refine⟨_,rfl,?_⟩;simp
 have e1:g1.get? e=some oe:=(so.2.1 e hef).trans he;have k1:base.StaysIn g1:=fun b o hb=>(so.2.1 b fun hm=>by rw[(hl.mem hm).1] at hb;cases hb).trans (hk b o hb);have l1:g1.FunFrames base (env :: outer):=hl.of_keeps fun b o hb _=>by
  obtain⟨sl,q⟩:=so.2.2 b o hb;exact⟨_,q,rfl⟩
 have up1:s.heap.UpToSlots g1:=fun b o hb _=>so.2.2 b o hb;have e2:(g1.push ob).get? e=some oe:=Zh _ e1;have k2:base.StaysIn (g1.push ob):=fun b o hb=>Zh _ (k1 b o hb);have l2:(g1.push ob).FunFrames base (env :: outer):=l1.of_keeps fun b o hb _=>⟨o,Zh _ hb,rfl⟩;have up2:g1.UpToSlots (g1.push ob):=Heap.UpToSlots.of_keeps fun b o hb=>Zh _ hb;have hT:(g1.push ob).get? g1.objs.size=some ob:=Z6 _ (by obtain⟨ts,z,_⟩:=obd;exact Obj.isFreed_of_fields z);have hsz:1 < vs.size:=Nat.lt_trans (by decide) (Array.getElem?_eq_some_iff.mp h2).1;obtain⟨k3,l3,up3,oth,oe3,e3,c3,d3⟩:=Za5 (i:=1) (v:=.ref g1.objs.size) k2 hn l2 e2 hd;refine wpAny_setField e2 hd hsz (h _ ⟨k3,hn,l3,oe3,vs.setIfInBounds 1 (.ref g1.objs.size),g1.objs.size,ob,?_⟩ ((up1.trans up2).trans up3));obtain⟨ts,z1,z2⟩:=obd;have hTe:g1.objs.size≠e:=Nat.ne_of_gt (Z3 e1);refine⟨ts,⟨e3,⟨c3.1.trans hc.1,c3.2.trans hc.2⟩,d3,by simp [hsz],?_⟩,k1.fresh,hTe,(oth _ hTe).trans hT,z1,z2⟩;rw[Array.getElem?_setIfInBounds_ne (by decide)];exact h2
theorem Zpa{oe:Obj}{vs:Array Value}(hfr:A.frames=some (env :: outer))(hl:s.heap.FunFrames base (env :: outer))(hf:env.frame=some L)(hk:base.StaysIn s.heap)(hn:base.get? e=none)
  (he:s.heap.get? e=some oe) (hc:oe.cls=cls∧oe.dict=od) (hd:oe.data = .fields vs) (h1:vs[1]? = some .none) (h2:vs[2]? = some ctx)
  (h:∀ h',FlyC base (env :: outer) e cls od ctx (rawInt L) h'→s.heap.UpToSlots h'→Q () { s with heap:=h' }):wpAny M A (noteFrame (.ref e) env) Q E s:=by
 unfold noteFrame;simp only[hf];refine Zb (wpAny_field he hd h1 ?_);rw[Zj (by decide)];exact Zkg hfr hl hf hk hn he hc hd h2 h
theorem Znl(hfr:A.frames=some (env :: outer))(hf:env.frame=some L)(x:FlyC base (env :: outer) e cls od ctx .none s.heap)
  (h:∀ h',FlyC base (env :: outer) e cls od ctx (rawInt L) h'→s.heap.UpToSlots h'→Q () { s with heap:=h' }):wpAny M A (noteFrame (.ref e) env) Q E s:=by
 obtain⟨oe,vs,T,oT,ts,⟨he,hc,hd,h1,h2⟩,hT0,hTe,hT,hdT,h3⟩:=x.rcd;unfold noteFrame;simp only[hf];refine Zb (wpAny_field he hd h1 ?_);rw[Zv (by simp:(Value.ref T != Value.none)=true)];refine Zb (wpAny_field hT hdT h3 ?_);rw[Zj (by simp [rawInt]:¬ ((Value.none == rawInt L)=true))];obtain⟨k3,l3,up3,oth,_⟩:=Za5 (i:=3) (v:=.none) x.stays hT0 x.frames hT hdT;refine Zb (wpAny_setField hT hdT (Array.getElem?_eq_some_iff.mp h3).1 ?_);exact Zkg hfr l3 hf k3 x.new ((oth e (Ne.symm hTe)).trans he) hc hd h2 fun h' y up=>h h' y (up3.trans up)
theorem Zdu{fl:Value}{l:List Env}(x:FlyC base l e cls od ctx fl s.heap)(h:∀ h',FlyC base l e cls od ctx .none h'→s.heap.UpToSlots h'→Q () { s with heap:=h' }):wpAny M A (setFlight (.ref e) none) Q E s:=by
 obtain⟨oe,vs,T,oT,ts,⟨he,hc,hd,h1,h2⟩,hT0,hTe,hT,hdT,h3⟩:=x.rcd;have hsz:=(Array.getElem?_eq_some_iff.mp h3).1;obtain⟨k3,l3,up3,oth,oT3,e3,c3,d3⟩:=Za5 (i:=3) (v:=.none) x.stays hT0 x.frames hT hdT;unfold setFlight;refine Zb (wpAny_field he hd h1 ?_);rw[Zv (by simp:(Value.ref T != Value.none)=true)];refine wpAny_setField hT hdT hsz (h _ ⟨k3,x.new,l3,oe,vs,T,oT3,_,⟨(oth e (Ne.symm hTe)).trans he,hc,hd,h1,h2⟩,hT0,hTe,e3,d3,by simp [hsz]⟩ up3)
theorem FlyC.pop{fl:Value}{h:Heap}(x:FlyC base (env :: outer) e cls od ctx fl h):FlyC base outer e cls od ctx fl h:=⟨x.stays,x.new,x.frames.2.2,x.rcd⟩
theorem Zdt{oe:Obj}{vs:Array Value}(hfr:A.frames=some (env :: outer))(hl:s.heap.FunFrames base (env :: outer))(hf:env.frame=some L)(hk:base.StaysIn s.heap)(hn:base.get? e=none)
  (he:s.heap.get? e=some oe) (hc:oe.cls=cls∧oe.dict=od) (hd:oe.data = .fields vs) (h1:vs[1]? = some .none) (h2:vs[2]? = some ctx)
  (h:∀ h',FlyC base outer e cls od ctx .none h'→s.heap.UpToSlots h'→Q () { s with heap:=h' }):wpAny M A (leaving env (.ref e)) Q E s:=by
 unfold leaving;exact Zb (Zpa hfr hl hf hk hn he hc hd h1 h2 fun g1 x1 u1=>Zdu (s:={ s with heap:=g1 }) x1 fun g2 x2 u2=>h g2 x2.pop (u1.trans u2))
theorem Zpi(hfr:A.frames=some (env :: outer))(hf:env.frame=some L)(x:FlyC base (env :: outer) e cls od ctx .none s.heap)
  (h:∀ h',FlyC base outer e cls od ctx .none h'→s.heap.UpToSlots h'→Q () { s with heap:=h' }):wpAny M A (leaving env (.ref e)) Q E s:=by
 unfold leaving;exact Zb (Znl hfr hf x fun g1 x1 u1=>Zdu (s:={ s with heap:=g1 }) x1 fun g2 x2 u2=>h g2 x2.pop (u1.trans u2))
end
section
variable{P:Program}{w:World}{H:Hp}{h h'' B:Heap}{a:Addr}{o:HO}
theorem ObjOk.there(x:ObjOk P w H h a o):∃ ob,h.get? a=some ob:=by
 cases o with
 | lst xs=>obtain⟨_,_,_,_,e⟩:=x;exact⟨_,e⟩
 | tup xs=>obtain⟨_,_,_,ob,e,_⟩:=x;exact⟨ob,e⟩
 | dK kvs=>obtain⟨_,_,_,_,ob,_,_,e,_⟩:=x;exact⟨ob,e⟩
 | dT kvs=>obtain⟨_,_,_,_,ob,_,_,e,_⟩:=x;exact⟨ob,e⟩
 | set S n=>obtain⟨ob,_,_,_,e,_⟩:=x;exact⟨ob,e⟩
 | ins C dx fs=>obtain⟨_,_,_,e,_⟩:=x;exact⟨_,e⟩
 | own y=>exact x
 | xd fs=>obtain⟨_,⟨_,_,_,e,_⟩,_⟩:=x;exact⟨_,e⟩
 | rng lo hi=>obtain⟨_,_,_,e⟩:=x;exact⟨_,e⟩
 | frz ob u=>exact⟨_,x.1⟩
 | tbl ps=>exact⟨_,(show h.get? a=some _ from x)⟩
 | met f y=>exact⟨_,(show h.get? a=some _ from x)⟩
 | ext φ=>exact x.2.1
theorem HOk.stays(x:HOk P w H h)(trk:∀ b o,H b=some o→∃ ob,B.get? b=some ob)(b1:B.StaysIn h)(b2:B.StaysIn h''):HOk P w H h'':=fun a o e=>
 (x a o e).stay (fun b u hb q=>by
  have z:∃ ob,B.get? b=some ob:=hb.elim (fun z=>z ▸ trk a o e) fun z=>trk b _ z;obtain⟨ob,e1⟩:=z;have e2:=(b1 _ _ e1).symm.trans q;cases e2;exact b2 _ _ e1) (fun _ q=>q) fun _ _ q=>q
end
inductive Chn(B:Heap):Value→Prop where
 | nil:Chn B .none
 | cons {c:Addr} {o:Obj} {vs:Array Value} {ctx:Value}:B.get? c=some o→o.data = .fields vs→vs[2]? = some ctx→Chn B ctx→Chn B (.ref c)
structure Fly(l:List Env)(H:Hp)(e:Addr)(cls:Value)(od:Option Addr)(B h:Heap):Prop where
 fly:∃ ctx,FlyC B l e cls od ctx .none h∧Chn B ctx
 trk:∀ b o,H b=some o→∃ ob,B.get? b=some ob
 noe:H e=none
def Ga(P:Program)(w:World):CXT:=fun outer H s E e s'=>∃(ea:Addr) (cls:Value) (od:Option Addr) (H':Hp) (B:Heap),e = .ref ea∧s'.os=s.os∧AllBare s'.gens∧Un (Rg outer) [] H H' s.heap s'.heap∧HOk P w H' s'.heap ∧
 Fly outer H' ea cls od B s'.heap∧(∀ b o,s.heap.get? b=some o→b∉Rg outer→∃ ob,B.get? b=some ob)∧E cls od H'
section
variable{X:Cx}{pins:List (Addr×Obj)}{σ:St}{H:Hp}{s:Shared}{B h'':Heap}
theorem Inv.un_fly(J:Inv X pins σ H s)(hex:X.ex=[])(b1:B.StaysIn s.heap)(b2:B.StaysIn h'')(up:s.heap.UpToSlots h'')(inB:∀ b o,X.s₀.heap.get? b=some o→b∉X.fs→∃ ob,B.get? b=some ob) :
  Un X.fs [] X.H₀ H X.s₀.heap h'' where
 keep:=fun b o e n hb _=>by
  have e1:=J.base.keep b o e n hb (by rw[hex];simp);obtain⟨ob,eb⟩:=inB b o e hb;have e2:=(b1 _ _ eb).symm.trans e1;cases e2;exact b2 _ _ eb
 slot:=fun b o e n hb _=>by
  obtain⟨sl,e1⟩:=J.base.slot b o e n hb (by rw[hex];simp);obtain⟨_,o2,ho2,hd⟩:=J.funs.mem hb;rw[e1] at ho2;cases ho2;obtain⟨sl2,e2⟩:=up b _ e1 hd;exact⟨sl2,e2⟩
 free:=fun b o e n _=>J.base.free b o e n (by rw[hex];simp)
 there:=fun b o e _=>by
  by_cases hb:b∈X.fs
  ·obtain⟨_,o2,ho2,hd⟩:=J.funs.mem hb
   obtain⟨sl,e2⟩:=up b o2 ho2 hd;exact⟨_,e2⟩
  ·obtain⟨ob,eb⟩:=inB b o e hb
   exact⟨ob,b2 _ _ eb⟩
 tups:=J.base.tups
 frzs:=J.base.frzs
 tbls:=J.base.tbls
theorem Inv.notFr(J:Inv X pins σ H s){b:Addr}{o:Obj}(e:X.s₀.heap.get? b=some o)(hb:b∉X.fs):b∉Rg X.stack:=fun z=>by
 rcases Ja.mp (J.stkSub b z) with q | q
 ·exact absurd (Ji (Z3 e) J.ok.above) (by rw[q];exact Nat.lt_irrefl _)
 ·exact hb q
def under(X:Cx)(s:Shared):Heap:=W.hideAll s.heap (Rg X.stack)
theorem Ki{b:Addr}{o:Obj}(e:s.heap.get? b=some o)(hb:b∉Rg X.stack):(under X s).get? b=some o:=W.hideAll_get _ e hb
theorem Kh:(under X s).StaysIn s.heap:=fun b o q=>W.of_hideAll _ q
theorem Inv.under_frames(J:Inv X pins σ H s):s.heap.FunFrames (under X s) X.stack:=W.funFrames_hide J.stack fun env he a ha=>List.mem_filterMap.mpr ⟨env,he,ha⟩
theorem Inv.under_trk(J:Inv X pins σ H s):∀ b o,H b=some o→∃ ob,(under X s).get? b=some ob:=fun b o e=>by
 obtain⟨ob,q⟩:=(J.hok b o e).there;exact⟨ob,Ki q fun z=>by rw[J.stkFree b z] at e;cases e⟩
end
structure MadeC(h h':Heap)(e:Addr)(cls ctx:Value):Prop where
 keeps:∀ b o,h.get? b=some o→h'.get? b=some o
 new:h.get? e=none
 rcd:∃ oe vs,h'.get? e=some oe∧(oe.cls=cls∧oe.dict=none)∧oe.data = .fields vs∧vs[1]? = some .none∧vs[2]? = some ctx
theorem MadeC.of{h h':Heap}{e:Addr}{cls:Value}{args:List Value}(x:Heap.MadeExcOf h h' e cls args):MadeC h h' e cls .none:=by
 obtain⟨t,he,_⟩:=x.there;exact⟨x.keeps,x.new,_,_,he,⟨rfl,rfl⟩,rfl,rfl,rfl⟩
structure Thr(X:Cx)(E:XK):Prop where
 new:∀(pins:List (Addr×Obj)) (σ:St) (H:Hp) (s:Shared) (h':Heap) (e C:Addr) (ctx:Value),Inv X pins σ H s→MadeC s.heap h' e (.ref C) ctx→Chn (under X s) ctx→E (.ref C) none H→X.xe (.ref e) { s with heap:=h' }
 on:Eb (Ga X.prog X.w) X E
 own:PassesOwn (model X.prog X.w) X.A X.env X.xe
 ownAt:∀ hd,PassesOwnAt (model X.prog X.w) (X.A.mark hd) X.A X.env X.xe
theorem Zkv{P:Program}{w:World}{K:W.Frag}{mg:Str→Option Value}{base:Heap}{N:List Str}{qual:Str}{scope:Scope}{f:Addr}{cd:Value}{A:Around}{outer:List Env}{s:Shared}{H:Hp}{E:XK} :
  Thr (Nb (Ga P w) P w K mg base N qual scope f cd A outer s H E) E where
 own:=PassesOwn.leaving
 ownAt:=fun _=>PassesOwnAt.leaving
 new:=by
  intro pins σ H1 s1 h' e C ctx I hx hch hE;have fr:(under (Nb (Ga P w) P w K mg base N qual scope f cd A outer s H E) s1).StaysIn s1.heap:=Kh;have hn:(under (Nb (Ga P w) P w K mg base N qual scope f cd A outer s H E) s1).get? e=none:=by
   cases q:(under (Nb (Ga P w) P w K mg base N qual scope f cd A outer s H E) s1).get? e with
   | none=>rfl
   | some o=>
    have z:=fr _ _ q;rw[hx.new] at z;cases z
  obtain⟨oe,vs,he,hc,hd,h1,h2⟩:=hx.rcd;refine Zdt (outer:=outer) I.ok.frames (I.under_frames.of_keeps fun b o hb _=>⟨o,hx.keeps b o hb,rfl⟩) rfl (fun b o q=>hx.keeps b o (fr b o q)) hn he hc hd h1 h2 fun h'' x1 x4=>?_;have up:s1.heap.UpToSlots h'':=(Heap.UpToSlots.of_keeps hx.keeps).trans x4;have inB:∀ b o,s.heap.get? b=some o→b∉Rg outer→∃ ob,(under (Nb (Ga P w) P w K mg base N qual scope f cd A outer s H E) s1).get? b=some ob:=fun b o eb hb=>by
   obtain⟨o',e'⟩:=I.base.there b o eb (by intro z;cases z);exact⟨o',Ki e' (I.notFr eb hb)⟩
  refine⟨e,.ref C,none,H1,_,rfl,I.os,I.bare,I.un_fly rfl fr x1.stays up inB,I.hok.stays I.under_trk fr x1.stays,⟨⟨ctx,x1,hch⟩,I.under_trk,?_⟩,inB,hE⟩;cases q:H1 e with
  | none=>rfl
  | some o=>
   obtain⟨ob,z⟩:=(I.hok e o q).there;rw[hx.new] at z;cases z
 on:=by
  intro pins σ H1 s1 e s' I hc;obtain⟨ea,cls,od,H',B,rfl,os,bare,un,hok,F,inB,hE⟩:=hc;have J:=I.call' os un hok bare fun b z=>absurd z (by simp);obtain⟨ctx,fl,hch⟩:=F.fly;refine Zpi (outer:=outer) I.ok.frames rfl fl fun h'' x1 x2=>?_;have inB':∀ b o,s.heap.get? b=some o→b∉Rg outer→∃ ob,B.get? b=some ob:=fun b o eb hb=>by
   obtain⟨o',e'⟩:=I.base.there b o eb (by intro z;cases z);exact inB b o' e' (I.notFr eb hb)
  exact⟨ea,cls,od,H',B,rfl,J.os,J.bare,J.un_fly rfl fl.stays x1.stays x2 inB',hok.stays F.trk fl.stays x1.stays,⟨⟨ctx,x1,hch⟩,F.trk,F.noe⟩,inB',hE⟩
theorem Fun.okX{P:Program}{w:World}{K:W.Frag}{mg:Str→Option Value}{base:Heap}{x qual:Str}{st:Stmt}{f:Addr}{fd:FuncData}{N ps:List Str}{k:Nat}{sp:Sp}(F:Fun K x qual st f fd)(S:FnScope N ps (Zm st))(len:∀ vs H Q E,sp vs H Q E→vs.length=ps.length)
  (hbody:∀(cdv:Value) (A:Around) (outer:List Env) (s:Shared) (H:Hp) (vs:List V) (Q:VK) (E:XK),Room k (A.deeper (envOfC qual (Zm st) s.heap.objs.size f cdv))→sp vs H Q E →
   Thr (Nb (Ga P w) P w K mg base N qual (Zm st) f cdv A outer s H E) E →
   ∃ t,PSs (Nb (Ga P w) P w K mg base N qual (Zm st) f cdv A outer s H E) (Y1 st) t∧t { nx:=fun _ H'=>Q .non H',rt:=Q } (start N vs) H):FnOk P w K mg base (Ga P w) (k+1) f fd ps sp:=by
 obtain⟨oc,od,kV,doc,pm,an,cdv,ct,osl,rfl,lk,hcd⟩:=F.ex;exact Zkb lk hcd S len fun A outer s H vs Q E hr hsp=>hbody cdv A outer s H vs Q E hr hsp Zkv
abbrev Uv:List Value:=[.type "ValueError",.type "Exception",.type "BaseException",.type "object"]
theorem Zmz{K:W.Frag}{h:Heap}{C:Addr}{bmB:List Value}{newId:String}(X:K.In h)(q:W.excIn K C bmB newId=true) :
  ∃ bm N nm qn bs hdct sn sub ab col dd k0 k1 k2 k3 k5 mN,h.get? C=some (excClassObj nm qn C N bs bm hdct sn sub ab col dd k0 k1 k2 k3 k5 newId)∧h.Ns N mN∧mN "__init__" = none∧OwnTail h bmB bm:=by
 unfold W.excIn at q;split at q
 ·rename_i ddx cdx slx hlook
  split at q
  ·rename_i Cx bmx j0 j1 j2 j3 nx j5 hmro hslots
   simp only[beq_iff_eq,Bool.and_eq_true,Bool.not_eq_true'] at q;obtain⟨⟨⟨⟨⟨eC,eN⟩,edel⟩,etl⟩,eok⟩,eni⟩:=q;subst eC;subst eN;obtain⟨f1,f2,f3,f4,f5,f6,f7,f8,f9,f10,f11⟩:=cdx;have e1:f3=_:=hmro;have e2:f11=false:=edel;subst e1;subst e2;obtain⟨lst⟩:=slx;have e3:lst=_:=hslots;subst e3;exact⟨bmx,f4,f1,f5,f2,f6,f7,f8,f9,f10,ddx,j0,j1,j2,j3,j5,_,X _ _ hlook,.of_isNs (W.isNs_of_in X eok),W.nsMap_none_of_in X eok eni,W.tail_of_in X etl⟩
  ·cases q
 ·cases q
def Zny(C:Addr)(E:XK)(t:TA):TS:=fun _ σ H=>t σ H fun vs H1=>vs.length≤sizeLine∧E (.ref C) none H1
theorem Q7{X:Cx}{x:Str}{np cpos pos:Pos}{e:Expr}{es:List Expr}{t:TA}{C:Addr}{E:XK}(T:Thr X E)(hh:X.A.handled=none)(hg:Gl X x)(hm:X.mg x=some (.ref C))(hc:W.excIn X.K C Uv "ValueError.__new__" = true)(ha:PA X (e :: es) t)
  (hdb:(x == ("__debug__":Str))=false:=by decide) (he:starEach (e :: es) X.env=(false,eval e X.env) :: starEach es X.env:=by rfl) (hpl:(backTo cpos (starEach es X.env)).any (·.1)=false:=by rfl) :
  PS X (.Raise (some (.Call (.Name x np) (e :: es) [] cpos)) none pos) (Zny C E t):=by
 intro pins s σ H D I h;obtain⟨bm,N,nm,qn,bs,hdct,sn,sub,ab,col,dd,k0,k1,k2,k3,k5,mN,hC,hN,hni,hT⟩:=Zmz I.mod.kin hc;have hB:bm.contains (.type "BaseException")=true:=hT.hasType PySem.F.excBase_ValueError.hasBase;refine wpAny_Raise_call_subT (k5:=k5) (k3:=k3) (k2:=k2) (k1:=k1) (k0:=k0) (dd:=dd) (col:=col) (ab:=ab) (sub:=sub) (sn:=sn) (hdct:=hdct) (bs:=bs) (N:=N) (q:=qn) (nm:=nm) (bm:=bm) (C:=C) PySem.F.excBase_ValueError (mN:=mN) hB hh (by rw[he];show(false || (backTo cpos (starEach es X.env)).any (·.1))=false;rw[hpl];rfl) hni (Eg I hg hm ⟨rfl,?_⟩ hdb);have hA:=ha cpos pins s σ H _ I h;rw[he] at hA ⊢;refine Calls.evalArgs_plain (Ub hA fun us s2 q2=>?_);obtain⟨vs,H2,I2,r,hz,hE⟩:=q2;exact⟨rfl,by rw[← r.length];exact hz,I2.bk _ _ hC,hN.keeps I2.bk,hT.keeps I2.bk,fun h' e' hx=>T.new pins σ H2 s2 h' e' C .none I2 (.of hx) .nil hE⟩
def Zm7(X:Cx)(pins:List (Addr×Obj))(B:Heap):Prop:=(∀ b o,X.s₀.heap.get? b=some o→b∉X.ex→b∉X.fs→∃ ob,B.get? b=some ob)∧∀ p∈X.pn++pins,∃ ob,B.get? p.1=some ob
def XP(X:Cx)(pins:List (Addr×Obj))(σ:St)(Ex:XK)(e:Value)(s':Shared):Prop:=
 ∃(ea:Addr) (cls:Value) (od:Option Addr) (H':Hp) (B:Heap),e = .ref ea∧Inv X pins σ H' s'∧Fly X.stack H' ea cls od B s'.heap∧Zm7 X pins B∧Ex cls od H'
section
variable{X:Cx}{pins:List (Addr×Obj)}{σ:St}{H:Hp}{s:Shared}{B h'':Heap}
theorem Inv.held(I:Inv X pins σ H s)(inB:∀ b o,s.heap.get? b=some o→b∉Rg X.stack→∃ ob,B.get? b=some ob):Zm7 X pins B:=by
 refine⟨fun b o e hx hb=>?_,fun p hp=>?_⟩
 ·obtain⟨o',e'⟩:=I.base.there b o e hx
  exact inB b o' e' (I.notFr e hb)
 ·obtain⟨e,n,ne,nf,d⟩:=I.pin p hp
  exact inB _ _ e fun z=>by
   rcases Ja.mp (I.stkSub _ z) with q | q
   ·exact ne q
   ·exact nf q
theorem Inv.landed(J:Inv X pins σ H s)(hB:Zm7 X pins B)(trk:∀ b o,H b=some o→∃ ob,B.get? b=some ob)(b1:B.StaysIn s.heap)(b2:B.StaysIn h'')(up:s.heap.UpToSlots h''):Inv X pins σ H { s with heap:=h'' }:=by
 have exact_:∀ b o,s.heap.get? b=some o→(∃ ob,B.get? b=some ob)→h''.get? b=some o:=fun b o e z=>by
  obtain⟨ob,eb⟩:=z;have e2:=(b1 _ _ eb).symm.trans e;cases e2;exact b2 _ _ eb
 have cellK:∀ c v,s.heap.IsCell c v→h''.IsCell c v:=fun c v z=>by
  obtain⟨o,ho,hd⟩:=z;obtain⟨sl,e⟩:=up c o ho fun ws q=>by rw[hd] at q;cases q
  exact⟨_,e,hd⟩
 refine⟨J.ok,J.os,J.bare,⟨fun b o e n hb hx=>?_,fun b o e n hb hx=>?_,J.base.free,fun b o e hx=>?_,J.base.tups,J.base.frzs,J.base.tbls⟩,?_,fun x c e=>?_,J.free,J.freeC,fun p hp=>?_,J.hok.stays trk b1 b2,J.len⟩
 ·exact exact_ b o (J.base.keep b o e n hb hx) (hB.1 b o e hx hb)
 ·obtain⟨sl,e1⟩:=J.base.slot b o e n hb hx
  obtain⟨_,o2,ho2,hd⟩:=J.funs.mem hb;rw[e1] at ho2;cases ho2;obtain⟨sl2,e2⟩:=up b _ e1 hd;exact⟨sl2,e2⟩
 ·by_cases hb:b∈X.fs
  ·obtain⟨_,o2,ho2,hd⟩:=J.funs.mem hb
   obtain⟨sl,e2⟩:=up b o2 ho2 hd;exact⟨_,e2⟩
  ·obtain⟨ob,eb⟩:=hB.1 b o e hx hb
   exact⟨ob,b2 _ _ eb⟩
 ·obtain⟨m,hn,hl⟩:=J.loc
  refine⟨m,up.ns hn,fun i x v e1 e2 e3=>?_⟩;obtain⟨u,r,l⟩:=hl i x v e1 e2 e3;refine⟨u,r,?_⟩;rcases l with l | ⟨k,c,e,z⟩
  ·exact .inl l
  ·exact .inr ⟨k,c,e,cellK c _ z⟩
 ·obtain⟨v,z⟩:=J.cell x c e
  exact⟨v,cellK c v z⟩
 ·obtain⟨e,n,ne,nf,d⟩:=J.pin p hp
  exact⟨exact_ _ _ e (hB.2 p hp),n,ne,nf,d⟩
def hCx(X:Cx)(e:Addr):Cx:={ X with A:=X.A.mark (some (.ref e)),calm:=false,xe:=fun _ _=>False }
theorem Inv.inH{e:Addr}(J:Inv X pins σ H s):Inv (hCx X e) pins σ H s:=
 ⟨⟨J.ok.mod,J.ok.kind,J.ok.glob,J.ok.blt,J.ok.above,J.ok.inj,J.ok.has,J.ok.cab,fun z=>Bool.noConfusion z,J.ok.frames,J.ok.stk,J.ok.exf,J.ok.bs,J.ok.bsz,J.ok.noex,J.ok.exfs,J.ok.funs,J.ok.frf⟩,J.os,J.bare,J.base,J.loc,J.cell,J.free,J.freeC,J.pin,J.hok,J.len⟩
theorem Inv.outH{e:Addr}(ok:X.Ok)(J:Inv (hCx X e) pins σ H s):Inv X pins σ H s:=⟨ok,J.os,J.bare,J.base,J.loc,J.cell,J.free,J.freeC,J.pin,J.hok,J.len⟩
theorem Bc{M:Model}{A:Around}{E:Value→Shared→Prop}{i:Nat}{n:Str}{pos:Pos}{Q:Unit→Shared→Prop}(J:Inv X pins σ H s)(hN:X.N.Nodup)(hi:X.N[i]? = some n)(hlo:X.env.kindOf n=some .local)
  (h:∀ s',Inv X pins (σ.set i none) H s'→Q () s'):wpAny M A (do bindName X.env n .none;unbindBehindTheSuite X.env n pos) Q E s:=by
 obtain⟨m,hn,hl⟩:=J.loc;refine wpAny_nameGoes_keeps hlo hn (by rw[J.ok.kind];rfl) fun h' v hn' hs=>h _ ?_;have hiσ:i < σ.length:=by rw[J.len];exact(Zu.mp hi).1
 obtain⟨oL,esL,epL,hoL,hdL,_⟩:=id hn;have neB:∀ b o,X.s₀.heap.get? b=some o→b≠X.env.locals:=fun b o e=>Jh (Ji (Z3 e) J.ok.above);refine⟨J.ok,J.os,J.bare,⟨fun b o e k hb hx=>?_,fun b o e k hb hx=>?_,J.base.free,fun b o e hx=>?_,J.base.tups,J.base.frzs,J.base.tbls⟩,⟨_,hn',fun j y v' e1 e2 e3=>?_⟩,fun y c e=>?_,J.free,J.freeC,fun p hp=>?_,fun b ob e=>?_,by simpa using J.len⟩
 ·exact(hs.2 b (neB b o e)).trans (J.base.keep b o e k hb hx)
 ·obtain⟨sl,q⟩:=J.base.slot b o e k hb hx
  exact⟨sl,(hs.2 b (neB b o e)).trans q⟩
 ·obtain⟨o',q⟩:=J.base.there b o e hx
  exact⟨o',(hs.2 b (neB b o e)).trans q⟩
 ·by_cases hj:j=i
  ·subst hj
   rw[List.getElem?_set_self hiσ] at e2;cases e2
  ·rw[List.getElem?_set_ne (Ne.symm hj)] at e2
   obtain⟨u',r',q⟩:=hl j y v' e1 e2 e3;refine⟨u',r',?_⟩;have hy:y≠n:=fun z=>hj (T7 hN e1 (z ▸ hi));rcases q with⟨k,e⟩ | ⟨k,c,e,z⟩
   ·exact .inl ⟨k,by simp [hy,e]⟩
   ·exact .inr ⟨k,c,e,z.sameBut hs (J.cne y c e)⟩
 ·obtain⟨w',z⟩:=J.cell y c e
  exact⟨w',z.sameBut hs (J.cne y c e)⟩
 ·obtain⟨e,k,ne,nf,d⟩:=J.pin p hp
  exact⟨(hs.2 p.1 ne).trans e,k,ne,nf,d⟩
 ·refine(J.hok b ob e).stay (fun c w' hc q=>(hs.2 c ?_).trans q) (fun _ q=>q) fun _ _ q=>q
  rintro rfl;have fr:=J.free;rcases hc with hc | hc
  ·rw[hc,e] at fr
   cases fr
  ·rw[hc] at fr
   cases fr
end
def PEX(X:Cx)(e:Expr)(t:XK→TE):Prop:=
 ∀(pins:List (Addr×Obj)) (s:Shared) (σ:St) (H:Hp) (Q:VK) (Ex:XK),Inv X pins σ H s→t Ex σ H Q→wpAny (model X.prog X.w) X.A (eval e X.env) (EP X pins σ Q) (XP X pins σ Ex) s
def PSX(X:Cx)(st:List Stmt)(t:XK→TS):Prop:=
 ∀(pins:List (Addr×Obj)) (s:Shared) (σ:St) (H:Hp) (D:Ends) (Ex:XK),Inv X pins σ H s→t Ex D σ H→wpAny (model X.prog X.w) X.A (execs st X.env) (SP X pins D) (XP X pins σ Ex) s
section
variable{X:Cx}{k:Nat}{f:Addr}{fd:FuncData}{ps:List Str}{sp:Sp}{dvs:List V}{ds:List Value}{x:Str}{p pos:Pos}{e:Expr}{es:List Expr}{t:TA}
theorem Zle{pins:List (Addr×Obj)}{σ:St}{H:Hp}{s:Shared}{Q:VK}{Ex:XK}{us:List Value}{vs:List V}(F:FnOk X.prog X.w X.K X.mg X.base (Ga X.prog X.w) k f fd ps sp)(hr:Room k X.A)(hb:Binds X.K fd ps ds)(hd:Vals dvs ds)
  (I:Inv X pins σ H s) (r:Vals vs us) (h:sp (vs++dvs) H Q Ex):wpAny (model X.prog X.w) X.A (call (.ref f) us) (EP X pins σ Q) (XP X pins σ Ex) s:=by
 have r2:Vals (vs++dvs) (us++ds):=r.append hd;have hl:(us++ds).length=ps.length:=by rw[← r2.length];exact F.len _ _ _ _ h
 refine wpAny_call (codeAny_mono (F.run X.A X.stack s H ⟨us,[]⟩ (us++ds) (vs++dvs) Q Ex hr I.env0 (hb s us I.kIn hl) r2 h) fun r s' hq=>?_);cases r with
 | error e=>
  obtain⟨ea,cls,od,H',B,rfl,os,bare,un,hok,F,inB,hE⟩:=hq;exact⟨ea,cls,od,H',B,rfl,I.call' os un hok bare fun b z=>absurd z (by simp),F,I.held inB,hE⟩
 | ok fl=>
  cases fl with
  | ret u=>exact I.after hq
  | next=>exact False.elim hq
  | brk=>exact False.elim hq
  | cont=>exact False.elim hq
theorem Zif(F:FnOk X.prog X.w X.K X.mg X.base (Ga X.prog X.w) k f fd ps sp)(hr:Room k X.A)(hg:Gl X x)(hm:X.mg x=some (.ref f))(hk:W.keepIn X.K (.ref f)=true)(hb:Binds X.K fd ps ds)(hd:Vals dvs ds)
  (ha:PA X.nox (e :: es) t) (hdb:(x == ("__debug__":Str))=false:=by decide) (he:starEach (e :: es) X.env=(false,eval e X.env) :: starEach es X.env:=by rfl) (hpl:(backTo pos (starEach es X.env)).any (·.1)=false:=by rfl) :
  PEX X (.Call (.Name x p) (e :: es) [] pos) (fun Ex=>Znd sp dvs Ex t):=by
 intro pins s σ H Q Ex I h;refine wpAny_Call_Name_kw (Eg I hg hm ?_ hdb);refine W.callWith_K (h₀:=X.base) I.ok.mod.kin hk (wpAny_mono (ha pos pins s σ H _ (I.wish _) h) (fun us s1 ⟨vs,H1,I1,r,q⟩=>⟨I1.unwish.kIn,?_⟩) fun _ _ z=>False.elim z) he hpl;exact Zle F hr hb hd I1.unwish r q
end
theorem FlyC.looks{M:Model}{base h:Heap}{l:List Env}{e:Addr}{cls ctx fl:Value}{od:Option Addr}(x:FlyC base l e cls od ctx fl h):W.Looks M h (typeOf (.ref e)) cls:=by
 obtain⟨oe,vs,_,_,_,⟨ho,hc,_⟩,_⟩:=x.rcd;exact hc.1 ▸ (W.Looks.ld ho).andThen .now
end L2
namespace L2
open PySem PySem.Spec PyProof.Rows Builtin Builtin.ObjectAttr Builtin.Getset_descriptor
structure ExcF(K:W.Frag)(C:Addr):Prop where
 cl:(W.clsIn K C).isSome=true
 ga:W.findIn K (.ref C) "__getattribute__" = some (some (.builtin "BaseException.__getattribute__"))
 hk:W.findIn K (.ref C) "__getattr__" = some none
 cs:W.findIn K (.ref C) "__class__" = some (some (.builtin "object.__class__"))
 gt:W.specialIn K (.builtin "object.__class__") "__get__" = some (some (.builtin "getset_descriptor.__get__"))
 tk:W.takesIn K (.builtin "object.__class__")=some true
 mo:W.mroIn K C (.type "object")=some true
 mb:W.mroIn K C (.type "BaseException")=some true
def Mu(a C:Addr)(h:Heap):Prop:=∃ o,h.get? a=some o∧o.cls = .ref C
theorem Et{a C:Addr}{M:Model}{h:Heap}(p:Mu a C h):W.Looks M h (typeOf (.ref a)) (.ref C):=by
 obtain⟨o,h1,h2⟩:=p;exact h2 ▸ (W.Looks.ld h1).andThen .now
section
variable{prog:Program}{w:World}{A:Around}{E:Value→Shared→Prop}{K:W.Frag}{a C:Addr}
theorem Zf2{s:Shared}{tp:Value}{R:Result→Shared→Prop}(F:ExcF K C)(X:K.In s.heap)(p:Mu a C s.heap)(h:R (.ok (.ret (.ref C))) s) :
  codeAny (model prog w) A (.call (.builtin "getset_descriptor.__get__") ⟨[.builtin "object.__class__",.ref a,tp],[]⟩) R s:=by
 obtain⟨hh,g,dr,t,os⟩:=s;have L0:=Et (M:=model prog w) p;have L1:=W.looks_mroIn (M:=model prog w) X F.mo;refine codeAny_call_builtin W.KF.slot_gs.plain W.KF.entry_gs (W.KF.slot_gs.check _ _ _ _ _ _ _ _ W.KF.type_class (W.KF.args_gs _ _ _) ?_);unfold Builtin.«getset_descriptor.__get__»;unfold descrGet;rw[W.dga_obj];refine Zb (Ze ?_);unfold descrGetter descrCheckInstance;unfold descrNameAndClass isInstance;simp only[W.KF.owner_class]
 repeat lk
 refine⟨Code.quiet_builtin _ (by decide +kernel),codeAny_builtin W.KF.entry_class ?_⟩;unfold Builtin.«object.__class__»;unfold shownTypeOf
 repeat lk
 exact h
theorem Zch{M:Model}{h:Heap}(F:ExcF K C)(X:K.In h):W.Looks M h (Builtin.ObjectAttr.find (.ref a) (.ref C) "__class__") (.bind (.builtin "getset_descriptor.__get__") (.builtin "object.__class__")):=by
 have L1:=W.looks_findIn (M:=M) X F.cs;have L2:=W.looks_specialIn (M:=M) X F.gt;have L3:=W.looks_takesIn (M:=M) X F.tk;have L4:W.Looks M h (Builtin.ObjectAttr.dataDescriptor? (some (.builtin "object.__class__")) (some (.builtin "getset_descriptor.__get__"))) (some (.builtin "getset_descriptor.__get__",.builtin "object.__class__")):=L3.andThen .now;exact L1.andThen (L2.andThen (L4.andThen (W.Looks.tag .now)))
theorem Rt{M:Model}{s:Shared}{nameV:Value}{Q:Unit→Shared→Prop}(F:ExcF K C)(X:K.In s.heap)(p:Mu a C s.heap)(hq:Q () s):wpAny M A (checkBuiltinCall "BaseException.__getattribute__" ⟨[.ref a,nameV],[]⟩) Q E s:=by
 have hk:builtinKind "BaseException.__getattribute__" = some .slot:=by decide +kernel
 have hsplit:splitId "BaseException.__getattribute__" = some ("BaseException","__getattribute__"):=by decide +kernel
 have ha:=PySem.F.args_bexc_ga (.ref a) nameV;have LI:W.Looks M s.heap (isInstance (.ref a) (.type "BaseException")) true:=(Et p).andThen (W.looks_mroIn X F.mb);simp only[checkBuiltinCall,hk,hsplit];refine Zb (LI.here ?_);obtain⟨hh,g,d,t,os⟩:=s
 repeat (first | assumption | wp_step)
theorem S7{s:Shared}{tk:Tok}{Q:Fin→Shared→Prop}(F:ExcF K C)(X:K.In s.heap)(p:Mu a C s.heap)(hq:Q (.done (.ret (.ref C))) s) :
  wpAny (model prog w) A (Builtin.«object.__getattribute__» ⟨[.ref a,.str "__class__" tk],[]⟩) Q E s:=by
 obtain⟨hh,g,d,t,os⟩:=s;have L0:=Et (M:=model prog w) p;have L1:=Zch (a:=a) (M:=model prog w) F X;unfold Builtin.«object.__getattribute__»
 repeat (first | (with_reducible refine wpAny_call (Zf2 F X p ?_)) | lk | wp_step)
 exact hq
theorem S8{s:Shared}{Q:Option Value→Shared→Prop}(F:ExcF K C)(X:K.In s.heap)(p:Mu a C s.heap)(h:Q (some (.ref C)) { s with toks:=s.toks+1 }):wpAny (model prog w) A (getAttr? (.ref a) "__class__") Q E s:=by
 obtain⟨hh,g,d,t,os⟩:=s;have L0:=Et (M:=model prog w) p;have L1:=W.looks_findIn (M:=model prog w) X F.ga;have L2:=W.looks_findIn (M:=model prog w) X F.hk;have hb:bindSpecial (.builtin "BaseException.__getattribute__") (.ref a)=pure (.builtin "BaseException.__getattribute__",[.ref a]):=PySem.F.excAttr_ValueError.ga.bind (.ref a);unfold getAttr? getAttrBy? getAttrBy;refine Zb (wpAny_mkText (Zb (wpAny_attempt (wpAny_holding (Zb (L0.at (Zb (L1.at ?_))))))));show wpAny _ _ (getAttrByItsOwn (.ref a) _ (.ref C) (.builtin "BaseException.__getattribute__") false false) _ _ _;unfold getAttrByItsOwn hookBefore;refine Zb ?_;rw[Zv (show onTheHeap (Value.ref C)=true from rfl)];refine L2.at ?_;refine Zb (wpAny_attempt (wpAny_holding ?_));show wpAny _ _ (boundAndCalled (.builtin "BaseException.__getattribute__") (.ref a) _) _ _ _;unfold boundAndCalled;rw[hb];refine Zb (Ze ?_);refine wpAny_call (codeAny_call_builtin PySem.F.excAttr_ValueError.ga.plain PySem.F.entry_bexc_ga (Rt F X p (S7 F X p ?_)));show wpAny (model prog w) A (handedOut (.ref C)) _ _ _;exact W.handed_on rfl (Ze h)
theorem Zj1(F:ExcF K C):W.KitX K (.ref a) (.ref C) (Mu a C) where
 ty:=fun M h _ p=>Et p
 it:=fun M h X _=>by
  have z:=F.cl;unfold W.clsIn at z;split at z
  ·rename_i c1 d1 cd1 sl1 ho
   intro A1 Q1 E1 s1 k1 q1;unfold isType loadHead;exact Zb (wpAny_loadPart (k1 _ _ (X _ _ ho)) (Ze q1))
  ·cases z
 ne:=fun h tp dd its n sl X htp=>by
  refine Bool.eq_false_iff.mpr fun q=>?_;have e:C=tp:=Value.ref.inj (beq_iff_eq.mp q);subst e;have z:=F.cl;unfold W.clsIn at z;split at z
  ·rename_i c1 d1 cd1 sl1 ho
   have y:=(X _ _ ho).symm.trans htp;cases y
  ·cases z
 ca:=fun X p k=>S8 F X p k
end
def isC:V→Bool | .ref _=>true | .ty _=>true | _=>false
def toC:V→Value | .ref D=>.ref D | .ty n=>.type n | _=>.none
theorem Znx{c:V}{u:Value}(h:isC c=true)(r:RelV c u):u=toC c:=by
 cases c with
 | ref D=>exact r
 | ty n=>exact r
 | _=>cases h
end L2
namespace L2
open PySem PySem.Spec PyProof.Rows
section
variable{X:Cx}{pos:Pos}
theorem As:MtR X "str.find" (fun x xs H Q=>∃ i j,x = .str i∧xs=[.str j]∧Q (.int (Txt.find i j)) H):=by
 intro pins s σ H x xs v us Q I rx rv h;obtain⟨i,j,rfl,rfl,q⟩:=h;obtain⟨t,rfl⟩:=rx;obtain⟨u,rfl,ru⟩:=rv.one;obtain⟨t',rfl⟩:=ru;exact SC.find ⟨.int _,H,I.tok _,⟨_,rfl⟩,q⟩
theorem Tw{P:Program}{w:World}:Eb (Ga P w) X E0:=fun _ _ _ _ _ _ _ h=>by
 obtain⟨_,_,_,_,_,_,_,_,_,_,_,_,z⟩:=h;exact z.elim
end
def vS(ys:List Str):List V:=ys.map V.str
theorem D7(ys:List Str):(vS ys).length=ys.length:=Zk _
theorem Rm:∀ l:List (Str×Tok),Vals (vS (l.map (·.1))) (strValues l)
 | []=>.nil
 | (x,t) :: r=>.cons ⟨t,rfl⟩ (Rm r)
theorem Zei(tk:Nat)(xs:List Str):Vals (vS xs) (strsFrom tk xs):=by
 rw[strsFrom_eq];have:=Rm (numbered tk xs)
 rwa [numbered_texts] at this
theorem Bk:∀{ys:List Str} {us:List Value},Vals (vS ys) us→StrsAre us ys
 | [],_,.nil=>.nil
 | y :: r,_,.cons h t=>by
  obtain⟨tk,rfl⟩:=h;exact .cons _ _ (Bk t)
section
variable{X:Cx}
theorem Zdq:MtR X "str.join" (fun x xs H Q=>∃ sep a ys,x = .str sep∧xs=[.ref a]∧SqL X.K H a (vS ys)∧(ys.map (·.length)).sum+ys.length * sep.length≤16777216∧Q (.str (Txt.join sep ys)) H):=by
 intro pins s σ H x xs v us Q I rx rv h;obtain⟨sep,a,ys,rfl,rfl,hS,hok,q⟩:=h;obtain⟨t,rfl⟩:=rx;obtain⟨u,rfl,ru⟩:=rv.one;cases ru;obtain⟨its,r,pl,hz⟩:=I.list hS;exact join_list (Qq pl) (by simpa using Bk r) hok fun t' k=>⟨.str _,H,I.tok k,⟨_,rfl⟩,q⟩
theorem Zjs:MtR X "str.split" (fun x xs H Q=>∃ i j,x = .str i∧xs=[.str j]∧(j.length == 0)=false∧i.length≤10000∧∀ l,H l=none→Q (.ref l) (upd H l (.lst (vS (Txt.split i j))))):=by
 intro pins s σ H x xs v us Q I rx rv h;obtain⟨i,j,rfl,rfl,hj,hi,q⟩:=h;obtain⟨t,rfl⟩:=rx;obtain⟨u,rfl,ru⟩:=rv.one;obtain⟨t',rfl⟩:=ru;have sl:=sizeLine_eq;have hsz:i.length≤sizeLine:=by omega
 have same:Txt.split i j=[i]→(∀ h' tk,h'=s.heap.push { cls:=.type "list",data:=.seq ([.str i t]:List Value).toArray }→EP X pins σ Q (.ref s.heap.objs.size) { s with heap:=h',toks:=tk }):=fun e h' tk eh=>by
  subst eh;refine⟨.ref s.heap.objs.size,_,I.lnew (t':=tk) (ys:=vS (Txt.split i j)) (its:=[.str i t]) ?_ ?_,rfl,q _ I.fresh⟩
  ·rw[e]
   exact .cons ⟨t,rfl⟩ .nil
  ·rw[e]
   show 1≤sizeLine;omega
 by_cases h1:(decide (i.length < j.length) || decide (Builtin.Str.strKind i < Builtin.Str.strKind j))=true
 ·refine call_meets F.slot_str_split (typeIs_str _ _ _) F.entry_str_split (F.args_str_split_2 _ _) (meets_str_split_cannot_occur i j t t' h1) ?_
  exact same (Zv h1) _ s.toks rfl
 ·have h1':=Bool.eq_false_iff.mpr h1
  by_cases hf:(Builtin.Str.occurrences i j 0 i.length (i.length+1)).isEmpty=true
  ·refine call_meets F.slot_str_split (typeIs_str _ _ _) F.entry_str_split (F.args_str_split_2 _ _) (meets_str_split_not_found i j t t' h1' hj hf) ?_
   exact same ((Zj h1).trans (Zv hf)) _ s.toks rfl
  ·have hf':=Bool.eq_false_iff.mpr hf
   have hp:Txt.split i j=Builtin.Str.partsBetween i (Builtin.Str.occurrences i j 0 i.length (i.length+1)) j.length:=(Zj h1).trans (Zj hf);have hn:(Builtin.Str.partsBetween i (Builtin.Str.occurrences i j 0 i.length (i.length+1)) j.length).length≤sizeLine:=by
    rw[len_partsBetween];have:=StrLaws.occ_length_le i j 0 i.length (i.length+1);omega
   refine call_meets F.slot_str_split (typeIs_str _ _ _) F.entry_str_split (F.args_str_split_2 _ _) (meets_str_split_sep i j t t' h1' hj hf' hsz hn) ?_;refine⟨.ref s.heap.objs.size,_,I.lnew (ys:=vS (Txt.split i j)) (its:=strsFrom s.toks (Builtin.Str.partsBetween i (Builtin.Str.occurrences i j 0 i.length (i.length+1)) j.length)) ?_ ?_,rfl,q _ I.fresh⟩
   ·rw[hp]
    exact Zei _ _
   ·rw[D7,hp]
    exact hn
def Zsm:V→Option Int→Option Int→Hp→VK→Prop:=fun x lo hi H Q=>∃ z,x = .str z∧z.length≤10000∧Q (.str (Txt.slice z lo hi)) H
theorem Dn{v:Value}{o:Option Int}(p:IsPart v o):∃ l:Option (Int×Tok),partValue l=v∧l.map (·.1)=o:=by
 cases p with
 | none=>exact⟨none,rfl,rfl⟩
 | int i t=>exact⟨some (i,t),rfl,rfl⟩
theorem Zn2:SlR X Zsm:=by
 intro pins s σ H x v vl vu lo hi sl Q I rx hs pl pu h;obtain⟨z,rfl,hz,q⟩:=h;obtain⟨t,rfl⟩:=rx;obtain⟨l,rfl,el⟩:=Dn pl;obtain⟨u,rfl,eu⟩:=Dn pu;refine⟨"str",_,F.slot_str_getitem.lookup,typeIs_str _ _ _,?_⟩;refine wpAny_getItem_str_slice (l:=l) (u:=u) (st:=none) hs rfl (post_val_or_str ⟨?_,fun t' k=>?_⟩)
 ·have e:=Txt.slice_le z lo hi
  rw[← el,← eu] at e;have sl':=sizeLine_eq;refine Jd e ?_;omega
 ·refine⟨.str _,H,I.tok k,⟨_,rfl⟩,?_⟩
  rw[← el,← eu] at q;exact q
def Its(x:Str):It:=⟨fun i _=>i < x.cps.size,fun i H v H'=>H'=H∧∃ c,x.cps[i]? = some c∧v = .str ⟨#[c]⟩,fun i _=>x.cps.size≤i⟩
theorem Zek{P:Program}{w:World}{K:W.Frag}{tg:Expr}(x:Str)(t:Tok)(it:Addr):Turn P w K tg (Its x) [it] it (fun i h=>h.IsStrIter it "str_ascii_iterator" x t i) where
 mem:=by simp
 obj:=fun i h st b hb=>by
  have e:b=it:=by simpa using hb
  subst e;obtain⟨o,e,c,d⟩:=st;exact⟨o,e,fun v z=>by rw[d] at z;cases z⟩
 keep:=fun i h h' st k=>by
  obtain⟨o,e,r⟩:=st;exact⟨o,k it (by simp) o e,r⟩
 item:=by
  intro X hP hw hK hc i pins s σ H E I hf st hg;subst hP hw hK;have hi:i < x.cps.size:=hg;obtain⟨f0,f1,f2,f3,f4,f5⟩:=hf it (by simp);refine wpAny_pyNext_ascii_item st (c:=x.cps[i]) (by simp [hi]) fun h' st' sb=>?_;have I1:Inv X pins σ H { s with heap:=h',toks:=s.toks+1 }:=I.turned (t':=s.toks+1) (fun b o hb e=>(sb.2 b hb).trans e) f0 f1 f3 f4 f5;obtain⟨o,e,c,d⟩:=id st';exact⟨_,rfl,Sy (s:={ s with heap:=h',toks:=s.toks+1 }) e c d (by decide) ⟨.str _,H,I1,⟨_,rfl⟩,⟨rfl,x.cps[i],by simp [hi],rfl⟩,st',fun b hb=>(hf b hb).1⟩⟩
 done:=by
  intro X hP hw hK hc i pins s σ H E I hf st hg;subst hP hw hK;have hi:x.cps.size≤i:=hg;obtain⟨f0,f1,f2,f3,f4,f5⟩:=hf it (by simp);exact wpAny_pyNext_ascii_end (I.ok.hd hc) st (by simp [hi]) fun h' eb=>⟨rfl,I.turned (t':=s.toks) (fun b o hb e=>eb b o hb e) f0 f1 f3 f4 f5⟩
 self:=fun _ _ _ _ _ st h=>wpAny_pyIter_striter_ascii st h
theorem Zej{P:Program}{w:World}{K:W.Frag}{tg:Expr}(x:Str)(t:Tok)(it:Addr):Turn P w K tg (Its x) [it] it (fun i h=>h.IsStrIter it "str_iterator" x t i) where
 mem:=by simp
 obj:=fun i h st b hb=>by
  have e:b=it:=by simpa using hb
  subst e;obtain⟨o,e,c,d⟩:=st;exact⟨o,e,fun v z=>by rw[d] at z;cases z⟩
 keep:=fun i h h' st k=>by
  obtain⟨o,e,r⟩:=st;exact⟨o,k it (by simp) o e,r⟩
 item:=by
  intro X hP hw hK hc i pins s σ H E I hf st hg;subst hP hw hK;have hi:i < x.cps.size:=hg;obtain⟨f0,f1,f2,f3,f4,f5⟩:=hf it (by simp);refine wpAny_pyNext_wide_item st (c:=x.cps[i]) (by simp [hi]) fun h' st' sb=>?_;have I1:Inv X pins σ H { s with heap:=h',toks:=s.toks+1 }:=I.turned (t':=s.toks+1) (fun b o hb e=>(sb.2 b hb).trans e) f0 f1 f3 f4 f5;obtain⟨o,e,c,d⟩:=id st';exact⟨_,rfl,Sy (s:={ s with heap:=h',toks:=s.toks+1 }) e c d (by decide) ⟨.str _,H,I1,⟨_,rfl⟩,⟨rfl,x.cps[i],by simp [hi],rfl⟩,st',fun b hb=>(hf b hb).1⟩⟩
 done:=by
  intro X hP hw hK hc i pins s σ H E I hf st hg;subst hP hw hK;have hi:x.cps.size≤i:=hg;obtain⟨f0,f1,f2,f3,f4,f5⟩:=hf it (by simp);exact wpAny_pyNext_wide_end (I.ok.hd hc) st (by simp [hi]) fun h' eb=>⟨rfl,I.turned (t':=s.toks) (fun b o hb e=>eb b o hb e) f0 f1 f3 f4 f5⟩
 self:=fun _ _ _ _ _ st h=>wpAny_pyIter_striter_wide st h
def Zs2(tl:TE):TI:=fun σ H R=>tl σ H fun x H1=>∃ z,x = .str z∧R (Its z) H1
theorem Zop{tg l:Expr}{tl:TE}(hl:PE X l tl):PI X tg l (Zs2 tl):=by
 intro pins s σ H R I h;refine Ub (hl pins s σ H _ I h) fun v s1 ⟨x,H1,I1,r1,q1⟩=>?_;obtain⟨z,rfl,q⟩:=q1;obtain⟨t,rfl⟩:=r1;have fp:∀ b∈[s1.heap.objs.size],R9 X pins H1 b:=fun b hb=>by
  have e:b=s1.heap.objs.size:=by simpa using hb
  subst e;exact I1.fpOk (Zs _) (I1.hok.fresh (Zs _))
 cases ha:z.cps.all (· < 128)
 ·exact wpAny_pyIter_wide ha ⟨s1.heap.objs.size,[s1.heap.objs.size],_,_,H1,rfl,I1.kept (t':=s1.toks) fun b o e=>Zh _ e,Zej z t _,⟨_,Z6 _ rfl,rfl,rfl⟩,fp,q⟩
 ·exact wpAny_pyIter_ascii ha ⟨s1.heap.objs.size,[s1.heap.objs.size],_,_,H1,rfl,I1.kept (t':=s1.toks) fun b o e=>Zh _ e,Zek z t _,⟨_,Z6 _ rfl,rfl,rfl⟩,fp,q⟩
end
section
variable{prog:Program}{w:World}
end
section
variable{X:Cx}{pins:List (Addr×Obj)}{σ:St}{H:Hp}{s:Shared}{x:Str}{np cp cp2 cpos rpos:Pos}{msg:Str}{j j2:Nat}{C e1:Addr}
end
theorem Sb{X:Cx}(hu:X.A.units+64 < cLine):Nf X (compareOp .Eq) (fun x y H Q=>∃(a b:Addr) (xs:List V),x = .ref a∧y = .ref b∧SqL X.K H a xs∧SqL X.K H b []∧Q (.bl xs.isEmpty) H):=by
 intro pins s σ H x y v u Q I rx ry h;obtain⟨a,b,xs,rfl,rfl,hA,hB,q⟩:=h;cases xs with
 | nil=>exact Zoy hu pins s σ H _ _ v u Q I rx ry ⟨a,b,[],[],rfl,rfl,hA,hB,q⟩
 | cons x0 xr=>
  cases rx;cases ry;obtain⟨ia,va,pa,_⟩:=I.list hA;obtain⟨ib,vb,pb,_⟩:=I.list hB;have l1:=va.length;have l2:=vb.length;refine PySem.SeqAt.eq_list_lengthsAt (Qq pa) (Qq pb) ?_ (by omega) ⟨.bl false,H,I,rfl,q⟩;simp only[Z1,← l1,← l2,Jo,List.length_nil];simp
section
variable{P:Program}{w:World}{A:Around}{E:Value→Shared→Prop}{s:Shared}{kd:SortKind}{a0:Array Keyed}
def Cmp(P:Program)(w:World)(A:Around)(s:Shared)(kd:SortKind)(ks:List Value):Prop:=
 ∀ x∈ks,∀ y∈ks,∀(E:Value→Shared→Prop) (Q:Bool→Shared→Prop),(∀ b,Q b s)→wpAny (model P w) A (keyLt' kd x y) Q E s
structure SB(kd:SortKind)(a0:Array Keyed)(st:SortSt):Prop where
 pm:(arrOf st).Perm a0
 kn:kindOf st=kd
 fl:failedOf st=none
 pn:pendingOf st = #[]
theorem SB.sz{st:SortSt}(h:SB kd a0 st):(arrOf st).size=a0.size:=h.pm.size_eq
theorem SB.put{st:SortSt}{xs:Array Keyed}(h:SB kd a0 st)(p:xs.Perm (arrOf st)):SB kd a0 (setArr st xs):=⟨p.trans h.pm,h.kn,h.fl,h.pn⟩
theorem SB.get{st:SortSt}{i:Nat}(h:SB kd a0 st)(hi:i < a0.size):∃ x p,(arrOf st)[i]? = some (x,p)∧x∈a0.toList.map (·.1):=by
 have hi2:i < (arrOf st).size:=h.sz ▸ hi;have m:(arrOf st)[i]∈(arrOf st).toList:=by simp
 exact⟨(arrOf st)[i].1,(arrOf st)[i].2,getElem?_pos _ i hi2,Zz.mpr ⟨_,(Array.perm_iff_toList_perm.mp h.pm).mem_iff.mp m,rfl⟩⟩
theorem Ma{st:SortSt}{i j:Nat}{Q:Option Bool→SortSt→Prop}(hC:Cmp P w A s kd (a0.toList.map (·.1)))(hB:SB kd a0 st)(hi:i < a0.size)(hj:j < a0.size)(h:∀ b,Q (some b) st):wpS (model P w) A E s (ltAt' i j) Q st:=by
 obtain⟨x,p,e1,m1⟩:=hB.get hi;obtain⟨y,q,e2,m2⟩:=hB.get hj;rw[ltAt'_eq];refine wpS_bind (wpS_get (show wpS _ _ _ _ (do let x ← elem' (arrOf st) i;let y ← elem' (arrOf st) j;lt' x y) Q st from ?_));rw[elem'_eq,elem'_eq,e1,e2];refine wpS_bind (wpS_pure (wpS_bind (wpS_pure (show wpS _ _ _ _ (lt' (x,p) (y,q)) Q st from ?_))));rw[lt'_eq];refine wpS_bind (wpS_get (show wpS _ _ _ _ (do let r ← (liftM (keyLt' (kindOf st) x y).attempt:StateT SortSt Sem _);_) Q st from ?_));rw[hB.kn];exact wpS_bind (wpS_lift (wpAny_attempt (hC x m1 y m2 _ _ fun b=>⟨rfl,wpS_pure (h b)⟩)))
variable(hC:Cmp P w A s kd (a0.toList.map (·.1)))
include hC
theorem Zed{st:SortSt}{a m:Nat}{Q:AscSt→SortSt→Prop}(hm:m≤a0.size)(h1:1≤a)(h2:a≤m)(hB:SB kd a0 st)(h:∀ n,a≤n→n≤m→Q (none,n) st):wpS (model P w) A E s (ascLoop a m) Q st:=by
 unfold ascLoop;refine wpS_forRange (I:=fun x c t=>t=st∧c=(none,x)) (fun x c t hx1 hx2 z=>?_) (fun c t z=>?_) ⟨rfl,rfl⟩
 ·obtain⟨rfl,rfl⟩:=z
  refine wpS_bind (Ma hC hB (by dsimp only;omega) (by dsimp only;omega) fun b=>?_);cases b with
  | true=>exact wpS_pure (h x hx1 (by omega))
  | false=>exact wpS_pure ⟨rfl,rfl⟩
 ·obtain⟨rfl,rfl⟩:=z
  exact h _ (by omega) (by omega)
theorem tail_any{st:SortSt}{n m:Nat}{Q:Option Nat→SortSt→Prop}(hm:m≤a0.size)(h1:1≤n)(h2:n≤m)(hB:SB kd a0 st)(h:∀ k t,SB kd a0 t→1≤k→k≤m→Q (some k) t):wpS (model P w) A E s (tail3 n m) Q st:=by
 unfold tail3;exact wpS_bind (wpS_reverse (wpS_bind (Zed hC hm h1 h2 (hB.put (mirror_perm _ _ _ _)) fun k k1 k2=>wpS_pure (h k _ (hB.put (mirror_perm _ _ _ _)) (by omega) k2))))
theorem Zkh{st:SortSt}{n m:Nat}{Q:DescSt→SortSt→Prop}(hm:m≤a0.size)(h1:1≤n)(h2:n≤m)(hB:SB kd a0 st)(h:∀ k q t,SB kd a0 t→n≤k→k≤m→Q (none,k,q) t):wpS (model P w) A E s (descLoop n m) Q st:=by
 unfold descLoop;refine wpS_forRange (I:=fun x c t=>SB kd a0 t∧∃ q,c=(none,x,q)) (fun x c t hx1 hx2 z=>?_) (fun c t z=>?_) ⟨hB,0,rfl⟩
 ·obtain⟨hB2,q,rfl⟩:=z
  refine wpS_bind (Ma hC hB2 (by dsimp only;omega) (by dsimp only;omega) fun b=>?_);cases b with
  | true=>
   show wpS _ _ _ _ (if q > 0 then _ else _) _ _;split
   ·exact wpS_bind (wpS_reverse (wpS_pure ⟨hB2.put (mirror_perm _ _ _ _),0,rfl⟩))
   ·exact wpS_pure ⟨hB2,0,rfl⟩
  | false=>
   refine wpS_bind (Ma hC hB2 (by dsimp only;omega) (by dsimp only;omega) fun b=>?_);cases b with
   | true=>exact wpS_pure (h x q t hB2 hx1 (by omega))
   | false=>exact wpS_pure ⟨hB2,q+1,rfl⟩
 ·obtain⟨hB2,q,rfl⟩:=z
  exact h _ q t hB2 (by omega) (by omega)
theorem K5{st:SortSt}{n m:Nat}{Q:Option Nat→SortSt→Prop}(hm:m≤a0.size)(h2:n+1≤m)(hB:SB kd a0 st)(h:∀ k t,SB kd a0 t→1≤k→k≤m→Q (some k) t):wpS (model P w) A E s (descPart n m) Q st:=by
 unfold descPart;refine wpS_bind (wpS_lift (wpAny_rule ⟨rfl,wpS_bind (Zkh hC hm (by omega) h2 hB fun k q t hB2 k1 k2=>?_)⟩));show wpS _ _ _ _ (if q > 0 then _ else _) _ _;split
 ·exact wpS_bind (wpS_reverse (tail_any hC hm (by dsimp only;omega) (by dsimp only;omega) (hB2.put (mirror_perm _ _ _ _)) h))
 ·exact tail_any hC hm (by dsimp only;omega) (by dsimp only;omega) hB2 h
theorem Zf5{st:SortSt}{m:Nat}{Q:Option Nat→SortSt→Prop}(hm:m≤a0.size)(h1:1≤m)(hB:SB kd a0 st)(h:∀ k t,SB kd a0 t→1≤k→k≤m→Q (some k) t):wpS (model P w) A E s (countRun' 0 m) Q st:=by
 rw[countRun0_eq];refine wpS_bind (Zed hC hm (Zs 1) h1 hB fun n n1 n2=>?_);show wpS _ _ _ _ (if(n == m)=true then _ else if n > 1 then _ else _) _ _;split
 ·exact wpS_pure (h n st hB n1 n2)
 ·rename_i ne
  have ne2:n≠m:=fun z=>ne (beq_iff_eq.mpr z);split
  ·refine wpS_bind (Ma hC hB (by omega) (by dsimp only;omega) fun b=>?_)
   cases b with
   | true=>exact wpS_pure (h n st hB n1 n2)
   | false=>exact wpS_bind (wpS_reverse (K5 hC hm (by dsimp only;omega) (hB.put (mirror_perm _ _ _ _)) h))
  ·exact K5 hC hm (by dsimp only;omega) hB h
theorem Zmo{st:SortSt}{n ok:Nat}{Q:Bool→SortSt→Prop}(hn:n≤a0.size)(hB:SB kd a0 st)(h:∀ t,SB kd a0 t→Q true t):wpS (model P w) A E s (binarySort' 0 n ok) Q st:=by
 rw[binarySort'_eq];refine wpS_bind (wpS_mono (wpS_forRange (I:=fun _ c t=>c=(none,())∧SB kd a0 t) (Q:=fun c t=>c=(none,())∧SB kd a0 t) (fun k c t hk1 hk2 z=>?_) (fun c t z=>z) ⟨rfl,hB⟩) fun c t z=>?_)
 ·obtain⟨rfl,hB2⟩:=z
  refine wpS_bind (wpS_mono (wpS_forRange (I:=fun _ c u=>u=t∧∃ l r,c=(none,l,r)∧r≤k) (Q:=fun c u=>u=t∧∃ l r,c=(none,l,r)) (fun x c u hx1 hx2 y=>?_) (fun c u y=>?_) ⟨rfl,0,k,rfl,Zs k⟩) fun c u y=>?_)
  ·obtain⟨rfl,l,r,rfl,hr⟩:=y
   show wpS _ _ _ _ (if l ≥ r then _ else _) _ _;split
   ·exact wpS_pure ⟨rfl,l,r,rfl⟩
   ·refine wpS_bind (Ma hC hB2 (by omega) (by dsimp only;omega) fun b=>?_)
    cases b with
    | true=>exact wpS_pure ⟨rfl,l,(l+r) / 2,rfl,by omega⟩
    | false=>exact wpS_pure ⟨rfl,(l+r) / 2+1,r,rfl,hr⟩
  ·obtain⟨rfl,l,r,rfl,_⟩:=y
   exact⟨rfl,l,r,rfl⟩
  ·obtain⟨rfl,l,r,rfl⟩:=y
   show wpS _ _ _ _ (do moveDown' (0+k) (0+l);pure (ForInStep.yield (none,()))) _ _;rw[moveDown'_eq];exact wpS_bind (wpS_modify (wpS_pure ⟨rfl,hB2.put (bubble_perm _ _ _)⟩))
 ·obtain⟨rfl,hB2⟩:=z
  exact wpS_pure (h t hB2)
theorem Zhy{st:SortSt}{Q:Unit→SortSt→Prop}(hB:SB kd a0 st)(h2:1≤a0.size)(h64:a0.size < 64)(h:∀ t,(arrOf t).Perm a0→failedOf t=none→Q () t):wpS (model P w) A E s sortRuns' Q st:=by
 have mr:minRun' a0.size a0.size 0=a0.size:=by
  obtain⟨f,hf⟩:∃ f,a0.size=f+1:=⟨a0.size - 1,by omega⟩;rw[hf,minRun'_succ,Zv (by omega)]
 have dn:∀ t,SB kd a0 t→(arrOf (setPending t ((pendingOf t).push (0,a0.size,0)))).Perm a0∧failedOf (setPending t ((pendingOf t).push (0,a0.size,0)))=none∧pendingOf (setPending t ((pendingOf t).push (0,a0.size,0))) = #[(0,a0.size,0)]:=
  fun t hB=>⟨hB.pm,hB.fl,by show(pendingOf t).push _=_;rw[hB.pn];rfl⟩
 rw[sortRuns'_eq];refine wpS_bind (wpS_get ?_);dsimp only;simp only[hB.sz,mr];refine wpS_bind (wpS_mono (wpS_forRange (I:=fun x c t=>(x=0∧c=(none,0)∧SB kd a0 t)∨(c=(none,a0.size)∧(arrOf t).Perm a0∧failedOf t=none∧pendingOf t = #[(0,a0.size,0)]))
  (Q:=fun c t=>c=(none,a0.size)∧(arrOf t).Perm a0∧failedOf t=none∧pendingOf t = #[(0,a0.size,0)]) (fun x c t hx1 hx2 z=>?_) (fun c t z=>?_) (.inl ⟨rfl,rfl,hB⟩)) fun c t z=>?_)
 ·rcases z with⟨rfl,rfl,hB2⟩ | ⟨rfl,hD⟩
  ·dsimp only
   rw[Zj (show ¬ 0 ≥ a0.size by omega)];simp only[Nat.sub_zero,Nat.min_self,Nat.zero_add];refine wpS_bind (Zf5 hC (Zs _) h2 hB2 fun k u hB3 k1 k2=>?_);dsimp only;have bk:∀ v,SB kd a0 v→(pendingOf v).back? = none:=fun v hv=>by rw[hv.pn];rfl
   by_cases lt:k < a0.size
   ·rw[Zv lt]
    refine wpS_bind (wpS_lift (wpAny_rule ⟨rfl,wpS_bind (Zmo hC (Zs _) hB3 fun v hB4=>?_)⟩));rw[Zj (show ¬ (!true)=true by decide)];refine wpS_bind (wpS_get ?_);rw[bk v hB4];exact wpS_bind (wpS_modify (wpS_pure (.inr ⟨rfl,dn v hB4⟩)))
   ·rw[Zj lt]
    have ek:k=a0.size:=by omega
    subst ek;refine wpS_bind (wpS_get ?_);rw[bk u hB3];exact wpS_bind (wpS_modify (wpS_pure (.inr ⟨rfl,dn u hB3⟩)))
  ·dsimp only
   rw[Zv (Zs _)];exact wpS_pure ⟨rfl,hD⟩
 ·rcases z with⟨hx,_,_⟩ | hD
  ·omega
  ·exact hD
 ·obtain⟨rfl,d1,d2,d3⟩:=z
  refine wpS_bind (wpS_mono (wpS_forRange (I:=fun _ c u=>u=t∧c=(none,())) (Q:=fun c u=>u=t∧c=(none,())) (fun x c u _ _ y=>?_) (fun _ _ y=>y) ⟨rfl,rfl⟩) fun c u y=>?_)
  ·obtain⟨rfl,rfl⟩:=y
   refine wpS_bind (wpS_get ?_);rw[Zv (by rw[d3];exact Zs 1)];exact wpS_pure ⟨rfl,rfl⟩
  ·obtain⟨rfl,rfl⟩:=y
   exact wpS_pure (h _ d1 d2)
end
section
variable{P:Program}{w:World}{A:Around}{E:Value→Shared→Prop}{s:Shared}{kd:SortKind}
structure Keys(P:Program)(w:World)(A:Around)(s:Shared)(kd:SortKind)(vs:List Value):Prop where
 kind:2≤vs.length→∀(E:Value→Shared→Prop) (Q:SortKind→Shared→Prop),Q kd s→wpAny (model P w) A (keyKind' vs.toArray) Q E s
 cmp:Cmp P w A s kd vs
theorem Ze6(vs:List Value):(pairsOf vs).toList.map (·.1)=vs:=by
 rw[pairsOf_toList];exact List.map_fst_zip (Zs _)
theorem Zbq{vs:List Value}{xs:Array Keyed}(h:xs.Perm (pairsOf vs)):(xs.map (·.2)).toList.Perm vs:=by
 have z:=(Array.perm_iff_toList_perm.mp h).map (·.2);rw[pairsOf_toList,List.map_snd_zip (Zs _)] at z
 rwa [Array.toList_map]
theorem Zhd{a:Addr}{vs:List Value}{n:Nat}{R:Fin→Shared→Prop}(ho:s.heap.get? a=some (seqObj "list" vs.toArray n))(h64:vs.length < 64)
  (hK:∀ h',(∀ b o,b≠a→s.heap.get? b=some o→h'.get? b=some o)→Keys P w A { s with heap:=h' } kd vs)
  (h:∀ out:Array Value,out.toList.Perm vs→R (.done (.ret .none)) { s with heap:=sortedHeap s.heap a vs out }):wpAny (model P w) A (Builtin.«list.sort» ⟨[.ref a],[]⟩) R E s:=by
 have ha:a < s.heap.objs.size:=Z3 ho;rw[list_sort_plain];refine Zb (listItems_at ho rfl (Zb (listUpdate_at ho rfl ?_)));obtain⟨e1,ho1⟩:∃ e,(s.heap.update a (Obj.mapSeq fun _=>#[])).get? a=some (seqObj "list" #[] e):=⟨_,get?_update_seq ho fun _=>#[]⟩;refine Zb (seqEpoch_at ho1 rfl (Zb (wpAny_newTuple (Zb (wpAny_newList (wpAny_holding ?_))))));show wpAny (model P w) A _ R E { s with heap:=((s.heap.update a (Obj.mapSeq fun _=>#[])).push (seqObj "tuple" vs.toArray 0)).push (seqObj "list" #[] 0) };have ho6:(((s.heap.update a (Obj.mapSeq fun _=>#[])).push (seqObj "tuple" vs.toArray 0)).push (seqObj "list" #[] 0)).get? a=some (seqObj "list" #[] e1):=Zh _ (Zh _ ho1);have kp:=hK (((s.heap.update a (Obj.mapSeq fun _=>#[])).push (seqObj "tuple" vs.toArray 0)).push (seqObj "list" #[] 0)) fun b o hb q=>
  Zh _ (Zh _ (by rw[Heap.get?_update_other _ _ (Ne.symm hb)];exact q))
 have fin:∀ t:SortSt,(arrOf t).Perm (pairsOf vs)→R (.done (.ret .none)) { s with heap:=sortedHeap s.heap a vs ((arrOf t).map (·.2)) }:=fun t hp=>h _ (Zbq hp);have sz:vs.toArray.size=vs.length:=Z1;dsimp only;have szp:∀ t:SortSt,(arrOf t).Perm (pairsOf vs)→((arrOf t).map (·.2)).size≤sizeLine+1:=fun t hp=>by
  rw[Array.size_map,hp.size_eq,pairsOf_size,sizeLine_eq];omega
 by_cases c2:vs.toArray.size < 2
 ·rw[Zv c2,Zv c2]
  refine Zb (Ze ?_);rw[StateT.run_pure];refine Zb (Ze ?_);dsimp only;refine Zb (seqEpoch_at ho6 rfl (Zb (listUpdate_at ho6 rfl ?_ (hsz2:=szp (SortSt.mk' general' (vs.toArray.zip vs.toArray) #[] 7 none) (Array.Perm.refl _)))));rw[Zj (by simp)];exact Ze (fin (SortSt.mk' general' (vs.toArray.zip vs.toArray) #[] 7 none) (Array.Perm.refl _))
 ·rw[Zj c2,Zj c2]
  refine Zb (kp.kind (by omega) _ _ ?_);have cm:Cmp P w A { s with heap:=((s.heap.update a (Obj.mapSeq fun _=>#[])).push (seqObj "tuple" vs.toArray 0)).push (seqObj "list" #[] 0) } kd ((pairsOf vs).toList.map (·.1)):=by
   rw[Ze6];exact kp.cmp
  have run:=Zhy (E:=E) (Q:=fun _ t=>(arrOf t).Perm (pairsOf vs)∧failedOf t=none) cm (st:=SortSt.mk' kd (vs.toArray.zip vs.toArray) #[] 7 none) ⟨Array.Perm.refl _,rfl,rfl,rfl⟩ (by rw[pairsOf_size];omega) (by rw[pairsOf_size];exact h64) fun t p f=>⟨p,f⟩;refine Zb (wpAny_mono run (fun r s' z=>?_) fun _ _ e=>e);obtain⟨⟨⟩,t⟩:=r;obtain⟨rfl,hp,hf⟩:=z;dsimp only;refine Zb (seqEpoch_at ho6 rfl (Zb (listUpdate_at ho6 rfl ?_ (hsz2:=szp t hp))));rw[hf];dsimp only;rw[Zj (by simp)];exact Ze (fin t hp)
theorem Za3{l:Addr}{vs:List Value}{Q:Value→Shared→Prop}(hl:s.heap.IsList l vs.toArray)(h64:vs.length < 64)
  (hK:∀ A' h',(∀ b o,s.heap.get? b=some o→h'.get? b=some o)→Keys P w A' { s with heap:=h' } kd vs)
  (h:∀ out:Array Value,out.toList.Perm vs→Q (.ref (s.heap.objs.size+1)) { s with heap:=sortedAll s.heap vs out }):wpAny (model P w) A (call (.builtin "sorted") [.ref l]) Q E s:=by
 refine Calls.call_function_entry kind_sorted plain_sorted entry_sorted (args_sorted1 _) ?_;unfold Builtin.«sorted»;refine Zb (m:=checkCount "sorted" 1 1 _) (Ze (Zb (collect_list hl ?_ (by rw[sizeLine_eq];omega))));refine Zb (wpAny_newList ?_);have sz:((s.heap.push (seqObj "list" #[] 0)).update s.heap.objs.size (Obj.mapSeq (· ++ vs.toArray))).objs.size=s.heap.objs.size+1:=by rw[Heap.size_update,size_push']
 have hoL:(((s.heap.push (seqObj "list" #[] 0)).update s.heap.objs.size (Obj.mapSeq (· ++ vs.toArray))).push (seqObj "list" vs.toArray 0)).get? (s.heap.objs.size+1)=some (seqObj "list" vs.toArray 0):=sz ▸ Z6 _ rfl;show wpAny _ _ _ _ _ { s with heap:=((s.heap.push (seqObj "list" #[] 0)).update s.heap.objs.size (Obj.mapSeq (· ++ vs.toArray))).push (seqObj "list" vs.toArray 0) };rw[sz];refine Zb (wpAny_holding (wpAny_call_entry slot_list_sort ⟨_,hoL,rfl⟩ entry_list_sort (Zhd (kd:=kd) hoL h64 (fun h' k=>hK _ h' fun b o q=>?_) fun out p=>⟨_,rfl,Ze ⟨_,rfl,h out p⟩⟩) (args_list_sort _)));have hb:b < s.heap.objs.size:=Z3 q;refine k b o (Jh (Nat.lt_succ_of_lt hb)) (Zh _ ?_);rw[Heap.get?_update_other _ _ (Jh hb).symm];exact Zh _ q
end
theorem Zkc(v:Value):firstOfTuple' v=(do
  if(← typeOf v) != .type "tuple" then return none
  return (← Builtin.List.listItems v)[0]?):=rfl
theorem Zfu(f:Bool)(x y:Value):keyLt' (tuples' f) x y=(do
  let xs ← Builtin.List.listItems x;let ys ← Builtin.List.listItems y
  for ((p,q),i) in (xs.toList.zip ys.toList).zipIdx do
   if !(← eqBool p q) then return ← oneLt' (f && i == 0) p q
  return decide (xs.size < ys.size)):=rfl
section
variable{P:Program}{w:World}{A:Around}{E:Value→Shared→Prop}{s:Shared}
theorem D6{M:Model}{β:Type}{f:Value→Sem β}{g:Value→β}:∀{vs:List Value} {Q:List β→Shared→Prop},(∀ x∈vs,∀(Q:β→Shared→Prop),Q (g x) s→wpAny M A (f x) Q E s)→Q (vs.map g) s→wpAny M A (vs.mapM f) Q E s
 | [],Q,_,h=>by
  rw[List.mapM_nil];exact Ze h
 | x :: r,Q,hx,h=>by
  rw[List.mapM_cons];exact Zb (hx x Zw _ (Zb (D6 (fun y hy=>hx y (Zx _ hy)) (Ze h))))
theorem Zds{f:Bool}{a b:Int}{t u:Tok}{Q:Bool→Shared→Prop}(h:∀ b,Q b s):wpAny (model P w) A (oneLt' f (.int a t) (.int b u)) Q E s:=by
 cases f with
 | true=>exact oneLt_int (h _)
 | false=>
  rw[oneLt'_eq];rw[Zj Zp];refine Zb (wpAny_richCompare_same (T:="int") (typeIs_int s a t) (typeIs_int s b u) slot_int_lt (call_int_lt ⟨nofun,?_⟩));exact wpAny_truthy_bool (h _)
def Kd(h:Heap)(v:Value):Prop:=∃(a:Addr) (i j:Int) (t u:Tok) (o:Obj) (n:Nat),v = .ref a∧h.get? a=some o∧o.cls = .type "tuple"∧o.data = .seq #[.int i t,.int j u] n
theorem Zf8{vs:List Value}(hp:∀ v∈vs,Kd s.heap v)(f:Bool):Cmp P w A s (tuples' f) vs:=by
 intro x hx y hy E Q h;obtain⟨a,i,j,t,u,o,n,rfl,ho,hc,hd⟩:=hp x hx;obtain⟨a2,i2,j2,t2,u2,o2,n2,rfl,ho2,hc2,hd2⟩:=hp y hy;rw[Zfu];refine Zb (listItems_at ho hd (Zb (listItems_at ho2 hd2 ?_)));show wpAny (model P w) A (do
  let r ← forIn [((Value.int i t,Value.int i2 t2),0),((Value.int j u,Value.int j2 u2),1)] (none,()) _
  _) Q E s
 rw[List.forIn_cons];refine Zb (Zb ?_);refine Zb (wpAny_eqBool_int ?_);by_cases c:(i == i2)=true
 ·rw[c,Zj (by decide)]
  refine Ze ?_;show wpAny (model P w) A (forIn [((Value.int j u,Value.int j2 u2),1)] ((none,()):Option Bool×Unit) _) _ E s;rw[List.forIn_cons];refine Zb (Zb (wpAny_eqBool_int ?_));by_cases d:(j == j2)=true
  ·rw[d,Zj (by decide)]
   refine Ze ?_;show wpAny (model P w) A (forIn [] ((none,()):Option Bool×Unit) _) _ E s;rw[List.forIn_nil];exact Ze (Ze (h _))
  ·rw[Bool.eq_false_iff.mpr d,Zv (by decide)]
   exact Zb (Zds fun b=>Ze (Ze (Ze (h b))))
 ·rw[Bool.eq_false_iff.mpr c,Zv (by decide)]
  exact Zb (Zds fun b=>Ze (Ze (Ze (h b))))
theorem Zb8{vs:List Value}(hp:∀ v∈vs,Kd s.heap v)(h2:2≤vs.length){Q:SortKind→Shared→Prop}(h:Q (tuples' true) s):wpAny (model P w) A (keyKind' vs.toArray) Q E s:=by
 rw[keyKind'_eq,List.mapM_toArray];obtain⟨g,hg⟩:∃ g:Value→Option Value,∀ v∈vs,∃(i:Int) (t:Tok),g v=some (.int i t)∧∀(Q:Option Value→Shared→Prop),Q (g v) s→wpAny (model P w) A (firstOfTuple' v) Q E s:=by
  have all:∀ v∈vs,∃ y:Option Value,∃(i:Int) (t:Tok),y=some (.int i t)∧∀(Q:Option Value→Shared→Prop),Q y s→wpAny (model P w) A (firstOfTuple' v) Q E s:=by
   intro v hv;obtain⟨a,i,j,t,u,o,n,rfl,ho,hc,hd⟩:=hp v hv;refine⟨some (.int i t),i,t,rfl,fun Q q=>?_⟩;rw[Zkc];refine Zb (wpAny_typeOf (T:="tuple") ⟨o,ho,hc⟩ ?_);rw[Zj (by decide)];exact Zb (listItems_at ho hd (Ze q))
  refine⟨fun v=>if hv:v∈vs then(all v hv).choose else none,fun v hv=>?_⟩;dsimp only;rw[dif_pos hv];exact(all v hv).choose_spec
 refine Zb ?_;rw[map_eq_pure_bind];refine Zb (D6 (g:=g) (fun x hx Q q=>(hg x hx).choose_spec.choose_spec.2 Q q) (Ze ?_));have e1:((vs.map g).toArray.all fun x=>x.isSome)=true:=by
  rw[List.all_toArray,List.all_map,Ym];intro v hv;obtain⟨i,t,e,_⟩:=hg v hv;show(g v).isSome=true;rw[e];rfl
 rw[Zv e1];refine Zb (wpAny_rule (Zb ?_));rw[oneTypeOnly'_eq];have allI:∀ x∈(vs.map g).filterMap id,∃(i:Int) (t:Tok),x = .int i t:=by
  intro x hx;obtain⟨y,hy,e⟩:=List.mem_filterMap.mp hx;obtain⟨v,hv,rfl⟩:=Zz.mp hy;obtain⟨i,t,e2,_⟩:=hg v hv;have e3:g v=some x:=e;rw[e2] at e3;cases e3;exact⟨i,t,rfl⟩
 have ne:∃ x r,(vs.map g).filterMap id=x :: r:=by
  cases vs with
  | nil=>exact absurd h2 (by decide)
  | cons v r=>
   obtain⟨i,t,e2,_⟩:=hg v Zw;refine⟨.int i t,(r.map g).filterMap id,?_⟩;rw[List.map_cons,List.filterMap_cons];rw[e2];rfl
 have ea:(Array.filterMap id (vs.map g).toArray)=((vs.map g).filterMap id).toArray:=by simp
 rw[ea];generalize (vs.map g).filterMap id=zs at allI ne;obtain⟨x,r,rfl⟩:=ne;refine Zb ?_;rw[List.mapM_toArray,map_eq_pure_bind];refine Zb (D6 (g:=fun _=>Value.type "int") (fun y hy Q q=>?_) (Ze ?_))
 ·obtain⟨i,t,rfl⟩:=allI y hy
  exact wpAny_typeOf (typeIs_int s i t) q
 ·have hall:(((x :: r).map fun _=>Value.type "int").toArray.all fun y=>y == Value.type "int")=true:=by
   rw[List.all_toArray,List.all_map,Ym];intro _ _;rfl
  have h0:((x :: r).map fun _=>Value.type "int").toArray[0]? = some (Value.type "int"):=rfl;rw[h0];dsimp only;rw[hall];exact Ze (Ze h)
theorem Zb9{vs:List Value}(hp:∀ v∈vs,Kd s.heap v):Keys P w A s (tuples' true) vs:=⟨fun h2 E Q q=>Zb8 hp h2 q,Zf8 hp true⟩
end
theorem A9{X:Cx}:Xw X (.builtin "sorted") (fun xs H Q=>∃(a:Addr) (ps:List Addr),xs=[.ref a]∧SqL X.K H a (ps.map V.ref)∧ps.length < 64∧(∀ p∈ps,∃ i j:Int,SqT X.K H p [.int i,.int j]) ∧
  ∀(l:Addr) (qs:List Addr),H l=none→qs.Perm ps→Q (.ref l) (upd H l (.lst (qs.map V.ref)))):=by
 intro pins s σ H xs us Q I r h;obtain⟨a,ps,rfl,hS,h64,hP,q⟩:=h;obtain⟨u,rfl,ru⟩:=Qu r;cases ru;obtain⟨its,vi,pl,hz⟩:=I.list hS;have ei:∀(ps:List Addr) (its:List Value),Vals (ps.map V.ref) its→its=ps.map Value.ref:=by
  intro ps
  induction ps with
  | nil=>intro its z;cases z;rfl
  | cons p r ih=>
   intro its z;cases z with
   | cons z1 z2=>
    have e:_=Value.ref p:=z1;rw[e,ih _ z2];rfl
 have e:=ei ps its vi;subst e;have pairs:∀ v∈ps.map Value.ref,Kd s.heap v:=by
  intro v hv;obtain⟨p,hp,rfl⟩:=Zz.mp hv;obtain⟨i,j,hT⟩:=hP p hp;obtain⟨its2,v2,⟨o,ho,hc,n,hd⟩,_⟩:=I.tuple hT;cases v2 with
  | cons a1 a2=>
   cases a2 with
   | cons b1 b2=>
    cases b2;obtain⟨t,rfl⟩:=a1;obtain⟨u,rfl⟩:=b1;exact⟨p,i,j,t,u,o,n,rfl,ho,hc,hd⟩
 refine Za3 (kd:=tuples' true) (Qq pl) (by rw[Zk];exact h64) (fun A' h' k=>Zb9 fun v hv=>?_) fun out hp=>?_
 ·obtain⟨p,i,j,t,u,o,n,rfl,ho,hc,hd⟩:=pairs v hv
  exact⟨p,i,j,t,u,o,n,rfl,k _ _ ho,hc,hd⟩
 ·obtain⟨qs,eq,pq⟩:∃ qs:List Addr,out.toList=qs.map Value.ref∧qs.Perm ps:=by
   have un:∀ l:List Value,(∀ v∈l,∃ p,v=Value.ref p)→∃ qs:List Addr,l=qs.map Value.ref:=by
    intro l
    induction l with
    | nil=>intro _;exact⟨[],rfl⟩
    | cons v r ih=>
     intro hv;obtain⟨p,rfl⟩:=hv v Zw;obtain⟨qs,rfl⟩:=ih fun y hy=>hv y (Zx _ hy);exact⟨p :: qs,rfl⟩
   obtain⟨qs,e⟩:=un out.toList fun v hv=>by
    obtain⟨p,_,rfl⟩:=Zz.mp (hp.mem_iff.mp hv);exact⟨p,rfl⟩
   refine⟨qs,e,?_⟩;rw[e] at hp;have z:=hp.map fun v=>match v with | .ref p=>p | _=>0
   rw[Z7,Z7] at z;have c:((fun v=>match v with | .ref p=>p | _=>0) ∘ Value.ref:Addr→Addr)=id:=rfl
   rwa [c,List.map_id,List.map_id] at z
  obtain⟨e,he⟩:=sortedAll_at s.heap (ps.map Value.ref) out;have hf:H (s.heap.objs.size+1)=none:=I.hok.fresh (Nat.le_succ _);have vq:∀ qs:List Addr,Vals (qs.map V.ref) (qs.map Value.ref):=by
   intro qs
   induction qs with
   | nil=>exact .nil
   | cons p r ih=>exact .cons rfl ih
  refine⟨.ref (s.heap.objs.size+1),upd H (s.heap.objs.size+1) (.lst (qs.map V.ref)),I.laid (t':=s.toks) (fun b u q=>sortedAll_old q) (Nat.le_succ _) ⟨?_,qs.map Value.ref,e,vq qs,?_⟩,rfl,q _ qs hf pq⟩
  ·rw[Zk,pq.length_eq,sizeLine_eq]
   omega
  ·rw[he,← eq]
section
variable{X:Cx}
theorem Zaf(hc:X.calm=true):Xw X (.builtin "sum") (fun xs H Q=>∃(a:Addr) (ns:List Int),xs=[.ref a]∧SqL X.K H a (ns.map V.int)∧Q (.int ns.sum) H):=by
 intro pins s σ H xs us Q I r h;obtain⟨a,ns,rfl,hS,q⟩:=h;obtain⟨u,rfl,ru⟩:=Qu r;cases ru;obtain⟨its,vi,pl,hz⟩:=I.list hS;have hi:=Qh vi;obtain⟨xs,hx⟩:=hi.allInts.items;have hl:s.heap.IsList a (intItems xs):=hx ▸ Qq pl;refine sum_intListG (I.ok.hd hc) hl fun h' tk t' hk=>?_;have e1:ns=xs.toList.map (·.1):=by
  rw[← nums_intItems,← hx];exact hi.numsOf.symm
 have e2:preSum (numAt xs) xs.size=ns.sum:=by
  rw[e1,preSum_eq,List.take_of_length_le (by simp)]
 rw[e2];exact⟨.int ns.sum,H,I.kept hk,⟨_,rfl⟩,q⟩
theorem Zh5{e:Expr}{te:XK→TE}{pos:Pos}(he:PEX X e te)(hs:swapsWith e none pos.line X.env=pure false:=by rfl):PSX X [.Expr e pos] (fun Ex=>Znb (te Ex)):=by
 intro pins s σ H D Ex I h;exact wpAny_execs_cons (wpAny_Expr_any (Ub (he pins s σ H _ Ex I h) fun v s1 ⟨x,H1,I1,r1,q1⟩=>wpAny_execs_nil ⟨σ,H1,I1,q1⟩) I.quiet hs)
end
section
open PySem.SeqAt
open PySem.AutoSeq1 (wpAny_loadPart')
open PySem.MeetsSeq PySem.MeetsSeq2 PySem.MeetsSeq3
end
section
variable{X:Cx}
end
section
variable{X:Cx}{pins:List (Addr×Obj)}{σ:St}{H:Hp}{s:Shared}
theorem Inv.turnedAll{h':Heap}{t':Nat}{fp:List Addr}(I:Inv X pins σ H s)(k:∀ b o,b∉fp→s.heap.get? b=some o→h'.get? b=some o)(hf:∀ b∈fp,R9 X pins H b):Inv X pins σ H { s with heap:=h',toks:=t' }:=by
 have nfp:∀ b u,H b=some u→b∉fp:=fun b u e z=>by rw[(hf b z).1] at e;cases e
 refine I.step (g':=s.gens) (d':=s.drawn) (ch:=fp) (fun b hb=>⟨(hf b hb).2.2.2.1,(hf b hb).2.1,(hf b hb).2.2.2.2.1,(hf b hb).2.2.2.2.2⟩) (fun b o _ _ hc e _=>k b o hc e) (fun b o _ _ hc e _=>⟨o.slots,k b o hc e⟩) (fun _ _ _ _ n=>n)
  (fun b o hc e=>⟨o,k b o hc e⟩) (fun _ _ e=>e) (fun _ _ _ e=>e) (fun b ps e=>⟨#[],by rw[e];simp⟩) (fun m hm=>?_) (fun b u e=>?_) I.bare
 ·obtain⟨o,es,ep,ho,r⟩:=hm
  exact⟨o,es,ep,k _ o (fun z=>(hf _ z).2.1 rfl) ho,r⟩
 ·refine(I.hok b u e).stay (fun c v hc q=>k c v ?_ q) (fun _ q=>q) fun _ _ q=>q
  rcases hc with z | z
  ·rw[z];exact nfp b u e
  ·exact nfp c _ z
end
section
variable{X:Cx}
theorem Dy(hc:X.calm=true):Xw X (.builtin "max") (fun xs H Q=>∃(a:Addr) (ns:List Int),xs=[.ref a]∧SqL X.K H a (ns.map V.int)∧0 < ns.length∧∀ M,M∈ns→(∀ k∈ns,k≤M)→Q (.int M) H):=by
 intro pins s σ H xs us Q I r h;obtain⟨a,ns,rfl,hS,hn,q⟩:=h;obtain⟨u,rfl,ru⟩:=Qu r;cases ru;obtain⟨its,vi,pl,hz⟩:=I.list hS;have hi:=Qh vi;obtain⟨xs,hx⟩:=hi.allInts.items;have hl:s.heap.IsList a (intItems xs):=hx ▸ Qq pl;have hns:ns=xs.toList.map (·.1):=by
  rw[← nums_intItems,← hx];exact hi.numsOf.symm
 have hsz:0 < xs.size:=by
  rw[hns,Zk,Array.length_toList] at hn;exact hn
 refine max_intList (I.ok.hd hc) hl hsz fun v h' tk hv hk=>?_;obtain⟨t,rfl⟩:=intItems_at hv;obtain⟨g1,g2⟩:=argBest_gt (numAt xs) (xs.size - 1);refine⟨.int _,H,I.kept hk,⟨_,rfl⟩,q _ ?_ fun k hk'=>?_⟩
 ·rw[hns,numAt_eq]
  exact getD_mem (by rw[Zk,Array.length_toList];omega)
 ·rw[hns] at hk'
  obtain⟨j,hj,rfl⟩:=mem_getD hk';rw[Zk,Array.length_toList] at hj;rw[← numAt_eq];exact g2 j (by omega)
theorem Sm:MtR X "list.index" (fun x xs H Q=>∃(a:Addr) (k:Int) (ns:List Int) (j:Nat),x = .ref a∧xs=[.int k]∧SqL X.K H a (ns.map V.int)∧ns.length≤1000∧ns[j]? = some k∧(∀ m < j,ns[m]?≠some k)∧Q (.int (j:Nat)) H):=by
 intro pins s σ H x xs v us Q I rx rv h;obtain⟨a,k,ns,j,rfl,rfl,hS,hl,hj,hno,q⟩:=h;cases rx;obtain⟨u,rfl,t,rfl⟩:=Qu rv;obtain⟨its,vi,pl,hz⟩:=I.list hS;have hi:=Qh vi;obtain⟨⟨cls,dd,data,sl⟩,ho,hc,n,hd⟩:=Qq pl;simp only at hc hd;subst hc hd;have len:its.length=ns.length:=hi.length;have at_:∀ m (hm:m < its.toArray.size),isInt k its.toArray[m]=decide (ns[m]? = some k):=fun m hm=>by
  have hm':m < ns.length:=by rw[← len];simpa using hm
  obtain⟨t0,e0⟩:=PyProof.Rows.IntsAre.get hi m ns[m] (Zg hm');have e1:its.toArray[m] = .int ns[m] t0:=by
   have hm2:m < its.length:=by simpa using hm
   have e2:its[m]? = some its[m]:=Zg hm2;have e3:its[m] = .int ns[m] t0:=by
    rw[e0] at e2;exact(Zy e2).symm
   simpa using e3
  rw[e1,Zg hm'];show(_ == _)=_;by_cases c:ns[m]=k
  ·rw[c]
   simp
  ·have c2:¬ k=ns[m]:=fun z=>c z.symm
   simp [c,c2]
 have jl:j < its.toArray.size:=by
  have:=(Zu.mp hj).1;simp [len,this]
 refine call_meets PySem.F.slot_list_index ⟨_,ho,rfl⟩ PySem.F.entry_list_index (PySem.F.args_list_index_2 _ _) (PySem.SeqAt.list_indexAt a its.toArray n dd sl (.int k t) (isInt k) j jl ?_ ?_ ?_) ⟨ho,fun y hy=>(eq_isInt k t hi y (by simpa using hy)).at _ _,⟨.int (j:Nat),H,I.tok _,⟨_,rfl⟩,q⟩⟩
 ·have:ns.length≤1000:=hl
  have:=(Zu.mp hj).1;omega
 ·rw[at_ j jl,hj]
  exact Zc rfl
 ·intro m hm hmj
  rw[at_ m hm];exact Zd (hno m hmj)
end
section
open PySem.SeqAt
open PySem.AutoSeq1 (wpAny_loadPart')
open PySem.MeetsSeq PySem.MeetsSeq2 PySem.MeetsSeq3
end
section
variable{X:Cx}
def Vp:List V→List V→Bool
 | [],[]=>true
 | x :: xs,y :: ys=>Ru x y && Vp xs ys
 | _,_=>false
theorem Vo:∀(xs ys:List V),((List.range (min xs.length ys.length)).all (fun j=>Ru (xs.getD j .non) (ys.getD j .non)) && xs.length == ys.length)=Vp xs ys
 | [],[]=>rfl
 | [],_ :: _=>rfl
 | _ :: _,[]=>rfl
 | x :: xs,y :: ys=>by
  have e:min (x :: xs).length (y :: ys).length=min xs.length ys.length+1:=by simp only[Jo];omega
  rw[e,List.range_succ_eq_map,List.all_cons,List.all_map];show _=(Ru x y && Vp xs ys);rw[← Vo xs ys,Bool.and_assoc];have e2:((x :: xs).length == (y :: ys).length)=(xs.length == ys.length):=by simp
  rw[e2];rfl
theorem Xy{xs:List V}{us:List Value}(r:Vals xs us)(f:xs.all Xo=true){j:Nat}(h:j < us.toArray.size):RelV (xs.getD j .non) us.toArray[j]∧Xo (xs.getD j .non)=true:=by
 have hj:j < us.length:=by simpa using h
 have hx:j < xs.length:=by rw[r.length];exact hj
 obtain⟨u,e,ru⟩:=r.get (Zg hx);rw[Zg hj] at e;have g:xs.getD j .non=xs[j]:=by rw[Zr,Zg hx];rfl
 rw[g];have eu:us[j]=u:=Zy e;refine⟨?_,Ym.mp f _ (Y6 hx)⟩;show RelV xs[j] us.toArray[j];rw[List.getElem_toArray,eu];exact ru
def Zq7(K:W.Frag)(tup neg:Bool):R2:=fun x y H Q=>∃(a b:Addr) (xs ys:List V),x = .ref a∧y = .ref b∧(if tup then SqT K H a xs∧SqT K H b ys else SqL K H a xs∧SqL K H b ys)∧xs.all Xo=true∧ys.all Xo=true∧Q (.bl (if neg then !Vp xs ys else Vp xs ys)) H
theorem Zlq(hu:X.A.units+64 < cLine):Nf X (compareOp .NotEq) (Zq7 X.K true true):=by
 intro pins s σ H x y v u Q I rx ry h;obtain⟨a,b,xs,ys,rfl,rfl,⟨ha,hb⟩,fx,fy,q⟩:=h;cases rx;cases ry;obtain⟨its,r1,p1,_⟩:=I.tuple ha;obtain⟨its2,r2,p2,_⟩:=I.tuple hb;refine SeqAt.RcNeAt.tuples (e:=fun j=>Ru (xs.getD j .non) (ys.getD j .non)) p1 p2 (by omega) (fun j h1 h2=>Mm (Xy r1 fx h1).1 (Xy r2 fy h2).1 (Xy r1 fx h1).2 (Xy r2 fy h2).2) _ _ _ _ ⟨.bl _,H,I,rfl,?_⟩;have z:=Vo xs ys;rw[r1.length,r2.length] at z;rw[Z1,Z1,z];exact q
theorem S9:∀{xs ys:List V},xs.length≠ys.length→Vp xs ys=false
 | [],[],h=>absurd rfl h
 | [],_ :: _,_=>rfl
 | _ :: _,[],_=>rfl
 | x :: xs,y :: ys,h=>by
  show(Ru x y && Vp xs ys)=false;rw[S9 (xs:=xs) (ys:=ys) (fun z=>h (by simp [z])),Bool.and_false]
theorem Zlr(hu:X.A.units+64 < cLine):Nf X (compareOp .NotEq) (Zq7 X.K false true):=by
 intro pins s σ H x y v u Q I rx ry h;obtain⟨a,b,xs,ys,rfl,rfl,⟨ha,hb⟩,fx,fy,q⟩:=h;cases rx;cases ry;obtain⟨its,r1,p1,_⟩:=I.list ha;obtain⟨its2,r2,p2,_⟩:=I.list hb;by_cases e:xs.length=ys.length
 ·refine SeqAt.RcNeAt.lists (e:=fun j=>Ru (xs.getD j .non) (ys.getD j .non)) p1.isList p2.isList (by simp [← r1.length,← r2.length,e]) (by omega) (fun j h1 h2=>Mm (Xy r1 fx h1).1 (Xy r2 fy h2).1 (Xy r1 fx h1).2 (Xy r2 fy h2).2) _ _ _ _ ⟨.bl _,H,I,rfl,?_⟩
  have z:=Vo xs ys;rw[e,Nat.min_self,Qk,Bool.and_true,← e,r1.length] at z;rw[Z1,z];exact q
 ·refine SeqAt.RcNeAt.lists_lengths p1.isList p2.isList (by simp [← r1.length,← r2.length,e]) (by omega) _ _ _ _ ⟨.bl true,H,I,rfl,?_⟩
  have q':Q (.bl (!Vp xs ys)) H:=q;rw[S9 e] at q';exact q'
end
theorem Same.seqT{K:W.Frag}{H H':Hp}{a:Addr}{xs:List V}(e:Same H H')(h:SqT K H a xs):SqT K H' a xs:=by
 rcases h with(h | ⟨o,h⟩) | h
 ·exact .inl (.inl (e _ _ h))
 ·exact .inl (.inr ⟨o,e _ _ h⟩)
 ·exact .inr h
structure Mk0(K:W.Frag)(C:Addr):Prop where
 makes:W.makesIn K C=true
 init:W.findIn K (.ref C) "__init__" = some (some (.builtin "object.__init__"))
 kp:W.keepIn K (.ref C)=true
def Zn0(C:Addr):TE:=fun σ H Q=>∀ x dx,H x=none→H dx=none→dx≠x→Q (.ref x) (upd (upd H dx (.own x)) x (.ins C dx []))
section
variable{X:Cx}{CX:CXT}{k:Nat}{C:Addr}{E:XK}{x m:Str}{p pos apos:Pos}{e o:Expr}{es:List Expr}{ta:TE}{t:TA}
theorem Zez{pins:List (Addr×Obj)}{σ:St}{H:Hp}{s:Shared}{Q:VK}(M:Mk0 X.K C)(I:Inv X pins σ H s)
  (h:∀ x dx,H x=none→H dx=none→dx≠x→Q (.ref x) (upd (upd H dx (.own x)) x (.ins C dx []))) :
  wpAny (model X.prog X.w) X.A (call (.ref C) []) (EP X pins σ Q) X.xe s:=by
 have hq:=h (s.heap.objs.size+1) s.heap.objs.size (I.hok.fresh (Nat.le_succ _)) (I.hok.fresh (Zs _)) (Jh (Xl _));have I2:=Inv.made (C:=C) I;have Y:=W.makes_of (M:=model X.prog X.w) I.kIn M.makes;refine wpAny_call (Zft I.kIn M.makes M.init (fun self=>W.Looks.of_pure (W.oi_bind self)) ?_);obtain⟨hh,g,d,tk,os⟩:=s;have hx:((hh.push W.emptyDict).push (W.instObj C hh.objs.size)).get? (hh.objs.size+1)=some (W.instObj C hh.objs.size):=by heap_get
 have t1:W.Looks (model X.prog X.w) ((hh.push W.emptyDict).push (W.instObj C hh.objs.size)) (typeOf (.ref (hh.objs.size+1))) (.ref C):=(W.Looks.ld hx).andThen .now;have t2:W.Looks (model X.prog X.w) ((hh.push W.emptyDict).push (W.instObj C hh.objs.size)) (isInstance (.ref (hh.objs.size+1)) (.type "object")) true:=t1.andThen (Y.top.keeps fun b o e=>Zh _ (Zh _ e));refine codeAny_call_builtin W.oi_plain W.entry_oi (@W.check_slot (model X.prog X.w) _ _ _ "object.__init__" "object" "__init__" (.ref (hh.objs.size+1)) [] [] _ W.oi_kind W.oi_split t2 (W.oi_args (.ref (hh.objs.size+1))) ?_);rw[W.oi_run];exact Ze (And.intro rfl ⟨.ref (hh.objs.size+1),_,I2,rfl,hq⟩)
theorem Vh(M:Mk0 X.K C)(hg:Gl X x)(hm:X.mg x=some (.ref C))(hdb:(x == ("__debug__":Str))=false:=by decide):PE X (.Call (.Name x p) [] [] pos) (Zn0 C):=by
 intro pins s σ H Q I h;refine wpAny_Call_Name_kw (Eg I hg hm ?_ hdb);exact W.callWith_K0 I.kIn M.kp (Zez M I h)
structure MethF(P:Program)(w:World)(K:W.Frag)(mg:Str→Option Value)(base:Heap)(CX:CXT)(k:Nat)(ι:Type)(m:Str)(ps:List Str)(sp:ι→Sp)(cs:ι→Addr)(f:ι→Addr)(fd:ι→FuncData):Prop where
 c:∀ i,Cls K (cs i)
 hm:∀ i,Meth K (cs i) m (f i)
 F:∀ i,FnOk P w K mg base CX k (f i) (fd i) ps (sp i)
 hb:∀ i,Binds K (fd i) ps []
def Zg3{ι:Type}(m:Str)(sp:ι→Sp)(cs:ι→Addr)(E:XK)(ta:TE)(t:TA):TE:=fun σ H Q=>ta σ H fun x H1=>∃ i a dx fs,x = .ref a∧H1 a=some (.ins (cs i) dx fs)∧fs.lookup m=none∧t σ H1 fun vs H2=>sp i (x :: vs) H2 Q E
theorem Zig{ι:Type}{ps:List Str}{sp:ι→Sp}{cs f:ι→Addr}{fd:ι→FuncData}{pl:Sem Bool}(he:PE X o ta)(M:MethF X.prog X.w X.K X.mg X.base CX k ι m ps sp cs f fd)(hr:Room k X.A)(hx:Eb CX X E)(ha:PA X (e :: es) t)
  (hst:starEach (e :: es) X.env=(false,eval e X.env) :: starEach es X.env:=by rfl) (hpl:(backTo pos (starEach es X.env)).any (·.1)=false:=by rfl)
  (ht:eval (.Call (.Attribute o m apos) (e :: es) [] pos) X.env=(do
   let ov ← eval o X.env
   standAt apos.atName
   let (f,first) ← holding [ov] (getMethod ov m pl)
   callWith pos f first (backTo pos (starEach (e :: es) X.env)) (backToKw pos (keywordEach [] X.env))):=by rfl) :
  PE X (.Call (.Attribute o m apos) (e :: es) [] pos) (Zg3 m sp cs E ta t):=by
 intro pins s σ H Q I h;refine W.methodCall_KW (pl:=pl) (Ub (he pins s σ H _ I h) fun u s1 ⟨x,H1,I1,rx,i,a,dx,fs,ex,ea,l,q⟩=>?_) ht;subst ex;obtain rfl:u=Value.ref a:=rx;refine Na I1 ea (M.c i) (M.hm i) l ?_;refine W.callWith_K (first:=[.ref a]) (h₀:=X.base) I.ok.mod.kin (M.hm i).kp (Ub (ha pos pins s1 σ H1 _ I1 q) fun us s2 ⟨vs,H2,I2,r,q2⟩=>⟨I2.kIn,?_⟩) hst hpl;exact Tn (us:=.ref a :: us) (vs:=.ref a :: vs) (dvs:=[]) (M.F i) hr (M.hb i) .nil hx I2 (.cons rfl r) (by rw[J9];exact q2)
theorem Db{ι:Type}{ps:List Str}{sp:ι→Sp}{cs f:ι→Addr}{fd:ι→FuncData}{pl:Sem Bool}(he:PE X o ta)(M:MethF X.prog X.w X.K X.mg X.base CX k ι m ps sp cs f fd)(hr:Room k X.A)(hx:Eb CX X E)
  (ht:eval (.Call (.Attribute o m apos) [] [] pos) X.env=(do
   let ov ← eval o X.env
   standAt apos.atName
   let (f,first) ← holding [ov] (getMethod ov m pl)
   callWith pos f first (backTo pos (starEach [] X.env)) (backToKw pos (keywordEach [] X.env))):=by rfl) :
  PE X (.Call (.Attribute o m apos) [] [] pos) (Zg3 m sp cs E ta Znz):=by
 intro pins s σ H Q I h;refine W.methodCall_KW (pl:=pl) (Ub (he pins s σ H _ I h) fun u s1 ⟨x,H1,I1,rx,i,a,dx,fs,ex,ea,l,q⟩=>?_) ht;subst ex;obtain rfl:u=Value.ref a:=rx;refine Na I1 ea (M.c i) (M.hm i) l ?_;exact W.callWith_K0 (first:=[.ref a]) I1.kIn (M.hm i).kp (Tn (us:=[.ref a]) (vs:=[.ref a]) (dvs:=[]) (M.F i) hr (M.hb i) .nil hx I1 (.cons rfl .nil) q)
end
end L2
namespace My
open PySem L2
theorem Zpx{c:Bool}{t u:TS}{D:Ends}{σ:St}{H:Hp}(Pv:St→Hp→Prop)(h1:c=true→∀ D':Ends,D'.rt=D.rt→(∀ σ H,Pv σ H→D'.nx σ H)→t D' σ H)
  (h2:c=false→∀ D':Ends,D'.rt=D.rt→(∀ σ H,Pv σ H→D'.nx σ H)→u D' σ H) (h3:∀ σ H,Pv σ H→D.nx σ H):if c=true then t D σ H else u D σ H:=by
 cases c with
 | true=>exact Yt (h1 rfl D rfl h3)
 | false=>exact J3 (h2 rfl D rfl h3)
theorem Zde{α:Type}(xs:List α)(m:Int)(hm:m=(xs.length:Int))(h0:0 < xs.length)(z:Int):∃ v,v∈xs∧Xs xs (z % m)=some v:=by
 subst hm;have a0:0≤z % (xs.length:Int):=Yo _ (by omega);have a1:z % (xs.length:Int) < xs.length:=Yl _ (by omega);obtain⟨k,hk⟩:=Int.eq_ofNat_of_zero_le a0;rw[hk] at a1 ⊢;have hk':k < xs.length:=by omega
 exact⟨xs[k],Y6 hk',Qy (Zg hk')⟩
theorem Km(i j:Str):(i++j).length=i.length+j.length:=by
 show(i.cps++j.cps).size=_;rw[Array.size_append];rfl
theorem Uh{i j:Str}{a b:Nat}(h1:i.length≤a)(h2:j.length≤b):(i++j).length≤a+b:=by rw[Km];omega
theorem Q9{i j:Str}{a b:Nat}(h1:i.length≤a)(h2:j.length≤b)(h:a+b≤1000):i.length+j.length≤sizeLine:=by rw[sizeLine_eq];omega
theorem Yf(n:Nat)(h:n≤1000):n≤sizeLine:=by rw[sizeLine_eq];omega
theorem Zm3{α:Type}{p:α→Prop}:∀ x∈([]:List α),p x:=fun _ h=>nomatch h
theorem all_cons{α:Type}{p:α→Prop}{a:α}{l:List α}(h:p a)(r:∀ x∈l,p x):∀ x∈a :: l,p x:=fun x hx=>by
 rcases Ja.mp hx with e | e
 ·rw[e];exact h
 ·exact r x e
theorem Zmn{ns:List Int}{k:Int}(h:0 < ns.length):∃ v:Int,Xs (ns.map V.int) (k % (((ns.map V.int).length:Nat):Int))=some (.int v):=by
 obtain⟨v,hv,e⟩:=Zde (ns.map V.int) _ rfl (by rw[Zk];exact h) k;obtain⟨n,_,rfl⟩:=Zz.mp hv;exact⟨n,e⟩
section
variable{P:Program}{w:World}{K:W.Frag}{mg:Str→Option Value}{base:Heap}
structure Lib(P:Program)(w:World)(K:W.Frag)(mg:Str→Option Value)(base:Heap)(k:Nat)(x:Str)(ps:List Str)(sp:Sp)(f:Addr)(fd:FuncData):Prop where
 ok:FnOk P w K mg base Yq k f fd ps sp
 bd:Binds K fd ps []
 kp:W.keepIn K (.ref f)=true
 mg:mg x=some (.ref f)
structure LibX(P:Program)(w:World)(K:W.Frag)(mg:Str→Option Value)(base:Heap)(k:Nat)(x:Str)(ps:List Str)(sp:Sp)(f:Addr)(fd:FuncData):Prop where
 ok:FnOk P w K mg base (Ga P w) k f fd ps sp
 bd:Binds K fd ps []
 kp:W.keepIn K (.ref f)=true
 mg:mg x=some (.ref f)
end
def p4{α:Type}(a b c d:α):Fin 4→α:=fun i=>match i with | 0=>a | 1=>b | 2=>c | 3=>d
def wd:Fin 4→Str:=p4 "free" "follow" "cut" "beat"
def wds:List Str:=["free","follow","cut","beat"]
theorem Zqe(i:Fin 4):wds[i.val]? = some (wd i):=match i with | 0=>rfl | 1=>rfl | 2=>rfl | 3=>rfl
theorem Zgn{t:Str}(h:t∈wds):∃ i,t=wd i:=by
 rcases Ja.mp h with h | h
 ·exact⟨0,h⟩
 rcases Ja.mp h with h | h
 ·exact⟨1,h⟩
 rcases Ja.mp h with h | h
 ·exact⟨2,h⟩
 rcases Ja.mp h with h | h
 ·exact⟨3,h⟩
 ·exact nomatch h
theorem Zjv(i:Fin 4):wd i∈wds:=Zl (Zqe i)
theorem Zgp:∀ i j:Fin 4,wd i=wd j→i=j:=by decide +kernel
theorem Zgo:∀ i:Fin 4,3≤(wd i).length∧(wd i).length≤6:=by decide +kernel
section
variable{P:Program}{w:World}{K:W.Frag}{mg:Str→Option Value}{base:Heap}{f g:Addr}{fd gd:FuncData}
def Gy(i:Fin 4):Sp:=fun vs H Q _=>∃ a,vs=[.ref a]∧Q (.str (wd i)) H
abbrev Zkp(P:Program)(w:World)(K:W.Frag)(mg:Str→Option Value)(base:Heap)(k:Nat)(cs f:Fin 4→Addr)(fd:Fin 4→FuncData):Prop:=MethF P w K mg base Yq k (Fin 4) "word" ["self"] Gy cs f fd
def Za2(cs:Fin 4→Addr)(CN:Addr):Sp:=fun vs H Q E=>∃ t:Str,vs=[.str t]∧(∀ i,t=wd i→∀ x dx H',Same H H'→H x=none→H' x=some (.ins (cs i) dx [])→Q (.ref x) H')∧(t∉wds→∀ H',Same H H'→E (.ref CN) none H')
structure DutyC(K:W.Frag)(mg:Str→Option Value)(cs:Fin 4→Addr)(CN:Addr):Prop where
 mF:mg "Free" = some (.ref (cs 0))
 mL:mg "Follow" = some (.ref (cs 1))
 mC:mg "Cut" = some (.ref (cs 2))
 mB:mg "Beat" = some (.ref (cs 3))
 mak:∀ i,Mk0 K (cs i)
 mN:mg "NoTable" = some (.ref CN)
 hN:W.excIn K CN Uv "ValueError.__new__" = true
theorem Uq{H:Hp}{x dx:Addr}{o:HO}(hx:H x=none)(hd:H dx=none)(n:dx≠x):Same H (upd (upd H dx (.own x)) x o):=fun b u q=>by
 rw[Z8 (Jz q hx),Z8 (Jz q hd)];exact q
theorem Gq{st:Stmt}{qual wx:Str}{k:Nat}{sp:Sp}(F:Fun K "word" qual st f fd)(sc:FnScope ["self"] ["self"] (Zm st)){p1 p2:Pos}{j:Nat}(hb:Y1 st=[.Return (some (.Constant (.str wx) j p1)) p2])(hs:∀ vs H Q E,sp vs H Q E→∃ a,vs=[V.ref a]∧Q (.str wx) H):FnOk P w K mg base Yq (k+1) f fd ["self"] sp:=by
 refine F.ok sc (fun vs H Q E h=>?_) (fun cdv A outer s H vs Q E hr h=>?_)
 ·obtain⟨a,rfl,_⟩:=hs vs H Q E h
  rfl
 obtain⟨a,rfl,q⟩:=hs vs H Q E h;rw[hb];exact⟨_,Zn (Z9 Ud),q⟩
end
abbrev sLet:Str:="abcd"
abbrev sFig:Str:="12345678"
theorem Zmy(c:Nat):c∈sFig.cps.toList↔49≤c∧c≤56:=by
 have e:sFig.cps.toList=[49,50,51,52,53,54,55,56]:=by decide +kernel
 rw[e];simp only[Ja,Y5,or_false];omega
theorem S5(c:Nat):Txt.find sFig ⟨#[c]⟩=if 49≤c∧c≤56 then((c - 49:Nat):Int) else -1:=by
 by_cases h:49≤c∧c≤56
 ·rw[Zv h]
  have h4:c=49∨c=50∨c=51∨c=52∨c=53∨c=54∨c=55∨c=56:=by omega
  rcases h4 with rfl | rfl | rfl | rfl | rfl | rfl | rfl | rfl<;>decide +kernel
 ·rw[Zj h]
  have e:=PyProof.Rows.empty_one sFig c;rw[Zd (fun z=>h ((Zmy c).mp z))] at e;unfold Txt.find;cases q:Builtin.Str.occurrences sFig ⟨#[c]⟩ 0 sFig.length 1 with
  | nil=>rfl
  | cons a b=>rw[q] at e;cases e
end My
namespace L2
open PySem PySem.Spec PyProof.Rows
section
variable{prog:Program}{w:World}{A:Around}{E:Value→Shared→Prop}{s:Shared}
theorem IsList.ext{h h':Heap}{l:Addr}{items:Array Value}(x:h.IsList l items)(e:∀ o,h.get? l=some o→h'.get? l=some o):h'.IsList l items:=let ⟨o,ho,r⟩:=x;⟨o,e _ ho,r⟩
theorem Dv{it t:Addr}{items:Array Value}(hne:t≠it):∀(n i:Nat) (s:Shared) (Q:List Value→Shared→Prop),s.heap.IsListIter it t i→s.heap.IsList t items→i+n≤items.size →
  (∀ h',h'.IsListIter it t (i+n)→Heap.SameBut it s.heap h'→Q ((items.toList.drop i).take n) { s with heap:=h' })→wpAny (model prog w) A (draw (.ref it) n) Q E s
 | 0,i,s,Q,hit,_,_,hQ=>by
  show wpAny _ _ (pure []) Q E s;exact Ze (by simpa using hQ s.heap hit (Heap.SameBut.refl ..))
 | n+1,i,s,Q,hit,ht,hle,hQ=>by
  have hlt:i < items.size:=by omega
  show wpAny _ _ (pyNext (.ref it) >>= _) Q E s;refine Zb (wpAny_pyNext_list_item hit ht (x:=items[i]) (by simp [hlt]) fun h₁ hit₁ hs₁=>?_);refine Zb (wpAny_holding (Dv hne n (i+1) _ _ hit₁ (IsList.ext ht fun o e=>hs₁.extBut t o hne e) (by omega) fun h₂ hit₂ hs₂=>Ze ?_));have hd:items.toList.drop i=items[i] :: items.toList.drop (i+1):=by simp [List.drop_eq_getElem_cons,hlt]
  have:=hQ h₂ (by rw[show i+(n+1)=i+1+n by omega];exact hit₂) (hs₁.trans hs₂);rw[hd,List.take_succ_cons] at this;exact this
theorem Vz{t:Addr}{items:Array Value}{Q:List Value→Shared→Prop}(hh:A.handled=none)(ht:s.heap.IsList t items)
  (hQ:∀ h',Heap.ExtBut s.heap.objs.size s.heap h'→Q items.toList { s with heap:=h' }):wpAny (model prog w) A (unpackItems (.ref t) items.size none) Q E s:=by
 have hlt:t≠s.heap.objs.size:=by obtain⟨o,ho,_⟩:=ht;exact Jh (Z3 ho)
 unfold unpackItems;refine Zb ?_
 ·unfold notIterableAtAll
  refine Zb (wpAny_specialOf ht.typeIs slot_list_iter.lookup ?_);refine Ze ?_;simp only[Bool.false_eq_true,if_false];refine Zb (wpAny_holding (wpAny_pyIter_list ht ?_));refine Zb (wpAny_holding (Dv hlt items.size 0 _ _ ⟨_,Z6 _ rfl,rfl,rfl⟩ (IsList.ext ht fun o e=>Zh _ e) (by omega) fun h₁ hit₁ hs₁=>?_));have hall:List.take items.size (List.drop 0 items.toList)=items.toList:=by
   rw[List.drop_zero];exact List.take_of_length_le (by simp)
  rw[hall];rw[Zj (by simp)];have ht₁:h₁.IsList t items:=IsList.ext ht fun o e=>hs₁.extBut t o hlt (Zh _ e);refine Zb (wpAny_holding (wpAny_pyNext_list_end hh hit₁ ht₁ (by simp) fun h₂ he₂=>?_));simp only[Option.isSome_none,Bool.false_eq_true,if_false];refine Ze (hQ h₂ fun b o hb e=>he₂ b o hb (hs₁.extBut b o hb (Zh _ e)))
theorem Vu{env:Env}{elts:List Expr}{x1}{pos:Pos}{t:Addr}{items:Array Value}{Q:Unit→Shared→Prop}(hh:A.handled=none)(ht:s.heap.IsList t items)
  (hn:(assignEach elts env).length=items.size) (hstar:(assignEach elts env).findIdx? (·.1)=none)
  (h:∀ h',Heap.ExtBut s.heap.objs.size s.heap h'→wpAny (model prog w) A (assignInOrder ((assignEach elts env).map (·.2)) items.toList) Q E { s with heap:=h' }) :
  wpAny (model prog w) A (assign (.Tuple elts x1 pos) env (.ref t)) Q E s:=by
 rw[assign_Tuple];refine Zb (wpAny_standAt ?_);unfold unpack;rw[hn,hstar];exact Zb (wpAny_holding (Vz hh ht h))
end
section
variable{X:Cx}{e st:Expr}{te:TE}{lo:Option Expr}{tl ts:TO}{pos p2:Pos}
def Zs4(K:W.Frag)(n:Nat)(t:TGs):TG:=fun v σ H Q=>∃ a xs,v = .ref a∧SqL K H a xs∧xs.length=n∧t xs σ H Q
theorem Zoq{es:List Expr}{k:Nat}{t:TGs}{n:Nat}(hc:X.calm=true)(h:PGs X es t)
  (hn:(assignEach es X.env).length=n:=by rfl) (hst:(assignEach es X.env).findIdx? (·.1)=none:=by rfl):PG X (.Tuple es k pos) (Zs4 X.K n t):=by
 intro pins s σ H v u Q I r hw;obtain⟨a,xs,e1,hq,hl,hw⟩:=hw;subst e1;cases r;obtain⟨its,rv,ht,hz⟩:=I.list hq;refine Vu (I.ok.hd hc) ht.isList (by simp [hn,← hl,rv.length]) hst fun h' hx=>?_;have I1:Inv X pins σ H { s with heap:=h' }:=I.kept (t':=s.toks) fun b o e=>hx b o (Jh (Z3 e)) e;exact h pins _ σ H xs _ Q I1 (by simpa using rv) hw
def Zqi(K:W.Frag)(te:TE)(tl ts:TO):TE:=fun σ H Q=>te σ H fun x H1=>tl σ H1 fun o H2=>ts σ H2 fun o2 H3=>o2=some 2∧∃ a x0 x1 x2 x3 x4 x5 x6 x7 x8 x9,x = .ref a∧SqL K H3 a [x0,x1,x2,x3,x4,x5,x6,x7,x8,x9] ∧
 ((o=some 0∧∀ p,H3 p=none→Q (.ref p) (upd H3 p (.lst [x0,x2,x4,x6,x8])))∨(o=some 1∧∀ p,H3 p=none→Q (.ref p) (upd H3 p (.lst [x1,x3,x5,x7,x9]))))
theorem Zdc{ys zs:List Value}{n:Nat}{lo hi st:Option Int}{ix:List Nat}(hn:ys.length=n)(h:sliceRange (sliceBounds lo hi st n).1 (sliceBounds lo hi st n).2.1 (sliceBounds lo hi st n).2.2=ix)(hz:ix.filterMap (ys[·]?)=zs):slicePick ys.toArray lo hi st=zs.toArray:=by
 unfold slicePick;rw[Z1,hn,h,← hz]
 congr 2
 funext i
 simp
theorem ten{xs:List Value}(h:xs.length=10):∃ a b c d e f g i j k,xs=[a,b,c,d,e,f,g,i,j,k]:=match xs,h with | [a,b,c,d,e,f,g,i,j,k],_=>⟨a,b,c,d,e,f,g,i,j,k,rfl⟩
theorem Zdh(he:PE X e te)(hl:PO X lo tl)(hst:PO X (some st) ts):PE X (.Subscript e (.Slice lo none (some st) p2) pos) (Zqi X.K te tl ts):=by
 intro pins s σ H Q I h;refine Subscript_ (Ub (he pins s σ H _ I h) fun v s1 ⟨x,H1,I1,r1,q1⟩=>?_);refine wpAny_Slice (Ub (hl pins s1 σ H1 _ I1 q1) fun vl s2 ⟨l,H2,I2,pl,q2⟩=>?_);rw[evalPart_none];refine Ze (Ub (hst pins s2 σ H2 _ I2 q2) fun vs s3 ⟨o,H3,I3,po,q3⟩=>?_);obtain⟨rfl,a,x0,x1,x2,x3,x4,x5,x6,x7,x8,x9,rfl,hx,q⟩:=q3;cases r1;have I4:Inv X pins σ H3 { s3 with heap:=s3.heap.push { cls:=.type "slice",data:=.fields #[vl,.none,vs] } }:=I3.kept (t':=s3.toks) fun b ob q=>Zh _ q;obtain⟨its,r,ht,hz⟩:=I4.list hx;have hlen:=r.length;obtain⟨y0,y1,y2,y3,y4,y5,y6,y7,y8,y9,rfl⟩:=ten hlen.symm;cases r with | cons r0 r=>cases r with | cons r1 r=>cases r with | cons r2 r=>cases r with | cons r3 r=>cases r with | cons r4 r=>cases r with | cons r5 r=>cases r with | cons r6 r=>cases r with | cons r7 r=>cases r with | cons r8 r=>cases r with | cons r9 r=>
 show wpAny (model X.prog X.w) X.A (subscriptTail e (.Slice lo none (some st) p2) (.ref a) (.ref s3.heap.objs.size)) (EP X pins σ Q) X.xe { s3 with heap:=s3.heap.push { cls:=.type "slice",data:=.fields #[vl,.none,vs] } };refine PyProof.Rows.tail_any (ops:=[.ref a,.ref s3.heap.objs.size]) ht.isList.typeIs slot_list_getitem.lookup ?_ (by with_unfolding_all rfl);refine wpAny_getItem_list_slice ht.isList (Heap.IsSliceOf.new ..) pl .none po (by decide) ?_ (by rw[Z1]<;>exact Ui (Qz (show 10≤1000 by decide)));rcases q with⟨rfl,q⟩ | ⟨rfl,q⟩
 ·have ep:slicePick [y0,y1,y2,y3,y4,y5,y6,y7,y8,y9].toArray (some 0) none (some 2)=[y0,y2,y4,y6,y8].toArray:=Zdc (n:=10) (ix:=[0,2,4,6,8]) rfl (by decide +kernel) rfl
  rw[ep];exact⟨.ref _,_,I4.lnew (t':=s3.toks) (ys:=[x0,x2,x4,x6,x8]) (its:=[y0,y2,y4,y6,y8]) (.cons r0 (.cons r2 (.cons r4 (.cons r6 (.cons r8 .nil))))) (Ui (Qz (show 5≤1000 by decide))),rfl,q _ I4.fresh⟩
 ·have ep:slicePick [y0,y1,y2,y3,y4,y5,y6,y7,y8,y9].toArray (some 1) none (some 2)=[y1,y3,y5,y7,y9].toArray:=Zdc (n:=10) (ix:=[1,3,5,7,9]) rfl (by decide +kernel) rfl
  rw[ep];exact⟨.ref _,_,I4.lnew (t':=s3.toks) (ys:=[x1,x3,x5,x7,x9]) (its:=[y1,y3,y5,y7,y9]) (.cons r1 (.cons r3 (.cons r5 (.cons r7 (.cons r9 .nil))))) (Ui (Qz (show 5≤1000 by decide))),rfl,q _ I4.fresh⟩
theorem Ka:Xw X (.type "int") (fun xs H Q=>∃ x n,xs=[.str x]∧PySem.intText? x=some n∧x.length≤640∧Q (.int n) H):=by
 intro pins s σ H xs us Q I r h;obtain⟨x,n,rfl,hn,hl,q⟩:=h;obtain⟨u,rfl,t,rfl⟩:=Qu r;exact W.KIN.call_text hn hl ⟨.int n,H,I.tok _,⟨_,rfl⟩,q⟩
def N1(t:Str):List Str:=t.cps.toList.map fun c=>⟨#[c]⟩
theorem Rj(t:Str):(N1 t).length=t.length:=by unfold N1;rw[Zk];rfl
theorem Gu{t:Str}{acc:Array Value}(h:ItemsOf (SignAt t) acc t.cps.size):Vals (vS (N1 t)) acc.toList:=by
 obtain⟨hs,hi⟩:=h;have key:∀(cs:List Nat) (us:List Value),us.length=cs.length→(∀(j:Nat) v,us[j]? = some v→∃ c u,cs[j]? = some c∧v = .str ⟨#[c]⟩ u)→Vals ((cs.map fun c=>(⟨#[c]⟩:Str)).map V.str) us:=by
  intro cs
  induction cs with
  | nil=>
   intro us hl _;have e:us=[]:=List.eq_nil_of_length_eq_zero hl;subst e;exact .nil
  | cons c cs ih=>
   intro us hl hu;cases us with
   | nil=>cases hl
   | cons u us=>
    obtain⟨c',t',hc,hv⟩:=hu 0 u rfl;have e:c=c':=Zy hc;subst e;exact .cons ⟨_,hv⟩ (ih us (Nat.succ.inj hl) fun j v hj=>hu (j+1) v hj)
 refine key t.cps.toList acc.toList (by simpa using hs) fun j v hj=>?_;obtain⟨c,u,h1,h2⟩:=hi j v (by simpa using hj);exact⟨c,u,by simpa using h1,h2⟩
theorem Ms(hc:X.calm=true):Xw X (.type "list") (fun xs H Q=>∃ t,xs=[.str t]∧t.length≤1000∧∀ l,H l=none→Q (.ref l) (upd H l (.lst (vS (N1 t))))):=by
 intro pins s σ H xs us Q I r h;obtain⟨x,rfl,hl,q⟩:=h;obtain⟨u,rfl,t,rfl⟩:=Qu r;have hz:x.length≤sizeLine:=Ui (Qz hl);refine call_list_str (I.ok.hd hc) x t (fun h' tk acc' c' kp e hi=>?_) hz;have hv:=Gu hi;exact⟨.ref s.heap.objs.size,_,I.laid (t':=tk) kp (Zs _) (show ObjOk X.prog X.w _ h' _ (.lst (vS (N1 x))) from⟨by rw[D7,Rj];exact hz,acc'.toList,c',hv,by simpa using e⟩),rfl,q _ (I.hok.fresh (Zs _))⟩
theorem M5:∀{us:List Value} {ss:List Str},StrsAre us ss→Vals (vS ss) us
 | _,_,.nil=>.nil
 | _,_,.cons x t h=>.cons ⟨t,rfl⟩ (M5 h)
theorem R8(hc:X.calm=true):Xw X (.builtin "sorted") (fun xs H Q=>∃ t,xs=[.str t]∧t.length < 64∧∀ l ss,H l=none→ss.Perm (N1 t)→sortedS ss=true→Q (.ref l) (upd H l (.lst (vS ss)))):=by
 intro pins s σ H xs us Q I r h;obtain⟨x,rfl,hl,q⟩:=h;obtain⟨u,rfl,t,rfl⟩:=Qu r;have hz:x.length≤sizeLine:=Ui (Qz (by omega));refine Calls.call_function_entry kind_sorted plain_sorted entry_sorted (args_sorted1 _) ?_;unfold Builtin.«sorted»;refine Zb (m:=checkCount "sorted" 1 1 _) (Ze ?_);refine Zb (wpAny_collect_str (A:=X.A.in1) (show X.A.in1.handled=none from I.ok.hd hc) x t (fun s1 acc kp hg hd ho hi=>?_) hz);have hv:=Gu hi;have hS:StrsAre acc.toList (N1 x):=Bk hv;have hlen:acc.toList.length < 64:=by rw[← hv.length,D7,Rj];exact hl
 obtain⟨hp1,g1,d1,t1,o1⟩:=s1;simp only at hg hd ho kp;subst hg hd ho;have I1:Inv X pins σ H { s with heap:=hp1,toks:=t1 }:=I.kept (t':=t1) kp;refine Zb (wpAny_newList ?_);have hoL:(hp1.push (seqObj "list" acc.toList.toArray 0)).get? hp1.objs.size=some (seqObj "list" acc.toList.toArray 0):=Z6 _ rfl;refine Zb (wpAny_holding (wpAny_call_entry slot_list_sort ⟨_,hoL,rfl⟩ entry_list_sort (list_sort_treeK (κ:=strKind) strKind_oneLt hoL hS.keysOf (fun v₁ v₂ rest e=>keyKind_strs (by rw[← e];exact hS)) hlen fun st' hp hs=>⟨_,rfl,Ze ⟨_,rfl,?_⟩⟩) (args_list_sort _)));obtain⟨ss',h1,h2,h3⟩:=sorted_out_str hS hp hs;obtain⟨ep,he⟩:=sortedHeap_at (out:=(arrOf st').map (·.2)) hoL;have hl2:ss'.length=x.length:=by rw[h2.length_eq,Rj]
 refine⟨.ref hp1.objs.size,_,I1.laid (t':=t1) (a:=hp1.objs.size) (o:=.lst (vS ss')) (h':=sortedHeap (hp1.push (seqObj "list" acc.toList.toArray 0)) hp1.objs.size acc.toList ((arrOf st').map (·.2))) (fun b u e=>?_) (Zs _) ?_,rfl,q _ ss' (I1.hok.fresh (Zs _)) h2 h3⟩
 ·have hb:=Z3 e
  rw[sortedHeap_old (Jh hb) (by rw[size_push'];exact Nat.lt_succ_of_lt hb)];exact Zh _ e
 ·refine⟨by rw[D7,hl2];exact hz,((arrOf st').map (·.2)).toList,ep,M5 h1,?_⟩
  rw[Array.toArray_toList];exact he
end
def Zq5:V→List V→Hp→VK→Prop:=fun x xs H Q=>∃ i j,x = .str i∧xs=[.str j]∧Q (.int (Txt.find i j)) H
theorem Zih{X:Cx}{K:W.Frag}{o e:Expr}{to:TE}{t:TA}{apos cpos:Pos}(hK:X.K=K)(ho:PE X o to)(ha:PA X [e] t)
  (hbase:attributeBase o "find" X.env (eval o X.env)=eval o X.env:=by rfl)
  (hfew:((backTo cpos (starEach [e] X.env)).all (fun x=>!x.1) && (backToKw cpos (keywordEach [] X.env)).all (fun x=>x.1.isSome) && decide ([e].length+([]:List Keyword).length+(if([]:List Keyword).isEmpty then 0 else 1) < 30))=true:=by rfl)
  (hline:(apos.endLine == cpos.line)=true:=by rfl) (hs:starEach [e] X.env=[(false,eval e X.env)]:=by rfl):PE X (.Call (.Attribute o "find" apos) [e] [] cpos) (tBM K "str" Zq5 to t):=by
 subst hK;exact En PySem.F.plainAttrs_str PySem.F.slot_str_find PySem.F.type_str_find As ho ha hbase hfew hline hs rfl
structure FunD(K:W.Frag)(x qual:Str)(st:Stmt)(f:Addr)(fd:FuncData):Prop where
 ex:∃(oc:Value) (od:Option Addr) (dV kV doc pm:Value) (an:Option Addr) (cdv ct:Value) (osl:Array (Option Value)),
  fd=W.fnOf x qual (Uo st) (Y1 st) (Zm st) dV kV doc pm an cdv ct∧K.lookup f=some ⟨oc,od,.func fd,osl⟩∧W.codeIn K cdv qual=true
 kp:W.keepIn K (.ref f)=true
theorem FunD.ok{P:Program}{w:World}{K:W.Frag}{mg:Str→Option Value}{base:Heap}{x qual:Str}{st:Stmt}{f:Addr}{fd:FuncData}{N ps:List Str}{k:Nat}{sp:Sp}(F:FunD K x qual st f fd)(S:FnScope N ps (Zm st))(len:∀ vs H Q E,sp vs H Q E→vs.length=ps.length)
  (hbody:∀(cdv:Value) (A:Around) (outer:List Env) (s:Shared) (H:Hp) (vs:List V) (Q:VK) (E:XK),Room k (A.deeper (envOfC qual (Zm st) s.heap.objs.size f cdv))→sp vs H Q E →
   ∃ t,PSs (Nb Yq P w K mg base N qual (Zm st) f cdv A outer s H E).nox (Y1 st) t∧t { nx:=fun _ H'=>Q .non H',rt:=Q } (start N vs) H):FnOk P w K mg base Yq (k+1) f fd ps sp:=by
 obtain⟨oc,od,dV,kV,doc,pm,an,cdv,ct,osl,rfl,lk,hcd⟩:=F.ex;refine Zkb lk hcd S len fun A outer s H vs Q E hr hsp=>?_;obtain⟨t,h,q⟩:=hbody cdv A outer s H vs Q E hr hsp;exact⟨t,h.nox,q⟩
theorem Zmw{K:W.Frag}{x qual:Str}{st:Stmt}{f:Addr}{oc:Value}{od an:Option Addr}{osl:Array (Option Value)}{dV kV doc pm cdv ct:Value}(l:K.lookup f=some ⟨oc,od,.func (W.fnOf x qual (Uo st) (Y1 st) (Zm st) dV kV doc pm an cdv ct),osl⟩)
  (c:W.codeIn K cdv qual=true) (k:W.keepIn K (.ref f)=true):FunD K x qual st f (W.fnOf x qual (Uo st) (Y1 st) (Zm st) dV kV doc pm an cdv ct):=⟨⟨oc,od,dV,kV,doc,pm,an,cdv,ct,osl,rfl,l,c⟩,k⟩
end L2
namespace My
open PySem L2 PySem.Spec PyProof.Rows
def Me:List (List Nat)→List Nat
 | []=>[]
 | [x]=>x
 | x :: y :: r=>x++32 :: Me (y :: r)
theorem Zkm:∀(x y a b:List Nat),32∉x→32∉y→x++32 :: a=y++32 :: b→x=y∧a=b
 | [],[],a,b,_,_,h=>by
  injection h with _ h
  exact⟨rfl,h⟩
 | [],c :: y,a,b,_,hy,h=>by
  injection h with h _
  exact absurd (h ▸ Zw) hy
 | c :: x,[],a,b,hx,_,h=>by
  injection h with h _
  exact absurd (h ▸ Zw) hx
 | c :: x,d :: y,a,b,hx,hy,h=>by
  injection h with h1 h2
  obtain⟨e1,e2⟩:=Zkm x y a b (fun z=>hx (Zx _ z)) (fun z=>hy (Zx _ z)) h2;exact⟨by rw[h1,e1],e2⟩
theorem Dl:∀ xs ys:List (List Nat),xs≠[]→ys≠[]→(∀ x∈xs,32∉x)→(∀ y∈ys,32∉y)→Me xs=Me ys→xs=ys
 | [],_,h,_,_,_,_=>absurd rfl h
 | _,[],_,h,_,_,_=>absurd rfl h
 | [x],[y],_,_,_,_,h=>by
  have e:x=y:=h;rw[e]
 | [x],y :: y2 :: r,_,_,hx,_,h=>by
  have e:x=y++32 :: Me (y2 :: r):=h;refine absurd ?_ (hx x Zw);rw[e];exact List.mem_append_right _ Zw
 | x :: x2 :: r,[y],_,_,_,hy,h=>by
  have e:x++32 :: Me (x2 :: r)=y:=h;refine absurd ?_ (hy y Zw);rw[← e];exact List.mem_append_right _ Zw
 | x :: x2 :: r,y :: y2 :: r2,_,_,hx,hy,h=>by
  obtain⟨e1,e2⟩:=Zkm x y _ _ (hx x Zw) (hy y Zw) h;have e3:=Dl (x2 :: r) (y2 :: r2) (List.cons_ne_nil _ _) (List.cons_ne_nil _ _) (fun z hz=>hx z (Zx _ hz)) (fun z hz=>hy z (Zx _ hz)) e2;rw[e1,e3]
abbrev blank:Str:=" "
theorem Dz:blank=⟨#[32]⟩:=by decide +kernel
theorem Nu:∀ ws:List Str,(Txt.join blank ws).cps.toList=Me (ws.map fun w=>w.cps.toList):=by
 intro ws;unfold Txt.join;rw[StrLaws.glued_eq_join]
 induction ws with
 | nil=>rfl
 | cons x r ih=>
  cases r with
  | nil=>rfl
  | cons y r=>
   show(x++blank++Str.join blank (y :: r)).cps.toList=x.cps.toList++32 :: Me ((y :: r).map fun w=>w.cps.toList);rw[← ih,Dz];show((x.cps ++ #[32])++(Str.join ⟨#[32]⟩ (y :: r)).cps).toList=_;rw[Array.toList_append,Array.toList_append,Y3];rfl
theorem Oe{a b:Str}(h:a.cps.toList=b.cps.toList):a=b:=by
 obtain⟨⟨a⟩⟩:=a;obtain⟨⟨b⟩⟩:=b;cases h;rfl
theorem Zg7(x:Str):Txt.split x blank≠[]:=by
 unfold Txt.split;split
 ·exact List.cons_ne_nil _ _
 ·split
  ·exact List.cons_ne_nil _ _
  ·intro z
   have l:=PyProof.Rows.len_partsBetween x (Builtin.Str.occurrences x blank 0 x.length (x.length+1)) blank.length;rw[z] at l;cases l
theorem Zas(ws:List Str)(h:ws≠[])(hf:∀ w∈ws,32∉w.cps.toList):Txt.split (Txt.join blank ws) blank=ws:=by
 have e1:Txt.join blank (Txt.split (Txt.join blank ws) blank)=Txt.join blank ws:=by
  have z:=StrLaws.join_split (Txt.join blank ws) blank;rw[← StrLaws.glued_eq_join] at z;exact z
 have e2:=congrArg (fun s:Str=>s.cps.toList) e1;rw[Nu,Nu] at e2;have e3:=Dl _ _ (fun z=>Zg7 _ (List.map_eq_nil_iff.mp z)) (fun z=>h (List.map_eq_nil_iff.mp z)) (fun x hx=>?_) (fun y hy=>?_) e2
 ·have inj:∀ a b:List Str,(a.map fun w=>w.cps.toList)=(b.map fun w=>w.cps.toList)→a=b:=by
   intro a
   induction a with
   | nil=>intro b hb;cases b with
    | nil=>rfl
    | cons y r=>cases hb
   | cons x r ih=>intro b hb;cases b with
    | nil=>cases hb
    | cons y r2=>
     injection hb with h1 h2
     rw[Oe h1,ih r2 h2]
  exact inj _ _ e3
 ·obtain⟨w,hw,rfl⟩:=Zz.mp hx
  rw[Dz] at hw;exact StrLaws.split_free _ 32 w hw
 ·obtain⟨w,hw,rfl⟩:=Zz.mp hy
  exact hf w hw
theorem Zj3(sep:Str)(ws:List Str):(Txt.join sep ws).length≤(ws.map (·.length)).sum+ws.length * sep.length:=by
 unfold Txt.join;rw[StrLaws.glued_eq_join];exact StrLaws.join_length_le sep ws
theorem Zgh:blank.length=1:=by decide +kernel
def vN(ys:List Nat):List V:=ys.map fun c=>V.int (c:Nat)
theorem Yh(ys:List Nat):(vN ys).length=ys.length:=Zk _
theorem D8(ys:List Nat):vN ys=(ys.map fun c=>((c:Nat):Int)).map V.int:=by unfold vN;rw[Z7];rfl
theorem B1:∀(ys:List Str),(vS ys).all Xo=true
 | []=>rfl
 | _ :: ys=>by
  show(true && (vS ys).all Xo)=true;rw[B1 ys];rfl
def Ec(i:Nat):Str:=⟨#[49+i]⟩
def U1(l:List Nat):Str:=⟨(l.map (49 + ·)).toArray⟩
theorem Ea(l:List Nat):(U1 l).length=l.length:=by
 show((l.map (49 + ·)).toArray).size=_;rw[Z1,Zk]
theorem Zf9(l:List Nat):N1 (U1 l)=l.map Ec:=by
 unfold N1 U1;rw[show(⟨(l.map (49 + ·)).toArray⟩:Str).cps.toList=l.map (49 + ·) from rfl,Z7];rfl
theorem Ro:∀{xs ys:List Nat},xs.Perm ys→xs.Pairwise (·≤·)→ys.Pairwise (·≤·)→xs=ys
 | [],ys,p,_,_=>p.nil_eq
 | x :: xs,[],p,_,_=>by have:=p.length_eq;cases this
 | x :: xs,y :: ys,p,hx,hy=>by
  obtain⟨hx1,hx2⟩:=List.pairwise_cons.mp hx;obtain⟨hy1,hy2⟩:=List.pairwise_cons.mp hy;have e:x=y:=by
   have a:x∈y :: ys:=p.subset (Zw ..);have b:y∈x :: xs:=p.symm.subset (Zw ..);rcases Ja.mp a with a | a
   ·exact a
   ·rcases Ja.mp b with b | b
    ·exact b.symm
    ·have:=hx1 y b
     have:=hy1 x a;omega
  subst e;rw[Ro p.cons_inv hx2 hy2]
theorem Zn3{a b:Nat}(h:ltCps (Ec b).cps.toList (Ec a).cps.toList=false):a≤b:=by
 rw[PyProof.Rows.ltCps_eq] at h;have h2:¬ ([49+b]:List Nat) < [49+a]:=of_decide_eq_false h;rcases Nat.lt_or_ge b a with z | z
 ·exact absurd (List.cons_lt_cons_iff.mpr (.inl (by omega))) h2
 ·exact z
theorem M9:∀{a:Nat} {l:List Nat},risingS (Ec a) (l.map Ec)=true→(a :: l).Pairwise (·≤·)
 | a,[],_=>List.pairwise_singleton ..
 | a,b :: l,h=>by
  have h':(!ltCps (Ec b).cps.toList (Ec a).cps.toList && risingS (Ec b) (l.map Ec))=true:=h;rw[Bool.and_eq_true] at h';have ab:a≤b:=Zn3 (by simpa using h'.1);have r:=M9 (a:=b) (l:=l) h'.2;refine List.pairwise_cons.mpr ⟨fun c hc=>?_,r⟩;rcases Ja.mp hc with e | hc
  ·omega
  ·have:=(List.pairwise_cons.mp r).1 c hc
   omega
theorem Zer:∀{l:List Nat},sortedS (l.map Ec)=true→l.Pairwise (·≤·)
 | [],_=>.nil
 | a :: l,h=>M9 (show risingS (Ec a) (l.map Ec)=true from h)
theorem Si:∀{ss:List Str} {l:List Nat},ss.Perm (l.map Ec)→∃ ks:List Nat,ss=ks.map Ec∧ks.Perm l:=by
 intro ss l p;have inj:∀ a b,Ec a=Ec b→a=b:=fun a b e=>by
  unfold Ec at e;injection e with e
  have e1:[49+a]=[49+b]:=congrArg Array.toList e;injection e1 with e1
  omega
 refine⟨ss.map (fun s=>s.cps.toList.headD 0 - 49),?_,?_⟩
 ·rw[Z7]
  have:∀ s∈ss,(Ec ∘ fun s:Str=>s.cps.toList.headD 0 - 49) s=s:=fun s hs=>by
   obtain⟨i,_,rfl⟩:=Zz.mp (p.subset hs);show Ec ((49+i) - 49)=Ec i
   congr 1
   omega
  exact((J2 this).trans (List.map_id' ss)).symm
 ·have q:=p.map (fun s:Str=>s.cps.toList.headD 0 - 49)
  rw[Z7] at q;have:l.map ((fun s:Str=>s.cps.toList.headD 0 - 49) ∘ Ec)=l:=by
   have:∀ i∈l,((fun s:Str=>s.cps.toList.headD 0 - 49) ∘ Ec) i=i:=fun i _=>by
    show(49+i) - 49=i;omega
   exact(J2 this).trans (List.map_id' _)
  rw[this] at q;exact q
theorem Aj(h:Nat):(List.range h).Pairwise (·≤·):=(List.pairwise_lt_range).imp fun h=>Ui h
theorem An{ss:List Str}{l:List Nat}{h:Nat}(hl:l.Perm (List.range h))(p:ss.Perm (N1 (U1 l)))(s:sortedS ss=true):ss=(List.range h).map Ec:=by
 rw[Zf9] at p;obtain⟨ks,rfl,pk⟩:=Si p;rw[Ro (pk.trans hl) (Zer s) (Aj h)]
theorem Zf1:∀ h≤8,N1 (Txt.slice sFig none (some ((h:Nat):Int)))=(List.range h).map Ec:=by decide +kernel
theorem Zkd:∀ i < 8,Txt.find sFig (Ec i)=((i:Nat):Int):=by decide +kernel
theorem Ml:∀(ys:List Str),Vp (vS ys) (vS ys)=true
 | []=>rfl
 | y :: ys=>by
  show((y == y) && Vp (vS ys) (vS ys))=true;rw[Ml ys,Qk];rfl
theorem Tu{α:Type}:∀(l:List α) (i:Nat) (x:α),l[i]? = some x→l.Perm (x :: l.eraseIdx i)
 | [],i,x,h=>by simp at h
 | y :: l,0,x,h=>by
  have e:y=x:=Zy h;subst e;exact List.Perm.refl _
 | y :: l,i+1,x,h=>by
  have r:=Tu l i x h;exact(r.cons y).trans (List.Perm.swap ..)
structure Fx where
 s:Nat
 h:Nat
 n:Nat
 d:_root_.Fin 4
 pl:List Nat
 tr:List Nat
structure Fx.Ok(f:Fx):Prop where
 s1:1≤f.s
 s4:f.s≤4
 h1:1≤f.h
 h8:f.h≤8
 n34:f.n=3∨f.n=4
 pp:f.pl.Perm (List.range f.h)
 pt:f.tr.Perm (List.range f.h)
def Ee(f:Fx):Str:=⟨#[48+f.s,120,48+f.h]⟩
def Q6(f:Fx):Str:=⟨#[48+f.n]⟩
def Ob(f:Fx):List Str:=["pack",Ee f,"seats",Q6 f,"duty",wd f.d,"plain",U1 f.pl,"trump",U1 f.tr]
def Gv(f:Fx):Str:=Txt.join blank (Ob f)
theorem Zdg{l:List Nat}{h:Nat}(p:l.Perm (List.range h)):∀ i∈l,i < h:=fun i hi=>Yg.mp (p.subset hi)
theorem Ur{l:List Nat}{h:Nat}(p:l.Perm (List.range h)):l.length=h:=by rw[p.length_eq,Yb]
theorem S6(l:List Nat):32∉(U1 l).cps.toList:=by
 rw[show(U1 l).cps.toList=l.map (49 + ·) from rfl];intro z;obtain⟨i,_,e⟩:=Zz.mp z;omega
theorem Zks:∀ i:_root_.Fin 4,32∉(wd i).cps.toList:=by decide +kernel
theorem Zeq(f:Fx):Txt.split (Gv f) blank=Ob f:=by
 refine Zas (Ob f) (by unfold Ob;exact List.cons_ne_nil _ _) ?_;refine all_cons (by decide +kernel) (all_cons ?_ (all_cons (by decide +kernel) (all_cons ?_ (all_cons (by decide +kernel) (all_cons (Zks _) (all_cons (by decide +kernel) (all_cons (S6 _) (all_cons (by decide +kernel) (all_cons (S6 _) Zm3)))))))))
 ·show 32∉[48+f.s,120,48+f.h]
  simp;omega
 ·show 32∉[48+f.n]
  simp;omega
theorem Zkx{f:Fx}(ok:f.Ok):(Gv f).length≤99:=by
 have j:=Zj3 blank (Ob f);have e:((Ob f).map (·.length)).sum≤4+(3+(5+(1+(4+(6+(5+(8+(5+(8+0))))))))):=by
  have a:=(Zgo f.d).2;have b:(U1 f.pl).length≤8:=by rw[Ea,Ur ok.pp];exact ok.h8
  have c:(U1 f.tr).length≤8:=by rw[Ea,Ur ok.pt];exact ok.h8
  show 4+(3+(5+(1+(4+((wd f.d).length+(5+((U1 f.pl).length+(5+((U1 f.tr).length+0)))))))))≤_;omega
 have e2:(Ob f).length=10:=rfl;rw[e2,Zgh] at j;have:(Gv f).length=(Txt.join blank (Ob f)).length:=rfl;omega
theorem B3:∀ i≤8,(toString ((i:Nat):Int):Str)=⟨#[48+i]⟩:=by decide +kernel
theorem At:∀ ws:List Str,(Txt.join "" ws).cps.toList=(ws.map fun w=>w.cps.toList).flatten:=by
 intro ws;unfold Txt.join;rw[StrLaws.glued_eq_join]
 induction ws with
 | nil=>rfl
 | cons x r ih=>
  cases r with
  | nil=>
   show x.cps.toList=x.cps.toList++[];rw[J9]
  | cons y r=>
   show(x ++ "" ++ Str.join "" (y :: r)).cps.toList=x.cps.toList++((y :: r).map fun w=>w.cps.toList).flatten;rw[← ih];show((x.cps++("":Str).cps)++(Str.join "" (y :: r)).cps).toList=_;rw[Array.toList_append,Array.toList_append];have e:("":Str).cps.toList=[]:=by decide +kernel
   rw[e,J9]
theorem Su(l:List Nat):Txt.join "" (l.map Ec)=U1 l:=by
 refine Oe ?_;rw[At,Z7];show((l.map fun i=>[49+i]).flatten)=l.map (49 + ·)
 induction l with
 | nil=>rfl
 | cons i l ih=>rw[List.map_cons,List.flatten_cons,ih];rfl
def sgV(x:V):V:=match x with | .int i=>.str ⟨#[48+(i+1).toNat]⟩ | _=>.non
theorem Ov(i:Nat):sgV (.int (i:Nat)) = .str ⟨#[48+(i+1)]⟩:=by
 show V.str ⟨#[48+(((i:Nat):Int)+1).toNat]⟩=_;have e:(((i:Nat):Int)+1).toNat=i+1:=by omega
 rw[e]
theorem Kq(l:List Nat):((vN l).filter fun _=>true).map sgV=vS (l.map Ec):=by
 rw[List.filter_eq_self.mpr (fun _ _=>rfl)];unfold vN vS;rw[Z7,Z7];refine J2 fun i _=>?_;show sgV (.int (i:Nat)) = .str (Ec i);rw[Ov];unfold Ec;rw[show 48+(i+1)=49+i by omega]
theorem Zc6{l:List Nat}{h:Nat}(p:l.Perm (List.range h))(h8:h≤8):((l.map Ec).map (·.length)).sum+(l.map Ec).length * ("":Str).length≤16777216:=by
 have e:∀ l:List Nat,((l.map Ec).map (·.length)).sum=l.length:=fun l=>by
  induction l with
  | nil=>rfl
  | cons i l ih=>
   show 1+((l.map Ec).map (·.length)).sum=_;rw[ih,Jo];omega
 have z:("":Str).length=0:=by decide +kernel
 rw[e,z,Ur p];omega
theorem Zkw(f:Fx):(("pack ":Str)++⟨#[48+f.s]⟩ ++ "x" ++ ⟨#[48+f.h]⟩ ++ " seats " ++ ⟨#[48+f.n]⟩ ++ " duty " ++ wd f.d ++ " plain " ++ U1 f.pl ++ " trump " ++ U1 f.tr)=Gv f:=by
 refine Oe ?_;unfold Gv;rw[Nu];have ap:∀ a b:Str,(a++b).cps.toList=a.cps.toList++b.cps.toList:=fun a b=>by
  show(a.cps++b.cps).toList=_;rw[Array.toList_append]
 rw[ap,ap,ap,ap,ap,ap,ap,ap,ap,ap,ap];show _=("pack":Str).cps.toList++32 :: ([48+f.s,120,48+f.h]++32 :: (("seats":Str).cps.toList++32 :: ([48+f.n]++32 :: (("duty":Str).cps.toList++32 :: ((wd f.d).cps.toList++32 :: (("plain":Str).cps.toList++32 :: ((U1 f.pl).cps.toList++32 :: (("trump":Str).cps.toList++32 :: (U1 f.tr).cps.toList))))))));have e1:("pack ":Str).cps.toList=("pack":Str).cps.toList++[32]:=by decide +kernel
 have e2:("x":Str).cps.toList=[120]:=by decide +kernel
 have e3:(" seats ":Str).cps.toList=32 :: (("seats":Str).cps.toList++[32]):=by decide +kernel
 have e4:(" duty ":Str).cps.toList=32 :: (("duty":Str).cps.toList++[32]):=by decide +kernel
 have e5:(" plain ":Str).cps.toList=32 :: (("plain":Str).cps.toList++[32]):=by decide +kernel
 have e6:(" trump ":Str).cps.toList=32 :: (("trump":Str).cps.toList++[32]):=by decide +kernel
 rw[e1,e2,e3,e4,e5,e6];simp [Y3]
end My
namespace My
open PySem L2
def top(i:Nat):Stmt:=PySem.Challenge.pw_trickproof_k42_a_paper_told.main.body.getD i (.Pass ⟨0,0,0,0⟩)
abbrev V6:Stmt:=Yn (top 54) 0
abbrev Nk:Stmt:=Yn (top 55) 0
abbrev Tl:Stmt:=Yn (top 56) 0
abbrev V8:Stmt:=Yn (top 57) 0
abbrev Af:Stmt:=top 58
abbrev Zbe:Stmt:=top 61
abbrev V5:Stmt:=top 62
abbrev Bo:Stmt:=top 63
abbrev E4:Stmt:=top 64
section
variable{P:Program}{w:World}{K:W.Frag}{mg:Str→Option Value}{base:Heap}{f g:Addr}{fd gd:FuncData}
theorem Za7:FnScope ["self"] ["self"] (Zm V6):=Uw (by decide +kernel)
theorem Oy:FnScope ["self"] ["self"] (Zm Nk):=Uw (by decide +kernel)
theorem Zex:FnScope ["self"] ["self"] (Zm Tl):=Uw (by decide +kernel)
theorem Za8:FnScope ["self"] ["self"] (Zm V8):=Uw (by decide +kernel)
theorem Sf{k:Nat}(F:Fun K "word" "Free.word" V6 f fd):FnOk P w K mg base Yq (k+1) f fd ["self"] (Gy 0):=Gq F Za7 rfl fun _ _ _ _ h=>h
theorem Mz{k:Nat}(F:Fun K "word" "Follow.word" Nk f fd):FnOk P w K mg base Yq (k+1) f fd ["self"] (Gy 1):=Gq F Oy rfl fun _ _ _ _ h=>h
theorem Zbz{k:Nat}(F:Fun K "word" "Cut.word" Tl f fd):FnOk P w K mg base Yq (k+1) f fd ["self"] (Gy 2):=Gq F Zex rfl fun _ _ _ _ h=>h
theorem Sh{k:Nat}(F:Fun K "word" "Beat.word" V8 f fd):FnOk P w K mg base Yq (k+1) f fd ["self"] (Gy 3):=Gq F Za8 rfl fun _ _ _ _ h=>h
theorem scDutyOf:FnScope ["word","duty"] ["word"] (Zm Af):=Uw (by decide +kernel)
theorem Dh{k:Nat}{CN:Addr}{cs fw:Fin 4→Addr}{fdw:Fin 4→FuncData}(F:Fun K "duty_of" "duty_of" Af f fd)(D:DutyC K mg cs CN)(W:Zkp P w K mg base k cs fw fdw):FnOk P w K mg base (Ga P w) (k+1) f fd ["word"] (Za2 cs CN):=by
 refine F.okX scDutyOf (fun vs H Q E h=>?_) (fun cdv A outer s H vs Q E hr h T=>?_)
 ·obtain⟨x,rfl,_⟩:=h
  rfl
 obtain⟨t,rfl,q,qn⟩:=h;refine⟨_,Zi (Ux T.own rfl (V9 (Uy (Za (Vh (D.mak 0) rfl D.mF) (Za (Vh (D.mak 1) rfl D.mL) (Za (Vh (D.mak 2) rfl D.mC) (Za (Vh (D.mak 3) rfl D.mB) Zf)))))) (Jp (i:=1) scDutyOf.nd rfl (Or.inl rfl))
   (Zn (Yd (Jm X7 (Db (pv 1) W hr Jb) (pv 0) (Jl _)) (Zn (Z9 (pv 1))) Jn)))
  (Zn (Q7 T hr.hd rfl D.mN D.hN (Za Ud Zf))),?_⟩
 intro x0 d0 hx0 hd0 n0 x1 d1 hx1 hd1 n1 x2 d2 hx2 hd2 n2 x3 d3 hx3 hd3 n3;refine⟨Yf 4 (by decide),fun p hp=>?_⟩;have s0:=Uq (o:=.ins (cs 0) d0 []) hx0 hd0 n0;have s1:=Uq (o:=.ins (cs 1) d1 []) hx1 hd1 n1;have s2:=Uq (o:=.ins (cs 2) d2 []) hx2 hd2 n2;have s3:=Uq (o:=.ins (cs 3) d3 []) hx3 hd3 n3;have sp:=Je hp (.tup [.ref x0,.ref x1,.ref x2,.ref x3]);have sA:=s0.trans (s1.trans (s2.trans (s3.trans sp)));have g0:=sp _ _ (s3 _ _ (s2 _ _ (s1 _ _ (Zq (a:=x0) (o:=.ins (cs 0) d0 [])))));have g1:=sp _ _ (s3 _ _ (s2 _ _ (Zq (a:=x1) (o:=.ins (cs 1) d1 []))));have g2:=sp _ _ (s3 _ _ (Zq (a:=x2) (o:=.ins (cs 2) d2 [])));have g3:=sp _ _ (Zq (a:=x3) (o:=.ins (cs 3) d3 []));have gp:=Zq (H:=upd (upd (upd (upd (upd (upd (upd (upd H d0 (.own x0)) x0 (.ins (cs 0) d0 [])) d1 (.own x1)) x1 (.ins (cs 1) d1 [])) d2 (.own x2)) x2 (.ins (cs 2) d2 [])) d3 (.own x3)) x3 (.ins (cs 3) d3 [])) (a:=p) (o:=.tup [.ref x0,.ref x1,.ref x2,.ref x3])
 revert g0 g1 g2 g3 gp sA
 generalize upd _ p (.tup [.ref x0,.ref x1,.ref x2,.ref x3])=H4;intro sA g0 g1 g2 g3 gp;have hx1':=s0.free hx1;have hx2':=s0.free (s1.free hx2);have hx3':=s0.free (s1.free (s2.free hx3));have G:∀(i:Nat) (x:V),([V.ref x0,V.ref x1,V.ref x2,V.ref x3]:List V)[i]? = some x→∃(j:Fin 4) (y dy:Addr),j.val=i∧x = .ref y∧H y=none∧H4 y=some (.ins (cs j) dy []):=fun i x hx=>by
  match i,hx with
  | 0,hx=>exact⟨0,x0,d0,rfl,(Zy hx).symm,hx0,g0⟩
  | 1,hx=>exact⟨1,x1,d1,rfl,(Zy hx).symm,hx1',g1⟩
  | 2,hx=>exact⟨2,x2,d2,rfl,(Zy hx).symm,hx2',g2⟩
  | 3,hx=>exact⟨3,x3,d3,rfl,(Zy hx).symm,hx3',g3⟩
 refine⟨p,rfl,⟨_,SqT.of gp⟩,Zmx (xs:=[.ref x0,.ref x1,.ref x2,.ref x3]) (fun i σ H'=>H'=H4∧(∃ x,σ=[some (.str t),x])∧∀ j:Fin 4,j.val < i→t≠wd j) ⟨rfl,⟨_,rfl⟩,fun j hj=>absurd hj (Nat.not_lt_zero _)⟩ (fun i σ H' _ z=>by obtain⟨rfl,_⟩:=z;exact SqT.of gp) (fun i x σ H' hx z=>?_) (fun σ H' z=>?_)⟩
 ·obtain⟨rfl,⟨x',rfl⟩,hno⟩:=z
  obtain⟨j,y,dy,hj,rfl,hy,gy⟩:=G i x hx;refine⟨_,rfl,j,y,dy,[],rfl,gy,rfl,y,rfl,_,rfl,rfl,_,rfl,M3 (fun c=>?_) (fun c=>?_)⟩
  ·have c':=J0 c
   injection c' with c'
   exact⟨_,rfl,q j c'.symm y dy H' sA hy gy⟩
  ·refine⟨rfl,⟨_,rfl⟩,fun j' hj' e=>?_⟩
   by_cases lt:j'.val < i
   ·exact hno j' lt e
   ·have ej:j'=j:=Fin.ext (by omega)
    subst ej;exact c (Zc (by rw[e]))
 ·obtain⟨rfl,⟨x',rfl⟩,hno⟩:=z
  refine⟨Yf 1 (by decide),qn (fun z=>?_) _ sA⟩;obtain⟨j,hj⟩:=Zgn z;exact hno j j.isLt hj
def Zcx:Sp:=fun vs H Q _=>∃ f:Fx,vs=[.str (Gv f)]∧f.Ok∧∀ l H',Same H H'→H l=none→H' l=some (.lst (vS [Ee f,Q6 f,wd f.d,U1 f.pl,U1 f.tr]))→Q (.ref l) H'
theorem scMarks:FnScope ["text","words"] ["text"] (Zm Zbe):=Uw (by decide +kernel)
def Vl:List Str:=["pack","seats","duty","plain","trump"]
theorem Zi8{k:Nat}{CN aM:Addr}(F:Fun K "words_behind_marks" "words_behind_marks" Zbe f fd)(mM:mg "MARKS" = some (.ref aM))(hM:∀ H,SqT K H aM (vS Vl))(mC:mg "NoTable" = some (.ref CN))(hC:W.excIn K CN Uv "ValueError.__new__" = true)
  (mi:mg "isinstance" = none) (ms:mg "str" = none) (ml:mg "len" = none) (mt:mg "tuple" = none):FnOk P w K mg base (Ga P w) (k+1) f fd ["text"] Zcx:=by
 refine F.okX scMarks (fun vs H Q E h=>?_) (fun cdv A outer s H vs Q E hr h T=>?_)
 ·obtain⟨x,rfl,_⟩:=h
  rfl
 obtain⟨fx,rfl,ok,q⟩:=h;refine⟨_,Zi (Yd (Uc (Jy (Jk Uz rfl mi Z5 (Za (pv 0) (Za (Xa (v:=.ty "str") rfl ms PyProof.Rows.boot_str rfl) Zf))) (fun _=>rfl))) (Zn (Q7 T hr.hd rfl mC hC (Za Ud Zf))) Jn)
  (Zi (Jf (i:=1) scMarks.nd rfl (Or.inl rfl) (En PySem.F.plainAttrs_str PySem.F.slot_str_split PySem.F.type_str_split Zjs (pv 0) (Za Ud Zf)))
  (Zi (Yd (PW.pt (U2 (Jm No (Jk Ya rfl ml Ju (Za (pv 1) Zf)) (Jj Xr Zo (Jk Ya rfl ml Ju (Za (Yy (v:=.ref aM) rfl mM rfl) Zf))) (Jl _))
    (U7 (Jm (Zlq hr.units) (Yz Xt rfl mt Jv (Za (Zdh (pv 1) (E5 Zo) (E5 Zo)) Zf)) (Yy (v:=.ref aM) rfl mM rfl) (Jl _))))) (Zn (Q7 T hr.hd rfl mC hC (Za Ud Zf))) Jn)
  (Zn (Z9 (Zdh (pv 1) (E5 Zo) (E5 Zo)))))),?_⟩
 have tl:=Zkx ok;refine⟨_,rfl,_,_,_,true,rfl,.str _,rfl,true,rfl,J3 ?_⟩;refine⟨_,rfl,rfl,Gv fx,blank,rfl,rfl,(by decide +kernel),by omega,fun l hl=>?_⟩;rw[Zeq];have s1:=Je hl (.lst (vS (Ob fx)));refine⟨_,rfl,l,_,rfl,.inl (SqL.of Zq),aM,_,rfl,.inr (hM _),_,_,rfl,rfl,.inl ⟨by decide,by decide⟩,rfl,_,rfl,J3 ?_⟩;refine⟨_,rfl,_,rfl,_,rfl,rfl,l,.str "pack",.str (Ee fx),.str "seats",.str (Q6 fx),.str "duty",.str (wd fx.d),.str "plain",.str (U1 fx.pl),.str "trump",.str (U1 fx.tr),rfl,SqL.of Zq,.inl ⟨rfl,fun p hp=>?_⟩⟩;have s2:=Je hp (.lst (vS Vl));refine⟨p,vS Vl,rfl,.inl ⟨SqL.of Zq,fun p2 hp2=>?_⟩⟩;have s3:=Je hp2 (.tup (vS Vl));refine⟨p2,aM,vS Vl,vS Vl,rfl,rfl,⟨SqT.of Zq,hM _⟩,B1 _,B1 _,_,rfl,?_⟩;show if(!Vp (vS Vl) (vS Vl))=true then _ else _
 rw[Ml];refine J3 ?_;have sA:=s1.trans (s2.trans s3);refine⟨_,rfl,_,rfl,_,rfl,rfl,l,.str "pack",.str (Ee fx),.str "seats",.str (Q6 fx),.str "duty",.str (wd fx.d),.str "plain",.str (U1 fx.pl),.str "trump",.str (U1 fx.tr),rfl,SqL.of (s3 _ _ (s2 _ _ Zq)),.inr ⟨rfl,fun p3 hp3=>?_⟩⟩;exact q p3 _ (sA.trans (Je hp3 _)) (sA.free hp3) Zq
def Zg8:Sp:=fun vs H Q _=>∃ f:Fx,vs=[.str (Ee f)]∧f.Ok∧∀ p H',Same H H'→H p=none→H' p=some (.tup [.int (f.s:Nat),.int (f.h:Nat)])→Q (.ref p) H'
theorem scSize:FnScope ["word","suits","heights"] ["word"] (Zm V5):=Uw (by decide +kernel)
theorem Zly{k:Nat}{CN:Addr}{t1 t2:Tok}(F:Fun K "read_size" "read_size" V5 f fd)(mF:mg "FIGURES" = some (.str sFig t1))(mL:mg "LETTERS" = some (.str sLet t2))(mC:mg "NoTable" = some (.ref CN))(hC:W.excIn K CN Uv "ValueError.__new__" = true)(ml:mg "len" = none) :
  FnOk P w K mg base (Ga P w) (k+1) f fd ["word"] Zg8:=by
 refine F.okX scSize (fun vs H Q E h=>?_) (fun cdv A outer s H vs Q E hr h T=>?_)
 ·obtain⟨x,rfl,_⟩:=h
  rfl
 obtain⟨fx,rfl,ok,q⟩:=h;refine⟨_,Zi (Yd (PW.pt (U2 (Jm No (Jk Vs rfl ml Ju (Za (pv 0) Zf)) Zo (Jl _)) (U7 (Jm No (Jr Zca (pv 0) Zo (fun _ _=>rfl)) Ud (Jl _))))) (Zn (Q7 T hr.hd rfl mC hC (Za Ud Zf))) Jn)
  (Zi (Jf (i:=1) scSize.nd rfl (Or.inl rfl) (Jj Y8 (En PySem.F.plainAttrs_str PySem.F.slot_str_find PySem.F.type_str_find As (Yy (v:=.str sFig) rfl mF ⟨_,rfl⟩) (Za (Jr Zca (pv 0) Zo (fun _ _=>rfl)) Zf)) Zo))
  (Zi (Jf (i:=2) scSize.nd rfl (Or.inl rfl) (Jj Y8 (En PySem.F.plainAttrs_str PySem.F.slot_str_find PySem.F.type_str_find As (Yy (v:=.str sFig) rfl mF ⟨_,rfl⟩) (Za (Jr Zca (pv 0) Zo (fun _ _=>rfl)) Zf)) Zo))
  (Zi (Yd (PW.pt (U2 (Jm X7 (pv 1) Zo (Jl _)) (U2 (Jm Q8 (pv 1) (Jk Vs rfl ml Ju (Za (Yy (v:=.str sLet) rfl mL ⟨_,rfl⟩) Zf)) (Jl _)) (U7 (Jm X7 (pv 2) Zo (Jl _)))))) (Zn (Q7 T hr.hd rfl mC hC (Za Ud Zf))) Jn)
  (Zn (Z9 (Uy (Za (pv 1) (Za (pv 2) Zf)))))))),?_⟩
 have hz:(Ee fx).length≤sizeLine:=Yf 3 (by decide);have at0:Xs (Ee fx).cps.toList 0=some (48+fx.s):=Qy (j:=0) rfl;have at1:Xs (Ee fx).cps.toList 1=some 120:=Qy (j:=1) rfl;have at2:Xs (Ee fx).cps.toList 2=some (48+fx.h):=Qy (j:=2) rfl;have s1:=ok.s1;have s4:=ok.s4;have h1:=ok.h1;have h8:=ok.h8;refine⟨_,rfl,_,rfl,hz,rfl,_,rfl,J3 ⟨_,rfl,_,_,_,rfl,rfl,hz,at1,rfl,_,rfl,?_⟩⟩;rw[Zc (show V.str ⟨#[120]⟩=V.str "x" by decide +kernel)];refine J3 ?_;refine⟨rfl,_,rfl,_,_,_,rfl,rfl,hz,at0,_,_,rfl,rfl,_,_,rfl,rfl,?_⟩;refine⟨rfl,_,rfl,_,_,_,rfl,rfl,hz,at2,_,_,rfl,rfl,_,_,rfl,rfl,?_⟩;rw[S5,S5,Zv (by omega),Zv (by omega)];have e1:((48+fx.s - 49:Nat):Int)+1=((fx.s:Nat):Int):=by omega
 have e2:((48+fx.h - 49:Nat):Int)+1=((fx.h:Nat):Int):=by omega
 dsimp only;rw[e1,e2];refine⟨_,rfl,rfl,_,rfl,?_⟩;rw[Zd (fun y=>by injection y with y;omega)];refine J3 ⟨_,rfl,_,rfl,Yf 4 (by decide),_,_,rfl,rfl,_,rfl,?_⟩;have l4:((sLet.length:Nat):Int)=4:=by decide +kernel
 rw[l4,Zd (show ¬ (4:Int) < ((fx.s:Nat):Int) by omega)];refine J3 ⟨_,rfl,rfl,_,rfl,?_⟩;rw[Zd (fun y=>by injection y with y;omega)];refine J3 ⟨_,rfl,_,rfl,Yf 2 (by decide),fun p hp=>q p _ (Je hp _) hp Zq⟩
def Zcw:Sp:=fun vs H Q _=>∃ f:Fx,vs=[.str (Q6 f)]∧f.Ok∧∀ H',Same H H'→Q (.int (f.n:Nat)) H'
theorem Zk6:FnScope ["word"] ["word"] (Zm Bo):=Uw (by decide +kernel)
theorem Ziz{k:Nat}{CN:Addr}(F:Fun K "read_seats" "read_seats" Bo f fd)(mC:mg "NoTable" = some (.ref CN))(hC:W.excIn K CN Uv "ValueError.__new__" = true)(mI:mg "int" = none):FnOk P w K mg base (Ga P w) (k+1) f fd ["word"] Zcw:=by
 refine F.okX Zk6 (fun vs H Q E h=>?_) (fun cdv A outer s H vs Q E hr h T=>?_)
 ·obtain⟨x,rfl,_⟩:=h
  rfl
 obtain⟨fx,rfl,ok,q⟩:=h;refine⟨_,Zi (Yd (Jm E8 (pv 0) (Uy (Za Ud (Za Ud Zf))) rfl) (Zn (Q7 T hr.hd rfl mC hC (Za Ud Zf))) Jn)
  (Zn (Z9 (Yz Ka rfl mI Qb (Za (pv 0) Zf)))),?_⟩
 refine⟨_,rfl,Yf 2 (by decide),fun p hp=>?_⟩;have s1:=Je hp (.tup (vS ["3","4"]));refine⟨p,vS ["3","4"],rfl,.inr (SqT.of Zq),rfl,rfl,_,rfl,?_⟩;show if(!Sw (.str (Q6 fx)) (vS ["3","4"]))=true then _ else _
 rcases ok.n34 with e | e
 ·have es:Q6 fx = "3":=by unfold Q6;rw[e];decide +kernel
  rw[es,show Sw (.str "3") (vS ["3","4"])=true by decide +kernel];refine J3 ⟨_,rfl,_,3,rfl,by decide +kernel,by decide +kernel,?_⟩;have:=q _ s1;rw[e] at this;exact this
 ·have es:Q6 fx = "4":=by unfold Q6;rw[e];decide +kernel
  rw[es,show Sw (.str "4") (vS ["3","4"])=true by decide +kernel];refine J3 ⟨_,rfl,_,4,rfl,by decide +kernel,by decide +kernel,?_⟩;have:=q _ s1;rw[e] at this;exact this
def Zng:Sp:=fun vs H Q _=>∃(l:List Nat) (h:Nat),vs=[.str (U1 l),.int (h:Nat)]∧h≤8∧l.Perm (List.range h)∧∀ p H',Same H H'→H p=none→H' p=some (.tup (vN l))→Q (.ref p) H'
theorem Zqv:FnScope ["word","heights"] ["word","heights"] (Zm E4):=Uw (by decide +kernel)
theorem Zo2{k:Nat}{CN:Addr}{t1:Tok}(F:Fun K "read_order" "read_order" E4 f fd)(mF:mg "FIGURES" = some (.str sFig t1))(mC:mg "NoTable" = some (.ref CN))(hC:W.excIn K CN Uv "ValueError.__new__" = true)(mS:mg "sorted" = none)(mLi:mg "list" = none)(mt:mg "tuple" = none) :
  FnOk P w K mg base (Ga P w) (k+1) f fd ["word","heights"] Zng:=by
 refine F.okX Zqv (fun vs H Q E h=>?_) (fun cdv A outer s H vs Q E hr h T=>?_)
 ·obtain⟨l,h,rfl,_⟩:=h
  rfl
 obtain⟨l,h,rfl,h8,pm,q⟩:=h;refine⟨_,Zi (Yd (Jm (Zlr hr.units) (Jk (R8 rfl) rfl mS PyProof.Rows.boot_sorted (Za (pv 0) Zf)) (Yz (Ms rfl) rfl mLi Ys (Za (K0 Zn2 (Yy (v:=.str sFig) rfl mF ⟨_,rfl⟩) Zll (E5 (pv 1))) Zf)) (Jl _)) (Zn (Q7 T hr.hd rfl mC hC (Za Ud Zf))) Jn)
  (Zn (Z9 (Yz Xt rfl mt Jv (Za (Ug ["figure"] [none] rfl (Blk.by (sc:=Zm E4) (N0:=["word","heights"]) rfl rfl (by decide +kernel)) (Zop (pv 0)) (fun C s₀ H₀ ex=>Jp (i:=0) (show(["figure"]:List Str).Nodup by decide +kernel) rfl (Or.inl rfl))
   (fun C s₀ H₀ ex=>U4) (fun C s₀ H₀ ex=>Zih (K:=K) rfl (Yy (v:=.str sFig) rfl mF ⟨_,rfl⟩) (Za (pv 0) Zf))) Zf)))),?_⟩
 have ll:l.length=h:=Ur pm;refine⟨_,rfl,U1 l,rfl,(by rw[Ea];omega),fun l1 ss hl1 hp hs=>?_⟩;have es:=An pm hp hs;subst es;have s1:=Je hl1 (.lst (vS ((List.range h).map Ec)));refine⟨_,rfl,_,rfl,sFig,rfl,(by decide +kernel),_,rfl,Jd (Txt.slice_le _ _ _) (by decide +kernel),fun l2 hl2=>?_⟩;rw[Zf1 h h8];have s2:=Je hl2 (.lst (vS ((List.range h).map Ec)));refine⟨l1,l2,_,_,rfl,rfl,⟨SqL.of (s2 _ _ Zq),SqL.of Zq⟩,B1 _,B1 _,_,rfl,?_⟩;show if(!Vp (vS ((List.range h).map Ec)) (vS ((List.range h).map Ec)))=true then _ else _
 rw[Ml];refine J3 ⟨_,rfl,U1 l,rfl,?_⟩;have sA:=s1.trans s2;refine Vr l.length (fun i=>.str (Ec (l.getD i 0))) (fun _=>true) (fun i=>.int ((l.getD i 0:Nat):Int)) (Yf _ (by omega)) (fun i H3 s3 hi=>?_) (fun H3 s3=>?_) (fun i H3 x H4 s3 hi y=>?_) (fun i H3 hi sm R hR=>hR H3 (Same.refl H3)) (fun i H3 hi hp sm R hR=>?_) (fun l3 H3 s3 hl3 hL3=>?_)
 ·show i < (U1 l).cps.size
  have:=Ea l;unfold Str.length at this;omega
 ·show(U1 l).cps.size≤l.length
  have:=Ea l;unfold Str.length at this;omega
 ·obtain⟨rfl,c,hc,rfl⟩:=y
  refine⟨rfl,?_⟩;have e:(U1 l).cps.toList[i]? = some c:=by rw[← hc];simp
  rw[show(U1 l).cps.toList=l.map (49 + ·) from rfl,Z4,Zg hi] at e;have e2:49+l[i]=c:=Zy e;rw[Zr,Zg hi,← e2];rfl
 ·have lt:l.getD i 0 < 8:=by
   rw[Zr,Zg hi];have:=Zdg pm l[i] (Y6 hi);show l[i] < 8;omega
  refine⟨rfl,_,rfl,_,_,rfl,rfl,?_⟩;show R (.int (Txt.find sFig (Ec (l.getD i 0)))) H3;rw[Zkd _ lt];exact hR H3 (Same.refl H3)
 ·have e:((List.range l.length).filter fun _=>true).map (fun i=>V.int ((l.getD i 0:Nat):Int))=vN l:=by
   have z:=Qi l (fun _=>true) (fun c=>V.int ((c:Nat):Int)) 0;rw[z,List.filter_eq_self.mpr (fun _ _=>rfl)];rfl
  rw[e] at hL3;refine⟨l3,_,rfl,.inl ⟨SqL.of hL3,fun p hp=>?_⟩⟩;have sB:=sA.trans s3;exact q p _ (sB.trans (Je hp _)) (sB.free hp) Zq
end
def Keep(x:Addr)(H H':Hp):Prop:=∀ b o,b≠x→H b=some o→H' b=some o
theorem Keep.trans{x:Addr}{H H1 H2:Hp}(a:Keep x H H1)(b:Keep x H1 H2):Keep x H H2:=fun c o n h=>b c o n (a c o n h)
theorem Keep.of{x:Addr}{H H':Hp}(s:Same H H'):Keep x H H':=fun b o _ h=>s b o h
theorem Keep.upd{x:Addr}{H:Hp}{o:HO}:Keep x H (upd H x o):=fun b u n h=>by rw[Z8 n];exact h
def tF1(f:Fx)(po to:Addr):List (Str×V):=X3 "suits" (.int (f.s:Nat)) []
def tF2(f:Fx)(po to:Addr):List (Str×V):=X3 "heights" (.int (f.h:Nat)) (tF1 f po to)
def tF3(f:Fx)(po to:Addr):List (Str×V):=X3 "seats" (.int (f.n:Nat)) (tF2 f po to)
def Ke(f:Fx)(po to:Addr):List (Str×V):=X3 "duty_word" (.str (wd f.d)) (tF3 f po to)
def Oc(f:Fx)(po to:Addr):List (Str×V):=X3 "plain_order" (.ref po) (Ke f po to)
def tF6(f:Fx)(po to:Addr):List (Str×V):=X3 "trump_order" (.ref to) (Oc f po to)
def Kl(f:Fx)(po to:Addr):List (Str×V):=X3 "written" (.str (Gv f)) (tF6 f po to)
abbrev Zqf:=Kl
theorem Zcu(f:Fx)(po to:Addr):(tF1 f po to).length≤1:=Y9 _ _ _
theorem Zct(f:Fx)(po to:Addr):(tF2 f po to).length≤2:=Jd (Y9 _ _ _) (Nat.succ_le_succ (Zcu f po to))
theorem Zcs(f:Fx)(po to:Addr):(tF3 f po to).length≤3:=Jd (Y9 _ _ _) (Nat.succ_le_succ (Zct f po to))
theorem Zcr(f:Fx)(po to:Addr):(Ke f po to).length≤4:=Jd (Y9 _ _ _) (Nat.succ_le_succ (Zcs f po to))
theorem Zcq(f:Fx)(po to:Addr):(Oc f po to).length≤5:=Jd (Y9 _ _ _) (Nat.succ_le_succ (Zcr f po to))
theorem Zk0(f:Fx)(po to:Addr):(tF6 f po to).length≤6:=Jd (Y9 _ _ _) (Nat.succ_le_succ (Zcq f po to))
theorem Nt(f:Fx)(po to:Addr):(Kl f po to).lookup ("suits":Str)=some (V.int (f.s:Nat)):=by
 unfold Kl;rw[Zt];rw[Zj (by decide +kernel)];unfold tF6;rw[Zt];rw[Zj (by decide +kernel)];unfold Oc;rw[Zt];rw[Zj (by decide +kernel)];unfold Ke;rw[Zt];rw[Zj (by decide +kernel)];unfold tF3;rw[Zt];rw[Zj (by decide +kernel)];unfold tF2;rw[Zt];rw[Zj (by decide +kernel)];unfold tF1;rw[Zt];rw[Zv rfl]
theorem Ei(f:Fx)(po to:Addr):(Kl f po to).lookup ("heights":Str)=some (V.int (f.h:Nat)):=by
 unfold Kl;rw[Zt];rw[Zj (by decide +kernel)];unfold tF6;rw[Zt];rw[Zj (by decide +kernel)];unfold Oc;rw[Zt];rw[Zj (by decide +kernel)];unfold Ke;rw[Zt];rw[Zj (by decide +kernel)];unfold tF3;rw[Zt];rw[Zj (by decide +kernel)];unfold tF2;rw[Zt];rw[Zv rfl]
theorem Ut(f:Fx)(po to:Addr):(Kl f po to).lookup ("seats":Str)=some (V.int (f.n:Nat)):=by
 unfold Kl;rw[Zt];rw[Zj (by decide +kernel)];unfold tF6;rw[Zt];rw[Zj (by decide +kernel)];unfold Oc;rw[Zt];rw[Zj (by decide +kernel)];unfold Ke;rw[Zt];rw[Zj (by decide +kernel)];unfold tF3;rw[Zt];rw[Zv rfl]
theorem R5(f:Fx)(po to:Addr):(Kl f po to).lookup ("duty_word":Str)=some (V.str (wd f.d)):=by
 unfold Kl;rw[Zt];rw[Zj (by decide +kernel)];unfold tF6;rw[Zt];rw[Zj (by decide +kernel)];unfold Oc;rw[Zt];rw[Zj (by decide +kernel)];unfold Ke;rw[Zt];rw[Zv rfl]
theorem Vn(f:Fx)(po to:Addr):(Kl f po to).lookup ("plain_order":Str)=some (V.ref po):=by
 unfold Kl;rw[Zt];rw[Zj (by decide +kernel)];unfold tF6;rw[Zt];rw[Zj (by decide +kernel)];unfold Oc;rw[Zt];rw[Zv rfl]
theorem Vm(f:Fx)(po to:Addr):(Kl f po to).lookup ("trump_order":Str)=some (V.ref to):=by
 unfold Kl;rw[Zt];rw[Zj (by decide +kernel)];unfold tF6;rw[Zt];rw[Zv rfl]
theorem M1(f:Fx)(po to:Addr):(Ke f po to).lookup ("heights":Str)=some (V.int (f.h:Nat)):=by
 unfold Ke;rw[Zt];rw[Zj (by decide +kernel)];unfold tF3;rw[Zt];rw[Zj (by decide +kernel)];unfold tF2;rw[Zt];rw[Zv rfl]
theorem M0(f:Fx)(po to:Addr):(Oc f po to).lookup ("heights":Str)=some (V.int (f.h:Nat)):=by
 unfold Oc;rw[Zt];rw[Zj (by decide +kernel)];unfold Ke;rw[Zt];rw[Zj (by decide +kernel)];unfold tF3;rw[Zt];rw[Zj (by decide +kernel)];unfold tF2;rw[Zt];rw[Zv rfl]
theorem Mc(f:Fx)(po to:Addr):(Kl f po to).lookup ("duty":Str)=none:=by
 unfold Kl;rw[Zt];rw[Zj (by decide +kernel)];unfold tF6;rw[Zt];rw[Zj (by decide +kernel)];unfold Oc;rw[Zt];rw[Zj (by decide +kernel)];unfold Ke;rw[Zt];rw[Zj (by decide +kernel)];unfold tF3;rw[Zt];rw[Zj (by decide +kernel)];unfold tF2;rw[Zt];rw[Zj (by decide +kernel)];unfold tF1;rw[Zt];rw[Zj (by decide +kernel)];rfl
theorem Ss(f:Fx)(po to:Addr):(Kl f po to).lookup ("order":Str)=none:=by
 unfold Kl;rw[Zt];rw[Zj (by decide +kernel)];unfold tF6;rw[Zt];rw[Zj (by decide +kernel)];unfold Oc;rw[Zt];rw[Zj (by decide +kernel)];unfold Ke;rw[Zt];rw[Zj (by decide +kernel)];unfold tF3;rw[Zt];rw[Zj (by decide +kernel)];unfold tF2;rw[Zt];rw[Zj (by decide +kernel)];unfold tF1;rw[Zt];rw[Zj (by decide +kernel)];rfl
structure TabC(K:W.Frag)(mg:Str→Option Value)(CT:Addr):Prop where
 cl:Cls K CT
 mT:mg "Table" = some (.ref CT)
 nS:NoAttr K CT "suits"
 nH:NoAttr K CT "heights"
 nN:NoAttr K CT "seats"
 nD:NoAttr K CT "duty_word"
 nP:NoAttr K CT "plain_order"
 nT:NoAttr K CT "trump_order"
 nW:NoAttr K CT "written"
def IsTab(CT:Addr)(f:Fx)(H:Hp)(x:Addr):Prop:=∃ dx po to,H x=some (.ins CT dx (Zqf f po to))∧H po=some (.tup (vN f.pl))∧H to=some (.tup (vN f.tr))
theorem IsTab.same{CT x:Addr}{f:Fx}{H H':Hp}(h:IsTab CT f H x)(s:Same H H'):IsTab CT f H' x:=by
 obtain⟨dx,po,to,a,b,c⟩:=h;exact⟨dx,po,to,s _ _ a,s _ _ b,s _ _ c⟩
def M4(x:Addr)(tv:V):List (Str×V):=X3 "trump" tv (X3 "table" (.ref x) [])
theorem Yu(x:Addr)(tv:V):(M4 x tv).lookup ("table":Str)=some (V.ref x):=by
 unfold M4;rw[Zt,Zj (by decide +kernel),Zt,Zv rfl]
theorem Q0(x:Addr)(tv:V):(M4 x tv).lookup ("trump":Str)=some tv:=by
 unfold M4;rw[Zt,Zv rfl]
theorem Er(x:Addr)(tv:V)(m:Str)(h1:m≠"trump")(h2:m≠"table"):(M4 x tv).lookup m=none:=by
 unfold M4;rw[Zt,Zj h1,Zt,Zj h2];rfl
structure GamC(K:W.Frag)(mg:Str→Option Value)(CG:Addr):Prop where
 cl:Cls K CG
 mG:mg "Game" = some (.ref CG)
 nT:NoAttr K CG "table"
 nU:NoAttr K CG "trump"
def IsGam(CG x:Addr)(tv:V)(H:Hp)(g:Addr):Prop:=∃ dg,H g=some (.ins CG dg (M4 x tv))
theorem IsGam.same{CG x g:Addr}{tv:V}{H H':Hp}(h:IsGam CG x tv H g)(s:Same H H'):IsGam CG x tv H' g:=by
 obtain⟨dg,a⟩:=h;exact⟨dg,s _ _ a⟩
abbrev Td:Stmt:=Yn (top 66) 0
theorem Zd4{F:Hp→Prop}{H H':Hp}(e:H'=H)(h:F H):F H':=by rw[e];exact h
section
variable{P:Program}{w:World}{K:W.Frag}{mg:Str→Option Value}{base:Heap}{f g:Addr}{fd gd:FuncData}
def Znf(CT:Addr):Sp:=fun vs H Q _=>∃(x dx:Addr) (f:Fx),vs=[.ref x,.str (Gv f)]∧f.Ok∧H x=some (.ins CT dx [])∧∀ po to H',Keep x H H'→H' x=some (.ins CT dx (Zqf f po to))→H' po=some (.tup (vN f.pl))→H' to=some (.tup (vN f.tr))→Q .non H'
theorem scTab:FnScope ["self","text","words","size"] ["self","text"] (Zm Td):=Uw (by decide +kernel)
theorem Zo1{k:Nat}{CT CN f1 f2 f3 f4 f5:Addr}{d1 d2 d3 d4 d5:FuncData}{cs fw:Fin 4→Addr}{fdw:Fin 4→FuncData}(F:Fun K "__init__" "Table.__init__" Td f fd)(C:TabC K mg CT)(LM:LibX P w K mg base k "words_behind_marks" ["text"] Zcx f1 d1)(LZ:LibX P w K mg base k "read_size" ["word"] Zg8 f2 d2)
  (LS:LibX P w K mg base k "read_seats" ["word"] Zcw f3 d3) (LO:LibX P w K mg base k "read_order" ["word","heights"] Zng f4 d4) (LD:LibX P w K mg base k "duty_of" ["word"] (Za2 cs CN) f5 d5) (W:Zkp P w K mg base k cs fw fdw):FnOk P w K mg base Yq (k+1) f fd ["self","text"] (Znf CT):=by
 refine F.ok scTab (fun vs H Q E h=>?_) (fun cdv A outer s H vs Q E hr h=>?_)
 ·obtain⟨x,dx,fx,rfl,_⟩:=h
  rfl
 obtain⟨x,dx,fx,rfl,ok,hx,q⟩:=h;refine⟨_,Zi (Jf (i:=2) scTab.nd rfl (Or.inl rfl) (Z0 LM.ok hr rfl LM.mg LM.kp LM.bd .nil Tw (Za (pv 1) Zf)))
  (Zi (Jf (i:=3) scTab.nd rfl (Or.inl rfl) (Z0 LZ.ok hr rfl LZ.mg LZ.kp LZ.bd .nil Tw (Za (Jr Y7 (pv 2) Zo (fun _ _=>rfl)) Zf)))
  (Zi (Xq (pv 0) (Jr Js (pv 3) Zo (fun _ _=>rfl)) rfl)
  (Zi (Xq (pv 0) (Jr Js (pv 3) Zo (fun _ _=>rfl)) rfl)
  (Zi (Xq (pv 0) (Z0 LS.ok hr rfl LS.mg LS.kp LS.bd .nil Tw (Za (Jr Y7 (pv 2) Zo (fun _ _=>rfl)) Zf)) rfl)
  (Zi (Xq (pv 0) (Db (Z0 LD.ok hr rfl LD.mg LD.kp LD.bd .nil Tw (Za (Jr Y7 (pv 2) Zo (fun _ _=>rfl)) Zf)) W hr Jb) rfl)
  (Zi (Xq (pv 0) (Z0 LO.ok hr rfl LO.mg LO.kp LO.bd .nil Tw (Za (Jr Y7 (pv 2) Zo (fun _ _=>rfl)) (Za (Jt (pv 0) rfl) Zf))) rfl)
  (Zi (Xq (pv 0) (Z0 LO.ok hr rfl LO.mg LO.kp LO.bd .nil Tw (Za (Jr Y7 (pv 2) Zo (fun _ _=>rfl)) (Za (Jt (pv 0) rfl) Zf))) rfl)
  (Zn (Xq (pv 0) (pv 1) rfl))))))))),?_⟩
 refine⟨_,rfl,fx,rfl,ok,fun l H1 s1 hl hL=>?_⟩;have hx1:=s1 _ _ hx;have nlx:l≠x:=Znm hL hx1 (by intro z;cases z);refine⟨_,rfl,l,_,0,.str (Ee fx),rfl,rfl,SqL.of hL,rfl,fx,rfl,ok,fun p H2 s2 hp hP=>?_⟩;have hx2:=s2 _ _ hx1;have hL2:=s2 _ _ hL;have npx:p≠x:=Znm hP hx2 (by intro z;cases z);refine⟨_,rfl,p,_,0,.int (fx.s:Nat),rfl,rfl,SqT.of hP,rfl,_,rfl,x,CT,dx,[],rfl,hx2,C.cl,C.nS,by decide,?_⟩;refine⟨_,rfl,p,[.int (fx.s:Nat),.int (fx.h:Nat)],1,.int (fx.h:Nat),rfl,rfl,SqT.of (by rw[Z8 npx];exact hP),rfl,_,rfl,x,CT,dx,tF1 fx 0 0,rfl,Zq,C.cl,C.nH,Jx (Zcu _ _ _) (by decide),?_⟩;have k2:Keep x H (upd H2 x (.ins CT dx (tF2 fx 0 0))):=(Keep.of (s1.trans s2)).trans Keep.upd;have hL3:(upd H2 x (.ins CT dx (tF2 fx 0 0))) l=some (.lst (vS [Ee fx,Q6 fx,wd fx.d,U1 fx.pl,U1 fx.tr])):=by rw[Z8 nlx];exact hL2
 have hx3:(upd H2 x (.ins CT dx (tF2 fx 0 0))) x=some (.ins CT dx (tF2 fx 0 0)):=Zq;refine Zd4 (H:=upd H2 x (.ins CT dx (tF2 fx 0 0))) ?_ ?_
 ·first | rfl | exact U3 | (rw[U3];rfl)
 revert k2 hL3 hx3
 generalize upd H2 x (.ins CT dx (tF2 fx 0 0))=H3;intro k2 hL3 hx3;refine⟨_,rfl,l,_,1,.str (Q6 fx),rfl,rfl,SqL.of hL3,rfl,fx,rfl,ok,fun H4 s4=>⟨_,rfl,x,CT,dx,tF2 fx 0 0,rfl,s4 _ _ hx3,C.cl,C.nN,Jx (Zct _ _ _) (by decide),?_⟩⟩;have k4:Keep x H (upd H4 x (.ins CT dx (tF3 fx 0 0))):=k2.trans ((Keep.of s4).trans Keep.upd);have hL5:(upd H4 x (.ins CT dx (tF3 fx 0 0))) l=some (.lst (vS [Ee fx,Q6 fx,wd fx.d,U1 fx.pl,U1 fx.tr])):=by rw[Z8 nlx];exact s4 _ _ hL3
 have hx5:(upd H4 x (.ins CT dx (tF3 fx 0 0))) x=some (.ins CT dx (tF3 fx 0 0)):=Zq;refine Zd4 (H:=upd H4 x (.ins CT dx (tF3 fx 0 0))) ?_ ?_
 ·first | rfl | exact U3 | (rw[U3];rfl)
 revert k4 hL5 hx5
 generalize upd H4 x (.ins CT dx (tF3 fx 0 0))=H5;intro k4 hL5 hx5;refine⟨_,rfl,l,_,2,.str (wd fx.d),rfl,rfl,SqL.of hL5,rfl,wd fx.d,rfl,fun i e y dy H6 s6 hy h6=>?_,fun z=>absurd (Zjv _) z⟩;have ei:=Zgp _ _ e;subst ei;refine⟨fx.d,y,dy,[],rfl,h6,rfl,y,rfl,_,rfl,x,CT,dx,tF3 fx 0 0,rfl,s6 _ _ hx5,C.cl,C.nD,Jx (Zcs _ _ _) (by decide),?_⟩;have k6:Keep x H (upd H6 x (.ins CT dx (Ke fx 0 0))):=k4.trans ((Keep.of s6).trans Keep.upd);have hL7:(upd H6 x (.ins CT dx (Ke fx 0 0))) l=some (.lst (vS [Ee fx,Q6 fx,wd fx.d,U1 fx.pl,U1 fx.tr])):=by rw[Z8 nlx];exact s6 _ _ hL5
 have hx7:(upd H6 x (.ins CT dx (Ke fx 0 0))) x=some (.ins CT dx (Ke fx 0 0)):=Zq;refine Zd4 (H:=upd H6 x (.ins CT dx (Ke fx 0 0))) ?_ ?_
 ·first | rfl | exact U3 | (rw[U3];rfl)
 revert k6 hL7 hx7
 generalize upd H6 x (.ins CT dx (Ke fx 0 0))=H7;intro k6 hL7 hx7;refine⟨_,rfl,l,_,3,.str (U1 fx.pl),rfl,rfl,SqL.of hL7,rfl,_,rfl,x,CT,dx,_,_,rfl,hx7,C.cl,C.nH,M1 _ _ _,fx.pl,fx.h,rfl,ok.h8,ok.pp,fun po H8 s8 hpo hP8=>⟨_,rfl,x,CT,dx,Ke fx po 0,rfl,s8 _ _ hx7,C.cl,C.nP,Jx (Zcr _ _ _) (by decide),?_⟩⟩;have nox:po≠x:=fun z=>by
  rw[z,hx7] at hpo;cases hpo
 have k8:Keep x H (upd H8 x (.ins CT dx (Oc fx po 0))):=k6.trans ((Keep.of s8).trans Keep.upd);have hL9:(upd H8 x (.ins CT dx (Oc fx po 0))) l=some (.lst (vS [Ee fx,Q6 fx,wd fx.d,U1 fx.pl,U1 fx.tr])):=by rw[Z8 nlx];exact s8 _ _ hL7
 have hP9:(upd H8 x (.ins CT dx (Oc fx po 0))) po=some (.tup (vN fx.pl)):=by rw[Z8 nox];exact hP8
 have hx9:(upd H8 x (.ins CT dx (Oc fx po 0))) x=some (.ins CT dx (Oc fx po 0)):=Zq;refine Zd4 (H:=upd H8 x (.ins CT dx (Oc fx po 0))) ?_ ?_
 ·first | rfl | exact U3 | (rw[U3];rfl)
 revert k8 hL9 hP9 hx9
 generalize upd H8 x (.ins CT dx (Oc fx po 0))=H9;intro k8 hL9 hP9 hx9;refine⟨_,rfl,l,_,4,.str (U1 fx.tr),rfl,rfl,SqL.of hL9,rfl,_,rfl,x,CT,dx,_,_,rfl,hx9,C.cl,C.nH,M0 _ _ _,fx.tr,fx.h,rfl,ok.h8,ok.pt,fun to H10 s10 hto hT10=>⟨_,rfl,x,CT,dx,Oc fx po to,rfl,s10 _ _ hx9,C.cl,C.nT,Jx (Zcq _ _ _) (by decide),?_⟩⟩;have ntx:to≠x:=fun z=>by
  rw[z,hx9] at hto;cases hto
 refine⟨_,rfl,_,rfl,x,CT,dx,tF6 fx po to,rfl,Zq,C.cl,C.nW,Jx (Zk0 _ _ _) (by decide),?_⟩;rw[U3];refine q po to _ (k8.trans ((Keep.of s10).trans Keep.upd)) Zq ?_ ?_
 ·rw[Z8 nox];exact s10 _ _ hP9
 ·rw[Z8 ntx];exact hT10
abbrev Te:Stmt:=Yn (top 66) 2
abbrev V3:Stmt:=Yn (top 66) 3
abbrev U5:Stmt:=Yn (top 67) 0
def Og(CT:Addr):Sp:=fun vs H Q _=>∃(x:Addr) (f:Fx),vs=[.ref x]∧IsTab CT f H x∧Q (.str (wd f.d)) H
theorem Zk5:FnScope ["self"] ["self"] (Zm Te):=Uw (by decide +kernel)
theorem Sc{k:Nat}{CT:Addr}(F:Fun K "duty" "Table.duty" Te f fd)(C:TabC K mg CT):FnOk P w K mg base Yq (k+1) f fd ["self"] (Og CT):=by
 refine F.ok Zk5 (fun vs H Q E h=>?_) (fun cdv A outer s H vs Q E hr h=>?_)
 ·obtain⟨x,fx,rfl,_⟩:=h
  rfl
 obtain⟨x,fx,rfl,⟨dx,po,to,hx,_,_⟩,q⟩:=h;refine⟨_,Zn (Z9 (Jt (pv 0) rfl)),?_⟩;exact⟨_,rfl,x,CT,dx,_,_,rfl,hx,C.cl,C.nD,R5 _ _ _,q⟩
def Zis(f:Fx)(b:Bool):List Nat:=if b then f.tr else f.pl
def Kn(CT:Addr):Sp:=fun vs H Q _=>∃(x:Addr) (f:Fx) (b:Bool),vs=[.ref x,.bl b]∧IsTab CT f H x∧∀ l H',Same H H'→H l=none→H' l=some (.lst (vN (Zis f b)))→Q (.ref l) H'
theorem Zhh:FnScope ["self","is_trump"] ["self","is_trump"] (Zm V3):=Uw (by decide +kernel)
theorem Zfa{k:Nat}{CT:Addr}(F:Fun K "order" "Table.order" V3 f fd)(C:TabC K mg CT)(mLi:mg "list" = none):FnOk P w K mg base Yq (k+1) f fd ["self","is_trump"] (Kn CT):=by
 refine F.ok Zhh (fun vs H Q E h=>?_) (fun cdv A outer s H vs Q E hr h=>?_)
 ·obtain⟨x,fx,b,rfl,_⟩:=h
  rfl
 obtain⟨x,fx,b,rfl,⟨dx,po,to,hx,hp,ht⟩,q⟩:=h;refine⟨_,Zn (Z9 (Yz Qa rfl mLi Ys (Za (Em (Jy (pv 1) (fun _=>rfl)) (Jt (pv 0) rfl) (Jt (pv 0) rfl)) Zf))),?_⟩;refine⟨_,rfl,b,rfl,?_⟩;cases b with
 | true=>exact Yt ⟨_,rfl,x,CT,dx,_,_,rfl,hx,C.cl,C.nT,Vm _ _ _,to,_,rfl,.inr (SqT.of ht),fun l hl=>q l _ (Je hl _) hl Zq⟩
 | false=>exact J3 ⟨_,rfl,x,CT,dx,_,_,rfl,hx,C.cl,C.nP,Vn _ _ _,po,_,rfl,.inr (SqT.of hp),fun l hl=>q l _ (Je hl _) hl Zq⟩
def Znh(CG:Addr):Sp:=fun vs H Q _=>∃(g dg x:Addr) (tv:V),vs=[.ref g,.ref x,tv]∧H g=some (.ins CG dg [])∧Q .non (upd H g (.ins CG dg (M4 x tv)))
theorem Zqz:FnScope ["self","table","trump"] ["self","table","trump"] (Zm U5):=Uw (by decide +kernel)
theorem Zo7{k:Nat}{CG:Addr}(F:FunD K "__init__" "Game.__init__" U5 f fd)(C:GamC K mg CG):FnOk P w K mg base Yq (k+1) f fd ["self","table","trump"] (Znh CG):=by
 refine F.ok Zqz (fun vs H Q E h=>?_) (fun cdv A outer s H vs Q E hr h=>?_)
 ·obtain⟨g,dg,x,tv,rfl,_⟩:=h
  rfl
 obtain⟨g,dg,x,tv,rfl,hg,q⟩:=h;refine⟨_,Zi (Xq (pv 0) (pv 1) rfl) (Zn (Xq (pv 0) (pv 2) rfl)),?_⟩;refine⟨_,rfl,_,rfl,g,CG,dg,[],rfl,hg,C.cl,C.nT,by decide,?_⟩;refine⟨_,rfl,_,rfl,g,CG,dg,X3 "table" (.ref x) [],rfl,Zq,C.cl,C.nU,Jx (Y9 _ _ _) (by decide),?_⟩;rw[U3];exact q
end
def U6(s h:Nat):List Nat:=(List.range s).flatMap fun u=>(List.range h).map fun v=>8 * u+v
def Ty(s h:Nat):Nat:=((U6 s h).map (2 ^ ·)).sum
end My
namespace L2
open PySem PySem.Spec PyProof.Rows
end L2
namespace My
open PySem L2
def pos(x:Nat):List Nat→Nat
 | []=>0
 | y :: l=>if y=x then 0 else pos x l+1
theorem Al{x:Nat}:∀{l:List Nat},x∈l→l[pos x l]? = some x∧∀ m < pos x l,l[m]?≠some x
 | [],h=>nomatch h
 | y :: l,h=>by
  unfold pos;by_cases c:y=x
  ·rw[Zv c]
   exact⟨by rw[c];rfl,fun m hm=>absurd hm (Nat.not_lt_zero _)⟩
  ·rw[Zj c]
   have hl:x∈l:=by
    rcases Ja.mp h with e | e
    ·exact absurd e.symm c
    ·exact e
   obtain⟨a,b⟩:=Al hl;refine⟨a,fun m hm=>?_⟩;cases m with
   | zero=>exact fun z=>c (Zy z)
   | succ m=>exact b m (by omega)
theorem Zlk{l:List Nat}{x y:Nat}(hx:x∈l)(hy:y∈l)(e:pos x l=pos y l):x=y:=by
 have a:=(Al hx).1;have b:=(Al hy).1;rw[e,b] at a;exact(Zy a).symm
def Rz:Option Nat→V
 | none=>.non
 | some t=>.int (t:Nat)
theorem Zgt(t:Option Nat)(s:Nat):decide (V.int (s:Nat)=Rz t)=decide (t=some s):=by
 cases t with
 | none=>
  rw[Zd (fun z=>nomatch z),Zd (fun z=>nomatch z)]
 | some u=>
  by_cases c:s=u
  ·subst c
   rw[Zc (show V.int (s:Nat)=Rz (some s) from rfl),Zc rfl]
  ·rw[Zd (fun z=>c (by injection z with z;omega)),Zd (fun z=>c (Zy z).symm)]
theorem Oa(t:Option Nat)(s:Int):Zn5 (.int s) (Rz t)=true:=by cases t<;>rfl
theorem Zkt(t:Option Nat):Xo (Rz t)=true:=by cases t<;>rfl
def Xe(f:Fx)(t:Option Nat)(c o led:Nat):Bool:=
 if c / 8=o / 8 then decide (c / 8=led∨t=some (c / 8)) && decide (pos (o % 8) (if t=some (c / 8) then f.tr else f.pl) < pos (c % 8) (if t=some (c / 8) then f.tr else f.pl))
 else if t=some (c / 8) then true else decide (c / 8=led) && !decide (t=some (o / 8))
theorem E7{f:Fx}{t:Option Nat}{c o led:Nat}(h:c / 8=o / 8):Xe f t c o led=(decide (c / 8=led∨t=some (c / 8)) && decide (pos (o % 8) (if t=some (c / 8) then f.tr else f.pl) < pos (c % 8) (if t=some (c / 8) then f.tr else f.pl))):=Zv h
theorem Ba{f:Fx}{t:Option Nat}{c o led:Nat}(h:¬ c / 8=o / 8):Xe f t c o led=(if t=some (c / 8) then true else decide (c / 8=led) && !decide (t=some (o / 8))):=Zj h
theorem Mx(f:Fx)(t:Option Nat)(c o led:Nat):Xe f t c o led=true→Xe f t o c led=true→False:=by
 by_cases s:c / 8=o / 8
 ·rw[E7 s,E7 s.symm,← s]
  intro a b;rw[Bool.and_eq_true,decide_eq_true_eq,decide_eq_true_eq] at a b;omega
 ·rw[Ba s,Ba (fun z=>s z.symm)]
  by_cases c1:t=some (c / 8)
  ·have c2:¬ t=some (o / 8):=fun z=>s (by rw[c1] at z;exact Zy z)
   rw[Zj c2];intro _ b;rw[Zc c1] at b;simp at b
  ·rw[Zj c1]
   by_cases c2:t=some (o / 8)
   ·intro a _
    rw[Zc c2] at a;simp at a
   ·rw[Zj c2]
    intro a b;rw[Bool.and_eq_true,decide_eq_true_eq] at a b;omega
theorem K9{f:Fx}(ok:f.Ok){t:Option Nat}{c o led:Nat}(hc:c % 8 < f.h)(ho:o % 8 < f.h)(ne:c≠o)(s1:c / 8=led∨t=some (c / 8))(s2:o / 8=led∨t=some (o / 8)):Xe f t c o led=true∨Xe f t o c led=true:=by
 by_cases s:c / 8=o / 8
 ·rw[E7 s,E7 s.symm,← s,Zc s1,Bool.true_and,Bool.true_and,decide_eq_true_eq,decide_eq_true_eq]
  have hmem:∀ x,x < f.h→x∈(if t=some (c / 8) then f.tr else f.pl):=fun x hx=>by
   split
   ·exact ok.pt.symm.subset (Yg.mpr hx)
   ·exact ok.pp.symm.subset (Yg.mpr hx)
  have np:pos (c % 8) (if t=some (c / 8) then f.tr else f.pl)≠pos (o % 8) (if t=some (c / 8) then f.tr else f.pl):=fun z=>by
   have:=Zlk (hmem _ hc) (hmem _ ho) z;omega
  omega
 ·rw[Ba s,Ba (fun z=>s z.symm)]
  by_cases c1:t=some (c / 8)
  ·exact .inl (Zv c1)
  ·by_cases c2:t=some (o / 8)
   ·exact .inr (Zv c2)
   ·exfalso
    rcases s1 with s1 | s1
    ·rcases s2 with s2 | s2
     ·omega
     ·exact c2 s2
    ·exact c1 s1
theorem Zmp(s led:Nat)(t:Option Nat):Sw (.int (s:Nat)) [Rz t,.int (led:Nat)]=decide (s=led∨t=some s):=by
 have e:Sw (.int (s:Nat)) [Rz t,.int (led:Nat)]=(Ru (Rz t) (.int (s:Nat)) || (Ru (.int (led:Nat)) (.int (s:Nat)) || false)):=rfl;rw[e];have e1:Ru (Rz t) (.int (s:Nat))=decide (t=some s):=by
  cases t with
  | none=>rw[Zd (fun z=>nomatch z)];rfl
  | some u=>
   show(((u:Nat):Int) == (s:Nat))=_;by_cases c:u=s
   ·subst c;simp
   ·rw[Zd (fun z=>c (Zy z))]
    exact beq_eq_false_iff_ne.mpr (by omega)
 have e2:Ru (.int (led:Nat)) (.int (s:Nat))=decide (s=led):=by
  show(((led:Nat):Int) == (s:Nat))=_;by_cases c:s=led
  ·subst c;simp
  ·rw[Zd c]
   exact beq_eq_false_iff_ne.mpr (by omega)
 rw[e1,e2];by_cases a:s=led<;>by_cases b:t=some s<;>simp [a,b]
theorem Zj4(x:Nat):∀(l:List Nat),Sw (.int (x:Nat)) (vN l)=decide (x∈l)
 | []=>by rw[Zd (Y5)];rfl
 | y :: l=>by
  have e:Sw (.int (x:Nat)) (vN (y :: l))=((((y:Nat):Int) == (x:Nat)) || Sw (.int (x:Nat)) (vN l)):=rfl;rw[e,Zj4 x l];by_cases c:x=y
  ·subst c
   simp
  ·have b:(((y:Nat):Int) == (x:Nat))=false:=beq_eq_false_iff_ne.mpr (by omega)
   rw[b,Bool.false_or];by_cases d:x∈l
   ·rw[Zc d,Zc (Zx _ d)]
   ·rw[Zd d,Zd fun z=>by
     rcases Ja.mp z with z | z
     ·exact c z
     ·exact d z]
theorem D9:∀(l:List Nat),(vN l).all Xo=true
 | []=>rfl
 | _ :: l=>by
  show(true && (vN l).all Xo)=true;rw[D9 l];rfl
theorem Zdw{l:List Nat}{x:Nat}(h:x∈l):(l.map fun c=>((c:Nat):Int))[pos x l]? = some ((x:Nat):Int)∧∀ m < pos x l,(l.map fun c=>((c:Nat):Int))[m]?≠some ((x:Nat):Int):=by
 obtain⟨a,b⟩:=Al h;refine⟨by rw[Z4,a];rfl,fun m hm z=>?_⟩;rw[Z4] at z;cases e:l[m]? with
 | none=>rw[e] at z;cases z
 | some y=>
  rw[e] at z;have:((y:Nat):Int)=(x:Nat):=Zy z;have ey:y=x:=by omega
  rw[ey] at e;exact b m hm e
abbrev Zbf:Stmt:=top 65
abbrev V4:Stmt:=Yn (top 67) 2
abbrev Zhq:Stmt:=Yn (top 67) 3
section
variable{P:Program}{w:World}{K:W.Frag}{mg:Str→Option Value}{base:Heap}{f g:Addr}{fd gd:FuncData}
theorem X1{a b:Bool}{A B:Prop}(e:a=b)(h:if b=true then A else B):if a=true then A else B:=by rw[e];exact h
theorem Zs5{a b:Bool}{Q:VK}{H:Hp}(e:a=b)(h:Q (.bl b) H):Q (.bl a) H:=by rw[e];exact h
def Zc1(K:W.Frag):Sp:=fun vs H Q _=>∃(l:Addr) (ls:List Nat) (x y:Nat),vs=[.ref l,.int (x:Nat),.int (y:Nat)]∧SqL K H l (vN ls)∧ls.length≤1000∧x∈ls∧y∈ls∧Q (.bl (decide (pos y ls < pos x ls))) H
theorem Zla:FnScope ["order","height","other"] ["order","height","other"] (Zm Zbf):=Uw (by decide +kernel)
theorem Zjb{k:Nat}(F:Fun K "is_later" "is_later" Zbf f fd):FnOk P w K mg base Yq (k+1) f fd ["order","height","other"] (Zc1 K):=by
 refine F.ok Zla (fun vs H Q E h=>?_) (fun cdv A outer s H vs Q E hr h=>?_)
 ·obtain⟨l,ls,x,y,rfl,_⟩:=h
  rfl
 obtain⟨l,ls,x,y,rfl,hS,hl,hx,hy,q⟩:=h;refine⟨_,Zi (Yd (PW.pt (U2 (Jm E8 (pv 1) (pv 0) rfl) (U7 (Jm E8 (pv 2) (pv 0) rfl)))) (Zn (Z9 Ue)) Jn)
  (Zn (Z9 (Y0 Q8 (En Yi PySem.F.slot_list_index PySem.F.type_list_index Sm (pv 0) (Za (pv 1) Zf)) (En Yi PySem.F.slot_list_index PySem.F.type_list_index Sm (pv 0) (Za (pv 2) Zf)) (Jl _)))),?_⟩
 refine⟨_,rfl,_,rfl,l,vN ls,rfl,.inl hS,rfl,D9 _,_,rfl,?_⟩;show(if(!Sw (.int (x:Nat)) (vN ls))=true then _ else _);rw[Zj4,Zc hx];refine J3 ⟨_,rfl,_,rfl,l,vN ls,rfl,.inl hS,rfl,D9 _,_,rfl,?_⟩;show(if(!Sw (.int (y:Nat)) (vN ls))=true then _ else _);rw[Zj4,Zc hy];refine J3 ?_;have hS':SqL K H l ((ls.map fun c=>((c:Nat):Int)).map V.int):=by rw[← D8];exact hS
 have ll:(ls.map fun c=>((c:Nat):Int)).length≤1000:=by rw[Zk];exact hl
 refine⟨_,rfl,.inl ⟨rfl,_,hS⟩,_,rfl,l,_,_,pos x ls,rfl,rfl,hS',ll,(Zdw hx).1,(Zdw hx).2,?_⟩;refine⟨_,rfl,.inl ⟨rfl,_,hS⟩,_,rfl,l,_,_,pos y ls,rfl,rfl,hS',ll,(Zdw hy).1,(Zdw hy).2,_,_,rfl,rfl,?_⟩;have e:decide (((pos y ls:Nat):Int) < ((pos x ls:Nat):Int))=decide (pos y ls < pos x ls):=by
  by_cases c:pos y ls < pos x ls
  ·rw[Zc c,Zc (by omega)]
  ·rw[Zd c,Zd (by omega)]
 show Q (.bl (decide (((pos y ls:Nat):Int) < ((pos x ls:Nat):Int)))) H;rw[e];exact q
def Ao(f:Fx)(t:Option Nat)(c:Nat):List Nat:=if t=some (c / 8) then f.tr else f.pl
theorem Sa{f:Fx}(ok:f.Ok){t:Option Nat}{c x:Nat}(hx:x < f.h):x∈Ao f t c:=by
 unfold Ao;split
 ·exact ok.pt.symm.subset (Yg.mpr hx)
 ·exact ok.pp.symm.subset (Yg.mpr hx)
theorem Zir{f:Fx}(ok:f.Ok){t:Option Nat}{c:Nat}:(Ao f t c).length≤1000:=by
 have h8:=ok.h8;unfold Ao;split
 ·rw[Ur ok.pt];omega
 ·rw[Ur ok.pp];omega
def Bl(CT CG:Addr):Sp:=fun vs H Q _=>∃(gm x:Addr) (t:Option Nat) (f:Fx) (c o:Nat),vs=[.ref gm,.int (c:Nat),.int (o:Nat)]∧f.Ok∧IsGam CG x (Rz t) H gm∧IsTab CT f H x∧c % 8 < f.h∧o % 8 < f.h∧∀ H',Same H H'→Q (.bl (decide (pos (o % 8) (Ao f t c) < pos (c % 8) (Ao f t c)))) H'
theorem scStronger:FnScope ["self","card","other","order"] ["self","card","other"] (Zm V4):=Uw (by decide +kernel)
theorem Sd{k:Nat}{CT CG f1 m3:Addr}{d1 e3:FuncData}{t1:Tok}(F:Fun K "is_stronger" "Game.is_stronger" V4 f fd)(C:TabC K mg CT)(CGm:GamC K mg CG)(LL:Lib P w K mg base k "is_later" ["order","height","other"] (Zc1 K) f1 d1)
  (MO:Meth K CT "order" m3) (FO:FnOk P w K mg base Yq k m3 e3 ["self","is_trump"] (Kn CT)) (BO:Binds K e3 ["self","is_trump"] []) (mH:mg "HEIGHTS" = some (.int 8 t1)):FnOk P w K mg base Yq (k+1) f fd ["self","card","other"] (Bl CT CG):=by
 refine F.ok scStronger (fun vs H Q E h=>?_) (fun cdv A outer s H vs Q E hr h=>?_)
 ·obtain⟨gm,x,t,fx,c,o,rfl,_⟩:=h
  rfl
 obtain⟨gm,x,t,fx,c,o,rfl,ok,hg,ht,hc,ho,q⟩:=h;refine⟨_,Zi (Jf (i:=3) scStronger.nd rfl (Or.inl rfl) (Uf (Jt (pv 0) rfl) C.cl MO FO hr BO .nil Jb (Za (Y0 X7 (Jj Xk (pv 1) (Yy (v:=.int 8) rfl mH ⟨_,rfl⟩)) (Jt (pv 0) rfl) (Jl _)) Zf)))
  (Zn (Z9 (Z0 LL.ok hr rfl LL.mg LL.kp LL.bd .nil Jb (Za (pv 3) (Za (Jj Ul (pv 1) (Yy (v:=.int 8) rfl mH ⟨_,rfl⟩)) (Za (Jj Ul (pv 2) (Yy (v:=.int 8) rfl mH ⟨_,rfl⟩)) Zf)))))),?_⟩
 obtain⟨dg,hG⟩:=id hg;obtain⟨dx,po,to,hX,_,_⟩:=id ht;have e1:((c:Nat):Int) / 8=((c / 8:Nat):Int):=by omega
 refine⟨_,rfl,gm,CG,dg,_,_,rfl,hG,CGm.cl,CGm.nT,Yu _ _,x,dx,_,rfl,hX,Ss _ _ _,?_⟩;refine⟨_,rfl,_,_,rfl,rfl,⟨by decide,by decide⟩,_,rfl,gm,CG,dg,_,_,rfl,hG,CGm.cl,CGm.nU,Q0 _ _,Oa _ _,x,fx,decide (t=some (c / 8)),?_,ht,fun l H1 s1 hl hL=>?_⟩
 ·show V.ref x :: ([V.bl (decide (V.int (((c:Nat):Int) / 8)=Rz t))]++[])=[V.ref x,V.bl (decide (t=some (c / 8)))]
  rw[e1,Zgt];rfl
 have eo:Zis fx (decide (t=some (c / 8)))=Ao fx t c:=by
  unfold Zis Ao;by_cases z:t=some (c / 8)
  ·rw[Zv z,Zv (Zc z)]
  ·rw[Zj z,Zj (by rw[Zd z];decide)]
 rw[eo] at hL;have e2:((c:Nat):Int) % 8=((c % 8:Nat):Int):=by omega
 have e3:((o:Nat):Int) % 8=((o % 8:Nat):Int):=by omega
 refine⟨_,rfl,_,rfl,_,_,rfl,rfl,(show(0:Int) < 8 by decide),_,rfl,_,_,rfl,rfl,(show(0:Int) < 8 by decide),l,Ao fx t c,c % 8,o % 8,?_,SqL.of hL,Zir ok,Sa ok hc,Sa ok ho,q _ s1⟩;dsimp only;rw[e2,e3];rfl
def Oj(CT CG:Addr):Sp:=fun vs H Q _=>∃(gm x:Addr) (t:Option Nat) (f:Fx) (c o led:Nat),vs=[.ref gm,.int (c:Nat),.int (o:Nat),.int (led:Nat)]∧f.Ok∧IsGam CG x (Rz t) H gm∧IsTab CT f H x∧c % 8 < f.h∧o % 8 < f.h∧∀ H',Same H H'→Q (.bl (Xe f t c o led)) H'
abbrev Rp:List Str:=["self","card","other","led"]
theorem scOver:FnScope ["self","card","other","led","suit"] Rp (Zm Zhq):=Uw (by decide +kernel)
theorem Zd7(a b:Nat):decide (V.int (a:Nat)=V.int (b:Nat))=decide (a=b):=by
 by_cases c:a=b
 ·subst c
  rw[Zc rfl,Zc rfl]
 ·rw[Zd c,Zd (fun z=>c (by injection z with z;omega))]
theorem Zl4{k:Nat}{CT CG m3:Addr}{e3:FuncData}{t1:Tok}(F:Fun K "is_over" "Game.is_over" Zhq f fd)(CGm:GamC K mg CG)(MS:Meth K CG "is_stronger" m3)(FS:FnOk P w K mg base Yq k m3 e3 ["self","card","other"] (Bl CT CG))(BS:Binds K e3 ["self","card","other"] [])(mH:mg "HEIGHTS" = some (.int 8 t1)) :
  FnOk P w K mg base Yq (k+1) f fd Rp (Oj CT CG):=by
 refine F.ok scOver (fun vs H Q E h=>?_) (fun cdv A outer s H vs Q E hr h=>?_)
 ·obtain⟨gm,x,t,fx,c,o,led,rfl,_⟩:=h
  rfl
 obtain⟨gm,x,t,fx,c,o,led,rfl,ok,hg,ht,hc,ho,q⟩:=h;refine⟨_,Zi (Jf (i:=4) scOver.nd rfl (Or.inl rfl) (Jj Xk (pv 1) (Yy (v:=.int 8) rfl mH ⟨_,rfl⟩)))
  (Zi (Yd (Jm X7 (pv 4) (Jj Xk (pv 2) (Yy (v:=.int 8) rfl mH ⟨_,rfl⟩)) (Jl _)) (Zn (Z9 (Xd (Y0 Rc (pv 4) (Uy (Za (Jt (pv 0) rfl) (Za (pv 3) Zf))) rfl) (U8 (Uf (pv 0) CGm.cl MS FS hr BS .nil Jb (Za (pv 1) (Za (pv 2) Zf))))))) Jn)
  (Zi (Yd (Jm X7 (pv 4) (Jt (pv 0) rfl) (Jl _)) (Zn (Z9 Ue)) Jn)
  (Zn (Z9 (Xd (Y0 X7 (pv 4) (pv 3) (Jl _)) (U8 (Y0 No (Jj Xk (pv 2) (Yy (v:=.int 8) rfl mH ⟨_,rfl⟩)) (Jt (pv 0) rfl) (Jl _)))))))),?_⟩
 obtain⟨dg,hG⟩:=id hg;have e1:((c:Nat):Int) / 8=((c / 8:Nat):Int):=by omega
 have e2:((o:Nat):Int) / 8=((o / 8:Nat):Int):=by omega
 refine⟨_,rfl,_,_,rfl,rfl,⟨by decide,by decide⟩,?_⟩;dsimp only;rw[e1];refine⟨_,rfl,_,rfl,_,_,rfl,rfl,⟨by decide,by decide⟩,rfl,_,rfl,?_⟩;refine X1 (congrArg (fun z=>decide (V.int ((c / 8:Nat):Int)=V.int z)) e2) ?_;rw[Zd7];by_cases sm:c / 8=o / 8
 ·rw[Zc sm]
  refine Yt ⟨_,rfl,_,rfl,gm,CG,dg,_,_,rfl,hG,CGm.cl,CGm.nU,Q0 _ _,_,rfl,Yf 2 (by decide),fun p hp=>?_⟩;have s1:=Je hp (.tup [Rz t,.int (led:Nat)]);have fl:[Rz t,V.int (led:Nat)].all Xo=true:=by
   show(Xo (Rz t) && (true && true))=true;rw[Zkt];rfl
  refine⟨p,[Rz t,.int (led:Nat)],rfl,.inr (SqT.of Zq),rfl,fl,?_⟩;show ∃ b,V.bl (Sw (.int ((c / 8:Nat):Int)) [Rz t,.int (led:Nat)])=_∧_;rw[Zmp];refine⟨_,rfl,?_⟩;by_cases sg:c / 8=led∨t=some (c / 8)
  ·rw[Zc sg]
   refine Yt ⟨_,rfl,gm,dg,_,rfl,s1 _ _ hG,Er _ _ _ (by decide +kernel) (by decide +kernel),_,rfl,_,rfl,gm,x,t,fx,c,o,rfl,ok,hg.same s1,ht.same s1,hc,ho,fun H2 s2=>?_⟩;have z:=q H2 (s1.trans s2);rw[E7 sm,Zc sg,Bool.true_and] at z;exact z
  ·rw[Zd sg]
   refine J3 ?_;have z:=q _ s1;rw[E7 sm,Zd sg,Bool.false_and] at z;exact z
 ·rw[Zd sm]
  refine J3 ⟨_,rfl,_,rfl,gm,CG,dg,_,_,rfl,hG,CGm.cl,CGm.nU,Q0 _ _,Oa _ _,_,rfl,?_⟩;have z:=q H (Same.refl _);rw[Ba sm] at z;rw[Zgt];by_cases c1:t=some (c / 8)
  ·rw[Zc c1]
   rw[Zv c1] at z;exact Yt z
  ·rw[Zd c1]
   rw[Zj c1] at z;refine J3 ⟨_,rfl,_,rfl,rfl,_,rfl,?_⟩;rw[Zd7];by_cases c2:c / 8=led
   ·rw[Zc c2]
    rw[Zc c2,Bool.true_and] at z;refine Yt ⟨_,rfl,_,_,rfl,rfl,⟨by decide,by decide⟩,_,rfl,gm,CG,dg,_,_,rfl,hG,CGm.cl,CGm.nU,Q0 _ _,Oa _ _,?_⟩;refine Zs5 (congrArg (fun z=>(!decide (V.int z=Rz t))) e2) ?_;rw[Zgt];exact z
   ·rw[Zd c2]
    rw[Zd c2,Bool.false_and] at z;exact J3 z
end
end My
namespace L2
open PySem PySem.Spec PyProof.Rows
open AutoSeq1 (wpAny_loadPart')
section
variable{prog:Program}{w:World}{A:Around}{E:Value→Shared→Prop}{s:Shared}{it t:Addr}{i:Nat}{items:Array Value}
theorem Zb3{x:Value}{Q:Value→Shared→Prop}(hI:s.heap.IsTupleIter it t i)(hT:s.heap.IsTuple t items)(hx:items[i]? = some x)
  (q:∀ h',h'.IsTupleIter it t (i+1)→Heap.SameBut it s.heap h'→Q x { s with heap:=h' }):wpAny (model prog w) A (Builtin.SmallTypes.nextOf (.ref it)) Q E s:=by
 obtain⟨o,g1,g2,g3⟩:=id hI;obtain⟨ot,k1,_,_,k2⟩:=hT;unfold Builtin.SmallTypes.nextOf;refine Zb (wpAny_callSpecial?_slot (name:=Str.ofString "__next__") hI.typeIs F.slot_tuple_iterator_next (wpAny_call_entry F.slot_tuple_iterator_next hI.typeIs F.entry_tuple_iterator_next ?_ (F.args_tuple_iterator_next_1 _)));show wpAny _ _ (field (.ref it) 0 >>= _) _ _ s;refine Zb (wpAny_field g1 g3 (x:=.ref t) rfl ?_);show wpAny _ _ (if(Value.ref t == Value.none)=true then _ else _) _ _ s;rw[Zj (show ¬ ((Value.ref t == Value.none)=true) from Zp)];show wpAny _ _ (field (.ref it) 1 >>= _) _ _ s;refine Zb (wpAny_field g1 g3 (x:=.int i 0) rfl ?_);show wpAny _ _ (seqItems? (.ref t) >>= _) _ _ s;refine Zb (wpAny_seqItems k1 k2 ?_);simp only[Z2,hx];exact Zb (wpAny_setField g1 g3 (by simp) (Ze ⟨x,rfl,Ze (q _ ⟨_,Heap.get?_update_self _ g1 (Obj.isFreed_of_fields (Obj.data_mapFields g3 _)),(Obj.cls_mapFields ..).trans g2,by rw[Obj.data_mapFields g3];simp [rawInt]⟩ (Heap.SameBut.update ..))⟩))
theorem Rr{Q:Value→Shared→Prop}(hh:A.handled=none)(hI:s.heap.IsTupleIter it t i)(hT:s.heap.IsTuple t items)(hx:items[i]? = none)
  (q:∀ h' e,Heap.ExtBut it s.heap h'→(∃ o,h'.get? e=some o∧o.cls = .type "StopIteration")→E (.ref e) { s with heap:=h' }):wpAny (model prog w) A (Builtin.SmallTypes.nextOf (.ref it)) Q E s:=by
 obtain⟨o,g1,g2,g3⟩:=id hI;obtain⟨ot,k1,_,_,k2⟩:=hT;unfold Builtin.SmallTypes.nextOf;refine Zb (wpAny_callSpecial?_slot (name:=Str.ofString "__next__") hI.typeIs F.slot_tuple_iterator_next (wpAny_call_entry F.slot_tuple_iterator_next hI.typeIs F.entry_tuple_iterator_next ?_ (F.args_tuple_iterator_next_1 _)));show wpAny _ _ (field (.ref it) 0 >>= _) _ _ s;refine Zb (wpAny_field g1 g3 (x:=.ref t) rfl ?_);show wpAny _ _ (if(Value.ref t == Value.none)=true then _ else _) _ _ s;rw[Zj (show ¬ ((Value.ref t == Value.none)=true) from Zp)];show wpAny _ _ (field (.ref it) 1 >>= _) _ _ s;refine Zb (wpAny_field g1 g3 (x:=.int i 0) rfl ?_);show wpAny _ _ (seqItems? (.ref t) >>= _) _ _ s;refine Zb (wpAny_seqItems k1 k2 ?_);simp only[Z2,hx];refine Zb (wpAny_rule (Zb (wpAny_setField g1 g3 (by simp) ?_)));show wpAny _ _ (newExc (.type "StopIteration") [] >>= _) _ _ _;refine Zb ?_;simp only[newExc,newTuple];refine Zb (wpAny_newObj_type (Zb (m:=firstArgMember _ _) (wpAny_of_eq (a:=Value.none) (by first | rfl | (simp only[firstArgMember];rfl)) (wpAny_newObj_type ?_ (by size_fits)))) (by size_fits));simp only[raiseNew];refine Zb (wpAny_handled ?_);first | rw[show A.in1.handled=none from hh] | rw[hh]
 exact Zb (Ze (wpAny_throw (q _ _ (((Heap.SameBut.update ..).extBut.push _).push _) ⟨_,Z6 _ rfl,rfl⟩)))
end
theorem Zf3{prog:Program}{w:World}{A:Around}(hh:A.handled=none)(it t:Addr)(hne:t≠it)(items:Array Value) :
  Draws prog w A it [it,t] items.size (fun i v=>items[i]? = some v) (fun i h=>h.IsTupleIter it t i∧h.IsTuple t items) where
 live:=fun _ _ z=>let ⟨o,ho,_⟩:=z.1;⟨o,ho⟩
 frame:=fun _ _ _ z k=>⟨z.1.at fun o e=>k it (by simp) o e,let ⟨o,ho,r⟩:=z.2;⟨o,k t (by simp) o ho,r⟩⟩
 item:=fun i s Q E hi z q=>by
  refine Zb3 z.1 z.2 (x:=items[i]) (by simp [hi]) fun h' a b=>?_;obtain⟨o,ho,r⟩:=z.2;exact q _ h' s.toks (by simp [hi]) ⟨a,o,b.extBut t o hne ho,r⟩ b
 done:=fun s Q E z q=>Rr hh z.1 z.2 (by simp) q
theorem Sr(l:Addr)(items:Array Value)(n:Nat)(dct:Option Addr)(sl:Array (Option Value)) :
  Meets (Builtin.«enumerate.__new__» ⟨[.type "enumerate",.ref l],[]⟩) (fun _ R s=>s.heap.get? l=some { cls:=.type "tuple",dict:=dct,data:=.seq items n,slots:=sl } ∧
   R (.ok (.ret (.ref (s.heap.push { cls:=.type "tuple_iterator",data:=.fields #[.ref l,.int 0 0] }).objs.size)))
    { s with heap:=(s.heap.push { cls:=.type "tuple_iterator",data:=.fields #[.ref l,.int 0 0] }).push { cls:=.type "enumerate",data:=.fields #[.none,.bool false,.ref s.heap.objs.size,rawInt 0,.none,.none] } }):=
 .of_wp fun prog w A R s h=>by
  obtain⟨hp,g,d,tk,os⟩:=s;obtain⟨hl,h⟩:=h;have hq:=sub_enumerate;have hT:Heap.IsTuple (Shared.heap ⟨hp,g,d,tk,os⟩) l items:=⟨_,hl,rfl,n,rfl⟩
  wp_walk using wpAny_loadPart' hl
  refine wpAny_stack_any fun _=>Ze ?_;split
  ·rename_i c _ _ _ _ _
   cases (c == Value.type "enumerate")<;>(wp_walk using wpAny_loadPart' hl,wpAny_pyIter_tuple hT;exact⟨_,rfl,h⟩)
  ·wp_walk using wpAny_loadPart' hl,wpAny_pyIter_tuple hT
   exact⟨_,rfl,h⟩
theorem Zcm{prog:Program}{w:World}{A:Around}{E:Value→Shared→Prop}{s:Shared}{l:Addr}{items:Array Value}{Q:Value→Shared→Prop}(hT:s.heap.IsTuple l items)
  (q:∀ h',IsEnum h' (s.heap.objs.size+1) s.heap.objs.size 0 .none→h'.IsTupleIter s.heap.objs.size l 0→h'.objs.size=s.heap.objs.size+2→(∀ b o,s.heap.get? b=some o→h'.get? b=some o)→Q (.ref (s.heap.objs.size+1)) { s with heap:=h' }) :
  wpAny (model prog w) A (call (.type "enumerate") [.ref l]) Q E s:=by
 obtain⟨⟨c,dct,dt,sl⟩,hl,hc,n,hd⟩:=hT
 replace hc:c = .type "tuple":=hc
 replace hd:dt = .seq items n:=hd
 subst hc hd;refine callType_new F.called_enumerate (by decide) (F.typeCall_enumerate_1 _) (F.newCall_enumerate_1 _) (fun ob=>F.args_object_init_2 ob _) F.entry_enumerate_new (Sr l items n dct sl) ⟨hl,?_⟩;have hz:(s.heap.push { cls:=.type "tuple_iterator",data:=.fields #[.ref l,.int 0 0] }).objs.size=s.heap.objs.size+1:=Heap.size_push ..;show _∧_;rw[hz];have he:IsEnum ((s.heap.push { cls:=.type "tuple_iterator",data:=.fields #[.ref l,.int 0 0] }).push { cls:=.type "enumerate",data:=.fields #[.none,.bool false,.ref s.heap.objs.size,rawInt 0,.none,.none] }) (s.heap.objs.size+1) s.heap.objs.size 0 .none:=by
  have z:=Z6 (s.heap.push { cls:=.type "tuple_iterator",data:=.fields #[.ref l,.int 0 0] }) (o:={ cls:=.type "enumerate",data:=.fields #[.none,.bool false,.ref s.heap.objs.size,rawInt 0,.none,.none] }) rfl;rw[hz] at z;exact z
 exact⟨⟨_,he,rfl⟩,q _ he ⟨_,Zh _ (Z6 _ rfl),rfl,rfl⟩ (by rw[Heap.size_push,hz]) fun b o x=>Zh _ (Zh _ x)⟩
def Zgi(K:W.Frag)(a:Addr):It:=
 ⟨fun i H=>∃ xs x,SqT K H a xs∧xs[i]? = some x,fun i H v H'=>∃ p x,v = .ref p∧H p=none∧H'=upd H p (.tup [.int (i:Nat),x])∧∀ xs,SqT K H a xs→xs[i]? = some x,fun i H=>∃ xs,SqT K H a xs∧xs.length≤i⟩
theorem Zap{P:Program}{w:World}{K:W.Frag}{es:List Expr}{x1}{tp:Pos}(a e it:Addr)(hne:e≠it):Turn P w K (.Tuple es x1 tp) (Zgi K a) [e,it] e (fun i h=>(∃ old,IsEnum h e it i old)∧h.IsTupleIter it a i) where
  mem:=by simp
  obj:=fun i h st b hb=>by
    obtain⟨⟨old,he⟩,⟨o,ho,c,d⟩⟩:=st;rcases Ja.mp hb with rfl | hb
    · exact⟨_,he,fun v z=>by cases z⟩
    · have q:b=it:=by simpa using hb
      subst q;exact⟨o,ho,fun v z=>by rw[d] at z;cases z⟩
  keep:=fun i h h' st k=>by
    obtain⟨⟨old,he⟩,hi⟩:=st;exact⟨⟨old,k e (by simp) _ he⟩,hi.at fun o q=>k it (by simp) o q⟩
  item:=by
    intro X hP hw hK hc i pins s σ H E I hf st hg;subst hP hw hK;obtain⟨xs,x,hq,hx⟩:=hg;obtain⟨⟨old,he⟩,hit⟩:=st;obtain⟨its,rv,p,hz⟩:=I.tuple hq;obtain⟨u,hu,ru⟩:=rv.get hx;obtain⟨a0,a1,a2,a3,a4,a5⟩:=hf e (by simp);obtain⟨f0,f1,f2,f3,f4,f5⟩:=hf it (by simp);have pT:s.heap.IsTuple a its.toArray:=p;obtain⟨oi,hoi,ci,di⟩:=id hit;obtain⟨oa,hoa,ca,_⟩:=id pT;have n1:a≠it:=fun z=>by
      rw[z,hoi] at hoa;cases hoa;rw[ca] at ci;exact absurd ci (by decide)
    have n2:a≠e:=fun z=>by
      rw[z,he] at hoa;cases hoa;exact absurd (show Value.type "enumerate" = Value.type "tuple" from ca) (by decide)
    refine wpAny_pyNext_enum_itemD (Zf3 (A:=X.A.in1) (I.ok.hd hc) it a n1 its.toArray) he ⟨hit,pT⟩ (by
      have:=(Zu.mp hu).1
      simpa using this) hne (by
        intro z;rcases Ja.mp z with z | z
        · exact hne z
        · exact n2 (Jg.mp z).symm) fun x' h' tk hx' eo hst ht hsz hk=>⟨_,rfl,?_⟩
    have ex:x'=u:=by
      have z:its[i]? = some x':=by simpa using hx'
      rw[hu] at z;exact(Zy z).symm
    subst ex;refine wpAny_letOwnedTupleGo_enum eo fun h2 he2 sb2=>?_;have sb2':Heap.SameBut e h' h2:=sb2;have hn:H s.heap.objs.size=none:=I.fresh;have le:e < s.heap.objs.size:=Z3 he;have li:it < s.heap.objs.size:=Z3 hoi;have I1:Inv X pins σ (upd H s.heap.objs.size (.tup [.int (i:Nat),x])) { s with heap:=s.heap.push { cls:=.type "tuple",data:=.seq #[.int i tk,x'] },toks:=tk+1 }:=
      I.laid (t':=tk+1) (fun b ob q=>Zh _ q) (Zs _) ⟨by rw[sizeLine_eq];show 2≤_;decide,[.int i tk,x'],.cons ⟨_,rfl⟩ (.cons ru .nil),IsTup.new _ _⟩
    obtain⟨oi2,hoi2,ci2,di2⟩:=id hst.1;have hoi3:h2.get? it=some oi2:=(sb2'.2 it (Ne.symm hne)).trans hoi2;have gi:((s.heap.push { cls:=.type "tuple",data:=.seq #[.int i tk,x'] }).update it (fun _=>oi2)).get? it=some oi2:=Heap.get?_update_self _ (Zh _ hoi) (Obj.isFreed_of_fields di2);have I2:=I1.turned (h':=(s.heap.push { cls:=.type "tuple",data:=.seq #[.int i tk,x'] }).update it (fun _=>oi2)) (t':=tk+1) (it:=it) (fun b o hb q=>(Heap.get?_update_other _ _ (Ne.symm hb)).trans q) (by rw[Z8 (Jh li)];exact f0) f1 f3 f4 f5;have I3:=I2.turned (h':=h2) (t':=tk+1) (it:=e) (fun b o hb q=>by
      by_cases c:b=it
      · subst c
        have q':=gi.symm.trans q;cases q';exact hoi3
      · have q1:(s.heap.push { cls:=.type "tuple",data:=.seq #[.int i tk,x'] }).get? b=some o:=(Heap.get?_update_other _ _ (Ne.symm c)).symm.trans q
        by_cases d:b=s.heap.objs.size
        · subst d
          have q2:=(Z6 s.heap (o:={ cls:=.type "tuple",data:=.seq #[.int i tk,x'] }) rfl).symm.trans q1;cases q2;exact(sb2'.2 _ hb).trans ht
        · rw[Heap.get?_push_ne _ _ _ d] at q1
          exact(sb2'.2 b hb).trans (hk b o hb c q1)) (by rw[Z8 (Jh le)];exact a0) a1 a3 a4 a5
    refine⟨.ref s.heap.objs.size,_,I3,rfl,⟨s.heap.objs.size,x,rfl,hn,rfl,fun ys hy=>by rw[I.tuple_inj hy hq];exact hx⟩,⟨⟨_,he2⟩,oi2,hoi3,ci2,di2⟩,fun b hb=>?_⟩;rcases Ja.mp hb with rfl | hb
    · rw[Z8 (Jh le)];exact a0
    · have q:b=it:=by simpa using hb
      subst q;rw[Z8 (Jh li)];exact f0
  done:=by
    intro X hP hw hK hc i pins s σ H E I hf st hg;subst hP hw hK;obtain⟨xs,hq,hx⟩:=hg;obtain⟨⟨old,he⟩,hit⟩:=st;obtain⟨its,rv,p,hz⟩:=I.tuple hq;have pT:s.heap.IsTuple a its.toArray:=p;obtain⟨f0,f1,f2,f3,f4,f5⟩:=hf it (by simp);have hl:=rv.length;have hT:s.TypeIs (.ref e) "enumerate":=⟨_,he,rfl⟩;unfold pyNext;refine Zb (wpAny_attempt (wpAny_callSpecial?_slot (name:=Str.ofString "__next__") hT F.slot_enumerate_next (wpAny_call_entry F.slot_enumerate_next hT F.entry_enumerate_next ?_ (F.args_enumerate_next_1 _))));show wpAny _ _ (field (.ref e) 2 >>= _) _ _ _;refine Zb (wpAny_field he rfl (x:=.ref it) rfl ?_);refine Zb (Rr (I.ok.hd hc) hit pT (by simp;omega) fun h' x eb hx'=>?_);obtain⟨o,ho,hc'⟩:=hx';exact Zb (wpAny_isInstance (T:="StopIteration") (b:=true) ⟨o,ho,hc'⟩ isSubtype_stop (Ze ⟨rfl,I.turned (t':=s.toks) (fun b o hb e=>eb b o hb e) f0 f1 f3 f4 f5⟩))
  self:=fun _ _ _ _ _ st h=>by
    obtain⟨⟨old,he⟩,_⟩:=st;exact wpAny_pyIter_enum he h
section
variable{X:Cx}
def Zpr(K:W.Frag)(ta:TA):TI:=fun σ H R=>ta σ H fun vs H1=>∃ a xs,vs=[.ref a]∧SqT K H1 a xs∧R (Zgi K a) H1
theorem Kz{es:List Expr}{x1}{tp p pos:Pos}{l:Expr}{ta:TA}(hg:Gl X "enumerate")(hm:X.mg "enumerate" = none)(ha:PA X [l] ta)(hs:starEach [l] X.env=[(false,eval l X.env)]:=by rfl):PI X (.Tuple es x1 tp) (.Call (.Name "enumerate" p) [l] [] pos) (Zpr X.K ta):=by
 intro pins s σ H R I h;refine Call_ (Md I hg hm boot_enumerate (PyProof.Rows.callWith_type1 (Ub (ha pos pins s σ H _ I h) fun us s1 ⟨vs,H1,I1,r1,q1⟩=>?_) hs rfl));obtain⟨a,xs,rfl,hL,q⟩:=q1;obtain⟨u,rfl,ru⟩:=Qu r1;cases ru;obtain⟨its,rv,pT,hz⟩:=I1.tuple hL;refine Zcm (show s1.heap.IsTuple a its.toArray from pT) fun h' en li sz hk=>?_;have I2:Inv X pins σ H1 { s1 with heap:=h' }:=I1.kept (t':=s1.toks) hk;refine wpAny_pyIter_enum en ⟨s1.heap.objs.size+1,[s1.heap.objs.size+1,s1.heap.objs.size],_,Zgi X.K a,H1,rfl,I2,Zap a _ _ (Nat.succ_ne_self _),⟨⟨_,en⟩,li⟩,fun b hb=>?_,q⟩;have hb':s1.heap.objs.size≤b:=by
  rcases Ja.mp hb with rfl | hb
  ·exact Nat.le_succ _
  ·have q:b=s1.heap.objs.size:=by simpa using hb
   rw[q];exact Zs _
 exact I1.fpOk (H':=H1) hb' (I1.hok.fresh hb')
end
end L2
namespace My
open PySem L2
theorem Tr(x:Nat):∀ l:List Nat,pos x l≤l.length
 | []=>Zs _
 | y :: l=>by
  unfold pos;have:=Tr x l;split
  ·exact Nat.zero_le _
  ·exact Nat.succ_le_succ this
def rk(f:Fx)(t:Option Nat)(led c:Nat):Nat:=
 if t=some (c / 8) then 20+pos (c % 8) f.tr else if c / 8=led then 10+pos (c % 8) f.pl else 0
theorem Gn{f:Fx}(ok:f.Ok)(t:Option Nat)(c o led:Nat):Xe f t c o led=decide (rk f t led o < rk f t led c):=by
 have l1:∀ x,pos x f.tr≤8:=fun x=>Jd (Tr x _) (by rw[Ur ok.pt];exact ok.h8);have l2:∀ x,pos x f.pl≤8:=fun x=>Jd (Tr x _) (by rw[Ur ok.pp];exact ok.h8);have a1:=l1 (c % 8);have a2:=l1 (o % 8);have a3:=l2 (c % 8);have a4:=l2 (o % 8);unfold rk;by_cases s:c / 8=o / 8
 ·rw[E7 s,← s]
  by_cases c1:t=some (c / 8)
  ·rw[Zv c1,Zv c1,Zv c1,Zc (Or.inr c1),Bool.true_and]
   exact decide_eq_decide.mpr ⟨fun h=>by omega,fun h=>by omega⟩
  ·rw[Zj c1,Zj c1,Zj c1]
   by_cases c2:c / 8=led
   ·rw[Zv c2,Zv c2,Zc (Or.inl c2),Bool.true_and]
    exact decide_eq_decide.mpr ⟨fun h=>by omega,fun h=>by omega⟩
   ·rw[Zj c2,Zj c2,Zd (fun z=>z.elim c2 c1),Bool.false_and]
    exact(Zd (Nat.lt_irrefl 0)).symm
 ·rw[Ba s]
  by_cases c1:t=some (c / 8)
  ·have c2:¬ t=some (o / 8):=fun z=>s (by rw[c1] at z;exact Zy z)
   rw[Zv c1,Zv c1,Zj c2];refine(Zc ?_).symm;split<;>omega
  ·rw[Zj c1,Zj c1]
   by_cases c2:t=some (o / 8)
   ·rw[Zv c2,Zc c2]
    show(decide (c / 8=led) && false)=_;rw[Bool.and_false];refine(Zd ?_).symm;split<;>omega
   ·rw[Zj c2,Zd c2]
    show(decide (c / 8=led) && true)=_;rw[Bool.and_true];by_cases c3:c / 8=led
    ·rw[Zv c3,Zj (fun z=>s (c3.trans z.symm)),Zc c3]
     exact(Zc (by omega)).symm
    ·rw[Zj c3,Zd c3]
     exact(Zd (Nat.not_lt_zero _)).symm
theorem Zoh{f:Fx}(ok:f.Ok){t:Option Nat}{led c o:Nat}(hc:c % 8 < f.h)(ho:o % 8 < f.h)(h10:10≤rk f t led c)(e:rk f t led c=rk f t led o):c=o:=by
 by_cases ne:c=o
 ·exact ne
 ·exfalso
  have l1:∀ x,pos x f.tr≤8:=fun x=>Jd (Tr x _) (by rw[Ur ok.pt];exact ok.h8);have l2:∀ x,pos x f.pl≤8:=fun x=>Jd (Tr x _) (by rw[Ur ok.pp];exact ok.h8);have st:∀ c,10≤rk f t led c→c / 8=led∨t=some (c / 8):=fun c h=>by
   unfold rk at h;by_cases c1:t=some (c / 8)
   ·exact .inr c1
   ·rw[Zj c1] at h
    by_cases c2:c / 8=led
    ·exact .inl c2
    ·rw[Zj c2] at h
     omega
  rcases K9 ok (t:=t) (led:=led) hc ho ne (st c h10) (st o (by omega)) with z | z
  ·rw[Gn ok,decide_eq_true_eq] at z
   omega
  ·rw[Gn ok,decide_eq_true_eq] at z
   omega
theorem Zog(f:Fx)(t:Option Nat)(c:Nat):10≤rk f t (c / 8) c:=by
 unfold rk;by_cases c1:t=some (c / 8)
 ·rw[Zv c1];omega
 ·rw[Zj c1,Zv rfl];omega
def Win(f:Fx)(t:Option Nat)(led:Nat)(ys:List Nat)(h:Nat):Prop:=∃ m,ys[h]? = some m∧∀ c∈ys,c≠m→Xe f t m c led=true
structure Trk(f:Fx)(ys:List Nat):Prop where
 nd:ys.Nodup
 ht:∀ c∈ys,c % 8 < f.h
 ne:0 < ys.length
def Yk(ys:List Nat):Nat:=ys.getD 0 0 / 8
theorem Zgl{f:Fx}(ok:f.Ok){t:Option Nat}{ys:List Nat}(T:Trk f ys){h:Nat}(hh:h < ys.length)(hm:∀ j,j < ys.length→rk f t (Yk ys) (ys.getD j 0)≤rk f t (Yk ys) (ys.getD h 0)):Win f t (Yk ys) ys h:=by
 have at_:∀ i,i < ys.length→ys[i]? = some (ys.getD i 0):=fun i hi=>by rw[Zr,Zg hi];rfl
 refine⟨_,at_ h hh,fun c hc n=>?_⟩;obtain⟨j,hj,e⟩:=Ua.mp hc;have ej:ys.getD j 0=c:=by rw[Zr,Zg hj,e];rfl
 have m0:=Zog f t (ys.getD 0 0);have m1:=hm 0 T.ne;have mj:=hm j hj;rw[ej] at mj;have hmem:ys.getD h 0∈ys:=Zl (at_ h hh);rw[Gn ok,decide_eq_true_eq];rcases Nat.lt_or_eq_of_le mj with z | z
 ·exact z
 ·exact absurd (Zoh ok (T.ht _ hmem) (T.ht c hc) (Jd m0 m1) z.symm).symm n
theorem Zgm{f:Fx}{t:Option Nat}{led:Nat}{ys zs:List Nat}(hp:∀ c,c∈ys↔c∈zs){h k:Nat}(a:Win f t led ys h)(b:Win f t led zs k):ys[h]? = zs[k]?:=by
 obtain⟨m,hm,am⟩:=a;obtain⟨n,hn,bn⟩:=b;by_cases e:m=n
 ·rw[hm,hn,e]
 ·exfalso
  have x:=am n ((hp n).mpr (Zl hn)) (Ne.symm e);have y:=bn m ((hp m).mp (Zl hm)) e;exact Mx f t m n led x y
theorem Zri{ys:List Nat}(nd:ys.Nodup){i j:Nat}{c:Nat}(a:ys[i]? = some c)(b:ys[j]? = some c):i=j:=by
 obtain⟨hi,ei⟩:=Zu.mp a;obtain⟨hj,ej⟩:=Zu.mp b;have pw:=List.pairwise_iff_getElem.mp nd;rcases Nat.lt_trichotomy i j with z | z | z
 ·exact absurd (ei.trans ej.symm) (pw i j hi hj z)
 ·exact z
 ·exact absurd (ej.trans ei.symm) (pw j i hj hi z)
theorem Zgk{f:Fx}{t:Option Nat}{led:Nat}{ys:List Nat}(nd:ys.Nodup){h k:Nat}(a:Win f t led ys h)(b:Win f t led ys k):h=k:=by
 have e:=Zgm (fun _=>Iff.rfl) a b;obtain⟨m,hm,_⟩:=a;exact Zri nd hm (e.symm.trans hm)
theorem Dq{K:PySem.W.Frag}{a:Addr}{xs:List V}{g:TG}{tb:TS}{D:Ends}{σ:St}{H:Hp}(Pv:Nat→St→Hp→Prop)(h0:Pv 0 σ H)(hS:∀ i σ H,Pv i σ H→SqT K H a xs)
  (hs:∀ i x p σ H,xs[i]? = some x→Pv i σ H→H p=none→g (.ref p) σ (upd H p (.tup [.int (i:Nat),x])) fun σ2 H2=>tb { D with nx:=Pv (i+1),ct:=Pv (i+1),bk:=D.nx } σ2 H2) (hd:∀ σ H,Pv xs.length σ H→D.nx σ H) :
  ∃ W:Nat→Nat→St→Hp→Prop,(∃ m,W 0 m σ H)∧∀ i m σ H,W i m σ H →
   ((Zgi K a).stop i H∧D.nx σ H)∨((Zgi K a).go i H∧∃ N:St→Hp→Prop,(∀ σ' H',N σ' H'→∃ m',m' < m∧W (i+1) m' σ' H')∧∀ v H',(Zgi K a).yld i H v H'→g v σ H' fun σ2 H2=>tb { D with nx:=N,ct:=N,bk:=D.nx } σ2 H2):=by
 refine⟨fun i m σ H=>m=xs.length - i∧i≤xs.length∧Pv i σ H,⟨xs.length,by simp,Nat.zero_le _,h0⟩,?_⟩;rintro i m σ H ⟨rfl,hi,p⟩;have sa:=hS i σ H p;by_cases hlt:i < xs.length
 ·refine .inr ⟨⟨xs,_,sa,Zg hlt⟩,Pv (i+1),fun σ' H' p'=>⟨xs.length - (i+1),by omega,rfl,hlt,p'⟩,fun v H' y=>?_⟩
  obtain⟨q,x,rfl,hq,rfl,hx⟩:=y;exact hs i x q σ H (hx xs sa) p hq
 ·have e:i=xs.length:=by omega
  subst e;exact .inl ⟨⟨xs,sa,Zs _⟩,hd σ H p⟩
end My
namespace My
open PySem
def Y2(h:Nat):List Nat:=(List.range 32).filter h.testBit
def Xi(k h:Nat):Nat:=((List.range k).filter h.testBit).length
theorem K3(k h:Nat):Xi (k+1) h=h % 2+Xi k (h / 2):=by
 unfold Xi;rw[List.range_succ_eq_map,List.filter_cons,List.filter_map,];have e:(h.testBit ∘ Nat.succ)=(h / 2).testBit:=by
  funext i
  exact Nat.testBit_succ h i
 rw[e];have h0:h.testBit 0=decide (h % 2=1):=Nat.testBit_zero h;by_cases o:h % 2=1
 ·rw[Zv (by rw[h0];exact Zc o),Jo,Zk,o,Nat.add_comm]
 ·rw[Zj (by rw[h0,Zd o];exact Zp),Zk]
  omega
theorem K4:∀ k h:Nat,0 < h→h < 2 ^ k→Xi k (h &&& (h - 1))+1=Xi k h
 | 0,h,h0,h1=>by simp at h1;omega
 | k+1,h,h0,h1=>by
  rw[K3,K3];have e1:(h &&& (h - 1)) / 2=h / 2 &&& (h - 1) / 2:=Nat.and_div_two;have e2:(h &&& (h - 1)) % 2=0:=by
   have z:=Nat.and_mod_two_pow (a:=h) (b:=h - 1) (n:=1);rw[show(2:Nat) ^ 1=2 from rfl] at z;rw[z];rcases Nat.mod_two_eq_zero_or_one h with e | e
   ·rw[e];exact Nat.zero_and _
   ·rw[show(h - 1) % 2=0 by omega];exact Nat.and_zero _
  rw[e1,e2];rcases Nat.mod_two_eq_zero_or_one h with e | e
  ·have ih:=K4 k (h / 2) (by omega) (by rw[Nat.pow_succ] at h1;omega)
   rw[show(h - 1) / 2=h / 2 - 1 by omega,e];omega
  ·rw[show(h - 1) / 2=h / 2 by omega,Nat.and_self,e]
   omega
theorem Zim(k:Nat):Xi k 0=0:=by
 unfold Xi;rw[List.length_eq_zero_iff,List.filter_eq_nil_iff];intro a _;simp
def Zov(h s:Nat):Nat:=h &&& (255 * 2 ^ (8 * s))
theorem Zjw:∀ s < 4,∀ c < 32,Nat.testBit (255 * 2 ^ (8 * s)) c=decide (c / 8=s):=by decide +kernel
theorem Eu{h c:Nat}(hc:c∈Y2 h):c < 32:=Yg.mp (List.mem_filter.mp hc).1
end My
namespace My
theorem Zga{h i:Nat}(hi:i≤32)(hz:h / 2 ^ i=0):(List.range i).filter h.testBit=Y2 h:=by
 unfold Y2;have hl:h < 2 ^ i:=by
  rcases Nat.div_eq_zero_iff.mp hz with e | e
  ·have:0 < 2 ^ i:=Nat.pow_pos (by decide)
   omega
  ·exact e
 have e32:32=i+(32 - i):=by omega
 rw[e32,List.range_add,List.filter_append];have e:List.filter h.testBit ((List.range (32 - i)).map (i + ·))=[]:=by
  rw[List.filter_eq_nil_iff];intro a ha;obtain⟨b,_,rfl⟩:=Zz.mp ha;rw[Nat.testBit_lt_two_pow (Ji hl (Nat.pow_le_pow_right (by decide) (by omega)))];exact Zp
 rw[e,J9]
theorem Mr(h i:Nat):(List.range (i+1)).filter h.testBit=(List.range i).filter h.testBit++(if h / 2 ^ i % 2=1 then [i] else []):=by
 rw[List.range_succ,List.filter_append];have e:h.testBit i=decide (h / 2 ^ i % 2=1):=Nat.testBit_eq_decide_div_mod_eq;by_cases o:h / 2 ^ i % 2=1
 ·rw[Zv o,List.filter_cons_of_pos (by rw[e];exact Zc o),List.filter_nil]
 ·rw[Zj o,List.filter_cons_of_neg (by rw[e,Zd o];exact Zp),List.filter_nil]
theorem Zes{h i:Nat}(h32:h < 4294967296)(hi:i≤32)(hp:0 < h / 2 ^ i):i < 32:=by
 rcases Nat.lt_or_ge i 32 with e | e
 ·exact e
 ·have:i=32:=by omega
  subst this;have:h / 2 ^ 32=0:=Nat.div_eq_of_lt h32;omega
def Eo(cs:List Nat)(a:Nat):Nat:=cs.foldl (fun a c=>a ||| 2 ^ c) a
theorem Rb:∀(cs:List Nat) (a i:Nat),(Eo cs a).testBit i=(a.testBit i || decide (i∈cs))
 | [],a,i=>by simp [Eo]
 | c :: r,a,i=>by
  show(Eo r (a ||| 2 ^ c)).testBit i=_;rw[Rb r,Nat.testBit_or,Nat.testBit_two_pow];by_cases e:c=i
  ·subst e;simp
  ·have e2:i≠c:=fun z=>e z.symm
   simp [e,e2]
theorem Ep{h i:Nat}(hh:h < 4294967296):i∈Y2 h↔h.testBit i=true:=by
 unfold Y2;rw[List.mem_filter,Yg];constructor
 ·exact fun z=>z.2
 ·intro z
  refine⟨?_,z⟩;rcases Nat.lt_or_ge i 32 with e | e
  ·exact e
  ·rw[Nat.testBit_lt_two_pow (Ji hh (Nat.pow_le_pow_right (n:=2) (by decide) e))] at z
   cases z
theorem Zit{h:Nat}(hh:h < 4294967296){cs:List Nat}(hm:∀ i,i∈cs↔i∈Y2 h):Eo cs 0=h:=by
 refine Nat.eq_of_testBit_eq fun i=>?_;rw[Rb,Nat.zero_testBit,Bool.false_or];by_cases e:h.testBit i=true
 ·rw[e];exact Zc ((hm i).mpr ((Ep hh).mpr e))
 ·rw[Bool.eq_false_iff.mpr e];exact Zd fun z=>e ((Ep hh).mp ((hm i).mp z))
theorem T0(cs:List Nat)(c a:Nat):Eo (cs++[c]) a=Eo cs a ||| 2 ^ c:=by unfold Eo;rw[List.foldl_append];rfl
end My
namespace My
open PySem L2
def hN(cs:List Nat):Nat:=Eo cs 0
theorem Ej(cs:List Nat)(i:Nat):(hN cs).testBit i=decide (i∈cs):=by
 unfold hN;rw[Rb,Nat.zero_testBit,Bool.false_or]
theorem Zcf{a b:List Nat}(h:∀ i,i∈a↔i∈b):hN a=hN b:=by
 refine Nat.eq_of_testBit_eq fun i=>?_;rw[Ej,Ej];exact decide_eq_decide.mpr (h i)
theorem Sx{cs:List Nat}(h:∀ c∈cs,c < 32):hN cs < 4294967296:=by
 refine Nat.lt_pow_two_of_testBit (n:=32) (hN cs) fun i hi=>?_;rw[Ej];exact Zd fun m=>by have:=h i m;omega
theorem hN_pos{cs:List Nat}:0 < hN cs↔cs≠[]:=by
 constructor
 ·intro h z
  rw[z] at h;exact Nat.lt_irrefl 0 h
 ·intro h
  cases cs with
  | nil=>exact absurd rfl h
  | cons c l=>
   refine Nat.pos_of_ne_zero fun z=>?_;have e:=Ej (c :: l) c;rw[z,Nat.zero_testBit,Zc Zw] at e;cases e
theorem Zd0{cs:List Nat}(h:∀ c∈cs,c < 32){s:Nat}(hs:s < 4):Zov (hN cs) s=hN (cs.filter fun c=>decide (c / 8=s)):=by
 refine Nat.eq_of_testBit_eq fun i=>?_;unfold Zov;rw[Nat.testBit_and,Ej,Ej];by_cases m:i∈cs
 ·rw[Zjw s hs i (h i m),Zc m,Bool.true_and]
  refine decide_eq_decide.mpr ⟨fun z=>List.mem_filter.mpr ⟨m,Zc z⟩,fun z=>J0 (List.mem_filter.mp z).2⟩
 ·rw[Zd m,Bool.false_and]
  exact(Zd fun z=>m (List.mem_filter.mp z).1).symm
theorem Mg{cs:List Nat}(h:∀ c∈cs,c < 32)(i:Nat):i∈Y2 (hN cs)↔i∈cs:=by
 rw[Ep (Sx h),Ej,decide_eq_true_eq]
theorem Zmq(cs:List Nat)(c:Nat):hN (cs++[c])=hN cs ||| 2 ^ c:=T0 cs c 0
theorem Zmr{c:Nat}{cs:List Nat}(h:c∉cs):hN (c :: cs)=2 ^ c+hN cs:=by
 have e:hN (c :: cs)=hN cs ||| 2 ^ c:=by
  rw[← Zmq];exact Zcf fun i=>by rw[Ja,J1,Jg];exact Or.comm
 rw[e];have z:hN cs &&& 2 ^ c=0:=by
  refine Nat.eq_of_testBit_eq fun i=>?_;rw[Nat.testBit_and,Ej,Nat.testBit_two_pow,Nat.zero_testBit];by_cases q:c=i
  ·subst q
   rw[Zd h];rfl
  ·rw[Zd q,Bool.and_false]
 have k:=PyProof.Rows.nat_or_add_and (hN cs) (2 ^ c);rw[z] at k;omega
theorem Zj8:∀{cs:List Nat},cs.Nodup→(cs.map fun c=>2 ^ c).sum=hN cs
 | [],_=>rfl
 | c :: cs,nd=>by
  obtain⟨n1,n2⟩:=List.nodup_cons.mp nd;rw[List.map_cons,List.sum_cons,Zj8 n2,Zmr n1]
def Ay(s:Nat)(cs:List Nat):List Nat:=cs.filter fun c=>decide (c / 8=s)
def orL(a b:List Nat):List Nat:=if a=[] then b else a
def trL(t:Option Nat)(cs:List Nat):List Nat:=match t with | none=>[] | some u=>Ay u cs
def Bv(t:Option Nat)(led:Nat)(cs:List Nat):List Nat:=orL (Ay led cs) (orL (trL t cs) cs)
def Zep(f:Fx)(t:Option Nat)(ys cs:List Nat):List Nat:=cs.filter fun c=>ys.all fun o=>Xe f t c o (Yk ys)
def alw(d:_root_.Fin 4)(f:Fx)(t:Option Nat)(ys cs:List Nat):List Nat:=match d with
 | 0=>cs
 | 1=>orL (Ay (Yk ys) cs) cs
 | 2=>Bv t (Yk ys) cs
 | 3=>orL (Zep f t ys (Bv t (Yk ys) cs)) (Bv t (Yk ys) cs)
theorem Go{a b cs:List Nat}(ha:∀ c∈a,c∈cs)(hb:∀ c∈b,c∈cs):∀ c∈orL a b,c∈cs:=fun c hc=>by
 unfold orL at hc;by_cases z:a=[]
 ·rw[Zv z] at hc;exact hb c hc
 ·rw[Zj z] at hc;exact ha c hc
theorem Mi(s:Nat)(cs:List Nat):∀ c∈Ay s cs,c∈cs:=fun c hc=>(List.mem_filter.mp hc).1
theorem Zku(t:Option Nat)(cs:List Nat):∀ c∈trL t cs,c∈cs:=fun c hc=>by
 cases t with
 | none=>exact nomatch hc
 | some u=>exact Mi u cs c hc
theorem Vq(t:Option Nat)(led:Nat)(cs:List Nat):∀ c∈Bv t led cs,c∈cs:=Go (Mi _ _) (Go (Zku _ _) fun _ h=>h)
theorem Zef(d:_root_.Fin 4)(f:Fx)(t:Option Nat)(ys cs:List Nat):∀ c∈alw d f t ys cs,c∈cs:=by
 match d with
 | 0=>exact fun _ h=>h
 | 1=>exact Go (Mi _ _) fun _ h=>h
 | 2=>exact Vq _ _ _
 | 3=>exact Go (fun c hc=>Vq _ _ _ c (List.mem_filter.mp hc).1) (Vq _ _ _)
theorem Ax{a b:List Nat}:hN (orL a b)=if 0 < hN a then hN a else hN b:=by
 unfold orL;by_cases z:a=[]
 ·rw[Zv z,Zj fun q=>hN_pos.mp q z]
 ·rw[Zj z,Zv (hN_pos.mpr z)]
abbrev Tm:Stmt:=top 3
abbrev Ad:Stmt:=top 4
abbrev O7:Stmt:=top 6
def Zko(h:Nat):List V:=(Y2 h).map fun c=>V.int (c:Nat)
theorem Zgb(h:Nat):Zko h=vN (Y2 h):=rfl
theorem Znu(xs ys:List Nat):vN xs++vN ys=vN (xs++ys):=(Jw).symm
theorem Vy{ys:List Nat}{i:Nat}{x:V}(h:(vN ys)[i]? = some x):∃ c,ys[i]? = some c∧x = .int (c:Nat):=by
 unfold vN at h;rw[Z4] at h;cases e:ys[i]? with
 | none=>rw[e] at h;cases h
 | some c=>rw[e] at h;cases h;exact⟨c,rfl,rfl⟩
theorem Zre{x y:Int}(hx:0≤x)(hy:0≤y):Builtin.bitOr x y=((x.toNat ||| y.toNat:Nat):Int):=by
 rw[PyProof.Rows.bitOr_and,PyProof.Rows.bitAnd_pp hx hy];have:=PyProof.Rows.nat_or_add_and x.toNat y.toNat;omega
theorem Zow(a c:Nat):Builtin.bitOr (a:Int) (1 * 2 ^ ((c:Nat):Int).toNat)=((a ||| 2 ^ c:Nat):Int):=by
 have e:(1:Int) * 2 ^ ((c:Nat):Int).toNat=((2 ^ c:Nat):Int):=by
  rw[Int.one_mul,Z2,Int.natCast_pow];rfl
 rw[e,Zre (Int.natCast_nonneg _) (Int.natCast_nonneg _),Z2,Z2]
theorem Zp1(a:Nat):Builtin.bitAnd (a:Int) 1=((a % 2:Nat):Int):=by
 rw[PyProof.Rows.bitAnd_pp (Int.natCast_nonneg _) (by decide),Z2];exact congrArg _ (Nat.and_one_is_mod a)
theorem Zqt(h i:Nat):((h / 2 ^ i:Nat):Int) / 2 ^ ((1:Int).toNat)=((h / 2 ^ (i+1):Nat):Int):=by
 rw[Nat.pow_succ,← Nat.div_div_eq_div_mul];show((h / 2 ^ i:Nat):Int) / 2=_;omega
theorem Az(h n:Nat):((List.range n).filter h.testBit).length≤n:=by
 have:=List.length_filter_le h.testBit (List.range n)
 rwa [Yb] at this
section
variable{P:Program}{w:World}{K:W.Frag}{mg:Str→Option Value}{base:Heap}{f g:Addr}{fd gd:FuncData}
def N4(K:W.Frag):Sp:=fun vs H Q _=>∃ h:Nat,vs=[.int h]∧h < 4294967296∧∀ l H',Same H H'→H l=none→H' l=some (.lst (Zko h))→Q (.ref l) H'
theorem scCardsIn:FnScope ["hand","cards","card"] ["hand"] (Zm Tm):=Uw (by decide +kernel)
theorem Zb0{k:Nat}(F:Fun K "cards_in" "cards_in" Tm f fd):FnOk P w K mg base Yq (k+1) f fd ["hand"] (N4 K):=by
 refine F.ok scCardsIn (fun vs H Q E h=>?_) (fun cdv A outer s H vs Q E hr h=>?_)
 ·obtain⟨h,rfl,_⟩:=h
  rfl
 obtain⟨h,rfl,h32,q⟩:=h;refine⟨_,Zi (Jf (i:=1) scCardsIn.nd rfl (Or.inl rfl) (Qf Zf))
  (Zi (Jf (i:=2) scCardsIn.nd rfl (Or.inl rfl) Zo)
  (Zi (Kw PassesOwn.never (Jm Q8 (pv 0) Zo (Jl _))
   (Zi (Yd (Jm X7 (Jj T4 (pv 0) Zo) Zo (Jl _)) (Zn (Xx (En Yi Xv Xu Bd (pv 1) (Za (pv 2) Zf)))) Jn)
   (Zi (Jf (i:=0) scCardsIn.nd rfl (Or.inl rfl) (Jj Ziu (pv 0) Zo))
   (Zn (Jf (i:=2) scCardsIn.nd rfl (Or.inl rfl) (Jj Y8 (pv 2) Zo))))))
  (Zn (Z9 (pv 1))))),?_⟩
 refine⟨Nat.zero_le _,fun l hl=>?_⟩;refine Kg (fun σ H'=>∃ i:Nat,σ=[some (.int ((h / 2 ^ i:Nat):Int)),some (.ref l),some (.int (i:Nat))]∧i≤32∧Same H H'∧H' l=some (.lst (vN ((List.range i).filter h.testBit))))
  (fun σ _=>match σ with | [_,_,some (.int i)]=>32 - i.toNat | _=>0) ⟨0,?_,Nat.zero_le _,Je hl _,Zq⟩ (fun σ H1 z=>?_) (fun σ H1 R R' m ⟨v,e,i,j,e1,e2,b,e3,r⟩=>⟨v,e,i,j,e1,e2,b,e3,m _ _ r⟩)
 ·rw[Nat.pow_zero,Nat.div_one]
  rfl
 obtain⟨i,rfl,hi,sm,hL⟩:=z;refine⟨_,rfl,_,_,rfl,rfl,_,rfl,M3 (fun c=>?_) fun c=>?_⟩
 ·have c':(0:Int) < ((h / 2 ^ i:Nat):Int):=J0 c
  have hi':i < 32:=Zes h32 hi (by omega);refine⟨_,rfl,_,_,rfl,rfl,rfl,_,rfl,M3 (fun c1=>?_) fun c1=>?_⟩
  ·have o:h / 2 ^ i % 2=1:=by
    have c2:decide (V.int (Builtin.bitAnd ((h / 2 ^ i:Nat):Int) 1)=V.int 1)=true:=c1;rw[Zp1] at c2;have e:=J0 c2;injection e with e
    omega
   refine⟨_,rfl,.inl ⟨rfl,_,SqL.of hL⟩,_,rfl,l,_,_,rfl,rfl,hL,?_,?_⟩
   ·rw[Yh]
    exact Qz (Jd (Az h i) (by omega))
   refine⟨_,rfl,_,_,rfl,rfl,(show(0:Int)≤1 by decide),_,rfl,_,_,rfl,rfl,⟨i+1,?_,hi',N6 hl sm _,?_⟩,?_⟩
   ·show [some (V.int (((h / 2 ^ i:Nat):Int) / 2 ^ ((1:Int).toNat))),some (V.ref l),some (V.int ((i:Nat)+1))]=_
    rw[Zqt];rfl
   ·rw[Zq,Mr,Zv o,← Znu]
    rfl
   ·show 32 - (((i:Nat):Int)+1).toNat < 32 - ((i:Nat):Int).toNat
    omega
  ·have o:¬ h / 2 ^ i % 2=1:=by
    intro o;refine c1 ?_;show decide (V.int (Builtin.bitAnd ((h / 2 ^ i:Nat):Int) 1)=V.int 1)=true;rw[Zp1,o];exact Zc rfl
   refine⟨_,rfl,_,_,rfl,rfl,(show(0:Int)≤1 by decide),_,rfl,_,_,rfl,rfl,⟨i+1,?_,hi',sm,?_⟩,?_⟩
   ·show [some (V.int (((h / 2 ^ i:Nat):Int) / 2 ^ ((1:Int).toNat))),some (V.ref l),some (V.int ((i:Nat)+1))]=_
    rw[Zqt];rfl
   ·rw[Mr,Zj o,J9]
    exact hL
   ·show 32 - (((i:Nat):Int)+1).toNat < 32 - ((i:Nat):Int).toNat
    omega
 ·have c':¬ (0:Int) < ((h / 2 ^ i:Nat):Int):=of_decide_eq_false (Bool.eq_false_iff.mpr c)
  refine⟨_,rfl,q l H1 sm hl ?_⟩;have z0:h / 2 ^ i=0:=by
   generalize h / 2 ^ i=n at c';omega
  rw[hL,Zga hi z0];rfl
def B7(K:W.Frag):Sp:=fun vs H Q _=>∃(a:Addr) (cs:List Nat),vs=[.ref a]∧SqL K H a (vN cs)∧(∀ c∈cs,c < 32)∧Q (.int (Eo cs 0:Nat)) H
theorem scHandOf:FnScope ["cards","hand","card"] ["cards"] (Zm Ad):=Uw (by decide +kernel)
theorem Zfj{k:Nat}(F:Fun K "hand_of" "hand_of" Ad f fd):FnOk P w K mg base Yq (k+1) f fd ["cards"] (B7 K):=by
 refine F.ok scHandOf (fun vs H Q E h=>?_) (fun cdv A outer s H vs Q E hr h=>?_)
 ·obtain⟨a,cs,rfl,_⟩:=h
  rfl
 obtain⟨a,cs,rfl,hS,hc,q⟩:=h;refine⟨_,Zi (Jf (i:=1) scHandOf.nd rfl (Or.inl rfl) Zo)
  (Zi (Ux PassesOwn.never rfl (Y4 (pv 0)) (Jp (i:=2) scHandOf.nd rfl (Or.inl rfl)) (Zn (Jf (i:=1) scHandOf.nd rfl (Or.inl rfl) (Jj Zdm (pv 1) (Jj T1 Zo (pv 2))))))
  (Zn (Z9 (pv 1)))),?_⟩
 refine⟨_,rfl,a,rfl,⟨_,hS⟩,Xg (xs:=vN cs) (fun i σ H2=>H2=H∧∃ x,σ=[some (.ref a),some (.int (Eo (cs.take i) 0:Nat)),x]) ⟨rfl,_,rfl⟩ (fun i σ H2 _ z=>z.1 ▸ hS) (fun i x σ H2 hx z=>?_) (fun σ H2 z=>?_)⟩
 ·obtain⟨rfl,y,rfl⟩:=z
  obtain⟨c,hi,rfl⟩:=Vy hx;have c32:=hc c (Zl hi);refine⟨_,rfl,_,rfl,_,_,rfl,rfl,⟨by omega,by omega,by decide⟩,_,_,rfl,rfl,rfl,some (.int (c:Nat)),?_⟩;show [some (V.ref a),some (V.int (Builtin.bitOr ((Eo (cs.take i) 0:Nat):Int) (1 * 2 ^ ((c:Nat):Int).toNat))),some (V.int (c:Nat))]=_;rw[Zow];have e:cs.take (i+1)=cs.take i++[c]:=by
   rw[List.take_add_one,hi];rfl
  rw[e,T0]
 ·obtain⟨rfl,y,rfl⟩:=z
  refine⟨_,rfl,?_⟩;rw[Yh,List.take_length];exact q
def B5(K:W.Frag):Sp:=fun vs H Q _=>∃ h s:Nat,vs=[.int h,.int s]∧h < 4294967296∧s < 4∧Q (.int (Zov h s)) H
theorem Zhk:FnScope ["hand","suit"] ["hand","suit"] (Zm O7):=Uw (by decide +kernel)
theorem Zfe{k:Nat}{t1 t2:Tok}(F:Fun K "of_suit" "of_suit" O7 f fd)(mL:mg "LOWEST_SUIT" = some (.int 255 t1))(mH:mg "HEIGHTS" = some (.int 8 t2)):FnOk P w K mg base Yq (k+1) f fd ["hand","suit"] (B5 K):=by
 refine F.ok Zhk (fun vs H Q E h=>?_) (fun cdv A outer s H vs Q E hr h=>?_)
 ·obtain⟨h,s,rfl,_⟩:=h
  rfl
 obtain⟨h,u,rfl,h32,hu,q⟩:=h;refine⟨_,Zn (Z9 (Jj T4 (pv 0) (Jj T1 (Yy (v:=.int 255) rfl mL ⟨_,rfl⟩) (Jj Xr (Yy (v:=.int 8) rfl mH ⟨_,rfl⟩) (pv 1))))),?_⟩;refine⟨_,rfl,_,rfl,_,_,rfl,rfl,.inl ⟨by decide,by decide⟩,_,_,rfl,rfl,⟨by omega,by omega,by decide⟩,_,_,rfl,rfl,?_⟩;have e:((8:Int) * (u:Nat)).toNat=8 * u:=by omega
 have e2:(255:Int) * 2 ^ (8 * u)=((255 * 2 ^ (8 * u):Nat):Int):=by rw[Int.natCast_mul,Int.natCast_pow];rfl
 show Q (V.int (Builtin.bitAnd ((h:Nat):Int) ((255:Int) * 2 ^ ((8:Int) * (u:Nat)).toNat))) H;rw[e,e2,PyProof.Rows.bitAnd_pp (Int.natCast_nonneg _) (Int.natCast_nonneg _)];exact q
end
end My
namespace L2
open PySem PySem.Spec PyProof.Rows
theorem Ze1{X:Cx}{a:Expr}{ta:TE}(ha:PE X a ta)(he:∀ whole,isTrue a X.env whole=(do let v ← whole;standAt a.pos;holding [v] (truthy v))):PT X a (Zm8 ta):=by
 intro pins s σ H Q I h;exact isTrue_plain (Ub (ha pins s σ H _ I h) fun v s1 ⟨x,H1,I1,r1,k,e,q1⟩=>Zgu pins s1 σ H1 x v Q I1 r1 ⟨k,by subst e;rfl,q1⟩) (he _)
theorem Nw{K:W.Frag}{tt:TT}{te:TE}{σ0:St}{H1:Hp}{Q:V→Hp→Prop}{a:Addr}{xs:List V}(p:V→Bool)(f:V→V)(hS:SqT K H1 a xs)(hn:xs.length≤sizeLine)
  (hT:∀ x H,x∈xs→Same H1 H→∀ R:Bool→Hp→Prop,(∀ H',Same H H'→R (p x) H')→tt (σ0.set 0 (some x)) H R)
  (hE:∀ x H,x∈xs→p x=true→Same H1 H→∀ R:V→Hp→Prop,(∀ H',Same H H'→R (f x) H')→te (σ0.set 0 (some x)) H R)
  (hQ:∀ l H,Same H1 H→H1 l=none→H l=some (.lst ((xs.filter p).map f))→Q (.ref l) H):Ey (Qw 0) tt te σ0 (Itt K a) H1 Q:=by
 have at_:∀ i,i < xs.length→xs[i]? = some (xs.getD i .non):=fun i h=>by
  rw[Zr,Zg h];rfl
 have mem:∀ i,i < xs.length→xs.getD i .non∈xs:=fun i h=>Zl (at_ i h);refine Vr xs.length (fun i=>xs.getD i .non) (fun i=>p (xs.getD i .non)) (fun i=>f (xs.getD i .non)) hn (fun i H sm h=>⟨xs,_,sm.seqT hS,at_ i h⟩) (fun H sm=>⟨xs,sm.seqT hS,Zs _⟩)
  (fun i H x H' sm h y=>⟨y.1,?_⟩) (fun i H h sm=>hT _ H (mem i h) sm) (fun i H h hp sm=>hE _ H (mem i h) hp sm) (fun l H sm hl hL=>hQ l H sm hl ?_)
 ·have e:=y.2 xs (sm.seqT hS)
  rw[at_ i h] at e;exact(Zy e).symm
 ·rw[hL,Qi]
end L2
namespace My
open PySem L2
abbrev Th:Stmt:=top 51
abbrev Zoe:Stmt:=top 52
abbrev Vc:Stmt:=top 53
abbrev Ae:Stmt:=Yn (top 54) 1
abbrev V7:Stmt:=Yn (top 55) 1
abbrev Zbj:Stmt:=Yn (top 56) 1
abbrev Gj:Stmt:=Yn (top 57) 1
abbrev Zoc:Stmt:=Yn (top 67) 5
theorem Zec{ys:List Nat}{i:Nat}(h:i < ys.length):Xs (vN ys) (i:Nat)=some (.int ((ys.getD i 0:Nat):Int)):=by
 have e:(vN ys)[i]? = some (.int ((ys.getD i 0:Nat):Int)):=by
  unfold vN;rw[Z4,Zg h,Zr,Zg h];rfl
 exact Qy e
theorem gtz(n:Nat):decide ((0:Int) < ((n:Nat):Int))=decide (0 < n):=decide_eq_decide.mpr ⟨fun h=>by omega,fun h=>by omega⟩
structure Beg(f:Fx)(ys cs:List Nat):Prop where
 ne:0 < ys.length
 len:ys.length≤32
 ys8:∀ c∈ys,c / 8 < 4∧c % 8 < f.h
 cs8:∀ c∈cs,c < 32∧c % 8 < f.h
theorem Beg.c32{f:Fx}{ys cs:List Nat}(B:Beg f ys cs):∀ c∈cs,c < 32:=fun c h=>(B.cs8 c h).1
theorem Beg.led{f:Fx}{ys cs:List Nat}(B:Beg f ys cs):Yk ys < 4:=by
 have m:ys.getD 0 0∈ys:=by
  rw[Zr,Zg B.ne];exact Y6 _
 exact(B.ys8 _ m).1
theorem Beg.sub{f:Fx}{ys cs ds:List Nat}(B:Beg f ys cs)(h:∀ c∈ds,c∈cs):Beg f ys ds:=⟨B.ne,B.len,B.ys8,fun c hc=>B.cs8 c (h c hc)⟩
section
variable{P:Program}{w:World}{K:W.Frag}{mg:Str→Option Value}{base:Heap}{f g:Addr}{fd gd:FuncData}
def Zcz(K:W.Frag):Sp:=fun vs H Q _=>∃(p:Addr) (fx:Fx) (ys cs:List Nat),vs=[.int (hN cs:Nat),.ref p]∧SqT K H p (vN ys)∧Beg fx ys cs∧Q (.int (hN (Ay (Yk ys) cs):Nat)) H
theorem Zqx:FnScope ["hand","trick"] ["hand","trick"] (Zm Th):=Uw (by decide +kernel)
theorem Zo5{k:Nat}{f1:Addr}{d1:FuncData}{t1:Tok}(F:Fun K "of_led_suit" "of_led_suit" Th f fd)(LO:Lib P w K mg base k "of_suit" ["hand","suit"] (B5 K) f1 d1)(mH:mg "HEIGHTS" = some (.int 8 t1)):FnOk P w K mg base Yq (k+1) f fd ["hand","trick"] (Zcz K):=by
 refine F.ok Zqx (fun vs H Q E h=>?_) (fun cdv A outer s H vs Q E hr h=>?_)
 ·obtain⟨p,fx,ys,cs,rfl,_⟩:=h
  rfl
 obtain⟨p,fx,ys,cs,rfl,hT,B,q⟩:=h;refine⟨_,Zn (Z9 (Z0 LO.ok hr rfl LO.mg LO.kp LO.bd .nil Jb (Za (pv 0) (Za (Jj Xk (Jr Js (pv 1) Zo (fun _ _=>rfl)) (Yy (v:=.int 8) rfl mH ⟨_,rfl⟩)) Zf)))),?_⟩;have e0:(((ys.getD 0 0:Nat):Int) / 8)=((Yk ys:Nat):Int):=by unfold Yk;omega
 refine⟨_,rfl,_,rfl,p,_,_,_,rfl,rfl,hT,Zec (i:=0) B.ne,_,_,rfl,rfl,⟨by decide,by decide⟩,hN cs,Yk ys,(show [V.int (hN cs:Nat),V.int (((ys.getD 0 0:Nat):Int) / 8)]=_ by rw[e0]),Sx B.c32,B.led,?_⟩;rw[Zd0 B.c32 B.led];exact q
def Rl(t:Option Nat):Prop:=∀ u,t=some u→u < 4
def Zc4(K:W.Frag)(CG:Addr):Sp:=fun vs H Q _=>∃(gm x p:Addr) (t:Option Nat) (fx:Fx) (ys cs:List Nat),vs=[.ref gm,.int (hN cs:Nat),.ref p]∧IsGam CG x (Rz t) H gm∧Rl t∧SqT K H p (vN ys)∧Beg fx ys cs∧Q (.int (hN (Bv t (Yk ys) cs):Nat)) H
abbrev Zsx:List Str:=["game","hand","trick","followers","trumps"]
theorem scFoc:FnScope Zsx ["game","hand","trick"] (Zm Zoe):=Uw (by decide +kernel)
theorem Zo8{k:Nat}{f1 f2 CG:Addr}{d1 d2:FuncData}(F:Fun K "followed_or_cut" "followed_or_cut" Zoe f fd)(CGm:GamC K mg CG)(LL:Lib P w K mg base k "of_led_suit" ["hand","trick"] (Zcz K) f1 d1)(LO:Lib P w K mg base k "of_suit" ["hand","suit"] (B5 K) f2 d2) :
  FnOk P w K mg base Yq (k+1) f fd ["game","hand","trick"] (Zc4 K CG):=by
 refine F.ok scFoc (fun vs H Q E h=>?_) (fun cdv A outer s H vs Q E hr h=>?_)
 ·obtain⟨gm,x,p,t,fx,ys,cs,rfl,_⟩:=h
  rfl
 obtain⟨gm,x,p,t,fx,ys,cs,rfl,⟨dg,hG⟩,hb,hT,B,q⟩:=h;refine⟨_,Zi (Jf (i:=3) scFoc.nd rfl (Or.inl rfl) (Z0 LL.ok hr rfl LL.mg LL.kp LL.bd .nil Jb (Za (pv 1) (Za (pv 2) Zf))))
  (Zi (Yd (Jm Q8 (pv 3) Zo (Jl _)) (Zn (Z9 (pv 3))) Jn)
  (Zi (Yd (Jm T2 (Jt (pv 0) rfl) Qe (Jl _)) (Zn (Z9 (pv 1))) Jn)
  (Zi (Jf (i:=4) scFoc.nd rfl (Or.inl rfl) (Z0 LO.ok hr rfl LO.mg LO.kp LO.bd .nil Jb (Za (pv 1) (Za (Jt (pv 0) rfl) Zf))))
  (Zn (Z9 (Em (Jm Q8 (pv 4) Zo (Jl _)) (pv 4) (pv 1))))))),?_⟩
 refine⟨_,rfl,_,rfl,p,fx,ys,cs,rfl,hT,B,?_⟩;refine⟨_,rfl,_,_,rfl,rfl,_,rfl,?_⟩;refine X1 (gtz _) ?_;unfold Bv at q;rw[Ax] at q;by_cases c1:0 < hN (Ay (Yk ys) cs)
 ·rw[Zc c1]
  rw[Zv c1] at q;exact Yt ⟨_,rfl,q⟩
 rw[Zd c1];rw[Zj c1,Ax] at q;refine J3 ⟨_,rfl,gm,CG,dg,_,_,rfl,hG,CGm.cl,CGm.nU,Q0 _ _,rfl,_,rfl,?_⟩;cases t with
 | none=>
  have z:hN (trL none cs)=0:=rfl;rw[z,Zj (Nat.lt_irrefl 0)] at q;exact Yt ⟨_,rfl,q⟩
 | some u=>
  refine J3 ⟨_,rfl,_,rfl,gm,CG,dg,_,_,rfl,hG,CGm.cl,CGm.nU,Q0 _ _,hN cs,u,rfl,Sx B.c32,hb u rfl,?_⟩;rw[Zd0 B.c32 (hb u rfl)];have e:hN (trL (some u) cs)=hN (cs.filter fun c=>decide (c / 8=u)):=rfl;rw[e] at q;refine⟨_,rfl,_,_,rfl,rfl,_,rfl,?_⟩;refine X1 (gtz _) ?_;by_cases c2:0 < hN (cs.filter fun c=>decide (c / 8=u))
  ·rw[Zc c2]
   rw[Zv c2] at q;exact Yt ⟨_,rfl,q⟩
  ·rw[Zd c2]
   rw[Zj c2] at q;exact J3 ⟨_,rfl,q⟩
def ovV(fx:Fx)(t:Option Nat)(c led:Nat)(x:V):Bool:=match x with | .int i=>Xe fx t c i.toNat led | _=>false
theorem Zip(fx:Fx)(t:Option Nat)(c led:Nat)(ys:List Nat):(((vN ys).filter fun _=>true).map fun x=>V.bl (ovV fx t c led x))=(ys.map fun o=>Xe fx t c o led).map V.bl:=by
 rw[List.filter_eq_self.mpr fun _ _=>rfl];unfold vN;rw[Z7,Z7];refine J2 fun o _=>?_;show V.bl (Xe fx t c (((o:Nat):Int).toNat) led)=V.bl (Xe fx t c o led);rw[Z2]
def Za0(K:W.Frag)(CT CG:Addr):Sp:=fun vs H Q _=>∃(gm x p:Addr) (t:Option Nat) (fx:Fx) (ys:List Nat) (c:Nat),vs=[.ref gm,.int (c:Nat),.ref p]∧fx.Ok∧IsGam CG x (Rz t) H gm∧IsTab CT fx H x∧SqT K H p (vN ys)∧Beg fx ys []∧c % 8 < fx.h∧∀ H',Same H H'→Q (.bl (ys.all fun o=>Xe fx t c o (Yk ys))) H'
abbrev Zno:List Str:=["game","card","trick","led"]
abbrev nGoesB:List Str:=["other","game","card","led"]
theorem scGoes:FnScope Zno ["game","card","trick"] (Zm Vc):=Uw (by decide +kernel)
theorem Zmb{k:Nat}{CT CG m3:Addr}{e3:FuncData}{t1:Tok}(F:Fun K "goes_over_all" "goes_over_all" Vc f fd)(CGm:GamC K mg CG)(MV:Meth K CG "is_over" m3)(FV:FnOk P w K mg base Yq k m3 e3 Rp (Oj CT CG))(BV:Binds K e3 Rp [])(mH:mg "HEIGHTS" = some (.int 8 t1))(mA:mg "all" = none) :
  FnOk P w K mg base Yq (k+1) f fd ["game","card","trick"] (Za0 K CT CG):=by
 refine F.ok scGoes (fun vs H Q E h=>?_) (fun cdv A outer s H vs Q E hr h=>?_)
 ·obtain⟨gm,x,p,t,fx,ys,c,rfl,_⟩:=h
  rfl
 obtain⟨gm,x,p,t,fx,ys,c,rfl,ok,hg,ht,hT,B,hc,q⟩:=h;refine⟨_,Zi (Jf (i:=3) scGoes.nd rfl (Or.inr rfl) (Jj Xk (Jr Js (pv 2) Zo (fun _ _=>rfl)) (Yy (v:=.int 8) rfl mH ⟨_,rfl⟩)))
  (Zn (Z9 (Jk (Bh rfl) rfl mA PyProof.Rows.boot_all (Za (Ug nGoesB [none,some 0,some 1,some 3] rfl (Blk.by (sc:=Zm Vc) (N0:=Zno) rfl rfl (by decide +kernel)) (V9 (pv 2)) (fun C s₀ H₀ ex=>Jp (i:=0) (show nGoesB.Nodup by decide +kernel) rfl (Or.inl rfl)) (fun C s₀ H₀ ex=>U4)
   (fun C s₀ H₀ ex=>Uf (pv 1) CGm.cl MV FV hr BV .nil Jb (Za (pv 2) (Za (pv 0) (Za (pv 3) Zf))))) Zf)))),?_⟩
 have e0:(((ys.getD 0 0:Nat):Int) / 8)=((Yk ys:Nat):Int):=by unfold Yk;omega
 refine⟨_,rfl,p,_,_,_,rfl,rfl,hT,Zec (i:=0) B.ne,_,_,rfl,rfl,⟨by decide,by decide⟩,?_⟩;have h32:=B.len;refine⟨_,rfl,p,rfl,⟨_,hT⟩,Nw (K:=K) (xs:=vN ys) (fun _=>true) (fun x=>.bl (ovV fx t c (Yk ys) x)) hT (Yf _ (by rw[Yh];omega)) (fun y H3 hy sm R hR=>hR H3 (Same.refl H3)) (fun y H3 hy hp sm R hR=>?_) (fun lq H4 s4 hlq hL4=>?_)⟩
 ·obtain⟨o,ho,rfl⟩:=Zz.mp hy
  obtain⟨dg,hG⟩:=id (hg.same sm);refine⟨_,rfl,gm,dg,_,rfl,hG,Er _ _ _ (by decide +kernel) (by decide +kernel),_,rfl,_,rfl,_,rfl,gm,x,t,fx,c,o,Yk ys,(show [V.ref gm,V.int (c:Nat),V.int (o:Nat),V.int (((ys.getD 0 0:Nat):Int) / 8)]=_ by rw[e0]),ok,hg.same sm,ht.same sm,hc,(B.ys8 o ho).2,fun H5 s5=>?_⟩;have r:=hR H5 s5;have e:ovV fx t c (Yk ys) (.int (o:Nat))=Xe fx t c o (Yk ys):=by
   show Xe fx t c (((o:Nat):Int).toNat) (Yk ys)=_;rw[Z2]
  rw[e] at r;exact r
 ·rw[Zip] at hL4
  refine⟨lq,_,rfl,SqL.of hL4,?_⟩;have z:=q H4 s4;rw[List.all_map];exact z
def Zhc(K:W.Frag)(CT CG:Addr)(i:_root_.Fin 4):Sp:=fun vs H Q _=>∃(a gm x p:Addr) (t:Option Nat) (fx:Fx) (ys cs:List Nat),vs=[.ref a,.ref gm,.int (hN cs:Nat),.ref p]∧fx.Ok∧IsGam CG x (Rz t) H gm∧IsTab CT fx H x∧Rl t∧SqT K H p (vN ys)∧Beg fx ys cs∧∀ H',Same H H'→Q (.int (hN (alw i fx t ys cs):Nat)) H'
abbrev pAl:List Str:=["self","game","hand","trick"]
theorem Zhm:FnScope pAl pAl (Zm Ae):=Uw (by decide +kernel)
theorem Zfk{k:Nat}{CT CG:Addr}(F:Fun K "allowed" "Free.allowed" Ae f fd):FnOk P w K mg base Yq (k+1) f fd pAl (Zhc K CT CG 0):=by
 refine F.ok Zhm (fun vs H Q E h=>?_) (fun cdv A outer s H vs Q E hr h=>?_)
 ·obtain⟨a,gm,x,p,t,fx,ys,cs,rfl,_⟩:=h
  rfl
 obtain⟨a,gm,x,p,t,fx,ys,cs,rfl,ok,hg,ht,hb,hT,B,q⟩:=h;exact⟨_,Zn (Z9 (pv 2)),_,rfl,q H (Same.refl H)⟩
abbrev Zfq:List Str:=["self","game","hand","trick","followers"]
theorem scFollowAl:FnScope Zfq pAl (Zm V7):=Uw (by decide +kernel)
theorem Sg{k:Nat}{CT CG f1:Addr}{d1:FuncData}(F:Fun K "allowed" "Follow.allowed" V7 f fd)(LL:Lib P w K mg base k "of_led_suit" ["hand","trick"] (Zcz K) f1 d1):FnOk P w K mg base Yq (k+1) f fd pAl (Zhc K CT CG 1):=by
 refine F.ok scFollowAl (fun vs H Q E h=>?_) (fun cdv A outer s H vs Q E hr h=>?_)
 ·obtain⟨a,gm,x,p,t,fx,ys,cs,rfl,_⟩:=h
  rfl
 obtain⟨a,gm,x,p,t,fx,ys,cs,rfl,ok,hg,ht,hb,hT,B,q⟩:=h;refine⟨_,Zi (Jf (i:=4) scFollowAl.nd rfl (Or.inl rfl) (Z0 LL.ok hr rfl LL.mg LL.kp LL.bd .nil Jb (Za (pv 2) (Za (pv 3) Zf))))
  (Zn (Z9 (Em (Jm Q8 (pv 4) Zo (Jl _)) (pv 4) (pv 2)))),?_⟩
 refine⟨_,rfl,_,rfl,p,fx,ys,cs,rfl,hT,B,?_⟩;refine⟨_,rfl,_,_,rfl,rfl,_,rfl,?_⟩;refine X1 (gtz _) ?_;have q':=q H (Same.refl H);have e:hN (alw 1 fx t ys cs)=if 0 < hN (Ay (Yk ys) cs) then hN (Ay (Yk ys) cs) else hN cs:=Ax
 rw[e] at q';by_cases c1:0 < hN (Ay (Yk ys) cs)
 ·rw[Zc c1]
  rw[Zv c1] at q';exact Yt ⟨_,rfl,q'⟩
 ·rw[Zd c1]
  rw[Zj c1] at q';exact J3 ⟨_,rfl,q'⟩
theorem Zlc:FnScope pAl pAl (Zm Zbj):=Uw (by decide +kernel)
theorem Zjg{k:Nat}{CT CG f1:Addr}{d1:FuncData}(F:Fun K "allowed" "Cut.allowed" Zbj f fd)(LF:Lib P w K mg base k "followed_or_cut" ["game","hand","trick"] (Zc4 K CG) f1 d1):FnOk P w K mg base Yq (k+1) f fd pAl (Zhc K CT CG 2):=by
 refine F.ok Zlc (fun vs H Q E h=>?_) (fun cdv A outer s H vs Q E hr h=>?_)
 ·obtain⟨a,gm,x,p,t,fx,ys,cs,rfl,_⟩:=h
  rfl
 obtain⟨a,gm,x,p,t,fx,ys,cs,rfl,ok,hg,ht,hb,hT,B,q⟩:=h;exact⟨_,Zn (Z9 (Z0 LF.ok hr rfl LF.mg LF.kp LF.bd .nil Jb (Za (pv 1) (Za (pv 2) (Za (pv 3) Zf))))),_,rfl,_,rfl,_,rfl,gm,x,p,t,fx,ys,cs,rfl,hg,hb,hT,B,q H (Same.refl H)⟩
abbrev Zdp:List Str:=["self","game","hand","trick","choice","beaters"]
abbrev nBeatB:List Str:=["card","game","trick"]
theorem scBeatAl:FnScope Zdp pAl (Zm Gj):=Uw (by decide +kernel)
def Znw(fx:Fx)(t:Option Nat)(ys:List Nat)(x:V):Bool:=match x with | .int i=>ys.all fun o=>Xe fx t i.toNat o (Yk ys) | _=>false
theorem Zeo(fx:Fx)(t:Option Nat)(ys ds:List Nat):(((vN ds).filter (Znw fx t ys)).map fun x=>x)=vN (ds.filter fun c=>ys.all fun o=>Xe fx t c o (Yk ys)):=by
 rw[List.map_id'];unfold vN;rw[List.filter_map];refine congrArg _ (List.filter_congr fun c _=>?_);show(ys.all fun o=>Xe fx t (((c:Nat):Int).toNat) o (Yk ys))=_;rw[Z2]
theorem Zfo{k:Nat}{CT CG f1 f2 f3 f4:Addr}{d1 d2 d3 d4:FuncData}(F:Fun K "allowed" "Beat.allowed" Gj f fd)(LF:Lib P w K mg base k "followed_or_cut" ["game","hand","trick"] (Zc4 K CG) f1 d1)
  (LH:Lib P w K mg base k "hand_of" ["cards"] (B7 K) f2 d2) (LI:Lib P w K mg base k "cards_in" ["hand"] (N4 K) f3 d3) (LG:Lib P w K mg base k "goes_over_all" ["game","card","trick"] (Za0 K CT CG) f4 d4):FnOk P w K mg base Yq (k+1) f fd pAl (Zhc K CT CG 3):=by
 refine F.ok scBeatAl (fun vs H Q E h=>?_) (fun cdv A outer s H vs Q E hr h=>?_)
 ·obtain⟨a,gm,x,p,t,fx,ys,cs,rfl,_⟩:=h
  rfl
 obtain⟨a,gm,x,p,t,fx,ys,cs,rfl,ok,hg,ht,hb,hT,B,q⟩:=h;refine⟨_,Zi (Jf (i:=4) scBeatAl.nd rfl (Or.inl rfl) (Z0 LF.ok hr rfl LF.mg LF.kp LF.bd .nil Jb (Za (pv 1) (Za (pv 2) (Za (pv 3) Zf)))))
  (Zi (Jf (i:=5) scBeatAl.nd rfl (Or.inl rfl) (Z0 LH.ok hr rfl LH.mg LH.kp LH.bd .nil Jb (Za (Ug nBeatB [none,some 1,some 3] rfl (Blk.by (sc:=Zm Gj) (N0:=Zdp) rfl rfl (by decide +kernel)) (Y4 (Z0 LI.ok hr rfl LI.mg LI.kp LI.bd .nil Jb (Za (pv 4) Zf))) (fun C s₀ H₀ ex=>Jp (i:=0) (show nBeatB.Nodup by decide +kernel) rfl (Or.inl rfl))
   (fun C s₀ H₀ ex=>Zie (Ze1 (Z0 LG.ok hr rfl LG.mg LG.kp LG.bd .nil Jb (Za (pv 1) (Za (pv 0) (Za (pv 2) Zf)))) (fun _=>rfl))) (fun C s₀ H₀ ex=>pv 0)) Zf)))
  (Zn (Z9 (Em (Jm Q8 (pv 5) Zo (Jl _)) (pv 5) (pv 4))))),?_⟩
 have hsub:=Vq t (Yk ys) cs;have B2:=B.sub hsub;refine⟨_,rfl,_,rfl,_,rfl,gm,x,p,t,fx,ys,cs,rfl,hg,hb,hT,B,?_⟩;refine⟨_,rfl,hN (Bv t (Yk ys) cs),rfl,Sx B2.c32,fun l1 H1 s1 hl1 hL1=>?_⟩;rw[Zgb] at hL1;have hmem:=Mg B2.c32;have hlen:(Y2 (hN (Bv t (Yk ys) cs))).length≤32:=by
  unfold Y2;exact Jd (List.length_filter_le _ _) (by rw[Yb];exact Zs _)
 refine⟨l1,rfl,⟨_,SqL.of hL1⟩,Qj (K:=K) (xs:=vN (Y2 (hN (Bv t (Yk ys) cs)))) (Znw fx t ys) (fun y=>y) (SqL.of hL1) (Yf _ (by rw[Yh];omega)) (fun y H3 hy sm R hR=>?_) (fun y H3 hy hp sm R hR=>⟨_,rfl,hR H3 (Same.refl H3)⟩) (fun lq H4 s4 hlq hL4=>?_)⟩
 ·obtain⟨c,hc,rfl⟩:=Zz.mp hy
  have s3:=s1.trans sm;have c8:=(B2.cs8 c ((hmem c).mp hc)).2;refine⟨_,rfl,_,rfl,_,rfl,gm,x,p,t,fx,ys,c,rfl,ok,hg.same s3,ht.same s3,s3.seqT hT,B.sub (fun c hc=>nomatch hc),c8,fun H5 s5=>⟨_,rfl,?_⟩⟩;have r:=hR H5 s5;have e:Znw fx t ys (.int (c:Nat))=ys.all fun o=>Xe fx t c o (Yk ys):=by
   show(ys.all fun o=>Xe fx t (((c:Nat):Int).toNat) o (Yk ys))=_;rw[Z2]
  rw[e] at r;exact r
 ·rw[Zeo] at hL4
  refine⟨lq,_,rfl,SqL.of hL4,fun c hc=>Eu (List.mem_filter.mp hc).1,?_⟩;have eo:Eo ((Y2 (hN (Bv t (Yk ys) cs))).filter fun c=>ys.all fun o=>Xe fx t c o (Yk ys)) 0=hN (Zep fx t ys (Bv t (Yk ys) cs)):=by
   refine Zcf fun i=>?_;unfold Zep;rw[List.mem_filter,List.mem_filter,hmem]
  rw[eo];refine⟨_,rfl,_,_,rfl,rfl,_,rfl,?_⟩;refine X1 (gtz _) ?_;have q':=q H4 (s1.trans s4);have e:hN (alw 3 fx t ys cs)=if 0 < hN (Zep fx t ys (Bv t (Yk ys) cs)) then hN (Zep fx t ys (Bv t (Yk ys) cs)) else hN (Bv t (Yk ys) cs):=Ax
  rw[e] at q';by_cases c1:0 < hN (Zep fx t ys (Bv t (Yk ys) cs))
  ·rw[Zc c1]
   rw[Zv c1] at q';exact Yt ⟨_,rfl,q'⟩
  ·rw[Zd c1]
   rw[Zj c1] at q';exact J3 ⟨_,rfl,q'⟩
end
abbrev O0:Stmt:=Yn (top 67) 4
theorem Zmu{ys:List Nat}{i c:Nat}(h:ys[i]? = some c):ys.getD i 0=c:=by rw[Zr,h];rfl
theorem Zrn{ys:List Nat}{i c:Nat}(h:ys[i]? = some c):i < ys.length:=(Zu.mp h).1
section
variable{P:Program}{w:World}{K:W.Frag}{mg:Str→Option Value}{base:Heap}{f g:Addr}{fd gd:FuncData}
def Gz(K:W.Frag)(CT CG:Addr):Sp:=fun vs H Q _=>∃(gm x p:Addr) (t:Option Nat) (f:Fx) (ys:List Nat),vs=[.ref gm,.ref p]∧f.Ok∧IsGam CG x (Rz t) H gm∧IsTab CT f H x∧SqT K H p (vN ys)∧Trk f ys∧∀ h H',Same H H'→Win f t (Yk ys) ys h→Q (.int (h:Nat)) H'
abbrev Zmh:List Str:=["self","trick","led","highest","number","card"]
theorem scWinner:FnScope Zmh ["self","trick"] (Zm O0):=Uw (by decide +kernel)
theorem Ze8{k:Nat}{CT CG m3:Addr}{e3:FuncData}{t1:Tok}(F:Fun K "winner" "Game.winner" O0 f fd)(CGm:GamC K mg CG)(MV:Meth K CG "is_over" m3)(FV:FnOk P w K mg base Yq k m3 e3 Rp (Oj CT CG))(BV:Binds K e3 Rp [])(mH:mg "HEIGHTS" = some (.int 8 t1))(me:mg "enumerate" = none) :
  FnOk P w K mg base Yq (k+1) f fd ["self","trick"] (Gz K CT CG):=by
 refine F.ok scWinner (fun vs H Q E h=>?_) (fun cdv A outer s H vs Q E hr h=>?_)
 ·obtain⟨gm,x,p,t,fx,ys,rfl,_⟩:=h
  rfl
 obtain⟨gm,x,p,t,fx,ys,rfl,ok,hg,ht,hT,T,q⟩:=h;refine⟨_,Zi (Jf (i:=2) scWinner.nd rfl (Or.inl rfl) (Jj Xk (Jr Js (pv 1) Zo (fun _ _=>rfl)) (Yy (v:=.int 8) rfl mH ⟨_,rfl⟩)))
  (Zi (Jf (i:=3) scWinner.nd rfl (Or.inl rfl) Zo)
  (Zi (Ux PassesOwn.never rfl (Kz rfl me (Za (pv 1) Zf)) (Ra rfl (Yj (Jp (i:=4) scWinner.nd rfl (Or.inl rfl)) (Yj (Jp (i:=5) scWinner.nd rfl (Or.inl rfl)) Ql)))
   (Zn (Yd (Jy (Uf (pv 0) CGm.cl MV FV hr BV .nil Jb (Za (pv 5) (Za (Jr Js (pv 1) (pv 3) (fun _ _=>rfl)) (Za (pv 2) Zf)))) (fun _=>rfl)) (Zn (Jf (i:=3) scWinner.nd rfl (Or.inl rfl) (pv 4))) Jn)))
  (Zn (Z9 (pv 3))))),?_⟩
 have e0:(((ys.getD 0 0:Nat):Int) / 8)=((Yk ys:Nat):Int):=by unfold Yk;omega
 refine⟨_,rfl,p,_,_,_,rfl,rfl,hT,Zec (i:=0) T.ne,_,_,rfl,rfl,⟨by decide,by decide⟩,?_⟩;refine⟨_,rfl,p,_,rfl,hT,?_⟩;refine Dq (K:=K) (a:=p) (xs:=vN ys) (fun i σ H'=>Same H H'∧∃(h:Nat) (x4 x5:Option V),σ=[some (.ref gm),some (.ref p),some (.int ((Yk ys:Nat):Int)),some (.int (h:Nat)),x4,x5]∧h < ys.length∧∀ j < i,rk fx t (Yk ys) (ys.getD j 0)≤rk fx t (Yk ys) (ys.getD h 0))
  ⟨Same.refl H,0,none,none,?_,T.ne,fun j hj=>absurd hj (Nat.not_lt_zero _)⟩ (fun i σ H1 z=>z.1.seqT hT) (fun i v r σ H1 hv z hr1=>?_) (fun σ H1 z=>?_)
 ·show [_,_,some (V.int (((ys.getD 0 0:Nat):Int) / 8)),_,_,_]=_
  rw[e0];rfl
 ·obtain⟨s1,h,x4,x5,rfl,hh,hm⟩:=z
  obtain⟨c,hc,rfl⟩:=Vy hv;have s2:=s1.trans (Je hr1 (.tup [.int (i:Nat),.int (c:Nat)]));refine⟨r,_,rfl,SqT.of Zq,rfl,_,_,rfl,_,_,rfl,rfl,?_⟩;obtain⟨dg,hG⟩:=id (hg.same s2);have cm:c∈ys:=Zl hc;have hmem:ys.getD h 0∈ys:=by
   rw[Zr,Zg hh];exact Y6 _
  refine⟨_,rfl,gm,dg,_,rfl,hG,Er _ _ _ (by decide +kernel) (by decide +kernel),_,rfl,_,rfl,_,rfl,p,_,_,_,rfl,rfl,s2.seqT hT,Zec hh,_,rfl,gm,x,t,fx,c,ys.getD h 0,Yk ys,rfl,ok,hg.same s2,ht.same s2,T.ht c cm,T.ht _ hmem,fun H3 s3=>⟨_,rfl,?_⟩⟩;rw[Gn ok];have gc:=Zmu hc;refine M3 (fun y=>?_) fun y=>?_
  ·have y:=J0 y
   refine⟨_,rfl,s2.trans s3,i,_,_,rfl,Zrn hc,fun j hj=>?_⟩;rw[gc];rcases Nat.lt_or_eq_of_le (Nat.le_of_lt_succ hj) with z | z
   ·exact Jd (hm j z) (Ui y)
   ·rw[z,gc]
    exact Zs _
  ·have y:¬ rk fx t (Yk ys) (ys.getD h 0) < rk fx t (Yk ys) c:=fun z=>y (Zc z)
   refine⟨s2.trans s3,h,_,_,rfl,hh,fun j hj=>?_⟩;rcases Nat.lt_or_eq_of_le (Nat.le_of_lt_succ hj) with z | z
   ·exact hm j z
   ·rw[z,gc]
    exact Nat.le_of_not_lt y
 ·obtain⟨s1,h,x4,x5,rfl,hh,hm⟩:=z
  rw[Yh] at hm;exact⟨_,rfl,q h H1 s1 (Zgl ok T hh hm)⟩
def Zhb(K:W.Frag)(CT CG:Addr):Sp:=fun vs H Q _=>∃(gm x p:Addr) (t:Option Nat) (fx:Fx) (ys cs:List Nat),vs=[.ref gm,.int (hN cs:Nat),.ref p]∧fx.Ok∧IsGam CG x (Rz t) H gm∧IsTab CT fx H x∧Rl t∧SqT K H p (vN ys)∧(ys=[]∨Beg fx ys cs)∧∀ H',Same H H'→Q (.int (hN (if ys=[] then cs else alw fx.d fx t ys cs):Nat)) H'
theorem Zqw:FnScope ["self","hand","trick"] ["self","hand","trick"] (Zm Zoc):=Uw (by decide +kernel)
abbrev AlF(P:Program)(w:World)(K:W.Frag)(mg:Str→Option Value)(base:Heap)(CT CG:Addr)(k:Nat)(c4 f4:_root_.Fin 4→Addr)(d4:_root_.Fin 4→FuncData):Prop:=MethF P w K mg base Yq k (_root_.Fin 4) "allowed" pAl (Zhc K CT CG) c4 f4 d4
theorem Zsz(ys:List Nat):decide (V.int (((vN ys).length:Nat):Int)=V.int 0)=decide (ys=[]):=by
 rw[Yh];refine decide_eq_decide.mpr ⟨fun h=>?_,fun h=>by rw[h];rfl⟩;injection h with h
 exact List.eq_nil_of_length_eq_zero (by omega)
theorem Zo3{k:Nat}{CT CG CN f1 m2:Addr}{d1 e2:FuncData}{c4 f4:_root_.Fin 4→Addr}{d4:_root_.Fin 4→FuncData}(F:Fun K "may" "Game.may" Zoc f fd)(C:TabC K mg CT)(CGm:GamC K mg CG)(LD:LibX P w K mg base k "duty_of" ["word"] (Za2 c4 CN) f1 d1)
  (MD:Meth K CT "duty" m2) (FD:FnOk P w K mg base Yq k m2 e2 ["self"] (Og CT)) (BD:Binds K e2 ["self"] []) (MA:AlF P w K mg base CT CG k c4 f4 d4) (ml:mg "len" = none) :
  FnOk P w K mg base Yq (k+1) f fd ["self","hand","trick"] (Zhb K CT CG):=by
 refine F.ok Zqw (fun vs H Q E h=>?_) (fun cdv A outer s H vs Q E hr h=>?_)
 ·obtain⟨gm,x,p,t,fx,ys,cs,rfl,_⟩:=h
  rfl
 obtain⟨gm,x,p,t,fx,ys,cs,rfl,ok,hg,ht,hb,hT,B,q⟩:=h;refine⟨_,Zi (Yd (Jm X7 (Jk Ya rfl ml Ju (Za (pv 2) Zf)) Zo (Jl _)) (Zn (Z9 (pv 1))) Jn)
  (Zn (Z9 (Zig (Z0 LD.ok hr rfl LD.mg LD.kp LD.bd .nil Tw (Za (Vg (Jt (pv 0) rfl) C.cl MD FD hr BD .nil Jb) Zf)) MA hr Jb (Za (pv 0) (Za (pv 1) (Za (pv 2) Zf)))))),?_⟩
 refine⟨_,rfl,p,_,rfl,.inr hT,rfl,_,rfl,?_⟩;refine X1 (Zsz ys) ?_;by_cases c0:ys=[]
 ·rw[Zc c0]
  have q':=q H (Same.refl H);rw[Zv c0] at q';exact Yt ⟨_,rfl,q'⟩
 ·rw[Zd c0]
  have B':=B.resolve_left c0;obtain⟨dg,hG⟩:=id hg;obtain⟨dx,po,to,hX,_,_⟩:=id ht;refine J3 ⟨_,rfl,gm,CG,dg,_,_,rfl,hG,CGm.cl,CGm.nT,Yu _ _,x,dx,_,rfl,hX,Mc _ _ _,x,fx,rfl,ht,wd fx.d,rfl,fun i e y dy H6 s6 hy h6=>?_,fun z=>absurd (Zjv _) z⟩;have ei:=Zgp _ _ e;refine⟨i,y,dy,[],rfl,h6,rfl,_,rfl,_,rfl,_,rfl,y,gm,x,p,t,fx,ys,cs,rfl,ok,hg.same s6,ht.same s6,hb,s6.seqT hT,B',fun H7 s7=>?_⟩;have q':=q H7 (s6.trans s7);rw[Zj c0,ei] at q';exact q'
end
theorem Ri{p q:Nat→Bool}{c:Nat}:∀{l:List Nat},l.Nodup→c∈l→(∀ b,b≠c→p b=q b)→p c=false→q c=true→(l.filter p).length+1=(l.filter q).length
 | [],_,h,_,_,_=>nomatch h
 | a :: l,nd,h,e,pc,qc=>by
  obtain⟨na,nd'⟩:=List.nodup_cons.mp nd;by_cases z:a=c
  ·subst z
   rw[List.filter_cons_of_neg (by rw[pc];exact Zp),List.filter_cons_of_pos qc,Jo]
   congr 2
   exact List.filter_congr fun b hb=>e b fun z=>na (z ▸ hb)
  ·have m:c∈l:=(Ja.mp h).resolve_left (Ne.symm z)
   have ih:=Ri nd' m e pc qc;have ea:=e a z;cases r:q a with
   | true=>rw[r] at ea;rw[List.filter_cons_of_pos ea,List.filter_cons_of_pos r,Jo,Jo,ih]
   | false=>rw[r] at ea;rw[List.filter_cons_of_neg (by rw[ea];exact Zp),List.filter_cons_of_neg (by rw[r];exact Zp),ih]
theorem Ed(c b:Nat):(2 ^ c).testBit b=decide (c=b):=by
 rw[Nat.testBit_two_pow]
theorem Bz(h c b:Nat)(hc:h.testBit c=true):(h ^^^ 2 ^ c).testBit b=(!decide (c=b) && h.testBit b):=by
 rw[Nat.testBit_xor,Ed];by_cases e:c=b
 ·subst e
  rw[hc,Zc rfl];rfl
 ·rw[Zd e]
  cases h.testBit b<;>rfl
theorem Zot{h c:Nat}(hc:h.testBit c=true)(c32:c < 32):Xi 32 (h ^^^ 2 ^ c)+1=Xi 32 h:=by
 unfold Xi;refine Ri (c:=c) List.nodup_range (Yg.mpr c32) (fun b n=>?_) ?_ hc
 ·rw[Bz _ _ _ hc,Zd (Ne.symm n)]
  rfl
 ·rw[Bz _ _ _ hc,Zc rfl]
  rfl
theorem Zrb{h c:Nat}(hc:h.testBit c=false)(c32:c < 32):Xi 32 h+1=Xi 32 (h ||| 2 ^ c):=by
 unfold Xi;refine Ri (c:=c) List.nodup_range (Yg.mpr c32) (fun b n=>?_) hc ?_
 ·rw[Nat.testBit_or,Ed,Zd (Ne.symm n),Bool.or_false]
 ·rw[Nat.testBit_or,Ed,Zc rfl,Bool.or_true]
theorem Zkr{h c:Nat}(hc:h.testBit c=true):(h ^^^ 2 ^ c)+2 ^ c=h:=by
 have a:=PyProof.Rows.nat_or_add_and (h ^^^ 2 ^ c) (2 ^ c);have e1:(h ^^^ 2 ^ c) ||| 2 ^ c=h:=Nat.eq_of_testBit_eq fun b=>by
  rw[Nat.testBit_or,Bz _ _ _ hc,Ed];by_cases e:c=b
  ·subst e
   rw[hc,Zc rfl];rfl
  ·rw[Zd e]
   cases h.testBit b<;>rfl
 have e2:(h ^^^ 2 ^ c) &&& 2 ^ c=0:=Nat.eq_of_testBit_eq fun b=>by
  rw[Nat.testBit_and,Bz _ _ _ hc,Ed,Nat.zero_testBit];by_cases e:c=b
  ·rw[Zc e]
   rfl
  ·rw[Zd e,Bool.and_false]
 rw[e1,e2] at a;omega
theorem Zro{h:Nat}(hb:∀ b,h.testBit b=true→b < 32):h < 4294967296:=by
 refine Nat.lt_pow_two_of_testBit (n:=32) h fun i hi=>?_;cases e:h.testBit i with
 | false=>rfl
 | true=>exact absurd (hb i e) (by omega)
theorem M8{α:Type}{p:α→Bool}{x:α}:∀{l:List α} {i:Nat} {a:α},l[i]? = some a→(l.set i x).countP p+(if p a then 1 else 0)=l.countP p+(if p x then 1 else 0)
 | [],_,_,h=>by simp at h
 | b :: l,0,a,h=>by
  have e:b=a:=Zy h;subst e;rw[List.set_cons_zero,List.countP_cons,List.countP_cons];omega
 | b :: l,i+1,a,h=>by
  have ih:=M8 (p:=p) (x:=x) (l:=l) (i:=i) (a:=a) h;rw[List.set_cons_succ,List.countP_cons,List.countP_cons];omega
theorem Ow{α:Type}{g:α→Nat}{x:α}:∀{l:List α} {i:Nat} {a:α},l[i]? = some a→((l.set i x).map g).sum+g a=(l.map g).sum+g x
 | [],_,_,h=>by simp at h
 | b :: l,0,a,h=>by
  have e:b=a:=Zy h;subst e;rw[List.set_cons_zero,List.map_cons,List.map_cons,List.sum_cons,List.sum_cons];omega
 | b :: l,i+1,a,h=>by
  have ih:=Ow (g:=g) (x:=x) (l:=l) (i:=i) (a:=a) h;rw[List.set_cons_succ,List.map_cons,List.map_cons,List.sum_cons,List.sum_cons];omega
def off(n lead i:Nat):Nat:=(i+n - lead) % n
theorem Vj{n lead k:Nat}(hn:n=3∨n=4)(hl:lead < n)(hk:k < n):off n lead ((lead+k) % n)=k:=by
 have all:∀ n∈[3,4],∀ lead < n,∀ k < n,off n lead ((lead+k) % n)=k:=by decide
 exact all n (by rcases hn with rfl | rfl<;>simp) lead hl k hk
theorem T5{n lead i:Nat}(hn:n=3∨n=4)(hl:lead < n)(hi:i < n):(lead+off n lead i) % n=i∧off n lead i < n:=by
 have all:∀ n∈[3,4],∀ lead < n,∀ i < n,(lead+off n lead i) % n=i∧off n lead i < n:=by decide
 exact all n (by rcases hn with rfl | rfl<;>simp) lead hl i hi
abbrev Ny(hs ys:List Nat)(b:Nat):Nat:=hs.countP (fun h=>h.testBit b)+ys.count b
structure Plc(f:Fx)(hs:List Nat)(lead:Nat)(ys:List Nat)(m:Nat):Prop where
 len:hs.length=f.n
 ld:lead < f.n
 yl:ys.length < f.n
 one:∀ b,Ny hs ys b≤1
 pk:∀ b,0 < Ny hs ys b→b / 8 < f.s∧b % 8 < f.h
 lv:∀ i h,hs[i]? = some h→Xi 32 h+(if off f.n lead i < ys.length then 1 else 0)=m
section
variable{f:Fx}{hs ys:List Nat}{lead m:Nat}
theorem Plc.b32(ok:f.Ok)(P:Plc f hs lead ys m){b:Nat}(h:0 < Ny hs ys b):b < 32:=by
 have:=P.pk b h;have:=ok.s4;have:=ok.h8;omega
theorem Qp{h b:Nat}(hh:h∈hs)(hb:h.testBit b=true):0 < Ny hs ys b:=Ji (List.countP_pos_iff.mpr ⟨h,hh,hb⟩) (Nat.le_add_right _ _)
theorem Nx{c:Nat}(hc:c∈ys):0 < Ny hs ys c:=Ji (List.count_pos_iff.mpr hc) (Nat.le_add_left _ _)
theorem Plc.h32(ok:f.Ok)(P:Plc f hs lead ys m){h:Nat}(hh:h∈hs):h < 4294967296:=Zro fun b hb=>P.b32 ok (Qp hh hb)
theorem Plc.y32(ok:f.Ok)(P:Plc f hs lead ys m){c:Nat}(hc:c∈ys):c < 32:=P.b32 ok (Nx hc)
theorem Plc.nd(P:Plc f hs lead ys m):ys.Nodup:=List.nodup_iff_count.mpr fun b=>by have:=P.one b;unfold Ny at this;omega
theorem Plc.apart(P:Plc f hs lead ys m){h c:Nat}(hh:h∈hs)(hc:c∈ys):h.testBit c=false:=by
 cases e:h.testBit c with
 | false=>rfl
 | true=>
  have h1:0 < hs.countP (fun h=>h.testBit c):=List.countP_pos_iff.mpr ⟨h,hh,e⟩;have h2:=List.count_pos_iff.mpr hc;have:=P.one c;unfold Ny at this;omega
theorem B9(ok:f.Ok)(lead k:Nat):(lead+k) % f.n < f.n:=Nat.mod_lt _ (by rcases ok.n34 with e | e<;>omega)
theorem Plc.turn(ok:f.Ok)(P:Plc f hs lead ys m):∃ h,hs[(lead+ys.length) % f.n]? = some h∧Xi 32 h=m:=by
 have sl:=B9 ok lead ys.length;have hl:(lead+ys.length) % f.n < hs.length:=by rw[P.len];exact sl
 refine⟨_,Zg hl,?_⟩;have:=P.lv _ _ (Zg hl);rw[Vj ok.n34 P.ld P.yl,Zj (Nat.lt_irrefl _)] at this;exact this
theorem Plc.le(P:Plc f hs lead ys m){h:Nat}(hh:h∈hs):Xi 32 h≤m:=by
 obtain⟨i,hi,e⟩:=Ua.mp hh;have:=P.lv i h (by rw[Zg hi,e]);omega
theorem Plc.max(ok:f.Ok)(P:Plc f hs lead ys m):m∈hs.map (Xi 32)∧∀ x∈hs.map (Xi 32),x≤m:=by
 obtain⟨h,e1,e2⟩:=P.turn ok;refine⟨Zz.mpr ⟨h,Zl e1,e2⟩,fun x hx=>?_⟩;obtain⟨h',hm,rfl⟩:=Zz.mp hx;exact P.le hm
theorem Plc.step(ok:f.Ok)(P:Plc f hs lead ys m){h c:Nat}(hh:hs[(lead+ys.length) % f.n]? = some h)(hc:h.testBit c=true) :
  (∀ b,Ny (hs.set ((lead+ys.length) % f.n) (h ^^^ 2 ^ c)) (ys++[c]) b=Ny hs ys b)∧(hs.set ((lead+ys.length) % f.n) (h ^^^ 2 ^ c)).sum+2 ^ c=hs.sum ∧
  ((hs.set ((lead+ys.length) % f.n) (h ^^^ 2 ^ c)).map (Xi 32)).sum+1=(hs.map (Xi 32)).sum∧0 < m ∧
  (ys.length+1 < f.n→Plc f (hs.set ((lead+ys.length) % f.n) (h ^^^ 2 ^ c)) lead (ys++[c]) m) ∧
  (ys.length+1=f.n→∀ t,t < f.n→Plc f (hs.set ((lead+ys.length) % f.n) (h ^^^ 2 ^ c)) t [] (m - 1)):=by
 have hm:h∈hs:=Zl hh;have c32:=P.b32 ok (Qp (ys:=ys) hm hc);have A:∀ b,Ny (hs.set ((lead+ys.length) % f.n) (h ^^^ 2 ^ c)) (ys++[c]) b=Ny hs ys b:=fun b=>by
  have z:=M8 (p:=fun h=>h.testBit b) (x:=h ^^^ 2 ^ c) hh;unfold Ny;rw[List.count_append,List.count_singleton];have e:=Bz h c b hc;by_cases q:c=b
  ·subst q
   rw[Zc rfl] at e;have e':(h ^^^ 2 ^ c).testBit c=false:=e;rw[hc,e'] at z;simp only[if_true,Bool.false_eq_true,if_false,Qk] at z ⊢;omega
  ·rw[Zd q] at e
   have e':(h ^^^ 2 ^ c).testBit b=h.testBit b:=e;rw[e'] at z;rw[Zj (by simpa using q)];omega
 have pc:=Zot hc c32;have S1:=Ow (g:=id) (x:=h ^^^ 2 ^ c) hh;have S2:=Ow (g:=Xi 32) (x:=h ^^^ 2 ^ c) hh;rw[List.map_id,List.map_id] at S1;have xa:=Zkr hc;have S1':(hs.set ((lead+ys.length) % f.n) (h ^^^ 2 ^ c)).sum+h=hs.sum+(h ^^^ 2 ^ c):=S1;have tl:=P.lv _ _ hh;rw[Vj ok.n34 P.ld P.yl,Zj (Nat.lt_irrefl _)] at tl;refine⟨A,by omega,by omega,by omega,fun hl=>⟨by rw[Xz];exact P.len,P.ld,by rw[Jc];exact hl,fun b=>by rw[A];exact P.one b,fun b=>by rw[A];exact P.pk b,fun i g e=>?_⟩,
  fun hl t ht=>⟨by rw[Xz];exact P.len,ht,by show 0 < f.n;omega,fun b=>?_,fun b hb=>?_,fun i g e=>?_⟩⟩
 ·rw[Jc,List.length_singleton]
  by_cases q:i=(lead+ys.length) % f.n
  ·subst q
   have hi:(lead+ys.length) % f.n < hs.length:=by rw[P.len];exact B9 ok _ _
   rw[List.getElem?_set_self hi] at e;cases e;rw[Vj ok.n34 P.ld P.yl,Zv (Xl _)];omega
  ·rw[List.getElem?_set_ne (Ne.symm q)] at e
   have:=P.lv i g e;have hi:i < f.n:=by rw[← P.len];exact(Zu.mp e).1
   obtain⟨o1,o2⟩:=T5 ok.n34 P.ld hi;have ne:off f.n lead i≠ys.length:=fun z=>q (by rw[← o1,z]);by_cases w:off f.n lead i < ys.length
   ·rw[Zv w] at this
    rw[Zv (by omega)];exact this
   ·rw[Zj w] at this
    rw[Zj (by omega)];exact this
 ·have:=A b
  have:=P.one b;unfold Ny at *;rw[List.count_append] at *;simp only[List.count_nil] at *;omega
 ·refine P.pk b ?_
  have:=A b;unfold Ny at *;rw[List.count_append] at *;simp only[List.count_nil] at *;omega
 ·have hi:i < f.n:=by
   have:=(Zu.mp e).1;rw[Xz,P.len] at this;exact this
  show Xi 32 g+(if off f.n t i < 0 then 1 else 0)=m - 1;rw[Zj (Nat.not_lt_zero _)];by_cases q:i=(lead+ys.length) % f.n
  ·subst q
   have hi:(lead+ys.length) % f.n < hs.length:=by rw[P.len];exact B9 ok _ _
   rw[List.getElem?_set_self hi] at e;cases e;omega
  ·rw[List.getElem?_set_ne (Ne.symm q)] at e
   have:=P.lv i g e;obtain⟨o1,o2⟩:=T5 ok.n34 P.ld hi;have ne:off f.n lead i≠ys.length:=fun z=>q (by rw[← o1,z]);rw[Zv (by omega)] at this;omega
end
def Qs:List Nat→Nat→Bool
 | [],_=>true
 | h :: r,s=>if s &&& h=0 then Qs r (s ||| h) else false
def Zjz(hs:List Nat):Bool:=hs.all fun h=>decide (Xi 32 h=Xi 32 (hs.getD 0 0))
theorem Zah:∀{hs:List Nat} {s:Nat},(∀ b,hs.countP (fun h=>h.testBit b)+(if s.testBit b then 1 else 0)≤1)→Qs hs s=true
 | [],_,_=>rfl
 | h :: r,s,hb=>by
  have z:s &&& h=0:=Nat.eq_of_testBit_eq fun b=>by
   have:=hb b;rw[List.countP_cons] at this;rw[Nat.testBit_and,Nat.zero_testBit];cases e1:s.testBit b with
   | false=>rfl
   | true=>
    cases e2:h.testBit b with
    | false=>rfl
    | true=>
     rw[e1,e2] at this;simp at this
  show(if s &&& h=0 then Qs r (s ||| h) else false)=true;rw[Zv z];refine Zah fun b=>?_;have:=hb b;rw[List.countP_cons] at this;rw[Nat.testBit_or];cases e1:s.testBit b<;>cases e2:h.testBit b<;>rw[e1,e2] at this<;>simp at this ⊢ <;> omega
theorem Zf4(ys:List Nat)(b:Nat):(ys.map fun c=>2 ^ c).countP (fun h=>h.testBit b)=ys.count b:=by
 rw[List.countP_map,List.count];refine List.countP_congr fun c _=>?_;show(2 ^ c).testBit b=true↔(c == b)=true;rw[Ed];simp
theorem Plc.parts{f:Fx}{hs ys:List Nat}{lead m:Nat}(P:Plc f hs lead ys m):Qs (hs++ys.map fun c=>2 ^ c) 0=true:=by
 refine Zah fun b=>?_;rw[List.countP_append,Zf4,Nat.zero_testBit];exact P.one b
theorem Zjy{ws:List Nat}{m:Nat}(h:∀ w∈ws,Xi 32 w=m)(h0:0 < ws.length):Zjz ws=true:=by
 refine Ym.mpr fun w hw=>Zc ?_;have m0:ws.getD 0 0∈ws:=by
  rw[Zr,Zg h0];exact Y6 _
 rw[h w hw,h _ m0]
theorem Tx{s h b:Nat}(h8:h≤8):b∈U6 s h↔b / 8 < s∧b % 8 < h:=by
 unfold U6;rw[List.mem_flatMap];constructor
 ·rintro⟨u,hu,hb⟩
  obtain⟨v,hv,rfl⟩:=Zz.mp hb;have:=Yg.mp hu;have:=Yg.mp hv;constructor<;>omega
 ·rintro⟨h1,h2⟩
  exact⟨b / 8,Yg.mpr h1,Zz.mpr ⟨b % 8,Yg.mpr h2,by omega⟩⟩
theorem Plc.inpack{f:Fx}{hs ys:List Nat}{lead m:Nat}(ok:f.Ok)(P:Plc f hs lead ys m){p:Nat}(hp:p∈hs++ys.map fun c=>2 ^ c):p ||| hN (U6 f.s f.h)=hN (U6 f.s f.h):=Nat.eq_of_testBit_eq fun b=>by
 rw[Nat.testBit_or,Ej];cases e:p.testBit b with
 | false=>rfl
 | true=>
  have h:0 < Ny hs ys b:=by
   rcases J1.mp hp with z | z
   ·exact Qp z e
   ·obtain⟨c,hc,rfl⟩:=Zz.mp z
    rw[Ed] at e;have e':c=b:=J0 e;subst e';exact Nx hc
  rw[Zc ((Tx ok.h8).mpr (P.pk b h))];rfl
structure WsOk(f:Fx)(hs:List Nat)(lead i:Nat)(ws:List Nat):Prop where
 len:ws.length=f.n
 at_:∀ j w,ws[j]? = some w→∃ h,hs[j]? = some h∧(off f.n lead j < i→Xi 32 w=Xi 32 h+1∧w < 4294967296)∧(¬ off f.n lead j < i→w=h)
section
variable{f:Fx}{hs ys ws:List Nat}{lead m i:Nat}
theorem WsOk.start(P:Plc f hs lead ys m):WsOk f hs lead 0 hs:=⟨P.len,fun j w e=>⟨w,e,fun z=>absurd z (Nat.not_lt_zero _),fun _=>rfl⟩⟩
theorem WsOk.step(ok:f.Ok)(P:Plc f hs lead ys m)(W:WsOk f hs lead i ws){c:Nat}(hc:ys[i]? = some c):∃ w,ws[(lead+i) % f.n]? = some w∧WsOk f hs lead (i+1) (ws.set ((lead+i) % f.n) (w ||| 2 ^ c)):=by
 have il:i < ys.length:=(Zu.mp hc).1;have yl:=P.yl;have sl:=B9 ok lead i;have hl:(lead+i) % f.n < ws.length:=by rw[W.len];exact sl
 have cm:c∈ys:=Zl hc;have oi:=Vj ok.n34 P.ld (show i < f.n by omega);refine⟨_,Zg hl,by rw[Xz];exact W.len,fun j w e=>?_⟩;by_cases q:j=(lead+i) % f.n
 ·subst q
  rw[List.getElem?_set_self hl] at e;cases e;obtain⟨h,e1,_,e2⟩:=W.at_ _ _ (Zg hl);refine⟨h,e1,fun _=>?_,fun z=>absurd (by rw[oi];exact Xl _) z⟩;have e3:=e2 (by rw[oi];exact Nat.lt_irrefl _);have hm:h∈hs:=Zl e1;rw[e3];refine⟨(Zrb (P.apart hm cm) (P.y32 ok cm)).symm,Zro fun b hb=>?_⟩;rw[Nat.testBit_or,Ed] at hb;cases z:h.testBit b with
  | true=>exact P.b32 ok (Qp (ys:=ys) hm z)
  | false=>
   rw[z] at hb;have e4:c=b:=by simpa using hb
   rw[← e4];exact P.y32 ok cm
 ·rw[List.getElem?_set_ne (Ne.symm q)] at e
  obtain⟨h,e1,e2,e3⟩:=W.at_ j w e;have hj:j < f.n:=by rw[← W.len];exact(Zu.mp e).1
  obtain⟨o1,o2⟩:=T5 ok.n34 P.ld hj;have ne:off f.n lead j≠i:=fun z=>q (by rw[← o1,z]);exact⟨h,e1,fun z=>e2 (by omega),fun z=>e3 (by omega)⟩
theorem WsOk.end_(ok:f.Ok)(P:Plc f hs lead ys m)(W:WsOk f hs lead ys.length ws):∀ w∈ws,w < 4294967296∧Xi 32 w=m:=fun w hw=>by
 obtain⟨j,hj,e⟩:=Ua.mp hw;obtain⟨h,e1,e2,e3⟩:=W.at_ j w (by rw[Zg hj,e]);have:=P.lv j h e1;by_cases z:off f.n lead j < ys.length
 ·rw[Zv z] at this
  obtain⟨a,b⟩:=e2 z;exact⟨b,by omega⟩
 ·rw[Zj z] at this
  rw[e3 z];exact⟨P.h32 ok (Zl e1),this⟩
end
end My
namespace L2
open PySem PySem.Spec PyProof.Rows Builtin Builtin.ObjectAttr
section
variable{prog:Program}{w:World}{A:Around}{E:Value→Shared→Prop}{h:Heap}{g:Array GenState}{d:Drawn}{t:Nat}{os:OsState}
variable{nm q:Str}{C N:Addr}{bs bm bmB:List Value}{hdct:Bool}{sn:List Str}{sub:List Value}{ab:Bool}{col:Option Bool}{dd:Option Addr}{k0 k1 k2 k3 k5:Option Value}{B newId initId:String}
theorem Ry(F:ExcBaseFacts B newId initId bmB)(T:OwnTail h bmB bm){mN:Str→Option Value}{rest:List Value}{fI:Addr}{oI:Obj}{Q:Fin→Shared→Prop}
  (hC:h.get? C=some (excClassObj nm q C N bs bm hdct sn sub ab col dd k0 k1 k2 k3 k5 newId)) (hn:h.Ns N mN) (hi:mN "__init__" = some (.ref fI)) (hfI:h.get? fI=some oI) (hfc:oI.cls = .type "function")
  (hq:∀ h' e,Heap.MadeExcOf h h' e (.ref C) rest→wpAny (model prog w) A (call (.ref fI) (.ref e :: rest)) (fun r s'=>r = .none∧Q (.done (.ret (.ref e))) s') E ⟨h',g,d,t,os⟩) (hrest:rest.length≤sizeLine) :
  wpAny (model prog w) A (Builtin.«type.__call__» ⟨.ref C :: rest,[]⟩) Q E ⟨h,g,d,t,os⟩:=by
 repeat (first | with_reducible refine wpAny_loadPart_at hC ?_ | with_reducible refine wpAny_madeBy_exc hC ?_ | wp_step)
 refine codeAny_call_builtin_code (Code.quiet_builtin _ F.quiet) (wpAny_check_new_subT F T hC ?_);refine codeAny_exc_new_subT F T hC ?_ hrest;show wpAny _ _ _ _ _ _;generalize hp1:h.push { cls:=.type "tuple",data:=.seq rest.toArray }=p1;generalize hp2:p1.push { cls:=.ref C,data:=.fields #[.ref h.objs.size,.none,.none,.none,.bool false,.none] }=p2;have kp:∀ b o,h.get? b=some o→p2.get? b=some o:=fun b o e=>by rw[← hp2,← hp1];exact Zh _ (Zh _ e)
 have hC₁:=kp _ _ hC;have hfI₁:=kp _ _ hfI;have hn₁:p2.Ns N mN:=hn.keeps kp;have T₁:=T.keeps kp;have hget:p2.get? (h.objs.size+1)=some { cls:=.ref C,data:=.fields #[.ref h.objs.size,.none,.none,.none,.bool false,.none] }:=by
  rw[← hp2];exact Heap.get?_push_at (by rw[← hp1,Heap.size_push]) rfl
 have hcC:(Value.ref C :: bm).contains (.ref C)=true:=by simp
 unfold isInstance
 repeat (first | with_reducible refine wpAny_loadPart_at hget ?_ | (with_reducible refine wpAny_isSubtype_exc hC₁ ?_;rw[hcC]) | wp_step)
 show wpAny _ _ (typeLookup (.ref C) _) _ _ _;refine wpAny_typeLookup_tail hC₁ hn₁ T₁ F.mroIs F.init.lookup ?_;rw[hi];refine wpAny_holding (Zb ?_);unfold bindSpecial;refine Zb (wpAny_typeOf (T:="function") ⟨_,hfI₁,hfc⟩ ?_);rw[Zv (by decide)];refine Ze (Zb (wpAny_mono (hq _ (h.objs.size+1) ⟨kp,Heap.get?_none_of_le (Nat.le_succ _),h.objs.size,hget,Heap.get?_none_of_le (Zs _),?_⟩) (fun r s' hr=>?_) fun _ _ x=>x))
 ·rw[← hp2,← hp1];exact Zh _ (Heap.get?_push_at rfl rfl)
 ·obtain⟨rfl,hQ⟩:=hr
  wp_walk
  exact hQ
theorem Zcl(F:ExcBaseFacts B newId initId bmB)(T:OwnTail h bmB bm){mN:Str→Option Value}{rest:List Value}{fI:Addr}{oI:Obj}{Q:Value→Shared→Prop}
  (hC:h.get? C=some (excClassObj nm q C N bs bm hdct sn sub ab col dd k0 k1 k2 k3 k5 newId)) (hn:h.Ns N mN) (hi:mN "__init__" = some (.ref fI)) (hfI:h.get? fI=some oI) (hfc:oI.cls = .type "function")
  (hq:∀ h' e,Heap.MadeExcOf h h' e (.ref C) rest→wpAny (model prog w) (A.under (.builtin "type.__call__" ⟨.ref C :: rest,[]⟩)) (call (.ref fI) (.ref e :: rest)) (fun r s'=>r = .none∧Q (.ref e) s') E ⟨h',g,d,t,os⟩) (hrest:rest.length≤sizeLine) :
  wpAny (model prog w) A (call (.ref C) rest) Q E ⟨h,g,d,t,os⟩:=by
 have f1:=tc_lookup;have f2:=tc_bind (.ref C);have hT:(⟨h,g,d,t,os⟩:Shared).TypeIs (.ref C) "type":=⟨_,hC,rfl⟩;refine wpAny_call (codeAny_of_tree ?_);show wpAny _ _ (callAny (.ref C) _) _ _ _
 repeat (any_goals (first | assumption | with_reducible refine wpAny_loadPart_at hC ?_ | wp_step))
 refine⟨rfl,?_⟩;refine codeAny_call_builtin_at (Code.quiet_builtin _ (by decide +kernel)) entry_typeCall (wpAny_check_type_call_sub hC (Ry (hrest:=hrest) F T hC hn hi hfI hfc fun h' e hm=>?_));exact hq h' e hm
end
def Np:List Value→Bool
 | .ref _ :: r=>Np r
 | l=>l == Uv
theorem Rn(self:Value):∀{l:List Value},Np l=true→refuseLoop self "__setattr__" l=pure ()
 | .ref c :: r,e=>by rw[refuseLoop_ref];exact Rn self e
 | [],e=>by rw[show([]:List Value)=Uv from beq_iff_eq.mp e];exact PySem.F.store_ValueError.passes self
 | .none :: r,e=>by rw[show(.none :: r:List Value)=Uv from beq_iff_eq.mp e];exact PySem.F.store_ValueError.passes self
 | .type n :: r,e=>by rw[show(.type n :: r:List Value)=Uv from beq_iff_eq.mp e];exact PySem.F.store_ValueError.passes self
 | .bool n :: r,e=>by rw[show(.bool n :: r:List Value)=Uv from beq_iff_eq.mp e];exact PySem.F.store_ValueError.passes self
 | .builtin n :: r,e=>by rw[show(.builtin n :: r:List Value)=Uv from beq_iff_eq.mp e];exact PySem.F.store_ValueError.passes self
 | .int n t :: r,e=>by rw[show(.int n t :: r:List Value)=Uv from beq_iff_eq.mp e];exact PySem.F.store_ValueError.passes self
 | .str n t :: r,e=>by rw[show(.str n t :: r:List Value)=Uv from beq_iff_eq.mp e];exact PySem.F.store_ValueError.passes self
 | .bytes n t :: r,e=>by rw[show(.bytes n t :: r:List Value)=Uv from beq_iff_eq.mp e];exact PySem.F.store_ValueError.passes self
 | .float n t :: r,e=>by rw[show(.float n t :: r:List Value)=Uv from beq_iff_eq.mp e];exact PySem.F.store_ValueError.passes self
theorem Zgy:∀{l:List Value},Np l=true→l.contains (.type "object")=true:=by
 intro l e
 induction l with
 | nil=>exact absurd e (by decide)
 | cons v r ih=>
  have gen:((v :: r) == Uv)=true→(v :: r).contains (.type "object")=true:=fun q=>by
   rw[beq_iff_eq.mp q]
   decide
  cases v with
  | ref c=>rw[List.contains_cons,ih e,Bool.or_true]
  | _=>exact gen e
def Znj(K:W.Frag)(C:Addr):Bool:=(W.clsIn K C).any fun cd=>Np cd.mro
structure ExcS(K:W.Frag)(C:Addr):Prop where
 sa:W.findIn K (.ref C) "__setattr__" = some (some (.builtin "object.__setattr__"))
 ov:Znj K C=true
 hd:W.hasDictIn K C=true
section
variable{prog:Program}{w:World}{A:Around}{E:Value→Shared→Prop}{s:Shared}{K:W.Frag}{x C:Addr}{o:Obj}{vs:Array Value}{name:Str}{v:Value}
theorem Ziq{tk:Tok}{R:Result→Shared→Prop}(X:K.In s.heap)(hx:s.heap.get? x=some o)(hc:o.cls = .ref C)(F:ExcS K C)(n:NoAttr K C name)
  (h:∀ b,wpAny (model prog w) A.in1 (storeInOwnDict (.ref x) (.ref C) (.str name tk) name v b)
   (fun fin s'=>match fin with | .done f=>R (.ok f) s' | .again c'=>c'.quiet=true∧codeAny (model prog w) A c' R s') (fun e s'=>R (.error e) s') s) :
  codeAny (model prog w) A (.call (.builtin "object.__setattr__") ⟨[.ref x,.str name tk,v],[]⟩) R s:=by
 have SF:=PySem.F.store_object;have ty:W.Looks (model prog w) s.heap (typeOf (.ref x)) (.ref C):=hc ▸ (W.Looks.ld hx).andThen .now;obtain⟨cd,hcd,ho⟩:=W.any_some F.ov;have ne:cd.mro.isEmpty=false:=by cases q:cd.mro with | nil=>rw[q] at ho;exact absurd ho (by decide) | cons _ _=>rfl
 have sub:W.Looks (model prog w) s.heap (isInstance (.ref x) (.type "object")) true:=ty.andThen (W.looks_mroIn X (by unfold W.mroIn;rw[hcd,Option.bind_some,Zj (by rw[ne];decide),Zgy ho]));refine codeAny_call_builtin SF.slot.plain SF.entry (@W.check_slot (model prog w) _ _ s "object.__setattr__" "object" "__setattr__" (.ref x) [.str name tk,v] [] _ SF.kind SF.split sub (SF.args (.ref x) (.str name tk) v) ?_);have hm:W.Looks (model prog w) s.heap (mroOf (.ref C)) cd.mro:=(W.looks_clsIn X hcd).andThen .now;rw[W.osa_eq,refuse_eq];refine Zb (Zb (ty.here (Zb (hm.here ?_))));rw[Rn _ ho];refine Ze (Zb (ty.here (Zb ((W.looks_findIn X n).here (Zb (Ze ?_))))));exact h _
theorem Zhe{Q:Unit→Shared→Prop}(X:K.In s.heap)(hx:s.heap.get? x=some o)(hc:o.cls = .ref C)(hd:o.data = .fields vs)(hn:o.dict=none)(F:ExcS K C)(n:NoAttr K C name)
  (h:∀ h' t',h'.Ns1 s.heap.objs.size (fun y=>if y=name then some v else none)→h'.get? x=some { o with dict:=some s.heap.objs.size }→(∀ b ob,b≠x→s.heap.get? b=some ob→h'.get? b=some ob)→Q () { s with heap:=h',toks:=t' }) :
  wpAny (model prog w) A (setAttr (.ref x) name v) Q E s:=by
 have J:W.InstAt s.heap x o C none:=⟨hx,hc,by unfold W.notCls;rw[hd],by rw[hn];trivial⟩;refine W.set_plain X J F.sa (Ziq (s:={ s with toks:=s.toks+1 }) X hx hc F n fun b=>?_);obtain⟨cd,hcd,hdd⟩:=W.any_some F.hd;obtain⟨hp,g,d,t,os⟩:=s;have hx₁:(hp.push { cls:=.type "dict",data:=.dict #[] }).get? x=some o:=Zh _ hx;have hxs:x≠hp.objs.size:=Jh (Z3 hx);refine Zb (Ze (Zb (Zb (wpAny_loadPart hx ?_))));rw[hc];dsimp only;refine Zb ((W.looks_clsIn X hcd).at ?_);rw[hdd];dsimp only;rw[hn,hd];dsimp only;refine Zb (wpAny_alloc' ?_);refine Zb (wpAny_update' hx₁ ?_);refine Ze ?_;have hgd:((hp.push { cls:=.type "dict",data:=.dict #[] }).update x fun o=>{ o with dict:=some hp.objs.size }).get? hp.objs.size=some { cls:=.type "dict",data:=.dict #[] }:=
  (Heap.get?_update_ne _ _ _ _ hxs.symm).trans (Heap.get?_push_at rfl rfl)
 have hnd:((hp.push { cls:=.type "dict",data:=.dict #[] }).update x fun o=>{ o with dict:=some hp.objs.size }).Ns hp.objs.size (fun _=>none):=
  ⟨_,#[],_,hgd,rfl,fun e he=>absurd he (by simp),fun _=>rfl⟩
 show wpAny _ _ (storeInDict hp.objs.size (.str name _) name v) _ _ _;unfold storeInDict newKeyGuard;refine Zb (Ze (Zb (wpAny_nsSet1 (Heap.Ns1.of_empty hnd) fun h' hn' hs=>?_)));obtain⟨oD,esD,epD,hoD,hdD,hcD⟩:=hn'.count (Within.cons name v Within.nil);refine Zb (wpAny_lookBehind hoD (by rw[hdD];exact pastItsLine_dict (Jd hcD (by rw[Jo,List.length_nil,sizeLine_eq];omega))) ?_);refine Ze (h h' _ hn' ?_ fun b ob hb hob=>?_)
 ·refine(hs.2 x hxs).trans (Heap.get?_update_self _ hx₁ ?_)
  have hfr:=(Heap.get?_some_iff.mp hx).2;obtain⟨oc,od,odt,osl⟩:=o;cases odt<;>first | rfl | exact hfr
 ·exact(hs.2 b (Jh (Z3 hob))).trans ((Heap.get?_update_ne _ _ _ _ hb).trans (Zh _ hob))
theorem Zmt{expr:Bool}{dx:Addr}{mA:Str→Option Value}{Q:Value→Shared→Prop}(X:K.In s.heap)(F:ExcF K C)(G:ExcS K C)(n:NoAttr K C name)(hx:s.heap.get? x=some o)(hc:o.cls = .ref C)(hd:o.data = .fields vs)(hn:o.dict=some dx)(hN:s.heap.Ns1 dx mA)
  (hv:mA name=some v) (hh:W.handedIn v=true) (h:Q v { s with toks:=s.toks+1 }):wpAny (model prog w) A (getAttr (.ref x) name expr) Q E s:=by
 obtain⟨od,hod,hl⟩:=Di hN;have J:W.InstAt s.heap x o C (some od):=⟨hx,hc,by unfold W.notCls;rw[hd],by rw[hn];exact hod⟩;have p:Mu x C s.heap:=⟨o,hx,hc⟩;obtain⟨hp,g,d,t,os⟩:=s;have L0:=Et (M:=model prog w) p;have L1:=W.looks_findIn (M:=model prog w) X F.ga;have L2:=W.looks_findIn (M:=model prog w) X F.hk;have L3:=W.looks_find (M:=model prog w) X J (W.findObj_own G.hd n rfl (by rw[hl,hv]));have hb:bindSpecial (.builtin "BaseException.__getattribute__") (.ref x)=pure (.builtin "BaseException.__getattribute__",[.ref x]):=PySem.F.excAttr_ValueError.ga.bind (.ref x);have hx0:(expr && onTheHeap (Value.builtin "BaseException.__getattribute__"))=false:=by cases expr<;>rfl
 unfold getAttr getAttrBy;refine Zb (wpAny_mkText (wpAny_holding (Zb (L0.at (Zb (L1.at ?_))))));show wpAny _ _ (getAttrByItsOwn (.ref x) _ (.ref C) (.builtin "BaseException.__getattribute__") true expr) _ _ _;unfold getAttrByItsOwn hookBefore callGetattribute;refine Zb ?_;rw[Zv (show onTheHeap (Value.ref C)=true from rfl)];refine L2.at ?_;refine Zb (wpAny_attempt (wpAny_holding ?_));rw[hx0,Zj Zp];show wpAny _ _ (boundAndCalled (.builtin "BaseException.__getattribute__") (.ref x) _) _ _ _;unfold boundAndCalled;rw[hb];refine Zb (Ze ?_);refine wpAny_call (codeAny_call_builtin PySem.F.excAttr_ValueError.ga.plain PySem.F.entry_bexc_ga (Rt (s:=⟨hp,g,d,t+1,os⟩) F X p ?_));unfold Builtin.«object.__getattribute__»;have ent:∀(Q:Fin→Shared→Prop) (E:Value→Shared→Prop) (A:Around),Q (.done (.ret v)) ⟨hp,g,d,t+1,os⟩→wpAny (model prog w) A (Builtin.«object.__getattribute__» ⟨[.ref x,.str name t],[]⟩) Q E ⟨hp,g,d,t+1,os⟩:=fun Q E A q=>by
  unfold Builtin.«object.__getattribute__»
  repeat (first | exact q | lk | wp_step)
 refine ent _ _ _ ?_;show wpAny (model prog w) A (handedOut v) _ _ _;rw[W.handedOut_of hh];exact Ze h
end
end L2
namespace L2
open PySem PySem.Spec PyProof.Rows
def Ai(a C:Addr)(od:Option Addr):HO:=.ext fun h=>∃ o vs,h.get? a=some o∧o.cls = .ref C∧o.dict=od∧o.data = .fields vs∧vs[1]? = some .none∧vs[2]? = some .none
theorem Zc9{P:Program}{w:World}{H:Hp}{h:Heap}{a C:Addr}{od:Option Addr}{o:Obj}{vs:Array Value}(e:h.get? a=some o)(c:o.cls = .ref C)(d:o.dict=od)(f:o.data = .fields vs)(h1:vs[1]? = some .none)(h2:vs[2]? = some .none):ObjOk P w H h a (Ai a C od):=
 ⟨⟨o,vs,e,c,d,f,h1,h2⟩,⟨o,e⟩,fun _ _ ⟨o,ws,e1,e2⟩ k=>⟨o,ws,k _ e1,e2⟩⟩
theorem Zqd{P:Program}{w:World}{H:Hp}{h:Heap}{a:Addr}{f:Str}{y:V}{u:Value}(n:h.Ns1 a (fun z=>if z=f then some u else none))(r:RelV y u):ObjOk P w H h a (.xd [(f,y)]):=by
 refine⟨_,n,fun g=>?_⟩;by_cases q:g=f
 ·have hb:(g == f)=true:=beq_iff_eq.mpr q
  simp only[List.lookup,hb,Zv q];exact r
 ·have hb:(g == f)=false:=beq_eq_false_iff_ne.mpr q
  simp only[List.lookup,hb,Zj q];exact True.intro
def Zq0(K:W.Frag)(ta tv:TE)(f:Str):TS:=fun D σ H=>tv σ H fun y H1=>ta σ H1 fun x H2=>∃ a C,x = .ref a∧H2 a=some (Ai a C none)∧ExcS K C∧NoAttr K C f ∧
 ∀ d,H2 d=none→d≠a→D.nx σ (upd (upd H2 a (Ai a C (some d))) d (.xd [(f,y)]))
theorem Zlj{X:Cx}{o value:Expr}{f:Str}{pos pos':Pos}{ta tv:TE}(ha:PE X o ta)(hv:PE X value tv)(hs:swapsWith value (some (.Attribute o f pos')) pos.line X.env=pure false):PS X (.Assign [.Attribute o f pos'] value pos) (Zq0 X.K ta tv f):=by
 intro pins s σ H D I h;refine plainObj_wpAny_Assign_Attribute (Ub (hv pins s σ H _ I h) fun u s1 ⟨y,H1,I1,ry,q⟩=>Ub (ha pins s1 σ H1 _ I1 q) fun ov s2 ⟨x,H2,I2,rx,a,C,ex,ea,F,n,q2⟩=>?_) hs;subst ex;obtain rfl:ov=Value.ref a:=rx;obtain⟨⟨oe,vs,e1,e2,e3,e4,e5,e6⟩,_,_⟩:=I2.hok a _ ea;refine Zhe I2.kIn e1 e2 e4 e3 F n fun h' t' hN hx hk=>⟨σ,_,?_,q2 s2.heap.objs.size I2.fresh (fun z=>absurd (Z3 e1) (by rw[← z];exact Nat.lt_irrefl _))⟩;have hd:s2.heap.objs.size≠a:=fun z=>absurd (Z3 e1) (by rw[← z];exact Nat.lt_irrefl _);have old:∀ b u,H2 b=some u→b≠s2.heap.objs.size:=fun b u q z=>by
  have y:=I2.fresh;rw[← z,q] at y;cases y
 have up1:∀ b,b≠a→b≠s2.heap.objs.size→upd (upd H2 a (Ai a C (some s2.heap.objs.size))) s2.heap.objs.size (.xd [(f,y)]) b=H2 b:=fun b h1 h2=>by rw[Z8 h2,Z8 h1]
 have na:∀ b u,H2 b=some u→(∀ φ,u ≠ .ext φ)→b≠a:=fun b u q k z=>by
  rw[z,ea] at q;cases q;exact k _ rfl
 refine I2.un (t':=t') ⟨fun b ob q nn _ _=>hk b ob (fun z=>by rw[z,ea] at nn;cases nn) q,fun b ob q nn _ _=>⟨ob.slots,hk b ob (fun z=>by rw[z,ea] at nn;cases nn) q⟩,fun b ob q nn _=>?_,fun b ob q _=>?_,fun b xs q=>?_,fun b ob u q=>?_,fun b ps q=>?_⟩ fun b u q=>?_
 ·rw[up1 b (fun z=>by rw[z,ea] at nn;cases nn) (Jh (Z3 q))]
  exact nn
 ·by_cases z:b=a
  ·subst z;exact⟨_,hx⟩
  ·exact⟨ob,hk b ob z q⟩
 ·rw[up1 b (na b _ q fun _ z=>by cases z) (old b _ q)]
  exact q
 ·rw[up1 b (na b _ q fun _ z=>by cases z) (old b _ q)]
  exact q
 ·refine⟨#[],?_⟩
  rw[up1 b (na b _ q fun _ z=>by cases z) (old b _ q),q];simp
 ·by_cases z1:b=s2.heap.objs.size
  ·subst z1
   rw[Zq] at q;cases q;exact Zqd hN ry
  ·rw[Z8 z1] at q
   by_cases z2:b=a
   ·subst z2
    rw[Zq] at q;cases q;exact Zc9 hx e2 rfl e4 e5 e6
   ·rw[Z8 z2] at q
    refine(I2.hok b u q).stay (fun c w' hc r=>hk c w' ?_ r) (fun c r=>?_) fun c xs r=>?_
    ·rcases hc with hc | hc
     ·rw[hc];exact z2
     ·exact na c _ hc fun _ z=>by cases z
    ·rw[up1 c (na c _ r fun _ z=>by cases z) (old c _ r)];exact r
    ·rw[up1 c (na c _ r fun _ z=>by cases z) (old c _ r)];exact r
def Mj(K:W.Frag)(C:Addr)(bmB:List Value)(newId:String)(fI:Addr):Bool:=match K.lookup C with
 | some ⟨.type "type",_,.cls cd,sl⟩=>(match cd.mro,sl.toList with
  | .ref C' :: bm,[_,_,_,_,some (.builtin n),_]=>C' == C && n == newId && !cd.hasDel && W.tailIn K bmB bm && W.nsOkIn K cd.ns && W.nsIn K cd.ns "__init__" == some (some (.ref fI))
  | _,_=>false)
 | _=>false
theorem Zb2{K:W.Frag}{h:Heap}{N:Addr}{mg:Str→Option Value}{n:Str}{v:Value}(X:K.In h)(G:h.Ns N mg)(e:W.nsIn K N n=some (some v)):mg n=some v:=by
 obtain⟨o,es,ep,ho,hd,_,hf⟩:=G;unfold W.nsIn at e;split at e
 ·rename_i c d es' n' sl q
  have:=X _ _ q;rw[ho] at this;cases this;cases hd;split at e
  ·rename_i en he
   rw[← hf];unfold nsFind findBy;rw[← Array.find?_toList,he];exact Zy e
  ·split at e<;>cases e
 ·cases e
theorem Zke{K:W.Frag}{h:Heap}{C fI:Addr}{bmB:List Value}{newId:String}(X:K.In h)(q:Mj K C bmB newId fI=true) :
  ∃ bm N nm qn bs hdct sn sub ab col dd k0 k1 k2 k3 k5 mN,h.get? C=some (excClassObj nm qn C N bs bm hdct sn sub ab col dd k0 k1 k2 k3 k5 newId)∧h.Ns N mN∧mN "__init__" = some (.ref fI)∧OwnTail h bmB bm:=by
 unfold Mj at q;split at q
 ·rename_i ddx cdx slx hlook
  split at q
  ·rename_i Cx bmx j0 j1 j2 j3 nx j5 hmro hslots
   simp only[beq_iff_eq,Bool.and_eq_true,Bool.not_eq_true'] at q;obtain⟨⟨⟨⟨⟨eC,eN⟩,edel⟩,etl⟩,eok⟩,eni⟩:=q;subst eC;subst eN;obtain⟨f1,f2,f3,f4,f5,f6,f7,f8,f9,f10,f11⟩:=cdx;have e1:f3=_:=hmro;have e2:f11=false:=edel;subst e1;subst e2;obtain⟨lst⟩:=slx;have e3:lst=_:=hslots;subst e3;exact⟨bmx,f4,f1,f5,f2,f6,f7,f8,f9,f10,ddx,j0,j1,j2,j3,j5,_,X _ _ hlook,.of_isNs (W.isNs_of_in X eok),Zb2 X (.of_isNs (W.isNs_of_in X eok)) eni,W.tail_of_in X etl⟩
  ·cases q
 ·cases q
section
variable{M:Model}{A:Around}{E:Value→Shared→Prop}{env:Env}
variable{nm q:Str}{C N:Addr}{bs bm:List Value}{hdct:Bool}{sn:List Str}{sub:List Value}{ab:Bool}{col:Option Bool}{dd:Option Addr}{k0 k1 k2 k3 k5:Option Value}{newId:String}
theorem Ku{s:Shared}{x:Sem Value}{Q:Flow→Shared→Prop}(hbase:bm.contains (.type "BaseException")=true)(hh:A.handled=none)
  (h:wpAny M A x (fun v s₁=>∃ e o vs,v = .ref e∧s₁.heap.get? C=some (excClassObj nm q C N bs bm hdct sn sub ab col dd k0 k1 k2 k3 k5 newId)∧s₁.heap.get? e=some o∧o.cls = .ref C∧o.data = .fields vs∧vs[1]? = some .none∧E (.ref e) s₁) E s) :
  wpAny M A (raiseStmt env (some x) none) Q E s:=by
 have hcB:(Value.ref C :: bm).contains (.type "BaseException")=true:=by rw[List.contains_cons,hbase,Bool.or_true]
 unfold raiseStmt;refine Zb (wpAny_mono h (fun v s₁ h₁=>?_) fun _ _ x=>x);obtain⟨e,o,vs,rfl,hC,he,hc,hd,h1,hE⟩:=h₁;obtain⟨hp,g,d,tk,os⟩:=s₁;obtain⟨oc,od,odt,osl⟩:=o;have hc':oc = .ref C:=hc;have hd':odt = .fields vs:=hd;subst hc' hd'
 repeat (first | with_reducible refine wpAny_field he rfl h1 ?_ | with_reducible refine wpAny_loadPart_at he ?_ | with_reducible refine wpAny_loadPart_at hC ?_ | (with_reducible refine wpAny_isSubtype_exc hC ?_;rw[hcB]) | wp_step)
 exact wpAny_raiseNew_none hh hE
end
def Zp3(X:Cx)(E:XK):Prop:=∀(pins:List (Addr×Obj)) (σ:St) (H:Hp) (s:Shared) (e C:Addr) (oe:Obj) (vs:Array Value) (od:Option Addr),Inv X pins σ H s→H e=none→X.s₀.heap.get? e=none→s.heap.get? e=some oe→oe.cls = .ref C→oe.dict=od→oe.data = .fields vs→vs[1]? = some .none→vs[2]? = some .none→E (.ref C) od H→X.xe (.ref e) s
theorem Zgx{P:Program}{w:World}{K:W.Frag}{mg:Str→Option Value}{base:Heap}{N:List Str}{qual:Str}{scope:Scope}{f:Addr}{cd:Value}{A:Around}{outer:List Env}{s:Shared}{H:Hp}{E:XK} :
  Zp3 (Nb (Ga P w) P w K mg base N qual scope f cd A outer s H E) E:=by
 intro pins σ H1 s1 e C oe vs od I hHe h0 he hc hdo hd h1 h2 hE;generalize hX:Nb (Ga P w) P w K mg base N qual scope f cd A outer s H E=X at I;have hk:(W.hideAll s1.heap (e :: Rg X.stack)).StaysIn s1.heap:=fun b o q=>W.of_hideAll _ q;have hn:(W.hideAll s1.heap (e :: Rg X.stack)).get? e=none:=W.hideAll_none _ (.head _);have hfr:s1.heap.FunFrames (W.hideAll s1.heap (e :: Rg X.stack)) X.stack:=W.funFrames_hide I.stack fun env he a ha=>Zx _ (List.mem_filterMap.mpr ⟨env,he,ha⟩);have trk:∀ b o,H1 b=some o→∃ ob,(W.hideAll s1.heap (e :: Rg X.stack)).get? b=some ob:=fun b o q=>by
  obtain⟨ob,z⟩:=(I.hok b o q).there;refine⟨ob,W.hideAll_get _ z fun y=>?_⟩;rcases Ja.mp y with y | y
  ·rw[y,hHe] at q;cases q
  ·rw[I.stkFree b y] at q;cases q
 have inB:∀ b o,s.heap.get? b=some o→b∉Rg outer→∃ ob,(W.hideAll s1.heap (e :: Rg X.stack)).get? b=some ob:=fun b o eb hb=>by
  subst hX;obtain⟨o',e'⟩:=I.base.there b o eb (by intro z;cases z);refine⟨o',W.hideAll_get _ e' fun y=>?_⟩;rcases Ja.mp y with y | y
  ·rw[y] at eb
   rw[show s.heap.get? e=none from h0] at eb;cases eb
  ·exact I.notFr eb hb y
 subst hX;refine Zdt (outer:=outer) I.ok.frames hfr rfl hk hn he ⟨hc,hdo⟩ hd h1 h2 fun h'' x1 x4=>?_;exact⟨e,.ref C,od,H1,_,rfl,I.os,I.bare,I.un_fly rfl hk x1.stays x4 inB,I.hok.stays trk hk x1.stays,⟨⟨_,x1,.nil⟩,trk,hHe⟩,inB,hE⟩
theorem Fun.okXD{P:Program}{w:World}{K:W.Frag}{mg:Str→Option Value}{base:Heap}{x qual:Str}{st:Stmt}{f:Addr}{fd:FuncData}{N ps:List Str}{k:Nat}{sp:Sp}(F:Fun K x qual st f fd)(S:FnScope N ps (Zm st))(len:∀ vs H Q E,sp vs H Q E→vs.length=ps.length)
  (hbody:∀(cdv:Value) (A:Around) (outer:List Env) (s:Shared) (H:Hp) (vs:List V) (Q:VK) (E:XK),Room k (A.deeper (envOfC qual (Zm st) s.heap.objs.size f cdv))→sp vs H Q E →
   Thr (Nb (Ga P w) P w K mg base N qual (Zm st) f cdv A outer s H E) E→Zp3 (Nb (Ga P w) P w K mg base N qual (Zm st) f cdv A outer s H E) E →
   ∃ t,PSs (Nb (Ga P w) P w K mg base N qual (Zm st) f cdv A outer s H E) (Y1 st) t∧t { nx:=fun _ H'=>Q .non H',rt:=Q } (start N vs) H):FnOk P w K mg base (Ga P w) (k+1) f fd ps sp:=
 F.okX S len fun cdv A outer s H vs Q E hr h T=>hbody cdv A outer s H vs Q E hr h T Zgx
def Mo(H:Hp)(a:Addr):Hp:=fun b=>if b=a then none else H b
theorem X8{H:Hp}{a b:Addr}(h:b≠a):Mo H a b=H b:=Zj h
theorem Mn{H:Hp}{a:Addr}:Mo H a a=none:=Zv rfl
def Zky(C:Addr)(sp:Sp)(E:XK)(t:TA):TS:=fun _ σ H=>t σ H fun vs H1=>vs.length≤sizeLine∧∀ ea,H1 ea=none →
 sp (.ref ea :: vs) (upd H1 ea (Ai ea C none)) (fun v H2=>v = .non∧∃ od,H2 ea=some (Ai ea C od)∧E (.ref C) od (Mo H2 ea)) E0
theorem Ze3{X:Cx}{k:Nat}{f:Addr}{fd:FuncData}{ps:List Str}{sp:Sp}{x:Str}{np cpos pos:Pos}{e:Expr}{es:List Expr}{t:TA}{C:Addr}{E:XK}(T:Zp3 X E)(hh:X.A.handled=none)(hg:Gl X x)(hm:X.mg x=some (.ref C))
  (hc:Mj X.K C Uv "ValueError.__new__" f=true) (hfn:W.isFn X.K (.ref f)=true) (F:FnOk X.prog X.w X.K X.mg X.base Yq k f fd ps sp) (hr:Room (k+1) X.A) (hb:Binds X.K fd ps []) (hex:X.ex=[]) (ha:PA X (e :: es) t)
  (hdb:(x == ("__debug__":Str))=false:=by decide) (he:starEach (e :: es) X.env=(false,eval e X.env) :: starEach es X.env:=by rfl) (hpl:(backTo cpos (starEach es X.env)).any (·.1)=false:=by rfl) :
  PS X (.Raise (some (.Call (.Name x np) (e :: es) [] cpos)) none pos) (Zky C sp E t):=by
 intro pins s σ H D I h;obtain⟨bm,N,nm,qn,bs,hdct,sn,sub,ab,col,dd,k0,k1,k2,k3,k5,mN,hC,hN,hni,hT⟩:=Zke I.mod.kin hc;have hB:bm.contains (.type "BaseException")=true:=hT.hasType PySem.F.excBase_ValueError.hasBase;rw[arm_exec_Raise];simp only[evalOpt,Option.map];refine Zb (wpAny_standAt (Ku (C:=C) (nm:=nm) (q:=qn) (N:=N) (bs:=bs) (bm:=bm) (hdct:=hdct) (sn:=sn) (sub:=sub) (ab:=ab) (col:=col) (dd:=dd) (k0:=k0) (k1:=k1) (k2:=k2) (k3:=k3) (k5:=k5) (newId:="ValueError.__new__") hB hh ?_));refine Zb (wpAny_mono (wpAny_Call_ofName (Eg I hg hm ?_ hdb)) (fun v s₃ h₃=>Zb (wpAny_standAt (Ze h₃))) fun _ _ x=>x);unfold callWith;have hplain:(backTo cpos (starEach (e :: es) X.env)).any (·.1)=false:=by rw[he];show(false || (backTo cpos (starEach es X.env)).any (·.1))=false;rw[hpl];rfl
 have hA:=ha cpos pins s σ H _ I h;rw[he] at hA hplain ⊢;refine Zb (wpAny_holding (Calls.evalArgs_plain (Ub hA fun us s2 q2=>Zb (wpAny_standAt ?_))));obtain⟨vs,H2,I2,r,hz,hE⟩:=q2;have lenu:=r.length;have hC2:=I2.bk _ _ hC;have hN2:=hN.keeps I2.bk;have hT2:=hT.keeps I2.bk;obtain⟨oI,hoI,hfc⟩:∃ oI,s2.heap.get? f=some oI∧oI.cls = .type "function":=by
  have z:W.typeIn X.K (.ref f)=some (.type "function"):=beq_iff_eq.mp hfn;obtain⟨oI,ho,hc⟩:=Jq.mp z;exact⟨oI,I2.kIn _ _ ho,hc⟩
 obtain⟨hp,g,d,tk,os⟩:=s2;simp only[hplain,List.nil_append];refine Zb (wpAny_keeperOf_exc hC2 ?_);refine Zb (Zcl (hrest:=by omega) PySem.F.excBase_ValueError hT2 hC2 hN2 hni hoI hfc fun h1 ea hm1=>?_);obtain⟨tp,e1,_,_⟩:=hm1.there;have new:hp.get? ea=none:=hm1.new;have nea:∀ b o,hp.get? b=some o→b≠ea:=fun b o q z=>by rw[z,new] at q;cases q
 have hHe:H2 ea=none:=by
  cases q:H2 ea with
  | none=>rfl
  | some o=>
   obtain⟨ob,z⟩:=(I2.hok ea o q).there;exact absurd rfl (nea ea ob z)
 have nex:∀ b o,H2 b=some o→b≠ea:=fun b o q z=>by rw[z,hHe] at q;cases q
 have h0:X.s₀.heap.get? ea=none:=by
  cases q:X.s₀.heap.get? ea with
  | none=>rfl
  | some o=>
   obtain⟨o',z⟩:=I2.base.there ea o q (by rw[hex];simp);exact absurd rfl (nea ea o' z)
 have I3:Inv X pins σ (upd H2 ea (Ai ea C none)) ⟨h1,g,d,tk,os⟩:=by
  refine I2.un (t':=tk) ⟨fun b o q _ _ _=>hm1.keeps b o q,fun b o q _ _ _=>⟨o.slots,hm1.keeps b o q⟩,fun b o q n _=>by rw[Z8 (nea b o q)];exact n,fun b o q _=>⟨o,hm1.keeps b o q⟩,
   fun b xs q=>by rw[Z8 (nex b _ q)];exact q,fun b o u q=>by rw[Z8 (nex b _ q)];exact q,fun b ps q=>⟨#[],by rw[Z8 (nex b _ q),q];simp⟩⟩ fun b u q=>?_
  by_cases z:b=ea
  ·subst z
   rw[Zq] at q;cases q;exact Zc9 e1 rfl rfl rfl rfl rfl
  ·rw[Z8 z] at q
   exact(I2.hok b u q).stay (fun c w' _ r=>hm1.keeps c w' r) (fun c r=>by rw[Z8 (nex c _ r)];exact r) fun c xs r=>by rw[Z8 (nex c _ r)];exact r
 have hq:=hE ea hHe;have r2:Vals (V.ref ea :: vs) (Value.ref ea :: us):=.cons rfl r;have hl:(Value.ref ea :: us++[]).length=ps.length:=by
  have e:=r2.length;rw[F.len _ _ _ _ hq] at e;rw[J9];exact e.symm
 have hbb:=hb ⟨h1,g,d,tk,os⟩ (Value.ref ea :: us) I3.kIn hl;rw[J9] at hbb;refine wpAny_call (codeAny_mono (F.run _ X.stack _ _ ⟨Value.ref ea :: us,[]⟩ (Value.ref ea :: us) _ _ E0 (hr.make C us []) (I3.env0.make C us []) hbb r2 hq) fun r' s' hq'=>?_);cases r' with
 | error e=>exact(show False from hq').elim
 | ok fl=>
  cases fl with
  | next=>exact False.elim hq'
  | brk=>exact False.elim hq'
  | cont=>exact False.elim hq'
  | ret u=>
   obtain⟨v,H4,os',bare,un,hok,rv,rfl,od,hH4,hE4⟩:=hq';have nown:∀ b o,H4 b=some o→(∀ φ,o ≠ .ext φ)→b≠ea:=fun b o q k z=>by
    rw[z,hH4] at q;cases q;exact k _ rfl
   have un5:Un (Rg X.stack) [] H2 (Mo H4 ea) hp s'.heap:=by
    refine⟨fun b o q n hb hx=>un.keep b o (hm1.keeps b o q) (by rw[Z8 (nea b o q)];exact n) hb hx,fun b o q n hb hx=>un.slot b o (hm1.keeps b o q) (by rw[Z8 (nea b o q)];exact n) hb hx,
     fun b o q n hx=>by rw[X8 (nea b o q)];exact un.free b o (hm1.keeps b o q) (by rw[Z8 (nea b o q)];exact n) hx,fun b o q hx=>un.there b o (hm1.keeps b o q) hx,
     fun b xs q=>by rw[X8 (nex b _ q)];exact un.tups b xs (by rw[Z8 (nex b _ q)];exact q),fun b o u q=>by rw[X8 (nex b _ q)];exact un.frzs b o u (by rw[Z8 (nex b _ q)];exact q),
     fun b ps q=>by rw[X8 (nex b _ q)];exact un.tbls b ps (by rw[Z8 (nex b _ q)];exact q)⟩
   have hok5:HOk X.prog X.w (Mo H4 ea) s'.heap:=fun b o q=>by
    by_cases z:b=ea
    ·rw[z,Mn] at q;cases q
    ·rw[X8 z] at q
     exact(hok b o q).stay (fun _ _ _ r=>r) (fun c r=>by rw[X8 (nown c _ r fun _ y=>by cases y)];exact r) fun c xs r=>by rw[X8 (nown c _ r fun _ y=>by cases y)];exact r
   have I5:Inv X pins σ (Mo H4 ea) s':=I2.call' (ch:=[]) os' un5 hok5 bare fun b z=>absurd z (by simp);obtain⟨⟨oe,ws,e1',c1,d1,f1,g1,g2⟩,_,_⟩:=hok ea _ hH4;refine⟨rv,Zb (wpAny_holding (wpAny_point (Ze ?_)))⟩;exact⟨ea,oe,ws,rfl,I5.bk _ _ hC,e1',c1,f1,g1,T pins σ (Mo H4 ea) s' ea C oe ws od I5 Mn h0 e1' c1 d1 f1 g1 g2 hE4⟩
def R7(a C:Addr)(od:Option Addr):HO:=.ext fun h=>∃ o vs,h.get? a=some o∧o.cls = .ref C∧o.dict=od∧o.data = .fields vs
theorem Inv.trackD{X:Cx}{pins:List (Addr×Obj)}{σ:St}{H:Hp}{s:Shared}{a C:Addr}{od:Option Addr}{ob:Obj}{vs:Array Value}(J:Inv X pins σ H s)(hn:H a=none)(h0:X.s₀.heap.get? a=none)(ho:s.heap.get? a=some ob)(hc:ob.cls = .ref C)(hdd:ob.dict=od)(hd:ob.data = .fields vs)(hp:∀ p∈X.pn++pins,p.1≠a) :
  Inv X pins σ (upd H a (R7 a C od)) s:=by
 have other:∀ b u,H b=some u→upd H a (R7 a C od) b=some u:=fun b u q=>by rw[Z8 (Jz q hn)];exact q
 have nel:X.env.locals≠a:=fun z=>by
  obtain⟨m,⟨o,es,ep,h1,h2,_⟩,_⟩:=J.loc;rw[z,ho] at h1;cases h1;rw[hd] at h2;cases h2
 have nec:∀ x c,X.env.cells.lookup x=some c→c≠a:=fun x c e z=>by
  obtain⟨v,o,h1,h2⟩:=J.cell x c e;rw[z,ho] at h1;cases h1;rw[hd] at h2;cases h2
 refine⟨J.ok,J.os,J.bare,⟨J.base.keep,J.base.slot,fun b o e n hx=>?_,J.base.there,fun b xs q=>other _ _ (J.base.tups b xs q),fun b o u q=>other _ _ (J.base.frzs b o u q),fun b ps q=>?_⟩,J.loc,J.cell,?_,fun x c e=>?_,fun p q=>?_,fun b u e=>?_,J.len⟩
 ·rw[Z8 fun z=>by rw[z,h0] at e;cases e]
  exact J.base.free b o e n hx
 ·obtain⟨more,e⟩:=J.base.tbls b ps q
  exact⟨more,other _ _ e⟩
 ·rw[Z8 nel]
  exact J.free
 ·rw[Z8 (nec x c e)]
  exact J.freeC x c e
 ·obtain⟨e,n,r⟩:=J.pin p q
  exact⟨e,by rw[Z8 (hp p q)];exact n,r⟩
 ·by_cases hb:b=a
  ·subst hb
   rw[Zq] at e;cases e;exact⟨⟨ob,vs,ho,hc,hdd,hd⟩,⟨ob,ho⟩,fun h1 h2 ⟨o,ws,e1,e2⟩ k=>⟨o,ws,k _ e1,e2⟩⟩
  ·rw[Z8 hb] at e
   exact(J.hok b u e).stay (fun _ _ _ q=>q) (fun c q=>other _ _ q) fun c xs q=>other _ _ q
def Zq4(K:W.Frag):List V→Hp→VK→Prop:=fun xs H Q=>∃ a C od c b,xs=[.ref a,c]∧isC c=true∧H a=some (R7 a C od)∧ExcF K C∧W.kitOne K (.ref C) (toC c)=some b∧Q (.bl b) H
theorem Q3{X:Cx}:Xw X (.builtin "isinstance") (Zq4 X.K):=by
 intro pins s σ H xs us Q I r h;obtain⟨a,C,od,c,b,rfl,hc,hH,F,e,q⟩:=h;obtain⟨u,w',rfl,r1,r2⟩:=Zcn r;cases r1;have e2:=Znx hc r2;subst e2;obtain⟨⟨o,vs,e1,e3,e4⟩,_,_⟩:=I.hok a _ hH;exact W.kia_one (Zj1 F) I.kIn ⟨o,e1,e3⟩ e (fun z=>nomatch z) fun tk=>⟨.bl b,H,I.tok tk,rfl,q⟩
def Zqo(K:W.Frag)(ta:TE)(f:Str):TE:=fun σ H Q=>ta σ H fun x H1=>∃ a C d fs v,x = .ref a∧H1 a=some (R7 a C (some d))∧H1 d=some (.xd fs)∧ExcF K C∧ExcS K C∧NoAttr K C f∧fs.lookup f=some v∧Q v H1
theorem Zdj{X:Cx}{e:Expr}{f:Str}{pos:Pos}{ta:TE}(he:PE X e ta)(hb:attributeBase e f X.env (eval e X.env)=eval e X.env):PE X (.Attribute e f pos) (Zqo X.K ta f):=by
 intro pins s σ H Q I h;refine Zeb hb (Ub (he pins s σ H _ I h) fun u s1 ⟨x,H1,I1,rx,a,C,d,fs,v,ex,ea,ed,F,G,n,l,q⟩=>?_);subst ex;obtain rfl:u=Value.ref a:=rx;obtain⟨⟨o,vs,e1,e2,e3,e4⟩,_,_⟩:=I1.hok a _ ea;obtain⟨mA,hN,hr⟩:=I1.hok d _ ed;obtain⟨u',hu,ru⟩:=RelO.some_of (v:=v) (o:=mA f) (by rw[← l];exact hr f);exact Zmt I1.kIn F G n e1 e2 e4 e3 hN hu (Do ru) ⟨v,H1,I1.tok _,ru,q⟩
section
variable{X:Cx}{n:Str}{np hpos np2 hpos2 pos:Pos}{i:Nat}
def asD(D:Ends)(i:Nat):Ends:={ nx:=fun σ' H'=>D.nx (σ'.set i none) H',rt:=D.rt,bk:=fun σ' H'=>D.bk (σ'.set i none) H',ct:=fun σ' H'=>D.ct (σ'.set i none) H' }
theorem Zg6{pins:List (Addr×Obj)}{σ:St}{H1:Hp}{D:Ends}{ea C:Addr}{od:Option Addr}{B:Heap}{s1:Shared}{h5:Heap}{l:List Env}{ctx:Value}{b₀:Stmt}{suite:List Stmt}{th:TS}(hex:X.ex=[])(hN:X.N.Nodup)(hi:X.N[i]? = some n)(hlo:X.env.kindOf n=some .local)
  (J:Inv X pins σ H1 s1) (hB:Zm7 X pins B) (trk:∀ b o,H1 b=some o→∃ ob,B.get? b=some ob) (noe:H1 ea=none) (st:B.StaysIn s1.heap) (fl5:FlyC B l ea (.ref C) od ctx .none h5) (up5:s1.heap.UpToSlots h5)
  (hs:∀ e,PSs (hCx X e) (b₀ :: suite) th) (hth:th (asD D i) (σ.set i (some (.ref ea))) (upd H1 ea (R7 ea C od))) :
  codeAny (model X.prog X.w) (X.A.mark (some (.ref ea))) (.handlers (.ref ea) [.ExceptHandler none (some n) (b₀ :: suite) hpos] X.env) (fun r s₂=>match r with
   | .ok f=>wpAny (model X.prog X.w) X.A (do bindName X.env n .none;unbindBehindTheSuite X.env n hpos) (fun _ s₃=>SP X pins D f s₃) X.xe s₂
   | .error x=>cameBackBy (model X.prog X.w) X.A X.env X.xe x s₂) { s1 with heap:=h5 }:=by
 refine codeAny_handlers_suite_as (Zdu fl5 fun h6 fl6 up6=>?_);have J6:Inv X pins σ H1 { s1 with heap:=h6 }:=J.landed hB trk st fl6.stays (up5.trans up6);obtain⟨oe,vs,_,_,_,⟨ho,hc,hd,_,_⟩,_⟩:=fl6.rcd;have h0:X.s₀.heap.get? ea=none:=by
  cases q:X.s₀.heap.get? ea with
  | none=>rfl
  | some o=>
   by_cases hb:ea∈X.fs
   ·obtain⟨_,o2,ho2,hd2⟩:=J6.funs.mem hb
    rw[ho] at ho2;cases ho2;exact absurd hd (hd2 vs)
   ·obtain⟨ob,z⟩:=hB.1 ea o q (by rw[hex];simp) hb
    rw[fl6.new] at z;cases z
 have J7:Inv X pins σ (upd H1 ea (R7 ea C od)) { s1 with heap:=h6 }:=J6.trackD noe h0 ho hc.1 hc.2 hd fun p hp z=>by
  obtain⟨ob,y⟩:=hB.2 p hp;rw[z,fl6.new] at y;cases y
 have J8:Inv (hCx X ea) pins σ (upd H1 ea (R7 ea C od)) { s1 with heap:=h6 }:=J7.inH;refine Gw (X:=hCx X ea) J8 hN hi (Or.inl hlo) (v:=.ref ea) rfl (fun s7 I7=>?_) (Or.inr hlo);refine wpAny_mono (hs ea pins s7 _ _ _ I7 hth) (fun fw s8 q8=>?_) fun _ _ z=>False.elim z;show wpAny (model X.prog X.w) X.A (do bindName X.env n .none;unbindBehindTheSuite X.env n hpos) (fun _ s9=>SP X pins D fw s9) X.xe s8;cases fw with
 | next=>
  obtain⟨σ',H',I',q'⟩:=q8;exact Bc (I'.outH J.ok) hN hi hlo fun s' K'=>⟨_,H',K',q'⟩
 | brk=>
  obtain⟨σ',H',I',q'⟩:=q8;exact Bc (I'.outH J.ok) hN hi hlo fun s' K'=>⟨_,H',K',q'⟩
 | cont=>
  obtain⟨σ',H',I',q'⟩:=q8;exact Bc (I'.outH J.ok) hN hi hlo fun s' K'=>⟨_,H',K',q'⟩
 | ret u=>
  obtain⟨v,σ',H',I',r',q'⟩:=q8;exact Bc (I'.outH J.ok) hN hi hlo fun s' K'=>⟨v,_,H',K',r',q'⟩
def Zqh(K:W.Frag)(tb:XK→TS)(i:Nat)(CT:Value)(th:TS):TS:=fun D σ H=>
 tb (fun cls od H1=>∃ C,cls = .ref C∧W.exmOne K cls CT=some true∧∀ ea,H1 ea=none→th (asD D i) (σ.set i (some (.ref ea))) (upd H1 ea (R7 ea C od))) D σ H
theorem Zlh{body:List Stmt}{T:Str}{b₀:Stmt}{suite:List Stmt}{CT:Addr}{tb:XK→TS}{th:TS}(hst:X.stack=X.env :: X.outer)(hfr:X.env.frame=some X.env.locals)(hex:X.ex=[])(hN:X.N.Nodup)(hi:X.N[i]? = some n)
  (hlo:X.env.kindOf n=some .local) (hb:PSX X body tb) (hg:Gl X T) (hm:X.mg T=some (.ref CT)) (hs:∀ e,PSs (hCx X e) (b₀ :: suite) th) (hdb:(T == ("__debug__":Str))=false:=by decide) :
  PS X (.Try body [.ExceptHandler (some (.Name T np)) (some n) (b₀ :: suite) hpos] [] [] pos) (Zqh X.K tb i (.ref CT) th):=by
 intro pins s σ H D I h;refine wpAny_Try_except (wpAny_mono (hb pins s σ H D _ I h) (fun f s1 hq=>?_) fun e s1 hx=>?_)
 ·cases f with
  | next=>exact wpAny_execs_nil hq
  | brk=>exact hq
  | cont=>exact hq
  | ret u=>exact hq
 obtain⟨ea,cls,od,H1,B,rfl,J,F,hB,C,rfl,hm1,hth⟩:=hx;obtain⟨ctx,fl,hch⟩:=F.fly;rw[hst] at fl;refine Znl (by rw[J.ok.frames,hst]) hfr fl fun h4 held4 up4=>Zdu held4 fun h5 fl5 up5=>?_;have J5:Inv X pins σ H1 { s1 with heap:=h5 }:=J.landed hB F.trk fl.stays fl5.stays (up4.trans up5);have LT:W.Looks (model X.prog X.w) h5 (typeOf (.ref ea)) (.ref C):=fl5.looks;refine wpAny_handleBy_cons (codeAny_handlers_test (Eg (X:=hCx X ea) J5.inH hg hm ?_ hdb)) (by intro q;cases q);refine(W.exm_one J5.kIn LT hm1).here ?_;exact Zg6 hex hN hi hlo J hB F.trk F.noe fl.stays fl5 (up4.trans up5) hs (hth ea F.noe)
end
section
variable{X:Cx}{k:Nat}{f C:Addr}{fd:FuncData}{ps:List Str}{sp:Sp}{dvs:List V}{ds:List Value}{m name:Str}{p pos apos cpos:Pos}{o e a:Expr}{es:List Expr}{ta to:TE}{t:TA}
end
theorem Sv{xs:List V}{us:List Value}(r:Vals xs us){j:Nat}(h:j < us.toArray.size):RelV (xs.getD j .non) us.toArray[j]∧j < xs.length:=by
 have hj:j < us.length:=by simpa using h
 have hx:j < xs.length:=by rw[r.length];exact hj
 obtain⟨u,e,ru⟩:=r.get (Zg hx);rw[Zg hj] at e;have g:xs.getD j .non=xs[j]:=by rw[Zr,Zg hx];rfl
 have eu:us[j]=u:=Zy e;refine⟨?_,hx⟩;rw[g,List.getElem_toArray,eu];exact ru
section
variable{X:Cx}{pins:List (Addr×Obj)}{σ:St}{H:Hp}{s:Shared}
end
section
variable{X:Cx}{k:Nat}{f C:Addr}{fd:FuncData}{ps:List Str}{sp:Sp}{dvs:List V}{ds:List Value}{x:Str}{p pos:Pos}{e:Expr}{es:List Expr}{t:TA}
end
end L2
namespace My
open PySem L2
theorem X6{te:TE}{i:Nat}{u:TS}{D:Ends}{σ:St}{H:Hp}(G:V→Hp→Prop)(h:∀ R:V→Hp→Prop,(∀ v H',G v H'→R v H')→te σ H R)(hu:∀ v H',G v H'→u D (σ.set i (some v)) H'):Zg1 (Zk1 te (Qw i)) u D σ H:=h _ hu
theorem Ox{s u:TS}{D:Ends}{σ:St}{H:Hp}(Pv:St→Hp→Prop)(h1:∀ D':Ends,D'.rt=D.rt→(∀ σ H,Pv σ H→D'.nx σ H)→s D' σ H)(h2:∀ σ H,Pv σ H→u D σ H):Zg1 s u D σ H:=h1 { D with nx:=u D } rfl h2
theorem Zj6{c:TT}{t u r:TS}{D:Ends}{σ:St}{H:Hp}(Cb:Bool→Hp→Prop)(Pv:St→Hp→Prop)(hc:∀ R:Bool→Hp→Prop,(∀ b H',Cb b H'→R b H')→c σ H R)
  (h1:∀ H',Cb true H'→∀ D':Ends,D'.rt=D.rt→(∀ σ H,Pv σ H→D'.nx σ H)→t D' σ H') (h2:∀ H',Cb false H'→∀ D':Ends,D'.rt=D.rt→(∀ σ H,Pv σ H→D'.nx σ H)→u D' σ H') (h3:∀ σ H,Pv σ H→r D σ H):Zg1 (Zqn c t u) r D σ H:=
 hc _ fun b H' hb=>match b,hb with | true,hb=>Yt (h1 H' hb { D with nx:=r D } rfl h3) | false,hb=>J3 (h2 H' hb { D with nx:=r D } rfl h3)
theorem Xn{T:St→Hp→Prop}{rt:VK}{bk ct:St→Hp→Prop}{σ:St}{H:Hp}(h:T σ H):Zm9 (Ends.mk T rt bk ct) σ H:=h
theorem Zdn{T:St→Hp→Prop}{rt:VK}{bk ct:St→Hp→Prop}{σ:St}{H:Hp}{i:Nat}{v:V}(h:T (σ.set i (some v)) H):Qw i v σ H (Ends.mk T rt bk ct).nx:=h
theorem int_dec{a b:Int}:decide (V.int a=V.int b)=decide (a=b):=decide_eq_decide.mpr ⟨fun h=>by injection h,fun h=>by rw[h]⟩
theorem nat_dec{a b:Nat}:decide (V.int (a:Nat)=V.int (b:Nat))=decide (a=b):=int_dec.trans (decide_eq_decide.mpr ⟨fun h=>by omega,fun h=>by omega⟩)
theorem Zjn{r n:Nat}{i:Int}(h:i=((n:Nat):Int)):decide (V.int ((r:Nat):Int)=V.int i)=decide (r=n):=by subst h;exact nat_dec
theorem Au{z:Int}{n:Nat}(h:0 < n):∃ m:Nat,m < n∧z % ((n:Nat):Int)=((m:Nat):Int):=by
 obtain⟨m,e⟩:=Int.eq_ofNat_of_zero_le (Yo z (show((n:Nat):Int)≠0 by omega));exact⟨m,by have:=Yl z (show(0:Int) < ((n:Nat):Int) by omega);omega,e⟩
theorem Zdy{n i:Nat}(h:i < n):ixN n ((i:Nat):Int)=some i:=by
 unfold ixN;rw[Zv (by omega),Zv (by omega),Z2]
end My
namespace L2
open PySem
end L2
namespace L2
open PySem PySem.Spec PyProof.Rows
section
variable{X:Cx}
end
end L2
namespace My
open PySem L2 PySem.Spec PyProof.Rows
section
variable{X:Cx}{e st:Expr}{te:TE}{ts:TO}{pos p2:Pos}
end
def up(c:Nat):Nat:=if 97≤c∧c≤122 then c - 32 else c
end My
namespace L2
open PySem PySem.Spec PyProof.Rows
section
variable{prog:Program}{w:World}{A:Around}{E:Value→Shared→Prop}{s:Shared}
end
section
variable{prog:Program}{w:World}{A:Around}{E:Value→Shared→Prop}{s:Shared}{h₀:Heap}{L l:Addr}{m:Str→Option Value}{news:List (Addr×Obj)}{Q:Value→Shared→Prop}
end
section
variable{prog:Program}{w:World}{A:Around}{E:Value→Shared→Prop}{s:Shared}{Q:Value→Shared→Prop}{pv nm qual:Str}{p p1 p2 p3:Pos}{f cc nl c':Addr}{pm ctv:Value}
end
section
variable{X:Cx}{pins:List (Addr×Obj)}{σ:St}{H:Hp}{s:Shared}{c P:Addr}{pv nm:Str}{p p1 p2 p3 pos:Pos}{cc:Addr}
end
end L2
namespace L2
open PySem PySem.Spec PyProof.Rows Att
section
variable{X:Cx}{pins:List (Addr×Obj)}{σ:St}{H:Hp}{s:Shared}{c P:Addr}{pv nm:Str}{p p1 p2 p3 pos:Pos}{cc:Addr}
end
section
variable{X:Cx}{c P:Addr}{pv nm:Str}{p p1 p2 p3 pos np cpos kp:Pos}{e:Expr}{t:TA}{i:Nat}
end
end L2
namespace L2
open PySem PySem.Spec PyProof.Rows
section
variable{X:Cx}
theorem Zaq{prog:Program}{w:World}{A:Around}{bs:List Bool}{its:List Value}(ri:Vals (bs.map V.bl) its):TruthOf prog w A (fun i v=>its.toArray[i]? = some v) (fun i=>bs.getD i false):=by
 intro i v s Q E hv hQ;have hv':its[i]? = some v:=by simpa using hv
 have hi:i < bs.length:=by
  have h1:=(Zu.mp hv').1;have h2:=ri.length;rw[Zk] at h2;omega
 obtain⟨u,eu,ru⟩:=ri.get (i:=i) (x:=.bl (bs[i])) (by rw[Z4,Zg hi];rfl);rw[hv'] at eu;cases eu;cases ru;have e:bs.getD i false=bs[i]:=by rw[Zr,Zg hi];rfl
 have hQ':Q (bs.getD i false) s:=hQ;rw[e] at hQ';exact wpAny_truthy_bool hQ'
theorem Zgf(hc:X.calm=true):Xw X (.builtin "any") (fun xs H Q=>∃(a:Addr) (bs:List Bool),xs=[.ref a]∧SqL X.K H a (bs.map V.bl)∧Q (.bl (bs.any id)) H):=by
 intro pins s σ H xs us Q I r h;obtain⟨a,bs,rfl,hS,q⟩:=h;obtain⟨u,rfl,ru⟩:=Qu r;cases ru;obtain⟨its,ri,pl,hz⟩:=I.list hS;have hl:s.heap.IsList a its.toArray:=Qq pl;have ha:a < s.heap.objs.size:=by obtain⟨_,e,_⟩:=hl;exact Z3 e
 have hh:X.A.in1.handled=none:=I.ok.hd hc;refine call_any_walk (wpAny_pyIter_list hl ?_);refine⟨s.heap.objs.size,[s.heap.objs.size,a],[s.heap.objs.size],its.toArray.size,(fun i v=>its.toArray[i]? = some v),(fun i h=>h.IsListIter s.heap.objs.size a i∧h.IsList a its.toArray),(fun i=>bs.getD i false),rfl,Walks.list hh s.heap.objs.size a (Jh ha) its.toArray,
  ⟨⟨_,Z6 _ rfl,rfl,rfl⟩,hl.push _⟩,Zaq ri,fun h' tk hk=>?_⟩
 have e:(List.range its.toArray.size).any (fun i=>bs.getD i false)=bs.any id:=by
  have h2:=ri.length;rw[Zk] at h2;have h3:its.toArray.size=bs.length:=by simp [h2]
  rw[h3];have e1:(List.range bs.length).map (fun i=>bs.getD i false)=bs:=by
   apply List.ext_getElem
   ·simp
   ·intro i h1 h2
    simp;rw[Zg (by simpa using h2)];rfl
  conv=>rhs;rw[← e1]
  rw[List.any_map];rfl
 rw[e];refine⟨.bl _,H,I.kept (t':=tk) fun b o eb=>hk b o ?_ (Zh _ eb),rfl,q⟩;intro hm;have:b=s.heap.objs.size:=by simpa using hm
 subst this;exact absurd (Z3 eb) (Nat.lt_irrefl _)
def Zq9:R2:=fun x y H Q=>∃ a b xs ys,x = .ref a∧y = .ref b∧H a=some (.tup xs)∧H b=some (.tup ys)∧xs.length+ys.length≤sizeLine∧∀ p H',Same H H'→H' p=some (.tup (xs++ys))→Q (.ref p) H'
theorem Zlu:Nf X (binaryOp .Add) Zq9:=by
 intro pins s σ H x y v u Q I rx ry h;obtain⟨a,b,xs,ys,rfl,rfl,ha,hb,hz,q⟩:=h;by_cases hx:xs=[]
 ·subst hx
  cases rx;cases ry;obtain⟨its,r1,p1,_⟩:=I.tuple (.inl (.inl ha));obtain⟨its2,r2,p2,_⟩:=I.tuple (.inl (.inl hb));have e1:its=[]:=r1.nil_iff.mpr rfl;subst e1;obtain⟨⟨cls,dd,data,sl⟩,ho,hc,n,hd⟩:=id p1;obtain⟨⟨cls2,dd2,data2,sl2⟩,ho2,hc2,n2,hd2⟩:=id p2;simp only at hc hd hc2 hd2;subst hc hd hc2 hd2;exact concat_meets ⟨_,ho,rfl⟩ ⟨_,ho2,rfl⟩ noFill_tuple_add seq_tuple_add PySem.F.slot_tuple_add PySem.F.entry_tuple_add (PySem.F.args_tuple_add_2 _ _)
   (tuple_addW0 a b _ _ n n2 dd dd2 sl sl2 rfl) ⟨ho,ho2,⟨.ref b,H,I,rfl,q b H (fun _ _ e=>e) hb⟩⟩
 ·exact Zlt pins s σ H _ _ v u Q I rx ry ⟨a,b,xs,ys,rfl,rfl,.inl (.inl ha),.inl (.inl hb),hx,hz,fun e=>by subst e;exact q a H (fun _ _ e=>e) (by rw[J9];exact ha),
   fun _ p hp=>q p _ (fun c o e=>by rw[Z8 (Jz e hp)];exact e) Zq⟩
end
end L2
namespace My
open PySem L2
abbrev Zhr:Stmt:=top 5
abbrev Zbl:Stmt:=top 18
abbrev O8:Stmt:=top 19
abbrev Vd:Stmt:=Yn (top 67) 1
abbrev Ac:Stmt:=top 21
abbrev Zba:Stmt:=top 22
abbrev Zhn:Stmt:=top 23
abbrev Nj:Stmt:=top 24
abbrev O1:Stmt:=top 25
abbrev Zbc:Stmt:=top 26
abbrev Zc8:Stmt:=top 27
abbrev Ah:Stmt:=top 28
theorem Zdk:∀ s≤4,∀ h≤8,Eo (U6 s h) 0=Ty s h:=by decide +kernel
theorem Zln:∀ s≤4,∀ h≤8,∀ c∈U6 s h,c < 32:=by decide +kernel
theorem K6:∀ s≤4,∀ h≤8,(U6 s h).length≤32:=by decide +kernel
section
variable{P:Program}{w:World}{K:W.Frag}{mg:Str→Option Value}{base:Heap}{f g:Addr}{fd gd:FuncData}
def G7(K:W.Frag):Sp:=fun vs H Q _=>∃ h:Nat,vs=[.int h]∧h < 4294967296∧Q (.int (Xi 32 h)) H
theorem scMany:FnScope ["hand","number"] ["hand"] (Zm Zhr):=Uw (by decide +kernel)
theorem Zl5{k:Nat}(F:Fun K "many" "many" Zhr f fd):FnOk P w K mg base Yq (k+1) f fd ["hand"] (G7 K):=by
 refine F.ok scMany (fun vs H Q E h=>?_) (fun cdv A outer s H vs Q E hr h=>?_)
 ·obtain⟨h,rfl,_⟩:=h
  rfl
 obtain⟨h,rfl,h32,q⟩:=h;refine⟨_,Zi (Jf (i:=1) scMany.nd rfl (Or.inl rfl) Zo)
  (Zi (Kw PassesOwn.never (Jm Q8 (pv 0) Zo (Jl _)) (Zi (Jf (i:=0) scMany.nd rfl (Or.inl rfl) (Jj T4 (pv 0) (Jj Bs (pv 0) Zo)))
   (Zn (Jf (i:=1) scMany.nd rfl (Or.inl rfl) (Jj Y8 (pv 1) Zo)))))
  (Zn (Z9 (pv 1)))),?_⟩
 refine Kg (fun σ H'=>H'=H∧∃ a n:Nat,σ=[some (.int (a:Nat)),some (.int (n:Nat))]∧a < 4294967296∧n+Xi 32 a=Xi 32 h) (fun σ _=>match σ with | some (.int a) :: _=>a.toNat | _=>0)
  ⟨rfl,h,0,rfl,h32,Nat.zero_add _⟩ (fun σ H1 z=>?_) (fun σ H1 R R' m ⟨v,e,i,j,e1,e2,b,e3,r⟩=>⟨v,e,i,j,e1,e2,b,e3,m _ _ r⟩)
 obtain⟨rfl,a,n,rfl,a32,inv⟩:=z;refine⟨_,rfl,_,_,rfl,rfl,_,rfl,M3 (fun c=>?_) fun c=>?_⟩
 ·have c':(0:Int) < (a:Nat):=J0 c
  refine⟨_,rfl,_,rfl,_,_,rfl,rfl,_,_,rfl,rfl,?_⟩;refine⟨_,rfl,_,_,rfl,rfl,?_⟩;have e:((a:Nat):Int) - 1=((a - 1:Nat):Int):=by omega
  have d:=K4 32 a (by omega) (by rw[show(2:Nat) ^ 32=4294967296 from rfl];exact a32);have l:a &&& (a - 1)≤a - 1:=Nat.and_le_right;refine⟨⟨rfl,a &&& (a - 1),n+1,?_,by omega,by omega⟩,?_⟩
  ·show [some (V.int (Builtin.bitAnd (a:Nat) ((a:Nat) - 1))),some (V.int ((n:Nat)+1))]=_
   rw[e,PyProof.Rows.bitAnd_pp (Int.natCast_nonneg _) (Int.natCast_nonneg _)];rfl
  ·show(Builtin.bitAnd (a:Nat) ((a:Nat) - 1)).toNat < ((a:Nat):Int).toNat
   rw[e,PyProof.Rows.bitAnd_pp (Int.natCast_nonneg _) (Int.natCast_nonneg _)];show((a &&& (a - 1):Nat):Int).toNat < _;omega
 ·have c':¬ (0:Int) < (a:Nat):=of_decide_eq_false (Bool.eq_false_iff.mpr c)
  have z:a=0:=by omega
  subst z;rw[Zim] at inv;refine⟨_,rfl,?_⟩;have e:n=Xi 32 h:=by omega
  rw[e];exact q
def Zc5(K:W.Frag):Sp:=fun vs H Q _=>∃(a:Addr) (hs:List Nat),vs=[.ref a]∧SqL K H a (vN hs)∧Q (.bl (Qs hs 0)) H
theorem scApart:FnScope ["hands","seen","hand"] ["hands"] (Zm Zbl):=Uw (by decide +kernel)
theorem Zji{k:Nat}(F:Fun K "is_apart" "is_apart" Zbl f fd):FnOk P w K mg base Yq (k+1) f fd ["hands"] (Zc5 K):=by
 refine F.ok scApart (fun vs H Q E h=>?_) (fun cdv A outer s H vs Q E hr h=>?_)
 ·obtain⟨a,hs,rfl,_⟩:=h
  rfl
 obtain⟨a,hs,rfl,hS,q⟩:=h;refine⟨_,Zi (Jf (i:=1) scApart.nd rfl (Or.inl rfl) Zo)
  (Zi (Ux PassesOwn.never rfl (Y4 (pv 0)) (Jp (i:=2) scApart.nd rfl (Or.inl rfl))
   (Zi (Yd (Jm No (Jj T4 (pv 1) (pv 2)) Zo (Jl _)) (Zn (Z9 Ue)) Jn)
   (Zn (Jf (i:=1) scApart.nd rfl (Or.inl rfl) (Jj Zdm (pv 1) (pv 2))))))
  (Zn (Z9 Ue))),?_⟩
 refine⟨_,rfl,a,rfl,⟨_,hS⟩,Xg (xs:=vN hs) (fun i σ H2=>H2=H∧∃(sn:Nat) (x:Option V),Qs hs 0=Qs (hs.drop i) sn∧σ=[some (.ref a),some (.int ((sn:Nat):Int)),x]) ⟨rfl,0,none,rfl,rfl⟩ (fun i σ H2 _ z=>z.1 ▸ hS) (fun i x σ H2 hx z=>?_) (fun σ H2 z=>?_)⟩
 ·obtain⟨rfl,sn,y,ha,rfl⟩:=z
  obtain⟨h,hi,rfl⟩:=Vy hx;have il:i < hs.length:=(Zu.mp hi).1;have ed:hs.drop i=h :: hs.drop (i+1):=by
   rw[List.drop_eq_getElem_cons il];rw[Zg il] at hi;rw[Zy hi]
  have eA:Builtin.bitAnd ((sn:Nat):Int) ((h:Nat):Int)=((sn &&& h:Nat):Int):=by
   rw[PyProof.Rows.bitAnd_pp (by omega) (by omega),Z2,Z2]
  have eO:Builtin.bitOr ((sn:Nat):Int) ((h:Nat):Int)=((sn ||| h:Nat):Int):=by
   rw[PyProof.Rows.bitOr_and,PyProof.Rows.bitAnd_pp (by omega) (by omega),Z2,Z2];have:=PyProof.Rows.nat_or_add_and sn h;omega
  have e0:(!decide (V.int (Builtin.bitAnd ((sn:Nat):Int) ((h:Nat):Int))=V.int 0)) = !decide (sn &&& h=0):=by
   rw[eA];exact congrArg (fun b=>!b) (Zjn (n:=0) rfl)
  rw[ed] at ha;refine⟨_,rfl,_,rfl,_,_,rfl,rfl,rfl,_,rfl,X1 e0 ?_⟩;by_cases c:sn &&& h=0
  ·rw[Zc c]
   refine J3 ⟨_,rfl,_,rfl,_,_,rfl,rfl,rfl,sn ||| h,some (.int ((h:Nat):Int)),?_,?_⟩
   ·rw[ha]
    show(if sn &&& h=0 then Qs (hs.drop (i+1)) (sn ||| h) else false)=_;rw[Zv c]
   ·show [some (V.ref a),some (V.int (Builtin.bitOr ((sn:Nat):Int) ((h:Nat):Int))),some (V.int ((h:Nat):Int))]=_
    rw[eO]
  ·rw[Zd c]
   have:Qs hs 0=false:=by
    rw[ha];show(if sn &&& h=0 then Qs (hs.drop (i+1)) (sn ||| h) else false)=_;rw[Zj c]
   rw[this] at q;exact Yt q
 ·obtain⟨rfl,sn,y,ha,rfl⟩:=z
  rw[Yh,List.drop_length] at ha;have:Qs hs 0=true:=ha;rw[this] at q;exact q
def Zcy(K:W.Frag):Sp:=fun vs H Q _=>∃(a:Addr) (hs:List Nat),vs=[.ref a]∧H a=some (.lst (vN hs))∧(∀ h∈hs,h < 4294967296)∧0 < hs.length∧hs.length≤100∧∀ H',Same H H'→Q (.bl (Zjz hs)) H'
theorem Zk9:FnScope ["hands"] ["hands"] (Zm O8):=Uw (by decide +kernel)
def lvV(m:Nat)(x:V):Bool:=match x with | .int i=>decide (Xi 32 i.toNat=m) | _=>false
theorem Zja{k:Nat}{f1:Addr}{d1:FuncData}(F:Fun K "is_level" "is_level" O8 f fd)(LM:Lib P w K mg base k "many" ["hand"] (G7 K) f1 d1)(mA:mg "all" = none):FnOk P w K mg base Yq (k+1) f fd ["hands"] (Zcy K):=by
 refine F.ok Zk9 (fun vs H Q E h=>?_) (fun cdv A outer s H vs Q E hr h=>?_)
 ·obtain⟨a,hs,rfl,_⟩:=h
  rfl
 obtain⟨a,hs,rfl,hL,h32,h0,h100,q⟩:=h;refine⟨_,Zn (Z9 (Jk (Bh rfl) rfl mA PyProof.Rows.boot_all (Za (Ug ["hand","hands"] [none,some 0] rfl (Blk.by (sc:=Zm O8) (N0:=["hands"]) rfl rfl (by decide +kernel)) (Y4 (pv 0)) (fun C s₀ H₀ ex=>Jp (i:=0) (show(["hand","hands"]:List Str).Nodup by decide +kernel) rfl (Or.inl rfl)) (fun C s₀ H₀ ex=>U4)
   (fun C s₀ H₀ ex=>Y0 X7 (Z0 LM.ok hr rfl LM.mg LM.kp LM.bd .nil Jb (Za (pv 0) Zf)) (Z0 LM.ok hr rfl LM.mg LM.kp LM.bd .nil Jb (Za (Jr (show IxR _ (Zq3 K) from Y7) (pv 1) Zo (fun _ _=>rfl)) Zf)) (Jl _))) Zf))),?_⟩
 have hg:hs[0]? = some (hs.getD 0 0):=by rw[Zr,Zg h0];rfl
 have lt0:hs.getD 0 0 < 4294967296:=h32 _ (Zl hg);refine⟨_,rfl,a,rfl,⟨_,SqL.of hL⟩,Qj (K:=K) (xs:=vN hs) (fun _=>true) (fun x=>.bl (lvV (Xi 32 (hs.getD 0 0)) x)) (SqL.of hL) (Yf _ (by rw[Yh];omega)) (fun x H3 hx sm R hR=>hR H3 (Same.refl H3)) (fun x H3 hx hp sm R hR=>?_) (fun l H1 sm hl hL1=>?_)⟩
 ·obtain⟨h,hh,rfl⟩:=Zz.mp hx
  refine⟨_,rfl,h,rfl,h32 h hh,_,rfl,a,_,0,.int ((hs.getD 0 0:Nat):Int),rfl,rfl,SqL.of (sm _ _ hL),Qy (j:=0) (by unfold vN;rw[Z4,hg];rfl),hs.getD 0 0,rfl,lt0,rfl,?_⟩;have z:=hR H3 (Same.refl H3);have e:lvV (Xi 32 (hs.getD 0 0)) (.int ((h:Nat):Int))=decide (Xi 32 h=Xi 32 (hs.getD 0 0)):=by
   show decide (Xi 32 (((h:Nat):Int).toNat)=_)=_;rw[Z2]
  rw[e] at z;have e2:decide (V.int ((Xi 32 h:Nat):Int)=V.int ((Xi 32 (hs.getD 0 0):Nat):Int))=decide (Xi 32 h=Xi 32 (hs.getD 0 0)):=nat_dec;rw[← e2] at z;exact z
 ·refine⟨l,(hs.map fun h=>decide (Xi 32 h=Xi 32 (hs.getD 0 0))),rfl,?_,?_⟩
  ·rw[List.filter_eq_self.mpr fun _ _=>rfl] at hL1
   refine SqL.of ?_;rw[hL1];unfold vN;rw[Z7,Z7]
   congr 2
  ·have z:=q H1 sm
   rw[List.all_map];exact z
def Zc3(CT CG:Addr):Sp:=fun vs H Q _=>∃(gm x:Addr) (tv:V) (f:Fx),vs=[.ref gm]∧f.Ok∧IsGam CG x tv H gm∧IsTab CT f H x∧∀ H',Same H H'→Q (.int (Ty f.s f.h:Nat)) H'
theorem scGPack:FnScope ["self","cards","suit"] ["self"] (Zm Vd):=Uw (by decide +kernel)
theorem Zjd{k:Nat}{CT CG f1:Addr}{d1:FuncData}{t1:Tok}(F:Fun K "pack" "Game.pack" Vd f fd)(C:TabC K mg CT)(CGm:GamC K mg CG)(LH:Lib P w K mg base k "hand_of" ["cards"] (B7 K) f1 d1)(mH:mg "HEIGHTS" = some (.int 8 t1))(mr:mg "range" = none) :
  FnOk P w K mg base Yq (k+1) f fd ["self"] (Zc3 CT CG):=by
 refine F.ok scGPack (fun vs H Q E h=>?_) (fun cdv A outer s H vs Q E hr h=>?_)
 ·obtain⟨gm,x,tv,fx,rfl,_⟩:=h
  rfl
 obtain⟨gm,x,tv,fx,rfl,ok,hg,ht,q⟩:=h;refine⟨_,Zi (Jf (i:=1) scGPack.nd rfl (Or.inl rfl) (Qf Zf))
  (Zi (Ux PassesOwn.never rfl (Xj rfl mr (Za (Jt (Jt (pv 0) rfl) rfl) Zf)) (Jp (i:=2) scGPack.nd rfl (Or.inr rfl))
   (Zn (Xx (En Yi PySem.F.slot_list_extend PySem.F.type_list_extend Zfr (pv 1) (Za (Ug ["height","suit"] [none,some 2] rfl (Blk.by (sc:=Zm Vd) (N0:=["self","cards","suit"]) rfl rfl (by decide +kernel)) (Xj rfl mr (Za (Jt (Jt (pv 0) rfl) rfl) Zf)) (fun C s₀ H₀ ex=>Jp (i:=0) (show(["height","suit"]:List Str).Nodup by decide +kernel) rfl (Or.inl rfl))
    (fun C s₀ H₀ ex=>U4) (fun C s₀ H₀ ex=>Jj Y8 (Jj Xr (Yy (v:=.int 8) rfl mH ⟨_,rfl⟩) (pv 1)) (pv 0))) Zf)))))
  (Zn (Z9 (Z0 LH.ok hr rfl LH.mg LH.kp LH.bd .nil Jb (Za (pv 1) Zf))))),?_⟩
 have s4:=ok.s4;have h8:=ok.h8;refine⟨Yf 0 (by decide),fun l hl=>?_⟩;have s1:=Je hl (.lst []);obtain⟨dg,hg1⟩:=hg.same s1;obtain⟨dx,po,to,hx1,_,_⟩:=ht.same s1;refine⟨_,rfl,gm,CG,dg,_,_,rfl,hg1,CGm.cl,CGm.nT,Yu _ _,x,CT,dx,_,_,rfl,hx1,C.cl,C.nS,Nt _ _ _,(fx.s:Int),rfl,by omega,by omega,?_⟩;refine Q2 (n:=fx.s) (fun i σ H'=>Same H H'∧H' l=some (.lst (vN (U6 i fx.h)))∧∃ x2,σ=[some (.ref gm),some (.ref l),x2]) ⟨s1,Zq,_,rfl⟩ (fun i σ H2 hi z=>?_) (fun σ H2 z=>?_)
 ·obtain⟨s2,hL2,x2,rfl⟩:=z
  obtain⟨dg,hg2⟩:=hg.same s2;obtain⟨dx,po,to,hx2,_,_⟩:=ht.same s2;refine⟨_,rfl,.inl ⟨rfl,_,SqL.of hL2⟩,?_⟩;refine⟨_,rfl,gm,CG,dg,_,_,rfl,hg2,CGm.cl,CGm.nT,Yu _ _,x,CT,dx,_,_,rfl,hx2,C.cl,C.nH,Ei _ _ _,(fx.h:Int),rfl,by omega,by omega,?_⟩;refine Bw (n:=fx.h) (lo:=0) (fun _=>true) (fun j=>.int ((8 * i+j:Nat):Int)) (Yf _ (by omega)) (fun j H3 hj sm R hR=>hR H3 (Same.refl H3)) (fun j H3 hj hp sm R hR=>?_) (fun l3 H3 s3 hl3 hL3=>?_)
  ·refine⟨_,rfl,_,_,rfl,rfl,.inl ⟨by decide,by decide⟩,_,rfl,_,_,rfl,rfl,?_⟩
   have e:(8:Int) * (0+(i:Nat))+(0+(j:Nat))=((8 * i+j:Nat):Int):=by omega
   show R (.int ((8:Int) * (0+(i:Nat))+(0+(j:Nat)))) H3;rw[e];exact hR H3 (Same.refl H3)
  have e3:((List.range fx.h).filter fun _=>true).map (fun j=>V.int ((8 * i+j:Nat):Int))=vN ((List.range fx.h).map fun v=>8 * i+v):=by
   rw[List.filter_eq_self.mpr (fun _ _=>rfl)];unfold vN;rw[Z7];rfl
  rw[e3] at hL3;have hL4:=s3 _ _ hL2;have ll:(vN (U6 i fx.h)).length+(vN ((List.range fx.h).map fun v=>8 * i+v)).length≤sizeLine:=by
   rw[Yh,Yh,Zk,Yb];have:=K6 i (by omega) fx.h h8;have:=Yf 100 (by decide);omega
  refine⟨l,l3,_,_,rfl,rfl,hL4,hL3,ll,?_,?_,_,rfl⟩
  ·intro b o hb
   have n:b≠l:=fun z=>by rw[z,hl] at hb;cases hb
   rw[Z8 n];exact s3 _ _ (s2 _ _ hb)
  ·rw[Zq]
   congr 2
   unfold U6 vN;rw[List.range_succ,List.flatMap_append,Jw]
   congr 1
   simp
 ·obtain⟨s2,hL2,x2,rfl⟩:=z
  refine⟨_,rfl,l,U6 fx.s fx.h,rfl,SqL.of hL2,Zln _ s4 _ h8,?_⟩;rw[Zdk _ s4 _ h8];exact q _ s2
theorem Ou(c:Nat):(1:Int) * 2 ^ (((c:Nat):Int)).toNat=((2 ^ c:Nat):Int):=by
 rw[Z2,Int.one_mul,Int.natCast_pow];rfl
theorem orN(a b:Nat):Builtin.bitOr ((a:Nat):Int) ((b:Nat):Int)=((a ||| b:Nat):Int):=by
 rw[PyProof.Rows.bitOr_and,PyProof.Rows.bitAnd_pp (by omega) (by omega),Z2,Z2];have:=PyProof.Rows.nat_or_add_and a b;omega
theorem Zr8(a b:Nat):Builtin.bitXor ((a:Nat):Int) ((b:Nat):Int)=((a ^^^ b:Nat):Int):=by
 show Builtin.bitOr ((a:Nat):Int) ((b:Nat):Int) - Builtin.bitAnd ((a:Nat):Int) ((b:Nat):Int)=_;rw[orN,PyProof.Rows.bitAnd_pp (by omega) (by omega),Z2,Z2];have:=PyProof.Rows.nat_or_add_and a b;have e:(a ^^^ b)+(a &&& b)=a ||| b:=by
  have z:=PyProof.Rows.nat_or_add_and (a ^^^ b) (a &&& b);have e1:(a ^^^ b) ||| (a &&& b)=a ||| b:=Nat.eq_of_testBit_eq fun i=>by
   rw[Nat.testBit_or,Nat.testBit_xor,Nat.testBit_and,Nat.testBit_or];cases a.testBit i<;>cases b.testBit i<;>rfl
  have e2:(a ^^^ b) &&& (a &&& b)=0:=Nat.eq_of_testBit_eq fun i=>by
   rw[Nat.testBit_and,Nat.testBit_xor,Nat.testBit_and,Nat.zero_testBit];cases a.testBit i<;>cases b.testBit i<;>rfl
  rw[e1,e2] at z;omega
 omega
def IsPl(H:Hp)(p:Addr)(hs:List Nat)(lead:Nat)(ys:List Nat):Prop:=∃ hp tp,H p=some (.tup [.ref hp,.int (lead:Nat),.ref tp])∧H hp=some (.tup (vN hs))∧H tp=some (.tup (vN ys))
theorem IsPl.same{H H':Hp}{p:Addr}{hs ys:List Nat}{lead:Nat}(h:IsPl H p hs lead ys)(s:Same H H'):IsPl H' p hs lead ys:=by
 obtain⟨hp,tp,a,b,c⟩:=h;exact⟨hp,tp,s _ _ a,s _ _ b,s _ _ c⟩
structure GamH(CT CG:Addr)(f:Fx)(t:Option Nat)(H:Hp)(gm x:Addr):Prop where
 ok:f.Ok
 g:IsGam CG x (Rz t) H gm
 t:IsTab CT f H x
theorem GamH.same{CT CG:Addr}{f:Fx}{t:Option Nat}{H H':Hp}{gm x:Addr}(h:GamH CT CG f t H gm x)(s:Same H H'):GamH CT CG f t H' gm x:=⟨h.ok,h.g.same s,h.t.same s⟩
def Zg9(CT CG:Addr):Sp:=fun vs H Q _=>∃(gm x:Addr) (t:Option Nat) (fx:Fx) (i:Nat),vs=[.ref gm,.int (i:Nat)]∧GamH CT CG fx t H gm x∧Q (.bl (decide (i < fx.n))) H
theorem Zn7:FnScope ["game","seat"] ["game","seat"] (Zm Ac):=Uw (by decide +kernel)
theorem Zl1{k:Nat}{CT CG:Addr}(F:Fun K "is_seat" "is_seat" Ac f fd)(C:TabC K mg CT)(CGm:GamC K mg CG):FnOk P w K mg base Yq (k+1) f fd ["game","seat"] (Zg9 CT CG):=by
 refine F.ok Zn7 (fun vs H Q E h=>?_) (fun cdv A outer s H vs Q E hr h=>?_)
 ·obtain⟨gm,x,t,fx,i,rfl,_⟩:=h
  rfl
 obtain⟨gm,x,t,fx,i,rfl,G,q⟩:=h;refine⟨_,Zn (Z9 (Xd (Y0 T3 (pv 1) Zo (Jl _)) (U8 (Y0 Df (pv 1) (Jt (Jt (pv 0) rfl) rfl) (Jl _))))),?_⟩;obtain⟨dg,hg⟩:=G.g;obtain⟨dx,po,to,hx,_,_⟩:=G.t;refine⟨_,rfl,_,_,rfl,rfl,_,rfl,M3 (fun _=>?_) fun z=>absurd (Zc (Int.natCast_nonneg i)) z⟩;refine⟨_,rfl,_,rfl,gm,CG,dg,_,_,rfl,hg,CGm.cl,CGm.nT,Yu _ _,x,CT,dx,_,_,rfl,hx,C.cl,C.nN,Ut _ _ _,_,_,rfl,rfl,?_⟩;have e:decide (((i:Nat):Int) < ((fx.n:Nat):Int))=decide (i < fx.n):=decide_eq_decide.mpr ⟨fun h=>by omega,fun h=>by omega⟩;show Q (V.bl (decide (((i:Nat):Int) < ((fx.n:Nat):Int)))) H;rw[e];exact q
def B4(CT CG:Addr):Sp:=fun vs H Q _=>∃(gm x:Addr) (t:Option Nat) (fx:Fx) (i j:Nat),vs=[.ref gm,.int (i:Nat),.int (j:Nat)]∧GamH CT CG fx t H gm x∧Q (.int ((i+j) % fx.n:Nat)) H
theorem Zk7:FnScope ["game","lead","steps"] ["game","lead","steps"] (Zm Zba):=Uw (by decide +kernel)
theorem Zi0{k:Nat}{CT CG:Addr}(F:Fun K "seat_round" "seat_round" Zba f fd)(C:TabC K mg CT)(CGm:GamC K mg CG):FnOk P w K mg base Yq (k+1) f fd ["game","lead","steps"] (B4 CT CG):=by
 refine F.ok Zk7 (fun vs H Q E h=>?_) (fun cdv A outer s H vs Q E hr h=>?_)
 ·obtain⟨gm,x,t,fx,i,j,rfl,_⟩:=h
  rfl
 obtain⟨gm,x,t,fx,i,j,rfl,G,q⟩:=h;refine⟨_,Zn (Z9 (Jj Ul (Jj Y8 (pv 1) (pv 2)) (Jt (Jt (pv 0) rfl) rfl))),?_⟩;obtain⟨dg,hg⟩:=G.g;obtain⟨dx,po,to,hx,_,_⟩:=G.t;have n0:0 < fx.n:=by rcases G.ok.n34 with e | e<;>omega
 refine⟨_,rfl,_,rfl,_,_,rfl,rfl,_,rfl,gm,CG,dg,_,_,rfl,hg,CGm.cl,CGm.nT,Yu _ _,x,CT,dx,_,_,rfl,hx,C.cl,C.nN,Ut _ _ _,_,_,rfl,rfl,(by show(0:Int) < ((fx.n:Nat):Int);omega),?_⟩;have e:(((i:Nat):Int)+((j:Nat):Int)) % ((fx.n:Nat):Int)=(((i+j) % fx.n:Nat):Int):=by rw[Int.natCast_emod,X0]
 show Q (V.int ((((i:Nat):Int)+((j:Nat):Int)) % ((fx.n:Nat):Int))) H;rw[e];exact q
def G8(K:W.Frag):Sp:=fun vs H Q _=>∃(p:Addr) (fx:Fx) (hs ys:List Nat) (lead m:Nat),vs=[.ref p]∧fx.Ok∧IsPl H p hs lead ys∧Plc fx hs lead ys m∧∀ H',Same H H'→Q (.int (m:Nat)) H'
theorem Zn9:FnScope ["place"] ["place"] (Zm Zc8):=Uw (by decide +kernel)
def pcV(x:V):V:=match x with | .int i=>.int ((Xi 32 i.toNat:Nat):Int) | _=>.non
theorem K2(hs:List Nat):((vN hs).filter fun _=>true).map pcV=(hs.map fun h=>((Xi 32 h:Nat):Int)).map V.int:=by
 rw[List.filter_eq_self.mpr fun _ _=>rfl];unfold vN;rw[Z7,Z7];refine J2 fun h _=>?_;show V.int ((Xi 32 (((h:Nat):Int)).toNat:Nat):Int)=_;rw[Z2];rfl
theorem Zl8{k:Nat}{f1:Addr}{d1:FuncData}(F:Fun K "left" "left" Zc8 f fd)(LM:Lib P w K mg base k "many" ["hand"] (G7 K) f1 d1)(mM:mg "max" = none):FnOk P w K mg base Yq (k+1) f fd ["place"] (G8 K):=by
 refine F.ok Zn9 (fun vs H Q E h=>?_) (fun cdv A outer s H vs Q E hr h=>?_)
 ·obtain⟨p,fx,hs,ys,lead,m,rfl,_⟩:=h
  rfl
 obtain⟨p,fx,hs,ys,lead,m,rfl,ok,⟨hp,tp,h1,h2,h3⟩,Pl,q⟩:=h;refine⟨_,Zn (Z9 (Jk (Dy rfl) rfl mM PyProof.Rows.boot_max (Za (Ug ["hand"] [none] rfl (Blk.by (sc:=Zm Zc8) (N0:=["place"]) rfl rfl (by decide +kernel)) (V9 (Jr Js (pv 0) Zo (fun _ _=>rfl))) (fun C s₀ H₀ ex=>Jp (i:=0) (show(["hand"]:List Str).Nodup by decide +kernel) rfl (Or.inl rfl)) (fun C s₀ H₀ ex=>U4)
   (fun C s₀ H₀ ex=>Z0 LM.ok hr rfl LM.mg LM.kp LM.bd .nil Jb (Za (pv 0) Zf))) Zf))),?_⟩
 have n4:hs.length≤4:=by rw[Pl.len];rcases ok.n34 with e | e<;>omega
 refine⟨_,rfl,p,_,_,_,rfl,rfl,SqT.of h1,(rfl:Xs [V.ref hp,V.int (lead:Nat),V.ref tp] 0=some (V.ref hp)),hp,rfl,⟨_,SqT.of h2⟩,Nw (K:=K) (xs:=vN hs) (fun _=>true) pcV (SqT.of h2) (Yf _ (by rw[Yh];omega)) (fun y H3 hy sm R hR=>hR H3 (Same.refl H3)) (fun y H3 hy hp sm R hR=>?_) (fun lq H4 s4 hlq hL4=>?_)⟩
 ·obtain⟨h,hh,rfl⟩:=Zz.mp hy
  refine⟨_,rfl,h,rfl,Pl.h32 ok hh,?_⟩;have z:=hR H3 (Same.refl H3);have e:pcV (V.int (h:Nat))=V.int ((Xi 32 h:Nat):Int):=by
   show V.int ((Xi 32 (((h:Nat):Int)).toNat:Nat):Int)=_;rw[Z2]
  rw[e] at z;exact z
 ·rw[K2] at hL4
  obtain⟨m1,m2⟩:=Pl.max ok;refine⟨lq,_,rfl,SqL.of hL4,?_,fun M hM hmax=>?_⟩
  ·rw[Zk,Pl.len]
   rcases ok.n34 with e | e<;>omega
  ·have e:M=(m:Nat):=by
    obtain⟨h,hh,e1⟩:=Zz.mp hM;have a1:=m2 _ (Zz.mpr ⟨h,hh,rfl⟩);obtain⟨h',hh',e2⟩:=Zz.mp m1;have a2:=hmax _ (Zz.mpr ⟨h',hh',rfl⟩);omega
   rw[e];exact q H4 s4
theorem Zgq(ws:List Nat)(j x:Nat):(vN ws).set j (.int (x:Nat))=vN (ws.set j x):=by
 unfold vN;rw[List.map_set]
theorem Zgr{ws:List Nat}{j w:Nat}(h:ws[j]? = some w):Xs (vN ws) (j:Nat)=some (.int (w:Nat)):=Qy (by unfold vN;rw[Z4,h];rfl)
def Zat(CT CG:Addr):Sp:=fun vs H Q _=>∃(gm x p:Addr) (t:Option Nat) (fx:Fx) (hs ys:List Nat) (lead m:Nat),vs=[.ref gm,.ref p]∧GamH CT CG fx t H gm x∧IsPl H p hs lead ys∧Plc fx hs lead ys m ∧
 ∀ l ws H',Same H H'→H l=none→H' l=some (.lst (vN ws))→ws.length=fx.n→(∀ w∈ws,w < 4294967296∧Xi 32 w=m)→Q (.ref l) H'
abbrev Zrj:List Str:=["game","place","hands","number","card","seat"]
theorem scWith:FnScope Zrj ["game","place"] (Zm Zhn):=Uw (by decide +kernel)
theorem Zlw{k:Nat}{CT CG f1:Addr}{d1:FuncData}(F:Fun K "hands_with_trick" "hands_with_trick" Zhn f fd)(LR:Lib P w K mg base k "seat_round" ["game","lead","steps"] (B4 CT CG) f1 d1)(mLi:mg "list" = none)(me:mg "enumerate" = none) :
  FnOk P w K mg base Yq (k+1) f fd ["game","place"] (Zat CT CG):=by
 refine F.ok scWith (fun vs H Q E h=>?_) (fun cdv A outer s H vs Q E hr h=>?_)
 ·obtain⟨gm,x,p,t,fx,hs,ys,lead,m,rfl,_⟩:=h
  rfl
 obtain⟨gm,x,p,t,fx,hs,ys,lead,m,rfl,G,⟨hp,tp,h1,h2,h3⟩,Pl,q⟩:=h;refine⟨_,Zi (Jf (i:=2) scWith.nd rfl (Or.inl rfl) (Yz Qa rfl mLi Ys (Za (Jr Js (pv 1) Zo (fun _ _=>rfl)) Zf)))
  (Zi (Ux PassesOwn.never rfl (Kz rfl me (Za (Jr Js (pv 1) Zo (fun _ _=>rfl)) Zf)) (Ra rfl (Yj (Jp (i:=3) scWith.nd rfl (Or.inl rfl)) (Yj (Jp (i:=4) scWith.nd rfl (Or.inl rfl)) Ql)))
   (Zi (Jf (i:=5) scWith.nd rfl (Or.inl rfl) (Z0 LR.ok hr rfl LR.mg LR.kp LR.bd .nil Jb (Za (pv 0) (Za (Jr Js (pv 1) Zo (fun _ _=>rfl)) (Za (pv 3) Zf)))))
   (Zn (Tq (Jj Zdm (Jr Y7 (pv 2) (pv 5) (fun _ _=>rfl)) (Jj T1 Zo (pv 4))) (Zid (pv 2) (pv 5) Kr)))))
  (Zn (Z9 (pv 2)))),?_⟩
 have ok:=G.ok;refine⟨_,rfl,p,_,_,_,rfl,rfl,SqT.of h1,(rfl:Xs [V.ref hp,V.int (lead:Nat),V.ref tp] 0=some (V.ref hp)),hp,_,rfl,.inr (SqT.of h2),fun l hl=>?_⟩;have s1:=Je hl (.lst (vN hs));refine⟨_,rfl,p,_,_,_,rfl,rfl,SqT.of (s1 _ _ h1),(rfl:Xs [V.ref hp,V.int (lead:Nat),V.ref tp] 2=some (V.ref tp)),tp,_,rfl,SqT.of (s1 _ _ h3),?_⟩;refine Dq (K:=K) (a:=tp) (xs:=vN ys) (fun i σ H'=>Same H H'∧∃(ws:List Nat) (x3 x4 x5:Option V),σ=[some (.ref gm),some (.ref p),some (.ref l),x3,x4,x5]∧H' l=some (.lst (vN ws))∧WsOk fx hs lead i ws)
  ⟨s1,hs,none,none,none,rfl,Zq,WsOk.start Pl⟩ (fun i σ H1 z=>SqT.of (z.1 _ _ h3)) (fun i v r σ H1 hv z hr1=>?_) (fun σ H1 z=>?_)
 ·obtain⟨s2,ws,x3,x4,x5,rfl,hL,W⟩:=z
  obtain⟨c,hc,rfl⟩:=Vy hv;have s3:=s2.trans (Je hr1 (.tup [.int (i:Nat),.int (c:Nat)]));have hL3:upd H1 r (.tup [.int (i:Nat),.int (c:Nat)]) l=some (.lst (vN ws)):=by rw[Z8 (Jz hL hr1)];exact hL
  obtain⟨wv,ew,W'⟩:=W.step ok Pl hc;have c32:=Pl.y32 ok (Zl hc);refine⟨r,_,rfl,SqT.of Zq,rfl,_,_,rfl,_,_,rfl,rfl,?_⟩;refine⟨_,rfl,_,rfl,p,_,_,_,rfl,rfl,SqT.of (s3 _ _ h1),(rfl:Xs [V.ref hp,V.int (lead:Nat),V.ref tp] 1=some (V.int (lead:Nat))),_,rfl,gm,x,t,fx,lead,i,rfl,G.same s3,?_⟩;refine⟨_,rfl,_,rfl,l,_,_,_,rfl,rfl,SqL.of hL3,Zgr ew,_,rfl,_,_,rfl,rfl,⟨by omega,by omega,by decide⟩,_,_,rfl,rfl,?_⟩;refine⟨_,rfl,_,rfl,l,_,_,(lead+i) % fx.n,rfl,rfl,hL3,?_,?_⟩
  ·refine Zdy ?_
   rw[Yh];exact(Zu.mp ew).1
  ·refine⟨fun b o hb=>?_,ws.set ((lead+i) % fx.n) (wv ||| 2 ^ c),_,_,_,rfl,?_,W'⟩
   ·rw[Z8 (Jz hb hl)]
    exact s3 _ _ hb
   ·rw[Zq,← Zgq]
    show some (HO.lst ((vN ws).set ((lead+i) % fx.n) (V.int (Builtin.bitOr ((wv:Nat):Int) ((1:Int) * 2 ^ (((c:Nat):Int)).toNat)))))=_;rw[Ou,orN]
 ·obtain⟨s2,ws,x3,x4,x5,rfl,hL,W⟩:=z
  rw[Yh] at W;exact⟨_,rfl,q l ws H1 s2 hl hL W.len (W.end_ ok Pl)⟩
theorem Zin{f:Fx}(ok:f.Ok):Ty f.s f.h=hN (U6 f.s f.h):=(Zdk _ ok.s4 _ ok.h8).symm
def Zh7(x:V):V:=match x with | .int i=>.int ((2 ^ i.toNat:Nat):Int) | _=>.non
theorem Da(ys:List Nat):((vN ys).filter fun _=>true).map Zh7=vN (ys.map fun c=>2 ^ c):=by
 rw[List.filter_eq_self.mpr fun _ _=>rfl];unfold vN;rw[Z7,Z7];refine J2 fun c _=>?_;show V.int ((2 ^ (((c:Nat):Int)).toNat:Nat):Int)=_;rw[Z2];rfl
def V1(CT CG:Addr):Sp:=fun vs H Q _=>∃(gm x p:Addr) (t:Option Nat) (fx:Fx) (hs ys:List Nat) (lead m:Nat),vs=[.ref gm,.ref p]∧GamH CT CG fx t H gm x∧IsPl H p hs lead ys∧Plc fx hs lead ys m∧∀ H',Same H H'→Q (.bl true) H'
abbrev T9:List Str:=["game","place","hands","trick","parts","pack"]
theorem scIsPlace:FnScope T9 ["game","place"] (Zm Nj):=Uw (by decide +kernel)
theorem Zbw{k:Nat}{CT CG f1 f2 f3 f4 m5:Addr}{d1 d2 d3 d4 e5:FuncData}(F:Fun K "is_place" "is_place" Nj f fd)(C:TabC K mg CT)(CGm:GamC K mg CG)(LS:Lib P w K mg base k "is_seat" ["game","seat"] (Zg9 CT CG) f1 d1)
  (LA:Lib P w K mg base k "is_apart" ["hands"] (Zc5 K) f2 d2) (LV:Lib P w K mg base k "is_level" ["hands"] (Zcy K) f3 d3) (LW:Lib P w K mg base k "hands_with_trick" ["game","place"] (Zat CT CG) f4 d4)
  (MP:Meth K CG "pack" m5) (FP:FnOk P w K mg base Yq k m5 e5 ["self"] (Zc3 CT CG)) (BP:Binds K e5 ["self"] []) (ml:mg "len" = none) (mLi:mg "list" = none) (mY:mg "any" = none) :
  FnOk P w K mg base Yq (k+1) f fd ["game","place"] (V1 CT CG):=by
 refine F.ok scIsPlace (fun vs H Q E h=>?_) (fun cdv A outer s H vs Q E hr h=>?_)
 ·obtain⟨gm,x,p,t,fx,hs,ys,lead,m,rfl,_⟩:=h
  rfl
 obtain⟨gm,x,p,t,fx,hs,ys,lead,m,rfl,G,hPl,Pl,q⟩:=h;obtain⟨hp,tp,h1,h2,h3⟩:=id hPl;refine⟨_,Zi (Jf (i:=2) scIsPlace.nd rfl (Or.inl rfl) (Yz Qa rfl mLi Ys (Za (Jr Js (pv 1) Zo (fun _ _=>rfl)) Zf)))
  (Zi (Jf (i:=3) scIsPlace.nd rfl (Or.inl rfl) (Jr Js (pv 1) Zo (fun _ _=>rfl)))
  (Zi (Yd (PW.pt (U2 (Jm No (Jk Ya rfl ml Ju (Za (pv 2) Zf)) (Jt (Jt (pv 0) rfl) rfl) (Jl _)) (U2 (Jm T3 (Jk Ya rfl ml Ju (Za (pv 3) Zf)) (Jt (Jt (pv 0) rfl) rfl) (Jl _))
   (U7 (Uc (Jy (Z0 LS.ok hr rfl LS.mg LS.kp LS.bd .nil Jb (Za (pv 0) (Za (Jr Js (pv 1) Zo (fun _ _=>rfl)) Zf))) (fun _=>rfl))))))) (Zn (Z9 Ue)) Jn)
  (Zi (Jf (i:=4) scIsPlace.nd rfl (Or.inl rfl) (Jj Zoz (pv 2) (Ug ["card"] [none] rfl (Blk.by (sc:=Zm Nj) (N0:=T9) rfl rfl (by decide +kernel)) (V9 (pv 3)) (fun C s₀ H₀ ex=>Jp (i:=0) (show(["card"]:List Str).Nodup by decide +kernel) rfl (Or.inl rfl)) (fun C s₀ H₀ ex=>U4)
   (fun C s₀ H₀ ex=>Jj T1 Zo (pv 0)))))
  (Zi (Jf (i:=5) scIsPlace.nd rfl (Or.inr rfl) (Vg (pv 0) CGm.cl MP FP hr BP .nil Jb))
  (Zi (Yd (PW.pt (U2 (Uc (Jy (Z0 LA.ok hr rfl LA.mg LA.kp LA.bd .nil Jb (Za (pv 4) Zf)) (fun _=>rfl))) (U7 (Jy (Jk (Zgf rfl) rfl mY PyProof.Rows.boot_any (Za (Ug ["part","pack"] [none,some 5] rfl (Blk.by (sc:=Zm Nj) (N0:=T9) rfl rfl (by decide +kernel)) (Y4 (pv 4)) (fun C s₀ H₀ ex=>Jp (i:=0) (show(["part","pack"]:List Str).Nodup by decide +kernel) rfl (Or.inl rfl)) (fun C s₀ H₀ ex=>U4)
   (fun C s₀ H₀ ex=>Y0 No (Jj Zdm (pv 0) (pv 1)) (pv 1) (Jl _))) Zf)) (fun _=>rfl))))) (Zn (Z9 Ue)) Jn)
  (Zn (Z9 (Z0 LV.ok hr rfl LV.mg LV.kp LV.bd .nil Jb (Za (Z0 LW.ok hr rfl LW.mg LW.kp LW.bd .nil Jb (Za (pv 0) (Za (pv 1) Zf))) Zf))))))))),?_⟩
 have ok:=G.ok;have n4:fx.n≤4:=by rcases ok.n34 with e | e<;>omega
 have n0:0 < fx.n:=by rcases ok.n34 with e | e<;>omega
 refine⟨_,rfl,p,_,_,_,rfl,rfl,SqT.of h1,(rfl:Xs [V.ref hp,V.int (lead:Nat),V.ref tp] 0=some (V.ref hp)),hp,_,rfl,.inr (SqT.of h2),fun l hl=>?_⟩;have s1:=Je hl (.lst (vN hs));refine⟨_,rfl,p,_,_,_,rfl,rfl,SqT.of (s1 _ _ h1),(rfl:Xs [V.ref hp,V.int (lead:Nat),V.ref tp] 2=some (V.ref tp)),?_⟩;obtain⟨dg,hg⟩:=(G.same s1).g;obtain⟨dx,po,to,hx,_,_⟩:=(G.same s1).t;have e1:(!decide (V.int (((vN hs).length:Nat):Int)=V.int ((fx.n:Nat):Int)))=false:=by rw[Yh,Pl.len,Zc rfl];rfl
 have e2:decide (((fx.n:Nat):Int)≤(((vN ys).length:Nat):Int))=false:=by rw[Yh];exact Zd (by have:=Pl.yl;omega)
 refine⟨_,rfl,l,_,rfl,.inl (SqL.of Zq),_,rfl,gm,CG,dg,_,_,rfl,hg,CGm.cl,CGm.nT,Yu _ _,x,CT,dx,_,_,rfl,hx,C.cl,C.nN,Ut _ _ _,rfl,_,rfl,X1 e1 (J3 ?_)⟩;refine⟨_,rfl,tp,_,rfl,.inr (SqT.of (s1 _ _ h3)),_,rfl,gm,CG,dg,_,_,rfl,hg,CGm.cl,CGm.nT,Yu _ _,x,CT,dx,_,_,rfl,hx,C.cl,C.nN,Ut _ _ _,_,_,rfl,rfl,_,rfl,X1 e2 (J3 ?_)⟩;refine⟨_,rfl,_,rfl,p,_,_,_,rfl,rfl,SqT.of (s1 _ _ h1),(rfl:Xs [V.ref hp,V.int (lead:Nat),V.ref tp] 1=some (V.int (lead:Nat))),gm,x,t,fx,lead,rfl,G.same s1,_,rfl,?_⟩;refine X1 (by rw[Zc Pl.ld];rfl:(!decide (lead < fx.n))=false) (J3 ?_);refine⟨_,rfl,_,rfl,tp,rfl,⟨_,SqT.of (s1 _ _ h3)⟩,Nw (K:=K) (xs:=vN ys) (fun _=>true) Zh7 (SqT.of (s1 _ _ h3)) (Yf _ (by rw[Yh];have:=Pl.yl;omega)) (fun y H3 hy sm R hR=>hR H3 (Same.refl H3)) (fun y H3 hy hp sm R hR=>?_) (fun lq H4 s4 hlq hL4=>?_)⟩
 ·obtain⟨c,hc,rfl⟩:=Zz.mp hy
  have c32:=Pl.y32 ok hc;refine⟨_,rfl,_,_,rfl,rfl,⟨by omega,by omega,by decide⟩,?_⟩;have z:=hR H3 (Same.refl H3);show R (V.int ((1:Int) * 2 ^ (((c:Nat):Int)).toNat)) H3;rw[Ou];have e:Zh7 (V.int (c:Nat))=V.int ((2 ^ c:Nat):Int):=by
   show V.int ((2 ^ (((c:Nat):Int)).toNat:Nat):Int)=_;rw[Z2]
  rw[e] at z;exact z
 rw[Da] at hL4;have sl4:=s4 _ _ (Zq:upd H l (.lst (vN hs)) l=_);have ll:(vN hs).length+(vN (ys.map fun c=>2 ^ c)).length≤sizeLine:=Yf _ (by rw[Yh,Yh,Zk,Pl.len];have:=Pl.yl;omega);refine⟨l,lq,_,_,rfl,rfl,sl4,hL4,ll,fun pq hpq=>?_⟩;have s5:Same H (upd H4 pq (.lst (vN hs++vN (ys.map fun c=>2 ^ c)))):=(s1.trans s4).trans (Je hpq _);have eP:vN hs++vN (ys.map fun c=>2 ^ c)=vN (hs++ys.map fun c=>2 ^ c):=by unfold vN;rw[Jw]
 rw[eP] at s5 ⊢;obtain⟨dg5,hg5⟩:=(G.same s5).g;refine⟨_,rfl,gm,dg5,_,rfl,hg5,Er _ _ _ (by decide +kernel) (by decide +kernel),gm,x,_,fx,rfl,ok,(G.same s5).g,(G.same s5).t,fun H6 s6=>?_⟩;have s7:=s5.trans s6;have hL6:H6 pq=some (.lst (vN (hs++ys.map fun c=>2 ^ c))):=s6 _ _ Zq;refine⟨_,rfl,pq,_,rfl,SqL.of hL6,_,rfl,X1 (by rw[Pl.parts];rfl:(!Qs (hs++ys.map fun c=>2 ^ c) 0)=false) (J3 ?_)⟩;refine⟨_,rfl,pq,rfl,⟨_,SqL.of hL6⟩,Qj (K:=K) (xs:=vN (hs++ys.map fun c=>2 ^ c)) (fun _=>true) (fun _=>.bl false) (SqL.of hL6) (Yf _ (by rw[Yh,Jc,Zk,Pl.len];have:=Pl.yl;omega)) (fun x H3 hx sm R hR=>hR H3 (Same.refl H3)) (fun x H8 hx hp sm R hR=>?_) (fun lz H8 s8 hz hz8=>?_)⟩
 ·obtain⟨pt,hpt,rfl⟩:=Zz.mp hx
  refine⟨_,rfl,_,rfl,_,_,rfl,rfl,_,rfl,rfl,?_⟩;have z:=hR H8 (Same.refl H8);have e:(!decide (V.int (Builtin.bitOr ((pt:Nat):Int) ((Ty fx.s fx.h:Nat):Int))=V.int ((Ty fx.s fx.h:Nat):Int)))=false:=by
   rw[orN,Zin ok,Pl.inpack ok hpt,Zc rfl];rfl
  show R (V.bl (!decide (V.int (Builtin.bitOr ((pt:Nat):Int) ((Ty fx.s fx.h:Nat):Int))=V.int ((Ty fx.s fx.h:Nat):Int)))) H8;rw[e];exact z
 ·have eb:((vN (hs++ys.map fun c=>2 ^ c)).filter fun _=>true).map (fun _=>V.bl false)=((hs++ys.map fun c=>2 ^ c).map fun _=>false).map V.bl:=by
   rw[List.filter_eq_self.mpr fun _ _=>rfl];unfold vN;rw[Z7,Z7];rfl
  rw[eb] at hz8;refine⟨lz,_,rfl,SqL.of hz8,_,rfl,?_⟩;have ea:((hs++ys.map fun c=>2 ^ c).map fun _=>false).any id=false:=by
   rw[List.any_map];exact List.any_eq_false.mpr fun _ _=>Zp
  refine X1 ea (J3 ?_);have s9:=s7.trans s8;refine⟨_,rfl,_,rfl,gm,x,p,t,fx,hs,ys,lead,m,rfl,G.same s9,hPl.same s9,Pl,fun lw ws H9 t9 hw hw9 lenw allw=>?_⟩;refine⟨lw,ws,rfl,hw9,fun w hw=>(allw w hw).1,by omega,by omega,fun H10 t10=>?_⟩;rw[Zjy (fun w hw=>(allw w hw).2) (by omega)];exact q H10 ((s9.trans t9).trans t10)
def Ng(f:Fx)(lead:Nat)(ys:List Nat)(m:Nat):V:=if m=0 then .non else .int (((lead+ys.length) % f.n:Nat):Int)
def Qm(CT CG:Addr):Sp:=fun vs H Q _=>∃(gm x p:Addr) (t:Option Nat) (fx:Fx) (hs ys:List Nat) (lead m:Nat),vs=[.ref gm,.ref p]∧GamH CT CG fx t H gm x∧IsPl H p hs lead ys∧Plc fx hs lead ys m∧∀ H',Same H H'→Q (Ng fx lead ys m) H'
theorem Zhg:FnScope ["game","place"] ["game","place"] (Zm O1):=Uw (by decide +kernel)
theorem Ze9{k:Nat}{CT CG f1 f2:Addr}{d1 d2:FuncData}(F:Fun K "turn_at" "turn_at" O1 f fd)(LL:Lib P w K mg base k "left" ["place"] (G8 K) f1 d1)(LR:Lib P w K mg base k "seat_round" ["game","lead","steps"] (B4 CT CG) f2 d2)(ml:mg "len" = none) :
  FnOk P w K mg base Yq (k+1) f fd ["game","place"] (Qm CT CG):=by
 refine F.ok Zhg (fun vs H Q E h=>?_) (fun cdv A outer s H vs Q E hr h=>?_)
 ·obtain⟨gm,x,p,t,fx,hs,ys,lead,m,rfl,_⟩:=h
  rfl
 obtain⟨gm,x,p,t,fx,hs,ys,lead,m,rfl,G,hPl,Pl,q⟩:=h;refine⟨_,Zi (Yd (Jm X7 (Z0 LL.ok hr rfl LL.mg LL.kp LL.bd .nil Jb (Za (pv 1) Zf)) Zo (Jl _)) (Zn (Z9 Qe)) Jn)
  (Zn (Z9 (Z0 LR.ok hr rfl LR.mg LR.kp LR.bd .nil Jb (Za (pv 0) (Za (Jr Js (pv 1) Zo (fun _ _=>rfl)) (Za (Jk Ya rfl ml Ju (Za (Jr Js (pv 1) Zo (fun _ _=>rfl)) Zf)) Zf)))))),?_⟩
 refine⟨_,rfl,p,fx,hs,ys,lead,m,rfl,G.ok,hPl,Pl,fun H1 s1=>⟨rfl,_,rfl,?_⟩⟩;have e0:decide (V.int ((m:Nat):Int)=V.int 0)=decide (m=0):=Zjn (n:=0) rfl;refine X1 e0 ?_;have q1:=q H1 s1;unfold Ng at q1;by_cases c:m=0
 ·rw[Zv c] at q1
  rw[Zc c];exact Yt q1
 ·rw[Zj c] at q1
  rw[Zd c];obtain⟨hp,tp,h1,h2,h3⟩:=hPl.same s1;refine J3 ⟨_,rfl,_,rfl,p,_,_,_,rfl,rfl,SqT.of h1,(rfl:Xs [V.ref hp,V.int (lead:Nat),V.ref tp] 1=some (V.int (lead:Nat))),_,rfl,p,_,_,_,rfl,rfl,SqT.of h1,(rfl:Xs [V.ref hp,V.int (lead:Nat),V.ref tp] 2=some (V.ref tp)),tp,_,rfl,.inr (SqT.of h3),gm,x,t,fx,lead,ys.length,?_,G.same s1,q1⟩;show [V.ref gm,V.int (lead:Nat),V.int (((vN ys).length:Nat):Int)]=_;rw[Yh]
def Us(f:Fx)(t:Option Nat)(ys:List Nat)(h:Nat):List Nat:=Y2 (hN (if ys=[] then Y2 h else alw f.d f t ys (Y2 h)))
theorem Qg{f:Fx}{t:Option Nat}{ys:List Nat}{h c:Nat}(h32:h < 4294967296)(hc:c∈Us f t ys h):h.testBit c=true∧c < 32:=by
 unfold Us at hc;have sub:∀ x∈(if ys=[] then Y2 h else alw f.d f t ys (Y2 h)),x∈Y2 h:=fun x hx=>by
  by_cases e:ys=[]
  ·rw[Zv e] at hx;exact hx
  ·rw[Zj e] at hx;exact Zef _ _ _ _ _ x hx
 have l32:∀ x∈(if ys=[] then Y2 h else alw f.d f t ys (Y2 h)),x < 32:=fun x hx=>Eu (sub x hx);have m:=sub c ((Mg l32 c).mp hc);exact⟨(Ep h32).mp m,Eu m⟩
def moveL(f:Fx)(t:Option Nat)(hs:List Nat)(lead:Nat)(ys:List Nat)(m:Nat):List Nat:=if m=0 then [] else Us f t ys (hs.getD ((lead+ys.length) % f.n) 0)
def Qx(CT CG:Addr):Sp:=fun vs H Q _=>∃(gm x p:Addr) (t:Option Nat) (fx:Fx) (hs ys:List Nat) (lead m:Nat),vs=[.ref gm,.ref p]∧GamH CT CG fx t H gm x∧Rl t∧IsPl H p hs lead ys∧Plc fx hs lead ys m ∧
 ∀ l H',Same H H'→H l=none→H' l=some (.lst (vN (moveL fx t hs lead ys m)))→Q (.ref l) H'
theorem scMoves:FnScope ["game","place","seat"] ["game","place"] (Zm Zbc):=Uw (by decide +kernel)
theorem Plc.beg{f:Fx}{hs ys:List Nat}{lead m h:Nat}(ok:f.Ok)(Pl:Plc f hs lead ys m)(hh:h∈hs):ys=[]∨Beg f ys (Y2 h):=by
 by_cases e:ys=[]
 ·exact .inl e
 ·have h32:=Pl.h32 ok hh
  have yl:=Pl.yl;have n4:f.n≤4:=by rcases ok.n34 with z | z<;>omega
  have s4:=ok.s4;refine .inr ⟨List.length_pos_iff.mpr e,by omega,fun c hc=>?_,fun c hc=>?_⟩
  ·have:=Pl.pk c (Nx hc)
   omega
  ·have:=Pl.pk c (Qp (ys:=ys) hh ((Ep h32).mp hc))
   exact⟨Eu hc,this.2⟩
theorem Zi6{k:Nat}{CT CG f1 f2 m3:Addr}{d1 d2 e3:FuncData}(F:Fun K "moves" "moves" Zbc f fd)(CGm:GamC K mg CG)(LT:Lib P w K mg base k "turn_at" ["game","place"] (Qm CT CG) f1 d1)(LC:Lib P w K mg base k "cards_in" ["hand"] (N4 K) f2 d2)
  (MM:Meth K CG "may" m3) (FM:FnOk P w K mg base Yq k m3 e3 ["self","hand","trick"] (Zhb K CT CG)) (BM:Binds K e3 ["self","hand","trick"] []):FnOk P w K mg base Yq (k+1) f fd ["game","place"] (Qx CT CG):=by
 refine F.ok scMoves (fun vs H Q E h=>?_) (fun cdv A outer s H vs Q E hr h=>?_)
 ·obtain⟨gm,x,p,t,fx,hs,ys,lead,m,rfl,_⟩:=h
  rfl
 obtain⟨gm,x,p,t,fx,hs,ys,lead,m,rfl,G,tb,hPl,Pl,q⟩:=h;refine⟨_,Zi (Jf (i:=2) scMoves.nd rfl (Or.inl rfl) (Z0 LT.ok hr rfl LT.mg LT.kp LT.bd .nil Jb (Za (pv 0) (Za (pv 1) Zf))))
  (Zi (Yd (Jm T2 (pv 2) Qe (Jl _)) (Zn (Z9 (Qf Zf))) Jn)
  (Zn (Z9 (Z0 LC.ok hr rfl LC.mg LC.kp LC.bd .nil Jb (Za (Uf (pv 0) CGm.cl MM FM hr BM .nil Jb (Za (Jr Js (Jr Js (pv 1) Zo (fun _ _=>rfl)) (pv 2) (fun _ _=>rfl)) (Za (Jr Js (pv 1) Zo (fun _ _=>rfl)) Zf))) Zf))))),?_⟩
 refine⟨_,rfl,_,rfl,gm,x,p,t,fx,hs,ys,lead,m,rfl,G,hPl,Pl,fun H1 s1=>?_⟩;by_cases c:m=0
 ·have e:Ng fx lead ys m = .non:=by unfold Ng;rw[Zv c]
  rw[e];refine⟨_,rfl,rfl,_,rfl,X1 (Zc rfl:decide (V.non=V.non)=true) (Yt ⟨Yf 0 (by decide),fun l hl=>q l _ (s1.trans (Je hl _)) (s1.free hl) ?_⟩)⟩;rw[Zq];unfold moveL;rw[Zv c];rfl
 ·have e:Ng fx lead ys m = .int (((lead+ys.length) % fx.n:Nat):Int):=by unfold Ng;rw[Zj c]
  rw[e];refine⟨_,rfl,rfl,_,rfl,X1 (Zd (fun z=>nomatch z):decide (V.int (((lead+ys.length) % fx.n:Nat):Int)=V.non)=false) (J3 ?_)⟩;obtain⟨h,eh,_⟩:=Pl.turn G.ok;have hh:h∈hs:=Zl eh;have h32:=Pl.h32 G.ok hh;obtain⟨hp,tp,h1,h2,h3⟩:=hPl.same s1;obtain⟨dg,hG⟩:=(G.same s1).g;have eN:hN (Y2 h)=h:=Zit h32 fun _=>Iff.rfl;refine⟨_,rfl,gm,dg,_,rfl,hG,Er _ _ _ (by decide +kernel) (by decide +kernel),_,rfl,p,_,_,_,rfl,rfl,SqT.of h1,(rfl:Xs [V.ref hp,V.int (lead:Nat),V.ref tp] 0=some (V.ref hp)),_,rfl,hp,_,_,_,rfl,rfl,SqT.of h2,Zgr eh,
   _,rfl,p,_,_,_,rfl,rfl,SqT.of h1,(rfl:Xs [V.ref hp,V.int (lead:Nat),V.ref tp] 2=some (V.ref tp)),gm,x,tp,t,fx,ys,Y2 h,?_,G.ok,(G.same s1).g,(G.same s1).t,tb,SqT.of h3,Pl.beg G.ok hh,fun H2 s2=>?_⟩
  ·rw[eN]
   rfl
  ·have sub:∀ y∈(if ys=[] then Y2 h else alw fx.d fx t ys (Y2 h)),y < 32:=fun y hy=>by
    by_cases e:ys=[]
    ·rw[Zv e] at hy;exact Eu hy
    ·rw[Zj e] at hy;exact Eu (Zef _ _ _ _ _ y hy)
   refine⟨_,rfl,Sx sub,fun l H3 s3 hl hL=>q l H3 (s1.trans (s2.trans s3)) ((s1.trans s2).free hl) ?_⟩;rw[hL];unfold moveL Us;rw[Zj c,Zr,eh];rfl
def Kk:Option Nat→V
 | none=>.non
 | some i=>.int (i:Nat)
structure Nxt(f:Fx)(t:Option Nat)(hs:List Nat)(lead:Nat)(ys:List Nat)(h c:Nat)(hs':List Nat)(lead':Nat)(ys':List Nat)(tk:Option Nat):Prop where
 hand:hs'=hs.set ((lead+ys.length) % f.n) (h ^^^ 2 ^ c)
 go:ys.length+1 < f.n→lead'=lead∧ys'=ys++[c]∧tk=none
 full:ys.length+1=f.n→ys'=[]∧tk=some lead'∧∃ i,Win f t (Yk (ys++[c])) (ys++[c]) i∧lead'=(lead+i) % f.n
def X5(K:W.Frag)(CT CG:Addr):Sp:=fun vs H Q _=>∃(gm x p:Addr) (t:Option Nat) (fx:Fx) (hs ys:List Nat) (lead m h c:Nat),vs=[.ref gm,.ref p,.int (c:Nat)]∧GamH CT CG fx t H gm x∧IsPl H p hs lead ys∧Plc fx hs lead ys m∧hs[(lead+ys.length) % fx.n]? = some h∧h.testBit c=true ∧
 ∀ r p' hs' lead' ys' tk H',Same H H'→Nxt fx t hs lead ys h c hs' lead' ys' tk→H' r=some (.tup [.ref p',Kk tk])→IsPl H' p' hs' lead' ys'→Q (.ref r) H'
abbrev Zml:List Str:=["game","place","card","seat","hands","trick","taker"]
theorem scBehind:FnScope Zml ["game","place","card"] (Zm Ah):=Uw (by decide +kernel)
theorem Zfn{k:Nat}{CT CG f1 m3:Addr}{d1 e3:FuncData}(F:Fun K "behind" "behind" Ah f fd)(C:TabC K mg CT)(CGm:GamC K mg CG)(LR:Lib P w K mg base k "seat_round" ["game","lead","steps"] (B4 CT CG) f1 d1)
  (MW:Meth K CG "winner" m3) (FW:FnOk P w K mg base Yq k m3 e3 ["self","trick"] (Gz K CT CG)) (BW:Binds K e3 ["self","trick"] []) (ml:mg "len" = none) (mLi:mg "list" = none) (mT:mg "tuple" = none):FnOk P w K mg base Yq (k+1) f fd ["game","place","card"] (X5 K CT CG):=by
 refine F.ok scBehind (fun vs H Q E h=>?_) (fun cdv A outer s H vs Q E hr h=>?_)
 ·obtain⟨gm,x,p,t,fx,hs,ys,lead,m,h,c,rfl,_⟩:=h
  rfl
 obtain⟨gm,x,p,t,fx,hs,ys,lead,m,h,c,rfl,G,hPl,Pl,eh,hc,q⟩:=h;obtain⟨hp,tp,h1,h2,h3⟩:=id hPl;refine⟨_,Zi (Jf (i:=3) scBehind.nd rfl (Or.inl rfl) (Z0 LR.ok hr rfl LR.mg LR.kp LR.bd .nil Jb (Za (pv 0) (Za (Jr Js (pv 1) Zo (fun _ _=>rfl)) (Za (Jk Ya rfl ml Ju (Za (Jr Js (pv 1) Zo (fun _ _=>rfl)) Zf)) Zf)))))
  (Zi (Jf (i:=4) scBehind.nd rfl (Or.inl rfl) (Yz Qa rfl mLi Ys (Za (Jr Js (pv 1) Zo (fun _ _=>rfl)) Zf)))
  (Zi (Tq (Jj Zox (Jr Y7 (pv 4) (pv 3) (fun _ _=>rfl)) (Jj T1 Zo (pv 2))) (Zid (pv 4) (pv 3) Kr))
  (Zi (Jf (i:=5) scBehind.nd rfl (Or.inl rfl) (Jj Zlu (Jr Js (pv 1) Zo (fun _ _=>rfl)) (Uy (Za (pv 2) Zf))))
  (Zi (Yd (Jm Df (Jk Ya rfl ml Ju (Za (pv 5) Zf)) (Jt (Jt (pv 0) rfl) rfl) (Jl _))
   (Zn (Z9 (Uy (Za (Uy (Za (Yz Xt rfl mT Jv (Za (pv 4) Zf)) (Za (Jr Js (pv 1) Zo (fun _ _=>rfl)) (Za (pv 5) Zf)))) (Za Qe Zf))))) Jn)
  (Zi (Jf (i:=6) scBehind.nd rfl (Or.inl rfl) (Z0 LR.ok hr rfl LR.mg LR.kp LR.bd .nil Jb (Za (pv 0) (Za (Jr Js (pv 1) Zo (fun _ _=>rfl)) (Za (Uf (pv 0) CGm.cl MW FW hr BW .nil Jb (Za (pv 5) Zf)) Zf)))))
  (Zn (Z9 (Uy (Za (Uy (Za (Yz Xt rfl mT Jv (Za (pv 4) Zf)) (Za (pv 6) (Za (Uy Zf) Zf)))) (Za (pv 6) Zf)))))))))),?_⟩
 have ok:=G.ok;have n4:fx.n≤4:=by rcases ok.n34 with e | e<;>omega
 have yl:=Pl.yl;have hm:h∈hs:=Zl eh;have c32:=Pl.b32 ok (Qp (ys:=ys) hm hc);refine⟨_,rfl,_,rfl,p,_,_,_,rfl,rfl,SqT.of h1,(rfl:Xs [V.ref hp,V.int (lead:Nat),V.ref tp] 1=some (V.int (lead:Nat))),_,rfl,p,_,_,_,rfl,rfl,SqT.of h1,(rfl:Xs [V.ref hp,V.int (lead:Nat),V.ref tp] 2=some (V.ref tp)),tp,_,rfl,.inr (SqT.of h3),gm,x,t,fx,lead,ys.length,(by show [V.ref gm,V.int (lead:Nat),V.int (((vN ys).length:Nat):Int)]=_;rw[Yh]),G,?_⟩;refine⟨_,rfl,p,_,_,_,rfl,rfl,SqT.of h1,(rfl:Xs [V.ref hp,V.int (lead:Nat),V.ref tp] 0=some (V.ref hp)),hp,_,rfl,.inr (SqT.of h2),fun l hl=>?_⟩;have s1:=Je hl (.lst (vN hs));refine⟨_,rfl,_,rfl,l,_,_,_,rfl,rfl,SqL.of Zq,Zgr eh,_,rfl,_,_,rfl,rfl,⟨by omega,by omega,by decide⟩,_,_,rfl,rfl,?_⟩;refine⟨_,rfl,_,rfl,l,_,_,(lead+ys.length) % fx.n,rfl,rfl,Zq,Zdy (by rw[Yh];exact(Zu.mp eh).1),?_⟩;have eS:(vN hs).set ((lead+ys.length) % fx.n) (V.int (Builtin.bitXor ((h:Nat):Int) ((1:Int) * 2 ^ (((c:Nat):Int)).toNat)))=vN (hs.set ((lead+ys.length) % fx.n) (h ^^^ 2 ^ c)):=by
  rw[Ou,Zr8,Zgq]
 have s2:Same H (upd (upd H l (.lst (vN hs))) l (.lst (vN (hs.set ((lead+ys.length) % fx.n) (h ^^^ 2 ^ c))))):=by
  rw[U3];exact Je hl _
 show Zg1 _ _ _ _ (upd (upd H l (.lst (vN hs))) l (.lst ((vN hs).set ((lead+ys.length) % fx.n) (V.int (Builtin.bitXor ((h:Nat):Int) ((1:Int) * 2 ^ (((c:Nat):Int)).toNat))))));rw[eS];have hL2:upd (upd H l (.lst (vN hs))) l (.lst (vN (hs.set ((lead+ys.length) % fx.n) (h ^^^ 2 ^ c)))) l=some (.lst (vN (hs.set ((lead+ys.length) % fx.n) (h ^^^ 2 ^ c)))):=Zq;generalize upd (upd H l (.lst (vN hs))) l (.lst (vN (hs.set ((lead+ys.length) % fx.n) (h ^^^ 2 ^ c))))=H2 at s2 hL2 ⊢;refine⟨_,rfl,p,_,_,_,rfl,rfl,SqT.of (s2 _ _ h1),(rfl:Xs [V.ref hp,V.int (lead:Nat),V.ref tp] 2=some (V.ref tp)),_,rfl,Yf 1 (by decide),fun c1 hc1=>?_⟩;have s3:=s2.trans (Je hc1 (.tup [.int (c:Nat)]));refine⟨tp,c1,_,_,rfl,rfl,s3 _ _ h3,Zq,Yf _ (by rw[Yh];show ys.length+1≤1000;omega),fun tq H4 s4 hq4=>?_⟩;have eY:vN ys++[V.int (c:Nat)]=vN (ys++[c]):=by unfold vN;rw[Jw];rfl
 rw[eY] at hq4;have s5:=s3.trans s4;have hL4:H4 l=some (.lst (vN (hs.set ((lead+ys.length) % fx.n) (h ^^^ 2 ^ c)))):=s4 _ _ (Je hc1 _ _ _ hL2);obtain⟨dg,hg⟩:=(G.same s5).g;obtain⟨dx,po,to,hx,_,_⟩:=(G.same s5).t;have e2:decide ((((vN (ys++[c])).length:Nat):Int) < ((fx.n:Nat):Int))=decide (ys.length+1 < fx.n):=by
  rw[Yh,Jc,List.length_singleton];exact decide_eq_decide.mpr ⟨fun z=>by omega,fun z=>by omega⟩
 refine⟨_,rfl,tq,_,rfl,.inr (SqT.of hq4),_,rfl,gm,CG,dg,_,_,rfl,hg,CGm.cl,CGm.nT,Yu _ _,x,CT,dx,_,_,rfl,hx,C.cl,C.nN,Ut _ _ _,_,_,rfl,rfl,_,rfl,X1 e2 ?_⟩;by_cases cl:ys.length+1 < fx.n
 ·rw[Zc cl]
  refine Yt ⟨_,rfl,l,_,rfl,.inl ⟨SqL.of hL4,fun th hth=>?_⟩⟩;have s6:=s5.trans (Je hth (.tup (vN (hs.set ((lead+ys.length) % fx.n) (h ^^^ 2 ^ c)))));refine⟨_,rfl,p,_,_,_,rfl,rfl,SqT.of (s6 _ _ h1),(rfl:Xs [V.ref hp,V.int (lead:Nat),V.ref tp] 1=some (V.int (lead:Nat))),_,rfl,Yf 3 (by decide),fun pp hpp=>⟨Yf 2 (by decide),fun r hr1=>?_⟩⟩;have a1:=Je hpp (.tup [.ref th,.int (lead:Nat),.ref tq]);have a2:=Je hr1 (.tup [.ref pp,.non]);refine q r pp _ lead (ys++[c]) none _ (s6.trans (a1.trans a2)) ⟨rfl,fun _=>⟨rfl,rfl,rfl⟩,fun z=>absurd z (by omega)⟩ Zq ⟨th,tq,a2 _ _ Zq,a2 _ _ (a1 _ _ Zq),a2 _ _ (a1 _ _ ?_)⟩;exact Je hth _ _ _ hq4
 ·have cl2:ys.length+1=fx.n:=by omega
  rw[Zd cl];have T:Trk fx (ys++[c]):=by
   refine⟨?_,fun y hy=>?_,by rw[Jc];exact Nat.succ_pos _⟩
   ·refine List.nodup_append.mpr ⟨Pl.nd,List.nodup_cons.mpr ⟨Y5,List.nodup_nil⟩,fun y hy z hz=>?_⟩
    rw[Jg.mp hz];intro e;subst e;have:=Pl.apart hm hy;rw[hc] at this;cases this
   ·rcases J1.mp hy with z | z
    ·exact(Pl.pk y (Nx z)).2
    ·rw[Jg.mp z]
     exact(Pl.pk c (Qp (ys:=ys) hm hc)).2
  refine J3 ⟨_,rfl,_,rfl,p,_,_,_,rfl,rfl,SqT.of (s5 _ _ h1),(rfl:Xs [V.ref hp,V.int (lead:Nat),V.ref tp] 1=some (V.int (lead:Nat))),_,rfl,gm,dg,_,rfl,hg,Er _ _ _ (by decide +kernel) (by decide +kernel),_,rfl,gm,x,tq,t,fx,ys++[c],rfl,ok,(G.same s5).g,(G.same s5).t,SqT.of hq4,T,fun i H5 t5 W=>?_⟩;have s6:=s5.trans t5;refine⟨gm,x,t,fx,lead,i,rfl,G.same s6,?_⟩;refine⟨_,rfl,l,_,rfl,.inl ⟨SqL.of (t5 _ _ hL4),fun th hth=>?_⟩⟩;have a0:=Je hth (.tup (vN (hs.set ((lead+ys.length) % fx.n) (h ^^^ 2 ^ c))));refine⟨_,rfl,Yf 0 (by decide),fun tz htz=>⟨Yf 3 (by decide),fun pp hpp=>⟨_,rfl,Yf 2 (by decide),fun r hr1=>?_⟩⟩⟩;have a1:=Je htz (.tup []);have a2:=Je hpp (.tup [.ref th,.int (((lead+i) % fx.n:Nat):Int),.ref tz]);have a3:=Je hr1 (.tup [.ref pp,.int (((lead+i) % fx.n:Nat):Int)]);exact q r pp _ ((lead+i) % fx.n) [] (some ((lead+i) % fx.n)) _ (s6.trans (a0.trans (a1.trans (a2.trans a3)))) ⟨rfl,fun z=>absurd z (by omega),fun _=>⟨rfl,rfl,i,W,rfl⟩⟩ Zq ⟨th,tz,a3 _ _ Zq,a3 _ _ (a2 _ _ (a1 _ _ Zq)),a3 _ _ (a2 _ _ Zq)⟩
end
section
variable{fx:Fx}{t:Option Nat}{hs ys hs' ys':List Nat}{lead lead' m h c:Nat}{tk:Option Nat}
theorem Nxt.plc(ok:fx.Ok)(Pl:Plc fx hs lead ys m)(eh:hs[(lead+ys.length) % fx.n]? = some h)(hc:h.testBit c=true)(N:Nxt fx t hs lead ys h c hs' lead' ys' tk) :
  ∃ m',Plc fx hs' lead' ys' m'∧hs'.sum+2 ^ c=hs.sum∧(hs'.map (Xi 32)).sum+1=(hs.map (Xi 32)).sum∧0 < m∧((tk=none∧m'=m∧lead'=lead∧ys'=ys++[c]∧ys.length+1 < fx.n)∨(tk=some lead'∧m'+1=m∧ys'=[]∧lead' < fx.n)):=by
 obtain⟨A,S1,S2,m0,g1,g2⟩:=Pl.step ok eh hc;have yl:=Pl.yl;by_cases cl:ys.length+1 < fx.n
 ·obtain⟨e1,e2,e3⟩:=N.go cl
  rw[N.hand,e1,e2];exact⟨m,g1 cl,S1,S2,m0,.inl ⟨e3,rfl,rfl,rfl,cl⟩⟩
 ·have cl2:ys.length+1=fx.n:=by omega
  obtain⟨e1,e2,i,_,e3⟩:=N.full cl2;have ll:lead' < fx.n:=by rw[e3];exact B9 ok _ _
  rw[N.hand,e1];exact⟨m - 1,g2 cl2 lead' ll,S1,S2,m0,.inr ⟨e2,by omega,rfl,ll⟩⟩
theorem Zgv(Pl:Plc fx hs lead ys m)(eh:hs[(lead+ys.length) % fx.n]? = some h)(hc:h.testBit c=true):(ys++[c]).Nodup:=by
 refine List.nodup_append.mpr ⟨Pl.nd,List.nodup_cons.mpr ⟨Y5,List.nodup_nil⟩,fun y hy z hz=>?_⟩;rw[Jg.mp hz];intro e;subst e;have:=Pl.apart (Zl eh) hy;rw[hc] at this;cases this
theorem Nxt.uniq(Pl:Plc fx hs lead ys m)(eh:hs[(lead+ys.length) % fx.n]? = some h)(hc:h.testBit c=true)(N:Nxt fx t hs lead ys h c hs' lead' ys' tk){hs2 ys2:List Nat}{lead2:Nat}{tk2:Option Nat}(M:Nxt fx t hs lead ys h c hs2 lead2 ys2 tk2) :
  hs'=hs2∧lead'=lead2∧ys'=ys2∧tk=tk2:=by
 have yl:=Pl.yl;refine⟨N.hand.trans M.hand.symm,?_⟩;by_cases cl:ys.length+1 < fx.n
 ·obtain⟨e1,e2,e3⟩:=N.go cl
  obtain⟨d1,d2,d3⟩:=M.go cl;exact⟨e1.trans d1.symm,e2.trans d2.symm,e3.trans d3.symm⟩
 ·have cl2:ys.length+1=fx.n:=by omega
  obtain⟨e1,e2,i,W,e3⟩:=N.full cl2;obtain⟨d1,d2,j,V,d3⟩:=M.full cl2;have ij:=Zgk (Zgv Pl eh hc) W V;subst ij;have el:lead'=lead2:=e3.trans d3.symm;exact⟨el,e1.trans d1.symm,by rw[e2,d2,el]⟩
end
theorem nxE{T:St→Hp→Prop}{rt:VK}{bk ct:St→Hp→Prop}{σ:St}{H:Hp}(h:T σ H):(Ends.mk T rt bk ct).nx σ H:=h
theorem eq_int(a b:Int):decide (V.int a=V.int b)=decide (a=b):=decide_eq_decide.mpr ⟨fun h=>by injection h,fun h=>by rw[h]⟩
section
variable{P:Program}{w:World}{K:W.Frag}{mg:Str→Option Value}{base:Heap}{f g:Addr}{fd gd:FuncData}
theorem Bj{H:Hp}{p q:Addr}{xs:List V}{o:HO}(h:H p=some (.tup xs))(hq:H q=some o)(n:∀ ys,o ≠ .tup ys):p≠q:=fun z=>by
 rw[z,hq] at h;exact n _ (Zy h)
end
end My
namespace L2
open PySem PySem.Spec PyProof.Rows
section
variable{κ:Type} [DecidableEq κ]
theorem RelO.isSome_eq{o:Option V}{u:Option Value}(r:RelO o u):o.isSome=u.isSome:=by
 cases o with
 | none=>cases u with
  | none=>rfl
  | some _=>exact(show False from r).elim
 | some _=>cases u with
  | none=>exact(show False from r).elim
  | some _=>rfl
theorem RelO.getD{o:Option V}{u:Option Value}{d:V}{d':Value}(r:RelO o u)(rd:RelV d d'):RelV (o.getD d) (u.getD d'):=by
 cases o with
 | none=>cases u with
  | none=>exact rd
  | some _=>exact(show False from r).elim
 | some _=>cases u with
  | none=>exact(show False from r).elim
  | some _=>exact r
end
theorem Zrp{P:Program}{w:World}{k:N2}{u:Value}(r:RelV (kV k) u):(Yr P w).is k u=true:=by
 cases k with
 | inl i=>obtain⟨t,e⟩:=(show ∃ t,u=Value.int i t from r);subst e;exact Xf P w i t
 | inr x=>obtain⟨t,e⟩:=(show ∃ t,u=Value.str x t from r);subst e;exact So P w x t
theorem Dm{P:Program}{w:World}:∀{ks:List N2} {us:List Value},Vals (ks.map kV) us→ItemsAre (Yr P w) ks us
 | [],_,r=>by rw[List.map_nil] at r;cases r;exact .nil
 | k :: ks,_,r=>by
  rw[List.map_cons] at r;cases r with
  | cons h t=>exact .cons (Zrp h) (Dm t)
section
variable{P:Program}{w:World}{H:Hp}{h:Heap}{a:Addr}
theorem Zj2{ks:List N2}(ok:HOk P w H h)(e:H a=some (.tup (ks.map kV))):(tupleKind (Yr P w)).is h ks a:=by
 obtain⟨_,its,r,o,h1,h2,n,h3⟩:=(show ObjOk P w H h a (.tup (ks.map kV)) from ok a _ e);exact⟨o,its.toArray,n,h1,h2,h3,by simpa using Dm r⟩
end
section
variable{X:Cx}{pins:List (Addr×Obj)}{σ:St}{H:Hp}{s:Shared}{a:Addr}{y v:V}{u r:Value}{o:Option V}{A:Around}{E:Value→Shared→Prop}
theorem Inv.big(I:Inv X pins σ H s):sysModules < s.heap.objs.size:=by
 have h:mainGlobals < s.heap.objs.size:=(I.mod.glob.keeps I.bk).lt;exact Nat.lt_trans (by decide) h
theorem A0{h':Heap}{t':Nat}{ob:HO}(I:Inv X pins σ H s)(mu:Mut (H a))(hs:Heap.SameBut a s.heap h')(he:∃ q,h'.get? a=some q)(new:ObjOk X.prog X.w (upd H a ob) h' a ob) :
  Inv X pins σ (upd H a ob) { s with heap:=h',toks:=t' }:=
 I.write (x:=a) (e:=a) mu (.inl rfl) (fun b q hb z=>(hs.2 b hb).trans z) he new
end
section
variable{X:Cx}{pins:List (Addr×Obj)}{σ:St}{H:Hp}{s:Shared}{a:Addr}{kvs:List (N2×V)}{k:N2}{u:Value}{A:Around}{E:Value→Shared→Prop}
end
def Zru(i:Expr):Prop:=∀ ov iv,subscripted i false ov iv=operate [ov,iv] (getItem ov iv)
theorem Zk2{prog:Program}{w:World}{A:Around}{E:Value→Shared→Prop}{s:Shared}{env:Env}{value slice:Expr}{pos:Pos}{T id:String}{Q:Value→Shared→Prop}
  (hl:typeLookup (.type T) "__getitem__" = pure (some (.builtin id))) (hs:Zru slice)
  (h:wpAny (model prog w) A (eval value env) (fun o s₁=>wpAny (model prog w) A (eval slice env) (fun i s₂=>s₂.TypeIs o T∧wpAny (model prog w) A (getItem o i) Q E s₂) E s₁) E s) :
  wpAny (model prog w) A (eval (.Subscript value slice pos) env) Q E s:=by
 refine Subscript_ (wpAny_mono h (fun o s₁ h₁=>wpAny_mono h₁ (fun i s₂ h₂=>?_) fun _ _ x=>x) fun _ _ x=>x);obtain⟨hT,h₂⟩:=h₂;unfold subscriptTail;refine Zb ?_;rw[getitemInPython_of_ne hT.not_modules];refine Zb (wpAny_specialOf hT hl ?_);have fin:wpAny (model prog w) A (subscripted slice false o i) (fun r s₃=>wpAny (model prog w) A (letTemporaryGo value o r >>= fun _=>pure r) Q E s₃) E s₂:=by
  rw[hs o i];exact wpAny_operating (wpAny_mono h₂ (fun r s₃ h₃=>Zb (wpAny_letTemporaryGo (Ze h₃))) fun _ _ x=>x)
 first
  | exact Ze (Zb fin)
  | exact Zb (Ze (Zb fin))
  | exact Zb fin
section
variable{X:Cx}{o i e value:Expr}{pos pos' tpos:Pos}{td ty tv:TE}
end
section
variable{X:Cx}{pos:Pos}
end
structure M2(X:Cx)(o:Expr)(m:Str)(apos:Pos)(e f:Expr)(cpos:Pos):Prop where
 base:attributeBase o m X.env (eval o X.env)=eval o X.env
 few:((backTo cpos (starEach [e,f] X.env)).all (fun x=>!x.1) && (backToKw cpos (keywordEach [] X.env)).all (fun x=>x.1.isSome)
  && decide (([e,f]:List Expr).length+([]:List Keyword).length+(if([]:List Keyword).isEmpty then 0 else 1) < 30))=true
 line:(apos.endLine == cpos.line)=true
 trees:backTo cpos (starEach [e,f] X.env)=[(false,eval e X.env),(false,eval f X.env)]
section
variable{X:Cx}{pins:List (Addr×Obj)}{σ:St}{H:Hp}{s:Shared}{a:Addr}{y d:V}{u r:Value}{o:Option V}{A:Around}{E:Value→Shared→Prop}
end
section
variable{X:Cx}{o e f:Expr}{apos cpos:Pos}{td ty tx:TE}
end
section
variable{X:Cx}{pins:List (Addr×Obj)}{σ:St}{H:Hp}{s:Shared}{a:Addr}{kvs:List (N2×V)}{A:Around}{E:Value→Shared→Prop}
end
section
variable{X:Cx}{pins:List (Addr×Obj)}{σ:St}{H:Hp}{s:Shared}{a:Addr}{y:V}{u:Value}{A:Around}{E:Value→Shared→Prop}
end
theorem Ziv{X:Cx}:Nf X (compareOp .IsNot) (fun x y H Q=>∃ a b,x = .bl a∧y = .bl b∧Q (.bl (!(a == b))) H):=by
 intro pins s σ H x y v u Q I rx ry h;obtain⟨a,b,rfl,rfl,q⟩:=h;cases rx;cases ry;have e:(compareOp .IsNot (.bool a) (.bool b):Sem Value)=pure (.bool (!(a == b))):=by cases a<;>cases b<;>rfl
 rw[e];exact Ze ⟨.bl _,H,I,rfl,q⟩
section
variable{prog:Program}{w:World}{A:Around}{R:Result→Shared→Prop}{I:Addr}{fp wr:List Addr}{n:Nat}{P:Nat→Value→Prop}{St:Nat→Heap→Prop}
end
def Zce(vs:List V):List Int:=vs.map fun v=>match v with | .int i=>i | _=>0
theorem Rs(ns:List Int):Zce (ns.map V.int)=ns:=by
 unfold Zce;rw[Z7];have:((fun v:V=>match v with | .int i=>i | _=>0) ∘ V.int)=id:=by funext c;rfl
 rw[this,List.map_id]
theorem Dt:∀(ns ms:List Int),Vp (ns.map V.int) (ms.map V.int)=decide (ns=ms)
 | [],[]=>rfl
 | [],_ :: _=>rfl
 | _ :: _,[]=>rfl
 | n :: ns,m :: ms=>by
  show(Ru (V.int n) (V.int m) && Vp (ns.map V.int) (ms.map V.int))=_;rw[Dt ns ms];have:Ru (V.int n) (V.int m)=(n == m):=rfl;rw[this];by_cases e1:n=m<;>by_cases e2:ns=ms<;>simp [e1,e2]
theorem Bg(ns:List Int):(ns.map V.int).all Xo=true:=by
 rw[List.all_map];exact Ym.mpr fun _ _=>rfl
section
variable{X:Cx}{pins:List (Addr×Obj)}{σ:St}{H:Hp}{s:Shared}
theorem Du(I:Inv X pins σ H s){A:Around}{p q:Addr}{ns ms:List Int}(hp:H p=some (.tup (ns.map V.int)))(hq:H q=some (.tup (ms.map V.int)))(hu:A.units < cLine):SeqAt.EqAt A s (.ref p) (.ref q) (decide (ns=ms)):=by
 by_cases e:p=q
 ·subst e
  rw[hp] at hq;have:ns=ms:=by
   have z:ns.map V.int=ms.map V.int:=by
    have:=Zy hq;injection this
   have:=congrArg Zce z;rw[Rs,Rs] at this;exact this
  rw[Zc this];exact SeqAt.EqAt.same _
 ·obtain⟨its,r1,p1,_⟩:=I.tuple (SqT.of hp)
  obtain⟨its2,r2,p2,_⟩:=I.tuple (SqT.of hq);have z:=SeqAt.RcAt.tuples (A:=A) (s:=s) (e:=fun j=>Ru ((ns.map V.int).getD j .non) ((ms.map V.int).getD j .non)) p1 p2 hu (fun j h1 h2=>Mm (Xy r1 (Bg ns) h1).1 (Xy r2 (Bg ms) h2).1 (Xy r1 (Bg ns) h1).2 (Xy r2 (Bg ms) h2).2);have y:=Vo (ns.map V.int) (ms.map V.int);rw[r1.length,r2.length] at y;rw[Z1,Z1,y,Dt] at z;exact SeqAt.EqAt.of_refs e z
end
def Zsl(scope sc:Scope):Scope:=
 { scope with names:=scope.names.map fun(n,k)=>if(k == .free && sc.kind == .function && sc.names.lookup n == some .cell) then(n,.cell) else(n,k) }
theorem Zib{X:Cx}{tg:Expr}(K:W.Frag)(hK:X.K=K){l:Expr}{tl:TE}(hl:PE X l tl):PI X tg l (Znp K tl):=by
 subst hK;exact Y4 hl
variable{X:Cx}
end L2
namespace L2
open PySem PySem.Spec PyProof.Rows
end L2
namespace HT
open PySem PySem.Spec PyProof.Rows
section
variable{prog:Program}{w:World}{A:Around}{E:Value→Shared→Prop}{s:Shared}
end
end HT
namespace L2
open PySem PySem.Spec PyProof.Rows
section
variable{X:Cx}
theorem Zgc(hc:X.calm=true):Xw X (.builtin "min") (fun xs H Q=>∃(a:Addr) (ns:List Int),xs=[.ref a]∧SqL X.K H a (ns.map V.int)∧0 < ns.length∧∀ M,M∈ns→(∀ k∈ns,M≤k)→Q (.int M) H):=by
 intro pins s σ H xs us Q I r h;obtain⟨a,ns,rfl,hS,hn,q⟩:=h;obtain⟨u,rfl,ru⟩:=Qu r;cases ru;obtain⟨its,vi,pl,hz⟩:=I.list hS;have hi:=Qh vi;obtain⟨xs,hx⟩:=hi.allInts.items;have hl:s.heap.IsList a (intItems xs):=hx ▸ Qq pl;have hns:ns=xs.toList.map (·.1):=by
  rw[← nums_intItems,← hx];exact hi.numsOf.symm
 have hsz:0 < xs.size:=by
  rw[hns,Zk,Array.length_toList] at hn;exact hn
 refine min_intList (I.ok.hd hc) hl hsz fun v h' tk hv hk=>?_;obtain⟨t,rfl⟩:=intItems_at hv;obtain⟨g1,g2⟩:=argBest_lt (numAt xs) (xs.size - 1);refine⟨.int _,H,I.kept hk,⟨_,rfl⟩,q _ ?_ fun k hk'=>?_⟩
 ·rw[hns,numAt_eq]
  exact getD_mem (by rw[Zk,Array.length_toList];omega)
 ·rw[hns] at hk'
  obtain⟨j,hj,rfl⟩:=mem_getD hk';rw[Zk,Array.length_toList] at hj;rw[← numAt_eq];exact g2 j (by omega)
end
section
variable{prog:Program}{w:World}
abbrev Uj:=List N2×Int×List N2
def IsPlK(h:Heap)(k:Uj)(a:Addr):Prop:=∃ o n b c t,h.get? a=some o∧o.cls = .type "tuple"∧o.data = .seq #[.ref b,.int k.2.1 t,.ref c] n∧IsTupleKey (Yr prog w) h k.1 b∧IsTupleKey (Yr prog w) h k.2.2 c
variable{A:Around}{E:Value→Shared→Prop}{s:Shared}
def Ts(prog:Program)(w:World)(k:Uj):Int:=reduceHash (Builtin.Tuple.tupleHashOf [tupleKeyHash (Yr prog w) k.1,(Yr prog w).hash (.inl k.2.1),tupleKeyHash (Yr prog w) k.2.2])
theorem IsPlK.typeIs{k:Uj}{a:Addr}(x:IsPlK (prog:=prog) (w:=w) s.heap k a):s.TypeIs (.ref a) "tuple":=let ⟨o,_,_,_,_,ho,hc,_⟩:=x;⟨o,ho,hc⟩
theorem IsPlK.inj{h:Heap}{a:Addr}{x y:Uj}(hx:IsPlK (prog:=prog) (w:=w) h x a)(hy:IsPlK (prog:=prog) (w:=w) h y a):x=y:=by
 obtain⟨o,n,b,c,t,ho,_,hd,h1,h2⟩:=hx;obtain⟨o',n',b',c',t',ho',_,hd',h1',h2'⟩:=hy;obtain rfl:o=o':=Zy (ho.symm.trans ho');rw[hd] at hd';obtain⟨x1,x2,x3⟩:=x;obtain⟨y1,y2,y3⟩:=y;simp only[Data.seq.injEq,Array.mk.injEq,List.cons.injEq,Value.ref.injEq,Value.int.injEq,and_true] at hd';obtain⟨⟨rfl,⟨e2,_⟩,rfl⟩,_⟩:=hd';simp only at e2 h1 h1' h2 h2';subst e2;rw[h1.inj h1',h2.inj h2']
theorem IsPlK.keeps{h h':Heap}{k:Uj}{a d:Addr}{o:Obj}{es ep}(x:IsPlK (prog:=prog) (w:=w) h k a)(ho:h.get? d=some o)(hd:o.data = .dict es ep)(hs:Heap.SameBut d h h'):IsPlK (prog:=prog) (w:=w) h' k a:=by
 obtain⟨o',n,b,c,t,ho',hc,hd',h1,h2⟩:=x;have hne:a≠d:=by
  rintro rfl;obtain rfl:o'=o:=Zy (ho'.symm.trans ho);rw[hd] at hd';exact nomatch hd'
 exact⟨o',n,b,c,t,(hs.2 a hne).trans ho',hc,hd',h1.keeps ho hd hs,h2.keeps ho hd hs⟩
theorem Q4{k:Uj}{a:Addr}{Q:Int→Shared→Prop}(hu:A.units+8 < cLine)(hk:IsPlK (prog:=prog) (w:=w) s.heap k a)(h:Q (Ts prog w k) { s with toks:=s.toks+(k.1.length+1+1+(k.2.2.length+1)+1) }) :
  wpAny (model prog w) A (pyHash (.ref a)) Q E s:=by
 have hT:=hk.typeIs;obtain⟨o,n,b,c,t,ho,_,hd,h1,h2⟩:=hk;unfold pyHash
 first | unfold pyHashByItsType | skip
 first | refine Zb (wpAny_cRoomFor_or (.inr (by omega)) ?_) | skip
 refine Zb (wpAny_specialOf hT F.slot_tuple_hash.lookup ?_);show wpAny _ _ (if(some (Value.builtin "tuple.__hash__") == some Value.none)=true then _ else _) Q E s;rw[Zj (by rw[beq_builtin_none];exact Zp)];refine Zb (wpAny_specialOf hT F.slot_tuple_hash.lookup ?_);show wpAny _ _ (callSpecialIfBoundUnlessNone? (.ref a) "__hash__" _ >>= _) Q E s;refine Zb (wpAny_callSpecialIfBoundUnlessNone?_slot hT F.slot_tuple_hash (wpAny_call_entry F.slot_tuple_hash hT F.entry_tuple_hash ?_ (F.args_tuple_hash_1 _)));show wpAny _ _ (Builtin.Tuple.tupleItemsOf (.ref a) >>= _) _ _ s;refine Zb (wpAny_tupleItemsOf ho hd ?_);refine Zb ?_;rw[← Array.forIn_toList];simp only[List.forIn_cons,List.forIn_nil];have hu1:A.in1.units < cLine:=(show A.units+1 < cLine by omega);refine Zb (Zb (wpAny_pyHash_tuple hu1 h1 (Ze ?_)));refine Zb (Zb ((Yr prog w).pyHash (Xf prog w k.2.1 t) (Ze ?_)));refine Zb (Zb (wpAny_pyHash_tuple (s:={ s with toks:=_ }) hu1 h2 (Ze (Ze ?_))));show wpAny _ _ (retInt (Builtin.Tuple.tupleHashOf [tupleKeyHash (Yr prog w) k.1,(Yr prog w).hash (.inl k.2.1),tupleKeyHash (Yr prog w) k.2.2])) _ _ _;refine wpAny_ret_mkInt ?_;generalize ez:Builtin.Tuple.tupleHashOf [tupleKeyHash (Yr prog w) k.1,(Yr prog w).hash (.inl k.2.1),tupleKeyHash (Yr prog w) k.2.2]=z;have h':Q (reduceHash z) { s with toks:=s.toks+(k.1.length+1+1+(k.2.2.length+1)+1) }:=by rw[← ez];exact h
 show wpAny _ _ (if(decide (-(2:Int) ^ 63≤z) && decide (z < 2 ^ 63))=true then _ else _) Q E _;unfold reduceHash at h';by_cases hr:(decide (-(2:Int) ^ 63≤z) && decide (z < 2 ^ 63))=true
 ·rw[Zv hr]
  rw[Zv hr] at h';exact Ze (by simpa [Nat.add_assoc] using h')
 ·rw[Zj hr]
  rw[Zj hr] at h';exact Zb (wpAny_rule (Ze (by simpa [Nat.add_assoc] using h')))
theorem Mw{x y:Uj}{a b:Addr}{P:PySem.Fin→Shared→Prop}(hu:A.units+8 < cLine)(hx:IsPlK (prog:=prog) (w:=w) s.heap x a)(hy:IsPlK (prog:=prog) (w:=w) s.heap y b)(h:P (.done (.ret (.bool (decide (x=y))))) s) :
  wpAny (model prog w) A (Builtin.«tuple.__eq__» ⟨[.ref a,.ref b],[]⟩) P E s:=by
 have hTb:=hy.typeIs;obtain⟨oa,na,a1,a2,ta,hoa,_,hda,hx1,hx2⟩:=hx;obtain⟨ob,nb,b1,b2,tb,hob,_,hdb,hy1,hy2⟩:=hy;obtain⟨x1,x2,x3⟩:=x;obtain⟨y1,y2,y3⟩:=y;simp only at hda hdb hx1 hx2 hy1 hy2;show wpAny _ _ (isInstance (.ref b) (.type "tuple") >>= _) _ _ s;refine Zb (wpAny_isInstance hTb isSubtype_tuple_tuple ?_);simp only[Bool.not_true,Bool.false_eq_true,if_false];refine Zb (wpAny_tupleItemsOf hoa hda ?_);refine Zb (wpAny_tupleItemsOf hob hdb ?_);refine Zb ?_;simp only[List.zip_cons_cons,List.zip_nil_left,List.forIn_cons,List.forIn_nil];have no:¬ (x1,x2,x3)=(y1,y2,y3)→P (.done (.ret (.bool false))) s:=fun n=>by
  rw[Zd n] at h;exact h
 refine Zb (Zb (wpAny_eqBool_tuple (by omega) hx1 hy1 ?_));by_cases e1:x1=y1
 case neg=>
  rw[Zd e1];exact Zb (Ze (Ze (Ze (Ze (no fun z=>e1 (by injection z))))))
 rw[Zc e1];refine Ze (Zb (Zb ((Yr prog w).eqBool (a:=.inl x2) (b:=.inl y2) (Xf prog w x2 ta) (Xf prog w y2 tb) ?_)));by_cases e2:(Sum.inl x2:N2) = .inl y2
 case neg=>
  rw[Zd e2];exact Zb (Ze (Ze (Ze (Ze (no fun z=>e2 (by injection z with z1 z2;injection z2 with z2 z3;rw[z2]))))))
 rw[Zc e2];refine Ze (Zb (Zb (wpAny_eqBool_tuple (by omega) hx2 hy2 ?_)));by_cases e3:x3=y3
 case neg=>
  rw[Zd e3];exact Zb (Ze (Ze (Ze (Ze (no fun z=>e3 (by injection z with z1 z2;injection z2 with z2 z3))))))
 rw[Zc e3];have e2':x2=y2:=by injection e2
 subst e1 e2' e3;rw[Zc rfl] at h;exact Ze (Ze (Ze h))
theorem Q5{x y:Uj}{a b:Addr}{Q:Bool→Shared→Prop}(hu:A.units+9 < cLine)(hx:IsPlK (prog:=prog) (w:=w) s.heap x a)(hy:IsPlK (prog:=prog) (w:=w) s.heap y b)(h:Q (decide (x=y)) s) :
  wpAny (model prog w) A (eqBool (.ref a) (.ref b)) Q E s:=by
 unfold eqBool
 try with_reducible refine wpAny_holding ?_
 show wpAny _ _ (if(Value.ref a == Value.ref b)=true then _ else _) Q E s;by_cases hab:(Value.ref a == Value.ref b)=true
 ·rw[Zv hab]
  have e:a=b:=by have:=eq_of_beq hab;injection this
  subst e;obtain rfl:=hx.inj hy;exact Zb (wpAny_rule (Ze (by simpa using h)))
 ·rw[Zj hab]
  exact Zb (wpAny_richCompare_same_room (op:=.Eq) hx.typeIs hy.typeIs F.slot_tuple_eq
   (wpAny_call_entry F.slot_tuple_eq hx.typeIs F.entry_tuple_eq (Mw (show A.units+1+8 < cLine by omega) hx hy ⟨_,rfl,(fun e=>nomatch e),wpAny_truthy_bool h⟩) (F.args_tuple_eq_2 _ _)) (by omega))
theorem Ef(n:Nat){ks:List N2}{a:Addr}{Q:Bool→Shared→Prop}(hk:IsTupleKey (Yr prog w) s.heap ks a)(h:Q true s):wpAny (model prog w) A (eqIsQuiet (n+1) (.ref a)) Q E s:=by
 have hT:=hk.typeIs;obtain⟨o,items,m,ho,_,hd,hi⟩:=hk;unfold eqIsQuiet;refine Zb (wpAny_specialOf hT F.slot_tuple_eq.lookup ?_);show wpAny _ _ (isInstance (.ref a) (.type "tuple") >>= _) _ _ s;refine Zb (wpAny_isInstance hT isSubtype_tuple_tuple ?_);simp only[Bool.not_true,Bool.false_eq_true,if_false];refine Zb (wpAny_seqItems ho hd ?_);refine Zb ?_;show wpAny _ _ (forIn items _ _) _ _ s;rw[← Array.forIn_toList];refine wpAny_forIn_list _ (fun rest r s'=>r.1=none∧s'=s∧∀ v∈rest,carriedByValue v=true) _ ?_ ?_ _ _ ⟨rfl,rfl,hi.byValue⟩
 ·rintro v rest r s' ⟨hr,rfl,hall⟩
  rw[eqIsQuiet_byValue _ (hall v Zw)];refine Zb (Ze ?_);simp only[Bool.not_true,Bool.false_eq_true,if_false];exact Ze ⟨rfl,rfl,fun u hu'=>hall u (Zx _ hu')⟩
 ·rintro⟨r1,r2⟩ s' ⟨hr,rfl,_⟩
  simp only at hr;subst hr;exact Ze h
theorem Kv{k:Uj}{a:Addr}{Q:Bool→Shared→Prop}(hk:IsPlK (prog:=prog) (w:=w) s.heap k a)(h:Q true s):wpAny (model prog w) A (eqIsQuiet 8 (.ref a)) Q E s:=by
 have hT:=hk.typeIs;obtain⟨o,n,b,c,t,ho,_,hd,h1,h2⟩:=hk;unfold eqIsQuiet;refine Zb (wpAny_specialOf hT F.slot_tuple_eq.lookup ?_);show wpAny _ _ (isInstance (.ref a) (.type "tuple") >>= _) _ _ s;refine Zb (wpAny_isInstance hT isSubtype_tuple_tuple ?_);simp only[Bool.not_true,Bool.false_eq_true,if_false];refine Zb (wpAny_seqItems ho hd ?_);refine Zb ?_;show wpAny _ _ (forIn #[Value.ref b,Value.int k.2.1 t,Value.ref c] _ _) _ _ s;rw[← Array.forIn_toList];simp only[List.forIn_cons,List.forIn_nil];refine Zb (Zb (Ef 6 h1 (Ze ?_)));refine Zb ?_;rw[eqIsQuiet_byValue _ (rfl:carriedByValue (.int k.2.1 t)=true)];refine Zb (Ze (Ze ?_));refine Zb (Zb (Ef 6 h2 (Ze ?_)));exact Ze (Ze h)
end
def X2(prog:Program)(w:World):HeapKind prog w Uj where
 is:=IsPlK (prog:=prog) (w:=w)
 hash:=Ts prog w
 draws:=fun k=>k.1.length+1+1+(k.2.2.length+1)+1
 room:=fun A=>A.units+9 < cLine
 inj:=fun hx hy=>hx.inj hy
 keeps:=fun x ho hd hs=>x.keeps ho hd hs
 pyHash:=fun hu hk h=>Q4 (by omega) hk h
 eqBool:=fun hu hx hy h=>Q5 hu hx hy h
 quiet:=fun hk h=>Kv hk h
def PlKey(H:Hp)(k:Uj)(p:Addr):Prop:=∃ hp tp,H p=some (.tup [.ref hp,.int k.2.1,.ref tp])∧H hp=some (.tup (k.1.map kV))∧H tp=some (.tup (k.2.2.map kV))
theorem PlKey.mono{H H':Hp}{k:Uj}{p:Addr}(h:PlKey H k p)(ht:∀ b ys,H b=some (.tup ys)→H' b=some (.tup ys)):PlKey H' k p:=by
 obtain⟨hp,tp,a,b,c⟩:=h;exact⟨hp,tp,ht _ _ a,ht _ _ b,ht _ _ c⟩
abbrev Xb:=Uj×Addr×Int
def Mt(H:Hp)(es:List Xb):Prop:=∀ e∈es,PlKey H e.1 e.2.1
abbrev PRel:List Xb→List (Uj×Addr×Value)→Prop:=Paired fun p q=>p.1=q.1∧p.2.1=q.2.1∧∃ t,q.2.2 = .int p.2.2 t
def Ev(P:Program)(w:World)(a:Addr)(es:List Xb):HO:=HO.ext fun h=>(a == sysModules)=false∧es.length≤sizeLine∧∃ xs,PRel es xs∧∃ o el ep,h.get? a=some o∧o.ExactDict∧o.data = .dict el ep∧el.toList=xs.map (entryOfKey (X2 P w))∧(xs.map (·.1)).Nodup
def Kf(es:List Xb)(k:Uj):Option Int:=(es.find? fun e=>decide (e.1=k)).map (·.2.2)
theorem PRel.at{k:Uj}:∀{es:List Xb} {xs:List (Uj×Addr×Value)},PRel es xs→RelO ((Kf es k).map V.int) ((atKey xs k).map (·.2))
 | _,_,.nil=>True.intro
 | e :: es,x :: xs,.cons ⟨h1,h2,t,h3⟩ r=>by
  have ih:=PRel.at (k:=k) r;unfold Kf atKey at *;rw[List.find?_cons,List.find?_cons,← h1];by_cases c:e.1=k
  ·rw[Zc c]
   show RelO (some (V.int e.2.2)) (some x.2.2);exact⟨t,h3⟩
  ·rw[Zd c]
   exact ih
section
variable{P:Program}{w:World}{H:Hp}{h:Heap}{a:Addr}
theorem El{k:Uj}{p:Addr}(ok:HOk P w H h)(e:PlKey H k p):IsPlK (prog:=P) (w:=w) h k p:=by
 obtain⟨hp,tp,e1,e2,e3⟩:=e;obtain⟨_,its,r,o,h1,h2,n,h3⟩:=(show ObjOk P w H h p (.tup [.ref hp,.int k.2.1,.ref tp]) from ok p _ e1);cases r with
 | cons r1 r=>
 cases r with
 | cons r2 r=>
 cases r with
 | cons r3 r=>
 cases r;obtain⟨t,r2⟩:=r2;cases r1;cases r3;subst r2;exact⟨o,n,hp,tp,t,h1,h2,h3,Zj2 ok e2,Zj2 ok e3⟩
theorem Zij{es:List Xb}(ok:HOk P w H h)(e:H a=some (Ev P w a es))(ks:Mt H es):(a == sysModules)=false∧es.length≤sizeLine∧∃ xs,PRel es xs∧h.DictOfH (X2 P w) a xs:=by
 obtain⟨⟨hd,hz,xs,r,o,el,ep,h1,h2,h3,h4,h5⟩,_⟩:=(show ObjOk P w H h a (Ev P w a es) from ok a _ e);refine⟨hd,hz,xs,r,o,el,ep,h1,h2,h3,h4,fun x hx=>?_,h5⟩;have all:∀{l:List Xb} {m:List (Uj×Addr×Value)},PRel l m→(∀ e∈l,PlKey H e.1 e.2.1)→∀ x∈m,(X2 P w).is h x.1 x.2.1:=by
  intro l m q
  induction q with
  | nil=>intro _ x hx;exact nomatch hx
  | @cons p q ps qs hq t ih=>
   intro hk x hx;rcases Ja.mp hx with e | hx
   ·subst e
    have:=El ok (hk p Zw);rw[hq.1,hq.2.1] at this;exact this
   ·exact ih (fun e he=>hk e (Zx _ he)) x hx
 exact all r ks x hx
theorem Zik{H':Hp}{h':Heap}{es:List Xb}{xs:List (Uj×Addr×Value)}(hd:(a == sysModules)=false)(hz:es.length≤sizeLine)(r:PRel es xs)(dd:h'.DictOfH (X2 P w) a xs):ObjOk P w H' h' a (Ev P w a es):=by
 obtain⟨o,el,ep,h1,h2,h3,h4,_,h5⟩:=dd;refine⟨⟨hd,hz,xs,r,o,el,ep,h1,h2,h3,h4,h5⟩,⟨o,h1⟩,fun h1 h2 z k=>?_⟩;obtain⟨hd,hz,xs,r,o,el,ep,h1,h2,h3,h4,h5⟩:=z;exact⟨hd,hz,xs,r,o,el,ep,k _ h1,h2,h3,h4,h5⟩
end
theorem PRel.snoc{es:List Xb}{xs:List (Uj×Addr×Value)}(r:PRel es xs){e:Xb}{x:Uj×Addr×Value}(h:e.1=x.1∧e.2.1=x.2.1∧∃ t,x.2.2 = .int e.2.2 t):PRel (es++[e]) (xs++[x]):=by
 induction r with
 | nil=>exact .cons h .nil
 | cons a _ ih=>exact .cons a ih
section
variable{X:Cx}{o i value:Expr}{td ty tv:TE}{pos pos':Pos}
theorem Zii:PE X (.Dict [] [] pos) (fun _ H Q=>∀ p,H p=none→Q (.ref p) (upd H p (Ev X.prog X.w p []))):=fun pins s σ H Q I h=>
 wpAny_Dict_empty ⟨.ref s.heap.objs.size,_,I.laid (a:=s.heap.objs.size) (o:=Ev X.prog X.w s.heap.objs.size []) (t':=s.toks) (fun _ _ q=>Zh _ q) (Zs _)
  (Zik (xs:=[]) (beq_eq_false_iff_ne.mpr (Ne.symm (Jh I.big))) (Nat.zero_le _) .nil ⟨_,#[],0,Z6 _ rfl,⟨rfl,rfl,rfl⟩,rfl,rfl,(fun x hx=>nomatch hx),List.nodup_nil⟩),rfl,h _ (I.hok.fresh (Zs _))⟩
theorem Zlm(hu:X.A.units+10 < cLine)(ho:PE X o td)(hi:PE X i ty)(hs:Zru i):PE X (.Subscript o i pos) (fun σ H Q=>td σ H fun x H1=>ty σ H1 fun y H2=>∃ a es k b v,x = .ref a∧H2 a=some (Ev X.prog X.w a es)∧Mt H2 es∧y = .ref b∧PlKey H2 k b∧Kf es k=some v∧Q (.int v) H2):=by
 intro pins s σ H Q I h;refine Zk2 PySem.F.slot_dict_getitem.lookup hs (Ub (ho pins s σ H _ I h) fun u s1 ⟨x,H1,I1,rx,q1⟩=>Ub (hi pins s1 σ H1 _ I1 q1) fun iv s2 ⟨y,H2,I2,ry,a,es,k,b,v,ex,e,ks,ey,eb,ev,q2⟩=>?_);subst ex ey;obtain rfl:u=Value.ref a:=rx;obtain rfl:iv=Value.ref b:=ry;obtain⟨hd,hz,xs,r,dd⟩:=Zij I2.hok e ks;refine⟨dd.typeIs,?_⟩;have rl:=r.at (k:=k);rw[ev] at rl;obtain⟨w',hw,rw'⟩:=RelO.some_of (v:=V.int v) (o:=(atKey xs k).map (fun x:Addr×Value=>x.2)) rl;obtain⟨p,hp,hp2⟩:=Jq.mp hw;refine wpAny_getItem_heap (knd:=X2 X.prog X.w) (show X.A.units+1+9 < cLine by omega) (El I2.hok eb) dd hp ?_;rw[hp2];exact⟨.int v,H2,I2.tok _,rw',q2⟩
theorem Ze5(hu:X.A.units+10 < cLine)(hi:PE X i ty)(ho:PE X o td):PC X .NotIn i o (fun σ H Q=>ty σ H fun y H1=>td σ H1 fun x H2=>∃ a es k b,x = .ref a∧H2 a=some (Ev X.prog X.w a es)∧Mt H2 es∧y = .ref b∧PlKey H2 k b∧Q (.bl (!(Kf es k).isSome)) H2):=by
 intro pins s σ H Q I h;refine Ub (hi pins s σ H _ I h) fun iv s1 ⟨y,H1,I1,ry,q1⟩=>Ub (ho pins s1 σ H1 _ I1 q1) fun u s2 ⟨x,H2,I2,rx,a,es,k,b,ex,e,ks,ey,eb,q2⟩=>?_;subst ex ey;obtain rfl:u=Value.ref a:=rx;obtain rfl:iv=Value.ref b:=ry;obtain⟨hd,hz,xs,r,dd⟩:=Zij I2.hok e ks;refine wpAny_notIn_heap (knd:=X2 X.prog X.w) (show X.A.units+1+9 < cLine by omega) (El I2.hok eb) hd dd ?_;have z:=(r.at (k:=k)).isSome_eq;rw[Option.isSome_map,Option.isSome_map] at z;rw[← z];exact⟨.bl (!(Kf es k).isSome),H2,I2.tok _,rfl,q2⟩
theorem Zli(hu:X.A.units+10 < cLine)(ho:PE X o td)(hi:PE X i ty)(hv:PE X value tv)(hs:swapsWith value (some (.Subscript o i pos')) pos.line X.env=pure false) :
  PS X (.Assign [.Subscript o i pos'] value pos) (fun D σ H=>tv σ H fun v H1=>td σ H1 fun x H2=>ty σ H2 fun y H3=>∃ a es k b n,v = .int n∧x = .ref a∧H3 a=some (Ev X.prog X.w a es)∧Mt H3 es∧y = .ref b∧PlKey H3 k b∧Kf es k=none∧es.length < sizeLine∧D.nx σ (upd H3 a (Ev X.prog X.w a (es++[(k,b,n)])))):=by
 intro pins s σ H D I h;refine wpAny_Assign_Subscript (Ub (hv pins s σ H _ I h) fun r s1 ⟨v,H1,I1,rv,q1⟩=>Ub (ho pins s1 σ H1 _ I1 q1) fun u s2 ⟨x,H2,I2,rx,q2⟩=>Ub (hi pins s2 σ H2 _ I2 q2) fun iv s3 ⟨y,H3,I3,ry,a,es,k,b,n,en,ex,e,ks,ey,eb,ev,hl,q3⟩=>?_) hs;subst ex ey en;obtain rfl:u=Value.ref a:=rx;obtain rfl:iv=Value.ref b:=ry;obtain⟨t,rfl⟩:=rv;obtain⟨hd,hz,xs,rl,dd⟩:=Zij I3.hok e ks;have hz2:xs.length≤sizeLine:=by rw[← Paired.length rl];exact hz
 have none_:atKey xs k=none:=by
  have z:=(rl.at (k:=k)).isSome_eq;rw[ev] at z;cases c:atKey xs k with
  | none=>rfl
  | some p=>rw[c] at z;cases z
 refine wpAny_setItem_heap (knd:=X2 X.prog X.w) (hsz:=hz2) (show X.A.units+1+9 < cLine by omega) (El I3.hok eb) dd fun h' dd' hs=>⟨σ,_,?_,q3⟩;rw[storedH_new none_] at dd';obtain⟨q,el,ep,hq,_⟩:=id dd';exact A0 I3 (by rw[e];exact True.intro) hs ⟨q,hq⟩ (Zik hd (by rw[Jc];exact hl) (rl.snoc ⟨rfl,rfl,t,rfl⟩) dd')
end
def KpD(d:Addr)(H H':Hp):Prop:=∀ b o,b≠d→H b=some o→H' b=some o
theorem KpD.refl(d:Addr)(H:Hp):KpD d H H:=fun _ _ _ h=>h
theorem KpD.trans{d:Addr}{H H1 H2:Hp}(a:KpD d H H1)(b:KpD d H1 H2):KpD d H H2:=fun c o n h=>b c o n (a c o n h)
theorem Same.d{d:Addr}{H H1:Hp}(s:Same H H1):KpD d H H1:=fun b o _ h=>s b o h
theorem Zf6{K:W.Frag}{te:TE}{σ0:St}{H1:Hp}{Q:V→Hp→Prop}{a:Addr}{xs:List V}(d:Addr)(Pv:Addr→List V→Hp→Prop)(hd:∃ o,H1 d=some o)(hS:∀ H,KpD d H1 H→SqL K H a xs)(hn:xs.length≤sizeLine)(h0:∀ l,H1 l=none→Pv l [] (upd H1 l (.lst [])))
  (hE:∀ i x H l vs,xs[i]? = some x→vs.length=i→KpD d H1 H→H1 l=none→H l=some (.lst vs)→Pv l vs H→∀ R:V→Hp→Prop,(∀ v H',KpD d H H'→Pv l (vs++[v]) (upd H' l (.lst (vs++[v])))→R v H')→te (σ0.set 0 (some x)) H R)
  (hQ:∀ l H vs,KpD d H1 H→H1 l=none→H l=some (.lst vs)→vs.length=xs.length→Pv l vs H→Q (.ref l) H):Ey (Qw 0) Zgz te σ0 (Itl K a) H1 Q:=by
 intro l hl;have ld:l≠d:=fun z=>by
  obtain⟨o,e⟩:=hd;rw[← z,hl] at e;cases e
 refine⟨fun i m σ H=>m=xs.length - i∧i≤xs.length∧KpD d H1 H∧(∃ vs,H l=some (.lst vs)∧vs.length=i∧Pv l vs H)∧∀ o,σ.set 0 o=σ0.set 0 o,⟨xs.length,by simp,Nat.zero_le _,(Je hl _).d,⟨[],Zq,rfl,h0 l hl⟩,fun _=>rfl⟩,?_⟩;rintro i m σ H ⟨rfl,hi,sm,⟨vs,hL,hvl,hvs⟩,hσ⟩;by_cases lt:i < xs.length
 ·refine .inr ⟨⟨xs,_,hS H sm,Zg lt⟩,fun x H' y=>?_⟩
  obtain⟨rfl,y2⟩:=y;have hx:xs[i]? = some x:=y2 xs (hS _ sm);unfold Qw Zgz;dsimp only;rw[hσ,Zv rfl];refine hE i x H' l vs hx hvl sm hl hL hvs _ fun v H3 s3 hv=>⟨vs,s3 _ _ ld hL,by omega,xs.length - (i+1),by omega,rfl,lt,fun b o n h=>?_,⟨vs++[v],Zq,by rw[Jc,hvl];rfl,hv⟩,fun o=>List.set_set _⟩;rw[Z8 (Jz h hl)];exact s3 b o n (sm b o n h)
 ·have e:i=xs.length:=by omega
  subst e;exact .inl ⟨⟨xs,hS H sm,Zs _⟩,hQ l H vs sm hl hL hvl hvs⟩
def Zeh(H:Hp)(a:Addr)(ps:List (Nat×Nat)):Prop:=∃ as:List Addr,H a=some (.lst (as.map V.ref))∧as.length=ps.length∧∀(j:Nat) (u:Addr) (p:Nat×Nat),as[j]? = some u→ps[j]? = some p→H u=some (.tup [.int (p.1:Nat),.int (p.2:Nat)])
theorem Zn4(σ:St)(a b o o':Option V):(((σ.set 0 a).set 1 b).set 0 o).set 1 o'=(σ.set 0 o).set 1 o':=by
 match σ with
 | []=>rfl
 | [_]=>rfl
 | _ :: _ :: _=>rfl
theorem Bx{K:W.Frag}{tt:TT}{te:TE}{σ0:St}{H1:Hp}{Q:V→Hp→Prop}{a:Addr}{ps:List (Nat×Nat)}(hS:Zeh H1 a ps)(p:Nat×Nat→Bool)(f:Nat×Nat→V)(hn:ps.length≤sizeLine)
  (hT:∀ x H,x∈ps→Same H1 H→∀ R:Bool→Hp→Prop,(∀ H',Same H H'→R (p x) H')→tt ((σ0.set 0 (some (.int (x.1:Nat)))).set 1 (some (.int (x.2:Nat)))) H R)
  (hE:∀ x H,x∈ps→p x=true→Same H1 H→∀ R:V→Hp→Prop,(∀ H',Same H H'→R (f x) H')→te ((σ0.set 0 (some (.int (x.1:Nat)))).set 1 (some (.int (x.2:Nat)))) H R)
  (hQ:∀ l H,Same H1 H→H1 l=none→H l=some (.lst ((ps.filter p).map f))→Q (.ref l) H):Ey (Zmv K 2 (S3 (Qw 0) (S3 (Qw 1) Zpv))) tt te σ0 (Itl K a) H1 Q:=by
 intro l hl;obtain⟨as,hA,la,hP⟩:=hS;refine⟨fun i m σ H=>m=ps.length - i∧i≤ps.length∧Same H1 H∧H l=some (.lst (((ps.take i).filter p).map f))∧∀ o o',(σ.set 0 o).set 1 o'=(σ0.set 0 o).set 1 o',⟨ps.length,by simp,Nat.zero_le _,Je hl _,Zq,fun _ _=>rfl⟩,?_⟩;rintro i m σ H ⟨rfl,hi,sm,hL,hσ⟩;have hA':SqL K H a (as.map V.ref):=SqL.of (sm _ _ hA);by_cases lt:i < ps.length
 ·have la':i < as.length:=by omega
  have ea:as[i]? = some as[i]:=Zg la';have ep:ps[i]? = some ps[i]:=Zg lt;have ex:(as.map V.ref)[i]? = some (V.ref as[i]):=by rw[Z4,ea];rfl
  refine .inr ⟨⟨as.map V.ref,_,hA',ex⟩,fun x H' y=>?_⟩;obtain⟨rfl,y2⟩:=y;have hx:=y2 _ hA';rw[ex] at hx;cases hx;have hu:=sm _ _ (hP i _ _ ea ep);refine⟨as[i],_,rfl,SqT.of hu,rfl,_,_,rfl,_,_,rfl,rfl,?_⟩;show tt ((σ.set 0 (some (.int (ps[i].1:Nat)))).set 1 (some (.int (ps[i].2:Nat)))) H' _;rw[hσ];have er:(ps.take (i+1)).filter p=(ps.take i).filter p++(if p ps[i]=true then [ps[i]] else []):=by
   rw[U0,ep,List.filter_append];show _++List.filter p [ps[i]]=_;by_cases hp:p ps[i]=true
   ·rw[Zv hp,List.filter_cons_of_pos hp,List.filter_nil]
   ·rw[Zj hp,List.filter_cons_of_neg hp,List.filter_nil]
  have lf:(((ps.take i).filter p).map f).length < sizeLine:=by
   rw[Zk];have:=List.length_filter_le p (ps.take i);rw[Xm] at this;omega
  refine hT ps[i] H' (Y6 _) sm _ fun H2 s2=>?_;by_cases hp:p ps[i]=true
  ·rw[Zv hp]
   refine hE ps[i] H2 (Y6 _) hp (sm.trans s2) _ fun H3 s3=>?_;refine⟨_,s3 _ _ (s2 _ _ hL),lf,ps.length - (i+1),by omega,rfl,lt,N6 hl (sm.trans (s2.trans s3)) _,?_,fun o o'=>Zn4 _ _ _ _ _⟩;rw[Zq,er,Zv hp,Jw];rfl
  ·rw[Zj hp]
   refine⟨ps.length - (i+1),by omega,rfl,lt,sm.trans s2,?_,fun o o'=>Zn4 _ _ _ _ _⟩;rw[er,Zj hp,J9];exact s2 _ _ hL
 ·have e:i=ps.length:=by omega
  subst e;rw[List.take_length] at hL;exact .inl ⟨⟨as.map V.ref,hA',by rw[Zk];omega⟩,hQ l H sm hl hL⟩
theorem Gm{X:Cx}{pos:Pos}(K:W.Frag)(hK:X.K=K){es:List Expr}{k:Nat}{t:TGs}{n:Nat}(hc:X.calm=true)(h:PGs X es t)
  (hn:(assignEach es X.env).length=n:=by rfl) (hst:(assignEach es X.env).findIdx? (·.1)=none:=by rfl):PG X (.Tuple es k pos) (Zmv K n t):=by
 subst hK;exact Ra hc h hn hst
end L2
namespace My
open PySem L2
abbrev Tj:Stmt:=top 31
abbrev Zhw:Stmt:=top 32
abbrev O4:Stmt:=Yn (top 33) 0
abbrev Gh:Stmt:=Yn (top 33) 1
abbrev Tg:Stmt:=Yn (top 33) 2
abbrev Va:Stmt:=Yn (top 33) 3
abbrev Gi:Stmt:=Yn (top 33) 4
abbrev Gg:Stmt:=top 34
abbrev Zbk:Stmt:=top 35
theorem Zee(g:Nat→Nat):∀ n,0 < n→∃ i,i < n∧∀ j,j < n→g j≤g i
 | 1,_=>⟨0,by omega,fun j hj=>by
  have:j=0:=by omega
  rw[this];exact Zs _⟩
 | n+2,_=>by
  obtain⟨i,hi,h⟩:=Zee g (n+1) (by omega);by_cases c:g i≤g (n+1)
  ·refine⟨n+1,by omega,fun j hj=>?_⟩
   rcases Nat.lt_or_ge j (n+1) with z | z
   ·exact Jd (h j z) c
   ·have:j=n+1:=by omega
    rw[this];exact Zs _
  ·refine⟨i,by omega,fun j hj=>?_⟩
   rcases Nat.lt_or_ge j (n+1) with z | z
   ·exact h j z
   ·have:j=n+1:=by omega
    rw[this];omega
theorem Ap{fx:Fx}(ok:fx.Ok)(t:Option Nat){hs:List Nat}{lead:Nat}{ys:List Nat}{m h c:Nat}(Pl:Plc fx hs lead ys m)(eh:hs[(lead+ys.length) % fx.n]? = some h)(hb:h.testBit c=true):∃ hs' lead' ys' tk,Nxt fx t hs lead ys h c hs' lead' ys' tk:=by
 have yl:=Pl.yl;by_cases cl:ys.length+1 < fx.n
 ·exact⟨_,lead,ys++[c],none,rfl,fun _=>⟨rfl,rfl,rfl⟩,fun e=>absurd e (by omega)⟩
 ·have hm:h∈hs:=Zl eh
  have T:Trk fx (ys++[c]):=⟨Zgv Pl eh hb,fun y hy=>by
   rcases J1.mp hy with z | z
   ·exact(Pl.pk y (Nx z)).2
   ·rw[Jg.mp z]
    exact(Pl.pk c (Qp hm hb)).2,by rw[Jc,List.length_singleton];omega⟩
  obtain⟨i,hi,hmax⟩:=Zee (fun j=>rk fx t (Yk (ys++[c])) ((ys++[c]).getD j 0)) (ys++[c]).length T.ne;exact⟨_,(lead+i) % fx.n,[],some ((lead+i) % fx.n),rfl,fun e=>absurd e cl,fun _=>⟨rfl,rfl,i,Zgl ok T hi hmax,rfl⟩⟩
def J4(hs:List Nat):Nat:=(hs.map (Xi 32)).sum
def Qo(side:Nat):Option Nat→Nat
 | none=>0
 | some s=>if side.testBit s=true then 1 else 0
open Classical in
noncomputable def nxF (fx:Fx) (t:Option Nat) (hs:List Nat) (lead:Nat) (ys:List Nat) (h c:Nat):List Nat×Nat×List Nat×Option Nat:=
 if e:∃ z:List Nat×Nat×List Nat×Option Nat,Nxt fx t hs lead ys h c z.1 z.2.1 z.2.2.1 z.2.2.2 then Classical.choose e else([],0,[],none)
theorem T6{fx:Fx}{t:Option Nat}{hs:List Nat}{lead:Nat}{ys:List Nat}{h c m:Nat}{hs':List Nat}{lead':Nat}{ys':List Nat}{tk:Option Nat}(Pl:Plc fx hs lead ys m)(eh:hs[(lead+ys.length) % fx.n]? = some h)(hc:h.testBit c=true)(N:Nxt fx t hs lead ys h c hs' lead' ys' tk):nxF fx t hs lead ys h c=(hs',lead',ys',tk):=by
 have e:∃ z:List Nat×Nat×List Nat×Option Nat,Nxt fx t hs lead ys h c z.1 z.2.1 z.2.2.1 z.2.2.2:=⟨(hs',lead',ys',tk),N⟩;unfold nxF;rw[dif_pos e];obtain⟨a,b,c,d⟩:=(Classical.choose_spec e).uniq Pl eh hc N;exact Prod.ext a (Prod.ext b (Prod.ext c d))
def Qn(b:Bool)(ns:List Nat):Nat:=if ns=[] then 0 else if b=true then ns.foldl max 0 else(ns.drop 1).foldl min (ns.getD 0 0)
noncomputable def valF (fx:Fx) (t:Option Nat) (side:Nat):Nat→List Nat→Nat→List Nat→Nat
 | 0,_,_,_=>0
 | k+1,hs,lead,ys=>Qn (side.testBit ((lead+ys.length) % fx.n)) ((Us fx t ys (hs.getD ((lead+ys.length) % fx.n) 0)).map fun c=>
   Qo side (nxF fx t hs lead ys (hs.getD ((lead+ys.length) % fx.n) 0) c).2.2.2+valF fx t side k (nxF fx t hs lead ys (hs.getD ((lead+ys.length) % fx.n) 0) c).1 (nxF fx t hs lead ys (hs.getD ((lead+ys.length) % fx.n) 0) c).2.1 (nxF fx t hs lead ys (hs.getD ((lead+ys.length) % fx.n) 0) c).2.2.1)
noncomputable def valP (fx:Fx) (t:Option Nat) (side:Nat) (hs:List Nat) (lead:Nat) (ys:List Nat):Nat:=valF fx t side (J4 hs) hs lead ys
noncomputable def numP (fx:Fx) (t:Option Nat) (side:Nat) (hs:List Nat) (lead:Nat) (ys:List Nat) (c:Nat):Nat:=
 Qo side (nxF fx t hs lead ys (hs.getD ((lead+ys.length) % fx.n) 0) c).2.2.2+valP fx t side (nxF fx t hs lead ys (hs.getD ((lead+ys.length) % fx.n) 0) c).1 (nxF fx t hs lead ys (hs.getD ((lead+ys.length) % fx.n) 0) c).2.1 (nxF fx t hs lead ys (hs.getD ((lead+ys.length) % fx.n) 0) c).2.2.1
theorem Rh:∀(l:List Nat) (a:Nat),(a≤l.foldl max a∧∀ x∈l,x≤l.foldl max a)∧(l.foldl max a=a∨l.foldl max a∈l)
 | [],a=>⟨⟨Zs _,fun x hx=>nomatch hx⟩,.inl rfl⟩
 | y :: l,a=>by
  obtain⟨⟨h1,h2⟩,h3⟩:=Rh l (max a y);show(a≤l.foldl max (max a y)∧∀ x∈y :: l,x≤l.foldl max (max a y))∧(l.foldl max (max a y)=a∨l.foldl max (max a y)∈y :: l);refine⟨⟨by omega,fun x hx=>?_⟩,?_⟩
  ·rcases Ja.mp hx with e | e
   ·omega
   ·exact h2 x e
  ·rcases h3 with e | e
   ·rcases Nat.le_total a y with z | z
    ·right
     rw[e,Nat.max_eq_right z];exact Zw
    ·left
     rw[e,Nat.max_eq_left z]
   ·exact .inr (Zx _ e)
theorem Bf:∀(l:List Nat) (a:Nat),(l.foldl min a≤a∧∀ x∈l,l.foldl min a≤x)∧(l.foldl min a=a∨l.foldl min a∈l)
 | [],a=>⟨⟨Zs _,fun x hx=>nomatch hx⟩,.inl rfl⟩
 | y :: l,a=>by
  obtain⟨⟨h1,h2⟩,h3⟩:=Bf l (min a y);show(l.foldl min (min a y)≤a∧∀ x∈y :: l,l.foldl min (min a y)≤x)∧(l.foldl min (min a y)=a∨l.foldl min (min a y)∈y :: l);refine⟨⟨by omega,fun x hx=>?_⟩,?_⟩
  ·rcases Ja.mp hx with e | e
   ·omega
   ·exact h2 x e
  ·rcases h3 with e | e
   ·rcases Nat.le_total a y with z | z
    ·left
     rw[e,Nat.min_eq_left z]
    ·right
     rw[e,Nat.min_eq_right z];exact Zw
   ·exact .inr (Zx _ e)
theorem Ky{ns:List Nat}{M:Nat}(h:M∈ns)(g:∀ x∈ns,x≤M):Qn true ns=M:=by
 have n:ns≠[]:=fun z=>by rw[z] at h;cases h
 unfold Qn;rw[Zj n,Zv rfl];obtain⟨⟨a,b⟩,c⟩:=Rh ns 0;have h1:=b M h;rcases c with e | e
 ·omega
 ·have:=g _ e
  omega
theorem Zia{ns:List Nat}{M:Nat}(h:M∈ns)(g:∀ x∈ns,M≤x):Qn false ns=M:=by
 match ns,h,g with
 | y :: l,h,g=>
  unfold Qn;rw[Zj (fun z=>nomatch z),Zj Zp];show l.foldl min y=M;obtain⟨⟨a,b⟩,c⟩:=Bf l y;have h1:l.foldl min y≤M:=by
   rcases Ja.mp h with e | e
   ·omega
   ·exact b M e
  rcases c with e | e
  ·have:=g y Zw
   omega
  ·have:=g _ (Zx _ e)
   omega
theorem Vx{fx:Fx}{t:Option Nat}{side:Nat}{hs:List Nat}{lead:Nat}{ys:List Nat}(h:J4 hs=0):valP fx t side hs lead ys=0:=by
 unfold valP;rw[h];rfl
theorem N3{fx:Fx}(ok:fx.Ok){t:Option Nat}{side:Nat}{hs:List Nat}{lead:Nat}{ys:List Nat}{m:Nat}(Pl:Plc fx hs lead ys m)(h0:J4 hs≠0) :
  valP fx t side hs lead ys=Qn (side.testBit ((lead+ys.length) % fx.n)) ((Us fx t ys (hs.getD ((lead+ys.length) % fx.n) 0)).map (numP fx t side hs lead ys)):=by
 obtain⟨h,eh,_⟩:=Pl.turn ok;have eg:hs.getD ((lead+ys.length) % fx.n) 0=h:=by rw[Zr,eh];rfl
 obtain⟨k,ek⟩:∃ k,J4 hs=k+1:=⟨J4 hs - 1,by omega⟩;unfold valP;rw[ek];show Qn _ _=_
 congr 1
 refine J2 fun c hc=>?_;unfold numP;rw[eg] at hc ⊢;have hb:=(Qg (Pl.h32 ok (Zl eh)) hc).1;obtain⟨hs',lead',ys',tk,N⟩:=Ap ok t Pl eh hb;rw[T6 Pl eh hb N];obtain⟨_,_,_,tt,_⟩:=N.plc ok Pl eh hb;have:J4 hs'=k:=by
  unfold J4 at *;omega
 unfold valP;show Qo side tk+valF fx t side k hs' lead' ys'=Qo side tk+valF fx t side (J4 hs') hs' lead' ys';rw[this]
theorem Aq{fx:Fx}(ok:fx.Ok){t:Option Nat}{side:Nat}{hs:List Nat}{lead:Nat}{ys:List Nat}{m h c:Nat}{hs':List Nat}{lead':Nat}{ys':List Nat}{tk:Option Nat}(Pl:Plc fx hs lead ys m)(eh:hs[(lead+ys.length) % fx.n]? = some h)(hb:h.testBit c=true)(N:Nxt fx t hs lead ys h c hs' lead' ys' tk) :
  numP fx t side hs lead ys c=Qo side tk+valP fx t side hs' lead' ys':=by
 have eg:hs.getD ((lead+ys.length) % fx.n) 0=h:=by rw[Zr,eh];rfl
 unfold numP;rw[eg,T6 Pl eh hb N]
theorem Vk{fx:Fx}{t:Option Nat}{ys:List Nat}{h:Nat}(h32:h < 4294967296):(Us fx t ys h).length≤Xi 32 h:=by
 unfold Us Y2 Xi;rw[← List.countP_eq_length_filter,← List.countP_eq_length_filter];refine List.countP_mono_left fun b hb e=>?_;exact(Qg (f:=fx) (t:=t) (ys:=ys) h32 (by unfold Us Y2;exact List.mem_filter.mpr ⟨hb,e⟩)).1
theorem Zg5(a:Nat):∀ l:List Nat,(∀ x∈l,a≤x)→l.length * a≤l.sum
 | [],_=>by simp
 | y :: l,h=>by
  have:=Zg5 a l (fun x hx=>h x (Zx _ hx));have:=h y Zw;rw[Jo,List.sum_cons,Nat.succ_mul];omega
theorem Zcv(a:Nat):∀ l:List Nat,(∀ x∈l,a≤x)→a+1∈l→l.length * a+1≤l.sum
 | [],_,h=>nomatch h
 | y :: l,h,hm=>by
  rw[Jo,List.sum_cons,Nat.succ_mul];have hy:=h y Zw;rcases Ja.mp hm with e | e
  ·have:=Zg5 a l (fun x hx=>h x (Zx _ hx))
   omega
  ·have:=Zcv a l (fun x hx=>h x (Zx _ hx)) e
   omega
theorem Plc.few{fx:Fx}(ok:fx.Ok){hs:List Nat}{lead:Nat}{ys:List Nat}{m:Nat}(Pl:Plc fx hs lead ys m):m≤(J4 hs+2) / 3:=by
 rcases Nat.eq_zero_or_pos m with e | e
 ·omega
 obtain⟨a,ea⟩:∃ a,m=a+1:=⟨m - 1,by omega⟩;have h1:=(Pl.max ok).1;rw[ea] at h1;have h2:=Zcv a (hs.map (Xi 32)) (fun x hx=>by
  obtain⟨h,hh,rfl⟩:=Zz.mp hx;obtain⟨i,hi,ei⟩:=Ua.mp hh;have:=Pl.lv i h (by rw[Zg hi,ei]);split at this<;>omega) h1
 rw[Zk,Pl.len] at h2;have h3:3 * a≤fx.n * a:=Nat.mul_le_mul_right _ (by rcases ok.n34 with e | e<;>omega);unfold J4;omega
def Sn:Nat→Nat
 | 0=>1
 | k+1=>1+(k+3) / 3 * Sn k
theorem Zqr:∀ l:List Nat,(∀ x∈l,x=0)→l.sum=0
 | [],_=>rfl
 | y :: l,h=>by rw[List.sum_cons,h y Zw,Zqr l fun x hx=>h x (Zx _ hx)]
theorem Plc.tot0{fx:Fx}(ok:fx.Ok){hs:List Nat}{lead:Nat}{ys:List Nat}{m:Nat}(Pl:Plc fx hs lead ys m):J4 hs=0↔m=0:=by
 constructor
 ·intro e
  have:=Pl.few ok;omega
 ·intro e
  subst e;unfold J4;exact Zqr _ fun x hx=>by have:=(Pl.max ok).2 x hx;omega
section
variable{P:Program}{w:World}{K:W.Frag}{mg:Str→Option Value}{base:Heap}{f g:Addr}{fd gd:FuncData}
def Qc:Sp:=fun vs H Q _=>∃ side seat:Nat,vs=[.int (side:Nat),.int (seat:Nat)]∧Q (.bl (side.testBit seat)) H
theorem Zev:FnScope ["side","seat"] ["side","seat"] (Zm Tj):=Uw (by decide +kernel)
theorem Zbx{k:Nat}(F:Fun K "has_seat" "has_seat" Tj f fd):FnOk P w K mg base Yq (k+1) f fd ["side","seat"] Qc:=by
 refine F.ok Zev (fun vs H Q E h=>?_) (fun cdv A outer s H vs Q E hr h=>?_)
 ·obtain⟨side,seat,rfl,_⟩:=h
  rfl
 obtain⟨side,seat,rfl,q⟩:=h;refine⟨_,Zn (Z9 (Y0 X7 (Jj T4 (Jj Ziu (pv 0) (pv 1)) Zo) Zo (Jl _))),?_⟩;refine⟨_,rfl,_,rfl,_,_,rfl,rfl,by omega,_,_,rfl,rfl,rfl,?_⟩;have e:decide (V.int (Builtin.bitAnd (((side:Nat):Int) / 2 ^ (((seat:Nat):Int)).toNat) 1)=V.int 1)=side.testBit seat:=by
  have e1:((side:Nat):Int) / 2 ^ (((seat:Nat):Int)).toNat=((side / 2 ^ seat:Nat):Int):=by
   rw[Z2,Int.natCast_ediv,Int.natCast_pow];rfl
  rw[e1,Zp1,Nat.testBit_eq_decide_div_mod_eq,eq_int];exact decide_eq_decide.mpr ⟨fun h=>by omega,fun h=>by omega⟩
 show Q (V.bl (decide (V.int (Builtin.bitAnd (((side:Nat):Int) / 2 ^ (((seat:Nat):Int)).toNat) 1)=V.int 1))) H;rw[e];exact q
def Bm:Sp:=fun vs H Q _=>∃(side:Nat) (tk:Option Nat),vs=[.int (side:Nat),Kk tk]∧Q (.int ((Qo side tk:Nat):Int)) H
theorem Zob:FnScope ["side","taker"] ["side","taker"] (Zm Zhw):=Uw (by decide +kernel)
theorem Zmd{k:Nat}{f1:Addr}{d1:FuncData}(F:Fun K "gain" "gain" Zhw f fd)(LH:Lib P w K mg base k "has_seat" ["side","seat"] Qc f1 d1):FnOk P w K mg base Yq (k+1) f fd ["side","taker"] Bm:=by
 refine F.ok Zob (fun vs H Q E h=>?_) (fun cdv A outer s H vs Q E hr h=>?_)
 ·obtain⟨side,tk,rfl,_⟩:=h
  rfl
 obtain⟨side,tk,rfl,q⟩:=h;refine⟨_,Zn (Z9 (Em (PW.pt (Br (Jm Gp (pv 1) Qe (Jl _)) (N9 (Jy (Z0 LH.ok hr rfl LH.mg LH.kp LH.bd .nil Jb (Za (pv 0) (Za (pv 1) Zf))) (fun _=>rfl))))) Zo Zo)),?_⟩;refine⟨_,rfl,rfl,_,rfl,?_⟩;cases tk with
 | none=>exact X1 (rfl:(!decide (Kk none=V.non))=false) (J3 (J3 q))
 | some u=>
  refine X1 (rfl:(!decide (Kk (some u)=V.non))=true) (Yt ⟨_,rfl,_,rfl,side,u,rfl,_,rfl,?_⟩);by_cases c:side.testBit u=true
  ·rw[c]
   have e:Qo side (some u)=1:=Zv c;rw[e] at q;exact Yt q
  ·rw[Bool.eq_false_iff.mpr c]
   have e:Qo side (some u)=0:=Zj c;rw[e] at q;exact J3 q
def Qd(hs:List Nat)(lead:Nat)(ys:List Nat):Uj:=(hs.map fun h=>.inl ((h:Nat):Int),((lead:Nat):Int),ys.map fun c=>.inl ((c:Nat):Int))
theorem U9{H:Hp}{p:Addr}{hs:List Nat}{lead:Nat}{ys:List Nat}(h:IsPl H p hs lead ys):PlKey H (Qd hs lead ys) p:=by
 obtain⟨a,b,h1,h2,h3⟩:=h;refine⟨a,b,h1,?_,?_⟩
 ·rw[h2]
  unfold Qd vN;rw[Z7];rfl
 ·rw[h3]
  unfold Qd vN;rw[Z7];rfl
theorem Nr:∀{a b:List Nat},(a.map fun h=>(Sum.inl ((h:Nat):Int):N2))=(b.map fun h=>(Sum.inl ((h:Nat):Int):N2))→a=b
 | [],[],_=>rfl
 | x :: a,y :: b,e=>by
  have e1:=List.cons.inj e;have e2:((x:Nat):Int)=((y:Nat):Int):=Sum.inl.inj e1.1;rw[Nr e1.2,show x=y by omega]
 | [],_ :: _,e=>nomatch e
 | _ :: _,[],e=>nomatch e
theorem Zdb{hs hs':List Nat}{lead lead':Nat}{ys ys':List Nat}(e:Qd hs lead ys=Qd hs' lead' ys'):hs=hs'∧lead=lead'∧ys=ys':=by
 unfold Qd at e;have e1:=congrArg (fun z:Uj=>z.1) e;have e2:=congrArg (fun z:Uj=>z.2.1) e;have e3:=congrArg (fun z:Uj=>z.2.2) e;have e2':((lead:Nat):Int)=((lead':Nat):Int):=e2;exact⟨Nr e1,by omega,Nr e3⟩
def Zpo(k:Uj):Nat:=J4 (k.1.map fun x=>match x with | .inl i=>i.toNat | .inr _=>0)
theorem Zdv(hs:List Nat)(lead:Nat)(ys:List Nat):Zpo (Qd hs lead ys)=J4 hs:=by
 unfold Zpo Qd;show J4 ((hs.map fun h=>(Sum.inl ((h:Nat):Int):N2)).map _)=_;rw[Z7]
 congr 1
 refine(J2 fun x _=>?_).trans (List.map_id _);exact Z2 x
abbrev By:=Fx→Option Nat→List Nat→Nat→List Nat→Prop
def SCl(S:By):Prop:=∀(fx:Fx) (t:Option Nat) (hs:List Nat) (lead:Nat) (ys:List Nat) (m h c:Nat) (hs':List Nat) (lead':Nat) (ys':List Nat) (tk:Option Nat),S fx t hs lead ys→Plc fx hs lead ys m→hs[(lead+ys.length) % fx.n]? = some h→c∈Us fx t ys h→Nxt fx t hs lead ys h c hs' lead' ys' tk→S fx t hs' lead' ys'
def Zeg(S:By)(fx:Fx)(t:Option Nat)(side:Nat)(es:List Xb):Prop:=(∀ e∈es,∃ hs lead ys,e.1=Qd hs lead ys∧e.2.2=((valP fx t side hs lead ys:Nat):Int)∧S fx t hs lead ys)∧(es.map (·.1)).Nodup
theorem Zjk{es:List Xb}{k:Uj}{p:Addr}{n:Int}(h:(es.map (·.1)).Nodup)(c:Kf es k=none):((es++[(k,p,n)]).map (·.1)).Nodup:=by
 rw[Jw];refine List.nodup_append.mpr ⟨h,List.nodup_cons.mpr ⟨Y5,List.nodup_nil⟩,fun a ha b hb e=>?_⟩;cases Jg.mp hb;obtain⟨x,hx,rfl⟩:=Zz.mp ha;unfold Kf at c;rw[Option.map_eq_none_iff,List.find?_eq_none] at c;exact c x hx (Zc e)
theorem Zh0{fx:Fx}{t:Option Nat}{side:Nat}{es:List Xb}{S:By}(R:Zeg S fx t side es){hs:List Nat}{lead:Nat}{ys:List Nat}{v:Int}(h:Kf es (Qd hs lead ys)=some v):v=((valP fx t side hs lead ys:Nat):Int):=by
 unfold Kf at h;obtain⟨e,he,rfl⟩:=Jq.mp h;obtain⟨hs',lead',ys',e1,e2,_⟩:=R.1 e (List.mem_of_find?_eq_some he);have e3':=List.find?_some he;have e3:e.1=Qd hs lead ys:=J0 e3';obtain⟨rfl,rfl,rfl⟩:=Zdb (e3.symm.trans e1);exact e2
def Ext(n:Nat)(es es':List Xb):Prop:=∃ new,es'=es++new∧∀ e∈new,Zpo e.1 < n
theorem Ext.refl(n:Nat)(es:List Xb):Ext n es es:=⟨[],(J9 _).symm,fun e he=>nomatch he⟩
theorem Ext.trans{n:Nat}{a b c:List Xb}(x:Ext n a b)(y:Ext n b c):Ext n a c:=by
 obtain⟨u,rfl,hu⟩:=x;obtain⟨v,rfl,hv⟩:=y;exact⟨u++v,Y3 _ _ _,fun e he=>(J1.mp he).elim (hu e) (hv e)⟩
theorem Ext.mono{n m:Nat}{a b:List Xb}(x:Ext n a b)(h:n≤m):Ext m a b:=by
 obtain⟨u,e,hu⟩:=x;exact⟨u,e,fun e he=>Ji (hu e he) h⟩
theorem Zlp{a b:List Xb}{k:Uj}(h:Kf a k=none)(g:∀ e∈b,e.1≠k):Kf (a++b) k=none:=by
 unfold Kf at *;rw[Option.map_eq_none_iff] at *;rw[List.find?_eq_none] at *;intro e he;rcases J1.mp he with z | z
 ·exact h e z
 ·simp [g e z]
theorem Zlo{a:List Xb}{k:Uj}{p:Addr}{n:Int}(h:Kf a k=none):Kf (a++[(k,p,n)]) k=some n:=by
 unfold Kf at *;rw[Option.map_eq_none_iff] at h;rw[List.find?_append,h];simp
structure RkC(K:W.Frag)(mg:Str→Option Value)(CR:Addr):Prop where
 cl:Cls K CR
 mR:mg "Reckoning" = some (.ref CR)
 n1:NoAttr K CR "game"
 n2:NoAttr K CR "side"
 n3:NoAttr K CR "known"
def rkN:List Str:=["game","side","known"]
structure RkF(gm d:Addr)(side:Nat)(fs:List (Str×V)):Prop where
 l1:fs.lookup ("game":Str)=some (.ref gm)
 l2:fs.lookup ("side":Str)=some (.int (side:Nat))
 l3:fs.lookup ("known":Str)=some (.ref d)
 nm:∀ m:Str,m∉rkN→fs.lookup m=none
structure Rk(P:Program)(w:World)(CR:Addr)(S:By)(fx:Fx)(t:Option Nat)(side:Nat)(H:Hp)(r gm d:Addr)(es:List Xb):Prop where
 o:∃ dx fs,H r=some (.ins CR dx fs)∧RkF gm d side fs
 d:H d=some (Ev P w d es)
 ks:Mt H es
 ok:Zeg S fx t side es
section
variable{S:By}{CR r gm d:Addr}{fx:Fx}{t:Option Nat}{side:Nat}{H H':Hp}{es:List Xb}
theorem Rk.same(h:Rk P w CR S fx t side H r gm d es)(s:Same H H'):Rk P w CR S fx t side H' r gm d es:=by
 obtain⟨⟨dx,fs,a,b⟩,c,e,g⟩:=h;exact⟨⟨dx,fs,s _ _ a,b⟩,s _ _ c,fun x hx=>(e x hx).mono fun b ys q=>s _ _ q,g⟩
theorem Rk.updL{l:Addr}{xs:List V}{o:HO}(h:Rk P w CR S fx t side H r gm d es)(hl:H l=some (.lst xs)):Rk P w CR S fx t side (upd H l o) r gm d es:=by
 obtain⟨⟨dx,fs,a,b⟩,c,e,g⟩:=h;have n1:r≠l:=fun z=>by rw[z,hl] at a;cases a
 have n2:d≠l:=fun z=>by rw[z,hl] at c;cases c
 exact⟨⟨dx,fs,by rw[Z8 n1];exact a,b⟩,by rw[Z8 n2];exact c,fun x hx=>(e x hx).mono fun b ys q=>by rw[Z8 (Bj q hl (fun _ z=>nomatch z))];exact q,g⟩
theorem Rk.nd{b:Addr}{o:HO}(h:Rk P w CR S fx t side H r gm d es)(hb:H b=some o)(n:∀ φ,o≠HO.ext φ):b≠d:=fun z=>by
 have:=h.d;rw[← z,hb] at this;exact n _ (Zy this)
theorem KpD.pl{p:Addr}{hs ys:List Nat}{lead:Nat}(k:KpD d H H')(h:Rk P w CR S fx t side H r gm d es)(hp:IsPl H p hs lead ys):IsPl H' p hs lead ys:=by
 obtain⟨a,b,h1,h2,h3⟩:=hp;exact⟨a,b,k _ _ (h.nd h1 (fun _ z=>nomatch z)) h1,k _ _ (h.nd h2 (fun _ z=>nomatch z)) h2,k _ _ (h.nd h3 (fun _ z=>nomatch z)) h3⟩
theorem KpD.gam{CT CG gx:Addr}(k:KpD d H H')(h:Rk P w CR S fx t side H r gm d es)(g:GamH CT CG fx t H gm gx):GamH CT CG fx t H' gm gx:=by
 obtain⟨ok,⟨dg,hg⟩,⟨dx,po,to,a,b,c⟩⟩:=g;exact⟨ok,⟨dg,k _ _ (h.nd hg (fun _ z=>nomatch z)) hg⟩,⟨dx,po,to,k _ _ (h.nd a (fun _ z=>nomatch z)) a,k _ _ (h.nd b (fun _ z=>nomatch z)) b,k _ _ (h.nd c (fun _ z=>nomatch z)) c⟩⟩
end
def G4(P:Program)(w:World)(CR:Addr):Sp:=fun vs H Q _=>∃(r dr gm:Addr) (side:Nat),vs=[.ref r,.ref gm,.int (side:Nat)]∧H r=some (.ins CR dr [])∧∀ d H',(∀ b o,b≠r→H b=some o→H' b=some o)→H d=none→(∀ S fx t,Rk P w CR S fx t side H' r gm d [])→Q .non H'
theorem Zhi:FnScope ["self","game","side"] ["self","game","side"] (Zm O4):=Uw (by decide +kernel)
theorem Re{k:Nat}{CR:Addr}(F:Fun K "__init__" "Reckoning.__init__" O4 f fd)(C:RkC K mg CR):FnOk P w K mg base Yq (k+1) f fd ["self","game","side"] (G4 P w CR):=by
 refine F.ok Zhi (fun vs H Q E h=>?_) (fun cdv A outer s H vs Q E hr h=>?_)
 ·obtain⟨r,dr,gm,side,rfl,_⟩:=h
  rfl
 obtain⟨r,dr,gm,side,rfl,hr0,q⟩:=h;refine⟨_,Zi (Xq (pv 0) (pv 1) rfl) (Zi (Xq (pv 0) (pv 2) rfl) (Zn (Xq (pv 0) Zii rfl))),?_⟩;refine⟨_,rfl,_,rfl,r,CR,dr,[],rfl,hr0,C.cl,C.n1,by decide,?_⟩;have b0:∀(f:Str) (v:V) (fs:List (Str×V)) (n:Nat),fs.length≤n→(X3 f v fs).length≤n+1:=fun f v fs n h=>Jd (Y9 _ _ _) (Nat.succ_le_succ h);have c1:=b0 "game" (.ref gm) [] 0 (Zs _);have c2:=b0 "side" (.int (side:Nat)) _ 1 c1;refine⟨_,rfl,_,rfl,r,CR,dr,_,rfl,Zq,C.cl,C.n2,by omega,?_⟩;rw[U3];intro d hd;have nd:r≠d:=fun z=>by rw[← z,Zq] at hd;cases hd
 have hd0:H d=none:=by rw[Z8 (Ne.symm nd)] at hd;exact hd
 refine⟨_,rfl,r,CR,dr,_,rfl,(by rw[Z8 nd];exact Zq),C.cl,C.n3,by omega,?_⟩;refine q d _ (fun b o n h=>?_) hd0 fun S fx t=>⟨⟨dr,_,Zq,?_,?_,?_,fun m hm=>?_⟩,?_,(fun e he=>nomatch he),(fun e he=>nomatch he),List.nodup_nil⟩
 ·rw[Z8 n,Z8 (Jz h hd0),Z8 n]
  exact h
 ·rw[Zt,Zj (by decide +kernel),Zt,Zj (by decide +kernel),Zt,Zv rfl]
 ·rw[Zt,Zj (by decide +kernel),Zt,Zv rfl]
 ·rw[Zt,Zv rfl]
 ·rw[Zt,Zj (fun z=>hm (by rw[z];decide +kernel)),Zt,Zj (fun z=>hm (by rw[z];decide +kernel)),Zt,Zj (fun z=>hm (by rw[z];decide +kernel))]
  rfl
 ·rw[Z8 (Ne.symm nd),Zq]
  rfl
def B8(P:Program)(w:World)(CT CG CR:Addr)(S:By):Sp:=fun vs H Q _=>∃(r gm gx d p l:Addr) (t:Option Nat) (fx:Fx) (side:Nat) (hs:List Nat) (lead:Nat) (ys:List Nat) (m:Nat) (es:List Xb) (ps:List (Nat×Nat)),vs=[.ref r,.ref p,.ref l]∧Rk P w CR S fx t side H r gm d es∧GamH CT CG fx t H gm gx∧IsPl H p hs lead ys∧Plc fx hs lead ys m∧Zeh H l ps∧ps.length≤100∧(m=0→ps=[]) ∧
 ∀ H',Same H H'→Q (.int ((Qn (side.testBit ((lead+ys.length) % fx.n)) (ps.map (·.2)):Nat):Int)) H'
abbrev Zdo:List Str:=["self","place","pairs","numbers"]
theorem scChoice:FnScope Zdo ["self","place","pairs"] (Zm Gi):=Uw (by decide +kernel)
theorem Zfm{S:By}{k:Nat}{CT CG CR f1 f2:Addr}{d1 d2:FuncData}(F:Fun K "choice" "Reckoning.choice" Gi f fd)(C:RkC K mg CR)(LH:Lib P w K mg base k "has_seat" ["side","seat"] Qc f1 d1)(LT:Lib P w K mg base k "turn_at" ["game","place"] (Qm CT CG) f2 d2)(ml:mg "len" = none)(mM:mg "max" = none)(mMi:mg "min" = none):FnOk P w K mg base Yq (k+1) f fd ["self","place","pairs"] (B8 P w CT CG CR S):=by
 refine F.ok scChoice (fun vs H Q E h=>?_) (fun cdv A outer s H vs Q E hr h=>?_)
 ·obtain⟨r,gm,gx,d,p,l,t,fx,side,hs,lead,ys,m,es,ps,rfl,_⟩:=h
  rfl
 obtain⟨r,gm,gx,d,p,l,t,fx,side,hs,lead,ys,m,es,ps,rfl,R,G,hp,Pl,hl,p100,hm,q⟩:=h;refine⟨_,Zi (Yd (Jm X7 (Jk Ya rfl ml Ju (Za (pv 2) Zf)) Zo (Jl _)) (Zn (Z9 Zo)) Jn)
  (Zi (To (i:=3) ["card","number"] [none,none] rfl scChoice.nd rfl (Or.inl rfl) (Blk.by (sc:=Zm Gi) (N0:=Zdo) rfl rfl (by decide +kernel)) (Y4 (pv 2)) (fun C s₀ H₀ ex=>Gm (n:=2) K rfl rfl (Yj (Jp (i:=0) (show(["card","number"]:List Str).Nodup by decide +kernel) rfl (Or.inl rfl)) (Yj (Jp (i:=1) (show(["card","number"]:List Str).Nodup by decide +kernel) rfl (Or.inl rfl)) Ql))) (fun C s₀ H₀ ex=>U4) (fun C s₀ H₀ ex=>pv 1))
  (Zn (Z9 (Em (Jy (Z0 LH.ok hr rfl LH.mg LH.kp LH.bd .nil Jb (Za (Jt (pv 0) rfl) (Za (Z0 LT.ok hr rfl LT.mg LT.kp LT.bd .nil Jb (Za (Jt (pv 0) rfl) (Za (pv 1) Zf))) Zf))) (fun _=>rfl)) (Jk (Dy rfl) rfl mM PyProof.Rows.boot_max (Za (pv 3) Zf)) (Jk (Zgc rfl) rfl mMi PyProof.Rows.boot_min (Za (pv 3) Zf)))))),?_⟩
 obtain⟨as,hA,la,hP⟩:=id hl;obtain⟨dx,fs,hr0,A1⟩:=id R.o;have z1000:=Yf 1000 (by decide);have eL:decide (V.int ((((as.map V.ref).length:Nat)):Int)=V.int 0)=decide (ps=[]):=by
  rw[Zk,la,eq_int];exact decide_eq_decide.mpr ⟨fun h=>List.eq_nil_of_length_eq_zero (by omega),fun h=>by rw[h];rfl⟩
 refine⟨_,rfl,l,_,rfl,.inl (SqL.of hA),rfl,_,rfl,X1 eL ?_⟩;by_cases pn:ps=[]
 ·rw[Zc pn]
  have z:=q H (Same.refl H);rw[pn] at z;exact Yt z
 rw[Zd pn];refine J3 (Xn ?_);have m0:m≠0:=fun z=>pn (hm z);refine X6 (fun v H2=>Same H H2∧∃ ln,v = .ref ln∧H2 ln=some (.lst (vN (ps.map (·.2))))) (fun W hW=>?_) (fun v H2 z=>?_)
 ·refine⟨_,rfl,l,rfl,⟨_,SqL.of hA⟩,Bx (K:=K) hl (fun _=>true) (fun x=>.int (x.2:Nat)) (by omega) (fun x H3 hx sm R hR=>hR H3 (Same.refl H3)) (fun x H3 hx hp sm R hR=>⟨_,rfl,hR H3 (Same.refl H3)⟩) (fun ln H2 s2 hln hLn=>hW _ _ ⟨s2,ln,rfl,?_⟩)⟩
  rw[hLn,List.filter_eq_self.mpr fun _ _=>rfl];unfold vN;rw[Z7];rfl
 obtain⟨s2,ln,rfl,hLn⟩:=z;have et:Ng fx lead ys m = .int (((lead+ys.length) % fx.n:Nat):Int):=by unfold Ng;rw[Zj m0]
 refine⟨_,rfl,r,CR,dx,_,_,rfl,s2 _ _ hr0,C.cl,C.n2,A1.l2,_,rfl,r,CR,dx,_,_,rfl,s2 _ _ hr0,C.cl,C.n1,A1.l1,_,rfl,gm,gx,p,t,fx,hs,ys,lead,m,rfl,G.same s2,hp.same s2,Pl,fun H3 s3=>?_⟩;rw[et];refine⟨side,(lead+ys.length) % fx.n,rfl,_,rfl,?_⟩;have s23:=s2.trans s3;have hL3:=s3 _ _ hLn;rw[D8] at hL3;have pl:0 < ((ps.map (·.2)).map fun c=>((c:Nat):Int)).length:=by
  rw[Zk,Zk];exact List.length_pos_iff.mpr pn
 have fin:∀(M:Int) (hM:M∈(ps.map (·.2)).map fun c=>((c:Nat):Int)),∃ j:Nat,M=(j:Nat)∧j∈ps.map (·.2):=fun M hM=>by
  obtain⟨j,hj,e⟩:=Zz.mp hM;exact⟨j,e.symm,hj⟩
 cases c:side.testBit ((lead+ys.length) % fx.n) with
 | true=>
  refine Yt ⟨_,rfl,ln,_,rfl,SqL.of hL3,pl,fun M hM g=>?_⟩;obtain⟨j,rfl,hj⟩:=fin M hM;have z:=q H3 s23;rw[c,Ky hj fun x hx=>by have:=g _ (Zz.mpr ⟨x,hx,rfl⟩);omega] at z;exact z
 | false=>
  refine J3 ⟨_,rfl,ln,_,rfl,SqL.of hL3,pl,fun M hM g=>?_⟩;obtain⟨j,rfl,hj⟩:=fin M hM;have z:=q H3 s23;rw[c,Zia hj fun x hx=>by have:=g _ (Zz.mpr ⟨x,hx,rfl⟩);omega] at z;exact z
def X4(P:Program)(w:World)(CT CG CR:Addr)(S:By)(kb:Nat):Sp:=fun vs H Q _=>∃(r gm gx d p:Addr) (t:Option Nat) (fx:Fx) (side:Nat) (hs:List Nat) (lead:Nat) (ys:List Nat) (m:Nat) (es:List Xb),vs=[.ref r,.ref p]∧Rl t∧Rk P w CR S fx t side H r gm d es∧GamH CT CG fx t H gm gx∧IsPl H p hs lead ys∧Plc fx hs lead ys m∧S fx t hs lead ys∧J4 hs+1≤kb∧es.length+Sn (J4 hs)≤1000000 ∧
 ∀ es' H',KpD d H H'→Rk P w CR S fx t side H' r gm d es'→es'.length≤es.length+Sn (J4 hs)→Ext (J4 hs+1) es es'→Q (.int ((valP fx t side hs lead ys:Nat):Int)) H'
def Ko(P:Program)(w:World)(CT CG CR:Addr)(S:By)(kb:Nat):Sp:=fun vs H Q _=>∃(r gm gx d p:Addr) (t:Option Nat) (fx:Fx) (side:Nat) (hs:List Nat) (lead:Nat) (ys:List Nat) (m h c:Nat) (es:List Xb),vs=[.ref r,.ref p,.int (c:Nat)]∧Rl t∧Rk P w CR S fx t side H r gm d es∧GamH CT CG fx t H gm gx∧IsPl H p hs lead ys∧Plc fx hs lead ys m∧hs[(lead+ys.length) % fx.n]? = some h∧c∈Us fx t ys h∧S fx t hs lead ys∧J4 hs≤kb∧es.length+Sn (J4 hs - 1)≤1000000 ∧
 ∀ es' H',KpD d H H'→Rk P w CR S fx t side H' r gm d es'→es'.length≤es.length+Sn (J4 hs - 1)→Ext (J4 hs) es es'→Q (.int ((numP fx t side hs lead ys c:Nat):Int)) H'
noncomputable def prL (fx:Fx) (t:Option Nat) (side:Nat) (hs:List Nat) (lead:Nat) (ys:List Nat) (m:Nat):List (Nat×Nat):=(moveL fx t hs lead ys m).map fun c=>(c,numP fx t side hs lead ys c)
def Gb(P:Program)(w:World)(CT CG CR:Addr)(S:By)(kb:Nat):Sp:=fun vs H Q _=>∃(r gm gx d p:Addr) (t:Option Nat) (fx:Fx) (side:Nat) (hs:List Nat) (lead:Nat) (ys:List Nat) (m:Nat) (es:List Xb),vs=[.ref r,.ref p]∧Rl t∧Rk P w CR S fx t side H r gm d es∧GamH CT CG fx t H gm gx∧IsPl H p hs lead ys∧Plc fx hs lead ys m∧S fx t hs lead ys∧J4 hs≤kb∧es.length+Sn (J4 hs)≤1000000 ∧
 ∀ l es' H',KpD d H H'→H l=none→Rk P w CR S fx t side H' r gm d es'→es'.length+1≤es.length+Sn (J4 hs)→Ext (J4 hs) es es'→Zeh H' l (prL fx t side hs lead ys m)→Q (.ref l) H'
abbrev Zmi:List Str:=["self","place","card","step"]
theorem scMadeBy:FnScope Zmi ["self","place","card"] (Zm Gh):=Uw (by decide +kernel)
theorem Zff{S:By}(hS:SCl S){k kb:Nat}{CT CG CR f1 f2 m1:Addr}{d1 d2 e1:FuncData}(F:Fun K "made_by" "Reckoning.made_by" Gh f fd)(C:RkC K mg CR)(LB:Lib P w K mg base k "behind" ["game","place","card"] (X5 K CT CG) f1 d1)(LG:Lib P w K mg base k "gain" ["side","taker"] Bm f2 d2)
  (MA:Meth K CR "made_at" m1) (FA:FnOk P w K mg base Yq k m1 e1 ["self","place"] (X4 P w CT CG CR S kb)) (BA:Binds K e1 ["self","place"] []):FnOk P w K mg base Yq (k+1) f fd ["self","place","card"] (Ko P w CT CG CR S kb):=by
 refine F.ok scMadeBy (fun vs H Q E h=>?_) (fun cdv A outer s H vs Q E hr h=>?_)
 ·obtain⟨r,gm,gx,d,p,t,fx,side,hs,lead,ys,m,h,c,es,rfl,_⟩:=h
  rfl
 obtain⟨r,gm,gx,d,p,t,fx,side,hs,lead,ys,m,h,c,es,rfl,tb,R,G,hp,Pl,eh,hc,hs_,hk,hn,q⟩:=h;refine⟨_,Zi (Jf (i:=3) scMadeBy.nd rfl (Or.inl rfl) (Z0 LB.ok hr rfl LB.mg LB.kp LB.bd .nil Jb (Za (Jt (pv 0) rfl) (Za (pv 1) (Za (pv 2) Zf)))))
  (Zn (Z9 (Jj Y8 (Z0 LG.ok hr rfl LG.mg LG.kp LG.bd .nil Jb (Za (Jt (pv 0) rfl) (Za (Jr Js (pv 3) Zo (fun _ _=>rfl)) Zf))) (Uf (pv 0) C.cl MA FA hr BA .nil Jb (Za (Jr Js (pv 3) Zo (fun _ _=>rfl)) Zf))))),?_⟩
 obtain⟨dx,fs,hr0,A1⟩:=id R.o;have ok:=G.ok;have hb:=(Qg (Pl.h32 ok (Zl eh)) hc).1;refine⟨_,rfl,r,CR,dx,_,_,rfl,hr0,C.cl,C.n1,A1.l1,_,rfl,_,rfl,gm,gx,p,t,fx,hs,ys,lead,m,h,c,rfl,G,hp,Pl,eh,hb,fun st p' hs' lead' ys' tk H2 s2 N hst hp'=>?_⟩;obtain⟨m',Pl',_,tt,_,_⟩:=N.plc ok Pl eh hb;have et:J4 hs'+1=J4 hs:=tt;have R2:=R.same s2;refine⟨_,rfl,r,CR,dx,_,_,rfl,s2 _ _ hr0,C.cl,C.n2,A1.l2,_,rfl,st,_,_,_,rfl,rfl,SqT.of hst,(rfl:Xs [V.ref p',Kk tk] 1=some (Kk tk)),side,tk,rfl,?_⟩;refine⟨_,rfl,r,dx,_,rfl,s2 _ _ hr0,A1.nm _ (by decide +kernel),_,rfl,st,_,_,_,rfl,rfl,SqT.of hst,(rfl:Xs [V.ref p',Kk tk] 0=some (V.ref p')),r,gm,gx,d,p',t,fx,side,hs',lead',ys',m',es,rfl,tb,R2,G.same s2,hp',Pl',hS _ _ _ _ _ _ _ _ _ _ _ _ hs_ Pl eh hc N,by omega,?_,fun es' H' k' R' l' E'=>?_⟩
 ·have:J4 hs - 1=J4 hs':=by omega
  rw[this] at hn;exact hn
 refine⟨_,_,rfl,rfl,?_⟩;have et':J4 hs - 1=J4 hs':=by omega
 have z:=q es' H' (fun b o n h=>k' b o n (s2 _ _ h)) R' (by rw[et'];exact l') (E'.mono (by omega));rw[Aq ok Pl eh hb N,X0] at z;exact z
theorem Zk8:FnScope ["self","place"] ["self","place"] (Zm Tg):=Uw (by decide +kernel)
theorem Zi3{S:By}{k kb:Nat}{CT CG CR f1 m1:Addr}{d1 e1:FuncData}(F:Fun K "pairs" "Reckoning.pairs" Tg f fd)(C:RkC K mg CR)(LM:Lib P w K mg base k "moves" ["game","place"] (Qx CT CG) f1 d1)
  (MB:Meth K CR "made_by" m1) (FB:FnOk P w K mg base Yq k m1 e1 ["self","place","card"] (Ko P w CT CG CR S kb)) (BB:Binds K e1 ["self","place","card"] []):FnOk P w K mg base Yq (k+1) f fd ["self","place"] (Gb P w CT CG CR S kb):=by
 refine F.ok Zk8 (fun vs H Q E h=>?_) (fun cdv A outer s H vs Q E hr h=>?_)
 ·obtain⟨r,gm,gx,d,p,t,fx,side,hs,lead,ys,m,es,rfl,_⟩:=h
  rfl
 obtain⟨r,gm,gx,d,p,t,fx,side,hs,lead,ys,m,es,rfl,tb,R,G,hp,Pl,hs_,hk,hn,q⟩:=h;refine⟨_,Zn (Z9 (Ug ["card","self","place"] [none,some 0,some 1] rfl (Blk.by (sc:=Zm Tg) (N0:=["self","place"]) rfl rfl (by decide +kernel)) (Y4 (Z0 LM.ok hr rfl LM.mg LM.kp LM.bd .nil Jb (Za (Jt (pv 0) rfl) (Za (pv 1) Zf)))) (fun C s₀ H₀ ex=>Jp (i:=0) (show(["card","self","place"]:List Str).Nodup by decide +kernel) rfl (Or.inl rfl)) (fun C s₀ H₀ ex=>U4)
  (fun _ s₀ H₀ ex=>Uy (Za (pv 0) (Za (Uf (pv 1) C.cl MB FB hr BB .nil Jb (Za (pv 2) (Za (pv 0) Zf))) Zf))))),?_⟩
 obtain⟨dx,fs,hr0,A1⟩:=id R.o;have ok:=G.ok;obtain⟨h,eh,epc⟩:=Pl.turn ok;have h32:=Pl.h32 ok (Zl eh);have z1000:=Yf 1000 (by decide);have few:=Pl.few ok;have t0:=Pl.tot0 ok;have ml':(moveL fx t hs lead ys m).length≤m:=by
  unfold My.moveL;split
  ·exact Nat.zero_le _
  ·rw[Zr,eh]
   exact Jd (Vk (h:=h) h32) (Nat.le_of_eq epc)
 have p32:Xi 32 h≤32:=by
  unfold Xi;have:=List.length_filter_le (fun b=>h.testBit b) (List.range 32);rw[Yb] at this;exact this
 have room:∀ i,i≤m→es.length+i * Sn (J4 hs - 1)+1≤es.length+Sn (J4 hs)∧(i < m→es.length+i * Sn (J4 hs - 1)+Sn (J4 hs - 1)≤1000000):=fun i hi=>by
  by_cases m0:m=0
  ·have i0:i=0:=by omega
   have tz:=t0.mpr m0;rw[i0,tz];exact⟨by show es.length+0 * Sn (0 - 1)+1≤es.length+1;omega,fun z=>by omega⟩
  ·have tn:J4 hs≠0:=fun z=>m0 (t0.mp z)
   obtain⟨j,ej⟩:∃ j,J4 hs=j+1:=⟨J4 hs - 1,by omega⟩;have es':Sn (J4 hs)=1+(j+3) / 3 * Sn j:=by rw[ej];rfl
   have ej':J4 hs - 1=j:=by omega
   have hn':=hn;rw[es'] at hn' ⊢;rw[ej'];have a1:i * Sn j≤(j+3) / 3 * Sn j:=Nat.mul_le_mul_right _ (by omega);refine⟨by omega,fun hlt=>?_⟩;have a2:(i+1) * Sn j≤(j+3) / 3 * Sn j:=Nat.mul_le_mul_right _ (by omega);rw[Nat.succ_mul] at a2;omega
 refine⟨_,rfl,r,CR,dx,_,_,rfl,hr0,C.cl,C.n1,A1.l1,_,rfl,gm,gx,p,t,fx,hs,ys,lead,m,rfl,G,tb,hp,Pl,fun lm H1 s1 hlm hLm=>?_⟩;have R1:=R.same s1;have hp1:=hp.same s1;have G1:=G.same s1;have nlm:lm≠d:=R1.nd hLm (fun _ z=>nomatch z);refine⟨lm,rfl,⟨_,SqL.of hLm⟩,Zf6 (K:=K) (xs:=vN (moveL fx t hs lead ys m)) d (fun l vs H'=>∃(es':List Xb) (as:List Addr),Rk P w CR S fx t side H' r gm d es'∧es'.length≤es.length+vs.length * Sn (J4 hs - 1)∧Ext (J4 hs) es es'∧vs=as.map V.ref∧∀(j:Nat) (u:Addr) (c:Nat),as[j]? = some u→(moveL fx t hs lead ys m)[j]? = some c→H' u=some (.tup [.int (c:Nat),.int ((numP fx t side hs lead ys c:Nat):Int)])) ⟨_,R1.d⟩ (fun H' k'=>SqL.of (k' _ _ nlm hLm)) (by rw[Yh];omega) (fun l hl=>?_) (fun i x H2 l vs hx hvl k2 hl hL hPv W hW=>?_) (fun l H2 vs k2 hl hL hvl hPv=>?_)⟩
 ·exact⟨es,[],R1.same (Je hl _),by simp,Ext.refl _ _,rfl,fun j u c e=>by simp at e⟩
 ·obtain⟨es2,as,R2,l2,E2,ev,hP2⟩:=hPv
  unfold vN at hx;rw[Z4] at hx;obtain⟨c,hc,rfl⟩:=Jq.mp hx;have im:i < m:=by
   have:=(Zu.mp hc).1;omega
  have m0:m≠0:=by omega
  have hc':c∈Us fx t ys h:=by
   have:=Zl hc;unfold My.moveL at this;rw[Zj m0,Zr,eh] at this;exact this
  obtain⟨rm1,rm2⟩:=room i (by omega);obtain⟨dx2,fs2,hr2,A2⟩:=id R2.o;have al:as.length=i:=by rw[ev,Zk] at hvl;exact hvl
  refine⟨_,rfl,_,rfl,r,dx2,_,rfl,hr2,A2.nm _ (by decide +kernel),_,rfl,_,rfl,r,gm,gx,d,p,t,fx,side,hs,lead,ys,m,h,c,es2,rfl,tb,R2,KpD.gam k2 R1 G1,KpD.pl k2 R1 hp1,Pl,eh,hc',hs_,hk,?_,fun es3 H3 k3 R3 l3 E3=>⟨Yf 2 (by decide),fun u hu=>?_⟩⟩
  ·have:=rm2 im
   rw[hvl] at l2;omega
  have a3:=Je hu (.tup [.int (c:Nat),.int ((numP fx t side hs lead ys c:Nat):Int)]);have hU:(upd H3 u (.tup [.int (c:Nat),.int ((numP fx t side hs lead ys c:Nat):Int)])) u=some (.tup [.int (c:Nat),.int ((numP fx t side hs lead ys c:Nat):Int)]):=Zq;generalize upd H3 u (.tup [.int (c:Nat),.int ((numP fx t side hs lead ys c:Nat):Int)])=H4 at a3 hU ⊢;have R4:=R3.same a3;have nld:l≠d:=R2.nd hL (fun _ z=>nomatch z);have hL4:=a3 _ _ (k3 _ _ nld hL);refine hW _ _ (fun b o n h=>a3 _ _ (k3 b o n h)) ⟨es3,as++[u],R4.updL hL4,?_,E2.trans E3,by rw[ev,Jw];rfl,fun j v c' ej ec=>?_⟩
  ·rw[Jc,List.length_singleton,Nat.succ_mul]
   omega
  ·rcases Nat.lt_or_ge j as.length with z | z
   ·rw[Xp z] at ej
    have h1:=hP2 j v c' ej ec;have h2:=a3 _ _ (k3 _ _ (R2.nd h1 (fun _ z=>nomatch z)) h1);rw[Z8 (Bj h2 hL4 (fun _ z=>nomatch z))];exact h2
   ·have jl:j=as.length:=by
     have:=(Zu.mp ej).1;rw[Jc,List.length_singleton] at this;omega
    rw[Xh z,jl,Nat.sub_self] at ej;have eu:u=v:=Zy ej;subst eu;rw[jl,al,hc] at ec;have ec':c=c':=Zy ec;subst ec';rw[Z8 (Bj hU hL4 (fun _ z=>nomatch z))];exact hU
 ·obtain⟨es2,as,R2,l2,E2,ev,hP2⟩:=hPv
  rw[Yh] at hvl;have al:as.length=(moveL fx t hs lead ys m).length:=by rw[ev,Zk] at hvl;exact hvl
  obtain⟨rm1,_⟩:=room (moveL fx t hs lead ys m).length ml';refine q l es2 H2 (fun b o n h=>k2 b o n (s1 _ _ h)) (s1.free hl) R2 (by rw[hvl] at l2;omega) E2 ⟨as,by rw[hL,ev],?_,fun j u pr eu ep=>?_⟩
  ·unfold prL
   rw[Zk];exact al
  ·unfold prL at ep
   rw[Z4] at ep;obtain⟨c,hc,rfl⟩:=Jq.mp ep;exact hP2 j u c eu hc
theorem Ks:FnScope ["self","place"] ["self","place"] (Zm Va):=Uw (by decide +kernel)
theorem Zfg{S:By}{k kb:Nat}{CT CG CR m1 m2:Addr}{e1 e2:FuncData}(F:Fun K "made_at" "Reckoning.made_at" Va f fd)(C:RkC K mg CR)(MP:Meth K CR "pairs" m1)(FP:FnOk P w K mg base Yq k m1 e1 ["self","place"] (Gb P w CT CG CR S kb))(BP:Binds K e1 ["self","place"] [])
  (MC:Meth K CR "choice" m2) (FC:FnOk P w K mg base Yq k m2 e2 ["self","place","pairs"] (B8 P w CT CG CR S)) (BC:Binds K e2 ["self","place","pairs"] []):FnOk P w K mg base Yq (k+1) f fd ["self","place"] (X4 P w CT CG CR S (kb+1)):=by
 refine F.ok Ks (fun vs H Q E h=>?_) (fun cdv A outer s H vs Q E hr h=>?_)
 ·obtain⟨r,gm,gx,d,p,t,fx,side,hs,lead,ys,m,es,rfl,_⟩:=h
  rfl
 obtain⟨r,gm,gx,d,p,t,fx,side,hs,lead,ys,m,es,rfl,tb,R,G,hp,Pl,hs_,hk,hn,q⟩:=h;have hu:=Jx (Nat.add_le_add_left (show 10≤64 by decide) _) hr.units;refine⟨_,Zi (Yd (Zbm (Ze5 hu (pv 1) (Jt (pv 0) rfl))) (Zn (Zli hu (Jt (pv 0) rfl) (pv 1) (Uf (pv 0) C.cl MC FC hr BC .nil Jb (Za (pv 1) (Za (Uf (pv 0) C.cl MP FP hr BP .nil Jb (Za (pv 1) Zf)) Zf))) rfl)) Jn)
  (Zn (Z9 (Zlm hu (Jt (pv 0) rfl) (pv 1) (fun _ _=>rfl)))),?_⟩
 obtain⟨dx,fs,hr0,A1⟩:=id R.o;have ok:=G.ok;have K1:=U9 hp;have few:=Pl.few ok;have t0:=Pl.tot0 ok;obtain⟨h,eh,epc⟩:=Pl.turn ok;refine⟨_,rfl,_,rfl,r,CR,dx,_,_,rfl,hr0,C.cl,C.n3,A1.l3,d,es,Qd hs lead ys,p,rfl,R.d,R.ks,rfl,K1,_,rfl,?_⟩;cases c:Kf es (Qd hs lead ys) with
 | some v=>
  refine J3 (Xn ?_);refine⟨_,rfl,r,CR,dx,_,_,rfl,hr0,C.cl,C.n3,A1.l3,_,rfl,d,es,Qd hs lead ys,p,v,rfl,R.d,R.ks,rfl,K1,c,?_⟩;rw[Zh0 R.ok c];exact q es H (KpD.refl _ _) R (by omega) (Ext.refl _ _)
 | none=>
  refine Yt ?_;have m32:m≤32:=by
   rw[← epc];unfold Xi;have:=List.length_filter_le (fun b=>h.testBit b) (List.range 32);rw[Yb] at this;exact this
  have pl:(prL fx t side hs lead ys m).length≤100:=by
   unfold prL;rw[Zk];unfold My.moveL;split
   ·simp
   ·rw[Zr,eh]
    have:=Vk (fx:=fx) (t:=t) (ys:=ys) (Pl.h32 ok (Zl eh));show(Us fx t ys h).length≤100;omega
  refine⟨_,rfl,r,dx,_,rfl,hr0,A1.nm _ (by decide +kernel),_,rfl,_,rfl,r,dx,_,rfl,hr0,A1.nm _ (by decide +kernel),_,rfl,r,gm,gx,d,p,t,fx,side,hs,lead,ys,m,es,rfl,tb,R,G,hp,Pl,hs_,by omega,hn,fun l es1 H1 k1 nl R1 l1 E1 Pr=>?_⟩;have hp1:=KpD.pl k1 R hp;have G1:=KpD.gam k1 R G;refine⟨r,gm,gx,d,p,l,t,fx,side,hs,lead,ys,m,es1,prL fx t side hs lead ys m,rfl,R1,G1,hp1,Pl,Pr,pl,(fun z=>by unfold prL My.moveL;rw[Zv z];rfl),fun H2 s2=>?_⟩;have ev:Qn (side.testBit ((lead+ys.length) % fx.n)) ((prL fx t side hs lead ys m).map (·.2))=valP fx t side hs lead ys:=by
   unfold prL;rw[Z7];by_cases m0:m=0
   ·have em:moveL fx t hs lead ys m=[]:=by unfold My.moveL;rw[Zv m0]
    rw[em,Vx (t0.mpr m0)];rfl
   ·have em:moveL fx t hs lead ys m=Us fx t ys (hs.getD ((lead+ys.length) % fx.n) 0):=by unfold My.moveL;rw[Zj m0]
    rw[em,N3 ok Pl (fun z=>m0 (t0.mp z))];rfl
  rw[ev];have R2:=R1.same s2;obtain⟨dx2,fs2,hr2,A2⟩:=id R2.o;have hp2:=hp1.same s2;have n1:Kf es1 (Qd hs lead ys)=none:=by
   obtain⟨new,rfl,hnew⟩:=E1;refine Zlp c fun e he z=>?_;have:=hnew e he;rw[z,Zdv] at this;omega
  have sl:es1.length < sizeLine:=by rw[sizeLine_eq];omega
  refine⟨_,rfl,r,CR,dx2,_,_,rfl,hr2,C.cl,C.n3,A2.l3,_,rfl,d,es1,Qd hs lead ys,p,_,rfl,rfl,R2.d,R2.ks,rfl,U9 hp2,n1,sl,?_⟩;refine nxE ?_;generalize eG:upd H2 d (Ev _ _ d (es1++[(Qd hs lead ys,p,((valP fx t side hs lead ys:Nat):Int))]))=H3;have eH:H3=upd H2 d (Ev P w d (es1++[(Qd hs lead ys,p,((valP fx t side hs lead ys:Nat):Int))])):=eG.symm;have hd3:H3 d=some (Ev P w d (es1++[(Qd hs lead ys,p,((valP fx t side hs lead ys:Nat):Int))])):=by rw[eH];exact Zq
  have k3:KpD d H2 H3:=fun b o n h=>by rw[eH,Z8 n];exact h
  have R3:Rk P w CR S fx t side H3 r gm d (es1++[(Qd hs lead ys,p,((valP fx t side hs lead ys:Nat):Int))]):=by
   refine⟨⟨dx2,fs2,k3 _ _ (R2.nd hr2 (fun _ z=>nomatch z)) hr2,A2⟩,hd3,fun e he=>?_,fun e he=>?_,Zjk R2.ok.2 n1⟩
   ·rcases J1.mp he with z | z
    ·exact(R2.ks e z).mono fun b ys q=>k3 _ _ (R2.nd q (fun _ z=>nomatch z)) q
    ·rw[Jg.mp z]
     exact(U9 hp2).mono fun b ys q=>k3 _ _ (R2.nd q (fun _ z=>nomatch z)) q
   ·rcases J1.mp he with z | z
    ·exact R2.ok.1 e z
    ·rw[Jg.mp z]
     exact⟨hs,lead,ys,rfl,rfl,hs_⟩
  obtain⟨dx3,fs3,hr3,A3⟩:=id R3.o;have hp3:=KpD.pl k3 R2 hp2;refine⟨_,rfl,r,CR,dx3,_,_,rfl,hr3,C.cl,C.n3,A3.l3,_,rfl,d,_,Qd hs lead ys,p,_,rfl,R3.d,R3.ks,rfl,U9 hp3,Zlo n1,?_⟩;refine q _ H3 ((k1.trans s2.d).trans k3) R3 ?_ ?_
  ·rw[Jc,List.length_singleton]
   omega
  ·exact(E1.mono (by omega)).trans ⟨[(Qd hs lead ys,p,((valP fx t side hs lead ys:Nat):Int))],rfl,fun e he=>by rw[Jg.mp he,Zdv];omega⟩
end
end My
namespace My
open PySem L2
abbrev Zhx:Stmt:=top 69
abbrev Zbd:Stmt:=top 70
abbrev O6:Stmt:=top 71
abbrev Za9:Stmt:=top 72
abbrev Kt:Stmt:=top 73
abbrev Zof:Stmt:=top 76
section
variable{P:Program}{w:World}{K:W.Frag}{mg:Str→Option Value}{base:Heap}{f g:Addr}{fd gd:FuncData}
def Ni(K:W.Frag):Sp:=fun vs H Q _=>∃(a:Addr) (ns:List Int) (k:Nat),vs=[.ref a,.int (k:Nat)]∧SqL K H a (ns.map V.int)∧k≤1000∧∀ z:Int,Q (.int z) H
abbrev Bi:List Str:=["_law_script","_law_k"]
theorem scCell:FnScope ["_law_script","_law_k","_law_number"] Bi (Zm Zhx):=Uw (by decide +kernel)
theorem Zme{k:Nat}(F:Fun K "_law_cell" "_law_cell" Zhx f fd)(ml:mg "len" = none):FnOk P w K mg base Yq (k+1) f fd Bi (Ni K):=by
 refine F.ok scCell (fun vs H Q E h=>?_) (fun cdv A outer s H vs Q E hr h=>?_)
 ·obtain⟨a,ns,k,rfl,_⟩:=h
  rfl
 obtain⟨a,ns,j,rfl,hS,h1,q⟩:=h;refine⟨_,Zi (Yd (Jm Df (pv 1) (Jk Ya rfl ml Ju (Za (pv 0) Zf)) (Jl _)) (Zn (Z9 (Jr Y7 (pv 0) (pv 1) (fun _ _=>rfl)))) Jn)
  (Zi (Jf (i:=2) scCell.nd rfl (Or.inl rfl) (Jj Y8 (Jj Xr (pv 1) Zo) Zo))
  (Zi (Yd (Jm Q8 (Jk Ya rfl ml Ju (Za (pv 0) Zf)) Zo (Jl _))
   (Zn (Jf (i:=2) scCell.nd rfl (Or.inl rfl) (Jj Ul (Jj Y8 (Jj Xr (Jr Y7 (pv 0) (Jj Ul (Jj Xr (pv 1) Zo) (Jk Ya rfl ml Ju (Za (pv 0) Zf))) (fun _ _=>rfl)) Zo) (Jj Xr (pv 1) Zo)) Zo))) Jn)
  (Zn (Z9 (Jj Ul (Jj Xr (pv 2) (pv 2)) Zo))))),?_⟩
 have hl:(ns.map V.int).length=ns.length:=Zk _;refine⟨_,rfl,_,rfl,a,_,rfl,.inl hS,_,_,rfl,rfl,_,rfl,M3 (fun c=>?_) (fun c=>?_)⟩
 ·have c':((j:Nat):Int) < (((ns.map V.int).length:Nat):Int):=J0 c
  have hj:j < ns.length:=by rw[hl] at c';omega
  exact⟨_,rfl,_,rfl,a,_,_,_,rfl,rfl,hS,Qy (by rw[Z4,Zg hj];rfl),q _⟩
 refine⟨_,rfl,_,_,rfl,rfl,.inr ⟨by decide,by decide⟩,_,_,rfl,rfl,?_⟩;refine⟨_,rfl,a,_,rfl,.inl hS,_,_,rfl,rfl,_,rfl,?_⟩;refine Zpx (fun σ H'=>H'=H∧∃ z:Int,0≤z∧z < 4294967296∧σ=[some (.ref a),some (.int (j:Nat)),some (.int z)]) (fun c D' _ nx=>?_) (fun c D' _ nx=>?_) (fun σ H' z=>?_)
 ·have c':(((ns.map V.int).length:Nat):Int) > 0:=J0 c
  rw[hl] at c';obtain⟨v,hv⟩:=Zmn (ns:=ns) (k:=(j:Int) * 7) (by omega);refine⟨_,rfl,_,rfl,_,_,rfl,rfl,.inr ⟨by decide,by decide⟩,_,rfl,a,_,rfl,.inl hS,_,_,rfl,rfl,(by rw[hl];omega),a,_,_,_,rfl,rfl,hS,hv,_,_,rfl,rfl,.inr ⟨by decide,by decide⟩,_,rfl,_,_,rfl,rfl,.inr ⟨by decide,by decide⟩,_,_,rfl,rfl,_,_,rfl,rfl,(show(0:Int) < 2147483647 by decide),?_⟩;refine nx _ _ ⟨rfl,_,Yo _ (by decide),?_,rfl⟩;have:=Yl (v * 48271+(j:Int) * 7919) (show(0:Int) < 2147483647 by decide);omega
 ·exact nx _ _ ⟨rfl,(j:Int) * 7919+5,by omega,by omega,rfl⟩
 ·obtain⟨rfl,z,z0,z1,rfl⟩:=z
  exact⟨_,rfl,_,rfl,_,_,rfl,rfl,.inl ⟨by omega,by omega⟩,_,_,rfl,rfl,(show(0:Int) < 2147483629 by decide),q _⟩
def Gc:Sp:=fun vs H Q _=>∃(c:Int) (k:Nat),vs=[.int c,.int (k:Nat)]∧k≤1000∧∀ z:Int,0≤z→Q (.int z) H
theorem scMixed:FnScope ["_law_cell_here","_law_k","_law_number"] ["_law_cell_here","_law_k"] (Zm Zbd):=Uw (by decide +kernel)
theorem Zi7{k:Nat}(F:Fun K "_law_mixed" "_law_mixed" Zbd f fd):FnOk P w K mg base Yq (k+1) f fd ["_law_cell_here","_law_k"] Gc:=by
 refine F.ok scMixed (fun vs H Q E h=>?_) (fun cdv A outer s H vs Q E hr h=>?_)
 ·obtain⟨c,k,rfl,_⟩:=h
  rfl
 obtain⟨c,j,rfl,h1,q⟩:=h;refine⟨_,Zi (Jf (i:=2) scMixed.nd rfl (Or.inl rfl) (Jj Ul (Jj Xr (Jj Y8 (Jj Ul (pv 0) Zo) Zo) (Jj Y8 (Jj Xr (pv 1) (pv 1)) Zo)) Zo))
  (Zn (Z9 (Jj Ul (Jj Xr (pv 2) (Jj Y8 (pv 2) (pv 1))) Zo))),?_⟩
 have a0:=Yo c (show(2147483647:Int)≠0 by decide);have a1:=Yl c (show(0:Int) < 2147483647 by decide);refine⟨_,rfl,_,_,rfl,rfl,(show(0:Int) < 2147483647 by decide),_,_,rfl,rfl,_,rfl,_,rfl,_,_,rfl,rfl,.inl ⟨by omega,by omega⟩,_,_,rfl,rfl,_,_,rfl,rfl,.inl ⟨by omega,by omega⟩,_,_,rfl,rfl,(show(0:Int) < 2147483629 by decide),?_⟩;have b0:=Yo ((c % 2147483647+1) * ((j:Int) * (j:Int)+48271)) (show(2147483629:Int)≠0 by decide);have b1:=Yl ((c % 2147483647+1) * ((j:Int) * (j:Int)+48271)) (show(0:Int) < 2147483629 by decide);exact⟨_,rfl,_,rfl,_,rfl,_,_,rfl,rfl,_,_,rfl,rfl,.inl ⟨by omega,by omega⟩,_,_,rfl,rfl,(show(0:Int) < 2147483587 by decide),q _ (Yo _ (by decide))⟩
def Ol(K:W.Frag):Sp:=fun vs H Q _=>∃(c:Int) (h:Nat),vs=[.int c,.int (h:Nat)]∧1≤h∧h≤8∧∀ l ls H',Same H H'→H l=none→H' l=some (.lst (vN ls))→ls.Perm (List.range h)→Q (.ref l) H'
abbrev Zjr:List Str:=["_law_cell_here","_law_heights","_law_spare","_law_order_here","_law_k"]
theorem scOrder:FnScope Zjr ["_law_cell_here","_law_heights"] (Zm O6):=Uw (by decide +kernel)
theorem Ds{α β:Type}(f:α→β):∀(l:List α) (i:Nat),(l.map f).eraseIdx i=(l.eraseIdx i).map f
 | [],i=>rfl
 | x :: l,0=>rfl
 | x :: l,i+1=>by
  show f x :: (l.map f).eraseIdx i=f x :: (l.eraseIdx i).map f;rw[Ds f l i]
theorem Zh1(h:Nat):((List.range h).filter fun _=>true).map (fun i=>V.int ((0:Int)+(i:Nat)))=vN (List.range h):=by
 rw[List.filter_eq_self.mpr (fun _ _=>rfl)];unfold vN;refine J2 fun i _=>?_;rw[Int.zero_add]
theorem Zi4{k:Nat}(F:Fun K "_law_order" "_law_order" O6 f fd)(mr:mg "range" = none):FnOk P w K mg base Yq (k+1) f fd ["_law_cell_here","_law_heights"] (Ol K):=by
 refine F.ok scOrder (fun vs H Q E h=>?_) (fun cdv A outer s H vs Q E hr h=>?_)
 ·obtain⟨c,h,rfl,_⟩:=h
  rfl
 obtain⟨c,h,rfl,h1,h8,q⟩:=h;refine⟨_,Zi (To (i:=2) ["_law_height"] [none] rfl scOrder.nd rfl (Or.inl rfl) (Blk.by (sc:=Zm O6) (N0:=Zjr) rfl rfl (by decide +kernel)) (Xj rfl mr (Za (pv 1) Zf)) (fun C s₀ H₀ ex=>Jp (i:=0) (show(["_law_height"]:List Str).Nodup by decide +kernel) rfl (Or.inl rfl)) (fun C s₀ H₀ ex=>U4) (fun C s₀ H₀ ex=>pv 0))
  (Zi (Jf (i:=3) scOrder.nd rfl (Or.inl rfl) (Qf Zf))
  (Zi (Ux PassesOwn.never rfl (Xj rfl mr (Za (pv 1) Zf)) (Jp (i:=4) scOrder.nd rfl (Or.inl rfl))
   (Zi (Xx (En Yi Xv Xu Bd (pv 3) (Za (En Yi PySem.F.slot_list_pop PySem.F.type_list_pop Zjt (pv 2) (Za (Jj Ul (pv 0) (Jj Bs (pv 1) (pv 4))) Zf)) Zf)))
   (Zn (Jf (i:=0) scOrder.nd rfl (Or.inl rfl) (Jj Xk (pv 0) (Jj Bs (pv 1) (pv 4)))))))
  (Zn (Z9 (pv 3))))),?_⟩
 refine⟨_,rfl,(h:Int),rfl,by omega,by omega,?_⟩;refine Bw (n:=h) (lo:=0) (fun _=>true) (fun i=>.int ((0:Int)+(i:Nat))) (Yf _ (by omega)) (fun i H2 hi sm R hR=>hR H2 (Same.refl H2)) (fun i H2 hi hp sm R hR=>⟨_,rfl,hR H2 (Same.refl H2)⟩) (fun l1 H1 s1 hl1 hL1=>?_);rw[Zh1] at hL1;refine⟨Yf 0 (by decide),fun l2 hl2=>?_⟩;have n12:l1≠l2:=Jz hL1 hl2;refine⟨_,rfl,(h:Int),rfl,by omega,by omega,?_⟩;refine Q2 (n:=h) (fun i σ H'=>Same H H'∧∃(c:Int) (sp od:List Nat) (x4:Option V),σ=[some (.int c),some (.int (h:Nat)),some (.ref l1),some (.ref l2),x4]∧H' l1=some (.lst (vN sp))∧H' l2=some (.lst (vN od))∧(od++sp).Perm (List.range h)∧sp.length+i=h∧od.length=i)
  ⟨s1.trans (Je hl2 _),c,List.range h,[],_,rfl,Je hl2 _ _ _ hL1,Zq,List.Perm.refl _,Yb,rfl⟩ (fun i σ H2 hi z=>?_) (fun σ H2 z=>?_)
 ·obtain⟨s2,c,sp,od,x4,rfl,g1,g2,pm,hsp,hod⟩:=z
  have hd:(0:Int) < ((h:Nat):Int) - (0+(i:Nat)):=by omega
  have m0:=Yo c (show((h:Nat):Int) - (0+(i:Nat))≠0 by omega);have m1:=Yl c hd;obtain⟨j,hj⟩:=Int.eq_ofNat_of_zero_le m0;have hj2:j < sp.length:=by omega
  have ex:(vN sp)[j]? = some (.int ((sp[j]:Nat):Int)):=by
   unfold vN;rw[Z4,Zg hj2];rfl
  refine⟨_,rfl,.inl ⟨rfl,_,SqL.of g2⟩,_,rfl,.inl ⟨rfl,_,SqL.of g1⟩,_,rfl,_,rfl,_,rfl,_,_,rfl,rfl,_,_,rfl,rfl,hd,l1,vN sp,_,j,_,rfl,rfl,g1,by omega,by omega,(by rw[hj,Yh,seqIndex_of (by omega) (by omega)];rfl),ex,?_⟩;refine⟨l2,vN od,_,rfl,rfl,(by rw[Z8 n12.symm];exact g2),(by rw[Yh];have:=Yf 100 (by decide);omega),?_⟩;refine⟨_,rfl,_,rfl,_,rfl,_,_,rfl,rfl,_,_,rfl,rfl,⟨hd,by omega⟩,?_⟩;have e1:(vN sp).eraseIdx j=vN (sp.eraseIdx j):=by exact Ds _ _ _
  have e2:vN od++[.int ((sp[j]:Nat):Int)]=vN (od++[sp[j]]):=by unfold vN;rw[Jw];rfl
  refine⟨?_,_,sp.eraseIdx j,od++[sp[j]],_,rfl,?_,?_,?_,?_,?_⟩
  ·intro b o hb
   have hb1:b≠l1:=fun z=>by rw[z,hl1] at hb;cases hb
   have hb2:b≠l2:=fun z=>by rw[z,s1.free hl2] at hb;cases hb
   rw[Z8 hb2,Z8 hb1];exact s2 _ _ hb
  ·rw[Z8 n12,Zq,e1]
  ·rw[Zq,e2]
  ·rw[Y3]
   exact((Tu sp j sp[j] (Zg hj2)).append_left od).symm.trans pm
  ·rw[List.length_eraseIdx,Zv hj2]
   omega
  ·rw[Jc]
   simp [hod]
 ·obtain⟨s2,c,sp,od,x4,rfl,g1,g2,pm,hsp,hod⟩:=z
  have e:sp=[]:=List.eq_nil_of_length_eq_zero (by omega);subst e;rw[J9] at pm;exact⟨_,rfl,q l2 od H2 s2 (s1.free hl2) g2 pm⟩
def Zrx(f:Fx)(H:Hp)(l:Addr):Prop:=∃ pl tr,H l=some (.lst [.int (f.s:Nat),.int (f.h:Nat),.int (f.n:Nat),.str (wd f.d),.ref pl,.ref tr])∧H pl=some (.lst (vN f.pl))∧H tr=some (.lst (vN f.tr))
def Of(K:W.Frag):Sp:=fun vs H Q _=>∃(a:Addr) (ns:List Int),vs=[.ref a]∧SqL K H a (ns.map V.int)∧∀ l f H',f.Ok→Same H H'→H l=none→Zrx f H' l→Q (.ref l) H'
abbrev Zpd:List Str:=["_law_script","_law_cell_here","_law_heights","_law_plain","_law_trump","_law_word"]
theorem scTable:FnScope Zpd ["_law_script"] (Zm Za9):=Uw (by decide +kernel)
theorem Ziy{k:Nat}{f1 f2 f3:Addr}{d1 d2 d3:FuncData}(F:Fun K "_law_table" "_law_table" Za9 f fd)(LC:Lib P w K mg base k "_law_cell" Bi (Ni K) f1 d1)(LX:Lib P w K mg base k "_law_mixed" ["_law_cell_here","_law_k"] Gc f2 d2)
  (LO:Lib P w K mg base k "_law_order" ["_law_cell_here","_law_heights"] (Ol K) f3 d3):FnOk P w K mg base Yq (k+1) f fd ["_law_script"] (Of K):=by
 refine F.ok scTable (fun vs H Q E h=>?_) (fun cdv A outer s H vs Q E hr h=>?_)
 ·obtain⟨a,ns,rfl,_⟩:=h
  rfl
 obtain⟨a,ns,rfl,hS,q⟩:=h;refine⟨_,Zi (Jf (i:=1) scTable.nd rfl (Or.inl rfl) (Z0 LC.ok hr rfl LC.mg LC.kp LC.bd .nil Jb (Za (pv 0) (Za Zo Zf))))
  (Zi (Jf (i:=2) scTable.nd rfl (Or.inl rfl) (Jj Y8 Zo (Jj Ul (Jj Xk (pv 1) Zo) Zo)))
  (Zi (Jf (i:=3) scTable.nd rfl (Or.inl rfl) (Z0 LO.ok hr rfl LO.mg LO.kp LO.bd .nil Jb (Za (Z0 LX.ok hr rfl LX.mg LX.kp LX.bd .nil Jb (Za (pv 1) (Za Zo Zf))) (Za (pv 2) Zf))))
  (Zi (Jf (i:=4) scTable.nd rfl (Or.inl rfl) (Z0 LO.ok hr rfl LO.mg LO.kp LO.bd .nil Jb (Za (Z0 LX.ok hr rfl LX.mg LX.kp LX.bd .nil Jb (Za (pv 1) (Za Zo Zf))) (Za (pv 2) Zf))))
  (Zi (Jf (i:=5) scTable.nd rfl (Or.inl rfl) (Jr Y7 (Qf (Za Ud (Za Ud (Za Ud (Za Ud Zf))))) (Jj Ul (Jj Xk (pv 1) Zo) Zo) (fun _ _=>rfl)))
  (Zn (Z9 (Qf (Za (Jj Y8 Zo (Jj Ul (pv 1) Zo)) (Za (pv 2) (Za (Jj Y8 Zo (Jj Ul (Jj Xk (pv 1) Zo) Zo)) (Za (pv 5) (Za (pv 3) (Za (pv 4) Zf))))))))))))),?_⟩
 refine⟨_,rfl,a,ns,0,rfl,hS,by decide,fun c=>?_⟩;refine⟨_,rfl,_,_,rfl,rfl,⟨by decide,by decide⟩,_,_,rfl,rfl,(show(0:Int) < 8 by decide),_,_,rfl,rfl,?_⟩;have a0:=Yo (c / 8) (show(8:Int)≠0 by decide);have a1:=Yl (c / 8) (show(0:Int) < 8 by decide);obtain⟨h,eh,h1,h8⟩:∃ h:Nat,1+c / 8 % 8=((h:Nat):Int)∧1≤h∧h≤8:=⟨(1+c / 8 % 8).toNat,by omega,by omega,by omega⟩;dsimp only;rw[eh];refine⟨_,rfl,c,1,rfl,by decide,fun z hz=>⟨_,rfl,z,h,rfl,h1,h8,fun lp ls H2 s2 hlp hP pp=>?_⟩⟩;refine⟨_,rfl,c,2,rfl,by decide,fun z hz=>⟨_,rfl,z,h,rfl,h1,h8,fun lt lts H3 s3 hlt hT pt=>?_⟩⟩;refine⟨Yf 4 (by decide),fun lw hlw=>?_⟩;have s4:=Je hlw (.lst (vS wds));obtain⟨v,hv,ev⟩:=Zde (vS wds) 4 rfl (by decide) (c / 256);obtain⟨t,ht,rfl⟩:=Zz.mp hv;obtain⟨d,rfl⟩:=Zgn ht;refine⟨_,rfl,_,_,rfl,rfl,⟨by decide,by decide⟩,_,_,rfl,rfl,(show(0:Int) < 4 by decide),lw,_,_,_,rfl,rfl,SqL.of Zq,ev,?_⟩;refine⟨_,rfl,_,_,rfl,rfl,(show(0:Int) < 4 by decide),_,_,rfl,rfl,_,rfl,_,rfl,_,_,rfl,rfl,⟨by decide,by decide⟩,_,_,rfl,rfl,(show(0:Int) < 2 by decide),_,_,rfl,rfl,_,rfl,_,rfl,_,rfl,Yf 6 (by decide),fun l hl=>?_⟩;have b0:=Yo c (show(4:Int)≠0 by decide);have b1:=Yl c (show(0:Int) < 4 by decide);have d0:=Yo (c / 4) (show(2:Int)≠0 by decide);have d1:=Yl (c / 4) (show(0:Int) < 2 by decide);obtain⟨sN,es,s1',s4'⟩:∃ n:Nat,1+c % 4=((n:Nat):Int)∧1≤n∧n≤4:=⟨(1+c % 4).toNat,by omega,by omega,by omega⟩;obtain⟨nN,en,n34⟩:∃ n:Nat,3+c / 4 % 2=((n:Nat):Int)∧(n=3∨n=4):=⟨(3+c / 4 % 2).toNat,by omega,by omega⟩;have sA:=s2.trans (s3.trans s4);have s5:=Je hl (.lst [.int (1+c % 4),.int (h:Nat),.int (3+c / 4 % 2),.str (wd d),.ref lp,.ref lt]);refine q l ⟨sN,h,nN,d,ls,lts⟩ _ ⟨s1',s4',h1,h8,n34,pp,pt⟩ (sA.trans s5) (sA.free hl) ⟨lp,lt,?_,s5 _ _ (s4 _ _ (s3 _ _ hP)),s5 _ _ (s4 _ _ hT)⟩;show(upd _ l (.lst [.int (1+c % 4),.int (h:Nat),.int (3+c / 4 % 2),.str (wd d),.ref lp,.ref lt])) l=_;rw[Zq,es,en]
def Zau(K:W.Frag):Sp:=fun vs H Q _=>∃(l:Addr) (f:Fx),vs=[.ref l]∧f.Ok∧Zrx f H l∧∀ H',Same H H'→Q (.str (Gv f)) H'
abbrev Zjo:List Str:=["_law_facts","_law_suits","_law_heights","_law_seats","_law_word","_law_plain","_law_trump","_law_line"]
theorem scText:FnScope Zjo ["_law_facts"] (Zm Kt):=Uw (by decide +kernel)
theorem Zlx{k:Nat}(F:Fun K "_law_text" "_law_text" Kt f fd)(ms:mg "str" = none):FnOk P w K mg base Yq (k+1) f fd ["_law_facts"] (Zau K):=by
 refine F.ok scText (fun vs H Q E h=>?_) (fun cdv A outer s H vs Q E hr h=>?_)
 ·obtain⟨l,f,rfl,_⟩:=h
  rfl
 obtain⟨l,fx,rfl,ok,⟨pl,tr,hL,hP,hT⟩,q⟩:=h;refine⟨_,Zi (Tq (pv 0) (Zoq rfl (Yj (Jp (i:=1) scText.nd rfl (Or.inl rfl)) (Yj (Jp (i:=2) scText.nd rfl (Or.inl rfl)) (Yj (Jp (i:=3) scText.nd rfl (Or.inl rfl)) (Yj (Jp (i:=4) scText.nd rfl (Or.inl rfl)) (Yj (Jp (i:=5) scText.nd rfl (Or.inl rfl)) (Yj (Jp (i:=6) scText.nd rfl (Or.inl rfl)) Ql))))))))
  (Zi (Jf (i:=7) scText.nd rfl (Or.inl rfl) (Jj Um (Jj Um (Jj Um (Jj Um (Jj Um Ud (Yz X9 rfl ms PyProof.Rows.boot_str (Za (pv 1) Zf))) Ud) (Yz X9 rfl ms PyProof.Rows.boot_str (Za (pv 2) Zf))) Ud) (Yz X9 rfl ms PyProof.Rows.boot_str (Za (pv 3) Zf))))
  (Zi (Jf (i:=7) scText.nd rfl (Or.inl rfl) (Jj Um (Jj Um (Jj Um (Jj Um (pv 7) Ud) (pv 4)) Ud) (En PySem.F.plainAttrs_str PySem.F.slot_str_join PySem.F.type_str_join Zdq Ud (Za (Ug ["_law_height"] [none] rfl (Blk.by (sc:=Zm Kt) (N0:=Zjo) rfl rfl (by decide +kernel)) (Y4 (pv 5)) (fun C s₀ H₀ ex=>Jp (i:=0) (show(["_law_height"]:List Str).Nodup by decide +kernel) rfl (Or.inl rfl)) (fun C s₀ H₀ ex=>U4)
    (fun C s₀ H₀ ex=>Yz X9 rfl ms PyProof.Rows.boot_str (Za (Jj Y8 (pv 0) Zo) Zf))) Zf))))
  (Zn (Z9 (Jj Um (Jj Um (pv 7) Ud) (En PySem.F.plainAttrs_str PySem.F.slot_str_join PySem.F.type_str_join Zdq Ud (Za (Ug ["_law_height"] [none] rfl (Blk.by (sc:=Zm Kt) (N0:=Zjo) rfl rfl (by decide +kernel)) (Y4 (pv 6)) (fun C s₀ H₀ ex=>Jp (i:=0) (show(["_law_height"]:List Str).Nodup by decide +kernel) rfl (Or.inl rfl)) (fun C s₀ H₀ ex=>U4)
    (fun C s₀ H₀ ex=>Yz X9 rfl ms PyProof.Rows.boot_str (Za (Jj Y8 (pv 0) Zo) Zf))) Zf))))))),?_⟩
 refine⟨_,rfl,l,_,rfl,SqL.of hL,rfl,_,_,rfl,_,_,rfl,_,_,rfl,_,_,rfl,_,_,rfl,_,_,rfl,rfl,?_⟩;have sm:∀ i:Nat,i≤8→(((i:Nat):Int).natAbs).log2 < 1920:=fun i hi=>by
  have:((i:Nat):Int).natAbs=i:=rfl;rw[this];exact Jx (Nat.log2_le_self i) (by omega)
 have s4:=ok.s4;have h8:=ok.h8;have n4:fx.n≤8:=by rcases ok.n34 with e | e<;>omega
 have one:∀ x:Nat,(⟨#[x]⟩:Str).length≤1:=fun _=>Zs 1;have w1:("pack ":Str).length≤5:=by decide +kernel
 have w2:("x":Str).length≤1:=by decide +kernel
 have w3:(" seats ":Str).length≤7:=by decide +kernel
 have w4:(" duty ":Str).length≤6:=by decide +kernel
 have w5:(" plain ":Str).length≤7:=by decide +kernel
 have w6:(" trump ":Str).length≤7:=by decide +kernel
 have wl:=(Zgo fx.d).2;refine⟨_,rfl,_,rfl,sm _ (by omega),?_⟩;rw[B3 _ (by omega)];refine⟨_,_,rfl,rfl,Q9 w1 (one _) (by decide),_,_,rfl,rfl,Q9 (Uh w1 (one _)) w2 (by decide),_,rfl,_,rfl,sm _ h8,?_⟩;rw[B3 _ h8];refine⟨_,_,rfl,rfl,Q9 (Uh (Uh w1 (one _)) w2) (one _) (by decide),_,_,rfl,rfl,Q9 (Uh (Uh (Uh w1 (one _)) w2) (one _)) w3 (by decide),_,rfl,_,rfl,sm _ n4,?_⟩;rw[B3 _ n4];refine⟨_,_,rfl,rfl,Q9 (Uh (Uh (Uh (Uh w1 (one _)) w2) (one _)) w3) (one _) (by decide),?_⟩;have L1:=Uh (Uh (Uh (Uh (Uh w1 (one (48+fx.s))) w2) (one (48+fx.h))) w3) (one (48+fx.n));refine⟨_,rfl,_,_,rfl,rfl,Q9 L1 w4 (by decide),_,rfl,_,_,rfl,rfl,Q9 (Uh L1 w4) wl (by decide),_,_,rfl,rfl,Q9 (Uh (Uh L1 w4) wl) w5 (by decide),?_⟩;have L2:=Uh (Uh (Uh L1 w4) wl) w5;have num:∀(ls:List Nat) (x:V),ls.Perm (List.range fx.h)→x∈vN ls→∃ i:Nat,i+1≤8∧x = .int (i:Nat):=fun ls x pm hx=>by
  obtain⟨i,hi,rfl⟩:=Zz.mp hx;have:=Zdg pm i hi;exact⟨i,by omega,rfl⟩
 refine⟨rfl,_,rfl,pl,rfl,⟨_,SqL.of hP⟩,Qj (K:=K) (xs:=vN fx.pl) (fun _=>true) sgV (SqL.of hP) (by rw[Yh,Ur ok.pp];exact Yf _ (by omega)) (fun x H3 hx s3 R hR=>hR H3 (Same.refl H3)) (fun x H3 hx hp s3 R hR=>?_) (fun l1 H1 s1 hl1 hL1=>?_)⟩
 ·obtain⟨i,hi,rfl⟩:=num _ x ok.pp hx
  refine⟨_,rfl,_,_,rfl,rfl,_,rfl,sm (i+1) hi,?_⟩;show R (.str (toString (((i+1:Nat):Nat):Int))) H3;rw[B3 _ hi];have:=hR H3 (Same.refl H3)
  rwa [Ov] at this
 rw[Kq] at hL1;have j1:=Su fx.pl;have jl:(Txt.join "" (fx.pl.map Ec)).length≤8:=by rw[j1,Ea,Ur ok.pp];exact h8
 refine⟨_,l1,fx.pl.map Ec,rfl,rfl,SqL.of hL1,Zc6 ok.pp h8,_,_,rfl,rfl,Q9 L2 jl (by decide),?_⟩;refine⟨_,rfl,_,_,rfl,rfl,Q9 (Uh L2 jl) w6 (by decide),?_⟩;have L3:=Uh (Uh L2 jl) w6;have hT1:=s1 _ _ hT;refine⟨rfl,_,rfl,tr,rfl,⟨_,SqL.of hT1⟩,Qj (K:=K) (xs:=vN fx.tr) (fun _=>true) sgV (SqL.of hT1) (by rw[Yh,Ur ok.pt];exact Yf _ (by omega)) (fun x H3 hx s3 R hR=>hR H3 (Same.refl H3)) (fun x H3 hx hp s3 R hR=>?_) (fun l2 H2 s2 hl2 hL2=>?_)⟩
 ·obtain⟨i,hi,rfl⟩:=num _ x ok.pt hx
  refine⟨_,rfl,_,_,rfl,rfl,_,rfl,sm (i+1) hi,?_⟩;show R (.str (toString (((i+1:Nat):Nat):Int))) H3;rw[B3 _ hi];have:=hR H3 (Same.refl H3)
  rwa [Ov] at this
 rw[Kq] at hL2;have j2:=Su fx.tr;have jl2:(Txt.join "" (fx.tr.map Ec)).length≤8:=by rw[j2,Ea,Ur ok.pt];exact h8
 refine⟨_,l2,fx.tr.map Ec,rfl,rfl,SqL.of hL2,Zc6 ok.pt h8,_,_,rfl,rfl,Q9 L3 jl2 (by decide),?_⟩;have et:(("pack ":Str)++⟨#[48+fx.s]⟩ ++ "x" ++ ⟨#[48+fx.h]⟩ ++ " seats " ++ ⟨#[48+fx.n]⟩ ++ " duty " ++ wd fx.d ++ " plain " ++ Txt.join "" (fx.pl.map Ec) ++ " trump " ++ Txt.join "" (fx.tr.map Ec))=Gv fx:=by
  rw[j1,j2];exact Zkw fx
 rw[et];exact q _ (s1.trans s2)
def Kp:Sp:=fun vs H Q _=>∃ c:Nat,vs=[.int (c:Nat)]∧c≤1000∧Q (.int ((2 ^ c:Nat):Int)) H
theorem scBit:FnScope ["_law_card","_law_bit_here","_law_time"] ["_law_card"] (Zm Zof):=Uw (by decide +kernel)
theorem Zo9{k:Nat}(F:Fun K "_law_bit" "_law_bit" Zof f fd)(mr:mg "range" = none):FnOk P w K mg base Yq (k+1) f fd ["_law_card"] Kp:=by
 refine F.ok scBit (fun vs H Q E h=>?_) (fun cdv A outer s H vs Q E hr h=>?_)
 ·obtain⟨c,rfl,_⟩:=h
  rfl
 obtain⟨c,rfl,hc,q⟩:=h;refine⟨_,Zi (Jf (i:=1) scBit.nd rfl (Or.inl rfl) Zo)
  (Zi (Ux PassesOwn.never rfl (Xj rfl mr (Za (pv 0) Zf)) (Jp (i:=2) scBit.nd rfl (Or.inl rfl)) (Zn (Jf (i:=1) scBit.nd rfl (Or.inl rfl) (Jj Xr (pv 1) Zo))))
  (Zn (Z9 (pv 1)))),?_⟩
 refine⟨_,rfl,((c:Nat):Int),rfl,by omega,by omega,?_⟩;refine Q2 (n:=c) (fun i σ H'=>H'=H∧∃ x2,σ=[some (.int (c:Nat)),some (.int ((2 ^ i:Nat):Int)),x2]) ⟨rfl,none,rfl⟩ (fun i σ H1 hi z=>?_) (fun σ H1 z=>?_)
 ·obtain⟨rfl,x2,rfl⟩:=z
  refine⟨_,rfl,_,_,rfl,rfl,.inr ⟨by decide,by decide⟩,rfl,some (.int (0+(i:Nat))),?_⟩;show [_,some (V.int (((2 ^ i:Nat):Int) * 2)),_]=_;rw[show((2 ^ i:Nat):Int) * 2=((2 ^ (i+1):Nat):Int) by rw[Nat.pow_succ,Int.natCast_mul];rfl]
 ·obtain⟨rfl,x2,rfl⟩:=z
  exact⟨_,rfl,q⟩
end
theorem Zkn(ls:List Nat)(sz:Nat):∀ n,((List.range n).map fun j=>(ls.drop (sz * j)).take sz).flatten=ls.take (sz * n)
 | 0=>by simp
 | n+1=>by
  rw[List.range_succ,Jw,List.flatten_append,Zkn ls sz n,Nat.mul_succ,List.take_add];simp
theorem Dr:∀(css:List (List Nat)) (F:Nat→List Nat),(∀(j:Nat) (cs:List Nat),css[j]? = some cs→cs.Perm (F j))→css.flatten.Perm ((List.range css.length).map F).flatten
 | [],_,_=>by simp
 | c :: r,F,h=>by
  rw[Jo,List.range_succ_eq_map,List.map_cons,List.flatten_cons,List.flatten_cons,Z7];exact(h 0 c rfl).append (Dr r (F ∘ Nat.succ) fun j cs e=>h (j+1) cs e)
structure DealOk(f:Fx)(sz:Nat)(css:List (List Nat)):Prop where
 len:css.length=f.n
 each:∀ cs∈css,cs.length=sz
 nd:css.flatten.Nodup
 pk:∀ c∈css.flatten,c / 8 < f.s∧c % 8 < f.h
 up:∀ cs∈css,cs.Pairwise (·≤·)
theorem Zdl:∀ s≤4,∀ h≤8,(U6 s h).Nodup:=by decide +kernel
theorem Nm(s h:Nat):(U6 s h).length=s * h:=by
 unfold U6
 induction s with
 | zero=>simp
 | succ s ih=>rw[List.range_succ,List.flatMap_append,Jc,ih];simp [Nat.succ_mul]
theorem Zdf:∀{a b:List Nat},a.Nodup→b.Nodup→(∀ x,x∈a↔x∈b)→a.length=b.length
 | [],b,_,_,h=>by
  cases b with
  | nil=>rfl
  | cons x r=>exact absurd ((h x).mpr Zw) Y5
 | x :: a,b,ha,hb,h=>by
  have hx:x∈b:=(h x).mp Zw;obtain⟨na,ha'⟩:=List.nodup_cons.mp ha;have e:=Zdf (a:=a) (b:=b.erase x) ha' (hb.erase x) fun y=>by
   rw[hb.mem_erase_iff];constructor
   ·exact fun hy=>⟨fun z=>na (z ▸ hy),(h y).mp (Zx _ hy)⟩
   ·rintro⟨n,hy⟩
    exact(Ja.mp ((h y).mpr hy)).resolve_left n
  rw[Jo,e,List.length_erase_of_mem hx];have:=List.length_pos_of_mem hx;omega
theorem Zni{cs:List Nat}(nd:cs.Nodup)(h:∀ c∈cs,c < 32):Xi 32 (hN cs)=cs.length:=
 Zdf (List.Pairwise.filter _ List.nodup_range) nd fun x=>Mg h x
theorem Mq(b:Nat):∀(css:List (List Nat)),(css.map hN).countP (fun h=>h.testBit b)≤css.flatten.count b
 | []=>Nat.zero_le _
 | c :: r=>by
  have ih:=Mq b r;rw[List.map_cons,List.countP_cons,List.flatten_cons,List.count_append,Ej];by_cases e:b∈c
  ·have:=List.count_pos_iff.mpr e
   rw[Zc e,Zv rfl];omega
  ·rw[Zd e,Zj Zp]
   omega
theorem DealOk.nd1{f:Fx}{sz:Nat}{css:List (List Nat)}(D:DealOk f sz css){cs:List Nat}(h:cs∈css):cs.Nodup:=(List.pairwise_flatten.mp D.nd).1 cs h
theorem DealOk.c32{f:Fx}{sz:Nat}{css:List (List Nat)}(ok:f.Ok)(D:DealOk f sz css){cs:List Nat}(h:cs∈css):∀ c∈cs,c < 32:=fun c hc=>by
 have:=D.pk c (List.mem_flatten.mpr ⟨cs,h,hc⟩);have:=ok.s4;have:=ok.h8;omega
theorem DealOk.plc{f:Fx}{sz:Nat}{css:List (List Nat)}(ok:f.Ok)(D:DealOk f sz css){lead:Nat}(hl:lead < f.n):Plc f (css.map hN) lead [] sz:=by
 have c1:∀ b,Ny (css.map hN) [] b≤css.flatten.count b:=fun b=>by
  unfold Ny;rw[List.count_nil];exact Mq b css
 refine⟨by rw[Zk];exact D.len,hl,by show 0 < f.n;omega,fun b=>Jd (c1 b) (List.nodup_iff_count.mp D.nd b),fun b hb=>D.pk b (List.count_pos_iff.mp (Ji hb (c1 b))),fun i h e=>?_⟩;rw[Z4] at e;obtain⟨cs,e1,rfl⟩:=Jq.mp e;have m:=Zl e1;show Xi 32 (hN cs)+(if off f.n lead i < 0 then 1 else 0)=sz;rw[Zni (D.nd1 m) (D.c32 ok m),Zj (Nat.not_lt_zero _),D.each cs m,Nat.add_zero]
abbrev Zc7:Stmt:=top 77
abbrev Zhv:Stmt:=top 74
abbrev Zbh:Stmt:=top 75
section
variable{P:Program}{w:World}{K:W.Frag}{mg:Str→Option Value}{base:Heap}{f g:Addr}{fd gd:FuncData}
theorem Zfs{H1 H':Hp}{x dx:Addr}{o:HO}(hx:H1 x=none)(hd:H1 dx=none)(n:dx≠x)(kp:Keep x (upd (upd H1 dx (.own x)) x o) H'):Same H1 H':=fun b u hb=>
 kp b u (Jz hb hx) (Uq hx hd n b u hb)
def prV(H:Hp)(u:Addr):Nat×Nat:=match H u with | some (.tup [.int i,.int j])=>(i.toNat,j.toNat) | _=>(0,0)
theorem Zh6{H:Hp}{u:Addr}{x c:Nat}(h:H u=some (.tup [.int ((x:Nat):Int),.int ((c:Nat):Int)])):prV H u=(x,c):=by
 unfold prV;rw[h];show((((x:Nat):Int).toNat),(((c:Nat):Int).toNat))=(x,c);rw[Z2,Z2]
def PrA(H:Hp)(as:List (Addr×Nat)):Prop:=∀ e∈as,∃ x:Nat,H e.1=some (.tup [.int ((x:Nat):Int),.int ((e.2:Nat):Int)])
def Zaw(K:W.Frag)(CT CG:Addr):Sp:=fun vs H Q _=>∃(a gm x:Addr) (ns:List Int) (fx:Fx) (t:Option Nat),vs=[.ref a,.ref gm]∧SqL K H a (ns.map V.int)∧GamH CT CG fx t H gm x ∧
 ∀(l:Addr) (cs:List Nat) H',cs.Perm (U6 fx.s fx.h)→Same H H'→H l=none→H' l=some (.lst (vN cs))→Q (.ref l) H'
abbrev Znn:List Str:=["_law_script","_law_game_here","_law_cell_here","_law_pairs","_law_suit","_law_height","_law_card"]
theorem scShuf:FnScope Znn ["_law_script","_law_game_here"] (Zm Zc7):=Uw (by decide +kernel)
abbrev nShC:List Str:=["_law_number","_law_card"]
theorem Zl0{k:Nat}{CT CG f1 f2:Addr}{d1 d2:FuncData}(F:Fun K "_law_shuffled" "_law_shuffled" Zc7 f fd)(C:TabC K mg CT)(CGm:GamC K mg CG)(LC:Lib P w K mg base k "_law_cell" Bi (Ni K) f1 d1)(LX:Lib P w K mg base k "_law_mixed" ["_law_cell_here","_law_k"] Gc f2 d2)(mr:mg "range" = none)(mso:mg "sorted" = none) :
  FnOk P w K mg base Yq (k+1) f fd ["_law_script","_law_game_here"] (Zaw K CT CG):=by
 refine F.ok scShuf (fun vs H Q E h=>?_) (fun cdv A outer s H vs Q E hr h=>?_)
 ·obtain⟨a,gm,x,ns,fx,t,rfl,_⟩:=h
  rfl
 obtain⟨a,gm,x,ns,fx,t,rfl,hS,G,q⟩:=h;refine⟨_,Zi (Jf (i:=2) scShuf.nd rfl (Or.inl rfl) (Z0 LC.ok hr rfl LC.mg LC.kp LC.bd .nil Jb (Za (pv 0) (Za Zo Zf))))
  (Zi (Jf (i:=3) scShuf.nd rfl (Or.inl rfl) (Qf Zf))
  (Zi (Ux PassesOwn.never rfl (Xj rfl mr (Za (Jt (Jt (pv 1) rfl) rfl) Zf)) (Jp (i:=4) scShuf.nd rfl (Or.inl rfl))
   (Zn (Ux PassesOwn.never rfl (Xj rfl mr (Za (Jt (Jt (pv 1) rfl) rfl) Zf)) (Jp (i:=5) scShuf.nd rfl (Or.inl rfl))
    (Zi (Jf (i:=6) scShuf.nd rfl (Or.inl rfl) (Jj Y8 (Jj Xr Zo (pv 4)) (pv 5)))
    (Zn (Xx (En Yi Xv Xu Bd (pv 3) (Za (Uy (Za (Z0 LX.ok hr rfl LX.mg LX.kp LX.bd .nil Jb (Za (pv 2) (Za (pv 6) Zf))) (Za (pv 6) Zf))) Zf))))))))
  (Zn (Z9 (Ug nShC [none,none] rfl (Blk.by (sc:=Zm Zc7) (N0:=Znn) rfl rfl (by decide +kernel)) (Y4 (Jk A9 rfl mso PyProof.Rows.boot_sorted (Za (pv 3) Zf))) (fun C s₀ H₀ ex=>Gm (n:=2) K rfl rfl (Yj (Jp (i:=0) (show nShC.Nodup by decide +kernel) rfl (Or.inl rfl)) (Yj (Jp (i:=1) (show nShC.Nodup by decide +kernel) rfl (Or.inl rfl)) Ql))) (fun C s₀ H₀ ex=>U4) (fun C s₀ H₀ ex=>pv 1)))))),?_⟩
 have ok:=G.ok;have s4:=ok.s4;have h8:=ok.h8;have z1000:=Yf 1000 (by decide);refine⟨_,rfl,a,ns,2,rfl,hS,by decide,fun z=>Zdn ?_⟩;refine X6 (fun v H1=>∃ l,v = .ref l∧Same H H1∧H l=none∧H1 l=some (.lst [])) (fun R hR=>⟨Yf 0 (by decide),fun l hl=>hR _ _ ⟨l,rfl,Je hl _,hl,Zq⟩⟩) (fun v H0 z0=>?_);obtain⟨lp,rfl,s0,hlp,hl0⟩:=z0;obtain⟨dg,hg⟩:=id G.g;obtain⟨dx,po,to,hx,_,_⟩:=id G.t;refine Ox (fun σ H'=>Same H H'∧∃(as:List (Addr×Nat)) (x4 x5 x6:Option V),σ=[some (.ref a),some (.ref gm),some (.int z),some (.ref lp),x4,x5,x6]∧H' lp=some (.lst (as.map fun e=>.ref e.1))∧PrA H' as∧as.map (·.2)=U6 fx.s fx.h) (fun D' er nx=>?_) (fun σ H2 y=>?_)
 ·refine⟨_,rfl,gm,CG,dg,_,_,rfl,s0 _ _ hg,CGm.cl,CGm.nT,Yu _ _,x,CT,dx,_,_,rfl,s0 _ _ hx,C.cl,C.nS,Nt _ _ _,((fx.s:Nat):Int),rfl,by omega,by omega,?_⟩
  refine Q2 (n:=fx.s) (fun i σ H'=>Same H H'∧∃(as:List (Addr×Nat)) (x4 x5 x6:Option V),σ=[some (.ref a),some (.ref gm),some (.int z),some (.ref lp),x4,x5,x6]∧H' lp=some (.lst (as.map fun e=>.ref e.1))∧PrA H' as∧as.map (·.2)=U6 i fx.h) ⟨s0,[],none,none,none,rfl,hl0,(fun e he=>nomatch he),rfl⟩ (fun i σ H1 hi y=>?_) (fun σ H1 y=>nx _ _ y);obtain⟨s1,as,x4,x5,x6,rfl,g,pr,ec⟩:=y;refine⟨_,rfl,gm,CG,dg,_,_,rfl,s1 _ _ hg,CGm.cl,CGm.nT,Yu _ _,x,CT,dx,_,_,rfl,s1 _ _ hx,C.cl,C.nH,Ei _ _ _,((fx.h:Nat):Int),rfl,by omega,by omega,?_⟩;refine Q2 (n:=fx.h) (fun j σ H'=>Same H H'∧∃(as:List (Addr×Nat)) (x5 x6:Option V),σ=[some (.ref a),some (.ref gm),some (.int z),some (.ref lp),some (.int (0+(i:Nat))),x5,x6]∧H' lp=some (.lst (as.map fun e=>.ref e.1))∧PrA H' as∧as.map (·.2)=U6 i fx.h++(List.range j).map fun v=>8 * i+v) ⟨s1,as,_,_,rfl,g,pr,by rw[ec];exact(J9 _).symm⟩ (fun j σ H2 hj y=>?_) (fun σ H2 y=>?_)
  ·obtain⟨s2,as,x5,x6,rfl,g,pr,ec⟩:=y
   have e8:(8:Int) * (0+(i:Nat))+(0+(j:Nat))=((8 * i+j:Nat):Int):=by omega
   refine⟨_,rfl,_,_,rfl,rfl,.inl ⟨by decide,by decide⟩,_,rfl,_,_,rfl,rfl,?_⟩;dsimp only;rw[e8];have al:as.length=(U6 i fx.h).length+j:=by
    have:=congrArg List.length ec;rw[Zk,Jc,Zk,Yb] at this;exact this
   have pl:=K6 i (by omega) fx.h h8;refine⟨_,rfl,.inl ⟨rfl,_,SqL.of g⟩,_,rfl,_,rfl,z,8 * i+j,rfl,by omega,fun y hy=>?_⟩;obtain⟨yn,rfl⟩:=Int.eq_ofNat_of_zero_le hy;refine⟨_,rfl,Yf 2 (by decide),fun p hp=>?_⟩;have sp:=Je hp (.tup [.int ((yn:Nat):Int),.int ((8 * i+j:Nat):Int)]);have gp:=sp _ _ g;refine⟨lp,_,_,rfl,rfl,gp,by rw[Zk];omega,?_⟩;refine⟨fun b o hb=>?_,as++[(p,8 * i+j)],_,_,rfl,?_,fun e he=>?_,?_⟩
   ·rw[Z8 (fun z=>by rw[z,hlp] at hb;cases hb)]
    exact sp _ _ (s2 _ _ hb)
   ·rw[Zq,Jw]
    rfl
   ·have ex:∃ x:Nat,upd H2 p (.tup [.int ((yn:Nat):Int),.int ((8 * i+j:Nat):Int)]) e.1=some (.tup [.int ((x:Nat):Int),.int ((e.2:Nat):Int)]):=by
     rcases J1.mp he with h | h
     ·obtain⟨x,hx⟩:=pr e h
      exact⟨x,sp _ _ hx⟩
     ·cases Jg.mp h
      exact⟨yn,Zq⟩
    obtain⟨x,hx⟩:=ex;refine⟨x,?_⟩;rw[Z8 (Bj hx gp (fun ys e=>by cases e))];exact hx
   ·rw[Jw,ec,List.range_succ,Jw,Y3]
    rfl
  ·obtain⟨s2,as,x5,x6,rfl,g,pr,ec⟩:=y
   refine⟨s2,as,_,_,_,rfl,g,pr,?_⟩;rw[ec];unfold U6;rw[List.range_succ,List.flatMap_append,List.flatMap_cons,List.flatMap_nil,J9]
 obtain⟨s2,as,x4,x5,x6,rfl,g,pr,ec⟩:=y;have al:as.length=fx.s * fx.h:=by
  have:=congrArg List.length ec;rw[Zk,Nm] at this;exact this
 have sn:fx.s * fx.h≤32:=Jd (Nat.mul_le_mul s4 h8) (by decide);have eR:(as.map fun e=>V.ref e.1)=(as.map (·.1)).map V.ref:=by rw[Z7];rfl
 rw[eR] at g;refine⟨_,rfl,lp,as.map (·.1),rfl,SqL.of g,by rw[Zk];omega,fun p hp=>?_,fun l2 qs hl2 pq=>?_⟩
 ·obtain⟨e,he,rfl⟩:=Zz.mp hp
  obtain⟨x,hx⟩:=pr e he;exact⟨_,_,SqT.of hx⟩
 have sm2:=Je hl2 (.lst (qs.map V.ref));have ql:qs.length=as.length:=by rw[pq.length_eq,Zk]
 have at2:∀ u∈qs,∃ x c:Nat,H2 u=some (.tup [.int ((x:Nat):Int),.int ((c:Nat):Int)]):=fun u hu=>by
  obtain⟨e,he,rfl⟩:=Zz.mp (pq.mem_iff.mp hu);obtain⟨x,hx⟩:=pr e he;exact⟨x,e.2,hx⟩
 have Pr:Zeh (upd H2 l2 (.lst (qs.map V.ref))) l2 (qs.map (prV H2)):=⟨qs,Zq,by rw[Zk],fun j u p h1 h2=>by
  rw[Z4,h1] at h2;have e2:prV H2 u=p:=Zy h2;obtain⟨x,c,hx⟩:=at2 u (Zl h1);rw[← e2,Zh6 hx];exact sm2 _ _ hx⟩
 refine⟨l2,rfl,⟨_,SqL.of Zq⟩,Bx (K:=K) Pr (fun _=>true) (fun x=>.int (x.2:Nat)) (by rw[Zk];omega) (fun x H3 hx sm R hR=>hR H3 (Same.refl H3)) (fun x H3 hx hp sm R hR=>⟨_,rfl,hR H3 (Same.refl H3)⟩) (fun ln H4 s5 hln hLn=>?_)⟩;rw[List.filter_eq_self.mpr fun _ _=>rfl,Z7] at hLn;refine q ln (qs.map fun u=>(prV H2 u).2) H4 ?_ ((s2.trans sm2).trans s5) (s2.free (sm2.free hln)) ?_
 ·have e1:(as.map (·.1)).map (fun u=>(prV H2 u).2)=U6 fx.s fx.h:=by
   rw[← ec,Z7];refine J2 fun e he=>?_;obtain⟨x,hx⟩:=pr e he;show(prV H2 e.1).2=e.2;rw[Zh6 hx]
  rw[← e1];exact pq.map _
 ·rw[hLn]
  unfold vN;rw[Z7];rfl
def Za1(CT CG:Addr):Sp:=fun vs H Q _=>∃(x:Addr) (f:Fx) (u:Nat),vs=[.ref x,.int (f.s:Nat),.int (u:Nat)]∧f.Ok∧u≤f.s∧IsTab CT f H x∧∀ gm t H',Rl t→Same H H'→GamH CT CG f t H' gm x→Q (.ref gm) H'
abbrev De:List Str:=["_law_table_here","_law_suits","_law_trump"]
theorem Zoa:FnScope De De (Zm Zhv):=Uw (by decide +kernel)
theorem Zmc{k:Nat}{CT CG fG:Addr}{dG:FuncData}(F:Fun K "_law_game" "_law_game" Zhv f fd)(CGm:GamC K mg CG)
  (MkG:Mk K CG fG) (FG:FnOk P w K mg base Yq k fG dG ["self","table","trump"] (Znh CG)) (BG0:Binds K dG ["self","table","trump"] []) (BG1:Binds K dG ["self","table","trump"] [.none]) :
  FnOk P w K mg base Yq (k+2) f fd De (Za1 CT CG):=by
 refine F.ok Zoa (fun vs H Q E h=>?_) (fun cdv A outer s H vs Q E hr h=>?_)
 ·obtain⟨x,fx,u,rfl,_⟩:=h
  rfl
 obtain⟨x,fx,u,rfl,ok,us,hx,q⟩:=h;obtain⟨dx,po,to,x1,x2,x3⟩:=id hx;refine⟨_,Zi (Yd (Jm X7 (pv 2) (pv 1) (Jl _)) (Zn (Z9 (E6 MkG FG hr rfl CGm.mG BG1 (show Vals [V.non] [Value.none] from .cons rfl .nil) Jb (Za (pv 0) Zf)))) Jn)
  (Zn (Z9 (E6 MkG FG hr rfl CGm.mG BG0 .nil Jb (Za (pv 0) (Za (pv 2) Zf))))),?_⟩
 refine⟨_,rfl,_,rfl,rfl,_,rfl,?_⟩;by_cases e:u=fx.s
 ·refine X1 (nat_dec.trans (Zc e)) (Yt ⟨_,rfl,?_⟩)
  intro gm dg hgm hdg ng;refine⟨gm,dg,x,.non,rfl,Zq,rfl,?_⟩;rw[U3];have sg:=Uq (o:=.ins CG dg (M4 x .non)) hgm hdg ng;exact q gm none _ (fun u e=>nomatch e) sg ⟨ok,⟨dg,Zq⟩,⟨dx,po,to,sg _ _ x1,sg _ _ x2,sg _ _ x3⟩⟩
 ·refine X1 (nat_dec.trans (Zd e)) (J3 (Xn ⟨_,rfl,_,rfl,?_⟩))
  intro gm dg hgm hdg ng;refine⟨gm,dg,x,Rz (some u),rfl,Zq,rfl,?_⟩;rw[U3];have sg:=Uq (o:=.ins CG dg (M4 x (Rz (some u)))) hgm hdg ng;exact q gm (some u) _ (fun v z=>by cases z;have:=ok.s4;omega) sg ⟨ok,⟨dg,Zq⟩,⟨dx,po,to,sg _ _ x1,sg _ _ x2,sg _ _ x3⟩⟩
def Oq(K:W.Frag)(CT CG:Addr):Sp:=fun vs H Q _=>∃(a:Addr) (ns:List Int),vs=[.ref a]∧SqL K H a (ns.map V.int)∧∀ l g1 g2 x f t1 t2 H',Same H H'→Rl t1→Rl t2→H' l=some (.lst [.ref g1,.ref g2,.ref g1])→GamH CT CG f t1 H' g1 x→GamH CT CG f t2 H' g2 x→Q (.ref l) H'
abbrev Zph:List Str:=["_law_script","_law_facts","_law_table_here","_law_trump","_law_other","_law_first"]
theorem scGames:FnScope Zph ["_law_script"] (Zm Zbh):=Uw (by decide +kernel)
theorem Zje{k:Nat}{CT CG fI f1 f2 f3 f4:Addr}{dI d1 d2 d3 d4:FuncData}(F:Fun K "_law_games" "_law_games" Zbh f fd)(C:TabC K mg CT)(LB:Lib P w K mg base (k+1) "_law_table" ["_law_script"] (Of K) f2 d2)(LC:Lib P w K mg base (k+1) "_law_cell" Bi (Ni K) f3 d3)(LT:Lib P w K mg base (k+1) "_law_text" ["_law_facts"] (Zau K) f1 d1)(LG:Lib P w K mg base (k+1) "_law_game" De (Za1 CT CG) f4 d4)(MkT:Mk K CT fI)(FI:FnOk P w K mg base Yq k fI dI ["self","text"] (Znf CT))(BI:Binds K dI ["self","text"] []) :
  FnOk P w K mg base Yq (k+2) f fd ["_law_script"] (Oq K CT CG):=by
 refine F.ok scGames (fun vs H Q E h=>?_) (fun cdv A outer s H vs Q E hr h=>?_)
 ·obtain⟨a,ns,rfl,_⟩:=h
  rfl
 obtain⟨a,ns,rfl,hS,q⟩:=h;refine⟨_,Zi (Jf (i:=1) scGames.nd rfl (Or.inl rfl) (Z0 LB.ok hr rfl LB.mg LB.kp LB.bd .nil Jb (Za (pv 0) Zf)))
  (Zi (Jf (i:=2) scGames.nd rfl (Or.inl rfl) (E6 MkT FI hr rfl C.mT BI .nil Jb (Za (Z0 LT.ok hr rfl LT.mg LT.kp LT.bd .nil Jb (Za (pv 1) Zf)) Zf)))
  (Zi (Jf (i:=3) scGames.nd rfl (Or.inl rfl) (Jj Ul (Z0 LC.ok hr rfl LC.mg LC.kp LC.bd .nil Jb (Za (pv 0) (Za Zo Zf))) (Jj Y8 (Jr Y7 (pv 1) Zo (fun _ _=>rfl)) Zo)))
  (Zi (Jf (i:=4) scGames.nd rfl (Or.inl rfl) (Jj Ul (Jj Y8 (Jj Y8 (pv 3) Zo) (Jj Ul (Z0 LC.ok hr rfl LC.mg LC.kp LC.bd .nil Jb (Za (pv 0) (Za Zo Zf))) (Jr Y7 (pv 1) Zo (fun _ _=>rfl)))) (Jj Y8 (Jr Y7 (pv 1) Zo (fun _ _=>rfl)) Zo)))
  (Zi (Jf (i:=5) scGames.nd rfl (Or.inl rfl) (Z0 LG.ok hr rfl LG.mg LG.kp LG.bd .nil Jb (Za (pv 2) (Za (Jr Y7 (pv 1) Zo (fun _ _=>rfl)) (Za (pv 3) Zf)))))
  (Zn (Z9 (Qf (Za (pv 5) (Za (Z0 LG.ok hr rfl LG.mg LG.kp LG.bd .nil Jb (Za (pv 2) (Za (Jr Y7 (pv 1) Zo (fun _ _=>rfl)) (Za (pv 4) Zf)))) (Za (pv 5) Zf)))))))))),?_⟩
 refine⟨_,rfl,a,ns,rfl,hS,fun l fx H0 ok s0 hl0 hF=>Zdn ?_⟩;obtain⟨pl,tr,hL,hP,hT⟩:=id hF;have s1:=ok.s1;refine X6 (fun v H1=>Same H0 H1∧∃ x,v = .ref x∧IsTab CT fx H1 x) (fun R hR=>?_) (fun v H1 z=>?_)
 ·refine⟨_,rfl,l,fx,rfl,ok,hF,fun H1 s1=>?_⟩
  intro x dx hx hdx nx;refine⟨x,dx,fx,rfl,ok,Zq,fun po to H3 kp hx3 hpo hto=>⟨rfl,hR _ _ ⟨s1.trans (Zfs hx hdx nx kp),x,rfl,dx,po,to,hx3,hpo,hto⟩⟩⟩
 obtain⟨sx,x,rfl,hX⟩:=z;have hL1:=sx _ _ hL;have at0:Xs [V.int (fx.s:Nat),V.int (fx.h:Nat),V.int (fx.n:Nat),V.str (wd fx.d),V.ref pl,V.ref tr] 0=some (V.int (fx.s:Nat)):=rfl;have dv:∀ z:Int,∃ u:Nat,u≤fx.s∧z % (((fx.s:Nat):Int)+1)=((u:Nat):Int):=fun z=>by
  have h0:=Yo z (show((fx.s:Nat)+1:Int)≠0 by omega);have h1:=Yl z (show(0:Int) < ((fx.s:Nat)+1:Int) by omega);exact⟨(z % (((fx.s:Nat):Int)+1)).toNat,by omega,by omega⟩
 have s01:=s0.trans sx;refine X6 (fun v H'=>H1=H'∧∃ u:Nat,v = .int ((u:Nat):Int)∧u≤fx.s) (fun R hR=>?_) (fun v H' z=>?_)
 ·refine⟨_,rfl,a,ns,1,rfl,s01.seq hS,by decide,fun c=>⟨_,rfl,l,_,_,_,rfl,rfl,SqL.of hL1,at0,_,_,rfl,rfl,_,_,rfl,rfl,(show(0:Int) < ((fx.s:Nat):Int)+1 by omega),?_⟩⟩
  obtain⟨u,ul,eu⟩:=dv c;exact hR _ _ ⟨rfl,u,congrArg V.int eu,ul⟩
 obtain⟨rfl,u,rfl,ul⟩:=z;refine X6 (fun v H'=>H1=H'∧∃ u:Nat,v = .int ((u:Nat):Int)∧u≤fx.s) (fun R hR=>?_) (fun v H' z=>?_)
 ·refine⟨_,rfl,_,_,rfl,rfl,_,rfl,a,ns,29,rfl,s01.seq hS,by decide,fun c=>⟨_,rfl,l,_,_,_,rfl,rfl,SqL.of hL1,at0,_,_,rfl,rfl,(show(0:Int) < ((fx.s:Nat):Int) by omega),_,_,rfl,rfl,_,rfl,l,_,_,_,rfl,rfl,SqL.of hL1,at0,_,_,rfl,rfl,_,_,rfl,rfl,(show(0:Int) < ((fx.s:Nat):Int)+1 by omega),?_⟩⟩
  obtain⟨w,wl,ew⟩:=dv (((u:Nat):Int)+1+c % ((fx.s:Nat):Int));exact hR _ _ ⟨rfl,w,congrArg V.int ew,wl⟩
 obtain⟨rfl,w,rfl,wl⟩:=z;refine X6 (fun v H2=>Same H1 H2∧∃ g1 t1,v = .ref g1∧Rl t1∧GamH CT CG fx t1 H2 g1 x) (fun R hR=>⟨_,rfl,_,rfl,l,_,_,_,rfl,rfl,SqL.of hL1,at0,_,rfl,x,fx,u,rfl,ok,ul,hX,fun gm t H2 tb s2 G=>hR _ _ ⟨s2,gm,t,rfl,tb,G⟩⟩) (fun v H2 z=>?_);obtain⟨s2,g1,t1,rfl,tb1,G1⟩:=z;refine⟨_,rfl,_,rfl,_,rfl,l,_,_,_,rfl,rfl,SqL.of (s2 _ _ hL1),at0,_,rfl,x,fx,w,rfl,ok,wl,hX.same s2,fun g2 t2 H3 tb2 s3 G2=>⟨_,rfl,Yf 3 (by decide),fun ll hll=>?_⟩⟩;have v4:=Je hll (.lst [.ref g1,.ref g2,.ref g1]);exact q ll g1 g2 x fx t1 t2 _ (((s01.trans s2).trans s3).trans v4) tb1 tb2 Zq ((G1.same s3).same v4) (G2.same v4)
end
end My
namespace L2
open PySem PySem.Spec PyProof.Rows
structure HKnd(P:Program)(w:World)(K:Type) [DecidableEq K] where
 knd:HeapKind P w K
 isH:Hp→K→Addr→Prop
 ok:∀{H:Hp} {h:Heap} {k:K} {p:Addr},HOk P w H h→isH H k p→knd.is h k p
 mono:∀{H H':Hp} {k:K} {p:Addr},isH H k p→(∀ b ys,H b=some (.tup ys)→H' b=some (.tup ys))→isH H' k p
 room:∀{A:Around},A.units+20 < cLine→knd.room A.in1
section
variable{K:Type} [DecidableEq K]
abbrev Xc(K:Type):=K×Addr×V
abbrev GRel{K:Type}:List (Xc K)→List (K×Addr×Value)→Prop:=Paired fun p q=>p.1=q.1∧p.2.1=q.2.1∧RelV p.2.2 q.2.2
variable{P:Program}{w:World}(T:HKnd P w K)
def GKeys(H:Hp)(es:List (Xc K)):Prop:=∀ e∈es,T.isH H e.1 e.2.1
def Up(a:Addr)(es:List (Xc K)):HO:=HO.ext fun h=>(a == sysModules)=false∧es.length≤sizeLine∧∃ xs,GRel es xs∧∃ o el ep,h.get? a=some o∧o.ExactDict∧o.data = .dict el ep∧el.toList=xs.map (entryOfKey T.knd)∧(xs.map (·.1)).Nodup
def Bu(es:List (Xc K))(k:K):Option V:=(es.find? fun e=>decide (e.1=k)).map (·.2.2)
def Nv(es:List (Xc K))(k:K)(b:Addr)(v:V):List (Xc K):=if(Bu es k).isSome then es.map (fun e=>if e.1=k then(e.1,e.2.1,v) else e) else es++[(k,b,v)]
theorem Es{e:Xc K}{es:List (Xc K)}{k:K}:Bu (e :: es) k=if e.1=k then some e.2.2 else Bu es k:=by
 unfold Bu;rw[List.find?_cons];by_cases c:e.1=k
 ·rw[Zc c,Zv c]
  rfl
 ·rw[Zd c,Zj c]
theorem S4{k j:K}{b:Addr}{v:V}:∀{es:List (Xc K)},Bu es k=none→Bu (es++[(k,b,v)]) j=if j=k then some v else Bu es j
 | [],_=>by
  rw[List.nil_append,Es];by_cases c:j=k
  ·rw[Zv c,Zv (show(k,b,v).1=j from c.symm)]
  ·rw[Zj c,Zj (show ¬ (k,b,v).1=j from fun e=>c e.symm)]
 | e :: es,h=>by
  rw[Es] at h;by_cases c:e.1=k
  ·rw[Zv c] at h;cases h
  ·rw[Zj c] at h
   rw[List.cons_append,Es,Es,S4 h];by_cases d:e.1=j
   ·rw[Zv d,Zv d,Zj (fun z=>c (d.trans z))]
   ·rw[Zj d,Zj d]
theorem Zd3{k j:K}{v:V}:∀{es:List (Xc K)},Bu (es.map fun e=>if e.1=k then(e.1,e.2.1,v) else e) j=(Bu es j).map fun x=>if j=k then v else x
 | []=>rfl
 | e :: es=>by
  rw[List.map_cons,Es,Es,Zd3];by_cases c:e.1=k
  ·rw[Zv c]
   by_cases d:e.1=j
   ·rw[Zv d,Zv d,Option.map_some,Zv (d.symm.trans c)]
   ·rw[Zj d,Zj d]
  ·rw[Zj c]
   by_cases d:e.1=j
   ·rw[Zv d,Zv d,Option.map_some,Zj (fun z=>c (d.trans z))]
   ·rw[Zj d,Zj d]
theorem Zd2{es:List (Xc K)}{k j:K}{b:Addr}{v:V}:Bu (Nv es k b v) j=if j=k then some v else Bu es j:=by
 unfold Nv;cases c:Bu es k with
 | none=>
  rw[Zj (by rw[Option.isSome_none];exact Zp)];exact S4 c
 | some x=>
  rw[Zv (by rfl),Zd3];by_cases d:j=k
  ·subst d
   rw[c,Zv rfl,Option.map_some,Zv rfl]
  ·rw[Zj d]
   cases Bu es j with
   | none=>rfl
   | some y=>rw[Option.map_some,Zj d]
theorem Dp{es:List (Xc K)}{k:K}{b:Addr}{v:V}{H:Hp}(h:GKeys T H es)(hk:T.isH H k b):GKeys T H (Nv es k b v):=by
 unfold Nv;intro e he;split at he
 ·obtain⟨x,hx,rfl⟩:=Zz.mp he
  by_cases c:x.1=k
  ·rw[Zv c]
   exact h x hx
  ·rw[Zj c]
   exact h x hx
 ·rcases J1.mp he with q | q
  ·exact h e q
  ·cases Jg.mp q
   exact hk
theorem Mh{es:List (Xc K)}{k:K}{b:Addr}{v:V}:(Nv es k b v).length≤es.length+1:=by
 unfold Nv;split
 ·rw[Zk]
  exact Nat.le_succ _
 ·rw[Jc]
  exact Zs _
theorem GKeys.mono{H H':Hp}{es:List (Xc K)}(h:GKeys T H es)(ht:∀ b ys,H b=some (.tup ys)→H' b=some (.tup ys)):GKeys T H' es:=fun e he=>T.mono (h e he) ht
theorem GRel.at{k:K}:∀{es:List (Xc K)} {xs:List (K×Addr×Value)},GRel es xs→RelO (Bu es k) ((atKey xs k).map (·.2))
 | _,_,.nil=>True.intro
 | e :: es,x :: xs,.cons ⟨h1,h2,h3⟩ r=>by
  have ih:=GRel.at (k:=k) r;unfold Bu atKey at *;rw[List.find?_cons,List.find?_cons,← h1];by_cases c:e.1=k
  ·rw[Zc c]
   exact h3
  ·rw[Zd c]
   exact ih
theorem GRel.repl{k:K}{v:V}{u:Value}(rv:RelV v u):∀{es:List (Xc K)} {xs:List (K×Addr×Value)},GRel es xs→GRel (es.map fun e=>if e.1=k then(e.1,e.2.1,v) else e) (xs.map (putAt k u))
 | _,_,.nil=>.nil
 | e :: es,x :: xs,.cons ⟨h1,h2,h3⟩ r=>by
  refine .cons ?_ (GRel.repl rv r);unfold putAt;dsimp only;by_cases c:e.1=k
  ·rw[Zv c,Zv (h1 ▸ c)]
   exact⟨h1,h2,rv⟩
  ·rw[Zj c,Zj (h1 ▸ c)]
   exact⟨h1,h2,h3⟩
theorem GRel.snoc{es:List (Xc K)}{xs:List (K×Addr×Value)}(r:GRel es xs){e:Xc K}{x:K×Addr×Value}(h:e.1=x.1∧e.2.1=x.2.1∧RelV e.2.2 x.2.2):GRel (es++[e]) (xs++[x]):=by
 induction r with
 | nil=>exact .cons h .nil
 | cons a _ ih=>exact .cons a ih
theorem GRel.put{es:List (Xc K)}{xs:List (K×Addr×Value)}(r:GRel es xs){k:K}{b:Addr}{v:V}{u:Value}(rv:RelV v u):GRel (Nv es k b v) (storedH xs k b u):=by
 have z:=(GRel.at (k:=k) r).isSome_eq;rw[Option.isSome_map] at z;unfold Nv storedH;rw[← z];cases (Bu es k).isSome with
 | true=>exact GRel.repl rv r
 | false=>exact GRel.snoc r ⟨rfl,rfl,rv⟩
end
section
variable{K:Type} [DecidableEq K]{P:Program}{w:World}{T:HKnd P w K}{H:Hp}{h:Heap}{a:Addr}
theorem Zd1{es:List (Xc K)}(ok:HOk P w H h)(e:H a=some (Up T a es))(ks:GKeys T H es):(a == sysModules)=false∧es.length≤sizeLine∧∃ xs,GRel es xs∧h.DictOfH T.knd a xs:=by
 obtain⟨⟨hd,hz,xs,r,o,el,ep,h1,h2,h3,h4,h5⟩,_⟩:=(show ObjOk P w H h a (Up T a es) from ok a _ e);refine⟨hd,hz,xs,r,o,el,ep,h1,h2,h3,h4,fun x hx=>?_,h5⟩;have all:∀{l:List (Xc K)} {m:List (K×Addr×Value)},GRel l m→(∀ e∈l,T.isH H e.1 e.2.1)→∀ x∈m,T.knd.is h x.1 x.2.1:=by
  intro l m q
  induction q with
  | nil=>intro _ x hx;exact nomatch hx
  | @cons p q ps qs hq t ih=>
   intro hk x hx;rcases Ja.mp hx with e | hx
   ·subst e
    have:=T.ok ok (hk p Zw);rw[hq.1,hq.2.1] at this;exact this
   ·exact ih (fun e he=>hk e (Zx _ he)) x hx
 exact all r ks x hx
theorem Zka{H':Hp}{h':Heap}{es:List (Xc K)}{xs:List (K×Addr×Value)}(hd:(a == sysModules)=false)(hz:es.length≤sizeLine)(r:GRel es xs)(dd:h'.DictOfH T.knd a xs):ObjOk P w H' h' a (Up T a es):=by
 obtain⟨o,el,ep,h1,h2,h3,h4,_,h5⟩:=dd;refine⟨⟨hd,hz,xs,r,o,el,ep,h1,h2,h3,h4,h5⟩,⟨o,h1⟩,fun h1 h2 z k=>?_⟩;obtain⟨hd,hz,xs,r,o,el,ep,h1,h2,h3,h4,h5⟩:=z;exact⟨hd,hz,xs,r,o,el,ep,k _ h1,h2,h3,h4,h5⟩
end
section
variable{K:Type} [DecidableEq K]{X:Cx}{o i value e f:Expr}{td ty tv tx:TE}{pos pos' apos cpos:Pos}(T:HKnd X.prog X.w K)
theorem Am:PE X (.Dict [] [] pos) (fun _ H Q=>∀ p,H p=none→Q (.ref p) (upd H p (Up T p []))):=fun pins s σ H Q I h=>
 wpAny_Dict_empty ⟨.ref s.heap.objs.size,_,I.laid (a:=s.heap.objs.size) (o:=Up T s.heap.objs.size []) (t':=s.toks) (fun _ _ q=>Zh _ q) (Zs _)
  (Zka (xs:=[]) (beq_eq_false_iff_ne.mpr (Ne.symm (Jh I.big))) (Nat.zero_le _) .nil ⟨_,#[],0,Z6 _ rfl,⟨rfl,rfl,rfl⟩,rfl,rfl,(fun x hx=>nomatch hx),List.nodup_nil⟩),rfl,h _ (I.hok.fresh (Zs _))⟩
theorem Zil(hu:X.A.units+20 < cLine)(hi:PE X i ty)(ho:PE X o td):PC X .In i o (fun σ H Q=>ty σ H fun y H1=>td σ H1 fun x H2=>∃ a es k b,x = .ref a∧H2 a=some (Up T a es)∧GKeys T H2 es∧y = .ref b∧T.isH H2 k b∧Q (.bl (Bu es k).isSome) H2):=by
 intro pins s σ H Q I h;refine Ub (hi pins s σ H _ I h) fun iv s1 ⟨y,H1,I1,ry,q1⟩=>Ub (ho pins s1 σ H1 _ I1 q1) fun u s2 ⟨x,H2,I2,rx,a,es,k,b,ex,e,ks,ey,eb,q2⟩=>?_;subst ex ey;obtain rfl:u=Value.ref a:=rx;obtain rfl:iv=Value.ref b:=ry;obtain⟨hd,hz,xs,r,dd⟩:=Zd1 I2.hok e ks;refine wpAny_in_heap (knd:=T.knd) (T.room hu) (T.ok I2.hok eb) hd dd ?_;have z:=(GRel.at (k:=k) r).isSome_eq;rw[Option.isSome_map] at z;rw[← z];exact⟨.bl (Bu es k).isSome,H2,I2.tok _,rfl,q2⟩
theorem Tv(hu:X.A.units+20 < cLine)(ho:PE X o td)(he:PE X e ty)(hf:PE X f tx)(m:M2 X o "get" apos e f cpos):PE X (.Call (.Attribute o "get" apos) [e,f] [] cpos)
  (fun σ H Q=>td σ H fun x H1=>∃ a es0,x = .ref a∧H1 a=some (Up T a es0)∧GKeys T H1 es0∧ty σ H1 fun y H2=>tx σ H2 fun z H3=>∃ es k b,H3 a=some (Up T a es)∧GKeys T H3 es∧y = .ref b∧T.isH H3 k b∧Q ((Bu es k).getD z) H3):=by
 intro pins s σ H Q I h;refine wpAny_Call_method m.base m.few m.line PySem.F.plainAttrs_dict PySem.F.slot_dict_get PySem.F.type_dict_get (Ub (ho pins s σ H _ I h) fun u s1 ⟨x,H1,I1,rx,a,es0,ex,d,ks0,q1⟩=>?_);subst ex;obtain rfl:u=Value.ref a:=rx;obtain⟨_,_,xs0,_,dd0⟩:=Zd1 I1.hok d ks0;refine⟨dd0.typeIs,fun b q=>by cases q;obtain⟨ob,_,_,h1,h2,_⟩:=dd0;exact⟨ob,h1,h2.2.1⟩,?_⟩;rw[m.trees];refine Calls.callWith_builtin rfl (Calls.evalArgs_plain (Calls.spliced_cons (Ub (he pins s1 σ H1 _ I1 q1) fun iv s2 ⟨y,H2,I2,ry,q2⟩=>
  Calls.spliced_cons (Ub (hf pins s2 σ H2 _ I2 q2) fun fv s3 ⟨z,H3,I3,rz,es,k,b,e3,ks,ey,eb,q3⟩=>Calls.spliced_nil ?_))))
 subst ey;obtain rfl:iv=Value.ref b:=ry;obtain⟨hd,hz,xs,r,dd⟩:=Zd1 I3.hok e3 ks;refine call_meetsIn PySem.F.slot_dict_get dd.typeIs PySem.F.entry_dict_get (PySem.F.args_dict_get_3 _ _ _) (meetsH_dict_get_default T.knd a b hd fv) ⟨T.room hu,k,xs,T.ok I3.hok eb,dd,_,H3,I3.tok _,?_,q3⟩;exact(GRel.at (k:=k) r).getD rz
theorem Gk(hu:X.A.units+20 < cLine)(ho:PE X o td)(hi:PE X i ty)(hv:PE X value tv)(hs:swapsWith value (some (.Subscript o i pos')) pos.line X.env=pure false) :
  PS X (.Assign [.Subscript o i pos'] value pos) (fun D σ H=>tv σ H fun v H1=>td σ H1 fun x H2=>ty σ H2 fun y H3=>∃ a es k b,x = .ref a∧H3 a=some (Up T a es)∧GKeys T H3 es∧y = .ref b∧T.isH H3 k b∧es.length < sizeLine∧D.nx σ (upd H3 a (Up T a (Nv es k b v)))):=by
 intro pins s σ H D I h;refine wpAny_Assign_Subscript (Ub (hv pins s σ H _ I h) fun r s1 ⟨v,H1,I1,rv,q1⟩=>Ub (ho pins s1 σ H1 _ I1 q1) fun u s2 ⟨x,H2,I2,rx,q2⟩=>Ub (hi pins s2 σ H2 _ I2 q2) fun iv s3 ⟨y,H3,I3,ry,a,es,k,b,ex,e,ks,ey,eb,hl,q3⟩=>?_) hs;subst ex ey;obtain rfl:u=Value.ref a:=rx;obtain rfl:iv=Value.ref b:=ry;obtain⟨hd,hz,xs,rl,dd⟩:=Zd1 I3.hok e ks;have hz2:xs.length≤sizeLine:=by rw[← Paired.length rl];exact hz
 refine wpAny_setItem_heap (knd:=T.knd) (hsz:=hz2) (T.room hu) (T.ok I3.hok eb) dd fun h' dd' hs=>⟨σ,_,?_,q3⟩;obtain⟨q,el,ep,hq,_⟩:=id dd';exact A0 I3 (by rw[e];exact True.intro) hs ⟨q,hq⟩ (Zka hd (Jd Mh hl) (GRel.put rl rv) dd')
end
def Nl(P:Program)(w:World):HKnd P w Uj where
 knd:=X2 P w
 isH:=PlKey
 ok:=fun ok e=>El ok e
 mono:=fun h ht=>h.mono ht
 room:=fun {A} hu=>show A.units+1+9 < cLine by omega
end L2
namespace My
open PySem L2
abbrev Ti:Stmt:=top 40
abbrev N8:Stmt:=top 41
abbrev Tk:Stmt:=top 42
abbrev Zbi:Stmt:=top 43
section
variable{P:Program}{w:World}{K:W.Frag}{mg:Str→Option Value}{base:Heap}{f g:Addr}{fd gd:FuncData}
def Ek(K:W.Frag):Sp:=fun vs H Q _=>∃ i:Int,vs=[.int i]∧Q (.bl true) H
theorem Zeu:FnScope ["thing"] ["thing"] (Zm Ti):=Uw (by decide +kernel)
theorem Zbu{k:Nat}(F:Fun K "is_whole" "is_whole" Ti f fd)(mi:mg "isinstance" = none)(mI:mg "int" = none)(mB:mg "bool" = none):FnOk P w K mg base Yq (k+1) f fd ["thing"] (Ek K):=by
 refine F.ok Zeu (fun vs H Q E h=>?_) (fun cdv A outer s H vs Q E hr h=>?_)
 ·obtain⟨h,rfl,_⟩:=h
  rfl
 obtain⟨i,rfl,q⟩:=h;refine⟨_,Zn (Z9 (Xd (Jk Uz rfl mi Z5 (Za (pv 0) (Za (Xa (v:=.ty "int") rfl mI Qb rfl) Zf)))
  (U8 (Zbp (Jk Uz rfl mi Z5 (Za (pv 0) (Za (Xa (v:=.ty "bool") rfl mB PyProof.Rows.boot_bool rfl) Zf))))))),?_⟩
 refine⟨_,rfl,_,_,_,true,rfl,.int i,rfl,true,rfl,Yt ?_⟩;exact⟨_,rfl,_,_,_,false,rfl,.int i,by with_unfolding_all rfl,false,rfl,q⟩
def Bn:Sp:=fun vs H Q _=>∃(p:Addr) (xs:List Nat),vs=[.ref p]∧H p=some (.tup (vN xs))∧xs.length≤100∧∀ H',Same H H'→Q (.bl true) H'
theorem Za6:FnScope ["things"] ["things"] (Zm N8):=Uw (by decide +kernel)
theorem Se{k:Nat}{f1:Addr}{d1:FuncData}(F:Fun K "are_from_zero_on" "are_from_zero_on" N8 f fd)(LW:Lib P w K mg base k "is_whole" ["thing"] (Ek K) f1 d1)(mi:mg "isinstance" = none)(mT:mg "tuple" = none)(mA:mg "all" = none):FnOk P w K mg base Yq (k+1) f fd ["things"] Bn:=by
 refine F.ok Za6 (fun vs H Q E h=>?_) (fun cdv A outer s H vs Q E hr h=>?_)
 ·obtain⟨p,xs,rfl,_⟩:=h
  rfl
 obtain⟨p,xs,rfl,hp,l100,q⟩:=h;refine⟨_,Zn (Z9 (Xd (Jk Uz rfl mi Z5 (Za (pv 0) (Za (Xa (v:=.ty "tuple") rfl mT Jv rfl) Zf)))
  (U8 (Jk (Bh rfl) rfl mA PyProof.Rows.boot_all (Za (Ug ["thing"] [none] rfl (Blk.by (sc:=Zm N8) (N0:=["things"]) rfl rfl (by decide +kernel)) (V9 (pv 0)) (fun C s₀ H₀ ex=>Jp (i:=0) (show(["thing"]:List Str).Nodup by decide +kernel) rfl (Or.inl rfl)) (fun C s₀ H₀ ex=>U4)
   (fun C s₀ H₀ ex=>Xd (Z0 LW.ok hr rfl LW.mg LW.kp LW.bd .nil Jb (Za (pv 0) Zf)) (U8 (Y0 T3 (pv 0) Zo (Jl _))))) Zf))))),?_⟩
 refine⟨_,rfl,_,_,_,true,rfl,.tup hp,rfl,true,rfl,Yt ?_⟩;refine⟨_,rfl,p,rfl,⟨_,SqT.of hp⟩,Nw (K:=K) (xs:=vN xs) (fun _=>true) (fun _=>.bl true) (SqT.of hp) (Yf _ (by rw[Yh];omega)) (fun y H3 hy sm R hR=>hR H3 (Same.refl H3)) (fun y H3 hy hp sm R hR=>?_) (fun lq H4 s4 hlq hL4=>?_)⟩
 ·obtain⟨x,hx,rfl⟩:=Zz.mp hy
  refine⟨_,rfl,_,rfl,true,rfl,Yt ⟨_,rfl,_,_,rfl,rfl,?_⟩⟩;have z:=hR H3 (Same.refl H3);have e:decide ((0:Int)≤((x:Nat):Int))=true:=Zc (Int.natCast_nonneg x);show R (V.bl (decide ((0:Int)≤((x:Nat):Int)))) H3;rw[e];exact z
 ·have eb:((vN xs).filter fun _=>true).map (fun _=>V.bl true)=(xs.map fun _=>true).map V.bl:=by
   rw[List.filter_eq_self.mpr fun _ _=>rfl];unfold vN;rw[Z7,Z7];rfl
  rw[eb] at hL4;have ea:(xs.map fun _=>true).all id=true:=by
   rw[List.all_map];exact Ym.mpr fun _ _=>rfl
  refine⟨lq,_,rfl,SqL.of hL4,?_⟩;rw[ea];exact q H4 s4
def V2:Sp:=fun vs H Q _=>∃(p:Addr) (hs:List Nat) (lead:Nat) (ys:List Nat),vs=[.ref p]∧IsPl H p hs lead ys∧hs.length≤100∧ys.length≤100∧∀ H',Same H H'→Q (.bl true) H'
theorem Zew:FnScope ["thing"] ["thing"] (Zm Tk):=Uw (by decide +kernel)
theorem Zby{k:Nat}{f1 f2:Addr}{d1 d2:FuncData}(F:Fun K "is_formed_place" "is_formed_place" Tk f fd)(LW:Lib P w K mg base k "is_whole" ["thing"] (Ek K) f1 d1)(LZ:Lib P w K mg base k "are_from_zero_on" ["things"] Bn f2 d2)(mi:mg "isinstance" = none)(mT:mg "tuple" = none)(ml:mg "len" = none):FnOk P w K mg base Yq (k+1) f fd ["thing"] V2:=by
 refine F.ok Zew (fun vs H Q E h=>?_) (fun cdv A outer s H vs Q E hr h=>?_)
 ·obtain⟨p,hs,lead,ys,rfl,_⟩:=h
  rfl
 obtain⟨p,hs,lead,ys,rfl,⟨hp,tp,h1,h2,h3⟩,lh,ly,q⟩:=h;refine⟨_,Zi (Yd (PW.pt (U2 (Uc (Jy (Jk Uz rfl mi Z5 (Za (pv 0) (Za (Xa (v:=.ty "tuple") rfl mT Jv rfl) Zf))) (fun _=>rfl))) (U7 (Jm No (Jk Ya rfl ml Ju (Za (pv 0) Zf)) Zo (Jl _))))) (Zn (Z9 Ue)) Jn)
  (Zn (Z9 (Xd (Z0 LZ.ok hr rfl LZ.mg LZ.kp LZ.bd .nil Jb (Za (Jr Js (pv 0) Zo (fun _ _=>rfl)) Zf)) (Xd (Z0 LW.ok hr rfl LW.mg LW.kp LW.bd .nil Jb (Za (Jr Js (pv 0) Zo (fun _ _=>rfl)) Zf)) (U8 (Z0 LZ.ok hr rfl LZ.mg LZ.kp LZ.bd .nil Jb (Za (Jr Js (pv 0) Zo (fun _ _=>rfl)) Zf))))))),?_⟩
 refine⟨_,rfl,_,_,_,true,rfl,.tup h1,rfl,_,rfl,J3 ?_⟩;refine⟨_,rfl,p,_,rfl,.inr (SqT.of h1),rfl,_,rfl,J3 ?_⟩;refine⟨_,rfl,p,_,_,_,rfl,rfl,SqT.of h1,(rfl:Xs [V.ref hp,V.int (lead:Nat),V.ref tp] 0=some (V.ref hp)),hp,hs,rfl,h2,lh,fun H1 s1=>⟨true,rfl,Yt ?_⟩⟩;refine⟨_,rfl,p,_,_,_,rfl,rfl,SqT.of (s1 _ _ h1),(rfl:Xs [V.ref hp,V.int (lead:Nat),V.ref tp] 1=some (V.int (lead:Nat))),_,rfl,true,rfl,Yt ?_⟩;exact⟨_,rfl,p,_,_,_,rfl,rfl,SqT.of (s1 _ _ h1),(rfl:Xs [V.ref hp,V.int (lead:Nat),V.ref tp] 2=some (V.ref tp)),tp,ys,rfl,s1 _ _ h3,ly,fun H2 s2=>q H2 (s1.trans s2)⟩
def Nc:Option Int→V
 | none=>.non
 | some c=>.int c
structure Rw where
 hs:List Nat
 lead:Nat
 ys:List Nat
 nd:Int
 cd:Option Int
def Rw.k(r:Rw):Uj:=Qd r.hs r.lead r.ys
structure Rw.Fm(r:Rw):Prop where
 lh:r.hs.length≤100
 ly:r.ys.length≤100
def IsRw(H:Hp)(r:Rw)(a:Addr):Prop:=∃ p,H a=some (.tup [.ref p,.int r.nd,Nc r.cd])∧IsPl H p r.hs r.lead r.ys
theorem IsRw.same{H H':Hp}{r:Rw}{a:Addr}(h:IsRw H r a)(s:Same H H'):IsRw H' r a:=by
 obtain⟨p,h1,h2⟩:=h;exact⟨p,s _ _ h1,h2.same s⟩
def Ge:Sp:=fun vs H Q _=>∃(a:Addr) (r:Rw),vs=[.ref a]∧IsRw H r a∧r.Fm∧∀ H',Same H H'→Q (.bl true) H'
theorem Zlb:FnScope ["thing"] ["thing"] (Zm Zbi):=Uw (by decide +kernel)
theorem Zjf{k:Nat}{f1 f2:Addr}{d1 d2:FuncData}(F:Fun K "is_formed_row" "is_formed_row" Zbi f fd)(LW:Lib P w K mg base k "is_whole" ["thing"] (Ek K) f1 d1)(LP:Lib P w K mg base k "is_formed_place" ["thing"] V2 f2 d2)(mi:mg "isinstance" = none)(mT:mg "tuple" = none)(ml:mg "len" = none):FnOk P w K mg base Yq (k+1) f fd ["thing"] Ge:=by
 refine F.ok Zlb (fun vs H Q E h=>?_) (fun cdv A outer s H vs Q E hr h=>?_)
 ·obtain⟨a,r,rfl,_⟩:=h
  rfl
 obtain⟨a,r,rfl,⟨p,h1,h2⟩,fm,q⟩:=h;refine⟨_,Zi (Yd (PW.pt (U2 (Uc (Jy (Jk Uz rfl mi Z5 (Za (pv 0) (Za (Xa (v:=.ty "tuple") rfl mT Jv rfl) Zf))) (fun _=>rfl))) (U7 (Jm No (Jk Ya rfl ml Ju (Za (pv 0) Zf)) Zo (Jl _))))) (Zn (Z9 Ue)) Jn)
  (Zn (Z9 (Xd (Z0 LP.ok hr rfl LP.mg LP.kp LP.bd .nil Jb (Za (Jr Js (pv 0) Zo (fun _ _=>rfl)) Zf)) (Xd (Z0 LW.ok hr rfl LW.mg LW.kp LW.bd .nil Jb (Za (Jr Js (pv 0) Zo (fun _ _=>rfl)) Zf)) (U8 (Zdi (Y0 T2 (Jr Js (pv 0) Zo (fun _ _=>rfl)) Qe (Jl _)) (U8 (Z0 LW.ok hr rfl LW.mg LW.kp LW.bd .nil Jb (Za (Jr Js (pv 0) Zo (fun _ _=>rfl)) Zf))))))))),?_⟩
 refine⟨_,rfl,_,_,_,true,rfl,.tup h1,rfl,_,rfl,J3 ?_⟩;refine⟨_,rfl,a,_,rfl,.inr (SqT.of h1),rfl,_,rfl,J3 ?_⟩;refine⟨_,rfl,a,_,_,_,rfl,rfl,SqT.of h1,(rfl:Xs [V.ref p,V.int r.nd,Nc r.cd] 0=some (V.ref p)),p,r.hs,r.lead,r.ys,rfl,h2,fm.lh,fm.ly,fun H1 s1=>⟨true,rfl,Yt ?_⟩⟩;refine⟨_,rfl,a,_,_,_,rfl,rfl,SqT.of (s1 _ _ h1),(rfl:Xs [V.ref p,V.int r.nd,Nc r.cd] 1=some (V.int r.nd)),_,rfl,true,rfl,Yt ?_⟩;refine⟨_,rfl,a,_,_,_,rfl,rfl,SqT.of (s1 _ _ h1),(rfl:Xs [V.ref p,V.int r.nd,Nc r.cd] 2=some (Nc r.cd)),?_⟩;cases hc:r.cd with
 | none=>exact⟨rfl,true,rfl,Yt (q H1 s1)⟩
 | some c=>
  rw[hc] at h1;exact⟨rfl,false,rfl,J3 ⟨_,rfl,a,_,_,_,rfl,rfl,SqT.of (s1 _ _ h1),(rfl:Xs [V.ref p,V.int r.nd,Nc (some c)] 2=some (V.int c)),c,rfl,q H1 s1⟩⟩
abbrev Zbb:Stmt:=top 44
abbrev Ag:Stmt:=top 45
abbrev Vb:Stmt:=top 46
abbrev Zbg:Stmt:=top 47
def Bb(rs:List Rw)(k:Uj):Int:=rs.foldl (fun a r=>if r.k=k then max r.nd a else a) 0
theorem Zjl(rs:List Rw)(r:Rw)(k:Uj):Bb (rs++[r]) k=if r.k=k then max r.nd (Bb rs k) else Bb rs k:=by
 unfold Bb;rw[List.foldl_append];rfl
def R0(as:List (Rw×Addr)):List V:=as.map fun e=>.ref e.2
def RwsH(H:Hp)(as:List (Rw×Addr)):Prop:=∀ e∈as,IsRw H e.1 e.2∧e.1.Fm
theorem RwsH.same{H H':Hp}{as:List (Rw×Addr)}(h:RwsH H as)(s:Same H H'):RwsH H' as:=fun e he=>⟨(h e he).1.same s,(h e he).2⟩
structure NdD(P:Program)(w:World)(H:Hp)(d:Addr)(nd:Uj→Int)(n:Nat):Prop where
 o:∃ es,H d=some (Up (Nl P w) d es)∧GKeys (Nl P w) H es∧es.length≤n∧∀ k,(Bu es k).getD (.int 0) = .int (nd k)
theorem NdD.same{H H':Hp}{d:Addr}{nd:Uj→Int}{n:Nat}(h:NdD P w H d nd n)(s:Same H H'):NdD P w H' d nd n:=by
 obtain⟨es,h1,h2,h3,h4⟩:=h.o;exact⟨es,s _ _ h1,h2.mono _ (fun b ys e=>s _ _ e),h3,h4⟩
theorem Zsy(i j:Int):(if j > i then j else i)=max i j:=by
 rw[Int.max_def];split<;>split<;>omega
def Om(P:Program)(w:World):Sp:=fun vs H Q _=>∃(l:Addr) (as:List (Rw×Addr)),vs=[.ref l]∧H l=some (.lst (R0 as))∧RwsH H as∧as.length < sizeLine ∧
 ∀ d H',Same H H'→NdD P w H' d (Bb (as.map (·.1))) as.length→Q (.ref d) H'
abbrev Zpf:List Str:=["paper","needs","row"]
theorem scNeeds:FnScope Zpf ["paper"] (Zm Zbb):=Uw (by decide +kernel)
theorem Zi5{k:Nat}{f1:Addr}{d1:FuncData}(F:Fun K "greatest_needs" "greatest_needs" Zbb f fd)(LF:Lib P w K mg base k "is_formed_row" ["thing"] Ge f1 d1)(mM:mg "max" = none):FnOk P w K mg base Yq (k+1) f fd ["paper"] (Om P w):=by
 refine F.ok scNeeds (fun vs H Q E h=>?_) (fun cdv A outer s H vs Q E hr h=>?_)
 ·obtain⟨l,as,rfl,_⟩:=h
  rfl
 obtain⟨l,as,rfl,hl,hR,hn,q⟩:=h;have hu:=Jx (Nat.add_le_add_left (by decide:20≤64) _) hr.units;refine⟨_,Zi (Jf (i:=1) scNeeds.nd rfl (Or.inl rfl) (Am (Nl P w)))
  (Zi (Ux PassesOwn.never rfl (Y4 (pv 0)) (Jp (i:=2) scNeeds.nd rfl (Or.inl rfl))
   (Zn (Yd (Jy (Z0 LF.ok hr rfl LF.mg LF.kp LF.bd .nil Jb (Za (pv 2) Zf)) (fun _=>rfl))
    (Zn (Gk (Nl P w) hu (pv 1) (Jr Js (pv 2) Zo (fun _ _=>rfl)) (Jk (Zge rfl) rfl mM PyProof.Rows.boot_max (Za (Jr Js (pv 2) Zo (fun _ _=>rfl)) (Za (Tv (Nl P w) hu (pv 1) (Jr Js (pv 2) Zo (fun _ _=>rfl)) Zo ⟨rfl,rfl,rfl,rfl⟩) Zf))) rfl)) Jn)))
  (Zn (Z9 (pv 1)))),?_⟩
 refine fun d hd=>?_;have s1:=Je hd (Up (Nl P w) d []);refine⟨_,rfl,l,rfl,⟨_,SqL.of (s1 _ _ hl)⟩,Xg (xs:=R0 as) (fun i σ H2=>Same H H2∧NdD P w H2 d (Bb ((as.map (·.1)).take i)) i∧∃ x,σ=[some (.ref l),some (.ref d),x]) ⟨s1,⟨[],Zq,(fun e he=>nomatch he),Zs _,fun k=>rfl⟩,none,rfl⟩ (fun i σ H2 _ z=>SqL.of (z.1 _ _ hl)) (fun i x σ H2 hx z=>?_) (fun σ H2 z=>?_)⟩
 ·obtain⟨s2,⟨es,e1,e2,e3,e4⟩,x0,rfl⟩:=z
  obtain⟨⟨r,a⟩,hi,rfl⟩:∃ e,as[i]? = some e∧x = .ref e.2:=by
   unfold R0 at hx;rw[Z4] at hx;obtain⟨e,he,rfl⟩:=Jq.mp hx;exact⟨e,he,rfl⟩
  have il:i < as.length:=(Zu.mp hi).1;obtain⟨hr1,fm⟩:=(hR.same s2) _ (Zl hi);have tk:(as.map (·.1)).take (i+1)=(as.map (·.1)).take i++[r]:=by
   rw[U0,Z4,hi];rfl
  refine⟨_,rfl,a,r,rfl,hr1,fm,fun H3 s3=>⟨true,rfl,Yt ?_⟩⟩;obtain⟨p,h1,h2⟩:=hr1.same s3;have g3:=s3 _ _ e1;have k3:GKeys (Nl P w) H3 es:=e2.mono _ (fun b ys e=>s3 _ _ e);have kp:=U9 h2;refine⟨_,rfl,a,_,_,_,rfl,rfl,SqT.of h1,(rfl:Xs [V.ref p,V.int r.nd,Nc r.cd] 1=some (V.int r.nd)),?_⟩;refine⟨_,rfl,d,es,rfl,g3,k3,_,rfl,a,_,_,_,rfl,rfl,SqT.of h1,(rfl:Xs [V.ref p,V.int r.nd,Nc r.cd] 0=some (V.ref p)),es,r.k,p,g3,k3,rfl,kp,r.nd,Bb ((as.map (·.1)).take i) r.k,?_,?_⟩
  ·rw[e4]
  refine⟨_,rfl,_,rfl,a,_,_,_,rfl,rfl,SqT.of h1,(rfl:Xs [V.ref p,V.int r.nd,Nc r.cd] 0=some (V.ref p)),d,es,r.k,p,rfl,g3,k3,rfl,kp,by omega,?_⟩;have gt:∀ ys,Up (Nl P w) d es ≠ .tup ys:=fun ys e=>by cases e
  have tt:∀ b ys,H3 b=some (.tup ys)→upd H3 d (Up (Nl P w) d (Nv es r.k p (.int (if Bb ((as.map (·.1)).take i) r.k > r.nd then Bb ((as.map (·.1)).take i) r.k else r.nd)))) b=some (.tup ys):=fun b ys e=>by
   rw[Z8 (Bj e g3 gt)];exact e
  refine⟨fun b o e=>?_,⟨_,Zq,(Dp _ k3 kp).mono _ tt,by have:=Mh (es:=es) (k:=r.k) (b:=p) (v:=.int (if Bb ((as.map (·.1)).take i) r.k > r.nd then Bb ((as.map (·.1)).take i) r.k else r.nd));omega,fun j=>?_⟩,_,rfl⟩
  ·have nb:b≠d:=fun z=>by rw[z,hd] at e;cases e
   rw[Z8 nb];exact(s2.trans s3) _ _ e
  ·rw[Zd2,tk,Zjl]
   by_cases c:j=r.k
   ·rw[Zv c,Zv c.symm,Zsy,c]
    rfl
   ·rw[Zj c,Zj (fun z=>c z.symm)]
    exact e4 j
 ·obtain⟨s2,N,x,rfl⟩:=z
  refine⟨_,rfl,q d H2 s2 ?_⟩;have el:(R0 as).length=as.length:=Zk ..;rw[el,List.take_of_length_le (by rw[Zk];exact Zs _)] at N;exact N
noncomputable def covB (fx:Fx) (t:Option Nat) (side:Nat) (nd:Uj→Int) (hs:List Nat) (lead:Nat) (ys:List Nat) (c:Nat) (need:Int):Bool:=
 decide (need - ((Qo side (nxF fx t hs lead ys (hs.getD ((lead+ys.length) % fx.n) 0) c).2.2.2:Nat):Int)≤nd (Qd (nxF fx t hs lead ys (hs.getD ((lead+ys.length) % fx.n) 0) c).1 (nxF fx t hs lead ys (hs.getD ((lead+ys.length) % fx.n) 0) c).2.1 (nxF fx t hs lead ys (hs.getD ((lead+ys.length) % fx.n) 0) c).2.2.1))
theorem A8{fx:Fx}{t:Option Nat}{side:Nat}{nd:Uj→Int}{hs:List Nat}{lead:Nat}{ys:List Nat}{m h c:Nat}{need:Int}{hs':List Nat}{lead':Nat}{ys':List Nat}{tk:Option Nat}(Pl:Plc fx hs lead ys m)(eh:hs[(lead+ys.length) % fx.n]? = some h)(hb:h.testBit c=true)(N:Nxt fx t hs lead ys h c hs' lead' ys' tk) :
  covB fx t side nd hs lead ys c need=decide (need - ((Qo side tk:Nat):Int)≤nd (Qd hs' lead' ys')):=by
 have eg:hs.getD ((lead+ys.length) % fx.n) 0=h:=by rw[Zr,eh];rfl
 unfold covB;rw[eg,T6 Pl eh hb N]
def Ta(P:Program)(w:World)(CT CG:Addr):Sp:=fun vs H Q _=>∃(gm x d p:Addr) (t:Option Nat) (fx:Fx) (side:Nat) (nd:Uj→Int) (n:Nat) (hs ys:List Nat) (lead m h c:Nat) (need:Int),vs=[.ref gm,.int (side:Nat),.ref d,.ref p,.int (c:Nat),.int need]∧GamH CT CG fx t H gm x∧NdD P w H d nd n∧(∀ k,0≤nd k)∧IsPl H p hs lead ys∧Plc fx hs lead ys m∧hs[(lead+ys.length) % fx.n]? = some h∧h.testBit c=true ∧
 ∀ H',Same H H'→Q (.bl (covB fx t side nd hs lead ys c need)) H'
abbrev Zmk:List Str:=["game","side","needs","place","card","need","step","rest"]
theorem scCovers:FnScope Zmk ["game","side","needs","place","card","need"] (Zm Ag):=Uw (by decide +kernel)
theorem Zfl{k:Nat}{CT CG f1 f2:Addr}{d1 d2:FuncData}(F:Fun K "covers" "covers" Ag f fd)(LB:Lib P w K mg base k "behind" ["game","place","card"] (X5 K CT CG) f1 d1)(LG:Lib P w K mg base k "gain" ["side","taker"] Bm f2 d2):FnOk P w K mg base Yq (k+1) f fd ["game","side","needs","place","card","need"] (Ta P w CT CG):=by
 refine F.ok scCovers (fun vs H Q E h=>?_) (fun cdv A outer s H vs Q E hr h=>?_)
 ·obtain⟨gm,x,d,p,t,fx,side,nd,n,hs,ys,lead,m,h,c,need,rfl,_⟩:=h
  rfl
 obtain⟨gm,x,d,p,t,fx,side,nd,n,hs,ys,lead,m,h,c,need,rfl,G,D,nd0,hp,Pl,eh,hb,q⟩:=h;have hu:=Jx (Nat.add_le_add_left (by decide:20≤64) _) hr.units;refine⟨_,Zi (Jf (i:=6) scCovers.nd rfl (Or.inl rfl) (Z0 LB.ok hr rfl LB.mg LB.kp LB.bd .nil Jb (Za (pv 0) (Za (pv 3) (Za (pv 4) Zf)))))
  (Zi (Jf (i:=7) scCovers.nd rfl (Or.inl rfl) (Jj Bs (pv 5) (Z0 LG.ok hr rfl LG.mg LG.kp LG.bd .nil Jb (Za (pv 1) (Za (Jr Js (pv 6) Zo (fun _ _=>rfl)) Zf)))))
  (Zn (Z9 (Zdi (Y0 Rq (pv 7) Zo (Jl _)) (U8 (Y0 T3 (Tv (Nl P w) hu (pv 2) (Jr Js (pv 6) Zo (fun _ _=>rfl)) Zo ⟨rfl,rfl,rfl,rfl⟩) (pv 7) (Jl _))))))),?_⟩
 refine⟨_,rfl,_,rfl,_,rfl,gm,x,p,t,fx,hs,ys,lead,m,h,c,rfl,G,hp,Pl,eh,hb,fun st p' hs' lead' ys' tk H2 s2 N hst hp'=>?_⟩;have e:=A8 (side:=side) (nd:=nd) (need:=need) Pl eh hb N;refine⟨_,rfl,_,rfl,_,rfl,st,_,_,_,rfl,rfl,SqT.of hst,(rfl:Xs [V.ref p',Kk tk] 1=some (Kk tk)),side,tk,rfl,_,_,rfl,rfl,?_⟩;obtain⟨es,g1,g2,g3,g4⟩:=(D.same s2).o;refine⟨_,rfl,_,_,rfl,rfl,_,rfl,?_⟩;by_cases c0:need - ((Qo side tk:Nat):Int)≤0
 ·refine X1 (Zc c0) (Yt ?_)
  have z:=q H2 s2;rw[e,Zc (Int.le_trans c0 (nd0 _))] at z;exact z
 ·refine X1 (Zd c0) (J3 ?_)
  refine⟨_,rfl,d,es,rfl,g1,g2,_,rfl,st,_,_,_,rfl,rfl,SqT.of hst,(rfl:Xs [V.ref p',Kk tk] 0=some (V.ref p')),es,Qd hs' lead' ys',p',g1,g2,rfl,U9 hp',_,rfl,nd (Qd hs' lead' ys'),_,?_,rfl,?_⟩
  ·rw[g4]
  ·have z:=q H2 s2
   rw[e] at z;exact z
def Zmg:V→Nat
 | .int i=>i.toNat
 | _=>0
theorem Sl(c:Nat):Zmg (.int ((c:Nat):Int))=c:=Z2 c
theorem Zdr{fx:Fx}{t:Option Nat}{ys:List Nat}{h:Nat}(h32:h < 4294967296):(Us fx t ys h).length≤1000:=by
 unfold Us Y2;refine Jd (List.length_filter_le _ _) ?_;rw[Yb]
 decide
def lfN(hs:List Nat):Nat:=Qn true (hs.map (Xi 32))
theorem Zb7{fx:Fx}{hs:List Nat}{lead:Nat}{ys:List Nat}{m:Nat}(ok:fx.Ok)(Pl:Plc fx hs lead ys m):lfN hs=m:=by
 obtain⟨m1,m2⟩:=Pl.max ok;exact Ky m1 m2
noncomputable def rtB (fx:Fx) (t:Option Nat) (side:Nat) (nd:Uj→Int) (r:Rw):Bool:=
 decide (1≤r.nd) && (decide (r.nd≤((lfN r.hs:Nat):Int)) && (if side.testBit ((r.lead+r.ys.length) % fx.n)=true
  then(match r.cd with | some c=>(moveL fx t r.hs r.lead r.ys (lfN r.hs)).any (fun d=>decide (((d:Nat):Int)=c)) && covB fx t side nd r.hs r.lead r.ys c.toNat r.nd | none=>false)
  else(match r.cd with | some _=>false | none=>(moveL fx t r.hs r.lead r.ys (lfN r.hs)).all fun c=>covB fx t side nd r.hs r.lead r.ys c r.nd)))
theorem Av(c:Int)(xs:List Nat):Sw (.int c) (vN xs)=xs.any fun d=>decide (((d:Nat):Int)=c):=by
 unfold Sw vN;rw[List.any_map];refine congrArg (fun g=>xs.any g) (funext fun d=>?_);show Ru (V.int ((d:Nat):Int)) (V.int c)=_;rfl
theorem Zj5(xs:List Nat):Sw .non (vN xs)=false:=by
 unfold Sw vN;rw[List.any_map];exact List.any_eq_false.mpr fun d _=>Zp
def Gd(CT CG:Addr)(Ok:Fx→List Nat→Nat→List Nat→Bool→Prop):Sp:=fun vs H Q _=>∃(gm x p:Addr) (t:Option Nat) (fx:Fx) (hs ys:List Nat) (lead:Nat) (b:Bool),vs=[.ref gm,.ref p]∧GamH CT CG fx t H gm x∧IsPl H p hs lead ys∧Ok fx hs lead ys b∧∀ H',Same H H'→Q (.bl b) H'
def V0(P:Program)(w:World)(CT CG:Addr)(Ok:Fx→List Nat→Nat→List Nat→Bool→Prop):Sp:=fun vs H Q _=>∃(gm x d a:Addr) (t:Option Nat) (fx:Fx) (side:Nat) (nd:Uj→Int) (n:Nat) (r:Rw) (b:Bool),vs=[.ref gm,.int (side:Nat),.ref d,.ref a]∧GamH CT CG fx t H gm x∧Rl t∧NdD P w H d nd n∧(∀ k,0≤nd k)∧IsRw H r a∧r.Fm∧Ok fx r.hs r.lead r.ys b ∧
 ∀ H',Same H H'→Q (.bl (b && rtB fx t side nd r)) H'
abbrev Zjp:List Str:=["game","side","needs","row","place","need","choice"]
theorem scRight:FnScope Zjp ["game","side","needs","row"] (Zm Vb):=Uw (by decide +kernel)
theorem Zbv{k:Nat}{CT CG f1 f2 f3 f4 f5 f6 f7:Addr}{d1 d2 d3 d4 d5 d6 d7:FuncData}{Ok:Fx→List Nat→Nat→List Nat→Bool→Prop}(hOk:∀ fx hs lead ys,Ok fx hs lead ys true→∃ m,Plc fx hs lead ys m)
  (F:Fun K "is_right" "is_right" Vb f fd) (LF:Lib P w K mg base k "is_formed_row" ["thing"] Ge f1 d1) (LI:Lib P w K mg base k "is_place" ["game","place"] (Gd CT CG Ok) f2 d2) (LL:Lib P w K mg base k "left" ["place"] (G8 K) f3 d3) (LM:Lib P w K mg base k "moves" ["game","place"] (Qx CT CG) f4 d4)
  (LH:Lib P w K mg base k "has_seat" ["side","seat"] Qc f5 d5) (LT:Lib P w K mg base k "turn_at" ["game","place"] (Qm CT CG) f6 d6) (LC:Lib P w K mg base k "covers" ["game","side","needs","place","card","need"] (Ta P w CT CG) f7 d7) (mA:mg "all" = none) :
  FnOk P w K mg base Yq (k+1) f fd ["game","side","needs","row"] (V0 P w CT CG Ok):=by
 refine F.ok scRight (fun vs H Q E h=>?_) (fun cdv A outer s H vs Q E hr h=>?_)
 ·obtain⟨gm,x,d,a,t,fx,side,nd,n,r,b,rfl,_⟩:=h
  rfl
 obtain⟨gm,x,d,a,t,fx,side,nd,n,r,b,rfl,G,tb,D,nd0,hR,fm,hO,q⟩:=h;refine⟨_,Zi (Yd (PW.pt (U2 (Uc (Jy (Z0 LF.ok hr rfl LF.mg LF.kp LF.bd .nil Jb (Za (pv 3) Zf)) (fun _=>rfl))) (U7 (Uc (Jy (Z0 LI.ok hr rfl LI.mg LI.kp LI.bd .nil Jb (Za (pv 0) (Za (Jr Js (pv 3) Zo (fun _ _=>rfl)) Zf))) (fun _=>rfl)))))) (Zn (Z9 Ue)) Jn)
  (Zi (Jf (i:=4) scRight.nd rfl (Or.inr rfl) (Jr Js (pv 3) Zo (fun _ _=>rfl)))
  (Zi (Jf (i:=5) scRight.nd rfl (Or.inr rfl) (Jr Js (pv 3) Zo (fun _ _=>rfl)))
  (Zi (Yd (PW.pt (U2 (Jm Df (pv 5) Zo (Jl _)) (U7 (Jm Q8 (pv 5) (Z0 LL.ok hr rfl LL.mg LL.kp LL.bd .nil Jb (Za (pv 4) Zf)) (Jl _))))) (Zn (Z9 Ue)) Jn)
  (Zi (Jf (i:=6) scRight.nd rfl (Or.inl rfl) (Z0 LM.ok hr rfl LM.mg LM.kp LM.bd .nil Jb (Za (pv 0) (Za (pv 4) Zf))))
  (Zi (Yd (Jy (Z0 LH.ok hr rfl LH.mg LH.kp LH.bd .nil Jb (Za (pv 1) (Za (Z0 LT.ok hr rfl LT.mg LT.kp LT.bd .nil Jb (Za (pv 0) (Za (pv 4) Zf))) Zf))) (fun _=>rfl))
   (Zn (Z9 (Xd (Y0 Rc (Jr Js (pv 3) Zo (fun _ _=>rfl)) (pv 6) rfl) (U8 (Z0 LC.ok hr rfl LC.mg LC.kp LC.bd .nil Jb (Za (pv 0) (Za (pv 1) (Za (pv 2) (Za (pv 4) (Za (Jr Js (pv 3) Zo (fun _ _=>rfl)) (Za (pv 5) Zf)))))))))) ) Jn)
  (Zn (Z9 (Xd (Y0 T2 (Jr Js (pv 3) Zo (fun _ _=>rfl)) Qe (Jl _)) (U8 (Jk (Bh rfl) rfl mA PyProof.Rows.boot_all (Za (Ug ["card","game","side","needs","place","need"] [none,some 0,some 1,some 2,some 4,some 5] rfl (Blk.by (sc:=Zm Vb) (N0:=Zjp) rfl rfl (by decide +kernel)) (Y4 (pv 6)) (fun C s₀ H₀ ex=>Jp (i:=0) (show(["card","game","side","needs","place","need"]:List Str).Nodup by decide +kernel) rfl (Or.inl rfl)) (fun C s₀ H₀ ex=>U4)
   (fun C s₀ H₀ ex=>Z0 LC.ok hr rfl LC.mg LC.kp LC.bd .nil Jb (Za (pv 1) (Za (pv 2) (Za (pv 3) (Za (pv 4) (Za (pv 0) (Za (pv 5) Zf)))))))) Zf))))))))))),?_⟩
 have ok:=G.ok;refine⟨_,rfl,a,r,rfl,hR,fm,fun H1 s1=>⟨_,rfl,J3 ?_⟩⟩;obtain⟨p,hp0,hPl0⟩:=id hR;have a1:=s1 _ _ hp0;refine⟨_,rfl,_,rfl,a,_,_,_,rfl,rfl,SqT.of a1,(rfl:Xs [V.ref p,V.int r.nd,Nc r.cd] 0=some (V.ref p)),gm,x,p,t,fx,r.hs,r.ys,r.lead,b,rfl,G.same s1,hPl0.same s1,hO,fun H2 s2=>⟨_,rfl,?_⟩⟩;cases b with
 | false=>exact Yt (q H2 (s1.trans s2))
 | true=>
 refine J3 ?_;obtain⟨m,Pl⟩:=hOk _ _ _ _ hO;have em:=Zb7 ok Pl;have s12:=s1.trans s2;have a2:=s12 _ _ hp0;refine⟨_,rfl,a,_,_,_,rfl,rfl,SqT.of a2,(rfl:Xs [V.ref p,V.int r.nd,Nc r.cd] 0=some (V.ref p)),?_⟩;refine⟨_,rfl,a,_,_,_,rfl,rfl,SqT.of a2,(rfl:Xs [V.ref p,V.int r.nd,Nc r.cd] 1=some (V.int r.nd)),?_⟩;refine⟨_,rfl,_,_,rfl,rfl,_,rfl,?_⟩;by_cases c1:r.nd < 1
 ·refine X1 (Zc c1) (Yt ?_)
  have z:=q H2 s12;unfold rtB at z;rw[Zd (by omega:¬ 1≤r.nd)] at z;exact z
 refine X1 (Zd c1) (J3 ?_);refine⟨_,rfl,_,rfl,p,fx,r.hs,r.ys,r.lead,m,rfl,ok,hPl0.same s12,Pl,fun H3 s3=>?_⟩;have s13:=s12.trans s3;refine⟨_,_,rfl,rfl,_,rfl,?_⟩;by_cases c2:((m:Nat):Int) < r.nd
 ·refine X1 (Zc c2) (Yt ?_)
  have z:=q H3 s13;unfold rtB at z;rw[em,Zd (by omega:¬ r.nd≤((m:Nat):Int)),Bool.false_and,Bool.and_false,Bool.and_false] at z;exact z
 refine X1 (Zd c2) (J3 ?_);have m0:m≠0:=by omega
 unfold rtB at q;rw[em,Zc (by omega:1≤r.nd),Zc (by omega:r.nd≤((m:Nat):Int)),Bool.true_and,Bool.true_and,Bool.true_and] at q;obtain⟨h,eh,epc⟩:=Pl.turn ok;have h32:=Pl.h32 ok (Zl eh);have eg:r.hs.getD ((r.lead+r.ys.length) % fx.n) 0=h:=by rw[Zr,eh];rfl
 have eM:moveL fx t r.hs r.lead r.ys m=Us fx t r.ys h:=by
  unfold moveL;rw[Zj m0,eg]
 refine⟨_,rfl,_,rfl,gm,x,p,t,fx,r.hs,r.ys,r.lead,m,rfl,G.same s13,tb,hPl0.same s13,Pl,fun lm H4 s4 hlm hm4=>?_⟩;have s14:=s13.trans s4;refine⟨_,rfl,_,rfl,_,rfl,gm,x,p,t,fx,r.hs,r.ys,r.lead,m,rfl,G.same s14,hPl0.same s14,Pl,fun H5 s5=>?_⟩;have s15:=s14.trans s5;have tv:Ng fx r.lead r.ys m = .int (((r.lead+r.ys.length) % fx.n:Nat):Int):=Zj m0;refine⟨side,(r.lead+r.ys.length) % fx.n,?_,?_⟩
 ·rw[tv]
  rfl
 refine⟨_,rfl,?_⟩;have a5:=s15 _ _ hp0;have m5:=s5 _ _ hm4;have mfl:(vN (moveL fx t r.hs r.lead r.ys m)).all Xo=true:=Ym.mpr fun y hy=>by
  obtain⟨c,_,rfl⟩:=Zz.mp hy;rfl
 cases hsd:side.testBit ((r.lead+r.ys.length) % fx.n) with
 | true=>
  rw[hsd,Zv rfl] at q;refine Yt ⟨_,rfl,a,_,_,_,rfl,rfl,SqT.of a5,(rfl:Xs [V.ref p,V.int r.nd,Nc r.cd] 2=some (Nc r.cd)),?_⟩;cases hc:r.cd with
  | none=>
   rw[hc] at q;refine⟨_,rfl,lm,_,rfl,.inl (SqL.of m5),rfl,mfl,_,rfl,?_⟩;refine X1 (Zj5 _) (J3 ?_);exact q H5 s15
  | some c=>
   rw[hc] at q;dsimp only at q;refine⟨_,rfl,lm,_,rfl,.inl (SqL.of m5),rfl,mfl,_,rfl,?_⟩;cases hin:(moveL fx t r.hs r.lead r.ys m).any fun d=>decide (((d:Nat):Int)=c) with
   | false=>
    rw[hin,Bool.false_and] at q;refine X1 ((Av c _).trans hin) (J3 ?_);exact q H5 s15
   | true=>
    rw[hin,Bool.true_and] at q;refine X1 ((Av c _).trans hin) (Yt ?_);obtain⟨e,he,ee⟩:=List.any_eq_true.mp hin;have ec:c=((e:Nat):Int):=(J0 ee).symm;subst ec;rw[eM] at he;have hb:=(Qg h32 he).1;rw[Z2] at q;rw[hc] at a5;refine⟨_,rfl,_,rfl,_,rfl,_,rfl,_,rfl,a,_,_,_,rfl,rfl,SqT.of a5,(rfl:Xs [V.ref p,V.int r.nd,Nc (some ((e:Nat):Int))] 2=some (V.int ((e:Nat):Int))),_,rfl,gm,x,d,p,t,fx,side,nd,n,r.hs,r.ys,r.lead,m,h,e,r.nd,rfl,G.same s15,D.same s15,nd0,hPl0.same s15,Pl,eh,hb,fun H6 s6=>q H6 (s15.trans s6)⟩
 | false=>
  rw[hsd,Zj Zp] at q;refine J3 ⟨_,rfl,a,_,_,_,rfl,rfl,SqT.of a5,(rfl:Xs [V.ref p,V.int r.nd,Nc r.cd] 2=some (Nc r.cd)),?_⟩;cases hc:r.cd with
  | some c=>
   rw[hc] at q;exact⟨rfl,false,rfl,J3 (q H5 s15)⟩
  | none=>
   rw[hc] at q;dsimp only at q;refine⟨rfl,true,rfl,Yt ?_⟩;refine⟨_,rfl,lm,rfl,⟨_,SqL.of m5⟩,Qj (K:=K) (xs:=vN (moveL fx t r.hs r.lead r.ys m)) (fun _=>true) (fun y=>.bl (covB fx t side nd r.hs r.lead r.ys (Zmg y) r.nd)) (SqL.of m5) (Yf _ (by rw[Yh,eM];exact Zdr h32)) (fun y H6 hy sm R hR=>hR H6 (Same.refl H6)) (fun y H6 hy hp6 s6 R hR6=>?_) (fun lq H6 s6 hlq hq6=>?_)⟩
   ·obtain⟨c,hcm,rfl⟩:=Zz.mp hy
    rw[eM] at hcm;have hb:=(Qg h32 hcm).1;have s16:=s15.trans s6;refine⟨_,rfl,_,rfl,_,rfl,_,rfl,_,rfl,_,rfl,gm,x,d,p,t,fx,side,nd,n,r.hs,r.ys,r.lead,m,h,c,r.nd,rfl,G.same s16,D.same s16,nd0,hPl0.same s16,Pl,eh,hb,fun H7 s7=>?_⟩;have z:=hR6 H7 s7;rw[Sl] at z;exact z
   ·have eb:((vN (moveL fx t r.hs r.lead r.ys m)).filter fun _=>true).map (fun y=>V.bl (covB fx t side nd r.hs r.lead r.ys (Zmg y) r.nd))=((moveL fx t r.hs r.lead r.ys m).map fun c=>covB fx t side nd r.hs r.lead r.ys c r.nd).map V.bl:=by
     rw[List.filter_eq_self.mpr fun _ _=>rfl];unfold vN;rw[Z7,Z7];refine J2 fun c _=>?_;show V.bl (covB fx t side nd r.hs r.lead r.ys (Zmg (V.int ((c:Nat):Int))) r.nd)=_;rw[Sl];rfl
    rw[eb] at hq6;refine⟨lq,_,rfl,SqL.of hq6,?_⟩;have z:=q H6 (s15.trans s6);have ea:(((moveL fx t r.hs r.lead r.ys m).map fun c=>covB fx t side nd r.hs r.lead r.ys c r.nd).all id)=(moveL fx t r.hs r.lead r.ys m).all fun c=>covB fx t side nd r.hs r.lead r.ys c r.nd:=by
     rw[List.all_map];rfl
    rw[ea];exact z
theorem Ar(rs:List Rw)(k:Uj):0≤Bb rs k:=by
 unfold Bb;have:∀(l:List Rw) (a:Int),0≤a→0≤l.foldl (fun a r=>if r.k=k then max r.nd a else a) a:=by
  intro l
  induction l with
  | nil=>exact fun a h=>h
  | cons r l ih=>
   intro a h;rw[List.foldl_cons];refine ih _ ?_;split
   ·exact Int.le_trans h (Int.le_max_right _ _)
   ·exact h
 exact this rs 0 (Eh _)
noncomputable def hldB (fx:Fx) (t:Option Nat) (side:Nat) (okb:Rw→Bool) (rs:List Rw) (k:Uj) (need:Int):Bool:=
 (rs.all fun r=>okb r && rtB fx t side (Bb rs) r) && decide (need≤Bb rs k)
def Op(P:Program)(w:World)(CT CG:Addr)(Ok:Fx→List Nat→Nat→List Nat→Bool→Prop):Sp:=fun vs H Q _=>∃(gm x l p:Addr) (t:Option Nat) (fx:Fx) (side:Nat) (as:List (Rw×Addr)) (okb:Rw→Bool) (hs:List Nat) (lead:Nat) (ys:List Nat) (need:Int),vs=[.ref gm,.int (side:Nat),.ref l,.ref p,.int need]∧GamH CT CG fx t H gm x∧Rl t∧H l=some (.lst (R0 as))∧RwsH H as∧as.length < sizeLine∧(∀ e∈as,Ok fx e.1.hs e.1.lead e.1.ys (okb e.1))∧IsPl H p hs lead ys ∧
 ∀ H',Same H H'→Q (.bl (hldB fx t side okb (as.map (·.1)) (Qd hs lead ys) need)) H'
abbrev Zpg:List Str:=["game","side","paper","place","need","needs","row"]
theorem scHolds:FnScope Zpg ["game","side","paper","place","need"] (Zm Zbg):=Uw (by decide +kernel)
theorem Zjc{k:Nat}{CT CG f1 f2:Addr}{d1 d2:FuncData}{Ok:Fx→List Nat→Nat→List Nat→Bool→Prop}(F:Fun K "holds" "holds" Zbg f fd)(LN:Lib P w K mg base k "greatest_needs" ["paper"] (Om P w) f1 d1)(LR:Lib P w K mg base k "is_right" ["game","side","needs","row"] (V0 P w CT CG Ok) f2 d2) :
  FnOk P w K mg base Yq (k+1) f fd ["game","side","paper","place","need"] (Op P w CT CG Ok):=by
 refine F.ok scHolds (fun vs H Q E h=>?_) (fun cdv A outer s H vs Q E hr h=>?_)
 ·obtain⟨gm,x,l,p,t,fx,side,as,okb,hs,lead,ys,need,rfl,_⟩:=h
  rfl
 obtain⟨gm,x,l,p,t,fx,side,as,okb,hs,lead,ys,need,rfl,G,tb,hl,hR,hn,hO,hp,q⟩:=h;have hu:=Jx (Nat.add_le_add_left (by decide:20≤64) _) hr.units;refine⟨_,Zi (Jf (i:=5) scHolds.nd rfl (Or.inl rfl) (Z0 LN.ok hr rfl LN.mg LN.kp LN.bd .nil Jb (Za (pv 2) Zf)))
  (Zi (Ux PassesOwn.never rfl (Y4 (pv 2)) (Jp (i:=6) scHolds.nd rfl (Or.inl rfl))
   (Zn (Yd (Uc (Jy (Z0 LR.ok hr rfl LR.mg LR.kp LR.bd .nil Jb (Za (pv 0) (Za (pv 1) (Za (pv 5) (Za (pv 6) Zf))))) (fun _=>rfl))) (Zn (Z9 Ue)) Jn)))
  (Zn (Z9 (Zdi (Y0 Rq (pv 4) Zo (Jl _)) (U8 (Y0 T3 (Tv (Nl P w) hu (pv 5) (pv 3) Zo ⟨rfl,rfl,rfl,rfl⟩) (pv 4) (Jl _))))))),?_⟩
 refine⟨_,rfl,l,as,rfl,hl,hR,hn,fun d H1 s1 D=>?_⟩;refine⟨_,rfl,l,rfl,⟨_,SqL.of (s1 _ _ hl)⟩,Xg (xs:=R0 as) (fun i σ H2=>Same H1 H2∧((as.map (·.1)).take i).all (fun r=>okb r && rtB fx t side (Bb (as.map (·.1))) r)=true∧∃ z,σ=[some (.ref gm),some (.int (side:Nat)),some (.ref l),some (.ref p),some (.int need),some (.ref d),z]) ⟨Same.refl H1,rfl,none,rfl⟩ (fun i σ H2 _ z=>SqL.of ((s1.trans z.1) _ _ hl)) (fun i v σ H2 hv z=>?_) (fun σ H2 z=>?_)⟩
 ·obtain⟨s2,al,z0,rfl⟩:=z
  obtain⟨⟨r,a⟩,hi,rfl⟩:∃ e,as[i]? = some e∧v = .ref e.2:=by
   unfold R0 at hv;rw[Z4] at hv;obtain⟨e,he,rfl⟩:=Jq.mp hv;exact⟨e,he,rfl⟩
  have me:=Zl hi;obtain⟨hr1,fm⟩:=(hR.same (s1.trans s2)) _ me;have tk:(as.map (·.1)).take (i+1)=(as.map (·.1)).take i++[r]:=by
   rw[U0,Z4,hi];rfl
  refine⟨_,rfl,_,rfl,_,rfl,_,rfl,gm,x,d,a,t,fx,side,_,_,r,okb r,rfl,G.same (s1.trans s2),tb,D.same s2,Ar _,hr1,fm,hO _ me,fun H3 s3=>⟨_,rfl,?_⟩⟩;cases c:okb r && rtB fx t side (Bb (as.map (·.1))) r with
  | false=>
   refine Yt ?_;have z:=q H3 ((s1.trans s2).trans s3);have nf:((as.map (·.1)).all fun r=>okb r && rtB fx t side (Bb (as.map (·.1))) r)=false:=List.all_eq_false.mpr ⟨r,Zz.mpr ⟨_,me,rfl⟩,by rw[c];exact Zp⟩;unfold hldB at z;rw[nf,Bool.false_and] at z;exact z
  | true=>
   refine J3 ⟨s2.trans s3,?_,_,rfl⟩;rw[tk,List.all_append,al,Bool.true_and,List.all_cons,c];rfl
 ·obtain⟨s2,al,z0,rfl⟩:=z
  have el:(R0 as).length=as.length:=Zk ..;rw[el,List.take_of_length_le (by rw[Zk];exact Zs _)] at al;have z:=q H2 (s1.trans s2);unfold hldB at z;rw[al,Bool.true_and] at z;obtain⟨es,g1,g2,g3,g4⟩:=(D.same s2).o;refine⟨_,rfl,_,_,rfl,rfl,_,rfl,?_⟩;by_cases c0:need≤0
  ·refine X1 (Zc c0) (Yt ?_)
   rw[Zc (Int.le_trans c0 (Ar _ _))] at z;exact z
  ·refine X1 (Zd c0) (J3 ?_)
   refine⟨_,rfl,d,es,rfl,g1,g2,_,rfl,es,Qd hs lead ys,p,g1,g2,rfl,U9 (hp.same (s1.trans s2)),_,rfl,Bb (as.map (·.1)) (Qd hs lead ys),_,?_,rfl,z⟩;rw[g4]
theorem Lib.mono{j k:Nat}{x:Str}{ps:List Str}{sp:Sp}{f1:Addr}{d1:FuncData}(L:Lib P w K mg base j x ps sp f1 d1)(h:j≤k):Lib P w K mg base k x ps sp f1 d1:=⟨L.ok.mono h,L.bd,L.kp,L.mg⟩
theorem Zbt{S:By}{k:Nat}{CT CG CR:Addr}(F:Fun K "made_at" "Reckoning.made_at" Va f fd):FnOk P w K mg base Yq (k+1) f fd ["self","place"] (X4 P w CT CG CR S 0):=by
 refine F.ok Ks (fun vs H Q E h=>?_) (fun cdv A outer s H vs Q E hr h=>?_)
 ·obtain⟨r,gm,gx,d,p,t,fx,side,hs,lead,ys,m,es,rfl,_⟩:=h
  rfl
 obtain⟨r,gm,gx,d,p,t,fx,side,hs,lead,ys,m,es,rfl,tb,R,G,hp,Pl,_,hk,_⟩:=h;exact absurd hk (by omega)
structure RkM(P:Program)(w:World)(K:W.Frag)(mg:Str→Option Value)(base:Heap)(k kb:Nat)(S:By)(CT CG CR aA aP:Addr)(dA dP:FuncData):Prop where
 at_:FnOk P w K mg base Yq k aA dA ["self","place"] (X4 P w CT CG CR S (kb+1))
 pr:FnOk P w K mg base Yq k aP dP ["self","place"] (Gb P w CT CG CR S kb)
theorem Zl3{S:By}(hS:SCl S){j0:Nat}{CT CG CR aA aB aP aC f1 f2 f3:Addr}{dA dB dP dC d1 d2 d3:FuncData}(FA:Fun K "made_at" "Reckoning.made_at" Va aA dA)(FB:Fun K "made_by" "Reckoning.made_by" Gh aB dB)(FP:Fun K "pairs" "Reckoning.pairs" Tg aP dP)(C:RkC K mg CR)
  (MA:Meth K CR "made_at" aA) (MB:Meth K CR "made_by" aB) (MP:Meth K CR "pairs" aP) (MC:Meth K CR "choice" aC) (BA:Binds K dA ["self","place"] []) (BB:Binds K dB ["self","place","card"] []) (BP:Binds K dP ["self","place"] []) (BC:Binds K dC ["self","place","pairs"] [])
  (FC:FnOk P w K mg base Yq j0 aC dC ["self","place","pairs"] (B8 P w CT CG CR S)) (LB:Lib P w K mg base j0 "behind" ["game","place","card"] (X5 K CT CG) f1 d1) (LG:Lib P w K mg base j0 "gain" ["side","taker"] Bm f2 d2) (LM:Lib P w K mg base j0 "moves" ["game","place"] (Qx CT CG) f3 d3) (j1:1≤j0) :
  ∀ kb,RkM P w K mg base (j0+3 * kb+3) kb S CT CG CR aA aP dA dP:=by
 intro kb;have step:∀(j kb:Nat),j0≤j→FnOk P w K mg base Yq j aA dA ["self","place"] (X4 P w CT CG CR S kb)→RkM P w K mg base (j+3) kb S CT CG CR aA aP dA dP:=fun j kb hj F0=>by
  have F1:=Zff hS (k:=j) FB C (LB.mono hj) (LG.mono hj) MA F0 BA;have F2:=Zi3 (k:=j+1) FP C (LM.mono (by omega)) MB F1 BB;have F3:=Zfg (k:=j+2) FA C MP F2 BP MC (FC.mono (by omega)) BC;exact⟨F3,F2.mono (by omega)⟩
 induction kb with
 | zero=>
  have F0:FnOk P w K mg base Yq (j0 - 1+1) aA dA ["self","place"] (X4 P w CT CG CR S 0):=Zbt FA;have e:j0 - 1+1=j0:=by omega
  rw[e] at F0;exact step j0 0 (Zs _) F0
 | succ kb ih=>
  have z:=step (j0+3 * kb+3) (kb+1) (by omega) ih.at_;have e:j0+3 * kb+3+3=j0+3 * (kb+1)+3:=by omega
  rw[e] at z;exact z
inductive Rch(fx:Fx)(t:Option Nat):List Nat→Nat→List Nat→List Nat→Nat→List Nat→Prop where
 | here {hs:List Nat} {lead:Nat} {ys:List Nat}:Rch fx t hs lead ys hs lead ys
 | step {hs:List Nat} {lead:Nat} {ys:List Nat} {m h c:Nat} {hs':List Nat} {lead':Nat} {ys':List Nat} {tk:Option Nat} {a:List Nat} {b:Nat} {d:List Nat}:Plc fx hs lead ys m→hs[(lead+ys.length) % fx.n]? = some h→c∈Us fx t ys h→Nxt fx t hs lead ys h c hs' lead' ys' tk→Rch fx t hs' lead' ys' a b d→Rch fx t hs lead ys a b d
theorem Rch.snoc{fx:Fx}{t:Option Nat}{hs:List Nat}{lead:Nat}{ys:List Nat}{a:List Nat}{b:Nat}{d:List Nat}(r:Rch fx t hs lead ys a b d){m h c:Nat}{a':List Nat}{b':Nat}{d':List Nat}{tk:Option Nat}(Pl:Plc fx a b d m)(eh:a[(b+d.length) % fx.n]? = some h)(hc:c∈Us fx t d h)(N:Nxt fx t a b d h c a' b' d' tk):Rch fx t hs lead ys a' b' d':=by
 induction r with
 | here=>exact .step Pl eh hc N .here
 | step p1 p2 p3 p4 _ ih=>exact .step p1 p2 p3 p4 (ih Pl eh hc N)
def Sof(fx0:Fx)(t0:Option Nat)(hs0:List Nat)(lead0:Nat)(ys0:List Nat):By:=fun fx t hs lead ys=>fx=fx0∧t=t0∧Rch fx0 t0 hs0 lead0 ys0 hs lead ys
theorem Sof.cl(fx0:Fx)(t0:Option Nat)(hs0:List Nat)(lead0:Nat)(ys0:List Nat):SCl (Sof fx0 t0 hs0 lead0 ys0):=by
 intro fx t hs lead ys m h c hs' lead' ys' tk hS Pl eh hc N;obtain⟨rfl,rfl,r⟩:=hS;exact⟨rfl,rfl,r.snoc Pl eh hc N⟩
noncomputable def treeK (fx:Fx) (t:Option Nat):Nat→List Nat→Nat→List Nat→List Uj
 | 0,hs,lead,ys=>[Qd hs lead ys]
 | n+1,hs,lead,ys=>Qd hs lead ys :: (Us fx t ys (hs.getD ((lead+ys.length) % fx.n) 0)).flatMap fun c=>
   treeK fx t n (nxF fx t hs lead ys (hs.getD ((lead+ys.length) % fx.n) 0) c).1 (nxF fx t hs lead ys (hs.getD ((lead+ys.length) % fx.n) 0) c).2.1 (nxF fx t hs lead ys (hs.getD ((lead+ys.length) % fx.n) 0) c).2.2.1
theorem Zen(fx:Fx)(t:Option Nat)(n:Nat)(hs:List Nat)(lead:Nat)(ys:List Nat):Qd hs lead ys∈treeK fx t n hs lead ys:=by
 cases n with
 | zero=>exact Zw
 | succ n=>exact Zw
theorem Zgw{fx:Fx}(ok:fx.Ok){t:Option Nat}{hs:List Nat}{lead:Nat}{ys:List Nat}{a:List Nat}{b:Nat}{d:List Nat}(r:Rch fx t hs lead ys a b d):Qd a b d∈treeK fx t (J4 hs) hs lead ys:=by
 induction r with
 | here=>exact Zen ..
 | @step hs lead ys m h c hs' lead' ys' tk a b d Pl eh hc N _ ih=>
  have hb:=(Qg (Pl.h32 ok (Zl eh)) hc).1;obtain⟨m',Pl',_,tt,_,_⟩:=N.plc ok Pl eh hb;have et:J4 hs'+1=J4 hs:=tt;have eg:hs.getD ((lead+ys.length) % fx.n) 0=h:=by rw[Zr,eh];rfl
  rw[← et];refine Zx _ (List.mem_flatMap.mpr ⟨c,by rw[eg];exact hc,?_⟩);rw[eg,T6 Pl eh hb N];exact ih
theorem Zd5{α β:Type}(f:α→List β)(B:Nat):∀ l:List α,(∀ x∈l,(f x).length≤B)→(l.flatMap f).length≤l.length * B
 | [],_=>by simp
 | x :: l,h=>by
  rw[List.flatMap_cons,Jc,Jo,Nat.succ_mul];have h1:=h x Zw;have h2:=Zd5 f B l fun y hy=>h y (Zx _ hy);omega
theorem Kj{fx:Fx}(ok:fx.Ok){t:Option Nat}:∀(n:Nat) {hs:List Nat} {lead:Nat} {ys:List Nat} {m:Nat},Plc fx hs lead ys m→J4 hs=n→(treeK fx t n hs lead ys).length≤Sn n
 | 0,_,_,_,_,_,_=>Zs _
 | n+1,hs,lead,ys,m,Pl,tn=>by
  obtain⟨h,eh,epc⟩:=Pl.turn ok;have eg:hs.getD ((lead+ys.length) % fx.n) 0=h:=by rw[Zr,eh];rfl
  have h32:=Pl.h32 ok (Zl eh);have few:=Pl.few ok;have ml:=Jd (Vk (fx:=fx) (t:=t) (ys:=ys) (h:=h) h32) (Nat.le_of_eq epc);have z:=Zd5 (fun c=>treeK fx t n (nxF fx t hs lead ys h c).1 (nxF fx t hs lead ys h c).2.1 (nxF fx t hs lead ys h c).2.2.1) (Sn n) (Us fx t ys h) fun c hc=>by
   have hb:=(Qg h32 hc).1;obtain⟨hs',lead',ys',tk,N⟩:=Ap ok t Pl eh hb;obtain⟨m',Pl',_,tt,_,_⟩:=N.plc ok Pl eh hb;have et:J4 hs'+1=J4 hs:=tt;rw[T6 Pl eh hb N];exact Kj ok n Pl' (show J4 hs'=n by omega)
  show(Qd hs lead ys :: _).length≤1+(n+3) / 3 * Sn n;rw[Jo,eg];have a1:(Us fx t ys h).length * Sn n≤(n+3) / 3 * Sn n:=Nat.mul_le_mul_right _ (by omega);have z':=Jd z a1;omega
theorem Sj:∀{a b:List Uj},a.Nodup→(∀ x∈a,x∈b)→a.length≤b.length
 | [],_,_,_=>Nat.zero_le _
 | x :: a,b,nd,h=>by
  obtain⟨n1,n2⟩:=List.nodup_cons.mp nd;have hx:=h x Zw;have z:=Sj (a:=a) (b:=b.filter fun y=>decide (y≠x)) n2 fun y hy=>List.mem_filter.mpr ⟨h y (Zx _ hy),Zc fun e=>n1 (by rw[← e];exact hy)⟩;have lt:(b.filter fun y=>decide (y≠x)).length < b.length:=List.length_filter_lt_length_iff_exists.mpr ⟨x,hx,by simp⟩;rw[Jo];omega
theorem Ze0{fx:Fx}(ok:fx.Ok){t:Option Nat}{hs0:List Nat}{lead0:Nat}{ys0:List Nat}{m0:Nat}(Pl:Plc fx hs0 lead0 ys0 m0){side:Nat}{es:List Xb}(R:Zeg (Sof fx t hs0 lead0 ys0) fx t side es):es.length≤Sn (J4 hs0):=by
 have:=Sj (b:=treeK fx t (J4 hs0) hs0 lead0 ys0) R.2 fun x hx=>by
  obtain⟨e,he,rfl⟩:=Zz.mp hx;obtain⟨hs,lead,ys,e1,_,_,_,r⟩:=R.1 e he;rw[e1];exact Zgw ok r
 rw[Zk] at this;exact Jd this (Kj ok _ Pl rfl)
end
end My
namespace L2
open PySem PySem.Spec PyProof.Rows
section
variable{prog:Program}{w:World}
abbrev Ew:=Uj×Int
def IsPnK(h:Heap)(k:Ew)(a:Addr):Prop:=∃ o n b t,h.get? a=some o∧o.cls = .type "tuple"∧o.data = .seq #[.ref b,.int k.2 t] n∧IsPlK (prog:=prog) (w:=w) h k.1 b
variable{A:Around}{E:Value→Shared→Prop}{s:Shared}
def Zh9(prog:Program)(w:World)(k:Ew):Int:=reduceHash (Builtin.Tuple.tupleHashOf [Ts prog w k.1,(Yr prog w).hash (.inl k.2)])
theorem IsPnK.typeIs{k:Ew}{a:Addr}(x:IsPnK (prog:=prog) (w:=w) s.heap k a):s.TypeIs (.ref a) "tuple":=let ⟨o,_,_,_,ho,hc,_⟩:=x;⟨o,ho,hc⟩
theorem IsPnK.inj{h:Heap}{a:Addr}{x y:Ew}(hx:IsPnK (prog:=prog) (w:=w) h x a)(hy:IsPnK (prog:=prog) (w:=w) h y a):x=y:=by
 obtain⟨o,n,b,t,ho,_,hd,h1⟩:=hx;obtain⟨o',n',b',t',ho',_,hd',h1'⟩:=hy;obtain rfl:o=o':=Zy (ho.symm.trans ho');rw[hd] at hd';obtain⟨x1,x2⟩:=x;obtain⟨y1,y2⟩:=y;simp only[Data.seq.injEq,Array.mk.injEq,List.cons.injEq,Value.ref.injEq,Value.int.injEq,and_true] at hd';obtain⟨⟨rfl,e2,_⟩,_⟩:=hd';simp only at e2 h1 h1';subst e2;rw[h1.inj h1']
theorem IsPnK.keeps{h h':Heap}{k:Ew}{a d:Addr}{o:Obj}{es ep}(x:IsPnK (prog:=prog) (w:=w) h k a)(ho:h.get? d=some o)(hd:o.data = .dict es ep)(hs:Heap.SameBut d h h'):IsPnK (prog:=prog) (w:=w) h' k a:=by
 obtain⟨o',n,b,t,ho',hc,hd',h1⟩:=x;have hne:a≠d:=by
  rintro rfl;obtain rfl:o'=o:=Zy (ho'.symm.trans ho);rw[hd] at hd';exact nomatch hd'
 exact⟨o',n,b,t,(hs.2 a hne).trans ho',hc,hd',h1.keeps ho hd hs⟩
theorem Rv{k:Ew}{a:Addr}{Q:Int→Shared→Prop}(hu:A.units+10 < cLine)(hk:IsPnK (prog:=prog) (w:=w) s.heap k a)(h:Q (Zh9 prog w k) { s with toks:=s.toks+(k.1.1.length+1+1+(k.1.2.2.length+1)+1+1+1) }) :
  wpAny (model prog w) A (pyHash (.ref a)) Q E s:=by
 have hT:=hk.typeIs;obtain⟨o,n,b,t,ho,_,hd,h1⟩:=hk;unfold pyHash
 first | unfold pyHashByItsType | skip
 first | refine Zb (wpAny_cRoomFor_or (.inr (by omega)) ?_) | skip
 refine Zb (wpAny_specialOf hT F.slot_tuple_hash.lookup ?_);show wpAny _ _ (if(some (Value.builtin "tuple.__hash__") == some Value.none)=true then _ else _) Q E s;rw[Zj (by rw[beq_builtin_none];exact Zp)];refine Zb (wpAny_specialOf hT F.slot_tuple_hash.lookup ?_);show wpAny _ _ (callSpecialIfBoundUnlessNone? (.ref a) "__hash__" _ >>= _) Q E s;refine Zb (wpAny_callSpecialIfBoundUnlessNone?_slot hT F.slot_tuple_hash (wpAny_call_entry F.slot_tuple_hash hT F.entry_tuple_hash ?_ (F.args_tuple_hash_1 _)));show wpAny _ _ (Builtin.Tuple.tupleItemsOf (.ref a) >>= _) _ _ s;refine Zb (wpAny_tupleItemsOf ho hd ?_);refine Zb ?_;rw[← Array.forIn_toList];simp only[List.forIn_cons,List.forIn_nil];have hu1:A.in1.units+8 < cLine:=(show A.units+1+8 < cLine by omega);refine Zb (Zb (Q4 hu1 h1 (Ze ?_)));refine Zb (Zb ((Yr prog w).pyHash (Xf prog w k.2 t) (Ze (Ze ?_))));show wpAny _ _ (retInt (Builtin.Tuple.tupleHashOf [Ts prog w k.1,(Yr prog w).hash (.inl k.2)])) _ _ _;refine wpAny_ret_mkInt ?_;generalize ez:Builtin.Tuple.tupleHashOf [Ts prog w k.1,(Yr prog w).hash (.inl k.2)]=z;have h':Q (reduceHash z) { s with toks:=s.toks+(k.1.1.length+1+1+(k.1.2.2.length+1)+1+1+1) }:=by rw[← ez];exact h
 show wpAny _ _ (if(decide (-(2:Int) ^ 63≤z) && decide (z < 2 ^ 63))=true then _ else _) Q E _;unfold reduceHash at h';by_cases hr:(decide (-(2:Int) ^ 63≤z) && decide (z < 2 ^ 63))=true
 ·rw[Zv hr]
  rw[Zv hr] at h';exact Ze (by simpa [Nat.add_assoc] using h')
 ·rw[Zj hr]
  rw[Zj hr] at h';exact Zb (wpAny_rule (Ze (by simpa [Nat.add_assoc] using h')))
theorem Zbn{x y:Ew}{a b:Addr}{P:PySem.Fin→Shared→Prop}(hu:A.units+10 < cLine)(hx:IsPnK (prog:=prog) (w:=w) s.heap x a)(hy:IsPnK (prog:=prog) (w:=w) s.heap y b)(h:P (.done (.ret (.bool (decide (x=y))))) s) :
  wpAny (model prog w) A (Builtin.«tuple.__eq__» ⟨[.ref a,.ref b],[]⟩) P E s:=by
 have hTb:=hy.typeIs;obtain⟨oa,na,a1,ta,hoa,_,hda,hx1⟩:=hx;obtain⟨ob,nb,b1,tb,hob,_,hdb,hy1⟩:=hy;obtain⟨x1,x2⟩:=x;obtain⟨y1,y2⟩:=y;simp only at hda hdb hx1 hy1;show wpAny _ _ (isInstance (.ref b) (.type "tuple") >>= _) _ _ s;refine Zb (wpAny_isInstance hTb isSubtype_tuple_tuple ?_);simp only[Bool.not_true,Bool.false_eq_true,if_false];refine Zb (wpAny_tupleItemsOf hoa hda ?_);refine Zb (wpAny_tupleItemsOf hob hdb ?_);refine Zb ?_;simp only[List.zip_cons_cons,List.zip_nil_left,List.forIn_cons,List.forIn_nil];have no:¬ (x1,x2)=(y1,y2)→P (.done (.ret (.bool false))) s:=fun n=>by
  rw[Zd n] at h;exact h
 refine Zb (Zb (Q5 (by omega) hx1 hy1 ?_));by_cases e1:x1=y1
 case neg=>
  rw[Zd e1];exact Zb (Ze (Ze (Ze (Ze (no fun z=>e1 (by injection z))))))
 rw[Zc e1];refine Ze (Zb (Zb ((Yr prog w).eqBool (a:=.inl x2) (b:=.inl y2) (Xf prog w x2 ta) (Xf prog w y2 tb) ?_)));by_cases e2:(Sum.inl x2:N2) = .inl y2
 case neg=>
  rw[Zd e2];exact Zb (Ze (Ze (Ze (Ze (no fun z=>e2 (by injection z with z1 z2;rw[z2]))))))
 rw[Zc e2];have e2':x2=y2:=by injection e2
 subst e1 e2';rw[Zc rfl] at h;exact Ze (Ze (Ze h))
theorem Rx{x y:Ew}{a b:Addr}{Q:Bool→Shared→Prop}(hu:A.units+11 < cLine)(hx:IsPnK (prog:=prog) (w:=w) s.heap x a)(hy:IsPnK (prog:=prog) (w:=w) s.heap y b)(h:Q (decide (x=y)) s) :
  wpAny (model prog w) A (eqBool (.ref a) (.ref b)) Q E s:=by
 unfold eqBool
 try with_reducible refine wpAny_holding ?_
 show wpAny _ _ (if(Value.ref a == Value.ref b)=true then _ else _) Q E s;by_cases hab:(Value.ref a == Value.ref b)=true
 ·rw[Zv hab]
  have e:a=b:=by have:=eq_of_beq hab;injection this
  subst e;obtain rfl:=hx.inj hy;exact Zb (wpAny_rule (Ze (by simpa using h)))
 ·rw[Zj hab]
  exact Zb (wpAny_richCompare_same_room (op:=.Eq) hx.typeIs hy.typeIs F.slot_tuple_eq
   (wpAny_call_entry F.slot_tuple_eq hx.typeIs F.entry_tuple_eq (Zbn (show A.units+1+10 < cLine by omega) hx hy ⟨_,rfl,(fun e=>nomatch e),wpAny_truthy_bool h⟩) (F.args_tuple_eq_2 _ _)) (by omega))
theorem Ak(n:Nat){k:Uj}{a:Addr}{Q:Bool→Shared→Prop}(hk:IsPlK (prog:=prog) (w:=w) s.heap k a)(h:Q true s):wpAny (model prog w) A (eqIsQuiet (n+2) (.ref a)) Q E s:=by
 have hT:=hk.typeIs;obtain⟨o,m,b,c,t,ho,_,hd,h1,h2⟩:=hk;unfold eqIsQuiet;refine Zb (wpAny_specialOf hT F.slot_tuple_eq.lookup ?_);show wpAny _ _ (isInstance (.ref a) (.type "tuple") >>= _) _ _ s;refine Zb (wpAny_isInstance hT isSubtype_tuple_tuple ?_);simp only[Bool.not_true,Bool.false_eq_true,if_false];refine Zb (wpAny_seqItems ho hd ?_);refine Zb ?_;show wpAny _ _ (forIn #[Value.ref b,Value.int k.2.1 t,Value.ref c] _ _) _ _ s;rw[← Array.forIn_toList];simp only[List.forIn_cons,List.forIn_nil];refine Zb (Zb (Ef n h1 (Ze ?_)));refine Zb ?_;rw[eqIsQuiet_byValue _ (rfl:carriedByValue (.int k.2.1 t)=true)];refine Zb (Ze (Ze ?_));refine Zb (Zb (Ef n h2 (Ze ?_)));exact Ze (Ze h)
theorem Zh4{k:Ew}{a:Addr}{Q:Bool→Shared→Prop}(hk:IsPnK (prog:=prog) (w:=w) s.heap k a)(h:Q true s):wpAny (model prog w) A (eqIsQuiet 8 (.ref a)) Q E s:=by
 have hT:=hk.typeIs;obtain⟨o,n,b,t,ho,_,hd,h1⟩:=hk;unfold eqIsQuiet;refine Zb (wpAny_specialOf hT F.slot_tuple_eq.lookup ?_);show wpAny _ _ (isInstance (.ref a) (.type "tuple") >>= _) _ _ s;refine Zb (wpAny_isInstance hT isSubtype_tuple_tuple ?_);simp only[Bool.not_true,Bool.false_eq_true,if_false];refine Zb (wpAny_seqItems ho hd ?_);refine Zb ?_;show wpAny _ _ (forIn #[Value.ref b,Value.int k.2 t] _ _) _ _ s;rw[← Array.forIn_toList];simp only[List.forIn_cons,List.forIn_nil];refine Zb (Zb (Ak 5 h1 (Ze ?_)));refine Zb ?_;rw[eqIsQuiet_byValue _ (rfl:carriedByValue (.int k.2 t)=true)];refine Zb (Ze (Ze ?_));exact Ze (Ze h)
end
def Zon(prog:Program)(w:World):HeapKind prog w Ew where
 is:=IsPnK (prog:=prog) (w:=w)
 hash:=Zh9 prog w
 draws:=fun k=>k.1.1.length+1+1+(k.1.2.2.length+1)+1+1+1
 room:=fun A=>A.units+11 < cLine
 inj:=fun hx hy=>hx.inj hy
 keeps:=fun x ho hd hs=>x.keeps ho hd hs
 pyHash:=fun hu hk h=>Rv (by omega) hk h
 eqBool:=fun hu hx hy h=>Rx hu hx hy h
 quiet:=fun hk h=>Zh4 hk h
def D5(H:Hp)(k:Ew)(a:Addr):Prop:=∃ p,H a=some (.tup [.ref p,.int k.2])∧PlKey H k.1 p
theorem Zh8{P:Program}{w:World}{H:Hp}{h:Heap}{k:Ew}{p:Addr}(ok:HOk P w H h)(e:D5 H k p):IsPnK (prog:=P) (w:=w) h k p:=by
 obtain⟨q,e1,e2⟩:=e;obtain⟨_,its,r,o,h1,h2,n,h3⟩:=(show ObjOk P w H h p (.tup [.ref q,.int k.2]) from ok p _ e1);cases r with
 | cons r1 r=>
 cases r with
 | cons r2 r=>
 cases r;obtain⟨t,r2⟩:=r2;cases r1;subst r2;exact⟨o,n,q,t,h1,h2,h3,El ok e2⟩
def Uk(P:Program)(w:World):HKnd P w Ew where
 knd:=Zon P w
 isH:=D5
 ok:=fun ok e=>Zh8 ok e
 mono:=fun⟨q,e1,e2⟩ ht=>⟨q,ht _ _ e1,e2.mono ht⟩
 room:=fun {A} hu=>show A.units+1+11 < cLine by omega
section
variable{prog:Program}{w:World}{A:Around}{E:Value→Shared→Prop}{s:Shared}
theorem Zcc{v d:Addr}{o:Obj}{es:Array DictEntry}{ep:Nat}{Q:Value→Shared→Prop}(hv:s.heap.IsItemsView v d)(ho:s.heap.get? d=some o)(hd:o.data = .dict es ep)
  (hQ:Q (.ref s.heap.objs.size) { s with heap:=s.heap.push { cls:=.type "dict_itemiterator",data:=.fields #[.none,.bool false,.ref d,.int 0 0,.int es.size 0,.int ep 0,.none,.none] } }) :
  wpAny (model prog w) A (pyIter (.ref v)) Q E s:=by
 obtain⟨ov,hov,hcv,hdv⟩:=id hv;refine wpAny_pyIter_slot hv.typeIs F.slot_dict_items_iter (wpAny_call_entry F.slot_dict_items_iter hv.typeIs F.entry_dict_items_iter ?_ (F.args_dict_items_iter_1 _));unfold Builtin.«dict_items.__iter__»;refine Zb (Ze ?_);refine Zb ?_;unfold Builtin.Dict_items.dictOf;refine Zb (wpAny_field hov hdv (x:=.ref d) rfl (Ze ?_));refine Zb ?_;unfold Builtin.Dict_items.newIterator;refine Zb (wpAny_dictEntries ho hd ?_);refine Zb (wpAny_dictEpoch ho hd ?_);have hown:Builtin.Dict_items.ownsTuple "dict_itemiterator" = true:=by decide
 simp only[hown,if_true];refine wpAny_newObj_type (Ze ⟨_,rfl,"dict_itemiterator",_,⟨_,Z6 _ rfl,rfl⟩,F.slot_dict_itemiterator_next.lookup,?_⟩)
  (by simp only[sizeOk,Builtin.Dict_items.ownedTupleFields,Z1,Jc,Jo,List.length_nil,sizeLine_eq];omega)
 simpa [rawInt,Builtin.Dict_items.ownedTupleFields] using hQ
theorem Zcb{it d:Addr}{i ep:Nat}{o:Obj}{es:Array DictEntry}{ok ov:Value}{Q:Option Value→Shared→Prop}(hit:IsItemIter s.heap it d i es.size ep ok ov)(hod:s.heap.get? d=some o)(hdd:o.data = .dict es ep)(hlt':i < es.size)
  (hQ:∀ h',IsItemIterOut h' it d (i+1) es.size ep es[i].key es[i].val s.heap.objs.size →
   h'.get? s.heap.objs.size=some { cls:=.type "tuple",data:=.seq #[es[i].key,es[i].val] }→h'.objs.size=s.heap.objs.size+1 →
   (∀ b o,b≠it→s.heap.get? b=some o→h'.get? b=some o)→Q (some (.ref s.heap.objs.size)) { s with heap:=h' }) :
  wpAny (model prog w) A (pyNext (.ref it)) Q E s:=by
 obtain⟨hp,g,dr,tk,os⟩:=s;have hT:Shared.TypeIs ⟨hp,g,dr,tk,os⟩ (.ref it) "dict_itemiterator":=⟨_,hit,rfl⟩;unfold pyNext;refine Zb (wpAny_attempt (wpAny_callSpecial?_slot (name:=Str.ofString "__next__") hT F.slot_dict_itemiterator_next
  (wpAny_call_entry F.slot_dict_itemiterator_next hT F.entry_dict_itemiterator_next ?_ (F.args_dict_itemiterator_next_1 _))))
 refine Zb (Ze ?_);refine Zb ?_;refine Zb ?_
 first | refine Zb (wpAny_typeNameOfWhole_itemiter hT (Ze ?_)) | refine Zb (wpAny_typeNameOf_itemiter hT (Ze ?_))
 refine Zb (wpAny_fieldsOf hit rfl ?_);have hown:Builtin.Dict_items.ownsTuple "dict_itemiterator" = true:=by decide
 simp only[hown,if_true];show wpAny _ _ (if(Value.ref d == Value.none)=true then _ else _) _ _ _;rw[Zj (show ¬ ((Value.ref d == Value.none)=true) from Zp)];refine Zb (Ze ?_);refine Zb (wpAny_dictEntries hod hdd ?_);rw[Zj (by simp)];refine Zb (Ze ?_);refine Zb (wpAny_dictEpoch hod hdd ?_);rw[Zj (by simp)];refine Ze ?_;simp only[show ¬ ((i:Int) < 0) from by omega,if_false,Z2,Array.getElem?_eq_getElem hlt'];refine Zb ?_
 first | refine Zb (wpAny_typeNameOfWhole_itemiter hT (Ze ?_)) | refine Zb (wpAny_typeNameOf_itemiter hT (Ze ?_))
 refine Zb (wpAny_isOneOf_itemiter hT ?_);show wpAny _ _ (setField (.ref it) 3 (rawInt ((i:Int)+1)) >>= _) _ _ ⟨hp,g,dr,tk,os⟩;refine Zb (wpAny_setField_rec hit (by simp) fun h₁ he₁ hs₁=>?_)
 replace hs₁:Heap.SameBut it hp h₁:=hs₁
 replace he₁:IsItemIter h₁ it d (i+1) es.size ep ok ov:=by
  have e:((i+1:Nat):Int)=(i:Int)+1:=by omega
  unfold IsItemIter;rw[e];simpa [rawInt] using he₁
 have hT₁:Shared.TypeIs ⟨h₁,g,dr,tk,os⟩ (.ref it) "dict_itemiterator":=⟨_,he₁,rfl⟩;refine Zb (wpAny_holding ?_);refine Zb (wpAny_isOneOf_itemiter hT₁ ?_);refine Zb (wpAny_isOneOf_itemiter hT₁ ?_);show wpAny _ _ (Builtin.Dict_items.pairFromOwner (.ref it) 6 es[i].key es[i].val) _ _ ⟨h₁,g,dr,tk,os⟩;unfold Builtin.Dict_items.pairFromOwner;refine Zb (wpAny_newTuple ?_);have he₂:IsItemIter (h₁.push { cls:=.type "tuple",data:=.seq #[es[i].key,es[i].val] }) it d (i+1) es.size ep ok ov:=Zh _ he₁;generalize hh₂:h₁.push { cls:=.type "tuple",data:=.seq #[es[i].key,es[i].val] }=h₂ at he₂;have hz₁:h₁.objs.size=hp.objs.size:=hs₁.1;have hil:it < hp.objs.size:=Z3 hit;have ht₂:h₂.get? hp.objs.size=some { cls:=.type "tuple",data:=.seq #[es[i].key,es[i].val] }:=by rw[← hh₂,← hz₁];exact Z6 _ rfl
 have hz₂:h₂.objs.size=hp.objs.size+1:=by rw[← hh₂,Heap.size_push,hz₁]
 have hk₂:∀ b o,b≠it→hp.get? b=some o→h₂.get? b=some o:=fun b o hb e=>by rw[← hh₂];exact Zh _ (hs₁.extBut b o hb e)
 show wpAny _ _ (Builtin.Dict_items.ownedTupleIsFree (.ref it) >>= _) _ _ ⟨h₂,g,dr,tk,os⟩;rw[hz₁]
 clear hh₂ he₁ hs₁ hT₁ hz₁ h₁
 refine Zb ?_;unfold Builtin.Dict_items.ownedTupleIsFree;refine Zb (wpAny_field he₂ rfl (x:=.none) rfl (Ze ?_));simp only[if_true];refine Zb (wpAny_field he₂ rfl (x:=ok) rfl ?_);refine Zb (wpAny_field he₂ rfl (x:=ov) rfl ?_);refine Zb (wpAny_setField_rec he₂ (by simp) fun h₃ he₃ hs₃=>?_)
 replace hs₃:Heap.SameBut it h₂ h₃:=hs₃
 replace he₃:IsItemIter h₃ it d (i+1) es.size ep es[i].key ov:=he₃
 refine Zb (wpAny_setField_rec he₃ (by simp) fun h₄ he₄ hs₄=>?_)
 replace hs₄:Heap.SameBut it h₃ h₄:=hs₄
 replace he₄:IsItemIter h₄ it d (i+1) es.size ep es[i].key es[i].val:=he₄
 refine Zb (wpAny_setField_rec he₄ (by simp) fun h₅ he₅ hs₅=>?_)
 replace hs₅:Heap.SameBut it h₄ h₅:=hs₅
 replace he₅:IsItemIterOut h₅ it d (i+1) es.size ep es[i].key es[i].val hp.objs.size:=he₅
 refine Zb (wpAny_setField_rec he₅ (by simp) fun h₆ he₆ hs₆=>?_)
 replace hs₆:Heap.SameBut it h₅ h₆:=hs₆
 replace he₆:IsItemIterOut h₆ it d (i+1) es.size ep es[i].key es[i].val hp.objs.size:=he₆
 refine Zb (wpAny_letGo (Ze (Ze ⟨_,rfl,Ze (hQ h₆ he₆ ?_ ?_ ?_)⟩)))
 ·exact hs₆.extBut _ _ (Nat.ne_of_gt hil) (hs₅.extBut _ _ (Nat.ne_of_gt hil) (hs₄.extBut _ _ (Nat.ne_of_gt hil) (hs₃.extBut _ _ (Nat.ne_of_gt hil) ht₂)))
 ·show h₆.objs.size=hp.objs.size+1
  rw[hs₆.1,hs₅.1,hs₄.1,hs₃.1,hz₂]
 ·exact fun b o hb e=>hs₆.extBut b o hb (hs₅.extBut b o hb (hs₄.extBut b o hb (hs₃.extBut b o hb (hk₂ b o hb e))))
theorem Zfx{it d:Addr}{i ep:Nat}{o:Obj}{es:Array DictEntry}{ok ov:Value}{Q:Option Value→Shared→Prop}(hh:A.handled=none)(hit:IsItemIter s.heap it d i es.size ep ok ov)(hod:s.heap.get? d=some o)(hdd:o.data = .dict es ep)(hge:es.size≤i)
  (hQ:∀ h',Heap.ExtBut it s.heap h'→Q none { s with heap:=h' }):wpAny (model prog w) A (pyNext (.ref it)) Q E s:=by
 have hT:s.TypeIs (.ref it) "dict_itemiterator":=⟨_,hit,rfl⟩;unfold pyNext;refine Zb (wpAny_attempt (wpAny_callSpecial?_slot (name:=Str.ofString "__next__") hT F.slot_dict_itemiterator_next
  (wpAny_call_entry F.slot_dict_itemiterator_next hT F.entry_dict_itemiterator_next ?_ (F.args_dict_itemiterator_next_1 _))))
 refine Zb (Ze ?_);refine Zb ?_;refine Zb ?_
 first | refine Zb (wpAny_typeNameOfWhole_itemiter hT (Ze ?_)) | refine Zb (wpAny_typeNameOf_itemiter hT (Ze ?_))
 refine Zb (wpAny_fieldsOf hit rfl ?_);have hown:Builtin.Dict_items.ownsTuple "dict_itemiterator" = true:=by decide
 simp only[hown,if_true];show wpAny _ _ (if(Value.ref d == Value.none)=true then _ else _) _ _ s;rw[Zj (show ¬ ((Value.ref d == Value.none)=true) from Zp)];refine Zb (Ze ?_);refine Zb (wpAny_dictEntries hod hdd ?_);rw[Zj (by simp)];refine Zb (Ze ?_);refine Zb (wpAny_dictEpoch hod hdd ?_);rw[Zj (by simp)];refine Ze ?_;simp only[show ¬ ((i:Int) < 0) from by omega,if_false,Z2,Array.getElem?_eq_none hge];refine Zb ?_
 first | refine Zb (wpAny_typeNameOfWhole_itemiter hT (Ze ?_)) | refine Zb (wpAny_typeNameOf_itemiter hT (Ze ?_))
 show wpAny _ _ (setField (.ref it) 2 .none >>= _) _ _ s;refine Zb (wpAny_setField hit rfl (by simp) ?_);show wpAny _ _ (newExc (.type "StopIteration") [] >>= _) _ _ _;refine Zb ?_;simp only[newExc,newTuple];refine Zb (wpAny_newObj_type ?_ (by size_fits));refine Zb (m:=firstArgMember _ _) (wpAny_of_eq (a:=Value.none) (by first | rfl | (simp only[firstArgMember];rfl)) ?_);refine wpAny_newObj_type ?_ (by size_fits);simp only[raiseNew];refine Zb (wpAny_handled ?_);rw[show A.in1.handled=none from hh];refine Zb (Ze (wpAny_throw ?_));refine Zb (wpAny_isInstance (T:="StopIteration") (b:=true) ⟨_,Z6 _ rfl,rfl⟩ isSubtype_stop ?_);exact Ze (hQ _ (((Heap.SameBut.update ..).extBut.push _).push _))
theorem Sq(d:Addr)(hd:(d == sysModules)=false) :
  MeetsIn prog w (Builtin.«dict.items» ⟨[.ref d],[]⟩) (fun _ R s=>s.TypeIs (.ref d) "dict" ∧
   R (.ok (.ret (.ref s.heap.objs.size))) { s with heap:=s.heap.push { cls:=.type "dict_items",data:=.fields #[.ref d] } }):=
 .of_wp fun A R s ⟨hm,h⟩=>by
  unfold Builtin.«dict.items»;refine Zb ?_;unfold Builtin.Dict.noArgs;refine Zb (wpAny_notOrdered_dict hm ?_);show wpAny _ _ (pure d) _ _ s;refine Ze ?_;show wpAny _ _ (Builtin.Dict.showsAll d >>= _) _ _ s;unfold Builtin.Dict.showsAll;rw[Zj (by rw[hd];exact Zp)];refine Zb (Ze ?_);exact Zb (wpAny_newObj_type (Ze ⟨_,rfl,h⟩))
end
section
variable{K:Type} [DecidableEq K]{P:Program}{w:World}(T:HKnd P w K)
def Qt(a:Addr)(es:List (Xc K))(ep:Nat):HO:=HO.ext fun h=>(a == sysModules)=false∧es.length≤sizeLine∧∃ xs,GRel es xs∧∃ o el,h.get? a=some o∧o.ExactDict∧o.data = .dict el ep∧el.toList=xs.map (entryOfKey T.knd)∧(xs.map (·.1)).Nodup
variable{T}
theorem Znq{H:Hp}{h:Heap}{a:Addr}{es:List (Xc K)}{ep:Nat}(ok:HOk P w H h)(e:H a=some (Qt T a es ep)):∃ o el,h.get? a=some o∧o.data = .dict el ep∧el.size=es.length∧∀ i (hi:i < el.size),∃ k b y u,es[i]? = some (k,b,y)∧el[i].key = .ref b∧el[i].val=u∧RelV y u:=by
 obtain⟨⟨hd,hz,xs,r,o,el,h1,h2,h3,h4,h5⟩,_⟩:=(show ObjOk P w H h a (Qt T a es ep) from ok a _ e);have l1:es.length=xs.length:=Paired.length r;have l2:el.size=xs.length:=by
  have:=congrArg List.length h4;rw[Zk] at this
  simpa using this
 refine⟨o,el,h1,h3,by omega,fun i hi=>?_⟩;have hx:i < xs.length:=by omega
 have all:∀{l:List (Xc K)} {m:List (K×Addr×Value)},GRel l m→∀(i:Nat) (q:K×Addr×Value),m[i]? = some q→∃ p,l[i]? = some p∧p.1=q.1∧p.2.1=q.2.1∧RelV p.2.2 q.2.2:=by
  intro l m q
  induction q with
  | nil=>intro i q e;simp at e
  | @cons p q ps qs hq t ih=>
   intro i z e;cases i with
   | zero=>
    have e':q=z:=by simpa using e
    subst e';exact⟨p,rfl,hq⟩
   | succ i=>exact ih i z (by simpa using e)
 obtain⟨p,hp,p1,p2,p3⟩:=all r i xs[i] (Zg hx);have ee:el[i]=entryOfKey T.knd xs[i]:=by
  have:el.toList[i]? = (xs.map (entryOfKey T.knd))[i]?:=by rw[h4]
  rw[Z4,Zg hx] at this;have t2:el.toList[i]? = some el[i]:=by simp [hi]
  rw[t2] at this;exact Zy this
 refine⟨p.1,p.2.1,p.2.2,xs[i].2.2,hp,?_,?_,p3⟩
 ·rw[ee,p2]
  rfl
 ·rw[ee]
  rfl
theorem Zpu{H:Hp}{h:Heap}{a:Addr}{es:List (Xc K)}(ok:HOk P w H h)(e:H a=some (Up T a es)):∃ ep,(∃ o el,h.get? a=some o∧o.ExactDict∧o.data = .dict el ep∧el.size=es.length)∧(a == sysModules)=false∧∀ H',ObjOk P w H' h a (Qt T a es ep):=by
 obtain⟨⟨hd,hz,xs,r,o,el,ep,h1,h2,h3,h4,h5⟩,_⟩:=(show ObjOk P w H h a (Up T a es) from ok a _ e);have l1:es.length=xs.length:=Paired.length r;have l2:el.size=xs.length:=by
  have:=congrArg List.length h4;rw[Zk] at this
  simpa using this
 refine⟨ep,⟨o,el,h1,h2,h3,by omega⟩,hd,fun H'=>⟨⟨hd,hz,xs,r,o,el,h1,h2,h3,h4,h5⟩,⟨o,h1⟩,fun g1 g2 z k=>?_⟩⟩;obtain⟨hd,hz,xs,r,o,el,h1,h2,h3,h4,h5⟩:=z;exact⟨hd,hz,xs,r,o,el,k _ h1,h2,h3,h4,h5⟩
def Itd(T:HKnd P w K)(d:Addr)(es:List (Xc K))(ep:Nat):It:=
 ⟨fun i H=>H d=some (Qt T d es ep)∧i < es.length,fun i H v H'=>∃ p k b y,v = .ref p∧H p=none∧H'=upd H p (.tup [.ref b,y])∧es[i]? = some (k,b,y),fun i H=>H d=some (Qt T d es ep)∧es.length≤i⟩
theorem Zao{F:W.Frag}{elts:List Expr}{x1}{tp:Pos}(it d:Addr)(es:List (Xc K))(ep:Nat)(hne:it≠d) :
  Turn P w F (.Tuple elts x1 tp) (Itd T d es ep) [it] it (fun i h=>∃ ok ov,IsItemIter h it d i es.length ep ok ov) where
 mem:=by simp
 obj:=fun i h st c hc=>by
  obtain⟨ok,ov,st⟩:=st;cases Jg.mp hc;exact⟨_,st,fun v z=>by cases z⟩
 keep:=fun i h h' st k=>by
  obtain⟨ok,ov,st⟩:=st;exact⟨ok,ov,k it (by simp) _ st⟩
 item:=by
  intro X hP hw hK hc i pins s σ H E I hf st hg;subst hP hw hK;obtain⟨hd,hi⟩:=hg;obtain⟨ok,ov,st⟩:=st;obtain⟨o,el,h1,h2,h3,h4⟩:=Znq I.hok hd;have hi':i < el.size:=by omega
  obtain⟨k,b,y,u,e1,e2,e3,e4⟩:=h4 i hi';rw[← h3] at st;refine Zcb st h1 h2 hi' fun h' z1 z2 z3 hk=>⟨_,rfl,?_⟩;refine wpAny_letOwnedTupleGo_items z1 fun h5 z7 sb=>?_;have sb':Heap.SameBut it h' h5:=sb;have lz:it < s.heap.objs.size:=Z3 st;rw[e2,e3] at z2;have I1:Inv X pins σ (upd H s.heap.objs.size (.tup [.ref b,y])) { s with heap:=s.heap.push { cls:=.type "tuple",data:=.seq #[.ref b,u] },toks:=s.toks }:=
   I.laid (t':=s.toks) (fun c ob q=>Zh _ q) (Zs _) ⟨by rw[sizeLine_eq];show 2≤_;decide,[.ref b,u],.cons rfl (.cons e4 .nil),IsTup.new _ _⟩
  have fr:∀ c∈[it],upd H s.heap.objs.size (.tup [.ref b,y]) c=none:=fun c hc=>by
   cases Jg.mp hc;rw[Z8 (Jh lz)];exact(hf it (by simp)).1
  have I2:=I1.turnedAll (h':=h5) (t':=s.toks) (fp:=[it]) (fun c o hc q=>by
   have n1:c≠it:=fun z=>hc (by rw[z];simp);by_cases dd:c=s.heap.objs.size
   ·subst dd
    have q2:=(Z6 s.heap (o:={ cls:=.type "tuple",data:=.seq #[.ref b,u] }) rfl).symm.trans q;cases q2;exact(sb'.2 _ n1).trans z2
   ·have q1:s.heap.get? c=some o:=by
     have q0:(s.heap.push { cls:=.type "tuple",data:=.seq #[.ref b,u] }).get? c=some o:=q
     rwa [Heap.get?_push_ne _ _ _ dd] at q0
    exact(sb'.2 c n1).trans (hk c o n1 q1)) (fun c hc=>⟨fr c hc,(hf c hc).2⟩)
  refine⟨.ref s.heap.objs.size,_,I2,rfl,⟨s.heap.objs.size,k,b,y,rfl,I.fresh,rfl,e1⟩,⟨_,_,by rw[← h3];exact z7⟩,fr⟩
 done:=by
  intro X hP hw hK hc i pins s σ H E I hf st hg;subst hP hw hK;obtain⟨hd,hi⟩:=hg;obtain⟨ok,ov,st⟩:=st;obtain⟨o,el,h1,h2,h3,h4⟩:=Znq I.hok hd;rw[← h3] at st;refine Zfx (I.ok.hd hc) st h1 h2 (by omega) fun h' hk=>⟨rfl,I.turnedAll (t':=s.toks) (fun c o hc q=>?_) hf⟩;exact hk c o (fun z=>hc (by rw[z];simp)) q
 self:=fun A i s Q E st h=>by
  obtain⟨ok,ov,st⟩:=st;exact W.kcp_self st h
end
section
variable{K:Type} [DecidableEq K]{X:Cx}(T:HKnd X.prog X.w K)
def Zpq(td:TE):TI:=fun σ H R=>td σ H fun x H1=>∃ a es,x = .ref a∧H1 a=some (Up T a es)∧∀ ep,R (Itd T a es ep) (upd H1 a (Qt T a es ep))
theorem Zic{o:Expr}{apos cpos tp:Pos}{elts:List Expr}{x1}{td:TE}(ho:PE X o td)(hbase:attributeBase o "items" X.env (eval o X.env)=eval o X.env:=by rfl)(hline:(apos.endLine == cpos.line)=true:=by rfl) :
  PI X (.Tuple elts x1 tp) (.Call (.Attribute o "items" apos) [] [] cpos) (Zpq T td):=by
 intro pins s σ H R I h;refine wpAny_Call_method (T:="dict") (id:="dict.items") hbase rfl hline PySem.F.plainAttrs_dict PySem.F.slot_dict_items PySem.F.type_dict_items (Ub (ho pins s σ H _ I h) fun u s1 ⟨x,H1,I1,rx,a,es,ex,d,q⟩=>?_);subst ex;obtain rfl:u=Value.ref a:=rx;obtain⟨ep,⟨o',el,g1,g2,g3,g4⟩,hd,gn⟩:=Zpu I1.hok d;have hT:s1.TypeIs (.ref a) "dict":=⟨o',g1,g2.1⟩;refine⟨hT,fun b z=>by cases z;exact⟨o',g1,g2.2.1⟩,?_⟩;have la:a < s1.heap.objs.size:=Z3 g1;refine method_meetsIn PySem.F.slot_dict_items PySem.F.entry_dict_items rfl (PySem.evalArgs_none ⟨rfl,hT,PySem.F.args_dict_items_1 _,_,Sq a hd,hT,?_⟩);have I2:Inv X pins σ (upd H1 a (Qt T a es ep)) s1:=by
  have:=A0 (h':=s1.heap) (t':=s1.toks) (ob:=Qt T a es ep) I1 (by rw[d];exact True.intro) (Heap.SameBut.refl _ _) ⟨o',g1⟩ (gn _);exact this
 have g1':=Zh { cls:=.type "dict_items",data:=.fields #[.ref a] } g1;refine Zcc (o:=o') (es:=el) (ep:=ep) ⟨_,Z6 _ rfl,rfl,rfl⟩ g1' g3 ?_;have k2:∀ b u,s1.heap.get? b=some u→((s1.heap.push { cls:=.type "dict_items",data:=.fields #[.ref a] }).push { cls:=.type "dict_itemiterator",data:=.fields #[.none,.bool false,.ref a,.int 0 0,.int el.size 0,.int ep 0,.none,.none] }).get? b=some u:=fun b u e=>Zh _ (Zh _ e);have I3:=I2.kept (t':=s1.toks) k2;have sz:(s1.heap.push { cls:=.type "dict_items",data:=.fields #[.ref a] }).objs.size=s1.heap.objs.size+1:=Heap.size_push _ _;refine⟨_,[(s1.heap.push { cls:=.type "dict_items",data:=.fields #[.ref a] }).objs.size],_,Itd T a es ep,_,rfl,I3,Zao _ a es ep (Nat.ne_of_gt (show a < (s1.heap.push { cls:=.type "dict_items",data:=.fields #[.ref a] }).objs.size by rw[sz];exact Nat.lt_succ_of_lt la)),⟨_,_,by rw[← g4];exact Z6 _ rfl⟩,fun c hc=>?_,q ep⟩;have hc':s1.heap.objs.size≤c:=by
  rw[Jg.mp hc,sz];omega
 exact I2.fpOk (H':=upd H1 a (Qt T a es ep)) hc' (I2.hok.fresh hc')
end
theorem Zab{K:Type} [DecidableEq K]{P:Program}{w:World}{T:HKnd P w K}{F:W.Frag}{te:TE}{σ0:St}{H1:Hp}{Q:V→Hp→Prop}{a:Addr}{es:List (Xc K)}{ep:Nat}(hS:H1 a=some (Qt T a es ep))(G:Addr→Nat→V→Hp→Prop)(hn:es.length≤sizeLine)
  (hG:∀ l i v H H',G l i v H→Same H H'→G l i v H') (hU:∀ l i v H xs ys,G l i v H→H l=some (.lst xs)→G l i v (upd H l (.lst ys)))
  (hE:∀ i k b y H l vs,es[i]? = some (k,b,y)→Same H1 H→H1 l=none→H l=some (.lst vs)→∀ R:V→Hp→Prop,(∀ v H',Same H H'→G l i v H'→R v H')→te ((σ0.set 0 (some (.ref b))).set 1 (some y)) H R)
  (hQ:∀ l H vs,Same H1 H→H1 l=none→H l=some (.lst vs)→vs.length=es.length→(∀ i v,vs[i]? = some v→G l i v H)→Q (.ref l) H):Ey (Zmv F 2 (S3 (Qw 0) (S3 (Qw 1) Zpv))) Zgz te σ0 (Itd T a es ep) H1 Q:=by
 intro l hl;refine⟨fun i m σ H=>m=es.length - i∧i≤es.length∧Same H1 H∧(∃ vs,H l=some (.lst vs)∧vs.length=i∧∀ j v,vs[j]? = some v→G l j v H)∧∀ o o',(σ.set 0 o).set 1 o'=(σ0.set 0 o).set 1 o',⟨es.length,by simp,Nat.zero_le _,Je hl _,⟨[],Zq,rfl,fun j v e=>nomatch e⟩,fun _ _=>rfl⟩,?_⟩;rintro i m σ H ⟨rfl,hi,sm,⟨vs,hL,hvl,hvs⟩,hσ⟩;have hA':=sm _ _ hS;by_cases lt:i < es.length
 ·refine .inr ⟨⟨hA',lt⟩,fun x H' y=>?_⟩
  obtain⟨p,k,b,v,rfl,hp,rfl,ex⟩:=y;have s2:=Je hp (.tup [.ref b,v]);refine⟨p,_,rfl,SqT.of Zq,rfl,_,_,rfl,_,_,rfl,rfl,?_⟩;unfold Zgz;dsimp only;rw[Zv rfl];show te ((σ.set 0 (some (.ref b))).set 1 (some v)) (upd H p (.tup [.ref b,v])) _;rw[hσ];refine hE i k b v _ l vs ex (sm.trans s2) hl (s2 _ _ hL) _ fun z H3 s3 hv=>⟨vs,s3 _ _ (s2 _ _ hL),by omega,es.length - (i+1),by omega,rfl,lt,N6 hl ((sm.trans s2).trans s3) _,⟨vs++[z],Zq,by rw[Jc,hvl];rfl,fun j u hu=>?_⟩,fun o o'=>Zn4 _ _ _ _ _⟩;refine hU l j u H3 vs _ ?_ (s3 _ _ (s2 _ _ hL));by_cases q:j < vs.length
  ·rw[Xp q] at hu
   exact hG l j u _ H3 (hG l j u H _ (hvs j u hu) s2) s3
  ·have:=(Zu.mp hu).1
   rw[Jc,List.length_singleton] at this;have e:j=vs.length:=by omega
   subst e;rw[Xh (Zs _),Nat.sub_self] at hu;cases hu;rw[hvl];exact hv
 ·have e:i=es.length:=by omega
  subst e;exact .inl ⟨⟨hA',Zs _⟩,hQ l H vs sm hl hL hvl hvs⟩
end L2
namespace My
open PySem L2
abbrev Oz:Stmt:=Yn (top 37) 0
abbrev Ve:Stmt:=Yn (top 37) 1
abbrev Tb:Stmt:=Yn (top 37) 2
abbrev N7:Stmt:=Yn (top 37) 3
abbrev Gf:Stmt:=Yn (top 37) 4
section
variable{P:Program}{w:World}{K:W.Frag}{mg:Str→Option Value}{base:Heap}{f g:Addr}{fd gd:FuncData}
theorem Zol{fx:Fx}(ok:fx.Ok){t:Option Nat}{side:Nat}{hs:List Nat}{lead:Nat}{ys:List Nat}{m:Nat}(Pl:Plc fx hs lead ys m):(prL fx t side hs lead ys m).length≤100:=by
 obtain⟨h,eh,epc⟩:=Pl.turn ok;have m32:m≤32:=by
  rw[← epc];unfold Xi;have:=List.length_filter_le (fun b=>h.testBit b) (List.range 32);rw[Yb] at this;exact this
 unfold prL;rw[Zk];unfold My.moveL;split
 ·simp
 ·rw[Zr,eh]
  have:=Vk (fx:=fx) (t:=t) (ys:=ys) (Pl.h32 ok (Zl eh));show(Us fx t ys h).length≤100;omega
theorem Be{H1 H':Hp}{x dx:Addr}{o:HO}(hx:H1 x=none)(hd:H1 dx=none)(n:dx≠x)(kp:∀ b u,b≠x→(upd (upd H1 dx (.own x)) x o) b=some u→H' b=some u):Same H1 H':=fun b u hb=>
 kp b u (Jz hb hx) (Uq hx hd n b u hb)
structure WrC(K:W.Frag)(mg:Str→Option Value)(CW:Addr):Prop where
 cl:Cls K CW
 mW:mg "Writing" = some (.ref CW)
 n1:NoAttr K CW "game"
 n2:NoAttr K CW "side"
 n3:NoAttr K CW "reckoning"
 n4:NoAttr K CW "cards_of_rows"
def wrN:List Str:=["game","side","reckoning","cards_of_rows"]
structure WrF(gm rk dc:Addr)(side:Nat)(fs:List (Str×V)):Prop where
 l1:fs.lookup ("game":Str)=some (.ref gm)
 l2:fs.lookup ("side":Str)=some (.int (side:Nat))
 l3:fs.lookup ("reckoning":Str)=some (.ref rk)
 l4:fs.lookup ("cards_of_rows":Str)=some (.ref dc)
 nm:∀ m:Str,m∉wrN→fs.lookup m=none
def Qr(as:List (Rw×Addr)):List (Xc Ew):=as.map fun e=>((e.1.k,e.1.nd),e.2,Nc e.1.cd)
structure Wr(P:Program)(w:World)(CR CW:Addr)(S:By)(fx:Fx)(t:Option Nat)(side:Nat)(H:Hp)(v gm rk dk:Addr)(es:List Xb)(dc:Addr)(as:List (Rw×Addr)):Prop where
 o:∃ dx fs,H v=some (.ins CW dx fs)∧WrF gm rk dc side fs
 r:Rk P w CR S fx t side H rk gm dk es
 d:H dc=some (Up (Uk P w) dc (Qr as))
 ks:GKeys (Uk P w) H (Qr as)
 ne:dc≠dk
def KpW(dk dc:Addr)(H H':Hp):Prop:=∀ b o,b≠dk→b≠dc→H b=some o→H' b=some o
theorem KpW.refl(dk dc:Addr)(H:Hp):KpW dk dc H H:=fun b o _ _ h=>h
theorem KpW.trans{dk dc:Addr}{H H1 H2:Hp}(a:KpW dk dc H H1)(b:KpW dk dc H1 H2):KpW dk dc H H2:=fun x o n1 n2 h=>b x o n1 n2 (a x o n1 n2 h)
section
variable{CR CW v gm rk dk dc:Addr}{S:By}{fx:Fx}{t:Option Nat}{side:Nat}{H H':Hp}{es:List Xb}{as:List (Rw×Addr)}
theorem Wr.same(h:Wr P w CR CW S fx t side H v gm rk dk es dc as)(s:Same H H'):Wr P w CR CW S fx t side H' v gm rk dk es dc as:=by
 obtain⟨⟨dx,fs,a,b⟩,r,d,ks,ne⟩:=h;exact⟨⟨dx,fs,s _ _ a,b⟩,r.same s,s _ _ d,ks.mono _ (fun b ys e=>s _ _ e),ne⟩
theorem Wr.ndc{b:Addr}{o:HO}(h:Wr P w CR CW S fx t side H v gm rk dk es dc as)(hb:H b=some o)(n:∀ φ,o≠HO.ext φ):b≠dc:=fun z=>by
 have:=h.d;rw[← z,hb] at this;exact n _ (Zy this)
theorem Wr.didR{es':List Xb}(h:Wr P w CR CW S fx t side H v gm rk dk es dc as)(k:KpD dk H H')(r:Rk P w CR S fx t side H' rk gm dk es'):Wr P w CR CW S fx t side H' v gm rk dk es' dc as:=by
 obtain⟨⟨dx,fs,a,b⟩,r0,d,ks,ne⟩:=h;exact⟨⟨dx,fs,k _ _ (r0.nd a (fun _ z=>nomatch z)) a,b⟩,r,k _ _ ne d,ks.mono _ (fun b ys e=>k _ _ (r0.nd e (fun _ z=>nomatch z)) e),ne⟩
theorem KpW.ofD(k:KpD dk H H'):KpW dk dc H H':=fun b o n _ h=>k b o n h
theorem KpW.ofS(s:Same H H'):KpW dk dc H H':=fun b o _ _ h=>s b o h
theorem KpW.pl{p:Addr}{hs ys:List Nat}{lead:Nat}(k:KpW dk dc H H')(h:Wr P w CR CW S fx t side H v gm rk dk es dc as)(hp:IsPl H p hs lead ys):IsPl H' p hs lead ys:=by
 obtain⟨a,b,h1,h2,h3⟩:=hp;exact⟨a,b,k _ _ (h.r.nd h1 (fun _ z=>nomatch z)) (h.ndc h1 (fun _ z=>nomatch z)) h1,k _ _ (h.r.nd h2 (fun _ z=>nomatch z)) (h.ndc h2 (fun _ z=>nomatch z)) h2,k _ _ (h.r.nd h3 (fun _ z=>nomatch z)) (h.ndc h3 (fun _ z=>nomatch z)) h3⟩
theorem KpW.gam{CT CG gx:Addr}(k:KpW dk dc H H')(h:Wr P w CR CW S fx t side H v gm rk dk es dc as)(g:GamH CT CG fx t H gm gx):GamH CT CG fx t H' gm gx:=by
 obtain⟨ok,⟨dg,hg⟩,⟨dx,po,to,a,b,c⟩⟩:=g;exact⟨ok,⟨dg,k _ _ (h.r.nd hg (fun _ z=>nomatch z)) (h.ndc hg (fun _ z=>nomatch z)) hg⟩,⟨dx,po,to,k _ _ (h.r.nd a (fun _ z=>nomatch z)) (h.ndc a (fun _ z=>nomatch z)) a,k _ _ (h.r.nd b (fun _ z=>nomatch z)) (h.ndc b (fun _ z=>nomatch z)) b,k _ _ (h.r.nd c (fun _ z=>nomatch z)) (h.ndc c (fun _ z=>nomatch z)) c⟩⟩
end
def N5(P:Program)(w:World)(CT CG CR CW:Addr)(S:By)(kb:Nat):Sp:=fun vs H Q _=>∃(v gm gx rk dk dc p:Addr) (t:Option Nat) (fx:Fx) (side:Nat) (hs:List Nat) (lead:Nat) (ys:List Nat) (m:Nat) (es:List Xb) (as:List (Rw×Addr)) (need:Int),vs=[.ref v,.ref p,.int need]∧Rl t∧Wr P w CR CW S fx t side H v gm rk dk es dc as∧GamH CT CG fx t H gm gx∧IsPl H p hs lead ys∧Plc fx hs lead ys m∧S fx t hs lead ys∧J4 hs≤kb∧es.length+Sn (J4 hs)≤1000000∧(∃ c∈moveL fx t hs lead ys m,need≤((numP fx t side hs lead ys c:Nat):Int)) ∧
 ∀ c es' H',KpD dk H H'→Wr P w CR CW S fx t side H' v gm rk dk es' dc as→c∈moveL fx t hs lead ys m→need≤((numP fx t side hs lead ys c:Nat):Int)→Q (.int ((c:Nat):Int)) H'
theorem Zey:FnScope ["self","place","need"] ["self","place","need"] (Zm Ve):=Uw (by decide +kernel)
theorem Zb1{S:By}{k kb:Nat}{CT CG CR CW m1:Addr}{e1:FuncData}(F:Fun K "card_for" "Writing.card_for" Ve f fd)(C:RkC K mg CR)(CWr:WrC K mg CW)(MP:Meth K CR "pairs" m1)(FP:FnOk P w K mg base Yq k m1 e1 ["self","place"] (Gb P w CT CG CR S kb))(BP:Binds K e1 ["self","place"] []):FnOk P w K mg base Yq (k+1) f fd ["self","place","need"] (N5 P w CT CG CR CW S kb):=by
 refine F.ok Zey (fun vs H Q E h=>?_) (fun cdv A outer s H vs Q E hr h=>?_)
 ·obtain⟨v,gm,gx,rk,dk,dc,p,t,fx,side,hs,lead,ys,m,es,as,need,rfl,_⟩:=h
  rfl
 obtain⟨v,gm,gx,rk,dk,dc,p,t,fx,side,hs,lead,ys,m,es,as,need,rfl,tb,Wv,G,hp,Pl,hs_,hk,hn,hex,q⟩:=h;refine⟨_,Zn (Z9 (Jr Y7 (Ug ["card","number","need"] [none,none,some 2] rfl (Blk.by (sc:=Zm Ve) (N0:=["self","place","need"]) rfl rfl (by decide +kernel)) (Y4 (Uf (Jt (pv 0) rfl) C.cl MP FP hr BP .nil Jb (Za (pv 1) Zf))) (fun C s₀ H₀ ex=>Gm (n:=2) K rfl rfl (Yj (Jp (i:=0) (show(["card","number","need"]:List Str).Nodup by decide +kernel) rfl (Or.inl rfl)) (Yj (Jp (i:=1) (show(["card","number","need"]:List Str).Nodup by decide +kernel) rfl (Or.inl rfl)) Ql)))
  (fun C s₀ H₀ ex=>Zie (Jm T3 (pv 1) (pv 2) (Jl _))) (fun C s₀ H₀ ex=>pv 0)) Zo (fun _ _=>rfl))),?_⟩
 obtain⟨dx,fs,hv,A1⟩:=id Wv.o;obtain⟨dr,fr,hr0,A2⟩:=id Wv.r.o;refine⟨_,rfl,v,CW,dx,_,_,rfl,hv,CWr.cl,CWr.n3,A1.l3,rk,dr,_,rfl,hr0,A2.nm _ (by decide +kernel),_,rfl,rk,gm,gx,dk,p,t,fx,side,hs,lead,ys,m,es,rfl,tb,Wv.r,G,hp,Pl,hs_,hk,hn,fun l es' H1 k1 nl R1 l1 E1 Pr=>?_⟩;have W1:=Wv.didR k1 R1;obtain⟨aa,hA,la,hP⟩:=id Pr;have ok:=G.ok;have z1000:=Yf 1000 (by decide);refine⟨l,rfl,⟨_,SqL.of hA⟩,Bx (K:=K) Pr (fun x=>decide (need≤((x.2:Nat):Int))) (fun x=>.int (x.1:Nat)) (by have:=Zol (t:=t) (side:=side) ok Pl;omega) (fun x H3 hx sm R hR=>?_) (fun x H3 hx hp sm R hR=>⟨_,rfl,hR H3 (Same.refl H3)⟩) (fun ln H2 s2 hln hLn=>?_)⟩
 ·exact⟨_,rfl,_,rfl,_,_,rfl,rfl,_,rfl,hR H3 (Same.refl H3)⟩
 ·obtain⟨c0,hc0,hn0⟩:=hex
  have me:(c0,numP fx t side hs lead ys c0)∈(prL fx t side hs lead ys m).filter fun x=>decide (need≤((x.2:Nat):Int)):=List.mem_filter.mpr ⟨Zz.mpr ⟨c0,hc0,rfl⟩,Zc hn0⟩;cases hf:(prL fx t side hs lead ys m).filter fun x=>decide (need≤((x.2:Nat):Int)) with
  | nil=>
   rw[hf] at me;cases me
  | cons x rest=>
   rw[hf] at hLn;have mx:x∈(prL fx t side hs lead ys m).filter fun x=>decide (need≤((x.2:Nat):Int)):=by rw[hf];exact Zw
   obtain⟨mx1,mx2⟩:=List.mem_filter.mp mx;obtain⟨c,hc,rfl⟩:=Zz.mp mx1;exact⟨ln,_,_,_,rfl,rfl,SqL.of hLn,Qy (j:=0) rfl,q c es' H2 (fun b o n h=>s2 _ _ (k1 b o n h)) (W1.same s2) hc (J0 mx2)⟩
def Gx(P:Program)(w:World)(CR CW:Addr):Sp:=fun vs H Q _=>∃(v dv gm:Addr) (side:Nat),vs=[.ref v,.ref gm,.int (side:Nat)]∧H v=some (.ins CW dv [])∧∀ rk dk dc H',(∀ b o,b≠v→H b=some o→H' b=some o)→H dk=none→H dc=none→(∀ S fx t,Wr P w CR CW S fx t side H' v gm rk dk [] dc [])→Q .non H'
theorem Zhf:FnScope ["self","game","side"] ["self","game","side"] (Zm Oz):=Uw (by decide +kernel)
theorem Dg{k:Nat}{CR CW aI:Addr}{eI:FuncData}(F:Fun K "__init__" "Writing.__init__" Oz f fd)(C:RkC K mg CR)(CWr:WrC K mg CW)(MkR:Mk K CR aI)(FI:FnOk P w K mg base Yq k aI eI ["self","game","side"] (G4 P w CR))(BI:Binds K eI ["self","game","side"] []):FnOk P w K mg base Yq (k+2) f fd ["self","game","side"] (Gx P w CR CW):=by
 refine F.ok Zhf (fun vs H Q E h=>?_) (fun cdv A outer s H vs Q E hr h=>?_)
 ·obtain⟨v,dv,gm,side,rfl,_⟩:=h
  rfl
 obtain⟨v,dv,gm,side,rfl,hv0,q⟩:=h;refine⟨_,Zi (Xq (pv 0) (pv 1) rfl) (Zi (Xq (pv 0) (pv 2) rfl) (Zi (Xq (pv 0) (E6 MkR FI hr rfl C.mR BI .nil Jb (Za (pv 1) (Za (pv 2) Zf))) rfl) (Zn (Xq (pv 0) (Am (Uk P w)) rfl)))),?_⟩;refine⟨_,rfl,_,rfl,v,CW,dv,[],rfl,hv0,CWr.cl,CWr.n1,by decide,?_⟩;have b0:∀(f:Str) (v:V) (fs:List (Str×V)) (n:Nat),fs.length≤n→(X3 f v fs).length≤n+1:=fun f v fs n h=>Jd (Y9 _ _ _) (Nat.succ_le_succ h);have c1:=b0 "game" (.ref gm) [] 0 (Zs _);have c2:=b0 "side" (.int (side:Nat)) _ 1 c1;refine⟨_,rfl,_,rfl,v,CW,dv,_,rfl,Zq,CWr.cl,CWr.n2,by omega,?_⟩;rw[U3];obtain⟨fs2,ef2⟩:∃ fs2,fs2=X3 "side" (.int ((side:Nat):Int)) (X3 "game" (.ref gm) []):=⟨_,rfl⟩;rw[← ef2] at c2 ⊢;refine⟨_,rfl,_,rfl,?_⟩;intro rk dr hr0 hdr nr;have nv:∀ b,upd H v (.ins CW dv fs2) b=none→H b=none∧b≠v:=fun b h=>by
  have n:b≠v:=fun z=>by rw[z,Zq] at h;cases h
  rw[Z8 n] at h;exact⟨h,n⟩
 refine⟨rk,dr,gm,side,rfl,Zq,fun dk H2 kp ndk R=>⟨rfl,?_⟩⟩;have s2:=Be hr0 hdr nr kp;have sm:=Uq (o:=.ins CR dr []) hr0 hdr nr;have hv2:=s2 _ _ (Zq:upd H v (.ins CW dv fs2) v=_);have c3:=b0 "reckoning" (.ref rk) _ 2 c2;refine⟨_,rfl,v,CW,dv,_,rfl,hv2,CWr.cl,CWr.n3,by omega,?_⟩;intro dc hdc;have R2:=fun S fx t=>R S fx t;have nvk:v≠rk:=fun z=>by
  obtain⟨dx,fs,a,_⟩:=(R2 (fun _ _ _ _ _=>True) ⟨0,0,0,0,[],[]⟩ none).o;rw[← z,hv2] at a;have:=(nv rk hr0).2;exact this z.symm
 have nvd:v≠dk:=fun z=>by
  have:=(R2 (fun _ _ _ _ _=>True) ⟨0,0,0,0,[],[]⟩ none).d;rw[← z,hv2] at this;cases this
 have hdc2:H2 dc=none∧dc≠v:=by
  have n:dc≠v:=fun z=>by rw[z,Zq] at hdc;cases hdc
  rw[Z8 n] at hdc;exact⟨hdc,n⟩
 have hdc0:H dc=none:=by
  have a:=s2.free hdc2.1;rw[Z8 hdc2.2] at a;exact a
 have ndc:dc≠dk:=fun z=>by
  have:=(R2 (fun _ _ _ _ _=>True) ⟨0,0,0,0,[],[]⟩ none).d;rw[← z,hdc2.1] at this;cases this
 have hdk0:H dk=none:=(nv dk (sm.free ndk)).1;refine⟨_,rfl,v,CW,dv,_,rfl,(by rw[Z8 (Ne.symm hdc2.2)];exact Zq),CWr.cl,CWr.n4,by omega,?_⟩;refine q rk dk dc _ (fun b o n h=>?_) hdk0 hdc0 fun S fx t=>⟨⟨dv,_,Zq,?_,?_,?_,?_,fun m hm=>?_⟩,?_,?_,(fun e he=>nomatch he),ndc⟩
 ·rw[Z8 n,Z8 (Jz h hdc0),Z8 n]
  exact s2 _ _ (by rw[Z8 n];exact h)
 ·rw[Zt,Zj (by decide +kernel),Zt,Zj (by decide +kernel),ef2,Zt,Zj (by decide +kernel),Zt,Zv rfl]
 ·rw[Zt,Zj (by decide +kernel),Zt,Zj (by decide +kernel),ef2,Zt,Zv rfl]
 ·rw[Zt,Zj (by decide +kernel),Zt,Zv rfl]
 ·rw[Zt,Zv rfl]
 ·rw[Zt,Zj (fun z=>hm (by rw[z];decide +kernel)),Zt,Zj (fun z=>hm (by rw[z];decide +kernel)),ef2,Zt,Zj (fun z=>hm (by rw[z];decide +kernel)),Zt,Zj (fun z=>hm (by rw[z];decide +kernel))]
  rfl
 ·obtain⟨⟨dx,fs,a,b⟩,d,ks,okR⟩:=R2 S fx t
  refine⟨⟨dx,fs,?_,b⟩,?_,(fun e he=>nomatch he),okR⟩
  ·rw[Z8 (Ne.symm nvk),Z8 (fun z=>by rw[z,hdc2.1] at a;cases a),Z8 (Ne.symm nvk)]
   exact a
  ·rw[Z8 (Ne.symm nvd),Z8 (Ne.symm ndc),Z8 (Ne.symm nvd)]
   exact d
 ·rw[Z8 hdc2.2,Zq]
  rfl
def CovR(rs:List Rw)(hs:List Nat)(lead:Nat)(ys:List Nat)(need:Int):Prop:=need≤0∨∃ r∈rs,r.k=Qd hs lead ys∧r.nd=need
theorem CovR.mono{rs rs':List Rw}{hs:List Nat}{lead:Nat}{ys:List Nat}{need:Int}(h:CovR rs hs lead ys need)(s:∀ r∈rs,r∈rs'):CovR rs' hs lead ys need:=h.elim .inl fun⟨r,hr,e⟩=>.inr ⟨r,s r hr,e⟩
def NxR(fx:Fx)(t:Option Nat)(side:Nat)(rs:List Rw)(hs:List Nat)(lead:Nat)(ys:List Nat)(h c:Nat)(need:Int):Prop:=∀ hs' lead' ys' tk,Nxt fx t hs lead ys h c hs' lead' ys' tk→CovR rs hs' lead' ys' (need - ((Qo side tk:Nat):Int))
structure GoodR(fx:Fx)(t:Option Nat)(side:Nat)(rs:List Rw)(r:Rw):Prop where
 g:∃ m h,Plc fx r.hs r.lead r.ys m∧r.hs[(r.lead+r.ys.length) % fx.n]? = some h∧1≤r.nd∧r.nd≤((valP fx t side r.hs r.lead r.ys:Nat):Int) ∧
  ((side.testBit ((r.lead+r.ys.length) % fx.n)=true∧∃ c,c∈Us fx t r.ys h∧r.cd=some ((c:Nat):Int)∧NxR fx t side rs r.hs r.lead r.ys h c r.nd)∨(side.testBit ((r.lead+r.ys.length) % fx.n)=false∧r.cd=none∧∀ c∈Us fx t r.ys h,NxR fx t side rs r.hs r.lead r.ys h c r.nd))
theorem NxR.mono{fx:Fx}{t:Option Nat}{side:Nat}{rs rs':List Rw}{hs:List Nat}{lead:Nat}{ys:List Nat}{h c:Nat}{need:Int}(n:NxR fx t side rs hs lead ys h c need)(s:∀ r∈rs,r∈rs'):NxR fx t side rs' hs lead ys h c need:=fun a b d e N=>(n a b d e N).mono s
theorem GoodR.mono{fx:Fx}{t:Option Nat}{side:Nat}{rs rs':List Rw}{r:Rw}(g:GoodR fx t side rs r)(s:∀ r∈rs,r∈rs'):GoodR fx t side rs' r:=by
 obtain⟨m,h,a,b,c,d,e⟩:=g.g;refine⟨m,h,a,b,c,d,?_⟩;rcases e with⟨e1,c,e2,e3,e4⟩ | ⟨e1,e2,e3⟩
 ·exact .inl ⟨e1,c,e2,e3,e4.mono s⟩
 ·exact .inr ⟨e1,e2,fun c hc=>(e3 c hc).mono s⟩
def KN(as:List (Rw×Addr)):Prop:=(as.map fun e=>(e.1.k,e.1.nd)).Nodup
theorem KN.snoc{as:List (Rw×Addr)}{r:Rw}{b:Addr}(h:KN as)(n:(Bu (Qr as) (r.k,r.nd)).isSome=false):KN (as++[(r,b)]):=by
 unfold KN;rw[Jw];refine List.nodup_append.mpr ⟨h,List.nodup_cons.mpr ⟨(fun z=>nomatch z),List.nodup_nil⟩,fun x hx y hy e=>?_⟩;obtain⟨z,hz,rfl⟩:=Zz.mp hx;cases Jg.mp hy;have:∃ v,Bu (Qr as) (r.k,r.nd)=some v:=by
  unfold Bu;have:((Qr as).find? fun e=>decide (e.1=(r.k,r.nd))).isSome=true:=List.find?_isSome.mpr ⟨((z.1.k,z.1.nd),z.2,Nc z.1.cd),Zz.mpr ⟨z,hz,rfl⟩,Zc e⟩;obtain⟨v,hv⟩:=Option.isSome_iff_exists.mp this;exact⟨_,by rw[hv];rfl⟩
 obtain⟨v,hv⟩:=this;rw[hv] at n;cases n
def ExtR(N:Nat)(fx:Fx)(t:Option Nat)(side:Nat)(as as':List (Rw×Addr)):Prop:=∃ new,as'=as++new∧(∀ e∈new,GoodR fx t side (as'.map (·.1)) e.1∧J4 e.1.hs≤N)∧(KN as→KN as')
theorem ExtR.refl(N:Nat)(fx:Fx)(t:Option Nat)(side:Nat)(as:List (Rw×Addr)):ExtR N fx t side as as:=⟨[],(J9 _).symm,(fun e he=>nomatch he),id⟩
theorem ExtR.sub{N:Nat}{fx:Fx}{t:Option Nat}{side:Nat}{as as':List (Rw×Addr)}(h:ExtR N fx t side as as'):∀ r∈as.map (·.1),r∈as'.map (·.1):=fun r hr=>by
 obtain⟨new,rfl,_⟩:=h;rw[Jw];exact List.mem_append_left _ hr
theorem ExtR.trans{N:Nat}{fx:Fx}{t:Option Nat}{side:Nat}{a b c:List (Rw×Addr)}(x:ExtR N fx t side a b)(y:ExtR N fx t side b c):ExtR N fx t side a c:=by
 have sy:=y.sub;obtain⟨u,rfl,hu,ku⟩:=x;obtain⟨v,rfl,hv,kv⟩:=y;refine⟨u++v,Y3 _ _ _,fun e he=>?_,fun z=>kv (ku z)⟩;rcases J1.mp he with z | z
 ·exact⟨(hu e z).1.mono sy,(hu e z).2⟩
 ·exact hv e z
def SB(S:By)(fx:Fx)(t:Option Nat)(side:Nat):Prop:=∀ es,Zeg S fx t side es→es.length≤100000
def Ez(P:Program)(w:World)(CT CG CR CW:Addr)(S:By)(kb:Nat):Sp:=fun vs H Q _=>∃(v gm gx rk dk dc p:Addr) (t:Option Nat) (fx:Fx) (side:Nat) (hs:List Nat) (lead:Nat) (ys:List Nat) (m:Nat) (es:List Xb) (as:List (Rw×Addr)) (need:Int),vs=[.ref v,.ref p,.int need]∧Rl t∧Wr P w CR CW S fx t side H v gm rk dk es dc as∧GamH CT CG fx t H gm gx∧IsPl H p hs lead ys∧Plc fx hs lead ys m∧S fx t hs lead ys∧SB S fx t side∧J4 hs≤12∧J4 hs+1≤kb∧as.length+Sn (J4 hs)≤1000000∧need≤((valP fx t side hs lead ys:Nat):Int) ∧
 ∀ es' as' H',KpW dk dc H H'→Wr P w CR CW S fx t side H' v gm rk dk es' dc as'→ExtR (J4 hs) fx t side as as'→CovR (as'.map (·.1)) hs lead ys need→as'.length≤as.length+Sn (J4 hs)→Q .non H'
def Zne(P:Program)(w:World)(CT CG CR CW:Addr)(S:By)(kb:Nat):Sp:=fun vs H Q _=>∃(v gm gx rk dk dc p:Addr) (t:Option Nat) (fx:Fx) (side:Nat) (hs:List Nat) (lead:Nat) (ys:List Nat) (m h c:Nat) (es:List Xb) (as:List (Rw×Addr)) (need:Int),vs=[.ref v,.ref p,.int ((c:Nat):Int),.int need]∧Rl t∧Wr P w CR CW S fx t side H v gm rk dk es dc as∧GamH CT CG fx t H gm gx∧IsPl H p hs lead ys∧Plc fx hs lead ys m∧hs[(lead+ys.length) % fx.n]? = some h∧c∈Us fx t ys h∧S fx t hs lead ys∧SB S fx t side∧J4 hs≤12∧J4 hs≤kb∧as.length+Sn (J4 hs - 1)≤1000000∧need≤((numP fx t side hs lead ys c:Nat):Int) ∧
 ∀ es' as' H',KpW dk dc H H'→Wr P w CR CW S fx t side H' v gm rk dk es' dc as'→ExtR (J4 hs - 1) fx t side as as'→NxR fx t side (as'.map (·.1)) hs lead ys h c need→as'.length≤as.length+Sn (J4 hs - 1)→Q .non H'
abbrev Zst:List Str:=["self","place","card","need","step"]
theorem scWrB:FnScope Zst ["self","place","card","need"] (Zm N7):=Uw (by decide +kernel)
theorem Zo0{S:By}(hS:SCl S){k kb:Nat}{CT CG CR CW f1 f2 m1:Addr}{d1 d2 e1:FuncData}(F:Fun K "write_behind" "Writing.write_behind" N7 f fd)(CWr:WrC K mg CW)(LB:Lib P w K mg base k "behind" ["game","place","card"] (X5 K CT CG) f1 d1)(LG:Lib P w K mg base k "gain" ["side","taker"] Bm f2 d2)
  (MW:Meth K CW "write" m1) (FW:FnOk P w K mg base Yq k m1 e1 ["self","place","need"] (Ez P w CT CG CR CW S kb)) (BW:Binds K e1 ["self","place","need"] []):FnOk P w K mg base Yq (k+1) f fd ["self","place","card","need"] (Zne P w CT CG CR CW S kb):=by
 refine F.ok scWrB (fun vs H Q E h=>?_) (fun cdv A outer s H vs Q E hr h=>?_)
 ·obtain⟨v,gm,gx,rk,dk,dc,p,t,fx,side,hs,lead,ys,m,h,c,es,as,need,rfl,_⟩:=h
  rfl
 obtain⟨v,gm,gx,rk,dk,dc,p,t,fx,side,hs,lead,ys,m,h,c,es,as,need,rfl,tb,Wv,G,hp,Pl,eh,hc,hs_,sb,t12,hk,hn,hd,q⟩:=h;refine⟨_,Zi (Jf (i:=4) scWrB.nd rfl (Or.inl rfl) (Z0 LB.ok hr rfl LB.mg LB.kp LB.bd .nil Jb (Za (Jt (pv 0) rfl) (Za (pv 1) (Za (pv 2) Zf)))))
  (Zn (Xx (Uf (pv 0) CWr.cl MW FW hr BW .nil Jb (Za (Jr Js (pv 4) Zo (fun _ _=>rfl)) (Za (Jj Bs (pv 3) (Z0 LG.ok hr rfl LG.mg LG.kp LG.bd .nil Jb (Za (Jt (pv 0) rfl) (Za (Jr Js (pv 4) Zo (fun _ _=>rfl)) Zf)))) Zf))))),?_⟩
 obtain⟨dx,fs,hv,A1⟩:=id Wv.o;have ok:=G.ok;have hb:=(Qg (Pl.h32 ok (Zl eh)) hc).1;refine⟨_,rfl,v,CW,dx,_,_,rfl,hv,CWr.cl,CWr.n1,A1.l1,_,rfl,_,rfl,gm,gx,p,t,fx,hs,ys,lead,m,h,c,rfl,G,hp,Pl,eh,hb,fun st p' hs' lead' ys' tk H2 s2 N hst hp'=>?_⟩;obtain⟨m',Pl',_,tt,_,_⟩:=N.plc ok Pl eh hb;have et:J4 hs'+1=J4 hs:=tt;have et':J4 hs - 1=J4 hs':=by omega
 have W2:=Wv.same s2;have en:=Aq (side:=side) ok Pl eh hb N;refine⟨_,rfl,v,dx,_,rfl,s2 _ _ hv,A1.nm _ (by decide +kernel),_,rfl,st,_,_,_,rfl,rfl,SqT.of hst,(rfl:Xs [V.ref p',Kk tk] 0=some (V.ref p')),_,rfl,_,rfl,v,CW,dx,_,_,rfl,s2 _ _ hv,CWr.cl,CWr.n2,A1.l2,_,rfl,st,_,_,_,rfl,rfl,SqT.of hst,(rfl:Xs [V.ref p',Kk tk] 1=some (Kk tk)),side,tk,rfl,_,_,rfl,rfl,?_⟩;refine⟨v,gm,gx,rk,dk,dc,p',t,fx,side,hs',lead',ys',m',es,as,need - ((Qo side tk:Nat):Int),rfl,tb,W2,G.same s2,hp',Pl',hS _ _ _ _ _ _ _ _ _ _ _ _ hs_ Pl eh hc N,sb,by omega,by omega,by rw[← et'];exact hn,by rw[en,X0] at hd;omega,fun es' as' H' k' W' x' c' l'=>?_⟩;rw[← et'] at x';refine q es' as' H' ((KpW.ofS s2).trans k') W' x' (fun a b d e N'=>?_) (by rw[et'];exact l');obtain⟨rfl,rfl,rfl,rfl⟩:=N.uniq Pl eh hb N';exact c'
theorem Zpw{as:List (Rw×Addr)}{k:Ew}(h:(Bu (Qr as) k).isSome=true):∃ r∈as.map (·.1),r.k=k.1∧r.nd=k.2:=by
 unfold Bu at h;rw[Option.isSome_map] at h;obtain⟨e,he⟩:=Option.isSome_iff_exists.mp h;have e3:e.1=k:=J0 (by have:=List.find?_some he;exact this);obtain⟨x,hx,rfl⟩:=Zz.mp (List.mem_of_find?_eq_some he);exact⟨x.1,Zz.mpr ⟨x,hx,rfl⟩,congrArg (·.1) e3,congrArg (·.2) e3⟩
theorem Sz{K:Type} [DecidableEq K]{es:List (Xc K)}{k:K}{b:Addr}{v:V}(h:(Bu es k).isSome=false):Nv es k b v=es++[(k,b,v)]:=by
 unfold Nv;rw[h,Zj Zp]
theorem Wr.put{CR CW v gm rk dk dc:Addr}{S:By}{fx:Fx}{t:Option Nat}{side:Nat}{H:Hp}{es:List Xb}{as:List (Rw×Addr)}(W:Wr P w CR CW S fx t side H v gm rk dk es dc as){r:Rw}{kb:Addr}(hk:D5 H (r.k,r.nd) kb) :
  Wr P w CR CW S fx t side (upd H dc (Up (Uk P w) dc (Qr as++[((r.k,r.nd),kb,Nc r.cd)]))) v gm rk dk es dc (as++[(r,kb)])∧KpW dk dc H (upd H dc (Up (Uk P w) dc (Qr as++[((r.k,r.nd),kb,Nc r.cd)]))):=by
 have eE:Qr as++[((r.k,r.nd),kb,Nc r.cd)]=Qr (as++[(r,kb)]):=by
  unfold Qr;rw[Jw];rfl
 rw[eE];obtain⟨⟨dx,fs,a,b⟩,⟨⟨dr,fr,a2,b2⟩,d2,k2,o2⟩,d,ks,ne⟩:=id W;have tt:∀(o:HO) (b:Addr) (zs:List V),H b=some (.tup zs)→upd H dc o b=some (.tup zs):=fun o b zs e=>by
  rw[Z8 (W.ndc e (fun _ z=>nomatch z))];exact e
 refine⟨⟨⟨dx,fs,by rw[Z8 (W.ndc a (fun _ z=>nomatch z))];exact a,b⟩,⟨⟨dr,fr,by rw[Z8 (W.ndc a2 (fun _ z=>nomatch z))];exact a2,b2⟩,by rw[Z8 (Ne.symm ne)];exact d2,fun e he=>(k2 e he).mono (tt _),o2⟩,Zq,fun e he=>?_,ne⟩,fun b o _ n h=>by rw[Z8 n];exact h⟩;unfold Qr at he;rw[Jw] at he;rcases J1.mp he with z | z
 ·exact(Uk P w).mono (ks e z) (tt _)
 ·cases Jg.mp z
  exact(Uk P w).mono hk (tt _)
theorem Kx{ns:List Nat}(h:0 < Qn true ns):Qn true ns∈ns:=by
 unfold Qn at *;split at h
 ·omega
 ·rename_i n
  rw[Zj n,Zv rfl];rw[Zv rfl] at h;rcases(Rh ns 0).2 with e | e
  ·omega
  ·exact e
theorem Zdd{ns:List Nat}{x:Nat}(h:x∈ns):Qn false ns≤x:=by
 unfold Qn;rw[Zj (fun z=>by rw[z] at h;cases h),Zj Zp];cases ns with
 | nil=>cases h
 | cons y l=>
  show l.foldl min y≤x;rcases Ja.mp h with e | e
  ·rw[e]
   exact(Bf l y).1.1
  ·exact(Bf l y).1.2 x e
theorem Vw:∀ k≤12,Sn k≤100000:=by decide +kernel
theorem Kc(j:Nat){i m:Nat}(hm:m≤(j+1+2) / 3)(hi:i≤m):1+i * Sn j≤Sn (j+1):=by
 show 1+i * Sn j≤1+(j+3) / 3 * Sn j;have:i * Sn j≤(j+3) / 3 * Sn j:=Nat.mul_le_mul_right _ (by omega);omega
abbrev Zpc:List Str:=["self","place","need","card"]
theorem scWrite:FnScope Zpc ["self","place","need"] (Zm Tb):=Uw (by decide +kernel)
theorem Zix{S:By}{k kb:Nat}{CT CG CR CW f1 f2 f3 m1 m2:Addr}{d1 d2 d3 e1 e2:FuncData}(F:Fun K "write" "Writing.write" Tb f fd)(CWr:WrC K mg CW)(LH:Lib P w K mg base k "has_seat" ["side","seat"] Qc f1 d1)(LT:Lib P w K mg base k "turn_at" ["game","place"] (Qm CT CG) f2 d2)(LM:Lib P w K mg base k "moves" ["game","place"] (Qx CT CG) f3 d3)
  (MC:Meth K CW "card_for" m1) (FC:FnOk P w K mg base Yq k m1 e1 ["self","place","need"] (N5 P w CT CG CR CW S 12)) (BC:Binds K e1 ["self","place","need"] []) (MB:Meth K CW "write_behind" m2) (FB:FnOk P w K mg base Yq k m2 e2 ["self","place","card","need"] (Zne P w CT CG CR CW S kb)) (BB:Binds K e2 ["self","place","card","need"] []) :
  FnOk P w K mg base Yq (k+1) f fd ["self","place","need"] (Ez P w CT CG CR CW S (kb+1)):=by
 refine F.ok scWrite (fun vs H Q E h=>?_) (fun cdv A outer s H vs Q E hr h=>?_)
 ·obtain⟨v,gm,gx,rk,dk,dc,p,t,fx,side,hs,lead,ys,m,es,as,need,rfl,_⟩:=h
  rfl
 obtain⟨v,gm,gx,rk,dk,dc,p,t,fx,side,hs,lead,ys,m,es,as,need,rfl,tb,Wv,G,hp,Pl,hs_,sb,t12,hk,hn,hd,q⟩:=h;have hu:=Jx (Nat.add_le_add_left (by decide:20≤64) _) hr.units;refine⟨_,Zi (Yd (PW.pt (U2 (Jm Rq (pv 2) Zo (Jl _)) (U7 (Zbm (Zil (Uk P w) hu (Uy (Za (pv 1) (Za (pv 2) Zf))) (Jt (pv 0) rfl)))))) (Zn Zda) Jn)
  (Zi (Yd (Jy (Z0 LH.ok hr rfl LH.mg LH.kp LH.bd .nil Jb (Za (Jt (pv 0) rfl) (Za (Z0 LT.ok hr rfl LT.mg LT.kp LT.bd .nil Jb (Za (Jt (pv 0) rfl) (Za (pv 1) Zf))) Zf))) (fun _=>rfl))
   (Zi (Jf (i:=3) scWrite.nd rfl (Or.inl rfl) (Uf (pv 0) CWr.cl MC FC hr BC .nil Jb (Za (pv 1) (Za (pv 2) Zf))))
   (Zi (Gk (Uk P w) hu (Jt (pv 0) rfl) (Uy (Za (pv 1) (Za (pv 2) Zf))) (pv 3) rfl)
   (Zi (Xx (Uf (pv 0) CWr.cl MB FB hr BB .nil Jb (Za (pv 1) (Za (pv 3) (Za (pv 2) Zf)))))
   (Zn Zda)))) Jn)
  (Zi (Gk (Uk P w) hu (Jt (pv 0) rfl) (Uy (Za (pv 1) (Za (pv 2) Zf))) Qe rfl)
  (Zn (Ux PassesOwn.never rfl (Y4 (Z0 LM.ok hr rfl LM.mg LM.kp LM.bd .nil Jb (Za (Jt (pv 0) rfl) (Za (pv 1) Zf)))) (Jp (i:=3) scWrite.nd rfl (Or.inl rfl))
   (Zn (Xx (Uf (pv 0) CWr.cl MB FB hr BB .nil Jb (Za (pv 1) (Za (pv 3) (Za (pv 2) Zf)))))))))),?_⟩
 obtain⟨dx,fs,hv,A1⟩:=id Wv.o;have ok:=G.ok;refine⟨_,rfl,_,_,rfl,rfl,_,rfl,?_⟩;by_cases c0:need≤0
 ·refine X1 (Zc c0) (Yt ?_)
  exact q es as H (KpW.refl _ _ _) Wv (ExtR.refl _ _ _ _ _) (.inl c0) (by omega)
 refine X1 (Zd c0) (J3 ?_);refine⟨_,rfl,_,rfl,Yf 2 (by decide),fun ka hka=>?_⟩;have s1:=Je hka (.tup [.ref p,.int need]);have W1:=Wv.same s1;have hp1:=hp.same s1;refine⟨_,rfl,v,CW,dx,_,_,rfl,s1 _ _ hv,CWr.cl,CWr.n4,A1.l4,dc,Qr as,(Qd hs lead ys,need),ka,rfl,W1.d,W1.ks,rfl,⟨p,Zq,U9 hp1⟩,_,rfl,?_⟩;cases cg:(Bu (Qr as) (Qd hs lead ys,need)).isSome with
 | true=>exact Yt (q es as _ (KpW.ofS s1) W1 (ExtR.refl _ _ _ _ _) (.inr (Zpw cg)) (by omega))
 | false=>
 refine J3 (Xn ?_);have n1:1≤need:=by omega
 have t0:=Pl.tot0 ok;have m0:m≠0:=fun z=>by
  rw[Vx (t0.mpr z)] at hd;omega
 have tn:J4 hs≠0:=fun z=>m0 (t0.mp z);obtain⟨j,ej⟩:∃ j,J4 hs=j+1:=⟨J4 hs - 1,by omega⟩;have ej':J4 hs - 1=j:=by omega
 have few:=Pl.few ok;obtain⟨h,eh,epc⟩:=Pl.turn ok;have h32:=Pl.h32 ok (Zl eh);have eg:hs.getD ((lead+ys.length) % fx.n) 0=h:=by rw[Zr,eh];rfl
 have eM:moveL fx t hs lead ys m=Us fx t ys h:=by
  unfold My.moveL;rw[Zj m0,eg]
 have ml:(Us fx t ys h).length≤m:=Jd (Vk (fx:=fx) (t:=t) (ys:=ys) h32) (Nat.le_of_eq epc);have ev:=N3 (t:=t) (side:=side) ok Pl tn;rw[eg] at ev;have sn12:=Vw _ t12;have tv:Ng fx lead ys m = .int (((lead+ys.length) % fx.n:Nat):Int):=Zj m0;have hv1:=s1 _ _ hv;refine⟨_,rfl,v,CW,dx,_,_,rfl,hv1,CWr.cl,CWr.n2,A1.l2,_,rfl,v,CW,dx,_,_,rfl,hv1,CWr.cl,CWr.n1,A1.l1,_,rfl,gm,gx,p,t,fx,hs,ys,lead,m,rfl,G.same s1,hp1,Pl,fun H2 s2=>?_⟩;have s12:=s1.trans s2;have W2:=Wv.same s12;have G2:=G.same s12;have hp2:=hp.same s12;refine⟨side,(lead+ys.length) % fx.n,?_,?_⟩
 ·rw[tv]
  rfl
 refine⟨_,rfl,?_⟩;have slen:(Qr as).length < sizeLine:=by
  unfold Qr;rw[Zk,sizeLine_eq];omega
 cases hsd:side.testBit ((lead+ys.length) % fx.n) with
 | true=>
  rw[hsd] at ev;refine Yt ?_;have hex:∃ c∈moveL fx t hs lead ys m,need≤((numP fx t side hs lead ys c:Nat):Int):=by
   have pm:=Kx (ns:=(Us fx t ys h).map (numP fx t side hs lead ys)) (by rw[← ev];omega);obtain⟨c,hc,e⟩:=Zz.mp pm;exact⟨c,by rw[eM];exact hc,by rw[e,← ev];exact hd⟩
  refine⟨_,rfl,v,dx,_,rfl,s12 _ _ hv,A1.nm _ (by decide +kernel),_,rfl,_,rfl,v,gm,gx,rk,dk,dc,p,t,fx,side,hs,lead,ys,m,es,as,need,rfl,tb,W2,G2,hp2,Pl,hs_,t12,by have:=sb es W2.r.ok;omega,hex,fun c es3 H3 k3 W3 hc hnc=>?_⟩;have kw3:KpW dk dc H2 H3:=KpW.ofD k3;have hp3:=kw3.pl W2 hp2;have G3:=kw3.gam W2 G2;obtain⟨dx3,fs3,hv3,A3⟩:=id W3.o;refine⟨_,rfl,_,rfl,v,CW,dx3,_,_,rfl,hv3,CWr.cl,CWr.n4,A3.l4,_,rfl,_,rfl,Yf 2 (by decide),fun kb hkb=>?_⟩;have s4:=Je hkb (.tup [.ref p,.int need]);have W4:=W3.same s4;have hp4:=hp3.same s4;obtain⟨r,er⟩:∃ r:Rw,r=⟨hs,lead,ys,need,some ((c:Nat):Int)⟩:=⟨_,rfl⟩;have hkey:D5 (upd H3 kb (.tup [.ref p,.int need])) (r.k,r.nd) kb:=by rw[er];exact⟨p,Zq,U9 hp4⟩
  obtain⟨W5,k5⟩:=W4.put hkey;refine⟨dc,Qr as,(Qd hs lead ys,need),kb,rfl,W4.d,W4.ks,rfl,⟨p,Zq,U9 hp4⟩,slen,?_⟩;rw[Sz cg];have eH:(((Qd hs lead ys,need),kb,V.int ((c:Nat):Int)):Xc Ew)=((r.k,r.nd),kb,Nc r.cd):=by rw[er];rfl
  rw[eH];have G5:=k5.gam W4 (G3.same s4);have hp5:=k5.pl W4 hp4;have kAll:KpW dk dc H (upd (upd H3 kb (.tup [.ref p,.int need])) dc (Up (Uk P w) dc (Qr as++[((r.k,r.nd),kb,Nc r.cd)]))):=(((KpW.ofS s12).trans kw3).trans (KpW.ofS s4)).trans k5;refine nxE ?_;obtain⟨dx5,fs5,hv5,A5⟩:=id W5.o;have hc':c∈Us fx t ys h:=by rw[← eM];exact hc
  have la:(as++[(r,kb)]).length=as.length+1:=by rw[Jc];rfl
  have st1:=Kc j (i:=1) (m:=m) (by rw[← ej];exact few) (by omega);rw[Nat.one_mul,← ej] at st1;refine⟨_,rfl,v,dx5,_,rfl,hv5,A5.nm _ (by decide +kernel),_,rfl,_,rfl,_,rfl,v,gm,gx,rk,dk,dc,p,t,fx,side,hs,lead,ys,m,h,c,es3,as++[(r,kb)],need,rfl,tb,W5,G5,hp5,Pl,eh,hc',hs_,sb,t12,by omega,by rw[la,ej'];omega,hnc,fun es6 as6 H6 k6 W6 x6 n6 l6=>?_⟩;have mr:r∈as6.map (·.1):=x6.sub r (by rw[Jw];exact List.mem_append_right _ (Jg.mpr rfl));refine q es6 as6 H6 (kAll.trans k6) W6 ?_ (.inr ⟨r,mr,by rw[er];rfl,by rw[er]⟩) (by rw[la,ej'] at l6;omega);obtain⟨new,e6,hnew,kn6⟩:=x6;refine⟨(r,kb) :: new,by rw[e6,Y3];rfl,fun e he=>?_,fun kn=>kn6 (kn.snoc (by rw[er];exact cg))⟩;rcases Ja.mp he with z | z
  ·rw[z]
   refine⟨⟨m,h,?_⟩,by rw[er];exact Zs _⟩;rw[er];exact⟨Pl,eh,n1,hd,.inl ⟨hsd,c,hc',rfl,n6⟩⟩
  ·exact⟨(hnew e z).1,by have:=(hnew e z).2;omega⟩
 | false=>
  rw[hsd] at ev;refine J3 (Xn ?_);have hv2:=s12 _ _ hv;refine⟨_,rfl,v,CW,dx,_,_,rfl,hv2,CWr.cl,CWr.n4,A1.l4,_,rfl,_,rfl,Yf 2 (by decide),fun kb hkb=>?_⟩;have s4:=Je hkb (.tup [.ref p,.int need]);have W4:=W2.same s4;have hp4:=hp2.same s4;obtain⟨r,er⟩:∃ r:Rw,r=⟨hs,lead,ys,need,none⟩:=⟨_,rfl⟩;have hkey:D5 (upd H2 kb (.tup [.ref p,.int need])) (r.k,r.nd) kb:=by rw[er];exact⟨p,Zq,U9 hp4⟩
  obtain⟨W5,k5⟩:=W4.put hkey;refine⟨dc,Qr as,(Qd hs lead ys,need),kb,rfl,W4.d,W4.ks,rfl,⟨p,Zq,U9 hp4⟩,slen,?_⟩;rw[Sz cg];have eH:(((Qd hs lead ys,need),kb,V.non):Xc Ew)=((r.k,r.nd),kb,Nc r.cd):=by rw[er];rfl
  rw[eH];have G5:=k5.gam W4 (G2.same s4);have hp5:=k5.pl W4 hp4;have kAll:KpW dk dc H (upd (upd H2 kb (.tup [.ref p,.int need])) dc (Up (Uk P w) dc (Qr as++[((r.k,r.nd),kb,Nc r.cd)]))):=((KpW.ofS s12).trans (KpW.ofS s4)).trans k5;refine nxE ?_;obtain⟨dx5,fs5,hv5,A5⟩:=id W5.o;have la:(as++[(r,kb)]).length=as.length+1:=by rw[Jc];rfl
  refine⟨_,rfl,v,CW,dx5,_,_,rfl,hv5,CWr.cl,CWr.n1,A5.l1,_,rfl,gm,gx,p,t,fx,hs,ys,lead,m,rfl,G5,tb,hp5,Pl,fun lm H6 s6 hlm hm6=>?_⟩;rw[eM] at hm6;have W6:=W5.same s6;have nk:lm≠dk:=W6.r.nd hm6 (fun _ z=>nomatch z);have nc:lm≠dc:=W6.ndc hm6 (fun _ z=>nomatch z);refine⟨lm,rfl,⟨_,SqL.of hm6⟩,Xg (xs:=vN (Us fx t ys h)) (fun i σ H'=>KpW dk dc H6 H'∧∃(es':List Xb) (as':List (Rw×Addr)) (x3:Option V),σ=[some (.ref v),some (.ref p),some (.int need),x3]∧Wr P w CR CW S fx t side H' v gm rk dk es' dc as'∧ExtR (J4 hs - 1) fx t side (as++[(r,kb)]) as'∧(∀ c∈(Us fx t ys h).take i,NxR fx t side (as'.map (·.1)) hs lead ys h c need)∧as'.length≤as.length+1+i * Sn j) ⟨KpW.refl _ _ _,es,as++[(r,kb)],none,rfl,W6,ExtR.refl _ _ _ _ _,(fun c hc=>by rw[List.take_zero] at hc;cases hc),by rw[la];omega⟩ (fun i σ H' _ z=>SqL.of (z.1 _ _ nk nc hm6)) (fun i x σ H7 hx z=>?_) (fun σ H7 z=>?_)⟩
  ·obtain⟨k7,es7,as7,x3,rfl,W7,x7,n7,l7⟩:=z
   obtain⟨c,hi,rfl⟩:=Vy hx;have il:i < (Us fx t ys h).length:=(Zu.mp hi).1;have hc:=Zl hi;obtain⟨dx7,fs7,hv7,A7⟩:=id W7.o;have st1:=Kc j (i:=i+1) (m:=m) (by rw[← ej];exact few) (by omega);rw[← ej,Nat.succ_mul] at st1;have hnc:need≤((numP fx t side hs lead ys c:Nat):Int):=by
    have:=Zdd (ns:=(Us fx t ys h).map (numP fx t side hs lead ys)) (Zz.mpr ⟨c,hc,rfl⟩);rw[← ev] at this;omega
   refine⟨_,rfl,v,dx7,_,rfl,hv7,A7.nm _ (by decide +kernel),_,rfl,_,rfl,_,rfl,v,gm,gx,rk,dk,dc,p,t,fx,side,hs,lead,ys,m,h,c,es7,as7,need,rfl,tb,W7,k7.gam W6 (G5.same s6),k7.pl W6 (hp5.same s6),Pl,eh,hc,hs_,sb,t12,by omega,by rw[ej'];omega,hnc,fun es8 as8 H8 k8 W8 x8 n8 l8=>?_⟩;refine⟨k7.trans k8,es8,as8,_,rfl,W8,x7.trans x8,fun c' hc'=>?_,by rw[ej'] at l8;rw[Nat.succ_mul];omega⟩;rw[U0,hi] at hc';rcases J1.mp hc' with z | z
   ·exact(n7 c' z).mono x8.sub
   ·cases Jg.mp z
    exact n8
  ·obtain⟨k7,es7,as7,x3,rfl,W7,x7,n7,l7⟩:=z
   rw[Yh,List.take_length] at n7;rw[Yh] at l7;have st1:=Kc j (i:=(Us fx t ys h).length) (m:=m) (by rw[← ej];exact few) ml;rw[← ej] at st1;have mr:r∈as7.map (·.1):=x7.sub r (by rw[Jw];exact List.mem_append_right _ (Jg.mpr rfl));refine q es7 as7 H7 ((kAll.trans (KpW.ofS s6)).trans k7) W7 ?_ (.inr ⟨r,mr,by rw[er];rfl,by rw[er]⟩) (by omega);obtain⟨new,e7,hnew,kn7⟩:=x7;refine⟨(r,kb) :: new,by rw[e7,Y3];rfl,fun e he=>?_,fun kn=>kn7 (kn.snoc (by rw[er];exact cg))⟩;rcases Ja.mp he with z | z
   ·rw[z]
    refine⟨⟨m,h,?_⟩,by rw[er];exact Zs _⟩;rw[er];exact⟨Pl,eh,n1,by rw[N3 (t:=t) (side:=side) ok Pl tn,eg,hsd,← ev];exact hd,.inr ⟨hsd,rfl,n7⟩⟩
   ·exact⟨(hnew e z).1,by have:=(hnew e z).2;omega⟩
theorem Ze7{S:By}{k:Nat}{CT CG CR CW:Addr}(F:Fun K "write" "Writing.write" Tb f fd):FnOk P w K mg base Yq (k+1) f fd ["self","place","need"] (Ez P w CT CG CR CW S 0):=by
 refine F.ok scWrite (fun vs H Q E h=>?_) (fun cdv A outer s H vs Q E hr h=>?_)
 ·obtain⟨v,gm,gx,rk,dk,dc,p,t,fx,side,hs,lead,ys,m,es,as,need,rfl,_⟩:=h
  rfl
 obtain⟨v,gm,gx,rk,dk,dc,p,t,fx,side,hs,lead,ys,m,es,as,need,rfl,tb,Wv,G,hp,Pl,hs_,sb,t12,hk,_⟩:=h;exact absurd hk (by omega)
theorem Zbs{S:By}(hS:SCl S){j0:Nat}{CT CG CR CW aW aB aC f1 f2 f3 f4 f5:Addr}{dW dB dC d1 d2 d3 d4 d5:FuncData}(FWf:Fun K "write" "Writing.write" Tb aW dW)(FBf:Fun K "write_behind" "Writing.write_behind" N7 aB dB)(CWr:WrC K mg CW)
  (MW:Meth K CW "write" aW) (MB:Meth K CW "write_behind" aB) (MC:Meth K CW "card_for" aC) (BW:Binds K dW ["self","place","need"] []) (BB:Binds K dB ["self","place","card","need"] []) (BC:Binds K dC ["self","place","need"] [])
  (FC:FnOk P w K mg base Yq j0 aC dC ["self","place","need"] (N5 P w CT CG CR CW S 12)) (LH:Lib P w K mg base j0 "has_seat" ["side","seat"] Qc f1 d1) (LT:Lib P w K mg base j0 "turn_at" ["game","place"] (Qm CT CG) f2 d2) (LM:Lib P w K mg base j0 "moves" ["game","place"] (Qx CT CG) f3 d3) (LB:Lib P w K mg base j0 "behind" ["game","place","card"] (X5 K CT CG) f4 d4) (LG:Lib P w K mg base j0 "gain" ["side","taker"] Bm f5 d5) (j1:1≤j0) :
  ∀ kb,FnOk P w K mg base Yq (j0+2 * kb) aW dW ["self","place","need"] (Ez P w CT CG CR CW S kb):=by
 intro kb
 induction kb with
 | zero=>
  have F0:FnOk P w K mg base Yq (j0 - 1+1) aW dW ["self","place","need"] (Ez P w CT CG CR CW S 0):=Ze7 FWf;have e:j0 - 1+1=j0+2 * 0:=by omega
  rw[e] at F0;exact F0
 | succ kb ih=>
  have F1:=Zo0 hS (k:=j0+2 * kb) FBf CWr (LB.mono (by omega)) (LG.mono (by omega)) MW ih BW;have F2:=Zix (k:=j0+2 * kb+1) FWf CWr (LH.mono (by omega)) (LT.mono (by omega)) (LM.mono (by omega)) MC (FC.mono (by omega)) BC MB F1 BB;have e:j0+2 * kb+1+1=j0+2 * (kb+1):=by omega
  rw[e] at F2;exact F2
theorem Zpl{H:Hp}{p:Addr}{hs:List Nat}{lead:Nat}{ys:List Nat}(h:PlKey H (Qd hs lead ys) p):IsPl H p hs lead ys:=by
 obtain⟨hp,tp,a,b,c⟩:=h;have e:∀ xs:List Nat,((xs.map fun h=>(Sum.inl ((h:Nat):Int):N2)).map kV)=vN xs:=fun xs=>by
  unfold vN;rw[Z7];rfl
 have b':H hp=some (.tup ((hs.map fun h=>(Sum.inl ((h:Nat):Int):N2)).map kV)):=b;have c':H tp=some (.tup ((ys.map fun h=>(Sum.inl ((h:Nat):Int):N2)).map kV)):=c;rw[e] at b' c';exact⟨hp,tp,a,b',c'⟩
def Zha(P:Program)(w:World)(CR CW:Addr):Sp:=fun vs H Q _=>∃(v gm rk dk dc:Addr) (S:By) (fx:Fx) (t:Option Nat) (side:Nat) (es:List Xb) (as:List (Rw×Addr)),vs=[.ref v]∧Wr P w CR CW S fx t side H v gm rk dk es dc as∧as.length≤1000000 ∧
 ∀ l bs H',(∀ b o,b≠dc→H b=some o→H' b=some o)→H l=none→H' l=some (.lst (R0 bs))→bs.map (·.1)=as.map (·.1)→(∀ e∈bs,IsRw H' e.1 e.2)→Q (.ref l) H'
theorem Zn8:FnScope ["self"] ["self"] (Zm Gf):=Uw (by decide +kernel)
theorem Zl2{k:Nat}{CR CW:Addr}(F:Fun K "rows" "Writing.rows" Gf f fd)(CWr:WrC K mg CW):FnOk P w K mg base Yq (k+1) f fd ["self"] (Zha P w CR CW):=by
 refine F.ok Zn8 (fun vs H Q E h=>?_) (fun cdv A outer s H vs Q E hr h=>?_)
 ·obtain⟨v,gm,rk,dk,dc,S,fx,t,side,es,as,rfl,_⟩:=h
  rfl
 obtain⟨v,gm,rk,dk,dc,S,fx,t,side,es,as,rfl,Wv,l6,q⟩:=h;refine⟨_,Zn (Z9 (Ug ["key","card"] [none,none] rfl (Blk.by (sc:=Zm Gf) (N0:=["self"]) rfl rfl (by decide +kernel)) (Zic (Uk P w) (Jt (pv 0) rfl)) (fun C s₀ H₀ ex=>Gm (n:=2) K rfl rfl (Yj (Jp (i:=0) (show(["key","card"]:List Str).Nodup by decide +kernel) rfl (Or.inl rfl)) (Yj (Jp (i:=1) (show(["key","card"]:List Str).Nodup by decide +kernel) rfl (Or.inl rfl)) Ql))) (fun C s₀ H₀ ex=>U4)
  (fun C s₀ H₀ ex=>Uy (Za (Jr (show IxR _ (Zoj K) from Js) (pv 0) Zo (fun _ _=>rfl)) (Za (Jr (show IxR _ (Zoj K) from Js) (pv 0) Zo (fun _ _=>rfl)) (Za (pv 1) Zf)))))),?_⟩
 obtain⟨dx,fs,hv,A1⟩:=id Wv.o;refine⟨_,rfl,v,CW,dx,_,_,rfl,hv,CWr.cl,CWr.n4,A1.l4,dc,Qr as,rfl,Wv.d,fun ep=>?_⟩;have el:(Qr as).length=as.length:=Zk ..;have kd:∀ b o,b≠dc→H b=some o→upd H dc (Qt (Uk P w) dc (Qr as) ep) b=some o:=fun b o n h=>by
  rw[Z8 n];exact h
 have tt:∀ b ys,H b=some (.tup ys)→upd H dc (Qt (Uk P w) dc (Qr as) ep) b=some (.tup ys):=fun b ys e=>kd b _ (Wv.ndc e (fun _ z=>nomatch z)) e;refine Zab (F:=K) (T:=Uk P w) (ep:=ep) (Zq) (fun l i x H'=>∃(r:Rw) (a:Addr),(as.map (·.1))[i]? = some r∧x = .ref a∧IsRw H' r a) (by rw[el,sizeLine_eq];omega) (fun l i x H1 H2 g sm=>?_) (fun l i x H1 xs ys g hl=>?_) (fun i kk b y H1 l vs hx sm hl hL R hR=>?_) (fun l H1 vs sm hl hL hvl hvs=>?_)
 ·obtain⟨r,a,e1,e2,e3⟩:=g
  exact⟨r,a,e1,e2,e3.same sm⟩
 ·obtain⟨r,a,e1,e2,⟨p,e3,hp,tp,e4,e5,e6⟩⟩:=g
  have nt:∀(b:Addr) (zs:List V),H1 b=some (.tup zs)→upd H1 l (.lst ys) b=some (.tup zs):=fun b zs e=>by
   rw[Z8 (Bj e hl (fun _ z=>nomatch z))];exact e
  exact⟨r,a,e1,e2,p,nt _ _ e3,hp,tp,nt _ _ e4,nt _ _ e5,nt _ _ e6⟩
 ·unfold Qr at hx
  rw[Z4] at hx;obtain⟨⟨r,a⟩,he,e1⟩:=Jq.mp hx;cases e1;obtain⟨p,h1,h2⟩:=(show D5 H (r.k,r.nd) a from Wv.ks ((r.k,r.nd),a,Nc r.cd) (Zz.mpr ⟨_,Zl he,rfl⟩));have h1':=sm _ _ (tt _ _ h1);have pl':IsPl H1 p r.hs r.lead r.ys:=(Zpl (h2.mono tt)).same sm;refine⟨_,rfl,a,_,_,_,rfl,rfl,SqT.of h1',(rfl:Xs [V.ref p,V.int r.nd] 0=some (V.ref p)),_,rfl,a,_,_,_,rfl,rfl,SqT.of h1',(rfl:Xs [V.ref p,V.int r.nd] 1=some (V.int r.nd)),_,rfl,Yf 3 (by decide),fun u hu=>hR _ _ (Je hu _) ⟨r,u,?_,rfl,p,Zq,pl'.same (Je hu _)⟩⟩;rw[Z4,he];rfl
 ·obtain⟨ps,rfl,hps⟩:∃ ps:List Addr,vs=ps.map V.ref∧∀ i p,ps[i]? = some p→∃ r,(as.map (·.1))[i]? = some r∧IsRw H1 r p:=by
   refine⟨vs.map fun x=>match x with | .ref a=>a | _=>0,?_,fun i p hp=>?_⟩
   ·rw[Z7]
    refine(List.map_id vs).symm.trans (J2 fun x hx=>?_);obtain⟨i,hi⟩:=List.getElem?_of_mem hx;obtain⟨r,a,_,e2,_⟩:=hvs i x hi;rw[e2];rfl
   ·rw[Z4] at hp
    obtain⟨x,hx,e⟩:=Jq.mp hp;obtain⟨r,a,e1,e2,e3⟩:=hvs i x hx;rw[e2] at e;cases e;exact⟨r,e1,e3⟩
  have pl:ps.length=as.length:=by
   rw[Zk] at hvl;rw[hvl,el]
  refine q l ((as.map (·.1)).zip ps) H1 (fun b o n h=>sm _ _ (kd b o n h)) ?_ ?_ ?_ fun e he=>?_
  ·by_cases n:l=dc
   ·rw[n,Zq] at hl
    cases hl
   ·rw[Z8 n] at hl
    exact hl
  ·rw[hL]
   unfold R0;have:((as.map (·.1)).zip ps).map (fun e=>V.ref e.2)=(((as.map (·.1)).zip ps).map (·.2)).map V.ref:=by rw[Z7];rfl
   rw[this,List.map_snd_zip (by rw[Zk];omega)]
  ·exact List.map_fst_zip (by rw[Zk];omega)
  ·obtain⟨i,hi,ei⟩:=Ua.mp he
   have hi':i < ps.length:=by
    rw[List.length_zip] at hi;omega
   obtain⟨r,e1,e2⟩:=hps i ps[i] (Zg hi');rw[List.getElem_zip] at ei;rw[← ei];have hl':i < (as.map (·.1)).length:=by
    rw[Zk];omega
   rw[Zg hl'] at e1;rw[Zy e1];exact e2
abbrev O5:Stmt:=top 38
theorem Od:∀(xs:List Nat),((xs.map fun x=>((x:Nat):Int))).sum=((xs.sum:Nat):Int)
 | []=>rfl
 | x :: xs=>by rw[List.map_cons,List.sum_cons,List.sum_cons,Od xs,X0]
theorem Zou(hs:List Nat):(hs.map fun h=>((Xi 32 h:Nat):Int)).sum=((J4 hs:Nat):Int):=by
 have e:(hs.map fun h=>((Xi 32 h:Nat):Int))=((hs.map (Xi 32)).map fun x=>((x:Nat):Int)):=by rw[Z7];rfl
 unfold J4;rw[e,Od]
def Nh:Sp:=fun vs H Q _=>∃(p:Addr) (fx:Fx) (hs:List Nat) (lead:Nat) (ys:List Nat) (m:Nat),vs=[.ref p]∧fx.Ok∧IsPl H p hs lead ys∧Plc fx hs lead ys m∧J4 hs≤12∧∀ H',Same H H'→Q .non H'
theorem Zhj:FnScope ["place"] ["place"] (Zm Gg):=Uw (by decide +kernel)
theorem Zfc{k:Nat}{f1:Addr}{d1:FuncData}{t1:Tok}(F:Fun K "refuse_too_many" "refuse_too_many" Gg f fd)(LM:Lib P w K mg base k "many" ["hand"] (G7 K) f1 d1)(mMC:mg "MOST_CARDS" = some (.int 12 t1))(mSu:mg "sum" = none):FnOk P w K mg base Yq (k+1) f fd ["place"] Nh:=by
 refine F.ok Zhj (fun vs H Q E h=>?_) (fun cdv A outer s H vs Q E hr h=>?_)
 ·obtain⟨p,fx,hs,lead,ys,m,rfl,_⟩:=h
  rfl
 obtain⟨p,fx,hs,lead,ys,m,rfl,ok,⟨hp,tp,h1,h2,h3⟩,Pl,t12,q⟩:=h;refine⟨_,Zn (Yd (Jm Q8 (Jk (Zaf rfl) rfl mSu PyProof.Rows.boot_sum (Za (Ug ["hand"] [none] rfl (Blk.by (sc:=Zm Gg) (N0:=["place"]) rfl rfl (by decide +kernel)) (V9 (Jr Js (pv 0) Zo (fun _ _=>rfl))) (fun C s₀ H₀ ex=>Jp (i:=0) (show(["hand"]:List Str).Nodup by decide +kernel) rfl (Or.inl rfl)) (fun C s₀ H₀ ex=>U4)
   (fun C s₀ H₀ ex=>Z0 LM.ok hr rfl LM.mg LM.kp LM.bd .nil Jb (Za (pv 0) Zf))) Zf)) (Yy (v:=.int 12) rfl mMC ⟨_,rfl⟩) (Jl _)) (Zn Tp) Jn),?_⟩
 have n4:hs.length≤4:=by rw[Pl.len];rcases ok.n34 with e | e<;>omega
 refine⟨_,rfl,p,_,_,_,rfl,rfl,SqT.of h1,(rfl:Xs [V.ref hp,V.int (lead:Nat),V.ref tp] 0=some (V.ref hp)),hp,rfl,⟨_,SqT.of h2⟩,Nw (K:=K) (xs:=vN hs) (fun _=>true) pcV (SqT.of h2) (Yf _ (by rw[Yh];omega)) (fun y H3 hy sm R hR=>hR H3 (Same.refl H3)) (fun y H3 hy hp sm R hR=>?_) (fun lq H4 s4 hlq hL4=>?_)⟩
 ·obtain⟨h,hh,rfl⟩:=Zz.mp hy
  refine⟨_,rfl,h,rfl,Pl.h32 ok hh,?_⟩;have z:=hR H3 (Same.refl H3);have e:pcV (V.int (h:Nat))=V.int ((Xi 32 h:Nat):Int):=by
   show V.int ((Xi 32 (((h:Nat):Int)).toNat:Nat):Int)=_;rw[Z2]
  rw[e] at z;exact z
 ·rw[K2] at hL4
  have e:decide ((12:Int) < (hs.map fun h=>((Xi 32 h:Nat):Int)).sum)=false:=by
   rw[Zou];exact Zd (by omega)
  exact⟨lq,_,rfl,SqL.of hL4,_,_,rfl,rfl,_,rfl,X1 e (J3 (q H4 s4))⟩
abbrev Nn:List Str:=["game","side","place","need"]
abbrev Zpe:List Str:=["game","side","place","need","writing","made"]
theorem scPaper:FnScope Zpe Nn (Zm O5):=Uw (by decide +kernel)
def Oi(CT CG:Addr):Sp:=fun vs H Q _=>∃(gm gx p:Addr) (t:Option Nat) (fx:Fx) (side:Nat) (hs:List Nat) (lead:Nat) (ys:List Nat) (m:Nat) (need:Int),vs=[.ref gm,.int (side:Nat),.ref p,.int need]∧Rl t∧GamH CT CG fx t H gm gx∧IsPl H p hs lead ys∧Plc fx hs lead ys m∧J4 hs≤12∧need≤((valP fx t side hs lead ys:Nat):Int) ∧
 ∀ l bs H',Same H H'→H l=none→H' l=some (.lst (R0 bs))→(∀ e∈bs,IsRw H' e.1 e.2)→(∀ r∈bs.map (·.1),GoodR fx t side (bs.map (·.1)) r)→CovR (bs.map (·.1)) hs lead ys need→bs.length≤100000→(need≤0→bs=[])→(∀ r∈bs.map (·.1),J4 r.hs≤J4 hs)→((bs.map (·.1)).map fun r=>(r.k,r.nd)).Nodup→Q (.ref l) H'
theorem Zi2{k:Nat}{CT CG CR CW f1 aI aA aW aR:Addr}{d1 eI dA dW dR:FuncData}(F:Fun K "paper" "paper" O5 f fd)(C:RkC K mg CR)(CWr:WrC K mg CW)(LR:Lib P w K mg base (k+1) "refuse_too_many" ["place"] Nh f1 d1)(MkW:Mk K CW aI)(FI:FnOk P w K mg base Yq k aI eI ["self","game","side"] (Gx P w CR CW))(BI:Binds K eI ["self","game","side"] [])
  (MA:Meth K CR "made_at" aA) (FA:∀ S,SCl S→FnOk P w K mg base Yq (k+1) aA dA ["self","place"] (X4 P w CT CG CR S 13)) (BA:Binds K dA ["self","place"] []) (MW:Meth K CW "write" aW) (FW:∀ S,SCl S→FnOk P w K mg base Yq (k+1) aW dW ["self","place","need"] (Ez P w CT CG CR CW S 13)) (BW:Binds K dW ["self","place","need"] [])
  (MR:Meth K CW "rows" aR) (FR:FnOk P w K mg base Yq (k+1) aR dR ["self"] (Zha P w CR CW)) (BR:Binds K dR ["self"] []):FnOk P w K mg base Yq (k+2) f fd Nn (Oi CT CG):=by
 refine F.ok scPaper (fun vs H Q E h=>?_) (fun cdv A outer s H vs Q E hr h=>?_)
 ·obtain⟨gm,gx,p,t,fx,side,hs,lead,ys,m,need,rfl,_⟩:=h
  rfl
 obtain⟨gm,gx,p,t,fx,side,hs,lead,ys,m,need,rfl,tb,G,hp,Pl,t12,hd,q⟩:=h;have cl:=Sof.cl fx t hs lead ys;refine⟨_,Zi (Xx (Z0 LR.ok hr rfl LR.mg LR.kp LR.bd .nil Jb (Za (pv 2) Zf)))
  (Zi (Yd (Jm Rq (pv 3) Zo (Jl _)) (Zn (Z9 (Qf Zf))) Jn)
  (Zi (Jf (i:=4) scPaper.nd rfl (Or.inl rfl) (E6 MkW FI hr rfl CWr.mW BI .nil Jb (Za (pv 0) (Za (pv 1) Zf))))
  (Zi (Jf (i:=5) scPaper.nd rfl (Or.inl rfl) (Uf (Jt (pv 4) rfl) C.cl MA (FA _ cl) hr BA .nil Jb (Za (pv 2) Zf)))
  (Zi (Yd (Jm Q8 (pv 3) (pv 5) (Jl _)) (Zn Tp) Jn)
  (Zi (Xx (Uf (pv 4) CWr.cl MW (FW _ cl) hr BW .nil Jb (Za (pv 2) (Za (pv 3) Zf))))
  (Zn (Z9 (Vg (pv 4) CWr.cl MR FR hr BR .nil Jb)))))))),?_⟩
 have ok:=G.ok;have sn:=Vw _ t12;refine⟨_,rfl,p,fx,hs,lead,ys,m,rfl,ok,hp,Pl,t12,fun H1 s1=>?_⟩;refine⟨_,rfl,_,_,rfl,rfl,_,rfl,?_⟩;by_cases c0:need≤0
 ·refine X1 (Zc c0) (Yt ⟨Yf 0 (by decide),fun l hl=>?_⟩)
  exact q l [] _ (s1.trans (Je hl _)) (s1.free hl) Zq (fun e he=>nomatch he) (fun r hr=>nomatch hr) (.inl c0) (Nat.zero_le _) (fun _=>rfl) (fun r hr=>nomatch hr) List.nodup_nil
 refine X1 (Zd c0) (J3 (Xn ?_));refine⟨_,rfl,_,rfl,?_⟩;intro v dv hv0 hdv nv;refine⟨v,dv,gm,side,rfl,Zq,fun rk dk dc H2 kp ndk ndc hW=>⟨rfl,?_⟩⟩;have sm:=Uq (o:=.ins CW dv []) hv0 hdv nv;have s2:=Be hv0 hdv nv kp;have s12:=s1.trans s2;have W2:=hW (Sof fx t hs lead ys) fx t;obtain⟨dx,fs,hv2,A1⟩:=id W2.o;obtain⟨dr,fr,hr2,A2⟩:=id W2.r.o;have S0:Sof fx t hs lead ys fx t hs lead ys:=⟨rfl,rfl,.here⟩;refine⟨_,rfl,v,CW,dx,_,_,rfl,hv2,CWr.cl,CWr.n3,A1.l3,rk,dr,_,rfl,hr2,A2.nm _ (by decide +kernel),_,rfl,rk,gm,gx,dk,p,t,fx,side,hs,lead,ys,m,[],rfl,tb,W2.r,G.same s12,hp.same s12,Pl,S0,by omega,by show 0+Sn (J4 hs)≤1000000;omega,fun es3 H3 k3 R3 _ _=>?_⟩;have W3:=W2.didR k3 R3;have kw3:KpW dk dc H2 H3:=KpW.ofD k3;have G3:=kw3.gam W2 (G.same s12);have hp3:=kw3.pl W2 (hp.same s12);obtain⟨dx3,fs3,hv3,A3⟩:=id W3.o;refine⟨_,rfl,_,rfl,_,_,rfl,rfl,_,rfl,X1 (Zd (by omega)) (J3 (Xn ?_))⟩;have sb:SB (Sof fx t hs lead ys) fx t side:=fun es hR=>Jd (Ze0 ok Pl hR) sn;refine⟨_,rfl,v,dx3,_,rfl,hv3,A3.nm _ (by decide +kernel),_,rfl,_,rfl,v,gm,gx,rk,dk,dc,p,t,fx,side,hs,lead,ys,m,es3,[],need,rfl,tb,W3,G3,hp3,Pl,S0,sb,t12,by omega,by show 0+Sn (J4 hs)≤1000000;omega,hd,fun es4 as4 H4 k4 W4 x4 c4 l4=>?_⟩;obtain⟨dx4,fs4,hv4,A4⟩:=id W4.o;have l4':as4.length≤100000:=by
  have:as4.length≤0+Sn (J4 hs):=l4;omega
 refine⟨_,rfl,v,dx4,_,rfl,hv4,A4.nm _ (by decide +kernel),v,gm,rk,dk,dc,_,fx,t,side,es4,as4,rfl,W4,by omega,fun l bs H5 k5 nl hl e5 r5=>?_⟩;have hdk:H dk=none:=s1.free (sm.free ndk);have hdc:H dc=none:=s1.free (sm.free ndc);have kA:∀ b o,H b=some o→H5 b=some o:=fun b o hb=>by
  have n1:b≠dk:=Jz hb hdk;have n2:b≠dc:=Jz hb hdc;exact k5 b o n2 (k4 b o n1 n2 (kw3 b o n1 n2 (s12 _ _ hb)))
 have nl0:H l=none:=by
  cases z:H l with
  | none=>rfl
  | some o=>
   have n1:l≠dk:=Jz z hdk;have n2:l≠dc:=Jz z hdc;rw[k4 l o n1 n2 (kw3 l o n1 n2 (s12 _ _ z))] at nl;cases nl
 have lb:bs.length=as4.length:=by
  have:=congrArg List.length e5;rw[Zk,Zk] at this;exact this
 obtain⟨new,e4,hnew,kn4⟩:=x4;have kn:=kn4 List.nodup_nil;have hin:∀ r∈bs.map (·.1),GoodR fx t side (as4.map (·.1)) r∧J4 r.hs≤J4 hs:=fun r hr=>by
  rw[e5] at hr;obtain⟨e,he,rfl⟩:=Zz.mp hr;rw[e4,List.nil_append] at he;exact hnew e he
 refine q l bs H5 kA nl0 hl r5 (fun r hr=>?_) (by rw[e5];exact c4) (by omega) (fun z=>absurd z c0) (fun r hr=>(hin r hr).2) ?_
 ·rw[e5]
  exact(hin r hr).1
 ·rw[e5,Z7]
  exact kn
def OkP(fx:Fx)(hs:List Nat)(lead:Nat)(ys:List Nat)(b:Bool):Prop:=b=true∧∃ m,Plc fx hs lead ys m
theorem Zpp{k:Nat}{CT CG:Addr}(h:FnOk P w K mg base Yq k f fd ["game","place"] (V1 CT CG)):FnOk P w K mg base Yq k f fd ["game","place"] (Gd CT CG OkP):=h.imp fun vs H Q E z=>by
 obtain⟨gm,x,p,t,fx,hs,ys,lead,b,rfl,G,hp,⟨rfl,m,Pl⟩,q⟩:=z;exact⟨gm,x,p,t,fx,hs,ys,lead,m,rfl,G,hp,Pl,q⟩
theorem Plc.fm{fx:Fx}(ok:fx.Ok){r:Rw}{m:Nat}(Pl:Plc fx r.hs r.lead r.ys m):r.Fm:=by
 have n4:fx.n≤4:=by rcases ok.n34 with e | e<;>omega
 exact⟨by rw[Pl.len];omega,by have:=Pl.yl;omega⟩
theorem Zjm{rs:List Rw}{r:Rw}(h:r∈rs):r.nd≤Bb rs r.k:=by
 unfold Bb;have up:∀(l:List Rw) (a:Int),a≤l.foldl (fun a x=>if x.k=r.k then max x.nd a else a) a:=by
  intro l
  induction l with
  | nil=>exact fun a=>Eh _
  | cons x l ih=>
   intro a;rw[List.foldl_cons];refine Int.le_trans ?_ (ih _);split
   ·exact Int.le_max_right _ _
   ·exact Eh _
 have:∀(l:List Rw) (a:Int),r∈l→r.nd≤l.foldl (fun a x=>if x.k=r.k then max x.nd a else a) a:=by
  intro l
  induction l with
  | nil=>exact fun a h=>nomatch h
  | cons x l ih=>
   intro a h;rw[List.foldl_cons];rcases Ja.mp h with e | e
   ·subst e
    rw[Zv rfl];exact Int.le_trans (Int.le_max_left _ _) (up _ _)
   ·exact ih _ e
 exact this rs 0 h
theorem Zpb{rs:List Rw}{k:Uj}{B:Int}(B0:0≤B)(h:∀ r∈rs,r.k=k→r.nd≤B):Bb rs k≤B:=by
 unfold Bb;have:∀(l:List Rw) (a:Int),a≤B→(∀ r∈l,r.k=k→r.nd≤B)→l.foldl (fun a x=>if x.k=k then max x.nd a else a) a≤B:=by
  intro l
  induction l with
  | nil=>exact fun a h _=>h
  | cons x l ih=>
   intro a ha h;rw[List.foldl_cons];refine ih _ ?_ fun r hr=>h r (Zx _ hr);split
   ·rename_i e
    exact Int.max_le.mpr ⟨h x Zw e,ha⟩
   ·exact ha
 exact this rs 0 B0 h
theorem Zbo{b:Bool}{ns:List Nat}{B:Nat}(h:∀ x∈ns,x≤B):Qn b ns≤B:=by
 by_cases n:ns=[]
 ·rw[n]
  exact Nat.zero_le _
 cases b with
 | true=>
  rcases Nat.eq_zero_or_pos (Qn true ns) with e | e
  ·omega
  ·exact h _ (Kx e)
 | false=>
  obtain⟨x,hx⟩:=List.exists_mem_of_ne_nil ns n;exact Jd (Zdd hx) (h x hx)
theorem Zco{fx:Fx}(ok:fx.Ok){t:Option Nat}{side:Nat}:∀(n:Nat) {hs:List Nat} {lead:Nat} {ys:List Nat} {m:Nat},Plc fx hs lead ys m→J4 hs=n→valP fx t side hs lead ys≤m
 | 0,hs,lead,ys,m,Pl,tn=>by
  rw[Vx tn];exact Nat.zero_le _
 | n+1,hs,lead,ys,m,Pl,tn=>by
  rw[N3 ok Pl (by omega)];obtain⟨h,eh,epc⟩:=Pl.turn ok;have eg:hs.getD ((lead+ys.length) % fx.n) 0=h:=by rw[Zr,eh];rfl
  rw[eg];refine Zbo fun x hx=>?_;obtain⟨c,hc,rfl⟩:=Zz.mp hx;have hb:=(Qg (Pl.h32 ok (Zl eh)) hc).1;obtain⟨hs',lead',ys',tk,N⟩:=Ap ok t Pl eh hb;obtain⟨m',Pl',_,tt,m0,g⟩:=N.plc ok Pl eh hb;have et:J4 hs'+1=J4 hs:=tt;have ih:=Zco ok (t:=t) (side:=side) n Pl' (by omega);rw[Aq ok Pl eh hb N];rcases g with⟨rfl,e,_⟩ | ⟨rfl,e,_⟩
  ·show 0+_≤m
   omega
  ·have:Qo side (some lead')≤1:=by
    show(if side.testBit lead'=true then 1 else 0)≤1;split<;>omega
   omega
theorem Zcj{rs rs':List Rw}{hs:List Nat}{lead:Nat}{ys:List Nat}{need:Int}(h:CovR rs hs lead ys need)(s:∀ r∈rs,r∈rs'):need≤Bb rs' (Qd hs lead ys):=by
 rcases h with z | ⟨r,hr,e1,e2⟩
 ·exact Int.le_trans z (Ar _ _)
 ·have:=Zjm (s r hr)
  rw[e1,e2] at this;exact this
theorem GoodR.right{fx:Fx}(ok:fx.Ok){t:Option Nat}{side:Nat}{rs rs':List Rw}{r:Rw}(g:GoodR fx t side rs r)(s:∀ r∈rs,r∈rs'):rtB fx t side (Bb rs') r=true:=by
 obtain⟨m,h,Pl,eh,n1,n2,g⟩:=g.g;have em:=Zb7 ok Pl;have vm:=Zco ok (t:=t) (side:=side) _ Pl rfl;have m0:m≠0:=by omega
 have h32:=Pl.h32 ok (Zl eh);have eg:r.hs.getD ((r.lead+r.ys.length) % fx.n) 0=h:=by rw[Zr,eh];rfl
 have eM:moveL fx t r.hs r.lead r.ys m=Us fx t r.ys h:=by
  unfold My.moveL;rw[Zj m0,eg]
 have cv:∀ c,c∈Us fx t r.ys h→NxR fx t side rs r.hs r.lead r.ys h c r.nd→covB fx t side (Bb rs') r.hs r.lead r.ys c r.nd=true:=fun c hc nx=>by
  have hb:=(Qg h32 hc).1;obtain⟨hs',lead',ys',tk,N⟩:=Ap ok t Pl eh hb;rw[A8 Pl eh hb N];exact Zc (Zcj (nx _ _ _ _ N) s)
 unfold rtB;rw[em,Zc n1,Zc (show r.nd≤((m:Nat):Int) by omega),Bool.true_and,Bool.true_and,eM];rcases g with⟨e1,c,hc,e2,nx⟩ | ⟨e1,e2,nx⟩
 ·rw[e1,Zv rfl,e2]
  dsimp only;rw[Z2,cv c hc nx,Bool.and_true];exact List.any_eq_true.mpr ⟨c,hc,Zc rfl⟩
 ·rw[e1,Zj Zp,e2]
  exact Ym.mpr fun c hc=>cv c hc (nx c hc)
def Os(CT CG:Addr):Sp:=fun vs H Q _=>∃(gm gx p:Addr) (t:Option Nat) (fx:Fx) (side:Nat) (hs:List Nat) (lead:Nat) (ys:List Nat) (m:Nat),vs=[.ref gm,.ref p,.int (side:Nat)]∧Rl t∧GamH CT CG fx t H gm gx∧IsPl H p hs lead ys∧Plc fx hs lead ys m∧J4 hs≤12∧∀ H',Same H H'→Q (.int ((valP fx t side hs lead ys:Nat):Int)) H'
abbrev Dc:List Str:=["game","place","side"]
theorem Zld:FnScope Dc Dc (Zm Zbk):=Uw (by decide +kernel)
theorem Zjh{k:Nat}{CT CG CR f1 aI aA:Addr}{d1 eI dA:FuncData}(F:Fun K "count" "count" Zbk f fd)(C:RkC K mg CR)(LR:Lib P w K mg base (k+1) "refuse_too_many" ["place"] Nh f1 d1)(MkR:Mk K CR aI)(FI:FnOk P w K mg base Yq k aI eI ["self","game","side"] (G4 P w CR))(BI:Binds K eI ["self","game","side"] [])
  (MA:Meth K CR "made_at" aA) (FA:∀ S,SCl S→FnOk P w K mg base Yq (k+1) aA dA ["self","place"] (X4 P w CT CG CR S 13)) (BA:Binds K dA ["self","place"] []):FnOk P w K mg base Yq (k+2) f fd Dc (Os CT CG):=by
 refine F.ok Zld (fun vs H Q E h=>?_) (fun cdv A outer s H vs Q E hr h=>?_)
 ·obtain⟨gm,gx,p,t,fx,side,hs,lead,ys,m,rfl,_⟩:=h
  rfl
 obtain⟨gm,gx,p,t,fx,side,hs,lead,ys,m,rfl,tb,G,hp,Pl,t12,q⟩:=h;have cl:=Sof.cl fx t hs lead ys;refine⟨_,Zi (Xx (Z0 LR.ok hr rfl LR.mg LR.kp LR.bd .nil Jb (Za (pv 1) Zf)))
  (Zn (Z9 (Uf (E6 MkR FI hr rfl C.mR BI .nil Jb (Za (pv 0) (Za (pv 2) Zf))) C.cl MA (FA _ cl) hr BA .nil Jb (Za (pv 1) Zf)))),?_⟩
 refine⟨_,rfl,p,fx,hs,lead,ys,m,rfl,G.ok,hp,Pl,t12,fun H1 s1=>?_⟩;refine nxE ?_;refine⟨_,rfl,_,rfl,?_⟩;intro r dr hr0 hdr nr;refine⟨r,dr,gm,side,rfl,Zq,fun d H2 kp nd R=>⟨rfl,?_⟩⟩;have sm:=Uq (o:=.ins CR dr []) hr0 hdr nr;have s2:=Be hr0 hdr nr kp;have s12:=s1.trans s2;have R2:=R (Sof fx t hs lead ys) fx t;obtain⟨dx,fs,hr2,A2⟩:=id R2.o;have sn:=Vw _ t12;refine⟨r,dx,_,rfl,hr2,A2.nm _ (by decide +kernel),_,rfl,r,gm,gx,d,p,t,fx,side,hs,lead,ys,m,[],rfl,tb,R2,G.same s12,hp.same s12,Pl,⟨rfl,rfl,.here⟩,by omega,by show 0+Sn (J4 hs)≤1000000;omega,fun es' H' k' R' _ _=>q H' (fun b o h=>?_)⟩;exact k' b o (Jz (sm _ _ (s1 _ _ h)) nd) (s12 _ _ h)
abbrev Zho:Stmt:=top 78
abbrev Bp:Stmt:=top 79
theorem Zkk{f:Fx}(ok:f.Ok){sz:Nat}{ds:List Nat}{css:List (List Nat)}(hp:ds.Perm (U6 f.s f.h))(hsz:sz * f.n≤f.s * f.h)(hl:css.length=f.n)
  (hc:∀(j:Nat) (cs:List Nat),css[j]? = some cs→cs.Perm ((ds.drop (sz * j)).take sz)) (hu:∀ cs∈css,cs.Pairwise (·≤·)):DealOk f sz css:=by
 have ll:ds.length=f.s * f.h:=by rw[hp.length_eq,Nm]
 have e1:=Dr css _ hc;rw[hl,Zkn ds sz f.n] at e1;refine⟨hl,fun cs hcs=>?_,?_,fun c hcc=>?_,hu⟩
 ·obtain⟨j,hj,e⟩:=Ua.mp hcs
  have p:=hc j cs (by rw[Zg hj,e]);rw[p.length_eq,Xm,List.length_drop,ll];have h1:sz * (j+1)≤sz * f.n:=Nat.mul_le_mul_left _ (by omega);rw[Nat.mul_succ] at h1;omega
 ·exact e1.nodup_iff.mpr (List.Nodup.sublist (List.take_sublist _ _) (hp.nodup_iff.mpr (Zdl f.s ok.s4 f.h ok.h8)))
 ·exact(Tx ok.h8).mp (hp.mem_iff.mp (List.mem_of_mem_take (e1.mem_iff.mp hcc)))
def chk(cs:List Nat)(sz j:Nat):List Nat:=(cs.drop (sz * j)).take sz
theorem Zkj{f:Fx}(ok:f.Ok){sz:Nat}{cs:List Nat}(hp:cs.Perm (U6 f.s f.h))(hsz:sz * f.n≤f.s * f.h){lead:Nat}(hl:lead < f.n):Plc f ((List.range f.n).map fun j=>hN (chk cs sz j)) lead [] sz∧J4 ((List.range f.n).map fun j=>hN (chk cs sz j))=f.n * sz:=by
 have D:DealOk f sz ((List.range f.n).map fun j=>(chk cs sz j).mergeSort (·≤·)):=Zkk ok hp hsz (by rw[Zk,Yb]) (fun j c e=>by
  rw[Z4] at e;obtain⟨i,hi,rfl⟩:=Jq.mp e;have jl:j < f.n:=by
   have:=(Zu.mp hi).1;rw[Yb] at this;exact this
  rw[List.getElem?_range jl] at hi;cases hi;exact List.mergeSort_perm _ _) fun c hc=>by
  obtain⟨j,_,rfl⟩:=Zz.mp hc;exact(List.pairwise_mergeSort (le:=fun a b=>decide (a≤b)) (fun a b c h1 h2=>by simp only[decide_eq_true_eq] at *;omega) (fun a b=>by simp only[Bool.or_eq_true,decide_eq_true_eq];omega) _).imp fun h=>J0 h
 have e:(((List.range f.n).map fun j=>(chk cs sz j).mergeSort (·≤·)).map hN)=(List.range f.n).map fun j=>hN (chk cs sz j):=by
  rw[Z7];refine J2 fun j _=>Zcf fun i=>?_;exact(List.mergeSort_perm _ _).mem_iff
 have z:=D.plc ok hl;rw[e] at z;refine⟨z,?_⟩;unfold J4;rw[← e];have:∀(css:List (List Nat)),(∀ c∈css,c.Nodup∧(∀ x∈c,x < 32)∧c.length=sz)→((css.map hN).map (Xi 32)).sum=css.length * sz:=by
  intro css
  induction css with
  | nil=>intro _;simp
  | cons c r ih=>
   intro h;obtain⟨h1,h2,h3⟩:=h c Zw;rw[List.map_cons,List.map_cons,List.sum_cons,Zni h1 h2,h3,ih fun c hc=>h c (Zx _ hc),Jo,Nat.succ_mul,Nat.add_comm]
 rw[this _ fun c hc=>⟨D.nd1 hc,D.c32 ok hc,D.each c hc⟩,D.len]
def On(K:W.Frag)(CT CG:Addr):Sp:=fun vs H Q _=>∃(a gm x:Addr) (ns:List Int) (fx:Fx) (t:Option Nat),vs=[.ref a,.ref gm]∧SqL K H a (ns.map V.int)∧GamH CT CG fx t H gm x∧∀(sz:Nat) (H':Hp),Same H H'→sz * fx.n≤fx.s * fx.h→fx.n * sz≤12→Q (.int (sz:Nat)) H'
def Oh(K:W.Frag)(CT CG:Addr):Sp:=fun vs H Q _=>∃(a gm x:Addr) (ns:List Int) (fx:Fx) (t:Option Nat),vs=[.ref a,.ref gm]∧SqL K H a (ns.map V.int)∧GamH CT CG fx t H gm x∧Rl t ∧
 ∀ p hs lead ys m H',Same H H'→IsPl H' p hs lead ys→Plc fx hs lead ys m→J4 hs≤12→Q (.ref p) H'
abbrev Tz:List Str:=["_law_script","_law_game_here"]
abbrev Zjq:List Str:=["_law_script","_law_game_here","_law_cards","_law_size_here","_law_seats","_law_hands","_law_place_here","_law_k","_law_some"]
abbrev nGp1:List Str:=["_law_k","_law_cards","_law_size_here"]
theorem scPlace:FnScope Zjq Tz (Zm Bp):=Uw (by decide +kernel)
def cGp:Scope:=match (Y1 Bp).getD 3 (.Pass ⟨0,0,0,0⟩) with
 | .Assign _ (.Call _ [.ListComp _ _ sc _] _ _) _=>sc
 | _=>Zm Bp
theorem Zkl(xs:List V)(c d:Nat)(hc:c≤xs.length)(hd:d≤xs.length):A6 xs (some (c:Int)) (some (d:Int))=(xs.drop c).take (d - c):=by
 unfold A6;rw[HT.sIx_nat,HT.sIx_nat,Nat.min_eq_left hc,Nat.min_eq_left hd]
theorem Zi1{k:Nat}{CT CG f1 f2 f3 f4 f5 f6:Addr}{d1 d2 d3 d4 d5 d6:FuncData}(F:Fun K "_law_place" "_law_place" Bp f fd)(C:TabC K mg CT)(CGm:GamC K mg CG)(LZ:Lib P w K mg base k "_law_size" ["_law_script","_law_game_here"] (On K CT CG) f6 d6)(LS:Lib P w K mg base k "_law_shuffled" ["_law_script","_law_game_here"] (Zaw K CT CG) f1 d1)(LI:Lib P w K mg base k "_law_bit" ["_law_card"] Kp f2 d2)(LC:Lib P w K mg base k "_law_cell" Bi (Ni K) f3 d3)
  (LM:Lib P w K mg base k "moves" ["game","place"] (Qx CT CG) f4 d4) (LB:Lib P w K mg base k "behind" ["game","place","card"] (X5 K CT CG) f5 d5) (mr:mg "range" = none) (mT:mg "tuple" = none) (mS:mg "sum" = none) (ml:mg "len" = none):FnOk P w K mg base Yq (k+1) f fd Tz (Oh K CT CG):=by
 refine F.ok scPlace (fun vs H Q E h=>?_) (fun cdv A outer s H vs Q E hr h=>?_)
 ·obtain⟨a,gm,x,ns,fx,t,rfl,_⟩:=h
  rfl
 obtain⟨a,gm,x,ns,fx,t,rfl,hS,G,tb,q⟩:=h;refine⟨_,Zi (Jf (i:=2) scPlace.nd rfl (Or.inr rfl) (Z0 LS.ok hr rfl LS.mg LS.kp LS.bd .nil Jb (Za (pv 0) (Za (pv 1) Zf))))
  (Zi (Jf (i:=3) scPlace.nd rfl (Or.inr rfl) (Z0 LZ.ok hr rfl LZ.mg LZ.kp LZ.bd .nil Jb (Za (pv 0) (Za (pv 1) Zf))))
  (Zi (Jf (i:=4) scPlace.nd rfl (Or.inl rfl) (Jt (Jt (pv 1) rfl) rfl))
  (Zi (Jf (i:=5) scPlace.nd rfl (Or.inl rfl) (Yz Xt rfl mT Jv (Za (Ug nGp1 [none,some 2,some 3] rfl (Blk.by (sc:=Zm Bp) (N0:=Zjq) rfl rfl (by decide +kernel)) (Xj rfl mr (Za (pv 4) Zf)) (fun C s₀ H₀ ex=>Jp (i:=0) (show nGp1.Nodup by decide +kernel) rfl (Or.inl rfl)) (fun C s₀ H₀ ex=>U4)
   (fun C s₀ H₀ ex=>Jk (show Xw _ (.builtin "sum") (fun xs H Q=>∃(a:Addr) (ns:List Int),xs=[.ref a]∧SqL K H a (ns.map V.int)∧Q (.int ns.sum) H) from Zaf rfl) rfl mS PyProof.Rows.boot_sum (Za (Ug ["_law_card"] [none] rfl (Blk.by (sc:=Zsl cGp (Zm Bp)) (N0:=nGp1) rfl rfl (by decide +kernel)) (Zib K rfl (K0 (show SlR _ (Zq1 K) from Zk3) (pv 1) (E5 (Jj Xr (pv 2) (pv 0))) (E5 (Jj Y8 (Jj Xr (pv 2) (pv 0)) (pv 2))))) (fun C s₀ H₀ ex=>Jp (i:=0) (show(["_law_card"]:List Str).Nodup by decide +kernel) rfl (Or.inl rfl)) (fun C s₀ H₀ ex=>U4)
    (fun C s₀ H₀ ex=>Z0 LI.ok hr rfl LI.mg LI.kp LI.bd .nil Jb (Za (pv 0) Zf))) Zf))) Zf)))
  (Zi (Jf (i:=6) scPlace.nd rfl (Or.inl rfl) (Uy (Za (pv 5) (Za (Jj Ul (Z0 LC.ok hr rfl LC.mg LC.kp LC.bd .nil Jb (Za (pv 0) (Za Zo Zf))) (pv 4)) (Za (Uy Zf) Zf)))))
  (Zi (Ux PassesOwn.never rfl (Xj rfl mr (Za (Jj Ul (Z0 LC.ok hr rfl LC.mg LC.kp LC.bd .nil Jb (Za (pv 0) (Za Zo Zf))) Zo) Zf)) (Jp (i:=7) scPlace.nd rfl (Or.inl rfl))
   (Zi (Jf (i:=8) scPlace.nd rfl (Or.inl rfl) (Z0 LM.ok hr rfl LM.mg LM.kp LM.bd .nil Jb (Za (pv 1) (Za (pv 6) Zf))))
   (Zn (Yd (Jm Q8 (Jk Ya rfl ml Ju (Za (pv 8) Zf)) Zo (Jl _)) (Zn (Jf (i:=6) scPlace.nd rfl (Or.inl rfl) (Jr Js (Z0 LB.ok hr rfl LB.mg LB.kp LB.bd .nil Jb (Za (pv 1) (Za (pv 6) (Za (Jr Y7 (pv 8) (Jj Ul (Z0 LC.ok hr rfl LC.mg LC.kp LC.bd .nil Jb (Za (pv 0) (Za (Jj Y8 Zo (pv 7)) Zf))) (Jk Ya rfl ml Ju (Za (pv 8) Zf))) (fun _ _=>rfl)) Zf)))) Zo (fun _ _=>rfl)))) Jn))))
  (Zn (Z9 (pv 6)))))))),?_⟩
 have ok:=G.ok;have n4:fx.n≤4:=by rcases ok.n34 with e | e<;>omega
 have n3:3≤fx.n:=by rcases ok.n34 with e | e<;>omega
 have sn:fx.s * fx.h≤32:=Jd (Nat.mul_le_mul ok.s4 ok.h8) (by decide);have z1000:=Yf 1000 (by decide);refine⟨_,rfl,_,rfl,a,gm,x,ns,fx,t,rfl,hS,G,fun lc cs H0 pm s0 hlc hC0=>?_⟩;obtain⟨dg,hg⟩:=id G.g;obtain⟨dx,po,to,hx,_,_⟩:=id G.t;have cl:cs.length=fx.s * fx.h:=by rw[pm.length_eq,Nm]
 have nd:cs.Nodup:=pm.nodup_iff.mpr (Zdl fx.s ok.s4 fx.h ok.h8);have c32:∀ c∈cs,c < 32:=fun c hc=>by
  have:=(Tx ok.h8).mp (pm.mem_iff.mp hc);have:=ok.s4;have:=ok.h8;omega
 refine⟨_,rfl,_,rfl,a,gm,x,ns,fx,t,rfl,s0.seq hS,G.same s0,fun sz H1 sz1 szn sz12=>Zdn ?_⟩;have s1:=s0.trans sz1;have hC:=sz1 _ _ hC0;have sz32:sz≤32:=by
  have:sz * 1≤sz * fx.n:=Nat.mul_le_mul_left _ (by omega);omega
 refine⟨_,rfl,gm,CG,dg,_,_,rfl,s1 _ _ hg,CGm.cl,CGm.nT,Yu _ _,x,CT,dx,_,_,rfl,s1 _ _ hx,C.cl,C.nN,Ut _ _ _,Zdn ?_⟩;refine X6 (fun v H2=>Same H H2∧∃ hp,v = .ref hp∧H2 hp=some (.tup (vN ((List.range fx.n).map fun j=>hN (chk cs sz j))))) (fun R hR=>?_) (fun v H2 z=>?_)
 ·refine⟨_,rfl,(fx.n:Int),rfl,by omega,by omega,?_⟩
  refine Bw (n:=fx.n) (lo:=0) (fun _=>true) (fun j=>.int ((hN (chk cs sz j):Nat):Int)) (Yf _ (by omega)) (fun j H3 hj sm R hR=>hR H3 (Same.refl H3)) (fun i H3 hi hp sm R hR=>?_) (fun l3 H3 s3 hl3 hL3=>?_)
  ·have b1:sz * i+sz≤cs.length:=by
    rw[cl];have:sz * (i+1)≤sz * fx.n:=Nat.mul_le_mul_left _ (by omega);rw[Nat.mul_succ] at this;omega
   have eI:((sz:Nat):Int) * (0+((i:Nat):Int))=((sz * i:Nat):Int):=by rw[Int.zero_add,Int.natCast_mul]
   have eJ:((sz:Nat):Int) * (0+((i:Nat):Int))+((sz:Nat):Int)=((sz * i+sz:Nat):Int):=by rw[eI,X0]
   have hC3:=sm _ _ hC;refine⟨_,rfl,_,rfl,_,rfl,_,_,rfl,rfl,.inl ⟨by omega,by omega⟩,_,rfl,_,rfl,_,rfl,_,_,rfl,rfl,.inl ⟨by omega,by omega⟩,_,rfl,_,_,rfl,rfl,_,rfl,lc,_,rfl,SqL.of hC3,fun lk hlk=>?_⟩;have eC:A6 (vN cs) (some (((sz:Nat):Int) * (0+((i:Nat):Int)))) (some (((sz:Nat):Int) * (0+((i:Nat):Int))+((sz:Nat):Int)))=vN (chk cs sz i):=by
    rw[eJ,eI,Zkl _ (sz * i) (sz * i+sz) (by rw[Yh];omega) (by rw[Yh];omega),Nat.add_sub_cancel_left];unfold vN chk;rw[List.map_take,List.map_drop]
   have s7:=Je hlk (.lst (A6 (vN cs) (some (((sz:Nat):Int) * (0+((i:Nat):Int)))) (some (((sz:Nat):Int) * (0+((i:Nat):Int))+((sz:Nat):Int)))));have hK:upd H3 lk (.lst (A6 (vN cs) (some (((sz:Nat):Int) * (0+((i:Nat):Int)))) (some (((sz:Nat):Int) * (0+((i:Nat):Int))+((sz:Nat):Int))))) lk=some (.lst (vN (chk cs sz i))):=by rw[Zq,eC]
   have kl:(chk cs sz i).length=sz:=by unfold chk;rw[Xm,List.length_drop];omega
   refine⟨lk,rfl,⟨_,SqL.of hK⟩,Qj (K:=K) (xs:=vN (chk cs sz i)) (fun _=>true) Zh7 (SqL.of hK) (Yf _ (by rw[Yh,kl];omega)) (fun x H3 hx sm R hR=>hR H3 (Same.refl H3)) (fun x H8 hx hp sm8 R hR=>?_) (fun lr H8 s8 hlr hL8=>?_)⟩
   ·obtain⟨c,hc,rfl⟩:=Zz.mp hx
    have:=c32 c (List.mem_of_mem_drop (List.mem_of_mem_take hc));refine⟨_,rfl,c,rfl,by omega,?_⟩;have z:=hR H8 (Same.refl H8);have e:Zh7 (V.int (c:Nat))=V.int ((2 ^ c:Nat):Int):=by
     show V.int ((2 ^ (((c:Nat):Int)).toNat:Nat):Int)=_;rw[Z2]
    rw[e] at z;exact z
   ·rw[Da,D8] at hL8
    have z:=hR H8 (s7.trans s8);refine⟨lr,_,rfl,SqL.of hL8,?_⟩;have ndc:(chk cs sz i).Nodup:=List.Nodup.sublist ((List.take_sublist _ _).trans (List.drop_sublist _ _)) nd;rw[Od,Zj8 ndc];exact z
  ·have e3:((List.range fx.n).filter fun _=>true).map (fun j=>V.int ((hN (chk cs sz j):Nat):Int))=vN ((List.range fx.n).map fun j=>hN (chk cs sz j)):=by
    rw[List.filter_eq_self.mpr (fun _ _=>rfl)];unfold vN;rw[Z7];rfl
   rw[e3] at hL3;exact⟨l3,_,rfl,.inl ⟨SqL.of hL3,fun th hth=>hR _ _ ⟨(s1.trans s3).trans (Je hth _),th,rfl,Zq⟩⟩⟩
 obtain⟨s2,hp,rfl,hH2⟩:=z;obtain⟨hsL,ehs⟩:∃ hsL,hsL=(List.range fx.n).map fun j=>hN (chk cs sz j):=⟨_,rfl⟩;rw[← ehs] at hH2;refine X6 (fun v H3=>Same H H3∧∃ p lead,v = .ref p∧IsPl H3 p hsL lead []∧lead < fx.n) (fun R hR=>?_) (fun v H3 z=>?_)
 ·refine⟨_,rfl,_,rfl,a,ns,4,rfl,s2.seq hS,by decide,fun c=>⟨_,rfl,_,_,rfl,rfl,(show(0:Int) < ((fx.n:Nat):Int) by omega),?_⟩⟩
  obtain⟨ld,ldn,eld⟩:=Au (z:=c) (n:=fx.n) (by omega);refine⟨Yf 0 (by decide),fun tz htz=>⟨Yf 3 (by decide),fun p hpn=>?_⟩⟩;have a6:=Je htz (.tup []);have a7:=Je hpn (.tup [.ref hp,.int (c % ((fx.n:Nat):Int)),.ref tz]);refine hR _ _ ⟨(s2.trans a6).trans a7,p,ld,rfl,⟨hp,tz,?_,a7 _ _ (a6 _ _ hH2),a7 _ _ Zq⟩,ldn⟩;rw[Zq];show some (HO.tup [V.ref hp,V.int (c % ((fx.n:Nat):Int)),V.ref tz])=_;rw[eld]
 obtain⟨s3,p0,ld,rfl,hPl0,ldn⟩:=z;obtain⟨Pl0,tot0⟩:=Zkj ok pm szn ldn;rw[← ehs] at Pl0 tot0;refine Ox (fun σ H'=>Same H H'∧∃(p:Addr) (hs:List Nat) (lead:Nat) (ys:List Nat) (m:Nat) (x7 x8:Option V),σ=[some (.ref a),some (.ref gm),some (.ref lc),some (.int (sz:Nat)),some (.int (fx.n:Nat)),some (.ref hp),some (.ref p),x7,x8]∧IsPl H' p hs lead ys∧Plc fx hs lead ys m∧J4 hs≤fx.n * sz) (fun D' er nx=>?_) (fun σ H4 z=>?_)
 ·refine⟨_,rfl,a,ns,5,rfl,s3.seq hS,by decide,fun c=>⟨_,_,rfl,rfl,(show(0:Int) < 4 by decide),?_⟩⟩
  obtain⟨st,st3,est⟩:=Au (z:=c) (n:=4) (by omega);refine⟨c % 4,rfl,by omega,by omega,?_⟩;have est':c % 4=((st:Nat):Int):=est;rw[est'];refine Q2 (n:=st) (fun i σ H'=>Same H H'∧∃(p:Addr) (hs:List Nat) (lead:Nat) (ys:List Nat) (m:Nat) (x7 x8:Option V),σ=[some (.ref a),some (.ref gm),some (.ref lc),some (.int (sz:Nat)),some (.int (fx.n:Nat)),some (.ref hp),some (.ref p),x7,x8]∧IsPl H' p hs lead ys∧Plc fx hs lead ys m∧J4 hs≤fx.n * sz) ⟨s3,p0,_,_,_,_,none,none,rfl,hPl0,Pl0,Nat.le_of_eq tot0⟩ (fun i σ H4 hi z=>?_) (fun σ H4 z=>?_)
  ·obtain⟨s4,p,hs,lead,ys,m,x7,x8,rfl,hPl,Pl,et⟩:=z
   obtain⟨h,eh,epc⟩:=Pl.turn ok;have h32:=Pl.h32 ok (Zl eh);have eg:hs.getD ((lead+ys.length) % fx.n) 0=h:=by rw[Zr,eh];rfl
   refine⟨_,rfl,_,rfl,gm,x,p,t,fx,hs,ys,lead,m,rfl,G.same s4,tb,hPl.same (Same.refl _),Pl,fun lm H5 s5 hlm hm5=>?_⟩;have s45:=s4.trans s5;have mlen:(moveL fx t hs lead ys m).length≤1000:=by
    unfold My.moveL;split
    ·simp
    ·rw[eg]
     exact Zdr h32
   have eL:decide ((0:Int) < (((vN (moveL fx t hs lead ys m)).length:Nat):Int))=decide (0 < (moveL fx t hs lead ys m).length):=by
    rw[Yh];exact decide_eq_decide.mpr ⟨fun h=>by omega,fun h=>by omega⟩
   refine⟨_,rfl,lm,_,rfl,.inl (SqL.of hm5),_,_,rfl,rfl,_,rfl,X1 eL ?_⟩;by_cases ln:0 < (moveL fx t hs lead ys m).length
   case neg=>
    rw[Zd ln];exact J3 ⟨s45,p,hs,lead,ys,m,_,_,rfl,hPl.same s5,Pl,et⟩
   rw[Zc ln];refine Yt ?_;have m0:m≠0:=fun z=>by
    rw[z] at ln;exact absurd ln (Nat.lt_irrefl 0)
   have eM:moveL fx t hs lead ys m=Us fx t ys h:=by
    unfold My.moveL;rw[Zj m0,eg]
   have ne:Us fx t ys h≠[]:=fun z=>by
    rw[eM,z] at ln;exact absurd ln (Nat.lt_irrefl 0)
   rw[eM] at hm5;refine⟨_,rfl,_,rfl,_,rfl,_,rfl,_,rfl,_,_,rfl,rfl,a,ns,6+i,?_,s45.seq hS,by omega,fun c=>?_⟩
   ·show [V.ref a,V.int ((6:Int)+(0+((i:Nat):Int)))]=_
    rw[Int.zero_add];rfl
   have lp0:0 < (Us fx t ys h).length:=List.length_pos_iff.mpr ne;obtain⟨v,hv,ev⟩:=Zde (vN (Us fx t ys h)) (((vN (Us fx t ys h)).length:Nat):Int) rfl (by rw[Yh];exact lp0) c;obtain⟨cd,hcd,rfl⟩:=Zz.mp hv;have hb:=(Qg h32 hcd).1;refine⟨_,rfl,lm,_,rfl,.inl (SqL.of hm5),_,_,rfl,rfl,(by show(0:Int) < (((vN (Us fx t ys h)).length:Nat):Int);rw[Yh];omega),lm,_,_,_,rfl,rfl,SqL.of hm5,ev,?_⟩;refine⟨gm,x,p,t,fx,hs,ys,lead,m,h,cd,rfl,G.same s45,hPl.same s5,Pl,eh,hb,fun r p' hs' lead' ys' tk H6 s6 N hr6 hp6=>?_⟩;obtain⟨m',Pl',_,tt,_,_⟩:=N.plc ok Pl eh hb;have et':J4 hs'+1=J4 hs:=tt;exact⟨r,_,_,_,rfl,rfl,SqT.of hr6,(rfl:Xs [V.ref p',Kk tk] 0=some (V.ref p')),s45.trans s6,p',hs',lead',ys',m',_,_,rfl,hp6,Pl',by omega⟩
  ·obtain⟨s4,p,hs,lead,ys,m,x7,x8,rfl,hPl,Pl,et⟩:=z
   exact nx _ _ ⟨s4,p,hs,lead,ys,m,x7,x8,rfl,hPl,Pl,et⟩
 obtain⟨s4,p,hs,lead,ys,m,x7,x8,rfl,hPl,Pl,e1⟩:=z;exact⟨_,rfl,q p hs lead ys m H4 s4 hPl Pl (by omega)⟩
theorem scLSize:FnScope ["_law_script","_law_game_here","_law_size_here"] ["_law_script","_law_game_here"] (Zm Zho):=Uw (by decide +kernel)
theorem Zi9{k:Nat}{CT CG f1 m1:Addr}{d1 e1:FuncData}(F:Fun K "_law_size" "_law_size" Zho f fd)(C:TabC K mg CT)(CGm:GamC K mg CG)(LC:Lib P w K mg base k "_law_cell" Bi (Ni K) f1 d1)(MD:Meth K CT "duty" m1)(FD:FnOk P w K mg base Yq k m1 e1 ["self"] (Og CT))(BD:Binds K e1 ["self"] [])(mMn:mg "min" = none):FnOk P w K mg base Yq (k+1) f fd ["_law_script","_law_game_here"] (On K CT CG):=by
 refine F.ok scLSize (fun vs H Q E h=>?_) (fun cdv A outer s H vs Q E hr h=>?_)
 ·obtain⟨a,gm,x,ns,fx,t,rfl,_⟩:=h
  rfl
 obtain⟨a,gm,x,ns,fx,t,rfl,hS,G,q⟩:=h;refine⟨_,Zi (Jf (i:=2) scLSize.nd rfl (Or.inl rfl) (Jr Y7 (Qf (Za Zo (Za Zo (Za Zo (Za Zo Zf))))) (Jj Ul (Z0 LC.ok hr rfl LC.mg LC.kp LC.bd .nil Jb (Za (pv 0) (Za Zo Zf))) Zo) (fun _ _=>rfl)))
  (Zi (Yd (PW.pt (Br (Jm X7 (Jt (Jt (pv 1) rfl) rfl) Zo (Jl _)) (Br (Jm X7 (pv 2) Zo (Jl _)) (N9 (Jm X7 (Vg (Jt (pv 1) rfl) C.cl MD FD hr BD .nil Jb) Ud (Jl _)))))) (Zn (Jf (i:=2) scLSize.nd rfl (Or.inl rfl) Zo)) Jn)
  (Zn (Z9 (Jk (Zgd rfl) rfl mMn PyProof.Rows.boot_min (Za (pv 2) (Za (Jj Xk (Jj Xr (Jt (Jt (pv 1) rfl) rfl) (Jt (Jt (pv 1) rfl) rfl)) (Jt (Jt (pv 1) rfl) rfl)) Zf)))))),?_⟩
 have ok:=G.ok;have n3:3≤fx.n:=by rcases ok.n34 with e | e<;>omega
 have n4:fx.n≤4:=by rcases ok.n34 with e | e<;>omega
 have s4:=ok.s4;have h8:=ok.h8;refine X6 (fun v H1=>Same H H1∧∃ z:Nat,v = .int ((z:Nat):Int)∧z≤3) (fun R hR=>⟨Yf 4 (by decide),fun ll hll=>?_⟩) (fun v H1 z=>?_)
 ·have sl:=Je hll (.lst (vN [1,2,2,3]))
  refine⟨_,rfl,a,ns,3,rfl,sl.seq hS,by decide,fun c=>?_⟩;obtain⟨v,hv,ev⟩:=Zde (vN [1,2,2,3]) 4 rfl (by decide) c;obtain⟨z,hz,rfl⟩:=Zz.mp hv;refine⟨_,_,rfl,rfl,(show(0:Int) < 4 by decide),ll,_,_,_,rfl,rfl,SqL.of Zq,ev,hR _ _ ⟨sl,z,rfl,?_⟩⟩;simp only[Ja,Y5,or_false] at hz;omega
 obtain⟨s1,z,rfl,z3⟩:=z;have G1:=G.same s1;obtain⟨dg,hg⟩:=id G1.g;obtain⟨dx,po,to,hx,hpo,hto⟩:=id G1.t;refine Zj6 (fun b H'=>H1=H') (fun σ H'=>H1=H'∧∃ z:Nat,z≤3∧σ=[some (.ref a),some (.ref gm),some (.int ((z:Nat):Int))]) (fun R hR=>?_) (fun H' e D' er nx=>?_) (fun H' e D' er nx=>?_) (fun σ H' y=>?_)
 ·refine⟨_,rfl,gm,CG,dg,_,_,rfl,hg,CGm.cl,CGm.nT,Yu _ _,x,CT,dx,_,_,rfl,hx,C.cl,C.nN,Ut _ _ _,rfl,_,rfl,M3 (fun _=>?_) (fun _=>hR _ _ rfl)⟩
  refine⟨_,rfl,rfl,_,rfl,M3 (fun _=>?_) (fun _=>hR _ _ rfl)⟩;exact⟨_,rfl,gm,CG,dg,_,_,rfl,hg,CGm.cl,CGm.nT,Yu _ _,x,dx,_,rfl,hx,Mc _ _ _,x,fx,rfl,G1.t,rfl,_,rfl,hR _ _ rfl⟩
 ·subst e
  exact nx _ _ ⟨rfl,2,by decide,rfl⟩
 ·subst e
  exact nx _ _ ⟨rfl,z,z3,rfl⟩
 obtain⟨rfl,z,z3,rfl⟩:=y;refine⟨_,rfl,_,rfl,gm,CG,dg,_,_,rfl,hg,CGm.cl,CGm.nT,Yu _ _,x,CT,dx,_,_,rfl,hx,C.cl,C.nS,Nt _ _ _,_,rfl,gm,CG,dg,_,_,rfl,hg,CGm.cl,CGm.nT,Yu _ _,x,CT,dx,_,_,rfl,hx,C.cl,C.nH,Ei _ _ _,_,_,rfl,rfl,.inl ⟨by omega,by omega⟩,_,rfl,gm,CG,dg,_,_,rfl,hg,CGm.cl,CGm.nT,Yu _ _,x,CT,dx,_,_,rfl,hx,C.cl,C.nN,Ut _ _ _,_,_,rfl,rfl,⟨(show(0:Int) < ((fx.n:Nat):Int) by omega),by omega⟩,_,_,rfl,?_⟩;have ed:((fx.s:Nat):Int) * ((fx.h:Nat):Int) / ((fx.n:Nat):Int)=((fx.s * fx.h / fx.n:Nat):Int):=by rw[Int.natCast_ediv,Int.natCast_mul]
 have em:(if((fx.s:Nat):Int) * ((fx.h:Nat):Int) / ((fx.n:Nat):Int) < ((z:Nat):Int) then((fx.s:Nat):Int) * ((fx.h:Nat):Int) / ((fx.n:Nat):Int) else((z:Nat):Int))=((min z (fx.s * fx.h / fx.n):Nat):Int):=by
  rw[ed];split<;>omega
 show Q (V.int (if((fx.s:Nat):Int) * ((fx.h:Nat):Int) / ((fx.n:Nat):Int) < ((z:Nat):Int) then((fx.s:Nat):Int) * ((fx.h:Nat):Int) / ((fx.n:Nat):Int) else((z:Nat):Int))) H1;rw[em];refine q _ H1 s1 ?_ ?_
 ·exact Jd (Nat.mul_le_mul_right _ (Nat.min_le_right _ _)) (Nat.div_mul_le_self _ _)
 ·exact Jd (Nat.mul_le_mul n4 (Jd (Nat.min_le_left _ _) z3)) (by decide)
theorem GoodR.fm{fx:Fx}(ok:fx.Ok){t:Option Nat}{side:Nat}{rs:List Rw}{r:Rw}(g:GoodR fx t side rs r):r.Fm:=by
 obtain⟨m,h,Pl,_⟩:=g.g;exact Plc.fm ok Pl
theorem GoodR.okp{fx:Fx}{t:Option Nat}{side:Nat}{rs:List Rw}{r:Rw}(g:GoodR fx t side rs r):OkP fx r.hs r.lead r.ys true:=by
 obtain⟨m,h,Pl,_⟩:=g.g;exact⟨rfl,m,Pl⟩
structure Pap(H:Hp)(fx:Fx)(t:Option Nat)(side:Nat)(l:Addr)(bs:List (Rw×Addr)):Prop where
 l:H l=some (.lst (R0 bs))
 r:RwsH H bs
 g:∀ r∈bs.map (·.1),GoodR fx t side (bs.map (·.1)) r
 n:bs.length≤100000
theorem Pap.same{H H':Hp}{fx:Fx}{t:Option Nat}{side:Nat}{l:Addr}{bs:List (Rw×Addr)}(h:Pap H fx t side l bs)(s:Same H H'):Pap H' fx t side l bs:=⟨s _ _ h.l,h.r.same s,h.g,h.n⟩
theorem Pap.of{H:Hp}{fx:Fx}(ok:fx.Ok){t:Option Nat}{side:Nat}{l:Addr}{bs:List (Rw×Addr)}(h1:H l=some (.lst (R0 bs)))(h2:∀ e∈bs,IsRw H e.1 e.2)(h3:∀ r∈bs.map (·.1),GoodR fx t side (bs.map (·.1)) r)(h4:bs.length≤100000):Pap H fx t side l bs:=
 ⟨h1,fun e he=>⟨h2 e he,(h3 e.1 (Zz.mpr ⟨e,he,rfl⟩)).fm ok⟩,h3,h4⟩
theorem Pap.okp{H:Hp}{fx:Fx}{t:Option Nat}{side:Nat}{l:Addr}{bs:List (Rw×Addr)}(h:Pap H fx t side l bs):∀ e∈bs,OkP fx e.1.hs e.1.lead e.1.ys true:=fun e he=>(h.g e.1 (Zz.mpr ⟨e,he,rfl⟩)).okp
def AllG(fx:Fx)(t:Option Nat)(side:Nat)(RS:List Rw):Prop:=∀ r∈RS,∃ rs,(∀ x∈rs,x∈RS)∧GoodR fx t side rs r
theorem Pap.all{H:Hp}{fx:Fx}{t:Option Nat}{side:Nat}{l:Addr}{bs:List (Rw×Addr)}(h:Pap H fx t side l bs):AllG fx t side (bs.map (·.1)):=fun r hr=>⟨_,fun _ z=>z,h.g r hr⟩
theorem AllG.right{fx:Fx}(ok:fx.Ok){t:Option Nat}{side:Nat}{RS:List Rw}(a:AllG fx t side RS){r:Rw}(hr:r∈RS):rtB fx t side (Bb RS) r=true:=by
 obtain⟨rs,s,g⟩:=a r hr;exact g.right ok s
theorem Zps{fx:Fx}(ok:fx.Ok){t:Option Nat}{side:Nat}{RS rs:List Rw}{hs:List Nat}{lead:Nat}{ys:List Nat}{nd nd':Int}(a:AllG fx t side RS)(s:∀ x∈rs,x∈RS)(c:CovR rs hs lead ys nd)(le:nd'≤nd):hldB fx t side (fun _=>true) RS (Qd hs lead ys) nd'=true:=by
 unfold hldB;rw[Ym.mpr fun r hr=>by rw[Bool.true_and];exact a.right ok hr,Bool.true_and];exact Zc (Int.le_trans le (Zcj c s))
end
end My
namespace L2
open PySem PySem.Spec PyProof.Rows
def Zq6:R2:=fun x y H Q=>∃(a b a1 a3 b1 b3:Addr) (ns1 ns3 ms1 ms3:List Int) (i j:Int),x = .ref a∧y = .ref b∧H a=some (.tup [.ref a1,.int i,.ref a3])∧H b=some (.tup [.ref b1,.int j,.ref b3])∧H a1=some (.tup (ns1.map V.int))∧H a3=some (.tup (ns3.map V.int))∧H b1=some (.tup (ms1.map V.int))∧H b3=some (.tup (ms3.map V.int)) ∧
 Q (.bl (decide (ns1=ms1) && (decide (i=j) && decide (ns3=ms3)))) H
theorem Zls{X:Cx}(hu:X.A.units+64 < cLine):Nf X (compareOp .Eq) Zq6:=by
 intro pins s σ H x y v u Q I rx ry h;obtain⟨a,b,a1,a3,b1,b3,ns1,ns3,ms1,ms3,i,k,rfl,rfl,ha,hb,h1,h3,g1,g3,q⟩:=h;cases rx;cases ry;obtain⟨its,r1,p1,_⟩:=I.tuple (SqT.of ha);obtain⟨its2,r2,p2,_⟩:=I.tuple (SqT.of hb);have l1:3=its.length:=r1.length;have l2:3=its2.length:=r2.length;refine SeqAt.RcAt.tuples (e:=fun j=>match j with | 0=>decide (ns1=ms1) | 1=>Ru (.int i) (.int k) | _=>decide (ns3=ms3)) p1 p2 (by omega) (fun j w1 w2=>?_) _ _ _ _ ⟨.bl _,H,I,rfl,?_⟩
 ·have e1:=Sv r1 w1
  have e2:=Sv r2 w2;obtain⟨e1,jl⟩:=e1;have e2:=e2.1;have jl:j < 3:=jl;generalize its.toArray[j]=u1 at e1;generalize its2.toArray[j]=u2 at e2
  match j,jl with
  | 0,_=>
   cases e1;cases e2;exact Du I h1 g1 (by show X.A.units+1 < cLine;omega)
  | 1,_=>exact Mm e1 e2 rfl rfl
  | 2,_=>
   cases e1;cases e2;exact Du I h3 g3 (by show X.A.units+1 < cLine;omega)
 ·have s1:its.toArray.size=3:=by simpa using l1.symm
  have s2:its2.toArray.size=3:=by simpa using l2.symm
  rw[s1,s2];have e:Ru (.int i) (.int k)=decide (i=k):=by
   show(i == k)=_;by_cases c:i=k
   ·rw[Zc c]
    exact beq_iff_eq.mpr c
   ·rw[Zd c]
    exact beq_eq_false_iff_ne.mpr c
  have ez:((List.range (min 3 3)).all (fun j=>match j with | 0=>decide (ns1=ms1) | 1=>Ru (.int i) (.int k) | _=>decide (ns3=ms3)) && (3:Nat) == 3)=(decide (ns1=ms1) && (decide (i=k) && decide (ns3=ms3))):=by
   rw[← e];show((decide (ns1=ms1) && (Ru (.int i) (.int k) && (decide (ns3=ms3) && true))) && true)=_;rw[Bool.and_true,Bool.and_true]
  rw[ez];exact q
end L2
namespace My
open PySem L2
abbrev Zhp:Stmt:=top 80
abbrev Zod:Stmt:=top 81
abbrev Zhs:Stmt:=top 82
abbrev Zht:Stmt:=top 83
abbrev Ab:Stmt:=top 84
section
variable{P:Program}{w:World}{K:W.Frag}{mg:Str→Option Value}{base:Heap}{f g:Addr}{fd gd:FuncData}
def Zav(K:W.Frag):Sp:=fun vs H Q _=>∃(a:Addr) (ns:List Int) (n:Nat),vs=[.ref a,.int (n:Nat)]∧SqL K H a (ns.map V.int)∧n≤4∧∀ side:Nat,side < 2 ^ n→Q (.int (side:Nat)) H
theorem Zn6:FnScope ["_law_script","_law_seats"] ["_law_script","_law_seats"] (Zm Zhp):=Uw (by decide +kernel)
theorem Zlz{k:Nat}{f1 f2:Addr}{d1 d2:FuncData}(F:Fun K "_law_side" "_law_side" Zhp f fd)(LC:Lib P w K mg base k "_law_cell" Bi (Ni K) f1 d1)(LI:Lib P w K mg base k "_law_bit" ["_law_card"] Kp f2 d2):FnOk P w K mg base Yq (k+1) f fd ["_law_script","_law_seats"] (Zav K):=by
 refine F.ok Zn6 (fun vs H Q E h=>?_) (fun cdv A outer s H vs Q E hr h=>?_)
 ·obtain⟨a,ns,n,rfl,_⟩:=h
  rfl
 obtain⟨a,ns,n,rfl,hS,n4,q⟩:=h;refine⟨_,Zn (Z9 (Jj Ul (Z0 LC.ok hr rfl LC.mg LC.kp LC.bd .nil Jb (Za (pv 0) (Za Zo Zf))) (Z0 LI.ok hr rfl LI.mg LI.kp LI.bd .nil Jb (Za (pv 1) Zf)))),?_⟩;have p0:0 < 2 ^ n:=Nat.pos_of_ne_zero (by simp);refine⟨_,rfl,a,ns,10,rfl,hS,by decide,fun c=>⟨_,rfl,n,rfl,by omega,_,_,rfl,rfl,(show(0:Int) < ((2 ^ n:Nat):Int) by omega),?_⟩⟩;obtain⟨sd,sl,es⟩:=Au (z:=c) (n:=2 ^ n) p0;show Q (V.int (c % ((2 ^ n:Nat):Int))) H;rw[es];exact q sd sl
def Zc2:Sp:=fun vs H Q _=>∃(side seat:Nat),vs=[.int (side:Nat),.int (seat:Nat)]∧seat≤4∧Q (.bl (side.testBit seat)) H
theorem Zqy:FnScope ["_law_side_here","_law_seat"] ["_law_side_here","_law_seat"] (Zm Zod):=Uw (by decide +kernel)
theorem Zo4{k:Nat}{f1:Addr}{d1:FuncData}(F:Fun K "_law_in" "_law_in" Zod f fd)(LI:Lib P w K mg base k "_law_bit" ["_law_card"] Kp f1 d1):FnOk P w K mg base Yq (k+1) f fd ["_law_side_here","_law_seat"] Zc2:=by
 refine F.ok Zqy (fun vs H Q E h=>?_) (fun cdv A outer s H vs Q E hr h=>?_)
 ·obtain⟨side,seat,rfl,_⟩:=h
  rfl
 obtain⟨side,seat,rfl,sl,q⟩:=h;refine⟨_,Zn (Z9 (Y0 X7 (Jj Ul (Jj Xk (pv 0) (Z0 LI.ok hr rfl LI.mg LI.kp LI.bd .nil Jb (Za (pv 1) Zf))) Zo) Zo (Jl _))),?_⟩;have p0:0 < 2 ^ seat:=Nat.pos_of_ne_zero (by simp);refine⟨_,rfl,_,rfl,seat,rfl,by omega,_,_,rfl,rfl,⟨(show(0:Int) < ((2 ^ seat:Nat):Int) by omega),by have:2 ^ seat≤2 ^ 4:=Nat.pow_le_pow_right (by decide) sl;omega⟩,_,_,rfl,rfl,(show(0:Int) < 2 by decide),rfl,?_⟩;have e:decide (V.int (((side:Nat):Int) / ((2 ^ seat:Nat):Int) % 2)=V.int 1)=side.testBit seat:=by
  have e1:((side:Nat):Int) / ((2 ^ seat:Nat):Int) % 2=((side / 2 ^ seat % 2:Nat):Int):=by
   rw[Int.natCast_emod,Int.natCast_ediv];rfl
  rw[e1,Nat.testBit_eq_decide_div_mod_eq,int_dec];exact decide_eq_decide.mpr ⟨fun h=>by omega,fun h=>by omega⟩
 show Q (V.bl (decide (V.int (((side:Nat):Int) / ((2 ^ seat:Nat):Int) % 2)=V.int 1))) H;rw[e];exact q
theorem Znt(xs:List Nat):vN xs=(xs.map fun x=>((x:Nat):Int)).map V.int:=by
 unfold vN;rw[Z7];rfl
theorem Zdz{xs ys:List Nat}(h:(xs.map fun x=>((x:Nat):Int))=ys.map fun x=>((x:Nat):Int)):xs=ys:=by
 have:=congrArg (List.map Int.toNat) h;rw[Z7,Z7] at this;have e:(Int.toNat ∘ fun x:Nat=>((x:Nat):Int))=id:=funext fun x=>Z2 x;rw[e,List.map_id,List.map_id] at this;exact this
theorem Zoo(hs hs':List Nat)(lead lead':Nat)(ys ys':List Nat):(decide ((hs.map fun x=>((x:Nat):Int))=hs'.map fun x=>((x:Nat):Int)) && (decide (((lead:Nat):Int)=((lead':Nat):Int)) && decide ((ys.map fun x=>((x:Nat):Int))=ys'.map fun x=>((x:Nat):Int))))=decide (Qd hs lead ys=Qd hs' lead' ys'):=by
 by_cases c:Qd hs lead ys=Qd hs' lead' ys'
 ·obtain⟨rfl,rfl,rfl⟩:=Zdb c
  rw[Zc c,Zc rfl,Zc rfl,Zc rfl];rfl
 ·rw[Zd c]
  by_cases c1:(hs.map fun x=>((x:Nat):Int))=hs'.map fun x=>((x:Nat):Int)
  ·by_cases c2:((lead:Nat):Int)=((lead':Nat):Int)
   ·by_cases c3:(ys.map fun x=>((x:Nat):Int))=ys'.map fun x=>((x:Nat):Int)
    ·exact absurd (by rw[Zdz c1,show lead=lead' by omega,Zdz c3]) c
    ·rw[Zd c3,Bool.and_false,Bool.and_false]
   ·rw[Zd c2,Bool.false_and,Bool.and_false]
  ·rw[Zd c1,Bool.false_and]
theorem IsPl.ints{H:Hp}{p:Addr}{hs:List Nat}{lead:Nat}{ys:List Nat}(h:IsPl H p hs lead ys):∃ a b,H p=some (.tup [.ref a,.int (lead:Nat),.ref b])∧H a=some (.tup ((hs.map fun x=>((x:Nat):Int)).map V.int))∧H b=some (.tup ((ys.map fun x=>((x:Nat):Int)).map V.int)):=by
 obtain⟨a,b,h1,h2,h3⟩:=h;rw[Znt] at h2 h3;exact⟨a,b,h1,h2,h3⟩
abbrev Dd:List Str:=["_law_paper_rows","_law_place_here","_law_need"]
abbrev Zrk:List Str:=["_law_paper_rows","_law_place_here","_law_need","_law_other","_law_more","_law_card"]
theorem scLHas:FnScope Zrk Dd (Zm Zhs):=Uw (by decide +kernel)
def Oo:Sp:=fun vs H Q _=>∃(l p:Addr) (as:List (Rw×Addr)) (hs:List Nat) (lead:Nat) (ys:List Nat) (need:Int),vs=[.ref l,.ref p,.int need]∧H l=some (.lst (R0 as))∧RwsH H as∧IsPl H p hs lead ys∧1≤need∧∀ H',Same H H'→Q (.bl (decide (need≤Bb (as.map (·.1)) (Qd hs lead ys)))) H'
theorem Zl7{k:Nat}(F:Fun K "_law_has" "_law_has" Zhs f fd):FnOk P w K mg base Yq (k+1) f fd Dd Oo:=by
 refine F.ok scLHas (fun vs H Q E h=>?_) (fun cdv A outer s H vs Q E hr h=>?_)
 ·obtain⟨l,p,as,hs,lead,ys,need,rfl,_⟩:=h
  rfl
 obtain⟨l,p,as,hs,lead,ys,need,rfl,hl,hR,hp,n1,q⟩:=h;refine⟨_,Zi (Ux PassesOwn.never rfl (Y4 (pv 0)) (Ra rfl (Yj (Jp (i:=3) scLHas.nd rfl (Or.inl rfl)) (Yj (Jp (i:=4) scLHas.nd rfl (Or.inl rfl)) (Yj (Jp (i:=5) scLHas.nd rfl (Or.inl rfl)) Ql))))
   (Zn (Yd (PW.pt (Br (Jm (Zls hr.units) (pv 3) (pv 1) (Jl _)) (N9 (Jm T3 (pv 4) (pv 2) (Jl _))))) (Zn (Z9 Ue)) Jn)))
  (Zn (Z9 Ue)),?_⟩
 refine⟨_,rfl,l,rfl,⟨_,SqL.of hl⟩,Xg (xs:=R0 as) (fun i σ H2=>Same H H2∧(∀ r∈(as.map (·.1)).take i,r.k=Qd hs lead ys→r.nd < need)∧∃ x y z,σ=[some (.ref l),some (.ref p),some (.int need),x,y,z]) ⟨Same.refl H,(fun r hr=>by rw[List.take_zero] at hr;cases hr),none,none,none,rfl⟩ (fun i σ H2 _ z=>SqL.of (z.1 _ _ hl)) (fun i v σ H2 hv z=>?_) (fun σ H2 z=>?_)⟩
 ·obtain⟨s2,al,x0,y0,z0,rfl⟩:=z
  obtain⟨⟨r,a⟩,hi,rfl⟩:∃ e,as[i]? = some e∧v = .ref e.2:=by
   unfold R0 at hv;rw[Z4] at hv;obtain⟨e,he,rfl⟩:=Jq.mp hv;exact⟨e,he,rfl⟩
  have me:=Zl hi;obtain⟨pr,h1,h2⟩:=(hR.same s2 _ me).1;have tk:(as.map (·.1)).take (i+1)=(as.map (·.1)).take i++[r]:=by
   rw[U0,Z4,hi];rfl
  obtain⟨a1,a3,b1,b2,b3⟩:=h2.ints;obtain⟨c1,c3,d1,d2,d3⟩:=(hp.same s2).ints;refine⟨a,_,rfl,SqT.of h1,rfl,_,_,rfl,_,_,rfl,_,_,rfl,rfl,?_⟩;refine⟨_,rfl,_,rfl,pr,p,a1,a3,c1,c3,_,_,_,_,_,_,rfl,rfl,b1,d1,b2,b3,d2,d3,_,rfl,?_⟩;refine X1 (Zoo _ _ _ _ _ _) ?_;by_cases c:Qd r.hs r.lead r.ys=Qd hs lead ys
  ·rw[Zc c]
   refine Yt ⟨_,rfl,_,rfl,_,_,rfl,rfl,_,rfl,?_⟩;by_cases cn:need≤r.nd
   ·refine X1 (Zc cn) (Yt ?_)
    have g:=Zjm (rs:=as.map (·.1)) (r:=r) (Zz.mpr ⟨_,me,rfl⟩);have z:=q H2 s2;have ek:r.k=Qd hs lead ys:=c;rw[Zc (by rw[← ek];exact Int.le_trans cn g)] at z;exact z
   ·refine X1 (Zd cn) (J3 ⟨s2,fun r' hr' e=>?_,_,_,_,rfl⟩)
    rw[tk] at hr';rcases J1.mp hr' with z | z
    ·exact al r' z e
    ·cases Jg.mp z
     omega
  ·rw[Zd c]
   refine J3 (J3 ⟨s2,fun r' hr' e=>?_,_,_,_,rfl⟩);rw[tk] at hr';rcases J1.mp hr' with z | z
   ·exact al r' z e
   ·cases Jg.mp z
    exact absurd e c
 ·obtain⟨s2,al,x0,y0,z0,rfl⟩:=z
  have el:(R0 as).length=as.length:=Zk ..;rw[el,List.take_of_length_le (by rw[Zk];exact Zs _)] at al;have z:=q H2 s2;have:Bb (as.map (·.1)) (Qd hs lead ys)≤need - 1:=Zpb (by omega) fun r hr e=>by have:=al r hr e;omega
  rw[Zd (by omega)] at z;exact z
abbrev K7:List Str:=["_law_game_here","_law_side_here","_law_paper_rows","_law_place_here","_law_need","_law_card"]
abbrev Zrl:List Str:=["_law_game_here","_law_side_here","_law_paper_rows","_law_place_here","_law_need","_law_card","_law_after","_law_taker"]
theorem scLCov:FnScope Zrl K7 (Zm Zht):=Uw (by decide +kernel)
def Zay(CT CG:Addr):Sp:=fun vs H Q _=>∃(gm x l p:Addr) (t:Option Nat) (fx:Fx) (side:Nat) (as:List (Rw×Addr)) (hs ys:List Nat) (lead m h c:Nat) (need:Int),vs=[.ref gm,.int (side:Nat),.ref l,.ref p,.int need,.int (c:Nat)]∧GamH CT CG fx t H gm x∧H l=some (.lst (R0 as))∧RwsH H as∧IsPl H p hs lead ys∧Plc fx hs lead ys m∧hs[(lead+ys.length) % fx.n]? = some h∧h.testBit c=true ∧
 ∀ H',Same H H'→Q (.bl (covB fx t side (Bb (as.map (·.1))) hs lead ys c need)) H'
theorem Zl9{k:Nat}{CT CG f1 f2 f3:Addr}{d1 d2 d3:FuncData}(F:Fun K "_law_covers" "_law_covers" Zht f fd)(LB:Lib P w K mg base k "behind" ["game","place","card"] (X5 K CT CG) f1 d1)(LN:Lib P w K mg base k "_law_in" ["_law_side_here","_law_seat"] Zc2 f2 d2)(LH:Lib P w K mg base k "_law_has" Dd Oo f3 d3):FnOk P w K mg base Yq (k+1) f fd K7 (Zay CT CG):=by
 refine F.ok scLCov (fun vs H Q E h=>?_) (fun cdv A outer s H vs Q E hr h=>?_)
 ·obtain⟨gm,x,l,p,t,fx,side,as,hs,ys,lead,m,h,c,need,rfl,_⟩:=h
  rfl
 obtain⟨gm,x,l,p,t,fx,side,as,hs,ys,lead,m,h,c,need,rfl,G,hl,hR,hp,Pl,eh,hb,q⟩:=h;refine⟨_,Zi (Tq (Z0 LB.ok hr rfl LB.mg LB.kp LB.bd .nil Jb (Za (pv 0) (Za (pv 3) (Za (pv 5) Zf)))) (Ra rfl (Yj (Jp (i:=6) scLCov.nd rfl (Or.inl rfl)) (Yj (Jp (i:=7) scLCov.nd rfl (Or.inl rfl)) Ql))))
  (Zi (Yd (PW.pt (Br (Jm Gp (pv 7) Qe (Jl _)) (N9 (Jy (Z0 LN.ok hr rfl LN.mg LN.kp LN.bd .nil Jb (Za (pv 1) (Za (pv 7) Zf))) (fun _=>rfl))))) (Zn (Jf (i:=4) scLCov.nd rfl (Or.inl rfl) (Jj Bs (pv 4) Zo))) Jn)
  (Zn (Z9 (Zdi (Y0 Rq (pv 4) Zo (Jl _)) (U8 (Z0 LH.ok hr rfl LH.mg LH.kp LH.bd .nil Jb (Za (pv 2) (Za (pv 6) (Za (pv 4) Zf))))))))),?_⟩
 have ok:=G.ok;have n4:fx.n≤4:=by rcases ok.n34 with e | e<;>omega
 refine⟨_,rfl,_,rfl,_,rfl,gm,x,p,t,fx,hs,ys,lead,m,h,c,rfl,G,hp,Pl,eh,hb,fun st p' hs' lead' ys' tk H2 s2 N hst hp'=>?_⟩;have e:=A8 (side:=side) (nd:=Bb (as.map (·.1))) (need:=need) Pl eh hb N;obtain⟨m',_,_,_,_,g⟩:=N.plc ok Pl eh hb;refine⟨st,_,rfl,SqT.of hst,rfl,_,_,rfl,_,_,rfl,rfl,Xn ?_⟩;refine Zj6 (fun b H'=>H2=H'∧Qo side tk=(if b=true then 1 else 0)) (fun σ H'=>H2=H'∧σ=[some (.ref gm),some (.int (side:Nat)),some (.ref l),some (.ref p),some (.int (need - ((Qo side tk:Nat):Int))),some (.int (c:Nat)),some (.ref p'),some (Kk tk)]) (fun R hR=>?_) (fun H' z D' er nx=>?_) (fun H' z D' er nx=>?_) (fun σ H' z=>?_)
 ·refine⟨_,rfl,rfl,_,rfl,?_⟩
  rcases g with⟨rfl,_⟩ | ⟨rfl,_,_,ll⟩
  ·exact X1 (rfl:(!decide (Kk none=V.non))=false) (J3 (hR _ _ ⟨rfl,rfl⟩))
  ·refine X1 (rfl:(!decide (Kk (some lead')=V.non))=true) (Yt ⟨_,rfl,_,rfl,side,lead',rfl,by omega,_,rfl,hR _ _ ⟨rfl,rfl⟩⟩)
 ·obtain⟨rfl,e1⟩:=z
  refine⟨_,rfl,_,_,rfl,rfl,nx _ _ ⟨rfl,?_⟩⟩;rw[e1,Zv rfl];rfl
 ·obtain⟨rfl,e1⟩:=z
  refine nx _ _ ⟨rfl,?_⟩;rw[e1,Zj Zp];show _=[_,_,_,_,some (V.int (need - 0)),_,_,_];rw[Int.sub_zero];rfl
 obtain⟨rfl,rfl⟩:=z;refine⟨_,rfl,_,_,rfl,rfl,_,rfl,?_⟩;by_cases c0:need - ((Qo side tk:Nat):Int)≤0
 ·refine X1 (Zc c0) (Yt ?_)
  have z:=q H2 s2;rw[e,Zc (Int.le_trans c0 (Ar _ _))] at z;exact z
 ·refine X1 (Zd c0) (J3 ?_)
  refine⟨_,rfl,_,rfl,_,rfl,l,p',as,hs',lead',ys',_,rfl,s2 _ _ hl,hR.same s2,hp',by omega,fun H3 s3=>?_⟩;have z:=q H3 (s2.trans s3);rw[e] at z;exact z
abbrev Vi:List Str:=["_law_game_here","_law_side_here","_law_paper_rows","_law_row"]
abbrev Zmj:List Str:=["_law_game_here","_law_side_here","_law_paper_rows","_law_row","_law_place_here","_law_need","_law_card","_law_some","_law_other"]
theorem scLRight:FnScope Zmj Vi (Zm Ab):=Uw (by decide +kernel)
def G9(CT CG:Addr)(Ok:Fx→List Nat→Nat→List Nat→Bool→Prop):Sp:=fun vs H Q _=>∃(gm x l a:Addr) (t:Option Nat) (fx:Fx) (side:Nat) (as:List (Rw×Addr)) (r:Rw) (b:Bool),vs=[.ref gm,.int (side:Nat),.ref l,.ref a]∧GamH CT CG fx t H gm x∧Rl t∧H l=some (.lst (R0 as))∧RwsH H as∧IsRw H r a∧Ok fx r.hs r.lead r.ys b ∧
 ∀ H',Same H H'→Q (.bl (b && rtB fx t side (Bb (as.map (·.1))) r)) H'
theorem Zfi{k:Nat}{CT CG f2 f3 f4 f5 f6 f7:Addr}{d2 d3 d4 d5 d6 d7:FuncData}{Ok:Fx→List Nat→Nat→List Nat→Bool→Prop}(hOk:∀ fx hs lead ys,Ok fx hs lead ys true→∃ m,Plc fx hs lead ys m)
  (F:Fun K "_law_right" "_law_right" Ab f fd) (LI:Lib P w K mg base k "is_place" ["game","place"] (Gd CT CG Ok) f2 d2) (LL:Lib P w K mg base k "left" ["place"] (G8 K) f3 d3) (LM:Lib P w K mg base k "moves" ["game","place"] (Qx CT CG) f4 d4)
  (LH:Lib P w K mg base k "_law_in" ["_law_side_here","_law_seat"] Zc2 f5 d5) (LT:Lib P w K mg base k "turn_at" ["game","place"] (Qm CT CG) f6 d6) (LC:Lib P w K mg base k "_law_covers" K7 (Zay CT CG) f7 d7) :
  FnOk P w K mg base Yq (k+1) f fd Vi (G9 CT CG Ok):=by
 refine F.ok scLRight (fun vs H Q E h=>?_) (fun cdv A outer s H vs Q E hr h=>?_)
 ·obtain⟨gm,x,l,a,t,fx,side,as,r,b,rfl,_⟩:=h
  rfl
 obtain⟨gm,x,l,a,t,fx,side,as,r,b,rfl,G,tb,hl,hRs,hR,hO,q⟩:=h;refine⟨_,Zi (Tq (pv 3) (Ra rfl (Yj (Jp (i:=4) scLRight.nd rfl (Or.inl rfl)) (Yj (Jp (i:=5) scLRight.nd rfl (Or.inl rfl)) (Yj (Jp (i:=6) scLRight.nd rfl (Or.inl rfl)) Ql)))))
  (Zi (Yd (PW.pt (U2 (Uc (Jy (Z0 LI.ok hr rfl LI.mg LI.kp LI.bd .nil Jb (Za (pv 0) (Za (pv 4) Zf))) (fun _=>rfl))) (U2 (Jm Df (pv 5) Zo (Jl _)) (U7 (Jm Q8 (pv 5) (Z0 LL.ok hr rfl LL.mg LL.kp LL.bd .nil Jb (Za (pv 4) Zf)) (Jl _)))))) (Zn (Z9 Ue)) Jn)
  (Zi (Jf (i:=7) scLRight.nd rfl (Or.inl rfl) (Z0 LM.ok hr rfl LM.mg LM.kp LM.bd .nil Jb (Za (pv 0) (Za (pv 4) Zf))))
  (Zi (Yd (Jy (Z0 LH.ok hr rfl LH.mg LH.kp LH.bd .nil Jb (Za (pv 1) (Za (Z0 LT.ok hr rfl LT.mg LT.kp LT.bd .nil Jb (Za (pv 0) (Za (pv 4) Zf))) Zf))) (fun _=>rfl))
   (Zn (Z9 (Xd (Y0 Rc (pv 6) (pv 7) rfl) (U8 (Z0 LC.ok hr rfl LC.mg LC.kp LC.bd .nil Jb (Za (pv 0) (Za (pv 1) (Za (pv 2) (Za (pv 4) (Za (pv 5) (Za (pv 6) Zf)))))))))) ) Jn)
  (Zi (Yd (Jm Gp (pv 6) Qe (Jl _)) (Zn (Z9 Ue)) Jn)
  (Zi (Ux PassesOwn.never rfl (Y4 (pv 7)) (Jp (i:=8) scLRight.nd rfl (Or.inl rfl))
   (Zn (Yd (Uc (Jy (Z0 LC.ok hr rfl LC.mg LC.kp LC.bd .nil Jb (Za (pv 0) (Za (pv 1) (Za (pv 2) (Za (pv 4) (Za (pv 5) (Za (pv 8) Zf))))))) (fun _=>rfl))) (Zn (Z9 Ue)) Jn)))
  (Zn (Z9 Ue))))))),?_⟩
 have ok:=G.ok;have n4:fx.n≤4:=by rcases ok.n34 with e | e<;>omega
 have n3:3≤fx.n:=by rcases ok.n34 with e | e<;>omega
 obtain⟨p,hp0,hPl0⟩:=id hR;refine⟨_,rfl,a,_,rfl,SqT.of hp0,rfl,_,_,rfl,_,_,rfl,_,_,rfl,rfl,Xn ?_⟩;refine⟨_,rfl,_,rfl,gm,x,p,t,fx,r.hs,r.ys,r.lead,b,rfl,G,hPl0,hO,fun H2 s12=>⟨_,rfl,?_⟩⟩;cases b with
 | false=>exact Yt (Yt (q H2 s12))
 | true=>
 refine J3 ?_;obtain⟨m,Pl⟩:=hOk _ _ _ _ hO;have em:=Zb7 ok Pl;refine⟨_,rfl,_,_,rfl,rfl,_,rfl,?_⟩;by_cases c1:r.nd < 1
 ·refine X1 (Zc c1) (Yt (Yt ?_))
  have z:=q H2 s12;unfold rtB at z;rw[Zd (by omega:¬ 1≤r.nd)] at z;exact z
 refine X1 (Zd c1) (J3 ?_);refine⟨_,rfl,_,rfl,p,fx,r.hs,r.ys,r.lead,m,rfl,ok,hPl0.same s12,Pl,fun H3 s3=>?_⟩;have s13:=s12.trans s3;refine⟨_,_,rfl,rfl,_,rfl,?_⟩;by_cases c2:((m:Nat):Int) < r.nd
 ·refine X1 (Zc c2) (Yt ?_)
  have z:=q H3 s13;unfold rtB at z;rw[em,Zd (by omega:¬ r.nd≤((m:Nat):Int)),Bool.false_and,Bool.and_false,Bool.and_false] at z;exact z
 refine X1 (Zd c2) (J3 (Xn ?_));have m0:m≠0:=by omega
 unfold rtB at q;rw[em,Zc (by omega:1≤r.nd),Zc (by omega:r.nd≤((m:Nat):Int)),Bool.true_and,Bool.true_and,Bool.true_and] at q;obtain⟨h,eh,epc⟩:=Pl.turn ok;have h32:=Pl.h32 ok (Zl eh);have eg:r.hs.getD ((r.lead+r.ys.length) % fx.n) 0=h:=by rw[Zr,eh];rfl
 have eM:moveL fx t r.hs r.lead r.ys m=Us fx t r.ys h:=by
  unfold moveL;rw[Zj m0,eg]
 refine⟨_,rfl,_,rfl,gm,x,p,t,fx,r.hs,r.ys,r.lead,m,rfl,G.same s13,tb,hPl0.same s13,Pl,fun lm H4 s4 hlm hm4=>?_⟩;have s14:=s13.trans s4;refine⟨_,rfl,_,rfl,_,rfl,gm,x,p,t,fx,r.hs,r.ys,r.lead,m,rfl,G.same s14,hPl0.same s14,Pl,fun H5 s5=>?_⟩;have s15:=s14.trans s5;have tv:Ng fx r.lead r.ys m = .int (((r.lead+r.ys.length) % fx.n:Nat):Int):=Zj m0;have sl:(r.lead+r.ys.length) % fx.n < fx.n:=Nat.mod_lt _ (by omega);refine⟨side,(r.lead+r.ys.length) % fx.n,?_,by omega,?_⟩
 ·rw[tv]
  rfl
 refine⟨_,rfl,?_⟩;have m5:=s5 _ _ hm4;have mfl:(vN (moveL fx t r.hs r.lead r.ys m)).all Xo=true:=Ym.mpr fun y hy=>by
  obtain⟨c,_,rfl⟩:=Zz.mp hy;rfl
 cases hsd:side.testBit ((r.lead+r.ys.length) % fx.n) with
 | true=>
  rw[hsd,Zv rfl] at q;refine Yt ⟨_,rfl,_,rfl,lm,_,rfl,.inl (SqL.of m5),?_⟩;cases hc:r.cd with
  | none=>
   rw[hc] at q;refine⟨rfl,mfl,_,rfl,?_⟩;refine X1 (Zj5 _) (J3 ?_);exact q H5 s15
  | some c=>
   rw[hc] at q;dsimp only at q;refine⟨rfl,mfl,_,rfl,?_⟩;cases hin:(moveL fx t r.hs r.lead r.ys m).any fun d=>decide (((d:Nat):Int)=c) with
   | false=>
    rw[hin,Bool.false_and] at q;refine X1 ((Av c _).trans hin) (J3 ?_);exact q H5 s15
   | true=>
    rw[hin,Bool.true_and] at q;refine X1 ((Av c _).trans hin) (Yt ?_);obtain⟨e,he,ee⟩:=List.any_eq_true.mp hin;have ec:c=((e:Nat):Int):=(J0 ee).symm;subst ec;rw[eM] at he;have hb:=(Qg h32 he).1;rw[Z2] at q;exact⟨_,rfl,_,rfl,_,rfl,_,rfl,_,rfl,_,rfl,gm,x,l,p,t,fx,side,as,r.hs,r.ys,r.lead,m,h,e,r.nd,rfl,G.same s15,s15 _ _ hl,hRs.same s15,hPl0.same s15,Pl,eh,hb,fun H6 s6=>q H6 (s15.trans s6)⟩
 | false=>
  rw[hsd,Zj Zp] at q;refine J3 (Xn ⟨_,rfl,rfl,_,rfl,?_⟩);cases hc:r.cd with
  | some c=>
   rw[hc] at q;exact X1 (rfl:(!decide (Nc (some c)=V.non))=true) (Yt (q H5 s15))
  | none=>
   rw[hc] at q;dsimp only at q;refine X1 (rfl:(!decide (Nc none=V.non))=false) (J3 (Xn ?_));refine⟨_,rfl,lm,rfl,⟨_,SqL.of m5⟩,Xg (xs:=vN (moveL fx t r.hs r.lead r.ys m)) (fun i σ H6=>Same H5 H6∧((moveL fx t r.hs r.lead r.ys m).take i).all (fun c=>covB fx t side (Bb (as.map (·.1))) r.hs r.lead r.ys c r.nd)=true∧∃ z,σ=[some (.ref gm),some (.int (side:Nat)),some (.ref l),some (.ref a),some (.ref p),some (.int r.nd),some (Nc none),some (.ref lm),z]) ⟨Same.refl H5,rfl,none,rfl⟩ (fun i σ H6 _ z=>SqL.of (z.1 _ _ m5)) (fun i v σ H6 hv z=>?_) (fun σ H6 z=>?_)⟩
   ·obtain⟨s6,al,z0,rfl⟩:=z
    obtain⟨c,hi,rfl⟩:=Vy hv;have hcm:=Zl hi;have hcm':=hcm;rw[eM] at hcm;have hb:=(Qg h32 hcm).1;have s16:=s15.trans s6;have tk:(moveL fx t r.hs r.lead r.ys m).take (i+1)=(moveL fx t r.hs r.lead r.ys m).take i++[c]:=by
     rw[U0,hi];rfl
    refine⟨_,rfl,_,rfl,_,rfl,_,rfl,_,rfl,_,rfl,gm,x,l,p,t,fx,side,as,r.hs,r.ys,r.lead,m,h,c,r.nd,rfl,G.same s16,s16 _ _ hl,hRs.same s16,hPl0.same s16,Pl,eh,hb,fun H7 s7=>⟨_,rfl,?_⟩⟩;cases cv:covB fx t side (Bb (as.map (·.1))) r.hs r.lead r.ys c r.nd with
    | false=>
     refine Yt ?_;have z:=q H7 (s16.trans s7);rw[List.all_eq_false.mpr ⟨c,hcm',by rw[cv];exact Zp⟩] at z;exact z
    | true=>
     refine J3 ⟨s6.trans s7,?_,_,rfl⟩;rw[tk,List.all_append,al,Bool.true_and,List.all_cons,cv];rfl
   ·obtain⟨s6,al,z0,rfl⟩:=z
    rw[Yh,List.take_length] at al;have z:=q H6 (s15.trans s6);rw[al] at z;exact z
abbrev Tc:Stmt:=Yn (top 11) 0
abbrev Aa:Stmt:=top 85
abbrev O3:Stmt:=top 86
abbrev Zhu:Stmt:=top 87
abbrev Tf:Stmt:=top 88
structure XC(K:W.Frag)(mg:Str→Option Value)(CX fN:Addr):Prop where
 mW:mg "TooMuch" = some (.ref CX)
 ex:Mj K CX Uv "ValueError.__new__" fN=true
 fn:W.isFn K (.ref fN)=true
 es:ExcS K CX
 nr:NoAttr K CX "count"
def Zqs(CX:Addr):Sp:=fun vs H Q _=>∃(ea:Addr) (v:V),vs=[.ref ea,v]∧H ea=some (Ai ea CX none)∧∀ d,H d=none→d≠ea→Q .non (upd (upd H ea (Ai ea CX (some d))) d (.xd [("count",v)]))
theorem Zsj:FnScope ["self","count"] ["self","count"] (Zm Tc):=Uw (by decide +kernel)
theorem Zrh{k:Nat}{CX fN:Addr}(F:Fun K "__init__" "TooMuch.__init__" Tc f fd)(C:XC K mg CX fN):FnOk P w K mg base Yq (k+1) f fd ["self","count"] (Zqs CX):=by
 refine F.ok Zsj (fun vs H Q E h=>?_) (fun cdv A outer s H vs Q E hr h=>?_)
 ·obtain⟨ea,v,rfl,_⟩:=h
  rfl
 obtain⟨ea,v,rfl,he,q⟩:=h;refine⟨_,Zn (Zlj (pv 0) (pv 1) rfl),?_⟩;exact⟨_,rfl,_,rfl,ea,CX,rfl,he,C.es,C.nr,fun d hd ne=>q d hd ne⟩
def G6(CT CG CX:Addr):Sp:=fun vs H _ E=>∃(gm gx p:Addr) (t:Option Nat) (fx:Fx) (side:Nat) (hs:List Nat) (lead:Nat) (ys:List Nat) (m:Nat) (need:Int),vs=[.ref gm,.int (side:Nat),.ref p,.int need]∧Rl t∧GamH CT CG fx t H gm gx∧IsPl H p hs lead ys∧Plc fx hs lead ys m∧J4 hs≤12∧((valP fx t side hs lead ys:Nat):Int) < need ∧
 ∀ d H',Same H H'→H' d=some (.xd [("count",.int ((valP fx t side hs lead ys:Nat):Int))])→E (.ref CX) (some d) H'
theorem Zfd{k:Nat}{CT CG CR CW CX f1 aI aA fN:Addr}{d1 eI dA dN:FuncData}(F:Fun K "paper" "paper" O5 f fd)(C:RkC K mg CR)(CWr:WrC K mg CW)(X:XC K mg CX fN)(FN:FnOk P w K mg base Yq k fN dN ["self","count"] (Zqs CX))(BN:Binds K dN ["self","count"] [])(LR:Lib P w K mg base (k+1) "refuse_too_many" ["place"] Nh f1 d1)(MkW:Mk K CW aI)(FI:FnOk P w K mg base Yq k aI eI ["self","game","side"] (Gx P w CR CW))(BI:Binds K eI ["self","game","side"] [])
  (MA:Meth K CR "made_at" aA) (FA:∀ S,SCl S→FnOk P w K mg base Yq (k+1) aA dA ["self","place"] (X4 P w CT CG CR S 13)) (BA:Binds K dA ["self","place"] []):FnOk P w K mg base (Ga P w) (k+2) f fd Nn (G6 CT CG CX):=by
 refine F.okXD scPaper (fun vs H Q E h=>?_) (fun cdv A outer s H vs Q E hr h T TD=>?_)
 ·obtain⟨gm,gx,p,t,fx,side,hs,lead,ys,m,need,rfl,_⟩:=h
  rfl
 obtain⟨gm,gx,p,t,fx,side,hs,lead,ys,m,need,rfl,tb,G,hp,Pl,t12,hd,q⟩:=h;have cl:=Sof.cl fx t hs lead ys;refine⟨_,Zi (Xx (Z0 LR.ok hr rfl LR.mg LR.kp LR.bd .nil Jb (Za (pv 2) Zf)))
  (Zi (Yd (Jm Rq (pv 3) Zo (Jl _)) (Zn Tp) Jn)
  (Zi (Jf (i:=4) scPaper.nd rfl (Or.inl rfl) (E6 MkW FI hr rfl CWr.mW BI .nil Jb (Za (pv 0) (Za (pv 1) Zf))))
  (Zi (Jf (i:=5) scPaper.nd rfl (Or.inl rfl) (Uf (Jt (pv 4) rfl) C.cl MA (FA _ cl) hr BA .nil Jb (Za (pv 2) Zf)))
  (Zi (Yd (Jm Q8 (pv 3) (pv 5) (Jl _)) (Zn (Ze3 TD hr.hd rfl X.mW X.ex X.fn FN hr BN rfl (Za (pv 5) Zf))) Jn)
  Ze2)))),?_⟩
 have ok:=G.ok;have sn:=Vw _ t12;refine⟨_,rfl,p,fx,hs,lead,ys,m,rfl,ok,hp,Pl,t12,fun H1 s1=>?_⟩;refine⟨_,rfl,_,_,rfl,rfl,_,rfl,?_⟩;have c0:¬ need≤0:=by omega
 refine X1 (Zd c0) (J3 (Xn ?_));refine⟨_,rfl,_,rfl,?_⟩;intro v dv hv0 hdv nv;refine⟨v,dv,gm,side,rfl,Zq,fun rk dk dc H2 kp ndk ndc hW=>⟨rfl,?_⟩⟩;have sm:=Uq (o:=.ins CW dv []) hv0 hdv nv;have s2:=Be hv0 hdv nv kp;have s12:=s1.trans s2;have W2:=hW (Sof fx t hs lead ys) fx t;obtain⟨dx,fs,hv2,A1⟩:=id W2.o;obtain⟨dr,fr,hr2,A2⟩:=id W2.r.o;have S0:Sof fx t hs lead ys fx t hs lead ys:=⟨rfl,rfl,.here⟩;refine⟨_,rfl,v,CW,dx,_,_,rfl,hv2,CWr.cl,CWr.n3,A1.l3,rk,dr,_,rfl,hr2,A2.nm _ (by decide +kernel),_,rfl,rk,gm,gx,dk,p,t,fx,side,hs,lead,ys,m,[],rfl,tb,W2.r,G.same s12,hp.same s12,Pl,S0,by omega,by show 0+Sn (J4 hs)≤1000000;omega,fun es3 H3 k3 R3 _ _=>?_⟩;have hdk:H dk=none:=s1.free (sm.free ndk);have s03:Same H H3:=fun b o hb=>k3 b o (Jz hb hdk) (s12 _ _ hb);refine⟨_,rfl,_,rfl,_,_,rfl,rfl,_,rfl,X1 (Zc (by omega)) (Yt ⟨_,rfl,Yf 1 (by decide),fun ea hea=>⟨ea,_,rfl,Zq,fun d hd' ne=>⟨rfl,some d,?_,?_⟩⟩⟩)⟩
 ·rw[Z8 (Ne.symm ne),Zq]
 ·have hd0:H3 d=none:=by rw[Z8 ne] at hd';exact hd'
  refine q d _ (fun b o h=>?_) ?_
  ·have h2:=s03 b o h
   have b1:b≠ea:=fun z=>by rw[z,hea] at h2;cases h2
   have b2:b≠d:=fun z=>by rw[z,hd0] at h2;cases h2
   rw[X8 b1,Z8 b2,Z8 b1,Z8 b1];exact h2
  ·rw[X8 ne,Zq]
structure ClsX(K:W.Frag)(mg:Str→Option Value)(CE CX:Addr)(c:_root_.Fin 4→Addr):Prop where
 ex:ExcF K CX
 mT:mg "TrickError" = some (.ref CE)
 hX:W.exmOne K (.ref CX) (.ref CE)=some true
 m0:mg "TooMany" = some (.ref (c 0))
 m1:mg "NoRecord" = some (.ref (c 1))
 m2:mg "NoView" = some (.ref (c 2))
 m3:mg "NotYet" = some (.ref (c 3))
 iM:W.kitOne K (.ref CX) (.ref CX)=some true
 iV:W.kitOne K (.ref CX) (.type "ValueError")=some true
 i:∀ j,W.kitOne K (.ref CX) (.ref (c j))=some false
def B6(K:W.Frag):Sp:=fun vs H Q _=>∃ i:Int,vs=[.int i]∧Q (.bl true) H
theorem Zhl:FnScope ["_law_found"] ["_law_found"] (Zm Aa):=Uw (by decide +kernel)
theorem Zfh{k:Nat}(F:Fun K "_law_whole" "_law_whole" Aa f fd)(mi:mg "isinstance" = none)(mI:mg "int" = none)(mB:mg "bool" = none):FnOk P w K mg base Yq (k+1) f fd ["_law_found"] (B6 K):=by
 refine F.ok Zhl (fun vs H Q E h=>?_) (fun cdv A outer s H vs Q E hr h=>?_)
 ·obtain⟨h,rfl,_⟩:=h
  rfl
 obtain⟨i,rfl,q⟩:=h;refine⟨_,Zn (Z9 (Xd (Jk Uz rfl mi Z5 (Za (pv 0) (Za (Xa (v:=.ty "int") rfl mI Qb rfl) Zf)))
  (U8 (Zbp (Jk Uz rfl mi Z5 (Za (pv 0) (Za (Xa (v:=.ty "bool") rfl mB PyProof.Rows.boot_bool rfl) Zf))))))),?_⟩
 refine⟨_,rfl,_,_,_,true,rfl,.int i,rfl,true,rfl,Yt ?_⟩;exact⟨_,rfl,_,_,_,false,rfl,.int i,by with_unfolding_all rfl,false,rfl,q⟩
def Zax(CT CG:Addr):Sp:=fun vs H Q _=>∃(gm gx p:Addr) (t:Option Nat) (fx:Fx) (side:Nat) (hs:List Nat) (lead:Nat) (ys:List Nat) (m:Nat) (need:Int),vs=[.ref gm,.int (side:Nat),.ref p,.int need,.int ((valP fx t side hs lead ys:Nat):Int)]∧Rl t∧GamH CT CG fx t H gm gx∧IsPl H p hs lead ys∧Plc fx hs lead ys m∧J4 hs≤12∧((valP fx t side hs lead ys:Nat):Int) < need∧∀ H',Same H H'→Q (.bl true) H'
abbrev Zio:List Str:=["_law_game_here","_law_side_here","_law_place_here","_law_need","_law_most"]
abbrev Zsv:List Str:=["_law_game_here","_law_side_here","_law_place_here","_law_need","_law_most","_law_error","e"]
theorem scRef:FnScope Zsv Zio (Zm Tf):=Uw (by decide +kernel)
theorem Zl6{k:Nat}{CT CG CE CX fN f1 f2:Addr}{d1 d2:FuncData}{c:_root_.Fin 4→Addr}(F:Fun K "_law_refused" "_law_refused" Tf f fd)(C:ClsX K mg CE CX c)(X:XC K mg CX fN)(LP:LibX P w K mg base k "paper" Nn (G6 CT CG CX) f1 d1)(LW:Lib P w K mg base k "_law_whole" ["_law_found"] (B6 K) f2 d2)(mi:mg "isinstance" = none)(mV:mg "ValueError" = none):FnOk P w K mg base Yq (k+1) f fd Zio (Zax CT CG):=by
 refine F.ok scRef (fun vs H Q E h=>?_) (fun cdv A outer s H vs Q E hr h=>?_)
 ·obtain⟨gm,gx,p,t,fx,side,hs,lead,ys,m,need,rfl,_⟩:=h
  rfl
 obtain⟨gm,gx,p,t,fx,side,hs,lead,ys,m,need,rfl,tb,G,hp,Pl,t12,hd,q⟩:=h;refine⟨_,Zi (Jf (i:=5) scRef.nd rfl (Or.inl rfl) Qe)
  (Zi (Zlh (i:=6) rfl rfl rfl scRef.nd rfl rfl (Zh5 (Zif LP.ok hr rfl LP.mg LP.kp LP.bd .nil (Za (pv 0) (Za (pv 1) (Za (pv 2) (Za (pv 3) Zf)))))) rfl C.mT (fun e=>Zn (Jf (i:=5) scRef.nd rfl (Or.inl rfl) (pv 6))))
  (Zi (Yd (PW.pt (U2 (Jm T2 (pv 5) Qe (Jl _)) (U2 (Uc (Jy (Jk Q3 rfl mi Z5 (Za (pv 5) (Za (Yy (v:=.ref CX) rfl X.mW rfl) Zf))) (fun _=>rfl))) (U7 (Uc (Jy (Jk Q3 rfl mi Z5 (Za (pv 5) (Za (Xa (v:=.ty "ValueError") rfl mV PyProof.Rows.Boot.«ValueError» rfl) Zf))) (fun _=>rfl))))))) (Zn (Z9 Ue)) Jn)
  (Zi (Yd (PW.pt (U2 (Jy (Jk Q3 rfl mi Z5 (Za (pv 5) (Za (Yy (v:=.ref (c 0)) rfl C.m0 rfl) Zf))) (fun _=>rfl)) (U2 (Jy (Jk Q3 rfl mi Z5 (Za (pv 5) (Za (Yy (v:=.ref (c 1)) rfl C.m1 rfl) Zf))) (fun _=>rfl)) (U7 (Jy (Jk Q3 rfl mi Z5 (Za (pv 5) (Za (Yy (v:=.ref (c 2)) rfl C.m2 rfl) Zf))) (fun _=>rfl)))))) (Zn (Z9 Ue)) Jn)
  (Zn (Z9 (Xd (Zbp (Jk Q3 rfl mi Z5 (Za (pv 5) (Za (Yy (v:=.ref (c 3)) rfl C.m3 rfl) Zf)))) (Xd (Z0 LW.ok hr rfl LW.mg LW.kp LW.bd .nil Jb (Za (Zdj (pv 5) rfl) Zf)) (U8 (Y0 X7 (Zdj (pv 5) rfl) (pv 4) (Jl _)))))))))),?_⟩
 refine⟨_,rfl,_,rfl,_,rfl,_,rfl,gm,gx,p,t,fx,side,hs,lead,ys,m,need,rfl,tb,G,hp,Pl,t12,hd,fun d H1 s1 hd1=>⟨CX,rfl,C.hX,fun ea hea=>⟨_,rfl,?_⟩⟩⟩;have s2:=Je hea (R7 ea CX (some d));have hE:(upd H1 ea (R7 ea CX (some d))) ea=some (R7 ea CX (some d)):=Zq;have hd2:=s2 _ _ hd1;have s02:=s1.trans s2;generalize upd H1 ea (R7 ea CX (some d))=H2 at hE hd2 s02 ⊢;have lk:([("count",V.int ((valP fx t side hs lead ys:Nat):Int))]:List (Str×V)).lookup ("count":Str)=some (V.int ((valP fx t side hs lead ys:Nat):Int)):=rfl;refine⟨_,rfl,rfl,_,rfl,J3 ⟨_,rfl,ea,CX,some d,_,true,rfl,rfl,hE,C.ex,C.iM,true,rfl,J3 ⟨_,rfl,ea,CX,some d,_,true,rfl,rfl,hE,C.ex,C.iV,true,rfl,J3 ?_⟩⟩⟩;refine⟨_,rfl,ea,CX,some d,_,false,rfl,rfl,hE,C.ex,C.i 0,false,rfl,J3 ⟨_,rfl,ea,CX,some d,_,false,rfl,rfl,hE,C.ex,C.i 1,false,rfl,J3 ⟨_,rfl,ea,CX,some d,_,false,rfl,rfl,hE,C.ex,C.i 2,false,rfl,J3 ?_⟩⟩⟩;refine⟨_,rfl,ea,CX,some d,_,false,rfl,rfl,hE,C.ex,C.i 3,false,rfl,true,rfl,Yt ?_⟩;refine⟨_,rfl,ea,CX,d,_,_,rfl,hE,hd2,C.ex,X.es,X.nr,lk,_,rfl,true,rfl,Yt ?_⟩;refine⟨_,rfl,ea,CX,d,_,_,rfl,hE,hd2,C.ex,X.es,X.nr,lk,_,rfl,rfl,?_⟩;rw[Zc rfl];exact q _ s02
theorem scShaped:FnScope ["_law_rows","_law_row"] ["_law_rows"] (Zm O3):=Uw (by decide +kernel)
def G0:Sp:=fun vs H Q _=>∃(l:Addr) (as:List (Rw×Addr)),vs=[.ref l]∧H l=some (.lst (R0 as))∧RwsH H as∧∀ H',Same H H'→Q (.bl true) H'
theorem Zfb{k:Nat}{f1:Addr}{d1:FuncData}(F:Fun K "_law_shaped" "_law_shaped" O3 f fd)(LW:Lib P w K mg base k "_law_whole" ["_law_found"] (B6 K) f1 d1)(mi:mg "isinstance" = none)(mLi:mg "list" = none)(mT:mg "tuple" = none)(ml:mg "len" = none):FnOk P w K mg base Yq (k+1) f fd ["_law_rows"] G0:=by
 refine F.ok scShaped (fun vs H Q E h=>?_) (fun cdv A outer s H vs Q E hr h=>?_)
 ·obtain⟨l,as,rfl,_⟩:=h
  rfl
 obtain⟨l,as,rfl,hl,hR,q⟩:=h;refine⟨_,Zi (Yd (Uc (Jy (Jk Uz rfl mi Z5 (Za (pv 0) (Za (Xa (v:=.ty "list") rfl mLi Ys rfl) Zf))) (fun _=>rfl))) (Zn (Z9 Ue)) Jn)
  (Zi (Ux PassesOwn.never rfl (Y4 (pv 0)) (Jp (i:=1) scShaped.nd rfl (Or.inl rfl))
   (Zi (Yd (PW.pt (U2 (Uc (Jy (Jk Uz rfl mi Z5 (Za (pv 1) (Za (Xa (v:=.ty "tuple") rfl mT Jv rfl) Zf))) (fun _=>rfl))) (U2 (Jm No (Jk Ya rfl ml Ju (Za (pv 1) Zf)) Zo (Jl _)) (U2 (Uc (Jy (Jk Uz rfl mi Z5 (Za (Jr Js (pv 1) Zo (fun _ _=>rfl)) (Za (Xa (v:=.ty "tuple") rfl mT Jv rfl) Zf))) (fun _=>rfl))) (U7 (Jm No (Jk Ya rfl ml Ju (Za (Jr Js (pv 1) Zo (fun _ _=>rfl)) Zf)) Zo (Jl _))))))) (Zn (Z9 Ue)) Jn)
   (Zi (Yd (PW.pt (U2 (Uc (Jy (Jk Uz rfl mi Z5 (Za (Jr Js (Jr Js (pv 1) Zo (fun _ _=>rfl)) Zo (fun _ _=>rfl)) (Za (Xa (v:=.ty "tuple") rfl mT Jv rfl) Zf))) (fun _=>rfl))) (U2 (Uc (Jy (Z0 LW.ok hr rfl LW.mg LW.kp LW.bd .nil Jb (Za (Jr Js (Jr Js (pv 1) Zo (fun _ _=>rfl)) Zo (fun _ _=>rfl)) Zf)) (fun _=>rfl))) (U7 (Uc (Jy (Jk Uz rfl mi Z5 (Za (Jr Js (Jr Js (pv 1) Zo (fun _ _=>rfl)) Zo (fun _ _=>rfl)) (Za (Xa (v:=.ty "tuple") rfl mT Jv rfl) Zf))) (fun _=>rfl))))))) (Zn (Z9 Ue)) Jn)
   (Zn (Yd (PW.pt (U2 (Uc (Jy (Z0 LW.ok hr rfl LW.mg LW.kp LW.bd .nil Jb (Za (Jr Js (pv 1) Zo (fun _ _=>rfl)) Zf)) (fun _=>rfl))) (U7 (PW.pt (Br (Jm Gp (Jr Js (pv 1) Zo (fun _ _=>rfl)) Qe (Jl _)) (N9 (Uc (Jy (Z0 LW.ok hr rfl LW.mg LW.kp LW.bd .nil Jb (Za (Jr Js (pv 1) Zo (fun _ _=>rfl)) Zf)) (fun _=>rfl))))))))) (Zn (Z9 Ue)) Jn)))))
  (Zn (Z9 Ue))),?_⟩
 refine⟨_,rfl,_,_,_,true,rfl,.lst hl,rfl,_,rfl,J3 (Xn ?_)⟩;refine⟨_,rfl,l,rfl,⟨_,SqL.of hl⟩,Xg (xs:=R0 as) (fun i σ H2=>Same H H2∧∃ z,σ=[some (.ref l),z]) ⟨Same.refl H,none,rfl⟩ (fun i σ H2 _ z=>SqL.of (z.1 _ _ hl)) (fun i v σ H2 hv z=>?_) (fun σ H2 z=>?_)⟩
 ·obtain⟨s2,z0,rfl⟩:=z
  obtain⟨⟨r,a⟩,hi,rfl⟩:∃ e,as[i]? = some e∧v = .ref e.2:=by
   unfold R0 at hv;rw[Z4] at hv;obtain⟨e,he,rfl⟩:=Jq.mp hv;exact⟨e,he,rfl⟩
  obtain⟨p,h1,hp,tp,h2,h3,h4⟩:=(hR.same s2 _ (Zl hi)).1;have a0:Xs [V.ref p,V.int r.nd,Nc r.cd] 0=some (V.ref p):=rfl;have a1:Xs [V.ref p,V.int r.nd,Nc r.cd] 1=some (V.int r.nd):=rfl;have a2:Xs [V.ref p,V.int r.nd,Nc r.cd] 2=some (Nc r.cd):=rfl;have b0:Xs [V.ref hp,V.int (r.lead:Nat),V.ref tp] 0=some (V.ref hp):=rfl;have b1:Xs [V.ref hp,V.int (r.lead:Nat),V.ref tp] 1=some (V.int (r.lead:Nat)):=rfl;have b2:Xs [V.ref hp,V.int (r.lead:Nat),V.ref tp] 2=some (V.ref tp):=rfl;refine⟨_,rfl,_,_,_,true,rfl,.tup h1,rfl,_,rfl,J3 ⟨_,rfl,a,_,rfl,.inr (SqT.of h1),rfl,_,rfl,J3 ⟨_,rfl,a,_,_,_,rfl,rfl,SqT.of h1,a0,_,_,_,true,rfl,.tup h2,rfl,_,rfl,J3 ⟨_,rfl,a,_,_,_,rfl,rfl,SqT.of h1,a0,p,_,rfl,.inr (SqT.of h2),rfl,_,rfl,J3 (Xn ?_)⟩⟩⟩⟩;refine⟨_,rfl,a,_,_,_,rfl,rfl,SqT.of h1,a0,p,_,_,_,rfl,rfl,SqT.of h2,b0,_,_,_,true,rfl,.tup h3,rfl,_,rfl,J3 ⟨_,rfl,a,_,_,_,rfl,rfl,SqT.of h1,a0,p,_,_,_,rfl,rfl,SqT.of h2,b1,_,rfl,_,rfl,J3 ⟨_,rfl,a,_,_,_,rfl,rfl,SqT.of h1,a0,p,_,_,_,rfl,rfl,SqT.of h2,b2,_,_,_,true,rfl,.tup h4,rfl,_,rfl,J3 (Xn ?_)⟩⟩⟩;refine⟨_,rfl,a,_,_,_,rfl,rfl,SqT.of h1,a1,_,rfl,_,rfl,J3 ⟨_,rfl,a,_,_,_,rfl,rfl,SqT.of h1,a2,rfl,_,rfl,?_⟩⟩;cases hc:r.cd with
  | none=>exact X1 (rfl:(!decide (Nc none=V.non))=false) (J3 (J3 ⟨s2,_,rfl⟩))
  | some c=>
   rw[hc] at h1 a2;exact X1 (rfl:(!decide (Nc (some c)=V.non))=true) (Yt ⟨_,rfl,a,_,_,_,rfl,rfl,SqT.of h1,a2,_,rfl,_,rfl,J3 ⟨s2,_,rfl⟩⟩)
 ·exact q H2 z.1
theorem Sk{α:Type}:∀{l:List α} {x:α} {i j:Nat},l.Nodup→l[i]? = some x→l[j]? = some x→i=j
 | [],_,_,_,_,h,_=>nomatch h
 | y :: l,x,0,0,_,_,_=>rfl
 | y :: l,x,0,j+1,n,h1,h2=>by
  cases h1;exact absurd (Zl (show l[j]? = some _ from h2)) (List.nodup_cons.mp n).1
 | y :: l,x,i+1,0,n,h1,h2=>by
  cases h2;exact absurd (Zl (show l[i]? = some _ from h1)) (List.nodup_cons.mp n).1
 | y :: l,x,i+1,j+1,n,h1,h2=>congrArg (· + 1) (Sk (l:=l) (List.nodup_cons.mp n).2 h1 h2)
abbrev K8:List Str:=["_law_game_here","_law_side_here","_law_rows","_law_place_here","_law_need"]
abbrev Zrm:List Str:=["_law_game_here","_law_side_here","_law_rows","_law_place_here","_law_need","_law_seen","_law_row"]
theorem scGood:FnScope Zrm K8 (Zm Zhu):=Uw (by decide +kernel)
def Zaz(CT CG:Addr):Sp:=fun vs H Q _=>∃(gm x l p:Addr) (t:Option Nat) (fx:Fx) (side:Nat) (as:List (Rw×Addr)) (hs:List Nat) (lead:Nat) (ys:List Nat) (need:Int),vs=[.ref gm,.int (side:Nat),.ref l,.ref p,.int need]∧GamH CT CG fx t H gm x∧Rl t∧Pap H fx t side l as∧KN as∧IsPl H p hs lead ys∧CovR (as.map (·.1)) hs lead ys need∧(need≤0→as=[])∧∀ H',Same H H'→Q (.bl true) H'
theorem Zma{k:Nat}{CT CG f1 f2:Addr}{d1 d2:FuncData}(F:Fun K "_law_good" "_law_good" Zhu f fd)(LR:Lib P w K mg base k "_law_right" Vi (G9 CT CG OkP) f1 d1)(LH:Lib P w K mg base k "_law_has" Dd Oo f2 d2)(ml:mg "len" = none):FnOk P w K mg base Yq (k+1) f fd K8 (Zaz CT CG):=by
 refine F.ok scGood (fun vs H Q E h=>?_) (fun cdv A outer s H vs Q E hr h=>?_)
 ·obtain⟨gm,x,l,p,t,fx,side,as,hs,lead,ys,need,rfl,_⟩:=h
  rfl
 obtain⟨gm,x,l,p,t,fx,side,as,hs,lead,ys,need,rfl,G,tb,Pa,kn,hp,cv,n0,q⟩:=h;have hu:=Jx (Nat.add_le_add_left (by decide:20≤64) _) hr.units;refine⟨_,Zi (Jf (i:=5) scGood.nd rfl (Or.inl rfl) (Am (Uk P w)))
  (Zi (Ux PassesOwn.never rfl (Y4 (pv 2)) (Jp (i:=6) scGood.nd rfl (Or.inl rfl))
   (Zi (Yd (Zbm (Zil (Uk P w) hu (Uy (Za (Jr Js (pv 6) Zo (fun _ _=>rfl)) (Za (Jr Js (pv 6) Zo (fun _ _=>rfl)) Zf))) (pv 5))) (Zn (Z9 Ue)) Jn)
   (Zi (Gk (Uk P w) hu (pv 5) (Uy (Za (Jr Js (pv 6) Zo (fun _ _=>rfl)) (Za (Jr Js (pv 6) Zo (fun _ _=>rfl)) Zf))) Ue rfl)
   (Zn (Yd (PW.pt (Br (Jm Df (Jk Ya rfl ml Ju (Za (pv 2) Zf)) Zo (Jl _)) (N9 (Uc (Jy (Z0 LR.ok hr rfl LR.mg LR.kp LR.bd .nil Jb (Za (pv 0) (Za (pv 1) (Za (pv 2) (Za (pv 6) Zf))))) (fun _=>rfl)))))) (Zn (Z9 Ue)) Jn)))))
  (Zi (Yd (Jm Rq (pv 4) Zo (Jl _)) (Zn (Z9 (Y0 (Sb hr.units) (pv 2) (Qf Zf) (Jl _)))) Jn)
  (Zn (Z9 (Z0 LH.ok hr rfl LH.mg LH.kp LH.bd .nil Jb (Za (pv 2) (Za (pv 3) (Za (pv 4) Zf)))))))),?_⟩
 have ok:=G.ok;have big:1000000≤sizeLine:=by rw[sizeLine_eq];decide
 have an:=Pa.n;refine fun d hd=>?_;have s1:=Je hd (Up (Uk P w) d ([]:List (Xc Ew)));refine⟨_,rfl,l,rfl,⟨_,SqL.of (s1 _ _ Pa.l)⟩,Xg (xs:=R0 as) (fun i σ H2=>Same H H2∧(∃ es:List (Xc Ew),H2 d=some (Up (Uk P w) d es)∧GKeys (Uk P w) H2 es∧es.length≤i∧∀ kk,(Bu es kk).isSome=true→∃ e∈as.take i,(e.1.k,e.1.nd)=kk)∧∃ z,σ=[some (.ref gm),some (.int (side:Nat)),some (.ref l),some (.ref p),some (.int need),some (.ref d),z]) ⟨s1,⟨[],Zq,(fun e he=>nomatch he),Zs _,fun kk z=>nomatch z⟩,none,rfl⟩ (fun i σ H2 _ z=>SqL.of (z.1 _ _ Pa.l)) (fun i v σ H2 hv z=>?_) (fun σ H2 z=>?_)⟩
 ·obtain⟨s2,⟨es,e1,e2,e3,e4⟩,z0,rfl⟩:=z
  obtain⟨⟨r,a⟩,hi,rfl⟩:∃ e,as[i]? = some e∧v = .ref e.2:=by
   unfold R0 at hv;rw[Z4] at hv;obtain⟨e,he,rfl⟩:=Jq.mp hv;exact⟨e,he,rfl⟩
  have il:i < as.length:=(Zu.mp hi).1;have me:=Zl hi;obtain⟨pr,h1,h2⟩:=(Pa.r.same s2 _ me).1;have a0:Xs [V.ref pr,V.int r.nd,Nc r.cd] 0=some (V.ref pr):=rfl;have a1:Xs [V.ref pr,V.int r.nd,Nc r.cd] 1=some (V.int r.nd):=rfl;have nin:(Bu es (r.k,r.nd)).isSome=false:=by
   cases c:(Bu es (r.k,r.nd)).isSome with
   | false=>rfl
   | true=>
    exfalso;obtain⟨e,he,ek⟩:=e4 _ c;unfold KN at kn;obtain⟨j,hj⟩:=List.getElem?_of_mem he;rw[List.getElem?_take] at hj;split at hj
    ·rename_i jl
     have g1:(as.map fun e=>(e.1.k,e.1.nd))[j]? = some (r.k,r.nd):=by rw[Z4,hj,← ek];rfl
     have g2:(as.map fun e=>(e.1.k,e.1.nd))[i]? = some (r.k,r.nd):=by rw[Z4,hi];rfl
     have:=Sk kn g1 g2;omega
    ·cases hj
  refine⟨_,rfl,a,_,_,_,rfl,rfl,SqT.of h1,a0,_,rfl,a,_,_,_,rfl,rfl,SqT.of h1,a1,Yf 2 (by decide),fun ka hka=>?_⟩;have v1:=Je hka (.tup [.ref pr,.int r.nd]);refine⟨_,rfl,d,es,(r.k,r.nd),ka,rfl,v1 _ _ e1,e2.mono _ (fun b ys e=>v1 _ _ e),rfl,⟨pr,Zq,U9 (h2.same v1)⟩,_,rfl,?_⟩;rw[nin];refine J3 (Xn ?_);have h1':=v1 _ _ h1;refine⟨_,rfl,_,rfl,a,_,_,_,rfl,rfl,SqT.of h1',a0,_,rfl,a,_,_,_,rfl,rfl,SqT.of h1',a1,Yf 2 (by decide),fun kb hkb=>?_⟩;have v2:=Je hkb (.tup [.ref pr,.int r.nd]);have v12:=v1.trans v2;have g3:=v12 _ _ e1;have k3:GKeys (Uk P w) (upd (upd H2 ka (.tup [.ref pr,.int r.nd])) kb (.tup [.ref pr,.int r.nd])) es:=e2.mono _ (fun b ys e=>v12 _ _ e);have key:(Uk P w).isH (upd (upd H2 ka (.tup [.ref pr,.int r.nd])) kb (.tup [.ref pr,.int r.nd])) (r.k,r.nd) kb:=⟨pr,Zq,U9 (h2.same v12)⟩;refine⟨d,es,(r.k,r.nd),kb,rfl,g3,k3,rfl,key,by omega,?_⟩;have gt:∀ ys,Up (Uk P w) d es ≠ .tup ys:=fun ys e=>by cases e
  have tt:∀ b ys,(upd (upd H2 ka (.tup [.ref pr,.int r.nd])) kb (.tup [.ref pr,.int r.nd])) b=some (.tup ys)→upd (upd (upd H2 ka (.tup [.ref pr,.int r.nd])) kb (.tup [.ref pr,.int r.nd])) d (Up (Uk P w) d (Nv es (r.k,r.nd) kb (.bl true))) b=some (.tup ys):=fun b ys e=>by
   rw[Z8 (Bj e g3 gt)];exact e
  have s3:Same H (upd (upd (upd H2 ka (.tup [.ref pr,.int r.nd])) kb (.tup [.ref pr,.int r.nd])) d (Up (Uk P w) d (Nv es (r.k,r.nd) kb (.bl true)))):=fun b o hb=>by
   rw[Z8 (Jz hb hd)];exact(s2.trans v12) _ _ hb
  have D3:∃ es':List (Xc Ew),(upd (upd (upd H2 ka (.tup [.ref pr,.int r.nd])) kb (.tup [.ref pr,.int r.nd])) d (Up (Uk P w) d (Nv es (r.k,r.nd) kb (.bl true)))) d=some (Up (Uk P w) d es')∧GKeys (Uk P w) (upd (upd (upd H2 ka (.tup [.ref pr,.int r.nd])) kb (.tup [.ref pr,.int r.nd])) d (Up (Uk P w) d (Nv es (r.k,r.nd) kb (.bl true)))) es'∧es'.length≤i+1∧∀ kk,(Bu es' kk).isSome=true→∃ e∈as.take (i+1),(e.1.k,e.1.nd)=kk:=by
   refine⟨Nv es (r.k,r.nd) kb (.bl true),Zq,(Dp _ k3 key).mono _ tt,by have:=Mh (es:=es) (k:=(r.k,r.nd)) (b:=kb) (v:=.bl true);omega,fun kk z=>?_⟩;have tk:as.take (i+1)=as.take i++[(r,a)]:=by
    rw[U0,hi];rfl
   rw[Zd2] at z;rw[tk];by_cases c:kk=(r.k,r.nd)
   ·exact⟨(r,a),List.mem_append_right _ (Jg.mpr rfl),c.symm⟩
   ·rw[Zj c] at z
    obtain⟨e,he,ek⟩:=e4 kk z;exact⟨e,List.mem_append_left _ he,ek⟩
  refine Xn ?_;refine⟨_,rfl,l,_,rfl,.inl (SqL.of (s3 _ _ Pa.l)),_,_,rfl,rfl,_,rfl,M3 (fun _=>?_) (fun _=>J3 ⟨s3,D3,_,rfl⟩)⟩;have gr:=Pa.g r (Zz.mpr ⟨_,me,rfl⟩);refine⟨_,rfl,_,rfl,_,rfl,_,rfl,gm,x,l,a,t,fx,side,as,r,true,rfl,G.same s3,tb,s3 _ _ Pa.l,Pa.r.same s3,(Pa.r.same s3 _ me).1,gr.okp,fun H4 s4=>⟨_,rfl,?_⟩⟩;rw[gr.right ok (fun _ z=>z)];refine J3 ⟨s3.trans s4,?_,_,rfl⟩;obtain⟨es',f1,f2,f3,f4⟩:=D3;exact⟨es',s4 _ _ f1,f2.mono _ (fun b ys e=>s4 _ _ e),f3,f4⟩
 ·obtain⟨s2,_,z0,rfl⟩:=z
  refine⟨_,rfl,_,_,rfl,rfl,_,rfl,?_⟩;by_cases c0:need≤0
  ·refine X1 (Zc c0) (Yt ⟨_,rfl,Yf 0 (by decide),fun l0 hl0=>⟨l,l0,_,rfl,rfl,SqL.of (Je hl0 _ _ _ (s2 _ _ Pa.l)),SqL.of Zq,?_⟩⟩)
   rw[n0 c0];exact q _ (s2.trans (Je hl0 _))
  ·refine X1 (Zd c0) (J3 (Xn ?_))
   refine⟨_,rfl,_,rfl,_,rfl,l,p,as,hs,lead,ys,need,rfl,s2 _ _ Pa.l,Pa.r.same s2,hp.same s2,by omega,fun H3 s3=>?_⟩;rw[Zc (Zcj cv fun _ z=>z)];exact q H3 (s2.trans s3)
abbrev O2:Stmt:=top 89
abbrev O9:Stmt:=top 90
abbrev pTS:List Str:=["_law_game_here","_law_side_here","_law_place_here"]
abbrev nTS:List Str:=["_law_game_here","_law_side_here","_law_place_here","_law_most","_law_need","_law_rows"]
theorem scTS:FnScope nTS pTS (Zm O2):=Uw (by decide +kernel)
def Zn1(CT CG:Addr):Sp:=fun vs H Q _=>∃(gm x p:Addr) (t:Option Nat) (fx:Fx) (side:Nat) (hs:List Nat) (lead:Nat) (ys:List Nat) (m:Nat),vs=[.ref gm,.int (side:Nat),.ref p]∧GamH CT CG fx t H gm x∧Rl t∧IsPl H p hs lead ys∧Plc fx hs lead ys m∧J4 hs≤12∧∀ H',Same H H'→Q (.bl true) H'
theorem Zrg{k:Nat}{CT CG f1 f2 f3 f4 f5 f6:Addr}{d1 d2 d3 d4 d5 d6:FuncData}(F:Fun K "_law_told_so" "_law_told_so" O2 f fd)(LN:Lib P w K mg base k "count" Dc (Os CT CG) f1 d1)(LE:Lib P w K mg base k "paper" Nn (Oi CT CG) f2 d2)(LS:Lib P w K mg base k "_law_shaped" ["_law_rows"] G0 f3 d3)(LG:Lib P w K mg base k "_law_good" K8 (Zaz CT CG) f4 d4)
  (LH:Lib P w K mg base k "holds" ["game","side","paper","place","need"] (Op P w CT CG OkP) f5 d5) (LR:Lib P w K mg base k "_law_refused" Zio (Zax CT CG) f6 d6) (mLi:mg "list" = none):FnOk P w K mg base Yq (k+1) f fd pTS (Zn1 CT CG):=by
 refine F.ok scTS (fun vs H Q E h=>?_) (fun cdv A outer s H vs Q E hr h=>?_)
 ·obtain⟨gm,x,p,t,fx,side,hs,lead,ys,m,rfl,_⟩:=h
  rfl
 obtain⟨gm,x,p,t,fx,side,hs,lead,ys,m,rfl,G,tb,hp,Pl,t12,q⟩:=h;refine⟨_,Zi (Jf (i:=3) scTS.nd rfl (Or.inl rfl) (Z0 LN.ok hr rfl LN.mg LN.kp LN.bd .nil Jb (Za (pv 0) (Za (pv 2) (Za (pv 1) Zf)))))
  (Zi (Ux PassesOwn.never rfl (Y4 (Qf (Za Zo (Za (pv 3) (Za (Zra Znv Zo) (Za Zo (Za (Jj Bs (pv 3) Zo) Zf))))))) (Jp (i:=4) scTS.nd rfl (Or.inl rfl))
   (Zn (Yd (Jm Rq (pv 4) (pv 3) (Jl _))
    (Zi (Jf (i:=5) scTS.nd rfl (Or.inl rfl) (Z0 LE.ok hr rfl LE.mg LE.kp LE.bd .nil Jb (Za (pv 0) (Za (pv 1) (Za (pv 2) (Za (pv 4) Zf))))))
    (Zi (Yd (PW.pt (U2 (Uc (Jy (Z0 LS.ok hr rfl LS.mg LS.kp LS.bd .nil Jb (Za (pv 5) Zf)) (fun _=>rfl))) (U7 (Uc (Jy (Z0 LG.ok hr rfl LG.mg LG.kp LG.bd .nil Jb (Za (pv 0) (Za (pv 1) (Za (pv 5) (Za (pv 2) (Za (pv 4) Zf)))))) (fun _=>rfl)))))) (Zn (Z9 Ue)) Jn)
    (Zi (Yd (Jm Ziv (Z0 LH.ok hr rfl LH.mg LH.kp LH.bd .nil Jb (Za (pv 0) (Za (pv 1) (Za (Yz Qa rfl mLi Ys (Za (pv 5) Zf)) (Za (pv 2) (Za (pv 4) Zf)))))) Ue (Jl _)) (Zn (Z9 Ue)) Jn)
    (Zn (Xx (Zos Yi PySem.F.slot_list_clear PySem.F.type_list_clear Zju (pv 5))))))) Jn)))
  (Zi (Yd (Uc (Jy (Z0 LR.ok hr rfl LR.mg LR.kp LR.bd .nil Jb (Za (pv 0) (Za (pv 1) (Za (pv 2) (Za (Jj Y8 (pv 3) Zo) (Za (pv 3) Zf)))))) (fun _=>rfl))) (Zn (Z9 Ue)) Jn)
  (Zn (Z9 (Xd (Z0 LR.ok hr rfl LR.mg LR.kp LR.bd .nil Jb (Za (pv 0) (Za (pv 1) (Za (pv 2) (Za (Jj Y8 (pv 3) Zo) (Za (pv 3) Zf)))))) (U8 (Y0 (Sb hr.units) (Z0 LE.ok hr rfl LE.mg LE.kp LE.bd .nil Jb (Za (pv 0) (Za (pv 1) (Za (pv 2) (Za Zo Zf))))) (Qf Zf) (Jl _)))))))),?_⟩
 have ok:=G.ok;have big:1000000≤sizeLine:=by rw[sizeLine_eq];decide
 obtain⟨mo,emo⟩:∃ mo,mo=valP fx t side hs lead ys:=⟨_,rfl⟩;refine X6 (fun v H1=>Same H H1∧v = .int ((mo:Nat):Int)) (fun R hR=>⟨_,rfl,_,rfl,_,rfl,gm,x,p,t,fx,side,hs,lead,ys,m,rfl,tb,G,hp,Pl,t12,fun H1 s1=>hR _ _ ⟨s1,by rw[emo]⟩⟩) (fun v H1 z=>?_);obtain⟨s1,rfl⟩:=z;refine Ox (fun σ H'=>Same H H'∧∃ x4 x5:Option V,σ=[some (.ref gm),some (.int (side:Nat)),some (.ref p),some (.int ((mo:Nat):Int)),x4,x5]) (fun D' er nx=>?_) (fun σ H2 z=>?_)
 ·refine⟨_,rfl,_,rfl,_,rfl,_,_,rfl,rfl,Yf 5 (by decide),fun ln hln=>?_⟩
  have v2:=Je hln (.lst ([0,((mo:Nat):Int),-1,1,((mo:Nat):Int) - 1].map V.int));refine⟨ln,rfl,⟨_,SqL.of Zq⟩,Xg (xs:=[0,((mo:Nat):Int),-1,1,((mo:Nat):Int) - 1].map V.int) (fun i σ H'=>(Same H H'∧H' ln=some (.lst ([0,((mo:Nat):Int),-1,1,((mo:Nat):Int) - 1].map V.int)))∧∃ x4 x5:Option V,σ=[some (.ref gm),some (.int (side:Nat)),some (.ref p),some (.int ((mo:Nat):Int)),x4,x5]) ⟨⟨s1.trans v2,Zq⟩,none,none,rfl⟩ (fun i σ H' _ z=>SqL.of z.1.2) (fun i v σ H3 hv z=>?_) (fun σ H3 z=>nx _ _ ⟨z.1.1,z.2⟩)⟩;obtain⟨⟨s3,hn3⟩,x4,x5,rfl⟩:=z;obtain⟨nd,_,rfl⟩:=Zz.mp (Zl hv);refine⟨_,rfl,_,rfl,_,_,rfl,rfl,_,rfl,?_⟩;by_cases c:nd≤((mo:Nat):Int)
  rotate_left
  ·exact X1 (Zd c) (J3 ⟨⟨s3,hn3⟩,_,_,rfl⟩)
  refine X1 (Zc c) (Yt ?_);refine X6 (fun v H4=>Same H3 H4∧∃ l bs,v = .ref l∧H3 l=none∧Pap H4 fx t side l bs∧CovR (bs.map (·.1)) hs lead ys nd∧(nd≤0→bs=[])∧KN bs) (fun R hR=>⟨_,rfl,_,rfl,_,rfl,_,rfl,gm,x,p,t,fx,side,hs,lead,ys,m,nd,rfl,tb,G.same s3,hp.same s3,Pl,t12,by rw[← emo];exact c,fun l bs H4 s4 hl h1 h2 h3 h4 h5 h6 _ h8=>hR _ _ ⟨s4,l,bs,rfl,hl,Pap.of ok h1 h2 h3 h5,h4,h6,by rw[Z7] at h8;exact h8⟩⟩) (fun v H4 z=>?_);obtain⟨s4,l,bs,rfl,hl,Pa,cv,n0,kn⟩:=z;have s04:=s3.trans s4;have w1:=Pa.n;refine⟨_,rfl,l,bs,rfl,Pa.l,Pa.r,fun H5 s5=>⟨_,rfl,J3 ?_⟩⟩;have s05:=s04.trans s5;refine⟨_,rfl,_,rfl,_,rfl,_,rfl,_,rfl,gm,x,l,p,t,fx,side,bs,hs,lead,ys,nd,rfl,G.same s05,tb,Pa.same s5,kn,hp.same s05,cv,n0,fun H6 s6=>⟨_,rfl,J3 (Xn ?_)⟩⟩;have s56:=s5.trans s6;have P6:=Pa.same s56;refine⟨_,rfl,_,rfl,_,rfl,l,_,rfl,.inl (SqL.of P6.l),fun l2 hl2=>?_⟩;have v7:=Je hl2 (.lst (R0 bs));have s07:=(s04.trans s56).trans v7;have P7:=P6.same v7;refine⟨_,rfl,_,rfl,gm,x,l2,p,t,fx,side,bs,(fun _=>true),hs,lead,ys,nd,rfl,G.same s07,tb,Zq,P7.r,by omega,P7.okp,hp.same s07,fun H8 s8=>?_⟩;rw[Zps ok Pa.all (fun _ z=>z) cv (Eh _)];refine⟨true,true,rfl,rfl,_,rfl,J3 (Xn ?_)⟩;have P8:=P7.same s8;refine⟨_,rfl,.inl ⟨rfl,_,SqL.of P8.l⟩,l,_,rfl,rfl,P8.l,?_⟩;have s38:=((s4.trans s56).trans v7).trans s8;refine⟨⟨fun b o hb=>?_,?_⟩,_,_,rfl⟩
  ·rw[Z8 (Jz (s3 _ _ hb) hl)]
   exact s38 _ _ (s3 _ _ hb)
  ·rw[Z8 (Jz hn3 hl)]
   exact s38 _ _ hn3
 obtain⟨s2,x4,x5,rfl⟩:=z;refine⟨_,rfl,_,rfl,_,rfl,_,rfl,_,_,rfl,rfl,_,rfl,gm,x,p,t,fx,side,hs,lead,ys,m,((mo:Nat):Int)+1,by rw[emo];rfl,tb,G.same s2,hp.same s2,Pl,t12,by rw[emo];omega,fun H3 s3=>⟨_,rfl,J3 (Xn ?_)⟩⟩;have s03:=s2.trans s3;refine⟨_,rfl,_,rfl,_,rfl,_,rfl,_,_,rfl,rfl,_,rfl,gm,x,p,t,fx,side,hs,lead,ys,m,((mo:Nat):Int)+7,by rw[emo];rfl,tb,G.same s03,hp.same s03,Pl,t12,by rw[emo];omega,fun H4 s4=>⟨true,rfl,Yt ?_⟩⟩;have s04:=s03.trans s4;refine⟨_,rfl,_,rfl,_,rfl,gm,x,p,t,fx,side,hs,lead,ys,m,0,rfl,tb,G.same s04,hp.same s04,Pl,t12,Int.natCast_nonneg _,fun l bs H5 s5 hl h1 h2 h3 h4 h5 h6 _ _=>?_⟩;refine⟨Yf 0 (by decide),fun l0 hl0=>⟨l,l0,_,rfl,rfl,SqL.of (Je hl0 _ _ _ h1),SqL.of Zq,?_⟩⟩;rw[h6 (Eh _)];exact q _ ((s04.trans s5).trans (Je hl0 _))
def Zc0(K:W.Frag):Sp:=fun vs H Q _=>∃(a:Addr) (ns:List Int),vs=[.ref a]∧SqL K H a (ns.map V.int)∧ns.length≤63∧∀ H',Q (.bl true) H'
abbrev Zsw:List Str:=["_law_script","_law_games_here","_law_place_here","_law_side_here","_law_game_here"]
theorem scLaw:FnScope Zsw ["_law_script"] (Zm O9):=Uw (by decide +kernel)
theorem Zo6{k:Nat}{CT CG f1 f3 f4 f5:Addr}{d1 d3 d4 d5:FuncData}(F:Fun K "law" "law" O9 f fd)(C:TabC K mg CT)(CGm:GamC K mg CG)(LG:Lib P w K mg base k "_law_games" ["_law_script"] (Oq K CT CG) f1 d1)(LP:Lib P w K mg base k "_law_place" Tz (Oh K CT CG) f3 d3)
  (LD:Lib P w K mg base k "_law_side" ["_law_script","_law_seats"] (Zav K) f4 d4) (LT:Lib P w K mg base k "_law_told_so" pTS (Zn1 CT CG) f5 d5):FnOk P w K mg base Yq (k+1) f fd ["_law_script"] (Zc0 K):=by
 refine F.ok scLaw (fun vs H Q E h=>?_) (fun cdv A outer s H vs Q E hr h=>?_)
 ·obtain⟨a,ns,rfl,_⟩:=h
  rfl
 obtain⟨a,ns,rfl,hS,h63,q⟩:=h;refine⟨_,Zi (Jf (i:=1) scLaw.nd rfl (Or.inl rfl) (Z0 LG.ok hr rfl LG.mg LG.kp LG.bd .nil Jb (Za (pv 0) Zf)))
  (Zi (Jf (i:=2) scLaw.nd rfl (Or.inl rfl) (Z0 LP.ok hr rfl LP.mg LP.kp LP.bd .nil Jb (Za (pv 0) (Za (Jr Y7 (pv 1) Zo (fun _ _=>rfl)) Zf))))
  (Zi (Jf (i:=3) scLaw.nd rfl (Or.inl rfl) (Z0 LD.ok hr rfl LD.mg LD.kp LD.bd .nil Jb (Za (pv 0) (Za (Jt (Jt (Jr Y7 (pv 1) Zo (fun _ _=>rfl)) rfl) rfl) Zf))))
  (Zi (Ux PassesOwn.never rfl (Y4 (pv 1)) (Jp (i:=4) scLaw.nd rfl (Or.inl rfl))
   (Zn (Yd (Uc (Jy (Z0 LT.ok hr rfl LT.mg LT.kp LT.bd .nil Jb (Za (pv 4) (Za (pv 3) (Za (pv 2) Zf)))) (fun _=>rfl))) (Zn (Z9 Ue)) Jn)))
  (Zn (Z9 Ue))))),?_⟩
 refine X6 (fun v H1=>Same H H1∧∃ l g1 g2 x fx t1 t2,v = .ref l∧Rl t1∧Rl t2∧H1 l=some (.lst [.ref g1,.ref g2,.ref g1])∧GamH CT CG fx t1 H1 g1 x∧GamH CT CG fx t2 H1 g2 x) (fun R hR=>⟨_,rfl,a,ns,rfl,hS,fun l g1 g2 x fx t1 t2 H1 s1 tb1 tb2 hl G1 G2=>hR _ _ ⟨s1,l,g1,g2,x,fx,t1,t2,rfl,tb1,tb2,hl,G1,G2⟩⟩) (fun v H1 z=>?_);obtain⟨s1,l,g1,g2,x,fx,t1,t2,rfl,tb1,tb2,hl,G1,G2⟩:=z;have ok:=G1.ok;have n4:fx.n≤4:=by rcases ok.n34 with e | e<;>omega
 obtain⟨dg,hg⟩:=id G1.g;obtain⟨dx,po,to,hx,_,_⟩:=id G1.t;have a0:Xs [V.ref g1,V.ref g2,V.ref g1] 0=some (V.ref g1):=rfl;refine X6 (fun v H2=>Same H1 H2∧∃ p hs lead ys m,v = .ref p∧IsPl H2 p hs lead ys∧Plc fx hs lead ys m∧J4 hs≤12) (fun R hR=>⟨_,rfl,_,rfl,l,_,_,_,rfl,rfl,SqL.of hl,a0,a,g1,x,ns,fx,t1,rfl,s1.seq hS,G1,tb1,fun p hs lead ys m H2 s2 hp Pl e=>hR _ _ ⟨s2,p,hs,lead,ys,m,rfl,hp,Pl,e⟩⟩) (fun v H2 z=>?_);obtain⟨s2,p,hs,lead,ys,m,rfl,hp,Pl,t12⟩:=z;have s02:=s1.trans s2;refine X6 (fun v H'=>H2=H'∧∃ side:Nat,v = .int (side:Nat)) (fun R hR=>⟨_,rfl,_,rfl,l,_,_,_,rfl,rfl,SqL.of (s2 _ _ hl),a0,g1,CG,dg,_,_,rfl,s2 _ _ hg,CGm.cl,CGm.nT,Yu _ _,x,CT,dx,_,_,rfl,s2 _ _ hx,C.cl,C.nN,Ut _ _ _,a,ns,fx.n,rfl,s02.seq hS,n4,fun side sl=>hR _ _ ⟨rfl,side,rfl⟩⟩) (fun v H' z=>?_);obtain⟨rfl,side,rfl⟩:=z;refine⟨_,rfl,l,rfl,⟨_,SqL.of (s2 _ _ hl)⟩,Xg (xs:=[V.ref g1,V.ref g2,V.ref g1]) (fun i σ H'=>Same H2 H'∧∃ x4:Option V,σ=[some (.ref a),some (.ref l),some (.ref p),some (.int (side:Nat)),x4]) ⟨Same.refl _,none,rfl⟩ (fun i σ H' _ z=>SqL.of ((s2.trans z.1) _ _ hl)) (fun i v σ H3 hv z=>?_) (fun σ H3 z=>?_)⟩
 ·obtain⟨s3,x4,rfl⟩:=z
  have s13:=s2.trans s3;obtain⟨g,t,rfl,tb,G⟩:∃ g t,v = .ref g∧Rl t∧GamH CT CG fx t H3 g x:=by
   have hm:=Zl hv;simp only[Ja,Y5,or_false] at hm;rcases hm with z | z | z
   ·exact⟨g1,t1,z,tb1,G1.same s13⟩
   ·exact⟨g2,t2,z,tb2,G2.same s13⟩
   ·exact⟨g1,t1,z,tb1,G1.same s13⟩
  exact⟨_,rfl,_,rfl,_,rfl,g,x,p,t,fx,side,hs,lead,ys,m,rfl,G,tb,hp.same s3,Pl,t12,fun H4 s4=>⟨_,rfl,J3 ⟨s3.trans s4,_,rfl⟩⟩⟩
 ·obtain⟨s3,x4,rfl⟩:=z
  exact q H3
end
theorem Vt{K:W.Frag}{x qual:Str}{st:Stmt}{f:Addr}{fd:FuncData}{ps:List Str}(F:Fun K x qual st f fd)(e:ps.length=1)(h:∀(kV doc pm:Value) (an:Option Addr) (cdv ct u0:Value),bindArgs (W.fnOf x qual (Uo st) (Y1 st) (Zm st) .none kV doc pm an cdv ct) ⟨[u0],[]⟩=pure (ps.zip [u0])):Binds K fd ps []:=F.binds fun _ _ _ _ _ _ us hl=>match us,hl.trans e with | [u0],_=>h _ _ _ _ _ _ _
theorem Gs{K:W.Frag}{x qual:Str}{st:Stmt}{f:Addr}{fd:FuncData}{ps:List Str}(F:Fun K x qual st f fd)(e:ps.length=2)(h:∀(kV doc pm:Value) (an:Option Addr) (cdv ct u0 u1:Value),bindArgs (W.fnOf x qual (Uo st) (Y1 st) (Zm st) .none kV doc pm an cdv ct) ⟨[u0,u1],[]⟩=pure (ps.zip [u0,u1])):Binds K fd ps []:=F.binds fun _ _ _ _ _ _ us hl=>match us,hl.trans e with | [u0,u1],_=>h _ _ _ _ _ _ _ _
theorem bd3{K:W.Frag}{x qual:Str}{st:Stmt}{f:Addr}{fd:FuncData}{ps:List Str}(F:Fun K x qual st f fd)(e:ps.length=3)(h:∀(kV doc pm:Value) (an:Option Addr) (cdv ct u0 u1 u2:Value),bindArgs (W.fnOf x qual (Uo st) (Y1 st) (Zm st) .none kV doc pm an cdv ct) ⟨[u0,u1,u2],[]⟩=pure (ps.zip [u0,u1,u2])):Binds K fd ps []:=F.binds fun _ _ _ _ _ _ us hl=>match us,hl.trans e with | [u0,u1,u2],_=>h _ _ _ _ _ _ _ _ _
theorem bd4{K:W.Frag}{x qual:Str}{st:Stmt}{f:Addr}{fd:FuncData}{ps:List Str}(F:Fun K x qual st f fd)(e:ps.length=4)(h:∀(kV doc pm:Value) (an:Option Addr) (cdv ct u0 u1 u2 u3:Value),bindArgs (W.fnOf x qual (Uo st) (Y1 st) (Zm st) .none kV doc pm an cdv ct) ⟨[u0,u1,u2,u3],[]⟩=pure (ps.zip [u0,u1,u2,u3])):Binds K fd ps []:=F.binds fun _ _ _ _ _ _ us hl=>match us,hl.trans e with | [u0,u1,u2,u3],_=>h _ _ _ _ _ _ _ _ _ _
theorem bd5{K:W.Frag}{x qual:Str}{st:Stmt}{f:Addr}{fd:FuncData}{ps:List Str}(F:Fun K x qual st f fd)(e:ps.length=5)(h:∀(kV doc pm:Value) (an:Option Addr) (cdv ct u0 u1 u2 u3 u4:Value),bindArgs (W.fnOf x qual (Uo st) (Y1 st) (Zm st) .none kV doc pm an cdv ct) ⟨[u0,u1,u2,u3,u4],[]⟩=pure (ps.zip [u0,u1,u2,u3,u4])):Binds K fd ps []:=F.binds fun _ _ _ _ _ _ us hl=>match us,hl.trans e with | [u0,u1,u2,u3,u4],_=>h _ _ _ _ _ _ _ _ _ _ _
theorem bd6{K:W.Frag}{x qual:Str}{st:Stmt}{f:Addr}{fd:FuncData}{ps:List Str}(F:Fun K x qual st f fd)(e:ps.length=6)(h:∀(kV doc pm:Value) (an:Option Addr) (cdv ct u0 u1 u2 u3 u4 u5:Value),bindArgs (W.fnOf x qual (Uo st) (Y1 st) (Zm st) .none kV doc pm an cdv ct) ⟨[u0,u1,u2,u3,u4,u5],[]⟩=pure (ps.zip [u0,u1,u2,u3,u4,u5])):Binds K fd ps []:=F.binds fun _ _ _ _ _ _ us hl=>match us,hl.trans e with | [u0,u1,u2,u3,u4,u5],_=>h _ _ _ _ _ _ _ _ _ _ _ _
theorem all_mk{wd dtd:Option Addr}{dtc:Value}{tw1 tw2 tw3 tw4 tw5:Tok}{wn dtn:Nat}{wsl dts:Array (Option Value)}{cdX:ClassData}{l:W.OpenLaw}{w:World}{K:W.Frag}{h:Heap}{mg:Str→Option Value}{fa f1 f2 f3 f4 f5 f6 f7 f8 f9 f10 f11 f12 f13 f14 f15 f16 f17 f18 f19 f20 f21 f22 f23 f24 f25 f26 f27 f28 f29 f30 f31 f32 f33 f34 f35 f36 f37 f38 f39 f40 f41 f42 f43 f44 f45 f46 f47 f48 f49 f50 f51 f52 f53 f54 f55 f56 f57 f58 f_F f_L f_C f_B f_AF f_AL f_AC f_AB f_I f_D f_O f_G f_S f_V f_M f_W f_P f_RI f_RB f_RP f_RA f_RC f_WI f_WC f_WW f_WB f_WR f_XI CN CF CL CC CB CT CG aM dT CR CW CE CX e0 e1 e2 e3:Addr}(X:K.In h)(G:h.Ns mainGlobals mg)(hfa:mg "law" = some (.ref fa))
  {d1 d2 d3 d4 d5 d6 d7 d8 d9 d10 d11 d12 d13 d14 d15 d16 d17 d18 d19 d20 d21 d22 d23 d24 d25 d26 d27 d28 d29 d30 d31 d32 d33 d34 d35 d36 d37 d38 d39 d40 d41 d42 d43 d44 d45 d46 d47 d48 d49 d50 d51 d52 d53 d54 d55 d56 d57 d_F d_L d_C d_B d_AF d_AL d_AC d_AB d_I d_D d_O d_S d_V d_M d_W d_P d_RI d_RB d_RP d_RA d_RC d_WI d_WC d_WW d_WB d_WR d_XI:FuncData} {od58 an58 od_G an_G:Option Addr} {sl58 sl_G:Array (Option Value)} {oc58 kV58 dc58 pm58 cd58 ct58 oc_G kV_G dc_G pm_G cd_G ct_G:Value} {t1 t2 t3 t4 t5:Tok}
  (a1:W.nsIn K mainGlobals "duty_of" = some (some (.ref f1)))
  (a2:W.nsIn K mainGlobals "words_behind_marks" = some (some (.ref f2)))
  (a3:W.nsIn K mainGlobals "read_size" = some (some (.ref f3)))
  (a4:W.nsIn K mainGlobals "read_seats" = some (some (.ref f4)))
  (a5:W.nsIn K mainGlobals "read_order" = some (some (.ref f5)))
  (a6:W.nsIn K mainGlobals "is_later" = some (some (.ref f6)))
  (a7:W.nsIn K mainGlobals "cards_in" = some (some (.ref f7)))
  (a8:W.nsIn K mainGlobals "hand_of" = some (some (.ref f8)))
  (a9:W.nsIn K mainGlobals "of_suit" = some (some (.ref f9)))
  (a10:W.nsIn K mainGlobals "of_led_suit" = some (some (.ref f10)))
  (a11:W.nsIn K mainGlobals "followed_or_cut" = some (some (.ref f11)))
  (a12:W.nsIn K mainGlobals "goes_over_all" = some (some (.ref f12)))
  (a13:W.nsIn K mainGlobals "many" = some (some (.ref f13)))
  (a14:W.nsIn K mainGlobals "is_apart" = some (some (.ref f14)))
  (a15:W.nsIn K mainGlobals "is_level" = some (some (.ref f15)))
  (a16:W.nsIn K mainGlobals "is_seat" = some (some (.ref f16)))
  (a17:W.nsIn K mainGlobals "seat_round" = some (some (.ref f17)))
  (a18:W.nsIn K mainGlobals "hands_with_trick" = some (some (.ref f18)))
  (a19:W.nsIn K mainGlobals "is_place" = some (some (.ref f19)))
  (a20:W.nsIn K mainGlobals "turn_at" = some (some (.ref f20)))
  (a21:W.nsIn K mainGlobals "moves" = some (some (.ref f21)))
  (a22:W.nsIn K mainGlobals "left" = some (some (.ref f22)))
  (a23:W.nsIn K mainGlobals "behind" = some (some (.ref f23)))
  (a24:W.nsIn K mainGlobals "has_seat" = some (some (.ref f24)))
  (a25:W.nsIn K mainGlobals "gain" = some (some (.ref f25)))
  (a26:W.nsIn K mainGlobals "refuse_too_many" = some (some (.ref f26)))
  (a27:W.nsIn K mainGlobals "count" = some (some (.ref f27)))
  (a28:W.nsIn K mainGlobals "paper" = some (some (.ref f28)))
  (a29:W.nsIn K mainGlobals "is_whole" = some (some (.ref f29)))
  (a30:W.nsIn K mainGlobals "are_from_zero_on" = some (some (.ref f30)))
  (a31:W.nsIn K mainGlobals "is_formed_place" = some (some (.ref f31)))
  (a32:W.nsIn K mainGlobals "is_formed_row" = some (some (.ref f32)))
  (a33:W.nsIn K mainGlobals "greatest_needs" = some (some (.ref f33)))
  (a34:W.nsIn K mainGlobals "covers" = some (some (.ref f34)))
  (a35:W.nsIn K mainGlobals "is_right" = some (some (.ref f35)))
  (a36:W.nsIn K mainGlobals "holds" = some (some (.ref f36)))
  (a37:W.nsIn K mainGlobals "_law_cell" = some (some (.ref f37)))
  (a38:W.nsIn K mainGlobals "_law_mixed" = some (some (.ref f38)))
  (a39:W.nsIn K mainGlobals "_law_order" = some (some (.ref f39)))
  (a40:W.nsIn K mainGlobals "_law_table" = some (some (.ref f40)))
  (a41:W.nsIn K mainGlobals "_law_text" = some (some (.ref f41)))
  (a42:W.nsIn K mainGlobals "_law_bit" = some (some (.ref f42)))
  (a43:W.nsIn K mainGlobals "_law_shuffled" = some (some (.ref f43)))
  (a44:W.nsIn K mainGlobals "_law_game" = some (some (.ref f44)))
  (a45:W.nsIn K mainGlobals "_law_size" = some (some (.ref f45)))
  (a46:W.nsIn K mainGlobals "_law_place" = some (some (.ref f46)))
  (a47:W.nsIn K mainGlobals "_law_side" = some (some (.ref f47)))
  (a48:W.nsIn K mainGlobals "_law_games" = some (some (.ref f48)))
  (a49:W.nsIn K mainGlobals "_law_in" = some (some (.ref f49)))
  (a50:W.nsIn K mainGlobals "_law_has" = some (some (.ref f50)))
  (a51:W.nsIn K mainGlobals "_law_covers" = some (some (.ref f51)))
  (a52:W.nsIn K mainGlobals "_law_right" = some (some (.ref f52)))
  (a53:W.nsIn K mainGlobals "_law_whole" = some (some (.ref f53)))
  (a54:W.nsIn K mainGlobals "_law_shaped" = some (some (.ref f54)))
  (a55:W.nsIn K mainGlobals "_law_good" = some (some (.ref f55)))
  (a56:W.nsIn K mainGlobals "_law_refused" = some (some (.ref f56)))
  (a57:W.nsIn K mainGlobals "_law_told_so" = some (some (.ref f57)))
  (a58:W.nsIn K mainGlobals "law" = some (some (.ref f58)))
  (hCN:W.nsIn K mainGlobals "NoTable" = some (some (.ref CN)))
  (hCF:W.nsIn K mainGlobals "Free" = some (some (.ref CF)))
  (hCL:W.nsIn K mainGlobals "Follow" = some (some (.ref CL)))
  (hCC:W.nsIn K mainGlobals "Cut" = some (some (.ref CC)))
  (hCB:W.nsIn K mainGlobals "Beat" = some (some (.ref CB)))
  (hCT:W.nsIn K mainGlobals "Table" = some (some (.ref CT)))
  (hCG:W.nsIn K mainGlobals "Game" = some (some (.ref CG)))
  (w1:W.nsIn K mainGlobals "MARKS" = some (some (.ref aM)))
  (hCR:W.nsIn K mainGlobals "Reckoning" = some (some (.ref CR)))
  (hCW:W.nsIn K mainGlobals "Writing" = some (some (.ref CW)))
  (hCE:W.nsIn K mainGlobals "TrickError" = some (some (.ref CE)))
  (hCX:W.nsIn K mainGlobals "TooMuch" = some (some (.ref CX)))
  (he0:W.nsIn K mainGlobals "TooMany" = some (some (.ref e0)))
  (he1:W.nsIn K mainGlobals "NoRecord" = some (some (.ref e1)))
  (he2:W.nsIn K mainGlobals "NoView" = some (some (.ref e2)))
  (he3:W.nsIn K mainGlobals "NotYet" = some (some (.ref e3)))
  (l58:K.lookup f58=some ⟨oc58,od58,.func (W.fnOf "law" "law" (Uo O9) (Y1 O9) (Zm O9) .none kV58 dc58 pm58 an58 cd58 ct58),sl58⟩)
  (c58:W.codeIn K cd58 "law" = true)
  (k58:W.keepIn K (.ref f58)=true)
  (a_F:W.findIn K (.ref CF) "word" = some (some (.ref f_F)))
  (i_F:W.isFn K (.ref f_F)=true)
  (a_L:W.findIn K (.ref CL) "word" = some (some (.ref f_L)))
  (i_L:W.isFn K (.ref f_L)=true)
  (a_C:W.findIn K (.ref CC) "word" = some (some (.ref f_C)))
  (i_C:W.isFn K (.ref f_C)=true)
  (a_B:W.findIn K (.ref CB) "word" = some (some (.ref f_B)))
  (i_B:W.isFn K (.ref f_B)=true)
  (a_AF:W.findIn K (.ref CF) "allowed" = some (some (.ref f_AF)))
  (i_AF:W.isFn K (.ref f_AF)=true)
  (a_AL:W.findIn K (.ref CL) "allowed" = some (some (.ref f_AL)))
  (i_AL:W.isFn K (.ref f_AL)=true)
  (a_AC:W.findIn K (.ref CC) "allowed" = some (some (.ref f_AC)))
  (i_AC:W.isFn K (.ref f_AC)=true)
  (a_AB:W.findIn K (.ref CB) "allowed" = some (some (.ref f_AB)))
  (i_AB:W.isFn K (.ref f_AB)=true)
  (a_I:W.findIn K (.ref CT) "__init__" = some (some (.ref f_I)))
  (i_I:W.isFn K (.ref f_I)=true)
  (a_D:W.findIn K (.ref CT) "duty" = some (some (.ref f_D)))
  (i_D:W.isFn K (.ref f_D)=true)
  (a_O:W.findIn K (.ref CT) "order" = some (some (.ref f_O)))
  (i_O:W.isFn K (.ref f_O)=true)
  (a_G:W.findIn K (.ref CG) "__init__" = some (some (.ref f_G)))
  (l_G:K.lookup f_G=some ⟨oc_G,od_G,.func (W.fnOf "__init__" "Game.__init__" (Uo U5) (Y1 U5) (Zm U5) (.ref dT) kV_G dc_G pm_G an_G cd_G ct_G),sl_G⟩)
  (c_G:W.codeIn K cd_G "Game.__init__" = true)
  (k_G:W.keepIn K (.ref f_G)=true)
  (i_G:W.isFn K (.ref f_G)=true)
  (a_S:W.findIn K (.ref CG) "is_stronger" = some (some (.ref f_S)))
  (i_S:W.isFn K (.ref f_S)=true)
  (a_V:W.findIn K (.ref CG) "is_over" = some (some (.ref f_V)))
  (i_V:W.isFn K (.ref f_V)=true)
  (a_M:W.findIn K (.ref CG) "may" = some (some (.ref f_M)))
  (i_M:W.isFn K (.ref f_M)=true)
  (a_W:W.findIn K (.ref CG) "winner" = some (some (.ref f_W)))
  (i_W:W.isFn K (.ref f_W)=true)
  (a_P:W.findIn K (.ref CG) "pack" = some (some (.ref f_P)))
  (i_P:W.isFn K (.ref f_P)=true)
  (a_RI:W.findIn K (.ref CR) "__init__" = some (some (.ref f_RI)))
  (i_RI:W.isFn K (.ref f_RI)=true)
  (a_RB:W.findIn K (.ref CR) "made_by" = some (some (.ref f_RB)))
  (i_RB:W.isFn K (.ref f_RB)=true)
  (a_RP:W.findIn K (.ref CR) "pairs" = some (some (.ref f_RP)))
  (i_RP:W.isFn K (.ref f_RP)=true)
  (a_RA:W.findIn K (.ref CR) "made_at" = some (some (.ref f_RA)))
  (i_RA:W.isFn K (.ref f_RA)=true)
  (a_RC:W.findIn K (.ref CR) "choice" = some (some (.ref f_RC)))
  (i_RC:W.isFn K (.ref f_RC)=true)
  (a_WI:W.findIn K (.ref CW) "__init__" = some (some (.ref f_WI)))
  (i_WI:W.isFn K (.ref f_WI)=true)
  (a_WC:W.findIn K (.ref CW) "card_for" = some (some (.ref f_WC)))
  (i_WC:W.isFn K (.ref f_WC)=true)
  (a_WW:W.findIn K (.ref CW) "write" = some (some (.ref f_WW)))
  (i_WW:W.isFn K (.ref f_WW)=true)
  (a_WB:W.findIn K (.ref CW) "write_behind" = some (some (.ref f_WB)))
  (i_WB:W.isFn K (.ref f_WB)=true)
  (a_WR:W.findIn K (.ref CW) "rows" = some (some (.ref f_WR)))
  (i_WR:W.isFn K (.ref f_WR)=true)
  (a_XI:W.findIn K (.ref CX) "__init__" = some (some (.ref f_XI)))
  (i_XI:W.isFn K (.ref f_XI)=true)
  (g1:W.nsIn K mainGlobals "HEIGHTS" = some (some (.int 8 t1)))
  (g2:W.nsIn K mainGlobals "LETTERS" = some (some (.str "abcd" t2)))
  (g3:W.nsIn K mainGlobals "FIGURES" = some (some (.str "12345678" t3)))
  (g4:W.nsIn K mainGlobals "LOWEST_SUIT" = some (some (.int 255 t4)))
  (g5:W.nsIn K mainGlobals "MOST_CARDS" = some (some (.int 12 t5)))
  (z1:W.nsIn K mainGlobals "len" = some none)
  (z2:W.nsIn K mainGlobals "range" = some none)
  (z3:W.nsIn K mainGlobals "isinstance" = some none)
  (z4:W.nsIn K mainGlobals "int" = some none)
  (z5:W.nsIn K mainGlobals "str" = some none)
  (z6:W.nsIn K mainGlobals "list" = some none)
  (z7:W.nsIn K mainGlobals "tuple" = some none)
  (z8:W.nsIn K mainGlobals "sorted" = some none)
  (z9:W.nsIn K mainGlobals "sum" = some none)
  (z10:W.nsIn K mainGlobals "all" = some none)
  (z11:W.nsIn K mainGlobals "any" = some none)
  (z12:W.nsIn K mainGlobals "enumerate" = some none)
  (z13:W.nsIn K mainGlobals "max" = some none)
  (z14:W.nsIn K mainGlobals "min" = some none)
  (z15:W.nsIn K mainGlobals "bool" = some none)
  (z16:W.nsIn K mainGlobals "ValueError" = some none)
  (pgCF:W.plainGet K CF Str.empty=true)
  (hdCF:W.hasDictIn K CF=true)
  (poCF:W.plainOver K CF=true)
  (saCF:W.findIn K (.ref CF) "__setattr__" = some (some (.builtin "object.__setattr__")))
  (mkCF:W.makesIn K CF=true)
  (kcCF:W.keepIn K (.ref CF)=true)
  (oiCF:W.findIn K (.ref CF) "__init__" = some (some (.builtin "object.__init__")))
  (pgCL:W.plainGet K CL Str.empty=true)
  (hdCL:W.hasDictIn K CL=true)
  (poCL:W.plainOver K CL=true)
  (saCL:W.findIn K (.ref CL) "__setattr__" = some (some (.builtin "object.__setattr__")))
  (mkCL:W.makesIn K CL=true)
  (kcCL:W.keepIn K (.ref CL)=true)
  (oiCL:W.findIn K (.ref CL) "__init__" = some (some (.builtin "object.__init__")))
  (pgCC:W.plainGet K CC Str.empty=true)
  (hdCC:W.hasDictIn K CC=true)
  (poCC:W.plainOver K CC=true)
  (saCC:W.findIn K (.ref CC) "__setattr__" = some (some (.builtin "object.__setattr__")))
  (mkCC:W.makesIn K CC=true)
  (kcCC:W.keepIn K (.ref CC)=true)
  (oiCC:W.findIn K (.ref CC) "__init__" = some (some (.builtin "object.__init__")))
  (pgCB:W.plainGet K CB Str.empty=true)
  (hdCB:W.hasDictIn K CB=true)
  (poCB:W.plainOver K CB=true)
  (saCB:W.findIn K (.ref CB) "__setattr__" = some (some (.builtin "object.__setattr__")))
  (mkCB:W.makesIn K CB=true)
  (kcCB:W.keepIn K (.ref CB)=true)
  (oiCB:W.findIn K (.ref CB) "__init__" = some (some (.builtin "object.__init__")))
  (pgCT:W.plainGet K CT Str.empty=true)
  (hdCT:W.hasDictIn K CT=true)
  (poCT:W.plainOver K CT=true)
  (saCT:W.findIn K (.ref CT) "__setattr__" = some (some (.builtin "object.__setattr__")))
  (mkCT:W.makesIn K CT=true)
  (kcCT:W.keepIn K (.ref CT)=true)
  (pgCG:W.plainGet K CG Str.empty=true)
  (hdCG:W.hasDictIn K CG=true)
  (poCG:W.plainOver K CG=true)
  (saCG:W.findIn K (.ref CG) "__setattr__" = some (some (.builtin "object.__setattr__")))
  (mkCG:W.makesIn K CG=true)
  (kcCG:W.keepIn K (.ref CG)=true)
  (nTS:W.findIn K (.ref CT) "suits" = some none)
  (nTH:W.findIn K (.ref CT) "heights" = some none)
  (nTN:W.findIn K (.ref CT) "seats" = some none)
  (nTD:W.findIn K (.ref CT) "duty_word" = some none)
  (nTP:W.findIn K (.ref CT) "plain_order" = some none)
  (nTT:W.findIn K (.ref CT) "trump_order" = some none)
  (nTW:W.findIn K (.ref CT) "written" = some none)
  (nGT:W.findIn K (.ref CG) "table" = some none)
  (nGU:W.findIn K (.ref CG) "trump" = some none)
  (w2:K.lookup aM=some ⟨.type "tuple",wd,.seq #[.str "pack" tw1,.str "seats" tw2,.str "duty" tw3,.str "plain" tw4,.str "trump" tw5] wn,wsl⟩)
  (w3:K.lookup dT=some ⟨dtc,dtd,.seq #[.none] dtn,dts⟩)
  (pgCR:W.plainGet K CR Str.empty=true)
  (hdCR:W.hasDictIn K CR=true)
  (poCR:W.plainOver K CR=true)
  (saCR:W.findIn K (.ref CR) "__setattr__" = some (some (.builtin "object.__setattr__")))
  (mkCR:W.makesIn K CR=true)
  (kcCR:W.keepIn K (.ref CR)=true)
  (nR1:W.findIn K (.ref CR) "game" = some none)
  (nR2:W.findIn K (.ref CR) "side" = some none)
  (nR3:W.findIn K (.ref CR) "known" = some none)
  (pgCW:W.plainGet K CW Str.empty=true)
  (hdCW:W.hasDictIn K CW=true)
  (poCW:W.plainOver K CW=true)
  (saCW:W.findIn K (.ref CW) "__setattr__" = some (some (.builtin "object.__setattr__")))
  (mkCW:W.makesIn K CW=true)
  (kcCW:W.keepIn K (.ref CW)=true)
  (nW1:W.findIn K (.ref CW) "game" = some none)
  (nW2:W.findIn K (.ref CW) "side" = some none)
  (nW3:W.findIn K (.ref CW) "reckoning" = some none)
  (nW4:W.findIn K (.ref CW) "cards_of_rows" = some none)
  (ty5:W.specialIn K (.builtin "object.__class__") "__get__" = some (some (.builtin "getset_descriptor.__get__")))
  (ty6:W.takesIn K (.builtin "object.__class__")=some true)
  (ty1:W.clsIn K CX=some cdX)
  (ty2:W.findIn K (.ref CX) "__getattribute__" = some (some (.builtin "BaseException.__getattribute__")))
  (ty3:W.findIn K (.ref CX) "__getattr__" = some none)
  (ty4:W.findIn K (.ref CX) "__class__" = some (some (.builtin "object.__class__")))
  (ty7:W.mroIn K CX (.type "object")=some true)
  (ty8:W.mroIn K CX (.type "BaseException")=some true)
  (tv2:W.findIn K (.ref CX) "__setattr__" = some (some (.builtin "object.__setattr__")))
  (tv4:W.hasDictIn K CX=true)
  (tv5:W.findIn K (.ref CX) "count" = some none)
  (F1:Fun K "duty_of" "duty_of" Af f1 d1)
  (F2:Fun K "words_behind_marks" "words_behind_marks" Zbe f2 d2)
  (F3:Fun K "read_size" "read_size" V5 f3 d3)
  (F4:Fun K "read_seats" "read_seats" Bo f4 d4)
  (F5:Fun K "read_order" "read_order" E4 f5 d5)
  (F6:Fun K "is_later" "is_later" Zbf f6 d6)
  (F7:Fun K "cards_in" "cards_in" Tm f7 d7)
  (F8:Fun K "hand_of" "hand_of" Ad f8 d8)
  (F9:Fun K "of_suit" "of_suit" O7 f9 d9)
  (F10:Fun K "of_led_suit" "of_led_suit" Th f10 d10)
  (F11:Fun K "followed_or_cut" "followed_or_cut" Zoe f11 d11)
  (F12:Fun K "goes_over_all" "goes_over_all" Vc f12 d12)
  (F13:Fun K "many" "many" Zhr f13 d13)
  (F14:Fun K "is_apart" "is_apart" Zbl f14 d14)
  (F15:Fun K "is_level" "is_level" O8 f15 d15)
  (F16:Fun K "is_seat" "is_seat" Ac f16 d16)
  (F17:Fun K "seat_round" "seat_round" Zba f17 d17)
  (F18:Fun K "hands_with_trick" "hands_with_trick" Zhn f18 d18)
  (F19:Fun K "is_place" "is_place" Nj f19 d19)
  (F20:Fun K "turn_at" "turn_at" O1 f20 d20)
  (F21:Fun K "moves" "moves" Zbc f21 d21)
  (F22:Fun K "left" "left" Zc8 f22 d22)
  (F23:Fun K "behind" "behind" Ah f23 d23)
  (F24:Fun K "has_seat" "has_seat" Tj f24 d24)
  (F25:Fun K "gain" "gain" Zhw f25 d25)
  (F26:Fun K "refuse_too_many" "refuse_too_many" Gg f26 d26)
  (F27:Fun K "count" "count" Zbk f27 d27)
  (F28:Fun K "paper" "paper" O5 f28 d28)
  (F29:Fun K "is_whole" "is_whole" Ti f29 d29)
  (F30:Fun K "are_from_zero_on" "are_from_zero_on" N8 f30 d30)
  (F31:Fun K "is_formed_place" "is_formed_place" Tk f31 d31)
  (F32:Fun K "is_formed_row" "is_formed_row" Zbi f32 d32)
  (F33:Fun K "greatest_needs" "greatest_needs" Zbb f33 d33)
  (F34:Fun K "covers" "covers" Ag f34 d34)
  (F35:Fun K "is_right" "is_right" Vb f35 d35)
  (F36:Fun K "holds" "holds" Zbg f36 d36)
  (F37:Fun K "_law_cell" "_law_cell" Zhx f37 d37)
  (F38:Fun K "_law_mixed" "_law_mixed" Zbd f38 d38)
  (F39:Fun K "_law_order" "_law_order" O6 f39 d39)
  (F40:Fun K "_law_table" "_law_table" Za9 f40 d40)
  (F41:Fun K "_law_text" "_law_text" Kt f41 d41)
  (F42:Fun K "_law_bit" "_law_bit" Zof f42 d42)
  (F43:Fun K "_law_shuffled" "_law_shuffled" Zc7 f43 d43)
  (F44:Fun K "_law_game" "_law_game" Zhv f44 d44)
  (F45:Fun K "_law_size" "_law_size" Zho f45 d45)
  (F46:Fun K "_law_place" "_law_place" Bp f46 d46)
  (F47:Fun K "_law_side" "_law_side" Zhp f47 d47)
  (F48:Fun K "_law_games" "_law_games" Zbh f48 d48)
  (F49:Fun K "_law_in" "_law_in" Zod f49 d49)
  (F50:Fun K "_law_has" "_law_has" Zhs f50 d50)
  (F51:Fun K "_law_covers" "_law_covers" Zht f51 d51)
  (F52:Fun K "_law_right" "_law_right" Ab f52 d52)
  (F53:Fun K "_law_whole" "_law_whole" Aa f53 d53)
  (F54:Fun K "_law_shaped" "_law_shaped" O3 f54 d54)
  (F55:Fun K "_law_good" "_law_good" Zhu f55 d55)
  (F56:Fun K "_law_refused" "_law_refused" Tf f56 d56)
  (F57:Fun K "_law_told_so" "_law_told_so" O2 f57 d57)
  (F_F:Fun K "word" "Free.word" V6 f_F d_F)
  (F_L:Fun K "word" "Follow.word" Nk f_L d_L)
  (F_C:Fun K "word" "Cut.word" Tl f_C d_C)
  (F_B:Fun K "word" "Beat.word" V8 f_B d_B)
  (F_AF:Fun K "allowed" "Free.allowed" Ae f_AF d_AF)
  (F_AL:Fun K "allowed" "Follow.allowed" V7 f_AL d_AL)
  (F_AC:Fun K "allowed" "Cut.allowed" Zbj f_AC d_AC)
  (F_AB:Fun K "allowed" "Beat.allowed" Gj f_AB d_AB)
  (F_I:Fun K "__init__" "Table.__init__" Td f_I d_I)
  (F_D:Fun K "duty" "Table.duty" Te f_D d_D)
  (F_O:Fun K "order" "Table.order" V3 f_O d_O)
  (F_S:Fun K "is_stronger" "Game.is_stronger" V4 f_S d_S)
  (F_V:Fun K "is_over" "Game.is_over" Zhq f_V d_V)
  (F_M:Fun K "may" "Game.may" Zoc f_M d_M)
  (F_W:Fun K "winner" "Game.winner" O0 f_W d_W)
  (F_P:Fun K "pack" "Game.pack" Vd f_P d_P)
  (F_RI:Fun K "__init__" "Reckoning.__init__" O4 f_RI d_RI)
  (F_RB:Fun K "made_by" "Reckoning.made_by" Gh f_RB d_RB)
  (F_RP:Fun K "pairs" "Reckoning.pairs" Tg f_RP d_RP)
  (F_RA:Fun K "made_at" "Reckoning.made_at" Va f_RA d_RA)
  (F_RC:Fun K "choice" "Reckoning.choice" Gi f_RC d_RC)
  (F_WI:Fun K "__init__" "Writing.__init__" Oz f_WI d_WI)
  (F_WC:Fun K "card_for" "Writing.card_for" Ve f_WC d_WC)
  (F_WW:Fun K "write" "Writing.write" Tb f_WW d_WW)
  (F_WB:Fun K "write_behind" "Writing.write_behind" N7 f_WB d_WB)
  (F_WR:Fun K "rows" "Writing.rows" Gf f_WR d_WR)
  (F_XI:Fun K "__init__" "TooMuch.__init__" Tc f_XI d_XI)
  (x1:W.excIn K CN Uv "ValueError.__new__" = true)
  (tjM:W.kitOne K (.ref CX) (.ref CX)=some true)
  (tjV:W.kitOne K (.ref CX) (.type "ValueError")=some true)
  (tk0:W.kitOne K (.ref CX) (.ref e0)=some false)
  (tk1:W.kitOne K (.ref CX) (.ref e1)=some false)
  (tk2:W.kitOne K (.ref CX) (.ref e2)=some false)
  (tk3:W.kitOne K (.ref CX) (.ref e3)=some false)
  (tu1:W.exmOne K (.ref CX) (.ref CE)=some true)
  (tv1:Mj K CX Uv "ValueError.__new__" f_XI=true)
  (tv3:Np cdX.mro=true)
  : ∃ fd:FuncData,(∀(s:Shared) (v:Value),BindsTo s fd ⟨[v],[]⟩ [("_law_script",v)])∧∀ base:Heap,K.In base→base.Ns mainGlobals mg→FnOk l.prog w K mg base Yq 88 fa fd ["_law_script"] (Zc0 K):=by
 have e:=hfa.symm.trans (W.mg_of X G a58);cases e;have k1:=F1.kp;have b1:=Vt (ps:=["word"]) F1 rfl fun _ _ _ _ _ _ _=>rfl;have m1:=W.mg_of X G a1;have k2:=F2.kp;have b2:=Vt (ps:=["text"]) F2 rfl fun _ _ _ _ _ _ _=>rfl;have m2:=W.mg_of X G a2;have k3:=F3.kp;have b3:=Vt (ps:=["word"]) F3 rfl fun _ _ _ _ _ _ _=>rfl;have m3:=W.mg_of X G a3;have k4:=F4.kp;have b4:=Vt (ps:=["word"]) F4 rfl fun _ _ _ _ _ _ _=>rfl;have m4:=W.mg_of X G a4;have k5:=F5.kp;have b5:=Gs (ps:=["word","heights"]) F5 rfl fun _ _ _ _ _ _ _ _=>rfl;have m5:=W.mg_of X G a5;have k6:=F6.kp;have b6:=bd3 (ps:=["order","height","other"]) F6 rfl fun _ _ _ _ _ _ _ _ _=>rfl;have m6:=W.mg_of X G a6;have k7:=F7.kp;have b7:=Vt (ps:=["hand"]) F7 rfl fun _ _ _ _ _ _ _=>rfl;have m7:=W.mg_of X G a7;have k8:=F8.kp;have b8:=Vt (ps:=["cards"]) F8 rfl fun _ _ _ _ _ _ _=>rfl;have m8:=W.mg_of X G a8;have k9:=F9.kp;have b9:=Gs (ps:=["hand","suit"]) F9 rfl fun _ _ _ _ _ _ _ _=>rfl;have m9:=W.mg_of X G a9;have k10:=F10.kp;have b10:=Gs (ps:=["hand","trick"]) F10 rfl fun _ _ _ _ _ _ _ _=>rfl;have m10:=W.mg_of X G a10;have k11:=F11.kp;have b11:=bd3 (ps:=["game","hand","trick"]) F11 rfl fun _ _ _ _ _ _ _ _ _=>rfl;have m11:=W.mg_of X G a11;have k12:=F12.kp;have b12:=bd3 (ps:=["game","card","trick"]) F12 rfl fun _ _ _ _ _ _ _ _ _=>rfl;have m12:=W.mg_of X G a12;have k13:=F13.kp;have b13:=Vt (ps:=["hand"]) F13 rfl fun _ _ _ _ _ _ _=>rfl;have m13:=W.mg_of X G a13;have k14:=F14.kp;have b14:=Vt (ps:=["hands"]) F14 rfl fun _ _ _ _ _ _ _=>rfl;have m14:=W.mg_of X G a14;have k15:=F15.kp;have b15:=Vt (ps:=["hands"]) F15 rfl fun _ _ _ _ _ _ _=>rfl;have m15:=W.mg_of X G a15;have k16:=F16.kp;have b16:=Gs (ps:=["game","seat"]) F16 rfl fun _ _ _ _ _ _ _ _=>rfl;have m16:=W.mg_of X G a16;have k17:=F17.kp;have b17:=bd3 (ps:=["game","lead","steps"]) F17 rfl fun _ _ _ _ _ _ _ _ _=>rfl;have m17:=W.mg_of X G a17;have k18:=F18.kp;have b18:=Gs (ps:=["game","place"]) F18 rfl fun _ _ _ _ _ _ _ _=>rfl;have m18:=W.mg_of X G a18;have k19:=F19.kp;have b19:=Gs (ps:=["game","place"]) F19 rfl fun _ _ _ _ _ _ _ _=>rfl;have m19:=W.mg_of X G a19;have k20:=F20.kp;have b20:=Gs (ps:=["game","place"]) F20 rfl fun _ _ _ _ _ _ _ _=>rfl;have m20:=W.mg_of X G a20;have k21:=F21.kp;have b21:=Gs (ps:=["game","place"]) F21 rfl fun _ _ _ _ _ _ _ _=>rfl;have m21:=W.mg_of X G a21;have k22:=F22.kp;have b22:=Vt (ps:=["place"]) F22 rfl fun _ _ _ _ _ _ _=>rfl;have m22:=W.mg_of X G a22;have k23:=F23.kp;have b23:=bd3 (ps:=["game","place","card"]) F23 rfl fun _ _ _ _ _ _ _ _ _=>rfl;have m23:=W.mg_of X G a23;have k24:=F24.kp;have b24:=Gs (ps:=["side","seat"]) F24 rfl fun _ _ _ _ _ _ _ _=>rfl;have m24:=W.mg_of X G a24;have k25:=F25.kp;have b25:=Gs (ps:=["side","taker"]) F25 rfl fun _ _ _ _ _ _ _ _=>rfl;have m25:=W.mg_of X G a25;have k26:=F26.kp;have b26:=Vt (ps:=["place"]) F26 rfl fun _ _ _ _ _ _ _=>rfl;have m26:=W.mg_of X G a26;have k27:=F27.kp;have b27:=bd3 (ps:=Dc) F27 rfl fun _ _ _ _ _ _ _ _ _=>rfl;have m27:=W.mg_of X G a27;have k28:=F28.kp;have b28:=bd4 (ps:=Nn) F28 rfl fun _ _ _ _ _ _ _ _ _ _=>rfl;have m28:=W.mg_of X G a28;have k29:=F29.kp;have b29:=Vt (ps:=["thing"]) F29 rfl fun _ _ _ _ _ _ _=>rfl;have m29:=W.mg_of X G a29;have k30:=F30.kp;have b30:=Vt (ps:=["things"]) F30 rfl fun _ _ _ _ _ _ _=>rfl;have m30:=W.mg_of X G a30;have k31:=F31.kp;have b31:=Vt (ps:=["thing"]) F31 rfl fun _ _ _ _ _ _ _=>rfl;have m31:=W.mg_of X G a31;have k32:=F32.kp;have b32:=Vt (ps:=["thing"]) F32 rfl fun _ _ _ _ _ _ _=>rfl;have m32:=W.mg_of X G a32;have k33:=F33.kp;have b33:=Vt (ps:=["paper"]) F33 rfl fun _ _ _ _ _ _ _=>rfl;have m33:=W.mg_of X G a33;have k34:=F34.kp;have b34:=bd6 (ps:=["game","side","needs","place","card","need"]) F34 rfl fun _ _ _ _ _ _ _ _ _ _ _ _=>rfl;have m34:=W.mg_of X G a34;have k35:=F35.kp;have b35:=bd4 (ps:=["game","side","needs","row"]) F35 rfl fun _ _ _ _ _ _ _ _ _ _=>rfl;have m35:=W.mg_of X G a35;have k36:=F36.kp;have b36:=bd5 (ps:=["game","side","paper","place","need"]) F36 rfl fun _ _ _ _ _ _ _ _ _ _ _=>rfl;have m36:=W.mg_of X G a36;have k37:=F37.kp;have b37:=Gs (ps:=Bi) F37 rfl fun _ _ _ _ _ _ _ _=>rfl;have m37:=W.mg_of X G a37;have k38:=F38.kp;have b38:=Gs (ps:=["_law_cell_here","_law_k"]) F38 rfl fun _ _ _ _ _ _ _ _=>rfl;have m38:=W.mg_of X G a38;have k39:=F39.kp;have b39:=Gs (ps:=["_law_cell_here","_law_heights"]) F39 rfl fun _ _ _ _ _ _ _ _=>rfl;have m39:=W.mg_of X G a39;have k40:=F40.kp;have b40:=Vt (ps:=["_law_script"]) F40 rfl fun _ _ _ _ _ _ _=>rfl;have m40:=W.mg_of X G a40;have k41:=F41.kp;have b41:=Vt (ps:=["_law_facts"]) F41 rfl fun _ _ _ _ _ _ _=>rfl;have m41:=W.mg_of X G a41;have k42:=F42.kp;have b42:=Vt (ps:=["_law_card"]) F42 rfl fun _ _ _ _ _ _ _=>rfl;have m42:=W.mg_of X G a42;have k43:=F43.kp;have b43:=Gs (ps:=["_law_script","_law_game_here"]) F43 rfl fun _ _ _ _ _ _ _ _=>rfl;have m43:=W.mg_of X G a43;have k44:=F44.kp;have b44:=bd3 (ps:=De) F44 rfl fun _ _ _ _ _ _ _ _ _=>rfl;have m44:=W.mg_of X G a44;have k45:=F45.kp;have b45:=Gs (ps:=["_law_script","_law_game_here"]) F45 rfl fun _ _ _ _ _ _ _ _=>rfl;have m45:=W.mg_of X G a45;have k46:=F46.kp;have b46:=Gs (ps:=Tz) F46 rfl fun _ _ _ _ _ _ _ _=>rfl;have m46:=W.mg_of X G a46;have k47:=F47.kp;have b47:=Gs (ps:=["_law_script","_law_seats"]) F47 rfl fun _ _ _ _ _ _ _ _=>rfl;have m47:=W.mg_of X G a47;have k48:=F48.kp;have b48:=Vt (ps:=["_law_script"]) F48 rfl fun _ _ _ _ _ _ _=>rfl;have m48:=W.mg_of X G a48;have k49:=F49.kp;have b49:=Gs (ps:=["_law_side_here","_law_seat"]) F49 rfl fun _ _ _ _ _ _ _ _=>rfl;have m49:=W.mg_of X G a49;have k50:=F50.kp;have b50:=bd3 (ps:=Dd) F50 rfl fun _ _ _ _ _ _ _ _ _=>rfl;have m50:=W.mg_of X G a50;have k51:=F51.kp;have b51:=bd6 (ps:=K7) F51 rfl fun _ _ _ _ _ _ _ _ _ _ _ _=>rfl;have m51:=W.mg_of X G a51;have k52:=F52.kp;have b52:=bd4 (ps:=Vi) F52 rfl fun _ _ _ _ _ _ _ _ _ _=>rfl;have m52:=W.mg_of X G a52;have k53:=F53.kp;have b53:=Vt (ps:=["_law_found"]) F53 rfl fun _ _ _ _ _ _ _=>rfl;have m53:=W.mg_of X G a53;have k54:=F54.kp;have b54:=Vt (ps:=["_law_rows"]) F54 rfl fun _ _ _ _ _ _ _=>rfl;have m54:=W.mg_of X G a54;have k55:=F55.kp;have b55:=bd5 (ps:=K8) F55 rfl fun _ _ _ _ _ _ _ _ _ _ _=>rfl;have m55:=W.mg_of X G a55;have k56:=F56.kp;have b56:=bd5 (ps:=Zio) F56 rfl fun _ _ _ _ _ _ _ _ _ _ _=>rfl;have m56:=W.mg_of X G a56;have k57:=F57.kp;have b57:=bd3 (ps:=pTS) F57 rfl fun _ _ _ _ _ _ _ _ _=>rfl;have m57:=W.mg_of X G a57;have F58:=fun_mk (st:=O9) l58 c58 k58;have m58:=W.mg_of X G a58;have k_F:=F_F.kp;have b_F:=Vt (ps:=["self"]) F_F rfl fun _ _ _ _ _ _ _=>rfl;have m_F:Meth K CF "word" f_F:=⟨a_F,i_F,k_F⟩;have k_L:=F_L.kp;have b_L:=Vt (ps:=["self"]) F_L rfl fun _ _ _ _ _ _ _=>rfl;have m_L:Meth K CL "word" f_L:=⟨a_L,i_L,k_L⟩;have k_C:=F_C.kp;have b_C:=Vt (ps:=["self"]) F_C rfl fun _ _ _ _ _ _ _=>rfl;have m_C:Meth K CC "word" f_C:=⟨a_C,i_C,k_C⟩;have k_B:=F_B.kp;have b_B:=Vt (ps:=["self"]) F_B rfl fun _ _ _ _ _ _ _=>rfl;have m_B:Meth K CB "word" f_B:=⟨a_B,i_B,k_B⟩;have k_AF:=F_AF.kp;have b_AF:=bd4 (ps:=pAl) F_AF rfl fun _ _ _ _ _ _ _ _ _ _=>rfl;have m_AF:Meth K CF "allowed" f_AF:=⟨a_AF,i_AF,k_AF⟩;have k_AL:=F_AL.kp;have b_AL:=bd4 (ps:=pAl) F_AL rfl fun _ _ _ _ _ _ _ _ _ _=>rfl;have m_AL:Meth K CL "allowed" f_AL:=⟨a_AL,i_AL,k_AL⟩;have k_AC:=F_AC.kp;have b_AC:=bd4 (ps:=pAl) F_AC rfl fun _ _ _ _ _ _ _ _ _ _=>rfl;have m_AC:Meth K CC "allowed" f_AC:=⟨a_AC,i_AC,k_AC⟩;have k_AB:=F_AB.kp;have b_AB:=bd4 (ps:=pAl) F_AB rfl fun _ _ _ _ _ _ _ _ _ _=>rfl;have m_AB:Meth K CB "allowed" f_AB:=⟨a_AB,i_AB,k_AB⟩;have k_I:=F_I.kp;have b_I:=Gs (ps:=["self","text"]) F_I rfl fun _ _ _ _ _ _ _ _=>rfl;have m_I:Meth K CT "__init__" f_I:=⟨a_I,i_I,k_I⟩;have k_D:=F_D.kp;have b_D:=Vt (ps:=["self"]) F_D rfl fun _ _ _ _ _ _ _=>rfl;have m_D:Meth K CT "duty" f_D:=⟨a_D,i_D,k_D⟩;have k_O:=F_O.kp;have b_O:=Gs (ps:=["self","is_trump"]) F_O rfl fun _ _ _ _ _ _ _ _=>rfl;have m_O:Meth K CT "order" f_O:=⟨a_O,i_O,k_O⟩;have F_G:=Zmw (st:=U5) l_G c_G k_G;have m_G:Meth K CG "__init__" f_G:=⟨a_G,i_G,k_G⟩;have k_S:=F_S.kp;have b_S:=bd3 (ps:=["self","card","other"]) F_S rfl fun _ _ _ _ _ _ _ _ _=>rfl;have m_S:Meth K CG "is_stronger" f_S:=⟨a_S,i_S,k_S⟩;have k_V:=F_V.kp;have b_V:=bd4 (ps:=Rp) F_V rfl fun _ _ _ _ _ _ _ _ _ _=>rfl;have m_V:Meth K CG "is_over" f_V:=⟨a_V,i_V,k_V⟩;have k_M:=F_M.kp;have b_M:=bd3 (ps:=["self","hand","trick"]) F_M rfl fun _ _ _ _ _ _ _ _ _=>rfl;have m_M:Meth K CG "may" f_M:=⟨a_M,i_M,k_M⟩;have k_W:=F_W.kp;have b_W:=Gs (ps:=["self","trick"]) F_W rfl fun _ _ _ _ _ _ _ _=>rfl;have m_W:Meth K CG "winner" f_W:=⟨a_W,i_W,k_W⟩;have k_P:=F_P.kp;have b_P:=Vt (ps:=["self"]) F_P rfl fun _ _ _ _ _ _ _=>rfl;have m_P:Meth K CG "pack" f_P:=⟨a_P,i_P,k_P⟩;have k_RI:=F_RI.kp;have b_RI:=bd3 (ps:=["self","game","side"]) F_RI rfl fun _ _ _ _ _ _ _ _ _=>rfl;have m_RI:Meth K CR "__init__" f_RI:=⟨a_RI,i_RI,k_RI⟩;have k_RB:=F_RB.kp;have b_RB:=bd3 (ps:=["self","place","card"]) F_RB rfl fun _ _ _ _ _ _ _ _ _=>rfl;have m_RB:Meth K CR "made_by" f_RB:=⟨a_RB,i_RB,k_RB⟩;have k_RP:=F_RP.kp;have b_RP:=Gs (ps:=["self","place"]) F_RP rfl fun _ _ _ _ _ _ _ _=>rfl;have m_RP:Meth K CR "pairs" f_RP:=⟨a_RP,i_RP,k_RP⟩;have k_RA:=F_RA.kp;have b_RA:=Gs (ps:=["self","place"]) F_RA rfl fun _ _ _ _ _ _ _ _=>rfl;have m_RA:Meth K CR "made_at" f_RA:=⟨a_RA,i_RA,k_RA⟩;have k_RC:=F_RC.kp;have b_RC:=bd3 (ps:=["self","place","pairs"]) F_RC rfl fun _ _ _ _ _ _ _ _ _=>rfl;have m_RC:Meth K CR "choice" f_RC:=⟨a_RC,i_RC,k_RC⟩;have k_WI:=F_WI.kp;have b_WI:=bd3 (ps:=["self","game","side"]) F_WI rfl fun _ _ _ _ _ _ _ _ _=>rfl;have m_WI:Meth K CW "__init__" f_WI:=⟨a_WI,i_WI,k_WI⟩;have k_WC:=F_WC.kp;have b_WC:=bd3 (ps:=["self","place","need"]) F_WC rfl fun _ _ _ _ _ _ _ _ _=>rfl;have m_WC:Meth K CW "card_for" f_WC:=⟨a_WC,i_WC,k_WC⟩;have k_WW:=F_WW.kp;have b_WW:=bd3 (ps:=["self","place","need"]) F_WW rfl fun _ _ _ _ _ _ _ _ _=>rfl;have m_WW:Meth K CW "write" f_WW:=⟨a_WW,i_WW,k_WW⟩;have k_WB:=F_WB.kp;have b_WB:=bd4 (ps:=["self","place","card","need"]) F_WB rfl fun _ _ _ _ _ _ _ _ _ _=>rfl;have m_WB:Meth K CW "write_behind" f_WB:=⟨a_WB,i_WB,k_WB⟩;have k_WR:=F_WR.kp;have b_WR:=Vt (ps:=["self"]) F_WR rfl fun _ _ _ _ _ _ _=>rfl;have m_WR:Meth K CW "rows" f_WR:=⟨a_WR,i_WR,k_WR⟩;have k_XI:=F_XI.kp;have b_XI:=Gs (ps:=["self","count"]) F_XI rfl fun _ _ _ _ _ _ _ _=>rfl;have m_XI:Meth K CX "__init__" f_XI:=⟨a_XI,i_XI,k_XI⟩;have mg1:=W.mg_of X G g1;have mg2:=W.mg_of X G g2;have mg3:=W.mg_of X G g3;have mg4:=W.mg_of X G g4;have mg5:=W.mg_of X G g5;have mn_len:=W.mg_none_of X G z1;have mn_range:=W.mg_none_of X G z2;have mn_isinstance:=W.mg_none_of X G z3;have mn_int:=W.mg_none_of X G z4;have mn_str:=W.mg_none_of X G z5;have mn_list:=W.mg_none_of X G z6;have mn_tuple:=W.mg_none_of X G z7;have mn_sorted:=W.mg_none_of X G z8;have mn_sum:=W.mg_none_of X G z9;have mn_all:=W.mg_none_of X G z10;have mn_any:=W.mg_none_of X G z11;have mn_enumerate:=W.mg_none_of X G z12;have mn_max:=W.mg_none_of X G z13;have mn_min:=W.mg_none_of X G z14;have mn_bool:=W.mg_none_of X G z15;have mn_ValueError:=W.mg_none_of X G z16;refine⟨W.fnOf "law" "law" (Uo O9) (Y1 O9) (Zm O9) .none kV58 dc58 pm58 an58 cd58 ct58,fun s v=>.of_eq rfl,fun base _ _=>?_⟩
 let cs:Fin 4→Addr:=p4 CF CL CC CB
 let fw:Fin 4→Addr:=p4 f_F f_L f_C f_B
 let fl:Fin 4→Addr:=p4 f_AF f_AL f_AC f_AB
 have mN:=W.mg_of X G hCN;have D:DutyC K mg cs CN:=⟨W.mg_of X G hCF,W.mg_of X G hCL,W.mg_of X G hCC,W.mg_of X G hCB,fun i=>match i with | 0=>⟨mkCF,oiCF,kcCF⟩ | 1=>⟨mkCL,oiCL,kcCL⟩ | 2=>⟨mkCC,oiCC,kcCC⟩ | 3=>⟨mkCB,oiCB,kcCB⟩,mN,x1⟩;have Wq:∀ k,∃ fdw,Zkp l.prog w K mg base (k+1) cs fw fdw:=fun k=>⟨p4 _ _ _ _,fun i=>match i with | 0=>⟨pgCF,hdCF,poCF,saCF⟩ | 1=>⟨pgCL,hdCL,poCL,saCL⟩ | 2=>⟨pgCC,hdCC,poCC,saCC⟩ | 3=>⟨pgCB,hdCB,poCB,saCB⟩,fun i=>match i with | 0=>m_F | 1=>m_L | 2=>m_C | 3=>m_B,fun i=>match i with | 0=>Sf F_F | 1=>Mz F_L | 2=>Zbz F_C | 3=>Sh F_B,fun i=>match i with | 0=>b_F | 1=>b_L | 2=>b_C | 3=>b_B⟩;obtain⟨_,W14⟩:=Wq 13;obtain⟨_,W15⟩:=Wq 14;obtain⟨_,W16⟩:=Wq 15;have C:TabC K mg CT:=⟨⟨pgCT,hdCT,poCT,saCT⟩,W.mg_of X G hCT,nTS,nTH,nTN,nTD,nTP,nTT,nTW⟩;have CGm:GamC K mg CG:=⟨⟨pgCG,hdCG,poCG,saCG⟩,W.mg_of X G hCG,nGT,nGU⟩;have hM:∀ H,SqT K H aM (vS Vl):=fun H=>.inr ⟨_,_,_,w2,rfl,rfl,Yf 5 (by decide),.cons ⟨_,rfl⟩ (.cons ⟨_,rfl⟩ (.cons ⟨_,rfl⟩ (.cons ⟨_,rfl⟩ (.cons ⟨_,rfl⟩ .nil))))⟩;have FI:=Zo1 (k:=16) F_I C ⟨Zi8 (k:=15) F2 (W.mg_of X G w1) hM mN x1 mn_isinstance mn_str mn_len mn_tuple,b2,k2,m2⟩ ⟨Zly F3 mg3 mg2 mN x1 mn_len,b3,k3,m3⟩ ⟨Ziz F4 mN x1 mn_int,b4,k4,m4⟩ ⟨Zo2 F5 mg3 mN x1 mn_sorted mn_list mn_tuple,b5,k5,m5⟩ ⟨Dh (k:=15) F1 D W15,b1,k1,m1⟩ W16;have BG0:Binds K _ ["self","table","trump"] []:=fun s us hX hl=>match us,hl with | [_,_,_],_=>by first | exact .of_eq rfl | exact W.binds_K (fd:=W.fnOf "__init__" "Game.__init__" (Uo U5) (Y1 U5) (Zm U5) (.ref dT) kV_G dc_G pm_G an_G cd_G ct_G) hX rfl w3 rfl rfl rfl
 have BG1:Binds K _ ["self","table","trump"] [.none]:=fun s us hX hl=>match us,(show us.length=2 from Nat.succ.inj ((Jc (as:=us) (bs:=[Value.none])).symm.trans hl)) with | [_,_],_=>by exact W.binds_K (fd:=W.fnOf "__init__" "Game.__init__" (Uo U5) (Y1 U5) (Zm U5) (.ref dT) kV_G dc_G pm_G an_G cd_G ct_G) hX rfl w3 rfl rfl rfl
 have LO:∀ k,Lib l.prog w K mg base (k+1) "of_suit" ["hand","suit"] (B5 K) f9 _:=fun k=>⟨Zfe F9 mg4 mg1,b9,k9,m9⟩;have LL:∀ k,Lib l.prog w K mg base (k+2) "of_led_suit" ["hand","trick"] (Zcz K) f10 _:=fun k=>⟨Zo5 (k:=k+1) F10 (LO k) mg1,b10,k10,m10⟩;have LF:∀ k,Lib l.prog w K mg base (k+3) "followed_or_cut" ["game","hand","trick"] (Zc4 K CG) f11 _:=fun k=>⟨Zo8 (k:=k+2) F11 CGm (LL k) (LO (k+1)),b11,k11,m11⟩;have FS:∀ k,FnOk l.prog w K mg base Yq (k+2) f_S _ ["self","card","other"] (Bl CT CG):=fun k=>Sd (k:=k+1) F_S C CGm ⟨Zjb (k:=k) F6,b6,k6,m6⟩ m_O (Zfa (k:=k) F_O C mn_list) b_O mg1;have FV:∀ k,FnOk l.prog w K mg base Yq (k+3) f_V _ Rp (Oj CT CG):=fun k=>Zl4 (k:=k+2) F_V CGm m_S (FS k) b_S mg1;have LGA:∀ k,Lib l.prog w K mg base (k+4) "goes_over_all" ["game","card","trick"] (Za0 K CT CG) f12 _:=fun k=>⟨Zmb (k:=k+3) F12 CGm m_V (FV k) b_V mg1 mn_all,b12,k12,m12⟩;have LH:∀ k,Lib l.prog w K mg base (k+1) "hand_of" ["cards"] (B7 K) f8 _:=fun k=>⟨Zfj F8,b8,k8,m8⟩;have LI:∀ k,Lib l.prog w K mg base (k+1) "cards_in" ["hand"] (N4 K) f7 _:=fun k=>⟨Zb0 F7,b7,k7,m7⟩;have MA:∃ d4,∀ k,AlF l.prog w K mg base CT CG (k+5) cs fl d4:=⟨p4 _ _ _ _,fun k=>⟨fun i=>match i with | 0=>⟨pgCF,hdCF,poCF,saCF⟩ | 1=>⟨pgCL,hdCL,poCL,saCL⟩ | 2=>⟨pgCC,hdCC,poCC,saCC⟩ | 3=>⟨pgCB,hdCB,poCB,saCB⟩,fun i=>match i with | 0=>m_AF | 1=>m_AL | 2=>m_AC | 3=>m_AB,fun i=>match i with | 0=>Zfk F_AF | 1=>Sg (k:=k+4) F_AL (LL (k+2)) | 2=>Zjg (k:=k+4) F_AC (LF (k+1)) | 3=>Zfo (k:=k+4) F_AB (LF (k+1)) (LH (k+3)) (LI (k+3)) (LGA k),fun i=>match i with | 0=>b_AF | 1=>b_AL | 2=>b_AC | 3=>b_AB⟩⟩;obtain⟨_,MA⟩:=MA;have LRd:∀ k,Lib l.prog w K mg base (k+1) "seat_round" ["game","lead","steps"] (B4 CT CG) f17 _:=fun k=>⟨Zi0 F17 C CGm,b17,k17,m17⟩;have LMn:∀ k,Lib l.prog w K mg base (k+1) "many" ["hand"] (G7 K) f13 _:=fun k=>⟨Zl5 F13,b13,k13,m13⟩;have LLf:∀ k,Lib l.prog w K mg base (k+2) "left" ["place"] (G8 K) f22 _:=fun k=>⟨Zl8 (k:=k+1) F22 (LMn k) mn_max,b22,k22,m22⟩;have LTa:∀ k,Lib l.prog w K mg base (k+3) "turn_at" ["game","place"] (Qm CT CG) f20 _:=fun k=>⟨Ze9 (k:=k+2) F20 (LLf k) (LRd (k+1)) mn_len,b20,k20,m20⟩;have FM:FnOk l.prog w K mg base Yq 16 f_M _ ["self","hand","trick"] (Zhb K CT CG):=Zo3 (k:=15) F_M C CGm ⟨Dh (k:=14) F1 D W14,b1,k1,m1⟩ m_D (Sc (k:=14) F_D C) b_D (MA 10) mn_len;have LMo:Lib l.prog w K mg base 17 "moves" ["game","place"] (Qx CT CG) f21 _:=⟨Zi6 (k:=16) F21 CGm (LTa 13) (LI 15) m_M FM b_M,b21,k21,m21⟩;have FW:∀ k,FnOk l.prog w K mg base Yq (k+4) f_W _ ["self","trick"] (Gz K CT CG):=fun k=>Ze8 (k:=k+3) F_W CGm m_V (FV k) b_V mg1 mn_enumerate;have LBe:∀ k,Lib l.prog w K mg base (k+5) "behind" ["game","place","card"] (X5 K CT CG) f23 _:=fun k=>⟨Zfn (k:=k+4) F23 C CGm (LRd (k+3)) m_W (FW k) b_W mn_len mn_list mn_tuple,b23,k23,m23⟩;have LWi:∀ k,Lib l.prog w K mg base (k+2) "hands_with_trick" ["game","place"] (Zat CT CG) f18 _:=fun k=>⟨Zlw (k:=k+1) F18 (LRd k) mn_list mn_enumerate,b18,k18,m18⟩;have LIp:∀ k,Lib l.prog w K mg base (k+3) "is_place" ["game","place"] (V1 CT CG) f19 _:=fun k=>⟨Zbw (k:=k+2) F19 C CGm ⟨Zl1 F16 C CGm,b16,k16,m16⟩ ⟨Zji F14,b14,k14,m14⟩ ⟨Zja (k:=k+1) F15 (LMn k) mn_all,b15,k15,m15⟩ (LWi k) m_P (Zjd (k:=k+1) F_P C CGm (LH k) mg1 mn_range) b_P mn_len mn_list mn_any,b19,k19,m19⟩;have LHs:∀ k,Lib l.prog w K mg base (k+1) "has_seat" ["side","seat"] Qc f24 _:=fun k=>⟨Zbx F24,b24,k24,m24⟩;have LGn:∀ k,Lib l.prog w K mg base (k+2) "gain" ["side","taker"] Bm f25 _:=fun k=>⟨Zmd (k:=k+1) F25 (LHs k),b25,k25,m25⟩;have LIw:∀ k,Lib l.prog w K mg base (k+1) "is_whole" ["thing"] (Ek K) f29 _:=fun k=>⟨Zbu F29 mn_isinstance mn_int mn_bool,b29,k29,m29⟩;have LFz:∀ k,Lib l.prog w K mg base (k+2) "are_from_zero_on" ["things"] Bn f30 _:=fun k=>⟨Se (k:=k+1) F30 (LIw k) mn_isinstance mn_tuple mn_all,b30,k30,m30⟩;have LFp:∀ k,Lib l.prog w K mg base (k+3) "is_formed_place" ["thing"] V2 f31 _:=fun k=>⟨Zby (k:=k+2) F31 (LIw (k+1)) (LFz k) mn_isinstance mn_tuple mn_len,b31,k31,m31⟩;have LFr:∀ k,Lib l.prog w K mg base (k+4) "is_formed_row" ["thing"] Ge f32 _:=fun k=>⟨Zjf (k:=k+3) F32 (LIw (k+2)) (LFp k) mn_isinstance mn_tuple mn_len,b32,k32,m32⟩;have LNd:∀ k,Lib l.prog w K mg base (k+5) "greatest_needs" ["paper"] (Om l.prog w) f33 _:=fun k=>⟨Zi5 (k:=k+4) F33 (LFr k) mn_max,b33,k33,m33⟩;have LCv:∀ k,Lib l.prog w K mg base (k+6) "covers" ["game","side","needs","place","card","need"] (Ta l.prog w CT CG) f34 _:=fun k=>⟨Zfl (k:=k+5) F34 (LBe k) (LGn (k+3)),b34,k34,m34⟩;have LIB:∀ k,Lib l.prog w K mg base (k+3) "is_place" ["game","place"] (Gd CT CG OkP) f19 _:=fun k=>⟨Zpp (LIp k).ok,b19,k19,m19⟩;have LIr:Lib l.prog w K mg base 19 "is_right" ["game","side","needs","row"] (V0 l.prog w CT CG OkP) f35 _:=⟨Zbv (k:=18) (fun fx hs lead ys h=>h.2) F35 (LFr 14) (LIB 15) (LLf 16) (LMo.mono (by decide)) (LHs 17) (LTa 15) (LCv 12) mn_all,b35,k35,m35⟩;have LHo:Lib l.prog w K mg base 20 "holds" ["game","side","paper","place","need"] (Op l.prog w CT CG OkP) f36 _:=⟨Zjc (k:=19) F36 (LNd 14) LIr,b36,k36,m36⟩;have LCe:∀ k,Lib l.prog w K mg base (k+1) "_law_cell" Bi (Ni K) f37 _:=fun k=>⟨Zme F37 mn_len,b37,k37,m37⟩;have LX:∀ k,Lib l.prog w K mg base (k+1) "_law_mixed" ["_law_cell_here","_law_k"] Gc f38 _:=fun k=>⟨Zi7 F38,b38,k38,m38⟩;have LOr:∀ k,Lib l.prog w K mg base (k+1) "_law_order" ["_law_cell_here","_law_heights"] (Ol K) f39 _:=fun k=>⟨Zi4 F39 mn_range,b39,k39,m39⟩;have LTb:∀ k,Lib l.prog w K mg base (k+2) "_law_table" ["_law_script"] (Of K) f40 _:=fun k=>⟨Ziy (k:=k+1) F40 (LCe k) (LX k) (LOr k),b40,k40,m40⟩;have LTx:∀ k,Lib l.prog w K mg base (k+1) "_law_text" ["_law_facts"] (Zau K) f41 _:=fun k=>⟨Zlx F41 mn_str,b41,k41,m41⟩;have LBt:∀ k,Lib l.prog w K mg base (k+1) "_law_bit" ["_law_card"] Kp f42 _:=fun k=>⟨Zo9 F42 mn_range,b42,k42,m42⟩;have LSh:∀ k,Lib l.prog w K mg base (k+2) "_law_shuffled" ["_law_script","_law_game_here"] (Zaw K CT CG) f43 _:=fun k=>⟨Zl0 (k:=k+1) F43 C CGm (LCe k) (LX k) mn_range mn_sorted,b43,k43,m43⟩;have LSd:∀ k,Lib l.prog w K mg base (k+2) "_law_side" ["_law_script","_law_seats"] (Zav K) f47 _:=fun k=>⟨Zlz (k:=k+1) F47 (LCe k) (LBt k),b47,k47,m47⟩;have CRk:RkC K mg CR:=⟨⟨pgCR,hdCR,poCR,saCR⟩,W.mg_of X G hCR,nR1,nR2,nR3⟩;have CWr:WrC K mg CW:=⟨⟨pgCW,hdCW,poCW,saCW⟩,W.mg_of X G hCW,nW1,nW2,nW3,nW4⟩;have FC:∀ S,FnOk l.prog w K mg base Yq 18 f_RC _ ["self","place","pairs"] (B8 l.prog w CT CG CR S):=fun S=>Zfm (k:=17) F_RC CRk (LHs 16) (LTa 14) mn_len mn_max mn_min;have RM:∀ S,SCl S→RkM l.prog w K mg base 57 12 S CT CG CR f_RA f_RP _ _:=fun S hS=>Zl3 hS (j0:=18) F_RA F_RB F_RP CRk m_RA m_RB m_RP m_RC b_RA b_RB b_RP b_RC (FC S) (LBe 13) (LGn 16) (LMo.mono (by decide)) (by decide) 12;have FCf:∀ S,SCl S→FnOk l.prog w K mg base Yq 58 f_WC _ ["self","place","need"] (N5 l.prog w CT CG CR CW S 12):=fun S hS=>Zb1 (k:=57) F_WC CRk CWr m_RP (RM S hS).pr b_RP;have FWw:∀ S,SCl S→FnOk l.prog w K mg base Yq 84 f_WW _ ["self","place","need"] (Ez l.prog w CT CG CR CW S 13):=fun S hS=>Zbs hS (j0:=58) F_WW F_WB CWr m_WW m_WB m_WC b_WW b_WB b_WC (FCf S hS) (LHs 57) (LTa 55) (LMo.mono (by decide)) (LBe 53) (LGn 56) (by decide) 13;have LRf:Lib l.prog w K mg base 84 "refuse_too_many" ["place"] Nh f26 _:=⟨Zfc (k:=83) F26 (LMn 82) mg5 mn_sum,b26,k26,m26⟩;have LPa:Lib l.prog w K mg base 85 "paper" Nn (Oi CT CG) f28 _:=⟨Zi2 (k:=83) F28 CRk CWr LRf ⟨mkCW,a_WI,i_WI,kcCW⟩ (Dg (k:=81) F_WI CRk CWr ⟨mkCR,a_RI,i_RI,kcCR⟩ (Re (k:=80) F_RI CRk) b_RI) b_WI m_RA (fun S hS=>(RM S hS).at_.mono (by decide)) b_RA m_WW FWw b_WW m_WR (Zl2 (k:=83) F_WR CWr) b_WR,b28,k28,m28⟩;have LCo:Lib l.prog w K mg base 85 "count" Dc (Os CT CG) f27 _:=⟨Zjh (k:=83) F27 CRk LRf ⟨mkCR,a_RI,i_RI,kcCR⟩ (Re (k:=82) F_RI CRk) b_RI m_RA (fun S hS=>(RM S hS).at_.mono (by decide)) b_RA,b27,k27,m27⟩;have LSz:Lib l.prog w K mg base 18 "_law_size" ["_law_script","_law_game_here"] (On K CT CG) f45 _:=⟨Zi9 (k:=17) F45 C CGm (LCe 16) m_D (Sc (k:=16) F_D C) b_D mn_min,b45,k45,m45⟩;have LPl:Lib l.prog w K mg base 19 "_law_place" Tz (Oh K CT CG) f46 _:=⟨Zi1 (k:=18) F46 C CGm LSz (LSh 16) (LBt 17) (LCe 17) (LMo.mono (by decide)) (LBe 13) mn_range mn_tuple mn_sum mn_len,b46,k46,m46⟩;have LG1:Lib l.prog w K mg base 18 "_law_game" De (Za1 CT CG) f44 _:=⟨Zmc (k:=16) F44 CGm ⟨mkCG,a_G,i_G,kcCG⟩ (Zo7 (k:=15) F_G CGm) BG0 BG1,b44,k44,m44⟩;have LGs:Lib l.prog w K mg base 19 "_law_games" ["_law_script"] (Oq K CT CG) f48 _:=⟨Zje (k:=17) F48 C (LTb 16) (LCe 17) (LTx 17) LG1 ⟨mkCT,a_I,i_I,kcCT⟩ (FI.mono (by decide)) b_I,b48,k48,m48⟩;have LIn:∀ k,Lib l.prog w K mg base (k+2) "_law_in" ["_law_side_here","_law_seat"] Zc2 f49 _:=fun k=>⟨Zo4 (k:=k+1) F49 (LBt k),b49,k49,m49⟩;have LHs':∀ k,Lib l.prog w K mg base (k+1) "_law_has" Dd Oo f50 _:=fun k=>⟨Zl7 F50,b50,k50,m50⟩;have LCv':∀ k,Lib l.prog w K mg base (k+6) "_law_covers" K7 (Zay CT CG) f51 _:=fun k=>⟨Zl9 (k:=k+5) F51 (LBe k) (LIn (k+3)) (LHs' (k+4)),b51,k51,m51⟩;have LRt:Lib l.prog w K mg base 19 "_law_right" Vi (G9 CT CG OkP) f52 _:=⟨Zfi (k:=18) (fun fx hs lead ys h=>h.2) F52 (LIB 15) (LLf 16) (LMo.mono (by decide)) (LIn 16) (LTa 15) (LCv' 12),b52,k52,m52⟩
 let ec:_root_.Fin 4→Addr:=fun i=>match i with | 0=>e0 | 1=>e1 | 2=>e2 | 3=>e3
 have XCX:XC K mg CX f_XI:=⟨W.mg_of X G hCX,tv1,i_XI,⟨tv2,(by unfold Znj;rw[ty1];exact tv3),tv4⟩,tv5⟩;have CXc:ClsX K mg CE CX ec:=⟨⟨by rw[ty1];rfl,ty2,ty3,ty4,ty5,ty6,ty7,ty8⟩,W.mg_of X G hCE,tu1,W.mg_of X G he0,W.mg_of X G he1,W.mg_of X G he2,W.mg_of X G he3,tjM,tjV,fun i=>match i with | 0=>tk0 | 1=>tk1 | 2=>tk2 | 3=>tk3⟩;have LPM:LibX l.prog w K mg base 85 "paper" Nn (G6 CT CG CX) f28 _:=⟨Zfd (k:=83) F28 CRk CWr XCX (Zrh (k:=82) F_XI XCX) b_XI LRf ⟨mkCW,a_WI,i_WI,kcCW⟩ (Dg (k:=81) F_WI CRk CWr ⟨mkCR,a_RI,i_RI,kcCR⟩ (Re (k:=80) F_RI CRk) b_RI) b_WI m_RA (fun S hS=>(RM S hS).at_.mono (by decide)) b_RA,b28,k28,m28⟩;have LWh:∀ k,Lib l.prog w K mg base (k+1) "_law_whole" ["_law_found"] (B6 K) f53 _:=fun k=>⟨Zfh F53 mn_isinstance mn_int mn_bool,b53,k53,m53⟩;have LShp:Lib l.prog w K mg base 20 "_law_shaped" ["_law_rows"] G0 f54 _:=⟨Zfb (k:=19) F54 (LWh 18) mn_isinstance mn_list mn_tuple mn_len,b54,k54,m54⟩;have LGd:Lib l.prog w K mg base 20 "_law_good" K8 (Zaz CT CG) f55 _:=⟨Zma (k:=19) F55 LRt (LHs' 18) mn_len,b55,k55,m55⟩;have LRe:Lib l.prog w K mg base 86 "_law_refused" Zio (Zax CT CG) f56 _:=⟨Zl6 (k:=85) F56 CXc XCX LPM (LWh 84) mn_isinstance mn_ValueError,b56,k56,m56⟩;have LTS:Lib l.prog w K mg base 87 "_law_told_so" pTS (Zn1 CT CG) f57 _:=⟨Zrg (k:=86) F57 (LCo.mono (by decide)) (LPa.mono (by decide)) (LShp.mono (by decide)) (LGd.mono (by decide)) (LHo.mono (by decide)) LRe mn_list,b57,k57,m57⟩;exact Zo6 (k:=87) F58 C CGm (LGs.mono (by decide)) (LPl.mono (by decide)) (LSd 85) LTS
theorem walk{l:W.OpenLaw}{q:Program}{loose:List Str}{XP:(Str→Option Value)→Heap→Prop}{YP:World→Heap→Prop}{d:DefRec}{K:Params→W.Frag}(hn:l.most=some 63)(hdf:d.params.defaults=[])
  (hY:∀(w:World) (h:Heap),YP w h→(K w.params).In h)
  (F:∀(w:World) (mg:Str→Option Value) (fa:Addr) (h:Heap),(K w.params).In h→h.Ns mainGlobals mg→mg d.name=some (.ref fa) →
   ∃ fd:FuncData,(∀(s:Shared) (u:Value),BindsTo s fd ⟨[u],[]⟩ [("_law_script",u)])∧∀ base:Heap,(K w.params).In base→base.Ns mainGlobals mg→FnOk l.prog w (K w.params) mg base Yq 88 fa fd ["_law_script"] (Zc0 (K w.params))) :
  W.WalkO q loose XP YP l.row.toRowW d [] (fun f vs=>PySem.call f vs):=
 L2.walk_of (n:=63) (k:=88) (x:="_law_script") (CX:=fun _=>Yq) (sp:=fun w=>Zc0 (K w.params)) hn (by decide) hdf ⟨rfl,by decide,by decide⟩ hY F (fun _ _ a ns hl _ hS=>⟨a,ns,rfl,hS,hl,fun _=>rfl⟩) fun _ _ _ _ _ z=>z
end My
namespace PySem.W.Fast
def tw15837632257501839237:=0
def tw4588874652863029144:=0
def tw10598024284644085011:=0
def tw3858496139373818949:=0
def tw1095715547519708863:=0
def tw7111300256974246894:=0
def tw18384765369141261581:=0
def tw10080019870031388507:=0
def tw13189514450774340470:=0
def tw6057835122813780677:=0
def tw959528847769323157:=0
def tw11904591727395031882:=0
def tw14157298790916545021:=0
def tw10091770667905694593:=0
def tw11661771084595052202:=0
def tw11603188651167335371:=0
def tw4211933809790695990:=0
def tw17576870286180680238:=0
def tw1691691605531503652:=0
def tw12889722626060976965:=0
def tw3433070115728399451:=0
def tw4108418714630212818:=0
def tw1317004114247627746:=0
def tw12162321460026934464:=0
def tw1505301840169792425:=0
def tw12991168271783803346:=0
def tw5468404651522868345:=0
def tw16887136456624637072:=0
def tw392127563628052157:=0
def tw7037183846188940288:=0
def tw18434591846974449647:=0
def tw196529884497560264:=0
def tw2509047710803870526:=0
def tw18246098806614981982:=0
def tw5128957377583910574:=0
def tw12938431324548733827:=0
def tw7050533942209524331:=0
def tw16696252825315738842:=0
def tw12412414694067237384:=0
def tw7905056133794977491:=0
def tw12900045289795211000:=0
def tw7515506195412317736:=0
def tw4212803392346197596:=0
def tw313389801133095839:=0
def tw2337831132204500971:=0
def tw15426028638219575061:=0
def tw336739569002487131:=0
def tw3225108316609588266:=0
def tw17671537210805636955:=0
def tw17119886858629904042:=0
def tw16607475940726458451:=0
def tw3653018024136071532:=0
def tw13955951867112743207:=0
def tw7802675594796539065:=0
def tw12996492982287801878:=0
def tw16492398041784020907:=0
def tw13474981544696415276:=0
def tw6803880852672179528:=0
def tw3961295553147004937:=0
def tw18358425312794611962:=0
def tw16832115929892782510:=0
def tw6317125287732653991:=0
def tw623273660664294304:=0
def tw12024728896659877871:=0
def tw15243825557035116060:=0
def tw7618480254769051201:=0
def tw14260612876686106582:=0
def tw13929417830479514203:=0
def tw302752295772876820:=0
def tw1946325807501781758:=0
def tw1725206622682795061:=0
def tw14619818762710403893:=0
def tw6435011955460388979:=0
def tw17986118646228314725:=0
def tw10220915834986584818:=0
def tw9182259889298498768:=0
def tw16926770824565020209:=0
def tw15640729795648535681:=0
def tw17895696899986988575:=0
def tw10444908171098505314:=0
def tw929611421080016242:=0
def tw6218039573145408766:=0
def tw4630938587606141174:=0
def tw16559496672985663865:=0
def tw3907614328804590534:=0
def tw3012554966961525223:=0
def tw15457301688676569367:=0
def tw14494106750305464439:=0
def tw9475696286263123610:=0
def tw18199634659296086724:=0
def tw13922764499863898322:=0
def tw10663093858909739653:=0
def tw12142091335295251616:=0
def tw744774417760176792:=0
def tw10613710229195586232:=0
def tw6147740548371820842:=0
def tw115914671255354120:=0
def tw1866389862491646225:=0
def tw166547323136374351:=0
def tw7469577853921696051:=0
def tw16817152221762838903:=0
def tw14325650654793738001:=0
def tw10988490346594074502:=0
def tw210844062172965948:=0
def tw13767690334878831837:=0
def tw15433315047985182684:=0
def tw14809599333197274011:=0
def tw7910802657143463909:=0
def tw5819806998811076684:=0
def tw830159570965627992:=0
def tw7715365875695658517:=0
def tw7941670021741846780:=0
def tw4228585873565684163:=0
def tw4356420074910597273:=0
def tw15867041197521876940:=0
def tw16182683118795787331:=0
def tw14736131335542067567:=0
def tw1195372674101629082:=0
def tw12889946111353137554:=0
def tw15996703875130614604:=0
def tw2646100160049382150:=0
def tw10880276920410975811:=0
def tw14805264989272947043:=0
def tw8546758770643908855:=0
def tw2873273287347663969:=0
def tw2096263954419441112:=0
def tw14682547129950567319:=0
def tw785950244652179573:=0
def tw3106325597024227855:=0
def tw7940052887697861842:=0
def tw3938866730403007308:=0
def tw8991467768071108858:=0
def tw12617655828638774795:=0
def tw11381219547667325112:=0
def tw5917447420044517572:=0
def tw15213149010998068586:=0
def tw14617205071920237707:=0
def tw11135426342289010537:=0
def tw14354249399078603021:=0
def tw17838915117297434149:=0
def tw4972477145752047193:=0
def tw536105384608401567:=0
def tw3448057390281735666:=0
def tw6090692787861669791:=0
def tw13866274596655348481:=0
def tw11715717518300015483:=0
def tw2778029124314931863:=0
def tw11018422513301429683:=0
def tw11943873214035921427:=0
def tw3017716720699501615:=0
def tw13102572665810316906:=0
def tw16753047900299216878:=0
def tw3388565046377437123:=0
def tw15439116501772740949:=0
def tw15852770391874156244:=0
def tw4122610477789799760:=0
def tw9821684021903097953:=0
def tw10852504019327292631:=0
def tw9220548602634417607:=0
def tw13438539340121143016:=0
def tw1676986869784139446:=0
def tw10577265407859865752:=0
def tw14375778955581545552:=0
def tw13008272830245247731:=0
def tw14715120917133337291:=0
def tw7884163104918720129:=0
def tw16293806095194693494:=0
def tw12451415612848637006:=0
def tw14875138831897102022:=0
def tw2632862934562874589:=0
def tw17770104094841188292:=0
def tw16007513763635142682:=0
def tw4211183584436656749:=0
def tw16352588266127990382:=0
def tw5923958502013630377:=0
def tw428169857111050898:=0
def tw14262840414723708633:=0
def tw5852653901586264396:=0
def tw14280080336128952773:=0
def tw5814626346286916335:=0
def tw149481512691290428:=0
def tw12803878381251259856:=0
def tw2403390887225297617:=0
def tw16277026918292354060:=0
def tw6253535832295703941:=0
def tw1657021674118462728:=0
def tw16946299207111567555:=0
def tw15169295786084496197:=0
def tw7040419896553427872:=0
def tw9178899078719910545:=0
def tw1417289816571859180:=0
def tw1088991260807574780:=0
def tw14248499034484970119:=0
def tw5244846545769624626:=0
def tw824222009192386401:=0
def tw15565796844883820464:=0
def tw7826036974059681638:=0
def tw5387711902150110938:=0
def tw5191289442539750752:=0
def tw7035424031406249237:=0
def tw14431723770431271281:=0
def tw8541983094294631300:=0
def tw11114288333098013621:=0
def tw1752140159960580947:=0
def tw1901350540802568138:=0
def tw1480375029941198105:=0
def tw13752369462119997854:=0
def tw8881628794153190770:=0
def tw16957013434770612979:=0
def tw18168260377221756871:=0
def tw7462291820621604130:=0
def tw6612090644412142367:=0
def tw11488797403604714766:=0
def tw14450937423653093031:=0
def tw9221388241510591121:=0
def tw13414921778661643617:=0
def tw7957043812053412139:=0
def tw7217079281407688134:=0
def tw16021271217647072921:=0
def tw13713409639591355213:=0
def tw2244146536128871150:=0
def tw14404853640582698481:=0
def tw2295396186532975180:=0
def tw6555453421616005980:=0
def tw2808972686251343506:=0
def tw9381148282435941908:=0
def tw9034173618236504394:=0
def tw14896468244663548067:=0
def tw9755819917737787043:=0
def tw17178794294138766500:=0
def tw2182120645189903356:=0
def tw18441988140546391691:=0
def tw7191865794825682342:=0
def tw11525234271522773720:=0
def tw3687949675257371558:=0
def tw18001764145683911996:=0
def tw17944162172231720980:=0
def tw2722090399471004528:=0
def tw5245057217227442674:=0
def tw18351570082084827438:=0
def tw11767696053177734685:=0
def tw15764369320277993746:=0
def tw9304164494868147602:=0
def tw12321390164762515451:=0
def tw6224095370171278272:=0
def tw4997393011538657473:=0
def tw4818482280685218471:=0
def tw1301036075602494197:=0
def tw9084672641920684812:=0
def tw3546187442380051279:=0
def tw10950136703699086538:=0
def tw7764936090684523917:=0
def tw6169391402421636670:=0
def tw5682373375758220516:=0
def tw13570807431588813802:=0
def tw3895765490133861268:=0
def tw1785297809318418729:=0
def tw430208660106575635:=0
def tw8736570624113835525:=0
def tw9865181127569483694:=0
def tw1940375791861282194:=0
def tw13445840426436965221:=0
def tw6152353127821910637:=0
def tw14288548089868760574:=0
def tw4059335928354003746:=0
def tw3469573333042055705:=0
def tw9579570802593352526:=0
def tw8614430641805473186:=0
def tw9310608702384390820:=0
def tw2017853266918898733:=0
def tw11628606058828470802:=0
def tw2222522345652649712:=0
def tw7244414681552115724:=0
def tw18374323777077259879:=0
def tw6859946524345002923:=0
def tw13043340134310265866:=0
def tw9040791283317569154:=0
def tw17634845019022162112:=0
def tw14882553212447230199:=0
def tw4340095640121927989:=0
def tw15472248155887004900:=0
def tw5914541871478866582:=0
def tw10929628395598076298:=0
def tw6453673000952709447:=0
def tw15887399713720294090:=0
def tw2405806796868170977:=0
def tw12943123700696734528:=0
def tw17972159908080549727:=0
def tw8691705222796438831:=0
def tw13783555400183070754:=0
def tw14415570577832588018:=0
def tw1329080467434187795:=0
def tw9766201669869287753:=0
def tw13244106815715726151:=0
def tw18227229591378819196:=0
def tw1045904372049483081:=0
def tw14842129781731436953:=0
def tw1094055113069987364:=0
def tw11149029942359410870:=0
def tw18154762993517588807:=0
def tw17294711115892498502:=0
def tw11103986176564385844:=0
def tw9120653215434753116:=0
def tw852051474942320334:=0
def tw13697655416809756976:=0
def tw6427693404310585616:=0
def tw2030366184282655175:=0
def tw2022451735336105608:=0
def tw14162074885545574518:=0
def tw289767674929074511:=0
def tw762974706840394376:=0
def tw7543877348610606407:=0
def tw12151027478168310589:=0
def tw17161096059841093049:=0
def tw17021290746770204075:=0
def tw1998380153569554003:=0
def tw4243382322990727468:=0
def tw4865503406142441355:=0
def tw6690028491900367088:=0
def tw12792180828762318394:=0
def tw7992250862859458854:=0
def tw2327694648147466023:=0
def tw11743850157419137350:=0
def tw11588799435172979053:=0
def tw17265550098652915430:=0
def tw12749579638115227151:=0
def tw16723045202850331829:=0
def tw5586610312040819499:=0
def tw6523095754113216188:=0
def tw12302539914036256079:=0
def tw18303863216493399974:=0
def tw8507436732969733876:=0
def tw13356913825811633016:=0
def tw12098117789367489791:=0
def tw3262852377023316846:=0
def tw13188635718335838108:=0
def tw1487140358098974698:=0
def tw16692680588779467277:=0
def tw8587500446646768690:=0
def tw2935845352657544080:=0
def tw5722274770532912804:=0
def tw14120548610954509004:=0
def tw5771484004460056098:=0
def tw14509762157202435808:=0
def tw15477858896662661364:=0
def tw5053896011631662721:=0
def tw8746882981544482741:=0
def tw8318498955195262600:=0
def tw15341899723607746706:=0
def tw1919754283046844110:=0
def tw5500090207512610546:=0
def tw11024827992679547417:=0
def tw8476263654695955302:=0
def tw17999678955395236741:=0
def tw15907578941696112195:=0
def tw15333147177427128620:=0
def tw15861571047959360720:=0
def tw3454409828470399122:=0
def tw4708335086434544700:=0
def tw16550698743283418829:=0
def tw3530062865635704847:=0
def tw265033146279673987:=0
def tw15172441825050604589:=0
def tw5470044607492969023:=0
def tw16236552491318350976:=0
def tw15523475015632609287:=0
def tw13970629364801719757:=0
def tw10501012574796034576:=0
def tw5749442039323231677:=0
def tw330229085933900922:=0
def tw5744654546366290891:=0
def tw14838909845685715831:=0
def tw16768902155029836117:=0
def tw12557146027024225217:=0
def tw6120260964826492280:=0
def tw6532593175676179327:=0
def tw86962451531128383:=0
def tw3987085408968303321:=0
def tw12318514452961705356:=0
def tw3086999951225832153:=0
def tw9433177661061672252:=0
def tw13002931065710585655:=0
def tw5468961566803890343:=0
def tw18091064284816947435:=0
def tw11338653119199174074:=0
def tw2440078143976917633:=0
def tw11288321846024994746:=0
def tw4729578559161418718:=0
def tw16866531576463377191:=0
def tw12765936466576875853:=0
def tw12365983708850569530:=0
def tw3587767918673999633:=0
def tw16894465572142580257:=0
def tw8378937391809107924:=0
def tw2259176593701657847:=0
def tw14935546824343789513:=0
def tw7285045862622591002:=0
def tw2450227794636627491:=0
def tw5959144378354556198:=0
def tw15454382874119596124:=0
def tw9689777478594604711:=0
def tw4475889308039491300:=0
def tw4350227643423653194:=0
def tw10911974206040097158:=0
def tw13288511605108400229:=0
def tw3703635684374161850:=0
def tw625466791733037555:=0
def tw12847068846454825998:=0
def tw3445031354975413266:=0
def tw8325076873937627739:=0
def tw15038366127743436210:=0
def tw17133810639949541823:=0
def tw10204231735549760270:=0
def tw13546591120696193778:=0
def tw7706609479759319781:=0
def tw6089917168053206666:=0
def tw9521417426083336104:=0
def tw17911851131536425018:=0
def tw4289953766433136131:=0
def tw315898592876433248:=0
def tw4256895174484963938:=0
def tw15098982957683245873:=0
def tw13310343172748363373:=0
def tw16649010099948159806:=0
def tw10175739146042734630:=0
def tw15777003987998578610:=0
def tw14384606670561241833:=0
def tw10070728207744192883:=0
def tw5875415459428039038:=0
def tw10288772049739062076:=0
def tw3955892177005377499:=0
def tw6385401372598297602:=0
def tw7791291022490651662:=0
def tw11475011995491245678:=0
def tw745667910051259543:=0
def tw6957676962567585554:=0
def tw6691245068678160120:=0
def tw10624616341088162063:=0
def tw2943980740835062295:=0
def tw11901640692879189049:=0
def tw1787123535647830445:=0
def tw14872476213022907814:=0
def tw712917520684198764:=0
def tw18136219669227001868:=0
def tw1878922220665060415:=0
def tw17868446956769439812:=0
def tw3759811769484609138:=0
def tw14519592112223113525:=0
def tw7017451917038928761:=0
def tw3091186000218926527:=0
def tw3073744046296736851:=0
def tw1414687627981783922:=0
def tw10206116360845261959:=0
def tw12197259039454041396:=0
def tw16281523885240694144:=0
def tw17873630654594482888:=0
def tw1526223778289756945:=0
def tw12908188706202376855:=0
def tw987159512606707207:=0
def tw5176052662413823307:=0
def tw2045743098017354541:=0
def tw1539993854292700295:=0
def tw13722892859441527742:=0
def tw16142118323575474336:=0
def tw2618910338260823269:=0
def tw13946099198133250344:=0
def tw12911156041102105718:=0
def tw10836178634997691879:=0
def tw5303508739289584369:=0
def tw7919939366904178344:=0
def tw16134266688645580249:=0
def tw6952301203684210499:=0
def tw9112486094287335003:=0
def tw12195876397147595767:=0
def tw9625501641428993201:=0
def tw17096905592424040379:=0
def tw6277161256818380508:=0
def tw16765907383985188695:=0
def tw14928249475602257026:=0
def tw9726798180523120521:=0
def tw7479005209545173839:=0
def tw16349119870501116845:=0
def tw9576247553600960914:=0
def tw861936870934208581:=0
def tw2201556497476844860:=0
def tw7987272744526707979:=0
def tw13953225301862731341:=0
def tw3789776136020200117:=0
def tw13669325889065766303:=0
def tw15020825879109670703:=0
def tw4347597782100103524:=0
def tw10062515973553458608:=0
def tw3824846728158995850:=0
def tw10339405325729982003:=0
def tw4411821074642617393:=0
def tw16586428857113829834:=0
def tw15205202713761004649:=0
def tw325842486231308673:=0
def tw8741502497674167636:=0
def tw1946363365200975181:=0
def tw4804049426247157409:=0
def tw8993421145697408965:=0
def tw13571508278620479501:=0
def tw14007310573348922068:=0
def tw2087801371737378485:=0
def tw16399817791246032251:=0
def tw88129162205878438:=0
def tw17226182185096598932:=0
def tw6204515006947969315:=0
def tw1286173042225109781:=0
def tw10356467783053614274:=0
def tw10390936285756910265:=0
def tw1823494214202636355:=0
def tw10773502236494227999:=0
def tw18380171402279615297:=0
def tw13484824781771015698:=0
def tw9574938142764973759:=0
def tw1724876469887719864:=0
def tw14129784382248238440:=0
def tw3376352078315358377:=0
def tw16660802791556597562:=0
def tw10805939960517601211:=0
def tw12979931021574409240:=0
def tw8891236367911161427:=0
def tw3528745699935457970:=0
def tw6486900450967303235:=0
def tw12884674518302411001:=0
def tw12617164952951570021:=0
def tw6408791860739181279:=0
def tw3767309850030774142:=0
def tw7225185656746323207:=0
def tw865821136978696653:=0
def tw17728749559480947534:=0
def tw13948545209006535095:=0
def tw17407593981657784607:=0
def tw6341432097324838726:=0
def tw17249685273835839850:=0
def tw14818781673577412238:=0
def tw1836048829012454432:=0
def tw792990097254441997:=0
def tw9503152083290970174:=0
def tw9696094158474135459:=0
def tw6153155517204712690:=0
def tw15576401856780826556:=0
def tw18363748716530841741:=0
def tw16580480289023451838:=0
def tw1159308260020679970:=0
def tw4656688224290252027:=0
def tw11551241788624850747:=0
def tw8051222338339827585:=0
def tw7939438473402871842:=0
def tw12515928210676876142:=0
def tw10970082038506028858:=0
def tw675131305969426541:=0
def tw2897241487251526052:=0
def tw4705196559900365305:=0
def tw16939741530655466852:=0
def tw17779408208560293386:=0
def tw2856363061675718460:=0
def tw10113138484093694820:=0
def tw7309992888289778633:=0
def tw17621291829909448981:=0
def tw18190447182747774690:=0
def tw12775819720558319185:=0
def tw16407804589086636421:=0
def tw735143124806857414:=0
def tw10082362612563082024:=0
def tw15715747776558333940:=0
def tw6561343721724231967:=0
def tw14950573818922046947:=0
def tw16141717077787864983:=0
def tw10198641083117963600:=0
def tw18286453129649458869:=0
def tw1751332958250868894:=0
def tw10298062775820145912:=0
def tw10776288535655891812:=0
def tw3576677847006421659:=0
def tw7534427996155025072:=0
def tw9621578533397108508:=0
def tw3978959284052902569:=0
def tw17399074784881180526:=0
def tw9447656129150683357:=0
def tw12436320362069803259:=0
def tw3408186420709176117:=0
def tw8432503934835005208:=0
def tw5379351132248342369:=0
def tw1099344945499234514:=0
def tw7495529187925348019:=0
def tw16585774161698848762:=0
def tw5729612383800024596:=0
def tw6816440143167483546:=0
def tw18045912951507151668:=0
def tw12902608005873113803:=0
def tw523602776056116498:=0
def tw12862044174352158988:=0
def tw10457765204484063770:=0
def tw16849752454859789559:=0
def tw12851934271276303664:=0
def tw12701554438533269429:=0
def tw5658848223569047203:=0
def tw14955878372006304584:=0
def tw10679780386872482171:=0
def tw4431329747897581761:=0
def tw16338462078408062506:=0
def tw7286464863128396659:=0
def tw1122825866909622599:=0
def tw15637447163985212570:=0
def tw912726283261029362:=0
def tw17513865972270696176:=0
def tw17278257513064345189:=0
def tw4850996026697333019:=0
def tw12772341342850914165:=0
def tw4766338190900257974:=0
def tw13315733133937286453:=0
def tw7876505442355274066:=0
def tw8251596105587787824:=0
def tw8081109562466004411:=0
def tw283285384102486597:=0
def tw8873631954074291360:=0
def tw2667920500984128271:=0
def tw13903929864556309278:=0
def tw8580256362233978909:=0
def tw14285043739995654094:=0
def tw477244124612919757:=0
def tw7307463052749311146:=0
def tw13131343946674948677:=0
def tw10699033299989201994:=0
def tw8926665299697578915:=0
def tw11993397504867589775:=0
def tw12530724914655702400:=0
def tw7322673152680333869:=0
def tw16097543366645855506:=0
def tw295955174317332360:=0
def tw2044710560603761958:=0
def tw16163053165456187992:=0
def tw15897203908350178259:=0
def tw16021704454115246386:=0
def tw9984453918473737816:=0
def tw3698147847207696525:=0
def tw17344875118031876689:=0
def tw2192915268781615765:=0
def tw2234526767957042549:=0
def tw6022616857878918329:=0
def tw13705084377992397396:=0
def tw14323096150016995660:=0
def tw5589458118107411844:=0
def tw18403141796709120267:=0
def tw6936673237870260707:=0
def tw9559426252925014718:=0
def tw4385405446555780817:=0
def tw12512807820924663352:=0
def tw14642330160232841233:=0
def tw13033327132885622000:=0
def tw6330356384247574280:=0
def tw16289064800492803708:=0
def tw13786174210547761728:=0
def tw7165735235085616261:=0
def tw3431493610780018318:=0
def tw17607614560784655867:=0
def tw9093086958629280195:=0
def tw8357975970947010825:=0
def tw10988603678683917146:=0
def tw5937557632698976165:=0
def tw13049942230865103665:=0
def tw11165155674382546971:=0
def tw2831060307696051560:=0
def tw15751420169378263682:=0
def tw1615270572988793766:=0
def tw5497099652544438883:=0
def tw8426158720327059150:=0
def tw5537951512482516440:=0
def tw4878202665577097428:=0
def tw9680948615279695561:=0
def tw2039590923901576904:=0
def tw11639053224270697843:=0
def tw11866844040247502009:=0
def tw5780952371604088166:=0
def tw13116193644072201918:=0
def tw16880803204841444054:=0
def tw136531729290175808:=0
def tw7041401316237021931:=0
def tw13943334793450128860:=0
def tw3809051670611110639:=0
def tw4312668022826360580:=0
def tw11007362757560841905:=0
def tw16081395967226530615:=0
def tw747043314863156114:=0
def tw197081476432223635:=0
def tw15700319349673811476:=0
def tw11953181665037658823:=0
def tw11874613976693904524:=0
def tw3377083466829407737:=0
def tw1639770688817451632:=0
def tw17357134432756261050:=0
def tw5652704703191367884:=0
def tw15816906952940506039:=0
def tw7088133758970869786:=0
def tw15934610043241357248:=0
def tw5627395090115890486:=0
def tw7917108102786089638:=0
def tw15389036168671851179:=0
def tw4380962515915416410:=0
def tw7095173787421641006:=0
def tw9464647969364621860:=0
def tw1188380518885504132:=0
def tw9001463654291687244:=0
def tw1417838066173109264:=0
def tw17831843761487215738:=0
def tw6580016134071909791:=0
def tw6906605700879571170:=0
def tw521411078306894333:=0
def tw13716196453905782009:=0
def tw14797518806216387700:=0
def tw13109715386643720991:=0
def tw2494502642483372284:=0
def tw15127448400716057179:=0
def tw4513638693443372321:=0
def tw4389712242956995150:=0
def tw12400914345420361840:=0
def tw7695061916618464935:=0
def tw12025608516442467112:=0
def tw16802854356583151191:=0
def tw1929755650006640421:=0
def tw3610315142254509138:=0
def tw15060635441327664142:=0
def tw8786437121134222364:=0
def tw10768855873203806549:=0
def tw18137619915501026125:=0
def tw8794446987919613509:=0
def tw9341843454870400223:=0
def tw9025769581869005857:=0
def tw15603373137540353649:=0
def tw13281077562827434837:=0
def tw17640789821819440971:=0
def tw18387484675456563709:=0
def tw4241088038100110704:=0
def tw5962111428761739450:=0
def tw852603184536771067:=0
def tw14597071038395827110:=0
def tw12419239552329673623:=0
def tw7262402639903535582:=0
def tw14851877087066103408:=0
def tw7126296113992519200:=0
def tw10200319573566818236:=0
def tw9955113879330397926:=0
def tw17976613921787252321:=0
def tw8923488516740974594:=0
def tw11373456974226277360:=0
def tw134161322126460714:=0
def tw15385464658535919931:=0
def tw13934456366997610947:=0
def tw734659667080153655:=0
def tw9460569050851110948:=0
def tw6043789151102703255:=0
def tw5802326452459500184:=0
def tw12972775410116282642:=0
def tw9242853123396703644:=0
def tw7432769992915206125:=0
def tw1096225647168211289:=0
def tw11392682507317322184:=0
def tw11039437163075796759:=0
def tw16410459807912110695:=0
def tw14080637802044577575:=0
def tw17738165581793206859:=0
def tw16744103175858930524:=0
end PySem.W.Fast
open PySem PySem.W PyProof.Rows
set_option maxRecDepth 100000 in
set_option maxHeartbeats 0 in
theorem PySem.Challenge.cw_trickproof_k42_a_paper_told_holds : PySem.Challenge.rw_trickproof_k42_a_paper_told.Holds := by
 w_on;o_law;k_head;(case hw=>w_witness2)
 k_fill
 refine My.walk (l:=PySem.Challenge.rw_trickproof_k42_a_paper_told) rfl rfl (fun w h Y=>PySem.W.kIn_of Y) ?F
 case F=>
  intro w mg fa h KX G hmg
  refine' My.all_mk KX G hmg ?_ ?_ ?_ ?_ ?_ ?_ ?_ ?_ ?_ ?_ ?_ ?_ ?_ ?_ ?_ ?_ ?_ ?_ ?_ ?_ ?_ ?_ ?_ ?_ ?_ ?_ ?_ ?_ ?_ ?_ ?_ ?_ ?_ ?_ ?_ ?_ ?_ ?_ ?_ ?_ ?_ ?_ ?_ ?_ ?_ ?_ ?_ ?_ ?_ ?_ ?_ ?_ ?_ ?_ ?_ ?_ ?_ ?_ ?_ ?_ ?_ ?_ ?_ ?_ ?_ ?_ ?_ ?_ ?_ ?_ ?_ ?_ ?_ ?_ ?_ ?_ ?_ ?_ ?_ ?_ ?_ ?_ ?_ ?_ ?_ ?_ ?_ ?_ ?_ ?_ ?_ ?_ ?_ ?_ ?_ ?_ ?_ ?_ ?_ ?_ ?_ ?_ ?_ ?_ ?_ ?_ ?_ ?_ ?_ ?_ ?_ ?_ ?_ ?_ ?_ ?_ ?_ ?_ ?_ ?_ ?_ ?_ ?_ ?_ ?_ ?_ ?_ ?_ ?_ ?_ ?_ ?_ ?_ ?_ ?_ ?_ ?_ ?_ ?_ ?_ ?_ ?_ ?_ ?_ ?_ ?_ ?_ ?_ ?_ ?_ ?_ ?_ ?_ ?_ ?_ ?_ ?_ ?_ ?_ ?_ ?_ ?_ ?_ ?_ ?_ ?_ ?_ ?_ ?_ ?_ ?_ ?_ ?_ ?_ ?_ ?_ ?_ ?_ ?_ ?_ ?_ ?_ ?_ ?_ ?_ ?_ ?_ ?_ ?_ ?_ ?_ ?_ ?_ ?_ ?_ ?_ ?_ ?_ ?_ ?_ ?_ ?_ ?_ ?_ ?_ ?_ ?_ ?_ ?_ ?_ ?_ ?_ ?_ ?_ ?_ ?_ ?_ ?_ ?_ ?_ ?_ ?_ ?_ ?_ ?_ ?_ ?_ ?_ ?_ ?_ ?_ ?_ ?_ ?_ ?_ ?_ ?_ ?_ ?_ ?_ ?_ ?_ ?_ ?_ ?_ ?_ ?_ ?_ ?_ ?_ ?_ ?_ ?_ ?_ ?_ ?_ ?_ ?_ ?_ ?_ ?_ ?_ ?_ ?_ ?_ ?_ ?_ ?_ ?_ ?_ ?_ ?_ ?_ ?_ ?_ ?_ ?_ ?_ ?_ ?_ ?_ ?_ ?_ ?_ ?_ ?_ ?_ ?_ ?_ ?_ ?_ ?_ ?_ ?_ ?_ ?_ ?_ ?_ ?_ ?_ ?_ ?_ ?_ ?_ ?_ ?_ ?_ ?_ ?_ ?_ ?_ ?_ ?_ ?_ ?_ ?_ ?_ ?_ ?_ ?_ ?_ ?_ ?x1 ?tjM ?tjV ?tk0 ?tk1 ?tk2 ?tk3 ?tu1 ?tv1 ?tv3
  rotate_left 223
  iterate 238 k_is
  iterate 84 (refine' L2.fun_mk ?_ ?_ ?_;rotate_left 9;iterate 3 k_is)
  (case x1=>k_exc)
  (case tjM=>kit_is)
  (case tjV=>kit_is)
  (case tk0=>kit_is)
  (case tk1=>kit_is)
  (case tk2=>kit_is)
  (case tk3=>kit_is)
  (case tu1=>kts_exm)
  (case tv1=>kernel_rfl)
  (case tv3=>exact rfl)
#print axioms PySem.Challenge.cw_trickproof_k42_a_paper_told_holds
