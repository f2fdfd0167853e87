import PyProof.Rows.All
import Wide.All
import OpenK.AllK
import Wide.FinOn
import Lean
import PyProof.EqAt
import PyProof.EqKinds
import PyProof.TupleCall
import PyProof.NeKinds
import PyProof.ListStr
import PyProof.Rows.SortStr
import KE.KIntText
import PySem.Challenge.RW_trickproof_k41_papers_looked_at
set_option Elab.async false
set_option linter.all false
set_option maxRecDepth 100000
namespace L2
open PySem PySem.Spec PyProof.Rows
abbrev _root_.Yj:=@PyProof.Rows.boot_isinstance
abbrev _root_.Yf:=@PyProof.Rows.boot_tuple
abbrev _root_.Y4:=@PyProof.Rows.boot_list
abbrev _root_.Yd:=@PySem.F.plainAttrs_list
abbrev _root_.Ux:=@PySem.F.slot_list_append
abbrev _root_.Uw:=@PySem.F.type_list_append
abbrev _root_.Jq:=@PySem.boot_len
abbrev _root_.Zf:=@List.getElem?_eq_getElem
abbrev _root_.Zp:=@List.getD_eq_getElem?_getD
abbrev _root_.Z4:=@List.getElem?_map
abbrev _root_.Xi:=@List.getElem?_append_left
abbrev _root_.Xf:=@List.getElem?_append_right
abbrev _root_.Zx:=@List.getElem?_eq_some_iff
abbrev _root_.Zl:=@List.mem_of_getElem?
abbrev _root_.Zz:=@List.mem_cons_of_mem
abbrev _root_.Zy:=@List.mem_cons_self
abbrev _root_.Zj:=@List.length_map
abbrev _root_.Z3:=@List.length_append
abbrev _root_.J7:=@List.length_range
abbrev _root_.Jo:=@List.length_cons
abbrev _root_.Jp:=@List.map_append
abbrev _root_.Z7:=@List.map_map
abbrev _root_.Zv:=@List.mem_map
abbrev _root_.Jm:=@List.mem_append
abbrev _root_.Jb:=@List.mem_singleton
abbrev _root_.Z0:=@Option.some.inj
abbrev _root_.Zr:=@Bool.false_ne_true
abbrev _root_.Z2:=@Int.toNat_natCast
abbrev _root_.Zc:=@decide_eq_false
abbrev _root_.Zd:=@decide_eq_true
abbrev _root_.Zi:=@Heap.get?_push_of_some
abbrev _root_.Z8:=@Heap.lt_size
abbrev _root_.Zb:=@wpAny_bind
abbrev _root_.Ya:=@List.mem_range
abbrev _root_.Xx:=@List.length_set
abbrev _root_.Jk:=@Nat.lt_of_lt_of_le
abbrev _root_.Uf:=@Nat.le_of_lt
abbrev _root_.Jx:=@Nat.lt_of_le_of_lt
abbrev _root_.J8:=@List.append_nil
abbrev _root_.Y0:=@List.mem_iff_getElem
abbrev _root_.Y5:=@List.append_assoc
abbrev _root_.Ju:=@of_decide_eq_true
abbrev _root_.Yl:=@List.getElem_mem
abbrev _root_.Uh:=@List.not_mem_nil
abbrev _root_.Yn:=@Int.emod_nonneg
abbrev _root_.Yh:=@Int.emod_lt_of_pos
abbrev _root_.Jv:=@List.map_congr_left
abbrev _root_.Qk:=@Int.natCast_ediv
abbrev _root_.Ze:=@wpAny_pure
abbrev _root_.Zs:=@Nat.le_refl
abbrev _root_.Zw:=@List.size_toArray
abbrev _root_.Zk:=@if_neg
abbrev _root_.Zu:=@if_pos
abbrev _root_.Je:=@List.mem_cons
abbrev _root_.Z6:=@Heap.get?_push_size
abbrev _root_.Jc:=@Nat.le_trans
abbrev _root_.Jn:=@Nat.ne_of_lt
abbrev _root_.J9:=@List.all_eq_true
abbrev _root_.U0:=@List.take_succ
abbrev _root_.Js:=@Option.map_eq_some_iff
abbrev _root_.Xw:=@Nat.min_eq_left
abbrev _root_.Xy:=@Int.natCast_add
abbrev _root_.Q2:=@Int.zero_add
abbrev _root_.J0:=@List.length_take
abbrev _root_.Yk:=@List.length_drop
abbrev _root_.Xh:=@Nat.lt_succ_self
abbrev _root_.Y7:=@beq_self_eq_true
abbrev N3:=Sum Int Str
def M7:N3→Value→Bool
 | .inl k,v=>Value.isInt k v
 | .inr x,v=>Value.isStrOf x v
def Zr7(w:World):N3→Int
 | .inl k=>hashInt k
 | .inr x=>hashStr w x
theorem Ut:∀{k:N3} {v:Value},M7 k v=true→(∃ i t,k=Sum.inl i∧v=Value.int i t)∨(∃ x t,k=Sum.inr x∧v=Value.str x t)
 | .inl i,v,h=>by
  obtain⟨t,e⟩:=Value.isInt_shape (k:=i) (v:=v) h;exact .inl ⟨i,t,rfl,e⟩
 | .inr x,v,h=>by
  obtain⟨t,e⟩:=Value.isStrOf_shape (x:=x) (v:=v) h;exact .inr ⟨x,t,rfl,e⟩
theorem Zff(i:Int)(t:Tok):M7 (.inl i) (.int i t)=true:=by simp [M7,Value.isInt]
theorem Zfe(x:Str)(t:Tok):M7 (.inr x) (.str x t)=true:=by simp [M7,Value.isStrOf]
theorem Zo5(a b:Int):decide ((Sum.inl a:N3)=Sum.inl b)=(a == b):=by
 by_cases e:a=b
 ·subst e;simp
 ·have h:¬ (Sum.inl a:N3)=Sum.inl b:=fun q=>e (Sum.inl.inj q)
  rw[Zc h];exact(beq_eq_false_iff_ne.mpr e).symm
theorem Zo1(a b:Str):decide ((Sum.inr a:N3)=Sum.inr b)=decide (a=b):=by
 by_cases e:a=b
 ·subst e;simp
 ·have h:¬ (Sum.inr a:N3)=Sum.inr b:=fun q=>e (Sum.inr.inj q)
  rw[Zc h,Zc e]
theorem Zo4(a:Int)(b:Str):decide ((Sum.inl a:N3)=Sum.inr b)=false:=Zc (fun q=>nomatch q)
theorem Zo2(a:Str)(b:Int):decide ((Sum.inr a:N3)=Sum.inl b)=false:=Zc (fun q=>nomatch q)
def Yo(prog:Program)(w:World):PySem.KeyKind prog w N3 where
 is:=M7
 hash:=Zr7 w
 inj:=fun v a b ha hb=>by
  rcases Ut ha with⟨i,t,rfl,rfl⟩ | ⟨x,t,rfl,rfl⟩
  ·rcases Ut hb with⟨j,u,rfl,e⟩ | ⟨y,u,rfl,e⟩
   ·injection e with e1 _;rw[e1]
   ·exact nomatch e
  ·rcases Ut hb with⟨j,u,rfl,e⟩ | ⟨y,u,rfl,e⟩
   ·exact nomatch e
   ·injection e with e1 _;rw[e1]
 byValue:=fun k v h=>by
  rcases Ut h with⟨i,t,rfl,rfl⟩ | ⟨x,t,rfl,rfl⟩<;>rfl
 pyHash:=fun hv h=>by
  rcases Ut hv with⟨i,t,rfl,rfl⟩ | ⟨x,t,rfl,rfl⟩
  ·exact wpAny_pyHash_int h
  ·exact wpAny_pyHash_str h
 eqBool:=fun hu hv h=>by
  rcases Ut hu with⟨i,t,rfl,rfl⟩ | ⟨x,t,rfl,rfl⟩
  ·rcases Ut hv with⟨j,u,rfl,rfl⟩ | ⟨y,u,rfl,rfl⟩
   ·rw[Zo5] at h;exact wpAny_eqBool_int h
   ·rw[Zo4] at h;exact SeqAt.EqAt.int_str i t y u _ _ _ _ h
  ·rcases Ut hv with⟨j,u,rfl,rfl⟩ | ⟨y,u,rfl,rfl⟩
   ·rw[Zo2] at h;exact SeqAt.EqAt.str_int x t j u _ _ _ _ h
   ·rw[Zo1] at h;exact wpAny_eqBool_str h
 «strs»:=fun k x t v h=>by
  rcases Ut h with⟨i,u,rfl,e⟩ | ⟨y,u,rfl,e⟩
  ·exact nomatch e
  ·injection e with e1 _
   subst e1;cases v<;>rfl
theorem Xc(prog:Program)(w:World)(i:Int)(t:Tok):(Yo prog w).is (.inl i) (.int i t)=true:=Zff i t
theorem Sd(prog:Program)(w:World)(x:Str)(t:Tok):(Yo prog w).is (.inr x) (.str x t)=true:=Zfe x t
inductive V where
 | non | bl (b:Bool) | int (i:Int) | str (x:Str) | byt (b:Array UInt8) | flt (b:UInt64) | ref (a:Addr) | ty (n:String)
 deriving DecidableEq
def RelV:V→Value→Prop
 | .non,u=>u=Value.none
 | .bl b,u=>u=Value.bool b
 | .int i,u=>∃ t,u=Value.int i t
 | .str x,u=>∃ t,u=Value.str x t
 | .byt b,u=>∃ t,u=Value.bytes b t
 | .flt b,u=>∃ t,u=Value.float b t
 | .ref a,u=>u=Value.ref a
 | .ty n,u=>u=Value.type n
abbrev Vals:List V→List Value→Prop:=Paired RelV
theorem Vals.length{xs:List V}{us:List Value}(r:Vals xs us):xs.length=us.length:=Paired.length r
theorem Vals.get:∀{xs:List V} {us:List Value} {i:Nat} {x:V},Vals xs us→xs[i]? = some x→∃ u,us[i]? = some u∧RelV x u
 | _,_,_,_,.nil,e=>by simp at e
 | _,_,0,_,.cons r _,e=>by simp at e;subst e;exact⟨_,rfl,r⟩
 | _,_,i+1,x,.cons _ t,e=>by
  obtain⟨u,h1,h2⟩:=Vals.get (i:=i) (x:=x) t (by simpa using e);exact⟨u,by simpa using h1,h2⟩
theorem Vals.set{x:V}{u:Value}(r:RelV x u):∀{xs:List V} {us:List Value} (i:Nat),Vals xs us→Vals (xs.set i x) (us.set i u)
 | _,_,_,.nil=>.nil
 | _,_,0,.cons _ t=>.cons r t
 | _,_,i+1,.cons q t=>.cons q (Vals.set r i t)
theorem Vals.append:∀{xs ys:List V} {us ws:List Value},Vals xs us→Vals ys ws→Vals (xs++ys) (us++ws)
 | _,_,_,_,.nil,s=>s
 | _,_,_,_,.cons r t,s=>.cons r (Vals.append t s)
theorem Vals.take:∀{xs:List V} {us:List Value} (n:Nat),Vals xs us→Vals (xs.take n) (us.take n)
 | _,_,0,_=>.nil
 | _,_,_+1,.nil=>.nil
 | _,_,n+1,.cons r t=>.cons r (Vals.take n t)
theorem Vals.drop:∀{xs:List V} {us:List Value} (n:Nat),Vals xs us→Vals (xs.drop n) (us.drop n)
 | _,_,0,r=>r
 | _,_,_+1,.nil=>.nil
 | _,_,n+1,.cons _ t=>Vals.drop n t
def RelO:Option V→Option Value→Prop
 | some v,some u=>RelV v u
 | none,none=>True
 | _,_=>False
def KV{κ:Type}:List (κ×V)→List (κ×Value)→Prop:=Paired fun(p:κ×V) (q:κ×Value)=>p.1=q.1∧RelV p.2 q.2
def kV:N3→V
 | .inl i=>.int i
 | .inr x=>.str x
inductive HO where
 | lst (xs:List V)
 | tup (xs:List V)
 | dK (kvs:List (N3×V)) | dT (kvs:List (List N3×V))
 | set (S:Int→Bool) (n:Nat)
 | ins (C dx:Addr) (fs:List (Str×V))
 | own (x:Addr)
 | xd (fs:List (Str×V))
 | met (f x:Addr)
 | rng (lo hi:Int)
 | frz (o:Obj) (u:HO)
 | tbl (ps:Array Value)
 | ext (φ:Heap→Prop)
abbrev Hp:=Addr→Option HO
def upd(H:Hp)(a:Addr)(o:HO):Hp:=fun b=>if b=a then some o else H b
theorem Zo{H:Hp}{a:Addr}{o:HO}:upd H a o a=some o:=by unfold upd;rw[Zu rfl]
theorem Jh{H:Hp}{a b:Addr}{o:HO}(h:b≠a):upd H a o b=H b:=by unfold upd;rw[Zk h]
theorem U2{H:Hp}{a:Addr}{o u:HO}:upd (upd H a o) a u=upd H a u:=by
 funext b;unfold upd;split<;>rfl
theorem Zmx{H:Hp}{a b:Addr}{o u:HO}(h:H a=some o)(h':H b=some u)(d:o≠u):a≠b:=by
 intro e;subst e;rw[h] at h';exact d (Z0 h')
theorem J4{H:Hp}{a b:Addr}{o:HO}(h:H a=some o)(h':H b=none):a≠b:=by
 intro e;subst e;rw[h] at h';cases h'
section
variable(P:Program)(w:World)
def ObjOk(H:Hp)(h:Heap)(a:Addr):HO→Prop
 | .lst xs=>xs.length≤sizeLine∧∃(its:List Value) (n:Nat),Vals xs its∧h.get? a=some { cls:=.type "list",data:=.seq its.toArray n }
 | .tup xs=>xs.length≤sizeLine∧∃ its:List Value,Vals xs its∧IsTup h a its.toArray
 | .dK kvs=>kvs.length≤sizeLine∧(a == sysModules)=false∧∃ vs,KV kvs vs∧h.DictOf (Yo P w) a vs
 | .dT kvs=>kvs.length≤sizeLine∧(a == sysModules)=false∧∃ xs:List (List N3×Addr×Value),
   Paired (fun(p:List N3×V) (q:List N3×Addr×Value)=>p.1=q.1∧H q.2.1=some (.tup (p.1.map kV))∧RelV p.2 q.2.2) kvs xs ∧
   ∃ o es ep,h.get? a=some o∧o.ExactDict∧o.data = .dict es ep∧es.toList=xs.map (entryOfKey (tupleKind (Yo P w)))∧(xs.map (·.1)).Nodup
 | .set S n=>h.SetOf (intKind P w) a S n
 | .ins C dx fs=>H dx=some (.own a)∧fs.length≤1000∧dx≠a∧h.get? a=some (W.instObj C dx) ∧
   ∃ mA,h.Ns1 dx mA∧(∀ f,RelO (fs.lookup f) (mA f))∧PySem.Within mA (fs.map (·.1))
 | .own _=>∃ o,h.get? a=some o
 | .xd fs=>∃ mA,h.Ns1 a mA∧∀ f,RelO (fs.lookup f) (mA f)
 | .rng lo hi=>∃ t u v,h.get? a=some { cls:=.type "range",data:=.fields #[.int lo t,.int hi u,.int 1 v] }
 | .frz o u=>h.get? a=some o∧ObjOk H h a u
 | .tbl ps=>h.get? a=some { cls:=.none,data:=.fields ps }
 | .met f x=>h.get? a=some (W.methodObj (.ref f) (.ref x))
 | .ext φ=>φ h∧(∃ o,h.get? a=some o)∧∀ h1 h2:Heap,φ h1→(∀ o,h1.get? a=some o→h2.get? a=some o)→φ h2
def HOk(H:Hp)(h:Heap):Prop:=∀ a o,H a=some o→ObjOk P w H h a o
end
section
variable{P:Program}{w:World}{H H':Hp}{h h':Heap}{a:Addr}{o:HO}
theorem ObjOk.lt(x:ObjOk P w H h a o):a < h.objs.size:=by
 cases o with
 | lst xs=>obtain⟨_,_,_,_,e⟩:=x;exact Z8 e
 | tup xs=>obtain⟨_,_,_,p⟩:=x;exact p.lt
 | dK kvs=>obtain⟨_,_,_,_,o,_,_,e,_⟩:=x;exact Z8 e
 | dT kvs=>obtain⟨_,_,_,_,o,_,_,e,_⟩:=x;exact Z8 e
 | set S n=>obtain⟨o,_,_,_,e,_⟩:=x;exact Z8 e
 | ins C dx fs=>obtain⟨_,_,_,e,_⟩:=x;exact Z8 e
 | own y=>obtain⟨_,e⟩:=x;exact Z8 e
 | xd fs=>obtain⟨_,⟨_,_,_,e,_⟩,_⟩:=x;exact Z8 e
 | rng lo hi=>obtain⟨_,_,_,e⟩:=x;exact Z8 e
 | frz ob u=>obtain⟨e,_⟩:=x;exact Z8 e
 | tbl ps=>exact Z8 (show h.get? a=some _ from x)
 | met f y=>exact Z8 (show h.get? a=some _ from x)
 | ext φ=>obtain⟨_,⟨_,e⟩,_⟩:=x;exact Z8 e
theorem Paired.mapP{α β:Type}{F G:α→β→Prop}:∀{l₁:List α} {l₂:List β},Paired F l₁ l₂→(∀ a b,F a b→G a b)→Paired G l₁ l₂
 | _,_,.nil,_=>.nil
 | _,_,.cons r t,f=>.cons (f _ _ r) (Paired.mapP t f)
theorem ObjOk.stay(x:ObjOk P w H h a o)(k:∀ b u,(b=a∨H b=some (.own a))→h.get? b=some u→h'.get? b=some u)
  (ho:∀ b,H b=some (.own a)→H' b=some (.own a)) (ht:∀ b xs,H b=some (.tup xs)→H' b=some (.tup xs)):ObjOk P w H' h' a o:=by
 induction o with
 | lst xs=>obtain⟨z,its,n,r,e⟩:=x;exact⟨z,its,n,r,k _ _ (.inl rfl) e⟩
 | tup xs=>obtain⟨z,its,r,ob,e,c⟩:=x;exact⟨z,its,r,ob,k _ _ (.inl rfl) e,c⟩
 | dK kvs=>obtain⟨z,y,vs,r,ob,es,ep,e,c⟩:=x;exact⟨z,y,vs,r,ob,es,ep,k _ _ (.inl rfl) e,c⟩
 | dT kvs=>
  obtain⟨z,y,xs,r,ob,es,ep,e,c⟩:=x;exact⟨z,y,xs,Paired.mapP r fun p q z=>⟨z.1,ht _ _ z.2.1,z.2.2⟩,ob,es,ep,k _ _ (.inl rfl) e,c⟩
 | set S n=>obtain⟨ob,es,ep,t,e,c⟩:=x;exact⟨ob,es,ep,t,k _ _ (.inl rfl) e,c⟩
 | ins C dx fs=>
  obtain⟨d,z,ne,e,mA,⟨od,es,ep,e2,c⟩,r⟩:=x;exact⟨ho _ d,z,ne,k _ _ (.inl rfl) e,mA,⟨od,es,ep,k _ _ (.inr d) e2,c⟩,r⟩
 | own y=>obtain⟨ob,e⟩:=x;exact⟨ob,k _ _ (.inl rfl) e⟩
 | xd fs=>obtain⟨mA,⟨od,es,ep,e,c⟩,r⟩:=x;exact⟨mA,⟨od,es,ep,k _ _ (.inl rfl) e,c⟩,r⟩
 | rng lo hi=>obtain⟨t,u,v,e⟩:=x;exact⟨t,u,v,k _ _ (.inl rfl) e⟩
 | frz ob u ih=>obtain⟨e,q⟩:=x;exact⟨k _ _ (.inl rfl) e,ih q⟩
 | tbl ps=>
  have e:h.get? a=some { cls:=.none,data:=.fields ps }:=x;show h'.get? a=some { cls:=.none,data:=.fields ps };exact k a _ (.inl rfl) e
 | met f y=>
  have e:h.get? a=some (W.methodObj (.ref f) (.ref y)):=x;show h'.get? a=some (W.methodObj (.ref f) (.ref y));exact k a _ (.inl rfl) e
 | ext φ=>obtain⟨p,⟨o,e⟩,st⟩:=x;exact⟨st _ _ p fun o q=>k _ _ (.inl rfl) q,⟨o,k _ _ (.inl rfl) e⟩,st⟩
theorem HOk.lt(x:HOk P w H h)(e:H a=some o):a < h.objs.size:=(x a o e).lt
theorem HOk.fresh(x:HOk P w H h)(e:h.objs.size≤a):H a=none:=by
 cases q:H a with
 | none=>rfl
 | some u=>exact absurd (Jk (x.lt q) e) (Nat.lt_irrefl _)
theorem HOk.kept(x:HOk P w H h)(k:∀ b u,h.get? b=some u→h'.get? b=some u):HOk P w H h':=fun a o e=>
 (x a o e).stay (fun b u _ q=>k b u q) (fun _ q=>q) fun _ _ q=>q
theorem HOk.laid(x:HOk P w H h)(k:∀ b u,h.get? b=some u→h'.get? b=some u)(hp:h.objs.size≤a)(new:ObjOk P w (upd H a o) h' a o):HOk P w (upd H a o) h':=fun b u e=>by
 have hn:=x.fresh hp;by_cases hb:b=a
 ·subst hb;rw[Zo] at e;cases e;exact new
 ·rw[Jh hb] at e
  exact(x b u e).stay (fun c v _ q=>k c v q) (fun c q=>by rw[Jh (J4 q hn)];exact q) fun c xs q=>by rw[Jh (J4 q hn)];exact q
end
def Rd(H:Hp)(a:Addr)(u:HO):Prop:=H a=some u∨∃ o,H a=some (.frz o u)
theorem Rd.ok{P:Program}{w:World}{H:Hp}{h:Heap}{a:Addr}{u:HO}(r:Rd H a u)(x:HOk P w H h):ObjOk P w H h a u:=by
 rcases r with r | ⟨o,r⟩
 ·exact x a u r
 ·obtain⟨_,q⟩:=x a _ r
  exact q
def Mut:Option HO→Prop
 | some (.lst _)=>True
 | some (.dK _)=>True
 | some (.dT _)=>True
 | some (.set _ _)=>True
 | some (.ins _ _ _)=>True
 | some (.ext _)=>True
 | _=>False
section
variable{P:Program}{w:World}{H:Hp}{h h':Heap}{x e:Addr}{o':HO}
theorem HOk.write(ok:HOk P w H h)(mu:Mut (H x))(he:e=x∨H e=some (.own x))(k:∀ b u,b≠e→h.get? b=some u→h'.get? b=some u)(heo:∃ u,h'.get? e=some u)
  (new:ObjOk P w (upd H x o') h' x o'):HOk P w (upd H x o') h':=fun b u q=>by
 have nown:∀ c y,H c=some (.own y)→c≠x:=fun c y r z=>by subst z;rw[r] at mu;exact mu
 have ntup:∀ c xs,H c=some (.tup xs)→c≠x:=fun c xs r z=>by subst z;rw[r] at mu;exact mu
 by_cases hb:b=x
 ·subst hb;rw[Zo] at q;cases q;exact new
 ·rw[Jh hb] at q
  by_cases hbe:b=e
  ·have q':H b=some (.own x):=by
    rcases he with z | z
    ·exact absurd (hbe.trans z) hb
    ·rw[hbe];exact z
   rw[q] at q';cases q';obtain⟨v,hv⟩:=heo;exact⟨v,by rw[hbe];exact hv⟩
  ·refine(ok b u q).stay (fun c v hc r=>k c v ?_ r) (fun c r=>by rw[Jh (nown c b r)];exact r) fun c xs r=>by rw[Jh (ntup c xs r)];exact r
   rcases hc with rfl | hc
   ·exact hbe
   ·rintro rfl
    rcases he with z | z
    ·exact nown c b hc z
    ·rw[hc] at z;cases z;exact hb rfl
end
structure Un(fs ex:List Addr)(H H':Hp)(h h':Heap):Prop where
 keep:∀ b o,h.get? b=some o→H b=none→b∉fs→b∉ex→h'.get? b=some o
 slot:∀ b o,h.get? b=some o→H b=none→b∈fs→b∉ex→∃ sl,h'.get? b=some { o with slots:=sl }
 free:∀ b o,h.get? b=some o→H b=none→b∉ex→H' b=none
 there:∀ b o,h.get? b=some o→b∉ex→∃ o',h'.get? b=some o'
 tups:∀ b xs,H b=some (.tup xs)→H' b=some (.tup xs)
 frzs:∀ b o u,H b=some (.frz o u)→H' b=some (.frz o u)
 tbls:∀ b ps,H b=some (.tbl ps)→∃ more,H' b=some (.tbl (ps++more))
section
variable{fs fs' ex ex':List Addr}{H H1 H2:Hp}{h h1 h2 h':Heap}{a x e:Addr}{o:HO}
theorem Un.any(u:Un fs ex H H1 h h1){b:Addr}{ob:Obj}(q:h.get? b=some ob)(n:H b=none)(hx:b∉ex):∃ sl,h1.get? b=some { ob with slots:=sl }:=by
 by_cases hb:b∈fs
 ·exact u.slot b ob q n hb hx
 ·exact⟨ob.slots,u.keep b ob q n hb hx⟩
theorem Un.kept(k:∀ b u,h.get? b=some u→h'.get? b=some u):Un fs ex H H h h':=
 ⟨fun b ob q _ _ _=>k b ob q,fun b ob q _ _ _=>⟨ob.slots,k b ob q⟩,fun _ _ _ n _=>n,fun b ob q _=>⟨ob,k b ob q⟩,fun _ _ q=>q,fun _ _ _ q=>q,fun _ ps q=>⟨#[],by rw[q];simp⟩⟩
theorem Un.refl:Un fs ex H H h h:=Un.kept fun _ _ q=>q
theorem Un.laid(k:∀ b u,h.get? b=some u→h'.get? b=some u)(hp:h.objs.size≤a)(hn:H a=none):Un fs ex H (upd H a o) h h' where
 keep:=fun b u q _ _ _=>k b u q
 slot:=fun b u q _ _ _=>⟨u.slots,k b u q⟩
 free:=fun b u q n _=>by rw[Jh (Jn (Jk (Z8 q) hp))];exact n
 there:=fun b u q _=>⟨u,k b u q⟩
 tups:=fun b xs q=>by rw[Jh (J4 q hn)];exact q
 frzs:=fun b u xs q=>by rw[Jh (J4 q hn)];exact q
 tbls:=fun b ps q=>⟨#[],by rw[Jh (J4 q hn),q];simp⟩
theorem Un.write(mu:Mut (H x))(he:e=x∨H e=some (.own x))(k:∀ b u,b≠e→h.get? b=some u→h'.get? b=some u)(heo:∃ u,h'.get? e=some u):Un fs ex H (upd H x o) h h':=by
 have hx:∀ b,H b=none→b≠x:=fun b n z=>by subst z;rw[n] at mu;exact mu
 have hb:∀ b,H b=none→b≠e:=fun b n z=>by
  subst z;rcases he with r | r
  ·exact hx b n r
  ·rw[n] at r;cases r
 have hm:∀ b u,H b=some u→¬ Mut (some u)→b≠x:=fun b u q nm z=>by subst z;rw[q] at mu;exact nm mu
 refine⟨fun b u q n _ _=>k b u (hb b n) q,fun b u q n _ _=>⟨u.slots,k b u (hb b n) q⟩,fun b u q n _=>by rw[Jh (hx b n)];exact n,fun b u q _=>?_,
  fun b xs q=>by rw[Jh (hm b _ q fun z=>z)];exact q,fun b u xs q=>by rw[Jh (hm b _ q fun z=>z)];exact q,fun b ps q=>⟨#[],by rw[Jh (hm b _ q fun z=>z),q];simp⟩⟩
 by_cases hbe:b=e
 ·subst hbe;exact heo
 ·exact⟨u,k b u hbe q⟩
end
def trk(h:Heap)(H:Hp):List Addr:=(List.range h.objs.size).filter fun a=>(H a).isSome
def Ai(h:Heap)(H:Hp):Heap:=W.hideAll h (trk h H)
theorem Zfj(h:Heap)(H:Hp):(Ai h H).objs.size=h.objs.size:=W.hideAll_size _ _
theorem Zjm{h:Heap}{H:Hp}{b:Addr}{o:Obj}(e:h.get? b=some o)(n:H b=none):(Ai h H).get? b=some o:=
 W.hideAll_get _ e fun hm=>by
  have q:(H b).isSome=true:=(List.mem_filter.mp hm).2;rw[n] at q;simp at q
theorem Zlr{h:Heap}{H:Hp}{b:Addr}{o:Obj}(e:(Ai h H).get? b=some o):h.get? b=some o∧H b=none:=by
 have e':h.get? b=some o:=W.of_hideAll (trk h H) e;refine⟨e',?_⟩;cases q:H b with
 | none=>rfl
 | some x=>
  have hm:b∈trk h H:=List.mem_filter.mpr ⟨Ya.mpr (Z8 e'),by simp [q]⟩;have z:(Ai h H).get? b=none:=W.hideAll_none (trk h H) hm;rw[z] at e;cases e
def Zmj(g h:Heap)(L:Addr):List (Addr×Obj):=(List.range h.objs.size).filterMap fun a=>if a=L∨(g.get? a).isSome=true then none else(h.get? a).map fun o=>(a,o)
def Nm(g h:Heap)(L d:Addr):List (Addr×Obj):=(Zmj g h L).filter fun p=>decide (p.1≠d)
structure Mod(K:W.Frag)(mg:Str→Option Value)(base:Heap):Prop where
 kin:K.In base
 glob:base.Ns mainGlobals mg
 blt:∃ mb,base.Ns builtinsNs mb∧∀ x:Str,x≠"__name__"→mb x=bootBuiltins x
 nolimit:base.NoLimit
structure Cx where
 prog:Program
 w:World
 K:W.Frag
 mg:Str→Option Value
 base:Heap
 A:Around
 N:List Str
 s₀:Shared
 H₀:Hp
 env:Env
 outer:List Env
 stack:List Env
 ex:List Addr
 fn:Str→Bool
 calm:Bool
 pn:List (Addr×Obj)
 xe:Value→Shared→Prop
def Ak(l:List Env):List Addr:=l.filterMap (·.frame)
abbrev Cx.fs(X:Cx):List Addr:=Ak X.outer
def Vis(sc:Scope)(x:Str):Prop:=sc.names.lookup x=some .local∨sc.names.lookup x=some .cell∨sc.names.lookup x=some .free
def Loc(sc:Scope)(x:Str):Prop:=sc.names.lookup x=some .local∨sc.names.lookup x=some .cell
def Zsj(env:Env)(h:Heap)(m:Str→Option Value)(x:Str)(u:Value):Prop:=
 (env.kindOf x=some .local∧m x=some u)∨((env.kindOf x=some .cell∨env.kindOf x=some .free)∧∃ c,env.cells.lookup x=some c∧h.IsCell c (some u))
structure Cx.Ok(X:Cx):Prop where
 mod:Mod X.K X.mg X.base
 kind:X.env.scope.kind = .function
 glob:X.env.globals=mainGlobals
 blt:X.env.builtins=builtinsNs
 above:X.s₀.heap.objs.size≤X.env.locals
 inj:∀ x y c,X.env.cells.lookup x=some c→X.env.cells.lookup y=some c→x=y
 has:∀ x,(X.env.kindOf x=some .cell∨X.env.kindOf x=some .free)→∃ c,X.env.cells.lookup x=some c
 cab:∀ x c,X.fn x=true→X.env.cells.lookup x=some c→X.s₀.heap.objs.size≤c
 hd:X.calm=true→X.A.handled=none
 frames:X.A.frames=some X.stack
 stk:X.stack=X.outer∨(X.stack=X.env :: X.outer∧X.env.frame=some X.env.locals)
 exf:∀ b∈X.ex,b≠X.env.locals∧∀ x c,X.env.cells.lookup x=some c→c≠b
 bs:∀ b o,X.base.get? b=some o→X.s₀.heap.get? b=some o∧X.H₀ b=none
 bsz:X.base.objs.size≤X.s₀.heap.objs.size
 noex:∀ b o,X.base.get? b=some o→b∉X.ex
 exfs:∀ b∈X.ex,b∉X.fs
 funs:X.s₀.heap.FunFrames X.base X.outer
 frf:∀ b∈X.fs,X.H₀ b=none
structure Inv(X:Cx)(pins:List (Addr×Obj))(σ:List (Option V))(H:Hp)(s:Shared):Prop where
 ok:X.Ok
 os:s.os=X.s₀.os
 bare:AllBare s.gens
 base:Un X.fs X.ex X.H₀ H X.s₀.heap s.heap
 loc:∃ m,s.heap.Ns X.env.locals m∧∀(i:Nat) (x:Str) (v:V),X.N[i]? = some x→σ[i]? = some (some v)→Vis X.env.scope x→∃ u,RelV v u∧Zsj X.env s.heap m x u
 cell:∀ x c,X.env.cells.lookup x=some c→∃ v,s.heap.IsCell c v
 free:H X.env.locals=none
 freeC:∀ x c,X.env.cells.lookup x=some c→H c=none
 pin:∀ p∈X.pn++pins,s.heap.get? p.1=some p.2∧H p.1=none∧p.1≠X.env.locals∧p.1∉X.fs∧∀ v,p.2.data ≠ .cell v
 hok:HOk X.prog X.w H s.heap
 len:σ.length=X.N.length
section
variable{X:Cx}{pins:List (Addr×Obj)}{σ:List (Option V)}{H H':Hp}{s:Shared}{h':Heap}
theorem Cx.Ok.nofr(ok:X.Ok){b:Addr}{o:Obj}(e:X.base.get? b=some o):b∉X.fs:=fun hb=>by
 have:=(ok.funs.mem hb).1;rw[e] at this;cases this
theorem Inv.bs(I:Inv X pins σ H s):∀ b o,X.base.get? b=some o→s.heap.get? b=some o∧H b=none:=fun b o e=>
 ⟨I.base.keep b o (I.ok.bs b o e).1 (I.ok.bs b o e).2 (I.ok.nofr e) (I.ok.noex b o e),I.base.free b o (I.ok.bs b o e).1 (I.ok.bs b o e).2 (I.ok.noex b o e)⟩
theorem Inv.bk(I:Inv X pins σ H s):∀ b o,X.base.get? b=some o→s.heap.get? b=some o:=fun b o e=>(I.bs b o e).1
theorem Inv.mod(I:Inv X pins σ H s):Mod X.K X.mg X.base:=I.ok.mod
theorem Inv.kIn(I:Inv X pins σ H s):X.K.In s.heap:=I.ok.mod.kin.keeps I.bk
theorem Inv.lt(I:Inv X pins σ H s):X.env.locals < s.heap.objs.size:=let ⟨_,hn,_⟩:=I.loc;hn.lt
theorem Inv.sz(I:Inv X pins σ H s):X.s₀.heap.objs.size≤s.heap.objs.size:=Jc I.ok.above (Uf I.lt)
theorem Inv.nofs(I:Inv X pins σ H s){a:Addr}(h:s.heap.objs.size≤a):a∉X.fs:=fun hb=>by
 obtain⟨_,o,ho,_⟩:=I.ok.funs.mem hb;exact absurd (Jk (Z8 ho) (Jc I.sz h)) (Nat.lt_irrefl _)
theorem Inv.cne(I:Inv X pins σ H s):∀ x c,X.env.cells.lookup x=some c→c≠X.env.locals:=fun x c e z=>by
 obtain⟨v,o,ho,hd⟩:=I.cell x c e;obtain⟨m,⟨o',es,ep,ho',hd',_⟩,_⟩:=I.loc;rw[z,ho'] at ho;cases ho;rw[hd'] at hd;cases hd
theorem Inv.funs(I:Inv X pins σ H s):s.heap.FunFrames X.base X.outer:=by
 have all:∀(l:List Env),(∀ b∈Ak l,b∈X.fs)→X.s₀.heap.FunFrames X.base l→s.heap.FunFrames X.base l:=by
  intro l
  induction l with
  | nil=>intro _ _;trivial
  | cons env r ih=>
   intro hs hl;obtain⟨hk,⟨L,o,hf,hn,ho,hd⟩,hr⟩:=hl;have hL:L∈X.fs:=hs L (by unfold Ak;rw[List.filterMap_cons,hf];exact Zy);obtain⟨sl,e⟩:=I.base.slot L o ho (I.ok.frf L hL) hL fun z=>I.ok.exfs L z hL;exact⟨hk,⟨L,_,hf,hn,e,hd⟩,ih (fun b hb=>hs b (by unfold Ak;rw[List.filterMap_cons,hf];exact Zz _ hb)) hr⟩
 exact all X.outer (fun _ hb=>hb) I.ok.funs
theorem Inv.stack(I:Inv X pins σ H s):s.heap.FunFrames X.base X.stack:=by
 rcases I.ok.stk with e | ⟨e,hf⟩
 ·rw[e];exact I.funs
 ·rw[e]
  obtain⟨m,hn,_⟩:=I.loc;refine .cons (by rw[I.ok.kind];decide) hf hn ?_ I.funs;exact Heap.get?_none_of_le (Jc I.ok.bsz I.ok.above)
theorem Inv.stkSub(I:Inv X pins σ H s):∀ b∈Ak X.stack,b∈X.env.locals :: X.fs:=fun b hb=>by
 rcases I.ok.stk with e | ⟨e,hf⟩
 ·rw[e] at hb;exact Zz _ hb
 ·rw[e] at hb
  unfold Ak at hb;rw[List.filterMap_cons,hf] at hb;exact hb
theorem Inv.stkFree(I:Inv X pins σ H s):∀ b∈Ak X.stack,H b=none:=fun b hb=>by
 rcases Je.mp (I.stkSub b hb) with e | hb
 ·rw[e];exact I.free
 ·obtain⟨_,o,ho,_⟩:=I.ok.funs.mem hb
  exact I.base.free b o ho (I.ok.frf b hb) fun z=>I.ok.exfs b z hb
theorem Inv.step{g':Array GenState}{t':Nat}{d':Drawn}{ch:List Addr}(I:Inv X pins σ H s)
  (hch:∀ b∈ch,(b∈X.ex∨X.s₀.heap.objs.size≤b)∧b≠X.env.locals∧(∀ x c,X.env.cells.lookup x=some c→c≠b)∧∀ p∈X.pn++pins,p.1≠b)
  (keep:∀ b o,b≠X.env.locals→b∉X.fs→b∉ch→s.heap.get? b=some o→H b=none→h'.get? b=some o)
  (slot:∀ b o,b≠X.env.locals→b∈X.fs→b∉ch→s.heap.get? b=some o→H b=none→∃ sl,h'.get? b=some { o with slots:=sl }) (free:∀ b o,b∉ch→s.heap.get? b=some o→H b=none→H' b=none)
  (there:∀ b o,b∉ch→s.heap.get? b=some o→∃ o',h'.get? b=some o')
  (tups:∀ b xs,H b=some (.tup xs)→H' b=some (.tup xs)) (frzs:∀ b o u,H b=some (.frz o u)→H' b=some (.frz o u)) (tbls:∀ b ps,H b=some (.tbl ps)→∃ more,H' b=some (.tbl (ps++more)))
  (ns:∀ m,s.heap.Ns X.env.locals m→h'.Ns X.env.locals m) (hok:HOk X.prog X.w H' h') (hg:AllBare g') :
  Inv X pins σ H' { s with heap:=h',gens:=g',drawn:=d',toks:=t' }:=by
 have neL:∀ b o,X.s₀.heap.get? b=some o→b≠X.env.locals:=fun b o e=>Jn (Jk (Z8 e) I.ok.above);have neC:∀ b o,X.s₀.heap.get? b=some o→b∉X.ex→b∉ch:=fun b o e hx hb=>by
  rcases(hch b hb).1 with z | z
  ·exact hx z
  ·exact absurd (Jk (Z8 e) z) (Nat.lt_irrefl _)
 have cellK:∀ x c,X.env.cells.lookup x=some c→∀ v,s.heap.IsCell c v→h'.IsCell c v:=fun x c e v ⟨o,ho,hd⟩=>by
  have nch:c∉ch:=fun z=>(hch c z).2.2.1 x c e rfl;by_cases hc:c∈X.fs
  ·obtain⟨sl,q⟩:=slot c o (I.cne x c e) hc nch ho (I.freeC x c e)
   exact⟨_,q,hd⟩
  ·exact⟨o,keep c o (I.cne x c e) hc nch ho (I.freeC x c e),hd⟩
 refine⟨I.ok,I.os,hg,⟨fun b o e n hb hx=>?_,fun b o e n hb hx=>?_,fun b o e n hx=>?_,fun b o e hx=>?_,fun b xs e=>tups b xs (I.base.tups b xs e),fun b o xs e=>frzs b o xs (I.base.frzs b o xs e),fun b ps e=>?_⟩,?_,fun x c e=>?_,?_,fun x c e=>?_,fun p hp=>?_,hok,I.len⟩
 ·exact keep b o (neL b o e) hb (neC b o e hx) (I.base.keep b o e n hb hx) (I.base.free b o e n hx)
 ·obtain⟨sl,e1⟩:=I.base.slot b o e n hb hx
  obtain⟨sl',e2⟩:=slot b _ (neL b o e) hb (neC b o e hx) e1 (I.base.free b o e n hx);exact⟨sl',e2⟩
 ·obtain⟨o',e1⟩:=I.base.there b o e hx
  exact free b o' (neC b o e hx) e1 (I.base.free b o e n hx)
 ·obtain⟨o',e1⟩:=I.base.there b o e hx
  exact there b o' (neC b o e hx) e1
 ·obtain⟨m1,e1⟩:=I.base.tbls b ps e
  obtain⟨m2,e2⟩:=tbls b _ e1;exact⟨m1++m2,by rw[e2,Array.append_assoc]⟩
 ·obtain⟨m,hn,hl⟩:=I.loc
  refine⟨m,ns m hn,fun i x v e1 e2 e3=>?_⟩;obtain⟨u,r,l⟩:=hl i x v e1 e2 e3;refine⟨u,r,?_⟩;rcases l with l | ⟨k,c,e,z⟩
  ·exact .inl l
  ·exact .inr ⟨k,c,e,cellK x c e _ z⟩
 ·obtain⟨v,z⟩:=I.cell x c e
  exact⟨v,cellK x c e v z⟩
 ·obtain⟨m,⟨o,_,_,ho,_⟩,_⟩:=I.loc
  exact free _ o (fun z=>(hch _ z).2.1 rfl) ho I.free
 ·obtain⟨v,o,ho,hd⟩:=I.cell x c e
  exact free c o (fun z=>(hch c z).2.2.1 x c e rfl) ho (I.freeC x c e)
 ·obtain⟨e,n,ne,nf,d⟩:=I.pin p hp
  have nch:p.1∉ch:=fun z=>(hch p.1 z).2.2.2 p hp rfl;exact⟨keep p.1 p.2 ne nf nch e n,free p.1 p.2 nch e n,ne,nf,d⟩
theorem Inv.un{t':Nat}(I:Inv X pins σ H s)(u:Un X.fs [] H H' s.heap h')(hok:HOk X.prog X.w H' h'):Inv X pins σ H' { s with heap:=h',toks:=t' }:=by
 obtain⟨m,⟨o,es,ep,ho,r⟩,_⟩:=id I.loc;obtain⟨sl,hL⟩:=u.any ho I.free (by simp);exact I.step (g':=s.gens) (d':=s.drawn) (ch:=[]) (fun _ z=>nomatch z) (fun b o _ hb _ e n=>u.keep b o e n hb (by simp)) (fun b o _ hb _ e n=>u.slot b o e n hb (by simp)) (fun b o _ e n=>u.free b o e n (by simp)) (fun b o _ e=>u.there b o e (by simp)) u.tups u.frzs u.tbls (fun m' hm=>by
  obtain⟨o',es',ep',ho',r'⟩:=hm;rw[ho] at ho';cases ho';exact⟨_,es',ep',hL,r'⟩) hok I.bare
theorem Inv.call{g':Array GenState}{t':Nat}{d':Drawn}{ch:List Addr}(I:Inv X pins σ H s)(u:Un (Ak X.stack) ch H H' s.heap h')(hok:HOk X.prog X.w H' h')(hg:AllBare g')
  (hch:∀ b∈ch,(b∈X.ex∨X.s₀.heap.objs.size≤b)∧b≠X.env.locals∧(∀ x c,X.env.cells.lookup x=some c→c≠b)∧∀ p∈X.pn++pins,p.1≠b) :
  Inv X pins σ H' { s with heap:=h',gens:=g',drawn:=d',toks:=t' }:=by
 obtain⟨m,⟨o,es,ep,ho,r⟩,_⟩:=id I.loc;obtain⟨sl,hL⟩:=u.any ho I.free fun z=>(hch _ z).2.1 rfl;exact I.step (ch:=ch) hch (fun b o hL hb hc e n=>u.keep b o e n (fun z=>(Je.mp (I.stkSub b z)).elim hL hb) hc) (fun b o _ _ hc e n=>u.any e n hc) (fun b o hc e n=>u.free b o e n hc) (fun b o hc e=>u.there b o e hc) u.tups u.frzs u.tbls (fun m' hm=>by
  obtain⟨o',es',ep',ho',r'⟩:=hm;rw[ho] at ho';cases ho';exact⟨_,es',ep',hL,r'⟩) hok hg
theorem Inv.turned{t':Nat}{it:Addr}(I:Inv X pins σ H s)(k:∀ b o,b≠it→s.heap.get? b=some o→h'.get? b=some o)(hn:H it=none)(hL:it≠X.env.locals)
  (h1:it∈X.ex∨X.s₀.heap.objs.size≤it) (h2:∀ x c,X.env.cells.lookup x=some c→c≠it) (h3:∀ p∈X.pn++pins,p.1≠it):Inv X pins σ H { s with heap:=h',toks:=t' }:=by
 have nit:∀ b u,H b=some u→b≠it:=fun b u e z=>by rw[z,hn] at e;cases e
 refine I.step (g':=s.gens) (d':=s.drawn) (ch:=[it]) (fun b hb=>?_) (fun b o _ _ hc e _=>k b o (fun z=>hc (by simp [z])) e) (fun b o _ _ hc e _=>⟨o.slots,k b o (fun z=>hc (by simp [z])) e⟩) (fun _ _ _ _ n=>n)
  (fun b o hc e=>⟨o,k b o (fun z=>hc (by simp [z])) e⟩) (fun _ _ e=>e) (fun _ _ _ e=>e) (fun b ps e=>⟨#[],by rw[e];simp⟩) (fun m hm=>?_) (fun b u e=>?_) I.bare
 ·have e:b=it:=by simpa using hb
  subst e;exact⟨h1,hL,h2,h3⟩
 ·obtain⟨o,es,ep,ho,r⟩:=hm
  exact⟨o,es,ep,k _ o (Ne.symm hL) ho,r⟩
 ·refine(I.hok b u e).stay (fun c v hc q=>k c v ?_ q) (fun _ q=>q) fun _ _ q=>q
  rcases hc with z | z
  ·rw[z];exact nit b u e
  ·exact nit c _ z
theorem Inv.tok(I:Inv X pins σ H s)(t:Nat):Inv X pins σ H { s with toks:=t }:=I.un (h':=s.heap) (t':=t) Un.refl I.hok
theorem Inv.kept{t':Nat}(I:Inv X pins σ H s)(k:∀ b u,s.heap.get? b=some u→h'.get? b=some u):Inv X pins σ H { s with heap:=h',toks:=t' }:=I.un (Un.kept k) (I.hok.kept k)
theorem Inv.laid{a:Addr}{o:HO}{t':Nat}(I:Inv X pins σ H s)(k:∀ b u,s.heap.get? b=some u→h'.get? b=some u)(hp:s.heap.objs.size≤a)(new:ObjOk X.prog X.w (upd H a o) h' a o) :
  Inv X pins σ (upd H a o) { s with heap:=h',toks:=t' }:=I.un (Un.laid k hp (I.hok.fresh hp)) (I.hok.laid k hp new)
theorem Inv.write{x e:Addr}{o:HO}{t':Nat}(I:Inv X pins σ H s)(mu:Mut (H x))(he:e=x∨H e=some (.own x))(k:∀ b u,b≠e→s.heap.get? b=some u→h'.get? b=some u)(heo:∃ u,h'.get? e=some u)
  (new:ObjOk X.prog X.w (upd H x o) h' x o):Inv X pins σ (upd H x o) { s with heap:=h',toks:=t' }:=I.un (Un.write mu he k heo) (I.hok.write mu he k heo new)
theorem Inv.pins_of{pins':List (Addr×Obj)}(I:Inv X pins σ H s)(h:∀ p∈pins',s.heap.get? p.1=some p.2∧H p.1=none∧p.1≠X.env.locals∧p.1∉X.fs∧∀ v,p.2.data ≠ .cell v):Inv X pins' σ H s:=
 ⟨I.ok,I.os,I.bare,I.base,I.loc,I.cell,I.free,I.freeC,fun p hp=>(Jm.mp hp).elim (fun z=>I.pin p (List.mem_append_left _ z)) (h p),I.hok,I.len⟩
theorem Sa{N:List Str}(hN:N.Nodup){i j:Nat}{x:Str}(a:N[i]? = some x)(b:N[j]? = some x):i=j:=by
 obtain⟨h1,e1⟩:=Zx.mp a;obtain⟨h2,e2⟩:=Zx.mp b;exact(List.getElem_inj hN).mp (e1.trans e2.symm)
theorem Ms{M:Model}{A:Around}{E:Value→Shared→Prop}{i:Nat}{x:Str}{v:V}{u:Value}{Q:Unit→Shared→Prop}(I:Inv X pins σ H s)(hN:X.N.Nodup)(hi:X.N[i]? = some x)(hx:Loc X.env.scope x)(r:RelV v u)
  (h:∀ s',Inv X pins (σ.set i (some v)) H s'→(∃ a,Heap.SameBut a s.heap s'.heap∧(a=X.env.locals∨X.env.cells.lookup x=some a))→Q () s') (hf:X.fn x=true∨X.env.scope.names.lookup x=some .local:=by first | exact .inl rfl | exact .inr rfl | assumption):wpAny M A (storeName X.env x u) Q E s:=by
 obtain⟨m,hn,hl⟩:=id I.loc;have hcls:(X.env.scope.kind == .class || (X.env.scope.kind == .module && X.env.locals != X.env.globals))=false:=by rw[I.ok.kind];rfl
 have hiσ:i < σ.length:=by rw[I.len];exact(Zx.mp hi).1
 have cne:=I.cne;have tracked:∀{a:Addr} {h':Heap},(∃ o,s.heap.get? a=some o∧H a=none)→Heap.SameBut a s.heap h'→HOk X.prog X.w H h':=fun {a h'} ha hs b ob e=>by
  obtain⟨_,_,hfree⟩:=ha;refine(I.hok b ob e).stay (fun c w' hc q=>(hs.2 c ?_).trans q) (fun _ q=>q) fun _ _ q=>q;rintro rfl;rcases hc with rfl | hc
  ·rw[hfree] at e;cases e
  ·rw[hfree] at hc;cases hc
 rcases hx with hk | hk
 ·refine wpAny_storeName_local hk hn (fun h' hn' hs=>?_) hcls
  obtain⟨oL,_,_,hoL,_⟩:=id hn;refine h _ ⟨I.ok,I.os,I.bare,⟨fun b o e n hb hx=>?_,fun b o e n hb hx=>?_,I.base.free,fun b o e hx=>?_,I.base.tups,I.base.frzs,I.base.tbls⟩,⟨_,hn',fun j y v' e1 e2 e3=>?_⟩,fun y c e=>?_,I.free,I.freeC,fun p hp=>?_,tracked ⟨oL,hoL,I.free⟩ hs,by simpa using I.len⟩ ⟨_,hs,.inl rfl⟩
  ·exact(hs.2 b (Jn (Jk (Z8 e) I.ok.above))).trans (I.base.keep b o e n hb hx)
  ·obtain⟨sl,e1⟩:=I.base.slot b o e n hb hx
   exact⟨sl,(hs.2 b (Jn (Jk (Z8 e) I.ok.above))).trans e1⟩
  ·obtain⟨o',e1⟩:=I.base.there b o e hx
   exact⟨o',(hs.2 b (Jn (Jk (Z8 e) I.ok.above))).trans e1⟩
  ·by_cases hj:j=i
   ·subst hj
    rw[hi] at e1;cases e1;rw[List.getElem?_set_self hiσ] at e2;cases e2;exact⟨u,r,.inl ⟨hk,by simp⟩⟩
   ·rw[List.getElem?_set_ne (Ne.symm hj)] at e2
    obtain⟨u',r',q⟩:=hl j y v' e1 e2 e3;refine⟨u',r',?_⟩;rcases q with⟨k,e⟩ | ⟨k,c,e,z⟩
    ·refine .inl ⟨k,?_⟩
     have:y≠x:=fun e=>hj (Sa hN e1 (e ▸ hi));simp [this,e]
    ·exact .inr ⟨k,c,e,z.sameBut hs (cne y c e)⟩
  ·obtain⟨w',z⟩:=I.cell y c e
   exact⟨w',z.sameBut hs (cne y c e)⟩
  ·obtain⟨e,n,ne,nf,d⟩:=I.pin p hp
   exact⟨(hs.2 p.1 ne).trans e,n,ne,nf,d⟩
 ·have hfn:X.fn x=true:=by
   rcases hf with z | z
   ·exact z
   ·rw[z] at hk;cases hk
  obtain⟨c,hc⟩:=I.ok.has x (.inl hk);obtain⟨w',z⟩:=I.cell x c hc;refine wpAny_storeName_cell I.ok.kind hk hc z (fun h' hc' hs=>?_);obtain⟨oc,hoc,hocd⟩:=id z;refine h { s with heap:=h' } ⟨I.ok,I.os,I.bare,⟨fun b o e n hb hx=>?_,fun b o e n hb hx=>?_,I.base.free,fun b o e hx=>?_,I.base.tups,I.base.frzs,I.base.tbls⟩,⟨m,hn.sameBut hs (Ne.symm (cne x c hc)),fun j y v' e1 e2 e3=>?_⟩,fun y c' e=>?_,I.free,I.freeC,fun p hp=>?_,tracked ⟨oc,hoc,I.freeC x c hc⟩ hs,by simpa using I.len⟩ ⟨c,hs,.inr hc⟩
  ·exact(hs.2 b (Jn (Jk (Z8 e) (I.ok.cab x c hfn hc)))).trans (I.base.keep b o e n hb hx)
  ·obtain⟨sl,e1⟩:=I.base.slot b o e n hb hx
   exact⟨sl,(hs.2 b (Jn (Jk (Z8 e) (I.ok.cab x c hfn hc)))).trans e1⟩
  ·obtain⟨o',e1⟩:=I.base.there b o e hx
   exact⟨o',(hs.2 b (Jn (Jk (Z8 e) (I.ok.cab x c hfn hc)))).trans e1⟩
  ·by_cases hj:j=i
   ·subst hj
    rw[hi] at e1;cases e1;rw[List.getElem?_set_self hiσ] at e2;cases e2;exact⟨u,r,.inr ⟨.inl hk,c,hc,hc'⟩⟩
   ·rw[List.getElem?_set_ne (Ne.symm hj)] at e2
    obtain⟨u',r',q⟩:=hl j y v' e1 e2 e3;refine⟨u',r',?_⟩;rcases q with q | ⟨k,c',e,z'⟩
    ·exact .inl q
    ·refine .inr ⟨k,c',e,z'.sameBut hs ?_⟩
     rintro rfl;exact hj (Sa hN e1 (I.ok.inj _ _ _ e hc ▸ hi))
  ·by_cases hcc:c'=c
   ·subst hcc;exact⟨_,hc'⟩
   ·obtain⟨w2,z2⟩:=I.cell y c' e
    exact⟨w2,z2.sameBut hs hcc⟩
  ·obtain⟨e,n,ne,nf,d⟩:=I.pin p hp
   refine⟨(hs.2 p.1 ?_).trans e,n,ne,nf,d⟩;intro q;rw[q,hoc] at e;have q':oc=p.2:=Z0 e;exact d w' (by rw[← q'];exact hocd)
theorem Ka{M:Model}{A:Around}{E:Value→Shared→Prop}{i:Nat}{x:Str}{v:V}{u:Value}{Q:Unit→Shared→Prop}(I:Inv X pins σ H s)(hN:X.N.Nodup)(hi:X.N[i]? = some x)(hx:Loc X.env.scope x)(r:RelV v u)
  (h:∀ s',Inv X pins (σ.set i (some v)) H s'→Q () s') (hf:X.fn x=true∨X.env.scope.names.lookup x=some .local:=by first | exact .inl rfl | exact .inr rfl | assumption):wpAny M A (storeName X.env x u) Q E s:=
 Ms I hN hi hx r (fun s' I' _=>h s' I') hf
theorem Inv.call'{s':Shared}{ch:List Addr}(I:Inv X pins σ H s)(ho:s'.os=s.os)(u:Un (Ak X.stack) ch H H' s.heap s'.heap)(hok:HOk X.prog X.w H' s'.heap)(hg:AllBare s'.gens)
  (hch:∀ b∈ch,(b∈X.ex∨X.s₀.heap.objs.size≤b)∧b≠X.env.locals∧(∀ x c,X.env.cells.lookup x=some c→c≠b)∧∀ p∈X.pn++pins,p.1≠b):Inv X pins σ H' s':=by
 obtain⟨h',g',d',t',o'⟩:=s';have e:o'=s.os:=ho;subst e;exact I.call (g':=g') (t':=t') (d':=d') u hok hg hch
end
abbrev XK:=Value→Option Addr→Hp→Prop
abbrev St:=List (Option V)
abbrev VK:=V→Hp→Prop
abbrev TE:=St→Hp→VK→Prop
abbrev TT:=St→Hp→(Bool→Hp→Prop)→Prop
abbrev TA:=St→Hp→(List V→Hp→Prop)→Prop
structure Ends where
 nx:St→Hp→Prop
 rt:VK
 bk:St→Hp→Prop:=fun _ _=>False
 ct:St→Hp→Prop:=fun _ _=>False
abbrev TS:=Ends→St→Hp→Prop
def EP(X:Cx)(pins:List (Addr×Obj))(σ:St)(Q:VK)(u:Value)(s':Shared):Prop:=∃ v H',Inv X pins σ H' s'∧RelV v u∧Q v H'
def TP(X:Cx)(pins:List (Addr×Obj))(σ:St)(Q:Bool→Hp→Prop)(b:Bool)(s':Shared):Prop:=∃ H',Inv X pins σ H' s'∧Q b H'
def AP(X:Cx)(pins:List (Addr×Obj))(σ:St)(Q:List V→Hp→Prop)(us:List Value)(s':Shared):Prop:=∃ vs H',Inv X pins σ H' s'∧Vals vs us∧Q vs H'
def SP(X:Cx)(pins:List (Addr×Obj))(D:Ends)(f:Flow)(s':Shared):Prop:=
 match f with
 | .next=>∃ σ' H',Inv X pins σ' H' s'∧D.nx σ' H'
 | .brk=>∃ σ' H',Inv X pins σ' H' s'∧D.bk σ' H'
 | .cont=>∃ σ' H',Inv X pins σ' H' s'∧D.ct σ' H'
 | .ret u=>∃ v σ' H',Inv X pins σ' H' s'∧RelV v u∧D.rt v H'
def PE(X:Cx)(e:Expr)(t:TE):Prop:=
 ∀(pins:List (Addr×Obj)) (s:Shared) (σ:St) (H:Hp) (Q:VK),Inv X pins σ H s→t σ H Q→wpAny (model X.prog X.w) X.A (eval e X.env) (EP X pins σ Q) X.xe s
def PT(X:Cx)(e:Expr)(t:TT):Prop:=
 ∀(pins:List (Addr×Obj)) (s:Shared) (σ:St) (H:Hp) (Q:Bool→Hp→Prop),Inv X pins σ H s→t σ H Q→wpAny (model X.prog X.w) X.A (isTrue e X.env (eval e X.env)) (TP X pins σ Q) X.xe s
def PW(X:Cx)(e:Expr)(t:TT):Prop:=
 ∀(whole:Sem Value) (pins:List (Addr×Obj)) (s:Shared) (σ:St) (H:Hp) (Q:Bool→Hp→Prop),Inv X pins σ H s→t σ H Q→wpAny (model X.prog X.w) X.A (isTrue e X.env whole) (TP X pins σ Q) X.xe s
theorem PW.pt{X:Cx}{e:Expr}{t:TT}(h:PW X e t):PT X e t:=h _
def PA(X:Cx)(es:List Expr)(t:TA):Prop:=
 ∀(pos:Pos) (pins:List (Addr×Obj)) (s:Shared) (σ:St) (H:Hp) (Q:List V→Hp→Prop),Inv X pins σ H s→t σ H Q→wpAny (model X.prog X.w) X.A (spliced (backTo pos (starEach es X.env))) (AP X pins σ Q) X.xe s
def PS(X:Cx)(st:Stmt)(t:TS):Prop:=
 ∀(pins:List (Addr×Obj)) (s:Shared) (σ:St) (H:Hp) (D:Ends),Inv X pins σ H s→t D σ H→wpAny (model X.prog X.w) X.A (exec st X.env) (SP X pins D) X.xe s
def PSs(X:Cx)(st:List Stmt)(t:TS):Prop:=
 ∀(pins:List (Addr×Obj)) (s:Shared) (σ:St) (H:Hp) (D:Ends),Inv X pins σ H s→t D σ H→wpAny (model X.prog X.w) X.A (execs st X.env) (SP X pins D) X.xe s
theorem Uc{α:Type}{t:Sem α}{Q Q':α→Shared→Prop}{M:Model}{A:Around}{E:Value→Shared→Prop}{s:Shared}(h:wpAny M A t Q E s)(hQ:∀ a s,Q a s→Q' a s):wpAny M A t Q' E s:=wpAny_mono h hQ fun _ _ x=>x
section
variable{X:Cx}
def Zpu(i:Nat):TE:=fun σ H Q=>∃ v,σ[i]? = some (some v)∧Q v H
def tC(v:V):TE:=fun _ H Q=>Q v H
theorem Zn5{i:Nat}{x:Str}{pos:Pos}(hN:X.N[i]? = some x)(hv:Vis X.env.scope x)(hd:(x == ("__debug__":Str))=false:=by decide)(hcd:(x == ("__classdict__":Str))=false:=by decide):PE X (.Name x pos) (Zpu i):=by
 intro pins s σ H Q I h;obtain⟨v,e,h⟩:=h;obtain⟨m,hn,hl⟩:=I.loc;obtain⟨u,r,l⟩:=hl i x v hN e hv;have fin:EP X pins σ Q u s:=⟨v,H,I,r,h⟩;rcases l with⟨hk,hm⟩ | ⟨hk,c,hc,hcell⟩
 ·exact wpAny_Name (wpAny_loadName_local I.ok.kind hk hn hm fin) hd
 ·rcases hk with hk | hk
  ·exact wpAny_Name (wpAny_loadName_cell I.ok.kind hk hc hcell fin) hd
  ·exact wpAny_Name (wpAny_loadName_free I.ok.kind hk hc hcell fin hcd) hd
theorem Zn{i j pos}:PE X (.Constant (.int i) j pos) (tC (.int i)):=fun _ _ _ H _ I h=>wpAny_Constant_int ⟨.int i,H,I.tok _,⟨_,rfl⟩,h⟩
theorem Up{b j pos}:PE X (.Constant (.bool b) j pos) (tC (.bl b)):=fun _ _ _ H _ I h=>Constant_bool ⟨.bl b,H,I,rfl,h⟩
theorem Q9{j pos}:PE X (.Constant .none j pos) (tC .non):=fun _ _ _ H _ I h=>Constant_none ⟨.non,H,I,rfl,h⟩
theorem Ub{x j pos}:PE X (.Constant (.str x) j pos) (tC (.str x)):=fun _ _ _ H _ I h=>Calls.Constant_str ⟨.str x,H,I.tok _,⟨_,rfl⟩,h⟩
def Gl(X:Cx)(x:Str):Prop:=X.env.kindOf x=some .globalImplicit
theorem Vp{E:Value→Shared→Prop}{pins:List (Addr×Obj)}{s:Shared}{σ:St}{H:Hp}{x:Str}{u:Value}{pos:Pos}{Q:Value→Shared→Prop}(I:Inv X pins σ H s)(hg:Gl X x)(hm:X.mg x=some u)(h:Q u s)
  (hd:(x == ("__debug__":Str))=false:=by decide):wpAny (model X.prog X.w) X.A (eval (.Name x pos) X.env) Q E s:=
 Calls.Name_function_global I.ok.kind hg (Calls.loadGlobal_global (by rw[I.ok.glob];exact I.mod.glob.keeps I.bk) hm h) hd
theorem T4{E:Value→Shared→Prop}{pins:List (Addr×Obj)}{s:Shared}{σ:St}{H:Hp}{x:Str}{u:Value}{pos:Pos}{Q:Value→Shared→Prop}(I:Inv X pins σ H s)(hg:Gl X x)(hm:X.mg x=none)(hv:bootBuiltins x=some u)(h:Q u s)
  (hn:x≠"__name__":=by decide) (hd:(x == ("__debug__":Str))=false:=by decide):wpAny (model X.prog X.w) X.A (eval (.Name x pos) X.env) Q E s:=by
 obtain⟨mb,h1,h2⟩:=I.mod.blt;exact Calls.Name_function_global I.ok.kind hg (Calls.loadGlobal_builtin (by rw[I.ok.glob];exact I.mod.glob.keeps I.bk) hm (by rw[I.ok.blt];exact h1.keeps I.bk) ((h2 x hn).trans hv) h) hd
theorem Y9{x:Str}{v:V}{u:Value}{pos:Pos}(hg:Gl X x)(hm:X.mg x=some u)(r:RelV v u)(hd:(x == ("__debug__":Str))=false:=by decide):PE X (.Name x pos) (tC v):=
 fun _ _ _ H _ I h=>Vp I hg hm ⟨v,H,I,r,h⟩ hd
theorem Bb{x:Str}{v:V}{u:Value}{pos:Pos}(hg:Gl X x)(hm:X.mg x=none)(hv:bootBuiltins x=some u)(r:RelV v u)(hn:x≠"__name__":=by decide)(hd:(x == ("__debug__":Str))=false:=by decide):PE X (.Name x pos) (tC v):=
 fun _ _ _ H _ I h=>T4 I hg hm hv ⟨v,H,I,r,h⟩ hn hd
variable{a b:Expr}{ta tb:TE}{pos:Pos}
def PC(X:Cx)(op:CmpOp)(a b:Expr)(t:TE):Prop:=
 ∀(pins:List (Addr×Obj)) (s:Shared) (σ:St) (H:Hp) (Q:VK),Inv X pins σ H s→t σ H Q →
  wpAny (model X.prog X.w) X.A (eval a X.env) (fun v s₁=>wpAny (model X.prog X.w) X.A (eval b X.env) (fun u s₂=>wpAny (model X.prog X.w) X.A (compareOp op v u) (EP X pins σ Q) X.xe s₂) X.xe s₁) X.xe s
def tB(t:TE):TT:=fun σ H Q=>t σ H fun x H1=>∃ c,x = .bl c∧Q c H1
theorem Zhj{op:CmpOp}{t:TE}(h:PC X op a b t)(h1:behindInMarks op b=false:=by first | exact nobehind _ (by decide) (by decide) | rfl):PT X (.Compare a [op] [b] pos) (tB t):=by
 intro pins s σ H Q I hw;refine wpAny_isTrue_Compare1 (Uc (h pins s σ H _ I hw) fun v s1 h1=>Uc h1 fun u s2 h2=>Uc h2 fun c s3 ⟨x,H1,I1,r1,q1⟩=>?_) h1;obtain⟨d,rfl,q⟩:=q1;cases r1;exact wpAny_truthy_bool ⟨H1,I1,q⟩
variable{tA tB':TT}{Nm:List Expr}
def Zrq(t u:TT):TT:=fun σ H Q=>t σ H fun c H1=>if c=true then u σ H1 Q else Q false H1
def tOr(t u:TT):TT:=fun σ H Q=>t σ H fun c H1=>if c=true then Q true H1 else u σ H1 Q
def Zrm(t:TT):TT:=fun σ H Q=>t σ H fun c H1=>Q (!c) H1
theorem Gg(ha:PT X a tA):PW X (.BoolOp .And [a] pos) tA:=by
 intro wh pins s σ H Q I h;refine isTrue_and (Uc (ha pins s σ H Q I h) fun c s1 e=>?_);cases c with
 | true=>exact isTrue_and_nil e
 | false=>exact e
theorem Qf(ha:PT X a tA):PW X (.BoolOp .Or [a] pos) tA:=by
 intro wh pins s σ H Q I h;refine isTrue_or (Uc (ha pins s σ H Q I h) fun c s1 e=>?_);cases c with
 | false=>exact isTrue_or_nil e
 | true=>exact e
theorem Tf(ha:PT X a tA)(hb:PW X (.BoolOp .And (b :: Nm) pos) tB'):PW X (.BoolOp .And (a :: b :: Nm) pos) (Zrq tA tB'):=by
 intro wh pins s σ H Q I h;refine isTrue_and (Uc (ha pins s σ H _ I h) fun c s1 ⟨H1,I1,q1⟩=>?_);cases c with
 | true=>exact hb wh pins s1 σ H1 Q I1 q1
 | false=>exact⟨H1,I1,q1⟩
theorem Qu(ha:PT X a tA)(hb:PW X (.BoolOp .Or (b :: Nm) pos) tB'):PW X (.BoolOp .Or (a :: b :: Nm) pos) (tOr tA tB'):=by
 intro wh pins s σ H Q I h;refine isTrue_or (Uc (ha pins s σ H _ I h) fun c s1 ⟨H1,I1,q1⟩=>?_);cases c with
 | true=>exact⟨H1,I1,q1⟩
 | false=>exact hb wh pins s1 σ H1 Q I1 q1
theorem X7(ha:PT X a tA):PT X (.UnaryOp .Not a pos) (Zrm tA):=by
 intro pins s σ H Q I h;exact isTrue_not (ha pins s σ H (fun c H1=>Q (!c) H1) I h)
def Zp4(ta tb:TE):TE:=fun σ H Q=>ta σ H fun x H1=>∃ c,x = .bl c∧if c=true then tb σ H1 Q else Q (.bl false) H1
def Zrl(ta tb:TE):TE:=fun σ H Q=>ta σ H fun x H1=>∃ c,x = .bl c∧if c=true then Q (.bl true) H1 else tb σ H1 Q
def Zpy(ta:TE):TE:=fun σ H Q=>ta σ H fun x H1=>∃ c,x = .bl c∧Q (.bl (!c)) H1
theorem U8{op}{t:TE}(h:PE X a t):PE X (.BoolOp op [a] pos) t:=fun pins s σ H Q I hw=>BoolOp_one (h pins s σ H Q I hw)
theorem Xz(ha:PE X a ta)(hb:PE X (.BoolOp .And (b :: Nm) pos) tb):PE X (.BoolOp .And (a :: b :: Nm) pos) (Zp4 ta tb):=by
 intro pins s σ H Q I h;refine BoolOp_and (Uc (ha pins s σ H _ I h) fun v s1 ⟨x,H1,I1,r1,q1⟩=>?_);obtain⟨c,rfl,q1⟩:=q1;cases r1;refine wpAny_truthy_bool ?_;cases c with
 | true=>exact hb pins s1 σ H1 Q I1 q1
 | false=>exact⟨.bl false,H1,I1,rfl,q1⟩
theorem Kq(ha:PE X a ta)(hb:PE X (.BoolOp .Or (b :: Nm) pos) tb):PE X (.BoolOp .Or (a :: b :: Nm) pos) (Zrl ta tb):=by
 intro pins s σ H Q I h;refine BoolOp_or (Uc (ha pins s σ H _ I h) fun v s1 ⟨x,H1,I1,r1,q1⟩=>?_);obtain⟨c,rfl,q1⟩:=q1;cases r1;refine wpAny_truthy_bool ?_;cases c with
 | false=>exact hb pins s1 σ H1 Q I1 q1
 | true=>exact⟨.bl true,H1,I1,rfl,q1⟩
theorem Zn7(ha:PE X a ta):PE X (.UnaryOp .Not a pos) (Zpy ta):=by
 intro pins s σ H Q I h;refine UnaryOp_ (Uc (ha pins s σ H _ I h) fun v s1 ⟨x,H1,I1,r1,q1⟩=>?_);obtain⟨c,rfl,q1⟩:=q1;cases r1;exact not_of (wpAny_truthy_bool ⟨.bl (!c),H1,I1,rfl,q1⟩)
def tIf(t:TT)(ta tb:TE):TE:=fun σ H Q=>t σ H fun c H1=>if c=true then ta σ H1 Q else tb σ H1 Q
theorem Er{c:Expr}(hc:PT X c tA)(ha:PE X a ta)(hb:PE X b tb):PE X (.IfExp c a b pos) (tIf tA ta tb):=by
 intro pins s σ H Q I h;refine wpAny_IfExp (Uc (hc pins s σ H _ I h) fun d s1 ⟨H1,I1,q1⟩=>?_);cases d with
 | true=>exact ha pins s1 σ H1 Q I1 q1
 | false=>exact hb pins s1 σ H1 Q I1 q1
end
def SqL(K:W.Frag)(H:Hp)(a:Addr)(xs:List V):Prop:=
 Rd H a (.lst xs) ∨
  ∃(o:Obj) (its:Array Value) (n:Nat),K.lookup a=some o∧o.cls = .type "list"∧o.dict=none∧o.data = .seq its n∧its.size≤sizeLine∧Vals xs its.toList
def SqT(K:W.Frag)(H:Hp)(a:Addr)(xs:List V):Prop:=
 Rd H a (.tup xs) ∨
  ∃(o:Obj) (its:Array Value) (n:Nat),K.lookup a=some o∧o.cls = .type "tuple"∧o.data = .seq its n∧its.size≤sizeLine∧Vals xs its.toList
def Zse:Value→Option V
 | .none=>some .non
 | .bool b=>some (.bl b)
 | .int i _=>some (.int i)
 | .str x _=>some (.str x)
 | .bytes b _=>some (.byt b)
 | .float b _=>some (.flt b)
 | .ref a=>some (.ref a)
 | .type n=>some (.ty n)
 | _=>none
theorem RelV.abs{x:V}{u:Value}(r:RelV x u):Zse u=some x:=by
 cases x with
 | non=>cases r;rfl
 | bl _=>cases r;rfl
 | int _=>obtain⟨t,rfl⟩:=r;rfl
 | str _=>obtain⟨t,rfl⟩:=r;rfl
 | byt _=>obtain⟨t,rfl⟩:=r;rfl
 | flt _=>obtain⟨t,rfl⟩:=r;rfl
 | ref _=>cases r;rfl
 | ty _=>cases r;rfl
theorem RelV.inj{x y:V}{u:Value}(r:RelV x u)(q:RelV y u):x=y:=Z0 (r.abs.symm.trans q.abs)
theorem Vals.inj:∀{xs ys:List V} {us:List Value},Vals xs us→Vals ys us→xs=ys
 | _,_,_,.nil,.nil=>rfl
 | _,_,_,.cons r t,.cons r' t'=>by rw[r.inj r',Vals.inj t t']
section
variable{X:Cx}{pins:List (Addr×Obj)}{σ:St}{H:Hp}{s:Shared}{a:Addr}{xs ys:List V}
theorem SqL.of{K:W.Frag}(h:H a=some (.lst xs)):SqL K H a xs:=.inl (.inl h)
theorem SqT.of{K:W.Frag}(h:H a=some (.tup xs)):SqT K H a xs:=.inl (.inl h)
theorem Inv.list(I:Inv X pins σ H s)(h:SqL X.K H a xs):∃ its:List Value,Vals xs its∧PlainL s.heap a its.toArray∧xs.length≤sizeLine:=by
 rcases h with h | ⟨o,its,n,hk,hc,hd,hs,hz,r⟩
 ·obtain⟨z,its,n,r,e⟩:=h.ok I.hok
  exact⟨its,r,⟨_,n,e,rfl,rfl,rfl⟩,z⟩
 ·refine⟨its.toList,r,⟨o,n,I.kIn a o hk,hc,hd,by simpa using hs⟩,?_⟩
  have e:=r.length;simp only[Array.length_toList] at e;omega
theorem Inv.tuple(I:Inv X pins σ H s)(h:SqT X.K H a xs):∃ its:List Value,Vals xs its∧IsTup s.heap a its.toArray∧xs.length≤sizeLine:=by
 rcases h with h | ⟨o,its,n,hk,hc,hs,hz,r⟩
 ·obtain⟨z,its,r,p⟩:=h.ok I.hok
  exact⟨its,r,p,z⟩
 ·refine⟨its.toList,r,⟨o,I.kIn a o hk,hc,n,by simpa using hs⟩,?_⟩
  have e:=r.length;simp only[Array.length_toList] at e;omega
theorem Inv.list_inj(I:Inv X pins σ H s)(h:SqL X.K H a xs)(h':SqL X.K H a ys):xs=ys:=by
 obtain⟨its,r,⟨o,n,e,_,_,d⟩,_⟩:=I.list h;obtain⟨its',r',⟨o',n',e',_,_,d'⟩,_⟩:=I.list h';rw[e] at e';cases e';rw[d] at d';injection d' with d1 _
 have:its=its':=by simpa using congrArg Array.toList d1
 subst this;exact r.inj r'
theorem Inv.tuple_inj(I:Inv X pins σ H s)(h:SqT X.K H a xs)(h':SqT X.K H a ys):xs=ys:=by
 obtain⟨its,r,⟨o,e,_,n,d⟩,_⟩:=I.tuple h;obtain⟨its',r',⟨o',e',_,n',d'⟩,_⟩:=I.tuple h';rw[e] at e';cases e';rw[d] at d';injection d' with d1 _
 have:its=its':=by simpa using congrArg Array.toList d1
 subst this;exact r.inj r'
end
abbrev Cx.wish(X:Cx)(E:Value→Shared→Prop):Cx:={ X with xe:=E }
abbrev Cx.nox(X:Cx):Cx:=X.wish fun _ _=>False
theorem Cx.Ok.wish{X:Cx}(ok:X.Ok)(E:Value→Shared→Prop):(X.wish E).Ok:=
 ⟨ok.mod,ok.kind,ok.glob,ok.blt,ok.above,ok.inj,ok.has,ok.cab,ok.hd,ok.frames,ok.stk,ok.exf,ok.bs,ok.bsz,ok.noex,ok.exfs,ok.funs,ok.frf⟩
theorem Cx.Ok.unwish{X:Cx}{E:Value→Shared→Prop}(ok:(X.wish E).Ok):X.Ok:=
 ⟨ok.mod,ok.kind,ok.glob,ok.blt,ok.above,ok.inj,ok.has,ok.cab,ok.hd,ok.frames,ok.stk,ok.exf,ok.bs,ok.bsz,ok.noex,ok.exfs,ok.funs,ok.frf⟩
section
variable{X:Cx}{pins:List (Addr×Obj)}{σ:St}{H:Hp}{s:Shared}{E:Value→Shared→Prop}
theorem Inv.wish(I:Inv X pins σ H s)(E:Value→Shared→Prop):Inv (X.wish E) pins σ H s:=⟨I.ok.wish E,I.os,I.bare,I.base,I.loc,I.cell,I.free,I.freeC,I.pin,I.hok,I.len⟩
theorem Inv.unwish(I:Inv (X.wish E) pins σ H s):Inv X pins σ H s:=⟨I.ok.unwish,I.os,I.bare,I.base,I.loc,I.cell,I.free,I.freeC,I.pin,I.hok,I.len⟩
theorem SP.unwish{D:Ends}{f:Flow}{s':Shared}(h:SP (X.wish E) pins D f s'):SP X pins D f s':=by
 cases f with
 | next=>obtain⟨σ',H',I,q⟩:=h;exact⟨σ',H',I.unwish,q⟩
 | brk=>obtain⟨σ',H',I,q⟩:=h;exact⟨σ',H',I.unwish,q⟩
 | cont=>obtain⟨σ',H',I,q⟩:=h;exact⟨σ',H',I.unwish,q⟩
 | ret u=>obtain⟨v,σ',H',I,r,q⟩:=h;exact⟨v,σ',H',I.unwish,r,q⟩
theorem PSs.nox{st:List Stmt}{t:TS}(h:PSs X.nox st t):PSs X st t:=fun pins s σ H D I hw=>
 wpAny_mono (h pins s σ H D (I.wish _) hw) (fun _ _ q=>q.unwish) fun _ _ z=>False.elim z
end
section
variable{X:Cx}{st:Stmt}{Nm:List Stmt}{t u:TS}{e:Expr}{te:TE}{pos:Pos}
def Zmn:TS:=fun D σ H=>D.nx σ H
def Zgj(t u:TS):TS:=fun D σ H=>t { D with nx:=u D } σ H
theorem Jl:PSs X [] Zmn:=fun _ _ σ H _ I h=>wpAny_execs_nil ⟨σ,H,I,h⟩
theorem Zh(h1:PS X st t)(h2:PSs X Nm u):PSs X (st :: Nm) (Zgj t u):=by
 intro pins s σ H D I h;refine wpAny_execs_cons (Uc (h1 pins s σ H { D with nx:=u D } I h) fun f s1 q=>?_);cases f with
 | next=>
  obtain⟨σ',H',I',q⟩:=q;exact h2 pins s1 σ' H' D I' q
 | ret v=>exact q
 | brk=>exact q
 | cont=>exact q
theorem Zm(h1:PS X st t):PSs X [st] t:=by
 intro pins s σ H D I h;refine wpAny_execs_cons (Uc (h1 pins s σ H D I h) fun f s1 q=>?_);cases f with
 | next=>exact wpAny_execs_nil q
 | ret v=>exact q
 | brk=>exact q
 | cont=>exact q
theorem Inv.quiet{pins:List (Addr×Obj)}{σ:St}{H:Hp}{s:Shared}(I:Inv X pins σ H s):interactive X.env=false:=by simp [interactive,I.ok.kind]
def Zp1(te:TE):TS:=fun D σ H=>te σ H fun _ H1=>D.nx σ H1
theorem X8(he:PE X e te)(hs:swapsWith e none pos.line X.env=pure false:=by rfl):PS X (.Expr e pos) (Zp1 te):=by
 intro pins s σ H D I h;exact wpAny_Expr_any (Uc (he pins s σ H _ I h) fun v s1 ⟨x,H1,I1,r1,q1⟩=>⟨σ,H1,I1,q1⟩) I.quiet hs
def Zrk(te:TE):TS:=fun D σ H=>te σ H D.rt
theorem Z9(he:PE X e te):PS X (.Return (some e) pos) (Zrk te):=by
 intro pins s σ H D I h;exact wpAny_Return_some (Uc (he pins s σ H _ I h) fun v s1 ⟨x,H1,I1,r1,q1⟩=>⟨x,σ,H1,I1,r1,q1⟩)
def Zpw:TS:=fun D _ H=>D.rt .non H
theorem Zcy:PS X (.Return none pos) Zpw:=fun _ _ σ H _ I h=>wpAny_Return_none ⟨.non,σ,H,I,rfl,h⟩
def Zp0(c:TT)(t u:TS):TS:=fun D σ H=>c σ H fun b H1=>if b=true then t D σ H1 else u D σ H1
theorem J5{c:Expr}{a b:List Stmt}{tc:TT}(hc:PT X c tc)(ha:PSs X a t)(hb:PSs X b u):PS X (.If c a b pos) (Zp0 tc t u):=by
 intro pins s σ H D I h;refine wpAny_If (Uc (hc pins s σ H _ I h) fun d s1 ⟨H1,I1,q1⟩=>?_);cases d with
 | true=>exact ha pins s1 σ H1 D I1 q1
 | false=>exact hb pins s1 σ H1 D I1 q1
def Znd:TS:=fun _ _ _=>False
theorem Kl:PS X st Znd:=fun _ _ _ _ _ _ h=>h.elim
end
abbrev TG:=V→St→Hp→(St→Hp→Prop)→Prop
abbrev TGs:=List V→St→Hp→(St→Hp→Prop)→Prop
def PG(X:Cx)(target:Expr)(t:TG):Prop:=
 ∀(pins:List (Addr×Obj)) (s:Shared) (σ:St) (H:Hp) (v:V) (u:Value) (Q:St→Hp→Prop),Inv X pins σ H s→RelV v u→t v σ H Q →
  wpAny (model X.prog X.w) X.A (assign target X.env u) (fun _ s'=>∃ σ' H',Inv X pins σ' H' s'∧Q σ' H') X.xe s
def PGs(X:Cx)(ts:List Expr)(t:TGs):Prop:=
 ∀(pins:List (Addr×Obj)) (s:Shared) (σ:St) (H:Hp) (vs:List V) (us:List Value) (Q:St→Hp→Prop),Inv X pins σ H s→Vals vs us→t vs σ H Q →
  wpAny (model X.prog X.w) X.A (assignInOrder ((assignEach ts X.env).map (·.2)) us) (fun _ s'=>∃ σ' H',Inv X pins σ' H' s'∧Q σ' H') X.xe s
abbrev Zpj:=V→V→V→Hp→(Hp→Prop)→Prop
def Zq3(X:Cx)(t:Zpj):Prop:=
 ∀(pins:List (Addr×Obj)) (s:Shared) (σ:St) (H:Hp) (o i v:V) (ov iv u:Value) (Q:Hp→Prop),Inv X pins σ H s→RelV o ov→RelV i iv→RelV v u→t o i v H Q →
  wpAny (model X.prog X.w) X.A (setItem ov iv u) (fun _ s'=>∃ H',Inv X pins σ H' s'∧Q H') X.xe s
section
variable{X:Cx}{pos:Pos}
def Qy(i:Nat):TG:=fun v σ H Q=>Q (σ.set i (some v)) H
theorem Jj{i:Nat}{x:Str}(hN:X.N.Nodup)(hi:X.N[i]? = some x)(hx:Loc X.env.scope x)(hf:X.fn x=true∨X.env.scope.names.lookup x=some .local:=by first | exact .inl rfl | exact .inr rfl | assumption):PG X (.Name x pos) (Qy i):=by
 intro pins s σ H v u Q I r h;exact wpAny_assign_Name (Ka I hN hi hx r (fun s' I'=>⟨_,H,I',h⟩) hf)
def Zpb:TGs:=fun vs σ H Q=>vs=[]∧Q σ H
def Sq(t:TG)(u:TGs):TGs:=fun vs σ H Q=>∃ v r,vs=v :: r∧t v σ H fun σ' H'=>u r σ' H' Q
theorem Xt:PGs X [] Zpb:=by
 intro pins s σ H vs us Q I r h;obtain⟨e,h⟩:=h;subst e;cases r;exact assignInOrder_nil ⟨σ,H,I,h⟩
theorem J6{e:Expr}{es:List Expr}{t:TG}{u:TGs}(h1:PG X e t)(h2:PGs X es u)
  (hs:(assignEach (e :: es) X.env).map (·.2)=assign e X.env :: (assignEach es X.env).map (·.2):=by rfl):PGs X (e :: es) (Sq t u):=by
 intro pins s σ H vs us Q I r h;obtain⟨v,vr,e1,h⟩:=h;subst e1;cases r with
 | cons r rr=>
  rw[hs];refine assignInOrder_cons (Uc (h1 pins s σ H _ _ _ I r h) fun _ s1 ⟨σ1,H1,I1,q1⟩=>?_);exact h2 pins s1 σ1 H1 _ _ Q I1 rr q1
def Zl8(K:W.Frag)(n:Nat)(t:TGs):TG:=fun v σ H Q=>∃ a xs,v = .ref a∧SqT K H a xs∧xs.length=n∧t xs σ H Q
theorem No{es:List Expr}{k:Nat}{t:TGs}{n:Nat}(hc:X.calm=true)(h:PGs X es t)
  (hn:(assignEach es X.env).length=n:=by rfl) (hst:(assignEach es X.env).findIdx? (·.1)=none:=by rfl):PG X (.Tuple es k pos) (Zl8 X.K n t):=by
 intro pins s σ H v u Q I r hw;obtain⟨a,xs,e1,hq,hl,hw⟩:=hw;subst e1;cases r;obtain⟨its,rv,ht,hz⟩:=I.tuple hq;refine assign_Tuple_tuple (I.ok.hd hc) ht (by simp [hn,← hl,rv.length]) hst fun h' hx=>?_;have I1:Inv X pins σ H { s with heap:=h' }:=I.kept (t':=s.toks) fun b o e=>hx b o (Jn (Z8 e)) e;exact h pins _ σ H xs _ Q I1 (by simpa using rv) hw
def Zsa(to ti:TE)(t:Zpj):TG:=fun v σ H Q=>to σ H fun o H1=>ti σ H1 fun i H2=>t o i v H2 fun H3=>Q σ H3
theorem Zhs{o i:Expr}{to ti:TE}{t:Zpj}(ho:PE X o to)(hi:PE X i ti)(hs:Zq3 X t)
  (ha:∀ v,assign (.Subscript o i pos) X.env v=(do
   let ov ← holding [v] (eval o X.env)
   let iv ← holding [v,ov] (eval i X.env)
   standAt pos
   holding [v,ov,iv] (setItem ov iv v)
   release [v,ov,iv] []):=by intro _;rfl):PG X (.Subscript o i pos) (Zsa to ti t):=by
 intro pins s σ H v u Q I r h;rw[ha];refine Zb (wpAny_holding (Uc (ho pins s σ H _ I h) fun ov s1 ⟨x,H1,I1,r1,q1⟩=>?_));refine Zb (wpAny_holding (Uc (hi pins s1 σ H1 _ I1 q1) fun iv s2 ⟨y,H2,I2,r2,q2⟩=>?_));refine Zb (wpAny_standAt (Zb (wpAny_holding (Uc (hs pins s2 σ H2 x y v ov iv u _ I2 r1 r2 r q2) fun _ s3 ⟨H3,I3,q3⟩=>?_))));exact wpAny_release ⟨σ,H3,I3,q3⟩
def Zkk(te:TE)(g:TG):TS:=fun D σ H=>te σ H fun x H1=>g x σ H1 D.nx
theorem Br{tg e:Expr}{te:TE}{g:TG}(he:PE X e te)(hg:PG X tg g)(hs:swapsWithSole [tg] e pos.line X.env=pure false:=by rfl)(hw:swappedStores [tg] e X.env=pure none:=by rfl)
  (h1:(assignEach [tg] X.env).map (·.2)=[assign tg X.env]:=by rfl):PS X (.Assign [tg] e pos) (Zkk te g):=by
 intro pins s σ H D I h;refine wpAny_Assign_stores (Uc (he pins s σ H _ I h) fun v s1 ⟨x,H1,I1,r1,q1⟩=>?_) hs hw;rw[h1];exact Uc (hg pins s1 σ H1 x v _ I1 r1 q1) fun _ s2 q=>q
theorem Jf{i:Nat}{x:Str}{e:Expr}{te:TE}{pos':Pos}(hN:X.N.Nodup)(hi:X.N[i]? = some x)(hx:Loc X.env.scope x)(he:PE X e te)(hs:swapsWith e (some (.Name x pos')) pos.line X.env=pure false:=by rfl)(hf:X.fn x=true∨X.env.scope.names.lookup x=some .local:=by first | exact .inl rfl | exact .inr rfl | assumption) :
  PS X (.Assign [.Name x pos'] e pos) (Zkk te (Qy i)):=by
 intro pins s σ H D I h;refine wpAny_Assign_Name (Uc (he pins s σ H _ I h) fun v s1 ⟨y,H1,I1,r1,q1⟩=>?_) hs;exact Ka I1 hN hi hx r1 (fun s2 I2=>⟨_,H1,I2,q1⟩) hf
def Zgi(c:TT)(tb:TS):TS:=fun D σ H=>∃ W:Nat→St→Hp→Prop,(∃ m,W m σ H)∧∀ m σ H,W m σ H →
 c σ H fun b H1=>if b=true then ∃ N:St→Hp→Prop,(∀ σ' H',N σ' H'→∃ m',m' < m∧W m' σ' H')∧tb { D with nx:=N,ct:=N,bk:=D.nx } σ H1 else D.nx σ H1
theorem Kk{c:Expr}{body:List Stmt}{tc:TT}{tb:TS}(hp:PassesOwn (model X.prog X.w) X.A X.env X.xe)(hc:PT X c tc)(hb:PSs X body tb):PS X (.While c body [] pos) (Zgi tc tb):=by
 intro pins s σ H D I h;obtain⟨W,⟨m0,w0⟩,turn⟩:=h;refine wpAny_While (codeAny_whileLoop (fun n s'=>∃ σ' H',Inv X pins σ' H' s'∧W n σ' H') ?_ m0 ⟨σ,H,I,w0⟩);rintro n s1 ⟨σ1,H1,I1,w1⟩;refine wpAny_passesOwn hp (Uc (hc pins s1 σ1 H1 _ I1 (turn n σ1 H1 w1)) fun b s2 ⟨H2,I2,q2⟩=>?_);cases b with
 | true=>
  obtain⟨N,hN,q2⟩:=q2;rw[Zu rfl];refine wpAny_passesOwn hp (Uc (hb pins s2 σ1 H2 _ I2 q2) fun f s3 q3=>?_);cases f with
  | next=>
   obtain⟨σ3,H3,I3,n3⟩:=q3;obtain⟨m',hm,w3⟩:=hN σ3 H3 n3;exact⟨m',hm,σ3,H3,I3,w3⟩
  | cont=>
   obtain⟨σ3,H3,I3,n3⟩:=q3;obtain⟨m',hm,w3⟩:=hN σ3 H3 n3;exact⟨m',hm,σ3,H3,I3,w3⟩
  | brk=>exact q3
  | ret v=>exact q3
 | false=>
  rw[Zk Zr];exact wpAny_execs_nil ⟨σ1,H2,I2,q2⟩
end
structure It where
 go:Nat→Hp→Prop
 yld:Nat→Hp→V→Hp→Prop
 stop:Nat→Hp→Prop
def R5(X:Cx)(pins:List (Addr×Obj))(H:Hp)(b:Addr):Prop:=
 H b=none∧b≠X.env.locals∧b∉X.fs∧(b∈X.ex∨X.s₀.heap.objs.size≤b)∧(∀ x c,X.env.cells.lookup x=some c→c≠b)∧∀ p∈X.pn++pins,p.1≠b
theorem Inv.fpOk{X:Cx}{pins:List (Addr×Obj)}{σ:St}{H H':Hp}{s:Shared}{b:Addr}(I:Inv X pins σ H s)(hb:s.heap.objs.size≤b)(hn:H' b=none):R5 X pins H' b:=by
 refine⟨hn,Nat.ne_of_gt (Jk I.lt hb),I.nofs hb,.inr (Jc I.sz hb),fun x c e z=>?_,fun p hp z=>?_⟩
 ·obtain⟨v,q⟩:=I.cell x c e
  exact absurd (Jk q.lt (by rw[z];exact hb)) (Nat.lt_irrefl _)
 ·exact absurd (Jk (Z8 (I.pin p hp).1) (by rw[z];exact hb)) (Nat.lt_irrefl _)
structure Turn(P:Program)(w:World)(K:W.Frag)(tg:Expr)(J:It)(fp:List Addr)(it:Addr)(tn:Nat→Heap→Prop):Prop where
 mem:it∈fp
 obj:∀ i h,tn i h→∀ b∈fp,∃ o,h.get? b=some o∧∀ v,o.data ≠ .cell v
 keep:∀ i h h',tn i h→(∀ b∈fp,∀ o,h.get? b=some o→h'.get? b=some o)→tn i h'
 item:∀(X:Cx),X.prog=P→X.w=w→X.K=K→X.calm=true→∀(i:Nat) (pins:List (Addr×Obj)) (s:Shared) (σ:St) (H:Hp) (E:Value→Shared→Prop),Inv X pins σ H s→(∀ b∈fp,R5 X pins H b)→tn i s.heap→J.go i H →
  wpAny (model P w) X.A (pyNext (.ref it)) (fun r s1=>∃ u,r=some u ∧
   wpAny (model P w) X.A (letOwnedTupleGo tg (.ref it) u) (fun _ s2=>∃ x H',Inv X pins σ H' s2∧RelV x u∧J.yld i H x H'∧tn (i+1) s2.heap∧∀ b∈fp,H' b=none) E s1) E s
 done:∀(X:Cx),X.prog=P→X.w=w→X.K=K→X.calm=true→∀(i:Nat) (pins:List (Addr×Obj)) (s:Shared) (σ:St) (H:Hp) (E:Value→Shared→Prop),Inv X pins σ H s→(∀ b∈fp,R5 X pins H b)→tn i s.heap→J.stop i H →
  wpAny (model P w) X.A (pyNext (.ref it)) (fun r s1=>r=none∧Inv X pins σ H s1) E s
 self:∀(A:Around) (i:Nat) (s:Shared) (Q:Value→Shared→Prop) (E:Value→Shared→Prop),tn i s.heap→Q (.ref it) s→wpAny (model P w) A (pyIter (.ref it)) Q E s
abbrev TI:=St→Hp→(It→Hp→Prop)→Prop
def PIE(X:Cx)(pins:List (Addr×Obj))(σ:St)(tg:Expr)(R:It→Hp→Prop)(itv:Value)(s2:Shared):Prop:=
 ∃(it:Addr) (fp:List Addr) (tn:Nat→Heap→Prop) (J:It) (H':Hp),itv = .ref it∧Inv X pins σ H' s2∧Turn X.prog X.w X.K tg J fp it tn∧tn 0 s2.heap∧(∀ b∈fp,R5 X pins H' b)∧R J H'
def PI(X:Cx)(tg iter:Expr)(wi:TI):Prop:=
 ∀(pins:List (Addr×Obj)) (s:Shared) (σ:St) (H:Hp) (R:It→Hp→Prop),Inv X pins σ H s→wi σ H R →
  wpAny (model X.prog X.w) X.A (eval iter X.env) (fun v s1=>wpAny (model X.prog X.w) X.A (pyIter v) (PIE X pins σ tg R) X.xe s1) X.xe s
theorem Sl{M:Model}{A:Around}{E:Value→Shared→Prop}{s:Shared}{tg:Expr}{it:Addr}{u:Value}{o:Obj}{n:String}{vs:Array Value}{Q:Unit→Shared→Prop}(ho:s.heap.get? it=some o)(hc:o.cls = .type n)(hd:o.data = .fields vs)
    (hn:["enumerate","zip","dict_itemiterator","dict_reverseitemiterator","odict_iterator","itertools.zip_longest","itertools.pairwise"].contains n=false) (hQ:Q () s):wpAny M A (letOwnedTupleGo tg (.ref it) u) Q E s:=by
  unfold letOwnedTupleGo;cases tg<;>first
    | exact Ze hQ
    | (cases u<;>first
        | exact Ze hQ
        | (refine Zb (wpAny_load ho ?_)
           rw[hc,hd];show wpAny M A (if(["enumerate","zip","dict_itemiterator","dict_reverseitemiterator","odict_iterator","itertools.zip_longest","itertools.pairwise"].contains n && vs[0]? == some (rawInt _))=true then _ else _) Q E s;rw[Zk (by intro h;rw[hn,Bool.false_and] at h;cases h)];exact Ze hQ))
def Itl(K:W.Frag)(a:Addr):It:=
 ⟨fun i H=>∃ xs x,SqL K H a xs∧xs[i]? = some x,fun i H x H'=>H'=H∧∀ xs,SqL K H a xs→xs[i]? = some x,fun i H=>∃ xs,SqL K H a xs∧xs.length≤i⟩
def Itt(K:W.Frag)(a:Addr):It:=
 ⟨fun i H=>∃ xs x,SqT K H a xs∧xs[i]? = some x,fun i H x H'=>H'=H∧∀ xs,SqT K H a xs→xs[i]? = some x,fun i H=>∃ xs,SqT K H a xs∧xs.length≤i⟩
def Itr(lo:Int)(n:Nat):It:=⟨fun i _=>i < n,fun i H x H'=>H'=H∧x = .int (lo+i),fun i _=>n≤i⟩
theorem Zd6{P:Program}{w:World}{K:W.Frag}{tg:Expr}(a it:Addr):Turn P w K tg (Itl K a) [it] it (fun i h=>h.IsListIter it a i) where
 mem:=by simp
 obj:=fun i h st b hb=>by
  have e:b=it:=by simpa using hb
  subst e;obtain⟨o,e,c,d⟩:=st;exact⟨o,e,fun v z=>by rw[d] at z;cases z⟩
 keep:=fun i h h' st k=>st.at fun o e=>k it (by simp) o e
 item:=by
  intro X hP hw hK hc i pins s σ H E I hf st hg;subst hP hw hK;obtain⟨xs,x,hq,hx⟩:=hg;obtain⟨its,rv,p,hz⟩:=I.list hq;obtain⟨u,hu,ru⟩:=rv.get hx;obtain⟨f0,f1,f2,f3,f4,f5⟩:=hf it (by simp);refine wpAny_pyNext_list_item st p.isList (x:=u) (by simpa using hu) fun h' st' sb=>?_;have I1:Inv X pins σ H { s with heap:=h' }:=I.turned (t':=s.toks) (fun b o hb e=>(sb.2 b hb).trans e) f0 f1 f3 f4 f5;obtain⟨o,e,c,d⟩:=id st';exact⟨u,rfl,Sl (s:={ s with heap:=h' }) e c d (by decide) ⟨x,H,I1,ru,⟨rfl,fun ys hy=>by rw[I.list_inj hy hq];exact hx⟩,st',fun b hb=>(hf b hb).1⟩⟩
 done:=by
  intro X hP hw hK hc i pins s σ H E I hf st hg;subst hP hw hK;obtain⟨xs,hq,hx⟩:=hg;obtain⟨its,rv,p,hz⟩:=I.list hq;obtain⟨f0,f1,f2,f3,f4,f5⟩:=hf it (by simp);have hl:=rv.length;exact wpAny_pyNext_list_end (I.ok.hd hc) st p.isList (by simp;omega) fun h' eb=>⟨rfl,I.turned (t':=s.toks) (fun b o hb e=>eb b o hb e) f0 f1 f3 f4 f5⟩
 self:=fun _ _ _ _ _ st h=>wpAny_pyIter_listiter st h
theorem Zab{P:Program}{w:World}{K:W.Frag}{tg:Expr}(a it:Addr):Turn P w K tg (Itt K a) [it] it (fun i h=>h.IsTupleIter it a i) where
 mem:=by simp
 obj:=fun i h st b hb=>by
  have e:b=it:=by simpa using hb
  subst e;obtain⟨o,e,c,d⟩:=st;exact⟨o,e,fun v z=>by rw[d] at z;cases z⟩
 keep:=fun i h h' st k=>st.at fun o e=>k it (by simp) o e
 item:=by
  intro X hP hw hK hc i pins s σ H E I hf st hg;subst hP hw hK;obtain⟨xs,x,hq,hx⟩:=hg;obtain⟨its,rv,p,hz⟩:=I.tuple hq;obtain⟨u,hu,ru⟩:=rv.get hx;obtain⟨f0,f1,f2,f3,f4,f5⟩:=hf it (by simp);refine wpAny_pyNext_tuple_item st (show s.heap.IsTuple a its.toArray from p) (x:=u) (by simpa using hu) fun h' st' sb=>?_;have I1:Inv X pins σ H { s with heap:=h' }:=I.turned (t':=s.toks) (fun b o hb e=>(sb.2 b hb).trans e) f0 f1 f3 f4 f5;obtain⟨o,e,c,d⟩:=id st';exact⟨u,rfl,Sl (s:={ s with heap:=h' }) e c d (by decide) ⟨x,H,I1,ru,⟨rfl,fun ys hy=>by rw[I.tuple_inj hy hq];exact hx⟩,st',fun b hb=>(hf b hb).1⟩⟩
 done:=by
  intro X hP hw hK hc i pins s σ H E I hf st hg;subst hP hw hK;obtain⟨xs,hq,hx⟩:=hg;obtain⟨its,rv,p,hz⟩:=I.tuple hq;obtain⟨f0,f1,f2,f3,f4,f5⟩:=hf it (by simp);have hl:=rv.length;exact wpAny_pyNext_tuple_end (I.ok.hd hc) st (show s.heap.IsTuple a its.toArray from p) (by simp;omega) fun h' eb=>⟨rfl,I.turned (t':=s.toks) (fun b o hb e=>eb b o hb e) f0 f1 f3 f4 f5⟩
 self:=fun _ _ _ _ _ st h=>wpAny_pyIter_tupleiter st h
theorem Zac{P:Program}{w:World}{K:PySem.W.Frag}{tg:Expr}(it:Addr)(lo:Int)(n:Nat):Turn P w K tg (Itr lo n) [it] it (fun i h=>IsRangeIter h it (lo+(i:Nat) * 1) ((n:Int) - (i:Nat)) 1) where
 mem:=by simp
 obj:=fun i h st b hb=>by
  have e:b=it:=by simpa using hb
  subst e;exact⟨_,st,fun v z=>by
   have z':Data.fields _=Data.cell v:=z;cases z'⟩
 keep:=fun i h h' st k=>k it (by simp) _ st
 item:=by
  intro X hP hw hK hc i pins s σ H E I hf st hg;subst hP hw hK;obtain⟨f0,f1,f2,f3,f4,f5⟩:=hf it (by simp);have W:=Walks.range (prog:=X.prog) (w:=X.w) (I.ok.hd hc) it lo 1 n;refine W.item i s _ _ hg st fun v h' tk hv st' kk=>?_;obtain⟨t,rfl⟩:=hv;have I1:Inv X pins σ H { s with heap:=h',toks:=tk }:=I.turned (fun b o hb e=>kk b o (by simpa using hb) e) f0 f1 f3 f4 f5;refine⟨_,rfl,Sl (s:={ s with heap:=h',toks:=tk }) (n:="range_iterator") st' rfl rfl (by decide) ⟨.int (lo+i),H,I1,⟨t,?_⟩,⟨rfl,rfl⟩,st',fun b hb=>(hf b hb).1⟩⟩;rw[Int.mul_one]
 done:=by
  intro X hP hw hK hc i pins s σ H E I hf st hg;subst hP hw hK;obtain⟨f0,f1,f2,f3,f4,f5⟩:=hf it (by simp);exact wpAny_pyNext_range_end (I.ok.hd hc) st (by have:n≤i:=hg;omega) fun h' eb=>⟨rfl,I.turned (t':=s.toks) (fun b o hb e=>eb b o hb e) f0 f1 f3 f4 f5⟩
 self:=fun _ _ _ _ _ st h=>wpAny_pyIter_rangeiter st h
section
variable{X:Cx}{tg:Expr}
def Zm1(K:W.Frag)(tl:TE):TI:=fun σ H R=>tl σ H fun x H1=>∃ a,x = .ref a∧(∃ xs,SqL K H1 a xs)∧R (Itl K a) H1
def Zr8(K:W.Frag)(tl:TE):TI:=fun σ H R=>tl σ H fun x H1=>∃ a,x = .ref a∧(∃ xs,SqT K H1 a xs)∧R (Itt K a) H1
theorem Y6{l:Expr}{tl:TE}(hl:PE X l tl):PI X tg l (Zm1 X.K tl):=by
 intro pins s σ H R I h;refine Uc (hl pins s σ H _ I h) fun v s1 ⟨x,H1,I1,r1,q1⟩=>?_;obtain⟨a,e,⟨xs,hq⟩,q⟩:=q1;subst e;cases r1;obtain⟨its,rv,p,hz⟩:=I1.list hq;refine wpAny_pyIter_list p.isList ?_;refine⟨s1.heap.objs.size,[s1.heap.objs.size],_,_,H1,rfl,I1.kept (t':=s1.toks) fun b o e=>Zi _ e,Zd6 a _,⟨_,Z6 _ rfl,rfl,rfl⟩,fun b hb=>?_,q⟩;have e:b=s1.heap.objs.size:=by simpa using hb
 subst e;exact I1.fpOk (Zs _) (I1.hok.fresh (Zs _))
theorem V9{l:Expr}{tl:TE}(hl:PE X l tl):PI X tg l (Zr8 X.K tl):=by
 intro pins s σ H R I h;refine Uc (hl pins s σ H _ I h) fun v s1 ⟨x,H1,I1,r1,q1⟩=>?_;obtain⟨a,e,⟨xs,hq⟩,q⟩:=q1;subst e;cases r1;obtain⟨its,rv,p,hz⟩:=I1.tuple hq;refine wpAny_pyIter_tuple (show s1.heap.IsTuple a its.toArray from p) ?_;refine⟨s1.heap.objs.size,[s1.heap.objs.size],_,_,H1,rfl,I1.kept (t':=s1.toks) fun b o e=>Zi _ e,Zab a _,⟨_,Z6 _ rfl,rfl,rfl⟩,fun b hb=>?_,q⟩;have e:b=s1.heap.objs.size:=by simpa using hb
 subst e;exact I1.fpOk (Zs _) (I1.hok.fresh (Zs _))
theorem Zhg{pins:List (Addr×Obj)}{σ:St}{H:Hp}{s:Shared}{R:It→Hp→Prop}{E:Value→Shared→Prop}{lo hi:Int}{t u v:Tok}{tk:Nat}(I:Inv X pins σ H s)(h1:-(2 ^ 62)≤lo)(h2:lo < 2 ^ 62)(h3:-(2 ^ 62)≤hi)(h4:hi < 2 ^ 62)
  (q:R (Itr lo (hi - lo).toNat) H):wpAny (model X.prog X.w) X.A (pyIter (.ref s.heap.objs.size)) (PIE X pins σ tg R) E { s with heap:=s.heap.push { cls:=.type "range",data:=.fields #[.int lo t,.int hi u,.int 1 v] },toks:=tk }:=by
 refine wpAny_pyIter_range (IsRange.new ..) (small_one h1 h2 h3 h4) ?_;have I1:Inv X pins σ H { s with heap:=s.heap.push { cls:=.type "range",data:=.fields #[.int lo t,.int hi u,.int 1 v] },toks:=tk }:=I.kept fun b o e=>Zi _ e;refine⟨(s.heap.push { cls:=.type "range",data:=.fields #[.int lo t,.int hi u,.int 1 v] }).objs.size,[(s.heap.push { cls:=.type "range",data:=.fields #[.int lo t,.int hi u,.int 1 v] }).objs.size],_,_,H,rfl,
  I1.kept (t':=tk) fun b o e=>Zi _ e,Zac _ lo (hi - lo).toNat,?_,fun b hb=>?_,q⟩
 ·have e1:lo+((0:Nat):Int) * 1=lo:=by simp
  have e2:(((hi - lo).toNat:Nat):Int) - ((0:Nat):Int)=Builtin.Range.rangeSize lo hi 1:=by rw[rangeSize_one];split<;>omega
  show IsRangeIter _ _ (lo+((0:Nat):Int) * 1) ((((hi - lo).toNat:Nat):Int) - ((0:Nat):Int)) 1;rw[e1,e2];exact Z6 _ rfl
 ·have e:b=(s.heap.push { cls:=.type "range",data:=.fields #[.int lo t,.int hi u,.int 1 v] }).objs.size:=by simpa using hb
  subst e;exact I1.fpOk (Zs _) (I1.hok.fresh (Zs _))
def Zq0(ta:TA):TI:=fun σ H R=>ta σ H fun vs H1=>∃ j:Int,vs=[.int j]∧-(2 ^ 62)≤j∧j < 2 ^ 62∧R (Itr 0 j.toNat) H1
theorem U7{a:Expr}{ta:TA}{p pos:Pos}(hg:Gl X "range")(hm:X.mg "range" = none)(ha:PA X [a] ta)(hs:starEach [a] X.env=[(false,eval a X.env)]:=by rfl):PI X tg (.Call (.Name "range" p) [a] [] pos) (Zq0 ta):=by
 intro pins s σ H R I h;refine Call_ (T4 I hg hm boot_range (PyProof.Rows.callWith_type1 (Uc (ha pos pins s σ H _ I h) fun us s1 ⟨vs,H1,I1,r1,q1⟩=>?_) hs rfl));obtain⟨j,e,q1,q2,q⟩:=q1;subst e;cases r1 with
 | cons r rr=>
  cases rr;obtain⟨t,rfl⟩:=r;exact call_range_1 (Zhg I1 (by omega) (by omega) q1 q2 (by simpa using q))
def Zro(wi:TI)(g:TG)(tb:TS):TS:=fun D σ H=>wi σ H fun J H1=>∃ W:Nat→Nat→St→Hp→Prop,(∃ m,W 0 m σ H1)∧∀ i m σ H,W i m σ H →
 (J.stop i H∧D.nx σ H)∨(J.go i H∧∃ N:St→Hp→Prop,(∀ σ' H',N σ' H'→∃ m',m' < m∧W (i+1) m' σ' H')∧∀ x H',J.yld i H x H'→g x σ H' fun σ2 H2=>tb { D with nx:=N,ct:=N,bk:=D.nx } σ2 H2)
def Tj(fp:List Addr)(h:Heap):List (Addr×Obj):=fp.filterMap fun b=>(h.get? b).map fun o=>(b,o)
theorem Nc{fp:List Addr}{h:Heap}{b:Addr}{o:Obj}(hb:b∈fp)(e:h.get? b=some o):(b,o)∈Tj fp h:=List.mem_filterMap.mpr ⟨b,hb,by rw[e];rfl⟩
theorem Ze8{fp:List Addr}{h:Heap}{p:Addr×Obj}(hp:p∈Tj fp h):p.1∈fp∧h.get? p.1=some p.2:=by
 obtain⟨b,hb,e⟩:=List.mem_filterMap.mp hp;cases q:h.get? b with
 | none=>rw[q] at e;cases e
 | some o=>
  rw[q] at e;have e':(b,o)=p:=Z0 e;subst e';exact⟨hb,q⟩
theorem Inv.pinned{pins:List (Addr×Obj)}{σ:St}{H:Hp}{s:Shared}{fp:List Addr}(I:Inv X pins σ H s)(hf:∀ b∈fp,R5 X pins H b)(ho:∀ b∈fp,∃ o,s.heap.get? b=some o∧∀ v,o.data ≠ .cell v):Inv X (pins++Tj fp s.heap) σ H s:=
 I.pins_of fun p hp=>(Jm.mp hp).elim (fun z=>I.pin p (List.mem_append_right _ z)) fun z=>by
  obtain⟨hb,e⟩:=Ze8 z;obtain⟨f0,f1,f2,_⟩:=hf p.1 hb;obtain⟨o,e',d⟩:=ho p.1 hb;rw[e] at e';cases e';exact⟨e,f0,f1,f2,d⟩
theorem Inv.unpinned{pins pl:List (Addr×Obj)}{σ:St}{H:Hp}{s:Shared}(I:Inv X (pins++pl) σ H s):Inv X pins σ H s:=I.pins_of fun p hp=>I.pin p (List.mem_append_right _ (List.mem_append_left _ hp))
theorem Uv{iter:Expr}{body:List Stmt}{wi:TI}{g:TG}{tb:TS}{pos:Pos}(hp:PassesOwn (model X.prog X.w) X.A X.env X.xe)(hc:X.calm=true)(hi:PI X tg iter wi)(hg:PG X tg g)(hb:PSs X body tb)
  (hs:∀ x,foldedSetIterable iter X.env x=pure x:=by intro _;rfl):PS X (.For tg iter body [] pos) (Zro wi g tb):=by
 intro pins s σ H D I h;refine wpAny_For (Uc (hi pins s σ H _ I h) fun v s1 h1=>Uc h1 fun itv s2 h2=>?_) hs;obtain⟨it,fp,tn,J,H2,e,I2,T,st2,f2,W,⟨m0,w0⟩,turn⟩:=h2;subst e;have stat:∀{H':Hp},(∀ b∈fp,H' b=none)→∀ b∈fp,R5 X pins H' b:=fun hn b hb=>⟨hn b hb,(f2 b hb).2⟩;refine codeAny_forLoop_any (fun n s'=>∃ i σ' H',Inv X pins σ' H' s'∧tn i s'.heap∧(∀ b∈fp,H' b=none)∧W i n σ' H') ?_ m0 ⟨0,σ,H2,I2,st2,fun b hb=>(f2 b hb).1,w0⟩;rintro n s3 ⟨i,σ3,H3,I3,st3,fr3,w3⟩;rcases turn i n σ3 H3 w3 with⟨stop,qn⟩ | ⟨go,N,hN,step⟩
 ·refine wpAny_passesOwn hp (Uc (T.done X rfl rfl rfl hc i pins s3 σ3 H3 X.xe I3 (stat fr3) st3 stop) fun r s4 ⟨hr,I4⟩=>?_)
  subst hr;exact wpAny_execs_nil ⟨σ3,H3,I4,qn⟩
 ·refine wpAny_passesOwn hp (Uc (T.item X rfl rfl rfl hc i pins s3 σ3 H3 X.xe I3 (stat fr3) st3 go) fun r s4 ⟨u,hr,h4⟩=>?_)
  subst hr;refine wpAny_passesOwn hp (Uc h4 fun _ s5 ⟨x,H5,I5,r5,y5,st5,fr5⟩=>?_);have I5':=I5.pinned (stat fr5) (T.obj _ _ st5);refine wpAny_passesOwn hp (Uc (hg _ s5 σ3 H5 x u _ I5' r5 (step x H5 y5)) fun _ s6 ⟨σ6,H6,I6,q6⟩=>?_);refine wpAny_passesOwn hp (Uc (hb _ s6 σ6 H6 _ I6 q6) fun f s7 q7=>?_);have again:∀{σ7:St} {H7:Hp},Inv X (pins++Tj fp s5.heap) σ7 H7 s7→N σ7 H7→∃ m,m < n∧∃ i σ' H',Inv X pins σ' H' s7∧tn i s7.heap∧(∀ b∈fp,H' b=none)∧W i m σ' H':=fun {σ7 H7} I7 n7=>by
   obtain⟨m',hm,w7⟩:=hN σ7 H7 n7;refine⟨m',hm,i+1,σ7,H7,I7.unpinned,T.keep _ _ _ st5 fun b hb o e=>(I7.pin (b,o) (List.mem_append_right _ (List.mem_append_right _ (Nc hb e)))).1,fun b hb=>?_,w7⟩;obtain⟨o,e,d⟩:=T.obj _ _ st5 b hb;exact(I7.pin (b,o) (List.mem_append_right _ (List.mem_append_right _ (Nc hb e)))).2.1
  cases f with
  | next=>obtain⟨σ7,H7,I7,n7⟩:=q7;exact again I7 n7
  | cont=>obtain⟨σ7,H7,I7,n7⟩:=q7;exact again I7 n7
  | brk=>obtain⟨σ7,H7,I7,q7⟩:=q7;exact⟨σ7,H7,I7.unpinned,q7⟩
  | ret v=>obtain⟨x7,σ7,H7,I7,r7,q7⟩:=q7;exact⟨x7,σ7,H7,I7.unpinned,r7,q7⟩
end
theorem Xd{K:PySem.W.Frag}{a:Addr}{xs:List V}{g:TG}{tb:TS}{D:Ends}{σ:St}{H:Hp}(Pv:Nat→St→Hp→Prop)(h0:Pv 0 σ H)(hl:∀ i σ H,i≤xs.length→Pv i σ H→SqL K H a xs)
  (hs:∀ i x σ H,xs[i]? = some x→Pv i σ H→g x σ H fun σ2 H2=>tb { D with nx:=Pv (i+1),ct:=Pv (i+1),bk:=D.nx } σ2 H2) (hd:∀ σ H,Pv xs.length σ H→D.nx σ H) :
  ∃ W:Nat→Nat→St→Hp→Prop,(∃ m,W 0 m σ H)∧∀ i m σ H,W i m σ H →
   ((Itl K a).stop i H∧D.nx σ H)∨((Itl K a).go i H∧∃ N:St→Hp→Prop,(∀ σ' H',N σ' H'→∃ m',m' < m∧W (i+1) m' σ' H')∧∀ x H',(Itl K a).yld i H x H'→g x σ H' fun σ2 H2=>tb { D with nx:=N,ct:=N,bk:=D.nx } σ2 H2):=by
 refine⟨fun i m σ H=>m=xs.length - i∧i≤xs.length∧Pv i σ H,⟨xs.length,by simp,Nat.zero_le _,h0⟩,?_⟩;rintro i m σ H ⟨rfl,hi,p⟩;have q:=hl i σ H hi p;by_cases hlt:i < xs.length
 ·refine .inr ⟨⟨xs,xs[i],q,by simp [hlt]⟩,Pv (i+1),fun σ' H' p'=>⟨xs.length - (i+1),by omega,rfl,hlt,p'⟩,fun x H' y=>?_⟩
  obtain⟨e,y⟩:=y;subst e;exact hs i x σ _ (y xs q) p
 ·have e:i=xs.length:=by omega
  subst e;exact .inl ⟨⟨xs,q,Zs _⟩,hd σ H p⟩
theorem Zmb{K:PySem.W.Frag}{a:Addr}{xs:List V}{g:TG}{tb:TS}{D:Ends}{σ:St}{H:Hp}(Pv:Nat→St→Hp→Prop)(h0:Pv 0 σ H)(hl:∀ i σ H,i≤xs.length→Pv i σ H→SqT K H a xs)
  (hs:∀ i x σ H,xs[i]? = some x→Pv i σ H→g x σ H fun σ2 H2=>tb { D with nx:=Pv (i+1),ct:=Pv (i+1),bk:=D.nx } σ2 H2) (hd:∀ σ H,Pv xs.length σ H→D.nx σ H) :
  ∃ W:Nat→Nat→St→Hp→Prop,(∃ m,W 0 m σ H)∧∀ i m σ H,W i m σ H →
   ((Itt K a).stop i H∧D.nx σ H)∨((Itt K a).go i H∧∃ N:St→Hp→Prop,(∀ σ' H',N σ' H'→∃ m',m' < m∧W (i+1) m' σ' H')∧∀ x H',(Itt K a).yld i H x H'→g x σ H' fun σ2 H2=>tb { D with nx:=N,ct:=N,bk:=D.nx } σ2 H2):=by
 refine⟨fun i m σ H=>m=xs.length - i∧i≤xs.length∧Pv i σ H,⟨xs.length,by simp,Nat.zero_le _,h0⟩,?_⟩;rintro i m σ H ⟨rfl,hi,p⟩;have q:=hl i σ H hi p;by_cases hlt:i < xs.length
 ·refine .inr ⟨⟨xs,xs[i],q,by simp [hlt]⟩,Pv (i+1),fun σ' H' p'=>⟨xs.length - (i+1),by omega,rfl,hlt,p'⟩,fun x H' y=>?_⟩
  obtain⟨e,y⟩:=y;subst e;exact hs i x σ _ (y xs q) p
 ·have e:i=xs.length:=by omega
  subst e;exact .inl ⟨⟨xs,q,Zs _⟩,hd σ H p⟩
theorem Qh{lo:Int}{n:Nat}{g:TG}{tb:TS}{D:Ends}{σ:St}{H:Hp}(Pv:Nat→St→Hp→Prop)(h0:Pv 0 σ H)
  (hs:∀ i σ H,i < n→Pv i σ H→g (.int (lo+i)) σ H fun σ2 H2=>tb { D with nx:=Pv (i+1),ct:=Pv (i+1),bk:=D.nx } σ2 H2) (hd:∀ σ H,Pv n σ H→D.nx σ H) :
  ∃ W:Nat→Nat→St→Hp→Prop,(∃ m,W 0 m σ H)∧∀ i m σ H,W i m σ H →
   ((Itr lo n).stop i H∧D.nx σ H)∨((Itr lo n).go i H∧∃ N:St→Hp→Prop,(∀ σ' H',N σ' H'→∃ m',m' < m∧W (i+1) m' σ' H')∧∀ x H',(Itr lo n).yld i H x H'→g x σ H' fun σ2 H2=>tb { D with nx:=N,ct:=N,bk:=D.nx } σ2 H2):=by
 refine⟨fun i m σ H=>m=n - i∧i≤n∧Pv i σ H,⟨n,by simp,Nat.zero_le _,h0⟩,?_⟩;rintro i m σ H ⟨rfl,hi,p⟩;by_cases hlt:i < n
 ·refine .inr ⟨hlt,Pv (i+1),fun σ' H' p'=>⟨n - (i+1),by omega,rfl,hlt,p'⟩,fun x H' y=>?_⟩
  obtain⟨e,y⟩:=y;subst e y;exact hs i σ _ hlt p
 ·have e:i=n:=by omega
  subst e;exact .inl ⟨Zs _,hd σ H p⟩
theorem Ay{c:TT}{tb:TS}{D:Ends}{σ:St}{H:Hp}(Pv:St→Hp→Prop)(μ:St→Hp→Nat)(h0:Pv σ H)
  (hs:∀ σ H,Pv σ H→c σ H fun b H1=>if b=true then tb { D with nx:=fun σ' H'=>Pv σ' H'∧μ σ' H' < μ σ H,ct:=fun σ' H'=>Pv σ' H'∧μ σ' H' < μ σ H,bk:=D.nx } σ H1 else D.nx σ H1)
  (mono:∀ σ H Q Q',(∀ b H1,Q b H1→Q' b H1)→c σ H Q→c σ H Q'):Zgi c tb D σ H:=by
 refine⟨fun m σ H=>m=μ σ H∧Pv σ H,⟨_,rfl,h0⟩,?_⟩;rintro m σ H ⟨rfl,p⟩;refine mono σ H _ _ (fun b H1 q=>?_) (hs σ H p);cases b with
 | true=>exact⟨_,fun σ' H' ⟨p',l⟩=>⟨_,l,rfl,p'⟩,q⟩
 | false=>exact q
abbrev R2:=V→V→Hp→VK→Prop
def Ng(X:Cx)(f:Value→Value→Sem Value)(r:R2):Prop:=
 ∀(pins:List (Addr×Obj)) (s:Shared) (σ:St) (H:Hp) (x y:V) (v u:Value) (Q:VK),Inv X pins σ H s→RelV x v→RelV y u→r x y H Q →
  wpAny (model X.prog X.w) X.A (f v u) (EP X pins σ Q) X.xe s
def UnR(X:Cx)(f:Value→Sem Value)(r:V→Hp→VK→Prop):Prop:=
 ∀(pins:List (Addr×Obj)) (s:Shared) (σ:St) (H:Hp) (x:V) (v:Value) (Q:VK),Inv X pins σ H s→RelV x v→r x H Q →
  wpAny (model X.prog X.w) X.A (f v) (EP X pins σ Q) X.xe s
def X3(X:Cx)(f:Value)(r:List V→Hp→VK→Prop):Prop:=
 ∀(pins:List (Addr×Obj)) (s:Shared) (σ:St) (H:Hp) (xs:List V) (us:List Value) (Q:VK),Inv X pins σ H s→Vals xs us→r xs H Q →
  wpAny (model X.prog X.w) X.A (call f us) (EP X pins σ Q) X.xe s
def Zsg(X:Cx)(r:V→Hp→(Bool→Hp→Prop)→Prop):Prop:=
 ∀(pins:List (Addr×Obj)) (s:Shared) (σ:St) (H:Hp) (x:V) (v:Value) (Q:Bool→Hp→Prop),Inv X pins σ H s→RelV x v→r x H Q →
  wpAny (model X.prog X.w) X.A (truthy v) (TP X pins σ Q) X.xe s
def tOp(r:R2)(ta tb:TE):TE:=fun σ H Q=>ta σ H fun x H1=>tb σ H1 fun y H2=>r x y H2 Q
def tUn(r:V→Hp→VK→Prop)(ta:TE):TE:=fun σ H Q=>ta σ H fun x H1=>r x H1 Q
def rI(C:Int→Int→Prop)(g:Int→Int→V):R2:=fun x y H Q=>∃ i j,x = .int i∧y = .int j∧C i j∧Q (g i j) H
def rI0(g:Int→Int→V):R2:=fun x y H Q=>∃ i j,x = .int i∧y = .int j∧Q (g i j) H
def rU(g:Int→V):V→Hp→VK→Prop:=fun x H Q=>∃ i,x = .int i∧Q (g i) H
section
variable{X:Cx}{a b c:Expr}{ta tb tc:TE}{pos:Pos}
theorem Zpg(ha:PE X a ta)(hb:PE X b tb){pins:List (Addr×Obj)}{s:Shared}{σ:St}{H:Hp}{R:V→V→Hp→Prop}(I:Inv X pins σ H s)
  (h:ta σ H fun x H1=>tb σ H1 fun y H2=>R x y H2) {Q:Value→Shared→Prop} {f:Value→Value→Sem Value}
  (hf:∀ v u s2 x y H2,Inv X pins σ H2 s2→RelV x v→RelV y u→R x y H2→wpAny (model X.prog X.w) X.A (f v u) Q X.xe s2) :
  wpAny (model X.prog X.w) X.A (eval a X.env) (fun v s₁=>wpAny (model X.prog X.w) X.A (eval b X.env) (fun u s₂=>wpAny (model X.prog X.w) X.A (f v u) Q X.xe s₂) X.xe s₁) X.xe s:=by
 refine Uc (ha pins s σ H _ I h) fun v s1 ⟨x,H1,I1,r1,q1⟩=>?_;refine Uc (hb pins s1 σ H1 _ I1 q1) fun u s2 ⟨y,H2,I2,r2,q2⟩=>?_;exact hf v u s2 x y H2 I2 r1 r2 q2
theorem Jd{op:Operator}{r:R2}(ho:Ng X (binaryOp op) r)(ha:PE X a ta)(hb:PE X b tb):PE X (.BinOp a op b pos) (tOp r ta tb):=by
 intro pins s σ H Q I h;exact wpAny_BinOp (Zpg ha hb I h fun v u s2 x y H2 I2 rx ry q=>ho pins s2 σ H2 x y v u Q I2 rx ry q)
theorem Zqm{op:UnaryOp}{r:V→Hp→VK→Prop}(ho:UnR X (unaryOp op) r)(ha:PE X a ta):PE X (.UnaryOp op a pos) (tUn r ta):=by
 intro pins s σ H Q I h;exact UnaryOp_ (Uc (ha pins s σ H _ I h) fun v s1 ⟨x,H1,I1,r1,q1⟩=>ho pins s1 σ H1 x v Q I1 r1 q1)
theorem opI{f:Value→Value→Sem Value}{C:Int→Int→Prop}{g:Int→Int→Int}
  (rule:∀(i j:Int) (t u:Tok) (s:Shared) (Q:Value→Shared→Prop) (E:Value→Shared→Prop),C i j→Q (.int (g i j) s.toks) { s with toks:=s.toks+1 }→wpAny (model X.prog X.w) X.A (f (.int i t) (.int j u)) Q E s) :
  Ng X f (rI C fun i j=>.int (g i j)):=by
 intro pins s σ H x y v u Q I rx ry h;obtain⟨i,j,rfl,rfl,hc,q⟩:=h;obtain⟨t,rfl⟩:=rx;obtain⟨t',rfl⟩:=ry;exact rule i j t t' s _ _ hc ⟨.int (g i j),H,I.tok _,⟨_,rfl⟩,q⟩
theorem Zh9{f:Value→Value→Sem Value}{g:Int→Int→Int}
  (rule:∀(i j:Int) (t u:Tok) (s:Shared) (Q:Value→Shared→Prop) (E:Value→Shared→Prop),Q (.int (g i j) s.toks) { s with toks:=s.toks+1 }→wpAny (model X.prog X.w) X.A (f (.int i t) (.int j u)) Q E s) :
  Ng X f (rI0 fun i j=>.int (g i j)):=by
 intro pins s σ H x y v u Q I rx ry h;obtain⟨i,j,rfl,rfl,q⟩:=h;obtain⟨t,rfl⟩:=rx;obtain⟨t',rfl⟩:=ry;exact rule i j t t' s _ _ ⟨.int (g i j),H,I.tok _,⟨_,rfl⟩,q⟩
theorem Zk9{f:Value→Value→Sem Value}{g:Int→Int→Bool}
  (rule:∀(i j:Int) (t u:Tok) (s:Shared) (Q:Value→Shared→Prop) (E:Value→Shared→Prop),Q (.bool (g i j)) s→wpAny (model X.prog X.w) X.A (f (.int i t) (.int j u)) Q E s) :
  Ng X f (rI0 fun i j=>.bl (g i j)):=by
 intro pins s σ H x y v u Q I rx ry h;obtain⟨i,j,rfl,rfl,q⟩:=h;obtain⟨t,rfl⟩:=rx;obtain⟨t',rfl⟩:=ry;exact rule i j t t' s _ _ ⟨.bl (g i j),H,I,rfl,q⟩
def Zsn(i j:Int):Prop:=0 < j∧j < 1073741824
def Zsm(i j:Int):Prop:=0≤j∧j≤1000000∧i.natAbs < 2 ^ 64
def CMul(i j:Int):Prop:=(-(2 ^ 64) < i∧i < 2 ^ 64)∨(-(2 ^ 64) < j∧j < 2 ^ 64)
theorem CMul.ok{i j:Int}(h:CMul i j):IntMulOk i j:=by
 rcases h with⟨h1,h2⟩ | ⟨h1,h2⟩
 ·exact .of_left (intBits_le_64 h1 h2)
 ·exact .of_right (intBits_le_64 h1 h2)
theorem Zaa(k:Nat):(0:Int)≤2 ^ k:=by
 rw[two_pow_cast];exact Int.natCast_nonneg _
theorem Y1:Ng X (binaryOp .Add) (rI0 fun i j=>.int (i+j)):=Zh9 fun _ _ _ _ _ _ _ q=>add_int q
theorem Nr:Ng X (binaryOp .Sub) (rI0 fun i j=>.int (i - j)):=Zh9 fun _ _ _ _ _ _ _ q=>sub_int q
theorem Xm:Ng X (binaryOp .Mult) (rI CMul fun i j=>.int (i * j)):=opI fun _ _ _ _ _ _ _ hc q=>mul_int q hc.ok
theorem Ua:Ng X (binaryOp .FloorDiv) (rI Zsn fun i j=>.int (i / j)):=opI fun i j _ _ _ _ _ hc q=>by
 have h1:(0:Int) < j:=hc.1;have h2:j < 1073741824:=hc.2;exact floordiv_int (by omega) (by rw[Int.fdiv_eq_ediv_of_nonneg i (by omega)];exact q) (.inl (PyProof.noPylong_small (by omega)))
theorem Yv:Ng X (binaryOp .Mod) (rI (fun _ j=>0 < j) fun i j=>.int (i % j)):=opI fun i j _ _ _ _ _ hc q=>by
 have h1:(0:Int) < j:=hc;exact mod_int' (by omega) (by rw[Int.fmod_eq_emod_of_nonneg i (by omega)];exact q)
theorem Ts:Ng X (binaryOp .LShift) (rI Zsm fun i j=>.int (i * 2 ^ j.toNat)):=opI fun _ _ _ _ _ _ _ hc q=>lshift_int_small hc.1 hc.2.1 hc.2.2 q
theorem Zh6:Ng X (binaryOp .RShift) (rI (fun _ j=>0≤j) fun i j=>.int (i / 2 ^ j.toNat)):=opI fun i j _ _ _ _ _ hc q=>
 rshift_int hc (by rw[Int.fdiv_eq_ediv_of_nonneg i (Zaa _)];exact q)
theorem Tv:Ng X (binaryOp .BitAnd) (rI0 fun i j=>.int (Builtin.bitAnd i j)):=Zh9 fun _ _ _ _ _ _ _ q=>and_int q
theorem Zc9:Ng X (binaryOp .BitOr) (rI0 fun i j=>.int (Builtin.bitOr i j)):=Zh9 fun _ _ _ _ _ _ _ q=>or_int q
theorem Zod:Ng X (binaryOp .BitXor) (rI0 fun i j=>.int (Builtin.bitXor i j)):=Zh9 fun _ _ _ _ _ _ _ q=>xor_int q
theorem unI{f:Value→Sem Value}{g:Int→Int}
  (rule:∀(i:Int) (t:Tok) (s:Shared) (Q:Value→Shared→Prop) (E:Value→Shared→Prop),Q (.int (g i) s.toks) { s with toks:=s.toks+1 }→wpAny (model X.prog X.w) X.A (f (.int i t)) Q E s) :
  UnR X f (rU fun i=>.int (g i)):=by
 intro pins s σ H x v Q I rx h;obtain⟨i,rfl,q⟩:=h;obtain⟨t,rfl⟩:=rx;exact rule i t s _ _ ⟨.int (g i),H,I.tok _,⟨_,rfl⟩,q⟩
theorem Zm8:UnR X (unaryOp .USub) (rU fun i=>.int (-i)):=unI fun _ _ _ _ _ q=>neg_int q
end
def Znj:V→V→Bool
 | .non,.non=>true | .non,.int _=>true | .int _,.non=>true | .non,.bl _=>true | .bl _,.non=>true | .non,.str _=>true | .str _,.non=>true
 | .int _,.int _=>true | .bl _,.bl _=>true | .str _,.str _=>true | .byt _,.byt _=>true
 | .int _,.str _=>true | .str _,.int _=>true | .bl _,.str _=>true | .str _,.bl _=>true
 | _,_=>false
def rEq:R2:=fun x y H Q=>Znj x y=true∧Q (.bl (decide (x=y))) H
def rNe:R2:=fun x y H Q=>Znj x y=true∧Q (.bl (!decide (x=y))) H
theorem Zdr{i j:Int}:decide (V.int i=V.int j)=(i == j):=by
 rw[Bool.eq_iff_iff];simp
theorem Zjy{i j:Bool}:decide (V.bl i=V.bl j)=(i == j):=by
 rw[Bool.eq_iff_iff];simp
theorem Zdp{i j:Str}:decide (V.str i=V.str j)=(i == j):=by
 rw[Bool.eq_iff_iff];simp
theorem Zds{i j:Array UInt8}:decide (V.byt i=V.byt j)=(i.toList == j.toList):=by
 rw[Bool.eq_iff_iff];cases i;cases j;simp
section
variable{X:Cx}{a b c:Expr}{ta tb tc:TE}{pos:Pos}
theorem Yu{pins:List (Addr×Obj)}{σ:St}{H:Hp}{s:Shared}{Q:VK}{k k':Bool}(I:Inv X pins σ H s)(q:Q (.bl k) H)(e:k=k'):EP X pins σ Q (.bool k') s:=by
 subst e;exact⟨.bl k,H,I,rfl,q⟩
theorem Uq:Ng X (compareOp .Eq) rEq:=by
 intro pins s σ H x y v u Q I rx ry h;obtain⟨hs,q⟩:=h;cases x with
 | non=>
  cases rx;cases y with
  | non=>cases ry;exact PySem.EqNone.eq_none_none (Yu I q (by simp))
  | bl j=>cases ry;exact PySem.EqNone.eq_none_bool (Yu I q (by simp))
  | int j=>obtain⟨t',rfl⟩:=ry;exact PySem.EqNone.eq_none_int (Yu I q (by simp))
  | str j=>obtain⟨t',rfl⟩:=ry;exact PySem.EqNone.eq_none_str (Yu I q (by simp))
  | _=>exact absurd (show false=true from hs) Zr
 | bl i=>
  cases rx;cases y with
  | non=>cases ry;exact PySem.EqNone.eq_bool_none (Yu I q (by simp))
  | bl j=>cases ry;exact eq_bool (Yu I q Zjy)
  | str j=>obtain⟨t',rfl⟩:=ry;exact PySem.EqMixed.eq_bool_str (Yu I q (by simp))
  | _=>exact absurd (show false=true from hs) Zr
 | int i=>
  obtain⟨t,rfl⟩:=rx;cases y with
  | non=>cases ry;exact PySem.EqNone.eq_int_none (Yu I q (by simp))
  | int j=>obtain⟨t',rfl⟩:=ry;exact eq_int (Yu I q Zdr)
  | str j=>obtain⟨t',rfl⟩:=ry;exact PySem.EqMixed.eq_int_str (Yu I q (by simp))
  | _=>exact absurd (show false=true from hs) Zr
 | str i=>
  obtain⟨t,rfl⟩:=rx;cases y with
  | non=>cases ry;exact PySem.EqNone.eq_str_none (Yu I q (by simp))
  | bl j=>cases ry;exact PySem.EqMixed.eq_str_bool (Yu I q (by simp))
  | int j=>obtain⟨t',rfl⟩:=ry;exact PySem.EqMixed.eq_str_int (Yu I q (by simp))
  | str j=>obtain⟨t',rfl⟩:=ry;exact eq_str (Yu I q Zdp)
  | _=>exact absurd (show false=true from hs) Zr
 | byt i=>
  obtain⟨t,rfl⟩:=rx;cases y with
  | byt j=>obtain⟨t',rfl⟩:=ry;exact W.eq_bytes (Yu I q Zds)
  | _=>exact absurd (show false=true from hs) Zr
 | _=>cases y<;>exact absurd (show false=true from hs) Zr
theorem Vj:Ng X (compareOp .NotEq) rNe:=by
 intro pins s σ H x y v u Q I rx ry h;obtain⟨hs,q⟩:=h;cases x with
 | non=>
  cases rx;cases y with
  | non=>cases ry;exact PySem.EqNone.ne_none_none (Yu I q (by simp))
  | bl j=>cases ry;exact PySem.EqNone.ne_none_bool (Yu I q (by simp))
  | int j=>obtain⟨t',rfl⟩:=ry;exact PySem.EqNone.ne_none_int (Yu I q (by simp))
  | str j=>obtain⟨t',rfl⟩:=ry;exact PySem.EqNone.ne_none_str (Yu I q (by simp))
  | _=>exact absurd (show false=true from hs) Zr
 | bl i=>
  cases rx;cases y with
  | non=>cases ry;exact PySem.EqNone.ne_bool_none (Yu I q (by simp))
  | bl j=>cases ry;exact ne_bool (Yu I q (congrArg not Zjy))
  | str j=>obtain⟨t',rfl⟩:=ry;exact PySem.EqMixed.ne_bool_str (Yu I q (by simp))
  | _=>exact absurd (show false=true from hs) Zr
 | int i=>
  obtain⟨t,rfl⟩:=rx;cases y with
  | non=>cases ry;exact PySem.EqNone.ne_int_none (Yu I q (by simp))
  | int j=>obtain⟨t',rfl⟩:=ry;exact ne_int (Yu I q (congrArg not Zdr))
  | str j=>obtain⟨t',rfl⟩:=ry;exact PySem.EqMixed.ne_int_str (Yu I q (by simp))
  | _=>exact absurd (show false=true from hs) Zr
 | str i=>
  obtain⟨t,rfl⟩:=rx;cases y with
  | non=>cases ry;exact PySem.EqNone.ne_str_none (Yu I q (by simp))
  | bl j=>cases ry;exact PySem.EqMixed.ne_str_bool (Yu I q (by simp))
  | int j=>obtain⟨t',rfl⟩:=ry;exact PySem.EqMixed.ne_str_int (Yu I q (by simp))
  | str j=>obtain⟨t',rfl⟩:=ry;exact ne_str (Yu I q (congrArg not Zdp))
  | _=>exact absurd (show false=true from hs) Zr
 | byt i=>
  obtain⟨t,rfl⟩:=rx;cases y with
  | byt j=>obtain⟨t',rfl⟩:=ry;exact W.ne_bytes (Yu I q (congrArg not Zds))
  | _=>exact absurd (show false=true from hs) Zr
 | _=>cases y<;>exact absurd (show false=true from hs) Zr
theorem M0:Ng X (compareOp .Lt) (rI0 fun i j=>.bl (decide (i < j))):=Zk9 fun _ _ _ _ _ _ _ q=>lt_int q
theorem M1:Ng X (compareOp .LtE) (rI0 fun i j=>.bl (decide (i≤j))):=Zk9 fun _ _ _ _ _ _ _ q=>le_int q
theorem Ek:Ng X (compareOp .Gt) (rI0 fun i j=>.bl (decide (j < i))):=Zk9 fun _ _ _ _ _ _ _ q=>gt_int q
theorem Tt:Ng X (compareOp .GtE) (rI0 fun i j=>.bl (decide (j≤i))):=Zk9 fun _ _ _ _ _ _ _ q=>ge_int q
theorem Aa:Ng X (compareOp .Is) (fun x y H Q=>y = .non∧Q (.bl (decide (x = .non))) H):=by
 intro pins s σ H x y v u Q I rx ry h;obtain⟨rfl,q⟩:=h;cases ry;refine is_none_gen (Yu I q ?_);cases x<;>first
  | (cases rx;rfl)
  | (obtain⟨t,rfl⟩:=rx;rfl)
theorem O9:Ng X (compareOp .IsNot) (fun x y H Q=>y = .non∧Q (.bl (!decide (x = .non))) H):=by
 intro pins s σ H x y v u Q I rx ry h;obtain⟨rfl,q⟩:=h;cases ry;refine isnot_none_gen (Yu I q ?_);cases x<;>first
  | (cases rx;rfl)
  | (obtain⟨t,rfl⟩:=rx;rfl)
theorem Jg(b:Expr){op:CmpOp}(h:op ≠ .In:=by decide)(h2:op ≠ .NotIn:=by decide):behindInMarks op b=false:=by
 have e1:(op == CmpOp.In)=false:=by cases op<;>first | rfl | exact absurd rfl h
 have e2:(op == CmpOp.NotIn)=false:=by cases op<;>first | rfl | exact absurd rfl h2
 cases b<;>simp [behindInMarks,e1,e2]
theorem Ys{op:CmpOp}{r:R2}(ho:Ng X (compareOp op) r)(ha:PE X a ta)(hb:PE X b tb)(hm:behindInMarks op b=false):PE X (.Compare a [op] [b] pos) (tOp r ta tb):=by
 intro pins s σ H Q I h;exact wpAny_Compare1 (Zpg ha hb I h fun v u s2 x y H2 I2 rx ry q=>ho pins s2 σ H2 x y v u Q I2 rx ry q) hm
def Zmm(t:TE):TT:=fun σ H Q=>t σ H fun x H'=>∃ k,x = .bl k∧Q k H'
theorem Ji{op:CmpOp}{r:R2}(ho:Ng X (compareOp op) r)(ha:PE X a ta)(hb:PE X b tb)(hm:behindInMarks op b=false):PT X (.Compare a [op] [b] pos) (Zmm (tOp r ta tb)):=by
 intro pins s σ H Q I h;refine wpAny_isTrue_Compare1 (Uc (ha pins s σ H _ I h) fun v s1 ⟨x,H1,I1,r1,q1⟩=>Uc (hb pins s1 σ H1 _ I1 q1) fun u s2 ⟨y,H2,I2,r2,q2⟩=>
  Uc (ho pins s2 σ H2 x y v u _ I2 r1 r2 q2) fun c s3 ⟨z,H3,I3,r3,k,e,q3⟩=>?_) hm
 subst e;cases r3;exact wpAny_truthy_bool ⟨H3,I3,q3⟩
def Zq1(K:W.Frag)(x:V)(H:Hp)(k:Bool):Prop:=
 match x with
 | .non=>k=false
 | .bl b=>k=b
 | .int i=>k=(i != 0)
 | .str y=>y.length≤sizeLine∧k=((y.length:Int) != 0)
 | .byt y=>y.size≤sizeLine∧k=((y.size:Int) != 0)
 | .ref p=>(∃ xs,SqL K H p xs∧k = !xs.isEmpty)∨(∃ xs,SqT K H p xs∧k = !xs.isEmpty)∨∃ kvs,H p=some (.dK kvs)∧k = !kvs.isEmpty
 | _=>False
theorem Zb2{κ:Type}{kvs:List (κ×V)}{vs:List (κ×Value)}(r:KV kvs vs):(!vs.isEmpty) = !kvs.isEmpty:=by
 cases r<;>rfl
theorem T6{xs:List V}{its:List Value}(r:Vals xs its):(!its.toArray.isEmpty) = !xs.isEmpty:=by
 cases r<;>simp
theorem Bs:(sizeLine:Nat) < 2 ^ 63:=by rw[sizeLine_eq];decide
theorem Zge:Zsg X (fun x H Q=>∃ k,Zq1 X.K x H k∧Q k H):=by
 intro pins s σ H x v Q I rx h;obtain⟨k,e,q⟩:=h;have hl:=Bs;have hs:sizeLine=16777216:=sizeLine_eq;cases x with
 | non=>
  cases rx;have e':k=false:=e;subst e';exact truthy_none ⟨H,I,q⟩
 | bl b=>
  cases rx;have e':k=b:=e;subst e';exact wpAny_truthy_bool ⟨H,I,q⟩
 | int i=>
  obtain⟨t,rfl⟩:=rx;have e':k=(i != 0):=e;subst e';exact PySem.P.truthy_int ⟨H,I,q⟩
 | str y=>
  obtain⟨t,rfl⟩:=rx;obtain⟨hy,e'⟩:y.length≤sizeLine∧k=((y.length:Int) != 0):=e;subst e';exact PySem.P.truthy_str (by omega) ⟨H,I.tok _,q⟩
 | byt y=>
  obtain⟨t,rfl⟩:=rx;obtain⟨hy,e'⟩:y.size≤sizeLine∧k=((y.size:Int) != 0):=e;subst e';exact W.truthy_bytes (by omega) ⟨H,I.tok _,q⟩
 | ref p=>
  cases rx;have e':(∃ xs,SqL X.K H p xs∧k = !xs.isEmpty)∨(∃ xs,SqT X.K H p xs∧k = !xs.isEmpty)∨∃ kvs,H p=some (.dK kvs)∧k = !kvs.isEmpty:=e;rcases e' with⟨xs,hx,e'⟩ | ⟨xs,hx,e'⟩ | ⟨kvs,hx,e'⟩
  ·subst e'
   obtain⟨its,r,pl,hz⟩:=I.list hx;have hlen:=r.length;exact wpAny_truthy_list pl.isList (by simp only[Zw];omega) ⟨H,I.tok _,by rw[T6 r];exact q⟩
  ·subst e'
   obtain⟨its,r,pl,hz⟩:=I.tuple hx;have hlen:=r.length;exact truthy_tuple pl (by simp only[Zw];omega) ⟨H,I.tok _,by rw[T6 r];exact q⟩
  ·subst e'
   obtain⟨hz,hS,vs,r,m⟩:kvs.length≤sizeLine∧(p == sysModules)=false∧∃ vs,KV kvs vs∧s.heap.DictOf (Yo X.prog X.w) p vs:=I.hok p _ hx;have hlen:kvs.length=vs.length:=Paired.length r;exact wpAny_truthy_dict hS m (by omega) ⟨H,I.tok _,by rw[Zb2 r];exact q⟩
 | _=>exact(show False from e).elim
theorem Yi(ha:PE X a ta)(he:∀ whole,isTrue a X.env whole=(do let v ← whole;standAt a.pos;holding [v] (truthy v))) :
  PT X a (fun σ H Q=>ta σ H fun x H'=>∃ k,Zq1 X.K x H' k∧Q k H'):=by
 intro pins s σ H Q I h;exact isTrue_plain (Uc (ha pins s σ H _ I h) fun v s1 ⟨x,H1,I1,r1,q1⟩=>Zge pins s1 σ H1 x v Q I1 r1 q1) (he _)
theorem Ui:Ng X (binaryOp .Add) (fun x y H Q=>∃ i j,x = .str i∧y = .str j∧i.length+j.length≤sizeLine∧Q (.str (i++j)) H):=by
 intro pins s σ H x y v u Q I rx ry h;obtain⟨i,j,rfl,rfl,hz,q⟩:=h;obtain⟨t,rfl⟩:=rx;obtain⟨t',rfl⟩:=ry;exact add_str (fun t' tk=>⟨.str (i++j),H,I.tok _,⟨_,rfl⟩,q⟩) hz
theorem Qt{x:V}{us:List Value}(r:Vals [x] us):∃ u,us=[u]∧RelV x u:=by
 cases r with
 | cons r1 r2=>cases r2;exact⟨_,rfl,r1⟩
theorem Zf8{x y:V}{us:List Value}(r:Vals [x,y] us):∃ u w',us=[u,w']∧RelV x u∧RelV y w':=by
 cases r with
 | cons r1 r2=>
  cases r2 with
  | cons r3 r4=>cases r4;exact⟨_,_,rfl,r1,r3⟩
theorem Zfx(hc:X.calm=true):X3 X (.builtin "max") (fun xs H Q=>∃ i j,xs=[.int i,.int j]∧Q (.int (if j > i then j else i)) H):=by
 intro pins s σ H xs us Q I r h;obtain⟨i,j,rfl,q⟩:=h;obtain⟨u,w',rfl,⟨t,rfl⟩,⟨t',rfl⟩⟩:=Zf8 r;refine max_two_ints (I.ok.hd hc) fun h' tk k=>⟨_,H,I.kept k,?_,q⟩;by_cases hj:j > i
 ·rw[Zu hj,Zu hj];exact⟨_,rfl⟩
 ·rw[Zk hj,Zk hj];exact⟨_,rfl⟩
theorem Dl(hc:X.calm=true):X3 X (.builtin "min") (fun xs H Q=>∃ i j,xs=[.int i,.int j]∧Q (.int (if j < i then j else i)) H):=by
 intro pins s σ H xs us Q I r h;obtain⟨i,j,rfl,q⟩:=h;obtain⟨u,w',rfl,⟨t,rfl⟩,⟨t',rfl⟩⟩:=Zf8 r;refine min_two_ints (I.ok.hd hc) fun h' tk k=>⟨_,H,I.kept k,?_,q⟩;by_cases hj:j < i
 ·rw[Zu hj,Zu hj];exact⟨_,rfl⟩
 ·rw[Zk hj,Zk hj];exact⟨_,rfl⟩
theorem Qc:X3 X (.type "str") (fun xs H Q=>∃ i,xs=[.int i]∧i.natAbs.log2 < 1920∧Q (.str (toString i)) H):=by
 intro pins s σ H xs us Q I r h;obtain⟨i,rfl,hz,q⟩:=h;obtain⟨u,rfl,t,rfl⟩:=Qt r;exact PySem.P.str_of_int hz ⟨.str _,H,I.tok _,⟨_,rfl⟩,q⟩
end
structure ObjM(h:Heap)(x dx C:Addr)(mA:Str→Option Value):Prop where
 obj:h.get? x=some (W.instObj C dx)
 ns:h.Ns1 dx mA
 ne:dx≠x
theorem Zfc{h:Heap}{dx:Addr}{mA:Str→Option Value}(n:h.Ns1 dx mA):∃ od,h.get? dx=some od∧∀ name,W.lookIn name od=some (mA name):=by
 obtain⟨o,es,ep,ho,hd,hk,_,hm⟩:=n;refine⟨o,ho,fun name=>?_⟩;have e:=hm name;unfold nsFind findBy at e;rw[← Array.find?_toList] at e;unfold W.lookIn;rw[hd];dsimp only;split
 ·rename_i y q
  rw[q] at e;exact congrArg some e
 ·rename_i q
  rw[q] at e;have a:es.toList.any (·.refKey)=false:=by
   rw[List.any_eq_false];intro y hy;obtain⟨z,t,hkey⟩:=hk y (Array.mem_toList_iff.mp hy);simp [DictEntry.refKey,hkey]
  have a':¬ es.toList.any (·.refKey)=true:=by rw[a];exact Zr
  rw[Zk a'];exact congrArg some e
theorem ObjM.look{h:Heap}{x dx C:Addr}{mA:Str→Option Value}(I:ObjM h x dx C mA):∃ od,W.InstAt h x (W.instObj C dx) C (some od)∧∀ name,W.lookIn name od=some (mA name):=
 let ⟨od,ho,hl⟩:=Zfc I.ns
 ⟨od,⟨I.obj,rfl,rfl,ho⟩,hl⟩
section
variable{prog:Program}{w:World}{A:Around}{E:Value→Shared→Prop}{s:Shared}{K:W.Frag}{x dx C f:Addr}{mA:Str→Option Value}{name:Str}{v:Value}
theorem Zl6{expr:Bool}{Q:Value→Shared→Prop}(X:K.In s.heap)(I:ObjM s.heap x dx C mA)(hg:W.plainGet K C name=true)(hh:W.hasDictIn K C=true)
  (ha:W.findIn K (.ref C) name=some none) (hv:mA name=some v) (hv':W.handedIn v=true) (h:Q v { s with toks:=s.toks+1 }) :
  wpAny (model prog w) A (getAttr (.ref x) name expr) Q E s:=by
 obtain⟨od,J,hl⟩:=I.look;exact W.get_value X J (W.plainGet_of hg).1 (W.findObj_own hh ha rfl (by rw[hl,hv])) hv' h
theorem Zjo{pl:Sem Bool}{Q:Value×List Value→Shared→Prop}(X:K.In s.heap)(I:ObjM s.heap x dx C mA)(hg:W.plainGet K C name=true)
  (hf:W.findIn K (.ref C) name=some (some (.ref f))) (ht:W.isFn K (.ref f)=true) (hv:mA name=none) (h:Q (.ref f,[.ref x]) s) :
  wpAny (model prog w) A (getMethod (.ref x) name pl) Q E s:=by
 obtain⟨od,J,hl⟩:=I.look;exact W.method_fn X J (W.plainGet_of hg).1 (W.plainGet_of hg).2 hf (beq_iff_eq.mp ht) (by show(W.lookIn name od).map (·.isSome)=some false;rw[hl,hv];rfl) h
theorem Zkm{ns:List Str}{Q:Unit→Shared→Prop}(X:K.In s.heap)(I:ObjM s.heap x dx C mA)
  (hs:W.findIn K (.ref C) "__setattr__" = some (some (.builtin "object.__setattr__"))) (hp:W.plainOver K C=true) (ht:W.takerIn K C name=some none) (hh:W.hasDictIn K C=true)
  (hw:PySem.Within mA ns) (hsz:ns.length≤sizeLine)
  (h:∀ h',ObjM h' x dx C (fun y=>if y=name then some v else mA y)→Heap.SameBut dx s.heap h'→Q () { s with heap:=h',toks:=s.toks+2 }) :
  wpAny (model prog w) A (setAttr (.ref x) name v) Q E s:=by
 obtain⟨od,J,hl⟩:=I.look;refine W.set_plain X J hs (W.osa_open (s:={ s with toks:=s.toks+1 }) (r:=none) X J hp ht fun b=>?_);obtain⟨cd,hc,hd'⟩:=W.any_some hh;have hx:s.heap.get? x=some ⟨.ref C,some dx,.plain,#[]⟩:=I.obj;refine Zb (Ze (Zb (Zb (wpAny_loadPart hx (Zb (W.Looks.here (s:={ s with toks:=s.toks+1 }) (W.looks_clsIn X hc) ?_))))));rw[hd'];refine Ze (a:=some dx) (Zb (Ze (Zb ?_)));refine wpAny_nsSet1 (s:={ s with toks:=s.toks+1 }) I.ns fun h' hn2 hs2=>?_;obtain⟨oD,esD,epD,hoD,hdD,hcD⟩:=hn2.count (PySem.Within.cons name v hw);refine Zb (wpAny_lookBehind hoD (by rw[hdD];exact pastItsLine_dict (Jc hcD (by rw[Jo];omega))) ?_);exact Ze (h _ ⟨(hs2.2 _ (Ne.symm I.ne)).trans I.obj,hn2,I.ne⟩ hs2)
theorem Zjf{R:Result→Shared→Prop}{vs:List Value}{kw:List (Str×Value)}(X:K.In s.heap)(hm:W.makesIn K C=true)
  (hi:W.findIn K (.ref C) "__init__" = some (some (.ref f))) (hf:W.typeIn K (.ref f)=some (.type "function"))
  (h:codeAny (model prog w) (A.under (.builtin "type.__call__" ⟨.ref C :: vs,kw⟩)) (.call (.ref f) ⟨.ref (s.heap.objs.size+1) :: vs,kw⟩) (W.InitBack (s.heap.objs.size+1) R)
   { s with heap:=(s.heap.push W.emptyDict).push (W.instObj C s.heap.objs.size) }) :
  codeAny (model prog w) A (.call (.ref C) ⟨vs,kw⟩) R s:=by
 obtain⟨hh,g,d,t,os⟩:=s;exact W.make_core (W.makes_of X hm) (W.looks_findIn X hi) (fun self=>W.bind_fn X self hf) (.inl rfl) h
theorem Zfb{R:Result→Shared→Prop}(X:K.In s.heap)(hm:W.makesIn K C=true)
  (hi:W.findIn K (.ref C) "__init__" = some (some (.builtin "object.__init__")))
  (hb:∀ self,W.Looks (model prog w) s.heap (bindSpecial (.builtin "object.__init__") self) (.builtin "object.__init__",[self]))
  (h:codeAny (model prog w) (A.under (.builtin "type.__call__" ⟨[.ref C],[]⟩)) (.call (.builtin "object.__init__") ⟨[.ref (s.heap.objs.size+1)],[]⟩) (W.InitBack (s.heap.objs.size+1) R)
   { s with heap:=(s.heap.push W.emptyDict).push (W.instObj C s.heap.objs.size) }) :
  codeAny (model prog w) A (.call (.ref C) ⟨[],[]⟩) R s:=by
 obtain⟨hh,g,d,t,os⟩:=s;exact W.make_core (W.makes_of X hm) (W.looks_findIn X hi) hb (.inr ⟨rfl,rfl⟩) h
end
def X4(f:Str)(v:V):List (Str×V)→List (Str×V)
 | []=>[(f,v)]
 | (g,x) :: r=>if g=f then(g,v) :: r else(g,x) :: X4 f v r
theorem Zt(f g:Str)(v:V):∀ fs:List (Str×V),(X4 f v fs).lookup g=if g=f then some v else fs.lookup g
 | []=>by
  show List.lookup g [(f,v)]=_;by_cases h:g=f
  ·have hb:(g == f)=true:=beq_iff_eq.mpr h
   simp only[List.lookup,hb,Zu h]
  ·have hb:(g == f)=false:=beq_eq_false_iff_ne.mpr h
   simp only[List.lookup,hb,Zk h]
 | (k,x) :: r=>by
  have ih:=Zt f g v r;rw[show X4 f v ((k,x) :: r)=(if k=f then(k,v) :: r else(k,x) :: X4 f v r) from rfl];by_cases hk:k=f
  ·rw[Zu hk]
   by_cases h:g=k
   ·have hb:(g == k)=true:=beq_iff_eq.mpr h
    simp only[List.lookup,hb,Zu (h.trans hk)]
   ·have hb:(g == k)=false:=beq_eq_false_iff_ne.mpr h
    simp only[List.lookup,hb,Zk (fun e:g=f=>h (e.trans hk.symm))]
  ·rw[Zk hk]
   by_cases h:g=k
   ·have hb:(g == k)=true:=beq_iff_eq.mpr h
    simp only[List.lookup,hb,Zk (fun e:g=f=>hk (h.symm.trans e))]
   ·have hb:(g == k)=false:=beq_eq_false_iff_ne.mpr h
    simp only[List.lookup,hb];exact ih
theorem Re(f:Str)(v:V):∀ fs:List (Str×V),f∈(X4 f v fs).map (·.1)∧∀ g,g∈fs.map (·.1)→g∈(X4 f v fs).map (·.1)
 | []=>⟨by simp [X4],fun g h=>by simp at h⟩
 | (k,x) :: r=>by
  obtain⟨i1,i2⟩:=Re f v r;rw[show X4 f v ((k,x) :: r)=(if k=f then(k,v) :: r else(k,x) :: X4 f v r) from rfl];by_cases hk:k=f
  ·rw[Zu hk]
   subst hk;exact⟨by simp,fun g h=>by simpa using h⟩
  ·rw[Zk hk]
   refine⟨?_,fun g h=>?_⟩
   ·rw[List.map_cons]
    exact Zz _ i1
   ·rw[List.map_cons] at h ⊢
    rcases Je.mp h with e | e
    ·exact Je.mpr (.inl e)
    ·exact Zz _ (i2 g e)
theorem Y8(f:Str)(v:V):∀ fs:List (Str×V),(X4 f v fs).length≤fs.length+1
 | []=>by simp [X4]
 | (k,x) :: r=>by
  have ih:=Y8 f v r;rw[show X4 f v ((k,x) :: r)=(if k=f then(k,v) :: r else(k,x) :: X4 f v r) from rfl];by_cases hk:k=f
  ·rw[Zu hk,Jo,Jo];omega
  ·rw[Zk hk,Jo,Jo];omega
theorem RelO.some_of{v:V}{o:Option Value}(r:RelO (some v) o):∃ u,o=some u∧RelV v u:=by
 cases o with
 | none=>exact(show False from r).elim
 | some u=>exact⟨u,rfl,r⟩
theorem RelO.none_of{o:Option Value}(r:RelO none o):o=none:=by
 cases o with
 | none=>rfl
 | some u=>exact(show False from r).elim
theorem Zfk{v:V}{u:Value}(r:RelV v u):W.handedIn u=true:=by
 cases v with
 | non=>cases (show u=Value.none from r);rfl
 | bl b=>cases (show u=Value.bool b from r);rfl
 | int i=>obtain⟨t,e⟩:=(show ∃ t,u=Value.int i t from r);cases e;rfl
 | str x=>obtain⟨t,e⟩:=(show ∃ t,u=Value.str x t from r);cases e;rfl
 | byt b=>obtain⟨t,e⟩:=(show ∃ t,u=Value.bytes b t from r);cases e;rfl
 | flt b=>obtain⟨t,e⟩:=(show ∃ t,u=Value.float b t from r);cases e;rfl
 | ref a=>cases (show u=Value.ref a from r);rfl
 | ty n=>cases (show u=Value.type n from r);rfl
section
variable{P:Program}{w:World}{H H':Hp}{h h':Heap}{a C dx:Addr}{fs fs':List (Str×V)}
theorem Gm(hok:HOk P w H h)(e:H a=some (.ins C dx fs)):∃ mA,ObjM h a dx C mA∧(∀ f,RelO (fs.lookup f) (mA f))∧PySem.Within mA (fs.map (·.1))∧fs.length≤1000∧H dx=some (.own a):=by
 obtain⟨d,z,ne,ob,mA,n,r,q⟩:=(show ObjOk P w H h a (.ins C dx fs) from hok a _ e);exact⟨mA,⟨ob,n,ne⟩,r,q,z,d⟩
end
structure Cls(K:W.Frag)(C:Addr):Prop where
 pg:W.plainGet K C Str.empty=true
 hd:W.hasDictIn K C=true
 po:W.plainOver K C=true
 sa:W.findIn K (.ref C) "__setattr__" = some (some (.builtin "object.__setattr__"))
theorem Cls.get{K:W.Frag}{C:Addr}(c:Cls K C)(f:Str):W.plainGet K C f=true:=c.pg
def NoAttr(K:W.Frag)(C:Addr)(f:Str):Prop:=W.findIn K (.ref C) f=some none
theorem NoAttr.taker{K:W.Frag}{C:Addr}{f:Str}(n:NoAttr K C f):W.takerIn K C f=some none:=by
 unfold W.takerIn;rw[show W.findIn K (.ref C) f=some none from n];rfl
structure Meth(K:W.Frag)(C:Addr)(m:Str)(f:Addr):Prop where
 at_:W.findIn K (.ref C) m=some (some (.ref f))
 fn:W.isFn K (.ref f)=true
 kp:W.keepIn K (.ref f)=true
section
variable{X:Cx}{pins:List (Addr×Obj)}{σ:St}{H:Hp}{s:Shared}{a C dx:Addr}{fs:List (Str×V)}{f:Str}{v:V}{A:Around}{E:Value→Shared→Prop}
theorem Zb5{b:Bool}{Q:Value→Shared→Prop}(I:Inv X pins σ H s)(e:H a=some (.ins C dx fs))(c:Cls X.K C)(n:NoAttr X.K C f)(l:fs.lookup f=some v)
  (h:∀ u s',Inv X pins σ H s'→RelV v u→Q u s'):wpAny (model X.prog X.w) A (getAttr (.ref a) f b) Q E s:=by
 obtain⟨mA,O,r,_,_,_⟩:=Gm I.hok e;obtain⟨u,hu,ru⟩:=RelO.some_of (v:=v) (o:=mA f) (by rw[← l];exact r f);exact Zl6 I.kIn O (c.get f) c.hd n hu (Zfk ru) (h u _ (I.tok _) ru)
theorem Nd{m:Str}{g:Addr}{pl:Sem Bool}{Q:Value×List Value→Shared→Prop}(I:Inv X pins σ H s)(e:H a=some (.ins C dx fs))(c:Cls X.K C)(k:Meth X.K C m g)(l:fs.lookup m=none)
  (h:Q (.ref g,[.ref a]) s):wpAny (model X.prog X.w) A (getMethod (.ref a) m pl) Q E s:=by
 obtain⟨mA,O,r,_,_,_⟩:=Gm I.hok e;have hn:mA m=none:=RelO.none_of (by rw[← l];exact r m);exact Zjo I.kIn O (c.get m) k.at_ k.fn hn h
theorem Zas{y:V}{u:Value}{Q:Unit→Shared→Prop}(I:Inv X pins σ H s)(e:H a=some (.ins C dx fs))(c:Cls X.K C)(n:NoAttr X.K C f)(hl:fs.length < 1000)(ry:RelV y u)
  (h:∀ s',Inv X pins σ (upd H a (.ins C dx (X4 f y fs))) s'→Q () s'):wpAny (model X.prog X.w) A (setAttr (.ref a) f u) Q E s:=by
 obtain⟨mA,O,r,wi,_,ho⟩:=Gm I.hok e;have hz:(fs.map (·.1)).length≤sizeLine:=by rw[Zj,sizeLine_eq];omega
 refine Zkm I.kIn O c.sa c.po n.taker c.hd wi hz fun h' O' sb=>h _ ?_;have hd:∃ o,h'.get? dx=some o:=let ⟨o,_,_,e',_⟩:=O'.ns;⟨o,e'⟩;refine I.write (x:=a) (e:=dx) (by rw[e];exact True.intro) (.inr ho) (fun b q hb z=>(sb.2 b hb).trans z) hd ?_;refine⟨by rw[Jh O.ne];exact ho,?_,O.ne,O'.obj,_,O'.ns,fun g=>?_,fun g hg=>?_⟩
 ·have:=Y8 f y fs;omega
 ·show RelO ((X4 f y fs).lookup g) (if g=f then some u else mA g)
  rw[Zt];by_cases q:g=f
  ·rw[Zu q,Zu q];exact ry
  ·rw[Zk q,Zk q];exact r g
 ·by_cases q:g=f
  ·rw[q];exact(Re f y fs).1
  ·refine(Re f y fs).2 g (wi g fun z=>hg ?_)
   show(if g=f then some u else mA g)=none;rw[Zk q];exact z
theorem Inv.made(I:Inv X pins σ H s):Inv X pins σ (upd (upd H s.heap.objs.size (.own (s.heap.objs.size+1))) (s.heap.objs.size+1) (.ins C s.heap.objs.size []))
  { s with heap:=(s.heap.push W.emptyDict).push (W.instObj C s.heap.objs.size) }:=by
 have e1:(s.heap.push W.emptyDict).get? s.heap.objs.size=some W.emptyDict:=Z6 s.heap rfl;have e2:((s.heap.push W.emptyDict).push (W.instObj C s.heap.objs.size)).get? (s.heap.objs.size+1)=some (W.instObj C s.heap.objs.size):=by
  have:=Z6 (s.heap.push W.emptyDict) (o:=W.instObj C s.heap.objs.size) rfl
  rwa [Heap.size_push] at this
 have e3:(s.heap.push W.emptyDict).Ns s.heap.objs.size (fun _=>none):=⟨W.emptyDict,#[],_,e1,rfl,(fun e he=>absurd he (by simp)),fun _=>rfl⟩;have I1:=I.laid (a:=s.heap.objs.size) (o:=.own (s.heap.objs.size+1)) (h':=s.heap.push W.emptyDict) (t':=s.toks) (fun b u q=>Zi _ q) (Zs _) ⟨_,e1⟩;refine I1.laid (a:=s.heap.objs.size+1) (o:=.ins C s.heap.objs.size []) (t':=s.toks) (fun b u q=>Zi _ q) (Nat.le_of_eq (Heap.size_push _ _)) ?_;have ne:s.heap.objs.size≠s.heap.objs.size+1:=Jn (Xh _);refine⟨by rw[Jh ne,Zo],Nat.zero_le _,ne,e2,fun _=>none,(Heap.Ns1.of_empty e3).at fun o q=>Zi _ q,fun _=>True.intro,fun y hy=>absurd rfl hy⟩
theorem Zmg{prog:Program}{w:World}{env:Env}{e:Expr}{f:Str}{pos:Pos}{s:Shared}{Q:Value→Shared→Prop}(hb:attributeBase e f env (eval e env)=eval e env)
  (h:wpAny (model prog w) A (eval e env) (fun o s₁=>wpAny (model prog w) A (getAttr o f true) Q E s₁) E s):wpAny (model prog w) A (eval (.Attribute e f pos) env) Q E s:=
 Attribute_any_ h (by rw[arm_eval_Attribute,hb])
end
def Zrp(K:W.Frag)(ta:TE)(f:Str):TE:=fun σ H Q=>ta σ H fun x H1=>∃ a C dx fs v,x = .ref a∧H1 a=some (.ins C dx fs)∧Cls K C∧NoAttr K C f∧fs.lookup f=some v∧Q v H1
def Zrr(K:W.Frag)(ta tv:TE)(f:Str):TS:=fun D σ H=>tv σ H fun y H1=>ta σ H1 fun x H2=>∃ a C dx fs,x = .ref a∧H2 a=some (.ins C dx fs)∧Cls K C∧NoAttr K C f∧fs.length < 1000 ∧
 D.nx σ (upd H2 a (.ins C dx (X4 f y fs)))
section
variable{X:Cx}{o e value:Expr}{f:Str}{pos pos' tpos:Pos}{ta tv:TE}
theorem Jt(he:PE X e ta)(hb:attributeBase e f X.env (eval e X.env)=eval e X.env):PE X (.Attribute e f pos) (Zrp X.K ta f):=by
 intro pins s σ H Q I h;refine Zmg hb (Uc (he pins s σ H _ I h) fun u s1 ⟨x,H1,I1,rx,a,C,dx,fs,v,ex,ea,c,n,l,q⟩=>?_);subst ex;obtain rfl:u=Value.ref a:=rx;exact Zb5 I1 ea c n l fun u' s2 I2 ru=>⟨v,H1,I2,ru,q⟩
theorem Xk(ha:PE X o ta)(hv:PE X value tv)(hs:swapsWith value (some (.Attribute o f pos')) pos.line X.env=pure false):PS X (.Assign [.Attribute o f pos'] value pos) (Zrr X.K ta tv f):=by
 intro pins s σ H D I h;refine plainObj_wpAny_Assign_Attribute (Uc (hv pins s σ H _ I h) fun u s1 ⟨y,H1,I1,ry,q⟩=>Uc (ha pins s1 σ H1 _ I1 q) fun ov s2 ⟨x,H2,I2,rx,a,C,dx,fs,ex,ea,c,n,l,q2⟩=>?_) hs;subst ex;obtain rfl:ov=Value.ref a:=rx;exact Zas I2 ea c n l ry fun s3 I3=>⟨σ,_,I3,q2⟩
end
section
variable{X:Cx}{pins:List (Addr×Obj)}{σ:St}{H:Hp}{s:Shared}{A:Around}{E:Value→Shared→Prop}{Q:Value→Shared→Prop}{c:Value}{b:Bool}
inductive TyOf(K:W.Frag)(H:Hp):V→Value→Prop where
 | non:TyOf K H .non (.type "NoneType")
 | bl (x:Bool):TyOf K H (.bl x) (.type "bool")
 | int (i:Int):TyOf K H (.int i) (.type "int")
 | str (x:Str):TyOf K H (.str x) (.type "str")
 | flt (x:UInt64):TyOf K H (.flt x) (.type "float")
 | lst {a:Addr} {xs:List V} (e:H a=some (.lst xs)):TyOf K H (.ref a) (.type "list")
 | frz {a:Addr} {o:Obj} {xs:List V} (e:H a=some (.frz o (.lst xs))):TyOf K H (.ref a) (.type "list")
 | tup {a:Addr} {xs:List V} (e:H a=some (.tup xs)):TyOf K H (.ref a) (.type "tuple")
 | dK {a:Addr} {kvs:List (N3×V)} (e:H a=some (.dK kvs)):TyOf K H (.ref a) (.type "dict")
 | dT {a:Addr} {kvs:List (List N3×V)} (e:H a=some (.dT kvs)):TyOf K H (.ref a) (.type "dict")
 | ins {a C dx:Addr} {fs:List (Str×V)} (e:H a=some (.ins C dx fs)) (cl:Cls K C) (ha:W.findIn K (.ref C) "__class__" = some (some (.builtin "object.__class__")))
   (hn:W.specialIn K (.builtin "object.__class__") "__get__" = some (some (.builtin "getset_descriptor.__get__"))) (htk:W.takesIn K (.builtin "object.__class__")=some true)
   (hm:W.mroIn K C (.type "object")=some true):TyOf K H (.ref a) (.ref C)
theorem Zfh{x:V}{u t:Value}(I:Inv X pins σ H s)(rx:RelV x u)(ty:TyOf X.K H x t)(e:W.kitOne X.K t c=some b)(h:∀ tk,Q (.bool b) { s with toks:=tk }) :
  wpAny (model X.prog X.w) A (call (.builtin "isinstance") [u,c]) Q E s:=by
 cases ty with
 | non=>cases (show u=Value.none from rx);exact W.kia_one W.kitx_none I.kIn True.intro e (fun z=>nomatch z) h
 | bl y=>cases (show u=Value.bool y from rx);exact W.kia_one W.kitx_bool I.kIn True.intro e (fun z=>nomatch z) h
 | int i=>obtain⟨t,q⟩:=(show ∃ t,u=Value.int i t from rx);cases q;exact W.kia_one W.kitx_int I.kIn True.intro e (fun z=>nomatch z) h
 | str y=>obtain⟨t,q⟩:=(show ∃ t,u=Value.str y t from rx);cases q;exact W.kia_one W.kitx_str I.kIn True.intro e (fun z=>nomatch z) h
 | flt y=>obtain⟨t,q⟩:=(show ∃ t,u=Value.float y t from rx);cases q;exact W.kia_one W.kitx_float I.kIn True.intro e (fun z=>nomatch z) h
 | @lst a xs ea=>
  cases (show u=Value.ref a from rx);obtain⟨_,_,n,_,h1⟩:=(show ObjOk X.prog X.w H s.heap a (.lst xs) from I.hok a _ ea);exact W.kia_one W.kitx_list I.kIn ⟨_,h1,rfl⟩ e (fun z=>nomatch z) h
 | @frz a ob xs ea=>
  cases (show u=Value.ref a from rx);obtain⟨_,_,_,n,_,h1⟩:=(show ObjOk X.prog X.w H s.heap a (.frz ob (.lst xs)) from I.hok a _ ea);exact W.kia_one W.kitx_list I.kIn ⟨_,h1,rfl⟩ e (fun z=>nomatch z) h
 | @tup a xs ea=>
  cases (show u=Value.ref a from rx);obtain⟨_,_,_,p⟩:=(show ObjOk X.prog X.w H s.heap a (.tup xs) from I.hok a _ ea);obtain⟨o,h1,h2,_⟩:=p;exact W.kia_one W.kitx_tuple I.kIn ⟨o,h1,h2⟩ e (fun z=>nomatch z) h
 | @dK a kvs ea=>
  cases (show u=Value.ref a from rx);obtain⟨_,_,vs,_,p⟩:=(show ObjOk X.prog X.w H s.heap a (.dK kvs) from I.hok a _ ea);obtain⟨o,es,ep,h1,h2,_⟩:=p;exact W.kia_one W.kitx_dict I.kIn ⟨o,h1,h2.1⟩ e (fun z=>nomatch z) h
 | @dT a kvs ea=>
  cases (show u=Value.ref a from rx);obtain⟨_,_,xs,_,o,es,ep,h1,h2,_⟩:=(show ObjOk X.prog X.w H s.heap a (.dT kvs) from I.hok a _ ea);exact W.kia_one W.kitx_dict I.kIn ⟨o,h1,h2.1⟩ e (fun z=>nomatch z) h
 | @ins a C dx fs ea cl ha hn htk hm=>
  cases (show u=Value.ref a from rx);obtain⟨mA,O,_⟩:=Gm I.hok ea;obtain⟨od,J,_⟩:=O.look;exact W.kia_one (W.kitx_own (cl.get _) cl.hd ha hn htk hm) I.kIn J e (fun z=>nomatch z) h
end
structure Room(k:Nat)(A:Around):Prop where
 hd:A.handled=none
 dp:A.depth+3 * k+5 < recursionLimit
 un:A.units+16 * k+200 < cLine
theorem Room.mono{j k:Nat}{A:Around}(r:Room k A)(h:j≤k):Room j A:=⟨r.hd,by have:=r.dp;omega,by have:=r.un;omega⟩
theorem Room.deeper{k:Nat}{A:Around}(r:Room (k+1) A)(env:Env):Room k (A.deeper env):=
 ⟨r.hd,by have:=r.dp;show A.depth+1+3 * k+5 < _;omega,by have:=r.un;show A.units+3+16 * k+200 < _;omega⟩
theorem Zbu{A:Around}{C:Addr}{us:List Value}{kw:List (Str×Value)}:(A.under (.builtin "type.__call__" ⟨.ref C :: us,kw⟩)).depth=A.depth+1:=by
 first | rfl | simp [Around.under,Code.weight,Code.isCreation,Code.isGuard,Code.isCaller,Code.frames,Code.isFrame,guardIds]
theorem Zbt{A:Around}{C:Addr}{us:List Value}{kw:List (Str×Value)}:(A.under (.builtin "type.__call__" ⟨.ref C :: us,kw⟩)).units=A.units+1:=by
 first | rfl | simp [Around.under,Code.cUnits,Code.frames,Code.isFrame]
theorem Room.make{k:Nat}{A:Around}(r:Room (k+1) A)(C:Addr)(us:List Value)(kw:List (Str×Value)):Room k (A.under (.builtin "type.__call__" ⟨.ref C :: us,kw⟩)):=
 ⟨r.hd,by have:=r.dp;rw[Zbu];omega,by have:=r.un;rw[Zbt];omega⟩
theorem Room.depth{k:Nat}{A:Around}(r:Room k A):A.depth < recursionLimit:=by have:=r.dp;omega
theorem Room.units{k:Nat}{A:Around}(r:Room k A):A.units+64 < cLine:=by have:=r.un;omega
def Znc:TA:=fun _ H Q=>Q [] H
def Zp2(ta:TE)(tr:TA):TA:=fun σ H Q=>ta σ H fun x H1=>tr σ H1 fun xs H2=>Q (x :: xs) H2
section
variable{X:Cx}{e:Expr}{es:List Expr}{te:TE}{t:TA}{pos:Pos}
theorem Zg:PA X [] Znc:=fun _ _ _ _ H Q I h=>Calls.spliced_nil ⟨[],H,I,.nil,h⟩
theorem Za(ha:PE X e te)(hr:PA X es t)(hs:starEach (e :: es) X.env=(false,eval e X.env) :: starEach es X.env:=by rfl):PA X (e :: es) (Zp2 te t):=by
 intro pos pins s σ H Q I h;rw[hs];show wpAny _ _ (spliced ((false,eval e X.env) :: backTo pos (starEach es X.env))) _ _ s;refine Calls.spliced_cons (Uc (ha pins s σ H _ I h) fun u s1 ⟨x,H1,I1,r1,q1⟩=>?_);exact Uc (hr pos pins s1 σ H1 _ I1 q1) fun us s2 ⟨xs,H2,I2,r2,q2⟩=>⟨x :: xs,H2,I2,.cons r1 r2,q2⟩
def Zri(t:TA):TE:=fun σ H Q=>t σ H fun xs H1=>xs.length≤sizeLine∧∀ p,H1 p=none→Q (.ref p) (upd H1 p (.tup xs))
def Zrn(t:TA):TE:=fun σ H Q=>t σ H fun xs H1=>xs.length≤sizeLine∧∀ p,H1 p=none→Q (.ref p) (upd H1 p (.lst xs))
theorem Um{x1}(h:PA X es t):PE X (.Tuple es x1 pos) (Zri t):=by
 intro pins s σ H Q I hq;refine wpAny_Tuple_spliced (Uc (h pos pins s σ H _ I hq) fun us s1 ⟨xs,H1,I1,r,z,q⟩=>⟨by rw[← r.length];exact z,?_⟩);have hf:H1 s1.heap.objs.size=none:=I1.hok.fresh (Zs _);refine⟨.ref s1.heap.objs.size,upd H1 s1.heap.objs.size (.tup xs),I1.laid (t':=s1.toks) (fun b u e=>Zi _ e) (Zs _) ?_,rfl,q _ hf⟩;exact⟨z,us,r,⟨_,Z6 _ rfl,rfl,_,rfl⟩⟩
theorem Xl(h:PA X es t):PE X (.List es pos) (Zrn t):=by
 intro pins s σ H Q I hq;refine wpAny_List_spliced (Uc (h pos pins s σ H _ I hq) fun us s1 ⟨xs,H1,I1,r,z,q⟩=>⟨by rw[← r.length];exact z,?_⟩);have hf:H1 s1.heap.objs.size=none:=I1.hok.fresh (Zs _);refine⟨.ref s1.heap.objs.size,upd H1 s1.heap.objs.size (.lst xs),I1.laid (t':=s1.toks) (fun b u e=>Zi _ e) (Zs _) ?_,rfl,q _ hf⟩;exact⟨z,us,0,r,Z6 _ rfl⟩
end
abbrev Sp:=List V→Hp→VK→XK→Prop
abbrev S8:=List Env→Hp→Shared→XK→Value→Shared→Prop
structure Env0(P:Program)(w:World)(K:W.Frag)(mg:Str→Option Value)(base:Heap)(A:Around)(outer:List Env)(s:Shared)(H:Hp):Prop where
 frames:A.frames=some outer
 mod:Mod K mg base
 bs:∀ b o,base.get? b=some o→s.heap.get? b=some o∧H b=none
 bsz:base.objs.size≤s.heap.objs.size
 funs:s.heap.FunFrames base outer
 frf:∀ b∈Ak outer,H b=none
 hok:HOk P w H s.heap
 bare:AllBare s.gens
def CE(outer:List Env)(P:Program)(w:World)(H:Hp)(s:Shared)(Q:VK)(u:Value)(s':Shared):Prop:=
 ∃ v H',s'.os=s.os∧AllBare s'.gens∧Un (Ak outer) [] H H' s.heap s'.heap∧HOk P w H' s'.heap∧RelV v u∧Q v H'
def CR(CX:S8)(outer:List Env)(P:Program)(w:World)(H:Hp)(s:Shared)(Q:VK)(E:XK)(r:Result)(s':Shared):Prop:=
 match r with
 | .ok (.ret u)=>CE outer P w H s Q u s'
 | .ok _=>False
 | .error e=>CX outer H s E e s'
structure FnOk(P:Program)(w:World)(K:W.Frag)(mg:Str→Option Value)(base:Heap)(CX:S8)(k:Nat)(f:Addr)(fd:FuncData)(ps:List Str)(sp:Sp):Prop where
 len:∀ vs H Q E,sp vs H Q E→vs.length=ps.length
 run:∀(A:Around) (outer:List Env) (s:Shared) (H:Hp) (args:Args) (us:List Value) (vs:List V) (Q:VK) (E:XK),Room k A→Env0 P w K mg base A outer s H→BindsTo s fd args (ps.zip us)→Vals vs us→sp vs H Q E →
  codeAny (model P w) A (.call (.ref f) args) (CR CX outer P w H s Q E) s
theorem FnOk.mono{P:Program}{w:World}{K:W.Frag}{mg:Str→Option Value}{base:Heap}{CX:S8}{j k:Nat}{f:Addr}{fd:FuncData}{ps:List Str}{sp:Sp}(F:FnOk P w K mg base CX j f fd ps sp)(h:j≤k) :
  FnOk P w K mg base CX k f fd ps sp:=⟨F.len,fun A outer s H args us vs Q E hr=>F.run A outer s H args us vs Q E (hr.mono h)⟩
theorem FnOk.imp{P:Program}{w:World}{K:W.Frag}{mg:Str→Option Value}{base:Heap}{CX:S8}{k:Nat}{f:Addr}{fd:FuncData}{ps:List Str}{sp sp':Sp}(F:FnOk P w K mg base CX k f fd ps sp)
  (h:∀ vs H Q E,sp' vs H Q E→sp vs H Q E):FnOk P w K mg base CX k f fd ps sp':=
 ⟨fun vs H Q E q=>F.len vs H Q E (h _ _ _ _ q),fun A outer s H args us vs Q E hr he hb hv hs=>F.run A outer s H args us vs Q E hr he hb hv (h _ _ _ _ hs)⟩
theorem Env0.make{P:Program}{w:World}{K:W.Frag}{mg:Str→Option Value}{base:Heap}{A:Around}{outer:List Env}{s:Shared}{H:Hp}(e:Env0 P w K mg base A outer s H)(C:Addr)(us:List Value)(kw:List (Str×Value)) :
  Env0 P w K mg base (A.under (.builtin "type.__call__" ⟨.ref C :: us,kw⟩)) outer s H:=⟨by first | exact e.frames | (simpa [Around.under,Code.envs,Code.isFrame,pushEnvs] using e.frames),e.mod,e.bs,e.bsz,e.funs,e.frf,e.hok,e.bare⟩
section
variable{X:Cx}{pins:List (Addr×Obj)}{σ:St}{H:Hp}{s s':Shared}
theorem Inv.env0(I:Inv X pins σ H s):Env0 X.prog X.w X.K X.mg X.base X.A X.stack s H:=
 ⟨I.ok.frames,I.ok.mod,I.bs,Jc I.ok.bsz I.sz,I.stack,I.stkFree,I.hok,I.bare⟩
theorem Inv.after{Q:VK}{u:Value}(I:Inv X pins σ H s)(h:CE X.stack X.prog X.w H s Q u s'):EP X pins σ Q u s':=by
 obtain⟨v,H',os,bare,un,hok,r,q⟩:=h;obtain⟨hh,g,d,t,os'⟩:=s';obtain rfl:os'=s.os:=os;exact⟨v,H',I.call (h':=hh) (g':=g) (d':=d) (t':=t) (ch:=[]) un hok bare (fun b z=>absurd z (by simp)),r,q⟩
end
def Zp3(sp:Sp)(dvs:List V)(E:XK)(t:TA):TE:=fun σ H Q=>t σ H fun vs H1=>sp (vs++dvs) H1 Q E
def Zmo(C:Addr)(m:Str)(sp:Sp)(dvs:List V)(E:XK)(ta:TE)(t:TA):TE:=fun σ H Q=>ta σ H fun x H1=>∃ a dx fs,x = .ref a∧H1 a=some (.ins C dx fs)∧fs.lookup m=none ∧
 t σ H1 fun vs H2=>sp (x :: (vs++dvs)) H2 Q E
def Zpz(C:Addr)(sp:Sp)(dvs:List V)(E:XK)(t:TA):TE:=fun σ H Q=>t σ H fun vs H1=>∀ x dx,H1 x=none→H1 dx=none→dx≠x →
 sp (.ref x :: (vs++dvs)) (upd (upd H1 dx (.own x)) x (.ins C dx [])) (fun v H2=>v = .non∧Q (.ref x) H2) E
def Binds(K:W.Frag)(fd:FuncData)(ps:List Str)(ds:List Value):Prop:=
 ∀(s:Shared) (us:List Value),K.In s.heap→(us++ds).length=ps.length→BindsTo s fd ⟨us,[]⟩ (ps.zip (us++ds))
theorem Binds.all{K:W.Frag}{fd:FuncData}{ps:List Str}(h:∀ us:List Value,us.length=ps.length→bindArgs fd ⟨us,[]⟩=pure (ps.zip us)):Binds K fd ps []:=fun s us _ hl=>by
 rw[J8] at hl ⊢;exact .of_eq (h us hl)
def Ee(CX:S8)(X:Cx)(E:XK):Prop:=∀(pins:List (Addr×Obj)) (σ:St) (H:Hp) (s:Shared) (e:Value) (s':Shared),Inv X pins σ H s→CX X.stack H s E e s'→X.xe e s'
section
variable{X:Cx}{CX:S8}{k:Nat}{f C:Addr}{fd:FuncData}{ps:List Str}{sp:Sp}{dvs:List V}{ds:List Value}{E:XK}{x m:Str}{p pos apos:Pos}{e o:Expr}{es:List Expr}{ta:TE}{t:TA}
theorem Te{pins:List (Addr×Obj)}{σ:St}{H:Hp}{s:Shared}{Q:VK}{us:List Value}{vs:List V}(F:FnOk X.prog X.w X.K X.mg X.base CX k f fd ps sp)(hr:Room k X.A)(hb:Binds X.K fd ps ds)(hd:Vals dvs ds)(hx:Ee CX X E)
  (I:Inv X pins σ H s) (r:Vals vs us) (h:sp (vs++dvs) H Q E):wpAny (model X.prog X.w) X.A (call (.ref f) us) (EP X pins σ Q) X.xe s:=by
 have r2:Vals (vs++dvs) (us++ds):=r.append hd;have hl:(us++ds).length=ps.length:=by rw[← r2.length];exact F.len _ _ _ _ h
 refine wpAny_call (codeAny_mono (F.run X.A X.stack s H ⟨us,[]⟩ (us++ds) (vs++dvs) Q E hr I.env0 (hb s us I.kIn hl) r2 h) fun r s' hq=>?_);cases r with
 | error e=>exact hx pins σ H s e s' I hq
 | ok fl=>
  cases fl with
  | ret u=>exact I.after hq
  | next=>exact False.elim hq
  | brk=>exact False.elim hq
  | cont=>exact False.elim hq
theorem Z1(F:FnOk X.prog X.w X.K X.mg X.base CX k f fd ps sp)(hr:Room k X.A)(hg:Gl X x)(hm:X.mg x=some (.ref f))(hk:W.keepIn X.K (.ref f)=true)(hb:Binds X.K fd ps ds)(hd:Vals dvs ds)(hx:Ee CX X E)
  (ha:PA X (e :: es) t) (hdb:(x == ("__debug__":Str))=false:=by decide) (he:starEach (e :: es) X.env=(false,eval e X.env) :: starEach es X.env:=by rfl) (hpl:(backTo pos (starEach es X.env)).any (·.1)=false:=by rfl) :
  PE X (.Call (.Name x p) (e :: es) [] pos) (Zp3 sp dvs E t):=by
 intro pins s σ H Q I h;refine wpAny_Call_Name_kw (Vp I hg hm ?_ hdb);refine W.callWith_K (h₀:=X.base) I.ok.mod.kin hk (Uc (ha pos pins s σ H _ I h) fun us s1 ⟨vs,H1,I1,r,q⟩=>⟨I1.kIn,?_⟩) he hpl;exact Te F hr hb hd hx I1 r q
theorem Uj{pl:Sem Bool}(he:PE X o ta)(c:Cls X.K C)(hm:Meth X.K C m f)(F:FnOk X.prog X.w X.K X.mg X.base CX k f fd ps sp)(hr:Room k X.A)(hb:Binds X.K fd ps ds)(hd:Vals dvs ds)(hx:Ee CX X E)(ha:PA X (e :: es) t)
  (hst:starEach (e :: es) X.env=(false,eval e X.env) :: starEach es X.env:=by rfl) (hpl:(backTo pos (starEach es X.env)).any (·.1)=false:=by rfl)
  (ht:eval (.Call (.Attribute o m apos) (e :: es) [] pos) X.env=(do
   let ov ← eval o X.env
   standAt apos.atName
   let (f,first) ← holding [ov] (getMethod ov m pl)
   callWith pos f first (backTo pos (starEach (e :: es) X.env)) (backToKw pos (keywordEach [] X.env))):=by rfl) :
  PE X (.Call (.Attribute o m apos) (e :: es) [] pos) (Zmo C m sp dvs E ta t):=by
 intro pins s σ H Q I h;refine W.methodCall_KW (pl:=pl) (Uc (he pins s σ H _ I h) fun u s1 ⟨x,H1,I1,rx,a,dx,fs,ex,ea,l,q⟩=>?_) ht;subst ex;obtain rfl:u=Value.ref a:=rx;refine Nd I1 ea c hm l ?_;refine W.callWith_K (first:=[.ref a]) (h₀:=X.base) I.ok.mod.kin hm.kp (Uc (ha pos pins s1 σ H1 _ I1 q) fun us s2 ⟨vs,H2,I2,r,q2⟩=>⟨I2.kIn,?_⟩) hst hpl;exact Te (us:=.ref a :: us) (vs:=.ref a :: vs) F hr hb hd hx I2 (.cons rfl r) q2
theorem Vf{pl:Sem Bool}(he:PE X o ta)(c:Cls X.K C)(hm:Meth X.K C m f)(F:FnOk X.prog X.w X.K X.mg X.base CX k f fd ps sp)(hr:Room k X.A)(hb:Binds X.K fd ps ds)(hd:Vals dvs ds)(hx:Ee CX X E)
  (ht:eval (.Call (.Attribute o m apos) [] [] pos) X.env=(do
   let ov ← eval o X.env
   standAt apos.atName
   let (f,first) ← holding [ov] (getMethod ov m pl)
   callWith pos f first (backTo pos (starEach [] X.env)) (backToKw pos (keywordEach [] X.env))):=by rfl) :
  PE X (.Call (.Attribute o m apos) [] [] pos) (Zmo C m sp dvs E ta Znc):=by
 intro pins s σ H Q I h;refine W.methodCall_KW (pl:=pl) (Uc (he pins s σ H _ I h) fun u s1 ⟨x,H1,I1,rx,a,dx,fs,ex,ea,l,q⟩=>?_) ht;subst ex;obtain rfl:u=Value.ref a:=rx;refine Nd I1 ea c hm l ?_;exact W.callWith_K0 (first:=[.ref a]) I1.kIn hm.kp (Te (us:=[.ref a]) (vs:=[.ref a]) F hr hb hd hx I1 (.cons rfl .nil) q)
structure Mk(K:W.Frag)(C f:Addr):Prop where
 makes:W.makesIn K C=true
 init:W.findIn K (.ref C) "__init__" = some (some (.ref f))
 fn:W.isFn K (.ref f)=true
 kp:W.keepIn K (.ref C)=true
theorem Zhd{pins:List (Addr×Obj)}{σ:St}{H:Hp}{s:Shared}{Q:VK}{us:List Value}{vs:List V}(M:Mk X.K C f)(F:FnOk X.prog X.w X.K X.mg X.base CX k f fd ps sp)(hr:Room (k+1) X.A)(hb:Binds X.K fd ps ds)(hd:Vals dvs ds)
  (hx:Ee CX X E) (I:Inv X pins σ H s) (r:Vals vs us)
  (h:∀ x dx,H x=none→H dx=none→dx≠x→sp (.ref x :: (vs++dvs)) (upd (upd H dx (.own x)) x (.ins C dx [])) (fun v H2=>v = .non∧Q (.ref x) H2) E) :
  wpAny (model X.prog X.w) X.A (call (.ref C) us) (EP X pins σ Q) X.xe s:=by
 have hq:=h (s.heap.objs.size+1) s.heap.objs.size (I.hok.fresh (Nat.le_succ _)) (I.hok.fresh (Zs _)) (Jn (Xh _));have I2:=Inv.made (C:=C) I;have r2:Vals (V.ref (s.heap.objs.size+1) :: (vs++dvs)) (Value.ref (s.heap.objs.size+1) :: (us++ds)):=.cons rfl (r.append hd);have hl:(Value.ref (s.heap.objs.size+1) :: us++ds).length=ps.length:=by
  have e:=r2.length;rw[F.len _ _ _ _ hq] at e;exact e.symm
 refine wpAny_call (Zjf (f:=f) I.kIn M.makes M.init (beq_iff_eq.mp M.fn) (codeAny_mono (F.run _ X.stack _ _ ⟨Value.ref (s.heap.objs.size+1) :: us,[]⟩ (Value.ref (s.heap.objs.size+1) :: (us++ds)) _ _ E (hr.make C us [])
  (I2.env0.make C us []) (hb _ (Value.ref (s.heap.objs.size+1) :: us) I2.kIn hl) r2 hq) fun r s' hq'=>?_))
 cases r with
 | error e=>exact hx pins σ _ _ e s' I2 hq'
 | ok fl=>
  cases fl with
  | ret u=>
   obtain⟨v,H',I3,rv,ev,q3⟩:=I2.after hq';subst ev;exact⟨rv,⟨V.ref (s.heap.objs.size+1),H',I3,rfl,q3⟩⟩
  | next=>exact False.elim hq'
  | brk=>exact False.elim hq'
  | cont=>exact False.elim hq'
theorem E9(M:Mk X.K C f)(F:FnOk X.prog X.w X.K X.mg X.base CX k f fd ps sp)(hr:Room (k+1) X.A)(hg:Gl X x)(hm:X.mg x=some (.ref C))(hb:Binds X.K fd ps ds)(hd:Vals dvs ds)(hx:Ee CX X E)
  (ha:PA X (e :: es) t) (hdb:(x == ("__debug__":Str))=false:=by decide) (he:starEach (e :: es) X.env=(false,eval e X.env) :: starEach es X.env:=by rfl) (hpl:(backTo pos (starEach es X.env)).any (·.1)=false:=by rfl) :
  PE X (.Call (.Name x p) (e :: es) [] pos) (Zpz C sp dvs E t):=by
 intro pins s σ H Q I h;refine wpAny_Call_Name_kw (Vp I hg hm ?_ hdb);refine W.callWith_K (h₀:=X.base) I.ok.mod.kin M.kp (Uc (ha pos pins s σ H _ I h) fun us s1 ⟨vs,H1,I1,r,q⟩=>⟨I1.kIn,?_⟩) he hpl;exact Zhd M F hr hb hd hx I1 r q
end
section
variable{X:Cx}{CX:S8}{k:Nat}{f C:Addr}{fd:FuncData}{ps ks:List Str}{sp:Sp}{E:XK}{x m:Str}{p pos apos kpos:Pos}{e o:Expr}{es:List Expr}{kws:List Keyword}{te ta:TE}{t tk:TA}{nm:Option Str}
variable{g:List Value→List Value→List Value}{gV:List V→List V→List V}
end
structure FnScope(N P:List Str)(sc:Scope):Prop where
 kind:sc.kind = .function
 co:sc.isCoroutine=false
 gen:sc.isGenerator=false
 nd:N.Nodup
 pre:N.take P.length=P
 par:∀ x∈P,sc.names.lookup x=some .local∨sc.names.lookup x=some .cell
 nofree:∀ y∈sc.names,y.2 ≠ .free
theorem Uy {N P:List Str}{sc:Scope}(h:N.Nodup ∧ (∀ x ∈ P,sc.names.lookup x=some .local ∨ sc.names.lookup x=some .cell) ∧ ∀ y ∈ sc.names,y.2≠.free)(k:sc.kind=.function:=by rfl)(co:sc.isCoroutine=false:=by rfl)(gen:sc.isGenerator=false:=by rfl)(pre:N.take P.length=P:=by rfl):FnScope N P sc:=⟨k,co,gen,h.1,pre,h.2.1,h.2.2⟩
theorem Do{kindOf:Str→Option NameKind}{x:Str}:∀{binds:List (Str×Value)} {m:Str→Option Value},(∀ v,(x,v)∉binds)→bindL kindOf binds m x=m x
 | [],_,_=>rfl
 | (n,v) :: r,m,h=>by
  unfold bindL;rw[Do fun w hw=>h w (Zz _ hw)];split
  ·have:x≠n:=by rintro rfl;exact h v Zy
   simp [this]
  ·rfl
theorem Dq{kindOf:Str→Option NameKind}{x:Str}:∀{binds:List (Str×Value)} {m:Str→Option Value},(∀ v,(x,v)∉binds)→bindC kindOf binds m x=m x
 | [],_,_=>rfl
 | (n,v) :: r,m,h=>by
  unfold bindC;rw[Dq fun w hw=>h w (Zz _ hw)];split
  ·rfl
  ·have:x≠n:=by rintro rfl;exact h v Zy
   simp [this]
theorem Dp{kindOf:Str→Option NameKind}{x:Str}{v:Value}:∀{P:List Str} {vs:List Value} {i:Nat} {m:Str→Option Value},P.Nodup→P[i]? = some x→vs[i]? = some v→kindOf x=some .local →
  bindL kindOf (P.zip vs) m x=some v
 | [],_,_,_,_,h,_,_=>by simp at h
 | _ :: _,[],_,_,_,_,h,_=>by simp at h
 | p :: P,w :: vs,0,m,nd,h1,h2,hk=>by
  simp at h1 h2;subst h1;subst h2;show bindL kindOf ((p,w) :: P.zip vs) m p=_;unfold bindL;rw[Do fun v hv=>(List.nodup_cons.mp nd).1 (List.of_mem_zip hv).1,Zu hk];simp
 | p :: P,w :: vs,i+1,m,nd,h1,h2,hk=>by
  show bindL kindOf ((p,w) :: P.zip vs) m x=_;unfold bindL;exact Dp (i:=i) (List.nodup_cons.mp nd).2 (by simpa using h1) (by simpa using h2) hk
theorem Dr{kindOf:Str→Option NameKind}{x:Str}{v:Value}:∀{P:List Str} {vs:List Value} {i:Nat} {m:Str→Option Value},P.Nodup→P[i]? = some x→vs[i]? = some v→kindOf x≠some .local →
  bindC kindOf (P.zip vs) m x=some v
 | [],_,_,_,_,h,_,_=>by simp at h
 | _ :: _,[],_,_,_,_,h,_=>by simp at h
 | p :: P,w :: vs,0,m,nd,h1,h2,hk=>by
  simp at h1 h2;subst h1;subst h2;show bindC kindOf ((p,w) :: P.zip vs) m p=_;unfold bindC;rw[Dq fun v hv=>(List.nodup_cons.mp nd).1 (List.of_mem_zip hv).1,Zk hk];simp
 | p :: P,w :: vs,i+1,m,nd,h1,h2,hk=>by
  show bindC kindOf ((p,w) :: P.zip vs) m x=_;unfold bindC;exact Dr (i:=i) (List.nodup_cons.mp nd).2 (by simpa using h1) (by simpa using h2) hk
def start(N:List Str)(vs:List V):St:=vs.map some++List.replicate (N.length - vs.length) none
def Vs(CX:S8)(P:Program)(w:World)(K:W.Frag)(mg:Str→Option Value)(base:Heap)(N:List Str)(qual:Str)(scope:Scope)(f:Addr)(cd:Value)(A:Around)(outer:List Env)(s:Shared)(H:Hp)(E:XK):Cx where
 prog:=P
 w:=w
 K:=K
 mg:=mg
 base:=base
 A:=A.deeper (envOfC qual scope s.heap.objs.size f cd)
 N:=N
 s₀:=s
 H₀:=H
 env:=envOfC qual scope s.heap.objs.size f cd
 outer:=outer
 stack:=envOfC qual scope s.heap.objs.size f cd :: outer
 ex:=[]
 calm:=true
 fn:=fun _=>true
 pn:=[]
 xe:=fun e s'=>wpAny (model P w) (A.deeper (envOfC qual scope s.heap.objs.size f cd)) (leaving (envOfC qual scope s.heap.objs.size f cd) e) (fun _ s''=>CX outer H s E e s'') (fun e' s''=>CX outer H s E e' s'') s'
theorem Sz{sc:Scope}{n:Nat}{x:Str}(h:sc.names.lookup x=some .cell):∃ c,(cellsFrom n sc.names []).lookup x=some c:=by
 have q:=W.cellsFrom_some sc.names n [] (.inl h);exact Option.isSome_iff_exists.mp q
theorem Zfi{CX:S8}{P:Program}{w:World}{K:W.Frag}{mg:Str→Option Value}{base:Heap}{N ps:List Str}{qual:Str}{scope:Scope}{f:Addr}{cd:Value}{A:Around}{outer:List Env}{s s1:Shared}{H:Hp}{E:XK}{us:List Value}{vs:List V}
  (S:FnScope N ps scope) (hd:A.handled=none) (e0:Env0 P w K mg base A outer s H) (hl:vs.length=ps.length) (r:Vals vs us)
  (x:InCallC s s.heap.objs.size (bindL (envOfC qual scope s.heap.objs.size f cd).kindOf (ps.zip us) fun _=>none) (cellsFrom (s.heap.objs.size+1) scope.names []) (bindC (envOfC qual scope s.heap.objs.size f cd).kindOf (ps.zip us) fun _=>none) s1) :
  Inv (Vs CX P w K mg base N qual scope f cd A outer s H E) [] (start N vs) H s1:=by
 have hpl:ps.length≤N.length:=by have:=congrArg List.length S.pre;rw[J0] at this;omega
 obtain⟨h1,tk,rfl,hk⟩:=x.done;have noA:∀ b:Addr,b∉(Vs CX P w K mg base N qual scope f cd A outer s H E).ex:=fun b z=>absurd (show b∈([]:List Addr) from z) (by simp);refine⟨⟨e0.mod,S.kind,rfl,rfl,Zs _,fun y z c h1 h2=>?_,fun y hy=>?_,fun y c _ h=>?_,fun _=>hd,Around.frames_deeper e0.frames,.inr ⟨rfl,rfl⟩,fun b z=>absurd z (noA b),e0.bs,e0.bsz,fun b _ _=>noA b,fun b z=>absurd z (noA b),e0.funs,e0.frf⟩,
  rfl,e0.bare,Un.kept hk,⟨_,x.toInCall.ns,fun i y v h1 h2 h3=>?_⟩,fun y c h=>⟨_,x.cell y c h⟩,e0.hok.fresh (Zs _),fun y c h=>?_,fun p hp=>absurd (show p∈([]:List (Addr×Obj)) from hp) (by simp),e0.hok.kept hk,?_⟩
 ·exact name_of_addr x.apart (PySem.mem_of_lookup h1) (PySem.mem_of_lookup h2)
 ·have hy:scope.names.lookup y=some .cell∨scope.names.lookup y=some .free:=hy
  rcases hy with hy | hy
  ·exact Sz hy
  ·exact absurd rfl (S.nofree _ (PySem.mem_of_lookup hy))
 ·exact Uf (x.above y c (PySem.mem_of_lookup h))
 ·have hi:i < vs.length:=by
   unfold start at h2;by_cases hi:i < vs.length
   ·exact hi
   ·rw[Xf (by simpa using hi)] at h2
    rw[List.getElem?_replicate] at h2;split at h2<;>cases h2
  have ha:vs[i]? = some v:=by
   unfold start at h2;rw[Xi (by simpa using hi),Z4] at h2;cases e:vs[i]? with
   | none=>rw[e] at h2;cases h2
   | some a=>rw[e] at h2;cases h2;rfl
  obtain⟨u,hu,rv⟩:=r.get ha;have hp:ps[i]? = some y:=by
   rw[← S.pre,List.getElem?_take_of_lt (by omega)];exact h1
  have ndP:ps.Nodup:=by rw[← S.pre];exact S.nd.sublist (List.take_sublist _ _)
  refine⟨u,rv,?_⟩;rcases S.par y (Zl hp) with k | k
  ·exact .inl ⟨k,Dp ndP hp hu k⟩
  ·obtain⟨c,e⟩:=Sz (n:=s.heap.objs.size+1) k
   refine .inr ⟨.inl k,c,e,?_⟩;have q:=x.cell y c e;rw[Dr ndP hp hu (by show scope.names.lookup y≠_;rw[k];decide)] at q;exact q
 ·exact e0.hok.fresh (Uf (x.above y c (PySem.mem_of_lookup h)))
 ·unfold start
  show _=N.length;rw[Z3,Zj,List.length_replicate];omega
theorem Zjq{CX:S8}{P:Program}{w:World}{K:W.Frag}{mg:Str→Option Value}{base:Heap}{k:Nat}{f:Addr}{name qual:Str}{params:Arguments}{body:List Stmt}{scope:Scope}{dV kV doc pm cdv ct oc:Value}{an od:Option Addr}
  {osl:Array (Option Value)} {N ps:List Str} {sp:Sp} (lk:K.lookup f=some ⟨oc,od,.func (W.fnOf name qual params body scope dV kV doc pm an cdv ct),osl⟩) (hcd:W.codeIn K cdv qual=true) (S:FnScope N ps scope)
  (len:∀ vs H Q E,sp vs H Q E→vs.length=ps.length)
  (hbody:∀(A:Around) (outer:List Env) (s:Shared) (H:Hp) (vs:List V) (Q:VK) (E:XK),Room k (A.deeper (envOfC qual scope s.heap.objs.size f cdv))→sp vs H Q E →
   ∃ t,PSs (Vs CX P w K mg base N qual scope f cdv A outer s H E) body t∧t { nx:=fun _ H'=>Q .non H',rt:=Q } (start N vs) H) :
  FnOk P w K mg base CX (k+1) f (W.fnOf name qual params body scope dV kV doc pm an cdv ct) ps sp:=by
 refine⟨len,fun A outer s H args us vs Q E hr e0 hb r hsp=>?_⟩;have hl:=len _ _ _ _ hsp;have KX:K.In s.heap:=e0.mod.kin.keeps fun b o e=>(e0.bs b o e).1;have lim:s.heap.NoLimit:=e0.mod.nolimit.keeps fun b o e=>(e0.bs b o e).1;have hkind:∀ y∈ps.zip us,scope.names.lookup y.1=some .local∨(scope.names.lookup y.1=some .cell∧((cellsFrom (s.heap.objs.size+1) scope.names []).lookup y.1).isSome=true):=fun⟨n,v⟩ hy=>by
  rcases S.par n (List.of_mem_zip hy).1 with q | q
  ·exact .inl q
  ·exact .inr ⟨q,W.cellsFrom_some _ _ _ (.inl q)⟩
 refine codeAny_call_function hr.depth (KX _ _ lk) rfl S.co S.gen rfl (W.codeRec_of KX hcd) (hb _ _ _ _ ?_);refine wpAny_newFunctionEnv_cells S.kind hkind fun env he s1 x=>?_;subst he;refine⟨lim.keeps x.toInCall.keep,codeAny_func ?_⟩;obtain⟨t,ht,hq⟩:=hbody A outer s H vs Q E (hr.deeper _) hsp;have I:Inv (Vs CX P w K mg base N qual scope f cdv A outer s H E) [] (start N vs) H s1:=Zfi S hr.hd e0 hl r x;refine wpAny_mono (ht [] s1 (start N vs) H _ I hq) (fun fl s' hs=>?_) fun e s' hs=>hs;have fin:∀{σ':St} {H':Hp} {v:V} {u:Value},Inv (Vs CX P w K mg base N qual scope f cdv A outer s H E) [] σ' H' s'→RelV v u→Q v H'→CE outer P w H s Q u s':=
  fun {σ' H' v u} J rv q=>⟨v,H',J.os,J.bare,J.base,J.hok,rv,q⟩
 cases fl with
 | ret u=>
  obtain⟨v,σ',H',J,rv,q⟩:=hs;exact fin J rv q
 | next=>
  obtain⟨σ',H',J,q⟩:=hs;exact fin (v:=V.non) (u:=Value.none) J rfl q
 | brk=>
  obtain⟨_,_,_,q⟩:=hs;exact False.elim q
 | cont=>
  obtain⟨_,_,_,q⟩:=hs;exact False.elim q
section
variable{X:Cx}{x:Str}{p pos:Pos}{e:Expr}{es:List Expr}{t:TA}{id T:String}{r:List V→Hp→VK→Prop}
def tCB(r:List V→Hp→VK→Prop)(t:TA):TE:=fun σ H Q=>t σ H fun vs H1=>r vs H1 Q
theorem Jr(hc:X3 X (.builtin id) r)(hg:Gl X x)(hm:X.mg x=none)(hv:bootBuiltins x=some (.builtin id))(ha:PA X (e :: es) t)(hn:x≠"__name__":=by decide)(hdb:(x == ("__debug__":Str))=false:=by decide)
  (he:starEach (e :: es) X.env=(false,eval e X.env) :: starEach es X.env:=by rfl) (hpl:(backTo pos (starEach es X.env)).any (·.1)=false:=by rfl):PE X (.Call (.Name x p) (e :: es) [] pos) (tCB r t):=by
 intro pins s σ H Q I h;refine wpAny_Call_Name_kw (T4 I hg hm hv ?_ hn hdb);exact PyProof.Rows.callWith_builtin1 (Uc (ha pos pins s σ H _ I h) fun us s1 ⟨vs,H1,I1,r1,q1⟩=>hc pins s1 σ H1 vs us Q I1 r1 q1) he hpl
theorem Yy(hc:X3 X (.type T) r)(hg:Gl X x)(hm:X.mg x=none)(hv:bootBuiltins x=some (.type T))(ha:PA X (e :: es) t)(hn:x≠"__name__":=by decide)(hdb:(x == ("__debug__":Str))=false:=by decide)
  (he:starEach (e :: es) X.env=(false,eval e X.env) :: starEach es X.env:=by rfl) (hpl:(backTo pos (starEach es X.env)).any (·.1)=false:=by rfl):PE X (.Call (.Name x p) (e :: es) [] pos) (tCB r t):=by
 intro pins s σ H Q I h;refine wpAny_Call_Name_kw (T4 I hg hm hv ?_ hn hdb);exact PyProof.Rows.callWith_type1 (Uc (ha pos pins s σ H _ I h) fun us s1 ⟨vs,H1,I1,r1,q1⟩=>hc pins s1 σ H1 vs us Q I1 r1 q1) he hpl
end
end L2
namespace HT
open PySem PyProof.Rows
section
open PySem.SeqAt
open PySem.AutoSeq1 (wpAny_loadPart')
open PySem.MeetsSeq PySem.MeetsSeq2 PySem.MeetsSeq3
end
section
variable{prog:Program}{w:World}{A:Around}{E:Value→Shared→Prop}{s:Shared}
theorem cat_tup{t b:Addr}{vs ws:List Value}{Q:Value→Shared→Prop}(ht:IsTup s.heap t vs.toArray)(hb:IsTup s.heap b ws.toArray)(hv:vs≠[])
  (h1:ws=[]→Q (.ref t) s) (h2:ws≠[]→Q (.ref s.heap.objs.size) { s with heap:=s.heap.push { cls:=.type "tuple",data:=.seq (vs++ws).toArray } })
  (hsz:vs.length+ws.length≤sizeLine):wpAny (model prog w) A (binaryOp .Add (.ref t) (.ref b)) Q E s:=by
 obtain⟨⟨cls,dd,data,sl⟩,ho,hc,n,hd⟩:=id ht;obtain⟨⟨cls2,dd2,data2,sl2⟩,ho2,hc2,n2,hd2⟩:=id hb;simp only at hc hd hc2 hd2;subst hc hd hc2 hd2;have e:vs.toArray++ws.toArray=(vs++ws).toArray:=by simp
 by_cases hw:ws=[]
 ·exact concat_meets ⟨_,ho,rfl⟩ ⟨_,ho2,rfl⟩ noFill_tuple_add seq_tuple_add PySem.F.slot_tuple_add PySem.F.entry_tuple_add (PySem.F.args_tuple_add_2 _ _)
   (tuple_addW1 t b vs.toArray ws.toArray n n2 dd dd2 sl sl2 (by simpa using hv) (by simp [hw])) ⟨ho,ho2,h1 hw⟩
 ·refine concat_meets ⟨_,ho,rfl⟩ ⟨_,ho2,rfl⟩ noFill_tuple_add seq_tuple_add PySem.F.slot_tuple_add PySem.F.entry_tuple_add (PySem.F.args_tuple_add_2 _ _)
   (tuple_addW2 t b vs.toArray ws.toArray n n2 dd dd2 sl sl2 (by simpa using hv) (by simpa using hw) (by rw[Zw,Zw];exact hsz)) ⟨ho,ho2,?_⟩
  rw[e];exact h2 hw
def sIx(n d:Nat):Option Int→Nat
 | none=>d
 | some v=>if v < 0 then(v+(n:Int)).toNat else min v.toNat n
theorem sIx_none(n d:Nat):sIx n d none=d:=rfl
theorem sIx_nat(n d k:Nat):sIx n d (some (k:Int))=min k n:=by
 show(if(k:Int) < 0 then((k:Int)+(n:Int)).toNat else min (k:Int).toNat n)=min k n;rw[Zk (by omega),Z2]
theorem Zns(n d:Nat)(hd:d≤n)(o:Option Int):sIx n d o≤n:=by
 cases o with
 | none=>exact hd
 | some v=>
  show(if v < 0 then(v+(n:Int)).toNat else min v.toNat n)≤n;by_cases hv:v < 0
  ·rw[Zu hv];omega
  ·rw[Zk hv];exact Nat.min_le_right _ _
theorem Zdu(v:Int)(n d:Nat):(if v < 0 then max (v+(n:Int)) 0 else min v (n:Int))=((sIx n d (some v):Nat):Int):=by
 show(if v < 0 then max (v+(n:Int)) 0 else min v (n:Int))=(((if v < 0 then(v+(n:Int)).toNat else min v.toNat n):Nat):Int);by_cases hv:v < 0
 ·simp only[Zu hv];omega
 ·simp only[Zk hv];omega
theorem Zb9(lo hi:Option Int)(n:Nat):Builtin.Slice.sliceAdjust lo hi 1 (n:Int)=(((sIx n 0 lo:Nat):Int),((sIx n n hi:Nat):Int)):=by
 have h1:¬ ((1:Int) < 0):=by omega
 unfold Builtin.Slice.sliceAdjust;simp only[h1,if_false];refine Prod.ext ?_ ?_
 ·cases lo with
  | none=>rfl
  | some v=>exact Zdu v n 0
 ·cases hi with
  | none=>rfl
  | some v=>exact Zdu v n n
theorem Zbd(i j:Nat):Builtin.Slice.slicePlaces (i:Int) (j:Int) 1=j - i:=by
 unfold Builtin.Slice.slicePlaces;have h1:(1:Int) > 0:=by omega
 simp only[h1,if_true,Int.ediv_one];split<;>omega
theorem Gx{v:Value}{o:Option Int}{Q:Option Int→Shared→Prop}(p:IsPart v o)(h:Q o s):wpAny (model prog w) A (Builtin.Slice.slicePartIndex v) Q E s:=by
 cases p with
 | none=>exact slicePart_none h
 | int i t=>exact slicePart_int h
theorem Eo{sl:Addr}{vl vu:Value}{lo hi:Option Int}{n:Nat}{Q:Int×Int×Nat→Shared→Prop}(hs:s.heap.IsSliceOf sl vl vu .none)(pl:IsPart vl lo)(pu:IsPart vu hi)
  (h:Q (((sIx n 0 lo:Nat):Int),1,sIx n n hi - sIx n 0 lo) s):wpAny (model prog w) A (Builtin.Slice.sliceApplied (.ref sl) (pure (n:Int))) Q E s:=by
 obtain⟨os,hos,hcs,hds⟩:=id hs;unfold Builtin.Slice.sliceApplied Builtin.Slice.sliceFields;refine Zb (Zb (wpAny_field hos hds (x:=vl) rfl (Zb (wpAny_field hos hds (x:=vu) rfl (Zb (wpAny_field hos hds (x:=.none) rfl (Ze ?_)))))));refine Zb (slicePart_none ?_);show wpAny _ _ (if((1:Int) == 0)=true then _ else _) _ _ s;rw[Zk (by decide)];refine Zb (Gx pl (Zb (Gx pu (Zb (Ze ?_)))));show wpAny _ _ (match Builtin.Slice.sliceAdjust lo hi 1 (n:Int) with | (lo,hi)=>pure (lo,(1:Int),Builtin.Slice.slicePlaces lo hi 1)) _ _ s;rw[Zb9 lo hi n];show wpAny _ _ (pure (((sIx n 0 lo:Nat):Int),(1:Int),Builtin.Slice.slicePlaces ((sIx n 0 lo:Nat):Int) ((sIx n n hi:Nat):Int) 1)) _ _ s;rw[Zbd];exact Ze h
theorem Zhp(xs:Array Value)(i k:Nat):((List.range k).filterMap fun(m:Nat)=>xs[((i:Int)+(m:Int) * 1).toNat]?).toArray=((xs.toList.drop i).take k).toArray:=by
 have e:(fun(m:Nat)=>xs[((i:Int)+(m:Int) * 1).toNat]?)=fun m=>xs[i+m]?:=by
  funext m
  have:((i:Int)+(m:Int) * 1).toNat=i+m:=by omega
  rw[this]
 rw[e];have:=pick_run xs i k;rw[List.filterMap_map] at this;have e2:((fun x=>xs[x]?) ∘ fun x=>i+x)=fun m=>xs[i+m]?:=rfl;rw[e2] at this;rw[this]
theorem getItem_tuple_cut{t sl:Addr}{items:Array Value}{vl vu:Value}{lo hi:Option Int}{Q:Value→Shared→Prop}(ht:IsTup s.heap t items)(hs:s.heap.IsSliceOf sl vl vu .none)(pl:IsPart vl lo)(pu:IsPart vu hi)
  (hw:¬ (sIx items.size 0 lo=0∧sIx items.size items.size hi=items.size))
  (h:Q (.ref s.heap.objs.size) { s with heap:=s.heap.push { cls:=.type "tuple",data:=.seq ((items.toList.drop (sIx items.size 0 lo)).take (sIx items.size items.size hi - sIx items.size 0 lo)).toArray } })
  (hsz:items.size≤sizeLine):wpAny (model prog w) A (getItem (.ref t) (.ref sl)) Q E s:=by
 have htake:sizeOk (.seq ((items.toList.drop (sIx items.size 0 lo)).take (sIx items.size items.size hi - sIx items.size 0 lo)).toArray):=by
  show((items.toList.drop (sIx items.size 0 lo)).take (sIx items.size items.size hi - sIx items.size 0 lo)).toArray.size≤sizeLine;rw[Zw,J0,Yk,Array.length_toList];omega
 have hj:sIx items.size items.size hi≤items.size:=Zns _ _ (Zs _) hi;obtain⟨os,hos,hcs,hds⟩:=id hs;have hTs:s.TypeIs (.ref sl) "slice":=⟨os,hos,hcs⟩;unfold getItem
 try with_reducible refine wpAny_holding ?_
 first | refine Zb (Ze ?_) | skip
 refine Zb (wpAny_sequenceKey ht.typeIs (by decide) ?_);refine Zb (wpAny_callSpecial?_slot (name:=Str.ofString "__getitem__") ht.typeIs PyProof.Rows.slot_tuple_getitem
  (wpAny_call_entry PyProof.Rows.slot_tuple_getitem ht.typeIs entry_tuple_getitem ?_ (args_tuple_getitem _ _)))
 show wpAny _ _ (Builtin.Tuple.tupleItemsOf (.ref t) >>= _) _ _ s;refine Zb (tupleItemsOf_ ht ?_);refine Zb (wpAny_typeOf hTs ?_);rw[Zu (by decide)];refine Zb (Eo hs pl pu ?_);have hno:¬ ((((sIx items.size 0 lo:Nat):Int) == 0 && (1:Int) == 1 && (sIx items.size items.size hi - sIx items.size 0 lo) == items.size)=true):=by
  intro q;rw[Bool.and_eq_true,Bool.and_eq_true] at q;have q1:((sIx items.size 0 lo:Nat):Int)=0:=eq_of_beq q.1.1;have q2:sIx items.size items.size hi - sIx items.size 0 lo=items.size:=eq_of_beq q.2;exact hw ⟨by omega,by omega⟩
 show wpAny _ _ (if(((sIx items.size 0 lo:Nat):Int) == 0 && (1:Int) == 1 && (sIx items.size items.size hi - sIx items.size 0 lo) == items.size)=true then _ else _) _ _ s;rw[Zk hno,Zhp]
 first
  | exact Zb (m:=Builtin.Tuple.tupleExact _) (wpAny_newObj_type (Ze ⟨_,rfl,Ze h⟩) htake)
  | exact Zb (m:=Builtin.Tuple.tupleExact _) (wpAny_newObj_type (Zb (Ze (Ze ⟨_,rfl,Ze h⟩))) htake)
  | exact Zb (Zb (m:=Builtin.Tuple.tupleExact _) (wpAny_newObj_type (Ze (Ze ⟨_,rfl,Ze h⟩)) htake))
  | exact Zb (Zb (m:=Builtin.Tuple.tupleExact _) (wpAny_newObj_type (Ze ⟨_,rfl,Ze h⟩) htake))
end
end HT
namespace L2
open PySem PySem.Spec PyProof.Rows
abbrev TO:=St→Hp→(Option Int→Hp→Prop)→Prop
def PO(X:Cx)(e:Option Expr)(t:TO):Prop:=
 ∀(pins:List (Addr×Obj)) (s:Shared) (σ:St) (H:Hp) (Q:Option Int→Hp→Prop),Inv X pins σ H s→t σ H Q →
  wpAny (model X.prog X.w) X.A (evalPart e X.env) (fun u s'=>∃ o H',Inv X pins σ H' s'∧IsPart u o∧Q o H') X.xe s
def Zki:TO:=fun _ H Q=>Q none H
def Zpx(t:TE):TO:=fun σ H Q=>t σ H fun x H1=>∃ i,x = .int i∧Q (some i) H1
theorem Qg{ns:List Int}:∀{us:List Value},Vals (ns.map V.int) us→IntsAre us ns:=by
 induction ns with
 | nil=>intro us r;rw[List.map_nil] at r;cases r;exact .nil
 | cons n ns ih=>
  intro us r;rw[List.map_cons] at r;cases r with
  | cons r1 r2=>
   obtain⟨t,e⟩:=r1;subst e;exact .cons n t (ih r2)
section
variable{X:Cx}{e:Expr}{te:TE}{lo hi:Option Expr}{tl th:TO}{pos p2:Pos}
theorem Ei:PO X none Zki:=by
 intro pins s σ H Q I h;rw[evalPart_none];exact Ze ⟨none,H,I,.none,h⟩
theorem U4(h:PE X e te):PO X (some e) (Zpx te):=by
 intro pins s σ H Q I hw;rw[evalPart_some];refine Uc (h pins s σ H _ I hw) fun u s1 ⟨x,H1,I1,r1,q1⟩=>?_;obtain⟨i,rfl,q⟩:=q1;obtain⟨t,rfl⟩:=r1;exact⟨some i,H1,I1,.int i t,q⟩
def SlR(X:Cx)(r:V→Option Int→Option Int→Hp→VK→Prop):Prop:=
 ∀(pins:List (Addr×Obj)) (s:Shared) (σ:St) (H:Hp) (x:V) (v vl vu:Value) (lo hi:Option Int) (sl:Addr) (Q:VK),Inv X pins σ H s→RelV x v→s.heap.IsSliceOf sl vl vu .none→IsPart vl lo→IsPart vu hi→r x lo hi H Q →
  ∃ T id,typeLookup (.type T) "__getitem__" = pure (some (.builtin id))∧s.TypeIs v T∧wpAny (model X.prog X.w) X.A (getItem v (.ref sl)) (EP X pins σ Q) X.xe s
def tSl(r:V→Option Int→Option Int→Hp→VK→Prop)(te:TE)(tl th:TO):TE:=fun σ H Q=>te σ H fun x H1=>tl σ H1 fun l H2=>th σ H2 fun u H3=>r x l u H3 Q
theorem X9{r:V→Option Int→Option Int→Hp→VK→Prop}(hr:SlR X r)(he:PE X e te)(hl:PO X lo tl)(hu:PO X hi th):PE X (.Subscript e (.Slice lo hi none p2) pos) (tSl r te tl th):=by
 intro pins s σ H Q I h;refine Subscript_ (Uc (he pins s σ H _ I h) fun v s1 ⟨x,H1,I1,r1,q1⟩=>?_);refine wpAny_Slice (Uc (hl pins s1 σ H1 _ I1 q1) fun vl s2 ⟨l,H2,I2,pl,q2⟩=>Uc (hu pins s2 σ H2 _ I2 q2) fun vu s3 ⟨u,H3,I3,pu,q3⟩=>?_);rw[evalPart_none];refine Ze ?_;have I4:Inv X pins σ H3 { s3 with heap:=s3.heap.push { cls:=.type "slice",data:=.fields #[vl,vu,.none] } }:=I3.kept (t':=s3.toks) fun b ob q=>Zi _ q;obtain⟨T,id,hT,ht,hg⟩:=hr pins { s3 with heap:=s3.heap.push { cls:=.type "slice",data:=.fields #[vl,vu,.none] } } σ H3 x v vl vu l u s3.heap.objs.size Q I4 r1 (Heap.IsSliceOf.new ..) pl pu q3;show wpAny (model X.prog X.w) X.A (subscriptTail e (.Slice lo hi none p2) v (.ref s3.heap.objs.size)) (EP X pins σ Q) X.xe { s3 with heap:=s3.heap.push { cls:=.type "slice",data:=.fields #[vl,vu,.none] } };exact tail_any (ops:=[.ref s3.heap.objs.size,v]) ht hT hg (by with_unfolding_all rfl)
def Ed(xs:List V)(lo hi:Option Int):List V:=(xs.drop (HT.sIx xs.length 0 lo)).take (HT.sIx xs.length xs.length hi - HT.sIx xs.length 0 lo)
theorem Rr(xs:List V)(lo hi:Option Int):(Ed xs lo hi).length≤xs.length:=by
 unfold Ed;rw[J0,Yk];omega
def Zrt(K:W.Frag):V→Option Int→Option Int→Hp→VK→Prop:=fun x lo hi H Q=>∃ a xs,x = .ref a∧SqT K H a xs ∧
 ¬ (HT.sIx xs.length 0 lo=0∧HT.sIx xs.length xs.length hi=xs.length)∧∀ p,H p=none→Q (.ref p) (upd H p (.tup (Ed xs lo hi)))
theorem Znf:SlR X (Zrt X.K):=by
 intro pins s σ H x v vl vu lo hi sl Q I rx hs pl pu h;obtain⟨a,xs,rfl,hx,hw,q⟩:=h;cases rx;obtain⟨its,r,ht,hz⟩:=I.tuple hx;have hlen:its.toArray.size=xs.length:=by rw[Zw];exact r.length.symm
 refine⟨"tuple",_,PyProof.Rows.slot_tuple_getitem.lookup,ht.typeIs,?_⟩;refine HT.getItem_tuple_cut ht hs pl pu (by rw[hlen];exact hw) ?_ (by rw[hlen];exact hz);rw[hlen];refine⟨.ref s.heap.objs.size,_,I.laid (t':=s.toks) (o:=.tup (Ed xs lo hi)) (fun b ob q=>Zi _ q) (Zs _) ?_,rfl,q _ (I.hok.fresh (Zs _))⟩;exact⟨Jc (Rr xs lo hi) hz,_,(r.drop (HT.sIx xs.length 0 lo)).take (HT.sIx xs.length xs.length hi - HT.sIx xs.length 0 lo),IsTup.new _ _⟩
def Zqk(K:W.Frag):R2:=fun x y H Q=>∃ a b xs ys,x = .ref a∧y = .ref b∧SqT K H a xs∧SqT K H b ys∧xs≠[]∧xs.length+ys.length≤sizeLine ∧
 (ys=[]→Q (.ref a) H)∧(ys≠[]→∀ p,H p=none→Q (.ref p) (upd H p (.tup (xs++ys))))
theorem Vals.nil_iff{xs:List V}{us:List Value}(r:Vals xs us):us=[]↔xs=[]:=by
 cases r with
 | nil=>simp
 | cons _ _=>simp
theorem Zk8:Ng X (binaryOp .Add) (Zqk X.K):=by
 intro pins s σ H x y v u Q I rx ry h;obtain⟨a,b,xs,ys,rfl,rfl,ha,hb,hx,hz,q1,q2⟩:=h;cases rx;cases ry;obtain⟨its,r1,p1,_⟩:=I.tuple ha;obtain⟨its2,r2,p2,_⟩:=I.tuple hb;refine HT.cat_tup p1 p2 (fun z=>hx (r1.nil_iff.mp z)) (fun z=>⟨.ref a,H,I,rfl,q1 (r2.nil_iff.mp z)⟩) (fun z=>?_) (by rw[← r1.length,← r2.length];exact hz);refine⟨.ref s.heap.objs.size,_,I.laid (t':=s.toks) (o:=.tup (xs++ys)) (fun b ob q=>Zi _ q) (Zs _) ?_,rfl,q2 (fun w=>z (r2.nil_iff.mpr w)) _ (I.hok.fresh (Zs _))⟩;exact⟨by rw[Z3];exact hz,_,r1.append r2,IsTup.new _ _⟩
end
def ixN(n:Nat)(i:Int):Option Nat:=if 0≤i then(if i < n then some i.toNat else none) else if -(n:Int)≤i then some (i+n).toNat else none
def X6{α:Type}(xs:List α)(i:Int):Option α:=(ixN xs.length i).bind fun j=>xs[j]?
theorem Zdh{n:Nat}{i:Int}{j:Nat}(h:ixN n i=some j):seqIndex? i n=some j∧j < n∧-(n:Int)≤i∧i < n:=by
 unfold ixN at h;by_cases h0:0≤i
 ·rw[Zu h0] at h
  by_cases h1:i < n
  ·rw[Zu h1] at h
   have e:i.toNat=j:=Z0 h;exact⟨by rw[seqIndex_of h0 h1,e],by omega,by omega,h1⟩
  ·rw[Zk h1] at h;cases h
 ·rw[Zk h0] at h
  by_cases h1:-(n:Int)≤i
  ·rw[Zu h1] at h
   have e:(i+n).toNat=j:=Z0 h;exact⟨by rw[seqIndex_neg (by omega) h1,e],by omega,h1,by omega⟩
  ·rw[Zk h1] at h;cases h
theorem Ar{α:Type}{xs:List α}{i:Int}{v:α}(h:X6 xs i=some v):∃ j,seqIndex? i xs.length=some j∧xs[j]? = some v∧j < xs.length∧-(xs.length:Int)≤i∧i < xs.length:=by
 unfold X6 at h;cases e:ixN xs.length i with
 | none=>rw[e] at h;cases h
 | some j=>
  rw[e] at h;obtain⟨h1,h2,h3,h4⟩:=Zdh e;exact⟨j,h1,h,h2,h3,h4⟩
theorem Xv{α:Type}{xs:List α}{j:Nat}{v:α}(h:xs[j]? = some v):X6 xs (j:Int)=some v:=by
 have hj:j < xs.length:=(Zx.mp h).1;have e:ixN xs.length (j:Int)=some j:=by
  unfold ixN;rw[Zu (by omega),Zu (by omega)];simp
 unfold X6;rw[e];exact h
def Zmk(b:Expr):Prop:=∀ o i,subscripted b false o i=operate [o,i] (getItem o i)
def IxR(X:Cx)(r:R2):Prop:=
 ∀(value slice:Expr) (pins:List (Addr×Obj)) (s:Shared) (σ:St) (H:Hp) (x y:V) (v u:Value) (Q:VK),Inv X pins σ H s→RelV x v→RelV y u→r x y H Q →
  subscripted slice false v u=operate [v,u] (getItem v u)→wpAny (model X.prog X.w) X.A (subscriptTail value slice v u) (EP X pins σ Q) X.xe s
def MtR(X:Cx)(id:String)(r:V→List V→Hp→VK→Prop):Prop:=
 ∀(pins:List (Addr×Obj)) (s:Shared) (σ:St) (H:Hp) (x:V) (xs:List V) (v:Value) (us:List Value) (Q:VK),Inv X pins σ H s→RelV x v→Vals xs us→r x xs H Q →
  wpAny (model X.prog X.w) X.A (call (.builtin id) (v :: us)) (EP X pins σ Q) X.xe s
section
variable{X:Cx}{a b:Expr}{ta tb:TE}{pos:Pos}
theorem Jw{r:R2}(hr:IxR X r)(ha:PE X a ta)(hb:PE X b tb)(hs:Zmk b):PE X (.Subscript a b pos) (tOp r ta tb):=by
 intro pins s σ H Q I h;exact Subscript_ (Zpg ha hb I h fun v u s2 x y H2 I2 rx ry q=>hr a b pins s2 σ H2 x y v u Q I2 rx ry q (hs _ _))
def Zqg(K:W.Frag):R2:=fun x y H Q=>∃ p xs i v,x = .ref p∧y = .int i∧SqL K H p xs∧X6 xs i=some v∧Q v H
def Zny(K:W.Frag):R2:=fun x y H Q=>∃ p xs i v,x = .ref p∧y = .int i∧SqT K H p xs∧X6 xs i=some v∧Q v H
def Zrw:R2:=fun x y H Q=>∃ z i c,x = .str z∧y = .int i∧z.length≤sizeLine∧X6 z.cps.toList i=some c∧Q (.str ⟨#[c]⟩) H
theorem Uk:IxR X (Zqg X.K):=by
 intro value slice pins s σ H x y v u Q I rx ry h hs;obtain⟨p,xs,i,z,rfl,rfl,hq,he,q⟩:=h;cases rx;obtain⟨t,rfl⟩:=ry;obtain⟨its,r,pl,hz⟩:=I.list hq;obtain⟨j,h1,h2,h3,h4,h5⟩:=Ar he;obtain⟨w,ew,rw'⟩:=r.get h2;have hl:=r.length;have hn:=Bs;have fin:EP X pins σ Q w s:=⟨z,H,I,rw',q⟩;by_cases h0:0≤i
 ·have hj:i.toNat=j:=by
   rw[seqIndex_of h0 h5] at h1;exact Z0 h1
  exact item_listR pl.isList h0 (by omega) (by rw[hj];simpa using ew) fin hs
 ·have hj:(i+(its.toArray.size:Int)).toNat=j:=by
   rw[seqIndex_neg (by omega) h4] at h1;rw[Zw,← hl];exact Z0 h1
  exact subscriptTail_builtinR (x:=w) pl.isList.typeIs slot_list_getitem.lookup
   (wpAny_getItem_list_neg (Q:=fun r s'=>r=w∧EP X pins σ Q r s') pl.isList (by omega) (by rw[Zw]<;>omega) (by omega) (by rw[hj];simpa using ew) ⟨rfl,fin⟩) hs
theorem Jz:IxR X (Zny X.K):=by
 intro value slice pins s σ H x y v u Q I rx ry h hs;obtain⟨p,xs,i,z,rfl,rfl,hq,he,q⟩:=h;cases rx;obtain⟨t,rfl⟩:=ry;obtain⟨its,r,pl,hz⟩:=I.tuple hq;obtain⟨j,h1,h2,h3,h4,h5⟩:=Ar he;obtain⟨w,ew,rw'⟩:=r.get h2;have hl:=r.length;have hn:=Bs;have fin:EP X pins σ Q w s:=⟨z,H,I,rw',q⟩;exact subscriptTail_builtinR (x:=w) pl.typeIs slot_tuple_getitem.lookup
  (getItem_tuple (j:=j) (Q:=fun r s'=>r=w∧EP X pins σ Q r s') pl (by omega) (by omega) (by rw[Zw,← hl];exact h1) (by simpa using ew) ⟨rfl,fin⟩) hs
theorem Zbz:IxR X Zrw:=by
  intro value slice pins s σ H x y v u Q I rx ry h hs;obtain⟨z,i,c,rfl,rfl,hz,he,q⟩:=h;obtain⟨t,rfl⟩:=rx;obtain⟨t',rfl⟩:=ry;obtain⟨j,h1,h2,h3,h4,h5⟩:=Ar he;have hl:z.cps.toList.length=z.length:=by simp [Str.length]
  rw[hl] at h1 h4 h5;have hn:=Bs;exact tail_any (typeIs_str s z t) slot_str_getitem.lookup (getItem_str (c:=c) (by
    have e1:decide (i < -(2 ^ 63:Int))=false:=Zc (by omega);have e2:decide (i ≥ 2 ^ 63)=false:=Zc (by omega);rw[e1,e2,Bool.or_false]) (by rw[h1];simpa using h2) ⟨.str ⟨#[c]⟩,H,I.tok _,⟨_,rfl⟩,q⟩) hs
theorem Zbs(its:List Value)(n j:Nat)(u:Value):Obj.mapSeq (·.setIfInBounds j u) { cls:=.type "list",data:=.seq its.toArray n } = { cls:=.type "list",data:=.seq (its.set j u).toArray n }:=by
 simp [Obj.mapSeq]
theorem Inv.lst{pins:List (Addr×Obj)}{σ:St}{H:Hp}{s:Shared}{p:Addr}{xs:List V}(I:Inv X pins σ H s)(h:H p=some (.lst xs)) :
  ∃(its:List Value) (n:Nat),Vals xs its∧s.heap.get? p=some { cls:=.type "list",data:=.seq its.toArray n }∧xs.length≤sizeLine:=by
 obtain⟨z,its,n,r,e⟩:=I.hok p _ h;exact⟨its,n,r,e,z⟩
theorem Inv.lstUpd{pins:List (Addr×Obj)}{σ:St}{H:Hp}{s:Shared}{p:Addr}{xs ys:List V}{its its':List Value}{n n':Nat}{f:Obj→Obj}(I:Inv X pins σ H s)(h:H p=some (.lst xs))
  (ho:s.heap.get? p=some { cls:=.type "list",data:=.seq its.toArray n }) (hf:f { cls:=.type "list",data:=.seq its.toArray n } = { cls:=.type "list",data:=.seq its'.toArray n' }) (r:Vals ys its') (hz:ys.length≤sizeLine) (t:Nat) :
  Inv X pins σ (upd H p (.lst ys)) { s with heap:=s.heap.update p f,toks:=t }:=by
 have e:(s.heap.update p f).get? p=some { cls:=.type "list",data:=.seq its'.toArray n' }:=by
  rw[Heap.get?_update_self f ho (by rw[hf]<;>rfl),hf]
 refine I.write (x:=p) (e:=p) (by rw[h];trivial) (.inl rfl) (fun b u hb q=>(Heap.get?_update_other _ _ (Ne.symm hb)).trans q) ⟨_,e⟩ ?_;exact⟨hz,its',n',r,e⟩
def Zqf:V→V→V→Hp→(Hp→Prop)→Prop:=fun o i v H Q=>∃ p xs k j,o = .ref p∧i = .int k∧H p=some (.lst xs)∧ixN xs.length k=some j∧Q (upd H p (.lst (xs.set j v)))
theorem Kg:Zq3 X Zqf:=by
 intro pins s σ H o i v ov iv u Q I ro ri rv h;obtain⟨p,xs,k,j,rfl,rfl,hp,hj,q⟩:=h;cases ro;obtain⟨t,rfl⟩:=ri;obtain⟨its,n,r,ho,hz⟩:=I.lst hp;obtain⟨h1,h2,h3,h4⟩:=Zdh hj;have hl:=r.length;have hn:=Bs;have I':Inv X pins σ (upd H p (.lst (xs.set j v))) { s with heap:=s.heap.update p (Obj.mapSeq (·.setIfInBounds j u)) }:=
  I.lstUpd hp ho (Zbs its n j u) (r.set rv j) (by rw[Xx];exact hz) s.toks
 by_cases h0:0≤k
 ·have hk:k.toNat=j:=by
   rw[seqIndex_of h0 h4] at h1;exact Z0 h1
  exact W.ki_setAt ho h0 (by omega) (by rw[Zw,← hl];exact h4) (by rw[hk];exact⟨_,I',q⟩)
 ·have hk:(k+(its.toArray.size:Int)).toNat=j:=by
   rw[seqIndex_neg (by omega) h3] at h1;rw[Zw,← hl];exact Z0 h1
  exact W.ki_setBack ho (by omega) (by rw[Zw,← hl];exact h3) (by omega) (by rw[hk];exact⟨_,I',q⟩)
theorem Og(lo hi:Option Int)(n:Nat):(sliceBounds lo hi none n).1=((HT.sIx n 0 lo:Nat):Int)∧(sliceBounds lo hi none n).2.1=((HT.sIx n n hi:Nat):Int)∧(sliceBounds lo hi none n).2.2=1:=by
 refine⟨?_,?_,rfl⟩
 ·cases lo with
  | none=>simp [sliceBounds,HT.sIx]
  | some i=>
   simp only[sliceBounds,HT.sIx,Option.getD_none,show(1:Int) > 0 by decide,if_true];by_cases h:i < 0
   ·simp only[h,if_true]<;>omega
   ·simp only[h,if_false]<;>omega
 ·cases hi with
  | none=>simp [sliceBounds,HT.sIx]
  | some i=>
   simp only[sliceBounds,HT.sIx,Option.getD_none,show(1:Int) > 0 by decide,if_true];by_cases h:i < 0
   ·simp only[h,if_true]<;>omega
   ·simp only[h,if_false]<;>omega
theorem Mh(its:List Value)(lo hi:Option Int):slicePick its.toArray lo hi none=((its.drop (HT.sIx its.length 0 lo)).take (HT.sIx its.length its.length hi - HT.sIx its.length 0 lo)).toArray:=by
 obtain⟨h1,h2,h3⟩:=Og lo hi its.toArray.size;unfold slicePick;rw[h1,h2,h3];simp only[sliceRange_one,pick_run,Zw]<;>rfl
def Zqe(K:W.Frag):V→Option Int→Option Int→Hp→VK→Prop:=fun x lo hi H Q=>∃ a xs,x = .ref a∧SqL K H a xs∧∀ p,H p=none→Q (.ref p) (upd H p (.lst (Ed xs lo hi)))
theorem N7:SlR X (Zqe X.K):=by
 intro pins s σ H x v vl vu lo hi sl Q I rx hs pl pu h;obtain⟨a,xs,rfl,hx,q⟩:=h;cases rx;obtain⟨its,r,ht,hz⟩:=I.list hx;have hlen:=r.length;refine⟨"list",_,slot_list_getitem.lookup,ht.isList.typeIs,?_⟩;refine wpAny_getItem_list_slice ht.isList hs pl pu .none (by simp) ?_ (by rw[Zw]<;>omega);rw[Mh,← hlen];refine⟨.ref s.heap.objs.size,_,I.laid (t':=s.toks) (o:=.lst (Ed xs lo hi)) (fun b ob q=>Zi _ q) (Zs _) ?_,rfl,q _ (I.hok.fresh (Zs _))⟩;exact⟨Jc (Rr xs lo hi) hz,_,0,(r.drop (HT.sIx xs.length 0 lo)).take (HT.sIx xs.length xs.length hi - HT.sIx xs.length 0 lo),Z6 _ rfl⟩
def U9:V→Bool
 | .non=>true
 | .bl _=>true
 | .int _=>true
 | .str _=>true
 | _=>false
def Rh:V→V→Bool
 | .non,.non=>true
 | .bl a,.bl b=>a == b
 | .bl a,.int b=>(if a then 1 else 0) == b
 | .int a,.bl b=>a == (if b then 1 else 0)
 | .int a,.int b=>a == b
 | .str a,.str b=>a == b
 | _,_=>false
theorem Ri{A:Around}{s:Shared}{y x:V}{u v:Value}(ry:RelV y u)(rx:RelV x v)(fy:U9 y=true)(fx:U9 x=true):SeqAt.EqAt A s u v (Rh y x):=by
 cases y with
 | non=>
  cases ry;cases x with
  | non=>cases rx;exact SeqAt.EqAt.same _
  | bl b=>cases rx;exact SeqAt.EqAt.none_bool b
  | int b=>obtain⟨t,rfl⟩:=rx;exact SeqAt.EqAt.none_int b t
  | str b=>obtain⟨t,rfl⟩:=rx;exact SeqAt.EqAt.none_str b t
  | _=>exact absurd (show false=true from fx) Zr
 | bl a=>
  cases ry;cases x with
  | non=>cases rx;exact SeqAt.EqAt.bool_none a
  | bl b=>cases rx;exact SeqAt.EqAt.bool_bool a b
  | int b=>obtain⟨t,rfl⟩:=rx;exact SeqAt.EqAt.bool_int a b t
  | str b=>obtain⟨t,rfl⟩:=rx;exact SeqAt.EqAt.bool_str a b t
  | _=>exact absurd (show false=true from fx) Zr
 | int a=>
  obtain⟨t',rfl⟩:=ry;cases x with
  | non=>cases rx;exact SeqAt.EqAt.int_none a t'
  | bl b=>cases rx;exact SeqAt.EqAt.int_bool a t' b
  | int b=>obtain⟨t,rfl⟩:=rx;exact SeqAt.EqAt.int_int a t' b t
  | str b=>obtain⟨t,rfl⟩:=rx;exact SeqAt.EqAt.int_str a t' b t
  | _=>exact absurd (show false=true from fx) Zr
 | str a=>
  obtain⟨t',rfl⟩:=ry;cases x with
  | non=>cases rx;exact SeqAt.EqAt.str_none a t'
  | bl b=>cases rx;exact SeqAt.EqAt.str_bool a t' b
  | int b=>obtain⟨t,rfl⟩:=rx;exact SeqAt.EqAt.str_int a t' b t
  | str b=>obtain⟨t,rfl⟩:=rx;exact SeqAt.EqAt.str_str a t' b t
  | _=>exact absurd (show false=true from fx) Zr
 | _=>exact absurd (show false=true from fy) Zr
def eqU(x:V)(u:Value):Bool:=match u with
 | .none=>Rh .non x
 | .bool b=>Rh (.bl b) x
 | .int i _=>Rh (.int i) x
 | .str z _=>Rh (.str z) x
 | _=>false
theorem Zju{x y:V}{u:Value}(r:RelV y u)(f:U9 y=true):eqU x u=Rh y x:=by
 cases y with
 | non=>cases r;rfl
 | bl b=>cases r;rfl
 | int i=>obtain⟨t,rfl⟩:=r;rfl
 | str z=>obtain⟨t,rfl⟩:=r;rfl
 | _=>exact absurd (show false=true from f) Zr
theorem Vx{x:V}:∀{xs:List V} {us:List Value},Vals xs us→xs.all U9=true→us.any (eqU x)=xs.any fun y=>Rh y x
 | _,_,.nil,_=>rfl
 | y :: xs,u :: us,.cons r t,f=>by
  rw[List.all_cons,Bool.and_eq_true] at f;rw[List.any_cons,List.any_cons,Zju r f.1,Vx t f.2]
theorem Nt{A:Around}{s:Shared}{x:V}{v:Value}(rx:RelV x v)(fx:U9 x=true):∀{xs:List V} {us:List Value},Vals xs us→xs.all U9=true→∀ u∈us,SeqAt.EqAt A s u v (eqU x u)
 | _,_,.nil,_=>fun u hu=>by cases hu
 | y :: xs,u :: us,.cons r t,f=>fun u' hu=>by
  rw[List.all_cons,Bool.and_eq_true] at f;rcases Je.mp hu with rfl | hu
  ·rw[Zju r f.1];exact Ri r rx f.1 fx
  ·exact Nt rx fx t f.2 u' hu
def Sj(x:V)(xs:List V):Bool:=xs.any fun y=>Rh y x
def rIn(K:W.Frag)(neg:Bool):R2:=fun x y H Q=>∃ p xs,y = .ref p∧(SqL K H p xs∨SqT K H p xs)∧U9 x=true∧xs.all U9=true∧Q (.bl (if neg then !Sj x xs else Sj x xs)) H
theorem Rb:Ng X (compareOp .In) (rIn X.K false):=by
 intro pins s σ H x y v u Q I rx ry h;obtain⟨p,xs,rfl,hq,fx,fs,q⟩:=h;cases ry;rcases hq with hq | hq
 ·obtain⟨its,r,pl,hz⟩:=I.list hq
  refine SeqAt.in_listAt (eqU x) pl.isList (fun w hw=>Nt rx fx r fs w (by simpa using hw)) ⟨.bl _,H,I,rfl,?_⟩;rw[show its.toArray.any (eqU x)=its.any (eqU x) by simp,Vx r fs];exact q
 ·obtain⟨its,r,pl,hz⟩:=I.tuple hq
  refine SeqAt.in_tupleAt (eqU x) pl (fun w hw=>Nt rx fx r fs w (by simpa using hw)) ⟨.bl _,H,I,rfl,?_⟩;rw[show its.toArray.any (eqU x)=its.any (eqU x) by simp,Vx r fs];exact q
theorem Nb:Ng X (compareOp .NotIn) (rIn X.K true):=by
 intro pins s σ H x y v u Q I rx ry h;obtain⟨p,xs,rfl,hq,fx,fs,q⟩:=h;cases ry;rcases hq with hq | hq
 ·obtain⟨its,r,pl,hz⟩:=I.list hq
  refine SeqAt.notIn_listAt (eqU x) pl.isList (fun w hw=>Nt rx fx r fs w (by simpa using hw)) ⟨.bl _,H,I,rfl,?_⟩;rw[show its.toArray.any (eqU x)=its.any (eqU x) by simp,Vx r fs];exact q
 ·obtain⟨its,r,pl,hz⟩:=I.tuple hq
  refine SeqAt.notIn_tupleAt (eqU x) pl (fun w hw=>Nt rx fx r fs w (by simpa using hw)) ⟨.bl _,H,I,rfl,?_⟩;rw[show its.toArray.any (eqU x)=its.any (eqU x) by simp,Vx r fs];exact q
theorem Jy:X3 X (.builtin "len") (fun xs H Q=>∃ p ys,xs=[.ref p]∧(SqL X.K H p ys∨SqT X.K H p ys)∧Q (.int ys.length) H):=by
 intro pins s σ H xs us Q I r h;obtain⟨p,ys,rfl,hq,q⟩:=h;obtain⟨u,rfl,rx⟩:=Qt r;cases rx;have hn:=Bs;rcases hq with hq | hq
 ·obtain⟨its,r',pl,hz⟩:=I.list hq
  have hlen:=r'.length;exact Calls.call_len_list pl.isList (by simp only[Zw]<;>omega) ⟨.int ys.length,H,I.tok _,⟨s.toks+1,by rw[Zw,hlen]⟩,q⟩
 ·obtain⟨its,r',pl,hz⟩:=I.tuple hq
  have hlen:=r'.length;exact len_tuple pl (by simp only[Zw]<;>omega) ⟨.int ys.length,H,I.tok _,⟨s.toks+1,by rw[Zw,hlen]⟩,q⟩
theorem Vv:X3 X (.builtin "len") (fun xs H Q=>∃ z,xs=[.str z]∧z.length≤sizeLine∧Q (.int z.length) H):=by
 intro pins s σ H xs us Q I r h;obtain⟨z,rfl,hz,q⟩:=h;obtain⟨u,rfl,t,rfl⟩:=Qt r;have hn:=Bs;exact len_str (by omega) ⟨.int z.length,H,I.tok _,⟨_,rfl⟩,q⟩
theorem Qd:X3 X (.type "list") (fun xs H Q=>∃ p ys,xs=[.ref p]∧(SqL X.K H p ys∨SqT X.K H p ys)∧∀ l,H l=none→Q (.ref l) (upd H l (.lst ys))):=by
 intro pins s σ H xs us Q I r h;obtain⟨p,ys,rfl,hq,q⟩:=h;obtain⟨u,rfl,rx⟩:=Qt r;cases rx;have fin:∀(its:List Value),Vals ys its→ys.length≤sizeLine→∀(h':Heap) (c':Nat),(∀ b o',s.heap.get? b=some o'→h'.get? b=some o') →
   h'.get? s.heap.objs.size=some { cls:=.type "list",dict:=none,data:=.seq its.toArray c',slots:=#[] }→EP X pins σ Q (.ref s.heap.objs.size) { s with heap:=h' }:=fun its r' hz h' c' kp e=>
  ⟨.ref s.heap.objs.size,_,I.laid (t':=s.toks) kp (Zs _) (show ObjOk X.prog X.w _ h' _ (.lst ys) from⟨hz,its,c',r',e⟩),rfl,q _ (I.hok.fresh (Zs _))⟩
 rcases hq with hq | hq
 ·obtain⟨its,r',pl,hz⟩:=I.list hq
  have hlen:=r'.length;obtain⟨o,ho,hc,n,hd⟩:=pl.isList;exact call_list_seq p (.inl rfl) ho hc hd (fun h' c' kp e=>fin its r' hz h' c' kp e) (by simp only[Zw]<;>omega)
 ·obtain⟨its,r',pl,hz⟩:=I.tuple hq
  have hlen:=r'.length;obtain⟨o,ho,hc,n,hd⟩:=pl;exact call_list_seq p (.inr rfl) ho hc hd (fun h' c' kp e=>fin its r' hz h' c' kp e) (by simp only[Zw]<;>omega)
theorem Xp:X3 X (.type "tuple") (fun xs H Q=>∃ p ys,xs=[.ref p]∧((SqL X.K H p ys∧∀ l,H l=none→Q (.ref l) (upd H l (.tup ys)))∨(SqT X.K H p ys∧Q (.ref p) H))):=by
 intro pins s σ H xs us Q I r h;obtain⟨p,ys,rfl,h⟩:=h;obtain⟨u,rfl,rx⟩:=Qt r;cases rx;rcases h with⟨hq,q⟩ | ⟨hq,q⟩
 ·obtain⟨its,r',pl,hz⟩:=I.list hq
  have hlen:=r'.length;refine call_tuple_list pl.isList (fun h' kp=>?_) (by simp only[Zw]<;>omega);have I1:Inv X pins σ H { s with heap:=h' }:=I.kept (t':=s.toks) kp;have I2:Inv X pins σ (upd H h'.objs.size (.tup ys)) { s with heap:=h'.push { cls:=.type "tuple",data:=.seq its.toArray } }:=
   I1.laid (t':=s.toks) (fun b o e=>Zi _ e) (Zs _) (show ObjOk X.prog X.w _ _ _ (.tup ys) from⟨hz,its,r',IsTup.new _ _⟩)
  exact⟨.ref h'.objs.size,_,I2,rfl,q _ (I1.hok.fresh (Zs _))⟩
 ·obtain⟨its,r',pl,hz⟩:=I.tuple hq
  exact call_tuple_same pl ⟨.ref p,H,I,rfl,q⟩
def tyV(K:W.Frag)(T:String)(x:V)(H:Hp):Prop:=match x with
 | .str _=>T = "str"
 | .int _=>T = "int"
 | .ref p=>(T = "list"∧∃ xs,SqL K H p xs)∨(T = "tuple"∧∃ o,K.lookup p=some o∧o.cls = .type "tuple"∧o.dict=none) ∨
   (T = "dict"∧((∃ kvs,H p=some (.dK kvs))∨∃ kvs,H p=some (.dT kvs)))∨(T = "set"∧∃ S n,H p=some (.set S n))
 | _=>False
theorem Zm9{pins:List (Addr×Obj)}{σ:St}{H:Hp}{s:Shared}{T:String}{x:V}{v:Value}(I:Inv X pins σ H s)(r:RelV x v)(ty:tyV X.K T x H) :
  s.TypeIs v T∧∀ a,v = .ref a→∃ ob,s.heap.get? a=some ob∧ob.dict=none:=by
 cases x with
 | str z=>
  obtain⟨t,rfl⟩:=r;cases (show T = "str" from ty);exact⟨typeIs_str s z t,fun _ e=>nomatch e⟩
 | int i=>
  obtain⟨t,rfl⟩:=r;cases (show T = "int" from ty);exact⟨typeIs_int s i t,fun _ e=>nomatch e⟩
 | ref p=>
  cases r;rcases ty with⟨rfl,xs,hq⟩ | ⟨rfl,o,hk,hc,hd⟩ | ⟨rfl,hk⟩ | ⟨rfl,S,n,hk⟩
  ·obtain⟨its,_,pl,_⟩:=I.list hq
   refine⟨pl.isList.typeIs,fun a e=>?_⟩;cases e;obtain⟨o,n,e,c,hd,_⟩:=pl;exact⟨o,e,hd⟩
  ·refine⟨⟨o,I.kIn p o hk,hc⟩,fun a e=>?_⟩
   cases e;exact⟨o,I.kIn _ o hk,hd⟩
  ·have z:∃ o,s.heap.get? p=some o∧o.ExactDict:=by
    rcases hk with⟨kvs,hk⟩ | ⟨kvs,hk⟩
    ·obtain⟨_,_,_,_,o,_,_,e,ex,_⟩:=I.hok p _ hk
     exact⟨o,e,ex⟩
    ·obtain⟨_,_,_,_,o,_,_,e,ex,_⟩:=I.hok p _ hk
     exact⟨o,e,ex⟩
   obtain⟨o,e,ex⟩:=z;refine⟨⟨o,e,ex.1⟩,fun a e2=>?_⟩;cases e2;exact⟨o,e,ex.2.1⟩
  ·obtain⟨o,_,_,_,e,ex,_⟩:=I.hok p _ hk
   refine⟨⟨o,e,ex.1⟩,fun a e2=>?_⟩;cases e2;exact⟨o,e,ex.2.1⟩
 | _=>exact False.elim ty
def tBM(K:W.Frag)(T:String)(r:V→List V→Hp→VK→Prop)(to:TE)(t:TA):TE:=fun σ H Q=>to σ H fun x H1=>tyV K T x H1∧t σ H1 fun xs H2=>r x xs H2 Q
variable{o e:Expr}{es:List Expr}{to:TE}{t:TA}{name:Str}{apos cpos:Pos}{T id:String}{r:V→List V→Hp→VK→Prop}
theorem Ej(pa:PlainAttrs T)(slot:Slot T name id)(hty:typeOf (.builtin id)=pure (.type "method_descriptor"))(hm:MtR X id r)(ho:PE X o to)(ha:PA X (e :: es) t)
  (hbase:attributeBase o name X.env (eval o X.env)=eval o X.env:=by rfl)
  (hfew:((backTo cpos (starEach (e :: es) X.env)).all (fun x=>!x.1) && (backToKw cpos (keywordEach [] X.env)).all (fun x=>x.1.isSome)
   && decide ((e :: es).length+([]:List Keyword).length+(if([]:List Keyword).isEmpty then 0 else 1) < 30))=true:=by rfl)
  (hline:(apos.endLine == cpos.line)=true:=by rfl) (hs:starEach (e :: es) X.env=(false,eval e X.env) :: starEach es X.env:=by rfl) (hplain:(backTo cpos (starEach es X.env)).any (·.1)=false:=by rfl) :
  PE X (.Call (.Attribute o name apos) (e :: es) [] cpos) (tBM X.K T r to t):=by
 intro pins s σ H Q I h;refine wpAny_Call_method_late hbase hfew hline rfl (Uc (ho pins s σ H _ I h) fun v s1 ⟨x,H1,I1,r1,ty,q1⟩=>?_);obtain⟨h1,h2⟩:=Zm9 I1 r1 ty;refine⟨T,id,pa,slot,hty,h1,h2,?_⟩;have hA:=ha cpos pins s1 σ H1 _ I1 q1;rw[hs] at hA ⊢;refine Calls.callWith_builtin (by show(false || (backTo cpos (starEach es X.env)).any (·.1))=false;rw[hplain]<;>rfl) (Calls.evalArgs_plain ?_);exact Uc hA fun us s2 ⟨vs,H2,I2,r2,q2⟩=>hm pins s2 σ H2 x vs v us Q I2 r1 r2 q2
end
def MtM(X:Cx)(id:String)(r:V→List V→Hp→VK→Prop):Prop:=
 ∀(pins:List (Addr×Obj)) (s:Shared) (σ:St) (H:Hp) (x:V) (xs:List V) (v:Value) (us:List Value) (Q:VK),Inv X pins σ H s→RelV x v→Vals xs us→r x xs H Q →
  wpAny (model X.prog X.w) X.A (call (.builtin id) (v :: us)) (EP X pins σ Q) X.xe s
theorem Vals.one:∀{x:V} {us:List Value},Vals [x] us→∃ u,us=[u]∧RelV x u
 | _,_,.cons r .nil=>⟨_,rfl,r⟩
theorem Vals.eraseIdx:∀{xs:List V} {us:List Value} (i:Nat),Vals xs us→Vals (xs.eraseIdx i) (us.eraseIdx i)
 | _,_,_,.nil=>.nil
 | _,_,0,.cons _ t=>t
 | _,_,i+1,.cons r t=>.cons r (Vals.eraseIdx i t)
theorem Vals.reverse{xs:List V}{us:List Value}(h:Vals xs us):Vals xs.reverse us.reverse:=by
 induction h with
 | nil=>exact .nil
 | cons r t ih=>rw[List.reverse_cons,List.reverse_cons];exact Vals.append ih (.cons r .nil)
theorem M6{α:Type}:∀(l:List α) (i:Nat),(l.eraseIdx i).length≤l.length
 | [],_=>Zs _
 | _ :: _,0=>Nat.le_succ _
 | _ :: r,i+1=>Nat.succ_le_succ (M6 r i)
section
variable{X:Cx}{pins:List (Addr×Obj)}{σ:St}{H:Hp}{s:Shared}{l b:Addr}{xs ys zs:List V}
theorem Inv.lset{its its':List Value}{n:Nat}{f:Array Value→Array Value}{t':Nat}(I:Inv X pins σ H s)(hH:H l=some (.lst xs))
  (e:s.heap.get? l=some { cls:=.type "list",data:=.seq its.toArray n }) (hf:f its.toArray=its'.toArray) (hv:Vals ys its') (hz:ys.length≤sizeLine) :
  Inv X pins σ (upd H l (.lst ys)) { s with heap:=s.heap.update l (Obj.mapSeq f),toks:=t' }:=by
 have q:=PySem.IsL.update e f;rw[hf] at q;refine I.write (x:=l) (e:=l) (by rw[hH];exact trivial) (.inl rfl) (fun b' u hb hu=>(Heap.get?_update_other s.heap (Obj.mapSeq f) (Ne.symm hb)).trans hu) ⟨_,q⟩ ?_;exact⟨hz,its',_,hv,q⟩
theorem Inv.lnew{its:List Value}{t':Nat}(I:Inv X pins σ H s)(hv:Vals ys its)(hz:ys.length≤sizeLine) :
  Inv X pins σ (upd H s.heap.objs.size (.lst ys)) { s with heap:=s.heap.push { cls:=.type "list",data:=.seq its.toArray },toks:=t' }:=
 I.laid (fun _ _ q=>Zi _ q) (Zs _) ⟨hz,its,0,hv,Z6 _ rfl⟩
theorem Inv.fresh(I:Inv X pins σ H s):H s.heap.objs.size=none:=I.hok.fresh (Zs _)
theorem Inv.lstM(I:Inv X pins σ H s)(hH:H l=some (.lst xs)):xs.length≤sizeLine∧∃(its:List Value) (n:Nat),Vals xs its∧xs.length=its.length∧s.heap.get? l=some { cls:=.type "list",data:=.seq its.toArray n }:=by
 obtain⟨z,its,n,r,e⟩:=I.hok l _ hH;exact⟨z,its,n,r,r.length,e⟩
theorem Zi0{n:Nat}(h:n≤sizeLine):Builtin.List.listTooLong n=false:=by
 unfold Builtin.List.listTooLong;exact Zc (by omega)
end
section
variable{X:Cx}
def Zkx:V→List V→Hp→VK→Prop:=fun x vs H Q=>∃ l xs y,x = .ref l∧vs=[y]∧H l=some (.lst xs)∧xs.length < sizeLine∧Q .non (upd H l (.lst (xs++[y])))
theorem Et:MtM X "list.append" Zkx:=by
 intro pins s σ H x vs v us Q I rx rv h;obtain⟨l,xs,y,rfl,rfl,hH,hz,q⟩:=h;cases rx;obtain⟨u,rfl,ru⟩:=rv.one;obtain⟨z,its,n,r,hl,e⟩:=I.lstM hH;refine call_meets F.slot_list_append ⟨_,e,rfl⟩ F.entry_list_append (F.args_list_append_2 _ _) (PySem.list_append l its.toArray n u (by rw[Zw];omega)) ⟨e,?_⟩;refine⟨.non,_,I.lset (its':=its++[u]) hH e (by simp) (r.append (.cons ru .nil)) ?_,rfl,q⟩;rw[Z3,List.length_singleton];omega
def Zkw:V→List V→Hp→VK→Prop:=fun x vs H Q=>∃ l b xs zs,x = .ref l∧vs=[.ref b]∧H l=some (.lst xs)∧H b=some (.lst zs)∧xs.length+zs.length≤sizeLine∧Q .non (upd H l (.lst (xs++zs)))
theorem Zfa:MtM X "list.extend" Zkw:=by
 intro pins s σ H x vs v us Q I rx rv h;obtain⟨l,b,xs,zs,rfl,rfl,hH,hB,hz,q⟩:=h;cases rx;obtain⟨u,rfl,ru⟩:=rv.one;cases ru;obtain⟨z,its,n,r,hl,e⟩:=I.lstM hH;obtain⟨z2,its2,n2,r2,hl2,e2⟩:=I.lstM hB;have hsz:its.toArray.size+its2.toArray.size≤sizeLine:=by rw[Zw,Zw];omega
 have hlong:¬ (!its.toArray.isEmpty && Builtin.List.listTooLong (its.toArray.size+its2.toArray.size))=true:=by
  rw[Zi0 hsz,Bool.and_false];exact Zr
 refine call_meets F.slot_list_extend ⟨_,e,rfl⟩ F.entry_list_extend (F.args_list_extend_2 _ _)
  (AutoSeq1.list_extend_list_list_0 l its.toArray n b its2.toArray n2 hlong (by rw[Zw];omega) (by omega)) ⟨e,e2,?_⟩
 refine⟨.non,_,I.lset (its':=its++its2) hH e (by simp) (r.append r2) ?_,rfl,q⟩;rw[Z3];omega
def Znx:V→List V→Hp→VK→Prop:=fun x vs H Q=>∃ l xs i k y,x = .ref l∧vs=[.int i]∧H l=some (.lst xs)∧-(2 ^ 63)≤i∧i < 2 ^ 63∧seqIndex? i xs.length=some k∧xs[k]? = some y∧Q y (upd H l (.lst (xs.eraseIdx k)))
theorem Zjc:MtM X "list.pop" Znx:=by
 intro pins s σ H x vs v us Q I rx rv h;obtain⟨l,xs,i,k,y,rfl,rfl,hH,h1,h2,hk,hy,q⟩:=h;cases rx;obtain⟨u,rfl,ru⟩:=rv.one;obtain⟨t,rfl⟩:=ru;obtain⟨z,its,n,r,hl,e⟩:=I.lstM hH;obtain⟨w,hw,rw'⟩:=r.get hy;refine call_meets F.slot_list_pop ⟨_,e,rfl⟩ F.entry_list_pop (F.args_list_pop_2 _ _)
  (MeetsSeq.list_pop_at l its.toArray n i t k w (fitsIndex_both h1 h2) (by rw[Zw,← hl];exact hk) (by rw[← Array.getElem?_toList];exact hw) (by rw[Zw];omega)) ⟨e,?_⟩
 refine⟨y,_,I.lset (its':=its.eraseIdx k) hH e ?_ (r.eraseIdx k) ?_,rw',q⟩
 ·show its.toArray.eraseIdxIfInBounds k=(its.eraseIdx k).toArray
  rw[List.eraseIdxIfInBounds_toArray]
 ·have:=M6 xs k
  omega
def Zrz:R2:=fun x y H Q=>∃ l b xs zs,x = .ref l∧y = .ref b∧H l=some (.lst xs)∧H b=some (.lst zs)∧xs.length+zs.length≤sizeLine∧∀ p,H p=none→Q (.ref p) (upd H p (.lst (xs++zs)))
theorem Tu:Ng X (binaryOp .Add) Zrz:=by
 intro pins s σ H x y v u Q I rx ry h;obtain⟨l,b,xs,zs,rfl,rfl,hH,hB,hz,q⟩:=h;cases rx;cases ry;obtain⟨z,its,n,r,hl,e⟩:=I.lstM hH;obtain⟨z2,its2,n2,r2,hl2,e2⟩:=I.lstM hB;refine PySem.P.add_list e e2 ?_ (by rw[Zw,Zw];omega);have ea:its.toArray++its2.toArray=(its++its2).toArray:=by simp
 rw[ea];exact⟨.ref _,_,I.lnew (t':=s.toks) (r.append r2) (by rw[Z3];omega),rfl,q _ I.fresh⟩
end
section
variable{prog:Program}{w:World}{A:Around}{E:Value→Shared→Prop}{s:Shared}
end
section
variable{X:Cx}
end
end L2
namespace Att
open PySem PySem.W PySem.Calls PyProof.Rows
theorem Ry{P:Params}{h:Heap}:∀(ns:List Int) (vs:List Value),WellAll P h vs (ns.map WData.int)→IntsAre vs ns:=by
 intro ns
 induction ns with
 | nil=>
  intro vs w;rw[List.map_nil] at w;cases w;exact .nil
 | cons n ns ih=>
  intro vs w;rw[List.map_cons] at w;cases w with
  | cons a b=>
   cases a;exact .cons _ _ (ih _ b)
theorem Zee{l:OpenLaw}{n:Nat}(hn:l.most=some n){P:Params}{h:Heap}{args:List WData}{vals:List Value}
  (hpre:l.row.toRowW.claim.pre args=true) (hwl:WellAll P h vals args) :
  ∃ a vs ns,vals=[Value.ref a]∧args=[WData.list (ns.map WData.int)]∧h.get? a=some { cls:=.type "list",data:=.seq vs.toArray }∧IntsAre vs ns∧ns.length≤n:=by
 have hsh:WShape.hasAll [] args [.list .int]=true:=(pre_splitW hpre).1;have hc:l.pre.holds [] { args:=args }=true:=(pre_splitW hpre).2;obtain⟨d,r,rfl,h1,h2⟩:=hasAllW_cons hsh;obtain rfl:=hasAllW_nil h2;obtain⟨xs,rfl,h3⟩:=hasW_list h1;obtain⟨ns,rfl⟩:=items_int h3;have hlen:ns.length≤n:=by
  unfold OpenLaw.pre at hc;have h4:(WTm.not (.lt (.lit (.int (n:Int))) (.len (.arg 0)))).holds [] { args:=[.list (ns.map .int)] }=true:=by
   have h4:=(holds_andW hc).1;rw[hn] at h4;exact h4
  have h5:=condW_of h4 (w_not (w_lt w_lit (w_len_list (w_arg rfl))));rw[Zj] at h5;refine Nat.le_of_not_lt fun q=>?_;have q':(n:Int) < ((ns.length:Nat):Int):=by omega
  first
   | (rw[Zd q'] at h5;exact absurd h5 (by decide))
   | (simp at h5;omega)
 cases hwl with
 | cons w1 w2=>
  cases w2;cases w1 with
  | list ho hall=>exact⟨_,_,ns,rfl,rfl,ho,Ry ns _ hall,hlen⟩
theorem Zen(l:OpenLaw)(args:List WData):l.row.toRowW.claim.post args (.bool true) args=true:=
 postW_of (r:=l.row.toRowW) (X:=(true == true))
  (show WShape.has [] (.bool true) .bool=true by first | rfl | decide | simp [WShape.has,WShape.arms,WShape.armsAll])
  (show(WTm.eq .res (.lit (.bool true))).value [] { args:=args,res:=some (.bool true),after:=args }=some (.bool (true == true)) from w_eq_bool (w_res rfl) w_lit) rfl
theorem attach_call{l:OpenLaw}{n:Nat}{q:Program}{loose:List Str}{XP:(Str→Option Value)→Heap→Prop}{YP:World→Heap→Prop}{d:DefRec}
  (hn:l.most=some n) (hdf:d.params.defaults=[])
  (call:∀(w:World) (s₀ s₁:Shared) (mg mb:Str→Option Value) (fa:Addr) (o:Obj) (pm cd doc:Value) (a:Addr) (vs:List Value) (ns:List Int),
   Ground q loose [] XP w s₀ mg mb s₁.heap→YP w s₁.heap →
   s₁.heap.get? fa=some o→o.data = .func (docDef d.name d.params d.body d.scope pm cd doc)→s₁.heap.CodeRec cd d.name→mg d.name=some (.ref fa) →
   s₁.heap.get? a=some { cls:=.type "list",data:=.seq vs.toArray }→IntsAre vs ns→ns.length≤n→s₁.gens = #[] →
   codeAny (model l.prog w) callerA (.call (.ref fa) ⟨[.ref a],[]⟩) (fun r s'=>r = .ok (.ret (.bool true))∧OldK s₁.heap s'.heap∧s'.os=s₁.os∧AllBare s'.gens) s₁) :
  WalkO q loose XP YP l.row.toRowW d [] (fun f vs=>PySem.call f vs):=by
 intro w s₀ s₁ mg mb G Y fa o pm cd doc dV kV ho hd hcd hD hmg hg args vals as hpre hlay hrd hwl hlo;obtain rfl:dV = .none:=Dflts.none hD hdf;obtain rfl:kV = .none:=Dflts.noKw hD;obtain⟨a,vs,ns,rfl,rfl,hobj,hints,hlen⟩:=Zee hn hpre hwl;refine enter_call (codeAny_mono (call w s₀ s₁ mg mb fa o pm cd doc a vs ns G Y ho (fd_plain hd) hcd hmg hobj hints hlen hg) fun r s' hq=>?_);obtain⟨rfl,h2,h3,h4⟩:=hq;exact⟨.inl ⟨.bool true,.bool true,[],rfl,fun _=>rfl,.bool true,Zen l _,fun _=>⟨List.Pairwise.nil,fun _ hm=>(nomatch hm)⟩⟩,h2,h3,h4⟩
section
variable{prog:Program}{w:World}{A:Around}{E:Value→Shared→Prop}{s:Shared}{K:Frag}
end
end Att
namespace L2
open PySem PySem.Spec PyProof.Rows
theorem Mr:∀{vs:List Value} {ns:List Int},IntsAre vs ns→Vals (ns.map V.int) vs
 | _,_,.nil=>.nil
 | _,_,.cons n t h=>.cons ⟨t,rfl⟩ (Mr h)
def Zpk(H:Hp):Prop:=∀ b,H b=none∨∃ o xs,H b=some (.frz o (.lst xs))
theorem Zjh{P:Program}{w:World}{K:W.Frag}{mg mb:Str→Option Value}{CX:S8}{k:Nat}{fa a:Addr}{fd:FuncData}{x:Str}{sp:Sp}{s₁:Shared}{vs:List Value}{ns:List Int}
    (KX:K.In s₁.heap) (hns:s₁.heap.Ns mainGlobals mg) (hb:s₁.heap.Ns builtinsNs mb) (hbb:∀ x:Str,x≠"__name__"→mb x=bootBuiltins x) (hlim:s₁.heap.NoLimit) (hg:s₁.gens = #[])
    (ha:s₁.heap.get? a=some { cls:=.type "list",data:=.seq vs.toArray }) (hi:IntsAre vs ns) (hl:ns.length≤sizeLine) (hr:Room k callerA)
    (F:∀ base:Heap,K.In base→base.Ns mainGlobals mg→FnOk P w K mg base CX k fa fd [x] sp) (hbind:∀(s:Shared) (u:Value),BindsTo s fd ⟨[u],[]⟩ [(x,u)])
    (hsp:∀ H:Hp,Zpk H→SqL K H a (ns.map V.int)→sp [.ref a] H (fun v _=>v = .bl true) fun _ _ _=>False)
    (hCX:∀ H e s',CX [] H s₁ (fun _ _ _=>False) e s'→False) :
    codeAny (model P w) callerA (.call (.ref fa) ⟨[.ref a],[]⟩) (fun r s'=>r = .ok (.ret (.bool true))∧OldK s₁.heap s'.heap∧s'.os=s₁.os∧AllBare s'.gens) s₁:=by
  have rv:=Mr hi;have lenV:=hi.length;have core:∀ H:Hp,Zpk H→SqL K H a (ns.map V.int)→HOk P w H s₁.heap→(∀ b,H b≠none→b=a)→(H a≠none→K.lookup a=none) →
      codeAny (model P w) callerA (.call (.ref fa) ⟨[.ref a],[]⟩) (fun r s'=>r = .ok (.ret (.bool true))∧OldK s₁.heap s'.heap∧s'.os=s₁.os∧AllBare s'.gens) s₁:=by
    intro H hO hS hok hA hK;have base_of:∀{b:Addr} {o:Obj},s₁.heap.get? b=some o→H b=none→(Ai s₁.heap H).get? b=some o:=fun e n=>Zjm e n;have noA:∀{b:Addr} {o:Obj} {es:Array DictEntry} {ep:Nat},s₁.heap.get? b=some o→o.data = .dict es ep→H b=none:=fun {b o es ep} e d=>by
      cases q:H b with
      | none=>rfl
      | some u=>
        have e':b=a:=hA b (by rw[q];simp);subst e';rw[ha] at e;cases e;have d':Data.seq vs.toArray _=Data.dict es ep:=d;cases d'
    have nsK:∀{b:Addr} {m:Str→Option Value},s₁.heap.Ns b m→(Ai s₁.heap H).Ns b m:=fun {b m} ⟨o,es,ep,e,d,r⟩=>⟨o,es,ep,base_of e (noA e d),d,r⟩;have hKb:K.In (Ai s₁.heap H):=fun b o e=>base_of (KX b o e) (by
      cases q:H b with
      | none=>rfl
      | some u=>
        have e':b=a:=hA b (by rw[q];simp);subst e';rw[hK (by rw[q];simp)] at e;cases e)
    have hM:Mod K mg (Ai s₁.heap H):=⟨hKb,nsK hns,⟨mb,nsK hb,hbb⟩,let ⟨mc,h1,h2⟩:=hlim;⟨mc,nsK h1,h2⟩⟩;have e0:Env0 P w K mg (Ai s₁.heap H) callerA [] s₁ H:=⟨rfl,hM,fun b o e=>Zlr e,Nat.le_of_eq (Zfj _ _),trivial,fun b hb=>absurd (show b∈([]:List Addr) from hb) (by simp),hok,.of_eq hg⟩;refine codeAny_mono ((F _ hKb (nsK hns)).run callerA [] s₁ H ⟨[.ref a],[]⟩ [.ref a] [.ref a] _ _ hr e0 (hbind s₁ (.ref a)) (.cons rfl .nil) (hsp H hO hS)) fun r s' h=>?_;cases r with
    | error e=>exact(hCX H e s' h).elim
    | ok fl=>
      cases fl with
      | next=>exact False.elim h
      | brk=>exact False.elim h
      | cont=>exact False.elim h
      | ret u=>
        obtain⟨v,H',os,bare,un,hok',r',q⟩:=h;have q':v = .bl true:=q;subst q';obtain rfl:u=Value.bool true:=r';refine⟨rfl,OldK.of_keep fun b o e=>?_,os,bare⟩;cases q:H b with
        | none=>exact un.keep b o e q (by intro z;exact absurd (show b∈([]:List Addr) from z) (by simp)) (by simp)
        | some u=>
          rcases hO b with z | ⟨ob,xs,z⟩
          · rw[q] at z;cases z
          · have z2:=un.frzs b ob _ z
            obtain⟨e1,_⟩:=hok b _ z;obtain⟨e2,_⟩:=hok' b _ z2;rw[e] at e1;cases e1;exact e2
  cases hk:K.lookup a with
  | some o=>
    have e:=KX a o hk;rw[ha] at e;cases e;refine core (fun _=>none) (fun _=>.inl rfl) (.inr ⟨_,vs.toArray,_,hk,rfl,rfl,rfl,by rw[Zw,lenV];exact hl,by simpa using rv⟩) (fun b u z=>by have z':(none:Option HO)=some u:=z;cases z') (fun b z=>absurd rfl z) fun z=>absurd rfl z
  | none=>
    refine core (fun b=>if b=a then some (.frz { cls:=.type "list",data:=.seq vs.toArray } (.lst (ns.map V.int))) else none) (fun b=>?_) (.inl (.inr ⟨{ cls:=.type "list",data:=.seq vs.toArray },Zu rfl⟩)) (fun b u z=>?_) (fun b z=>?_) fun _=>hk
    · by_cases hb:b=a
      · exact .inr ⟨_,_,Zu hb⟩
      · exact .inl (Zk hb)
    · by_cases hb:b=a
      · have z':=(Zu hb).symm.trans z
        cases z';subst hb;exact⟨ha,by rw[Zj];exact hl,vs,_,rv,ha⟩
      · have z':=(Zk hb).symm.trans z
        cases z'
    · by_cases hb:b=a
      · exact hb
      · exact absurd (Zk hb) z
theorem walk_of{l:W.OpenLaw}{n k:Nat}{q:Program}{loose:List Str}{XP:(Str→Option Value)→Heap→Prop}{YP:World→Heap→Prop}{d:DefRec}{K:Params→W.Frag}{CX:World→S8}{sp:World→Sp}{x:Str}
  (hn:l.most=some n) (hn2:n≤sizeLine) (hdf:d.params.defaults=[]) (hr:Room k callerA)
  (hY:∀(w:World) (h:Heap),YP w h→(K w.params).In h)
  (F:∀(w:World) (mg:Str→Option Value) (fa:Addr) (h:Heap),(K w.params).In h→h.Ns mainGlobals mg→mg d.name=some (.ref fa) →
   ∃ fd:FuncData,(∀(s:Shared) (u:Value),BindsTo s fd ⟨[u],[]⟩ [(x,u)]) ∧
    ∀ base:Heap,(K w.params).In base→base.Ns mainGlobals mg→FnOk l.prog w (K w.params) mg base (CX w) k fa fd [x] (sp w))
  (hsp:∀(w:World) (H:Hp) (a:Addr) (ns:List Int),ns.length≤n→Zpk H→SqL (K w.params) H a (ns.map V.int)→sp w [.ref a] H (fun v _=>v = .bl true) fun _ _ _=>False)
  (hCX:∀(w:World) (H:Hp) (s:Shared) (e:Value) (s':Shared),CX w [] H s (fun _ _ _=>False) e s'→False) :
  W.WalkO q loose XP YP l.row.toRowW d [] (fun f vs=>PySem.call f vs):=by
 refine Att.attach_call hn hdf fun w s₀ s₁ mg mb fa o pm cd doc a vs ns G Y ho hd hcd hmg hobj hints hlen hg=>?_;have KX:=hY w _ Y;obtain⟨fd,hb,hF⟩:=F w mg fa _ KX G.T.g hmg;exact Zjh KX G.T.g G.T.b G.T.builtins G.T.nolimit hg hobj hints (Jc hlen hn2) hr hF hb (fun H hO hS=>hsp w H a ns hlen hO hS) fun H e s'=>hCX w H s₁ e s'
def Yq(s:Stmt)(j:Nat):Stmt:=match s with
 | .ClassDef _ _ _ body _ _ _ _ _ _ _=>body.getD j (.Pass ⟨0,0,0,0⟩)
 | _=>.Pass ⟨0,0,0,0⟩
def Ul(s:Stmt):Arguments:=match s with
 | .FunctionDef _ a _ _ _ _ _ _ _ _=>a
 | _=>{ posonlyargs:=[],args:=[],vararg:=none,kwonlyargs:=[],kw_defaults:=[],kwarg:=none,defaults:=[] }
def Y2(s:Stmt):List Stmt:=match s with
 | .FunctionDef _ _ b _ _ _ _ _ _ _=>b
 | _=>[]
def Zq(s:Stmt):Scope:=match s with
 | .FunctionDef _ _ _ _ _ _ sc _ _ _=>sc
 | _=>{ kind:=.function,names:=[],isGenerator:=false,isCoroutine:=false }
abbrev Yr:S8:=fun _ _ _ _ _ _=>False
abbrev E0:XK:=fun _ _ _=>False
theorem Ja{X:Cx}:Ee Yr X E0:=fun _ _ _ _ _ _ _ h=>h.elim
structure Fun(K:W.Frag)(x qual:Str)(st:Stmt)(f:Addr)(fd:FuncData):Prop where
 ex:∃(oc:Value) (od:Option Addr) (kV doc pm:Value) (an:Option Addr) (cdv ct:Value) (osl:Array (Option Value)),
  fd=W.fnOf x qual (Ul st) (Y2 st) (Zq st) .none kV doc pm an cdv ct∧K.lookup f=some ⟨oc,od,.func fd,osl⟩∧W.codeIn K cdv qual=true
 kp:W.keepIn K (.ref f)=true
section
variable{P:Program}{w:World}{K:W.Frag}{mg:Str→Option Value}{base:Heap}
theorem Fun.ok{x qual:Str}{st:Stmt}{f:Addr}{fd:FuncData}{N ps:List Str}{k:Nat}{sp:Sp}(F:Fun K x qual st f fd)(S:FnScope N ps (Zq st))(len:∀ vs H Q E,sp vs H Q E→vs.length=ps.length)
  (hbody:∀(cdv:Value) (A:Around) (outer:List Env) (s:Shared) (H:Hp) (vs:List V) (Q:VK) (E:XK),Room k (A.deeper (envOfC qual (Zq st) s.heap.objs.size f cdv))→sp vs H Q E →
   ∃ t,PSs (Vs Yr P w K mg base N qual (Zq st) f cdv A outer s H E).nox (Y2 st) t∧t { nx:=fun _ H'=>Q .non H',rt:=Q } (start N vs) H):FnOk P w K mg base Yr (k+1) f fd ps sp:=by
 obtain⟨oc,od,kV,doc,pm,an,cdv,ct,osl,rfl,lk,hcd⟩:=F.ex;refine Zjq lk hcd S len fun A outer s H vs Q E hr hsp=>?_;obtain⟨t,h,q⟩:=hbody cdv A outer s H vs Q E hr hsp;exact⟨t,h.nox,q⟩
theorem Fun.binds{x qual:Str}{st:Stmt}{f:Addr}{fd:FuncData}{ps:List Str}(F:Fun K x qual st f fd)
  (h:∀(kV doc pm:Value) (an:Option Addr) (cdv ct:Value) (us:List Value),us.length=ps.length→bindArgs (W.fnOf x qual (Ul st) (Y2 st) (Zq st) .none kV doc pm an cdv ct) ⟨us,[]⟩=pure (ps.zip us)):Binds K fd ps []:=by
 obtain⟨oc,od,kV,doc,pm,an,cdv,ct,osl,rfl,lk,hcd⟩:=F.ex;exact .all (h kV doc pm an cdv ct)
theorem fun_mk{x qual:Str}{st:Stmt}{f:Addr}{oc:Value}{od an:Option Addr}{osl:Array (Option Value)}{kV doc pm cdv ct:Value}(l:K.lookup f=some ⟨oc,od,.func (W.fnOf x qual (Ul st) (Y2 st) (Zq st) .none kV doc pm an cdv ct),osl⟩)
  (c:W.codeIn K cdv qual=true) (k:W.keepIn K (.ref f)=true):Fun K x qual st f (W.fnOf x qual (Ul st) (Y2 st) (Zq st) .none kV doc pm an cdv ct):=⟨⟨oc,od,kV,doc,pm,an,cdv,ct,osl,rfl,l,c⟩,k⟩
end
theorem Q3{n:Nat}(h:n≤1000):n < sizeLine:=Jx h (by decide)
section
variable{X:Cx}
theorem pv(i:Nat){x:Str}{pos:Pos}(hN:X.N[i]? = some x:=by rfl)(hv:Vis X.env.scope x:=by first | exact Or.inl rfl | exact Or.inr (Or.inl rfl) | exact Or.inr (Or.inr rfl))(hd:(x == ("__debug__":Str))=false:=by decide)
  (hcd:(x == ("__classdict__":Str))=false:=by decide):PE X (.Name x pos) (Zpu i):=Zn5 hN hv hd hcd
end
theorem Yb{A B:Prop}(h:B):if false=true then A else B:=by
 rw[Zk Zr];exact h
theorem Ym{A B:Prop}(h:A):if true=true then A else B:=by
 rw[Zu rfl];exact h
theorem Si{c A B:Prop} [Decidable c](h1:c→A)(h2:¬ c→B):if c then A else B:=by
 by_cases h:c
 ·rw[Zu h]
  exact h1 h
 ·rw[Zk h]
  exact h2 h
def Same(H H':Hp):Prop:=∀ b o,H b=some o→H' b=some o
theorem Same.refl(H:Hp):Same H H:=fun _ _ h=>h
theorem Same.trans{H H1 H2:Hp}(a:Same H H1)(b:Same H1 H2):Same H H2:=fun c o h=>b c o (a c o h)
theorem Same.free{H H':Hp}(e:Same H H'){l:Addr}(h:H' l=Option.none):H l=Option.none:=by
 cases q:H l with
 | none=>rfl
 | some o=>
  rw[e l o q] at h;cases h
theorem Same.seq{K:W.Frag}{H H':Hp}{a:Addr}{xs:List V}(e:Same H H')(h:SqL K H a xs):SqL K H' a xs:=by
 rcases h with(h | ⟨o,h⟩) | h
 ·exact .inl (.inl (e _ _ h))
 ·exact .inl (.inr ⟨o,e _ _ h⟩)
 ·exact .inr h
end L2
set_option maxHeartbeats 4000000
namespace L2
open PySem PySem.Spec PyProof.Rows
def Nh(env:Env):List (Str×NameKind)→List (Str×Addr)→List (Str×Addr)
 | [],acc=>acc
 | (n,k) :: r,acc=>Nh env r (if k == NameKind.free then(match env.cells.lookup n with | some c=>(n,c) :: acc | none=>acc) else acc)
theorem Sx{env:Env}{f:Str×NameKind→List (Str×Addr)→Sem (ForInStep (List (Str×Addr)))}
  (hf:∀ n k acc,f (n,k) acc=if(k == NameKind.free)=true then(do let c ← cellOf env n;pure (ForInStep.yield ((n,c) :: acc))) else pure (ForInStep.yield acc)) :
  ∀(l:List (Str×NameKind)) (acc:List (Str×Addr)),(∀ y∈l,y.2 = .free→∃ c,env.cells.lookup y.1=some c)→forIn l acc f=(pure (Nh env l acc):Sem _)
 | [],acc,_=>rfl
 | (n,k) :: r,acc,h=>by
  rw[List.forIn_cons,hf];have ih:=Sx hf r;by_cases hk:(k == NameKind.free)=true
  ·have hk':k = .free:=by simpa using hk
   obtain⟨c,hc⟩:=h (n,k) Zy hk';have e:cellOf env n=(pure c:Sem _):=by unfold cellOf;rw[hc]
   rw[Zu hk,e,pure_bind,pure_bind];show forIn r ((n,c) :: acc) f=_;rw[ih _ fun y hy=>h y (Zz _ hy)];unfold Nh;rw[Zu hk];have hc2:List.lookup n env.cells=some c:=hc;simp only[hc2];cases r<;>rfl
  ·rw[Zk hk,pure_bind]
   show forIn r acc f=_;rw[ih _ fun y hy=>h y (Zz _ hy)]
   conv=>rhs;unfold Nh
   rw[Zk hk]
theorem Zpe{scope:Scope}{env:Env}(h:∀ y∈scope.names,y.2 = .free→∃ c,env.cells.lookup y.1=some c):closureFor scope env=(pure (Nh env scope.names []):Sem _):=by
 have e:closureFor scope env=(forIn scope.names ([]:List (Str×Addr)) (fun x cs=>match x with
   | (name,kind)=>if(kind == NameKind.free)=true then(do let c ← cellOf env name;pure (ForInStep.yield ((name,c) :: cs))) else pure (ForInStep.yield cs)) >>= fun cs=>pure cs):=rfl
 rw[e,Sx (env:=env) (fun n k acc=>rfl) scope.names [] h];rfl
theorem Nz{env:Env}:∀{l:List (Str×NameKind)} {acc:List (Str×Addr)},(∀ x c,acc.lookup x=some c→env.cells.lookup x=some c)→∀ x c,(Nh env l acc).lookup x=some c→env.cells.lookup x=some c
 | [],acc,h,x,c,e=>h x c e
 | (n,k) :: r,acc,h,x,c,e=>by
  unfold Nh at e;refine Nz (l:=r) (fun y d hd=>?_) x c e;by_cases hk:(k == NameKind.free)=true
  ·rw[Zu hk] at hd
   cases hc:env.cells.lookup n with
   | none=>rw[hc] at hd;exact h y d hd
   | some c'=>
    rw[hc] at hd;simp only[List.lookup_cons] at hd;by_cases hy:(y == n)=true
    ·rw[hy] at hd
     have e1:y=n:=by simpa using hy
     cases hd;rw[e1];exact hc
    ·have hy':(y == n)=false:=by simpa using hy
     rw[hy'] at hd;exact h y d hd
  ·rw[Zk hk] at hd;exact h y d hd
theorem Zdv{env:Env}:∀{l:List (Str×NameKind)} {acc:List (Str×Addr)} {x:Str},(acc.lookup x).isSome=true→((Nh env l acc).lookup x).isSome=true
 | [],acc,x,h=>h
 | (n,k) :: r,acc,x,h=>by
  unfold Nh;refine Zdv (l:=r) ?_;by_cases hk:(k == NameKind.free)=true
  ·rw[Zu hk]
   cases hc:env.cells.lookup n with
   | none=>exact h
   | some c'=>
    simp only[List.lookup_cons];by_cases hy:(x == n)=true
    ·rw[hy];rfl
    ·have hy':(x == n)=false:=by simpa using hy
     rw[hy'];exact h
  ·rw[Zk hk];exact h
theorem Zb7{env:Env}:∀{l:List (Str×NameKind)} {acc:List (Str×Addr)} {x:Str} {c:Addr},(x,NameKind.free)∈l→env.cells.lookup x=some c→((Nh env l acc).lookup x).isSome=true
 | (n,k) :: r,acc,x,c,hm,hc=>by
  unfold Nh;rcases Je.mp hm with e | hm
  ·cases e
   rw[Zu (by rfl)];rw[hc];refine Zdv ?_;simp
  ·exact Zb7 hm hc
theorem Bq{env:Env}:∀{names:List (Str×NameKind)} {x:Str} {k:NameKind},(∀ y∈names,y.2 ≠ .cell) →
  (names.map fun(n,k)=>if(k == NameKind.free && env.scope.kind == .function && env.kindOf n == some .cell) then(n,NameKind.cell) else(n,k)).lookup x=some k→(k = .cell∨k = .free)→(x,NameKind.free)∈names
 | [],_,_,_,h,_=>by simp at h
 | (n,j) :: r,x,k,hn,h,hk=>by
  rw[List.map_cons] at h;cases hx:x == n with
  | true=>
   have hxe:x=n:=by simpa using hx
   subst hxe;by_cases hc:(j == NameKind.free && env.scope.kind == .function && env.kindOf x == some .cell)=true
   ·have hj:j = .free:=by
     simp only[Bool.and_eq_true] at hc
     simpa using hc.1.1
    subst hj;exact Zy
   ·rw[show(match ((x,j):Str×NameKind) with | (n,k)=>if(k == NameKind.free && env.scope.kind == .function && env.kindOf n == some .cell)=true then(n,NameKind.cell) else(n,k))=(x,j) from Zk hc] at h
    simp only[List.lookup_cons,Y7] at h;cases h;rcases hk with e | e
    ·exact absurd e (hn (x,j) Zy)
    ·rw[e];exact Zy
  | false=>
   refine Zz _ (Bq (env:=env) (fun y hy=>hn y (Zz _ hy)) ?_ hk);by_cases hc:(j == NameKind.free && env.scope.kind == .function && env.kindOf n == some .cell)=true
   ·rw[show(match ((n,j):Str×NameKind) with | (n,k)=>if(k == NameKind.free && env.scope.kind == .function && env.kindOf n == some .cell)=true then(n,NameKind.cell) else(n,k))=(n,NameKind.cell) from Zu hc] at h
    simp only[List.lookup_cons,hx] at h;exact h
   ·rw[show(match ((n,j):Str×NameKind) with | (n,k)=>if(k == NameKind.free && env.scope.kind == .function && env.kindOf n == some .cell)=true then(n,NameKind.cell) else(n,k))=(n,j) from Zk hc] at h
    simp only[List.lookup_cons,hx] at h;exact h
theorem Ve{env:Env}:∀{names:List (Str×NameKind)} {x:Str},names.lookup x=some .free →
  (names.map fun(n,k)=>if(k == NameKind.free && env.scope.kind == .function && env.kindOf n == some .cell) then(n,NameKind.cell) else(n,k)).lookup x=some .cell ∨
  (names.map fun(n,k)=>if(k == NameKind.free && env.scope.kind == .function && env.kindOf n == some .cell) then(n,NameKind.cell) else(n,k)).lookup x=some .free
 | [],_,h=>by simp at h
 | (n,j) :: r,x,h=>by
  rw[List.map_cons];cases hx:x == n with
  | true=>
   simp only[List.lookup_cons,hx] at h;cases h;by_cases hc:(NameKind.free == NameKind.free && env.scope.kind == .function && env.kindOf n == some .cell)=true
   ·refine .inl ?_
    rw[show(match ((n,NameKind.free):Str×NameKind) with | (n,k)=>if(k == NameKind.free && env.scope.kind == .function && env.kindOf n == some .cell)=true then(n,NameKind.cell) else(n,k))=(n,NameKind.cell) from Zu hc];simp only[List.lookup_cons,hx]
   ·refine .inr ?_
    rw[show(match ((n,NameKind.free):Str×NameKind) with | (n,k)=>if(k == NameKind.free && env.scope.kind == .function && env.kindOf n == some .cell)=true then(n,NameKind.cell) else(n,k))=(n,NameKind.free) from Zk hc];simp only[List.lookup_cons,hx]
  | false=>
   simp only[List.lookup_cons,hx] at h;have ih:=Ve (env:=env) h;by_cases hc:(j == NameKind.free && env.scope.kind == .function && env.kindOf n == some .cell)=true
   ·rw[show(match ((n,j):Str×NameKind) with | (n,k)=>if(k == NameKind.free && env.scope.kind == .function && env.kindOf n == some .cell)=true then(n,NameKind.cell) else(n,k))=(n,NameKind.cell) from Zu hc]
    simp only[List.lookup_cons,hx];exact ih
   ·rw[show(match ((n,j):Str×NameKind) with | (n,k)=>if(k == NameKind.free && env.scope.kind == .function && env.kindOf n == some .cell)=true then(n,NameKind.cell) else(n,k))=(n,j) from Zk hc]
    simp only[List.lookup_cons,hx];exact ih
theorem T2{x:Str}{k:NameKind}:∀{l:List (Str×NameKind)},l.lookup x=some k→(x,k)∈l
 | [],h=>by simp at h
 | (n,j) :: r,h=>by
  cases hx:x == n with
  | true=>
   simp only[List.lookup_cons,hx] at h;cases h;have e:x=n:=by simpa using hx
   rw[e];exact Zy
  | false=>
   simp only[List.lookup_cons,hx] at h;exact Zz _ (T2 h)
def blk(X:Cx)(N:List Str)(scope:Scope)(C:Addr)(s₀:Shared)(H₀:Hp)(ex:List Addr)(xe:Value→Shared→Prop):Cx:=
 { X with N:=N,s₀:=s₀,H₀:=H₀,env:=compEnvC scope (Nh X.env scope.names []) C X.env,outer:=X.stack,stack:=X.stack,ex:=ex,fn:=fun _=>false,pn:=[],xe:=xe }
structure Blk(X:Cx)(N:List Str)(caps:List (Option Nat))(scope:Scope):Prop where
 kind:scope.kind = .function
 nocell:∀ y∈scope.names,y.2 ≠ .cell
 names:∀ y∈scope.names,y.2 = .local→scope.names.lookup y.1=some .local
 free:∀ y∈scope.names,y.2 = .free→X.env.kindOf y.1=some .cell∨X.env.kindOf y.1=some .free
 len:caps.length=N.length
 cap:∀(i j:Nat) (x:Str),caps[i]? = some (some j)→N[i]? = some x→X.N[j]? = some x∧Vis X.env.scope x∧scope.names.lookup x=some .free
def Dk(caps:List (Option Nat))(σ:St):St:=caps.map fun c=>match c with | some j=>(σ[j]?).join | none=>none
section
variable{X:Cx}{pins:List (Addr×Obj)}{σ:St}{H:Hp}{s:Shared}
theorem Zpf{N:List Str}{caps:List (Option Nat)}{scope:Scope}{fp:List Addr}{xe:Value→Shared→Prop}(B:Blk X N caps scope)(I:Inv X pins σ H s)(hlt:∀ b∈fp,b < s.heap.objs.size)(hf:∀ b∈fp,R5 X pins H b) :
  (blk X N scope s.heap.objs.size s H fp xe).Ok where
 mod:=I.ok.mod
 kind:=B.kind
 glob:=I.ok.glob
 blt:=I.ok.blt
 above:=Zs _
 inj:=fun x y c hx hy=>I.ok.inj x y c (Nz (fun _ _ e=>by simp at e) x c hx) (Nz (fun _ _ e=>by simp at e) y c hy)
 has:=fun x hk=>by
  have hm:(x,NameKind.free)∈scope.names:=hk.elim (fun e=>Bq B.nocell e (.inl rfl)) fun e=>Bq B.nocell e (.inr rfl);obtain⟨c,hc⟩:=I.ok.has x (B.free _ hm rfl);exact Option.isSome_iff_exists.mp (Zb7 hm hc)
 cab:=fun x c h _=>by cases h
 hd:=I.ok.hd
 frames:=I.ok.frames
 stk:=.inl rfl
 exf:=fun b hb=>⟨Jn (hlt b hb),fun x c hc=>(hf b hb).2.2.2.2.1 x c (Nz (fun _ _ e=>by simp at e) x c hc)⟩
 bs:=I.bs
 bsz:=Jc I.ok.bsz I.sz
 noex:=fun b o e hb=>by
  rcases(hf b hb).2.2.2.1 with h | h
  ·exact I.ok.noex b o e h
  ·exact absurd (Z8 (I.ok.bs b o e).1) (Nat.not_lt.mpr h)
 exfs:=fun b hb hs=>by
  rcases Je.mp (I.stkSub b hs) with e | e
  ·exact(hf b hb).2.1 e
  ·exact(hf b hb).2.2.1 e
 funs:=I.stack
 frf:=I.stkFree
theorem Zme{N:List Str}{caps:List (Option Nat)}{scope:Scope}{fp:List Addr}{xe:Value→Shared→Prop}{h₁:Heap}{t':Nat}(B:Blk X N caps scope)(I:Inv X pins σ H s)(hlt:∀ b∈fp,b < s.heap.objs.size)(hf:∀ b∈fp,R5 X pins H b)
  {m:Str→Option Value} (hn:h₁.Ns s.heap.objs.size m) (hk:∀ b o,s.heap.get? b=some o→h₁.get? b=some o) :
  Inv (blk X N scope s.heap.objs.size s H fp xe) [] (Dk caps σ) H { s with heap:=h₁,toks:=t' } where
 ok:=Zpf B I hlt hf
 os:=rfl
 bare:=I.bare
 base:=Un.kept hk
 loc:=by
  refine⟨m,hn,fun i x v hN hσ hv=>?_⟩;unfold Dk at hσ;rw[Z4] at hσ;cases hc:caps[i]? with
  | none=>rw[hc] at hσ;cases hσ
  | some oj=>
   rw[hc] at hσ;cases oj with
   | none=>cases hσ
   | some j=>
    have hσ':(σ[j]?).join=some v:=Z0 hσ;have hj:σ[j]? = some (some v):=by
     cases q:σ[j]? with
     | none=>rw[q] at hσ';cases hσ'
     | some o=>rw[q] at hσ';have:o=some v:=hσ';rw[this]
    obtain⟨hNj,hVis,hfr⟩:=B.cap i j x hc hN;obtain⟨m',_,hl⟩:=I.loc;obtain⟨u,ru,lk⟩:=hl j x v hNj hj hVis;have hm:=T2 hfr;have hkX:=B.free _ hm rfl;refine⟨u,ru,.inr ⟨Ve hfr,?_⟩⟩;rcases lk with⟨e,_⟩ | ⟨_,c,hc1,hc2⟩
    ·rcases hkX with e' | e'
     ·rw[e] at e';cases e'
     ·rw[e] at e';cases e'
    ·obtain⟨c',hc'⟩:=Option.isSome_iff_exists.mp (Zb7 (env:=X.env) (acc:=[]) hm hc1)
     have h2:=Nz (fun _ _ e=>by simp at e) x c' hc';rw[hc1] at h2;cases h2;exact⟨c,hc',hc2.keeps hk⟩
 cell:=fun x c hc=>by
  obtain⟨v,hv⟩:=I.cell x c (Nz (fun _ _ e=>by simp at e) x c hc);exact⟨v,hv.keeps hk⟩
 free:=I.hok.fresh (Zs _)
 freeC:=fun x c hc=>I.freeC x c (Nz (fun _ _ e=>by simp at e) x c hc)
 pin:=fun p hp=>by cases hp
 hok:=I.hok.kept hk
 len:=by unfold Dk;rw[Zj];exact B.len
end
section
variable{prog:Program}{w:World}{A:Around}{R:Result→Shared→Prop}{s:Shared}
abbrev Zcb(ifs:List Expr)(env:Env):Sem Bool:=forIn ifs true fun c r=>if r=true then do let ok ← isTrue c env (eval c env);pure (ForInStep.yield ok) else pure (ForInStep.yield r)
theorem Zfr{elt target iter:Expr}{ifs:List Expr}{scope:Scope}{pos:Pos}{it acc:Value}{env:Env}(I:Nat→Shared→Prop)
  (turn:∀ n s,I n s→wpAny (model prog w) A (pyNext it) (fun r s₁=>match r with
   | none=>R (.ok .next) s₁
   | some v=>wpAny (model prog w) A (letOwnedTupleGo target it v) (fun _ s₁'=>wpAny (model prog w) A (assign target env v) (fun _ s₂=>
     wpAny (model prog w) A (Zcb ifs env) (fun ok s₃=>
      if ok=true then wpAny (model prog w) A (eval elt env) (fun x s₄=>
       wpAny (model prog w) A (call (.builtin "list.append") [acc,x]) (fun _ s₅=>∃ m,m < n∧I m s₅) (notedBy (model prog w) A env fun e s'=>R (.error e) s') s₄) (notedBy (model prog w) A env fun e s'=>R (.error e) s') s₃
      else ∃ m,m < n∧I m s₃) (notedBy (model prog w) A env fun e s'=>R (.error e) s') s₂) (notedBy (model prog w) A env fun e s'=>R (.error e) s') s₁') (notedBy (model prog w) A env fun e s'=>R (.error e) s') s₁) (notedBy (model prog w) A env fun e s'=>R (.error e) s') s)
  (n:Nat) (h:I n s):codeAny (model prog w) A (.compLoop (.ListComp elt [⟨target,iter,ifs,0⟩] scope pos) 0 it acc env) R s:=by
 refine codeAny_loop rfl I (fun n s hI=>?_) n h;show wpAny _ A ((compTurn (.ListComp elt [⟨target,iter,ifs,0⟩] scope pos) 0 it acc env).onRaise (fun x=>do noteFrame x env;theTreesLotGoes x)) _ _ s;refine wpAny_noted ?_;rw[compTurn_list];refine Zb (wpAny_standAt (Zb (wpAny_mono (turn n s hI) (fun r s₁ h₁=>?_) fun _ _ h'=>h')));cases r with
 | none=>exact Ze h₁
 | some v=>
  refine Zb (wpAny_mono h₁ (fun _ s₁' h₁'=>?_) fun _ _ h'=>h');refine Zb (wpAny_mono h₁' (fun _ s₂ h₂=>Zb (wpAny_mono h₂ (fun ok s₃ h₃=>?_) fun _ _ h'=>h')) fun _ _ h'=>h');cases ok with
  | false=>exact Ze ⟨rfl,h₃⟩
  | true=>
   exact Zb (Zb (wpAny_mono h₃ (fun x s₄ h₄=>Zb (wpAny_mono h₄ (fun _ s₅ h₅=>Ze (Ze ⟨rfl,h₅⟩)) fun _ _ h'=>h')) fun _ _ h'=>h'))
end
def PF(X:Cx)(ifs:List Expr)(t:TT):Prop:=
 ∀(pins:List (Addr×Obj)) (s:Shared) (σ:St) (H:Hp) (Q:Bool→Hp→Prop),Inv X pins σ H s→t σ H Q→wpAny (model X.prog X.w) X.A (Zcb ifs X.env) (TP X pins σ Q) X.xe s
def Zgh:TT:=fun _ H Q=>Q true H
theorem U5{X:Cx}:PF X [] Zgh:=fun pins s σ H Q I h=>wpAny_tests_nil ⟨H,I,h⟩
theorem Zht{X:Cx}{c:Expr}{t:TT}(h:PT X c t):PF X [c] t:=fun pins s σ H Q I q=>wpAny_tests_one (h pins s σ H Q I q)
def E5(g:TG)(tt:TT)(te:TE)(σ0:St)(J:It)(H1:Hp)(Q:V→Hp→Prop):Prop:=
 ∀ l,H1 l=none→∃ W:Nat→Nat→St→Hp→Prop,(∃ m,W 0 m σ0 (upd H1 l (.lst [])))∧∀ i m σ H,W i m σ H →
  (J.stop i H∧Q (.ref l) H)∨(J.go i H∧∀ x H',J.yld i H x H'→g x σ H' fun σ2 H2=>tt σ2 H2 fun c H3=>
   if c=true then te σ2 H3 fun v H4=>∃ xs,H4 l=some (.lst xs)∧xs.length < sizeLine∧∃ m',m' < m∧W (i+1) m' σ2 (upd H4 l (.lst (xs++[v])))
   else ∃ m',m' < m∧W (i+1) m' σ2 H3)
def Zmp(caps:List (Option Nat))(wi:TI)(g:TG)(tt:TT)(te:TE):TE:=fun σ H Q=>wi σ H fun J H1=>E5 g tt te (Dk caps σ) J H1 Q
structure Loose(X:Cx)(pins:List (Addr×Obj))(H:Hp)(C:Addr):Prop where
 un:H C=none
 loc:C≠X.env.locals
 ab:X.s₀.heap.objs.size≤C
 cel:∀ x c,X.env.cells.lookup x=some c→c≠C
 pin:∀ p∈X.pn++pins,p.1≠C
section
variable{X:Cx}{pins:List (Addr×Obj)}{σ:St}{H:Hp}{s:Shared}
def Zsd(X:Cx)(N:List Str)(scope:Scope)(use:Option (Value→Sem Unit))(Q:Value→Shared→Prop)(acc:Value)(C:Addr):Value→Shared→Prop:=
 notedBy (model X.prog X.w) X.A (compEnvC scope (Nh X.env scope.names []) C X.env) fun e s'=>compPost (model X.prog X.w) X.A X.xe use Q acc C (.error e) s'
theorem Dj{tg elt iter:Expr}{ifs:List Expr}{scope:Scope}{pos pos':Pos}{N:List Str}{caps:List (Option Nat)}{wi:TI}{g:TG}{tt:TT}{te:TE}{use:Option (Value→Sem Unit)}{Q:Value→Shared→Prop}{Qv:V→Hp→Prop}
  {xe:Value→Shared→Prop} (hc:X.calm=true) (B:Blk X N caps scope) (hi:PI X tg iter wi)
  (hg:∀ C s₀ H₀ ex,PG (blk X N scope C s₀ H₀ ex xe) tg g) (ht:∀ C s₀ H₀ ex,PF (blk X N scope C s₀ H₀ ex xe) ifs tt) (he:∀ C s₀ H₀ ex,PE (blk X N scope C s₀ H₀ ex xe) elt te)
  (I:Inv X pins σ H s) (h:wi σ H fun J H1=>E5 g tt te (Dk caps σ) J H1 Qv)
  (fin:∀ l C H' s5,Inv X pins σ H' s5→(∃ m,s5.heap.Ns C m)→Loose X pins H' C→Qv (.ref l) H'→compPost (model X.prog X.w) X.A X.xe use Q (.ref l) C (.ok .next) s5)
  (hx:∀ acc C e s',xe e s'→Zsd X N scope use Q acc C e s')
  (hs:∀ x,foldedSetIterable iter X.env x=pure x:=by intro _;rfl) :
  wpAny (model X.prog X.w) X.A (comprehension (.ListComp elt [⟨tg,iter,ifs,0⟩] scope pos) scope X.env pos' (newList []) false (eval iter X.env) use) Q X.xe s:=by
 have hclos:closureFor scope X.env=(pure (Nh X.env scope.names []):Sem _):=Zpe fun y hy hf=>I.ok.has y.1 (B.free y hy hf);refine wpAny_comprehension_free rfl hs hclos B.kind B.names (Uc (hi pins s σ H _ I h) fun v s1 h1=>Uc h1 fun itv s2 h2=>?_);obtain⟨it,fp,tn,J,H2,e,I2,T,st2,f2,hJ⟩:=h2;subst e;have I3:Inv X pins σ (upd H2 s2.heap.objs.size (.lst [])) { s2 with heap:=s2.heap.push { cls:=.type "list",data:=.seq ([]:List Value).toArray },toks:=s2.toks }:=I2.lnew (ys:=[]) (its:=[]) .nil (Nat.zero_le _);have hfr2:H2 s2.heap.objs.size=none:=I2.fresh;obtain⟨W,⟨m0,w0⟩,turn⟩:=hJ s2.heap.objs.size hfr2;refine wpAny_newList ?_;generalize hs3:({ s2 with heap:=s2.heap.push { cls:=.type "list",data:=.seq ([]:List Value).toArray } }:Shared)=s3;have es3:({ s2 with heap:=s2.heap.push { cls:=.type "list",data:=.seq ([]:List Value).toArray },toks:=s2.toks }:Shared)=s3:=hs3;rw[es3] at I3;have keep3:∀ b o,s2.heap.get? b=some o→s3.heap.get? b=some o:=fun b o e=>by rw[← hs3];exact Zi _ e
 have fpo:∀ b∈fp,∃ o,s2.heap.get? b=some o∧∀ v,o.data ≠ .cell v:=T.obj _ _ st2;have hlt2:∀ b∈fp,b < s2.heap.objs.size:=fun b hb=>by obtain⟨o,e,_⟩:=fpo b hb;exact Z8 e
 have hlt3:∀ b∈fp,b < s3.heap.objs.size:=fun b hb=>by obtain⟨o,e,_⟩:=fpo b hb;exact Z8 (keep3 b o e)
 have hf3:∀ b∈fp,R5 X pins (upd H2 s2.heap.objs.size (.lst [])) b:=fun b hb=>⟨by rw[Jh (Jn (hlt2 b hb))];exact(f2 b hb).1,(f2 b hb).2⟩;refine wpAny_newFunctionEnv B.nocell (by intro y hy;simp at hy) (fun h₁ hns₁ hsb₁=>?_) B.kind
 try dsimp only at hns₁ hsb₁ ⊢
 have keep4:∀ b o,s3.heap.get? b=some o→h₁.get? b=some o:=fun b o e=>hsb₁.extBut b o (Jn (Z8 e)) (Zi _ e);have I4:∀ t',Inv (blk X N scope s3.heap.objs.size s3 (upd H2 s2.heap.objs.size (.lst [])) fp xe) [] (Dk caps σ) (upd H2 s2.heap.objs.size (.lst [])) { s3 with heap:=h₁,toks:=t' }:=fun t'=>Zme B I3 hlt3 hf3 hns₁ keep4;generalize hY:blk X N scope s3.heap.objs.size s3 (upd H2 s2.heap.objs.size (.lst [])) fp xe=Y at I4;have Yp:Y.prog=X.prog:=by rw[← hY];rfl
 have Yw:Y.w=X.w:=by rw[← hY];rfl
 have YK:Y.K=X.K:=by rw[← hY];rfl
 have Yc:Y.calm=true:=by rw[← hY];exact hc
 have YA:Y.A=X.A:=by rw[← hY];rfl
 have Yx:Y.xe=xe:=by rw[← hY];rfl
 have Ye:Y.env=compEnvC scope (Nh X.env scope.names []) s3.heap.objs.size X.env:=by rw[← hY];rfl
 have hgY:PG Y tg g:=by rw[← hY];exact hg _ _ _ _
 have htY:PF Y ifs tt:=by rw[← hY];exact ht _ _ _ _
 have heY:PE Y elt te:=by rw[← hY];exact he _ _ _ _
 have stat:∀{H':Hp},(∀ b∈fp,H' b=none)→∀ b∈fp,R5 Y [] H' b:=fun {H'} hn b hb=>by
  refine⟨hn b hb,?_,?_,.inl (by rw[← hY];exact hb),?_,?_⟩
  ·rw[Ye];exact Jn (hlt3 b hb)
  ·intro hm
   rw[← hY] at hm;rcases Je.mp (I3.stkSub b hm) with e | e
   ·exact(f2 b hb).2.1 e
   ·exact(f2 b hb).2.2.1 e
  ·intro x c hcl
   rw[Ye] at hcl;exact(f2 b hb).2.2.2.2.1 x c (Nz (fun _ _ e=>by simp at e) x c hcl)
  ·intro p hp
   rw[← hY] at hp;cases hp
 have st4:tn 0 h₁:=T.keep _ _ _ st2 fun b hb o e=>keep4 b o (keep3 b o e);have toX:∀ e s',xe e s'→notedBy (model X.prog X.w) X.A (compEnvC scope (Nh X.env scope.names []) s3.heap.objs.size X.env) (fun e s'=>compPost (model X.prog X.w) X.A X.xe use Q (.ref s2.heap.objs.size) s3.heap.objs.size (.error e) s') e s':=fun e s' hxe=>hx _ _ e s' hxe;have loop:∀ tk,codeAny (model X.prog X.w) X.A (.compLoop (.ListComp elt [⟨tg,iter,ifs,0⟩] scope pos) 0 (.ref it) (.ref s2.heap.objs.size) (compEnvC scope (Nh X.env scope.names []) s3.heap.objs.size X.env))
   (compPost (model X.prog X.w) X.A X.xe use Q (.ref s2.heap.objs.size) s3.heap.objs.size) { s3 with heap:=h₁,toks:=tk }:=by
  intro tk;refine Zfr (fun n s'=>∃ i σ' H',Inv Y [] σ' H' s'∧tn i s'.heap∧(∀ b∈fp,H' b=none)∧W i n σ' H') ?_ m0 ⟨0,_,_,I4 tk,st4,fun b hb=>(hf3 b hb).1,w0⟩;rintro n s5 ⟨i,σ5,H5,I5,st5,fr5,w5⟩;have moX:∀{α:Type} {t:Sem α} {Q1:α→Shared→Prop} {s:Shared},wpAny (model X.prog X.w) X.A t Q1 xe s→wpAny (model X.prog X.w) X.A t Q1
    (notedBy (model X.prog X.w) X.A (compEnvC scope (Nh X.env scope.names []) s3.heap.objs.size X.env) (fun e s'=>compPost (model X.prog X.w) X.A X.xe use Q (.ref s2.heap.objs.size) s3.heap.objs.size (.error e) s')) s:=
   fun h=>wpAny_mono h (fun _ _ q=>q) toX
  rcases turn i n σ5 H5 w5 with⟨stop,q⟩ | ⟨go,step⟩
  ·have z:=T.done Y Yp Yw YK Yc i [] s5 σ5 H5 xe I5 (stat fr5) st5 stop
   rw[YA] at z;refine moX (Uc z fun r s6 ⟨hr,I6⟩=>?_);subst hr;obtain⟨m,hm,_⟩:=I6.loc;have hCn:H5 s3.heap.objs.size=none:=by have z:=I6.free;rw[Ye] at z;exact z
   have un:Un (Ak X.stack) fp (upd H2 s2.heap.objs.size (.lst [])) H5 s3.heap s6.heap:=by have z:=I6.base;rw[← hY] at z;exact z
   have hos:s6.os=s3.os:=by have z:=I6.os;rw[← hY] at z;exact z
   have hok:HOk X.prog X.w H5 s6.heap:=by have z:=I6.hok;rw[Yp,Yw] at z;exact z
   have IX:Inv X pins σ H5 s6:=I3.call' (ch:=fp) hos un hok I6.bare fun b hb=>⟨(f2 b hb).2.2.2.1,(f2 b hb).2.1,(f2 b hb).2.2.2.2.1,(f2 b hb).2.2.2.2.2⟩;refine fin _ _ H5 s6 IX ⟨m,by rw[Ye] at hm;exact hm⟩ ⟨hCn,?_,I3.sz,?_,?_⟩ q
   ·exact Nat.ne_of_gt I3.lt
   ·intro x c hcl
    obtain⟨v,hv⟩:=I3.cell x c hcl;exact Jn hv.lt
   ·intro p hp
    exact Jn (Z8 (I3.pin p hp).1)
  ·have z:=T.item Y Yp Yw YK Yc i [] s5 σ5 H5 xe I5 (stat fr5) st5 go
   rw[YA] at z;refine moX (Uc z fun r s6 ⟨u,hr,h6⟩=>?_);subst hr;refine moX (Uc h6 fun _ s7 ⟨x,H7,I7,r7,y7,st7,fr7⟩=>?_);have I7':=I7.pinned (stat fr7) (T.obj _ _ st7);have hN:=step x H7 y7;have again:∀{σ':St} {H':Hp} {s':Shared} {m':Nat},m' < n→Inv Y ([]++Tj fp s7.heap) σ' H' s'→W (i+1) m' σ' H'→∃ m,m < n∧∃ i σ'' H'',Inv Y [] σ'' H'' s'∧tn i s'.heap∧(∀ b∈fp,H'' b=none)∧W i m σ'' H'':=fun {σ' H' s' m'} hm I' w'=>by
    refine⟨m',hm,i+1,σ',H',I'.unpinned,T.keep _ _ _ st7 fun b hb o e=>(I'.pin (b,o) (List.mem_append_right _ (List.mem_append_right _ (Nc hb e)))).1,fun b hb=>?_,w'⟩;obtain⟨o,e,d⟩:=T.obj _ _ st7 b hb;exact(I'.pin (b,o) (List.mem_append_right _ (List.mem_append_right _ (Nc hb e)))).2.1
   have z:=hgY _ s7 σ5 H7 x u _ I7' r7 hN;rw[Yp,Yw,YA,Ye,Yx] at z;refine moX (Uc z fun _ s8 ⟨σ8,H8,I8,q8⟩=>?_);have z:=htY _ s8 σ8 H8 _ I8 q8;rw[Yp,Yw,YA,Ye,Yx] at z;refine moX (Uc z fun ok s9 ⟨H9,I9,q9⟩=>?_);cases ok with
   | false=>
    obtain⟨m',hm,w'⟩:=q9;exact again hm I9 w'
   | true=>
    have q9':te σ8 H9 fun v H4=>∃ xs,H4 s2.heap.objs.size=some (.lst xs)∧xs.length < sizeLine∧∃ m',m' < n∧W (i+1) m' σ8 (upd H4 s2.heap.objs.size (.lst (xs++[v]))):=q9;have z:=heY _ s9 σ8 H9 _ I9 q9';rw[Yp,Yw,YA,Ye,Yx] at z;refine moX (Uc z fun u10 s10 ⟨v10,H10,I10,r10,q10⟩=>?_);obtain⟨xs,hl,hz,m',hm,w'⟩:=q10;have ap:=Et (X:=Y) _ s10 σ8 H10 (.ref s2.heap.objs.size) [v10] (.ref s2.heap.objs.size) [u10] (fun _ H'=>W (i+1) m' σ8 H') I10 rfl (.cons r10 .nil) ⟨_,xs,v10,rfl,rfl,hl,hz,w'⟩;rw[Yp,Yw,YA,Yx] at ap;refine moX (Uc ap fun _ s11 ⟨_,H11,I11,_,w11⟩=>again hm I11 w11)
 exact codeAny_compStart_list (loop _) (T.self _ 0 _ _ _ st4 (loop _))
theorem Ud{tg elt iter:Expr}{ifs:List Expr}{scope:Scope}{pos:Pos}(N:List Str)(caps:List (Option Nat)){wi:TI}{g:TG}{tt:TT}{te:TE}(hc:X.calm=true)(B:Blk X N caps scope)(hi:PI X tg iter wi)
  (hg:∀ C s₀ H₀ ex,PG (blk X N scope C s₀ H₀ ex fun _ _=>False) tg g) (ht:∀ C s₀ H₀ ex,PF (blk X N scope C s₀ H₀ ex fun _ _=>False) ifs tt) (he:∀ C s₀ H₀ ex,PE (blk X N scope C s₀ H₀ ex fun _ _=>False) elt te)
  (hs:∀ x,foldedSetIterable iter X.env x=pure x:=by intro _;rfl):PE X (.ListComp elt [⟨tg,iter,ifs,0⟩] scope pos) (Zmp caps wi g tt te):=by
 intro pins s σ H Q I h;rw[eval_ListComp];refine Dj (use:=none) (Qv:=Q) hc B hi hg ht he I h (fun l C H' s5 I5 ⟨m,hm⟩ lo q=>?_) (fun _ _ _ _ f=>f.elim) hs;refine⟨m,hm,fun h' hs'=>⟨.ref l,H',?_,rfl,q⟩⟩;exact I5.turned (it:=C) (t':=s5.toks) (fun b o hb e=>hs'.extBut b o hb e) lo.un lo.loc (.inr lo.ab) lo.cel lo.pin
theorem Tg{i:Nat}{x:Str}{pos':Pos}{tg elt iter:Expr}{ifs:List Expr}{scope:Scope}{pos spos:Pos}(N:List Str)(caps:List (Option Nat)){wi:TI}{g:TG}{tt:TT}{te:TE}(hc:X.calm=true)
  (hN:X.N.Nodup) (hi':X.N[i]? = some x) (hx:Loc X.env.scope x) (B:Blk X N caps scope) (hi:PI X tg iter wi)
  (hg:∀ C s₀ H₀ ex,PG (blk X N scope C s₀ H₀ ex fun _ _=>False) tg g) (ht:∀ C s₀ H₀ ex,PF (blk X N scope C s₀ H₀ ex fun _ _=>False) ifs tt) (he:∀ C s₀ H₀ ex,PE (blk X N scope C s₀ H₀ ex fun _ _=>False) elt te)
  (hsw:swapsWith (.ListComp elt [⟨tg,iter,ifs,0⟩] scope pos) (some (.Name x pos')) spos.line X.env=pure true:=by rfl)
  (hs:∀ x,foldedSetIterable iter X.env x=pure x:=by intro _;rfl) (hf:X.fn x=true∨X.env.scope.names.lookup x=some .local:=by first | exact .inl rfl | exact .inr rfl | assumption) :
  PS X (.Assign [.Name x pos'] (.ListComp elt [⟨tg,iter,ifs,0⟩] scope pos) spos) (Zkk (Zmp caps wi g tt te) (Qy i)):=by
 intro pins s σ H D I h;rw[exec_Assign_Name_used _ _ _ _ hsw];refine Zb (wpAny_standAt (Zb ?_));show wpAny _ X.A (do let _ ← comprehension (.ListComp elt [⟨tg,iter,ifs,0⟩] scope pos) scope X.env _ (newList []) false (eval iter X.env) (some (assign (.Name x pos') X.env))) _ _ s;refine Zb (wpAny_mono (Dj (use:=some (assign (.Name x pos') X.env)) (Q:=fun _ s'=>SP X pins D .next s') (Qv:=fun v H1=>Qy i v σ H1 D.nx) hc B hi hg ht he I h (fun l C H' s5 I5 ⟨m,hm⟩ lo q=>?_) (fun _ _ _ _ f=>f.elim) hs)
  (fun _ s' hq=>Ze (Ze hq)) fun _ _ e=>e)
 show wpAny _ X.A (assign (.Name x pos') X.env (.ref l)) _ _ _;refine wpAny_assign_Name (Ms I5 hN hi' hx (v:=.ref l) rfl (fun s6 I6 ⟨a,sb,ha⟩=>?_) hf);have hCa:C≠a:=by
  rcases ha with e | e
  ·rw[e];exact lo.loc
  ·exact Ne.symm (lo.cel x a e)
 refine⟨m,hm.sameBut sb hCa,fun h' hs'=>⟨_,H',?_,q⟩⟩;exact I6.turned (it:=C) (t':=s6.toks) (fun b o hb e=>hs'.extBut b o hb e) lo.un lo.loc (.inr lo.ab) lo.cel lo.pin
end
section
variable{X:Cx}
def Wide(i:Int):Prop:=i.natAbs < 2 ^ 4000
def Zry(K:W.Frag)(neg:Bool):R2:=fun x y H Q=>∃(a b:Addr) (ns ms:List Int),x = .ref a∧y = .ref b∧SqL K H a (ns.map V.int)∧SqL K H b (ms.map V.int)∧Q (.bl (if neg then !decide (ns=ms) else decide (ns=ms))) H
theorem Qq{h:Heap}{a:Addr}{its:Array Value}(p:PlainL h a its):h.IsList a its:=by
 obtain⟨o,n,e,c,_,d⟩:=p;exact⟨o,e,c,n,d⟩
theorem Zof(hu:X.A.units+64 < cLine):Ng X (compareOp .Eq) (Zry X.K false):=by
 intro pins s σ H x y v u Q I rx ry h;obtain⟨a,b,ns,ms,rfl,rfl,hA,hB,q⟩:=h;cases rx;cases ry;obtain⟨ia,va,pa,_⟩:=I.list hA;obtain⟨ib,vb,pb,_⟩:=I.list hB;exact W.ke_eq_ints (Qq pa) (Qq pb) (Qg va) (Qg vb) hu ⟨.bl _,H,I,rfl,q⟩
def Zrx(K:W.Frag):List V→Hp→VK→Prop:=fun xs H Q=>∃ x n t b,xs=[x,.ty n]∧TyOf K H x t∧W.kitOne K t (.type n)=some b∧Q (.bl b) H
theorem Ez:X3 X (.builtin "isinstance") (Zrx X.K):=by
 intro pins s σ H xs us Q I r h;obtain⟨x,n,t,b,rfl,ty,e,q⟩:=h;obtain⟨u,w',rfl,r1,r2⟩:=Zf8 r;cases r2;exact Zfh I r1 ty e fun tk=>⟨.bl b,H,I.tok tk,rfl,q⟩
end
def Zm3(sc:Scope)(N0 N:List Str)(caps:List (Option Nat))(scope:Scope):Bool:=
 decide (scope.kind = .function) && scope.names.all (fun y=>decide (y.2 ≠ .cell)) && scope.names.all (fun y=>decide (y.2 ≠ .local) || decide (scope.names.lookup y.1=some .local)) &&
 scope.names.all (fun y=>decide (y.2 ≠ .free) || (decide (sc.names.lookup y.1=some .cell) || decide (sc.names.lookup y.1=some .free))) && decide (caps.length=N.length) &&
 (List.range caps.length).all fun i=>match caps[i]?,N[i]? with
  | some (some j),some x=>decide (N0[j]? = some x) && (decide (sc.names.lookup x=some .cell) || decide (sc.names.lookup x=some .free)) && decide (scope.names.lookup x=some .free)
  | _,_=>true
theorem Blk.by{X:Cx}{N:List Str}{caps:List (Option Nat)}{scope:Scope}{sc:Scope}{N0:List Str}(hsc:X.env.scope=sc)(hN:X.N=N0)(h:Zm3 sc N0 N caps scope=true):Blk X N caps scope:=by
 unfold Zm3 at h;simp only[Bool.and_eq_true,decide_eq_true_eq,J9,Bool.or_eq_true] at h;obtain⟨⟨⟨⟨⟨h1,h2⟩,h3⟩,h4⟩,h5⟩,h6⟩:=h;subst hsc;subst hN;refine⟨h1,h2,fun y hy e=>(h3 y hy).elim (fun z=>absurd e z) id,fun y hy e=>(h4 y hy).elim (fun z=>absurd e z) id,h5,fun i j x e1 e2=>?_⟩;have hi:i < caps.length:=(Zx.mp e1).1;have z:=h6 i (Ya.mpr hi);rw[e1,e2] at z;simp only[Bool.and_eq_true,decide_eq_true_eq,Bool.or_eq_true] at z;exact⟨z.1.1,.inr z.1.2,z.2⟩
theorem Z5{H:Hp}{p:Addr}(h:H p=none)(o:HO):Same H (upd H p o):=fun b u q=>by rw[Jh (J4 q h)];exact q
theorem N8{H0 H:Hp}{p:Addr}(h:H0 p=none)(s:Same H0 H)(o:HO):Same H0 (upd H p o):=fun b u q=>by rw[Jh (J4 q h)];exact s b u q
theorem Vu{tt:TT}{te:TE}{σ0:St}{H1:Hp}{Q:V→Hp→Prop}{J:It}(n:Nat)(xs:Nat→V)(p:Nat→Bool)(f:Nat→V)(hn:n≤sizeLine)
  (hgo:∀ i H,Same H1 H→i < n→J.go i H) (hstop:∀ H,Same H1 H→J.stop n H) (hy:∀ i H x H',Same H1 H→i < n→J.yld i H x H'→H'=H∧x=xs i)
  (hT:∀ i H,i < n→Same H1 H→∀ R:Bool→Hp→Prop,(∀ H',Same H H'→R (p i) H')→tt (σ0.set 0 (some (xs i))) H R)
  (hE:∀ i H,i < n→p i=true→Same H1 H→∀ R:V→Hp→Prop,(∀ H',Same H H'→R (f i) H')→te (σ0.set 0 (some (xs i))) H R)
  (hQ:∀ l H,Same H1 H→H1 l=none→H l=some (.lst (((List.range n).filter p).map f))→Q (.ref l) H):E5 (Qy 0) tt te σ0 J H1 Q:=by
 intro l hl;refine⟨fun i m σ H=>m=n - i∧i≤n∧Same H1 H∧H l=some (.lst (((List.range i).filter p).map f))∧∀ o,σ.set 0 o=σ0.set 0 o,⟨n,by simp,Nat.zero_le _,Z5 hl _,Zo,fun _=>rfl⟩,?_⟩;rintro i m σ H ⟨rfl,hi,sm,hL,hσ⟩;by_cases hlt:i < n
 ·refine .inr ⟨hgo i H sm hlt,fun x H' y=>?_⟩
  obtain⟨rfl,rfl⟩:=hy i H x H' sm hlt y;show tt (σ.set 0 (some (xs i))) H' _;rw[hσ];refine hT i H' hlt sm _ fun H2 s2=>?_;have er:(List.range (i+1)).filter p=(List.range i).filter p++(if p i=true then [i] else []):=by
   rw[List.range_succ,List.filter_append];by_cases hp:p i=true
   ·rw[Zu hp,List.filter_cons_of_pos hp,List.filter_nil]
   ·rw[Zk hp,List.filter_cons_of_neg hp,List.filter_nil]
  have hσ2:∀ o,(σ0.set 0 (some (xs i))).set 0 o=σ0.set 0 o:=fun o=>List.set_set _;by_cases hp:p i=true
  ·rw[Zu hp]
   refine hE i H2 hlt hp (sm.trans s2) _ fun H3 s3=>?_;refine⟨_,s3 _ _ (s2 _ _ hL),?_,n - (i+1),by omega,rfl,hlt,?_,?_,hσ2⟩
   ·rw[Zj]
    have:=List.length_filter_le p (List.range i);rw[J7] at this;omega
   ·exact N8 hl (sm.trans (s2.trans s3)) _
   ·rw[Zo,er,Zu hp,Jp]
    rfl
  ·rw[Zk hp]
   refine⟨n - (i+1),by omega,rfl,hlt,sm.trans s2,?_,hσ2⟩;rw[er,Zk hp,J8];exact s2 _ _ hL
 ·have e:i=n:=by omega
  subst e;exact .inl ⟨hstop H sm,hQ l H sm hl hL⟩
theorem Bu{tt:TT}{te:TE}{σ0:St}{H1:Hp}{Q:V→Hp→Prop}{lo:Int}{n:Nat}(p:Nat→Bool)(f:Nat→V)(hn:n≤sizeLine)
  (hT:∀ i H,i < n→Same H1 H→∀ R:Bool→Hp→Prop,(∀ H',Same H H'→R (p i) H')→tt (σ0.set 0 (some (.int (lo+(i:Nat))))) H R)
  (hE:∀ i H,i < n→p i=true→Same H1 H→∀ R:V→Hp→Prop,(∀ H',Same H H'→R (f i) H')→te (σ0.set 0 (some (.int (lo+(i:Nat))))) H R)
  (hQ:∀ l H,Same H1 H→H1 l=none→H l=some (.lst (((List.range n).filter p).map f))→Q (.ref l) H):E5 (Qy 0) tt te σ0 (Itr lo n) H1 Q:=
 Vu n (fun i=>.int (lo+(i:Nat))) p f hn (fun _ _ _ h=>h) (fun _ _=>Zs _) (fun _ _ _ _ _ _ y=>y) hT hE hQ
theorem Qi{α β:Type}(xs:List α)(p:α→Bool)(f:α→β)(d:α):((List.range xs.length).filter fun i=>p (xs.getD i d)).map (fun i=>f (xs.getD i d))=(xs.filter p).map f:=by
 have e:(List.range xs.length).map (fun i=>xs.getD i d)=xs:=by
  apply List.ext_getElem
  ·simp
  ·intro i h1 h2
   simp;rw[Zf (by simpa using h2)];rfl
 have h:(((List.range xs.length).map (fun i=>xs.getD i d)).filter p).map f=((List.range xs.length).filter fun i=>p (xs.getD i d)).map (fun i=>f (xs.getD i d)):=by
  rw[List.filter_map,Z7];rfl
 rw[e] at h;exact h.symm
theorem Qj{K:W.Frag}{tt:TT}{te:TE}{σ0:St}{H1:Hp}{Q:V→Hp→Prop}{a:Addr}{xs:List V}(p:V→Bool)(f:V→V)(hS:SqL K H1 a xs)(hn:xs.length≤sizeLine)
  (hT:∀ x H,x∈xs→Same H1 H→∀ R:Bool→Hp→Prop,(∀ H',Same H H'→R (p x) H')→tt (σ0.set 0 (some x)) H R)
  (hE:∀ x H,x∈xs→p x=true→Same H1 H→∀ R:V→Hp→Prop,(∀ H',Same H H'→R (f x) H')→te (σ0.set 0 (some x)) H R)
  (hQ:∀ l H,Same H1 H→H1 l=none→H l=some (.lst ((xs.filter p).map f))→Q (.ref l) H):E5 (Qy 0) tt te σ0 (Itl K a) H1 Q:=by
 have at_:∀ i,i < xs.length→xs[i]? = some (xs.getD i .non):=fun i h=>by
  rw[Zp,Zf h];rfl
 have mem:∀ i,i < xs.length→xs.getD i .non∈xs:=fun i h=>by
  have:=at_ i h;exact Zl this
 refine Vu xs.length (fun i=>xs.getD i .non) (fun i=>p (xs.getD i .non)) (fun i=>f (xs.getD i .non)) hn (fun i H sm h=>⟨xs,_,sm.seq hS,at_ i h⟩) (fun H sm=>⟨xs,sm.seq hS,Zs _⟩)
  (fun i H x H' sm h y=>⟨y.1,?_⟩) (fun i H h sm=>hT _ H (mem i h) sm) (fun i H h hp sm=>hE _ H (mem i h) hp sm) (fun l H sm hl hL=>hQ l H sm hl ?_)
 ·have e:=y.2 xs (sm.seq hS)
  rw[at_ i h] at e;exact(Z0 e).symm
 ·rw[hL,Qi]
section
variable{X:Cx}{e st:Expr}{te:TE}{ts:TO}{pos p2:Pos}
def Zrj(K:W.Frag)(te:TE)(ts:TO):TE:=fun σ H Q=>te σ H fun x H1=>ts σ H1 fun o H2=>o=some (-1)∧∃ a xs,x = .ref a∧SqL K H2 a xs∧∀ p,H2 p=none→Q (.ref p) (upd H2 p (.lst xs.reverse))
theorem Zn6(he:PE X e te)(hst:PO X (some st) ts):PE X (.Subscript e (.Slice none none (some st) p2) pos) (Zrj X.K te ts):=by
 intro pins s σ H Q I h;refine Subscript_ (Uc (he pins s σ H _ I h) fun v s1 ⟨x,H1,I1,r1,q1⟩=>?_);refine wpAny_Slice ?_;rw[evalPart_none];refine Ze (Ze (Uc (hst pins s1 σ H1 _ I1 q1) fun vs s3 ⟨o,H3,I3,po,q3⟩=>?_));obtain⟨rfl,a,xs,rfl,hx,q⟩:=q3;cases r1;have I4:Inv X pins σ H3 { s3 with heap:=s3.heap.push { cls:=.type "slice",data:=.fields #[.none,.none,vs] } }:=I3.kept (t':=s3.toks) fun b ob q=>Zi _ q;obtain⟨its,r,ht,hz⟩:=I4.list hx;have hlen:=r.length;show wpAny (model X.prog X.w) X.A (subscriptTail e (.Slice none none (some st) p2) (.ref a) (.ref s3.heap.objs.size)) (EP X pins σ Q) X.xe { s3 with heap:=s3.heap.push { cls:=.type "slice",data:=.fields #[.none,.none,vs] } };refine tail_any (ops:=[.ref a,.ref s3.heap.objs.size]) ht.isList.typeIs slot_list_getitem.lookup ?_ (by with_unfolding_all rfl);refine wpAny_getItem_list_slice ht.isList (Heap.IsSliceOf.new ..) .none .none po (by decide) ?_ (by rw[Zw]<;>omega);rw[W.krv_pick];refine⟨.ref _,_,I4.lnew (t':=s3.toks) (ys:=xs.reverse) (its:=its.reverse) r.reverse (by rw[List.length_reverse];exact hz),rfl,q _ I4.fresh⟩
theorem Zd7{prog:Program}{w:World}{A:Around}{bs:List Bool}{its:List Value}(r:Vals (bs.map V.bl) its):TruthOf prog w A (fun i v=>its.toArray[i]? = some v) fun i=>bs.getD i true:=by
 intro i v s Q E hP hQ;have hP':its[i]? = some v:=by simpa using hP
 have hi:i < bs.length:=by
  have:=(Zx.mp hP').1;have h2:=r.length;rw[Zj] at h2;omega
 obtain⟨u,hu,ru⟩:=r.get (i:=i) (x:=.bl bs[i]) (by rw[Z4,Zf hi];rfl);rw[hP'] at hu;cases hu;cases ru;have e:bs.getD i true=bs[i]:=by rw[Zp,Zf hi];rfl
 have hQ':Q (bs.getD i true) s:=hQ;rw[e] at hQ';exact wpAny_truthy_bool hQ'
theorem Bh(hc:X.calm=true):X3 X (.builtin "all") (fun xs H Q=>∃(a:Addr) (bs:List Bool),xs=[.ref a]∧SqL X.K H a (bs.map V.bl)∧Q (.bl (bs.all id)) H):=by
 intro pins s σ H xs us Q I r h;obtain⟨a,bs,rfl,hS,q⟩:=h;obtain⟨u,rfl,ru⟩:=Qt r;cases ru;obtain⟨its,ri,pl,hz⟩:=I.list hS;have hl:s.heap.IsList a its.toArray:=Qq pl;have ha:a < s.heap.objs.size:=by obtain⟨_,e,_⟩:=hl;exact Z8 e
 have hh:X.A.in1.handled=none:=I.ok.hd hc;refine call_all_walk (wpAny_pyIter_list hl ?_);refine⟨s.heap.objs.size,[s.heap.objs.size,a],[s.heap.objs.size],its.toArray.size,(fun i v=>its.toArray[i]? = some v),(fun i h=>h.IsListIter s.heap.objs.size a i∧h.IsList a its.toArray),(fun i=>bs.getD i true),rfl,Walks.list hh s.heap.objs.size a (Jn ha) its.toArray,
  ⟨⟨_,Z6 _ rfl,rfl,rfl⟩,hl.push _⟩,Zd7 ri,fun h' tk hk=>?_⟩
 have e:(List.range its.toArray.size).all (fun i=>bs.getD i true)=bs.all id:=by
  have h2:=ri.length;rw[Zj] at h2;have h3:its.toArray.size=bs.length:=by simp [h2]
  rw[h3];have e1:(List.range bs.length).map (fun i=>bs.getD i true)=bs:=by
   apply List.ext_getElem
   ·simp
   ·intro i h1 h2
    simp;rw[Zf (by simpa using h2)];rfl
  conv=>rhs;rw[← e1]
  rw[List.all_map];rfl
 rw[e];refine⟨.bl _,H,I.kept (t':=tk) fun b o eb=>hk b o ?_ (Zi _ eb),rfl,q⟩;intro hm;have:b=s.heap.objs.size:=by simpa using hm
 rw[this] at eb;exact absurd (Z8 eb) (Nat.lt_irrefl _)
end
def Zq2(base:Heap)(e:Addr)(cls:Value)(od:Option Addr)(ctx fl:Value)(h:Heap):Prop:=
 ∃ oe vs T oT ts,(h.get? e=some oe∧(oe.cls=cls∧oe.dict=od)∧oe.data = .fields vs∧vs[1]? = some (.ref T)∧vs[2]? = some ctx)∧base.get? T=none∧T≠e∧h.get? T=some oT∧oT.data = .fields ts∧ts[3]? = some fl
structure FlyC(base:Heap)(l:List Env)(e:Addr)(cls:Value)(od:Option Addr)(ctx fl:Value)(h:Heap):Prop where
 stays:base.StaysIn h
 new:base.get? e=none
 frames:h.FunFrames base l
 rcd:Zq2 base e cls od ctx fl h
section
variable{M:Model}{A:Around}{E:Value→Shared→Prop}{s:Shared}{base:Heap}{env:Env}{outer:List Env}{L e:Addr}{cls ctx:Value}{od:Option Addr}{Q:Unit→Shared→Prop}
theorem Ma(o:Obj)(f:Array Value→Array Value):(o.mapFields f).dict=o.dict:=by
 unfold Obj.mapFields;split<;>rfl
theorem Ty{h:Heap}{a:Addr}{o:Obj}{vs:Array Value}(ho:h.get? a=some o)(hd:o.data = .fields vs){b:Addr}{u:Obj}(hb:h.get? b=some u)(hn:∀ ws,u.data ≠ .fields ws):b≠a:=by
 rintro rfl;have z:=hb.symm.trans ho;cases z;exact hn vs hd
theorem Zat{h:Heap}{a:Addr}{i:Nat}{v:Value}(hk:base.StaysIn h)(ha:base.get? a=none){l:List Env}(hl:h.FunFrames base l){o:Obj}{vs:Array Value}(ho:h.get? a=some o)(hd:o.data = .fields vs) :
  let h':=h.update a (Obj.mapFields (·.setIfInBounds i v))
  base.StaysIn h'∧h'.FunFrames base l∧h.UpToSlots h'∧(∀ b,b≠a→h'.get? b=h.get? b)∧∃ o',h'.get? a=some o'∧(o'.cls=o.cls∧o'.dict=o.dict)∧o'.data = .fields (vs.setIfInBounds i v):=by
 intro h';have oth:∀ b,b≠a→h'.get? b=h.get? b:=fun b hb=>Heap.get?_update_other _ _ (Ne.symm hb);have hd':=Obj.data_mapFields hd (·.setIfInBounds i v);refine⟨fun b u hb=>?_,hl.of_keeps fun b u hb hn=>?_,fun b u hb hn=>?_,oth,_,Heap.get?_update_self _ ho (Obj.isFreed_of_fields hd'),⟨Obj.cls_mapFields _ _,Ma _ _⟩,hd'⟩
 ·rw[oth b (fun z=>by rw[z,ha] at hb;cases hb)]
  exact hk b u hb
 ·exact⟨u,(oth b (Ty ho hd hb hn)).trans hb,rfl⟩
 ·exact⟨u.slots,(oth b (Ty ho hd hb hn)).trans hb⟩
theorem Zjv{head:Value}{hadNext:Bool}{oe:Obj}{vs:Array Value}(hfr:A.frames=some (env :: outer))(hl:s.heap.FunFrames base (env :: outer))(hf:env.frame=some L)(hk:base.StaysIn s.heap)(hn:base.get? e=none)
  (he:s.heap.get? e=some oe) (hc:oe.cls=cls∧oe.dict=od) (hd:oe.data = .fields vs) (h2:vs[2]? = some ctx)
  (h:∀ h',FlyC base (env :: outer) e cls od ctx (rawInt L) h'→s.heap.UpToSlots h'→Q () { s with heap:=h' }) :
  wpAny M A (do let a ← frameOf env;let pl ← entryPlaceOf L hadNext;let b ← EntryCells.newEntry head a .none (rawInt L) .none pl;setField (.ref e) 1 b) Q E s:=by
 have hef:e∉(env :: outer).filterMap (·.frame):=fun hm=>by
  obtain⟨_,o,ho,hnf⟩:=hl.mem hm;exact Ty he hd ho hnf rfl
 refine Zb (wpAny_frameOf_fun hfr hl hf fun g1 so=>Zb (wpAny_entryPlaceOf fun pl hpl=>?_));unfold EntryCells.newEntry;unfold newFields;refine Zb (wpAny_newObj_type ?_ (hpl.sizeOk5 _ _ _ _ _));generalize hob:({ cls:=.type "traceback",dict:=none,data:=.fields ([head,Value.ref L,.none,rawInt L,.none]++(if pl.isEmpty then List.replicate 6 Value.none else pl)).toArray }:Obj)=ob;have obd:∃ ts:Array Value,ob.data = .fields ts∧ts[3]? = some (rawInt L):=by
  rw[← hob];refine⟨_,rfl,?_⟩;simp
 have e1:g1.get? e=some oe:=(so.2.1 e hef).trans he;have k1:base.StaysIn g1:=fun b o hb=>(so.2.1 b fun hm=>by rw[(hl.mem hm).1] at hb;cases hb).trans (hk b o hb);have l1:g1.FunFrames base (env :: outer):=hl.of_keeps fun b o hb _=>by
  obtain⟨sl,q⟩:=so.2.2 b o hb;exact⟨_,q,rfl⟩
 have up1:s.heap.UpToSlots g1:=fun b o hb _=>so.2.2 b o hb;have e2:(g1.push ob).get? e=some oe:=Zi _ e1;have k2:base.StaysIn (g1.push ob):=fun b o hb=>Zi _ (k1 b o hb);have l2:(g1.push ob).FunFrames base (env :: outer):=l1.of_keeps fun b o hb _=>⟨o,Zi _ hb,rfl⟩;have up2:g1.UpToSlots (g1.push ob):=Heap.UpToSlots.of_keeps fun b o hb=>Zi _ hb;have hT:(g1.push ob).get? g1.objs.size=some ob:=Z6 _ (by obtain⟨ts,z,_⟩:=obd;exact Obj.isFreed_of_fields z);have hsz:1 < vs.size:=Nat.lt_trans (by decide) (Array.getElem?_eq_some_iff.mp h2).1;obtain⟨k3,l3,up3,oth,oe3,e3,c3,d3⟩:=Zat (i:=1) (v:=.ref g1.objs.size) k2 hn l2 e2 hd;refine wpAny_setField e2 hd hsz (h _ ⟨k3,hn,l3,oe3,vs.setIfInBounds 1 (.ref g1.objs.size),g1.objs.size,ob,?_⟩ ((up1.trans up2).trans up3));obtain⟨ts,z1,z2⟩:=obd;have hTe:g1.objs.size≠e:=Nat.ne_of_gt (Z8 e1);refine⟨ts,⟨e3,⟨c3.1.trans hc.1,c3.2.trans hc.2⟩,d3,by simp [hsz],?_⟩,k1.fresh,hTe,(oth _ hTe).trans hT,z1,z2⟩;rw[Array.getElem?_setIfInBounds_ne (by decide)];exact h2
theorem Zoq{oe:Obj}{vs:Array Value}(hfr:A.frames=some (env :: outer))(hl:s.heap.FunFrames base (env :: outer))(hf:env.frame=some L)(hk:base.StaysIn s.heap)(hn:base.get? e=none)
  (he:s.heap.get? e=some oe) (hc:oe.cls=cls∧oe.dict=od) (hd:oe.data = .fields vs) (h1:vs[1]? = some .none) (h2:vs[2]? = some ctx)
  (h:∀ h',FlyC base (env :: outer) e cls od ctx (rawInt L) h'→s.heap.UpToSlots h'→Q () { s with heap:=h' }):wpAny M A (noteFrame (.ref e) env) Q E s:=by
 unfold noteFrame;simp only[hf];refine Zb (wpAny_field he hd h1 ?_);rw[Zk (by decide)];exact Zjv hfr hl hf hk hn he hc hd h2 h
theorem Zqs(hfr:A.frames=some (env :: outer))(hf:env.frame=some L)(x:FlyC base (env :: outer) e cls od ctx .none s.heap)
  (h:∀ h',FlyC base (env :: outer) e cls od ctx (rawInt L) h'→s.heap.UpToSlots h'→Q () { s with heap:=h' }):wpAny M A (noteFrame (.ref e) env) Q E s:=by
 obtain⟨oe,vs,T,oT,ts,⟨he,hc,hd,h1,h2⟩,hT0,hTe,hT,hdT,h3⟩:=x.rcd;unfold noteFrame;simp only[hf];refine Zb (wpAny_field he hd h1 ?_);rw[Zu (by simp:(Value.ref T != Value.none)=true)];refine Zb (wpAny_field hT hdT h3 ?_);rw[Zk (by simp [rawInt]:¬ ((Value.none == rawInt L)=true))];obtain⟨k3,l3,up3,oth,_⟩:=Zat (i:=3) (v:=.none) x.stays hT0 x.frames hT hdT;refine Zb (wpAny_setField hT hdT (Array.getElem?_eq_some_iff.mp h3).1 ?_);exact Zjv hfr l3 hf k3 x.new ((oth e (Ne.symm hTe)).trans he) hc hd h2 fun h' y up=>h h' y (up3.trans up)
theorem Zm0{fl:Value}{l:List Env}(x:FlyC base l e cls od ctx fl s.heap)(h:∀ h',FlyC base l e cls od ctx .none h'→s.heap.UpToSlots h'→Q () { s with heap:=h' }):wpAny M A (setFlight (.ref e) none) Q E s:=by
 obtain⟨oe,vs,T,oT,ts,⟨he,hc,hd,h1,h2⟩,hT0,hTe,hT,hdT,h3⟩:=x.rcd;have hsz:=(Array.getElem?_eq_some_iff.mp h3).1;obtain⟨k3,l3,up3,oth,oT3,e3,c3,d3⟩:=Zat (i:=3) (v:=.none) x.stays hT0 x.frames hT hdT;unfold setFlight;refine Zb (wpAny_field he hd h1 ?_);rw[Zu (by simp:(Value.ref T != Value.none)=true)];refine wpAny_setField hT hdT hsz (h _ ⟨k3,x.new,l3,oe,vs,T,oT3,_,⟨(oth e (Ne.symm hTe)).trans he,hc,hd,h1,h2⟩,hT0,hTe,e3,d3,by simp [hsz]⟩ up3)
theorem FlyC.pop{fl:Value}{h:Heap}(x:FlyC base (env :: outer) e cls od ctx fl h):FlyC base outer e cls od ctx fl h:=⟨x.stays,x.new,x.frames.2.2,x.rcd⟩
theorem Zly{oe:Obj}{vs:Array Value}(hfr:A.frames=some (env :: outer))(hl:s.heap.FunFrames base (env :: outer))(hf:env.frame=some L)(hk:base.StaysIn s.heap)(hn:base.get? e=none)
  (he:s.heap.get? e=some oe) (hc:oe.cls=cls∧oe.dict=od) (hd:oe.data = .fields vs) (h1:vs[1]? = some .none) (h2:vs[2]? = some ctx)
  (h:∀ h',FlyC base outer e cls od ctx .none h'→s.heap.UpToSlots h'→Q () { s with heap:=h' }):wpAny M A (leaving env (.ref e)) Q E s:=by
 unfold leaving;exact Zb (Zoq hfr hl hf hk hn he hc hd h1 h2 fun g1 x1 u1=>Zm0 (s:={ s with heap:=g1 }) x1 fun g2 x2 u2=>h g2 x2.pop (u1.trans u2))
theorem Zo0(hfr:A.frames=some (env :: outer))(hf:env.frame=some L)(x:FlyC base (env :: outer) e cls od ctx .none s.heap)
  (h:∀ h',FlyC base outer e cls od ctx .none h'→s.heap.UpToSlots h'→Q () { s with heap:=h' }):wpAny M A (leaving env (.ref e)) Q E s:=by
 unfold leaving;exact Zb (Zqs hfr hf x fun g1 x1 u1=>Zm0 (s:={ s with heap:=g1 }) x1 fun g2 x2 u2=>h g2 x2.pop (u1.trans u2))
end
section
variable{P:Program}{w:World}{H:Hp}{h h'' B:Heap}{a:Addr}{o:HO}
theorem ObjOk.there(x:ObjOk P w H h a o):∃ ob,h.get? a=some ob:=by
 cases o with
 | lst xs=>obtain⟨_,_,_,_,e⟩:=x;exact⟨_,e⟩
 | tup xs=>obtain⟨_,_,_,ob,e,_⟩:=x;exact⟨ob,e⟩
 | dK kvs=>obtain⟨_,_,_,_,ob,_,_,e,_⟩:=x;exact⟨ob,e⟩
 | dT kvs=>obtain⟨_,_,_,_,ob,_,_,e,_⟩:=x;exact⟨ob,e⟩
 | set S n=>obtain⟨ob,_,_,_,e,_⟩:=x;exact⟨ob,e⟩
 | ins C dx fs=>obtain⟨_,_,_,e,_⟩:=x;exact⟨_,e⟩
 | own y=>exact x
 | xd fs=>obtain⟨_,⟨_,_,_,e,_⟩,_⟩:=x;exact⟨_,e⟩
 | rng lo hi=>obtain⟨_,_,_,e⟩:=x;exact⟨_,e⟩
 | frz ob u=>exact⟨_,x.1⟩
 | tbl ps=>exact⟨_,(show h.get? a=some _ from x)⟩
 | met f y=>exact⟨_,(show h.get? a=some _ from x)⟩
 | ext φ=>exact x.2.1
theorem HOk.stays(x:HOk P w H h)(trk:∀ b o,H b=some o→∃ ob,B.get? b=some ob)(b1:B.StaysIn h)(b2:B.StaysIn h''):HOk P w H h'':=fun a o e=>
 (x a o e).stay (fun b u hb q=>by
  have z:∃ ob,B.get? b=some ob:=hb.elim (fun z=>z ▸ trk a o e) fun z=>trk b _ z;obtain⟨ob,e1⟩:=z;have e2:=(b1 _ _ e1).symm.trans q;cases e2;exact b2 _ _ e1) (fun _ q=>q) fun _ _ q=>q
end
inductive Chn(B:Heap):Value→Prop where
 | nil:Chn B .none
 | cons {c:Addr} {o:Obj} {vs:Array Value} {ctx:Value}:B.get? c=some o→o.data = .fields vs→vs[2]? = some ctx→Chn B ctx→Chn B (.ref c)
structure Fly(l:List Env)(H:Hp)(e:Addr)(cls:Value)(od:Option Addr)(B h:Heap):Prop where
 fly:∃ ctx,FlyC B l e cls od ctx .none h∧Chn B ctx
 trk:∀ b o,H b=some o→∃ ob,B.get? b=some ob
 noe:H e=none
def S9(P:Program)(w:World):S8:=fun outer H s E e s'=>∃(ea:Addr) (cls:Value) (od:Option Addr) (H':Hp) (B:Heap),e = .ref ea∧s'.os=s.os∧AllBare s'.gens∧Un (Ak outer) [] H H' s.heap s'.heap∧HOk P w H' s'.heap ∧
 Fly outer H' ea cls od B s'.heap∧(∀ b o,s.heap.get? b=some o→b∉Ak outer→∃ ob,B.get? b=some ob)∧E cls od H'
section
variable{X:Cx}{pins:List (Addr×Obj)}{σ:St}{H:Hp}{s:Shared}{B h'':Heap}
theorem Inv.un_fly(J:Inv X pins σ H s)(hex:X.ex=[])(b1:B.StaysIn s.heap)(b2:B.StaysIn h'')(up:s.heap.UpToSlots h'')(inB:∀ b o,X.s₀.heap.get? b=some o→b∉X.fs→∃ ob,B.get? b=some ob) :
  Un X.fs [] X.H₀ H X.s₀.heap h'' where
 keep:=fun b o e n hb _=>by
  have e1:=J.base.keep b o e n hb (by rw[hex];simp);obtain⟨ob,eb⟩:=inB b o e hb;have e2:=(b1 _ _ eb).symm.trans e1;cases e2;exact b2 _ _ eb
 slot:=fun b o e n hb _=>by
  obtain⟨sl,e1⟩:=J.base.slot b o e n hb (by rw[hex];simp);obtain⟨_,o2,ho2,hd⟩:=J.funs.mem hb;rw[e1] at ho2;cases ho2;obtain⟨sl2,e2⟩:=up b _ e1 hd;exact⟨sl2,e2⟩
 free:=fun b o e n _=>J.base.free b o e n (by rw[hex];simp)
 there:=fun b o e _=>by
  by_cases hb:b∈X.fs
  ·obtain⟨_,o2,ho2,hd⟩:=J.funs.mem hb
   obtain⟨sl,e2⟩:=up b o2 ho2 hd;exact⟨_,e2⟩
  ·obtain⟨ob,eb⟩:=inB b o e hb
   exact⟨ob,b2 _ _ eb⟩
 tups:=J.base.tups
 frzs:=J.base.frzs
 tbls:=J.base.tbls
theorem Inv.notFr(J:Inv X pins σ H s){b:Addr}{o:Obj}(e:X.s₀.heap.get? b=some o)(hb:b∉X.fs):b∉Ak X.stack:=fun z=>by
 rcases Je.mp (J.stkSub b z) with q | q
 ·exact absurd (Jk (Z8 e) J.ok.above) (by rw[q];exact Nat.lt_irrefl _)
 ·exact hb q
def under(X:Cx)(s:Shared):Heap:=W.hideAll s.heap (Ak X.stack)
theorem A0{b:Addr}{o:Obj}(e:s.heap.get? b=some o)(hb:b∉Ak X.stack):(under X s).get? b=some o:=W.hideAll_get _ e hb
theorem Az:(under X s).StaysIn s.heap:=fun b o q=>W.of_hideAll _ q
theorem Inv.under_frames(J:Inv X pins σ H s):s.heap.FunFrames (under X s) X.stack:=W.funFrames_hide J.stack fun env he a ha=>List.mem_filterMap.mpr ⟨env,he,ha⟩
theorem Inv.under_trk(J:Inv X pins σ H s):∀ b o,H b=some o→∃ ob,(under X s).get? b=some ob:=fun b o e=>by
 obtain⟨ob,q⟩:=(J.hok b o e).there;exact⟨ob,A0 q fun z=>by rw[J.stkFree b z] at e;cases e⟩
end
structure MadeC(h h':Heap)(e:Addr)(cls ctx:Value):Prop where
 keeps:∀ b o,h.get? b=some o→h'.get? b=some o
 new:h.get? e=none
 rcd:∃ oe vs,h'.get? e=some oe∧(oe.cls=cls∧oe.dict=none)∧oe.data = .fields vs∧vs[1]? = some .none∧vs[2]? = some ctx
theorem MadeC.of{h h':Heap}{e:Addr}{cls:Value}{args:List Value}(x:Heap.MadeExcOf h h' e cls args):MadeC h h' e cls .none:=by
 obtain⟨t,he,_⟩:=x.there;exact⟨x.keeps,x.new,_,_,he,⟨rfl,rfl⟩,rfl,rfl,rfl⟩
structure Thr(X:Cx)(E:XK):Prop where
 new:∀(pins:List (Addr×Obj)) (σ:St) (H:Hp) (s:Shared) (h':Heap) (e C:Addr) (ctx:Value),Inv X pins σ H s→MadeC s.heap h' e (.ref C) ctx→Chn (under X s) ctx→E (.ref C) none H→X.xe (.ref e) { s with heap:=h' }
 on:Ee (S9 X.prog X.w) X E
 own:PassesOwn (model X.prog X.w) X.A X.env X.xe
 ownAt:∀ hd,PassesOwnAt (model X.prog X.w) (X.A.mark hd) X.A X.env X.xe
theorem Zkf{P:Program}{w:World}{K:W.Frag}{mg:Str→Option Value}{base:Heap}{N:List Str}{qual:Str}{scope:Scope}{f:Addr}{cd:Value}{A:Around}{outer:List Env}{s:Shared}{H:Hp}{E:XK} :
  Thr (Vs (S9 P w) P w K mg base N qual scope f cd A outer s H E) E where
 own:=PassesOwn.leaving
 ownAt:=fun _=>PassesOwnAt.leaving
 new:=by
  intro pins σ H1 s1 h' e C ctx I hx hch hE;have fr:(under (Vs (S9 P w) P w K mg base N qual scope f cd A outer s H E) s1).StaysIn s1.heap:=Az;have hn:(under (Vs (S9 P w) P w K mg base N qual scope f cd A outer s H E) s1).get? e=none:=by
   cases q:(under (Vs (S9 P w) P w K mg base N qual scope f cd A outer s H E) s1).get? e with
   | none=>rfl
   | some o=>
    have z:=fr _ _ q;rw[hx.new] at z;cases z
  obtain⟨oe,vs,he,hc,hd,h1,h2⟩:=hx.rcd;refine Zly (outer:=outer) I.ok.frames (I.under_frames.of_keeps fun b o hb _=>⟨o,hx.keeps b o hb,rfl⟩) rfl (fun b o q=>hx.keeps b o (fr b o q)) hn he hc hd h1 h2 fun h'' x1 x4=>?_;have up:s1.heap.UpToSlots h'':=(Heap.UpToSlots.of_keeps hx.keeps).trans x4;have inB:∀ b o,s.heap.get? b=some o→b∉Ak outer→∃ ob,(under (Vs (S9 P w) P w K mg base N qual scope f cd A outer s H E) s1).get? b=some ob:=fun b o eb hb=>by
   obtain⟨o',e'⟩:=I.base.there b o eb (by intro z;cases z);exact⟨o',A0 e' (I.notFr eb hb)⟩
  refine⟨e,.ref C,none,H1,_,rfl,I.os,I.bare,I.un_fly rfl fr x1.stays up inB,I.hok.stays I.under_trk fr x1.stays,⟨⟨ctx,x1,hch⟩,I.under_trk,?_⟩,inB,hE⟩;cases q:H1 e with
  | none=>rfl
  | some o=>
   obtain⟨ob,z⟩:=(I.hok e o q).there;rw[hx.new] at z;cases z
 on:=by
  intro pins σ H1 s1 e s' I hc;obtain⟨ea,cls,od,H',B,rfl,os,bare,un,hok,F,inB,hE⟩:=hc;have J:=I.call' os un hok bare fun b z=>absurd z (by simp);obtain⟨ctx,fl,hch⟩:=F.fly;refine Zo0 (outer:=outer) I.ok.frames rfl fl fun h'' x1 x2=>?_;have inB':∀ b o,s.heap.get? b=some o→b∉Ak outer→∃ ob,B.get? b=some ob:=fun b o eb hb=>by
   obtain⟨o',e'⟩:=I.base.there b o eb (by intro z;cases z);exact inB b o' e' (I.notFr eb hb)
  exact⟨ea,cls,od,H',B,rfl,J.os,J.bare,J.un_fly rfl fl.stays x1.stays x2 inB',hok.stays F.trk fl.stays x1.stays,⟨⟨ctx,x1,hch⟩,F.trk,F.noe⟩,inB',hE⟩
theorem Fun.okX{P:Program}{w:World}{K:W.Frag}{mg:Str→Option Value}{base:Heap}{x qual:Str}{st:Stmt}{f:Addr}{fd:FuncData}{N ps:List Str}{k:Nat}{sp:Sp}(F:Fun K x qual st f fd)(S:FnScope N ps (Zq st))(len:∀ vs H Q E,sp vs H Q E→vs.length=ps.length)
  (hbody:∀(cdv:Value) (A:Around) (outer:List Env) (s:Shared) (H:Hp) (vs:List V) (Q:VK) (E:XK),Room k (A.deeper (envOfC qual (Zq st) s.heap.objs.size f cdv))→sp vs H Q E →
   Thr (Vs (S9 P w) P w K mg base N qual (Zq st) f cdv A outer s H E) E →
   ∃ t,PSs (Vs (S9 P w) P w K mg base N qual (Zq st) f cdv A outer s H E) (Y2 st) t∧t { nx:=fun _ H'=>Q .non H',rt:=Q } (start N vs) H):FnOk P w K mg base (S9 P w) (k+1) f fd ps sp:=by
 obtain⟨oc,od,kV,doc,pm,an,cdv,ct,osl,rfl,lk,hcd⟩:=F.ex;exact Zjq lk hcd S len fun A outer s H vs Q E hr hsp=>hbody cdv A outer s H vs Q E hr hsp Zkf
abbrev Bi:List Value:=[.type "ValueError",.type "Exception",.type "BaseException",.type "object"]
theorem Zmd{K:W.Frag}{h:Heap}{C:Addr}{bmB:List Value}{newId:String}(X:K.In h)(q:W.excIn K C bmB newId=true) :
  ∃ bm N nm qn bs hdct sn sub ab col dd k0 k1 k2 k3 k5 mN,h.get? C=some (excClassObj nm qn C N bs bm hdct sn sub ab col dd k0 k1 k2 k3 k5 newId)∧h.Ns N mN∧mN "__init__" = none∧OwnTail h bmB bm:=by
 unfold W.excIn at q;split at q
 ·rename_i ddx cdx slx hlook
  split at q
  ·rename_i Cx bmx j0 j1 j2 j3 nx j5 hmro hslots
   simp only[beq_iff_eq,Bool.and_eq_true,Bool.not_eq_true'] at q;obtain⟨⟨⟨⟨⟨eC,eN⟩,edel⟩,etl⟩,eok⟩,eni⟩:=q;subst eC;subst eN;obtain⟨f1,f2,f3,f4,f5,f6,f7,f8,f9,f10,f11⟩:=cdx;have e1:f3=_:=hmro;have e2:f11=false:=edel;subst e1;subst e2;obtain⟨lst⟩:=slx;have e3:lst=_:=hslots;subst e3;exact⟨bmx,f4,f1,f5,f2,f6,f7,f8,f9,f10,ddx,j0,j1,j2,j3,j5,_,X _ _ hlook,.of_isNs (W.isNs_of_in X eok),W.nsMap_none_of_in X eok eni,W.tail_of_in X etl⟩
  ·cases q
 ·cases q
def Znb(C:Addr)(E:XK)(t:TA):TS:=fun _ σ H=>t σ H fun vs H1=>vs.length≤sizeLine∧E (.ref C) none H1
theorem Q8{X:Cx}{x:Str}{np cpos pos:Pos}{e:Expr}{es:List Expr}{t:TA}{C:Addr}{E:XK}(T:Thr X E)(hh:X.A.handled=none)(hg:Gl X x)(hm:X.mg x=some (.ref C))(hc:W.excIn X.K C Bi "ValueError.__new__" = true)(ha:PA X (e :: es) t)
  (hdb:(x == ("__debug__":Str))=false:=by decide) (he:starEach (e :: es) X.env=(false,eval e X.env) :: starEach es X.env:=by rfl) (hpl:(backTo cpos (starEach es X.env)).any (·.1)=false:=by rfl) :
  PS X (.Raise (some (.Call (.Name x np) (e :: es) [] cpos)) none pos) (Znb C E t):=by
 intro pins s σ H D I h;obtain⟨bm,N,nm,qn,bs,hdct,sn,sub,ab,col,dd,k0,k1,k2,k3,k5,mN,hC,hN,hni,hT⟩:=Zmd I.mod.kin hc;have hB:bm.contains (.type "BaseException")=true:=hT.hasType PySem.F.excBase_ValueError.hasBase;refine wpAny_Raise_call_subT (k5:=k5) (k3:=k3) (k2:=k2) (k1:=k1) (k0:=k0) (dd:=dd) (col:=col) (ab:=ab) (sub:=sub) (sn:=sn) (hdct:=hdct) (bs:=bs) (N:=N) (q:=qn) (nm:=nm) (bm:=bm) (C:=C) PySem.F.excBase_ValueError (mN:=mN) hB hh (by rw[he];show(false || (backTo cpos (starEach es X.env)).any (·.1))=false;rw[hpl];rfl) hni (Vp I hg hm ⟨rfl,?_⟩ hdb);have hA:=ha cpos pins s σ H _ I h;rw[he] at hA ⊢;refine Calls.evalArgs_plain (Uc hA fun us s2 q2=>?_);obtain⟨vs,H2,I2,r,hz,hE⟩:=q2;exact⟨rfl,by rw[← r.length];exact hz,I2.bk _ _ hC,hN.keeps I2.bk,hT.keeps I2.bk,fun h' e' hx=>T.new pins σ H2 s2 h' e' C .none I2 (.of hx) .nil hE⟩
def Zsl(X:Cx)(pins:List (Addr×Obj))(B:Heap):Prop:=(∀ b o,X.s₀.heap.get? b=some o→b∉X.ex→b∉X.fs→∃ ob,B.get? b=some ob)∧∀ p∈X.pn++pins,∃ ob,B.get? p.1=some ob
def XP(X:Cx)(pins:List (Addr×Obj))(σ:St)(Ex:XK)(e:Value)(s':Shared):Prop:=
 ∃(ea:Addr) (cls:Value) (od:Option Addr) (H':Hp) (B:Heap),e = .ref ea∧Inv X pins σ H' s'∧Fly X.stack H' ea cls od B s'.heap∧Zsl X pins B∧Ex cls od H'
section
variable{X:Cx}{pins:List (Addr×Obj)}{σ:St}{H:Hp}{s:Shared}{B h'':Heap}
end
section
variable{X:Cx}{k:Nat}{f:Addr}{fd:FuncData}{ps:List Str}{sp:Sp}{dvs:List V}{ds:List Value}{x:Str}{p pos:Pos}{e:Expr}{es:List Expr}{t:TA}
end
end L2
namespace L2
open PySem PySem.Spec PyProof.Rows Builtin Builtin.ObjectAttr Builtin.Getset_descriptor
section
variable{prog:Program}{w:World}{A:Around}{E:Value→Shared→Prop}{K:W.Frag}{a C:Addr}
end
end L2
namespace L2
open PySem PySem.Spec PyProof.Rows
section
variable{X:Cx}{pos:Pos}
theorem Af:MtR X "str.find" (fun x xs H Q=>∃ i j,x = .str i∧xs=[.str j]∧Q (.int (Txt.find i j)) H):=by
 intro pins s σ H x xs v us Q I rx rv h;obtain⟨i,j,rfl,rfl,q⟩:=h;obtain⟨t,rfl⟩:=rx;obtain⟨u,rfl,ru⟩:=rv.one;obtain⟨t',rfl⟩:=ru;exact SC.find ⟨.int _,H,I.tok _,⟨_,rfl⟩,q⟩
theorem Tm{P:Program}{w:World}:Ee (S9 P w) X E0:=fun _ _ _ _ _ _ _ h=>by
 obtain⟨_,_,_,_,_,_,_,_,_,_,_,_,z⟩:=h;exact z.elim
end
def vS(ys:List Str):List V:=ys.map V.str
theorem Du(ys:List Str):(vS ys).length=ys.length:=Zj _
theorem Rm:∀ l:List (Str×Tok),Vals (vS (l.map (·.1))) (strValues l)
 | []=>.nil
 | (x,t) :: r=>.cons ⟨t,rfl⟩ (Rm r)
theorem Zd3(tk:Nat)(xs:List Str):Vals (vS xs) (strsFrom tk xs):=by
 rw[strsFrom_eq];have:=Rm (numbered tk xs)
 rwa [numbered_texts] at this
theorem Bk:∀{ys:List Str} {us:List Value},Vals (vS ys) us→StrsAre us ys
 | [],_,.nil=>.nil
 | y :: r,_,.cons h t=>by
  obtain⟨tk,rfl⟩:=h;exact .cons _ _ (Bk t)
section
variable{X:Cx}
theorem Zdc:MtR X "str.join" (fun x xs H Q=>∃ sep a ys,x = .str sep∧xs=[.ref a]∧SqL X.K H a (vS ys)∧(ys.map (·.length)).sum+ys.length * sep.length≤16777216∧Q (.str (Txt.join sep ys)) H):=by
 intro pins s σ H x xs v us Q I rx rv h;obtain⟨sep,a,ys,rfl,rfl,hS,hok,q⟩:=h;obtain⟨t,rfl⟩:=rx;obtain⟨u,rfl,ru⟩:=rv.one;cases ru;obtain⟨its,r,pl,hz⟩:=I.list hS;exact join_list (Qq pl) (by simpa using Bk r) hok fun t' k=>⟨.str _,H,I.tok k,⟨_,rfl⟩,q⟩
theorem Zjb:MtR X "str.split" (fun x xs H Q=>∃ i j,x = .str i∧xs=[.str j]∧(j.length == 0)=false∧i.length≤10000∧∀ l,H l=none→Q (.ref l) (upd H l (.lst (vS (Txt.split i j))))):=by
 intro pins s σ H x xs v us Q I rx rv h;obtain⟨i,j,rfl,rfl,hj,hi,q⟩:=h;obtain⟨t,rfl⟩:=rx;obtain⟨u,rfl,ru⟩:=rv.one;obtain⟨t',rfl⟩:=ru;have sl:=sizeLine_eq;have hsz:i.length≤sizeLine:=by omega
 have same:Txt.split i j=[i]→(∀ h' tk,h'=s.heap.push { cls:=.type "list",data:=.seq ([.str i t]:List Value).toArray }→EP X pins σ Q (.ref s.heap.objs.size) { s with heap:=h',toks:=tk }):=fun e h' tk eh=>by
  subst eh;refine⟨.ref s.heap.objs.size,_,I.lnew (t':=tk) (ys:=vS (Txt.split i j)) (its:=[.str i t]) ?_ ?_,rfl,q _ I.fresh⟩
  ·rw[e]
   exact .cons ⟨t,rfl⟩ .nil
  ·rw[e]
   show 1≤sizeLine;omega
 by_cases h1:(decide (i.length < j.length) || decide (Builtin.Str.strKind i < Builtin.Str.strKind j))=true
 ·refine call_meets F.slot_str_split (typeIs_str _ _ _) F.entry_str_split (F.args_str_split_2 _ _) (meets_str_split_cannot_occur i j t t' h1) ?_
  exact same (Zu h1) _ s.toks rfl
 ·have h1':=Bool.eq_false_iff.mpr h1
  by_cases hf:(Builtin.Str.occurrences i j 0 i.length (i.length+1)).isEmpty=true
  ·refine call_meets F.slot_str_split (typeIs_str _ _ _) F.entry_str_split (F.args_str_split_2 _ _) (meets_str_split_not_found i j t t' h1' hj hf) ?_
   exact same ((Zk h1).trans (Zu hf)) _ s.toks rfl
  ·have hf':=Bool.eq_false_iff.mpr hf
   have hp:Txt.split i j=Builtin.Str.partsBetween i (Builtin.Str.occurrences i j 0 i.length (i.length+1)) j.length:=(Zk h1).trans (Zk hf);have hn:(Builtin.Str.partsBetween i (Builtin.Str.occurrences i j 0 i.length (i.length+1)) j.length).length≤sizeLine:=by
    rw[len_partsBetween];have:=StrLaws.occ_length_le i j 0 i.length (i.length+1);omega
   refine call_meets F.slot_str_split (typeIs_str _ _ _) F.entry_str_split (F.args_str_split_2 _ _) (meets_str_split_sep i j t t' h1' hj hf' hsz hn) ?_;refine⟨.ref s.heap.objs.size,_,I.lnew (ys:=vS (Txt.split i j)) (its:=strsFrom s.toks (Builtin.Str.partsBetween i (Builtin.Str.occurrences i j 0 i.length (i.length+1)) j.length)) ?_ ?_,rfl,q _ I.fresh⟩
   ·rw[hp]
    exact Zd3 _ _
   ·rw[Du,hp]
    exact hn
def Zru:V→Option Int→Option Int→Hp→VK→Prop:=fun x lo hi H Q=>∃ z,x = .str z∧z.length≤10000∧Q (.str (Txt.slice z lo hi)) H
theorem Da{v:Value}{o:Option Int}(p:IsPart v o):∃ l:Option (Int×Tok),partValue l=v∧l.map (·.1)=o:=by
 cases p with
 | none=>exact⟨none,rfl,rfl⟩
 | int i t=>exact⟨some (i,t),rfl,rfl⟩
theorem Zng:SlR X Zru:=by
 intro pins s σ H x v vl vu lo hi sl Q I rx hs pl pu h;obtain⟨z,rfl,hz,q⟩:=h;obtain⟨t,rfl⟩:=rx;obtain⟨l,rfl,el⟩:=Da pl;obtain⟨u,rfl,eu⟩:=Da pu;refine⟨"str",_,F.slot_str_getitem.lookup,typeIs_str _ _ _,?_⟩;refine wpAny_getItem_str_slice (l:=l) (u:=u) (st:=none) hs rfl (post_val_or_str ⟨?_,fun t' k=>?_⟩)
 ·have e:=Txt.slice_le z lo hi
  rw[← el,← eu] at e;have sl':=sizeLine_eq;refine Jc e ?_;omega
 ·refine⟨.str _,H,I.tok k,⟨_,rfl⟩,?_⟩
  rw[← el,← eu] at q;exact q
def Its(x:Str):It:=⟨fun i _=>i < x.cps.size,fun i H v H'=>H'=H∧∃ c,x.cps[i]? = some c∧v = .str ⟨#[c]⟩,fun i _=>x.cps.size≤i⟩
theorem Zd5{P:Program}{w:World}{K:W.Frag}{tg:Expr}(x:Str)(t:Tok)(it:Addr):Turn P w K tg (Its x) [it] it (fun i h=>h.IsStrIter it "str_ascii_iterator" x t i) where
 mem:=by simp
 obj:=fun i h st b hb=>by
  have e:b=it:=by simpa using hb
  subst e;obtain⟨o,e,c,d⟩:=st;exact⟨o,e,fun v z=>by rw[d] at z;cases z⟩
 keep:=fun i h h' st k=>by
  obtain⟨o,e,r⟩:=st;exact⟨o,k it (by simp) o e,r⟩
 item:=by
  intro X hP hw hK hc i pins s σ H E I hf st hg;subst hP hw hK;have hi:i < x.cps.size:=hg;obtain⟨f0,f1,f2,f3,f4,f5⟩:=hf it (by simp);refine wpAny_pyNext_ascii_item st (c:=x.cps[i]) (by simp [hi]) fun h' st' sb=>?_;have I1:Inv X pins σ H { s with heap:=h',toks:=s.toks+1 }:=I.turned (t':=s.toks+1) (fun b o hb e=>(sb.2 b hb).trans e) f0 f1 f3 f4 f5;obtain⟨o,e,c,d⟩:=id st';exact⟨_,rfl,Sl (s:={ s with heap:=h',toks:=s.toks+1 }) e c d (by decide) ⟨.str _,H,I1,⟨_,rfl⟩,⟨rfl,x.cps[i],by simp [hi],rfl⟩,st',fun b hb=>(hf b hb).1⟩⟩
 done:=by
  intro X hP hw hK hc i pins s σ H E I hf st hg;subst hP hw hK;have hi:x.cps.size≤i:=hg;obtain⟨f0,f1,f2,f3,f4,f5⟩:=hf it (by simp);exact wpAny_pyNext_ascii_end (I.ok.hd hc) st (by simp [hi]) fun h' eb=>⟨rfl,I.turned (t':=s.toks) (fun b o hb e=>eb b o hb e) f0 f1 f3 f4 f5⟩
 self:=fun _ _ _ _ _ st h=>wpAny_pyIter_striter_ascii st h
theorem Zd4{P:Program}{w:World}{K:W.Frag}{tg:Expr}(x:Str)(t:Tok)(it:Addr):Turn P w K tg (Its x) [it] it (fun i h=>h.IsStrIter it "str_iterator" x t i) where
 mem:=by simp
 obj:=fun i h st b hb=>by
  have e:b=it:=by simpa using hb
  subst e;obtain⟨o,e,c,d⟩:=st;exact⟨o,e,fun v z=>by rw[d] at z;cases z⟩
 keep:=fun i h h' st k=>by
  obtain⟨o,e,r⟩:=st;exact⟨o,k it (by simp) o e,r⟩
 item:=by
  intro X hP hw hK hc i pins s σ H E I hf st hg;subst hP hw hK;have hi:i < x.cps.size:=hg;obtain⟨f0,f1,f2,f3,f4,f5⟩:=hf it (by simp);refine wpAny_pyNext_wide_item st (c:=x.cps[i]) (by simp [hi]) fun h' st' sb=>?_;have I1:Inv X pins σ H { s with heap:=h',toks:=s.toks+1 }:=I.turned (t':=s.toks+1) (fun b o hb e=>(sb.2 b hb).trans e) f0 f1 f3 f4 f5;obtain⟨o,e,c,d⟩:=id st';exact⟨_,rfl,Sl (s:={ s with heap:=h',toks:=s.toks+1 }) e c d (by decide) ⟨.str _,H,I1,⟨_,rfl⟩,⟨rfl,x.cps[i],by simp [hi],rfl⟩,st',fun b hb=>(hf b hb).1⟩⟩
 done:=by
  intro X hP hw hK hc i pins s σ H E I hf st hg;subst hP hw hK;have hi:x.cps.size≤i:=hg;obtain⟨f0,f1,f2,f3,f4,f5⟩:=hf it (by simp);exact wpAny_pyNext_wide_end (I.ok.hd hc) st (by simp [hi]) fun h' eb=>⟨rfl,I.turned (t':=s.toks) (fun b o hb e=>eb b o hb e) f0 f1 f3 f4 f5⟩
 self:=fun _ _ _ _ _ st h=>wpAny_pyIter_striter_wide st h
def Zr9(tl:TE):TI:=fun σ H R=>tl σ H fun x H1=>∃ z,x = .str z∧R (Its z) H1
theorem Zn3{tg l:Expr}{tl:TE}(hl:PE X l tl):PI X tg l (Zr9 tl):=by
 intro pins s σ H R I h;refine Uc (hl pins s σ H _ I h) fun v s1 ⟨x,H1,I1,r1,q1⟩=>?_;obtain⟨z,rfl,q⟩:=q1;obtain⟨t,rfl⟩:=r1;have fp:∀ b∈[s1.heap.objs.size],R5 X pins H1 b:=fun b hb=>by
  have e:b=s1.heap.objs.size:=by simpa using hb
  subst e;exact I1.fpOk (Zs _) (I1.hok.fresh (Zs _))
 cases ha:z.cps.all (· < 128)
 ·exact wpAny_pyIter_wide ha ⟨s1.heap.objs.size,[s1.heap.objs.size],_,_,H1,rfl,I1.kept (t':=s1.toks) fun b o e=>Zi _ e,Zd4 z t _,⟨_,Z6 _ rfl,rfl,rfl⟩,fp,q⟩
 ·exact wpAny_pyIter_ascii ha ⟨s1.heap.objs.size,[s1.heap.objs.size],_,_,H1,rfl,I1.kept (t':=s1.toks) fun b o e=>Zi _ e,Zd5 z t _,⟨_,Z6 _ rfl,rfl,rfl⟩,fp,q⟩
end
section
variable{prog:Program}{w:World}
end
section
variable{X:Cx}{pins:List (Addr×Obj)}{σ:St}{H:Hp}{s:Shared}{x:Str}{np cp cp2 cpos rpos:Pos}{msg:Str}{j j2:Nat}{C e1:Addr}
end
theorem Zh8{X:Cx}(hu:X.A.units+64 < cLine):Ng X (compareOp .Eq) (fun x y H Q=>∃(a b:Addr) (xs:List V),x = .ref a∧y = .ref b∧SqL X.K H a xs∧SqL X.K H b []∧Q (.bl xs.isEmpty) H):=by
 intro pins s σ H x y v u Q I rx ry h;obtain⟨a,b,xs,rfl,rfl,hA,hB,q⟩:=h;cases xs with
 | nil=>exact Zof hu pins s σ H _ _ v u Q I rx ry ⟨a,b,[],[],rfl,rfl,hA,hB,q⟩
 | cons x0 xr=>
  cases rx;cases ry;obtain⟨ia,va,pa,_⟩:=I.list hA;obtain⟨ib,vb,pb,_⟩:=I.list hB;have l1:=va.length;have l2:=vb.length;refine PySem.SeqAt.eq_list_lengthsAt (Qq pa) (Qq pb) ?_ (by omega) ⟨.bl false,H,I,rfl,q⟩;simp only[Zw,← l1,← l2,Jo,List.length_nil];simp
section
variable{P:Program}{w:World}{A:Around}{E:Value→Shared→Prop}{s:Shared}{kd:SortKind}{a0:Array Keyed}
def Cmp(P:Program)(w:World)(A:Around)(s:Shared)(kd:SortKind)(ks:List Value):Prop:=
 ∀ x∈ks,∀ y∈ks,∀(E:Value→Shared→Prop) (Q:Bool→Shared→Prop),(∀ b,Q b s)→wpAny (model P w) A (keyLt' kd x y) Q E s
structure SB(kd:SortKind)(a0:Array Keyed)(st:SortSt):Prop where
 pm:(arrOf st).Perm a0
 kn:kindOf st=kd
 fl:failedOf st=none
 pn:pendingOf st = #[]
theorem SB.sz{st:SortSt}(h:SB kd a0 st):(arrOf st).size=a0.size:=h.pm.size_eq
theorem SB.put{st:SortSt}{xs:Array Keyed}(h:SB kd a0 st)(p:xs.Perm (arrOf st)):SB kd a0 (setArr st xs):=⟨p.trans h.pm,h.kn,h.fl,h.pn⟩
theorem SB.get{st:SortSt}{i:Nat}(h:SB kd a0 st)(hi:i < a0.size):∃ x p,(arrOf st)[i]? = some (x,p)∧x∈a0.toList.map (·.1):=by
 have hi2:i < (arrOf st).size:=h.sz ▸ hi;have m:(arrOf st)[i]∈(arrOf st).toList:=by simp
 exact⟨(arrOf st)[i].1,(arrOf st)[i].2,getElem?_pos _ i hi2,Zv.mpr ⟨_,(Array.perm_iff_toList_perm.mp h.pm).mem_iff.mp m,rfl⟩⟩
theorem T1{st:SortSt}{i j:Nat}{Q:Option Bool→SortSt→Prop}(hC:Cmp P w A s kd (a0.toList.map (·.1)))(hB:SB kd a0 st)(hi:i < a0.size)(hj:j < a0.size)(h:∀ b,Q (some b) st):wpS (model P w) A E s (ltAt' i j) Q st:=by
 obtain⟨x,p,e1,m1⟩:=hB.get hi;obtain⟨y,q,e2,m2⟩:=hB.get hj;rw[ltAt'_eq];refine wpS_bind (wpS_get (show wpS _ _ _ _ (do let x ← elem' (arrOf st) i;let y ← elem' (arrOf st) j;lt' x y) Q st from ?_));rw[elem'_eq,elem'_eq,e1,e2];refine wpS_bind (wpS_pure (wpS_bind (wpS_pure (show wpS _ _ _ _ (lt' (x,p) (y,q)) Q st from ?_))));rw[lt'_eq];refine wpS_bind (wpS_get (show wpS _ _ _ _ (do let r ← (liftM (keyLt' (kindOf st) x y).attempt:StateT SortSt Sem _);_) Q st from ?_));rw[hB.kn];exact wpS_bind (wpS_lift (wpAny_attempt (hC x m1 y m2 _ _ fun b=>⟨rfl,wpS_pure (h b)⟩)))
variable(hC:Cmp P w A s kd (a0.toList.map (·.1)))
include hC
theorem Zdx{st:SortSt}{a m:Nat}{Q:AscSt→SortSt→Prop}(hm:m≤a0.size)(h1:1≤a)(h2:a≤m)(hB:SB kd a0 st)(h:∀ n,a≤n→n≤m→Q (none,n) st):wpS (model P w) A E s (ascLoop a m) Q st:=by
 unfold ascLoop;refine wpS_forRange (I:=fun x c t=>t=st∧c=(none,x)) (fun x c t hx1 hx2 z=>?_) (fun c t z=>?_) ⟨rfl,rfl⟩
 ·obtain⟨rfl,rfl⟩:=z
  refine wpS_bind (T1 hC hB (by dsimp only;omega) (by dsimp only;omega) fun b=>?_);cases b with
  | true=>exact wpS_pure (h x hx1 (by omega))
  | false=>exact wpS_pure ⟨rfl,rfl⟩
 ·obtain⟨rfl,rfl⟩:=z
  exact h _ (by omega) (by omega)
theorem tail_any{st:SortSt}{n m:Nat}{Q:Option Nat→SortSt→Prop}(hm:m≤a0.size)(h1:1≤n)(h2:n≤m)(hB:SB kd a0 st)(h:∀ k t,SB kd a0 t→1≤k→k≤m→Q (some k) t):wpS (model P w) A E s (tail3 n m) Q st:=by
 unfold tail3;exact wpS_bind (wpS_reverse (wpS_bind (Zdx hC hm h1 h2 (hB.put (mirror_perm _ _ _ _)) fun k k1 k2=>wpS_pure (h k _ (hB.put (mirror_perm _ _ _ _)) (by omega) k2))))
theorem Zjw{st:SortSt}{n m:Nat}{Q:DescSt→SortSt→Prop}(hm:m≤a0.size)(h1:1≤n)(h2:n≤m)(hB:SB kd a0 st)(h:∀ k q t,SB kd a0 t→n≤k→k≤m→Q (none,k,q) t):wpS (model P w) A E s (descLoop n m) Q st:=by
 unfold descLoop;refine wpS_forRange (I:=fun x c t=>SB kd a0 t∧∃ q,c=(none,x,q)) (fun x c t hx1 hx2 z=>?_) (fun c t z=>?_) ⟨hB,0,rfl⟩
 ·obtain⟨hB2,q,rfl⟩:=z
  refine wpS_bind (T1 hC hB2 (by dsimp only;omega) (by dsimp only;omega) fun b=>?_);cases b with
  | true=>
   show wpS _ _ _ _ (if q > 0 then _ else _) _ _;split
   ·exact wpS_bind (wpS_reverse (wpS_pure ⟨hB2.put (mirror_perm _ _ _ _),0,rfl⟩))
   ·exact wpS_pure ⟨hB2,0,rfl⟩
  | false=>
   refine wpS_bind (T1 hC hB2 (by dsimp only;omega) (by dsimp only;omega) fun b=>?_);cases b with
   | true=>exact wpS_pure (h x q t hB2 hx1 (by omega))
   | false=>exact wpS_pure ⟨hB2,q+1,rfl⟩
 ·obtain⟨hB2,q,rfl⟩:=z
  exact h _ q t hB2 (by omega) (by omega)
theorem Ku{st:SortSt}{n m:Nat}{Q:Option Nat→SortSt→Prop}(hm:m≤a0.size)(h2:n+1≤m)(hB:SB kd a0 st)(h:∀ k t,SB kd a0 t→1≤k→k≤m→Q (some k) t):wpS (model P w) A E s (descPart n m) Q st:=by
 unfold descPart;refine wpS_bind (wpS_lift (wpAny_rule ⟨rfl,wpS_bind (Zjw hC hm (by omega) h2 hB fun k q t hB2 k1 k2=>?_)⟩));show wpS _ _ _ _ (if q > 0 then _ else _) _ _;split
 ·exact wpS_bind (wpS_reverse (tail_any hC hm (by dsimp only;omega) (by dsimp only;omega) (hB2.put (mirror_perm _ _ _ _)) h))
 ·exact tail_any hC hm (by dsimp only;omega) (by dsimp only;omega) hB2 h
theorem Zfp{st:SortSt}{m:Nat}{Q:Option Nat→SortSt→Prop}(hm:m≤a0.size)(h1:1≤m)(hB:SB kd a0 st)(h:∀ k t,SB kd a0 t→1≤k→k≤m→Q (some k) t):wpS (model P w) A E s (countRun' 0 m) Q st:=by
 rw[countRun0_eq];refine wpS_bind (Zdx hC hm (Zs 1) h1 hB fun n n1 n2=>?_);show wpS _ _ _ _ (if(n == m)=true then _ else if n > 1 then _ else _) _ _;split
 ·exact wpS_pure (h n st hB n1 n2)
 ·rename_i ne
  have ne2:n≠m:=fun z=>ne (beq_iff_eq.mpr z);split
  ·refine wpS_bind (T1 hC hB (by omega) (by dsimp only;omega) fun b=>?_)
   cases b with
   | true=>exact wpS_pure (h n st hB n1 n2)
   | false=>exact wpS_bind (wpS_reverse (Ku hC hm (by dsimp only;omega) (hB.put (mirror_perm _ _ _ _)) h))
  ·exact Ku hC hm (by dsimp only;omega) hB h
theorem Zl1{st:SortSt}{n ok:Nat}{Q:Bool→SortSt→Prop}(hn:n≤a0.size)(hB:SB kd a0 st)(h:∀ t,SB kd a0 t→Q true t):wpS (model P w) A E s (binarySort' 0 n ok) Q st:=by
 rw[binarySort'_eq];refine wpS_bind (wpS_mono (wpS_forRange (I:=fun _ c t=>c=(none,())∧SB kd a0 t) (Q:=fun c t=>c=(none,())∧SB kd a0 t) (fun k c t hk1 hk2 z=>?_) (fun c t z=>z) ⟨rfl,hB⟩) fun c t z=>?_)
 ·obtain⟨rfl,hB2⟩:=z
  refine wpS_bind (wpS_mono (wpS_forRange (I:=fun _ c u=>u=t∧∃ l r,c=(none,l,r)∧r≤k) (Q:=fun c u=>u=t∧∃ l r,c=(none,l,r)) (fun x c u hx1 hx2 y=>?_) (fun c u y=>?_) ⟨rfl,0,k,rfl,Zs k⟩) fun c u y=>?_)
  ·obtain⟨rfl,l,r,rfl,hr⟩:=y
   show wpS _ _ _ _ (if l ≥ r then _ else _) _ _;split
   ·exact wpS_pure ⟨rfl,l,r,rfl⟩
   ·refine wpS_bind (T1 hC hB2 (by omega) (by dsimp only;omega) fun b=>?_)
    cases b with
    | true=>exact wpS_pure ⟨rfl,l,(l+r) / 2,rfl,by omega⟩
    | false=>exact wpS_pure ⟨rfl,(l+r) / 2+1,r,rfl,hr⟩
  ·obtain⟨rfl,l,r,rfl,_⟩:=y
   exact⟨rfl,l,r,rfl⟩
  ·obtain⟨rfl,l,r,rfl⟩:=y
   show wpS _ _ _ _ (do moveDown' (0+k) (0+l);pure (ForInStep.yield (none,()))) _ _;rw[moveDown'_eq];exact wpS_bind (wpS_modify (wpS_pure ⟨rfl,hB2.put (bubble_perm _ _ _)⟩))
 ·obtain⟨rfl,hB2⟩:=z
  exact wpS_pure (h t hB2)
theorem Zhc{st:SortSt}{Q:Unit→SortSt→Prop}(hB:SB kd a0 st)(h2:1≤a0.size)(h64:a0.size < 64)(h:∀ t,(arrOf t).Perm a0→failedOf t=none→Q () t):wpS (model P w) A E s sortRuns' Q st:=by
 have mr:minRun' a0.size a0.size 0=a0.size:=by
  obtain⟨f,hf⟩:∃ f,a0.size=f+1:=⟨a0.size - 1,by omega⟩;rw[hf,minRun'_succ,Zu (by omega)]
 have dn:∀ t,SB kd a0 t→(arrOf (setPending t ((pendingOf t).push (0,a0.size,0)))).Perm a0∧failedOf (setPending t ((pendingOf t).push (0,a0.size,0)))=none∧pendingOf (setPending t ((pendingOf t).push (0,a0.size,0))) = #[(0,a0.size,0)]:=
  fun t hB=>⟨hB.pm,hB.fl,by show(pendingOf t).push _=_;rw[hB.pn];rfl⟩
 rw[sortRuns'_eq];refine wpS_bind (wpS_get ?_);dsimp only;simp only[hB.sz,mr];refine wpS_bind (wpS_mono (wpS_forRange (I:=fun x c t=>(x=0∧c=(none,0)∧SB kd a0 t)∨(c=(none,a0.size)∧(arrOf t).Perm a0∧failedOf t=none∧pendingOf t = #[(0,a0.size,0)]))
  (Q:=fun c t=>c=(none,a0.size)∧(arrOf t).Perm a0∧failedOf t=none∧pendingOf t = #[(0,a0.size,0)]) (fun x c t hx1 hx2 z=>?_) (fun c t z=>?_) (.inl ⟨rfl,rfl,hB⟩)) fun c t z=>?_)
 ·rcases z with⟨rfl,rfl,hB2⟩ | ⟨rfl,hD⟩
  ·dsimp only
   rw[Zk (show ¬ 0 ≥ a0.size by omega)];simp only[Nat.sub_zero,Nat.min_self,Nat.zero_add];refine wpS_bind (Zfp hC (Zs _) h2 hB2 fun k u hB3 k1 k2=>?_);dsimp only;have bk:∀ v,SB kd a0 v→(pendingOf v).back? = none:=fun v hv=>by rw[hv.pn];rfl
   by_cases lt:k < a0.size
   ·rw[Zu lt]
    refine wpS_bind (wpS_lift (wpAny_rule ⟨rfl,wpS_bind (Zl1 hC (Zs _) hB3 fun v hB4=>?_)⟩));rw[Zk (show ¬ (!true)=true by decide)];refine wpS_bind (wpS_get ?_);rw[bk v hB4];exact wpS_bind (wpS_modify (wpS_pure (.inr ⟨rfl,dn v hB4⟩)))
   ·rw[Zk lt]
    have ek:k=a0.size:=by omega
    subst ek;refine wpS_bind (wpS_get ?_);rw[bk u hB3];exact wpS_bind (wpS_modify (wpS_pure (.inr ⟨rfl,dn u hB3⟩)))
  ·dsimp only
   rw[Zu (Zs _)];exact wpS_pure ⟨rfl,hD⟩
 ·rcases z with⟨hx,_,_⟩ | hD
  ·omega
  ·exact hD
 ·obtain⟨rfl,d1,d2,d3⟩:=z
  refine wpS_bind (wpS_mono (wpS_forRange (I:=fun _ c u=>u=t∧c=(none,())) (Q:=fun c u=>u=t∧c=(none,())) (fun x c u _ _ y=>?_) (fun _ _ y=>y) ⟨rfl,rfl⟩) fun c u y=>?_)
  ·obtain⟨rfl,rfl⟩:=y
   refine wpS_bind (wpS_get ?_);rw[Zu (by rw[d3];exact Zs 1)];exact wpS_pure ⟨rfl,rfl⟩
  ·obtain⟨rfl,rfl⟩:=y
   exact wpS_pure (h _ d1 d2)
end
section
variable{P:Program}{w:World}{A:Around}{E:Value→Shared→Prop}{s:Shared}{kd:SortKind}
structure Keys(P:Program)(w:World)(A:Around)(s:Shared)(kd:SortKind)(vs:List Value):Prop where
 kind:2≤vs.length→∀(E:Value→Shared→Prop) (Q:SortKind→Shared→Prop),Q kd s→wpAny (model P w) A (keyKind' vs.toArray) Q E s
 cmp:Cmp P w A s kd vs
theorem Zeq(vs:List Value):(pairsOf vs).toList.map (·.1)=vs:=by
 rw[pairsOf_toList];exact List.map_fst_zip (Zs _)
theorem Zbf{vs:List Value}{xs:Array Keyed}(h:xs.Perm (pairsOf vs)):(xs.map (·.2)).toList.Perm vs:=by
 have z:=(Array.perm_iff_toList_perm.mp h).map (·.2);rw[pairsOf_toList,List.map_snd_zip (Zs _)] at z
 rwa [Array.toList_map]
theorem Zgs{a:Addr}{vs:List Value}{n:Nat}{R:Fin→Shared→Prop}(ho:s.heap.get? a=some (seqObj "list" vs.toArray n))(h64:vs.length < 64)
  (hK:∀ h',(∀ b o,b≠a→s.heap.get? b=some o→h'.get? b=some o)→Keys P w A { s with heap:=h' } kd vs)
  (h:∀ out:Array Value,out.toList.Perm vs→R (.done (.ret .none)) { s with heap:=sortedHeap s.heap a vs out }):wpAny (model P w) A (Builtin.«list.sort» ⟨[.ref a],[]⟩) R E s:=by
 have ha:a < s.heap.objs.size:=Z8 ho;rw[list_sort_plain];refine Zb (listItems_at ho rfl (Zb (listUpdate_at ho rfl ?_)));obtain⟨e1,ho1⟩:∃ e,(s.heap.update a (Obj.mapSeq fun _=>#[])).get? a=some (seqObj "list" #[] e):=⟨_,get?_update_seq ho fun _=>#[]⟩;refine Zb (seqEpoch_at ho1 rfl (Zb (wpAny_newTuple (Zb (wpAny_newList (wpAny_holding ?_))))));show wpAny (model P w) A _ R E { s with heap:=((s.heap.update a (Obj.mapSeq fun _=>#[])).push (seqObj "tuple" vs.toArray 0)).push (seqObj "list" #[] 0) };have ho6:(((s.heap.update a (Obj.mapSeq fun _=>#[])).push (seqObj "tuple" vs.toArray 0)).push (seqObj "list" #[] 0)).get? a=some (seqObj "list" #[] e1):=Zi _ (Zi _ ho1);have kp:=hK (((s.heap.update a (Obj.mapSeq fun _=>#[])).push (seqObj "tuple" vs.toArray 0)).push (seqObj "list" #[] 0)) fun b o hb q=>
  Zi _ (Zi _ (by rw[Heap.get?_update_other _ _ (Ne.symm hb)];exact q))
 have fin:∀ t:SortSt,(arrOf t).Perm (pairsOf vs)→R (.done (.ret .none)) { s with heap:=sortedHeap s.heap a vs ((arrOf t).map (·.2)) }:=fun t hp=>h _ (Zbf hp);have sz:vs.toArray.size=vs.length:=Zw;dsimp only;have szp:∀ t:SortSt,(arrOf t).Perm (pairsOf vs)→((arrOf t).map (·.2)).size≤sizeLine+1:=fun t hp=>by
  rw[Array.size_map,hp.size_eq,pairsOf_size,sizeLine_eq];omega
 by_cases c2:vs.toArray.size < 2
 ·rw[Zu c2,Zu c2]
  refine Zb (Ze ?_);rw[StateT.run_pure];refine Zb (Ze ?_);dsimp only;refine Zb (seqEpoch_at ho6 rfl (Zb (listUpdate_at ho6 rfl ?_ (hsz2:=szp (SortSt.mk' general' (vs.toArray.zip vs.toArray) #[] 7 none) (Array.Perm.refl _)))));rw[Zk (by simp)];exact Ze (fin (SortSt.mk' general' (vs.toArray.zip vs.toArray) #[] 7 none) (Array.Perm.refl _))
 ·rw[Zk c2,Zk c2]
  refine Zb (kp.kind (by omega) _ _ ?_);have cm:Cmp P w A { s with heap:=((s.heap.update a (Obj.mapSeq fun _=>#[])).push (seqObj "tuple" vs.toArray 0)).push (seqObj "list" #[] 0) } kd ((pairsOf vs).toList.map (·.1)):=by
   rw[Zeq];exact kp.cmp
  have run:=Zhc (E:=E) (Q:=fun _ t=>(arrOf t).Perm (pairsOf vs)∧failedOf t=none) cm (st:=SortSt.mk' kd (vs.toArray.zip vs.toArray) #[] 7 none) ⟨Array.Perm.refl _,rfl,rfl,rfl⟩ (by rw[pairsOf_size];omega) (by rw[pairsOf_size];exact h64) fun t p f=>⟨p,f⟩;refine Zb (wpAny_mono run (fun r s' z=>?_) fun _ _ e=>e);obtain⟨⟨⟩,t⟩:=r;obtain⟨rfl,hp,hf⟩:=z;dsimp only;refine Zb (seqEpoch_at ho6 rfl (Zb (listUpdate_at ho6 rfl ?_ (hsz2:=szp t hp))));rw[hf];dsimp only;rw[Zk (by simp)];exact Ze (fin t hp)
theorem Zar{l:Addr}{vs:List Value}{Q:Value→Shared→Prop}(hl:s.heap.IsList l vs.toArray)(h64:vs.length < 64)
  (hK:∀ A' h',(∀ b o,s.heap.get? b=some o→h'.get? b=some o)→Keys P w A' { s with heap:=h' } kd vs)
  (h:∀ out:Array Value,out.toList.Perm vs→Q (.ref (s.heap.objs.size+1)) { s with heap:=sortedAll s.heap vs out }):wpAny (model P w) A (call (.builtin "sorted") [.ref l]) Q E s:=by
 refine Calls.call_function_entry kind_sorted plain_sorted entry_sorted (args_sorted1 _) ?_;unfold Builtin.«sorted»;refine Zb (m:=checkCount "sorted" 1 1 _) (Ze (Zb (collect_list hl ?_ (by rw[sizeLine_eq];omega))));refine Zb (wpAny_newList ?_);have sz:((s.heap.push (seqObj "list" #[] 0)).update s.heap.objs.size (Obj.mapSeq (· ++ vs.toArray))).objs.size=s.heap.objs.size+1:=by rw[Heap.size_update,size_push']
 have hoL:(((s.heap.push (seqObj "list" #[] 0)).update s.heap.objs.size (Obj.mapSeq (· ++ vs.toArray))).push (seqObj "list" vs.toArray 0)).get? (s.heap.objs.size+1)=some (seqObj "list" vs.toArray 0):=sz ▸ Z6 _ rfl;show wpAny _ _ _ _ _ { s with heap:=((s.heap.push (seqObj "list" #[] 0)).update s.heap.objs.size (Obj.mapSeq (· ++ vs.toArray))).push (seqObj "list" vs.toArray 0) };rw[sz];refine Zb (wpAny_holding (wpAny_call_entry slot_list_sort ⟨_,hoL,rfl⟩ entry_list_sort (Zgs (kd:=kd) hoL h64 (fun h' k=>hK _ h' fun b o q=>?_) fun out p=>⟨_,rfl,Ze ⟨_,rfl,h out p⟩⟩) (args_list_sort _)));have hb:b < s.heap.objs.size:=Z8 q;refine k b o (Jn (Nat.lt_succ_of_lt hb)) (Zi _ ?_);rw[Heap.get?_update_other _ _ (Jn hb).symm];exact Zi _ q
end
theorem Zjr(v:Value):firstOfTuple' v=(do
  if(← typeOf v) != .type "tuple" then return none
  return (← Builtin.List.listItems v)[0]?):=rfl
theorem Zfd(f:Bool)(x y:Value):keyLt' (tuples' f) x y=(do
  let xs ← Builtin.List.listItems x;let ys ← Builtin.List.listItems y
  for ((p,q),i) in (xs.toList.zip ys.toList).zipIdx do
   if !(← eqBool p q) then return ← oneLt' (f && i == 0) p q
  return decide (xs.size < ys.size)):=rfl
section
variable{P:Program}{w:World}{A:Around}{E:Value→Shared→Prop}{s:Shared}
theorem Dt{M:Model}{β:Type}{f:Value→Sem β}{g:Value→β}:∀{vs:List Value} {Q:List β→Shared→Prop},(∀ x∈vs,∀(Q:β→Shared→Prop),Q (g x) s→wpAny M A (f x) Q E s)→Q (vs.map g) s→wpAny M A (vs.mapM f) Q E s
 | [],Q,_,h=>by
  rw[List.mapM_nil];exact Ze h
 | x :: r,Q,hx,h=>by
  rw[List.mapM_cons];exact Zb (hx x Zy _ (Zb (Dt (fun y hy=>hx y (Zz _ hy)) (Ze h))))
theorem Zde{f:Bool}{a b:Int}{t u:Tok}{Q:Bool→Shared→Prop}(h:∀ b,Q b s):wpAny (model P w) A (oneLt' f (.int a t) (.int b u)) Q E s:=by
 cases f with
 | true=>exact oneLt_int (h _)
 | false=>
  rw[oneLt'_eq];rw[Zk Zr];refine Zb (wpAny_richCompare_same (T:="int") (typeIs_int s a t) (typeIs_int s b u) slot_int_lt (call_int_lt ⟨nofun,?_⟩));exact wpAny_truthy_bool (h _)
def At(h:Heap)(v:Value):Prop:=∃(a:Addr) (i j:Int) (t u:Tok) (o:Obj) (n:Nat),v = .ref a∧h.get? a=some o∧o.cls = .type "tuple"∧o.data = .seq #[.int i t,.int j u] n
theorem Zfs{vs:List Value}(hp:∀ v∈vs,At s.heap v)(f:Bool):Cmp P w A s (tuples' f) vs:=by
 intro x hx y hy E Q h;obtain⟨a,i,j,t,u,o,n,rfl,ho,hc,hd⟩:=hp x hx;obtain⟨a2,i2,j2,t2,u2,o2,n2,rfl,ho2,hc2,hd2⟩:=hp y hy;rw[Zfd];refine Zb (listItems_at ho hd (Zb (listItems_at ho2 hd2 ?_)));show wpAny (model P w) A (do
  let r ← forIn [((Value.int i t,Value.int i2 t2),0),((Value.int j u,Value.int j2 u2),1)] (none,()) _
  _) Q E s
 rw[List.forIn_cons];refine Zb (Zb ?_);refine Zb (wpAny_eqBool_int ?_);by_cases c:(i == i2)=true
 ·rw[c,Zk (by decide)]
  refine Ze ?_;show wpAny (model P w) A (forIn [((Value.int j u,Value.int j2 u2),1)] ((none,()):Option Bool×Unit) _) _ E s;rw[List.forIn_cons];refine Zb (Zb (wpAny_eqBool_int ?_));by_cases d:(j == j2)=true
  ·rw[d,Zk (by decide)]
   refine Ze ?_;show wpAny (model P w) A (forIn [] ((none,()):Option Bool×Unit) _) _ E s;rw[List.forIn_nil];exact Ze (Ze (h _))
  ·rw[Bool.eq_false_iff.mpr d,Zu (by decide)]
   exact Zb (Zde fun b=>Ze (Ze (Ze (h b))))
 ·rw[Bool.eq_false_iff.mpr c,Zu (by decide)]
  exact Zb (Zde fun b=>Ze (Ze (Ze (h b))))
theorem Zbx{vs:List Value}(hp:∀ v∈vs,At s.heap v)(h2:2≤vs.length){Q:SortKind→Shared→Prop}(h:Q (tuples' true) s):wpAny (model P w) A (keyKind' vs.toArray) Q E s:=by
 rw[keyKind'_eq,List.mapM_toArray];obtain⟨g,hg⟩:∃ g:Value→Option Value,∀ v∈vs,∃(i:Int) (t:Tok),g v=some (.int i t)∧∀(Q:Option Value→Shared→Prop),Q (g v) s→wpAny (model P w) A (firstOfTuple' v) Q E s:=by
  have all:∀ v∈vs,∃ y:Option Value,∃(i:Int) (t:Tok),y=some (.int i t)∧∀(Q:Option Value→Shared→Prop),Q y s→wpAny (model P w) A (firstOfTuple' v) Q E s:=by
   intro v hv;obtain⟨a,i,j,t,u,o,n,rfl,ho,hc,hd⟩:=hp v hv;refine⟨some (.int i t),i,t,rfl,fun Q q=>?_⟩;rw[Zjr];refine Zb (wpAny_typeOf (T:="tuple") ⟨o,ho,hc⟩ ?_);rw[Zk (by decide)];exact Zb (listItems_at ho hd (Ze q))
  refine⟨fun v=>if hv:v∈vs then(all v hv).choose else none,fun v hv=>?_⟩;dsimp only;rw[dif_pos hv];exact(all v hv).choose_spec
 refine Zb ?_;rw[map_eq_pure_bind];refine Zb (Dt (g:=g) (fun x hx Q q=>(hg x hx).choose_spec.choose_spec.2 Q q) (Ze ?_));have e1:((vs.map g).toArray.all fun x=>x.isSome)=true:=by
  rw[List.all_toArray,List.all_map,J9];intro v hv;obtain⟨i,t,e,_⟩:=hg v hv;show(g v).isSome=true;rw[e];rfl
 rw[Zu e1];refine Zb (wpAny_rule (Zb ?_));rw[oneTypeOnly'_eq];have allI:∀ x∈(vs.map g).filterMap id,∃(i:Int) (t:Tok),x = .int i t:=by
  intro x hx;obtain⟨y,hy,e⟩:=List.mem_filterMap.mp hx;obtain⟨v,hv,rfl⟩:=Zv.mp hy;obtain⟨i,t,e2,_⟩:=hg v hv;have e3:g v=some x:=e;rw[e2] at e3;cases e3;exact⟨i,t,rfl⟩
 have ne:∃ x r,(vs.map g).filterMap id=x :: r:=by
  cases vs with
  | nil=>exact absurd h2 (by decide)
  | cons v r=>
   obtain⟨i,t,e2,_⟩:=hg v Zy;refine⟨.int i t,(r.map g).filterMap id,?_⟩;rw[List.map_cons,List.filterMap_cons];rw[e2];rfl
 have ea:(Array.filterMap id (vs.map g).toArray)=((vs.map g).filterMap id).toArray:=by simp
 rw[ea];generalize (vs.map g).filterMap id=zs at allI ne;obtain⟨x,r,rfl⟩:=ne;refine Zb ?_;rw[List.mapM_toArray,map_eq_pure_bind];refine Zb (Dt (g:=fun _=>Value.type "int") (fun y hy Q q=>?_) (Ze ?_))
 ·obtain⟨i,t,rfl⟩:=allI y hy
  exact wpAny_typeOf (typeIs_int s i t) q
 ·have hall:(((x :: r).map fun _=>Value.type "int").toArray.all fun y=>y == Value.type "int")=true:=by
   rw[List.all_toArray,List.all_map,J9];intro _ _;rfl
  have h0:((x :: r).map fun _=>Value.type "int").toArray[0]? = some (Value.type "int"):=rfl;rw[h0];dsimp only;rw[hall];exact Ze (Ze h)
theorem Zby{vs:List Value}(hp:∀ v∈vs,At s.heap v):Keys P w A s (tuples' true) vs:=⟨fun h2 E Q q=>Zbx hp h2 q,Zfs hp true⟩
end
theorem Ap{X:Cx}:X3 X (.builtin "sorted") (fun xs H Q=>∃(a:Addr) (ps:List Addr),xs=[.ref a]∧SqL X.K H a (ps.map V.ref)∧ps.length < 64∧(∀ p∈ps,∃ i j:Int,SqT X.K H p [.int i,.int j]) ∧
  ∀(l:Addr) (qs:List Addr),H l=none→qs.Perm ps→Q (.ref l) (upd H l (.lst (qs.map V.ref)))):=by
 intro pins s σ H xs us Q I r h;obtain⟨a,ps,rfl,hS,h64,hP,q⟩:=h;obtain⟨u,rfl,ru⟩:=Qt r;cases ru;obtain⟨its,vi,pl,hz⟩:=I.list hS;have ei:∀(ps:List Addr) (its:List Value),Vals (ps.map V.ref) its→its=ps.map Value.ref:=by
  intro ps
  induction ps with
  | nil=>intro its z;cases z;rfl
  | cons p r ih=>
   intro its z;cases z with
   | cons z1 z2=>
    have e:_=Value.ref p:=z1;rw[e,ih _ z2];rfl
 have e:=ei ps its vi;subst e;have pairs:∀ v∈ps.map Value.ref,At s.heap v:=by
  intro v hv;obtain⟨p,hp,rfl⟩:=Zv.mp hv;obtain⟨i,j,hT⟩:=hP p hp;obtain⟨its2,v2,⟨o,ho,hc,n,hd⟩,_⟩:=I.tuple hT;cases v2 with
  | cons a1 a2=>
   cases a2 with
   | cons b1 b2=>
    cases b2;obtain⟨t,rfl⟩:=a1;obtain⟨u,rfl⟩:=b1;exact⟨p,i,j,t,u,o,n,rfl,ho,hc,hd⟩
 refine Zar (kd:=tuples' true) (Qq pl) (by rw[Zj];exact h64) (fun A' h' k=>Zby fun v hv=>?_) fun out hp=>?_
 ·obtain⟨p,i,j,t,u,o,n,rfl,ho,hc,hd⟩:=pairs v hv
  exact⟨p,i,j,t,u,o,n,rfl,k _ _ ho,hc,hd⟩
 ·obtain⟨qs,eq,pq⟩:∃ qs:List Addr,out.toList=qs.map Value.ref∧qs.Perm ps:=by
   have un:∀ l:List Value,(∀ v∈l,∃ p,v=Value.ref p)→∃ qs:List Addr,l=qs.map Value.ref:=by
    intro l
    induction l with
    | nil=>intro _;exact⟨[],rfl⟩
    | cons v r ih=>
     intro hv;obtain⟨p,rfl⟩:=hv v Zy;obtain⟨qs,rfl⟩:=ih fun y hy=>hv y (Zz _ hy);exact⟨p :: qs,rfl⟩
   obtain⟨qs,e⟩:=un out.toList fun v hv=>by
    obtain⟨p,_,rfl⟩:=Zv.mp (hp.mem_iff.mp hv);exact⟨p,rfl⟩
   refine⟨qs,e,?_⟩;rw[e] at hp;have z:=hp.map fun v=>match v with | .ref p=>p | _=>0
   rw[Z7,Z7] at z;have c:((fun v=>match v with | .ref p=>p | _=>0) ∘ Value.ref:Addr→Addr)=id:=rfl
   rwa [c,List.map_id,List.map_id] at z
  obtain⟨e,he⟩:=sortedAll_at s.heap (ps.map Value.ref) out;have hf:H (s.heap.objs.size+1)=none:=I.hok.fresh (Nat.le_succ _);have vq:∀ qs:List Addr,Vals (qs.map V.ref) (qs.map Value.ref):=by
   intro qs
   induction qs with
   | nil=>exact .nil
   | cons p r ih=>exact .cons rfl ih
  refine⟨.ref (s.heap.objs.size+1),upd H (s.heap.objs.size+1) (.lst (qs.map V.ref)),I.laid (t':=s.toks) (fun b u q=>sortedAll_old q) (Nat.le_succ _) ⟨?_,qs.map Value.ref,e,vq qs,?_⟩,rfl,q _ qs hf pq⟩
  ·rw[Zj,pq.length_eq,sizeLine_eq]
   omega
  ·rw[he,← eq]
section
variable{X:Cx}
theorem S3(hc:X.calm=true):X3 X (.builtin "sum") (fun xs H Q=>∃(a:Addr) (ns:List Int),xs=[.ref a]∧SqL X.K H a (ns.map V.int)∧Q (.int ns.sum) H):=by
 intro pins s σ H xs us Q I r h;obtain⟨a,ns,rfl,hS,q⟩:=h;obtain⟨u,rfl,ru⟩:=Qt r;cases ru;obtain⟨its,vi,pl,hz⟩:=I.list hS;have hi:=Qg vi;obtain⟨xs,hx⟩:=hi.allInts.items;have hl:s.heap.IsList a (intItems xs):=hx ▸ Qq pl;refine sum_intListG (I.ok.hd hc) hl fun h' tk t' hk=>?_;have e1:ns=xs.toList.map (·.1):=by
  rw[← nums_intItems,← hx];exact hi.numsOf.symm
 have e2:preSum (numAt xs) xs.size=ns.sum:=by
  rw[e1,preSum_eq,List.take_of_length_le (by simp)]
 rw[e2];exact⟨.int ns.sum,H,I.kept hk,⟨_,rfl⟩,q⟩
end
section
open PySem.SeqAt
open PySem.AutoSeq1 (wpAny_loadPart')
open PySem.MeetsSeq PySem.MeetsSeq2 PySem.MeetsSeq3
end
section
variable{X:Cx}
end
section
variable{X:Cx}{pins:List (Addr×Obj)}{σ:St}{H:Hp}{s:Shared}
theorem Inv.turnedAll{h':Heap}{t':Nat}{fp:List Addr}(I:Inv X pins σ H s)(k:∀ b o,b∉fp→s.heap.get? b=some o→h'.get? b=some o)(hf:∀ b∈fp,R5 X pins H b):Inv X pins σ H { s with heap:=h',toks:=t' }:=by
 have nfp:∀ b u,H b=some u→b∉fp:=fun b u e z=>by rw[(hf b z).1] at e;cases e
 refine I.step (g':=s.gens) (d':=s.drawn) (ch:=fp) (fun b hb=>⟨(hf b hb).2.2.2.1,(hf b hb).2.1,(hf b hb).2.2.2.2.1,(hf b hb).2.2.2.2.2⟩) (fun b o _ _ hc e _=>k b o hc e) (fun b o _ _ hc e _=>⟨o.slots,k b o hc e⟩) (fun _ _ _ _ n=>n)
  (fun b o hc e=>⟨o,k b o hc e⟩) (fun _ _ e=>e) (fun _ _ _ e=>e) (fun b ps e=>⟨#[],by rw[e];simp⟩) (fun m hm=>?_) (fun b u e=>?_) I.bare
 ·obtain⟨o,es,ep,ho,r⟩:=hm
  exact⟨o,es,ep,k _ o (fun z=>(hf _ z).2.1 rfl) ho,r⟩
 ·refine(I.hok b u e).stay (fun c v hc q=>k c v ?_ q) (fun _ q=>q) fun _ _ q=>q
  rcases hc with z | z
  ·rw[z];exact nfp b u e
  ·exact nfp c _ z
end
section
variable{X:Cx}
theorem Dm(hc:X.calm=true):X3 X (.builtin "max") (fun xs H Q=>∃(a:Addr) (ns:List Int),xs=[.ref a]∧SqL X.K H a (ns.map V.int)∧0 < ns.length∧∀ M,M∈ns→(∀ k∈ns,k≤M)→Q (.int M) H):=by
 intro pins s σ H xs us Q I r h;obtain⟨a,ns,rfl,hS,hn,q⟩:=h;obtain⟨u,rfl,ru⟩:=Qt r;cases ru;obtain⟨its,vi,pl,hz⟩:=I.list hS;have hi:=Qg vi;obtain⟨xs,hx⟩:=hi.allInts.items;have hl:s.heap.IsList a (intItems xs):=hx ▸ Qq pl;have hns:ns=xs.toList.map (·.1):=by
  rw[← nums_intItems,← hx];exact hi.numsOf.symm
 have hsz:0 < xs.size:=by
  rw[hns,Zj,Array.length_toList] at hn;exact hn
 refine max_intList (I.ok.hd hc) hl hsz fun v h' tk hv hk=>?_;obtain⟨t,rfl⟩:=intItems_at hv;obtain⟨g1,g2⟩:=argBest_gt (numAt xs) (xs.size - 1);refine⟨.int _,H,I.kept hk,⟨_,rfl⟩,q _ ?_ fun k hk'=>?_⟩
 ·rw[hns,numAt_eq]
  exact getD_mem (by rw[Zj,Array.length_toList];omega)
 ·rw[hns] at hk'
  obtain⟨j,hj,rfl⟩:=mem_getD hk';rw[Zj,Array.length_toList] at hj;rw[← numAt_eq];exact g2 j (by omega)
theorem Sc:MtR X "list.index" (fun x xs H Q=>∃(a:Addr) (k:Int) (ns:List Int) (j:Nat),x = .ref a∧xs=[.int k]∧SqL X.K H a (ns.map V.int)∧ns.length≤1000∧ns[j]? = some k∧(∀ m < j,ns[m]?≠some k)∧Q (.int (j:Nat)) H):=by
 intro pins s σ H x xs v us Q I rx rv h;obtain⟨a,k,ns,j,rfl,rfl,hS,hl,hj,hno,q⟩:=h;cases rx;obtain⟨u,rfl,t,rfl⟩:=Qt rv;obtain⟨its,vi,pl,hz⟩:=I.list hS;have hi:=Qg vi;obtain⟨⟨cls,dd,data,sl⟩,ho,hc,n,hd⟩:=Qq pl;simp only at hc hd;subst hc hd;have len:its.length=ns.length:=hi.length;have at_:∀ m (hm:m < its.toArray.size),isInt k its.toArray[m]=decide (ns[m]? = some k):=fun m hm=>by
  have hm':m < ns.length:=by rw[← len];simpa using hm
  obtain⟨t0,e0⟩:=PyProof.Rows.IntsAre.get hi m ns[m] (Zf hm');have e1:its.toArray[m] = .int ns[m] t0:=by
   have hm2:m < its.length:=by simpa using hm
   have e2:its[m]? = some its[m]:=Zf hm2;have e3:its[m] = .int ns[m] t0:=by
    rw[e0] at e2;exact(Z0 e2).symm
   simpa using e3
  rw[e1,Zf hm'];show(_ == _)=_;by_cases c:ns[m]=k
  ·rw[c]
   simp
  ·have c2:¬ k=ns[m]:=fun z=>c z.symm
   simp [c,c2]
 have jl:j < its.toArray.size:=by
  have:=(Zx.mp hj).1;simp [len,this]
 refine call_meets PySem.F.slot_list_index ⟨_,ho,rfl⟩ PySem.F.entry_list_index (PySem.F.args_list_index_2 _ _) (PySem.SeqAt.list_indexAt a its.toArray n dd sl (.int k t) (isInt k) j jl ?_ ?_ ?_) ⟨ho,fun y hy=>(eq_isInt k t hi y (by simpa using hy)).at _ _,⟨.int (j:Nat),H,I.tok _,⟨_,rfl⟩,q⟩⟩
 ·have:ns.length≤1000:=hl
  have:=(Zx.mp hj).1;omega
 ·rw[at_ j jl,hj]
  exact Zd rfl
 ·intro m hm hmj
  rw[at_ m hm];exact Zc (hno m hmj)
end
section
open PySem.SeqAt
open PySem.AutoSeq1 (wpAny_loadPart')
open PySem.MeetsSeq PySem.MeetsSeq2 PySem.MeetsSeq3
end
section
variable{X:Cx}
def Vr:List V→List V→Bool
 | [],[]=>true
 | x :: xs,y :: ys=>Rh x y && Vr xs ys
 | _,_=>false
theorem Vq:∀(xs ys:List V),((List.range (min xs.length ys.length)).all (fun j=>Rh (xs.getD j .non) (ys.getD j .non)) && xs.length == ys.length)=Vr xs ys
 | [],[]=>rfl
 | [],_ :: _=>rfl
 | _ :: _,[]=>rfl
 | x :: xs,y :: ys=>by
  have e:min (x :: xs).length (y :: ys).length=min xs.length ys.length+1:=by simp only[Jo];omega
  rw[e,List.range_succ_eq_map,List.all_cons,List.all_map];show _=(Rh x y && Vr xs ys);rw[← Vq xs ys,Bool.and_assoc];have e2:((x :: xs).length == (y :: ys).length)=(xs.length == ys.length):=by simp
  rw[e2];rfl
theorem Xu{xs:List V}{us:List Value}(r:Vals xs us)(f:xs.all U9=true){j:Nat}(h:j < us.toArray.size):RelV (xs.getD j .non) us.toArray[j]∧U9 (xs.getD j .non)=true:=by
 have hj:j < us.length:=by simpa using h
 have hx:j < xs.length:=by rw[r.length];exact hj
 obtain⟨u,e,ru⟩:=r.get (Zf hx);rw[Zf hj] at e;have g:xs.getD j .non=xs[j]:=by rw[Zp,Zf hx];rfl
 rw[g];have eu:us[j]=u:=Z0 e;refine⟨?_,J9.mp f _ (Yl hx)⟩;show RelV xs[j] us.toArray[j];rw[List.getElem_toArray,eu];exact ru
def Zqj(K:W.Frag)(tup neg:Bool):R2:=fun x y H Q=>∃(a b:Addr) (xs ys:List V),x = .ref a∧y = .ref b∧(if tup then SqT K H a xs∧SqT K H b ys else SqL K H a xs∧SqL K H b ys)∧xs.all U9=true∧ys.all U9=true∧Q (.bl (if neg then !Vr xs ys else Vr xs ys)) H
theorem Zk5(hu:X.A.units+64 < cLine):Ng X (compareOp .NotEq) (Zqj X.K true true):=by
 intro pins s σ H x y v u Q I rx ry h;obtain⟨a,b,xs,ys,rfl,rfl,⟨ha,hb⟩,fx,fy,q⟩:=h;cases rx;cases ry;obtain⟨its,r1,p1,_⟩:=I.tuple ha;obtain⟨its2,r2,p2,_⟩:=I.tuple hb;refine SeqAt.RcNeAt.tuples (e:=fun j=>Rh (xs.getD j .non) (ys.getD j .non)) p1 p2 (by omega) (fun j h1 h2=>Ri (Xu r1 fx h1).1 (Xu r2 fy h2).1 (Xu r1 fx h1).2 (Xu r2 fy h2).2) _ _ _ _ ⟨.bl _,H,I,rfl,?_⟩;have z:=Vq xs ys;rw[r1.length,r2.length] at z;rw[Zw,Zw,z];exact q
theorem Sv:∀{xs ys:List V},xs.length≠ys.length→Vr xs ys=false
 | [],[],h=>absurd rfl h
 | [],_ :: _,_=>rfl
 | _ :: _,[],_=>rfl
 | x :: xs,y :: ys,h=>by
  show(Rh x y && Vr xs ys)=false;rw[Sv (xs:=xs) (ys:=ys) (fun z=>h (by simp [z])),Bool.and_false]
theorem Zk6(hu:X.A.units+64 < cLine):Ng X (compareOp .NotEq) (Zqj X.K false true):=by
 intro pins s σ H x y v u Q I rx ry h;obtain⟨a,b,xs,ys,rfl,rfl,⟨ha,hb⟩,fx,fy,q⟩:=h;cases rx;cases ry;obtain⟨its,r1,p1,_⟩:=I.list ha;obtain⟨its2,r2,p2,_⟩:=I.list hb;by_cases e:xs.length=ys.length
 ·refine SeqAt.RcNeAt.lists (e:=fun j=>Rh (xs.getD j .non) (ys.getD j .non)) p1.isList p2.isList (by simp [← r1.length,← r2.length,e]) (by omega) (fun j h1 h2=>Ri (Xu r1 fx h1).1 (Xu r2 fy h2).1 (Xu r1 fx h1).2 (Xu r2 fy h2).2) _ _ _ _ ⟨.bl _,H,I,rfl,?_⟩
  have z:=Vq xs ys;rw[e,Nat.min_self,Y7,Bool.and_true,← e,r1.length] at z;rw[Zw,z];exact q
 ·refine SeqAt.RcNeAt.lists_lengths p1.isList p2.isList (by simp [← r1.length,← r2.length,e]) (by omega) _ _ _ _ ⟨.bl true,H,I,rfl,?_⟩
  have q':Q (.bl (!Vr xs ys)) H:=q;rw[Sv e] at q';exact q'
end
theorem Same.seqT{K:W.Frag}{H H':Hp}{a:Addr}{xs:List V}(e:Same H H')(h:SqT K H a xs):SqT K H' a xs:=by
 rcases h with(h | ⟨o,h⟩) | h
 ·exact .inl (.inl (e _ _ h))
 ·exact .inl (.inr ⟨o,e _ _ h⟩)
 ·exact .inr h
structure Mk0(K:W.Frag)(C:Addr):Prop where
 makes:W.makesIn K C=true
 init:W.findIn K (.ref C) "__init__" = some (some (.builtin "object.__init__"))
 kp:W.keepIn K (.ref C)=true
def Zne(C:Addr):TE:=fun σ H Q=>∀ x dx,H x=none→H dx=none→dx≠x→Q (.ref x) (upd (upd H dx (.own x)) x (.ins C dx []))
section
variable{X:Cx}{CX:S8}{k:Nat}{C:Addr}{E:XK}{x m:Str}{p pos apos:Pos}{e o:Expr}{es:List Expr}{ta:TE}{t:TA}
theorem Zek{pins:List (Addr×Obj)}{σ:St}{H:Hp}{s:Shared}{Q:VK}(M:Mk0 X.K C)(I:Inv X pins σ H s)
  (h:∀ x dx,H x=none→H dx=none→dx≠x→Q (.ref x) (upd (upd H dx (.own x)) x (.ins C dx []))) :
  wpAny (model X.prog X.w) X.A (call (.ref C) []) (EP X pins σ Q) X.xe s:=by
 have hq:=h (s.heap.objs.size+1) s.heap.objs.size (I.hok.fresh (Nat.le_succ _)) (I.hok.fresh (Zs _)) (Jn (Xh _));have I2:=Inv.made (C:=C) I;have Y:=W.makes_of (M:=model X.prog X.w) I.kIn M.makes;refine wpAny_call (Zfb I.kIn M.makes M.init (fun self=>W.Looks.of_pure (W.oi_bind self)) ?_);obtain⟨hh,g,d,tk,os⟩:=s;have hx:((hh.push W.emptyDict).push (W.instObj C hh.objs.size)).get? (hh.objs.size+1)=some (W.instObj C hh.objs.size):=by heap_get
 have t1:W.Looks (model X.prog X.w) ((hh.push W.emptyDict).push (W.instObj C hh.objs.size)) (typeOf (.ref (hh.objs.size+1))) (.ref C):=(W.Looks.ld hx).andThen .now;have t2:W.Looks (model X.prog X.w) ((hh.push W.emptyDict).push (W.instObj C hh.objs.size)) (isInstance (.ref (hh.objs.size+1)) (.type "object")) true:=t1.andThen (Y.top.keeps fun b o e=>Zi _ (Zi _ e));refine codeAny_call_builtin W.oi_plain W.entry_oi (@W.check_slot (model X.prog X.w) _ _ _ "object.__init__" "object" "__init__" (.ref (hh.objs.size+1)) [] [] _ W.oi_kind W.oi_split t2 (W.oi_args (.ref (hh.objs.size+1))) ?_);rw[W.oi_run];exact Ze (And.intro rfl ⟨.ref (hh.objs.size+1),_,I2,rfl,hq⟩)
theorem Vg(M:Mk0 X.K C)(hg:Gl X x)(hm:X.mg x=some (.ref C))(hdb:(x == ("__debug__":Str))=false:=by decide):PE X (.Call (.Name x p) [] [] pos) (Zne C):=by
 intro pins s σ H Q I h;refine wpAny_Call_Name_kw (Vp I hg hm ?_ hdb);exact W.callWith_K0 I.kIn M.kp (Zek M I h)
structure MethF(P:Program)(w:World)(K:W.Frag)(mg:Str→Option Value)(base:Heap)(CX:S8)(k:Nat)(ι:Type)(m:Str)(ps:List Str)(sp:ι→Sp)(cs:ι→Addr)(f:ι→Addr)(fd:ι→FuncData):Prop where
 c:∀ i,Cls K (cs i)
 hm:∀ i,Meth K (cs i) m (f i)
 F:∀ i,FnOk P w K mg base CX k (f i) (fd i) ps (sp i)
 hb:∀ i,Binds K (fd i) ps []
def Zgk{ι:Type}(m:Str)(sp:ι→Sp)(cs:ι→Addr)(E:XK)(ta:TE)(t:TA):TE:=fun σ H Q=>ta σ H fun x H1=>∃ i a dx fs,x = .ref a∧H1 a=some (.ins (cs i) dx fs)∧fs.lookup m=none∧t σ H1 fun vs H2=>sp i (x :: vs) H2 Q E
theorem Zhu{ι:Type}{ps:List Str}{sp:ι→Sp}{cs f:ι→Addr}{fd:ι→FuncData}{pl:Sem Bool}(he:PE X o ta)(M:MethF X.prog X.w X.K X.mg X.base CX k ι m ps sp cs f fd)(hr:Room k X.A)(hx:Ee CX X E)(ha:PA X (e :: es) t)
  (hst:starEach (e :: es) X.env=(false,eval e X.env) :: starEach es X.env:=by rfl) (hpl:(backTo pos (starEach es X.env)).any (·.1)=false:=by rfl)
  (ht:eval (.Call (.Attribute o m apos) (e :: es) [] pos) X.env=(do
   let ov ← eval o X.env
   standAt apos.atName
   let (f,first) ← holding [ov] (getMethod ov m pl)
   callWith pos f first (backTo pos (starEach (e :: es) X.env)) (backToKw pos (keywordEach [] X.env))):=by rfl) :
  PE X (.Call (.Attribute o m apos) (e :: es) [] pos) (Zgk m sp cs E ta t):=by
 intro pins s σ H Q I h;refine W.methodCall_KW (pl:=pl) (Uc (he pins s σ H _ I h) fun u s1 ⟨x,H1,I1,rx,i,a,dx,fs,ex,ea,l,q⟩=>?_) ht;subst ex;obtain rfl:u=Value.ref a:=rx;refine Nd I1 ea (M.c i) (M.hm i) l ?_;refine W.callWith_K (first:=[.ref a]) (h₀:=X.base) I.ok.mod.kin (M.hm i).kp (Uc (ha pos pins s1 σ H1 _ I1 q) fun us s2 ⟨vs,H2,I2,r,q2⟩=>⟨I2.kIn,?_⟩) hst hpl;exact Te (us:=.ref a :: us) (vs:=.ref a :: vs) (dvs:=[]) (M.F i) hr (M.hb i) .nil hx I2 (.cons rfl r) (by rw[J8];exact q2)
theorem Mw{ι:Type}{ps:List Str}{sp:ι→Sp}{cs f:ι→Addr}{fd:ι→FuncData}{pl:Sem Bool}(he:PE X o ta)(M:MethF X.prog X.w X.K X.mg X.base CX k ι m ps sp cs f fd)(hr:Room k X.A)(hx:Ee CX X E)
  (ht:eval (.Call (.Attribute o m apos) [] [] pos) X.env=(do
   let ov ← eval o X.env
   standAt apos.atName
   let (f,first) ← holding [ov] (getMethod ov m pl)
   callWith pos f first (backTo pos (starEach [] X.env)) (backToKw pos (keywordEach [] X.env))):=by rfl) :
  PE X (.Call (.Attribute o m apos) [] [] pos) (Zgk m sp cs E ta Znc):=by
 intro pins s σ H Q I h;refine W.methodCall_KW (pl:=pl) (Uc (he pins s σ H _ I h) fun u s1 ⟨x,H1,I1,rx,i,a,dx,fs,ex,ea,l,q⟩=>?_) ht;subst ex;obtain rfl:u=Value.ref a:=rx;refine Nd I1 ea (M.c i) (M.hm i) l ?_;exact W.callWith_K0 (first:=[.ref a]) I1.kIn (M.hm i).kp (Te (us:=[.ref a]) (vs:=[.ref a]) (dvs:=[]) (M.F i) hr (M.hb i) .nil hx I1 (.cons rfl .nil) q)
end
end L2
namespace My
open PySem L2
theorem Zpd{c:Bool}{t u:TS}{D:Ends}{σ:St}{H:Hp}(Pv:St→Hp→Prop)(h1:c=true→∀ D':Ends,D'.rt=D.rt→(∀ σ H,Pv σ H→D'.nx σ H)→t D' σ H)
  (h2:c=false→∀ D':Ends,D'.rt=D.rt→(∀ σ H,Pv σ H→D'.nx σ H)→u D' σ H) (h3:∀ σ H,Pv σ H→D.nx σ H):if c=true then t D σ H else u D σ H:=by
 cases c with
 | true=>exact Ym (h1 rfl D rfl h3)
 | false=>exact Yb (h2 rfl D rfl h3)
theorem Ko{α:Type}(xs:List α)(m:Int)(hm:m=(xs.length:Int))(h0:0 < xs.length)(z:Int):∃ v,v∈xs∧X6 xs (z % m)=some v:=by
 subst hm;have a0:0≤z % (xs.length:Int):=Yn _ (by omega);have a1:z % (xs.length:Int) < xs.length:=Yh _ (by omega);obtain⟨k,hk⟩:=Int.eq_ofNat_of_zero_le a0;rw[hk] at a1 ⊢;have hk':k < xs.length:=by omega
 exact⟨xs[k],Yl hk',Xv (Zf hk')⟩
theorem A9(i j:Str):(i++j).length=i.length+j.length:=by
 show(i.cps++j.cps).size=_;rw[Array.size_append];rfl
theorem Ue{i j:Str}{a b:Nat}(h1:i.length≤a)(h2:j.length≤b):(i++j).length≤a+b:=by rw[A9];omega
theorem Eb{i j:Str}{a b:Nat}(h1:i.length≤a)(h2:j.length≤b)(h:a+b≤1000):i.length+j.length≤sizeLine:=by rw[sizeLine_eq];omega
theorem J2(n:Nat)(h:n≤1000):n≤sizeLine:=by rw[sizeLine_eq];omega
theorem Zmi{α:Type}{p:α→Prop}:∀ x∈([]:List α),p x:=fun _ h=>nomatch h
theorem all_cons{α:Type}{p:α→Prop}{a:α}{l:List α}(h:p a)(r:∀ x∈l,p x):∀ x∈a :: l,p x:=fun x hx=>by
 rcases Je.mp hx with e | e
 ·rw[e];exact h
 ·exact r x e
theorem Zl0{ns:List Int}{k:Int}(h:0 < ns.length):∃ v:Int,X6 (ns.map V.int) (k % (((ns.map V.int).length:Nat):Int))=some (.int v):=by
 obtain⟨v,hv,e⟩:=Ko (ns.map V.int) _ rfl (by rw[Zj];exact h) k;obtain⟨n,_,rfl⟩:=Zv.mp hv;exact⟨n,e⟩
section
variable{P:Program}{w:World}{K:W.Frag}{mg:Str→Option Value}{base:Heap}
structure Lib(P:Program)(w:World)(K:W.Frag)(mg:Str→Option Value)(base:Heap)(k:Nat)(x:Str)(ps:List Str)(sp:Sp)(f:Addr)(fd:FuncData):Prop where
 ok:FnOk P w K mg base Yr k f fd ps sp
 bd:Binds K fd ps []
 kp:W.keepIn K (.ref f)=true
 mg:mg x=some (.ref f)
structure LibX(P:Program)(w:World)(K:W.Frag)(mg:Str→Option Value)(base:Heap)(k:Nat)(x:Str)(ps:List Str)(sp:Sp)(f:Addr)(fd:FuncData):Prop where
 ok:FnOk P w K mg base (S9 P w) k f fd ps sp
 bd:Binds K fd ps []
 kp:W.keepIn K (.ref f)=true
 mg:mg x=some (.ref f)
end
def p4{α:Type}(a b c d:α):Fin 4→α:=fun i=>match i with | 0=>a | 1=>b | 2=>c | 3=>d
def wd:Fin 4→Str:=p4 "free" "follow" "cut" "beat"
def wds:List Str:=["free","follow","cut","beat"]
theorem Zps(i:Fin 4):wds[i.val]? = some (wd i):=match i with | 0=>rfl | 1=>rfl | 2=>rfl | 3=>rfl
theorem Zf5{t:Str}(h:t∈wds):∃ i,t=wd i:=by
 rcases Je.mp h with h | h
 ·exact⟨0,h⟩
 rcases Je.mp h with h | h
 ·exact⟨1,h⟩
 rcases Je.mp h with h | h
 ·exact⟨2,h⟩
 rcases Je.mp h with h | h
 ·exact⟨3,h⟩
 ·exact nomatch h
theorem Zjd(i:Fin 4):wd i∈wds:=Zl (Zps i)
theorem Zf7:∀ i j:Fin 4,wd i=wd j→i=j:=by decide +kernel
theorem Zf6:∀ i:Fin 4,3≤(wd i).length∧(wd i).length≤6:=by decide +kernel
section
variable{P:Program}{w:World}{K:W.Frag}{mg:Str→Option Value}{base:Heap}{f g:Addr}{fd gd:FuncData}
def Gp(i:Fin 4):Sp:=fun vs H Q _=>∃ a,vs=[.ref a]∧Q (.str (wd i)) H
abbrev Zj6(P:Program)(w:World)(K:W.Frag)(mg:Str→Option Value)(base:Heap)(k:Nat)(cs f:Fin 4→Addr)(fd:Fin 4→FuncData):Prop:=MethF P w K mg base Yr k (Fin 4) "word" ["self"] Gp cs f fd
def Zap(cs:Fin 4→Addr)(CN:Addr):Sp:=fun vs H Q E=>∃ t:Str,vs=[.str t]∧(∀ i,t=wd i→∀ x dx H',Same H H'→H x=none→H' x=some (.ins (cs i) dx [])→Q (.ref x) H')∧(t∉wds→∀ H',Same H H'→E (.ref CN) none H')
structure DutyC(K:W.Frag)(mg:Str→Option Value)(cs:Fin 4→Addr)(CN:Addr):Prop where
 mF:mg "Free" = some (.ref (cs 0))
 mL:mg "Follow" = some (.ref (cs 1))
 mC:mg "Cut" = some (.ref (cs 2))
 mB:mg "Beat" = some (.ref (cs 3))
 mak:∀ i,Mk0 K (cs i)
 mN:mg "NoTable" = some (.ref CN)
 hN:W.excIn K CN Bi "ValueError.__new__" = true
theorem Uz{H:Hp}{x dx:Addr}{o:HO}(hx:H x=none)(hd:H dx=none)(n:dx≠x):Same H (upd (upd H dx (.own x)) x o):=fun b u q=>by
 rw[Jh (J4 q hx),Jh (J4 q hd)];exact q
theorem Gk{st:Stmt}{qual wx:Str}{k:Nat}{sp:Sp}(F:Fun K "word" qual st f fd)(sc:FnScope ["self"] ["self"] (Zq st)){p1 p2:Pos}{j:Nat}(hb:Y2 st=[.Return (some (.Constant (.str wx) j p1)) p2])(hs:∀ vs H Q E,sp vs H Q E→∃ a,vs=[V.ref a]∧Q (.str wx) H):FnOk P w K mg base Yr (k+1) f fd ["self"] sp:=by
 refine F.ok sc (fun vs H Q E h=>?_) (fun cdv A outer s H vs Q E hr h=>?_)
 ·obtain⟨a,rfl,_⟩:=hs vs H Q E h
  rfl
 obtain⟨a,rfl,q⟩:=hs vs H Q E h;rw[hb];exact⟨_,Zm (Z9 Ub),q⟩
end
abbrev sLet:Str:="abcd"
abbrev sFig:Str:="12345678"
theorem Zmc(c:Nat):c∈sFig.cps.toList↔49≤c∧c≤56:=by
 have e:sFig.cps.toList=[49,50,51,52,53,54,55,56]:=by decide +kernel
 rw[e];simp only[Je,Uh,or_false];omega
theorem Ss(c:Nat):Txt.find sFig ⟨#[c]⟩=if 49≤c∧c≤56 then((c - 49:Nat):Int) else -1:=by
 by_cases h:49≤c∧c≤56
 ·rw[Zu h]
  have h4:c=49∨c=50∨c=51∨c=52∨c=53∨c=54∨c=55∨c=56:=by omega
  rcases h4 with rfl | rfl | rfl | rfl | rfl | rfl | rfl | rfl<;>decide +kernel
 ·rw[Zk h]
  have e:=PyProof.Rows.empty_one sFig c;rw[Zc (fun z=>h ((Zmc c).mp z))] at e;unfold Txt.find;cases q:Builtin.Str.occurrences sFig ⟨#[c]⟩ 0 sFig.length 1 with
  | nil=>rfl
  | cons a b=>rw[q] at e;cases e
end My
namespace L2
open PySem PySem.Spec PyProof.Rows
section
variable{prog:Program}{w:World}{A:Around}{E:Value→Shared→Prop}{s:Shared}
theorem IsList.ext{h h':Heap}{l:Addr}{items:Array Value}(x:h.IsList l items)(e:∀ o,h.get? l=some o→h'.get? l=some o):h'.IsList l items:=let ⟨o,ho,r⟩:=x;⟨o,e _ ho,r⟩
theorem Dg{it t:Addr}{items:Array Value}(hne:t≠it):∀(n i:Nat) (s:Shared) (Q:List Value→Shared→Prop),s.heap.IsListIter it t i→s.heap.IsList t items→i+n≤items.size →
  (∀ h',h'.IsListIter it t (i+n)→Heap.SameBut it s.heap h'→Q ((items.toList.drop i).take n) { s with heap:=h' })→wpAny (model prog w) A (draw (.ref it) n) Q E s
 | 0,i,s,Q,hit,_,_,hQ=>by
  show wpAny _ _ (pure []) Q E s;exact Ze (by simpa using hQ s.heap hit (Heap.SameBut.refl ..))
 | n+1,i,s,Q,hit,ht,hle,hQ=>by
  have hlt:i < items.size:=by omega
  show wpAny _ _ (pyNext (.ref it) >>= _) Q E s;refine Zb (wpAny_pyNext_list_item hit ht (x:=items[i]) (by simp [hlt]) fun h₁ hit₁ hs₁=>?_);refine Zb (wpAny_holding (Dg hne n (i+1) _ _ hit₁ (IsList.ext ht fun o e=>hs₁.extBut t o hne e) (by omega) fun h₂ hit₂ hs₂=>Ze ?_));have hd:items.toList.drop i=items[i] :: items.toList.drop (i+1):=by simp [List.drop_eq_getElem_cons,hlt]
  have:=hQ h₂ (by rw[show i+(n+1)=i+1+n by omega];exact hit₂) (hs₁.trans hs₂);rw[hd,List.take_succ_cons] at this;exact this
theorem Vz{t:Addr}{items:Array Value}{Q:List Value→Shared→Prop}(hh:A.handled=none)(ht:s.heap.IsList t items)
  (hQ:∀ h',Heap.ExtBut s.heap.objs.size s.heap h'→Q items.toList { s with heap:=h' }):wpAny (model prog w) A (unpackItems (.ref t) items.size none) Q E s:=by
 have hlt:t≠s.heap.objs.size:=by obtain⟨o,ho,_⟩:=ht;exact Jn (Z8 ho)
 unfold unpackItems;refine Zb ?_
 ·unfold notIterableAtAll
  refine Zb (wpAny_specialOf ht.typeIs slot_list_iter.lookup ?_);refine Ze ?_;simp only[Bool.false_eq_true,if_false];refine Zb (wpAny_holding (wpAny_pyIter_list ht ?_));refine Zb (wpAny_holding (Dg hlt items.size 0 _ _ ⟨_,Z6 _ rfl,rfl,rfl⟩ (IsList.ext ht fun o e=>Zi _ e) (by omega) fun h₁ hit₁ hs₁=>?_));have hall:List.take items.size (List.drop 0 items.toList)=items.toList:=by
   rw[List.drop_zero];exact List.take_of_length_le (by simp)
  rw[hall];rw[Zk (by simp)];have ht₁:h₁.IsList t items:=IsList.ext ht fun o e=>hs₁.extBut t o hlt (Zi _ e);refine Zb (wpAny_holding (wpAny_pyNext_list_end hh hit₁ ht₁ (by simp) fun h₂ he₂=>?_));simp only[Option.isSome_none,Bool.false_eq_true,if_false];refine Ze (hQ h₂ fun b o hb e=>he₂ b o hb (hs₁.extBut b o hb (Zi _ e)))
theorem Vw{env:Env}{elts:List Expr}{x1}{pos:Pos}{t:Addr}{items:Array Value}{Q:Unit→Shared→Prop}(hh:A.handled=none)(ht:s.heap.IsList t items)
  (hn:(assignEach elts env).length=items.size) (hstar:(assignEach elts env).findIdx? (·.1)=none)
  (h:∀ h',Heap.ExtBut s.heap.objs.size s.heap h'→wpAny (model prog w) A (assignInOrder ((assignEach elts env).map (·.2)) items.toList) Q E { s with heap:=h' }) :
  wpAny (model prog w) A (assign (.Tuple elts x1 pos) env (.ref t)) Q E s:=by
 rw[assign_Tuple];refine Zb (wpAny_standAt ?_);unfold unpack;rw[hn,hstar];exact Zb (wpAny_holding (Vz hh ht h))
end
section
variable{X:Cx}{e st:Expr}{te:TE}{lo:Option Expr}{tl ts:TO}{pos p2:Pos}
def Zsb(K:W.Frag)(n:Nat)(t:TGs):TG:=fun v σ H Q=>∃ a xs,v = .ref a∧SqL K H a xs∧xs.length=n∧t xs σ H Q
theorem Zn4{es:List Expr}{k:Nat}{t:TGs}{n:Nat}(hc:X.calm=true)(h:PGs X es t)
  (hn:(assignEach es X.env).length=n:=by rfl) (hst:(assignEach es X.env).findIdx? (·.1)=none:=by rfl):PG X (.Tuple es k pos) (Zsb X.K n t):=by
 intro pins s σ H v u Q I r hw;obtain⟨a,xs,e1,hq,hl,hw⟩:=hw;subst e1;cases r;obtain⟨its,rv,ht,hz⟩:=I.list hq;refine Vw (I.ok.hd hc) ht.isList (by simp [hn,← hl,rv.length]) hst fun h' hx=>?_;have I1:Inv X pins σ H { s with heap:=h' }:=I.kept (t':=s.toks) fun b o e=>hx b o (Jn (Z8 e)) e;exact h pins _ σ H xs _ Q I1 (by simpa using rv) hw
def Zpv(K:W.Frag)(te:TE)(tl ts:TO):TE:=fun σ H Q=>te σ H fun x H1=>tl σ H1 fun o H2=>ts σ H2 fun o2 H3=>o2=some 2∧∃ a x0 x1 x2 x3 x4 x5 x6 x7 x8 x9,x = .ref a∧SqL K H3 a [x0,x1,x2,x3,x4,x5,x6,x7,x8,x9] ∧
 ((o=some 0∧∀ p,H3 p=none→Q (.ref p) (upd H3 p (.lst [x0,x2,x4,x6,x8])))∨(o=some 1∧∀ p,H3 p=none→Q (.ref p) (upd H3 p (.lst [x1,x3,x5,x7,x9]))))
theorem Zc1{ys zs:List Value}{n:Nat}{lo hi st:Option Int}{ix:List Nat}(hn:ys.length=n)(h:sliceRange (sliceBounds lo hi st n).1 (sliceBounds lo hi st n).2.1 (sliceBounds lo hi st n).2.2=ix)(hz:ix.filterMap (ys[·]?)=zs):slicePick ys.toArray lo hi st=zs.toArray:=by
 unfold slicePick;rw[Zw,hn,h,← hz]
 congr 2
 funext i
 simp
theorem ten{xs:List Value}(h:xs.length=10):∃ a b c d e f g i j k,xs=[a,b,c,d,e,f,g,i,j,k]:=match xs,h with | [a,b,c,d,e,f,g,i,j,k],_=>⟨a,b,c,d,e,f,g,i,j,k,rfl⟩
theorem Zc5(he:PE X e te)(hl:PO X lo tl)(hst:PO X (some st) ts):PE X (.Subscript e (.Slice lo none (some st) p2) pos) (Zpv X.K te tl ts):=by
 intro pins s σ H Q I h;refine Subscript_ (Uc (he pins s σ H _ I h) fun v s1 ⟨x,H1,I1,r1,q1⟩=>?_);refine wpAny_Slice (Uc (hl pins s1 σ H1 _ I1 q1) fun vl s2 ⟨l,H2,I2,pl,q2⟩=>?_);rw[evalPart_none];refine Ze (Uc (hst pins s2 σ H2 _ I2 q2) fun vs s3 ⟨o,H3,I3,po,q3⟩=>?_);obtain⟨rfl,a,x0,x1,x2,x3,x4,x5,x6,x7,x8,x9,rfl,hx,q⟩:=q3;cases r1;have I4:Inv X pins σ H3 { s3 with heap:=s3.heap.push { cls:=.type "slice",data:=.fields #[vl,.none,vs] } }:=I3.kept (t':=s3.toks) fun b ob q=>Zi _ q;obtain⟨its,r,ht,hz⟩:=I4.list hx;have hlen:=r.length;obtain⟨y0,y1,y2,y3,y4,y5,y6,y7,y8,y9,rfl⟩:=ten hlen.symm;cases r with | cons r0 r=>cases r with | cons r1 r=>cases r with | cons r2 r=>cases r with | cons r3 r=>cases r with | cons r4 r=>cases r with | cons r5 r=>cases r with | cons r6 r=>cases r with | cons r7 r=>cases r with | cons r8 r=>cases r with | cons r9 r=>
 show wpAny (model X.prog X.w) X.A (subscriptTail e (.Slice lo none (some st) p2) (.ref a) (.ref s3.heap.objs.size)) (EP X pins σ Q) X.xe { s3 with heap:=s3.heap.push { cls:=.type "slice",data:=.fields #[vl,.none,vs] } };refine PyProof.Rows.tail_any (ops:=[.ref a,.ref s3.heap.objs.size]) ht.isList.typeIs slot_list_getitem.lookup ?_ (by with_unfolding_all rfl);refine wpAny_getItem_list_slice ht.isList (Heap.IsSliceOf.new ..) pl .none po (by decide) ?_ (by rw[Zw]<;>exact Uf (Q3 (show 10≤1000 by decide)));rcases q with⟨rfl,q⟩ | ⟨rfl,q⟩
 ·have ep:slicePick [y0,y1,y2,y3,y4,y5,y6,y7,y8,y9].toArray (some 0) none (some 2)=[y0,y2,y4,y6,y8].toArray:=Zc1 (n:=10) (ix:=[0,2,4,6,8]) rfl (by decide +kernel) rfl
  rw[ep];exact⟨.ref _,_,I4.lnew (t':=s3.toks) (ys:=[x0,x2,x4,x6,x8]) (its:=[y0,y2,y4,y6,y8]) (.cons r0 (.cons r2 (.cons r4 (.cons r6 (.cons r8 .nil))))) (Uf (Q3 (show 5≤1000 by decide))),rfl,q _ I4.fresh⟩
 ·have ep:slicePick [y0,y1,y2,y3,y4,y5,y6,y7,y8,y9].toArray (some 1) none (some 2)=[y1,y3,y5,y7,y9].toArray:=Zc1 (n:=10) (ix:=[1,3,5,7,9]) rfl (by decide +kernel) rfl
  rw[ep];exact⟨.ref _,_,I4.lnew (t':=s3.toks) (ys:=[x1,x3,x5,x7,x9]) (its:=[y1,y3,y5,y7,y9]) (.cons r1 (.cons r3 (.cons r5 (.cons r7 (.cons r9 .nil))))) (Uf (Q3 (show 5≤1000 by decide))),rfl,q _ I4.fresh⟩
theorem Aq:X3 X (.type "int") (fun xs H Q=>∃ x n,xs=[.str x]∧PySem.intText? x=some n∧x.length≤640∧Q (.int n) H):=by
 intro pins s σ H xs us Q I r h;obtain⟨x,n,rfl,hn,hl,q⟩:=h;obtain⟨u,rfl,t,rfl⟩:=Qt r;exact W.KIN.call_text hn hl ⟨.int n,H,I.tok _,⟨_,rfl⟩,q⟩
def N1(t:Str):List Str:=t.cps.toList.map fun c=>⟨#[c]⟩
theorem Rl(t:Str):(N1 t).length=t.length:=by unfold N1;rw[Zj];rfl
theorem Gn{t:Str}{acc:Array Value}(h:ItemsOf (SignAt t) acc t.cps.size):Vals (vS (N1 t)) acc.toList:=by
 obtain⟨hs,hi⟩:=h;have key:∀(cs:List Nat) (us:List Value),us.length=cs.length→(∀(j:Nat) v,us[j]? = some v→∃ c u,cs[j]? = some c∧v = .str ⟨#[c]⟩ u)→Vals ((cs.map fun c=>(⟨#[c]⟩:Str)).map V.str) us:=by
  intro cs
  induction cs with
  | nil=>
   intro us hl _;have e:us=[]:=List.eq_nil_of_length_eq_zero hl;subst e;exact .nil
  | cons c cs ih=>
   intro us hl hu;cases us with
   | nil=>cases hl
   | cons u us=>
    obtain⟨c',t',hc,hv⟩:=hu 0 u rfl;have e:c=c':=Z0 hc;subst e;exact .cons ⟨_,hv⟩ (ih us (Nat.succ.inj hl) fun j v hj=>hu (j+1) v hj)
 refine key t.cps.toList acc.toList (by simpa using hs) fun j v hj=>?_;obtain⟨c,u,h1,h2⟩:=hi j v (by simpa using hj);exact⟨c,u,by simpa using h1,h2⟩
theorem Me(hc:X.calm=true):X3 X (.type "list") (fun xs H Q=>∃ t,xs=[.str t]∧t.length≤1000∧∀ l,H l=none→Q (.ref l) (upd H l (.lst (vS (N1 t))))):=by
 intro pins s σ H xs us Q I r h;obtain⟨x,rfl,hl,q⟩:=h;obtain⟨u,rfl,t,rfl⟩:=Qt r;have hz:x.length≤sizeLine:=Uf (Q3 hl);refine call_list_str (I.ok.hd hc) x t (fun h' tk acc' c' kp e hi=>?_) hz;have hv:=Gn hi;exact⟨.ref s.heap.objs.size,_,I.laid (t':=tk) kp (Zs _) (show ObjOk X.prog X.w _ h' _ (.lst (vS (N1 x))) from⟨by rw[Du,Rl];exact hz,acc'.toList,c',hv,by simpa using e⟩),rfl,q _ (I.hok.fresh (Zs _))⟩
theorem Mq:∀{us:List Value} {ss:List Str},StrsAre us ss→Vals (vS ss) us
 | _,_,.nil=>.nil
 | _,_,.cons x t h=>.cons ⟨t,rfl⟩ (Mq h)
theorem R0(hc:X.calm=true):X3 X (.builtin "sorted") (fun xs H Q=>∃ t,xs=[.str t]∧t.length < 64∧∀ l ss,H l=none→ss.Perm (N1 t)→sortedS ss=true→Q (.ref l) (upd H l (.lst (vS ss)))):=by
 intro pins s σ H xs us Q I r h;obtain⟨x,rfl,hl,q⟩:=h;obtain⟨u,rfl,t,rfl⟩:=Qt r;have hz:x.length≤sizeLine:=Uf (Q3 (by omega));refine Calls.call_function_entry kind_sorted plain_sorted entry_sorted (args_sorted1 _) ?_;unfold Builtin.«sorted»;refine Zb (m:=checkCount "sorted" 1 1 _) (Ze ?_);refine Zb (wpAny_collect_str (A:=X.A.in1) (show X.A.in1.handled=none from I.ok.hd hc) x t (fun s1 acc kp hg hd ho hi=>?_) hz);have hv:=Gn hi;have hS:StrsAre acc.toList (N1 x):=Bk hv;have hlen:acc.toList.length < 64:=by rw[← hv.length,Du,Rl];exact hl
 obtain⟨hp1,g1,d1,t1,o1⟩:=s1;simp only at hg hd ho kp;subst hg hd ho;have I1:Inv X pins σ H { s with heap:=hp1,toks:=t1 }:=I.kept (t':=t1) kp;refine Zb (wpAny_newList ?_);have hoL:(hp1.push (seqObj "list" acc.toList.toArray 0)).get? hp1.objs.size=some (seqObj "list" acc.toList.toArray 0):=Z6 _ rfl;refine Zb (wpAny_holding (wpAny_call_entry slot_list_sort ⟨_,hoL,rfl⟩ entry_list_sort (list_sort_treeK (κ:=strKind) strKind_oneLt hoL hS.keysOf (fun v₁ v₂ Nm e=>keyKind_strs (by rw[← e];exact hS)) hlen fun st' hp hs=>⟨_,rfl,Ze ⟨_,rfl,?_⟩⟩) (args_list_sort _)));obtain⟨ss',h1,h2,h3⟩:=sorted_out_str hS hp hs;obtain⟨ep,he⟩:=sortedHeap_at (out:=(arrOf st').map (·.2)) hoL;have hl2:ss'.length=x.length:=by rw[h2.length_eq,Rl]
 refine⟨.ref hp1.objs.size,_,I1.laid (t':=t1) (a:=hp1.objs.size) (o:=.lst (vS ss')) (h':=sortedHeap (hp1.push (seqObj "list" acc.toList.toArray 0)) hp1.objs.size acc.toList ((arrOf st').map (·.2))) (fun b u e=>?_) (Zs _) ?_,rfl,q _ ss' (I1.hok.fresh (Zs _)) h2 h3⟩
 ·have hb:=Z8 e
  rw[sortedHeap_old (Jn hb) (by rw[size_push'];exact Nat.lt_succ_of_lt hb)];exact Zi _ e
 ·refine⟨by rw[Du,hl2];exact hz,((arrOf st').map (·.2)).toList,ep,Mq h1,?_⟩
  rw[Array.toArray_toList];exact he
end
def Zqh:V→List V→Hp→VK→Prop:=fun x xs H Q=>∃ i j,x = .str i∧xs=[.str j]∧Q (.int (Txt.find i j)) H
theorem Zhv{X:Cx}{K:W.Frag}{o e:Expr}{to:TE}{t:TA}{apos cpos:Pos}(hK:X.K=K)(ho:PE X o to)(ha:PA X [e] t)
  (hbase:attributeBase o "find" X.env (eval o X.env)=eval o X.env:=by rfl)
  (hfew:((backTo cpos (starEach [e] X.env)).all (fun x=>!x.1) && (backToKw cpos (keywordEach [] X.env)).all (fun x=>x.1.isSome) && decide ([e].length+([]:List Keyword).length+(if([]:List Keyword).isEmpty then 0 else 1) < 30))=true:=by rfl)
  (hline:(apos.endLine == cpos.line)=true:=by rfl) (hs:starEach [e] X.env=[(false,eval e X.env)]:=by rfl):PE X (.Call (.Attribute o "find" apos) [e] [] cpos) (tBM K "str" Zqh to t):=by
 subst hK;exact Ej PySem.F.plainAttrs_str PySem.F.slot_str_find PySem.F.type_str_find Af ho ha hbase hfew hline hs rfl
structure FunD(K:W.Frag)(x qual:Str)(st:Stmt)(f:Addr)(fd:FuncData):Prop where
 ex:∃(oc:Value) (od:Option Addr) (dV kV doc pm:Value) (an:Option Addr) (cdv ct:Value) (osl:Array (Option Value)),
  fd=W.fnOf x qual (Ul st) (Y2 st) (Zq st) dV kV doc pm an cdv ct∧K.lookup f=some ⟨oc,od,.func fd,osl⟩∧W.codeIn K cdv qual=true
 kp:W.keepIn K (.ref f)=true
theorem FunD.ok{P:Program}{w:World}{K:W.Frag}{mg:Str→Option Value}{base:Heap}{x qual:Str}{st:Stmt}{f:Addr}{fd:FuncData}{N ps:List Str}{k:Nat}{sp:Sp}(F:FunD K x qual st f fd)(S:FnScope N ps (Zq st))(len:∀ vs H Q E,sp vs H Q E→vs.length=ps.length)
  (hbody:∀(cdv:Value) (A:Around) (outer:List Env) (s:Shared) (H:Hp) (vs:List V) (Q:VK) (E:XK),Room k (A.deeper (envOfC qual (Zq st) s.heap.objs.size f cdv))→sp vs H Q E →
   ∃ t,PSs (Vs Yr P w K mg base N qual (Zq st) f cdv A outer s H E).nox (Y2 st) t∧t { nx:=fun _ H'=>Q .non H',rt:=Q } (start N vs) H):FnOk P w K mg base Yr (k+1) f fd ps sp:=by
 obtain⟨oc,od,dV,kV,doc,pm,an,cdv,ct,osl,rfl,lk,hcd⟩:=F.ex;refine Zjq lk hcd S len fun A outer s H vs Q E hr hsp=>?_;obtain⟨t,h,q⟩:=hbody cdv A outer s H vs Q E hr hsp;exact⟨t,h.nox,q⟩
theorem Zma{K:W.Frag}{x qual:Str}{st:Stmt}{f:Addr}{oc:Value}{od an:Option Addr}{osl:Array (Option Value)}{dV kV doc pm cdv ct:Value}(l:K.lookup f=some ⟨oc,od,.func (W.fnOf x qual (Ul st) (Y2 st) (Zq st) dV kV doc pm an cdv ct),osl⟩)
  (c:W.codeIn K cdv qual=true) (k:W.keepIn K (.ref f)=true):FunD K x qual st f (W.fnOf x qual (Ul st) (Y2 st) (Zq st) dV kV doc pm an cdv ct):=⟨⟨oc,od,dV,kV,doc,pm,an,cdv,ct,osl,rfl,l,c⟩,k⟩
end L2
namespace My
open PySem L2 PySem.Spec PyProof.Rows
def T5:List (List Nat)→List Nat
 | []=>[]
 | [x]=>x
 | x :: y :: r=>x++32 :: T5 (y :: r)
theorem Zj2:∀(x y a b:List Nat),32∉x→32∉y→x++32 :: a=y++32 :: b→x=y∧a=b
 | [],[],a,b,_,_,h=>by
  injection h with _ h
  exact⟨rfl,h⟩
 | [],c :: y,a,b,_,hy,h=>by
  injection h with h _
  exact absurd (h ▸ Zy) hy
 | c :: x,[],a,b,hx,_,h=>by
  injection h with h _
  exact absurd (h ▸ Zy) hx
 | c :: x,d :: y,a,b,hx,hy,h=>by
  injection h with h1 h2
  obtain⟨e1,e2⟩:=Zj2 x y a b (fun z=>hx (Zz _ z)) (fun z=>hy (Zz _ z)) h2;exact⟨by rw[h1,e1],e2⟩
theorem M8:∀ xs ys:List (List Nat),xs≠[]→ys≠[]→(∀ x∈xs,32∉x)→(∀ y∈ys,32∉y)→T5 xs=T5 ys→xs=ys
 | [],_,h,_,_,_,_=>absurd rfl h
 | _,[],_,h,_,_,_=>absurd rfl h
 | [x],[y],_,_,_,_,h=>by
  have e:x=y:=h;rw[e]
 | [x],y :: y2 :: r,_,_,hx,_,h=>by
  have e:x=y++32 :: T5 (y2 :: r):=h;refine absurd ?_ (hx x Zy);rw[e];exact List.mem_append_right _ Zy
 | x :: x2 :: r,[y],_,_,_,hy,h=>by
  have e:x++32 :: T5 (x2 :: r)=y:=h;refine absurd ?_ (hy y Zy);rw[← e];exact List.mem_append_right _ Zy
 | x :: x2 :: r,y :: y2 :: r2,_,_,hx,hy,h=>by
  obtain⟨e1,e2⟩:=Zj2 x y _ _ (hx x Zy) (hy y Zy) h;have e3:=M8 (x2 :: r) (y2 :: r2) (List.cons_ne_nil _ _) (List.cons_ne_nil _ _) (fun z hz=>hx z (Zz _ hz)) (fun z hz=>hy z (Zz _ hz)) e2;rw[e1,e3]
abbrev blank:Str:=" "
theorem Dn:blank=⟨#[32]⟩:=by decide +kernel
theorem Nw:∀ ws:List Str,(Txt.join blank ws).cps.toList=T5 (ws.map fun w=>w.cps.toList):=by
 intro ws;unfold Txt.join;rw[StrLaws.glued_eq_join]
 induction ws with
 | nil=>rfl
 | cons x r ih=>
  cases r with
  | nil=>rfl
  | cons y r=>
   show(x++blank++Str.join blank (y :: r)).cps.toList=x.cps.toList++32 :: T5 ((y :: r).map fun w=>w.cps.toList);rw[← ih,Dn];show((x.cps ++ #[32])++(Str.join ⟨#[32]⟩ (y :: r)).cps).toList=_;rw[Array.toList_append,Array.toList_append,Y5];rfl
theorem D1{a b:Str}(h:a.cps.toList=b.cps.toList):a=b:=by
 obtain⟨⟨a⟩⟩:=a;obtain⟨⟨b⟩⟩:=b;cases h;rfl
theorem Zgn(x:Str):Txt.split x blank≠[]:=by
 unfold Txt.split;split
 ·exact List.cons_ne_nil _ _
 ·split
  ·exact List.cons_ne_nil _ _
  ·intro z
   have l:=PyProof.Rows.len_partsBetween x (Builtin.Str.occurrences x blank 0 x.length (x.length+1)) blank.length;rw[z] at l;cases l
theorem Zah(ws:List Str)(h:ws≠[])(hf:∀ w∈ws,32∉w.cps.toList):Txt.split (Txt.join blank ws) blank=ws:=by
 have e1:Txt.join blank (Txt.split (Txt.join blank ws) blank)=Txt.join blank ws:=by
  have z:=StrLaws.join_split (Txt.join blank ws) blank;rw[← StrLaws.glued_eq_join] at z;exact z
 have e2:=congrArg (fun s:Str=>s.cps.toList) e1;rw[Nw,Nw] at e2;have e3:=M8 _ _ (fun z=>Zgn _ (List.map_eq_nil_iff.mp z)) (fun z=>h (List.map_eq_nil_iff.mp z)) (fun x hx=>?_) (fun y hy=>?_) e2
 ·have inj:∀ a b:List Str,(a.map fun w=>w.cps.toList)=(b.map fun w=>w.cps.toList)→a=b:=by
   intro a
   induction a with
   | nil=>intro b hb;cases b with
    | nil=>rfl
    | cons y r=>cases hb
   | cons x r ih=>intro b hb;cases b with
    | nil=>cases hb
    | cons y r2=>
     injection hb with h1 h2
     rw[D1 h1,ih r2 h2]
  exact inj _ _ e3
 ·obtain⟨w,hw,rfl⟩:=Zv.mp hx
  rw[Dn] at hw;exact StrLaws.split_free _ 32 w hw
 ·obtain⟨w,hw,rfl⟩:=Zv.mp hy
  exact hf w hw
theorem Zjj(sep:Str)(ws:List Str):(Txt.join sep ws).length≤(ws.map (·.length)).sum+ws.length * sep.length:=by
 unfold Txt.join;rw[StrLaws.glued_eq_join];exact StrLaws.join_length_le sep ws
theorem Zf0:blank.length=1:=by decide +kernel
def vN(ys:List Nat):List V:=ys.map fun c=>V.int (c:Nat)
theorem J1(ys:List Nat):(vN ys).length=ys.length:=Zj _
theorem Dv(ys:List Nat):vN ys=(ys.map fun c=>((c:Nat):Int)).map V.int:=by unfold vN;rw[Z7];rfl
theorem By:∀(ys:List Str),(vS ys).all U9=true
 | []=>rfl
 | _ :: ys=>by
  show(true && (vS ys).all U9)=true;rw[By ys];rfl
def Ef(i:Nat):Str:=⟨#[49+i]⟩
def U1(l:List Nat):Str:=⟨(l.map (49 + ·)).toArray⟩
theorem Ec(l:List Nat):(U1 l).length=l.length:=by
 show((l.map (49 + ·)).toArray).size=_;rw[Zw,Zj]
theorem Zft(l:List Nat):N1 (U1 l)=l.map Ef:=by
 unfold N1 U1;rw[show(⟨(l.map (49 + ·)).toArray⟩:Str).cps.toList=l.map (49 + ·) from rfl,Z7];rfl
theorem Rn:∀{xs ys:List Nat},xs.Perm ys→xs.Pairwise (·≤·)→ys.Pairwise (·≤·)→xs=ys
 | [],ys,p,_,_=>p.nil_eq
 | x :: xs,[],p,_,_=>by have:=p.length_eq;cases this
 | x :: xs,y :: ys,p,hx,hy=>by
  obtain⟨hx1,hx2⟩:=List.pairwise_cons.mp hx;obtain⟨hy1,hy2⟩:=List.pairwise_cons.mp hy;have e:x=y:=by
   have a:x∈y :: ys:=p.subset (Zy ..);have b:y∈x :: xs:=p.symm.subset (Zy ..);rcases Je.mp a with a | a
   ·exact a
   ·rcases Je.mp b with b | b
    ·exact b.symm
    ·have:=hx1 y b
     have:=hy1 x a;omega
  subst e;rw[Rn p.cons_inv hx2 hy2]
theorem Znh{a b:Nat}(h:ltCps (Ef b).cps.toList (Ef a).cps.toList=false):a≤b:=by
 rw[PyProof.Rows.ltCps_eq] at h;have h2:¬ ([49+b]:List Nat) < [49+a]:=of_decide_eq_false h;rcases Nat.lt_or_ge b a with z | z
 ·exact absurd (List.cons_lt_cons_iff.mpr (.inl (by omega))) h2
 ·exact z
theorem Mu:∀{a:Nat} {l:List Nat},risingS (Ef a) (l.map Ef)=true→(a :: l).Pairwise (·≤·)
 | a,[],_=>List.pairwise_singleton ..
 | a,b :: l,h=>by
  have h':(!ltCps (Ef b).cps.toList (Ef a).cps.toList && risingS (Ef b) (l.map Ef))=true:=h;rw[Bool.and_eq_true] at h';have ab:a≤b:=Znh (by simpa using h'.1);have r:=Mu (a:=b) (l:=l) h'.2;refine List.pairwise_cons.mpr ⟨fun c hc=>?_,r⟩;rcases Je.mp hc with e | hc
  ·omega
  ·have:=(List.pairwise_cons.mp r).1 c hc
   omega
theorem Zec:∀{l:List Nat},sortedS (l.map Ef)=true→l.Pairwise (·≤·)
 | [],_=>.nil
 | a :: l,h=>Mu (show risingS (Ef a) (l.map Ef)=true from h)
theorem K8:∀{ss:List Str} {l:List Nat},ss.Perm (l.map Ef)→∃ ks:List Nat,ss=ks.map Ef∧ks.Perm l:=by
 intro ss l p;have inj:∀ a b,Ef a=Ef b→a=b:=fun a b e=>by
  unfold Ef at e;injection e with e
  have e1:[49+a]=[49+b]:=congrArg Array.toList e;injection e1 with e1
  omega
 refine⟨ss.map (fun s=>s.cps.toList.headD 0 - 49),?_,?_⟩
 ·rw[Z7]
  have:∀ s∈ss,(Ef ∘ fun s:Str=>s.cps.toList.headD 0 - 49) s=s:=fun s hs=>by
   obtain⟨i,_,rfl⟩:=Zv.mp (p.subset hs);show Ef ((49+i) - 49)=Ef i
   congr 1
   omega
  exact((Jv this).trans (List.map_id' ss)).symm
 ·have q:=p.map (fun s:Str=>s.cps.toList.headD 0 - 49)
  rw[Z7] at q;have:l.map ((fun s:Str=>s.cps.toList.headD 0 - 49) ∘ Ef)=l:=by
   have:∀ i∈l,((fun s:Str=>s.cps.toList.headD 0 - 49) ∘ Ef) i=i:=fun i _=>by
    show(49+i) - 49=i;omega
   exact(Jv this).trans (List.map_id' _)
  rw[this] at q;exact q
theorem O3(h:Nat):(List.range h).Pairwise (·≤·):=(List.pairwise_lt_range).imp fun h=>Uf h
theorem O7{ss:List Str}{l:List Nat}{h:Nat}(hl:l.Perm (List.range h))(p:ss.Perm (N1 (U1 l)))(s:sortedS ss=true):ss=(List.range h).map Ef:=by
 rw[Zft] at p;obtain⟨ks,rfl,pk⟩:=K8 p;rw[Rn (pk.trans hl) (Zec s) (O3 h)]
theorem Zfm:∀ h≤8,N1 (Txt.slice sFig none (some ((h:Nat):Int)))=(List.range h).map Ef:=by decide +kernel
theorem Zjs:∀ i < 8,Txt.find sFig (Ef i)=((i:Nat):Int):=by decide +kernel
theorem T9:∀(ys:List Str),Vr (vS ys) (vS ys)=true
 | []=>rfl
 | y :: ys=>by
  show((y == y) && Vr (vS ys) (vS ys))=true;rw[T9 ys,Y7];rfl
theorem Tk{α:Type}:∀(l:List α) (i:Nat) (x:α),l[i]? = some x→l.Perm (x :: l.eraseIdx i)
 | [],i,x,h=>by simp at h
 | y :: l,0,x,h=>by
  have e:y=x:=Z0 h;subst e;exact List.Perm.refl _
 | y :: l,i+1,x,h=>by
  have r:=Tk l i x h;exact(r.cons y).trans (List.Perm.swap ..)
structure Fx where
 s:Nat
 h:Nat
 n:Nat
 d:_root_.Fin 4
 pl:List Nat
 tr:List Nat
structure Fx.Ok(f:Fx):Prop where
 s1:1≤f.s
 s4:f.s≤4
 h1:1≤f.h
 h8:f.h≤8
 n34:f.n=3∨f.n=4
 pp:f.pl.Perm (List.range f.h)
 pt:f.tr.Perm (List.range f.h)
def Eg(f:Fx):Str:=⟨#[48+f.s,120,48+f.h]⟩
def Q7(f:Fx):Str:=⟨#[48+f.n]⟩
def Dy(f:Fx):List Str:=["pack",Eg f,"seats",Q7 f,"duty",wd f.d,"plain",U1 f.pl,"trump",U1 f.tr]
def Go(f:Fx):Str:=Txt.join blank (Dy f)
theorem Zc4{l:List Nat}{h:Nat}(p:l.Perm (List.range h)):∀ i∈l,i < h:=fun i hi=>Ya.mp (p.subset hi)
theorem Uo{l:List Nat}{h:Nat}(p:l.Perm (List.range h)):l.length=h:=by rw[p.length_eq,J7]
theorem Su(l:List Nat):32∉(U1 l).cps.toList:=by
 rw[show(U1 l).cps.toList=l.map (49 + ·) from rfl];intro z;obtain⟨i,_,e⟩:=Zv.mp z;omega
theorem Zkb:∀ i:_root_.Fin 4,32∉(wd i).cps.toList:=by decide +kernel
theorem Zeb(f:Fx):Txt.split (Go f) blank=Dy f:=by
 refine Zah (Dy f) (by unfold Dy;exact List.cons_ne_nil _ _) ?_;refine all_cons (by decide +kernel) (all_cons ?_ (all_cons (by decide +kernel) (all_cons ?_ (all_cons (by decide +kernel) (all_cons (Zkb _) (all_cons (by decide +kernel) (all_cons (Su _) (all_cons (by decide +kernel) (all_cons (Su _) Zmi)))))))))
 ·show 32∉[48+f.s,120,48+f.h]
  simp;omega
 ·show 32∉[48+f.n]
  simp;omega
theorem Zkh{f:Fx}(ok:f.Ok):(Go f).length≤99:=by
 have j:=Zjj blank (Dy f);have e:((Dy f).map (·.length)).sum≤4+(3+(5+(1+(4+(6+(5+(8+(5+(8+0))))))))):=by
  have a:=(Zf6 f.d).2;have b:(U1 f.pl).length≤8:=by rw[Ec,Uo ok.pp];exact ok.h8
  have c:(U1 f.tr).length≤8:=by rw[Ec,Uo ok.pt];exact ok.h8
  show 4+(3+(5+(1+(4+((wd f.d).length+(5+((U1 f.pl).length+(5+((U1 f.tr).length+0)))))))))≤_;omega
 have e2:(Dy f).length=10:=rfl;rw[e2,Zf0] at j;have:(Go f).length=(Txt.join blank (Dy f)).length:=rfl;omega
theorem Bz:∀ i≤8,(toString ((i:Nat):Int):Str)=⟨#[48+i]⟩:=by decide +kernel
theorem Ag:∀ ws:List Str,(Txt.join "" ws).cps.toList=(ws.map fun w=>w.cps.toList).flatten:=by
 intro ws;unfold Txt.join;rw[StrLaws.glued_eq_join]
 induction ws with
 | nil=>rfl
 | cons x r ih=>
  cases r with
  | nil=>
   show x.cps.toList=x.cps.toList++[];rw[J8]
  | cons y r=>
   show(x ++ "" ++ Str.join "" (y :: r)).cps.toList=x.cps.toList++((y :: r).map fun w=>w.cps.toList).flatten;rw[← ih];show((x.cps++("":Str).cps)++(Str.join "" (y :: r)).cps).toList=_;rw[Array.toList_append,Array.toList_append];have e:("":Str).cps.toList=[]:=by decide +kernel
   rw[e,J8]
theorem Sh(l:List Nat):Txt.join "" (l.map Ef)=U1 l:=by
 refine D1 ?_;rw[Ag,Z7];show((l.map fun i=>[49+i]).flatten)=l.map (49 + ·)
 induction l with
 | nil=>rfl
 | cons i l ih=>rw[List.map_cons,List.flatten_cons,ih];rfl
def sgV(x:V):V:=match x with | .int i=>.str ⟨#[48+(i+1).toNat]⟩ | _=>.non
theorem Oi(i:Nat):sgV (.int (i:Nat)) = .str ⟨#[48+(i+1)]⟩:=by
 show V.str ⟨#[48+(((i:Nat):Int)+1).toNat]⟩=_;have e:(((i:Nat):Int)+1).toNat=i+1:=by omega
 rw[e]
theorem Kf(l:List Nat):((vN l).filter fun _=>true).map sgV=vS (l.map Ef):=by
 rw[List.filter_eq_self.mpr (fun _ _=>rfl)];unfold vN vS;rw[Z7,Z7];refine Jv fun i _=>?_;show sgV (.int (i:Nat)) = .str (Ef i);rw[Oi];unfold Ef;rw[show 48+(i+1)=49+i by omega]
theorem Zcu{l:List Nat}{h:Nat}(p:l.Perm (List.range h))(h8:h≤8):((l.map Ef).map (·.length)).sum+(l.map Ef).length * ("":Str).length≤16777216:=by
 have e:∀ l:List Nat,((l.map Ef).map (·.length)).sum=l.length:=fun l=>by
  induction l with
  | nil=>rfl
  | cons i l ih=>
   show 1+((l.map Ef).map (·.length)).sum=_;rw[ih,Jo];omega
 have z:("":Str).length=0:=by decide +kernel
 rw[e,z,Uo p];omega
theorem Zkg(f:Fx):(("pack ":Str)++⟨#[48+f.s]⟩ ++ "x" ++ ⟨#[48+f.h]⟩ ++ " seats " ++ ⟨#[48+f.n]⟩ ++ " duty " ++ wd f.d ++ " plain " ++ U1 f.pl ++ " trump " ++ U1 f.tr)=Go f:=by
 refine D1 ?_;unfold Go;rw[Nw];have ap:∀ a b:Str,(a++b).cps.toList=a.cps.toList++b.cps.toList:=fun a b=>by
  show(a.cps++b.cps).toList=_;rw[Array.toList_append]
 rw[ap,ap,ap,ap,ap,ap,ap,ap,ap,ap,ap];show _=("pack":Str).cps.toList++32 :: ([48+f.s,120,48+f.h]++32 :: (("seats":Str).cps.toList++32 :: ([48+f.n]++32 :: (("duty":Str).cps.toList++32 :: ((wd f.d).cps.toList++32 :: (("plain":Str).cps.toList++32 :: ((U1 f.pl).cps.toList++32 :: (("trump":Str).cps.toList++32 :: (U1 f.tr).cps.toList))))))));have e1:("pack ":Str).cps.toList=("pack":Str).cps.toList++[32]:=by decide +kernel
 have e2:("x":Str).cps.toList=[120]:=by decide +kernel
 have e3:(" seats ":Str).cps.toList=32 :: (("seats":Str).cps.toList++[32]):=by decide +kernel
 have e4:(" duty ":Str).cps.toList=32 :: (("duty":Str).cps.toList++[32]):=by decide +kernel
 have e5:(" plain ":Str).cps.toList=32 :: (("plain":Str).cps.toList++[32]):=by decide +kernel
 have e6:(" trump ":Str).cps.toList=32 :: (("trump":Str).cps.toList++[32]):=by decide +kernel
 rw[e1,e2,e3,e4,e5,e6];simp [Y5]
end My
namespace My
open PySem L2
def top(i:Nat):Stmt:=PySem.Challenge.pw_trickproof_k41_papers_looked_at.main.body.getD i (.Pass ⟨0,0,0,0⟩)
abbrev V6:Stmt:=Yq (top 51) 0
abbrev Nl:Stmt:=Yq (top 52) 0
abbrev Tb:Stmt:=Yq (top 53) 0
abbrev V8:Stmt:=Yq (top 54) 0
abbrev O0:Stmt:=top 55
abbrev Za4:Stmt:=top 58
abbrev V5:Stmt:=top 59
abbrev Bo:Stmt:=top 60
abbrev E8:Stmt:=top 61
section
variable{P:Program}{w:World}{K:W.Frag}{mg:Str→Option Value}{base:Heap}{f g:Addr}{fd gd:FuncData}
theorem Zav:FnScope ["self"] ["self"] (Zq V6):=Uy (by decide +kernel)
theorem Om:FnScope ["self"] ["self"] (Zq Nl):=Uy (by decide +kernel)
theorem Zei:FnScope ["self"] ["self"] (Zq Tb):=Uy (by decide +kernel)
theorem Zaw:FnScope ["self"] ["self"] (Zq V8):=Uy (by decide +kernel)
theorem K4{k:Nat}(F:Fun K "word" "Free.word" V6 f fd):FnOk P w K mg base Yr (k+1) f fd ["self"] (Gp 0):=Gk F Zav rfl fun _ _ _ _ h=>h
theorem Ml{k:Nat}(F:Fun K "word" "Follow.word" Nl f fd):FnOk P w K mg base Yr (k+1) f fd ["self"] (Gp 1):=Gk F Om rfl fun _ _ _ _ h=>h
theorem Zbn{k:Nat}(F:Fun K "word" "Cut.word" Tb f fd):FnOk P w K mg base Yr (k+1) f fd ["self"] (Gp 2):=Gk F Zei rfl fun _ _ _ _ h=>h
theorem K6{k:Nat}(F:Fun K "word" "Beat.word" V8 f fd):FnOk P w K mg base Yr (k+1) f fd ["self"] (Gp 3):=Gk F Zaw rfl fun _ _ _ _ h=>h
theorem scDutyOf:FnScope ["word","duty"] ["word"] (Zq O0):=Uy (by decide +kernel)
theorem M4{k:Nat}{CN:Addr}{cs fw:Fin 4→Addr}{fdw:Fin 4→FuncData}(F:Fun K "duty_of" "duty_of" O0 f fd)(D:DutyC K mg cs CN)(W:Zj6 P w K mg base k cs fw fdw):FnOk P w K mg base (S9 P w) (k+1) f fd ["word"] (Zap cs CN):=by
 refine F.okX scDutyOf (fun vs H Q E h=>?_) (fun cdv A outer s H vs Q E hr h T=>?_)
 ·obtain⟨x,rfl,_⟩:=h
  rfl
 obtain⟨t,rfl,q,qn⟩:=h;refine⟨_,Zh (Uv T.own rfl (V9 (Um (Za (Vg (D.mak 0) rfl D.mF) (Za (Vg (D.mak 1) rfl D.mL) (Za (Vg (D.mak 2) rfl D.mC) (Za (Vg (D.mak 3) rfl D.mB) Zg)))))) (Jj (i:=1) scDutyOf.nd rfl (Or.inl rfl))
   (Zm (J5 (Ji Uq (Mw (pv 1) W hr Ja) (pv 0) (Jg _)) (Zm (Z9 (pv 1))) Jl)))
  (Zm (Q8 T hr.hd rfl D.mN D.hN (Za Ub Zg))),?_⟩
 intro x0 d0 hx0 hd0 n0 x1 d1 hx1 hd1 n1 x2 d2 hx2 hd2 n2 x3 d3 hx3 hd3 n3;refine⟨J2 4 (by decide),fun p hp=>?_⟩;have s0:=Uz (o:=.ins (cs 0) d0 []) hx0 hd0 n0;have s1:=Uz (o:=.ins (cs 1) d1 []) hx1 hd1 n1;have s2:=Uz (o:=.ins (cs 2) d2 []) hx2 hd2 n2;have s3:=Uz (o:=.ins (cs 3) d3 []) hx3 hd3 n3;have sp:=Z5 hp (.tup [.ref x0,.ref x1,.ref x2,.ref x3]);have sA:=s0.trans (s1.trans (s2.trans (s3.trans sp)));have g0:=sp _ _ (s3 _ _ (s2 _ _ (s1 _ _ (Zo (a:=x0) (o:=.ins (cs 0) d0 [])))));have g1:=sp _ _ (s3 _ _ (s2 _ _ (Zo (a:=x1) (o:=.ins (cs 1) d1 []))));have g2:=sp _ _ (s3 _ _ (Zo (a:=x2) (o:=.ins (cs 2) d2 [])));have g3:=sp _ _ (Zo (a:=x3) (o:=.ins (cs 3) d3 []));have gp:=Zo (H:=upd (upd (upd (upd (upd (upd (upd (upd H d0 (.own x0)) x0 (.ins (cs 0) d0 [])) d1 (.own x1)) x1 (.ins (cs 1) d1 [])) d2 (.own x2)) x2 (.ins (cs 2) d2 [])) d3 (.own x3)) x3 (.ins (cs 3) d3 [])) (a:=p) (o:=.tup [.ref x0,.ref x1,.ref x2,.ref x3])
 revert g0 g1 g2 g3 gp sA
 generalize upd _ p (.tup [.ref x0,.ref x1,.ref x2,.ref x3])=H4;intro sA g0 g1 g2 g3 gp;have hx1':=s0.free hx1;have hx2':=s0.free (s1.free hx2);have hx3':=s0.free (s1.free (s2.free hx3));have G:∀(i:Nat) (x:V),([V.ref x0,V.ref x1,V.ref x2,V.ref x3]:List V)[i]? = some x→∃(j:Fin 4) (y dy:Addr),j.val=i∧x = .ref y∧H y=none∧H4 y=some (.ins (cs j) dy []):=fun i x hx=>by
  match i,hx with
  | 0,hx=>exact⟨0,x0,d0,rfl,(Z0 hx).symm,hx0,g0⟩
  | 1,hx=>exact⟨1,x1,d1,rfl,(Z0 hx).symm,hx1',g1⟩
  | 2,hx=>exact⟨2,x2,d2,rfl,(Z0 hx).symm,hx2',g2⟩
  | 3,hx=>exact⟨3,x3,d3,rfl,(Z0 hx).symm,hx3',g3⟩
 refine⟨p,rfl,⟨_,SqT.of gp⟩,Zmb (xs:=[.ref x0,.ref x1,.ref x2,.ref x3]) (fun i σ H'=>H'=H4∧(∃ x,σ=[some (.str t),x])∧∀ j:Fin 4,j.val < i→t≠wd j) ⟨rfl,⟨_,rfl⟩,fun j hj=>absurd hj (Nat.not_lt_zero _)⟩ (fun i σ H' _ z=>by obtain⟨rfl,_⟩:=z;exact SqT.of gp) (fun i x σ H' hx z=>?_) (fun σ H' z=>?_)⟩
 ·obtain⟨rfl,⟨x',rfl⟩,hno⟩:=z
  obtain⟨j,y,dy,hj,rfl,hy,gy⟩:=G i x hx;refine⟨_,rfl,j,y,dy,[],rfl,gy,rfl,y,rfl,_,rfl,rfl,_,rfl,Si (fun c=>?_) (fun c=>?_)⟩
  ·have c':=Ju c
   injection c' with c'
   exact⟨_,rfl,q j c'.symm y dy H' sA hy gy⟩
  ·refine⟨rfl,⟨_,rfl⟩,fun j' hj' e=>?_⟩
   by_cases lt:j'.val < i
   ·exact hno j' lt e
   ·have ej:j'=j:=Fin.ext (by omega)
    subst ej;exact c (Zd (by rw[e]))
 ·obtain⟨rfl,⟨x',rfl⟩,hno⟩:=z
  refine⟨J2 1 (by decide),qn (fun z=>?_) _ sA⟩;obtain⟨j,hj⟩:=Zf5 z;exact hno j j.isLt hj
def Zck:Sp:=fun vs H Q _=>∃ f:Fx,vs=[.str (Go f)]∧f.Ok∧∀ l H',Same H H'→H l=none→H' l=some (.lst (vS [Eg f,Q7 f,wd f.d,U1 f.pl,U1 f.tr]))→Q (.ref l) H'
theorem scMarks:FnScope ["text","words"] ["text"] (Zq Za4):=Uy (by decide +kernel)
def Vm:List Str:=["pack","seats","duty","plain","trump"]
theorem Zio{k:Nat}{CN aM:Addr}(F:Fun K "words_behind_marks" "words_behind_marks" Za4 f fd)(mM:mg "MARKS" = some (.ref aM))(hM:∀ H,SqT K H aM (vS Vm))(mC:mg "NoTable" = some (.ref CN))(hC:W.excIn K CN Bi "ValueError.__new__" = true)
  (mi:mg "isinstance" = none) (ms:mg "str" = none) (ml:mg "len" = none) (mt:mg "tuple" = none):FnOk P w K mg base (S9 P w) (k+1) f fd ["text"] Zck:=by
 refine F.okX scMarks (fun vs H Q E h=>?_) (fun cdv A outer s H vs Q E hr h T=>?_)
 ·obtain⟨x,rfl,_⟩:=h
  rfl
 obtain⟨fx,rfl,ok,q⟩:=h;refine⟨_,Zh (J5 (X7 (Yi (Jr Ez rfl mi Yj (Za (pv 0) (Za (Bb (v:=.ty "str") rfl ms PyProof.Rows.boot_str rfl) Zg))) (fun _=>rfl))) (Zm (Q8 T hr.hd rfl mC hC (Za Ub Zg))) Jl)
  (Zh (Jf (i:=1) scMarks.nd rfl (Or.inl rfl) (Ej PySem.F.plainAttrs_str PySem.F.slot_str_split PySem.F.type_str_split Zjb (pv 0) (Za Ub Zg)))
  (Zh (J5 (PW.pt (Qu (Ji Vj (Jr Jy rfl ml Jq (Za (pv 1) Zg)) (Jd Xm Zn (Jr Jy rfl ml Jq (Za (Y9 (v:=.ref aM) rfl mM rfl) Zg))) (Jg _))
    (Qf (Ji (Zk5 hr.units) (Yy Xp rfl mt Yf (Za (Zc5 (pv 1) (U4 Zn) (U4 Zn)) Zg)) (Y9 (v:=.ref aM) rfl mM rfl) (Jg _))))) (Zm (Q8 T hr.hd rfl mC hC (Za Ub Zg))) Jl)
  (Zm (Z9 (Zc5 (pv 1) (U4 Zn) (U4 Zn)))))),?_⟩
 have tl:=Zkh ok;refine⟨_,rfl,_,_,_,true,rfl,.str _,rfl,true,rfl,Yb ?_⟩;refine⟨_,rfl,rfl,Go fx,blank,rfl,rfl,(by decide +kernel),by omega,fun l hl=>?_⟩;rw[Zeb];have s1:=Z5 hl (.lst (vS (Dy fx)));refine⟨_,rfl,l,_,rfl,.inl (SqL.of Zo),aM,_,rfl,.inr (hM _),_,_,rfl,rfl,.inl ⟨by decide,by decide⟩,rfl,_,rfl,Yb ?_⟩;refine⟨_,rfl,_,rfl,_,rfl,rfl,l,.str "pack",.str (Eg fx),.str "seats",.str (Q7 fx),.str "duty",.str (wd fx.d),.str "plain",.str (U1 fx.pl),.str "trump",.str (U1 fx.tr),rfl,SqL.of Zo,.inl ⟨rfl,fun p hp=>?_⟩⟩;have s2:=Z5 hp (.lst (vS Vm));refine⟨p,vS Vm,rfl,.inl ⟨SqL.of Zo,fun p2 hp2=>?_⟩⟩;have s3:=Z5 hp2 (.tup (vS Vm));refine⟨p2,aM,vS Vm,vS Vm,rfl,rfl,⟨SqT.of Zo,hM _⟩,By _,By _,_,rfl,?_⟩;show if(!Vr (vS Vm) (vS Vm))=true then _ else _
 rw[T9];refine Yb ?_;have sA:=s1.trans (s2.trans s3);refine⟨_,rfl,_,rfl,_,rfl,rfl,l,.str "pack",.str (Eg fx),.str "seats",.str (Q7 fx),.str "duty",.str (wd fx.d),.str "plain",.str (U1 fx.pl),.str "trump",.str (U1 fx.tr),rfl,SqL.of (s3 _ _ (s2 _ _ Zo)),.inr ⟨rfl,fun p3 hp3=>?_⟩⟩;exact q p3 _ (sA.trans (Z5 hp3 _)) (sA.free hp3) Zo
def Zgo:Sp:=fun vs H Q _=>∃ f:Fx,vs=[.str (Eg f)]∧f.Ok∧∀ p H',Same H H'→H p=none→H' p=some (.tup [.int (f.s:Nat),.int (f.h:Nat)])→Q (.ref p) H'
theorem scSize:FnScope ["word","suits","heights"] ["word"] (Zq V5):=Uy (by decide +kernel)
theorem Zlb{k:Nat}{CN:Addr}{t1 t2:Tok}(F:Fun K "read_size" "read_size" V5 f fd)(mF:mg "FIGURES" = some (.str sFig t1))(mL:mg "LETTERS" = some (.str sLet t2))(mC:mg "NoTable" = some (.ref CN))(hC:W.excIn K CN Bi "ValueError.__new__" = true)(ml:mg "len" = none) :
  FnOk P w K mg base (S9 P w) (k+1) f fd ["word"] Zgo:=by
 refine F.okX scSize (fun vs H Q E h=>?_) (fun cdv A outer s H vs Q E hr h T=>?_)
 ·obtain⟨x,rfl,_⟩:=h
  rfl
 obtain⟨fx,rfl,ok,q⟩:=h;refine⟨_,Zh (J5 (PW.pt (Qu (Ji Vj (Jr Vv rfl ml Jq (Za (pv 0) Zg)) Zn (Jg _)) (Qf (Ji Vj (Jw Zbz (pv 0) Zn (fun _ _=>rfl)) Ub (Jg _))))) (Zm (Q8 T hr.hd rfl mC hC (Za Ub Zg))) Jl)
  (Zh (Jf (i:=1) scSize.nd rfl (Or.inl rfl) (Jd Y1 (Ej PySem.F.plainAttrs_str PySem.F.slot_str_find PySem.F.type_str_find Af (Y9 (v:=.str sFig) rfl mF ⟨_,rfl⟩) (Za (Jw Zbz (pv 0) Zn (fun _ _=>rfl)) Zg)) Zn))
  (Zh (Jf (i:=2) scSize.nd rfl (Or.inl rfl) (Jd Y1 (Ej PySem.F.plainAttrs_str PySem.F.slot_str_find PySem.F.type_str_find Af (Y9 (v:=.str sFig) rfl mF ⟨_,rfl⟩) (Za (Jw Zbz (pv 0) Zn (fun _ _=>rfl)) Zg)) Zn))
  (Zh (J5 (PW.pt (Qu (Ji Uq (pv 1) Zn (Jg _)) (Qu (Ji Ek (pv 1) (Jr Vv rfl ml Jq (Za (Y9 (v:=.str sLet) rfl mL ⟨_,rfl⟩) Zg)) (Jg _)) (Qf (Ji Uq (pv 2) Zn (Jg _)))))) (Zm (Q8 T hr.hd rfl mC hC (Za Ub Zg))) Jl)
  (Zm (Z9 (Um (Za (pv 1) (Za (pv 2) Zg)))))))),?_⟩
 have hz:(Eg fx).length≤sizeLine:=J2 3 (by decide);have at0:X6 (Eg fx).cps.toList 0=some (48+fx.s):=Xv (j:=0) rfl;have at1:X6 (Eg fx).cps.toList 1=some 120:=Xv (j:=1) rfl;have at2:X6 (Eg fx).cps.toList 2=some (48+fx.h):=Xv (j:=2) rfl;have s1:=ok.s1;have s4:=ok.s4;have h1:=ok.h1;have h8:=ok.h8;refine⟨_,rfl,_,rfl,hz,rfl,_,rfl,Yb ⟨_,rfl,_,_,_,rfl,rfl,hz,at1,rfl,_,rfl,?_⟩⟩;rw[Zd (show V.str ⟨#[120]⟩=V.str "x" by decide +kernel)];refine Yb ?_;refine⟨rfl,_,rfl,_,_,_,rfl,rfl,hz,at0,_,_,rfl,rfl,_,_,rfl,rfl,?_⟩;refine⟨rfl,_,rfl,_,_,_,rfl,rfl,hz,at2,_,_,rfl,rfl,_,_,rfl,rfl,?_⟩;rw[Ss,Ss,Zu (by omega),Zu (by omega)];have e1:((48+fx.s - 49:Nat):Int)+1=((fx.s:Nat):Int):=by omega
 have e2:((48+fx.h - 49:Nat):Int)+1=((fx.h:Nat):Int):=by omega
 dsimp only;rw[e1,e2];refine⟨_,rfl,rfl,_,rfl,?_⟩;rw[Zc (fun y=>by injection y with y;omega)];refine Yb ⟨_,rfl,_,rfl,J2 4 (by decide),_,_,rfl,rfl,_,rfl,?_⟩;have l4:((sLet.length:Nat):Int)=4:=by decide +kernel
 rw[l4,Zc (show ¬ (4:Int) < ((fx.s:Nat):Int) by omega)];refine Yb ⟨_,rfl,rfl,_,rfl,?_⟩;rw[Zc (fun y=>by injection y with y;omega)];refine Yb ⟨_,rfl,_,rfl,J2 2 (by decide),fun p hp=>q p _ (Z5 hp _) hp Zo⟩
def Zci:Sp:=fun vs H Q _=>∃ f:Fx,vs=[.str (Q7 f)]∧f.Ok∧∀ H',Same H H'→Q (.int (f.n:Nat)) H'
theorem Zko:FnScope ["word"] ["word"] (Zq Bo):=Uy (by decide +kernel)
theorem Zid{k:Nat}{CN:Addr}(F:Fun K "read_seats" "read_seats" Bo f fd)(mC:mg "NoTable" = some (.ref CN))(hC:W.excIn K CN Bi "ValueError.__new__" = true)(mI:mg "int" = none):FnOk P w K mg base (S9 P w) (k+1) f fd ["word"] Zci:=by
 refine F.okX Zko (fun vs H Q E h=>?_) (fun cdv A outer s H vs Q E hr h T=>?_)
 ·obtain⟨x,rfl,_⟩:=h
  rfl
 obtain⟨fx,rfl,ok,q⟩:=h;refine⟨_,Zh (J5 (Ji Nb (pv 0) (Um (Za Ub (Za Ub Zg))) rfl) (Zm (Q8 T hr.hd rfl mC hC (Za Ub Zg))) Jl)
  (Zm (Z9 (Yy Aq rfl mI PyProof.Rows.boot_int (Za (pv 0) Zg)))),?_⟩
 refine⟨_,rfl,J2 2 (by decide),fun p hp=>?_⟩;have s1:=Z5 hp (.tup (vS ["3","4"]));refine⟨p,vS ["3","4"],rfl,.inr (SqT.of Zo),rfl,rfl,_,rfl,?_⟩;show if(!Sj (.str (Q7 fx)) (vS ["3","4"]))=true then _ else _
 rcases ok.n34 with e | e
 ·have es:Q7 fx = "3":=by unfold Q7;rw[e];decide +kernel
  rw[es,show Sj (.str "3") (vS ["3","4"])=true by decide +kernel];refine Yb ⟨_,rfl,_,3,rfl,by decide +kernel,by decide +kernel,?_⟩;have:=q _ s1;rw[e] at this;exact this
 ·have es:Q7 fx = "4":=by unfold Q7;rw[e];decide +kernel
  rw[es,show Sj (.str "4") (vS ["3","4"])=true by decide +kernel];refine Yb ⟨_,rfl,_,4,rfl,by decide +kernel,by decide +kernel,?_⟩;have:=q _ s1;rw[e] at this;exact this
def Zms:Sp:=fun vs H Q _=>∃(l:List Nat) (h:Nat),vs=[.str (U1 l),.int (h:Nat)]∧h≤8∧l.Perm (List.range h)∧∀ p H',Same H H'→H p=none→H' p=some (.tup (vN l))→Q (.ref p) H'
theorem Zp9:FnScope ["word","heights"] ["word","heights"] (Zq E8):=Uy (by decide +kernel)
theorem Zoi{k:Nat}{CN:Addr}{t1:Tok}(F:Fun K "read_order" "read_order" E8 f fd)(mF:mg "FIGURES" = some (.str sFig t1))(mC:mg "NoTable" = some (.ref CN))(hC:W.excIn K CN Bi "ValueError.__new__" = true)(mS:mg "sorted" = none)(mLi:mg "list" = none)(mt:mg "tuple" = none) :
  FnOk P w K mg base (S9 P w) (k+1) f fd ["word","heights"] Zms:=by
 refine F.okX Zp9 (fun vs H Q E h=>?_) (fun cdv A outer s H vs Q E hr h T=>?_)
 ·obtain⟨l,h,rfl,_⟩:=h
  rfl
 obtain⟨l,h,rfl,h8,pm,q⟩:=h;refine⟨_,Zh (J5 (Ji (Zk6 hr.units) (Jr (R0 rfl) rfl mS PyProof.Rows.boot_sorted (Za (pv 0) Zg)) (Yy (Me rfl) rfl mLi Y4 (Za (X9 Zng (Y9 (v:=.str sFig) rfl mF ⟨_,rfl⟩) Ei (U4 (pv 1))) Zg)) (Jg _)) (Zm (Q8 T hr.hd rfl mC hC (Za Ub Zg))) Jl)
  (Zm (Z9 (Yy Xp rfl mt Yf (Za (Ud ["figure"] [none] rfl (Blk.by (sc:=Zq E8) (N0:=["word","heights"]) rfl rfl (by decide +kernel)) (Zn3 (pv 0)) (fun C s₀ H₀ ex=>Jj (i:=0) (show(["figure"]:List Str).Nodup by decide +kernel) rfl (Or.inl rfl))
   (fun C s₀ H₀ ex=>U5) (fun C s₀ H₀ ex=>Zhv (K:=K) rfl (Y9 (v:=.str sFig) rfl mF ⟨_,rfl⟩) (Za (pv 0) Zg))) Zg)))),?_⟩
 have ll:l.length=h:=Uo pm;refine⟨_,rfl,U1 l,rfl,(by rw[Ec];omega),fun l1 ss hl1 hp hs=>?_⟩;have es:=O7 pm hp hs;subst es;have s1:=Z5 hl1 (.lst (vS ((List.range h).map Ef)));refine⟨_,rfl,_,rfl,sFig,rfl,(by decide +kernel),_,rfl,Jc (Txt.slice_le _ _ _) (by decide +kernel),fun l2 hl2=>?_⟩;rw[Zfm h h8];have s2:=Z5 hl2 (.lst (vS ((List.range h).map Ef)));refine⟨l1,l2,_,_,rfl,rfl,⟨SqL.of (s2 _ _ Zo),SqL.of Zo⟩,By _,By _,_,rfl,?_⟩;show if(!Vr (vS ((List.range h).map Ef)) (vS ((List.range h).map Ef)))=true then _ else _
 rw[T9];refine Yb ⟨_,rfl,U1 l,rfl,?_⟩;have sA:=s1.trans s2;refine Vu l.length (fun i=>.str (Ef (l.getD i 0))) (fun _=>true) (fun i=>.int ((l.getD i 0:Nat):Int)) (J2 _ (by omega)) (fun i H3 s3 hi=>?_) (fun H3 s3=>?_) (fun i H3 x H4 s3 hi y=>?_) (fun i H3 hi sm R hR=>hR H3 (Same.refl H3)) (fun i H3 hi hp sm R hR=>?_) (fun l3 H3 s3 hl3 hL3=>?_)
 ·show i < (U1 l).cps.size
  have:=Ec l;unfold Str.length at this;omega
 ·show(U1 l).cps.size≤l.length
  have:=Ec l;unfold Str.length at this;omega
 ·obtain⟨rfl,c,hc,rfl⟩:=y
  refine⟨rfl,?_⟩;have e:(U1 l).cps.toList[i]? = some c:=by rw[← hc];simp
  rw[show(U1 l).cps.toList=l.map (49 + ·) from rfl,Z4,Zf hi] at e;have e2:49+l[i]=c:=Z0 e;rw[Zp,Zf hi,← e2];rfl
 ·have lt:l.getD i 0 < 8:=by
   rw[Zp,Zf hi];have:=Zc4 pm l[i] (Yl hi);show l[i] < 8;omega
  refine⟨rfl,_,rfl,_,_,rfl,rfl,?_⟩;show R (.int (Txt.find sFig (Ef (l.getD i 0)))) H3;rw[Zjs _ lt];exact hR H3 (Same.refl H3)
 ·have e:((List.range l.length).filter fun _=>true).map (fun i=>V.int ((l.getD i 0:Nat):Int))=vN l:=by
   have z:=Qi l (fun _=>true) (fun c=>V.int ((c:Nat):Int)) 0;rw[z,List.filter_eq_self.mpr (fun _ _=>rfl)];rfl
  rw[e] at hL3;refine⟨l3,_,rfl,.inl ⟨SqL.of hL3,fun p hp=>?_⟩⟩;have sB:=sA.trans s3;exact q p _ (sB.trans (Z5 hp _)) (sB.free hp) Zo
end
def Keep(x:Addr)(H H':Hp):Prop:=∀ b o,b≠x→H b=some o→H' b=some o
theorem Keep.trans{x:Addr}{H H1 H2:Hp}(a:Keep x H H1)(b:Keep x H1 H2):Keep x H H2:=fun c o n h=>b c o n (a c o n h)
theorem Keep.of{x:Addr}{H H':Hp}(s:Same H H'):Keep x H H':=fun b o _ h=>s b o h
theorem Keep.upd{x:Addr}{H:Hp}{o:HO}:Keep x H (upd H x o):=fun b u n h=>by rw[Jh n];exact h
def tF1(f:Fx)(po to:Addr):List (Str×V):=X4 "suits" (.int (f.s:Nat)) []
def tF2(f:Fx)(po to:Addr):List (Str×V):=X4 "heights" (.int (f.h:Nat)) (tF1 f po to)
def S6(f:Fx)(po to:Addr):List (Str×V):=X4 "seats" (.int (f.n:Nat)) (tF2 f po to)
def Av(f:Fx)(po to:Addr):List (Str×V):=X4 "duty_word" (.str (wd f.d)) (S6 f po to)
def Dz(f:Fx)(po to:Addr):List (Str×V):=X4 "plain_order" (.ref po) (Av f po to)
def tF6(f:Fx)(po to:Addr):List (Str×V):=X4 "trump_order" (.ref to) (Dz f po to)
def A8(f:Fx)(po to:Addr):List (Str×V):=X4 "written" (.str (Go f)) (tF6 f po to)
abbrev Zpt:=A8
theorem Zcg(f:Fx)(po to:Addr):(tF1 f po to).length≤1:=Y8 _ _ _
theorem Zcf(f:Fx)(po to:Addr):(tF2 f po to).length≤2:=Jc (Y8 _ _ _) (Nat.succ_le_succ (Zcg f po to))
theorem Zce(f:Fx)(po to:Addr):(S6 f po to).length≤3:=Jc (Y8 _ _ _) (Nat.succ_le_succ (Zcf f po to))
theorem Zcd(f:Fx)(po to:Addr):(Av f po to).length≤4:=Jc (Y8 _ _ _) (Nat.succ_le_succ (Zce f po to))
theorem Zcc(f:Fx)(po to:Addr):(Dz f po to).length≤5:=Jc (Y8 _ _ _) (Nat.succ_le_succ (Zcd f po to))
theorem Zkj(f:Fx)(po to:Addr):(tF6 f po to).length≤6:=Jc (Y8 _ _ _) (Nat.succ_le_succ (Zcc f po to))
theorem Nv(f:Fx)(po to:Addr):(A8 f po to).lookup ("suits":Str)=some (V.int (f.s:Nat)):=by
 unfold A8;rw[Zt];rw[Zk (by decide +kernel)];unfold tF6;rw[Zt];rw[Zk (by decide +kernel)];unfold Dz;rw[Zt];rw[Zk (by decide +kernel)];unfold Av;rw[Zt];rw[Zk (by decide +kernel)];unfold S6;rw[Zt];rw[Zk (by decide +kernel)];unfold tF2;rw[Zt];rw[Zk (by decide +kernel)];unfold tF1;rw[Zt];rw[Zu rfl]
theorem Em(f:Fx)(po to:Addr):(A8 f po to).lookup ("heights":Str)=some (V.int (f.h:Nat)):=by
 unfold A8;rw[Zt];rw[Zk (by decide +kernel)];unfold tF6;rw[Zt];rw[Zk (by decide +kernel)];unfold Dz;rw[Zt];rw[Zk (by decide +kernel)];unfold Av;rw[Zt];rw[Zk (by decide +kernel)];unfold S6;rw[Zt];rw[Zk (by decide +kernel)];unfold tF2;rw[Zt];rw[Zu rfl]
theorem Us(f:Fx)(po to:Addr):(A8 f po to).lookup ("seats":Str)=some (V.int (f.n:Nat)):=by
 unfold A8;rw[Zt];rw[Zk (by decide +kernel)];unfold tF6;rw[Zt];rw[Zk (by decide +kernel)];unfold Dz;rw[Zt];rw[Zk (by decide +kernel)];unfold Av;rw[Zt];rw[Zk (by decide +kernel)];unfold S6;rw[Zt];rw[Zu rfl]
theorem Rx(f:Fx)(po to:Addr):(A8 f po to).lookup ("duty_word":Str)=some (V.str (wd f.d)):=by
 unfold A8;rw[Zt];rw[Zk (by decide +kernel)];unfold tF6;rw[Zt];rw[Zk (by decide +kernel)];unfold Dz;rw[Zt];rw[Zk (by decide +kernel)];unfold Av;rw[Zt];rw[Zu rfl]
theorem Vo(f:Fx)(po to:Addr):(A8 f po to).lookup ("plain_order":Str)=some (V.ref po):=by
 unfold A8;rw[Zt];rw[Zk (by decide +kernel)];unfold tF6;rw[Zt];rw[Zk (by decide +kernel)];unfold Dz;rw[Zt];rw[Zu rfl]
theorem Vn(f:Fx)(po to:Addr):(A8 f po to).lookup ("trump_order":Str)=some (V.ref to):=by
 unfold A8;rw[Zt];rw[Zk (by decide +kernel)];unfold tF6;rw[Zt];rw[Zu rfl]
theorem Mn(f:Fx)(po to:Addr):(Av f po to).lookup ("heights":Str)=some (V.int (f.h:Nat)):=by
 unfold Av;rw[Zt];rw[Zk (by decide +kernel)];unfold S6;rw[Zt];rw[Zk (by decide +kernel)];unfold tF2;rw[Zt];rw[Zu rfl]
theorem Mm(f:Fx)(po to:Addr):(Dz f po to).lookup ("heights":Str)=some (V.int (f.h:Nat)):=by
 unfold Dz;rw[Zt];rw[Zk (by decide +kernel)];unfold Av;rw[Zt];rw[Zk (by decide +kernel)];unfold S6;rw[Zt];rw[Zk (by decide +kernel)];unfold tF2;rw[Zt];rw[Zu rfl]
theorem T3(f:Fx)(po to:Addr):(A8 f po to).lookup ("duty":Str)=none:=by
 unfold A8;rw[Zt];rw[Zk (by decide +kernel)];unfold tF6;rw[Zt];rw[Zk (by decide +kernel)];unfold Dz;rw[Zt];rw[Zk (by decide +kernel)];unfold Av;rw[Zt];rw[Zk (by decide +kernel)];unfold S6;rw[Zt];rw[Zk (by decide +kernel)];unfold tF2;rw[Zt];rw[Zk (by decide +kernel)];unfold tF1;rw[Zt];rw[Zk (by decide +kernel)];rfl
theorem Sg(f:Fx)(po to:Addr):(A8 f po to).lookup ("order":Str)=none:=by
 unfold A8;rw[Zt];rw[Zk (by decide +kernel)];unfold tF6;rw[Zt];rw[Zk (by decide +kernel)];unfold Dz;rw[Zt];rw[Zk (by decide +kernel)];unfold Av;rw[Zt];rw[Zk (by decide +kernel)];unfold S6;rw[Zt];rw[Zk (by decide +kernel)];unfold tF2;rw[Zt];rw[Zk (by decide +kernel)];unfold tF1;rw[Zt];rw[Zk (by decide +kernel)];rfl
structure TabC(K:W.Frag)(mg:Str→Option Value)(CT:Addr):Prop where
 cl:Cls K CT
 mT:mg "Table" = some (.ref CT)
 nS:NoAttr K CT "suits"
 nH:NoAttr K CT "heights"
 nN:NoAttr K CT "seats"
 nD:NoAttr K CT "duty_word"
 nP:NoAttr K CT "plain_order"
 nT:NoAttr K CT "trump_order"
 nW:NoAttr K CT "written"
def IsTab(CT:Addr)(f:Fx)(H:Hp)(x:Addr):Prop:=∃ dx po to,H x=some (.ins CT dx (Zpt f po to))∧H po=some (.tup (vN f.pl))∧H to=some (.tup (vN f.tr))
theorem IsTab.same{CT x:Addr}{f:Fx}{H H':Hp}(h:IsTab CT f H x)(s:Same H H'):IsTab CT f H' x:=by
 obtain⟨dx,po,to,a,b,c⟩:=h;exact⟨dx,po,to,s _ _ a,s _ _ b,s _ _ c⟩
def Mo(x:Addr)(tv:V):List (Str×V):=X4 "trump" tv (X4 "table" (.ref x) [])
theorem Yt(x:Addr)(tv:V):(Mo x tv).lookup ("table":Str)=some (V.ref x):=by
 unfold Mo;rw[Zt,Zk (by decide +kernel),Zt,Zu rfl]
theorem Q4(x:Addr)(tv:V):(Mo x tv).lookup ("trump":Str)=some tv:=by
 unfold Mo;rw[Zt,Zu rfl]
theorem Ev(x:Addr)(tv:V)(m:Str)(h1:m≠"trump")(h2:m≠"table"):(Mo x tv).lookup m=none:=by
 unfold Mo;rw[Zt,Zk h1,Zt,Zk h2];rfl
structure GamC(K:W.Frag)(mg:Str→Option Value)(CG:Addr):Prop where
 cl:Cls K CG
 mG:mg "Game" = some (.ref CG)
 nT:NoAttr K CG "table"
 nU:NoAttr K CG "trump"
def IsGam(CG x:Addr)(tv:V)(H:Hp)(g:Addr):Prop:=∃ dg,H g=some (.ins CG dg (Mo x tv))
theorem IsGam.same{CG x g:Addr}{tv:V}{H H':Hp}(h:IsGam CG x tv H g)(s:Same H H'):IsGam CG x tv H' g:=by
 obtain⟨dg,a⟩:=h;exact⟨dg,s _ _ a⟩
abbrev Gz:Stmt:=Yq (top 63) 0
theorem Zdn{F:Hp→Prop}{H H':Hp}(e:H'=H)(h:F H):F H':=by rw[e];exact h
section
variable{P:Program}{w:World}{K:W.Frag}{mg:Str→Option Value}{base:Heap}{f g:Addr}{fd gd:FuncData}
def Zmr(CT:Addr):Sp:=fun vs H Q _=>∃(x dx:Addr) (f:Fx),vs=[.ref x,.str (Go f)]∧f.Ok∧H x=some (.ins CT dx [])∧∀ po to H',Keep x H H'→H' x=some (.ins CT dx (Zpt f po to))→H' po=some (.tup (vN f.pl))→H' to=some (.tup (vN f.tr))→Q .non H'
theorem scTab:FnScope ["self","text","words","size"] ["self","text"] (Zq Gz):=Uy (by decide +kernel)
theorem Zoh{k:Nat}{CT CN f1 f2 f3 f4 f5:Addr}{d1 d2 d3 d4 d5:FuncData}{cs fw:Fin 4→Addr}{fdw:Fin 4→FuncData}(F:Fun K "__init__" "Table.__init__" Gz f fd)(C:TabC K mg CT)(LM:LibX P w K mg base k "words_behind_marks" ["text"] Zck f1 d1)(LZ:LibX P w K mg base k "read_size" ["word"] Zgo f2 d2)
  (LS:LibX P w K mg base k "read_seats" ["word"] Zci f3 d3) (LO:LibX P w K mg base k "read_order" ["word","heights"] Zms f4 d4) (LD:LibX P w K mg base k "duty_of" ["word"] (Zap cs CN) f5 d5) (W:Zj6 P w K mg base k cs fw fdw):FnOk P w K mg base Yr (k+1) f fd ["self","text"] (Zmr CT):=by
 refine F.ok scTab (fun vs H Q E h=>?_) (fun cdv A outer s H vs Q E hr h=>?_)
 ·obtain⟨x,dx,fx,rfl,_⟩:=h
  rfl
 obtain⟨x,dx,fx,rfl,ok,hx,q⟩:=h;refine⟨_,Zh (Jf (i:=2) scTab.nd rfl (Or.inl rfl) (Z1 LM.ok hr rfl LM.mg LM.kp LM.bd .nil Tm (Za (pv 1) Zg)))
  (Zh (Jf (i:=3) scTab.nd rfl (Or.inl rfl) (Z1 LZ.ok hr rfl LZ.mg LZ.kp LZ.bd .nil Tm (Za (Jw Uk (pv 2) Zn (fun _ _=>rfl)) Zg)))
  (Zh (Xk (pv 0) (Jw Jz (pv 3) Zn (fun _ _=>rfl)) rfl)
  (Zh (Xk (pv 0) (Jw Jz (pv 3) Zn (fun _ _=>rfl)) rfl)
  (Zh (Xk (pv 0) (Z1 LS.ok hr rfl LS.mg LS.kp LS.bd .nil Tm (Za (Jw Uk (pv 2) Zn (fun _ _=>rfl)) Zg)) rfl)
  (Zh (Xk (pv 0) (Mw (Z1 LD.ok hr rfl LD.mg LD.kp LD.bd .nil Tm (Za (Jw Uk (pv 2) Zn (fun _ _=>rfl)) Zg)) W hr Ja) rfl)
  (Zh (Xk (pv 0) (Z1 LO.ok hr rfl LO.mg LO.kp LO.bd .nil Tm (Za (Jw Uk (pv 2) Zn (fun _ _=>rfl)) (Za (Jt (pv 0) rfl) Zg))) rfl)
  (Zh (Xk (pv 0) (Z1 LO.ok hr rfl LO.mg LO.kp LO.bd .nil Tm (Za (Jw Uk (pv 2) Zn (fun _ _=>rfl)) (Za (Jt (pv 0) rfl) Zg))) rfl)
  (Zm (Xk (pv 0) (pv 1) rfl))))))))),?_⟩
 refine⟨_,rfl,fx,rfl,ok,fun l H1 s1 hl hL=>?_⟩;have hx1:=s1 _ _ hx;have nlx:l≠x:=Zmx hL hx1 (by intro z;cases z);refine⟨_,rfl,l,_,0,.str (Eg fx),rfl,rfl,SqL.of hL,rfl,fx,rfl,ok,fun p H2 s2 hp hP=>?_⟩;have hx2:=s2 _ _ hx1;have hL2:=s2 _ _ hL;have npx:p≠x:=Zmx hP hx2 (by intro z;cases z);refine⟨_,rfl,p,_,0,.int (fx.s:Nat),rfl,rfl,SqT.of hP,rfl,_,rfl,x,CT,dx,[],rfl,hx2,C.cl,C.nS,by decide,?_⟩;refine⟨_,rfl,p,[.int (fx.s:Nat),.int (fx.h:Nat)],1,.int (fx.h:Nat),rfl,rfl,SqT.of (by rw[Jh npx];exact hP),rfl,_,rfl,x,CT,dx,tF1 fx 0 0,rfl,Zo,C.cl,C.nH,Jx (Zcg _ _ _) (by decide),?_⟩;have k2:Keep x H (upd H2 x (.ins CT dx (tF2 fx 0 0))):=(Keep.of (s1.trans s2)).trans Keep.upd;have hL3:(upd H2 x (.ins CT dx (tF2 fx 0 0))) l=some (.lst (vS [Eg fx,Q7 fx,wd fx.d,U1 fx.pl,U1 fx.tr])):=by rw[Jh nlx];exact hL2
 have hx3:(upd H2 x (.ins CT dx (tF2 fx 0 0))) x=some (.ins CT dx (tF2 fx 0 0)):=Zo;refine Zdn (H:=upd H2 x (.ins CT dx (tF2 fx 0 0))) ?_ ?_
 ·first | rfl | exact U2 | (rw[U2];rfl)
 revert k2 hL3 hx3
 generalize upd H2 x (.ins CT dx (tF2 fx 0 0))=H3;intro k2 hL3 hx3;refine⟨_,rfl,l,_,1,.str (Q7 fx),rfl,rfl,SqL.of hL3,rfl,fx,rfl,ok,fun H4 s4=>⟨_,rfl,x,CT,dx,tF2 fx 0 0,rfl,s4 _ _ hx3,C.cl,C.nN,Jx (Zcf _ _ _) (by decide),?_⟩⟩;have k4:Keep x H (upd H4 x (.ins CT dx (S6 fx 0 0))):=k2.trans ((Keep.of s4).trans Keep.upd);have hL5:(upd H4 x (.ins CT dx (S6 fx 0 0))) l=some (.lst (vS [Eg fx,Q7 fx,wd fx.d,U1 fx.pl,U1 fx.tr])):=by rw[Jh nlx];exact s4 _ _ hL3
 have hx5:(upd H4 x (.ins CT dx (S6 fx 0 0))) x=some (.ins CT dx (S6 fx 0 0)):=Zo;refine Zdn (H:=upd H4 x (.ins CT dx (S6 fx 0 0))) ?_ ?_
 ·first | rfl | exact U2 | (rw[U2];rfl)
 revert k4 hL5 hx5
 generalize upd H4 x (.ins CT dx (S6 fx 0 0))=H5;intro k4 hL5 hx5;refine⟨_,rfl,l,_,2,.str (wd fx.d),rfl,rfl,SqL.of hL5,rfl,wd fx.d,rfl,fun i e y dy H6 s6 hy h6=>?_,fun z=>absurd (Zjd _) z⟩;have ei:=Zf7 _ _ e;subst ei;refine⟨fx.d,y,dy,[],rfl,h6,rfl,y,rfl,_,rfl,x,CT,dx,S6 fx 0 0,rfl,s6 _ _ hx5,C.cl,C.nD,Jx (Zce _ _ _) (by decide),?_⟩;have k6:Keep x H (upd H6 x (.ins CT dx (Av fx 0 0))):=k4.trans ((Keep.of s6).trans Keep.upd);have hL7:(upd H6 x (.ins CT dx (Av fx 0 0))) l=some (.lst (vS [Eg fx,Q7 fx,wd fx.d,U1 fx.pl,U1 fx.tr])):=by rw[Jh nlx];exact s6 _ _ hL5
 have hx7:(upd H6 x (.ins CT dx (Av fx 0 0))) x=some (.ins CT dx (Av fx 0 0)):=Zo;refine Zdn (H:=upd H6 x (.ins CT dx (Av fx 0 0))) ?_ ?_
 ·first | rfl | exact U2 | (rw[U2];rfl)
 revert k6 hL7 hx7
 generalize upd H6 x (.ins CT dx (Av fx 0 0))=H7;intro k6 hL7 hx7;refine⟨_,rfl,l,_,3,.str (U1 fx.pl),rfl,rfl,SqL.of hL7,rfl,_,rfl,x,CT,dx,_,_,rfl,hx7,C.cl,C.nH,Mn _ _ _,fx.pl,fx.h,rfl,ok.h8,ok.pp,fun po H8 s8 hpo hP8=>⟨_,rfl,x,CT,dx,Av fx po 0,rfl,s8 _ _ hx7,C.cl,C.nP,Jx (Zcd _ _ _) (by decide),?_⟩⟩;have nox:po≠x:=fun z=>by
  rw[z,hx7] at hpo;cases hpo
 have k8:Keep x H (upd H8 x (.ins CT dx (Dz fx po 0))):=k6.trans ((Keep.of s8).trans Keep.upd);have hL9:(upd H8 x (.ins CT dx (Dz fx po 0))) l=some (.lst (vS [Eg fx,Q7 fx,wd fx.d,U1 fx.pl,U1 fx.tr])):=by rw[Jh nlx];exact s8 _ _ hL7
 have hP9:(upd H8 x (.ins CT dx (Dz fx po 0))) po=some (.tup (vN fx.pl)):=by rw[Jh nox];exact hP8
 have hx9:(upd H8 x (.ins CT dx (Dz fx po 0))) x=some (.ins CT dx (Dz fx po 0)):=Zo;refine Zdn (H:=upd H8 x (.ins CT dx (Dz fx po 0))) ?_ ?_
 ·first | rfl | exact U2 | (rw[U2];rfl)
 revert k8 hL9 hP9 hx9
 generalize upd H8 x (.ins CT dx (Dz fx po 0))=H9;intro k8 hL9 hP9 hx9;refine⟨_,rfl,l,_,4,.str (U1 fx.tr),rfl,rfl,SqL.of hL9,rfl,_,rfl,x,CT,dx,_,_,rfl,hx9,C.cl,C.nH,Mm _ _ _,fx.tr,fx.h,rfl,ok.h8,ok.pt,fun to H10 s10 hto hT10=>⟨_,rfl,x,CT,dx,Dz fx po to,rfl,s10 _ _ hx9,C.cl,C.nT,Jx (Zcc _ _ _) (by decide),?_⟩⟩;have ntx:to≠x:=fun z=>by
  rw[z,hx9] at hto;cases hto
 refine⟨_,rfl,_,rfl,x,CT,dx,tF6 fx po to,rfl,Zo,C.cl,C.nW,Jx (Zkj _ _ _) (by decide),?_⟩;rw[U2];refine q po to _ (k8.trans ((Keep.of s10).trans Keep.upd)) Zo ?_ ?_
 ·rw[Jh nox];exact s10 _ _ hP9
 ·rw[Jh ntx];exact hT10
abbrev G0:Stmt:=Yq (top 63) 2
abbrev V3:Stmt:=Yq (top 63) 3
abbrev U6:Stmt:=Yq (top 64) 0
def D4(CT:Addr):Sp:=fun vs H Q _=>∃(x:Addr) (f:Fx),vs=[.ref x]∧IsTab CT f H x∧Q (.str (wd f.d)) H
theorem Zkn:FnScope ["self"] ["self"] (Zq G0):=Uy (by decide +kernel)
theorem K0{k:Nat}{CT:Addr}(F:Fun K "duty" "Table.duty" G0 f fd)(C:TabC K mg CT):FnOk P w K mg base Yr (k+1) f fd ["self"] (D4 CT):=by
 refine F.ok Zkn (fun vs H Q E h=>?_) (fun cdv A outer s H vs Q E hr h=>?_)
 ·obtain⟨x,fx,rfl,_⟩:=h
  rfl
 obtain⟨x,fx,rfl,⟨dx,po,to,hx,_,_⟩,q⟩:=h;refine⟨_,Zm (Z9 (Jt (pv 0) rfl)),?_⟩;exact⟨_,rfl,x,CT,dx,_,_,rfl,hx,C.cl,C.nD,Rx _ _ _,q⟩
def Zh4(f:Fx)(b:Bool):List Nat:=if b then f.tr else f.pl
def Kc(CT:Addr):Sp:=fun vs H Q _=>∃(x:Addr) (f:Fx) (b:Bool),vs=[.ref x,.bl b]∧IsTab CT f H x∧∀ l H',Same H H'→H l=none→H' l=some (.lst (vN (Zh4 f b)))→Q (.ref l) H'
theorem Zgv:FnScope ["self","is_trump"] ["self","is_trump"] (Zq V3):=Uy (by decide +kernel)
theorem Zew{k:Nat}{CT:Addr}(F:Fun K "order" "Table.order" V3 f fd)(C:TabC K mg CT)(mLi:mg "list" = none):FnOk P w K mg base Yr (k+1) f fd ["self","is_trump"] (Kc CT):=by
 refine F.ok Zgv (fun vs H Q E h=>?_) (fun cdv A outer s H vs Q E hr h=>?_)
 ·obtain⟨x,fx,b,rfl,_⟩:=h
  rfl
 obtain⟨x,fx,b,rfl,⟨dx,po,to,hx,hp,ht⟩,q⟩:=h;refine⟨_,Zm (Z9 (Yy Qd rfl mLi Y4 (Za (Er (Yi (pv 1) (fun _=>rfl)) (Jt (pv 0) rfl) (Jt (pv 0) rfl)) Zg))),?_⟩;refine⟨_,rfl,b,rfl,?_⟩;cases b with
 | true=>exact Ym ⟨_,rfl,x,CT,dx,_,_,rfl,hx,C.cl,C.nT,Vn _ _ _,to,_,rfl,.inr (SqT.of ht),fun l hl=>q l _ (Z5 hl _) hl Zo⟩
 | false=>exact Yb ⟨_,rfl,x,CT,dx,_,_,rfl,hx,C.cl,C.nP,Vo _ _ _,po,_,rfl,.inr (SqT.of hp),fun l hl=>q l _ (Z5 hl _) hl Zo⟩
def Zmt(CG:Addr):Sp:=fun vs H Q _=>∃(g dg x:Addr) (tv:V),vs=[.ref g,.ref x,tv]∧H g=some (.ins CG dg [])∧Q .non (upd H g (.ins CG dg (Mo x tv)))
theorem Zqd:FnScope ["self","table","trump"] ["self","table","trump"] (Zq U6):=Uy (by decide +kernel)
theorem Zon{k:Nat}{CG:Addr}(F:FunD K "__init__" "Game.__init__" U6 f fd)(C:GamC K mg CG):FnOk P w K mg base Yr (k+1) f fd ["self","table","trump"] (Zmt CG):=by
 refine F.ok Zqd (fun vs H Q E h=>?_) (fun cdv A outer s H vs Q E hr h=>?_)
 ·obtain⟨g,dg,x,tv,rfl,_⟩:=h
  rfl
 obtain⟨g,dg,x,tv,rfl,hg,q⟩:=h;refine⟨_,Zh (Xk (pv 0) (pv 1) rfl) (Zm (Xk (pv 0) (pv 2) rfl)),?_⟩;refine⟨_,rfl,_,rfl,g,CG,dg,[],rfl,hg,C.cl,C.nT,by decide,?_⟩;refine⟨_,rfl,_,rfl,g,CG,dg,X4 "table" (.ref x) [],rfl,Zo,C.cl,C.nU,Jx (Y8 _ _ _) (by decide),?_⟩;rw[U2];exact q
end
def Yz(s h:Nat):List Nat:=(List.range s).flatMap fun u=>(List.range h).map fun v=>8 * u+v
def Tn(s h:Nat):Nat:=((Yz s h).map (2 ^ ·)).sum
end My
namespace L2
open PySem PySem.Spec PyProof.Rows
theorem Ab{X:Cx}:Ng X (compareOp .Is) (fun x y H Q=>∃ a b,x = .bl a∧y = .bl b∧Q (.bl (a == b)) H):=by
 intro pins s σ H x y v u Q I rx ry h;obtain⟨a,b,rfl,rfl,q⟩:=h;cases rx;cases ry;have e:(compareOp .Is (.bool a) (.bool b):Sem Value)=pure (.bool (a == b)):=by cases a<;>cases b<;>rfl
 rw[e];exact Ze ⟨.bl _,H,I,rfl,q⟩
end L2
namespace My
open PySem L2
def pos(x:Nat):List Nat→Nat
 | []=>0
 | y :: l=>if y=x then 0 else pos x l+1
theorem O6{x:Nat}:∀{l:List Nat},x∈l→l[pos x l]? = some x∧∀ m < pos x l,l[m]?≠some x
 | [],h=>nomatch h
 | y :: l,h=>by
  unfold pos;by_cases c:y=x
  ·rw[Zu c]
   exact⟨by rw[c];rfl,fun m hm=>absurd hm (Nat.not_lt_zero _)⟩
  ·rw[Zk c]
   have hl:x∈l:=by
    rcases Je.mp h with e | e
    ·exact absurd e.symm c
    ·exact e
   obtain⟨a,b⟩:=O6 hl;refine⟨a,fun m hm=>?_⟩;cases m with
   | zero=>exact fun z=>c (Z0 z)
   | succ m=>exact b m (by omega)
theorem Zkz{l:List Nat}{x y:Nat}(hx:x∈l)(hy:y∈l)(e:pos x l=pos y l):x=y:=by
 have a:=(O6 hx).1;have b:=(O6 hy).1;rw[e,b] at a;exact(Z0 a).symm
def Rv:Option Nat→V
 | none=>.non
 | some t=>.int (t:Nat)
theorem Zgc(t:Option Nat)(s:Nat):decide (V.int (s:Nat)=Rv t)=decide (t=some s):=by
 cases t with
 | none=>
  rw[Zc (fun z=>nomatch z),Zc (fun z=>nomatch z)]
 | some u=>
  by_cases c:s=u
  ·subst c
   rw[Zd (show V.int (s:Nat)=Rv (some s) from rfl),Zd rfl]
  ·rw[Zc (fun z=>c (by injection z with z;omega)),Zc (fun z=>c (Z0 z).symm)]
theorem Dx(t:Option Nat)(s:Int):Znj (.int s) (Rv t)=true:=by cases t<;>rfl
theorem Zkd(t:Option Nat):U9 (Rv t)=true:=by cases t<;>rfl
def Xb(f:Fx)(t:Option Nat)(c o led:Nat):Bool:=
 if c / 8=o / 8 then decide (c / 8=led∨t=some (c / 8)) && decide (pos (o % 8) (if t=some (c / 8) then f.tr else f.pl) < pos (c % 8) (if t=some (c / 8) then f.tr else f.pl))
 else if t=some (c / 8) then true else decide (c / 8=led) && !decide (t=some (o / 8))
theorem Na{f:Fx}{t:Option Nat}{c o led:Nat}(h:c / 8=o / 8):Xb f t c o led=(decide (c / 8=led∨t=some (c / 8)) && decide (pos (o % 8) (if t=some (c / 8) then f.tr else f.pl) < pos (c % 8) (if t=some (c / 8) then f.tr else f.pl))):=Zu h
theorem Bc{f:Fx}{t:Option Nat}{c o led:Nat}(h:¬ c / 8=o / 8):Xb f t c o led=(if t=some (c / 8) then true else decide (c / 8=led) && !decide (t=some (o / 8))):=Zk h
theorem Mj(f:Fx)(t:Option Nat)(c o led:Nat):Xb f t c o led=true→Xb f t o c led=true→False:=by
 by_cases s:c / 8=o / 8
 ·rw[Na s,Na s.symm,← s]
  intro a b;rw[Bool.and_eq_true,decide_eq_true_eq,decide_eq_true_eq] at a b;omega
 ·rw[Bc s,Bc (fun z=>s z.symm)]
  by_cases c1:t=some (c / 8)
  ·have c2:¬ t=some (o / 8):=fun z=>s (by rw[c1] at z;exact Z0 z)
   rw[Zk c2];intro _ b;rw[Zd c1] at b;simp at b
  ·rw[Zk c1]
   by_cases c2:t=some (o / 8)
   ·intro a _
    rw[Zd c2] at a;simp at a
   ·rw[Zk c2]
    intro a b;rw[Bool.and_eq_true,decide_eq_true_eq] at a b;omega
theorem Ky{f:Fx}(ok:f.Ok){t:Option Nat}{c o led:Nat}(hc:c % 8 < f.h)(ho:o % 8 < f.h)(ne:c≠o)(s1:c / 8=led∨t=some (c / 8))(s2:o / 8=led∨t=some (o / 8)):Xb f t c o led=true∨Xb f t o c led=true:=by
 by_cases s:c / 8=o / 8
 ·rw[Na s,Na s.symm,← s,Zd s1,Bool.true_and,Bool.true_and,decide_eq_true_eq,decide_eq_true_eq]
  have hmem:∀ x,x < f.h→x∈(if t=some (c / 8) then f.tr else f.pl):=fun x hx=>by
   split
   ·exact ok.pt.symm.subset (Ya.mpr hx)
   ·exact ok.pp.symm.subset (Ya.mpr hx)
  have np:pos (c % 8) (if t=some (c / 8) then f.tr else f.pl)≠pos (o % 8) (if t=some (c / 8) then f.tr else f.pl):=fun z=>by
   have:=Zkz (hmem _ hc) (hmem _ ho) z;omega
  omega
 ·rw[Bc s,Bc (fun z=>s z.symm)]
  by_cases c1:t=some (c / 8)
  ·exact .inl (Zu c1)
  ·by_cases c2:t=some (o / 8)
   ·exact .inr (Zu c2)
   ·exfalso
    rcases s1 with s1 | s1
    ·rcases s2 with s2 | s2
     ·omega
     ·exact c2 s2
    ·exact c1 s1
theorem Zl2(s led:Nat)(t:Option Nat):Sj (.int (s:Nat)) [Rv t,.int (led:Nat)]=decide (s=led∨t=some s):=by
 have e:Sj (.int (s:Nat)) [Rv t,.int (led:Nat)]=(Rh (Rv t) (.int (s:Nat)) || (Rh (.int (led:Nat)) (.int (s:Nat)) || false)):=rfl;rw[e];have e1:Rh (Rv t) (.int (s:Nat))=decide (t=some s):=by
  cases t with
  | none=>rw[Zc (fun z=>nomatch z)];rfl
  | some u=>
   show(((u:Nat):Int) == (s:Nat))=_;by_cases c:u=s
   ·subst c;simp
   ·rw[Zc (fun z=>c (Z0 z))]
    exact beq_eq_false_iff_ne.mpr (by omega)
 have e2:Rh (.int (led:Nat)) (.int (s:Nat))=decide (s=led):=by
  show(((led:Nat):Int) == (s:Nat))=_;by_cases c:s=led
  ·subst c;simp
  ·rw[Zc c]
   exact beq_eq_false_iff_ne.mpr (by omega)
 rw[e1,e2];by_cases a:s=led<;>by_cases b:t=some s<;>simp [a,b]
theorem Zjk(x:Nat):∀(l:List Nat),Sj (.int (x:Nat)) (vN l)=decide (x∈l)
 | []=>by rw[Zc (Uh)];rfl
 | y :: l=>by
  have e:Sj (.int (x:Nat)) (vN (y :: l))=((((y:Nat):Int) == (x:Nat)) || Sj (.int (x:Nat)) (vN l)):=rfl;rw[e,Zjk x l];by_cases c:x=y
  ·subst c
   simp
  ·have b:(((y:Nat):Int) == (x:Nat))=false:=beq_eq_false_iff_ne.mpr (by omega)
   rw[b,Bool.false_or];by_cases d:x∈l
   ·rw[Zd d,Zd (Zz _ d)]
   ·rw[Zc d,Zc fun z=>by
     rcases Je.mp z with z | z
     ·exact c z
     ·exact d z]
theorem Dw:∀(l:List Nat),(vN l).all U9=true
 | []=>rfl
 | _ :: l=>by
  show(true && (vN l).all U9)=true;rw[Dw l];rfl
theorem Zdg{l:List Nat}{x:Nat}(h:x∈l):(l.map fun c=>((c:Nat):Int))[pos x l]? = some ((x:Nat):Int)∧∀ m < pos x l,(l.map fun c=>((c:Nat):Int))[m]?≠some ((x:Nat):Int):=by
 obtain⟨a,b⟩:=O6 h;refine⟨by rw[Z4,a];rfl,fun m hm z=>?_⟩;rw[Z4] at z;cases e:l[m]? with
 | none=>rw[e] at z;cases z
 | some y=>
  rw[e] at z;have:((y:Nat):Int)=(x:Nat):=Z0 z;have ey:y=x:=by omega
  rw[ey] at e;exact b m hm e
abbrev Za5:Stmt:=top 62
abbrev V4:Stmt:=Yq (top 64) 2
abbrev Zg4:Stmt:=Yq (top 64) 3
section
variable{P:Program}{w:World}{K:W.Frag}{mg:Str→Option Value}{base:Heap}{f g:Addr}{fd gd:FuncData}
theorem X2{a b:Bool}{A B:Prop}(e:a=b)(h:if b=true then A else B):if a=true then A else B:=by rw[e];exact h
theorem Zsc{a b:Bool}{Q:VK}{H:Hp}(e:a=b)(h:Q (.bl b) H):Q (.bl a) H:=by rw[e];exact h
def Zco(K:W.Frag):Sp:=fun vs H Q _=>∃(l:Addr) (ls:List Nat) (x y:Nat),vs=[.ref l,.int (x:Nat),.int (y:Nat)]∧SqL K H l (vN ls)∧ls.length≤1000∧x∈ls∧y∈ls∧Q (.bl (decide (pos y ls < pos x ls))) H
theorem Zks:FnScope ["order","height","other"] ["order","height","other"] (Zq Za5):=Uy (by decide +kernel)
theorem Zir{k:Nat}(F:Fun K "is_later" "is_later" Za5 f fd):FnOk P w K mg base Yr (k+1) f fd ["order","height","other"] (Zco K):=by
 refine F.ok Zks (fun vs H Q E h=>?_) (fun cdv A outer s H vs Q E hr h=>?_)
 ·obtain⟨l,ls,x,y,rfl,_⟩:=h
  rfl
 obtain⟨l,ls,x,y,rfl,hS,hl,hx,hy,q⟩:=h;refine⟨_,Zh (J5 (PW.pt (Qu (Ji Nb (pv 1) (pv 0) rfl) (Qf (Ji Nb (pv 2) (pv 0) rfl)))) (Zm (Z9 Up)) Jl)
  (Zm (Z9 (Ys Ek (Ej Yd PySem.F.slot_list_index PySem.F.type_list_index Sc (pv 0) (Za (pv 1) Zg)) (Ej Yd PySem.F.slot_list_index PySem.F.type_list_index Sc (pv 0) (Za (pv 2) Zg)) (Jg _)))),?_⟩
 refine⟨_,rfl,_,rfl,l,vN ls,rfl,.inl hS,rfl,Dw _,_,rfl,?_⟩;show(if(!Sj (.int (x:Nat)) (vN ls))=true then _ else _);rw[Zjk,Zd hx];refine Yb ⟨_,rfl,_,rfl,l,vN ls,rfl,.inl hS,rfl,Dw _,_,rfl,?_⟩;show(if(!Sj (.int (y:Nat)) (vN ls))=true then _ else _);rw[Zjk,Zd hy];refine Yb ?_;have hS':SqL K H l ((ls.map fun c=>((c:Nat):Int)).map V.int):=by rw[← Dv];exact hS
 have ll:(ls.map fun c=>((c:Nat):Int)).length≤1000:=by rw[Zj];exact hl
 refine⟨_,rfl,.inl ⟨rfl,_,hS⟩,_,rfl,l,_,_,pos x ls,rfl,rfl,hS',ll,(Zdg hx).1,(Zdg hx).2,?_⟩;refine⟨_,rfl,.inl ⟨rfl,_,hS⟩,_,rfl,l,_,_,pos y ls,rfl,rfl,hS',ll,(Zdg hy).1,(Zdg hy).2,_,_,rfl,rfl,?_⟩;have e:decide (((pos y ls:Nat):Int) < ((pos x ls:Nat):Int))=decide (pos y ls < pos x ls):=by
  by_cases c:pos y ls < pos x ls
  ·rw[Zd c,Zd (by omega)]
  ·rw[Zc c,Zc (by omega)]
 show Q (.bl (decide (((pos y ls:Nat):Int) < ((pos x ls:Nat):Int)))) H;rw[e];exact q
def O8(f:Fx)(t:Option Nat)(c:Nat):List Nat:=if t=some (c / 8) then f.tr else f.pl
theorem Kz{f:Fx}(ok:f.Ok){t:Option Nat}{c x:Nat}(hx:x < f.h):x∈O8 f t c:=by
 unfold O8;split
 ·exact ok.pt.symm.subset (Ya.mpr hx)
 ·exact ok.pp.symm.subset (Ya.mpr hx)
theorem Zh3{f:Fx}(ok:f.Ok){t:Option Nat}{c:Nat}:(O8 f t c).length≤1000:=by
 have h8:=ok.h8;unfold O8;split
 ·rw[Uo ok.pt];omega
 ·rw[Uo ok.pp];omega
def Bl(CT CG:Addr):Sp:=fun vs H Q _=>∃(gm x:Addr) (t:Option Nat) (f:Fx) (c o:Nat),vs=[.ref gm,.int (c:Nat),.int (o:Nat)]∧f.Ok∧IsGam CG x (Rv t) H gm∧IsTab CT f H x∧c % 8 < f.h∧o % 8 < f.h∧∀ H',Same H H'→Q (.bl (decide (pos (o % 8) (O8 f t c) < pos (c % 8) (O8 f t c)))) H'
theorem scStronger:FnScope ["self","card","other","order"] ["self","card","other"] (Zq V4):=Uy (by decide +kernel)
theorem K2{k:Nat}{CT CG f1 m3:Addr}{d1 e3:FuncData}{t1:Tok}(F:Fun K "is_stronger" "Game.is_stronger" V4 f fd)(C:TabC K mg CT)(CGm:GamC K mg CG)(LL:Lib P w K mg base k "is_later" ["order","height","other"] (Zco K) f1 d1)
  (MO:Meth K CT "order" m3) (FO:FnOk P w K mg base Yr k m3 e3 ["self","is_trump"] (Kc CT)) (BO:Binds K e3 ["self","is_trump"] []) (mH:mg "HEIGHTS" = some (.int 8 t1)):FnOk P w K mg base Yr (k+1) f fd ["self","card","other"] (Bl CT CG):=by
 refine F.ok scStronger (fun vs H Q E h=>?_) (fun cdv A outer s H vs Q E hr h=>?_)
 ·obtain⟨gm,x,t,fx,c,o,rfl,_⟩:=h
  rfl
 obtain⟨gm,x,t,fx,c,o,rfl,ok,hg,ht,hc,ho,q⟩:=h;refine⟨_,Zh (Jf (i:=3) scStronger.nd rfl (Or.inl rfl) (Uj (Jt (pv 0) rfl) C.cl MO FO hr BO .nil Ja (Za (Ys Uq (Jd Ua (pv 1) (Y9 (v:=.int 8) rfl mH ⟨_,rfl⟩)) (Jt (pv 0) rfl) (Jg _)) Zg)))
  (Zm (Z9 (Z1 LL.ok hr rfl LL.mg LL.kp LL.bd .nil Ja (Za (pv 3) (Za (Jd Yv (pv 1) (Y9 (v:=.int 8) rfl mH ⟨_,rfl⟩)) (Za (Jd Yv (pv 2) (Y9 (v:=.int 8) rfl mH ⟨_,rfl⟩)) Zg)))))),?_⟩
 obtain⟨dg,hG⟩:=id hg;obtain⟨dx,po,to,hX,_,_⟩:=id ht;have e1:((c:Nat):Int) / 8=((c / 8:Nat):Int):=by omega
 refine⟨_,rfl,gm,CG,dg,_,_,rfl,hG,CGm.cl,CGm.nT,Yt _ _,x,dx,_,rfl,hX,Sg _ _ _,?_⟩;refine⟨_,rfl,_,_,rfl,rfl,⟨by decide,by decide⟩,_,rfl,gm,CG,dg,_,_,rfl,hG,CGm.cl,CGm.nU,Q4 _ _,Dx _ _,x,fx,decide (t=some (c / 8)),?_,ht,fun l H1 s1 hl hL=>?_⟩
 ·show V.ref x :: ([V.bl (decide (V.int (((c:Nat):Int) / 8)=Rv t))]++[])=[V.ref x,V.bl (decide (t=some (c / 8)))]
  rw[e1,Zgc];rfl
 have eo:Zh4 fx (decide (t=some (c / 8)))=O8 fx t c:=by
  unfold Zh4 O8;by_cases z:t=some (c / 8)
  ·rw[Zu z,Zu (Zd z)]
  ·rw[Zk z,Zk (by rw[Zc z];decide)]
 rw[eo] at hL;have e2:((c:Nat):Int) % 8=((c % 8:Nat):Int):=by omega
 have e3:((o:Nat):Int) % 8=((o % 8:Nat):Int):=by omega
 refine⟨_,rfl,_,rfl,_,_,rfl,rfl,(show(0:Int) < 8 by decide),_,rfl,_,_,rfl,rfl,(show(0:Int) < 8 by decide),l,O8 fx t c,c % 8,o % 8,?_,SqL.of hL,Zh3 ok,Kz ok hc,Kz ok ho,q _ s1⟩;dsimp only;rw[e2,e3];rfl
def D7(CT CG:Addr):Sp:=fun vs H Q _=>∃(gm x:Addr) (t:Option Nat) (f:Fx) (c o led:Nat),vs=[.ref gm,.int (c:Nat),.int (o:Nat),.int (led:Nat)]∧f.Ok∧IsGam CG x (Rv t) H gm∧IsTab CT f H x∧c % 8 < f.h∧o % 8 < f.h∧∀ H',Same H H'→Q (.bl (Xb f t c o led)) H'
abbrev Ro:List Str:=["self","card","other","led"]
theorem scOver:FnScope ["self","card","other","led","suit"] Ro (Zq Zg4):=Uy (by decide +kernel)
theorem Zdq(a b:Nat):decide (V.int (a:Nat)=V.int (b:Nat))=decide (a=b):=by
 by_cases c:a=b
 ·subst c
  rw[Zd rfl,Zd rfl]
 ·rw[Zc c,Zc (fun z=>c (by injection z with z;omega))]
theorem Zlh{k:Nat}{CT CG m3:Addr}{e3:FuncData}{t1:Tok}(F:Fun K "is_over" "Game.is_over" Zg4 f fd)(CGm:GamC K mg CG)(MS:Meth K CG "is_stronger" m3)(FS:FnOk P w K mg base Yr k m3 e3 ["self","card","other"] (Bl CT CG))(BS:Binds K e3 ["self","card","other"] [])(mH:mg "HEIGHTS" = some (.int 8 t1)) :
  FnOk P w K mg base Yr (k+1) f fd Ro (D7 CT CG):=by
 refine F.ok scOver (fun vs H Q E h=>?_) (fun cdv A outer s H vs Q E hr h=>?_)
 ·obtain⟨gm,x,t,fx,c,o,led,rfl,_⟩:=h
  rfl
 obtain⟨gm,x,t,fx,c,o,led,rfl,ok,hg,ht,hc,ho,q⟩:=h;refine⟨_,Zh (Jf (i:=4) scOver.nd rfl (Or.inl rfl) (Jd Ua (pv 1) (Y9 (v:=.int 8) rfl mH ⟨_,rfl⟩)))
  (Zh (J5 (Ji Uq (pv 4) (Jd Ua (pv 2) (Y9 (v:=.int 8) rfl mH ⟨_,rfl⟩)) (Jg _)) (Zm (Z9 (Xz (Ys Rb (pv 4) (Um (Za (Jt (pv 0) rfl) (Za (pv 3) Zg))) rfl) (U8 (Uj (pv 0) CGm.cl MS FS hr BS .nil Ja (Za (pv 1) (Za (pv 2) Zg))))))) Jl)
  (Zh (J5 (Ji Uq (pv 4) (Jt (pv 0) rfl) (Jg _)) (Zm (Z9 Up)) Jl)
  (Zm (Z9 (Xz (Ys Uq (pv 4) (pv 3) (Jg _)) (U8 (Ys Vj (Jd Ua (pv 2) (Y9 (v:=.int 8) rfl mH ⟨_,rfl⟩)) (Jt (pv 0) rfl) (Jg _)))))))),?_⟩
 obtain⟨dg,hG⟩:=id hg;have e1:((c:Nat):Int) / 8=((c / 8:Nat):Int):=by omega
 have e2:((o:Nat):Int) / 8=((o / 8:Nat):Int):=by omega
 refine⟨_,rfl,_,_,rfl,rfl,⟨by decide,by decide⟩,?_⟩;dsimp only;rw[e1];refine⟨_,rfl,_,rfl,_,_,rfl,rfl,⟨by decide,by decide⟩,rfl,_,rfl,?_⟩;refine X2 (congrArg (fun z=>decide (V.int ((c / 8:Nat):Int)=V.int z)) e2) ?_;rw[Zdq];by_cases sm:c / 8=o / 8
 ·rw[Zd sm]
  refine Ym ⟨_,rfl,_,rfl,gm,CG,dg,_,_,rfl,hG,CGm.cl,CGm.nU,Q4 _ _,_,rfl,J2 2 (by decide),fun p hp=>?_⟩;have s1:=Z5 hp (.tup [Rv t,.int (led:Nat)]);have fl:[Rv t,V.int (led:Nat)].all U9=true:=by
   show(U9 (Rv t) && (true && true))=true;rw[Zkd];rfl
  refine⟨p,[Rv t,.int (led:Nat)],rfl,.inr (SqT.of Zo),rfl,fl,?_⟩;show ∃ b,V.bl (Sj (.int ((c / 8:Nat):Int)) [Rv t,.int (led:Nat)])=_∧_;rw[Zl2];refine⟨_,rfl,?_⟩;by_cases sg:c / 8=led∨t=some (c / 8)
  ·rw[Zd sg]
   refine Ym ⟨_,rfl,gm,dg,_,rfl,s1 _ _ hG,Ev _ _ _ (by decide +kernel) (by decide +kernel),_,rfl,_,rfl,gm,x,t,fx,c,o,rfl,ok,hg.same s1,ht.same s1,hc,ho,fun H2 s2=>?_⟩;have z:=q H2 (s1.trans s2);rw[Na sm,Zd sg,Bool.true_and] at z;exact z
  ·rw[Zc sg]
   refine Yb ?_;have z:=q _ s1;rw[Na sm,Zc sg,Bool.false_and] at z;exact z
 ·rw[Zc sm]
  refine Yb ⟨_,rfl,_,rfl,gm,CG,dg,_,_,rfl,hG,CGm.cl,CGm.nU,Q4 _ _,Dx _ _,_,rfl,?_⟩;have z:=q H (Same.refl _);rw[Bc sm] at z;rw[Zgc];by_cases c1:t=some (c / 8)
  ·rw[Zd c1]
   rw[Zu c1] at z;exact Ym z
  ·rw[Zc c1]
   rw[Zk c1] at z;refine Yb ⟨_,rfl,_,rfl,rfl,_,rfl,?_⟩;rw[Zdq];by_cases c2:c / 8=led
   ·rw[Zd c2]
    rw[Zd c2,Bool.true_and] at z;refine Ym ⟨_,rfl,_,_,rfl,rfl,⟨by decide,by decide⟩,_,rfl,gm,CG,dg,_,_,rfl,hG,CGm.cl,CGm.nU,Q4 _ _,Dx _ _,?_⟩;refine Zsc (congrArg (fun z=>(!decide (V.int z=Rv t))) e2) ?_;rw[Zgc];exact z
   ·rw[Zc c2]
    rw[Zc c2,Bool.false_and] at z;exact Yb z
end
end My
namespace L2
open PySem PySem.Spec PyProof.Rows
open AutoSeq1 (wpAny_loadPart')
section
variable{prog:Program}{w:World}{A:Around}{E:Value→Shared→Prop}{s:Shared}{it t:Addr}{i:Nat}{items:Array Value}
theorem Zbr{x:Value}{Q:Value→Shared→Prop}(hI:s.heap.IsTupleIter it t i)(hT:s.heap.IsTuple t items)(hx:items[i]? = some x)
  (q:∀ h',h'.IsTupleIter it t (i+1)→Heap.SameBut it s.heap h'→Q x { s with heap:=h' }):wpAny (model prog w) A (Builtin.SmallTypes.nextOf (.ref it)) Q E s:=by
 obtain⟨o,g1,g2,g3⟩:=id hI;obtain⟨ot,k1,_,_,k2⟩:=hT;unfold Builtin.SmallTypes.nextOf;refine Zb (wpAny_callSpecial?_slot (name:=Str.ofString "__next__") hI.typeIs F.slot_tuple_iterator_next (wpAny_call_entry F.slot_tuple_iterator_next hI.typeIs F.entry_tuple_iterator_next ?_ (F.args_tuple_iterator_next_1 _)));show wpAny _ _ (field (.ref it) 0 >>= _) _ _ s;refine Zb (wpAny_field g1 g3 (x:=.ref t) rfl ?_);show wpAny _ _ (if(Value.ref t == Value.none)=true then _ else _) _ _ s;rw[Zk (show ¬ ((Value.ref t == Value.none)=true) from Zr)];show wpAny _ _ (field (.ref it) 1 >>= _) _ _ s;refine Zb (wpAny_field g1 g3 (x:=.int i 0) rfl ?_);show wpAny _ _ (seqItems? (.ref t) >>= _) _ _ s;refine Zb (wpAny_seqItems k1 k2 ?_);simp only[Z2,hx];exact Zb (wpAny_setField g1 g3 (by simp) (Ze ⟨x,rfl,Ze (q _ ⟨_,Heap.get?_update_self _ g1 (Obj.isFreed_of_fields (Obj.data_mapFields g3 _)),(Obj.cls_mapFields ..).trans g2,by rw[Obj.data_mapFields g3];simp [rawInt]⟩ (Heap.SameBut.update ..))⟩))
theorem Rp{Q:Value→Shared→Prop}(hh:A.handled=none)(hI:s.heap.IsTupleIter it t i)(hT:s.heap.IsTuple t items)(hx:items[i]? = none)
  (q:∀ h' e,Heap.ExtBut it s.heap h'→(∃ o,h'.get? e=some o∧o.cls = .type "StopIteration")→E (.ref e) { s with heap:=h' }):wpAny (model prog w) A (Builtin.SmallTypes.nextOf (.ref it)) Q E s:=by
 obtain⟨o,g1,g2,g3⟩:=id hI;obtain⟨ot,k1,_,_,k2⟩:=hT;unfold Builtin.SmallTypes.nextOf;refine Zb (wpAny_callSpecial?_slot (name:=Str.ofString "__next__") hI.typeIs F.slot_tuple_iterator_next (wpAny_call_entry F.slot_tuple_iterator_next hI.typeIs F.entry_tuple_iterator_next ?_ (F.args_tuple_iterator_next_1 _)));show wpAny _ _ (field (.ref it) 0 >>= _) _ _ s;refine Zb (wpAny_field g1 g3 (x:=.ref t) rfl ?_);show wpAny _ _ (if(Value.ref t == Value.none)=true then _ else _) _ _ s;rw[Zk (show ¬ ((Value.ref t == Value.none)=true) from Zr)];show wpAny _ _ (field (.ref it) 1 >>= _) _ _ s;refine Zb (wpAny_field g1 g3 (x:=.int i 0) rfl ?_);show wpAny _ _ (seqItems? (.ref t) >>= _) _ _ s;refine Zb (wpAny_seqItems k1 k2 ?_);simp only[Z2,hx];refine Zb (wpAny_rule (Zb (wpAny_setField g1 g3 (by simp) ?_)));show wpAny _ _ (newExc (.type "StopIteration") [] >>= _) _ _ _;refine Zb ?_;simp only[newExc,newTuple];refine Zb (wpAny_newObj_type (Zb (m:=firstArgMember _ _) (wpAny_of_eq (a:=Value.none) (by first | rfl | (simp only[firstArgMember];rfl)) (wpAny_newObj_type ?_ (by size_fits)))) (by size_fits));simp only[raiseNew];refine Zb (wpAny_handled ?_);first | rw[show A.in1.handled=none from hh] | rw[hh]
 exact Zb (Ze (wpAny_throw (q _ _ (((Heap.SameBut.update ..).extBut.push _).push _) ⟨_,Z6 _ rfl,rfl⟩)))
end
theorem Zfn{prog:Program}{w:World}{A:Around}(hh:A.handled=none)(it t:Addr)(hne:t≠it)(items:Array Value) :
  Draws prog w A it [it,t] items.size (fun i v=>items[i]? = some v) (fun i h=>h.IsTupleIter it t i∧h.IsTuple t items) where
 live:=fun _ _ z=>let ⟨o,ho,_⟩:=z.1;⟨o,ho⟩
 frame:=fun _ _ _ z k=>⟨z.1.at fun o e=>k it (by simp) o e,let ⟨o,ho,r⟩:=z.2;⟨o,k t (by simp) o ho,r⟩⟩
 item:=fun i s Q E hi z q=>by
  refine Zbr z.1 z.2 (x:=items[i]) (by simp [hi]) fun h' a b=>?_;obtain⟨o,ho,r⟩:=z.2;exact q _ h' s.toks (by simp [hi]) ⟨a,o,b.extBut t o hne ho,r⟩ b
 done:=fun s Q E z q=>Rp hh z.1 z.2 (by simp) q
theorem Sf(l:Addr)(items:Array Value)(n:Nat)(dct:Option Addr)(sl:Array (Option Value)) :
  Meets (Builtin.«enumerate.__new__» ⟨[.type "enumerate",.ref l],[]⟩) (fun _ R s=>s.heap.get? l=some { cls:=.type "tuple",dict:=dct,data:=.seq items n,slots:=sl } ∧
   R (.ok (.ret (.ref (s.heap.push { cls:=.type "tuple_iterator",data:=.fields #[.ref l,.int 0 0] }).objs.size)))
    { s with heap:=(s.heap.push { cls:=.type "tuple_iterator",data:=.fields #[.ref l,.int 0 0] }).push { cls:=.type "enumerate",data:=.fields #[.none,.bool false,.ref s.heap.objs.size,rawInt 0,.none,.none] } }):=
 .of_wp fun prog w A R s h=>by
  obtain⟨hp,g,d,tk,os⟩:=s;obtain⟨hl,h⟩:=h;have hq:=sub_enumerate;have hT:Heap.IsTuple (Shared.heap ⟨hp,g,d,tk,os⟩) l items:=⟨_,hl,rfl,n,rfl⟩
  wp_walk using wpAny_loadPart' hl
  refine wpAny_stack_any fun _=>Ze ?_;split
  ·rename_i c _ _ _ _ _
   cases (c == Value.type "enumerate")<;>(wp_walk using wpAny_loadPart' hl,wpAny_pyIter_tuple hT;exact⟨_,rfl,h⟩)
  ·wp_walk using wpAny_loadPart' hl,wpAny_pyIter_tuple hT
   exact⟨_,rfl,h⟩
theorem Zb8{prog:Program}{w:World}{A:Around}{E:Value→Shared→Prop}{s:Shared}{l:Addr}{items:Array Value}{Q:Value→Shared→Prop}(hT:s.heap.IsTuple l items)
  (q:∀ h',IsEnum h' (s.heap.objs.size+1) s.heap.objs.size 0 .none→h'.IsTupleIter s.heap.objs.size l 0→h'.objs.size=s.heap.objs.size+2→(∀ b o,s.heap.get? b=some o→h'.get? b=some o)→Q (.ref (s.heap.objs.size+1)) { s with heap:=h' }) :
  wpAny (model prog w) A (call (.type "enumerate") [.ref l]) Q E s:=by
 obtain⟨⟨c,dct,dt,sl⟩,hl,hc,n,hd⟩:=hT
 replace hc:c = .type "tuple":=hc
 replace hd:dt = .seq items n:=hd
 subst hc hd;refine callType_new F.called_enumerate (by decide) (F.typeCall_enumerate_1 _) (F.newCall_enumerate_1 _) (fun ob=>F.args_object_init_2 ob _) F.entry_enumerate_new (Sf l items n dct sl) ⟨hl,?_⟩;have hz:(s.heap.push { cls:=.type "tuple_iterator",data:=.fields #[.ref l,.int 0 0] }).objs.size=s.heap.objs.size+1:=Heap.size_push ..;show _∧_;rw[hz];have he:IsEnum ((s.heap.push { cls:=.type "tuple_iterator",data:=.fields #[.ref l,.int 0 0] }).push { cls:=.type "enumerate",data:=.fields #[.none,.bool false,.ref s.heap.objs.size,rawInt 0,.none,.none] }) (s.heap.objs.size+1) s.heap.objs.size 0 .none:=by
  have z:=Z6 (s.heap.push { cls:=.type "tuple_iterator",data:=.fields #[.ref l,.int 0 0] }) (o:={ cls:=.type "enumerate",data:=.fields #[.none,.bool false,.ref s.heap.objs.size,rawInt 0,.none,.none] }) rfl;rw[hz] at z;exact z
 exact⟨⟨_,he,rfl⟩,q _ he ⟨_,Zi _ (Z6 _ rfl),rfl,rfl⟩ (by rw[Heap.size_push,hz]) fun b o x=>Zi _ (Zi _ x)⟩
def Zf1(K:W.Frag)(a:Addr):It:=
 ⟨fun i H=>∃ xs x,SqT K H a xs∧xs[i]? = some x,fun i H v H'=>∃ p x,v = .ref p∧H p=none∧H'=upd H p (.tup [.int (i:Nat),x])∧∀ xs,SqT K H a xs→xs[i]? = some x,fun i H=>∃ xs,SqT K H a xs∧xs.length≤i⟩
theorem Zae{P:Program}{w:World}{K:W.Frag}{es:List Expr}{x1}{tp:Pos}(a e it:Addr)(hne:e≠it):Turn P w K (.Tuple es x1 tp) (Zf1 K a) [e,it] e (fun i h=>(∃ old,IsEnum h e it i old)∧h.IsTupleIter it a i) where
  mem:=by simp
  obj:=fun i h st b hb=>by
    obtain⟨⟨old,he⟩,⟨o,ho,c,d⟩⟩:=st;rcases Je.mp hb with rfl | hb
    · exact⟨_,he,fun v z=>by cases z⟩
    · have q:b=it:=by simpa using hb
      subst q;exact⟨o,ho,fun v z=>by rw[d] at z;cases z⟩
  keep:=fun i h h' st k=>by
    obtain⟨⟨old,he⟩,hi⟩:=st;exact⟨⟨old,k e (by simp) _ he⟩,hi.at fun o q=>k it (by simp) o q⟩
  item:=by
    intro X hP hw hK hc i pins s σ H E I hf st hg;subst hP hw hK;obtain⟨xs,x,hq,hx⟩:=hg;obtain⟨⟨old,he⟩,hit⟩:=st;obtain⟨its,rv,p,hz⟩:=I.tuple hq;obtain⟨u,hu,ru⟩:=rv.get hx;obtain⟨a0,a1,a2,a3,a4,a5⟩:=hf e (by simp);obtain⟨f0,f1,f2,f3,f4,f5⟩:=hf it (by simp);have pT:s.heap.IsTuple a its.toArray:=p;obtain⟨oi,hoi,ci,di⟩:=id hit;obtain⟨oa,hoa,ca,_⟩:=id pT;have n1:a≠it:=fun z=>by
      rw[z,hoi] at hoa;cases hoa;rw[ca] at ci;exact absurd ci (by decide)
    have n2:a≠e:=fun z=>by
      rw[z,he] at hoa;cases hoa;exact absurd (show Value.type "enumerate" = Value.type "tuple" from ca) (by decide)
    refine wpAny_pyNext_enum_itemD (Zfn (A:=X.A.in1) (I.ok.hd hc) it a n1 its.toArray) he ⟨hit,pT⟩ (by
      have:=(Zx.mp hu).1
      simpa using this) hne (by
        intro z;rcases Je.mp z with z | z
        · exact hne z
        · exact n2 (Jb.mp z).symm) fun x' h' tk hx' eo hst ht hsz hk=>⟨_,rfl,?_⟩
    have ex:x'=u:=by
      have z:its[i]? = some x':=by simpa using hx'
      rw[hu] at z;exact(Z0 z).symm
    subst ex;refine wpAny_letOwnedTupleGo_enum eo fun h2 he2 sb2=>?_;have sb2':Heap.SameBut e h' h2:=sb2;have hn:H s.heap.objs.size=none:=I.fresh;have le:e < s.heap.objs.size:=Z8 he;have li:it < s.heap.objs.size:=Z8 hoi;have I1:Inv X pins σ (upd H s.heap.objs.size (.tup [.int (i:Nat),x])) { s with heap:=s.heap.push { cls:=.type "tuple",data:=.seq #[.int i tk,x'] },toks:=tk+1 }:=
      I.laid (t':=tk+1) (fun b ob q=>Zi _ q) (Zs _) ⟨by rw[sizeLine_eq];show 2≤_;decide,[.int i tk,x'],.cons ⟨_,rfl⟩ (.cons ru .nil),IsTup.new _ _⟩
    obtain⟨oi2,hoi2,ci2,di2⟩:=id hst.1;have hoi3:h2.get? it=some oi2:=(sb2'.2 it (Ne.symm hne)).trans hoi2;have gi:((s.heap.push { cls:=.type "tuple",data:=.seq #[.int i tk,x'] }).update it (fun _=>oi2)).get? it=some oi2:=Heap.get?_update_self _ (Zi _ hoi) (Obj.isFreed_of_fields di2);have I2:=I1.turned (h':=(s.heap.push { cls:=.type "tuple",data:=.seq #[.int i tk,x'] }).update it (fun _=>oi2)) (t':=tk+1) (it:=it) (fun b o hb q=>(Heap.get?_update_other _ _ (Ne.symm hb)).trans q) (by rw[Jh (Jn li)];exact f0) f1 f3 f4 f5;have I3:=I2.turned (h':=h2) (t':=tk+1) (it:=e) (fun b o hb q=>by
      by_cases c:b=it
      · subst c
        have q':=gi.symm.trans q;cases q';exact hoi3
      · have q1:(s.heap.push { cls:=.type "tuple",data:=.seq #[.int i tk,x'] }).get? b=some o:=(Heap.get?_update_other _ _ (Ne.symm c)).symm.trans q
        by_cases d:b=s.heap.objs.size
        · subst d
          have q2:=(Z6 s.heap (o:={ cls:=.type "tuple",data:=.seq #[.int i tk,x'] }) rfl).symm.trans q1;cases q2;exact(sb2'.2 _ hb).trans ht
        · rw[Heap.get?_push_ne _ _ _ d] at q1
          exact(sb2'.2 b hb).trans (hk b o hb c q1)) (by rw[Jh (Jn le)];exact a0) a1 a3 a4 a5
    refine⟨.ref s.heap.objs.size,_,I3,rfl,⟨s.heap.objs.size,x,rfl,hn,rfl,fun ys hy=>by rw[I.tuple_inj hy hq];exact hx⟩,⟨⟨_,he2⟩,oi2,hoi3,ci2,di2⟩,fun b hb=>?_⟩;rcases Je.mp hb with rfl | hb
    · rw[Jh (Jn le)];exact a0
    · have q:b=it:=by simpa using hb
      subst q;rw[Jh (Jn li)];exact f0
  done:=by
    intro X hP hw hK hc i pins s σ H E I hf st hg;subst hP hw hK;obtain⟨xs,hq,hx⟩:=hg;obtain⟨⟨old,he⟩,hit⟩:=st;obtain⟨its,rv,p,hz⟩:=I.tuple hq;have pT:s.heap.IsTuple a its.toArray:=p;obtain⟨f0,f1,f2,f3,f4,f5⟩:=hf it (by simp);have hl:=rv.length;have hT:s.TypeIs (.ref e) "enumerate":=⟨_,he,rfl⟩;unfold pyNext;refine Zb (wpAny_attempt (wpAny_callSpecial?_slot (name:=Str.ofString "__next__") hT F.slot_enumerate_next (wpAny_call_entry F.slot_enumerate_next hT F.entry_enumerate_next ?_ (F.args_enumerate_next_1 _))));show wpAny _ _ (field (.ref e) 2 >>= _) _ _ _;refine Zb (wpAny_field he rfl (x:=.ref it) rfl ?_);refine Zb (Rp (I.ok.hd hc) hit pT (by simp;omega) fun h' x eb hx'=>?_);obtain⟨o,ho,hc'⟩:=hx';exact Zb (wpAny_isInstance (T:="StopIteration") (b:=true) ⟨o,ho,hc'⟩ isSubtype_stop (Ze ⟨rfl,I.turned (t':=s.toks) (fun b o hb e=>eb b o hb e) f0 f1 f3 f4 f5⟩))
  self:=fun _ _ _ _ _ st h=>by
    obtain⟨⟨old,he⟩,_⟩:=st;exact wpAny_pyIter_enum he h
section
variable{X:Cx}
def Zo9(K:W.Frag)(ta:TA):TI:=fun σ H R=>ta σ H fun vs H1=>∃ a xs,vs=[.ref a]∧SqT K H1 a xs∧R (Zf1 K a) H1
theorem Kp{es:List Expr}{x1}{tp p pos:Pos}{l:Expr}{ta:TA}(hg:Gl X "enumerate")(hm:X.mg "enumerate" = none)(ha:PA X [l] ta)(hs:starEach [l] X.env=[(false,eval l X.env)]:=by rfl):PI X (.Tuple es x1 tp) (.Call (.Name "enumerate" p) [l] [] pos) (Zo9 X.K ta):=by
 intro pins s σ H R I h;refine Call_ (T4 I hg hm boot_enumerate (PyProof.Rows.callWith_type1 (Uc (ha pos pins s σ H _ I h) fun us s1 ⟨vs,H1,I1,r1,q1⟩=>?_) hs rfl));obtain⟨a,xs,rfl,hL,q⟩:=q1;obtain⟨u,rfl,ru⟩:=Qt r1;cases ru;obtain⟨its,rv,pT,hz⟩:=I1.tuple hL;refine Zb8 (show s1.heap.IsTuple a its.toArray from pT) fun h' en li sz hk=>?_;have I2:Inv X pins σ H1 { s1 with heap:=h' }:=I1.kept (t':=s1.toks) hk;refine wpAny_pyIter_enum en ⟨s1.heap.objs.size+1,[s1.heap.objs.size+1,s1.heap.objs.size],_,Zf1 X.K a,H1,rfl,I2,Zae a _ _ (Nat.succ_ne_self _),⟨⟨_,en⟩,li⟩,fun b hb=>?_,q⟩;have hb':s1.heap.objs.size≤b:=by
  rcases Je.mp hb with rfl | hb
  ·exact Nat.le_succ _
  ·have q:b=s1.heap.objs.size:=by simpa using hb
   rw[q];exact Zs _
 exact I1.fpOk (H':=H1) hb' (I1.hok.fresh hb')
end
end L2
namespace My
open PySem L2
theorem Th(x:Nat):∀ l:List Nat,pos x l≤l.length
 | []=>Zs _
 | y :: l=>by
  unfold pos;have:=Th x l;split
  ·exact Nat.zero_le _
  ·exact Nat.succ_le_succ this
def rk(f:Fx)(t:Option Nat)(led c:Nat):Nat:=
 if t=some (c / 8) then 20+pos (c % 8) f.tr else if c / 8=led then 10+pos (c % 8) f.pl else 0
theorem Gi{f:Fx}(ok:f.Ok)(t:Option Nat)(c o led:Nat):Xb f t c o led=decide (rk f t led o < rk f t led c):=by
 have l1:∀ x,pos x f.tr≤8:=fun x=>Jc (Th x _) (by rw[Uo ok.pt];exact ok.h8);have l2:∀ x,pos x f.pl≤8:=fun x=>Jc (Th x _) (by rw[Uo ok.pp];exact ok.h8);have a1:=l1 (c % 8);have a2:=l1 (o % 8);have a3:=l2 (c % 8);have a4:=l2 (o % 8);unfold rk;by_cases s:c / 8=o / 8
 ·rw[Na s,← s]
  by_cases c1:t=some (c / 8)
  ·rw[Zu c1,Zu c1,Zu c1,Zd (Or.inr c1),Bool.true_and]
   exact decide_eq_decide.mpr ⟨fun h=>by omega,fun h=>by omega⟩
  ·rw[Zk c1,Zk c1,Zk c1]
   by_cases c2:c / 8=led
   ·rw[Zu c2,Zu c2,Zd (Or.inl c2),Bool.true_and]
    exact decide_eq_decide.mpr ⟨fun h=>by omega,fun h=>by omega⟩
   ·rw[Zk c2,Zk c2,Zc (fun z=>z.elim c2 c1),Bool.false_and]
    exact(Zc (Nat.lt_irrefl 0)).symm
 ·rw[Bc s]
  by_cases c1:t=some (c / 8)
  ·have c2:¬ t=some (o / 8):=fun z=>s (by rw[c1] at z;exact Z0 z)
   rw[Zu c1,Zu c1,Zk c2];refine(Zd ?_).symm;split<;>omega
  ·rw[Zk c1,Zk c1]
   by_cases c2:t=some (o / 8)
   ·rw[Zu c2,Zd c2]
    show(decide (c / 8=led) && false)=_;rw[Bool.and_false];refine(Zc ?_).symm;split<;>omega
   ·rw[Zk c2,Zc c2]
    show(decide (c / 8=led) && true)=_;rw[Bool.and_true];by_cases c3:c / 8=led
    ·rw[Zu c3,Zk (fun z=>s (c3.trans z.symm)),Zd c3]
     exact(Zd (by omega)).symm
    ·rw[Zk c3,Zc c3]
     exact(Zc (Nat.not_lt_zero _)).symm
theorem Znw{f:Fx}(ok:f.Ok){t:Option Nat}{led c o:Nat}(hc:c % 8 < f.h)(ho:o % 8 < f.h)(h10:10≤rk f t led c)(e:rk f t led c=rk f t led o):c=o:=by
 by_cases ne:c=o
 ·exact ne
 ·exfalso
  have l1:∀ x,pos x f.tr≤8:=fun x=>Jc (Th x _) (by rw[Uo ok.pt];exact ok.h8);have l2:∀ x,pos x f.pl≤8:=fun x=>Jc (Th x _) (by rw[Uo ok.pp];exact ok.h8);have st:∀ c,10≤rk f t led c→c / 8=led∨t=some (c / 8):=fun c h=>by
   unfold rk at h;by_cases c1:t=some (c / 8)
   ·exact .inr c1
   ·rw[Zk c1] at h
    by_cases c2:c / 8=led
    ·exact .inl c2
    ·rw[Zk c2] at h
     omega
  rcases Ky ok (t:=t) (led:=led) hc ho ne (st c h10) (st o (by omega)) with z | z
  ·rw[Gi ok,decide_eq_true_eq] at z
   omega
  ·rw[Gi ok,decide_eq_true_eq] at z
   omega
theorem Znv(f:Fx)(t:Option Nat)(c:Nat):10≤rk f t (c / 8) c:=by
 unfold rk;by_cases c1:t=some (c / 8)
 ·rw[Zu c1];omega
 ·rw[Zk c1,Zu rfl];omega
def Win(f:Fx)(t:Option Nat)(led:Nat)(ys:List Nat)(h:Nat):Prop:=∃ m,ys[h]? = some m∧∀ c∈ys,c≠m→Xb f t m c led=true
structure Trk(f:Fx)(ys:List Nat):Prop where
 nd:ys.Nodup
 ht:∀ c∈ys,c % 8 < f.h
 ne:0 < ys.length
def Yg(ys:List Nat):Nat:=ys.getD 0 0 / 8
theorem Zf3{f:Fx}(ok:f.Ok){t:Option Nat}{ys:List Nat}(T:Trk f ys){h:Nat}(hh:h < ys.length)(hm:∀ j,j < ys.length→rk f t (Yg ys) (ys.getD j 0)≤rk f t (Yg ys) (ys.getD h 0)):Win f t (Yg ys) ys h:=by
 have at_:∀ i,i < ys.length→ys[i]? = some (ys.getD i 0):=fun i hi=>by rw[Zp,Zf hi];rfl
 refine⟨_,at_ h hh,fun c hc n=>?_⟩;obtain⟨j,hj,e⟩:=Y0.mp hc;have ej:ys.getD j 0=c:=by rw[Zp,Zf hj,e];rfl
 have m0:=Znv f t (ys.getD 0 0);have m1:=hm 0 T.ne;have mj:=hm j hj;rw[ej] at mj;have hmem:ys.getD h 0∈ys:=Zl (at_ h hh);rw[Gi ok,decide_eq_true_eq];rcases Nat.lt_or_eq_of_le mj with z | z
 ·exact z
 ·exact absurd (Znw ok (T.ht _ hmem) (T.ht c hc) (Jc m0 m1) z.symm).symm n
theorem Zf4{f:Fx}{t:Option Nat}{led:Nat}{ys zs:List Nat}(hp:∀ c,c∈ys↔c∈zs){h k:Nat}(a:Win f t led ys h)(b:Win f t led zs k):ys[h]? = zs[k]?:=by
 obtain⟨m,hm,am⟩:=a;obtain⟨n,hn,bn⟩:=b;by_cases e:m=n
 ·rw[hm,hn,e]
 ·exfalso
  have x:=am n ((hp n).mpr (Zl hn)) (Ne.symm e);have y:=bn m ((hp m).mp (Zl hm)) e;exact Mj f t m n led x y
theorem Zqt{ys:List Nat}(nd:ys.Nodup){i j:Nat}{c:Nat}(a:ys[i]? = some c)(b:ys[j]? = some c):i=j:=by
 obtain⟨hi,ei⟩:=Zx.mp a;obtain⟨hj,ej⟩:=Zx.mp b;have pw:=List.pairwise_iff_getElem.mp nd;rcases Nat.lt_trichotomy i j with z | z | z
 ·exact absurd (ei.trans ej.symm) (pw i j hi hj z)
 ·exact z
 ·exact absurd (ej.trans ei.symm) (pw j i hj hi z)
theorem Zf2{f:Fx}{t:Option Nat}{led:Nat}{ys:List Nat}(nd:ys.Nodup){h k:Nat}(a:Win f t led ys h)(b:Win f t led ys k):h=k:=by
 have e:=Zf4 (fun _=>Iff.rfl) a b;obtain⟨m,hm,_⟩:=a;exact Zqt nd hm (e.symm.trans hm)
theorem Db{K:PySem.W.Frag}{a:Addr}{xs:List V}{g:TG}{tb:TS}{D:Ends}{σ:St}{H:Hp}(Pv:Nat→St→Hp→Prop)(h0:Pv 0 σ H)(hS:∀ i σ H,Pv i σ H→SqT K H a xs)
  (hs:∀ i x p σ H,xs[i]? = some x→Pv i σ H→H p=none→g (.ref p) σ (upd H p (.tup [.int (i:Nat),x])) fun σ2 H2=>tb { D with nx:=Pv (i+1),ct:=Pv (i+1),bk:=D.nx } σ2 H2) (hd:∀ σ H,Pv xs.length σ H→D.nx σ H) :
  ∃ W:Nat→Nat→St→Hp→Prop,(∃ m,W 0 m σ H)∧∀ i m σ H,W i m σ H →
   ((Zf1 K a).stop i H∧D.nx σ H)∨((Zf1 K a).go i H∧∃ N:St→Hp→Prop,(∀ σ' H',N σ' H'→∃ m',m' < m∧W (i+1) m' σ' H')∧∀ v H',(Zf1 K a).yld i H v H'→g v σ H' fun σ2 H2=>tb { D with nx:=N,ct:=N,bk:=D.nx } σ2 H2):=by
 refine⟨fun i m σ H=>m=xs.length - i∧i≤xs.length∧Pv i σ H,⟨xs.length,by simp,Nat.zero_le _,h0⟩,?_⟩;rintro i m σ H ⟨rfl,hi,p⟩;have sa:=hS i σ H p;by_cases hlt:i < xs.length
 ·refine .inr ⟨⟨xs,_,sa,Zf hlt⟩,Pv (i+1),fun σ' H' p'=>⟨xs.length - (i+1),by omega,rfl,hlt,p'⟩,fun v H' y=>?_⟩
  obtain⟨q,x,rfl,hq,rfl,hx⟩:=y;exact hs i x q σ H (hx xs sa) p hq
 ·have e:i=xs.length:=by omega
  subst e;exact .inl ⟨⟨xs,sa,Zs _⟩,hd σ H p⟩
end My
namespace My
open PySem
def Y3(h:Nat):List Nat:=(List.range 32).filter h.testBit
def Xg(k h:Nat):Nat:=((List.range k).filter h.testBit).length
theorem Ks(k h:Nat):Xg (k+1) h=h % 2+Xg k (h / 2):=by
 unfold Xg;rw[List.range_succ_eq_map,List.filter_cons,List.filter_map,];have e:(h.testBit ∘ Nat.succ)=(h / 2).testBit:=by
  funext i
  exact Nat.testBit_succ h i
 rw[e];have h0:h.testBit 0=decide (h % 2=1):=Nat.testBit_zero h;by_cases o:h % 2=1
 ·rw[Zu (by rw[h0];exact Zd o),Jo,Zj,o,Nat.add_comm]
 ·rw[Zk (by rw[h0,Zc o];exact Zr),Zj]
  omega
theorem Kt:∀ k h:Nat,0 < h→h < 2 ^ k→Xg k (h &&& (h - 1))+1=Xg k h
 | 0,h,h0,h1=>by simp at h1;omega
 | k+1,h,h0,h1=>by
  rw[Ks,Ks];have e1:(h &&& (h - 1)) / 2=h / 2 &&& (h - 1) / 2:=Nat.and_div_two;have e2:(h &&& (h - 1)) % 2=0:=by
   have z:=Nat.and_mod_two_pow (a:=h) (b:=h - 1) (n:=1);rw[show(2:Nat) ^ 1=2 from rfl] at z;rw[z];rcases Nat.mod_two_eq_zero_or_one h with e | e
   ·rw[e];exact Nat.zero_and _
   ·rw[show(h - 1) % 2=0 by omega];exact Nat.and_zero _
  rw[e1,e2];rcases Nat.mod_two_eq_zero_or_one h with e | e
  ·have ih:=Kt k (h / 2) (by omega) (by rw[Nat.pow_succ] at h1;omega)
   rw[show(h - 1) / 2=h / 2 - 1 by omega,e];omega
  ·rw[show(h - 1) / 2=h / 2 by omega,Nat.and_self,e]
   omega
theorem Zhz(k:Nat):Xg k 0=0:=by
 unfold Xg;rw[List.length_eq_zero_iff,List.filter_eq_nil_iff];intro a _;simp
def Zob(h s:Nat):Nat:=h &&& (255 * 2 ^ (8 * s))
theorem Zje:∀ s < 4,∀ c < 32,Nat.testBit (255 * 2 ^ (8 * s)) c=decide (c / 8=s):=by decide +kernel
theorem Ey{h c:Nat}(hc:c∈Y3 h):c < 32:=Ya.mp (List.mem_filter.mp hc).1
end My
namespace My
theorem Zfu{h i:Nat}(hi:i≤32)(hz:h / 2 ^ i=0):(List.range i).filter h.testBit=Y3 h:=by
 unfold Y3;have hl:h < 2 ^ i:=by
  rcases Nat.div_eq_zero_iff.mp hz with e | e
  ·have:0 < 2 ^ i:=Nat.pow_pos (by decide)
   omega
  ·exact e
 have e32:32=i+(32 - i):=by omega
 rw[e32,List.range_add,List.filter_append];have e:List.filter h.testBit ((List.range (32 - i)).map (i + ·))=[]:=by
  rw[List.filter_eq_nil_iff];intro a ha;obtain⟨b,_,rfl⟩:=Zv.mp ha;rw[Nat.testBit_lt_two_pow (Jk hl (Nat.pow_le_pow_right (by decide) (by omega)))];exact Zr
 rw[e,J8]
theorem Md(h i:Nat):(List.range (i+1)).filter h.testBit=(List.range i).filter h.testBit++(if h / 2 ^ i % 2=1 then [i] else []):=by
 rw[List.range_succ,List.filter_append];have e:h.testBit i=decide (h / 2 ^ i % 2=1):=Nat.testBit_eq_decide_div_mod_eq;by_cases o:h / 2 ^ i % 2=1
 ·rw[Zu o,List.filter_cons_of_pos (by rw[e];exact Zd o),List.filter_nil]
 ·rw[Zk o,List.filter_cons_of_neg (by rw[e,Zc o];exact Zr),List.filter_nil]
theorem Zed{h i:Nat}(h32:h < 4294967296)(hi:i≤32)(hp:0 < h / 2 ^ i):i < 32:=by
 rcases Nat.lt_or_ge i 32 with e | e
 ·exact e
 ·have:i=32:=by omega
  subst this;have:h / 2 ^ 32=0:=Nat.div_eq_of_lt h32;omega
def Es(cs:List Nat)(a:Nat):Nat:=cs.foldl (fun a c=>a ||| 2 ^ c) a
theorem Ra:∀(cs:List Nat) (a i:Nat),(Es cs a).testBit i=(a.testBit i || decide (i∈cs))
 | [],a,i=>by simp [Es]
 | c :: r,a,i=>by
  show(Es r (a ||| 2 ^ c)).testBit i=_;rw[Ra r,Nat.testBit_or,Nat.testBit_two_pow];by_cases e:c=i
  ·subst e;simp
  ·have e2:i≠c:=fun z=>e z.symm
   simp [e,e2]
theorem Eu{h i:Nat}(hh:h < 4294967296):i∈Y3 h↔h.testBit i=true:=by
 unfold Y3;rw[List.mem_filter,Ya];constructor
 ·exact fun z=>z.2
 ·intro z
  refine⟨?_,z⟩;rcases Nat.lt_or_ge i 32 with e | e
  ·exact e
  ·rw[Nat.testBit_lt_two_pow (Jk hh (Nat.pow_le_pow_right (n:=2) (by decide) e))] at z
   cases z
theorem Zh5{h:Nat}(hh:h < 4294967296){cs:List Nat}(hm:∀ i,i∈cs↔i∈Y3 h):Es cs 0=h:=by
 refine Nat.eq_of_testBit_eq fun i=>?_;rw[Ra,Nat.zero_testBit,Bool.false_or];by_cases e:h.testBit i=true
 ·rw[e];exact Zd ((hm i).mpr ((Eu hh).mpr e))
 ·rw[Bool.eq_false_iff.mpr e];exact Zc fun z=>e ((Eu hh).mp ((hm i).mp z))
theorem Tr(cs:List Nat)(c a:Nat):Es (cs++[c]) a=Es cs a ||| 2 ^ c:=by unfold Es;rw[List.foldl_append];rfl
end My
namespace My
open PySem L2
def hN(cs:List Nat):Nat:=Es cs 0
theorem Ea(cs:List Nat)(i:Nat):(hN cs).testBit i=decide (i∈cs):=by
 unfold hN;rw[Ra,Nat.zero_testBit,Bool.false_or]
theorem Zb4{a b:List Nat}(h:∀ i,i∈a↔i∈b):hN a=hN b:=by
 refine Nat.eq_of_testBit_eq fun i=>?_;rw[Ea,Ea];exact decide_eq_decide.mpr (h i)
theorem Sk{cs:List Nat}(h:∀ c∈cs,c < 32):hN cs < 4294967296:=by
 refine Nat.lt_pow_two_of_testBit (n:=32) (hN cs) fun i hi=>?_;rw[Ea];exact Zc fun m=>by have:=h i m;omega
theorem hN_pos{cs:List Nat}:0 < hN cs↔cs≠[]:=by
 constructor
 ·intro h z
  rw[z] at h;exact Nat.lt_irrefl 0 h
 ·intro h
  cases cs with
  | nil=>exact absurd rfl h
  | cons c l=>
   refine Nat.pos_of_ne_zero fun z=>?_;have e:=Ea (c :: l) c;rw[z,Nat.zero_testBit,Zd Zy] at e;cases e
theorem Zdk{cs:List Nat}(h:∀ c∈cs,c < 32){s:Nat}(hs:s < 4):Zob (hN cs) s=hN (cs.filter fun c=>decide (c / 8=s)):=by
 refine Nat.eq_of_testBit_eq fun i=>?_;unfold Zob;rw[Nat.testBit_and,Ea,Ea];by_cases m:i∈cs
 ·rw[Zje s hs i (h i m),Zd m,Bool.true_and]
  refine decide_eq_decide.mpr ⟨fun z=>List.mem_filter.mpr ⟨m,Zd z⟩,fun z=>Ju (List.mem_filter.mp z).2⟩
 ·rw[Zc m,Bool.false_and]
  exact(Zc fun z=>m (List.mem_filter.mp z).1).symm
theorem T7{cs:List Nat}(h:∀ c∈cs,c < 32)(i:Nat):i∈Y3 (hN cs)↔i∈cs:=by
 rw[Eu (Sk h),Ea,decide_eq_true_eq]
theorem Zl4(cs:List Nat)(c:Nat):hN (cs++[c])=hN cs ||| 2 ^ c:=Tr cs c 0
theorem Zl5{c:Nat}{cs:List Nat}(h:c∉cs):hN (c :: cs)=2 ^ c+hN cs:=by
 have e:hN (c :: cs)=hN cs ||| 2 ^ c:=by
  rw[← Zl4];exact Zb4 fun i=>by rw[Je,Jm,Jb];exact Or.comm
 rw[e];have z:hN cs &&& 2 ^ c=0:=by
  refine Nat.eq_of_testBit_eq fun i=>?_;rw[Nat.testBit_and,Ea,Nat.testBit_two_pow,Nat.zero_testBit];by_cases q:c=i
  ·subst q
   rw[Zc h];rfl
  ·rw[Zc q,Bool.and_false]
 have k:=PyProof.Rows.nat_or_add_and (hN cs) (2 ^ c);rw[z] at k;omega
theorem Zjn:∀{cs:List Nat},cs.Nodup→(cs.map fun c=>2 ^ c).sum=hN cs
 | [],_=>rfl
 | c :: cs,nd=>by
  obtain⟨n1,n2⟩:=List.nodup_cons.mp nd;rw[List.map_cons,List.sum_cons,Zjn n2,Zl5 n1]
def Al(s:Nat)(cs:List Nat):List Nat:=cs.filter fun c=>decide (c / 8=s)
def orL(a b:List Nat):List Nat:=if a=[] then b else a
def trL(t:Option Nat)(cs:List Nat):List Nat:=match t with | none=>[] | some u=>Al u cs
def Bt(t:Option Nat)(led:Nat)(cs:List Nat):List Nat:=orL (Al led cs) (orL (trL t cs) cs)
def Zea(f:Fx)(t:Option Nat)(ys cs:List Nat):List Nat:=cs.filter fun c=>ys.all fun o=>Xb f t c o (Yg ys)
def alw(d:_root_.Fin 4)(f:Fx)(t:Option Nat)(ys cs:List Nat):List Nat:=match d with
 | 0=>cs
 | 1=>orL (Al (Yg ys) cs) cs
 | 2=>Bt t (Yg ys) cs
 | 3=>orL (Zea f t ys (Bt t (Yg ys) cs)) (Bt t (Yg ys) cs)
theorem Gj{a b cs:List Nat}(ha:∀ c∈a,c∈cs)(hb:∀ c∈b,c∈cs):∀ c∈orL a b,c∈cs:=fun c hc=>by
 unfold orL at hc;by_cases z:a=[]
 ·rw[Zu z] at hc;exact hb c hc
 ·rw[Zk z] at hc;exact ha c hc
theorem T8(s:Nat)(cs:List Nat):∀ c∈Al s cs,c∈cs:=fun c hc=>(List.mem_filter.mp hc).1
theorem Zke(t:Option Nat)(cs:List Nat):∀ c∈trL t cs,c∈cs:=fun c hc=>by
 cases t with
 | none=>exact nomatch hc
 | some u=>exact T8 u cs c hc
theorem Vt(t:Option Nat)(led:Nat)(cs:List Nat):∀ c∈Bt t led cs,c∈cs:=Gj (T8 _ _) (Gj (Zke _ _) fun _ h=>h)
theorem Zdz(d:_root_.Fin 4)(f:Fx)(t:Option Nat)(ys cs:List Nat):∀ c∈alw d f t ys cs,c∈cs:=by
 match d with
 | 0=>exact fun _ h=>h
 | 1=>exact Gj (T8 _ _) fun _ h=>h
 | 2=>exact Vt _ _ _
 | 3=>exact Gj (fun c hc=>Vt _ _ _ c (List.mem_filter.mp hc).1) (Vt _ _ _)
theorem Aj{a b:List Nat}:hN (orL a b)=if 0 < hN a then hN a else hN b:=by
 unfold orL;by_cases z:a=[]
 ·rw[Zu z,Zk fun q=>hN_pos.mp q z]
 ·rw[Zk z,Zu (hN_pos.mpr z)]
abbrev Td:Stmt:=top 3
abbrev Oy:Stmt:=top 4
abbrev Ot:Stmt:=top 6
def Zj5(h:Nat):List V:=(Y3 h).map fun c=>V.int (c:Nat)
theorem Zfv(h:Nat):Zj5 h=vN (Y3 h):=rfl
theorem Zm7(xs ys:List Nat):vN xs++vN ys=vN (xs++ys):=(Jp).symm
theorem Ni{ys:List Nat}{i:Nat}{x:V}(h:(vN ys)[i]? = some x):∃ c,ys[i]? = some c∧x = .int (c:Nat):=by
 unfold vN at h;rw[Z4] at h;cases e:ys[i]? with
 | none=>rw[e] at h;cases h
 | some c=>rw[e] at h;cases h;exact⟨c,rfl,rfl⟩
theorem Zqq{x y:Int}(hx:0≤x)(hy:0≤y):Builtin.bitOr x y=((x.toNat ||| y.toNat:Nat):Int):=by
 rw[PyProof.Rows.bitOr_and,PyProof.Rows.bitAnd_pp hx hy];have:=PyProof.Rows.nat_or_add_and x.toNat y.toNat;omega
theorem Zoc(a c:Nat):Builtin.bitOr (a:Int) (1 * 2 ^ ((c:Nat):Int).toNat)=((a ||| 2 ^ c:Nat):Int):=by
 have e:(1:Int) * 2 ^ ((c:Nat):Int).toNat=((2 ^ c:Nat):Int):=by
  rw[Int.one_mul,Z2,Int.natCast_pow];rfl
 rw[e,Zqq (Int.natCast_nonneg _) (Int.natCast_nonneg _),Z2,Z2]
theorem Zph(a:Nat):Builtin.bitAnd (a:Int) 1=((a % 2:Nat):Int):=by
 rw[PyProof.Rows.bitAnd_pp (Int.natCast_nonneg _) (by decide),Z2];exact congrArg _ (Nat.and_one_is_mod a)
theorem Zp7(h i:Nat):((h / 2 ^ i:Nat):Int) / 2 ^ ((1:Int).toNat)=((h / 2 ^ (i+1):Nat):Int):=by
 rw[Nat.pow_succ,← Nat.div_div_eq_div_mul];show((h / 2 ^ i:Nat):Int) / 2=_;omega
theorem Am(h n:Nat):((List.range n).filter h.testBit).length≤n:=by
 have:=List.length_filter_le h.testBit (List.range n)
 rwa [J7] at this
section
variable{P:Program}{w:World}{K:W.Frag}{mg:Str→Option Value}{base:Heap}{f g:Addr}{fd gd:FuncData}
def N5(K:W.Frag):Sp:=fun vs H Q _=>∃ h:Nat,vs=[.int h]∧h < 4294967296∧∀ l H',Same H H'→H l=none→H' l=some (.lst (Zj5 h))→Q (.ref l) H'
theorem scCardsIn:FnScope ["hand","cards","card"] ["hand"] (Zq Td):=Uy (by decide +kernel)
theorem Zbp{k:Nat}(F:Fun K "cards_in" "cards_in" Td f fd):FnOk P w K mg base Yr (k+1) f fd ["hand"] (N5 K):=by
 refine F.ok scCardsIn (fun vs H Q E h=>?_) (fun cdv A outer s H vs Q E hr h=>?_)
 ·obtain⟨h,rfl,_⟩:=h
  rfl
 obtain⟨h,rfl,h32,q⟩:=h;refine⟨_,Zh (Jf (i:=1) scCardsIn.nd rfl (Or.inl rfl) (Xl Zg))
  (Zh (Jf (i:=2) scCardsIn.nd rfl (Or.inl rfl) Zn)
  (Zh (Kk PassesOwn.never (Ji Ek (pv 0) Zn (Jg _))
   (Zh (J5 (Ji Uq (Jd Tv (pv 0) Zn) Zn (Jg _)) (Zm (X8 (Ej Yd Ux Uw Et (pv 1) (Za (pv 2) Zg)))) Jl)
   (Zh (Jf (i:=0) scCardsIn.nd rfl (Or.inl rfl) (Jd Zh6 (pv 0) Zn))
   (Zm (Jf (i:=2) scCardsIn.nd rfl (Or.inl rfl) (Jd Y1 (pv 2) Zn))))))
  (Zm (Z9 (pv 1))))),?_⟩
 refine⟨Nat.zero_le _,fun l hl=>?_⟩;refine Ay (fun σ H'=>∃ i:Nat,σ=[some (.int ((h / 2 ^ i:Nat):Int)),some (.ref l),some (.int (i:Nat))]∧i≤32∧Same H H'∧H' l=some (.lst (vN ((List.range i).filter h.testBit))))
  (fun σ _=>match σ with | [_,_,some (.int i)]=>32 - i.toNat | _=>0) ⟨0,?_,Nat.zero_le _,Z5 hl _,Zo⟩ (fun σ H1 z=>?_) (fun σ H1 R R' m ⟨v,e,i,j,e1,e2,b,e3,r⟩=>⟨v,e,i,j,e1,e2,b,e3,m _ _ r⟩)
 ·rw[Nat.pow_zero,Nat.div_one]
  rfl
 obtain⟨i,rfl,hi,sm,hL⟩:=z;refine⟨_,rfl,_,_,rfl,rfl,_,rfl,Si (fun c=>?_) fun c=>?_⟩
 ·have c':(0:Int) < ((h / 2 ^ i:Nat):Int):=Ju c
  have hi':i < 32:=Zed h32 hi (by omega);refine⟨_,rfl,_,_,rfl,rfl,rfl,_,rfl,Si (fun c1=>?_) fun c1=>?_⟩
  ·have o:h / 2 ^ i % 2=1:=by
    have c2:decide (V.int (Builtin.bitAnd ((h / 2 ^ i:Nat):Int) 1)=V.int 1)=true:=c1;rw[Zph] at c2;have e:=Ju c2;injection e with e
    omega
   refine⟨_,rfl,.inl ⟨rfl,_,SqL.of hL⟩,_,rfl,l,_,_,rfl,rfl,hL,?_,?_⟩
   ·rw[J1]
    exact Q3 (Jc (Am h i) (by omega))
   refine⟨_,rfl,_,_,rfl,rfl,(show(0:Int)≤1 by decide),_,rfl,_,_,rfl,rfl,⟨i+1,?_,hi',N8 hl sm _,?_⟩,?_⟩
   ·show [some (V.int (((h / 2 ^ i:Nat):Int) / 2 ^ ((1:Int).toNat))),some (V.ref l),some (V.int ((i:Nat)+1))]=_
    rw[Zp7];rfl
   ·rw[Zo,Md,Zu o,← Zm7]
    rfl
   ·show 32 - (((i:Nat):Int)+1).toNat < 32 - ((i:Nat):Int).toNat
    omega
  ·have o:¬ h / 2 ^ i % 2=1:=by
    intro o;refine c1 ?_;show decide (V.int (Builtin.bitAnd ((h / 2 ^ i:Nat):Int) 1)=V.int 1)=true;rw[Zph,o];exact Zd rfl
   refine⟨_,rfl,_,_,rfl,rfl,(show(0:Int)≤1 by decide),_,rfl,_,_,rfl,rfl,⟨i+1,?_,hi',sm,?_⟩,?_⟩
   ·show [some (V.int (((h / 2 ^ i:Nat):Int) / 2 ^ ((1:Int).toNat))),some (V.ref l),some (V.int ((i:Nat)+1))]=_
    rw[Zp7];rfl
   ·rw[Md,Zk o,J8]
    exact hL
   ·show 32 - (((i:Nat):Int)+1).toNat < 32 - ((i:Nat):Int).toNat
    omega
 ·have c':¬ (0:Int) < ((h / 2 ^ i:Nat):Int):=of_decide_eq_false (Bool.eq_false_iff.mpr c)
  refine⟨_,rfl,q l H1 sm hl ?_⟩;have z0:h / 2 ^ i=0:=by
   generalize h / 2 ^ i=n at c';omega
  rw[hL,Zfu hi z0];rfl
def B6(K:W.Frag):Sp:=fun vs H Q _=>∃(a:Addr) (cs:List Nat),vs=[.ref a]∧SqL K H a (vN cs)∧(∀ c∈cs,c < 32)∧Q (.int (Es cs 0:Nat)) H
theorem scHandOf:FnScope ["cards","hand","card"] ["cards"] (Zq Oy):=Uy (by decide +kernel)
theorem Ze2{k:Nat}(F:Fun K "hand_of" "hand_of" Oy f fd):FnOk P w K mg base Yr (k+1) f fd ["cards"] (B6 K):=by
 refine F.ok scHandOf (fun vs H Q E h=>?_) (fun cdv A outer s H vs Q E hr h=>?_)
 ·obtain⟨a,cs,rfl,_⟩:=h
  rfl
 obtain⟨a,cs,rfl,hS,hc,q⟩:=h;refine⟨_,Zh (Jf (i:=1) scHandOf.nd rfl (Or.inl rfl) Zn)
  (Zh (Uv PassesOwn.never rfl (Y6 (pv 0)) (Jj (i:=2) scHandOf.nd rfl (Or.inl rfl)) (Zm (Jf (i:=1) scHandOf.nd rfl (Or.inl rfl) (Jd Zc9 (pv 1) (Jd Ts Zn (pv 2))))))
  (Zm (Z9 (pv 1)))),?_⟩
 refine⟨_,rfl,a,rfl,⟨_,hS⟩,Xd (xs:=vN cs) (fun i σ H2=>H2=H∧∃ x,σ=[some (.ref a),some (.int (Es (cs.take i) 0:Nat)),x]) ⟨rfl,_,rfl⟩ (fun i σ H2 _ z=>z.1 ▸ hS) (fun i x σ H2 hx z=>?_) (fun σ H2 z=>?_)⟩
 ·obtain⟨rfl,y,rfl⟩:=z
  obtain⟨c,hi,rfl⟩:=Ni hx;have c32:=hc c (Zl hi);refine⟨_,rfl,_,rfl,_,_,rfl,rfl,⟨by omega,by omega,by decide⟩,_,_,rfl,rfl,rfl,some (.int (c:Nat)),?_⟩;show [some (V.ref a),some (V.int (Builtin.bitOr ((Es (cs.take i) 0:Nat):Int) (1 * 2 ^ ((c:Nat):Int).toNat))),some (V.int (c:Nat))]=_;rw[Zoc];have e:cs.take (i+1)=cs.take i++[c]:=by
   rw[List.take_add_one,hi];rfl
  rw[e,Tr]
 ·obtain⟨rfl,y,rfl⟩:=z
  refine⟨_,rfl,?_⟩;rw[J1,List.take_length];exact q
def B4(K:W.Frag):Sp:=fun vs H Q _=>∃ h s:Nat,vs=[.int h,.int s]∧h < 4294967296∧s < 4∧Q (.int (Zob h s)) H
theorem Zgy:FnScope ["hand","suit"] ["hand","suit"] (Zq Ot):=Uy (by decide +kernel)
theorem Zey{k:Nat}{t1 t2:Tok}(F:Fun K "of_suit" "of_suit" Ot f fd)(mL:mg "LOWEST_SUIT" = some (.int 255 t1))(mH:mg "HEIGHTS" = some (.int 8 t2)):FnOk P w K mg base Yr (k+1) f fd ["hand","suit"] (B4 K):=by
 refine F.ok Zgy (fun vs H Q E h=>?_) (fun cdv A outer s H vs Q E hr h=>?_)
 ·obtain⟨h,s,rfl,_⟩:=h
  rfl
 obtain⟨h,u,rfl,h32,hu,q⟩:=h;refine⟨_,Zm (Z9 (Jd Tv (pv 0) (Jd Ts (Y9 (v:=.int 255) rfl mL ⟨_,rfl⟩) (Jd Xm (Y9 (v:=.int 8) rfl mH ⟨_,rfl⟩) (pv 1))))),?_⟩;refine⟨_,rfl,_,rfl,_,_,rfl,rfl,.inl ⟨by decide,by decide⟩,_,_,rfl,rfl,⟨by omega,by omega,by decide⟩,_,_,rfl,rfl,?_⟩;have e:((8:Int) * (u:Nat)).toNat=8 * u:=by omega
 have e2:(255:Int) * 2 ^ (8 * u)=((255 * 2 ^ (8 * u):Nat):Int):=by rw[Int.natCast_mul,Int.natCast_pow];rfl
 show Q (V.int (Builtin.bitAnd ((h:Nat):Int) ((255:Int) * 2 ^ ((8:Int) * (u:Nat)).toNat))) H;rw[e,e2,PyProof.Rows.bitAnd_pp (Int.natCast_nonneg _) (Int.natCast_nonneg _)];exact q
end
end My
namespace L2
open PySem PySem.Spec PyProof.Rows
theorem Zem{X:Cx}{a:Expr}{ta:TE}(ha:PE X a ta)(he:∀ whole,isTrue a X.env whole=(do let v ← whole;standAt a.pos;holding [v] (truthy v))):PT X a (Zmm ta):=by
 intro pins s σ H Q I h;exact isTrue_plain (Uc (ha pins s σ H _ I h) fun v s1 ⟨x,H1,I1,r1,k,e,q1⟩=>Zge pins s1 σ H1 x v Q I1 r1 ⟨k,by subst e;rfl,q1⟩) (he _)
theorem Nx{K:W.Frag}{tt:TT}{te:TE}{σ0:St}{H1:Hp}{Q:V→Hp→Prop}{a:Addr}{xs:List V}(p:V→Bool)(f:V→V)(hS:SqT K H1 a xs)(hn:xs.length≤sizeLine)
  (hT:∀ x H,x∈xs→Same H1 H→∀ R:Bool→Hp→Prop,(∀ H',Same H H'→R (p x) H')→tt (σ0.set 0 (some x)) H R)
  (hE:∀ x H,x∈xs→p x=true→Same H1 H→∀ R:V→Hp→Prop,(∀ H',Same H H'→R (f x) H')→te (σ0.set 0 (some x)) H R)
  (hQ:∀ l H,Same H1 H→H1 l=none→H l=some (.lst ((xs.filter p).map f))→Q (.ref l) H):E5 (Qy 0) tt te σ0 (Itt K a) H1 Q:=by
 have at_:∀ i,i < xs.length→xs[i]? = some (xs.getD i .non):=fun i h=>by
  rw[Zp,Zf h];rfl
 have mem:∀ i,i < xs.length→xs.getD i .non∈xs:=fun i h=>Zl (at_ i h);refine Vu xs.length (fun i=>xs.getD i .non) (fun i=>p (xs.getD i .non)) (fun i=>f (xs.getD i .non)) hn (fun i H sm h=>⟨xs,_,sm.seqT hS,at_ i h⟩) (fun H sm=>⟨xs,sm.seqT hS,Zs _⟩)
  (fun i H x H' sm h y=>⟨y.1,?_⟩) (fun i H h sm=>hT _ H (mem i h) sm) (fun i H h hp sm=>hE _ H (mem i h) hp sm) (fun l H sm hl hL=>hQ l H sm hl ?_)
 ·have e:=y.2 xs (sm.seqT hS)
  rw[at_ i h] at e;exact(Z0 e).symm
 ·rw[hL,Qi]
end L2
namespace My
open PySem L2
abbrev G7:Stmt:=top 48
abbrev Znt:Stmt:=top 49
abbrev Vb:Stmt:=top 50
abbrev Oz:Stmt:=Yq (top 51) 1
abbrev V7:Stmt:=Yq (top 52) 1
abbrev Za8:Stmt:=Yq (top 53) 1
abbrev Ge:Stmt:=Yq (top 54) 1
abbrev Znq:Stmt:=Yq (top 64) 5
theorem Zdw{ys:List Nat}{i:Nat}(h:i < ys.length):X6 (vN ys) (i:Nat)=some (.int ((ys.getD i 0:Nat):Int)):=by
 have e:(vN ys)[i]? = some (.int ((ys.getD i 0:Nat):Int)):=by
  unfold vN;rw[Z4,Zf h,Zp,Zf h];rfl
 exact Xv e
theorem gtz(n:Nat):decide ((0:Int) < ((n:Nat):Int))=decide (0 < n):=decide_eq_decide.mpr ⟨fun h=>by omega,fun h=>by omega⟩
structure Beg(f:Fx)(ys cs:List Nat):Prop where
 ne:0 < ys.length
 len:ys.length≤32
 ys8:∀ c∈ys,c / 8 < 4∧c % 8 < f.h
 cs8:∀ c∈cs,c < 32∧c % 8 < f.h
theorem Beg.c32{f:Fx}{ys cs:List Nat}(B:Beg f ys cs):∀ c∈cs,c < 32:=fun c h=>(B.cs8 c h).1
theorem Beg.led{f:Fx}{ys cs:List Nat}(B:Beg f ys cs):Yg ys < 4:=by
 have m:ys.getD 0 0∈ys:=by
  rw[Zp,Zf B.ne];exact Yl _
 exact(B.ys8 _ m).1
theorem Beg.sub{f:Fx}{ys cs ds:List Nat}(B:Beg f ys cs)(h:∀ c∈ds,c∈cs):Beg f ys ds:=⟨B.ne,B.len,B.ys8,fun c hc=>B.cs8 c (h c hc)⟩
section
variable{P:Program}{w:World}{K:W.Frag}{mg:Str→Option Value}{base:Heap}{f g:Addr}{fd gd:FuncData}
def Zcm(K:W.Frag):Sp:=fun vs H Q _=>∃(p:Addr) (fx:Fx) (ys cs:List Nat),vs=[.int (hN cs:Nat),.ref p]∧SqT K H p (vN ys)∧Beg fx ys cs∧Q (.int (hN (Al (Yg ys) cs):Nat)) H
theorem Zqb:FnScope ["hand","trick"] ["hand","trick"] (Zq G7):=Uy (by decide +kernel)
theorem Zol{k:Nat}{f1:Addr}{d1:FuncData}{t1:Tok}(F:Fun K "of_led_suit" "of_led_suit" G7 f fd)(LO:Lib P w K mg base k "of_suit" ["hand","suit"] (B4 K) f1 d1)(mH:mg "HEIGHTS" = some (.int 8 t1)):FnOk P w K mg base Yr (k+1) f fd ["hand","trick"] (Zcm K):=by
 refine F.ok Zqb (fun vs H Q E h=>?_) (fun cdv A outer s H vs Q E hr h=>?_)
 ·obtain⟨p,fx,ys,cs,rfl,_⟩:=h
  rfl
 obtain⟨p,fx,ys,cs,rfl,hT,B,q⟩:=h;refine⟨_,Zm (Z9 (Z1 LO.ok hr rfl LO.mg LO.kp LO.bd .nil Ja (Za (pv 0) (Za (Jd Ua (Jw Jz (pv 1) Zn (fun _ _=>rfl)) (Y9 (v:=.int 8) rfl mH ⟨_,rfl⟩)) Zg)))),?_⟩;have e0:(((ys.getD 0 0:Nat):Int) / 8)=((Yg ys:Nat):Int):=by unfold Yg;omega
 refine⟨_,rfl,_,rfl,p,_,_,_,rfl,rfl,hT,Zdw (i:=0) B.ne,_,_,rfl,rfl,⟨by decide,by decide⟩,hN cs,Yg ys,(show [V.int (hN cs:Nat),V.int (((ys.getD 0 0:Nat):Int) / 8)]=_ by rw[e0]),Sk B.c32,B.led,?_⟩;rw[Zdk B.c32 B.led];exact q
def Mp(t:Option Nat):Prop:=∀ u,t=some u→u < 4
def Zcr(K:W.Frag)(CG:Addr):Sp:=fun vs H Q _=>∃(gm x p:Addr) (t:Option Nat) (fx:Fx) (ys cs:List Nat),vs=[.ref gm,.int (hN cs:Nat),.ref p]∧IsGam CG x (Rv t) H gm∧Mp t∧SqT K H p (vN ys)∧Beg fx ys cs∧Q (.int (hN (Bt t (Yg ys) cs):Nat)) H
abbrev Zr4:List Str:=["game","hand","trick","followers","trumps"]
theorem scFoc:FnScope Zr4 ["game","hand","trick"] (Zq Znt):=Uy (by decide +kernel)
theorem Zoo{k:Nat}{f1 f2 CG:Addr}{d1 d2:FuncData}(F:Fun K "followed_or_cut" "followed_or_cut" Znt f fd)(CGm:GamC K mg CG)(LL:Lib P w K mg base k "of_led_suit" ["hand","trick"] (Zcm K) f1 d1)(LO:Lib P w K mg base k "of_suit" ["hand","suit"] (B4 K) f2 d2) :
  FnOk P w K mg base Yr (k+1) f fd ["game","hand","trick"] (Zcr K CG):=by
 refine F.ok scFoc (fun vs H Q E h=>?_) (fun cdv A outer s H vs Q E hr h=>?_)
 ·obtain⟨gm,x,p,t,fx,ys,cs,rfl,_⟩:=h
  rfl
 obtain⟨gm,x,p,t,fx,ys,cs,rfl,⟨dg,hG⟩,hb,hT,B,q⟩:=h;refine⟨_,Zh (Jf (i:=3) scFoc.nd rfl (Or.inl rfl) (Z1 LL.ok hr rfl LL.mg LL.kp LL.bd .nil Ja (Za (pv 1) (Za (pv 2) Zg))))
  (Zh (J5 (Ji Ek (pv 3) Zn (Jg _)) (Zm (Z9 (pv 3))) Jl)
  (Zh (J5 (Ji Aa (Jt (pv 0) rfl) Q9 (Jg _)) (Zm (Z9 (pv 1))) Jl)
  (Zh (Jf (i:=4) scFoc.nd rfl (Or.inl rfl) (Z1 LO.ok hr rfl LO.mg LO.kp LO.bd .nil Ja (Za (pv 1) (Za (Jt (pv 0) rfl) Zg))))
  (Zm (Z9 (Er (Ji Ek (pv 4) Zn (Jg _)) (pv 4) (pv 1))))))),?_⟩
 refine⟨_,rfl,_,rfl,p,fx,ys,cs,rfl,hT,B,?_⟩;refine⟨_,rfl,_,_,rfl,rfl,_,rfl,?_⟩;refine X2 (gtz _) ?_;unfold Bt at q;rw[Aj] at q;by_cases c1:0 < hN (Al (Yg ys) cs)
 ·rw[Zd c1]
  rw[Zu c1] at q;exact Ym ⟨_,rfl,q⟩
 rw[Zc c1];rw[Zk c1,Aj] at q;refine Yb ⟨_,rfl,gm,CG,dg,_,_,rfl,hG,CGm.cl,CGm.nU,Q4 _ _,rfl,_,rfl,?_⟩;cases t with
 | none=>
  have z:hN (trL none cs)=0:=rfl;rw[z,Zk (Nat.lt_irrefl 0)] at q;exact Ym ⟨_,rfl,q⟩
 | some u=>
  refine Yb ⟨_,rfl,_,rfl,gm,CG,dg,_,_,rfl,hG,CGm.cl,CGm.nU,Q4 _ _,hN cs,u,rfl,Sk B.c32,hb u rfl,?_⟩;rw[Zdk B.c32 (hb u rfl)];have e:hN (trL (some u) cs)=hN (cs.filter fun c=>decide (c / 8=u)):=rfl;rw[e] at q;refine⟨_,rfl,_,_,rfl,rfl,_,rfl,?_⟩;refine X2 (gtz _) ?_;by_cases c2:0 < hN (cs.filter fun c=>decide (c / 8=u))
  ·rw[Zd c2]
   rw[Zu c2] at q;exact Ym ⟨_,rfl,q⟩
  ·rw[Zc c2]
   rw[Zk c2] at q;exact Yb ⟨_,rfl,q⟩
def ovV(fx:Fx)(t:Option Nat)(c led:Nat)(x:V):Bool:=match x with | .int i=>Xb fx t c i.toNat led | _=>false
theorem Zh2(fx:Fx)(t:Option Nat)(c led:Nat)(ys:List Nat):(((vN ys).filter fun _=>true).map fun x=>V.bl (ovV fx t c led x))=(ys.map fun o=>Xb fx t c o led).map V.bl:=by
 rw[List.filter_eq_self.mpr fun _ _=>rfl];unfold vN;rw[Z7,Z7];refine Jv fun o _=>?_;show V.bl (Xb fx t c (((o:Nat):Int).toNat) led)=V.bl (Xb fx t c o led);rw[Z2]
def Zan(K:W.Frag)(CT CG:Addr):Sp:=fun vs H Q _=>∃(gm x p:Addr) (t:Option Nat) (fx:Fx) (ys:List Nat) (c:Nat),vs=[.ref gm,.int (c:Nat),.ref p]∧fx.Ok∧IsGam CG x (Rv t) H gm∧IsTab CT fx H x∧SqT K H p (vN ys)∧Beg fx ys []∧c % 8 < fx.h∧∀ H',Same H H'→Q (.bl (ys.all fun o=>Xb fx t c o (Yg ys))) H'
abbrev Zmz:List Str:=["game","card","trick","led"]
abbrev nGoesB:List Str:=["other","game","card","led"]
theorem scGoes:FnScope Zmz ["game","card","trick"] (Zq Vb):=Uy (by decide +kernel)
theorem Zlm{k:Nat}{CT CG m3:Addr}{e3:FuncData}{t1:Tok}(F:Fun K "goes_over_all" "goes_over_all" Vb f fd)(CGm:GamC K mg CG)(MV:Meth K CG "is_over" m3)(FV:FnOk P w K mg base Yr k m3 e3 Ro (D7 CT CG))(BV:Binds K e3 Ro [])(mH:mg "HEIGHTS" = some (.int 8 t1))(mA:mg "all" = none) :
  FnOk P w K mg base Yr (k+1) f fd ["game","card","trick"] (Zan K CT CG):=by
 refine F.ok scGoes (fun vs H Q E h=>?_) (fun cdv A outer s H vs Q E hr h=>?_)
 ·obtain⟨gm,x,p,t,fx,ys,c,rfl,_⟩:=h
  rfl
 obtain⟨gm,x,p,t,fx,ys,c,rfl,ok,hg,ht,hT,B,hc,q⟩:=h;refine⟨_,Zh (Jf (i:=3) scGoes.nd rfl (Or.inr rfl) (Jd Ua (Jw Jz (pv 2) Zn (fun _ _=>rfl)) (Y9 (v:=.int 8) rfl mH ⟨_,rfl⟩)))
  (Zm (Z9 (Jr (Bh rfl) rfl mA PyProof.Rows.boot_all (Za (Ud nGoesB [none,some 0,some 1,some 3] rfl (Blk.by (sc:=Zq Vb) (N0:=Zmz) rfl rfl (by decide +kernel)) (V9 (pv 2)) (fun C s₀ H₀ ex=>Jj (i:=0) (show nGoesB.Nodup by decide +kernel) rfl (Or.inl rfl)) (fun C s₀ H₀ ex=>U5)
   (fun C s₀ H₀ ex=>Uj (pv 1) CGm.cl MV FV hr BV .nil Ja (Za (pv 2) (Za (pv 0) (Za (pv 3) Zg))))) Zg)))),?_⟩
 have e0:(((ys.getD 0 0:Nat):Int) / 8)=((Yg ys:Nat):Int):=by unfold Yg;omega
 refine⟨_,rfl,p,_,_,_,rfl,rfl,hT,Zdw (i:=0) B.ne,_,_,rfl,rfl,⟨by decide,by decide⟩,?_⟩;have h32:=B.len;refine⟨_,rfl,p,rfl,⟨_,hT⟩,Nx (K:=K) (xs:=vN ys) (fun _=>true) (fun x=>.bl (ovV fx t c (Yg ys) x)) hT (J2 _ (by rw[J1];omega)) (fun y H3 hy sm R hR=>hR H3 (Same.refl H3)) (fun y H3 hy hp sm R hR=>?_) (fun lq H4 s4 hlq hL4=>?_)⟩
 ·obtain⟨o,ho,rfl⟩:=Zv.mp hy
  obtain⟨dg,hG⟩:=id (hg.same sm);refine⟨_,rfl,gm,dg,_,rfl,hG,Ev _ _ _ (by decide +kernel) (by decide +kernel),_,rfl,_,rfl,_,rfl,gm,x,t,fx,c,o,Yg ys,(show [V.ref gm,V.int (c:Nat),V.int (o:Nat),V.int (((ys.getD 0 0:Nat):Int) / 8)]=_ by rw[e0]),ok,hg.same sm,ht.same sm,hc,(B.ys8 o ho).2,fun H5 s5=>?_⟩;have r:=hR H5 s5;have e:ovV fx t c (Yg ys) (.int (o:Nat))=Xb fx t c o (Yg ys):=by
   show Xb fx t c (((o:Nat):Int).toNat) (Yg ys)=_;rw[Z2]
  rw[e] at r;exact r
 ·rw[Zh2] at hL4
  refine⟨lq,_,rfl,SqL.of hL4,?_⟩;have z:=q H4 s4;rw[List.all_map];exact z
def Zgr(K:W.Frag)(CT CG:Addr)(i:_root_.Fin 4):Sp:=fun vs H Q _=>∃(a gm x p:Addr) (t:Option Nat) (fx:Fx) (ys cs:List Nat),vs=[.ref a,.ref gm,.int (hN cs:Nat),.ref p]∧fx.Ok∧IsGam CG x (Rv t) H gm∧IsTab CT fx H x∧Mp t∧SqT K H p (vN ys)∧Beg fx ys cs∧∀ H',Same H H'→Q (.int (hN (alw i fx t ys cs):Nat)) H'
abbrev pAl:List Str:=["self","game","hand","trick"]
theorem Zgz:FnScope pAl pAl (Zq Oz):=Uy (by decide +kernel)
theorem Ze3{k:Nat}{CT CG:Addr}(F:Fun K "allowed" "Free.allowed" Oz f fd):FnOk P w K mg base Yr (k+1) f fd pAl (Zgr K CT CG 0):=by
 refine F.ok Zgz (fun vs H Q E h=>?_) (fun cdv A outer s H vs Q E hr h=>?_)
 ·obtain⟨a,gm,x,p,t,fx,ys,cs,rfl,_⟩:=h
  rfl
 obtain⟨a,gm,x,p,t,fx,ys,cs,rfl,ok,hg,ht,hb,hT,B,q⟩:=h;exact⟨_,Zm (Z9 (pv 2)),_,rfl,q H (Same.refl H)⟩
abbrev Ze9:List Str:=["self","game","hand","trick","followers"]
theorem scFollowAl:FnScope Ze9 pAl (Zq V7):=Uy (by decide +kernel)
theorem K5{k:Nat}{CT CG f1:Addr}{d1:FuncData}(F:Fun K "allowed" "Follow.allowed" V7 f fd)(LL:Lib P w K mg base k "of_led_suit" ["hand","trick"] (Zcm K) f1 d1):FnOk P w K mg base Yr (k+1) f fd pAl (Zgr K CT CG 1):=by
 refine F.ok scFollowAl (fun vs H Q E h=>?_) (fun cdv A outer s H vs Q E hr h=>?_)
 ·obtain⟨a,gm,x,p,t,fx,ys,cs,rfl,_⟩:=h
  rfl
 obtain⟨a,gm,x,p,t,fx,ys,cs,rfl,ok,hg,ht,hb,hT,B,q⟩:=h;refine⟨_,Zh (Jf (i:=4) scFollowAl.nd rfl (Or.inl rfl) (Z1 LL.ok hr rfl LL.mg LL.kp LL.bd .nil Ja (Za (pv 2) (Za (pv 3) Zg))))
  (Zm (Z9 (Er (Ji Ek (pv 4) Zn (Jg _)) (pv 4) (pv 2)))),?_⟩
 refine⟨_,rfl,_,rfl,p,fx,ys,cs,rfl,hT,B,?_⟩;refine⟨_,rfl,_,_,rfl,rfl,_,rfl,?_⟩;refine X2 (gtz _) ?_;have q':=q H (Same.refl H);have e:hN (alw 1 fx t ys cs)=if 0 < hN (Al (Yg ys) cs) then hN (Al (Yg ys) cs) else hN cs:=Aj
 rw[e] at q';by_cases c1:0 < hN (Al (Yg ys) cs)
 ·rw[Zd c1]
  rw[Zu c1] at q';exact Ym ⟨_,rfl,q'⟩
 ·rw[Zc c1]
  rw[Zk c1] at q';exact Yb ⟨_,rfl,q'⟩
theorem Zku:FnScope pAl pAl (Zq Za8):=Uy (by decide +kernel)
theorem Ziw{k:Nat}{CT CG f1:Addr}{d1:FuncData}(F:Fun K "allowed" "Cut.allowed" Za8 f fd)(LF:Lib P w K mg base k "followed_or_cut" ["game","hand","trick"] (Zcr K CG) f1 d1):FnOk P w K mg base Yr (k+1) f fd pAl (Zgr K CT CG 2):=by
 refine F.ok Zku (fun vs H Q E h=>?_) (fun cdv A outer s H vs Q E hr h=>?_)
 ·obtain⟨a,gm,x,p,t,fx,ys,cs,rfl,_⟩:=h
  rfl
 obtain⟨a,gm,x,p,t,fx,ys,cs,rfl,ok,hg,ht,hb,hT,B,q⟩:=h;exact⟨_,Zm (Z9 (Z1 LF.ok hr rfl LF.mg LF.kp LF.bd .nil Ja (Za (pv 1) (Za (pv 2) (Za (pv 3) Zg))))),_,rfl,_,rfl,_,rfl,gm,x,p,t,fx,ys,cs,rfl,hg,hb,hT,B,q H (Same.refl H)⟩
abbrev Zdb:List Str:=["self","game","hand","trick","choice","beaters"]
abbrev nBeatB:List Str:=["card","game","trick"]
theorem scBeatAl:FnScope Zdb pAl (Zq Ge):=Uy (by decide +kernel)
def Zna(fx:Fx)(t:Option Nat)(ys:List Nat)(x:V):Bool:=match x with | .int i=>ys.all fun o=>Xb fx t i.toNat o (Yg ys) | _=>false
theorem Zd9(fx:Fx)(t:Option Nat)(ys ds:List Nat):(((vN ds).filter (Zna fx t ys)).map fun x=>x)=vN (ds.filter fun c=>ys.all fun o=>Xb fx t c o (Yg ys)):=by
 rw[List.map_id'];unfold vN;rw[List.filter_map];refine congrArg _ (List.filter_congr fun c _=>?_);show(ys.all fun o=>Xb fx t (((c:Nat):Int).toNat) o (Yg ys))=_;rw[Z2]
theorem Ze7{k:Nat}{CT CG f1 f2 f3 f4:Addr}{d1 d2 d3 d4:FuncData}(F:Fun K "allowed" "Beat.allowed" Ge f fd)(LF:Lib P w K mg base k "followed_or_cut" ["game","hand","trick"] (Zcr K CG) f1 d1)
  (LH:Lib P w K mg base k "hand_of" ["cards"] (B6 K) f2 d2) (LI:Lib P w K mg base k "cards_in" ["hand"] (N5 K) f3 d3) (LG:Lib P w K mg base k "goes_over_all" ["game","card","trick"] (Zan K CT CG) f4 d4):FnOk P w K mg base Yr (k+1) f fd pAl (Zgr K CT CG 3):=by
 refine F.ok scBeatAl (fun vs H Q E h=>?_) (fun cdv A outer s H vs Q E hr h=>?_)
 ·obtain⟨a,gm,x,p,t,fx,ys,cs,rfl,_⟩:=h
  rfl
 obtain⟨a,gm,x,p,t,fx,ys,cs,rfl,ok,hg,ht,hb,hT,B,q⟩:=h;refine⟨_,Zh (Jf (i:=4) scBeatAl.nd rfl (Or.inl rfl) (Z1 LF.ok hr rfl LF.mg LF.kp LF.bd .nil Ja (Za (pv 1) (Za (pv 2) (Za (pv 3) Zg)))))
  (Zh (Jf (i:=5) scBeatAl.nd rfl (Or.inl rfl) (Z1 LH.ok hr rfl LH.mg LH.kp LH.bd .nil Ja (Za (Ud nBeatB [none,some 1,some 3] rfl (Blk.by (sc:=Zq Ge) (N0:=Zdb) rfl rfl (by decide +kernel)) (Y6 (Z1 LI.ok hr rfl LI.mg LI.kp LI.bd .nil Ja (Za (pv 4) Zg))) (fun C s₀ H₀ ex=>Jj (i:=0) (show nBeatB.Nodup by decide +kernel) rfl (Or.inl rfl))
   (fun C s₀ H₀ ex=>Zht (Zem (Z1 LG.ok hr rfl LG.mg LG.kp LG.bd .nil Ja (Za (pv 1) (Za (pv 0) (Za (pv 2) Zg)))) (fun _=>rfl))) (fun C s₀ H₀ ex=>pv 0)) Zg)))
  (Zm (Z9 (Er (Ji Ek (pv 5) Zn (Jg _)) (pv 5) (pv 4))))),?_⟩
 have hsub:=Vt t (Yg ys) cs;have B2:=B.sub hsub;refine⟨_,rfl,_,rfl,_,rfl,gm,x,p,t,fx,ys,cs,rfl,hg,hb,hT,B,?_⟩;refine⟨_,rfl,hN (Bt t (Yg ys) cs),rfl,Sk B2.c32,fun l1 H1 s1 hl1 hL1=>?_⟩;rw[Zfv] at hL1;have hmem:=T7 B2.c32;have hlen:(Y3 (hN (Bt t (Yg ys) cs))).length≤32:=by
  unfold Y3;exact Jc (List.length_filter_le _ _) (by rw[J7];exact Zs _)
 refine⟨l1,rfl,⟨_,SqL.of hL1⟩,Qj (K:=K) (xs:=vN (Y3 (hN (Bt t (Yg ys) cs)))) (Zna fx t ys) (fun y=>y) (SqL.of hL1) (J2 _ (by rw[J1];omega)) (fun y H3 hy sm R hR=>?_) (fun y H3 hy hp sm R hR=>⟨_,rfl,hR H3 (Same.refl H3)⟩) (fun lq H4 s4 hlq hL4=>?_)⟩
 ·obtain⟨c,hc,rfl⟩:=Zv.mp hy
  have s3:=s1.trans sm;have c8:=(B2.cs8 c ((hmem c).mp hc)).2;refine⟨_,rfl,_,rfl,_,rfl,gm,x,p,t,fx,ys,c,rfl,ok,hg.same s3,ht.same s3,s3.seqT hT,B.sub (fun c hc=>nomatch hc),c8,fun H5 s5=>⟨_,rfl,?_⟩⟩;have r:=hR H5 s5;have e:Zna fx t ys (.int (c:Nat))=ys.all fun o=>Xb fx t c o (Yg ys):=by
   show(ys.all fun o=>Xb fx t (((c:Nat):Int).toNat) o (Yg ys))=_;rw[Z2]
  rw[e] at r;exact r
 ·rw[Zd9] at hL4
  refine⟨lq,_,rfl,SqL.of hL4,fun c hc=>Ey (List.mem_filter.mp hc).1,?_⟩;have eo:Es ((Y3 (hN (Bt t (Yg ys) cs))).filter fun c=>ys.all fun o=>Xb fx t c o (Yg ys)) 0=hN (Zea fx t ys (Bt t (Yg ys) cs)):=by
   refine Zb4 fun i=>?_;unfold Zea;rw[List.mem_filter,List.mem_filter,hmem]
  rw[eo];refine⟨_,rfl,_,_,rfl,rfl,_,rfl,?_⟩;refine X2 (gtz _) ?_;have q':=q H4 (s1.trans s4);have e:hN (alw 3 fx t ys cs)=if 0 < hN (Zea fx t ys (Bt t (Yg ys) cs)) then hN (Zea fx t ys (Bt t (Yg ys) cs)) else hN (Bt t (Yg ys) cs):=Aj
  rw[e] at q';by_cases c1:0 < hN (Zea fx t ys (Bt t (Yg ys) cs))
  ·rw[Zd c1]
   rw[Zu c1] at q';exact Ym ⟨_,rfl,q'⟩
  ·rw[Zc c1]
   rw[Zk c1] at q';exact Yb ⟨_,rfl,q'⟩
end
abbrev Oo:Stmt:=Yq (top 64) 4
theorem Zl7{ys:List Nat}{i c:Nat}(h:ys[i]? = some c):ys.getD i 0=c:=by rw[Zp,h];rfl
theorem Zqy{ys:List Nat}{i c:Nat}(h:ys[i]? = some c):i < ys.length:=(Zx.mp h).1
section
variable{P:Program}{w:World}{K:W.Frag}{mg:Str→Option Value}{base:Heap}{f g:Addr}{fd gd:FuncData}
def Gq(K:W.Frag)(CT CG:Addr):Sp:=fun vs H Q _=>∃(gm x p:Addr) (t:Option Nat) (f:Fx) (ys:List Nat),vs=[.ref gm,.ref p]∧f.Ok∧IsGam CG x (Rv t) H gm∧IsTab CT f H x∧SqT K H p (vN ys)∧Trk f ys∧∀ h H',Same H H'→Win f t (Yg ys) ys h→Q (.int (h:Nat)) H'
abbrev Zlt:List Str:=["self","trick","led","highest","number","card"]
theorem scWinner:FnScope Zlt ["self","trick"] (Zq Oo):=Uy (by decide +kernel)
theorem Zeu{k:Nat}{CT CG m3:Addr}{e3:FuncData}{t1:Tok}(F:Fun K "winner" "Game.winner" Oo f fd)(CGm:GamC K mg CG)(MV:Meth K CG "is_over" m3)(FV:FnOk P w K mg base Yr k m3 e3 Ro (D7 CT CG))(BV:Binds K e3 Ro [])(mH:mg "HEIGHTS" = some (.int 8 t1))(me:mg "enumerate" = none) :
  FnOk P w K mg base Yr (k+1) f fd ["self","trick"] (Gq K CT CG):=by
 refine F.ok scWinner (fun vs H Q E h=>?_) (fun cdv A outer s H vs Q E hr h=>?_)
 ·obtain⟨gm,x,p,t,fx,ys,rfl,_⟩:=h
  rfl
 obtain⟨gm,x,p,t,fx,ys,rfl,ok,hg,ht,hT,T,q⟩:=h;refine⟨_,Zh (Jf (i:=2) scWinner.nd rfl (Or.inl rfl) (Jd Ua (Jw Jz (pv 1) Zn (fun _ _=>rfl)) (Y9 (v:=.int 8) rfl mH ⟨_,rfl⟩)))
  (Zh (Jf (i:=3) scWinner.nd rfl (Or.inl rfl) Zn)
  (Zh (Uv PassesOwn.never rfl (Kp rfl me (Za (pv 1) Zg)) (No rfl (J6 (Jj (i:=4) scWinner.nd rfl (Or.inl rfl)) (J6 (Jj (i:=5) scWinner.nd rfl (Or.inl rfl)) Xt)))
   (Zm (J5 (Yi (Uj (pv 0) CGm.cl MV FV hr BV .nil Ja (Za (pv 5) (Za (Jw Jz (pv 1) (pv 3) (fun _ _=>rfl)) (Za (pv 2) Zg)))) (fun _=>rfl)) (Zm (Jf (i:=3) scWinner.nd rfl (Or.inl rfl) (pv 4))) Jl)))
  (Zm (Z9 (pv 3))))),?_⟩
 have e0:(((ys.getD 0 0:Nat):Int) / 8)=((Yg ys:Nat):Int):=by unfold Yg;omega
 refine⟨_,rfl,p,_,_,_,rfl,rfl,hT,Zdw (i:=0) T.ne,_,_,rfl,rfl,⟨by decide,by decide⟩,?_⟩;refine⟨_,rfl,p,_,rfl,hT,?_⟩;refine Db (K:=K) (a:=p) (xs:=vN ys) (fun i σ H'=>Same H H'∧∃(h:Nat) (x4 x5:Option V),σ=[some (.ref gm),some (.ref p),some (.int ((Yg ys:Nat):Int)),some (.int (h:Nat)),x4,x5]∧h < ys.length∧∀ j < i,rk fx t (Yg ys) (ys.getD j 0)≤rk fx t (Yg ys) (ys.getD h 0))
  ⟨Same.refl H,0,none,none,?_,T.ne,fun j hj=>absurd hj (Nat.not_lt_zero _)⟩ (fun i σ H1 z=>z.1.seqT hT) (fun i v r σ H1 hv z hr1=>?_) (fun σ H1 z=>?_)
 ·show [_,_,some (V.int (((ys.getD 0 0:Nat):Int) / 8)),_,_,_]=_
  rw[e0];rfl
 ·obtain⟨s1,h,x4,x5,rfl,hh,hm⟩:=z
  obtain⟨c,hc,rfl⟩:=Ni hv;have s2:=s1.trans (Z5 hr1 (.tup [.int (i:Nat),.int (c:Nat)]));refine⟨r,_,rfl,SqT.of Zo,rfl,_,_,rfl,_,_,rfl,rfl,?_⟩;obtain⟨dg,hG⟩:=id (hg.same s2);have cm:c∈ys:=Zl hc;have hmem:ys.getD h 0∈ys:=by
   rw[Zp,Zf hh];exact Yl _
  refine⟨_,rfl,gm,dg,_,rfl,hG,Ev _ _ _ (by decide +kernel) (by decide +kernel),_,rfl,_,rfl,_,rfl,p,_,_,_,rfl,rfl,s2.seqT hT,Zdw hh,_,rfl,gm,x,t,fx,c,ys.getD h 0,Yg ys,rfl,ok,hg.same s2,ht.same s2,T.ht c cm,T.ht _ hmem,fun H3 s3=>⟨_,rfl,?_⟩⟩;rw[Gi ok];have gc:=Zl7 hc;refine Si (fun y=>?_) fun y=>?_
  ·have y:=Ju y
   refine⟨_,rfl,s2.trans s3,i,_,_,rfl,Zqy hc,fun j hj=>?_⟩;rw[gc];rcases Nat.lt_or_eq_of_le (Nat.le_of_lt_succ hj) with z | z
   ·exact Jc (hm j z) (Uf y)
   ·rw[z,gc]
    exact Zs _
  ·have y:¬ rk fx t (Yg ys) (ys.getD h 0) < rk fx t (Yg ys) c:=fun z=>y (Zd z)
   refine⟨s2.trans s3,h,_,_,rfl,hh,fun j hj=>?_⟩;rcases Nat.lt_or_eq_of_le (Nat.le_of_lt_succ hj) with z | z
   ·exact hm j z
   ·rw[z,gc]
    exact Nat.le_of_not_lt y
 ·obtain⟨s1,h,x4,x5,rfl,hh,hm⟩:=z
  rw[J1] at hm;exact⟨_,rfl,q h H1 s1 (Zf3 ok T hh hm)⟩
def Zgq(K:W.Frag)(CT CG:Addr):Sp:=fun vs H Q _=>∃(gm x p:Addr) (t:Option Nat) (fx:Fx) (ys cs:List Nat),vs=[.ref gm,.int (hN cs:Nat),.ref p]∧fx.Ok∧IsGam CG x (Rv t) H gm∧IsTab CT fx H x∧Mp t∧SqT K H p (vN ys)∧(ys=[]∨Beg fx ys cs)∧∀ H',Same H H'→Q (.int (hN (if ys=[] then cs else alw fx.d fx t ys cs):Nat)) H'
theorem Zqa:FnScope ["self","hand","trick"] ["self","hand","trick"] (Zq Znq):=Uy (by decide +kernel)
abbrev AlF(P:Program)(w:World)(K:W.Frag)(mg:Str→Option Value)(base:Heap)(CT CG:Addr)(k:Nat)(c4 f4:_root_.Fin 4→Addr)(d4:_root_.Fin 4→FuncData):Prop:=MethF P w K mg base Yr k (_root_.Fin 4) "allowed" pAl (Zgr K CT CG) c4 f4 d4
theorem Zr6(ys:List Nat):decide (V.int (((vN ys).length:Nat):Int)=V.int 0)=decide (ys=[]):=by
 rw[J1];refine decide_eq_decide.mpr ⟨fun h=>?_,fun h=>by rw[h];rfl⟩;injection h with h
 exact List.eq_nil_of_length_eq_zero (by omega)
theorem Zoj{k:Nat}{CT CG CN f1 m2:Addr}{d1 e2:FuncData}{c4 f4:_root_.Fin 4→Addr}{d4:_root_.Fin 4→FuncData}(F:Fun K "may" "Game.may" Znq f fd)(C:TabC K mg CT)(CGm:GamC K mg CG)(LD:LibX P w K mg base k "duty_of" ["word"] (Zap c4 CN) f1 d1)
  (MD:Meth K CT "duty" m2) (FD:FnOk P w K mg base Yr k m2 e2 ["self"] (D4 CT)) (BD:Binds K e2 ["self"] []) (MA:AlF P w K mg base CT CG k c4 f4 d4) (ml:mg "len" = none) :
  FnOk P w K mg base Yr (k+1) f fd ["self","hand","trick"] (Zgq K CT CG):=by
 refine F.ok Zqa (fun vs H Q E h=>?_) (fun cdv A outer s H vs Q E hr h=>?_)
 ·obtain⟨gm,x,p,t,fx,ys,cs,rfl,_⟩:=h
  rfl
 obtain⟨gm,x,p,t,fx,ys,cs,rfl,ok,hg,ht,hb,hT,B,q⟩:=h;refine⟨_,Zh (J5 (Ji Uq (Jr Jy rfl ml Jq (Za (pv 2) Zg)) Zn (Jg _)) (Zm (Z9 (pv 1))) Jl)
  (Zm (Z9 (Zhu (Z1 LD.ok hr rfl LD.mg LD.kp LD.bd .nil Tm (Za (Vf (Jt (pv 0) rfl) C.cl MD FD hr BD .nil Ja) Zg)) MA hr Ja (Za (pv 0) (Za (pv 1) (Za (pv 2) Zg)))))),?_⟩
 refine⟨_,rfl,p,_,rfl,.inr hT,rfl,_,rfl,?_⟩;refine X2 (Zr6 ys) ?_;by_cases c0:ys=[]
 ·rw[Zd c0]
  have q':=q H (Same.refl H);rw[Zu c0] at q';exact Ym ⟨_,rfl,q'⟩
 ·rw[Zc c0]
  have B':=B.resolve_left c0;obtain⟨dg,hG⟩:=id hg;obtain⟨dx,po,to,hX,_,_⟩:=id ht;refine Yb ⟨_,rfl,gm,CG,dg,_,_,rfl,hG,CGm.cl,CGm.nT,Yt _ _,x,dx,_,rfl,hX,T3 _ _ _,x,fx,rfl,ht,wd fx.d,rfl,fun i e y dy H6 s6 hy h6=>?_,fun z=>absurd (Zjd _) z⟩;have ei:=Zf7 _ _ e;refine⟨i,y,dy,[],rfl,h6,rfl,_,rfl,_,rfl,_,rfl,y,gm,x,p,t,fx,ys,cs,rfl,ok,hg.same s6,ht.same s6,hb,s6.seqT hT,B',fun H7 s7=>?_⟩;have q':=q H7 (s6.trans s7);rw[Zk c0,ei] at q';exact q'
end
theorem Rj{p q:Nat→Bool}{c:Nat}:∀{l:List Nat},l.Nodup→c∈l→(∀ b,b≠c→p b=q b)→p c=false→q c=true→(l.filter p).length+1=(l.filter q).length
 | [],_,h,_,_,_=>nomatch h
 | a :: l,nd,h,e,pc,qc=>by
  obtain⟨na,nd'⟩:=List.nodup_cons.mp nd;by_cases z:a=c
  ·subst z
   rw[List.filter_cons_of_neg (by rw[pc];exact Zr),List.filter_cons_of_pos qc,Jo]
   congr 2
   exact List.filter_congr fun b hb=>e b fun z=>na (z ▸ hb)
  ·have m:c∈l:=(Je.mp h).resolve_left (Ne.symm z)
   have ih:=Rj nd' m e pc qc;have ea:=e a z;cases r:q a with
   | true=>rw[r] at ea;rw[List.filter_cons_of_pos ea,List.filter_cons_of_pos r,Jo,Jo,ih]
   | false=>rw[r] at ea;rw[List.filter_cons_of_neg (by rw[ea];exact Zr),List.filter_cons_of_neg (by rw[r];exact Zr),ih]
theorem Qz(c b:Nat):(2 ^ c).testBit b=decide (c=b):=by
 rw[Nat.testBit_two_pow]
theorem Bx(h c b:Nat)(hc:h.testBit c=true):(h ^^^ 2 ^ c).testBit b=(!decide (c=b) && h.testBit b):=by
 rw[Nat.testBit_xor,Qz];by_cases e:c=b
 ·subst e
  rw[hc,Zd rfl];rfl
 ·rw[Zc e]
  cases h.testBit b<;>rfl
theorem Zn8{h c:Nat}(hc:h.testBit c=true)(c32:c < 32):Xg 32 (h ^^^ 2 ^ c)+1=Xg 32 h:=by
 unfold Xg;refine Rj (c:=c) List.nodup_range (Ya.mpr c32) (fun b n=>?_) ?_ hc
 ·rw[Bx _ _ _ hc,Zc (Ne.symm n)]
  rfl
 ·rw[Bx _ _ _ hc,Zd rfl]
  rfl
theorem Zqn{h c:Nat}(hc:h.testBit c=false)(c32:c < 32):Xg 32 h+1=Xg 32 (h ||| 2 ^ c):=by
 unfold Xg;refine Rj (c:=c) List.nodup_range (Ya.mpr c32) (fun b n=>?_) hc ?_
 ·rw[Nat.testBit_or,Qz,Zc (Ne.symm n),Bool.or_false]
 ·rw[Nat.testBit_or,Qz,Zd rfl,Bool.or_true]
theorem Zka{h c:Nat}(hc:h.testBit c=true):(h ^^^ 2 ^ c)+2 ^ c=h:=by
 have a:=PyProof.Rows.nat_or_add_and (h ^^^ 2 ^ c) (2 ^ c);have e1:(h ^^^ 2 ^ c) ||| 2 ^ c=h:=Nat.eq_of_testBit_eq fun b=>by
  rw[Nat.testBit_or,Bx _ _ _ hc,Qz];by_cases e:c=b
  ·subst e
   rw[hc,Zd rfl];rfl
  ·rw[Zc e]
   cases h.testBit b<;>rfl
 have e2:(h ^^^ 2 ^ c) &&& 2 ^ c=0:=Nat.eq_of_testBit_eq fun b=>by
  rw[Nat.testBit_and,Bx _ _ _ hc,Qz,Nat.zero_testBit];by_cases e:c=b
  ·rw[Zd e]
   rfl
  ·rw[Zc e,Bool.and_false]
 rw[e1,e2] at a;omega
theorem Zoz{h:Nat}(hb:∀ b,h.testBit b=true→b < 32):h < 4294967296:=by
 refine Nat.lt_pow_two_of_testBit (n:=32) h fun i hi=>?_;cases e:h.testBit i with
 | false=>rfl
 | true=>exact absurd (hb i e) (by omega)
theorem Mt{α:Type}{p:α→Bool}{x:α}:∀{l:List α} {i:Nat} {a:α},l[i]? = some a→(l.set i x).countP p+(if p a then 1 else 0)=l.countP p+(if p x then 1 else 0)
 | [],_,_,h=>by simp at h
 | b :: l,0,a,h=>by
  have e:b=a:=Z0 h;subst e;rw[List.set_cons_zero,List.countP_cons,List.countP_cons];omega
 | b :: l,i+1,a,h=>by
  have ih:=Mt (p:=p) (x:=x) (l:=l) (i:=i) (a:=a) h;rw[List.set_cons_succ,List.countP_cons,List.countP_cons];omega
theorem Oj{α:Type}{g:α→Nat}{x:α}:∀{l:List α} {i:Nat} {a:α},l[i]? = some a→((l.set i x).map g).sum+g a=(l.map g).sum+g x
 | [],_,_,h=>by simp at h
 | b :: l,0,a,h=>by
  have e:b=a:=Z0 h;subst e;rw[List.set_cons_zero,List.map_cons,List.map_cons,List.sum_cons,List.sum_cons];omega
 | b :: l,i+1,a,h=>by
  have ih:=Oj (g:=g) (x:=x) (l:=l) (i:=i) (a:=a) h;rw[List.set_cons_succ,List.map_cons,List.map_cons,List.sum_cons,List.sum_cons];omega
def Ax(n lead i:Nat):Nat:=(i+n - lead) % n
theorem Vk{n lead k:Nat}(hn:n=3∨n=4)(hl:lead < n)(hk:k < n):Ax n lead ((lead+k) % n)=k:=by
 have all:∀ n∈[3,4],∀ lead < n,∀ k < n,Ax n lead ((lead+k) % n)=k:=by decide
 exact all n (by rcases hn with rfl | rfl<;>simp) lead hl k hk
theorem Tw{n lead i:Nat}(hn:n=3∨n=4)(hl:lead < n)(hi:i < n):(lead+Ax n lead i) % n=i∧Ax n lead i < n:=by
 have all:∀ n∈[3,4],∀ lead < n,∀ i < n,(lead+Ax n lead i) % n=i∧Ax n lead i < n:=by decide
 exact all n (by rcases hn with rfl | rfl<;>simp) lead hl i hi
abbrev Q0(hs ys:List Nat)(b:Nat):Nat:=hs.countP (fun h=>h.testBit b)+ys.count b
structure Plc(f:Fx)(hs:List Nat)(lead:Nat)(ys:List Nat)(m:Nat):Prop where
 len:hs.length=f.n
 ld:lead < f.n
 yl:ys.length < f.n
 one:∀ b,Q0 hs ys b≤1
 pk:∀ b,0 < Q0 hs ys b→b / 8 < f.s∧b % 8 < f.h
 lv:∀ i h,hs[i]? = some h→Xg 32 h+(if Ax f.n lead i < ys.length then 1 else 0)=m
section
variable{f:Fx}{hs ys:List Nat}{lead m:Nat}
theorem Plc.b32(ok:f.Ok)(P:Plc f hs lead ys m){b:Nat}(h:0 < Q0 hs ys b):b < 32:=by
 have:=P.pk b h;have:=ok.s4;have:=ok.h8;omega
theorem Qb{h b:Nat}(hh:h∈hs)(hb:h.testBit b=true):0 < Q0 hs ys b:=Jk (List.countP_pos_iff.mpr ⟨h,hh,hb⟩) (Nat.le_add_right _ _)
theorem Ny{c:Nat}(hc:c∈ys):0 < Q0 hs ys c:=Jk (List.count_pos_iff.mpr hc) (Nat.le_add_left _ _)
theorem Plc.h32(ok:f.Ok)(P:Plc f hs lead ys m){h:Nat}(hh:h∈hs):h < 4294967296:=Zoz fun b hb=>P.b32 ok (Qb hh hb)
theorem Plc.nd(P:Plc f hs lead ys m):ys.Nodup:=List.nodup_iff_count.mpr fun b=>by have:=P.one b;unfold Q0 at this;omega
theorem Plc.apart(P:Plc f hs lead ys m){h c:Nat}(hh:h∈hs)(hc:c∈ys):h.testBit c=false:=by
 cases e:h.testBit c with
 | false=>rfl
 | true=>
  have h1:0 < hs.countP (fun h=>h.testBit c):=List.countP_pos_iff.mpr ⟨h,hh,e⟩;have h2:=List.count_pos_iff.mpr hc;have:=P.one c;unfold Q0 at this;omega
theorem B8(ok:f.Ok)(lead k:Nat):(lead+k) % f.n < f.n:=Nat.mod_lt _ (by rcases ok.n34 with e | e<;>omega)
theorem Plc.turn(ok:f.Ok)(P:Plc f hs lead ys m):∃ h,hs[(lead+ys.length) % f.n]? = some h∧Xg 32 h=m:=by
 have sl:=B8 ok lead ys.length;have hl:(lead+ys.length) % f.n < hs.length:=by rw[P.len];exact sl
 refine⟨_,Zf hl,?_⟩;have:=P.lv _ _ (Zf hl);rw[Vk ok.n34 P.ld P.yl,Zk (Nat.lt_irrefl _)] at this;exact this
theorem Plc.le(P:Plc f hs lead ys m){h:Nat}(hh:h∈hs):Xg 32 h≤m:=by
 obtain⟨i,hi,e⟩:=Y0.mp hh;have:=P.lv i h (by rw[Zf hi,e]);omega
theorem Plc.max(ok:f.Ok)(P:Plc f hs lead ys m):m∈hs.map (Xg 32)∧∀ x∈hs.map (Xg 32),x≤m:=by
 obtain⟨h,e1,e2⟩:=P.turn ok;refine⟨Zv.mpr ⟨h,Zl e1,e2⟩,fun x hx=>?_⟩;obtain⟨h',hm,rfl⟩:=Zv.mp hx;exact P.le hm
theorem Plc.step(ok:f.Ok)(P:Plc f hs lead ys m){h c:Nat}(hh:hs[(lead+ys.length) % f.n]? = some h)(hc:h.testBit c=true) :
  (∀ b,Q0 (hs.set ((lead+ys.length) % f.n) (h ^^^ 2 ^ c)) (ys++[c]) b=Q0 hs ys b)∧(hs.set ((lead+ys.length) % f.n) (h ^^^ 2 ^ c)).sum+2 ^ c=hs.sum ∧
  ((hs.set ((lead+ys.length) % f.n) (h ^^^ 2 ^ c)).map (Xg 32)).sum+1=(hs.map (Xg 32)).sum∧0 < m ∧
  (ys.length+1 < f.n→Plc f (hs.set ((lead+ys.length) % f.n) (h ^^^ 2 ^ c)) lead (ys++[c]) m) ∧
  (ys.length+1=f.n→∀ t,t < f.n→Plc f (hs.set ((lead+ys.length) % f.n) (h ^^^ 2 ^ c)) t [] (m - 1)):=by
 have hm:h∈hs:=Zl hh;have c32:=P.b32 ok (Qb (ys:=ys) hm hc);have A:∀ b,Q0 (hs.set ((lead+ys.length) % f.n) (h ^^^ 2 ^ c)) (ys++[c]) b=Q0 hs ys b:=fun b=>by
  have z:=Mt (p:=fun h=>h.testBit b) (x:=h ^^^ 2 ^ c) hh;unfold Q0;rw[List.count_append,List.count_singleton];have e:=Bx h c b hc;by_cases q:c=b
  ·subst q
   rw[Zd rfl] at e;have e':(h ^^^ 2 ^ c).testBit c=false:=e;rw[hc,e'] at z;simp only[if_true,Bool.false_eq_true,if_false,Y7] at z ⊢;omega
  ·rw[Zc q] at e
   have e':(h ^^^ 2 ^ c).testBit b=h.testBit b:=e;rw[e'] at z;rw[Zk (by simpa using q)];omega
 have pc:=Zn8 hc c32;have S1:=Oj (g:=id) (x:=h ^^^ 2 ^ c) hh;have S2:=Oj (g:=Xg 32) (x:=h ^^^ 2 ^ c) hh;rw[List.map_id,List.map_id] at S1;have xa:=Zka hc;have S1':(hs.set ((lead+ys.length) % f.n) (h ^^^ 2 ^ c)).sum+h=hs.sum+(h ^^^ 2 ^ c):=S1;have tl:=P.lv _ _ hh;rw[Vk ok.n34 P.ld P.yl,Zk (Nat.lt_irrefl _)] at tl;refine⟨A,by omega,by omega,by omega,fun hl=>⟨by rw[Xx];exact P.len,P.ld,by rw[Z3];exact hl,fun b=>by rw[A];exact P.one b,fun b=>by rw[A];exact P.pk b,fun i g e=>?_⟩,
  fun hl t ht=>⟨by rw[Xx];exact P.len,ht,by show 0 < f.n;omega,fun b=>?_,fun b hb=>?_,fun i g e=>?_⟩⟩
 ·rw[Z3,List.length_singleton]
  by_cases q:i=(lead+ys.length) % f.n
  ·subst q
   have hi:(lead+ys.length) % f.n < hs.length:=by rw[P.len];exact B8 ok _ _
   rw[List.getElem?_set_self hi] at e;cases e;rw[Vk ok.n34 P.ld P.yl,Zu (Xh _)];omega
  ·rw[List.getElem?_set_ne (Ne.symm q)] at e
   have:=P.lv i g e;have hi:i < f.n:=by rw[← P.len];exact(Zx.mp e).1
   obtain⟨o1,o2⟩:=Tw ok.n34 P.ld hi;have ne:Ax f.n lead i≠ys.length:=fun z=>q (by rw[← o1,z]);by_cases w:Ax f.n lead i < ys.length
   ·rw[Zu w] at this
    rw[Zu (by omega)];exact this
   ·rw[Zk w] at this
    rw[Zk (by omega)];exact this
 ·have:=A b
  have:=P.one b;unfold Q0 at *;rw[List.count_append] at *;simp only[List.count_nil] at *;omega
 ·refine P.pk b ?_
  have:=A b;unfold Q0 at *;rw[List.count_append] at *;simp only[List.count_nil] at *;omega
 ·have hi:i < f.n:=by
   have:=(Zx.mp e).1;rw[Xx,P.len] at this;exact this
  show Xg 32 g+(if Ax f.n t i < 0 then 1 else 0)=m - 1;rw[Zk (Nat.not_lt_zero _)];by_cases q:i=(lead+ys.length) % f.n
  ·subst q
   have hi:(lead+ys.length) % f.n < hs.length:=by rw[P.len];exact B8 ok _ _
   rw[List.getElem?_set_self hi] at e;cases e;omega
  ·rw[List.getElem?_set_ne (Ne.symm q)] at e
   have:=P.lv i g e;obtain⟨o1,o2⟩:=Tw ok.n34 P.ld hi;have ne:Ax f.n lead i≠ys.length:=fun z=>q (by rw[← o1,z]);rw[Zu (by omega)] at this;omega
end
def Xe:List Nat→Nat→Bool
 | [],_=>true
 | h :: r,s=>if s &&& h=0 then Xe r (s ||| h) else false
def Zbw(hs:List Nat):Bool:=hs.all fun h=>decide (Xg 32 h=Xg 32 (hs.getD 0 0))
theorem S5:∀{hs:List Nat} {s:Nat},(∀ b,hs.countP (fun h=>h.testBit b)+(if s.testBit b then 1 else 0)≤1)→Xe hs s=true
 | [],_,_=>rfl
 | h :: r,s,hb=>by
  have z:s &&& h=0:=Nat.eq_of_testBit_eq fun b=>by
   have:=hb b;rw[List.countP_cons] at this;rw[Nat.testBit_and,Nat.zero_testBit];cases e1:s.testBit b with
   | false=>rfl
   | true=>
    cases e2:h.testBit b with
    | false=>rfl
    | true=>
     rw[e1,e2] at this;simp at this
  show(if s &&& h=0 then Xe r (s ||| h) else false)=true;rw[Zu z];refine S5 fun b=>?_;have:=hb b;rw[List.countP_cons] at this;rw[Nat.testBit_or];cases e1:s.testBit b<;>cases e2:h.testBit b<;>rw[e1,e2] at this<;>simp at this ⊢ <;> omega
theorem Di(ys:List Nat)(b:Nat):(ys.map fun c=>2 ^ c).countP (fun h=>h.testBit b)=ys.count b:=by
 rw[List.countP_map,List.count];refine List.countP_congr fun c _=>?_;show(2 ^ c).testBit b=true↔(c == b)=true;rw[Qz];simp
theorem Plc.parts{f:Fx}{hs ys:List Nat}{lead m:Nat}(P:Plc f hs lead ys m):Xe (hs++ys.map fun c=>2 ^ c) 0=true:=by
 refine S5 fun b=>?_;rw[List.countP_append,Di,Nat.zero_testBit];exact P.one b
theorem Zjg{ws:List Nat}{m:Nat}(h:∀ w∈ws,Xg 32 w=m)(h0:0 < ws.length):Zbw ws=true:=by
 refine J9.mpr fun w hw=>Zd ?_;have m0:ws.getD 0 0∈ws:=by
  rw[Zp,Zf h0];exact Yl _
 rw[h w hw,h _ m0]
theorem Vh{s h b:Nat}(h8:h≤8):b∈Yz s h↔b / 8 < s∧b % 8 < h:=by
 unfold Yz;rw[List.mem_flatMap];constructor
 ·rintro⟨u,hu,hb⟩
  obtain⟨v,hv,rfl⟩:=Zv.mp hb;have:=Ya.mp hu;have:=Ya.mp hv;constructor<;>omega
 ·rintro⟨h1,h2⟩
  exact⟨b / 8,Ya.mpr h1,Zv.mpr ⟨b % 8,Ya.mpr h2,by omega⟩⟩
structure WsOk(f:Fx)(hs:List Nat)(lead i:Nat)(ws:List Nat):Prop where
 len:ws.length=f.n
 at_:∀ j w,ws[j]? = some w→∃ h,hs[j]? = some h∧(Ax f.n lead j < i→Xg 32 w=Xg 32 h+1∧w < 4294967296)∧(¬ Ax f.n lead j < i→w=h)
section
variable{f:Fx}{hs ys ws:List Nat}{lead m i:Nat}
theorem WsOk.end_(ok:f.Ok)(P:Plc f hs lead ys m)(W:WsOk f hs lead ys.length ws):∀ w∈ws,w < 4294967296∧Xg 32 w=m:=fun w hw=>by
 obtain⟨j,hj,e⟩:=Y0.mp hw;obtain⟨h,e1,e2,e3⟩:=W.at_ j w (by rw[Zf hj,e]);have:=P.lv j h e1;by_cases z:Ax f.n lead j < ys.length
 ·rw[Zu z] at this
  obtain⟨a,b⟩:=e2 z;exact⟨b,by omega⟩
 ·rw[Zk z] at this
  rw[e3 z];exact⟨P.h32 ok (Zl e1),this⟩
end
end My
namespace L2
open PySem PySem.Spec PyProof.Rows Builtin Builtin.ObjectAttr
section
variable{prog:Program}{w:World}{A:Around}{E:Value→Shared→Prop}{h:Heap}{g:Array GenState}{d:Drawn}{t:Nat}{os:OsState}
variable{nm q:Str}{C N:Addr}{bs bm bmB:List Value}{hdct:Bool}{sn:List Str}{sub:List Value}{ab:Bool}{col:Option Bool}{dd:Option Addr}{k0 k1 k2 k3 k5:Option Value}{B newId initId:String}
end
section
variable{prog:Program}{w:World}{A:Around}{E:Value→Shared→Prop}{s:Shared}{K:W.Frag}{x C:Addr}{o:Obj}{vs:Array Value}{name:Str}{v:Value}
end
end L2
namespace L2
open PySem PySem.Spec PyProof.Rows
section
variable{M:Model}{A:Around}{E:Value→Shared→Prop}{env:Env}
variable{nm q:Str}{C N:Addr}{bs bm:List Value}{hdct:Bool}{sn:List Str}{sub:List Value}{ab:Bool}{col:Option Bool}{dd:Option Addr}{k0 k1 k2 k3 k5:Option Value}{newId:String}
end
section
variable{X:Cx}{n:Str}{np hpos np2 hpos2 pos:Pos}{i:Nat}
end
section
variable{X:Cx}{k:Nat}{f C:Addr}{fd:FuncData}{ps:List Str}{sp:Sp}{dvs:List V}{ds:List Value}{m name:Str}{p pos apos cpos:Pos}{o e a:Expr}{es:List Expr}{ta to:TE}{t:TA}
end
inductive DeepEq(K:W.Frag)(H:Hp):Nat→V→V→Prop
 | flat {d:Nat} {x:V}:U9 x=true→DeepEq K H d x x
 | tup {d:Nat} {p q:Addr} {xs ys:List V}:SqT K H p xs→SqT K H q ys→xs.length=ys.length→(∀ j,j < xs.length→DeepEq K H d (xs.getD j .non) (ys.getD j .non))→DeepEq K H (d+1) (.ref p) (.ref q)
 | lst {d:Nat} {p q:Addr} {xs ys:List V}:SqL K H p xs→SqL K H q ys→xs.length=ys.length→(∀ j,j < xs.length→DeepEq K H d (xs.getD j .non) (ys.getD j .non))→DeepEq K H (d+1) (.ref p) (.ref q)
theorem Zjt{x:V}(h:U9 x=true):Rh x x=true:=by
 cases x with
 | non=>rfl
 | bl b=>exact Y7 b
 | int i=>exact Y7 i
 | str t=>exact Y7 t
 | _=>cases h
theorem Uu{xs:List V}{us:List Value}(r:Vals xs us){j:Nat}(h:j < us.toArray.size):RelV (xs.getD j .non) us.toArray[j]∧j < xs.length:=by
 have hj:j < us.length:=by simpa using h
 have hx:j < xs.length:=by rw[r.length];exact hj
 obtain⟨u,e,ru⟩:=r.get (Zf hx);rw[Zf hj] at e;have g:xs.getD j .non=xs[j]:=by rw[Zp,Zf hx];rfl
 have eu:us[j]=u:=Z0 e;refine⟨?_,hx⟩;rw[g,List.getElem_toArray,eu];exact ru
theorem Zd0(n:Nat):(List.range n).all (fun _=>true)=true:=J9.mpr fun _ _=>rfl
section
variable{X:Cx}{pins:List (Addr×Obj)}{σ:St}{H:Hp}{s:Shared}
theorem DeepEq.at(I:Inv X pins σ H s){d:Nat}{x y:V}(h:DeepEq X.K H d x y):∀{A:Around} {u v:Value},RelV x u→RelV y v→A.units+d < cLine→SeqAt.EqAt A s u v true:=by
 induction h with
 | flat f=>
  intro A u v rx ry _;have:=Ri (A:=A) (s:=s) rx ry f f
  rwa [Zjt f] at this
 | @tup d p q xs ys hp hq hl hi ih=>
  intro A u v rx ry hu;cases rx;cases ry;by_cases e:p=q
  ·subst e;exact SeqAt.EqAt.same _
  obtain⟨its,r1,p1,_⟩:=I.tuple hp;obtain⟨its2,r2,p2,_⟩:=I.tuple hq;have l1:=r1.length;have l2:=r2.length;have z:=SeqAt.RcAt.tuples (A:=A) (s:=s) (e:=fun _=>true) p1 p2 (by omega) (fun j h1 h2=>ih j (Uu r1 h1).2 (A:=A.in1) (Uu r1 h1).1 (Uu r2 h2).1 (by show A.units+1+d < cLine;omega));have ez:((List.range (min its.toArray.size its2.toArray.size)).all (fun _=>true) && its.toArray.size == its2.toArray.size)=true:=by
   rw[Zd0,Bool.true_and];simp [← l1,← l2,hl]
  rw[ez] at z;exact SeqAt.EqAt.of_refs e z
 | @lst d p q xs ys hp hq hl hi ih=>
  intro A u v rx ry hu;cases rx;cases ry;by_cases e:p=q
  ·subst e;exact SeqAt.EqAt.same _
  obtain⟨its,r1,p1,_⟩:=I.list hp;obtain⟨its2,r2,p2,_⟩:=I.list hq;have l1:=r1.length;have l2:=r2.length;have z:=SeqAt.RcAt.lists (A:=A) (s:=s) (e:=fun _=>true) p1.isList p2.isList (by simp [← l1,← l2,hl]) (by omega) (fun j h1 h2=>ih j (Uu r1 h1).2 (A:=A.in1) (Uu r1 h1).1 (Uu r2 h2).1 (by show A.units+1+d < cLine;omega));rw[Zd0] at z;exact SeqAt.EqAt.of_refs e z
end
section
variable{X:Cx}{k:Nat}{f C:Addr}{fd:FuncData}{ps:List Str}{sp:Sp}{dvs:List V}{ds:List Value}{x:Str}{p pos:Pos}{e:Expr}{es:List Expr}{t:TA}
end
end L2
namespace My
open PySem L2
theorem U3{te:TE}{i:Nat}{u:TS}{D:Ends}{σ:St}{H:Hp}(G:V→Hp→Prop)(h:∀ R:V→Hp→Prop,(∀ v H',G v H'→R v H')→te σ H R)(hu:∀ v H',G v H'→u D (σ.set i (some v)) H'):Zgj (Zkk te (Qy i)) u D σ H:=h _ hu
theorem Ol{s u:TS}{D:Ends}{σ:St}{H:Hp}(Pv:St→Hp→Prop)(h1:∀ D':Ends,D'.rt=D.rt→(∀ σ H,Pv σ H→D'.nx σ H)→s D' σ H)(h2:∀ σ H,Pv σ H→u D σ H):Zgj s u D σ H:=h1 { D with nx:=u D } rfl h2
theorem X0{c:TT}{t u r:TS}{D:Ends}{σ:St}{H:Hp}(Cb:Bool→Hp→Prop)(Pv:St→Hp→Prop)(hc:∀ R:Bool→Hp→Prop,(∀ b H',Cb b H'→R b H')→c σ H R)
  (h1:∀ H',Cb true H'→∀ D':Ends,D'.rt=D.rt→(∀ σ H,Pv σ H→D'.nx σ H)→t D' σ H') (h2:∀ H',Cb false H'→∀ D':Ends,D'.rt=D.rt→(∀ σ H,Pv σ H→D'.nx σ H)→u D' σ H') (h3:∀ σ H,Pv σ H→r D σ H):Zgj (Zp0 c t u) r D σ H:=
 hc _ fun b H' hb=>match b,hb with | true,hb=>Ym (h1 H' hb { D with nx:=r D } rfl h3) | false,hb=>Yb (h2 H' hb { D with nx:=r D } rfl h3)
theorem Qx{T:St→Hp→Prop}{rt:VK}{bk ct:St→Hp→Prop}{σ:St}{H:Hp}(h:T σ H):Zmn (Ends.mk T rt bk ct) σ H:=h
theorem Zi1{T:St→Hp→Prop}{rt:VK}{bk ct:St→Hp→Prop}{σ:St}{H:Hp}{i:Nat}{v:V}(h:T (σ.set i (some v)) H):Qy i v σ H (Ends.mk T rt bk ct).nx:=h
theorem int_dec{a b:Int}:decide (V.int a=V.int b)=decide (a=b):=decide_eq_decide.mpr ⟨fun h=>by injection h,fun h=>by rw[h]⟩
theorem nat_dec{a b:Nat}:decide (V.int (a:Nat)=V.int (b:Nat))=decide (a=b):=int_dec.trans (decide_eq_decide.mpr ⟨fun h=>by omega,fun h=>by omega⟩)
theorem Zi5{r n:Nat}{i:Int}(h:i=((n:Nat):Int)):decide (V.int ((r:Nat):Int)=V.int i)=decide (r=n):=by subst h;exact nat_dec
theorem Be{z:Int}{n:Nat}(h:0 < n):∃ m:Nat,m < n∧z % ((n:Nat):Int)=((m:Nat):Int):=by
 obtain⟨m,e⟩:=Int.eq_ofNat_of_zero_le (Yn z (show((n:Nat):Int)≠0 by omega));exact⟨m,by have:=Yh z (show(0:Int) < ((n:Nat):Int) by omega);omega,e⟩
theorem Zdi{n i:Nat}(h:i < n):ixN n ((i:Nat):Int)=some i:=by
 unfold ixN;rw[Zu (by omega),Zu (by omega),Z2]
end My
namespace L2
open PySem
end L2
namespace L2
open PySem PySem.Spec PyProof.Rows
section
variable{X:Cx}
end
end L2
namespace My
open PySem L2 PySem.Spec PyProof.Rows
section
variable{X:Cx}{e st:Expr}{te:TE}{ts:TO}{pos p2:Pos}
end
def up(c:Nat):Nat:=if 97≤c∧c≤122 then c - 32 else c
end My
namespace L2
open PySem PySem.Spec PyProof.Rows
section
variable{prog:Program}{w:World}{A:Around}{E:Value→Shared→Prop}{s:Shared}
end
section
variable{prog:Program}{w:World}{A:Around}{E:Value→Shared→Prop}{s:Shared}{h₀:Heap}{L l:Addr}{m:Str→Option Value}{news:List (Addr×Obj)}{Q:Value→Shared→Prop}
end
section
variable{prog:Program}{w:World}{A:Around}{E:Value→Shared→Prop}{s:Shared}{Q:Value→Shared→Prop}{pv nm qual:Str}{p p1 p2 p3:Pos}{f cc nl c':Addr}{pm ctv:Value}
end
section
variable{X:Cx}{pins:List (Addr×Obj)}{σ:St}{H:Hp}{s:Shared}{c P:Addr}{pv nm:Str}{p p1 p2 p3 pos:Pos}{cc:Addr}
end
end L2
namespace L2
open PySem PySem.Spec PyProof.Rows Att
section
variable{X:Cx}{pins:List (Addr×Obj)}{σ:St}{H:Hp}{s:Shared}{c P:Addr}{pv nm:Str}{p p1 p2 p3 pos:Pos}{cc:Addr}
end
section
variable{X:Cx}{c P:Addr}{pv nm:Str}{p p1 p2 p3 pos np cpos kp:Pos}{e:Expr}{t:TA}{i:Nat}
end
end L2
namespace L2
open PySem PySem.Spec PyProof.Rows
section
variable{X:Cx}
theorem Zaf{prog:Program}{w:World}{A:Around}{bs:List Bool}{its:List Value}(ri:Vals (bs.map V.bl) its):TruthOf prog w A (fun i v=>its.toArray[i]? = some v) (fun i=>bs.getD i false):=by
 intro i v s Q E hv hQ;have hv':its[i]? = some v:=by simpa using hv
 have hi:i < bs.length:=by
  have h1:=(Zx.mp hv').1;have h2:=ri.length;rw[Zj] at h2;omega
 obtain⟨u,eu,ru⟩:=ri.get (i:=i) (x:=.bl (bs[i])) (by rw[Z4,Zf hi];rfl);rw[hv'] at eu;cases eu;cases ru;have e:bs.getD i false=bs[i]:=by rw[Zp,Zf hi];rfl
 have hQ':Q (bs.getD i false) s:=hQ;rw[e] at hQ';exact wpAny_truthy_bool hQ'
theorem Zfy(hc:X.calm=true):X3 X (.builtin "any") (fun xs H Q=>∃(a:Addr) (bs:List Bool),xs=[.ref a]∧SqL X.K H a (bs.map V.bl)∧Q (.bl (bs.any id)) H):=by
 intro pins s σ H xs us Q I r h;obtain⟨a,bs,rfl,hS,q⟩:=h;obtain⟨u,rfl,ru⟩:=Qt r;cases ru;obtain⟨its,ri,pl,hz⟩:=I.list hS;have hl:s.heap.IsList a its.toArray:=Qq pl;have ha:a < s.heap.objs.size:=by obtain⟨_,e,_⟩:=hl;exact Z8 e
 have hh:X.A.in1.handled=none:=I.ok.hd hc;refine call_any_walk (wpAny_pyIter_list hl ?_);refine⟨s.heap.objs.size,[s.heap.objs.size,a],[s.heap.objs.size],its.toArray.size,(fun i v=>its.toArray[i]? = some v),(fun i h=>h.IsListIter s.heap.objs.size a i∧h.IsList a its.toArray),(fun i=>bs.getD i false),rfl,Walks.list hh s.heap.objs.size a (Jn ha) its.toArray,
  ⟨⟨_,Z6 _ rfl,rfl,rfl⟩,hl.push _⟩,Zaf ri,fun h' tk hk=>?_⟩
 have e:(List.range its.toArray.size).any (fun i=>bs.getD i false)=bs.any id:=by
  have h2:=ri.length;rw[Zj] at h2;have h3:its.toArray.size=bs.length:=by simp [h2]
  rw[h3];have e1:(List.range bs.length).map (fun i=>bs.getD i false)=bs:=by
   apply List.ext_getElem
   ·simp
   ·intro i h1 h2
    simp;rw[Zf (by simpa using h2)];rfl
  conv=>rhs;rw[← e1]
  rw[List.any_map];rfl
 rw[e];refine⟨.bl _,H,I.kept (t':=tk) fun b o eb=>hk b o ?_ (Zi _ eb),rfl,q⟩;intro hm;have:b=s.heap.objs.size:=by simpa using hm
 subst this;exact absurd (Z8 eb) (Nat.lt_irrefl _)
def Zql:R2:=fun x y H Q=>∃ a b xs ys,x = .ref a∧y = .ref b∧H a=some (.tup xs)∧H b=some (.tup ys)∧xs.length+ys.length≤sizeLine∧∀ p H',Same H H'→H' p=some (.tup (xs++ys))→Q (.ref p) H'
theorem Ac:Ng X (binaryOp .Add) Zql:=by
 intro pins s σ H x y v u Q I rx ry h;obtain⟨a,b,xs,ys,rfl,rfl,ha,hb,hz,q⟩:=h;by_cases hx:xs=[]
 ·subst hx
  cases rx;cases ry;obtain⟨its,r1,p1,_⟩:=I.tuple (.inl (.inl ha));obtain⟨its2,r2,p2,_⟩:=I.tuple (.inl (.inl hb));have e1:its=[]:=r1.nil_iff.mpr rfl;subst e1;obtain⟨⟨cls,dd,data,sl⟩,ho,hc,n,hd⟩:=id p1;obtain⟨⟨cls2,dd2,data2,sl2⟩,ho2,hc2,n2,hd2⟩:=id p2;simp only at hc hd hc2 hd2;subst hc hd hc2 hd2;exact concat_meets ⟨_,ho,rfl⟩ ⟨_,ho2,rfl⟩ noFill_tuple_add seq_tuple_add PySem.F.slot_tuple_add PySem.F.entry_tuple_add (PySem.F.args_tuple_add_2 _ _)
   (tuple_addW0 a b _ _ n n2 dd dd2 sl sl2 rfl) ⟨ho,ho2,⟨.ref b,H,I,rfl,q b H (fun _ _ e=>e) hb⟩⟩
 ·exact Zk8 pins s σ H _ _ v u Q I rx ry ⟨a,b,xs,ys,rfl,rfl,.inl (.inl ha),.inl (.inl hb),hx,hz,fun e=>by subst e;exact q a H (fun _ _ e=>e) (by rw[J8];exact ha),
   fun _ p hp=>q p _ (fun c o e=>by rw[Jh (J4 e hp)];exact e) Zo⟩
end
end L2
namespace My
open PySem L2
abbrev Zg5:Stmt:=top 5
abbrev Zbb:Stmt:=top 15
abbrev Ou:Stmt:=top 16
abbrev Vc:Stmt:=Yq (top 64) 1
abbrev Ox:Stmt:=top 18
abbrev Zay:Stmt:=top 19
abbrev Zg0:Stmt:=top 20
abbrev Nk:Stmt:=top 21
abbrev Op:Stmt:=top 22
abbrev Za2:Stmt:=top 23
abbrev Zcw:Stmt:=top 24
abbrev O2:Stmt:=top 25
theorem Zc7:∀ s≤4,∀ h≤8,Es (Yz s h) 0=Tn s h:=by decide +kernel
theorem Zk2:∀ s≤4,∀ h≤8,∀ c∈Yz s h,c < 32:=by decide +kernel
theorem Kv:∀ s≤4,∀ h≤8,(Yz s h).length≤32:=by decide +kernel
section
variable{P:Program}{w:World}{K:W.Frag}{mg:Str→Option Value}{base:Heap}{f g:Addr}{fd gd:FuncData}
def Gs(K:W.Frag):Sp:=fun vs H Q _=>∃ h:Nat,vs=[.int h]∧h < 4294967296∧Q (.int (Xg 32 h)) H
theorem scMany:FnScope ["hand","number"] ["hand"] (Zq Zg5):=Uy (by decide +kernel)
theorem Zli{k:Nat}(F:Fun K "many" "many" Zg5 f fd):FnOk P w K mg base Yr (k+1) f fd ["hand"] (Gs K):=by
 refine F.ok scMany (fun vs H Q E h=>?_) (fun cdv A outer s H vs Q E hr h=>?_)
 ·obtain⟨h,rfl,_⟩:=h
  rfl
 obtain⟨h,rfl,h32,q⟩:=h;refine⟨_,Zh (Jf (i:=1) scMany.nd rfl (Or.inl rfl) Zn)
  (Zh (Kk PassesOwn.never (Ji Ek (pv 0) Zn (Jg _)) (Zh (Jf (i:=0) scMany.nd rfl (Or.inl rfl) (Jd Tv (pv 0) (Jd Nr (pv 0) Zn)))
   (Zm (Jf (i:=1) scMany.nd rfl (Or.inl rfl) (Jd Y1 (pv 1) Zn)))))
  (Zm (Z9 (pv 1)))),?_⟩
 refine Ay (fun σ H'=>H'=H∧∃ a n:Nat,σ=[some (.int (a:Nat)),some (.int (n:Nat))]∧a < 4294967296∧n+Xg 32 a=Xg 32 h) (fun σ _=>match σ with | some (.int a) :: _=>a.toNat | _=>0)
  ⟨rfl,h,0,rfl,h32,Nat.zero_add _⟩ (fun σ H1 z=>?_) (fun σ H1 R R' m ⟨v,e,i,j,e1,e2,b,e3,r⟩=>⟨v,e,i,j,e1,e2,b,e3,m _ _ r⟩)
 obtain⟨rfl,a,n,rfl,a32,inv⟩:=z;refine⟨_,rfl,_,_,rfl,rfl,_,rfl,Si (fun c=>?_) fun c=>?_⟩
 ·have c':(0:Int) < (a:Nat):=Ju c
  refine⟨_,rfl,_,rfl,_,_,rfl,rfl,_,_,rfl,rfl,?_⟩;refine⟨_,rfl,_,_,rfl,rfl,?_⟩;have e:((a:Nat):Int) - 1=((a - 1:Nat):Int):=by omega
  have d:=Kt 32 a (by omega) (by rw[show(2:Nat) ^ 32=4294967296 from rfl];exact a32);have l:a &&& (a - 1)≤a - 1:=Nat.and_le_right;refine⟨⟨rfl,a &&& (a - 1),n+1,?_,by omega,by omega⟩,?_⟩
  ·show [some (V.int (Builtin.bitAnd (a:Nat) ((a:Nat) - 1))),some (V.int ((n:Nat)+1))]=_
   rw[e,PyProof.Rows.bitAnd_pp (Int.natCast_nonneg _) (Int.natCast_nonneg _)];rfl
  ·show(Builtin.bitAnd (a:Nat) ((a:Nat) - 1)).toNat < ((a:Nat):Int).toNat
   rw[e,PyProof.Rows.bitAnd_pp (Int.natCast_nonneg _) (Int.natCast_nonneg _)];show((a &&& (a - 1):Nat):Int).toNat < _;omega
 ·have c':¬ (0:Int) < (a:Nat):=of_decide_eq_false (Bool.eq_false_iff.mpr c)
  have z:a=0:=by omega
  subst z;rw[Zhz] at inv;refine⟨_,rfl,?_⟩;have e:n=Xg 32 h:=by omega
  rw[e];exact q
def Zcs(K:W.Frag):Sp:=fun vs H Q _=>∃(a:Addr) (hs:List Nat),vs=[.ref a]∧SqL K H a (vN hs)∧Q (.bl (Xe hs 0)) H
theorem scApart:FnScope ["hands","seen","hand"] ["hands"] (Zq Zbb):=Uy (by decide +kernel)
theorem Ziz{k:Nat}(F:Fun K "is_apart" "is_apart" Zbb f fd):FnOk P w K mg base Yr (k+1) f fd ["hands"] (Zcs K):=by
 refine F.ok scApart (fun vs H Q E h=>?_) (fun cdv A outer s H vs Q E hr h=>?_)
 ·obtain⟨a,hs,rfl,_⟩:=h
  rfl
 obtain⟨a,hs,rfl,hS,q⟩:=h;refine⟨_,Zh (Jf (i:=1) scApart.nd rfl (Or.inl rfl) Zn)
  (Zh (Uv PassesOwn.never rfl (Y6 (pv 0)) (Jj (i:=2) scApart.nd rfl (Or.inl rfl))
   (Zh (J5 (Ji Vj (Jd Tv (pv 1) (pv 2)) Zn (Jg _)) (Zm (Z9 Up)) Jl)
   (Zm (Jf (i:=1) scApart.nd rfl (Or.inl rfl) (Jd Zc9 (pv 1) (pv 2))))))
  (Zm (Z9 Up))),?_⟩
 refine⟨_,rfl,a,rfl,⟨_,hS⟩,Xd (xs:=vN hs) (fun i σ H2=>H2=H∧∃(sn:Nat) (x:Option V),Xe hs 0=Xe (hs.drop i) sn∧σ=[some (.ref a),some (.int ((sn:Nat):Int)),x]) ⟨rfl,0,none,rfl,rfl⟩ (fun i σ H2 _ z=>z.1 ▸ hS) (fun i x σ H2 hx z=>?_) (fun σ H2 z=>?_)⟩
 ·obtain⟨rfl,sn,y,ha,rfl⟩:=z
  obtain⟨h,hi,rfl⟩:=Ni hx;have il:i < hs.length:=(Zx.mp hi).1;have ed:hs.drop i=h :: hs.drop (i+1):=by
   rw[List.drop_eq_getElem_cons il];rw[Zf il] at hi;rw[Z0 hi]
  have eA:Builtin.bitAnd ((sn:Nat):Int) ((h:Nat):Int)=((sn &&& h:Nat):Int):=by
   rw[PyProof.Rows.bitAnd_pp (by omega) (by omega),Z2,Z2]
  have eO:Builtin.bitOr ((sn:Nat):Int) ((h:Nat):Int)=((sn ||| h:Nat):Int):=by
   rw[PyProof.Rows.bitOr_and,PyProof.Rows.bitAnd_pp (by omega) (by omega),Z2,Z2];have:=PyProof.Rows.nat_or_add_and sn h;omega
  have e0:(!decide (V.int (Builtin.bitAnd ((sn:Nat):Int) ((h:Nat):Int))=V.int 0)) = !decide (sn &&& h=0):=by
   rw[eA];exact congrArg (fun b=>!b) (Zi5 (n:=0) rfl)
  rw[ed] at ha;refine⟨_,rfl,_,rfl,_,_,rfl,rfl,rfl,_,rfl,X2 e0 ?_⟩;by_cases c:sn &&& h=0
  ·rw[Zd c]
   refine Yb ⟨_,rfl,_,rfl,_,_,rfl,rfl,rfl,sn ||| h,some (.int ((h:Nat):Int)),?_,?_⟩
   ·rw[ha]
    show(if sn &&& h=0 then Xe (hs.drop (i+1)) (sn ||| h) else false)=_;rw[Zu c]
   ·show [some (V.ref a),some (V.int (Builtin.bitOr ((sn:Nat):Int) ((h:Nat):Int))),some (V.int ((h:Nat):Int))]=_
    rw[eO]
  ·rw[Zc c]
   have:Xe hs 0=false:=by
    rw[ha];show(if sn &&& h=0 then Xe (hs.drop (i+1)) (sn ||| h) else false)=_;rw[Zk c]
   rw[this] at q;exact Ym q
 ·obtain⟨rfl,sn,y,ha,rfl⟩:=z
  rw[J1,List.drop_length] at ha;have:Xe hs 0=true:=ha;rw[this] at q;exact q
def Zcl(K:W.Frag):Sp:=fun vs H Q _=>∃(a:Addr) (hs:List Nat),vs=[.ref a]∧H a=some (.lst (vN hs))∧(∀ h∈hs,h < 4294967296)∧0 < hs.length∧hs.length≤100∧∀ H',Same H H'→Q (.bl (Zbw hs)) H'
theorem Zkr:FnScope ["hands"] ["hands"] (Zq Ou):=Uy (by decide +kernel)
def lvV(m:Nat)(x:V):Bool:=match x with | .int i=>decide (Xg 32 i.toNat=m) | _=>false
theorem Ziq{k:Nat}{f1:Addr}{d1:FuncData}(F:Fun K "is_level" "is_level" Ou f fd)(LM:Lib P w K mg base k "many" ["hand"] (Gs K) f1 d1)(mA:mg "all" = none):FnOk P w K mg base Yr (k+1) f fd ["hands"] (Zcl K):=by
 refine F.ok Zkr (fun vs H Q E h=>?_) (fun cdv A outer s H vs Q E hr h=>?_)
 ·obtain⟨a,hs,rfl,_⟩:=h
  rfl
 obtain⟨a,hs,rfl,hL,h32,h0,h100,q⟩:=h;refine⟨_,Zm (Z9 (Jr (Bh rfl) rfl mA PyProof.Rows.boot_all (Za (Ud ["hand","hands"] [none,some 0] rfl (Blk.by (sc:=Zq Ou) (N0:=["hands"]) rfl rfl (by decide +kernel)) (Y6 (pv 0)) (fun C s₀ H₀ ex=>Jj (i:=0) (show(["hand","hands"]:List Str).Nodup by decide +kernel) rfl (Or.inl rfl)) (fun C s₀ H₀ ex=>U5)
   (fun C s₀ H₀ ex=>Ys Uq (Z1 LM.ok hr rfl LM.mg LM.kp LM.bd .nil Ja (Za (pv 0) Zg)) (Z1 LM.ok hr rfl LM.mg LM.kp LM.bd .nil Ja (Za (Jw (show IxR _ (Zqg K) from Uk) (pv 1) Zn (fun _ _=>rfl)) Zg)) (Jg _))) Zg))),?_⟩
 have hg:hs[0]? = some (hs.getD 0 0):=by rw[Zp,Zf h0];rfl
 have lt0:hs.getD 0 0 < 4294967296:=h32 _ (Zl hg);refine⟨_,rfl,a,rfl,⟨_,SqL.of hL⟩,Qj (K:=K) (xs:=vN hs) (fun _=>true) (fun x=>.bl (lvV (Xg 32 (hs.getD 0 0)) x)) (SqL.of hL) (J2 _ (by rw[J1];omega)) (fun x H3 hx sm R hR=>hR H3 (Same.refl H3)) (fun x H3 hx hp sm R hR=>?_) (fun l H1 sm hl hL1=>?_)⟩
 ·obtain⟨h,hh,rfl⟩:=Zv.mp hx
  refine⟨_,rfl,h,rfl,h32 h hh,_,rfl,a,_,0,.int ((hs.getD 0 0:Nat):Int),rfl,rfl,SqL.of (sm _ _ hL),Xv (j:=0) (by unfold vN;rw[Z4,hg];rfl),hs.getD 0 0,rfl,lt0,rfl,?_⟩;have z:=hR H3 (Same.refl H3);have e:lvV (Xg 32 (hs.getD 0 0)) (.int ((h:Nat):Int))=decide (Xg 32 h=Xg 32 (hs.getD 0 0)):=by
   show decide (Xg 32 (((h:Nat):Int).toNat)=_)=_;rw[Z2]
  rw[e] at z;have e2:decide (V.int ((Xg 32 h:Nat):Int)=V.int ((Xg 32 (hs.getD 0 0):Nat):Int))=decide (Xg 32 h=Xg 32 (hs.getD 0 0)):=nat_dec;rw[← e2] at z;exact z
 ·refine⟨l,(hs.map fun h=>decide (Xg 32 h=Xg 32 (hs.getD 0 0))),rfl,?_,?_⟩
  ·rw[List.filter_eq_self.mpr fun _ _=>rfl] at hL1
   refine SqL.of ?_;rw[hL1];unfold vN;rw[Z7,Z7]
   congr 2
  ·have z:=q H1 sm
   rw[List.all_map];exact z
def Zcq(CT CG:Addr):Sp:=fun vs H Q _=>∃(gm x:Addr) (tv:V) (f:Fx),vs=[.ref gm]∧f.Ok∧IsGam CG x tv H gm∧IsTab CT f H x∧∀ H',Same H H'→Q (.int (Tn f.s f.h:Nat)) H'
theorem scGPack:FnScope ["self","cards","suit"] ["self"] (Zq Vc):=Uy (by decide +kernel)
theorem Ziu{k:Nat}{CT CG f1:Addr}{d1:FuncData}{t1:Tok}(F:Fun K "pack" "Game.pack" Vc f fd)(C:TabC K mg CT)(CGm:GamC K mg CG)(LH:Lib P w K mg base k "hand_of" ["cards"] (B6 K) f1 d1)(mH:mg "HEIGHTS" = some (.int 8 t1))(mr:mg "range" = none) :
  FnOk P w K mg base Yr (k+1) f fd ["self"] (Zcq CT CG):=by
 refine F.ok scGPack (fun vs H Q E h=>?_) (fun cdv A outer s H vs Q E hr h=>?_)
 ·obtain⟨gm,x,tv,fx,rfl,_⟩:=h
  rfl
 obtain⟨gm,x,tv,fx,rfl,ok,hg,ht,q⟩:=h;refine⟨_,Zh (Jf (i:=1) scGPack.nd rfl (Or.inl rfl) (Xl Zg))
  (Zh (Uv PassesOwn.never rfl (U7 rfl mr (Za (Jt (Jt (pv 0) rfl) rfl) Zg)) (Jj (i:=2) scGPack.nd rfl (Or.inr rfl))
   (Zm (X8 (Ej Yd PySem.F.slot_list_extend PySem.F.type_list_extend Zfa (pv 1) (Za (Ud ["height","suit"] [none,some 2] rfl (Blk.by (sc:=Zq Vc) (N0:=["self","cards","suit"]) rfl rfl (by decide +kernel)) (U7 rfl mr (Za (Jt (Jt (pv 0) rfl) rfl) Zg)) (fun C s₀ H₀ ex=>Jj (i:=0) (show(["height","suit"]:List Str).Nodup by decide +kernel) rfl (Or.inl rfl))
    (fun C s₀ H₀ ex=>U5) (fun C s₀ H₀ ex=>Jd Y1 (Jd Xm (Y9 (v:=.int 8) rfl mH ⟨_,rfl⟩) (pv 1)) (pv 0))) Zg)))))
  (Zm (Z9 (Z1 LH.ok hr rfl LH.mg LH.kp LH.bd .nil Ja (Za (pv 1) Zg))))),?_⟩
 have s4:=ok.s4;have h8:=ok.h8;refine⟨J2 0 (by decide),fun l hl=>?_⟩;have s1:=Z5 hl (.lst []);obtain⟨dg,hg1⟩:=hg.same s1;obtain⟨dx,po,to,hx1,_,_⟩:=ht.same s1;refine⟨_,rfl,gm,CG,dg,_,_,rfl,hg1,CGm.cl,CGm.nT,Yt _ _,x,CT,dx,_,_,rfl,hx1,C.cl,C.nS,Nv _ _ _,(fx.s:Int),rfl,by omega,by omega,?_⟩;refine Qh (n:=fx.s) (fun i σ H'=>Same H H'∧H' l=some (.lst (vN (Yz i fx.h)))∧∃ x2,σ=[some (.ref gm),some (.ref l),x2]) ⟨s1,Zo,_,rfl⟩ (fun i σ H2 hi z=>?_) (fun σ H2 z=>?_)
 ·obtain⟨s2,hL2,x2,rfl⟩:=z
  obtain⟨dg,hg2⟩:=hg.same s2;obtain⟨dx,po,to,hx2,_,_⟩:=ht.same s2;refine⟨_,rfl,.inl ⟨rfl,_,SqL.of hL2⟩,?_⟩;refine⟨_,rfl,gm,CG,dg,_,_,rfl,hg2,CGm.cl,CGm.nT,Yt _ _,x,CT,dx,_,_,rfl,hx2,C.cl,C.nH,Em _ _ _,(fx.h:Int),rfl,by omega,by omega,?_⟩;refine Bu (n:=fx.h) (lo:=0) (fun _=>true) (fun j=>.int ((8 * i+j:Nat):Int)) (J2 _ (by omega)) (fun j H3 hj sm R hR=>hR H3 (Same.refl H3)) (fun j H3 hj hp sm R hR=>?_) (fun l3 H3 s3 hl3 hL3=>?_)
  ·refine⟨_,rfl,_,_,rfl,rfl,.inl ⟨by decide,by decide⟩,_,rfl,_,_,rfl,rfl,?_⟩
   have e:(8:Int) * (0+(i:Nat))+(0+(j:Nat))=((8 * i+j:Nat):Int):=by omega
   show R (.int ((8:Int) * (0+(i:Nat))+(0+(j:Nat)))) H3;rw[e];exact hR H3 (Same.refl H3)
  have e3:((List.range fx.h).filter fun _=>true).map (fun j=>V.int ((8 * i+j:Nat):Int))=vN ((List.range fx.h).map fun v=>8 * i+v):=by
   rw[List.filter_eq_self.mpr (fun _ _=>rfl)];unfold vN;rw[Z7];rfl
  rw[e3] at hL3;have hL4:=s3 _ _ hL2;have ll:(vN (Yz i fx.h)).length+(vN ((List.range fx.h).map fun v=>8 * i+v)).length≤sizeLine:=by
   rw[J1,J1,Zj,J7];have:=Kv i (by omega) fx.h h8;have:=J2 100 (by decide);omega
  refine⟨l,l3,_,_,rfl,rfl,hL4,hL3,ll,?_,?_,_,rfl⟩
  ·intro b o hb
   have n:b≠l:=fun z=>by rw[z,hl] at hb;cases hb
   rw[Jh n];exact s3 _ _ (s2 _ _ hb)
  ·rw[Zo]
   congr 2
   unfold Yz vN;rw[List.range_succ,List.flatMap_append,Jp]
   congr 1
   simp
 ·obtain⟨s2,hL2,x2,rfl⟩:=z
  refine⟨_,rfl,l,Yz fx.s fx.h,rfl,SqL.of hL2,Zk2 _ s4 _ h8,?_⟩;rw[Zc7 _ s4 _ h8];exact q _ s2
theorem Oh(c:Nat):(1:Int) * 2 ^ (((c:Nat):Int)).toNat=((2 ^ c:Nat):Int):=by
 rw[Z2,Int.one_mul,Int.natCast_pow];rfl
theorem orN(a b:Nat):Builtin.bitOr ((a:Nat):Int) ((b:Nat):Int)=((a ||| b:Nat):Int):=by
 rw[PyProof.Rows.bitOr_and,PyProof.Rows.bitAnd_pp (by omega) (by omega),Z2,Z2];have:=PyProof.Rows.nat_or_add_and a b;omega
theorem Zrh(a b:Nat):Builtin.bitXor ((a:Nat):Int) ((b:Nat):Int)=((a ^^^ b:Nat):Int):=by
 show Builtin.bitOr ((a:Nat):Int) ((b:Nat):Int) - Builtin.bitAnd ((a:Nat):Int) ((b:Nat):Int)=_;rw[orN,PyProof.Rows.bitAnd_pp (by omega) (by omega),Z2,Z2];have:=PyProof.Rows.nat_or_add_and a b;have e:(a ^^^ b)+(a &&& b)=a ||| b:=by
  have z:=PyProof.Rows.nat_or_add_and (a ^^^ b) (a &&& b);have e1:(a ^^^ b) ||| (a &&& b)=a ||| b:=Nat.eq_of_testBit_eq fun i=>by
   rw[Nat.testBit_or,Nat.testBit_xor,Nat.testBit_and,Nat.testBit_or];cases a.testBit i<;>cases b.testBit i<;>rfl
  have e2:(a ^^^ b) &&& (a &&& b)=0:=Nat.eq_of_testBit_eq fun i=>by
   rw[Nat.testBit_and,Nat.testBit_xor,Nat.testBit_and,Nat.zero_testBit];cases a.testBit i<;>cases b.testBit i<;>rfl
  rw[e1,e2] at z;omega
 omega
def IsPl(H:Hp)(p:Addr)(hs:List Nat)(lead:Nat)(ys:List Nat):Prop:=∃ hp tp,H p=some (.tup [.ref hp,.int (lead:Nat),.ref tp])∧H hp=some (.tup (vN hs))∧H tp=some (.tup (vN ys))
theorem IsPl.same{H H':Hp}{p:Addr}{hs ys:List Nat}{lead:Nat}(h:IsPl H p hs lead ys)(s:Same H H'):IsPl H' p hs lead ys:=by
 obtain⟨hp,tp,a,b,c⟩:=h;exact⟨hp,tp,s _ _ a,s _ _ b,s _ _ c⟩
structure GamH(CT CG:Addr)(f:Fx)(t:Option Nat)(H:Hp)(gm x:Addr):Prop where
 ok:f.Ok
 g:IsGam CG x (Rv t) H gm
 t:IsTab CT f H x
theorem GamH.same{CT CG:Addr}{f:Fx}{t:Option Nat}{H H':Hp}{gm x:Addr}(h:GamH CT CG f t H gm x)(s:Same H H'):GamH CT CG f t H' gm x:=⟨h.ok,h.g.same s,h.t.same s⟩
theorem Znl:FnScope ["game","seat"] ["game","seat"] (Zq Ox):=Uy (by decide +kernel)
def B1(CT CG:Addr):Sp:=fun vs H Q _=>∃(gm x:Addr) (t:Option Nat) (fx:Fx) (i j:Nat),vs=[.ref gm,.int (i:Nat),.int (j:Nat)]∧GamH CT CG fx t H gm x∧Q (.int ((i+j) % fx.n:Nat)) H
theorem Zkp:FnScope ["game","lead","steps"] ["game","lead","steps"] (Zq Zay):=Uy (by decide +kernel)
theorem Zif{k:Nat}{CT CG:Addr}(F:Fun K "seat_round" "seat_round" Zay f fd)(C:TabC K mg CT)(CGm:GamC K mg CG):FnOk P w K mg base Yr (k+1) f fd ["game","lead","steps"] (B1 CT CG):=by
 refine F.ok Zkp (fun vs H Q E h=>?_) (fun cdv A outer s H vs Q E hr h=>?_)
 ·obtain⟨gm,x,t,fx,i,j,rfl,_⟩:=h
  rfl
 obtain⟨gm,x,t,fx,i,j,rfl,G,q⟩:=h;refine⟨_,Zm (Z9 (Jd Yv (Jd Y1 (pv 1) (pv 2)) (Jt (Jt (pv 0) rfl) rfl))),?_⟩;obtain⟨dg,hg⟩:=G.g;obtain⟨dx,po,to,hx,_,_⟩:=G.t;have n0:0 < fx.n:=by rcases G.ok.n34 with e | e<;>omega
 refine⟨_,rfl,_,rfl,_,_,rfl,rfl,_,rfl,gm,CG,dg,_,_,rfl,hg,CGm.cl,CGm.nT,Yt _ _,x,CT,dx,_,_,rfl,hx,C.cl,C.nN,Us _ _ _,_,_,rfl,rfl,(by show(0:Int) < ((fx.n:Nat):Int);omega),?_⟩;have e:(((i:Nat):Int)+((j:Nat):Int)) % ((fx.n:Nat):Int)=(((i+j) % fx.n:Nat):Int):=by rw[Int.natCast_emod,Xy]
 show Q (V.int ((((i:Nat):Int)+((j:Nat):Int)) % ((fx.n:Nat):Int))) H;rw[e];exact q
def Gu(K:W.Frag):Sp:=fun vs H Q _=>∃(p:Addr) (fx:Fx) (hs ys:List Nat) (lead m:Nat),vs=[.ref p]∧fx.Ok∧IsPl H p hs lead ys∧Plc fx hs lead ys m∧∀ H',Same H H'→Q (.int (m:Nat)) H'
theorem Zno:FnScope ["place"] ["place"] (Zq Zcw):=Uy (by decide +kernel)
def pcV(x:V):V:=match x with | .int i=>.int ((Xg 32 i.toNat:Nat):Int) | _=>.non
theorem Kr(hs:List Nat):((vN hs).filter fun _=>true).map pcV=(hs.map fun h=>((Xg 32 h:Nat):Int)).map V.int:=by
 rw[List.filter_eq_self.mpr fun _ _=>rfl];unfold vN;rw[Z7,Z7];refine Jv fun h _=>?_;show V.int ((Xg 32 (((h:Nat):Int)).toNat:Nat):Int)=_;rw[Z2];rfl
theorem Zlk{k:Nat}{f1:Addr}{d1:FuncData}(F:Fun K "left" "left" Zcw f fd)(LM:Lib P w K mg base k "many" ["hand"] (Gs K) f1 d1)(mM:mg "max" = none):FnOk P w K mg base Yr (k+1) f fd ["place"] (Gu K):=by
 refine F.ok Zno (fun vs H Q E h=>?_) (fun cdv A outer s H vs Q E hr h=>?_)
 ·obtain⟨p,fx,hs,ys,lead,m,rfl,_⟩:=h
  rfl
 obtain⟨p,fx,hs,ys,lead,m,rfl,ok,⟨hp,tp,h1,h2,h3⟩,Pl,q⟩:=h;refine⟨_,Zm (Z9 (Jr (Dm rfl) rfl mM PyProof.Rows.boot_max (Za (Ud ["hand"] [none] rfl (Blk.by (sc:=Zq Zcw) (N0:=["place"]) rfl rfl (by decide +kernel)) (V9 (Jw Jz (pv 0) Zn (fun _ _=>rfl))) (fun C s₀ H₀ ex=>Jj (i:=0) (show(["hand"]:List Str).Nodup by decide +kernel) rfl (Or.inl rfl)) (fun C s₀ H₀ ex=>U5)
   (fun C s₀ H₀ ex=>Z1 LM.ok hr rfl LM.mg LM.kp LM.bd .nil Ja (Za (pv 0) Zg))) Zg))),?_⟩
 have n4:hs.length≤4:=by rw[Pl.len];rcases ok.n34 with e | e<;>omega
 refine⟨_,rfl,p,_,_,_,rfl,rfl,SqT.of h1,(rfl:X6 [V.ref hp,V.int (lead:Nat),V.ref tp] 0=some (V.ref hp)),hp,rfl,⟨_,SqT.of h2⟩,Nx (K:=K) (xs:=vN hs) (fun _=>true) pcV (SqT.of h2) (J2 _ (by rw[J1];omega)) (fun y H3 hy sm R hR=>hR H3 (Same.refl H3)) (fun y H3 hy hp sm R hR=>?_) (fun lq H4 s4 hlq hL4=>?_)⟩
 ·obtain⟨h,hh,rfl⟩:=Zv.mp hy
  refine⟨_,rfl,h,rfl,Pl.h32 ok hh,?_⟩;have z:=hR H3 (Same.refl H3);have e:pcV (V.int (h:Nat))=V.int ((Xg 32 h:Nat):Int):=by
   show V.int ((Xg 32 (((h:Nat):Int)).toNat:Nat):Int)=_;rw[Z2]
  rw[e] at z;exact z
 ·rw[Kr] at hL4
  obtain⟨m1,m2⟩:=Pl.max ok;refine⟨lq,_,rfl,SqL.of hL4,?_,fun M hM hmax=>?_⟩
  ·rw[Zj,Pl.len]
   rcases ok.n34 with e | e<;>omega
  ·have e:M=(m:Nat):=by
    obtain⟨h,hh,e1⟩:=Zv.mp hM;have a1:=m2 _ (Zv.mpr ⟨h,hh,rfl⟩);obtain⟨h',hh',e2⟩:=Zv.mp m1;have a2:=hmax _ (Zv.mpr ⟨h',hh',rfl⟩);omega
   rw[e];exact q H4 s4
theorem Zf9(ws:List Nat)(j x:Nat):(vN ws).set j (.int (x:Nat))=vN (ws.set j x):=by
 unfold vN;rw[List.map_set]
theorem Zgb{ws:List Nat}{j w:Nat}(h:ws[j]? = some w):X6 (vN ws) (j:Nat)=some (.int (w:Nat)):=Xv (by unfold vN;rw[Z4,h];rfl)
abbrev Zqu:List Str:=["game","place","hands","number","card","seat"]
theorem scWith:FnScope Zqu ["game","place"] (Zq Zg0):=Uy (by decide +kernel)
theorem Zh1{f:Fx}(ok:f.Ok):Tn f.s f.h=hN (Yz f.s f.h):=(Zc7 _ ok.s4 _ ok.h8).symm
def Zhl(x:V):V:=match x with | .int i=>.int ((2 ^ i.toNat:Nat):Int) | _=>.non
theorem Mv(ys:List Nat):((vN ys).filter fun _=>true).map Zhl=vN (ys.map fun c=>2 ^ c):=by
 rw[List.filter_eq_self.mpr fun _ _=>rfl];unfold vN;rw[Z7,Z7];refine Jv fun c _=>?_;show V.int ((2 ^ (((c:Nat):Int)).toNat:Nat):Int)=_;rw[Z2];rfl
abbrev T0:List Str:=["game","place","hands","trick","parts","pack"]
theorem scIsPlace:FnScope T0 ["game","place"] (Zq Nk):=Uy (by decide +kernel)
def Nj(f:Fx)(lead:Nat)(ys:List Nat)(m:Nat):V:=if m=0 then .non else .int (((lead+ys.length) % f.n:Nat):Int)
def Qm(CT CG:Addr):Sp:=fun vs H Q _=>∃(gm x p:Addr) (t:Option Nat) (fx:Fx) (hs ys:List Nat) (lead m:Nat),vs=[.ref gm,.ref p]∧GamH CT CG fx t H gm x∧IsPl H p hs lead ys∧Plc fx hs lead ys m∧∀ H',Same H H'→Q (Nj fx lead ys m) H'
theorem Zgu:FnScope ["game","place"] ["game","place"] (Zq Op):=Uy (by decide +kernel)
theorem Zev{k:Nat}{CT CG f1 f2:Addr}{d1 d2:FuncData}(F:Fun K "turn_at" "turn_at" Op f fd)(LL:Lib P w K mg base k "left" ["place"] (Gu K) f1 d1)(LR:Lib P w K mg base k "seat_round" ["game","lead","steps"] (B1 CT CG) f2 d2)(ml:mg "len" = none) :
  FnOk P w K mg base Yr (k+1) f fd ["game","place"] (Qm CT CG):=by
 refine F.ok Zgu (fun vs H Q E h=>?_) (fun cdv A outer s H vs Q E hr h=>?_)
 ·obtain⟨gm,x,p,t,fx,hs,ys,lead,m,rfl,_⟩:=h
  rfl
 obtain⟨gm,x,p,t,fx,hs,ys,lead,m,rfl,G,hPl,Pl,q⟩:=h;refine⟨_,Zh (J5 (Ji Uq (Z1 LL.ok hr rfl LL.mg LL.kp LL.bd .nil Ja (Za (pv 1) Zg)) Zn (Jg _)) (Zm (Z9 Q9)) Jl)
  (Zm (Z9 (Z1 LR.ok hr rfl LR.mg LR.kp LR.bd .nil Ja (Za (pv 0) (Za (Jw Jz (pv 1) Zn (fun _ _=>rfl)) (Za (Jr Jy rfl ml Jq (Za (Jw Jz (pv 1) Zn (fun _ _=>rfl)) Zg)) Zg)))))),?_⟩
 refine⟨_,rfl,p,fx,hs,ys,lead,m,rfl,G.ok,hPl,Pl,fun H1 s1=>⟨rfl,_,rfl,?_⟩⟩;have e0:decide (V.int ((m:Nat):Int)=V.int 0)=decide (m=0):=Zi5 (n:=0) rfl;refine X2 e0 ?_;have q1:=q H1 s1;unfold Nj at q1;by_cases c:m=0
 ·rw[Zu c] at q1
  rw[Zd c];exact Ym q1
 ·rw[Zk c] at q1
  rw[Zc c];obtain⟨hp,tp,h1,h2,h3⟩:=hPl.same s1;refine Yb ⟨_,rfl,_,rfl,p,_,_,_,rfl,rfl,SqT.of h1,(rfl:X6 [V.ref hp,V.int (lead:Nat),V.ref tp] 1=some (V.int (lead:Nat))),_,rfl,p,_,_,_,rfl,rfl,SqT.of h1,(rfl:X6 [V.ref hp,V.int (lead:Nat),V.ref tp] 2=some (V.ref tp)),tp,_,rfl,.inr (SqT.of h3),gm,x,t,fx,lead,ys.length,?_,G.same s1,q1⟩;show [V.ref gm,V.int (lead:Nat),V.int (((vN ys).length:Nat):Int)]=_;rw[J1]
def Ur(f:Fx)(t:Option Nat)(ys:List Nat)(h:Nat):List Nat:=Y3 (hN (if ys=[] then Y3 h else alw f.d f t ys (Y3 h)))
theorem Qa{f:Fx}{t:Option Nat}{ys:List Nat}{h c:Nat}(h32:h < 4294967296)(hc:c∈Ur f t ys h):h.testBit c=true∧c < 32:=by
 unfold Ur at hc;have sub:∀ x∈(if ys=[] then Y3 h else alw f.d f t ys (Y3 h)),x∈Y3 h:=fun x hx=>by
  by_cases e:ys=[]
  ·rw[Zu e] at hx;exact hx
  ·rw[Zk e] at hx;exact Zdz _ _ _ _ _ x hx
 have l32:∀ x∈(if ys=[] then Y3 h else alw f.d f t ys (Y3 h)),x < 32:=fun x hx=>Ey (sub x hx);have m:=sub c ((T7 l32 c).mp hc);exact⟨(Eu h32).mp m,Ey m⟩
def moveL(f:Fx)(t:Option Nat)(hs:List Nat)(lead:Nat)(ys:List Nat)(m:Nat):List Nat:=if m=0 then [] else Ur f t ys (hs.getD ((lead+ys.length) % f.n) 0)
def Ql(CT CG:Addr):Sp:=fun vs H Q _=>∃(gm x p:Addr) (t:Option Nat) (fx:Fx) (hs ys:List Nat) (lead m:Nat),vs=[.ref gm,.ref p]∧GamH CT CG fx t H gm x∧Mp t∧IsPl H p hs lead ys∧Plc fx hs lead ys m ∧
 ∀ l H',Same H H'→H l=none→H' l=some (.lst (vN (moveL fx t hs lead ys m)))→Q (.ref l) H'
theorem scMoves:FnScope ["game","place","seat"] ["game","place"] (Zq Za2):=Uy (by decide +kernel)
theorem Plc.beg{f:Fx}{hs ys:List Nat}{lead m h:Nat}(ok:f.Ok)(Pl:Plc f hs lead ys m)(hh:h∈hs):ys=[]∨Beg f ys (Y3 h):=by
 by_cases e:ys=[]
 ·exact .inl e
 ·have h32:=Pl.h32 ok hh
  have yl:=Pl.yl;have n4:f.n≤4:=by rcases ok.n34 with z | z<;>omega
  have s4:=ok.s4;refine .inr ⟨List.length_pos_iff.mpr e,by omega,fun c hc=>?_,fun c hc=>?_⟩
  ·have:=Pl.pk c (Ny hc)
   omega
  ·have:=Pl.pk c (Qb (ys:=ys) hh ((Eu h32).mp hc))
   exact⟨Ey hc,this.2⟩
theorem Zim{k:Nat}{CT CG f1 f2 m3:Addr}{d1 d2 e3:FuncData}(F:Fun K "moves" "moves" Za2 f fd)(CGm:GamC K mg CG)(LT:Lib P w K mg base k "turn_at" ["game","place"] (Qm CT CG) f1 d1)(LC:Lib P w K mg base k "cards_in" ["hand"] (N5 K) f2 d2)
  (MM:Meth K CG "may" m3) (FM:FnOk P w K mg base Yr k m3 e3 ["self","hand","trick"] (Zgq K CT CG)) (BM:Binds K e3 ["self","hand","trick"] []):FnOk P w K mg base Yr (k+1) f fd ["game","place"] (Ql CT CG):=by
 refine F.ok scMoves (fun vs H Q E h=>?_) (fun cdv A outer s H vs Q E hr h=>?_)
 ·obtain⟨gm,x,p,t,fx,hs,ys,lead,m,rfl,_⟩:=h
  rfl
 obtain⟨gm,x,p,t,fx,hs,ys,lead,m,rfl,G,tb,hPl,Pl,q⟩:=h;refine⟨_,Zh (Jf (i:=2) scMoves.nd rfl (Or.inl rfl) (Z1 LT.ok hr rfl LT.mg LT.kp LT.bd .nil Ja (Za (pv 0) (Za (pv 1) Zg))))
  (Zh (J5 (Ji Aa (pv 2) Q9 (Jg _)) (Zm (Z9 (Xl Zg))) Jl)
  (Zm (Z9 (Z1 LC.ok hr rfl LC.mg LC.kp LC.bd .nil Ja (Za (Uj (pv 0) CGm.cl MM FM hr BM .nil Ja (Za (Jw Jz (Jw Jz (pv 1) Zn (fun _ _=>rfl)) (pv 2) (fun _ _=>rfl)) (Za (Jw Jz (pv 1) Zn (fun _ _=>rfl)) Zg))) Zg))))),?_⟩
 refine⟨_,rfl,_,rfl,gm,x,p,t,fx,hs,ys,lead,m,rfl,G,hPl,Pl,fun H1 s1=>?_⟩;by_cases c:m=0
 ·have e:Nj fx lead ys m = .non:=by unfold Nj;rw[Zu c]
  rw[e];refine⟨_,rfl,rfl,_,rfl,X2 (Zd rfl:decide (V.non=V.non)=true) (Ym ⟨J2 0 (by decide),fun l hl=>q l _ (s1.trans (Z5 hl _)) (s1.free hl) ?_⟩)⟩;rw[Zo];unfold moveL;rw[Zu c];rfl
 ·have e:Nj fx lead ys m = .int (((lead+ys.length) % fx.n:Nat):Int):=by unfold Nj;rw[Zk c]
  rw[e];refine⟨_,rfl,rfl,_,rfl,X2 (Zc (fun z=>nomatch z):decide (V.int (((lead+ys.length) % fx.n:Nat):Int)=V.non)=false) (Yb ?_)⟩;obtain⟨h,eh,_⟩:=Pl.turn G.ok;have hh:h∈hs:=Zl eh;have h32:=Pl.h32 G.ok hh;obtain⟨hp,tp,h1,h2,h3⟩:=hPl.same s1;obtain⟨dg,hG⟩:=(G.same s1).g;have eN:hN (Y3 h)=h:=Zh5 h32 fun _=>Iff.rfl;refine⟨_,rfl,gm,dg,_,rfl,hG,Ev _ _ _ (by decide +kernel) (by decide +kernel),_,rfl,p,_,_,_,rfl,rfl,SqT.of h1,(rfl:X6 [V.ref hp,V.int (lead:Nat),V.ref tp] 0=some (V.ref hp)),_,rfl,hp,_,_,_,rfl,rfl,SqT.of h2,Zgb eh,
   _,rfl,p,_,_,_,rfl,rfl,SqT.of h1,(rfl:X6 [V.ref hp,V.int (lead:Nat),V.ref tp] 2=some (V.ref tp)),gm,x,tp,t,fx,ys,Y3 h,?_,G.ok,(G.same s1).g,(G.same s1).t,tb,SqT.of h3,Pl.beg G.ok hh,fun H2 s2=>?_⟩
  ·rw[eN]
   rfl
  ·have sub:∀ y∈(if ys=[] then Y3 h else alw fx.d fx t ys (Y3 h)),y < 32:=fun y hy=>by
    by_cases e:ys=[]
    ·rw[Zu e] at hy;exact Ey hy
    ·rw[Zk e] at hy;exact Ey (Zdz _ _ _ _ _ y hy)
   refine⟨_,rfl,Sk sub,fun l H3 s3 hl hL=>q l H3 (s1.trans (s2.trans s3)) ((s1.trans s2).free hl) ?_⟩;rw[hL];unfold moveL Ur;rw[Zk c,Zp,eh];rfl
def Au:Option Nat→V
 | none=>.non
 | some i=>.int (i:Nat)
structure Nxt(f:Fx)(t:Option Nat)(hs:List Nat)(lead:Nat)(ys:List Nat)(h c:Nat)(hs':List Nat)(lead':Nat)(ys':List Nat)(tk:Option Nat):Prop where
 hand:hs'=hs.set ((lead+ys.length) % f.n) (h ^^^ 2 ^ c)
 go:ys.length+1 < f.n→lead'=lead∧ys'=ys++[c]∧tk=none
 full:ys.length+1=f.n→ys'=[]∧tk=some lead'∧∃ i,Win f t (Yg (ys++[c])) (ys++[c]) i∧lead'=(lead+i) % f.n
def Xo(K:W.Frag)(CT CG:Addr):Sp:=fun vs H Q _=>∃(gm x p:Addr) (t:Option Nat) (fx:Fx) (hs ys:List Nat) (lead m h c:Nat),vs=[.ref gm,.ref p,.int (c:Nat)]∧GamH CT CG fx t H gm x∧IsPl H p hs lead ys∧Plc fx hs lead ys m∧hs[(lead+ys.length) % fx.n]? = some h∧h.testBit c=true ∧
 ∀ r p' hs' lead' ys' tk H',Same H H'→Nxt fx t hs lead ys h c hs' lead' ys' tk→H' r=some (.tup [.ref p',Au tk])→IsPl H' p' hs' lead' ys'→Q (.ref r) H'
abbrev Zlx:List Str:=["game","place","card","seat","hands","trick","taker"]
theorem scBehind:FnScope Zlx ["game","place","card"] (Zq O2):=Uy (by decide +kernel)
theorem Ze6{k:Nat}{CT CG f1 m3:Addr}{d1 e3:FuncData}(F:Fun K "behind" "behind" O2 f fd)(C:TabC K mg CT)(CGm:GamC K mg CG)(LR:Lib P w K mg base k "seat_round" ["game","lead","steps"] (B1 CT CG) f1 d1)
  (MW:Meth K CG "winner" m3) (FW:FnOk P w K mg base Yr k m3 e3 ["self","trick"] (Gq K CT CG)) (BW:Binds K e3 ["self","trick"] []) (ml:mg "len" = none) (mLi:mg "list" = none) (mT:mg "tuple" = none):FnOk P w K mg base Yr (k+1) f fd ["game","place","card"] (Xo K CT CG):=by
 refine F.ok scBehind (fun vs H Q E h=>?_) (fun cdv A outer s H vs Q E hr h=>?_)
 ·obtain⟨gm,x,p,t,fx,hs,ys,lead,m,h,c,rfl,_⟩:=h
  rfl
 obtain⟨gm,x,p,t,fx,hs,ys,lead,m,h,c,rfl,G,hPl,Pl,eh,hc,q⟩:=h;obtain⟨hp,tp,h1,h2,h3⟩:=id hPl;refine⟨_,Zh (Jf (i:=3) scBehind.nd rfl (Or.inl rfl) (Z1 LR.ok hr rfl LR.mg LR.kp LR.bd .nil Ja (Za (pv 0) (Za (Jw Jz (pv 1) Zn (fun _ _=>rfl)) (Za (Jr Jy rfl ml Jq (Za (Jw Jz (pv 1) Zn (fun _ _=>rfl)) Zg)) Zg)))))
  (Zh (Jf (i:=4) scBehind.nd rfl (Or.inl rfl) (Yy Qd rfl mLi Y4 (Za (Jw Jz (pv 1) Zn (fun _ _=>rfl)) Zg)))
  (Zh (Br (Jd Zod (Jw Uk (pv 4) (pv 3) (fun _ _=>rfl)) (Jd Ts Zn (pv 2))) (Zhs (pv 4) (pv 3) Kg))
  (Zh (Jf (i:=5) scBehind.nd rfl (Or.inl rfl) (Jd Ac (Jw Jz (pv 1) Zn (fun _ _=>rfl)) (Um (Za (pv 2) Zg))))
  (Zh (J5 (Ji M0 (Jr Jy rfl ml Jq (Za (pv 5) Zg)) (Jt (Jt (pv 0) rfl) rfl) (Jg _))
   (Zm (Z9 (Um (Za (Um (Za (Yy Xp rfl mT Yf (Za (pv 4) Zg)) (Za (Jw Jz (pv 1) Zn (fun _ _=>rfl)) (Za (pv 5) Zg)))) (Za Q9 Zg))))) Jl)
  (Zh (Jf (i:=6) scBehind.nd rfl (Or.inl rfl) (Z1 LR.ok hr rfl LR.mg LR.kp LR.bd .nil Ja (Za (pv 0) (Za (Jw Jz (pv 1) Zn (fun _ _=>rfl)) (Za (Uj (pv 0) CGm.cl MW FW hr BW .nil Ja (Za (pv 5) Zg)) Zg)))))
  (Zm (Z9 (Um (Za (Um (Za (Yy Xp rfl mT Yf (Za (pv 4) Zg)) (Za (pv 6) (Za (Um Zg) Zg)))) (Za (pv 6) Zg)))))))))),?_⟩
 have ok:=G.ok;have n4:fx.n≤4:=by rcases ok.n34 with e | e<;>omega
 have yl:=Pl.yl;have hm:h∈hs:=Zl eh;have c32:=Pl.b32 ok (Qb (ys:=ys) hm hc);refine⟨_,rfl,_,rfl,p,_,_,_,rfl,rfl,SqT.of h1,(rfl:X6 [V.ref hp,V.int (lead:Nat),V.ref tp] 1=some (V.int (lead:Nat))),_,rfl,p,_,_,_,rfl,rfl,SqT.of h1,(rfl:X6 [V.ref hp,V.int (lead:Nat),V.ref tp] 2=some (V.ref tp)),tp,_,rfl,.inr (SqT.of h3),gm,x,t,fx,lead,ys.length,(by show [V.ref gm,V.int (lead:Nat),V.int (((vN ys).length:Nat):Int)]=_;rw[J1]),G,?_⟩;refine⟨_,rfl,p,_,_,_,rfl,rfl,SqT.of h1,(rfl:X6 [V.ref hp,V.int (lead:Nat),V.ref tp] 0=some (V.ref hp)),hp,_,rfl,.inr (SqT.of h2),fun l hl=>?_⟩;have s1:=Z5 hl (.lst (vN hs));refine⟨_,rfl,_,rfl,l,_,_,_,rfl,rfl,SqL.of Zo,Zgb eh,_,rfl,_,_,rfl,rfl,⟨by omega,by omega,by decide⟩,_,_,rfl,rfl,?_⟩;refine⟨_,rfl,_,rfl,l,_,_,(lead+ys.length) % fx.n,rfl,rfl,Zo,Zdi (by rw[J1];exact(Zx.mp eh).1),?_⟩;have eS:(vN hs).set ((lead+ys.length) % fx.n) (V.int (Builtin.bitXor ((h:Nat):Int) ((1:Int) * 2 ^ (((c:Nat):Int)).toNat)))=vN (hs.set ((lead+ys.length) % fx.n) (h ^^^ 2 ^ c)):=by
  rw[Oh,Zrh,Zf9]
 have s2:Same H (upd (upd H l (.lst (vN hs))) l (.lst (vN (hs.set ((lead+ys.length) % fx.n) (h ^^^ 2 ^ c))))):=by
  rw[U2];exact Z5 hl _
 show Zgj _ _ _ _ (upd (upd H l (.lst (vN hs))) l (.lst ((vN hs).set ((lead+ys.length) % fx.n) (V.int (Builtin.bitXor ((h:Nat):Int) ((1:Int) * 2 ^ (((c:Nat):Int)).toNat))))));rw[eS];have hL2:upd (upd H l (.lst (vN hs))) l (.lst (vN (hs.set ((lead+ys.length) % fx.n) (h ^^^ 2 ^ c)))) l=some (.lst (vN (hs.set ((lead+ys.length) % fx.n) (h ^^^ 2 ^ c)))):=Zo;generalize upd (upd H l (.lst (vN hs))) l (.lst (vN (hs.set ((lead+ys.length) % fx.n) (h ^^^ 2 ^ c))))=H2 at s2 hL2 ⊢;refine⟨_,rfl,p,_,_,_,rfl,rfl,SqT.of (s2 _ _ h1),(rfl:X6 [V.ref hp,V.int (lead:Nat),V.ref tp] 2=some (V.ref tp)),_,rfl,J2 1 (by decide),fun c1 hc1=>?_⟩;have s3:=s2.trans (Z5 hc1 (.tup [.int (c:Nat)]));refine⟨tp,c1,_,_,rfl,rfl,s3 _ _ h3,Zo,J2 _ (by rw[J1];show ys.length+1≤1000;omega),fun tq H4 s4 hq4=>?_⟩;have eY:vN ys++[V.int (c:Nat)]=vN (ys++[c]):=by unfold vN;rw[Jp];rfl
 rw[eY] at hq4;have s5:=s3.trans s4;have hL4:H4 l=some (.lst (vN (hs.set ((lead+ys.length) % fx.n) (h ^^^ 2 ^ c)))):=s4 _ _ (Z5 hc1 _ _ _ hL2);obtain⟨dg,hg⟩:=(G.same s5).g;obtain⟨dx,po,to,hx,_,_⟩:=(G.same s5).t;have e2:decide ((((vN (ys++[c])).length:Nat):Int) < ((fx.n:Nat):Int))=decide (ys.length+1 < fx.n):=by
  rw[J1,Z3,List.length_singleton];exact decide_eq_decide.mpr ⟨fun z=>by omega,fun z=>by omega⟩
 refine⟨_,rfl,tq,_,rfl,.inr (SqT.of hq4),_,rfl,gm,CG,dg,_,_,rfl,hg,CGm.cl,CGm.nT,Yt _ _,x,CT,dx,_,_,rfl,hx,C.cl,C.nN,Us _ _ _,_,_,rfl,rfl,_,rfl,X2 e2 ?_⟩;by_cases cl:ys.length+1 < fx.n
 ·rw[Zd cl]
  refine Ym ⟨_,rfl,l,_,rfl,.inl ⟨SqL.of hL4,fun th hth=>?_⟩⟩;have s6:=s5.trans (Z5 hth (.tup (vN (hs.set ((lead+ys.length) % fx.n) (h ^^^ 2 ^ c)))));refine⟨_,rfl,p,_,_,_,rfl,rfl,SqT.of (s6 _ _ h1),(rfl:X6 [V.ref hp,V.int (lead:Nat),V.ref tp] 1=some (V.int (lead:Nat))),_,rfl,J2 3 (by decide),fun pp hpp=>⟨J2 2 (by decide),fun r hr1=>?_⟩⟩;have a1:=Z5 hpp (.tup [.ref th,.int (lead:Nat),.ref tq]);have a2:=Z5 hr1 (.tup [.ref pp,.non]);refine q r pp _ lead (ys++[c]) none _ (s6.trans (a1.trans a2)) ⟨rfl,fun _=>⟨rfl,rfl,rfl⟩,fun z=>absurd z (by omega)⟩ Zo ⟨th,tq,a2 _ _ Zo,a2 _ _ (a1 _ _ Zo),a2 _ _ (a1 _ _ ?_)⟩;exact Z5 hth _ _ _ hq4
 ·have cl2:ys.length+1=fx.n:=by omega
  rw[Zc cl];have T:Trk fx (ys++[c]):=by
   refine⟨?_,fun y hy=>?_,by rw[Z3];exact Nat.succ_pos _⟩
   ·refine List.nodup_append.mpr ⟨Pl.nd,List.nodup_cons.mpr ⟨Uh,List.nodup_nil⟩,fun y hy z hz=>?_⟩
    rw[Jb.mp hz];intro e;subst e;have:=Pl.apart hm hy;rw[hc] at this;cases this
   ·rcases Jm.mp hy with z | z
    ·exact(Pl.pk y (Ny z)).2
    ·rw[Jb.mp z]
     exact(Pl.pk c (Qb (ys:=ys) hm hc)).2
  refine Yb ⟨_,rfl,_,rfl,p,_,_,_,rfl,rfl,SqT.of (s5 _ _ h1),(rfl:X6 [V.ref hp,V.int (lead:Nat),V.ref tp] 1=some (V.int (lead:Nat))),_,rfl,gm,dg,_,rfl,hg,Ev _ _ _ (by decide +kernel) (by decide +kernel),_,rfl,gm,x,tq,t,fx,ys++[c],rfl,ok,(G.same s5).g,(G.same s5).t,SqT.of hq4,T,fun i H5 t5 W=>?_⟩;have s6:=s5.trans t5;refine⟨gm,x,t,fx,lead,i,rfl,G.same s6,?_⟩;refine⟨_,rfl,l,_,rfl,.inl ⟨SqL.of (t5 _ _ hL4),fun th hth=>?_⟩⟩;have a0:=Z5 hth (.tup (vN (hs.set ((lead+ys.length) % fx.n) (h ^^^ 2 ^ c))));refine⟨_,rfl,J2 0 (by decide),fun tz htz=>⟨J2 3 (by decide),fun pp hpp=>⟨_,rfl,J2 2 (by decide),fun r hr1=>?_⟩⟩⟩;have a1:=Z5 htz (.tup []);have a2:=Z5 hpp (.tup [.ref th,.int (((lead+i) % fx.n:Nat):Int),.ref tz]);have a3:=Z5 hr1 (.tup [.ref pp,.int (((lead+i) % fx.n:Nat):Int)]);exact q r pp _ ((lead+i) % fx.n) [] (some ((lead+i) % fx.n)) _ (s6.trans (a0.trans (a1.trans (a2.trans a3)))) ⟨rfl,fun z=>absurd z (by omega),fun _=>⟨rfl,rfl,i,W,rfl⟩⟩ Zo ⟨th,tz,a3 _ _ Zo,a3 _ _ (a2 _ _ (a1 _ _ Zo)),a3 _ _ (a2 _ _ Zo)⟩
end
section
variable{fx:Fx}{t:Option Nat}{hs ys hs' ys':List Nat}{lead lead' m h c:Nat}{tk:Option Nat}
theorem Nxt.plc(ok:fx.Ok)(Pl:Plc fx hs lead ys m)(eh:hs[(lead+ys.length) % fx.n]? = some h)(hc:h.testBit c=true)(N:Nxt fx t hs lead ys h c hs' lead' ys' tk) :
  ∃ m',Plc fx hs' lead' ys' m'∧hs'.sum+2 ^ c=hs.sum∧(hs'.map (Xg 32)).sum+1=(hs.map (Xg 32)).sum∧0 < m∧((tk=none∧m'=m∧lead'=lead∧ys'=ys++[c]∧ys.length+1 < fx.n)∨(tk=some lead'∧m'+1=m∧ys'=[]∧lead' < fx.n)):=by
 obtain⟨A,S1,S2,m0,g1,g2⟩:=Pl.step ok eh hc;have yl:=Pl.yl;by_cases cl:ys.length+1 < fx.n
 ·obtain⟨e1,e2,e3⟩:=N.go cl
  rw[N.hand,e1,e2];exact⟨m,g1 cl,S1,S2,m0,.inl ⟨e3,rfl,rfl,rfl,cl⟩⟩
 ·have cl2:ys.length+1=fx.n:=by omega
  obtain⟨e1,e2,i,_,e3⟩:=N.full cl2;have ll:lead' < fx.n:=by rw[e3];exact B8 ok _ _
  rw[N.hand,e1];exact⟨m - 1,g2 cl2 lead' ll,S1,S2,m0,.inr ⟨e2,by omega,rfl,ll⟩⟩
theorem Zgf(Pl:Plc fx hs lead ys m)(eh:hs[(lead+ys.length) % fx.n]? = some h)(hc:h.testBit c=true):(ys++[c]).Nodup:=by
 refine List.nodup_append.mpr ⟨Pl.nd,List.nodup_cons.mpr ⟨Uh,List.nodup_nil⟩,fun y hy z hz=>?_⟩;rw[Jb.mp hz];intro e;subst e;have:=Pl.apart (Zl eh) hy;rw[hc] at this;cases this
theorem Nxt.uniq(Pl:Plc fx hs lead ys m)(eh:hs[(lead+ys.length) % fx.n]? = some h)(hc:h.testBit c=true)(N:Nxt fx t hs lead ys h c hs' lead' ys' tk){hs2 ys2:List Nat}{lead2:Nat}{tk2:Option Nat}(M:Nxt fx t hs lead ys h c hs2 lead2 ys2 tk2) :
  hs'=hs2∧lead'=lead2∧ys'=ys2∧tk=tk2:=by
 have yl:=Pl.yl;refine⟨N.hand.trans M.hand.symm,?_⟩;by_cases cl:ys.length+1 < fx.n
 ·obtain⟨e1,e2,e3⟩:=N.go cl
  obtain⟨d1,d2,d3⟩:=M.go cl;exact⟨e1.trans d1.symm,e2.trans d2.symm,e3.trans d3.symm⟩
 ·have cl2:ys.length+1=fx.n:=by omega
  obtain⟨e1,e2,i,W,e3⟩:=N.full cl2;obtain⟨d1,d2,j,V,d3⟩:=M.full cl2;have ij:=Zf2 (Zgf Pl eh hc) W V;subst ij;have el:lead'=lead2:=e3.trans d3.symm;exact⟨el,e1.trans d1.symm,by rw[e2,d2,el]⟩
end
theorem nxE{T:St→Hp→Prop}{rt:VK}{bk ct:St→Hp→Prop}{σ:St}{H:Hp}(h:T σ H):(Ends.mk T rt bk ct).nx σ H:=h
theorem eq_int(a b:Int):decide (V.int a=V.int b)=decide (a=b):=decide_eq_decide.mpr ⟨fun h=>by injection h,fun h=>by rw[h]⟩
section
variable{P:Program}{w:World}{K:W.Frag}{mg:Str→Option Value}{base:Heap}{f g:Addr}{fd gd:FuncData}
theorem Bj{H:Hp}{p q:Addr}{xs:List V}{o:HO}(h:H p=some (.tup xs))(hq:H q=some o)(n:∀ ys,o ≠ .tup ys):p≠q:=fun z=>by
 rw[z,hq] at h;exact n _ (Z0 h)
end
end My
namespace L2
open PySem PySem.Spec PyProof.Rows
section
variable{κ:Type} [DecidableEq κ]
theorem RelO.isSome_eq{o:Option V}{u:Option Value}(r:RelO o u):o.isSome=u.isSome:=by
 cases o with
 | none=>cases u with
  | none=>rfl
  | some _=>exact(show False from r).elim
 | some _=>cases u with
  | none=>exact(show False from r).elim
  | some _=>rfl
theorem RelO.getD{o:Option V}{u:Option Value}{d:V}{d':Value}(r:RelO o u)(rd:RelV d d'):RelV (o.getD d) (u.getD d'):=by
 cases o with
 | none=>cases u with
  | none=>exact rd
  | some _=>exact(show False from r).elim
 | some _=>cases u with
  | none=>exact(show False from r).elim
  | some _=>exact r
end
theorem Zqz{P:Program}{w:World}{k:N3}{u:Value}(r:RelV (kV k) u):(Yo P w).is k u=true:=by
 cases k with
 | inl i=>obtain⟨t,e⟩:=(show ∃ t,u=Value.int i t from r);subst e;exact Xc P w i t
 | inr x=>obtain⟨t,e⟩:=(show ∃ t,u=Value.str x t from r);subst e;exact Sd P w x t
theorem M9{P:Program}{w:World}:∀{ks:List N3} {us:List Value},Vals (ks.map kV) us→ItemsAre (Yo P w) ks us
 | [],_,r=>by rw[List.map_nil] at r;cases r;exact .nil
 | k :: ks,_,r=>by
  rw[List.map_cons] at r;cases r with
  | cons h t=>exact .cons (Zqz h) (M9 t)
section
variable{P:Program}{w:World}{H:Hp}{h:Heap}{a:Addr}
theorem Zji{ks:List N3}(ok:HOk P w H h)(e:H a=some (.tup (ks.map kV))):(tupleKind (Yo P w)).is h ks a:=by
 obtain⟨_,its,r,o,h1,h2,n,h3⟩:=(show ObjOk P w H h a (.tup (ks.map kV)) from ok a _ e);exact⟨o,its.toArray,n,h1,h2,h3,by simpa using M9 r⟩
end
section
variable{X:Cx}{pins:List (Addr×Obj)}{σ:St}{H:Hp}{s:Shared}{a:Addr}{y v:V}{u r:Value}{o:Option V}{A:Around}{E:Value→Shared→Prop}
theorem Inv.big(I:Inv X pins σ H s):sysModules < s.heap.objs.size:=by
 have h:mainGlobals < s.heap.objs.size:=(I.mod.glob.keeps I.bk).lt;exact Nat.lt_trans (by decide) h
theorem An{h':Heap}{t':Nat}{ob:HO}(I:Inv X pins σ H s)(mu:Mut (H a))(hs:Heap.SameBut a s.heap h')(he:∃ q,h'.get? a=some q)(new:ObjOk X.prog X.w (upd H a ob) h' a ob) :
  Inv X pins σ (upd H a ob) { s with heap:=h',toks:=t' }:=
 I.write (x:=a) (e:=a) mu (.inl rfl) (fun b q hb z=>(hs.2 b hb).trans z) he new
end
section
variable{X:Cx}{pins:List (Addr×Obj)}{σ:St}{H:Hp}{s:Shared}{a:Addr}{kvs:List (N3×V)}{k:N3}{u:Value}{A:Around}{E:Value→Shared→Prop}
end
def Zq4(i:Expr):Prop:=∀ ov iv,subscripted i false ov iv=operate [ov,iv] (getItem ov iv)
theorem Zkl{prog:Program}{w:World}{A:Around}{E:Value→Shared→Prop}{s:Shared}{env:Env}{value slice:Expr}{pos:Pos}{T id:String}{Q:Value→Shared→Prop}
  (hl:typeLookup (.type T) "__getitem__" = pure (some (.builtin id))) (hs:Zq4 slice)
  (h:wpAny (model prog w) A (eval value env) (fun o s₁=>wpAny (model prog w) A (eval slice env) (fun i s₂=>s₂.TypeIs o T∧wpAny (model prog w) A (getItem o i) Q E s₂) E s₁) E s) :
  wpAny (model prog w) A (eval (.Subscript value slice pos) env) Q E s:=by
 refine Subscript_ (wpAny_mono h (fun o s₁ h₁=>wpAny_mono h₁ (fun i s₂ h₂=>?_) fun _ _ x=>x) fun _ _ x=>x);obtain⟨hT,h₂⟩:=h₂;unfold subscriptTail;refine Zb ?_;rw[getitemInPython_of_ne hT.not_modules];refine Zb (wpAny_specialOf hT hl ?_);have fin:wpAny (model prog w) A (subscripted slice false o i) (fun r s₃=>wpAny (model prog w) A (letTemporaryGo value o r >>= fun _=>pure r) Q E s₃) E s₂:=by
  rw[hs o i];exact wpAny_operating (wpAny_mono h₂ (fun r s₃ h₃=>Zb (wpAny_letTemporaryGo (Ze h₃))) fun _ _ x=>x)
 first
  | exact Ze (Zb fin)
  | exact Zb (Ze (Zb fin))
  | exact Zb fin
section
variable{X:Cx}{o i e value:Expr}{pos pos' tpos:Pos}{td ty tv:TE}
end
section
variable{X:Cx}{pos:Pos}
end
structure M2(X:Cx)(o:Expr)(m:Str)(apos:Pos)(e f:Expr)(cpos:Pos):Prop where
 base:attributeBase o m X.env (eval o X.env)=eval o X.env
 few:((backTo cpos (starEach [e,f] X.env)).all (fun x=>!x.1) && (backToKw cpos (keywordEach [] X.env)).all (fun x=>x.1.isSome)
  && decide (([e,f]:List Expr).length+([]:List Keyword).length+(if([]:List Keyword).isEmpty then 0 else 1) < 30))=true
 line:(apos.endLine == cpos.line)=true
 trees:backTo cpos (starEach [e,f] X.env)=[(false,eval e X.env),(false,eval f X.env)]
section
variable{X:Cx}{pins:List (Addr×Obj)}{σ:St}{H:Hp}{s:Shared}{a:Addr}{y d:V}{u r:Value}{o:Option V}{A:Around}{E:Value→Shared→Prop}
end
section
variable{X:Cx}{o e f:Expr}{apos cpos:Pos}{td ty tx:TE}
end
section
variable{X:Cx}{pins:List (Addr×Obj)}{σ:St}{H:Hp}{s:Shared}{a:Addr}{kvs:List (N3×V)}{A:Around}{E:Value→Shared→Prop}
end
section
variable{X:Cx}{pins:List (Addr×Obj)}{σ:St}{H:Hp}{s:Shared}{a:Addr}{y:V}{u:Value}{A:Around}{E:Value→Shared→Prop}
end
theorem Zh7{X:Cx}:Ng X (compareOp .IsNot) (fun x y H Q=>∃ a b,x = .bl a∧y = .bl b∧Q (.bl (!(a == b))) H):=by
 intro pins s σ H x y v u Q I rx ry h;obtain⟨a,b,rfl,rfl,q⟩:=h;cases rx;cases ry;have e:(compareOp .IsNot (.bool a) (.bool b):Sem Value)=pure (.bool (!(a == b))):=by cases a<;>cases b<;>rfl
 rw[e];exact Ze ⟨.bl _,H,I,rfl,q⟩
section
variable{prog:Program}{w:World}{A:Around}{R:Result→Shared→Prop}{I:Addr}{fp wr:List Addr}{n:Nat}{P:Nat→Value→Prop}{St:Nat→Heap→Prop}
end
def Zb3(vs:List V):List Int:=vs.map fun v=>match v with | .int i=>i | _=>0
theorem Rq(ns:List Int):Zb3 (ns.map V.int)=ns:=by
 unfold Zb3;rw[Z7];have:((fun v:V=>match v with | .int i=>i | _=>0) ∘ V.int)=id:=by funext c;rfl
 rw[this,List.map_id]
theorem De:∀(ns ms:List Int),Vr (ns.map V.int) (ms.map V.int)=decide (ns=ms)
 | [],[]=>rfl
 | [],_ :: _=>rfl
 | _ :: _,[]=>rfl
 | n :: ns,m :: ms=>by
  show(Rh (V.int n) (V.int m) && Vr (ns.map V.int) (ms.map V.int))=_;rw[De ns ms];have:Rh (V.int n) (V.int m)=(n == m):=rfl;rw[this];by_cases e1:n=m<;>by_cases e2:ns=ms<;>simp [e1,e2]
theorem Bg(ns:List Int):(ns.map V.int).all U9=true:=by
 rw[List.all_map];exact J9.mpr fun _ _=>rfl
section
variable{X:Cx}{pins:List (Addr×Obj)}{σ:St}{H:Hp}{s:Shared}
theorem Df(I:Inv X pins σ H s){A:Around}{p q:Addr}{ns ms:List Int}(hp:H p=some (.tup (ns.map V.int)))(hq:H q=some (.tup (ms.map V.int)))(hu:A.units < cLine):SeqAt.EqAt A s (.ref p) (.ref q) (decide (ns=ms)):=by
 by_cases e:p=q
 ·subst e
  rw[hp] at hq;have:ns=ms:=by
   have z:ns.map V.int=ms.map V.int:=by
    have:=Z0 hq;injection this
   have:=congrArg Zb3 z;rw[Rq,Rq] at this;exact this
  rw[Zd this];exact SeqAt.EqAt.same _
 ·obtain⟨its,r1,p1,_⟩:=I.tuple (SqT.of hp)
  obtain⟨its2,r2,p2,_⟩:=I.tuple (SqT.of hq);have z:=SeqAt.RcAt.tuples (A:=A) (s:=s) (e:=fun j=>Rh ((ns.map V.int).getD j .non) ((ms.map V.int).getD j .non)) p1 p2 hu (fun j h1 h2=>Ri (Xu r1 (Bg ns) h1).1 (Xu r2 (Bg ms) h2).1 (Xu r1 (Bg ns) h1).2 (Xu r2 (Bg ms) h2).2);have y:=Vq (ns.map V.int) (ms.map V.int);rw[r1.length,r2.length] at y;rw[Zw,Zw,y,De] at z;exact SeqAt.EqAt.of_refs e z
end
def Zrs(scope sc:Scope):Scope:=
 { scope with names:=scope.names.map fun(n,k)=>if(k == .free && sc.kind == .function && sc.names.lookup n == some .cell) then(n,.cell) else(n,k) }
theorem Zhq{X:Cx}{tg:Expr}(K:W.Frag)(hK:X.K=K){l:Expr}{tl:TE}(hl:PE X l tl):PI X tg l (Zm1 K tl):=by
 subst hK;exact Y6 hl
theorem Zoe{X:Cx}{d:Nat}(hd:d≤60)(hu:X.A.units+64 < cLine):Ng X (compareOp .NotEq) (fun x y H Q=>∃ a b,x = .ref a∧y = .ref b∧DeepEq X.K H d x y∧Q (.bl false) H):=by
 intro pins s σ H x y v u Q I rx ry h;obtain⟨a,b,rfl,rfl,h,q⟩:=h;cases rx;cases ry;cases h with
 | flat f=>cases f
 | @tup d _ _ xs ys hp hq hl hi=>
  obtain⟨its,r1,p1,_⟩:=I.tuple hp;obtain⟨its2,r2,p2,_⟩:=I.tuple hq;have l1:=r1.length;have l2:=r2.length;refine SeqAt.RcNeAt.tuples (e:=fun _=>true) p1 p2 (by omega) (fun j h1 h2=>DeepEq.at I (hi j (Uu r1 h1).2) (A:=X.A.in1) (Uu r1 h1).1 (Uu r2 h2).1 (by show X.A.units+1+d < cLine;omega)) _ _ _ _ ⟨.bl _,H,I,rfl,?_⟩;have ez:((List.range (min its.toArray.size its2.toArray.size)).all (fun _=>true) && its.toArray.size == its2.toArray.size)=true:=by
   rw[Zd0,Bool.true_and];simp [← l1,← l2,hl]
  rw[ez];exact q
 | @lst d _ _ xs ys hp hq hl hi=>
  obtain⟨its,r1,p1,_⟩:=I.list hp;obtain⟨its2,r2,p2,_⟩:=I.list hq;have l1:=r1.length;have l2:=r2.length;refine SeqAt.RcNeAt.lists (e:=fun _=>true) p1.isList p2.isList (by simp [← l1,← l2,hl]) (by omega) (fun j h1 h2=>DeepEq.at I (hi j (Uu r1 h1).2) (A:=X.A.in1) (Uu r1 h1).1 (Uu r2 h2).1 (by show X.A.units+1+d < cLine;omega)) _ _ _ _ ⟨.bl _,H,I,rfl,?_⟩;rw[Zd0];exact q
variable{X:Cx}
end L2
namespace L2
open PySem PySem.Spec PyProof.Rows
end L2
namespace HT
open PySem PySem.Spec PyProof.Rows
section
variable{prog:Program}{w:World}{A:Around}{E:Value→Shared→Prop}{s:Shared}
theorem getItem_tuple_all{t sl:Addr}{items:Array Value}{vl vu:Value}{lo hi:Option Int}{Q:Value→Shared→Prop}(ht:IsTup s.heap t items)(hs:s.heap.IsSliceOf sl vl vu .none)(pl:IsPart vl lo)(pu:IsPart vu hi)
  (hw:sIx items.size 0 lo=0∧sIx items.size items.size hi=items.size) (h:Q (.ref t) s):wpAny (model prog w) A (getItem (.ref t) (.ref sl)) Q E s:=by
 obtain⟨os,hos,hcs,hds⟩:=id hs;have hTs:s.TypeIs (.ref sl) "slice":=⟨os,hos,hcs⟩;unfold getItem
 try with_reducible refine wpAny_holding ?_
 first | refine Zb (Ze ?_) | skip
 refine Zb (wpAny_sequenceKey ht.typeIs (by decide) ?_);refine Zb (wpAny_callSpecial?_slot (name:=Str.ofString "__getitem__") ht.typeIs PyProof.Rows.slot_tuple_getitem
  (wpAny_call_entry PyProof.Rows.slot_tuple_getitem ht.typeIs entry_tuple_getitem ?_ (args_tuple_getitem _ _)))
 show wpAny _ _ (Builtin.Tuple.tupleItemsOf (.ref t) >>= _) _ _ s;refine Zb (tupleItemsOf_ ht ?_);refine Zb (wpAny_typeOf hTs ?_);rw[Zu (by decide)];refine Zb (Eo hs pl pu ?_);have hyes:(((sIx items.size 0 lo:Nat):Int) == 0 && (1:Int) == 1 && (sIx items.size items.size hi - sIx items.size 0 lo) == items.size)=true:=by
  rw[hw.1,hw.2,Nat.sub_zero];simp
 show wpAny _ _ (if(((sIx items.size 0 lo:Nat):Int) == 0 && (1:Int) == 1 && (sIx items.size items.size hi - sIx items.size 0 lo) == items.size)=true then _ else _) _ _ s;rw[Zu hyes];refine Zb (m:=Builtin.Tuple.tupleIsExact _) ?_;unfold Builtin.Tuple.tupleIsExact;refine Zb (wpAny_typeOf ht.typeIs (Ze ?_));rw[Zu (by decide)];refine Zb (wpAny_rule ?_);exact Ze ⟨_,rfl,Ze h⟩
end
end HT
namespace L2
open PySem PySem.Spec PyProof.Rows
section
variable{X:Cx}
theorem Zfw(hc:X.calm=true):X3 X (.builtin "min") (fun xs H Q=>∃(a:Addr) (ns:List Int),xs=[.ref a]∧SqL X.K H a (ns.map V.int)∧0 < ns.length∧∀ M,M∈ns→(∀ k∈ns,M≤k)→Q (.int M) H):=by
 intro pins s σ H xs us Q I r h;obtain⟨a,ns,rfl,hS,hn,q⟩:=h;obtain⟨u,rfl,ru⟩:=Qt r;cases ru;obtain⟨its,vi,pl,hz⟩:=I.list hS;have hi:=Qg vi;obtain⟨xs,hx⟩:=hi.allInts.items;have hl:s.heap.IsList a (intItems xs):=hx ▸ Qq pl;have hns:ns=xs.toList.map (·.1):=by
  rw[← nums_intItems,← hx];exact hi.numsOf.symm
 have hsz:0 < xs.size:=by
  rw[hns,Zj,Array.length_toList] at hn;exact hn
 refine min_intList (I.ok.hd hc) hl hsz fun v h' tk hv hk=>?_;obtain⟨t,rfl⟩:=intItems_at hv;obtain⟨g1,g2⟩:=argBest_lt (numAt xs) (xs.size - 1);refine⟨.int _,H,I.kept hk,⟨_,rfl⟩,q _ ?_ fun k hk'=>?_⟩
 ·rw[hns,numAt_eq]
  exact getD_mem (by rw[Zj,Array.length_toList];omega)
 ·rw[hns] at hk'
  obtain⟨j,hj,rfl⟩:=mem_getD hk';rw[Zj,Array.length_toList] at hj;rw[← numAt_eq];exact g2 j (by omega)
def Zrv:V→Option Int→Option Int→Hp→VK→Prop:=fun x lo hi H Q=>∃ a xs,x = .ref a∧H a=some (.tup xs)∧∀ p H',Same H H'→H' p=some (.tup (Ed xs lo hi))→Q (.ref p) H'
theorem Zct:SlR X Zrv:=by
 intro pins s σ H x v vl vu lo hi sl Q I rx hs pl pu h;obtain⟨a,xs,rfl,hx,q⟩:=h;by_cases hw:HT.sIx xs.length 0 lo=0∧HT.sIx xs.length xs.length hi=xs.length
 ·cases rx
  obtain⟨its,r,ht,hz⟩:=I.tuple (SqT.of hx);have hlen:its.toArray.size=xs.length:=by rw[Zw];exact r.length.symm
  refine⟨"tuple",_,PyProof.Rows.slot_tuple_getitem.lookup,ht.typeIs,?_⟩;refine HT.getItem_tuple_all ht hs pl pu (by rw[hlen];exact hw) ⟨.ref a,H,I,rfl,q a H (Same.refl H) ?_⟩;have e:Ed xs lo hi=xs:=by
   unfold Ed;rw[hw.1,hw.2,List.drop_zero,Nat.sub_zero,List.take_length]
  rw[e];exact hx
 ·exact Znf pins s σ H _ v vl vu lo hi sl Q I rx hs pl pu ⟨a,xs,rfl,SqT.of hx,hw,fun p hp=>q p _ (Z5 hp _) Zo⟩
end
section
variable{prog:Program}{w:World}
abbrev Ug:=List N3×Int×List N3
def IsPlK(h:Heap)(k:Ug)(a:Addr):Prop:=∃ o n b c t,h.get? a=some o∧o.cls = .type "tuple"∧o.data = .seq #[.ref b,.int k.2.1 t,.ref c] n∧IsTupleKey (Yo prog w) h k.1 b∧IsTupleKey (Yo prog w) h k.2.2 c
variable{A:Around}{E:Value→Shared→Prop}{s:Shared}
def Ti(prog:Program)(w:World)(k:Ug):Int:=reduceHash (Builtin.Tuple.tupleHashOf [tupleKeyHash (Yo prog w) k.1,(Yo prog w).hash (.inl k.2.1),tupleKeyHash (Yo prog w) k.2.2])
theorem IsPlK.typeIs{k:Ug}{a:Addr}(x:IsPlK (prog:=prog) (w:=w) s.heap k a):s.TypeIs (.ref a) "tuple":=let ⟨o,_,_,_,_,ho,hc,_⟩:=x;⟨o,ho,hc⟩
theorem IsPlK.inj{h:Heap}{a:Addr}{x y:Ug}(hx:IsPlK (prog:=prog) (w:=w) h x a)(hy:IsPlK (prog:=prog) (w:=w) h y a):x=y:=by
 obtain⟨o,n,b,c,t,ho,_,hd,h1,h2⟩:=hx;obtain⟨o',n',b',c',t',ho',_,hd',h1',h2'⟩:=hy;obtain rfl:o=o':=Z0 (ho.symm.trans ho');rw[hd] at hd';obtain⟨x1,x2,x3⟩:=x;obtain⟨y1,y2,y3⟩:=y;simp only[Data.seq.injEq,Array.mk.injEq,List.cons.injEq,Value.ref.injEq,Value.int.injEq,and_true] at hd';obtain⟨⟨rfl,⟨e2,_⟩,rfl⟩,_⟩:=hd';simp only at e2 h1 h1' h2 h2';subst e2;rw[h1.inj h1',h2.inj h2']
theorem IsPlK.keeps{h h':Heap}{k:Ug}{a d:Addr}{o:Obj}{es ep}(x:IsPlK (prog:=prog) (w:=w) h k a)(ho:h.get? d=some o)(hd:o.data = .dict es ep)(hs:Heap.SameBut d h h'):IsPlK (prog:=prog) (w:=w) h' k a:=by
 obtain⟨o',n,b,c,t,ho',hc,hd',h1,h2⟩:=x;have hne:a≠d:=by
  rintro rfl;obtain rfl:o'=o:=Z0 (ho'.symm.trans ho);rw[hd] at hd';exact nomatch hd'
 exact⟨o',n,b,c,t,(hs.2 a hne).trans ho',hc,hd',h1.keeps ho hd hs,h2.keeps ho hd hs⟩
theorem Q5{k:Ug}{a:Addr}{Q:Int→Shared→Prop}(hu:A.units+8 < cLine)(hk:IsPlK (prog:=prog) (w:=w) s.heap k a)(h:Q (Ti prog w k) { s with toks:=s.toks+(k.1.length+1+1+(k.2.2.length+1)+1) }) :
  wpAny (model prog w) A (pyHash (.ref a)) Q E s:=by
 have hT:=hk.typeIs;obtain⟨o,n,b,c,t,ho,_,hd,h1,h2⟩:=hk;unfold pyHash
 first | unfold pyHashByItsType | skip
 first | refine Zb (wpAny_cRoomFor_or (.inr (by omega)) ?_) | skip
 refine Zb (wpAny_specialOf hT F.slot_tuple_hash.lookup ?_);show wpAny _ _ (if(some (Value.builtin "tuple.__hash__") == some Value.none)=true then _ else _) Q E s;rw[Zk (by rw[beq_builtin_none];exact Zr)];refine Zb (wpAny_specialOf hT F.slot_tuple_hash.lookup ?_);show wpAny _ _ (callSpecialIfBoundUnlessNone? (.ref a) "__hash__" _ >>= _) Q E s;refine Zb (wpAny_callSpecialIfBoundUnlessNone?_slot hT F.slot_tuple_hash (wpAny_call_entry F.slot_tuple_hash hT F.entry_tuple_hash ?_ (F.args_tuple_hash_1 _)));show wpAny _ _ (Builtin.Tuple.tupleItemsOf (.ref a) >>= _) _ _ s;refine Zb (wpAny_tupleItemsOf ho hd ?_);refine Zb ?_;rw[← Array.forIn_toList];simp only[List.forIn_cons,List.forIn_nil];have hu1:A.in1.units < cLine:=(show A.units+1 < cLine by omega);refine Zb (Zb (wpAny_pyHash_tuple hu1 h1 (Ze ?_)));refine Zb (Zb ((Yo prog w).pyHash (Xc prog w k.2.1 t) (Ze ?_)));refine Zb (Zb (wpAny_pyHash_tuple (s:={ s with toks:=_ }) hu1 h2 (Ze (Ze ?_))));show wpAny _ _ (retInt (Builtin.Tuple.tupleHashOf [tupleKeyHash (Yo prog w) k.1,(Yo prog w).hash (.inl k.2.1),tupleKeyHash (Yo prog w) k.2.2])) _ _ _;refine wpAny_ret_mkInt ?_;generalize ez:Builtin.Tuple.tupleHashOf [tupleKeyHash (Yo prog w) k.1,(Yo prog w).hash (.inl k.2.1),tupleKeyHash (Yo prog w) k.2.2]=z;have h':Q (reduceHash z) { s with toks:=s.toks+(k.1.length+1+1+(k.2.2.length+1)+1) }:=by rw[← ez];exact h
 show wpAny _ _ (if(decide (-(2:Int) ^ 63≤z) && decide (z < 2 ^ 63))=true then _ else _) Q E _;unfold reduceHash at h';by_cases hr:(decide (-(2:Int) ^ 63≤z) && decide (z < 2 ^ 63))=true
 ·rw[Zu hr]
  rw[Zu hr] at h';exact Ze (by simpa [Nat.add_assoc] using h')
 ·rw[Zk hr]
  rw[Zk hr] at h';exact Zb (wpAny_rule (Ze (by simpa [Nat.add_assoc] using h')))
theorem Mi{x y:Ug}{a b:Addr}{P:PySem.Fin→Shared→Prop}(hu:A.units+8 < cLine)(hx:IsPlK (prog:=prog) (w:=w) s.heap x a)(hy:IsPlK (prog:=prog) (w:=w) s.heap y b)(h:P (.done (.ret (.bool (decide (x=y))))) s) :
  wpAny (model prog w) A (Builtin.«tuple.__eq__» ⟨[.ref a,.ref b],[]⟩) P E s:=by
 have hTb:=hy.typeIs;obtain⟨oa,na,a1,a2,ta,hoa,_,hda,hx1,hx2⟩:=hx;obtain⟨ob,nb,b1,b2,tb,hob,_,hdb,hy1,hy2⟩:=hy;obtain⟨x1,x2,x3⟩:=x;obtain⟨y1,y2,y3⟩:=y;simp only at hda hdb hx1 hx2 hy1 hy2;show wpAny _ _ (isInstance (.ref b) (.type "tuple") >>= _) _ _ s;refine Zb (wpAny_isInstance hTb isSubtype_tuple_tuple ?_);simp only[Bool.not_true,Bool.false_eq_true,if_false];refine Zb (wpAny_tupleItemsOf hoa hda ?_);refine Zb (wpAny_tupleItemsOf hob hdb ?_);refine Zb ?_;simp only[List.zip_cons_cons,List.zip_nil_left,List.forIn_cons,List.forIn_nil];have no:¬ (x1,x2,x3)=(y1,y2,y3)→P (.done (.ret (.bool false))) s:=fun n=>by
  rw[Zc n] at h;exact h
 refine Zb (Zb (wpAny_eqBool_tuple (by omega) hx1 hy1 ?_));by_cases e1:x1=y1
 case neg=>
  rw[Zc e1];exact Zb (Ze (Ze (Ze (Ze (no fun z=>e1 (by injection z))))))
 rw[Zd e1];refine Ze (Zb (Zb ((Yo prog w).eqBool (a:=.inl x2) (b:=.inl y2) (Xc prog w x2 ta) (Xc prog w y2 tb) ?_)));by_cases e2:(Sum.inl x2:N3) = .inl y2
 case neg=>
  rw[Zc e2];exact Zb (Ze (Ze (Ze (Ze (no fun z=>e2 (by injection z with z1 z2;injection z2 with z2 z3;rw[z2]))))))
 rw[Zd e2];refine Ze (Zb (Zb (wpAny_eqBool_tuple (by omega) hx2 hy2 ?_)));by_cases e3:x3=y3
 case neg=>
  rw[Zc e3];exact Zb (Ze (Ze (Ze (Ze (no fun z=>e3 (by injection z with z1 z2;injection z2 with z2 z3))))))
 rw[Zd e3];have e2':x2=y2:=by injection e2
 subst e1 e2' e3;rw[Zd rfl] at h;exact Ze (Ze (Ze h))
theorem Q6{x y:Ug}{a b:Addr}{Q:Bool→Shared→Prop}(hu:A.units+9 < cLine)(hx:IsPlK (prog:=prog) (w:=w) s.heap x a)(hy:IsPlK (prog:=prog) (w:=w) s.heap y b)(h:Q (decide (x=y)) s) :
  wpAny (model prog w) A (eqBool (.ref a) (.ref b)) Q E s:=by
 unfold eqBool
 try with_reducible refine wpAny_holding ?_
 show wpAny _ _ (if(Value.ref a == Value.ref b)=true then _ else _) Q E s;by_cases hab:(Value.ref a == Value.ref b)=true
 ·rw[Zu hab]
  have e:a=b:=by have:=eq_of_beq hab;injection this
  subst e;obtain rfl:=hx.inj hy;exact Zb (wpAny_rule (Ze (by simpa using h)))
 ·rw[Zk hab]
  exact Zb (wpAny_richCompare_same_room (op:=.Eq) hx.typeIs hy.typeIs F.slot_tuple_eq
   (wpAny_call_entry F.slot_tuple_eq hx.typeIs F.entry_tuple_eq (Mi (show A.units+1+8 < cLine by omega) hx hy ⟨_,rfl,(fun e=>nomatch e),wpAny_truthy_bool h⟩) (F.args_tuple_eq_2 _ _)) (by omega))
theorem Eh(n:Nat){ks:List N3}{a:Addr}{Q:Bool→Shared→Prop}(hk:IsTupleKey (Yo prog w) s.heap ks a)(h:Q true s):wpAny (model prog w) A (eqIsQuiet (n+1) (.ref a)) Q E s:=by
 have hT:=hk.typeIs;obtain⟨o,items,m,ho,_,hd,hi⟩:=hk;unfold eqIsQuiet;refine Zb (wpAny_specialOf hT F.slot_tuple_eq.lookup ?_);show wpAny _ _ (isInstance (.ref a) (.type "tuple") >>= _) _ _ s;refine Zb (wpAny_isInstance hT isSubtype_tuple_tuple ?_);simp only[Bool.not_true,Bool.false_eq_true,if_false];refine Zb (wpAny_seqItems ho hd ?_);refine Zb ?_;show wpAny _ _ (forIn items _ _) _ _ s;rw[← Array.forIn_toList];refine wpAny_forIn_list _ (fun Nm r s'=>r.1=none∧s'=s∧∀ v∈Nm,carriedByValue v=true) _ ?_ ?_ _ _ ⟨rfl,rfl,hi.byValue⟩
 ·rintro v Nm r s' ⟨hr,rfl,hall⟩
  rw[eqIsQuiet_byValue _ (hall v Zy)];refine Zb (Ze ?_);simp only[Bool.not_true,Bool.false_eq_true,if_false];exact Ze ⟨rfl,rfl,fun u hu'=>hall u (Zz _ hu')⟩
 ·rintro⟨r1,r2⟩ s' ⟨hr,rfl,_⟩
  simp only at hr;subst hr;exact Ze h
theorem Kj{k:Ug}{a:Addr}{Q:Bool→Shared→Prop}(hk:IsPlK (prog:=prog) (w:=w) s.heap k a)(h:Q true s):wpAny (model prog w) A (eqIsQuiet 8 (.ref a)) Q E s:=by
 have hT:=hk.typeIs;obtain⟨o,n,b,c,t,ho,_,hd,h1,h2⟩:=hk;unfold eqIsQuiet;refine Zb (wpAny_specialOf hT F.slot_tuple_eq.lookup ?_);show wpAny _ _ (isInstance (.ref a) (.type "tuple") >>= _) _ _ s;refine Zb (wpAny_isInstance hT isSubtype_tuple_tuple ?_);simp only[Bool.not_true,Bool.false_eq_true,if_false];refine Zb (wpAny_seqItems ho hd ?_);refine Zb ?_;show wpAny _ _ (forIn #[Value.ref b,Value.int k.2.1 t,Value.ref c] _ _) _ _ s;rw[← Array.forIn_toList];simp only[List.forIn_cons,List.forIn_nil];refine Zb (Zb (Eh 6 h1 (Ze ?_)));refine Zb ?_;rw[eqIsQuiet_byValue _ (rfl:carriedByValue (.int k.2.1 t)=true)];refine Zb (Ze (Ze ?_));refine Zb (Zb (Eh 6 h2 (Ze ?_)));exact Ze (Ze h)
end
def X1(prog:Program)(w:World):HeapKind prog w Ug where
 is:=IsPlK (prog:=prog) (w:=w)
 hash:=Ti prog w
 draws:=fun k=>k.1.length+1+1+(k.2.2.length+1)+1
 room:=fun A=>A.units+9 < cLine
 inj:=fun hx hy=>hx.inj hy
 keeps:=fun x ho hd hs=>x.keeps ho hd hs
 pyHash:=fun hu hk h=>Q5 (by omega) hk h
 eqBool:=fun hu hx hy h=>Q6 hu hx hy h
 quiet:=fun hk h=>Kj hk h
def PlKey(H:Hp)(k:Ug)(p:Addr):Prop:=∃ hp tp,H p=some (.tup [.ref hp,.int k.2.1,.ref tp])∧H hp=some (.tup (k.1.map kV))∧H tp=some (.tup (k.2.2.map kV))
theorem PlKey.mono{H H':Hp}{k:Ug}{p:Addr}(h:PlKey H k p)(ht:∀ b ys,H b=some (.tup ys)→H' b=some (.tup ys)):PlKey H' k p:=by
 obtain⟨hp,tp,a,b,c⟩:=h;exact⟨hp,tp,ht _ _ a,ht _ _ b,ht _ _ c⟩
abbrev Xa:=Ug×Addr×Int
def Mg(H:Hp)(es:List Xa):Prop:=∀ e∈es,PlKey H e.1 e.2.1
abbrev PRel:List Xa→List (Ug×Addr×Value)→Prop:=Paired fun p q=>p.1=q.1∧p.2.1=q.2.1∧∃ t,q.2.2 = .int p.2.2 t
def E4(P:Program)(w:World)(a:Addr)(es:List Xa):HO:=HO.ext fun h=>(a == sysModules)=false∧es.length≤sizeLine∧∃ xs,PRel es xs∧∃ o el ep,h.get? a=some o∧o.ExactDict∧o.data = .dict el ep∧el.toList=xs.map (entryOfKey (X1 P w))∧(xs.map (·.1)).Nodup
def Aw(es:List Xa)(k:Ug):Option Int:=(es.find? fun e=>decide (e.1=k)).map (·.2.2)
theorem PRel.at{k:Ug}:∀{es:List Xa} {xs:List (Ug×Addr×Value)},PRel es xs→RelO ((Aw es k).map V.int) ((atKey xs k).map (·.2))
 | _,_,.nil=>True.intro
 | e :: es,x :: xs,.cons ⟨h1,h2,t,h3⟩ r=>by
  have ih:=PRel.at (k:=k) r;unfold Aw atKey at *;rw[List.find?_cons,List.find?_cons,← h1];by_cases c:e.1=k
  ·rw[Zd c]
   show RelO (some (V.int e.2.2)) (some x.2.2);exact⟨t,h3⟩
  ·rw[Zc c]
   exact ih
section
variable{P:Program}{w:World}{H:Hp}{h:Heap}{a:Addr}
theorem Ep{k:Ug}{p:Addr}(ok:HOk P w H h)(e:PlKey H k p):IsPlK (prog:=P) (w:=w) h k p:=by
 obtain⟨hp,tp,e1,e2,e3⟩:=e;obtain⟨_,its,r,o,h1,h2,n,h3⟩:=(show ObjOk P w H h p (.tup [.ref hp,.int k.2.1,.ref tp]) from ok p _ e1)
 match its,r with
 | [u1,u2,u3],.cons r1 (.cons ⟨t,r2⟩ (.cons r3 .nil))=>
  cases (show u1=Value.ref hp from r1);cases (show u3=Value.ref tp from r3);subst r2;exact⟨o,n,hp,tp,t,h1,h2,h3,Zji ok e2,Zji ok e3⟩
theorem Zhx{es:List Xa}(ok:HOk P w H h)(e:H a=some (E4 P w a es))(ks:Mg H es):(a == sysModules)=false∧es.length≤sizeLine∧∃ xs,PRel es xs∧h.DictOfH (X1 P w) a xs:=by
 obtain⟨⟨hd,hz,xs,r,o,el,ep,h1,h2,h3,h4,h5⟩,_⟩:=(show ObjOk P w H h a (E4 P w a es) from ok a _ e);refine⟨hd,hz,xs,r,o,el,ep,h1,h2,h3,h4,fun x hx=>?_,h5⟩;have all:∀{l:List Xa} {m:List (Ug×Addr×Value)},PRel l m→(∀ e∈l,PlKey H e.1 e.2.1)→∀ x∈m,(X1 P w).is h x.1 x.2.1:=by
  intro l m q
  induction q with
  | nil=>intro _ x hx;exact nomatch hx
  | @cons p q ps qs hq t ih=>
   intro hk x hx;rcases Je.mp hx with e | hx
   ·subst e
    have:=Ep ok (hk p Zy);rw[hq.1,hq.2.1] at this;exact this
   ·exact ih (fun e he=>hk e (Zz _ he)) x hx
 exact all r ks x hx
theorem Zhy{H':Hp}{h':Heap}{es:List Xa}{xs:List (Ug×Addr×Value)}(hd:(a == sysModules)=false)(hz:es.length≤sizeLine)(r:PRel es xs)(dd:h'.DictOfH (X1 P w) a xs):ObjOk P w H' h' a (E4 P w a es):=by
 obtain⟨o,el,ep,h1,h2,h3,h4,_,h5⟩:=dd;refine⟨⟨hd,hz,xs,r,o,el,ep,h1,h2,h3,h4,h5⟩,⟨o,h1⟩,fun h1 h2 z k=>?_⟩;obtain⟨hd,hz,xs,r,o,el,ep,h1,h2,h3,h4,h5⟩:=z;exact⟨hd,hz,xs,r,o,el,ep,k _ h1,h2,h3,h4,h5⟩
end
theorem PRel.snoc{es:List Xa}{xs:List (Ug×Addr×Value)}(r:PRel es xs){e:Xa}{x:Ug×Addr×Value}(h:e.1=x.1∧e.2.1=x.2.1∧∃ t,x.2.2 = .int e.2.2 t):PRel (es++[e]) (xs++[x]):=by
 induction r with
 | nil=>exact .cons h .nil
 | cons a _ ih=>exact .cons a ih
section
variable{X:Cx}{o i value:Expr}{td ty tv:TE}{pos pos':Pos}
theorem Zhw:PE X (.Dict [] [] pos) (fun _ H Q=>∀ p,H p=none→Q (.ref p) (upd H p (E4 X.prog X.w p []))):=fun pins s σ H Q I h=>
 wpAny_Dict_empty ⟨.ref s.heap.objs.size,_,I.laid (a:=s.heap.objs.size) (o:=E4 X.prog X.w s.heap.objs.size []) (t':=s.toks) (fun _ _ q=>Zi _ q) (Zs _)
  (Zhy (xs:=[]) (beq_eq_false_iff_ne.mpr (Ne.symm (Jn I.big))) (Nat.zero_le _) .nil ⟨_,#[],0,Z6 _ rfl,⟨rfl,rfl,rfl⟩,rfl,rfl,(fun x hx=>nomatch hx),List.nodup_nil⟩),rfl,h _ (I.hok.fresh (Zs _))⟩
theorem Zk1(hu:X.A.units+10 < cLine)(ho:PE X o td)(hi:PE X i ty)(hs:Zq4 i):PE X (.Subscript o i pos) (fun σ H Q=>td σ H fun x H1=>ty σ H1 fun y H2=>∃ a es k b v,x = .ref a∧H2 a=some (E4 X.prog X.w a es)∧Mg H2 es∧y = .ref b∧PlKey H2 k b∧Aw es k=some v∧Q (.int v) H2):=by
 intro pins s σ H Q I h;refine Zkl PySem.F.slot_dict_getitem.lookup hs (Uc (ho pins s σ H _ I h) fun u s1 ⟨x,H1,I1,rx,q1⟩=>Uc (hi pins s1 σ H1 _ I1 q1) fun iv s2 ⟨y,H2,I2,ry,a,es,k,b,v,ex,e,ks,ey,eb,ev,q2⟩=>?_);subst ex ey;obtain rfl:u=Value.ref a:=rx;obtain rfl:iv=Value.ref b:=ry;obtain⟨hd,hz,xs,r,dd⟩:=Zhx I2.hok e ks;refine⟨dd.typeIs,?_⟩;have rl:=r.at (k:=k);rw[ev] at rl;obtain⟨w',hw,rw'⟩:=RelO.some_of (v:=V.int v) (o:=(atKey xs k).map (fun x:Addr×Value=>x.2)) rl;obtain⟨p,hp,hp2⟩:=Js.mp hw;refine wpAny_getItem_heap (knd:=X1 X.prog X.w) (show X.A.units+1+9 < cLine by omega) (Ep I2.hok eb) dd hp ?_;rw[hp2];exact⟨.int v,H2,I2.tok _,rw',q2⟩
theorem Zeo(hu:X.A.units+10 < cLine)(hi:PE X i ty)(ho:PE X o td):PC X .NotIn i o (fun σ H Q=>ty σ H fun y H1=>td σ H1 fun x H2=>∃ a es k b,x = .ref a∧H2 a=some (E4 X.prog X.w a es)∧Mg H2 es∧y = .ref b∧PlKey H2 k b∧Q (.bl (!(Aw es k).isSome)) H2):=by
 intro pins s σ H Q I h;refine Uc (hi pins s σ H _ I h) fun iv s1 ⟨y,H1,I1,ry,q1⟩=>Uc (ho pins s1 σ H1 _ I1 q1) fun u s2 ⟨x,H2,I2,rx,a,es,k,b,ex,e,ks,ey,eb,q2⟩=>?_;subst ex ey;obtain rfl:u=Value.ref a:=rx;obtain rfl:iv=Value.ref b:=ry;obtain⟨hd,hz,xs,r,dd⟩:=Zhx I2.hok e ks;refine wpAny_notIn_heap (knd:=X1 X.prog X.w) (show X.A.units+1+9 < cLine by omega) (Ep I2.hok eb) hd dd ?_;have z:=(r.at (k:=k)).isSome_eq;rw[Option.isSome_map,Option.isSome_map] at z;rw[← z];exact⟨.bl (!(Aw es k).isSome),H2,I2.tok _,rfl,q2⟩
theorem Zky(hu:X.A.units+10 < cLine)(ho:PE X o td)(hi:PE X i ty)(hv:PE X value tv)(hs:swapsWith value (some (.Subscript o i pos')) pos.line X.env=pure false) :
  PS X (.Assign [.Subscript o i pos'] value pos) (fun D σ H=>tv σ H fun v H1=>td σ H1 fun x H2=>ty σ H2 fun y H3=>∃ a es k b n,v = .int n∧x = .ref a∧H3 a=some (E4 X.prog X.w a es)∧Mg H3 es∧y = .ref b∧PlKey H3 k b∧Aw es k=none∧es.length < sizeLine∧D.nx σ (upd H3 a (E4 X.prog X.w a (es++[(k,b,n)])))):=by
 intro pins s σ H D I h;refine wpAny_Assign_Subscript (Uc (hv pins s σ H _ I h) fun r s1 ⟨v,H1,I1,rv,q1⟩=>Uc (ho pins s1 σ H1 _ I1 q1) fun u s2 ⟨x,H2,I2,rx,q2⟩=>Uc (hi pins s2 σ H2 _ I2 q2) fun iv s3 ⟨y,H3,I3,ry,a,es,k,b,n,en,ex,e,ks,ey,eb,ev,hl,q3⟩=>?_) hs;subst ex ey en;obtain rfl:u=Value.ref a:=rx;obtain rfl:iv=Value.ref b:=ry;obtain⟨t,rfl⟩:=rv;obtain⟨hd,hz,xs,rl,dd⟩:=Zhx I3.hok e ks;have hz2:xs.length≤sizeLine:=by rw[← Paired.length rl];exact hz
 have none_:atKey xs k=none:=by
  have z:=(rl.at (k:=k)).isSome_eq;rw[ev] at z;cases c:atKey xs k with
  | none=>rfl
  | some p=>rw[c] at z;cases z
 refine wpAny_setItem_heap (knd:=X1 X.prog X.w) (hsz:=hz2) (show X.A.units+1+9 < cLine by omega) (Ep I3.hok eb) dd fun h' dd' hs=>⟨σ,_,?_,q3⟩;rw[storedH_new none_] at dd';obtain⟨q,el,ep,hq,_⟩:=id dd';exact An I3 (by rw[e];exact True.intro) hs ⟨q,hq⟩ (Zhy hd (by rw[Z3];exact hl) (rl.snoc ⟨rfl,rfl,t,rfl⟩) dd')
end
def KpD(d:Addr)(H H':Hp):Prop:=∀ b o,b≠d→H b=some o→H' b=some o
theorem KpD.refl(d:Addr)(H:Hp):KpD d H H:=fun _ _ _ h=>h
theorem KpD.trans{d:Addr}{H H1 H2:Hp}(a:KpD d H H1)(b:KpD d H1 H2):KpD d H H2:=fun c o n h=>b c o n (a c o n h)
theorem Same.d{d:Addr}{H H1:Hp}(s:Same H H1):KpD d H H1:=fun b o _ h=>s b o h
theorem Zfq{K:W.Frag}{te:TE}{σ0:St}{H1:Hp}{Q:V→Hp→Prop}{a:Addr}{xs:List V}(d:Addr)(Pv:Addr→List V→Hp→Prop)(hd:∃ o,H1 d=some o)(hS:∀ H,KpD d H1 H→SqL K H a xs)(hn:xs.length≤sizeLine)(h0:∀ l,H1 l=none→Pv l [] (upd H1 l (.lst [])))
  (hE:∀ i x H l vs,xs[i]? = some x→vs.length=i→KpD d H1 H→H1 l=none→H l=some (.lst vs)→Pv l vs H→∀ R:V→Hp→Prop,(∀ v H',KpD d H H'→Pv l (vs++[v]) (upd H' l (.lst (vs++[v])))→R v H')→te (σ0.set 0 (some x)) H R)
  (hQ:∀ l H vs,KpD d H1 H→H1 l=none→H l=some (.lst vs)→vs.length=xs.length→Pv l vs H→Q (.ref l) H):E5 (Qy 0) Zgh te σ0 (Itl K a) H1 Q:=by
 intro l hl;have ld:l≠d:=fun z=>by
  obtain⟨o,e⟩:=hd;rw[← z,hl] at e;cases e
 refine⟨fun i m σ H=>m=xs.length - i∧i≤xs.length∧KpD d H1 H∧(∃ vs,H l=some (.lst vs)∧vs.length=i∧Pv l vs H)∧∀ o,σ.set 0 o=σ0.set 0 o,⟨xs.length,by simp,Nat.zero_le _,(Z5 hl _).d,⟨[],Zo,rfl,h0 l hl⟩,fun _=>rfl⟩,?_⟩;rintro i m σ H ⟨rfl,hi,sm,⟨vs,hL,hvl,hvs⟩,hσ⟩;by_cases lt:i < xs.length
 ·refine .inr ⟨⟨xs,_,hS H sm,Zf lt⟩,fun x H' y=>?_⟩
  obtain⟨rfl,y2⟩:=y;have hx:xs[i]? = some x:=y2 xs (hS _ sm);unfold Qy Zgh;dsimp only;rw[hσ,Zu rfl];refine hE i x H' l vs hx hvl sm hl hL hvs _ fun v H3 s3 hv=>⟨vs,s3 _ _ ld hL,by omega,xs.length - (i+1),by omega,rfl,lt,fun b o n h=>?_,⟨vs++[v],Zo,by rw[Z3,hvl];rfl,hv⟩,fun o=>List.set_set _⟩;rw[Jh (J4 h hl)];exact s3 b o n (sm b o n h)
 ·have e:i=xs.length:=by omega
  subst e;exact .inl ⟨⟨xs,hS H sm,Zs _⟩,hQ l H vs sm hl hL hvl hvs⟩
def Zd2(H:Hp)(a:Addr)(ps:List (Nat×Nat)):Prop:=∃ as:List Addr,H a=some (.lst (as.map V.ref))∧as.length=ps.length∧∀(j:Nat) (u:Addr) (p:Nat×Nat),as[j]? = some u→ps[j]? = some p→H u=some (.tup [.int (p.1:Nat),.int (p.2:Nat)])
theorem Zni(σ:St)(a b o o':Option V):(((σ.set 0 a).set 1 b).set 0 o).set 1 o'=(σ.set 0 o).set 1 o':=by
 match σ with
 | []=>rfl
 | [_]=>rfl
 | _ :: _ :: _=>rfl
theorem Bv{K:W.Frag}{tt:TT}{te:TE}{σ0:St}{H1:Hp}{Q:V→Hp→Prop}{a:Addr}{ps:List (Nat×Nat)}(hS:Zd2 H1 a ps)(p:Nat×Nat→Bool)(f:Nat×Nat→V)(hn:ps.length≤sizeLine)
  (hT:∀ x H,x∈ps→Same H1 H→∀ R:Bool→Hp→Prop,(∀ H',Same H H'→R (p x) H')→tt ((σ0.set 0 (some (.int (x.1:Nat)))).set 1 (some (.int (x.2:Nat)))) H R)
  (hE:∀ x H,x∈ps→p x=true→Same H1 H→∀ R:V→Hp→Prop,(∀ H',Same H H'→R (f x) H')→te ((σ0.set 0 (some (.int (x.1:Nat)))).set 1 (some (.int (x.2:Nat)))) H R)
  (hQ:∀ l H,Same H1 H→H1 l=none→H l=some (.lst ((ps.filter p).map f))→Q (.ref l) H):E5 (Zl8 K 2 (Sq (Qy 0) (Sq (Qy 1) Zpb))) tt te σ0 (Itl K a) H1 Q:=by
 intro l hl;obtain⟨as,hA,la,hP⟩:=hS;refine⟨fun i m σ H=>m=ps.length - i∧i≤ps.length∧Same H1 H∧H l=some (.lst (((ps.take i).filter p).map f))∧∀ o o',(σ.set 0 o).set 1 o'=(σ0.set 0 o).set 1 o',⟨ps.length,by simp,Nat.zero_le _,Z5 hl _,Zo,fun _ _=>rfl⟩,?_⟩;rintro i m σ H ⟨rfl,hi,sm,hL,hσ⟩;have hA':SqL K H a (as.map V.ref):=SqL.of (sm _ _ hA);by_cases lt:i < ps.length
 ·have la':i < as.length:=by omega
  have ea:as[i]? = some as[i]:=Zf la';have ep:ps[i]? = some ps[i]:=Zf lt;have ex:(as.map V.ref)[i]? = some (V.ref as[i]):=by rw[Z4,ea];rfl
  refine .inr ⟨⟨as.map V.ref,_,hA',ex⟩,fun x H' y=>?_⟩;obtain⟨rfl,y2⟩:=y;have hx:=y2 _ hA';rw[ex] at hx;cases hx;have hu:=sm _ _ (hP i _ _ ea ep);refine⟨as[i],_,rfl,SqT.of hu,rfl,_,_,rfl,_,_,rfl,rfl,?_⟩;show tt ((σ.set 0 (some (.int (ps[i].1:Nat)))).set 1 (some (.int (ps[i].2:Nat)))) H' _;rw[hσ];have er:(ps.take (i+1)).filter p=(ps.take i).filter p++(if p ps[i]=true then [ps[i]] else []):=by
   rw[U0,ep,List.filter_append];show _++List.filter p [ps[i]]=_;by_cases hp:p ps[i]=true
   ·rw[Zu hp,List.filter_cons_of_pos hp,List.filter_nil]
   ·rw[Zk hp,List.filter_cons_of_neg hp,List.filter_nil]
  have lf:(((ps.take i).filter p).map f).length < sizeLine:=by
   rw[Zj];have:=List.length_filter_le p (ps.take i);rw[J0] at this;omega
  refine hT ps[i] H' (Yl _) sm _ fun H2 s2=>?_;by_cases hp:p ps[i]=true
  ·rw[Zu hp]
   refine hE ps[i] H2 (Yl _) hp (sm.trans s2) _ fun H3 s3=>?_;refine⟨_,s3 _ _ (s2 _ _ hL),lf,ps.length - (i+1),by omega,rfl,lt,N8 hl (sm.trans (s2.trans s3)) _,?_,fun o o'=>Zni _ _ _ _ _⟩;rw[Zo,er,Zu hp,Jp];rfl
  ·rw[Zk hp]
   refine⟨ps.length - (i+1),by omega,rfl,lt,sm.trans s2,?_,fun o o'=>Zni _ _ _ _ _⟩;rw[er,Zk hp,J8];exact s2 _ _ hL
 ·have e:i=ps.length:=by omega
  subst e;rw[List.take_length] at hL;exact .inl ⟨⟨as.map V.ref,hA',by rw[Zj];omega⟩,hQ l H sm hl hL⟩
theorem Gh{X:Cx}{pos:Pos}(K:W.Frag)(hK:X.K=K){es:List Expr}{k:Nat}{t:TGs}{n:Nat}(hc:X.calm=true)(h:PGs X es t)
  (hn:(assignEach es X.env).length=n:=by rfl) (hst:(assignEach es X.env).findIdx? (·.1)=none:=by rfl):PG X (.Tuple es k pos) (Zl8 K n t):=by
 subst hK;exact No hc h hn hst
end L2
namespace My
open PySem L2
abbrev G9:Stmt:=top 28
abbrev Zg9:Stmt:=top 29
abbrev Oq:Stmt:=Yq (top 30) 0
abbrev Gc:Stmt:=Yq (top 30) 1
abbrev G6:Stmt:=Yq (top 30) 2
abbrev B9:Stmt:=Yq (top 30) 3
abbrev Gd:Stmt:=Yq (top 30) 4
abbrev Gb:Stmt:=top 31
abbrev Za9:Stmt:=top 32
theorem Zdy(g:Nat→Nat):∀ n,0 < n→∃ i,i < n∧∀ j,j < n→g j≤g i
 | 1,_=>⟨0,by omega,fun j hj=>by
  have:j=0:=by omega
  rw[this];exact Zs _⟩
 | n+2,_=>by
  obtain⟨i,hi,h⟩:=Zdy g (n+1) (by omega);by_cases c:g i≤g (n+1)
  ·refine⟨n+1,by omega,fun j hj=>?_⟩
   rcases Nat.lt_or_ge j (n+1) with z | z
   ·exact Jc (h j z) c
   ·have:j=n+1:=by omega
    rw[this];exact Zs _
  ·refine⟨i,by omega,fun j hj=>?_⟩
   rcases Nat.lt_or_ge j (n+1) with z | z
   ·exact h j z
   ·have:j=n+1:=by omega
    rw[this];omega
theorem Ad{fx:Fx}(ok:fx.Ok)(t:Option Nat){hs:List Nat}{lead:Nat}{ys:List Nat}{m h c:Nat}(Pl:Plc fx hs lead ys m)(eh:hs[(lead+ys.length) % fx.n]? = some h)(hb:h.testBit c=true):∃ hs' lead' ys' tk,Nxt fx t hs lead ys h c hs' lead' ys' tk:=by
 have yl:=Pl.yl;by_cases cl:ys.length+1 < fx.n
 ·exact⟨_,lead,ys++[c],none,rfl,fun _=>⟨rfl,rfl,rfl⟩,fun e=>absurd e (by omega)⟩
 ·have hm:h∈hs:=Zl eh
  have T:Trk fx (ys++[c]):=⟨Zgf Pl eh hb,fun y hy=>by
   rcases Jm.mp hy with z | z
   ·exact(Pl.pk y (Ny z)).2
   ·rw[Jb.mp z]
    exact(Pl.pk c (Qb hm hb)).2,by rw[Z3,List.length_singleton];omega⟩
  obtain⟨i,hi,hmax⟩:=Zdy (fun j=>rk fx t (Yg (ys++[c])) ((ys++[c]).getD j 0)) (ys++[c]).length T.ne;exact⟨_,(lead+i) % fx.n,[],some ((lead+i) % fx.n),rfl,fun e=>absurd e cl,fun _=>⟨rfl,rfl,i,Zf3 ok T hi hmax,rfl⟩⟩
def J3(hs:List Nat):Nat:=(hs.map (Xg 32)).sum
def Qp(side:Nat):Option Nat→Nat
 | none=>0
 | some s=>if side.testBit s=true then 1 else 0
open Classical in
noncomputable def nxF (fx:Fx) (t:Option Nat) (hs:List Nat) (lead:Nat) (ys:List Nat) (h c:Nat):List Nat×Nat×List Nat×Option Nat:=
 if e:∃ z:List Nat×Nat×List Nat×Option Nat,Nxt fx t hs lead ys h c z.1 z.2.1 z.2.2.1 z.2.2.2 then Classical.choose e else([],0,[],none)
theorem Tx{fx:Fx}{t:Option Nat}{hs:List Nat}{lead:Nat}{ys:List Nat}{h c m:Nat}{hs':List Nat}{lead':Nat}{ys':List Nat}{tk:Option Nat}(Pl:Plc fx hs lead ys m)(eh:hs[(lead+ys.length) % fx.n]? = some h)(hc:h.testBit c=true)(N:Nxt fx t hs lead ys h c hs' lead' ys' tk):nxF fx t hs lead ys h c=(hs',lead',ys',tk):=by
 have e:∃ z:List Nat×Nat×List Nat×Option Nat,Nxt fx t hs lead ys h c z.1 z.2.1 z.2.2.1 z.2.2.2:=⟨(hs',lead',ys',tk),N⟩;unfold nxF;rw[dif_pos e];obtain⟨a,b,c,d⟩:=(Classical.choose_spec e).uniq Pl eh hc N;exact Prod.ext a (Prod.ext b (Prod.ext c d))
def Qo(b:Bool)(ns:List Nat):Nat:=if ns=[] then 0 else if b=true then ns.foldl max 0 else(ns.drop 1).foldl min (ns.getD 0 0)
noncomputable def valF (fx:Fx) (t:Option Nat) (side:Nat):Nat→List Nat→Nat→List Nat→Nat
 | 0,_,_,_=>0
 | k+1,hs,lead,ys=>Qo (side.testBit ((lead+ys.length) % fx.n)) ((Ur fx t ys (hs.getD ((lead+ys.length) % fx.n) 0)).map fun c=>
   Qp side (nxF fx t hs lead ys (hs.getD ((lead+ys.length) % fx.n) 0) c).2.2.2+valF fx t side k (nxF fx t hs lead ys (hs.getD ((lead+ys.length) % fx.n) 0) c).1 (nxF fx t hs lead ys (hs.getD ((lead+ys.length) % fx.n) 0) c).2.1 (nxF fx t hs lead ys (hs.getD ((lead+ys.length) % fx.n) 0) c).2.2.1)
noncomputable def valP (fx:Fx) (t:Option Nat) (side:Nat) (hs:List Nat) (lead:Nat) (ys:List Nat):Nat:=valF fx t side (J3 hs) hs lead ys
noncomputable def numP (fx:Fx) (t:Option Nat) (side:Nat) (hs:List Nat) (lead:Nat) (ys:List Nat) (c:Nat):Nat:=
 Qp side (nxF fx t hs lead ys (hs.getD ((lead+ys.length) % fx.n) 0) c).2.2.2+valP fx t side (nxF fx t hs lead ys (hs.getD ((lead+ys.length) % fx.n) 0) c).1 (nxF fx t hs lead ys (hs.getD ((lead+ys.length) % fx.n) 0) c).2.1 (nxF fx t hs lead ys (hs.getD ((lead+ys.length) % fx.n) 0) c).2.2.1
theorem Rg:∀(l:List Nat) (a:Nat),(a≤l.foldl max a∧∀ x∈l,x≤l.foldl max a)∧(l.foldl max a=a∨l.foldl max a∈l)
 | [],a=>⟨⟨Zs _,fun x hx=>nomatch hx⟩,.inl rfl⟩
 | y :: l,a=>by
  obtain⟨⟨h1,h2⟩,h3⟩:=Rg l (max a y);show(a≤l.foldl max (max a y)∧∀ x∈y :: l,x≤l.foldl max (max a y))∧(l.foldl max (max a y)=a∨l.foldl max (max a y)∈y :: l);refine⟨⟨by omega,fun x hx=>?_⟩,?_⟩
  ·rcases Je.mp hx with e | e
   ·omega
   ·exact h2 x e
  ·rcases h3 with e | e
   ·rcases Nat.le_total a y with z | z
    ·right
     rw[e,Nat.max_eq_right z];exact Zy
    ·left
     rw[e,Nat.max_eq_left z]
   ·exact .inr (Zz _ e)
theorem Bf:∀(l:List Nat) (a:Nat),(l.foldl min a≤a∧∀ x∈l,l.foldl min a≤x)∧(l.foldl min a=a∨l.foldl min a∈l)
 | [],a=>⟨⟨Zs _,fun x hx=>nomatch hx⟩,.inl rfl⟩
 | y :: l,a=>by
  obtain⟨⟨h1,h2⟩,h3⟩:=Bf l (min a y);show(l.foldl min (min a y)≤a∧∀ x∈y :: l,l.foldl min (min a y)≤x)∧(l.foldl min (min a y)=a∨l.foldl min (min a y)∈y :: l);refine⟨⟨by omega,fun x hx=>?_⟩,?_⟩
  ·rcases Je.mp hx with e | e
   ·omega
   ·exact h2 x e
  ·rcases h3 with e | e
   ·rcases Nat.le_total a y with z | z
    ·left
     rw[e,Xw z]
    ·right
     rw[e,Nat.min_eq_right z];exact Zy
   ·exact .inr (Zz _ e)
theorem Kn{ns:List Nat}{M:Nat}(h:M∈ns)(g:∀ x∈ns,x≤M):Qo true ns=M:=by
 have n:ns≠[]:=fun z=>by rw[z] at h;cases h
 unfold Qo;rw[Zk n,Zu rfl];obtain⟨⟨a,b⟩,c⟩:=Rg ns 0;have h1:=b M h;rcases c with e | e
 ·omega
 ·have:=g _ e
  omega
theorem Zho{ns:List Nat}{M:Nat}(h:M∈ns)(g:∀ x∈ns,M≤x):Qo false ns=M:=by
 match ns,h,g with
 | y :: l,h,g=>
  unfold Qo;rw[Zk (fun z=>nomatch z),Zk Zr];show l.foldl min y=M;obtain⟨⟨a,b⟩,c⟩:=Bf l y;have h1:l.foldl min y≤M:=by
   rcases Je.mp h with e | e
   ·omega
   ·exact b M e
  rcases c with e | e
  ·have:=g y Zy
   omega
  ·have:=g _ (Zz _ e)
   omega
theorem Vy{fx:Fx}{t:Option Nat}{side:Nat}{hs:List Nat}{lead:Nat}{ys:List Nat}(h:J3 hs=0):valP fx t side hs lead ys=0:=by
 unfold valP;rw[h];rfl
theorem N4{fx:Fx}(ok:fx.Ok){t:Option Nat}{side:Nat}{hs:List Nat}{lead:Nat}{ys:List Nat}{m:Nat}(Pl:Plc fx hs lead ys m)(h0:J3 hs≠0) :
  valP fx t side hs lead ys=Qo (side.testBit ((lead+ys.length) % fx.n)) ((Ur fx t ys (hs.getD ((lead+ys.length) % fx.n) 0)).map (numP fx t side hs lead ys)):=by
 obtain⟨h,eh,_⟩:=Pl.turn ok;have eg:hs.getD ((lead+ys.length) % fx.n) 0=h:=by rw[Zp,eh];rfl
 obtain⟨k,ek⟩:∃ k,J3 hs=k+1:=⟨J3 hs - 1,by omega⟩;unfold valP;rw[ek];show Qo _ _=_
 congr 1
 refine Jv fun c hc=>?_;unfold numP;rw[eg] at hc ⊢;have hb:=(Qa (Pl.h32 ok (Zl eh)) hc).1;obtain⟨hs',lead',ys',tk,N⟩:=Ad ok t Pl eh hb;rw[Tx Pl eh hb N];obtain⟨_,_,_,tt,_⟩:=N.plc ok Pl eh hb;have:J3 hs'=k:=by
  unfold J3 at *;omega
 unfold valP;show Qp side tk+valF fx t side k hs' lead' ys'=Qp side tk+valF fx t side (J3 hs') hs' lead' ys';rw[this]
theorem Ae{fx:Fx}(ok:fx.Ok){t:Option Nat}{side:Nat}{hs:List Nat}{lead:Nat}{ys:List Nat}{m h c:Nat}{hs':List Nat}{lead':Nat}{ys':List Nat}{tk:Option Nat}(Pl:Plc fx hs lead ys m)(eh:hs[(lead+ys.length) % fx.n]? = some h)(hb:h.testBit c=true)(N:Nxt fx t hs lead ys h c hs' lead' ys' tk) :
  numP fx t side hs lead ys c=Qp side tk+valP fx t side hs' lead' ys':=by
 have eg:hs.getD ((lead+ys.length) % fx.n) 0=h:=by rw[Zp,eh];rfl
 unfold numP;rw[eg,Tx Pl eh hb N]
theorem Vl{fx:Fx}{t:Option Nat}{ys:List Nat}{h:Nat}(h32:h < 4294967296):(Ur fx t ys h).length≤Xg 32 h:=by
 unfold Ur Y3 Xg;rw[← List.countP_eq_length_filter,← List.countP_eq_length_filter];refine List.countP_mono_left fun b hb e=>?_;exact(Qa (f:=fx) (t:=t) (ys:=ys) h32 (by unfold Ur Y3;exact List.mem_filter.mpr ⟨hb,e⟩)).1
theorem Zgm(a:Nat):∀ l:List Nat,(∀ x∈l,a≤x)→l.length * a≤l.sum
 | [],_=>by simp
 | y :: l,h=>by
  have:=Zgm a l (fun x hx=>h x (Zz _ hx));have:=h y Zy;rw[Jo,List.sum_cons,Nat.succ_mul];omega
theorem Zch(a:Nat):∀ l:List Nat,(∀ x∈l,a≤x)→a+1∈l→l.length * a+1≤l.sum
 | [],_,h=>nomatch h
 | y :: l,h,hm=>by
  rw[Jo,List.sum_cons,Nat.succ_mul];have hy:=h y Zy;rcases Je.mp hm with e | e
  ·have:=Zgm a l (fun x hx=>h x (Zz _ hx))
   omega
  ·have:=Zch a l (fun x hx=>h x (Zz _ hx)) e
   omega
theorem Plc.few{fx:Fx}(ok:fx.Ok){hs:List Nat}{lead:Nat}{ys:List Nat}{m:Nat}(Pl:Plc fx hs lead ys m):m≤(J3 hs+2) / 3:=by
 rcases Nat.eq_zero_or_pos m with e | e
 ·omega
 obtain⟨a,ea⟩:∃ a,m=a+1:=⟨m - 1,by omega⟩;have h1:=(Pl.max ok).1;rw[ea] at h1;have h2:=Zch a (hs.map (Xg 32)) (fun x hx=>by
  obtain⟨h,hh,rfl⟩:=Zv.mp hx;obtain⟨i,hi,ei⟩:=Y0.mp hh;have:=Pl.lv i h (by rw[Zf hi,ei]);split at this<;>omega) h1
 rw[Zj,Pl.len] at h2;have h3:3 * a≤fx.n * a:=Nat.mul_le_mul_right _ (by rcases ok.n34 with e | e<;>omega);unfold J3;omega
def Sn:Nat→Nat
 | 0=>1
 | k+1=>1+(k+3) / 3 * Sn k
theorem Zp5:∀ l:List Nat,(∀ x∈l,x=0)→l.sum=0
 | [],_=>rfl
 | y :: l,h=>by rw[List.sum_cons,h y Zy,Zp5 l fun x hx=>h x (Zz _ hx)]
theorem Plc.tot0{fx:Fx}(ok:fx.Ok){hs:List Nat}{lead:Nat}{ys:List Nat}{m:Nat}(Pl:Plc fx hs lead ys m):J3 hs=0↔m=0:=by
 constructor
 ·intro e
  have:=Pl.few ok;omega
 ·intro e
  subst e;unfold J3;exact Zp5 _ fun x hx=>by have:=(Pl.max ok).2 x hx;omega
section
variable{P:Program}{w:World}{K:W.Frag}{mg:Str→Option Value}{base:Heap}{f g:Addr}{fd gd:FuncData}
def Qe:Sp:=fun vs H Q _=>∃ side seat:Nat,vs=[.int (side:Nat),.int (seat:Nat)]∧Q (.bl (side.testBit seat)) H
theorem Zeg:FnScope ["side","seat"] ["side","seat"] (Zq G9):=Uy (by decide +kernel)
theorem Zbl{k:Nat}(F:Fun K "has_seat" "has_seat" G9 f fd):FnOk P w K mg base Yr (k+1) f fd ["side","seat"] Qe:=by
 refine F.ok Zeg (fun vs H Q E h=>?_) (fun cdv A outer s H vs Q E hr h=>?_)
 ·obtain⟨side,seat,rfl,_⟩:=h
  rfl
 obtain⟨side,seat,rfl,q⟩:=h;refine⟨_,Zm (Z9 (Ys Uq (Jd Tv (Jd Zh6 (pv 0) (pv 1)) Zn) Zn (Jg _))),?_⟩;refine⟨_,rfl,_,rfl,_,_,rfl,rfl,by omega,_,_,rfl,rfl,rfl,?_⟩;have e:decide (V.int (Builtin.bitAnd (((side:Nat):Int) / 2 ^ (((seat:Nat):Int)).toNat) 1)=V.int 1)=side.testBit seat:=by
  have e1:((side:Nat):Int) / 2 ^ (((seat:Nat):Int)).toNat=((side / 2 ^ seat:Nat):Int):=by
   rw[Z2,Qk,Int.natCast_pow];rfl
  rw[e1,Zph,Nat.testBit_eq_decide_div_mod_eq,eq_int];exact decide_eq_decide.mpr ⟨fun h=>by omega,fun h=>by omega⟩
 show Q (V.bl (decide (V.int (Builtin.bitAnd (((side:Nat):Int) / 2 ^ (((seat:Nat):Int)).toNat) 1)=V.int 1))) H;rw[e];exact q
def Bm:Sp:=fun vs H Q _=>∃(side:Nat) (tk:Option Nat),vs=[.int (side:Nat),Au tk]∧Q (.int ((Qp side tk:Nat):Int)) H
theorem Znp:FnScope ["side","taker"] ["side","taker"] (Zq Zg9):=Uy (by decide +kernel)
theorem Zlo{k:Nat}{f1:Addr}{d1:FuncData}(F:Fun K "gain" "gain" Zg9 f fd)(LH:Lib P w K mg base k "has_seat" ["side","seat"] Qe f1 d1):FnOk P w K mg base Yr (k+1) f fd ["side","taker"] Bm:=by
 refine F.ok Znp (fun vs H Q E h=>?_) (fun cdv A outer s H vs Q E hr h=>?_)
 ·obtain⟨side,tk,rfl,_⟩:=h
  rfl
 obtain⟨side,tk,rfl,q⟩:=h;refine⟨_,Zm (Z9 (Er (PW.pt (Tf (Ji O9 (pv 1) Q9 (Jg _)) (Gg (Yi (Z1 LH.ok hr rfl LH.mg LH.kp LH.bd .nil Ja (Za (pv 0) (Za (pv 1) Zg))) (fun _=>rfl))))) Zn Zn)),?_⟩;refine⟨_,rfl,rfl,_,rfl,?_⟩;cases tk with
 | none=>exact X2 (rfl:(!decide (Au none=V.non))=false) (Yb (Yb q))
 | some u=>
  refine X2 (rfl:(!decide (Au (some u)=V.non))=true) (Ym ⟨_,rfl,_,rfl,side,u,rfl,_,rfl,?_⟩);by_cases c:side.testBit u=true
  ·rw[c]
   have e:Qp side (some u)=1:=Zu c;rw[e] at q;exact Ym q
  ·rw[Bool.eq_false_iff.mpr c]
   have e:Qp side (some u)=0:=Zk c;rw[e] at q;exact Yb q
def X5(hs:List Nat)(lead:Nat)(ys:List Nat):Ug:=(hs.map fun h=>.inl ((h:Nat):Int),((lead:Nat):Int),ys.map fun c=>.inl ((c:Nat):Int))
theorem Xs{H:Hp}{p:Addr}{hs:List Nat}{lead:Nat}{ys:List Nat}(h:IsPl H p hs lead ys):PlKey H (X5 hs lead ys) p:=by
 obtain⟨a,b,h1,h2,h3⟩:=h;refine⟨a,b,h1,?_,?_⟩
 ·rw[h2]
  unfold X5 vN;rw[Z7];rfl
 ·rw[h3]
  unfold X5 vN;rw[Z7];rfl
theorem Nu:∀{a b:List Nat},(a.map fun h=>(Sum.inl ((h:Nat):Int):N3))=(b.map fun h=>(Sum.inl ((h:Nat):Int):N3))→a=b
 | [],[],_=>rfl
 | x :: a,y :: b,e=>by
  have e1:=List.cons.inj e;have e2:((x:Nat):Int)=((y:Nat):Int):=Sum.inl.inj e1.1;rw[Nu e1.2,show x=y by omega]
 | [],_ :: _,e=>nomatch e
 | _ :: _,[],e=>nomatch e
theorem Zcz{hs hs':List Nat}{lead lead':Nat}{ys ys':List Nat}(e:X5 hs lead ys=X5 hs' lead' ys'):hs=hs'∧lead=lead'∧ys=ys':=by
 unfold X5 at e;have e1:=congrArg (fun z:Ug=>z.1) e;have e2:=congrArg (fun z:Ug=>z.2.1) e;have e3:=congrArg (fun z:Ug=>z.2.2) e;have e2':((lead:Nat):Int)=((lead':Nat):Int):=e2;exact⟨Nu e1,by omega,Nu e3⟩
def Zo6(k:Ug):Nat:=J3 (k.1.map fun x=>match x with | .inl i=>i.toNat | .inr _=>0)
theorem Zdf(hs:List Nat)(lead:Nat)(ys:List Nat):Zo6 (X5 hs lead ys)=J3 hs:=by
 unfold Zo6 X5;show J3 ((hs.map fun h=>(Sum.inl ((h:Nat):Int):N3)).map _)=_;rw[Z7]
 congr 1
 refine(Jv fun x _=>?_).trans (List.map_id _);exact Z2 x
abbrev Bw:=Fx→Option Nat→List Nat→Nat→List Nat→Prop
def SCl(S:Bw):Prop:=∀(fx:Fx) (t:Option Nat) (hs:List Nat) (lead:Nat) (ys:List Nat) (m h c:Nat) (hs':List Nat) (lead':Nat) (ys':List Nat) (tk:Option Nat),S fx t hs lead ys→Plc fx hs lead ys m→hs[(lead+ys.length) % fx.n]? = some h→c∈Ur fx t ys h→Nxt fx t hs lead ys h c hs' lead' ys' tk→S fx t hs' lead' ys'
def Zd1(S:Bw)(fx:Fx)(t:Option Nat)(side:Nat)(es:List Xa):Prop:=(∀ e∈es,∃ hs lead ys,e.1=X5 hs lead ys∧e.2.2=((valP fx t side hs lead ys:Nat):Int)∧S fx t hs lead ys)∧(es.map (·.1)).Nodup
theorem Zi2{es:List Xa}{k:Ug}{p:Addr}{n:Int}(h:(es.map (·.1)).Nodup)(c:Aw es k=none):((es++[(k,p,n)]).map (·.1)).Nodup:=by
 rw[Jp];refine List.nodup_append.mpr ⟨h,List.nodup_cons.mpr ⟨Uh,List.nodup_nil⟩,fun a ha b hb e=>?_⟩;cases Jb.mp hb;obtain⟨x,hx,rfl⟩:=Zv.mp ha;unfold Aw at c;rw[Option.map_eq_none_iff,List.find?_eq_none] at c;exact c x hx (Zd e)
theorem Zhe{fx:Fx}{t:Option Nat}{side:Nat}{es:List Xa}{S:Bw}(R:Zd1 S fx t side es){hs:List Nat}{lead:Nat}{ys:List Nat}{v:Int}(h:Aw es (X5 hs lead ys)=some v):v=((valP fx t side hs lead ys:Nat):Int):=by
 unfold Aw at h;obtain⟨e,he,rfl⟩:=Js.mp h;obtain⟨hs',lead',ys',e1,e2,_⟩:=R.1 e (List.mem_of_find?_eq_some he);have e3':=List.find?_some he;have e3:e.1=X5 hs lead ys:=Ju e3';obtain⟨rfl,rfl,rfl⟩:=Zcz (e3.symm.trans e1);exact e2
def Ext(n:Nat)(es es':List Xa):Prop:=∃ new,es'=es++new∧∀ e∈new,Zo6 e.1 < n
theorem Ext.refl(n:Nat)(es:List Xa):Ext n es es:=⟨[],(J8 _).symm,fun e he=>nomatch he⟩
theorem Ext.trans{n:Nat}{a b c:List Xa}(x:Ext n a b)(y:Ext n b c):Ext n a c:=by
 obtain⟨u,rfl,hu⟩:=x;obtain⟨v,rfl,hv⟩:=y;exact⟨u++v,Y5 _ _ _,fun e he=>(Jm.mp he).elim (hu e) (hv e)⟩
theorem Ext.mono{n m:Nat}{a b:List Xa}(x:Ext n a b)(h:n≤m):Ext m a b:=by
 obtain⟨u,e,hu⟩:=x;exact⟨u,e,fun e he=>Jk (hu e he) h⟩
theorem Zk4{a b:List Xa}{k:Ug}(h:Aw a k=none)(g:∀ e∈b,e.1≠k):Aw (a++b) k=none:=by
 unfold Aw at *;rw[Option.map_eq_none_iff] at *;rw[List.find?_eq_none] at *;intro e he;rcases Jm.mp he with z | z
 ·exact h e z
 ·simp [g e z]
theorem Zk3{a:List Xa}{k:Ug}{p:Addr}{n:Int}(h:Aw a k=none):Aw (a++[(k,p,n)]) k=some n:=by
 unfold Aw at *;rw[Option.map_eq_none_iff] at h;rw[List.find?_append,h];simp
structure RkC(K:W.Frag)(mg:Str→Option Value)(CR:Addr):Prop where
 cl:Cls K CR
 mR:mg "Reckoning" = some (.ref CR)
 n1:NoAttr K CR "game"
 n2:NoAttr K CR "side"
 n3:NoAttr K CR "known"
def rkN:List Str:=["game","side","known"]
structure RkF(gm d:Addr)(side:Nat)(fs:List (Str×V)):Prop where
 l1:fs.lookup ("game":Str)=some (.ref gm)
 l2:fs.lookup ("side":Str)=some (.int (side:Nat))
 l3:fs.lookup ("known":Str)=some (.ref d)
 nm:∀ m:Str,m∉rkN→fs.lookup m=none
structure Rk(P:Program)(w:World)(CR:Addr)(S:Bw)(fx:Fx)(t:Option Nat)(side:Nat)(H:Hp)(r gm d:Addr)(es:List Xa):Prop where
 o:∃ dx fs,H r=some (.ins CR dx fs)∧RkF gm d side fs
 d:H d=some (E4 P w d es)
 ks:Mg H es
 ok:Zd1 S fx t side es
section
variable{S:Bw}{CR r gm d:Addr}{fx:Fx}{t:Option Nat}{side:Nat}{H H':Hp}{es:List Xa}
theorem Rk.same(h:Rk P w CR S fx t side H r gm d es)(s:Same H H'):Rk P w CR S fx t side H' r gm d es:=by
 obtain⟨⟨dx,fs,a,b⟩,c,e,g⟩:=h;exact⟨⟨dx,fs,s _ _ a,b⟩,s _ _ c,fun x hx=>(e x hx).mono fun b ys q=>s _ _ q,g⟩
theorem Rk.updL{l:Addr}{xs:List V}{o:HO}(h:Rk P w CR S fx t side H r gm d es)(hl:H l=some (.lst xs)):Rk P w CR S fx t side (upd H l o) r gm d es:=by
 obtain⟨⟨dx,fs,a,b⟩,c,e,g⟩:=h;have n1:r≠l:=fun z=>by rw[z,hl] at a;cases a
 have n2:d≠l:=fun z=>by rw[z,hl] at c;cases c
 exact⟨⟨dx,fs,by rw[Jh n1];exact a,b⟩,by rw[Jh n2];exact c,fun x hx=>(e x hx).mono fun b ys q=>by rw[Jh (Bj q hl (fun _ z=>nomatch z))];exact q,g⟩
theorem Rk.nd{b:Addr}{o:HO}(h:Rk P w CR S fx t side H r gm d es)(hb:H b=some o)(n:∀ φ,o≠HO.ext φ):b≠d:=fun z=>by
 have:=h.d;rw[← z,hb] at this;exact n _ (Z0 this)
theorem KpD.pl{p:Addr}{hs ys:List Nat}{lead:Nat}(k:KpD d H H')(h:Rk P w CR S fx t side H r gm d es)(hp:IsPl H p hs lead ys):IsPl H' p hs lead ys:=by
 obtain⟨a,b,h1,h2,h3⟩:=hp;exact⟨a,b,k _ _ (h.nd h1 (fun _ z=>nomatch z)) h1,k _ _ (h.nd h2 (fun _ z=>nomatch z)) h2,k _ _ (h.nd h3 (fun _ z=>nomatch z)) h3⟩
theorem KpD.gam{CT CG gx:Addr}(k:KpD d H H')(h:Rk P w CR S fx t side H r gm d es)(g:GamH CT CG fx t H gm gx):GamH CT CG fx t H' gm gx:=by
 obtain⟨ok,⟨dg,hg⟩,⟨dx,po,to,a,b,c⟩⟩:=g;exact⟨ok,⟨dg,k _ _ (h.nd hg (fun _ z=>nomatch z)) hg⟩,⟨dx,po,to,k _ _ (h.nd a (fun _ z=>nomatch z)) a,k _ _ (h.nd b (fun _ z=>nomatch z)) b,k _ _ (h.nd c (fun _ z=>nomatch z)) c⟩⟩
end
def Gr(P:Program)(w:World)(CR:Addr):Sp:=fun vs H Q _=>∃(r dr gm:Addr) (side:Nat),vs=[.ref r,.ref gm,.int (side:Nat)]∧H r=some (.ins CR dr [])∧∀ d H',(∀ b o,b≠r→H b=some o→H' b=some o)→H d=none→(∀ S fx t,Rk P w CR S fx t side H' r gm d [])→Q .non H'
theorem Zgw:FnScope ["self","game","side"] ["self","game","side"] (Zq Oq):=Uy (by decide +kernel)
theorem M3{k:Nat}{CR:Addr}(F:Fun K "__init__" "Reckoning.__init__" Oq f fd)(C:RkC K mg CR):FnOk P w K mg base Yr (k+1) f fd ["self","game","side"] (Gr P w CR):=by
 refine F.ok Zgw (fun vs H Q E h=>?_) (fun cdv A outer s H vs Q E hr h=>?_)
 ·obtain⟨r,dr,gm,side,rfl,_⟩:=h
  rfl
 obtain⟨r,dr,gm,side,rfl,hr0,q⟩:=h;refine⟨_,Zh (Xk (pv 0) (pv 1) rfl) (Zh (Xk (pv 0) (pv 2) rfl) (Zm (Xk (pv 0) Zhw rfl))),?_⟩;refine⟨_,rfl,_,rfl,r,CR,dr,[],rfl,hr0,C.cl,C.n1,by decide,?_⟩;have b0:∀(f:Str) (v:V) (fs:List (Str×V)) (n:Nat),fs.length≤n→(X4 f v fs).length≤n+1:=fun f v fs n h=>Jc (Y8 _ _ _) (Nat.succ_le_succ h);have c1:=b0 "game" (.ref gm) [] 0 (Zs _);have c2:=b0 "side" (.int (side:Nat)) _ 1 c1;refine⟨_,rfl,_,rfl,r,CR,dr,_,rfl,Zo,C.cl,C.n2,by omega,?_⟩;rw[U2];intro d hd;have nd:r≠d:=fun z=>by rw[← z,Zo] at hd;cases hd
 have hd0:H d=none:=by rw[Jh (Ne.symm nd)] at hd;exact hd
 refine⟨_,rfl,r,CR,dr,_,rfl,(by rw[Jh nd];exact Zo),C.cl,C.n3,by omega,?_⟩;refine q d _ (fun b o n h=>?_) hd0 fun S fx t=>⟨⟨dr,_,Zo,?_,?_,?_,fun m hm=>?_⟩,?_,(fun e he=>nomatch he),(fun e he=>nomatch he),List.nodup_nil⟩
 ·rw[Jh n,Jh (J4 h hd0),Jh n]
  exact h
 ·rw[Zt,Zk (by decide +kernel),Zt,Zk (by decide +kernel),Zt,Zu rfl]
 ·rw[Zt,Zk (by decide +kernel),Zt,Zu rfl]
 ·rw[Zt,Zu rfl]
 ·rw[Zt,Zk (fun z=>hm (by rw[z];decide +kernel)),Zt,Zk (fun z=>hm (by rw[z];decide +kernel)),Zt,Zk (fun z=>hm (by rw[z];decide +kernel))]
  rfl
 ·rw[Jh (Ne.symm nd),Zo]
  rfl
def B7(P:Program)(w:World)(CT CG CR:Addr)(S:Bw):Sp:=fun vs H Q _=>∃(r gm gx d p l:Addr) (t:Option Nat) (fx:Fx) (side:Nat) (hs:List Nat) (lead:Nat) (ys:List Nat) (m:Nat) (es:List Xa) (ps:List (Nat×Nat)),vs=[.ref r,.ref p,.ref l]∧Rk P w CR S fx t side H r gm d es∧GamH CT CG fx t H gm gx∧IsPl H p hs lead ys∧Plc fx hs lead ys m∧Zd2 H l ps∧ps.length≤100∧(m=0→ps=[]) ∧
 ∀ H',Same H H'→Q (.int ((Qo (side.testBit ((lead+ys.length) % fx.n)) (ps.map (·.2)):Nat):Int)) H'
abbrev Zda:List Str:=["self","place","pairs","numbers"]
theorem scChoice:FnScope Zda ["self","place","pairs"] (Zq Gd):=Uy (by decide +kernel)
theorem Ze5{S:Bw}{k:Nat}{CT CG CR f1 f2:Addr}{d1 d2:FuncData}(F:Fun K "choice" "Reckoning.choice" Gd f fd)(C:RkC K mg CR)(LH:Lib P w K mg base k "has_seat" ["side","seat"] Qe f1 d1)(LT:Lib P w K mg base k "turn_at" ["game","place"] (Qm CT CG) f2 d2)(ml:mg "len" = none)(mM:mg "max" = none)(mMi:mg "min" = none):FnOk P w K mg base Yr (k+1) f fd ["self","place","pairs"] (B7 P w CT CG CR S):=by
 refine F.ok scChoice (fun vs H Q E h=>?_) (fun cdv A outer s H vs Q E hr h=>?_)
 ·obtain⟨r,gm,gx,d,p,l,t,fx,side,hs,lead,ys,m,es,ps,rfl,_⟩:=h
  rfl
 obtain⟨r,gm,gx,d,p,l,t,fx,side,hs,lead,ys,m,es,ps,rfl,R,G,hp,Pl,hl,p100,hm,q⟩:=h;refine⟨_,Zh (J5 (Ji Uq (Jr Jy rfl ml Jq (Za (pv 2) Zg)) Zn (Jg _)) (Zm (Z9 Zn)) Jl)
  (Zh (Tg (i:=3) ["card","number"] [none,none] rfl scChoice.nd rfl (Or.inl rfl) (Blk.by (sc:=Zq Gd) (N0:=Zda) rfl rfl (by decide +kernel)) (Y6 (pv 2)) (fun C s₀ H₀ ex=>Gh (n:=2) K rfl rfl (J6 (Jj (i:=0) (show(["card","number"]:List Str).Nodup by decide +kernel) rfl (Or.inl rfl)) (J6 (Jj (i:=1) (show(["card","number"]:List Str).Nodup by decide +kernel) rfl (Or.inl rfl)) Xt))) (fun C s₀ H₀ ex=>U5) (fun C s₀ H₀ ex=>pv 1))
  (Zm (Z9 (Er (Yi (Z1 LH.ok hr rfl LH.mg LH.kp LH.bd .nil Ja (Za (Jt (pv 0) rfl) (Za (Z1 LT.ok hr rfl LT.mg LT.kp LT.bd .nil Ja (Za (Jt (pv 0) rfl) (Za (pv 1) Zg))) Zg))) (fun _=>rfl)) (Jr (Dm rfl) rfl mM PyProof.Rows.boot_max (Za (pv 3) Zg)) (Jr (Zfw rfl) rfl mMi PyProof.Rows.boot_min (Za (pv 3) Zg)))))),?_⟩
 obtain⟨as,hA,la,hP⟩:=id hl;obtain⟨dx,fs,hr0,A1⟩:=id R.o;have z1000:=J2 1000 (by decide);have eL:decide (V.int ((((as.map V.ref).length:Nat)):Int)=V.int 0)=decide (ps=[]):=by
  rw[Zj,la,eq_int];exact decide_eq_decide.mpr ⟨fun h=>List.eq_nil_of_length_eq_zero (by omega),fun h=>by rw[h];rfl⟩
 refine⟨_,rfl,l,_,rfl,.inl (SqL.of hA),rfl,_,rfl,X2 eL ?_⟩;by_cases pn:ps=[]
 ·rw[Zd pn]
  have z:=q H (Same.refl H);rw[pn] at z;exact Ym z
 rw[Zc pn];refine Yb (Qx ?_);have m0:m≠0:=fun z=>pn (hm z);refine U3 (fun v H2=>Same H H2∧∃ ln,v = .ref ln∧H2 ln=some (.lst (vN (ps.map (·.2))))) (fun W hW=>?_) (fun v H2 z=>?_)
 ·refine⟨_,rfl,l,rfl,⟨_,SqL.of hA⟩,Bv (K:=K) hl (fun _=>true) (fun x=>.int (x.2:Nat)) (by omega) (fun x H3 hx sm R hR=>hR H3 (Same.refl H3)) (fun x H3 hx hp sm R hR=>⟨_,rfl,hR H3 (Same.refl H3)⟩) (fun ln H2 s2 hln hLn=>hW _ _ ⟨s2,ln,rfl,?_⟩)⟩
  rw[hLn,List.filter_eq_self.mpr fun _ _=>rfl];unfold vN;rw[Z7];rfl
 obtain⟨s2,ln,rfl,hLn⟩:=z;have et:Nj fx lead ys m = .int (((lead+ys.length) % fx.n:Nat):Int):=by unfold Nj;rw[Zk m0]
 refine⟨_,rfl,r,CR,dx,_,_,rfl,s2 _ _ hr0,C.cl,C.n2,A1.l2,_,rfl,r,CR,dx,_,_,rfl,s2 _ _ hr0,C.cl,C.n1,A1.l1,_,rfl,gm,gx,p,t,fx,hs,ys,lead,m,rfl,G.same s2,hp.same s2,Pl,fun H3 s3=>?_⟩;rw[et];refine⟨side,(lead+ys.length) % fx.n,rfl,_,rfl,?_⟩;have s23:=s2.trans s3;have hL3:=s3 _ _ hLn;rw[Dv] at hL3;have pl:0 < ((ps.map (·.2)).map fun c=>((c:Nat):Int)).length:=by
  rw[Zj,Zj];exact List.length_pos_iff.mpr pn
 have fin:∀(M:Int) (hM:M∈(ps.map (·.2)).map fun c=>((c:Nat):Int)),∃ j:Nat,M=(j:Nat)∧j∈ps.map (·.2):=fun M hM=>by
  obtain⟨j,hj,e⟩:=Zv.mp hM;exact⟨j,e.symm,hj⟩
 cases c:side.testBit ((lead+ys.length) % fx.n) with
 | true=>
  refine Ym ⟨_,rfl,ln,_,rfl,SqL.of hL3,pl,fun M hM g=>?_⟩;obtain⟨j,rfl,hj⟩:=fin M hM;have z:=q H3 s23;rw[c,Kn hj fun x hx=>by have:=g _ (Zv.mpr ⟨x,hx,rfl⟩);omega] at z;exact z
 | false=>
  refine Yb ⟨_,rfl,ln,_,rfl,SqL.of hL3,pl,fun M hM g=>?_⟩;obtain⟨j,rfl,hj⟩:=fin M hM;have z:=q H3 s23;rw[c,Zho hj fun x hx=>by have:=g _ (Zv.mpr ⟨x,hx,rfl⟩);omega] at z;exact z
def Qn(P:Program)(w:World)(CT CG CR:Addr)(S:Bw)(kb:Nat):Sp:=fun vs H Q _=>∃(r gm gx d p:Addr) (t:Option Nat) (fx:Fx) (side:Nat) (hs:List Nat) (lead:Nat) (ys:List Nat) (m:Nat) (es:List Xa),vs=[.ref r,.ref p]∧Mp t∧Rk P w CR S fx t side H r gm d es∧GamH CT CG fx t H gm gx∧IsPl H p hs lead ys∧Plc fx hs lead ys m∧S fx t hs lead ys∧J3 hs+1≤kb∧es.length+Sn (J3 hs)≤1000000 ∧
 ∀ es' H',KpD d H H'→Rk P w CR S fx t side H' r gm d es'→es'.length≤es.length+Sn (J3 hs)→Ext (J3 hs+1) es es'→Q (.int ((valP fx t side hs lead ys:Nat):Int)) H'
def Kd(P:Program)(w:World)(CT CG CR:Addr)(S:Bw)(kb:Nat):Sp:=fun vs H Q _=>∃(r gm gx d p:Addr) (t:Option Nat) (fx:Fx) (side:Nat) (hs:List Nat) (lead:Nat) (ys:List Nat) (m h c:Nat) (es:List Xa),vs=[.ref r,.ref p,.int (c:Nat)]∧Mp t∧Rk P w CR S fx t side H r gm d es∧GamH CT CG fx t H gm gx∧IsPl H p hs lead ys∧Plc fx hs lead ys m∧hs[(lead+ys.length) % fx.n]? = some h∧c∈Ur fx t ys h∧S fx t hs lead ys∧J3 hs≤kb∧es.length+Sn (J3 hs - 1)≤1000000 ∧
 ∀ es' H',KpD d H H'→Rk P w CR S fx t side H' r gm d es'→es'.length≤es.length+Sn (J3 hs - 1)→Ext (J3 hs) es es'→Q (.int ((numP fx t side hs lead ys c:Nat):Int)) H'
noncomputable def prL (fx:Fx) (t:Option Nat) (side:Nat) (hs:List Nat) (lead:Nat) (ys:List Nat) (m:Nat):List (Nat×Nat):=(moveL fx t hs lead ys m).map fun c=>(c,numP fx t side hs lead ys c)
def R6(P:Program)(w:World)(CT CG CR:Addr)(S:Bw)(kb:Nat):Sp:=fun vs H Q _=>∃(r gm gx d p:Addr) (t:Option Nat) (fx:Fx) (side:Nat) (hs:List Nat) (lead:Nat) (ys:List Nat) (m:Nat) (es:List Xa),vs=[.ref r,.ref p]∧Mp t∧Rk P w CR S fx t side H r gm d es∧GamH CT CG fx t H gm gx∧IsPl H p hs lead ys∧Plc fx hs lead ys m∧S fx t hs lead ys∧J3 hs≤kb∧es.length+Sn (J3 hs)≤1000000 ∧
 ∀ l es' H',KpD d H H'→H l=none→Rk P w CR S fx t side H' r gm d es'→es'.length+1≤es.length+Sn (J3 hs)→Ext (J3 hs) es es'→Zd2 H' l (prL fx t side hs lead ys m)→Q (.ref l) H'
abbrev Zlu:List Str:=["self","place","card","step"]
theorem scMadeBy:FnScope Zlu ["self","place","card"] (Zq Gc):=Uy (by decide +kernel)
theorem Zez{S:Bw}(hS:SCl S){k kb:Nat}{CT CG CR f1 f2 m1:Addr}{d1 d2 e1:FuncData}(F:Fun K "made_by" "Reckoning.made_by" Gc f fd)(C:RkC K mg CR)(LB:Lib P w K mg base k "behind" ["game","place","card"] (Xo K CT CG) f1 d1)(LG:Lib P w K mg base k "gain" ["side","taker"] Bm f2 d2)
  (MA:Meth K CR "made_at" m1) (FA:FnOk P w K mg base Yr k m1 e1 ["self","place"] (Qn P w CT CG CR S kb)) (BA:Binds K e1 ["self","place"] []):FnOk P w K mg base Yr (k+1) f fd ["self","place","card"] (Kd P w CT CG CR S kb):=by
 refine F.ok scMadeBy (fun vs H Q E h=>?_) (fun cdv A outer s H vs Q E hr h=>?_)
 ·obtain⟨r,gm,gx,d,p,t,fx,side,hs,lead,ys,m,h,c,es,rfl,_⟩:=h
  rfl
 obtain⟨r,gm,gx,d,p,t,fx,side,hs,lead,ys,m,h,c,es,rfl,tb,R,G,hp,Pl,eh,hc,hs_,hk,hn,q⟩:=h;refine⟨_,Zh (Jf (i:=3) scMadeBy.nd rfl (Or.inl rfl) (Z1 LB.ok hr rfl LB.mg LB.kp LB.bd .nil Ja (Za (Jt (pv 0) rfl) (Za (pv 1) (Za (pv 2) Zg)))))
  (Zm (Z9 (Jd Y1 (Z1 LG.ok hr rfl LG.mg LG.kp LG.bd .nil Ja (Za (Jt (pv 0) rfl) (Za (Jw Jz (pv 3) Zn (fun _ _=>rfl)) Zg))) (Uj (pv 0) C.cl MA FA hr BA .nil Ja (Za (Jw Jz (pv 3) Zn (fun _ _=>rfl)) Zg))))),?_⟩
 obtain⟨dx,fs,hr0,A1⟩:=id R.o;have ok:=G.ok;have hb:=(Qa (Pl.h32 ok (Zl eh)) hc).1;refine⟨_,rfl,r,CR,dx,_,_,rfl,hr0,C.cl,C.n1,A1.l1,_,rfl,_,rfl,gm,gx,p,t,fx,hs,ys,lead,m,h,c,rfl,G,hp,Pl,eh,hb,fun st p' hs' lead' ys' tk H2 s2 N hst hp'=>?_⟩;obtain⟨m',Pl',_,tt,_,_⟩:=N.plc ok Pl eh hb;have et:J3 hs'+1=J3 hs:=tt;have R2:=R.same s2;refine⟨_,rfl,r,CR,dx,_,_,rfl,s2 _ _ hr0,C.cl,C.n2,A1.l2,_,rfl,st,_,_,_,rfl,rfl,SqT.of hst,(rfl:X6 [V.ref p',Au tk] 1=some (Au tk)),side,tk,rfl,?_⟩;refine⟨_,rfl,r,dx,_,rfl,s2 _ _ hr0,A1.nm _ (by decide +kernel),_,rfl,st,_,_,_,rfl,rfl,SqT.of hst,(rfl:X6 [V.ref p',Au tk] 0=some (V.ref p')),r,gm,gx,d,p',t,fx,side,hs',lead',ys',m',es,rfl,tb,R2,G.same s2,hp',Pl',hS _ _ _ _ _ _ _ _ _ _ _ _ hs_ Pl eh hc N,by omega,?_,fun es' H' k' R' l' E'=>?_⟩
 ·have:J3 hs - 1=J3 hs':=by omega
  rw[this] at hn;exact hn
 refine⟨_,_,rfl,rfl,?_⟩;have et':J3 hs - 1=J3 hs':=by omega
 have z:=q es' H' (fun b o n h=>k' b o n (s2 _ _ h)) R' (by rw[et'];exact l') (E'.mono (by omega));rw[Ae ok Pl eh hb N,Xy] at z;exact z
theorem Zkq:FnScope ["self","place"] ["self","place"] (Zq G6):=Uy (by decide +kernel)
theorem Zii{S:Bw}{k kb:Nat}{CT CG CR f1 m1:Addr}{d1 e1:FuncData}(F:Fun K "pairs" "Reckoning.pairs" G6 f fd)(C:RkC K mg CR)(LM:Lib P w K mg base k "moves" ["game","place"] (Ql CT CG) f1 d1)
  (MB:Meth K CR "made_by" m1) (FB:FnOk P w K mg base Yr k m1 e1 ["self","place","card"] (Kd P w CT CG CR S kb)) (BB:Binds K e1 ["self","place","card"] []):FnOk P w K mg base Yr (k+1) f fd ["self","place"] (R6 P w CT CG CR S kb):=by
 refine F.ok Zkq (fun vs H Q E h=>?_) (fun cdv A outer s H vs Q E hr h=>?_)
 ·obtain⟨r,gm,gx,d,p,t,fx,side,hs,lead,ys,m,es,rfl,_⟩:=h
  rfl
 obtain⟨r,gm,gx,d,p,t,fx,side,hs,lead,ys,m,es,rfl,tb,R,G,hp,Pl,hs_,hk,hn,q⟩:=h;refine⟨_,Zm (Z9 (Ud ["card","self","place"] [none,some 0,some 1] rfl (Blk.by (sc:=Zq G6) (N0:=["self","place"]) rfl rfl (by decide +kernel)) (Y6 (Z1 LM.ok hr rfl LM.mg LM.kp LM.bd .nil Ja (Za (Jt (pv 0) rfl) (Za (pv 1) Zg)))) (fun C s₀ H₀ ex=>Jj (i:=0) (show(["card","self","place"]:List Str).Nodup by decide +kernel) rfl (Or.inl rfl)) (fun C s₀ H₀ ex=>U5)
  (fun _ s₀ H₀ ex=>Um (Za (pv 0) (Za (Uj (pv 1) C.cl MB FB hr BB .nil Ja (Za (pv 2) (Za (pv 0) Zg))) Zg))))),?_⟩
 obtain⟨dx,fs,hr0,A1⟩:=id R.o;have ok:=G.ok;obtain⟨h,eh,epc⟩:=Pl.turn ok;have h32:=Pl.h32 ok (Zl eh);have z1000:=J2 1000 (by decide);have few:=Pl.few ok;have t0:=Pl.tot0 ok;have ml':(moveL fx t hs lead ys m).length≤m:=by
  unfold My.moveL;split
  ·exact Nat.zero_le _
  ·rw[Zp,eh]
   exact Jc (Vl (h:=h) h32) (Nat.le_of_eq epc)
 have p32:Xg 32 h≤32:=by
  unfold Xg;have:=List.length_filter_le (fun b=>h.testBit b) (List.range 32);rw[J7] at this;exact this
 have room:∀ i,i≤m→es.length+i * Sn (J3 hs - 1)+1≤es.length+Sn (J3 hs)∧(i < m→es.length+i * Sn (J3 hs - 1)+Sn (J3 hs - 1)≤1000000):=fun i hi=>by
  by_cases m0:m=0
  ·have i0:i=0:=by omega
   have tz:=t0.mpr m0;rw[i0,tz];exact⟨by show es.length+0 * Sn (0 - 1)+1≤es.length+1;omega,fun z=>by omega⟩
  ·have tn:J3 hs≠0:=fun z=>m0 (t0.mp z)
   obtain⟨j,ej⟩:∃ j,J3 hs=j+1:=⟨J3 hs - 1,by omega⟩;have es':Sn (J3 hs)=1+(j+3) / 3 * Sn j:=by rw[ej];rfl
   have ej':J3 hs - 1=j:=by omega
   have hn':=hn;rw[es'] at hn' ⊢;rw[ej'];have a1:i * Sn j≤(j+3) / 3 * Sn j:=Nat.mul_le_mul_right _ (by omega);refine⟨by omega,fun hlt=>?_⟩;have a2:(i+1) * Sn j≤(j+3) / 3 * Sn j:=Nat.mul_le_mul_right _ (by omega);rw[Nat.succ_mul] at a2;omega
 refine⟨_,rfl,r,CR,dx,_,_,rfl,hr0,C.cl,C.n1,A1.l1,_,rfl,gm,gx,p,t,fx,hs,ys,lead,m,rfl,G,tb,hp,Pl,fun lm H1 s1 hlm hLm=>?_⟩;have R1:=R.same s1;have hp1:=hp.same s1;have G1:=G.same s1;have nlm:lm≠d:=R1.nd hLm (fun _ z=>nomatch z);refine⟨lm,rfl,⟨_,SqL.of hLm⟩,Zfq (K:=K) (xs:=vN (moveL fx t hs lead ys m)) d (fun l vs H'=>∃(es':List Xa) (as:List Addr),Rk P w CR S fx t side H' r gm d es'∧es'.length≤es.length+vs.length * Sn (J3 hs - 1)∧Ext (J3 hs) es es'∧vs=as.map V.ref∧∀(j:Nat) (u:Addr) (c:Nat),as[j]? = some u→(moveL fx t hs lead ys m)[j]? = some c→H' u=some (.tup [.int (c:Nat),.int ((numP fx t side hs lead ys c:Nat):Int)])) ⟨_,R1.d⟩ (fun H' k'=>SqL.of (k' _ _ nlm hLm)) (by rw[J1];omega) (fun l hl=>?_) (fun i x H2 l vs hx hvl k2 hl hL hPv W hW=>?_) (fun l H2 vs k2 hl hL hvl hPv=>?_)⟩
 ·exact⟨es,[],R1.same (Z5 hl _),by simp,Ext.refl _ _,rfl,fun j u c e=>by simp at e⟩
 ·obtain⟨es2,as,R2,l2,E2,ev,hP2⟩:=hPv
  unfold vN at hx;rw[Z4] at hx;obtain⟨c,hc,rfl⟩:=Js.mp hx;have im:i < m:=by
   have:=(Zx.mp hc).1;omega
  have m0:m≠0:=by omega
  have hc':c∈Ur fx t ys h:=by
   have:=Zl hc;unfold My.moveL at this;rw[Zk m0,Zp,eh] at this;exact this
  obtain⟨rm1,rm2⟩:=room i (by omega);obtain⟨dx2,fs2,hr2,A2⟩:=id R2.o;have al:as.length=i:=by rw[ev,Zj] at hvl;exact hvl
  refine⟨_,rfl,_,rfl,r,dx2,_,rfl,hr2,A2.nm _ (by decide +kernel),_,rfl,_,rfl,r,gm,gx,d,p,t,fx,side,hs,lead,ys,m,h,c,es2,rfl,tb,R2,KpD.gam k2 R1 G1,KpD.pl k2 R1 hp1,Pl,eh,hc',hs_,hk,?_,fun es3 H3 k3 R3 l3 E3=>⟨J2 2 (by decide),fun u hu=>?_⟩⟩
  ·have:=rm2 im
   rw[hvl] at l2;omega
  have a3:=Z5 hu (.tup [.int (c:Nat),.int ((numP fx t side hs lead ys c:Nat):Int)]);have hU:(upd H3 u (.tup [.int (c:Nat),.int ((numP fx t side hs lead ys c:Nat):Int)])) u=some (.tup [.int (c:Nat),.int ((numP fx t side hs lead ys c:Nat):Int)]):=Zo;generalize upd H3 u (.tup [.int (c:Nat),.int ((numP fx t side hs lead ys c:Nat):Int)])=H4 at a3 hU ⊢;have R4:=R3.same a3;have nld:l≠d:=R2.nd hL (fun _ z=>nomatch z);have hL4:=a3 _ _ (k3 _ _ nld hL);refine hW _ _ (fun b o n h=>a3 _ _ (k3 b o n h)) ⟨es3,as++[u],R4.updL hL4,?_,E2.trans E3,by rw[ev,Jp];rfl,fun j v c' ej ec=>?_⟩
  ·rw[Z3,List.length_singleton,Nat.succ_mul]
   omega
  ·rcases Nat.lt_or_ge j as.length with z | z
   ·rw[Xi z] at ej
    have h1:=hP2 j v c' ej ec;have h2:=a3 _ _ (k3 _ _ (R2.nd h1 (fun _ z=>nomatch z)) h1);rw[Jh (Bj h2 hL4 (fun _ z=>nomatch z))];exact h2
   ·have jl:j=as.length:=by
     have:=(Zx.mp ej).1;rw[Z3,List.length_singleton] at this;omega
    rw[Xf z,jl,Nat.sub_self] at ej;have eu:u=v:=Z0 ej;subst eu;rw[jl,al,hc] at ec;have ec':c=c':=Z0 ec;subst ec';rw[Jh (Bj hU hL4 (fun _ z=>nomatch z))];exact hU
 ·obtain⟨es2,as,R2,l2,E2,ev,hP2⟩:=hPv
  rw[J1] at hvl;have al:as.length=(moveL fx t hs lead ys m).length:=by rw[ev,Zj] at hvl;exact hvl
  obtain⟨rm1,_⟩:=room (moveL fx t hs lead ys m).length ml';refine q l es2 H2 (fun b o n h=>k2 b o n (s1 _ _ h)) (s1.free hl) R2 (by rw[hvl] at l2;omega) E2 ⟨as,by rw[hL,ev],?_,fun j u pr eu ep=>?_⟩
  ·unfold prL
   rw[Zj];exact al
  ·unfold prL at ep
   rw[Z4] at ep;obtain⟨c,hc,rfl⟩:=Js.mp ep;exact hP2 j u c eu hc
theorem Kh:FnScope ["self","place"] ["self","place"] (Zq B9):=Uy (by decide +kernel)
theorem Ze0{S:Bw}{k kb:Nat}{CT CG CR m1 m2:Addr}{e1 e2:FuncData}(F:Fun K "made_at" "Reckoning.made_at" B9 f fd)(C:RkC K mg CR)(MP:Meth K CR "pairs" m1)(FP:FnOk P w K mg base Yr k m1 e1 ["self","place"] (R6 P w CT CG CR S kb))(BP:Binds K e1 ["self","place"] [])
  (MC:Meth K CR "choice" m2) (FC:FnOk P w K mg base Yr k m2 e2 ["self","place","pairs"] (B7 P w CT CG CR S)) (BC:Binds K e2 ["self","place","pairs"] []):FnOk P w K mg base Yr (k+1) f fd ["self","place"] (Qn P w CT CG CR S (kb+1)):=by
 refine F.ok Kh (fun vs H Q E h=>?_) (fun cdv A outer s H vs Q E hr h=>?_)
 ·obtain⟨r,gm,gx,d,p,t,fx,side,hs,lead,ys,m,es,rfl,_⟩:=h
  rfl
 obtain⟨r,gm,gx,d,p,t,fx,side,hs,lead,ys,m,es,rfl,tb,R,G,hp,Pl,hs_,hk,hn,q⟩:=h;have hu:=Jx (Nat.add_le_add_left (show 10≤64 by decide) _) hr.units;refine⟨_,Zh (J5 (Zhj (Zeo hu (pv 1) (Jt (pv 0) rfl))) (Zm (Zky hu (Jt (pv 0) rfl) (pv 1) (Uj (pv 0) C.cl MC FC hr BC .nil Ja (Za (pv 1) (Za (Uj (pv 0) C.cl MP FP hr BP .nil Ja (Za (pv 1) Zg)) Zg))) rfl)) Jl)
  (Zm (Z9 (Zk1 hu (Jt (pv 0) rfl) (pv 1) (fun _ _=>rfl)))),?_⟩
 obtain⟨dx,fs,hr0,A1⟩:=id R.o;have ok:=G.ok;have K1:=Xs hp;have few:=Pl.few ok;have t0:=Pl.tot0 ok;obtain⟨h,eh,epc⟩:=Pl.turn ok;refine⟨_,rfl,_,rfl,r,CR,dx,_,_,rfl,hr0,C.cl,C.n3,A1.l3,d,es,X5 hs lead ys,p,rfl,R.d,R.ks,rfl,K1,_,rfl,?_⟩;cases c:Aw es (X5 hs lead ys) with
 | some v=>
  refine Yb (Qx ?_);refine⟨_,rfl,r,CR,dx,_,_,rfl,hr0,C.cl,C.n3,A1.l3,_,rfl,d,es,X5 hs lead ys,p,v,rfl,R.d,R.ks,rfl,K1,c,?_⟩;rw[Zhe R.ok c];exact q es H (KpD.refl _ _) R (by omega) (Ext.refl _ _)
 | none=>
  refine Ym ?_;have m32:m≤32:=by
   rw[← epc];unfold Xg;have:=List.length_filter_le (fun b=>h.testBit b) (List.range 32);rw[J7] at this;exact this
  have pl:(prL fx t side hs lead ys m).length≤100:=by
   unfold prL;rw[Zj];unfold My.moveL;split
   ·simp
   ·rw[Zp,eh]
    have:=Vl (fx:=fx) (t:=t) (ys:=ys) (Pl.h32 ok (Zl eh));show(Ur fx t ys h).length≤100;omega
  refine⟨_,rfl,r,dx,_,rfl,hr0,A1.nm _ (by decide +kernel),_,rfl,_,rfl,r,dx,_,rfl,hr0,A1.nm _ (by decide +kernel),_,rfl,r,gm,gx,d,p,t,fx,side,hs,lead,ys,m,es,rfl,tb,R,G,hp,Pl,hs_,by omega,hn,fun l es1 H1 k1 nl R1 l1 E1 Pr=>?_⟩;have hp1:=KpD.pl k1 R hp;have G1:=KpD.gam k1 R G;refine⟨r,gm,gx,d,p,l,t,fx,side,hs,lead,ys,m,es1,prL fx t side hs lead ys m,rfl,R1,G1,hp1,Pl,Pr,pl,(fun z=>by unfold prL My.moveL;rw[Zu z];rfl),fun H2 s2=>?_⟩;have ev:Qo (side.testBit ((lead+ys.length) % fx.n)) ((prL fx t side hs lead ys m).map (·.2))=valP fx t side hs lead ys:=by
   unfold prL;rw[Z7];by_cases m0:m=0
   ·have em:moveL fx t hs lead ys m=[]:=by unfold My.moveL;rw[Zu m0]
    rw[em,Vy (t0.mpr m0)];rfl
   ·have em:moveL fx t hs lead ys m=Ur fx t ys (hs.getD ((lead+ys.length) % fx.n) 0):=by unfold My.moveL;rw[Zk m0]
    rw[em,N4 ok Pl (fun z=>m0 (t0.mp z))];rfl
  rw[ev];have R2:=R1.same s2;obtain⟨dx2,fs2,hr2,A2⟩:=id R2.o;have hp2:=hp1.same s2;have n1:Aw es1 (X5 hs lead ys)=none:=by
   obtain⟨new,rfl,hnew⟩:=E1;refine Zk4 c fun e he z=>?_;have:=hnew e he;rw[z,Zdf] at this;omega
  have sl:es1.length < sizeLine:=by rw[sizeLine_eq];omega
  refine⟨_,rfl,r,CR,dx2,_,_,rfl,hr2,C.cl,C.n3,A2.l3,_,rfl,d,es1,X5 hs lead ys,p,_,rfl,rfl,R2.d,R2.ks,rfl,Xs hp2,n1,sl,?_⟩;refine nxE ?_;generalize eG:upd H2 d (E4 _ _ d (es1++[(X5 hs lead ys,p,((valP fx t side hs lead ys:Nat):Int))]))=H3;have eH:H3=upd H2 d (E4 P w d (es1++[(X5 hs lead ys,p,((valP fx t side hs lead ys:Nat):Int))])):=eG.symm;have hd3:H3 d=some (E4 P w d (es1++[(X5 hs lead ys,p,((valP fx t side hs lead ys:Nat):Int))])):=by rw[eH];exact Zo
  have k3:KpD d H2 H3:=fun b o n h=>by rw[eH,Jh n];exact h
  have R3:Rk P w CR S fx t side H3 r gm d (es1++[(X5 hs lead ys,p,((valP fx t side hs lead ys:Nat):Int))]):=by
   refine⟨⟨dx2,fs2,k3 _ _ (R2.nd hr2 (fun _ z=>nomatch z)) hr2,A2⟩,hd3,fun e he=>?_,fun e he=>?_,Zi2 R2.ok.2 n1⟩
   ·rcases Jm.mp he with z | z
    ·exact(R2.ks e z).mono fun b ys q=>k3 _ _ (R2.nd q (fun _ z=>nomatch z)) q
    ·rw[Jb.mp z]
     exact(Xs hp2).mono fun b ys q=>k3 _ _ (R2.nd q (fun _ z=>nomatch z)) q
   ·rcases Jm.mp he with z | z
    ·exact R2.ok.1 e z
    ·rw[Jb.mp z]
     exact⟨hs,lead,ys,rfl,rfl,hs_⟩
  obtain⟨dx3,fs3,hr3,A3⟩:=id R3.o;have hp3:=KpD.pl k3 R2 hp2;refine⟨_,rfl,r,CR,dx3,_,_,rfl,hr3,C.cl,C.n3,A3.l3,_,rfl,d,_,X5 hs lead ys,p,_,rfl,R3.d,R3.ks,rfl,Xs hp3,Zk3 n1,?_⟩;refine q _ H3 ((k1.trans s2.d).trans k3) R3 ?_ ?_
  ·rw[Z3,List.length_singleton]
   omega
  ·exact(E1.mono (by omega)).trans ⟨[(X5 hs lead ys,p,((valP fx t side hs lead ys:Nat):Int))],rfl,fun e he=>by rw[Jb.mp he,Zdf];omega⟩
end
end My
namespace My
open PySem L2
abbrev Zha:Stmt:=top 66
abbrev Za3:Stmt:=top 67
abbrev Os:Stmt:=top 68
abbrev Zax:Stmt:=top 69
abbrev Ki:Stmt:=top 70
abbrev Znu:Stmt:=top 72
section
variable{P:Program}{w:World}{K:W.Frag}{mg:Str→Option Value}{base:Heap}{f g:Addr}{fd gd:FuncData}
def E7(K:W.Frag):Sp:=fun vs H Q _=>∃(a:Addr) (ns:List Int) (k:Nat),vs=[.ref a,.int (k:Nat)]∧SqL K H a (ns.map V.int)∧k≤1000∧∀ z:Int,Q (.int z) H
abbrev Nq:List Str:=["_law_script","_law_k"]
theorem scCell:FnScope ["_law_script","_law_k","_law_number"] Nq (Zq Zha):=Uy (by decide +kernel)
theorem Zlp{k:Nat}(F:Fun K "_law_cell" "_law_cell" Zha f fd)(ml:mg "len" = none):FnOk P w K mg base Yr (k+1) f fd Nq (E7 K):=by
 refine F.ok scCell (fun vs H Q E h=>?_) (fun cdv A outer s H vs Q E hr h=>?_)
 ·obtain⟨a,ns,k,rfl,_⟩:=h
  rfl
 obtain⟨a,ns,j,rfl,hS,h1,q⟩:=h;refine⟨_,Zh (J5 (Ji M0 (pv 1) (Jr Jy rfl ml Jq (Za (pv 0) Zg)) (Jg _)) (Zm (Z9 (Jw Uk (pv 0) (pv 1) (fun _ _=>rfl)))) Jl)
  (Zh (Jf (i:=2) scCell.nd rfl (Or.inl rfl) (Jd Y1 (Jd Xm (pv 1) Zn) Zn))
  (Zh (J5 (Ji Ek (Jr Jy rfl ml Jq (Za (pv 0) Zg)) Zn (Jg _))
   (Zm (Jf (i:=2) scCell.nd rfl (Or.inl rfl) (Jd Yv (Jd Y1 (Jd Xm (Jw Uk (pv 0) (Jd Yv (Jd Xm (pv 1) Zn) (Jr Jy rfl ml Jq (Za (pv 0) Zg))) (fun _ _=>rfl)) Zn) (Jd Xm (pv 1) Zn)) Zn))) Jl)
  (Zm (Z9 (Jd Yv (Jd Xm (pv 2) (pv 2)) Zn))))),?_⟩
 have hl:(ns.map V.int).length=ns.length:=Zj _;refine⟨_,rfl,_,rfl,a,_,rfl,.inl hS,_,_,rfl,rfl,_,rfl,Si (fun c=>?_) (fun c=>?_)⟩
 ·have c':((j:Nat):Int) < (((ns.map V.int).length:Nat):Int):=Ju c
  have hj:j < ns.length:=by rw[hl] at c';omega
  exact⟨_,rfl,_,rfl,a,_,_,_,rfl,rfl,hS,Xv (by rw[Z4,Zf hj];rfl),q _⟩
 refine⟨_,rfl,_,_,rfl,rfl,.inr ⟨by decide,by decide⟩,_,_,rfl,rfl,?_⟩;refine⟨_,rfl,a,_,rfl,.inl hS,_,_,rfl,rfl,_,rfl,?_⟩;refine Zpd (fun σ H'=>H'=H∧∃ z:Int,0≤z∧z < 4294967296∧σ=[some (.ref a),some (.int (j:Nat)),some (.int z)]) (fun c D' _ nx=>?_) (fun c D' _ nx=>?_) (fun σ H' z=>?_)
 ·have c':(((ns.map V.int).length:Nat):Int) > 0:=Ju c
  rw[hl] at c';obtain⟨v,hv⟩:=Zl0 (ns:=ns) (k:=(j:Int) * 7) (by omega);refine⟨_,rfl,_,rfl,_,_,rfl,rfl,.inr ⟨by decide,by decide⟩,_,rfl,a,_,rfl,.inl hS,_,_,rfl,rfl,(by rw[hl];omega),a,_,_,_,rfl,rfl,hS,hv,_,_,rfl,rfl,.inr ⟨by decide,by decide⟩,_,rfl,_,_,rfl,rfl,.inr ⟨by decide,by decide⟩,_,_,rfl,rfl,_,_,rfl,rfl,(show(0:Int) < 2147483647 by decide),?_⟩;refine nx _ _ ⟨rfl,_,Yn _ (by decide),?_,rfl⟩;have:=Yh (v * 48271+(j:Int) * 7919) (show(0:Int) < 2147483647 by decide);omega
 ·exact nx _ _ ⟨rfl,(j:Int) * 7919+5,by omega,by omega,rfl⟩
 ·obtain⟨rfl,z,z0,z1,rfl⟩:=z
  exact⟨_,rfl,_,rfl,_,_,rfl,rfl,.inl ⟨by omega,by omega⟩,_,_,rfl,rfl,(show(0:Int) < 2147483629 by decide),q _⟩
def B5:Sp:=fun vs H Q _=>∃(c:Int) (k:Nat),vs=[.int c,.int (k:Nat)]∧k≤1000∧∀ z:Int,0≤z→Q (.int z) H
theorem scMixed:FnScope ["_law_cell_here","_law_k","_law_number"] ["_law_cell_here","_law_k"] (Zq Za3):=Uy (by decide +kernel)
theorem Zin{k:Nat}(F:Fun K "_law_mixed" "_law_mixed" Za3 f fd):FnOk P w K mg base Yr (k+1) f fd ["_law_cell_here","_law_k"] B5:=by
 refine F.ok scMixed (fun vs H Q E h=>?_) (fun cdv A outer s H vs Q E hr h=>?_)
 ·obtain⟨c,k,rfl,_⟩:=h
  rfl
 obtain⟨c,j,rfl,h1,q⟩:=h;refine⟨_,Zh (Jf (i:=2) scMixed.nd rfl (Or.inl rfl) (Jd Yv (Jd Xm (Jd Y1 (Jd Yv (pv 0) Zn) Zn) (Jd Y1 (Jd Xm (pv 1) (pv 1)) Zn)) Zn))
  (Zm (Z9 (Jd Yv (Jd Xm (pv 2) (Jd Y1 (pv 2) (pv 1))) Zn))),?_⟩
 have a0:=Yn c (show(2147483647:Int)≠0 by decide);have a1:=Yh c (show(0:Int) < 2147483647 by decide);refine⟨_,rfl,_,_,rfl,rfl,(show(0:Int) < 2147483647 by decide),_,_,rfl,rfl,_,rfl,_,rfl,_,_,rfl,rfl,.inl ⟨by omega,by omega⟩,_,_,rfl,rfl,_,_,rfl,rfl,.inl ⟨by omega,by omega⟩,_,_,rfl,rfl,(show(0:Int) < 2147483629 by decide),?_⟩;have b0:=Yn ((c % 2147483647+1) * ((j:Int) * (j:Int)+48271)) (show(2147483629:Int)≠0 by decide);have b1:=Yh ((c % 2147483647+1) * ((j:Int) * (j:Int)+48271)) (show(0:Int) < 2147483629 by decide);exact⟨_,rfl,_,rfl,_,rfl,_,_,rfl,rfl,_,_,rfl,rfl,.inl ⟨by omega,by omega⟩,_,_,rfl,rfl,(show(0:Int) < 2147483587 by decide),q _ (Yn _ (by decide))⟩
def D9(K:W.Frag):Sp:=fun vs H Q _=>∃(c:Int) (h:Nat),vs=[.int c,.int (h:Nat)]∧1≤h∧h≤8∧∀ l ls H',Same H H'→H l=none→H' l=some (.lst (vN ls))→ls.Perm (List.range h)→Q (.ref l) H'
abbrev Zi9:List Str:=["_law_cell_here","_law_heights","_law_spare","_law_order_here","_law_k"]
theorem scOrder:FnScope Zi9 ["_law_cell_here","_law_heights"] (Zq Os):=Uy (by decide +kernel)
theorem Dd{α β:Type}(f:α→β):∀(l:List α) (i:Nat),(l.map f).eraseIdx i=(l.eraseIdx i).map f
 | [],i=>rfl
 | x :: l,0=>rfl
 | x :: l,i+1=>by
  show f x :: (l.map f).eraseIdx i=f x :: (l.eraseIdx i).map f;rw[Dd f l i]
theorem Zhf(h:Nat):((List.range h).filter fun _=>true).map (fun i=>V.int ((0:Int)+(i:Nat)))=vN (List.range h):=by
 rw[List.filter_eq_self.mpr (fun _ _=>rfl)];unfold vN;refine Jv fun i _=>?_;rw[Q2]
theorem Zik{k:Nat}(F:Fun K "_law_order" "_law_order" Os f fd)(mr:mg "range" = none):FnOk P w K mg base Yr (k+1) f fd ["_law_cell_here","_law_heights"] (D9 K):=by
 refine F.ok scOrder (fun vs H Q E h=>?_) (fun cdv A outer s H vs Q E hr h=>?_)
 ·obtain⟨c,h,rfl,_⟩:=h
  rfl
 obtain⟨c,h,rfl,h1,h8,q⟩:=h;refine⟨_,Zh (Tg (i:=2) ["_law_height"] [none] rfl scOrder.nd rfl (Or.inl rfl) (Blk.by (sc:=Zq Os) (N0:=Zi9) rfl rfl (by decide +kernel)) (U7 rfl mr (Za (pv 1) Zg)) (fun C s₀ H₀ ex=>Jj (i:=0) (show(["_law_height"]:List Str).Nodup by decide +kernel) rfl (Or.inl rfl)) (fun C s₀ H₀ ex=>U5) (fun C s₀ H₀ ex=>pv 0))
  (Zh (Jf (i:=3) scOrder.nd rfl (Or.inl rfl) (Xl Zg))
  (Zh (Uv PassesOwn.never rfl (U7 rfl mr (Za (pv 1) Zg)) (Jj (i:=4) scOrder.nd rfl (Or.inl rfl))
   (Zh (X8 (Ej Yd Ux Uw Et (pv 3) (Za (Ej Yd PySem.F.slot_list_pop PySem.F.type_list_pop Zjc (pv 2) (Za (Jd Yv (pv 0) (Jd Nr (pv 1) (pv 4))) Zg)) Zg)))
   (Zm (Jf (i:=0) scOrder.nd rfl (Or.inl rfl) (Jd Ua (pv 0) (Jd Nr (pv 1) (pv 4)))))))
  (Zm (Z9 (pv 3))))),?_⟩
 refine⟨_,rfl,(h:Int),rfl,by omega,by omega,?_⟩;refine Bu (n:=h) (lo:=0) (fun _=>true) (fun i=>.int ((0:Int)+(i:Nat))) (J2 _ (by omega)) (fun i H2 hi sm R hR=>hR H2 (Same.refl H2)) (fun i H2 hi hp sm R hR=>⟨_,rfl,hR H2 (Same.refl H2)⟩) (fun l1 H1 s1 hl1 hL1=>?_);rw[Zhf] at hL1;refine⟨J2 0 (by decide),fun l2 hl2=>?_⟩;have n12:l1≠l2:=J4 hL1 hl2;refine⟨_,rfl,(h:Int),rfl,by omega,by omega,?_⟩;refine Qh (n:=h) (fun i σ H'=>Same H H'∧∃(c:Int) (sp od:List Nat) (x4:Option V),σ=[some (.int c),some (.int (h:Nat)),some (.ref l1),some (.ref l2),x4]∧H' l1=some (.lst (vN sp))∧H' l2=some (.lst (vN od))∧(od++sp).Perm (List.range h)∧sp.length+i=h∧od.length=i)
  ⟨s1.trans (Z5 hl2 _),c,List.range h,[],_,rfl,Z5 hl2 _ _ _ hL1,Zo,List.Perm.refl _,J7,rfl⟩ (fun i σ H2 hi z=>?_) (fun σ H2 z=>?_)
 ·obtain⟨s2,c,sp,od,x4,rfl,g1,g2,pm,hsp,hod⟩:=z
  have hd:(0:Int) < ((h:Nat):Int) - (0+(i:Nat)):=by omega
  have m0:=Yn c (show((h:Nat):Int) - (0+(i:Nat))≠0 by omega);have m1:=Yh c hd;obtain⟨j,hj⟩:=Int.eq_ofNat_of_zero_le m0;have hj2:j < sp.length:=by omega
  have ex:(vN sp)[j]? = some (.int ((sp[j]:Nat):Int)):=by
   unfold vN;rw[Z4,Zf hj2];rfl
  refine⟨_,rfl,.inl ⟨rfl,_,SqL.of g2⟩,_,rfl,.inl ⟨rfl,_,SqL.of g1⟩,_,rfl,_,rfl,_,rfl,_,_,rfl,rfl,_,_,rfl,rfl,hd,l1,vN sp,_,j,_,rfl,rfl,g1,by omega,by omega,(by rw[hj,J1,seqIndex_of (by omega) (by omega)];rfl),ex,?_⟩;refine⟨l2,vN od,_,rfl,rfl,(by rw[Jh n12.symm];exact g2),(by rw[J1];have:=J2 100 (by decide);omega),?_⟩;refine⟨_,rfl,_,rfl,_,rfl,_,_,rfl,rfl,_,_,rfl,rfl,⟨hd,by omega⟩,?_⟩;have e1:(vN sp).eraseIdx j=vN (sp.eraseIdx j):=by exact Dd _ _ _
  have e2:vN od++[.int ((sp[j]:Nat):Int)]=vN (od++[sp[j]]):=by unfold vN;rw[Jp];rfl
  refine⟨?_,_,sp.eraseIdx j,od++[sp[j]],_,rfl,?_,?_,?_,?_,?_⟩
  ·intro b o hb
   have hb1:b≠l1:=fun z=>by rw[z,hl1] at hb;cases hb
   have hb2:b≠l2:=fun z=>by rw[z,s1.free hl2] at hb;cases hb
   rw[Jh hb2,Jh hb1];exact s2 _ _ hb
  ·rw[Jh n12,Zo,e1]
  ·rw[Zo,e2]
  ·rw[Y5]
   exact((Tk sp j sp[j] (Zf hj2)).append_left od).symm.trans pm
  ·rw[List.length_eraseIdx,Zu hj2]
   omega
  ·rw[Z3]
   simp [hod]
 ·obtain⟨s2,c,sp,od,x4,rfl,g1,g2,pm,hsp,hod⟩:=z
  have e:sp=[]:=List.eq_nil_of_length_eq_zero (by omega);subst e;rw[J8] at pm;exact⟨_,rfl,q l2 od H2 s2 (s1.free hl2) g2 pm⟩
def Zq8(f:Fx)(H:Hp)(l:Addr):Prop:=∃ pl tr,H l=some (.lst [.int (f.s:Nat),.int (f.h:Nat),.int (f.n:Nat),.str (wd f.d),.ref pl,.ref tr])∧H pl=some (.lst (vN f.pl))∧H tr=some (.lst (vN f.tr))
def D3(K:W.Frag):Sp:=fun vs H Q _=>∃(a:Addr) (ns:List Int),vs=[.ref a]∧SqL K H a (ns.map V.int)∧∀ l f H',f.Ok→Same H H'→H l=none→Zq8 f H' l→Q (.ref l) H'
abbrev Zot:List Str:=["_law_script","_law_cell_here","_law_heights","_law_plain","_law_trump","_law_word"]
theorem scTable:FnScope Zot ["_law_script"] (Zq Zax):=Uy (by decide +kernel)
theorem Zic{k:Nat}{f1 f2 f3:Addr}{d1 d2 d3:FuncData}(F:Fun K "_law_table" "_law_table" Zax f fd)(LC:Lib P w K mg base k "_law_cell" Nq (E7 K) f1 d1)(LX:Lib P w K mg base k "_law_mixed" ["_law_cell_here","_law_k"] B5 f2 d2)
  (LO:Lib P w K mg base k "_law_order" ["_law_cell_here","_law_heights"] (D9 K) f3 d3):FnOk P w K mg base Yr (k+1) f fd ["_law_script"] (D3 K):=by
 refine F.ok scTable (fun vs H Q E h=>?_) (fun cdv A outer s H vs Q E hr h=>?_)
 ·obtain⟨a,ns,rfl,_⟩:=h
  rfl
 obtain⟨a,ns,rfl,hS,q⟩:=h;refine⟨_,Zh (Jf (i:=1) scTable.nd rfl (Or.inl rfl) (Z1 LC.ok hr rfl LC.mg LC.kp LC.bd .nil Ja (Za (pv 0) (Za Zn Zg))))
  (Zh (Jf (i:=2) scTable.nd rfl (Or.inl rfl) (Jd Y1 Zn (Jd Yv (Jd Ua (pv 1) Zn) Zn)))
  (Zh (Jf (i:=3) scTable.nd rfl (Or.inl rfl) (Z1 LO.ok hr rfl LO.mg LO.kp LO.bd .nil Ja (Za (Z1 LX.ok hr rfl LX.mg LX.kp LX.bd .nil Ja (Za (pv 1) (Za Zn Zg))) (Za (pv 2) Zg))))
  (Zh (Jf (i:=4) scTable.nd rfl (Or.inl rfl) (Z1 LO.ok hr rfl LO.mg LO.kp LO.bd .nil Ja (Za (Z1 LX.ok hr rfl LX.mg LX.kp LX.bd .nil Ja (Za (pv 1) (Za Zn Zg))) (Za (pv 2) Zg))))
  (Zh (Jf (i:=5) scTable.nd rfl (Or.inl rfl) (Jw Uk (Xl (Za Ub (Za Ub (Za Ub (Za Ub Zg))))) (Jd Yv (Jd Ua (pv 1) Zn) Zn) (fun _ _=>rfl)))
  (Zm (Z9 (Xl (Za (Jd Y1 Zn (Jd Yv (pv 1) Zn)) (Za (pv 2) (Za (Jd Y1 Zn (Jd Yv (Jd Ua (pv 1) Zn) Zn)) (Za (pv 5) (Za (pv 3) (Za (pv 4) Zg))))))))))))),?_⟩
 refine⟨_,rfl,a,ns,0,rfl,hS,by decide,fun c=>?_⟩;refine⟨_,rfl,_,_,rfl,rfl,⟨by decide,by decide⟩,_,_,rfl,rfl,(show(0:Int) < 8 by decide),_,_,rfl,rfl,?_⟩;have a0:=Yn (c / 8) (show(8:Int)≠0 by decide);have a1:=Yh (c / 8) (show(0:Int) < 8 by decide);obtain⟨h,eh,h1,h8⟩:∃ h:Nat,1+c / 8 % 8=((h:Nat):Int)∧1≤h∧h≤8:=⟨(1+c / 8 % 8).toNat,by omega,by omega,by omega⟩;dsimp only;rw[eh];refine⟨_,rfl,c,1,rfl,by decide,fun z hz=>⟨_,rfl,z,h,rfl,h1,h8,fun lp ls H2 s2 hlp hP pp=>?_⟩⟩;refine⟨_,rfl,c,2,rfl,by decide,fun z hz=>⟨_,rfl,z,h,rfl,h1,h8,fun lt lts H3 s3 hlt hT pt=>?_⟩⟩;refine⟨J2 4 (by decide),fun lw hlw=>?_⟩;have s4:=Z5 hlw (.lst (vS wds));obtain⟨v,hv,ev⟩:=Ko (vS wds) 4 rfl (by decide) (c / 256);obtain⟨t,ht,rfl⟩:=Zv.mp hv;obtain⟨d,rfl⟩:=Zf5 ht;refine⟨_,rfl,_,_,rfl,rfl,⟨by decide,by decide⟩,_,_,rfl,rfl,(show(0:Int) < 4 by decide),lw,_,_,_,rfl,rfl,SqL.of Zo,ev,?_⟩;refine⟨_,rfl,_,_,rfl,rfl,(show(0:Int) < 4 by decide),_,_,rfl,rfl,_,rfl,_,rfl,_,_,rfl,rfl,⟨by decide,by decide⟩,_,_,rfl,rfl,(show(0:Int) < 2 by decide),_,_,rfl,rfl,_,rfl,_,rfl,_,rfl,J2 6 (by decide),fun l hl=>?_⟩;have b0:=Yn c (show(4:Int)≠0 by decide);have b1:=Yh c (show(0:Int) < 4 by decide);have d0:=Yn (c / 4) (show(2:Int)≠0 by decide);have d1:=Yh (c / 4) (show(0:Int) < 2 by decide);obtain⟨sN,es,s1',s4'⟩:∃ n:Nat,1+c % 4=((n:Nat):Int)∧1≤n∧n≤4:=⟨(1+c % 4).toNat,by omega,by omega,by omega⟩;obtain⟨nN,en,n34⟩:∃ n:Nat,3+c / 4 % 2=((n:Nat):Int)∧(n=3∨n=4):=⟨(3+c / 4 % 2).toNat,by omega,by omega⟩;have sA:=s2.trans (s3.trans s4);have s5:=Z5 hl (.lst [.int (1+c % 4),.int (h:Nat),.int (3+c / 4 % 2),.str (wd d),.ref lp,.ref lt]);refine q l ⟨sN,h,nN,d,ls,lts⟩ _ ⟨s1',s4',h1,h8,n34,pp,pt⟩ (sA.trans s5) (sA.free hl) ⟨lp,lt,?_,s5 _ _ (s4 _ _ (s3 _ _ hP)),s5 _ _ (s4 _ _ hT)⟩;show(upd _ l (.lst [.int (1+c % 4),.int (h:Nat),.int (3+c / 4 % 2),.str (wd d),.ref lp,.ref lt])) l=_;rw[Zo,es,en]
def Zai(K:W.Frag):Sp:=fun vs H Q _=>∃(l:Addr) (f:Fx),vs=[.ref l]∧f.Ok∧Zq8 f H l∧∀ H',Same H H'→Q (.str (Go f)) H'
abbrev Zi6:List Str:=["_law_facts","_law_suits","_law_heights","_law_seats","_law_word","_law_plain","_law_trump","_law_line"]
theorem scText:FnScope Zi6 ["_law_facts"] (Zq Ki):=Uy (by decide +kernel)
theorem Zla{k:Nat}(F:Fun K "_law_text" "_law_text" Ki f fd)(ms:mg "str" = none):FnOk P w K mg base Yr (k+1) f fd ["_law_facts"] (Zai K):=by
 refine F.ok scText (fun vs H Q E h=>?_) (fun cdv A outer s H vs Q E hr h=>?_)
 ·obtain⟨l,f,rfl,_⟩:=h
  rfl
 obtain⟨l,fx,rfl,ok,⟨pl,tr,hL,hP,hT⟩,q⟩:=h;refine⟨_,Zh (Br (pv 0) (Zn4 rfl (J6 (Jj (i:=1) scText.nd rfl (Or.inl rfl)) (J6 (Jj (i:=2) scText.nd rfl (Or.inl rfl)) (J6 (Jj (i:=3) scText.nd rfl (Or.inl rfl)) (J6 (Jj (i:=4) scText.nd rfl (Or.inl rfl)) (J6 (Jj (i:=5) scText.nd rfl (Or.inl rfl)) (J6 (Jj (i:=6) scText.nd rfl (Or.inl rfl)) Xt))))))))
  (Zh (Jf (i:=7) scText.nd rfl (Or.inl rfl) (Jd Ui (Jd Ui (Jd Ui (Jd Ui (Jd Ui Ub (Yy Qc rfl ms PyProof.Rows.boot_str (Za (pv 1) Zg))) Ub) (Yy Qc rfl ms PyProof.Rows.boot_str (Za (pv 2) Zg))) Ub) (Yy Qc rfl ms PyProof.Rows.boot_str (Za (pv 3) Zg))))
  (Zh (Jf (i:=7) scText.nd rfl (Or.inl rfl) (Jd Ui (Jd Ui (Jd Ui (Jd Ui (pv 7) Ub) (pv 4)) Ub) (Ej PySem.F.plainAttrs_str PySem.F.slot_str_join PySem.F.type_str_join Zdc Ub (Za (Ud ["_law_height"] [none] rfl (Blk.by (sc:=Zq Ki) (N0:=Zi6) rfl rfl (by decide +kernel)) (Y6 (pv 5)) (fun C s₀ H₀ ex=>Jj (i:=0) (show(["_law_height"]:List Str).Nodup by decide +kernel) rfl (Or.inl rfl)) (fun C s₀ H₀ ex=>U5)
    (fun C s₀ H₀ ex=>Yy Qc rfl ms PyProof.Rows.boot_str (Za (Jd Y1 (pv 0) Zn) Zg))) Zg))))
  (Zm (Z9 (Jd Ui (Jd Ui (pv 7) Ub) (Ej PySem.F.plainAttrs_str PySem.F.slot_str_join PySem.F.type_str_join Zdc Ub (Za (Ud ["_law_height"] [none] rfl (Blk.by (sc:=Zq Ki) (N0:=Zi6) rfl rfl (by decide +kernel)) (Y6 (pv 6)) (fun C s₀ H₀ ex=>Jj (i:=0) (show(["_law_height"]:List Str).Nodup by decide +kernel) rfl (Or.inl rfl)) (fun C s₀ H₀ ex=>U5)
    (fun C s₀ H₀ ex=>Yy Qc rfl ms PyProof.Rows.boot_str (Za (Jd Y1 (pv 0) Zn) Zg))) Zg))))))),?_⟩
 refine⟨_,rfl,l,_,rfl,SqL.of hL,rfl,_,_,rfl,_,_,rfl,_,_,rfl,_,_,rfl,_,_,rfl,_,_,rfl,rfl,?_⟩;have sm:∀ i:Nat,i≤8→(((i:Nat):Int).natAbs).log2 < 1920:=fun i hi=>by
  have:((i:Nat):Int).natAbs=i:=rfl;rw[this];exact Jx (Nat.log2_le_self i) (by omega)
 have s4:=ok.s4;have h8:=ok.h8;have n4:fx.n≤8:=by rcases ok.n34 with e | e<;>omega
 have one:∀ x:Nat,(⟨#[x]⟩:Str).length≤1:=fun _=>Zs 1;have w1:("pack ":Str).length≤5:=by decide +kernel
 have w2:("x":Str).length≤1:=by decide +kernel
 have w3:(" seats ":Str).length≤7:=by decide +kernel
 have w4:(" duty ":Str).length≤6:=by decide +kernel
 have w5:(" plain ":Str).length≤7:=by decide +kernel
 have w6:(" trump ":Str).length≤7:=by decide +kernel
 have wl:=(Zf6 fx.d).2;refine⟨_,rfl,_,rfl,sm _ (by omega),?_⟩;rw[Bz _ (by omega)];refine⟨_,_,rfl,rfl,Eb w1 (one _) (by decide),_,_,rfl,rfl,Eb (Ue w1 (one _)) w2 (by decide),_,rfl,_,rfl,sm _ h8,?_⟩;rw[Bz _ h8];refine⟨_,_,rfl,rfl,Eb (Ue (Ue w1 (one _)) w2) (one _) (by decide),_,_,rfl,rfl,Eb (Ue (Ue (Ue w1 (one _)) w2) (one _)) w3 (by decide),_,rfl,_,rfl,sm _ n4,?_⟩;rw[Bz _ n4];refine⟨_,_,rfl,rfl,Eb (Ue (Ue (Ue (Ue w1 (one _)) w2) (one _)) w3) (one _) (by decide),?_⟩;have L1:=Ue (Ue (Ue (Ue (Ue w1 (one (48+fx.s))) w2) (one (48+fx.h))) w3) (one (48+fx.n));refine⟨_,rfl,_,_,rfl,rfl,Eb L1 w4 (by decide),_,rfl,_,_,rfl,rfl,Eb (Ue L1 w4) wl (by decide),_,_,rfl,rfl,Eb (Ue (Ue L1 w4) wl) w5 (by decide),?_⟩;have L2:=Ue (Ue (Ue L1 w4) wl) w5;have num:∀(ls:List Nat) (x:V),ls.Perm (List.range fx.h)→x∈vN ls→∃ i:Nat,i+1≤8∧x = .int (i:Nat):=fun ls x pm hx=>by
  obtain⟨i,hi,rfl⟩:=Zv.mp hx;have:=Zc4 pm i hi;exact⟨i,by omega,rfl⟩
 refine⟨rfl,_,rfl,pl,rfl,⟨_,SqL.of hP⟩,Qj (K:=K) (xs:=vN fx.pl) (fun _=>true) sgV (SqL.of hP) (by rw[J1,Uo ok.pp];exact J2 _ (by omega)) (fun x H3 hx s3 R hR=>hR H3 (Same.refl H3)) (fun x H3 hx hp s3 R hR=>?_) (fun l1 H1 s1 hl1 hL1=>?_)⟩
 ·obtain⟨i,hi,rfl⟩:=num _ x ok.pp hx
  refine⟨_,rfl,_,_,rfl,rfl,_,rfl,sm (i+1) hi,?_⟩;show R (.str (toString (((i+1:Nat):Nat):Int))) H3;rw[Bz _ hi];have:=hR H3 (Same.refl H3)
  rwa [Oi] at this
 rw[Kf] at hL1;have j1:=Sh fx.pl;have jl:(Txt.join "" (fx.pl.map Ef)).length≤8:=by rw[j1,Ec,Uo ok.pp];exact h8
 refine⟨_,l1,fx.pl.map Ef,rfl,rfl,SqL.of hL1,Zcu ok.pp h8,_,_,rfl,rfl,Eb L2 jl (by decide),?_⟩;refine⟨_,rfl,_,_,rfl,rfl,Eb (Ue L2 jl) w6 (by decide),?_⟩;have L3:=Ue (Ue L2 jl) w6;have hT1:=s1 _ _ hT;refine⟨rfl,_,rfl,tr,rfl,⟨_,SqL.of hT1⟩,Qj (K:=K) (xs:=vN fx.tr) (fun _=>true) sgV (SqL.of hT1) (by rw[J1,Uo ok.pt];exact J2 _ (by omega)) (fun x H3 hx s3 R hR=>hR H3 (Same.refl H3)) (fun x H3 hx hp s3 R hR=>?_) (fun l2 H2 s2 hl2 hL2=>?_)⟩
 ·obtain⟨i,hi,rfl⟩:=num _ x ok.pt hx
  refine⟨_,rfl,_,_,rfl,rfl,_,rfl,sm (i+1) hi,?_⟩;show R (.str (toString (((i+1:Nat):Nat):Int))) H3;rw[Bz _ hi];have:=hR H3 (Same.refl H3)
  rwa [Oi] at this
 rw[Kf] at hL2;have j2:=Sh fx.tr;have jl2:(Txt.join "" (fx.tr.map Ef)).length≤8:=by rw[j2,Ec,Uo ok.pt];exact h8
 refine⟨_,l2,fx.tr.map Ef,rfl,rfl,SqL.of hL2,Zcu ok.pt h8,_,_,rfl,rfl,Eb L3 jl2 (by decide),?_⟩;have et:(("pack ":Str)++⟨#[48+fx.s]⟩ ++ "x" ++ ⟨#[48+fx.h]⟩ ++ " seats " ++ ⟨#[48+fx.n]⟩ ++ " duty " ++ wd fx.d ++ " plain " ++ Txt.join "" (fx.pl.map Ef) ++ " trump " ++ Txt.join "" (fx.tr.map Ef))=Go fx:=by
  rw[j1,j2];exact Zkg fx
 rw[et];exact q _ (s1.trans s2)
def Ke:Sp:=fun vs H Q _=>∃ c:Nat,vs=[.int (c:Nat)]∧c≤1000∧Q (.int ((2 ^ c:Nat):Int)) H
theorem scBit:FnScope ["_law_card","_law_bit_here","_law_time"] ["_law_card"] (Zq Znu):=Uy (by decide +kernel)
theorem Zop{k:Nat}(F:Fun K "_law_bit" "_law_bit" Znu f fd)(mr:mg "range" = none):FnOk P w K mg base Yr (k+1) f fd ["_law_card"] Ke:=by
 refine F.ok scBit (fun vs H Q E h=>?_) (fun cdv A outer s H vs Q E hr h=>?_)
 ·obtain⟨c,rfl,_⟩:=h
  rfl
 obtain⟨c,rfl,hc,q⟩:=h;refine⟨_,Zh (Jf (i:=1) scBit.nd rfl (Or.inl rfl) Zn)
  (Zh (Uv PassesOwn.never rfl (U7 rfl mr (Za (pv 0) Zg)) (Jj (i:=2) scBit.nd rfl (Or.inl rfl)) (Zm (Jf (i:=1) scBit.nd rfl (Or.inl rfl) (Jd Xm (pv 1) Zn))))
  (Zm (Z9 (pv 1)))),?_⟩
 refine⟨_,rfl,((c:Nat):Int),rfl,by omega,by omega,?_⟩;refine Qh (n:=c) (fun i σ H'=>H'=H∧∃ x2,σ=[some (.int (c:Nat)),some (.int ((2 ^ i:Nat):Int)),x2]) ⟨rfl,none,rfl⟩ (fun i σ H1 hi z=>?_) (fun σ H1 z=>?_)
 ·obtain⟨rfl,x2,rfl⟩:=z
  refine⟨_,rfl,_,_,rfl,rfl,.inr ⟨by decide,by decide⟩,rfl,some (.int (0+(i:Nat))),?_⟩;show [_,some (V.int (((2 ^ i:Nat):Int) * 2)),_]=_;rw[show((2 ^ i:Nat):Int) * 2=((2 ^ (i+1):Nat):Int) by rw[Nat.pow_succ,Int.natCast_mul];rfl]
 ·obtain⟨rfl,x2,rfl⟩:=z
  exact⟨_,rfl,q⟩
end
theorem Zj4(ls:List Nat)(sz:Nat):∀ n,((List.range n).map fun j=>(ls.drop (sz * j)).take sz).flatten=ls.take (sz * n)
 | 0=>by simp
 | n+1=>by
  rw[List.range_succ,Jp,List.flatten_append,Zj4 ls sz n,Nat.mul_succ,List.take_add];simp
theorem Dc:∀(css:List (List Nat)) (F:Nat→List Nat),(∀(j:Nat) (cs:List Nat),css[j]? = some cs→cs.Perm (F j))→css.flatten.Perm ((List.range css.length).map F).flatten
 | [],_,_=>by simp
 | c :: r,F,h=>by
  rw[Jo,List.range_succ_eq_map,List.map_cons,List.flatten_cons,List.flatten_cons,Z7];exact(h 0 c rfl).append (Dc r (F ∘ Nat.succ) fun j cs e=>h (j+1) cs e)
structure DealOk(f:Fx)(sz:Nat)(css:List (List Nat)):Prop where
 len:css.length=f.n
 each:∀ cs∈css,cs.length=sz
 nd:css.flatten.Nodup
 pk:∀ c∈css.flatten,c / 8 < f.s∧c % 8 < f.h
 up:∀ cs∈css,cs.Pairwise (·≤·)
theorem Zc8:∀ s≤4,∀ h≤8,(Yz s h).Nodup:=by decide +kernel
theorem Np(s h:Nat):(Yz s h).length=s * h:=by
 unfold Yz
 induction s with
 | zero=>simp
 | succ s ih=>rw[List.range_succ,List.flatMap_append,Z3,ih];simp [Nat.succ_mul]
theorem Zc3:∀{a b:List Nat},a.Nodup→b.Nodup→(∀ x,x∈a↔x∈b)→a.length=b.length
 | [],b,_,_,h=>by
  cases b with
  | nil=>rfl
  | cons x r=>exact absurd ((h x).mpr Zy) Uh
 | x :: a,b,ha,hb,h=>by
  have hx:x∈b:=(h x).mp Zy;obtain⟨na,ha'⟩:=List.nodup_cons.mp ha;have e:=Zc3 (a:=a) (b:=b.erase x) ha' (hb.erase x) fun y=>by
   rw[hb.mem_erase_iff];constructor
   ·exact fun hy=>⟨fun z=>na (z ▸ hy),(h y).mp (Zz _ hy)⟩
   ·rintro⟨n,hy⟩
    exact(Je.mp ((h y).mpr hy)).resolve_left n
  rw[Jo,e,List.length_erase_of_mem hx];have:=List.length_pos_of_mem hx;omega
theorem Zmv{cs:List Nat}(nd:cs.Nodup)(h:∀ c∈cs,c < 32):Xg 32 (hN cs)=cs.length:=
 Zc3 (List.Pairwise.filter _ List.nodup_range) nd fun x=>T7 h x
theorem Mc(b:Nat):∀(css:List (List Nat)),(css.map hN).countP (fun h=>h.testBit b)≤css.flatten.count b
 | []=>Nat.zero_le _
 | c :: r=>by
  have ih:=Mc b r;rw[List.map_cons,List.countP_cons,List.flatten_cons,List.count_append,Ea];by_cases e:b∈c
  ·have:=List.count_pos_iff.mpr e
   rw[Zd e,Zu rfl];omega
  ·rw[Zc e,Zk Zr]
   omega
theorem DealOk.nd1{f:Fx}{sz:Nat}{css:List (List Nat)}(D:DealOk f sz css){cs:List Nat}(h:cs∈css):cs.Nodup:=(List.pairwise_flatten.mp D.nd).1 cs h
theorem DealOk.c32{f:Fx}{sz:Nat}{css:List (List Nat)}(ok:f.Ok)(D:DealOk f sz css){cs:List Nat}(h:cs∈css):∀ c∈cs,c < 32:=fun c hc=>by
 have:=D.pk c (List.mem_flatten.mpr ⟨cs,h,hc⟩);have:=ok.s4;have:=ok.h8;omega
theorem DealOk.plc{f:Fx}{sz:Nat}{css:List (List Nat)}(ok:f.Ok)(D:DealOk f sz css){lead:Nat}(hl:lead < f.n):Plc f (css.map hN) lead [] sz:=by
 have c1:∀ b,Q0 (css.map hN) [] b≤css.flatten.count b:=fun b=>by
  unfold Q0;rw[List.count_nil];exact Mc b css
 refine⟨by rw[Zj];exact D.len,hl,by show 0 < f.n;omega,fun b=>Jc (c1 b) (List.nodup_iff_count.mp D.nd b),fun b hb=>D.pk b (List.count_pos_iff.mp (Jk hb (c1 b))),fun i h e=>?_⟩;rw[Z4] at e;obtain⟨cs,e1,rfl⟩:=Js.mp e;have m:=Zl e1;show Xg 32 (hN cs)+(if Ax f.n lead i < 0 then 1 else 0)=sz;rw[Zmv (D.nd1 m) (D.c32 ok m),Zk (Nat.not_lt_zero _),D.each cs m,Nat.add_zero]
abbrev Zcv:Stmt:=top 73
abbrev Zg8:Stmt:=top 71
section
variable{P:Program}{w:World}{K:W.Frag}{mg:Str→Option Value}{base:Heap}{f g:Addr}{fd gd:FuncData}
theorem M5{H1 H':Hp}{x dx:Addr}{o:HO}(hx:H1 x=none)(hd:H1 dx=none)(n:dx≠x)(kp:Keep x (upd (upd H1 dx (.own x)) x o) H'):Same H1 H':=fun b u hb=>
 kp b u (J4 hb hx) (Uz hx hd n b u hb)
def prV(H:Hp)(u:Addr):Nat×Nat:=match H u with | some (.tup [.int i,.int j])=>(i.toNat,j.toNat) | _=>(0,0)
theorem Zhk{H:Hp}{u:Addr}{x c:Nat}(h:H u=some (.tup [.int ((x:Nat):Int),.int ((c:Nat):Int)])):prV H u=(x,c):=by
 unfold prV;rw[h];show((((x:Nat):Int).toNat),(((c:Nat):Int).toNat))=(x,c);rw[Z2,Z2]
def PrA(H:Hp)(as:List (Addr×Nat)):Prop:=∀ e∈as,∃ x:Nat,H e.1=some (.tup [.int ((x:Nat):Int),.int ((e.2:Nat):Int)])
def Zak(K:W.Frag)(CT CG:Addr):Sp:=fun vs H Q _=>∃(a gm x:Addr) (ns:List Int) (fx:Fx) (t:Option Nat),vs=[.ref a,.ref gm]∧SqL K H a (ns.map V.int)∧GamH CT CG fx t H gm x ∧
 ∀(l:Addr) (cs:List Nat) H',cs.Perm (Yz fx.s fx.h)→Same H H'→H l=none→H' l=some (.lst (vN cs))→Q (.ref l) H'
abbrev Zmy:List Str:=["_law_script","_law_game_here","_law_cell_here","_law_pairs","_law_suit","_law_height","_law_card"]
theorem scShuf:FnScope Zmy ["_law_script","_law_game_here"] (Zq Zcv):=Uy (by decide +kernel)
abbrev nShC:List Str:=["_law_number","_law_card"]
theorem Zld{k:Nat}{CT CG f1 f2:Addr}{d1 d2:FuncData}(F:Fun K "_law_shuffled" "_law_shuffled" Zcv f fd)(C:TabC K mg CT)(CGm:GamC K mg CG)(LC:Lib P w K mg base k "_law_cell" Nq (E7 K) f1 d1)(LX:Lib P w K mg base k "_law_mixed" ["_law_cell_here","_law_k"] B5 f2 d2)(mr:mg "range" = none)(mso:mg "sorted" = none) :
  FnOk P w K mg base Yr (k+1) f fd ["_law_script","_law_game_here"] (Zak K CT CG):=by
 refine F.ok scShuf (fun vs H Q E h=>?_) (fun cdv A outer s H vs Q E hr h=>?_)
 ·obtain⟨a,gm,x,ns,fx,t,rfl,_⟩:=h
  rfl
 obtain⟨a,gm,x,ns,fx,t,rfl,hS,G,q⟩:=h;refine⟨_,Zh (Jf (i:=2) scShuf.nd rfl (Or.inl rfl) (Z1 LC.ok hr rfl LC.mg LC.kp LC.bd .nil Ja (Za (pv 0) (Za Zn Zg))))
  (Zh (Jf (i:=3) scShuf.nd rfl (Or.inl rfl) (Xl Zg))
  (Zh (Uv PassesOwn.never rfl (U7 rfl mr (Za (Jt (Jt (pv 1) rfl) rfl) Zg)) (Jj (i:=4) scShuf.nd rfl (Or.inl rfl))
   (Zm (Uv PassesOwn.never rfl (U7 rfl mr (Za (Jt (Jt (pv 1) rfl) rfl) Zg)) (Jj (i:=5) scShuf.nd rfl (Or.inl rfl))
    (Zh (Jf (i:=6) scShuf.nd rfl (Or.inl rfl) (Jd Y1 (Jd Xm Zn (pv 4)) (pv 5)))
    (Zm (X8 (Ej Yd Ux Uw Et (pv 3) (Za (Um (Za (Z1 LX.ok hr rfl LX.mg LX.kp LX.bd .nil Ja (Za (pv 2) (Za (pv 6) Zg))) (Za (pv 6) Zg))) Zg))))))))
  (Zm (Z9 (Ud nShC [none,none] rfl (Blk.by (sc:=Zq Zcv) (N0:=Zmy) rfl rfl (by decide +kernel)) (Y6 (Jr Ap rfl mso PyProof.Rows.boot_sorted (Za (pv 3) Zg))) (fun C s₀ H₀ ex=>Gh (n:=2) K rfl rfl (J6 (Jj (i:=0) (show nShC.Nodup by decide +kernel) rfl (Or.inl rfl)) (J6 (Jj (i:=1) (show nShC.Nodup by decide +kernel) rfl (Or.inl rfl)) Xt))) (fun C s₀ H₀ ex=>U5) (fun C s₀ H₀ ex=>pv 1)))))),?_⟩
 have ok:=G.ok;have s4:=ok.s4;have h8:=ok.h8;have z1000:=J2 1000 (by decide);refine⟨_,rfl,a,ns,2,rfl,hS,by decide,fun z=>Zi1 ?_⟩;refine U3 (fun v H1=>∃ l,v = .ref l∧Same H H1∧H l=none∧H1 l=some (.lst [])) (fun R hR=>⟨J2 0 (by decide),fun l hl=>hR _ _ ⟨l,rfl,Z5 hl _,hl,Zo⟩⟩) (fun v H0 z0=>?_);obtain⟨lp,rfl,s0,hlp,hl0⟩:=z0;obtain⟨dg,hg⟩:=id G.g;obtain⟨dx,po,to,hx,_,_⟩:=id G.t;refine Ol (fun σ H'=>Same H H'∧∃(as:List (Addr×Nat)) (x4 x5 x6:Option V),σ=[some (.ref a),some (.ref gm),some (.int z),some (.ref lp),x4,x5,x6]∧H' lp=some (.lst (as.map fun e=>.ref e.1))∧PrA H' as∧as.map (·.2)=Yz fx.s fx.h) (fun D' er nx=>?_) (fun σ H2 y=>?_)
 ·refine⟨_,rfl,gm,CG,dg,_,_,rfl,s0 _ _ hg,CGm.cl,CGm.nT,Yt _ _,x,CT,dx,_,_,rfl,s0 _ _ hx,C.cl,C.nS,Nv _ _ _,((fx.s:Nat):Int),rfl,by omega,by omega,?_⟩
  refine Qh (n:=fx.s) (fun i σ H'=>Same H H'∧∃(as:List (Addr×Nat)) (x4 x5 x6:Option V),σ=[some (.ref a),some (.ref gm),some (.int z),some (.ref lp),x4,x5,x6]∧H' lp=some (.lst (as.map fun e=>.ref e.1))∧PrA H' as∧as.map (·.2)=Yz i fx.h) ⟨s0,[],none,none,none,rfl,hl0,(fun e he=>nomatch he),rfl⟩ (fun i σ H1 hi y=>?_) (fun σ H1 y=>nx _ _ y);obtain⟨s1,as,x4,x5,x6,rfl,g,pr,ec⟩:=y;refine⟨_,rfl,gm,CG,dg,_,_,rfl,s1 _ _ hg,CGm.cl,CGm.nT,Yt _ _,x,CT,dx,_,_,rfl,s1 _ _ hx,C.cl,C.nH,Em _ _ _,((fx.h:Nat):Int),rfl,by omega,by omega,?_⟩;refine Qh (n:=fx.h) (fun j σ H'=>Same H H'∧∃(as:List (Addr×Nat)) (x5 x6:Option V),σ=[some (.ref a),some (.ref gm),some (.int z),some (.ref lp),some (.int (0+(i:Nat))),x5,x6]∧H' lp=some (.lst (as.map fun e=>.ref e.1))∧PrA H' as∧as.map (·.2)=Yz i fx.h++(List.range j).map fun v=>8 * i+v) ⟨s1,as,_,_,rfl,g,pr,by rw[ec];exact(J8 _).symm⟩ (fun j σ H2 hj y=>?_) (fun σ H2 y=>?_)
  ·obtain⟨s2,as,x5,x6,rfl,g,pr,ec⟩:=y
   have e8:(8:Int) * (0+(i:Nat))+(0+(j:Nat))=((8 * i+j:Nat):Int):=by omega
   refine⟨_,rfl,_,_,rfl,rfl,.inl ⟨by decide,by decide⟩,_,rfl,_,_,rfl,rfl,?_⟩;dsimp only;rw[e8];have al:as.length=(Yz i fx.h).length+j:=by
    have:=congrArg List.length ec;rw[Zj,Z3,Zj,J7] at this;exact this
   have pl:=Kv i (by omega) fx.h h8;refine⟨_,rfl,.inl ⟨rfl,_,SqL.of g⟩,_,rfl,_,rfl,z,8 * i+j,rfl,by omega,fun y hy=>?_⟩;obtain⟨yn,rfl⟩:=Int.eq_ofNat_of_zero_le hy;refine⟨_,rfl,J2 2 (by decide),fun p hp=>?_⟩;have sp:=Z5 hp (.tup [.int ((yn:Nat):Int),.int ((8 * i+j:Nat):Int)]);have gp:=sp _ _ g;refine⟨lp,_,_,rfl,rfl,gp,by rw[Zj];omega,?_⟩;refine⟨fun b o hb=>?_,as++[(p,8 * i+j)],_,_,rfl,?_,fun e he=>?_,?_⟩
   ·rw[Jh (fun z=>by rw[z,hlp] at hb;cases hb)]
    exact sp _ _ (s2 _ _ hb)
   ·rw[Zo,Jp]
    rfl
   ·have ex:∃ x:Nat,upd H2 p (.tup [.int ((yn:Nat):Int),.int ((8 * i+j:Nat):Int)]) e.1=some (.tup [.int ((x:Nat):Int),.int ((e.2:Nat):Int)]):=by
     rcases Jm.mp he with h | h
     ·obtain⟨x,hx⟩:=pr e h
      exact⟨x,sp _ _ hx⟩
     ·cases Jb.mp h
      exact⟨yn,Zo⟩
    obtain⟨x,hx⟩:=ex;refine⟨x,?_⟩;rw[Jh (Bj hx gp (fun ys e=>by cases e))];exact hx
   ·rw[Jp,ec,List.range_succ,Jp,Y5]
    rfl
  ·obtain⟨s2,as,x5,x6,rfl,g,pr,ec⟩:=y
   refine⟨s2,as,_,_,_,rfl,g,pr,?_⟩;rw[ec];unfold Yz;rw[List.range_succ,List.flatMap_append,List.flatMap_cons,List.flatMap_nil,J8]
 obtain⟨s2,as,x4,x5,x6,rfl,g,pr,ec⟩:=y;have al:as.length=fx.s * fx.h:=by
  have:=congrArg List.length ec;rw[Zj,Np] at this;exact this
 have sn:fx.s * fx.h≤32:=Jc (Nat.mul_le_mul s4 h8) (by decide);have eR:(as.map fun e=>V.ref e.1)=(as.map (·.1)).map V.ref:=by rw[Z7];rfl
 rw[eR] at g;refine⟨_,rfl,lp,as.map (·.1),rfl,SqL.of g,by rw[Zj];omega,fun p hp=>?_,fun l2 qs hl2 pq=>?_⟩
 ·obtain⟨e,he,rfl⟩:=Zv.mp hp
  obtain⟨x,hx⟩:=pr e he;exact⟨_,_,SqT.of hx⟩
 have sm2:=Z5 hl2 (.lst (qs.map V.ref));have ql:qs.length=as.length:=by rw[pq.length_eq,Zj]
 have at2:∀ u∈qs,∃ x c:Nat,H2 u=some (.tup [.int ((x:Nat):Int),.int ((c:Nat):Int)]):=fun u hu=>by
  obtain⟨e,he,rfl⟩:=Zv.mp (pq.mem_iff.mp hu);obtain⟨x,hx⟩:=pr e he;exact⟨x,e.2,hx⟩
 have Pr:Zd2 (upd H2 l2 (.lst (qs.map V.ref))) l2 (qs.map (prV H2)):=⟨qs,Zo,by rw[Zj],fun j u p h1 h2=>by
  rw[Z4,h1] at h2;have e2:prV H2 u=p:=Z0 h2;obtain⟨x,c,hx⟩:=at2 u (Zl h1);rw[← e2,Zhk hx];exact sm2 _ _ hx⟩
 refine⟨l2,rfl,⟨_,SqL.of Zo⟩,Bv (K:=K) Pr (fun _=>true) (fun x=>.int (x.2:Nat)) (by rw[Zj];omega) (fun x H3 hx sm R hR=>hR H3 (Same.refl H3)) (fun x H3 hx hp sm R hR=>⟨_,rfl,hR H3 (Same.refl H3)⟩) (fun ln H4 s5 hln hLn=>?_)⟩;rw[List.filter_eq_self.mpr fun _ _=>rfl,Z7] at hLn;refine q ln (qs.map fun u=>(prV H2 u).2) H4 ?_ ((s2.trans sm2).trans s5) (s2.free (sm2.free hln)) ?_
 ·have e1:(as.map (·.1)).map (fun u=>(prV H2 u).2)=Yz fx.s fx.h:=by
   rw[← ec,Z7];refine Jv fun e he=>?_;obtain⟨x,hx⟩:=pr e he;show(prV H2 e.1).2=e.2;rw[Zhk hx]
  rw[← e1];exact pq.map _
 ·rw[hLn]
  unfold vN;rw[Z7];rfl
theorem Zgd(p:Int){s:Nat}(s4:s≤4):∃ t:Option Nat,Mp t∧((t=none∧p % ((s:Nat)+1:Int)=((s:Nat):Int))∨∃ u,t=some u∧u < s∧p % ((s:Nat)+1:Int)=((u:Nat):Int)):=by
 have h0:=Yn p (show((s:Nat)+1:Int)≠0 by omega);have h1:=Yh p (show(0:Int) < ((s:Nat)+1:Int) by omega);by_cases e:p % ((s:Nat)+1:Int)=((s:Nat):Int)
 ·exact⟨none,(fun u e=>nomatch e),.inl ⟨rfl,e⟩⟩
 ·exact⟨some (p % ((s:Nat)+1:Int)).toNat,fun u z=>by cases z;omega,.inr ⟨_,rfl,by omega,by omega⟩⟩
def Zao(K:W.Frag)(CT CG:Addr):Sp:=fun vs H Q _=>∃(a:Addr) (ns:List Int),vs=[.ref a]∧SqL K H a (ns.map V.int)∧∀ gm x f t H',Mp t→Same H H'→GamH CT CG f t H' gm x→Q (.ref gm) H'
abbrev Zqx:List Str:=["_law_script","_law_facts","_law_trump"]
theorem scGame:FnScope Zqx ["_law_script"] (Zq Zg8):=Uy (by decide +kernel)
theorem Zln{k:Nat}{CT CG fI fG f1 f2 f3:Addr}{dI dG d1 d2 d3:FuncData}(F:Fun K "_law_game" "_law_game" Zg8 f fd)(C:TabC K mg CT)(CGm:GamC K mg CG)(LB:Lib P w K mg base (k+1) "_law_table" ["_law_script"] (D3 K) f2 d2)(LC:Lib P w K mg base (k+1) "_law_cell" Nq (E7 K) f3 d3)(LT:Lib P w K mg base (k+1) "_law_text" ["_law_facts"] (Zai K) f1 d1)(MkT:Mk K CT fI)(FI:FnOk P w K mg base Yr k fI dI ["self","text"] (Zmr CT))(BI:Binds K dI ["self","text"] [])
  (MkG:Mk K CG fG) (FG:FnOk P w K mg base Yr k fG dG ["self","table","trump"] (Zmt CG)) (BG0:Binds K dG ["self","table","trump"] []) (BG1:Binds K dG ["self","table","trump"] [.none]) :
  FnOk P w K mg base Yr (k+2) f fd ["_law_script"] (Zao K CT CG):=by
 refine F.ok scGame (fun vs H Q E h=>?_) (fun cdv A outer s H vs Q E hr h=>?_)
 ·obtain⟨a,ns,rfl,_⟩:=h
  rfl
 obtain⟨a,ns,rfl,hS,q⟩:=h;refine⟨_,Zh (Jf (i:=1) scGame.nd rfl (Or.inl rfl) (Z1 LB.ok hr rfl LB.mg LB.kp LB.bd .nil Ja (Za (pv 0) Zg)))
  (Zh (Jf (i:=2) scGame.nd rfl (Or.inl rfl) (Jd Yv (Z1 LC.ok hr rfl LC.mg LC.kp LC.bd .nil Ja (Za (pv 0) (Za Zn Zg))) (Jd Y1 (Jw Uk (pv 1) Zn (fun _ _=>rfl)) Zn)))
  (Zh (J5 (Ji Uq (pv 2) (Jw Uk (pv 1) Zn (fun _ _=>rfl)) (Jg _)) (Zm (Z9 (E9 MkG FG hr rfl CGm.mG BG1 (show Vals [V.non] [Value.none] from .cons rfl .nil) Ja (Za (E9 MkT FI hr rfl C.mT BI .nil Ja (Za (Z1 LT.ok hr rfl LT.mg LT.kp LT.bd .nil Ja (Za (pv 1) Zg)) Zg)) Zg)))) Jl)
  (Zm (Z9 (E9 MkG FG hr rfl CGm.mG BG0 .nil Ja (Za (E9 MkT FI hr rfl C.mT BI .nil Ja (Za (Z1 LT.ok hr rfl LT.mg LT.kp LT.bd .nil Ja (Za (pv 1) Zg)) Zg)) (Za (pv 2) Zg))))))),?_⟩
 refine⟨_,rfl,a,ns,rfl,hS,fun l fx H0 ok s0 hl0 hF=>?_⟩;obtain⟨pl,tr,hL,hP,hT⟩:=id hF;refine⟨_,rfl,a,ns,1,rfl,s0.seq hS,by decide,fun c=>?_⟩;refine⟨_,rfl,l,_,_,_,rfl,rfl,SqL.of hL,(rfl:X6 [V.int (fx.s:Nat),V.int (fx.h:Nat),V.int (fx.n:Nat),V.str (wd fx.d),V.ref pl,V.ref tr] 0=some (V.int (fx.s:Nat))),_,_,rfl,rfl,_,_,rfl,rfl,(show(0:Int) < ((fx.s:Nat):Int)+1 by omega),?_⟩;refine⟨_,rfl,_,rfl,l,_,_,_,rfl,rfl,SqL.of hL,(rfl:X6 [V.int (fx.s:Nat),V.int (fx.h:Nat),V.int (fx.n:Nat),V.str (wd fx.d),V.ref pl,V.ref tr] 0=some (V.int (fx.s:Nat))),rfl,_,rfl,?_⟩;obtain⟨t,tb,ht⟩:=Zgd c ok.s4;rcases ht with⟨rfl,e⟩ | ⟨u,rfl,us,e⟩
 ·refine X2 (by rw[e];exact Zd rfl:decide (V.int (c % (((fx.s:Nat):Int)+1))=V.int ((fx.s:Nat):Int))=true) (Ym ⟨_,rfl,l,fx,rfl,ok,hF,fun H1 s1=>?_⟩)
  intro x dx hx hdx nx;refine⟨x,dx,fx,rfl,ok,Zo,fun po to H3 kp hx3 hpo hto=>⟨rfl,?_⟩⟩;have sx:=M5 hx hdx nx kp;intro gm dg hgm hdg ng;refine⟨gm,dg,x,.non,rfl,Zo,rfl,?_⟩;rw[U2];have sg:=Uz (o:=.ins CG dg (Mo x .non)) hgm hdg ng;exact q gm x fx none _ tb (((s0.trans s1).trans sx).trans sg) ⟨ok,⟨dg,Zo⟩,⟨dx,po,to,sg _ _ hx3,sg _ _ hpo,sg _ _ hto⟩⟩
 ·have eU:decide (V.int (c % (((fx.s:Nat):Int)+1))=V.int ((fx.s:Nat):Int))=false:=by
   rw[e];exact nat_dec.trans (Zc (by omega))
  refine X2 eU (Yb ⟨_,rfl,l,fx,rfl,ok,hF,fun H1 s1=>?_⟩);intro x dx hx hdx nx;refine⟨x,dx,fx,rfl,ok,Zo,fun po to H3 kp hx3 hpo hto=>⟨rfl,?_⟩⟩;have sx:=M5 hx hdx nx kp;refine⟨_,rfl,?_⟩;intro gm dg hgm hdg ng;refine⟨gm,dg,x,Rv (some u),?_,Zo,rfl,?_⟩
  ·show [V.ref gm,V.ref x,V.int (c % (((fx.s:Nat):Int)+1))]=_
   rw[e];rfl
  rw[U2];have sg:=Uz (o:=.ins CG dg (Mo x (Rv (some u)))) hgm hdg ng;exact q gm x fx (some u) _ tb (((s0.trans s1).trans sx).trans sg) ⟨ok,⟨dg,Zo⟩,⟨dx,po,to,sg _ _ hx3,sg _ _ hpo,sg _ _ hto⟩⟩
end
end My
namespace L2
open PySem PySem.Spec PyProof.Rows
structure HKnd(P:Program)(w:World)(K:Type) [DecidableEq K] where
 knd:HeapKind P w K
 isH:Hp→K→Addr→Prop
 ok:∀{H:Hp} {h:Heap} {k:K} {p:Addr},HOk P w H h→isH H k p→knd.is h k p
 mono:∀{H H':Hp} {k:K} {p:Addr},isH H k p→(∀ b ys,H b=some (.tup ys)→H' b=some (.tup ys))→isH H' k p
 room:∀{A:Around},A.units+20 < cLine→knd.room A.in1
section
variable{K:Type} [DecidableEq K]
abbrev Xn(K:Type):=K×Addr×V
abbrev GRel{K:Type}:List (Xn K)→List (K×Addr×Value)→Prop:=Paired fun p q=>p.1=q.1∧p.2.1=q.2.1∧RelV p.2.2 q.2.2
variable{P:Program}{w:World}(T:HKnd P w K)
def GKeys(H:Hp)(es:List (Xn K)):Prop:=∀ e∈es,T.isH H e.1 e.2.1
def Xj(a:Addr)(es:List (Xn K)):HO:=HO.ext fun h=>(a == sysModules)=false∧es.length≤sizeLine∧∃ xs,GRel es xs∧∃ o el ep,h.get? a=some o∧o.ExactDict∧o.data = .dict el ep∧el.toList=xs.map (entryOfKey T.knd)∧(xs.map (·.1)).Nodup
def Rf(es:List (Xn K))(k:K):Option V:=(es.find? fun e=>decide (e.1=k)).map (·.2.2)
def Rz(es:List (Xn K))(k:K)(b:Addr)(v:V):List (Xn K):=if(Rf es k).isSome then es.map (fun e=>if e.1=k then(e.1,e.2.1,v) else e) else es++[(k,b,v)]
theorem Ew{e:Xn K}{es:List (Xn K)}{k:K}:Rf (e :: es) k=if e.1=k then some e.2.2 else Rf es k:=by
 unfold Rf;rw[List.find?_cons];by_cases c:e.1=k
 ·rw[Zd c,Zu c]
  rfl
 ·rw[Zc c,Zk c]
theorem Sr{k j:K}{b:Addr}{v:V}:∀{es:List (Xn K)},Rf es k=none→Rf (es++[(k,b,v)]) j=if j=k then some v else Rf es j
 | [],_=>by
  rw[List.nil_append,Ew];by_cases c:j=k
  ·rw[Zu c,Zu (show(k,b,v).1=j from c.symm)]
  ·rw[Zk c,Zk (show ¬ (k,b,v).1=j from fun e=>c e.symm)]
 | e :: es,h=>by
  rw[Ew] at h;by_cases c:e.1=k
  ·rw[Zu c] at h;cases h
  ·rw[Zk c] at h
   rw[List.cons_append,Ew,Ew,Sr h];by_cases d:e.1=j
   ·rw[Zu d,Zu d,Zk (fun z=>c (d.trans z))]
   ·rw[Zk d,Zk d]
theorem Zdm{k j:K}{v:V}:∀{es:List (Xn K)},Rf (es.map fun e=>if e.1=k then(e.1,e.2.1,v) else e) j=(Rf es j).map fun x=>if j=k then v else x
 | []=>rfl
 | e :: es=>by
  rw[List.map_cons,Ew,Ew,Zdm];by_cases c:e.1=k
  ·rw[Zu c]
   by_cases d:e.1=j
   ·rw[Zu d,Zu d,Option.map_some,Zu (d.symm.trans c)]
   ·rw[Zk d,Zk d]
  ·rw[Zk c]
   by_cases d:e.1=j
   ·rw[Zu d,Zu d,Option.map_some,Zk (fun z=>c (d.trans z))]
   ·rw[Zk d,Zk d]
theorem Zl9{es:List (Xn K)}{k j:K}{b:Addr}{v:V}:Rf (Rz es k b v) j=if j=k then some v else Rf es j:=by
 unfold Rz;cases c:Rf es k with
 | none=>
  rw[Zk (by rw[Option.isSome_none];exact Zr)];exact Sr c
 | some x=>
  rw[Zu (by rfl),Zdm];by_cases d:j=k
  ·subst d
   rw[c,Zu rfl,Option.map_some,Zu rfl]
  ·rw[Zk d]
   cases Rf es j with
   | none=>rfl
   | some y=>rw[Option.map_some,Zk d]
theorem Zfl{es:List (Xn K)}{k:K}{b:Addr}{v:V}{H:Hp}(h:GKeys T H es)(hk:T.isH H k b):GKeys T H (Rz es k b v):=by
 unfold Rz;intro e he;split at he
 ·obtain⟨x,hx,rfl⟩:=Zv.mp he
  by_cases c:x.1=k
  ·rw[Zu c]
   exact h x hx
  ·rw[Zk c]
   exact h x hx
 ·rcases Jm.mp he with q | q
  ·exact h e q
  ·cases Jb.mp q
   exact hk
theorem So{es:List (Xn K)}{k:K}{b:Addr}{v:V}:(Rz es k b v).length≤es.length+1:=by
 unfold Rz;split
 ·rw[Zj]
  exact Nat.le_succ _
 ·rw[Z3]
  exact Zs _
theorem GKeys.mono{H H':Hp}{es:List (Xn K)}(h:GKeys T H es)(ht:∀ b ys,H b=some (.tup ys)→H' b=some (.tup ys)):GKeys T H' es:=fun e he=>T.mono (h e he) ht
theorem GRel.at{k:K}:∀{es:List (Xn K)} {xs:List (K×Addr×Value)},GRel es xs→RelO (Rf es k) ((atKey xs k).map (·.2))
 | _,_,.nil=>True.intro
 | e :: es,x :: xs,.cons ⟨h1,h2,h3⟩ r=>by
  have ih:=GRel.at (k:=k) r;unfold Rf atKey at *;rw[List.find?_cons,List.find?_cons,← h1];by_cases c:e.1=k
  ·rw[Zd c]
   exact h3
  ·rw[Zc c]
   exact ih
theorem GRel.repl{k:K}{v:V}{u:Value}(rv:RelV v u):∀{es:List (Xn K)} {xs:List (K×Addr×Value)},GRel es xs→GRel (es.map fun e=>if e.1=k then(e.1,e.2.1,v) else e) (xs.map (putAt k u))
 | _,_,.nil=>.nil
 | e :: es,x :: xs,.cons ⟨h1,h2,h3⟩ r=>by
  refine .cons ?_ (GRel.repl rv r);unfold putAt;dsimp only;by_cases c:e.1=k
  ·rw[Zu c,Zu (h1 ▸ c)]
   exact⟨h1,h2,rv⟩
  ·rw[Zk c,Zk (h1 ▸ c)]
   exact⟨h1,h2,h3⟩
theorem GRel.snoc{es:List (Xn K)}{xs:List (K×Addr×Value)}(r:GRel es xs){e:Xn K}{x:K×Addr×Value}(h:e.1=x.1∧e.2.1=x.2.1∧RelV e.2.2 x.2.2):GRel (es++[e]) (xs++[x]):=by
 induction r with
 | nil=>exact .cons h .nil
 | cons a _ ih=>exact .cons a ih
theorem GRel.put{es:List (Xn K)}{xs:List (K×Addr×Value)}(r:GRel es xs){k:K}{b:Addr}{v:V}{u:Value}(rv:RelV v u):GRel (Rz es k b v) (storedH xs k b u):=by
 have z:=(GRel.at (k:=k) r).isSome_eq;rw[Option.isSome_map] at z;unfold Rz storedH;rw[← z];cases (Rf es k).isSome with
 | true=>exact GRel.repl rv r
 | false=>exact GRel.snoc r ⟨rfl,rfl,rv⟩
end
section
variable{K:Type} [DecidableEq K]{P:Program}{w:World}{T:HKnd P w K}{H:Hp}{h:Heap}{a:Addr}
theorem Zdl{es:List (Xn K)}(ok:HOk P w H h)(e:H a=some (Xj T a es))(ks:GKeys T H es):(a == sysModules)=false∧es.length≤sizeLine∧∃ xs,GRel es xs∧h.DictOfH T.knd a xs:=by
 obtain⟨⟨hd,hz,xs,r,o,el,ep,h1,h2,h3,h4,h5⟩,_⟩:=(show ObjOk P w H h a (Xj T a es) from ok a _ e);refine⟨hd,hz,xs,r,o,el,ep,h1,h2,h3,h4,fun x hx=>?_,h5⟩;have all:∀{l:List (Xn K)} {m:List (K×Addr×Value)},GRel l m→(∀ e∈l,T.isH H e.1 e.2.1)→∀ x∈m,T.knd.is h x.1 x.2.1:=by
  intro l m q
  induction q with
  | nil=>intro _ x hx;exact nomatch hx
  | @cons p q ps qs hq t ih=>
   intro hk x hx;rcases Je.mp hx with e | hx
   ·subst e
    have:=T.ok ok (hk p Zy);rw[hq.1,hq.2.1] at this;exact this
   ·exact ih (fun e he=>hk e (Zz _ he)) x hx
 exact all r ks x hx
theorem Zjp{H':Hp}{h':Heap}{es:List (Xn K)}{xs:List (K×Addr×Value)}(hd:(a == sysModules)=false)(hz:es.length≤sizeLine)(r:GRel es xs)(dd:h'.DictOfH T.knd a xs):ObjOk P w H' h' a (Xj T a es):=by
 obtain⟨o,el,ep,h1,h2,h3,h4,_,h5⟩:=dd;refine⟨⟨hd,hz,xs,r,o,el,ep,h1,h2,h3,h4,h5⟩,⟨o,h1⟩,fun h1 h2 z k=>?_⟩;obtain⟨hd,hz,xs,r,o,el,ep,h1,h2,h3,h4,h5⟩:=z;exact⟨hd,hz,xs,r,o,el,ep,k _ h1,h2,h3,h4,h5⟩
end
section
variable{K:Type} [DecidableEq K]{X:Cx}{o i value e f:Expr}{td ty tv tx:TE}{pos pos' apos cpos:Pos}(T:HKnd X.prog X.w K)
theorem Zc6:PE X (.Dict [] [] pos) (fun _ H Q=>∀ p,H p=none→Q (.ref p) (upd H p (Xj T p []))):=fun pins s σ H Q I h=>
 wpAny_Dict_empty ⟨.ref s.heap.objs.size,_,I.laid (a:=s.heap.objs.size) (o:=Xj T s.heap.objs.size []) (t':=s.toks) (fun _ _ q=>Zi _ q) (Zs _)
  (Zjp (xs:=[]) (beq_eq_false_iff_ne.mpr (Ne.symm (Jn I.big))) (Nat.zero_le _) .nil ⟨_,#[],0,Z6 _ rfl,⟨rfl,rfl,rfl⟩,rfl,rfl,(fun x hx=>nomatch hx),List.nodup_nil⟩),rfl,h _ (I.hok.fresh (Zs _))⟩
theorem Zoa(hu:X.A.units+20 < cLine)(hi:PE X i ty)(ho:PE X o td):PC X .In i o (fun σ H Q=>ty σ H fun y H1=>td σ H1 fun x H2=>∃ a es k b,x = .ref a∧H2 a=some (Xj T a es)∧GKeys T H2 es∧y = .ref b∧T.isH H2 k b∧Q (.bl (Rf es k).isSome) H2):=by
 intro pins s σ H Q I h;refine Uc (hi pins s σ H _ I h) fun iv s1 ⟨y,H1,I1,ry,q1⟩=>Uc (ho pins s1 σ H1 _ I1 q1) fun u s2 ⟨x,H2,I2,rx,a,es,k,b,ex,e,ks,ey,eb,q2⟩=>?_;subst ex ey;obtain rfl:u=Value.ref a:=rx;obtain rfl:iv=Value.ref b:=ry;obtain⟨hd,hz,xs,r,dd⟩:=Zdl I2.hok e ks;refine wpAny_in_heap (knd:=T.knd) (T.room hu) (T.ok I2.hok eb) hd dd ?_;have z:=(GRel.at (k:=k) r).isSome_eq;rw[Option.isSome_map] at z;rw[← z];exact⟨.bl (Rf es k).isSome,H2,I2.tok _,rfl,q2⟩
theorem Tl(hu:X.A.units+20 < cLine)(ho:PE X o td)(he:PE X e ty)(hf:PE X f tx)(m:M2 X o "get" apos e f cpos):PE X (.Call (.Attribute o "get" apos) [e,f] [] cpos)
  (fun σ H Q=>td σ H fun x H1=>∃ a es0,x = .ref a∧H1 a=some (Xj T a es0)∧GKeys T H1 es0∧ty σ H1 fun y H2=>tx σ H2 fun z H3=>∃ es k b,H3 a=some (Xj T a es)∧GKeys T H3 es∧y = .ref b∧T.isH H3 k b∧Q ((Rf es k).getD z) H3):=by
 intro pins s σ H Q I h;refine wpAny_Call_method m.base m.few m.line PySem.F.plainAttrs_dict PySem.F.slot_dict_get PySem.F.type_dict_get (Uc (ho pins s σ H _ I h) fun u s1 ⟨x,H1,I1,rx,a,es0,ex,d,ks0,q1⟩=>?_);subst ex;obtain rfl:u=Value.ref a:=rx;obtain⟨_,_,xs0,_,dd0⟩:=Zdl I1.hok d ks0;refine⟨dd0.typeIs,fun b q=>by cases q;obtain⟨ob,_,_,h1,h2,_⟩:=dd0;exact⟨ob,h1,h2.2.1⟩,?_⟩;rw[m.trees];refine Calls.callWith_builtin rfl (Calls.evalArgs_plain (Calls.spliced_cons (Uc (he pins s1 σ H1 _ I1 q1) fun iv s2 ⟨y,H2,I2,ry,q2⟩=>
  Calls.spliced_cons (Uc (hf pins s2 σ H2 _ I2 q2) fun fv s3 ⟨z,H3,I3,rz,es,k,b,e3,ks,ey,eb,q3⟩=>Calls.spliced_nil ?_))))
 subst ey;obtain rfl:iv=Value.ref b:=ry;obtain⟨hd,hz,xs,r,dd⟩:=Zdl I3.hok e3 ks;refine call_meetsIn PySem.F.slot_dict_get dd.typeIs PySem.F.entry_dict_get (PySem.F.args_dict_get_3 _ _ _) (meetsH_dict_get_default T.knd a b hd fv) ⟨T.room hu,k,xs,T.ok I3.hok eb,dd,_,H3,I3.tok _,?_,q3⟩;exact(GRel.at (k:=k) r).getD rz
theorem O5(hu:X.A.units+20 < cLine)(ho:PE X o td)(hi:PE X i ty)(hv:PE X value tv)(hs:swapsWith value (some (.Subscript o i pos')) pos.line X.env=pure false) :
  PS X (.Assign [.Subscript o i pos'] value pos) (fun D σ H=>tv σ H fun v H1=>td σ H1 fun x H2=>ty σ H2 fun y H3=>∃ a es k b,x = .ref a∧H3 a=some (Xj T a es)∧GKeys T H3 es∧y = .ref b∧T.isH H3 k b∧es.length < sizeLine∧D.nx σ (upd H3 a (Xj T a (Rz es k b v)))):=by
 intro pins s σ H D I h;refine wpAny_Assign_Subscript (Uc (hv pins s σ H _ I h) fun r s1 ⟨v,H1,I1,rv,q1⟩=>Uc (ho pins s1 σ H1 _ I1 q1) fun u s2 ⟨x,H2,I2,rx,q2⟩=>Uc (hi pins s2 σ H2 _ I2 q2) fun iv s3 ⟨y,H3,I3,ry,a,es,k,b,ex,e,ks,ey,eb,hl,q3⟩=>?_) hs;subst ex ey;obtain rfl:u=Value.ref a:=rx;obtain rfl:iv=Value.ref b:=ry;obtain⟨hd,hz,xs,rl,dd⟩:=Zdl I3.hok e ks;have hz2:xs.length≤sizeLine:=by rw[← Paired.length rl];exact hz
 refine wpAny_setItem_heap (knd:=T.knd) (hsz:=hz2) (T.room hu) (T.ok I3.hok eb) dd fun h' dd' hs=>⟨σ,_,?_,q3⟩;obtain⟨q,el,ep,hq,_⟩:=id dd';exact An I3 (by rw[e];exact True.intro) hs ⟨q,hq⟩ (Zjp hd (Jc So hl) (GRel.put rl rv) dd')
end
def Nn(P:Program)(w:World):HKnd P w Ug where
 knd:=X1 P w
 isH:=PlKey
 ok:=fun ok e=>Ep ok e
 mono:=fun h ht=>h.mono ht
 room:=fun {A} hu=>show A.units+1+9 < cLine by omega
end L2
namespace My
open PySem L2
abbrev G8:Stmt:=top 34
abbrev Ba:Stmt:=top 35
abbrev Ta:Stmt:=top 36
abbrev Za7:Stmt:=top 37
section
variable{P:Program}{w:World}{K:W.Frag}{mg:Str→Option Value}{base:Heap}{f g:Addr}{fd gd:FuncData}
def En(K:W.Frag):Sp:=fun vs H Q _=>∃ i:Int,vs=[.int i]∧Q (.bl true) H
theorem Zef:FnScope ["thing"] ["thing"] (Zq G8):=Uy (by decide +kernel)
theorem Zbj{k:Nat}(F:Fun K "is_whole" "is_whole" G8 f fd)(mi:mg "isinstance" = none)(mI:mg "int" = none)(mB:mg "bool" = none):FnOk P w K mg base Yr (k+1) f fd ["thing"] (En K):=by
 refine F.ok Zef (fun vs H Q E h=>?_) (fun cdv A outer s H vs Q E hr h=>?_)
 ·obtain⟨h,rfl,_⟩:=h
  rfl
 obtain⟨i,rfl,q⟩:=h;refine⟨_,Zm (Z9 (Xz (Jr Ez rfl mi Yj (Za (pv 0) (Za (Bb (v:=.ty "int") rfl mI PyProof.Rows.boot_int rfl) Zg)))
  (U8 (Zn7 (Jr Ez rfl mi Yj (Za (pv 0) (Za (Bb (v:=.ty "bool") rfl mB PyProof.Rows.boot_bool rfl) Zg))))))),?_⟩
 refine⟨_,rfl,_,_,_,true,rfl,.int i,rfl,true,rfl,Ym ?_⟩;exact⟨_,rfl,_,_,_,false,rfl,.int i,by with_unfolding_all rfl,false,rfl,q⟩
def Bn:Sp:=fun vs H Q _=>∃(p:Addr) (xs:List Nat),vs=[.ref p]∧H p=some (.tup (vN xs))∧xs.length≤100∧∀ H',Same H H'→Q (.bl true) H'
theorem Zau:FnScope ["things"] ["things"] (Zq Ba):=Uy (by decide +kernel)
theorem K3{k:Nat}{f1:Addr}{d1:FuncData}(F:Fun K "are_from_zero_on" "are_from_zero_on" Ba f fd)(LW:Lib P w K mg base k "is_whole" ["thing"] (En K) f1 d1)(mi:mg "isinstance" = none)(mT:mg "tuple" = none)(mA:mg "all" = none):FnOk P w K mg base Yr (k+1) f fd ["things"] Bn:=by
 refine F.ok Zau (fun vs H Q E h=>?_) (fun cdv A outer s H vs Q E hr h=>?_)
 ·obtain⟨p,xs,rfl,_⟩:=h
  rfl
 obtain⟨p,xs,rfl,hp,l100,q⟩:=h;refine⟨_,Zm (Z9 (Xz (Jr Ez rfl mi Yj (Za (pv 0) (Za (Bb (v:=.ty "tuple") rfl mT Yf rfl) Zg)))
  (U8 (Jr (Bh rfl) rfl mA PyProof.Rows.boot_all (Za (Ud ["thing"] [none] rfl (Blk.by (sc:=Zq Ba) (N0:=["things"]) rfl rfl (by decide +kernel)) (V9 (pv 0)) (fun C s₀ H₀ ex=>Jj (i:=0) (show(["thing"]:List Str).Nodup by decide +kernel) rfl (Or.inl rfl)) (fun C s₀ H₀ ex=>U5)
   (fun C s₀ H₀ ex=>Xz (Z1 LW.ok hr rfl LW.mg LW.kp LW.bd .nil Ja (Za (pv 0) Zg)) (U8 (Ys Tt (pv 0) Zn (Jg _))))) Zg))))),?_⟩
 refine⟨_,rfl,_,_,_,true,rfl,.tup hp,rfl,true,rfl,Ym ?_⟩;refine⟨_,rfl,p,rfl,⟨_,SqT.of hp⟩,Nx (K:=K) (xs:=vN xs) (fun _=>true) (fun _=>.bl true) (SqT.of hp) (J2 _ (by rw[J1];omega)) (fun y H3 hy sm R hR=>hR H3 (Same.refl H3)) (fun y H3 hy hp sm R hR=>?_) (fun lq H4 s4 hlq hL4=>?_)⟩
 ·obtain⟨x,hx,rfl⟩:=Zv.mp hy
  refine⟨_,rfl,_,rfl,true,rfl,Ym ⟨_,rfl,_,_,rfl,rfl,?_⟩⟩;have z:=hR H3 (Same.refl H3);have e:decide ((0:Int)≤((x:Nat):Int))=true:=Zd (Int.natCast_nonneg x);show R (V.bl (decide ((0:Int)≤((x:Nat):Int)))) H3;rw[e];exact z
 ·have eb:((vN xs).filter fun _=>true).map (fun _=>V.bl true)=(xs.map fun _=>true).map V.bl:=by
   rw[List.filter_eq_self.mpr fun _ _=>rfl];unfold vN;rw[Z7,Z7];rfl
  rw[eb] at hL4;have ea:(xs.map fun _=>true).all id=true:=by
   rw[List.all_map];exact J9.mpr fun _ _=>rfl
  refine⟨lq,_,rfl,SqL.of hL4,?_⟩;rw[ea];exact q H4 s4
def V1:Sp:=fun vs H Q _=>∃(p:Addr) (hs:List Nat) (lead:Nat) (ys:List Nat),vs=[.ref p]∧IsPl H p hs lead ys∧hs.length≤100∧ys.length≤100∧∀ H',Same H H'→Q (.bl true) H'
theorem Zeh:FnScope ["thing"] ["thing"] (Zq Ta):=Uy (by decide +kernel)
theorem Zbm{k:Nat}{f1 f2:Addr}{d1 d2:FuncData}(F:Fun K "is_formed_place" "is_formed_place" Ta f fd)(LW:Lib P w K mg base k "is_whole" ["thing"] (En K) f1 d1)(LZ:Lib P w K mg base k "are_from_zero_on" ["things"] Bn f2 d2)(mi:mg "isinstance" = none)(mT:mg "tuple" = none)(ml:mg "len" = none):FnOk P w K mg base Yr (k+1) f fd ["thing"] V1:=by
 refine F.ok Zeh (fun vs H Q E h=>?_) (fun cdv A outer s H vs Q E hr h=>?_)
 ·obtain⟨p,hs,lead,ys,rfl,_⟩:=h
  rfl
 obtain⟨p,hs,lead,ys,rfl,⟨hp,tp,h1,h2,h3⟩,lh,ly,q⟩:=h;refine⟨_,Zh (J5 (PW.pt (Qu (X7 (Yi (Jr Ez rfl mi Yj (Za (pv 0) (Za (Bb (v:=.ty "tuple") rfl mT Yf rfl) Zg))) (fun _=>rfl))) (Qf (Ji Vj (Jr Jy rfl ml Jq (Za (pv 0) Zg)) Zn (Jg _))))) (Zm (Z9 Up)) Jl)
  (Zm (Z9 (Xz (Z1 LZ.ok hr rfl LZ.mg LZ.kp LZ.bd .nil Ja (Za (Jw Jz (pv 0) Zn (fun _ _=>rfl)) Zg)) (Xz (Z1 LW.ok hr rfl LW.mg LW.kp LW.bd .nil Ja (Za (Jw Jz (pv 0) Zn (fun _ _=>rfl)) Zg)) (U8 (Z1 LZ.ok hr rfl LZ.mg LZ.kp LZ.bd .nil Ja (Za (Jw Jz (pv 0) Zn (fun _ _=>rfl)) Zg))))))),?_⟩
 refine⟨_,rfl,_,_,_,true,rfl,.tup h1,rfl,_,rfl,Yb ?_⟩;refine⟨_,rfl,p,_,rfl,.inr (SqT.of h1),rfl,_,rfl,Yb ?_⟩;refine⟨_,rfl,p,_,_,_,rfl,rfl,SqT.of h1,(rfl:X6 [V.ref hp,V.int (lead:Nat),V.ref tp] 0=some (V.ref hp)),hp,hs,rfl,h2,lh,fun H1 s1=>⟨true,rfl,Ym ?_⟩⟩;refine⟨_,rfl,p,_,_,_,rfl,rfl,SqT.of (s1 _ _ h1),(rfl:X6 [V.ref hp,V.int (lead:Nat),V.ref tp] 1=some (V.int (lead:Nat))),_,rfl,true,rfl,Ym ?_⟩;exact⟨_,rfl,p,_,_,_,rfl,rfl,SqT.of (s1 _ _ h1),(rfl:X6 [V.ref hp,V.int (lead:Nat),V.ref tp] 2=some (V.ref tp)),tp,ys,rfl,s1 _ _ h3,ly,fun H2 s2=>q H2 (s1.trans s2)⟩
def El:Option Int→V
 | none=>.non
 | some c=>.int c
structure Rw where
 hs:List Nat
 lead:Nat
 ys:List Nat
 nd:Int
 cd:Option Int
def Rw.k(r:Rw):Ug:=X5 r.hs r.lead r.ys
structure Rw.Fm(r:Rw):Prop where
 lh:r.hs.length≤100
 ly:r.ys.length≤100
def IsRw(H:Hp)(r:Rw)(a:Addr):Prop:=∃ p,H a=some (.tup [.ref p,.int r.nd,El r.cd])∧IsPl H p r.hs r.lead r.ys
theorem IsRw.same{H H':Hp}{r:Rw}{a:Addr}(h:IsRw H r a)(s:Same H H'):IsRw H' r a:=by
 obtain⟨p,h1,h2⟩:=h;exact⟨p,s _ _ h1,h2.same s⟩
def R9:Sp:=fun vs H Q _=>∃(a:Addr) (r:Rw),vs=[.ref a]∧IsRw H r a∧r.Fm∧∀ H',Same H H'→Q (.bl true) H'
theorem Zkt:FnScope ["thing"] ["thing"] (Zq Za7):=Uy (by decide +kernel)
theorem Ziv{k:Nat}{f1 f2:Addr}{d1 d2:FuncData}(F:Fun K "is_formed_row" "is_formed_row" Za7 f fd)(LW:Lib P w K mg base k "is_whole" ["thing"] (En K) f1 d1)(LP:Lib P w K mg base k "is_formed_place" ["thing"] V1 f2 d2)(mi:mg "isinstance" = none)(mT:mg "tuple" = none)(ml:mg "len" = none):FnOk P w K mg base Yr (k+1) f fd ["thing"] R9:=by
 refine F.ok Zkt (fun vs H Q E h=>?_) (fun cdv A outer s H vs Q E hr h=>?_)
 ·obtain⟨a,r,rfl,_⟩:=h
  rfl
 obtain⟨a,r,rfl,⟨p,h1,h2⟩,fm,q⟩:=h;refine⟨_,Zh (J5 (PW.pt (Qu (X7 (Yi (Jr Ez rfl mi Yj (Za (pv 0) (Za (Bb (v:=.ty "tuple") rfl mT Yf rfl) Zg))) (fun _=>rfl))) (Qf (Ji Vj (Jr Jy rfl ml Jq (Za (pv 0) Zg)) Zn (Jg _))))) (Zm (Z9 Up)) Jl)
  (Zm (Z9 (Xz (Z1 LP.ok hr rfl LP.mg LP.kp LP.bd .nil Ja (Za (Jw Jz (pv 0) Zn (fun _ _=>rfl)) Zg)) (Xz (Z1 LW.ok hr rfl LW.mg LW.kp LW.bd .nil Ja (Za (Jw Jz (pv 0) Zn (fun _ _=>rfl)) Zg)) (U8 (Kq (Ys Aa (Jw Jz (pv 0) Zn (fun _ _=>rfl)) Q9 (Jg _)) (U8 (Z1 LW.ok hr rfl LW.mg LW.kp LW.bd .nil Ja (Za (Jw Jz (pv 0) Zn (fun _ _=>rfl)) Zg))))))))),?_⟩
 refine⟨_,rfl,_,_,_,true,rfl,.tup h1,rfl,_,rfl,Yb ?_⟩;refine⟨_,rfl,a,_,rfl,.inr (SqT.of h1),rfl,_,rfl,Yb ?_⟩;refine⟨_,rfl,a,_,_,_,rfl,rfl,SqT.of h1,(rfl:X6 [V.ref p,V.int r.nd,El r.cd] 0=some (V.ref p)),p,r.hs,r.lead,r.ys,rfl,h2,fm.lh,fm.ly,fun H1 s1=>⟨true,rfl,Ym ?_⟩⟩;refine⟨_,rfl,a,_,_,_,rfl,rfl,SqT.of (s1 _ _ h1),(rfl:X6 [V.ref p,V.int r.nd,El r.cd] 1=some (V.int r.nd)),_,rfl,true,rfl,Ym ?_⟩;refine⟨_,rfl,a,_,_,_,rfl,rfl,SqT.of (s1 _ _ h1),(rfl:X6 [V.ref p,V.int r.nd,El r.cd] 2=some (El r.cd)),?_⟩;cases hc:r.cd with
 | none=>exact⟨rfl,true,rfl,Ym (q H1 s1)⟩
 | some c=>
  rw[hc] at h1;exact⟨rfl,false,rfl,Yb ⟨_,rfl,a,_,_,_,rfl,rfl,SqT.of (s1 _ _ h1),(rfl:X6 [V.ref p,V.int r.nd,El (some c)] 2=some (V.int c)),c,rfl,q H1 s1⟩⟩
abbrev Za1:Stmt:=top 38
abbrev O1:Stmt:=top 39
abbrev Va:Stmt:=top 40
abbrev Za6:Stmt:=top 41
def Nf(rs:List Rw)(k:Ug):Int:=rs.foldl (fun a r=>if r.k=k then max r.nd a else a) 0
theorem Zi3(rs:List Rw)(r:Rw)(k:Ug):Nf (rs++[r]) k=if r.k=k then max r.nd (Nf rs k) else Nf rs k:=by
 unfold Nf;rw[List.foldl_append];rfl
def Xr(as:List (Rw×Addr)):List V:=as.map fun e=>.ref e.2
def RwsH(H:Hp)(as:List (Rw×Addr)):Prop:=∀ e∈as,IsRw H e.1 e.2∧e.1.Fm
theorem RwsH.same{H H':Hp}{as:List (Rw×Addr)}(h:RwsH H as)(s:Same H H'):RwsH H' as:=fun e he=>⟨(h e he).1.same s,(h e he).2⟩
structure NdD(P:Program)(w:World)(H:Hp)(d:Addr)(nd:Ug→Int)(n:Nat):Prop where
 o:∃ es,H d=some (Xj (Nn P w) d es)∧GKeys (Nn P w) H es∧es.length≤n∧∀ k,(Rf es k).getD (.int 0) = .int (nd k)
theorem NdD.same{H H':Hp}{d:Addr}{nd:Ug→Int}{n:Nat}(h:NdD P w H d nd n)(s:Same H H'):NdD P w H' d nd n:=by
 obtain⟨es,h1,h2,h3,h4⟩:=h.o;exact⟨es,s _ _ h1,h2.mono _ (fun b ys e=>s _ _ e),h3,h4⟩
theorem Zr5(i j:Int):(if j > i then j else i)=max i j:=by
 rw[Int.max_def];split<;>split<;>omega
def Oa(P:Program)(w:World):Sp:=fun vs H Q _=>∃(l:Addr) (as:List (Rw×Addr)),vs=[.ref l]∧H l=some (.lst (Xr as))∧RwsH H as∧as.length < sizeLine ∧
 ∀ d H',Same H H'→NdD P w H' d (Nf (as.map (·.1))) as.length→Q (.ref d) H'
abbrev Zow:List Str:=["paper","needs","row"]
theorem scNeeds:FnScope Zow ["paper"] (Zq Za1):=Uy (by decide +kernel)
theorem Zil{k:Nat}{f1:Addr}{d1:FuncData}(F:Fun K "greatest_needs" "greatest_needs" Za1 f fd)(LF:Lib P w K mg base k "is_formed_row" ["thing"] R9 f1 d1)(mM:mg "max" = none):FnOk P w K mg base Yr (k+1) f fd ["paper"] (Oa P w):=by
 refine F.ok scNeeds (fun vs H Q E h=>?_) (fun cdv A outer s H vs Q E hr h=>?_)
 ·obtain⟨l,as,rfl,_⟩:=h
  rfl
 obtain⟨l,as,rfl,hl,hR,hn,q⟩:=h;have hu:=Jx (Nat.add_le_add_left (by decide:20≤64) _) hr.units;refine⟨_,Zh (Jf (i:=1) scNeeds.nd rfl (Or.inl rfl) (Zc6 (Nn P w)))
  (Zh (Uv PassesOwn.never rfl (Y6 (pv 0)) (Jj (i:=2) scNeeds.nd rfl (Or.inl rfl))
   (Zm (J5 (Yi (Z1 LF.ok hr rfl LF.mg LF.kp LF.bd .nil Ja (Za (pv 2) Zg)) (fun _=>rfl))
    (Zm (O5 (Nn P w) hu (pv 1) (Jw Jz (pv 2) Zn (fun _ _=>rfl)) (Jr (Zfx rfl) rfl mM PyProof.Rows.boot_max (Za (Jw Jz (pv 2) Zn (fun _ _=>rfl)) (Za (Tl (Nn P w) hu (pv 1) (Jw Jz (pv 2) Zn (fun _ _=>rfl)) Zn ⟨rfl,rfl,rfl,rfl⟩) Zg))) rfl)) Jl)))
  (Zm (Z9 (pv 1)))),?_⟩
 refine fun d hd=>?_;have s1:=Z5 hd (Xj (Nn P w) d []);refine⟨_,rfl,l,rfl,⟨_,SqL.of (s1 _ _ hl)⟩,Xd (xs:=Xr as) (fun i σ H2=>Same H H2∧NdD P w H2 d (Nf ((as.map (·.1)).take i)) i∧∃ x,σ=[some (.ref l),some (.ref d),x]) ⟨s1,⟨[],Zo,(fun e he=>nomatch he),Zs _,fun k=>rfl⟩,none,rfl⟩ (fun i σ H2 _ z=>SqL.of (z.1 _ _ hl)) (fun i x σ H2 hx z=>?_) (fun σ H2 z=>?_)⟩
 ·obtain⟨s2,⟨es,e1,e2,e3,e4⟩,x0,rfl⟩:=z
  obtain⟨⟨r,a⟩,hi,rfl⟩:∃ e,as[i]? = some e∧x = .ref e.2:=by
   unfold Xr at hx;rw[Z4] at hx;obtain⟨e,he,rfl⟩:=Js.mp hx;exact⟨e,he,rfl⟩
  have il:i < as.length:=(Zx.mp hi).1;obtain⟨hr1,fm⟩:=(hR.same s2) _ (Zl hi);have tk:(as.map (·.1)).take (i+1)=(as.map (·.1)).take i++[r]:=by
   rw[U0,Z4,hi];rfl
  refine⟨_,rfl,a,r,rfl,hr1,fm,fun H3 s3=>⟨true,rfl,Ym ?_⟩⟩;obtain⟨p,h1,h2⟩:=hr1.same s3;have g3:=s3 _ _ e1;have k3:GKeys (Nn P w) H3 es:=e2.mono _ (fun b ys e=>s3 _ _ e);have kp:=Xs h2;refine⟨_,rfl,a,_,_,_,rfl,rfl,SqT.of h1,(rfl:X6 [V.ref p,V.int r.nd,El r.cd] 1=some (V.int r.nd)),?_⟩;refine⟨_,rfl,d,es,rfl,g3,k3,_,rfl,a,_,_,_,rfl,rfl,SqT.of h1,(rfl:X6 [V.ref p,V.int r.nd,El r.cd] 0=some (V.ref p)),es,r.k,p,g3,k3,rfl,kp,r.nd,Nf ((as.map (·.1)).take i) r.k,?_,?_⟩
  ·rw[e4]
  refine⟨_,rfl,_,rfl,a,_,_,_,rfl,rfl,SqT.of h1,(rfl:X6 [V.ref p,V.int r.nd,El r.cd] 0=some (V.ref p)),d,es,r.k,p,rfl,g3,k3,rfl,kp,by omega,?_⟩;have gt:∀ ys,Xj (Nn P w) d es ≠ .tup ys:=fun ys e=>by cases e
  have tt:∀ b ys,H3 b=some (.tup ys)→upd H3 d (Xj (Nn P w) d (Rz es r.k p (.int (if Nf ((as.map (·.1)).take i) r.k > r.nd then Nf ((as.map (·.1)).take i) r.k else r.nd)))) b=some (.tup ys):=fun b ys e=>by
   rw[Jh (Bj e g3 gt)];exact e
  refine⟨fun b o e=>?_,⟨_,Zo,(Zfl _ k3 kp).mono _ tt,by have:=So (es:=es) (k:=r.k) (b:=p) (v:=.int (if Nf ((as.map (·.1)).take i) r.k > r.nd then Nf ((as.map (·.1)).take i) r.k else r.nd));omega,fun j=>?_⟩,_,rfl⟩
  ·have nb:b≠d:=fun z=>by rw[z,hd] at e;cases e
   rw[Jh nb];exact(s2.trans s3) _ _ e
  ·rw[Zl9,tk,Zi3]
   by_cases c:j=r.k
   ·rw[Zu c,Zu c.symm,Zr5,c]
    rfl
   ·rw[Zk c,Zk (fun z=>c z.symm)]
    exact e4 j
 ·obtain⟨s2,N,x,rfl⟩:=z
  refine⟨_,rfl,q d H2 s2 ?_⟩;have el:(Xr as).length=as.length:=Zj ..;rw[el,List.take_of_length_le (by rw[Zj];exact Zs _)] at N;exact N
noncomputable def covB (fx:Fx) (t:Option Nat) (side:Nat) (nd:Ug→Int) (hs:List Nat) (lead:Nat) (ys:List Nat) (c:Nat) (need:Int):Bool:=
 decide (need - ((Qp side (nxF fx t hs lead ys (hs.getD ((lead+ys.length) % fx.n) 0) c).2.2.2:Nat):Int)≤nd (X5 (nxF fx t hs lead ys (hs.getD ((lead+ys.length) % fx.n) 0) c).1 (nxF fx t hs lead ys (hs.getD ((lead+ys.length) % fx.n) 0) c).2.1 (nxF fx t hs lead ys (hs.getD ((lead+ys.length) % fx.n) 0) c).2.2.1))
theorem Ao{fx:Fx}{t:Option Nat}{side:Nat}{nd:Ug→Int}{hs:List Nat}{lead:Nat}{ys:List Nat}{m h c:Nat}{need:Int}{hs':List Nat}{lead':Nat}{ys':List Nat}{tk:Option Nat}(Pl:Plc fx hs lead ys m)(eh:hs[(lead+ys.length) % fx.n]? = some h)(hb:h.testBit c=true)(N:Nxt fx t hs lead ys h c hs' lead' ys' tk) :
  covB fx t side nd hs lead ys c need=decide (need - ((Qp side tk:Nat):Int)≤nd (X5 hs' lead' ys')):=by
 have eg:hs.getD ((lead+ys.length) % fx.n) 0=h:=by rw[Zp,eh];rfl
 unfold covB;rw[eg,Tx Pl eh hb N]
def Gw(P:Program)(w:World)(CT CG:Addr):Sp:=fun vs H Q _=>∃(gm x d p:Addr) (t:Option Nat) (fx:Fx) (side:Nat) (nd:Ug→Int) (n:Nat) (hs ys:List Nat) (lead m h c:Nat) (need:Int),vs=[.ref gm,.int (side:Nat),.ref d,.ref p,.int (c:Nat),.int need]∧GamH CT CG fx t H gm x∧NdD P w H d nd n∧(∀ k,0≤nd k)∧IsPl H p hs lead ys∧Plc fx hs lead ys m∧hs[(lead+ys.length) % fx.n]? = some h∧h.testBit c=true ∧
 ∀ H',Same H H'→Q (.bl (covB fx t side nd hs lead ys c need)) H'
abbrev Zlw:List Str:=["game","side","needs","place","card","need","step","rest"]
theorem scCovers:FnScope Zlw ["game","side","needs","place","card","need"] (Zq O1):=Uy (by decide +kernel)
theorem Ze4{k:Nat}{CT CG f1 f2:Addr}{d1 d2:FuncData}(F:Fun K "covers" "covers" O1 f fd)(LB:Lib P w K mg base k "behind" ["game","place","card"] (Xo K CT CG) f1 d1)(LG:Lib P w K mg base k "gain" ["side","taker"] Bm f2 d2):FnOk P w K mg base Yr (k+1) f fd ["game","side","needs","place","card","need"] (Gw P w CT CG):=by
 refine F.ok scCovers (fun vs H Q E h=>?_) (fun cdv A outer s H vs Q E hr h=>?_)
 ·obtain⟨gm,x,d,p,t,fx,side,nd,n,hs,ys,lead,m,h,c,need,rfl,_⟩:=h
  rfl
 obtain⟨gm,x,d,p,t,fx,side,nd,n,hs,ys,lead,m,h,c,need,rfl,G,D,nd0,hp,Pl,eh,hb,q⟩:=h;have hu:=Jx (Nat.add_le_add_left (by decide:20≤64) _) hr.units;refine⟨_,Zh (Jf (i:=6) scCovers.nd rfl (Or.inl rfl) (Z1 LB.ok hr rfl LB.mg LB.kp LB.bd .nil Ja (Za (pv 0) (Za (pv 3) (Za (pv 4) Zg)))))
  (Zh (Jf (i:=7) scCovers.nd rfl (Or.inl rfl) (Jd Nr (pv 5) (Z1 LG.ok hr rfl LG.mg LG.kp LG.bd .nil Ja (Za (pv 1) (Za (Jw Jz (pv 6) Zn (fun _ _=>rfl)) Zg)))))
  (Zm (Z9 (Kq (Ys M1 (pv 7) Zn (Jg _)) (U8 (Ys Tt (Tl (Nn P w) hu (pv 2) (Jw Jz (pv 6) Zn (fun _ _=>rfl)) Zn ⟨rfl,rfl,rfl,rfl⟩) (pv 7) (Jg _))))))),?_⟩
 refine⟨_,rfl,_,rfl,_,rfl,gm,x,p,t,fx,hs,ys,lead,m,h,c,rfl,G,hp,Pl,eh,hb,fun st p' hs' lead' ys' tk H2 s2 N hst hp'=>?_⟩;have e:=Ao (side:=side) (nd:=nd) (need:=need) Pl eh hb N;refine⟨_,rfl,_,rfl,_,rfl,st,_,_,_,rfl,rfl,SqT.of hst,(rfl:X6 [V.ref p',Au tk] 1=some (Au tk)),side,tk,rfl,_,_,rfl,rfl,?_⟩;obtain⟨es,g1,g2,g3,g4⟩:=(D.same s2).o;refine⟨_,rfl,_,_,rfl,rfl,_,rfl,?_⟩;by_cases c0:need - ((Qp side tk:Nat):Int)≤0
 ·refine X2 (Zd c0) (Ym ?_)
  have z:=q H2 s2;rw[e,Zd (Int.le_trans c0 (nd0 _))] at z;exact z
 ·refine X2 (Zc c0) (Yb ?_)
  refine⟨_,rfl,d,es,rfl,g1,g2,_,rfl,st,_,_,_,rfl,rfl,SqT.of hst,(rfl:X6 [V.ref p',Au tk] 0=some (V.ref p')),es,X5 hs' lead' ys',p',g1,g2,rfl,Xs hp',_,rfl,nd (X5 hs' lead' ys'),_,?_,rfl,?_⟩
  ·rw[g4]
  ·have z:=q H2 s2
   rw[e] at z;exact z
def Zls:V→Nat
 | .int i=>i.toNat
 | _=>0
theorem Sb(c:Nat):Zls (.int ((c:Nat):Int))=c:=Z2 c
theorem Zdd{fx:Fx}{t:Option Nat}{ys:List Nat}{h:Nat}(h32:h < 4294967296):(Ur fx t ys h).length≤1000:=by
 unfold Ur Y3;refine Jc (List.length_filter_le _ _) ?_;rw[J7]
 decide
def lfN(hs:List Nat):Nat:=Qo true (hs.map (Xg 32))
theorem Zbv{fx:Fx}{hs:List Nat}{lead:Nat}{ys:List Nat}{m:Nat}(ok:fx.Ok)(Pl:Plc fx hs lead ys m):lfN hs=m:=by
 obtain⟨m1,m2⟩:=Pl.max ok;exact Kn m1 m2
noncomputable def rtB (fx:Fx) (t:Option Nat) (side:Nat) (nd:Ug→Int) (r:Rw):Bool:=
 decide (1≤r.nd) && (decide (r.nd≤((lfN r.hs:Nat):Int)) && (if side.testBit ((r.lead+r.ys.length) % fx.n)=true
  then(match r.cd with | some c=>(moveL fx t r.hs r.lead r.ys (lfN r.hs)).any (fun d=>decide (((d:Nat):Int)=c)) && covB fx t side nd r.hs r.lead r.ys c.toNat r.nd | none=>false)
  else(match r.cd with | some _=>false | none=>(moveL fx t r.hs r.lead r.ys (lfN r.hs)).all fun c=>covB fx t side nd r.hs r.lead r.ys c r.nd)))
theorem Ah(c:Int)(xs:List Nat):Sj (.int c) (vN xs)=xs.any fun d=>decide (((d:Nat):Int)=c):=by
 unfold Sj vN;rw[List.any_map];refine congrArg (fun g=>xs.any g) (funext fun d=>?_);show Rh (V.int ((d:Nat):Int)) (V.int c)=_;rfl
theorem Zjl(xs:List Nat):Sj .non (vN xs)=false:=by
 unfold Sj vN;rw[List.any_map];exact List.any_eq_false.mpr fun d _=>Zr
def R7(CT CG:Addr)(Ok:Fx→List Nat→Nat→List Nat→Bool→Prop):Sp:=fun vs H Q _=>∃(gm x p:Addr) (t:Option Nat) (fx:Fx) (hs ys:List Nat) (lead:Nat) (b:Bool),vs=[.ref gm,.ref p]∧GamH CT CG fx t H gm x∧IsPl H p hs lead ys∧Ok fx hs lead ys b∧∀ H',Same H H'→Q (.bl b) H'
def V0(P:Program)(w:World)(CT CG:Addr)(Ok:Fx→List Nat→Nat→List Nat→Bool→Prop):Sp:=fun vs H Q _=>∃(gm x d a:Addr) (t:Option Nat) (fx:Fx) (side:Nat) (nd:Ug→Int) (n:Nat) (r:Rw) (b:Bool),vs=[.ref gm,.int (side:Nat),.ref d,.ref a]∧GamH CT CG fx t H gm x∧Mp t∧NdD P w H d nd n∧(∀ k,0≤nd k)∧IsRw H r a∧r.Fm∧Ok fx r.hs r.lead r.ys b ∧
 ∀ H',Same H H'→Q (.bl (b && rtB fx t side nd r)) H'
abbrev Zi7:List Str:=["game","side","needs","row","place","need","choice"]
theorem scRight:FnScope Zi7 ["game","side","needs","row"] (Zq Va):=Uy (by decide +kernel)
theorem Zbk{k:Nat}{CT CG f1 f2 f3 f4 f5 f6 f7:Addr}{d1 d2 d3 d4 d5 d6 d7:FuncData}{Ok:Fx→List Nat→Nat→List Nat→Bool→Prop}(hOk:∀ fx hs lead ys,Ok fx hs lead ys true→∃ m,Plc fx hs lead ys m)
  (F:Fun K "is_right" "is_right" Va f fd) (LF:Lib P w K mg base k "is_formed_row" ["thing"] R9 f1 d1) (LI:Lib P w K mg base k "is_place" ["game","place"] (R7 CT CG Ok) f2 d2) (LL:Lib P w K mg base k "left" ["place"] (Gu K) f3 d3) (LM:Lib P w K mg base k "moves" ["game","place"] (Ql CT CG) f4 d4)
  (LH:Lib P w K mg base k "has_seat" ["side","seat"] Qe f5 d5) (LT:Lib P w K mg base k "turn_at" ["game","place"] (Qm CT CG) f6 d6) (LC:Lib P w K mg base k "covers" ["game","side","needs","place","card","need"] (Gw P w CT CG) f7 d7) (mA:mg "all" = none) :
  FnOk P w K mg base Yr (k+1) f fd ["game","side","needs","row"] (V0 P w CT CG Ok):=by
 refine F.ok scRight (fun vs H Q E h=>?_) (fun cdv A outer s H vs Q E hr h=>?_)
 ·obtain⟨gm,x,d,a,t,fx,side,nd,n,r,b,rfl,_⟩:=h
  rfl
 obtain⟨gm,x,d,a,t,fx,side,nd,n,r,b,rfl,G,tb,D,nd0,hR,fm,hO,q⟩:=h;refine⟨_,Zh (J5 (PW.pt (Qu (X7 (Yi (Z1 LF.ok hr rfl LF.mg LF.kp LF.bd .nil Ja (Za (pv 3) Zg)) (fun _=>rfl))) (Qf (X7 (Yi (Z1 LI.ok hr rfl LI.mg LI.kp LI.bd .nil Ja (Za (pv 0) (Za (Jw Jz (pv 3) Zn (fun _ _=>rfl)) Zg))) (fun _=>rfl)))))) (Zm (Z9 Up)) Jl)
  (Zh (Jf (i:=4) scRight.nd rfl (Or.inr rfl) (Jw Jz (pv 3) Zn (fun _ _=>rfl)))
  (Zh (Jf (i:=5) scRight.nd rfl (Or.inr rfl) (Jw Jz (pv 3) Zn (fun _ _=>rfl)))
  (Zh (J5 (PW.pt (Qu (Ji M0 (pv 5) Zn (Jg _)) (Qf (Ji Ek (pv 5) (Z1 LL.ok hr rfl LL.mg LL.kp LL.bd .nil Ja (Za (pv 4) Zg)) (Jg _))))) (Zm (Z9 Up)) Jl)
  (Zh (Jf (i:=6) scRight.nd rfl (Or.inl rfl) (Z1 LM.ok hr rfl LM.mg LM.kp LM.bd .nil Ja (Za (pv 0) (Za (pv 4) Zg))))
  (Zh (J5 (Yi (Z1 LH.ok hr rfl LH.mg LH.kp LH.bd .nil Ja (Za (pv 1) (Za (Z1 LT.ok hr rfl LT.mg LT.kp LT.bd .nil Ja (Za (pv 0) (Za (pv 4) Zg))) Zg))) (fun _=>rfl))
   (Zm (Z9 (Xz (Ys Rb (Jw Jz (pv 3) Zn (fun _ _=>rfl)) (pv 6) rfl) (U8 (Z1 LC.ok hr rfl LC.mg LC.kp LC.bd .nil Ja (Za (pv 0) (Za (pv 1) (Za (pv 2) (Za (pv 4) (Za (Jw Jz (pv 3) Zn (fun _ _=>rfl)) (Za (pv 5) Zg)))))))))) ) Jl)
  (Zm (Z9 (Xz (Ys Aa (Jw Jz (pv 3) Zn (fun _ _=>rfl)) Q9 (Jg _)) (U8 (Jr (Bh rfl) rfl mA PyProof.Rows.boot_all (Za (Ud ["card","game","side","needs","place","need"] [none,some 0,some 1,some 2,some 4,some 5] rfl (Blk.by (sc:=Zq Va) (N0:=Zi7) rfl rfl (by decide +kernel)) (Y6 (pv 6)) (fun C s₀ H₀ ex=>Jj (i:=0) (show(["card","game","side","needs","place","need"]:List Str).Nodup by decide +kernel) rfl (Or.inl rfl)) (fun C s₀ H₀ ex=>U5)
   (fun C s₀ H₀ ex=>Z1 LC.ok hr rfl LC.mg LC.kp LC.bd .nil Ja (Za (pv 1) (Za (pv 2) (Za (pv 3) (Za (pv 4) (Za (pv 0) (Za (pv 5) Zg)))))))) Zg))))))))))),?_⟩
 have ok:=G.ok;refine⟨_,rfl,a,r,rfl,hR,fm,fun H1 s1=>⟨_,rfl,Yb ?_⟩⟩;obtain⟨p,hp0,hPl0⟩:=id hR;have a1:=s1 _ _ hp0;refine⟨_,rfl,_,rfl,a,_,_,_,rfl,rfl,SqT.of a1,(rfl:X6 [V.ref p,V.int r.nd,El r.cd] 0=some (V.ref p)),gm,x,p,t,fx,r.hs,r.ys,r.lead,b,rfl,G.same s1,hPl0.same s1,hO,fun H2 s2=>⟨_,rfl,?_⟩⟩;cases b with
 | false=>exact Ym (q H2 (s1.trans s2))
 | true=>
 refine Yb ?_;obtain⟨m,Pl⟩:=hOk _ _ _ _ hO;have em:=Zbv ok Pl;have s12:=s1.trans s2;have a2:=s12 _ _ hp0;refine⟨_,rfl,a,_,_,_,rfl,rfl,SqT.of a2,(rfl:X6 [V.ref p,V.int r.nd,El r.cd] 0=some (V.ref p)),?_⟩;refine⟨_,rfl,a,_,_,_,rfl,rfl,SqT.of a2,(rfl:X6 [V.ref p,V.int r.nd,El r.cd] 1=some (V.int r.nd)),?_⟩;refine⟨_,rfl,_,_,rfl,rfl,_,rfl,?_⟩;by_cases c1:r.nd < 1
 ·refine X2 (Zd c1) (Ym ?_)
  have z:=q H2 s12;unfold rtB at z;rw[Zc (by omega:¬ 1≤r.nd)] at z;exact z
 refine X2 (Zc c1) (Yb ?_);refine⟨_,rfl,_,rfl,p,fx,r.hs,r.ys,r.lead,m,rfl,ok,hPl0.same s12,Pl,fun H3 s3=>?_⟩;have s13:=s12.trans s3;refine⟨_,_,rfl,rfl,_,rfl,?_⟩;by_cases c2:((m:Nat):Int) < r.nd
 ·refine X2 (Zd c2) (Ym ?_)
  have z:=q H3 s13;unfold rtB at z;rw[em,Zc (by omega:¬ r.nd≤((m:Nat):Int)),Bool.false_and,Bool.and_false,Bool.and_false] at z;exact z
 refine X2 (Zc c2) (Yb ?_);have m0:m≠0:=by omega
 unfold rtB at q;rw[em,Zd (by omega:1≤r.nd),Zd (by omega:r.nd≤((m:Nat):Int)),Bool.true_and,Bool.true_and,Bool.true_and] at q;obtain⟨h,eh,epc⟩:=Pl.turn ok;have h32:=Pl.h32 ok (Zl eh);have eg:r.hs.getD ((r.lead+r.ys.length) % fx.n) 0=h:=by rw[Zp,eh];rfl
 have eM:moveL fx t r.hs r.lead r.ys m=Ur fx t r.ys h:=by
  unfold moveL;rw[Zk m0,eg]
 refine⟨_,rfl,_,rfl,gm,x,p,t,fx,r.hs,r.ys,r.lead,m,rfl,G.same s13,tb,hPl0.same s13,Pl,fun lm H4 s4 hlm hm4=>?_⟩;have s14:=s13.trans s4;refine⟨_,rfl,_,rfl,_,rfl,gm,x,p,t,fx,r.hs,r.ys,r.lead,m,rfl,G.same s14,hPl0.same s14,Pl,fun H5 s5=>?_⟩;have s15:=s14.trans s5;have tv:Nj fx r.lead r.ys m = .int (((r.lead+r.ys.length) % fx.n:Nat):Int):=Zk m0;refine⟨side,(r.lead+r.ys.length) % fx.n,?_,?_⟩
 ·rw[tv]
  rfl
 refine⟨_,rfl,?_⟩;have a5:=s15 _ _ hp0;have m5:=s5 _ _ hm4;have mfl:(vN (moveL fx t r.hs r.lead r.ys m)).all U9=true:=J9.mpr fun y hy=>by
  obtain⟨c,_,rfl⟩:=Zv.mp hy;rfl
 cases hsd:side.testBit ((r.lead+r.ys.length) % fx.n) with
 | true=>
  rw[hsd,Zu rfl] at q;refine Ym ⟨_,rfl,a,_,_,_,rfl,rfl,SqT.of a5,(rfl:X6 [V.ref p,V.int r.nd,El r.cd] 2=some (El r.cd)),?_⟩;cases hc:r.cd with
  | none=>
   rw[hc] at q;refine⟨_,rfl,lm,_,rfl,.inl (SqL.of m5),rfl,mfl,_,rfl,?_⟩;refine X2 (Zjl _) (Yb ?_);exact q H5 s15
  | some c=>
   rw[hc] at q;dsimp only at q;refine⟨_,rfl,lm,_,rfl,.inl (SqL.of m5),rfl,mfl,_,rfl,?_⟩;cases hin:(moveL fx t r.hs r.lead r.ys m).any fun d=>decide (((d:Nat):Int)=c) with
   | false=>
    rw[hin,Bool.false_and] at q;refine X2 ((Ah c _).trans hin) (Yb ?_);exact q H5 s15
   | true=>
    rw[hin,Bool.true_and] at q;refine X2 ((Ah c _).trans hin) (Ym ?_);obtain⟨e,he,ee⟩:=List.any_eq_true.mp hin;have ec:c=((e:Nat):Int):=(Ju ee).symm;subst ec;rw[eM] at he;have hb:=(Qa h32 he).1;rw[Z2] at q;rw[hc] at a5;refine⟨_,rfl,_,rfl,_,rfl,_,rfl,_,rfl,a,_,_,_,rfl,rfl,SqT.of a5,(rfl:X6 [V.ref p,V.int r.nd,El (some ((e:Nat):Int))] 2=some (V.int ((e:Nat):Int))),_,rfl,gm,x,d,p,t,fx,side,nd,n,r.hs,r.ys,r.lead,m,h,e,r.nd,rfl,G.same s15,D.same s15,nd0,hPl0.same s15,Pl,eh,hb,fun H6 s6=>q H6 (s15.trans s6)⟩
 | false=>
  rw[hsd,Zk Zr] at q;refine Yb ⟨_,rfl,a,_,_,_,rfl,rfl,SqT.of a5,(rfl:X6 [V.ref p,V.int r.nd,El r.cd] 2=some (El r.cd)),?_⟩;cases hc:r.cd with
  | some c=>
   rw[hc] at q;exact⟨rfl,false,rfl,Yb (q H5 s15)⟩
  | none=>
   rw[hc] at q;dsimp only at q;refine⟨rfl,true,rfl,Ym ?_⟩;refine⟨_,rfl,lm,rfl,⟨_,SqL.of m5⟩,Qj (K:=K) (xs:=vN (moveL fx t r.hs r.lead r.ys m)) (fun _=>true) (fun y=>.bl (covB fx t side nd r.hs r.lead r.ys (Zls y) r.nd)) (SqL.of m5) (J2 _ (by rw[J1,eM];exact Zdd h32)) (fun y H6 hy sm R hR=>hR H6 (Same.refl H6)) (fun y H6 hy hp6 s6 R hR6=>?_) (fun lq H6 s6 hlq hq6=>?_)⟩
   ·obtain⟨c,hcm,rfl⟩:=Zv.mp hy
    rw[eM] at hcm;have hb:=(Qa h32 hcm).1;have s16:=s15.trans s6;refine⟨_,rfl,_,rfl,_,rfl,_,rfl,_,rfl,_,rfl,gm,x,d,p,t,fx,side,nd,n,r.hs,r.ys,r.lead,m,h,c,r.nd,rfl,G.same s16,D.same s16,nd0,hPl0.same s16,Pl,eh,hb,fun H7 s7=>?_⟩;have z:=hR6 H7 s7;rw[Sb] at z;exact z
   ·have eb:((vN (moveL fx t r.hs r.lead r.ys m)).filter fun _=>true).map (fun y=>V.bl (covB fx t side nd r.hs r.lead r.ys (Zls y) r.nd))=((moveL fx t r.hs r.lead r.ys m).map fun c=>covB fx t side nd r.hs r.lead r.ys c r.nd).map V.bl:=by
     rw[List.filter_eq_self.mpr fun _ _=>rfl];unfold vN;rw[Z7,Z7];refine Jv fun c _=>?_;show V.bl (covB fx t side nd r.hs r.lead r.ys (Zls (V.int ((c:Nat):Int))) r.nd)=_;rw[Sb];rfl
    rw[eb] at hq6;refine⟨lq,_,rfl,SqL.of hq6,?_⟩;have z:=q H6 (s15.trans s6);have ea:(((moveL fx t r.hs r.lead r.ys m).map fun c=>covB fx t side nd r.hs r.lead r.ys c r.nd).all id)=(moveL fx t r.hs r.lead r.ys m).all fun c=>covB fx t side nd r.hs r.lead r.ys c r.nd:=by
     rw[List.all_map];rfl
    rw[ea];exact z
theorem Tz(rs:List Rw)(k:Ug):0≤Nf rs k:=by
 unfold Nf;have:∀(l:List Rw) (a:Int),0≤a→0≤l.foldl (fun a r=>if r.k=k then max r.nd a else a) a:=by
  intro l
  induction l with
  | nil=>exact fun a h=>h
  | cons r l ih=>
   intro a h;rw[List.foldl_cons];refine ih _ ?_;split
   ·exact Int.le_trans h (Int.le_max_right _ _)
   ·exact h
 exact this rs 0 (Int.le_refl _)
noncomputable def hldB (fx:Fx) (t:Option Nat) (side:Nat) (okb:Rw→Bool) (rs:List Rw) (k:Ug) (need:Int):Bool:=
 (rs.all fun r=>okb r && rtB fx t side (Nf rs) r) && decide (need≤Nf rs k)
def R8(P:Program)(w:World)(CT CG:Addr)(Ok:Fx→List Nat→Nat→List Nat→Bool→Prop):Sp:=fun vs H Q _=>∃(gm x l p:Addr) (t:Option Nat) (fx:Fx) (side:Nat) (as:List (Rw×Addr)) (okb:Rw→Bool) (hs:List Nat) (lead:Nat) (ys:List Nat) (need:Int),vs=[.ref gm,.int (side:Nat),.ref l,.ref p,.int need]∧GamH CT CG fx t H gm x∧Mp t∧H l=some (.lst (Xr as))∧RwsH H as∧as.length < sizeLine∧(∀ e∈as,Ok fx e.1.hs e.1.lead e.1.ys (okb e.1))∧IsPl H p hs lead ys ∧
 ∀ H',Same H H'→Q (.bl (hldB fx t side okb (as.map (·.1)) (X5 hs lead ys) need)) H'
abbrev Zox:List Str:=["game","side","paper","place","need","needs","row"]
theorem scHolds:FnScope Zox ["game","side","paper","place","need"] (Zq Za6):=Uy (by decide +kernel)
theorem Zit{k:Nat}{CT CG f1 f2:Addr}{d1 d2:FuncData}{Ok:Fx→List Nat→Nat→List Nat→Bool→Prop}(F:Fun K "holds" "holds" Za6 f fd)(LN:Lib P w K mg base k "greatest_needs" ["paper"] (Oa P w) f1 d1)(LR:Lib P w K mg base k "is_right" ["game","side","needs","row"] (V0 P w CT CG Ok) f2 d2) :
  FnOk P w K mg base Yr (k+1) f fd ["game","side","paper","place","need"] (R8 P w CT CG Ok):=by
 refine F.ok scHolds (fun vs H Q E h=>?_) (fun cdv A outer s H vs Q E hr h=>?_)
 ·obtain⟨gm,x,l,p,t,fx,side,as,okb,hs,lead,ys,need,rfl,_⟩:=h
  rfl
 obtain⟨gm,x,l,p,t,fx,side,as,okb,hs,lead,ys,need,rfl,G,tb,hl,hR,hn,hO,hp,q⟩:=h;have hu:=Jx (Nat.add_le_add_left (by decide:20≤64) _) hr.units;refine⟨_,Zh (Jf (i:=5) scHolds.nd rfl (Or.inl rfl) (Z1 LN.ok hr rfl LN.mg LN.kp LN.bd .nil Ja (Za (pv 2) Zg)))
  (Zh (Uv PassesOwn.never rfl (Y6 (pv 2)) (Jj (i:=6) scHolds.nd rfl (Or.inl rfl))
   (Zm (J5 (X7 (Yi (Z1 LR.ok hr rfl LR.mg LR.kp LR.bd .nil Ja (Za (pv 0) (Za (pv 1) (Za (pv 5) (Za (pv 6) Zg))))) (fun _=>rfl))) (Zm (Z9 Up)) Jl)))
  (Zm (Z9 (Kq (Ys M1 (pv 4) Zn (Jg _)) (U8 (Ys Tt (Tl (Nn P w) hu (pv 5) (pv 3) Zn ⟨rfl,rfl,rfl,rfl⟩) (pv 4) (Jg _))))))),?_⟩
 refine⟨_,rfl,l,as,rfl,hl,hR,hn,fun d H1 s1 D=>?_⟩;refine⟨_,rfl,l,rfl,⟨_,SqL.of (s1 _ _ hl)⟩,Xd (xs:=Xr as) (fun i σ H2=>Same H1 H2∧((as.map (·.1)).take i).all (fun r=>okb r && rtB fx t side (Nf (as.map (·.1))) r)=true∧∃ z,σ=[some (.ref gm),some (.int (side:Nat)),some (.ref l),some (.ref p),some (.int need),some (.ref d),z]) ⟨Same.refl H1,rfl,none,rfl⟩ (fun i σ H2 _ z=>SqL.of ((s1.trans z.1) _ _ hl)) (fun i v σ H2 hv z=>?_) (fun σ H2 z=>?_)⟩
 ·obtain⟨s2,al,z0,rfl⟩:=z
  obtain⟨⟨r,a⟩,hi,rfl⟩:∃ e,as[i]? = some e∧v = .ref e.2:=by
   unfold Xr at hv;rw[Z4] at hv;obtain⟨e,he,rfl⟩:=Js.mp hv;exact⟨e,he,rfl⟩
  have me:=Zl hi;obtain⟨hr1,fm⟩:=(hR.same (s1.trans s2)) _ me;have tk:(as.map (·.1)).take (i+1)=(as.map (·.1)).take i++[r]:=by
   rw[U0,Z4,hi];rfl
  refine⟨_,rfl,_,rfl,_,rfl,_,rfl,gm,x,d,a,t,fx,side,_,_,r,okb r,rfl,G.same (s1.trans s2),tb,D.same s2,Tz _,hr1,fm,hO _ me,fun H3 s3=>⟨_,rfl,?_⟩⟩;cases c:okb r && rtB fx t side (Nf (as.map (·.1))) r with
  | false=>
   refine Ym ?_;have z:=q H3 ((s1.trans s2).trans s3);have nf:((as.map (·.1)).all fun r=>okb r && rtB fx t side (Nf (as.map (·.1))) r)=false:=List.all_eq_false.mpr ⟨r,Zv.mpr ⟨_,me,rfl⟩,by rw[c];exact Zr⟩;unfold hldB at z;rw[nf,Bool.false_and] at z;exact z
  | true=>
   refine Yb ⟨s2.trans s3,?_,_,rfl⟩;rw[tk,List.all_append,al,Bool.true_and,List.all_cons,c];rfl
 ·obtain⟨s2,al,z0,rfl⟩:=z
  have el:(Xr as).length=as.length:=Zj ..;rw[el,List.take_of_length_le (by rw[Zj];exact Zs _)] at al;have z:=q H2 (s1.trans s2);unfold hldB at z;rw[al,Bool.true_and] at z;obtain⟨es,g1,g2,g3,g4⟩:=(D.same s2).o;refine⟨_,rfl,_,_,rfl,rfl,_,rfl,?_⟩;by_cases c0:need≤0
  ·refine X2 (Zd c0) (Ym ?_)
   rw[Zd (Int.le_trans c0 (Tz _ _))] at z;exact z
  ·refine X2 (Zc c0) (Yb ?_)
   refine⟨_,rfl,d,es,rfl,g1,g2,_,rfl,es,X5 hs lead ys,p,g1,g2,rfl,Xs (hp.same (s1.trans s2)),_,rfl,Nf (as.map (·.1)) (X5 hs lead ys),_,?_,rfl,z⟩;rw[g4]
theorem Lib.mono{j k:Nat}{x:Str}{ps:List Str}{sp:Sp}{f1:Addr}{d1:FuncData}(L:Lib P w K mg base j x ps sp f1 d1)(h:j≤k):Lib P w K mg base k x ps sp f1 d1:=⟨L.ok.mono h,L.bd,L.kp,L.mg⟩
theorem Zbi{S:Bw}{k:Nat}{CT CG CR:Addr}(F:Fun K "made_at" "Reckoning.made_at" B9 f fd):FnOk P w K mg base Yr (k+1) f fd ["self","place"] (Qn P w CT CG CR S 0):=by
 refine F.ok Kh (fun vs H Q E h=>?_) (fun cdv A outer s H vs Q E hr h=>?_)
 ·obtain⟨r,gm,gx,d,p,t,fx,side,hs,lead,ys,m,es,rfl,_⟩:=h
  rfl
 obtain⟨r,gm,gx,d,p,t,fx,side,hs,lead,ys,m,es,rfl,tb,R,G,hp,Pl,_,hk,_⟩:=h;exact absurd hk (by omega)
structure RkM(P:Program)(w:World)(K:W.Frag)(mg:Str→Option Value)(base:Heap)(k kb:Nat)(S:Bw)(CT CG CR aA aP:Addr)(dA dP:FuncData):Prop where
 at_:FnOk P w K mg base Yr k aA dA ["self","place"] (Qn P w CT CG CR S (kb+1))
 pr:FnOk P w K mg base Yr k aP dP ["self","place"] (R6 P w CT CG CR S kb)
theorem Zlg{S:Bw}(hS:SCl S){j0:Nat}{CT CG CR aA aB aP aC f1 f2 f3:Addr}{dA dB dP dC d1 d2 d3:FuncData}(FA:Fun K "made_at" "Reckoning.made_at" B9 aA dA)(FB:Fun K "made_by" "Reckoning.made_by" Gc aB dB)(FP:Fun K "pairs" "Reckoning.pairs" G6 aP dP)(C:RkC K mg CR)
  (MA:Meth K CR "made_at" aA) (MB:Meth K CR "made_by" aB) (MP:Meth K CR "pairs" aP) (MC:Meth K CR "choice" aC) (BA:Binds K dA ["self","place"] []) (BB:Binds K dB ["self","place","card"] []) (BP:Binds K dP ["self","place"] []) (BC:Binds K dC ["self","place","pairs"] [])
  (FC:FnOk P w K mg base Yr j0 aC dC ["self","place","pairs"] (B7 P w CT CG CR S)) (LB:Lib P w K mg base j0 "behind" ["game","place","card"] (Xo K CT CG) f1 d1) (LG:Lib P w K mg base j0 "gain" ["side","taker"] Bm f2 d2) (LM:Lib P w K mg base j0 "moves" ["game","place"] (Ql CT CG) f3 d3) (j1:1≤j0) :
  ∀ kb,RkM P w K mg base (j0+3 * kb+3) kb S CT CG CR aA aP dA dP:=by
 intro kb;have step:∀(j kb:Nat),j0≤j→FnOk P w K mg base Yr j aA dA ["self","place"] (Qn P w CT CG CR S kb)→RkM P w K mg base (j+3) kb S CT CG CR aA aP dA dP:=fun j kb hj F0=>by
  have F1:=Zez hS (k:=j) FB C (LB.mono hj) (LG.mono hj) MA F0 BA;have F2:=Zii (k:=j+1) FP C (LM.mono (by omega)) MB F1 BB;have F3:=Ze0 (k:=j+2) FA C MP F2 BP MC (FC.mono (by omega)) BC;exact⟨F3,F2.mono (by omega)⟩
 induction kb with
 | zero=>
  have F0:FnOk P w K mg base Yr (j0 - 1+1) aA dA ["self","place"] (Qn P w CT CG CR S 0):=Zbi FA;have e:j0 - 1+1=j0:=by omega
  rw[e] at F0;exact step j0 0 (Zs _) F0
 | succ kb ih=>
  have z:=step (j0+3 * kb+3) (kb+1) (by omega) ih.at_;have e:j0+3 * kb+3+3=j0+3 * (kb+1)+3:=by omega
  rw[e] at z;exact z
inductive Rch(fx:Fx)(t:Option Nat):List Nat→Nat→List Nat→List Nat→Nat→List Nat→Prop where
 | here {hs:List Nat} {lead:Nat} {ys:List Nat}:Rch fx t hs lead ys hs lead ys
 | step {hs:List Nat} {lead:Nat} {ys:List Nat} {m h c:Nat} {hs':List Nat} {lead':Nat} {ys':List Nat} {tk:Option Nat} {a:List Nat} {b:Nat} {d:List Nat}:Plc fx hs lead ys m→hs[(lead+ys.length) % fx.n]? = some h→c∈Ur fx t ys h→Nxt fx t hs lead ys h c hs' lead' ys' tk→Rch fx t hs' lead' ys' a b d→Rch fx t hs lead ys a b d
theorem Rch.snoc{fx:Fx}{t:Option Nat}{hs:List Nat}{lead:Nat}{ys:List Nat}{a:List Nat}{b:Nat}{d:List Nat}(r:Rch fx t hs lead ys a b d){m h c:Nat}{a':List Nat}{b':Nat}{d':List Nat}{tk:Option Nat}(Pl:Plc fx a b d m)(eh:a[(b+d.length) % fx.n]? = some h)(hc:c∈Ur fx t d h)(N:Nxt fx t a b d h c a' b' d' tk):Rch fx t hs lead ys a' b' d':=by
 induction r with
 | here=>exact .step Pl eh hc N .here
 | step p1 p2 p3 p4 _ ih=>exact .step p1 p2 p3 p4 (ih Pl eh hc N)
def Sof(fx0:Fx)(t0:Option Nat)(hs0:List Nat)(lead0:Nat)(ys0:List Nat):Bw:=fun fx t hs lead ys=>fx=fx0∧t=t0∧Rch fx0 t0 hs0 lead0 ys0 hs lead ys
theorem Sof.cl(fx0:Fx)(t0:Option Nat)(hs0:List Nat)(lead0:Nat)(ys0:List Nat):SCl (Sof fx0 t0 hs0 lead0 ys0):=by
 intro fx t hs lead ys m h c hs' lead' ys' tk hS Pl eh hc N;obtain⟨rfl,rfl,r⟩:=hS;exact⟨rfl,rfl,r.snoc Pl eh hc N⟩
noncomputable def treeK (fx:Fx) (t:Option Nat):Nat→List Nat→Nat→List Nat→List Ug
 | 0,hs,lead,ys=>[X5 hs lead ys]
 | n+1,hs,lead,ys=>X5 hs lead ys :: (Ur fx t ys (hs.getD ((lead+ys.length) % fx.n) 0)).flatMap fun c=>
   treeK fx t n (nxF fx t hs lead ys (hs.getD ((lead+ys.length) % fx.n) 0) c).1 (nxF fx t hs lead ys (hs.getD ((lead+ys.length) % fx.n) 0) c).2.1 (nxF fx t hs lead ys (hs.getD ((lead+ys.length) % fx.n) 0) c).2.2.1
theorem Zd8(fx:Fx)(t:Option Nat)(n:Nat)(hs:List Nat)(lead:Nat)(ys:List Nat):X5 hs lead ys∈treeK fx t n hs lead ys:=by
 cases n with
 | zero=>exact Zy
 | succ n=>exact Zy
theorem Zgg{fx:Fx}(ok:fx.Ok){t:Option Nat}{hs:List Nat}{lead:Nat}{ys:List Nat}{a:List Nat}{b:Nat}{d:List Nat}(r:Rch fx t hs lead ys a b d):X5 a b d∈treeK fx t (J3 hs) hs lead ys:=by
 induction r with
 | here=>exact Zd8 ..
 | @step hs lead ys m h c hs' lead' ys' tk a b d Pl eh hc N _ ih=>
  have hb:=(Qa (Pl.h32 ok (Zl eh)) hc).1;obtain⟨m',Pl',_,tt,_,_⟩:=N.plc ok Pl eh hb;have et:J3 hs'+1=J3 hs:=tt;have eg:hs.getD ((lead+ys.length) % fx.n) 0=h:=by rw[Zp,eh];rfl
  rw[← et];refine Zz _ (List.mem_flatMap.mpr ⟨c,by rw[eg];exact hc,?_⟩);rw[eg,Tx Pl eh hb N];exact ih
theorem Zdo{α β:Type}(f:α→List β)(B:Nat):∀ l:List α,(∀ x∈l,(f x).length≤B)→(l.flatMap f).length≤l.length * B
 | [],_=>by simp
 | x :: l,h=>by
  rw[List.flatMap_cons,Z3,Jo,Nat.succ_mul];have h1:=h x Zy;have h2:=Zdo f B l fun y hy=>h y (Zz _ hy);omega
theorem A6{fx:Fx}(ok:fx.Ok){t:Option Nat}:∀(n:Nat) {hs:List Nat} {lead:Nat} {ys:List Nat} {m:Nat},Plc fx hs lead ys m→J3 hs=n→(treeK fx t n hs lead ys).length≤Sn n
 | 0,_,_,_,_,_,_=>Zs _
 | n+1,hs,lead,ys,m,Pl,tn=>by
  obtain⟨h,eh,epc⟩:=Pl.turn ok;have eg:hs.getD ((lead+ys.length) % fx.n) 0=h:=by rw[Zp,eh];rfl
  have h32:=Pl.h32 ok (Zl eh);have few:=Pl.few ok;have ml:=Jc (Vl (fx:=fx) (t:=t) (ys:=ys) (h:=h) h32) (Nat.le_of_eq epc);have z:=Zdo (fun c=>treeK fx t n (nxF fx t hs lead ys h c).1 (nxF fx t hs lead ys h c).2.1 (nxF fx t hs lead ys h c).2.2.1) (Sn n) (Ur fx t ys h) fun c hc=>by
   have hb:=(Qa h32 hc).1;obtain⟨hs',lead',ys',tk,N⟩:=Ad ok t Pl eh hb;obtain⟨m',Pl',_,tt,_,_⟩:=N.plc ok Pl eh hb;have et:J3 hs'+1=J3 hs:=tt;rw[Tx Pl eh hb N];exact A6 ok n Pl' (show J3 hs'=n by omega)
  show(X5 hs lead ys :: _).length≤1+(n+3) / 3 * Sn n;rw[Jo,eg];have a1:(Ur fx t ys h).length * Sn n≤(n+3) / 3 * Sn n:=Nat.mul_le_mul_right _ (by omega);have z':=Jc z a1;omega
theorem K9:∀{a b:List Ug},a.Nodup→(∀ x∈a,x∈b)→a.length≤b.length
 | [],_,_,_=>Nat.zero_le _
 | x :: a,b,nd,h=>by
  obtain⟨n1,n2⟩:=List.nodup_cons.mp nd;have hx:=h x Zy;have z:=K9 (a:=a) (b:=b.filter fun y=>decide (y≠x)) n2 fun y hy=>List.mem_filter.mpr ⟨h y (Zz _ hy),Zd fun e=>n1 (by rw[← e];exact hy)⟩;have lt:(b.filter fun y=>decide (y≠x)).length < b.length:=List.length_filter_lt_length_iff_exists.mpr ⟨x,hx,by simp⟩;rw[Jo];omega
theorem Zel{fx:Fx}(ok:fx.Ok){t:Option Nat}{hs0:List Nat}{lead0:Nat}{ys0:List Nat}{m0:Nat}(Pl:Plc fx hs0 lead0 ys0 m0){side:Nat}{es:List Xa}(R:Zd1 (Sof fx t hs0 lead0 ys0) fx t side es):es.length≤Sn (J3 hs0):=by
 have:=K9 (b:=treeK fx t (J3 hs0) hs0 lead0 ys0) R.2 fun x hx=>by
  obtain⟨e,he,rfl⟩:=Zv.mp hx;obtain⟨hs,lead,ys,e1,_,_,_,r⟩:=R.1 e he;rw[e1];exact Zgg ok r
 rw[Zj] at this;exact Jc this (A6 ok _ Pl rfl)
end
end My
namespace L2
open PySem PySem.Spec PyProof.Rows
section
variable{prog:Program}{w:World}
abbrev N2:=Ug×Int
def IsPnK(h:Heap)(k:N2)(a:Addr):Prop:=∃ o n b t,h.get? a=some o∧o.cls = .type "tuple"∧o.data = .seq #[.ref b,.int k.2 t] n∧IsPlK (prog:=prog) (w:=w) h k.1 b
variable{A:Around}{E:Value→Shared→Prop}{s:Shared}
def Zhn(prog:Program)(w:World)(k:N2):Int:=reduceHash (Builtin.Tuple.tupleHashOf [Ti prog w k.1,(Yo prog w).hash (.inl k.2)])
theorem IsPnK.typeIs{k:N2}{a:Addr}(x:IsPnK (prog:=prog) (w:=w) s.heap k a):s.TypeIs (.ref a) "tuple":=let ⟨o,_,_,_,ho,hc,_⟩:=x;⟨o,ho,hc⟩
theorem IsPnK.inj{h:Heap}{a:Addr}{x y:N2}(hx:IsPnK (prog:=prog) (w:=w) h x a)(hy:IsPnK (prog:=prog) (w:=w) h y a):x=y:=by
 obtain⟨o,n,b,t,ho,_,hd,h1⟩:=hx;obtain⟨o',n',b',t',ho',_,hd',h1'⟩:=hy;obtain rfl:o=o':=Z0 (ho.symm.trans ho');rw[hd] at hd';obtain⟨x1,x2⟩:=x;obtain⟨y1,y2⟩:=y;simp only[Data.seq.injEq,Array.mk.injEq,List.cons.injEq,Value.ref.injEq,Value.int.injEq,and_true] at hd';obtain⟨⟨rfl,e2,_⟩,_⟩:=hd';simp only at e2 h1 h1';subst e2;rw[h1.inj h1']
theorem IsPnK.keeps{h h':Heap}{k:N2}{a d:Addr}{o:Obj}{es ep}(x:IsPnK (prog:=prog) (w:=w) h k a)(ho:h.get? d=some o)(hd:o.data = .dict es ep)(hs:Heap.SameBut d h h'):IsPnK (prog:=prog) (w:=w) h' k a:=by
 obtain⟨o',n,b,t,ho',hc,hd',h1⟩:=x;have hne:a≠d:=by
  rintro rfl;obtain rfl:o'=o:=Z0 (ho'.symm.trans ho);rw[hd] at hd';exact nomatch hd'
 exact⟨o',n,b,t,(hs.2 a hne).trans ho',hc,hd',h1.keeps ho hd hs⟩
theorem Rt{k:N2}{a:Addr}{Q:Int→Shared→Prop}(hu:A.units+10 < cLine)(hk:IsPnK (prog:=prog) (w:=w) s.heap k a)(h:Q (Zhn prog w k) { s with toks:=s.toks+(k.1.1.length+1+1+(k.1.2.2.length+1)+1+1+1) }) :
  wpAny (model prog w) A (pyHash (.ref a)) Q E s:=by
 have hT:=hk.typeIs;obtain⟨o,n,b,t,ho,_,hd,h1⟩:=hk;unfold pyHash
 first | unfold pyHashByItsType | skip
 first | refine Zb (wpAny_cRoomFor_or (.inr (by omega)) ?_) | skip
 refine Zb (wpAny_specialOf hT F.slot_tuple_hash.lookup ?_);show wpAny _ _ (if(some (Value.builtin "tuple.__hash__") == some Value.none)=true then _ else _) Q E s;rw[Zk (by rw[beq_builtin_none];exact Zr)];refine Zb (wpAny_specialOf hT F.slot_tuple_hash.lookup ?_);show wpAny _ _ (callSpecialIfBoundUnlessNone? (.ref a) "__hash__" _ >>= _) Q E s;refine Zb (wpAny_callSpecialIfBoundUnlessNone?_slot hT F.slot_tuple_hash (wpAny_call_entry F.slot_tuple_hash hT F.entry_tuple_hash ?_ (F.args_tuple_hash_1 _)));show wpAny _ _ (Builtin.Tuple.tupleItemsOf (.ref a) >>= _) _ _ s;refine Zb (wpAny_tupleItemsOf ho hd ?_);refine Zb ?_;rw[← Array.forIn_toList];simp only[List.forIn_cons,List.forIn_nil];have hu1:A.in1.units+8 < cLine:=(show A.units+1+8 < cLine by omega);refine Zb (Zb (Q5 hu1 h1 (Ze ?_)));refine Zb (Zb ((Yo prog w).pyHash (Xc prog w k.2 t) (Ze (Ze ?_))));show wpAny _ _ (retInt (Builtin.Tuple.tupleHashOf [Ti prog w k.1,(Yo prog w).hash (.inl k.2)])) _ _ _;refine wpAny_ret_mkInt ?_;generalize ez:Builtin.Tuple.tupleHashOf [Ti prog w k.1,(Yo prog w).hash (.inl k.2)]=z;have h':Q (reduceHash z) { s with toks:=s.toks+(k.1.1.length+1+1+(k.1.2.2.length+1)+1+1+1) }:=by rw[← ez];exact h
 show wpAny _ _ (if(decide (-(2:Int) ^ 63≤z) && decide (z < 2 ^ 63))=true then _ else _) Q E _;unfold reduceHash at h';by_cases hr:(decide (-(2:Int) ^ 63≤z) && decide (z < 2 ^ 63))=true
 ·rw[Zu hr]
  rw[Zu hr] at h';exact Ze (by simpa [Nat.add_assoc] using h')
 ·rw[Zk hr]
  rw[Zk hr] at h';exact Zb (wpAny_rule (Ze (by simpa [Nat.add_assoc] using h')))
theorem Zbc{x y:N2}{a b:Addr}{P:PySem.Fin→Shared→Prop}(hu:A.units+10 < cLine)(hx:IsPnK (prog:=prog) (w:=w) s.heap x a)(hy:IsPnK (prog:=prog) (w:=w) s.heap y b)(h:P (.done (.ret (.bool (decide (x=y))))) s) :
  wpAny (model prog w) A (Builtin.«tuple.__eq__» ⟨[.ref a,.ref b],[]⟩) P E s:=by
 have hTb:=hy.typeIs;obtain⟨oa,na,a1,ta,hoa,_,hda,hx1⟩:=hx;obtain⟨ob,nb,b1,tb,hob,_,hdb,hy1⟩:=hy;obtain⟨x1,x2⟩:=x;obtain⟨y1,y2⟩:=y;simp only at hda hdb hx1 hy1;show wpAny _ _ (isInstance (.ref b) (.type "tuple") >>= _) _ _ s;refine Zb (wpAny_isInstance hTb isSubtype_tuple_tuple ?_);simp only[Bool.not_true,Bool.false_eq_true,if_false];refine Zb (wpAny_tupleItemsOf hoa hda ?_);refine Zb (wpAny_tupleItemsOf hob hdb ?_);refine Zb ?_;simp only[List.zip_cons_cons,List.zip_nil_left,List.forIn_cons,List.forIn_nil];have no:¬ (x1,x2)=(y1,y2)→P (.done (.ret (.bool false))) s:=fun n=>by
  rw[Zc n] at h;exact h
 refine Zb (Zb (Q6 (by omega) hx1 hy1 ?_));by_cases e1:x1=y1
 case neg=>
  rw[Zc e1];exact Zb (Ze (Ze (Ze (Ze (no fun z=>e1 (by injection z))))))
 rw[Zd e1];refine Ze (Zb (Zb ((Yo prog w).eqBool (a:=.inl x2) (b:=.inl y2) (Xc prog w x2 ta) (Xc prog w y2 tb) ?_)));by_cases e2:(Sum.inl x2:N3) = .inl y2
 case neg=>
  rw[Zc e2];exact Zb (Ze (Ze (Ze (Ze (no fun z=>e2 (by injection z with z1 z2;rw[z2]))))))
 rw[Zd e2];have e2':x2=y2:=by injection e2
 subst e1 e2';rw[Zd rfl] at h;exact Ze (Ze (Ze h))
theorem Ru{x y:N2}{a b:Addr}{Q:Bool→Shared→Prop}(hu:A.units+11 < cLine)(hx:IsPnK (prog:=prog) (w:=w) s.heap x a)(hy:IsPnK (prog:=prog) (w:=w) s.heap y b)(h:Q (decide (x=y)) s) :
  wpAny (model prog w) A (eqBool (.ref a) (.ref b)) Q E s:=by
 unfold eqBool
 try with_reducible refine wpAny_holding ?_
 show wpAny _ _ (if(Value.ref a == Value.ref b)=true then _ else _) Q E s;by_cases hab:(Value.ref a == Value.ref b)=true
 ·rw[Zu hab]
  have e:a=b:=by have:=eq_of_beq hab;injection this
  subst e;obtain rfl:=hx.inj hy;exact Zb (wpAny_rule (Ze (by simpa using h)))
 ·rw[Zk hab]
  exact Zb (wpAny_richCompare_same_room (op:=.Eq) hx.typeIs hy.typeIs F.slot_tuple_eq
   (wpAny_call_entry F.slot_tuple_eq hx.typeIs F.entry_tuple_eq (Zbc (show A.units+1+10 < cLine by omega) hx hy ⟨_,rfl,(fun e=>nomatch e),wpAny_truthy_bool h⟩) (F.args_tuple_eq_2 _ _)) (by omega))
theorem O4(n:Nat){k:Ug}{a:Addr}{Q:Bool→Shared→Prop}(hk:IsPlK (prog:=prog) (w:=w) s.heap k a)(h:Q true s):wpAny (model prog w) A (eqIsQuiet (n+2) (.ref a)) Q E s:=by
 have hT:=hk.typeIs;obtain⟨o,m,b,c,t,ho,_,hd,h1,h2⟩:=hk;unfold eqIsQuiet;refine Zb (wpAny_specialOf hT F.slot_tuple_eq.lookup ?_);show wpAny _ _ (isInstance (.ref a) (.type "tuple") >>= _) _ _ s;refine Zb (wpAny_isInstance hT isSubtype_tuple_tuple ?_);simp only[Bool.not_true,Bool.false_eq_true,if_false];refine Zb (wpAny_seqItems ho hd ?_);refine Zb ?_;show wpAny _ _ (forIn #[Value.ref b,Value.int k.2.1 t,Value.ref c] _ _) _ _ s;rw[← Array.forIn_toList];simp only[List.forIn_cons,List.forIn_nil];refine Zb (Zb (Eh n h1 (Ze ?_)));refine Zb ?_;rw[eqIsQuiet_byValue _ (rfl:carriedByValue (.int k.2.1 t)=true)];refine Zb (Ze (Ze ?_));refine Zb (Zb (Eh n h2 (Ze ?_)));exact Ze (Ze h)
theorem Zhi{k:N2}{a:Addr}{Q:Bool→Shared→Prop}(hk:IsPnK (prog:=prog) (w:=w) s.heap k a)(h:Q true s):wpAny (model prog w) A (eqIsQuiet 8 (.ref a)) Q E s:=by
 have hT:=hk.typeIs;obtain⟨o,n,b,t,ho,_,hd,h1⟩:=hk;unfold eqIsQuiet;refine Zb (wpAny_specialOf hT F.slot_tuple_eq.lookup ?_);show wpAny _ _ (isInstance (.ref a) (.type "tuple") >>= _) _ _ s;refine Zb (wpAny_isInstance hT isSubtype_tuple_tuple ?_);simp only[Bool.not_true,Bool.false_eq_true,if_false];refine Zb (wpAny_seqItems ho hd ?_);refine Zb ?_;show wpAny _ _ (forIn #[Value.ref b,Value.int k.2 t] _ _) _ _ s;rw[← Array.forIn_toList];simp only[List.forIn_cons,List.forIn_nil];refine Zb (Zb (O4 5 h1 (Ze ?_)));refine Zb ?_;rw[eqIsQuiet_byValue _ (rfl:carriedByValue (.int k.2 t)=true)];refine Zb (Ze (Ze ?_));exact Ze (Ze h)
end
def Zn1(prog:Program)(w:World):HeapKind prog w N2 where
 is:=IsPnK (prog:=prog) (w:=w)
 hash:=Zhn prog w
 draws:=fun k=>k.1.1.length+1+1+(k.1.2.2.length+1)+1+1+1
 room:=fun A=>A.units+11 < cLine
 inj:=fun hx hy=>hx.inj hy
 keeps:=fun x ho hd hs=>x.keeps ho hd hs
 pyHash:=fun hu hk h=>Rt (by omega) hk h
 eqBool:=fun hu hx hy h=>Ru hu hx hy h
 quiet:=fun hk h=>Zhi hk h
def Ds(H:Hp)(k:N2)(a:Addr):Prop:=∃ p,H a=some (.tup [.ref p,.int k.2])∧PlKey H k.1 p
theorem Zhm{P:Program}{w:World}{H:Hp}{h:Heap}{k:N2}{p:Addr}(ok:HOk P w H h)(e:Ds H k p):IsPnK (prog:=P) (w:=w) h k p:=by
 obtain⟨q,e1,e2⟩:=e;obtain⟨_,its,r,o,h1,h2,n,h3⟩:=(show ObjOk P w H h p (.tup [.ref q,.int k.2]) from ok p _ e1)
 match its,r with
 | [u1,u2],.cons r1 (.cons ⟨t,r2⟩ .nil)=>
  cases (show u1=Value.ref q from r1);subst r2;exact⟨o,n,q,t,h1,h2,h3,Ep ok e2⟩
def Qw(P:Program)(w:World):HKnd P w N2 where
 knd:=Zn1 P w
 isH:=Ds
 ok:=fun ok e=>Zhm ok e
 mono:=fun⟨q,e1,e2⟩ ht=>⟨q,ht _ _ e1,e2.mono ht⟩
 room:=fun {A} hu=>show A.units+1+11 < cLine by omega
section
variable{prog:Program}{w:World}{A:Around}{E:Value→Shared→Prop}{s:Shared}
theorem Zb1{v d:Addr}{o:Obj}{es:Array DictEntry}{ep:Nat}{Q:Value→Shared→Prop}(hv:s.heap.IsItemsView v d)(ho:s.heap.get? d=some o)(hd:o.data = .dict es ep)
  (hQ:Q (.ref s.heap.objs.size) { s with heap:=s.heap.push { cls:=.type "dict_itemiterator",data:=.fields #[.none,.bool false,.ref d,.int 0 0,.int es.size 0,.int ep 0,.none,.none] } }) :
  wpAny (model prog w) A (pyIter (.ref v)) Q E s:=by
 obtain⟨ov,hov,hcv,hdv⟩:=id hv;refine wpAny_pyIter_slot hv.typeIs F.slot_dict_items_iter (wpAny_call_entry F.slot_dict_items_iter hv.typeIs F.entry_dict_items_iter ?_ (F.args_dict_items_iter_1 _));unfold Builtin.«dict_items.__iter__»;refine Zb (Ze ?_);refine Zb ?_;unfold Builtin.Dict_items.dictOf;refine Zb (wpAny_field hov hdv (x:=.ref d) rfl (Ze ?_));refine Zb ?_;unfold Builtin.Dict_items.newIterator;refine Zb (wpAny_dictEntries ho hd ?_);refine Zb (wpAny_dictEpoch ho hd ?_);have hown:Builtin.Dict_items.ownsTuple "dict_itemiterator" = true:=by decide
 simp only[hown,if_true];refine wpAny_newObj_type (Ze ⟨_,rfl,"dict_itemiterator",_,⟨_,Z6 _ rfl,rfl⟩,F.slot_dict_itemiterator_next.lookup,?_⟩)
  (by simp only[sizeOk,Builtin.Dict_items.ownedTupleFields,Zw,Z3,Jo,List.length_nil,sizeLine_eq];omega)
 simpa [rawInt,Builtin.Dict_items.ownedTupleFields] using hQ
theorem Zb0{it d:Addr}{i ep:Nat}{o:Obj}{es:Array DictEntry}{ok ov:Value}{Q:Option Value→Shared→Prop}(hit:IsItemIter s.heap it d i es.size ep ok ov)(hod:s.heap.get? d=some o)(hdd:o.data = .dict es ep)(hlt':i < es.size)
  (hQ:∀ h',IsItemIterOut h' it d (i+1) es.size ep es[i].key es[i].val s.heap.objs.size →
   h'.get? s.heap.objs.size=some { cls:=.type "tuple",data:=.seq #[es[i].key,es[i].val] }→h'.objs.size=s.heap.objs.size+1 →
   (∀ b o,b≠it→s.heap.get? b=some o→h'.get? b=some o)→Q (some (.ref s.heap.objs.size)) { s with heap:=h' }) :
  wpAny (model prog w) A (pyNext (.ref it)) Q E s:=by
 obtain⟨hp,g,dr,tk,os⟩:=s;have hT:Shared.TypeIs ⟨hp,g,dr,tk,os⟩ (.ref it) "dict_itemiterator":=⟨_,hit,rfl⟩;unfold pyNext;refine Zb (wpAny_attempt (wpAny_callSpecial?_slot (name:=Str.ofString "__next__") hT F.slot_dict_itemiterator_next
  (wpAny_call_entry F.slot_dict_itemiterator_next hT F.entry_dict_itemiterator_next ?_ (F.args_dict_itemiterator_next_1 _))))
 refine Zb (Ze ?_);refine Zb ?_;refine Zb ?_
 first | refine Zb (wpAny_typeNameOfWhole_itemiter hT (Ze ?_)) | refine Zb (wpAny_typeNameOf_itemiter hT (Ze ?_))
 refine Zb (wpAny_fieldsOf hit rfl ?_);have hown:Builtin.Dict_items.ownsTuple "dict_itemiterator" = true:=by decide
 simp only[hown,if_true];show wpAny _ _ (if(Value.ref d == Value.none)=true then _ else _) _ _ _;rw[Zk (show ¬ ((Value.ref d == Value.none)=true) from Zr)];refine Zb (Ze ?_);refine Zb (wpAny_dictEntries hod hdd ?_);rw[Zk (by simp)];refine Zb (Ze ?_);refine Zb (wpAny_dictEpoch hod hdd ?_);rw[Zk (by simp)];refine Ze ?_;simp only[show ¬ ((i:Int) < 0) from by omega,if_false,Z2,Array.getElem?_eq_getElem hlt'];refine Zb ?_
 first | refine Zb (wpAny_typeNameOfWhole_itemiter hT (Ze ?_)) | refine Zb (wpAny_typeNameOf_itemiter hT (Ze ?_))
 refine Zb (wpAny_isOneOf_itemiter hT ?_);show wpAny _ _ (setField (.ref it) 3 (rawInt ((i:Int)+1)) >>= _) _ _ ⟨hp,g,dr,tk,os⟩;refine Zb (wpAny_setField_rec hit (by simp) fun h₁ he₁ hs₁=>?_)
 replace hs₁:Heap.SameBut it hp h₁:=hs₁
 replace he₁:IsItemIter h₁ it d (i+1) es.size ep ok ov:=by
  have e:((i+1:Nat):Int)=(i:Int)+1:=by omega
  unfold IsItemIter;rw[e];simpa [rawInt] using he₁
 have hT₁:Shared.TypeIs ⟨h₁,g,dr,tk,os⟩ (.ref it) "dict_itemiterator":=⟨_,he₁,rfl⟩;refine Zb (wpAny_holding ?_);refine Zb (wpAny_isOneOf_itemiter hT₁ ?_);refine Zb (wpAny_isOneOf_itemiter hT₁ ?_);show wpAny _ _ (Builtin.Dict_items.pairFromOwner (.ref it) 6 es[i].key es[i].val) _ _ ⟨h₁,g,dr,tk,os⟩;unfold Builtin.Dict_items.pairFromOwner;refine Zb (wpAny_newTuple ?_);have he₂:IsItemIter (h₁.push { cls:=.type "tuple",data:=.seq #[es[i].key,es[i].val] }) it d (i+1) es.size ep ok ov:=Zi _ he₁;generalize hh₂:h₁.push { cls:=.type "tuple",data:=.seq #[es[i].key,es[i].val] }=h₂ at he₂;have hz₁:h₁.objs.size=hp.objs.size:=hs₁.1;have hil:it < hp.objs.size:=Z8 hit;have ht₂:h₂.get? hp.objs.size=some { cls:=.type "tuple",data:=.seq #[es[i].key,es[i].val] }:=by rw[← hh₂,← hz₁];exact Z6 _ rfl
 have hz₂:h₂.objs.size=hp.objs.size+1:=by rw[← hh₂,Heap.size_push,hz₁]
 have hk₂:∀ b o,b≠it→hp.get? b=some o→h₂.get? b=some o:=fun b o hb e=>by rw[← hh₂];exact Zi _ (hs₁.extBut b o hb e)
 show wpAny _ _ (Builtin.Dict_items.ownedTupleIsFree (.ref it) >>= _) _ _ ⟨h₂,g,dr,tk,os⟩;rw[hz₁]
 clear hh₂ he₁ hs₁ hT₁ hz₁ h₁
 refine Zb ?_;unfold Builtin.Dict_items.ownedTupleIsFree;refine Zb (wpAny_field he₂ rfl (x:=.none) rfl (Ze ?_));simp only[if_true];refine Zb (wpAny_field he₂ rfl (x:=ok) rfl ?_);refine Zb (wpAny_field he₂ rfl (x:=ov) rfl ?_);refine Zb (wpAny_setField_rec he₂ (by simp) fun h₃ he₃ hs₃=>?_)
 replace hs₃:Heap.SameBut it h₂ h₃:=hs₃
 replace he₃:IsItemIter h₃ it d (i+1) es.size ep es[i].key ov:=he₃
 refine Zb (wpAny_setField_rec he₃ (by simp) fun h₄ he₄ hs₄=>?_)
 replace hs₄:Heap.SameBut it h₃ h₄:=hs₄
 replace he₄:IsItemIter h₄ it d (i+1) es.size ep es[i].key es[i].val:=he₄
 refine Zb (wpAny_setField_rec he₄ (by simp) fun h₅ he₅ hs₅=>?_)
 replace hs₅:Heap.SameBut it h₄ h₅:=hs₅
 replace he₅:IsItemIterOut h₅ it d (i+1) es.size ep es[i].key es[i].val hp.objs.size:=he₅
 refine Zb (wpAny_setField_rec he₅ (by simp) fun h₆ he₆ hs₆=>?_)
 replace hs₆:Heap.SameBut it h₅ h₆:=hs₆
 replace he₆:IsItemIterOut h₆ it d (i+1) es.size ep es[i].key es[i].val hp.objs.size:=he₆
 refine Zb (wpAny_letGo (Ze (Ze ⟨_,rfl,Ze (hQ h₆ he₆ ?_ ?_ ?_)⟩)))
 ·exact hs₆.extBut _ _ (Nat.ne_of_gt hil) (hs₅.extBut _ _ (Nat.ne_of_gt hil) (hs₄.extBut _ _ (Nat.ne_of_gt hil) (hs₃.extBut _ _ (Nat.ne_of_gt hil) ht₂)))
 ·show h₆.objs.size=hp.objs.size+1
  rw[hs₆.1,hs₅.1,hs₄.1,hs₃.1,hz₂]
 ·exact fun b o hb e=>hs₆.extBut b o hb (hs₅.extBut b o hb (hs₄.extBut b o hb (hs₃.extBut b o hb (hk₂ b o hb e))))
theorem Zfg{it d:Addr}{i ep:Nat}{o:Obj}{es:Array DictEntry}{ok ov:Value}{Q:Option Value→Shared→Prop}(hh:A.handled=none)(hit:IsItemIter s.heap it d i es.size ep ok ov)(hod:s.heap.get? d=some o)(hdd:o.data = .dict es ep)(hge:es.size≤i)
  (hQ:∀ h',Heap.ExtBut it s.heap h'→Q none { s with heap:=h' }):wpAny (model prog w) A (pyNext (.ref it)) Q E s:=by
 have hT:s.TypeIs (.ref it) "dict_itemiterator":=⟨_,hit,rfl⟩;unfold pyNext;refine Zb (wpAny_attempt (wpAny_callSpecial?_slot (name:=Str.ofString "__next__") hT F.slot_dict_itemiterator_next
  (wpAny_call_entry F.slot_dict_itemiterator_next hT F.entry_dict_itemiterator_next ?_ (F.args_dict_itemiterator_next_1 _))))
 refine Zb (Ze ?_);refine Zb ?_;refine Zb ?_
 first | refine Zb (wpAny_typeNameOfWhole_itemiter hT (Ze ?_)) | refine Zb (wpAny_typeNameOf_itemiter hT (Ze ?_))
 refine Zb (wpAny_fieldsOf hit rfl ?_);have hown:Builtin.Dict_items.ownsTuple "dict_itemiterator" = true:=by decide
 simp only[hown,if_true];show wpAny _ _ (if(Value.ref d == Value.none)=true then _ else _) _ _ s;rw[Zk (show ¬ ((Value.ref d == Value.none)=true) from Zr)];refine Zb (Ze ?_);refine Zb (wpAny_dictEntries hod hdd ?_);rw[Zk (by simp)];refine Zb (Ze ?_);refine Zb (wpAny_dictEpoch hod hdd ?_);rw[Zk (by simp)];refine Ze ?_;simp only[show ¬ ((i:Int) < 0) from by omega,if_false,Z2,Array.getElem?_eq_none hge];refine Zb ?_
 first | refine Zb (wpAny_typeNameOfWhole_itemiter hT (Ze ?_)) | refine Zb (wpAny_typeNameOf_itemiter hT (Ze ?_))
 show wpAny _ _ (setField (.ref it) 2 .none >>= _) _ _ s;refine Zb (wpAny_setField hit rfl (by simp) ?_);show wpAny _ _ (newExc (.type "StopIteration") [] >>= _) _ _ _;refine Zb ?_;simp only[newExc,newTuple];refine Zb (wpAny_newObj_type ?_ (by size_fits));refine Zb (m:=firstArgMember _ _) (wpAny_of_eq (a:=Value.none) (by first | rfl | (simp only[firstArgMember];rfl)) ?_);refine wpAny_newObj_type ?_ (by size_fits);simp only[raiseNew];refine Zb (wpAny_handled ?_);rw[show A.in1.handled=none from hh];refine Zb (Ze (wpAny_throw ?_));refine Zb (wpAny_isInstance (T:="StopIteration") (b:=true) ⟨_,Z6 _ rfl,rfl⟩ isSubtype_stop ?_);exact Ze (hQ _ (((Heap.SameBut.update ..).extBut.push _).push _))
theorem Se(d:Addr)(hd:(d == sysModules)=false) :
  MeetsIn prog w (Builtin.«dict.items» ⟨[.ref d],[]⟩) (fun _ R s=>s.TypeIs (.ref d) "dict" ∧
   R (.ok (.ret (.ref s.heap.objs.size))) { s with heap:=s.heap.push { cls:=.type "dict_items",data:=.fields #[.ref d] } }):=
 .of_wp fun A R s ⟨hm,h⟩=>by
  unfold Builtin.«dict.items»;refine Zb ?_;unfold Builtin.Dict.noArgs;refine Zb (wpAny_notOrdered_dict hm ?_);show wpAny _ _ (pure d) _ _ s;refine Ze ?_;show wpAny _ _ (Builtin.Dict.showsAll d >>= _) _ _ s;unfold Builtin.Dict.showsAll;rw[Zk (by rw[hd];exact Zr)];refine Zb (Ze ?_);exact Zb (wpAny_newObj_type (Ze ⟨_,rfl,h⟩))
end
section
variable{K:Type} [DecidableEq K]{P:Program}{w:World}(T:HKnd P w K)
def Qs(a:Addr)(es:List (Xn K))(ep:Nat):HO:=HO.ext fun h=>(a == sysModules)=false∧es.length≤sizeLine∧∃ xs,GRel es xs∧∃ o el,h.get? a=some o∧o.ExactDict∧o.data = .dict el ep∧el.toList=xs.map (entryOfKey T.knd)∧(xs.map (·.1)).Nodup
variable{T}
theorem Zm2{H:Hp}{h:Heap}{a:Addr}{es:List (Xn K)}{ep:Nat}(ok:HOk P w H h)(e:H a=some (Qs T a es ep)):∃ o el,h.get? a=some o∧o.data = .dict el ep∧el.size=es.length∧∀ i (hi:i < el.size),∃ k b y u,es[i]? = some (k,b,y)∧el[i].key = .ref b∧el[i].val=u∧RelV y u:=by
 obtain⟨⟨hd,hz,xs,r,o,el,h1,h2,h3,h4,h5⟩,_⟩:=(show ObjOk P w H h a (Qs T a es ep) from ok a _ e);have l1:es.length=xs.length:=Paired.length r;have l2:el.size=xs.length:=by
  have:=congrArg List.length h4;rw[Zj] at this
  simpa using this
 refine⟨o,el,h1,h3,by omega,fun i hi=>?_⟩;have hx:i < xs.length:=by omega
 have all:∀{l:List (Xn K)} {m:List (K×Addr×Value)},GRel l m→∀(i:Nat) (q:K×Addr×Value),m[i]? = some q→∃ p,l[i]? = some p∧p.1=q.1∧p.2.1=q.2.1∧RelV p.2.2 q.2.2:=by
  intro l m q
  induction q with
  | nil=>intro i q e;simp at e
  | @cons p q ps qs hq t ih=>
   intro i z e;cases i with
   | zero=>
    have e':q=z:=by simpa using e
    subst e';exact⟨p,rfl,hq⟩
   | succ i=>exact ih i z (by simpa using e)
 obtain⟨p,hp,p1,p2,p3⟩:=all r i xs[i] (Zf hx);have ee:el[i]=entryOfKey T.knd xs[i]:=by
  have:el.toList[i]? = (xs.map (entryOfKey T.knd))[i]?:=by rw[h4]
  rw[Z4,Zf hx] at this;have t2:el.toList[i]? = some el[i]:=by simp [hi]
  rw[t2] at this;exact Z0 this
 refine⟨p.1,p.2.1,p.2.2,xs[i].2.2,hp,?_,?_,p3⟩
 ·rw[ee,p2]
  rfl
 ·rw[ee]
  rfl
theorem Zpa{H:Hp}{h:Heap}{a:Addr}{es:List (Xn K)}(ok:HOk P w H h)(e:H a=some (Xj T a es)):∃ ep,(∃ o el,h.get? a=some o∧o.ExactDict∧o.data = .dict el ep∧el.size=es.length)∧(a == sysModules)=false∧∀ H',ObjOk P w H' h a (Qs T a es ep):=by
 obtain⟨⟨hd,hz,xs,r,o,el,ep,h1,h2,h3,h4,h5⟩,_⟩:=(show ObjOk P w H h a (Xj T a es) from ok a _ e);have l1:es.length=xs.length:=Paired.length r;have l2:el.size=xs.length:=by
  have:=congrArg List.length h4;rw[Zj] at this
  simpa using this
 refine⟨ep,⟨o,el,h1,h2,h3,by omega⟩,hd,fun H'=>⟨⟨hd,hz,xs,r,o,el,h1,h2,h3,h4,h5⟩,⟨o,h1⟩,fun g1 g2 z k=>?_⟩⟩;obtain⟨hd,hz,xs,r,o,el,h1,h2,h3,h4,h5⟩:=z;exact⟨hd,hz,xs,r,o,el,k _ h1,h2,h3,h4,h5⟩
def Itd(T:HKnd P w K)(d:Addr)(es:List (Xn K))(ep:Nat):It:=
 ⟨fun i H=>H d=some (Qs T d es ep)∧i < es.length,fun i H v H'=>∃ p k b y,v = .ref p∧H p=none∧H'=upd H p (.tup [.ref b,y])∧es[i]? = some (k,b,y),fun i H=>H d=some (Qs T d es ep)∧es.length≤i⟩
theorem Zad{F:W.Frag}{elts:List Expr}{x1}{tp:Pos}(it d:Addr)(es:List (Xn K))(ep:Nat)(hne:it≠d) :
  Turn P w F (.Tuple elts x1 tp) (Itd T d es ep) [it] it (fun i h=>∃ ok ov,IsItemIter h it d i es.length ep ok ov) where
 mem:=by simp
 obj:=fun i h st c hc=>by
  obtain⟨ok,ov,st⟩:=st;cases Jb.mp hc;exact⟨_,st,fun v z=>by cases z⟩
 keep:=fun i h h' st k=>by
  obtain⟨ok,ov,st⟩:=st;exact⟨ok,ov,k it (by simp) _ st⟩
 item:=by
  intro X hP hw hK hc i pins s σ H E I hf st hg;subst hP hw hK;obtain⟨hd,hi⟩:=hg;obtain⟨ok,ov,st⟩:=st;obtain⟨o,el,h1,h2,h3,h4⟩:=Zm2 I.hok hd;have hi':i < el.size:=by omega
  obtain⟨k,b,y,u,e1,e2,e3,e4⟩:=h4 i hi';rw[← h3] at st;refine Zb0 st h1 h2 hi' fun h' z1 z2 z3 hk=>⟨_,rfl,?_⟩;refine wpAny_letOwnedTupleGo_items z1 fun h5 z7 sb=>?_;have sb':Heap.SameBut it h' h5:=sb;have lz:it < s.heap.objs.size:=Z8 st;rw[e2,e3] at z2;have I1:Inv X pins σ (upd H s.heap.objs.size (.tup [.ref b,y])) { s with heap:=s.heap.push { cls:=.type "tuple",data:=.seq #[.ref b,u] },toks:=s.toks }:=
   I.laid (t':=s.toks) (fun c ob q=>Zi _ q) (Zs _) ⟨by rw[sizeLine_eq];show 2≤_;decide,[.ref b,u],.cons rfl (.cons e4 .nil),IsTup.new _ _⟩
  have fr:∀ c∈[it],upd H s.heap.objs.size (.tup [.ref b,y]) c=none:=fun c hc=>by
   cases Jb.mp hc;rw[Jh (Jn lz)];exact(hf it (by simp)).1
  have I2:=I1.turnedAll (h':=h5) (t':=s.toks) (fp:=[it]) (fun c o hc q=>by
   have n1:c≠it:=fun z=>hc (by rw[z];simp);by_cases dd:c=s.heap.objs.size
   ·subst dd
    have q2:=(Z6 s.heap (o:={ cls:=.type "tuple",data:=.seq #[.ref b,u] }) rfl).symm.trans q;cases q2;exact(sb'.2 _ n1).trans z2
   ·have q1:s.heap.get? c=some o:=by
     have q0:(s.heap.push { cls:=.type "tuple",data:=.seq #[.ref b,u] }).get? c=some o:=q
     rwa [Heap.get?_push_ne _ _ _ dd] at q0
    exact(sb'.2 c n1).trans (hk c o n1 q1)) (fun c hc=>⟨fr c hc,(hf c hc).2⟩)
  refine⟨.ref s.heap.objs.size,_,I2,rfl,⟨s.heap.objs.size,k,b,y,rfl,I.fresh,rfl,e1⟩,⟨_,_,by rw[← h3];exact z7⟩,fr⟩
 done:=by
  intro X hP hw hK hc i pins s σ H E I hf st hg;subst hP hw hK;obtain⟨hd,hi⟩:=hg;obtain⟨ok,ov,st⟩:=st;obtain⟨o,el,h1,h2,h3,h4⟩:=Zm2 I.hok hd;rw[← h3] at st;refine Zfg (I.ok.hd hc) st h1 h2 (by omega) fun h' hk=>⟨rfl,I.turnedAll (t':=s.toks) (fun c o hc q=>?_) hf⟩;exact hk c o (fun z=>hc (by rw[z];simp)) q
 self:=fun A i s Q E st h=>by
  obtain⟨ok,ov,st⟩:=st;exact W.kcp_self st h
end
section
variable{K:Type} [DecidableEq K]{X:Cx}(T:HKnd X.prog X.w K)
def Zo8(td:TE):TI:=fun σ H R=>td σ H fun x H1=>∃ a es,x = .ref a∧H1 a=some (Xj T a es)∧∀ ep,R (Itd T a es ep) (upd H1 a (Qs T a es ep))
theorem Zhr{o:Expr}{apos cpos tp:Pos}{elts:List Expr}{x1}{td:TE}(ho:PE X o td)(hbase:attributeBase o "items" X.env (eval o X.env)=eval o X.env:=by rfl)(hline:(apos.endLine == cpos.line)=true:=by rfl) :
  PI X (.Tuple elts x1 tp) (.Call (.Attribute o "items" apos) [] [] cpos) (Zo8 T td):=by
 intro pins s σ H R I h;refine wpAny_Call_method (T:="dict") (id:="dict.items") hbase rfl hline PySem.F.plainAttrs_dict PySem.F.slot_dict_items PySem.F.type_dict_items (Uc (ho pins s σ H _ I h) fun u s1 ⟨x,H1,I1,rx,a,es,ex,d,q⟩=>?_);subst ex;obtain rfl:u=Value.ref a:=rx;obtain⟨ep,⟨o',el,g1,g2,g3,g4⟩,hd,gn⟩:=Zpa I1.hok d;have hT:s1.TypeIs (.ref a) "dict":=⟨o',g1,g2.1⟩;refine⟨hT,fun b z=>by cases z;exact⟨o',g1,g2.2.1⟩,?_⟩;have la:a < s1.heap.objs.size:=Z8 g1;refine method_meetsIn PySem.F.slot_dict_items PySem.F.entry_dict_items rfl (PySem.evalArgs_none ⟨rfl,hT,PySem.F.args_dict_items_1 _,_,Se a hd,hT,?_⟩);have I2:Inv X pins σ (upd H1 a (Qs T a es ep)) s1:=by
  have:=An (h':=s1.heap) (t':=s1.toks) (ob:=Qs T a es ep) I1 (by rw[d];exact True.intro) (Heap.SameBut.refl _ _) ⟨o',g1⟩ (gn _);exact this
 have g1':=Zi { cls:=.type "dict_items",data:=.fields #[.ref a] } g1;refine Zb1 (o:=o') (es:=el) (ep:=ep) ⟨_,Z6 _ rfl,rfl,rfl⟩ g1' g3 ?_;have k2:∀ b u,s1.heap.get? b=some u→((s1.heap.push { cls:=.type "dict_items",data:=.fields #[.ref a] }).push { cls:=.type "dict_itemiterator",data:=.fields #[.none,.bool false,.ref a,.int 0 0,.int el.size 0,.int ep 0,.none,.none] }).get? b=some u:=fun b u e=>Zi _ (Zi _ e);have I3:=I2.kept (t':=s1.toks) k2;have sz:(s1.heap.push { cls:=.type "dict_items",data:=.fields #[.ref a] }).objs.size=s1.heap.objs.size+1:=Heap.size_push _ _;refine⟨_,[(s1.heap.push { cls:=.type "dict_items",data:=.fields #[.ref a] }).objs.size],_,Itd T a es ep,_,rfl,I3,Zad _ a es ep (Nat.ne_of_gt (show a < (s1.heap.push { cls:=.type "dict_items",data:=.fields #[.ref a] }).objs.size by rw[sz];exact Nat.lt_succ_of_lt la)),⟨_,_,by rw[← g4];exact Z6 _ rfl⟩,fun c hc=>?_,q ep⟩;have hc':s1.heap.objs.size≤c:=by
  rw[Jb.mp hc,sz];omega
 exact I2.fpOk (H':=upd H1 a (Qs T a es ep)) hc' (I2.hok.fresh hc')
end
theorem Sw{K:Type} [DecidableEq K]{P:Program}{w:World}{T:HKnd P w K}{F:W.Frag}{te:TE}{σ0:St}{H1:Hp}{Q:V→Hp→Prop}{a:Addr}{es:List (Xn K)}{ep:Nat}(hS:H1 a=some (Qs T a es ep))(G:Addr→Nat→V→Hp→Prop)(hn:es.length≤sizeLine)
  (hG:∀ l i v H H',G l i v H→Same H H'→G l i v H') (hU:∀ l i v H xs ys,G l i v H→H l=some (.lst xs)→G l i v (upd H l (.lst ys)))
  (hE:∀ i k b y H l vs,es[i]? = some (k,b,y)→Same H1 H→H1 l=none→H l=some (.lst vs)→∀ R:V→Hp→Prop,(∀ v H',Same H H'→G l i v H'→R v H')→te ((σ0.set 0 (some (.ref b))).set 1 (some y)) H R)
  (hQ:∀ l H vs,Same H1 H→H1 l=none→H l=some (.lst vs)→vs.length=es.length→(∀ i v,vs[i]? = some v→G l i v H)→Q (.ref l) H):E5 (Zl8 F 2 (Sq (Qy 0) (Sq (Qy 1) Zpb))) Zgh te σ0 (Itd T a es ep) H1 Q:=by
 intro l hl;refine⟨fun i m σ H=>m=es.length - i∧i≤es.length∧Same H1 H∧(∃ vs,H l=some (.lst vs)∧vs.length=i∧∀ j v,vs[j]? = some v→G l j v H)∧∀ o o',(σ.set 0 o).set 1 o'=(σ0.set 0 o).set 1 o',⟨es.length,by simp,Nat.zero_le _,Z5 hl _,⟨[],Zo,rfl,fun j v e=>nomatch e⟩,fun _ _=>rfl⟩,?_⟩;rintro i m σ H ⟨rfl,hi,sm,⟨vs,hL,hvl,hvs⟩,hσ⟩;have hA':=sm _ _ hS;by_cases lt:i < es.length
 ·refine .inr ⟨⟨hA',lt⟩,fun x H' y=>?_⟩
  obtain⟨p,k,b,v,rfl,hp,rfl,ex⟩:=y;have s2:=Z5 hp (.tup [.ref b,v]);refine⟨p,_,rfl,SqT.of Zo,rfl,_,_,rfl,_,_,rfl,rfl,?_⟩;unfold Zgh;dsimp only;rw[Zu rfl];show te ((σ.set 0 (some (.ref b))).set 1 (some v)) (upd H p (.tup [.ref b,v])) _;rw[hσ];refine hE i k b v _ l vs ex (sm.trans s2) hl (s2 _ _ hL) _ fun z H3 s3 hv=>⟨vs,s3 _ _ (s2 _ _ hL),by omega,es.length - (i+1),by omega,rfl,lt,N8 hl ((sm.trans s2).trans s3) _,⟨vs++[z],Zo,by rw[Z3,hvl];rfl,fun j u hu=>?_⟩,fun o o'=>Zni _ _ _ _ _⟩;refine hU l j u H3 vs _ ?_ (s3 _ _ (s2 _ _ hL));by_cases q:j < vs.length
  ·rw[Xi q] at hu
   exact hG l j u _ H3 (hG l j u H _ (hvs j u hu) s2) s3
  ·have:=(Zx.mp hu).1
   rw[Z3,List.length_singleton] at this;have e:j=vs.length:=by omega
   subst e;rw[Xf (Zs _),Nat.sub_self] at hu;cases hu;rw[hvl];exact hv
 ·have e:i=es.length:=by omega
  subst e;exact .inl ⟨⟨hA',Zs _⟩,hQ l H vs sm hl hL hvl hvs⟩
end L2
namespace My
open PySem L2
abbrev On:Stmt:=Yq (top 43) 0
abbrev Vd:Stmt:=Yq (top 43) 1
abbrev Gy:Stmt:=Yq (top 43) 2
abbrev N9:Stmt:=Yq (top 43) 3
abbrev Ga:Stmt:=Yq (top 43) 4
section
variable{P:Program}{w:World}{K:W.Frag}{mg:Str→Option Value}{base:Heap}{f g:Addr}{fd gd:FuncData}
theorem Znz{fx:Fx}(ok:fx.Ok){t:Option Nat}{side:Nat}{hs:List Nat}{lead:Nat}{ys:List Nat}{m:Nat}(Pl:Plc fx hs lead ys m):(prL fx t side hs lead ys m).length≤100:=by
 obtain⟨h,eh,epc⟩:=Pl.turn ok;have m32:m≤32:=by
  rw[← epc];unfold Xg;have:=List.length_filter_le (fun b=>h.testBit b) (List.range 32);rw[J7] at this;exact this
 unfold prL;rw[Zj];unfold My.moveL;split
 ·simp
 ·rw[Zp,eh]
  have:=Vl (fx:=fx) (t:=t) (ys:=ys) (Pl.h32 ok (Zl eh));show(Ur fx t ys h).length≤100;omega
theorem Rc{H1 H':Hp}{x dx:Addr}{o:HO}(hx:H1 x=none)(hd:H1 dx=none)(n:dx≠x)(kp:∀ b u,b≠x→(upd (upd H1 dx (.own x)) x o) b=some u→H' b=some u):Same H1 H':=fun b u hb=>
 kp b u (J4 hb hx) (Uz hx hd n b u hb)
structure WrC(K:W.Frag)(mg:Str→Option Value)(CW:Addr):Prop where
 cl:Cls K CW
 mW:mg "Writing" = some (.ref CW)
 n1:NoAttr K CW "game"
 n2:NoAttr K CW "side"
 n3:NoAttr K CW "reckoning"
 n4:NoAttr K CW "cards_of_rows"
def wrN:List Str:=["game","side","reckoning","cards_of_rows"]
structure WrF(gm rk dc:Addr)(side:Nat)(fs:List (Str×V)):Prop where
 l1:fs.lookup ("game":Str)=some (.ref gm)
 l2:fs.lookup ("side":Str)=some (.int (side:Nat))
 l3:fs.lookup ("reckoning":Str)=some (.ref rk)
 l4:fs.lookup ("cards_of_rows":Str)=some (.ref dc)
 nm:∀ m:Str,m∉wrN→fs.lookup m=none
def Qr(as:List (Rw×Addr)):List (Xn N2):=as.map fun e=>((e.1.k,e.1.nd),e.2,El e.1.cd)
structure Wr(P:Program)(w:World)(CR CW:Addr)(S:Bw)(fx:Fx)(t:Option Nat)(side:Nat)(H:Hp)(v gm rk dk:Addr)(es:List Xa)(dc:Addr)(as:List (Rw×Addr)):Prop where
 o:∃ dx fs,H v=some (.ins CW dx fs)∧WrF gm rk dc side fs
 r:Rk P w CR S fx t side H rk gm dk es
 d:H dc=some (Xj (Qw P w) dc (Qr as))
 ks:GKeys (Qw P w) H (Qr as)
 ne:dc≠dk
def KpW(dk dc:Addr)(H H':Hp):Prop:=∀ b o,b≠dk→b≠dc→H b=some o→H' b=some o
theorem KpW.refl(dk dc:Addr)(H:Hp):KpW dk dc H H:=fun b o _ _ h=>h
theorem KpW.trans{dk dc:Addr}{H H1 H2:Hp}(a:KpW dk dc H H1)(b:KpW dk dc H1 H2):KpW dk dc H H2:=fun x o n1 n2 h=>b x o n1 n2 (a x o n1 n2 h)
section
variable{CR CW v gm rk dk dc:Addr}{S:Bw}{fx:Fx}{t:Option Nat}{side:Nat}{H H':Hp}{es:List Xa}{as:List (Rw×Addr)}
theorem Wr.same(h:Wr P w CR CW S fx t side H v gm rk dk es dc as)(s:Same H H'):Wr P w CR CW S fx t side H' v gm rk dk es dc as:=by
 obtain⟨⟨dx,fs,a,b⟩,r,d,ks,ne⟩:=h;exact⟨⟨dx,fs,s _ _ a,b⟩,r.same s,s _ _ d,ks.mono _ (fun b ys e=>s _ _ e),ne⟩
theorem Wr.ndc{b:Addr}{o:HO}(h:Wr P w CR CW S fx t side H v gm rk dk es dc as)(hb:H b=some o)(n:∀ φ,o≠HO.ext φ):b≠dc:=fun z=>by
 have:=h.d;rw[← z,hb] at this;exact n _ (Z0 this)
theorem Wr.didR{es':List Xa}(h:Wr P w CR CW S fx t side H v gm rk dk es dc as)(k:KpD dk H H')(r:Rk P w CR S fx t side H' rk gm dk es'):Wr P w CR CW S fx t side H' v gm rk dk es' dc as:=by
 obtain⟨⟨dx,fs,a,b⟩,r0,d,ks,ne⟩:=h;exact⟨⟨dx,fs,k _ _ (r0.nd a (fun _ z=>nomatch z)) a,b⟩,r,k _ _ ne d,ks.mono _ (fun b ys e=>k _ _ (r0.nd e (fun _ z=>nomatch z)) e),ne⟩
theorem KpW.ofD(k:KpD dk H H'):KpW dk dc H H':=fun b o n _ h=>k b o n h
theorem KpW.ofS(s:Same H H'):KpW dk dc H H':=fun b o _ _ h=>s b o h
theorem KpW.pl{p:Addr}{hs ys:List Nat}{lead:Nat}(k:KpW dk dc H H')(h:Wr P w CR CW S fx t side H v gm rk dk es dc as)(hp:IsPl H p hs lead ys):IsPl H' p hs lead ys:=by
 obtain⟨a,b,h1,h2,h3⟩:=hp;exact⟨a,b,k _ _ (h.r.nd h1 (fun _ z=>nomatch z)) (h.ndc h1 (fun _ z=>nomatch z)) h1,k _ _ (h.r.nd h2 (fun _ z=>nomatch z)) (h.ndc h2 (fun _ z=>nomatch z)) h2,k _ _ (h.r.nd h3 (fun _ z=>nomatch z)) (h.ndc h3 (fun _ z=>nomatch z)) h3⟩
theorem KpW.gam{CT CG gx:Addr}(k:KpW dk dc H H')(h:Wr P w CR CW S fx t side H v gm rk dk es dc as)(g:GamH CT CG fx t H gm gx):GamH CT CG fx t H' gm gx:=by
 obtain⟨ok,⟨dg,hg⟩,⟨dx,po,to,a,b,c⟩⟩:=g;exact⟨ok,⟨dg,k _ _ (h.r.nd hg (fun _ z=>nomatch z)) (h.ndc hg (fun _ z=>nomatch z)) hg⟩,⟨dx,po,to,k _ _ (h.r.nd a (fun _ z=>nomatch z)) (h.ndc a (fun _ z=>nomatch z)) a,k _ _ (h.r.nd b (fun _ z=>nomatch z)) (h.ndc b (fun _ z=>nomatch z)) b,k _ _ (h.r.nd c (fun _ z=>nomatch z)) (h.ndc c (fun _ z=>nomatch z)) c⟩⟩
end
def N6(P:Program)(w:World)(CT CG CR CW:Addr)(S:Bw)(kb:Nat):Sp:=fun vs H Q _=>∃(v gm gx rk dk dc p:Addr) (t:Option Nat) (fx:Fx) (side:Nat) (hs:List Nat) (lead:Nat) (ys:List Nat) (m:Nat) (es:List Xa) (as:List (Rw×Addr)) (need:Int),vs=[.ref v,.ref p,.int need]∧Mp t∧Wr P w CR CW S fx t side H v gm rk dk es dc as∧GamH CT CG fx t H gm gx∧IsPl H p hs lead ys∧Plc fx hs lead ys m∧S fx t hs lead ys∧J3 hs≤kb∧es.length+Sn (J3 hs)≤1000000∧(∃ c∈moveL fx t hs lead ys m,need≤((numP fx t side hs lead ys c:Nat):Int)) ∧
 ∀ c es' H',KpD dk H H'→Wr P w CR CW S fx t side H' v gm rk dk es' dc as→c∈moveL fx t hs lead ys m→need≤((numP fx t side hs lead ys c:Nat):Int)→Q (.int ((c:Nat):Int)) H'
theorem Zej:FnScope ["self","place","need"] ["self","place","need"] (Zq Vd):=Uy (by decide +kernel)
theorem Zbq{S:Bw}{k kb:Nat}{CT CG CR CW m1:Addr}{e1:FuncData}(F:Fun K "card_for" "Writing.card_for" Vd f fd)(C:RkC K mg CR)(CWr:WrC K mg CW)(MP:Meth K CR "pairs" m1)(FP:FnOk P w K mg base Yr k m1 e1 ["self","place"] (R6 P w CT CG CR S kb))(BP:Binds K e1 ["self","place"] []):FnOk P w K mg base Yr (k+1) f fd ["self","place","need"] (N6 P w CT CG CR CW S kb):=by
 refine F.ok Zej (fun vs H Q E h=>?_) (fun cdv A outer s H vs Q E hr h=>?_)
 ·obtain⟨v,gm,gx,rk,dk,dc,p,t,fx,side,hs,lead,ys,m,es,as,need,rfl,_⟩:=h
  rfl
 obtain⟨v,gm,gx,rk,dk,dc,p,t,fx,side,hs,lead,ys,m,es,as,need,rfl,tb,Wv,G,hp,Pl,hs_,hk,hn,hex,q⟩:=h;refine⟨_,Zm (Z9 (Jw Uk (Ud ["card","number","need"] [none,none,some 2] rfl (Blk.by (sc:=Zq Vd) (N0:=["self","place","need"]) rfl rfl (by decide +kernel)) (Y6 (Uj (Jt (pv 0) rfl) C.cl MP FP hr BP .nil Ja (Za (pv 1) Zg))) (fun C s₀ H₀ ex=>Gh (n:=2) K rfl rfl (J6 (Jj (i:=0) (show(["card","number","need"]:List Str).Nodup by decide +kernel) rfl (Or.inl rfl)) (J6 (Jj (i:=1) (show(["card","number","need"]:List Str).Nodup by decide +kernel) rfl (Or.inl rfl)) Xt)))
  (fun C s₀ H₀ ex=>Zht (Ji Tt (pv 1) (pv 2) (Jg _))) (fun C s₀ H₀ ex=>pv 0)) Zn (fun _ _=>rfl))),?_⟩
 obtain⟨dx,fs,hv,A1⟩:=id Wv.o;obtain⟨dr,fr,hr0,A2⟩:=id Wv.r.o;refine⟨_,rfl,v,CW,dx,_,_,rfl,hv,CWr.cl,CWr.n3,A1.l3,rk,dr,_,rfl,hr0,A2.nm _ (by decide +kernel),_,rfl,rk,gm,gx,dk,p,t,fx,side,hs,lead,ys,m,es,rfl,tb,Wv.r,G,hp,Pl,hs_,hk,hn,fun l es' H1 k1 nl R1 l1 E1 Pr=>?_⟩;have W1:=Wv.didR k1 R1;obtain⟨aa,hA,la,hP⟩:=id Pr;have ok:=G.ok;have z1000:=J2 1000 (by decide);refine⟨l,rfl,⟨_,SqL.of hA⟩,Bv (K:=K) Pr (fun x=>decide (need≤((x.2:Nat):Int))) (fun x=>.int (x.1:Nat)) (by have:=Znz (t:=t) (side:=side) ok Pl;omega) (fun x H3 hx sm R hR=>?_) (fun x H3 hx hp sm R hR=>⟨_,rfl,hR H3 (Same.refl H3)⟩) (fun ln H2 s2 hln hLn=>?_)⟩
 ·exact⟨_,rfl,_,rfl,_,_,rfl,rfl,_,rfl,hR H3 (Same.refl H3)⟩
 ·obtain⟨c0,hc0,hn0⟩:=hex
  have me:(c0,numP fx t side hs lead ys c0)∈(prL fx t side hs lead ys m).filter fun x=>decide (need≤((x.2:Nat):Int)):=List.mem_filter.mpr ⟨Zv.mpr ⟨c0,hc0,rfl⟩,Zd hn0⟩;cases hf:(prL fx t side hs lead ys m).filter fun x=>decide (need≤((x.2:Nat):Int)) with
  | nil=>
   rw[hf] at me;cases me
  | cons x Nm=>
   rw[hf] at hLn;have mx:x∈(prL fx t side hs lead ys m).filter fun x=>decide (need≤((x.2:Nat):Int)):=by rw[hf];exact Zy
   obtain⟨mx1,mx2⟩:=List.mem_filter.mp mx;obtain⟨c,hc,rfl⟩:=Zv.mp mx1;exact⟨ln,_,_,_,rfl,rfl,SqL.of hLn,Xv (j:=0) rfl,q c es' H2 (fun b o n h=>s2 _ _ (k1 b o n h)) (W1.same s2) hc (Ju mx2)⟩
def Kb(P:Program)(w:World)(CR CW:Addr):Sp:=fun vs H Q _=>∃(v dv gm:Addr) (side:Nat),vs=[.ref v,.ref gm,.int (side:Nat)]∧H v=some (.ins CW dv [])∧∀ rk dk dc H',(∀ b o,b≠v→H b=some o→H' b=some o)→H dk=none→H dc=none→(∀ S fx t,Wr P w CR CW S fx t side H' v gm rk dk [] dc [])→Q .non H'
theorem Zgt:FnScope ["self","game","side"] ["self","game","side"] (Zq On):=Uy (by decide +kernel)
theorem Zet{k:Nat}{CR CW aI:Addr}{eI:FuncData}(F:Fun K "__init__" "Writing.__init__" On f fd)(C:RkC K mg CR)(CWr:WrC K mg CW)(MkR:Mk K CR aI)(FI:FnOk P w K mg base Yr k aI eI ["self","game","side"] (Gr P w CR))(BI:Binds K eI ["self","game","side"] []):FnOk P w K mg base Yr (k+2) f fd ["self","game","side"] (Kb P w CR CW):=by
 refine F.ok Zgt (fun vs H Q E h=>?_) (fun cdv A outer s H vs Q E hr h=>?_)
 ·obtain⟨v,dv,gm,side,rfl,_⟩:=h
  rfl
 obtain⟨v,dv,gm,side,rfl,hv0,q⟩:=h;refine⟨_,Zh (Xk (pv 0) (pv 1) rfl) (Zh (Xk (pv 0) (pv 2) rfl) (Zh (Xk (pv 0) (E9 MkR FI hr rfl C.mR BI .nil Ja (Za (pv 1) (Za (pv 2) Zg))) rfl) (Zm (Xk (pv 0) (Zc6 (Qw P w)) rfl)))),?_⟩;refine⟨_,rfl,_,rfl,v,CW,dv,[],rfl,hv0,CWr.cl,CWr.n1,by decide,?_⟩;have b0:∀(f:Str) (v:V) (fs:List (Str×V)) (n:Nat),fs.length≤n→(X4 f v fs).length≤n+1:=fun f v fs n h=>Jc (Y8 _ _ _) (Nat.succ_le_succ h);have c1:=b0 "game" (.ref gm) [] 0 (Zs _);have c2:=b0 "side" (.int (side:Nat)) _ 1 c1;refine⟨_,rfl,_,rfl,v,CW,dv,_,rfl,Zo,CWr.cl,CWr.n2,by omega,?_⟩;rw[U2];obtain⟨fs2,ef2⟩:∃ fs2,fs2=X4 "side" (.int ((side:Nat):Int)) (X4 "game" (.ref gm) []):=⟨_,rfl⟩;rw[← ef2] at c2 ⊢;refine⟨_,rfl,_,rfl,?_⟩;intro rk dr hr0 hdr nr;have nv:∀ b,upd H v (.ins CW dv fs2) b=none→H b=none∧b≠v:=fun b h=>by
  have n:b≠v:=fun z=>by rw[z,Zo] at h;cases h
  rw[Jh n] at h;exact⟨h,n⟩
 refine⟨rk,dr,gm,side,rfl,Zo,fun dk H2 kp ndk R=>⟨rfl,?_⟩⟩;have s2:=Rc hr0 hdr nr kp;have sm:=Uz (o:=.ins CR dr []) hr0 hdr nr;have hv2:=s2 _ _ (Zo:upd H v (.ins CW dv fs2) v=_);have c3:=b0 "reckoning" (.ref rk) _ 2 c2;refine⟨_,rfl,v,CW,dv,_,rfl,hv2,CWr.cl,CWr.n3,by omega,?_⟩;intro dc hdc;have R2:=fun S fx t=>R S fx t;have nvk:v≠rk:=fun z=>by
  obtain⟨dx,fs,a,_⟩:=(R2 (fun _ _ _ _ _=>True) ⟨0,0,0,0,[],[]⟩ none).o;rw[← z,hv2] at a;have:=(nv rk hr0).2;exact this z.symm
 have nvd:v≠dk:=fun z=>by
  have:=(R2 (fun _ _ _ _ _=>True) ⟨0,0,0,0,[],[]⟩ none).d;rw[← z,hv2] at this;cases this
 have hdc2:H2 dc=none∧dc≠v:=by
  have n:dc≠v:=fun z=>by rw[z,Zo] at hdc;cases hdc
  rw[Jh n] at hdc;exact⟨hdc,n⟩
 have hdc0:H dc=none:=by
  have a:=s2.free hdc2.1;rw[Jh hdc2.2] at a;exact a
 have ndc:dc≠dk:=fun z=>by
  have:=(R2 (fun _ _ _ _ _=>True) ⟨0,0,0,0,[],[]⟩ none).d;rw[← z,hdc2.1] at this;cases this
 have hdk0:H dk=none:=(nv dk (sm.free ndk)).1;refine⟨_,rfl,v,CW,dv,_,rfl,(by rw[Jh (Ne.symm hdc2.2)];exact Zo),CWr.cl,CWr.n4,by omega,?_⟩;refine q rk dk dc _ (fun b o n h=>?_) hdk0 hdc0 fun S fx t=>⟨⟨dv,_,Zo,?_,?_,?_,?_,fun m hm=>?_⟩,?_,?_,(fun e he=>nomatch he),ndc⟩
 ·rw[Jh n,Jh (J4 h hdc0),Jh n]
  exact s2 _ _ (by rw[Jh n];exact h)
 ·rw[Zt,Zk (by decide +kernel),Zt,Zk (by decide +kernel),ef2,Zt,Zk (by decide +kernel),Zt,Zu rfl]
 ·rw[Zt,Zk (by decide +kernel),Zt,Zk (by decide +kernel),ef2,Zt,Zu rfl]
 ·rw[Zt,Zk (by decide +kernel),Zt,Zu rfl]
 ·rw[Zt,Zu rfl]
 ·rw[Zt,Zk (fun z=>hm (by rw[z];decide +kernel)),Zt,Zk (fun z=>hm (by rw[z];decide +kernel)),ef2,Zt,Zk (fun z=>hm (by rw[z];decide +kernel)),Zt,Zk (fun z=>hm (by rw[z];decide +kernel))]
  rfl
 ·obtain⟨⟨dx,fs,a,b⟩,d,ks,okR⟩:=R2 S fx t
  refine⟨⟨dx,fs,?_,b⟩,?_,(fun e he=>nomatch he),okR⟩
  ·rw[Jh (Ne.symm nvk),Jh (fun z=>by rw[z,hdc2.1] at a;cases a),Jh (Ne.symm nvk)]
   exact a
  ·rw[Jh (Ne.symm nvd),Jh (Ne.symm ndc),Jh (Ne.symm nvd)]
   exact d
 ·rw[Jh hdc2.2,Zo]
  rfl
def CovR(rs:List Rw)(hs:List Nat)(lead:Nat)(ys:List Nat)(need:Int):Prop:=need≤0∨∃ r∈rs,r.k=X5 hs lead ys∧r.nd=need
theorem CovR.mono{rs rs':List Rw}{hs:List Nat}{lead:Nat}{ys:List Nat}{need:Int}(h:CovR rs hs lead ys need)(s:∀ r∈rs,r∈rs'):CovR rs' hs lead ys need:=h.elim .inl fun⟨r,hr,e⟩=>.inr ⟨r,s r hr,e⟩
def NxR(fx:Fx)(t:Option Nat)(side:Nat)(rs:List Rw)(hs:List Nat)(lead:Nat)(ys:List Nat)(h c:Nat)(need:Int):Prop:=∀ hs' lead' ys' tk,Nxt fx t hs lead ys h c hs' lead' ys' tk→CovR rs hs' lead' ys' (need - ((Qp side tk:Nat):Int))
structure GoodR(fx:Fx)(t:Option Nat)(side:Nat)(rs:List Rw)(r:Rw):Prop where
 g:∃ m h,Plc fx r.hs r.lead r.ys m∧r.hs[(r.lead+r.ys.length) % fx.n]? = some h∧1≤r.nd∧r.nd≤((valP fx t side r.hs r.lead r.ys:Nat):Int) ∧
  ((side.testBit ((r.lead+r.ys.length) % fx.n)=true∧∃ c,c∈Ur fx t r.ys h∧r.cd=some ((c:Nat):Int)∧NxR fx t side rs r.hs r.lead r.ys h c r.nd)∨(side.testBit ((r.lead+r.ys.length) % fx.n)=false∧r.cd=none∧∀ c∈Ur fx t r.ys h,NxR fx t side rs r.hs r.lead r.ys h c r.nd))
theorem NxR.mono{fx:Fx}{t:Option Nat}{side:Nat}{rs rs':List Rw}{hs:List Nat}{lead:Nat}{ys:List Nat}{h c:Nat}{need:Int}(n:NxR fx t side rs hs lead ys h c need)(s:∀ r∈rs,r∈rs'):NxR fx t side rs' hs lead ys h c need:=fun a b d e N=>(n a b d e N).mono s
theorem GoodR.mono{fx:Fx}{t:Option Nat}{side:Nat}{rs rs':List Rw}{r:Rw}(g:GoodR fx t side rs r)(s:∀ r∈rs,r∈rs'):GoodR fx t side rs' r:=by
 obtain⟨m,h,a,b,c,d,e⟩:=g.g;refine⟨m,h,a,b,c,d,?_⟩;rcases e with⟨e1,c,e2,e3,e4⟩ | ⟨e1,e2,e3⟩
 ·exact .inl ⟨e1,c,e2,e3,e4.mono s⟩
 ·exact .inr ⟨e1,e2,fun c hc=>(e3 c hc).mono s⟩
def KN(as:List (Rw×Addr)):Prop:=(as.map fun e=>(e.1.k,e.1.nd)).Nodup
theorem KN.snoc{as:List (Rw×Addr)}{r:Rw}{b:Addr}(h:KN as)(n:(Rf (Qr as) (r.k,r.nd)).isSome=false):KN (as++[(r,b)]):=by
 unfold KN;rw[Jp];refine List.nodup_append.mpr ⟨h,List.nodup_cons.mpr ⟨(fun z=>nomatch z),List.nodup_nil⟩,fun x hx y hy e=>?_⟩;obtain⟨z,hz,rfl⟩:=Zv.mp hx;cases Jb.mp hy;have:∃ v,Rf (Qr as) (r.k,r.nd)=some v:=by
  unfold Rf;have:((Qr as).find? fun e=>decide (e.1=(r.k,r.nd))).isSome=true:=List.find?_isSome.mpr ⟨((z.1.k,z.1.nd),z.2,El z.1.cd),Zv.mpr ⟨z,hz,rfl⟩,Zd e⟩;obtain⟨v,hv⟩:=Option.isSome_iff_exists.mp this;exact⟨_,by rw[hv];rfl⟩
 obtain⟨v,hv⟩:=this;rw[hv] at n;cases n
def ExtR(N:Nat)(fx:Fx)(t:Option Nat)(side:Nat)(as as':List (Rw×Addr)):Prop:=∃ new,as'=as++new∧(∀ e∈new,GoodR fx t side (as'.map (·.1)) e.1∧J3 e.1.hs≤N)∧(KN as→KN as')
theorem ExtR.refl(N:Nat)(fx:Fx)(t:Option Nat)(side:Nat)(as:List (Rw×Addr)):ExtR N fx t side as as:=⟨[],(J8 _).symm,(fun e he=>nomatch he),id⟩
theorem ExtR.sub{N:Nat}{fx:Fx}{t:Option Nat}{side:Nat}{as as':List (Rw×Addr)}(h:ExtR N fx t side as as'):∀ r∈as.map (·.1),r∈as'.map (·.1):=fun r hr=>by
 obtain⟨new,rfl,_⟩:=h;rw[Jp];exact List.mem_append_left _ hr
theorem ExtR.trans{N:Nat}{fx:Fx}{t:Option Nat}{side:Nat}{a b c:List (Rw×Addr)}(x:ExtR N fx t side a b)(y:ExtR N fx t side b c):ExtR N fx t side a c:=by
 have sy:=y.sub;obtain⟨u,rfl,hu,ku⟩:=x;obtain⟨v,rfl,hv,kv⟩:=y;refine⟨u++v,Y5 _ _ _,fun e he=>?_,fun z=>kv (ku z)⟩;rcases Jm.mp he with z | z
 ·exact⟨(hu e z).1.mono sy,(hu e z).2⟩
 ·exact hv e z
def SB(S:Bw)(fx:Fx)(t:Option Nat)(side:Nat):Prop:=∀ es,Zd1 S fx t side es→es.length≤100000
def E6(P:Program)(w:World)(CT CG CR CW:Addr)(S:Bw)(kb:Nat):Sp:=fun vs H Q _=>∃(v gm gx rk dk dc p:Addr) (t:Option Nat) (fx:Fx) (side:Nat) (hs:List Nat) (lead:Nat) (ys:List Nat) (m:Nat) (es:List Xa) (as:List (Rw×Addr)) (need:Int),vs=[.ref v,.ref p,.int need]∧Mp t∧Wr P w CR CW S fx t side H v gm rk dk es dc as∧GamH CT CG fx t H gm gx∧IsPl H p hs lead ys∧Plc fx hs lead ys m∧S fx t hs lead ys∧SB S fx t side∧J3 hs≤12∧J3 hs+1≤kb∧as.length+Sn (J3 hs)≤1000000∧need≤((valP fx t side hs lead ys:Nat):Int) ∧
 ∀ es' as' H',KpW dk dc H H'→Wr P w CR CW S fx t side H' v gm rk dk es' dc as'→ExtR (J3 hs) fx t side as as'→CovR (as'.map (·.1)) hs lead ys need→as'.length≤as.length+Sn (J3 hs)→Q .non H'
def Zmq(P:Program)(w:World)(CT CG CR CW:Addr)(S:Bw)(kb:Nat):Sp:=fun vs H Q _=>∃(v gm gx rk dk dc p:Addr) (t:Option Nat) (fx:Fx) (side:Nat) (hs:List Nat) (lead:Nat) (ys:List Nat) (m h c:Nat) (es:List Xa) (as:List (Rw×Addr)) (need:Int),vs=[.ref v,.ref p,.int ((c:Nat):Int),.int need]∧Mp t∧Wr P w CR CW S fx t side H v gm rk dk es dc as∧GamH CT CG fx t H gm gx∧IsPl H p hs lead ys∧Plc fx hs lead ys m∧hs[(lead+ys.length) % fx.n]? = some h∧c∈Ur fx t ys h∧S fx t hs lead ys∧SB S fx t side∧J3 hs≤12∧J3 hs≤kb∧as.length+Sn (J3 hs - 1)≤1000000∧need≤((numP fx t side hs lead ys c:Nat):Int) ∧
 ∀ es' as' H',KpW dk dc H H'→Wr P w CR CW S fx t side H' v gm rk dk es' dc as'→ExtR (J3 hs - 1) fx t side as as'→NxR fx t side (as'.map (·.1)) hs lead ys h c need→as'.length≤as.length+Sn (J3 hs - 1)→Q .non H'
abbrev Zr2:List Str:=["self","place","card","need","step"]
theorem scWrB:FnScope Zr2 ["self","place","card","need"] (Zq N9):=Uy (by decide +kernel)
theorem Zog{S:Bw}(hS:SCl S){k kb:Nat}{CT CG CR CW f1 f2 m1:Addr}{d1 d2 e1:FuncData}(F:Fun K "write_behind" "Writing.write_behind" N9 f fd)(CWr:WrC K mg CW)(LB:Lib P w K mg base k "behind" ["game","place","card"] (Xo K CT CG) f1 d1)(LG:Lib P w K mg base k "gain" ["side","taker"] Bm f2 d2)
  (MW:Meth K CW "write" m1) (FW:FnOk P w K mg base Yr k m1 e1 ["self","place","need"] (E6 P w CT CG CR CW S kb)) (BW:Binds K e1 ["self","place","need"] []):FnOk P w K mg base Yr (k+1) f fd ["self","place","card","need"] (Zmq P w CT CG CR CW S kb):=by
 refine F.ok scWrB (fun vs H Q E h=>?_) (fun cdv A outer s H vs Q E hr h=>?_)
 ·obtain⟨v,gm,gx,rk,dk,dc,p,t,fx,side,hs,lead,ys,m,h,c,es,as,need,rfl,_⟩:=h
  rfl
 obtain⟨v,gm,gx,rk,dk,dc,p,t,fx,side,hs,lead,ys,m,h,c,es,as,need,rfl,tb,Wv,G,hp,Pl,eh,hc,hs_,sb,t12,hk,hn,hd,q⟩:=h;refine⟨_,Zh (Jf (i:=4) scWrB.nd rfl (Or.inl rfl) (Z1 LB.ok hr rfl LB.mg LB.kp LB.bd .nil Ja (Za (Jt (pv 0) rfl) (Za (pv 1) (Za (pv 2) Zg)))))
  (Zm (X8 (Uj (pv 0) CWr.cl MW FW hr BW .nil Ja (Za (Jw Jz (pv 4) Zn (fun _ _=>rfl)) (Za (Jd Nr (pv 3) (Z1 LG.ok hr rfl LG.mg LG.kp LG.bd .nil Ja (Za (Jt (pv 0) rfl) (Za (Jw Jz (pv 4) Zn (fun _ _=>rfl)) Zg)))) Zg))))),?_⟩
 obtain⟨dx,fs,hv,A1⟩:=id Wv.o;have ok:=G.ok;have hb:=(Qa (Pl.h32 ok (Zl eh)) hc).1;refine⟨_,rfl,v,CW,dx,_,_,rfl,hv,CWr.cl,CWr.n1,A1.l1,_,rfl,_,rfl,gm,gx,p,t,fx,hs,ys,lead,m,h,c,rfl,G,hp,Pl,eh,hb,fun st p' hs' lead' ys' tk H2 s2 N hst hp'=>?_⟩;obtain⟨m',Pl',_,tt,_,_⟩:=N.plc ok Pl eh hb;have et:J3 hs'+1=J3 hs:=tt;have et':J3 hs - 1=J3 hs':=by omega
 have W2:=Wv.same s2;have en:=Ae (side:=side) ok Pl eh hb N;refine⟨_,rfl,v,dx,_,rfl,s2 _ _ hv,A1.nm _ (by decide +kernel),_,rfl,st,_,_,_,rfl,rfl,SqT.of hst,(rfl:X6 [V.ref p',Au tk] 0=some (V.ref p')),_,rfl,_,rfl,v,CW,dx,_,_,rfl,s2 _ _ hv,CWr.cl,CWr.n2,A1.l2,_,rfl,st,_,_,_,rfl,rfl,SqT.of hst,(rfl:X6 [V.ref p',Au tk] 1=some (Au tk)),side,tk,rfl,_,_,rfl,rfl,?_⟩;refine⟨v,gm,gx,rk,dk,dc,p',t,fx,side,hs',lead',ys',m',es,as,need - ((Qp side tk:Nat):Int),rfl,tb,W2,G.same s2,hp',Pl',hS _ _ _ _ _ _ _ _ _ _ _ _ hs_ Pl eh hc N,sb,by omega,by omega,by rw[← et'];exact hn,by rw[en,Xy] at hd;omega,fun es' as' H' k' W' x' c' l'=>?_⟩;rw[← et'] at x';refine q es' as' H' ((KpW.ofS s2).trans k') W' x' (fun a b d e N'=>?_) (by rw[et'];exact l');obtain⟨rfl,rfl,rfl,rfl⟩:=N.uniq Pl eh hb N';exact c'
theorem Zpc{as:List (Rw×Addr)}{k:N2}(h:(Rf (Qr as) k).isSome=true):∃ r∈as.map (·.1),r.k=k.1∧r.nd=k.2:=by
 unfold Rf at h;rw[Option.isSome_map] at h;obtain⟨e,he⟩:=Option.isSome_iff_exists.mp h;have e3:e.1=k:=Ju (by have:=List.find?_some he;exact this);obtain⟨x,hx,rfl⟩:=Zv.mp (List.mem_of_find?_eq_some he);exact⟨x.1,Zv.mpr ⟨x,hx,rfl⟩,congrArg (·.1) e3,congrArg (·.2) e3⟩
theorem Sm{K:Type} [DecidableEq K]{es:List (Xn K)}{k:K}{b:Addr}{v:V}(h:(Rf es k).isSome=false):Rz es k b v=es++[(k,b,v)]:=by
 unfold Rz;rw[h,Zk Zr]
theorem Wr.put{CR CW v gm rk dk dc:Addr}{S:Bw}{fx:Fx}{t:Option Nat}{side:Nat}{H:Hp}{es:List Xa}{as:List (Rw×Addr)}(W:Wr P w CR CW S fx t side H v gm rk dk es dc as){r:Rw}{kb:Addr}(hk:Ds H (r.k,r.nd) kb) :
  Wr P w CR CW S fx t side (upd H dc (Xj (Qw P w) dc (Qr as++[((r.k,r.nd),kb,El r.cd)]))) v gm rk dk es dc (as++[(r,kb)])∧KpW dk dc H (upd H dc (Xj (Qw P w) dc (Qr as++[((r.k,r.nd),kb,El r.cd)]))):=by
 have eE:Qr as++[((r.k,r.nd),kb,El r.cd)]=Qr (as++[(r,kb)]):=by
  unfold Qr;rw[Jp];rfl
 rw[eE];obtain⟨⟨dx,fs,a,b⟩,⟨⟨dr,fr,a2,b2⟩,d2,k2,o2⟩,d,ks,ne⟩:=id W;have tt:∀(o:HO) (b:Addr) (zs:List V),H b=some (.tup zs)→upd H dc o b=some (.tup zs):=fun o b zs e=>by
  rw[Jh (W.ndc e (fun _ z=>nomatch z))];exact e
 refine⟨⟨⟨dx,fs,by rw[Jh (W.ndc a (fun _ z=>nomatch z))];exact a,b⟩,⟨⟨dr,fr,by rw[Jh (W.ndc a2 (fun _ z=>nomatch z))];exact a2,b2⟩,by rw[Jh (Ne.symm ne)];exact d2,fun e he=>(k2 e he).mono (tt _),o2⟩,Zo,fun e he=>?_,ne⟩,fun b o _ n h=>by rw[Jh n];exact h⟩;unfold Qr at he;rw[Jp] at he;rcases Jm.mp he with z | z
 ·exact(Qw P w).mono (ks e z) (tt _)
 ·cases Jb.mp z
  exact(Qw P w).mono hk (tt _)
theorem Km{ns:List Nat}(h:0 < Qo true ns):Qo true ns∈ns:=by
 unfold Qo at *;split at h
 ·omega
 ·rename_i n
  rw[Zk n,Zu rfl];rw[Zu rfl] at h;rcases(Rg ns 0).2 with e | e
  ·omega
  ·exact e
theorem Zc2{ns:List Nat}{x:Nat}(h:x∈ns):Qo false ns≤x:=by
 unfold Qo;rw[Zk (fun z=>by rw[z] at h;cases h),Zk Zr];cases ns with
 | nil=>cases h
 | cons y l=>
  show l.foldl min y≤x;rcases Je.mp h with e | e
  ·rw[e]
   exact(Bf l y).1.1
  ·exact(Bf l y).1.2 x e
theorem Mf:∀ k≤12,Sn k≤100000:=by decide +kernel
theorem As(j:Nat){i m:Nat}(hm:m≤(j+1+2) / 3)(hi:i≤m):1+i * Sn j≤Sn (j+1):=by
 show 1+i * Sn j≤1+(j+3) / 3 * Sn j;have:i * Sn j≤(j+3) / 3 * Sn j:=Nat.mul_le_mul_right _ (by omega);omega
abbrev Zos:List Str:=["self","place","need","card"]
theorem scWrite:FnScope Zos ["self","place","need"] (Zq Gy):=Uy (by decide +kernel)
theorem Zia{S:Bw}{k kb:Nat}{CT CG CR CW f1 f2 f3 m1 m2:Addr}{d1 d2 d3 e1 e2:FuncData}(F:Fun K "write" "Writing.write" Gy f fd)(CWr:WrC K mg CW)(LH:Lib P w K mg base k "has_seat" ["side","seat"] Qe f1 d1)(LT:Lib P w K mg base k "turn_at" ["game","place"] (Qm CT CG) f2 d2)(LM:Lib P w K mg base k "moves" ["game","place"] (Ql CT CG) f3 d3)
  (MC:Meth K CW "card_for" m1) (FC:FnOk P w K mg base Yr k m1 e1 ["self","place","need"] (N6 P w CT CG CR CW S 12)) (BC:Binds K e1 ["self","place","need"] []) (MB:Meth K CW "write_behind" m2) (FB:FnOk P w K mg base Yr k m2 e2 ["self","place","card","need"] (Zmq P w CT CG CR CW S kb)) (BB:Binds K e2 ["self","place","card","need"] []) :
  FnOk P w K mg base Yr (k+1) f fd ["self","place","need"] (E6 P w CT CG CR CW S (kb+1)):=by
 refine F.ok scWrite (fun vs H Q E h=>?_) (fun cdv A outer s H vs Q E hr h=>?_)
 ·obtain⟨v,gm,gx,rk,dk,dc,p,t,fx,side,hs,lead,ys,m,es,as,need,rfl,_⟩:=h
  rfl
 obtain⟨v,gm,gx,rk,dk,dc,p,t,fx,side,hs,lead,ys,m,es,as,need,rfl,tb,Wv,G,hp,Pl,hs_,sb,t12,hk,hn,hd,q⟩:=h;have hu:=Jx (Nat.add_le_add_left (by decide:20≤64) _) hr.units;refine⟨_,Zh (J5 (PW.pt (Qu (Ji M1 (pv 2) Zn (Jg _)) (Qf (Zhj (Zoa (Qw P w) hu (Um (Za (pv 1) (Za (pv 2) Zg))) (Jt (pv 0) rfl)))))) (Zm Zcy) Jl)
  (Zh (J5 (Yi (Z1 LH.ok hr rfl LH.mg LH.kp LH.bd .nil Ja (Za (Jt (pv 0) rfl) (Za (Z1 LT.ok hr rfl LT.mg LT.kp LT.bd .nil Ja (Za (Jt (pv 0) rfl) (Za (pv 1) Zg))) Zg))) (fun _=>rfl))
   (Zh (Jf (i:=3) scWrite.nd rfl (Or.inl rfl) (Uj (pv 0) CWr.cl MC FC hr BC .nil Ja (Za (pv 1) (Za (pv 2) Zg))))
   (Zh (O5 (Qw P w) hu (Jt (pv 0) rfl) (Um (Za (pv 1) (Za (pv 2) Zg))) (pv 3) rfl)
   (Zh (X8 (Uj (pv 0) CWr.cl MB FB hr BB .nil Ja (Za (pv 1) (Za (pv 3) (Za (pv 2) Zg)))))
   (Zm Zcy)))) Jl)
  (Zh (O5 (Qw P w) hu (Jt (pv 0) rfl) (Um (Za (pv 1) (Za (pv 2) Zg))) Q9 rfl)
  (Zm (Uv PassesOwn.never rfl (Y6 (Z1 LM.ok hr rfl LM.mg LM.kp LM.bd .nil Ja (Za (Jt (pv 0) rfl) (Za (pv 1) Zg)))) (Jj (i:=3) scWrite.nd rfl (Or.inl rfl))
   (Zm (X8 (Uj (pv 0) CWr.cl MB FB hr BB .nil Ja (Za (pv 1) (Za (pv 3) (Za (pv 2) Zg)))))))))),?_⟩
 obtain⟨dx,fs,hv,A1⟩:=id Wv.o;have ok:=G.ok;refine⟨_,rfl,_,_,rfl,rfl,_,rfl,?_⟩;by_cases c0:need≤0
 ·refine X2 (Zd c0) (Ym ?_)
  exact q es as H (KpW.refl _ _ _) Wv (ExtR.refl _ _ _ _ _) (.inl c0) (by omega)
 refine X2 (Zc c0) (Yb ?_);refine⟨_,rfl,_,rfl,J2 2 (by decide),fun ka hka=>?_⟩;have s1:=Z5 hka (.tup [.ref p,.int need]);have W1:=Wv.same s1;have hp1:=hp.same s1;refine⟨_,rfl,v,CW,dx,_,_,rfl,s1 _ _ hv,CWr.cl,CWr.n4,A1.l4,dc,Qr as,(X5 hs lead ys,need),ka,rfl,W1.d,W1.ks,rfl,⟨p,Zo,Xs hp1⟩,_,rfl,?_⟩;cases cg:(Rf (Qr as) (X5 hs lead ys,need)).isSome with
 | true=>exact Ym (q es as _ (KpW.ofS s1) W1 (ExtR.refl _ _ _ _ _) (.inr (Zpc cg)) (by omega))
 | false=>
 refine Yb (Qx ?_);have n1:1≤need:=by omega
 have t0:=Pl.tot0 ok;have m0:m≠0:=fun z=>by
  rw[Vy (t0.mpr z)] at hd;omega
 have tn:J3 hs≠0:=fun z=>m0 (t0.mp z);obtain⟨j,ej⟩:∃ j,J3 hs=j+1:=⟨J3 hs - 1,by omega⟩;have ej':J3 hs - 1=j:=by omega
 have few:=Pl.few ok;obtain⟨h,eh,epc⟩:=Pl.turn ok;have h32:=Pl.h32 ok (Zl eh);have eg:hs.getD ((lead+ys.length) % fx.n) 0=h:=by rw[Zp,eh];rfl
 have eM:moveL fx t hs lead ys m=Ur fx t ys h:=by
  unfold My.moveL;rw[Zk m0,eg]
 have ml:(Ur fx t ys h).length≤m:=Jc (Vl (fx:=fx) (t:=t) (ys:=ys) h32) (Nat.le_of_eq epc);have ev:=N4 (t:=t) (side:=side) ok Pl tn;rw[eg] at ev;have sn12:=Mf _ t12;have tv:Nj fx lead ys m = .int (((lead+ys.length) % fx.n:Nat):Int):=Zk m0;have hv1:=s1 _ _ hv;refine⟨_,rfl,v,CW,dx,_,_,rfl,hv1,CWr.cl,CWr.n2,A1.l2,_,rfl,v,CW,dx,_,_,rfl,hv1,CWr.cl,CWr.n1,A1.l1,_,rfl,gm,gx,p,t,fx,hs,ys,lead,m,rfl,G.same s1,hp1,Pl,fun H2 s2=>?_⟩;have s12:=s1.trans s2;have W2:=Wv.same s12;have G2:=G.same s12;have hp2:=hp.same s12;refine⟨side,(lead+ys.length) % fx.n,?_,?_⟩
 ·rw[tv]
  rfl
 refine⟨_,rfl,?_⟩;have slen:(Qr as).length < sizeLine:=by
  unfold Qr;rw[Zj,sizeLine_eq];omega
 cases hsd:side.testBit ((lead+ys.length) % fx.n) with
 | true=>
  rw[hsd] at ev;refine Ym ?_;have hex:∃ c∈moveL fx t hs lead ys m,need≤((numP fx t side hs lead ys c:Nat):Int):=by
   have pm:=Km (ns:=(Ur fx t ys h).map (numP fx t side hs lead ys)) (by rw[← ev];omega);obtain⟨c,hc,e⟩:=Zv.mp pm;exact⟨c,by rw[eM];exact hc,by rw[e,← ev];exact hd⟩
  refine⟨_,rfl,v,dx,_,rfl,s12 _ _ hv,A1.nm _ (by decide +kernel),_,rfl,_,rfl,v,gm,gx,rk,dk,dc,p,t,fx,side,hs,lead,ys,m,es,as,need,rfl,tb,W2,G2,hp2,Pl,hs_,t12,by have:=sb es W2.r.ok;omega,hex,fun c es3 H3 k3 W3 hc hnc=>?_⟩;have kw3:KpW dk dc H2 H3:=KpW.ofD k3;have hp3:=kw3.pl W2 hp2;have G3:=kw3.gam W2 G2;obtain⟨dx3,fs3,hv3,A3⟩:=id W3.o;refine⟨_,rfl,_,rfl,v,CW,dx3,_,_,rfl,hv3,CWr.cl,CWr.n4,A3.l4,_,rfl,_,rfl,J2 2 (by decide),fun kb hkb=>?_⟩;have s4:=Z5 hkb (.tup [.ref p,.int need]);have W4:=W3.same s4;have hp4:=hp3.same s4;obtain⟨r,er⟩:∃ r:Rw,r=⟨hs,lead,ys,need,some ((c:Nat):Int)⟩:=⟨_,rfl⟩;have hkey:Ds (upd H3 kb (.tup [.ref p,.int need])) (r.k,r.nd) kb:=by rw[er];exact⟨p,Zo,Xs hp4⟩
  obtain⟨W5,k5⟩:=W4.put hkey;refine⟨dc,Qr as,(X5 hs lead ys,need),kb,rfl,W4.d,W4.ks,rfl,⟨p,Zo,Xs hp4⟩,slen,?_⟩;rw[Sm cg];have eH:(((X5 hs lead ys,need),kb,V.int ((c:Nat):Int)):Xn N2)=((r.k,r.nd),kb,El r.cd):=by rw[er];rfl
  rw[eH];have G5:=k5.gam W4 (G3.same s4);have hp5:=k5.pl W4 hp4;have kAll:KpW dk dc H (upd (upd H3 kb (.tup [.ref p,.int need])) dc (Xj (Qw P w) dc (Qr as++[((r.k,r.nd),kb,El r.cd)]))):=(((KpW.ofS s12).trans kw3).trans (KpW.ofS s4)).trans k5;refine nxE ?_;obtain⟨dx5,fs5,hv5,A5⟩:=id W5.o;have hc':c∈Ur fx t ys h:=by rw[← eM];exact hc
  have la:(as++[(r,kb)]).length=as.length+1:=by rw[Z3];rfl
  have st1:=As j (i:=1) (m:=m) (by rw[← ej];exact few) (by omega);rw[Nat.one_mul,← ej] at st1;refine⟨_,rfl,v,dx5,_,rfl,hv5,A5.nm _ (by decide +kernel),_,rfl,_,rfl,_,rfl,v,gm,gx,rk,dk,dc,p,t,fx,side,hs,lead,ys,m,h,c,es3,as++[(r,kb)],need,rfl,tb,W5,G5,hp5,Pl,eh,hc',hs_,sb,t12,by omega,by rw[la,ej'];omega,hnc,fun es6 as6 H6 k6 W6 x6 n6 l6=>?_⟩;have mr:r∈as6.map (·.1):=x6.sub r (by rw[Jp];exact List.mem_append_right _ (Jb.mpr rfl));refine q es6 as6 H6 (kAll.trans k6) W6 ?_ (.inr ⟨r,mr,by rw[er];rfl,by rw[er]⟩) (by rw[la,ej'] at l6;omega);obtain⟨new,e6,hnew,kn6⟩:=x6;refine⟨(r,kb) :: new,by rw[e6,Y5];rfl,fun e he=>?_,fun kn=>kn6 (kn.snoc (by rw[er];exact cg))⟩;rcases Je.mp he with z | z
  ·rw[z]
   refine⟨⟨m,h,?_⟩,by rw[er];exact Zs _⟩;rw[er];exact⟨Pl,eh,n1,hd,.inl ⟨hsd,c,hc',rfl,n6⟩⟩
  ·exact⟨(hnew e z).1,by have:=(hnew e z).2;omega⟩
 | false=>
  rw[hsd] at ev;refine Yb (Qx ?_);have hv2:=s12 _ _ hv;refine⟨_,rfl,v,CW,dx,_,_,rfl,hv2,CWr.cl,CWr.n4,A1.l4,_,rfl,_,rfl,J2 2 (by decide),fun kb hkb=>?_⟩;have s4:=Z5 hkb (.tup [.ref p,.int need]);have W4:=W2.same s4;have hp4:=hp2.same s4;obtain⟨r,er⟩:∃ r:Rw,r=⟨hs,lead,ys,need,none⟩:=⟨_,rfl⟩;have hkey:Ds (upd H2 kb (.tup [.ref p,.int need])) (r.k,r.nd) kb:=by rw[er];exact⟨p,Zo,Xs hp4⟩
  obtain⟨W5,k5⟩:=W4.put hkey;refine⟨dc,Qr as,(X5 hs lead ys,need),kb,rfl,W4.d,W4.ks,rfl,⟨p,Zo,Xs hp4⟩,slen,?_⟩;rw[Sm cg];have eH:(((X5 hs lead ys,need),kb,V.non):Xn N2)=((r.k,r.nd),kb,El r.cd):=by rw[er];rfl
  rw[eH];have G5:=k5.gam W4 (G2.same s4);have hp5:=k5.pl W4 hp4;have kAll:KpW dk dc H (upd (upd H2 kb (.tup [.ref p,.int need])) dc (Xj (Qw P w) dc (Qr as++[((r.k,r.nd),kb,El r.cd)]))):=((KpW.ofS s12).trans (KpW.ofS s4)).trans k5;refine nxE ?_;obtain⟨dx5,fs5,hv5,A5⟩:=id W5.o;have la:(as++[(r,kb)]).length=as.length+1:=by rw[Z3];rfl
  refine⟨_,rfl,v,CW,dx5,_,_,rfl,hv5,CWr.cl,CWr.n1,A5.l1,_,rfl,gm,gx,p,t,fx,hs,ys,lead,m,rfl,G5,tb,hp5,Pl,fun lm H6 s6 hlm hm6=>?_⟩;rw[eM] at hm6;have W6:=W5.same s6;have nk:lm≠dk:=W6.r.nd hm6 (fun _ z=>nomatch z);have nc:lm≠dc:=W6.ndc hm6 (fun _ z=>nomatch z);refine⟨lm,rfl,⟨_,SqL.of hm6⟩,Xd (xs:=vN (Ur fx t ys h)) (fun i σ H'=>KpW dk dc H6 H'∧∃(es':List Xa) (as':List (Rw×Addr)) (x3:Option V),σ=[some (.ref v),some (.ref p),some (.int need),x3]∧Wr P w CR CW S fx t side H' v gm rk dk es' dc as'∧ExtR (J3 hs - 1) fx t side (as++[(r,kb)]) as'∧(∀ c∈(Ur fx t ys h).take i,NxR fx t side (as'.map (·.1)) hs lead ys h c need)∧as'.length≤as.length+1+i * Sn j) ⟨KpW.refl _ _ _,es,as++[(r,kb)],none,rfl,W6,ExtR.refl _ _ _ _ _,(fun c hc=>by rw[List.take_zero] at hc;cases hc),by rw[la];omega⟩ (fun i σ H' _ z=>SqL.of (z.1 _ _ nk nc hm6)) (fun i x σ H7 hx z=>?_) (fun σ H7 z=>?_)⟩
  ·obtain⟨k7,es7,as7,x3,rfl,W7,x7,n7,l7⟩:=z
   obtain⟨c,hi,rfl⟩:=Ni hx;have il:i < (Ur fx t ys h).length:=(Zx.mp hi).1;have hc:=Zl hi;obtain⟨dx7,fs7,hv7,A7⟩:=id W7.o;have st1:=As j (i:=i+1) (m:=m) (by rw[← ej];exact few) (by omega);rw[← ej,Nat.succ_mul] at st1;have hnc:need≤((numP fx t side hs lead ys c:Nat):Int):=by
    have:=Zc2 (ns:=(Ur fx t ys h).map (numP fx t side hs lead ys)) (Zv.mpr ⟨c,hc,rfl⟩);rw[← ev] at this;omega
   refine⟨_,rfl,v,dx7,_,rfl,hv7,A7.nm _ (by decide +kernel),_,rfl,_,rfl,_,rfl,v,gm,gx,rk,dk,dc,p,t,fx,side,hs,lead,ys,m,h,c,es7,as7,need,rfl,tb,W7,k7.gam W6 (G5.same s6),k7.pl W6 (hp5.same s6),Pl,eh,hc,hs_,sb,t12,by omega,by rw[ej'];omega,hnc,fun es8 as8 H8 k8 W8 x8 n8 l8=>?_⟩;refine⟨k7.trans k8,es8,as8,_,rfl,W8,x7.trans x8,fun c' hc'=>?_,by rw[ej'] at l8;rw[Nat.succ_mul];omega⟩;rw[U0,hi] at hc';rcases Jm.mp hc' with z | z
   ·exact(n7 c' z).mono x8.sub
   ·cases Jb.mp z
    exact n8
  ·obtain⟨k7,es7,as7,x3,rfl,W7,x7,n7,l7⟩:=z
   rw[J1,List.take_length] at n7;rw[J1] at l7;have st1:=As j (i:=(Ur fx t ys h).length) (m:=m) (by rw[← ej];exact few) ml;rw[← ej] at st1;have mr:r∈as7.map (·.1):=x7.sub r (by rw[Jp];exact List.mem_append_right _ (Jb.mpr rfl));refine q es7 as7 H7 ((kAll.trans (KpW.ofS s6)).trans k7) W7 ?_ (.inr ⟨r,mr,by rw[er];rfl,by rw[er]⟩) (by omega);obtain⟨new,e7,hnew,kn7⟩:=x7;refine⟨(r,kb) :: new,by rw[e7,Y5];rfl,fun e he=>?_,fun kn=>kn7 (kn.snoc (by rw[er];exact cg))⟩;rcases Je.mp he with z | z
   ·rw[z]
    refine⟨⟨m,h,?_⟩,by rw[er];exact Zs _⟩;rw[er];exact⟨Pl,eh,n1,by rw[N4 (t:=t) (side:=side) ok Pl tn,eg,hsd,← ev];exact hd,.inr ⟨hsd,rfl,n7⟩⟩
   ·exact⟨(hnew e z).1,by have:=(hnew e z).2;omega⟩
theorem Zes{S:Bw}{k:Nat}{CT CG CR CW:Addr}(F:Fun K "write" "Writing.write" Gy f fd):FnOk P w K mg base Yr (k+1) f fd ["self","place","need"] (E6 P w CT CG CR CW S 0):=by
 refine F.ok scWrite (fun vs H Q E h=>?_) (fun cdv A outer s H vs Q E hr h=>?_)
 ·obtain⟨v,gm,gx,rk,dk,dc,p,t,fx,side,hs,lead,ys,m,es,as,need,rfl,_⟩:=h
  rfl
 obtain⟨v,gm,gx,rk,dk,dc,p,t,fx,side,hs,lead,ys,m,es,as,need,rfl,tb,Wv,G,hp,Pl,hs_,sb,t12,hk,_⟩:=h;exact absurd hk (by omega)
theorem Zbh{S:Bw}(hS:SCl S){j0:Nat}{CT CG CR CW aW aB aC f1 f2 f3 f4 f5:Addr}{dW dB dC d1 d2 d3 d4 d5:FuncData}(FWf:Fun K "write" "Writing.write" Gy aW dW)(FBf:Fun K "write_behind" "Writing.write_behind" N9 aB dB)(CWr:WrC K mg CW)
  (MW:Meth K CW "write" aW) (MB:Meth K CW "write_behind" aB) (MC:Meth K CW "card_for" aC) (BW:Binds K dW ["self","place","need"] []) (BB:Binds K dB ["self","place","card","need"] []) (BC:Binds K dC ["self","place","need"] [])
  (FC:FnOk P w K mg base Yr j0 aC dC ["self","place","need"] (N6 P w CT CG CR CW S 12)) (LH:Lib P w K mg base j0 "has_seat" ["side","seat"] Qe f1 d1) (LT:Lib P w K mg base j0 "turn_at" ["game","place"] (Qm CT CG) f2 d2) (LM:Lib P w K mg base j0 "moves" ["game","place"] (Ql CT CG) f3 d3) (LB:Lib P w K mg base j0 "behind" ["game","place","card"] (Xo K CT CG) f4 d4) (LG:Lib P w K mg base j0 "gain" ["side","taker"] Bm f5 d5) (j1:1≤j0) :
  ∀ kb,FnOk P w K mg base Yr (j0+2 * kb) aW dW ["self","place","need"] (E6 P w CT CG CR CW S kb):=by
 intro kb
 induction kb with
 | zero=>
  have F0:FnOk P w K mg base Yr (j0 - 1+1) aW dW ["self","place","need"] (E6 P w CT CG CR CW S 0):=Zes FWf;have e:j0 - 1+1=j0+2 * 0:=by omega
  rw[e] at F0;exact F0
 | succ kb ih=>
  have F1:=Zog hS (k:=j0+2 * kb) FBf CWr (LB.mono (by omega)) (LG.mono (by omega)) MW ih BW;have F2:=Zia (k:=j0+2 * kb+1) FWf CWr (LH.mono (by omega)) (LT.mono (by omega)) (LM.mono (by omega)) MC (FC.mono (by omega)) BC MB F1 BB;have e:j0+2 * kb+1+1=j0+2 * (kb+1):=by omega
  rw[e] at F2;exact F2
theorem Zo3{H:Hp}{p:Addr}{hs:List Nat}{lead:Nat}{ys:List Nat}(h:PlKey H (X5 hs lead ys) p):IsPl H p hs lead ys:=by
 obtain⟨hp,tp,a,b,c⟩:=h;have e:∀ xs:List Nat,((xs.map fun h=>(Sum.inl ((h:Nat):Int):N3)).map kV)=vN xs:=fun xs=>by
  unfold vN;rw[Z7];rfl
 have b':H hp=some (.tup ((hs.map fun h=>(Sum.inl ((h:Nat):Int):N3)).map kV)):=b;have c':H tp=some (.tup ((ys.map fun h=>(Sum.inl ((h:Nat):Int):N3)).map kV)):=c;rw[e] at b' c';exact⟨hp,tp,a,b',c'⟩
def Zgp(P:Program)(w:World)(CR CW:Addr):Sp:=fun vs H Q _=>∃(v gm rk dk dc:Addr) (S:Bw) (fx:Fx) (t:Option Nat) (side:Nat) (es:List Xa) (as:List (Rw×Addr)),vs=[.ref v]∧Wr P w CR CW S fx t side H v gm rk dk es dc as∧as.length≤1000000 ∧
 ∀ l bs H',(∀ b o,b≠dc→H b=some o→H' b=some o)→H l=none→H' l=some (.lst (Xr bs))→bs.map (·.1)=as.map (·.1)→(∀ e∈bs,IsRw H' e.1 e.2)→Q (.ref l) H'
theorem Znn:FnScope ["self"] ["self"] (Zq Ga):=Uy (by decide +kernel)
theorem Zlf{k:Nat}{CR CW:Addr}(F:Fun K "rows" "Writing.rows" Ga f fd)(CWr:WrC K mg CW):FnOk P w K mg base Yr (k+1) f fd ["self"] (Zgp P w CR CW):=by
 refine F.ok Znn (fun vs H Q E h=>?_) (fun cdv A outer s H vs Q E hr h=>?_)
 ·obtain⟨v,gm,rk,dk,dc,S,fx,t,side,es,as,rfl,_⟩:=h
  rfl
 obtain⟨v,gm,rk,dk,dc,S,fx,t,side,es,as,rfl,Wv,l6,q⟩:=h;refine⟨_,Zm (Z9 (Ud ["key","card"] [none,none] rfl (Blk.by (sc:=Zq Ga) (N0:=["self"]) rfl rfl (by decide +kernel)) (Zhr (Qw P w) (Jt (pv 0) rfl)) (fun C s₀ H₀ ex=>Gh (n:=2) K rfl rfl (J6 (Jj (i:=0) (show(["key","card"]:List Str).Nodup by decide +kernel) rfl (Or.inl rfl)) (J6 (Jj (i:=1) (show(["key","card"]:List Str).Nodup by decide +kernel) rfl (Or.inl rfl)) Xt))) (fun C s₀ H₀ ex=>U5)
  (fun C s₀ H₀ ex=>Um (Za (Jw (show IxR _ (Zny K) from Jz) (pv 0) Zn (fun _ _=>rfl)) (Za (Jw (show IxR _ (Zny K) from Jz) (pv 0) Zn (fun _ _=>rfl)) (Za (pv 1) Zg)))))),?_⟩
 obtain⟨dx,fs,hv,A1⟩:=id Wv.o;refine⟨_,rfl,v,CW,dx,_,_,rfl,hv,CWr.cl,CWr.n4,A1.l4,dc,Qr as,rfl,Wv.d,fun ep=>?_⟩;have el:(Qr as).length=as.length:=Zj ..;have kd:∀ b o,b≠dc→H b=some o→upd H dc (Qs (Qw P w) dc (Qr as) ep) b=some o:=fun b o n h=>by
  rw[Jh n];exact h
 have tt:∀ b ys,H b=some (.tup ys)→upd H dc (Qs (Qw P w) dc (Qr as) ep) b=some (.tup ys):=fun b ys e=>kd b _ (Wv.ndc e (fun _ z=>nomatch z)) e;refine Sw (F:=K) (T:=Qw P w) (ep:=ep) (Zo) (fun l i x H'=>∃(r:Rw) (a:Addr),(as.map (·.1))[i]? = some r∧x = .ref a∧IsRw H' r a) (by rw[el,sizeLine_eq];omega) (fun l i x H1 H2 g sm=>?_) (fun l i x H1 xs ys g hl=>?_) (fun i kk b y H1 l vs hx sm hl hL R hR=>?_) (fun l H1 vs sm hl hL hvl hvs=>?_)
 ·obtain⟨r,a,e1,e2,e3⟩:=g
  exact⟨r,a,e1,e2,e3.same sm⟩
 ·obtain⟨r,a,e1,e2,⟨p,e3,hp,tp,e4,e5,e6⟩⟩:=g
  have nt:∀(b:Addr) (zs:List V),H1 b=some (.tup zs)→upd H1 l (.lst ys) b=some (.tup zs):=fun b zs e=>by
   rw[Jh (Bj e hl (fun _ z=>nomatch z))];exact e
  exact⟨r,a,e1,e2,p,nt _ _ e3,hp,tp,nt _ _ e4,nt _ _ e5,nt _ _ e6⟩
 ·unfold Qr at hx
  rw[Z4] at hx;obtain⟨⟨r,a⟩,he,e1⟩:=Js.mp hx;cases e1;obtain⟨p,h1,h2⟩:=(show Ds H (r.k,r.nd) a from Wv.ks ((r.k,r.nd),a,El r.cd) (Zv.mpr ⟨_,Zl he,rfl⟩));have h1':=sm _ _ (tt _ _ h1);have pl':IsPl H1 p r.hs r.lead r.ys:=(Zo3 (h2.mono tt)).same sm;refine⟨_,rfl,a,_,_,_,rfl,rfl,SqT.of h1',(rfl:X6 [V.ref p,V.int r.nd] 0=some (V.ref p)),_,rfl,a,_,_,_,rfl,rfl,SqT.of h1',(rfl:X6 [V.ref p,V.int r.nd] 1=some (V.int r.nd)),_,rfl,J2 3 (by decide),fun u hu=>hR _ _ (Z5 hu _) ⟨r,u,?_,rfl,p,Zo,pl'.same (Z5 hu _)⟩⟩;rw[Z4,he];rfl
 ·obtain⟨ps,rfl,hps⟩:∃ ps:List Addr,vs=ps.map V.ref∧∀ i p,ps[i]? = some p→∃ r,(as.map (·.1))[i]? = some r∧IsRw H1 r p:=by
   refine⟨vs.map fun x=>match x with | .ref a=>a | _=>0,?_,fun i p hp=>?_⟩
   ·rw[Z7]
    refine(List.map_id vs).symm.trans (Jv fun x hx=>?_);obtain⟨i,hi⟩:=List.getElem?_of_mem hx;obtain⟨r,a,_,e2,_⟩:=hvs i x hi;rw[e2];rfl
   ·rw[Z4] at hp
    obtain⟨x,hx,e⟩:=Js.mp hp;obtain⟨r,a,e1,e2,e3⟩:=hvs i x hx;rw[e2] at e;cases e;exact⟨r,e1,e3⟩
  have pl:ps.length=as.length:=by
   rw[Zj] at hvl;rw[hvl,el]
  refine q l ((as.map (·.1)).zip ps) H1 (fun b o n h=>sm _ _ (kd b o n h)) ?_ ?_ ?_ fun e he=>?_
  ·by_cases n:l=dc
   ·rw[n,Zo] at hl
    cases hl
   ·rw[Jh n] at hl
    exact hl
  ·rw[hL]
   unfold Xr;have:((as.map (·.1)).zip ps).map (fun e=>V.ref e.2)=(((as.map (·.1)).zip ps).map (·.2)).map V.ref:=by rw[Z7];rfl
   rw[this,List.map_snd_zip (by rw[Zj];omega)]
  ·exact List.map_fst_zip (by rw[Zj];omega)
  ·obtain⟨i,hi,ei⟩:=Y0.mp he
   have hi':i < ps.length:=by
    rw[List.length_zip] at hi;omega
   obtain⟨r,e1,e2⟩:=hps i ps[i] (Zf hi');rw[List.getElem_zip] at ei;rw[← ei];have hl':i < (as.map (·.1)).length:=by
    rw[Zj];omega
   rw[Zf hl'] at e1;rw[Z0 e1];exact e2
abbrev Zaz:Stmt:=top 44
theorem D0:∀(xs:List Nat),((xs.map fun x=>((x:Nat):Int))).sum=((xs.sum:Nat):Int)
 | []=>rfl
 | x :: xs=>by rw[List.map_cons,List.sum_cons,List.sum_cons,D0 xs,Xy]
theorem Zn9(hs:List Nat):(hs.map fun h=>((Xg 32 h:Nat):Int)).sum=((J3 hs:Nat):Int):=by
 have e:(hs.map fun h=>((Xg 32 h:Nat):Int))=((hs.map (Xg 32)).map fun x=>((x:Nat):Int)):=by rw[Z7];rfl
 unfold J3;rw[e,D0]
def B3:Sp:=fun vs H Q _=>∃(p:Addr) (fx:Fx) (hs:List Nat) (lead:Nat) (ys:List Nat) (m:Nat),vs=[.ref p]∧fx.Ok∧IsPl H p hs lead ys∧Plc fx hs lead ys m∧J3 hs≤12∧∀ H',Same H H'→Q .non H'
theorem Zgx:FnScope ["place"] ["place"] (Zq Gb):=Uy (by decide +kernel)
theorem Zex{k:Nat}{f1:Addr}{d1:FuncData}{t1:Tok}(F:Fun K "refuse_too_many" "refuse_too_many" Gb f fd)(LM:Lib P w K mg base k "many" ["hand"] (Gs K) f1 d1)(mMC:mg "MOST_CARDS" = some (.int 12 t1))(mSu:mg "sum" = none):FnOk P w K mg base Yr (k+1) f fd ["place"] B3:=by
 refine F.ok Zgx (fun vs H Q E h=>?_) (fun cdv A outer s H vs Q E hr h=>?_)
 ·obtain⟨p,fx,hs,lead,ys,m,rfl,_⟩:=h
  rfl
 obtain⟨p,fx,hs,lead,ys,m,rfl,ok,⟨hp,tp,h1,h2,h3⟩,Pl,t12,q⟩:=h;refine⟨_,Zm (J5 (Ji Ek (Jr (S3 rfl) rfl mSu PyProof.Rows.boot_sum (Za (Ud ["hand"] [none] rfl (Blk.by (sc:=Zq Gb) (N0:=["place"]) rfl rfl (by decide +kernel)) (V9 (Jw Jz (pv 0) Zn (fun _ _=>rfl))) (fun C s₀ H₀ ex=>Jj (i:=0) (show(["hand"]:List Str).Nodup by decide +kernel) rfl (Or.inl rfl)) (fun C s₀ H₀ ex=>U5)
   (fun C s₀ H₀ ex=>Z1 LM.ok hr rfl LM.mg LM.kp LM.bd .nil Ja (Za (pv 0) Zg))) Zg)) (Y9 (v:=.int 12) rfl mMC ⟨_,rfl⟩) (Jg _)) (Zm Kl) Jl),?_⟩
 have n4:hs.length≤4:=by rw[Pl.len];rcases ok.n34 with e | e<;>omega
 refine⟨_,rfl,p,_,_,_,rfl,rfl,SqT.of h1,(rfl:X6 [V.ref hp,V.int (lead:Nat),V.ref tp] 0=some (V.ref hp)),hp,rfl,⟨_,SqT.of h2⟩,Nx (K:=K) (xs:=vN hs) (fun _=>true) pcV (SqT.of h2) (J2 _ (by rw[J1];omega)) (fun y H3 hy sm R hR=>hR H3 (Same.refl H3)) (fun y H3 hy hp sm R hR=>?_) (fun lq H4 s4 hlq hL4=>?_)⟩
 ·obtain⟨h,hh,rfl⟩:=Zv.mp hy
  refine⟨_,rfl,h,rfl,Pl.h32 ok hh,?_⟩;have z:=hR H3 (Same.refl H3);have e:pcV (V.int (h:Nat))=V.int ((Xg 32 h:Nat):Int):=by
   show V.int ((Xg 32 (((h:Nat):Int)).toNat:Nat):Int)=_;rw[Z2]
  rw[e] at z;exact z
 ·rw[Kr] at hL4
  have e:decide ((12:Int) < (hs.map fun h=>((Xg 32 h:Nat):Int)).sum)=false:=by
   rw[Zn9];exact Zc (by omega)
  exact⟨lq,_,rfl,SqL.of hL4,_,_,rfl,rfl,_,rfl,X2 e (Yb (q H4 s4))⟩
abbrev Tp:List Str:=["game","side","place","need"]
abbrev Zou:List Str:=["game","side","place","need","writing","made"]
theorem scPaper:FnScope Zou Tp (Zq Zaz):=Uy (by decide +kernel)
def D6(CT CG:Addr):Sp:=fun vs H Q _=>∃(gm gx p:Addr) (t:Option Nat) (fx:Fx) (side:Nat) (hs:List Nat) (lead:Nat) (ys:List Nat) (m:Nat) (need:Int),vs=[.ref gm,.int (side:Nat),.ref p,.int need]∧Mp t∧GamH CT CG fx t H gm gx∧IsPl H p hs lead ys∧Plc fx hs lead ys m∧J3 hs≤12∧need≤((valP fx t side hs lead ys:Nat):Int) ∧
 ∀ l bs H',Same H H'→H l=none→H' l=some (.lst (Xr bs))→(∀ e∈bs,IsRw H' e.1 e.2)→(∀ r∈bs.map (·.1),GoodR fx t side (bs.map (·.1)) r)→CovR (bs.map (·.1)) hs lead ys need→bs.length≤100000→(need≤0→bs=[])→(∀ r∈bs.map (·.1),J3 r.hs≤J3 hs)→((bs.map (·.1)).map fun r=>(r.k,r.nd)).Nodup→Q (.ref l) H'
theorem Zih{k:Nat}{CT CG CR CW f1 aI aA aW aR:Addr}{d1 eI dA dW dR:FuncData}(F:Fun K "paper" "paper" Zaz f fd)(C:RkC K mg CR)(CWr:WrC K mg CW)(LR:Lib P w K mg base (k+1) "refuse_too_many" ["place"] B3 f1 d1)(MkW:Mk K CW aI)(FI:FnOk P w K mg base Yr k aI eI ["self","game","side"] (Kb P w CR CW))(BI:Binds K eI ["self","game","side"] [])
  (MA:Meth K CR "made_at" aA) (FA:∀ S,SCl S→FnOk P w K mg base Yr (k+1) aA dA ["self","place"] (Qn P w CT CG CR S 13)) (BA:Binds K dA ["self","place"] []) (MW:Meth K CW "write" aW) (FW:∀ S,SCl S→FnOk P w K mg base Yr (k+1) aW dW ["self","place","need"] (E6 P w CT CG CR CW S 13)) (BW:Binds K dW ["self","place","need"] [])
  (MR:Meth K CW "rows" aR) (FR:FnOk P w K mg base Yr (k+1) aR dR ["self"] (Zgp P w CR CW)) (BR:Binds K dR ["self"] []):FnOk P w K mg base Yr (k+2) f fd Tp (D6 CT CG):=by
 refine F.ok scPaper (fun vs H Q E h=>?_) (fun cdv A outer s H vs Q E hr h=>?_)
 ·obtain⟨gm,gx,p,t,fx,side,hs,lead,ys,m,need,rfl,_⟩:=h
  rfl
 obtain⟨gm,gx,p,t,fx,side,hs,lead,ys,m,need,rfl,tb,G,hp,Pl,t12,hd,q⟩:=h;have cl:=Sof.cl fx t hs lead ys;refine⟨_,Zh (X8 (Z1 LR.ok hr rfl LR.mg LR.kp LR.bd .nil Ja (Za (pv 2) Zg)))
  (Zh (J5 (Ji M1 (pv 3) Zn (Jg _)) (Zm (Z9 (Xl Zg))) Jl)
  (Zh (Jf (i:=4) scPaper.nd rfl (Or.inl rfl) (E9 MkW FI hr rfl CWr.mW BI .nil Ja (Za (pv 0) (Za (pv 1) Zg))))
  (Zh (Jf (i:=5) scPaper.nd rfl (Or.inl rfl) (Uj (Jt (pv 4) rfl) C.cl MA (FA _ cl) hr BA .nil Ja (Za (pv 2) Zg)))
  (Zh (J5 (Ji Ek (pv 3) (pv 5) (Jg _)) (Zm Kl) Jl)
  (Zh (X8 (Uj (pv 4) CWr.cl MW (FW _ cl) hr BW .nil Ja (Za (pv 2) (Za (pv 3) Zg))))
  (Zm (Z9 (Vf (pv 4) CWr.cl MR FR hr BR .nil Ja)))))))),?_⟩
 have ok:=G.ok;have sn:=Mf _ t12;refine⟨_,rfl,p,fx,hs,lead,ys,m,rfl,ok,hp,Pl,t12,fun H1 s1=>?_⟩;refine⟨_,rfl,_,_,rfl,rfl,_,rfl,?_⟩;by_cases c0:need≤0
 ·refine X2 (Zd c0) (Ym ⟨J2 0 (by decide),fun l hl=>?_⟩)
  exact q l [] _ (s1.trans (Z5 hl _)) (s1.free hl) Zo (fun e he=>nomatch he) (fun r hr=>nomatch hr) (.inl c0) (Nat.zero_le _) (fun _=>rfl) (fun r hr=>nomatch hr) List.nodup_nil
 refine X2 (Zc c0) (Yb (Qx ?_));refine⟨_,rfl,_,rfl,?_⟩;intro v dv hv0 hdv nv;refine⟨v,dv,gm,side,rfl,Zo,fun rk dk dc H2 kp ndk ndc hW=>⟨rfl,?_⟩⟩;have sm:=Uz (o:=.ins CW dv []) hv0 hdv nv;have s2:=Rc hv0 hdv nv kp;have s12:=s1.trans s2;have W2:=hW (Sof fx t hs lead ys) fx t;obtain⟨dx,fs,hv2,A1⟩:=id W2.o;obtain⟨dr,fr,hr2,A2⟩:=id W2.r.o;have S0:Sof fx t hs lead ys fx t hs lead ys:=⟨rfl,rfl,.here⟩;refine⟨_,rfl,v,CW,dx,_,_,rfl,hv2,CWr.cl,CWr.n3,A1.l3,rk,dr,_,rfl,hr2,A2.nm _ (by decide +kernel),_,rfl,rk,gm,gx,dk,p,t,fx,side,hs,lead,ys,m,[],rfl,tb,W2.r,G.same s12,hp.same s12,Pl,S0,by omega,by show 0+Sn (J3 hs)≤1000000;omega,fun es3 H3 k3 R3 _ _=>?_⟩;have W3:=W2.didR k3 R3;have kw3:KpW dk dc H2 H3:=KpW.ofD k3;have G3:=kw3.gam W2 (G.same s12);have hp3:=kw3.pl W2 (hp.same s12);obtain⟨dx3,fs3,hv3,A3⟩:=id W3.o;refine⟨_,rfl,_,rfl,_,_,rfl,rfl,_,rfl,X2 (Zc (by omega)) (Yb (Qx ?_))⟩;have sb:SB (Sof fx t hs lead ys) fx t side:=fun es hR=>Jc (Zel ok Pl hR) sn;refine⟨_,rfl,v,dx3,_,rfl,hv3,A3.nm _ (by decide +kernel),_,rfl,_,rfl,v,gm,gx,rk,dk,dc,p,t,fx,side,hs,lead,ys,m,es3,[],need,rfl,tb,W3,G3,hp3,Pl,S0,sb,t12,by omega,by show 0+Sn (J3 hs)≤1000000;omega,hd,fun es4 as4 H4 k4 W4 x4 c4 l4=>?_⟩;obtain⟨dx4,fs4,hv4,A4⟩:=id W4.o;have l4':as4.length≤100000:=by
  have:as4.length≤0+Sn (J3 hs):=l4;omega
 refine⟨_,rfl,v,dx4,_,rfl,hv4,A4.nm _ (by decide +kernel),v,gm,rk,dk,dc,_,fx,t,side,es4,as4,rfl,W4,by omega,fun l bs H5 k5 nl hl e5 r5=>?_⟩;have hdk:H dk=none:=s1.free (sm.free ndk);have hdc:H dc=none:=s1.free (sm.free ndc);have kA:∀ b o,H b=some o→H5 b=some o:=fun b o hb=>by
  have n1:b≠dk:=J4 hb hdk;have n2:b≠dc:=J4 hb hdc;exact k5 b o n2 (k4 b o n1 n2 (kw3 b o n1 n2 (s12 _ _ hb)))
 have nl0:H l=none:=by
  cases z:H l with
  | none=>rfl
  | some o=>
   have n1:l≠dk:=J4 z hdk;have n2:l≠dc:=J4 z hdc;rw[k4 l o n1 n2 (kw3 l o n1 n2 (s12 _ _ z))] at nl;cases nl
 have lb:bs.length=as4.length:=by
  have:=congrArg List.length e5;rw[Zj,Zj] at this;exact this
 obtain⟨new,e4,hnew,kn4⟩:=x4;have kn:=kn4 List.nodup_nil;have hin:∀ r∈bs.map (·.1),GoodR fx t side (as4.map (·.1)) r∧J3 r.hs≤J3 hs:=fun r hr=>by
  rw[e5] at hr;obtain⟨e,he,rfl⟩:=Zv.mp hr;rw[e4,List.nil_append] at he;exact hnew e he
 refine q l bs H5 kA nl0 hl r5 (fun r hr=>?_) (by rw[e5];exact c4) (by omega) (fun z=>absurd z c0) (fun r hr=>(hin r hr).2) ?_
 ·rw[e5]
  exact(hin r hr).1
 ·rw[e5,Z7]
  exact kn
def OkP(fx:Fx)(hs:List Nat)(lead:Nat)(ys:List Nat)(b:Bool):Prop:=b=true∧∃ m,Plc fx hs lead ys m
theorem Plc.fm{fx:Fx}(ok:fx.Ok){r:Rw}{m:Nat}(Pl:Plc fx r.hs r.lead r.ys m):r.Fm:=by
 have n4:fx.n≤4:=by rcases ok.n34 with e | e<;>omega
 exact⟨by rw[Pl.len];omega,by have:=Pl.yl;omega⟩
theorem Zi4{rs:List Rw}{r:Rw}(h:r∈rs):r.nd≤Nf rs r.k:=by
 unfold Nf;have up:∀(l:List Rw) (a:Int),a≤l.foldl (fun a x=>if x.k=r.k then max x.nd a else a) a:=by
  intro l
  induction l with
  | nil=>exact fun a=>Int.le_refl _
  | cons x l ih=>
   intro a;rw[List.foldl_cons];refine Int.le_trans ?_ (ih _);split
   ·exact Int.le_max_right _ _
   ·exact Int.le_refl _
 have:∀(l:List Rw) (a:Int),r∈l→r.nd≤l.foldl (fun a x=>if x.k=r.k then max x.nd a else a) a:=by
  intro l
  induction l with
  | nil=>exact fun a h=>nomatch h
  | cons x l ih=>
   intro a h;rw[List.foldl_cons];rcases Je.mp h with e | e
   ·subst e
    rw[Zu rfl];exact Int.le_trans (Int.le_max_left _ _) (up _ _)
   ·exact ih _ e
 exact this rs 0 h
theorem Zor{rs:List Rw}{k:Ug}{B:Int}(B0:0≤B)(h:∀ r∈rs,r.k=k→r.nd≤B):Nf rs k≤B:=by
 unfold Nf;have:∀(l:List Rw) (a:Int),a≤B→(∀ r∈l,r.k=k→r.nd≤B)→l.foldl (fun a x=>if x.k=k then max x.nd a else a) a≤B:=by
  intro l
  induction l with
  | nil=>exact fun a h _=>h
  | cons x l ih=>
   intro a ha h;rw[List.foldl_cons];refine ih _ ?_ fun r hr=>h r (Zz _ hr);split
   ·rename_i e
    exact Int.max_le.mpr ⟨h x Zy e,ha⟩
   ·exact ha
 exact this rs 0 B0 h
theorem Zbe{b:Bool}{ns:List Nat}{B:Nat}(h:∀ x∈ns,x≤B):Qo b ns≤B:=by
 by_cases n:ns=[]
 ·rw[n]
  exact Nat.zero_le _
 cases b with
 | true=>
  rcases Nat.eq_zero_or_pos (Qo true ns) with e | e
  ·omega
  ·exact h _ (Km e)
 | false=>
  obtain⟨x,hx⟩:=List.exists_mem_of_ne_nil ns n;exact Jc (Zc2 hx) (h x hx)
theorem Zca{fx:Fx}(ok:fx.Ok){t:Option Nat}{side:Nat}:∀(n:Nat) {hs:List Nat} {lead:Nat} {ys:List Nat} {m:Nat},Plc fx hs lead ys m→J3 hs=n→valP fx t side hs lead ys≤m
 | 0,hs,lead,ys,m,Pl,tn=>by
  rw[Vy tn];exact Nat.zero_le _
 | n+1,hs,lead,ys,m,Pl,tn=>by
  rw[N4 ok Pl (by omega)];obtain⟨h,eh,epc⟩:=Pl.turn ok;have eg:hs.getD ((lead+ys.length) % fx.n) 0=h:=by rw[Zp,eh];rfl
  rw[eg];refine Zbe fun x hx=>?_;obtain⟨c,hc,rfl⟩:=Zv.mp hx;have hb:=(Qa (Pl.h32 ok (Zl eh)) hc).1;obtain⟨hs',lead',ys',tk,N⟩:=Ad ok t Pl eh hb;obtain⟨m',Pl',_,tt,m0,g⟩:=N.plc ok Pl eh hb;have et:J3 hs'+1=J3 hs:=tt;have ih:=Zca ok (t:=t) (side:=side) n Pl' (by omega);rw[Ae ok Pl eh hb N];rcases g with⟨rfl,e,_⟩ | ⟨rfl,e,_⟩
  ·show 0+_≤m
   omega
  ·have:Qp side (some lead')≤1:=by
    show(if side.testBit lead'=true then 1 else 0)≤1;split<;>omega
   omega
theorem Zj3{rs rs':List Rw}{hs:List Nat}{lead:Nat}{ys:List Nat}{need:Int}(h:CovR rs hs lead ys need)(s:∀ r∈rs,r∈rs'):need≤Nf rs' (X5 hs lead ys):=by
 rcases h with z | ⟨r,hr,e1,e2⟩
 ·exact Int.le_trans z (Tz _ _)
 ·have:=Zi4 (s r hr)
  rw[e1,e2] at this;exact this
theorem GoodR.right{fx:Fx}(ok:fx.Ok){t:Option Nat}{side:Nat}{rs rs':List Rw}{r:Rw}(g:GoodR fx t side rs r)(s:∀ r∈rs,r∈rs'):rtB fx t side (Nf rs') r=true:=by
 obtain⟨m,h,Pl,eh,n1,n2,g⟩:=g.g;have em:=Zbv ok Pl;have vm:=Zca ok (t:=t) (side:=side) _ Pl rfl;have m0:m≠0:=by omega
 have h32:=Pl.h32 ok (Zl eh);have eg:r.hs.getD ((r.lead+r.ys.length) % fx.n) 0=h:=by rw[Zp,eh];rfl
 have eM:moveL fx t r.hs r.lead r.ys m=Ur fx t r.ys h:=by
  unfold My.moveL;rw[Zk m0,eg]
 have cv:∀ c,c∈Ur fx t r.ys h→NxR fx t side rs r.hs r.lead r.ys h c r.nd→covB fx t side (Nf rs') r.hs r.lead r.ys c r.nd=true:=fun c hc nx=>by
  have hb:=(Qa h32 hc).1;obtain⟨hs',lead',ys',tk,N⟩:=Ad ok t Pl eh hb;rw[Ao Pl eh hb N];exact Zd (Zj3 (nx _ _ _ _ N) s)
 unfold rtB;rw[em,Zd n1,Zd (show r.nd≤((m:Nat):Int) by omega),Bool.true_and,Bool.true_and,eM];rcases g with⟨e1,c,hc,e2,nx⟩ | ⟨e1,e2,nx⟩
 ·rw[e1,Zu rfl,e2]
  dsimp only;rw[Z2,cv c hc nx,Bool.and_true];exact List.any_eq_true.mpr ⟨c,hc,Zd rfl⟩
 ·rw[e1,Zk Zr,e2]
  exact J9.mpr fun c hc=>cv c hc (nx c hc)
def Oe(CT CG:Addr):Sp:=fun vs H Q _=>∃(gm gx p:Addr) (t:Option Nat) (fx:Fx) (side:Nat) (hs:List Nat) (lead:Nat) (ys:List Nat) (m:Nat),vs=[.ref gm,.ref p,.int (side:Nat)]∧Mp t∧GamH CT CG fx t H gm gx∧IsPl H p hs lead ys∧Plc fx hs lead ys m∧J3 hs≤12∧∀ H',Same H H'→Q (.int ((valP fx t side hs lead ys:Nat):Int)) H'
abbrev Mx:List Str:=["game","place","side"]
theorem Zkv:FnScope Mx Mx (Zq Za9):=Uy (by decide +kernel)
theorem Zix{k:Nat}{CT CG CR f1 aI aA:Addr}{d1 eI dA:FuncData}(F:Fun K "count" "count" Za9 f fd)(C:RkC K mg CR)(LR:Lib P w K mg base (k+1) "refuse_too_many" ["place"] B3 f1 d1)(MkR:Mk K CR aI)(FI:FnOk P w K mg base Yr k aI eI ["self","game","side"] (Gr P w CR))(BI:Binds K eI ["self","game","side"] [])
  (MA:Meth K CR "made_at" aA) (FA:∀ S,SCl S→FnOk P w K mg base Yr (k+1) aA dA ["self","place"] (Qn P w CT CG CR S 13)) (BA:Binds K dA ["self","place"] []):FnOk P w K mg base Yr (k+2) f fd Mx (Oe CT CG):=by
 refine F.ok Zkv (fun vs H Q E h=>?_) (fun cdv A outer s H vs Q E hr h=>?_)
 ·obtain⟨gm,gx,p,t,fx,side,hs,lead,ys,m,rfl,_⟩:=h
  rfl
 obtain⟨gm,gx,p,t,fx,side,hs,lead,ys,m,rfl,tb,G,hp,Pl,t12,q⟩:=h;have cl:=Sof.cl fx t hs lead ys;refine⟨_,Zh (X8 (Z1 LR.ok hr rfl LR.mg LR.kp LR.bd .nil Ja (Za (pv 1) Zg)))
  (Zm (Z9 (Uj (E9 MkR FI hr rfl C.mR BI .nil Ja (Za (pv 0) (Za (pv 2) Zg))) C.cl MA (FA _ cl) hr BA .nil Ja (Za (pv 1) Zg)))),?_⟩
 refine⟨_,rfl,p,fx,hs,lead,ys,m,rfl,G.ok,hp,Pl,t12,fun H1 s1=>?_⟩;refine nxE ?_;refine⟨_,rfl,_,rfl,?_⟩;intro r dr hr0 hdr nr;refine⟨r,dr,gm,side,rfl,Zo,fun d H2 kp nd R=>⟨rfl,?_⟩⟩;have sm:=Uz (o:=.ins CR dr []) hr0 hdr nr;have s2:=Rc hr0 hdr nr kp;have s12:=s1.trans s2;have R2:=R (Sof fx t hs lead ys) fx t;obtain⟨dx,fs,hr2,A2⟩:=id R2.o;have sn:=Mf _ t12;refine⟨r,dx,_,rfl,hr2,A2.nm _ (by decide +kernel),_,rfl,r,gm,gx,d,p,t,fx,side,hs,lead,ys,m,[],rfl,tb,R2,G.same s12,hp.same s12,Pl,⟨rfl,rfl,.here⟩,by omega,by show 0+Sn (J3 hs)≤1000000;omega,fun es' H' k' R' _ _=>q H' (fun b o h=>?_)⟩;exact k' b o (J4 (sm _ _ (s1 _ _ h)) nd) (s12 _ _ h)
abbrev Zg1:Stmt:=top 74
abbrev Bp:Stmt:=top 75
theorem Zj0{f:Fx}(ok:f.Ok){sz:Nat}{ds:List Nat}{css:List (List Nat)}(hp:ds.Perm (Yz f.s f.h))(hsz:sz * f.n≤f.s * f.h)(hl:css.length=f.n)
  (hc:∀(j:Nat) (cs:List Nat),css[j]? = some cs→cs.Perm ((ds.drop (sz * j)).take sz)) (hu:∀ cs∈css,cs.Pairwise (·≤·)):DealOk f sz css:=by
 have ll:ds.length=f.s * f.h:=by rw[hp.length_eq,Np]
 have e1:=Dc css _ hc;rw[hl,Zj4 ds sz f.n] at e1;refine⟨hl,fun cs hcs=>?_,?_,fun c hcc=>?_,hu⟩
 ·obtain⟨j,hj,e⟩:=Y0.mp hcs
  have p:=hc j cs (by rw[Zf hj,e]);rw[p.length_eq,J0,Yk,ll];have h1:sz * (j+1)≤sz * f.n:=Nat.mul_le_mul_left _ (by omega);rw[Nat.mul_succ] at h1;omega
 ·exact e1.nodup_iff.mpr (List.Nodup.sublist (List.take_sublist _ _) (hp.nodup_iff.mpr (Zc8 f.s ok.s4 f.h ok.h8)))
 ·exact(Vh ok.h8).mp (hp.mem_iff.mp (List.mem_of_mem_take (e1.mem_iff.mp hcc)))
def Sy(cs:List Nat)(sz j:Nat):List Nat:=(cs.drop (sz * j)).take sz
theorem Zjz{f:Fx}(ok:f.Ok){sz:Nat}{cs:List Nat}(hp:cs.Perm (Yz f.s f.h))(hsz:sz * f.n≤f.s * f.h){lead:Nat}(hl:lead < f.n):Plc f ((List.range f.n).map fun j=>hN (Sy cs sz j)) lead [] sz∧J3 ((List.range f.n).map fun j=>hN (Sy cs sz j))=f.n * sz:=by
 have D:DealOk f sz ((List.range f.n).map fun j=>(Sy cs sz j).mergeSort (·≤·)):=Zj0 ok hp hsz (by rw[Zj,J7]) (fun j c e=>by
  rw[Z4] at e;obtain⟨i,hi,rfl⟩:=Js.mp e;have jl:j < f.n:=by
   have:=(Zx.mp hi).1;rw[J7] at this;exact this
  rw[List.getElem?_range jl] at hi;cases hi;exact List.mergeSort_perm _ _) fun c hc=>by
  obtain⟨j,_,rfl⟩:=Zv.mp hc;exact(List.pairwise_mergeSort (le:=fun a b=>decide (a≤b)) (fun a b c h1 h2=>by simp only[decide_eq_true_eq] at *;omega) (fun a b=>by simp only[Bool.or_eq_true,decide_eq_true_eq];omega) _).imp fun h=>Ju h
 have e:(((List.range f.n).map fun j=>(Sy cs sz j).mergeSort (·≤·)).map hN)=(List.range f.n).map fun j=>hN (Sy cs sz j):=by
  rw[Z7];refine Jv fun j _=>Zb4 fun i=>?_;exact(List.mergeSort_perm _ _).mem_iff
 have z:=D.plc ok hl;rw[e] at z;refine⟨z,?_⟩;unfold J3;rw[← e];have:∀(css:List (List Nat)),(∀ c∈css,c.Nodup∧(∀ x∈c,x < 32)∧c.length=sz)→((css.map hN).map (Xg 32)).sum=css.length * sz:=by
  intro css
  induction css with
  | nil=>intro _;simp
  | cons c r ih=>
   intro h;obtain⟨h1,h2,h3⟩:=h c Zy;rw[List.map_cons,List.map_cons,List.sum_cons,Zmv h1 h2,h3,ih fun c hc=>h c (Zz _ hc),Jo,Nat.succ_mul,Nat.add_comm]
 rw[this _ fun c hc=>⟨D.nd1 hc,D.c32 ok hc,D.each c hc⟩,D.len]
def Ob(K:W.Frag)(CT CG:Addr):Sp:=fun vs H Q _=>∃(a gm x:Addr) (ns:List Int) (fx:Fx) (t:Option Nat),vs=[.ref a,.ref gm]∧SqL K H a (ns.map V.int)∧GamH CT CG fx t H gm x∧∀(sz:Nat) (H':Hp),Same H H'→sz * fx.n≤fx.s * fx.h→fx.n * sz≤12→Q (.int (sz:Nat)) H'
def D5(K:W.Frag)(CT CG:Addr):Sp:=fun vs H Q _=>∃(a gm x:Addr) (ns:List Int) (fx:Fx) (t:Option Nat),vs=[.ref a,.ref gm]∧SqL K H a (ns.map V.int)∧GamH CT CG fx t H gm x∧Mp t ∧
 ∀ p hs lead ys m H',Same H H'→IsPl H' p hs lead ys→Plc fx hs lead ys m→J3 hs≤12→Q (.ref p) H'
abbrev To:List Str:=["_law_script","_law_game_here"]
abbrev Zi8:List Str:=["_law_script","_law_game_here","_law_cards","_law_size_here","_law_seats","_law_hands","_law_place_here","_law_k","_law_some"]
abbrev nGp1:List Str:=["_law_k","_law_cards","_law_size_here"]
theorem scPlace:FnScope Zi8 To (Zq Bp):=Uy (by decide +kernel)
def cGp:Scope:=match (Y2 Bp).getD 3 (.Pass ⟨0,0,0,0⟩) with
 | .Assign _ (.Call _ [.ListComp _ _ sc _] _ _) _=>sc
 | _=>Zq Bp
theorem Zj1(xs:List V)(c d:Nat)(hc:c≤xs.length)(hd:d≤xs.length):Ed xs (some (c:Int)) (some (d:Int))=(xs.drop c).take (d - c):=by
 unfold Ed;rw[HT.sIx_nat,HT.sIx_nat,Xw hc,Xw hd]
theorem Zig{k:Nat}{CT CG f1 f2 f3 f4 f5 f6:Addr}{d1 d2 d3 d4 d5 d6:FuncData}(F:Fun K "_law_place" "_law_place" Bp f fd)(C:TabC K mg CT)(CGm:GamC K mg CG)(LZ:Lib P w K mg base k "_law_size" ["_law_script","_law_game_here"] (Ob K CT CG) f6 d6)(LS:Lib P w K mg base k "_law_shuffled" ["_law_script","_law_game_here"] (Zak K CT CG) f1 d1)(LI:Lib P w K mg base k "_law_bit" ["_law_card"] Ke f2 d2)(LC:Lib P w K mg base k "_law_cell" Nq (E7 K) f3 d3)
  (LM:Lib P w K mg base k "moves" ["game","place"] (Ql CT CG) f4 d4) (LB:Lib P w K mg base k "behind" ["game","place","card"] (Xo K CT CG) f5 d5) (mr:mg "range" = none) (mT:mg "tuple" = none) (mS:mg "sum" = none) (ml:mg "len" = none):FnOk P w K mg base Yr (k+1) f fd To (D5 K CT CG):=by
 refine F.ok scPlace (fun vs H Q E h=>?_) (fun cdv A outer s H vs Q E hr h=>?_)
 ·obtain⟨a,gm,x,ns,fx,t,rfl,_⟩:=h
  rfl
 obtain⟨a,gm,x,ns,fx,t,rfl,hS,G,tb,q⟩:=h;refine⟨_,Zh (Jf (i:=2) scPlace.nd rfl (Or.inr rfl) (Z1 LS.ok hr rfl LS.mg LS.kp LS.bd .nil Ja (Za (pv 0) (Za (pv 1) Zg))))
  (Zh (Jf (i:=3) scPlace.nd rfl (Or.inr rfl) (Z1 LZ.ok hr rfl LZ.mg LZ.kp LZ.bd .nil Ja (Za (pv 0) (Za (pv 1) Zg))))
  (Zh (Jf (i:=4) scPlace.nd rfl (Or.inl rfl) (Jt (Jt (pv 1) rfl) rfl))
  (Zh (Jf (i:=5) scPlace.nd rfl (Or.inl rfl) (Yy Xp rfl mT Yf (Za (Ud nGp1 [none,some 2,some 3] rfl (Blk.by (sc:=Zq Bp) (N0:=Zi8) rfl rfl (by decide +kernel)) (U7 rfl mr (Za (pv 4) Zg)) (fun C s₀ H₀ ex=>Jj (i:=0) (show nGp1.Nodup by decide +kernel) rfl (Or.inl rfl)) (fun C s₀ H₀ ex=>U5)
   (fun C s₀ H₀ ex=>Jr (show X3 _ (.builtin "sum") (fun xs H Q=>∃(a:Addr) (ns:List Int),xs=[.ref a]∧SqL K H a (ns.map V.int)∧Q (.int ns.sum) H) from S3 rfl) rfl mS PyProof.Rows.boot_sum (Za (Ud ["_law_card"] [none] rfl (Blk.by (sc:=Zrs cGp (Zq Bp)) (N0:=nGp1) rfl rfl (by decide +kernel)) (Zhq K rfl (X9 (show SlR _ (Zqe K) from N7) (pv 1) (U4 (Jd Xm (pv 2) (pv 0))) (U4 (Jd Y1 (Jd Xm (pv 2) (pv 0)) (pv 2))))) (fun C s₀ H₀ ex=>Jj (i:=0) (show(["_law_card"]:List Str).Nodup by decide +kernel) rfl (Or.inl rfl)) (fun C s₀ H₀ ex=>U5)
    (fun C s₀ H₀ ex=>Z1 LI.ok hr rfl LI.mg LI.kp LI.bd .nil Ja (Za (pv 0) Zg))) Zg))) Zg)))
  (Zh (Jf (i:=6) scPlace.nd rfl (Or.inl rfl) (Um (Za (pv 5) (Za (Jd Yv (Z1 LC.ok hr rfl LC.mg LC.kp LC.bd .nil Ja (Za (pv 0) (Za Zn Zg))) (pv 4)) (Za (Um Zg) Zg)))))
  (Zh (Uv PassesOwn.never rfl (U7 rfl mr (Za (Jd Yv (Z1 LC.ok hr rfl LC.mg LC.kp LC.bd .nil Ja (Za (pv 0) (Za Zn Zg))) Zn) Zg)) (Jj (i:=7) scPlace.nd rfl (Or.inl rfl))
   (Zh (Jf (i:=8) scPlace.nd rfl (Or.inl rfl) (Z1 LM.ok hr rfl LM.mg LM.kp LM.bd .nil Ja (Za (pv 1) (Za (pv 6) Zg))))
   (Zm (J5 (Ji Ek (Jr Jy rfl ml Jq (Za (pv 8) Zg)) Zn (Jg _)) (Zm (Jf (i:=6) scPlace.nd rfl (Or.inl rfl) (Jw Jz (Z1 LB.ok hr rfl LB.mg LB.kp LB.bd .nil Ja (Za (pv 1) (Za (pv 6) (Za (Jw Uk (pv 8) (Jd Yv (Z1 LC.ok hr rfl LC.mg LC.kp LC.bd .nil Ja (Za (pv 0) (Za (Jd Y1 Zn (pv 7)) Zg))) (Jr Jy rfl ml Jq (Za (pv 8) Zg))) (fun _ _=>rfl)) Zg)))) Zn (fun _ _=>rfl)))) Jl))))
  (Zm (Z9 (pv 6)))))))),?_⟩
 have ok:=G.ok;have n4:fx.n≤4:=by rcases ok.n34 with e | e<;>omega
 have n3:3≤fx.n:=by rcases ok.n34 with e | e<;>omega
 have sn:fx.s * fx.h≤32:=Jc (Nat.mul_le_mul ok.s4 ok.h8) (by decide);have z1000:=J2 1000 (by decide);refine⟨_,rfl,_,rfl,a,gm,x,ns,fx,t,rfl,hS,G,fun lc cs H0 pm s0 hlc hC0=>?_⟩;obtain⟨dg,hg⟩:=id G.g;obtain⟨dx,po,to,hx,_,_⟩:=id G.t;have cl:cs.length=fx.s * fx.h:=by rw[pm.length_eq,Np]
 have nd:cs.Nodup:=pm.nodup_iff.mpr (Zc8 fx.s ok.s4 fx.h ok.h8);have c32:∀ c∈cs,c < 32:=fun c hc=>by
  have:=(Vh ok.h8).mp (pm.mem_iff.mp hc);have:=ok.s4;have:=ok.h8;omega
 refine⟨_,rfl,_,rfl,a,gm,x,ns,fx,t,rfl,s0.seq hS,G.same s0,fun sz H1 sz1 szn sz12=>Zi1 ?_⟩;have s1:=s0.trans sz1;have hC:=sz1 _ _ hC0;have sz32:sz≤32:=by
  have:sz * 1≤sz * fx.n:=Nat.mul_le_mul_left _ (by omega);omega
 refine⟨_,rfl,gm,CG,dg,_,_,rfl,s1 _ _ hg,CGm.cl,CGm.nT,Yt _ _,x,CT,dx,_,_,rfl,s1 _ _ hx,C.cl,C.nN,Us _ _ _,Zi1 ?_⟩;refine U3 (fun v H2=>Same H H2∧∃ hp,v = .ref hp∧H2 hp=some (.tup (vN ((List.range fx.n).map fun j=>hN (Sy cs sz j))))) (fun R hR=>?_) (fun v H2 z=>?_)
 ·refine⟨_,rfl,(fx.n:Int),rfl,by omega,by omega,?_⟩
  refine Bu (n:=fx.n) (lo:=0) (fun _=>true) (fun j=>.int ((hN (Sy cs sz j):Nat):Int)) (J2 _ (by omega)) (fun j H3 hj sm R hR=>hR H3 (Same.refl H3)) (fun i H3 hi hp sm R hR=>?_) (fun l3 H3 s3 hl3 hL3=>?_)
  ·have b1:sz * i+sz≤cs.length:=by
    rw[cl];have:sz * (i+1)≤sz * fx.n:=Nat.mul_le_mul_left _ (by omega);rw[Nat.mul_succ] at this;omega
   have eI:((sz:Nat):Int) * (0+((i:Nat):Int))=((sz * i:Nat):Int):=by rw[Q2,Int.natCast_mul]
   have eJ:((sz:Nat):Int) * (0+((i:Nat):Int))+((sz:Nat):Int)=((sz * i+sz:Nat):Int):=by rw[eI,Xy]
   have hC3:=sm _ _ hC;refine⟨_,rfl,_,rfl,_,rfl,_,_,rfl,rfl,.inl ⟨by omega,by omega⟩,_,rfl,_,rfl,_,rfl,_,_,rfl,rfl,.inl ⟨by omega,by omega⟩,_,rfl,_,_,rfl,rfl,_,rfl,lc,_,rfl,SqL.of hC3,fun lk hlk=>?_⟩;have eC:Ed (vN cs) (some (((sz:Nat):Int) * (0+((i:Nat):Int)))) (some (((sz:Nat):Int) * (0+((i:Nat):Int))+((sz:Nat):Int)))=vN (Sy cs sz i):=by
    rw[eJ,eI,Zj1 _ (sz * i) (sz * i+sz) (by rw[J1];omega) (by rw[J1];omega),Nat.add_sub_cancel_left];unfold vN Sy;rw[List.map_take,List.map_drop]
   have s7:=Z5 hlk (.lst (Ed (vN cs) (some (((sz:Nat):Int) * (0+((i:Nat):Int)))) (some (((sz:Nat):Int) * (0+((i:Nat):Int))+((sz:Nat):Int)))));have hK:upd H3 lk (.lst (Ed (vN cs) (some (((sz:Nat):Int) * (0+((i:Nat):Int)))) (some (((sz:Nat):Int) * (0+((i:Nat):Int))+((sz:Nat):Int))))) lk=some (.lst (vN (Sy cs sz i))):=by rw[Zo,eC]
   have kl:(Sy cs sz i).length=sz:=by unfold Sy;rw[J0,Yk];omega
   refine⟨lk,rfl,⟨_,SqL.of hK⟩,Qj (K:=K) (xs:=vN (Sy cs sz i)) (fun _=>true) Zhl (SqL.of hK) (J2 _ (by rw[J1,kl];omega)) (fun x H3 hx sm R hR=>hR H3 (Same.refl H3)) (fun x H8 hx hp sm8 R hR=>?_) (fun lr H8 s8 hlr hL8=>?_)⟩
   ·obtain⟨c,hc,rfl⟩:=Zv.mp hx
    have:=c32 c (List.mem_of_mem_drop (List.mem_of_mem_take hc));refine⟨_,rfl,c,rfl,by omega,?_⟩;have z:=hR H8 (Same.refl H8);have e:Zhl (V.int (c:Nat))=V.int ((2 ^ c:Nat):Int):=by
     show V.int ((2 ^ (((c:Nat):Int)).toNat:Nat):Int)=_;rw[Z2]
    rw[e] at z;exact z
   ·rw[Mv,Dv] at hL8
    have z:=hR H8 (s7.trans s8);refine⟨lr,_,rfl,SqL.of hL8,?_⟩;have ndc:(Sy cs sz i).Nodup:=List.Nodup.sublist ((List.take_sublist _ _).trans (List.drop_sublist _ _)) nd;rw[D0,Zjn ndc];exact z
  ·have e3:((List.range fx.n).filter fun _=>true).map (fun j=>V.int ((hN (Sy cs sz j):Nat):Int))=vN ((List.range fx.n).map fun j=>hN (Sy cs sz j)):=by
    rw[List.filter_eq_self.mpr (fun _ _=>rfl)];unfold vN;rw[Z7];rfl
   rw[e3] at hL3;exact⟨l3,_,rfl,.inl ⟨SqL.of hL3,fun th hth=>hR _ _ ⟨(s1.trans s3).trans (Z5 hth _),th,rfl,Zo⟩⟩⟩
 obtain⟨s2,hp,rfl,hH2⟩:=z;obtain⟨hsL,ehs⟩:∃ hsL,hsL=(List.range fx.n).map fun j=>hN (Sy cs sz j):=⟨_,rfl⟩;rw[← ehs] at hH2;refine U3 (fun v H3=>Same H H3∧∃ p lead,v = .ref p∧IsPl H3 p hsL lead []∧lead < fx.n) (fun R hR=>?_) (fun v H3 z=>?_)
 ·refine⟨_,rfl,_,rfl,a,ns,4,rfl,s2.seq hS,by decide,fun c=>⟨_,rfl,_,_,rfl,rfl,(show(0:Int) < ((fx.n:Nat):Int) by omega),?_⟩⟩
  obtain⟨ld,ldn,eld⟩:=Be (z:=c) (n:=fx.n) (by omega);refine⟨J2 0 (by decide),fun tz htz=>⟨J2 3 (by decide),fun p hpn=>?_⟩⟩;have a6:=Z5 htz (.tup []);have a7:=Z5 hpn (.tup [.ref hp,.int (c % ((fx.n:Nat):Int)),.ref tz]);refine hR _ _ ⟨(s2.trans a6).trans a7,p,ld,rfl,⟨hp,tz,?_,a7 _ _ (a6 _ _ hH2),a7 _ _ Zo⟩,ldn⟩;rw[Zo];show some (HO.tup [V.ref hp,V.int (c % ((fx.n:Nat):Int)),V.ref tz])=_;rw[eld]
 obtain⟨s3,p0,ld,rfl,hPl0,ldn⟩:=z;obtain⟨Pl0,tot0⟩:=Zjz ok pm szn ldn;rw[← ehs] at Pl0 tot0;refine Ol (fun σ H'=>Same H H'∧∃(p:Addr) (hs:List Nat) (lead:Nat) (ys:List Nat) (m:Nat) (x7 x8:Option V),σ=[some (.ref a),some (.ref gm),some (.ref lc),some (.int (sz:Nat)),some (.int (fx.n:Nat)),some (.ref hp),some (.ref p),x7,x8]∧IsPl H' p hs lead ys∧Plc fx hs lead ys m∧J3 hs≤fx.n * sz) (fun D' er nx=>?_) (fun σ H4 z=>?_)
 ·refine⟨_,rfl,a,ns,5,rfl,s3.seq hS,by decide,fun c=>⟨_,_,rfl,rfl,(show(0:Int) < 4 by decide),?_⟩⟩
  obtain⟨st,st3,est⟩:=Be (z:=c) (n:=4) (by omega);refine⟨c % 4,rfl,by omega,by omega,?_⟩;have est':c % 4=((st:Nat):Int):=est;rw[est'];refine Qh (n:=st) (fun i σ H'=>Same H H'∧∃(p:Addr) (hs:List Nat) (lead:Nat) (ys:List Nat) (m:Nat) (x7 x8:Option V),σ=[some (.ref a),some (.ref gm),some (.ref lc),some (.int (sz:Nat)),some (.int (fx.n:Nat)),some (.ref hp),some (.ref p),x7,x8]∧IsPl H' p hs lead ys∧Plc fx hs lead ys m∧J3 hs≤fx.n * sz) ⟨s3,p0,_,_,_,_,none,none,rfl,hPl0,Pl0,Nat.le_of_eq tot0⟩ (fun i σ H4 hi z=>?_) (fun σ H4 z=>?_)
  ·obtain⟨s4,p,hs,lead,ys,m,x7,x8,rfl,hPl,Pl,et⟩:=z
   obtain⟨h,eh,epc⟩:=Pl.turn ok;have h32:=Pl.h32 ok (Zl eh);have eg:hs.getD ((lead+ys.length) % fx.n) 0=h:=by rw[Zp,eh];rfl
   refine⟨_,rfl,_,rfl,gm,x,p,t,fx,hs,ys,lead,m,rfl,G.same s4,tb,hPl.same (Same.refl _),Pl,fun lm H5 s5 hlm hm5=>?_⟩;have s45:=s4.trans s5;have mlen:(moveL fx t hs lead ys m).length≤1000:=by
    unfold My.moveL;split
    ·simp
    ·rw[eg]
     exact Zdd h32
   have eL:decide ((0:Int) < (((vN (moveL fx t hs lead ys m)).length:Nat):Int))=decide (0 < (moveL fx t hs lead ys m).length):=by
    rw[J1];exact decide_eq_decide.mpr ⟨fun h=>by omega,fun h=>by omega⟩
   refine⟨_,rfl,lm,_,rfl,.inl (SqL.of hm5),_,_,rfl,rfl,_,rfl,X2 eL ?_⟩;by_cases ln:0 < (moveL fx t hs lead ys m).length
   case neg=>
    rw[Zc ln];exact Yb ⟨s45,p,hs,lead,ys,m,_,_,rfl,hPl.same s5,Pl,et⟩
   rw[Zd ln];refine Ym ?_;have m0:m≠0:=fun z=>by
    rw[z] at ln;exact absurd ln (Nat.lt_irrefl 0)
   have eM:moveL fx t hs lead ys m=Ur fx t ys h:=by
    unfold My.moveL;rw[Zk m0,eg]
   have ne:Ur fx t ys h≠[]:=fun z=>by
    rw[eM,z] at ln;exact absurd ln (Nat.lt_irrefl 0)
   rw[eM] at hm5;refine⟨_,rfl,_,rfl,_,rfl,_,rfl,_,rfl,_,_,rfl,rfl,a,ns,6+i,?_,s45.seq hS,by omega,fun c=>?_⟩
   ·show [V.ref a,V.int ((6:Int)+(0+((i:Nat):Int)))]=_
    rw[Q2];rfl
   have lp0:0 < (Ur fx t ys h).length:=List.length_pos_iff.mpr ne;obtain⟨v,hv,ev⟩:=Ko (vN (Ur fx t ys h)) (((vN (Ur fx t ys h)).length:Nat):Int) rfl (by rw[J1];exact lp0) c;obtain⟨cd,hcd,rfl⟩:=Zv.mp hv;have hb:=(Qa h32 hcd).1;refine⟨_,rfl,lm,_,rfl,.inl (SqL.of hm5),_,_,rfl,rfl,(by show(0:Int) < (((vN (Ur fx t ys h)).length:Nat):Int);rw[J1];omega),lm,_,_,_,rfl,rfl,SqL.of hm5,ev,?_⟩;refine⟨gm,x,p,t,fx,hs,ys,lead,m,h,cd,rfl,G.same s45,hPl.same s5,Pl,eh,hb,fun r p' hs' lead' ys' tk H6 s6 N hr6 hp6=>?_⟩;obtain⟨m',Pl',_,tt,_,_⟩:=N.plc ok Pl eh hb;have et':J3 hs'+1=J3 hs:=tt;exact⟨r,_,_,_,rfl,rfl,SqT.of hr6,(rfl:X6 [V.ref p',Au tk] 0=some (V.ref p')),s45.trans s6,p',hs',lead',ys',m',_,_,rfl,hp6,Pl',by omega⟩
  ·obtain⟨s4,p,hs,lead,ys,m,x7,x8,rfl,hPl,Pl,et⟩:=z
   exact nx _ _ ⟨s4,p,hs,lead,ys,m,x7,x8,rfl,hPl,Pl,et⟩
 obtain⟨s4,p,hs,lead,ys,m,x7,x8,rfl,hPl,Pl,e1⟩:=z;exact⟨_,rfl,q p hs lead ys m H4 s4 hPl Pl (by omega)⟩
theorem scLSize:FnScope ["_law_script","_law_game_here","_law_size_here"] ["_law_script","_law_game_here"] (Zq Zg1):=Uy (by decide +kernel)
theorem Zip{k:Nat}{CT CG f1 m1:Addr}{d1 e1:FuncData}(F:Fun K "_law_size" "_law_size" Zg1 f fd)(C:TabC K mg CT)(CGm:GamC K mg CG)(LC:Lib P w K mg base k "_law_cell" Nq (E7 K) f1 d1)(MD:Meth K CT "duty" m1)(FD:FnOk P w K mg base Yr k m1 e1 ["self"] (D4 CT))(BD:Binds K e1 ["self"] [])(mMn:mg "min" = none):FnOk P w K mg base Yr (k+1) f fd ["_law_script","_law_game_here"] (Ob K CT CG):=by
 refine F.ok scLSize (fun vs H Q E h=>?_) (fun cdv A outer s H vs Q E hr h=>?_)
 ·obtain⟨a,gm,x,ns,fx,t,rfl,_⟩:=h
  rfl
 obtain⟨a,gm,x,ns,fx,t,rfl,hS,G,q⟩:=h;refine⟨_,Zh (Jf (i:=2) scLSize.nd rfl (Or.inl rfl) (Jw Uk (Xl (Za Zn (Za Zn (Za Zn (Za Zn Zg))))) (Jd Yv (Z1 LC.ok hr rfl LC.mg LC.kp LC.bd .nil Ja (Za (pv 0) (Za Zn Zg))) Zn) (fun _ _=>rfl)))
  (Zh (J5 (PW.pt (Tf (Ji Uq (Jt (Jt (pv 1) rfl) rfl) Zn (Jg _)) (Tf (Ji Uq (pv 2) Zn (Jg _)) (Gg (Ji Uq (Vf (Jt (pv 1) rfl) C.cl MD FD hr BD .nil Ja) Ub (Jg _)))))) (Zm (Jf (i:=2) scLSize.nd rfl (Or.inl rfl) Zn)) Jl)
  (Zm (Z9 (Jr (Dl rfl) rfl mMn PyProof.Rows.boot_min (Za (pv 2) (Za (Jd Ua (Jd Xm (Jt (Jt (pv 1) rfl) rfl) (Jt (Jt (pv 1) rfl) rfl)) (Jt (Jt (pv 1) rfl) rfl)) Zg)))))),?_⟩
 have ok:=G.ok;have n3:3≤fx.n:=by rcases ok.n34 with e | e<;>omega
 have n4:fx.n≤4:=by rcases ok.n34 with e | e<;>omega
 have s4:=ok.s4;have h8:=ok.h8;refine U3 (fun v H1=>Same H H1∧∃ z:Nat,v = .int ((z:Nat):Int)∧z≤3) (fun R hR=>⟨J2 4 (by decide),fun ll hll=>?_⟩) (fun v H1 z=>?_)
 ·have sl:=Z5 hll (.lst (vN [1,2,2,3]))
  refine⟨_,rfl,a,ns,3,rfl,sl.seq hS,by decide,fun c=>?_⟩;obtain⟨v,hv,ev⟩:=Ko (vN [1,2,2,3]) 4 rfl (by decide) c;obtain⟨z,hz,rfl⟩:=Zv.mp hv;refine⟨_,_,rfl,rfl,(show(0:Int) < 4 by decide),ll,_,_,_,rfl,rfl,SqL.of Zo,ev,hR _ _ ⟨sl,z,rfl,?_⟩⟩;simp only[Je,Uh,or_false] at hz;omega
 obtain⟨s1,z,rfl,z3⟩:=z;have G1:=G.same s1;obtain⟨dg,hg⟩:=id G1.g;obtain⟨dx,po,to,hx,hpo,hto⟩:=id G1.t;refine X0 (fun b H'=>H1=H') (fun σ H'=>H1=H'∧∃ z:Nat,z≤3∧σ=[some (.ref a),some (.ref gm),some (.int ((z:Nat):Int))]) (fun R hR=>?_) (fun H' e D' er nx=>?_) (fun H' e D' er nx=>?_) (fun σ H' y=>?_)
 ·refine⟨_,rfl,gm,CG,dg,_,_,rfl,hg,CGm.cl,CGm.nT,Yt _ _,x,CT,dx,_,_,rfl,hx,C.cl,C.nN,Us _ _ _,rfl,_,rfl,Si (fun _=>?_) (fun _=>hR _ _ rfl)⟩
  refine⟨_,rfl,rfl,_,rfl,Si (fun _=>?_) (fun _=>hR _ _ rfl)⟩;exact⟨_,rfl,gm,CG,dg,_,_,rfl,hg,CGm.cl,CGm.nT,Yt _ _,x,dx,_,rfl,hx,T3 _ _ _,x,fx,rfl,G1.t,rfl,_,rfl,hR _ _ rfl⟩
 ·subst e
  exact nx _ _ ⟨rfl,2,by decide,rfl⟩
 ·subst e
  exact nx _ _ ⟨rfl,z,z3,rfl⟩
 obtain⟨rfl,z,z3,rfl⟩:=y;refine⟨_,rfl,_,rfl,gm,CG,dg,_,_,rfl,hg,CGm.cl,CGm.nT,Yt _ _,x,CT,dx,_,_,rfl,hx,C.cl,C.nS,Nv _ _ _,_,rfl,gm,CG,dg,_,_,rfl,hg,CGm.cl,CGm.nT,Yt _ _,x,CT,dx,_,_,rfl,hx,C.cl,C.nH,Em _ _ _,_,_,rfl,rfl,.inl ⟨by omega,by omega⟩,_,rfl,gm,CG,dg,_,_,rfl,hg,CGm.cl,CGm.nT,Yt _ _,x,CT,dx,_,_,rfl,hx,C.cl,C.nN,Us _ _ _,_,_,rfl,rfl,⟨(show(0:Int) < ((fx.n:Nat):Int) by omega),by omega⟩,_,_,rfl,?_⟩;have ed:((fx.s:Nat):Int) * ((fx.h:Nat):Int) / ((fx.n:Nat):Int)=((fx.s * fx.h / fx.n:Nat):Int):=by rw[Qk,Int.natCast_mul]
 have em:(if((fx.s:Nat):Int) * ((fx.h:Nat):Int) / ((fx.n:Nat):Int) < ((z:Nat):Int) then((fx.s:Nat):Int) * ((fx.h:Nat):Int) / ((fx.n:Nat):Int) else((z:Nat):Int))=((min z (fx.s * fx.h / fx.n):Nat):Int):=by
  rw[ed];split<;>omega
 show Q (V.int (if((fx.s:Nat):Int) * ((fx.h:Nat):Int) / ((fx.n:Nat):Int) < ((z:Nat):Int) then((fx.s:Nat):Int) * ((fx.h:Nat):Int) / ((fx.n:Nat):Int) else((z:Nat):Int))) H1;rw[em];refine q _ H1 s1 ?_ ?_
 ·exact Jc (Nat.mul_le_mul_right _ (Nat.min_le_right _ _)) (Nat.div_mul_le_self _ _)
 ·exact Jc (Nat.mul_le_mul n4 (Jc (Nat.min_le_left _ _) z3)) (by decide)
theorem GoodR.fm{fx:Fx}(ok:fx.Ok){t:Option Nat}{side:Nat}{rs:List Rw}{r:Rw}(g:GoodR fx t side rs r):r.Fm:=by
 obtain⟨m,h,Pl,_⟩:=g.g;exact Plc.fm ok Pl
theorem GoodR.okp{fx:Fx}{t:Option Nat}{side:Nat}{rs:List Rw}{r:Rw}(g:GoodR fx t side rs r):OkP fx r.hs r.lead r.ys true:=by
 obtain⟨m,h,Pl,_⟩:=g.g;exact⟨rfl,m,Pl⟩
structure Pap(H:Hp)(fx:Fx)(t:Option Nat)(side:Nat)(l:Addr)(bs:List (Rw×Addr)):Prop where
 l:H l=some (.lst (Xr bs))
 r:RwsH H bs
 g:∀ r∈bs.map (·.1),GoodR fx t side (bs.map (·.1)) r
 n:bs.length≤100000
theorem Pap.of{H:Hp}{fx:Fx}(ok:fx.Ok){t:Option Nat}{side:Nat}{l:Addr}{bs:List (Rw×Addr)}(h1:H l=some (.lst (Xr bs)))(h2:∀ e∈bs,IsRw H e.1 e.2)(h3:∀ r∈bs.map (·.1),GoodR fx t side (bs.map (·.1)) r)(h4:bs.length≤100000):Pap H fx t side l bs:=
 ⟨h1,fun e he=>⟨h2 e he,(h3 e.1 (Zv.mpr ⟨e,he,rfl⟩)).fm ok⟩,h3,h4⟩
theorem Pap.okp{H:Hp}{fx:Fx}{t:Option Nat}{side:Nat}{l:Addr}{bs:List (Rw×Addr)}(h:Pap H fx t side l bs):∀ e∈bs,OkP fx e.1.hs e.1.lead e.1.ys true:=fun e he=>(h.g e.1 (Zv.mpr ⟨e,he,rfl⟩)).okp
def AllG(fx:Fx)(t:Option Nat)(side:Nat)(RS:List Rw):Prop:=∀ r∈RS,∃ rs,(∀ x∈rs,x∈RS)∧GoodR fx t side rs r
theorem Pap.all{H:Hp}{fx:Fx}{t:Option Nat}{side:Nat}{l:Addr}{bs:List (Rw×Addr)}(h:Pap H fx t side l bs):AllG fx t side (bs.map (·.1)):=fun r hr=>⟨_,fun _ z=>z,h.g r hr⟩
theorem AllG.right{fx:Fx}(ok:fx.Ok){t:Option Nat}{side:Nat}{RS:List Rw}(a:AllG fx t side RS){r:Rw}(hr:r∈RS):rtB fx t side (Nf RS) r=true:=by
 obtain⟨rs,s,g⟩:=a r hr;exact g.right ok s
theorem Gf(a b:List (Rw×Addr)):Xr a++Xr b=Xr (a++b):=by
 unfold Xr;rw[Jp]
theorem Zdt(xs:List V)(c:Nat):Ed xs none (some ((c:Nat):Int))=xs.take c:=by
 unfold Ed;rw[HT.sIx_nat,HT.sIx_none,List.drop_zero,Nat.sub_zero];rcases Nat.le_total c xs.length with e | e
 ·rw[Xw e]
 ·rw[Nat.min_eq_right e,List.take_of_length_le (Zs _),List.take_of_length_le e]
theorem Zk0{H:Hp}{l:Addr}{xs:List V}(hl:H l=some (.lst xs))(o:HO):∀(b:Addr) (zs:List V),H b=some (.tup zs)→upd H l o b=some (.tup zs):=fun b zs e=>by
 rw[Jh (Bj e hl (fun ys e=>by cases e))];exact e
theorem IsPl.keep{H H':Hp}(tt:∀(b:Addr) (zs:List V),H b=some (.tup zs)→H' b=some (.tup zs)){p:Addr}{hs:List Nat}{lead:Nat}{ys:List Nat}(h:IsPl H p hs lead ys):IsPl H' p hs lead ys:=by
 obtain⟨a,b,h1,h2,h3⟩:=h;exact⟨a,b,tt _ _ h1,tt _ _ h2,tt _ _ h3⟩
end
end My
namespace L2
open PySem PySem.Spec PyProof.Rows
def Zqi:R2:=fun x y H Q=>∃(a b a1 a3 b1 b3:Addr) (ns1 ns3 ms1 ms3:List Int) (i j:Int),x = .ref a∧y = .ref b∧H a=some (.tup [.ref a1,.int i,.ref a3])∧H b=some (.tup [.ref b1,.int j,.ref b3])∧H a1=some (.tup (ns1.map V.int))∧H a3=some (.tup (ns3.map V.int))∧H b1=some (.tup (ms1.map V.int))∧H b3=some (.tup (ms3.map V.int)) ∧
 Q (.bl (decide (ns1=ms1) && (decide (i=j) && decide (ns3=ms3)))) H
theorem Zk7{X:Cx}(hu:X.A.units+64 < cLine):Ng X (compareOp .Eq) Zqi:=by
 intro pins s σ H x y v u Q I rx ry h;obtain⟨a,b,a1,a3,b1,b3,ns1,ns3,ms1,ms3,i,k,rfl,rfl,ha,hb,h1,h3,g1,g3,q⟩:=h;cases rx;cases ry;obtain⟨its,r1,p1,_⟩:=I.tuple (SqT.of ha);obtain⟨its2,r2,p2,_⟩:=I.tuple (SqT.of hb);have l1:3=its.length:=r1.length;have l2:3=its2.length:=r2.length;refine SeqAt.RcAt.tuples (e:=fun j=>match j with | 0=>decide (ns1=ms1) | 1=>Rh (.int i) (.int k) | _=>decide (ns3=ms3)) p1 p2 (by omega) (fun j w1 w2=>?_) _ _ _ _ ⟨.bl _,H,I,rfl,?_⟩
 ·have e1:=Uu r1 w1
  have e2:=Uu r2 w2;obtain⟨e1,jl⟩:=e1;have e2:=e2.1;have jl:j < 3:=jl;generalize its.toArray[j]=u1 at e1;generalize its2.toArray[j]=u2 at e2
  match j,jl with
  | 0,_=>
   cases e1;cases e2;exact Df I h1 g1 (by show X.A.units+1 < cLine;omega)
  | 1,_=>exact Ri e1 e2 rfl rfl
  | 2,_=>
   cases e1;cases e2;exact Df I h3 g3 (by show X.A.units+1 < cLine;omega)
 ·have s1:its.toArray.size=3:=by simpa using l1.symm
  have s2:its2.toArray.size=3:=by simpa using l2.symm
  rw[s1,s2];have e:Rh (.int i) (.int k)=decide (i=k):=by
   show(i == k)=_;by_cases c:i=k
   ·rw[Zd c]
    exact beq_iff_eq.mpr c
   ·rw[Zc c]
    exact beq_eq_false_iff_ne.mpr c
  have ez:((List.range (min 3 3)).all (fun j=>match j with | 0=>decide (ns1=ms1) | 1=>Rh (.int i) (.int k) | _=>decide (ns3=ms3)) && (3:Nat) == 3)=(decide (ns1=ms1) && (decide (i=k) && decide (ns3=ms3))):=by
   rw[← e];show((decide (ns1=ms1) && (Rh (.int i) (.int k) && (decide (ns3=ms3) && true))) && true)=_;rw[Bool.and_true,Bool.and_true]
  rw[ez];exact q
end L2
namespace My
open PySem L2
abbrev Zg2:Stmt:=top 76
abbrev Znr:Stmt:=top 77
abbrev Zg6:Stmt:=top 78
abbrev Zg7:Stmt:=top 79
abbrev Ow:Stmt:=top 80
section
variable{P:Program}{w:World}{K:W.Frag}{mg:Str→Option Value}{base:Heap}{f g:Addr}{fd gd:FuncData}
def Zaj(K:W.Frag):Sp:=fun vs H Q _=>∃(a:Addr) (ns:List Int) (n:Nat),vs=[.ref a,.int (n:Nat)]∧SqL K H a (ns.map V.int)∧n≤4∧∀ side:Nat,side < 2 ^ n→Q (.int (side:Nat)) H
theorem Znk:FnScope ["_law_script","_law_seats"] ["_law_script","_law_seats"] (Zq Zg2):=Uy (by decide +kernel)
theorem Zlc{k:Nat}{f1 f2:Addr}{d1 d2:FuncData}(F:Fun K "_law_side" "_law_side" Zg2 f fd)(LC:Lib P w K mg base k "_law_cell" Nq (E7 K) f1 d1)(LI:Lib P w K mg base k "_law_bit" ["_law_card"] Ke f2 d2):FnOk P w K mg base Yr (k+1) f fd ["_law_script","_law_seats"] (Zaj K):=by
 refine F.ok Znk (fun vs H Q E h=>?_) (fun cdv A outer s H vs Q E hr h=>?_)
 ·obtain⟨a,ns,n,rfl,_⟩:=h
  rfl
 obtain⟨a,ns,n,rfl,hS,n4,q⟩:=h;refine⟨_,Zm (Z9 (Jd Yv (Z1 LC.ok hr rfl LC.mg LC.kp LC.bd .nil Ja (Za (pv 0) (Za Zn Zg))) (Z1 LI.ok hr rfl LI.mg LI.kp LI.bd .nil Ja (Za (pv 1) Zg)))),?_⟩;have p0:0 < 2 ^ n:=Nat.pos_of_ne_zero (by simp);refine⟨_,rfl,a,ns,10,rfl,hS,by decide,fun c=>⟨_,rfl,n,rfl,by omega,_,_,rfl,rfl,(show(0:Int) < ((2 ^ n:Nat):Int) by omega),?_⟩⟩;obtain⟨sd,sl,es⟩:=Be (z:=c) (n:=2 ^ n) p0;show Q (V.int (c % ((2 ^ n:Nat):Int))) H;rw[es];exact q sd sl
def Zcp:Sp:=fun vs H Q _=>∃(side seat:Nat),vs=[.int (side:Nat),.int (seat:Nat)]∧seat≤4∧Q (.bl (side.testBit seat)) H
theorem Zqc:FnScope ["_law_side_here","_law_seat"] ["_law_side_here","_law_seat"] (Zq Znr):=Uy (by decide +kernel)
theorem Zok{k:Nat}{f1:Addr}{d1:FuncData}(F:Fun K "_law_in" "_law_in" Znr f fd)(LI:Lib P w K mg base k "_law_bit" ["_law_card"] Ke f1 d1):FnOk P w K mg base Yr (k+1) f fd ["_law_side_here","_law_seat"] Zcp:=by
 refine F.ok Zqc (fun vs H Q E h=>?_) (fun cdv A outer s H vs Q E hr h=>?_)
 ·obtain⟨side,seat,rfl,_⟩:=h
  rfl
 obtain⟨side,seat,rfl,sl,q⟩:=h;refine⟨_,Zm (Z9 (Ys Uq (Jd Yv (Jd Ua (pv 0) (Z1 LI.ok hr rfl LI.mg LI.kp LI.bd .nil Ja (Za (pv 1) Zg))) Zn) Zn (Jg _))),?_⟩;have p0:0 < 2 ^ seat:=Nat.pos_of_ne_zero (by simp);refine⟨_,rfl,_,rfl,seat,rfl,by omega,_,_,rfl,rfl,⟨(show(0:Int) < ((2 ^ seat:Nat):Int) by omega),by have:2 ^ seat≤2 ^ 4:=Nat.pow_le_pow_right (by decide) sl;omega⟩,_,_,rfl,rfl,(show(0:Int) < 2 by decide),rfl,?_⟩;have e:decide (V.int (((side:Nat):Int) / ((2 ^ seat:Nat):Int) % 2)=V.int 1)=side.testBit seat:=by
  have e1:((side:Nat):Int) / ((2 ^ seat:Nat):Int) % 2=((side / 2 ^ seat % 2:Nat):Int):=by
   rw[Int.natCast_emod,Qk];rfl
  rw[e1,Nat.testBit_eq_decide_div_mod_eq,int_dec];exact decide_eq_decide.mpr ⟨fun h=>by omega,fun h=>by omega⟩
 show Q (V.bl (decide (V.int (((side:Nat):Int) / ((2 ^ seat:Nat):Int) % 2)=V.int 1))) H;rw[e];exact q
theorem Zm6(xs:List Nat):vN xs=(xs.map fun x=>((x:Nat):Int)).map V.int:=by
 unfold vN;rw[Z7];rfl
theorem Zdj{xs ys:List Nat}(h:(xs.map fun x=>((x:Nat):Int))=ys.map fun x=>((x:Nat):Int)):xs=ys:=by
 have:=congrArg (List.map Int.toNat) h;rw[Z7,Z7] at this;have e:(Int.toNat ∘ fun x:Nat=>((x:Nat):Int))=id:=funext fun x=>Z2 x;rw[e,List.map_id,List.map_id] at this;exact this
theorem Zn2(hs hs':List Nat)(lead lead':Nat)(ys ys':List Nat):(decide ((hs.map fun x=>((x:Nat):Int))=hs'.map fun x=>((x:Nat):Int)) && (decide (((lead:Nat):Int)=((lead':Nat):Int)) && decide ((ys.map fun x=>((x:Nat):Int))=ys'.map fun x=>((x:Nat):Int))))=decide (X5 hs lead ys=X5 hs' lead' ys'):=by
 by_cases c:X5 hs lead ys=X5 hs' lead' ys'
 ·obtain⟨rfl,rfl,rfl⟩:=Zcz c
  rw[Zd c,Zd rfl,Zd rfl,Zd rfl];rfl
 ·rw[Zc c]
  by_cases c1:(hs.map fun x=>((x:Nat):Int))=hs'.map fun x=>((x:Nat):Int)
  ·by_cases c2:((lead:Nat):Int)=((lead':Nat):Int)
   ·by_cases c3:(ys.map fun x=>((x:Nat):Int))=ys'.map fun x=>((x:Nat):Int)
    ·exact absurd (by rw[Zdj c1,show lead=lead' by omega,Zdj c3]) c
    ·rw[Zc c3,Bool.and_false,Bool.and_false]
   ·rw[Zc c2,Bool.false_and,Bool.and_false]
  ·rw[Zc c1,Bool.false_and]
theorem IsPl.ints{H:Hp}{p:Addr}{hs:List Nat}{lead:Nat}{ys:List Nat}(h:IsPl H p hs lead ys):∃ a b,H p=some (.tup [.ref a,.int (lead:Nat),.ref b])∧H a=some (.tup ((hs.map fun x=>((x:Nat):Int)).map V.int))∧H b=some (.tup ((ys.map fun x=>((x:Nat):Int)).map V.int)):=by
 obtain⟨a,b,h1,h2,h3⟩:=h;rw[Zm6] at h2 h3;exact⟨a,b,h1,h2,h3⟩
abbrev Mz:List Str:=["_law_paper_rows","_law_place_here","_law_need"]
abbrev Zqv:List Str:=["_law_paper_rows","_law_place_here","_law_need","_law_other","_law_more","_law_card"]
theorem scLHas:FnScope Zqv Mz (Zq Zg6):=Uy (by decide +kernel)
def Oc:Sp:=fun vs H Q _=>∃(l p:Addr) (as:List (Rw×Addr)) (hs:List Nat) (lead:Nat) (ys:List Nat) (need:Int),vs=[.ref l,.ref p,.int need]∧H l=some (.lst (Xr as))∧RwsH H as∧IsPl H p hs lead ys∧1≤need∧∀ H',Same H H'→Q (.bl (decide (need≤Nf (as.map (·.1)) (X5 hs lead ys)))) H'
theorem Zlj{k:Nat}(F:Fun K "_law_has" "_law_has" Zg6 f fd):FnOk P w K mg base Yr (k+1) f fd Mz Oc:=by
 refine F.ok scLHas (fun vs H Q E h=>?_) (fun cdv A outer s H vs Q E hr h=>?_)
 ·obtain⟨l,p,as,hs,lead,ys,need,rfl,_⟩:=h
  rfl
 obtain⟨l,p,as,hs,lead,ys,need,rfl,hl,hR,hp,n1,q⟩:=h;refine⟨_,Zh (Uv PassesOwn.never rfl (Y6 (pv 0)) (No rfl (J6 (Jj (i:=3) scLHas.nd rfl (Or.inl rfl)) (J6 (Jj (i:=4) scLHas.nd rfl (Or.inl rfl)) (J6 (Jj (i:=5) scLHas.nd rfl (Or.inl rfl)) Xt))))
   (Zm (J5 (PW.pt (Tf (Ji (Zk7 hr.units) (pv 3) (pv 1) (Jg _)) (Gg (Ji Tt (pv 4) (pv 2) (Jg _))))) (Zm (Z9 Up)) Jl)))
  (Zm (Z9 Up)),?_⟩
 refine⟨_,rfl,l,rfl,⟨_,SqL.of hl⟩,Xd (xs:=Xr as) (fun i σ H2=>Same H H2∧(∀ r∈(as.map (·.1)).take i,r.k=X5 hs lead ys→r.nd < need)∧∃ x y z,σ=[some (.ref l),some (.ref p),some (.int need),x,y,z]) ⟨Same.refl H,(fun r hr=>by rw[List.take_zero] at hr;cases hr),none,none,none,rfl⟩ (fun i σ H2 _ z=>SqL.of (z.1 _ _ hl)) (fun i v σ H2 hv z=>?_) (fun σ H2 z=>?_)⟩
 ·obtain⟨s2,al,x0,y0,z0,rfl⟩:=z
  obtain⟨⟨r,a⟩,hi,rfl⟩:∃ e,as[i]? = some e∧v = .ref e.2:=by
   unfold Xr at hv;rw[Z4] at hv;obtain⟨e,he,rfl⟩:=Js.mp hv;exact⟨e,he,rfl⟩
  have me:=Zl hi;obtain⟨pr,h1,h2⟩:=(hR.same s2 _ me).1;have tk:(as.map (·.1)).take (i+1)=(as.map (·.1)).take i++[r]:=by
   rw[U0,Z4,hi];rfl
  obtain⟨a1,a3,b1,b2,b3⟩:=h2.ints;obtain⟨c1,c3,d1,d2,d3⟩:=(hp.same s2).ints;refine⟨a,_,rfl,SqT.of h1,rfl,_,_,rfl,_,_,rfl,_,_,rfl,rfl,?_⟩;refine⟨_,rfl,_,rfl,pr,p,a1,a3,c1,c3,_,_,_,_,_,_,rfl,rfl,b1,d1,b2,b3,d2,d3,_,rfl,?_⟩;refine X2 (Zn2 _ _ _ _ _ _) ?_;by_cases c:X5 r.hs r.lead r.ys=X5 hs lead ys
  ·rw[Zd c]
   refine Ym ⟨_,rfl,_,rfl,_,_,rfl,rfl,_,rfl,?_⟩;by_cases cn:need≤r.nd
   ·refine X2 (Zd cn) (Ym ?_)
    have g:=Zi4 (rs:=as.map (·.1)) (r:=r) (Zv.mpr ⟨_,me,rfl⟩);have z:=q H2 s2;have ek:r.k=X5 hs lead ys:=c;rw[Zd (by rw[← ek];exact Int.le_trans cn g)] at z;exact z
   ·refine X2 (Zc cn) (Yb ⟨s2,fun r' hr' e=>?_,_,_,_,rfl⟩)
    rw[tk] at hr';rcases Jm.mp hr' with z | z
    ·exact al r' z e
    ·cases Jb.mp z
     omega
  ·rw[Zc c]
   refine Yb (Yb ⟨s2,fun r' hr' e=>?_,_,_,_,rfl⟩);rw[tk] at hr';rcases Jm.mp hr' with z | z
   ·exact al r' z e
   ·cases Jb.mp z
    exact absurd e c
 ·obtain⟨s2,al,x0,y0,z0,rfl⟩:=z
  have el:(Xr as).length=as.length:=Zj ..;rw[el,List.take_of_length_le (by rw[Zj];exact Zs _)] at al;have z:=q H2 s2;have:Nf (as.map (·.1)) (X5 hs lead ys)≤need - 1:=Zor (by omega) fun r hr e=>by have:=al r hr e;omega
  rw[Zc (by omega)] at z;exact z
abbrev Kw:List Str:=["_law_game_here","_law_side_here","_law_paper_rows","_law_place_here","_law_need","_law_card"]
abbrev Zqw:List Str:=["_law_game_here","_law_side_here","_law_paper_rows","_law_place_here","_law_need","_law_card","_law_after","_law_taker"]
theorem scLCov:FnScope Zqw Kw (Zq Zg7):=Uy (by decide +kernel)
def Zam(CT CG:Addr):Sp:=fun vs H Q _=>∃(gm x l p:Addr) (t:Option Nat) (fx:Fx) (side:Nat) (as:List (Rw×Addr)) (hs ys:List Nat) (lead m h c:Nat) (need:Int),vs=[.ref gm,.int (side:Nat),.ref l,.ref p,.int need,.int (c:Nat)]∧GamH CT CG fx t H gm x∧H l=some (.lst (Xr as))∧RwsH H as∧IsPl H p hs lead ys∧Plc fx hs lead ys m∧hs[(lead+ys.length) % fx.n]? = some h∧h.testBit c=true ∧
 ∀ H',Same H H'→Q (.bl (covB fx t side (Nf (as.map (·.1))) hs lead ys c need)) H'
theorem Zll{k:Nat}{CT CG f1 f2 f3:Addr}{d1 d2 d3:FuncData}(F:Fun K "_law_covers" "_law_covers" Zg7 f fd)(LB:Lib P w K mg base k "behind" ["game","place","card"] (Xo K CT CG) f1 d1)(LN:Lib P w K mg base k "_law_in" ["_law_side_here","_law_seat"] Zcp f2 d2)(LH:Lib P w K mg base k "_law_has" Mz Oc f3 d3):FnOk P w K mg base Yr (k+1) f fd Kw (Zam CT CG):=by
 refine F.ok scLCov (fun vs H Q E h=>?_) (fun cdv A outer s H vs Q E hr h=>?_)
 ·obtain⟨gm,x,l,p,t,fx,side,as,hs,ys,lead,m,h,c,need,rfl,_⟩:=h
  rfl
 obtain⟨gm,x,l,p,t,fx,side,as,hs,ys,lead,m,h,c,need,rfl,G,hl,hR,hp,Pl,eh,hb,q⟩:=h;refine⟨_,Zh (Br (Z1 LB.ok hr rfl LB.mg LB.kp LB.bd .nil Ja (Za (pv 0) (Za (pv 3) (Za (pv 5) Zg)))) (No rfl (J6 (Jj (i:=6) scLCov.nd rfl (Or.inl rfl)) (J6 (Jj (i:=7) scLCov.nd rfl (Or.inl rfl)) Xt))))
  (Zh (J5 (PW.pt (Tf (Ji O9 (pv 7) Q9 (Jg _)) (Gg (Yi (Z1 LN.ok hr rfl LN.mg LN.kp LN.bd .nil Ja (Za (pv 1) (Za (pv 7) Zg))) (fun _=>rfl))))) (Zm (Jf (i:=4) scLCov.nd rfl (Or.inl rfl) (Jd Nr (pv 4) Zn))) Jl)
  (Zm (Z9 (Kq (Ys M1 (pv 4) Zn (Jg _)) (U8 (Z1 LH.ok hr rfl LH.mg LH.kp LH.bd .nil Ja (Za (pv 2) (Za (pv 6) (Za (pv 4) Zg))))))))),?_⟩
 have ok:=G.ok;have n4:fx.n≤4:=by rcases ok.n34 with e | e<;>omega
 refine⟨_,rfl,_,rfl,_,rfl,gm,x,p,t,fx,hs,ys,lead,m,h,c,rfl,G,hp,Pl,eh,hb,fun st p' hs' lead' ys' tk H2 s2 N hst hp'=>?_⟩;have e:=Ao (side:=side) (nd:=Nf (as.map (·.1))) (need:=need) Pl eh hb N;obtain⟨m',_,_,_,_,g⟩:=N.plc ok Pl eh hb;refine⟨st,_,rfl,SqT.of hst,rfl,_,_,rfl,_,_,rfl,rfl,Qx ?_⟩;refine X0 (fun b H'=>H2=H'∧Qp side tk=(if b=true then 1 else 0)) (fun σ H'=>H2=H'∧σ=[some (.ref gm),some (.int (side:Nat)),some (.ref l),some (.ref p),some (.int (need - ((Qp side tk:Nat):Int))),some (.int (c:Nat)),some (.ref p'),some (Au tk)]) (fun R hR=>?_) (fun H' z D' er nx=>?_) (fun H' z D' er nx=>?_) (fun σ H' z=>?_)
 ·refine⟨_,rfl,rfl,_,rfl,?_⟩
  rcases g with⟨rfl,_⟩ | ⟨rfl,_,_,ll⟩
  ·exact X2 (rfl:(!decide (Au none=V.non))=false) (Yb (hR _ _ ⟨rfl,rfl⟩))
  ·refine X2 (rfl:(!decide (Au (some lead')=V.non))=true) (Ym ⟨_,rfl,_,rfl,side,lead',rfl,by omega,_,rfl,hR _ _ ⟨rfl,rfl⟩⟩)
 ·obtain⟨rfl,e1⟩:=z
  refine⟨_,rfl,_,_,rfl,rfl,nx _ _ ⟨rfl,?_⟩⟩;rw[e1,Zu rfl];rfl
 ·obtain⟨rfl,e1⟩:=z
  refine nx _ _ ⟨rfl,?_⟩;rw[e1,Zk Zr];show _=[_,_,_,_,some (V.int (need - 0)),_,_,_];rw[Int.sub_zero];rfl
 obtain⟨rfl,rfl⟩:=z;refine⟨_,rfl,_,_,rfl,rfl,_,rfl,?_⟩;by_cases c0:need - ((Qp side tk:Nat):Int)≤0
 ·refine X2 (Zd c0) (Ym ?_)
  have z:=q H2 s2;rw[e,Zd (Int.le_trans c0 (Tz _ _))] at z;exact z
 ·refine X2 (Zc c0) (Yb ?_)
  refine⟨_,rfl,_,rfl,_,rfl,l,p',as,hs',lead',ys',_,rfl,s2 _ _ hl,hR.same s2,hp',by omega,fun H3 s3=>?_⟩;have z:=q H3 (s2.trans s3);rw[e] at z;exact z
abbrev Vi:List Str:=["_law_game_here","_law_side_here","_law_paper_rows","_law_row"]
abbrev Zlv:List Str:=["_law_game_here","_law_side_here","_law_paper_rows","_law_row","_law_place_here","_law_need","_law_card","_law_some","_law_other"]
theorem scLRight:FnScope Zlv Vi (Zq Ow):=Uy (by decide +kernel)
def Gv(CT CG:Addr)(Ok:Fx→List Nat→Nat→List Nat→Bool→Prop):Sp:=fun vs H Q _=>∃(gm x l a:Addr) (t:Option Nat) (fx:Fx) (side:Nat) (as:List (Rw×Addr)) (r:Rw) (b:Bool),vs=[.ref gm,.int (side:Nat),.ref l,.ref a]∧GamH CT CG fx t H gm x∧Mp t∧H l=some (.lst (Xr as))∧RwsH H as∧IsRw H r a∧Ok fx r.hs r.lead r.ys b ∧
 ∀ H',Same H H'→Q (.bl (b && rtB fx t side (Nf (as.map (·.1))) r)) H'
theorem Ze1{k:Nat}{CT CG f2 f3 f4 f5 f6 f7:Addr}{d2 d3 d4 d5 d6 d7:FuncData}{Ok:Fx→List Nat→Nat→List Nat→Bool→Prop}(hOk:∀ fx hs lead ys,Ok fx hs lead ys true→∃ m,Plc fx hs lead ys m)
  (F:Fun K "_law_right" "_law_right" Ow f fd) (LI:Lib P w K mg base k "is_place" ["game","place"] (R7 CT CG Ok) f2 d2) (LL:Lib P w K mg base k "left" ["place"] (Gu K) f3 d3) (LM:Lib P w K mg base k "moves" ["game","place"] (Ql CT CG) f4 d4)
  (LH:Lib P w K mg base k "_law_in" ["_law_side_here","_law_seat"] Zcp f5 d5) (LT:Lib P w K mg base k "turn_at" ["game","place"] (Qm CT CG) f6 d6) (LC:Lib P w K mg base k "_law_covers" Kw (Zam CT CG) f7 d7) :
  FnOk P w K mg base Yr (k+1) f fd Vi (Gv CT CG Ok):=by
 refine F.ok scLRight (fun vs H Q E h=>?_) (fun cdv A outer s H vs Q E hr h=>?_)
 ·obtain⟨gm,x,l,a,t,fx,side,as,r,b,rfl,_⟩:=h
  rfl
 obtain⟨gm,x,l,a,t,fx,side,as,r,b,rfl,G,tb,hl,hRs,hR,hO,q⟩:=h;refine⟨_,Zh (Br (pv 3) (No rfl (J6 (Jj (i:=4) scLRight.nd rfl (Or.inl rfl)) (J6 (Jj (i:=5) scLRight.nd rfl (Or.inl rfl)) (J6 (Jj (i:=6) scLRight.nd rfl (Or.inl rfl)) Xt)))))
  (Zh (J5 (PW.pt (Qu (X7 (Yi (Z1 LI.ok hr rfl LI.mg LI.kp LI.bd .nil Ja (Za (pv 0) (Za (pv 4) Zg))) (fun _=>rfl))) (Qu (Ji M0 (pv 5) Zn (Jg _)) (Qf (Ji Ek (pv 5) (Z1 LL.ok hr rfl LL.mg LL.kp LL.bd .nil Ja (Za (pv 4) Zg)) (Jg _)))))) (Zm (Z9 Up)) Jl)
  (Zh (Jf (i:=7) scLRight.nd rfl (Or.inl rfl) (Z1 LM.ok hr rfl LM.mg LM.kp LM.bd .nil Ja (Za (pv 0) (Za (pv 4) Zg))))
  (Zh (J5 (Yi (Z1 LH.ok hr rfl LH.mg LH.kp LH.bd .nil Ja (Za (pv 1) (Za (Z1 LT.ok hr rfl LT.mg LT.kp LT.bd .nil Ja (Za (pv 0) (Za (pv 4) Zg))) Zg))) (fun _=>rfl))
   (Zm (Z9 (Xz (Ys Rb (pv 6) (pv 7) rfl) (U8 (Z1 LC.ok hr rfl LC.mg LC.kp LC.bd .nil Ja (Za (pv 0) (Za (pv 1) (Za (pv 2) (Za (pv 4) (Za (pv 5) (Za (pv 6) Zg)))))))))) ) Jl)
  (Zh (J5 (Ji O9 (pv 6) Q9 (Jg _)) (Zm (Z9 Up)) Jl)
  (Zh (Uv PassesOwn.never rfl (Y6 (pv 7)) (Jj (i:=8) scLRight.nd rfl (Or.inl rfl))
   (Zm (J5 (X7 (Yi (Z1 LC.ok hr rfl LC.mg LC.kp LC.bd .nil Ja (Za (pv 0) (Za (pv 1) (Za (pv 2) (Za (pv 4) (Za (pv 5) (Za (pv 8) Zg))))))) (fun _=>rfl))) (Zm (Z9 Up)) Jl)))
  (Zm (Z9 Up))))))),?_⟩
 have ok:=G.ok;have n4:fx.n≤4:=by rcases ok.n34 with e | e<;>omega
 have n3:3≤fx.n:=by rcases ok.n34 with e | e<;>omega
 obtain⟨p,hp0,hPl0⟩:=id hR;refine⟨_,rfl,a,_,rfl,SqT.of hp0,rfl,_,_,rfl,_,_,rfl,_,_,rfl,rfl,Qx ?_⟩;refine⟨_,rfl,_,rfl,gm,x,p,t,fx,r.hs,r.ys,r.lead,b,rfl,G,hPl0,hO,fun H2 s12=>⟨_,rfl,?_⟩⟩;cases b with
 | false=>exact Ym (Ym (q H2 s12))
 | true=>
 refine Yb ?_;obtain⟨m,Pl⟩:=hOk _ _ _ _ hO;have em:=Zbv ok Pl;refine⟨_,rfl,_,_,rfl,rfl,_,rfl,?_⟩;by_cases c1:r.nd < 1
 ·refine X2 (Zd c1) (Ym (Ym ?_))
  have z:=q H2 s12;unfold rtB at z;rw[Zc (by omega:¬ 1≤r.nd)] at z;exact z
 refine X2 (Zc c1) (Yb ?_);refine⟨_,rfl,_,rfl,p,fx,r.hs,r.ys,r.lead,m,rfl,ok,hPl0.same s12,Pl,fun H3 s3=>?_⟩;have s13:=s12.trans s3;refine⟨_,_,rfl,rfl,_,rfl,?_⟩;by_cases c2:((m:Nat):Int) < r.nd
 ·refine X2 (Zd c2) (Ym ?_)
  have z:=q H3 s13;unfold rtB at z;rw[em,Zc (by omega:¬ r.nd≤((m:Nat):Int)),Bool.false_and,Bool.and_false,Bool.and_false] at z;exact z
 refine X2 (Zc c2) (Yb (Qx ?_));have m0:m≠0:=by omega
 unfold rtB at q;rw[em,Zd (by omega:1≤r.nd),Zd (by omega:r.nd≤((m:Nat):Int)),Bool.true_and,Bool.true_and,Bool.true_and] at q;obtain⟨h,eh,epc⟩:=Pl.turn ok;have h32:=Pl.h32 ok (Zl eh);have eg:r.hs.getD ((r.lead+r.ys.length) % fx.n) 0=h:=by rw[Zp,eh];rfl
 have eM:moveL fx t r.hs r.lead r.ys m=Ur fx t r.ys h:=by
  unfold moveL;rw[Zk m0,eg]
 refine⟨_,rfl,_,rfl,gm,x,p,t,fx,r.hs,r.ys,r.lead,m,rfl,G.same s13,tb,hPl0.same s13,Pl,fun lm H4 s4 hlm hm4=>?_⟩;have s14:=s13.trans s4;refine⟨_,rfl,_,rfl,_,rfl,gm,x,p,t,fx,r.hs,r.ys,r.lead,m,rfl,G.same s14,hPl0.same s14,Pl,fun H5 s5=>?_⟩;have s15:=s14.trans s5;have tv:Nj fx r.lead r.ys m = .int (((r.lead+r.ys.length) % fx.n:Nat):Int):=Zk m0;have sl:(r.lead+r.ys.length) % fx.n < fx.n:=Nat.mod_lt _ (by omega);refine⟨side,(r.lead+r.ys.length) % fx.n,?_,by omega,?_⟩
 ·rw[tv]
  rfl
 refine⟨_,rfl,?_⟩;have m5:=s5 _ _ hm4;have mfl:(vN (moveL fx t r.hs r.lead r.ys m)).all U9=true:=J9.mpr fun y hy=>by
  obtain⟨c,_,rfl⟩:=Zv.mp hy;rfl
 cases hsd:side.testBit ((r.lead+r.ys.length) % fx.n) with
 | true=>
  rw[hsd,Zu rfl] at q;refine Ym ⟨_,rfl,_,rfl,lm,_,rfl,.inl (SqL.of m5),?_⟩;cases hc:r.cd with
  | none=>
   rw[hc] at q;refine⟨rfl,mfl,_,rfl,?_⟩;refine X2 (Zjl _) (Yb ?_);exact q H5 s15
  | some c=>
   rw[hc] at q;dsimp only at q;refine⟨rfl,mfl,_,rfl,?_⟩;cases hin:(moveL fx t r.hs r.lead r.ys m).any fun d=>decide (((d:Nat):Int)=c) with
   | false=>
    rw[hin,Bool.false_and] at q;refine X2 ((Ah c _).trans hin) (Yb ?_);exact q H5 s15
   | true=>
    rw[hin,Bool.true_and] at q;refine X2 ((Ah c _).trans hin) (Ym ?_);obtain⟨e,he,ee⟩:=List.any_eq_true.mp hin;have ec:c=((e:Nat):Int):=(Ju ee).symm;subst ec;rw[eM] at he;have hb:=(Qa h32 he).1;rw[Z2] at q;exact⟨_,rfl,_,rfl,_,rfl,_,rfl,_,rfl,_,rfl,gm,x,l,p,t,fx,side,as,r.hs,r.ys,r.lead,m,h,e,r.nd,rfl,G.same s15,s15 _ _ hl,hRs.same s15,hPl0.same s15,Pl,eh,hb,fun H6 s6=>q H6 (s15.trans s6)⟩
 | false=>
  rw[hsd,Zk Zr] at q;refine Yb (Qx ⟨_,rfl,rfl,_,rfl,?_⟩);cases hc:r.cd with
  | some c=>
   rw[hc] at q;exact X2 (rfl:(!decide (El (some c)=V.non))=true) (Ym (q H5 s15))
  | none=>
   rw[hc] at q;dsimp only at q;refine X2 (rfl:(!decide (El none=V.non))=false) (Yb (Qx ?_));refine⟨_,rfl,lm,rfl,⟨_,SqL.of m5⟩,Xd (xs:=vN (moveL fx t r.hs r.lead r.ys m)) (fun i σ H6=>Same H5 H6∧((moveL fx t r.hs r.lead r.ys m).take i).all (fun c=>covB fx t side (Nf (as.map (·.1))) r.hs r.lead r.ys c r.nd)=true∧∃ z,σ=[some (.ref gm),some (.int (side:Nat)),some (.ref l),some (.ref a),some (.ref p),some (.int r.nd),some (El none),some (.ref lm),z]) ⟨Same.refl H5,rfl,none,rfl⟩ (fun i σ H6 _ z=>SqL.of (z.1 _ _ m5)) (fun i v σ H6 hv z=>?_) (fun σ H6 z=>?_)⟩
   ·obtain⟨s6,al,z0,rfl⟩:=z
    obtain⟨c,hi,rfl⟩:=Ni hv;have hcm:=Zl hi;have hcm':=hcm;rw[eM] at hcm;have hb:=(Qa h32 hcm).1;have s16:=s15.trans s6;have tk:(moveL fx t r.hs r.lead r.ys m).take (i+1)=(moveL fx t r.hs r.lead r.ys m).take i++[c]:=by
     rw[U0,hi];rfl
    refine⟨_,rfl,_,rfl,_,rfl,_,rfl,_,rfl,_,rfl,gm,x,l,p,t,fx,side,as,r.hs,r.ys,r.lead,m,h,c,r.nd,rfl,G.same s16,s16 _ _ hl,hRs.same s16,hPl0.same s16,Pl,eh,hb,fun H7 s7=>⟨_,rfl,?_⟩⟩;cases cv:covB fx t side (Nf (as.map (·.1))) r.hs r.lead r.ys c r.nd with
    | false=>
     refine Ym ?_;have z:=q H7 (s16.trans s7);rw[List.all_eq_false.mpr ⟨c,hcm',by rw[cv];exact Zr⟩] at z;exact z
    | true=>
     refine Yb ⟨s6.trans s7,?_,_,rfl⟩;rw[tk,List.all_append,al,Bool.true_and,List.all_cons,cv];rfl
   ·obtain⟨s6,al,z0,rfl⟩:=z
    rw[J1,List.take_length] at al;have z:=q H6 (s15.trans s6);rw[al] at z;exact z
end
structure Pre(f:Fx)(hs:List Nat)(lead:Nat)(ys:List Nat):Prop where
 len:hs.length=f.n
 ld:lead < f.n
 yl:ys.length < f.n
 one:∀ b,Q0 hs ys b≤1
 pk:∀ b,0 < Q0 hs ys b→b / 8 < f.s∧b % 8 < f.h
theorem Plc.pre{f:Fx}{hs ys:List Nat}{lead m:Nat}(P:Plc f hs lead ys m):Pre f hs lead ys:=⟨P.len,P.ld,P.yl,P.one,P.pk⟩
section
variable{f:Fx}{hs ys ws:List Nat}{lead m i:Nat}
theorem Pre.b32(ok:f.Ok)(P:Pre f hs lead ys){b:Nat}(h:0 < Q0 hs ys b):b < 32:=by
 have:=P.pk b h;have:=ok.s4;have:=ok.h8;omega
theorem Pre.y32(ok:f.Ok)(P:Pre f hs lead ys){c:Nat}(hc:c∈ys):c < 32:=P.b32 ok (Ny hc)
theorem Pre.h32(ok:f.Ok)(P:Pre f hs lead ys){h:Nat}(hh:h∈hs):h < 4294967296:=Zoz fun b hb=>P.b32 ok (Qb hh hb)
theorem Pre.apart(P:Pre f hs lead ys){h c:Nat}(hh:h∈hs)(hc:c∈ys):h.testBit c=false:=by
 have a:=P.one c;unfold Q0 at a;have b:0 < ys.count c:=List.count_pos_iff.mpr hc;cases e:h.testBit c with
 | false=>rfl
 | true=>
  have:0 < hs.countP (fun h=>h.testBit c):=List.countP_pos_iff.mpr ⟨h,hh,e⟩;omega
theorem Pre.start(P:Pre f hs lead ys):WsOk f hs lead 0 hs:=⟨P.len,fun j w e=>⟨w,e,fun z=>absurd z (Nat.not_lt_zero _),fun _=>rfl⟩⟩
theorem Pre.step(ok:f.Ok)(P:Pre f hs lead ys)(W:WsOk f hs lead i ws){c:Nat}(hc:ys[i]? = some c):∃ w,ws[(lead+i) % f.n]? = some w∧WsOk f hs lead (i+1) (ws.set ((lead+i) % f.n) (w ||| 2 ^ c)):=by
 have il:i < ys.length:=(Zx.mp hc).1;have yl:=P.yl;have sl:=B8 ok lead i;have hl:(lead+i) % f.n < ws.length:=by rw[W.len];exact sl
 have cm:c∈ys:=Zl hc;have oi:=Vk ok.n34 P.ld (show i < f.n by omega);refine⟨_,Zf hl,by rw[Xx];exact W.len,fun j w e=>?_⟩;by_cases q:j=(lead+i) % f.n
 ·subst q
  rw[List.getElem?_set_self hl] at e;cases e;obtain⟨h,e1,_,e2⟩:=W.at_ _ _ (Zf hl);refine⟨h,e1,fun _=>?_,fun z=>absurd (by rw[oi];exact Xh _) z⟩;have e3:=e2 (by rw[oi];exact Nat.lt_irrefl _);have hm:h∈hs:=Zl e1;rw[e3];refine⟨(Zqn (P.apart hm cm) (P.y32 ok cm)).symm,Zoz fun b hb=>?_⟩;rw[Nat.testBit_or,Qz] at hb;cases z:h.testBit b with
  | true=>exact P.b32 ok (Qb (ys:=ys) hm z)
  | false=>
   rw[z] at hb;have e4:c=b:=by simpa using hb
   rw[← e4];exact P.y32 ok cm
 ·rw[List.getElem?_set_ne (Ne.symm q)] at e
  obtain⟨h,e1,e2,e3⟩:=W.at_ j w e;have hj:j < f.n:=by rw[← W.len];exact(Zx.mp e).1
  obtain⟨o1,o2⟩:=Tw ok.n34 P.ld hj;have ne:Ax f.n lead j≠i:=fun z=>q (by rw[← o1,z]);exact⟨h,e1,fun z=>e2 (by omega),fun z=>e3 (by omega)⟩
theorem Pre.w32(ok:f.Ok)(P:Pre f hs lead ys)(W:WsOk f hs lead i ws):∀ w∈ws,w < 4294967296:=fun w hw=>by
 obtain⟨j,hj,e⟩:=Y0.mp hw;obtain⟨h,e1,e2,e3⟩:=W.at_ j w (by rw[Zf hj,e]);by_cases z:Ax f.n lead j < i
 ·exact(e2 z).2
 ·rw[e3 z]
  exact P.h32 ok (Zl e1)
theorem Pre.level(ok:f.Ok)(P:Pre f hs lead ys)(W:WsOk f hs lead ys.length ws):Zbw ws=true↔∃ m,Plc f hs lead ys m:=by
 have n0:0 < ws.length:=by rw[W.len];rcases ok.n34 with e | e<;>omega
 constructor
 ·intro h
  have h:=J9.mp h;refine⟨Xg 32 (ws.getD 0 0),P.len,P.ld,P.yl,P.one,P.pk,fun j g hg=>?_⟩;have jl:j < ws.length:=by rw[W.len,← P.len];exact(Zx.mp hg).1
  obtain⟨g',e1,e2,e3⟩:=W.at_ j ws[j] (Zf jl);rw[hg] at e1;cases e1;have e:=Ju (h ws[j] (Yl _));by_cases z:Ax f.n lead j < ys.length
  ·rw[Zu z,← e,(e2 z).1]
  ·rw[Zk z,← e,e3 z]
   rfl
 ·rintro⟨m,Pl⟩
  exact Zjg (fun w hw=>(W.end_ ok Pl w hw).2) n0
theorem S4:∀{hs:List Nat} {s:Nat},Xe hs s=true→∀ b,hs.countP (fun h=>h.testBit b)+(if s.testBit b then 1 else 0)≤1
 | [],s,_,b=>by
  show 0+_≤1;split<;>omega
 | h :: r,s,e,b=>by
  have e':(if s &&& h=0 then Xe r (s ||| h) else false)=true:=e;by_cases z:s &&& h=0
  ·rw[Zu z] at e'
   have i:=S4 e' b;have zb:(s.testBit b && h.testBit b)=false:=by rw[← Nat.testBit_and,z,Nat.zero_testBit]
   rw[List.countP_cons];rw[Nat.testBit_or] at i;cases e1:s.testBit b<;>cases e2:h.testBit b<;>rw[e1,e2] at i zb<;>simp at i zb ⊢ <;> omega
  ·rw[Zk z] at e'
   cases e'
theorem Zep(h:Xe (hs++ys.map fun c=>2 ^ c) 0=true):∀ b,Q0 hs ys b≤1:=fun b=>by
 have:=S4 h b;rw[List.countP_append,Di,Nat.zero_testBit] at this;exact this
theorem Zh0(ok:f.Ok)(h:∀ p∈hs++ys.map (fun c=>2 ^ c),p ||| hN (Yz f.s f.h)=hN (Yz f.s f.h)):∀ b,0 < Q0 hs ys b→b / 8 < f.s∧b % 8 < f.h:=fun b hb=>by
 have:∃ p∈hs++ys.map (fun c=>2 ^ c),p.testBit b=true:=by
  unfold Q0 at hb;by_cases z:0 < hs.countP (fun h=>h.testBit b)
  ·obtain⟨g,hg,e⟩:=List.countP_pos_iff.mp z
   exact⟨g,List.mem_append_left _ hg,e⟩
  ·have:0 < ys.count b:=by omega
   exact⟨2 ^ b,List.mem_append_right _ (Zv.mpr ⟨b,List.count_pos_iff.mp this,rfl⟩),by rw[Qz];exact Zd rfl⟩
 obtain⟨p,hp,e⟩:=this;have e2:=h p hp;have e3:(hN (Yz f.s f.h)).testBit b=true:=by rw[← e2,Nat.testBit_or,e,Bool.true_or]
 rw[Ea] at e3;exact(Vh ok.h8).mp (Ju e3)
theorem Pre.inpack(ok:f.Ok)(P:Pre f hs lead ys):∀ p∈hs++ys.map (fun c=>2 ^ c),p ||| hN (Yz f.s f.h)=hN (Yz f.s f.h):=fun p hp=>Nat.eq_of_testBit_eq fun b=>by
 rw[Nat.testBit_or,Ea];cases e:p.testBit b with
 | false=>rfl
 | true=>
  have h:0 < Q0 hs ys b:=by
   rcases Jm.mp hp with z | z
   ·exact Qb z e
   ·obtain⟨c,hc,rfl⟩:=Zv.mp z
    rw[Qz] at e;have e':c=b:=Ju e;subst e';exact Ny hc
  rw[Zd ((Vh ok.h8).mpr (P.pk b h))];rfl
end
abbrev Za0:Stmt:=top 81
abbrev Zg3:Stmt:=top 83
abbrev Tc:Stmt:=top 82
section
variable{P:Program}{w:World}{K:W.Frag}{mg:Str→Option Value}{base:Heap}{f g:Addr}{fd gd:FuncData}
def IsPlI(H:Hp)(p:Addr)(hs:List Nat)(lead:Int)(ys:List Nat):Prop:=∃ hp tp,H p=some (.tup [.ref hp,.int lead,.ref tp])∧H hp=some (.tup (vN hs))∧H tp=some (.tup (vN ys))
theorem IsPlI.same{H H':Hp}{p:Addr}{hs ys:List Nat}{lead:Int}(h:IsPlI H p hs lead ys)(s:Same H H'):IsPlI H' p hs lead ys:=by
 obtain⟨hp,tp,a,b,c⟩:=h;exact⟨hp,tp,s _ _ a,s _ _ b,s _ _ c⟩
theorem IsPl.i{H:Hp}{p:Addr}{hs ys:List Nat}{lead:Nat}(h:IsPl H p hs lead ys):IsPlI H p hs (lead:Nat) ys:=h
def Zcj(CT CG:Addr):Sp:=fun vs H Q _=>∃(gm x:Addr) (t:Option Nat) (fx:Fx) (i:Int),vs=[.ref gm,.int i]∧GamH CT CG fx t H gm x∧Q (.bl (decide (0≤i∧i < ((fx.n:Nat):Int)))) H
theorem Zie{k:Nat}{CT CG:Addr}(F:Fun K "is_seat" "is_seat" Ox f fd)(C:TabC K mg CT)(CGm:GamC K mg CG):FnOk P w K mg base Yr (k+1) f fd ["game","seat"] (Zcj CT CG):=by
 refine F.ok Znl (fun vs H Q E h=>?_) (fun cdv A outer s H vs Q E hr h=>?_)
 ·obtain⟨gm,x,t,fx,i,rfl,_⟩:=h
  rfl
 obtain⟨gm,x,t,fx,i,rfl,G,q⟩:=h;refine⟨_,Zm (Z9 (Xz (Ys Tt (pv 1) Zn (Jg _)) (U8 (Ys M0 (pv 1) (Jt (Jt (pv 0) rfl) rfl) (Jg _))))),?_⟩;obtain⟨dg,hg⟩:=G.g;obtain⟨dx,po,to,hx,_,_⟩:=G.t;refine⟨_,rfl,_,_,rfl,rfl,_,rfl,?_⟩;by_cases i0:0≤i
 ·refine X2 (Zd i0) (Ym ⟨_,rfl,_,rfl,gm,CG,dg,_,_,rfl,hg,CGm.cl,CGm.nT,Yt _ _,x,CT,dx,_,_,rfl,hx,C.cl,C.nN,Us _ _ _,_,_,rfl,rfl,?_⟩)
  have e:decide (0≤i∧i < ((fx.n:Nat):Int))=decide (i < ((fx.n:Nat):Int)):=decide_eq_decide.mpr ⟨fun h=>h.2,fun h=>⟨i0,h⟩⟩;rw[e] at q;exact q
 ·refine X2 (Zc i0) (Yb ?_)
  have e:decide (0≤i∧i < ((fx.n:Nat):Int))=false:=Zc fun h=>i0 h.1;rw[e] at q;exact q
def D2(CT CG:Addr):Sp:=fun vs H Q _=>∃(gm x p:Addr) (t:Option Nat) (fx:Fx) (hs ys:List Nat) (lead:Nat),vs=[.ref gm,.ref p]∧GamH CT CG fx t H gm x∧IsPl H p hs lead ys∧Pre fx hs lead ys ∧
 ∀ l ws H',Same H H'→H l=none→H' l=some (.lst (vN ws))→WsOk fx hs lead ys.length ws→Q (.ref l) H'
theorem Zib{k:Nat}{CT CG f1:Addr}{d1:FuncData}(F:Fun K "hands_with_trick" "hands_with_trick" Zg0 f fd)(LR:Lib P w K mg base k "seat_round" ["game","lead","steps"] (B1 CT CG) f1 d1)(mLi:mg "list" = none)(me:mg "enumerate" = none) :
  FnOk P w K mg base Yr (k+1) f fd ["game","place"] (D2 CT CG):=by
 refine F.ok scWith (fun vs H Q E h=>?_) (fun cdv A outer s H vs Q E hr h=>?_)
 ·obtain⟨gm,x,p,t,fx,hs,ys,lead,rfl,_⟩:=h
  rfl
 obtain⟨gm,x,p,t,fx,hs,ys,lead,rfl,G,⟨hp,tp,h1,h2,h3⟩,Pl,q⟩:=h;refine⟨_,Zh (Jf (i:=2) scWith.nd rfl (Or.inl rfl) (Yy Qd rfl mLi Y4 (Za (Jw Jz (pv 1) Zn (fun _ _=>rfl)) Zg)))
  (Zh (Uv PassesOwn.never rfl (Kp rfl me (Za (Jw Jz (pv 1) Zn (fun _ _=>rfl)) Zg)) (No rfl (J6 (Jj (i:=3) scWith.nd rfl (Or.inl rfl)) (J6 (Jj (i:=4) scWith.nd rfl (Or.inl rfl)) Xt)))
   (Zh (Jf (i:=5) scWith.nd rfl (Or.inl rfl) (Z1 LR.ok hr rfl LR.mg LR.kp LR.bd .nil Ja (Za (pv 0) (Za (Jw Jz (pv 1) Zn (fun _ _=>rfl)) (Za (pv 3) Zg)))))
   (Zm (Br (Jd Zc9 (Jw Uk (pv 2) (pv 5) (fun _ _=>rfl)) (Jd Ts Zn (pv 4))) (Zhs (pv 2) (pv 5) Kg)))))
  (Zm (Z9 (pv 2)))),?_⟩
 have ok:=G.ok;refine⟨_,rfl,p,_,_,_,rfl,rfl,SqT.of h1,(rfl:X6 [V.ref hp,V.int (lead:Nat),V.ref tp] 0=some (V.ref hp)),hp,_,rfl,.inr (SqT.of h2),fun l hl=>?_⟩;have s1:=Z5 hl (.lst (vN hs));refine⟨_,rfl,p,_,_,_,rfl,rfl,SqT.of (s1 _ _ h1),(rfl:X6 [V.ref hp,V.int (lead:Nat),V.ref tp] 2=some (V.ref tp)),tp,_,rfl,SqT.of (s1 _ _ h3),?_⟩;refine Db (K:=K) (a:=tp) (xs:=vN ys) (fun i σ H'=>Same H H'∧∃(ws:List Nat) (x3 x4 x5:Option V),σ=[some (.ref gm),some (.ref p),some (.ref l),x3,x4,x5]∧H' l=some (.lst (vN ws))∧WsOk fx hs lead i ws)
  ⟨s1,hs,none,none,none,rfl,Zo,Pl.start⟩ (fun i σ H1 z=>SqT.of (z.1 _ _ h3)) (fun i v r σ H1 hv z hr1=>?_) (fun σ H1 z=>?_)
 ·obtain⟨s2,ws,x3,x4,x5,rfl,hL,W⟩:=z
  obtain⟨c,hc,rfl⟩:=Ni hv;have s3:=s2.trans (Z5 hr1 (.tup [.int (i:Nat),.int (c:Nat)]));have hL3:upd H1 r (.tup [.int (i:Nat),.int (c:Nat)]) l=some (.lst (vN ws)):=by rw[Jh (J4 hL hr1)];exact hL
  obtain⟨wv,ew,W'⟩:=Pl.step ok W hc;have c32:=Pl.y32 ok (Zl hc);refine⟨r,_,rfl,SqT.of Zo,rfl,_,_,rfl,_,_,rfl,rfl,?_⟩;refine⟨_,rfl,_,rfl,p,_,_,_,rfl,rfl,SqT.of (s3 _ _ h1),(rfl:X6 [V.ref hp,V.int (lead:Nat),V.ref tp] 1=some (V.int (lead:Nat))),_,rfl,gm,x,t,fx,lead,i,rfl,G.same s3,?_⟩;refine⟨_,rfl,_,rfl,l,_,_,_,rfl,rfl,SqL.of hL3,Zgb ew,_,rfl,_,_,rfl,rfl,⟨by omega,by omega,by decide⟩,_,_,rfl,rfl,?_⟩;refine⟨_,rfl,_,rfl,l,_,_,(lead+i) % fx.n,rfl,rfl,hL3,?_,?_⟩
  ·refine Zdi ?_
   rw[J1];exact(Zx.mp ew).1
  ·refine⟨fun b o hb=>?_,ws.set ((lead+i) % fx.n) (wv ||| 2 ^ c),_,_,_,rfl,?_,W'⟩
   ·rw[Jh (J4 hb hl)]
    exact s3 _ _ hb
   ·rw[Zo,← Zf9]
    show some (HO.lst ((vN ws).set ((lead+i) % fx.n) (V.int (Builtin.bitOr ((wv:Nat):Int) ((1:Int) * 2 ^ (((c:Nat):Int)).toNat)))))=_;rw[Oh,orN]
 ·obtain⟨s2,ws,x3,x4,x5,rfl,hL,W⟩:=z
  rw[J1] at W;exact⟨_,rfl,q l ws H1 s2 hl hL W⟩
def Zqp(pk:Nat)(x:V):V:=match x with | .int i=>.bl (!decide (i.toNat ||| pk=pk)) | _=>.non
theorem Zer(pk:Nat)(ps:List Nat):((vN ps).filter fun _=>true).map (Zqp pk)=(ps.map fun p=>!decide (p ||| pk=pk)).map V.bl:=by
 rw[List.filter_eq_self.mpr fun _ _=>rfl];unfold vN;rw[Z7,Z7];refine Jv fun c _=>?_;show V.bl (!decide ((((c:Nat):Int)).toNat ||| pk=pk))=_;rw[Z2];rfl
def Od(CT CG:Addr):Sp:=fun vs H Q _=>∃(gm x p:Addr) (t:Option Nat) (fx:Fx) (hs ys:List Nat) (lead:Int),vs=[.ref gm,.ref p]∧GamH CT CG fx t H gm x∧IsPlI H p hs lead ys∧hs.length≤100∧ys.length≤100∧(∀ y∈ys,y≤1000)∧∀ b H',Same H H'→(b=true↔∃(ld m:Nat),lead=(ld:Nat)∧Plc fx hs ld ys m)→Q (.bl b) H'
theorem Zis{k:Nat}{CT CG f1 f2 f3 f4 m5:Addr}{d1 d2 d3 d4 e5:FuncData}(F:Fun K "is_place" "is_place" Nk f fd)(C:TabC K mg CT)(CGm:GamC K mg CG)(LS:Lib P w K mg base k "is_seat" ["game","seat"] (Zcj CT CG) f1 d1)
  (LA:Lib P w K mg base k "is_apart" ["hands"] (Zcs K) f2 d2) (LV:Lib P w K mg base k "is_level" ["hands"] (Zcl K) f3 d3) (LW:Lib P w K mg base k "hands_with_trick" ["game","place"] (D2 CT CG) f4 d4)
  (MP:Meth K CG "pack" m5) (FP:FnOk P w K mg base Yr k m5 e5 ["self"] (Zcq CT CG)) (BP:Binds K e5 ["self"] []) (ml:mg "len" = none) (mLi:mg "list" = none) (mY:mg "any" = none) :
  FnOk P w K mg base Yr (k+1) f fd ["game","place"] (Od CT CG):=by
 refine F.ok scIsPlace (fun vs H Q E h=>?_) (fun cdv A outer s H vs Q E hr h=>?_)
 ·obtain⟨gm,x,p,t,fx,hs,ys,lead,rfl,_⟩:=h
  rfl
 obtain⟨gm,x,p,t,fx,hs,ys,lead,rfl,G,hPl,hl100,yl100,y1000,q⟩:=h;obtain⟨hp,tp,h1,h2,h3⟩:=id hPl;refine⟨_,Zh (Jf (i:=2) scIsPlace.nd rfl (Or.inl rfl) (Yy Qd rfl mLi Y4 (Za (Jw Jz (pv 1) Zn (fun _ _=>rfl)) Zg)))
  (Zh (Jf (i:=3) scIsPlace.nd rfl (Or.inl rfl) (Jw Jz (pv 1) Zn (fun _ _=>rfl)))
  (Zh (J5 (PW.pt (Qu (Ji Vj (Jr Jy rfl ml Jq (Za (pv 2) Zg)) (Jt (Jt (pv 0) rfl) rfl) (Jg _)) (Qu (Ji Tt (Jr Jy rfl ml Jq (Za (pv 3) Zg)) (Jt (Jt (pv 0) rfl) rfl) (Jg _))
   (Qf (X7 (Yi (Z1 LS.ok hr rfl LS.mg LS.kp LS.bd .nil Ja (Za (pv 0) (Za (Jw Jz (pv 1) Zn (fun _ _=>rfl)) Zg))) (fun _=>rfl))))))) (Zm (Z9 Up)) Jl)
  (Zh (Jf (i:=4) scIsPlace.nd rfl (Or.inl rfl) (Jd Tu (pv 2) (Ud ["card"] [none] rfl (Blk.by (sc:=Zq Nk) (N0:=T0) rfl rfl (by decide +kernel)) (V9 (pv 3)) (fun C s₀ H₀ ex=>Jj (i:=0) (show(["card"]:List Str).Nodup by decide +kernel) rfl (Or.inl rfl)) (fun C s₀ H₀ ex=>U5)
   (fun C s₀ H₀ ex=>Jd Ts Zn (pv 0)))))
  (Zh (Jf (i:=5) scIsPlace.nd rfl (Or.inr rfl) (Vf (pv 0) CGm.cl MP FP hr BP .nil Ja))
  (Zh (J5 (PW.pt (Qu (X7 (Yi (Z1 LA.ok hr rfl LA.mg LA.kp LA.bd .nil Ja (Za (pv 4) Zg)) (fun _=>rfl))) (Qf (Yi (Jr (Zfy rfl) rfl mY PyProof.Rows.boot_any (Za (Ud ["part","pack"] [none,some 5] rfl (Blk.by (sc:=Zq Nk) (N0:=T0) rfl rfl (by decide +kernel)) (Y6 (pv 4)) (fun C s₀ H₀ ex=>Jj (i:=0) (show(["part","pack"]:List Str).Nodup by decide +kernel) rfl (Or.inl rfl)) (fun C s₀ H₀ ex=>U5)
   (fun C s₀ H₀ ex=>Ys Vj (Jd Zc9 (pv 0) (pv 1)) (pv 1) (Jg _))) Zg)) (fun _=>rfl))))) (Zm (Z9 Up)) Jl)
  (Zm (Z9 (Z1 LV.ok hr rfl LV.mg LV.kp LV.bd .nil Ja (Za (Z1 LW.ok hr rfl LW.mg LW.kp LW.bd .nil Ja (Za (pv 0) (Za (pv 1) Zg))) Zg))))))))),?_⟩
 have ok:=G.ok;have n4:fx.n≤4:=by rcases ok.n34 with e | e<;>omega
 have n0:0 < fx.n:=by rcases ok.n34 with e | e<;>omega
 have no:∀{H'},Same H H'→(∀ ld m,lead=((ld:Nat):Int)→Plc fx hs ld ys m→False)→Q (.bl false) H':=fun {H'} s z=>q false H' s ⟨(fun e=>nomatch e),fun⟨ld,m,e1,e2⟩=>(z ld m e1 e2).elim⟩;refine⟨_,rfl,p,_,_,_,rfl,rfl,SqT.of h1,(rfl:X6 [V.ref hp,V.int lead,V.ref tp] 0=some (V.ref hp)),hp,_,rfl,.inr (SqT.of h2),fun l hl=>?_⟩;have s1:=Z5 hl (.lst (vN hs));refine⟨_,rfl,p,_,_,_,rfl,rfl,SqT.of (s1 _ _ h1),(rfl:X6 [V.ref hp,V.int lead,V.ref tp] 2=some (V.ref tp)),?_⟩;obtain⟨dg,hg⟩:=(G.same s1).g;obtain⟨dx,po,to,hx,_,_⟩:=(G.same s1).t;have e1:(!decide (V.int (((vN hs).length:Nat):Int)=V.int ((fx.n:Nat):Int))) = !decide (hs.length=fx.n):=by rw[J1,nat_dec]
 refine⟨_,rfl,l,_,rfl,.inl (SqL.of Zo),_,rfl,gm,CG,dg,_,_,rfl,hg,CGm.cl,CGm.nT,Yt _ _,x,CT,dx,_,_,rfl,hx,C.cl,C.nN,Us _ _ _,rfl,_,rfl,X2 e1 ?_⟩;by_cases c1:hs.length=fx.n
 case neg=>
  rw[Zc c1];exact Ym (Ym (no s1 fun ld m _ P=>c1 P.len))
 rw[Zd c1];refine Yb ?_;have e2:decide (((fx.n:Nat):Int)≤(((vN ys).length:Nat):Int))=decide (fx.n≤ys.length):=by rw[J1];exact decide_eq_decide.mpr ⟨fun z=>by omega,fun z=>by omega⟩
 refine⟨_,rfl,tp,_,rfl,.inr (SqT.of (s1 _ _ h3)),_,rfl,gm,CG,dg,_,_,rfl,hg,CGm.cl,CGm.nT,Yt _ _,x,CT,dx,_,_,rfl,hx,C.cl,C.nN,Us _ _ _,_,_,rfl,rfl,_,rfl,X2 e2 ?_⟩;by_cases c2:fx.n≤ys.length
 case pos=>
  rw[Zd c2];exact Ym (Ym (no s1 fun ld m _ P=>by have:=P.yl;omega))
 rw[Zc c2];refine Yb ?_;refine⟨_,rfl,_,rfl,p,_,_,_,rfl,rfl,SqT.of (s1 _ _ h1),(rfl:X6 [V.ref hp,V.int lead,V.ref tp] 1=some (V.int lead)),gm,x,t,fx,lead,rfl,G.same s1,_,rfl,?_⟩;by_cases c3:0≤lead∧lead < ((fx.n:Nat):Int)
 case neg=>
  refine X2 (by rw[Zc c3];rfl:(!decide (0≤lead∧lead < ((fx.n:Nat):Int)))=true) (Ym ?_);exact no s1 fun ld m e P=>c3 ⟨by omega,by have:=P.ld;omega⟩
 refine X2 (by rw[Zd c3];rfl:(!decide (0≤lead∧lead < ((fx.n:Nat):Int)))=false) (Yb ?_);obtain⟨ld,rfl⟩:∃ ld:Nat,lead=(ld:Nat):=⟨lead.toNat,by omega⟩;have ldn:ld < fx.n:=by omega
 refine⟨_,rfl,_,rfl,tp,rfl,⟨_,SqT.of (s1 _ _ h3)⟩,Nx (K:=K) (xs:=vN ys) (fun _=>true) Zhl (SqT.of (s1 _ _ h3)) (J2 _ (by rw[J1];omega)) (fun y H3 hy sm R hR=>hR H3 (Same.refl H3)) (fun y H3 hy hp sm R hR=>?_) (fun lq H4 s4 hlq hL4=>?_)⟩
 ·obtain⟨c,hc,rfl⟩:=Zv.mp hy
  have c32:=y1000 c hc;refine⟨_,rfl,_,_,rfl,rfl,⟨by omega,by omega,by decide⟩,?_⟩;have z:=hR H3 (Same.refl H3);show R (V.int ((1:Int) * 2 ^ (((c:Nat):Int)).toNat)) H3;rw[Oh];have e:Zhl (V.int (c:Nat))=V.int ((2 ^ c:Nat):Int):=by
   show V.int ((2 ^ (((c:Nat):Int)).toNat:Nat):Int)=_;rw[Z2]
  rw[e] at z;exact z
 rw[Mv] at hL4;have sl4:=s4 _ _ (Zo:upd H l (.lst (vN hs)) l=_);have ll:(vN hs).length+(vN (ys.map fun c=>2 ^ c)).length≤sizeLine:=J2 _ (by rw[J1,J1,Zj];omega);refine⟨l,lq,_,_,rfl,rfl,sl4,hL4,ll,fun pq hpq=>?_⟩;have s5:Same H (upd H4 pq (.lst (vN hs++vN (ys.map fun c=>2 ^ c)))):=(s1.trans s4).trans (Z5 hpq _);have eP:vN hs++vN (ys.map fun c=>2 ^ c)=vN (hs++ys.map fun c=>2 ^ c):=by unfold vN;rw[Jp]
 rw[eP] at s5 ⊢;obtain⟨dg5,hg5⟩:=(G.same s5).g;refine⟨_,rfl,gm,dg5,_,rfl,hg5,Ev _ _ _ (by decide +kernel) (by decide +kernel),gm,x,_,fx,rfl,ok,(G.same s5).g,(G.same s5).t,fun H6 s6=>?_⟩;have s7:=s5.trans s6;have hL6:H6 pq=some (.lst (vN (hs++ys.map fun c=>2 ^ c))):=s6 _ _ Zo;refine⟨_,rfl,pq,_,rfl,SqL.of hL6,_,rfl,?_⟩;by_cases c4:Xe (hs++ys.map fun c=>2 ^ c) 0=true
 case neg=>
  refine X2 (by rw[Bool.eq_false_iff.mpr c4];rfl:(!Xe (hs++ys.map fun c=>2 ^ c) 0)=true) (Ym (Ym ?_));exact no s7 fun ld m e P=>c4 P.parts
 refine X2 (by rw[c4];rfl:(!Xe (hs++ys.map fun c=>2 ^ c) 0)=false) (Yb ?_);refine⟨_,rfl,pq,rfl,⟨_,SqL.of hL6⟩,Qj (K:=K) (xs:=vN (hs++ys.map fun c=>2 ^ c)) (fun _=>true) (Zqp (hN (Yz fx.s fx.h))) (SqL.of hL6) (J2 _ (by rw[J1,Z3,Zj];omega)) (fun x H3 hx sm R hR=>hR H3 (Same.refl H3)) (fun x H8 hx hp sm R hR=>?_) (fun lz H8 s8 hz hz8=>?_)⟩
 ·obtain⟨pt,hpt,rfl⟩:=Zv.mp hx
  refine⟨_,rfl,_,rfl,_,_,rfl,rfl,_,rfl,rfl,?_⟩;have z:=hR H8 (Same.refl H8);have e:(!decide (V.int (Builtin.bitOr ((pt:Nat):Int) ((Tn fx.s fx.h:Nat):Int))=V.int ((Tn fx.s fx.h:Nat):Int))) = !decide (pt ||| hN (Yz fx.s fx.h)=hN (Yz fx.s fx.h)):=by
   rw[orN,Zh1 ok,nat_dec]
  show R (V.bl (!decide (V.int (Builtin.bitOr ((pt:Nat):Int) ((Tn fx.s fx.h:Nat):Int))=V.int ((Tn fx.s fx.h:Nat):Int)))) H8;rw[e];exact z
 ·rw[Zer] at hz8
  refine⟨lz,_,rfl,SqL.of hz8,_,rfl,?_⟩;have s9:=s7.trans s8;by_cases c5:∀ pt∈hs++ys.map (fun c=>2 ^ c),pt ||| hN (Yz fx.s fx.h)=hN (Yz fx.s fx.h)
  case neg=>
   have ea:((hs++ys.map fun c=>2 ^ c).map fun pt=>!decide (pt ||| hN (Yz fx.s fx.h)=hN (Yz fx.s fx.h))).any id=true:=by
    rw[List.any_map,List.any_eq_true];refine Classical.byContradiction fun z=>c5 fun pt hpt=>Classical.byContradiction fun n=>z ⟨pt,hpt,?_⟩;show(!decide (pt ||| hN (Yz fx.s fx.h)=hN (Yz fx.s fx.h)))=true;rw[Zc n];rfl
   refine X2 ea (Ym ?_);exact no s9 fun ld m e P=>c5 (P.pre.inpack ok)
  have ea:((hs++ys.map fun c=>2 ^ c).map fun pt=>!decide (pt ||| hN (Yz fx.s fx.h)=hN (Yz fx.s fx.h))).any id=false:=by
   rw[List.any_map];refine List.any_eq_false.mpr fun pt hpt=>?_;show ¬ (!decide (pt ||| hN (Yz fx.s fx.h)=hN (Yz fx.s fx.h)))=true;rw[Zd (c5 pt hpt)];exact Zr
  refine X2 ea (Yb ?_);have P0:Pre fx hs ld ys:=⟨c1,ldn,by omega,Zep c4,Zh0 ok c5⟩;refine⟨_,rfl,_,rfl,gm,x,p,t,fx,hs,ys,ld,rfl,G.same s9,hPl.same s9,P0,fun lw ws H9 t9 hw hw9 W=>?_⟩;have wl:=W.len;refine⟨lw,ws,rfl,hw9,P0.w32 ok W,by omega,by omega,fun H10 t10=>?_⟩;refine q _ H10 ((s9.trans t9).trans t10) ((P0.level ok W).trans ⟨fun⟨m,P⟩=>⟨ld,m,rfl,P⟩,fun⟨ld2,m,e,P⟩=>⟨m,?_⟩⟩);have:ld=ld2:=by omega
  rw[this];exact P
def Bd(r:Rw):Prop:=0 < r.hs.length∧∀ y∈r.ys,y≤1000
noncomputable def plB (fx:Fx) (r:Rw):Bool:=@decide (∃ m,Plc fx r.hs r.lead r.ys m) (Classical.propDecidable _)
theorem Zc0(fx:Fx)(r:Rw):plB fx r=true↔∃ m,Plc fx r.hs r.lead r.ys m:=by
 unfold plB;exact @decide_eq_true_iff _ (Classical.propDecidable _)
def OkX(fx:Fx)(hs:List Nat)(lead:Nat)(ys:List Nat)(b:Bool):Prop:=hs.length≤100∧ys.length≤100∧(∀ y∈ys,y≤1000)∧(b=true↔∃ m,Plc fx hs lead ys m)
theorem okX{fx:Fx}{r:Rw}(fm:r.Fm)(bd:Bd r):OkX fx r.hs r.lead r.ys (plB fx r):=⟨fm.1,fm.2,bd.2,Zc0 fx r⟩
theorem K7{fx:Fx}{hs:List Nat}{lead:Nat}{ys:List Nat}(h:OkX fx hs lead ys true):∃ m,Plc fx hs lead ys m:=h.2.2.2.mp rfl
theorem Zo7{k:Nat}{CT CG:Addr}(h:FnOk P w K mg base Yr k f fd ["game","place"] (Od CT CG)):FnOk P w K mg base Yr k f fd ["game","place"] (R7 CT CG OkX):=h.imp fun vs H Q E z=>by
 obtain⟨gm,x,p,t,fx,hs,ys,lead,b,rfl,G,hp,⟨l1,l2,l3,ib⟩,q⟩:=z;refine⟨gm,x,p,t,fx,hs,ys,((lead:Nat):Int),rfl,G,hp.i,l1,l2,l3,fun b' H' s' i'=>?_⟩;have e:b'=b:=by
  rw[Bool.eq_iff_iff,i',ib];refine⟨fun⟨ld,m,e,pl⟩=>?_,fun⟨m,pl⟩=>⟨lead,m,rfl,pl⟩⟩;have e':lead=ld:=by omega
  subst e';exact⟨m,pl⟩
 rw[e];exact q H' s'
theorem Plc.bd{fx:Fx}(ok:fx.Ok){r:Rw}{m:Nat}(Pl:Plc fx r.hs r.lead r.ys m):Bd r:=by
 refine⟨?_,fun y hy=>?_⟩
 ·rw[Pl.len]
  rcases ok.n34 with e | e<;>omega
 ·have:=Pl.pre.y32 ok hy
  omega
theorem Zga(a b:List Nat):vN a++vN b=vN (a++b):=by
 unfold vN;rw[Jp]
theorem Zml(hs:List Nat)(j:Nat):Ed (vN hs) none (some ((j:Nat):Int))=vN (hs.take j):=by
 rw[Zdt];unfold vN;rw[List.map_take]
theorem Dh(xs:List V)(c:Nat)(hc:c≤xs.length):Ed xs (some ((c:Nat):Int)) none=xs.drop c:=by
 unfold Ed;rw[HT.sIx_nat,Xw hc];show(xs.drop c).take (xs.length - c)=_;rw[List.take_of_length_le (by rw[Yk];exact Zs _)]
theorem Zkc(hs:List Nat){j:Nat}(h:j < hs.length):Ed (vN hs) (some (((j:Nat):Int)+1)) none=vN (hs.drop (j+1)):=by
 have:=Dh (vN hs) (j+1) (by rw[J1];omega);rw[show(((j+1:Nat):Int))=((j:Nat):Int)+1 from rfl] at this;rw[this];unfold vN;rw[List.map_drop]
def D8:Sp:=fun vs H Q _=>∃(p:Addr) (cell:Int) (hs:List Nat) (lead:Nat) (ys:List Nat),vs=[.ref p,.int cell]∧IsPl H p hs lead ys∧0 < hs.length∧hs.length≤100∧∀ p' hs' lead' H',Same H H'→IsPl H' p' hs' lead' ys→hs'.length=hs.length→Q (.ref p') H'
abbrev Zov:List Str:=["_law_place_here","_law_cell_here","_law_hands","_law_lead","_law_trick","_law_at","_law_other"]
theorem scOther:FnScope Zov ["_law_place_here","_law_cell_here"] (Zq Za0):=Uy (by decide +kernel)
theorem Zij{k:Nat}(F:Fun K "_law_other_place" "_law_other_place" Za0 f fd)(ml:mg "len" = none):FnOk P w K mg base Yr (k+1) f fd ["_law_place_here","_law_cell_here"] D8:=by
 refine F.ok scOther (fun vs H Q E h=>?_) (fun cdv A outer s H vs Q E hr h=>?_)
 ·obtain⟨p,cell,hs,lead,ys,rfl,_⟩:=h
  rfl
 obtain⟨p,cell,hs,lead,ys,rfl,hp,h0,h100,q⟩:=h;refine⟨_,Zh (Br (pv 0) (No rfl (J6 (Jj (i:=2) scOther.nd rfl (Or.inl rfl)) (J6 (Jj (i:=3) scOther.nd rfl (Or.inl rfl)) (J6 (Jj (i:=4) scOther.nd rfl (Or.inl rfl)) Xt)))))
  (Zh (Jf (i:=5) scOther.nd rfl (Or.inl rfl) (Jd Yv (Jd Ua (pv 1) Zn) (Jr Jy rfl ml Jq (Za (pv 2) Zg))))
  (Zh (J5 (Ji Uq (Jd Yv (pv 1) Zn) Zn (Jg _)) (Zm (Z9 (Um (Za (pv 2) (Za (Jd Yv (Jd Y1 (pv 3) Zn) (Jr Jy rfl ml Jq (Za (pv 2) Zg))) (Za (pv 4) Zg)))))) Jl)
  (Zh (Jf (i:=6) scOther.nd rfl (Or.inl rfl) (Jw Jz (pv 2) (Jd Yv (Jd Y1 (pv 5) Zn) (Jr Jy rfl ml Jq (Za (pv 2) Zg))) (fun _ _=>rfl)))
  (Zh (J5 (Ji Uq (Jd Yv (pv 1) Zn) Zn (Jg _)) (Zm (Jf (i:=6) scOther.nd rfl (Or.inl rfl) (Jd Ua (Jw Jz (pv 2) (pv 5) (fun _ _=>rfl)) Zn))) Jl)
  (Zm (Z9 (Um (Za (Jd Ac (Jd Ac (X9 Zct (pv 2) Ei (U4 (pv 5))) (Um (Za (pv 6) Zg))) (X9 Zct (pv 2) (U4 (Jd Y1 (pv 5) Zn)) Ei)) (Za (pv 3) (Za (pv 4) Zg)))))))))),?_⟩
 have big:1000000≤sizeLine:=by rw[sizeLine_eq];decide
 obtain⟨hp',tp',h1,h2,h3⟩:=id hp;have hl:((((vN hs).length:Nat)):Int)=((hs.length:Nat):Int):=by rw[J1]
 have lp:(0:Int) < (((vN hs).length:Nat):Int):=by rw[hl];omega
 refine⟨_,rfl,p,_,rfl,SqT.of h1,rfl,_,_,rfl,_,_,rfl,_,_,rfl,rfl,Qx ?_⟩;obtain⟨j,jl,ej⟩:=Be (z:=cell / 3) (n:=hs.length) h0;refine U3 (fun v H'=>H=H'∧v = .int ((j:Nat):Int)) (fun R hR=>⟨_,rfl,_,_,rfl,rfl,⟨(show(0:Int) < 3 by decide),by decide⟩,_,rfl,hp',_,rfl,.inr (SqT.of h2),_,_,rfl,rfl,lp,hR _ _ ⟨rfl,by rw[hl];exact congrArg V.int ej⟩⟩) (fun v H' z=>?_);obtain⟨rfl,rfl⟩:=z;refine X0 (fun b H'=>H=H') (fun σ H'=>H=H'∧σ=[some (.ref p),some (.int cell),some (.ref hp'),some (.int ((lead:Nat):Int)),some (.ref tp'),some (.int ((j:Nat):Int)),none]) (fun R hR=>⟨_,rfl,_,_,rfl,rfl,(show(0:Int) < 3 by decide),rfl,_,rfl,hR _ _ rfl⟩) (fun H' e D' er nx=>?_) (fun H' e D' er nx=>?_) (fun σ H' z=>?_)
 ·subst e
  obtain⟨u,ul,eu⟩:=Be (z:=((lead:Nat):Int)+1) (n:=hs.length) h0;refine⟨_,rfl,_,rfl,_,_,rfl,rfl,_,rfl,hp',_,rfl,.inr (SqT.of h2),_,_,rfl,rfl,lp,_,rfl,J2 3 (by decide),fun r hr=>?_⟩;rw[er,hl];dsimp only;rw[eu];have t1:=Z5 hr (.tup [.ref hp',.int ((u:Nat):Int),.ref tp']);exact q r hs u _ t1 ⟨hp',tp',Zo,t1 _ _ h2,t1 _ _ h3⟩ rfl
 ·subst e
  exact nx _ _ ⟨rfl,rfl⟩
 obtain⟨rfl,rfl⟩:=z;refine U3 (fun v H'=>H=H'∧∃ o:Nat,v = .int ((o:Nat):Int)) (fun R hR=>?_) (fun v H' z=>?_)
 ·obtain⟨v,hv,ev⟩:=Ko (vN hs) (((vN hs).length:Nat):Int) rfl (by rw[J1];exact h0) (((j:Nat):Int)+1)
  obtain⟨o,_,rfl⟩:=Zv.mp hv;exact⟨_,rfl,_,rfl,_,_,rfl,rfl,_,rfl,hp',_,rfl,.inr (SqT.of h2),_,_,rfl,rfl,lp,hp',_,_,_,rfl,rfl,SqT.of h2,ev,hR _ _ ⟨rfl,o,rfl⟩⟩
 obtain⟨rfl,o,rfl⟩:=z;refine X0 (fun b H'=>H=H') (fun σ H'=>H=H'∧∃ o:Nat,σ=[some (.ref p),some (.int cell),some (.ref hp'),some (.int ((lead:Nat):Int)),some (.ref tp'),some (.int ((j:Nat):Int)),some (.int ((o:Nat):Int))]) (fun R hR=>⟨_,rfl,_,_,rfl,rfl,(show(0:Int) < 3 by decide),rfl,_,rfl,hR _ _ rfl⟩) (fun H' e D' er nx=>?_) (fun H' e D' er nx=>?_) (fun σ H' z=>?_)
 ·subst e
  have hj:(vN hs)[j]? = some (.int ((hs[j]:Nat):Int)):=by
   unfold vN;rw[Z4,Zf jl];rfl
  refine⟨_,rfl,_,rfl,hp',_,_,_,rfl,rfl,SqT.of h2,Xv hj,_,_,rfl,rfl,⟨(show(0:Int) < 2 by decide),by decide⟩,nx _ _ ⟨rfl,hs[j] / 2,?_⟩⟩;show [_,_,_,_,_,_,some (V.int (((hs[j]:Nat):Int) / 2))]=_;rw[show((hs[j]:Nat):Int) / 2=((hs[j] / 2:Nat):Int) from(Qk _ _).symm]
 ·subst e
  exact nx _ _ ⟨rfl,o,rfl⟩
 obtain⟨rfl,o,rfl⟩:=z;have nl:(vN hs).length=hs.length:=J1 ..;refine⟨_,rfl,_,rfl,_,rfl,hp',_,rfl,h2,fun pa HA sA hA=>?_⟩;rw[Zml] at hA;refine⟨_,rfl,J2 1 (by decide),fun pb hb=>?_⟩;have tb:=Z5 hb (.tup (vN [o]));refine⟨pa,pb,vN (hs.take j),vN [o],rfl,rfl,tb _ _ hA,Zo,by rw[J1,J1,J0];show _+1≤_;omega,fun pc HC sC hC=>?_⟩;rw[Zga] at hC;have s1:=(sA.trans tb).trans sC;refine⟨_,rfl,_,rfl,_,_,rfl,rfl,_,rfl,hp',_,rfl,s1 _ _ h2,fun pd HD sD hD=>?_⟩;rw[Zkc hs jl] at hD;refine⟨pc,pd,_,_,rfl,rfl,sD _ _ hC,hD,by rw[J1,J1,Z3,J0,Yk];show _+1+_≤_;omega,fun pe HE sE hE=>?_⟩;rw[Zga] at hE;have s2:=(s1.trans sD).trans sE;refine⟨_,rfl,_,rfl,J2 3 (by decide),fun r hr=>?_⟩;have tr:=Z5 hr (.tup [.ref pe,.int ((lead:Nat):Int),.ref tp']);have s3:=s2.trans tr;refine q r (hs.take j++[o]++hs.drop (j+1)) lead _ s3 ⟨pe,tp',Zo,tr _ _ hE,s3 _ _ h3⟩ ?_;rw[Z3,Z3,J0,Yk,List.length_singleton];omega
def Zal:Sp:=fun vs H Q _=>∃ a b:Bool,vs=[.bl a,.bl b]∧Q (.bl (a == b)) H
theorem Znm:FnScope ["_law_found","_law_due"] ["_law_found","_law_due"] (Zq Zg3):=Uy (by decide +kernel)
theorem Zle{k:Nat}(F:Fun K "_law_says" "_law_says" Zg3 f fd):FnOk P w K mg base Yr (k+1) f fd ["_law_found","_law_due"] Zal:=by
 refine F.ok Znm (fun vs H Q E h=>?_) (fun cdv A outer s H vs Q E hr h=>?_)
 ·obtain⟨a,b,rfl,_⟩:=h
  rfl
 obtain⟨a,b,rfl,q⟩:=h;refine⟨_,Zh (J5 (Yi (pv 1) (fun _=>rfl)) (Zm (Z9 (Ys Ab (pv 0) Up (Jg _)))) Jl)
  (Zm (Z9 (Ys Ab (pv 0) Up (Jg _)))),?_⟩
 refine⟨_,rfl,_,rfl,?_⟩;cases b with
 | true=>exact Ym ⟨_,rfl,a,true,rfl,rfl,q⟩
 | false=>exact Yb (Qx ⟨_,rfl,a,false,rfl,rfl,q⟩)
theorem Mb{K:W.Frag}{H:Hp}{d:Nat}(ys:List Nat):∀ j,j < (vN ys).length→DeepEq K H d ((vN ys).getD j .non) ((vN ys).getD j .non):=fun j hj=>by
 have e:(vN ys)[j]? = some ((vN ys).getD j .non):=by rw[Zp,Zf hj];rfl
 obtain⟨c,_,e2⟩:=Ni e;rw[e2];exact .flat rfl
theorem Zjx{K:W.Frag}{H:Hp}{d:Nat}{p:Addr}{hs ys:List Nat}{lead:Nat}(hp:IsPl H p hs lead ys):DeepEq K H (d+2) (.ref p) (.ref p):=by
 obtain⟨a1,a2,a3,a4,a5⟩:=hp;refine .tup (SqT.of a3) (SqT.of a3) rfl fun j hj=>?_
 match j,hj with
 | 0,_=>exact .tup (SqT.of a4) (SqT.of a4) rfl (Mb hs)
 | 1,_=>exact .flat rfl
 | 2,_=>exact .tup (SqT.of a5) (SqT.of a5) rfl (Mb ys)
theorem Zfo{K:W.Frag}{H:Hp}{l l':Addr}{as:List (Rw×Addr)}(hl:H l=some (.lst (Xr as)))(hl':H l'=some (.lst (Xr as)))(hR:RwsH H as):DeepEq K H 4 (.ref l) (.ref l'):=by
 refine .lst (SqL.of hl) (SqL.of hl') rfl fun j hj=>?_;have e:(Xr as)[j]? = some ((Xr as).getD j .non):=by rw[Zp,Zf hj];rfl
 obtain⟨r,a,hr,ea⟩:∃ r a,IsRw H r a∧(Xr as).getD j .non = .ref a:=by
  unfold Xr at e;rw[Z4] at e;obtain⟨x,hx,ex⟩:=Js.mp e;exact⟨x.1,x.2,(hR x (Zl hx)).1,ex.symm⟩
 rw[ea];obtain⟨p,h1,h2⟩:=hr;refine .tup (SqT.of h1) (SqT.of h1) rfl fun i hi=>?_
 match i,hi with
 | 0,_=>exact Zjx h2
 | 1,_=>exact .flat rfl
 | 2,_=>
  show DeepEq K H 2 (El r.cd) (El r.cd);exact .flat (by cases r.cd<;>rfl)
theorem Zp6{u:TS}{D:Ends}{σ σ':St}{H:Hp}(e:σ=σ')(h:u D σ' H):u D σ H:=e ▸ h
theorem Xq(as:List (Rw×Addr)):(Xr as).length=as.length:=Zj ..
theorem Zmu(as:List (Rw×Addr))(j:Nat):Ed (Xr as) none (some ((j:Nat):Int))=Xr (as.take j):=by
 rw[Zdt];unfold Xr;rw[List.map_take]
theorem Zcx(as:List (Rw×Addr)){j:Nat}(h:j < as.length):Ed (Xr as) (some (((j:Nat):Int)+1)) none=Xr (as.drop (j+1)):=by
 have:=Dh (Xr as) (j+1) (by rw[Xq];omega);rw[show(((j+1:Nat):Int))=((j:Nat):Int)+1 from rfl] at this;rw[this];unfold Xr;rw[List.map_drop]
def V2:Sp:=fun vs H Q _=>∃(l:Addr) (cell:Int) (as:List (Rw×Addr)),vs=[.ref l,.int cell]∧H l=some (.lst (Xr as))∧RwsH H as∧(∀ e∈as,Bd e.1)∧as.length≤100000 ∧
 ∀ l' as' H',Same H H'→H' l'=some (.lst (Xr as'))→RwsH H' as'→(∀ e∈as',Bd e.1)→as'.length≤as.length+1→Q (.ref l') H'
abbrev Zja:List Str:=["_law_rows","_law_cell_here","_law_at","_law_place_here","_law_need","_law_card","_law_way"]
theorem scChanged:FnScope Zja ["_law_rows","_law_cell_here"] (Zq Tc):=Uy (by decide +kernel)
theorem Zbo{k:Nat}{f1:Addr}{d1:FuncData}(F:Fun K "_law_changed" "_law_changed" Tc f fd)(LO:Lib P w K mg base k "_law_other_place" ["_law_place_here","_law_cell_here"] D8 f1 d1)(ml:mg "len" = none):FnOk P w K mg base Yr (k+1) f fd ["_law_rows","_law_cell_here"] V2:=by
 refine F.ok scChanged (fun vs H Q E h=>?_) (fun cdv A outer s H vs Q E hr h=>?_)
 ·obtain⟨l,cell,as,rfl,_⟩:=h
  rfl
 obtain⟨l,cell,as,rfl,hl,hR,hB,an,q⟩:=h;refine⟨_,Zh (J5 (Ji (Zh8 hr.units) (pv 0) (Xl Zg) (Jg _)) (Zm (Z9 (pv 0))) Jl)
  (Zh (Jf (i:=2) scChanged.nd rfl (Or.inl rfl) (Jd Yv (Jd Ua (pv 1) Zn) (Jr Jy rfl ml Jq (Za (pv 0) Zg))))
  (Zh (Br (Jw Uk (pv 0) (pv 2) (fun _ _=>rfl)) (No rfl (J6 (Jj (i:=3) scChanged.nd rfl (Or.inl rfl)) (J6 (Jj (i:=4) scChanged.nd rfl (Or.inl rfl)) (J6 (Jj (i:=5) scChanged.nd rfl (Or.inl rfl)) Xt)))))
  (Zh (Jf (i:=6) scChanged.nd rfl (Or.inl rfl) (Jd Yv (pv 1) Zn))
  (Zh (J5 (Ji Uq (pv 6) Zn (Jg _)) (Zm (Z9 (Jd Tu (X9 N7 (pv 0) Ei (U4 (pv 2))) (X9 N7 (pv 0) (U4 (Jd Y1 (pv 2) Zn)) Ei)))) Jl)
  (Zh (J5 (Ji Uq (pv 6) Zn (Jg _)) (Zm (Z9 (Jd Tu (pv 0) (Xl (Za (Jw Uk (pv 0) (pv 2) (fun _ _=>rfl)) Zg))))) Jl)
  (Zh (J5 (Ji Uq (pv 6) Zn (Jg _)) (Zm (Z9 (Zn6 (pv 0) (U4 (Zqm Zm8 Zn))))) Jl)
  (Zh (J5 (Ji Uq (pv 6) Zn (Jg _)) (Zm (Jf (i:=4) scChanged.nd rfl (Or.inl rfl) (Jd Nr (pv 4) Zn))) Jl)
  (Zh (J5 (Ji Uq (pv 6) Zn (Jg _)) (Zm (Jf (i:=5) scChanged.nd rfl (Or.inl rfl) Q9)) Jl)
  (Zh (J5 (Ji Uq (pv 6) Zn (Jg _)) (Zm (Jf (i:=5) scChanged.nd rfl (Or.inl rfl) (Jd Yv (Jd Ua (pv 1) Zn) Zn))) Jl)
  (Zh (J5 (Ji Uq (pv 6) Zn (Jg _)) (Zm (Jf (i:=3) scChanged.nd rfl (Or.inl rfl) (Z1 LO.ok hr rfl LO.mg LO.kp LO.bd .nil Ja (Za (pv 3) (Za (Jd Ua (pv 1) Zn) Zg))))) Jl)
  (Zh (J5 (Ji Uq (pv 6) Zn (Jg _)) (Zm (Jf (i:=4) scChanged.nd rfl (Or.inl rfl) (Jd Yv (Jd Ua (pv 1) Zn) Zn))) Jl)
  (Zh (J5 (Ji Uq (pv 6) Zn (Jg _)) (Zm (Jf (i:=4) scChanged.nd rfl (Or.inl rfl) (Jd Y1 (pv 4) Zn))) Jl)
  (Zm (Z9 (Jd Tu (Jd Tu (X9 N7 (pv 0) Ei (U4 (pv 2))) (Xl (Za (Um (Za (pv 3) (Za (pv 4) (Za (pv 5) Zg)))) Zg))) (X9 N7 (pv 0) (U4 (Jd Y1 (pv 2) Zn)) Ei)))))))))))))))),?_⟩
 have big:1000000≤sizeLine:=by rw[sizeLine_eq];decide
 refine X0 (fun b H'=>Same H H'∧b=(Xr as).isEmpty) (fun σ H'=>Same H H'∧as≠[]∧σ=[some (.ref l),some (.int cell),none,none,none,none,none]) (fun R hR=>⟨_,rfl,J2 0 (by decide),fun l0 hl0=>⟨l,l0,_,rfl,rfl,SqL.of (Z5 hl0 _ _ _ hl),SqL.of Zo,_,rfl,hR _ _ ⟨Z5 hl0 _,rfl⟩⟩⟩) (fun H' z D' er nx=>?_) (fun H' z D' er nx=>?_) (fun σ H1 z=>?_)
 ·obtain⟨s1,_⟩:=z
  refine⟨_,rfl,?_⟩;show D'.rt _ _;rw[er];exact q l as _ s1 (s1 _ _ hl) (hR.same s1) hB (by omega)
 ·obtain⟨s1,e⟩:=z
  refine nx _ _ ⟨s1,fun z=>?_,rfl⟩;rw[z] at e;cases e
 obtain⟨s1,ne,rfl⟩:=z;have a0:0 < as.length:=List.length_pos_iff.mpr ne;have hl1:=s1 _ _ hl;obtain⟨j,jl,ej⟩:=Be (z:=cell / 9) (n:=as.length) a0;have hj:(Xr as)[j]? = some (.ref as[j].2):=by
  unfold Xr;rw[Z4,Zf jl];rfl
 have lp:(0:Int) < (((Xr as).length:Nat):Int):=by rw[Xq];omega
 refine U3 (fun v H'=>H1=H'∧v = .int ((j:Nat):Int)) (fun R hR=>⟨_,rfl,_,_,rfl,rfl,⟨by decide,by decide⟩,_,rfl,l,_,rfl,.inl (SqL.of hl1),_,_,rfl,rfl,lp,hR _ _ ⟨rfl,by rw[Xq];exact congrArg V.int ej⟩⟩) (fun v H' z=>?_);obtain⟨rfl,rfl⟩:=z;have mj:as[j]∈as:=Yl jl;obtain⟨p0,h1,h2⟩:=(hR.same s1 _ mj).1;refine⟨_,rfl,_,rfl,l,_,_,_,rfl,rfl,SqL.of hl1,Xv hj,as[j].2,_,rfl,SqT.of h1,rfl,_,_,rfl,_,_,rfl,_,_,rfl,rfl,Qx ?_⟩;refine U3 (fun v H'=>H1=H'∧v = .int (cell % 9)) (fun R hR=>⟨_,rfl,_,_,rfl,rfl,(show(0:Int) < 9 by decide),hR _ _ ⟨rfl,rfl⟩⟩) (fun v H' z=>?_);obtain⟨rfl,rfl⟩:=z;have st:Same H H1∧∃(p1:Addr) (r:Rw),[some (V.ref l),some (V.int cell),some (V.int ((j:Nat):Int)),some (V.ref p0),some (V.int as[j].1.nd),some (El as[j].1.cd),some (V.int (cell % 9))]=[some (.ref l),some (.int cell),some (.int ((j:Nat):Int)),some (.ref p1),some (.int r.nd),some (El r.cd),some (.int (cell % 9))]∧IsPl H1 p1 r.hs r.lead r.ys∧r.Fm∧Bd r:=⟨s1,p0,as[j].1,rfl,h2,(hR _ mj).2,hB _ mj⟩;obtain⟨s1,p1,r,es,hp1,fm,bd⟩:=st;refine Zp6 es ?_
 clear es h1 h2
 refine X0 (fun b H'=>H1=H') (fun σ H'=>Same H H'∧∃(p1:Addr) (r:Rw),σ=[some (.ref l),some (.int cell),some (.int ((j:Nat):Int)),some (.ref p1),some (.int r.nd),some (El r.cd),some (.int (cell % 9))]∧IsPl H' p1 r.hs r.lead r.ys∧r.Fm∧Bd r) (fun R hR=>⟨_,rfl,rfl,_,rfl,hR _ _ rfl⟩) (fun H' e D' er nx=>?_) (fun H' e D' er nx=>?_) (fun σ H1 z=>?_)
 ·subst e
  refine⟨_,rfl,_,rfl,_,rfl,l,_,rfl,SqL.of hl1,fun la hla=>?_⟩;rw[Zmu];have va:=Z5 hla (.lst (Xr (as.take j)));refine⟨_,rfl,_,rfl,_,_,rfl,rfl,_,rfl,l,_,rfl,SqL.of (va _ _ hl1),fun lb hlb=>?_⟩;rw[Zcx as jl];have vb:=Z5 hlb (.lst (Xr (as.drop (j+1))));refine⟨la,lb,_,_,rfl,rfl,vb _ _ Zo,Zo,by rw[Xq,Xq,J0,Yk];omega,fun lc hlc=>?_⟩;rw[Gf];have vc:=Z5 hlc (.lst (Xr (as.take j++as.drop (j+1))));have sA:=((s1.trans va).trans vb).trans vc;show D'.rt _ _;rw[er];refine q lc (as.take j++as.drop (j+1)) _ sA Zo (fun e he=>?_) (fun e he=>?_) (by rw[Z3,J0,Yk];omega)
  ·exact(hR.same sA) e ((Jm.mp he).elim List.mem_of_mem_take List.mem_of_mem_drop)
  ·exact hB e ((Jm.mp he).elim List.mem_of_mem_take List.mem_of_mem_drop)
 ·subst e
  exact nx _ _ ⟨s1,p1,r,rfl,hp1,fm,bd⟩
 obtain⟨s1,p1,r,rfl,hp1,fm,bd⟩:=z;have hl1:=s1 _ _ hl;refine X0 (fun b H'=>H1=H') (fun σ H'=>Same H H'∧∃(p1:Addr) (r:Rw),σ=[some (.ref l),some (.int cell),some (.int ((j:Nat):Int)),some (.ref p1),some (.int r.nd),some (El r.cd),some (.int (cell % 9))]∧IsPl H' p1 r.hs r.lead r.ys∧r.Fm∧Bd r) (fun R hR=>⟨_,rfl,rfl,_,rfl,hR _ _ rfl⟩) (fun H' e D' er nx=>?_) (fun H' e D' er nx=>?_) (fun σ H1 z=>?_)
 ·subst e
  refine⟨_,rfl,_,rfl,_,rfl,l,_,_,_,rfl,rfl,SqL.of hl1,Xv hj,J2 1 (by decide),fun la hla=>?_⟩;have va:=Z5 hla (.lst (Xr [as[j]]));refine⟨l,la,_,Xr [as[j]],rfl,rfl,va _ _ hl1,Zo,by rw[Xq,Xq];show _+1≤_;omega,fun lc hlc=>?_⟩;rw[Gf];have vc:=Z5 hlc (.lst (Xr (as++[as[j]])));have sA:=(s1.trans va).trans vc;show D'.rt _ _;rw[er];have inn:∀ e∈as++[as[j]],e∈as:=fun e he=>(Jm.mp he).elim id fun z=>by rw[Jb.mp z];exact Yl jl
  exact q lc (as++[as[j]]) _ sA Zo (fun e he=>(hR.same sA) e (inn e he)) (fun e he=>hB e (inn e he)) (by rw[Z3];exact Zs _)
 ·subst e
  exact nx _ _ ⟨s1,p1,r,rfl,hp1,fm,bd⟩
 obtain⟨s1,p1,r,rfl,hp1,fm,bd⟩:=z;have hl1:=s1 _ _ hl;refine X0 (fun b H'=>H1=H') (fun σ H'=>Same H H'∧∃(p1:Addr) (r:Rw),σ=[some (.ref l),some (.int cell),some (.int ((j:Nat):Int)),some (.ref p1),some (.int r.nd),some (El r.cd),some (.int (cell % 9))]∧IsPl H' p1 r.hs r.lead r.ys∧r.Fm∧Bd r) (fun R hR=>⟨_,rfl,rfl,_,rfl,hR _ _ rfl⟩) (fun H' e D' er nx=>?_) (fun H' e D' er nx=>?_) (fun σ H1 z=>?_)
 ·subst e
  refine⟨_,rfl,_,rfl,_,rfl,rfl,l,_,rfl,SqL.of hl1,fun la hla=>?_⟩;have eR:(Xr as).reverse=Xr as.reverse:=by
   unfold Xr;rw[List.map_reverse]
  rw[eR];have va:=Z5 hla (.lst (Xr as.reverse));have sA:=s1.trans va;show D'.rt _ _;rw[er];exact q la as.reverse _ sA Zo (fun e he=>(hR.same sA) e (List.mem_reverse.mp he)) (fun e he=>hB e (List.mem_reverse.mp he)) (by rw[List.length_reverse];omega)
 ·subst e
  exact nx _ _ ⟨s1,p1,r,rfl,hp1,fm,bd⟩
 obtain⟨s1,p1,r,rfl,hp1,fm,bd⟩:=z;have hl1:=s1 _ _ hl;refine X0 (fun b H'=>H1=H') (fun σ H'=>Same H H'∧∃(p1:Addr) (r:Rw),σ=[some (.ref l),some (.int cell),some (.int ((j:Nat):Int)),some (.ref p1),some (.int r.nd),some (El r.cd),some (.int (cell % 9))]∧IsPl H' p1 r.hs r.lead r.ys∧r.Fm∧Bd r) (fun R hR=>⟨_,rfl,rfl,_,rfl,hR _ _ rfl⟩) (fun H' e D' er nx=>?_) (fun H' e D' er nx=>?_) (fun σ H1 z=>?_)
 ·subst e
  exact⟨_,rfl,_,_,rfl,rfl,nx _ _ ⟨s1,p1,⟨r.hs,r.lead,r.ys,_,r.cd⟩,rfl,hp1,⟨fm.1,fm.2⟩,bd⟩⟩
 ·subst e
  exact nx _ _ ⟨s1,p1,r,rfl,hp1,fm,bd⟩
 obtain⟨s1,p1,r,rfl,hp1,fm,bd⟩:=z;have hl1:=s1 _ _ hl;refine X0 (fun b H'=>H1=H') (fun σ H'=>Same H H'∧∃(p1:Addr) (r:Rw),σ=[some (.ref l),some (.int cell),some (.int ((j:Nat):Int)),some (.ref p1),some (.int r.nd),some (El r.cd),some (.int (cell % 9))]∧IsPl H' p1 r.hs r.lead r.ys∧r.Fm∧Bd r) (fun R hR=>⟨_,rfl,rfl,_,rfl,hR _ _ rfl⟩) (fun H' e D' er nx=>?_) (fun H' e D' er nx=>?_) (fun σ H1 z=>?_)
 ·subst e
  exact nx _ _ ⟨s1,p1,⟨r.hs,r.lead,r.ys,r.nd,none⟩,rfl,hp1,⟨fm.1,fm.2⟩,bd⟩
 ·subst e
  exact nx _ _ ⟨s1,p1,r,rfl,hp1,fm,bd⟩
 obtain⟨s1,p1,r,rfl,hp1,fm,bd⟩:=z;have hl1:=s1 _ _ hl;refine X0 (fun b H'=>H1=H') (fun σ H'=>Same H H'∧∃(p1:Addr) (r:Rw),σ=[some (.ref l),some (.int cell),some (.int ((j:Nat):Int)),some (.ref p1),some (.int r.nd),some (El r.cd),some (.int (cell % 9))]∧IsPl H' p1 r.hs r.lead r.ys∧r.Fm∧Bd r) (fun R hR=>⟨_,rfl,rfl,_,rfl,hR _ _ rfl⟩) (fun H' e D' er nx=>?_) (fun H' e D' er nx=>?_) (fun σ H1 z=>?_)
 ·subst e
  exact⟨_,rfl,_,_,rfl,rfl,⟨by decide,by decide⟩,_,_,rfl,rfl,(show(0:Int) < 32 by decide),nx _ _ ⟨s1,p1,⟨r.hs,r.lead,r.ys,r.nd,some _⟩,rfl,hp1,⟨fm.1,fm.2⟩,bd⟩⟩
 ·subst e
  exact nx _ _ ⟨s1,p1,r,rfl,hp1,fm,bd⟩
 obtain⟨s1,p1,r,rfl,hp1,fm,bd⟩:=z;have hl1:=s1 _ _ hl;refine X0 (fun b H'=>H1=H') (fun σ H'=>Same H H'∧∃(p1:Addr) (r:Rw),σ=[some (.ref l),some (.int cell),some (.int ((j:Nat):Int)),some (.ref p1),some (.int r.nd),some (El r.cd),some (.int (cell % 9))]∧IsPl H' p1 r.hs r.lead r.ys∧r.Fm∧Bd r) (fun R hR=>⟨_,rfl,rfl,_,rfl,hR _ _ rfl⟩) (fun H' e D' er nx=>?_) (fun H' e D' er nx=>?_) (fun σ H1 z=>?_)
 ·subst e
  exact⟨_,rfl,_,rfl,_,_,rfl,rfl,⟨by decide,by decide⟩,p1,_,r.hs,r.lead,r.ys,rfl,hp1,bd.1,fm.1,fun p2 hs2 lead2 H2 s2 hp2 el=>nx _ _ ⟨s1.trans s2,p2,⟨hs2,lead2,r.ys,r.nd,r.cd⟩,rfl,hp2,⟨by rw[el];exact fm.1,fm.2⟩,⟨by rw[el];exact bd.1,bd.2⟩⟩⟩
 ·subst e
  exact nx _ _ ⟨s1,p1,r,rfl,hp1,fm,bd⟩
 obtain⟨s1,p1,r,rfl,hp1,fm,bd⟩:=z;have hl1:=s1 _ _ hl;refine X0 (fun b H'=>H1=H') (fun σ H'=>Same H H'∧∃(p1:Addr) (r:Rw),σ=[some (.ref l),some (.int cell),some (.int ((j:Nat):Int)),some (.ref p1),some (.int r.nd),some (El r.cd),some (.int (cell % 9))]∧IsPl H' p1 r.hs r.lead r.ys∧r.Fm∧Bd r) (fun R hR=>⟨_,rfl,rfl,_,rfl,hR _ _ rfl⟩) (fun H' e D' er nx=>?_) (fun H' e D' er nx=>?_) (fun σ H1 z=>?_)
 ·subst e
  exact⟨_,rfl,_,_,rfl,rfl,⟨by decide,by decide⟩,_,_,rfl,rfl,(show(0:Int) < 5 by decide),nx _ _ ⟨s1,p1,⟨r.hs,r.lead,r.ys,_,r.cd⟩,rfl,hp1,⟨fm.1,fm.2⟩,bd⟩⟩
 ·subst e
  exact nx _ _ ⟨s1,p1,r,rfl,hp1,fm,bd⟩
 obtain⟨s1,p1,r,rfl,hp1,fm,bd⟩:=z;have hl1:=s1 _ _ hl;refine X0 (fun b H'=>H1=H') (fun σ H'=>Same H H'∧∃(p1:Addr) (r:Rw),σ=[some (.ref l),some (.int cell),some (.int ((j:Nat):Int)),some (.ref p1),some (.int r.nd),some (El r.cd),some (.int (cell % 9))]∧IsPl H' p1 r.hs r.lead r.ys∧r.Fm∧Bd r) (fun R hR=>⟨_,rfl,rfl,_,rfl,hR _ _ rfl⟩) (fun H' e D' er nx=>?_) (fun H' e D' er nx=>?_) (fun σ H1 z=>?_)
 ·subst e
  exact⟨_,rfl,_,_,rfl,rfl,nx _ _ ⟨s1,p1,⟨r.hs,r.lead,r.ys,_,r.cd⟩,rfl,hp1,⟨fm.1,fm.2⟩,bd⟩⟩
 ·subst e
  exact nx _ _ ⟨s1,p1,r,rfl,hp1,fm,bd⟩
 obtain⟨s1,p1,r,rfl,hp1,fm,bd⟩:=z;have hl1:=s1 _ _ hl;refine⟨_,rfl,_,rfl,_,rfl,l,_,rfl,SqL.of hl1,fun la hla=>?_⟩;rw[Zmu];have va:=Z5 hla (.lst (Xr (as.take j)));refine⟨_,rfl,_,rfl,_,rfl,J2 3 (by decide),fun ra hra=>⟨J2 1 (by decide),fun lb hlb=>?_⟩⟩;have vr:=Z5 hra (.tup [.ref p1,.int r.nd,El r.cd]);have vb:=Z5 hlb (.lst (Xr [(r,ra)]));refine⟨la,lb,_,Xr [(r,ra)],rfl,rfl,(vr.trans vb) _ _ Zo,Zo,by rw[Xq,Xq,J0];show _+1≤_;omega,fun lc hlc=>?_⟩;rw[Gf];have vc:=Z5 hlc (.lst (Xr (as.take j++[(r,ra)])));have s2:=((va.trans vr).trans vb).trans vc;refine⟨_,rfl,_,rfl,_,_,rfl,rfl,_,rfl,l,_,rfl,SqL.of (s2 _ _ hl1),fun ld hld=>?_⟩;rw[Zcx as jl];have vd:=Z5 hld (.lst (Xr (as.drop (j+1))));refine⟨lc,ld,_,_,rfl,rfl,vd _ _ Zo,Zo,by rw[Xq,Xq,Z3,J0,Yk];show _+1+_≤_;omega,fun le hle=>?_⟩;rw[Gf];have ve:=Z5 hle (.lst (Xr (as.take j++[(r,ra)]++as.drop (j+1))));have s3:=(s2.trans vd).trans ve;have sA:=s1.trans s3;refine q le (as.take j++[(r,ra)]++as.drop (j+1)) _ sA Zo (fun e he=>?_) (fun e he=>?_) (by rw[Z3,Z3,J0,Yk];show _+1+_≤_;omega)
 ·rcases Jm.mp he with z | z
  ·rcases Jm.mp z with z | z
   ·exact(hR.same sA) e (List.mem_of_mem_take z)
   ·cases Jb.mp z
    exact⟨⟨p1,(((vb.trans vc).trans vd).trans ve) _ _ Zo,hp1.same s3⟩,fm⟩
  ·exact(hR.same sA) e (List.mem_of_mem_drop z)
 ·rcases Jm.mp he with z | z
  ·rcases Jm.mp z with z | z
   ·exact hB e (List.mem_of_mem_take z)
   ·cases Jb.mp z
    exact bd
  ·exact hB e (List.mem_of_mem_drop z)
abbrev Zhb:Stmt:=top 84
abbrev Zba:Stmt:=top 85
abbrev Ov:Stmt:=top 86
noncomputable def allR (fx:Fx) (t:Option Nat) (side:Nat) (rs:List Rw):Bool:=rs.all fun r=>plB fx r && rtB fx t side (Nf rs) r
abbrev Kx:List Str:=["_law_game_here","_law_side_here","_law_rows"]
theorem scAllR:FnScope ["_law_game_here","_law_side_here","_law_rows","_law_row"] Kx (Zq Zhb):=Uy (by decide +kernel)
def Zaq(CT CG:Addr):Sp:=fun vs H Q _=>∃(gm x l:Addr) (t:Option Nat) (fx:Fx) (side:Nat) (as:List (Rw×Addr)),vs=[.ref gm,.int (side:Nat),.ref l]∧GamH CT CG fx t H gm x∧Mp t∧H l=some (.lst (Xr as))∧RwsH H as∧(∀ e∈as,Bd e.1)∧∀ H',Same H H'→Q (.bl (allR fx t side (as.map (·.1)))) H'
theorem Zlq{k:Nat}{CT CG f1:Addr}{d1:FuncData}(F:Fun K "_law_all_right" "_law_all_right" Zhb f fd)(LR:Lib P w K mg base k "_law_right" Vi (Gv CT CG OkX) f1 d1):FnOk P w K mg base Yr (k+1) f fd Kx (Zaq CT CG):=by
 refine F.ok scAllR (fun vs H Q E h=>?_) (fun cdv A outer s H vs Q E hr h=>?_)
 ·obtain⟨gm,x,l,t,fx,side,as,rfl,_⟩:=h
  rfl
 obtain⟨gm,x,l,t,fx,side,as,rfl,G,tb,hl,hR,hB,q⟩:=h;refine⟨_,Zh (Uv PassesOwn.never rfl (Y6 (pv 2)) (Jj (i:=3) scAllR.nd rfl (Or.inl rfl))
   (Zm (J5 (X7 (Yi (Z1 LR.ok hr rfl LR.mg LR.kp LR.bd .nil Ja (Za (pv 0) (Za (pv 1) (Za (pv 2) (Za (pv 3) Zg))))) (fun _=>rfl))) (Zm (Z9 Up)) Jl)))
  (Zm (Z9 Up)),?_⟩
 refine⟨_,rfl,l,rfl,⟨_,SqL.of hl⟩,Xd (xs:=Xr as) (fun i σ H2=>Same H H2∧((as.map (·.1)).take i).all (fun r=>plB fx r && rtB fx t side (Nf (as.map (·.1))) r)=true∧∃ z,σ=[some (.ref gm),some (.int (side:Nat)),some (.ref l),z]) ⟨Same.refl H,rfl,none,rfl⟩ (fun i σ H2 _ z=>SqL.of (z.1 _ _ hl)) (fun i v σ H2 hv z=>?_) (fun σ H2 z=>?_)⟩
 ·obtain⟨s2,al,z0,rfl⟩:=z
  obtain⟨⟨r,a⟩,hi,rfl⟩:∃ e,as[i]? = some e∧v = .ref e.2:=by
   unfold Xr at hv;rw[Z4] at hv;obtain⟨e,he,rfl⟩:=Js.mp hv;exact⟨e,he,rfl⟩
  have me:=Zl hi;obtain⟨hr1,fm⟩:=(hR.same s2) _ me;have tk:(as.map (·.1)).take (i+1)=(as.map (·.1)).take i++[r]:=by
   rw[U0,Z4,hi];rfl
  refine⟨_,rfl,_,rfl,_,rfl,_,rfl,gm,x,l,a,t,fx,side,as,r,plB fx r,rfl,G.same s2,tb,s2 _ _ hl,hR.same s2,hr1,okX fm (hB _ me),fun H3 s3=>⟨_,rfl,?_⟩⟩;cases c:plB fx r && rtB fx t side (Nf (as.map (·.1))) r with
  | false=>
   refine Ym ?_;have z:=q H3 (s2.trans s3);have nf:allR fx t side (as.map (·.1))=false:=List.all_eq_false.mpr ⟨r,Zv.mpr ⟨_,me,rfl⟩,by rw[c];exact Zr⟩;rw[nf] at z;exact z
  | true=>
   refine Yb ⟨s2.trans s3,?_,_,rfl⟩;rw[tk,List.all_append,al,Bool.true_and,List.all_cons,c];rfl
 ·obtain⟨s2,al,z0,rfl⟩:=z
  rw[Xq,List.take_of_length_le (by rw[Zj];exact Zs _)] at al;have z:=q H2 s2;rw[show allR fx t side (as.map (·.1))=true from al] at z;exact z
abbrev Tq:List Str:=["_law_game_here","_law_side_here","_law_rows","_law_place_here","_law_need"]
abbrev Zoy:List Str:=["_law_game_here","_law_side_here","_law_rows","_law_place_here","_law_need","_law_good","_law_places","_law_card","_law_other","_law_more","_law_handed","_law_due"]
theorem scAsked:FnScope Zoy Tq (Zq Zba):=Uy (by decide +kernel)
def Of(CT CG:Addr):Sp:=fun vs H Q _=>∃(gm x l p:Addr) (t:Option Nat) (fx:Fx) (side:Nat) (as:List (Rw×Addr)) (hs:List Nat) (lead:Nat) (ys:List Nat) (m:Nat) (need:Int),vs=[.ref gm,.int (side:Nat),.ref l,.ref p,.int need]∧GamH CT CG fx t H gm x∧Mp t∧H l=some (.lst (Xr as))∧RwsH H as∧(∀ e∈as,Bd e.1)∧as.length≤200000∧IsPl H p hs lead ys∧Plc fx hs lead ys m∧∀ H',Same H H'→Q (.bl true) H'
def Zm5(H:Hp)(a:Addr):Prop:=∃ hs lead ys,IsPl H a hs lead ys
theorem Ziy{k:Nat}{CT CG f1 f2 f3 f4 f5 f6:Addr}{d1 d2 d3 d4 d5 d6:FuncData}(F:Fun K "_law_asked" "_law_asked" Zba f fd)(LA:Lib P w K mg base k "_law_all_right" Kx (Zaq CT CG) f1 d1)(LM:Lib P w K mg base k "moves" ["game","place"] (Ql CT CG) f2 d2)(LB:Lib P w K mg base k "behind" ["game","place","card"] (Xo K CT CG) f3 d3)
  (LT:Lib P w K mg base k "_law_has" Mz Oc f4 d4) (LH:Lib P w K mg base k "holds" ["game","side","paper","place","need"] (R8 P w CT CG OkX) f5 d5) (LS:Lib P w K mg base k "_law_says" ["_law_found","_law_due"] Zal f6 d6) (mLi:mg "list" = none):FnOk P w K mg base Yr (k+1) f fd Tq (Of CT CG):=by
 refine F.ok scAsked (fun vs H Q E h=>?_) (fun cdv A outer s H vs Q E hr h=>?_)
 ·obtain⟨gm,x,l,p,t,fx,side,as,hs,lead,ys,m,need,rfl,_⟩:=h
  rfl
 obtain⟨gm,x,l,p,t,fx,side,as,hs,lead,ys,m,need,rfl,G,tb,hl,hR,hB,an,hp,Pl,q⟩:=h;refine⟨_,Zh (Jf (i:=5) scAsked.nd rfl (Or.inl rfl) (Z1 LA.ok hr rfl LA.mg LA.kp LA.bd .nil Ja (Za (pv 0) (Za (pv 1) (Za (pv 2) Zg)))))
  (Zh (Jf (i:=6) scAsked.nd rfl (Or.inl rfl) (Xl (Za (pv 3) Zg)))
  (Zh (Uv PassesOwn.never rfl (Y6 (X9 N7 (Z1 LM.ok hr rfl LM.mg LM.kp LM.bd .nil Ja (Za (pv 0) (Za (pv 3) Zg))) Ei (U4 Zn))) (Jj (i:=7) scAsked.nd rfl (Or.inl rfl))
   (Zm (X8 (Ej Yd Ux Uw Et (pv 6) (Za (Jw Jz (Z1 LB.ok hr rfl LB.mg LB.kp LB.bd .nil Ja (Za (pv 0) (Za (pv 3) (Za (pv 7) Zg)))) Zn (fun _ _=>rfl)) Zg)))))
  (Zh (Uv PassesOwn.never rfl (Y6 (pv 6)) (Jj (i:=8) scAsked.nd rfl (Or.inl rfl))
   (Zm (Uv PassesOwn.never rfl (Y6 (Xl (Za (Jd Y1 (pv 4) Zn) (Za (pv 4) (Za (Jd Nr (Jd Ua (pv 4) Zn) Zn) Zg))))) (Jj (i:=9) scAsked.nd rfl (Or.inl rfl))
    (Zh (Jf (i:=10) scAsked.nd rfl (Or.inl rfl) (Yy Qd rfl mLi Y4 (Za (pv 2) Zg)))
    (Zh (Jf (i:=11) scAsked.nd rfl (Or.inl rfl) (Xz (pv 5) (U8 (Kq (Ys M1 (pv 9) Zn (Jg _)) (U8 (Z1 LT.ok hr rfl LT.mg LT.kp LT.bd .nil Ja (Za (pv 2) (Za (pv 8) (Za (pv 9) Zg)))))))))
    (Zm (J5 (PW.pt (Qu (X7 (Yi (Z1 LS.ok hr rfl LS.mg LS.kp LS.bd .nil Ja (Za (Z1 LH.ok hr rfl LH.mg LH.kp LH.bd .nil Ja (Za (pv 0) (Za (pv 1) (Za (pv 10) (Za (pv 8) (Za (pv 9) Zg)))))) (Za (pv 11) Zg))) (fun _=>rfl))) (Qf (Ji (Zoe (d:=4) (by decide) hr.units) (pv 10) (pv 2) (Jg _))))) (Zm (Z9 Up)) Jl)))))))
  (Zm (Z9 Up))))),?_⟩
 have ok:=G.ok;have big:1000000≤sizeLine:=by rw[sizeLine_eq];decide
 obtain⟨gd,egd⟩:∃ gd,gd=allR fx t side (as.map (·.1)):=⟨_,rfl⟩;refine U3 (fun v H1=>Same H H1∧v = .bl gd) (fun R hR'=>⟨_,rfl,_,rfl,_,rfl,gm,x,l,t,fx,side,as,rfl,G,tb,hl,hR,hB,fun H1 s1=>hR' _ _ ⟨s1,by rw[egd]⟩⟩) (fun v H1 z=>?_);obtain⟨s1,rfl⟩:=z;refine U3 (fun v H2=>Same H1 H2∧∃ lq,v = .ref lq∧H1 lq=none∧H2 lq=some (.lst [.ref p])) (fun R hR'=>⟨_,rfl,J2 1 (by decide),fun lq hlq=>hR' _ _ ⟨Z5 hlq _,lq,rfl,hlq,Zo⟩⟩) (fun v H2 z=>?_);obtain⟨s2,lq,rfl,nlq,hq2⟩:=z;have s02:=s1.trans s2;refine Ol (fun σ H'=>Same H1 H'∧∃(qs:List Addr) (x7:Option V),σ=[some (.ref gm),some (.int (side:Nat)),some (.ref l),some (.ref p),some (.int need),some (.bl gd),some (.ref lq),x7,none,none,none,none]∧H' lq=some (.lst (qs.map V.ref))∧∀ a∈qs,Zm5 H' a) (fun D' er nx=>?_) (fun σ H3 z=>?_)
 ·refine⟨_,rfl,_,rfl,gm,x,p,t,fx,hs,ys,lead,m,rfl,G.same s02,tb,hp.same s02,Pl,fun lm H3 s3 nlm hm3=>?_⟩
  refine⟨_,rfl,lm,_,rfl,SqL.of hm3,fun ls hls=>?_⟩;have eC:Ed (vN (moveL fx t hs lead ys m)) none (some 1)=vN ((moveL fx t hs lead ys m).take 1):=Zml _ 1;rw[eC];have v4:=Z5 hls (.lst (vN ((moveL fx t hs lead ys m).take 1)));have s14:=(s2.trans s3).trans v4;have hq4:=(s3.trans v4) _ _ hq2;have nls:ls≠lq:=fun z=>by
   have:=s3 _ _ hq2;rw[← z,hls] at this;cases this
  obtain⟨h,eh,epc⟩:=Pl.turn ok;have h32:=Pl.h32 ok (Zl eh);have eg:hs.getD ((lead+ys.length) % fx.n) 0=h:=by rw[Zp,eh];rfl
  have inM:∀ c∈moveL fx t hs lead ys m,h.testBit c=true:=fun c hc=>by
   unfold My.moveL at hc;split at hc
   ·cases hc
   ·rw[eg] at hc
    exact(Qa h32 hc).1
  refine⟨ls,rfl,⟨_,SqL.of Zo⟩,Xd (xs:=vN ((moveL fx t hs lead ys m).take 1)) (fun i σ H'=>(Same H1 H'∧H' ls=some (.lst (vN ((moveL fx t hs lead ys m).take 1))))∧∃(qs:List Addr) (x7:Option V),σ=[some (.ref gm),some (.int (side:Nat)),some (.ref l),some (.ref p),some (.int need),some (.bl gd),some (.ref lq),x7,none,none,none,none]∧H' lq=some (.lst (qs.map V.ref))∧(∀ a∈qs,Zm5 H' a)∧qs.length=1+i) ⟨⟨s14,Zo⟩,[p],none,rfl,hq4,fun a ha=>?_,rfl⟩ (fun i σ H' _ z=>SqL.of z.1.2) (fun i v σ H5 hv z=>?_) (fun σ H5 z=>?_)⟩
  ·cases Jb.mp ha
   exact⟨hs,lead,ys,hp.same (s1.trans s14)⟩
  ·obtain⟨⟨s5,hs5⟩,qs,x7,rfl,hq5,hA5,ql⟩:=z
   obtain⟨c,hi,rfl⟩:=Ni hv;have il:i < 1:=by
    have:=(Zx.mp hi).1;rw[J0] at this;omega
   have hb:=inM c (List.mem_of_mem_take (Zl hi));have s05:=s1.trans s5;refine⟨_,rfl,.inl ⟨rfl,_,SqL.of hq5⟩,_,rfl,_,rfl,_,rfl,gm,x,p,t,fx,hs,ys,lead,m,h,c,rfl,G.same s05,hp.same s05,Pl,eh,hb,fun r p' hs' lead' ys' tk H6 s6 N hr6 hp6=>?_⟩;have hq6:=s6 _ _ hq5;refine⟨r,_,_,_,rfl,rfl,SqT.of hr6,(rfl:X6 [V.ref p',Au tk] 0=some (V.ref p')),lq,_,_,rfl,rfl,hq6,by rw[Zj,ql];omega,?_⟩;have eQ:qs.map V.ref++[V.ref p']=(qs++[p']).map V.ref:=by rw[Jp];rfl
   rw[eQ];have tt:=Zk0 hq6 (.lst ((qs++[p']).map V.ref));refine⟨⟨fun b o hb'=>?_,?_⟩,qs++[p'],_,rfl,Zo,fun a ha=>?_,by rw[Z3,ql];rfl⟩
   ·rw[Jh (J4 hb' nlq)]
    exact(s5.trans s6) _ _ hb'
   ·rw[Jh nls]
    exact s6 _ _ hs5
   ·rcases Jm.mp ha with z | z
    ·obtain⟨h1,h2,h3,h4⟩:=hA5 a z
     exact⟨h1,h2,h3,(h4.same s6).keep tt⟩
    ·cases Jb.mp z
     exact⟨hs',lead',ys',hp6.keep tt⟩
  ·obtain⟨⟨s5,hs5⟩,qs,x7,rfl,hq5,hA5,ql⟩:=z
   exact nx _ _ ⟨s5,qs,x7,rfl,hq5,hA5⟩
 obtain⟨s3,qs,x7,rfl,hq3,hA3⟩:=z;have s03:=s1.trans s3;refine⟨_,rfl,lq,rfl,⟨_,SqL.of hq3⟩,Xd (xs:=qs.map V.ref) (fun i σ H'=>Same H3 H'∧∃ x8 x9 x10 x11:Option V,σ=[some (.ref gm),some (.int (side:Nat)),some (.ref l),some (.ref p),some (.int need),some (.bl gd),some (.ref lq),x7,x8,x9,x10,x11]) ⟨Same.refl _,none,none,none,none,rfl⟩ (fun i σ H' _ z=>SqL.of (z.1 _ _ hq3)) (fun i v σ H4 hv z=>?_) (fun σ H4 z=>?_)⟩
 ·obtain⟨s4,x8,x9,x10,x11,rfl⟩:=z
  obtain⟨o,ho,rfl⟩:=Zv.mp (Zl hv);obtain⟨hso,ldo,yso,hpo3⟩:=hA3 o ho;have hpo:=hpo3.same s4;have s04:=s03.trans s4;refine⟨_,rfl,_,_,rfl,rfl,_,rfl,_,rfl,_,_,rfl,rfl,⟨by decide,by decide⟩,_,_,rfl,rfl,J2 3 (by decide),fun ln hln=>?_⟩;have v5:=Z5 hln (.lst ([need+1,need,need / 2 - 1].map V.int));refine⟨ln,rfl,⟨_,SqL.of Zo⟩,Xd (xs:=[need+1,need,need / 2 - 1].map V.int) (fun j σ H'=>(Same H4 H'∧H' ln=some (.lst ([need+1,need,need / 2 - 1].map V.int)))∧∃ x9 x10 x11:Option V,σ=[some (.ref gm),some (.int (side:Nat)),some (.ref l),some (.ref p),some (.int need),some (.bl gd),some (.ref lq),x7,some (.ref o),x9,x10,x11]) ⟨⟨v5,Zo⟩,x9,x10,x11,rfl⟩ (fun j σ H' _ z=>SqL.of z.1.2) (fun j v σ H6 hv z=>?_) (fun σ H6 z=>?_)⟩
  ·obtain⟨⟨s6,hn6⟩,x9,x10,x11,rfl⟩:=z
   obtain⟨mre,_,rfl⟩:=Zv.mp (Zl hv);have s06:=s04.trans s6;have hl6:=s06 _ _ hl;refine U3 (fun v H7=>Same H6 H7∧∃ lh,v = .ref lh∧H7 lh=some (.lst (Xr as))) (fun R hR'=>⟨_,rfl,l,_,rfl,.inl (SqL.of hl6),fun lh hlh=>hR' _ _ ⟨Z5 hlh _,lh,rfl,Zo⟩⟩) (fun v H7 z=>?_);obtain⟨s7,lh,rfl,hh7⟩:=z;have s07:=s06.trans s7;have hpo7:=hpo.same (s6.trans s7);refine U3 (fun v H8=>Same H7 H8∧v = .bl (hldB fx t side (plB fx) (as.map (·.1)) (X5 hso ldo yso) mre)) (fun R hR'=>?_) (fun v H8 z=>?_)
   ·have ez:hldB fx t side (plB fx) (as.map (·.1)) (X5 hso ldo yso) mre=(gd && decide (mre≤Nf (as.map (·.1)) (X5 hso ldo yso))):=by rw[egd];rfl
    rw[ez] at hR';refine⟨_,rfl,_,rfl,?_⟩;cases hgd:gd with
    | false=>
     rw[hgd] at hR';exact Yb (hR' _ _ ⟨Same.refl _,rfl⟩)
    | true=>
     rw[hgd,Bool.true_and] at hR';refine Ym ⟨_,rfl,_,_,rfl,rfl,_,rfl,?_⟩;by_cases c0:mre≤0
     ·refine X2 (Zd c0) (Ym (hR' _ _ ⟨Same.refl _,?_⟩))
      rw[Zd (Int.le_trans c0 (Tz _ _))]
     ·refine X2 (Zc c0) (Yb ?_)
      exact⟨_,rfl,_,rfl,_,rfl,l,o,as,hso,ldo,yso,mre,rfl,s7 _ _ hl6,hR.same s07,hpo7,by omega,fun H8 s8=>hR' _ _ ⟨s8,rfl⟩⟩
   obtain⟨s8,rfl⟩:=z;have s08:=s07.trans s8;refine⟨_,rfl,_,rfl,_,rfl,_,rfl,_,rfl,gm,x,lh,o,t,fx,side,as,plB fx,hso,ldo,yso,mre,rfl,G.same s08,tb,s8 _ _ hh7,hR.same s08,by omega,fun e he=>okX (hR e he).2 (hB e he),hpo7.same s8,fun H9 s9=>?_⟩;refine⟨_,rfl,_,_,rfl,_,rfl,?_⟩;rw[Y7];refine Yb ?_;have s09:=s08.trans s9;exact⟨_,rfl,_,rfl,lh,l,rfl,rfl,Zfo ((s8.trans s9) _ _ hh7) (s09 _ _ hl) (hR.same s09),_,rfl,Yb ⟨⟨((s6.trans s7).trans s8).trans s9,((s7.trans s8).trans s9) _ _ hn6⟩,_,_,_,rfl⟩⟩
  ·obtain⟨⟨s6,hn6⟩,x9,x10,x11,rfl⟩:=z
   exact⟨s4.trans s6,_,_,_,_,rfl⟩
 ·obtain⟨s4,x8,x9,x10,x11,rfl⟩:=z
  exact q H4 (s03.trans s4)
theorem Zl3{fx:Fx}(ok:fx.Ok){t:Option Nat}{side:Nat}{RS rs:List Rw}{hs:List Nat}{lead:Nat}{ys:List Nat}{nd nd':Int}(a:AllG fx t side RS)(s:∀ x∈rs,x∈RS)(c:CovR rs hs lead ys nd)(le:nd'≤nd):hldB fx t side (plB fx) RS (X5 hs lead ys) nd'=true:=by
 unfold hldB;rw[J9.mpr fun r hr=>by rw[(Zc0 fx r).mpr (by obtain⟨rs,_,g⟩:=a r hr;exact g.okp.2),Bool.true_and];exact a.right ok hr,Bool.true_and];exact Zd (Int.le_trans le (Zj3 c s))
def Zcn(K:W.Frag):Sp:=fun vs H Q _=>∃(a:Addr) (ns:List Int),vs=[.ref a]∧SqL K H a (ns.map V.int)∧ns.length≤63∧∀ H',Q (.bl true) H'
abbrev Zr3:List Str:=["_law_script","_law_game_here","_law_place_here","_law_side_here","_law_need","_law_rows","_law_k","_law_cell_here"]
theorem scLaw:FnScope Zr3 ["_law_script"] (Zq Ov):=Uy (by decide +kernel)
theorem Zom{k:Nat}{CT CG f1 f2 f3 f4 f5 f6 f7 f8 f9 fA:Addr}{d1 d2 d3 d4 d5 d6 d7 d8 d9 dA:FuncData}(F:Fun K "law" "law" Ov f fd)(C:TabC K mg CT)(CGm:GamC K mg CG)(LG:Lib P w K mg base k "_law_game" ["_law_script"] (Zao K CT CG) f1 d1)(LC:Lib P w K mg base k "_law_cell" Nq (E7 K) f2 d2)(LP:Lib P w K mg base k "_law_place" To (D5 K CT CG) f3 d3)
  (LD:Lib P w K mg base k "_law_side" ["_law_script","_law_seats"] (Zaj K) f4 d4) (LN:Lib P w K mg base k "count" Mx (Oe CT CG) f5 d5) (LE:Lib P w K mg base k "paper" Tp (D6 CT CG) f6 d6) (LX:Lib P w K mg base k "_law_mixed" ["_law_cell_here","_law_k"] B5 f7 d7) (LU:Lib P w K mg base k "_law_asked" Tq (Of CT CG) f8 d8)
  (LH:Lib P w K mg base k "holds" ["game","side","paper","place","need"] (R8 P w CT CG OkX) f9 d9) (LW:Lib P w K mg base k "_law_changed" ["_law_rows","_law_cell_here"] V2 fA dA) (mMn:mg "min" = none) (ml:mg "len" = none) (mr:mg "range" = none):FnOk P w K mg base Yr (k+1) f fd ["_law_script"] (Zcn K):=by
 refine F.ok scLaw (fun vs H Q E h=>?_) (fun cdv A outer s H vs Q E hr h=>?_)
 ·obtain⟨a,ns,rfl,_⟩:=h
  rfl
 obtain⟨a,ns,rfl,hS,h63,q⟩:=h;refine⟨_,Zh (Jf (i:=1) scLaw.nd rfl (Or.inl rfl) (Z1 LG.ok hr rfl LG.mg LG.kp LG.bd .nil Ja (Za (pv 0) Zg)))
  (Zh (Jf (i:=2) scLaw.nd rfl (Or.inl rfl) (Z1 LP.ok hr rfl LP.mg LP.kp LP.bd .nil Ja (Za (pv 0) (Za (pv 1) Zg))))
  (Zh (Jf (i:=3) scLaw.nd rfl (Or.inl rfl) (Z1 LD.ok hr rfl LD.mg LD.kp LD.bd .nil Ja (Za (pv 0) (Za (Jt (Jt (pv 1) rfl) rfl) Zg))))
  (Zh (Jf (i:=4) scLaw.nd rfl (Or.inl rfl) (Jr (Dl rfl) rfl mMn PyProof.Rows.boot_min (Za (Z1 LN.ok hr rfl LN.mg LN.kp LN.bd .nil Ja (Za (pv 1) (Za (pv 2) (Za (pv 3) Zg)))) (Za (Jd Y1 Zn (Jd Yv (Z1 LC.ok hr rfl LC.mg LC.kp LC.bd .nil Ja (Za (pv 0) (Za Zn Zg))) Zn)) Zg))))
  (Zh (Jf (i:=5) scLaw.nd rfl (Or.inl rfl) (Z1 LE.ok hr rfl LE.mg LE.kp LE.bd .nil Ja (Za (pv 1) (Za (pv 3) (Za (pv 2) (Za (pv 4) Zg))))))
  (Zh (J5 (Ji Zh7 (Z1 LH.ok hr rfl LH.mg LH.kp LH.bd .nil Ja (Za (pv 1) (Za (pv 3) (Za (pv 5) (Za (pv 2) (Za (pv 4) Zg)))))) Up (Jg _)) (Zm (Z9 Up)) Jl)
  (Zh (J5 (Ji M0 (Jr Jy rfl ml Jq (Za (pv 5) Zg)) Zn (Jg _))
   (Zh (J5 (X7 (Yi (Z1 LU.ok hr rfl LU.mg LU.kp LU.bd .nil Ja (Za (pv 1) (Za (pv 3) (Za (pv 5) (Za (pv 2) (Za (pv 4) Zg)))))) (fun _=>rfl))) (Zm (Z9 Up)) Jl)
   (Zm (Uv PassesOwn.never rfl (U7 rfl mr (Za Zn Zg)) (Jj (i:=6) scLaw.nd rfl (Or.inl rfl))
    (Zh (Jf (i:=7) scLaw.nd rfl (Or.inl rfl) (Z1 LX.ok hr rfl LX.mg LX.kp LX.bd .nil Ja (Za (Z1 LC.ok hr rfl LC.mg LC.kp LC.bd .nil Ja (Za (pv 0) (Za (Jd Y1 Zn (pv 6)) Zg))) (Za (pv 6) Zg))))
    (Zm (J5 (X7 (Yi (Z1 LU.ok hr rfl LU.mg LU.kp LU.bd .nil Ja (Za (pv 1) (Za (pv 3) (Za (Z1 LW.ok hr rfl LW.mg LW.kp LW.bd .nil Ja (Za (pv 5) (Za (pv 7) Zg))) (Za (pv 2) (Za (pv 4) Zg)))))) (fun _=>rfl))) (Zm (Z9 Up)) Jl)))))) Jl)
  (Zm (Z9 (Xz (Ys Ab (Z1 LH.ok hr rfl LH.mg LH.kp LH.bd .nil Ja (Za (pv 1) (Za (pv 3) (Za (Xl Zg) (Za (pv 2) (Za Zn Zg)))))) Up (Jg _)) (U8 (Ys Ab (Z1 LH.ok hr rfl LH.mg LH.kp LH.bd .nil Ja (Za (pv 1) (Za (pv 3) (Za (Xl Zg) (Za (pv 2) (Za Zn Zg)))))) Up (Jg _)))))))))))),?_⟩
 have big:1000000≤sizeLine:=by rw[sizeLine_eq];decide
 refine U3 (fun v H1=>Same H H1∧∃ gm x fx t,v = .ref gm∧Mp t∧GamH CT CG fx t H1 gm x) (fun R hR=>⟨_,rfl,a,ns,rfl,hS,fun gm x fx t H1 tb s1 G=>hR _ _ ⟨s1,gm,x,fx,t,rfl,tb,G⟩⟩) (fun v H1 z=>?_);obtain⟨s1,gm,x,fx,t,rfl,tb,G⟩:=z;have ok:=G.ok;have n4:fx.n≤4:=by rcases ok.n34 with e | e<;>omega
 obtain⟨dg,hg⟩:=id G.g;obtain⟨dx,po,to,hx,_,_⟩:=id G.t;refine U3 (fun v H2=>Same H1 H2∧∃ p hs lead ys m,v = .ref p∧IsPl H2 p hs lead ys∧Plc fx hs lead ys m∧J3 hs≤12) (fun R hR=>⟨_,rfl,_,rfl,a,gm,x,ns,fx,t,rfl,s1.seq hS,G,tb,fun p hs lead ys m H2 s2 hp Pl e=>hR _ _ ⟨s2,p,hs,lead,ys,m,rfl,hp,Pl,e⟩⟩) (fun v H2 z=>?_);obtain⟨s2,p,hs,lead,ys,m,rfl,hp,Pl,t12⟩:=z;have s02:=s1.trans s2;have G2:=G.same s2;refine U3 (fun v H'=>H2=H'∧∃ side:Nat,v = .int (side:Nat)) (fun R hR=>⟨_,rfl,_,rfl,gm,CG,dg,_,_,rfl,s2 _ _ hg,CGm.cl,CGm.nT,Yt _ _,x,CT,dx,_,_,rfl,s2 _ _ hx,C.cl,C.nN,Us _ _ _,a,ns,fx.n,rfl,s02.seq hS,n4,fun side sl=>hR _ _ ⟨rfl,side,rfl⟩⟩) (fun v H' z=>?_);obtain⟨rfl,side,rfl⟩:=z;refine U3 (fun v H3=>Same H2 H3∧∃ nd:Int,v = .int nd∧nd≤((valP fx t side hs lead ys:Nat):Int)) (fun R hR=>⟨_,rfl,_,rfl,_,rfl,gm,x,p,t,fx,side,hs,lead,ys,m,rfl,tb,G2,hp,Pl,t12,fun H3 s3=>⟨_,rfl,a,ns,11,rfl,(s02.trans s3).seq hS,by decide,fun c=>⟨_,_,rfl,rfl,(show(0:Int) < 3 by decide),_,_,rfl,rfl,_,_,rfl,hR _ _ ⟨s3,_,rfl,by split<;>omega⟩⟩⟩⟩) (fun v H3 z=>?_);obtain⟨s3,nd,rfl,ndm⟩:=z;have G3:=G2.same s3;have hp3:=hp.same s3;refine U3 (fun v H4=>Same H3 H4∧∃ l1 b1,v = .ref l1∧Pap H4 fx t side l1 b1∧CovR (b1.map (·.1)) hs lead ys nd) (fun R hR=>⟨_,rfl,_,rfl,_,rfl,_,rfl,gm,x,p,t,fx,side,hs,lead,ys,m,_,rfl,tb,G3,hp3,Pl,t12,ndm,fun l bs H4 s4 hl h1 h2 h3 h4 h5 _ _ _=>hR _ _ ⟨s4,l,bs,rfl,Pap.of ok h1 h2 h3 h5,h4⟩⟩) (fun v H4 z=>?_);obtain⟨s4,l1,b1,rfl,P1,c1⟩:=z;have G4:=G3.same s4;have hp4:=hp3.same s4;have w1:=P1.n;have bd1:∀ e∈b1,Bd e.1:=fun e he=>by
  obtain⟨m,Pl⟩:=(P1.okp e he).2;exact Plc.bd ok Pl
 refine⟨_,rfl,_,rfl,_,rfl,_,rfl,_,rfl,gm,x,l1,p,t,fx,side,b1,plB fx,hs,lead,ys,nd,rfl,G4,tb,P1.l,P1.r,by omega,fun e he=>okX (P1.r e he).2 (bd1 e he),hp4,fun H5 s5=>?_⟩;rw[Zl3 ok P1.all (fun _ z=>z) c1 (Int.le_refl _)];refine⟨true,true,rfl,rfl,_,rfl,Yb (Qx ?_)⟩;have s05:=((s02.trans s3).trans s4).trans s5;refine X0 (fun b H'=>H5=H') (fun σ H'=>Same H5 H'∧∃ x6 x7:Option V,σ=[some (.ref a),some (.ref gm),some (.ref p),some (.int (side:Nat)),some (.int nd),some (.ref l1),x6,x7]) (fun R hR=>?_) (fun H' z D' er nx=>?_) (fun H' z D' er nx=>?_) (fun σ H6 z=>?_)
 ·exact⟨_,rfl,l1,_,rfl,.inl (SqL.of (s5 _ _ P1.l)),_,_,rfl,rfl,_,rfl,hR _ _ rfl⟩
 ·subst z
  refine⟨_,rfl,_,rfl,_,rfl,_,rfl,_,rfl,gm,x,l1,p,t,fx,side,b1,hs,lead,ys,m,nd,rfl,G4.same s5,tb,s5 _ _ P1.l,P1.r.same s5,bd1,by omega,hp4.same s5,Pl,fun H6 s6=>⟨_,rfl,Yb (Qx ?_)⟩⟩;refine⟨3,rfl,by decide,by decide,?_⟩;refine Qh (n:=3) (fun i σ H'=>Same H5 H'∧∃ x6 x7:Option V,σ=[some (.ref a),some (.ref gm),some (.ref p),some (.int (side:Nat)),some (.int nd),some (.ref l1),x6,x7]) ⟨s6,none,none,rfl⟩ (fun i σ H7 hi z=>?_) (fun σ H7 z=>nx _ _ z);obtain⟨s7,x6,x7,rfl⟩:=z;refine U3 (fun v H'=>H7=H'∧∃ z:Int,v = .int z) (fun R hR=>⟨_,rfl,_,rfl,_,_,rfl,rfl,a,ns,12+i,?_,(s05.trans s7).seq hS,by omega,fun z=>⟨_,rfl,z,i,?_,by omega,fun z _=>hR _ _ ⟨rfl,z,rfl⟩⟩⟩) (fun v H' z=>?_)
  ·show [V.ref a,V.int ((12:Int)+(0+((i:Nat):Int)))]=_
   rw[Q2];rfl
  ·show [V.int z,V.int ((0:Int)+((i:Nat):Int))]=_
   rw[Q2]
  obtain⟨rfl,zc,rfl⟩:=z;have s57:=s5.trans s7;refine⟨_,rfl,_,rfl,_,rfl,_,rfl,l1,zc,b1,rfl,s57 _ _ P1.l,P1.r.same s57,bd1,w1,fun l2 b2 H8 s8 hl2 hR2 hB2 w2=>?_⟩;have s58:=s57.trans s8;exact⟨_,rfl,_,rfl,gm,x,l2,p,t,fx,side,b2,hs,lead,ys,m,nd,rfl,G4.same s58,tb,hl2,hR2,hB2,by omega,hp4.same s58,Pl,fun H9 s9=>⟨_,rfl,Yb ⟨(s7.trans s8).trans s9,_,_,rfl⟩⟩⟩
 ·subst z
  exact nx _ _ ⟨Same.refl _,none,none,rfl⟩
 obtain⟨s6,x6,x7,rfl⟩:=z;have s46:=s5.trans s6;have s0l:([]:List (Rw×Addr)).length < sizeLine:=by show 0 < sizeLine;omega
 refine⟨_,rfl,_,rfl,J2 0 (by decide),fun l3 hl3=>?_⟩;have a3:=Z5 hl3 (.lst []);have s4a:=s46.trans a3;refine⟨_,rfl,gm,x,l3,p,t,fx,side,[],plB fx,hs,lead,ys,0,rfl,G4.same s4a,tb,Zo,(fun e he=>nomatch he),s0l,(fun e he=>nomatch he),hp4.same s4a,fun H7 s7=>?_⟩;have h2:hldB fx t side (plB fx) (([]:List (Rw×Addr)).map (·.1)) (X5 hs lead ys) 0=true:=rfl;rw[h2];refine⟨true,true,rfl,rfl,true,rfl,Ym ?_⟩;have s4b:=s4a.trans s7;refine⟨_,rfl,_,rfl,J2 0 (by decide),fun l4 hl4=>?_⟩;have s4c:=s4b.trans (Z5 hl4 (.lst []));refine⟨_,rfl,gm,x,l4,p,t,fx,side,[],plB fx,hs,lead,ys,1,rfl,G4.same s4c,tb,Zo,(fun e he=>nomatch he),s0l,(fun e he=>nomatch he),hp4.same s4c,fun H8 s8=>?_⟩;have h3:hldB fx t side (plB fx) (([]:List (Rw×Addr)).map (·.1)) (X5 hs lead ys) 1=false:=rfl;rw[h3];exact⟨false,false,rfl,rfl,q H8⟩
end
theorem bd1{K:W.Frag}{x qual:Str}{st:Stmt}{f:Addr}{fd:FuncData}{ps:List Str}(F:Fun K x qual st f fd)(e:ps.length=1)(h:∀(kV doc pm:Value) (an:Option Addr) (cdv ct u0:Value),bindArgs (W.fnOf x qual (Ul st) (Y2 st) (Zq st) .none kV doc pm an cdv ct) ⟨[u0],[]⟩=pure (ps.zip [u0])):Binds K fd ps []:=F.binds fun _ _ _ _ _ _ us hl=>match us,hl.trans e with | [u0],_=>h _ _ _ _ _ _ _
theorem Rs{K:W.Frag}{x qual:Str}{st:Stmt}{f:Addr}{fd:FuncData}{ps:List Str}(F:Fun K x qual st f fd)(e:ps.length=2)(h:∀(kV doc pm:Value) (an:Option Addr) (cdv ct u0 u1:Value),bindArgs (W.fnOf x qual (Ul st) (Y2 st) (Zq st) .none kV doc pm an cdv ct) ⟨[u0,u1],[]⟩=pure (ps.zip [u0,u1])):Binds K fd ps []:=F.binds fun _ _ _ _ _ _ us hl=>match us,hl.trans e with | [u0,u1],_=>h _ _ _ _ _ _ _ _
theorem S7{K:W.Frag}{x qual:Str}{st:Stmt}{f:Addr}{fd:FuncData}{ps:List Str}(F:Fun K x qual st f fd)(e:ps.length=3)(h:∀(kV doc pm:Value) (an:Option Addr) (cdv ct u0 u1 u2:Value),bindArgs (W.fnOf x qual (Ul st) (Y2 st) (Zq st) .none kV doc pm an cdv ct) ⟨[u0,u1,u2],[]⟩=pure (ps.zip [u0,u1,u2])):Binds K fd ps []:=F.binds fun _ _ _ _ _ _ us hl=>match us,hl.trans e with | [u0,u1,u2],_=>h _ _ _ _ _ _ _ _ _
theorem bd4{K:W.Frag}{x qual:Str}{st:Stmt}{f:Addr}{fd:FuncData}{ps:List Str}(F:Fun K x qual st f fd)(e:ps.length=4)(h:∀(kV doc pm:Value) (an:Option Addr) (cdv ct u0 u1 u2 u3:Value),bindArgs (W.fnOf x qual (Ul st) (Y2 st) (Zq st) .none kV doc pm an cdv ct) ⟨[u0,u1,u2,u3],[]⟩=pure (ps.zip [u0,u1,u2,u3])):Binds K fd ps []:=F.binds fun _ _ _ _ _ _ us hl=>match us,hl.trans e with | [u0,u1,u2,u3],_=>h _ _ _ _ _ _ _ _ _ _
theorem bd5{K:W.Frag}{x qual:Str}{st:Stmt}{f:Addr}{fd:FuncData}{ps:List Str}(F:Fun K x qual st f fd)(e:ps.length=5)(h:∀(kV doc pm:Value) (an:Option Addr) (cdv ct u0 u1 u2 u3 u4:Value),bindArgs (W.fnOf x qual (Ul st) (Y2 st) (Zq st) .none kV doc pm an cdv ct) ⟨[u0,u1,u2,u3,u4],[]⟩=pure (ps.zip [u0,u1,u2,u3,u4])):Binds K fd ps []:=F.binds fun _ _ _ _ _ _ us hl=>match us,hl.trans e with | [u0,u1,u2,u3,u4],_=>h _ _ _ _ _ _ _ _ _ _ _
theorem bd6{K:W.Frag}{x qual:Str}{st:Stmt}{f:Addr}{fd:FuncData}{ps:List Str}(F:Fun K x qual st f fd)(e:ps.length=6)(h:∀(kV doc pm:Value) (an:Option Addr) (cdv ct u0 u1 u2 u3 u4 u5:Value),bindArgs (W.fnOf x qual (Ul st) (Y2 st) (Zq st) .none kV doc pm an cdv ct) ⟨[u0,u1,u2,u3,u4,u5],[]⟩=pure (ps.zip [u0,u1,u2,u3,u4,u5])):Binds K fd ps []:=F.binds fun _ _ _ _ _ _ us hl=>match us,hl.trans e with | [u0,u1,u2,u3,u4,u5],_=>h _ _ _ _ _ _ _ _ _ _ _ _
theorem all_mk{wd dtd:Option Addr}{dtc:Value}{tw1 tw2 tw3 tw4 tw5:Tok}{wn dtn:Nat}{wsl dts:Array (Option Value)}{l:W.OpenLaw}{w:World}{K:W.Frag}{h:Heap}{mg:Str→Option Value}{fa f1 f2 f3 f4 f5 f6 f7 f8 f9 f10 f11 f12 f13 f14 f15 f16 f17 f18 f19 f20 f21 f22 f23 f24 f25 f26 f27 f28 f29 f30 f31 f32 f33 f34 f35 f36 f37 f38 f39 f40 f41 f42 f43 f44 f45 f46 f47 f48 f49 f50 f51 f52 f53 f54 f55 f56 f57 f_F f_L f_C f_B f_AF f_AL f_AC f_AB f_I f_D f_O f_G f_S f_V f_M f_W f_P f_RI f_RB f_RP f_RA f_RC f_WI f_WC f_WW f_WB f_WR CN CF CL CC CB CT CG aM dT CR CW:Addr}(X:K.In h)(G:h.Ns mainGlobals mg)(hfa:mg "law" = some (.ref fa))
  {d1 d2 d3 d4 d5 d6 d7 d8 d9 d10 d11 d12 d13 d14 d15 d16 d17 d18 d19 d20 d21 d22 d23 d24 d25 d26 d27 d28 d29 d30 d31 d32 d33 d34 d35 d36 d37 d38 d39 d40 d41 d42 d43 d44 d45 d46 d47 d48 d49 d50 d51 d52 d53 d54 d55 d56 d_F d_L d_C d_B d_AF d_AL d_AC d_AB d_I d_D d_O d_S d_V d_M d_W d_P d_RI d_RB d_RP d_RA d_RC d_WI d_WC d_WW d_WB d_WR:FuncData} {od57 an57 od_G an_G:Option Addr} {sl57 sl_G:Array (Option Value)} {oc57 kV57 dc57 pm57 cd57 ct57 oc_G kV_G dc_G pm_G cd_G ct_G:Value} {t1 t2 t3 t4 t5:Tok}
  (a1:W.nsIn K mainGlobals "duty_of" = some (some (.ref f1)))
  (a2:W.nsIn K mainGlobals "words_behind_marks" = some (some (.ref f2)))
  (a3:W.nsIn K mainGlobals "read_size" = some (some (.ref f3)))
  (a4:W.nsIn K mainGlobals "read_seats" = some (some (.ref f4)))
  (a5:W.nsIn K mainGlobals "read_order" = some (some (.ref f5)))
  (a6:W.nsIn K mainGlobals "is_later" = some (some (.ref f6)))
  (a7:W.nsIn K mainGlobals "cards_in" = some (some (.ref f7)))
  (a8:W.nsIn K mainGlobals "hand_of" = some (some (.ref f8)))
  (a9:W.nsIn K mainGlobals "of_suit" = some (some (.ref f9)))
  (a10:W.nsIn K mainGlobals "of_led_suit" = some (some (.ref f10)))
  (a11:W.nsIn K mainGlobals "followed_or_cut" = some (some (.ref f11)))
  (a12:W.nsIn K mainGlobals "goes_over_all" = some (some (.ref f12)))
  (a13:W.nsIn K mainGlobals "many" = some (some (.ref f13)))
  (a14:W.nsIn K mainGlobals "is_apart" = some (some (.ref f14)))
  (a15:W.nsIn K mainGlobals "is_level" = some (some (.ref f15)))
  (a16:W.nsIn K mainGlobals "is_seat" = some (some (.ref f16)))
  (a17:W.nsIn K mainGlobals "seat_round" = some (some (.ref f17)))
  (a18:W.nsIn K mainGlobals "hands_with_trick" = some (some (.ref f18)))
  (a19:W.nsIn K mainGlobals "is_place" = some (some (.ref f19)))
  (a20:W.nsIn K mainGlobals "turn_at" = some (some (.ref f20)))
  (a21:W.nsIn K mainGlobals "moves" = some (some (.ref f21)))
  (a22:W.nsIn K mainGlobals "left" = some (some (.ref f22)))
  (a23:W.nsIn K mainGlobals "behind" = some (some (.ref f23)))
  (a24:W.nsIn K mainGlobals "has_seat" = some (some (.ref f24)))
  (a25:W.nsIn K mainGlobals "gain" = some (some (.ref f25)))
  (a26:W.nsIn K mainGlobals "refuse_too_many" = some (some (.ref f26)))
  (a27:W.nsIn K mainGlobals "count" = some (some (.ref f27)))
  (a28:W.nsIn K mainGlobals "paper" = some (some (.ref f28)))
  (a29:W.nsIn K mainGlobals "is_whole" = some (some (.ref f29)))
  (a30:W.nsIn K mainGlobals "are_from_zero_on" = some (some (.ref f30)))
  (a31:W.nsIn K mainGlobals "is_formed_place" = some (some (.ref f31)))
  (a32:W.nsIn K mainGlobals "is_formed_row" = some (some (.ref f32)))
  (a33:W.nsIn K mainGlobals "greatest_needs" = some (some (.ref f33)))
  (a34:W.nsIn K mainGlobals "covers" = some (some (.ref f34)))
  (a35:W.nsIn K mainGlobals "is_right" = some (some (.ref f35)))
  (a36:W.nsIn K mainGlobals "holds" = some (some (.ref f36)))
  (a37:W.nsIn K mainGlobals "_law_cell" = some (some (.ref f37)))
  (a38:W.nsIn K mainGlobals "_law_mixed" = some (some (.ref f38)))
  (a39:W.nsIn K mainGlobals "_law_order" = some (some (.ref f39)))
  (a40:W.nsIn K mainGlobals "_law_table" = some (some (.ref f40)))
  (a41:W.nsIn K mainGlobals "_law_text" = some (some (.ref f41)))
  (a42:W.nsIn K mainGlobals "_law_bit" = some (some (.ref f42)))
  (a43:W.nsIn K mainGlobals "_law_shuffled" = some (some (.ref f43)))
  (a44:W.nsIn K mainGlobals "_law_game" = some (some (.ref f44)))
  (a45:W.nsIn K mainGlobals "_law_size" = some (some (.ref f45)))
  (a46:W.nsIn K mainGlobals "_law_place" = some (some (.ref f46)))
  (a47:W.nsIn K mainGlobals "_law_side" = some (some (.ref f47)))
  (a48:W.nsIn K mainGlobals "_law_in" = some (some (.ref f48)))
  (a49:W.nsIn K mainGlobals "_law_has" = some (some (.ref f49)))
  (a50:W.nsIn K mainGlobals "_law_covers" = some (some (.ref f50)))
  (a51:W.nsIn K mainGlobals "_law_right" = some (some (.ref f51)))
  (a52:W.nsIn K mainGlobals "_law_other_place" = some (some (.ref f52)))
  (a53:W.nsIn K mainGlobals "_law_changed" = some (some (.ref f53)))
  (a54:W.nsIn K mainGlobals "_law_says" = some (some (.ref f54)))
  (a55:W.nsIn K mainGlobals "_law_all_right" = some (some (.ref f55)))
  (a56:W.nsIn K mainGlobals "_law_asked" = some (some (.ref f56)))
  (a57:W.nsIn K mainGlobals "law" = some (some (.ref f57)))
  (hCN:W.nsIn K mainGlobals "NoTable" = some (some (.ref CN)))
  (hCF:W.nsIn K mainGlobals "Free" = some (some (.ref CF)))
  (hCL:W.nsIn K mainGlobals "Follow" = some (some (.ref CL)))
  (hCC:W.nsIn K mainGlobals "Cut" = some (some (.ref CC)))
  (hCB:W.nsIn K mainGlobals "Beat" = some (some (.ref CB)))
  (hCT:W.nsIn K mainGlobals "Table" = some (some (.ref CT)))
  (hCG:W.nsIn K mainGlobals "Game" = some (some (.ref CG)))
  (w1:W.nsIn K mainGlobals "MARKS" = some (some (.ref aM)))
  (hCR:W.nsIn K mainGlobals "Reckoning" = some (some (.ref CR)))
  (hCW:W.nsIn K mainGlobals "Writing" = some (some (.ref CW)))
  (l57:K.lookup f57=some ⟨oc57,od57,.func (W.fnOf "law" "law" (Ul Ov) (Y2 Ov) (Zq Ov) .none kV57 dc57 pm57 an57 cd57 ct57),sl57⟩)
  (c57:W.codeIn K cd57 "law" = true)
  (k57:W.keepIn K (.ref f57)=true)
  (a_F:W.findIn K (.ref CF) "word" = some (some (.ref f_F)))
  (i_F:W.isFn K (.ref f_F)=true)
  (a_L:W.findIn K (.ref CL) "word" = some (some (.ref f_L)))
  (i_L:W.isFn K (.ref f_L)=true)
  (a_C:W.findIn K (.ref CC) "word" = some (some (.ref f_C)))
  (i_C:W.isFn K (.ref f_C)=true)
  (a_B:W.findIn K (.ref CB) "word" = some (some (.ref f_B)))
  (i_B:W.isFn K (.ref f_B)=true)
  (a_AF:W.findIn K (.ref CF) "allowed" = some (some (.ref f_AF)))
  (i_AF:W.isFn K (.ref f_AF)=true)
  (a_AL:W.findIn K (.ref CL) "allowed" = some (some (.ref f_AL)))
  (i_AL:W.isFn K (.ref f_AL)=true)
  (a_AC:W.findIn K (.ref CC) "allowed" = some (some (.ref f_AC)))
  (i_AC:W.isFn K (.ref f_AC)=true)
  (a_AB:W.findIn K (.ref CB) "allowed" = some (some (.ref f_AB)))
  (i_AB:W.isFn K (.ref f_AB)=true)
  (a_I:W.findIn K (.ref CT) "__init__" = some (some (.ref f_I)))
  (i_I:W.isFn K (.ref f_I)=true)
  (a_D:W.findIn K (.ref CT) "duty" = some (some (.ref f_D)))
  (i_D:W.isFn K (.ref f_D)=true)
  (a_O:W.findIn K (.ref CT) "order" = some (some (.ref f_O)))
  (i_O:W.isFn K (.ref f_O)=true)
  (a_G:W.findIn K (.ref CG) "__init__" = some (some (.ref f_G)))
  (l_G:K.lookup f_G=some ⟨oc_G,od_G,.func (W.fnOf "__init__" "Game.__init__" (Ul U6) (Y2 U6) (Zq U6) (.ref dT) kV_G dc_G pm_G an_G cd_G ct_G),sl_G⟩)
  (c_G:W.codeIn K cd_G "Game.__init__" = true)
  (k_G:W.keepIn K (.ref f_G)=true)
  (i_G:W.isFn K (.ref f_G)=true)
  (a_S:W.findIn K (.ref CG) "is_stronger" = some (some (.ref f_S)))
  (i_S:W.isFn K (.ref f_S)=true)
  (a_V:W.findIn K (.ref CG) "is_over" = some (some (.ref f_V)))
  (i_V:W.isFn K (.ref f_V)=true)
  (a_M:W.findIn K (.ref CG) "may" = some (some (.ref f_M)))
  (i_M:W.isFn K (.ref f_M)=true)
  (a_W:W.findIn K (.ref CG) "winner" = some (some (.ref f_W)))
  (i_W:W.isFn K (.ref f_W)=true)
  (a_P:W.findIn K (.ref CG) "pack" = some (some (.ref f_P)))
  (i_P:W.isFn K (.ref f_P)=true)
  (a_RI:W.findIn K (.ref CR) "__init__" = some (some (.ref f_RI)))
  (i_RI:W.isFn K (.ref f_RI)=true)
  (a_RB:W.findIn K (.ref CR) "made_by" = some (some (.ref f_RB)))
  (i_RB:W.isFn K (.ref f_RB)=true)
  (a_RP:W.findIn K (.ref CR) "pairs" = some (some (.ref f_RP)))
  (i_RP:W.isFn K (.ref f_RP)=true)
  (a_RA:W.findIn K (.ref CR) "made_at" = some (some (.ref f_RA)))
  (i_RA:W.isFn K (.ref f_RA)=true)
  (a_RC:W.findIn K (.ref CR) "choice" = some (some (.ref f_RC)))
  (i_RC:W.isFn K (.ref f_RC)=true)
  (a_WI:W.findIn K (.ref CW) "__init__" = some (some (.ref f_WI)))
  (i_WI:W.isFn K (.ref f_WI)=true)
  (a_WC:W.findIn K (.ref CW) "card_for" = some (some (.ref f_WC)))
  (i_WC:W.isFn K (.ref f_WC)=true)
  (a_WW:W.findIn K (.ref CW) "write" = some (some (.ref f_WW)))
  (i_WW:W.isFn K (.ref f_WW)=true)
  (a_WB:W.findIn K (.ref CW) "write_behind" = some (some (.ref f_WB)))
  (i_WB:W.isFn K (.ref f_WB)=true)
  (a_WR:W.findIn K (.ref CW) "rows" = some (some (.ref f_WR)))
  (i_WR:W.isFn K (.ref f_WR)=true)
  (g1:W.nsIn K mainGlobals "HEIGHTS" = some (some (.int 8 t1)))
  (g2:W.nsIn K mainGlobals "LETTERS" = some (some (.str "abcd" t2)))
  (g3:W.nsIn K mainGlobals "FIGURES" = some (some (.str "12345678" t3)))
  (g4:W.nsIn K mainGlobals "LOWEST_SUIT" = some (some (.int 255 t4)))
  (g5:W.nsIn K mainGlobals "MOST_CARDS" = some (some (.int 12 t5)))
  (z1:W.nsIn K mainGlobals "len" = some none)
  (z2:W.nsIn K mainGlobals "range" = some none)
  (z3:W.nsIn K mainGlobals "isinstance" = some none)
  (z4:W.nsIn K mainGlobals "int" = some none)
  (z5:W.nsIn K mainGlobals "str" = some none)
  (z6:W.nsIn K mainGlobals "list" = some none)
  (z7:W.nsIn K mainGlobals "tuple" = some none)
  (z8:W.nsIn K mainGlobals "sorted" = some none)
  (z9:W.nsIn K mainGlobals "sum" = some none)
  (z10:W.nsIn K mainGlobals "all" = some none)
  (z11:W.nsIn K mainGlobals "any" = some none)
  (z12:W.nsIn K mainGlobals "enumerate" = some none)
  (z13:W.nsIn K mainGlobals "max" = some none)
  (z14:W.nsIn K mainGlobals "min" = some none)
  (z15:W.nsIn K mainGlobals "bool" = some none)
  (pgCF:W.plainGet K CF Str.empty=true)
  (hdCF:W.hasDictIn K CF=true)
  (poCF:W.plainOver K CF=true)
  (saCF:W.findIn K (.ref CF) "__setattr__" = some (some (.builtin "object.__setattr__")))
  (mkCF:W.makesIn K CF=true)
  (kcCF:W.keepIn K (.ref CF)=true)
  (oiCF:W.findIn K (.ref CF) "__init__" = some (some (.builtin "object.__init__")))
  (pgCL:W.plainGet K CL Str.empty=true)
  (hdCL:W.hasDictIn K CL=true)
  (poCL:W.plainOver K CL=true)
  (saCL:W.findIn K (.ref CL) "__setattr__" = some (some (.builtin "object.__setattr__")))
  (mkCL:W.makesIn K CL=true)
  (kcCL:W.keepIn K (.ref CL)=true)
  (oiCL:W.findIn K (.ref CL) "__init__" = some (some (.builtin "object.__init__")))
  (pgCC:W.plainGet K CC Str.empty=true)
  (hdCC:W.hasDictIn K CC=true)
  (poCC:W.plainOver K CC=true)
  (saCC:W.findIn K (.ref CC) "__setattr__" = some (some (.builtin "object.__setattr__")))
  (mkCC:W.makesIn K CC=true)
  (kcCC:W.keepIn K (.ref CC)=true)
  (oiCC:W.findIn K (.ref CC) "__init__" = some (some (.builtin "object.__init__")))
  (pgCB:W.plainGet K CB Str.empty=true)
  (hdCB:W.hasDictIn K CB=true)
  (poCB:W.plainOver K CB=true)
  (saCB:W.findIn K (.ref CB) "__setattr__" = some (some (.builtin "object.__setattr__")))
  (mkCB:W.makesIn K CB=true)
  (kcCB:W.keepIn K (.ref CB)=true)
  (oiCB:W.findIn K (.ref CB) "__init__" = some (some (.builtin "object.__init__")))
  (pgCT:W.plainGet K CT Str.empty=true)
  (hdCT:W.hasDictIn K CT=true)
  (poCT:W.plainOver K CT=true)
  (saCT:W.findIn K (.ref CT) "__setattr__" = some (some (.builtin "object.__setattr__")))
  (mkCT:W.makesIn K CT=true)
  (kcCT:W.keepIn K (.ref CT)=true)
  (pgCG:W.plainGet K CG Str.empty=true)
  (hdCG:W.hasDictIn K CG=true)
  (poCG:W.plainOver K CG=true)
  (saCG:W.findIn K (.ref CG) "__setattr__" = some (some (.builtin "object.__setattr__")))
  (mkCG:W.makesIn K CG=true)
  (kcCG:W.keepIn K (.ref CG)=true)
  (nTS:W.findIn K (.ref CT) "suits" = some none)
  (nTH:W.findIn K (.ref CT) "heights" = some none)
  (nTN:W.findIn K (.ref CT) "seats" = some none)
  (nTD:W.findIn K (.ref CT) "duty_word" = some none)
  (nTP:W.findIn K (.ref CT) "plain_order" = some none)
  (nTT:W.findIn K (.ref CT) "trump_order" = some none)
  (nTW:W.findIn K (.ref CT) "written" = some none)
  (nGT:W.findIn K (.ref CG) "table" = some none)
  (nGU:W.findIn K (.ref CG) "trump" = some none)
  (w2:K.lookup aM=some ⟨.type "tuple",wd,.seq #[.str "pack" tw1,.str "seats" tw2,.str "duty" tw3,.str "plain" tw4,.str "trump" tw5] wn,wsl⟩)
  (w3:K.lookup dT=some ⟨dtc,dtd,.seq #[.none] dtn,dts⟩)
  (pgCR:W.plainGet K CR Str.empty=true)
  (hdCR:W.hasDictIn K CR=true)
  (poCR:W.plainOver K CR=true)
  (saCR:W.findIn K (.ref CR) "__setattr__" = some (some (.builtin "object.__setattr__")))
  (mkCR:W.makesIn K CR=true)
  (kcCR:W.keepIn K (.ref CR)=true)
  (nR1:W.findIn K (.ref CR) "game" = some none)
  (nR2:W.findIn K (.ref CR) "side" = some none)
  (nR3:W.findIn K (.ref CR) "known" = some none)
  (pgCW:W.plainGet K CW Str.empty=true)
  (hdCW:W.hasDictIn K CW=true)
  (poCW:W.plainOver K CW=true)
  (saCW:W.findIn K (.ref CW) "__setattr__" = some (some (.builtin "object.__setattr__")))
  (mkCW:W.makesIn K CW=true)
  (kcCW:W.keepIn K (.ref CW)=true)
  (nW1:W.findIn K (.ref CW) "game" = some none)
  (nW2:W.findIn K (.ref CW) "side" = some none)
  (nW3:W.findIn K (.ref CW) "reckoning" = some none)
  (nW4:W.findIn K (.ref CW) "cards_of_rows" = some none)
  (F1:Fun K "duty_of" "duty_of" O0 f1 d1)
  (F2:Fun K "words_behind_marks" "words_behind_marks" Za4 f2 d2)
  (F3:Fun K "read_size" "read_size" V5 f3 d3)
  (F4:Fun K "read_seats" "read_seats" Bo f4 d4)
  (F5:Fun K "read_order" "read_order" E8 f5 d5)
  (F6:Fun K "is_later" "is_later" Za5 f6 d6)
  (F7:Fun K "cards_in" "cards_in" Td f7 d7)
  (F8:Fun K "hand_of" "hand_of" Oy f8 d8)
  (F9:Fun K "of_suit" "of_suit" Ot f9 d9)
  (F10:Fun K "of_led_suit" "of_led_suit" G7 f10 d10)
  (F11:Fun K "followed_or_cut" "followed_or_cut" Znt f11 d11)
  (F12:Fun K "goes_over_all" "goes_over_all" Vb f12 d12)
  (F13:Fun K "many" "many" Zg5 f13 d13)
  (F14:Fun K "is_apart" "is_apart" Zbb f14 d14)
  (F15:Fun K "is_level" "is_level" Ou f15 d15)
  (F16:Fun K "is_seat" "is_seat" Ox f16 d16)
  (F17:Fun K "seat_round" "seat_round" Zay f17 d17)
  (F18:Fun K "hands_with_trick" "hands_with_trick" Zg0 f18 d18)
  (F19:Fun K "is_place" "is_place" Nk f19 d19)
  (F20:Fun K "turn_at" "turn_at" Op f20 d20)
  (F21:Fun K "moves" "moves" Za2 f21 d21)
  (F22:Fun K "left" "left" Zcw f22 d22)
  (F23:Fun K "behind" "behind" O2 f23 d23)
  (F24:Fun K "has_seat" "has_seat" G9 f24 d24)
  (F25:Fun K "gain" "gain" Zg9 f25 d25)
  (F26:Fun K "refuse_too_many" "refuse_too_many" Gb f26 d26)
  (F27:Fun K "count" "count" Za9 f27 d27)
  (F28:Fun K "paper" "paper" Zaz f28 d28)
  (F29:Fun K "is_whole" "is_whole" G8 f29 d29)
  (F30:Fun K "are_from_zero_on" "are_from_zero_on" Ba f30 d30)
  (F31:Fun K "is_formed_place" "is_formed_place" Ta f31 d31)
  (F32:Fun K "is_formed_row" "is_formed_row" Za7 f32 d32)
  (F33:Fun K "greatest_needs" "greatest_needs" Za1 f33 d33)
  (F34:Fun K "covers" "covers" O1 f34 d34)
  (F35:Fun K "is_right" "is_right" Va f35 d35)
  (F36:Fun K "holds" "holds" Za6 f36 d36)
  (F37:Fun K "_law_cell" "_law_cell" Zha f37 d37)
  (F38:Fun K "_law_mixed" "_law_mixed" Za3 f38 d38)
  (F39:Fun K "_law_order" "_law_order" Os f39 d39)
  (F40:Fun K "_law_table" "_law_table" Zax f40 d40)
  (F41:Fun K "_law_text" "_law_text" Ki f41 d41)
  (F42:Fun K "_law_bit" "_law_bit" Znu f42 d42)
  (F43:Fun K "_law_shuffled" "_law_shuffled" Zcv f43 d43)
  (F44:Fun K "_law_game" "_law_game" Zg8 f44 d44)
  (F45:Fun K "_law_size" "_law_size" Zg1 f45 d45)
  (F46:Fun K "_law_place" "_law_place" Bp f46 d46)
  (F47:Fun K "_law_side" "_law_side" Zg2 f47 d47)
  (F48:Fun K "_law_in" "_law_in" Znr f48 d48)
  (F49:Fun K "_law_has" "_law_has" Zg6 f49 d49)
  (F50:Fun K "_law_covers" "_law_covers" Zg7 f50 d50)
  (F51:Fun K "_law_right" "_law_right" Ow f51 d51)
  (F52:Fun K "_law_other_place" "_law_other_place" Za0 f52 d52)
  (F53:Fun K "_law_changed" "_law_changed" Tc f53 d53)
  (F54:Fun K "_law_says" "_law_says" Zg3 f54 d54)
  (F55:Fun K "_law_all_right" "_law_all_right" Zhb f55 d55)
  (F56:Fun K "_law_asked" "_law_asked" Zba f56 d56)
  (F_F:Fun K "word" "Free.word" V6 f_F d_F)
  (F_L:Fun K "word" "Follow.word" Nl f_L d_L)
  (F_C:Fun K "word" "Cut.word" Tb f_C d_C)
  (F_B:Fun K "word" "Beat.word" V8 f_B d_B)
  (F_AF:Fun K "allowed" "Free.allowed" Oz f_AF d_AF)
  (F_AL:Fun K "allowed" "Follow.allowed" V7 f_AL d_AL)
  (F_AC:Fun K "allowed" "Cut.allowed" Za8 f_AC d_AC)
  (F_AB:Fun K "allowed" "Beat.allowed" Ge f_AB d_AB)
  (F_I:Fun K "__init__" "Table.__init__" Gz f_I d_I)
  (F_D:Fun K "duty" "Table.duty" G0 f_D d_D)
  (F_O:Fun K "order" "Table.order" V3 f_O d_O)
  (F_S:Fun K "is_stronger" "Game.is_stronger" V4 f_S d_S)
  (F_V:Fun K "is_over" "Game.is_over" Zg4 f_V d_V)
  (F_M:Fun K "may" "Game.may" Znq f_M d_M)
  (F_W:Fun K "winner" "Game.winner" Oo f_W d_W)
  (F_P:Fun K "pack" "Game.pack" Vc f_P d_P)
  (F_RI:Fun K "__init__" "Reckoning.__init__" Oq f_RI d_RI)
  (F_RB:Fun K "made_by" "Reckoning.made_by" Gc f_RB d_RB)
  (F_RP:Fun K "pairs" "Reckoning.pairs" G6 f_RP d_RP)
  (F_RA:Fun K "made_at" "Reckoning.made_at" B9 f_RA d_RA)
  (F_RC:Fun K "choice" "Reckoning.choice" Gd f_RC d_RC)
  (F_WI:Fun K "__init__" "Writing.__init__" On f_WI d_WI)
  (F_WC:Fun K "card_for" "Writing.card_for" Vd f_WC d_WC)
  (F_WW:Fun K "write" "Writing.write" Gy f_WW d_WW)
  (F_WB:Fun K "write_behind" "Writing.write_behind" N9 f_WB d_WB)
  (F_WR:Fun K "rows" "Writing.rows" Ga f_WR d_WR)
  (x1:W.excIn K CN Bi "ValueError.__new__" = true)
  : ∃ fd:FuncData,(∀(s:Shared) (v:Value),BindsTo s fd ⟨[v],[]⟩ [("_law_script",v)])∧∀ base:Heap,K.In base→base.Ns mainGlobals mg→FnOk l.prog w K mg base Yr 86 fa fd ["_law_script"] (Zcn K):=by
 have e:=hfa.symm.trans (W.mg_of X G a57);cases e;have k1:=F1.kp;have b1:=bd1 (ps:=["word"]) F1 rfl fun _ _ _ _ _ _ _=>rfl;have m1:=W.mg_of X G a1;have k2:=F2.kp;have b2:=bd1 (ps:=["text"]) F2 rfl fun _ _ _ _ _ _ _=>rfl;have m2:=W.mg_of X G a2;have k3:=F3.kp;have b3:=bd1 (ps:=["word"]) F3 rfl fun _ _ _ _ _ _ _=>rfl;have m3:=W.mg_of X G a3;have k4:=F4.kp;have b4:=bd1 (ps:=["word"]) F4 rfl fun _ _ _ _ _ _ _=>rfl;have m4:=W.mg_of X G a4;have k5:=F5.kp;have b5:=Rs (ps:=["word","heights"]) F5 rfl fun _ _ _ _ _ _ _ _=>rfl;have m5:=W.mg_of X G a5;have k6:=F6.kp;have b6:=S7 (ps:=["order","height","other"]) F6 rfl fun _ _ _ _ _ _ _ _ _=>rfl;have m6:=W.mg_of X G a6;have k7:=F7.kp;have b7:=bd1 (ps:=["hand"]) F7 rfl fun _ _ _ _ _ _ _=>rfl;have m7:=W.mg_of X G a7;have k8:=F8.kp;have b8:=bd1 (ps:=["cards"]) F8 rfl fun _ _ _ _ _ _ _=>rfl;have m8:=W.mg_of X G a8;have k9:=F9.kp;have b9:=Rs (ps:=["hand","suit"]) F9 rfl fun _ _ _ _ _ _ _ _=>rfl;have m9:=W.mg_of X G a9;have k10:=F10.kp;have b10:=Rs (ps:=["hand","trick"]) F10 rfl fun _ _ _ _ _ _ _ _=>rfl;have m10:=W.mg_of X G a10;have k11:=F11.kp;have b11:=S7 (ps:=["game","hand","trick"]) F11 rfl fun _ _ _ _ _ _ _ _ _=>rfl;have m11:=W.mg_of X G a11;have k12:=F12.kp;have b12:=S7 (ps:=["game","card","trick"]) F12 rfl fun _ _ _ _ _ _ _ _ _=>rfl;have m12:=W.mg_of X G a12;have k13:=F13.kp;have b13:=bd1 (ps:=["hand"]) F13 rfl fun _ _ _ _ _ _ _=>rfl;have m13:=W.mg_of X G a13;have k14:=F14.kp;have b14:=bd1 (ps:=["hands"]) F14 rfl fun _ _ _ _ _ _ _=>rfl;have m14:=W.mg_of X G a14;have k15:=F15.kp;have b15:=bd1 (ps:=["hands"]) F15 rfl fun _ _ _ _ _ _ _=>rfl;have m15:=W.mg_of X G a15;have k16:=F16.kp;have b16:=Rs (ps:=["game","seat"]) F16 rfl fun _ _ _ _ _ _ _ _=>rfl;have m16:=W.mg_of X G a16;have k17:=F17.kp;have b17:=S7 (ps:=["game","lead","steps"]) F17 rfl fun _ _ _ _ _ _ _ _ _=>rfl;have m17:=W.mg_of X G a17;have k18:=F18.kp;have b18:=Rs (ps:=["game","place"]) F18 rfl fun _ _ _ _ _ _ _ _=>rfl;have m18:=W.mg_of X G a18;have k19:=F19.kp;have b19:=Rs (ps:=["game","place"]) F19 rfl fun _ _ _ _ _ _ _ _=>rfl;have m19:=W.mg_of X G a19;have k20:=F20.kp;have b20:=Rs (ps:=["game","place"]) F20 rfl fun _ _ _ _ _ _ _ _=>rfl;have m20:=W.mg_of X G a20;have k21:=F21.kp;have b21:=Rs (ps:=["game","place"]) F21 rfl fun _ _ _ _ _ _ _ _=>rfl;have m21:=W.mg_of X G a21;have k22:=F22.kp;have b22:=bd1 (ps:=["place"]) F22 rfl fun _ _ _ _ _ _ _=>rfl;have m22:=W.mg_of X G a22;have k23:=F23.kp;have b23:=S7 (ps:=["game","place","card"]) F23 rfl fun _ _ _ _ _ _ _ _ _=>rfl;have m23:=W.mg_of X G a23;have k24:=F24.kp;have b24:=Rs (ps:=["side","seat"]) F24 rfl fun _ _ _ _ _ _ _ _=>rfl;have m24:=W.mg_of X G a24;have k25:=F25.kp;have b25:=Rs (ps:=["side","taker"]) F25 rfl fun _ _ _ _ _ _ _ _=>rfl;have m25:=W.mg_of X G a25;have k26:=F26.kp;have b26:=bd1 (ps:=["place"]) F26 rfl fun _ _ _ _ _ _ _=>rfl;have m26:=W.mg_of X G a26;have k27:=F27.kp;have b27:=S7 (ps:=Mx) F27 rfl fun _ _ _ _ _ _ _ _ _=>rfl;have m27:=W.mg_of X G a27;have k28:=F28.kp;have b28:=bd4 (ps:=Tp) F28 rfl fun _ _ _ _ _ _ _ _ _ _=>rfl;have m28:=W.mg_of X G a28;have k29:=F29.kp;have b29:=bd1 (ps:=["thing"]) F29 rfl fun _ _ _ _ _ _ _=>rfl;have m29:=W.mg_of X G a29;have k30:=F30.kp;have b30:=bd1 (ps:=["things"]) F30 rfl fun _ _ _ _ _ _ _=>rfl;have m30:=W.mg_of X G a30;have k31:=F31.kp;have b31:=bd1 (ps:=["thing"]) F31 rfl fun _ _ _ _ _ _ _=>rfl;have m31:=W.mg_of X G a31;have k32:=F32.kp;have b32:=bd1 (ps:=["thing"]) F32 rfl fun _ _ _ _ _ _ _=>rfl;have m32:=W.mg_of X G a32;have k33:=F33.kp;have b33:=bd1 (ps:=["paper"]) F33 rfl fun _ _ _ _ _ _ _=>rfl;have m33:=W.mg_of X G a33;have k34:=F34.kp;have b34:=bd6 (ps:=["game","side","needs","place","card","need"]) F34 rfl fun _ _ _ _ _ _ _ _ _ _ _ _=>rfl;have m34:=W.mg_of X G a34;have k35:=F35.kp;have b35:=bd4 (ps:=["game","side","needs","row"]) F35 rfl fun _ _ _ _ _ _ _ _ _ _=>rfl;have m35:=W.mg_of X G a35;have k36:=F36.kp;have b36:=bd5 (ps:=["game","side","paper","place","need"]) F36 rfl fun _ _ _ _ _ _ _ _ _ _ _=>rfl;have m36:=W.mg_of X G a36;have k37:=F37.kp;have b37:=Rs (ps:=Nq) F37 rfl fun _ _ _ _ _ _ _ _=>rfl;have m37:=W.mg_of X G a37;have k38:=F38.kp;have b38:=Rs (ps:=["_law_cell_here","_law_k"]) F38 rfl fun _ _ _ _ _ _ _ _=>rfl;have m38:=W.mg_of X G a38;have k39:=F39.kp;have b39:=Rs (ps:=["_law_cell_here","_law_heights"]) F39 rfl fun _ _ _ _ _ _ _ _=>rfl;have m39:=W.mg_of X G a39;have k40:=F40.kp;have b40:=bd1 (ps:=["_law_script"]) F40 rfl fun _ _ _ _ _ _ _=>rfl;have m40:=W.mg_of X G a40;have k41:=F41.kp;have b41:=bd1 (ps:=["_law_facts"]) F41 rfl fun _ _ _ _ _ _ _=>rfl;have m41:=W.mg_of X G a41;have k42:=F42.kp;have b42:=bd1 (ps:=["_law_card"]) F42 rfl fun _ _ _ _ _ _ _=>rfl;have m42:=W.mg_of X G a42;have k43:=F43.kp;have b43:=Rs (ps:=["_law_script","_law_game_here"]) F43 rfl fun _ _ _ _ _ _ _ _=>rfl;have m43:=W.mg_of X G a43;have k44:=F44.kp;have b44:=bd1 (ps:=["_law_script"]) F44 rfl fun _ _ _ _ _ _ _=>rfl;have m44:=W.mg_of X G a44;have k45:=F45.kp;have b45:=Rs (ps:=["_law_script","_law_game_here"]) F45 rfl fun _ _ _ _ _ _ _ _=>rfl;have m45:=W.mg_of X G a45;have k46:=F46.kp;have b46:=Rs (ps:=To) F46 rfl fun _ _ _ _ _ _ _ _=>rfl;have m46:=W.mg_of X G a46;have k47:=F47.kp;have b47:=Rs (ps:=["_law_script","_law_seats"]) F47 rfl fun _ _ _ _ _ _ _ _=>rfl;have m47:=W.mg_of X G a47;have k48:=F48.kp;have b48:=Rs (ps:=["_law_side_here","_law_seat"]) F48 rfl fun _ _ _ _ _ _ _ _=>rfl;have m48:=W.mg_of X G a48;have k49:=F49.kp;have b49:=S7 (ps:=Mz) F49 rfl fun _ _ _ _ _ _ _ _ _=>rfl;have m49:=W.mg_of X G a49;have k50:=F50.kp;have b50:=bd6 (ps:=Kw) F50 rfl fun _ _ _ _ _ _ _ _ _ _ _ _=>rfl;have m50:=W.mg_of X G a50;have k51:=F51.kp;have b51:=bd4 (ps:=Vi) F51 rfl fun _ _ _ _ _ _ _ _ _ _=>rfl;have m51:=W.mg_of X G a51;have k52:=F52.kp;have b52:=Rs (ps:=["_law_place_here","_law_cell_here"]) F52 rfl fun _ _ _ _ _ _ _ _=>rfl;have m52:=W.mg_of X G a52;have k53:=F53.kp;have b53:=Rs (ps:=["_law_rows","_law_cell_here"]) F53 rfl fun _ _ _ _ _ _ _ _=>rfl;have m53:=W.mg_of X G a53;have k54:=F54.kp;have b54:=Rs (ps:=["_law_found","_law_due"]) F54 rfl fun _ _ _ _ _ _ _ _=>rfl;have m54:=W.mg_of X G a54;have k55:=F55.kp;have b55:=S7 (ps:=Kx) F55 rfl fun _ _ _ _ _ _ _ _ _=>rfl;have m55:=W.mg_of X G a55;have k56:=F56.kp;have b56:=bd5 (ps:=Tq) F56 rfl fun _ _ _ _ _ _ _ _ _ _ _=>rfl;have m56:=W.mg_of X G a56;have F57:=fun_mk (st:=Ov) l57 c57 k57;have m57:=W.mg_of X G a57;have k_F:=F_F.kp;have b_F:=bd1 (ps:=["self"]) F_F rfl fun _ _ _ _ _ _ _=>rfl;have m_F:Meth K CF "word" f_F:=⟨a_F,i_F,k_F⟩;have k_L:=F_L.kp;have b_L:=bd1 (ps:=["self"]) F_L rfl fun _ _ _ _ _ _ _=>rfl;have m_L:Meth K CL "word" f_L:=⟨a_L,i_L,k_L⟩;have k_C:=F_C.kp;have b_C:=bd1 (ps:=["self"]) F_C rfl fun _ _ _ _ _ _ _=>rfl;have m_C:Meth K CC "word" f_C:=⟨a_C,i_C,k_C⟩;have k_B:=F_B.kp;have b_B:=bd1 (ps:=["self"]) F_B rfl fun _ _ _ _ _ _ _=>rfl;have m_B:Meth K CB "word" f_B:=⟨a_B,i_B,k_B⟩;have k_AF:=F_AF.kp;have b_AF:=bd4 (ps:=pAl) F_AF rfl fun _ _ _ _ _ _ _ _ _ _=>rfl;have m_AF:Meth K CF "allowed" f_AF:=⟨a_AF,i_AF,k_AF⟩;have k_AL:=F_AL.kp;have b_AL:=bd4 (ps:=pAl) F_AL rfl fun _ _ _ _ _ _ _ _ _ _=>rfl;have m_AL:Meth K CL "allowed" f_AL:=⟨a_AL,i_AL,k_AL⟩;have k_AC:=F_AC.kp;have b_AC:=bd4 (ps:=pAl) F_AC rfl fun _ _ _ _ _ _ _ _ _ _=>rfl;have m_AC:Meth K CC "allowed" f_AC:=⟨a_AC,i_AC,k_AC⟩;have k_AB:=F_AB.kp;have b_AB:=bd4 (ps:=pAl) F_AB rfl fun _ _ _ _ _ _ _ _ _ _=>rfl;have m_AB:Meth K CB "allowed" f_AB:=⟨a_AB,i_AB,k_AB⟩;have k_I:=F_I.kp;have b_I:=Rs (ps:=["self","text"]) F_I rfl fun _ _ _ _ _ _ _ _=>rfl;have m_I:Meth K CT "__init__" f_I:=⟨a_I,i_I,k_I⟩;have k_D:=F_D.kp;have b_D:=bd1 (ps:=["self"]) F_D rfl fun _ _ _ _ _ _ _=>rfl;have m_D:Meth K CT "duty" f_D:=⟨a_D,i_D,k_D⟩;have k_O:=F_O.kp;have b_O:=Rs (ps:=["self","is_trump"]) F_O rfl fun _ _ _ _ _ _ _ _=>rfl;have m_O:Meth K CT "order" f_O:=⟨a_O,i_O,k_O⟩;have F_G:=Zma (st:=U6) l_G c_G k_G;have m_G:Meth K CG "__init__" f_G:=⟨a_G,i_G,k_G⟩;have k_S:=F_S.kp;have b_S:=S7 (ps:=["self","card","other"]) F_S rfl fun _ _ _ _ _ _ _ _ _=>rfl;have m_S:Meth K CG "is_stronger" f_S:=⟨a_S,i_S,k_S⟩;have k_V:=F_V.kp;have b_V:=bd4 (ps:=Ro) F_V rfl fun _ _ _ _ _ _ _ _ _ _=>rfl;have m_V:Meth K CG "is_over" f_V:=⟨a_V,i_V,k_V⟩;have k_M:=F_M.kp;have b_M:=S7 (ps:=["self","hand","trick"]) F_M rfl fun _ _ _ _ _ _ _ _ _=>rfl;have m_M:Meth K CG "may" f_M:=⟨a_M,i_M,k_M⟩;have k_W:=F_W.kp;have b_W:=Rs (ps:=["self","trick"]) F_W rfl fun _ _ _ _ _ _ _ _=>rfl;have m_W:Meth K CG "winner" f_W:=⟨a_W,i_W,k_W⟩;have k_P:=F_P.kp;have b_P:=bd1 (ps:=["self"]) F_P rfl fun _ _ _ _ _ _ _=>rfl;have m_P:Meth K CG "pack" f_P:=⟨a_P,i_P,k_P⟩;have k_RI:=F_RI.kp;have b_RI:=S7 (ps:=["self","game","side"]) F_RI rfl fun _ _ _ _ _ _ _ _ _=>rfl;have m_RI:Meth K CR "__init__" f_RI:=⟨a_RI,i_RI,k_RI⟩;have k_RB:=F_RB.kp;have b_RB:=S7 (ps:=["self","place","card"]) F_RB rfl fun _ _ _ _ _ _ _ _ _=>rfl;have m_RB:Meth K CR "made_by" f_RB:=⟨a_RB,i_RB,k_RB⟩;have k_RP:=F_RP.kp;have b_RP:=Rs (ps:=["self","place"]) F_RP rfl fun _ _ _ _ _ _ _ _=>rfl;have m_RP:Meth K CR "pairs" f_RP:=⟨a_RP,i_RP,k_RP⟩;have k_RA:=F_RA.kp;have b_RA:=Rs (ps:=["self","place"]) F_RA rfl fun _ _ _ _ _ _ _ _=>rfl;have m_RA:Meth K CR "made_at" f_RA:=⟨a_RA,i_RA,k_RA⟩;have k_RC:=F_RC.kp;have b_RC:=S7 (ps:=["self","place","pairs"]) F_RC rfl fun _ _ _ _ _ _ _ _ _=>rfl;have m_RC:Meth K CR "choice" f_RC:=⟨a_RC,i_RC,k_RC⟩;have k_WI:=F_WI.kp;have b_WI:=S7 (ps:=["self","game","side"]) F_WI rfl fun _ _ _ _ _ _ _ _ _=>rfl;have m_WI:Meth K CW "__init__" f_WI:=⟨a_WI,i_WI,k_WI⟩;have k_WC:=F_WC.kp;have b_WC:=S7 (ps:=["self","place","need"]) F_WC rfl fun _ _ _ _ _ _ _ _ _=>rfl;have m_WC:Meth K CW "card_for" f_WC:=⟨a_WC,i_WC,k_WC⟩;have k_WW:=F_WW.kp;have b_WW:=S7 (ps:=["self","place","need"]) F_WW rfl fun _ _ _ _ _ _ _ _ _=>rfl;have m_WW:Meth K CW "write" f_WW:=⟨a_WW,i_WW,k_WW⟩;have k_WB:=F_WB.kp;have b_WB:=bd4 (ps:=["self","place","card","need"]) F_WB rfl fun _ _ _ _ _ _ _ _ _ _=>rfl;have m_WB:Meth K CW "write_behind" f_WB:=⟨a_WB,i_WB,k_WB⟩;have k_WR:=F_WR.kp;have b_WR:=bd1 (ps:=["self"]) F_WR rfl fun _ _ _ _ _ _ _=>rfl;have m_WR:Meth K CW "rows" f_WR:=⟨a_WR,i_WR,k_WR⟩;have mg1:=W.mg_of X G g1;have mg2:=W.mg_of X G g2;have mg3:=W.mg_of X G g3;have mg4:=W.mg_of X G g4;have mg5:=W.mg_of X G g5;have mn_len:=W.mg_none_of X G z1;have mn_range:=W.mg_none_of X G z2;have mn_isinstance:=W.mg_none_of X G z3;have mn_int:=W.mg_none_of X G z4;have mn_str:=W.mg_none_of X G z5;have mn_list:=W.mg_none_of X G z6;have mn_tuple:=W.mg_none_of X G z7;have mn_sorted:=W.mg_none_of X G z8;have mn_sum:=W.mg_none_of X G z9;have mn_all:=W.mg_none_of X G z10;have mn_any:=W.mg_none_of X G z11;have mn_enumerate:=W.mg_none_of X G z12;have mn_max:=W.mg_none_of X G z13;have mn_min:=W.mg_none_of X G z14;have mn_bool:=W.mg_none_of X G z15;refine⟨W.fnOf "law" "law" (Ul Ov) (Y2 Ov) (Zq Ov) .none kV57 dc57 pm57 an57 cd57 ct57,fun s v=>.of_eq rfl,fun base _ _=>?_⟩
 let cs:Fin 4→Addr:=p4 CF CL CC CB
 let fw:Fin 4→Addr:=p4 f_F f_L f_C f_B
 let fl:Fin 4→Addr:=p4 f_AF f_AL f_AC f_AB
 have mN:=W.mg_of X G hCN;have D:DutyC K mg cs CN:=⟨W.mg_of X G hCF,W.mg_of X G hCL,W.mg_of X G hCC,W.mg_of X G hCB,fun i=>match i with | 0=>⟨mkCF,oiCF,kcCF⟩ | 1=>⟨mkCL,oiCL,kcCL⟩ | 2=>⟨mkCC,oiCC,kcCC⟩ | 3=>⟨mkCB,oiCB,kcCB⟩,mN,x1⟩;have Wq:∀ k,∃ fdw,Zj6 l.prog w K mg base (k+1) cs fw fdw:=fun k=>⟨p4 _ _ _ _,fun i=>match i with | 0=>⟨pgCF,hdCF,poCF,saCF⟩ | 1=>⟨pgCL,hdCL,poCL,saCL⟩ | 2=>⟨pgCC,hdCC,poCC,saCC⟩ | 3=>⟨pgCB,hdCB,poCB,saCB⟩,fun i=>match i with | 0=>m_F | 1=>m_L | 2=>m_C | 3=>m_B,fun i=>match i with | 0=>K4 F_F | 1=>Ml F_L | 2=>Zbn F_C | 3=>K6 F_B,fun i=>match i with | 0=>b_F | 1=>b_L | 2=>b_C | 3=>b_B⟩;obtain⟨_,W14⟩:=Wq 13;obtain⟨_,W15⟩:=Wq 14;obtain⟨_,W16⟩:=Wq 15;have C:TabC K mg CT:=⟨⟨pgCT,hdCT,poCT,saCT⟩,W.mg_of X G hCT,nTS,nTH,nTN,nTD,nTP,nTT,nTW⟩;have CGm:GamC K mg CG:=⟨⟨pgCG,hdCG,poCG,saCG⟩,W.mg_of X G hCG,nGT,nGU⟩;have hM:∀ H,SqT K H aM (vS Vm):=fun H=>.inr ⟨_,_,_,w2,rfl,rfl,J2 5 (by decide),.cons ⟨_,rfl⟩ (.cons ⟨_,rfl⟩ (.cons ⟨_,rfl⟩ (.cons ⟨_,rfl⟩ (.cons ⟨_,rfl⟩ .nil))))⟩;have FI:=Zoh (k:=16) F_I C ⟨Zio (k:=15) F2 (W.mg_of X G w1) hM mN x1 mn_isinstance mn_str mn_len mn_tuple,b2,k2,m2⟩ ⟨Zlb F3 mg3 mg2 mN x1 mn_len,b3,k3,m3⟩ ⟨Zid F4 mN x1 mn_int,b4,k4,m4⟩ ⟨Zoi F5 mg3 mN x1 mn_sorted mn_list mn_tuple,b5,k5,m5⟩ ⟨M4 (k:=15) F1 D W15,b1,k1,m1⟩ W16;have BG0:Binds K _ ["self","table","trump"] []:=fun s us hX hl=>match us,hl with | [_,_,_],_=>by first | exact .of_eq rfl | exact W.binds_K (fd:=W.fnOf "__init__" "Game.__init__" (Ul U6) (Y2 U6) (Zq U6) (.ref dT) kV_G dc_G pm_G an_G cd_G ct_G) hX rfl w3 rfl rfl rfl
 have BG1:Binds K _ ["self","table","trump"] [.none]:=fun s us hX hl=>match us,(show us.length=2 from Nat.succ.inj ((Z3 (as:=us) (bs:=[Value.none])).symm.trans hl)) with | [_,_],_=>by exact W.binds_K (fd:=W.fnOf "__init__" "Game.__init__" (Ul U6) (Y2 U6) (Zq U6) (.ref dT) kV_G dc_G pm_G an_G cd_G ct_G) hX rfl w3 rfl rfl rfl
 have LO:∀ k,Lib l.prog w K mg base (k+1) "of_suit" ["hand","suit"] (B4 K) f9 _:=fun k=>⟨Zey F9 mg4 mg1,b9,k9,m9⟩;have LL:∀ k,Lib l.prog w K mg base (k+2) "of_led_suit" ["hand","trick"] (Zcm K) f10 _:=fun k=>⟨Zol (k:=k+1) F10 (LO k) mg1,b10,k10,m10⟩;have LF:∀ k,Lib l.prog w K mg base (k+3) "followed_or_cut" ["game","hand","trick"] (Zcr K CG) f11 _:=fun k=>⟨Zoo (k:=k+2) F11 CGm (LL k) (LO (k+1)),b11,k11,m11⟩;have FS:∀ k,FnOk l.prog w K mg base Yr (k+2) f_S _ ["self","card","other"] (Bl CT CG):=fun k=>K2 (k:=k+1) F_S C CGm ⟨Zir (k:=k) F6,b6,k6,m6⟩ m_O (Zew (k:=k) F_O C mn_list) b_O mg1;have FV:∀ k,FnOk l.prog w K mg base Yr (k+3) f_V _ Ro (D7 CT CG):=fun k=>Zlh (k:=k+2) F_V CGm m_S (FS k) b_S mg1;have LGA:∀ k,Lib l.prog w K mg base (k+4) "goes_over_all" ["game","card","trick"] (Zan K CT CG) f12 _:=fun k=>⟨Zlm (k:=k+3) F12 CGm m_V (FV k) b_V mg1 mn_all,b12,k12,m12⟩;have LH:∀ k,Lib l.prog w K mg base (k+1) "hand_of" ["cards"] (B6 K) f8 _:=fun k=>⟨Ze2 F8,b8,k8,m8⟩;have LI:∀ k,Lib l.prog w K mg base (k+1) "cards_in" ["hand"] (N5 K) f7 _:=fun k=>⟨Zbp F7,b7,k7,m7⟩;have MA:∃ d4,∀ k,AlF l.prog w K mg base CT CG (k+5) cs fl d4:=⟨p4 _ _ _ _,fun k=>⟨fun i=>match i with | 0=>⟨pgCF,hdCF,poCF,saCF⟩ | 1=>⟨pgCL,hdCL,poCL,saCL⟩ | 2=>⟨pgCC,hdCC,poCC,saCC⟩ | 3=>⟨pgCB,hdCB,poCB,saCB⟩,fun i=>match i with | 0=>m_AF | 1=>m_AL | 2=>m_AC | 3=>m_AB,fun i=>match i with | 0=>Ze3 F_AF | 1=>K5 (k:=k+4) F_AL (LL (k+2)) | 2=>Ziw (k:=k+4) F_AC (LF (k+1)) | 3=>Ze7 (k:=k+4) F_AB (LF (k+1)) (LH (k+3)) (LI (k+3)) (LGA k),fun i=>match i with | 0=>b_AF | 1=>b_AL | 2=>b_AC | 3=>b_AB⟩⟩;obtain⟨_,MA⟩:=MA;have LRd:∀ k,Lib l.prog w K mg base (k+1) "seat_round" ["game","lead","steps"] (B1 CT CG) f17 _:=fun k=>⟨Zif F17 C CGm,b17,k17,m17⟩;have LMn:∀ k,Lib l.prog w K mg base (k+1) "many" ["hand"] (Gs K) f13 _:=fun k=>⟨Zli F13,b13,k13,m13⟩;have LLf:∀ k,Lib l.prog w K mg base (k+2) "left" ["place"] (Gu K) f22 _:=fun k=>⟨Zlk (k:=k+1) F22 (LMn k) mn_max,b22,k22,m22⟩;have LTa:∀ k,Lib l.prog w K mg base (k+3) "turn_at" ["game","place"] (Qm CT CG) f20 _:=fun k=>⟨Zev (k:=k+2) F20 (LLf k) (LRd (k+1)) mn_len,b20,k20,m20⟩;have FM:FnOk l.prog w K mg base Yr 16 f_M _ ["self","hand","trick"] (Zgq K CT CG):=Zoj (k:=15) F_M C CGm ⟨M4 (k:=14) F1 D W14,b1,k1,m1⟩ m_D (K0 (k:=14) F_D C) b_D (MA 10) mn_len;have LMo:Lib l.prog w K mg base 17 "moves" ["game","place"] (Ql CT CG) f21 _:=⟨Zim (k:=16) F21 CGm (LTa 13) (LI 15) m_M FM b_M,b21,k21,m21⟩;have FW:∀ k,FnOk l.prog w K mg base Yr (k+4) f_W _ ["self","trick"] (Gq K CT CG):=fun k=>Zeu (k:=k+3) F_W CGm m_V (FV k) b_V mg1 mn_enumerate;have LBe:∀ k,Lib l.prog w K mg base (k+5) "behind" ["game","place","card"] (Xo K CT CG) f23 _:=fun k=>⟨Ze6 (k:=k+4) F23 C CGm (LRd (k+3)) m_W (FW k) b_W mn_len mn_list mn_tuple,b23,k23,m23⟩;have LHs:∀ k,Lib l.prog w K mg base (k+1) "has_seat" ["side","seat"] Qe f24 _:=fun k=>⟨Zbl F24,b24,k24,m24⟩;have LGn:∀ k,Lib l.prog w K mg base (k+2) "gain" ["side","taker"] Bm f25 _:=fun k=>⟨Zlo (k:=k+1) F25 (LHs k),b25,k25,m25⟩;have LIw:∀ k,Lib l.prog w K mg base (k+1) "is_whole" ["thing"] (En K) f29 _:=fun k=>⟨Zbj F29 mn_isinstance mn_int mn_bool,b29,k29,m29⟩;have LFz:∀ k,Lib l.prog w K mg base (k+2) "are_from_zero_on" ["things"] Bn f30 _:=fun k=>⟨K3 (k:=k+1) F30 (LIw k) mn_isinstance mn_tuple mn_all,b30,k30,m30⟩;have LFp:∀ k,Lib l.prog w K mg base (k+3) "is_formed_place" ["thing"] V1 f31 _:=fun k=>⟨Zbm (k:=k+2) F31 (LIw (k+1)) (LFz k) mn_isinstance mn_tuple mn_len,b31,k31,m31⟩;have LFr:∀ k,Lib l.prog w K mg base (k+4) "is_formed_row" ["thing"] R9 f32 _:=fun k=>⟨Ziv (k:=k+3) F32 (LIw (k+2)) (LFp k) mn_isinstance mn_tuple mn_len,b32,k32,m32⟩;have LNd:∀ k,Lib l.prog w K mg base (k+5) "greatest_needs" ["paper"] (Oa l.prog w) f33 _:=fun k=>⟨Zil (k:=k+4) F33 (LFr k) mn_max,b33,k33,m33⟩;have LCv:∀ k,Lib l.prog w K mg base (k+6) "covers" ["game","side","needs","place","card","need"] (Gw l.prog w CT CG) f34 _:=fun k=>⟨Ze4 (k:=k+5) F34 (LBe k) (LGn (k+3)),b34,k34,m34⟩;have LWiX:∀ k,Lib l.prog w K mg base (k+2) "hands_with_trick" ["game","place"] (D2 CT CG) f18 _:=fun k=>⟨Zib (k:=k+1) F18 (LRd k) mn_list mn_enumerate,b18,k18,m18⟩;have LIpX:∀ k,Lib l.prog w K mg base (k+3) "is_place" ["game","place"] (Od CT CG) f19 _:=fun k=>⟨Zis (k:=k+2) F19 C CGm ⟨Zie F16 C CGm,b16,k16,m16⟩ ⟨Ziz F14,b14,k14,m14⟩ ⟨Ziq (k:=k+1) F15 (LMn k) mn_all,b15,k15,m15⟩ (LWiX k) m_P (Ziu (k:=k+1) F_P C CGm (LH k) mg1 mn_range) b_P mn_len mn_list mn_any,b19,k19,m19⟩;have LIB:∀ k,Lib l.prog w K mg base (k+3) "is_place" ["game","place"] (R7 CT CG OkX) f19 _:=fun k=>⟨Zo7 (LIpX k).ok,b19,k19,m19⟩;have LIr:Lib l.prog w K mg base 19 "is_right" ["game","side","needs","row"] (V0 l.prog w CT CG OkX) f35 _:=⟨Zbk (k:=18) (fun fx hs lead ys h=>K7 h) F35 (LFr 14) (LIB 15) (LLf 16) (LMo.mono (by decide)) (LHs 17) (LTa 15) (LCv 12) mn_all,b35,k35,m35⟩;have LHo:Lib l.prog w K mg base 20 "holds" ["game","side","paper","place","need"] (R8 l.prog w CT CG OkX) f36 _:=⟨Zit (k:=19) F36 (LNd 14) LIr,b36,k36,m36⟩;have LCe:∀ k,Lib l.prog w K mg base (k+1) "_law_cell" Nq (E7 K) f37 _:=fun k=>⟨Zlp F37 mn_len,b37,k37,m37⟩;have LX:∀ k,Lib l.prog w K mg base (k+1) "_law_mixed" ["_law_cell_here","_law_k"] B5 f38 _:=fun k=>⟨Zin F38,b38,k38,m38⟩;have LOr:∀ k,Lib l.prog w K mg base (k+1) "_law_order" ["_law_cell_here","_law_heights"] (D9 K) f39 _:=fun k=>⟨Zik F39 mn_range,b39,k39,m39⟩;have LTb:∀ k,Lib l.prog w K mg base (k+2) "_law_table" ["_law_script"] (D3 K) f40 _:=fun k=>⟨Zic (k:=k+1) F40 (LCe k) (LX k) (LOr k),b40,k40,m40⟩;have LTx:∀ k,Lib l.prog w K mg base (k+1) "_law_text" ["_law_facts"] (Zai K) f41 _:=fun k=>⟨Zla F41 mn_str,b41,k41,m41⟩;have LBt:∀ k,Lib l.prog w K mg base (k+1) "_law_bit" ["_law_card"] Ke f42 _:=fun k=>⟨Zop F42 mn_range,b42,k42,m42⟩;have LSh:∀ k,Lib l.prog w K mg base (k+2) "_law_shuffled" ["_law_script","_law_game_here"] (Zak K CT CG) f43 _:=fun k=>⟨Zld (k:=k+1) F43 C CGm (LCe k) (LX k) mn_range mn_sorted,b43,k43,m43⟩;have LSd:∀ k,Lib l.prog w K mg base (k+2) "_law_side" ["_law_script","_law_seats"] (Zaj K) f47 _:=fun k=>⟨Zlc (k:=k+1) F47 (LCe k) (LBt k),b47,k47,m47⟩;have CRk:RkC K mg CR:=⟨⟨pgCR,hdCR,poCR,saCR⟩,W.mg_of X G hCR,nR1,nR2,nR3⟩;have CWr:WrC K mg CW:=⟨⟨pgCW,hdCW,poCW,saCW⟩,W.mg_of X G hCW,nW1,nW2,nW3,nW4⟩;have FC:∀ S,FnOk l.prog w K mg base Yr 18 f_RC _ ["self","place","pairs"] (B7 l.prog w CT CG CR S):=fun S=>Ze5 (k:=17) F_RC CRk (LHs 16) (LTa 14) mn_len mn_max mn_min;have RM:∀ S,SCl S→RkM l.prog w K mg base 57 12 S CT CG CR f_RA f_RP _ _:=fun S hS=>Zlg hS (j0:=18) F_RA F_RB F_RP CRk m_RA m_RB m_RP m_RC b_RA b_RB b_RP b_RC (FC S) (LBe 13) (LGn 16) (LMo.mono (by decide)) (by decide) 12;have FCf:∀ S,SCl S→FnOk l.prog w K mg base Yr 58 f_WC _ ["self","place","need"] (N6 l.prog w CT CG CR CW S 12):=fun S hS=>Zbq (k:=57) F_WC CRk CWr m_RP (RM S hS).pr b_RP;have FWw:∀ S,SCl S→FnOk l.prog w K mg base Yr 84 f_WW _ ["self","place","need"] (E6 l.prog w CT CG CR CW S 13):=fun S hS=>Zbh hS (j0:=58) F_WW F_WB CWr m_WW m_WB m_WC b_WW b_WB b_WC (FCf S hS) (LHs 57) (LTa 55) (LMo.mono (by decide)) (LBe 53) (LGn 56) (by decide) 13;have LRf:Lib l.prog w K mg base 84 "refuse_too_many" ["place"] B3 f26 _:=⟨Zex (k:=83) F26 (LMn 82) mg5 mn_sum,b26,k26,m26⟩;have LPa:Lib l.prog w K mg base 85 "paper" Tp (D6 CT CG) f28 _:=⟨Zih (k:=83) F28 CRk CWr LRf ⟨mkCW,a_WI,i_WI,kcCW⟩ (Zet (k:=81) F_WI CRk CWr ⟨mkCR,a_RI,i_RI,kcCR⟩ (M3 (k:=80) F_RI CRk) b_RI) b_WI m_RA (fun S hS=>(RM S hS).at_.mono (by decide)) b_RA m_WW FWw b_WW m_WR (Zlf (k:=83) F_WR CWr) b_WR,b28,k28,m28⟩;have LCo:Lib l.prog w K mg base 85 "count" Mx (Oe CT CG) f27 _:=⟨Zix (k:=83) F27 CRk LRf ⟨mkCR,a_RI,i_RI,kcCR⟩ (M3 (k:=82) F_RI CRk) b_RI m_RA (fun S hS=>(RM S hS).at_.mono (by decide)) b_RA,b27,k27,m27⟩;have LSz:Lib l.prog w K mg base 18 "_law_size" ["_law_script","_law_game_here"] (Ob K CT CG) f45 _:=⟨Zip (k:=17) F45 C CGm (LCe 16) m_D (K0 (k:=16) F_D C) b_D mn_min,b45,k45,m45⟩;have LPl:Lib l.prog w K mg base 19 "_law_place" To (D5 K CT CG) f46 _:=⟨Zig (k:=18) F46 C CGm LSz (LSh 16) (LBt 17) (LCe 17) (LMo.mono (by decide)) (LBe 13) mn_range mn_tuple mn_sum mn_len,b46,k46,m46⟩;have LGm:Lib l.prog w K mg base 19 "_law_game" ["_law_script"] (Zao K CT CG) f44 _:=⟨Zln (k:=17) F44 C CGm (LTb 16) (LCe 17) (LTx 17) ⟨mkCT,a_I,i_I,kcCT⟩ (FI.mono (by decide)) b_I ⟨mkCG,a_G,i_G,kcCG⟩ (Zon (k:=16) F_G CGm) BG0 BG1,b44,k44,m44⟩;have LIn:∀ k,Lib l.prog w K mg base (k+2) "_law_in" ["_law_side_here","_law_seat"] Zcp f48 _:=fun k=>⟨Zok (k:=k+1) F48 (LBt k),b48,k48,m48⟩;have LHs':∀ k,Lib l.prog w K mg base (k+1) "_law_has" Mz Oc f49 _:=fun k=>⟨Zlj F49,b49,k49,m49⟩;have LCv':∀ k,Lib l.prog w K mg base (k+6) "_law_covers" Kw (Zam CT CG) f50 _:=fun k=>⟨Zll (k:=k+5) F50 (LBe k) (LIn (k+3)) (LHs' (k+4)),b50,k50,m50⟩;have LRt:Lib l.prog w K mg base 19 "_law_right" Vi (Gv CT CG OkX) f51 _:=⟨Ze1 (k:=18) (fun fx hs lead ys h=>K7 h) F51 (LIB 15) (LLf 16) (LMo.mono (by decide)) (LIn 16) (LTa 15) (LCv' 12),b51,k51,m51⟩;have LOt:∀ k,Lib l.prog w K mg base (k+1) "_law_other_place" ["_law_place_here","_law_cell_here"] D8 f52 _:=fun k=>⟨Zij F52 mn_len,b52,k52,m52⟩;have LCh:∀ k,Lib l.prog w K mg base (k+2) "_law_changed" ["_law_rows","_law_cell_here"] V2 f53 _:=fun k=>⟨Zbo (k:=k+1) F53 (LOt k) mn_len,b53,k53,m53⟩;have LSy:∀ k,Lib l.prog w K mg base (k+1) "_law_says" ["_law_found","_law_due"] Zal f54 _:=fun k=>⟨Zle F54,b54,k54,m54⟩;have LAl:Lib l.prog w K mg base 20 "_law_all_right" Kx (Zaq CT CG) f55 _:=⟨Zlq (k:=19) F55 LRt,b55,k55,m55⟩;have LAs:Lib l.prog w K mg base 21 "_law_asked" Tq (Of CT CG) f56 _:=⟨Ziy (k:=20) F56 LAl (LMo.mono (by decide)) (LBe 15) (LHs' 19) LHo (LSy 19) mn_list,b56,k56,m56⟩;exact Zom (k:=85) F57 C CGm (LGm.mono (by decide)) (LCe 84) (LPl.mono (by decide)) (LSd 83) LCo LPa (LX 84) (LAs.mono (by decide)) (LHo.mono (by decide)) (LCh 83) mn_min mn_len mn_range
theorem walk{l:W.OpenLaw}{q:Program}{loose:List Str}{XP:(Str→Option Value)→Heap→Prop}{YP:World→Heap→Prop}{d:DefRec}{K:Params→W.Frag}(hn:l.most=some 63)(hdf:d.params.defaults=[])
  (hY:∀(w:World) (h:Heap),YP w h→(K w.params).In h)
  (F:∀(w:World) (mg:Str→Option Value) (fa:Addr) (h:Heap),(K w.params).In h→h.Ns mainGlobals mg→mg d.name=some (.ref fa) →
   ∃ fd:FuncData,(∀(s:Shared) (u:Value),BindsTo s fd ⟨[u],[]⟩ [("_law_script",u)])∧∀ base:Heap,(K w.params).In base→base.Ns mainGlobals mg→FnOk l.prog w (K w.params) mg base Yr 86 fa fd ["_law_script"] (Zcn (K w.params))) :
  W.WalkO q loose XP YP l.row.toRowW d [] (fun f vs=>PySem.call f vs):=
 L2.walk_of (n:=63) (k:=86) (x:="_law_script") (CX:=fun _=>Yr) (sp:=fun w=>Zcn (K w.params)) hn (by decide) hdf ⟨rfl,by decide,by decide⟩ hY F (fun _ _ a ns hl _ hS=>⟨a,ns,rfl,hS,hl,fun _=>rfl⟩) fun _ _ _ _ _ z=>z
end My
namespace PySem.W.Fast
def tw18369123348612405522:=0
def tw3885910393739517087:=0
def tw7015815593236435341:=0
def tw2346608815700972513:=0
def tw14207766090254607070:=0
def tw11251717098678841316:=0
def tw13451304272076185828:=0
def tw16874705942804435960:=0
def tw11772878443354557526:=0
def tw4185640183192323027:=0
def tw17445098869003646945:=0
def tw18247877614737810144:=0
def tw14627921206174933104:=0
def tw8789451631654247631:=0
def tw5013326659806030246:=0
def tw12560598624148816330:=0
def tw4307135038072898744:=0
def tw12903621379243709268:=0
def tw8594948574591551977:=0
def tw5403100840207438472:=0
def tw9448979165362363789:=0
def tw876094087822223270:=0
def tw6645960318398346801:=0
def tw3576232771130027459:=0
def tw2409465535452675576:=0
def tw814185514347611860:=0
def tw1638579284702425384:=0
def tw8424706658132534768:=0
def tw16527280992704239585:=0
def tw5241944831883935255:=0
def tw3419078730408921665:=0
def tw15774219319172138186:=0
def tw5680469714784886738:=0
def tw6176634288409136658:=0
def tw5587896095805563839:=0
def tw9625662986566354811:=0
def tw5986049066066959012:=0
def tw8660361184705485766:=0
def tw1735644539042252035:=0
def tw7473435898002813920:=0
def tw9055901400202639963:=0
def tw10252554686777450171:=0
def tw2333001964088738893:=0
def tw5777605453958745936:=0
def tw5382588579253381868:=0
def tw13913446504651467337:=0
def tw2846919372556373290:=0
def tw3490024110231247890:=0
def tw7982622695326660163:=0
def tw6855601984735282899:=0
def tw13217420629261980364:=0
def tw9408433300866716465:=0
def tw3043304324468985179:=0
def tw14224036691103331133:=0
def tw14618077264099556758:=0
def tw8720212871069484687:=0
def tw3105459365181617529:=0
def tw11123299786503285873:=0
def tw5193021934718141250:=0
def tw7826210782018852043:=0
def tw16469302738076438028:=0
def tw10054648082367261816:=0
def tw17851916589994150196:=0
def tw18143590223398210867:=0
def tw14159678103556075084:=0
def tw2443949666006345236:=0
def tw7078504715348215262:=0
def tw2101988173580192858:=0
def tw17550455505222464884:=0
def tw2386195923571052237:=0
def tw11949506326603055662:=0
def tw15602837446718694376:=0
def tw4975575769908518604:=0
def tw3220005821325083271:=0
def tw13339230038751750951:=0
def tw3315886751657707110:=0
def tw11787245421725205368:=0
def tw2647499030591637101:=0
def tw15189716259991740650:=0
def tw13267931001687064610:=0
def tw590615148016342300:=0
def tw13219522017494597427:=0
def tw1635031286041783550:=0
def tw16864207173024630709:=0
def tw7857778078060792894:=0
def tw8723664390682449929:=0
def tw5859604607494819062:=0
def tw4422070347774476705:=0
def tw5168416317029115719:=0
def tw17723847804406293393:=0
def tw11010503986195577531:=0
def tw14430700090400214442:=0
def tw7609190541216997032:=0
def tw17378325574456966202:=0
def tw11205854133677931151:=0
def tw1861380322060195744:=0
def tw4256349427719158427:=0
def tw3224398445293885432:=0
def tw5783792027073403105:=0
def tw5814927798899766022:=0
def tw4831542796926848686:=0
def tw5749981567300365529:=0
def tw2524477656560784204:=0
def tw11204370814964829237:=0
def tw14805103286841723836:=0
def tw1538731865234628556:=0
def tw12584595448845947379:=0
def tw6925444909662858460:=0
def tw1166140302147301584:=0
def tw5758910006445109508:=0
def tw6197939446767623219:=0
def tw8906028409049356962:=0
def tw14766502411305192164:=0
def tw17810525689168385703:=0
def tw15939853069181655120:=0
def tw16020516455399546601:=0
def tw6035696946069710426:=0
def tw9454212151831604347:=0
def tw7217802040412389504:=0
def tw12968050469898558673:=0
def tw14540728703607786002:=0
def tw4589453473632590263:=0
def tw9069049726631150275:=0
def tw2494665967895252158:=0
def tw13596328634791411926:=0
def tw2495597440794062998:=0
def tw4490718163339670807:=0
def tw12162189070238093548:=0
def tw7876335171280481115:=0
def tw8056601774989857957:=0
def tw10057073470920716884:=0
def tw13142558494107461492:=0
def tw11461150567003990193:=0
def tw5768666331247003956:=0
def tw12230210090643131481:=0
def tw1556769360091405717:=0
def tw7017595365809271879:=0
def tw3867048268238201532:=0
def tw7308289717835427354:=0
def tw12553100262488377265:=0
def tw15048860000800470194:=0
def tw10044075625159906759:=0
def tw3887079496262086662:=0
def tw5363141471729767734:=0
def tw14238667483291106628:=0
def tw16851450384051904059:=0
def tw14253372672341710738:=0
def tw15200575547724576473:=0
def tw2702551079383571772:=0
def tw1110568157867744314:=0
def tw17899970387655044843:=0
def tw17461053598110409176:=0
def tw1858158762064777492:=0
def tw4892204749953930551:=0
def tw16093325928328850018:=0
def tw8291552323283060749:=0
def tw13661676330343098465:=0
def tw13242507056388515365:=0
def tw6785580109878274142:=0
def tw1068076247257531589:=0
def tw14740003585299725927:=0
def tw5571094281037827538:=0
def tw11006145979146216153:=0
def tw15062753838760328573:=0
def tw9904847584349927349:=0
def tw8771587691180555134:=0
def tw5782240594440117623:=0
def tw3538834856008154907:=0
def tw4984255469236852223:=0
def tw2037178149123249693:=0
def tw3895818410688286981:=0
def tw4264947596762158097:=0
def tw3133324693945891440:=0
def tw9408571533469903691:=0
def tw14897668838308668494:=0
def tw14387508034867429605:=0
def tw15857796044460734404:=0
def tw13863719377554318117:=0
def tw13553496763795268897:=0
def tw14698028309329128799:=0
def tw5619362547998721723:=0
def tw7288602484208420763:=0
def tw10871579067931723405:=0
def tw4406314213841865453:=0
def tw17592944410554319842:=0
def tw16714299855516207992:=0
def tw3925564527277354897:=0
def tw15311900572525504898:=0
def tw8990604397346141150:=0
def tw7101191876732765971:=0
def tw10054511979570335916:=0
def tw6746482536730060067:=0
def tw15985934090959767384:=0
def tw15001845011999038177:=0
def tw15937928797697273823:=0
def tw17468676518805033278:=0
def tw3808924461448919518:=0
def tw18281887074330917907:=0
def tw11916979434585696451:=0
def tw13954998007277443305:=0
def tw1380432650491270885:=0
def tw4883813895164067113:=0
def tw16614860754432318288:=0
def tw8637713854394501434:=0
def tw15907205735499662783:=0
def tw8980165095751949264:=0
def tw17755674725795370801:=0
def tw17827512390968452120:=0
def tw15706474463231107758:=0
def tw4719945477144138195:=0
def tw14697512175092623917:=0
def tw1901975833706258158:=0
def tw4740506617345873292:=0
def tw4997685598270296340:=0
def tw7832847041292463640:=0
def tw9453948516676175577:=0
def tw11403842412135046232:=0
def tw10168078131677232930:=0
def tw14690790428951352004:=0
def tw885691018447831485:=0
def tw6172886763541971744:=0
def tw17772997679538435864:=0
def tw18354742152015232528:=0
def tw10753055235186161205:=0
def tw10395119993909427498:=0
def tw7358814580200821063:=0
def tw18431988876777365588:=0
def tw5386198158032593509:=0
def tw16669625489557812194:=0
def tw17549220321267677853:=0
def tw8290629334425609578:=0
def tw2985082173806316343:=0
def tw406745042103147453:=0
def tw11476554911501771202:=0
def tw4191394585783873229:=0
def tw10724533934064538908:=0
def tw2473575809571446868:=0
def tw3807181793462576162:=0
def tw345403367566539781:=0
def tw12433481083320978416:=0
def tw6187873862280305659:=0
def tw18086262212990756412:=0
def tw7568929015147890541:=0
def tw16999408392711876271:=0
def tw10922559545060918034:=0
def tw9568111237885579159:=0
def tw17957404956869432148:=0
def tw411807379536193900:=0
def tw12059331307223658420:=0
def tw16197084673358367734:=0
def tw1812807118731190061:=0
def tw13268983742847287487:=0
def tw3525795740388430194:=0
def tw15929039235771806061:=0
def tw15616065187717510956:=0
def tw7150573984422650164:=0
def tw8956035402183002517:=0
def tw12396121672518298068:=0
def tw8738982470113024606:=0
def tw13936969799310492328:=0
def tw10390120576649390292:=0
def tw14694613713330765677:=0
def tw10976352020335124725:=0
def tw10959182765937582771:=0
def tw10087538187050397295:=0
def tw6085004440042501804:=0
def tw12099882541721161735:=0
def tw758977576980689085:=0
def tw14176047292947764942:=0
def tw14843930095972809027:=0
def tw3805449712895756972:=0
def tw2957019670272957327:=0
def tw1564051733375703519:=0
def tw8286222741347408050:=0
def tw9159126725114143254:=0
def tw11236237489285852192:=0
def tw6314405814444833974:=0
def tw6624686081936559999:=0
def tw7789333302043823750:=0
def tw299573263598995110:=0
def tw1066785189408142882:=0
def tw5100288540584341156:=0
def tw10073444519044572239:=0
def tw11064443968231099365:=0
def tw5881494498825764903:=0
def tw17402766044960261202:=0
def tw16518776273074978435:=0
def tw548070471621278963:=0
def tw12143360355848220899:=0
def tw3577961951979964539:=0
def tw3482320143445227915:=0
def tw12147951938477817652:=0
def tw4702919336600978595:=0
def tw13171063541286750327:=0
def tw589064947580318241:=0
def tw16323874982754212780:=0
def tw9161693389399967498:=0
def tw8071753996738236417:=0
def tw15788289344271228200:=0
def tw8237323561839425253:=0
def tw7655930212553511982:=0
def tw11077165126982419115:=0
def tw17344051652058018793:=0
def tw3473645500114121757:=0
def tw7520880714810689451:=0
def tw779129449711771452:=0
def tw15486938256732334153:=0
def tw10675647423356138959:=0
def tw8381990980753518410:=0
def tw13965965627466747020:=0
def tw8726698643297534530:=0
def tw14844774872087563776:=0
def tw4347171125855786620:=0
def tw4616887850828095811:=0
def tw2622897758802811537:=0
def tw8235707193750620184:=0
def tw14589787360000675902:=0
def tw3100628052802635965:=0
def tw15844996143502720598:=0
def tw13209623192858756302:=0
def tw2432128031115512627:=0
def tw1360162751552935379:=0
def tw8988922098361431519:=0
def tw12570174590086889612:=0
def tw6471836089532670742:=0
def tw16033695105561596157:=0
def tw1409637837813481396:=0
def tw8411398208415507927:=0
def tw17719180413511197405:=0
def tw3312887172720938682:=0
def tw8633570121147688333:=0
def tw16578742235810332561:=0
def tw6758405252391217965:=0
def tw6924794155153905586:=0
def tw1346160412970337495:=0
def tw8694269312137949538:=0
def tw1981922761791414303:=0
def tw15151681777093711931:=0
def tw7293200061895388318:=0
def tw10146765821017767955:=0
def tw15172893229886943714:=0
def tw11662604837535720929:=0
def tw18000845424216419343:=0
def tw10069425398349172819:=0
def tw15860892582675407818:=0
def tw1562452880821781527:=0
def tw16145732303750253368:=0
def tw7668740130699480693:=0
def tw7889587092157491507:=0
def tw12429082822038063194:=0
def tw16661534664369982671:=0
def tw3037177959196465531:=0
def tw9461336764342693333:=0
def tw3907744158611714818:=0
def tw7809036658580427865:=0
def tw9559825547757645601:=0
def tw95272740816670958:=0
def tw2959512486795503801:=0
def tw13418639589506844101:=0
def tw3805125155216023763:=0
def tw7511709155180893231:=0
def tw2102191779466785236:=0
def tw6990413475132347177:=0
def tw14725767425893132335:=0
def tw14765087371755836330:=0
def tw17498228165936417442:=0
def tw16705864034377555844:=0
def tw18346973693053961002:=0
def tw14751609943278122585:=0
def tw9295600560808732132:=0
def tw9059508580953044111:=0
def tw10201737232554778874:=0
def tw2438197017224837928:=0
def tw7128183181856130842:=0
def tw14023554879325808443:=0
def tw9768979986792863448:=0
def tw12118558826216446347:=0
def tw1226666129713647308:=0
def tw18007626805118507042:=0
def tw13058402758256724061:=0
def tw5558389270504022604:=0
def tw17475746503124628157:=0
def tw889349780554577862:=0
def tw12932727626041332781:=0
def tw2442059149346904928:=0
def tw322667909519479442:=0
def tw10630565189912138674:=0
def tw12196471970924706109:=0
def tw2338146514168703644:=0
def tw2328567139910398811:=0
def tw7111810844916323075:=0
def tw8378506981824769793:=0
def tw14332420223062197825:=0
def tw4598632087476348401:=0
def tw10196368055126302806:=0
def tw12857615845459368607:=0
def tw15796180815357803620:=0
def tw4011216905348546616:=0
def tw8984804164270836321:=0
def tw15823506162510520727:=0
def tw12296930549678866214:=0
def tw7118899722600280589:=0
def tw17754691700135376455:=0
def tw10503683354929445699:=0
def tw7807704494256241252:=0
def tw10255953077850970971:=0
def tw15466442664041416887:=0
def tw5006538777290505637:=0
def tw9737446861887747814:=0
def tw16901182785879178229:=0
def tw6617464871135080990:=0
def tw6113547389081711222:=0
def tw13980007898759461550:=0
def tw13606248103181361303:=0
def tw15489084423469162331:=0
def tw15590402032269145267:=0
def tw10535458069185806270:=0
def tw4759822550334396565:=0
def tw12369500311398619420:=0
def tw1874135206748844593:=0
def tw4013469953014605634:=0
def tw17120300469417140754:=0
def tw613725776644839030:=0
def tw9454648867042720757:=0
def tw12636397690157787746:=0
def tw102188563921593056:=0
def tw4958247969379063419:=0
def tw7536004612542179937:=0
def tw11470915940119239492:=0
def tw3885310427935892428:=0
def tw18389099671386780799:=0
def tw11607606408137734954:=0
def tw15466460820196653966:=0
def tw13423392991146311608:=0
def tw15770546791327812294:=0
def tw16220347570006655908:=0
def tw16313860715135758515:=0
def tw12809205402069111246:=0
def tw7045689287204748246:=0
def tw8965183168392259805:=0
def tw11806004501503356707:=0
def tw14127414729005543222:=0
def tw10478020014989404927:=0
def tw12708961547992908364:=0
def tw1522844916047820325:=0
def tw17084809890335228806:=0
def tw3107056891629421814:=0
def tw17939140503217916064:=0
def tw195756618500399665:=0
def tw18224686427247813059:=0
def tw11273968929154664780:=0
def tw14183182742743873217:=0
def tw11813568459338895678:=0
def tw6050217712157248204:=0
def tw16694861107408647397:=0
def tw16876362993735326001:=0
def tw6332111272787392858:=0
def tw5339823742697055542:=0
def tw843579935199431783:=0
def tw735163901863631787:=0
def tw8315943620332738811:=0
def tw17782984114349440436:=0
def tw6195083604190839052:=0
def tw18442422524488251187:=0
def tw4784232745059115185:=0
def tw857128622963531045:=0
def tw3868051212043620392:=0
def tw4217423554062156880:=0
def tw8372631223993325004:=0
def tw5786482082913739358:=0
def tw8198042919080746130:=0
def tw17780325977372450599:=0
def tw10491930574766527876:=0
def tw15884209886218755970:=0
def tw8485984611283066622:=0
def tw2912257534528880363:=0
def tw11399856625025933999:=0
def tw6630226015485907003:=0
def tw18354325780139402432:=0
def tw2020289169441995792:=0
def tw17800979694525634150:=0
def tw11250077067198780934:=0
def tw13983035806767175305:=0
def tw1645199856345756210:=0
def tw6812344190693959229:=0
def tw14125738275422106296:=0
def tw15732388416193009140:=0
def tw1255238657256313927:=0
def tw8010309031435391193:=0
def tw3625590884354586125:=0
def tw4638872538446099240:=0
def tw15779116467611755922:=0
def tw8352090183653870855:=0
def tw12856934088491692324:=0
def tw13512381000160791115:=0
def tw5555075985981933840:=0
def tw4982505782563206686:=0
def tw4604379485465347986:=0
def tw8704052468755651005:=0
def tw13297325410550287271:=0
def tw7727817862162883665:=0
def tw17663772673781613662:=0
def tw4544738634489431552:=0
def tw9179393256219256981:=0
def tw13628314416001550417:=0
def tw7423842485296013682:=0
def tw10563910575072712923:=0
def tw9852975281501353535:=0
def tw4557729831358893399:=0
def tw10605645253300957242:=0
def tw3179357582122057209:=0
def tw8104663064986301527:=0
def tw16539685558730951745:=0
def tw4454413058723920832:=0
def tw9268474578097557790:=0
def tw10673999663044595643:=0
def tw6326743433549967618:=0
def tw12035249290722469560:=0
def tw9668317919251733053:=0
def tw18192116598826191404:=0
def tw2464987805637893559:=0
def tw4141303432692933322:=0
def tw4501827941708811926:=0
def tw5861652840063220353:=0
def tw6541358633388122867:=0
def tw2127679649055154248:=0
def tw5704477533859634241:=0
def tw3309524915237308461:=0
def tw10005187663613206014:=0
def tw13666375481802649728:=0
def tw11352576717030384935:=0
def tw643439991388965057:=0
def tw15934723583285437624:=0
def tw15613223777712441571:=0
def tw14415562862904291296:=0
def tw18321290697940449268:=0
def tw11066126277073063294:=0
def tw1894211943930551841:=0
def tw17904660745290034764:=0
def tw17086087439756745066:=0
def tw8282857220604479492:=0
def tw1794136087755083853:=0
def tw17188317919404532089:=0
def tw4914079945775730196:=0
def tw9460469598477932695:=0
def tw15859235584522412172:=0
def tw1490301758682483975:=0
def tw14052902728841906309:=0
def tw17432725199181230513:=0
def tw7025795090708029833:=0
def tw11087522196241985122:=0
def tw2434419436824857597:=0
def tw16172273149381786432:=0
def tw6862210354887449278:=0
def tw5717184649370673523:=0
def tw8301536606705668476:=0
def tw11450099814984289941:=0
def tw14370311606035141997:=0
def tw7620479733205858161:=0
def tw9423127269618616780:=0
def tw15552103338385260771:=0
def tw833861705343941137:=0
def tw13586241239995145129:=0
def tw13638476625140142394:=0
def tw3470980774385744710:=0
def tw7630158744426144041:=0
def tw15297411180559899420:=0
def tw4752723070273890019:=0
def tw10807579655983296850:=0
def tw10929390475940680844:=0
def tw3454496760821241262:=0
def tw7519467699138606915:=0
def tw17739032932569754130:=0
def tw15958108244188012754:=0
def tw3244915483713232798:=0
def tw7748445706615386149:=0
def tw12348377871202226759:=0
def tw15606326755191144638:=0
def tw11527397391593369196:=0
def tw5565347529245559862:=0
def tw12028800495917410719:=0
def tw16351112641142740385:=0
def tw4077218828863794390:=0
def tw1873810459234312385:=0
def tw14611561529239220333:=0
def tw15861441060700452056:=0
def tw14040000211456754807:=0
def tw13130262217235571946:=0
def tw14330746528332182038:=0
def tw11695275649000099220:=0
def tw4286535598726684063:=0
def tw6019016147926613696:=0
def tw4706017012725866907:=0
def tw12268026872955958893:=0
def tw16744848158578887812:=0
def tw8778221572254932030:=0
def tw3735089797549072135:=0
def tw10878489562083707932:=0
def tw16747147612734520002:=0
def tw12308467139569512899:=0
def tw16918246770251207346:=0
def tw14519780154533880873:=0
def tw12094871764059677633:=0
def tw17391984258368168331:=0
def tw14543047783458731247:=0
def tw13711297179831120447:=0
def tw12524889468631526013:=0
def tw4350362999765815501:=0
def tw8148933250823678345:=0
def tw14936623628925108101:=0
def tw5716223806131791167:=0
def tw17858305287664076860:=0
def tw16373392819783574149:=0
def tw18390593920438267648:=0
def tw1028200992834048684:=0
def tw8958692185873443103:=0
def tw14474002529361185242:=0
def tw13774754887924585097:=0
def tw374947723946631665:=0
def tw13543404684456445977:=0
def tw12937995583960838894:=0
def tw16392341892871331763:=0
def tw69309638770958297:=0
def tw12825466937909324347:=0
def tw14022278064463880956:=0
def tw17184273937992619751:=0
def tw4079151054980612569:=0
def tw7282716890665990246:=0
def tw13553350700174323019:=0
def tw12217927657263267833:=0
def tw17837059536878565098:=0
def tw15141000569953256281:=0
def tw1365483652889758060:=0
def tw13360465630649852010:=0
def tw7963283961358009800:=0
def tw7408967722250026649:=0
def tw2034554398494967958:=0
def tw7054240269848089408:=0
def tw13815519630148731605:=0
def tw6788905319877727833:=0
def tw13418974176190759085:=0
def tw398932026831909107:=0
def tw14578084125502557009:=0
def tw6129485963630232957:=0
def tw936317619955963548:=0
def tw15312696520709898111:=0
def tw516829315530518453:=0
def tw10908321568978380243:=0
def tw7717556635122164003:=0
def tw12885818181334110567:=0
def tw11194367655716254587:=0
def tw11921787623465642303:=0
def tw1113466671467902522:=0
def tw12225931773257266197:=0
def tw3722708330866008390:=0
def tw3576044623931224569:=0
def tw15735361808714915292:=0
def tw14770944664310319386:=0
def tw748455226096077706:=0
def tw14135876774044979797:=0
def tw4750693031537478043:=0
def tw13703426964385845074:=0
def tw9312957824505777693:=0
def tw17318998113897228370:=0
def tw3418972331943708543:=0
def tw8071938090625072225:=0
def tw11944418711027703492:=0
def tw55258490747704373:=0
def tw8856459618110378799:=0
def tw9920383005626184415:=0
def tw14392930929405225155:=0
def tw13885175401836955258:=0
def tw15134055101574366805:=0
def tw11019108103065177152:=0
def tw1659047008655106211:=0
def tw9239121192769446308:=0
def tw982230914057725004:=0
def tw13877358725251310065:=0
def tw15896587403827537408:=0
def tw5804401671922734552:=0
def tw8096662195734855084:=0
def tw12955310485482900785:=0
def tw7990792669499697198:=0
def tw12821179506092322960:=0
def tw17166741432940236926:=0
def tw3867918153925496441:=0
def tw10471973376728603170:=0
def tw17016852803115596486:=0
def tw4865584765431562064:=0
def tw6401425216806380305:=0
def tw7376889936414304225:=0
def tw5609054614912249148:=0
def tw9471246003847831420:=0
def tw6896471440311618395:=0
def tw975148921354514170:=0
def tw6327344856065610144:=0
def tw1634617778774564484:=0
def tw15291889550759964813:=0
def tw9553993040671317469:=0
def tw17268128119335910600:=0
def tw17259738819866598709:=0
def tw1262978224212173023:=0
def tw18055090266779407960:=0
def tw14974681627949939048:=0
def tw12106277179707972353:=0
def tw1859188659418225281:=0
def tw1586664418388409400:=0
def tw9459401500106295025:=0
def tw1693146193315317883:=0
def tw15803384261928436547:=0
def tw2229283798455043098:=0
def tw12401538162697237045:=0
def tw1551397099741448500:=0
def tw5531812419292982110:=0
end PySem.W.Fast
open PySem PySem.W PyProof.Rows
set_option maxRecDepth 100000 in
set_option maxHeartbeats 0 in
theorem PySem.Challenge.cw_trickproof_k41_papers_looked_at_holds : PySem.Challenge.rw_trickproof_k41_papers_looked_at.Holds := by
 w_on;o_law;k_head;(case hw=>w_witness2)
 k_fill
 refine My.walk (l:=PySem.Challenge.rw_trickproof_k41_papers_looked_at) rfl rfl (fun w h Y=>PySem.W.kIn_of Y) ?F
 case F=>
  intro w mg fa h KX G hmg
  refine' My.all_mk KX G hmg ?_ ?_ ?_ ?_ ?_ ?_ ?_ ?_ ?_ ?_ ?_ ?_ ?_ ?_ ?_ ?_ ?_ ?_ ?_ ?_ ?_ ?_ ?_ ?_ ?_ ?_ ?_ ?_ ?_ ?_ ?_ ?_ ?_ ?_ ?_ ?_ ?_ ?_ ?_ ?_ ?_ ?_ ?_ ?_ ?_ ?_ ?_ ?_ ?_ ?_ ?_ ?_ ?_ ?_ ?_ ?_ ?_ ?_ ?_ ?_ ?_ ?_ ?_ ?_ ?_ ?_ ?_ ?_ ?_ ?_ ?_ ?_ ?_ ?_ ?_ ?_ ?_ ?_ ?_ ?_ ?_ ?_ ?_ ?_ ?_ ?_ ?_ ?_ ?_ ?_ ?_ ?_ ?_ ?_ ?_ ?_ ?_ ?_ ?_ ?_ ?_ ?_ ?_ ?_ ?_ ?_ ?_ ?_ ?_ ?_ ?_ ?_ ?_ ?_ ?_ ?_ ?_ ?_ ?_ ?_ ?_ ?_ ?_ ?_ ?_ ?_ ?_ ?_ ?_ ?_ ?_ ?_ ?_ ?_ ?_ ?_ ?_ ?_ ?_ ?_ ?_ ?_ ?_ ?_ ?_ ?_ ?_ ?_ ?_ ?_ ?_ ?_ ?_ ?_ ?_ ?_ ?_ ?_ ?_ ?_ ?_ ?_ ?_ ?_ ?_ ?_ ?_ ?_ ?_ ?_ ?_ ?_ ?_ ?_ ?_ ?_ ?_ ?_ ?_ ?_ ?_ ?_ ?_ ?_ ?_ ?_ ?_ ?_ ?_ ?_ ?_ ?_ ?_ ?_ ?_ ?_ ?_ ?_ ?_ ?_ ?_ ?_ ?_ ?_ ?_ ?_ ?_ ?_ ?_ ?_ ?_ ?_ ?_ ?_ ?_ ?_ ?_ ?_ ?_ ?_ ?_ ?_ ?_ ?_ ?_ ?_ ?_ ?_ ?_ ?_ ?_ ?_ ?_ ?_ ?_ ?_ ?_ ?_ ?_ ?_ ?_ ?_ ?_ ?_ ?_ ?_ ?_ ?_ ?_ ?_ ?_ ?_ ?_ ?_ ?_ ?_ ?_ ?_ ?_ ?_ ?_ ?_ ?_ ?_ ?_ ?_ ?_ ?_ ?_ ?_ ?_ ?_ ?_ ?_ ?_ ?_ ?_ ?_ ?_ ?_ ?_ ?_ ?_ ?_ ?_ ?_ ?_ ?_ ?_ ?_ ?_ ?_ ?_ ?_ ?_ ?_ ?_ ?_ ?_ ?x1
  rotate_left 212
  iterate 217 k_is
  iterate 82 (refine' L2.fun_mk ?_ ?_ ?_;rotate_left 9;iterate 3 k_is)
  (case x1=>k_exc)
#print axioms PySem.Challenge.cw_trickproof_k41_papers_looked_at_holds
