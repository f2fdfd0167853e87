import PyProof.Rows.All
import Wide.All
import OpenK.AllK
import Wide.FinOn
import Lean
import PyProof.EqAt
import PyProof.EqKinds
import PyProof.TupleCall
import PyProof.NeKinds
import PyProof.ListStr
import PyProof.Rows.SortStr
import KE.KIntText
import PySem.Challenge.RW_trickproof_k36_alike_cards_count_alike
set_option Elab.async false
set_option linter.all false
set_option maxRecDepth 100000
namespace L2
open PySem PySem.Spec PyProof.Rows
abbrev _root_.Yi:=@PyProof.Rows.boot_tuple
abbrev _root_.J5:=@PyProof.Rows.boot_list
abbrev _root_.Yg:=@PyProof.Rows.boot_sorted
abbrev _root_.Jr:=@PySem.F.plainAttrs_list
abbrev _root_.Uc:=@PySem.F.slot_list_append
abbrev _root_.Ub:=@PySem.F.type_list_append
abbrev _root_.Jg:=@PySem.boot_len
abbrev _root_.Za:=@List.getElem?_eq_getElem
abbrev _root_.Zj:=@List.getD_eq_getElem?_getD
abbrev _root_.Zl:=@List.getElem?_map
abbrev _root_.Yk:=@List.getElem?_range
abbrev _root_.Xq:=@List.getElem?_eq_none
abbrev _root_.Ji:=@List.getElem?_append_left
abbrev _root_.Jd:=@List.getElem?_append_right
abbrev _root_.Zh:=@List.getElem?_eq_some_iff
abbrev _root_.Zg:=@List.mem_of_getElem?
abbrev _root_.Zu:=@List.mem_cons_of_mem
abbrev _root_.Zt:=@List.mem_cons_self
abbrev _root_.Zf:=@List.length_map
abbrev _root_.Zs:=@List.length_append
abbrev _root_.Jb:=@List.length_range
abbrev _root_.Jc:=@List.length_cons
abbrev _root_.Ju:=@List.map_append
abbrev _root_.Z1:=@List.map_map
abbrev _root_.Zw:=@List.mem_map
abbrev _root_.Jh:=@List.mem_append
abbrev _root_.Z7:=@List.mem_singleton
abbrev _root_.Zr:=@Option.some.inj
abbrev _root_.Zq:=@Bool.false_ne_true
abbrev _root_.Zz:=@Int.toNat_natCast
abbrev _root_.Zd:=@decide_eq_false
abbrev _root_.Ze:=@decide_eq_true
abbrev _root_.Zi:=@Heap.get?_push_of_some
abbrev _root_.Z0:=@Heap.lt_size
abbrev _root_.Zc:=@wpAny_bind
abbrev _root_.Z8:=@List.mem_range
abbrev _root_.Y0:=@List.length_set
abbrev _root_.Z3:=@Nat.lt_of_lt_of_le
abbrev _root_.Ya:=@Nat.le_of_lt
abbrev _root_.J1:=@Nat.lt_of_le_of_lt
abbrev _root_.Jk:=@List.append_nil
abbrev _root_.Z2:=@List.mem_iff_getElem
abbrev _root_.Ua:=@List.ext_getElem?
abbrev _root_.Ut:=@List.append_assoc
abbrev _root_.Z4:=@of_decide_eq_true
abbrev _root_.J3:=@List.getElem_mem
abbrev _root_.Uh:=@List.length_eq_zero_iff
abbrev _root_.Yr:=@List.not_mem_nil
abbrev _root_.J7:=@Int.emod_nonneg
abbrev _root_.J6:=@Int.emod_lt_of_pos
abbrev _root_.Jq:=@List.map_congr_left
abbrev U8:=Sum Int Str
def Ti:U8→Value→Bool
 | .inl k,v=>Value.isInt k v
 | .inr x,v=>Value.isStrOf x v
def Zqs(w:World):U8→Int
 | .inl k=>hashInt k
 | .inr x=>hashStr w x
theorem Y9:∀{k:U8} {v:Value},Ti k v=true→(∃ i t,k=Sum.inl i∧v=Value.int i t)∨(∃ x t,k=Sum.inr x∧v=Value.str x t)
 | .inl i,v,h=>by
  obtain⟨t,e⟩:=Value.isInt_shape (k:=i) (v:=v) h;exact .inl ⟨i,t,rfl,e⟩
 | .inr x,v,h=>by
  obtain⟨t,e⟩:=Value.isStrOf_shape (x:=x) (v:=v) h;exact .inr ⟨x,t,rfl,e⟩
theorem Zd3(i:Int)(t:Tok):Ti (.inl i) (.int i t)=true:=by simp [Ti,Value.isInt]
theorem Zd2(x:Str)(t:Tok):Ti (.inr x) (.str x t)=true:=by simp [Ti,Value.isStrOf]
theorem Znw(a b:Int):decide ((Sum.inl a:U8)=Sum.inl b)=(a == b):=by
 by_cases e:a=b
 ·subst e;simp
 ·have h:¬ (Sum.inl a:U8)=Sum.inl b:=fun q=>e (Sum.inl.inj q)
  rw[Zd h];exact(beq_eq_false_iff_ne.mpr e).symm
theorem Znt(a b:Str):decide ((Sum.inr a:U8)=Sum.inr b)=decide (a=b):=by
 by_cases e:a=b
 ·subst e;simp
 ·have h:¬ (Sum.inr a:U8)=Sum.inr b:=fun q=>e (Sum.inr.inj q)
  rw[Zd h,Zd e]
theorem Znv(a:Int)(b:Str):decide ((Sum.inl a:U8)=Sum.inr b)=false:=Zd (fun q=>nomatch q)
theorem Znu(a:Str)(b:Int):decide ((Sum.inr a:U8)=Sum.inl b)=false:=Zd (fun q=>nomatch q)
def J4(prog:Program)(w:World):PySem.KeyKind prog w U8 where
 is:=Ti
 hash:=Zqs w
 inj:=fun v a b ha hb=>by
  rcases Y9 ha with⟨i,t,rfl,rfl⟩ | ⟨x,t,rfl,rfl⟩
  ·rcases Y9 hb with⟨j,u,rfl,e⟩ | ⟨y,u,rfl,e⟩
   ·injection e with e1 _;rw[e1]
   ·exact nomatch e
  ·rcases Y9 hb with⟨j,u,rfl,e⟩ | ⟨y,u,rfl,e⟩
   ·exact nomatch e
   ·injection e with e1 _;rw[e1]
 byValue:=fun k v h=>by
  rcases Y9 h with⟨i,t,rfl,rfl⟩ | ⟨x,t,rfl,rfl⟩<;>rfl
 pyHash:=fun hv h=>by
  rcases Y9 hv with⟨i,t,rfl,rfl⟩ | ⟨x,t,rfl,rfl⟩
  ·exact wpAny_pyHash_int h
  ·exact wpAny_pyHash_str h
 eqBool:=fun hu hv h=>by
  rcases Y9 hu with⟨i,t,rfl,rfl⟩ | ⟨x,t,rfl,rfl⟩
  ·rcases Y9 hv with⟨j,u,rfl,rfl⟩ | ⟨y,u,rfl,rfl⟩
   ·rw[Znw] at h;exact wpAny_eqBool_int h
   ·rw[Znv] at h;exact SeqAt.EqAt.int_str i t y u _ _ _ _ h
  ·rcases Y9 hv with⟨j,u,rfl,rfl⟩ | ⟨y,u,rfl,rfl⟩
   ·rw[Znu] at h;exact SeqAt.EqAt.str_int x t j u _ _ _ _ h
   ·rw[Znt] at h;exact wpAny_eqBool_str h
 «strs»:=fun k x t v h=>by
  rcases Y9 h with⟨i,u,rfl,e⟩ | ⟨y,u,rfl,e⟩
  ·exact nomatch e
  ·injection e with e1 _
   subst e1;cases v<;>rfl
theorem Qw(prog:Program)(w:World)(i:Int)(t:Tok):(J4 prog w).is (.inl i) (.int i t)=true:=Zd3 i t
theorem Kh(prog:Program)(w:World)(x:Str)(t:Tok):(J4 prog w).is (.inr x) (.str x t)=true:=Zd2 x t
inductive V where
 | non | bl (b:Bool) | int (i:Int) | str (x:Str) | byt (b:Array UInt8) | flt (b:UInt64) | ref (a:Addr) | ty (n:String)
 deriving DecidableEq
def RelV:V→Value→Prop
 | .non,u=>u=Value.none
 | .bl b,u=>u=Value.bool b
 | .int i,u=>∃ t,u=Value.int i t
 | .str x,u=>∃ t,u=Value.str x t
 | .byt b,u=>∃ t,u=Value.bytes b t
 | .flt b,u=>∃ t,u=Value.float b t
 | .ref a,u=>u=Value.ref a
 | .ty n,u=>u=Value.type n
abbrev Vals:List V→List Value→Prop:=Paired RelV
theorem Vals.length{xs:List V}{us:List Value}(r:Vals xs us):xs.length=us.length:=Paired.length r
theorem Vals.get:∀{xs:List V} {us:List Value} {i:Nat} {x:V},Vals xs us→xs[i]? = some x→∃ u,us[i]? = some u∧RelV x u
 | _,_,_,_,.nil,e=>by simp at e
 | _,_,0,_,.cons r _,e=>by simp at e;subst e;exact⟨_,rfl,r⟩
 | _,_,i+1,x,.cons _ t,e=>by
  obtain⟨u,h1,h2⟩:=Vals.get (i:=i) (x:=x) t (by simpa using e);exact⟨u,by simpa using h1,h2⟩
theorem Vals.set{x:V}{u:Value}(r:RelV x u):∀{xs:List V} {us:List Value} (i:Nat),Vals xs us→Vals (xs.set i x) (us.set i u)
 | _,_,_,.nil=>.nil
 | _,_,0,.cons _ t=>.cons r t
 | _,_,i+1,.cons q t=>.cons q (Vals.set r i t)
theorem Vals.append:∀{xs ys:List V} {us ws:List Value},Vals xs us→Vals ys ws→Vals (xs++ys) (us++ws)
 | _,_,_,_,.nil,s=>s
 | _,_,_,_,.cons r t,s=>.cons r (Vals.append t s)
theorem Vals.take:∀{xs:List V} {us:List Value} (n:Nat),Vals xs us→Vals (xs.take n) (us.take n)
 | _,_,0,_=>.nil
 | _,_,_+1,.nil=>.nil
 | _,_,n+1,.cons r t=>.cons r (Vals.take n t)
theorem Vals.drop:∀{xs:List V} {us:List Value} (n:Nat),Vals xs us→Vals (xs.drop n) (us.drop n)
 | _,_,0,r=>r
 | _,_,_+1,.nil=>.nil
 | _,_,n+1,.cons _ t=>Vals.drop n t
def RelO:Option V→Option Value→Prop
 | some v,some u=>RelV v u
 | none,none=>True
 | _,_=>False
def KV{κ:Type}:List (κ×V)→List (κ×Value)→Prop:=Paired fun(p:κ×V) (q:κ×Value)=>p.1=q.1∧RelV p.2 q.2
def kV:U8→V
 | .inl i=>.int i
 | .inr x=>.str x
inductive HO where
 | lst (xs:List V)
 | tup (xs:List V)
 | dK (kvs:List (U8×V)) | dT (kvs:List (List U8×V))
 | set (S:Int→Bool) (n:Nat)
 | ins (C dx:Addr) (fs:List (Str×V))
 | own (x:Addr)
 | xd (fs:List (Str×V))
 | met (f x:Addr)
 | rng (lo hi:Int)
 | frz (o:Obj) (u:HO)
 | tbl (ps:Array Value)
 | ext (φ:Heap→Prop)
abbrev Hp:=Addr→Option HO
def upd(H:Hp)(a:Addr)(o:HO):Hp:=fun b=>if b=a then some o else H b
theorem Zn{H:Hp}{a:Addr}{o:HO}:upd H a o a=some o:=by unfold upd;rw[if_pos rfl]
theorem Jf{H:Hp}{a b:Addr}{o:HO}(h:b≠a):upd H a o b=H b:=by unfold upd;rw[if_neg h]
theorem Uq{H:Hp}{a:Addr}{o u:HO}:upd (upd H a o) a u=upd H a u:=by
 funext b;unfold upd;split<;>rfl
theorem Mm{H:Hp}{a b:Addr}{o u:HO}(h:H a=some o)(h':H b=some u)(d:o≠u):a≠b:=by
 intro e;subst e;rw[h] at h';exact d (Zr h')
theorem Jv{H:Hp}{a b:Addr}{o:HO}(h:H a=some o)(h':H b=none):a≠b:=by
 intro e;subst e;rw[h] at h';cases h'
section
variable(P:Program)(w:World)
def ObjOk(H:Hp)(h:Heap)(a:Addr):HO→Prop
 | .lst xs=>xs.length≤sizeLine∧∃(its:List Value) (n:Nat),Vals xs its∧h.get? a=some { cls:=.type "list",data:=.seq its.toArray n }
 | .tup xs=>xs.length≤sizeLine∧∃ its:List Value,Vals xs its∧IsTup h a its.toArray
 | .dK kvs=>kvs.length≤sizeLine∧(a == sysModules)=false∧∃ vs,KV kvs vs∧h.DictOf (J4 P w) a vs
 | .dT kvs=>kvs.length≤sizeLine∧(a == sysModules)=false∧∃ xs:List (List U8×Addr×Value),
   Paired (fun(p:List U8×V) (q:List U8×Addr×Value)=>p.1=q.1∧H q.2.1=some (.tup (p.1.map kV))∧RelV p.2 q.2.2) kvs xs ∧
   ∃ o es ep,h.get? a=some o∧o.ExactDict∧o.data = .dict es ep∧es.toList=xs.map (entryOfKey (tupleKind (J4 P w)))∧(xs.map (·.1)).Nodup
 | .set S n=>h.SetOf (intKind P w) a S n
 | .ins C dx fs=>H dx=some (.own a)∧fs.length≤1000∧dx≠a∧h.get? a=some (W.instObj C dx) ∧
   ∃ mA,h.Ns1 dx mA∧(∀ f,RelO (fs.lookup f) (mA f))∧PySem.Within mA (fs.map (·.1))
 | .own _=>∃ o,h.get? a=some o
 | .xd fs=>∃ mA,h.Ns1 a mA∧∀ f,RelO (fs.lookup f) (mA f)
 | .rng lo hi=>∃ t u v,h.get? a=some { cls:=.type "range",data:=.fields #[.int lo t,.int hi u,.int 1 v] }
 | .frz o u=>h.get? a=some o∧ObjOk H h a u
 | .tbl ps=>h.get? a=some { cls:=.none,data:=.fields ps }
 | .met f x=>h.get? a=some (W.methodObj (.ref f) (.ref x))
 | .ext φ=>φ h∧(∃ o,h.get? a=some o)∧∀ h1 h2:Heap,φ h1→(∀ o,h1.get? a=some o→h2.get? a=some o)→φ h2
def HOk(H:Hp)(h:Heap):Prop:=∀ a o,H a=some o→ObjOk P w H h a o
end
section
variable{P:Program}{w:World}{H H':Hp}{h h':Heap}{a:Addr}{o:HO}
theorem ObjOk.lt(x:ObjOk P w H h a o):a < h.objs.size:=by
 cases o with
 | lst xs=>obtain⟨_,_,_,_,e⟩:=x;exact Z0 e
 | tup xs=>obtain⟨_,_,_,p⟩:=x;exact p.lt
 | dK kvs=>obtain⟨_,_,_,_,o,_,_,e,_⟩:=x;exact Z0 e
 | dT kvs=>obtain⟨_,_,_,_,o,_,_,e,_⟩:=x;exact Z0 e
 | set S n=>obtain⟨o,_,_,_,e,_⟩:=x;exact Z0 e
 | ins C dx fs=>obtain⟨_,_,_,e,_⟩:=x;exact Z0 e
 | own y=>obtain⟨_,e⟩:=x;exact Z0 e
 | xd fs=>obtain⟨_,⟨_,_,_,e,_⟩,_⟩:=x;exact Z0 e
 | rng lo hi=>obtain⟨_,_,_,e⟩:=x;exact Z0 e
 | frz ob u=>obtain⟨e,_⟩:=x;exact Z0 e
 | tbl ps=>exact Z0 (show h.get? a=some _ from x)
 | met f y=>exact Z0 (show h.get? a=some _ from x)
 | ext φ=>obtain⟨_,⟨_,e⟩,_⟩:=x;exact Z0 e
theorem Paired.mapP{α β:Type}{F G:α→β→Prop}:∀{l₁:List α} {l₂:List β},Paired F l₁ l₂→(∀ a b,F a b→G a b)→Paired G l₁ l₂
 | _,_,.nil,_=>.nil
 | _,_,.cons r t,f=>.cons (f _ _ r) (Paired.mapP t f)
theorem ObjOk.stay(x:ObjOk P w H h a o)(k:∀ b u,(b=a∨H b=some (.own a))→h.get? b=some u→h'.get? b=some u)
  (ho:∀ b,H b=some (.own a)→H' b=some (.own a)) (ht:∀ b xs,H b=some (.tup xs)→H' b=some (.tup xs)):ObjOk P w H' h' a o:=by
 induction o with
 | lst xs=>obtain⟨z,its,n,r,e⟩:=x;exact⟨z,its,n,r,k _ _ (.inl rfl) e⟩
 | tup xs=>obtain⟨z,its,r,ob,e,c⟩:=x;exact⟨z,its,r,ob,k _ _ (.inl rfl) e,c⟩
 | dK kvs=>obtain⟨z,y,vs,r,ob,es,ep,e,c⟩:=x;exact⟨z,y,vs,r,ob,es,ep,k _ _ (.inl rfl) e,c⟩
 | dT kvs=>
  obtain⟨z,y,xs,r,ob,es,ep,e,c⟩:=x;exact⟨z,y,xs,Paired.mapP r fun p q z=>⟨z.1,ht _ _ z.2.1,z.2.2⟩,ob,es,ep,k _ _ (.inl rfl) e,c⟩
 | set S n=>obtain⟨ob,es,ep,t,e,c⟩:=x;exact⟨ob,es,ep,t,k _ _ (.inl rfl) e,c⟩
 | ins C dx fs=>
  obtain⟨d,z,ne,e,mA,⟨od,es,ep,e2,c⟩,r⟩:=x;exact⟨ho _ d,z,ne,k _ _ (.inl rfl) e,mA,⟨od,es,ep,k _ _ (.inr d) e2,c⟩,r⟩
 | own y=>obtain⟨ob,e⟩:=x;exact⟨ob,k _ _ (.inl rfl) e⟩
 | xd fs=>obtain⟨mA,⟨od,es,ep,e,c⟩,r⟩:=x;exact⟨mA,⟨od,es,ep,k _ _ (.inl rfl) e,c⟩,r⟩
 | rng lo hi=>obtain⟨t,u,v,e⟩:=x;exact⟨t,u,v,k _ _ (.inl rfl) e⟩
 | frz ob u ih=>obtain⟨e,q⟩:=x;exact⟨k _ _ (.inl rfl) e,ih q⟩
 | tbl ps=>
  have e:h.get? a=some { cls:=.none,data:=.fields ps }:=x;show h'.get? a=some { cls:=.none,data:=.fields ps };exact k a _ (.inl rfl) e
 | met f y=>
  have e:h.get? a=some (W.methodObj (.ref f) (.ref y)):=x;show h'.get? a=some (W.methodObj (.ref f) (.ref y));exact k a _ (.inl rfl) e
 | ext φ=>obtain⟨p,⟨o,e⟩,st⟩:=x;exact⟨st _ _ p fun o q=>k _ _ (.inl rfl) q,⟨o,k _ _ (.inl rfl) e⟩,st⟩
theorem HOk.lt(x:HOk P w H h)(e:H a=some o):a < h.objs.size:=(x a o e).lt
theorem HOk.fresh(x:HOk P w H h)(e:h.objs.size≤a):H a=none:=by
 cases q:H a with
 | none=>rfl
 | some u=>exact absurd (Z3 (x.lt q) e) (Nat.lt_irrefl _)
theorem HOk.kept(x:HOk P w H h)(k:∀ b u,h.get? b=some u→h'.get? b=some u):HOk P w H h':=fun a o e=>
 (x a o e).stay (fun b u _ q=>k b u q) (fun _ q=>q) fun _ _ q=>q
theorem HOk.laid(x:HOk P w H h)(k:∀ b u,h.get? b=some u→h'.get? b=some u)(hp:h.objs.size≤a)(new:ObjOk P w (upd H a o) h' a o):HOk P w (upd H a o) h':=fun b u e=>by
 have hn:=x.fresh hp;by_cases hb:b=a
 ·subst hb;rw[Zn] at e;cases e;exact new
 ·rw[Jf hb] at e
  exact(x b u e).stay (fun c v _ q=>k c v q) (fun c q=>by rw[Jf (Jv q hn)];exact q) fun c xs q=>by rw[Jf (Jv q hn)];exact q
end
def Rd(H:Hp)(a:Addr)(u:HO):Prop:=H a=some u∨∃ o,H a=some (.frz o u)
theorem Rd.ok{P:Program}{w:World}{H:Hp}{h:Heap}{a:Addr}{u:HO}(r:Rd H a u)(x:HOk P w H h):ObjOk P w H h a u:=by
 rcases r with r | ⟨o,r⟩
 ·exact x a u r
 ·obtain⟨_,q⟩:=x a _ r
  exact q
def Mut:Option HO→Prop
 | some (.lst _)=>True
 | some (.dK _)=>True
 | some (.dT _)=>True
 | some (.set _ _)=>True
 | some (.ins _ _ _)=>True
 | some (.ext _)=>True
 | _=>False
section
variable{P:Program}{w:World}{H:Hp}{h h':Heap}{x e:Addr}{o':HO}
theorem HOk.write(ok:HOk P w H h)(mu:Mut (H x))(he:e=x∨H e=some (.own x))(k:∀ b u,b≠e→h.get? b=some u→h'.get? b=some u)(heo:∃ u,h'.get? e=some u)
  (new:ObjOk P w (upd H x o') h' x o'):HOk P w (upd H x o') h':=fun b u q=>by
 have nown:∀ c y,H c=some (.own y)→c≠x:=fun c y r z=>by subst z;rw[r] at mu;exact mu
 have ntup:∀ c xs,H c=some (.tup xs)→c≠x:=fun c xs r z=>by subst z;rw[r] at mu;exact mu
 by_cases hb:b=x
 ·subst hb;rw[Zn] at q;cases q;exact new
 ·rw[Jf hb] at q
  by_cases hbe:b=e
  ·have q':H b=some (.own x):=by
    rcases he with z | z
    ·exact absurd (hbe.trans z) hb
    ·rw[hbe];exact z
   rw[q] at q';cases q';obtain⟨v,hv⟩:=heo;exact⟨v,by rw[hbe];exact hv⟩
  ·refine(ok b u q).stay (fun c v hc r=>k c v ?_ r) (fun c r=>by rw[Jf (nown c b r)];exact r) fun c xs r=>by rw[Jf (ntup c xs r)];exact r
   rcases hc with rfl | hc
   ·exact hbe
   ·rintro rfl
    rcases he with z | z
    ·exact nown c b hc z
    ·rw[hc] at z;cases z;exact hb rfl
end
structure Un(fs ex:List Addr)(H H':Hp)(h h':Heap):Prop where
 keep:∀ b o,h.get? b=some o→H b=none→b∉fs→b∉ex→h'.get? b=some o
 slot:∀ b o,h.get? b=some o→H b=none→b∈fs→b∉ex→∃ sl,h'.get? b=some { o with slots:=sl }
 free:∀ b o,h.get? b=some o→H b=none→b∉ex→H' b=none
 there:∀ b o,h.get? b=some o→b∉ex→∃ o',h'.get? b=some o'
 tups:∀ b xs,H b=some (.tup xs)→H' b=some (.tup xs)
 frzs:∀ b o u,H b=some (.frz o u)→H' b=some (.frz o u)
 tbls:∀ b ps,H b=some (.tbl ps)→∃ more,H' b=some (.tbl (ps++more))
section
variable{fs fs' ex ex':List Addr}{H H1 H2:Hp}{h h1 h2 h':Heap}{a x e:Addr}{o:HO}
theorem Un.any(u:Un fs ex H H1 h h1){b:Addr}{ob:Obj}(q:h.get? b=some ob)(n:H b=none)(hx:b∉ex):∃ sl,h1.get? b=some { ob with slots:=sl }:=by
 by_cases hb:b∈fs
 ·exact u.slot b ob q n hb hx
 ·exact⟨ob.slots,u.keep b ob q n hb hx⟩
theorem Un.kept(k:∀ b u,h.get? b=some u→h'.get? b=some u):Un fs ex H H h h':=
 ⟨fun b ob q _ _ _=>k b ob q,fun b ob q _ _ _=>⟨ob.slots,k b ob q⟩,fun _ _ _ n _=>n,fun b ob q _=>⟨ob,k b ob q⟩,fun _ _ q=>q,fun _ _ _ q=>q,fun _ ps q=>⟨#[],by rw[q];simp⟩⟩
theorem Un.refl:Un fs ex H H h h:=Un.kept fun _ _ q=>q
theorem Un.laid(k:∀ b u,h.get? b=some u→h'.get? b=some u)(hp:h.objs.size≤a)(hn:H a=none):Un fs ex H (upd H a o) h h' where
 keep:=fun b u q _ _ _=>k b u q
 slot:=fun b u q _ _ _=>⟨u.slots,k b u q⟩
 free:=fun b u q n _=>by rw[Jf (Nat.ne_of_lt (Z3 (Z0 q) hp))];exact n
 there:=fun b u q _=>⟨u,k b u q⟩
 tups:=fun b xs q=>by rw[Jf (Jv q hn)];exact q
 frzs:=fun b u xs q=>by rw[Jf (Jv q hn)];exact q
 tbls:=fun b ps q=>⟨#[],by rw[Jf (Jv q hn),q];simp⟩
theorem Un.write(mu:Mut (H x))(he:e=x∨H e=some (.own x))(k:∀ b u,b≠e→h.get? b=some u→h'.get? b=some u)(heo:∃ u,h'.get? e=some u):Un fs ex H (upd H x o) h h':=by
 have hx:∀ b,H b=none→b≠x:=fun b n z=>by subst z;rw[n] at mu;exact mu
 have hb:∀ b,H b=none→b≠e:=fun b n z=>by
  subst z;rcases he with r | r
  ·exact hx b n r
  ·rw[n] at r;cases r
 have hm:∀ b u,H b=some u→¬ Mut (some u)→b≠x:=fun b u q nm z=>by subst z;rw[q] at mu;exact nm mu
 refine⟨fun b u q n _ _=>k b u (hb b n) q,fun b u q n _ _=>⟨u.slots,k b u (hb b n) q⟩,fun b u q n _=>by rw[Jf (hx b n)];exact n,fun b u q _=>?_,
  fun b xs q=>by rw[Jf (hm b _ q fun z=>z)];exact q,fun b u xs q=>by rw[Jf (hm b _ q fun z=>z)];exact q,fun b ps q=>⟨#[],by rw[Jf (hm b _ q fun z=>z),q];simp⟩⟩
 by_cases hbe:b=e
 ·subst hbe;exact heo
 ·exact⟨u,k b u hbe q⟩
end
def trk(h:Heap)(H:Hp):List Addr:=(List.range h.objs.size).filter fun a=>(H a).isSome
def Os(h:Heap)(H:Hp):Heap:=W.hideAll h (trk h H)
theorem Zd6(h:Heap)(H:Hp):(Os h H).objs.size=h.objs.size:=W.hideAll_size _ _
theorem Zhq{h:Heap}{H:Hp}{b:Addr}{o:Obj}(e:h.get? b=some o)(n:H b=none):(Os h H).get? b=some o:=
 W.hideAll_get _ e fun hm=>by
  have q:(H b).isSome=true:=(List.mem_filter.mp hm).2;rw[n] at q;simp at q
theorem Zkg{h:Heap}{H:Hp}{b:Addr}{o:Obj}(e:(Os h H).get? b=some o):h.get? b=some o∧H b=none:=by
 have e':h.get? b=some o:=W.of_hideAll (trk h H) e;refine⟨e',?_⟩;cases q:H b with
 | none=>rfl
 | some x=>
  have hm:b∈trk h H:=List.mem_filter.mpr ⟨Z8.mpr (Z0 e'),by simp [q]⟩;have z:(Os h H).get? b=none:=W.hideAll_none (trk h H) hm;rw[z] at e;cases e
def Zlf(g h:Heap)(L:Addr):List (Addr×Obj):=(List.range h.objs.size).filterMap fun a=>if a=L∨(g.get? a).isSome=true then none else(h.get? a).map fun o=>(a,o)
def Ew(g h:Heap)(L d:Addr):List (Addr×Obj):=(Zlf g h L).filter fun p=>decide (p.1≠d)
structure Mod(K:W.Frag)(mg:Str→Option Value)(base:Heap):Prop where
 kin:K.In base
 glob:base.Ns mainGlobals mg
 blt:∃ mb,base.Ns builtinsNs mb∧∀ x:Str,x≠"__name__"→mb x=bootBuiltins x
 nolimit:base.NoLimit
structure Cx where
 prog:Program
 w:World
 K:W.Frag
 mg:Str→Option Value
 base:Heap
 A:Around
 N:List Str
 s₀:Shared
 H₀:Hp
 env:Env
 outer:List Env
 stack:List Env
 ex:List Addr
 fn:Str→Bool
 calm:Bool
 pn:List (Addr×Obj)
 xe:Value→Shared→Prop
def Mw(l:List Env):List Addr:=l.filterMap (·.frame)
abbrev Cx.fs(X:Cx):List Addr:=Mw X.outer
def Vis(sc:Scope)(x:Str):Prop:=sc.names.lookup x=some .local∨sc.names.lookup x=some .cell∨sc.names.lookup x=some .free
def Loc(sc:Scope)(x:Str):Prop:=sc.names.lookup x=some .local∨sc.names.lookup x=some .cell
def Zq2(env:Env)(h:Heap)(m:Str→Option Value)(x:Str)(u:Value):Prop:=
 (env.kindOf x=some .local∧m x=some u)∨((env.kindOf x=some .cell∨env.kindOf x=some .free)∧∃ c,env.cells.lookup x=some c∧h.IsCell c (some u))
structure Cx.Ok(X:Cx):Prop where
 mod:Mod X.K X.mg X.base
 kind:X.env.scope.kind = .function
 glob:X.env.globals=mainGlobals
 blt:X.env.builtins=builtinsNs
 above:X.s₀.heap.objs.size≤X.env.locals
 inj:∀ x y c,X.env.cells.lookup x=some c→X.env.cells.lookup y=some c→x=y
 has:∀ x,(X.env.kindOf x=some .cell∨X.env.kindOf x=some .free)→∃ c,X.env.cells.lookup x=some c
 cab:∀ x c,X.fn x=true→X.env.cells.lookup x=some c→X.s₀.heap.objs.size≤c
 hd:X.calm=true→X.A.handled=none
 frames:X.A.frames=some X.stack
 stk:X.stack=X.outer∨(X.stack=X.env :: X.outer∧X.env.frame=some X.env.locals)
 exf:∀ b∈X.ex,b≠X.env.locals∧∀ x c,X.env.cells.lookup x=some c→c≠b
 bs:∀ b o,X.base.get? b=some o→X.s₀.heap.get? b=some o∧X.H₀ b=none
 bsz:X.base.objs.size≤X.s₀.heap.objs.size
 noex:∀ b o,X.base.get? b=some o→b∉X.ex
 exfs:∀ b∈X.ex,b∉X.fs
 funs:X.s₀.heap.FunFrames X.base X.outer
 frf:∀ b∈X.fs,X.H₀ b=none
structure Inv(X:Cx)(pins:List (Addr×Obj))(σ:List (Option V))(H:Hp)(s:Shared):Prop where
 ok:X.Ok
 os:s.os=X.s₀.os
 bare:AllBare s.gens
 base:Un X.fs X.ex X.H₀ H X.s₀.heap s.heap
 loc:∃ m,s.heap.Ns X.env.locals m∧∀(i:Nat) (x:Str) (v:V),X.N[i]? = some x→σ[i]? = some (some v)→Vis X.env.scope x→∃ u,RelV v u∧Zq2 X.env s.heap m x u
 cell:∀ x c,X.env.cells.lookup x=some c→∃ v,s.heap.IsCell c v
 free:H X.env.locals=none
 freeC:∀ x c,X.env.cells.lookup x=some c→H c=none
 pin:∀ p∈X.pn++pins,s.heap.get? p.1=some p.2∧H p.1=none∧p.1≠X.env.locals∧p.1∉X.fs∧∀ v,p.2.data ≠ .cell v
 hok:HOk X.prog X.w H s.heap
 len:σ.length=X.N.length
section
variable{X:Cx}{pins:List (Addr×Obj)}{σ:List (Option V)}{H H':Hp}{s:Shared}{h':Heap}
theorem Cx.Ok.nofr(ok:X.Ok){b:Addr}{o:Obj}(e:X.base.get? b=some o):b∉X.fs:=fun hb=>by
 have:=(ok.funs.mem hb).1;rw[e] at this;cases this
theorem Inv.bs(I:Inv X pins σ H s):∀ b o,X.base.get? b=some o→s.heap.get? b=some o∧H b=none:=fun b o e=>
 ⟨I.base.keep b o (I.ok.bs b o e).1 (I.ok.bs b o e).2 (I.ok.nofr e) (I.ok.noex b o e),I.base.free b o (I.ok.bs b o e).1 (I.ok.bs b o e).2 (I.ok.noex b o e)⟩
theorem Inv.bk(I:Inv X pins σ H s):∀ b o,X.base.get? b=some o→s.heap.get? b=some o:=fun b o e=>(I.bs b o e).1
theorem Inv.mod(I:Inv X pins σ H s):Mod X.K X.mg X.base:=I.ok.mod
theorem Inv.kIn(I:Inv X pins σ H s):X.K.In s.heap:=I.ok.mod.kin.keeps I.bk
theorem Inv.lt(I:Inv X pins σ H s):X.env.locals < s.heap.objs.size:=let ⟨_,hn,_⟩:=I.loc;hn.lt
theorem Inv.sz(I:Inv X pins σ H s):X.s₀.heap.objs.size≤s.heap.objs.size:=Nat.le_trans I.ok.above (Ya I.lt)
theorem Inv.nofs(I:Inv X pins σ H s){a:Addr}(h:s.heap.objs.size≤a):a∉X.fs:=fun hb=>by
 obtain⟨_,o,ho,_⟩:=I.ok.funs.mem hb;exact absurd (Z3 (Z0 ho) (Nat.le_trans I.sz h)) (Nat.lt_irrefl _)
theorem Inv.cne(I:Inv X pins σ H s):∀ x c,X.env.cells.lookup x=some c→c≠X.env.locals:=fun x c e z=>by
 obtain⟨v,o,ho,hd⟩:=I.cell x c e;obtain⟨m,⟨o',es,ep,ho',hd',_⟩,_⟩:=I.loc;rw[z,ho'] at ho;cases ho;rw[hd'] at hd;cases hd
theorem Inv.funs(I:Inv X pins σ H s):s.heap.FunFrames X.base X.outer:=by
 have all:∀(l:List Env),(∀ b∈Mw l,b∈X.fs)→X.s₀.heap.FunFrames X.base l→s.heap.FunFrames X.base l:=by
  intro l
  induction l with
  | nil=>intro _ _;trivial
  | cons env r ih=>
   intro hs hl;obtain⟨hk,⟨L,o,hf,hn,ho,hd⟩,hr⟩:=hl;have hL:L∈X.fs:=hs L (by unfold Mw;rw[List.filterMap_cons,hf];exact Zt);obtain⟨sl,e⟩:=I.base.slot L o ho (I.ok.frf L hL) hL fun z=>I.ok.exfs L z hL;exact⟨hk,⟨L,_,hf,hn,e,hd⟩,ih (fun b hb=>hs b (by unfold Mw;rw[List.filterMap_cons,hf];exact Zu _ hb)) hr⟩
 exact all X.outer (fun _ hb=>hb) I.ok.funs
theorem Inv.stack(I:Inv X pins σ H s):s.heap.FunFrames X.base X.stack:=by
 rcases I.ok.stk with e | ⟨e,hf⟩
 ·rw[e];exact I.funs
 ·rw[e]
  obtain⟨m,hn,_⟩:=I.loc;refine .cons (by rw[I.ok.kind];decide) hf hn ?_ I.funs;exact Heap.get?_none_of_le (Nat.le_trans I.ok.bsz I.ok.above)
theorem Inv.stkSub(I:Inv X pins σ H s):∀ b∈Mw X.stack,b∈X.env.locals :: X.fs:=fun b hb=>by
 rcases I.ok.stk with e | ⟨e,hf⟩
 ·rw[e] at hb;exact Zu _ hb
 ·rw[e] at hb
  unfold Mw at hb;rw[List.filterMap_cons,hf] at hb;exact hb
theorem Inv.stkFree(I:Inv X pins σ H s):∀ b∈Mw X.stack,H b=none:=fun b hb=>by
 rcases List.mem_cons.mp (I.stkSub b hb) with e | hb
 ·rw[e];exact I.free
 ·obtain⟨_,o,ho,_⟩:=I.ok.funs.mem hb
  exact I.base.free b o ho (I.ok.frf b hb) fun z=>I.ok.exfs b z hb
theorem Inv.step{g':Array GenState}{t':Nat}{d':Drawn}{ch:List Addr}(I:Inv X pins σ H s)
  (hch:∀ b∈ch,(b∈X.ex∨X.s₀.heap.objs.size≤b)∧b≠X.env.locals∧(∀ x c,X.env.cells.lookup x=some c→c≠b)∧∀ p∈X.pn++pins,p.1≠b)
  (keep:∀ b o,b≠X.env.locals→b∉X.fs→b∉ch→s.heap.get? b=some o→H b=none→h'.get? b=some o)
  (slot:∀ b o,b≠X.env.locals→b∈X.fs→b∉ch→s.heap.get? b=some o→H b=none→∃ sl,h'.get? b=some { o with slots:=sl }) (free:∀ b o,b∉ch→s.heap.get? b=some o→H b=none→H' b=none)
  (there:∀ b o,b∉ch→s.heap.get? b=some o→∃ o',h'.get? b=some o')
  (tups:∀ b xs,H b=some (.tup xs)→H' b=some (.tup xs)) (frzs:∀ b o u,H b=some (.frz o u)→H' b=some (.frz o u)) (tbls:∀ b ps,H b=some (.tbl ps)→∃ more,H' b=some (.tbl (ps++more)))
  (ns:∀ m,s.heap.Ns X.env.locals m→h'.Ns X.env.locals m) (hok:HOk X.prog X.w H' h') (hg:AllBare g') :
  Inv X pins σ H' { s with heap:=h',gens:=g',drawn:=d',toks:=t' }:=by
 have neL:∀ b o,X.s₀.heap.get? b=some o→b≠X.env.locals:=fun b o e=>Nat.ne_of_lt (Z3 (Z0 e) I.ok.above);have neC:∀ b o,X.s₀.heap.get? b=some o→b∉X.ex→b∉ch:=fun b o e hx hb=>by
  rcases(hch b hb).1 with z | z
  ·exact hx z
  ·exact absurd (Z3 (Z0 e) z) (Nat.lt_irrefl _)
 have cellK:∀ x c,X.env.cells.lookup x=some c→∀ v,s.heap.IsCell c v→h'.IsCell c v:=fun x c e v ⟨o,ho,hd⟩=>by
  have nch:c∉ch:=fun z=>(hch c z).2.2.1 x c e rfl;by_cases hc:c∈X.fs
  ·obtain⟨sl,q⟩:=slot c o (I.cne x c e) hc nch ho (I.freeC x c e)
   exact⟨_,q,hd⟩
  ·exact⟨o,keep c o (I.cne x c e) hc nch ho (I.freeC x c e),hd⟩
 refine⟨I.ok,I.os,hg,⟨fun b o e n hb hx=>?_,fun b o e n hb hx=>?_,fun b o e n hx=>?_,fun b o e hx=>?_,fun b xs e=>tups b xs (I.base.tups b xs e),fun b o xs e=>frzs b o xs (I.base.frzs b o xs e),fun b ps e=>?_⟩,?_,fun x c e=>?_,?_,fun x c e=>?_,fun p hp=>?_,hok,I.len⟩
 ·exact keep b o (neL b o e) hb (neC b o e hx) (I.base.keep b o e n hb hx) (I.base.free b o e n hx)
 ·obtain⟨sl,e1⟩:=I.base.slot b o e n hb hx
  obtain⟨sl',e2⟩:=slot b _ (neL b o e) hb (neC b o e hx) e1 (I.base.free b o e n hx);exact⟨sl',e2⟩
 ·obtain⟨o',e1⟩:=I.base.there b o e hx
  exact free b o' (neC b o e hx) e1 (I.base.free b o e n hx)
 ·obtain⟨o',e1⟩:=I.base.there b o e hx
  exact there b o' (neC b o e hx) e1
 ·obtain⟨m1,e1⟩:=I.base.tbls b ps e
  obtain⟨m2,e2⟩:=tbls b _ e1;exact⟨m1++m2,by rw[e2,Array.append_assoc]⟩
 ·obtain⟨m,hn,hl⟩:=I.loc
  refine⟨m,ns m hn,fun i x v e1 e2 e3=>?_⟩;obtain⟨u,r,l⟩:=hl i x v e1 e2 e3;refine⟨u,r,?_⟩;rcases l with l | ⟨k,c,e,z⟩
  ·exact .inl l
  ·exact .inr ⟨k,c,e,cellK x c e _ z⟩
 ·obtain⟨v,z⟩:=I.cell x c e
  exact⟨v,cellK x c e v z⟩
 ·obtain⟨m,⟨o,_,_,ho,_⟩,_⟩:=I.loc
  exact free _ o (fun z=>(hch _ z).2.1 rfl) ho I.free
 ·obtain⟨v,o,ho,hd⟩:=I.cell x c e
  exact free c o (fun z=>(hch c z).2.2.1 x c e rfl) ho (I.freeC x c e)
 ·obtain⟨e,n,ne,nf,d⟩:=I.pin p hp
  have nch:p.1∉ch:=fun z=>(hch p.1 z).2.2.2 p hp rfl;exact⟨keep p.1 p.2 ne nf nch e n,free p.1 p.2 nch e n,ne,nf,d⟩
theorem Inv.un{t':Nat}(I:Inv X pins σ H s)(u:Un X.fs [] H H' s.heap h')(hok:HOk X.prog X.w H' h'):Inv X pins σ H' { s with heap:=h',toks:=t' }:=by
 obtain⟨m,⟨o,es,ep,ho,r⟩,_⟩:=id I.loc;obtain⟨sl,hL⟩:=u.any ho I.free (by simp);exact I.step (g':=s.gens) (d':=s.drawn) (ch:=[]) (fun _ z=>nomatch z) (fun b o _ hb _ e n=>u.keep b o e n hb (by simp)) (fun b o _ hb _ e n=>u.slot b o e n hb (by simp)) (fun b o _ e n=>u.free b o e n (by simp)) (fun b o _ e=>u.there b o e (by simp)) u.tups u.frzs u.tbls (fun m' hm=>by
  obtain⟨o',es',ep',ho',r'⟩:=hm;rw[ho] at ho';cases ho';exact⟨_,es',ep',hL,r'⟩) hok I.bare
theorem Inv.call{g':Array GenState}{t':Nat}{d':Drawn}{ch:List Addr}(I:Inv X pins σ H s)(u:Un (Mw X.stack) ch H H' s.heap h')(hok:HOk X.prog X.w H' h')(hg:AllBare g')
  (hch:∀ b∈ch,(b∈X.ex∨X.s₀.heap.objs.size≤b)∧b≠X.env.locals∧(∀ x c,X.env.cells.lookup x=some c→c≠b)∧∀ p∈X.pn++pins,p.1≠b) :
  Inv X pins σ H' { s with heap:=h',gens:=g',drawn:=d',toks:=t' }:=by
 obtain⟨m,⟨o,es,ep,ho,r⟩,_⟩:=id I.loc;obtain⟨sl,hL⟩:=u.any ho I.free fun z=>(hch _ z).2.1 rfl;exact I.step (ch:=ch) hch (fun b o hL hb hc e n=>u.keep b o e n (fun z=>(List.mem_cons.mp (I.stkSub b z)).elim hL hb) hc) (fun b o _ _ hc e n=>u.any e n hc) (fun b o hc e n=>u.free b o e n hc) (fun b o hc e=>u.there b o e hc) u.tups u.frzs u.tbls (fun m' hm=>by
  obtain⟨o',es',ep',ho',r'⟩:=hm;rw[ho] at ho';cases ho';exact⟨_,es',ep',hL,r'⟩) hok hg
theorem Inv.turned{t':Nat}{it:Addr}(I:Inv X pins σ H s)(k:∀ b o,b≠it→s.heap.get? b=some o→h'.get? b=some o)(hn:H it=none)(hL:it≠X.env.locals)
  (h1:it∈X.ex∨X.s₀.heap.objs.size≤it) (h2:∀ x c,X.env.cells.lookup x=some c→c≠it) (h3:∀ p∈X.pn++pins,p.1≠it):Inv X pins σ H { s with heap:=h',toks:=t' }:=by
 have nit:∀ b u,H b=some u→b≠it:=fun b u e z=>by rw[z,hn] at e;cases e
 refine I.step (g':=s.gens) (d':=s.drawn) (ch:=[it]) (fun b hb=>?_) (fun b o _ _ hc e _=>k b o (fun z=>hc (by simp [z])) e) (fun b o _ _ hc e _=>⟨o.slots,k b o (fun z=>hc (by simp [z])) e⟩) (fun _ _ _ _ n=>n)
  (fun b o hc e=>⟨o,k b o (fun z=>hc (by simp [z])) e⟩) (fun _ _ e=>e) (fun _ _ _ e=>e) (fun b ps e=>⟨#[],by rw[e];simp⟩) (fun m hm=>?_) (fun b u e=>?_) I.bare
 ·have e:b=it:=by simpa using hb
  subst e;exact⟨h1,hL,h2,h3⟩
 ·obtain⟨o,es,ep,ho,r⟩:=hm
  exact⟨o,es,ep,k _ o (Ne.symm hL) ho,r⟩
 ·refine(I.hok b u e).stay (fun c v hc q=>k c v ?_ q) (fun _ q=>q) fun _ _ q=>q
  rcases hc with z | z
  ·rw[z];exact nit b u e
  ·exact nit c _ z
theorem Inv.tok(I:Inv X pins σ H s)(t:Nat):Inv X pins σ H { s with toks:=t }:=I.un (h':=s.heap) (t':=t) Un.refl I.hok
theorem Inv.kept{t':Nat}(I:Inv X pins σ H s)(k:∀ b u,s.heap.get? b=some u→h'.get? b=some u):Inv X pins σ H { s with heap:=h',toks:=t' }:=I.un (Un.kept k) (I.hok.kept k)
theorem Inv.laid{a:Addr}{o:HO}{t':Nat}(I:Inv X pins σ H s)(k:∀ b u,s.heap.get? b=some u→h'.get? b=some u)(hp:s.heap.objs.size≤a)(new:ObjOk X.prog X.w (upd H a o) h' a o) :
  Inv X pins σ (upd H a o) { s with heap:=h',toks:=t' }:=I.un (Un.laid k hp (I.hok.fresh hp)) (I.hok.laid k hp new)
theorem Inv.write{x e:Addr}{o:HO}{t':Nat}(I:Inv X pins σ H s)(mu:Mut (H x))(he:e=x∨H e=some (.own x))(k:∀ b u,b≠e→s.heap.get? b=some u→h'.get? b=some u)(heo:∃ u,h'.get? e=some u)
  (new:ObjOk X.prog X.w (upd H x o) h' x o):Inv X pins σ (upd H x o) { s with heap:=h',toks:=t' }:=I.un (Un.write mu he k heo) (I.hok.write mu he k heo new)
theorem Inv.pins_of{pins':List (Addr×Obj)}(I:Inv X pins σ H s)(h:∀ p∈pins',s.heap.get? p.1=some p.2∧H p.1=none∧p.1≠X.env.locals∧p.1∉X.fs∧∀ v,p.2.data ≠ .cell v):Inv X pins' σ H s:=
 ⟨I.ok,I.os,I.bare,I.base,I.loc,I.cell,I.free,I.freeC,fun p hp=>(Jh.mp hp).elim (fun z=>I.pin p (List.mem_append_left _ z)) (h p),I.hok,I.len⟩
theorem Kd{N:List Str}(hN:N.Nodup){i j:Nat}{x:Str}(a:N[i]? = some x)(b:N[j]? = some x):i=j:=by
 obtain⟨h1,e1⟩:=Zh.mp a;obtain⟨h2,e2⟩:=Zh.mp b;exact(List.getElem_inj hN).mp (e1.trans e2.symm)
theorem Vk{M:Model}{A:Around}{E:Value→Shared→Prop}{i:Nat}{x:Str}{v:V}{u:Value}{Q:Unit→Shared→Prop}(I:Inv X pins σ H s)(hN:X.N.Nodup)(hi:X.N[i]? = some x)(hx:Loc X.env.scope x)(r:RelV v u)
  (h:∀ s',Inv X pins (σ.set i (some v)) H s'→(∃ a,Heap.SameBut a s.heap s'.heap∧(a=X.env.locals∨X.env.cells.lookup x=some a))→Q () s') (hf:X.fn x=true∨X.env.scope.names.lookup x=some .local:=by first | exact .inl rfl | exact .inr rfl | assumption):wpAny M A (storeName X.env x u) Q E s:=by
 obtain⟨m,hn,hl⟩:=id I.loc;have hcls:(X.env.scope.kind == .class || (X.env.scope.kind == .module && X.env.locals != X.env.globals))=false:=by rw[I.ok.kind];rfl
 have hiσ:i < σ.length:=by rw[I.len];exact(Zh.mp hi).1
 have cne:=I.cne;have tracked:∀{a:Addr} {h':Heap},(∃ o,s.heap.get? a=some o∧H a=none)→Heap.SameBut a s.heap h'→HOk X.prog X.w H h':=fun {a h'} ha hs b ob e=>by
  obtain⟨_,_,hfree⟩:=ha;refine(I.hok b ob e).stay (fun c w' hc q=>(hs.2 c ?_).trans q) (fun _ q=>q) fun _ _ q=>q;rintro rfl;rcases hc with rfl | hc
  ·rw[hfree] at e;cases e
  ·rw[hfree] at hc;cases hc
 rcases hx with hk | hk
 ·refine wpAny_storeName_local hk hn (fun h' hn' hs=>?_) hcls
  obtain⟨oL,_,_,hoL,_⟩:=id hn;refine h _ ⟨I.ok,I.os,I.bare,⟨fun b o e n hb hx=>?_,fun b o e n hb hx=>?_,I.base.free,fun b o e hx=>?_,I.base.tups,I.base.frzs,I.base.tbls⟩,⟨_,hn',fun j y v' e1 e2 e3=>?_⟩,fun y c e=>?_,I.free,I.freeC,fun p hp=>?_,tracked ⟨oL,hoL,I.free⟩ hs,by simpa using I.len⟩ ⟨_,hs,.inl rfl⟩
  ·exact(hs.2 b (Nat.ne_of_lt (Z3 (Z0 e) I.ok.above))).trans (I.base.keep b o e n hb hx)
  ·obtain⟨sl,e1⟩:=I.base.slot b o e n hb hx
   exact⟨sl,(hs.2 b (Nat.ne_of_lt (Z3 (Z0 e) I.ok.above))).trans e1⟩
  ·obtain⟨o',e1⟩:=I.base.there b o e hx
   exact⟨o',(hs.2 b (Nat.ne_of_lt (Z3 (Z0 e) I.ok.above))).trans e1⟩
  ·by_cases hj:j=i
   ·subst hj
    rw[hi] at e1;cases e1;rw[List.getElem?_set_self hiσ] at e2;cases e2;exact⟨u,r,.inl ⟨hk,by simp⟩⟩
   ·rw[List.getElem?_set_ne (Ne.symm hj)] at e2
    obtain⟨u',r',q⟩:=hl j y v' e1 e2 e3;refine⟨u',r',?_⟩;rcases q with⟨k,e⟩ | ⟨k,c,e,z⟩
    ·refine .inl ⟨k,?_⟩
     have:y≠x:=fun e=>hj (Kd hN e1 (e ▸ hi));simp [this,e]
    ·exact .inr ⟨k,c,e,z.sameBut hs (cne y c e)⟩
  ·obtain⟨w',z⟩:=I.cell y c e
   exact⟨w',z.sameBut hs (cne y c e)⟩
  ·obtain⟨e,n,ne,nf,d⟩:=I.pin p hp
   exact⟨(hs.2 p.1 ne).trans e,n,ne,nf,d⟩
 ·have hfn:X.fn x=true:=by
   rcases hf with z | z
   ·exact z
   ·rw[z] at hk;cases hk
  obtain⟨c,hc⟩:=I.ok.has x (.inl hk);obtain⟨w',z⟩:=I.cell x c hc;refine wpAny_storeName_cell I.ok.kind hk hc z (fun h' hc' hs=>?_);obtain⟨oc,hoc,hocd⟩:=id z;refine h { s with heap:=h' } ⟨I.ok,I.os,I.bare,⟨fun b o e n hb hx=>?_,fun b o e n hb hx=>?_,I.base.free,fun b o e hx=>?_,I.base.tups,I.base.frzs,I.base.tbls⟩,⟨m,hn.sameBut hs (Ne.symm (cne x c hc)),fun j y v' e1 e2 e3=>?_⟩,fun y c' e=>?_,I.free,I.freeC,fun p hp=>?_,tracked ⟨oc,hoc,I.freeC x c hc⟩ hs,by simpa using I.len⟩ ⟨c,hs,.inr hc⟩
  ·exact(hs.2 b (Nat.ne_of_lt (Z3 (Z0 e) (I.ok.cab x c hfn hc)))).trans (I.base.keep b o e n hb hx)
  ·obtain⟨sl,e1⟩:=I.base.slot b o e n hb hx
   exact⟨sl,(hs.2 b (Nat.ne_of_lt (Z3 (Z0 e) (I.ok.cab x c hfn hc)))).trans e1⟩
  ·obtain⟨o',e1⟩:=I.base.there b o e hx
   exact⟨o',(hs.2 b (Nat.ne_of_lt (Z3 (Z0 e) (I.ok.cab x c hfn hc)))).trans e1⟩
  ·by_cases hj:j=i
   ·subst hj
    rw[hi] at e1;cases e1;rw[List.getElem?_set_self hiσ] at e2;cases e2;exact⟨u,r,.inr ⟨.inl hk,c,hc,hc'⟩⟩
   ·rw[List.getElem?_set_ne (Ne.symm hj)] at e2
    obtain⟨u',r',q⟩:=hl j y v' e1 e2 e3;refine⟨u',r',?_⟩;rcases q with q | ⟨k,c',e,z'⟩
    ·exact .inl q
    ·refine .inr ⟨k,c',e,z'.sameBut hs ?_⟩
     rintro rfl;exact hj (Kd hN e1 (I.ok.inj _ _ _ e hc ▸ hi))
  ·by_cases hcc:c'=c
   ·subst hcc;exact⟨_,hc'⟩
   ·obtain⟨w2,z2⟩:=I.cell y c' e
    exact⟨w2,z2.sameBut hs hcc⟩
  ·obtain⟨e,n,ne,nf,d⟩:=I.pin p hp
   refine⟨(hs.2 p.1 ?_).trans e,n,ne,nf,d⟩;intro q;rw[q,hoc] at e;have q':oc=p.2:=Zr e;exact d w' (by rw[← q'];exact hocd)
theorem Ah{M:Model}{A:Around}{E:Value→Shared→Prop}{i:Nat}{x:Str}{v:V}{u:Value}{Q:Unit→Shared→Prop}(I:Inv X pins σ H s)(hN:X.N.Nodup)(hi:X.N[i]? = some x)(hx:Loc X.env.scope x)(r:RelV v u)
  (h:∀ s',Inv X pins (σ.set i (some v)) H s'→Q () s') (hf:X.fn x=true∨X.env.scope.names.lookup x=some .local:=by first | exact .inl rfl | exact .inr rfl | assumption):wpAny M A (storeName X.env x u) Q E s:=
 Vk I hN hi hx r (fun s' I' _=>h s' I') hf
theorem Inv.call'{s':Shared}{ch:List Addr}(I:Inv X pins σ H s)(ho:s'.os=s.os)(u:Un (Mw X.stack) ch H H' s.heap s'.heap)(hok:HOk X.prog X.w H' s'.heap)(hg:AllBare s'.gens)
  (hch:∀ b∈ch,(b∈X.ex∨X.s₀.heap.objs.size≤b)∧b≠X.env.locals∧(∀ x c,X.env.cells.lookup x=some c→c≠b)∧∀ p∈X.pn++pins,p.1≠b):Inv X pins σ H' s':=by
 obtain⟨h',g',d',t',o'⟩:=s';have e:o'=s.os:=ho;subst e;exact I.call (g':=g') (t':=t') (d':=d') u hok hg hch
end
abbrev XK:=Value→Option Addr→Hp→Prop
abbrev St:=List (Option V)
abbrev VK:=V→Hp→Prop
abbrev TE:=St→Hp→VK→Prop
abbrev TT:=St→Hp→(Bool→Hp→Prop)→Prop
abbrev TA:=St→Hp→(List V→Hp→Prop)→Prop
structure Ends where
 nx:St→Hp→Prop
 rt:VK
 bk:St→Hp→Prop:=fun _ _=>False
 ct:St→Hp→Prop:=fun _ _=>False
abbrev TS:=Ends→St→Hp→Prop
def EP(X:Cx)(pins:List (Addr×Obj))(σ:St)(Q:VK)(u:Value)(s':Shared):Prop:=∃ v H',Inv X pins σ H' s'∧RelV v u∧Q v H'
def TP(X:Cx)(pins:List (Addr×Obj))(σ:St)(Q:Bool→Hp→Prop)(b:Bool)(s':Shared):Prop:=∃ H',Inv X pins σ H' s'∧Q b H'
def AP(X:Cx)(pins:List (Addr×Obj))(σ:St)(Q:List V→Hp→Prop)(us:List Value)(s':Shared):Prop:=∃ vs H',Inv X pins σ H' s'∧Vals vs us∧Q vs H'
def SP(X:Cx)(pins:List (Addr×Obj))(D:Ends)(f:Flow)(s':Shared):Prop:=
 match f with
 | .next=>∃ σ' H',Inv X pins σ' H' s'∧D.nx σ' H'
 | .brk=>∃ σ' H',Inv X pins σ' H' s'∧D.bk σ' H'
 | .cont=>∃ σ' H',Inv X pins σ' H' s'∧D.ct σ' H'
 | .ret u=>∃ v σ' H',Inv X pins σ' H' s'∧RelV v u∧D.rt v H'
def PE(X:Cx)(e:Expr)(t:TE):Prop:=
 ∀(pins:List (Addr×Obj)) (s:Shared) (σ:St) (H:Hp) (Q:VK),Inv X pins σ H s→t σ H Q→wpAny (model X.prog X.w) X.A (eval e X.env) (EP X pins σ Q) X.xe s
def PT(X:Cx)(e:Expr)(t:TT):Prop:=
 ∀(pins:List (Addr×Obj)) (s:Shared) (σ:St) (H:Hp) (Q:Bool→Hp→Prop),Inv X pins σ H s→t σ H Q→wpAny (model X.prog X.w) X.A (isTrue e X.env (eval e X.env)) (TP X pins σ Q) X.xe s
def PW(X:Cx)(e:Expr)(t:TT):Prop:=
 ∀(whole:Sem Value) (pins:List (Addr×Obj)) (s:Shared) (σ:St) (H:Hp) (Q:Bool→Hp→Prop),Inv X pins σ H s→t σ H Q→wpAny (model X.prog X.w) X.A (isTrue e X.env whole) (TP X pins σ Q) X.xe s
theorem PW.pt{X:Cx}{e:Expr}{t:TT}(h:PW X e t):PT X e t:=h _
def PA(X:Cx)(es:List Expr)(t:TA):Prop:=
 ∀(pos:Pos) (pins:List (Addr×Obj)) (s:Shared) (σ:St) (H:Hp) (Q:List V→Hp→Prop),Inv X pins σ H s→t σ H Q→wpAny (model X.prog X.w) X.A (spliced (backTo pos (starEach es X.env))) (AP X pins σ Q) X.xe s
def PS(X:Cx)(st:Stmt)(t:TS):Prop:=
 ∀(pins:List (Addr×Obj)) (s:Shared) (σ:St) (H:Hp) (D:Ends),Inv X pins σ H s→t D σ H→wpAny (model X.prog X.w) X.A (exec st X.env) (SP X pins D) X.xe s
def PSs(X:Cx)(st:List Stmt)(t:TS):Prop:=
 ∀(pins:List (Addr×Obj)) (s:Shared) (σ:St) (H:Hp) (D:Ends),Inv X pins σ H s→t D σ H→wpAny (model X.prog X.w) X.A (execs st X.env) (SP X pins D) X.xe s
theorem Y1{α:Type}{t:Sem α}{Q Q':α→Shared→Prop}{M:Model}{A:Around}{E:Value→Shared→Prop}{s:Shared}(h:wpAny M A t Q E s)(hQ:∀ a s,Q a s→Q' a s):wpAny M A t Q' E s:=wpAny_mono h hQ fun _ _ x=>x
section
variable{X:Cx}
def Zcz(i:Nat):TE:=fun σ H Q=>∃ v,σ[i]? = some (some v)∧Q v H
def tC(v:V):TE:=fun _ H Q=>Q v H
theorem Zmw{i:Nat}{x:Str}{pos:Pos}(hN:X.N[i]? = some x)(hv:Vis X.env.scope x)(hd:(x == ("__debug__":Str))=false:=by decide)(hcd:(x == ("__classdict__":Str))=false:=by decide):PE X (.Name x pos) (Zcz i):=by
 intro pins s σ H Q I h;obtain⟨v,e,h⟩:=h;obtain⟨m,hn,hl⟩:=I.loc;obtain⟨u,r,l⟩:=hl i x v hN e hv;have fin:EP X pins σ Q u s:=⟨v,H,I,r,h⟩;rcases l with⟨hk,hm⟩ | ⟨hk,c,hc,hcell⟩
 ·exact wpAny_Name (wpAny_loadName_local I.ok.kind hk hn hm fin) hd
 ·rcases hk with hk | hk
  ·exact wpAny_Name (wpAny_loadName_cell I.ok.kind hk hc hcell fin) hd
  ·exact wpAny_Name (wpAny_loadName_free I.ok.kind hk hc hcell fin hcd) hd
theorem Zo{i j pos}:PE X (.Constant (.int i) j pos) (tC (.int i)):=fun _ _ _ H _ I h=>wpAny_Constant_int ⟨.int i,H,I.tok _,⟨_,rfl⟩,h⟩
theorem Ao{b j pos}:PE X (.Constant (.bool b) j pos) (tC (.bl b)):=fun _ _ _ H _ I h=>Constant_bool ⟨.bl b,H,I,rfl,h⟩
theorem Vu{j pos}:PE X (.Constant .none j pos) (tC .non):=fun _ _ _ H _ I h=>Constant_none ⟨.non,H,I,rfl,h⟩
theorem Yl{x j pos}:PE X (.Constant (.str x) j pos) (tC (.str x)):=fun _ _ _ H _ I h=>Calls.Constant_str ⟨.str x,H,I.tok _,⟨_,rfl⟩,h⟩
def Gl(X:Cx)(x:Str):Prop:=X.env.kindOf x=some .globalImplicit
theorem B0{E:Value→Shared→Prop}{pins:List (Addr×Obj)}{s:Shared}{σ:St}{H:Hp}{x:Str}{u:Value}{pos:Pos}{Q:Value→Shared→Prop}(I:Inv X pins σ H s)(hg:Gl X x)(hm:X.mg x=some u)(h:Q u s)
  (hd:(x == ("__debug__":Str))=false:=by decide):wpAny (model X.prog X.w) X.A (eval (.Name x pos) X.env) Q E s:=
 Calls.Name_function_global I.ok.kind hg (Calls.loadGlobal_global (by rw[I.ok.glob];exact I.mod.glob.keeps I.bk) hm h) hd
theorem Tg{E:Value→Shared→Prop}{pins:List (Addr×Obj)}{s:Shared}{σ:St}{H:Hp}{x:Str}{u:Value}{pos:Pos}{Q:Value→Shared→Prop}(I:Inv X pins σ H s)(hg:Gl X x)(hm:X.mg x=none)(hv:bootBuiltins x=some u)(h:Q u s)
  (hn:x≠"__name__":=by decide) (hd:(x == ("__debug__":Str))=false:=by decide):wpAny (model X.prog X.w) X.A (eval (.Name x pos) X.env) Q E s:=by
 obtain⟨mb,h1,h2⟩:=I.mod.blt;exact Calls.Name_function_global I.ok.kind hg (Calls.loadGlobal_builtin (by rw[I.ok.glob];exact I.mod.glob.keeps I.bk) hm (by rw[I.ok.blt];exact h1.keeps I.bk) ((h2 x hn).trans hv) h) hd
theorem Yy{x:Str}{v:V}{u:Value}{pos:Pos}(hg:Gl X x)(hm:X.mg x=some u)(r:RelV v u)(hd:(x == ("__debug__":Str))=false:=by decide):PE X (.Name x pos) (tC v):=
 fun _ _ _ H _ I h=>B0 I hg hm ⟨v,H,I,r,h⟩ hd
theorem Zjr{x:Str}{v:V}{u:Value}{pos:Pos}(hg:Gl X x)(hm:X.mg x=none)(hv:bootBuiltins x=some u)(r:RelV v u)(hn:x≠"__name__":=by decide)(hd:(x == ("__debug__":Str))=false:=by decide):PE X (.Name x pos) (tC v):=
 fun _ _ _ H _ I h=>Tg I hg hm hv ⟨v,H,I,r,h⟩ hn hd
variable{a b:Expr}{ta tb:TE}{pos:Pos}
def PC(X:Cx)(op:CmpOp)(a b:Expr)(t:TE):Prop:=
 ∀(pins:List (Addr×Obj)) (s:Shared) (σ:St) (H:Hp) (Q:VK),Inv X pins σ H s→t σ H Q →
  wpAny (model X.prog X.w) X.A (eval a X.env) (fun v s₁=>wpAny (model X.prog X.w) X.A (eval b X.env) (fun u s₂=>wpAny (model X.prog X.w) X.A (compareOp op v u) (EP X pins σ Q) X.xe s₂) X.xe s₁) X.xe s
def tB(t:TE):TT:=fun σ H Q=>t σ H fun x H1=>∃ c,x = .bl c∧Q c H1
theorem Zmr{op:CmpOp}{t:TE}(h:PC X op a b t)(h1:behindInMarks op b=false:=by first | exact nobehind _ (by decide) (by decide) | rfl):PT X (.Compare a [op] [b] pos) (tB t):=by
 intro pins s σ H Q I hw;refine wpAny_isTrue_Compare1 (Y1 (h pins s σ H _ I hw) fun v s1 h1=>Y1 h1 fun u s2 h2=>Y1 h2 fun c s3 ⟨x,H1,I1,r1,q1⟩=>?_) h1;obtain⟨d,rfl,q⟩:=q1;cases r1;exact wpAny_truthy_bool ⟨H1,I1,q⟩
variable{tA tB':TT}{Ew:List Expr}
def Zqf(t u:TT):TT:=fun σ H Q=>t σ H fun c H1=>if c=true then u σ H1 Q else Q false H1
def tOr(t u:TT):TT:=fun σ H Q=>t σ H fun c H1=>if c=true then Q true H1 else u σ H1 Q
def Zp8(t:TT):TT:=fun σ H Q=>t σ H fun c H1=>Q (!c) H1
theorem Rw(ha:PT X a tA):PW X (.BoolOp .And [a] pos) tA:=by
 intro wh pins s σ H Q I h;refine isTrue_and (Y1 (ha pins s σ H Q I h) fun c s1 e=>?_);cases c with
 | true=>exact isTrue_and_nil e
 | false=>exact e
theorem Vr(ha:PT X a tA):PW X (.BoolOp .Or [a] pos) tA:=by
 intro wh pins s σ H Q I h;refine isTrue_or (Y1 (ha pins s σ H Q I h) fun c s1 e=>?_);cases c with
 | false=>exact isTrue_or_nil e
 | true=>exact e
theorem Ob(ha:PT X a tA)(hb:PW X (.BoolOp .And (b :: Ew) pos) tB'):PW X (.BoolOp .And (a :: b :: Ew) pos) (Zqf tA tB'):=by
 intro wh pins s σ H Q I h;refine isTrue_and (Y1 (ha pins s σ H _ I h) fun c s1 ⟨H1,I1,q1⟩=>?_);cases c with
 | true=>exact hb wh pins s1 σ H1 Q I1 q1
 | false=>exact⟨H1,I1,q1⟩
theorem Gy(ha:PT X a tA)(hb:PW X (.BoolOp .Or (b :: Ew) pos) tB'):PW X (.BoolOp .Or (a :: b :: Ew) pos) (tOr tA tB'):=by
 intro wh pins s σ H Q I h;refine isTrue_or (Y1 (ha pins s σ H _ I h) fun c s1 ⟨H1,I1,q1⟩=>?_);cases c with
 | true=>exact⟨H1,I1,q1⟩
 | false=>exact hb wh pins s1 σ H1 Q I1 q1
theorem Zmq(ha:PT X a tA):PT X (.UnaryOp .Not a pos) (Zp8 tA):=by
 intro pins s σ H Q I h;exact isTrue_not (ha pins s σ H (fun c H1=>Q (!c) H1) I h)
def Zop(ta tb:TE):TE:=fun σ H Q=>ta σ H fun x H1=>∃ c,x = .bl c∧if c=true then tb σ H1 Q else Q (.bl false) H1
theorem Zgc{op}{t:TE}(h:PE X a t):PE X (.BoolOp op [a] pos) t:=fun pins s σ H Q I hw=>BoolOp_one (h pins s σ H Q I hw)
theorem Zgj(ha:PE X a ta)(hb:PE X (.BoolOp .And (b :: Ew) pos) tb):PE X (.BoolOp .And (a :: b :: Ew) pos) (Zop ta tb):=by
 intro pins s σ H Q I h;refine BoolOp_and (Y1 (ha pins s σ H _ I h) fun v s1 ⟨x,H1,I1,r1,q1⟩=>?_);obtain⟨c,rfl,q1⟩:=q1;cases r1;refine wpAny_truthy_bool ?_;cases c with
 | true=>exact hb pins s1 σ H1 Q I1 q1
 | false=>exact⟨.bl false,H1,I1,rfl,q1⟩
def tIf(t:TT)(ta tb:TE):TE:=fun σ H Q=>t σ H fun c H1=>if c=true then ta σ H1 Q else tb σ H1 Q
theorem Q4{c:Expr}(hc:PT X c tA)(ha:PE X a ta)(hb:PE X b tb):PE X (.IfExp c a b pos) (tIf tA ta tb):=by
 intro pins s σ H Q I h;refine wpAny_IfExp (Y1 (hc pins s σ H _ I h) fun d s1 ⟨H1,I1,q1⟩=>?_);cases d with
 | true=>exact ha pins s1 σ H1 Q I1 q1
 | false=>exact hb pins s1 σ H1 Q I1 q1
end
def SqL(K:W.Frag)(H:Hp)(a:Addr)(xs:List V):Prop:=
 Rd H a (.lst xs) ∨
  ∃(o:Obj) (its:Array Value) (n:Nat),K.lookup a=some o∧o.cls = .type "list"∧o.dict=none∧o.data = .seq its n∧its.size≤sizeLine∧Vals xs its.toList
def SqT(K:W.Frag)(H:Hp)(a:Addr)(xs:List V):Prop:=
 Rd H a (.tup xs) ∨
  ∃(o:Obj) (its:Array Value) (n:Nat),K.lookup a=some o∧o.cls = .type "tuple"∧o.data = .seq its n∧its.size≤sizeLine∧Vals xs its.toList
def Zqz:Value→Option V
 | .none=>some .non
 | .bool b=>some (.bl b)
 | .int i _=>some (.int i)
 | .str x _=>some (.str x)
 | .bytes b _=>some (.byt b)
 | .float b _=>some (.flt b)
 | .ref a=>some (.ref a)
 | .type n=>some (.ty n)
 | _=>none
theorem RelV.abs{x:V}{u:Value}(r:RelV x u):Zqz u=some x:=by
 cases x with
 | non=>cases r;rfl
 | bl _=>cases r;rfl
 | int _=>obtain⟨t,rfl⟩:=r;rfl
 | str _=>obtain⟨t,rfl⟩:=r;rfl
 | byt _=>obtain⟨t,rfl⟩:=r;rfl
 | flt _=>obtain⟨t,rfl⟩:=r;rfl
 | ref _=>cases r;rfl
 | ty _=>cases r;rfl
theorem RelV.inj{x y:V}{u:Value}(r:RelV x u)(q:RelV y u):x=y:=Zr (r.abs.symm.trans q.abs)
theorem Vals.inj:∀{xs ys:List V} {us:List Value},Vals xs us→Vals ys us→xs=ys
 | _,_,_,.nil,.nil=>rfl
 | _,_,_,.cons r t,.cons r' t'=>by rw[r.inj r',Vals.inj t t']
section
variable{X:Cx}{pins:List (Addr×Obj)}{σ:St}{H:Hp}{s:Shared}{a:Addr}{xs ys:List V}
theorem SqL.of{K:W.Frag}(h:H a=some (.lst xs)):SqL K H a xs:=.inl (.inl h)
theorem SqT.of{K:W.Frag}(h:H a=some (.tup xs)):SqT K H a xs:=.inl (.inl h)
theorem Inv.list(I:Inv X pins σ H s)(h:SqL X.K H a xs):∃ its:List Value,Vals xs its∧PlainL s.heap a its.toArray∧xs.length≤sizeLine:=by
 rcases h with h | ⟨o,its,n,hk,hc,hd,hs,hz,r⟩
 ·obtain⟨z,its,n,r,e⟩:=h.ok I.hok
  exact⟨its,r,⟨_,n,e,rfl,rfl,rfl⟩,z⟩
 ·refine⟨its.toList,r,⟨o,n,I.kIn a o hk,hc,hd,by simpa using hs⟩,?_⟩
  have e:=r.length;simp only[Array.length_toList] at e;omega
theorem Inv.tuple(I:Inv X pins σ H s)(h:SqT X.K H a xs):∃ its:List Value,Vals xs its∧IsTup s.heap a its.toArray∧xs.length≤sizeLine:=by
 rcases h with h | ⟨o,its,n,hk,hc,hs,hz,r⟩
 ·obtain⟨z,its,r,p⟩:=h.ok I.hok
  exact⟨its,r,p,z⟩
 ·refine⟨its.toList,r,⟨o,I.kIn a o hk,hc,n,by simpa using hs⟩,?_⟩
  have e:=r.length;simp only[Array.length_toList] at e;omega
theorem Inv.list_inj(I:Inv X pins σ H s)(h:SqL X.K H a xs)(h':SqL X.K H a ys):xs=ys:=by
 obtain⟨its,r,⟨o,n,e,_,_,d⟩,_⟩:=I.list h;obtain⟨its',r',⟨o',n',e',_,_,d'⟩,_⟩:=I.list h';rw[e] at e';cases e';rw[d] at d';injection d' with d1 _
 have:its=its':=by simpa using congrArg Array.toList d1
 subst this;exact r.inj r'
theorem Inv.tuple_inj(I:Inv X pins σ H s)(h:SqT X.K H a xs)(h':SqT X.K H a ys):xs=ys:=by
 obtain⟨its,r,⟨o,e,_,n,d⟩,_⟩:=I.tuple h;obtain⟨its',r',⟨o',e',_,n',d'⟩,_⟩:=I.tuple h';rw[e] at e';cases e';rw[d] at d';injection d' with d1 _
 have:its=its':=by simpa using congrArg Array.toList d1
 subst this;exact r.inj r'
end
abbrev Cx.wish(X:Cx)(E:Value→Shared→Prop):Cx:={ X with xe:=E }
abbrev Cx.nox(X:Cx):Cx:=X.wish fun _ _=>False
theorem Cx.Ok.wish{X:Cx}(ok:X.Ok)(E:Value→Shared→Prop):(X.wish E).Ok:=
 ⟨ok.mod,ok.kind,ok.glob,ok.blt,ok.above,ok.inj,ok.has,ok.cab,ok.hd,ok.frames,ok.stk,ok.exf,ok.bs,ok.bsz,ok.noex,ok.exfs,ok.funs,ok.frf⟩
theorem Cx.Ok.unwish{X:Cx}{E:Value→Shared→Prop}(ok:(X.wish E).Ok):X.Ok:=
 ⟨ok.mod,ok.kind,ok.glob,ok.blt,ok.above,ok.inj,ok.has,ok.cab,ok.hd,ok.frames,ok.stk,ok.exf,ok.bs,ok.bsz,ok.noex,ok.exfs,ok.funs,ok.frf⟩
section
variable{X:Cx}{pins:List (Addr×Obj)}{σ:St}{H:Hp}{s:Shared}{E:Value→Shared→Prop}
theorem Inv.wish(I:Inv X pins σ H s)(E:Value→Shared→Prop):Inv (X.wish E) pins σ H s:=⟨I.ok.wish E,I.os,I.bare,I.base,I.loc,I.cell,I.free,I.freeC,I.pin,I.hok,I.len⟩
theorem Inv.unwish(I:Inv (X.wish E) pins σ H s):Inv X pins σ H s:=⟨I.ok.unwish,I.os,I.bare,I.base,I.loc,I.cell,I.free,I.freeC,I.pin,I.hok,I.len⟩
theorem SP.unwish{D:Ends}{f:Flow}{s':Shared}(h:SP (X.wish E) pins D f s'):SP X pins D f s':=by
 cases f with
 | next=>obtain⟨σ',H',I,q⟩:=h;exact⟨σ',H',I.unwish,q⟩
 | brk=>obtain⟨σ',H',I,q⟩:=h;exact⟨σ',H',I.unwish,q⟩
 | cont=>obtain⟨σ',H',I,q⟩:=h;exact⟨σ',H',I.unwish,q⟩
 | ret u=>obtain⟨v,σ',H',I,r,q⟩:=h;exact⟨v,σ',H',I.unwish,r,q⟩
theorem PSs.nox{st:List Stmt}{t:TS}(h:PSs X.nox st t):PSs X st t:=fun pins s σ H D I hw=>
 wpAny_mono (h pins s σ H D (I.wish _) hw) (fun _ _ q=>q.unwish) fun _ _ z=>False.elim z
end
section
variable{X:Cx}{st:Stmt}{Ew:List Stmt}{t u:TS}{e:Expr}{te:TE}{pos:Pos}
def Zll:TS:=fun D σ H=>D.nx σ H
def Ze4(t u:TS):TS:=fun D σ H=>t { D with nx:=u D } σ H
theorem Jz:PSs X [] Zll:=fun _ _ σ H _ I h=>wpAny_execs_nil ⟨σ,H,I,h⟩
theorem Zm(h1:PS X st t)(h2:PSs X Ew u):PSs X (st :: Ew) (Ze4 t u):=by
 intro pins s σ H D I h;refine wpAny_execs_cons (Y1 (h1 pins s σ H { D with nx:=u D } I h) fun f s1 q=>?_);cases f with
 | next=>
  obtain⟨σ',H',I',q⟩:=q;exact h2 pins s1 σ' H' D I' q
 | ret v=>exact q
 | brk=>exact q
 | cont=>exact q
theorem Zv(h1:PS X st t):PSs X [st] t:=by
 intro pins s σ H D I h;refine wpAny_execs_cons (Y1 (h1 pins s σ H D I h) fun f s1 q=>?_);cases f with
 | next=>exact wpAny_execs_nil q
 | ret v=>exact q
 | brk=>exact q
 | cont=>exact q
theorem Inv.quiet{pins:List (Addr×Obj)}{σ:St}{H:Hp}{s:Shared}(I:Inv X pins σ H s):interactive X.env=false:=by simp [interactive,I.ok.kind]
def Zol(te:TE):TS:=fun D σ H=>te σ H fun _ H1=>D.nx σ H1
theorem Qt(he:PE X e te)(hs:swapsWith e none pos.line X.env=pure false:=by rfl):PS X (.Expr e pos) (Zol te):=by
 intro pins s σ H D I h;exact wpAny_Expr_any (Y1 (he pins s σ H _ I h) fun v s1 ⟨x,H1,I1,r1,q1⟩=>⟨σ,H1,I1,q1⟩) I.quiet hs
def Zoi(te:TE):TS:=fun D σ H=>te σ H D.rt
theorem Jj(he:PE X e te):PS X (.Return (some e) pos) (Zoi te):=by
 intro pins s σ H D I h;exact wpAny_Return_some (Y1 (he pins s σ H _ I h) fun v s1 ⟨x,H1,I1,r1,q1⟩=>⟨x,σ,H1,I1,r1,q1⟩)
def Zqa(c:TT)(t u:TS):TS:=fun D σ H=>c σ H fun b H1=>if b=true then t D σ H1 else u D σ H1
theorem Yh{c:Expr}{a b:List Stmt}{tc:TT}(hc:PT X c tc)(ha:PSs X a t)(hb:PSs X b u):PS X (.If c a b pos) (Zqa tc t u):=by
 intro pins s σ H D I h;refine wpAny_If (Y1 (hc pins s σ H _ I h) fun d s1 ⟨H1,I1,q1⟩=>?_);cases d with
 | true=>exact ha pins s1 σ H1 D I1 q1
 | false=>exact hb pins s1 σ H1 D I1 q1
def Zmb:TS:=fun _ _ _=>False
theorem Zf6:PS X st Zmb:=fun _ _ _ _ _ _ h=>h.elim
end
abbrev TG:=V→St→Hp→(St→Hp→Prop)→Prop
abbrev TGs:=List V→St→Hp→(St→Hp→Prop)→Prop
def PG(X:Cx)(target:Expr)(t:TG):Prop:=
 ∀(pins:List (Addr×Obj)) (s:Shared) (σ:St) (H:Hp) (v:V) (u:Value) (Q:St→Hp→Prop),Inv X pins σ H s→RelV v u→t v σ H Q →
  wpAny (model X.prog X.w) X.A (assign target X.env u) (fun _ s'=>∃ σ' H',Inv X pins σ' H' s'∧Q σ' H') X.xe s
def PGs(X:Cx)(ts:List Expr)(t:TGs):Prop:=
 ∀(pins:List (Addr×Obj)) (s:Shared) (σ:St) (H:Hp) (vs:List V) (us:List Value) (Q:St→Hp→Prop),Inv X pins σ H s→Vals vs us→t vs σ H Q →
  wpAny (model X.prog X.w) X.A (assignInOrder ((assignEach ts X.env).map (·.2)) us) (fun _ s'=>∃ σ' H',Inv X pins σ' H' s'∧Q σ' H') X.xe s
abbrev Zn9:=V→V→V→Hp→(Hp→Prop)→Prop
def Zpt(X:Cx)(t:Zn9):Prop:=
 ∀(pins:List (Addr×Obj)) (s:Shared) (σ:St) (H:Hp) (o i v:V) (ov iv u:Value) (Q:Hp→Prop),Inv X pins σ H s→RelV o ov→RelV i iv→RelV v u→t o i v H Q →
  wpAny (model X.prog X.w) X.A (setItem ov iv u) (fun _ s'=>∃ H',Inv X pins σ H' s'∧Q H') X.xe s
section
variable{X:Cx}{pos:Pos}
def Uv(i:Nat):TG:=fun v σ H Q=>Q (σ.set i (some v)) H
theorem Jm{i:Nat}{x:Str}(hN:X.N.Nodup)(hi:X.N[i]? = some x)(hx:Loc X.env.scope x)(hf:X.fn x=true∨X.env.scope.names.lookup x=some .local:=by first | exact .inl rfl | exact .inr rfl | assumption):PG X (.Name x pos) (Uv i):=by
 intro pins s σ H v u Q I r h;exact wpAny_assign_Name (Ah I hN hi hx r (fun s' I'=>⟨_,H,I',h⟩) hf)
def Zpn:TGs:=fun vs σ H Q=>vs=[]∧Q σ H
def Zhw(t:TG)(u:TGs):TGs:=fun vs σ H Q=>∃ v r,vs=v :: r∧t v σ H fun σ' H'=>u r σ' H' Q
theorem Qu:PGs X [] Zpn:=by
 intro pins s σ H vs us Q I r h;obtain⟨e,h⟩:=h;subst e;cases r;exact assignInOrder_nil ⟨σ,H,I,h⟩
theorem Yb{e:Expr}{es:List Expr}{t:TG}{u:TGs}(h1:PG X e t)(h2:PGs X es u)
  (hs:(assignEach (e :: es) X.env).map (·.2)=assign e X.env :: (assignEach es X.env).map (·.2):=by rfl):PGs X (e :: es) (Zhw t u):=by
 intro pins s σ H vs us Q I r h;obtain⟨v,vr,e1,h⟩:=h;subst e1;cases r with
 | cons r rr=>
  rw[hs];refine assignInOrder_cons (Y1 (h1 pins s σ H _ _ _ I r h) fun _ s1 ⟨σ1,H1,I1,q1⟩=>?_);exact h2 pins s1 σ1 H1 _ _ Q I1 rr q1
def Zn0(K:W.Frag)(n:Nat)(t:TGs):TG:=fun v σ H Q=>∃ a xs,v = .ref a∧SqT K H a xs∧xs.length=n∧t xs σ H Q
theorem N4{es:List Expr}{k:Nat}{t:TGs}{n:Nat}(hc:X.calm=true)(h:PGs X es t)
  (hn:(assignEach es X.env).length=n:=by rfl) (hst:(assignEach es X.env).findIdx? (·.1)=none:=by rfl):PG X (.Tuple es k pos) (Zn0 X.K n t):=by
 intro pins s σ H v u Q I r hw;obtain⟨a,xs,e1,hq,hl,hw⟩:=hw;subst e1;cases r;obtain⟨its,rv,ht,hz⟩:=I.tuple hq;refine assign_Tuple_tuple (I.ok.hd hc) ht (by simp [hn,← hl,rv.length]) hst fun h' hx=>?_;have I1:Inv X pins σ H { s with heap:=h' }:=I.kept (t':=s.toks) fun b o e=>hx b o (Nat.ne_of_lt (Z0 e)) e;exact h pins _ σ H xs _ Q I1 (by simpa using rv) hw
def Zqv(to ti:TE)(t:Zn9):TG:=fun v σ H Q=>to σ H fun o H1=>ti σ H1 fun i H2=>t o i v H2 fun H3=>Q σ H3
theorem Zmv{o i:Expr}{to ti:TE}{t:Zn9}(ho:PE X o to)(hi:PE X i ti)(hs:Zpt X t)
  (ha:∀ v,assign (.Subscript o i pos) X.env v=(do
   let ov ← holding [v] (eval o X.env)
   let iv ← holding [v,ov] (eval i X.env)
   standAt pos
   holding [v,ov,iv] (setItem ov iv v)
   release [v,ov,iv] []):=by intro _;rfl):PG X (.Subscript o i pos) (Zqv to ti t):=by
 intro pins s σ H v u Q I r h;rw[ha];refine Zc (wpAny_holding (Y1 (ho pins s σ H _ I h) fun ov s1 ⟨x,H1,I1,r1,q1⟩=>?_));refine Zc (wpAny_holding (Y1 (hi pins s1 σ H1 _ I1 q1) fun iv s2 ⟨y,H2,I2,r2,q2⟩=>?_));refine Zc (wpAny_standAt (Zc (wpAny_holding (Y1 (hs pins s2 σ H2 x y v ov iv u _ I2 r1 r2 r q2) fun _ s3 ⟨H3,I3,q3⟩=>?_))));exact wpAny_release ⟨σ,H3,I3,q3⟩
def Zc0(te:TE)(g:TG):TS:=fun D σ H=>te σ H fun x H1=>g x σ H1 D.nx
theorem Zad{tg e:Expr}{te:TE}{g:TG}(he:PE X e te)(hg:PG X tg g)(hs:swapsWithSole [tg] e pos.line X.env=pure false:=by rfl)(hw:swappedStores [tg] e X.env=pure none:=by rfl)
  (h1:(assignEach [tg] X.env).map (·.2)=[assign tg X.env]:=by rfl):PS X (.Assign [tg] e pos) (Zc0 te g):=by
 intro pins s σ H D I h;refine wpAny_Assign_stores (Y1 (he pins s σ H _ I h) fun v s1 ⟨x,H1,I1,r1,q1⟩=>?_) hs hw;rw[h1];exact Y1 (hg pins s1 σ H1 x v _ I1 r1 q1) fun _ s2 q=>q
theorem Z9{i:Nat}{x:Str}{e:Expr}{te:TE}{pos':Pos}(hN:X.N.Nodup)(hi:X.N[i]? = some x)(hx:Loc X.env.scope x)(he:PE X e te)(hs:swapsWith e (some (.Name x pos')) pos.line X.env=pure false:=by rfl)(hf:X.fn x=true∨X.env.scope.names.lookup x=some .local:=by first | exact .inl rfl | exact .inr rfl | assumption) :
  PS X (.Assign [.Name x pos'] e pos) (Zc0 te (Uv i)):=by
 intro pins s σ H D I h;refine wpAny_Assign_Name (Y1 (he pins s σ H _ I h) fun v s1 ⟨y,H1,I1,r1,q1⟩=>?_) hs;exact Ah I1 hN hi hx r1 (fun s2 I2=>⟨_,H1,I2,q1⟩) hf
def Ze3(c:TT)(tb:TS):TS:=fun D σ H=>∃ W:Nat→St→Hp→Prop,(∃ m,W m σ H)∧∀ m σ H,W m σ H →
 c σ H fun b H1=>if b=true then ∃ N:St→Hp→Prop,(∀ σ' H',N σ' H'→∃ m',m' < m∧W m' σ' H')∧tb { D with nx:=N,ct:=N,bk:=D.nx } σ H1 else D.nx σ H1
theorem Gz{c:Expr}{body:List Stmt}{tc:TT}{tb:TS}(hp:PassesOwn (model X.prog X.w) X.A X.env X.xe)(hc:PT X c tc)(hb:PSs X body tb):PS X (.While c body [] pos) (Ze3 tc tb):=by
 intro pins s σ H D I h;obtain⟨W,⟨m0,w0⟩,turn⟩:=h;refine wpAny_While (codeAny_whileLoop (fun n s'=>∃ σ' H',Inv X pins σ' H' s'∧W n σ' H') ?_ m0 ⟨σ,H,I,w0⟩);rintro n s1 ⟨σ1,H1,I1,w1⟩;refine wpAny_passesOwn hp (Y1 (hc pins s1 σ1 H1 _ I1 (turn n σ1 H1 w1)) fun b s2 ⟨H2,I2,q2⟩=>?_);cases b with
 | true=>
  obtain⟨N,hN,q2⟩:=q2;rw[if_pos rfl];refine wpAny_passesOwn hp (Y1 (hb pins s2 σ1 H2 _ I2 q2) fun f s3 q3=>?_);cases f with
  | next=>
   obtain⟨σ3,H3,I3,n3⟩:=q3;obtain⟨m',hm,w3⟩:=hN σ3 H3 n3;exact⟨m',hm,σ3,H3,I3,w3⟩
  | cont=>
   obtain⟨σ3,H3,I3,n3⟩:=q3;obtain⟨m',hm,w3⟩:=hN σ3 H3 n3;exact⟨m',hm,σ3,H3,I3,w3⟩
  | brk=>exact q3
  | ret v=>exact q3
 | false=>
  rw[if_neg Zq];exact wpAny_execs_nil ⟨σ1,H2,I2,q2⟩
end
structure It where
 go:Nat→Hp→Prop
 yld:Nat→Hp→V→Hp→Prop
 stop:Nat→Hp→Prop
def Bc(X:Cx)(pins:List (Addr×Obj))(H:Hp)(b:Addr):Prop:=
 H b=none∧b≠X.env.locals∧b∉X.fs∧(b∈X.ex∨X.s₀.heap.objs.size≤b)∧(∀ x c,X.env.cells.lookup x=some c→c≠b)∧∀ p∈X.pn++pins,p.1≠b
theorem Inv.fpOk{X:Cx}{pins:List (Addr×Obj)}{σ:St}{H H':Hp}{s:Shared}{b:Addr}(I:Inv X pins σ H s)(hb:s.heap.objs.size≤b)(hn:H' b=none):Bc X pins H' b:=by
 refine⟨hn,Nat.ne_of_gt (Z3 I.lt hb),I.nofs hb,.inr (Nat.le_trans I.sz hb),fun x c e z=>?_,fun p hp z=>?_⟩
 ·obtain⟨v,q⟩:=I.cell x c e
  exact absurd (Z3 q.lt (by rw[z];exact hb)) (Nat.lt_irrefl _)
 ·exact absurd (Z3 (Z0 (I.pin p hp).1) (by rw[z];exact hb)) (Nat.lt_irrefl _)
structure Turn(P:Program)(w:World)(K:W.Frag)(tg:Expr)(J:It)(fp:List Addr)(it:Addr)(tn:Nat→Heap→Prop):Prop where
 mem:it∈fp
 obj:∀ i h,tn i h→∀ b∈fp,∃ o,h.get? b=some o∧∀ v,o.data ≠ .cell v
 keep:∀ i h h',tn i h→(∀ b∈fp,∀ o,h.get? b=some o→h'.get? b=some o)→tn i h'
 item:∀(X:Cx),X.prog=P→X.w=w→X.K=K→X.calm=true→∀(i:Nat) (pins:List (Addr×Obj)) (s:Shared) (σ:St) (H:Hp) (E:Value→Shared→Prop),Inv X pins σ H s→(∀ b∈fp,Bc X pins H b)→tn i s.heap→J.go i H →
  wpAny (model P w) X.A (pyNext (.ref it)) (fun r s1=>∃ u,r=some u ∧
   wpAny (model P w) X.A (letOwnedTupleGo tg (.ref it) u) (fun _ s2=>∃ x H',Inv X pins σ H' s2∧RelV x u∧J.yld i H x H'∧tn (i+1) s2.heap∧∀ b∈fp,H' b=none) E s1) E s
 done:∀(X:Cx),X.prog=P→X.w=w→X.K=K→X.calm=true→∀(i:Nat) (pins:List (Addr×Obj)) (s:Shared) (σ:St) (H:Hp) (E:Value→Shared→Prop),Inv X pins σ H s→(∀ b∈fp,Bc X pins H b)→tn i s.heap→J.stop i H →
  wpAny (model P w) X.A (pyNext (.ref it)) (fun r s1=>r=none∧Inv X pins σ H s1) E s
 self:∀(A:Around) (i:Nat) (s:Shared) (Q:Value→Shared→Prop) (E:Value→Shared→Prop),tn i s.heap→Q (.ref it) s→wpAny (model P w) A (pyIter (.ref it)) Q E s
abbrev TI:=St→Hp→(It→Hp→Prop)→Prop
def PIE(X:Cx)(pins:List (Addr×Obj))(σ:St)(tg:Expr)(R:It→Hp→Prop)(itv:Value)(s2:Shared):Prop:=
 ∃(it:Addr) (fp:List Addr) (tn:Nat→Heap→Prop) (J:It) (H':Hp),itv = .ref it∧Inv X pins σ H' s2∧Turn X.prog X.w X.K tg J fp it tn∧tn 0 s2.heap∧(∀ b∈fp,Bc X pins H' b)∧R J H'
def PI(X:Cx)(tg iter:Expr)(wi:TI):Prop:=
 ∀(pins:List (Addr×Obj)) (s:Shared) (σ:St) (H:Hp) (R:It→Hp→Prop),Inv X pins σ H s→wi σ H R →
  wpAny (model X.prog X.w) X.A (eval iter X.env) (fun v s1=>wpAny (model X.prog X.w) X.A (pyIter v) (PIE X pins σ tg R) X.xe s1) X.xe s
theorem Kp{M:Model}{A:Around}{E:Value→Shared→Prop}{s:Shared}{tg:Expr}{it:Addr}{u:Value}{o:Obj}{n:String}{vs:Array Value}{Q:Unit→Shared→Prop}(ho:s.heap.get? it=some o)(hc:o.cls = .type n)(hd:o.data = .fields vs)
    (hn:["enumerate","zip","dict_itemiterator","dict_reverseitemiterator","odict_iterator","itertools.zip_longest","itertools.pairwise"].contains n=false) (hQ:Q () s):wpAny M A (letOwnedTupleGo tg (.ref it) u) Q E s:=by
  unfold letOwnedTupleGo;cases tg<;>first
    | exact wpAny_pure hQ
    | (cases u<;>first
        | exact wpAny_pure hQ
        | (refine Zc (wpAny_load ho ?_)
           rw[hc,hd];show wpAny M A (if(["enumerate","zip","dict_itemiterator","dict_reverseitemiterator","odict_iterator","itertools.zip_longest","itertools.pairwise"].contains n && vs[0]? == some (rawInt _))=true then _ else _) Q E s;rw[if_neg (by intro h;rw[hn,Bool.false_and] at h;cases h)];exact wpAny_pure hQ))
def Itl(K:W.Frag)(a:Addr):It:=
 ⟨fun i H=>∃ xs x,SqL K H a xs∧xs[i]? = some x,fun i H x H'=>H'=H∧∀ xs,SqL K H a xs→xs[i]? = some x,fun i H=>∃ xs,SqL K H a xs∧xs.length≤i⟩
def Itt(K:W.Frag)(a:Addr):It:=
 ⟨fun i H=>∃ xs x,SqT K H a xs∧xs[i]? = some x,fun i H x H'=>H'=H∧∀ xs,SqT K H a xs→xs[i]? = some x,fun i H=>∃ xs,SqT K H a xs∧xs.length≤i⟩
def Itr(lo:Int)(n:Nat):It:=⟨fun i _=>i < n,fun i H x H'=>H'=H∧x = .int (lo+i),fun i _=>n≤i⟩
theorem Zcv{P:Program}{w:World}{K:W.Frag}{tg:Expr}(a it:Addr):Turn P w K tg (Itl K a) [it] it (fun i h=>h.IsListIter it a i) where
 mem:=by simp
 obj:=fun i h st b hb=>by
  have e:b=it:=by simpa using hb
  subst e;obtain⟨o,e,c,d⟩:=st;exact⟨o,e,fun v z=>by rw[d] at z;cases z⟩
 keep:=fun i h h' st k=>st.at fun o e=>k it (by simp) o e
 item:=by
  intro X hP hw hK hc i pins s σ H E I hf st hg;subst hP hw hK;obtain⟨xs,x,hq,hx⟩:=hg;obtain⟨its,rv,p,hz⟩:=I.list hq;obtain⟨u,hu,ru⟩:=rv.get hx;obtain⟨f0,f1,f2,f3,f4,f5⟩:=hf it (by simp);refine wpAny_pyNext_list_item st p.isList (x:=u) (by simpa using hu) fun h' st' sb=>?_;have I1:Inv X pins σ H { s with heap:=h' }:=I.turned (t':=s.toks) (fun b o hb e=>(sb.2 b hb).trans e) f0 f1 f3 f4 f5;obtain⟨o,e,c,d⟩:=id st';exact⟨u,rfl,Kp (s:={ s with heap:=h' }) e c d (by decide) ⟨x,H,I1,ru,⟨rfl,fun ys hy=>by rw[I.list_inj hy hq];exact hx⟩,st',fun b hb=>(hf b hb).1⟩⟩
 done:=by
  intro X hP hw hK hc i pins s σ H E I hf st hg;subst hP hw hK;obtain⟨xs,hq,hx⟩:=hg;obtain⟨its,rv,p,hz⟩:=I.list hq;obtain⟨f0,f1,f2,f3,f4,f5⟩:=hf it (by simp);have hl:=rv.length;exact wpAny_pyNext_list_end (I.ok.hd hc) st p.isList (by simp;omega) fun h' eb=>⟨rfl,I.turned (t':=s.toks) (fun b o hb e=>eb b o hb e) f0 f1 f3 f4 f5⟩
 self:=fun _ _ _ _ _ st h=>wpAny_pyIter_listiter st h
theorem Sa{P:Program}{w:World}{K:W.Frag}{tg:Expr}(a it:Addr):Turn P w K tg (Itt K a) [it] it (fun i h=>h.IsTupleIter it a i) where
 mem:=by simp
 obj:=fun i h st b hb=>by
  have e:b=it:=by simpa using hb
  subst e;obtain⟨o,e,c,d⟩:=st;exact⟨o,e,fun v z=>by rw[d] at z;cases z⟩
 keep:=fun i h h' st k=>st.at fun o e=>k it (by simp) o e
 item:=by
  intro X hP hw hK hc i pins s σ H E I hf st hg;subst hP hw hK;obtain⟨xs,x,hq,hx⟩:=hg;obtain⟨its,rv,p,hz⟩:=I.tuple hq;obtain⟨u,hu,ru⟩:=rv.get hx;obtain⟨f0,f1,f2,f3,f4,f5⟩:=hf it (by simp);refine wpAny_pyNext_tuple_item st (show s.heap.IsTuple a its.toArray from p) (x:=u) (by simpa using hu) fun h' st' sb=>?_;have I1:Inv X pins σ H { s with heap:=h' }:=I.turned (t':=s.toks) (fun b o hb e=>(sb.2 b hb).trans e) f0 f1 f3 f4 f5;obtain⟨o,e,c,d⟩:=id st';exact⟨u,rfl,Kp (s:={ s with heap:=h' }) e c d (by decide) ⟨x,H,I1,ru,⟨rfl,fun ys hy=>by rw[I.tuple_inj hy hq];exact hx⟩,st',fun b hb=>(hf b hb).1⟩⟩
 done:=by
  intro X hP hw hK hc i pins s σ H E I hf st hg;subst hP hw hK;obtain⟨xs,hq,hx⟩:=hg;obtain⟨its,rv,p,hz⟩:=I.tuple hq;obtain⟨f0,f1,f2,f3,f4,f5⟩:=hf it (by simp);have hl:=rv.length;exact wpAny_pyNext_tuple_end (I.ok.hd hc) st (show s.heap.IsTuple a its.toArray from p) (by simp;omega) fun h' eb=>⟨rfl,I.turned (t':=s.toks) (fun b o hb e=>eb b o hb e) f0 f1 f3 f4 f5⟩
 self:=fun _ _ _ _ _ st h=>wpAny_pyIter_tupleiter st h
theorem Sb{P:Program}{w:World}{K:PySem.W.Frag}{tg:Expr}(it:Addr)(lo:Int)(n:Nat):Turn P w K tg (Itr lo n) [it] it (fun i h=>IsRangeIter h it (lo+(i:Nat) * 1) ((n:Int) - (i:Nat)) 1) where
 mem:=by simp
 obj:=fun i h st b hb=>by
  have e:b=it:=by simpa using hb
  subst e;exact⟨_,st,fun v z=>by
   have z':Data.fields _=Data.cell v:=z;cases z'⟩
 keep:=fun i h h' st k=>k it (by simp) _ st
 item:=by
  intro X hP hw hK hc i pins s σ H E I hf st hg;subst hP hw hK;obtain⟨f0,f1,f2,f3,f4,f5⟩:=hf it (by simp);have W:=Walks.range (prog:=X.prog) (w:=X.w) (I.ok.hd hc) it lo 1 n;refine W.item i s _ _ hg st fun v h' tk hv st' kk=>?_;obtain⟨t,rfl⟩:=hv;have I1:Inv X pins σ H { s with heap:=h',toks:=tk }:=I.turned (fun b o hb e=>kk b o (by simpa using hb) e) f0 f1 f3 f4 f5;refine⟨_,rfl,Kp (s:={ s with heap:=h',toks:=tk }) (n:="range_iterator") st' rfl rfl (by decide) ⟨.int (lo+i),H,I1,⟨t,?_⟩,⟨rfl,rfl⟩,st',fun b hb=>(hf b hb).1⟩⟩;rw[Int.mul_one]
 done:=by
  intro X hP hw hK hc i pins s σ H E I hf st hg;subst hP hw hK;obtain⟨f0,f1,f2,f3,f4,f5⟩:=hf it (by simp);exact wpAny_pyNext_range_end (I.ok.hd hc) st (by have:n≤i:=hg;omega) fun h' eb=>⟨rfl,I.turned (t':=s.toks) (fun b o hb e=>eb b o hb e) f0 f1 f3 f4 f5⟩
 self:=fun _ _ _ _ _ st h=>wpAny_pyIter_rangeiter st h
section
variable{X:Cx}{tg:Expr}
def Zlv(K:W.Frag)(tl:TE):TI:=fun σ H R=>tl σ H fun x H1=>∃ a,x = .ref a∧(∃ xs,SqL K H1 a xs)∧R (Itl K a) H1
def Zqt(K:W.Frag)(tl:TE):TI:=fun σ H R=>tl σ H fun x H1=>∃ a,x = .ref a∧(∃ xs,SqT K H1 a xs)∧R (Itt K a) H1
theorem Yn{l:Expr}{tl:TE}(hl:PE X l tl):PI X tg l (Zlv X.K tl):=by
 intro pins s σ H R I h;refine Y1 (hl pins s σ H _ I h) fun v s1 ⟨x,H1,I1,r1,q1⟩=>?_;obtain⟨a,e,⟨xs,hq⟩,q⟩:=q1;subst e;cases r1;obtain⟨its,rv,p,hz⟩:=I1.list hq;refine wpAny_pyIter_list p.isList ?_;refine⟨s1.heap.objs.size,[s1.heap.objs.size],_,_,H1,rfl,I1.kept (t':=s1.toks) fun b o e=>Zi _ e,Zcv a _,⟨_,Heap.get?_push_size _ rfl,rfl,rfl⟩,fun b hb=>?_,q⟩;have e:b=s1.heap.objs.size:=by simpa using hb
 subst e;exact I1.fpOk (Nat.le_refl _) (I1.hok.fresh (Nat.le_refl _))
theorem Oe{l:Expr}{tl:TE}(hl:PE X l tl):PI X tg l (Zqt X.K tl):=by
 intro pins s σ H R I h;refine Y1 (hl pins s σ H _ I h) fun v s1 ⟨x,H1,I1,r1,q1⟩=>?_;obtain⟨a,e,⟨xs,hq⟩,q⟩:=q1;subst e;cases r1;obtain⟨its,rv,p,hz⟩:=I1.tuple hq;refine wpAny_pyIter_tuple (show s1.heap.IsTuple a its.toArray from p) ?_;refine⟨s1.heap.objs.size,[s1.heap.objs.size],_,_,H1,rfl,I1.kept (t':=s1.toks) fun b o e=>Zi _ e,Sa a _,⟨_,Heap.get?_push_size _ rfl,rfl,rfl⟩,fun b hb=>?_,q⟩;have e:b=s1.heap.objs.size:=by simpa using hb
 subst e;exact I1.fpOk (Nat.le_refl _) (I1.hok.fresh (Nat.le_refl _))
theorem Zf4{pins:List (Addr×Obj)}{σ:St}{H:Hp}{s:Shared}{R:It→Hp→Prop}{E:Value→Shared→Prop}{lo hi:Int}{t u v:Tok}{tk:Nat}(I:Inv X pins σ H s)(h1:-(2 ^ 62)≤lo)(h2:lo < 2 ^ 62)(h3:-(2 ^ 62)≤hi)(h4:hi < 2 ^ 62)
  (q:R (Itr lo (hi - lo).toNat) H):wpAny (model X.prog X.w) X.A (pyIter (.ref s.heap.objs.size)) (PIE X pins σ tg R) E { s with heap:=s.heap.push { cls:=.type "range",data:=.fields #[.int lo t,.int hi u,.int 1 v] },toks:=tk }:=by
 refine wpAny_pyIter_range (IsRange.new ..) (small_one h1 h2 h3 h4) ?_;have I1:Inv X pins σ H { s with heap:=s.heap.push { cls:=.type "range",data:=.fields #[.int lo t,.int hi u,.int 1 v] },toks:=tk }:=I.kept fun b o e=>Zi _ e;refine⟨(s.heap.push { cls:=.type "range",data:=.fields #[.int lo t,.int hi u,.int 1 v] }).objs.size,[(s.heap.push { cls:=.type "range",data:=.fields #[.int lo t,.int hi u,.int 1 v] }).objs.size],_,_,H,rfl,
  I1.kept (t':=tk) fun b o e=>Zi _ e,Sb _ lo (hi - lo).toNat,?_,fun b hb=>?_,q⟩
 ·have e1:lo+((0:Nat):Int) * 1=lo:=by simp
  have e2:(((hi - lo).toNat:Nat):Int) - ((0:Nat):Int)=Builtin.Range.rangeSize lo hi 1:=by rw[rangeSize_one];split<;>omega
  show IsRangeIter _ _ (lo+((0:Nat):Int) * 1) ((((hi - lo).toNat:Nat):Int) - ((0:Nat):Int)) 1;rw[e1,e2];exact Heap.get?_push_size _ rfl
 ·have e:b=(s.heap.push { cls:=.type "range",data:=.fields #[.int lo t,.int hi u,.int 1 v] }).objs.size:=by simpa using hb
  subst e;exact I1.fpOk (Nat.le_refl _) (I1.hok.fresh (Nat.le_refl _))
def Zpm(ta:TA):TI:=fun σ H R=>ta σ H fun vs H1=>∃ j:Int,vs=[.int j]∧-(2 ^ 62)≤j∧j < 2 ^ 62∧R (Itr 0 j.toNat) H1
theorem Xc{a:Expr}{ta:TA}{p pos:Pos}(hg:Gl X "range")(hm:X.mg "range" = none)(ha:PA X [a] ta)(hs:starEach [a] X.env=[(false,eval a X.env)]:=by rfl):PI X tg (.Call (.Name "range" p) [a] [] pos) (Zpm ta):=by
 intro pins s σ H R I h;refine Call_ (Tg I hg hm boot_range (PyProof.Rows.callWith_type1 (Y1 (ha pos pins s σ H _ I h) fun us s1 ⟨vs,H1,I1,r1,q1⟩=>?_) hs rfl));obtain⟨j,e,q1,q2,q⟩:=q1;subst e;cases r1 with
 | cons r rr=>
  cases rr;obtain⟨t,rfl⟩:=r;exact call_range_1 (Zf4 I1 (by omega) (by omega) q1 q2 (by simpa using q))
def Zqb(wi:TI)(g:TG)(tb:TS):TS:=fun D σ H=>wi σ H fun J H1=>∃ W:Nat→Nat→St→Hp→Prop,(∃ m,W 0 m σ H1)∧∀ i m σ H,W i m σ H →
 (J.stop i H∧D.nx σ H)∨(J.go i H∧∃ N:St→Hp→Prop,(∀ σ' H',N σ' H'→∃ m',m' < m∧W (i+1) m' σ' H')∧∀ x H',J.yld i H x H'→g x σ H' fun σ2 H2=>tb { D with nx:=N,ct:=N,bk:=D.nx } σ2 H2)
def Vt(fp:List Addr)(h:Heap):List (Addr×Obj):=fp.filterMap fun b=>(h.get? b).map fun o=>(b,o)
theorem Xu{fp:List Addr}{h:Heap}{b:Addr}{o:Obj}(hb:b∈fp)(e:h.get? b=some o):(b,o)∈Vt fp h:=List.mem_filterMap.mpr ⟨b,hb,by rw[e];rfl⟩
theorem Zdr{fp:List Addr}{h:Heap}{p:Addr×Obj}(hp:p∈Vt fp h):p.1∈fp∧h.get? p.1=some p.2:=by
 obtain⟨b,hb,e⟩:=List.mem_filterMap.mp hp;cases q:h.get? b with
 | none=>rw[q] at e;cases e
 | some o=>
  rw[q] at e;have e':(b,o)=p:=Zr e;subst e';exact⟨hb,q⟩
theorem Inv.pinned{pins:List (Addr×Obj)}{σ:St}{H:Hp}{s:Shared}{fp:List Addr}(I:Inv X pins σ H s)(hf:∀ b∈fp,Bc X pins H b)(ho:∀ b∈fp,∃ o,s.heap.get? b=some o∧∀ v,o.data ≠ .cell v):Inv X (pins++Vt fp s.heap) σ H s:=
 I.pins_of fun p hp=>(Jh.mp hp).elim (fun z=>I.pin p (List.mem_append_right _ z)) fun z=>by
  obtain⟨hb,e⟩:=Zdr z;obtain⟨f0,f1,f2,_⟩:=hf p.1 hb;obtain⟨o,e',d⟩:=ho p.1 hb;rw[e] at e';cases e';exact⟨e,f0,f1,f2,d⟩
theorem Inv.unpinned{pins pl:List (Addr×Obj)}{σ:St}{H:Hp}{s:Shared}(I:Inv X (pins++pl) σ H s):Inv X pins σ H s:=I.pins_of fun p hp=>I.pin p (List.mem_append_right _ (List.mem_append_left _ hp))
theorem Xi{iter:Expr}{body:List Stmt}{wi:TI}{g:TG}{tb:TS}{pos:Pos}(hp:PassesOwn (model X.prog X.w) X.A X.env X.xe)(hc:X.calm=true)(hi:PI X tg iter wi)(hg:PG X tg g)(hb:PSs X body tb)
  (hs:∀ x,foldedSetIterable iter X.env x=pure x:=by intro _;rfl):PS X (.For tg iter body [] pos) (Zqb wi g tb):=by
 intro pins s σ H D I h;refine wpAny_For (Y1 (hi pins s σ H _ I h) fun v s1 h1=>Y1 h1 fun itv s2 h2=>?_) hs;obtain⟨it,fp,tn,J,H2,e,I2,T,st2,f2,W,⟨m0,w0⟩,turn⟩:=h2;subst e;have stat:∀{H':Hp},(∀ b∈fp,H' b=none)→∀ b∈fp,Bc X pins H' b:=fun hn b hb=>⟨hn b hb,(f2 b hb).2⟩;refine codeAny_forLoop_any (fun n s'=>∃ i σ' H',Inv X pins σ' H' s'∧tn i s'.heap∧(∀ b∈fp,H' b=none)∧W i n σ' H') ?_ m0 ⟨0,σ,H2,I2,st2,fun b hb=>(f2 b hb).1,w0⟩;rintro n s3 ⟨i,σ3,H3,I3,st3,fr3,w3⟩;rcases turn i n σ3 H3 w3 with⟨stop,qn⟩ | ⟨go,N,hN,step⟩
 ·refine wpAny_passesOwn hp (Y1 (T.done X rfl rfl rfl hc i pins s3 σ3 H3 X.xe I3 (stat fr3) st3 stop) fun r s4 ⟨hr,I4⟩=>?_)
  subst hr;exact wpAny_execs_nil ⟨σ3,H3,I4,qn⟩
 ·refine wpAny_passesOwn hp (Y1 (T.item X rfl rfl rfl hc i pins s3 σ3 H3 X.xe I3 (stat fr3) st3 go) fun r s4 ⟨u,hr,h4⟩=>?_)
  subst hr;refine wpAny_passesOwn hp (Y1 h4 fun _ s5 ⟨x,H5,I5,r5,y5,st5,fr5⟩=>?_);have I5':=I5.pinned (stat fr5) (T.obj _ _ st5);refine wpAny_passesOwn hp (Y1 (hg _ s5 σ3 H5 x u _ I5' r5 (step x H5 y5)) fun _ s6 ⟨σ6,H6,I6,q6⟩=>?_);refine wpAny_passesOwn hp (Y1 (hb _ s6 σ6 H6 _ I6 q6) fun f s7 q7=>?_);have again:∀{σ7:St} {H7:Hp},Inv X (pins++Vt fp s5.heap) σ7 H7 s7→N σ7 H7→∃ m,m < n∧∃ i σ' H',Inv X pins σ' H' s7∧tn i s7.heap∧(∀ b∈fp,H' b=none)∧W i m σ' H':=fun {σ7 H7} I7 n7=>by
   obtain⟨m',hm,w7⟩:=hN σ7 H7 n7;refine⟨m',hm,i+1,σ7,H7,I7.unpinned,T.keep _ _ _ st5 fun b hb o e=>(I7.pin (b,o) (List.mem_append_right _ (List.mem_append_right _ (Xu hb e)))).1,fun b hb=>?_,w7⟩;obtain⟨o,e,d⟩:=T.obj _ _ st5 b hb;exact(I7.pin (b,o) (List.mem_append_right _ (List.mem_append_right _ (Xu hb e)))).2.1
  cases f with
  | next=>obtain⟨σ7,H7,I7,n7⟩:=q7;exact again I7 n7
  | cont=>obtain⟨σ7,H7,I7,n7⟩:=q7;exact again I7 n7
  | brk=>obtain⟨σ7,H7,I7,q7⟩:=q7;exact⟨σ7,H7,I7.unpinned,q7⟩
  | ret v=>obtain⟨x7,σ7,H7,I7,r7,q7⟩:=q7;exact⟨x7,σ7,H7,I7.unpinned,r7,q7⟩
end
theorem Ql{K:PySem.W.Frag}{a:Addr}{xs:List V}{g:TG}{tb:TS}{D:Ends}{σ:St}{H:Hp}(Pv:Nat→St→Hp→Prop)(h0:Pv 0 σ H)(hl:∀ i σ H,i≤xs.length→Pv i σ H→SqL K H a xs)
  (hs:∀ i x σ H,xs[i]? = some x→Pv i σ H→g x σ H fun σ2 H2=>tb { D with nx:=Pv (i+1),ct:=Pv (i+1),bk:=D.nx } σ2 H2) (hd:∀ σ H,Pv xs.length σ H→D.nx σ H) :
  ∃ W:Nat→Nat→St→Hp→Prop,(∃ m,W 0 m σ H)∧∀ i m σ H,W i m σ H →
   ((Itl K a).stop i H∧D.nx σ H)∨((Itl K a).go i H∧∃ N:St→Hp→Prop,(∀ σ' H',N σ' H'→∃ m',m' < m∧W (i+1) m' σ' H')∧∀ x H',(Itl K a).yld i H x H'→g x σ H' fun σ2 H2=>tb { D with nx:=N,ct:=N,bk:=D.nx } σ2 H2):=by
 refine⟨fun i m σ H=>m=xs.length - i∧i≤xs.length∧Pv i σ H,⟨xs.length,by simp,Nat.zero_le _,h0⟩,?_⟩;rintro i m σ H ⟨rfl,hi,p⟩;have q:=hl i σ H hi p;by_cases hlt:i < xs.length
 ·refine .inr ⟨⟨xs,xs[i],q,by simp [hlt]⟩,Pv (i+1),fun σ' H' p'=>⟨xs.length - (i+1),by omega,rfl,hlt,p'⟩,fun x H' y=>?_⟩
  obtain⟨e,y⟩:=y;subst e;exact hs i x σ _ (y xs q) p
 ·have e:i=xs.length:=by omega
  subst e;exact .inl ⟨⟨xs,q,Nat.le_refl _⟩,hd σ H p⟩
theorem Zk2{K:PySem.W.Frag}{a:Addr}{xs:List V}{g:TG}{tb:TS}{D:Ends}{σ:St}{H:Hp}(Pv:Nat→St→Hp→Prop)(h0:Pv 0 σ H)(hl:∀ i σ H,i≤xs.length→Pv i σ H→SqT K H a xs)
  (hs:∀ i x σ H,xs[i]? = some x→Pv i σ H→g x σ H fun σ2 H2=>tb { D with nx:=Pv (i+1),ct:=Pv (i+1),bk:=D.nx } σ2 H2) (hd:∀ σ H,Pv xs.length σ H→D.nx σ H) :
  ∃ W:Nat→Nat→St→Hp→Prop,(∃ m,W 0 m σ H)∧∀ i m σ H,W i m σ H →
   ((Itt K a).stop i H∧D.nx σ H)∨((Itt K a).go i H∧∃ N:St→Hp→Prop,(∀ σ' H',N σ' H'→∃ m',m' < m∧W (i+1) m' σ' H')∧∀ x H',(Itt K a).yld i H x H'→g x σ H' fun σ2 H2=>tb { D with nx:=N,ct:=N,bk:=D.nx } σ2 H2):=by
 refine⟨fun i m σ H=>m=xs.length - i∧i≤xs.length∧Pv i σ H,⟨xs.length,by simp,Nat.zero_le _,h0⟩,?_⟩;rintro i m σ H ⟨rfl,hi,p⟩;have q:=hl i σ H hi p;by_cases hlt:i < xs.length
 ·refine .inr ⟨⟨xs,xs[i],q,by simp [hlt]⟩,Pv (i+1),fun σ' H' p'=>⟨xs.length - (i+1),by omega,rfl,hlt,p'⟩,fun x H' y=>?_⟩
  obtain⟨e,y⟩:=y;subst e;exact hs i x σ _ (y xs q) p
 ·have e:i=xs.length:=by omega
  subst e;exact .inl ⟨⟨xs,q,Nat.le_refl _⟩,hd σ H p⟩
theorem Nl{lo:Int}{n:Nat}{g:TG}{tb:TS}{D:Ends}{σ:St}{H:Hp}(Pv:Nat→St→Hp→Prop)(h0:Pv 0 σ H)
  (hs:∀ i σ H,i < n→Pv i σ H→g (.int (lo+i)) σ H fun σ2 H2=>tb { D with nx:=Pv (i+1),ct:=Pv (i+1),bk:=D.nx } σ2 H2) (hd:∀ σ H,Pv n σ H→D.nx σ H) :
  ∃ W:Nat→Nat→St→Hp→Prop,(∃ m,W 0 m σ H)∧∀ i m σ H,W i m σ H →
   ((Itr lo n).stop i H∧D.nx σ H)∨((Itr lo n).go i H∧∃ N:St→Hp→Prop,(∀ σ' H',N σ' H'→∃ m',m' < m∧W (i+1) m' σ' H')∧∀ x H',(Itr lo n).yld i H x H'→g x σ H' fun σ2 H2=>tb { D with nx:=N,ct:=N,bk:=D.nx } σ2 H2):=by
 refine⟨fun i m σ H=>m=n - i∧i≤n∧Pv i σ H,⟨n,by simp,Nat.zero_le _,h0⟩,?_⟩;rintro i m σ H ⟨rfl,hi,p⟩;by_cases hlt:i < n
 ·refine .inr ⟨hlt,Pv (i+1),fun σ' H' p'=>⟨n - (i+1),by omega,rfl,hlt,p'⟩,fun x H' y=>?_⟩
  obtain⟨e,y⟩:=y;subst e y;exact hs i σ _ hlt p
 ·have e:i=n:=by omega
  subst e;exact .inl ⟨Nat.le_refl _,hd σ H p⟩
theorem O7{c:TT}{tb:TS}{D:Ends}{σ:St}{H:Hp}(Pv:St→Hp→Prop)(μ:St→Hp→Nat)(h0:Pv σ H)
  (hs:∀ σ H,Pv σ H→c σ H fun b H1=>if b=true then tb { D with nx:=fun σ' H'=>Pv σ' H'∧μ σ' H' < μ σ H,ct:=fun σ' H'=>Pv σ' H'∧μ σ' H' < μ σ H,bk:=D.nx } σ H1 else D.nx σ H1)
  (mono:∀ σ H Q Q',(∀ b H1,Q b H1→Q' b H1)→c σ H Q→c σ H Q'):Ze3 c tb D σ H:=by
 refine⟨fun m σ H=>m=μ σ H∧Pv σ H,⟨_,rfl,h0⟩,?_⟩;rintro m σ H ⟨rfl,p⟩;refine mono σ H _ _ (fun b H1 q=>?_) (hs σ H p);cases b with
 | true=>exact⟨_,fun σ' H' ⟨p',l⟩=>⟨_,l,rfl,p'⟩,q⟩
 | false=>exact q
abbrev R2:=V→V→Hp→VK→Prop
def Eo(X:Cx)(f:Value→Value→Sem Value)(r:R2):Prop:=
 ∀(pins:List (Addr×Obj)) (s:Shared) (σ:St) (H:Hp) (x y:V) (v u:Value) (Q:VK),Inv X pins σ H s→RelV x v→RelV y u→r x y H Q →
  wpAny (model X.prog X.w) X.A (f v u) (EP X pins σ Q) X.xe s
def UnR(X:Cx)(f:Value→Sem Value)(r:V→Hp→VK→Prop):Prop:=
 ∀(pins:List (Addr×Obj)) (s:Shared) (σ:St) (H:Hp) (x:V) (v:Value) (Q:VK),Inv X pins σ H s→RelV x v→r x H Q →
  wpAny (model X.prog X.w) X.A (f v) (EP X pins σ Q) X.xe s
def Ui(X:Cx)(f:Value)(r:List V→Hp→VK→Prop):Prop:=
 ∀(pins:List (Addr×Obj)) (s:Shared) (σ:St) (H:Hp) (xs:List V) (us:List Value) (Q:VK),Inv X pins σ H s→Vals xs us→r xs H Q →
  wpAny (model X.prog X.w) X.A (call f us) (EP X pins σ Q) X.xe s
def Zq1(X:Cx)(r:V→Hp→(Bool→Hp→Prop)→Prop):Prop:=
 ∀(pins:List (Addr×Obj)) (s:Shared) (σ:St) (H:Hp) (x:V) (v:Value) (Q:Bool→Hp→Prop),Inv X pins σ H s→RelV x v→r x H Q →
  wpAny (model X.prog X.w) X.A (truthy v) (TP X pins σ Q) X.xe s
def tOp(r:R2)(ta tb:TE):TE:=fun σ H Q=>ta σ H fun x H1=>tb σ H1 fun y H2=>r x y H2 Q
def tUn(r:V→Hp→VK→Prop)(ta:TE):TE:=fun σ H Q=>ta σ H fun x H1=>r x H1 Q
def rI(C:Int→Int→Prop)(g:Int→Int→V):R2:=fun x y H Q=>∃ i j,x = .int i∧y = .int j∧C i j∧Q (g i j) H
def rI0(g:Int→Int→V):R2:=fun x y H Q=>∃ i j,x = .int i∧y = .int j∧Q (g i j) H
def rU(g:Int→V):V→Hp→VK→Prop:=fun x H Q=>∃ i,x = .int i∧Q (g i) H
section
variable{X:Cx}{a b c:Expr}{ta tb tc:TE}{pos:Pos}
theorem Zn3(ha:PE X a ta)(hb:PE X b tb){pins:List (Addr×Obj)}{s:Shared}{σ:St}{H:Hp}{R:V→V→Hp→Prop}(I:Inv X pins σ H s)
  (h:ta σ H fun x H1=>tb σ H1 fun y H2=>R x y H2) {Q:Value→Shared→Prop} {f:Value→Value→Sem Value}
  (hf:∀ v u s2 x y H2,Inv X pins σ H2 s2→RelV x v→RelV y u→R x y H2→wpAny (model X.prog X.w) X.A (f v u) Q X.xe s2) :
  wpAny (model X.prog X.w) X.A (eval a X.env) (fun v s₁=>wpAny (model X.prog X.w) X.A (eval b X.env) (fun u s₂=>wpAny (model X.prog X.w) X.A (f v u) Q X.xe s₂) X.xe s₁) X.xe s:=by
 refine Y1 (ha pins s σ H _ I h) fun v s1 ⟨x,H1,I1,r1,q1⟩=>?_;refine Y1 (hb pins s1 σ H1 _ I1 q1) fun u s2 ⟨y,H2,I2,r2,q2⟩=>?_;exact hf v u s2 x y H2 I2 r1 r2 q2
theorem Ja{op:Operator}{r:R2}(ho:Eo X (binaryOp op) r)(ha:PE X a ta)(hb:PE X b tb):PE X (.BinOp a op b pos) (tOp r ta tb):=by
 intro pins s σ H Q I h;exact wpAny_BinOp (Zn3 ha hb I h fun v u s2 x y H2 I2 rx ry q=>ho pins s2 σ H2 x y v u Q I2 rx ry q)
theorem Zo9{op:UnaryOp}{r:V→Hp→VK→Prop}(ho:UnR X (unaryOp op) r)(ha:PE X a ta):PE X (.UnaryOp op a pos) (tUn r ta):=by
 intro pins s σ H Q I h;exact UnaryOp_ (Y1 (ha pins s σ H _ I h) fun v s1 ⟨x,H1,I1,r1,q1⟩=>ho pins s1 σ H1 x v Q I1 r1 q1)
theorem opI{f:Value→Value→Sem Value}{C:Int→Int→Prop}{g:Int→Int→Int}
  (rule:∀(i j:Int) (t u:Tok) (s:Shared) (Q:Value→Shared→Prop) (E:Value→Shared→Prop),C i j→Q (.int (g i j) s.toks) { s with toks:=s.toks+1 }→wpAny (model X.prog X.w) X.A (f (.int i t) (.int j u)) Q E s) :
  Eo X f (rI C fun i j=>.int (g i j)):=by
 intro pins s σ H x y v u Q I rx ry h;obtain⟨i,j,rfl,rfl,hc,q⟩:=h;obtain⟨t,rfl⟩:=rx;obtain⟨t',rfl⟩:=ry;exact rule i j t t' s _ _ hc ⟨.int (g i j),H,I.tok _,⟨_,rfl⟩,q⟩
theorem Zgv{f:Value→Value→Sem Value}{g:Int→Int→Int}
  (rule:∀(i j:Int) (t u:Tok) (s:Shared) (Q:Value→Shared→Prop) (E:Value→Shared→Prop),Q (.int (g i j) s.toks) { s with toks:=s.toks+1 }→wpAny (model X.prog X.w) X.A (f (.int i t) (.int j u)) Q E s) :
  Eo X f (rI0 fun i j=>.int (g i j)):=by
 intro pins s σ H x y v u Q I rx ry h;obtain⟨i,j,rfl,rfl,q⟩:=h;obtain⟨t,rfl⟩:=rx;obtain⟨t',rfl⟩:=ry;exact rule i j t t' s _ _ ⟨.int (g i j),H,I.tok _,⟨_,rfl⟩,q⟩
theorem Zpf{f:Value→Value→Sem Value}{g:Int→Int→Bool}
  (rule:∀(i j:Int) (t u:Tok) (s:Shared) (Q:Value→Shared→Prop) (E:Value→Shared→Prop),Q (.bool (g i j)) s→wpAny (model X.prog X.w) X.A (f (.int i t) (.int j u)) Q E s) :
  Eo X f (rI0 fun i j=>.bl (g i j)):=by
 intro pins s σ H x y v u Q I rx ry h;obtain⟨i,j,rfl,rfl,q⟩:=h;obtain⟨t,rfl⟩:=rx;obtain⟨t',rfl⟩:=ry;exact rule i j t t' s _ _ ⟨.bl (g i j),H,I,rfl,q⟩
def Zpy(i j:Int):Prop:=0 < j∧j < 1073741824
def Zpx(i j:Int):Prop:=0≤j∧j≤1000000∧i.natAbs < 2 ^ 64
def CMul(i j:Int):Prop:=(-(2 ^ 64) < i∧i < 2 ^ 64)∨(-(2 ^ 64) < j∧j < 2 ^ 64)
theorem CMul.ok{i j:Int}(h:CMul i j):IntMulOk i j:=by
 rcases h with⟨h1,h2⟩ | ⟨h1,h2⟩
 ·exact .of_left (intBits_le_64 h1 h2)
 ·exact .of_right (intBits_le_64 h1 h2)
theorem K9(k:Nat):(0:Int)≤2 ^ k:=by
 rw[two_pow_cast];exact Int.natCast_nonneg _
theorem Ym:Eo X (binaryOp .Add) (rI0 fun i j=>.int (i+j)):=Zgv fun _ _ _ _ _ _ _ q=>add_int q
theorem G9:Eo X (binaryOp .Sub) (rI0 fun i j=>.int (i - j)):=Zgv fun _ _ _ _ _ _ _ q=>sub_int q
theorem Xa:Eo X (binaryOp .Mult) (rI CMul fun i j=>.int (i * j)):=opI fun _ _ _ _ _ _ _ hc q=>mul_int q hc.ok
theorem Ys:Eo X (binaryOp .FloorDiv) (rI Zpy fun i j=>.int (i / j)):=opI fun i j _ _ _ _ _ hc q=>by
 have h1:(0:Int) < j:=hc.1;have h2:j < 1073741824:=hc.2;exact floordiv_int (by omega) (by rw[Int.fdiv_eq_ediv_of_nonneg i (by omega)];exact q) (.inl (PyProof.noPylong_small (by omega)))
theorem Y3:Eo X (binaryOp .Mod) (rI (fun _ j=>0 < j) fun i j=>.int (i % j)):=opI fun i j _ _ _ _ _ hc q=>by
 have h1:(0:Int) < j:=hc;exact mod_int' (by omega) (by rw[Int.fmod_eq_emod_of_nonneg i (by omega)];exact q)
theorem Zm5:Eo X (binaryOp .Pow) (rI Zpx fun i j=>.int (i ^ j.toNat)):=opI fun _ _ _ _ _ _ _ hc q=>pow_int_small hc.1 hc.2.1 hc.2.2 q
theorem Ta:Eo X (binaryOp .LShift) (rI Zpx fun i j=>.int (i * 2 ^ j.toNat)):=opI fun _ _ _ _ _ _ _ hc q=>lshift_int_small hc.1 hc.2.1 hc.2.2 q
theorem Zgt:Eo X (binaryOp .RShift) (rI (fun _ j=>0≤j) fun i j=>.int (i / 2 ^ j.toNat)):=opI fun i j _ _ _ _ _ hc q=>
 rshift_int hc (by rw[Int.fdiv_eq_ediv_of_nonneg i (K9 _)];exact q)
theorem Oi:Eo X (binaryOp .BitAnd) (rI0 fun i j=>.int (Builtin.bitAnd i j)):=Zgv fun _ _ _ _ _ _ _ q=>and_int q
theorem Zpe:Eo X (binaryOp .BitOr) (rI0 fun i j=>.int (Builtin.bitOr i j)):=Zgv fun _ _ _ _ _ _ _ q=>or_int q
theorem Zm4:Eo X (binaryOp .BitXor) (rI0 fun i j=>.int (Builtin.bitXor i j)):=Zgv fun _ _ _ _ _ _ _ q=>xor_int q
theorem unI{f:Value→Sem Value}{g:Int→Int}
  (rule:∀(i:Int) (t:Tok) (s:Shared) (Q:Value→Shared→Prop) (E:Value→Shared→Prop),Q (.int (g i) s.toks) { s with toks:=s.toks+1 }→wpAny (model X.prog X.w) X.A (f (.int i t)) Q E s) :
  UnR X f (rU fun i=>.int (g i)):=by
 intro pins s σ H x v Q I rx h;obtain⟨i,rfl,q⟩:=h;obtain⟨t,rfl⟩:=rx;exact rule i t s _ _ ⟨.int (g i),H,I.tok _,⟨_,rfl⟩,q⟩
theorem Zl5:UnR X (unaryOp .USub) (rU fun i=>.int (-i)):=unI fun _ _ _ _ _ q=>neg_int q
end
def Zmg:V→V→Bool
 | .non,.non=>true | .non,.int _=>true | .int _,.non=>true | .non,.bl _=>true | .bl _,.non=>true | .non,.str _=>true | .str _,.non=>true
 | .int _,.int _=>true | .bl _,.bl _=>true | .str _,.str _=>true | .byt _,.byt _=>true
 | .int _,.str _=>true | .str _,.int _=>true | .bl _,.str _=>true | .str _,.bl _=>true
 | _,_=>false
def rEq:R2:=fun x y H Q=>Zmg x y=true∧Q (.bl (decide (x=y))) H
def rNe:R2:=fun x y H Q=>Zmg x y=true∧Q (.bl (!decide (x=y))) H
theorem Zcl{i j:Int}:decide (V.int i=V.int j)=(i == j):=by
 rw[Bool.eq_iff_iff];simp
theorem Zh9{i j:Bool}:decide (V.bl i=V.bl j)=(i == j):=by
 rw[Bool.eq_iff_iff];simp
theorem Zcj{i j:Str}:decide (V.str i=V.str j)=(i == j):=by
 rw[Bool.eq_iff_iff];simp
theorem Zcm{i j:Array UInt8}:decide (V.byt i=V.byt j)=(i.toList == j.toList):=by
 rw[Bool.eq_iff_iff];cases i;cases j;simp
section
variable{X:Cx}{a b c:Expr}{ta tb tc:TE}{pos:Pos}
theorem Yf{pins:List (Addr×Obj)}{σ:St}{H:Hp}{s:Shared}{Q:VK}{k k':Bool}(I:Inv X pins σ H s)(q:Q (.bl k) H)(e:k=k'):EP X pins σ Q (.bool k') s:=by
 subst e;exact⟨.bl k,H,I,rfl,q⟩
theorem Uu:Eo X (compareOp .Eq) rEq:=by
 intro pins s σ H x y v u Q I rx ry h;obtain⟨hs,q⟩:=h;cases x with
 | non=>
  cases rx;cases y with
  | non=>cases ry;exact PySem.EqNone.eq_none_none (Yf I q (by simp))
  | bl j=>cases ry;exact PySem.EqNone.eq_none_bool (Yf I q (by simp))
  | int j=>obtain⟨t',rfl⟩:=ry;exact PySem.EqNone.eq_none_int (Yf I q (by simp))
  | str j=>obtain⟨t',rfl⟩:=ry;exact PySem.EqNone.eq_none_str (Yf I q (by simp))
  | _=>exact absurd (show false=true from hs) Zq
 | bl i=>
  cases rx;cases y with
  | non=>cases ry;exact PySem.EqNone.eq_bool_none (Yf I q (by simp))
  | bl j=>cases ry;exact eq_bool (Yf I q Zh9)
  | str j=>obtain⟨t',rfl⟩:=ry;exact PySem.EqMixed.eq_bool_str (Yf I q (by simp))
  | _=>exact absurd (show false=true from hs) Zq
 | int i=>
  obtain⟨t,rfl⟩:=rx;cases y with
  | non=>cases ry;exact PySem.EqNone.eq_int_none (Yf I q (by simp))
  | int j=>obtain⟨t',rfl⟩:=ry;exact eq_int (Yf I q Zcl)
  | str j=>obtain⟨t',rfl⟩:=ry;exact PySem.EqMixed.eq_int_str (Yf I q (by simp))
  | _=>exact absurd (show false=true from hs) Zq
 | str i=>
  obtain⟨t,rfl⟩:=rx;cases y with
  | non=>cases ry;exact PySem.EqNone.eq_str_none (Yf I q (by simp))
  | bl j=>cases ry;exact PySem.EqMixed.eq_str_bool (Yf I q (by simp))
  | int j=>obtain⟨t',rfl⟩:=ry;exact PySem.EqMixed.eq_str_int (Yf I q (by simp))
  | str j=>obtain⟨t',rfl⟩:=ry;exact eq_str (Yf I q Zcj)
  | _=>exact absurd (show false=true from hs) Zq
 | byt i=>
  obtain⟨t,rfl⟩:=rx;cases y with
  | byt j=>obtain⟨t',rfl⟩:=ry;exact W.eq_bytes (Yf I q Zcm)
  | _=>exact absurd (show false=true from hs) Zq
 | _=>cases y<;>exact absurd (show false=true from hs) Zq
theorem Q5:Eo X (compareOp .NotEq) rNe:=by
 intro pins s σ H x y v u Q I rx ry h;obtain⟨hs,q⟩:=h;cases x with
 | non=>
  cases rx;cases y with
  | non=>cases ry;exact PySem.EqNone.ne_none_none (Yf I q (by simp))
  | bl j=>cases ry;exact PySem.EqNone.ne_none_bool (Yf I q (by simp))
  | int j=>obtain⟨t',rfl⟩:=ry;exact PySem.EqNone.ne_none_int (Yf I q (by simp))
  | str j=>obtain⟨t',rfl⟩:=ry;exact PySem.EqNone.ne_none_str (Yf I q (by simp))
  | _=>exact absurd (show false=true from hs) Zq
 | bl i=>
  cases rx;cases y with
  | non=>cases ry;exact PySem.EqNone.ne_bool_none (Yf I q (by simp))
  | bl j=>cases ry;exact ne_bool (Yf I q (congrArg not Zh9))
  | str j=>obtain⟨t',rfl⟩:=ry;exact PySem.EqMixed.ne_bool_str (Yf I q (by simp))
  | _=>exact absurd (show false=true from hs) Zq
 | int i=>
  obtain⟨t,rfl⟩:=rx;cases y with
  | non=>cases ry;exact PySem.EqNone.ne_int_none (Yf I q (by simp))
  | int j=>obtain⟨t',rfl⟩:=ry;exact ne_int (Yf I q (congrArg not Zcl))
  | str j=>obtain⟨t',rfl⟩:=ry;exact PySem.EqMixed.ne_int_str (Yf I q (by simp))
  | _=>exact absurd (show false=true from hs) Zq
 | str i=>
  obtain⟨t,rfl⟩:=rx;cases y with
  | non=>cases ry;exact PySem.EqNone.ne_str_none (Yf I q (by simp))
  | bl j=>cases ry;exact PySem.EqMixed.ne_str_bool (Yf I q (by simp))
  | int j=>obtain⟨t',rfl⟩:=ry;exact PySem.EqMixed.ne_str_int (Yf I q (by simp))
  | str j=>obtain⟨t',rfl⟩:=ry;exact ne_str (Yf I q (congrArg not Zcj))
  | _=>exact absurd (show false=true from hs) Zq
 | byt i=>
  obtain⟨t,rfl⟩:=rx;cases y with
  | byt j=>obtain⟨t',rfl⟩:=ry;exact W.ne_bytes (Yf I q (congrArg not Zcm))
  | _=>exact absurd (show false=true from hs) Zq
 | _=>cases y<;>exact absurd (show false=true from hs) Zq
theorem Zb6:Eo X (compareOp .Lt) (rI0 fun i j=>.bl (decide (i < j))):=Zpf fun _ _ _ _ _ _ _ q=>lt_int q
theorem E5:Eo X (compareOp .Gt) (rI0 fun i j=>.bl (decide (j < i))):=Zpf fun _ _ _ _ _ _ _ q=>gt_int q
theorem Zgu:Eo X (compareOp .Is) (fun x y H Q=>y = .non∧Q (.bl (decide (x = .non))) H):=by
 intro pins s σ H x y v u Q I rx ry h;obtain⟨rfl,q⟩:=h;cases ry;refine is_none_gen (Yf I q ?_);cases x<;>first
  | (cases rx;rfl)
  | (obtain⟨t,rfl⟩:=rx;rfl)
theorem Zjx:Eo X (compareOp .IsNot) (fun x y H Q=>y = .non∧Q (.bl (!decide (x = .non))) H):=by
 intro pins s σ H x y v u Q I rx ry h;obtain⟨rfl,q⟩:=h;cases ry;refine isnot_none_gen (Yf I q ?_);cases x<;>first
  | (cases rx;rfl)
  | (obtain⟨t,rfl⟩:=rx;rfl)
theorem Js(b:Expr){op:CmpOp}(h:op ≠ .In:=by decide)(h2:op ≠ .NotIn:=by decide):behindInMarks op b=false:=by
 have e1:(op == CmpOp.In)=false:=by cases op<;>first | rfl | exact absurd rfl h
 have e2:(op == CmpOp.NotIn)=false:=by cases op<;>first | rfl | exact absurd rfl h2
 cases b<;>simp [behindInMarks,e1,e2]
theorem X0{op:CmpOp}{r:R2}(ho:Eo X (compareOp op) r)(ha:PE X a ta)(hb:PE X b tb)(hm:behindInMarks op b=false):PE X (.Compare a [op] [b] pos) (tOp r ta tb):=by
 intro pins s σ H Q I h;exact wpAny_Compare1 (Zn3 ha hb I h fun v u s2 x y H2 I2 rx ry q=>ho pins s2 σ H2 x y v u Q I2 rx ry q) hm
def Zlj(t:TE):TT:=fun σ H Q=>t σ H fun x H'=>∃ k,x = .bl k∧Q k H'
theorem Je{op:CmpOp}{r:R2}(ho:Eo X (compareOp op) r)(ha:PE X a ta)(hb:PE X b tb)(hm:behindInMarks op b=false):PT X (.Compare a [op] [b] pos) (Zlj (tOp r ta tb)):=by
 intro pins s σ H Q I h;refine wpAny_isTrue_Compare1 (Y1 (ha pins s σ H _ I h) fun v s1 ⟨x,H1,I1,r1,q1⟩=>Y1 (hb pins s1 σ H1 _ I1 q1) fun u s2 ⟨y,H2,I2,r2,q2⟩=>
  Y1 (ho pins s2 σ H2 x y v u _ I2 r1 r2 q2) fun c s3 ⟨z,H3,I3,r3,k,e,q3⟩=>?_) hm
 subst e;cases r3;exact wpAny_truthy_bool ⟨H3,I3,q3⟩
def Zpr(K:W.Frag)(x:V)(H:Hp)(k:Bool):Prop:=
 match x with
 | .non=>k=false
 | .bl b=>k=b
 | .int i=>k=(i != 0)
 | .str y=>y.length≤sizeLine∧k=((y.length:Int) != 0)
 | .byt y=>y.size≤sizeLine∧k=((y.size:Int) != 0)
 | .ref p=>(∃ xs,SqL K H p xs∧k = !xs.isEmpty)∨(∃ xs,SqT K H p xs∧k = !xs.isEmpty)∨∃ kvs,H p=some (.dK kvs)∧k = !kvs.isEmpty
 | _=>False
theorem Zay{κ:Type}{kvs:List (κ×V)}{vs:List (κ×Value)}(r:KV kvs vs):(!vs.isEmpty) = !kvs.isEmpty:=by
 cases r<;>rfl
theorem Tm{xs:List V}{its:List Value}(r:Vals xs its):(!its.toArray.isEmpty) = !xs.isEmpty:=by
 cases r<;>simp
theorem N7:(sizeLine:Nat) < 2 ^ 63:=by rw[sizeLine_eq];decide
theorem Zez:Zq1 X (fun x H Q=>∃ k,Zpr X.K x H k∧Q k H):=by
 intro pins s σ H x v Q I rx h;obtain⟨k,e,q⟩:=h;have hl:=N7;have hs:sizeLine=16777216:=sizeLine_eq;cases x with
 | non=>
  cases rx;have e':k=false:=e;subst e';exact truthy_none ⟨H,I,q⟩
 | bl b=>
  cases rx;have e':k=b:=e;subst e';exact wpAny_truthy_bool ⟨H,I,q⟩
 | int i=>
  obtain⟨t,rfl⟩:=rx;have e':k=(i != 0):=e;subst e';exact PySem.P.truthy_int ⟨H,I,q⟩
 | str y=>
  obtain⟨t,rfl⟩:=rx;obtain⟨hy,e'⟩:y.length≤sizeLine∧k=((y.length:Int) != 0):=e;subst e';exact PySem.P.truthy_str (by omega) ⟨H,I.tok _,q⟩
 | byt y=>
  obtain⟨t,rfl⟩:=rx;obtain⟨hy,e'⟩:y.size≤sizeLine∧k=((y.size:Int) != 0):=e;subst e';exact W.truthy_bytes (by omega) ⟨H,I.tok _,q⟩
 | ref p=>
  cases rx;have e':(∃ xs,SqL X.K H p xs∧k = !xs.isEmpty)∨(∃ xs,SqT X.K H p xs∧k = !xs.isEmpty)∨∃ kvs,H p=some (.dK kvs)∧k = !kvs.isEmpty:=e;rcases e' with⟨xs,hx,e'⟩ | ⟨xs,hx,e'⟩ | ⟨kvs,hx,e'⟩
  ·subst e'
   obtain⟨its,r,pl,hz⟩:=I.list hx;have hlen:=r.length;exact wpAny_truthy_list pl.isList (by simp only[List.size_toArray];omega) ⟨H,I.tok _,by rw[Tm r];exact q⟩
  ·subst e'
   obtain⟨its,r,pl,hz⟩:=I.tuple hx;have hlen:=r.length;exact truthy_tuple pl (by simp only[List.size_toArray];omega) ⟨H,I.tok _,by rw[Tm r];exact q⟩
  ·subst e'
   obtain⟨hz,hS,vs,r,m⟩:kvs.length≤sizeLine∧(p == sysModules)=false∧∃ vs,KV kvs vs∧s.heap.DictOf (J4 X.prog X.w) p vs:=I.hok p _ hx;have hlen:kvs.length=vs.length:=Paired.length r;exact wpAny_truthy_dict hS m (by omega) ⟨H,I.tok _,by rw[Zay r];exact q⟩
 | _=>exact(show False from e).elim
theorem Ey(ha:PE X a ta)(he:∀ whole,isTrue a X.env whole=(do let v ← whole;standAt a.pos;holding [v] (truthy v))) :
  PT X a (fun σ H Q=>ta σ H fun x H'=>∃ k,Zpr X.K x H' k∧Q k H'):=by
 intro pins s σ H Q I h;exact isTrue_plain (Y1 (ha pins s σ H _ I h) fun v s1 ⟨x,H1,I1,r1,q1⟩=>Zez pins s1 σ H1 x v Q I1 r1 q1) (he _)
theorem Tc:Eo X (binaryOp .Add) (fun x y H Q=>∃ i j,x = .str i∧y = .str j∧i.length+j.length≤sizeLine∧Q (.str (i++j)) H):=by
 intro pins s σ H x y v u Q I rx ry h;obtain⟨i,j,rfl,rfl,hz,q⟩:=h;obtain⟨t,rfl⟩:=rx;obtain⟨t',rfl⟩:=ry;exact add_str (fun t' tk=>⟨.str (i++j),H,I.tok _,⟨_,rfl⟩,q⟩) hz
theorem U2{x:V}{us:List Value}(r:Vals [x] us):∃ u,us=[u]∧RelV x u:=by
 cases r with
 | cons r1 r2=>cases r2;exact⟨_,rfl,r1⟩
theorem Zex{x y:V}{us:List Value}(r:Vals [x,y] us):∃ u w',us=[u,w']∧RelV x u∧RelV y w':=by
 cases r with
 | cons r1 r2=>
  cases r2 with
  | cons r3 r4=>cases r4;exact⟨_,_,rfl,r1,r3⟩
theorem V6(hc:X.calm=true):Ui X (.builtin "max") (fun xs H Q=>∃ i j,xs=[.int i,.int j]∧Q (.int (if j > i then j else i)) H):=by
 intro pins s σ H xs us Q I r h;obtain⟨i,j,rfl,q⟩:=h;obtain⟨u,w',rfl,⟨t,rfl⟩,⟨t',rfl⟩⟩:=Zex r;refine max_two_ints (I.ok.hd hc) fun h' tk k=>⟨_,H,I.kept k,?_,q⟩;by_cases hj:j > i
 ·rw[if_pos hj,if_pos hj];exact⟨_,rfl⟩
 ·rw[if_neg hj,if_neg hj];exact⟨_,rfl⟩
theorem V5(hc:X.calm=true):Ui X (.builtin "min") (fun xs H Q=>∃ i j,xs=[.int i,.int j]∧Q (.int (if j < i then j else i)) H):=by
 intro pins s σ H xs us Q I r h;obtain⟨i,j,rfl,q⟩:=h;obtain⟨u,w',rfl,⟨t,rfl⟩,⟨t',rfl⟩⟩:=Zex r;refine min_two_ints (I.ok.hd hc) fun h' tk k=>⟨_,H,I.kept k,?_,q⟩;by_cases hj:j < i
 ·rw[if_pos hj,if_pos hj];exact⟨_,rfl⟩
 ·rw[if_neg hj,if_neg hj];exact⟨_,rfl⟩
theorem Em:Ui X (.type "str") (fun xs H Q=>∃ i,xs=[.int i]∧i.natAbs.log2 < 1920∧Q (.str (toString i)) H):=by
 intro pins s σ H xs us Q I r h;obtain⟨i,rfl,hz,q⟩:=h;obtain⟨u,rfl,t,rfl⟩:=U2 r;exact PySem.P.str_of_int hz ⟨.str _,H,I.tok _,⟨_,rfl⟩,q⟩
end
structure ObjM(h:Heap)(x dx C:Addr)(mA:Str→Option Value):Prop where
 obj:h.get? x=some (W.instObj C dx)
 ns:h.Ns1 dx mA
 ne:dx≠x
theorem Zdy{h:Heap}{dx:Addr}{mA:Str→Option Value}(n:h.Ns1 dx mA):∃ od,h.get? dx=some od∧∀ name,W.lookIn name od=some (mA name):=by
 obtain⟨o,es,ep,ho,hd,hk,_,hm⟩:=n;refine⟨o,ho,fun name=>?_⟩;have e:=hm name;unfold nsFind findBy at e;rw[← Array.find?_toList] at e;unfold W.lookIn;rw[hd];dsimp only;split
 ·rename_i y q
  rw[q] at e;exact congrArg some e
 ·rename_i q
  rw[q] at e;have a:es.toList.any (·.refKey)=false:=by
   rw[List.any_eq_false];intro y hy;obtain⟨z,t,hkey⟩:=hk y (Array.mem_toList_iff.mp hy);simp [DictEntry.refKey,hkey]
  have a':¬ es.toList.any (·.refKey)=true:=by rw[a];exact Zq
  rw[if_neg a'];exact congrArg some e
theorem ObjM.look{h:Heap}{x dx C:Addr}{mA:Str→Option Value}(I:ObjM h x dx C mA):∃ od,W.InstAt h x (W.instObj C dx) C (some od)∧∀ name,W.lookIn name od=some (mA name):=
 let ⟨od,ho,hl⟩:=Zdy I.ns
 ⟨od,⟨I.obj,rfl,rfl,ho⟩,hl⟩
section
variable{prog:Program}{w:World}{A:Around}{E:Value→Shared→Prop}{s:Shared}{K:W.Frag}{x dx C f:Addr}{mA:Str→Option Value}{name:Str}{v:Value}
theorem Zky{expr:Bool}{Q:Value→Shared→Prop}(X:K.In s.heap)(I:ObjM s.heap x dx C mA)(hg:W.plainGet K C name=true)(hh:W.hasDictIn K C=true)
  (ha:W.findIn K (.ref C) name=some none) (hv:mA name=some v) (hv':W.handedIn v=true) (h:Q v { s with toks:=s.toks+1 }) :
  wpAny (model prog w) A (getAttr (.ref x) name expr) Q E s:=by
 obtain⟨od,J,hl⟩:=I.look;exact W.get_value X J (W.plainGet_of hg).1 (W.findObj_own hh ha rfl (by rw[hl,hv])) hv' h
theorem Zhu{pl:Sem Bool}{Q:Value×List Value→Shared→Prop}(X:K.In s.heap)(I:ObjM s.heap x dx C mA)(hg:W.plainGet K C name=true)
  (hf:W.findIn K (.ref C) name=some (some (.ref f))) (ht:W.isFn K (.ref f)=true) (hv:mA name=none) (h:Q (.ref f,[.ref x]) s) :
  wpAny (model prog w) A (getMethod (.ref x) name pl) Q E s:=by
 obtain⟨od,J,hl⟩:=I.look;exact W.method_fn X J (W.plainGet_of hg).1 (W.plainGet_of hg).2 hf (beq_iff_eq.mp ht) (by show(W.lookIn name od).map (·.isSome)=some false;rw[hl,hv];rfl) h
theorem Zi5{ns:List Str}{Q:Unit→Shared→Prop}(X:K.In s.heap)(I:ObjM s.heap x dx C mA)
  (hs:W.findIn K (.ref C) "__setattr__" = some (some (.builtin "object.__setattr__"))) (hp:W.plainOver K C=true) (ht:W.takerIn K C name=some none) (hh:W.hasDictIn K C=true)
  (hw:PySem.Within mA ns) (hsz:ns.length≤sizeLine)
  (h:∀ h',ObjM h' x dx C (fun y=>if y=name then some v else mA y)→Heap.SameBut dx s.heap h'→Q () { s with heap:=h',toks:=s.toks+2 }) :
  wpAny (model prog w) A (setAttr (.ref x) name v) Q E s:=by
 obtain⟨od,J,hl⟩:=I.look;refine W.set_plain X J hs (W.osa_open (s:={ s with toks:=s.toks+1 }) (r:=none) X J hp ht fun b=>?_);obtain⟨cd,hc,hd'⟩:=W.any_some hh;have hx:s.heap.get? x=some ⟨.ref C,some dx,.plain,#[]⟩:=I.obj;refine Zc (wpAny_pure (Zc (Zc (wpAny_loadPart hx (Zc (W.Looks.here (s:={ s with toks:=s.toks+1 }) (W.looks_clsIn X hc) ?_))))));rw[hd'];refine wpAny_pure (a:=some dx) (Zc (wpAny_pure (Zc ?_)));refine wpAny_nsSet1 (s:={ s with toks:=s.toks+1 }) I.ns fun h' hn2 hs2=>?_;obtain⟨oD,esD,epD,hoD,hdD,hcD⟩:=hn2.count (PySem.Within.cons name v hw);refine Zc (wpAny_lookBehind hoD (by rw[hdD];exact pastItsLine_dict (Nat.le_trans hcD (by rw[Jc];omega))) ?_);exact wpAny_pure (h _ ⟨(hs2.2 _ (Ne.symm I.ne)).trans I.obj,hn2,I.ne⟩ hs2)
theorem Zhh{R:Result→Shared→Prop}{vs:List Value}{kw:List (Str×Value)}(X:K.In s.heap)(hm:W.makesIn K C=true)
  (hi:W.findIn K (.ref C) "__init__" = some (some (.ref f))) (hf:W.typeIn K (.ref f)=some (.type "function"))
  (h:codeAny (model prog w) (A.under (.builtin "type.__call__" ⟨.ref C :: vs,kw⟩)) (.call (.ref f) ⟨.ref (s.heap.objs.size+1) :: vs,kw⟩) (W.InitBack (s.heap.objs.size+1) R)
   { s with heap:=(s.heap.push W.emptyDict).push (W.instObj C s.heap.objs.size) }) :
  codeAny (model prog w) A (.call (.ref C) ⟨vs,kw⟩) R s:=by
 obtain⟨hh,g,d,t,os⟩:=s;exact W.make_core (W.makes_of X hm) (W.looks_findIn X hi) (fun self=>W.bind_fn X self hf) (.inl rfl) h
theorem Zdx{R:Result→Shared→Prop}(X:K.In s.heap)(hm:W.makesIn K C=true)
  (hi:W.findIn K (.ref C) "__init__" = some (some (.builtin "object.__init__")))
  (hb:∀ self,W.Looks (model prog w) s.heap (bindSpecial (.builtin "object.__init__") self) (.builtin "object.__init__",[self]))
  (h:codeAny (model prog w) (A.under (.builtin "type.__call__" ⟨[.ref C],[]⟩)) (.call (.builtin "object.__init__") ⟨[.ref (s.heap.objs.size+1)],[]⟩) (W.InitBack (s.heap.objs.size+1) R)
   { s with heap:=(s.heap.push W.emptyDict).push (W.instObj C s.heap.objs.size) }) :
  codeAny (model prog w) A (.call (.ref C) ⟨[],[]⟩) R s:=by
 obtain⟨hh,g,d,t,os⟩:=s;exact W.make_core (W.makes_of X hm) (W.looks_findIn X hi) hb (.inr ⟨rfl,rfl⟩) h
end
def Xs(f:Str)(v:V):List (Str×V)→List (Str×V)
 | []=>[(f,v)]
 | (g,x) :: r=>if g=f then(g,v) :: r else(g,x) :: Xs f v r
theorem Zy(f g:Str)(v:V):∀ fs:List (Str×V),(Xs f v fs).lookup g=if g=f then some v else fs.lookup g
 | []=>by
  show List.lookup g [(f,v)]=_;by_cases h:g=f
  ·have hb:(g == f)=true:=beq_iff_eq.mpr h
   simp only[List.lookup,hb,if_pos h]
  ·have hb:(g == f)=false:=beq_eq_false_iff_ne.mpr h
   simp only[List.lookup,hb,if_neg h]
 | (k,x) :: r=>by
  have ih:=Zy f g v r;rw[show Xs f v ((k,x) :: r)=(if k=f then(k,v) :: r else(k,x) :: Xs f v r) from rfl];by_cases hk:k=f
  ·rw[if_pos hk]
   by_cases h:g=k
   ·have hb:(g == k)=true:=beq_iff_eq.mpr h
    simp only[List.lookup,hb,if_pos (h.trans hk)]
   ·have hb:(g == k)=false:=beq_eq_false_iff_ne.mpr h
    simp only[List.lookup,hb,if_neg (fun e:g=f=>h (e.trans hk.symm))]
  ·rw[if_neg hk]
   by_cases h:g=k
   ·have hb:(g == k)=true:=beq_iff_eq.mpr h
    simp only[List.lookup,hb,if_neg (fun e:g=f=>hk (h.symm.trans e))]
   ·have hb:(g == k)=false:=beq_eq_false_iff_ne.mpr h
    simp only[List.lookup,hb];exact ih
theorem Vz(f:Str)(v:V):∀ fs:List (Str×V),f∈(Xs f v fs).map (·.1)∧∀ g,g∈fs.map (·.1)→g∈(Xs f v fs).map (·.1)
 | []=>⟨by simp [Xs],fun g h=>by simp at h⟩
 | (k,x) :: r=>by
  obtain⟨i1,i2⟩:=Vz f v r;rw[show Xs f v ((k,x) :: r)=(if k=f then(k,v) :: r else(k,x) :: Xs f v r) from rfl];by_cases hk:k=f
  ·rw[if_pos hk]
   subst hk;exact⟨by simp,fun g h=>by simpa using h⟩
  ·rw[if_neg hk]
   refine⟨?_,fun g h=>?_⟩
   ·rw[List.map_cons]
    exact Zu _ i1
   ·rw[List.map_cons] at h ⊢
    rcases List.mem_cons.mp h with e | e
    ·exact List.mem_cons.mpr (.inl e)
    ·exact Zu _ (i2 g e)
theorem Y5(f:Str)(v:V):∀ fs:List (Str×V),(Xs f v fs).length≤fs.length+1
 | []=>by simp [Xs]
 | (k,x) :: r=>by
  have ih:=Y5 f v r;rw[show Xs f v ((k,x) :: r)=(if k=f then(k,v) :: r else(k,x) :: Xs f v r) from rfl];by_cases hk:k=f
  ·rw[if_pos hk,Jc,Jc];omega
  ·rw[if_neg hk,Jc,Jc];omega
theorem RelO.some_of{v:V}{o:Option Value}(r:RelO (some v) o):∃ u,o=some u∧RelV v u:=by
 cases o with
 | none=>exact(show False from r).elim
 | some u=>exact⟨u,rfl,r⟩
theorem RelO.none_of{o:Option Value}(r:RelO none o):o=none:=by
 cases o with
 | none=>rfl
 | some u=>exact(show False from r).elim
theorem Zd7{v:V}{u:Value}(r:RelV v u):W.handedIn u=true:=by
 cases v with
 | non=>cases (show u=Value.none from r);rfl
 | bl b=>cases (show u=Value.bool b from r);rfl
 | int i=>obtain⟨t,e⟩:=(show ∃ t,u=Value.int i t from r);cases e;rfl
 | str x=>obtain⟨t,e⟩:=(show ∃ t,u=Value.str x t from r);cases e;rfl
 | byt b=>obtain⟨t,e⟩:=(show ∃ t,u=Value.bytes b t from r);cases e;rfl
 | flt b=>obtain⟨t,e⟩:=(show ∃ t,u=Value.float b t from r);cases e;rfl
 | ref a=>cases (show u=Value.ref a from r);rfl
 | ty n=>cases (show u=Value.type n from r);rfl
section
variable{P:Program}{w:World}{H H':Hp}{h h':Heap}{a C dx:Addr}{fs fs':List (Str×V)}
theorem R7(hok:HOk P w H h)(e:H a=some (.ins C dx fs)):∃ mA,ObjM h a dx C mA∧(∀ f,RelO (fs.lookup f) (mA f))∧PySem.Within mA (fs.map (·.1))∧fs.length≤1000∧H dx=some (.own a):=by
 obtain⟨d,z,ne,ob,mA,n,r,q⟩:=(show ObjOk P w H h a (.ins C dx fs) from hok a _ e);exact⟨mA,⟨ob,n,ne⟩,r,q,z,d⟩
end
structure Cls(K:W.Frag)(C:Addr):Prop where
 pg:W.plainGet K C Str.empty=true
 hd:W.hasDictIn K C=true
 po:W.plainOver K C=true
 sa:W.findIn K (.ref C) "__setattr__" = some (some (.builtin "object.__setattr__"))
theorem Cls.get{K:W.Frag}{C:Addr}(c:Cls K C)(f:Str):W.plainGet K C f=true:=c.pg
def NoAttr(K:W.Frag)(C:Addr)(f:Str):Prop:=W.findIn K (.ref C) f=some none
theorem NoAttr.taker{K:W.Frag}{C:Addr}{f:Str}(n:NoAttr K C f):W.takerIn K C f=some none:=by
 unfold W.takerIn;rw[show W.findIn K (.ref C) f=some none from n];rfl
structure Meth(K:W.Frag)(C:Addr)(m:Str)(f:Addr):Prop where
 at_:W.findIn K (.ref C) m=some (some (.ref f))
 fn:W.isFn K (.ref f)=true
 kp:W.keepIn K (.ref f)=true
section
variable{X:Cx}{pins:List (Addr×Obj)}{σ:St}{H:Hp}{s:Shared}{a C dx:Addr}{fs:List (Str×V)}{f:Str}{v:V}{A:Around}{E:Value→Shared→Prop}
theorem Za0{b:Bool}{Q:Value→Shared→Prop}(I:Inv X pins σ H s)(e:H a=some (.ins C dx fs))(c:Cls X.K C)(n:NoAttr X.K C f)(l:fs.lookup f=some v)
  (h:∀ u s',Inv X pins σ H s'→RelV v u→Q u s'):wpAny (model X.prog X.w) A (getAttr (.ref a) f b) Q E s:=by
 obtain⟨mA,O,r,_,_,_⟩:=R7 I.hok e;obtain⟨u,hu,ru⟩:=RelO.some_of (v:=v) (o:=mA f) (by rw[← l];exact r f);exact Zky I.kIn O (c.get f) c.hd n hu (Zd7 ru) (h u _ (I.tok _) ru)
theorem El{m:Str}{g:Addr}{pl:Sem Bool}{Q:Value×List Value→Shared→Prop}(I:Inv X pins σ H s)(e:H a=some (.ins C dx fs))(c:Cls X.K C)(k:Meth X.K C m g)(l:fs.lookup m=none)
  (h:Q (.ref g,[.ref a]) s):wpAny (model X.prog X.w) A (getMethod (.ref a) m pl) Q E s:=by
 obtain⟨mA,O,r,_,_,_⟩:=R7 I.hok e;have hn:mA m=none:=RelO.none_of (by rw[← l];exact r m);exact Zhu I.kIn O (c.get m) k.at_ k.fn hn h
theorem Sw{y:V}{u:Value}{Q:Unit→Shared→Prop}(I:Inv X pins σ H s)(e:H a=some (.ins C dx fs))(c:Cls X.K C)(n:NoAttr X.K C f)(hl:fs.length < 1000)(ry:RelV y u)
  (h:∀ s',Inv X pins σ (upd H a (.ins C dx (Xs f y fs))) s'→Q () s'):wpAny (model X.prog X.w) A (setAttr (.ref a) f u) Q E s:=by
 obtain⟨mA,O,r,wi,_,ho⟩:=R7 I.hok e;have hz:(fs.map (·.1)).length≤sizeLine:=by rw[Zf,sizeLine_eq];omega
 refine Zi5 I.kIn O c.sa c.po n.taker c.hd wi hz fun h' O' sb=>h _ ?_;have hd:∃ o,h'.get? dx=some o:=let ⟨o,_,_,e',_⟩:=O'.ns;⟨o,e'⟩;refine I.write (x:=a) (e:=dx) (by rw[e];exact True.intro) (.inr ho) (fun b q hb z=>(sb.2 b hb).trans z) hd ?_;refine⟨by rw[Jf O.ne];exact ho,?_,O.ne,O'.obj,_,O'.ns,fun g=>?_,fun g hg=>?_⟩
 ·have:=Y5 f y fs;omega
 ·show RelO ((Xs f y fs).lookup g) (if g=f then some u else mA g)
  rw[Zy];by_cases q:g=f
  ·rw[if_pos q,if_pos q];exact ry
  ·rw[if_neg q,if_neg q];exact r g
 ·by_cases q:g=f
  ·rw[q];exact(Vz f y fs).1
  ·refine(Vz f y fs).2 g (wi g fun z=>hg ?_)
   show(if g=f then some u else mA g)=none;rw[if_neg q];exact z
theorem Inv.made(I:Inv X pins σ H s):Inv X pins σ (upd (upd H s.heap.objs.size (.own (s.heap.objs.size+1))) (s.heap.objs.size+1) (.ins C s.heap.objs.size []))
  { s with heap:=(s.heap.push W.emptyDict).push (W.instObj C s.heap.objs.size) }:=by
 have e1:(s.heap.push W.emptyDict).get? s.heap.objs.size=some W.emptyDict:=Heap.get?_push_size s.heap rfl;have e2:((s.heap.push W.emptyDict).push (W.instObj C s.heap.objs.size)).get? (s.heap.objs.size+1)=some (W.instObj C s.heap.objs.size):=by
  have:=Heap.get?_push_size (s.heap.push W.emptyDict) (o:=W.instObj C s.heap.objs.size) rfl
  rwa [Heap.size_push] at this
 have e3:(s.heap.push W.emptyDict).Ns s.heap.objs.size (fun _=>none):=⟨W.emptyDict,#[],_,e1,rfl,(fun e he=>absurd he (by simp)),fun _=>rfl⟩;have I1:=I.laid (a:=s.heap.objs.size) (o:=.own (s.heap.objs.size+1)) (h':=s.heap.push W.emptyDict) (t':=s.toks) (fun b u q=>Zi _ q) (Nat.le_refl _) ⟨_,e1⟩;refine I1.laid (a:=s.heap.objs.size+1) (o:=.ins C s.heap.objs.size []) (t':=s.toks) (fun b u q=>Zi _ q) (Nat.le_of_eq (Heap.size_push _ _)) ?_;have ne:s.heap.objs.size≠s.heap.objs.size+1:=Nat.ne_of_lt (Nat.lt_succ_self _);refine⟨by rw[Jf ne,Zn],Nat.zero_le _,ne,e2,fun _=>none,(Heap.Ns1.of_empty e3).at fun o q=>Zi _ q,fun _=>True.intro,fun y hy=>absurd rfl hy⟩
theorem Zlc{prog:Program}{w:World}{env:Env}{e:Expr}{f:Str}{pos:Pos}{s:Shared}{Q:Value→Shared→Prop}(hb:attributeBase e f env (eval e env)=eval e env)
  (h:wpAny (model prog w) A (eval e env) (fun o s₁=>wpAny (model prog w) A (getAttr o f true) Q E s₁) E s):wpAny (model prog w) A (eval (.Attribute e f pos) env) Q E s:=
 Attribute_any_ h (by rw[arm_eval_Attribute,hb])
end
def Zqc(K:W.Frag)(ta:TE)(f:Str):TE:=fun σ H Q=>ta σ H fun x H1=>∃ a C dx fs v,x = .ref a∧H1 a=some (.ins C dx fs)∧Cls K C∧NoAttr K C f∧fs.lookup f=some v∧Q v H1
def Zqh(K:W.Frag)(ta tv:TE)(f:Str):TS:=fun D σ H=>tv σ H fun y H1=>ta σ H1 fun x H2=>∃ a C dx fs,x = .ref a∧H2 a=some (.ins C dx fs)∧Cls K C∧NoAttr K C f∧fs.length < 1000 ∧
 D.nx σ (upd H2 a (.ins C dx (Xs f y fs)))
section
variable{X:Cx}{o e value:Expr}{f:Str}{pos pos' tpos:Pos}{ta tv:TE}
theorem Yj(he:PE X e ta)(hb:attributeBase e f X.env (eval e X.env)=eval e X.env):PE X (.Attribute e f pos) (Zqc X.K ta f):=by
 intro pins s σ H Q I h;refine Zlc hb (Y1 (he pins s σ H _ I h) fun u s1 ⟨x,H1,I1,rx,a,C,dx,fs,v,ex,ea,c,n,l,q⟩=>?_);subst ex;obtain rfl:u=Value.ref a:=rx;exact Za0 I1 ea c n l fun u' s2 I2 ru=>⟨v,H1,I2,ru,q⟩
theorem X5(ha:PE X o ta)(hv:PE X value tv)(hs:swapsWith value (some (.Attribute o f pos')) pos.line X.env=pure false):PS X (.Assign [.Attribute o f pos'] value pos) (Zqh X.K ta tv f):=by
 intro pins s σ H D I h;refine plainObj_wpAny_Assign_Attribute (Y1 (hv pins s σ H _ I h) fun u s1 ⟨y,H1,I1,ry,q⟩=>Y1 (ha pins s1 σ H1 _ I1 q) fun ov s2 ⟨x,H2,I2,rx,a,C,dx,fs,ex,ea,c,n,l,q2⟩=>?_) hs;subst ex;obtain rfl:ov=Value.ref a:=rx;exact Sw I2 ea c n l ry fun s3 I3=>⟨σ,_,I3,q2⟩
end
section
variable{X:Cx}{pins:List (Addr×Obj)}{σ:St}{H:Hp}{s:Shared}{A:Around}{E:Value→Shared→Prop}{Q:Value→Shared→Prop}{c:Value}{b:Bool}
inductive TyOf(K:W.Frag)(H:Hp):V→Value→Prop where
 | non:TyOf K H .non (.type "NoneType")
 | bl (x:Bool):TyOf K H (.bl x) (.type "bool")
 | int (i:Int):TyOf K H (.int i) (.type "int")
 | str (x:Str):TyOf K H (.str x) (.type "str")
 | flt (x:UInt64):TyOf K H (.flt x) (.type "float")
 | lst {a:Addr} {xs:List V} (e:H a=some (.lst xs)):TyOf K H (.ref a) (.type "list")
 | frz {a:Addr} {o:Obj} {xs:List V} (e:H a=some (.frz o (.lst xs))):TyOf K H (.ref a) (.type "list")
 | tup {a:Addr} {xs:List V} (e:H a=some (.tup xs)):TyOf K H (.ref a) (.type "tuple")
 | dK {a:Addr} {kvs:List (U8×V)} (e:H a=some (.dK kvs)):TyOf K H (.ref a) (.type "dict")
 | dT {a:Addr} {kvs:List (List U8×V)} (e:H a=some (.dT kvs)):TyOf K H (.ref a) (.type "dict")
 | ins {a C dx:Addr} {fs:List (Str×V)} (e:H a=some (.ins C dx fs)) (cl:Cls K C) (ha:W.findIn K (.ref C) "__class__" = some (some (.builtin "object.__class__")))
   (hn:W.specialIn K (.builtin "object.__class__") "__get__" = some (some (.builtin "getset_descriptor.__get__"))) (htk:W.takesIn K (.builtin "object.__class__")=some true)
   (hm:W.mroIn K C (.type "object")=some true):TyOf K H (.ref a) (.ref C)
theorem Zd4{x:V}{u t:Value}(I:Inv X pins σ H s)(rx:RelV x u)(ty:TyOf X.K H x t)(e:W.kitOne X.K t c=some b)(h:∀ tk,Q (.bool b) { s with toks:=tk }) :
  wpAny (model X.prog X.w) A (call (.builtin "isinstance") [u,c]) Q E s:=by
 cases ty with
 | non=>cases (show u=Value.none from rx);exact W.kia_one W.kitx_none I.kIn True.intro e (fun z=>nomatch z) h
 | bl y=>cases (show u=Value.bool y from rx);exact W.kia_one W.kitx_bool I.kIn True.intro e (fun z=>nomatch z) h
 | int i=>obtain⟨t,q⟩:=(show ∃ t,u=Value.int i t from rx);cases q;exact W.kia_one W.kitx_int I.kIn True.intro e (fun z=>nomatch z) h
 | str y=>obtain⟨t,q⟩:=(show ∃ t,u=Value.str y t from rx);cases q;exact W.kia_one W.kitx_str I.kIn True.intro e (fun z=>nomatch z) h
 | flt y=>obtain⟨t,q⟩:=(show ∃ t,u=Value.float y t from rx);cases q;exact W.kia_one W.kitx_float I.kIn True.intro e (fun z=>nomatch z) h
 | @lst a xs ea=>
  cases (show u=Value.ref a from rx);obtain⟨_,_,n,_,h1⟩:=(show ObjOk X.prog X.w H s.heap a (.lst xs) from I.hok a _ ea);exact W.kia_one W.kitx_list I.kIn ⟨_,h1,rfl⟩ e (fun z=>nomatch z) h
 | @frz a ob xs ea=>
  cases (show u=Value.ref a from rx);obtain⟨_,_,_,n,_,h1⟩:=(show ObjOk X.prog X.w H s.heap a (.frz ob (.lst xs)) from I.hok a _ ea);exact W.kia_one W.kitx_list I.kIn ⟨_,h1,rfl⟩ e (fun z=>nomatch z) h
 | @tup a xs ea=>
  cases (show u=Value.ref a from rx);obtain⟨_,_,_,p⟩:=(show ObjOk X.prog X.w H s.heap a (.tup xs) from I.hok a _ ea);obtain⟨o,h1,h2,_⟩:=p;exact W.kia_one W.kitx_tuple I.kIn ⟨o,h1,h2⟩ e (fun z=>nomatch z) h
 | @dK a kvs ea=>
  cases (show u=Value.ref a from rx);obtain⟨_,_,vs,_,p⟩:=(show ObjOk X.prog X.w H s.heap a (.dK kvs) from I.hok a _ ea);obtain⟨o,es,ep,h1,h2,_⟩:=p;exact W.kia_one W.kitx_dict I.kIn ⟨o,h1,h2.1⟩ e (fun z=>nomatch z) h
 | @dT a kvs ea=>
  cases (show u=Value.ref a from rx);obtain⟨_,_,xs,_,o,es,ep,h1,h2,_⟩:=(show ObjOk X.prog X.w H s.heap a (.dT kvs) from I.hok a _ ea);exact W.kia_one W.kitx_dict I.kIn ⟨o,h1,h2.1⟩ e (fun z=>nomatch z) h
 | @ins a C dx fs ea cl ha hn htk hm=>
  cases (show u=Value.ref a from rx);obtain⟨mA,O,_⟩:=R7 I.hok ea;obtain⟨od,J,_⟩:=O.look;exact W.kia_one (W.kitx_own (cl.get _) cl.hd ha hn htk hm) I.kIn J e (fun z=>nomatch z) h
end
structure Room(k:Nat)(A:Around):Prop where
 hd:A.handled=none
 dp:A.depth+3 * k+5 < recursionLimit
 un:A.units+16 * k+200 < cLine
theorem Room.mono{j k:Nat}{A:Around}(r:Room k A)(h:j≤k):Room j A:=⟨r.hd,by have:=r.dp;omega,by have:=r.un;omega⟩
theorem Room.deeper{k:Nat}{A:Around}(r:Room (k+1) A)(env:Env):Room k (A.deeper env):=
 ⟨r.hd,by have:=r.dp;show A.depth+1+3 * k+5 < _;omega,by have:=r.un;show A.units+3+16 * k+200 < _;omega⟩
theorem Zas{A:Around}{C:Addr}{us:List Value}{kw:List (Str×Value)}:(A.under (.builtin "type.__call__" ⟨.ref C :: us,kw⟩)).depth=A.depth+1:=by
 first | rfl | simp [Around.under,Code.weight,Code.isCreation,Code.isGuard,Code.isCaller,Code.frames,Code.isFrame,guardIds]
theorem Zar{A:Around}{C:Addr}{us:List Value}{kw:List (Str×Value)}:(A.under (.builtin "type.__call__" ⟨.ref C :: us,kw⟩)).units=A.units+1:=by
 first | rfl | simp [Around.under,Code.cUnits,Code.frames,Code.isFrame]
theorem Room.make{k:Nat}{A:Around}(r:Room (k+1) A)(C:Addr)(us:List Value)(kw:List (Str×Value)):Room k (A.under (.builtin "type.__call__" ⟨.ref C :: us,kw⟩)):=
 ⟨r.hd,by have:=r.dp;rw[Zas];omega,by have:=r.un;rw[Zar];omega⟩
theorem Room.depth{k:Nat}{A:Around}(r:Room k A):A.depth < recursionLimit:=by have:=r.dp;omega
theorem Room.units{k:Nat}{A:Around}(r:Room k A):A.units+64 < cLine:=by have:=r.un;omega
def Zma:TA:=fun _ H Q=>Q [] H
def Zon(ta:TE)(tr:TA):TA:=fun σ H Q=>ta σ H fun x H1=>tr σ H1 fun xs H2=>Q (x :: xs) H2
section
variable{X:Cx}{e:Expr}{es:List Expr}{te:TE}{t:TA}{pos:Pos}
theorem Zk:PA X [] Zma:=fun _ _ _ _ H Q I h=>Calls.spliced_nil ⟨[],H,I,.nil,h⟩
theorem Zb(ha:PE X e te)(hr:PA X es t)(hs:starEach (e :: es) X.env=(false,eval e X.env) :: starEach es X.env:=by rfl):PA X (e :: es) (Zon te t):=by
 intro pos pins s σ H Q I h;rw[hs];show wpAny _ _ (spliced ((false,eval e X.env) :: backTo pos (starEach es X.env))) _ _ s;refine Calls.spliced_cons (Y1 (ha pins s σ H _ I h) fun u s1 ⟨x,H1,I1,r1,q1⟩=>?_);exact Y1 (hr pos pins s1 σ H1 _ I1 q1) fun us s2 ⟨xs,H2,I2,r2,q2⟩=>⟨x :: xs,H2,I2,.cons r1 r2,q2⟩
def Zp7(t:TA):TE:=fun σ H Q=>t σ H fun xs H1=>xs.length≤sizeLine∧∀ p,H1 p=none→Q (.ref p) (upd H1 p (.tup xs))
def Zp9(t:TA):TE:=fun σ H Q=>t σ H fun xs H1=>xs.length≤sizeLine∧∀ p,H1 p=none→Q (.ref p) (upd H1 p (.lst xs))
theorem Y2{x1}(h:PA X es t):PE X (.Tuple es x1 pos) (Zp7 t):=by
 intro pins s σ H Q I hq;refine wpAny_Tuple_spliced (Y1 (h pos pins s σ H _ I hq) fun us s1 ⟨xs,H1,I1,r,z,q⟩=>⟨by rw[← r.length];exact z,?_⟩);have hf:H1 s1.heap.objs.size=none:=I1.hok.fresh (Nat.le_refl _);refine⟨.ref s1.heap.objs.size,upd H1 s1.heap.objs.size (.tup xs),I1.laid (t':=s1.toks) (fun b u e=>Zi _ e) (Nat.le_refl _) ?_,rfl,q _ hf⟩;exact⟨z,us,r,⟨_,Heap.get?_push_size _ rfl,rfl,_,rfl⟩⟩
theorem Uk(h:PA X es t):PE X (.List es pos) (Zp9 t):=by
 intro pins s σ H Q I hq;refine wpAny_List_spliced (Y1 (h pos pins s σ H _ I hq) fun us s1 ⟨xs,H1,I1,r,z,q⟩=>⟨by rw[← r.length];exact z,?_⟩);have hf:H1 s1.heap.objs.size=none:=I1.hok.fresh (Nat.le_refl _);refine⟨.ref s1.heap.objs.size,upd H1 s1.heap.objs.size (.lst xs),I1.laid (t':=s1.toks) (fun b u e=>Zi _ e) (Nat.le_refl _) ?_,rfl,q _ hf⟩;exact⟨z,us,0,r,Heap.get?_push_size _ rfl⟩
end
abbrev Sp:=List V→Hp→VK→XK→Prop
abbrev CXT:=List Env→Hp→Shared→XK→Value→Shared→Prop
structure Env0(P:Program)(w:World)(K:W.Frag)(mg:Str→Option Value)(base:Heap)(A:Around)(outer:List Env)(s:Shared)(H:Hp):Prop where
 frames:A.frames=some outer
 mod:Mod K mg base
 bs:∀ b o,base.get? b=some o→s.heap.get? b=some o∧H b=none
 bsz:base.objs.size≤s.heap.objs.size
 funs:s.heap.FunFrames base outer
 frf:∀ b∈Mw outer,H b=none
 hok:HOk P w H s.heap
 bare:AllBare s.gens
def CE(outer:List Env)(P:Program)(w:World)(H:Hp)(s:Shared)(Q:VK)(u:Value)(s':Shared):Prop:=
 ∃ v H',s'.os=s.os∧AllBare s'.gens∧Un (Mw outer) [] H H' s.heap s'.heap∧HOk P w H' s'.heap∧RelV v u∧Q v H'
def CR(CX:CXT)(outer:List Env)(P:Program)(w:World)(H:Hp)(s:Shared)(Q:VK)(E:XK)(r:Result)(s':Shared):Prop:=
 match r with
 | .ok (.ret u)=>CE outer P w H s Q u s'
 | .ok _=>False
 | .error e=>CX outer H s E e s'
structure FnOk(P:Program)(w:World)(K:W.Frag)(mg:Str→Option Value)(base:Heap)(CX:CXT)(k:Nat)(f:Addr)(fd:FuncData)(ps:List Str)(sp:Sp):Prop where
 len:∀ vs H Q E,sp vs H Q E→vs.length=ps.length
 run:∀(A:Around) (outer:List Env) (s:Shared) (H:Hp) (args:Args) (us:List Value) (vs:List V) (Q:VK) (E:XK),Room k A→Env0 P w K mg base A outer s H→BindsTo s fd args (ps.zip us)→Vals vs us→sp vs H Q E →
  codeAny (model P w) A (.call (.ref f) args) (CR CX outer P w H s Q E) s
theorem FnOk.mono{P:Program}{w:World}{K:W.Frag}{mg:Str→Option Value}{base:Heap}{CX:CXT}{j k:Nat}{f:Addr}{fd:FuncData}{ps:List Str}{sp:Sp}(F:FnOk P w K mg base CX j f fd ps sp)(h:j≤k) :
  FnOk P w K mg base CX k f fd ps sp:=⟨F.len,fun A outer s H args us vs Q E hr=>F.run A outer s H args us vs Q E (hr.mono h)⟩
theorem Env0.make{P:Program}{w:World}{K:W.Frag}{mg:Str→Option Value}{base:Heap}{A:Around}{outer:List Env}{s:Shared}{H:Hp}(e:Env0 P w K mg base A outer s H)(C:Addr)(us:List Value)(kw:List (Str×Value)) :
  Env0 P w K mg base (A.under (.builtin "type.__call__" ⟨.ref C :: us,kw⟩)) outer s H:=⟨by first | exact e.frames | (simpa [Around.under,Code.envs,Code.isFrame,pushEnvs] using e.frames),e.mod,e.bs,e.bsz,e.funs,e.frf,e.hok,e.bare⟩
section
variable{X:Cx}{pins:List (Addr×Obj)}{σ:St}{H:Hp}{s s':Shared}
theorem Inv.env0(I:Inv X pins σ H s):Env0 X.prog X.w X.K X.mg X.base X.A X.stack s H:=
 ⟨I.ok.frames,I.ok.mod,I.bs,Nat.le_trans I.ok.bsz I.sz,I.stack,I.stkFree,I.hok,I.bare⟩
theorem Inv.after{Q:VK}{u:Value}(I:Inv X pins σ H s)(h:CE X.stack X.prog X.w H s Q u s'):EP X pins σ Q u s':=by
 obtain⟨v,H',os,bare,un,hok,r,q⟩:=h;obtain⟨hh,g,d,t,os'⟩:=s';obtain rfl:os'=s.os:=os;exact⟨v,H',I.call (h':=hh) (g':=g) (d':=d) (t':=t) (ch:=[]) un hok bare (fun b z=>absurd z (by simp)),r,q⟩
end
def Zoo(sp:Sp)(dvs:List V)(E:XK)(t:TA):TE:=fun σ H Q=>t σ H fun vs H1=>sp (vs++dvs) H1 Q E
def Zlm(C:Addr)(m:Str)(sp:Sp)(dvs:List V)(E:XK)(ta:TE)(t:TA):TE:=fun σ H Q=>ta σ H fun x H1=>∃ a dx fs,x = .ref a∧H1 a=some (.ins C dx fs)∧fs.lookup m=none ∧
 t σ H1 fun vs H2=>sp (x :: (vs++dvs)) H2 Q E
def Zok(C:Addr)(sp:Sp)(dvs:List V)(E:XK)(t:TA):TE:=fun σ H Q=>t σ H fun vs H1=>∀ x dx,H1 x=none→H1 dx=none→dx≠x →
 sp (.ref x :: (vs++dvs)) (upd (upd H1 dx (.own x)) x (.ins C dx [])) (fun v H2=>v = .non∧Q (.ref x) H2) E
def Binds(K:W.Frag)(fd:FuncData)(ps:List Str)(ds:List Value):Prop:=
 ∀(s:Shared) (us:List Value),K.In s.heap→(us++ds).length=ps.length→BindsTo s fd ⟨us,[]⟩ (ps.zip (us++ds))
theorem Binds.all{K:W.Frag}{fd:FuncData}{ps:List Str}(h:∀ us:List Value,us.length=ps.length→bindArgs fd ⟨us,[]⟩=pure (ps.zip us)):Binds K fd ps []:=fun s us _ hl=>by
 rw[Jk] at hl ⊢;exact .of_eq (h us hl)
def Qp(CX:CXT)(X:Cx)(E:XK):Prop:=∀(pins:List (Addr×Obj)) (σ:St) (H:Hp) (s:Shared) (e:Value) (s':Shared),Inv X pins σ H s→CX X.stack H s E e s'→X.xe e s'
section
variable{X:Cx}{CX:CXT}{k:Nat}{f C:Addr}{fd:FuncData}{ps:List Str}{sp:Sp}{dvs:List V}{ds:List Value}{E:XK}{x m:Str}{p pos apos:Pos}{e o:Expr}{es:List Expr}{ta:TE}{t:TA}
theorem Gw{pins:List (Addr×Obj)}{σ:St}{H:Hp}{s:Shared}{Q:VK}{us:List Value}{vs:List V}(F:FnOk X.prog X.w X.K X.mg X.base CX k f fd ps sp)(hr:Room k X.A)(hb:Binds X.K fd ps ds)(hd:Vals dvs ds)(hx:Qp CX X E)
  (I:Inv X pins σ H s) (r:Vals vs us) (h:sp (vs++dvs) H Q E):wpAny (model X.prog X.w) X.A (call (.ref f) us) (EP X pins σ Q) X.xe s:=by
 have r2:Vals (vs++dvs) (us++ds):=r.append hd;have hl:(us++ds).length=ps.length:=by rw[← r2.length];exact F.len _ _ _ _ h
 refine wpAny_call (codeAny_mono (F.run X.A X.stack s H ⟨us,[]⟩ (us++ds) (vs++dvs) Q E hr I.env0 (hb s us I.kIn hl) r2 h) fun r s' hq=>?_);cases r with
 | error e=>exact hx pins σ H s e s' I hq
 | ok fl=>
  cases fl with
  | ret u=>exact I.after hq
  | next=>exact False.elim hq
  | brk=>exact False.elim hq
  | cont=>exact False.elim hq
theorem Z6(F:FnOk X.prog X.w X.K X.mg X.base CX k f fd ps sp)(hr:Room k X.A)(hg:Gl X x)(hm:X.mg x=some (.ref f))(hk:W.keepIn X.K (.ref f)=true)(hb:Binds X.K fd ps ds)(hd:Vals dvs ds)(hx:Qp CX X E)
  (ha:PA X (e :: es) t) (hdb:(x == ("__debug__":Str))=false:=by decide) (he:starEach (e :: es) X.env=(false,eval e X.env) :: starEach es X.env:=by rfl) (hpl:(backTo pos (starEach es X.env)).any (·.1)=false:=by rfl) :
  PE X (.Call (.Name x p) (e :: es) [] pos) (Zoo sp dvs E t):=by
 intro pins s σ H Q I h;refine wpAny_Call_Name_kw (B0 I hg hm ?_ hdb);refine W.callWith_K (h₀:=X.base) I.ok.mod.kin hk (Y1 (ha pos pins s σ H _ I h) fun us s1 ⟨vs,H1,I1,r,q⟩=>⟨I1.kIn,?_⟩) he hpl;exact Gw F hr hb hd hx I1 r q
theorem Us{pl:Sem Bool}(he:PE X o ta)(c:Cls X.K C)(hm:Meth X.K C m f)(F:FnOk X.prog X.w X.K X.mg X.base CX k f fd ps sp)(hr:Room k X.A)(hb:Binds X.K fd ps ds)(hd:Vals dvs ds)(hx:Qp CX X E)(ha:PA X (e :: es) t)
  (hst:starEach (e :: es) X.env=(false,eval e X.env) :: starEach es X.env:=by rfl) (hpl:(backTo pos (starEach es X.env)).any (·.1)=false:=by rfl)
  (ht:eval (.Call (.Attribute o m apos) (e :: es) [] pos) X.env=(do
   let ov ← eval o X.env
   standAt apos.atName
   let (f,first) ← holding [ov] (getMethod ov m pl)
   callWith pos f first (backTo pos (starEach (e :: es) X.env)) (backToKw pos (keywordEach [] X.env))):=by rfl) :
  PE X (.Call (.Attribute o m apos) (e :: es) [] pos) (Zlm C m sp dvs E ta t):=by
 intro pins s σ H Q I h;refine W.methodCall_KW (pl:=pl) (Y1 (he pins s σ H _ I h) fun u s1 ⟨x,H1,I1,rx,a,dx,fs,ex,ea,l,q⟩=>?_) ht;subst ex;obtain rfl:u=Value.ref a:=rx;refine El I1 ea c hm l ?_;refine W.callWith_K (first:=[.ref a]) (h₀:=X.base) I.ok.mod.kin hm.kp (Y1 (ha pos pins s1 σ H1 _ I1 q) fun us s2 ⟨vs,H2,I2,r,q2⟩=>⟨I2.kIn,?_⟩) hst hpl;exact Gw (us:=.ref a :: us) (vs:=.ref a :: vs) F hr hb hd hx I2 (.cons rfl r) q2
theorem Zge{pl:Sem Bool}(he:PE X o ta)(c:Cls X.K C)(hm:Meth X.K C m f)(F:FnOk X.prog X.w X.K X.mg X.base CX k f fd ps sp)(hr:Room k X.A)(hb:Binds X.K fd ps ds)(hd:Vals dvs ds)(hx:Qp CX X E)
  (ht:eval (.Call (.Attribute o m apos) [] [] pos) X.env=(do
   let ov ← eval o X.env
   standAt apos.atName
   let (f,first) ← holding [ov] (getMethod ov m pl)
   callWith pos f first (backTo pos (starEach [] X.env)) (backToKw pos (keywordEach [] X.env))):=by rfl) :
  PE X (.Call (.Attribute o m apos) [] [] pos) (Zlm C m sp dvs E ta Zma):=by
 intro pins s σ H Q I h;refine W.methodCall_KW (pl:=pl) (Y1 (he pins s σ H _ I h) fun u s1 ⟨x,H1,I1,rx,a,dx,fs,ex,ea,l,q⟩=>?_) ht;subst ex;obtain rfl:u=Value.ref a:=rx;refine El I1 ea c hm l ?_;exact W.callWith_K0 (first:=[.ref a]) I1.kIn hm.kp (Gw (us:=[.ref a]) (vs:=[.ref a]) F hr hb hd hx I1 (.cons rfl .nil) q)
structure Mk(K:W.Frag)(C f:Addr):Prop where
 makes:W.makesIn K C=true
 init:W.findIn K (.ref C) "__init__" = some (some (.ref f))
 fn:W.isFn K (.ref f)=true
 kp:W.keepIn K (.ref C)=true
theorem Zfy{pins:List (Addr×Obj)}{σ:St}{H:Hp}{s:Shared}{Q:VK}{us:List Value}{vs:List V}(M:Mk X.K C f)(F:FnOk X.prog X.w X.K X.mg X.base CX k f fd ps sp)(hr:Room (k+1) X.A)(hb:Binds X.K fd ps ds)(hd:Vals dvs ds)
  (hx:Qp CX X E) (I:Inv X pins σ H s) (r:Vals vs us)
  (h:∀ x dx,H x=none→H dx=none→dx≠x→sp (.ref x :: (vs++dvs)) (upd (upd H dx (.own x)) x (.ins C dx [])) (fun v H2=>v = .non∧Q (.ref x) H2) E) :
  wpAny (model X.prog X.w) X.A (call (.ref C) us) (EP X pins σ Q) X.xe s:=by
 have hq:=h (s.heap.objs.size+1) s.heap.objs.size (I.hok.fresh (Nat.le_succ _)) (I.hok.fresh (Nat.le_refl _)) (Nat.ne_of_lt (Nat.lt_succ_self _));have I2:=Inv.made (C:=C) I;have r2:Vals (V.ref (s.heap.objs.size+1) :: (vs++dvs)) (Value.ref (s.heap.objs.size+1) :: (us++ds)):=.cons rfl (r.append hd);have hl:(Value.ref (s.heap.objs.size+1) :: us++ds).length=ps.length:=by
  have e:=r2.length;rw[F.len _ _ _ _ hq] at e;exact e.symm
 refine wpAny_call (Zhh (f:=f) I.kIn M.makes M.init (beq_iff_eq.mp M.fn) (codeAny_mono (F.run _ X.stack _ _ ⟨Value.ref (s.heap.objs.size+1) :: us,[]⟩ (Value.ref (s.heap.objs.size+1) :: (us++ds)) _ _ E (hr.make C us [])
  (I2.env0.make C us []) (hb _ (Value.ref (s.heap.objs.size+1) :: us) I2.kIn hl) r2 hq) fun r s' hq'=>?_))
 cases r with
 | error e=>exact hx pins σ _ _ e s' I2 hq'
 | ok fl=>
  cases fl with
  | ret u=>
   obtain⟨v,H',I3,rv,ev,q3⟩:=I2.after hq';subst ev;exact⟨rv,⟨V.ref (s.heap.objs.size+1),H',I3,rfl,q3⟩⟩
  | next=>exact False.elim hq'
  | brk=>exact False.elim hq'
  | cont=>exact False.elim hq'
theorem Ni(M:Mk X.K C f)(F:FnOk X.prog X.w X.K X.mg X.base CX k f fd ps sp)(hr:Room (k+1) X.A)(hg:Gl X x)(hm:X.mg x=some (.ref C))(hb:Binds X.K fd ps ds)(hd:Vals dvs ds)(hx:Qp CX X E)
  (ha:PA X (e :: es) t) (hdb:(x == ("__debug__":Str))=false:=by decide) (he:starEach (e :: es) X.env=(false,eval e X.env) :: starEach es X.env:=by rfl) (hpl:(backTo pos (starEach es X.env)).any (·.1)=false:=by rfl) :
  PE X (.Call (.Name x p) (e :: es) [] pos) (Zok C sp dvs E t):=by
 intro pins s σ H Q I h;refine wpAny_Call_Name_kw (B0 I hg hm ?_ hdb);refine W.callWith_K (h₀:=X.base) I.ok.mod.kin M.kp (Y1 (ha pos pins s σ H _ I h) fun us s1 ⟨vs,H1,I1,r,q⟩=>⟨I1.kIn,?_⟩) he hpl;exact Zfy M F hr hb hd hx I1 r q
end
section
variable{X:Cx}{CX:CXT}{k:Nat}{f C:Addr}{fd:FuncData}{ps ks:List Str}{sp:Sp}{E:XK}{x m:Str}{p pos apos kpos:Pos}{e o:Expr}{es:List Expr}{kws:List Keyword}{te ta:TE}{t tk:TA}{nm:Option Str}
variable{g:List Value→List Value→List Value}{gV:List V→List V→List V}
end
structure FnScope(N P:List Str)(sc:Scope):Prop where
 kind:sc.kind = .function
 co:sc.isCoroutine=false
 gen:sc.isGenerator=false
 nd:N.Nodup
 pre:N.take P.length=P
 par:∀ x∈P,sc.names.lookup x=some .local∨sc.names.lookup x=some .cell
 nofree:∀ y∈sc.names,y.2 ≠ .free
theorem M7{kindOf:Str→Option NameKind}{x:Str}:∀{binds:List (Str×Value)} {m:Str→Option Value},(∀ v,(x,v)∉binds)→bindL kindOf binds m x=m x
 | [],_,_=>rfl
 | (n,v) :: r,m,h=>by
  unfold bindL;rw[M7 fun w hw=>h w (Zu _ hw)];split
  ·have:x≠n:=by rintro rfl;exact h v Zt
   simp [this]
  ·rfl
theorem M9{kindOf:Str→Option NameKind}{x:Str}:∀{binds:List (Str×Value)} {m:Str→Option Value},(∀ v,(x,v)∉binds)→bindC kindOf binds m x=m x
 | [],_,_=>rfl
 | (n,v) :: r,m,h=>by
  unfold bindC;rw[M9 fun w hw=>h w (Zu _ hw)];split
  ·rfl
  ·have:x≠n:=by rintro rfl;exact h v Zt
   simp [this]
theorem M8{kindOf:Str→Option NameKind}{x:Str}{v:Value}:∀{P:List Str} {vs:List Value} {i:Nat} {m:Str→Option Value},P.Nodup→P[i]? = some x→vs[i]? = some v→kindOf x=some .local →
  bindL kindOf (P.zip vs) m x=some v
 | [],_,_,_,_,h,_,_=>by simp at h
 | _ :: _,[],_,_,_,_,h,_=>by simp at h
 | p :: P,w :: vs,0,m,nd,h1,h2,hk=>by
  simp at h1 h2;subst h1;subst h2;show bindL kindOf ((p,w) :: P.zip vs) m p=_;unfold bindL;rw[M7 fun v hv=>(List.nodup_cons.mp nd).1 (List.of_mem_zip hv).1,if_pos hk];simp
 | p :: P,w :: vs,i+1,m,nd,h1,h2,hk=>by
  show bindL kindOf ((p,w) :: P.zip vs) m x=_;unfold bindL;exact M8 (i:=i) (List.nodup_cons.mp nd).2 (by simpa using h1) (by simpa using h2) hk
theorem Da{kindOf:Str→Option NameKind}{x:Str}{v:Value}:∀{P:List Str} {vs:List Value} {i:Nat} {m:Str→Option Value},P.Nodup→P[i]? = some x→vs[i]? = some v→kindOf x≠some .local →
  bindC kindOf (P.zip vs) m x=some v
 | [],_,_,_,_,h,_,_=>by simp at h
 | _ :: _,[],_,_,_,_,h,_=>by simp at h
 | p :: P,w :: vs,0,m,nd,h1,h2,hk=>by
  simp at h1 h2;subst h1;subst h2;show bindC kindOf ((p,w) :: P.zip vs) m p=_;unfold bindC;rw[M9 fun v hv=>(List.nodup_cons.mp nd).1 (List.of_mem_zip hv).1,if_neg hk];simp
 | p :: P,w :: vs,i+1,m,nd,h1,h2,hk=>by
  show bindC kindOf ((p,w) :: P.zip vs) m x=_;unfold bindC;exact Da (i:=i) (List.nodup_cons.mp nd).2 (by simpa using h1) (by simpa using h2) hk
def Nq(N:List Str)(vs:List V):St:=vs.map some++List.replicate (N.length - vs.length) none
def B8(CX:CXT)(P:Program)(w:World)(K:W.Frag)(mg:Str→Option Value)(base:Heap)(N:List Str)(qual:Str)(scope:Scope)(f:Addr)(cd:Value)(A:Around)(outer:List Env)(s:Shared)(H:Hp)(E:XK):Cx where
 prog:=P
 w:=w
 K:=K
 mg:=mg
 base:=base
 A:=A.deeper (envOfC qual scope s.heap.objs.size f cd)
 N:=N
 s₀:=s
 H₀:=H
 env:=envOfC qual scope s.heap.objs.size f cd
 outer:=outer
 stack:=envOfC qual scope s.heap.objs.size f cd :: outer
 ex:=[]
 calm:=true
 fn:=fun _=>true
 pn:=[]
 xe:=fun e s'=>wpAny (model P w) (A.deeper (envOfC qual scope s.heap.objs.size f cd)) (leaving (envOfC qual scope s.heap.objs.size f cd) e) (fun _ s''=>CX outer H s E e s'') (fun e' s''=>CX outer H s E e' s'') s'
theorem Va{sc:Scope}{n:Nat}{x:Str}(h:sc.names.lookup x=some .cell):∃ c,(cellsFrom n sc.names []).lookup x=some c:=by
 have q:=W.cellsFrom_some sc.names n [] (.inl h);exact Option.isSome_iff_exists.mp q
theorem Zd5{CX:CXT}{P:Program}{w:World}{K:W.Frag}{mg:Str→Option Value}{base:Heap}{N ps:List Str}{qual:Str}{scope:Scope}{f:Addr}{cd:Value}{A:Around}{outer:List Env}{s s1:Shared}{H:Hp}{E:XK}{us:List Value}{vs:List V}
  (S:FnScope N ps scope) (hd:A.handled=none) (e0:Env0 P w K mg base A outer s H) (hl:vs.length=ps.length) (r:Vals vs us)
  (x:InCallC s s.heap.objs.size (bindL (envOfC qual scope s.heap.objs.size f cd).kindOf (ps.zip us) fun _=>none) (cellsFrom (s.heap.objs.size+1) scope.names []) (bindC (envOfC qual scope s.heap.objs.size f cd).kindOf (ps.zip us) fun _=>none) s1) :
  Inv (B8 CX P w K mg base N qual scope f cd A outer s H E) [] (Nq N vs) H s1:=by
 have hpl:ps.length≤N.length:=by have:=congrArg List.length S.pre;rw[List.length_take] at this;omega
 obtain⟨h1,tk,rfl,hk⟩:=x.done;have noA:∀ b:Addr,b∉(B8 CX P w K mg base N qual scope f cd A outer s H E).ex:=fun b z=>absurd (show b∈([]:List Addr) from z) (by simp);refine⟨⟨e0.mod,S.kind,rfl,rfl,Nat.le_refl _,fun y z c h1 h2=>?_,fun y hy=>?_,fun y c _ h=>?_,fun _=>hd,Around.frames_deeper e0.frames,.inr ⟨rfl,rfl⟩,fun b z=>absurd z (noA b),e0.bs,e0.bsz,fun b _ _=>noA b,fun b z=>absurd z (noA b),e0.funs,e0.frf⟩,
  rfl,e0.bare,Un.kept hk,⟨_,x.toInCall.ns,fun i y v h1 h2 h3=>?_⟩,fun y c h=>⟨_,x.cell y c h⟩,e0.hok.fresh (Nat.le_refl _),fun y c h=>?_,fun p hp=>absurd (show p∈([]:List (Addr×Obj)) from hp) (by simp),e0.hok.kept hk,?_⟩
 ·exact name_of_addr x.apart (PySem.mem_of_lookup h1) (PySem.mem_of_lookup h2)
 ·have hy:scope.names.lookup y=some .cell∨scope.names.lookup y=some .free:=hy
  rcases hy with hy | hy
  ·exact Va hy
  ·exact absurd rfl (S.nofree _ (PySem.mem_of_lookup hy))
 ·exact Ya (x.above y c (PySem.mem_of_lookup h))
 ·have hi:i < vs.length:=by
   unfold Nq at h2;by_cases hi:i < vs.length
   ·exact hi
   ·rw[Jd (by simpa using hi)] at h2
    rw[List.getElem?_replicate] at h2;split at h2<;>cases h2
  have ha:vs[i]? = some v:=by
   unfold Nq at h2;rw[Ji (by simpa using hi),Zl] at h2;cases e:vs[i]? with
   | none=>rw[e] at h2;cases h2
   | some a=>rw[e] at h2;cases h2;rfl
  obtain⟨u,hu,rv⟩:=r.get ha;have hp:ps[i]? = some y:=by
   rw[← S.pre,List.getElem?_take_of_lt (by omega)];exact h1
  have ndP:ps.Nodup:=by rw[← S.pre];exact S.nd.sublist (List.take_sublist _ _)
  refine⟨u,rv,?_⟩;rcases S.par y (Zg hp) with k | k
  ·exact .inl ⟨k,M8 ndP hp hu k⟩
  ·obtain⟨c,e⟩:=Va (n:=s.heap.objs.size+1) k
   refine .inr ⟨.inl k,c,e,?_⟩;have q:=x.cell y c e;rw[Da ndP hp hu (by show scope.names.lookup y≠_;rw[k];decide)] at q;exact q
 ·exact e0.hok.fresh (Ya (x.above y c (PySem.mem_of_lookup h)))
 ·unfold Nq
  show _=N.length;rw[Zs,Zf,List.length_replicate];omega
theorem Zhz{CX:CXT}{P:Program}{w:World}{K:W.Frag}{mg:Str→Option Value}{base:Heap}{k:Nat}{f:Addr}{name qual:Str}{params:Arguments}{body:List Stmt}{scope:Scope}{dV kV doc pm cdv ct oc:Value}{an od:Option Addr}
  {osl:Array (Option Value)} {N ps:List Str} {sp:Sp} (lk:K.lookup f=some ⟨oc,od,.func (W.fnOf name qual params body scope dV kV doc pm an cdv ct),osl⟩) (hcd:W.codeIn K cdv qual=true) (S:FnScope N ps scope)
  (len:∀ vs H Q E,sp vs H Q E→vs.length=ps.length)
  (hbody:∀(A:Around) (outer:List Env) (s:Shared) (H:Hp) (vs:List V) (Q:VK) (E:XK),Room k (A.deeper (envOfC qual scope s.heap.objs.size f cdv))→sp vs H Q E →
   ∃ t,PSs (B8 CX P w K mg base N qual scope f cdv A outer s H E) body t∧t { nx:=fun _ H'=>Q .non H',rt:=Q } (Nq N vs) H) :
  FnOk P w K mg base CX (k+1) f (W.fnOf name qual params body scope dV kV doc pm an cdv ct) ps sp:=by
 refine⟨len,fun A outer s H args us vs Q E hr e0 hb r hsp=>?_⟩;have hl:=len _ _ _ _ hsp;have KX:K.In s.heap:=e0.mod.kin.keeps fun b o e=>(e0.bs b o e).1;have lim:s.heap.NoLimit:=e0.mod.nolimit.keeps fun b o e=>(e0.bs b o e).1;have hkind:∀ y∈ps.zip us,scope.names.lookup y.1=some .local∨(scope.names.lookup y.1=some .cell∧((cellsFrom (s.heap.objs.size+1) scope.names []).lookup y.1).isSome=true):=fun⟨n,v⟩ hy=>by
  rcases S.par n (List.of_mem_zip hy).1 with q | q
  ·exact .inl q
  ·exact .inr ⟨q,W.cellsFrom_some _ _ _ (.inl q)⟩
 refine codeAny_call_function hr.depth (KX _ _ lk) rfl S.co S.gen rfl (W.codeRec_of KX hcd) (hb _ _ _ _ ?_);refine wpAny_newFunctionEnv_cells S.kind hkind fun env he s1 x=>?_;subst he;refine⟨lim.keeps x.toInCall.keep,codeAny_func ?_⟩;obtain⟨t,ht,hq⟩:=hbody A outer s H vs Q E (hr.deeper _) hsp;have I:Inv (B8 CX P w K mg base N qual scope f cdv A outer s H E) [] (Nq N vs) H s1:=Zd5 S hr.hd e0 hl r x;refine wpAny_mono (ht [] s1 (Nq N vs) H _ I hq) (fun fl s' hs=>?_) fun e s' hs=>hs;have fin:∀{σ':St} {H':Hp} {v:V} {u:Value},Inv (B8 CX P w K mg base N qual scope f cdv A outer s H E) [] σ' H' s'→RelV v u→Q v H'→CE outer P w H s Q u s':=
  fun {σ' H' v u} J rv q=>⟨v,H',J.os,J.bare,J.base,J.hok,rv,q⟩
 cases fl with
 | ret u=>
  obtain⟨v,σ',H',J,rv,q⟩:=hs;exact fin J rv q
 | next=>
  obtain⟨σ',H',J,q⟩:=hs;exact fin (v:=V.non) (u:=Value.none) J rfl q
 | brk=>
  obtain⟨_,_,_,q⟩:=hs;exact False.elim q
 | cont=>
  obtain⟨_,_,_,q⟩:=hs;exact False.elim q
section
variable{X:Cx}{x:Str}{p pos:Pos}{e:Expr}{es:List Expr}{t:TA}{id T:String}{r:List V→Hp→VK→Prop}
def tCB(r:List V→Hp→VK→Prop)(t:TA):TE:=fun σ H Q=>t σ H fun vs H1=>r vs H1 Q
theorem Jl(hc:Ui X (.builtin id) r)(hg:Gl X x)(hm:X.mg x=none)(hv:bootBuiltins x=some (.builtin id))(ha:PA X (e :: es) t)(hn:x≠"__name__":=by decide)(hdb:(x == ("__debug__":Str))=false:=by decide)
  (he:starEach (e :: es) X.env=(false,eval e X.env) :: starEach es X.env:=by rfl) (hpl:(backTo pos (starEach es X.env)).any (·.1)=false:=by rfl):PE X (.Call (.Name x p) (e :: es) [] pos) (tCB r t):=by
 intro pins s σ H Q I h;refine wpAny_Call_Name_kw (Tg I hg hm hv ?_ hn hdb);exact PyProof.Rows.callWith_builtin1 (Y1 (ha pos pins s σ H _ I h) fun us s1 ⟨vs,H1,I1,r1,q1⟩=>hc pins s1 σ H1 vs us Q I1 r1 q1) he hpl
theorem J8(hc:Ui X (.type T) r)(hg:Gl X x)(hm:X.mg x=none)(hv:bootBuiltins x=some (.type T))(ha:PA X (e :: es) t)(hn:x≠"__name__":=by decide)(hdb:(x == ("__debug__":Str))=false:=by decide)
  (he:starEach (e :: es) X.env=(false,eval e X.env) :: starEach es X.env:=by rfl) (hpl:(backTo pos (starEach es X.env)).any (·.1)=false:=by rfl):PE X (.Call (.Name x p) (e :: es) [] pos) (tCB r t):=by
 intro pins s σ H Q I h;refine wpAny_Call_Name_kw (Tg I hg hm hv ?_ hn hdb);exact PyProof.Rows.callWith_type1 (Y1 (ha pos pins s σ H _ I h) fun us s1 ⟨vs,H1,I1,r1,q1⟩=>hc pins s1 σ H1 vs us Q I1 r1 q1) he hpl
end
end L2
namespace HT
open PySem PyProof.Rows
def lexLt:List Int→List Int→Bool
 | [],[]=>false
 | [],_ :: _=>true
 | _ :: _,[]=>false
 | x :: xs,y :: ys=>if x=y then lexLt xs ys else decide (x < y)
theorem lexLt_cons(x y:Int)(xs ys:List Int):lexLt (x :: xs) (y :: ys)=if x=y then lexLt xs ys else decide (x < y):=rfl
theorem lexLt_nil_nil:lexLt [] []=false:=rfl
theorem lexLt_nil_cons(y:Int)(ys:List Int):lexLt [] (y :: ys)=true:=rfl
theorem lexLt_cons_nil(x:Int)(xs:List Int):lexLt (x :: xs) []=false:=rfl
theorem eqAt_int(A:Around)(s:Shared)(a:Int)(t:Tok)(c:Int)(u:Tok):∃ e,SeqAt.EqAt A s (.int a t) (.int c u) e∧(e=true↔a=c):=
 ⟨(a == c),SeqAt.EqAt.int_int a t c u,by simp⟩
theorem rcLt_int(A:Around)(s:Shared)(a:Int)(t:Tok)(c:Int)(u:Tok)(prog:Program)(w:World)(E:Value→Shared→Prop)(Q:Value→Shared→Prop)(h:Q (.bool (decide (a < c))) s) :
  wpAny (model prog w) A (richCompare .Lt (.int a t) (.int c u)) Q E s:=
 (PyProof.Rows.lt_int h:wpAny (model prog w) A (compareOp .Lt (.int a t) (.int c u)) Q E s)
section
open PySem.SeqAt
open PySem.AutoSeq1 (wpAny_loadPart')
open PySem.MeetsSeq PySem.MeetsSeq2 PySem.MeetsSeq3
end
section
variable{prog:Program}{w:World}{A:Around}{E:Value→Shared→Prop}{s:Shared}
theorem cat_tup{t b:Addr}{vs ws:List Value}{Q:Value→Shared→Prop}(ht:IsTup s.heap t vs.toArray)(hb:IsTup s.heap b ws.toArray)(hv:vs≠[])
  (h1:ws=[]→Q (.ref t) s) (h2:ws≠[]→Q (.ref s.heap.objs.size) { s with heap:=s.heap.push { cls:=.type "tuple",data:=.seq (vs++ws).toArray } })
  (hsz:vs.length+ws.length≤sizeLine):wpAny (model prog w) A (binaryOp .Add (.ref t) (.ref b)) Q E s:=by
 obtain⟨⟨cls,dd,data,sl⟩,ho,hc,n,hd⟩:=id ht;obtain⟨⟨cls2,dd2,data2,sl2⟩,ho2,hc2,n2,hd2⟩:=id hb;simp only at hc hd hc2 hd2;subst hc hd hc2 hd2;have e:vs.toArray++ws.toArray=(vs++ws).toArray:=by simp
 by_cases hw:ws=[]
 ·exact concat_meets ⟨_,ho,rfl⟩ ⟨_,ho2,rfl⟩ noFill_tuple_add seq_tuple_add PySem.F.slot_tuple_add PySem.F.entry_tuple_add (PySem.F.args_tuple_add_2 _ _)
   (tuple_addW1 t b vs.toArray ws.toArray n n2 dd dd2 sl sl2 (by simpa using hv) (by simp [hw])) ⟨ho,ho2,h1 hw⟩
 ·refine concat_meets ⟨_,ho,rfl⟩ ⟨_,ho2,rfl⟩ noFill_tuple_add seq_tuple_add PySem.F.slot_tuple_add PySem.F.entry_tuple_add (PySem.F.args_tuple_add_2 _ _)
   (tuple_addW2 t b vs.toArray ws.toArray n n2 dd dd2 sl sl2 (by simpa using hv) (by simpa using hw) (by rw[List.size_toArray,List.size_toArray];exact hsz)) ⟨ho,ho2,?_⟩
  rw[e];exact h2 hw
def sIx(n d:Nat):Option Int→Nat
 | none=>d
 | some v=>if v < 0 then(v+(n:Int)).toNat else min v.toNat n
theorem sIx_nat(n d k:Nat):sIx n d (some (k:Int))=min k n:=by
 show(if(k:Int) < 0 then((k:Int)+(n:Int)).toNat else min (k:Int).toNat n)=min k n;rw[if_neg (by omega),Zz]
end
end HT
namespace L2
open PySem PySem.Spec PyProof.Rows
abbrev TO:=St→Hp→(Option Int→Hp→Prop)→Prop
def PO(X:Cx)(e:Option Expr)(t:TO):Prop:=
 ∀(pins:List (Addr×Obj)) (s:Shared) (σ:St) (H:Hp) (Q:Option Int→Hp→Prop),Inv X pins σ H s→t σ H Q →
  wpAny (model X.prog X.w) X.A (evalPart e X.env) (fun u s'=>∃ o H',Inv X pins σ H' s'∧IsPart u o∧Q o H') X.xe s
def Zi0:TO:=fun _ H Q=>Q none H
def Zoj(t:TE):TO:=fun σ H Q=>t σ H fun x H1=>∃ i,x = .int i∧Q (some i) H1
theorem Yq{ns:List Int}:∀{us:List Value},Vals (ns.map V.int) us→IntsAre us ns:=by
 induction ns with
 | nil=>intro us r;rw[List.map_nil] at r;cases r;exact .nil
 | cons n ns ih=>
  intro us r;rw[List.map_cons] at r;cases r with
  | cons r1 r2=>
   obtain⟨t,e⟩:=r1;subst e;exact .cons n t (ih r2)
section
variable{X:Cx}{e:Expr}{te:TE}{lo hi:Option Expr}{tl th:TO}{pos p2:Pos}
theorem Zjo:PO X none Zi0:=by
 intro pins s σ H Q I h;rw[evalPart_none];exact wpAny_pure ⟨none,H,I,.none,h⟩
theorem Eg(h:PE X e te):PO X (some e) (Zoj te):=by
 intro pins s σ H Q I hw;rw[evalPart_some];refine Y1 (h pins s σ H _ I hw) fun u s1 ⟨x,H1,I1,r1,q1⟩=>?_;obtain⟨i,rfl,q⟩:=q1;obtain⟨t,rfl⟩:=r1;exact⟨some i,H1,I1,.int i t,q⟩
def SlR(X:Cx)(r:V→Option Int→Option Int→Hp→VK→Prop):Prop:=
 ∀(pins:List (Addr×Obj)) (s:Shared) (σ:St) (H:Hp) (x:V) (v vl vu:Value) (lo hi:Option Int) (sl:Addr) (Q:VK),Inv X pins σ H s→RelV x v→s.heap.IsSliceOf sl vl vu .none→IsPart vl lo→IsPart vu hi→r x lo hi H Q →
  ∃ T id,typeLookup (.type T) "__getitem__" = pure (some (.builtin id))∧s.TypeIs v T∧wpAny (model X.prog X.w) X.A (getItem v (.ref sl)) (EP X pins σ Q) X.xe s
def tSl(r:V→Option Int→Option Int→Hp→VK→Prop)(te:TE)(tl th:TO):TE:=fun σ H Q=>te σ H fun x H1=>tl σ H1 fun l H2=>th σ H2 fun u H3=>r x l u H3 Q
theorem An{r:V→Option Int→Option Int→Hp→VK→Prop}(hr:SlR X r)(he:PE X e te)(hl:PO X lo tl)(hu:PO X hi th):PE X (.Subscript e (.Slice lo hi none p2) pos) (tSl r te tl th):=by
 intro pins s σ H Q I h;refine Subscript_ (Y1 (he pins s σ H _ I h) fun v s1 ⟨x,H1,I1,r1,q1⟩=>?_);refine wpAny_Slice (Y1 (hl pins s1 σ H1 _ I1 q1) fun vl s2 ⟨l,H2,I2,pl,q2⟩=>Y1 (hu pins s2 σ H2 _ I2 q2) fun vu s3 ⟨u,H3,I3,pu,q3⟩=>?_);rw[evalPart_none];refine wpAny_pure ?_;have I4:Inv X pins σ H3 { s3 with heap:=s3.heap.push { cls:=.type "slice",data:=.fields #[vl,vu,.none] } }:=I3.kept (t':=s3.toks) fun b ob q=>Zi _ q;obtain⟨T,id,hT,ht,hg⟩:=hr pins { s3 with heap:=s3.heap.push { cls:=.type "slice",data:=.fields #[vl,vu,.none] } } σ H3 x v vl vu l u s3.heap.objs.size Q I4 r1 (Heap.IsSliceOf.new ..) pl pu q3;show wpAny (model X.prog X.w) X.A (subscriptTail e (.Slice lo hi none p2) v (.ref s3.heap.objs.size)) (EP X pins σ Q) X.xe { s3 with heap:=s3.heap.push { cls:=.type "slice",data:=.fields #[vl,vu,.none] } };exact tail_any (ops:=[.ref s3.heap.objs.size,v]) ht hT hg (by with_unfolding_all rfl)
def O0(xs:List V)(lo hi:Option Int):List V:=(xs.drop (HT.sIx xs.length 0 lo)).take (HT.sIx xs.length xs.length hi - HT.sIx xs.length 0 lo)
theorem Kw(xs:List V)(lo hi:Option Int):(O0 xs lo hi).length≤xs.length:=by
 unfold O0;rw[List.length_take,List.length_drop];omega
def Zo5(K:W.Frag):R2:=fun x y H Q=>∃ a b xs ys,x = .ref a∧y = .ref b∧SqT K H a xs∧SqT K H b ys∧xs≠[]∧xs.length+ys.length≤sizeLine ∧
 (ys=[]→Q (.ref a) H)∧(ys≠[]→∀ p,H p=none→Q (.ref p) (upd H p (.tup (xs++ys))))
theorem Vals.nil_iff{xs:List V}{us:List Value}(r:Vals xs us):us=[]↔xs=[]:=by
 cases r with
 | nil=>simp
 | cons _ _=>simp
theorem Zj0:Eo X (binaryOp .Add) (Zo5 X.K):=by
 intro pins s σ H x y v u Q I rx ry h;obtain⟨a,b,xs,ys,rfl,rfl,ha,hb,hx,hz,q1,q2⟩:=h;cases rx;cases ry;obtain⟨its,r1,p1,_⟩:=I.tuple ha;obtain⟨its2,r2,p2,_⟩:=I.tuple hb;refine HT.cat_tup p1 p2 (fun z=>hx (r1.nil_iff.mp z)) (fun z=>⟨.ref a,H,I,rfl,q1 (r2.nil_iff.mp z)⟩) (fun z=>?_) (by rw[← r1.length,← r2.length];exact hz);refine⟨.ref s.heap.objs.size,_,I.laid (t':=s.toks) (o:=.tup (xs++ys)) (fun b ob q=>Zi _ q) (Nat.le_refl _) ?_,rfl,q2 (fun w=>z (r2.nil_iff.mpr w)) _ (I.hok.fresh (Nat.le_refl _))⟩;exact⟨by rw[Zs];exact hz,_,r1.append r2,IsTup.new _ _⟩
end
def ixN(n:Nat)(i:Int):Option Nat:=if 0≤i then(if i < n then some i.toNat else none) else if -(n:Int)≤i then some (i+n).toNat else none
def Xb{α:Type}(xs:List α)(i:Int):Option α:=(ixN xs.length i).bind fun j=>xs[j]?
theorem Zce{n:Nat}{i:Int}{j:Nat}(h:ixN n i=some j):seqIndex? i n=some j∧j < n∧-(n:Int)≤i∧i < n:=by
 unfold ixN at h;by_cases h0:0≤i
 ·rw[if_pos h0] at h
  by_cases h1:i < n
  ·rw[if_pos h1] at h
   have e:i.toNat=j:=Zr h;exact⟨by rw[seqIndex_of h0 h1,e],by omega,by omega,h1⟩
  ·rw[if_neg h1] at h;cases h
 ·rw[if_neg h0] at h
  by_cases h1:-(n:Int)≤i
  ·rw[if_pos h1] at h
   have e:(i+n).toNat=j:=Zr h;exact⟨by rw[seqIndex_neg (by omega) h1,e],by omega,h1,by omega⟩
  ·rw[if_neg h1] at h;cases h
theorem O3{α:Type}{xs:List α}{i:Int}{v:α}(h:Xb xs i=some v):∃ j,seqIndex? i xs.length=some j∧xs[j]? = some v∧j < xs.length∧-(xs.length:Int)≤i∧i < xs.length:=by
 unfold Xb at h;cases e:ixN xs.length i with
 | none=>rw[e] at h;cases h
 | some j=>
  rw[e] at h;obtain⟨h1,h2,h3,h4⟩:=Zce e;exact⟨j,h1,h,h2,h3,h4⟩
theorem U7{α:Type}{xs:List α}{j:Nat}{v:α}(h:xs[j]? = some v):Xb xs (j:Int)=some v:=by
 have hj:j < xs.length:=(Zh.mp h).1;have e:ixN xs.length (j:Int)=some j:=by
  unfold ixN;rw[if_pos (by omega),if_pos (by omega)];simp
 unfold Xb;rw[e];exact h
def Zlg(b:Expr):Prop:=∀ o i,subscripted b false o i=operate [o,i] (getItem o i)
def IxR(X:Cx)(r:R2):Prop:=
 ∀(value slice:Expr) (pins:List (Addr×Obj)) (s:Shared) (σ:St) (H:Hp) (x y:V) (v u:Value) (Q:VK),Inv X pins σ H s→RelV x v→RelV y u→r x y H Q →
  subscripted slice false v u=operate [v,u] (getItem v u)→wpAny (model X.prog X.w) X.A (subscriptTail value slice v u) (EP X pins σ Q) X.xe s
def MtR(X:Cx)(id:String)(r:V→List V→Hp→VK→Prop):Prop:=
 ∀(pins:List (Addr×Obj)) (s:Shared) (σ:St) (H:Hp) (x:V) (xs:List V) (v:Value) (us:List Value) (Q:VK),Inv X pins σ H s→RelV x v→Vals xs us→r x xs H Q →
  wpAny (model X.prog X.w) X.A (call (.builtin id) (v :: us)) (EP X pins σ Q) X.xe s
section
variable{X:Cx}{a b:Expr}{ta tb:TE}{pos:Pos}
theorem Jo{r:R2}(hr:IxR X r)(ha:PE X a ta)(hb:PE X b tb)(hs:Zlg b):PE X (.Subscript a b pos) (tOp r ta tb):=by
 intro pins s σ H Q I h;exact Subscript_ (Zn3 ha hb I h fun v u s2 x y H2 I2 rx ry q=>hr a b pins s2 σ H2 x y v u Q I2 rx ry q (hs _ _))
def Zo1(K:W.Frag):R2:=fun x y H Q=>∃ p xs i v,x = .ref p∧y = .int i∧SqL K H p xs∧Xb xs i=some v∧Q v H
def Zji(K:W.Frag):R2:=fun x y H Q=>∃ p xs i v,x = .ref p∧y = .int i∧SqT K H p xs∧Xb xs i=some v∧Q v H
def Zo0:R2:=fun x y H Q=>∃ z i c,x = .str z∧y = .int i∧z.length≤sizeLine∧Xb z.cps.toList i=some c∧Q (.str ⟨#[c]⟩) H
theorem J9:IxR X (Zo1 X.K):=by
 intro value slice pins s σ H x y v u Q I rx ry h hs;obtain⟨p,xs,i,z,rfl,rfl,hq,he,q⟩:=h;cases rx;obtain⟨t,rfl⟩:=ry;obtain⟨its,r,pl,hz⟩:=I.list hq;obtain⟨j,h1,h2,h3,h4,h5⟩:=O3 he;obtain⟨w,ew,rw'⟩:=r.get h2;have hl:=r.length;have hn:=N7;have fin:EP X pins σ Q w s:=⟨z,H,I,rw',q⟩;by_cases h0:0≤i
 ·have hj:i.toNat=j:=by
   rw[seqIndex_of h0 h5] at h1;exact Zr h1
  exact item_listR pl.isList h0 (by omega) (by rw[hj];simpa using ew) fin hs
 ·have hj:(i+(its.toArray.size:Int)).toNat=j:=by
   rw[seqIndex_neg (by omega) h4] at h1;rw[List.size_toArray,← hl];exact Zr h1
  exact subscriptTail_builtinR (x:=w) pl.isList.typeIs slot_list_getitem.lookup
   (wpAny_getItem_list_neg (Q:=fun r s'=>r=w∧EP X pins σ Q r s') pl.isList (by omega) (by rw[List.size_toArray]<;>omega) (by omega) (by rw[hj];simpa using ew) ⟨rfl,fin⟩) hs
theorem Jw:IxR X (Zji X.K):=by
 intro value slice pins s σ H x y v u Q I rx ry h hs;obtain⟨p,xs,i,z,rfl,rfl,hq,he,q⟩:=h;cases rx;obtain⟨t,rfl⟩:=ry;obtain⟨its,r,pl,hz⟩:=I.tuple hq;obtain⟨j,h1,h2,h3,h4,h5⟩:=O3 he;obtain⟨w,ew,rw'⟩:=r.get h2;have hl:=r.length;have hn:=N7;have fin:EP X pins σ Q w s:=⟨z,H,I,rw',q⟩;exact subscriptTail_builtinR (x:=w) pl.typeIs slot_tuple_getitem.lookup
  (getItem_tuple (j:=j) (Q:=fun r s'=>r=w∧EP X pins σ Q r s') pl (by omega) (by omega) (by rw[List.size_toArray,← hl];exact h1) (by simpa using ew) ⟨rfl,fin⟩) hs
theorem Oq:IxR X Zo0:=by
  intro value slice pins s σ H x y v u Q I rx ry h hs;obtain⟨z,i,c,rfl,rfl,hz,he,q⟩:=h;obtain⟨t,rfl⟩:=rx;obtain⟨t',rfl⟩:=ry;obtain⟨j,h1,h2,h3,h4,h5⟩:=O3 he;have hl:z.cps.toList.length=z.length:=by simp [Str.length]
  rw[hl] at h1 h4 h5;have hn:=N7;exact tail_any (typeIs_str s z t) slot_str_getitem.lookup (getItem_str (c:=c) (by
    have e1:decide (i < -(2 ^ 63:Int))=false:=Zd (by omega);have e2:decide (i ≥ 2 ^ 63)=false:=Zd (by omega);rw[e1,e2,Bool.or_false]) (by rw[h1];simpa using h2) ⟨.str ⟨#[c]⟩,H,I.tok _,⟨_,rfl⟩,q⟩) hs
theorem Zaq(its:List Value)(n j:Nat)(u:Value):Obj.mapSeq (·.setIfInBounds j u) { cls:=.type "list",data:=.seq its.toArray n } = { cls:=.type "list",data:=.seq (its.set j u).toArray n }:=by
 simp [Obj.mapSeq]
theorem Inv.lst{pins:List (Addr×Obj)}{σ:St}{H:Hp}{s:Shared}{p:Addr}{xs:List V}(I:Inv X pins σ H s)(h:H p=some (.lst xs)) :
  ∃(its:List Value) (n:Nat),Vals xs its∧s.heap.get? p=some { cls:=.type "list",data:=.seq its.toArray n }∧xs.length≤sizeLine:=by
 obtain⟨z,its,n,r,e⟩:=I.hok p _ h;exact⟨its,n,r,e,z⟩
theorem Inv.lstUpd{pins:List (Addr×Obj)}{σ:St}{H:Hp}{s:Shared}{p:Addr}{xs ys:List V}{its its':List Value}{n n':Nat}{f:Obj→Obj}(I:Inv X pins σ H s)(h:H p=some (.lst xs))
  (ho:s.heap.get? p=some { cls:=.type "list",data:=.seq its.toArray n }) (hf:f { cls:=.type "list",data:=.seq its.toArray n } = { cls:=.type "list",data:=.seq its'.toArray n' }) (r:Vals ys its') (hz:ys.length≤sizeLine) (t:Nat) :
  Inv X pins σ (upd H p (.lst ys)) { s with heap:=s.heap.update p f,toks:=t }:=by
 have e:(s.heap.update p f).get? p=some { cls:=.type "list",data:=.seq its'.toArray n' }:=by
  rw[Heap.get?_update_self f ho (by rw[hf]<;>rfl),hf]
 refine I.write (x:=p) (e:=p) (by rw[h];trivial) (.inl rfl) (fun b u hb q=>(Heap.get?_update_other _ _ (Ne.symm hb)).trans q) ⟨_,e⟩ ?_;exact⟨hz,its',n',r,e⟩
def Zoz:V→V→V→Hp→(Hp→Prop)→Prop:=fun o i v H Q=>∃ p xs k j,o = .ref p∧i = .int k∧H p=some (.lst xs)∧ixN xs.length k=some j∧Q (upd H p (.lst (xs.set j v)))
theorem Zfi:Zpt X Zoz:=by
 intro pins s σ H o i v ov iv u Q I ro ri rv h;obtain⟨p,xs,k,j,rfl,rfl,hp,hj,q⟩:=h;cases ro;obtain⟨t,rfl⟩:=ri;obtain⟨its,n,r,ho,hz⟩:=I.lst hp;obtain⟨h1,h2,h3,h4⟩:=Zce hj;have hl:=r.length;have hn:=N7;have I':Inv X pins σ (upd H p (.lst (xs.set j v))) { s with heap:=s.heap.update p (Obj.mapSeq (·.setIfInBounds j u)) }:=
  I.lstUpd hp ho (Zaq its n j u) (r.set rv j) (by rw[Y0];exact hz) s.toks
 by_cases h0:0≤k
 ·have hk:k.toNat=j:=by
   rw[seqIndex_of h0 h4] at h1;exact Zr h1
  exact W.ki_setAt ho h0 (by omega) (by rw[List.size_toArray,← hl];exact h4) (by rw[hk];exact⟨_,I',q⟩)
 ·have hk:(k+(its.toArray.size:Int)).toNat=j:=by
   rw[seqIndex_neg (by omega) h3] at h1;rw[List.size_toArray,← hl];exact Zr h1
  exact W.ki_setBack ho (by omega) (by rw[List.size_toArray,← hl];exact h3) (by omega) (by rw[hk];exact⟨_,I',q⟩)
theorem Dv(lo hi:Option Int)(n:Nat):(sliceBounds lo hi none n).1=((HT.sIx n 0 lo:Nat):Int)∧(sliceBounds lo hi none n).2.1=((HT.sIx n n hi:Nat):Int)∧(sliceBounds lo hi none n).2.2=1:=by
 refine⟨?_,?_,rfl⟩
 ·cases lo with
  | none=>simp [sliceBounds,HT.sIx]
  | some i=>
   simp only[sliceBounds,HT.sIx,Option.getD_none,show(1:Int) > 0 by decide,if_true];by_cases h:i < 0
   ·simp only[h,if_true]<;>omega
   ·simp only[h,if_false]<;>omega
 ·cases hi with
  | none=>simp [sliceBounds,HT.sIx]
  | some i=>
   simp only[sliceBounds,HT.sIx,Option.getD_none,show(1:Int) > 0 by decide,if_true];by_cases h:i < 0
   ·simp only[h,if_true]<;>omega
   ·simp only[h,if_false]<;>omega
theorem T2(its:List Value)(lo hi:Option Int):slicePick its.toArray lo hi none=((its.drop (HT.sIx its.length 0 lo)).take (HT.sIx its.length its.length hi - HT.sIx its.length 0 lo)).toArray:=by
 obtain⟨h1,h2,h3⟩:=Dv lo hi its.toArray.size;unfold slicePick;rw[h1,h2,h3];simp only[sliceRange_one,pick_run,List.size_toArray]<;>rfl
def Zoy(K:W.Frag):V→Option Int→Option Int→Hp→VK→Prop:=fun x lo hi H Q=>∃ a xs,x = .ref a∧SqL K H a xs∧∀ p,H p=none→Q (.ref p) (upd H p (.lst (O0 xs lo hi)))
theorem Zi3:SlR X (Zoy X.K):=by
 intro pins s σ H x v vl vu lo hi sl Q I rx hs pl pu h;obtain⟨a,xs,rfl,hx,q⟩:=h;cases rx;obtain⟨its,r,ht,hz⟩:=I.list hx;have hlen:=r.length;refine⟨"list",_,slot_list_getitem.lookup,ht.isList.typeIs,?_⟩;refine wpAny_getItem_list_slice ht.isList hs pl pu .none (by simp) ?_ (by rw[List.size_toArray]<;>omega);rw[T2,← hlen];refine⟨.ref s.heap.objs.size,_,I.laid (t':=s.toks) (o:=.lst (O0 xs lo hi)) (fun b ob q=>Zi _ q) (Nat.le_refl _) ?_,rfl,q _ (I.hok.fresh (Nat.le_refl _))⟩;exact⟨Nat.le_trans (Kw xs lo hi) hz,_,0,(r.drop (HT.sIx xs.length 0 lo)).take (HT.sIx xs.length xs.length hi - HT.sIx xs.length 0 lo),Heap.get?_push_size _ rfl⟩
def U3:V→Bool
 | .non=>true
 | .bl _=>true
 | .int _=>true
 | .str _=>true
 | _=>false
def Ma:V→V→Bool
 | .non,.non=>true
 | .bl a,.bl b=>a == b
 | .bl a,.int b=>(if a then 1 else 0) == b
 | .int a,.bl b=>a == (if b then 1 else 0)
 | .int a,.int b=>a == b
 | .str a,.str b=>a == b
 | _,_=>false
theorem Oy{A:Around}{s:Shared}{y x:V}{u v:Value}(ry:RelV y u)(rx:RelV x v)(fy:U3 y=true)(fx:U3 x=true):SeqAt.EqAt A s u v (Ma y x):=by
 cases y with
 | non=>
  cases ry;cases x with
  | non=>cases rx;exact SeqAt.EqAt.same _
  | bl b=>cases rx;exact SeqAt.EqAt.none_bool b
  | int b=>obtain⟨t,rfl⟩:=rx;exact SeqAt.EqAt.none_int b t
  | str b=>obtain⟨t,rfl⟩:=rx;exact SeqAt.EqAt.none_str b t
  | _=>exact absurd (show false=true from fx) Zq
 | bl a=>
  cases ry;cases x with
  | non=>cases rx;exact SeqAt.EqAt.bool_none a
  | bl b=>cases rx;exact SeqAt.EqAt.bool_bool a b
  | int b=>obtain⟨t,rfl⟩:=rx;exact SeqAt.EqAt.bool_int a b t
  | str b=>obtain⟨t,rfl⟩:=rx;exact SeqAt.EqAt.bool_str a b t
  | _=>exact absurd (show false=true from fx) Zq
 | int a=>
  obtain⟨t',rfl⟩:=ry;cases x with
  | non=>cases rx;exact SeqAt.EqAt.int_none a t'
  | bl b=>cases rx;exact SeqAt.EqAt.int_bool a t' b
  | int b=>obtain⟨t,rfl⟩:=rx;exact SeqAt.EqAt.int_int a t' b t
  | str b=>obtain⟨t,rfl⟩:=rx;exact SeqAt.EqAt.int_str a t' b t
  | _=>exact absurd (show false=true from fx) Zq
 | str a=>
  obtain⟨t',rfl⟩:=ry;cases x with
  | non=>cases rx;exact SeqAt.EqAt.str_none a t'
  | bl b=>cases rx;exact SeqAt.EqAt.str_bool a t' b
  | int b=>obtain⟨t,rfl⟩:=rx;exact SeqAt.EqAt.str_int a t' b t
  | str b=>obtain⟨t,rfl⟩:=rx;exact SeqAt.EqAt.str_str a t' b t
  | _=>exact absurd (show false=true from fx) Zq
 | _=>exact absurd (show false=true from fy) Zq
def eqU(x:V)(u:Value):Bool:=match u with
 | .none=>Ma .non x
 | .bool b=>Ma (.bl b) x
 | .int i _=>Ma (.int i) x
 | .str z _=>Ma (.str z) x
 | _=>false
theorem Zh2{x y:V}{u:Value}(r:RelV y u)(f:U3 y=true):eqU x u=Ma y x:=by
 cases y with
 | non=>cases r;rfl
 | bl b=>cases r;rfl
 | int i=>obtain⟨t,rfl⟩:=r;rfl
 | str z=>obtain⟨t,rfl⟩:=r;rfl
 | _=>exact absurd (show false=true from f) Zq
theorem Vf{x:V}:∀{xs:List V} {us:List Value},Vals xs us→xs.all U3=true→us.any (eqU x)=xs.any fun y=>Ma y x
 | _,_,.nil,_=>rfl
 | y :: xs,u :: us,.cons r t,f=>by
  rw[List.all_cons,Bool.and_eq_true] at f;rw[List.any_cons,List.any_cons,Zh2 r f.1,Vf t f.2]
theorem E7{A:Around}{s:Shared}{x:V}{v:Value}(rx:RelV x v)(fx:U3 x=true):∀{xs:List V} {us:List Value},Vals xs us→xs.all U3=true→∀ u∈us,SeqAt.EqAt A s u v (eqU x u)
 | _,_,.nil,_=>fun u hu=>by cases hu
 | y :: xs,u :: us,.cons r t,f=>fun u' hu=>by
  rw[List.all_cons,Bool.and_eq_true] at f;rcases List.mem_cons.mp hu with rfl | hu
  ·rw[Zh2 r f.1];exact Oy r rx f.1 fx
  ·exact E7 rx fx t f.2 u' hu
def Mu(x:V)(xs:List V):Bool:=xs.any fun y=>Ma y x
def rIn(K:W.Frag)(neg:Bool):R2:=fun x y H Q=>∃ p xs,y = .ref p∧(SqL K H p xs∨SqT K H p xs)∧U3 x=true∧xs.all U3=true∧Q (.bl (if neg then !Mu x xs else Mu x xs)) H
theorem Qd:Eo X (compareOp .In) (rIn X.K false):=by
 intro pins s σ H x y v u Q I rx ry h;obtain⟨p,xs,rfl,hq,fx,fs,q⟩:=h;cases ry;rcases hq with hq | hq
 ·obtain⟨its,r,pl,hz⟩:=I.list hq
  refine SeqAt.in_listAt (eqU x) pl.isList (fun w hw=>E7 rx fx r fs w (by simpa using hw)) ⟨.bl _,H,I,rfl,?_⟩;rw[show its.toArray.any (eqU x)=its.any (eqU x) by simp,Vf r fs];exact q
 ·obtain⟨its,r,pl,hz⟩:=I.tuple hq
  refine SeqAt.in_tupleAt (eqU x) pl (fun w hw=>E7 rx fx r fs w (by simpa using hw)) ⟨.bl _,H,I,rfl,?_⟩;rw[show its.toArray.any (eqU x)=its.any (eqU x) by simp,Vf r fs];exact q
theorem Qa:Eo X (compareOp .NotIn) (rIn X.K true):=by
 intro pins s σ H x y v u Q I rx ry h;obtain⟨p,xs,rfl,hq,fx,fs,q⟩:=h;cases ry;rcases hq with hq | hq
 ·obtain⟨its,r,pl,hz⟩:=I.list hq
  refine SeqAt.notIn_listAt (eqU x) pl.isList (fun w hw=>E7 rx fx r fs w (by simpa using hw)) ⟨.bl _,H,I,rfl,?_⟩;rw[show its.toArray.any (eqU x)=its.any (eqU x) by simp,Vf r fs];exact q
 ·obtain⟨its,r,pl,hz⟩:=I.tuple hq
  refine SeqAt.notIn_tupleAt (eqU x) pl (fun w hw=>E7 rx fx r fs w (by simpa using hw)) ⟨.bl _,H,I,rfl,?_⟩;rw[show its.toArray.any (eqU x)=its.any (eqU x) by simp,Vf r fs];exact q
theorem Jt:Ui X (.builtin "len") (fun xs H Q=>∃ p ys,xs=[.ref p]∧(SqL X.K H p ys∨SqT X.K H p ys)∧Q (.int ys.length) H):=by
 intro pins s σ H xs us Q I r h;obtain⟨p,ys,rfl,hq,q⟩:=h;obtain⟨u,rfl,rx⟩:=U2 r;cases rx;have hn:=N7;rcases hq with hq | hq
 ·obtain⟨its,r',pl,hz⟩:=I.list hq
  have hlen:=r'.length;exact Calls.call_len_list pl.isList (by simp only[List.size_toArray]<;>omega) ⟨.int ys.length,H,I.tok _,⟨s.toks+1,by rw[List.size_toArray,hlen]⟩,q⟩
 ·obtain⟨its,r',pl,hz⟩:=I.tuple hq
  have hlen:=r'.length;exact len_tuple pl (by simp only[List.size_toArray]<;>omega) ⟨.int ys.length,H,I.tok _,⟨s.toks+1,by rw[List.size_toArray,hlen]⟩,q⟩
theorem Vd:Ui X (.builtin "len") (fun xs H Q=>∃ z,xs=[.str z]∧z.length≤sizeLine∧Q (.int z.length) H):=by
 intro pins s σ H xs us Q I r h;obtain⟨z,rfl,hz,q⟩:=h;obtain⟨u,rfl,t,rfl⟩:=U2 r;have hn:=N7;exact len_str (by omega) ⟨.int z.length,H,I.tok _,⟨_,rfl⟩,q⟩
theorem Uy:Ui X (.type "list") (fun xs H Q=>∃ p ys,xs=[.ref p]∧(SqL X.K H p ys∨SqT X.K H p ys)∧∀ l,H l=none→Q (.ref l) (upd H l (.lst ys))):=by
 intro pins s σ H xs us Q I r h;obtain⟨p,ys,rfl,hq,q⟩:=h;obtain⟨u,rfl,rx⟩:=U2 r;cases rx;have fin:∀(its:List Value),Vals ys its→ys.length≤sizeLine→∀(h':Heap) (c':Nat),(∀ b o',s.heap.get? b=some o'→h'.get? b=some o') →
   h'.get? s.heap.objs.size=some { cls:=.type "list",dict:=none,data:=.seq its.toArray c',slots:=#[] }→EP X pins σ Q (.ref s.heap.objs.size) { s with heap:=h' }:=fun its r' hz h' c' kp e=>
  ⟨.ref s.heap.objs.size,_,I.laid (t':=s.toks) kp (Nat.le_refl _) (show ObjOk X.prog X.w _ h' _ (.lst ys) from⟨hz,its,c',r',e⟩),rfl,q _ (I.hok.fresh (Nat.le_refl _))⟩
 rcases hq with hq | hq
 ·obtain⟨its,r',pl,hz⟩:=I.list hq
  have hlen:=r'.length;obtain⟨o,ho,hc,n,hd⟩:=pl.isList;exact call_list_seq p (.inl rfl) ho hc hd (fun h' c' kp e=>fin its r' hz h' c' kp e) (by simp only[List.size_toArray]<;>omega)
 ·obtain⟨its,r',pl,hz⟩:=I.tuple hq
  have hlen:=r'.length;obtain⟨o,ho,hc,n,hd⟩:=pl;exact call_list_seq p (.inr rfl) ho hc hd (fun h' c' kp e=>fin its r' hz h' c' kp e) (by simp only[List.size_toArray]<;>omega)
theorem Uo:Ui X (.type "tuple") (fun xs H Q=>∃ p ys,xs=[.ref p]∧((SqL X.K H p ys∧∀ l,H l=none→Q (.ref l) (upd H l (.tup ys)))∨(SqT X.K H p ys∧Q (.ref p) H))):=by
 intro pins s σ H xs us Q I r h;obtain⟨p,ys,rfl,h⟩:=h;obtain⟨u,rfl,rx⟩:=U2 r;cases rx;rcases h with⟨hq,q⟩ | ⟨hq,q⟩
 ·obtain⟨its,r',pl,hz⟩:=I.list hq
  have hlen:=r'.length;refine call_tuple_list pl.isList (fun h' kp=>?_) (by simp only[List.size_toArray]<;>omega);have I1:Inv X pins σ H { s with heap:=h' }:=I.kept (t':=s.toks) kp;have I2:Inv X pins σ (upd H h'.objs.size (.tup ys)) { s with heap:=h'.push { cls:=.type "tuple",data:=.seq its.toArray } }:=
   I1.laid (t':=s.toks) (fun b o e=>Zi _ e) (Nat.le_refl _) (show ObjOk X.prog X.w _ _ _ (.tup ys) from⟨hz,its,r',IsTup.new _ _⟩)
  exact⟨.ref h'.objs.size,_,I2,rfl,q _ (I1.hok.fresh (Nat.le_refl _))⟩
 ·obtain⟨its,r',pl,hz⟩:=I.tuple hq
  exact call_tuple_same pl ⟨.ref p,H,I,rfl,q⟩
def tyV(K:W.Frag)(T:String)(x:V)(H:Hp):Prop:=match x with
 | .str _=>T = "str"
 | .int _=>T = "int"
 | .ref p=>(T = "list"∧∃ xs,SqL K H p xs)∨(T = "tuple"∧∃ o,K.lookup p=some o∧o.cls = .type "tuple"∧o.dict=none) ∨
   (T = "dict"∧((∃ kvs,H p=some (.dK kvs))∨∃ kvs,H p=some (.dT kvs)))∨(T = "set"∧∃ S n,H p=some (.set S n))
 | _=>False
theorem Zey{pins:List (Addr×Obj)}{σ:St}{H:Hp}{s:Shared}{T:String}{x:V}{v:Value}(I:Inv X pins σ H s)(r:RelV x v)(ty:tyV X.K T x H) :
  s.TypeIs v T∧∀ a,v = .ref a→∃ ob,s.heap.get? a=some ob∧ob.dict=none:=by
 cases x with
 | str z=>
  obtain⟨t,rfl⟩:=r;cases (show T = "str" from ty);exact⟨typeIs_str s z t,fun _ e=>nomatch e⟩
 | int i=>
  obtain⟨t,rfl⟩:=r;cases (show T = "int" from ty);exact⟨typeIs_int s i t,fun _ e=>nomatch e⟩
 | ref p=>
  cases r;rcases ty with⟨rfl,xs,hq⟩ | ⟨rfl,o,hk,hc,hd⟩ | ⟨rfl,hk⟩ | ⟨rfl,S,n,hk⟩
  ·obtain⟨its,_,pl,_⟩:=I.list hq
   refine⟨pl.isList.typeIs,fun a e=>?_⟩;cases e;obtain⟨o,n,e,c,hd,_⟩:=pl;exact⟨o,e,hd⟩
  ·refine⟨⟨o,I.kIn p o hk,hc⟩,fun a e=>?_⟩
   cases e;exact⟨o,I.kIn _ o hk,hd⟩
  ·have z:∃ o,s.heap.get? p=some o∧o.ExactDict:=by
    rcases hk with⟨kvs,hk⟩ | ⟨kvs,hk⟩
    ·obtain⟨_,_,_,_,o,_,_,e,ex,_⟩:=I.hok p _ hk
     exact⟨o,e,ex⟩
    ·obtain⟨_,_,_,_,o,_,_,e,ex,_⟩:=I.hok p _ hk
     exact⟨o,e,ex⟩
   obtain⟨o,e,ex⟩:=z;refine⟨⟨o,e,ex.1⟩,fun a e2=>?_⟩;cases e2;exact⟨o,e,ex.2.1⟩
  ·obtain⟨o,_,_,_,e,ex,_⟩:=I.hok p _ hk
   refine⟨⟨o,e,ex.1⟩,fun a e2=>?_⟩;cases e2;exact⟨o,e,ex.2.1⟩
 | _=>exact False.elim ty
def Zqd(K:W.Frag)(T:String)(r:V→List V→Hp→VK→Prop)(to:TE):TE:=fun σ H Q=>to σ H fun x H1=>tyV K T x H1∧r x [] H1 Q
def tBM(K:W.Frag)(T:String)(r:V→List V→Hp→VK→Prop)(to:TE)(t:TA):TE:=fun σ H Q=>to σ H fun x H1=>tyV K T x H1∧t σ H1 fun xs H2=>r x xs H2 Q
variable{o e:Expr}{es:List Expr}{to:TE}{t:TA}{name:Str}{apos cpos:Pos}{T id:String}{r:V→List V→Hp→VK→Prop}
theorem Zmx(pa:PlainAttrs T)(slot:Slot T name id)(hty:typeOf (.builtin id)=pure (.type "method_descriptor"))(hm:MtR X id r)(ho:PE X o to)
  (hbase:attributeBase o name X.env (eval o X.env)=eval o X.env:=by rfl) (hline:(apos.endLine == cpos.line)=true:=by rfl):PE X (.Call (.Attribute o name apos) [] [] cpos) (Zqd X.K T r to):=by
 intro pins s σ H Q I h;refine wpAny_Call_method0_late hbase hline (Y1 (ho pins s σ H _ I h) fun v s1 ⟨x,H1,I1,r1,ty,q1⟩=>?_);obtain⟨h1,h2⟩:=Zey I1 r1 ty;exact⟨T,id,pa,slot,hty,h1,h2,Calls.callWith_builtin rfl (PySem.evalArgs_none (hm pins s1 σ H1 x [] v [] Q I1 r1 .nil q1))⟩
theorem Xp(pa:PlainAttrs T)(slot:Slot T name id)(hty:typeOf (.builtin id)=pure (.type "method_descriptor"))(hm:MtR X id r)(ho:PE X o to)(ha:PA X (e :: es) t)
  (hbase:attributeBase o name X.env (eval o X.env)=eval o X.env:=by rfl)
  (hfew:((backTo cpos (starEach (e :: es) X.env)).all (fun x=>!x.1) && (backToKw cpos (keywordEach [] X.env)).all (fun x=>x.1.isSome)
   && decide ((e :: es).length+([]:List Keyword).length+(if([]:List Keyword).isEmpty then 0 else 1) < 30))=true:=by rfl)
  (hline:(apos.endLine == cpos.line)=true:=by rfl) (hs:starEach (e :: es) X.env=(false,eval e X.env) :: starEach es X.env:=by rfl) (hplain:(backTo cpos (starEach es X.env)).any (·.1)=false:=by rfl) :
  PE X (.Call (.Attribute o name apos) (e :: es) [] cpos) (tBM X.K T r to t):=by
 intro pins s σ H Q I h;refine wpAny_Call_method_late hbase hfew hline rfl (Y1 (ho pins s σ H _ I h) fun v s1 ⟨x,H1,I1,r1,ty,q1⟩=>?_);obtain⟨h1,h2⟩:=Zey I1 r1 ty;refine⟨T,id,pa,slot,hty,h1,h2,?_⟩;have hA:=ha cpos pins s1 σ H1 _ I1 q1;rw[hs] at hA ⊢;refine Calls.callWith_builtin (by show(false || (backTo cpos (starEach es X.env)).any (·.1))=false;rw[hplain]<;>rfl) (Calls.evalArgs_plain ?_);exact Y1 hA fun us s2 ⟨vs,H2,I2,r2,q2⟩=>hm pins s2 σ H2 x vs v us Q I2 r1 r2 q2
end
def MtM(X:Cx)(id:String)(r:V→List V→Hp→VK→Prop):Prop:=
 ∀(pins:List (Addr×Obj)) (s:Shared) (σ:St) (H:Hp) (x:V) (xs:List V) (v:Value) (us:List Value) (Q:VK),Inv X pins σ H s→RelV x v→Vals xs us→r x xs H Q →
  wpAny (model X.prog X.w) X.A (call (.builtin id) (v :: us)) (EP X pins σ Q) X.xe s
theorem Vals.one:∀{x:V} {us:List Value},Vals [x] us→∃ u,us=[u]∧RelV x u
 | _,_,.cons r .nil=>⟨_,rfl,r⟩
section
variable{X:Cx}{pins:List (Addr×Obj)}{σ:St}{H:Hp}{s:Shared}{l b:Addr}{xs ys zs:List V}
theorem Inv.lset{its its':List Value}{n:Nat}{f:Array Value→Array Value}{t':Nat}(I:Inv X pins σ H s)(hH:H l=some (.lst xs))
  (e:s.heap.get? l=some { cls:=.type "list",data:=.seq its.toArray n }) (hf:f its.toArray=its'.toArray) (hv:Vals ys its') (hz:ys.length≤sizeLine) :
  Inv X pins σ (upd H l (.lst ys)) { s with heap:=s.heap.update l (Obj.mapSeq f),toks:=t' }:=by
 have q:=PySem.IsL.update e f;rw[hf] at q;refine I.write (x:=l) (e:=l) (by rw[hH];exact trivial) (.inl rfl) (fun b' u hb hu=>(Heap.get?_update_other s.heap (Obj.mapSeq f) (Ne.symm hb)).trans hu) ⟨_,q⟩ ?_;exact⟨hz,its',_,hv,q⟩
theorem Inv.lnew{its:List Value}{t':Nat}(I:Inv X pins σ H s)(hv:Vals ys its)(hz:ys.length≤sizeLine) :
  Inv X pins σ (upd H s.heap.objs.size (.lst ys)) { s with heap:=s.heap.push { cls:=.type "list",data:=.seq its.toArray },toks:=t' }:=
 I.laid (fun _ _ q=>Zi _ q) (Nat.le_refl _) ⟨hz,its,0,hv,Heap.get?_push_size _ rfl⟩
theorem Inv.fresh(I:Inv X pins σ H s):H s.heap.objs.size=none:=I.hok.fresh (Nat.le_refl _)
theorem Inv.lstM(I:Inv X pins σ H s)(hH:H l=some (.lst xs)):xs.length≤sizeLine∧∃(its:List Value) (n:Nat),Vals xs its∧xs.length=its.length∧s.heap.get? l=some { cls:=.type "list",data:=.seq its.toArray n }:=by
 obtain⟨z,its,n,r,e⟩:=I.hok l _ hH;exact⟨z,its,n,r,r.length,e⟩
theorem Zhb{n:Nat}(h:n≤sizeLine):Builtin.List.listTooLong n=false:=by
 unfold Builtin.List.listTooLong;exact Zd (by omega)
end
section
variable{X:Cx}
def Zjl:V→List V→Hp→VK→Prop:=fun x vs H Q=>∃ l xs y,x = .ref l∧vs=[y]∧H l=some (.lst xs)∧xs.length < sizeLine∧Q .non (upd H l (.lst (xs++[y])))
theorem Qe:MtM X "list.append" Zjl:=by
 intro pins s σ H x vs v us Q I rx rv h;obtain⟨l,xs,y,rfl,rfl,hH,hz,q⟩:=h;cases rx;obtain⟨u,rfl,ru⟩:=rv.one;obtain⟨z,its,n,r,hl,e⟩:=I.lstM hH;refine call_meets F.slot_list_append ⟨_,e,rfl⟩ F.entry_list_append (F.args_list_append_2 _ _) (PySem.list_append l its.toArray n u (by rw[List.size_toArray];omega)) ⟨e,?_⟩;refine⟨.non,_,I.lset (its':=its++[u]) hH e (by simp) (r.append (.cons ru .nil)) ?_,rfl,q⟩;rw[Zs,List.length_singleton];omega
def Zjk:V→List V→Hp→VK→Prop:=fun x vs H Q=>∃ l b xs zs,x = .ref l∧vs=[.ref b]∧H l=some (.lst xs)∧H b=some (.lst zs)∧xs.length+zs.length≤sizeLine∧Q .non (upd H l (.lst (xs++zs)))
theorem Mn:MtM X "list.extend" Zjk:=by
 intro pins s σ H x vs v us Q I rx rv h;obtain⟨l,b,xs,zs,rfl,rfl,hH,hB,hz,q⟩:=h;cases rx;obtain⟨u,rfl,ru⟩:=rv.one;cases ru;obtain⟨z,its,n,r,hl,e⟩:=I.lstM hH;obtain⟨z2,its2,n2,r2,hl2,e2⟩:=I.lstM hB;have hsz:its.toArray.size+its2.toArray.size≤sizeLine:=by rw[List.size_toArray,List.size_toArray];omega
 have hlong:¬ (!its.toArray.isEmpty && Builtin.List.listTooLong (its.toArray.size+its2.toArray.size))=true:=by
  rw[Zhb hsz,Bool.and_false];exact Zq
 refine call_meets F.slot_list_extend ⟨_,e,rfl⟩ F.entry_list_extend (F.args_list_extend_2 _ _)
  (AutoSeq1.list_extend_list_list_0 l its.toArray n b its2.toArray n2 hlong (by rw[List.size_toArray];omega) (by omega)) ⟨e,e2,?_⟩
 refine⟨.non,_,I.lset (its':=its++its2) hH e (by simp) (r.append r2) ?_,rfl,q⟩;rw[Zs];omega
def Zqk:R2:=fun x y H Q=>∃ l b xs zs,x = .ref l∧y = .ref b∧H l=some (.lst xs)∧H b=some (.lst zs)∧xs.length+zs.length≤sizeLine∧∀ p,H p=none→Q (.ref p) (upd H p (.lst (xs++zs)))
theorem Tb:Eo X (binaryOp .Add) Zqk:=by
 intro pins s σ H x y v u Q I rx ry h;obtain⟨l,b,xs,zs,rfl,rfl,hH,hB,hz,q⟩:=h;cases rx;cases ry;obtain⟨z,its,n,r,hl,e⟩:=I.lstM hH;obtain⟨z2,its2,n2,r2,hl2,e2⟩:=I.lstM hB;refine PySem.P.add_list e e2 ?_ (by rw[List.size_toArray,List.size_toArray];omega);have ea:its.toArray++its2.toArray=(its++its2).toArray:=by simp
 rw[ea];exact⟨.ref _,_,I.lnew (t':=s.toks) (r.append r2) (by rw[Zs];omega),rfl,q _ I.fresh⟩
end
section
variable{prog:Program}{w:World}{A:Around}{E:Value→Shared→Prop}{s:Shared}
end
section
variable{X:Cx}
end
end L2
namespace Att
open PySem PySem.W PySem.Calls PyProof.Rows
theorem Rn{P:Params}{h:Heap}:∀(ns:List Int) (vs:List Value),WellAll P h vs (ns.map WData.int)→IntsAre vs ns:=by
 intro ns
 induction ns with
 | nil=>
  intro vs w;rw[List.map_nil] at w;cases w;exact .nil
 | cons n ns ih=>
  intro vs w;rw[List.map_cons] at w;cases w with
  | cons a b=>
   cases a;exact .cons _ _ (ih _ b)
theorem Zc4{l:OpenLaw}{n:Nat}(hn:l.most=some n){P:Params}{h:Heap}{args:List WData}{vals:List Value}
  (hpre:l.row.toRowW.claim.pre args=true) (hwl:WellAll P h vals args) :
  ∃ a vs ns,vals=[Value.ref a]∧args=[WData.list (ns.map WData.int)]∧h.get? a=some { cls:=.type "list",data:=.seq vs.toArray }∧IntsAre vs ns∧ns.length≤n:=by
 have hsh:WShape.hasAll [] args [.list .int]=true:=(pre_splitW hpre).1;have hc:l.pre.holds [] { args:=args }=true:=(pre_splitW hpre).2;obtain⟨d,r,rfl,h1,h2⟩:=hasAllW_cons hsh;obtain rfl:=hasAllW_nil h2;obtain⟨xs,rfl,h3⟩:=hasW_list h1;obtain⟨ns,rfl⟩:=items_int h3;have hlen:ns.length≤n:=by
  unfold OpenLaw.pre at hc;have h4:(WTm.not (.lt (.lit (.int (n:Int))) (.len (.arg 0)))).holds [] { args:=[.list (ns.map .int)] }=true:=by
   have h4:=(holds_andW hc).1;rw[hn] at h4;exact h4
  have h5:=condW_of h4 (w_not (w_lt w_lit (w_len_list (w_arg rfl))));rw[Zf] at h5;refine Nat.le_of_not_lt fun q=>?_;have q':(n:Int) < ((ns.length:Nat):Int):=by omega
  first
   | (rw[Ze q'] at h5;exact absurd h5 (by decide))
   | (simp at h5;omega)
 cases hwl with
 | cons w1 w2=>
  cases w2;cases w1 with
  | list ho hall=>exact⟨_,_,ns,rfl,rfl,ho,Rn ns _ hall,hlen⟩
theorem Zda(l:OpenLaw)(args:List WData):l.row.toRowW.claim.post args (.bool true) args=true:=
 postW_of (r:=l.row.toRowW) (X:=(true == true))
  (show WShape.has [] (.bool true) .bool=true by first | rfl | decide | simp [WShape.has,WShape.arms,WShape.armsAll])
  (show(WTm.eq .res (.lit (.bool true))).value [] { args:=args,res:=some (.bool true),after:=args }=some (.bool (true == true)) from w_eq_bool (w_res rfl) w_lit) rfl
theorem attach_call{l:OpenLaw}{n:Nat}{q:Program}{loose:List Str}{XP:(Str→Option Value)→Heap→Prop}{YP:World→Heap→Prop}{d:DefRec}
  (hn:l.most=some n) (hdf:d.params.defaults=[])
  (call:∀(w:World) (s₀ s₁:Shared) (mg mb:Str→Option Value) (fa:Addr) (o:Obj) (pm cd doc:Value) (a:Addr) (vs:List Value) (ns:List Int),
   Ground q loose [] XP w s₀ mg mb s₁.heap→YP w s₁.heap →
   s₁.heap.get? fa=some o→o.data = .func (docDef d.name d.params d.body d.scope pm cd doc)→s₁.heap.CodeRec cd d.name→mg d.name=some (.ref fa) →
   s₁.heap.get? a=some { cls:=.type "list",data:=.seq vs.toArray }→IntsAre vs ns→ns.length≤n→s₁.gens = #[] →
   codeAny (model l.prog w) callerA (.call (.ref fa) ⟨[.ref a],[]⟩) (fun r s'=>r = .ok (.ret (.bool true))∧OldK s₁.heap s'.heap∧s'.os=s₁.os∧AllBare s'.gens) s₁) :
  WalkO q loose XP YP l.row.toRowW d [] (fun f vs=>PySem.call f vs):=by
 intro w s₀ s₁ mg mb G Y fa o pm cd doc dV kV ho hd hcd hD hmg hg args vals as hpre hlay hrd hwl hlo;obtain rfl:dV = .none:=Dflts.none hD hdf;obtain rfl:kV = .none:=Dflts.noKw hD;obtain⟨a,vs,ns,rfl,rfl,hobj,hints,hlen⟩:=Zc4 hn hpre hwl;refine enter_call (codeAny_mono (call w s₀ s₁ mg mb fa o pm cd doc a vs ns G Y ho (fd_plain hd) hcd hmg hobj hints hlen hg) fun r s' hq=>?_);obtain⟨rfl,h2,h3,h4⟩:=hq;exact⟨.inl ⟨.bool true,.bool true,[],rfl,fun _=>rfl,.bool true,Zda l _,fun _=>⟨List.Pairwise.nil,fun _ hm=>(nomatch hm)⟩⟩,h2,h3,h4⟩
section
variable{prog:Program}{w:World}{A:Around}{E:Value→Shared→Prop}{s:Shared}{K:Frag}
end
end Att
namespace L2
open PySem PySem.Spec PyProof.Rows
theorem Vh:∀{vs:List Value} {ns:List Int},IntsAre vs ns→Vals (ns.map V.int) vs
 | _,_,.nil=>.nil
 | _,_,.cons n t h=>.cons ⟨t,rfl⟩ (Vh h)
def Zoa(H:Hp):Prop:=∀ b,H b=none∨∃ o xs,H b=some (.frz o (.lst xs))
theorem Zhi{P:Program}{w:World}{K:W.Frag}{mg mb:Str→Option Value}{CX:CXT}{k:Nat}{fa a:Addr}{fd:FuncData}{x:Str}{sp:Sp}{s₁:Shared}{vs:List Value}{ns:List Int}
    (KX:K.In s₁.heap) (hns:s₁.heap.Ns mainGlobals mg) (hb:s₁.heap.Ns builtinsNs mb) (hbb:∀ x:Str,x≠"__name__"→mb x=bootBuiltins x) (hlim:s₁.heap.NoLimit) (hg:s₁.gens = #[])
    (ha:s₁.heap.get? a=some { cls:=.type "list",data:=.seq vs.toArray }) (hi:IntsAre vs ns) (hl:ns.length≤sizeLine) (hr:Room k callerA)
    (F:∀ base:Heap,K.In base→base.Ns mainGlobals mg→FnOk P w K mg base CX k fa fd [x] sp) (hbind:∀(s:Shared) (u:Value),BindsTo s fd ⟨[u],[]⟩ [(x,u)])
    (hsp:∀ H:Hp,Zoa H→SqL K H a (ns.map V.int)→sp [.ref a] H (fun v _=>v = .bl true) fun _ _ _=>False)
    (hCX:∀ H e s',CX [] H s₁ (fun _ _ _=>False) e s'→False) :
    codeAny (model P w) callerA (.call (.ref fa) ⟨[.ref a],[]⟩) (fun r s'=>r = .ok (.ret (.bool true))∧OldK s₁.heap s'.heap∧s'.os=s₁.os∧AllBare s'.gens) s₁:=by
  have rv:=Vh hi;have lenV:=hi.length;have core:∀ H:Hp,Zoa H→SqL K H a (ns.map V.int)→HOk P w H s₁.heap→(∀ b,H b≠none→b=a)→(H a≠none→K.lookup a=none) →
      codeAny (model P w) callerA (.call (.ref fa) ⟨[.ref a],[]⟩) (fun r s'=>r = .ok (.ret (.bool true))∧OldK s₁.heap s'.heap∧s'.os=s₁.os∧AllBare s'.gens) s₁:=by
    intro H hO hS hok hA hK;have base_of:∀{b:Addr} {o:Obj},s₁.heap.get? b=some o→H b=none→(Os s₁.heap H).get? b=some o:=fun e n=>Zhq e n;have noA:∀{b:Addr} {o:Obj} {es:Array DictEntry} {ep:Nat},s₁.heap.get? b=some o→o.data = .dict es ep→H b=none:=fun {b o es ep} e d=>by
      cases q:H b with
      | none=>rfl
      | some u=>
        have e':b=a:=hA b (by rw[q];simp);subst e';rw[ha] at e;cases e;have d':Data.seq vs.toArray _=Data.dict es ep:=d;cases d'
    have nsK:∀{b:Addr} {m:Str→Option Value},s₁.heap.Ns b m→(Os s₁.heap H).Ns b m:=fun {b m} ⟨o,es,ep,e,d,r⟩=>⟨o,es,ep,base_of e (noA e d),d,r⟩;have hKb:K.In (Os s₁.heap H):=fun b o e=>base_of (KX b o e) (by
      cases q:H b with
      | none=>rfl
      | some u=>
        have e':b=a:=hA b (by rw[q];simp);subst e';rw[hK (by rw[q];simp)] at e;cases e)
    have hM:Mod K mg (Os s₁.heap H):=⟨hKb,nsK hns,⟨mb,nsK hb,hbb⟩,let ⟨mc,h1,h2⟩:=hlim;⟨mc,nsK h1,h2⟩⟩;have e0:Env0 P w K mg (Os s₁.heap H) callerA [] s₁ H:=⟨rfl,hM,fun b o e=>Zkg e,Nat.le_of_eq (Zd6 _ _),trivial,fun b hb=>absurd (show b∈([]:List Addr) from hb) (by simp),hok,.of_eq hg⟩;refine codeAny_mono ((F _ hKb (nsK hns)).run callerA [] s₁ H ⟨[.ref a],[]⟩ [.ref a] [.ref a] _ _ hr e0 (hbind s₁ (.ref a)) (.cons rfl .nil) (hsp H hO hS)) fun r s' h=>?_;cases r with
    | error e=>exact(hCX H e s' h).elim
    | ok fl=>
      cases fl with
      | next=>exact False.elim h
      | brk=>exact False.elim h
      | cont=>exact False.elim h
      | ret u=>
        obtain⟨v,H',os,bare,un,hok',r',q⟩:=h;have q':v = .bl true:=q;subst q';obtain rfl:u=Value.bool true:=r';refine⟨rfl,OldK.of_keep fun b o e=>?_,os,bare⟩;cases q:H b with
        | none=>exact un.keep b o e q (by intro z;exact absurd (show b∈([]:List Addr) from z) (by simp)) (by simp)
        | some u=>
          rcases hO b with z | ⟨ob,xs,z⟩
          · rw[q] at z;cases z
          · have z2:=un.frzs b ob _ z
            obtain⟨e1,_⟩:=hok b _ z;obtain⟨e2,_⟩:=hok' b _ z2;rw[e] at e1;cases e1;exact e2
  cases hk:K.lookup a with
  | some o=>
    have e:=KX a o hk;rw[ha] at e;cases e;refine core (fun _=>none) (fun _=>.inl rfl) (.inr ⟨_,vs.toArray,_,hk,rfl,rfl,rfl,by rw[List.size_toArray,lenV];exact hl,by simpa using rv⟩) (fun b u z=>by have z':(none:Option HO)=some u:=z;cases z') (fun b z=>absurd rfl z) fun z=>absurd rfl z
  | none=>
    refine core (fun b=>if b=a then some (.frz { cls:=.type "list",data:=.seq vs.toArray } (.lst (ns.map V.int))) else none) (fun b=>?_) (.inl (.inr ⟨{ cls:=.type "list",data:=.seq vs.toArray },if_pos rfl⟩)) (fun b u z=>?_) (fun b z=>?_) fun _=>hk
    · by_cases hb:b=a
      · exact .inr ⟨_,_,if_pos hb⟩
      · exact .inl (if_neg hb)
    · by_cases hb:b=a
      · have z':=(if_pos hb).symm.trans z
        cases z';subst hb;exact⟨ha,by rw[Zf];exact hl,vs,_,rv,ha⟩
      · have z':=(if_neg hb).symm.trans z
        cases z'
    · by_cases hb:b=a
      · exact hb
      · exact absurd (if_neg hb) z
theorem walk_of{l:W.OpenLaw}{n k:Nat}{q:Program}{loose:List Str}{XP:(Str→Option Value)→Heap→Prop}{YP:World→Heap→Prop}{d:DefRec}{K:Params→W.Frag}{CX:World→CXT}{sp:World→Sp}{x:Str}
  (hn:l.most=some n) (hn2:n≤sizeLine) (hdf:d.params.defaults=[]) (hr:Room k callerA)
  (hY:∀(w:World) (h:Heap),YP w h→(K w.params).In h)
  (F:∀(w:World) (mg:Str→Option Value) (fa:Addr) (h:Heap),(K w.params).In h→h.Ns mainGlobals mg→mg d.name=some (.ref fa) →
   ∃ fd:FuncData,(∀(s:Shared) (u:Value),BindsTo s fd ⟨[u],[]⟩ [(x,u)]) ∧
    ∀ base:Heap,(K w.params).In base→base.Ns mainGlobals mg→FnOk l.prog w (K w.params) mg base (CX w) k fa fd [x] (sp w))
  (hsp:∀(w:World) (H:Hp) (a:Addr) (ns:List Int),ns.length≤n→Zoa H→SqL (K w.params) H a (ns.map V.int)→sp w [.ref a] H (fun v _=>v = .bl true) fun _ _ _=>False)
  (hCX:∀(w:World) (H:Hp) (s:Shared) (e:Value) (s':Shared),CX w [] H s (fun _ _ _=>False) e s'→False) :
  W.WalkO q loose XP YP l.row.toRowW d [] (fun f vs=>PySem.call f vs):=by
 refine Att.attach_call hn hdf fun w s₀ s₁ mg mb fa o pm cd doc a vs ns G Y ho hd hcd hmg hobj hints hlen hg=>?_;have KX:=hY w _ Y;obtain⟨fd,hb,hF⟩:=F w mg fa _ KX G.T.g hmg;exact Zhi KX G.T.g G.T.b G.T.builtins G.T.nolimit hg hobj hints (Nat.le_trans hlen hn2) hr hF hb (fun H hO hS=>hsp w H a ns hlen hO hS) fun H e s'=>hCX w H s₁ e s'
def Yo(s:Stmt)(j:Nat):Stmt:=match s with
 | .ClassDef _ _ _ body _ _ _ _ _ _ _=>body.getD j (.Pass ⟨0,0,0,0⟩)
 | _=>.Pass ⟨0,0,0,0⟩
def U6(s:Stmt):Arguments:=match s with
 | .FunctionDef _ a _ _ _ _ _ _ _ _=>a
 | _=>{ posonlyargs:=[],args:=[],vararg:=none,kwonlyargs:=[],kw_defaults:=[],kwarg:=none,defaults:=[] }
def Yz(s:Stmt):List Stmt:=match s with
 | .FunctionDef _ _ b _ _ _ _ _ _ _=>b
 | _=>[]
def Zp(s:Stmt):Scope:=match s with
 | .FunctionDef _ _ _ _ _ _ sc _ _ _=>sc
 | _=>{ kind:=.function,names:=[],isGenerator:=false,isCoroutine:=false }
abbrev Y6:CXT:=fun _ _ _ _ _ _=>False
abbrev E0:XK:=fun _ _ _=>False
theorem Jn{X:Cx}:Qp Y6 X E0:=fun _ _ _ _ _ _ _ h=>h.elim
structure Fun(K:W.Frag)(x qual:Str)(st:Stmt)(f:Addr)(fd:FuncData):Prop where
 ex:∃(oc:Value) (od:Option Addr) (kV doc pm:Value) (an:Option Addr) (cdv ct:Value) (osl:Array (Option Value)),
  fd=W.fnOf x qual (U6 st) (Yz st) (Zp st) .none kV doc pm an cdv ct∧K.lookup f=some ⟨oc,od,.func fd,osl⟩∧W.codeIn K cdv qual=true
 kp:W.keepIn K (.ref f)=true
section
variable{P:Program}{w:World}{K:W.Frag}{mg:Str→Option Value}{base:Heap}
theorem Fun.ok{x qual:Str}{st:Stmt}{f:Addr}{fd:FuncData}{N ps:List Str}{k:Nat}{sp:Sp}(F:Fun K x qual st f fd)(S:FnScope N ps (Zp st))(len:∀ vs H Q E,sp vs H Q E→vs.length=ps.length)
  (hbody:∀(cdv:Value) (A:Around) (outer:List Env) (s:Shared) (H:Hp) (vs:List V) (Q:VK) (E:XK),Room k (A.deeper (envOfC qual (Zp st) s.heap.objs.size f cdv))→sp vs H Q E →
   ∃ t,PSs (B8 Y6 P w K mg base N qual (Zp st) f cdv A outer s H E).nox (Yz st) t∧t { nx:=fun _ H'=>Q .non H',rt:=Q } (Nq N vs) H):FnOk P w K mg base Y6 (k+1) f fd ps sp:=by
 obtain⟨oc,od,kV,doc,pm,an,cdv,ct,osl,rfl,lk,hcd⟩:=F.ex;refine Zhz lk hcd S len fun A outer s H vs Q E hr hsp=>?_;obtain⟨t,h,q⟩:=hbody cdv A outer s H vs Q E hr hsp;exact⟨t,h.nox,q⟩
theorem Fun.binds{x qual:Str}{st:Stmt}{f:Addr}{fd:FuncData}{ps:List Str}(F:Fun K x qual st f fd)
  (h:∀(kV doc pm:Value) (an:Option Addr) (cdv ct:Value) (us:List Value),us.length=ps.length→bindArgs (W.fnOf x qual (U6 st) (Yz st) (Zp st) .none kV doc pm an cdv ct) ⟨us,[]⟩=pure (ps.zip us)):Binds K fd ps []:=by
 obtain⟨oc,od,kV,doc,pm,an,cdv,ct,osl,rfl,lk,hcd⟩:=F.ex;exact .all (h kV doc pm an cdv ct)
theorem fun_mk{x qual:Str}{st:Stmt}{f:Addr}{oc:Value}{od an:Option Addr}{osl:Array (Option Value)}{kV doc pm cdv ct:Value}(l:K.lookup f=some ⟨oc,od,.func (W.fnOf x qual (U6 st) (Yz st) (Zp st) .none kV doc pm an cdv ct),osl⟩)
  (c:W.codeIn K cdv qual=true) (k:W.keepIn K (.ref f)=true):Fun K x qual st f (W.fnOf x qual (U6 st) (Yz st) (Zp st) .none kV doc pm an cdv ct):=⟨⟨oc,od,kV,doc,pm,an,cdv,ct,osl,rfl,l,c⟩,k⟩
end
theorem Qb{n:Nat}(h:n≤1000):n < sizeLine:=J1 h (by decide)
section
variable{X:Cx}
theorem pv(i:Nat){x:Str}{pos:Pos}(hN:X.N[i]? = some x:=by rfl)(hv:Vis X.env.scope x:=by first | exact Or.inl rfl | exact Or.inr (Or.inl rfl) | exact Or.inr (Or.inr rfl))(hd:(x == ("__debug__":Str))=false:=by decide)
  (hcd:(x == ("__classdict__":Str))=false:=by decide):PE X (.Name x pos) (Zcz i):=Zmw hN hv hd hcd
end
theorem Yv{A B:Prop}(h:B):if false=true then A else B:=by
 rw[if_neg Zq];exact h
theorem U1{A B:Prop}(h:A):if true=true then A else B:=by
 rw[if_pos rfl];exact h
theorem N9{c A B:Prop} [Decidable c](h1:c→A)(h2:¬ c→B):if c then A else B:=by
 by_cases h:c
 ·rw[if_pos h]
  exact h1 h
 ·rw[if_neg h]
  exact h2 h
def Same(H H':Hp):Prop:=∀ b o,H b=some o→H' b=some o
theorem Same.refl(H:Hp):Same H H:=fun _ _ h=>h
theorem Same.trans{H H1 H2:Hp}(a:Same H H1)(b:Same H1 H2):Same H H2:=fun c o h=>b c o (a c o h)
theorem Same.free{H H':Hp}(e:Same H H'){l:Addr}(h:H' l=Option.none):H l=Option.none:=by
 cases q:H l with
 | none=>rfl
 | some o=>
  rw[e l o q] at h;cases h
theorem Same.seq{K:W.Frag}{H H':Hp}{a:Addr}{xs:List V}(e:Same H H')(h:SqL K H a xs):SqL K H' a xs:=by
 rcases h with(h | ⟨o,h⟩) | h
 ·exact .inl (.inl (e _ _ h))
 ·exact .inl (.inr ⟨o,e _ _ h⟩)
 ·exact .inr h
end L2
set_option maxHeartbeats 4000000
namespace L2
open PySem PySem.Spec PyProof.Rows
def Qo(env:Env):List (Str×NameKind)→List (Str×Addr)→List (Str×Addr)
 | [],acc=>acc
 | (n,k) :: r,acc=>Qo env r (if k == NameKind.free then(match env.cells.lookup n with | some c=>(n,c) :: acc | none=>acc) else acc)
theorem Kx{env:Env}{f:Str×NameKind→List (Str×Addr)→Sem (ForInStep (List (Str×Addr)))}
  (hf:∀ n k acc,f (n,k) acc=if(k == NameKind.free)=true then(do let c ← cellOf env n;pure (ForInStep.yield ((n,c) :: acc))) else pure (ForInStep.yield acc)) :
  ∀(l:List (Str×NameKind)) (acc:List (Str×Addr)),(∀ y∈l,y.2 = .free→∃ c,env.cells.lookup y.1=some c)→forIn l acc f=(pure (Qo env l acc):Sem _)
 | [],acc,_=>rfl
 | (n,k) :: r,acc,h=>by
  rw[List.forIn_cons,hf];have ih:=Kx hf r;by_cases hk:(k == NameKind.free)=true
  ·have hk':k = .free:=by simpa using hk
   obtain⟨c,hc⟩:=h (n,k) Zt hk';have e:cellOf env n=(pure c:Sem _):=by unfold cellOf;rw[hc]
   rw[if_pos hk,e,pure_bind,pure_bind];show forIn r ((n,c) :: acc) f=_;rw[ih _ fun y hy=>h y (Zu _ hy)];unfold Qo;rw[if_pos hk];have hc2:List.lookup n env.cells=some c:=hc;simp only[hc2];cases r<;>rfl
  ·rw[if_neg hk,pure_bind]
   show forIn r acc f=_;rw[ih _ fun y hy=>h y (Zu _ hy)]
   conv=>rhs;unfold Qo
   rw[if_neg hk]
theorem Zie{scope:Scope}{env:Env}(h:∀ y∈scope.names,y.2 = .free→∃ c,env.cells.lookup y.1=some c):closureFor scope env=(pure (Qo env scope.names []):Sem _):=by
 have e:closureFor scope env=(forIn scope.names ([]:List (Str×Addr)) (fun x cs=>match x with
   | (name,kind)=>if(kind == NameKind.free)=true then(do let c ← cellOf env name;pure (ForInStep.yield ((name,c) :: cs))) else pure (ForInStep.yield cs)) >>= fun cs=>pure cs):=rfl
 rw[e,Kx (env:=env) (fun n k acc=>rfl) scope.names [] h];rfl
theorem Xl{env:Env}:∀{l:List (Str×NameKind)} {acc:List (Str×Addr)},(∀ x c,acc.lookup x=some c→env.cells.lookup x=some c)→∀ x c,(Qo env l acc).lookup x=some c→env.cells.lookup x=some c
 | [],acc,h,x,c,e=>h x c e
 | (n,k) :: r,acc,h,x,c,e=>by
  unfold Qo at e;refine Xl (l:=r) (fun y d hd=>?_) x c e;by_cases hk:(k == NameKind.free)=true
  ·rw[if_pos hk] at hd
   cases hc:env.cells.lookup n with
   | none=>rw[hc] at hd;exact h y d hd
   | some c'=>
    rw[hc] at hd;simp only[List.lookup_cons] at hd;by_cases hy:(y == n)=true
    ·rw[hy] at hd
     have e1:y=n:=by simpa using hy
     cases hd;rw[e1];exact hc
    ·have hy':(y == n)=false:=by simpa using hy
     rw[hy'] at hd;exact h y d hd
  ·rw[if_neg hk] at hd;exact h y d hd
theorem Zcn{env:Env}:∀{l:List (Str×NameKind)} {acc:List (Str×Addr)} {x:Str},(acc.lookup x).isSome=true→((Qo env l acc).lookup x).isSome=true
 | [],acc,x,h=>h
 | (n,k) :: r,acc,x,h=>by
  unfold Qo;refine Zcn (l:=r) ?_;by_cases hk:(k == NameKind.free)=true
  ·rw[if_pos hk]
   cases hc:env.cells.lookup n with
   | none=>exact h
   | some c'=>
    simp only[List.lookup_cons];by_cases hy:(x == n)=true
    ·rw[hy];rfl
    ·have hy':(x == n)=false:=by simpa using hy
     rw[hy'];exact h
  ·rw[if_neg hk];exact h
theorem Tu{env:Env}:∀{l:List (Str×NameKind)} {acc:List (Str×Addr)} {x:Str} {c:Addr},(x,NameKind.free)∈l→env.cells.lookup x=some c→((Qo env l acc).lookup x).isSome=true
 | (n,k) :: r,acc,x,c,hm,hc=>by
  unfold Qo;rcases List.mem_cons.mp hm with e | hm
  ·cases e
   rw[if_pos (by rfl)];rw[hc];refine Zcn ?_;simp
  ·exact Tu hm hc
theorem N2{env:Env}:∀{names:List (Str×NameKind)} {x:Str} {k:NameKind},(∀ y∈names,y.2 ≠ .cell) →
  (names.map fun(n,k)=>if(k == NameKind.free && env.scope.kind == .function && env.kindOf n == some .cell) then(n,NameKind.cell) else(n,k)).lookup x=some k→(k = .cell∨k = .free)→(x,NameKind.free)∈names
 | [],_,_,_,h,_=>by simp at h
 | (n,j) :: r,x,k,hn,h,hk=>by
  rw[List.map_cons] at h;cases hx:x == n with
  | true=>
   have hxe:x=n:=by simpa using hx
   subst hxe;by_cases hc:(j == NameKind.free && env.scope.kind == .function && env.kindOf x == some .cell)=true
   ·have hj:j = .free:=by
     simp only[Bool.and_eq_true] at hc
     simpa using hc.1.1
    subst hj;exact Zt
   ·rw[show(match ((x,j):Str×NameKind) with | (n,k)=>if(k == NameKind.free && env.scope.kind == .function && env.kindOf n == some .cell)=true then(n,NameKind.cell) else(n,k))=(x,j) from if_neg hc] at h
    simp only[List.lookup_cons,beq_self_eq_true] at h;cases h;rcases hk with e | e
    ·exact absurd e (hn (x,j) Zt)
    ·rw[e];exact Zt
  | false=>
   refine Zu _ (N2 (env:=env) (fun y hy=>hn y (Zu _ hy)) ?_ hk);by_cases hc:(j == NameKind.free && env.scope.kind == .function && env.kindOf n == some .cell)=true
   ·rw[show(match ((n,j):Str×NameKind) with | (n,k)=>if(k == NameKind.free && env.scope.kind == .function && env.kindOf n == some .cell)=true then(n,NameKind.cell) else(n,k))=(n,NameKind.cell) from if_pos hc] at h
    simp only[List.lookup_cons,hx] at h;exact h
   ·rw[show(match ((n,j):Str×NameKind) with | (n,k)=>if(k == NameKind.free && env.scope.kind == .function && env.kindOf n == some .cell)=true then(n,NameKind.cell) else(n,k))=(n,j) from if_neg hc] at h
    simp only[List.lookup_cons,hx] at h;exact h
theorem Ef{env:Env}:∀{names:List (Str×NameKind)} {x:Str},names.lookup x=some .free →
  (names.map fun(n,k)=>if(k == NameKind.free && env.scope.kind == .function && env.kindOf n == some .cell) then(n,NameKind.cell) else(n,k)).lookup x=some .cell ∨
  (names.map fun(n,k)=>if(k == NameKind.free && env.scope.kind == .function && env.kindOf n == some .cell) then(n,NameKind.cell) else(n,k)).lookup x=some .free
 | [],_,h=>by simp at h
 | (n,j) :: r,x,h=>by
  rw[List.map_cons];cases hx:x == n with
  | true=>
   simp only[List.lookup_cons,hx] at h;cases h;by_cases hc:(NameKind.free == NameKind.free && env.scope.kind == .function && env.kindOf n == some .cell)=true
   ·refine .inl ?_
    rw[show(match ((n,NameKind.free):Str×NameKind) with | (n,k)=>if(k == NameKind.free && env.scope.kind == .function && env.kindOf n == some .cell)=true then(n,NameKind.cell) else(n,k))=(n,NameKind.cell) from if_pos hc];simp only[List.lookup_cons,hx]
   ·refine .inr ?_
    rw[show(match ((n,NameKind.free):Str×NameKind) with | (n,k)=>if(k == NameKind.free && env.scope.kind == .function && env.kindOf n == some .cell)=true then(n,NameKind.cell) else(n,k))=(n,NameKind.free) from if_neg hc];simp only[List.lookup_cons,hx]
  | false=>
   simp only[List.lookup_cons,hx] at h;have ih:=Ef (env:=env) h;by_cases hc:(j == NameKind.free && env.scope.kind == .function && env.kindOf n == some .cell)=true
   ·rw[show(match ((n,j):Str×NameKind) with | (n,k)=>if(k == NameKind.free && env.scope.kind == .function && env.kindOf n == some .cell)=true then(n,NameKind.cell) else(n,k))=(n,NameKind.cell) from if_pos hc]
    simp only[List.lookup_cons,hx];exact ih
   ·rw[show(match ((n,j):Str×NameKind) with | (n,k)=>if(k == NameKind.free && env.scope.kind == .function && env.kindOf n == some .cell)=true then(n,NameKind.cell) else(n,k))=(n,j) from if_neg hc]
    simp only[List.lookup_cons,hx];exact ih
theorem Ei{x:Str}{k:NameKind}:∀{l:List (Str×NameKind)},l.lookup x=some k→(x,k)∈l
 | [],h=>by simp at h
 | (n,j) :: r,h=>by
  cases hx:x == n with
  | true=>
   simp only[List.lookup_cons,hx] at h;cases h;have e:x=n:=by simpa using hx
   rw[e];exact Zt
  | false=>
   simp only[List.lookup_cons,hx] at h;exact Zu _ (Ei h)
def blk(X:Cx)(N:List Str)(scope:Scope)(C:Addr)(s₀:Shared)(H₀:Hp)(ex:List Addr)(xe:Value→Shared→Prop):Cx:=
 { X with N:=N,s₀:=s₀,H₀:=H₀,env:=compEnvC scope (Qo X.env scope.names []) C X.env,outer:=X.stack,stack:=X.stack,ex:=ex,fn:=fun _=>false,pn:=[],xe:=xe }
structure Blk(X:Cx)(N:List Str)(caps:List (Option Nat))(scope:Scope):Prop where
 kind:scope.kind = .function
 nocell:∀ y∈scope.names,y.2 ≠ .cell
 names:∀ y∈scope.names,y.2 = .local→scope.names.lookup y.1=some .local
 free:∀ y∈scope.names,y.2 = .free→X.env.kindOf y.1=some .cell∨X.env.kindOf y.1=some .free
 len:caps.length=N.length
 cap:∀(i j:Nat) (x:Str),caps[i]? = some (some j)→N[i]? = some x→X.N[j]? = some x∧Vis X.env.scope x∧scope.names.lookup x=some .free
def Nf(caps:List (Option Nat))(σ:St):St:=caps.map fun c=>match c with | some j=>(σ[j]?).join | none=>none
section
variable{X:Cx}{pins:List (Addr×Obj)}{σ:St}{H:Hp}{s:Shared}
theorem Zn2{N:List Str}{caps:List (Option Nat)}{scope:Scope}{fp:List Addr}{xe:Value→Shared→Prop}(B:Blk X N caps scope)(I:Inv X pins σ H s)(hlt:∀ b∈fp,b < s.heap.objs.size)(hf:∀ b∈fp,Bc X pins H b) :
  (blk X N scope s.heap.objs.size s H fp xe).Ok where
 mod:=I.ok.mod
 kind:=B.kind
 glob:=I.ok.glob
 blt:=I.ok.blt
 above:=Nat.le_refl _
 inj:=fun x y c hx hy=>I.ok.inj x y c (Xl (fun _ _ e=>by simp at e) x c hx) (Xl (fun _ _ e=>by simp at e) y c hy)
 has:=fun x hk=>by
  have hm:(x,NameKind.free)∈scope.names:=hk.elim (fun e=>N2 B.nocell e (.inl rfl)) fun e=>N2 B.nocell e (.inr rfl);obtain⟨c,hc⟩:=I.ok.has x (B.free _ hm rfl);exact Option.isSome_iff_exists.mp (Tu hm hc)
 cab:=fun x c h _=>by cases h
 hd:=I.ok.hd
 frames:=I.ok.frames
 stk:=.inl rfl
 exf:=fun b hb=>⟨Nat.ne_of_lt (hlt b hb),fun x c hc=>(hf b hb).2.2.2.2.1 x c (Xl (fun _ _ e=>by simp at e) x c hc)⟩
 bs:=I.bs
 bsz:=Nat.le_trans I.ok.bsz I.sz
 noex:=fun b o e hb=>by
  rcases(hf b hb).2.2.2.1 with h | h
  ·exact I.ok.noex b o e h
  ·exact absurd (Z0 (I.ok.bs b o e).1) (Nat.not_lt.mpr h)
 exfs:=fun b hb hs=>by
  rcases List.mem_cons.mp (I.stkSub b hs) with e | e
  ·exact(hf b hb).2.1 e
  ·exact(hf b hb).2.2.1 e
 funs:=I.stack
 frf:=I.stkFree
theorem Zla{N:List Str}{caps:List (Option Nat)}{scope:Scope}{fp:List Addr}{xe:Value→Shared→Prop}{h₁:Heap}{t':Nat}(B:Blk X N caps scope)(I:Inv X pins σ H s)(hlt:∀ b∈fp,b < s.heap.objs.size)(hf:∀ b∈fp,Bc X pins H b)
  {m:Str→Option Value} (hn:h₁.Ns s.heap.objs.size m) (hk:∀ b o,s.heap.get? b=some o→h₁.get? b=some o) :
  Inv (blk X N scope s.heap.objs.size s H fp xe) [] (Nf caps σ) H { s with heap:=h₁,toks:=t' } where
 ok:=Zn2 B I hlt hf
 os:=rfl
 bare:=I.bare
 base:=Un.kept hk
 loc:=by
  refine⟨m,hn,fun i x v hN hσ hv=>?_⟩;unfold Nf at hσ;rw[Zl] at hσ;cases hc:caps[i]? with
  | none=>rw[hc] at hσ;cases hσ
  | some oj=>
   rw[hc] at hσ;cases oj with
   | none=>cases hσ
   | some j=>
    have hσ':(σ[j]?).join=some v:=Zr hσ;have hj:σ[j]? = some (some v):=by
     cases q:σ[j]? with
     | none=>rw[q] at hσ';cases hσ'
     | some o=>rw[q] at hσ';have:o=some v:=hσ';rw[this]
    obtain⟨hNj,hVis,hfr⟩:=B.cap i j x hc hN;obtain⟨m',_,hl⟩:=I.loc;obtain⟨u,ru,lk⟩:=hl j x v hNj hj hVis;have hm:=Ei hfr;have hkX:=B.free _ hm rfl;refine⟨u,ru,.inr ⟨Ef hfr,?_⟩⟩;rcases lk with⟨e,_⟩ | ⟨_,c,hc1,hc2⟩
    ·rcases hkX with e' | e'
     ·rw[e] at e';cases e'
     ·rw[e] at e';cases e'
    ·obtain⟨c',hc'⟩:=Option.isSome_iff_exists.mp (Tu (env:=X.env) (acc:=[]) hm hc1)
     have h2:=Xl (fun _ _ e=>by simp at e) x c' hc';rw[hc1] at h2;cases h2;exact⟨c,hc',hc2.keeps hk⟩
 cell:=fun x c hc=>by
  obtain⟨v,hv⟩:=I.cell x c (Xl (fun _ _ e=>by simp at e) x c hc);exact⟨v,hv.keeps hk⟩
 free:=I.hok.fresh (Nat.le_refl _)
 freeC:=fun x c hc=>I.freeC x c (Xl (fun _ _ e=>by simp at e) x c hc)
 pin:=fun p hp=>by cases hp
 hok:=I.hok.kept hk
 len:=by unfold Nf;rw[Zf];exact B.len
end
section
variable{prog:Program}{w:World}{A:Around}{R:Result→Shared→Prop}{s:Shared}
abbrev Zbe(ifs:List Expr)(env:Env):Sem Bool:=forIn ifs true fun c r=>if r=true then do let ok ← isTrue c env (eval c env);pure (ForInStep.yield ok) else pure (ForInStep.yield r)
theorem M2{elt target iter:Expr}{ifs:List Expr}{scope:Scope}{pos:Pos}{it acc:Value}{env:Env}(I:Nat→Shared→Prop)
  (turn:∀ n s,I n s→wpAny (model prog w) A (pyNext it) (fun r s₁=>match r with
   | none=>R (.ok .next) s₁
   | some v=>wpAny (model prog w) A (letOwnedTupleGo target it v) (fun _ s₁'=>wpAny (model prog w) A (assign target env v) (fun _ s₂=>
     wpAny (model prog w) A (Zbe ifs env) (fun ok s₃=>
      if ok=true then wpAny (model prog w) A (eval elt env) (fun x s₄=>
       wpAny (model prog w) A (call (.builtin "list.append") [acc,x]) (fun _ s₅=>∃ m,m < n∧I m s₅) (notedBy (model prog w) A env fun e s'=>R (.error e) s') s₄) (notedBy (model prog w) A env fun e s'=>R (.error e) s') s₃
      else ∃ m,m < n∧I m s₃) (notedBy (model prog w) A env fun e s'=>R (.error e) s') s₂) (notedBy (model prog w) A env fun e s'=>R (.error e) s') s₁') (notedBy (model prog w) A env fun e s'=>R (.error e) s') s₁) (notedBy (model prog w) A env fun e s'=>R (.error e) s') s)
  (n:Nat) (h:I n s):codeAny (model prog w) A (.compLoop (.ListComp elt [⟨target,iter,ifs,0⟩] scope pos) 0 it acc env) R s:=by
 refine codeAny_loop rfl I (fun n s hI=>?_) n h;show wpAny _ A ((compTurn (.ListComp elt [⟨target,iter,ifs,0⟩] scope pos) 0 it acc env).onRaise (fun x=>do noteFrame x env;theTreesLotGoes x)) _ _ s;refine wpAny_noted ?_;rw[compTurn_list];refine Zc (wpAny_standAt (Zc (wpAny_mono (turn n s hI) (fun r s₁ h₁=>?_) fun _ _ h'=>h')));cases r with
 | none=>exact wpAny_pure h₁
 | some v=>
  refine Zc (wpAny_mono h₁ (fun _ s₁' h₁'=>?_) fun _ _ h'=>h');refine Zc (wpAny_mono h₁' (fun _ s₂ h₂=>Zc (wpAny_mono h₂ (fun ok s₃ h₃=>?_) fun _ _ h'=>h')) fun _ _ h'=>h');cases ok with
  | false=>exact wpAny_pure ⟨rfl,h₃⟩
  | true=>
   exact Zc (Zc (wpAny_mono h₃ (fun x s₄ h₄=>Zc (wpAny_mono h₄ (fun _ s₅ h₅=>wpAny_pure (wpAny_pure ⟨rfl,h₅⟩)) fun _ _ h'=>h')) fun _ _ h'=>h'))
end
def PF(X:Cx)(ifs:List Expr)(t:TT):Prop:=
 ∀(pins:List (Addr×Obj)) (s:Shared) (σ:St) (H:Hp) (Q:Bool→Hp→Prop),Inv X pins σ H s→t σ H Q→wpAny (model X.prog X.w) X.A (Zbe ifs X.env) (TP X pins σ Q) X.xe s
def Ad:TT:=fun _ H Q=>Q true H
theorem Uj{X:Cx}:PF X [] Ad:=fun pins s σ H Q I h=>wpAny_tests_nil ⟨H,I,h⟩
theorem N5{X:Cx}{c:Expr}{t:TT}(h:PT X c t):PF X [c] t:=fun pins s σ H Q I q=>wpAny_tests_one (h pins s σ H Q I q)
def Xr(g:TG)(tt:TT)(te:TE)(σ0:St)(J:It)(H1:Hp)(Q:V→Hp→Prop):Prop:=
 ∀ l,H1 l=none→∃ W:Nat→Nat→St→Hp→Prop,(∃ m,W 0 m σ0 (upd H1 l (.lst [])))∧∀ i m σ H,W i m σ H →
  (J.stop i H∧Q (.ref l) H)∨(J.go i H∧∀ x H',J.yld i H x H'→g x σ H' fun σ2 H2=>tt σ2 H2 fun c H3=>
   if c=true then te σ2 H3 fun v H4=>∃ xs,H4 l=some (.lst xs)∧xs.length < sizeLine∧∃ m',m' < m∧W (i+1) m' σ2 (upd H4 l (.lst (xs++[v])))
   else ∃ m',m' < m∧W (i+1) m' σ2 H3)
def Ze6(caps:List (Option Nat))(wi:TI)(g:TG)(tt:TT)(te:TE):TE:=fun σ H Q=>wi σ H fun J H1=>Xr g tt te (Nf caps σ) J H1 Q
structure Loose(X:Cx)(pins:List (Addr×Obj))(H:Hp)(C:Addr):Prop where
 un:H C=none
 loc:C≠X.env.locals
 ab:X.s₀.heap.objs.size≤C
 cel:∀ x c,X.env.cells.lookup x=some c→c≠C
 pin:∀ p∈X.pn++pins,p.1≠C
section
variable{X:Cx}{pins:List (Addr×Obj)}{σ:St}{H:Hp}{s:Shared}
def Zqy(X:Cx)(N:List Str)(scope:Scope)(use:Option (Value→Sem Unit))(Q:Value→Shared→Prop)(acc:Value)(C:Addr):Value→Shared→Prop:=
 notedBy (model X.prog X.w) X.A (compEnvC scope (Qo X.env scope.names []) C X.env) fun e s'=>compPost (model X.prog X.w) X.A X.xe use Q acc C (.error e) s'
theorem M3{tg elt iter:Expr}{ifs:List Expr}{scope:Scope}{pos pos':Pos}{N:List Str}{caps:List (Option Nat)}{wi:TI}{g:TG}{tt:TT}{te:TE}{use:Option (Value→Sem Unit)}{Q:Value→Shared→Prop}{Qv:V→Hp→Prop}
  {xe:Value→Shared→Prop} (hc:X.calm=true) (B:Blk X N caps scope) (hi:PI X tg iter wi)
  (hg:∀ C s₀ H₀ ex,PG (blk X N scope C s₀ H₀ ex xe) tg g) (ht:∀ C s₀ H₀ ex,PF (blk X N scope C s₀ H₀ ex xe) ifs tt) (he:∀ C s₀ H₀ ex,PE (blk X N scope C s₀ H₀ ex xe) elt te)
  (I:Inv X pins σ H s) (h:wi σ H fun J H1=>Xr g tt te (Nf caps σ) J H1 Qv)
  (fin:∀ l C H' s5,Inv X pins σ H' s5→(∃ m,s5.heap.Ns C m)→Loose X pins H' C→Qv (.ref l) H'→compPost (model X.prog X.w) X.A X.xe use Q (.ref l) C (.ok .next) s5)
  (hx:∀ acc C e s',xe e s'→Zqy X N scope use Q acc C e s')
  (hs:∀ x,foldedSetIterable iter X.env x=pure x:=by intro _;rfl) :
  wpAny (model X.prog X.w) X.A (comprehension (.ListComp elt [⟨tg,iter,ifs,0⟩] scope pos) scope X.env pos' (newList []) false (eval iter X.env) use) Q X.xe s:=by
 have hclos:closureFor scope X.env=(pure (Qo X.env scope.names []):Sem _):=Zie fun y hy hf=>I.ok.has y.1 (B.free y hy hf);refine wpAny_comprehension_free rfl hs hclos B.kind B.names (Y1 (hi pins s σ H _ I h) fun v s1 h1=>Y1 h1 fun itv s2 h2=>?_);obtain⟨it,fp,tn,J,H2,e,I2,T,st2,f2,hJ⟩:=h2;subst e;have I3:Inv X pins σ (upd H2 s2.heap.objs.size (.lst [])) { s2 with heap:=s2.heap.push { cls:=.type "list",data:=.seq ([]:List Value).toArray },toks:=s2.toks }:=I2.lnew (ys:=[]) (its:=[]) .nil (Nat.zero_le _);have hfr2:H2 s2.heap.objs.size=none:=I2.fresh;obtain⟨W,⟨m0,w0⟩,turn⟩:=hJ s2.heap.objs.size hfr2;refine wpAny_newList ?_;generalize hs3:({ s2 with heap:=s2.heap.push { cls:=.type "list",data:=.seq ([]:List Value).toArray } }:Shared)=s3;have es3:({ s2 with heap:=s2.heap.push { cls:=.type "list",data:=.seq ([]:List Value).toArray },toks:=s2.toks }:Shared)=s3:=hs3;rw[es3] at I3;have keep3:∀ b o,s2.heap.get? b=some o→s3.heap.get? b=some o:=fun b o e=>by rw[← hs3];exact Zi _ e
 have fpo:∀ b∈fp,∃ o,s2.heap.get? b=some o∧∀ v,o.data ≠ .cell v:=T.obj _ _ st2;have hlt2:∀ b∈fp,b < s2.heap.objs.size:=fun b hb=>by obtain⟨o,e,_⟩:=fpo b hb;exact Z0 e
 have hlt3:∀ b∈fp,b < s3.heap.objs.size:=fun b hb=>by obtain⟨o,e,_⟩:=fpo b hb;exact Z0 (keep3 b o e)
 have hf3:∀ b∈fp,Bc X pins (upd H2 s2.heap.objs.size (.lst [])) b:=fun b hb=>⟨by rw[Jf (Nat.ne_of_lt (hlt2 b hb))];exact(f2 b hb).1,(f2 b hb).2⟩;refine wpAny_newFunctionEnv B.nocell (by intro y hy;simp at hy) (fun h₁ hns₁ hsb₁=>?_) B.kind
 try dsimp only at hns₁ hsb₁ ⊢
 have keep4:∀ b o,s3.heap.get? b=some o→h₁.get? b=some o:=fun b o e=>hsb₁.extBut b o (Nat.ne_of_lt (Z0 e)) (Zi _ e);have I4:∀ t',Inv (blk X N scope s3.heap.objs.size s3 (upd H2 s2.heap.objs.size (.lst [])) fp xe) [] (Nf caps σ) (upd H2 s2.heap.objs.size (.lst [])) { s3 with heap:=h₁,toks:=t' }:=fun t'=>Zla B I3 hlt3 hf3 hns₁ keep4;generalize hY:blk X N scope s3.heap.objs.size s3 (upd H2 s2.heap.objs.size (.lst [])) fp xe=Y at I4;have Yp:Y.prog=X.prog:=by rw[← hY];rfl
 have Yw:Y.w=X.w:=by rw[← hY];rfl
 have YK:Y.K=X.K:=by rw[← hY];rfl
 have Yc:Y.calm=true:=by rw[← hY];exact hc
 have YA:Y.A=X.A:=by rw[← hY];rfl
 have Yx:Y.xe=xe:=by rw[← hY];rfl
 have Ye:Y.env=compEnvC scope (Qo X.env scope.names []) s3.heap.objs.size X.env:=by rw[← hY];rfl
 have hgY:PG Y tg g:=by rw[← hY];exact hg _ _ _ _
 have htY:PF Y ifs tt:=by rw[← hY];exact ht _ _ _ _
 have heY:PE Y elt te:=by rw[← hY];exact he _ _ _ _
 have stat:∀{H':Hp},(∀ b∈fp,H' b=none)→∀ b∈fp,Bc Y [] H' b:=fun {H'} hn b hb=>by
  refine⟨hn b hb,?_,?_,.inl (by rw[← hY];exact hb),?_,?_⟩
  ·rw[Ye];exact Nat.ne_of_lt (hlt3 b hb)
  ·intro hm
   rw[← hY] at hm;rcases List.mem_cons.mp (I3.stkSub b hm) with e | e
   ·exact(f2 b hb).2.1 e
   ·exact(f2 b hb).2.2.1 e
  ·intro x c hcl
   rw[Ye] at hcl;exact(f2 b hb).2.2.2.2.1 x c (Xl (fun _ _ e=>by simp at e) x c hcl)
  ·intro p hp
   rw[← hY] at hp;cases hp
 have st4:tn 0 h₁:=T.keep _ _ _ st2 fun b hb o e=>keep4 b o (keep3 b o e);have toX:∀ e s',xe e s'→notedBy (model X.prog X.w) X.A (compEnvC scope (Qo X.env scope.names []) s3.heap.objs.size X.env) (fun e s'=>compPost (model X.prog X.w) X.A X.xe use Q (.ref s2.heap.objs.size) s3.heap.objs.size (.error e) s') e s':=fun e s' hxe=>hx _ _ e s' hxe;have loop:∀ tk,codeAny (model X.prog X.w) X.A (.compLoop (.ListComp elt [⟨tg,iter,ifs,0⟩] scope pos) 0 (.ref it) (.ref s2.heap.objs.size) (compEnvC scope (Qo X.env scope.names []) s3.heap.objs.size X.env))
   (compPost (model X.prog X.w) X.A X.xe use Q (.ref s2.heap.objs.size) s3.heap.objs.size) { s3 with heap:=h₁,toks:=tk }:=by
  intro tk;refine M2 (fun n s'=>∃ i σ' H',Inv Y [] σ' H' s'∧tn i s'.heap∧(∀ b∈fp,H' b=none)∧W i n σ' H') ?_ m0 ⟨0,_,_,I4 tk,st4,fun b hb=>(hf3 b hb).1,w0⟩;rintro n s5 ⟨i,σ5,H5,I5,st5,fr5,w5⟩;have moX:∀{α:Type} {t:Sem α} {Q1:α→Shared→Prop} {s:Shared},wpAny (model X.prog X.w) X.A t Q1 xe s→wpAny (model X.prog X.w) X.A t Q1
    (notedBy (model X.prog X.w) X.A (compEnvC scope (Qo X.env scope.names []) s3.heap.objs.size X.env) (fun e s'=>compPost (model X.prog X.w) X.A X.xe use Q (.ref s2.heap.objs.size) s3.heap.objs.size (.error e) s')) s:=
   fun h=>wpAny_mono h (fun _ _ q=>q) toX
  rcases turn i n σ5 H5 w5 with⟨stop,q⟩ | ⟨go,step⟩
  ·have z:=T.done Y Yp Yw YK Yc i [] s5 σ5 H5 xe I5 (stat fr5) st5 stop
   rw[YA] at z;refine moX (Y1 z fun r s6 ⟨hr,I6⟩=>?_);subst hr;obtain⟨m,hm,_⟩:=I6.loc;have hCn:H5 s3.heap.objs.size=none:=by have z:=I6.free;rw[Ye] at z;exact z
   have un:Un (Mw X.stack) fp (upd H2 s2.heap.objs.size (.lst [])) H5 s3.heap s6.heap:=by have z:=I6.base;rw[← hY] at z;exact z
   have hos:s6.os=s3.os:=by have z:=I6.os;rw[← hY] at z;exact z
   have hok:HOk X.prog X.w H5 s6.heap:=by have z:=I6.hok;rw[Yp,Yw] at z;exact z
   have IX:Inv X pins σ H5 s6:=I3.call' (ch:=fp) hos un hok I6.bare fun b hb=>⟨(f2 b hb).2.2.2.1,(f2 b hb).2.1,(f2 b hb).2.2.2.2.1,(f2 b hb).2.2.2.2.2⟩;refine fin _ _ H5 s6 IX ⟨m,by rw[Ye] at hm;exact hm⟩ ⟨hCn,?_,I3.sz,?_,?_⟩ q
   ·exact Nat.ne_of_gt I3.lt
   ·intro x c hcl
    obtain⟨v,hv⟩:=I3.cell x c hcl;exact Nat.ne_of_lt hv.lt
   ·intro p hp
    exact Nat.ne_of_lt (Z0 (I3.pin p hp).1)
  ·have z:=T.item Y Yp Yw YK Yc i [] s5 σ5 H5 xe I5 (stat fr5) st5 go
   rw[YA] at z;refine moX (Y1 z fun r s6 ⟨u,hr,h6⟩=>?_);subst hr;refine moX (Y1 h6 fun _ s7 ⟨x,H7,I7,r7,y7,st7,fr7⟩=>?_);have I7':=I7.pinned (stat fr7) (T.obj _ _ st7);have hN:=step x H7 y7;have again:∀{σ':St} {H':Hp} {s':Shared} {m':Nat},m' < n→Inv Y ([]++Vt fp s7.heap) σ' H' s'→W (i+1) m' σ' H'→∃ m,m < n∧∃ i σ'' H'',Inv Y [] σ'' H'' s'∧tn i s'.heap∧(∀ b∈fp,H'' b=none)∧W i m σ'' H'':=fun {σ' H' s' m'} hm I' w'=>by
    refine⟨m',hm,i+1,σ',H',I'.unpinned,T.keep _ _ _ st7 fun b hb o e=>(I'.pin (b,o) (List.mem_append_right _ (List.mem_append_right _ (Xu hb e)))).1,fun b hb=>?_,w'⟩;obtain⟨o,e,d⟩:=T.obj _ _ st7 b hb;exact(I'.pin (b,o) (List.mem_append_right _ (List.mem_append_right _ (Xu hb e)))).2.1
   have z:=hgY _ s7 σ5 H7 x u _ I7' r7 hN;rw[Yp,Yw,YA,Ye,Yx] at z;refine moX (Y1 z fun _ s8 ⟨σ8,H8,I8,q8⟩=>?_);have z:=htY _ s8 σ8 H8 _ I8 q8;rw[Yp,Yw,YA,Ye,Yx] at z;refine moX (Y1 z fun ok s9 ⟨H9,I9,q9⟩=>?_);cases ok with
   | false=>
    obtain⟨m',hm,w'⟩:=q9;exact again hm I9 w'
   | true=>
    have q9':te σ8 H9 fun v H4=>∃ xs,H4 s2.heap.objs.size=some (.lst xs)∧xs.length < sizeLine∧∃ m',m' < n∧W (i+1) m' σ8 (upd H4 s2.heap.objs.size (.lst (xs++[v]))):=q9;have z:=heY _ s9 σ8 H9 _ I9 q9';rw[Yp,Yw,YA,Ye,Yx] at z;refine moX (Y1 z fun u10 s10 ⟨v10,H10,I10,r10,q10⟩=>?_);obtain⟨xs,hl,hz,m',hm,w'⟩:=q10;have ap:=Qe (X:=Y) _ s10 σ8 H10 (.ref s2.heap.objs.size) [v10] (.ref s2.heap.objs.size) [u10] (fun _ H'=>W (i+1) m' σ8 H') I10 rfl (.cons r10 .nil) ⟨_,xs,v10,rfl,rfl,hl,hz,w'⟩;rw[Yp,Yw,YA,Yx] at ap;refine moX (Y1 ap fun _ s11 ⟨_,H11,I11,_,w11⟩=>again hm I11 w11)
 exact codeAny_compStart_list (loop _) (T.self _ 0 _ _ _ st4 (loop _))
theorem Y7{tg elt iter:Expr}{ifs:List Expr}{scope:Scope}{pos:Pos}(N:List Str)(caps:List (Option Nat)){wi:TI}{g:TG}{tt:TT}{te:TE}(hc:X.calm=true)(B:Blk X N caps scope)(hi:PI X tg iter wi)
  (hg:∀ C s₀ H₀ ex,PG (blk X N scope C s₀ H₀ ex fun _ _=>False) tg g) (ht:∀ C s₀ H₀ ex,PF (blk X N scope C s₀ H₀ ex fun _ _=>False) ifs tt) (he:∀ C s₀ H₀ ex,PE (blk X N scope C s₀ H₀ ex fun _ _=>False) elt te)
  (hs:∀ x,foldedSetIterable iter X.env x=pure x:=by intro _;rfl):PE X (.ListComp elt [⟨tg,iter,ifs,0⟩] scope pos) (Ze6 caps wi g tt te):=by
 intro pins s σ H Q I h;rw[eval_ListComp];refine M3 (use:=none) (Qv:=Q) hc B hi hg ht he I h (fun l C H' s5 I5 ⟨m,hm⟩ lo q=>?_) (fun _ _ _ _ f=>f.elim) hs;refine⟨m,hm,fun h' hs'=>⟨.ref l,H',?_,rfl,q⟩⟩;exact I5.turned (it:=C) (t':=s5.toks) (fun b o hb e=>hs'.extBut b o hb e) lo.un lo.loc (.inr lo.ab) lo.cel lo.pin
theorem U9{i:Nat}{x:Str}{pos':Pos}{tg elt iter:Expr}{ifs:List Expr}{scope:Scope}{pos spos:Pos}(N:List Str)(caps:List (Option Nat)){wi:TI}{g:TG}{tt:TT}{te:TE}(hc:X.calm=true)
  (hN:X.N.Nodup) (hi':X.N[i]? = some x) (hx:Loc X.env.scope x) (B:Blk X N caps scope) (hi:PI X tg iter wi)
  (hg:∀ C s₀ H₀ ex,PG (blk X N scope C s₀ H₀ ex fun _ _=>False) tg g) (ht:∀ C s₀ H₀ ex,PF (blk X N scope C s₀ H₀ ex fun _ _=>False) ifs tt) (he:∀ C s₀ H₀ ex,PE (blk X N scope C s₀ H₀ ex fun _ _=>False) elt te)
  (hsw:swapsWith (.ListComp elt [⟨tg,iter,ifs,0⟩] scope pos) (some (.Name x pos')) spos.line X.env=pure true:=by rfl)
  (hs:∀ x,foldedSetIterable iter X.env x=pure x:=by intro _;rfl) (hf:X.fn x=true∨X.env.scope.names.lookup x=some .local:=by first | exact .inl rfl | exact .inr rfl | assumption) :
  PS X (.Assign [.Name x pos'] (.ListComp elt [⟨tg,iter,ifs,0⟩] scope pos) spos) (Zc0 (Ze6 caps wi g tt te) (Uv i)):=by
 intro pins s σ H D I h;rw[exec_Assign_Name_used _ _ _ _ hsw];refine Zc (wpAny_standAt (Zc ?_));show wpAny _ X.A (do let _ ← comprehension (.ListComp elt [⟨tg,iter,ifs,0⟩] scope pos) scope X.env _ (newList []) false (eval iter X.env) (some (assign (.Name x pos') X.env))) _ _ s;refine Zc (wpAny_mono (M3 (use:=some (assign (.Name x pos') X.env)) (Q:=fun _ s'=>SP X pins D .next s') (Qv:=fun v H1=>Uv i v σ H1 D.nx) hc B hi hg ht he I h (fun l C H' s5 I5 ⟨m,hm⟩ lo q=>?_) (fun _ _ _ _ f=>f.elim) hs)
  (fun _ s' hq=>wpAny_pure (wpAny_pure hq)) fun _ _ e=>e)
 show wpAny _ X.A (assign (.Name x pos') X.env (.ref l)) _ _ _;refine wpAny_assign_Name (Vk I5 hN hi' hx (v:=.ref l) rfl (fun s6 I6 ⟨a,sb,ha⟩=>?_) hf);have hCa:C≠a:=by
  rcases ha with e | e
  ·rw[e];exact lo.loc
  ·exact Ne.symm (lo.cel x a e)
 refine⟨m,hm.sameBut sb hCa,fun h' hs'=>⟨_,H',?_,q⟩⟩;exact I6.turned (it:=C) (t':=s6.toks) (fun b o hb e=>hs'.extBut b o hb e) lo.un lo.loc (.inr lo.ab) lo.cel lo.pin
end
section
variable{X:Cx}
def Wide(i:Int):Prop:=i.natAbs < 2 ^ 4000
theorem Ve{i:Int}(h:Wide i):Builtin.Int.intBits i≤2 ^ 20:=by
 unfold Builtin.Int.intBits;split
 ·exact Nat.zero_le _
 ·rename_i h0
  have hne:i.natAbs≠0:=by
   intro e;have:i=0:=Int.natAbs_eq_zero.mp e;rw[this] at h0;exact h0 rfl
  have hl:i.natAbs.log2 < 4000:=(Nat.log2_lt hne).mpr h;have e:(2:Nat) ^ 20=1048576:=by decide
  omega
def Zim(i j:Int):Prop:=Wide i∧Wide j
theorem Zb5:Eo X (binaryOp .Mult) (rI Zim fun i j=>.int (i * j)):=opI fun _ _ _ _ _ _ _ hc q=>mul_int q (IntMulOk.of_bits (Ve hc.1) (Ve hc.2))
def Zo3(K:W.Frag)(neg:Bool):R2:=fun x y H Q=>∃(a b:Addr) (ns ms:List Int),x = .ref a∧y = .ref b∧SqL K H a (ns.map V.int)∧SqL K H b (ms.map V.int)∧Q (.bl (if neg then !decide (ns=ms) else decide (ns=ms))) H
theorem Ue{h:Heap}{a:Addr}{its:Array Value}(p:PlainL h a its):h.IsList a its:=by
 obtain⟨o,n,e,c,_,d⟩:=p;exact⟨o,e,c,n,d⟩
theorem Zm8(hu:X.A.units+64 < cLine):Eo X (compareOp .Eq) (Zo3 X.K false):=by
 intro pins s σ H x y v u Q I rx ry h;obtain⟨a,b,ns,ms,rfl,rfl,hA,hB,q⟩:=h;cases rx;cases ry;obtain⟨ia,va,pa,_⟩:=I.list hA;obtain⟨ib,vb,pb,_⟩:=I.list hB;exact W.ke_eq_ints (Ue pa) (Ue pb) (Yq va) (Yq vb) hu ⟨.bl _,H,I,rfl,q⟩
theorem Zm6(hu:X.A.units+64 < cLine):Eo X (compareOp .NotEq) (Zo3 X.K true):=by
 intro pins s σ H x y v u Q I rx ry h;obtain⟨a,b,ns,ms,rfl,rfl,hA,hB,q⟩:=h;cases rx;cases ry;obtain⟨ia,va,pa,_⟩:=I.list hA;obtain⟨ib,vb,pb,_⟩:=I.list hB;exact W.ke_ne_ints (Ue pa) (Ue pb) (Yq va) (Yq vb) hu ⟨.bl _,H,I,rfl,q⟩
def Zqj(K:W.Frag):List V→Hp→VK→Prop:=fun xs H Q=>∃ x n t b,xs=[x,.ty n]∧TyOf K H x t∧W.kitOne K t (.type n)=some b∧Q (.bl b) H
theorem Zig:Ui X (.builtin "isinstance") (Zqj X.K):=by
 intro pins s σ H xs us Q I r h;obtain⟨x,n,t,b,rfl,ty,e,q⟩:=h;obtain⟨u,w',rfl,r1,r2⟩:=Zex r;cases r2;exact Zd4 I r1 ty e fun tk=>⟨.bl b,H,I.tok tk,rfl,q⟩
end
def Zlw(sc:Scope)(N0 N:List Str)(caps:List (Option Nat))(scope:Scope):Bool:=
 decide (scope.kind = .function) && scope.names.all (fun y=>decide (y.2 ≠ .cell)) && scope.names.all (fun y=>decide (y.2 ≠ .local) || decide (scope.names.lookup y.1=some .local)) &&
 scope.names.all (fun y=>decide (y.2 ≠ .free) || (decide (sc.names.lookup y.1=some .cell) || decide (sc.names.lookup y.1=some .free))) && decide (caps.length=N.length) &&
 (List.range caps.length).all fun i=>match caps[i]?,N[i]? with
  | some (some j),some x=>decide (N0[j]? = some x) && (decide (sc.names.lookup x=some .cell) || decide (sc.names.lookup x=some .free)) && decide (scope.names.lookup x=some .free)
  | _,_=>true
theorem Blk.by{X:Cx}{N:List Str}{caps:List (Option Nat)}{scope:Scope}{sc:Scope}{N0:List Str}(hsc:X.env.scope=sc)(hN:X.N=N0)(h:Zlw sc N0 N caps scope=true):Blk X N caps scope:=by
 unfold Zlw at h;simp only[Bool.and_eq_true,decide_eq_true_eq,List.all_eq_true,Bool.or_eq_true] at h;obtain⟨⟨⟨⟨⟨h1,h2⟩,h3⟩,h4⟩,h5⟩,h6⟩:=h;subst hsc;subst hN;refine⟨h1,h2,fun y hy e=>(h3 y hy).elim (fun z=>absurd e z) id,fun y hy e=>(h4 y hy).elim (fun z=>absurd e z) id,h5,fun i j x e1 e2=>?_⟩;have hi:i < caps.length:=(Zh.mp e1).1;have z:=h6 i (Z8.mpr hi);rw[e1,e2] at z;simp only[Bool.and_eq_true,decide_eq_true_eq,Bool.or_eq_true] at z;exact⟨z.1.1,.inr z.1.2,z.2⟩
theorem Zx{H:Hp}{p:Addr}(h:H p=none)(o:HO):Same H (upd H p o):=fun b u q=>by rw[Jf (Jv q h)];exact q
theorem Ux{H0 H:Hp}{p:Addr}(h:H0 p=none)(s:Same H0 H)(o:HO):Same H0 (upd H p o):=fun b u q=>by rw[Jf (Jv q h)];exact s b u q
theorem B9{tt:TT}{te:TE}{σ0:St}{H1:Hp}{Q:V→Hp→Prop}{J:It}(n:Nat)(xs:Nat→V)(p:Nat→Bool)(f:Nat→V)(hn:n≤sizeLine)
  (hgo:∀ i H,Same H1 H→i < n→J.go i H) (hstop:∀ H,Same H1 H→J.stop n H) (hy:∀ i H x H',Same H1 H→i < n→J.yld i H x H'→H'=H∧x=xs i)
  (hT:∀ i H,i < n→Same H1 H→∀ R:Bool→Hp→Prop,(∀ H',Same H H'→R (p i) H')→tt (σ0.set 0 (some (xs i))) H R)
  (hE:∀ i H,i < n→p i=true→Same H1 H→∀ R:V→Hp→Prop,(∀ H',Same H H'→R (f i) H')→te (σ0.set 0 (some (xs i))) H R)
  (hQ:∀ l H,Same H1 H→H1 l=none→H l=some (.lst (((List.range n).filter p).map f))→Q (.ref l) H):Xr (Uv 0) tt te σ0 J H1 Q:=by
 intro l hl;refine⟨fun i m σ H=>m=n - i∧i≤n∧Same H1 H∧H l=some (.lst (((List.range i).filter p).map f))∧∀ o,σ.set 0 o=σ0.set 0 o,⟨n,by simp,Nat.zero_le _,Zx hl _,Zn,fun _=>rfl⟩,?_⟩;rintro i m σ H ⟨rfl,hi,sm,hL,hσ⟩;by_cases hlt:i < n
 ·refine .inr ⟨hgo i H sm hlt,fun x H' y=>?_⟩
  obtain⟨rfl,rfl⟩:=hy i H x H' sm hlt y;show tt (σ.set 0 (some (xs i))) H' _;rw[hσ];refine hT i H' hlt sm _ fun H2 s2=>?_;have er:(List.range (i+1)).filter p=(List.range i).filter p++(if p i=true then [i] else []):=by
   rw[List.range_succ,List.filter_append];by_cases hp:p i=true
   ·rw[if_pos hp,List.filter_cons_of_pos hp,List.filter_nil]
   ·rw[if_neg hp,List.filter_cons_of_neg hp,List.filter_nil]
  have hσ2:∀ o,(σ0.set 0 (some (xs i))).set 0 o=σ0.set 0 o:=fun o=>List.set_set _;by_cases hp:p i=true
  ·rw[if_pos hp]
   refine hE i H2 hlt hp (sm.trans s2) _ fun H3 s3=>?_;refine⟨_,s3 _ _ (s2 _ _ hL),?_,n - (i+1),by omega,rfl,hlt,?_,?_,hσ2⟩
   ·rw[Zf]
    have:=List.length_filter_le p (List.range i);rw[Jb] at this;omega
   ·exact Ux hl (sm.trans (s2.trans s3)) _
   ·rw[Zn,er,if_pos hp,Ju]
    rfl
  ·rw[if_neg hp]
   refine⟨n - (i+1),by omega,rfl,hlt,sm.trans s2,?_,hσ2⟩;rw[er,if_neg hp,Jk];exact s2 _ _ hL
 ·have e:i=n:=by omega
  subst e;exact .inl ⟨hstop H sm,hQ l H sm hl hL⟩
theorem Za2{tt:TT}{te:TE}{σ0:St}{H1:Hp}{Q:V→Hp→Prop}{lo:Int}{n:Nat}(p:Nat→Bool)(f:Nat→V)(hn:n≤sizeLine)
  (hT:∀ i H,i < n→Same H1 H→∀ R:Bool→Hp→Prop,(∀ H',Same H H'→R (p i) H')→tt (σ0.set 0 (some (.int (lo+(i:Nat))))) H R)
  (hE:∀ i H,i < n→p i=true→Same H1 H→∀ R:V→Hp→Prop,(∀ H',Same H H'→R (f i) H')→te (σ0.set 0 (some (.int (lo+(i:Nat))))) H R)
  (hQ:∀ l H,Same H1 H→H1 l=none→H l=some (.lst (((List.range n).filter p).map f))→Q (.ref l) H):Xr (Uv 0) tt te σ0 (Itr lo n) H1 Q:=
 B9 n (fun i=>.int (lo+(i:Nat))) p f hn (fun _ _ _ h=>h) (fun _ _=>Nat.le_refl _) (fun _ _ _ _ _ _ y=>y) hT hE hQ
theorem Xx{α β:Type}(xs:List α)(p:α→Bool)(f:α→β)(d:α):((List.range xs.length).filter fun i=>p (xs.getD i d)).map (fun i=>f (xs.getD i d))=(xs.filter p).map f:=by
 have e:(List.range xs.length).map (fun i=>xs.getD i d)=xs:=by
  apply List.ext_getElem
  ·simp
  ·intro i h1 h2
   simp;rw[Za (by simpa using h2)];rfl
 have h:(((List.range xs.length).map (fun i=>xs.getD i d)).filter p).map f=((List.range xs.length).filter fun i=>p (xs.getD i d)).map (fun i=>f (xs.getD i d)):=by
  rw[List.filter_map,Z1];rfl
 rw[e] at h;exact h.symm
theorem Uf{K:W.Frag}{tt:TT}{te:TE}{σ0:St}{H1:Hp}{Q:V→Hp→Prop}{a:Addr}{xs:List V}(p:V→Bool)(f:V→V)(hS:SqL K H1 a xs)(hn:xs.length≤sizeLine)
  (hT:∀ x H,x∈xs→Same H1 H→∀ R:Bool→Hp→Prop,(∀ H',Same H H'→R (p x) H')→tt (σ0.set 0 (some x)) H R)
  (hE:∀ x H,x∈xs→p x=true→Same H1 H→∀ R:V→Hp→Prop,(∀ H',Same H H'→R (f x) H')→te (σ0.set 0 (some x)) H R)
  (hQ:∀ l H,Same H1 H→H1 l=none→H l=some (.lst ((xs.filter p).map f))→Q (.ref l) H):Xr (Uv 0) tt te σ0 (Itl K a) H1 Q:=by
 have at_:∀ i,i < xs.length→xs[i]? = some (xs.getD i .non):=fun i h=>by
  rw[Zj,Za h];rfl
 have mem:∀ i,i < xs.length→xs.getD i .non∈xs:=fun i h=>by
  have:=at_ i h;exact Zg this
 refine B9 xs.length (fun i=>xs.getD i .non) (fun i=>p (xs.getD i .non)) (fun i=>f (xs.getD i .non)) hn (fun i H sm h=>⟨xs,_,sm.seq hS,at_ i h⟩) (fun H sm=>⟨xs,sm.seq hS,Nat.le_refl _⟩)
  (fun i H x H' sm h y=>⟨y.1,?_⟩) (fun i H h sm=>hT _ H (mem i h) sm) (fun i H h hp sm=>hE _ H (mem i h) hp sm) (fun l H sm hl hL=>hQ l H sm hl ?_)
 ·have e:=y.2 xs (sm.seq hS)
  rw[at_ i h] at e;exact(Zr e).symm
 ·rw[hL,Xx]
section
variable{X:Cx}{e st:Expr}{te:TE}{ts:TO}{pos p2:Pos}
theorem Zcw{prog:Program}{w:World}{A:Around}{bs:List Bool}{its:List Value}(r:Vals (bs.map V.bl) its):TruthOf prog w A (fun i v=>its.toArray[i]? = some v) fun i=>bs.getD i true:=by
 intro i v s Q E hP hQ;have hP':its[i]? = some v:=by simpa using hP
 have hi:i < bs.length:=by
  have:=(Zh.mp hP').1;have h2:=r.length;rw[Zf] at h2;omega
 obtain⟨u,hu,ru⟩:=r.get (i:=i) (x:=.bl bs[i]) (by rw[Zl,Za hi];rfl);rw[hP'] at hu;cases hu;cases ru;have e:bs.getD i true=bs[i]:=by rw[Zj,Za hi];rfl
 have hQ':Q (bs.getD i true) s:=hQ;rw[e] at hQ';exact wpAny_truthy_bool hQ'
theorem Zeo(hc:X.calm=true):Ui X (.builtin "all") (fun xs H Q=>∃(a:Addr) (bs:List Bool),xs=[.ref a]∧SqL X.K H a (bs.map V.bl)∧Q (.bl (bs.all id)) H):=by
 intro pins s σ H xs us Q I r h;obtain⟨a,bs,rfl,hS,q⟩:=h;obtain⟨u,rfl,ru⟩:=U2 r;cases ru;obtain⟨its,ri,pl,hz⟩:=I.list hS;have hl:s.heap.IsList a its.toArray:=Ue pl;have ha:a < s.heap.objs.size:=by obtain⟨_,e,_⟩:=hl;exact Z0 e
 have hh:X.A.in1.handled=none:=I.ok.hd hc;refine call_all_walk (wpAny_pyIter_list hl ?_);refine⟨s.heap.objs.size,[s.heap.objs.size,a],[s.heap.objs.size],its.toArray.size,(fun i v=>its.toArray[i]? = some v),(fun i h=>h.IsListIter s.heap.objs.size a i∧h.IsList a its.toArray),(fun i=>bs.getD i true),rfl,Walks.list hh s.heap.objs.size a (Nat.ne_of_lt ha) its.toArray,
  ⟨⟨_,Heap.get?_push_size _ rfl,rfl,rfl⟩,hl.push _⟩,Zcw ri,fun h' tk hk=>?_⟩
 have e:(List.range its.toArray.size).all (fun i=>bs.getD i true)=bs.all id:=by
  have h2:=ri.length;rw[Zf] at h2;have h3:its.toArray.size=bs.length:=by simp [h2]
  rw[h3];have e1:(List.range bs.length).map (fun i=>bs.getD i true)=bs:=by
   apply List.ext_getElem
   ·simp
   ·intro i h1 h2
    simp;rw[Za (by simpa using h2)];rfl
  conv=>rhs;rw[← e1]
  rw[List.all_map];rfl
 rw[e];refine⟨.bl _,H,I.kept (t':=tk) fun b o eb=>hk b o ?_ (Zi _ eb),rfl,q⟩;intro hm;have:b=s.heap.objs.size:=by simpa using hm
 rw[this] at eb;exact absurd (Z0 eb) (Nat.lt_irrefl _)
end
def Zps(base:Heap)(e:Addr)(cls:Value)(od:Option Addr)(ctx fl:Value)(h:Heap):Prop:=
 ∃ oe vs T oT ts,(h.get? e=some oe∧(oe.cls=cls∧oe.dict=od)∧oe.data = .fields vs∧vs[1]? = some (.ref T)∧vs[2]? = some ctx)∧base.get? T=none∧T≠e∧h.get? T=some oT∧oT.data = .fields ts∧ts[3]? = some fl
structure FlyC(base:Heap)(l:List Env)(e:Addr)(cls:Value)(od:Option Addr)(ctx fl:Value)(h:Heap):Prop where
 stays:base.StaysIn h
 new:base.get? e=none
 frames:h.FunFrames base l
 rcd:Zps base e cls od ctx fl h
section
variable{M:Model}{A:Around}{E:Value→Shared→Prop}{s:Shared}{base:Heap}{env:Env}{outer:List Env}{L e:Addr}{cls ctx:Value}{od:Option Addr}{Q:Unit→Shared→Prop}
theorem Tp(o:Obj)(f:Array Value→Array Value):(o.mapFields f).dict=o.dict:=by
 unfold Obj.mapFields;split<;>rfl
theorem Td{h:Heap}{a:Addr}{o:Obj}{vs:Array Value}(ho:h.get? a=some o)(hd:o.data = .fields vs){b:Addr}{u:Obj}(hb:h.get? b=some u)(hn:∀ ws,u.data ≠ .fields ws):b≠a:=by
 rintro rfl;have z:=hb.symm.trans ho;cases z;exact hn vs hd
theorem Sx{h:Heap}{a:Addr}{i:Nat}{v:Value}(hk:base.StaysIn h)(ha:base.get? a=none){l:List Env}(hl:h.FunFrames base l){o:Obj}{vs:Array Value}(ho:h.get? a=some o)(hd:o.data = .fields vs) :
  let h':=h.update a (Obj.mapFields (·.setIfInBounds i v))
  base.StaysIn h'∧h'.FunFrames base l∧h.UpToSlots h'∧(∀ b,b≠a→h'.get? b=h.get? b)∧∃ o',h'.get? a=some o'∧(o'.cls=o.cls∧o'.dict=o.dict)∧o'.data = .fields (vs.setIfInBounds i v):=by
 intro h';have oth:∀ b,b≠a→h'.get? b=h.get? b:=fun b hb=>Heap.get?_update_other _ _ (Ne.symm hb);have hd':=Obj.data_mapFields hd (·.setIfInBounds i v);refine⟨fun b u hb=>?_,hl.of_keeps fun b u hb hn=>?_,fun b u hb hn=>?_,oth,_,Heap.get?_update_self _ ho (Obj.isFreed_of_fields hd'),⟨Obj.cls_mapFields _ _,Tp _ _⟩,hd'⟩
 ·rw[oth b (fun z=>by rw[z,ha] at hb;cases hb)]
  exact hk b u hb
 ·exact⟨u,(oth b (Td ho hd hb hn)).trans hb,rfl⟩
 ·exact⟨u.slots,(oth b (Td ho hd hb hn)).trans hb⟩
theorem Zh3{head:Value}{hadNext:Bool}{oe:Obj}{vs:Array Value}(hfr:A.frames=some (env :: outer))(hl:s.heap.FunFrames base (env :: outer))(hf:env.frame=some L)(hk:base.StaysIn s.heap)(hn:base.get? e=none)
  (he:s.heap.get? e=some oe) (hc:oe.cls=cls∧oe.dict=od) (hd:oe.data = .fields vs) (h2:vs[2]? = some ctx)
  (h:∀ h',FlyC base (env :: outer) e cls od ctx (rawInt L) h'→s.heap.UpToSlots h'→Q () { s with heap:=h' }) :
  wpAny M A (do let a ← frameOf env;let pl ← entryPlaceOf L hadNext;let b ← EntryCells.newEntry head a .none (rawInt L) .none pl;setField (.ref e) 1 b) Q E s:=by
 have hef:e∉(env :: outer).filterMap (·.frame):=fun hm=>by
  obtain⟨_,o,ho,hnf⟩:=hl.mem hm;exact Td he hd ho hnf rfl
 refine Zc (wpAny_frameOf_fun hfr hl hf fun g1 so=>Zc (wpAny_entryPlaceOf fun pl hpl=>?_));unfold EntryCells.newEntry;unfold newFields;refine Zc (wpAny_newObj_type ?_ (hpl.sizeOk5 _ _ _ _ _));generalize hob:({ cls:=.type "traceback",dict:=none,data:=.fields ([head,Value.ref L,.none,rawInt L,.none]++(if pl.isEmpty then List.replicate 6 Value.none else pl)).toArray }:Obj)=ob;have obd:∃ ts:Array Value,ob.data = .fields ts∧ts[3]? = some (rawInt L):=by
  rw[← hob];refine⟨_,rfl,?_⟩;simp
 have e1:g1.get? e=some oe:=(so.2.1 e hef).trans he;have k1:base.StaysIn g1:=fun b o hb=>(so.2.1 b fun hm=>by rw[(hl.mem hm).1] at hb;cases hb).trans (hk b o hb);have l1:g1.FunFrames base (env :: outer):=hl.of_keeps fun b o hb _=>by
  obtain⟨sl,q⟩:=so.2.2 b o hb;exact⟨_,q,rfl⟩
 have up1:s.heap.UpToSlots g1:=fun b o hb _=>so.2.2 b o hb;have e2:(g1.push ob).get? e=some oe:=Zi _ e1;have k2:base.StaysIn (g1.push ob):=fun b o hb=>Zi _ (k1 b o hb);have l2:(g1.push ob).FunFrames base (env :: outer):=l1.of_keeps fun b o hb _=>⟨o,Zi _ hb,rfl⟩;have up2:g1.UpToSlots (g1.push ob):=Heap.UpToSlots.of_keeps fun b o hb=>Zi _ hb;have hT:(g1.push ob).get? g1.objs.size=some ob:=Heap.get?_push_size _ (by obtain⟨ts,z,_⟩:=obd;exact Obj.isFreed_of_fields z);have hsz:1 < vs.size:=Nat.lt_trans (by decide) (Array.getElem?_eq_some_iff.mp h2).1;obtain⟨k3,l3,up3,oth,oe3,e3,c3,d3⟩:=Sx (i:=1) (v:=.ref g1.objs.size) k2 hn l2 e2 hd;refine wpAny_setField e2 hd hsz (h _ ⟨k3,hn,l3,oe3,vs.setIfInBounds 1 (.ref g1.objs.size),g1.objs.size,ob,?_⟩ ((up1.trans up2).trans up3));obtain⟨ts,z1,z2⟩:=obd;have hTe:g1.objs.size≠e:=Nat.ne_of_gt (Z0 e1);refine⟨ts,⟨e3,⟨c3.1.trans hc.1,c3.2.trans hc.2⟩,d3,by simp [hsz],?_⟩,k1.fresh,hTe,(oth _ hTe).trans hT,z1,z2⟩;rw[Array.getElem?_setIfInBounds_ne (by decide)];exact h2
theorem Znk{oe:Obj}{vs:Array Value}(hfr:A.frames=some (env :: outer))(hl:s.heap.FunFrames base (env :: outer))(hf:env.frame=some L)(hk:base.StaysIn s.heap)(hn:base.get? e=none)
  (he:s.heap.get? e=some oe) (hc:oe.cls=cls∧oe.dict=od) (hd:oe.data = .fields vs) (h1:vs[1]? = some .none) (h2:vs[2]? = some ctx)
  (h:∀ h',FlyC base (env :: outer) e cls od ctx (rawInt L) h'→s.heap.UpToSlots h'→Q () { s with heap:=h' }):wpAny M A (noteFrame (.ref e) env) Q E s:=by
 unfold noteFrame;simp only[hf];refine Zc (wpAny_field he hd h1 ?_);rw[if_neg (by decide)];exact Zh3 hfr hl hf hk hn he hc hd h2 h
theorem Zph(hfr:A.frames=some (env :: outer))(hf:env.frame=some L)(x:FlyC base (env :: outer) e cls od ctx .none s.heap)
  (h:∀ h',FlyC base (env :: outer) e cls od ctx (rawInt L) h'→s.heap.UpToSlots h'→Q () { s with heap:=h' }):wpAny M A (noteFrame (.ref e) env) Q E s:=by
 obtain⟨oe,vs,T,oT,ts,⟨he,hc,hd,h1,h2⟩,hT0,hTe,hT,hdT,h3⟩:=x.rcd;unfold noteFrame;simp only[hf];refine Zc (wpAny_field he hd h1 ?_);rw[if_pos (by simp:(Value.ref T != Value.none)=true)];refine Zc (wpAny_field hT hdT h3 ?_);rw[if_neg (by simp [rawInt]:¬ ((Value.none == rawInt L)=true))];obtain⟨k3,l3,up3,oth,_⟩:=Sx (i:=3) (v:=.none) x.stays hT0 x.frames hT hdT;refine Zc (wpAny_setField hT hdT (Array.getElem?_eq_some_iff.mp h3).1 ?_);exact Zh3 hfr l3 hf k3 x.new ((oth e (Ne.symm hTe)).trans he) hc hd h2 fun h' y up=>h h' y (up3.trans up)
theorem Zlu{fl:Value}{l:List Env}(x:FlyC base l e cls od ctx fl s.heap)(h:∀ h',FlyC base l e cls od ctx .none h'→s.heap.UpToSlots h'→Q () { s with heap:=h' }):wpAny M A (setFlight (.ref e) none) Q E s:=by
 obtain⟨oe,vs,T,oT,ts,⟨he,hc,hd,h1,h2⟩,hT0,hTe,hT,hdT,h3⟩:=x.rcd;have hsz:=(Array.getElem?_eq_some_iff.mp h3).1;obtain⟨k3,l3,up3,oth,oT3,e3,c3,d3⟩:=Sx (i:=3) (v:=.none) x.stays hT0 x.frames hT hdT;unfold setFlight;refine Zc (wpAny_field he hd h1 ?_);rw[if_pos (by simp:(Value.ref T != Value.none)=true)];refine wpAny_setField hT hdT hsz (h _ ⟨k3,x.new,l3,oe,vs,T,oT3,_,⟨(oth e (Ne.symm hTe)).trans he,hc,hd,h1,h2⟩,hT0,hTe,e3,d3,by simp [hsz]⟩ up3)
theorem FlyC.pop{fl:Value}{h:Heap}(x:FlyC base (env :: outer) e cls od ctx fl h):FlyC base outer e cls od ctx fl h:=⟨x.stays,x.new,x.frames.2.2,x.rcd⟩
theorem Zkl{oe:Obj}{vs:Array Value}(hfr:A.frames=some (env :: outer))(hl:s.heap.FunFrames base (env :: outer))(hf:env.frame=some L)(hk:base.StaysIn s.heap)(hn:base.get? e=none)
  (he:s.heap.get? e=some oe) (hc:oe.cls=cls∧oe.dict=od) (hd:oe.data = .fields vs) (h1:vs[1]? = some .none) (h2:vs[2]? = some ctx)
  (h:∀ h',FlyC base outer e cls od ctx .none h'→s.heap.UpToSlots h'→Q () { s with heap:=h' }):wpAny M A (leaving env (.ref e)) Q E s:=by
 unfold leaving;exact Zc (Znk hfr hl hf hk hn he hc hd h1 h2 fun g1 x1 u1=>Zlu (s:={ s with heap:=g1 }) x1 fun g2 x2 u2=>h g2 x2.pop (u1.trans u2))
theorem Znq(hfr:A.frames=some (env :: outer))(hf:env.frame=some L)(x:FlyC base (env :: outer) e cls od ctx .none s.heap)
  (h:∀ h',FlyC base outer e cls od ctx .none h'→s.heap.UpToSlots h'→Q () { s with heap:=h' }):wpAny M A (leaving env (.ref e)) Q E s:=by
 unfold leaving;exact Zc (Zph hfr hf x fun g1 x1 u1=>Zlu (s:={ s with heap:=g1 }) x1 fun g2 x2 u2=>h g2 x2.pop (u1.trans u2))
end
section
variable{P:Program}{w:World}{H:Hp}{h h'' B:Heap}{a:Addr}{o:HO}
theorem ObjOk.there(x:ObjOk P w H h a o):∃ ob,h.get? a=some ob:=by
 cases o with
 | lst xs=>obtain⟨_,_,_,_,e⟩:=x;exact⟨_,e⟩
 | tup xs=>obtain⟨_,_,_,ob,e,_⟩:=x;exact⟨ob,e⟩
 | dK kvs=>obtain⟨_,_,_,_,ob,_,_,e,_⟩:=x;exact⟨ob,e⟩
 | dT kvs=>obtain⟨_,_,_,_,ob,_,_,e,_⟩:=x;exact⟨ob,e⟩
 | set S n=>obtain⟨ob,_,_,_,e,_⟩:=x;exact⟨ob,e⟩
 | ins C dx fs=>obtain⟨_,_,_,e,_⟩:=x;exact⟨_,e⟩
 | own y=>exact x
 | xd fs=>obtain⟨_,⟨_,_,_,e,_⟩,_⟩:=x;exact⟨_,e⟩
 | rng lo hi=>obtain⟨_,_,_,e⟩:=x;exact⟨_,e⟩
 | frz ob u=>exact⟨_,x.1⟩
 | tbl ps=>exact⟨_,(show h.get? a=some _ from x)⟩
 | met f y=>exact⟨_,(show h.get? a=some _ from x)⟩
 | ext φ=>exact x.2.1
theorem HOk.stays(x:HOk P w H h)(trk:∀ b o,H b=some o→∃ ob,B.get? b=some ob)(b1:B.StaysIn h)(b2:B.StaysIn h''):HOk P w H h'':=fun a o e=>
 (x a o e).stay (fun b u hb q=>by
  have z:∃ ob,B.get? b=some ob:=hb.elim (fun z=>z ▸ trk a o e) fun z=>trk b _ z;obtain⟨ob,e1⟩:=z;have e2:=(b1 _ _ e1).symm.trans q;cases e2;exact b2 _ _ e1) (fun _ q=>q) fun _ _ q=>q
end
inductive Chn(B:Heap):Value→Prop where
 | nil:Chn B .none
 | cons {c:Addr} {o:Obj} {vs:Array Value} {ctx:Value}:B.get? c=some o→o.data = .fields vs→vs[2]? = some ctx→Chn B ctx→Chn B (.ref c)
structure Fly(l:List Env)(H:Hp)(e:Addr)(cls:Value)(od:Option Addr)(B h:Heap):Prop where
 fly:∃ ctx,FlyC B l e cls od ctx .none h∧Chn B ctx
 trk:∀ b o,H b=some o→∃ ob,B.get? b=some ob
 noe:H e=none
def K4(P:Program)(w:World):CXT:=fun outer H s E e s'=>∃(ea:Addr) (cls:Value) (od:Option Addr) (H':Hp) (B:Heap),e = .ref ea∧s'.os=s.os∧AllBare s'.gens∧Un (Mw outer) [] H H' s.heap s'.heap∧HOk P w H' s'.heap ∧
 Fly outer H' ea cls od B s'.heap∧(∀ b o,s.heap.get? b=some o→b∉Mw outer→∃ ob,B.get? b=some ob)∧E cls od H'
section
variable{X:Cx}{pins:List (Addr×Obj)}{σ:St}{H:Hp}{s:Shared}{B h'':Heap}
theorem Inv.un_fly(J:Inv X pins σ H s)(hex:X.ex=[])(b1:B.StaysIn s.heap)(b2:B.StaysIn h'')(up:s.heap.UpToSlots h'')(inB:∀ b o,X.s₀.heap.get? b=some o→b∉X.fs→∃ ob,B.get? b=some ob) :
  Un X.fs [] X.H₀ H X.s₀.heap h'' where
 keep:=fun b o e n hb _=>by
  have e1:=J.base.keep b o e n hb (by rw[hex];simp);obtain⟨ob,eb⟩:=inB b o e hb;have e2:=(b1 _ _ eb).symm.trans e1;cases e2;exact b2 _ _ eb
 slot:=fun b o e n hb _=>by
  obtain⟨sl,e1⟩:=J.base.slot b o e n hb (by rw[hex];simp);obtain⟨_,o2,ho2,hd⟩:=J.funs.mem hb;rw[e1] at ho2;cases ho2;obtain⟨sl2,e2⟩:=up b _ e1 hd;exact⟨sl2,e2⟩
 free:=fun b o e n _=>J.base.free b o e n (by rw[hex];simp)
 there:=fun b o e _=>by
  by_cases hb:b∈X.fs
  ·obtain⟨_,o2,ho2,hd⟩:=J.funs.mem hb
   obtain⟨sl,e2⟩:=up b o2 ho2 hd;exact⟨_,e2⟩
  ·obtain⟨ob,eb⟩:=inB b o e hb
   exact⟨ob,b2 _ _ eb⟩
 tups:=J.base.tups
 frzs:=J.base.frzs
 tbls:=J.base.tbls
theorem Inv.notFr(J:Inv X pins σ H s){b:Addr}{o:Obj}(e:X.s₀.heap.get? b=some o)(hb:b∉X.fs):b∉Mw X.stack:=fun z=>by
 rcases List.mem_cons.mp (J.stkSub b z) with q | q
 ·exact absurd (Z3 (Z0 e) J.ok.above) (by rw[q];exact Nat.lt_irrefl _)
 ·exact hb q
def under(X:Cx)(s:Shared):Heap:=W.hideAll s.heap (Mw X.stack)
theorem Aa{b:Addr}{o:Obj}(e:s.heap.get? b=some o)(hb:b∉Mw X.stack):(under X s).get? b=some o:=W.hideAll_get _ e hb
theorem O9:(under X s).StaysIn s.heap:=fun b o q=>W.of_hideAll _ q
theorem Inv.under_frames(J:Inv X pins σ H s):s.heap.FunFrames (under X s) X.stack:=W.funFrames_hide J.stack fun env he a ha=>List.mem_filterMap.mpr ⟨env,he,ha⟩
theorem Inv.under_trk(J:Inv X pins σ H s):∀ b o,H b=some o→∃ ob,(under X s).get? b=some ob:=fun b o e=>by
 obtain⟨ob,q⟩:=(J.hok b o e).there;exact⟨ob,Aa q fun z=>by rw[J.stkFree b z] at e;cases e⟩
end
structure MadeC(h h':Heap)(e:Addr)(cls ctx:Value):Prop where
 keeps:∀ b o,h.get? b=some o→h'.get? b=some o
 new:h.get? e=none
 rcd:∃ oe vs,h'.get? e=some oe∧(oe.cls=cls∧oe.dict=none)∧oe.data = .fields vs∧vs[1]? = some .none∧vs[2]? = some ctx
theorem MadeC.of{h h':Heap}{e:Addr}{cls:Value}{args:List Value}(x:Heap.MadeExcOf h h' e cls args):MadeC h h' e cls .none:=by
 obtain⟨t,he,_⟩:=x.there;exact⟨x.keeps,x.new,_,_,he,⟨rfl,rfl⟩,rfl,rfl,rfl⟩
structure Thr(X:Cx)(E:XK):Prop where
 new:∀(pins:List (Addr×Obj)) (σ:St) (H:Hp) (s:Shared) (h':Heap) (e C:Addr) (ctx:Value),Inv X pins σ H s→MadeC s.heap h' e (.ref C) ctx→Chn (under X s) ctx→E (.ref C) none H→X.xe (.ref e) { s with heap:=h' }
 on:Qp (K4 X.prog X.w) X E
 own:PassesOwn (model X.prog X.w) X.A X.env X.xe
 ownAt:∀ hd,PassesOwnAt (model X.prog X.w) (X.A.mark hd) X.A X.env X.xe
theorem Zix{P:Program}{w:World}{K:W.Frag}{mg:Str→Option Value}{base:Heap}{N:List Str}{qual:Str}{scope:Scope}{f:Addr}{cd:Value}{A:Around}{outer:List Env}{s:Shared}{H:Hp}{E:XK} :
  Thr (B8 (K4 P w) P w K mg base N qual scope f cd A outer s H E) E where
 own:=PassesOwn.leaving
 ownAt:=fun _=>PassesOwnAt.leaving
 new:=by
  intro pins σ H1 s1 h' e C ctx I hx hch hE;have fr:(under (B8 (K4 P w) P w K mg base N qual scope f cd A outer s H E) s1).StaysIn s1.heap:=O9;have hn:(under (B8 (K4 P w) P w K mg base N qual scope f cd A outer s H E) s1).get? e=none:=by
   cases q:(under (B8 (K4 P w) P w K mg base N qual scope f cd A outer s H E) s1).get? e with
   | none=>rfl
   | some o=>
    have z:=fr _ _ q;rw[hx.new] at z;cases z
  obtain⟨oe,vs,he,hc,hd,h1,h2⟩:=hx.rcd;refine Zkl (outer:=outer) I.ok.frames (I.under_frames.of_keeps fun b o hb _=>⟨o,hx.keeps b o hb,rfl⟩) rfl (fun b o q=>hx.keeps b o (fr b o q)) hn he hc hd h1 h2 fun h'' x1 x4=>?_;have up:s1.heap.UpToSlots h'':=(Heap.UpToSlots.of_keeps hx.keeps).trans x4;have inB:∀ b o,s.heap.get? b=some o→b∉Mw outer→∃ ob,(under (B8 (K4 P w) P w K mg base N qual scope f cd A outer s H E) s1).get? b=some ob:=fun b o eb hb=>by
   obtain⟨o',e'⟩:=I.base.there b o eb (by intro z;cases z);exact⟨o',Aa e' (I.notFr eb hb)⟩
  refine⟨e,.ref C,none,H1,_,rfl,I.os,I.bare,I.un_fly rfl fr x1.stays up inB,I.hok.stays I.under_trk fr x1.stays,⟨⟨ctx,x1,hch⟩,I.under_trk,?_⟩,inB,hE⟩;cases q:H1 e with
  | none=>rfl
  | some o=>
   obtain⟨ob,z⟩:=(I.hok e o q).there;rw[hx.new] at z;cases z
 on:=by
  intro pins σ H1 s1 e s' I hc;obtain⟨ea,cls,od,H',B,rfl,os,bare,un,hok,F,inB,hE⟩:=hc;have J:=I.call' os un hok bare fun b z=>absurd z (by simp);obtain⟨ctx,fl,hch⟩:=F.fly;refine Znq (outer:=outer) I.ok.frames rfl fl fun h'' x1 x2=>?_;have inB':∀ b o,s.heap.get? b=some o→b∉Mw outer→∃ ob,B.get? b=some ob:=fun b o eb hb=>by
   obtain⟨o',e'⟩:=I.base.there b o eb (by intro z;cases z);exact inB b o' e' (I.notFr eb hb)
  exact⟨ea,cls,od,H',B,rfl,J.os,J.bare,J.un_fly rfl fl.stays x1.stays x2 inB',hok.stays F.trk fl.stays x1.stays,⟨⟨ctx,x1,hch⟩,F.trk,F.noe⟩,inB',hE⟩
theorem Fun.okX{P:Program}{w:World}{K:W.Frag}{mg:Str→Option Value}{base:Heap}{x qual:Str}{st:Stmt}{f:Addr}{fd:FuncData}{N ps:List Str}{k:Nat}{sp:Sp}(F:Fun K x qual st f fd)(S:FnScope N ps (Zp st))(len:∀ vs H Q E,sp vs H Q E→vs.length=ps.length)
  (hbody:∀(cdv:Value) (A:Around) (outer:List Env) (s:Shared) (H:Hp) (vs:List V) (Q:VK) (E:XK),Room k (A.deeper (envOfC qual (Zp st) s.heap.objs.size f cdv))→sp vs H Q E →
   Thr (B8 (K4 P w) P w K mg base N qual (Zp st) f cdv A outer s H E) E →
   ∃ t,PSs (B8 (K4 P w) P w K mg base N qual (Zp st) f cdv A outer s H E) (Yz st) t∧t { nx:=fun _ H'=>Q .non H',rt:=Q } (Nq N vs) H):FnOk P w K mg base (K4 P w) (k+1) f fd ps sp:=by
 obtain⟨oc,od,kV,doc,pm,an,cdv,ct,osl,rfl,lk,hcd⟩:=F.ex;exact Zhz lk hcd S len fun A outer s H vs Q E hr hsp=>hbody cdv A outer s H vs Q E hr hsp Zix
abbrev Nw:List Value:=[.type "ValueError",.type "Exception",.type "BaseException",.type "object"]
theorem Zk7{K:W.Frag}{h:Heap}{C:Addr}{bmB:List Value}{newId:String}(X:K.In h)(q:W.excIn K C bmB newId=true) :
  ∃ bm N nm qn bs hdct sn sub ab col dd k0 k1 k2 k3 k5 mN,h.get? C=some (excClassObj nm qn C N bs bm hdct sn sub ab col dd k0 k1 k2 k3 k5 newId)∧h.Ns N mN∧mN "__init__" = none∧OwnTail h bmB bm:=by
 unfold W.excIn at q;split at q
 ·rename_i ddx cdx slx hlook
  split at q
  ·rename_i Cx bmx j0 j1 j2 j3 nx j5 hmro hslots
   simp only[beq_iff_eq,Bool.and_eq_true,Bool.not_eq_true'] at q;obtain⟨⟨⟨⟨⟨eC,eN⟩,edel⟩,etl⟩,eok⟩,eni⟩:=q;subst eC;subst eN;obtain⟨f1,f2,f3,f4,f5,f6,f7,f8,f9,f10,f11⟩:=cdx;have e1:f3=_:=hmro;have e2:f11=false:=edel;subst e1;subst e2;obtain⟨lst⟩:=slx;have e3:lst=_:=hslots;subst e3;exact⟨bmx,f4,f1,f5,f2,f6,f7,f8,f9,f10,ddx,j0,j1,j2,j3,j5,_,X _ _ hlook,.of_isNs (W.isNs_of_in X eok),W.nsMap_none_of_in X eok eni,W.tail_of_in X etl⟩
  ·cases q
 ·cases q
def Zl9(C:Addr)(E:XK)(t:TA):TS:=fun _ σ H=>t σ H fun vs H1=>vs.length≤sizeLine∧E (.ref C) none H1
theorem Qi{X:Cx}{x:Str}{np cpos pos:Pos}{e:Expr}{es:List Expr}{t:TA}{C:Addr}{E:XK}(T:Thr X E)(hh:X.A.handled=none)(hg:Gl X x)(hm:X.mg x=some (.ref C))(hc:W.excIn X.K C Nw "ValueError.__new__" = true)(ha:PA X (e :: es) t)
  (hdb:(x == ("__debug__":Str))=false:=by decide) (he:starEach (e :: es) X.env=(false,eval e X.env) :: starEach es X.env:=by rfl) (hpl:(backTo cpos (starEach es X.env)).any (·.1)=false:=by rfl) :
  PS X (.Raise (some (.Call (.Name x np) (e :: es) [] cpos)) none pos) (Zl9 C E t):=by
 intro pins s σ H D I h;obtain⟨bm,N,nm,qn,bs,hdct,sn,sub,ab,col,dd,k0,k1,k2,k3,k5,mN,hC,hN,hni,hT⟩:=Zk7 I.mod.kin hc;have hB:bm.contains (.type "BaseException")=true:=hT.hasType PySem.F.excBase_ValueError.hasBase;refine wpAny_Raise_call_subT (k5:=k5) (k3:=k3) (k2:=k2) (k1:=k1) (k0:=k0) (dd:=dd) (col:=col) (ab:=ab) (sub:=sub) (sn:=sn) (hdct:=hdct) (bs:=bs) (N:=N) (q:=qn) (nm:=nm) (bm:=bm) (C:=C) PySem.F.excBase_ValueError (mN:=mN) hB hh (by rw[he];show(false || (backTo cpos (starEach es X.env)).any (·.1))=false;rw[hpl];rfl) hni (B0 I hg hm ⟨rfl,?_⟩ hdb);have hA:=ha cpos pins s σ H _ I h;rw[he] at hA ⊢;refine Calls.evalArgs_plain (Y1 hA fun us s2 q2=>?_);obtain⟨vs,H2,I2,r,hz,hE⟩:=q2;exact⟨rfl,by rw[← r.length];exact hz,I2.bk _ _ hC,hN.keeps I2.bk,hT.keeps I2.bk,fun h' e' hx=>T.new pins σ H2 s2 h' e' C .none I2 (.of hx) .nil hE⟩
def Zq4(X:Cx)(pins:List (Addr×Obj))(B:Heap):Prop:=(∀ b o,X.s₀.heap.get? b=some o→b∉X.ex→b∉X.fs→∃ ob,B.get? b=some ob)∧∀ p∈X.pn++pins,∃ ob,B.get? p.1=some ob
def XP(X:Cx)(pins:List (Addr×Obj))(σ:St)(Ex:XK)(e:Value)(s':Shared):Prop:=
 ∃(ea:Addr) (cls:Value) (od:Option Addr) (H':Hp) (B:Heap),e = .ref ea∧Inv X pins σ H' s'∧Fly X.stack H' ea cls od B s'.heap∧Zq4 X pins B∧Ex cls od H'
section
variable{X:Cx}{pins:List (Addr×Obj)}{σ:St}{H:Hp}{s:Shared}{B h'':Heap}
end
section
variable{X:Cx}{k:Nat}{f:Addr}{fd:FuncData}{ps:List Str}{sp:Sp}{dvs:List V}{ds:List Value}{x:Str}{p pos:Pos}{e:Expr}{es:List Expr}{t:TA}
end
end L2
namespace L2
open PySem PySem.Spec PyProof.Rows Builtin Builtin.ObjectAttr Builtin.Getset_descriptor
section
variable{prog:Program}{w:World}{A:Around}{E:Value→Shared→Prop}{K:W.Frag}{a C:Addr}
end
end L2
namespace L2
open PySem PySem.Spec PyProof.Rows
section
variable{X:Cx}{pos:Pos}
theorem Om:MtR X "str.find" (fun x xs H Q=>∃ i j,x = .str i∧xs=[.str j]∧Q (.int (Txt.find i j)) H):=by
 intro pins s σ H x xs v us Q I rx rv h;obtain⟨i,j,rfl,rfl,q⟩:=h;obtain⟨t,rfl⟩:=rx;obtain⟨u,rfl,ru⟩:=rv.one;obtain⟨t',rfl⟩:=ru;exact SC.find ⟨.int _,H,I.tok _,⟨_,rfl⟩,q⟩
theorem G0{P:Program}{w:World}:Qp (K4 P w) X E0:=fun _ _ _ _ _ _ _ h=>by
 obtain⟨_,_,_,_,_,_,_,_,_,_,_,_,z⟩:=h;exact z.elim
end
def vS(ys:List Str):List V:=ys.map V.str
theorem De(ys:List Str):(vS ys).length=ys.length:=Zf _
theorem V7:∀ l:List (Str×Tok),Vals (vS (l.map (·.1))) (strValues l)
 | []=>.nil
 | (x,t) :: r=>.cons ⟨t,rfl⟩ (V7 r)
theorem Zcs(tk:Nat)(xs:List Str):Vals (vS xs) (strsFrom tk xs):=by
 rw[strsFrom_eq];have:=V7 (numbered tk xs)
 rwa [numbered_texts] at this
theorem Nx:∀{ys:List Str} {us:List Value},Vals (vS ys) us→StrsAre us ys
 | [],_,.nil=>.nil
 | y :: r,_,.cons h t=>by
  obtain⟨tk,rfl⟩:=h;exact .cons _ _ (Nx t)
section
variable{X:Cx}
theorem Zca:MtR X "str.join" (fun x xs H Q=>∃ sep a ys,x = .str sep∧xs=[.ref a]∧SqL X.K H a (vS ys)∧(ys.map (·.length)).sum+ys.length * sep.length≤16777216∧Q (.str (Txt.join sep ys)) H):=by
 intro pins s σ H x xs v us Q I rx rv h;obtain⟨sep,a,ys,rfl,rfl,hS,hok,q⟩:=h;obtain⟨t,rfl⟩:=rx;obtain⟨u,rfl,ru⟩:=rv.one;cases ru;obtain⟨its,r,pl,hz⟩:=I.list hS;exact join_list (Ue pl) (by simpa using Nx r) hok fun t' k=>⟨.str _,H,I.tok k,⟨_,rfl⟩,q⟩
theorem Zhd:MtR X "str.split" (fun x xs H Q=>∃ i j,x = .str i∧xs=[.str j]∧(j.length == 0)=false∧i.length≤10000∧∀ l,H l=none→Q (.ref l) (upd H l (.lst (vS (Txt.split i j))))):=by
 intro pins s σ H x xs v us Q I rx rv h;obtain⟨i,j,rfl,rfl,hj,hi,q⟩:=h;obtain⟨t,rfl⟩:=rx;obtain⟨u,rfl,ru⟩:=rv.one;obtain⟨t',rfl⟩:=ru;have sl:=sizeLine_eq;have hsz:i.length≤sizeLine:=by omega
 have same:Txt.split i j=[i]→(∀ h' tk,h'=s.heap.push { cls:=.type "list",data:=.seq ([.str i t]:List Value).toArray }→EP X pins σ Q (.ref s.heap.objs.size) { s with heap:=h',toks:=tk }):=fun e h' tk eh=>by
  subst eh;refine⟨.ref s.heap.objs.size,_,I.lnew (t':=tk) (ys:=vS (Txt.split i j)) (its:=[.str i t]) ?_ ?_,rfl,q _ I.fresh⟩
  ·rw[e]
   exact .cons ⟨t,rfl⟩ .nil
  ·rw[e]
   show 1≤sizeLine;omega
 by_cases h1:(decide (i.length < j.length) || decide (Builtin.Str.strKind i < Builtin.Str.strKind j))=true
 ·refine call_meets F.slot_str_split (typeIs_str _ _ _) F.entry_str_split (F.args_str_split_2 _ _) (meets_str_split_cannot_occur i j t t' h1) ?_
  exact same (if_pos h1) _ s.toks rfl
 ·have h1':=Bool.eq_false_iff.mpr h1
  by_cases hf:(Builtin.Str.occurrences i j 0 i.length (i.length+1)).isEmpty=true
  ·refine call_meets F.slot_str_split (typeIs_str _ _ _) F.entry_str_split (F.args_str_split_2 _ _) (meets_str_split_not_found i j t t' h1' hj hf) ?_
   exact same ((if_neg h1).trans (if_pos hf)) _ s.toks rfl
  ·have hf':=Bool.eq_false_iff.mpr hf
   have hp:Txt.split i j=Builtin.Str.partsBetween i (Builtin.Str.occurrences i j 0 i.length (i.length+1)) j.length:=(if_neg h1).trans (if_neg hf);have hn:(Builtin.Str.partsBetween i (Builtin.Str.occurrences i j 0 i.length (i.length+1)) j.length).length≤sizeLine:=by
    rw[len_partsBetween];have:=StrLaws.occ_length_le i j 0 i.length (i.length+1);omega
   refine call_meets F.slot_str_split (typeIs_str _ _ _) F.entry_str_split (F.args_str_split_2 _ _) (meets_str_split_sep i j t t' h1' hj hf' hsz hn) ?_;refine⟨.ref s.heap.objs.size,_,I.lnew (ys:=vS (Txt.split i j)) (its:=strsFrom s.toks (Builtin.Str.partsBetween i (Builtin.Str.occurrences i j 0 i.length (i.length+1)) j.length)) ?_ ?_,rfl,q _ I.fresh⟩
   ·rw[hp]
    exact Zcs _ _
   ·rw[De,hp]
    exact hn
def Zqi:V→Option Int→Option Int→Hp→VK→Prop:=fun x lo hi H Q=>∃ z,x = .str z∧z.length≤10000∧Q (.str (Txt.slice z lo hi)) H
theorem Mt{v:Value}{o:Option Int}(p:IsPart v o):∃ l:Option (Int×Tok),partValue l=v∧l.map (·.1)=o:=by
 cases p with
 | none=>exact⟨none,rfl,rfl⟩
 | int i t=>exact⟨some (i,t),rfl,rfl⟩
theorem Zme:SlR X Zqi:=by
 intro pins s σ H x v vl vu lo hi sl Q I rx hs pl pu h;obtain⟨z,rfl,hz,q⟩:=h;obtain⟨t,rfl⟩:=rx;obtain⟨l,rfl,el⟩:=Mt pl;obtain⟨u,rfl,eu⟩:=Mt pu;refine⟨"str",_,F.slot_str_getitem.lookup,typeIs_str _ _ _,?_⟩;refine wpAny_getItem_str_slice (l:=l) (u:=u) (st:=none) hs rfl (post_val_or_str ⟨?_,fun t' k=>?_⟩)
 ·have e:=Txt.slice_le z lo hi
  rw[← el,← eu] at e;have sl':=sizeLine_eq;refine Nat.le_trans e ?_;omega
 ·refine⟨.str _,H,I.tok k,⟨_,rfl⟩,?_⟩
  rw[← el,← eu] at q;exact q
def Its(x:Str):It:=⟨fun i _=>i < x.cps.size,fun i H v H'=>H'=H∧∃ c,x.cps[i]? = some c∧v = .str ⟨#[c]⟩,fun i _=>x.cps.size≤i⟩
theorem Zcu{P:Program}{w:World}{K:W.Frag}{tg:Expr}(x:Str)(t:Tok)(it:Addr):Turn P w K tg (Its x) [it] it (fun i h=>h.IsStrIter it "str_ascii_iterator" x t i) where
 mem:=by simp
 obj:=fun i h st b hb=>by
  have e:b=it:=by simpa using hb
  subst e;obtain⟨o,e,c,d⟩:=st;exact⟨o,e,fun v z=>by rw[d] at z;cases z⟩
 keep:=fun i h h' st k=>by
  obtain⟨o,e,r⟩:=st;exact⟨o,k it (by simp) o e,r⟩
 item:=by
  intro X hP hw hK hc i pins s σ H E I hf st hg;subst hP hw hK;have hi:i < x.cps.size:=hg;obtain⟨f0,f1,f2,f3,f4,f5⟩:=hf it (by simp);refine wpAny_pyNext_ascii_item st (c:=x.cps[i]) (by simp [hi]) fun h' st' sb=>?_;have I1:Inv X pins σ H { s with heap:=h',toks:=s.toks+1 }:=I.turned (t':=s.toks+1) (fun b o hb e=>(sb.2 b hb).trans e) f0 f1 f3 f4 f5;obtain⟨o,e,c,d⟩:=id st';exact⟨_,rfl,Kp (s:={ s with heap:=h',toks:=s.toks+1 }) e c d (by decide) ⟨.str _,H,I1,⟨_,rfl⟩,⟨rfl,x.cps[i],by simp [hi],rfl⟩,st',fun b hb=>(hf b hb).1⟩⟩
 done:=by
  intro X hP hw hK hc i pins s σ H E I hf st hg;subst hP hw hK;have hi:x.cps.size≤i:=hg;obtain⟨f0,f1,f2,f3,f4,f5⟩:=hf it (by simp);exact wpAny_pyNext_ascii_end (I.ok.hd hc) st (by simp [hi]) fun h' eb=>⟨rfl,I.turned (t':=s.toks) (fun b o hb e=>eb b o hb e) f0 f1 f3 f4 f5⟩
 self:=fun _ _ _ _ _ st h=>wpAny_pyIter_striter_ascii st h
theorem Zct{P:Program}{w:World}{K:W.Frag}{tg:Expr}(x:Str)(t:Tok)(it:Addr):Turn P w K tg (Its x) [it] it (fun i h=>h.IsStrIter it "str_iterator" x t i) where
 mem:=by simp
 obj:=fun i h st b hb=>by
  have e:b=it:=by simpa using hb
  subst e;obtain⟨o,e,c,d⟩:=st;exact⟨o,e,fun v z=>by rw[d] at z;cases z⟩
 keep:=fun i h h' st k=>by
  obtain⟨o,e,r⟩:=st;exact⟨o,k it (by simp) o e,r⟩
 item:=by
  intro X hP hw hK hc i pins s σ H E I hf st hg;subst hP hw hK;have hi:i < x.cps.size:=hg;obtain⟨f0,f1,f2,f3,f4,f5⟩:=hf it (by simp);refine wpAny_pyNext_wide_item st (c:=x.cps[i]) (by simp [hi]) fun h' st' sb=>?_;have I1:Inv X pins σ H { s with heap:=h',toks:=s.toks+1 }:=I.turned (t':=s.toks+1) (fun b o hb e=>(sb.2 b hb).trans e) f0 f1 f3 f4 f5;obtain⟨o,e,c,d⟩:=id st';exact⟨_,rfl,Kp (s:={ s with heap:=h',toks:=s.toks+1 }) e c d (by decide) ⟨.str _,H,I1,⟨_,rfl⟩,⟨rfl,x.cps[i],by simp [hi],rfl⟩,st',fun b hb=>(hf b hb).1⟩⟩
 done:=by
  intro X hP hw hK hc i pins s σ H E I hf st hg;subst hP hw hK;have hi:x.cps.size≤i:=hg;obtain⟨f0,f1,f2,f3,f4,f5⟩:=hf it (by simp);exact wpAny_pyNext_wide_end (I.ok.hd hc) st (by simp [hi]) fun h' eb=>⟨rfl,I.turned (t':=s.toks) (fun b o hb e=>eb b o hb e) f0 f1 f3 f4 f5⟩
 self:=fun _ _ _ _ _ st h=>wpAny_pyIter_striter_wide st h
def Zqu(tl:TE):TI:=fun σ H R=>tl σ H fun x H1=>∃ z,x = .str z∧R (Its z) H1
theorem Zmu{tg l:Expr}{tl:TE}(hl:PE X l tl):PI X tg l (Zqu tl):=by
 intro pins s σ H R I h;refine Y1 (hl pins s σ H _ I h) fun v s1 ⟨x,H1,I1,r1,q1⟩=>?_;obtain⟨z,rfl,q⟩:=q1;obtain⟨t,rfl⟩:=r1;have fp:∀ b∈[s1.heap.objs.size],Bc X pins H1 b:=fun b hb=>by
  have e:b=s1.heap.objs.size:=by simpa using hb
  subst e;exact I1.fpOk (Nat.le_refl _) (I1.hok.fresh (Nat.le_refl _))
 cases ha:z.cps.all (· < 128)
 ·exact wpAny_pyIter_wide ha ⟨s1.heap.objs.size,[s1.heap.objs.size],_,_,H1,rfl,I1.kept (t':=s1.toks) fun b o e=>Zi _ e,Zct z t _,⟨_,Heap.get?_push_size _ rfl,rfl,rfl⟩,fp,q⟩
 ·exact wpAny_pyIter_ascii ha ⟨s1.heap.objs.size,[s1.heap.objs.size],_,_,H1,rfl,I1.kept (t':=s1.toks) fun b o e=>Zi _ e,Zcu z t _,⟨_,Heap.get?_push_size _ rfl,rfl,rfl⟩,fp,q⟩
end
section
variable{prog:Program}{w:World}
end
section
variable{X:Cx}{pins:List (Addr×Obj)}{σ:St}{H:Hp}{s:Shared}{x:Str}{np cp cp2 cpos rpos:Pos}{msg:Str}{j j2:Nat}{C e1:Addr}
end
theorem A5{X:Cx}(hu:X.A.units+64 < cLine):Eo X (compareOp .Eq) (fun x y H Q=>∃(a b:Addr) (xs:List V),x = .ref a∧y = .ref b∧SqL X.K H a xs∧SqL X.K H b []∧Q (.bl xs.isEmpty) H):=by
 intro pins s σ H x y v u Q I rx ry h;obtain⟨a,b,xs,rfl,rfl,hA,hB,q⟩:=h;cases xs with
 | nil=>exact Zm8 hu pins s σ H _ _ v u Q I rx ry ⟨a,b,[],[],rfl,rfl,hA,hB,q⟩
 | cons x0 xr=>
  cases rx;cases ry;obtain⟨ia,va,pa,_⟩:=I.list hA;obtain⟨ib,vb,pb,_⟩:=I.list hB;have l1:=va.length;have l2:=vb.length;refine PySem.SeqAt.eq_list_lengthsAt (Ue pa) (Ue pb) ?_ (by omega) ⟨.bl false,H,I,rfl,q⟩;simp only[List.size_toArray,← l1,← l2,Jc,List.length_nil];simp
section
variable{P:Program}{w:World}{A:Around}{E:Value→Shared→Prop}{s:Shared}{kd:SortKind}{a0:Array Keyed}
def Cmp(P:Program)(w:World)(A:Around)(s:Shared)(kd:SortKind)(ks:List Value):Prop:=
 ∀ x∈ks,∀ y∈ks,∀(E:Value→Shared→Prop) (Q:Bool→Shared→Prop),(∀ b,Q b s)→wpAny (model P w) A (keyLt' kd x y) Q E s
structure SB(kd:SortKind)(a0:Array Keyed)(st:SortSt):Prop where
 pm:(arrOf st).Perm a0
 kn:kindOf st=kd
 fl:failedOf st=none
 pn:pendingOf st = #[]
theorem SB.sz{st:SortSt}(h:SB kd a0 st):(arrOf st).size=a0.size:=h.pm.size_eq
theorem SB.put{st:SortSt}{xs:Array Keyed}(h:SB kd a0 st)(p:xs.Perm (arrOf st)):SB kd a0 (setArr st xs):=⟨p.trans h.pm,h.kn,h.fl,h.pn⟩
theorem SB.get{st:SortSt}{i:Nat}(h:SB kd a0 st)(hi:i < a0.size):∃ x p,(arrOf st)[i]? = some (x,p)∧x∈a0.toList.map (·.1):=by
 have hi2:i < (arrOf st).size:=h.sz ▸ hi;have m:(arrOf st)[i]∈(arrOf st).toList:=by simp
 exact⟨(arrOf st)[i].1,(arrOf st)[i].2,getElem?_pos _ i hi2,Zw.mpr ⟨_,(Array.perm_iff_toList_perm.mp h.pm).mem_iff.mp m,rfl⟩⟩
theorem Tf{st:SortSt}{i j:Nat}{Q:Option Bool→SortSt→Prop}(hC:Cmp P w A s kd (a0.toList.map (·.1)))(hB:SB kd a0 st)(hi:i < a0.size)(hj:j < a0.size)(h:∀ b,Q (some b) st):wpS (model P w) A E s (ltAt' i j) Q st:=by
 obtain⟨x,p,e1,m1⟩:=hB.get hi;obtain⟨y,q,e2,m2⟩:=hB.get hj;rw[ltAt'_eq];refine wpS_bind (wpS_get (show wpS _ _ _ _ (do let x ← elem' (arrOf st) i;let y ← elem' (arrOf st) j;lt' x y) Q st from ?_));rw[elem'_eq,elem'_eq,e1,e2];refine wpS_bind (wpS_pure (wpS_bind (wpS_pure (show wpS _ _ _ _ (lt' (x,p) (y,q)) Q st from ?_))));rw[lt'_eq];refine wpS_bind (wpS_get (show wpS _ _ _ _ (do let r ← (liftM (keyLt' (kindOf st) x y).attempt:StateT SortSt Sem _);_) Q st from ?_));rw[hB.kn];exact wpS_bind (wpS_lift (wpAny_attempt (hC x m1 y m2 _ _ fun b=>⟨rfl,wpS_pure (h b)⟩)))
variable(hC:Cmp P w A s kd (a0.toList.map (·.1)))
include hC
theorem Zcp{st:SortSt}{a m:Nat}{Q:AscSt→SortSt→Prop}(hm:m≤a0.size)(h1:1≤a)(h2:a≤m)(hB:SB kd a0 st)(h:∀ n,a≤n→n≤m→Q (none,n) st):wpS (model P w) A E s (ascLoop a m) Q st:=by
 unfold ascLoop;refine wpS_forRange (I:=fun x c t=>t=st∧c=(none,x)) (fun x c t hx1 hx2 z=>?_) (fun c t z=>?_) ⟨rfl,rfl⟩
 ·obtain⟨rfl,rfl⟩:=z
  refine wpS_bind (Tf hC hB (by dsimp only;omega) (by dsimp only;omega) fun b=>?_);cases b with
  | true=>exact wpS_pure (h x hx1 (by omega))
  | false=>exact wpS_pure ⟨rfl,rfl⟩
 ·obtain⟨rfl,rfl⟩:=z
  exact h _ (by omega) (by omega)
theorem tail_any{st:SortSt}{n m:Nat}{Q:Option Nat→SortSt→Prop}(hm:m≤a0.size)(h1:1≤n)(h2:n≤m)(hB:SB kd a0 st)(h:∀ k t,SB kd a0 t→1≤k→k≤m→Q (some k) t):wpS (model P w) A E s (tail3 n m) Q st:=by
 unfold tail3;exact wpS_bind (wpS_reverse (wpS_bind (Zcp hC hm h1 h2 (hB.put (mirror_perm _ _ _ _)) fun k k1 k2=>wpS_pure (h k _ (hB.put (mirror_perm _ _ _ _)) (by omega) k2))))
theorem Zh8{st:SortSt}{n m:Nat}{Q:DescSt→SortSt→Prop}(hm:m≤a0.size)(h1:1≤n)(h2:n≤m)(hB:SB kd a0 st)(h:∀ k q t,SB kd a0 t→n≤k→k≤m→Q (none,k,q) t):wpS (model P w) A E s (descLoop n m) Q st:=by
 unfold descLoop;refine wpS_forRange (I:=fun x c t=>SB kd a0 t∧∃ q,c=(none,x,q)) (fun x c t hx1 hx2 z=>?_) (fun c t z=>?_) ⟨hB,0,rfl⟩
 ·obtain⟨hB2,q,rfl⟩:=z
  refine wpS_bind (Tf hC hB2 (by dsimp only;omega) (by dsimp only;omega) fun b=>?_);cases b with
  | true=>
   show wpS _ _ _ _ (if q > 0 then _ else _) _ _;split
   ·exact wpS_bind (wpS_reverse (wpS_pure ⟨hB2.put (mirror_perm _ _ _ _),0,rfl⟩))
   ·exact wpS_pure ⟨hB2,0,rfl⟩
  | false=>
   refine wpS_bind (Tf hC hB2 (by dsimp only;omega) (by dsimp only;omega) fun b=>?_);cases b with
   | true=>exact wpS_pure (h x q t hB2 hx1 (by omega))
   | false=>exact wpS_pure ⟨hB2,q+1,rfl⟩
 ·obtain⟨hB2,q,rfl⟩:=z
  exact h _ q t hB2 (by omega) (by omega)
theorem As{st:SortSt}{n m:Nat}{Q:Option Nat→SortSt→Prop}(hm:m≤a0.size)(h2:n+1≤m)(hB:SB kd a0 st)(h:∀ k t,SB kd a0 t→1≤k→k≤m→Q (some k) t):wpS (model P w) A E s (descPart n m) Q st:=by
 unfold descPart;refine wpS_bind (wpS_lift (wpAny_rule ⟨rfl,wpS_bind (Zh8 hC hm (by omega) h2 hB fun k q t hB2 k1 k2=>?_)⟩));show wpS _ _ _ _ (if q > 0 then _ else _) _ _;split
 ·exact wpS_bind (wpS_reverse (tail_any hC hm (by dsimp only;omega) (by dsimp only;omega) (hB2.put (mirror_perm _ _ _ _)) h))
 ·exact tail_any hC hm (by dsimp only;omega) (by dsimp only;omega) hB2 h
theorem Zef{st:SortSt}{m:Nat}{Q:Option Nat→SortSt→Prop}(hm:m≤a0.size)(h1:1≤m)(hB:SB kd a0 st)(h:∀ k t,SB kd a0 t→1≤k→k≤m→Q (some k) t):wpS (model P w) A E s (countRun' 0 m) Q st:=by
 rw[countRun0_eq];refine wpS_bind (Zcp hC hm (Nat.le_refl 1) h1 hB fun n n1 n2=>?_);show wpS _ _ _ _ (if(n == m)=true then _ else if n > 1 then _ else _) _ _;split
 ·exact wpS_pure (h n st hB n1 n2)
 ·rename_i ne
  have ne2:n≠m:=fun z=>ne (beq_iff_eq.mpr z);split
  ·refine wpS_bind (Tf hC hB (by omega) (by dsimp only;omega) fun b=>?_)
   cases b with
   | true=>exact wpS_pure (h n st hB n1 n2)
   | false=>exact wpS_bind (wpS_reverse (As hC hm (by dsimp only;omega) (hB.put (mirror_perm _ _ _ _)) h))
  ·exact As hC hm (by dsimp only;omega) hB h
theorem Zks{st:SortSt}{n ok:Nat}{Q:Bool→SortSt→Prop}(hn:n≤a0.size)(hB:SB kd a0 st)(h:∀ t,SB kd a0 t→Q true t):wpS (model P w) A E s (binarySort' 0 n ok) Q st:=by
 rw[binarySort'_eq];refine wpS_bind (wpS_mono (wpS_forRange (I:=fun _ c t=>c=(none,())∧SB kd a0 t) (Q:=fun c t=>c=(none,())∧SB kd a0 t) (fun k c t hk1 hk2 z=>?_) (fun c t z=>z) ⟨rfl,hB⟩) fun c t z=>?_)
 ·obtain⟨rfl,hB2⟩:=z
  refine wpS_bind (wpS_mono (wpS_forRange (I:=fun _ c u=>u=t∧∃ l r,c=(none,l,r)∧r≤k) (Q:=fun c u=>u=t∧∃ l r,c=(none,l,r)) (fun x c u hx1 hx2 y=>?_) (fun c u y=>?_) ⟨rfl,0,k,rfl,Nat.le_refl k⟩) fun c u y=>?_)
  ·obtain⟨rfl,l,r,rfl,hr⟩:=y
   show wpS _ _ _ _ (if l ≥ r then _ else _) _ _;split
   ·exact wpS_pure ⟨rfl,l,r,rfl⟩
   ·refine wpS_bind (Tf hC hB2 (by omega) (by dsimp only;omega) fun b=>?_)
    cases b with
    | true=>exact wpS_pure ⟨rfl,l,(l+r) / 2,rfl,by omega⟩
    | false=>exact wpS_pure ⟨rfl,(l+r) / 2+1,r,rfl,hr⟩
  ·obtain⟨rfl,l,r,rfl,_⟩:=y
   exact⟨rfl,l,r,rfl⟩
  ·obtain⟨rfl,l,r,rfl⟩:=y
   show wpS _ _ _ _ (do moveDown' (0+k) (0+l);pure (ForInStep.yield (none,()))) _ _;rw[moveDown'_eq];exact wpS_bind (wpS_modify (wpS_pure ⟨rfl,hB2.put (bubble_perm _ _ _)⟩))
 ·obtain⟨rfl,hB2⟩:=z
  exact wpS_pure (h t hB2)
theorem Zfx{st:SortSt}{Q:Unit→SortSt→Prop}(hB:SB kd a0 st)(h2:1≤a0.size)(h64:a0.size < 64)(h:∀ t,(arrOf t).Perm a0→failedOf t=none→Q () t):wpS (model P w) A E s sortRuns' Q st:=by
 have mr:minRun' a0.size a0.size 0=a0.size:=by
  obtain⟨f,hf⟩:∃ f,a0.size=f+1:=⟨a0.size - 1,by omega⟩;rw[hf,minRun'_succ,if_pos (by omega)]
 have dn:∀ t,SB kd a0 t→(arrOf (setPending t ((pendingOf t).push (0,a0.size,0)))).Perm a0∧failedOf (setPending t ((pendingOf t).push (0,a0.size,0)))=none∧pendingOf (setPending t ((pendingOf t).push (0,a0.size,0))) = #[(0,a0.size,0)]:=
  fun t hB=>⟨hB.pm,hB.fl,by show(pendingOf t).push _=_;rw[hB.pn];rfl⟩
 rw[sortRuns'_eq];refine wpS_bind (wpS_get ?_);dsimp only;simp only[hB.sz,mr];refine wpS_bind (wpS_mono (wpS_forRange (I:=fun x c t=>(x=0∧c=(none,0)∧SB kd a0 t)∨(c=(none,a0.size)∧(arrOf t).Perm a0∧failedOf t=none∧pendingOf t = #[(0,a0.size,0)]))
  (Q:=fun c t=>c=(none,a0.size)∧(arrOf t).Perm a0∧failedOf t=none∧pendingOf t = #[(0,a0.size,0)]) (fun x c t hx1 hx2 z=>?_) (fun c t z=>?_) (.inl ⟨rfl,rfl,hB⟩)) fun c t z=>?_)
 ·rcases z with⟨rfl,rfl,hB2⟩ | ⟨rfl,hD⟩
  ·dsimp only
   rw[if_neg (show ¬ 0 ≥ a0.size by omega)];simp only[Nat.sub_zero,Nat.min_self,Nat.zero_add];refine wpS_bind (Zef hC (Nat.le_refl _) h2 hB2 fun k u hB3 k1 k2=>?_);dsimp only;have bk:∀ v,SB kd a0 v→(pendingOf v).back? = none:=fun v hv=>by rw[hv.pn];rfl
   by_cases lt:k < a0.size
   ·rw[if_pos lt]
    refine wpS_bind (wpS_lift (wpAny_rule ⟨rfl,wpS_bind (Zks hC (Nat.le_refl _) hB3 fun v hB4=>?_)⟩));rw[if_neg (show ¬ (!true)=true by decide)];refine wpS_bind (wpS_get ?_);rw[bk v hB4];exact wpS_bind (wpS_modify (wpS_pure (.inr ⟨rfl,dn v hB4⟩)))
   ·rw[if_neg lt]
    have ek:k=a0.size:=by omega
    subst ek;refine wpS_bind (wpS_get ?_);rw[bk u hB3];exact wpS_bind (wpS_modify (wpS_pure (.inr ⟨rfl,dn u hB3⟩)))
  ·dsimp only
   rw[if_pos (Nat.le_refl _)];exact wpS_pure ⟨rfl,hD⟩
 ·rcases z with⟨hx,_,_⟩ | hD
  ·omega
  ·exact hD
 ·obtain⟨rfl,d1,d2,d3⟩:=z
  refine wpS_bind (wpS_mono (wpS_forRange (I:=fun _ c u=>u=t∧c=(none,())) (Q:=fun c u=>u=t∧c=(none,())) (fun x c u _ _ y=>?_) (fun _ _ y=>y) ⟨rfl,rfl⟩) fun c u y=>?_)
  ·obtain⟨rfl,rfl⟩:=y
   refine wpS_bind (wpS_get ?_);rw[if_pos (by rw[d3];exact Nat.le_refl 1)];exact wpS_pure ⟨rfl,rfl⟩
  ·obtain⟨rfl,rfl⟩:=y
   exact wpS_pure (h _ d1 d2)
end
section
variable{P:Program}{w:World}{A:Around}{E:Value→Shared→Prop}{s:Shared}{kd:SortKind}
structure Keys(P:Program)(w:World)(A:Around)(s:Shared)(kd:SortKind)(vs:List Value):Prop where
 kind:2≤vs.length→∀(E:Value→Shared→Prop) (Q:SortKind→Shared→Prop),Q kd s→wpAny (model P w) A (keyKind' vs.toArray) Q E s
 cmp:Cmp P w A s kd vs
theorem Vv(vs:List Value):(pairsOf vs).toList.map (·.1)=vs:=by
 rw[pairsOf_toList];exact List.map_fst_zip (Nat.le_refl _)
theorem G2{vs:List Value}{xs:Array Keyed}(h:xs.Perm (pairsOf vs)):(xs.map (·.2)).toList.Perm vs:=by
 have z:=(Array.perm_iff_toList_perm.mp h).map (·.2);rw[pairsOf_toList,List.map_snd_zip (Nat.le_refl _)] at z
 rwa [Array.toList_map]
theorem Zfg{a:Addr}{vs:List Value}{n:Nat}{R:Fin→Shared→Prop}(ho:s.heap.get? a=some (seqObj "list" vs.toArray n))(h64:vs.length < 64)
  (hK:∀ h',(∀ b o,b≠a→s.heap.get? b=some o→h'.get? b=some o)→Keys P w A { s with heap:=h' } kd vs)
  (h:∀ out:Array Value,out.toList.Perm vs→R (.done (.ret .none)) { s with heap:=sortedHeap s.heap a vs out }):wpAny (model P w) A (Builtin.«list.sort» ⟨[.ref a],[]⟩) R E s:=by
 have ha:a < s.heap.objs.size:=Z0 ho;rw[list_sort_plain];refine Zc (listItems_at ho rfl (Zc (listUpdate_at ho rfl ?_)));obtain⟨e1,ho1⟩:∃ e,(s.heap.update a (Obj.mapSeq fun _=>#[])).get? a=some (seqObj "list" #[] e):=⟨_,get?_update_seq ho fun _=>#[]⟩;refine Zc (seqEpoch_at ho1 rfl (Zc (wpAny_newTuple (Zc (wpAny_newList (wpAny_holding ?_))))));show wpAny (model P w) A _ R E { s with heap:=((s.heap.update a (Obj.mapSeq fun _=>#[])).push (seqObj "tuple" vs.toArray 0)).push (seqObj "list" #[] 0) };have ho6:(((s.heap.update a (Obj.mapSeq fun _=>#[])).push (seqObj "tuple" vs.toArray 0)).push (seqObj "list" #[] 0)).get? a=some (seqObj "list" #[] e1):=Zi _ (Zi _ ho1);have kp:=hK (((s.heap.update a (Obj.mapSeq fun _=>#[])).push (seqObj "tuple" vs.toArray 0)).push (seqObj "list" #[] 0)) fun b o hb q=>
  Zi _ (Zi _ (by rw[Heap.get?_update_other _ _ (Ne.symm hb)];exact q))
 have fin:∀ t:SortSt,(arrOf t).Perm (pairsOf vs)→R (.done (.ret .none)) { s with heap:=sortedHeap s.heap a vs ((arrOf t).map (·.2)) }:=fun t hp=>h _ (G2 hp);have sz:vs.toArray.size=vs.length:=List.size_toArray;dsimp only;have szp:∀ t:SortSt,(arrOf t).Perm (pairsOf vs)→((arrOf t).map (·.2)).size≤sizeLine+1:=fun t hp=>by
  rw[Array.size_map,hp.size_eq,pairsOf_size,sizeLine_eq];omega
 by_cases c2:vs.toArray.size < 2
 ·rw[if_pos c2,if_pos c2]
  refine Zc (wpAny_pure ?_);rw[StateT.run_pure];refine Zc (wpAny_pure ?_);dsimp only;refine Zc (seqEpoch_at ho6 rfl (Zc (listUpdate_at ho6 rfl ?_ (hsz2:=szp (SortSt.mk' general' (vs.toArray.zip vs.toArray) #[] 7 none) (Array.Perm.refl _)))));rw[if_neg (by simp)];exact wpAny_pure (fin (SortSt.mk' general' (vs.toArray.zip vs.toArray) #[] 7 none) (Array.Perm.refl _))
 ·rw[if_neg c2,if_neg c2]
  refine Zc (kp.kind (by omega) _ _ ?_);have cm:Cmp P w A { s with heap:=((s.heap.update a (Obj.mapSeq fun _=>#[])).push (seqObj "tuple" vs.toArray 0)).push (seqObj "list" #[] 0) } kd ((pairsOf vs).toList.map (·.1)):=by
   rw[Vv];exact kp.cmp
  have run:=Zfx (E:=E) (Q:=fun _ t=>(arrOf t).Perm (pairsOf vs)∧failedOf t=none) cm (st:=SortSt.mk' kd (vs.toArray.zip vs.toArray) #[] 7 none) ⟨Array.Perm.refl _,rfl,rfl,rfl⟩ (by rw[pairsOf_size];omega) (by rw[pairsOf_size];exact h64) fun t p f=>⟨p,f⟩;refine Zc (wpAny_mono run (fun r s' z=>?_) fun _ _ e=>e);obtain⟨⟨⟩,t⟩:=r;obtain⟨rfl,hp,hf⟩:=z;dsimp only;refine Zc (seqEpoch_at ho6 rfl (Zc (listUpdate_at ho6 rfl ?_ (hsz2:=szp t hp))));rw[hf];dsimp only;rw[if_neg (by simp)];exact wpAny_pure (fin t hp)
theorem Su{l:Addr}{vs:List Value}{Q:Value→Shared→Prop}(hl:s.heap.IsList l vs.toArray)(h64:vs.length < 64)
  (hK:∀ A' h',(∀ b o,s.heap.get? b=some o→h'.get? b=some o)→Keys P w A' { s with heap:=h' } kd vs)
  (h:∀ out:Array Value,out.toList.Perm vs→Q (.ref (s.heap.objs.size+1)) { s with heap:=sortedAll s.heap vs out }):wpAny (model P w) A (call (.builtin "sorted") [.ref l]) Q E s:=by
 refine Calls.call_function_entry kind_sorted plain_sorted entry_sorted (args_sorted1 _) ?_;unfold Builtin.«sorted»;refine Zc (m:=checkCount "sorted" 1 1 _) (wpAny_pure (Zc (collect_list hl ?_ (by rw[sizeLine_eq];omega))));refine Zc (wpAny_newList ?_);have sz:((s.heap.push (seqObj "list" #[] 0)).update s.heap.objs.size (Obj.mapSeq (· ++ vs.toArray))).objs.size=s.heap.objs.size+1:=by rw[Heap.size_update,size_push']
 have hoL:(((s.heap.push (seqObj "list" #[] 0)).update s.heap.objs.size (Obj.mapSeq (· ++ vs.toArray))).push (seqObj "list" vs.toArray 0)).get? (s.heap.objs.size+1)=some (seqObj "list" vs.toArray 0):=sz ▸ Heap.get?_push_size _ rfl;show wpAny _ _ _ _ _ { s with heap:=((s.heap.push (seqObj "list" #[] 0)).update s.heap.objs.size (Obj.mapSeq (· ++ vs.toArray))).push (seqObj "list" vs.toArray 0) };rw[sz];refine Zc (wpAny_holding (wpAny_call_entry slot_list_sort ⟨_,hoL,rfl⟩ entry_list_sort (Zfg (kd:=kd) hoL h64 (fun h' k=>hK _ h' fun b o q=>?_) fun out p=>⟨_,rfl,wpAny_pure ⟨_,rfl,h out p⟩⟩) (args_list_sort _)));have hb:b < s.heap.objs.size:=Z0 q;refine k b o (Nat.ne_of_lt (Nat.lt_succ_of_lt hb)) (Zi _ ?_);rw[Heap.get?_update_other _ _ (Nat.ne_of_lt hb).symm];exact Zi _ q
end
theorem Kr(v:Value):firstOfTuple' v=(do
  if(← typeOf v) != .type "tuple" then return none
  return (← Builtin.List.listItems v)[0]?):=rfl
theorem Zd0(f:Bool)(x y:Value):keyLt' (tuples' f) x y=(do
  let xs ← Builtin.List.listItems x;let ys ← Builtin.List.listItems y
  for ((p,q),i) in (xs.toList.zip ys.toList).zipIdx do
   if !(← eqBool p q) then return ← oneLt' (f && i == 0) p q
  return decide (xs.size < ys.size)):=rfl
section
variable{P:Program}{w:World}{A:Around}{E:Value→Shared→Prop}{s:Shared}
theorem Be{M:Model}{β:Type}{f:Value→Sem β}{g:Value→β}:∀{vs:List Value} {Q:List β→Shared→Prop},(∀ x∈vs,∀(Q:β→Shared→Prop),Q (g x) s→wpAny M A (f x) Q E s)→Q (vs.map g) s→wpAny M A (vs.mapM f) Q E s
 | [],Q,_,h=>by
  rw[List.mapM_nil];exact wpAny_pure h
 | x :: r,Q,hx,h=>by
  rw[List.mapM_cons];exact Zc (hx x Zt _ (Zc (Be (fun y hy=>hx y (Zu _ hy)) (wpAny_pure h))))
theorem Zcb{f:Bool}{a b:Int}{t u:Tok}{Q:Bool→Shared→Prop}(h:∀ b,Q b s):wpAny (model P w) A (oneLt' f (.int a t) (.int b u)) Q E s:=by
 cases f with
 | true=>exact oneLt_int (h _)
 | false=>
  rw[oneLt'_eq];rw[if_neg Zq];refine Zc (wpAny_richCompare_same (T:="int") (typeIs_int s a t) (typeIs_int s b u) slot_int_lt (call_int_lt ⟨nofun,?_⟩));exact wpAny_truthy_bool (h _)
def O4(h:Heap)(v:Value):Prop:=∃(a:Addr) (i j:Int) (t u:Tok) (o:Obj) (n:Nat),v = .ref a∧h.get? a=some o∧o.cls = .type "tuple"∧o.data = .seq #[.int i t,.int j u] n
theorem Zei{vs:List Value}(hp:∀ v∈vs,O4 s.heap v)(f:Bool):Cmp P w A s (tuples' f) vs:=by
 intro x hx y hy E Q h;obtain⟨a,i,j,t,u,o,n,rfl,ho,hc,hd⟩:=hp x hx;obtain⟨a2,i2,j2,t2,u2,o2,n2,rfl,ho2,hc2,hd2⟩:=hp y hy;rw[Zd0];refine Zc (listItems_at ho hd (Zc (listItems_at ho2 hd2 ?_)));show wpAny (model P w) A (do
  let r ← forIn [((Value.int i t,Value.int i2 t2),0),((Value.int j u,Value.int j2 u2),1)] (none,()) _
  _) Q E s
 rw[List.forIn_cons];refine Zc (Zc ?_);refine Zc (wpAny_eqBool_int ?_);by_cases c:(i == i2)=true
 ·rw[c,if_neg (by decide)]
  refine wpAny_pure ?_;show wpAny (model P w) A (forIn [((Value.int j u,Value.int j2 u2),1)] ((none,()):Option Bool×Unit) _) _ E s;rw[List.forIn_cons];refine Zc (Zc (wpAny_eqBool_int ?_));by_cases d:(j == j2)=true
  ·rw[d,if_neg (by decide)]
   refine wpAny_pure ?_;show wpAny (model P w) A (forIn [] ((none,()):Option Bool×Unit) _) _ E s;rw[List.forIn_nil];exact wpAny_pure (wpAny_pure (h _))
  ·rw[Bool.eq_false_iff.mpr d,if_pos (by decide)]
   exact Zc (Zcb fun b=>wpAny_pure (wpAny_pure (wpAny_pure (h b))))
 ·rw[Bool.eq_false_iff.mpr c,if_pos (by decide)]
  exact Zc (Zcb fun b=>wpAny_pure (wpAny_pure (wpAny_pure (h b))))
theorem Zau{vs:List Value}(hp:∀ v∈vs,O4 s.heap v)(h2:2≤vs.length){Q:SortKind→Shared→Prop}(h:Q (tuples' true) s):wpAny (model P w) A (keyKind' vs.toArray) Q E s:=by
 rw[keyKind'_eq,List.mapM_toArray];obtain⟨g,hg⟩:∃ g:Value→Option Value,∀ v∈vs,∃(i:Int) (t:Tok),g v=some (.int i t)∧∀(Q:Option Value→Shared→Prop),Q (g v) s→wpAny (model P w) A (firstOfTuple' v) Q E s:=by
  have all:∀ v∈vs,∃ y:Option Value,∃(i:Int) (t:Tok),y=some (.int i t)∧∀(Q:Option Value→Shared→Prop),Q y s→wpAny (model P w) A (firstOfTuple' v) Q E s:=by
   intro v hv;obtain⟨a,i,j,t,u,o,n,rfl,ho,hc,hd⟩:=hp v hv;refine⟨some (.int i t),i,t,rfl,fun Q q=>?_⟩;rw[Kr];refine Zc (wpAny_typeOf (T:="tuple") ⟨o,ho,hc⟩ ?_);rw[if_neg (by decide)];exact Zc (listItems_at ho hd (wpAny_pure q))
  refine⟨fun v=>if hv:v∈vs then(all v hv).choose else none,fun v hv=>?_⟩;dsimp only;rw[dif_pos hv];exact(all v hv).choose_spec
 refine Zc ?_;rw[map_eq_pure_bind];refine Zc (Be (g:=g) (fun x hx Q q=>(hg x hx).choose_spec.choose_spec.2 Q q) (wpAny_pure ?_));have e1:((vs.map g).toArray.all fun x=>x.isSome)=true:=by
  rw[List.all_toArray,List.all_map,List.all_eq_true];intro v hv;obtain⟨i,t,e,_⟩:=hg v hv;show(g v).isSome=true;rw[e];rfl
 rw[if_pos e1];refine Zc (wpAny_rule (Zc ?_));rw[oneTypeOnly'_eq];have allI:∀ x∈(vs.map g).filterMap id,∃(i:Int) (t:Tok),x = .int i t:=by
  intro x hx;obtain⟨y,hy,e⟩:=List.mem_filterMap.mp hx;obtain⟨v,hv,rfl⟩:=Zw.mp hy;obtain⟨i,t,e2,_⟩:=hg v hv;have e3:g v=some x:=e;rw[e2] at e3;cases e3;exact⟨i,t,rfl⟩
 have ne:∃ x r,(vs.map g).filterMap id=x :: r:=by
  cases vs with
  | nil=>exact absurd h2 (by decide)
  | cons v r=>
   obtain⟨i,t,e2,_⟩:=hg v Zt;refine⟨.int i t,(r.map g).filterMap id,?_⟩;rw[List.map_cons,List.filterMap_cons];rw[e2];rfl
 have ea:(Array.filterMap id (vs.map g).toArray)=((vs.map g).filterMap id).toArray:=by simp
 rw[ea];generalize (vs.map g).filterMap id=zs at allI ne;obtain⟨x,r,rfl⟩:=ne;refine Zc ?_;rw[List.mapM_toArray,map_eq_pure_bind];refine Zc (Be (g:=fun _=>Value.type "int") (fun y hy Q q=>?_) (wpAny_pure ?_))
 ·obtain⟨i,t,rfl⟩:=allI y hy
  exact wpAny_typeOf (typeIs_int s i t) q
 ·have hall:(((x :: r).map fun _=>Value.type "int").toArray.all fun y=>y == Value.type "int")=true:=by
   rw[List.all_toArray,List.all_map,List.all_eq_true];intro _ _;rfl
  have h0:((x :: r).map fun _=>Value.type "int").toArray[0]? = some (Value.type "int"):=rfl;rw[h0];dsimp only;rw[hall];exact wpAny_pure (wpAny_pure h)
theorem Zaw{vs:List Value}(hp:∀ v∈vs,O4 s.heap v):Keys P w A s (tuples' true) vs:=⟨fun h2 E Q q=>Zau hp h2 q,Zei hp true⟩
end
theorem Vc{X:Cx}:Ui X (.builtin "sorted") (fun xs H Q=>∃(a:Addr) (ps:List Addr),xs=[.ref a]∧SqL X.K H a (ps.map V.ref)∧ps.length < 64∧(∀ p∈ps,∃ i j:Int,SqT X.K H p [.int i,.int j]) ∧
  ∀(l:Addr) (qs:List Addr),H l=none→qs.Perm ps→Q (.ref l) (upd H l (.lst (qs.map V.ref)))):=by
 intro pins s σ H xs us Q I r h;obtain⟨a,ps,rfl,hS,h64,hP,q⟩:=h;obtain⟨u,rfl,ru⟩:=U2 r;cases ru;obtain⟨its,vi,pl,hz⟩:=I.list hS;have ei:∀(ps:List Addr) (its:List Value),Vals (ps.map V.ref) its→its=ps.map Value.ref:=by
  intro ps
  induction ps with
  | nil=>intro its z;cases z;rfl
  | cons p r ih=>
   intro its z;cases z with
   | cons z1 z2=>
    have e:_=Value.ref p:=z1;rw[e,ih _ z2];rfl
 have e:=ei ps its vi;subst e;have pairs:∀ v∈ps.map Value.ref,O4 s.heap v:=by
  intro v hv;obtain⟨p,hp,rfl⟩:=Zw.mp hv;obtain⟨i,j,hT⟩:=hP p hp;obtain⟨its2,v2,⟨o,ho,hc,n,hd⟩,_⟩:=I.tuple hT;cases v2 with
  | cons a1 a2=>
   cases a2 with
   | cons b1 b2=>
    cases b2;obtain⟨t,rfl⟩:=a1;obtain⟨u,rfl⟩:=b1;exact⟨p,i,j,t,u,o,n,rfl,ho,hc,hd⟩
 refine Su (kd:=tuples' true) (Ue pl) (by rw[Zf];exact h64) (fun A' h' k=>Zaw fun v hv=>?_) fun out hp=>?_
 ·obtain⟨p,i,j,t,u,o,n,rfl,ho,hc,hd⟩:=pairs v hv
  exact⟨p,i,j,t,u,o,n,rfl,k _ _ ho,hc,hd⟩
 ·obtain⟨qs,eq,pq⟩:∃ qs:List Addr,out.toList=qs.map Value.ref∧qs.Perm ps:=by
   have un:∀ l:List Value,(∀ v∈l,∃ p,v=Value.ref p)→∃ qs:List Addr,l=qs.map Value.ref:=by
    intro l
    induction l with
    | nil=>intro _;exact⟨[],rfl⟩
    | cons v r ih=>
     intro hv;obtain⟨p,rfl⟩:=hv v Zt;obtain⟨qs,rfl⟩:=ih fun y hy=>hv y (Zu _ hy);exact⟨p :: qs,rfl⟩
   obtain⟨qs,e⟩:=un out.toList fun v hv=>by
    obtain⟨p,_,rfl⟩:=Zw.mp (hp.mem_iff.mp hv);exact⟨p,rfl⟩
   refine⟨qs,e,?_⟩;rw[e] at hp;have z:=hp.map fun v=>match v with | .ref p=>p | _=>0
   rw[Z1,Z1] at z;have c:((fun v=>match v with | .ref p=>p | _=>0) ∘ Value.ref:Addr→Addr)=id:=rfl
   rwa [c,List.map_id,List.map_id] at z
  obtain⟨e,he⟩:=sortedAll_at s.heap (ps.map Value.ref) out;have hf:H (s.heap.objs.size+1)=none:=I.hok.fresh (Nat.le_succ _);have vq:∀ qs:List Addr,Vals (qs.map V.ref) (qs.map Value.ref):=by
   intro qs
   induction qs with
   | nil=>exact .nil
   | cons p r ih=>exact .cons rfl ih
  refine⟨.ref (s.heap.objs.size+1),upd H (s.heap.objs.size+1) (.lst (qs.map V.ref)),I.laid (t':=s.toks) (fun b u q=>sortedAll_old q) (Nat.le_succ _) ⟨?_,qs.map Value.ref,e,vq qs,?_⟩,rfl,q _ qs hf pq⟩
  ·rw[Zf,pq.length_eq,sizeLine_eq]
   omega
  ·rw[he,← eq]
section
variable{X:Cx}
theorem Kz(hc:X.calm=true):Ui X (.builtin "sum") (fun xs H Q=>∃(a:Addr) (ns:List Int),xs=[.ref a]∧SqL X.K H a (ns.map V.int)∧Q (.int ns.sum) H):=by
 intro pins s σ H xs us Q I r h;obtain⟨a,ns,rfl,hS,q⟩:=h;obtain⟨u,rfl,ru⟩:=U2 r;cases ru;obtain⟨its,vi,pl,hz⟩:=I.list hS;have hi:=Yq vi;obtain⟨xs,hx⟩:=hi.allInts.items;have hl:s.heap.IsList a (intItems xs):=hx ▸ Ue pl;refine sum_intListG (I.ok.hd hc) hl fun h' tk t' hk=>?_;have e1:ns=xs.toList.map (·.1):=by
  rw[← nums_intItems,← hx];exact hi.numsOf.symm
 have e2:preSum (numAt xs) xs.size=ns.sum:=by
  rw[e1,preSum_eq,List.take_of_length_le (by simp)]
 rw[e2];exact⟨.int ns.sum,H,I.kept hk,⟨_,rfl⟩,q⟩
end
section
open PySem.SeqAt
open PySem.AutoSeq1 (wpAny_loadPart')
open PySem.MeetsSeq PySem.MeetsSeq2 PySem.MeetsSeq3
theorem Nn{xs:Array Value}{i:Nat}{ns:List Int}(h:IntsAre (xs.toList.drop i) ns):(ns=[]∧xs[((i:Nat):Int).toNat]? = none∧xs.size≤i)∨∃(c:Int) (t:Tok) (r:List Int),ns=c :: r∧xs[((i:Nat):Int).toNat]? = some (.int c t)∧i < xs.size∧IntsAre (xs.toList.drop (i+1)) r:=by
 by_cases lt:i < xs.size
 ·right
  have e:xs.toList.drop i=xs[i] :: xs.toList.drop (i+1):=by simp [List.drop_eq_getElem_cons,lt]
  rw[e] at h;generalize xs.toList.drop (i+1)=tl at h ⊢;generalize hv:xs[i]=v at h;cases h with
  | cons c t h2=>exact⟨c,t,_,rfl,by rw[Zz,getElem?_pos xs i lt,hv],lt,h2⟩
 ·left
  have e:xs.toList.drop i=[]:=List.drop_eq_nil_of_le (by simpa using lt);rw[e] at h;cases h;exact⟨rfl,by simp;omega,by omega⟩
theorem Zkk(l b:Addr)(xs ys:Array Value)(n n2:Nat)(dd dd2:Option Addr)(sl sl2:Array (Option Value)):∀(k i:Nat) (ns ms:List Int),ns.length=k→IntsAre (xs.toList.drop i) ns→IntsAre (ys.toList.drop i) ms→i≤xs.size→i≤ys.size →
  Meets (Builtin.«list.__eq__.loop» ⟨[.ref l,.ref b,rawInt ((i:Nat):Int),rawInt 0],[]⟩) (fun A R s=>s.heap.get? l=some { cls:=.type "list",dict:=dd,data:=.seq xs n,slots:=sl } ∧
   s.heap.get? b=some { cls:=.type "list",dict:=dd2,data:=.seq ys n2,slots:=sl2 }∧R (.ok (.ret (.bool (HT.lexLt ns ms)))) s):=by
 intro k
 induction k with
 | zero=>
  intro i ns ms hk hx hy bx bY prog w A R s h;obtain⟨hp,g,d,tk,os⟩:=s;obtain⟨hl,hb,h⟩:=h;have e0:ns=[]:=List.eq_nil_of_length_eq_zero hk;subst e0;rcases Nn hx with⟨_,i1,lx⟩ | ⟨c,t,r,q,_⟩
  ·have h2:HT.lexLt [] ms=decide (xs.size < ys.size):=by
    rcases Nn hy with⟨rfl,_,ly⟩ | ⟨c,t,r,rfl,_,ly,_⟩
    ·exact(Zd (by omega)).symm
    ·exact(Ze (by omega)).symm
   rw[h2] at h
   wp_walk using wpAny_loadPart' hl,wpAny_loadPart' hb
   rw[i1]
   wp_walk using wpAny_loadPart' hl,wpAny_loadPart' hb
   exact h
  ·cases q
 | succ k ih=>
  intro i ns ms hk hx hy bx bY prog w A R s h;obtain⟨hp,g,d,tk,os⟩:=s;obtain⟨hl,hb,h⟩:=h;rcases Nn hx with⟨rfl,_,_⟩ | ⟨c,t,r,rfl,i1,lx,hx2⟩
  ·cases hk
  rcases Nn hy with⟨rfl,i2,ly⟩ | ⟨c2,t2,r2,rfl,i2,ly,hy2⟩
  ·rw[show HT.lexLt (c :: r) []=decide (xs.size < ys.size) from(Zd (by omega)).symm] at h
   wp_walk using wpAny_loadPart' hl,wpAny_loadPart' hb
   rw[i1,i2]
   wp_walk using wpAny_loadPart' hl,wpAny_loadPart' hb
   exact h
  ·wp_walk using wpAny_loadPart' hl,wpAny_loadPart' hb
   rw[i1,i2];refine Zc (wpAny_eqBool_int ?_);have up:((i:Int)+1)=((i+1:Nat):Int):=by omega
   by_cases e:c=c2
   ·subst e
    rw[HT.lexLt_cons,if_pos rfl] at h;rw[beq_self_eq_true]
    wp_walk
    rw[up];refine⟨plainId_quiet plain_eq_loop _,codeAny_builtin entry_eq_loop ?_⟩;rw[Around.under_plainId plain_eq_loop _];exact ih (i+1) r r2 (by simpa using hk) hx2 hy2 lx ly prog w A R _ ⟨hl,hb,h⟩
   ·rw[HT.lexLt_cons,if_neg e] at h
    rw[show(c == c2)=false from beq_eq_false_iff_ne.mpr e]
    wp_walk using wpAny_loadPart' hl,wpAny_loadPart' hb
    rw[i1,i2];have hr:=HT.rcLt_int A.in1 ⟨hp,g,d,tk,os⟩ c t c2 t2 prog w
    wp_walk using hr
    exact h
theorem Oo(l b:Addr)(xs ys:Array Value)(n n2:Nat)(dd dd2:Option Addr)(sl sl2:Array (Option Value))(ns ms:List Int)(hx:IntsAre xs.toList ns)(hy:IntsAre ys.toList ms) :
  Meets (Builtin.«list.__lt__» ⟨[.ref l,.ref b],[]⟩) (fun A R s=>s.heap.get? l=some { cls:=.type "list",dict:=dd,data:=.seq xs n,slots:=sl } ∧
   s.heap.get? b=some { cls:=.type "list",dict:=dd2,data:=.seq ys n2,slots:=sl2 }∧R (.ok (.ret (.bool (HT.lexLt ns ms)))) s):=by
 intro prog w A R s h;obtain⟨hp,g,d,tk,os⟩:=s;obtain⟨hl,hb,h⟩:=h;have f3:=AutoSeq1.sub_list_list
 wp_walk using wpAny_loadPart' hl,wpAny_loadPart' hb
 refine⟨plainId_quiet plain_eq_loop _,codeAny_builtin entry_eq_loop ?_⟩;rw[Around.under_plainId plain_eq_loop _];exact Zkk l b xs ys n n2 dd dd2 sl sl2 _ 0 ns ms rfl hx hy (Nat.zero_le _) (Nat.zero_le _) prog w A R _ ⟨hl,hb,h⟩
end
section
variable{X:Cx}
end
theorem Zeg{te:TE}{σ0:St}{H1:Hp}{Q:V→Hp→Prop}{lo:Int}{n:Nat}(G:Nat→V→Hp→Prop)(hn:n≤sizeLine)(hG:∀ i v H H',G i v H→Same H H'→G i v H')(hU:∀ i v H l xs ys,G i v H→H l=some (.lst xs)→G i v (upd H l (.lst ys)))
  (hE:∀ i H,i < n→Same H1 H→∀ R:V→Hp→Prop,(∀ v H',Same H H'→G i v H'→R v H')→te (σ0.set 0 (some (.int (lo+(i:Nat))))) H R)
  (hQ:∀ l H vs,Same H1 H→H1 l=none→H l=some (.lst vs)→vs.length=n→(∀ i v,vs[i]? = some v→G i v H)→Q (.ref l) H):Xr (Uv 0) Ad te σ0 (Itr lo n) H1 Q:=by
 intro l hl;refine⟨fun i m σ H=>m=n - i∧i≤n∧Same H1 H∧(∃ vs,H l=some (.lst vs)∧vs.length=i∧∀ j v,vs[j]? = some v→G j v H)∧∀ o,σ.set 0 o=σ0.set 0 o,⟨n,by simp,Nat.zero_le _,Zx hl _,⟨[],Zn,rfl,fun j v z=>by simp at z⟩,fun _=>rfl⟩,?_⟩;rintro i m σ H ⟨rfl,hi,sm,⟨vs,hL,hvl,hvs⟩,hσ⟩;by_cases lt:i < n
 ·refine .inr ⟨lt,fun x H' y=>?_⟩
  obtain⟨rfl,rfl⟩:=y;unfold Uv Ad;dsimp only;rw[hσ,if_pos rfl];refine hE i H' lt sm _ fun v H3 s3 hv=>⟨vs,s3 _ _ hL,by omega,n - (i+1),by omega,rfl,lt,Ux hl (sm.trans s3) _,⟨vs++[v],Zn,by rw[Zs,hvl];rfl,fun j u hj=>?_⟩,fun o=>List.set_set _⟩;by_cases c:j < vs.length
  ·rw[Ji c] at hj
   exact hU j u H3 l _ _ (hG j u H' H3 (hvs j u hj) s3) (s3 _ _ hL)
  ·rw[Jd (by omega)] at hj
   have e:j - vs.length=0:=by
    cases q:j - vs.length with
    | zero=>rfl
    | succ k=>rw[q] at hj;simp at hj
   rw[e] at hj;have e2:v=u:=by simpa using hj
   subst e2;have e3:j=i:=by omega
   subst e3;exact hU j v H3 l _ _ hv (s3 _ _ hL)
 ·have e:i=n:=by omega
  subst e;exact .inl ⟨Nat.le_refl _,hQ l H vs sm hl hL hvl hvs⟩
section
variable{X:Cx}{pins:List (Addr×Obj)}{σ:St}{H:Hp}{s:Shared}
end
section
variable{X:Cx}
theorem M5(hc:X.calm=true):Ui X (.builtin "max") (fun xs H Q=>∃(a:Addr) (ns:List Int),xs=[.ref a]∧SqL X.K H a (ns.map V.int)∧0 < ns.length∧∀ M,M∈ns→(∀ k∈ns,k≤M)→Q (.int M) H):=by
 intro pins s σ H xs us Q I r h;obtain⟨a,ns,rfl,hS,hn,q⟩:=h;obtain⟨u,rfl,ru⟩:=U2 r;cases ru;obtain⟨its,vi,pl,hz⟩:=I.list hS;have hi:=Yq vi;obtain⟨xs,hx⟩:=hi.allInts.items;have hl:s.heap.IsList a (intItems xs):=hx ▸ Ue pl;have hns:ns=xs.toList.map (·.1):=by
  rw[← nums_intItems,← hx];exact hi.numsOf.symm
 have hsz:0 < xs.size:=by
  rw[hns,Zf,Array.length_toList] at hn;exact hn
 refine max_intList (I.ok.hd hc) hl hsz fun v h' tk hv hk=>?_;obtain⟨t,rfl⟩:=intItems_at hv;obtain⟨g1,g2⟩:=argBest_gt (numAt xs) (xs.size - 1);refine⟨.int _,H,I.kept hk,⟨_,rfl⟩,q _ ?_ fun k hk'=>?_⟩
 ·rw[hns,numAt_eq]
  exact getD_mem (by rw[Zf,Array.length_toList];omega)
 ·rw[hns] at hk'
  obtain⟨j,hj,rfl⟩:=mem_getD hk';rw[Zf,Array.length_toList] at hj;rw[← numAt_eq];exact g2 j (by omega)
theorem E6:MtR X "list.index" (fun x xs H Q=>∃(a:Addr) (k:Int) (ns:List Int) (j:Nat),x = .ref a∧xs=[.int k]∧SqL X.K H a (ns.map V.int)∧ns.length≤1000∧ns[j]? = some k∧(∀ m < j,ns[m]?≠some k)∧Q (.int (j:Nat)) H):=by
 intro pins s σ H x xs v us Q I rx rv h;obtain⟨a,k,ns,j,rfl,rfl,hS,hl,hj,hno,q⟩:=h;cases rx;obtain⟨u,rfl,t,rfl⟩:=U2 rv;obtain⟨its,vi,pl,hz⟩:=I.list hS;have hi:=Yq vi;obtain⟨⟨cls,dd,data,sl⟩,ho,hc,n,hd⟩:=Ue pl;simp only at hc hd;subst hc hd;have len:its.length=ns.length:=hi.length;have at_:∀ m (hm:m < its.toArray.size),isInt k its.toArray[m]=decide (ns[m]? = some k):=fun m hm=>by
  have hm':m < ns.length:=by rw[← len];simpa using hm
  obtain⟨t0,e0⟩:=PyProof.Rows.IntsAre.get hi m ns[m] (Za hm');have e1:its.toArray[m] = .int ns[m] t0:=by
   have hm2:m < its.length:=by simpa using hm
   have e2:its[m]? = some its[m]:=Za hm2;have e3:its[m] = .int ns[m] t0:=by
    rw[e0] at e2;exact(Zr e2).symm
   simpa using e3
  rw[e1,Za hm'];show(_ == _)=_;by_cases c:ns[m]=k
  ·rw[c]
   simp
  ·have c2:¬ k=ns[m]:=fun z=>c z.symm
   simp [c,c2]
 have jl:j < its.toArray.size:=by
  have:=(Zh.mp hj).1;simp [len,this]
 refine call_meets PySem.F.slot_list_index ⟨_,ho,rfl⟩ PySem.F.entry_list_index (PySem.F.args_list_index_2 _ _) (PySem.SeqAt.list_indexAt a its.toArray n dd sl (.int k t) (isInt k) j jl ?_ ?_ ?_) ⟨ho,fun y hy=>(eq_isInt k t hi y (by simpa using hy)).at _ _,⟨.int (j:Nat),H,I.tok _,⟨_,rfl⟩,q⟩⟩
 ·have:ns.length≤1000:=hl
  have:=(Zh.mp hj).1;omega
 ·rw[at_ j jl,hj]
  exact Ze rfl
 ·intro m hm hmj
  rw[at_ m hm];exact Zd (hno m hmj)
end
theorem A4{X:Cx}(hu:X.A.units+64 < cLine):Eo X (compareOp .NotEq) (fun x y H Q=>∃(a b:Addr) (xs:List V),x = .ref a∧y = .ref b∧SqL X.K H a xs∧SqL X.K H b []∧Q (.bl (!xs.isEmpty)) H):=by
 intro pins s σ H x y v u Q I rx ry h;obtain⟨a,b,xs,rfl,rfl,hA,hB,q⟩:=h;cases xs with
 | nil=>exact Zm6 hu pins s σ H _ _ v u Q I rx ry ⟨a,b,[],[],rfl,rfl,hA,hB,q⟩
 | cons x0 xr=>
  cases rx;cases ry;obtain⟨ia,va,pa,_⟩:=I.list hA;obtain⟨ib,vb,pb,_⟩:=I.list hB;have l1:=va.length;have l2:=vb.length;obtain⟨⟨cls,dd,data,sl⟩,ho,hc,n,hd⟩:=Ue pa;obtain⟨⟨cls2,dd2,data2,sl2⟩,ho2,hc2,n2,hd2⟩:=Ue pb;simp only at hc hd hc2 hd2;subst hc hd hc2 hd2;refine richCompare_meets_room (op:=.NotEq) ⟨_,ho,rfl⟩ ⟨_,ho2,rfl⟩ PySem.F.slot_list_ne PySem.F.entry_list_ne (PySem.F.args_list_ne_2 _ _) (PySem.SeqAt.list_ne_lengthsAt a b ia.toArray ib.toArray n n2 dd dd2 sl sl2 ?_) ⟨ho,ho2,(fun z=>nomatch z),.bl true,H,I,rfl,q⟩ (by omega);simp only[List.size_toArray,← l1,← l2,Jc,List.length_nil];simp
theorem Zf3(A:Around)(s:Shared)(a:Int)(t:Tok)(c:Int)(u:Tok)(prog:Program)(w:World)(E:Value→Shared→Prop)(Q:Value→Shared→Prop)(h:Q (.bool (decide (c < a))) s) :
  wpAny (model prog w) A (richCompare .Gt (.int a t) (.int c u)) Q E s:=
 (PyProof.Rows.gt_int h:wpAny (model prog w) A (compareOp .Gt (.int a t) (.int c u)) Q E s)
section
open PySem.SeqAt
open PySem.AutoSeq1 (wpAny_loadPart')
open PySem.MeetsSeq PySem.MeetsSeq2 PySem.MeetsSeq3
theorem Np(l b:Addr)(items items2:Array Value)(n n2:Nat)(dd dd2:Option Addr)(sl sl2:Array (Option Value))(ns ms:List Int)(hi:IntsAre items.toList ns)(hj:IntsAre items2.toList ms) :
  Meets (Builtin.«tuple.__gt__» ⟨[.ref l,.ref b],[]⟩)
   (fun _ R s=>s.heap.get? l=some { cls:=.type "tuple",dict:=dd,data:=.seq items n,slots:=sl }∧s.heap.get? b=some { cls:=.type "tuple",dict:=dd2,data:=.seq items2 n2,slots:=sl2 } ∧
    R (.ok (.ret (.bool (HT.lexLt ms ns)))) s):=
 .of_wp fun prog w A R s h=>by
  obtain⟨hp,g,d,tk,os⟩:=s;obtain⟨hl,hb,h⟩:=h;have f2:=AutoSeq1.sub_tuple_tuple;have z1:items.size=ns.length:=by rw[← hi.length];simp
  have z2:items2.size=ms.length:=by rw[← hj.length];simp
  wp_walk using wpAny_loadPart' hl,wpAny_loadPart' hb,wpAny_forIn_list _ (fun Ew b s'=>b.1=none∧s'=⟨hp,g,d,tk,os⟩∧∃(vs ws:List Value) (ns' ms':List Int),Ew=vs.zip ws ∧
   IntsAre vs ns'∧IntsAre ws ms'∧ns'.length+items2.size=ms'.length+items.size∧R (.ok (.ret (.bool (HT.lexLt ms' ns')))) ⟨hp,g,d,tk,os⟩) _
  case turn=>
   rintro⟨y,x⟩ Ew b s' ⟨hb',rfl,vs,ws,ns',ms',hz,hvi,hwi,hlen,hR⟩;cases hvi with
   | nil=>rw[List.zip_nil_left] at hz;cases hz
   | cons a t hvi'=>
    cases hwi with
    | nil=>rw[List.zip_nil_right] at hz;cases hz
    | cons c u hwi'=>
     rw[List.zip_cons_cons] at hz;injection hz with hyx hrest
     injection hyx with hy hx
     subst hy hx;rw[HT.lexLt_cons] at hR;simp only[Jc] at hlen;obtain⟨e,he,hiff⟩:=HT.eqAt_int A.in1 ⟨hp,g,d,tk,os⟩ a t c u;refine Zc (he prog w _ _ ?_);cases e with
     | true=>
      rw[if_pos (hiff.mp rfl).symm] at hR
      wp_walk
      exact⟨rfl,rfl,_,_,_,_,hrest,hvi',hwi',by omega,hR⟩
     | false=>
      rw[if_neg (fun q=>absurd (hiff.mpr q.symm) Zq)] at hR;have hri:=Zf3 A.in1 ⟨hp,g,d,tk,os⟩ a t c u prog w
      wp_walk using hri
      exact⟨_,rfl,by simpa using hR⟩
  case fin=>
   rintro⟨b1,b2⟩ s' ⟨hb',rfl,vs,ws,ns',ms',hz,hvi,hwi,hlen,hR⟩;simp only at hb';subst hb';have hv:HT.lexLt ms' ns'=decide (items2.size < items.size):=by
    cases hvi with
    | nil=>
     cases hwi with
     | nil=>
      simp only[List.length_nil] at hlen;rw[HT.lexLt_nil_nil];exact(Zd (by omega)).symm
     | cons c u hw=>
      simp only[List.length_nil,Jc] at hlen;rw[HT.lexLt_cons_nil];exact(Zd (by omega)).symm
    | cons a t hv=>
     cases hwi with
     | nil=>
      simp only[List.length_nil,Jc] at hlen;rw[HT.lexLt_nil_cons];exact(Ze (by omega)).symm
     | cons c u hw=>
      rw[List.zip_cons_cons] at hz;cases hz
   rw[hv] at hR
   wp_walk
   exact⟨_,rfl,by simpa [Builtin.Tuple.tupleCompareSizes] using hR⟩
  case h=>
   exact⟨rfl,rfl,items.toList,items2.toList,ns,ms,rfl,hi,hj,by omega,h⟩
end
section
variable{X:Cx}
theorem Zm7(hu:X.A.units+64 < cLine):Eo X (compareOp .Gt) (fun x y H Q=>∃(a b:Addr) (ns ms:List Int),x = .ref a∧y = .ref b∧SqT X.K H a (ns.map V.int)∧SqT X.K H b (ms.map V.int)∧Q (.bl (HT.lexLt ms ns)) H):=by
 intro pins s σ H x y v u Q I rx ry h;obtain⟨a,b,ns,ms,rfl,rfl,ha,hb,q⟩:=h;cases rx;cases ry;obtain⟨its,r1,p1,_⟩:=I.tuple ha;obtain⟨its2,r2,p2,_⟩:=I.tuple hb;have i1:IntsAre its.toArray.toList ns:=Yq r1;have i2:IntsAre its2.toArray.toList ms:=Yq r2;obtain⟨⟨cls,dd,data,sl⟩,ho,hc,n,hd⟩:=id p1;obtain⟨⟨cls2,dd2,data2,sl2⟩,ho2,hc2,n2,hd2⟩:=id p2;simp only at hc hd hc2 hd2;subst hc hd hc2 hd2;exact richCompare_meets_room (op:=.Gt) ⟨_,ho,rfl⟩ ⟨_,ho2,rfl⟩ PySem.F.slot_tuple_gt PySem.F.entry_tuple_gt (PySem.F.args_tuple_gt_2 _ _) (Np a b its.toArray its2.toArray n n2 dd dd2 sl sl2 ns ms i1 i2)
  ⟨ho,ho2,(fun z=>nomatch z),.bl (HT.lexLt ms ns),H,I,rfl,q⟩ (by omega)
def B7:List V→List V→Bool
 | [],[]=>true
 | x :: xs,y :: ys=>Ma x y && B7 xs ys
 | _,_=>false
theorem B6:∀(xs ys:List V),((List.range (min xs.length ys.length)).all (fun j=>Ma (xs.getD j .non) (ys.getD j .non)) && xs.length == ys.length)=B7 xs ys
 | [],[]=>rfl
 | [],_ :: _=>rfl
 | _ :: _,[]=>rfl
 | x :: xs,y :: ys=>by
  have e:min (x :: xs).length (y :: ys).length=min xs.length ys.length+1:=by simp only[Jc];omega
  rw[e,List.range_succ_eq_map,List.all_cons,List.all_map];show _=(Ma x y && B7 xs ys);rw[← B6 xs ys,Bool.and_assoc];have e2:((x :: xs).length == (y :: ys).length)=(xs.length == ys.length):=by simp
  rw[e2];rfl
theorem U5{xs:List V}{us:List Value}(r:Vals xs us)(f:xs.all U3=true){j:Nat}(h:j < us.toArray.size):RelV (xs.getD j .non) us.toArray[j]∧U3 (xs.getD j .non)=true:=by
 have hj:j < us.length:=by simpa using h
 have hx:j < xs.length:=by rw[r.length];exact hj
 obtain⟨u,e,ru⟩:=r.get (Za hx);rw[Za hj] at e;have g:xs.getD j .non=xs[j]:=by rw[Zj,Za hx];rfl
 rw[g];have eu:us[j]=u:=Zr e;refine⟨?_,List.all_eq_true.mp f _ (J3 hx)⟩;show RelV xs[j] us.toArray[j];rw[List.getElem_toArray,eu];exact ru
def Zo4(K:W.Frag)(tup neg:Bool):R2:=fun x y H Q=>∃(a b:Addr) (xs ys:List V),x = .ref a∧y = .ref b∧(if tup then SqT K H a xs∧SqT K H b ys else SqL K H a xs∧SqL K H b ys)∧xs.all U3=true∧ys.all U3=true∧Q (.bl (if neg then !B7 xs ys else B7 xs ys)) H
theorem Zjy(hu:X.A.units+64 < cLine):Eo X (compareOp .NotEq) (Zo4 X.K true true):=by
 intro pins s σ H x y v u Q I rx ry h;obtain⟨a,b,xs,ys,rfl,rfl,⟨ha,hb⟩,fx,fy,q⟩:=h;cases rx;cases ry;obtain⟨its,r1,p1,_⟩:=I.tuple ha;obtain⟨its2,r2,p2,_⟩:=I.tuple hb;refine SeqAt.RcNeAt.tuples (e:=fun j=>Ma (xs.getD j .non) (ys.getD j .non)) p1 p2 (by omega) (fun j h1 h2=>Oy (U5 r1 fx h1).1 (U5 r2 fy h2).1 (U5 r1 fx h1).2 (U5 r2 fy h2).2) _ _ _ _ ⟨.bl _,H,I,rfl,?_⟩;have z:=B6 xs ys;rw[r1.length,r2.length] at z;rw[List.size_toArray,List.size_toArray,z];exact q
theorem Ku:∀{xs ys:List V},xs.length≠ys.length→B7 xs ys=false
 | [],[],h=>absurd rfl h
 | [],_ :: _,_=>rfl
 | _ :: _,[],_=>rfl
 | x :: xs,y :: ys,h=>by
  show(Ma x y && B7 xs ys)=false;rw[Ku (xs:=xs) (ys:=ys) (fun z=>h (by simp [z])),Bool.and_false]
theorem Zjz(hu:X.A.units+64 < cLine):Eo X (compareOp .NotEq) (Zo4 X.K false true):=by
 intro pins s σ H x y v u Q I rx ry h;obtain⟨a,b,xs,ys,rfl,rfl,⟨ha,hb⟩,fx,fy,q⟩:=h;cases rx;cases ry;obtain⟨its,r1,p1,_⟩:=I.list ha;obtain⟨its2,r2,p2,_⟩:=I.list hb;by_cases e:xs.length=ys.length
 ·refine SeqAt.RcNeAt.lists (e:=fun j=>Ma (xs.getD j .non) (ys.getD j .non)) p1.isList p2.isList (by simp [← r1.length,← r2.length,e]) (by omega) (fun j h1 h2=>Oy (U5 r1 fx h1).1 (U5 r2 fy h2).1 (U5 r1 fx h1).2 (U5 r2 fy h2).2) _ _ _ _ ⟨.bl _,H,I,rfl,?_⟩
  have z:=B6 xs ys;rw[e,Nat.min_self,beq_self_eq_true,Bool.and_true,← e,r1.length] at z;rw[List.size_toArray,z];exact q
 ·refine SeqAt.RcNeAt.lists_lengths p1.isList p2.isList (by simp [← r1.length,← r2.length,e]) (by omega) _ _ _ _ ⟨.bl true,H,I,rfl,?_⟩
  have q':Q (.bl (!B7 xs ys)) H:=q;rw[Ku e] at q';exact q'
end
theorem Bb{te:TE}{σ0:St}{H1:Hp}{Q:V→Hp→Prop}{J:It}(n:Nat)(xs:Nat→V)(G:Addr→Nat→V→Hp→Prop)(hn:n≤sizeLine)
  (hgo:∀ i H,Same H1 H→i < n→J.go i H) (hstop:∀ H,Same H1 H→J.stop n H) (hy:∀ i H x H',Same H1 H→i < n→J.yld i H x H'→H'=H∧x=xs i)
  (hG:∀ l i v H H',G l i v H→Same H H'→G l i v H') (hU:∀ l i v H xs ys,G l i v H→H l=some (.lst xs)→G l i v (upd H l (.lst ys)))
  (hE:∀ i H l vs,i < n→Same H1 H→H1 l=none→H l=some (.lst vs)→∀ R:V→Hp→Prop,(∀ v H',Same H H'→G l i v H'→R v H')→te (σ0.set 0 (some (xs i))) H R)
  (hQ:∀ l H vs,Same H1 H→H1 l=none→H l=some (.lst vs)→vs.length=n→(∀ i v,vs[i]? = some v→G l i v H)→Q (.ref l) H):Xr (Uv 0) Ad te σ0 J H1 Q:=by
 intro l hl;refine⟨fun i m σ H=>m=n - i∧i≤n∧Same H1 H∧(∃ vs,H l=some (.lst vs)∧vs.length=i∧∀ j v,vs[j]? = some v→G l j v H)∧∀ o,σ.set 0 o=σ0.set 0 o,⟨n,by simp,Nat.zero_le _,Zx hl _,⟨[],Zn,rfl,fun j v z=>by simp at z⟩,fun _=>rfl⟩,?_⟩;rintro i m σ H ⟨rfl,hi,sm,⟨vs,hL,hvl,hvs⟩,hσ⟩;by_cases lt:i < n
 ·refine .inr ⟨hgo i H sm lt,fun x H' y=>?_⟩
  obtain⟨rfl,rfl⟩:=hy i H x H' sm lt y;unfold Uv Ad;dsimp only;rw[hσ,if_pos rfl];refine hE i H' l vs lt sm hl hL _ fun v H3 s3 hv=>⟨vs,s3 _ _ hL,by omega,n - (i+1),by omega,rfl,lt,Ux hl (sm.trans s3) _,⟨vs++[v],Zn,by rw[Zs,hvl];rfl,fun j u hj=>?_⟩,fun o=>List.set_set _⟩;by_cases c:j < vs.length
  ·rw[Ji c] at hj
   exact hU l j u H3 _ _ (hG l j u H' H3 (hvs j u hj) s3) (s3 _ _ hL)
  ·rw[Jd (by omega)] at hj
   have e:j - vs.length=0:=by
    cases q:j - vs.length with
    | zero=>rfl
    | succ k=>rw[q] at hj;simp at hj
   rw[e] at hj;have e2:v=u:=by simpa using hj
   subst e2;have e3:j=i:=by omega
   subst e3;exact hU l j v H3 _ _ hv (s3 _ _ hL)
 ·have e:i=n:=by omega
  subst e;exact .inl ⟨hstop H sm,hQ l H vs sm hl hL hvl hvs⟩
theorem Ba{K:W.Frag}{te:TE}{σ0:St}{H1:Hp}{Q:V→Hp→Prop}{a:Addr}{xs:List V}(G:Addr→Nat→V→Hp→Prop)(hS:SqL K H1 a xs)(hn:xs.length≤sizeLine)
  (hG:∀ l i v H H',G l i v H→Same H H'→G l i v H') (hU:∀ l i v H xs ys,G l i v H→H l=some (.lst xs)→G l i v (upd H l (.lst ys)))
  (hE:∀ i x H l vs,xs[i]? = some x→Same H1 H→H1 l=none→H l=some (.lst vs)→∀ R:V→Hp→Prop,(∀ v H',Same H H'→G l i v H'→R v H')→te (σ0.set 0 (some x)) H R)
  (hQ:∀ l H vs,Same H1 H→H1 l=none→H l=some (.lst vs)→vs.length=xs.length→(∀ i v,vs[i]? = some v→G l i v H)→Q (.ref l) H):Xr (Uv 0) Ad te σ0 (Itl K a) H1 Q:=by
 have at_:∀ i,i < xs.length→xs[i]? = some (xs.getD i .non):=fun i h=>by
  rw[Zj,Za h];rfl
 refine Bb xs.length (fun i=>xs.getD i .non) G hn (fun i H sm h=>⟨xs,_,sm.seq hS,at_ i h⟩) (fun H sm=>⟨xs,sm.seq hS,Nat.le_refl _⟩)
  (fun i H x H' sm h y=>⟨y.1,?_⟩) hG hU (fun i H l vs h sm hl hL=>hE i _ H l vs (at_ i h) sm hl hL) hQ
 have e:=y.2 xs (sm.seq hS);rw[at_ i h] at e;exact(Zr e).symm
theorem Same.seqT{K:W.Frag}{H H':Hp}{a:Addr}{xs:List V}(e:Same H H')(h:SqT K H a xs):SqT K H' a xs:=by
 rcases h with(h | ⟨o,h⟩) | h
 ·exact .inl (.inl (e _ _ h))
 ·exact .inl (.inr ⟨o,e _ _ h⟩)
 ·exact .inr h
structure Mk0(K:W.Frag)(C:Addr):Prop where
 makes:W.makesIn K C=true
 init:W.findIn K (.ref C) "__init__" = some (some (.builtin "object.__init__"))
 kp:W.keepIn K (.ref C)=true
def Zmc(C:Addr):TE:=fun σ H Q=>∀ x dx,H x=none→H dx=none→dx≠x→Q (.ref x) (upd (upd H dx (.own x)) x (.ins C dx []))
section
variable{X:Cx}{CX:CXT}{k:Nat}{C:Addr}{E:XK}{x m:Str}{p pos apos:Pos}{e o:Expr}{es:List Expr}{ta:TE}{t:TA}
theorem Zc7{pins:List (Addr×Obj)}{σ:St}{H:Hp}{s:Shared}{Q:VK}(M:Mk0 X.K C)(I:Inv X pins σ H s)
  (h:∀ x dx,H x=none→H dx=none→dx≠x→Q (.ref x) (upd (upd H dx (.own x)) x (.ins C dx []))) :
  wpAny (model X.prog X.w) X.A (call (.ref C) []) (EP X pins σ Q) X.xe s:=by
 have hq:=h (s.heap.objs.size+1) s.heap.objs.size (I.hok.fresh (Nat.le_succ _)) (I.hok.fresh (Nat.le_refl _)) (Nat.ne_of_lt (Nat.lt_succ_self _));have I2:=Inv.made (C:=C) I;have Y:=W.makes_of (M:=model X.prog X.w) I.kIn M.makes;refine wpAny_call (Zdx I.kIn M.makes M.init (fun self=>W.Looks.of_pure (W.oi_bind self)) ?_);obtain⟨hh,g,d,tk,os⟩:=s;have hx:((hh.push W.emptyDict).push (W.instObj C hh.objs.size)).get? (hh.objs.size+1)=some (W.instObj C hh.objs.size):=by heap_get
 have t1:W.Looks (model X.prog X.w) ((hh.push W.emptyDict).push (W.instObj C hh.objs.size)) (typeOf (.ref (hh.objs.size+1))) (.ref C):=(W.Looks.ld hx).andThen .now;have t2:W.Looks (model X.prog X.w) ((hh.push W.emptyDict).push (W.instObj C hh.objs.size)) (isInstance (.ref (hh.objs.size+1)) (.type "object")) true:=t1.andThen (Y.top.keeps fun b o e=>Zi _ (Zi _ e));refine codeAny_call_builtin W.oi_plain W.entry_oi (@W.check_slot (model X.prog X.w) _ _ _ "object.__init__" "object" "__init__" (.ref (hh.objs.size+1)) [] [] _ W.oi_kind W.oi_split t2 (W.oi_args (.ref (hh.objs.size+1))) ?_);rw[W.oi_run];exact wpAny_pure (And.intro rfl ⟨.ref (hh.objs.size+1),_,I2,rfl,hq⟩)
theorem Bs(M:Mk0 X.K C)(hg:Gl X x)(hm:X.mg x=some (.ref C))(hdb:(x == ("__debug__":Str))=false:=by decide):PE X (.Call (.Name x p) [] [] pos) (Zmc C):=by
 intro pins s σ H Q I h;refine wpAny_Call_Name_kw (B0 I hg hm ?_ hdb);exact W.callWith_K0 I.kIn M.kp (Zc7 M I h)
structure MethF(P:Program)(w:World)(K:W.Frag)(mg:Str→Option Value)(base:Heap)(CX:CXT)(k:Nat)(ι:Type)(m:Str)(ps:List Str)(sp:ι→Sp)(cs:ι→Addr)(f:ι→Addr)(fd:ι→FuncData):Prop where
 c:∀ i,Cls K (cs i)
 hm:∀ i,Meth K (cs i) m (f i)
 F:∀ i,FnOk P w K mg base CX k (f i) (fd i) ps (sp i)
 hb:∀ i,Binds K (fd i) ps []
def Ze5{ι:Type}(m:Str)(sp:ι→Sp)(cs:ι→Addr)(E:XK)(ta:TE)(t:TA):TE:=fun σ H Q=>ta σ H fun x H1=>∃ i a dx fs,x = .ref a∧H1 a=some (.ins (cs i) dx fs)∧fs.lookup m=none∧t σ H1 fun vs H2=>sp i (x :: vs) H2 Q E
theorem Zgd{ι:Type}{ps:List Str}{sp:ι→Sp}{cs f:ι→Addr}{fd:ι→FuncData}{pl:Sem Bool}(he:PE X o ta)(M:MethF X.prog X.w X.K X.mg X.base CX k ι m ps sp cs f fd)(hr:Room k X.A)(hx:Qp CX X E)(ha:PA X (e :: es) t)
  (hst:starEach (e :: es) X.env=(false,eval e X.env) :: starEach es X.env:=by rfl) (hpl:(backTo pos (starEach es X.env)).any (·.1)=false:=by rfl)
  (ht:eval (.Call (.Attribute o m apos) (e :: es) [] pos) X.env=(do
   let ov ← eval o X.env
   standAt apos.atName
   let (f,first) ← holding [ov] (getMethod ov m pl)
   callWith pos f first (backTo pos (starEach (e :: es) X.env)) (backToKw pos (keywordEach [] X.env))):=by rfl) :
  PE X (.Call (.Attribute o m apos) (e :: es) [] pos) (Ze5 m sp cs E ta t):=by
 intro pins s σ H Q I h;refine W.methodCall_KW (pl:=pl) (Y1 (he pins s σ H _ I h) fun u s1 ⟨x,H1,I1,rx,i,a,dx,fs,ex,ea,l,q⟩=>?_) ht;subst ex;obtain rfl:u=Value.ref a:=rx;refine El I1 ea (M.c i) (M.hm i) l ?_;refine W.callWith_K (first:=[.ref a]) (h₀:=X.base) I.ok.mod.kin (M.hm i).kp (Y1 (ha pos pins s1 σ H1 _ I1 q) fun us s2 ⟨vs,H2,I2,r,q2⟩=>⟨I2.kIn,?_⟩) hst hpl;exact Gw (us:=.ref a :: us) (vs:=.ref a :: vs) (dvs:=[]) (M.F i) hr (M.hb i) .nil hx I2 (.cons rfl r) (by rw[Jk];exact q2)
theorem Mh{ι:Type}{ps:List Str}{sp:ι→Sp}{cs f:ι→Addr}{fd:ι→FuncData}{pl:Sem Bool}(he:PE X o ta)(M:MethF X.prog X.w X.K X.mg X.base CX k ι m ps sp cs f fd)(hr:Room k X.A)(hx:Qp CX X E)
  (ht:eval (.Call (.Attribute o m apos) [] [] pos) X.env=(do
   let ov ← eval o X.env
   standAt apos.atName
   let (f,first) ← holding [ov] (getMethod ov m pl)
   callWith pos f first (backTo pos (starEach [] X.env)) (backToKw pos (keywordEach [] X.env))):=by rfl) :
  PE X (.Call (.Attribute o m apos) [] [] pos) (Ze5 m sp cs E ta Zma):=by
 intro pins s σ H Q I h;refine W.methodCall_KW (pl:=pl) (Y1 (he pins s σ H _ I h) fun u s1 ⟨x,H1,I1,rx,i,a,dx,fs,ex,ea,l,q⟩=>?_) ht;subst ex;obtain rfl:u=Value.ref a:=rx;refine El I1 ea (M.c i) (M.hm i) l ?_;exact W.callWith_K0 (first:=[.ref a]) I1.kIn (M.hm i).kp (Gw (us:=[.ref a]) (vs:=[.ref a]) (dvs:=[]) (M.F i) hr (M.hb i) .nil hx I1 (.cons rfl .nil) q)
end
end L2
namespace My
open PySem L2
theorem Zo8{α:Type}(xs:List α)(m:Int)(hm:m=(xs.length:Int))(h0:0 < xs.length)(z:Int):∃ v,v∈xs∧Xb xs (z % m)=some v:=by
 subst hm;have a0:0≤z % (xs.length:Int):=J7 _ (by omega);have a1:z % (xs.length:Int) < xs.length:=J6 _ (by omega);obtain⟨k,hk⟩:=Int.eq_ofNat_of_zero_le a0;rw[hk] at a1 ⊢;have hk':k < xs.length:=by omega
 exact⟨xs[k],J3 hk',U7 (Za hk')⟩
theorem Ag(i j:Str):(i++j).length=i.length+j.length:=by
 show(i.cps++j.cps).size=_;rw[Array.size_append];rfl
theorem Zn4{i j:Str}{a b:Nat}(h1:i.length≤a)(h2:j.length≤b):(i++j).length≤a+b:=by rw[Ag];omega
theorem Zh0{i j:Str}{a b:Nat}(h1:i.length≤a)(h2:j.length≤b)(h:a+b≤1000):i.length+j.length≤sizeLine:=by rw[sizeLine_eq];omega
theorem Jp(n:Nat)(h:n≤1000):n≤sizeLine:=by rw[sizeLine_eq];omega
theorem Zle{α:Type}{p:α→Prop}:∀ x∈([]:List α),p x:=fun _ h=>nomatch h
theorem all_cons{α:Type}{p:α→Prop}{a:α}{l:List α}(h:p a)(r:∀ x∈l,p x):∀ x∈a :: l,p x:=fun x hx=>by
 rcases List.mem_cons.mp hx with e | e
 ·rw[e];exact h
 ·exact r x e
theorem Zkr{ns:List Int}{k:Int}(h:0 < ns.length):∃ v:Int,Xb (ns.map V.int) (k % (((ns.map V.int).length:Nat):Int))=some (.int v):=by
 obtain⟨v,hv,e⟩:=Zo8 (ns.map V.int) _ rfl (by rw[Zf];exact h) k;obtain⟨n,_,rfl⟩:=Zw.mp hv;exact⟨n,e⟩
section
variable{P:Program}{w:World}{K:W.Frag}{mg:Str→Option Value}{base:Heap}
structure Lib(P:Program)(w:World)(K:W.Frag)(mg:Str→Option Value)(base:Heap)(k:Nat)(x:Str)(ps:List Str)(sp:Sp)(f:Addr)(fd:FuncData):Prop where
 ok:FnOk P w K mg base Y6 k f fd ps sp
 bd:Binds K fd ps []
 kp:W.keepIn K (.ref f)=true
 mg:mg x=some (.ref f)
structure LibX(P:Program)(w:World)(K:W.Frag)(mg:Str→Option Value)(base:Heap)(k:Nat)(x:Str)(ps:List Str)(sp:Sp)(f:Addr)(fd:FuncData):Prop where
 ok:FnOk P w K mg base (K4 P w) k f fd ps sp
 bd:Binds K fd ps []
 kp:W.keepIn K (.ref f)=true
 mg:mg x=some (.ref f)
end
def p4{α:Type}(a b c d:α):Fin 4→α:=fun i=>match i with | 0=>a | 1=>b | 2=>c | 3=>d
def wd:Fin 4→Str:=p4 "free" "follow" "cut" "beat"
def wds:List Str:=["free","follow","cut","beat"]
theorem Zof(i:Fin 4):wds[i.val]? = some (wd i):=match i with | 0=>rfl | 1=>rfl | 2=>rfl | 3=>rfl
theorem Zl2{t:Str}(h:t∈wds):∃ i,t=wd i:=by
 rcases List.mem_cons.mp h with h | h
 ·exact⟨0,h⟩
 rcases List.mem_cons.mp h with h | h
 ·exact⟨1,h⟩
 rcases List.mem_cons.mp h with h | h
 ·exact⟨2,h⟩
 rcases List.mem_cons.mp h with h | h
 ·exact⟨3,h⟩
 ·exact nomatch h
theorem Zhf(i:Fin 4):wd i∈wds:=Zg (Zof i)
theorem K7:∀ i j:Fin 4,wd i=wd j→i=j:=by decide +kernel
theorem Zev:∀ i:Fin 4,3≤(wd i).length∧(wd i).length≤6:=by decide +kernel
section
variable{P:Program}{w:World}{K:W.Frag}{mg:Str→Option Value}{base:Heap}{f g:Addr}{fd gd:FuncData}
def Gd(i:Fin 4):Sp:=fun vs H Q _=>∃ a,vs=[.ref a]∧Q (.str (wd i)) H
abbrev Zik(P:Program)(w:World)(K:W.Frag)(mg:Str→Option Value)(base:Heap)(k:Nat)(cs f:Fin 4→Addr)(fd:Fin 4→FuncData):Prop:=MethF P w K mg base Y6 k (Fin 4) "word" ["self"] Gd cs f fd
def Sr(cs:Fin 4→Addr)(CN:Addr):Sp:=fun vs H Q E=>∃ t:Str,vs=[.str t]∧(∀ i,t=wd i→∀ x dx H',Same H H'→H x=none→H' x=some (.ins (cs i) dx [])→Q (.ref x) H')∧(t∉wds→∀ H',Same H H'→E (.ref CN) none H')
structure DutyC(K:W.Frag)(mg:Str→Option Value)(cs:Fin 4→Addr)(CN:Addr):Prop where
 mF:mg "Free" = some (.ref (cs 0))
 mL:mg "Follow" = some (.ref (cs 1))
 mC:mg "Cut" = some (.ref (cs 2))
 mB:mg "Beat" = some (.ref (cs 3))
 mak:∀ i,Mk0 K (cs i)
 mN:mg "NoTable" = some (.ref CN)
 hN:W.excIn K CN Nw "ValueError.__new__" = true
theorem Um{H:Hp}{x dx:Addr}{o:HO}(hx:H x=none)(hd:H dx=none)(n:dx≠x):Same H (upd (upd H dx (.own x)) x o):=fun b u q=>by
 rw[Jf (Jv q hx),Jf (Jv q hd)];exact q
theorem Rz{st:Stmt}{qual wx:Str}{k:Nat}{sp:Sp}(F:Fun K "word" qual st f fd)(sc:FnScope ["self"] ["self"] (Zp st)){p1 p2:Pos}{j:Nat}(hb:Yz st=[.Return (some (.Constant (.str wx) j p1)) p2])(hs:∀ vs H Q E,sp vs H Q E→∃ a,vs=[V.ref a]∧Q (.str wx) H):FnOk P w K mg base Y6 (k+1) f fd ["self"] sp:=by
 refine F.ok sc (fun vs H Q E h=>?_) (fun cdv A outer s H vs Q E hr h=>?_)
 ·obtain⟨a,rfl,_⟩:=hs vs H Q E h
  rfl
 obtain⟨a,rfl,q⟩:=hs vs H Q E h;rw[hb];exact⟨_,Zv (Jj Yl),q⟩
end
abbrev sLet:Str:="abcd"
abbrev sFig:Str:="12345678"
theorem Zk4(c:Nat):c∈sFig.cps.toList↔49≤c∧c≤56:=by
 have e:sFig.cps.toList=[49,50,51,52,53,54,55,56]:=by decide +kernel
 rw[e];simp only[List.mem_cons,Yr,or_false];omega
theorem Ks(c:Nat):Txt.find sFig ⟨#[c]⟩=if 49≤c∧c≤56 then((c - 49:Nat):Int) else -1:=by
 by_cases h:49≤c∧c≤56
 ·rw[if_pos h]
  have h4:c=49∨c=50∨c=51∨c=52∨c=53∨c=54∨c=55∨c=56:=by omega
  rcases h4 with rfl | rfl | rfl | rfl | rfl | rfl | rfl | rfl<;>decide +kernel
 ·rw[if_neg h]
  have e:=PyProof.Rows.empty_one sFig c;rw[Zd (fun z=>h ((Zk4 c).mp z))] at e;unfold Txt.find;cases q:Builtin.Str.occurrences sFig ⟨#[c]⟩ 0 sFig.length 1 with
  | nil=>rfl
  | cons a b=>rw[q] at e;cases e
end My
namespace L2
open PySem PySem.Spec PyProof.Rows
section
variable{prog:Program}{w:World}{A:Around}{E:Value→Shared→Prop}{s:Shared}
end
section
variable{X:Cx}{e st:Expr}{te:TE}{lo:Option Expr}{tl ts:TO}{pos p2:Pos}
def Zoh(K:W.Frag)(te:TE)(tl ts:TO):TE:=fun σ H Q=>te σ H fun x H1=>tl σ H1 fun o H2=>ts σ H2 fun o2 H3=>o2=some 2∧∃ a x0 x1 x2 x3 x4 x5 x6 x7 x8 x9,x = .ref a∧SqL K H3 a [x0,x1,x2,x3,x4,x5,x6,x7,x8,x9] ∧
 ((o=some 0∧∀ p,H3 p=none→Q (.ref p) (upd H3 p (.lst [x0,x2,x4,x6,x8])))∨(o=some 1∧∀ p,H3 p=none→Q (.ref p) (upd H3 p (.lst [x1,x3,x5,x7,x9]))))
theorem Zbz{ys zs:List Value}{n:Nat}{lo hi st:Option Int}{ix:List Nat}(hn:ys.length=n)(h:sliceRange (sliceBounds lo hi st n).1 (sliceBounds lo hi st n).2.1 (sliceBounds lo hi st n).2.2=ix)(hz:ix.filterMap (ys[·]?)=zs):slicePick ys.toArray lo hi st=zs.toArray:=by
 unfold slicePick;rw[List.size_toArray,hn,h,← hz]
 congr 2
 funext i
 simp
theorem ten{xs:List Value}(h:xs.length=10):∃ a b c d e f g i j k,xs=[a,b,c,d,e,f,g,i,j,k]:=match xs,h with | [a,b,c,d,e,f,g,i,j,k],_=>⟨a,b,c,d,e,f,g,i,j,k,rfl⟩
theorem Zb3(he:PE X e te)(hl:PO X lo tl)(hst:PO X (some st) ts):PE X (.Subscript e (.Slice lo none (some st) p2) pos) (Zoh X.K te tl ts):=by
 intro pins s σ H Q I h;refine Subscript_ (Y1 (he pins s σ H _ I h) fun v s1 ⟨x,H1,I1,r1,q1⟩=>?_);refine wpAny_Slice (Y1 (hl pins s1 σ H1 _ I1 q1) fun vl s2 ⟨l,H2,I2,pl,q2⟩=>?_);rw[evalPart_none];refine wpAny_pure (Y1 (hst pins s2 σ H2 _ I2 q2) fun vs s3 ⟨o,H3,I3,po,q3⟩=>?_);obtain⟨rfl,a,x0,x1,x2,x3,x4,x5,x6,x7,x8,x9,rfl,hx,q⟩:=q3;cases r1;have I4:Inv X pins σ H3 { s3 with heap:=s3.heap.push { cls:=.type "slice",data:=.fields #[vl,.none,vs] } }:=I3.kept (t':=s3.toks) fun b ob q=>Zi _ q;obtain⟨its,r,ht,hz⟩:=I4.list hx;have hlen:=r.length;obtain⟨y0,y1,y2,y3,y4,y5,y6,y7,y8,y9,rfl⟩:=ten hlen.symm;cases r with | cons r0 r=>cases r with | cons r1 r=>cases r with | cons r2 r=>cases r with | cons r3 r=>cases r with | cons r4 r=>cases r with | cons r5 r=>cases r with | cons r6 r=>cases r with | cons r7 r=>cases r with | cons r8 r=>cases r with | cons r9 r=>
 show wpAny (model X.prog X.w) X.A (subscriptTail e (.Slice lo none (some st) p2) (.ref a) (.ref s3.heap.objs.size)) (EP X pins σ Q) X.xe { s3 with heap:=s3.heap.push { cls:=.type "slice",data:=.fields #[vl,.none,vs] } };refine PyProof.Rows.tail_any (ops:=[.ref a,.ref s3.heap.objs.size]) ht.isList.typeIs slot_list_getitem.lookup ?_ (by with_unfolding_all rfl);refine wpAny_getItem_list_slice ht.isList (Heap.IsSliceOf.new ..) pl .none po (by decide) ?_ (by rw[List.size_toArray]<;>exact Ya (Qb (show 10≤1000 by decide)));rcases q with⟨rfl,q⟩ | ⟨rfl,q⟩
 ·have ep:slicePick [y0,y1,y2,y3,y4,y5,y6,y7,y8,y9].toArray (some 0) none (some 2)=[y0,y2,y4,y6,y8].toArray:=Zbz (n:=10) (ix:=[0,2,4,6,8]) rfl (by decide +kernel) rfl
  rw[ep];exact⟨.ref _,_,I4.lnew (t':=s3.toks) (ys:=[x0,x2,x4,x6,x8]) (its:=[y0,y2,y4,y6,y8]) (.cons r0 (.cons r2 (.cons r4 (.cons r6 (.cons r8 .nil))))) (Ya (Qb (show 5≤1000 by decide))),rfl,q _ I4.fresh⟩
 ·have ep:slicePick [y0,y1,y2,y3,y4,y5,y6,y7,y8,y9].toArray (some 1) none (some 2)=[y1,y3,y5,y7,y9].toArray:=Zbz (n:=10) (ix:=[1,3,5,7,9]) rfl (by decide +kernel) rfl
  rw[ep];exact⟨.ref _,_,I4.lnew (t':=s3.toks) (ys:=[x1,x3,x5,x7,x9]) (its:=[y1,y3,y5,y7,y9]) (.cons r1 (.cons r3 (.cons r5 (.cons r7 (.cons r9 .nil))))) (Ya (Qb (show 5≤1000 by decide))),rfl,q _ I4.fresh⟩
theorem O2:Ui X (.type "int") (fun xs H Q=>∃ x n,xs=[.str x]∧PySem.intText? x=some n∧x.length≤640∧Q (.int n) H):=by
 intro pins s σ H xs us Q I r h;obtain⟨x,n,rfl,hn,hl,q⟩:=h;obtain⟨u,rfl,t,rfl⟩:=U2 r;exact W.KIN.call_text hn hl ⟨.int n,H,I.tok _,⟨_,rfl⟩,q⟩
def Nd(t:Str):List Str:=t.cps.toList.map fun c=>⟨#[c]⟩
theorem V3(t:Str):(Nd t).length=t.length:=by unfold Nd;rw[Zf];rfl
theorem R9{t:Str}{acc:Array Value}(h:ItemsOf (SignAt t) acc t.cps.size):Vals (vS (Nd t)) acc.toList:=by
 obtain⟨hs,hi⟩:=h;have key:∀(cs:List Nat) (us:List Value),us.length=cs.length→(∀(j:Nat) v,us[j]? = some v→∃ c u,cs[j]? = some c∧v = .str ⟨#[c]⟩ u)→Vals ((cs.map fun c=>(⟨#[c]⟩:Str)).map V.str) us:=by
  intro cs
  induction cs with
  | nil=>
   intro us hl _;have e:us=[]:=List.eq_nil_of_length_eq_zero hl;subst e;exact .nil
  | cons c cs ih=>
   intro us hl hu;cases us with
   | nil=>cases hl
   | cons u us=>
    obtain⟨c',t',hc,hv⟩:=hu 0 u rfl;have e:c=c':=Zr hc;subst e;exact .cons ⟨_,hv⟩ (ih us (Nat.succ.inj hl) fun j v hj=>hu (j+1) v hj)
 refine key t.cps.toList acc.toList (by simpa using hs) fun j v hj=>?_;obtain⟨c,u,h1,h2⟩:=hi j v (by simpa using hj);exact⟨c,u,by simpa using h1,h2⟩
theorem Tw(hc:X.calm=true):Ui X (.type "list") (fun xs H Q=>∃ t,xs=[.str t]∧t.length≤1000∧∀ l,H l=none→Q (.ref l) (upd H l (.lst (vS (Nd t))))):=by
 intro pins s σ H xs us Q I r h;obtain⟨x,rfl,hl,q⟩:=h;obtain⟨u,rfl,t,rfl⟩:=U2 r;have hz:x.length≤sizeLine:=Ya (Qb hl);refine call_list_str (I.ok.hd hc) x t (fun h' tk acc' c' kp e hi=>?_) hz;have hv:=R9 hi;exact⟨.ref s.heap.objs.size,_,I.laid (t':=tk) kp (Nat.le_refl _) (show ObjOk X.prog X.w _ h' _ (.lst (vS (Nd x))) from⟨by rw[De,V3];exact hz,acc'.toList,c',hv,by simpa using e⟩),rfl,q _ (I.hok.fresh (Nat.le_refl _))⟩
theorem Md:∀{us:List Value} {ss:List Str},StrsAre us ss→Vals (vS ss) us
 | _,_,.nil=>.nil
 | _,_,.cons x t h=>.cons ⟨t,rfl⟩ (Md h)
theorem Ro(hc:X.calm=true):Ui X (.builtin "sorted") (fun xs H Q=>∃ t,xs=[.str t]∧t.length < 64∧∀ l ss,H l=none→ss.Perm (Nd t)→sortedS ss=true→Q (.ref l) (upd H l (.lst (vS ss)))):=by
 intro pins s σ H xs us Q I r h;obtain⟨x,rfl,hl,q⟩:=h;obtain⟨u,rfl,t,rfl⟩:=U2 r;have hz:x.length≤sizeLine:=Ya (Qb (by omega));refine Calls.call_function_entry kind_sorted plain_sorted entry_sorted (args_sorted1 _) ?_;unfold Builtin.«sorted»;refine Zc (m:=checkCount "sorted" 1 1 _) (wpAny_pure ?_);refine Zc (wpAny_collect_str (A:=X.A.in1) (show X.A.in1.handled=none from I.ok.hd hc) x t (fun s1 acc kp hg hd ho hi=>?_) hz);have hv:=R9 hi;have hS:StrsAre acc.toList (Nd x):=Nx hv;have hlen:acc.toList.length < 64:=by rw[← hv.length,De,V3];exact hl
 obtain⟨hp1,g1,d1,t1,o1⟩:=s1;simp only at hg hd ho kp;subst hg hd ho;have I1:Inv X pins σ H { s with heap:=hp1,toks:=t1 }:=I.kept (t':=t1) kp;refine Zc (wpAny_newList ?_);have hoL:(hp1.push (seqObj "list" acc.toList.toArray 0)).get? hp1.objs.size=some (seqObj "list" acc.toList.toArray 0):=Heap.get?_push_size _ rfl;refine Zc (wpAny_holding (wpAny_call_entry slot_list_sort ⟨_,hoL,rfl⟩ entry_list_sort (list_sort_treeK (κ:=strKind) strKind_oneLt hoL hS.keysOf (fun v₁ v₂ Ew e=>keyKind_strs (by rw[← e];exact hS)) hlen fun st' hp hs=>⟨_,rfl,wpAny_pure ⟨_,rfl,?_⟩⟩) (args_list_sort _)));obtain⟨ss',h1,h2,h3⟩:=sorted_out_str hS hp hs;obtain⟨ep,he⟩:=sortedHeap_at (out:=(arrOf st').map (·.2)) hoL;have hl2:ss'.length=x.length:=by rw[h2.length_eq,V3]
 refine⟨.ref hp1.objs.size,_,I1.laid (t':=t1) (a:=hp1.objs.size) (o:=.lst (vS ss')) (h':=sortedHeap (hp1.push (seqObj "list" acc.toList.toArray 0)) hp1.objs.size acc.toList ((arrOf st').map (·.2))) (fun b u e=>?_) (Nat.le_refl _) ?_,rfl,q _ ss' (I1.hok.fresh (Nat.le_refl _)) h2 h3⟩
 ·have hb:=Z0 e
  rw[sortedHeap_old (Nat.ne_of_lt hb) (by rw[size_push'];exact Nat.lt_succ_of_lt hb)];exact Zi _ e
 ·refine⟨by rw[De,hl2];exact hz,((arrOf st').map (·.2)).toList,ep,Md h1,?_⟩
  rw[Array.toArray_toList];exact he
end
def Zo2:V→List V→Hp→VK→Prop:=fun x xs H Q=>∃ i j,x = .str i∧xs=[.str j]∧Q (.int (Txt.find i j)) H
theorem Zgg{X:Cx}{K:W.Frag}{o e:Expr}{to:TE}{t:TA}{apos cpos:Pos}(hK:X.K=K)(ho:PE X o to)(ha:PA X [e] t)
  (hbase:attributeBase o "find" X.env (eval o X.env)=eval o X.env:=by rfl)
  (hfew:((backTo cpos (starEach [e] X.env)).all (fun x=>!x.1) && (backToKw cpos (keywordEach [] X.env)).all (fun x=>x.1.isSome) && decide ([e].length+([]:List Keyword).length+(if([]:List Keyword).isEmpty then 0 else 1) < 30))=true:=by rfl)
  (hline:(apos.endLine == cpos.line)=true:=by rfl) (hs:starEach [e] X.env=[(false,eval e X.env)]:=by rfl):PE X (.Call (.Attribute o "find" apos) [e] [] cpos) (tBM K "str" Zo2 to t):=by
 subst hK;exact Xp PySem.F.plainAttrs_str PySem.F.slot_str_find PySem.F.type_str_find Om ho ha hbase hfew hline hs rfl
structure FunD(K:W.Frag)(x qual:Str)(st:Stmt)(f:Addr)(fd:FuncData):Prop where
 ex:∃(oc:Value) (od:Option Addr) (dV kV doc pm:Value) (an:Option Addr) (cdv ct:Value) (osl:Array (Option Value)),
  fd=W.fnOf x qual (U6 st) (Yz st) (Zp st) dV kV doc pm an cdv ct∧K.lookup f=some ⟨oc,od,.func fd,osl⟩∧W.codeIn K cdv qual=true
 kp:W.keepIn K (.ref f)=true
theorem FunD.ok{P:Program}{w:World}{K:W.Frag}{mg:Str→Option Value}{base:Heap}{x qual:Str}{st:Stmt}{f:Addr}{fd:FuncData}{N ps:List Str}{k:Nat}{sp:Sp}(F:FunD K x qual st f fd)(S:FnScope N ps (Zp st))(len:∀ vs H Q E,sp vs H Q E→vs.length=ps.length)
  (hbody:∀(cdv:Value) (A:Around) (outer:List Env) (s:Shared) (H:Hp) (vs:List V) (Q:VK) (E:XK),Room k (A.deeper (envOfC qual (Zp st) s.heap.objs.size f cdv))→sp vs H Q E →
   ∃ t,PSs (B8 Y6 P w K mg base N qual (Zp st) f cdv A outer s H E).nox (Yz st) t∧t { nx:=fun _ H'=>Q .non H',rt:=Q } (Nq N vs) H):FnOk P w K mg base Y6 (k+1) f fd ps sp:=by
 obtain⟨oc,od,dV,kV,doc,pm,an,cdv,ct,osl,rfl,lk,hcd⟩:=F.ex;refine Zhz lk hcd S len fun A outer s H vs Q E hr hsp=>?_;obtain⟨t,h,q⟩:=hbody cdv A outer s H vs Q E hr hsp;exact⟨t,h.nox,q⟩
theorem Zk0{K:W.Frag}{x qual:Str}{st:Stmt}{f:Addr}{oc:Value}{od an:Option Addr}{osl:Array (Option Value)}{dV kV doc pm cdv ct:Value}(l:K.lookup f=some ⟨oc,od,.func (W.fnOf x qual (U6 st) (Yz st) (Zp st) dV kV doc pm an cdv ct),osl⟩)
  (c:W.codeIn K cdv qual=true) (k:W.keepIn K (.ref f)=true):FunD K x qual st f (W.fnOf x qual (U6 st) (Yz st) (Zp st) dV kV doc pm an cdv ct):=⟨⟨oc,od,dV,kV,doc,pm,an,cdv,ct,osl,rfl,l,c⟩,k⟩
end L2
namespace My
open PySem L2 PySem.Spec PyProof.Rows
def Tl:List (List Nat)→List Nat
 | []=>[]
 | [x]=>x
 | x :: y :: r=>x++32 :: Tl (y :: r)
theorem Zic:∀(x y a b:List Nat),32∉x→32∉y→x++32 :: a=y++32 :: b→x=y∧a=b
 | [],[],a,b,_,_,h=>by
  injection h with _ h
  exact⟨rfl,h⟩
 | [],c :: y,a,b,_,hy,h=>by
  injection h with h _
  exact absurd (h ▸ Zt) hy
 | c :: x,[],a,b,hx,_,h=>by
  injection h with h _
  exact absurd (h ▸ Zt) hx
 | c :: x,d :: y,a,b,hx,hy,h=>by
  injection h with h1 h2
  obtain⟨e1,e2⟩:=Zic x y a b (fun z=>hx (Zu _ z)) (fun z=>hy (Zu _ z)) h2;exact⟨by rw[h1,e1],e2⟩
theorem Mr:∀ xs ys:List (List Nat),xs≠[]→ys≠[]→(∀ x∈xs,32∉x)→(∀ y∈ys,32∉y)→Tl xs=Tl ys→xs=ys
 | [],_,h,_,_,_,_=>absurd rfl h
 | _,[],_,h,_,_,_=>absurd rfl h
 | [x],[y],_,_,_,_,h=>by
  have e:x=y:=h;rw[e]
 | [x],y :: y2 :: r,_,_,hx,_,h=>by
  have e:x=y++32 :: Tl (y2 :: r):=h;refine absurd ?_ (hx x Zt);rw[e];exact List.mem_append_right _ Zt
 | x :: x2 :: r,[y],_,_,_,hy,h=>by
  have e:x++32 :: Tl (x2 :: r)=y:=h;refine absurd ?_ (hy y Zt);rw[← e];exact List.mem_append_right _ Zt
 | x :: x2 :: r,y :: y2 :: r2,_,_,hx,hy,h=>by
  obtain⟨e1,e2⟩:=Zic x y _ _ (hx x Zt) (hy y Zt) h;have e3:=Mr (x2 :: r) (y2 :: r2) (List.cons_ne_nil _ _) (List.cons_ne_nil _ _) (fun z hz=>hx z (Zu _ hz)) (fun z hz=>hy z (Zu _ hz)) e2;rw[e1,e3]
abbrev blank:Str:=" "
theorem M6:blank=⟨#[32]⟩:=by decide +kernel
theorem Rl:∀ ws:List Str,(Txt.join blank ws).cps.toList=Tl (ws.map fun w=>w.cps.toList):=by
 intro ws;unfold Txt.join;rw[StrLaws.glued_eq_join]
 induction ws with
 | nil=>rfl
 | cons x r ih=>
  cases r with
  | nil=>rfl
  | cons y r=>
   show(x++blank++Str.join blank (y :: r)).cps.toList=x.cps.toList++32 :: Tl ((y :: r).map fun w=>w.cps.toList);rw[← ih,M6];show((x.cps ++ #[32])++(Str.join ⟨#[32]⟩ (y :: r)).cps).toList=_;rw[Array.toList_append,Array.toList_append,Ut];rfl
theorem Dl{a b:Str}(h:a.cps.toList=b.cps.toList):a=b:=by
 obtain⟨⟨a⟩⟩:=a;obtain⟨⟨b⟩⟩:=b;cases h;rfl
theorem Ze9(x:Str):Txt.split x blank≠[]:=by
 unfold Txt.split;split
 ·exact List.cons_ne_nil _ _
 ·split
  ·exact List.cons_ne_nil _ _
  ·intro z
   have l:=PyProof.Rows.len_partsBetween x (Builtin.Str.occurrences x blank 0 x.length (x.length+1)) blank.length;rw[z] at l;cases l
theorem Sh(ws:List Str)(h:ws≠[])(hf:∀ w∈ws,32∉w.cps.toList):Txt.split (Txt.join blank ws) blank=ws:=by
 have e1:Txt.join blank (Txt.split (Txt.join blank ws) blank)=Txt.join blank ws:=by
  have z:=StrLaws.join_split (Txt.join blank ws) blank;rw[← StrLaws.glued_eq_join] at z;exact z
 have e2:=congrArg (fun s:Str=>s.cps.toList) e1;rw[Rl,Rl] at e2;have e3:=Mr _ _ (fun z=>Ze9 _ (List.map_eq_nil_iff.mp z)) (fun z=>h (List.map_eq_nil_iff.mp z)) (fun x hx=>?_) (fun y hy=>?_) e2
 ·have inj:∀ a b:List Str,(a.map fun w=>w.cps.toList)=(b.map fun w=>w.cps.toList)→a=b:=by
   intro a
   induction a with
   | nil=>intro b hb;cases b with
    | nil=>rfl
    | cons y r=>cases hb
   | cons x r ih=>intro b hb;cases b with
    | nil=>cases hb
    | cons y r2=>
     injection hb with h1 h2
     rw[Dl h1,ih r2 h2]
  exact inj _ _ e3
 ·obtain⟨w,hw,rfl⟩:=Zw.mp hx
  rw[M6] at hw;exact StrLaws.split_free _ 32 w hw
 ·obtain⟨w,hw,rfl⟩:=Zw.mp hy
  exact hf w hw
theorem Zho(sep:Str)(ws:List Str):(Txt.join sep ws).length≤(ws.map (·.length)).sum+ws.length * sep.length:=by
 unfold Txt.join;rw[StrLaws.glued_eq_join];exact StrLaws.join_length_le sep ws
theorem Zeq:blank.length=1:=by decide +kernel
def vN(ys:List Nat):List V:=ys.map fun c=>V.int (c:Nat)
theorem J0(ys:List Nat):(vN ys).length=ys.length:=Zf _
theorem Qr(ys:List Nat):vN ys=(ys.map fun c=>((c:Nat):Int)).map V.int:=by unfold vN;rw[Z1];rfl
theorem Bg:∀(ys:List Str),(vS ys).all U3=true
 | []=>rfl
 | _ :: ys=>by
  show(true && (vS ys).all U3)=true;rw[Bg ys];rfl
def Q9(i:Nat):Str:=⟨#[49+i]⟩
def Yt(l:List Nat):Str:=⟨(l.map (49 + ·)).toArray⟩
theorem Qm(l:List Nat):(Yt l).length=l.length:=by
 show((l.map (49 + ·)).toArray).size=_;rw[List.size_toArray,Zf]
theorem Zek(l:List Nat):Nd (Yt l)=l.map Q9:=by
 unfold Nd Yt;rw[show(⟨(l.map (49 + ·)).toArray⟩:Str).cps.toList=l.map (49 + ·) from rfl,Z1];rfl
theorem Rc:∀{xs ys:List Nat},xs.Perm ys→xs.Pairwise (·≤·)→ys.Pairwise (·≤·)→xs=ys
 | [],ys,p,_,_=>p.nil_eq
 | x :: xs,[],p,_,_=>by have:=p.length_eq;cases this
 | x :: xs,y :: ys,p,hx,hy=>by
  obtain⟨hx1,hx2⟩:=List.pairwise_cons.mp hx;obtain⟨hy1,hy2⟩:=List.pairwise_cons.mp hy;have e:x=y:=by
   have a:x∈y :: ys:=p.subset (Zt ..);have b:y∈x :: xs:=p.symm.subset (Zt ..);rcases List.mem_cons.mp a with a | a
   ·exact a
   ·rcases List.mem_cons.mp b with b | b
    ·exact b.symm
    ·have:=hx1 y b
     have:=hy1 x a;omega
  subst e;rw[Rc p.cons_inv hx2 hy2]
theorem Zmf{a b:Nat}(h:ltCps (Q9 b).cps.toList (Q9 a).cps.toList=false):a≤b:=by
 rw[PyProof.Rows.ltCps_eq] at h;have h2:¬ ([49+b]:List Nat) < [49+a]:=of_decide_eq_false h;rcases Nat.lt_or_ge b a with z | z
 ·exact absurd (List.cons_lt_cons_iff.mpr (.inl (by omega))) h2
 ·exact z
theorem Mf:∀{a:Nat} {l:List Nat},risingS (Q9 a) (l.map Q9)=true→(a :: l).Pairwise (·≤·)
 | a,[],_=>List.pairwise_singleton ..
 | a,b :: l,h=>by
  have h':(!ltCps (Q9 b).cps.toList (Q9 a).cps.toList && risingS (Q9 b) (l.map Q9))=true:=h;rw[Bool.and_eq_true] at h';have ab:a≤b:=Zmf (by simpa using h'.1);have r:=Mf (a:=b) (l:=l) h'.2;refine List.pairwise_cons.mpr ⟨fun c hc=>?_,r⟩;rcases List.mem_cons.mp hc with e | hc
  ·omega
  ·have:=(List.pairwise_cons.mp r).1 c hc
   omega
theorem Zc1:∀{l:List Nat},sortedS (l.map Q9)=true→l.Pairwise (·≤·)
 | [],_=>.nil
 | a :: l,h=>Mf (show risingS (Q9 a) (l.map Q9)=true from h)
theorem Kc:∀{ss:List Str} {l:List Nat},ss.Perm (l.map Q9)→∃ ks:List Nat,ss=ks.map Q9∧ks.Perm l:=by
 intro ss l p;have inj:∀ a b,Q9 a=Q9 b→a=b:=fun a b e=>by
  unfold Q9 at e;injection e with e
  have e1:[49+a]=[49+b]:=congrArg Array.toList e;injection e1 with e1
  omega
 refine⟨ss.map (fun s=>s.cps.toList.headD 0 - 49),?_,?_⟩
 ·rw[Z1]
  have:∀ s∈ss,(Q9 ∘ fun s:Str=>s.cps.toList.headD 0 - 49) s=s:=fun s hs=>by
   obtain⟨i,_,rfl⟩:=Zw.mp (p.subset hs);show Q9 ((49+i) - 49)=Q9 i
   congr 1
   omega
  exact((Jq this).trans (List.map_id' ss)).symm
 ·have q:=p.map (fun s:Str=>s.cps.toList.headD 0 - 49)
  rw[Z1] at q;have:l.map ((fun s:Str=>s.cps.toList.headD 0 - 49) ∘ Q9)=l:=by
   have:∀ i∈l,((fun s:Str=>s.cps.toList.headD 0 - 49) ∘ Q9) i=i:=fun i _=>by
    show(49+i) - 49=i;omega
   exact(Jq this).trans (List.map_id' _)
  rw[this] at q;exact q
theorem Oa(h:Nat):(List.range h).Pairwise (·≤·):=(List.pairwise_lt_range).imp fun h=>Ya h
theorem Of{ss:List Str}{l:List Nat}{h:Nat}(hl:l.Perm (List.range h))(p:ss.Perm (Nd (Yt l)))(s:sortedS ss=true):ss=(List.range h).map Q9:=by
 rw[Zek] at p;obtain⟨ks,rfl,pk⟩:=Kc p;rw[Rc (pk.trans hl) (Zc1 s) (Oa h)]
theorem Zea:∀ h≤8,Nd (Txt.slice sFig none (some ((h:Nat):Int)))=(List.range h).map Q9:=by decide +kernel
theorem Zh1:∀ i < 8,Txt.find sFig (Q9 i)=((i:Nat):Int):=by decide +kernel
theorem To:∀(ys:List Str),B7 (vS ys) (vS ys)=true
 | []=>rfl
 | y :: ys=>by
  show((y == y) && B7 (vS ys) (vS ys))=true;rw[To ys,beq_self_eq_true];rfl
structure Fx where
 s:Nat
 h:Nat
 n:Nat
 d:_root_.Fin 4
 pl:List Nat
 tr:List Nat
structure Fx.Ok(f:Fx):Prop where
 s1:1≤f.s
 s4:f.s≤4
 h1:1≤f.h
 h8:f.h≤8
 n34:f.n=3∨f.n=4
 pp:f.pl.Perm (List.range f.h)
 pt:f.tr.Perm (List.range f.h)
def Xf(f:Fx):Str:=⟨#[48+f.s,120,48+f.h]⟩
def Xo(f:Fx):Str:=⟨#[48+f.n]⟩
def Gc(f:Fx):List Str:=["pack",Xf f,"seats",Xo f,"duty",wd f.d,"plain",Yt f.pl,"trump",Yt f.tr]
def Ac(f:Fx):Str:=Txt.join blank (Gc f)
theorem Zb2{l:List Nat}{h:Nat}(p:l.Perm (List.range h)):∀ i∈l,i < h:=fun i hi=>Z8.mp (p.subset hi)
theorem Yd{l:List Nat}{h:Nat}(p:l.Perm (List.range h)):l.length=h:=by rw[p.length_eq,Jb]
theorem Kt(l:List Nat):32∉(Yt l).cps.toList:=by
 rw[show(Yt l).cps.toList=l.map (49 + ·) from rfl];intro z;obtain⟨i,_,e⟩:=Zw.mp z;omega
theorem Zis:∀ i:_root_.Fin 4,32∉(wd i).cps.toList:=by decide +kernel
theorem Zcy(f:Fx):Txt.split (Ac f) blank=Gc f:=by
 refine Sh (Gc f) (by unfold Gc;exact List.cons_ne_nil _ _) ?_;refine all_cons (by decide +kernel) (all_cons ?_ (all_cons (by decide +kernel) (all_cons ?_ (all_cons (by decide +kernel) (all_cons (Zis _) (all_cons (by decide +kernel) (all_cons (Kt _) (all_cons (by decide +kernel) (all_cons (Kt _) Zle)))))))))
 ·show 32∉[48+f.s,120,48+f.h]
  simp;omega
 ·show 32∉[48+f.n]
  simp;omega
theorem Ziz{f:Fx}(ok:f.Ok):(Ac f).length≤99:=by
 have j:=Zho blank (Gc f);have e:((Gc f).map (·.length)).sum≤4+(3+(5+(1+(4+(6+(5+(8+(5+(8+0))))))))):=by
  have a:=(Zev f.d).2;have b:(Yt f.pl).length≤8:=by rw[Qm,Yd ok.pp];exact ok.h8
  have c:(Yt f.tr).length≤8:=by rw[Qm,Yd ok.pt];exact ok.h8
  show 4+(3+(5+(1+(4+((wd f.d).length+(5+((Yt f.pl).length+(5+((Yt f.tr).length+0)))))))))≤_;omega
 have e2:(Gc f).length=10:=rfl;rw[e2,Zeq] at j;have:(Ac f).length=(Txt.join blank (Gc f)).length:=rfl;omega
theorem Dk:∀ i≤8,(toString ((i:Nat):Int):Str)=⟨#[48+i]⟩:=by decide +kernel
theorem Op:∀ ws:List Str,(Txt.join "" ws).cps.toList=(ws.map fun w=>w.cps.toList).flatten:=by
 intro ws;unfold Txt.join;rw[StrLaws.glued_eq_join]
 induction ws with
 | nil=>rfl
 | cons x r ih=>
  cases r with
  | nil=>
   show x.cps.toList=x.cps.toList++[];rw[Jk]
  | cons y r=>
   show(x ++ "" ++ Str.join "" (y :: r)).cps.toList=x.cps.toList++((y :: r).map fun w=>w.cps.toList).flatten;rw[← ih];show((x.cps++("":Str).cps)++(Str.join "" (y :: r)).cps).toList=_;rw[Array.toList_append,Array.toList_append];have e:("":Str).cps.toList=[]:=by decide +kernel
   rw[e,Jk]
theorem Zhn(l:List Nat):Txt.join "" (l.map Q9)=Yt l:=by
 refine Dl ?_;rw[Op,Z1];show((l.map fun i=>[49+i]).flatten)=l.map (49 + ·)
 induction l with
 | nil=>rfl
 | cons i l ih=>rw[List.map_cons,List.flatten_cons,ih];rfl
def sgV(x:V):V:=match x with | .int i=>.str ⟨#[48+(i+1).toNat]⟩ | _=>.non
theorem Zbu(i:Nat):sgV (.int (i:Nat)) = .str ⟨#[48+(i+1)]⟩:=by
 show V.str ⟨#[48+(((i:Nat):Int)+1).toNat]⟩=_;have e:(((i:Nat):Int)+1).toNat=i+1:=by omega
 rw[e]
theorem Zfh(l:List Nat):((vN l).filter fun _=>true).map sgV=vS (l.map Q9):=by
 rw[List.filter_eq_self.mpr (fun _ _=>rfl)];unfold vN vS;rw[Z1,Z1];refine Jq fun i _=>?_;show sgV (.int (i:Nat)) = .str (Q9 i);rw[Zbu];unfold Q9;rw[show 48+(i+1)=49+i by omega]
theorem Zi4{l:List Nat}{h:Nat}(p:l.Perm (List.range h))(h8:h≤8):((l.map Q9).map (·.length)).sum+(l.map Q9).length * ("":Str).length≤16777216:=by
 have e:∀ l:List Nat,((l.map Q9).map (·.length)).sum=l.length:=fun l=>by
  induction l with
  | nil=>rfl
  | cons i l ih=>
   show 1+((l.map Q9).map (·.length)).sum=_;rw[ih,Jc];omega
 have z:("":Str).length=0:=by decide +kernel
 rw[e,z,Yd p];omega
end My
namespace My
open PySem L2
def top(i:Nat):Stmt:=PySem.Challenge.pw_trickproof_k36_alike_cards_count_alike.main.body.getD i (.Pass ⟨0,0,0,0⟩)
abbrev Vo:Stmt:=Yo (top 37) 0
abbrev Ev:Stmt:=Yo (top 38) 0
abbrev Gu:Stmt:=Yo (top 39) 0
abbrev Vq:Stmt:=Yo (top 40) 0
abbrev D8:Stmt:=top 41
abbrev S8:Stmt:=top 44
abbrev Vn:Stmt:=top 45
abbrev Nz:Stmt:=top 46
abbrev Ed:Stmt:=top 47
section
variable{P:Program}{w:World}{K:W.Frag}{mg:Str→Option Value}{base:Heap}{f g:Addr}{fd gd:FuncData}
theorem Sy:FnScope ["self"] ["self"] (Zp Vo):=⟨rfl,rfl,rfl,by decide +kernel,rfl,by decide +kernel,by decide +kernel⟩
theorem Dy:FnScope ["self"] ["self"] (Zp Ev):=⟨rfl,rfl,rfl,by decide +kernel,rfl,by decide +kernel,by decide +kernel⟩
theorem Zc6:FnScope ["self"] ["self"] (Zp Gu):=⟨rfl,rfl,rfl,by decide +kernel,rfl,by decide +kernel,by decide +kernel⟩
theorem Sz:FnScope ["self"] ["self"] (Zp Vq):=⟨rfl,rfl,rfl,by decide +kernel,rfl,by decide +kernel,by decide +kernel⟩
theorem A8{k:Nat}(F:Fun K "word" "Free.word" Vo f fd):FnOk P w K mg base Y6 (k+1) f fd ["self"] (Gd 0):=Rz F Sy rfl fun _ _ _ _ h=>h
theorem T5{k:Nat}(F:Fun K "word" "Follow.word" Ev f fd):FnOk P w K mg base Y6 (k+1) f fd ["self"] (Gd 1):=Rz F Dy rfl fun _ _ _ _ h=>h
theorem Zai{k:Nat}(F:Fun K "word" "Cut.word" Gu f fd):FnOk P w K mg base Y6 (k+1) f fd ["self"] (Gd 2):=Rz F Zc6 rfl fun _ _ _ _ h=>h
theorem Ka{k:Nat}(F:Fun K "word" "Beat.word" Vq f fd):FnOk P w K mg base Y6 (k+1) f fd ["self"] (Gd 3):=Rz F Sz rfl fun _ _ _ _ h=>h
theorem scDutyOf:FnScope ["word","duty"] ["word"] (Zp D8):=⟨rfl,rfl,rfl,by decide +kernel,rfl,by decide +kernel,by decide +kernel⟩
theorem Ml{k:Nat}{CN:Addr}{cs fw:Fin 4→Addr}{fdw:Fin 4→FuncData}(F:Fun K "duty_of" "duty_of" D8 f fd)(D:DutyC K mg cs CN)(W:Zik P w K mg base k cs fw fdw):FnOk P w K mg base (K4 P w) (k+1) f fd ["word"] (Sr cs CN):=by
 refine F.okX scDutyOf (fun vs H Q E h=>?_) (fun cdv A outer s H vs Q E hr h T=>?_)
 ·obtain⟨x,rfl,_⟩:=h
  rfl
 obtain⟨t,rfl,q,qn⟩:=h;refine⟨_,Zm (Xi T.own rfl (Oe (Y2 (Zb (Bs (D.mak 0) rfl D.mF) (Zb (Bs (D.mak 1) rfl D.mL) (Zb (Bs (D.mak 2) rfl D.mC) (Zb (Bs (D.mak 3) rfl D.mB) Zk)))))) (Jm (i:=1) scDutyOf.nd rfl (Or.inl rfl))
   (Zv (Yh (Je Uu (Mh (pv 1) W hr Jn) (pv 0) (Js _)) (Zv (Jj (pv 1))) Jz)))
  (Zv (Qi T hr.hd rfl D.mN D.hN (Zb Yl Zk))),?_⟩
 intro x0 d0 hx0 hd0 n0 x1 d1 hx1 hd1 n1 x2 d2 hx2 hd2 n2 x3 d3 hx3 hd3 n3;refine⟨Jp 4 (by decide),fun p hp=>?_⟩;have s0:=Um (o:=.ins (cs 0) d0 []) hx0 hd0 n0;have s1:=Um (o:=.ins (cs 1) d1 []) hx1 hd1 n1;have s2:=Um (o:=.ins (cs 2) d2 []) hx2 hd2 n2;have s3:=Um (o:=.ins (cs 3) d3 []) hx3 hd3 n3;have sp:=Zx hp (.tup [.ref x0,.ref x1,.ref x2,.ref x3]);have sA:=s0.trans (s1.trans (s2.trans (s3.trans sp)));have g0:=sp _ _ (s3 _ _ (s2 _ _ (s1 _ _ (Zn (a:=x0) (o:=.ins (cs 0) d0 [])))));have g1:=sp _ _ (s3 _ _ (s2 _ _ (Zn (a:=x1) (o:=.ins (cs 1) d1 []))));have g2:=sp _ _ (s3 _ _ (Zn (a:=x2) (o:=.ins (cs 2) d2 [])));have g3:=sp _ _ (Zn (a:=x3) (o:=.ins (cs 3) d3 []));have gp:=Zn (H:=upd (upd (upd (upd (upd (upd (upd (upd H d0 (.own x0)) x0 (.ins (cs 0) d0 [])) d1 (.own x1)) x1 (.ins (cs 1) d1 [])) d2 (.own x2)) x2 (.ins (cs 2) d2 [])) d3 (.own x3)) x3 (.ins (cs 3) d3 [])) (a:=p) (o:=.tup [.ref x0,.ref x1,.ref x2,.ref x3])
 revert g0 g1 g2 g3 gp sA
 generalize upd _ p (.tup [.ref x0,.ref x1,.ref x2,.ref x3])=H4;intro sA g0 g1 g2 g3 gp;have hx1':=s0.free hx1;have hx2':=s0.free (s1.free hx2);have hx3':=s0.free (s1.free (s2.free hx3));have G:∀(i:Nat) (x:V),([V.ref x0,V.ref x1,V.ref x2,V.ref x3]:List V)[i]? = some x→∃(j:Fin 4) (y dy:Addr),j.val=i∧x = .ref y∧H y=none∧H4 y=some (.ins (cs j) dy []):=fun i x hx=>by
  match i,hx with
  | 0,hx=>exact⟨0,x0,d0,rfl,(Zr hx).symm,hx0,g0⟩
  | 1,hx=>exact⟨1,x1,d1,rfl,(Zr hx).symm,hx1',g1⟩
  | 2,hx=>exact⟨2,x2,d2,rfl,(Zr hx).symm,hx2',g2⟩
  | 3,hx=>exact⟨3,x3,d3,rfl,(Zr hx).symm,hx3',g3⟩
 refine⟨p,rfl,⟨_,SqT.of gp⟩,Zk2 (xs:=[.ref x0,.ref x1,.ref x2,.ref x3]) (fun i σ H'=>H'=H4∧(∃ x,σ=[some (.str t),x])∧∀ j:Fin 4,j.val < i→t≠wd j) ⟨rfl,⟨_,rfl⟩,fun j hj=>absurd hj (Nat.not_lt_zero _)⟩ (fun i σ H' _ z=>by obtain⟨rfl,_⟩:=z;exact SqT.of gp) (fun i x σ H' hx z=>?_) (fun σ H' z=>?_)⟩
 ·obtain⟨rfl,⟨x',rfl⟩,hno⟩:=z
  obtain⟨j,y,dy,hj,rfl,hy,gy⟩:=G i x hx;refine⟨_,rfl,j,y,dy,[],rfl,gy,rfl,y,rfl,_,rfl,rfl,_,rfl,N9 (fun c=>?_) (fun c=>?_)⟩
  ·have c':=Z4 c
   injection c' with c'
   exact⟨_,rfl,q j c'.symm y dy H' sA hy gy⟩
  ·refine⟨rfl,⟨_,rfl⟩,fun j' hj' e=>?_⟩
   by_cases lt:j'.val < i
   ·exact hno j' lt e
   ·have ej:j'=j:=Fin.ext (by omega)
    subst ej;exact c (Ze (by rw[e]))
 ·obtain⟨rfl,⟨x',rfl⟩,hno⟩:=z
  refine⟨Jp 1 (by decide),qn (fun z=>?_) _ sA⟩;obtain⟨j,hj⟩:=Zl2 z;exact hno j j.isLt hj
def Zbp:Sp:=fun vs H Q _=>∃ f:Fx,vs=[.str (Ac f)]∧f.Ok∧∀ l H',Same H H'→H l=none→H' l=some (.lst (vS [Xf f,Xo f,wd f.d,Yt f.pl,Yt f.tr]))→Q (.ref l) H'
theorem scMarks:FnScope ["text","words"] ["text"] (Zp S8):=⟨rfl,rfl,rfl,by decide +kernel,rfl,by decide +kernel,by decide +kernel⟩
def Bx:List Str:=["pack","seats","duty","plain","trump"]
theorem Zg5{k:Nat}{CN aM:Addr}(F:Fun K "words_behind_marks" "words_behind_marks" S8 f fd)(mM:mg "MARKS" = some (.ref aM))(hM:∀ H,SqT K H aM (vS Bx))(mC:mg "NoTable" = some (.ref CN))(hC:W.excIn K CN Nw "ValueError.__new__" = true)
  (mi:mg "isinstance" = none) (ms:mg "str" = none) (ml:mg "len" = none) (mt:mg "tuple" = none):FnOk P w K mg base (K4 P w) (k+1) f fd ["text"] Zbp:=by
 refine F.okX scMarks (fun vs H Q E h=>?_) (fun cdv A outer s H vs Q E hr h T=>?_)
 ·obtain⟨x,rfl,_⟩:=h
  rfl
 obtain⟨fx,rfl,ok,q⟩:=h;refine⟨_,Zm (Yh (Zmq (Ey (Jl Zig rfl mi PyProof.Rows.boot_isinstance (Zb (pv 0) (Zb (Zjr (v:=.ty "str") rfl ms PyProof.Rows.boot_str rfl) Zk))) (fun _=>rfl))) (Zv (Qi T hr.hd rfl mC hC (Zb Yl Zk))) Jz)
  (Zm (Z9 (i:=1) scMarks.nd rfl (Or.inl rfl) (Xp PySem.F.plainAttrs_str PySem.F.slot_str_split PySem.F.type_str_split Zhd (pv 0) (Zb Yl Zk)))
  (Zm (Yh (PW.pt (Gy (Je Q5 (Jl Jt rfl ml Jg (Zb (pv 1) Zk)) (Ja Xa Zo (Jl Jt rfl ml Jg (Zb (Yy (v:=.ref aM) rfl mM rfl) Zk))) (Js _))
    (Vr (Je (Zjy hr.units) (J8 Uo rfl mt Yi (Zb (Zb3 (pv 1) (Eg Zo) (Eg Zo)) Zk)) (Yy (v:=.ref aM) rfl mM rfl) (Js _))))) (Zv (Qi T hr.hd rfl mC hC (Zb Yl Zk))) Jz)
  (Zv (Jj (Zb3 (pv 1) (Eg Zo) (Eg Zo)))))),?_⟩
 have tl:=Ziz ok;refine⟨_,rfl,_,_,_,true,rfl,.str _,rfl,true,rfl,Yv ?_⟩;refine⟨_,rfl,rfl,Ac fx,blank,rfl,rfl,(by decide +kernel),by omega,fun l hl=>?_⟩;rw[Zcy];have s1:=Zx hl (.lst (vS (Gc fx)));refine⟨_,rfl,l,_,rfl,.inl (SqL.of Zn),aM,_,rfl,.inr (hM _),_,_,rfl,rfl,.inl ⟨by decide,by decide⟩,rfl,_,rfl,Yv ?_⟩;refine⟨_,rfl,_,rfl,_,rfl,rfl,l,.str "pack",.str (Xf fx),.str "seats",.str (Xo fx),.str "duty",.str (wd fx.d),.str "plain",.str (Yt fx.pl),.str "trump",.str (Yt fx.tr),rfl,SqL.of Zn,.inl ⟨rfl,fun p hp=>?_⟩⟩;have s2:=Zx hp (.lst (vS Bx));refine⟨p,vS Bx,rfl,.inl ⟨SqL.of Zn,fun p2 hp2=>?_⟩⟩;have s3:=Zx hp2 (.tup (vS Bx));refine⟨p2,aM,vS Bx,vS Bx,rfl,rfl,⟨SqT.of Zn,hM _⟩,Bg _,Bg _,_,rfl,?_⟩;show if(!B7 (vS Bx) (vS Bx))=true then _ else _
 rw[To];refine Yv ?_;have sA:=s1.trans (s2.trans s3);refine⟨_,rfl,_,rfl,_,rfl,rfl,l,.str "pack",.str (Xf fx),.str "seats",.str (Xo fx),.str "duty",.str (wd fx.d),.str "plain",.str (Yt fx.pl),.str "trump",.str (Yt fx.tr),rfl,SqL.of (s3 _ _ (s2 _ _ Zn)),.inr ⟨rfl,fun p3 hp3=>?_⟩⟩;exact q p3 _ (sA.trans (Zx hp3 _)) (sA.free hp3) Zn
def Zfa:Sp:=fun vs H Q _=>∃ f:Fx,vs=[.str (Xf f)]∧f.Ok∧∀ p H',Same H H'→H p=none→H' p=some (.tup [.int (f.s:Nat),.int (f.h:Nat)])→Q (.ref p) H'
theorem scSize:FnScope ["word","suits","heights"] ["word"] (Zp Vn):=⟨rfl,rfl,rfl,by decide +kernel,rfl,by decide +kernel,by decide +kernel⟩
theorem Zj4{k:Nat}{CN:Addr}{t1 t2:Tok}(F:Fun K "read_size" "read_size" Vn f fd)(mF:mg "FIGURES" = some (.str sFig t1))(mL:mg "LETTERS" = some (.str sLet t2))(mC:mg "NoTable" = some (.ref CN))(hC:W.excIn K CN Nw "ValueError.__new__" = true)(ml:mg "len" = none) :
  FnOk P w K mg base (K4 P w) (k+1) f fd ["word"] Zfa:=by
 refine F.okX scSize (fun vs H Q E h=>?_) (fun cdv A outer s H vs Q E hr h T=>?_)
 ·obtain⟨x,rfl,_⟩:=h
  rfl
 obtain⟨fx,rfl,ok,q⟩:=h;refine⟨_,Zm (Yh (PW.pt (Gy (Je Q5 (Jl Vd rfl ml Jg (Zb (pv 0) Zk)) Zo (Js _)) (Vr (Je Q5 (Jo Oq (pv 0) Zo (fun _ _=>rfl)) Yl (Js _))))) (Zv (Qi T hr.hd rfl mC hC (Zb Yl Zk))) Jz)
  (Zm (Z9 (i:=1) scSize.nd rfl (Or.inl rfl) (Ja Ym (Xp PySem.F.plainAttrs_str PySem.F.slot_str_find PySem.F.type_str_find Om (Yy (v:=.str sFig) rfl mF ⟨_,rfl⟩) (Zb (Jo Oq (pv 0) Zo (fun _ _=>rfl)) Zk)) Zo))
  (Zm (Z9 (i:=2) scSize.nd rfl (Or.inl rfl) (Ja Ym (Xp PySem.F.plainAttrs_str PySem.F.slot_str_find PySem.F.type_str_find Om (Yy (v:=.str sFig) rfl mF ⟨_,rfl⟩) (Zb (Jo Oq (pv 0) Zo (fun _ _=>rfl)) Zk)) Zo))
  (Zm (Yh (PW.pt (Gy (Je Uu (pv 1) Zo (Js _)) (Gy (Je E5 (pv 1) (Jl Vd rfl ml Jg (Zb (Yy (v:=.str sLet) rfl mL ⟨_,rfl⟩) Zk)) (Js _)) (Vr (Je Uu (pv 2) Zo (Js _)))))) (Zv (Qi T hr.hd rfl mC hC (Zb Yl Zk))) Jz)
  (Zv (Jj (Y2 (Zb (pv 1) (Zb (pv 2) Zk)))))))),?_⟩
 have hz:(Xf fx).length≤sizeLine:=Jp 3 (by decide);have at0:Xb (Xf fx).cps.toList 0=some (48+fx.s):=U7 (j:=0) rfl;have at1:Xb (Xf fx).cps.toList 1=some 120:=U7 (j:=1) rfl;have at2:Xb (Xf fx).cps.toList 2=some (48+fx.h):=U7 (j:=2) rfl;have s1:=ok.s1;have s4:=ok.s4;have h1:=ok.h1;have h8:=ok.h8;refine⟨_,rfl,_,rfl,hz,rfl,_,rfl,Yv ⟨_,rfl,_,_,_,rfl,rfl,hz,at1,rfl,_,rfl,?_⟩⟩;rw[Ze (show V.str ⟨#[120]⟩=V.str "x" by decide +kernel)];refine Yv ?_;refine⟨rfl,_,rfl,_,_,_,rfl,rfl,hz,at0,_,_,rfl,rfl,_,_,rfl,rfl,?_⟩;refine⟨rfl,_,rfl,_,_,_,rfl,rfl,hz,at2,_,_,rfl,rfl,_,_,rfl,rfl,?_⟩;rw[Ks,Ks,if_pos (by omega),if_pos (by omega)];have e1:((48+fx.s - 49:Nat):Int)+1=((fx.s:Nat):Int):=by omega
 have e2:((48+fx.h - 49:Nat):Int)+1=((fx.h:Nat):Int):=by omega
 dsimp only;rw[e1,e2];refine⟨_,rfl,rfl,_,rfl,?_⟩;rw[Zd (fun y=>by injection y with y;omega)];refine Yv ⟨_,rfl,_,rfl,Jp 4 (by decide),_,_,rfl,rfl,_,rfl,?_⟩;have l4:((sLet.length:Nat):Int)=4:=by decide +kernel
 rw[l4,Zd (show ¬ (4:Int) < ((fx.s:Nat):Int) by omega)];refine Yv ⟨_,rfl,rfl,_,rfl,?_⟩;rw[Zd (fun y=>by injection y with y;omega)];refine Yv ⟨_,rfl,_,rfl,Jp 2 (by decide),fun p hp=>q p _ (Zx hp _) hp Zn⟩
def Zbo:Sp:=fun vs H Q _=>∃ f:Fx,vs=[.str (Xo f)]∧f.Ok∧∀ H',Same H H'→Q (.int (f.n:Nat)) H'
theorem Zi7:FnScope ["word"] ["word"] (Zp Nz):=⟨rfl,rfl,rfl,by decide +kernel,rfl,by decide +kernel,by decide +kernel⟩
theorem Zgy{k:Nat}{CN:Addr}(F:Fun K "read_seats" "read_seats" Nz f fd)(mC:mg "NoTable" = some (.ref CN))(hC:W.excIn K CN Nw "ValueError.__new__" = true)(mI:mg "int" = none):FnOk P w K mg base (K4 P w) (k+1) f fd ["word"] Zbo:=by
 refine F.okX Zi7 (fun vs H Q E h=>?_) (fun cdv A outer s H vs Q E hr h T=>?_)
 ·obtain⟨x,rfl,_⟩:=h
  rfl
 obtain⟨fx,rfl,ok,q⟩:=h;refine⟨_,Zm (Yh (Je Qa (pv 0) (Y2 (Zb Yl (Zb Yl Zk))) rfl) (Zv (Qi T hr.hd rfl mC hC (Zb Yl Zk))) Jz)
  (Zv (Jj (J8 O2 rfl mI PyProof.Rows.boot_int (Zb (pv 0) Zk)))),?_⟩
 refine⟨_,rfl,Jp 2 (by decide),fun p hp=>?_⟩;have s1:=Zx hp (.tup (vS ["3","4"]));refine⟨p,vS ["3","4"],rfl,.inr (SqT.of Zn),rfl,rfl,_,rfl,?_⟩;show if(!Mu (.str (Xo fx)) (vS ["3","4"]))=true then _ else _
 rcases ok.n34 with e | e
 ·have es:Xo fx = "3":=by unfold Xo;rw[e];decide +kernel
  rw[es,show Mu (.str "3") (vS ["3","4"])=true by decide +kernel];refine Yv ⟨_,rfl,_,3,rfl,by decide +kernel,by decide +kernel,?_⟩;have:=q _ s1;rw[e] at this;exact this
 ·have es:Xo fx = "4":=by unfold Xo;rw[e];decide +kernel
  rw[es,show Mu (.str "4") (vS ["3","4"])=true by decide +kernel];refine Yv ⟨_,rfl,_,4,rfl,by decide +kernel,by decide +kernel,?_⟩;have:=q _ s1;rw[e] at this;exact this
def Zlo:Sp:=fun vs H Q _=>∃(l:List Nat) (h:Nat),vs=[.str (Yt l),.int (h:Nat)]∧h≤8∧l.Perm (List.range h)∧∀ p H',Same H H'→H p=none→H' p=some (.tup (vN l))→Q (.ref p) H'
theorem Zot:FnScope ["word","heights"] ["word","heights"] (Zp Ed):=⟨rfl,rfl,rfl,by decide +kernel,rfl,by decide +kernel,by decide +kernel⟩
theorem Znd{k:Nat}{CN:Addr}{t1:Tok}(F:Fun K "read_order" "read_order" Ed f fd)(mF:mg "FIGURES" = some (.str sFig t1))(mC:mg "NoTable" = some (.ref CN))(hC:W.excIn K CN Nw "ValueError.__new__" = true)(mS:mg "sorted" = none)(mLi:mg "list" = none)(mt:mg "tuple" = none) :
  FnOk P w K mg base (K4 P w) (k+1) f fd ["word","heights"] Zlo:=by
 refine F.okX Zot (fun vs H Q E h=>?_) (fun cdv A outer s H vs Q E hr h T=>?_)
 ·obtain⟨l,h,rfl,_⟩:=h
  rfl
 obtain⟨l,h,rfl,h8,pm,q⟩:=h;refine⟨_,Zm (Yh (Je (Zjz hr.units) (Jl (Ro rfl) rfl mS Yg (Zb (pv 0) Zk)) (J8 (Tw rfl) rfl mLi J5 (Zb (An Zme (Yy (v:=.str sFig) rfl mF ⟨_,rfl⟩) Zjo (Eg (pv 1))) Zk)) (Js _)) (Zv (Qi T hr.hd rfl mC hC (Zb Yl Zk))) Jz)
  (Zv (Jj (J8 Uo rfl mt Yi (Zb (Y7 ["figure"] [none] rfl (Blk.by (sc:=Zp Ed) (N0:=["word","heights"]) rfl rfl (by decide +kernel)) (Zmu (pv 0)) (fun C s₀ H₀ ex=>Jm (i:=0) (show(["figure"]:List Str).Nodup by decide +kernel) rfl (Or.inl rfl))
   (fun C s₀ H₀ ex=>Uj) (fun C s₀ H₀ ex=>Zgg (K:=K) rfl (Yy (v:=.str sFig) rfl mF ⟨_,rfl⟩) (Zb (pv 0) Zk))) Zk)))),?_⟩
 have ll:l.length=h:=Yd pm;refine⟨_,rfl,Yt l,rfl,(by rw[Qm];omega),fun l1 ss hl1 hp hs=>?_⟩;have es:=Of pm hp hs;subst es;have s1:=Zx hl1 (.lst (vS ((List.range h).map Q9)));refine⟨_,rfl,_,rfl,sFig,rfl,(by decide +kernel),_,rfl,Nat.le_trans (Txt.slice_le _ _ _) (by decide +kernel),fun l2 hl2=>?_⟩;rw[Zea h h8];have s2:=Zx hl2 (.lst (vS ((List.range h).map Q9)));refine⟨l1,l2,_,_,rfl,rfl,⟨SqL.of (s2 _ _ Zn),SqL.of Zn⟩,Bg _,Bg _,_,rfl,?_⟩;show if(!B7 (vS ((List.range h).map Q9)) (vS ((List.range h).map Q9)))=true then _ else _
 rw[To];refine Yv ⟨_,rfl,Yt l,rfl,?_⟩;have sA:=s1.trans s2;refine B9 l.length (fun i=>.str (Q9 (l.getD i 0))) (fun _=>true) (fun i=>.int ((l.getD i 0:Nat):Int)) (Jp _ (by omega)) (fun i H3 s3 hi=>?_) (fun H3 s3=>?_) (fun i H3 x H4 s3 hi y=>?_) (fun i H3 hi sm R hR=>hR H3 (Same.refl H3)) (fun i H3 hi hp sm R hR=>?_) (fun l3 H3 s3 hl3 hL3=>?_)
 ·show i < (Yt l).cps.size
  have:=Qm l;unfold Str.length at this;omega
 ·show(Yt l).cps.size≤l.length
  have:=Qm l;unfold Str.length at this;omega
 ·obtain⟨rfl,c,hc,rfl⟩:=y
  refine⟨rfl,?_⟩;have e:(Yt l).cps.toList[i]? = some c:=by rw[← hc];simp
  rw[show(Yt l).cps.toList=l.map (49 + ·) from rfl,Zl,Za hi] at e;have e2:49+l[i]=c:=Zr e;rw[Zj,Za hi,← e2];rfl
 ·have lt:l.getD i 0 < 8:=by
   rw[Zj,Za hi];have:=Zb2 pm l[i] (J3 hi);show l[i] < 8;omega
  refine⟨rfl,_,rfl,_,_,rfl,rfl,?_⟩;show R (.int (Txt.find sFig (Q9 (l.getD i 0)))) H3;rw[Zh1 _ lt];exact hR H3 (Same.refl H3)
 ·have e:((List.range l.length).filter fun _=>true).map (fun i=>V.int ((l.getD i 0:Nat):Int))=vN l:=by
   have z:=Xx l (fun _=>true) (fun c=>V.int ((c:Nat):Int)) 0;rw[z,List.filter_eq_self.mpr (fun _ _=>rfl)];rfl
  rw[e] at hL3;refine⟨l3,_,rfl,.inl ⟨SqL.of hL3,fun p hp=>?_⟩⟩;have sB:=sA.trans s3;exact q p _ (sB.trans (Zx hp _)) (sB.free hp) Zn
end
def Keep(x:Addr)(H H':Hp):Prop:=∀ b o,b≠x→H b=some o→H' b=some o
theorem Keep.trans{x:Addr}{H H1 H2:Hp}(a:Keep x H H1)(b:Keep x H1 H2):Keep x H H2:=fun c o n h=>b c o n (a c o n h)
theorem Keep.of{x:Addr}{H H':Hp}(s:Same H H'):Keep x H H':=fun b o _ h=>s b o h
theorem Keep.upd{x:Addr}{H:Hp}{o:HO}:Keep x H (upd H x o):=fun b u n h=>by rw[Jf n];exact h
def tF1(f:Fx)(po to:Addr):List (Str×V):=Xs "suits" (.int (f.s:Nat)) []
def tF2(f:Fx)(po to:Addr):List (Str×V):=Xs "heights" (.int (f.h:Nat)) (tF1 f po to)
def Sg(f:Fx)(po to:Addr):List (Str×V):=Xs "seats" (.int (f.n:Nat)) (tF2 f po to)
def Ae(f:Fx)(po to:Addr):List (Str×V):=Xs "duty_word" (.str (wd f.d)) (Sg f po to)
def O5(f:Fx)(po to:Addr):List (Str×V):=Xs "plain_order" (.ref po) (Ae f po to)
def tF6(f:Fx)(po to:Addr):List (Str×V):=Xs "trump_order" (.ref to) (O5 f po to)
def Sf(f:Fx)(po to:Addr):List (Str×V):=Xs "written" (.str (Ac f)) (tF6 f po to)
abbrev Zog:=Sf
theorem Zbk(f:Fx)(po to:Addr):(tF1 f po to).length≤1:=Y5 _ _ _
theorem Zbi(f:Fx)(po to:Addr):(tF2 f po to).length≤2:=Nat.le_trans (Y5 _ _ _) (Nat.succ_le_succ (Zbk f po to))
theorem Zbh(f:Fx)(po to:Addr):(Sg f po to).length≤3:=Nat.le_trans (Y5 _ _ _) (Nat.succ_le_succ (Zbi f po to))
theorem Zbg(f:Fx)(po to:Addr):(Ae f po to).length≤4:=Nat.le_trans (Y5 _ _ _) (Nat.succ_le_succ (Zbh f po to))
theorem Zbf(f:Fx)(po to:Addr):(O5 f po to).length≤5:=Nat.le_trans (Y5 _ _ _) (Nat.succ_le_succ (Zbg f po to))
theorem Zi1(f:Fx)(po to:Addr):(tF6 f po to).length≤6:=Nat.le_trans (Y5 _ _ _) (Nat.succ_le_succ (Zbf f po to))
theorem Kk(f:Fx)(po to:Addr):(Sf f po to).lookup ("suits":Str)=some (V.int (f.s:Nat)):=by
 unfold Sf;rw[Zy];rw[if_neg (by decide +kernel)];unfold tF6;rw[Zy];rw[if_neg (by decide +kernel)];unfold O5;rw[Zy];rw[if_neg (by decide +kernel)];unfold Ae;rw[Zy];rw[if_neg (by decide +kernel)];unfold Sg;rw[Zy];rw[if_neg (by decide +kernel)];unfold tF2;rw[Zy];rw[if_neg (by decide +kernel)];unfold tF1;rw[Zy];rw[if_pos rfl]
theorem Rh(f:Fx)(po to:Addr):(Sf f po to).lookup ("seats":Str)=some (V.int (f.n:Nat)):=by
 unfold Sf;rw[Zy];rw[if_neg (by decide +kernel)];unfold tF6;rw[Zy];rw[if_neg (by decide +kernel)];unfold O5;rw[Zy];rw[if_neg (by decide +kernel)];unfold Ae;rw[Zy];rw[if_neg (by decide +kernel)];unfold Sg;rw[Zy];rw[if_pos rfl]
theorem Rm(f:Fx)(po to:Addr):(Sf f po to).lookup ("duty_word":Str)=some (V.str (wd f.d)):=by
 unfold Sf;rw[Zy];rw[if_neg (by decide +kernel)];unfold tF6;rw[Zy];rw[if_neg (by decide +kernel)];unfold O5;rw[Zy];rw[if_neg (by decide +kernel)];unfold Ae;rw[Zy];rw[if_pos rfl]
theorem Bz(f:Fx)(po to:Addr):(Sf f po to).lookup ("plain_order":Str)=some (V.ref po):=by
 unfold Sf;rw[Zy];rw[if_neg (by decide +kernel)];unfold tF6;rw[Zy];rw[if_neg (by decide +kernel)];unfold O5;rw[Zy];rw[if_pos rfl]
theorem By(f:Fx)(po to:Addr):(Sf f po to).lookup ("trump_order":Str)=some (V.ref to):=by
 unfold Sf;rw[Zy];rw[if_neg (by decide +kernel)];unfold tF6;rw[Zy];rw[if_pos rfl]
theorem T7(f:Fx)(po to:Addr):(Ae f po to).lookup ("heights":Str)=some (V.int (f.h:Nat)):=by
 unfold Ae;rw[Zy];rw[if_neg (by decide +kernel)];unfold Sg;rw[Zy];rw[if_neg (by decide +kernel)];unfold tF2;rw[Zy];rw[if_pos rfl]
theorem T6(f:Fx)(po to:Addr):(O5 f po to).lookup ("heights":Str)=some (V.int (f.h:Nat)):=by
 unfold O5;rw[Zy];rw[if_neg (by decide +kernel)];unfold Ae;rw[Zy];rw[if_neg (by decide +kernel)];unfold Sg;rw[Zy];rw[if_neg (by decide +kernel)];unfold tF2;rw[Zy];rw[if_pos rfl]
theorem Zat(f:Fx)(po to:Addr):(Sf f po to).lookup ("duty":Str)=none:=by
 unfold Sf;rw[Zy];rw[if_neg (by decide +kernel)];unfold tF6;rw[Zy];rw[if_neg (by decide +kernel)];unfold O5;rw[Zy];rw[if_neg (by decide +kernel)];unfold Ae;rw[Zy];rw[if_neg (by decide +kernel)];unfold Sg;rw[Zy];rw[if_neg (by decide +kernel)];unfold tF2;rw[Zy];rw[if_neg (by decide +kernel)];unfold tF1;rw[Zy];rw[if_neg (by decide +kernel)];rfl
theorem Ri(f:Fx)(po to:Addr):(Sf f po to).lookup ("order":Str)=none:=by
 unfold Sf;rw[Zy];rw[if_neg (by decide +kernel)];unfold tF6;rw[Zy];rw[if_neg (by decide +kernel)];unfold O5;rw[Zy];rw[if_neg (by decide +kernel)];unfold Ae;rw[Zy];rw[if_neg (by decide +kernel)];unfold Sg;rw[Zy];rw[if_neg (by decide +kernel)];unfold tF2;rw[Zy];rw[if_neg (by decide +kernel)];unfold tF1;rw[Zy];rw[if_neg (by decide +kernel)];rfl
structure TabC(K:W.Frag)(mg:Str→Option Value)(CT:Addr):Prop where
 cl:Cls K CT
 mT:mg "Table" = some (.ref CT)
 nS:NoAttr K CT "suits"
 nH:NoAttr K CT "heights"
 nN:NoAttr K CT "seats"
 nD:NoAttr K CT "duty_word"
 nP:NoAttr K CT "plain_order"
 nT:NoAttr K CT "trump_order"
 nW:NoAttr K CT "written"
def IsTab(CT:Addr)(f:Fx)(H:Hp)(x:Addr):Prop:=∃ dx po to,H x=some (.ins CT dx (Zog f po to))∧H po=some (.tup (vN f.pl))∧H to=some (.tup (vN f.tr))
theorem IsTab.same{CT x:Addr}{f:Fx}{H H':Hp}(h:IsTab CT f H x)(s:Same H H'):IsTab CT f H' x:=by
 obtain⟨dx,po,to,a,b,c⟩:=h;exact⟨dx,po,to,s _ _ a,s _ _ b,s _ _ c⟩
def T9(x:Addr)(tv:V):List (Str×V):=Xs "trump" tv (Xs "table" (.ref x) [])
theorem Qf(x:Addr)(tv:V):(T9 x tv).lookup ("table":Str)=some (V.ref x):=by
 unfold T9;rw[Zy,if_neg (by decide +kernel),Zy,if_pos rfl]
theorem Xv(x:Addr)(tv:V):(T9 x tv).lookup ("trump":Str)=some tv:=by
 unfold T9;rw[Zy,if_pos rfl]
theorem Nc(x:Addr)(tv:V)(m:Str)(h1:m≠"trump")(h2:m≠"table"):(T9 x tv).lookup m=none:=by
 unfold T9;rw[Zy,if_neg h1,Zy,if_neg h2];rfl
structure GamC(K:W.Frag)(mg:Str→Option Value)(CG:Addr):Prop where
 cl:Cls K CG
 mG:mg "Game" = some (.ref CG)
 nT:NoAttr K CG "table"
 nU:NoAttr K CG "trump"
def IsGam(CG x:Addr)(tv:V)(H:Hp)(g:Addr):Prop:=∃ dg,H g=some (.ins CG dg (T9 x tv))
theorem IsGam.same{CG x g:Addr}{tv:V}{H H':Hp}(h:IsGam CG x tv H g)(s:Same H H'):IsGam CG x tv H' g:=by
 obtain⟨dg,a⟩:=h;exact⟨dg,s _ _ a⟩
abbrev Gm:Stmt:=Yo (top 49) 0
theorem Zci{F:Hp→Prop}{H H':Hp}(e:H'=H)(h:F H):F H':=by rw[e];exact h
section
variable{P:Program}{w:World}{K:W.Frag}{mg:Str→Option Value}{base:Heap}{f g:Addr}{fd gd:FuncData}
def Zln(CT:Addr):Sp:=fun vs H Q _=>∃(x dx:Addr) (f:Fx),vs=[.ref x,.str (Ac f)]∧f.Ok∧H x=some (.ins CT dx [])∧∀ po to H',Keep x H H'→H' x=some (.ins CT dx (Zog f po to))→H' po=some (.tup (vN f.pl))→H' to=some (.tup (vN f.tr))→Q .non H'
theorem scTab:FnScope ["self","text","words","size"] ["self","text"] (Zp Gm):=⟨rfl,rfl,rfl,by decide +kernel,rfl,by decide +kernel,by decide +kernel⟩
theorem Zna{k:Nat}{CT CN f1 f2 f3 f4 f5:Addr}{d1 d2 d3 d4 d5:FuncData}{cs fw:Fin 4→Addr}{fdw:Fin 4→FuncData}(F:Fun K "__init__" "Table.__init__" Gm f fd)(C:TabC K mg CT)(LM:LibX P w K mg base k "words_behind_marks" ["text"] Zbp f1 d1)(LZ:LibX P w K mg base k "read_size" ["word"] Zfa f2 d2)
  (LS:LibX P w K mg base k "read_seats" ["word"] Zbo f3 d3) (LO:LibX P w K mg base k "read_order" ["word","heights"] Zlo f4 d4) (LD:LibX P w K mg base k "duty_of" ["word"] (Sr cs CN) f5 d5) (W:Zik P w K mg base k cs fw fdw):FnOk P w K mg base Y6 (k+1) f fd ["self","text"] (Zln CT):=by
 refine F.ok scTab (fun vs H Q E h=>?_) (fun cdv A outer s H vs Q E hr h=>?_)
 ·obtain⟨x,dx,fx,rfl,_⟩:=h
  rfl
 obtain⟨x,dx,fx,rfl,ok,hx,q⟩:=h;refine⟨_,Zm (Z9 (i:=2) scTab.nd rfl (Or.inl rfl) (Z6 LM.ok hr rfl LM.mg LM.kp LM.bd .nil G0 (Zb (pv 1) Zk)))
  (Zm (Z9 (i:=3) scTab.nd rfl (Or.inl rfl) (Z6 LZ.ok hr rfl LZ.mg LZ.kp LZ.bd .nil G0 (Zb (Jo J9 (pv 2) Zo (fun _ _=>rfl)) Zk)))
  (Zm (X5 (pv 0) (Jo Jw (pv 3) Zo (fun _ _=>rfl)) rfl)
  (Zm (X5 (pv 0) (Jo Jw (pv 3) Zo (fun _ _=>rfl)) rfl)
  (Zm (X5 (pv 0) (Z6 LS.ok hr rfl LS.mg LS.kp LS.bd .nil G0 (Zb (Jo J9 (pv 2) Zo (fun _ _=>rfl)) Zk)) rfl)
  (Zm (X5 (pv 0) (Mh (Z6 LD.ok hr rfl LD.mg LD.kp LD.bd .nil G0 (Zb (Jo J9 (pv 2) Zo (fun _ _=>rfl)) Zk)) W hr Jn) rfl)
  (Zm (X5 (pv 0) (Z6 LO.ok hr rfl LO.mg LO.kp LO.bd .nil G0 (Zb (Jo J9 (pv 2) Zo (fun _ _=>rfl)) (Zb (Yj (pv 0) rfl) Zk))) rfl)
  (Zm (X5 (pv 0) (Z6 LO.ok hr rfl LO.mg LO.kp LO.bd .nil G0 (Zb (Jo J9 (pv 2) Zo (fun _ _=>rfl)) (Zb (Yj (pv 0) rfl) Zk))) rfl)
  (Zv (X5 (pv 0) (pv 1) rfl))))))))),?_⟩
 refine⟨_,rfl,fx,rfl,ok,fun l H1 s1 hl hL=>?_⟩;have hx1:=s1 _ _ hx;have nlx:l≠x:=Mm hL hx1 (by intro z;cases z);refine⟨_,rfl,l,_,0,.str (Xf fx),rfl,rfl,SqL.of hL,rfl,fx,rfl,ok,fun p H2 s2 hp hP=>?_⟩;have hx2:=s2 _ _ hx1;have hL2:=s2 _ _ hL;have npx:p≠x:=Mm hP hx2 (by intro z;cases z);refine⟨_,rfl,p,_,0,.int (fx.s:Nat),rfl,rfl,SqT.of hP,rfl,_,rfl,x,CT,dx,[],rfl,hx2,C.cl,C.nS,by decide,?_⟩;refine⟨_,rfl,p,[.int (fx.s:Nat),.int (fx.h:Nat)],1,.int (fx.h:Nat),rfl,rfl,SqT.of (by rw[Jf npx];exact hP),rfl,_,rfl,x,CT,dx,tF1 fx 0 0,rfl,Zn,C.cl,C.nH,J1 (Zbk _ _ _) (by decide),?_⟩;have k2:Keep x H (upd H2 x (.ins CT dx (tF2 fx 0 0))):=(Keep.of (s1.trans s2)).trans Keep.upd;have hL3:(upd H2 x (.ins CT dx (tF2 fx 0 0))) l=some (.lst (vS [Xf fx,Xo fx,wd fx.d,Yt fx.pl,Yt fx.tr])):=by rw[Jf nlx];exact hL2
 have hx3:(upd H2 x (.ins CT dx (tF2 fx 0 0))) x=some (.ins CT dx (tF2 fx 0 0)):=Zn;refine Zci (H:=upd H2 x (.ins CT dx (tF2 fx 0 0))) ?_ ?_
 ·first | rfl | exact Uq | (rw[Uq];rfl)
 revert k2 hL3 hx3
 generalize upd H2 x (.ins CT dx (tF2 fx 0 0))=H3;intro k2 hL3 hx3;refine⟨_,rfl,l,_,1,.str (Xo fx),rfl,rfl,SqL.of hL3,rfl,fx,rfl,ok,fun H4 s4=>⟨_,rfl,x,CT,dx,tF2 fx 0 0,rfl,s4 _ _ hx3,C.cl,C.nN,J1 (Zbi _ _ _) (by decide),?_⟩⟩;have k4:Keep x H (upd H4 x (.ins CT dx (Sg fx 0 0))):=k2.trans ((Keep.of s4).trans Keep.upd);have hL5:(upd H4 x (.ins CT dx (Sg fx 0 0))) l=some (.lst (vS [Xf fx,Xo fx,wd fx.d,Yt fx.pl,Yt fx.tr])):=by rw[Jf nlx];exact s4 _ _ hL3
 have hx5:(upd H4 x (.ins CT dx (Sg fx 0 0))) x=some (.ins CT dx (Sg fx 0 0)):=Zn;refine Zci (H:=upd H4 x (.ins CT dx (Sg fx 0 0))) ?_ ?_
 ·first | rfl | exact Uq | (rw[Uq];rfl)
 revert k4 hL5 hx5
 generalize upd H4 x (.ins CT dx (Sg fx 0 0))=H5;intro k4 hL5 hx5;refine⟨_,rfl,l,_,2,.str (wd fx.d),rfl,rfl,SqL.of hL5,rfl,wd fx.d,rfl,fun i e y dy H6 s6 hy h6=>?_,fun z=>absurd (Zhf _) z⟩;have ei:=K7 _ _ e;subst ei;refine⟨fx.d,y,dy,[],rfl,h6,rfl,y,rfl,_,rfl,x,CT,dx,Sg fx 0 0,rfl,s6 _ _ hx5,C.cl,C.nD,J1 (Zbh _ _ _) (by decide),?_⟩;have k6:Keep x H (upd H6 x (.ins CT dx (Ae fx 0 0))):=k4.trans ((Keep.of s6).trans Keep.upd);have hL7:(upd H6 x (.ins CT dx (Ae fx 0 0))) l=some (.lst (vS [Xf fx,Xo fx,wd fx.d,Yt fx.pl,Yt fx.tr])):=by rw[Jf nlx];exact s6 _ _ hL5
 have hx7:(upd H6 x (.ins CT dx (Ae fx 0 0))) x=some (.ins CT dx (Ae fx 0 0)):=Zn;refine Zci (H:=upd H6 x (.ins CT dx (Ae fx 0 0))) ?_ ?_
 ·first | rfl | exact Uq | (rw[Uq];rfl)
 revert k6 hL7 hx7
 generalize upd H6 x (.ins CT dx (Ae fx 0 0))=H7;intro k6 hL7 hx7;refine⟨_,rfl,l,_,3,.str (Yt fx.pl),rfl,rfl,SqL.of hL7,rfl,_,rfl,x,CT,dx,_,_,rfl,hx7,C.cl,C.nH,T7 _ _ _,fx.pl,fx.h,rfl,ok.h8,ok.pp,fun po H8 s8 hpo hP8=>⟨_,rfl,x,CT,dx,Ae fx po 0,rfl,s8 _ _ hx7,C.cl,C.nP,J1 (Zbg _ _ _) (by decide),?_⟩⟩;have nox:po≠x:=fun z=>by
  rw[z,hx7] at hpo;cases hpo
 have k8:Keep x H (upd H8 x (.ins CT dx (O5 fx po 0))):=k6.trans ((Keep.of s8).trans Keep.upd);have hL9:(upd H8 x (.ins CT dx (O5 fx po 0))) l=some (.lst (vS [Xf fx,Xo fx,wd fx.d,Yt fx.pl,Yt fx.tr])):=by rw[Jf nlx];exact s8 _ _ hL7
 have hP9:(upd H8 x (.ins CT dx (O5 fx po 0))) po=some (.tup (vN fx.pl)):=by rw[Jf nox];exact hP8
 have hx9:(upd H8 x (.ins CT dx (O5 fx po 0))) x=some (.ins CT dx (O5 fx po 0)):=Zn;refine Zci (H:=upd H8 x (.ins CT dx (O5 fx po 0))) ?_ ?_
 ·first | rfl | exact Uq | (rw[Uq];rfl)
 revert k8 hL9 hP9 hx9
 generalize upd H8 x (.ins CT dx (O5 fx po 0))=H9;intro k8 hL9 hP9 hx9;refine⟨_,rfl,l,_,4,.str (Yt fx.tr),rfl,rfl,SqL.of hL9,rfl,_,rfl,x,CT,dx,_,_,rfl,hx9,C.cl,C.nH,T6 _ _ _,fx.tr,fx.h,rfl,ok.h8,ok.pt,fun to H10 s10 hto hT10=>⟨_,rfl,x,CT,dx,O5 fx po to,rfl,s10 _ _ hx9,C.cl,C.nT,J1 (Zbf _ _ _) (by decide),?_⟩⟩;have ntx:to≠x:=fun z=>by
  rw[z,hx9] at hto;cases hto
 refine⟨_,rfl,_,rfl,x,CT,dx,tF6 fx po to,rfl,Zn,C.cl,C.nW,J1 (Zi1 _ _ _) (by decide),?_⟩;rw[Uq];refine q po to _ (k8.trans ((Keep.of s10).trans Keep.upd)) Zn ?_ ?_
 ·rw[Jf nox];exact s10 _ _ hP9
 ·rw[Jf ntx];exact hT10
abbrev Gn:Stmt:=Yo (top 49) 2
abbrev Vl:Stmt:=Yo (top 49) 3
abbrev Ul:Stmt:=Yo (top 50) 0
def Zbn(CT:Addr):Sp:=fun vs H Q _=>∃(x:Addr) (f:Fx),vs=[.ref x]∧IsTab CT f H x∧Q (.str (wd f.d)) H
theorem Zi6:FnScope ["self"] ["self"] (Zp Gn):=⟨rfl,rfl,rfl,by decide +kernel,rfl,by decide +kernel,by decide +kernel⟩
theorem Zgw{k:Nat}{CT:Addr}(F:Fun K "duty" "Table.duty" Gn f fd)(C:TabC K mg CT):FnOk P w K mg base Y6 (k+1) f fd ["self"] (Zbn CT):=by
 refine F.ok Zi6 (fun vs H Q E h=>?_) (fun cdv A outer s H vs Q E hr h=>?_)
 ·obtain⟨x,fx,rfl,_⟩:=h
  rfl
 obtain⟨x,fx,rfl,⟨dx,po,to,hx,_,_⟩,q⟩:=h;refine⟨_,Zv (Jj (Yj (pv 0) rfl)),?_⟩;exact⟨_,rfl,x,CT,dx,_,_,rfl,hx,C.cl,C.nD,Rm _ _ _,q⟩
def Ud(f:Fx)(b:Bool):List Nat:=if b then f.tr else f.pl
def Gf(CT:Addr):Sp:=fun vs H Q _=>∃(x:Addr) (f:Fx) (b:Bool),vs=[.ref x,.bl b]∧IsTab CT f H x∧∀ l H',Same H H'→H l=none→H' l=some (.lst (vN (Ud f b)))→Q (.ref l) H'
theorem Zfk:FnScope ["self","is_trump"] ["self","is_trump"] (Zp Vl):=⟨rfl,rfl,rfl,by decide +kernel,rfl,by decide +kernel,by decide +kernel⟩
theorem Mi{k:Nat}{CT:Addr}(F:Fun K "order" "Table.order" Vl f fd)(C:TabC K mg CT)(mLi:mg "list" = none):FnOk P w K mg base Y6 (k+1) f fd ["self","is_trump"] (Gf CT):=by
 refine F.ok Zfk (fun vs H Q E h=>?_) (fun cdv A outer s H vs Q E hr h=>?_)
 ·obtain⟨x,fx,b,rfl,_⟩:=h
  rfl
 obtain⟨x,fx,b,rfl,⟨dx,po,to,hx,hp,ht⟩,q⟩:=h;refine⟨_,Zv (Jj (J8 Uy rfl mLi J5 (Zb (Q4 (Ey (pv 1) (fun _=>rfl)) (Yj (pv 0) rfl) (Yj (pv 0) rfl)) Zk))),?_⟩;refine⟨_,rfl,b,rfl,?_⟩;cases b with
 | true=>exact U1 ⟨_,rfl,x,CT,dx,_,_,rfl,hx,C.cl,C.nT,By _ _ _,to,_,rfl,.inr (SqT.of ht),fun l hl=>q l _ (Zx hl _) hl Zn⟩
 | false=>exact Yv ⟨_,rfl,x,CT,dx,_,_,rfl,hx,C.cl,C.nP,Bz _ _ _,po,_,rfl,.inr (SqT.of hp),fun l hl=>q l _ (Zx hl _) hl Zn⟩
def Zlp(CG:Addr):Sp:=fun vs H Q _=>∃(g dg x:Addr) (tv:V),vs=[.ref g,.ref x,tv]∧H g=some (.ins CG dg [])∧Q .non (upd H g (.ins CG dg (T9 x tv)))
theorem Zow:FnScope ["self","table","trump"] ["self","table","trump"] (Zp Ul):=⟨rfl,rfl,rfl,by decide +kernel,rfl,by decide +kernel,by decide +kernel⟩
theorem Zni{k:Nat}{CG:Addr}(F:FunD K "__init__" "Game.__init__" Ul f fd)(C:GamC K mg CG):FnOk P w K mg base Y6 (k+1) f fd ["self","table","trump"] (Zlp CG):=by
 refine F.ok Zow (fun vs H Q E h=>?_) (fun cdv A outer s H vs Q E hr h=>?_)
 ·obtain⟨g,dg,x,tv,rfl,_⟩:=h
  rfl
 obtain⟨g,dg,x,tv,rfl,hg,q⟩:=h;refine⟨_,Zm (X5 (pv 0) (pv 1) rfl) (Zv (X5 (pv 0) (pv 2) rfl)),?_⟩;refine⟨_,rfl,_,rfl,g,CG,dg,[],rfl,hg,C.cl,C.nT,by decide,?_⟩;refine⟨_,rfl,_,rfl,g,CG,dg,Xs "table" (.ref x) [],rfl,Zn,C.cl,C.nU,J1 (Y5 _ _ _) (by decide),?_⟩;rw[Uq];exact q
end
def X2(s h:Nat):List Nat:=(List.range s).flatMap fun u=>(List.range h).map fun v=>8 * u+v
end My
namespace L2
open PySem PySem.Spec PyProof.Rows
end L2
namespace My
open PySem L2
def pos(x:Nat):List Nat→Nat
 | []=>0
 | y :: l=>if y=x then 0 else pos x l+1
theorem Uz{x:Nat}:∀{l:List Nat},x∈l→l[pos x l]? = some x∧∀ m < pos x l,l[m]?≠some x
 | [],h=>nomatch h
 | y :: l,h=>by
  unfold pos;by_cases c:y=x
  ·rw[if_pos c]
   exact⟨by rw[c];rfl,fun m hm=>absurd hm (Nat.not_lt_zero _)⟩
  ·rw[if_neg c]
   have hl:x∈l:=by
    rcases List.mem_cons.mp h with e | e
    ·exact absurd e.symm c
    ·exact e
   obtain⟨a,b⟩:=Uz hl;refine⟨a,fun m hm=>?_⟩;cases m with
   | zero=>exact fun z=>c (Zr z)
   | succ m=>exact b m (by omega)
theorem Od{l:List Nat}{x y:Nat}(hx:x∈l)(hy:y∈l)(e:pos x l=pos y l):x=y:=by
 have a:=(Uz hx).1;have b:=(Uz hy).1;rw[e,b] at a;exact(Zr a).symm
def V8:Option Nat→V
 | none=>.non
 | some t=>.int (t:Nat)
theorem Zbc(t:Option Nat)(s:Nat):decide (V.int (s:Nat)=V8 t)=decide (t=some s):=by
 cases t with
 | none=>
  rw[Zd (fun z=>nomatch z),Zd (fun z=>nomatch z)]
 | some u=>
  by_cases c:s=u
  ·subst c
   rw[Ze (show V.int (s:Nat)=V8 (some s) from rfl),Ze rfl]
  ·rw[Zd (fun z=>c (by injection z with z;omega)),Zd (fun z=>c (Zr z).symm)]
theorem Rp(t:Option Nat)(s:Int):Zmg (.int s) (V8 t)=true:=by cases t<;>rfl
theorem Ziu(t:Option Nat):U3 (V8 t)=true:=by cases t<;>rfl
def Y4(f:Fx)(t:Option Nat)(c o led:Nat):Bool:=
 if c / 8=o / 8 then decide (c / 8=led∨t=some (c / 8)) && decide (pos (o % 8) (if t=some (c / 8) then f.tr else f.pl) < pos (c % 8) (if t=some (c / 8) then f.tr else f.pl))
 else if t=some (c / 8) then true else decide (c / 8=led) && !decide (t=some (o / 8))
theorem Xj{f:Fx}{t:Option Nat}{c o led:Nat}(h:c / 8=o / 8):Y4 f t c o led=(decide (c / 8=led∨t=some (c / 8)) && decide (pos (o % 8) (if t=some (c / 8) then f.tr else f.pl) < pos (c % 8) (if t=some (c / 8) then f.tr else f.pl))):=if_pos h
theorem X1{f:Fx}{t:Option Nat}{c o led:Nat}(h:¬ c / 8=o / 8):Y4 f t c o led=(if t=some (c / 8) then true else decide (c / 8=led) && !decide (t=some (o / 8))):=if_neg h
theorem T4(f:Fx)(t:Option Nat)(c o led:Nat):Y4 f t c o led=true→Y4 f t o c led=true→False:=by
 by_cases s:c / 8=o / 8
 ·rw[Xj s,Xj s.symm,← s]
  intro a b;rw[Bool.and_eq_true,decide_eq_true_eq,decide_eq_true_eq] at a b;omega
 ·rw[X1 s,X1 (fun z=>s z.symm)]
  by_cases c1:t=some (c / 8)
  ·have c2:¬ t=some (o / 8):=fun z=>s (by rw[c1] at z;exact Zr z)
   rw[if_neg c2];intro _ b;rw[Ze c1] at b;simp at b
  ·rw[if_neg c1]
   by_cases c2:t=some (o / 8)
   ·intro a _
    rw[Ze c2] at a;simp at a
   ·rw[if_neg c2]
    intro a b;rw[Bool.and_eq_true,decide_eq_true_eq] at a b;omega
theorem Ay{f:Fx}(ok:f.Ok){t:Option Nat}{c o led:Nat}(hc:c % 8 < f.h)(ho:o % 8 < f.h)(ne:c≠o)(s1:c / 8=led∨t=some (c / 8))(s2:o / 8=led∨t=some (o / 8)):Y4 f t c o led=true∨Y4 f t o c led=true:=by
 by_cases s:c / 8=o / 8
 ·rw[Xj s,Xj s.symm,← s,Ze s1,Bool.true_and,Bool.true_and,decide_eq_true_eq,decide_eq_true_eq]
  have hmem:∀ x,x < f.h→x∈(if t=some (c / 8) then f.tr else f.pl):=fun x hx=>by
   split
   ·exact ok.pt.symm.subset (Z8.mpr hx)
   ·exact ok.pp.symm.subset (Z8.mpr hx)
  have np:pos (c % 8) (if t=some (c / 8) then f.tr else f.pl)≠pos (o % 8) (if t=some (c / 8) then f.tr else f.pl):=fun z=>by
   have:=Od (hmem _ hc) (hmem _ ho) z;omega
  omega
 ·rw[X1 s,X1 (fun z=>s z.symm)]
  by_cases c1:t=some (c / 8)
  ·exact .inl (if_pos c1)
  ·by_cases c2:t=some (o / 8)
   ·exact .inr (if_pos c2)
   ·exfalso
    rcases s1 with s1 | s1
    ·rcases s2 with s2 | s2
     ·omega
     ·exact c2 s2
    ·exact c1 s1
theorem Zkt(s led:Nat)(t:Option Nat):Mu (.int (s:Nat)) [V8 t,.int (led:Nat)]=decide (s=led∨t=some s):=by
 have e:Mu (.int (s:Nat)) [V8 t,.int (led:Nat)]=(Ma (V8 t) (.int (s:Nat)) || (Ma (.int (led:Nat)) (.int (s:Nat)) || false)):=rfl;rw[e];have e1:Ma (V8 t) (.int (s:Nat))=decide (t=some s):=by
  cases t with
  | none=>rw[Zd (fun z=>nomatch z)];rfl
  | some u=>
   show(((u:Nat):Int) == (s:Nat))=_;by_cases c:u=s
   ·subst c;simp
   ·rw[Zd (fun z=>c (Zr z))]
    exact beq_eq_false_iff_ne.mpr (by omega)
 have e2:Ma (.int (led:Nat)) (.int (s:Nat))=decide (s=led):=by
  show(((led:Nat):Int) == (s:Nat))=_;by_cases c:s=led
  ·subst c;simp
  ·rw[Zd c]
   exact beq_eq_false_iff_ne.mpr (by omega)
 rw[e1,e2];by_cases a:s=led<;>by_cases b:t=some s<;>simp [a,b]
theorem B3(x:Nat):∀(l:List Nat),Mu (.int (x:Nat)) (vN l)=decide (x∈l)
 | []=>by rw[Zd (Yr)];rfl
 | y :: l=>by
  have e:Mu (.int (x:Nat)) (vN (y :: l))=((((y:Nat):Int) == (x:Nat)) || Mu (.int (x:Nat)) (vN l)):=rfl;rw[e,B3 x l];by_cases c:x=y
  ·subst c
   simp
  ·have b:(((y:Nat):Int) == (x:Nat))=false:=beq_eq_false_iff_ne.mpr (by omega)
   rw[b,Bool.false_or];by_cases d:x∈l
   ·rw[Ze d,Ze (Zu _ d)]
   ·rw[Zd d,Zd fun z=>by
     rcases List.mem_cons.mp z with z | z
     ·exact c z
     ·exact d z]
theorem Xz:∀(l:List Nat),(vN l).all U3=true
 | []=>rfl
 | _ :: l=>by
  show(true && (vN l).all U3)=true;rw[Xz l];rfl
theorem Kl{l:List Nat}{x:Nat}(h:x∈l):(l.map fun c=>((c:Nat):Int))[pos x l]? = some ((x:Nat):Int)∧∀ m < pos x l,(l.map fun c=>((c:Nat):Int))[m]?≠some ((x:Nat):Int):=by
 obtain⟨a,b⟩:=Uz h;refine⟨by rw[Zl,a];rfl,fun m hm z=>?_⟩;rw[Zl] at z;cases e:l[m]? with
 | none=>rw[e] at z;cases z
 | some y=>
  rw[e] at z;have:((y:Nat):Int)=(x:Nat):=Zr z;have ey:y=x:=by omega
  rw[ey] at e;exact b m hm e
abbrev S9:Stmt:=top 48
abbrev Vm:Stmt:=Yo (top 50) 2
abbrev Zfs:Stmt:=Yo (top 50) 3
section
variable{P:Program}{w:World}{K:W.Frag}{mg:Str→Option Value}{base:Heap}{f g:Addr}{fd gd:FuncData}
theorem No{a b:Bool}{A B:Prop}(e:a=b)(h:if b=true then A else B):if a=true then A else B:=by rw[e];exact h
theorem Zqw{a b:Bool}{Q:VK}{H:Hp}(e:a=b)(h:Q (.bl b) H):Q (.bl a) H:=by rw[e];exact h
def Zbs(K:W.Frag):Sp:=fun vs H Q _=>∃(l:Addr) (ls:List Nat) (x y:Nat),vs=[.ref l,.int (x:Nat),.int (y:Nat)]∧SqL K H l (vN ls)∧ls.length≤1000∧x∈ls∧y∈ls∧Q (.bl (decide (pos y ls < pos x ls))) H
theorem Zja:FnScope ["order","height","other"] ["order","height","other"] (Zp S9):=⟨rfl,rfl,rfl,by decide +kernel,rfl,by decide +kernel,by decide +kernel⟩
theorem Zg7{k:Nat}(F:Fun K "is_later" "is_later" S9 f fd):FnOk P w K mg base Y6 (k+1) f fd ["order","height","other"] (Zbs K):=by
 refine F.ok Zja (fun vs H Q E h=>?_) (fun cdv A outer s H vs Q E hr h=>?_)
 ·obtain⟨l,ls,x,y,rfl,_⟩:=h
  rfl
 obtain⟨l,ls,x,y,rfl,hS,hl,hx,hy,q⟩:=h;refine⟨_,Zm (Yh (PW.pt (Gy (Je Qa (pv 1) (pv 0) rfl) (Vr (Je Qa (pv 2) (pv 0) rfl)))) (Zv (Jj Ao)) Jz)
  (Zv (Jj (X0 E5 (Xp Jr PySem.F.slot_list_index PySem.F.type_list_index E6 (pv 0) (Zb (pv 1) Zk)) (Xp Jr PySem.F.slot_list_index PySem.F.type_list_index E6 (pv 0) (Zb (pv 2) Zk)) (Js _)))),?_⟩
 refine⟨_,rfl,_,rfl,l,vN ls,rfl,.inl hS,rfl,Xz _,_,rfl,?_⟩;show(if(!Mu (.int (x:Nat)) (vN ls))=true then _ else _);rw[B3,Ze hx];refine Yv ⟨_,rfl,_,rfl,l,vN ls,rfl,.inl hS,rfl,Xz _,_,rfl,?_⟩;show(if(!Mu (.int (y:Nat)) (vN ls))=true then _ else _);rw[B3,Ze hy];refine Yv ?_;have hS':SqL K H l ((ls.map fun c=>((c:Nat):Int)).map V.int):=by rw[← Qr];exact hS
 have ll:(ls.map fun c=>((c:Nat):Int)).length≤1000:=by rw[Zf];exact hl
 refine⟨_,rfl,.inl ⟨rfl,_,hS⟩,_,rfl,l,_,_,pos x ls,rfl,rfl,hS',ll,(Kl hx).1,(Kl hx).2,?_⟩;refine⟨_,rfl,.inl ⟨rfl,_,hS⟩,_,rfl,l,_,_,pos y ls,rfl,rfl,hS',ll,(Kl hy).1,(Kl hy).2,_,_,rfl,rfl,?_⟩;have e:decide (((pos y ls:Nat):Int) < ((pos x ls:Nat):Int))=decide (pos y ls < pos x ls):=by
  by_cases c:pos y ls < pos x ls
  ·rw[Ze c,Ze (by omega)]
  ·rw[Zd c,Zd (by omega)]
 show Q (.bl (decide (((pos y ls:Nat):Int) < ((pos x ls:Nat):Int)))) H;rw[e];exact q
def Og(f:Fx)(t:Option Nat)(c:Nat):List Nat:=if t=some (c / 8) then f.tr else f.pl
theorem A0{f:Fx}(ok:f.Ok){t:Option Nat}{c x:Nat}(hx:x < f.h):x∈Og f t c:=by
 unfold Og;split
 ·exact ok.pt.symm.subset (Z8.mpr hx)
 ·exact ok.pp.symm.subset (Z8.mpr hx)
theorem Zgr{f:Fx}(ok:f.Ok){t:Option Nat}{c:Nat}:(Og f t c).length≤1000:=by
 have h8:=ok.h8;unfold Og;split
 ·rw[Yd ok.pt];omega
 ·rw[Yd ok.pp];omega
def Ny(CT CG:Addr):Sp:=fun vs H Q _=>∃(gm x:Addr) (t:Option Nat) (f:Fx) (c o:Nat),vs=[.ref gm,.int (c:Nat),.int (o:Nat)]∧f.Ok∧IsGam CG x (V8 t) H gm∧IsTab CT f H x∧c % 8 < f.h∧o % 8 < f.h∧∀ H',Same H H'→Q (.bl (decide (pos (o % 8) (Og f t c) < pos (c % 8) (Og f t c)))) H'
theorem scStronger:FnScope ["self","card","other","order"] ["self","card","other"] (Zp Vm):=⟨rfl,rfl,rfl,by decide +kernel,rfl,by decide +kernel,by decide +kernel⟩
theorem A7{k:Nat}{CT CG f1 m3:Addr}{d1 e3:FuncData}{t1:Tok}(F:Fun K "is_stronger" "Game.is_stronger" Vm f fd)(C:TabC K mg CT)(CGm:GamC K mg CG)(LL:Lib P w K mg base k "is_later" ["order","height","other"] (Zbs K) f1 d1)
  (MO:Meth K CT "order" m3) (FO:FnOk P w K mg base Y6 k m3 e3 ["self","is_trump"] (Gf CT)) (BO:Binds K e3 ["self","is_trump"] []) (mH:mg "HEIGHTS" = some (.int 8 t1)):FnOk P w K mg base Y6 (k+1) f fd ["self","card","other"] (Ny CT CG):=by
 refine F.ok scStronger (fun vs H Q E h=>?_) (fun cdv A outer s H vs Q E hr h=>?_)
 ·obtain⟨gm,x,t,fx,c,o,rfl,_⟩:=h
  rfl
 obtain⟨gm,x,t,fx,c,o,rfl,ok,hg,ht,hc,ho,q⟩:=h;refine⟨_,Zm (Z9 (i:=3) scStronger.nd rfl (Or.inl rfl) (Us (Yj (pv 0) rfl) C.cl MO FO hr BO .nil Jn (Zb (X0 Uu (Ja Ys (pv 1) (Yy (v:=.int 8) rfl mH ⟨_,rfl⟩)) (Yj (pv 0) rfl) (Js _)) Zk)))
  (Zv (Jj (Z6 LL.ok hr rfl LL.mg LL.kp LL.bd .nil Jn (Zb (pv 3) (Zb (Ja Y3 (pv 1) (Yy (v:=.int 8) rfl mH ⟨_,rfl⟩)) (Zb (Ja Y3 (pv 2) (Yy (v:=.int 8) rfl mH ⟨_,rfl⟩)) Zk)))))),?_⟩
 obtain⟨dg,hG⟩:=id hg;obtain⟨dx,po,to,hX,_,_⟩:=id ht;have e1:((c:Nat):Int) / 8=((c / 8:Nat):Int):=by omega
 refine⟨_,rfl,gm,CG,dg,_,_,rfl,hG,CGm.cl,CGm.nT,Qf _ _,x,dx,_,rfl,hX,Ri _ _ _,?_⟩;refine⟨_,rfl,_,_,rfl,rfl,⟨by decide,by decide⟩,_,rfl,gm,CG,dg,_,_,rfl,hG,CGm.cl,CGm.nU,Xv _ _,Rp _ _,x,fx,decide (t=some (c / 8)),?_,ht,fun l H1 s1 hl hL=>?_⟩
 ·show V.ref x :: ([V.bl (decide (V.int (((c:Nat):Int) / 8)=V8 t))]++[])=[V.ref x,V.bl (decide (t=some (c / 8)))]
  rw[e1,Zbc];rfl
 have eo:Ud fx (decide (t=some (c / 8)))=Og fx t c:=by
  unfold Ud Og;by_cases z:t=some (c / 8)
  ·rw[if_pos z,if_pos (Ze z)]
  ·rw[if_neg z,if_neg (by rw[Zd z];decide)]
 rw[eo] at hL;have e2:((c:Nat):Int) % 8=((c % 8:Nat):Int):=by omega
 have e3:((o:Nat):Int) % 8=((o % 8:Nat):Int):=by omega
 refine⟨_,rfl,_,rfl,_,_,rfl,rfl,(show(0:Int) < 8 by decide),_,rfl,_,_,rfl,rfl,(show(0:Int) < 8 by decide),l,Og fx t c,c % 8,o % 8,?_,SqL.of hL,Zgr ok,A0 ok hc,A0 ok ho,q _ s1⟩;dsimp only;rw[e2,e3];rfl
def Dq(CT CG:Addr):Sp:=fun vs H Q _=>∃(gm x:Addr) (t:Option Nat) (f:Fx) (c o led:Nat),vs=[.ref gm,.int (c:Nat),.int (o:Nat),.int (led:Nat)]∧f.Ok∧IsGam CG x (V8 t) H gm∧IsTab CT f H x∧c % 8 < f.h∧o % 8 < f.h∧∀ H',Same H H'→Q (.bl (Y4 f t c o led)) H'
abbrev Rf:List Str:=["self","card","other","led"]
theorem scOver:FnScope ["self","card","other","led","suit"] Rf (Zp Zfs):=⟨rfl,rfl,rfl,by decide +kernel,rfl,by decide +kernel,by decide +kernel⟩
theorem Zck(a b:Nat):decide (V.int (a:Nat)=V.int (b:Nat))=decide (a=b):=by
 by_cases c:a=b
 ·subst c
  rw[Ze rfl,Ze rfl]
 ·rw[Zd c,Zd (fun z=>c (by injection z with z;omega))]
theorem Zj7{k:Nat}{CT CG m3:Addr}{e3:FuncData}{t1:Tok}(F:Fun K "is_over" "Game.is_over" Zfs f fd)(CGm:GamC K mg CG)(MS:Meth K CG "is_stronger" m3)(FS:FnOk P w K mg base Y6 k m3 e3 ["self","card","other"] (Ny CT CG))(BS:Binds K e3 ["self","card","other"] [])(mH:mg "HEIGHTS" = some (.int 8 t1)) :
  FnOk P w K mg base Y6 (k+1) f fd Rf (Dq CT CG):=by
 refine F.ok scOver (fun vs H Q E h=>?_) (fun cdv A outer s H vs Q E hr h=>?_)
 ·obtain⟨gm,x,t,fx,c,o,led,rfl,_⟩:=h
  rfl
 obtain⟨gm,x,t,fx,c,o,led,rfl,ok,hg,ht,hc,ho,q⟩:=h;refine⟨_,Zm (Z9 (i:=4) scOver.nd rfl (Or.inl rfl) (Ja Ys (pv 1) (Yy (v:=.int 8) rfl mH ⟨_,rfl⟩)))
  (Zm (Yh (Je Uu (pv 4) (Ja Ys (pv 2) (Yy (v:=.int 8) rfl mH ⟨_,rfl⟩)) (Js _)) (Zv (Jj (Zgj (X0 Qd (pv 4) (Y2 (Zb (Yj (pv 0) rfl) (Zb (pv 3) Zk))) rfl) (Zgc (Us (pv 0) CGm.cl MS FS hr BS .nil Jn (Zb (pv 1) (Zb (pv 2) Zk))))))) Jz)
  (Zm (Yh (Je Uu (pv 4) (Yj (pv 0) rfl) (Js _)) (Zv (Jj Ao)) Jz)
  (Zv (Jj (Zgj (X0 Uu (pv 4) (pv 3) (Js _)) (Zgc (X0 Q5 (Ja Ys (pv 2) (Yy (v:=.int 8) rfl mH ⟨_,rfl⟩)) (Yj (pv 0) rfl) (Js _)))))))),?_⟩
 obtain⟨dg,hG⟩:=id hg;have e1:((c:Nat):Int) / 8=((c / 8:Nat):Int):=by omega
 have e2:((o:Nat):Int) / 8=((o / 8:Nat):Int):=by omega
 refine⟨_,rfl,_,_,rfl,rfl,⟨by decide,by decide⟩,?_⟩;dsimp only;rw[e1];refine⟨_,rfl,_,rfl,_,_,rfl,rfl,⟨by decide,by decide⟩,rfl,_,rfl,?_⟩;refine No (congrArg (fun z=>decide (V.int ((c / 8:Nat):Int)=V.int z)) e2) ?_;rw[Zck];by_cases sm:c / 8=o / 8
 ·rw[Ze sm]
  refine U1 ⟨_,rfl,_,rfl,gm,CG,dg,_,_,rfl,hG,CGm.cl,CGm.nU,Xv _ _,_,rfl,Jp 2 (by decide),fun p hp=>?_⟩;have s1:=Zx hp (.tup [V8 t,.int (led:Nat)]);have fl:[V8 t,V.int (led:Nat)].all U3=true:=by
   show(U3 (V8 t) && (true && true))=true;rw[Ziu];rfl
  refine⟨p,[V8 t,.int (led:Nat)],rfl,.inr (SqT.of Zn),rfl,fl,?_⟩;show ∃ b,V.bl (Mu (.int ((c / 8:Nat):Int)) [V8 t,.int (led:Nat)])=_∧_;rw[Zkt];refine⟨_,rfl,?_⟩;by_cases sg:c / 8=led∨t=some (c / 8)
  ·rw[Ze sg]
   refine U1 ⟨_,rfl,gm,dg,_,rfl,s1 _ _ hG,Nc _ _ _ (by decide +kernel) (by decide +kernel),_,rfl,_,rfl,gm,x,t,fx,c,o,rfl,ok,hg.same s1,ht.same s1,hc,ho,fun H2 s2=>?_⟩;have z:=q H2 (s1.trans s2);rw[Xj sm,Ze sg,Bool.true_and] at z;exact z
  ·rw[Zd sg]
   refine Yv ?_;have z:=q _ s1;rw[Xj sm,Zd sg,Bool.false_and] at z;exact z
 ·rw[Zd sm]
  refine Yv ⟨_,rfl,_,rfl,gm,CG,dg,_,_,rfl,hG,CGm.cl,CGm.nU,Xv _ _,Rp _ _,_,rfl,?_⟩;have z:=q H (Same.refl _);rw[X1 sm] at z;rw[Zbc];by_cases c1:t=some (c / 8)
  ·rw[Ze c1]
   rw[if_pos c1] at z;exact U1 z
  ·rw[Zd c1]
   rw[if_neg c1] at z;refine Yv ⟨_,rfl,_,rfl,rfl,_,rfl,?_⟩;rw[Zck];by_cases c2:c / 8=led
   ·rw[Ze c2]
    rw[Ze c2,Bool.true_and] at z;refine U1 ⟨_,rfl,_,_,rfl,rfl,⟨by decide,by decide⟩,_,rfl,gm,CG,dg,_,_,rfl,hG,CGm.cl,CGm.nU,Xv _ _,Rp _ _,?_⟩;refine Zqw (congrArg (fun z=>(!decide (V.int z=V8 t))) e2) ?_;rw[Zbc];exact z
   ·rw[Zd c2]
    rw[Zd c2,Bool.false_and] at z;exact Yv z
end
end My
namespace L2
open PySem PySem.Spec PyProof.Rows
open AutoSeq1 (wpAny_loadPart')
section
variable{prog:Program}{w:World}{A:Around}{E:Value→Shared→Prop}{s:Shared}{it t:Addr}{i:Nat}{items:Array Value}
theorem Zal{x:Value}{Q:Value→Shared→Prop}(hI:s.heap.IsTupleIter it t i)(hT:s.heap.IsTuple t items)(hx:items[i]? = some x)
  (q:∀ h',h'.IsTupleIter it t (i+1)→Heap.SameBut it s.heap h'→Q x { s with heap:=h' }):wpAny (model prog w) A (Builtin.SmallTypes.nextOf (.ref it)) Q E s:=by
 obtain⟨o,g1,g2,g3⟩:=id hI;obtain⟨ot,k1,_,_,k2⟩:=hT;unfold Builtin.SmallTypes.nextOf;refine Zc (wpAny_callSpecial?_slot (name:=Str.ofString "__next__") hI.typeIs F.slot_tuple_iterator_next (wpAny_call_entry F.slot_tuple_iterator_next hI.typeIs F.entry_tuple_iterator_next ?_ (F.args_tuple_iterator_next_1 _)));show wpAny _ _ (field (.ref it) 0 >>= _) _ _ s;refine Zc (wpAny_field g1 g3 (x:=.ref t) rfl ?_);show wpAny _ _ (if(Value.ref t == Value.none)=true then _ else _) _ _ s;rw[if_neg (show ¬ ((Value.ref t == Value.none)=true) from Zq)];show wpAny _ _ (field (.ref it) 1 >>= _) _ _ s;refine Zc (wpAny_field g1 g3 (x:=.int i 0) rfl ?_);show wpAny _ _ (seqItems? (.ref t) >>= _) _ _ s;refine Zc (wpAny_seqItems k1 k2 ?_);simp only[Zz,hx];exact Zc (wpAny_setField g1 g3 (by simp) (wpAny_pure ⟨x,rfl,wpAny_pure (q _ ⟨_,Heap.get?_update_self _ g1 (Obj.isFreed_of_fields (Obj.data_mapFields g3 _)),(Obj.cls_mapFields ..).trans g2,by rw[Obj.data_mapFields g3];simp [rawInt]⟩ (Heap.SameBut.update ..))⟩))
theorem Rg{Q:Value→Shared→Prop}(hh:A.handled=none)(hI:s.heap.IsTupleIter it t i)(hT:s.heap.IsTuple t items)(hx:items[i]? = none)
  (q:∀ h' e,Heap.ExtBut it s.heap h'→(∃ o,h'.get? e=some o∧o.cls = .type "StopIteration")→E (.ref e) { s with heap:=h' }):wpAny (model prog w) A (Builtin.SmallTypes.nextOf (.ref it)) Q E s:=by
 obtain⟨o,g1,g2,g3⟩:=id hI;obtain⟨ot,k1,_,_,k2⟩:=hT;unfold Builtin.SmallTypes.nextOf;refine Zc (wpAny_callSpecial?_slot (name:=Str.ofString "__next__") hI.typeIs F.slot_tuple_iterator_next (wpAny_call_entry F.slot_tuple_iterator_next hI.typeIs F.entry_tuple_iterator_next ?_ (F.args_tuple_iterator_next_1 _)));show wpAny _ _ (field (.ref it) 0 >>= _) _ _ s;refine Zc (wpAny_field g1 g3 (x:=.ref t) rfl ?_);show wpAny _ _ (if(Value.ref t == Value.none)=true then _ else _) _ _ s;rw[if_neg (show ¬ ((Value.ref t == Value.none)=true) from Zq)];show wpAny _ _ (field (.ref it) 1 >>= _) _ _ s;refine Zc (wpAny_field g1 g3 (x:=.int i 0) rfl ?_);show wpAny _ _ (seqItems? (.ref t) >>= _) _ _ s;refine Zc (wpAny_seqItems k1 k2 ?_);simp only[Zz,hx];refine Zc (wpAny_rule (Zc (wpAny_setField g1 g3 (by simp) ?_)));show wpAny _ _ (newExc (.type "StopIteration") [] >>= _) _ _ _;refine Zc ?_;simp only[newExc,newTuple];refine Zc (wpAny_newObj_type (Zc (m:=firstArgMember _ _) (wpAny_of_eq (a:=Value.none) (by first | rfl | (simp only[firstArgMember];rfl)) (wpAny_newObj_type ?_ (by size_fits)))) (by size_fits));simp only[raiseNew];refine Zc (wpAny_handled ?_);first | rw[show A.in1.handled=none from hh] | rw[hh]
 exact Zc (wpAny_pure (wpAny_throw (q _ _ (((Heap.SameBut.update ..).extBut.push _).push _) ⟨_,Heap.get?_push_size _ rfl,rfl⟩)))
end
theorem Zec{prog:Program}{w:World}{A:Around}(hh:A.handled=none)(it t:Addr)(hne:t≠it)(items:Array Value) :
  Draws prog w A it [it,t] items.size (fun i v=>items[i]? = some v) (fun i h=>h.IsTupleIter it t i∧h.IsTuple t items) where
 live:=fun _ _ z=>let ⟨o,ho,_⟩:=z.1;⟨o,ho⟩
 frame:=fun _ _ _ z k=>⟨z.1.at fun o e=>k it (by simp) o e,let ⟨o,ho,r⟩:=z.2;⟨o,k t (by simp) o ho,r⟩⟩
 item:=fun i s Q E hi z q=>by
  refine Zal z.1 z.2 (x:=items[i]) (by simp [hi]) fun h' a b=>?_;obtain⟨o,ho,r⟩:=z.2;exact q _ h' s.toks (by simp [hi]) ⟨a,o,b.extBut t o hne ho,r⟩ b
 done:=fun s Q E z q=>Rg hh z.1 z.2 (by simp) q
theorem Ki(l:Addr)(items:Array Value)(n:Nat)(dct:Option Addr)(sl:Array (Option Value)) :
  Meets (Builtin.«enumerate.__new__» ⟨[.type "enumerate",.ref l],[]⟩) (fun _ R s=>s.heap.get? l=some { cls:=.type "tuple",dict:=dct,data:=.seq items n,slots:=sl } ∧
   R (.ok (.ret (.ref (s.heap.push { cls:=.type "tuple_iterator",data:=.fields #[.ref l,.int 0 0] }).objs.size)))
    { s with heap:=(s.heap.push { cls:=.type "tuple_iterator",data:=.fields #[.ref l,.int 0 0] }).push { cls:=.type "enumerate",data:=.fields #[.none,.bool false,.ref s.heap.objs.size,rawInt 0,.none,.none] } }):=
 .of_wp fun prog w A R s h=>by
  obtain⟨hp,g,d,tk,os⟩:=s;obtain⟨hl,h⟩:=h;have hq:=sub_enumerate;have hT:Heap.IsTuple (Shared.heap ⟨hp,g,d,tk,os⟩) l items:=⟨_,hl,rfl,n,rfl⟩
  wp_walk using wpAny_loadPart' hl
  refine wpAny_stack_any fun _=>wpAny_pure ?_;split
  ·rename_i c _ _ _ _ _
   cases (c == Value.type "enumerate")<;>(wp_walk using wpAny_loadPart' hl,wpAny_pyIter_tuple hT;exact⟨_,rfl,h⟩)
  ·wp_walk using wpAny_loadPart' hl,wpAny_pyIter_tuple hT
   exact⟨_,rfl,h⟩
theorem Za9{prog:Program}{w:World}{A:Around}{E:Value→Shared→Prop}{s:Shared}{l:Addr}{items:Array Value}{Q:Value→Shared→Prop}(hT:s.heap.IsTuple l items)
  (q:∀ h',IsEnum h' (s.heap.objs.size+1) s.heap.objs.size 0 .none→h'.IsTupleIter s.heap.objs.size l 0→h'.objs.size=s.heap.objs.size+2→(∀ b o,s.heap.get? b=some o→h'.get? b=some o)→Q (.ref (s.heap.objs.size+1)) { s with heap:=h' }) :
  wpAny (model prog w) A (call (.type "enumerate") [.ref l]) Q E s:=by
 obtain⟨⟨c,dct,dt,sl⟩,hl,hc,n,hd⟩:=hT
 replace hc:c = .type "tuple":=hc
 replace hd:dt = .seq items n:=hd
 subst hc hd;refine callType_new F.called_enumerate (by decide) (F.typeCall_enumerate_1 _) (F.newCall_enumerate_1 _) (fun ob=>F.args_object_init_2 ob _) F.entry_enumerate_new (Ki l items n dct sl) ⟨hl,?_⟩;have hz:(s.heap.push { cls:=.type "tuple_iterator",data:=.fields #[.ref l,.int 0 0] }).objs.size=s.heap.objs.size+1:=Heap.size_push ..;show _∧_;rw[hz];have he:IsEnum ((s.heap.push { cls:=.type "tuple_iterator",data:=.fields #[.ref l,.int 0 0] }).push { cls:=.type "enumerate",data:=.fields #[.none,.bool false,.ref s.heap.objs.size,rawInt 0,.none,.none] }) (s.heap.objs.size+1) s.heap.objs.size 0 .none:=by
  have z:=Heap.get?_push_size (s.heap.push { cls:=.type "tuple_iterator",data:=.fields #[.ref l,.int 0 0] }) (o:={ cls:=.type "enumerate",data:=.fields #[.none,.bool false,.ref s.heap.objs.size,rawInt 0,.none,.none] }) rfl;rw[hz] at z;exact z
 exact⟨⟨_,he,rfl⟩,q _ he ⟨_,Zi _ (Heap.get?_push_size _ rfl),rfl,rfl⟩ (by rw[Heap.size_push,hz]) fun b o x=>Zi _ (Zi _ x)⟩
def Zer(K:W.Frag)(a:Addr):It:=
 ⟨fun i H=>∃ xs x,SqT K H a xs∧xs[i]? = some x,fun i H v H'=>∃ p x,v = .ref p∧H p=none∧H'=upd H p (.tup [.int (i:Nat),x])∧∀ xs,SqT K H a xs→xs[i]? = some x,fun i H=>∃ xs,SqT K H a xs∧xs.length≤i⟩
theorem Sc{P:Program}{w:World}{K:W.Frag}{es:List Expr}{x1}{tp:Pos}(a e it:Addr)(hne:e≠it):Turn P w K (.Tuple es x1 tp) (Zer K a) [e,it] e (fun i h=>(∃ old,IsEnum h e it i old)∧h.IsTupleIter it a i) where
  mem:=by simp
  obj:=fun i h st b hb=>by
    obtain⟨⟨old,he⟩,⟨o,ho,c,d⟩⟩:=st;rcases List.mem_cons.mp hb with rfl | hb
    · exact⟨_,he,fun v z=>by cases z⟩
    · have q:b=it:=by simpa using hb
      subst q;exact⟨o,ho,fun v z=>by rw[d] at z;cases z⟩
  keep:=fun i h h' st k=>by
    obtain⟨⟨old,he⟩,hi⟩:=st;exact⟨⟨old,k e (by simp) _ he⟩,hi.at fun o q=>k it (by simp) o q⟩
  item:=by
    intro X hP hw hK hc i pins s σ H E I hf st hg;subst hP hw hK;obtain⟨xs,x,hq,hx⟩:=hg;obtain⟨⟨old,he⟩,hit⟩:=st;obtain⟨its,rv,p,hz⟩:=I.tuple hq;obtain⟨u,hu,ru⟩:=rv.get hx;obtain⟨a0,a1,a2,a3,a4,a5⟩:=hf e (by simp);obtain⟨f0,f1,f2,f3,f4,f5⟩:=hf it (by simp);have pT:s.heap.IsTuple a its.toArray:=p;obtain⟨oi,hoi,ci,di⟩:=id hit;obtain⟨oa,hoa,ca,_⟩:=id pT;have n1:a≠it:=fun z=>by
      rw[z,hoi] at hoa;cases hoa;rw[ca] at ci;exact absurd ci (by decide)
    have n2:a≠e:=fun z=>by
      rw[z,he] at hoa;cases hoa;exact absurd (show Value.type "enumerate" = Value.type "tuple" from ca) (by decide)
    refine wpAny_pyNext_enum_itemD (Zec (A:=X.A.in1) (I.ok.hd hc) it a n1 its.toArray) he ⟨hit,pT⟩ (by
      have:=(Zh.mp hu).1
      simpa using this) hne (by
        intro z;rcases List.mem_cons.mp z with z | z
        · exact hne z
        · exact n2 (Z7.mp z).symm) fun x' h' tk hx' eo hst ht hsz hk=>⟨_,rfl,?_⟩
    have ex:x'=u:=by
      have z:its[i]? = some x':=by simpa using hx'
      rw[hu] at z;exact(Zr z).symm
    subst ex;refine wpAny_letOwnedTupleGo_enum eo fun h2 he2 sb2=>?_;have sb2':Heap.SameBut e h' h2:=sb2;have hn:H s.heap.objs.size=none:=I.fresh;have le:e < s.heap.objs.size:=Z0 he;have li:it < s.heap.objs.size:=Z0 hoi;have I1:Inv X pins σ (upd H s.heap.objs.size (.tup [.int (i:Nat),x])) { s with heap:=s.heap.push { cls:=.type "tuple",data:=.seq #[.int i tk,x'] },toks:=tk+1 }:=
      I.laid (t':=tk+1) (fun b ob q=>Zi _ q) (Nat.le_refl _) ⟨by rw[sizeLine_eq];show 2≤_;decide,[.int i tk,x'],.cons ⟨_,rfl⟩ (.cons ru .nil),IsTup.new _ _⟩
    obtain⟨oi2,hoi2,ci2,di2⟩:=id hst.1;have hoi3:h2.get? it=some oi2:=(sb2'.2 it (Ne.symm hne)).trans hoi2;have gi:((s.heap.push { cls:=.type "tuple",data:=.seq #[.int i tk,x'] }).update it (fun _=>oi2)).get? it=some oi2:=Heap.get?_update_self _ (Zi _ hoi) (Obj.isFreed_of_fields di2);have I2:=I1.turned (h':=(s.heap.push { cls:=.type "tuple",data:=.seq #[.int i tk,x'] }).update it (fun _=>oi2)) (t':=tk+1) (it:=it) (fun b o hb q=>(Heap.get?_update_other _ _ (Ne.symm hb)).trans q) (by rw[Jf (Nat.ne_of_lt li)];exact f0) f1 f3 f4 f5;have I3:=I2.turned (h':=h2) (t':=tk+1) (it:=e) (fun b o hb q=>by
      by_cases c:b=it
      · subst c
        have q':=gi.symm.trans q;cases q';exact hoi3
      · have q1:(s.heap.push { cls:=.type "tuple",data:=.seq #[.int i tk,x'] }).get? b=some o:=(Heap.get?_update_other _ _ (Ne.symm c)).symm.trans q
        by_cases d:b=s.heap.objs.size
        · subst d
          have q2:=(Heap.get?_push_size s.heap (o:={ cls:=.type "tuple",data:=.seq #[.int i tk,x'] }) rfl).symm.trans q1;cases q2;exact(sb2'.2 _ hb).trans ht
        · rw[Heap.get?_push_ne _ _ _ d] at q1
          exact(sb2'.2 b hb).trans (hk b o hb c q1)) (by rw[Jf (Nat.ne_of_lt le)];exact a0) a1 a3 a4 a5
    refine⟨.ref s.heap.objs.size,_,I3,rfl,⟨s.heap.objs.size,x,rfl,hn,rfl,fun ys hy=>by rw[I.tuple_inj hy hq];exact hx⟩,⟨⟨_,he2⟩,oi2,hoi3,ci2,di2⟩,fun b hb=>?_⟩;rcases List.mem_cons.mp hb with rfl | hb
    · rw[Jf (Nat.ne_of_lt le)];exact a0
    · have q:b=it:=by simpa using hb
      subst q;rw[Jf (Nat.ne_of_lt li)];exact f0
  done:=by
    intro X hP hw hK hc i pins s σ H E I hf st hg;subst hP hw hK;obtain⟨xs,hq,hx⟩:=hg;obtain⟨⟨old,he⟩,hit⟩:=st;obtain⟨its,rv,p,hz⟩:=I.tuple hq;have pT:s.heap.IsTuple a its.toArray:=p;obtain⟨f0,f1,f2,f3,f4,f5⟩:=hf it (by simp);have hl:=rv.length;have hT:s.TypeIs (.ref e) "enumerate":=⟨_,he,rfl⟩;unfold pyNext;refine Zc (wpAny_attempt (wpAny_callSpecial?_slot (name:=Str.ofString "__next__") hT F.slot_enumerate_next (wpAny_call_entry F.slot_enumerate_next hT F.entry_enumerate_next ?_ (F.args_enumerate_next_1 _))));show wpAny _ _ (field (.ref e) 2 >>= _) _ _ _;refine Zc (wpAny_field he rfl (x:=.ref it) rfl ?_);refine Zc (Rg (I.ok.hd hc) hit pT (by simp;omega) fun h' x eb hx'=>?_);obtain⟨o,ho,hc'⟩:=hx';exact Zc (wpAny_isInstance (T:="StopIteration") (b:=true) ⟨o,ho,hc'⟩ isSubtype_stop (wpAny_pure ⟨rfl,I.turned (t':=s.toks) (fun b o hb e=>eb b o hb e) f0 f1 f3 f4 f5⟩))
  self:=fun _ _ _ _ _ st h=>by
    obtain⟨⟨old,he⟩,_⟩:=st;exact wpAny_pyIter_enum he h
section
variable{X:Cx}
def Znz(K:W.Frag)(ta:TA):TI:=fun σ H R=>ta σ H fun vs H1=>∃ a xs,vs=[.ref a]∧SqT K H1 a xs∧R (Zer K a) H1
theorem Am{es:List Expr}{x1}{tp p pos:Pos}{l:Expr}{ta:TA}(hg:Gl X "enumerate")(hm:X.mg "enumerate" = none)(ha:PA X [l] ta)(hs:starEach [l] X.env=[(false,eval l X.env)]:=by rfl):PI X (.Tuple es x1 tp) (.Call (.Name "enumerate" p) [l] [] pos) (Znz X.K ta):=by
 intro pins s σ H R I h;refine Call_ (Tg I hg hm boot_enumerate (PyProof.Rows.callWith_type1 (Y1 (ha pos pins s σ H _ I h) fun us s1 ⟨vs,H1,I1,r1,q1⟩=>?_) hs rfl));obtain⟨a,xs,rfl,hL,q⟩:=q1;obtain⟨u,rfl,ru⟩:=U2 r1;cases ru;obtain⟨its,rv,pT,hz⟩:=I1.tuple hL;refine Za9 (show s1.heap.IsTuple a its.toArray from pT) fun h' en li sz hk=>?_;have I2:Inv X pins σ H1 { s1 with heap:=h' }:=I1.kept (t':=s1.toks) hk;refine wpAny_pyIter_enum en ⟨s1.heap.objs.size+1,[s1.heap.objs.size+1,s1.heap.objs.size],_,Zer X.K a,H1,rfl,I2,Sc a _ _ (Nat.succ_ne_self _),⟨⟨_,en⟩,li⟩,fun b hb=>?_,q⟩;have hb':s1.heap.objs.size≤b:=by
  rcases List.mem_cons.mp hb with rfl | hb
  ·exact Nat.le_succ _
  ·have q:b=s1.heap.objs.size:=by simpa using hb
   rw[q];exact Nat.le_refl _
 exact I1.fpOk (H':=H1) hb' (I1.hok.fresh hb')
end
end L2
namespace My
open PySem L2
theorem N3(x:Nat):∀ l:List Nat,pos x l≤l.length
 | []=>Nat.le_refl _
 | y :: l=>by
  unfold pos;have:=N3 x l;split
  ·exact Nat.zero_le _
  ·exact Nat.succ_le_succ this
def rk(f:Fx)(t:Option Nat)(led c:Nat):Nat:=
 if t=some (c / 8) then 20+pos (c % 8) f.tr else if c / 8=led then 10+pos (c % 8) f.pl else 0
theorem Nj{f:Fx}(ok:f.Ok)(t:Option Nat)(c o led:Nat):Y4 f t c o led=decide (rk f t led o < rk f t led c):=by
 have l1:∀ x,pos x f.tr≤8:=fun x=>Nat.le_trans (N3 x _) (by rw[Yd ok.pt];exact ok.h8);have l2:∀ x,pos x f.pl≤8:=fun x=>Nat.le_trans (N3 x _) (by rw[Yd ok.pp];exact ok.h8);have a1:=l1 (c % 8);have a2:=l1 (o % 8);have a3:=l2 (c % 8);have a4:=l2 (o % 8);unfold rk;by_cases s:c / 8=o / 8
 ·rw[Xj s,← s]
  by_cases c1:t=some (c / 8)
  ·rw[if_pos c1,if_pos c1,if_pos c1,Ze (Or.inr c1),Bool.true_and]
   exact decide_eq_decide.mpr ⟨fun h=>by omega,fun h=>by omega⟩
  ·rw[if_neg c1,if_neg c1,if_neg c1]
   by_cases c2:c / 8=led
   ·rw[if_pos c2,if_pos c2,Ze (Or.inl c2),Bool.true_and]
    exact decide_eq_decide.mpr ⟨fun h=>by omega,fun h=>by omega⟩
   ·rw[if_neg c2,if_neg c2,Zd (fun z=>z.elim c2 c1),Bool.false_and]
    exact(Zd (Nat.lt_irrefl 0)).symm
 ·rw[X1 s]
  by_cases c1:t=some (c / 8)
  ·have c2:¬ t=some (o / 8):=fun z=>s (by rw[c1] at z;exact Zr z)
   rw[if_pos c1,if_pos c1,if_neg c2];refine(Ze ?_).symm;split<;>omega
  ·rw[if_neg c1,if_neg c1]
   by_cases c2:t=some (o / 8)
   ·rw[if_pos c2,Ze c2]
    show(decide (c / 8=led) && false)=_;rw[Bool.and_false];refine(Zd ?_).symm;split<;>omega
   ·rw[if_neg c2,Zd c2]
    show(decide (c / 8=led) && true)=_;rw[Bool.and_true];by_cases c3:c / 8=led
    ·rw[if_pos c3,if_neg (fun z=>s (c3.trans z.symm)),Ze c3]
     exact(Ze (by omega)).symm
    ·rw[if_neg c3,Zd c3]
     exact(Zd (Nat.not_lt_zero _)).symm
theorem Zf0{f:Fx}(ok:f.Ok){t:Option Nat}{led c o:Nat}(hc:c % 8 < f.h)(ho:o % 8 < f.h)(h10:10≤rk f t led c)(e:rk f t led c=rk f t led o):c=o:=by
 by_cases ne:c=o
 ·exact ne
 ·exfalso
  have l1:∀ x,pos x f.tr≤8:=fun x=>Nat.le_trans (N3 x _) (by rw[Yd ok.pt];exact ok.h8);have l2:∀ x,pos x f.pl≤8:=fun x=>Nat.le_trans (N3 x _) (by rw[Yd ok.pp];exact ok.h8);have st:∀ c,10≤rk f t led c→c / 8=led∨t=some (c / 8):=fun c h=>by
   unfold rk at h;by_cases c1:t=some (c / 8)
   ·exact .inr c1
   ·rw[if_neg c1] at h
    by_cases c2:c / 8=led
    ·exact .inl c2
    ·rw[if_neg c2] at h
     omega
  rcases Ay ok (t:=t) (led:=led) hc ho ne (st c h10) (st o (by omega)) with z | z
  ·rw[Nj ok,decide_eq_true_eq] at z
   omega
  ·rw[Nj ok,decide_eq_true_eq] at z
   omega
theorem Zfz(f:Fx)(t:Option Nat)(c:Nat):10≤rk f t (c / 8) c:=by
 unfold rk;by_cases c1:t=some (c / 8)
 ·rw[if_pos c1];omega
 ·rw[if_neg c1,if_pos rfl];omega
def Win(f:Fx)(t:Option Nat)(led:Nat)(ys:List Nat)(h:Nat):Prop:=∃ m,ys[h]? = some m∧∀ c∈ys,c≠m→Y4 f t m c led=true
structure Trk(f:Fx)(ys:List Nat):Prop where
 nd:ys.Nodup
 ht:∀ c∈ys,c % 8 < f.h
 ne:0 < ys.length
def Z5(ys:List Nat):Nat:=ys.getD 0 0 / 8
theorem K6{f:Fx}(ok:f.Ok){t:Option Nat}{ys:List Nat}(T:Trk f ys){h:Nat}(hh:h < ys.length)(hm:∀ j,j < ys.length→rk f t (Z5 ys) (ys.getD j 0)≤rk f t (Z5 ys) (ys.getD h 0)):Win f t (Z5 ys) ys h:=by
 have at_:∀ i,i < ys.length→ys[i]? = some (ys.getD i 0):=fun i hi=>by rw[Zj,Za hi];rfl
 refine⟨_,at_ h hh,fun c hc n=>?_⟩;obtain⟨j,hj,e⟩:=Z2.mp hc;have ej:ys.getD j 0=c:=by rw[Zj,Za hj,e];rfl
 have m0:=Zfz f t (ys.getD 0 0);have m1:=hm 0 T.ne;have mj:=hm j hj;rw[ej] at mj;have hmem:ys.getD h 0∈ys:=Zg (at_ h hh);rw[Nj ok,decide_eq_true_eq];rcases Nat.lt_or_eq_of_le mj with z | z
 ·exact z
 ·exact absurd (Zf0 ok (T.ht _ hmem) (T.ht c hc) (Nat.le_trans m0 m1) z.symm).symm n
theorem Zeu{f:Fx}{t:Option Nat}{led:Nat}{ys zs:List Nat}(hp:∀ c,c∈ys↔c∈zs){h k:Nat}(a:Win f t led ys h)(b:Win f t led zs k):ys[h]? = zs[k]?:=by
 obtain⟨m,hm,am⟩:=a;obtain⟨n,hn,bn⟩:=b;by_cases e:m=n
 ·rw[hm,hn,e]
 ·exfalso
  have x:=am n ((hp n).mpr (Zg hn)) (Ne.symm e);have y:=bn m ((hp m).mp (Zg hm)) e;exact T4 f t m n led x y
theorem Ke{ys:List Nat}(nd:ys.Nodup){i j:Nat}{c:Nat}(a:ys[i]? = some c)(b:ys[j]? = some c):i=j:=by
 obtain⟨hi,ei⟩:=Zh.mp a;obtain⟨hj,ej⟩:=Zh.mp b;have pw:=List.pairwise_iff_getElem.mp nd;rcases Nat.lt_trichotomy i j with z | z | z
 ·exact absurd (ei.trans ej.symm) (pw i j hi hj z)
 ·exact z
 ·exact absurd (ej.trans ei.symm) (pw j i hj hi z)
theorem O6{f:Fx}{t:Option Nat}{led:Nat}{ys:List Nat}(nd:ys.Nodup){h k:Nat}(a:Win f t led ys h)(b:Win f t led ys k):h=k:=by
 have e:=Zeu (fun _=>Iff.rfl) a b;obtain⟨m,hm,_⟩:=a;exact Ke nd hm (e.symm.trans hm)
theorem Mx{K:PySem.W.Frag}{a:Addr}{xs:List V}{g:TG}{tb:TS}{D:Ends}{σ:St}{H:Hp}(Pv:Nat→St→Hp→Prop)(h0:Pv 0 σ H)(hS:∀ i σ H,Pv i σ H→SqT K H a xs)
  (hs:∀ i x p σ H,xs[i]? = some x→Pv i σ H→H p=none→g (.ref p) σ (upd H p (.tup [.int (i:Nat),x])) fun σ2 H2=>tb { D with nx:=Pv (i+1),ct:=Pv (i+1),bk:=D.nx } σ2 H2) (hd:∀ σ H,Pv xs.length σ H→D.nx σ H) :
  ∃ W:Nat→Nat→St→Hp→Prop,(∃ m,W 0 m σ H)∧∀ i m σ H,W i m σ H →
   ((Zer K a).stop i H∧D.nx σ H)∨((Zer K a).go i H∧∃ N:St→Hp→Prop,(∀ σ' H',N σ' H'→∃ m',m' < m∧W (i+1) m' σ' H')∧∀ v H',(Zer K a).yld i H v H'→g v σ H' fun σ2 H2=>tb { D with nx:=N,ct:=N,bk:=D.nx } σ2 H2):=by
 refine⟨fun i m σ H=>m=xs.length - i∧i≤xs.length∧Pv i σ H,⟨xs.length,by simp,Nat.zero_le _,h0⟩,?_⟩;rintro i m σ H ⟨rfl,hi,p⟩;have sa:=hS i σ H p;by_cases hlt:i < xs.length
 ·refine .inr ⟨⟨xs,_,sa,Za hlt⟩,Pv (i+1),fun σ' H' p'=>⟨xs.length - (i+1),by omega,rfl,hlt,p'⟩,fun v H' y=>?_⟩
  obtain⟨q,x,rfl,hq,rfl,hx⟩:=y;exact hs i x q σ H (hx xs sa) p hq
 ·have e:i=xs.length:=by omega
  subst e;exact .inl ⟨⟨xs,sa,Nat.le_refl _⟩,hd σ H p⟩
end My
namespace My
open PySem
def Jx(h:Nat):List Nat:=(List.range 32).filter h.testBit
def Xe(k h:Nat):Nat:=((List.range k).filter h.testBit).length
theorem Aq(k h:Nat):Xe (k+1) h=h % 2+Xe k (h / 2):=by
 unfold Xe;rw[List.range_succ_eq_map,List.filter_cons,List.filter_map,];have e:(h.testBit ∘ Nat.succ)=(h / 2).testBit:=by
  funext i
  exact Nat.testBit_succ h i
 rw[e];have h0:h.testBit 0=decide (h % 2=1):=Nat.testBit_zero h;by_cases o:h % 2=1
 ·rw[if_pos (by rw[h0];exact Ze o),Jc,Zf,o,Nat.add_comm]
 ·rw[if_neg (by rw[h0,Zd o];exact Zq),Zf]
  omega
theorem Ar:∀ k h:Nat,0 < h→h < 2 ^ k→Xe k (h &&& (h - 1))+1=Xe k h
 | 0,h,h0,h1=>by simp at h1;omega
 | k+1,h,h0,h1=>by
  rw[Aq,Aq];have e1:(h &&& (h - 1)) / 2=h / 2 &&& (h - 1) / 2:=Nat.and_div_two;have e2:(h &&& (h - 1)) % 2=0:=by
   have z:=Nat.and_mod_two_pow (a:=h) (b:=h - 1) (n:=1);rw[show(2:Nat) ^ 1=2 from rfl] at z;rw[z];rcases Nat.mod_two_eq_zero_or_one h with e | e
   ·rw[e];exact Nat.zero_and _
   ·rw[show(h - 1) % 2=0 by omega];exact Nat.and_zero _
  rw[e1,e2];rcases Nat.mod_two_eq_zero_or_one h with e | e
  ·have ih:=Ar k (h / 2) (by omega) (by rw[Nat.pow_succ] at h1;omega)
   rw[show(h - 1) / 2=h / 2 - 1 by omega,e];omega
  ·rw[show(h - 1) / 2=h / 2 by omega,Nat.and_self,e]
   omega
theorem Zgm(k:Nat):Xe k 0=0:=by
 unfold Xe;rw[Uh,List.filter_eq_nil_iff];intro a _;simp
def Zm0(h s:Nat):Nat:=h &&& (255 * 2 ^ (8 * s))
theorem Zhg:∀ s < 4,∀ c < 32,Nat.testBit (255 * 2 ^ (8 * s)) c=decide (c / 8=s):=by decide +kernel
theorem Ug{h c:Nat}(hc:c∈Jx h):c < 32:=Z8.mp (List.mem_filter.mp hc).1
end My
namespace My
theorem Zel{h i:Nat}(hi:i≤32)(hz:h / 2 ^ i=0):(List.range i).filter h.testBit=Jx h:=by
 unfold Jx;have hl:h < 2 ^ i:=by
  rcases Nat.div_eq_zero_iff.mp hz with e | e
  ·have:0 < 2 ^ i:=Nat.pow_pos (by decide)
   omega
  ·exact e
 have e32:32=i+(32 - i):=by omega
 rw[e32,List.range_add,List.filter_append];have e:List.filter h.testBit ((List.range (32 - i)).map (i + ·))=[]:=by
  rw[List.filter_eq_nil_iff];intro a ha;obtain⟨b,_,rfl⟩:=Zw.mp ha;rw[Nat.testBit_lt_two_pow (Z3 hl (Nat.pow_le_pow_right (by decide) (by omega)))];exact Zq
 rw[e,Jk]
theorem Tv(h i:Nat):(List.range (i+1)).filter h.testBit=(List.range i).filter h.testBit++(if h / 2 ^ i % 2=1 then [i] else []):=by
 rw[List.range_succ,List.filter_append];have e:h.testBit i=decide (h / 2 ^ i % 2=1):=Nat.testBit_eq_decide_div_mod_eq;by_cases o:h / 2 ^ i % 2=1
 ·rw[if_pos o,List.filter_cons_of_pos (by rw[e];exact Ze o),List.filter_nil]
 ·rw[if_neg o,List.filter_cons_of_neg (by rw[e,Zd o];exact Zq),List.filter_nil]
theorem Zc3{h i:Nat}(h32:h < 4294967296)(hi:i≤32)(hp:0 < h / 2 ^ i):i < 32:=by
 rcases Nat.lt_or_ge i 32 with e | e
 ·exact e
 ·have:i=32:=by omega
  subst this;have:h / 2 ^ 32=0:=Nat.div_eq_of_lt h32;omega
def En(cs:List Nat)(a:Nat):Nat:=cs.foldl (fun a c=>a ||| 2 ^ c) a
theorem Vy:∀(cs:List Nat) (a i:Nat),(En cs a).testBit i=(a.testBit i || decide (i∈cs))
 | [],a,i=>by simp [En]
 | c :: r,a,i=>by
  show(En r (a ||| 2 ^ c)).testBit i=_;rw[Vy r,Nat.testBit_or,Nat.testBit_two_pow];by_cases e:c=i
  ·subst e;simp
  ·have e2:i≠c:=fun z=>e z.symm
   simp [e,e2]
theorem Y8{h i:Nat}(hh:h < 4294967296):i∈Jx h↔h.testBit i=true:=by
 unfold Jx;rw[List.mem_filter,Z8];constructor
 ·exact fun z=>z.2
 ·intro z
  refine⟨?_,z⟩;rcases Nat.lt_or_ge i 32 with e | e
  ·exact e
  ·rw[Nat.testBit_lt_two_pow (Z3 hh (Nat.pow_le_pow_right (n:=2) (by decide) e))] at z
   cases z
theorem Zgs{h:Nat}(hh:h < 4294967296){cs:List Nat}(hm:∀ i,i∈cs↔i∈Jx h):En cs 0=h:=by
 refine Nat.eq_of_testBit_eq fun i=>?_;rw[Vy,Nat.zero_testBit,Bool.false_or];by_cases e:h.testBit i=true
 ·rw[e];exact Ze ((hm i).mpr ((Y8 hh).mpr e))
 ·rw[Bool.eq_false_iff.mpr e];exact Zd fun z=>e ((Y8 hh).mp ((hm i).mp z))
theorem G8(cs:List Nat)(c a:Nat):En (cs++[c]) a=En cs a ||| 2 ^ c:=by unfold En;rw[List.foldl_append];rfl
end My
namespace My
open PySem L2
def hN(cs:List Nat):Nat:=En cs 0
theorem Up(cs:List Nat)(i:Nat):(hN cs).testBit i=decide (i∈cs):=by
 unfold hN;rw[Vy,Nat.zero_testBit,Bool.false_or]
theorem Zhs{a b:List Nat}(h:∀ i,i∈a↔i∈b):hN a=hN b:=by
 refine Nat.eq_of_testBit_eq fun i=>?_;rw[Up,Up];exact decide_eq_decide.mpr (h i)
theorem Ko{cs:List Nat}(h:∀ c∈cs,c < 32):hN cs < 4294967296:=by
 refine Nat.lt_pow_two_of_testBit (n:=32) (hN cs) fun i hi=>?_;rw[Up];exact Zd fun m=>by have:=h i m;omega
theorem hN_pos{cs:List Nat}:0 < hN cs↔cs≠[]:=by
 constructor
 ·intro h z
  rw[z] at h;exact Nat.lt_irrefl 0 h
 ·intro h
  cases cs with
  | nil=>exact absurd rfl h
  | cons c l=>
   refine Nat.pos_of_ne_zero fun z=>?_;have e:=Up (c :: l) c;rw[z,Nat.zero_testBit,Ze Zt] at e;cases e
theorem Zcg{cs:List Nat}(h:∀ c∈cs,c < 32){s:Nat}(hs:s < 4):Zm0 (hN cs) s=hN (cs.filter fun c=>decide (c / 8=s)):=by
 refine Nat.eq_of_testBit_eq fun i=>?_;unfold Zm0;rw[Nat.testBit_and,Up,Up];by_cases m:i∈cs
 ·rw[Zhg s hs i (h i m),Ze m,Bool.true_and]
  refine decide_eq_decide.mpr ⟨fun z=>List.mem_filter.mpr ⟨m,Ze z⟩,fun z=>Z4 (List.mem_filter.mp z).2⟩
 ·rw[Zd m,Bool.false_and]
  exact(Zd fun z=>m (List.mem_filter.mp z).1).symm
theorem Nb{cs:List Nat}(h:∀ c∈cs,c < 32)(i:Nat):i∈Jx (hN cs)↔i∈cs:=by
 rw[Y8 (Ko h),Up,decide_eq_true_eq]
theorem Zku(cs:List Nat)(c:Nat):hN (cs++[c])=hN cs ||| 2 ^ c:=G8 cs c 0
theorem Zkw{c:Nat}{cs:List Nat}(h:c∉cs):hN (c :: cs)=2 ^ c+hN cs:=by
 have e:hN (c :: cs)=hN cs ||| 2 ^ c:=by
  rw[← Zku];exact Zhs fun i=>by rw[List.mem_cons,Jh,Z7];exact Or.comm
 rw[e];have z:hN cs &&& 2 ^ c=0:=by
  refine Nat.eq_of_testBit_eq fun i=>?_;rw[Nat.testBit_and,Up,Nat.testBit_two_pow,Nat.zero_testBit];by_cases q:c=i
  ·subst q
   rw[Zd h];rfl
  ·rw[Zd q,Bool.and_false]
 have k:=PyProof.Rows.nat_or_add_and (hN cs) (2 ^ c);rw[z] at k;omega
theorem Zhr:∀{cs:List Nat},cs.Nodup→(cs.map fun c=>2 ^ c).sum=hN cs
 | [],_=>rfl
 | c :: cs,nd=>by
  obtain⟨n1,n2⟩:=List.nodup_cons.mp nd;rw[List.map_cons,List.sum_cons,Zhr n2,Zkw n1]
def Xw(s:Nat)(cs:List Nat):List Nat:=cs.filter fun c=>decide (c / 8=s)
def Ea(a b:List Nat):List Nat:=if a=[] then b else a
def trL(t:Option Nat)(cs:List Nat):List Nat:=match t with | none=>[] | some u=>Xw u cs
def Xy(t:Option Nat)(led:Nat)(cs:List Nat):List Nat:=Ea (Xw led cs) (Ea (trL t cs) cs)
def Bh(f:Fx)(t:Option Nat)(ys cs:List Nat):List Nat:=cs.filter fun c=>ys.all fun o=>Y4 f t c o (Z5 ys)
def alw(d:_root_.Fin 4)(f:Fx)(t:Option Nat)(ys cs:List Nat):List Nat:=match d with
 | 0=>cs
 | 1=>Ea (Xw (Z5 ys) cs) cs
 | 2=>Xy t (Z5 ys) cs
 | 3=>Ea (Bh f t ys (Xy t (Z5 ys) cs)) (Xy t (Z5 ys) cs)
theorem Bu{a b cs:List Nat}(ha:∀ c∈a,c∈cs)(hb:∀ c∈b,c∈cs):∀ c∈Ea a b,c∈cs:=fun c hc=>by
 unfold Ea at hc;by_cases z:a=[]
 ·rw[if_pos z] at hc;exact hb c hc
 ·rw[if_neg z] at hc;exact ha c hc
theorem B5(s:Nat)(cs:List Nat):∀ c∈Xw s cs,c∈cs:=fun c hc=>(List.mem_filter.mp hc).1
theorem Ziv(t:Option Nat)(cs:List Nat):∀ c∈trL t cs,c∈cs:=fun c hc=>by
 cases t with
 | none=>exact nomatch hc
 | some u=>exact B5 u cs c hc
theorem Q7(t:Option Nat)(led:Nat)(cs:List Nat):∀ c∈Xy t led cs,c∈cs:=Bu (B5 _ _) (Bu (Ziv _ _) fun _ h=>h)
theorem R8(d:_root_.Fin 4)(f:Fx)(t:Option Nat)(ys cs:List Nat):∀ c∈alw d f t ys cs,c∈cs:=by
 match d with
 | 0=>exact fun _ h=>h
 | 1=>exact Bu (B5 _ _) fun _ h=>h
 | 2=>exact Q7 _ _ _
 | 3=>exact Bu (fun c hc=>Q7 _ _ _ c (List.mem_filter.mp hc).1) (Q7 _ _ _)
theorem Oh{a b:List Nat}(ha:a.Nodup)(hb:b.Nodup):(Ea a b).Nodup:=by
 unfold Ea;split
 ·exact hb
 ·exact ha
theorem Ov{s:Nat}{cs:List Nat}(h:cs.Nodup):(Xw s cs).Nodup:=h.filter _
theorem O1{t:Option Nat}{led:Nat}{cs:List Nat}(h:cs.Nodup):(Xy t led cs).Nodup:=by
 refine Oh (Ov h) (Oh ?_ h);cases t with
 | none=>exact List.nodup_nil
 | some u=>exact Ov h
theorem Zn7{d:_root_.Fin 4}{f:Fx}{t:Option Nat}{ys cs:List Nat}(h:cs.Nodup):(alw d f t ys cs).Nodup:=by
 match d with
 | 0=>exact h
 | 1=>exact Oh (Ov h) h
 | 2=>exact O1 h
 | 3=>exact Oh ((O1 h).filter _) (O1 h)
theorem Ou{a b:List Nat}:hN (Ea a b)=if 0 < hN a then hN a else hN b:=by
 unfold Ea;by_cases z:a=[]
 ·rw[if_pos z,if_neg fun q=>hN_pos.mp q z]
 ·rw[if_neg z,if_pos (hN_pos.mpr z)]
abbrev Gv:Stmt:=top 3
abbrev D5:Stmt:=top 4
abbrev D3:Stmt:=top 6
def Za6(h:Nat):List V:=(Jx h).map fun c=>V.int (c:Nat)
theorem Zem(h:Nat):Za6 h=vN (Jx h):=rfl
theorem Zl4(xs ys:List Nat):vN xs++vN ys=vN (xs++ys):=(Ju).symm
theorem Eb{ys:List Nat}{i:Nat}{x:V}(h:(vN ys)[i]? = some x):∃ c,ys[i]? = some c∧x = .int (c:Nat):=by
 unfold vN at h;rw[Zl] at h;cases e:ys[i]? with
 | none=>rw[e] at h;cases h
 | some c=>rw[e] at h;cases h;exact⟨c,rfl,rfl⟩
theorem Zpb{x y:Int}(hx:0≤x)(hy:0≤y):Builtin.bitOr x y=((x.toNat ||| y.toNat:Nat):Int):=by
 rw[PyProof.Rows.bitOr_and,PyProof.Rows.bitAnd_pp hx hy];have:=PyProof.Rows.nat_or_add_and x.toNat y.toNat;omega
theorem Zm3(a c:Nat):Builtin.bitOr (a:Int) (1 * 2 ^ ((c:Nat):Int).toNat)=((a ||| 2 ^ c:Nat):Int):=by
 have e:(1:Int) * 2 ^ ((c:Nat):Int).toNat=((2 ^ c:Nat):Int):=by
  rw[Int.one_mul,Zz,Int.natCast_pow];rfl
 rw[e,Zpb (Int.natCast_nonneg _) (Int.natCast_nonneg _),Zz,Zz]
theorem Zn5(a:Nat):Builtin.bitAnd (a:Int) 1=((a % 2:Nat):Int):=by
 rw[PyProof.Rows.bitAnd_pp (Int.natCast_nonneg _) (by decide),Zz];exact congrArg _ (Nat.and_one_is_mod a)
theorem Zor(h i:Nat):((h / 2 ^ i:Nat):Int) / 2 ^ ((1:Int).toNat)=((h / 2 ^ (i+1):Nat):Int):=by
 rw[Nat.pow_succ,← Nat.div_div_eq_div_mul];show((h / 2 ^ i:Nat):Int) / 2=_;omega
theorem Ow(h n:Nat):((List.range n).filter h.testBit).length≤n:=by
 have:=List.length_filter_le h.testBit (List.range n)
 rwa [Jb] at this
section
variable{P:Program}{w:World}{K:W.Frag}{mg:Str→Option Value}{base:Heap}{f g:Addr}{fd gd:FuncData}
def Q3(K:W.Frag):Sp:=fun vs H Q _=>∃ h:Nat,vs=[.int h]∧h < 4294967296∧∀ l H',Same H H'→H l=none→H' l=some (.lst (Za6 h))→Q (.ref l) H'
theorem scCardsIn:FnScope ["hand","cards","card"] ["hand"] (Zp Gv):=⟨rfl,rfl,rfl,by decide +kernel,rfl,by decide +kernel,by decide +kernel⟩
theorem Zaj{k:Nat}(F:Fun K "cards_in" "cards_in" Gv f fd):FnOk P w K mg base Y6 (k+1) f fd ["hand"] (Q3 K):=by
 refine F.ok scCardsIn (fun vs H Q E h=>?_) (fun cdv A outer s H vs Q E hr h=>?_)
 ·obtain⟨h,rfl,_⟩:=h
  rfl
 obtain⟨h,rfl,h32,q⟩:=h;refine⟨_,Zm (Z9 (i:=1) scCardsIn.nd rfl (Or.inl rfl) (Uk Zk))
  (Zm (Z9 (i:=2) scCardsIn.nd rfl (Or.inl rfl) Zo)
  (Zm (Gz PassesOwn.never (Je E5 (pv 0) Zo (Js _))
   (Zm (Yh (Je Uu (Ja Oi (pv 0) Zo) Zo (Js _)) (Zv (Qt (Xp Jr Uc Ub Qe (pv 1) (Zb (pv 2) Zk)))) Jz)
   (Zm (Z9 (i:=0) scCardsIn.nd rfl (Or.inl rfl) (Ja Zgt (pv 0) Zo))
   (Zv (Z9 (i:=2) scCardsIn.nd rfl (Or.inl rfl) (Ja Ym (pv 2) Zo))))))
  (Zv (Jj (pv 1))))),?_⟩
 refine⟨Nat.zero_le _,fun l hl=>?_⟩;refine O7 (fun σ H'=>∃ i:Nat,σ=[some (.int ((h / 2 ^ i:Nat):Int)),some (.ref l),some (.int (i:Nat))]∧i≤32∧Same H H'∧H' l=some (.lst (vN ((List.range i).filter h.testBit))))
  (fun σ _=>match σ with | [_,_,some (.int i)]=>32 - i.toNat | _=>0) ⟨0,?_,Nat.zero_le _,Zx hl _,Zn⟩ (fun σ H1 z=>?_) (fun σ H1 R R' m ⟨v,e,i,j,e1,e2,b,e3,r⟩=>⟨v,e,i,j,e1,e2,b,e3,m _ _ r⟩)
 ·rw[Nat.pow_zero,Nat.div_one]
  rfl
 obtain⟨i,rfl,hi,sm,hL⟩:=z;refine⟨_,rfl,_,_,rfl,rfl,_,rfl,N9 (fun c=>?_) fun c=>?_⟩
 ·have c':(0:Int) < ((h / 2 ^ i:Nat):Int):=Z4 c
  have hi':i < 32:=Zc3 h32 hi (by omega);refine⟨_,rfl,_,_,rfl,rfl,rfl,_,rfl,N9 (fun c1=>?_) fun c1=>?_⟩
  ·have o:h / 2 ^ i % 2=1:=by
    have c2:decide (V.int (Builtin.bitAnd ((h / 2 ^ i:Nat):Int) 1)=V.int 1)=true:=c1;rw[Zn5] at c2;have e:=Z4 c2;injection e with e
    omega
   refine⟨_,rfl,.inl ⟨rfl,_,SqL.of hL⟩,_,rfl,l,_,_,rfl,rfl,hL,?_,?_⟩
   ·rw[J0]
    exact Qb (Nat.le_trans (Ow h i) (by omega))
   refine⟨_,rfl,_,_,rfl,rfl,(show(0:Int)≤1 by decide),_,rfl,_,_,rfl,rfl,⟨i+1,?_,hi',Ux hl sm _,?_⟩,?_⟩
   ·show [some (V.int (((h / 2 ^ i:Nat):Int) / 2 ^ ((1:Int).toNat))),some (V.ref l),some (V.int ((i:Nat)+1))]=_
    rw[Zor];rfl
   ·rw[Zn,Tv,if_pos o,← Zl4]
    rfl
   ·show 32 - (((i:Nat):Int)+1).toNat < 32 - ((i:Nat):Int).toNat
    omega
  ·have o:¬ h / 2 ^ i % 2=1:=by
    intro o;refine c1 ?_;show decide (V.int (Builtin.bitAnd ((h / 2 ^ i:Nat):Int) 1)=V.int 1)=true;rw[Zn5,o];exact Ze rfl
   refine⟨_,rfl,_,_,rfl,rfl,(show(0:Int)≤1 by decide),_,rfl,_,_,rfl,rfl,⟨i+1,?_,hi',sm,?_⟩,?_⟩
   ·show [some (V.int (((h / 2 ^ i:Nat):Int) / 2 ^ ((1:Int).toNat))),some (V.ref l),some (V.int ((i:Nat)+1))]=_
    rw[Zor];rfl
   ·rw[Tv,if_neg o,Jk]
    exact hL
   ·show 32 - (((i:Nat):Int)+1).toNat < 32 - ((i:Nat):Int).toNat
    omega
 ·have c':¬ (0:Int) < ((h / 2 ^ i:Nat):Int):=of_decide_eq_false (Bool.eq_false_iff.mpr c)
  refine⟨_,rfl,q l H1 sm hl ?_⟩;have z0:h / 2 ^ i=0:=by
   generalize h / 2 ^ i=n at c';omega
  rw[hL,Zel hi z0];rfl
def Gj(K:W.Frag):Sp:=fun vs H Q _=>∃(a:Addr) (cs:List Nat),vs=[.ref a]∧SqL K H a (vN cs)∧(∀ c∈cs,c < 32)∧Q (.int (En cs 0:Nat)) H
theorem scHandOf:FnScope ["cards","hand","card"] ["cards"] (Zp D5):=⟨rfl,rfl,rfl,by decide +kernel,rfl,by decide +kernel,by decide +kernel⟩
theorem Zdm{k:Nat}(F:Fun K "hand_of" "hand_of" D5 f fd):FnOk P w K mg base Y6 (k+1) f fd ["cards"] (Gj K):=by
 refine F.ok scHandOf (fun vs H Q E h=>?_) (fun cdv A outer s H vs Q E hr h=>?_)
 ·obtain⟨a,cs,rfl,_⟩:=h
  rfl
 obtain⟨a,cs,rfl,hS,hc,q⟩:=h;refine⟨_,Zm (Z9 (i:=1) scHandOf.nd rfl (Or.inl rfl) Zo)
  (Zm (Xi PassesOwn.never rfl (Yn (pv 0)) (Jm (i:=2) scHandOf.nd rfl (Or.inl rfl)) (Zv (Z9 (i:=1) scHandOf.nd rfl (Or.inl rfl) (Ja Zpe (pv 1) (Ja Ta Zo (pv 2))))))
  (Zv (Jj (pv 1)))),?_⟩
 refine⟨_,rfl,a,rfl,⟨_,hS⟩,Ql (xs:=vN cs) (fun i σ H2=>H2=H∧∃ x,σ=[some (.ref a),some (.int (En (cs.take i) 0:Nat)),x]) ⟨rfl,_,rfl⟩ (fun i σ H2 _ z=>z.1 ▸ hS) (fun i x σ H2 hx z=>?_) (fun σ H2 z=>?_)⟩
 ·obtain⟨rfl,y,rfl⟩:=z
  obtain⟨c,hi,rfl⟩:=Eb hx;have c32:=hc c (Zg hi);refine⟨_,rfl,_,rfl,_,_,rfl,rfl,⟨by omega,by omega,by decide⟩,_,_,rfl,rfl,rfl,some (.int (c:Nat)),?_⟩;show [some (V.ref a),some (V.int (Builtin.bitOr ((En (cs.take i) 0:Nat):Int) (1 * 2 ^ ((c:Nat):Int).toNat))),some (V.int (c:Nat))]=_;rw[Zm3];have e:cs.take (i+1)=cs.take i++[c]:=by
   rw[List.take_add_one,hi];rfl
  rw[e,G8]
 ·obtain⟨rfl,y,rfl⟩:=z
  refine⟨_,rfl,?_⟩;rw[J0,List.take_length];exact q
def Bj(K:W.Frag):Sp:=fun vs H Q _=>∃ h s:Nat,vs=[.int h,.int s]∧h < 4294967296∧s < 4∧Q (.int (Zm0 h s)) H
theorem Zfn:FnScope ["hand","suit"] ["hand","suit"] (Zp D3):=⟨rfl,rfl,rfl,by decide +kernel,rfl,by decide +kernel,by decide +kernel⟩
theorem Zdh{k:Nat}{t1 t2:Tok}(F:Fun K "of_suit" "of_suit" D3 f fd)(mL:mg "LOWEST_SUIT" = some (.int 255 t1))(mH:mg "HEIGHTS" = some (.int 8 t2)):FnOk P w K mg base Y6 (k+1) f fd ["hand","suit"] (Bj K):=by
 refine F.ok Zfn (fun vs H Q E h=>?_) (fun cdv A outer s H vs Q E hr h=>?_)
 ·obtain⟨h,s,rfl,_⟩:=h
  rfl
 obtain⟨h,u,rfl,h32,hu,q⟩:=h;refine⟨_,Zv (Jj (Ja Oi (pv 0) (Ja Ta (Yy (v:=.int 255) rfl mL ⟨_,rfl⟩) (Ja Xa (Yy (v:=.int 8) rfl mH ⟨_,rfl⟩) (pv 1))))),?_⟩;refine⟨_,rfl,_,rfl,_,_,rfl,rfl,.inl ⟨by decide,by decide⟩,_,_,rfl,rfl,⟨by omega,by omega,by decide⟩,_,_,rfl,rfl,?_⟩;have e:((8:Int) * (u:Nat)).toNat=8 * u:=by omega
 have e2:(255:Int) * 2 ^ (8 * u)=((255 * 2 ^ (8 * u):Nat):Int):=by rw[Int.natCast_mul,Int.natCast_pow];rfl
 show Q (V.int (Builtin.bitAnd ((h:Nat):Int) ((255:Int) * 2 ^ ((8:Int) * (u:Nat)).toNat))) H;rw[e,e2,PyProof.Rows.bitAnd_pp (Int.natCast_nonneg _) (Int.natCast_nonneg _)];exact q
end
end My
namespace L2
open PySem PySem.Spec PyProof.Rows
theorem Zc8{X:Cx}{a:Expr}{ta:TE}(ha:PE X a ta)(he:∀ whole,isTrue a X.env whole=(do let v ← whole;standAt a.pos;holding [v] (truthy v))):PT X a (Zlj ta):=by
 intro pins s σ H Q I h;exact isTrue_plain (Y1 (ha pins s σ H _ I h) fun v s1 ⟨x,H1,I1,r1,k,e,q1⟩=>Zez pins s1 σ H1 x v Q I1 r1 ⟨k,by subst e;rfl,q1⟩) (he _)
theorem Ts{K:W.Frag}{tt:TT}{te:TE}{σ0:St}{H1:Hp}{Q:V→Hp→Prop}{a:Addr}{xs:List V}(p:V→Bool)(f:V→V)(hS:SqT K H1 a xs)(hn:xs.length≤sizeLine)
  (hT:∀ x H,x∈xs→Same H1 H→∀ R:Bool→Hp→Prop,(∀ H',Same H H'→R (p x) H')→tt (σ0.set 0 (some x)) H R)
  (hE:∀ x H,x∈xs→p x=true→Same H1 H→∀ R:V→Hp→Prop,(∀ H',Same H H'→R (f x) H')→te (σ0.set 0 (some x)) H R)
  (hQ:∀ l H,Same H1 H→H1 l=none→H l=some (.lst ((xs.filter p).map f))→Q (.ref l) H):Xr (Uv 0) tt te σ0 (Itt K a) H1 Q:=by
 have at_:∀ i,i < xs.length→xs[i]? = some (xs.getD i .non):=fun i h=>by
  rw[Zj,Za h];rfl
 have mem:∀ i,i < xs.length→xs.getD i .non∈xs:=fun i h=>Zg (at_ i h);refine B9 xs.length (fun i=>xs.getD i .non) (fun i=>p (xs.getD i .non)) (fun i=>f (xs.getD i .non)) hn (fun i H sm h=>⟨xs,_,sm.seqT hS,at_ i h⟩) (fun H sm=>⟨xs,sm.seqT hS,Nat.le_refl _⟩)
  (fun i H x H' sm h y=>⟨y.1,?_⟩) (fun i H h sm=>hT _ H (mem i h) sm) (fun i H h hp sm=>hE _ H (mem i h) hp sm) (fun l H sm hl hL=>hQ l H sm hl ?_)
 ·have e:=y.2 xs (sm.seqT hS)
  rw[at_ i h] at e;exact(Zr e).symm
 ·rw[hL,Xx]
end L2
namespace My
open PySem L2
abbrev Gq:Stmt:=top 34
abbrev Zmp:Stmt:=top 35
abbrev Bo:Stmt:=top 36
abbrev D7:Stmt:=Yo (top 37) 1
abbrev Vp:Stmt:=Yo (top 38) 1
abbrev Zab:Stmt:=Yo (top 39) 1
abbrev Rv:Stmt:=Yo (top 40) 1
abbrev Zmo:Stmt:=Yo (top 50) 5
theorem Ty{ys:List Nat}{i:Nat}(h:i < ys.length):Xb (vN ys) (i:Nat)=some (.int ((ys.getD i 0:Nat):Int)):=by
 have e:(vN ys)[i]? = some (.int ((ys.getD i 0:Nat):Int)):=by
  unfold vN;rw[Zl,Za h,Zj,Za h];rfl
 exact U7 e
theorem gtz(n:Nat):decide ((0:Int) < ((n:Nat):Int))=decide (0 < n):=decide_eq_decide.mpr ⟨fun h=>by omega,fun h=>by omega⟩
structure Beg(f:Fx)(ys cs:List Nat):Prop where
 ne:0 < ys.length
 len:ys.length≤32
 ys8:∀ c∈ys,c / 8 < 4∧c % 8 < f.h
 cs8:∀ c∈cs,c < 32∧c % 8 < f.h
theorem Beg.c32{f:Fx}{ys cs:List Nat}(B:Beg f ys cs):∀ c∈cs,c < 32:=fun c h=>(B.cs8 c h).1
theorem Beg.led{f:Fx}{ys cs:List Nat}(B:Beg f ys cs):Z5 ys < 4:=by
 have m:ys.getD 0 0∈ys:=by
  rw[Zj,Za B.ne];exact J3 _
 exact(B.ys8 _ m).1
theorem Beg.sub{f:Fx}{ys cs ds:List Nat}(B:Beg f ys cs)(h:∀ c∈ds,c∈cs):Beg f ys ds:=⟨B.ne,B.len,B.ys8,fun c hc=>B.cs8 c (h c hc)⟩
section
variable{P:Program}{w:World}{K:W.Frag}{mg:Str→Option Value}{base:Heap}{f g:Addr}{fd gd:FuncData}
def Zbq(K:W.Frag):Sp:=fun vs H Q _=>∃(p:Addr) (fx:Fx) (ys cs:List Nat),vs=[.int (hN cs:Nat),.ref p]∧SqT K H p (vN ys)∧Beg fx ys cs∧Q (.int (hN (Xw (Z5 ys) cs):Nat)) H
theorem Zov:FnScope ["hand","trick"] ["hand","trick"] (Zp Gq):=⟨rfl,rfl,rfl,by decide +kernel,rfl,by decide +kernel,by decide +kernel⟩
theorem Znf{k:Nat}{f1:Addr}{d1:FuncData}{t1:Tok}(F:Fun K "of_led_suit" "of_led_suit" Gq f fd)(LO:Lib P w K mg base k "of_suit" ["hand","suit"] (Bj K) f1 d1)(mH:mg "HEIGHTS" = some (.int 8 t1)):FnOk P w K mg base Y6 (k+1) f fd ["hand","trick"] (Zbq K):=by
 refine F.ok Zov (fun vs H Q E h=>?_) (fun cdv A outer s H vs Q E hr h=>?_)
 ·obtain⟨p,fx,ys,cs,rfl,_⟩:=h
  rfl
 obtain⟨p,fx,ys,cs,rfl,hT,B,q⟩:=h;refine⟨_,Zv (Jj (Z6 LO.ok hr rfl LO.mg LO.kp LO.bd .nil Jn (Zb (pv 0) (Zb (Ja Ys (Jo Jw (pv 1) Zo (fun _ _=>rfl)) (Yy (v:=.int 8) rfl mH ⟨_,rfl⟩)) Zk)))),?_⟩;have e0:(((ys.getD 0 0:Nat):Int) / 8)=((Z5 ys:Nat):Int):=by unfold Z5;omega
 refine⟨_,rfl,_,rfl,p,_,_,_,rfl,rfl,hT,Ty (i:=0) B.ne,_,_,rfl,rfl,⟨by decide,by decide⟩,hN cs,Z5 ys,(show [V.int (hN cs:Nat),V.int (((ys.getD 0 0:Nat):Int) / 8)]=_ by rw[e0]),Ko B.c32,B.led,?_⟩;rw[Zcg B.c32 B.led];exact q
def TrB(t:Option Nat):Prop:=∀ u,t=some u→u < 4
def Zbt(K:W.Frag)(CG:Addr):Sp:=fun vs H Q _=>∃(gm x p:Addr) (t:Option Nat) (fx:Fx) (ys cs:List Nat),vs=[.ref gm,.int (hN cs:Nat),.ref p]∧IsGam CG x (V8 t) H gm∧TrB t∧SqT K H p (vN ys)∧Beg fx ys cs∧Q (.int (hN (Xy t (Z5 ys) cs):Nat)) H
abbrev Zqo:List Str:=["game","hand","trick","followers","trumps"]
theorem scFoc:FnScope Zqo ["game","hand","trick"] (Zp Zmp):=⟨rfl,rfl,rfl,by decide +kernel,rfl,by decide +kernel,by decide +kernel⟩
theorem Znj{k:Nat}{f1 f2 CG:Addr}{d1 d2:FuncData}(F:Fun K "followed_or_cut" "followed_or_cut" Zmp f fd)(CGm:GamC K mg CG)(LL:Lib P w K mg base k "of_led_suit" ["hand","trick"] (Zbq K) f1 d1)(LO:Lib P w K mg base k "of_suit" ["hand","suit"] (Bj K) f2 d2) :
  FnOk P w K mg base Y6 (k+1) f fd ["game","hand","trick"] (Zbt K CG):=by
 refine F.ok scFoc (fun vs H Q E h=>?_) (fun cdv A outer s H vs Q E hr h=>?_)
 ·obtain⟨gm,x,p,t,fx,ys,cs,rfl,_⟩:=h
  rfl
 obtain⟨gm,x,p,t,fx,ys,cs,rfl,⟨dg,hG⟩,hb,hT,B,q⟩:=h;refine⟨_,Zm (Z9 (i:=3) scFoc.nd rfl (Or.inl rfl) (Z6 LL.ok hr rfl LL.mg LL.kp LL.bd .nil Jn (Zb (pv 1) (Zb (pv 2) Zk))))
  (Zm (Yh (Je E5 (pv 3) Zo (Js _)) (Zv (Jj (pv 3))) Jz)
  (Zm (Yh (Je Zgu (Yj (pv 0) rfl) Vu (Js _)) (Zv (Jj (pv 1))) Jz)
  (Zm (Z9 (i:=4) scFoc.nd rfl (Or.inl rfl) (Z6 LO.ok hr rfl LO.mg LO.kp LO.bd .nil Jn (Zb (pv 1) (Zb (Yj (pv 0) rfl) Zk))))
  (Zv (Jj (Q4 (Je E5 (pv 4) Zo (Js _)) (pv 4) (pv 1))))))),?_⟩
 refine⟨_,rfl,_,rfl,p,fx,ys,cs,rfl,hT,B,?_⟩;refine⟨_,rfl,_,_,rfl,rfl,_,rfl,?_⟩;refine No (gtz _) ?_;unfold Xy at q;rw[Ou] at q;by_cases c1:0 < hN (Xw (Z5 ys) cs)
 ·rw[Ze c1]
  rw[if_pos c1] at q;exact U1 ⟨_,rfl,q⟩
 rw[Zd c1];rw[if_neg c1,Ou] at q;refine Yv ⟨_,rfl,gm,CG,dg,_,_,rfl,hG,CGm.cl,CGm.nU,Xv _ _,rfl,_,rfl,?_⟩;cases t with
 | none=>
  have z:hN (trL none cs)=0:=rfl;rw[z,if_neg (Nat.lt_irrefl 0)] at q;exact U1 ⟨_,rfl,q⟩
 | some u=>
  refine Yv ⟨_,rfl,_,rfl,gm,CG,dg,_,_,rfl,hG,CGm.cl,CGm.nU,Xv _ _,hN cs,u,rfl,Ko B.c32,hb u rfl,?_⟩;rw[Zcg B.c32 (hb u rfl)];have e:hN (trL (some u) cs)=hN (cs.filter fun c=>decide (c / 8=u)):=rfl;rw[e] at q;refine⟨_,rfl,_,_,rfl,rfl,_,rfl,?_⟩;refine No (gtz _) ?_;by_cases c2:0 < hN (cs.filter fun c=>decide (c / 8=u))
  ·rw[Ze c2]
   rw[if_pos c2] at q;exact U1 ⟨_,rfl,q⟩
  ·rw[Zd c2]
   rw[if_neg c2] at q;exact Yv ⟨_,rfl,q⟩
def ovV(fx:Fx)(t:Option Nat)(c led:Nat)(x:V):Bool:=match x with | .int i=>Y4 fx t c i.toNat led | _=>false
theorem Zgq(fx:Fx)(t:Option Nat)(c led:Nat)(ys:List Nat):(((vN ys).filter fun _=>true).map fun x=>V.bl (ovV fx t c led x))=(ys.map fun o=>Y4 fx t c o led).map V.bl:=by
 rw[List.filter_eq_self.mpr fun _ _=>rfl];unfold vN;rw[Z1,Z1];refine Jq fun o _=>?_;show V.bl (Y4 fx t c (((o:Nat):Int).toNat) led)=V.bl (Y4 fx t c o led);rw[Zz]
def So(K:W.Frag)(CT CG:Addr):Sp:=fun vs H Q _=>∃(gm x p:Addr) (t:Option Nat) (fx:Fx) (ys:List Nat) (c:Nat),vs=[.ref gm,.int (c:Nat),.ref p]∧fx.Ok∧IsGam CG x (V8 t) H gm∧IsTab CT fx H x∧SqT K H p (vN ys)∧Beg fx ys []∧c % 8 < fx.h∧∀ H',Same H H'→Q (.bl (ys.all fun o=>Y4 fx t c o (Z5 ys))) H'
abbrev Zls:List Str:=["game","card","trick","led"]
abbrev nGoesB:List Str:=["other","game","card","led"]
theorem scGoes:FnScope Zls ["game","card","trick"] (Zp Bo):=⟨rfl,rfl,rfl,by decide +kernel,rfl,by decide +kernel,by decide +kernel⟩
theorem Zkc{k:Nat}{CT CG m3:Addr}{e3:FuncData}{t1:Tok}(F:Fun K "goes_over_all" "goes_over_all" Bo f fd)(CGm:GamC K mg CG)(MV:Meth K CG "is_over" m3)(FV:FnOk P w K mg base Y6 k m3 e3 Rf (Dq CT CG))(BV:Binds K e3 Rf [])(mH:mg "HEIGHTS" = some (.int 8 t1))(mA:mg "all" = none) :
  FnOk P w K mg base Y6 (k+1) f fd ["game","card","trick"] (So K CT CG):=by
 refine F.ok scGoes (fun vs H Q E h=>?_) (fun cdv A outer s H vs Q E hr h=>?_)
 ·obtain⟨gm,x,p,t,fx,ys,c,rfl,_⟩:=h
  rfl
 obtain⟨gm,x,p,t,fx,ys,c,rfl,ok,hg,ht,hT,B,hc,q⟩:=h;refine⟨_,Zm (Z9 (i:=3) scGoes.nd rfl (Or.inr rfl) (Ja Ys (Jo Jw (pv 2) Zo (fun _ _=>rfl)) (Yy (v:=.int 8) rfl mH ⟨_,rfl⟩)))
  (Zv (Jj (Jl (Zeo rfl) rfl mA PyProof.Rows.boot_all (Zb (Y7 nGoesB [none,some 0,some 1,some 3] rfl (Blk.by (sc:=Zp Bo) (N0:=Zls) rfl rfl (by decide +kernel)) (Oe (pv 2)) (fun C s₀ H₀ ex=>Jm (i:=0) (show nGoesB.Nodup by decide +kernel) rfl (Or.inl rfl)) (fun C s₀ H₀ ex=>Uj)
   (fun C s₀ H₀ ex=>Us (pv 1) CGm.cl MV FV hr BV .nil Jn (Zb (pv 2) (Zb (pv 0) (Zb (pv 3) Zk))))) Zk)))),?_⟩
 have e0:(((ys.getD 0 0:Nat):Int) / 8)=((Z5 ys:Nat):Int):=by unfold Z5;omega
 refine⟨_,rfl,p,_,_,_,rfl,rfl,hT,Ty (i:=0) B.ne,_,_,rfl,rfl,⟨by decide,by decide⟩,?_⟩;have h32:=B.len;refine⟨_,rfl,p,rfl,⟨_,hT⟩,Ts (K:=K) (xs:=vN ys) (fun _=>true) (fun x=>.bl (ovV fx t c (Z5 ys) x)) hT (Jp _ (by rw[J0];omega)) (fun y H3 hy sm R hR=>hR H3 (Same.refl H3)) (fun y H3 hy hp sm R hR=>?_) (fun lq H4 s4 hlq hL4=>?_)⟩
 ·obtain⟨o,ho,rfl⟩:=Zw.mp hy
  obtain⟨dg,hG⟩:=id (hg.same sm);refine⟨_,rfl,gm,dg,_,rfl,hG,Nc _ _ _ (by decide +kernel) (by decide +kernel),_,rfl,_,rfl,_,rfl,gm,x,t,fx,c,o,Z5 ys,(show [V.ref gm,V.int (c:Nat),V.int (o:Nat),V.int (((ys.getD 0 0:Nat):Int) / 8)]=_ by rw[e0]),ok,hg.same sm,ht.same sm,hc,(B.ys8 o ho).2,fun H5 s5=>?_⟩;have r:=hR H5 s5;have e:ovV fx t c (Z5 ys) (.int (o:Nat))=Y4 fx t c o (Z5 ys):=by
   show Y4 fx t c (((o:Nat):Int).toNat) (Z5 ys)=_;rw[Zz]
  rw[e] at r;exact r
 ·rw[Zgq] at hL4
  refine⟨lq,_,rfl,SqL.of hL4,?_⟩;have z:=q H4 s4;rw[List.all_map];exact z
def Zff(K:W.Frag)(CT CG:Addr)(i:_root_.Fin 4):Sp:=fun vs H Q _=>∃(a gm x p:Addr) (t:Option Nat) (fx:Fx) (ys cs:List Nat),vs=[.ref a,.ref gm,.int (hN cs:Nat),.ref p]∧fx.Ok∧IsGam CG x (V8 t) H gm∧IsTab CT fx H x∧TrB t∧SqT K H p (vN ys)∧Beg fx ys cs∧∀ H',Same H H'→Q (.int (hN (alw i fx t ys cs):Nat)) H'
abbrev pAl:List Str:=["self","game","hand","trick"]
theorem Zfp:FnScope pAl pAl (Zp D7):=⟨rfl,rfl,rfl,by decide +kernel,rfl,by decide +kernel,by decide +kernel⟩
theorem Zdn{k:Nat}{CT CG:Addr}(F:Fun K "allowed" "Free.allowed" D7 f fd):FnOk P w K mg base Y6 (k+1) f fd pAl (Zff K CT CG 0):=by
 refine F.ok Zfp (fun vs H Q E h=>?_) (fun cdv A outer s H vs Q E hr h=>?_)
 ·obtain⟨a,gm,x,p,t,fx,ys,cs,rfl,_⟩:=h
  rfl
 obtain⟨a,gm,x,p,t,fx,ys,cs,rfl,ok,hg,ht,hb,hT,B,q⟩:=h;exact⟨_,Zv (Jj (pv 2)),_,rfl,q H (Same.refl H)⟩
abbrev Zdu:List Str:=["self","game","hand","trick","followers"]
theorem scFollowAl:FnScope Zdu pAl (Zp Vp):=⟨rfl,rfl,rfl,by decide +kernel,rfl,by decide +kernel,by decide +kernel⟩
theorem A9{k:Nat}{CT CG f1:Addr}{d1:FuncData}(F:Fun K "allowed" "Follow.allowed" Vp f fd)(LL:Lib P w K mg base k "of_led_suit" ["hand","trick"] (Zbq K) f1 d1):FnOk P w K mg base Y6 (k+1) f fd pAl (Zff K CT CG 1):=by
 refine F.ok scFollowAl (fun vs H Q E h=>?_) (fun cdv A outer s H vs Q E hr h=>?_)
 ·obtain⟨a,gm,x,p,t,fx,ys,cs,rfl,_⟩:=h
  rfl
 obtain⟨a,gm,x,p,t,fx,ys,cs,rfl,ok,hg,ht,hb,hT,B,q⟩:=h;refine⟨_,Zm (Z9 (i:=4) scFollowAl.nd rfl (Or.inl rfl) (Z6 LL.ok hr rfl LL.mg LL.kp LL.bd .nil Jn (Zb (pv 2) (Zb (pv 3) Zk))))
  (Zv (Jj (Q4 (Je E5 (pv 4) Zo (Js _)) (pv 4) (pv 2)))),?_⟩
 refine⟨_,rfl,_,rfl,p,fx,ys,cs,rfl,hT,B,?_⟩;refine⟨_,rfl,_,_,rfl,rfl,_,rfl,?_⟩;refine No (gtz _) ?_;have q':=q H (Same.refl H);have e:hN (alw 1 fx t ys cs)=if 0 < hN (Xw (Z5 ys) cs) then hN (Xw (Z5 ys) cs) else hN cs:=Ou
 rw[e] at q';by_cases c1:0 < hN (Xw (Z5 ys) cs)
 ·rw[Ze c1]
  rw[if_pos c1] at q';exact U1 ⟨_,rfl,q'⟩
 ·rw[Zd c1]
  rw[if_neg c1] at q';exact Yv ⟨_,rfl,q'⟩
theorem Zjc:FnScope pAl pAl (Zp Zab):=⟨rfl,rfl,rfl,by decide +kernel,rfl,by decide +kernel,by decide +kernel⟩
theorem Zg8{k:Nat}{CT CG f1:Addr}{d1:FuncData}(F:Fun K "allowed" "Cut.allowed" Zab f fd)(LF:Lib P w K mg base k "followed_or_cut" ["game","hand","trick"] (Zbt K CG) f1 d1):FnOk P w K mg base Y6 (k+1) f fd pAl (Zff K CT CG 2):=by
 refine F.ok Zjc (fun vs H Q E h=>?_) (fun cdv A outer s H vs Q E hr h=>?_)
 ·obtain⟨a,gm,x,p,t,fx,ys,cs,rfl,_⟩:=h
  rfl
 obtain⟨a,gm,x,p,t,fx,ys,cs,rfl,ok,hg,ht,hb,hT,B,q⟩:=h;exact⟨_,Zv (Jj (Z6 LF.ok hr rfl LF.mg LF.kp LF.bd .nil Jn (Zb (pv 1) (Zb (pv 2) (Zb (pv 3) Zk))))),_,rfl,_,rfl,_,rfl,gm,x,p,t,fx,ys,cs,rfl,hg,hb,hT,B,q H (Same.refl H)⟩
abbrev Zb9:List Str:=["self","game","hand","trick","choice","beaters"]
abbrev nBeatB:List Str:=["card","game","trick"]
theorem scBeatAl:FnScope Zb9 pAl (Zp Rv):=⟨rfl,rfl,rfl,by decide +kernel,rfl,by decide +kernel,by decide +kernel⟩
def Zl8(fx:Fx)(t:Option Nat)(ys:List Nat)(x:V):Bool:=match x with | .int i=>ys.all fun o=>Y4 fx t i.toNat o (Z5 ys) | _=>false
theorem Zcx(fx:Fx)(t:Option Nat)(ys ds:List Nat):(((vN ds).filter (Zl8 fx t ys)).map fun x=>x)=vN (ds.filter fun c=>ys.all fun o=>Y4 fx t c o (Z5 ys)):=by
 rw[List.map_id'];unfold vN;rw[List.filter_map];refine congrArg _ (List.filter_congr fun c _=>?_);show(ys.all fun o=>Y4 fx t (((c:Nat):Int).toNat) o (Z5 ys))=_;rw[Zz]
theorem Zdq{k:Nat}{CT CG f1 f2 f3 f4:Addr}{d1 d2 d3 d4:FuncData}(F:Fun K "allowed" "Beat.allowed" Rv f fd)(LF:Lib P w K mg base k "followed_or_cut" ["game","hand","trick"] (Zbt K CG) f1 d1)
  (LH:Lib P w K mg base k "hand_of" ["cards"] (Gj K) f2 d2) (LI:Lib P w K mg base k "cards_in" ["hand"] (Q3 K) f3 d3) (LG:Lib P w K mg base k "goes_over_all" ["game","card","trick"] (So K CT CG) f4 d4):FnOk P w K mg base Y6 (k+1) f fd pAl (Zff K CT CG 3):=by
 refine F.ok scBeatAl (fun vs H Q E h=>?_) (fun cdv A outer s H vs Q E hr h=>?_)
 ·obtain⟨a,gm,x,p,t,fx,ys,cs,rfl,_⟩:=h
  rfl
 obtain⟨a,gm,x,p,t,fx,ys,cs,rfl,ok,hg,ht,hb,hT,B,q⟩:=h;refine⟨_,Zm (Z9 (i:=4) scBeatAl.nd rfl (Or.inl rfl) (Z6 LF.ok hr rfl LF.mg LF.kp LF.bd .nil Jn (Zb (pv 1) (Zb (pv 2) (Zb (pv 3) Zk)))))
  (Zm (Z9 (i:=5) scBeatAl.nd rfl (Or.inl rfl) (Z6 LH.ok hr rfl LH.mg LH.kp LH.bd .nil Jn (Zb (Y7 nBeatB [none,some 1,some 3] rfl (Blk.by (sc:=Zp Rv) (N0:=Zb9) rfl rfl (by decide +kernel)) (Yn (Z6 LI.ok hr rfl LI.mg LI.kp LI.bd .nil Jn (Zb (pv 4) Zk))) (fun C s₀ H₀ ex=>Jm (i:=0) (show nBeatB.Nodup by decide +kernel) rfl (Or.inl rfl))
   (fun C s₀ H₀ ex=>N5 (Zc8 (Z6 LG.ok hr rfl LG.mg LG.kp LG.bd .nil Jn (Zb (pv 1) (Zb (pv 0) (Zb (pv 2) Zk)))) (fun _=>rfl))) (fun C s₀ H₀ ex=>pv 0)) Zk)))
  (Zv (Jj (Q4 (Je E5 (pv 5) Zo (Js _)) (pv 5) (pv 4))))),?_⟩
 have hsub:=Q7 t (Z5 ys) cs;have B2:=B.sub hsub;refine⟨_,rfl,_,rfl,_,rfl,gm,x,p,t,fx,ys,cs,rfl,hg,hb,hT,B,?_⟩;refine⟨_,rfl,hN (Xy t (Z5 ys) cs),rfl,Ko B2.c32,fun l1 H1 s1 hl1 hL1=>?_⟩;rw[Zem] at hL1;have hmem:=Nb B2.c32;have hlen:(Jx (hN (Xy t (Z5 ys) cs))).length≤32:=by
  unfold Jx;exact Nat.le_trans (List.length_filter_le _ _) (by rw[Jb];exact Nat.le_refl _)
 refine⟨l1,rfl,⟨_,SqL.of hL1⟩,Uf (K:=K) (xs:=vN (Jx (hN (Xy t (Z5 ys) cs)))) (Zl8 fx t ys) (fun y=>y) (SqL.of hL1) (Jp _ (by rw[J0];omega)) (fun y H3 hy sm R hR=>?_) (fun y H3 hy hp sm R hR=>⟨_,rfl,hR H3 (Same.refl H3)⟩) (fun lq H4 s4 hlq hL4=>?_)⟩
 ·obtain⟨c,hc,rfl⟩:=Zw.mp hy
  have s3:=s1.trans sm;have c8:=(B2.cs8 c ((hmem c).mp hc)).2;refine⟨_,rfl,_,rfl,_,rfl,gm,x,p,t,fx,ys,c,rfl,ok,hg.same s3,ht.same s3,s3.seqT hT,B.sub (fun c hc=>nomatch hc),c8,fun H5 s5=>⟨_,rfl,?_⟩⟩;have r:=hR H5 s5;have e:Zl8 fx t ys (.int (c:Nat))=ys.all fun o=>Y4 fx t c o (Z5 ys):=by
   show(ys.all fun o=>Y4 fx t (((c:Nat):Int).toNat) o (Z5 ys))=_;rw[Zz]
  rw[e] at r;exact r
 ·rw[Zcx] at hL4
  refine⟨lq,_,rfl,SqL.of hL4,fun c hc=>Ug (List.mem_filter.mp hc).1,?_⟩;have eo:En ((Jx (hN (Xy t (Z5 ys) cs))).filter fun c=>ys.all fun o=>Y4 fx t c o (Z5 ys)) 0=hN (Bh fx t ys (Xy t (Z5 ys) cs)):=by
   refine Zhs fun i=>?_;unfold Bh;rw[List.mem_filter,List.mem_filter,hmem]
  rw[eo];refine⟨_,rfl,_,_,rfl,rfl,_,rfl,?_⟩;refine No (gtz _) ?_;have q':=q H4 (s1.trans s4);have e:hN (alw 3 fx t ys cs)=if 0 < hN (Bh fx t ys (Xy t (Z5 ys) cs)) then hN (Bh fx t ys (Xy t (Z5 ys) cs)) else hN (Xy t (Z5 ys) cs):=Ou
  rw[e] at q';by_cases c1:0 < hN (Bh fx t ys (Xy t (Z5 ys) cs))
  ·rw[Ze c1]
   rw[if_pos c1] at q';exact U1 ⟨_,rfl,q'⟩
  ·rw[Zd c1]
   rw[if_neg c1] at q';exact Yv ⟨_,rfl,q'⟩
end
abbrev Dz:Stmt:=Yo (top 50) 4
theorem Zkz{ys:List Nat}{i c:Nat}(h:ys[i]? = some c):ys.getD i 0=c:=by rw[Zj,h];rfl
theorem Zpk{ys:List Nat}{i c:Nat}(h:ys[i]? = some c):i < ys.length:=(Zh.mp h).1
section
variable{P:Program}{w:World}{K:W.Frag}{mg:Str→Option Value}{base:Heap}{f g:Addr}{fd gd:FuncData}
def Ge(K:W.Frag)(CT CG:Addr):Sp:=fun vs H Q _=>∃(gm x p:Addr) (t:Option Nat) (f:Fx) (ys:List Nat),vs=[.ref gm,.ref p]∧f.Ok∧IsGam CG x (V8 t) H gm∧IsTab CT f H x∧SqT K H p (vN ys)∧Trk f ys∧∀ h H',Same H H'→Win f t (Z5 ys) ys h→Q (.int (h:Nat)) H'
abbrev Zkh:List Str:=["self","trick","led","highest","number","card"]
theorem scWinner:FnScope Zkh ["self","trick"] (Zp Dz):=⟨rfl,rfl,rfl,by decide +kernel,rfl,by decide +kernel,by decide +kernel⟩
theorem Zde{k:Nat}{CT CG m3:Addr}{e3:FuncData}{t1:Tok}(F:Fun K "winner" "Game.winner" Dz f fd)(CGm:GamC K mg CG)(MV:Meth K CG "is_over" m3)(FV:FnOk P w K mg base Y6 k m3 e3 Rf (Dq CT CG))(BV:Binds K e3 Rf [])(mH:mg "HEIGHTS" = some (.int 8 t1))(me:mg "enumerate" = none) :
  FnOk P w K mg base Y6 (k+1) f fd ["self","trick"] (Ge K CT CG):=by
 refine F.ok scWinner (fun vs H Q E h=>?_) (fun cdv A outer s H vs Q E hr h=>?_)
 ·obtain⟨gm,x,p,t,fx,ys,rfl,_⟩:=h
  rfl
 obtain⟨gm,x,p,t,fx,ys,rfl,ok,hg,ht,hT,T,q⟩:=h;refine⟨_,Zm (Z9 (i:=2) scWinner.nd rfl (Or.inl rfl) (Ja Ys (Jo Jw (pv 1) Zo (fun _ _=>rfl)) (Yy (v:=.int 8) rfl mH ⟨_,rfl⟩)))
  (Zm (Z9 (i:=3) scWinner.nd rfl (Or.inl rfl) Zo)
  (Zm (Xi PassesOwn.never rfl (Am rfl me (Zb (pv 1) Zk)) (N4 rfl (Yb (Jm (i:=4) scWinner.nd rfl (Or.inl rfl)) (Yb (Jm (i:=5) scWinner.nd rfl (Or.inl rfl)) Qu)))
   (Zv (Yh (Ey (Us (pv 0) CGm.cl MV FV hr BV .nil Jn (Zb (pv 5) (Zb (Jo Jw (pv 1) (pv 3) (fun _ _=>rfl)) (Zb (pv 2) Zk)))) (fun _=>rfl)) (Zv (Z9 (i:=3) scWinner.nd rfl (Or.inl rfl) (pv 4))) Jz)))
  (Zv (Jj (pv 3))))),?_⟩
 have e0:(((ys.getD 0 0:Nat):Int) / 8)=((Z5 ys:Nat):Int):=by unfold Z5;omega
 refine⟨_,rfl,p,_,_,_,rfl,rfl,hT,Ty (i:=0) T.ne,_,_,rfl,rfl,⟨by decide,by decide⟩,?_⟩;refine⟨_,rfl,p,_,rfl,hT,?_⟩;refine Mx (K:=K) (a:=p) (xs:=vN ys) (fun i σ H'=>Same H H'∧∃(h:Nat) (x4 x5:Option V),σ=[some (.ref gm),some (.ref p),some (.int ((Z5 ys:Nat):Int)),some (.int (h:Nat)),x4,x5]∧h < ys.length∧∀ j < i,rk fx t (Z5 ys) (ys.getD j 0)≤rk fx t (Z5 ys) (ys.getD h 0))
  ⟨Same.refl H,0,none,none,?_,T.ne,fun j hj=>absurd hj (Nat.not_lt_zero _)⟩ (fun i σ H1 z=>z.1.seqT hT) (fun i v r σ H1 hv z hr1=>?_) (fun σ H1 z=>?_)
 ·show [_,_,some (V.int (((ys.getD 0 0:Nat):Int) / 8)),_,_,_]=_
  rw[e0];rfl
 ·obtain⟨s1,h,x4,x5,rfl,hh,hm⟩:=z
  obtain⟨c,hc,rfl⟩:=Eb hv;have s2:=s1.trans (Zx hr1 (.tup [.int (i:Nat),.int (c:Nat)]));refine⟨r,_,rfl,SqT.of Zn,rfl,_,_,rfl,_,_,rfl,rfl,?_⟩;obtain⟨dg,hG⟩:=id (hg.same s2);have cm:c∈ys:=Zg hc;have hmem:ys.getD h 0∈ys:=by
   rw[Zj,Za hh];exact J3 _
  refine⟨_,rfl,gm,dg,_,rfl,hG,Nc _ _ _ (by decide +kernel) (by decide +kernel),_,rfl,_,rfl,_,rfl,p,_,_,_,rfl,rfl,s2.seqT hT,Ty hh,_,rfl,gm,x,t,fx,c,ys.getD h 0,Z5 ys,rfl,ok,hg.same s2,ht.same s2,T.ht c cm,T.ht _ hmem,fun H3 s3=>⟨_,rfl,?_⟩⟩;rw[Nj ok];have gc:=Zkz hc;refine N9 (fun y=>?_) fun y=>?_
  ·have y:=Z4 y
   refine⟨_,rfl,s2.trans s3,i,_,_,rfl,Zpk hc,fun j hj=>?_⟩;rw[gc];rcases Nat.lt_or_eq_of_le (Nat.le_of_lt_succ hj) with z | z
   ·exact Nat.le_trans (hm j z) (Ya y)
   ·rw[z,gc]
    exact Nat.le_refl _
  ·have y:¬ rk fx t (Z5 ys) (ys.getD h 0) < rk fx t (Z5 ys) c:=fun z=>y (Ze z)
   refine⟨s2.trans s3,h,_,_,rfl,hh,fun j hj=>?_⟩;rcases Nat.lt_or_eq_of_le (Nat.le_of_lt_succ hj) with z | z
   ·exact hm j z
   ·rw[z,gc]
    exact Nat.le_of_not_lt y
 ·obtain⟨s1,h,x4,x5,rfl,hh,hm⟩:=z
  rw[J0] at hm;exact⟨_,rfl,q h H1 s1 (K6 ok T hh hm)⟩
def Zfd(K:W.Frag)(CT CG:Addr):Sp:=fun vs H Q _=>∃(gm x p:Addr) (t:Option Nat) (fx:Fx) (ys cs:List Nat),vs=[.ref gm,.int (hN cs:Nat),.ref p]∧fx.Ok∧IsGam CG x (V8 t) H gm∧IsTab CT fx H x∧TrB t∧SqT K H p (vN ys)∧(ys=[]∨Beg fx ys cs)∧∀ H',Same H H'→Q (.int (hN (if ys=[] then cs else alw fx.d fx t ys cs):Nat)) H'
theorem Zou:FnScope ["self","hand","trick"] ["self","hand","trick"] (Zp Zmo):=⟨rfl,rfl,rfl,by decide +kernel,rfl,by decide +kernel,by decide +kernel⟩
abbrev AlF(P:Program)(w:World)(K:W.Frag)(mg:Str→Option Value)(base:Heap)(CT CG:Addr)(k:Nat)(c4 f4:_root_.Fin 4→Addr)(d4:_root_.Fin 4→FuncData):Prop:=MethF P w K mg base Y6 k (_root_.Fin 4) "allowed" pAl (Zff K CT CG) c4 f4 d4
theorem Zqr(ys:List Nat):decide (V.int (((vN ys).length:Nat):Int)=V.int 0)=decide (ys=[]):=by
 rw[J0];refine decide_eq_decide.mpr ⟨fun h=>?_,fun h=>by rw[h];rfl⟩;injection h with h
 exact List.eq_nil_of_length_eq_zero (by omega)
theorem Zne{k:Nat}{CT CG CN f1 m2:Addr}{d1 e2:FuncData}{c4 f4:_root_.Fin 4→Addr}{d4:_root_.Fin 4→FuncData}(F:Fun K "may" "Game.may" Zmo f fd)(C:TabC K mg CT)(CGm:GamC K mg CG)(LD:LibX P w K mg base k "duty_of" ["word"] (Sr c4 CN) f1 d1)
  (MD:Meth K CT "duty" m2) (FD:FnOk P w K mg base Y6 k m2 e2 ["self"] (Zbn CT)) (BD:Binds K e2 ["self"] []) (MA:AlF P w K mg base CT CG k c4 f4 d4) (ml:mg "len" = none) :
  FnOk P w K mg base Y6 (k+1) f fd ["self","hand","trick"] (Zfd K CT CG):=by
 refine F.ok Zou (fun vs H Q E h=>?_) (fun cdv A outer s H vs Q E hr h=>?_)
 ·obtain⟨gm,x,p,t,fx,ys,cs,rfl,_⟩:=h
  rfl
 obtain⟨gm,x,p,t,fx,ys,cs,rfl,ok,hg,ht,hb,hT,B,q⟩:=h;refine⟨_,Zm (Yh (Je Uu (Jl Jt rfl ml Jg (Zb (pv 2) Zk)) Zo (Js _)) (Zv (Jj (pv 1))) Jz)
  (Zv (Jj (Zgd (Z6 LD.ok hr rfl LD.mg LD.kp LD.bd .nil G0 (Zb (Zge (Yj (pv 0) rfl) C.cl MD FD hr BD .nil Jn) Zk)) MA hr Jn (Zb (pv 0) (Zb (pv 1) (Zb (pv 2) Zk)))))),?_⟩
 refine⟨_,rfl,p,_,rfl,.inr hT,rfl,_,rfl,?_⟩;refine No (Zqr ys) ?_;by_cases c0:ys=[]
 ·rw[Ze c0]
  have q':=q H (Same.refl H);rw[if_pos c0] at q';exact U1 ⟨_,rfl,q'⟩
 ·rw[Zd c0]
  have B':=B.resolve_left c0;obtain⟨dg,hG⟩:=id hg;obtain⟨dx,po,to,hX,_,_⟩:=id ht;refine Yv ⟨_,rfl,gm,CG,dg,_,_,rfl,hG,CGm.cl,CGm.nT,Qf _ _,x,dx,_,rfl,hX,Zat _ _ _,x,fx,rfl,ht,wd fx.d,rfl,fun i e y dy H6 s6 hy h6=>?_,fun z=>absurd (Zhf _) z⟩;have ei:=K7 _ _ e;refine⟨i,y,dy,[],rfl,h6,rfl,_,rfl,_,rfl,_,rfl,y,gm,x,p,t,fx,ys,cs,rfl,ok,hg.same s6,ht.same s6,hb,s6.seqT hT,B',fun H7 s7=>?_⟩;have q':=q H7 (s6.trans s7);rw[if_neg c0,ei] at q';exact q'
end
theorem M1{p q:Nat→Bool}{c:Nat}:∀{l:List Nat},l.Nodup→c∈l→(∀ b,b≠c→p b=q b)→p c=false→q c=true→(l.filter p).length+1=(l.filter q).length
 | [],_,h,_,_,_=>nomatch h
 | a :: l,nd,h,e,pc,qc=>by
  obtain⟨na,nd'⟩:=List.nodup_cons.mp nd;by_cases z:a=c
  ·subst z
   rw[List.filter_cons_of_neg (by rw[pc];exact Zq),List.filter_cons_of_pos qc,Jc]
   congr 2
   exact List.filter_congr fun b hb=>e b fun z=>na (z ▸ hb)
  ·have m:c∈l:=(List.mem_cons.mp h).resolve_left (Ne.symm z)
   have ih:=M1 nd' m e pc qc;have ea:=e a z;cases r:q a with
   | true=>rw[r] at ea;rw[List.filter_cons_of_pos ea,List.filter_cons_of_pos r,Jc,Jc,ih]
   | false=>rw[r] at ea;rw[List.filter_cons_of_neg (by rw[ea];exact Zq),List.filter_cons_of_neg (by rw[r];exact Zq),ih]
theorem Dg(c b:Nat):(2 ^ c).testBit b=decide (c=b):=by
 rw[Nat.testBit_two_pow]
theorem X8(h c b:Nat)(hc:h.testBit c=true):(h ^^^ 2 ^ c).testBit b=(!decide (c=b) && h.testBit b):=by
 rw[Nat.testBit_xor,Dg];by_cases e:c=b
 ·subst e
  rw[hc,Ze rfl];rfl
 ·rw[Zd e]
  cases h.testBit b<;>rfl
theorem Zmy{h c:Nat}(hc:h.testBit c=true)(c32:c < 32):Xe 32 (h ^^^ 2 ^ c)+1=Xe 32 h:=by
 unfold Xe;refine M1 (c:=c) List.nodup_range (Z8.mpr c32) (fun b n=>?_) ?_ hc
 ·rw[X8 _ _ _ hc,Zd (Ne.symm n)]
  rfl
 ·rw[X8 _ _ _ hc,Ze rfl]
  rfl
theorem Zir{h c:Nat}(hc:h.testBit c=true):(h ^^^ 2 ^ c)+2 ^ c=h:=by
 have a:=PyProof.Rows.nat_or_add_and (h ^^^ 2 ^ c) (2 ^ c);have e1:(h ^^^ 2 ^ c) ||| 2 ^ c=h:=Nat.eq_of_testBit_eq fun b=>by
  rw[Nat.testBit_or,X8 _ _ _ hc,Dg];by_cases e:c=b
  ·subst e
   rw[hc,Ze rfl];rfl
  ·rw[Zd e]
   cases h.testBit b<;>rfl
 have e2:(h ^^^ 2 ^ c) &&& 2 ^ c=0:=Nat.eq_of_testBit_eq fun b=>by
  rw[Nat.testBit_and,X8 _ _ _ hc,Dg,Nat.zero_testBit];by_cases e:c=b
  ·rw[Ze e]
   rfl
  ·rw[Zd e,Bool.and_false]
 rw[e1,e2] at a;omega
theorem Zqp{h:Nat}(hb:∀ b,h.testBit b=true→b < 32):h < 4294967296:=by
 refine Nat.lt_pow_two_of_testBit (n:=32) h fun i hi=>?_;cases e:h.testBit i with
 | false=>rfl
 | true=>exact absurd (hb i e) (by omega)
theorem Me{α:Type}{p:α→Bool}{x:α}:∀{l:List α} {i:Nat} {a:α},l[i]? = some a→(l.set i x).countP p+(if p a then 1 else 0)=l.countP p+(if p x then 1 else 0)
 | [],_,_,h=>by simp at h
 | b :: l,0,a,h=>by
  have e:b=a:=Zr h;subst e;rw[List.set_cons_zero,List.countP_cons,List.countP_cons];omega
 | b :: l,i+1,a,h=>by
  have ih:=Me (p:=p) (x:=x) (l:=l) (i:=i) (a:=a) h;rw[List.set_cons_succ,List.countP_cons,List.countP_cons];omega
theorem Dx{α:Type}{g:α→Nat}{x:α}:∀{l:List α} {i:Nat} {a:α},l[i]? = some a→((l.set i x).map g).sum+g a=(l.map g).sum+g x
 | [],_,_,h=>by simp at h
 | b :: l,0,a,h=>by
  have e:b=a:=Zr h;subst e;rw[List.set_cons_zero,List.map_cons,List.map_cons,List.sum_cons,List.sum_cons];omega
 | b :: l,i+1,a,h=>by
  have ih:=Dx (g:=g) (x:=x) (l:=l) (i:=i) (a:=a) h;rw[List.set_cons_succ,List.map_cons,List.map_cons,List.sum_cons,List.sum_cons];omega
def off(n lead i:Nat):Nat:=(i+n - lead) % n
theorem Qk{n lead k:Nat}(hn:n=3∨n=4)(hl:lead < n)(hk:k < n):off n lead ((lead+k) % n)=k:=by
 have all:∀ n∈[3,4],∀ lead < n,∀ k < n,off n lead ((lead+k) % n)=k:=by decide
 exact all n (by rcases hn with rfl | rfl<;>simp) lead hl k hk
theorem Kb{n lead i:Nat}(hn:n=3∨n=4)(hl:lead < n)(hi:i < n):(lead+off n lead i) % n=i∧off n lead i < n:=by
 have all:∀ n∈[3,4],∀ lead < n,∀ i < n,(lead+off n lead i) % n=i∧off n lead i < n:=by decide
 exact all n (by rcases hn with rfl | rfl<;>simp) lead hl i hi
abbrev Er(hs ys:List Nat)(b:Nat):Nat:=hs.countP (fun h=>h.testBit b)+ys.count b
structure Plc(f:Fx)(hs:List Nat)(lead:Nat)(ys:List Nat)(m:Nat):Prop where
 len:hs.length=f.n
 ld:lead < f.n
 yl:ys.length < f.n
 one:∀ b,Er hs ys b≤1
 pk:∀ b,0 < Er hs ys b→b / 8 < f.s∧b % 8 < f.h
 lv:∀ i h,hs[i]? = some h→Xe 32 h+(if off f.n lead i < ys.length then 1 else 0)=m
section
variable{f:Fx}{hs ys:List Nat}{lead m:Nat}
theorem Plc.b32(ok:f.Ok)(P:Plc f hs lead ys m){b:Nat}(h:0 < Er hs ys b):b < 32:=by
 have:=P.pk b h;have:=ok.s4;have:=ok.h8;omega
theorem U4{h b:Nat}(hh:h∈hs)(hb:h.testBit b=true):0 < Er hs ys b:=Z3 (List.countP_pos_iff.mpr ⟨h,hh,hb⟩) (Nat.le_add_right _ _)
theorem Qn{c:Nat}(hc:c∈ys):0 < Er hs ys c:=Z3 (List.count_pos_iff.mpr hc) (Nat.le_add_left _ _)
theorem Plc.h32(ok:f.Ok)(P:Plc f hs lead ys m){h:Nat}(hh:h∈hs):h < 4294967296:=Zqp fun b hb=>P.b32 ok (U4 hh hb)
theorem Plc.y32(ok:f.Ok)(P:Plc f hs lead ys m){c:Nat}(hc:c∈ys):c < 32:=P.b32 ok (Qn hc)
theorem Plc.nd(P:Plc f hs lead ys m):ys.Nodup:=List.nodup_iff_count.mpr fun b=>by have:=P.one b;unfold Er at this;omega
theorem Plc.apart(P:Plc f hs lead ys m){h c:Nat}(hh:h∈hs)(hc:c∈ys):h.testBit c=false:=by
 cases e:h.testBit c with
 | false=>rfl
 | true=>
  have h1:0 < hs.countP (fun h=>h.testBit c):=List.countP_pos_iff.mpr ⟨h,hh,e⟩;have h2:=List.count_pos_iff.mpr hc;have:=P.one c;unfold Er at this;omega
theorem Uw(ok:f.Ok)(lead k:Nat):(lead+k) % f.n < f.n:=Nat.mod_lt _ (by rcases ok.n34 with e | e<;>omega)
theorem Plc.turn(ok:f.Ok)(P:Plc f hs lead ys m):∃ h,hs[(lead+ys.length) % f.n]? = some h∧Xe 32 h=m:=by
 have sl:=Uw ok lead ys.length;have hl:(lead+ys.length) % f.n < hs.length:=by rw[P.len];exact sl
 refine⟨_,Za hl,?_⟩;have:=P.lv _ _ (Za hl);rw[Qk ok.n34 P.ld P.yl,if_neg (Nat.lt_irrefl _)] at this;exact this
theorem Plc.le(P:Plc f hs lead ys m){h:Nat}(hh:h∈hs):Xe 32 h≤m:=by
 obtain⟨i,hi,e⟩:=Z2.mp hh;have:=P.lv i h (by rw[Za hi,e]);omega
theorem Plc.max(ok:f.Ok)(P:Plc f hs lead ys m):m∈hs.map (Xe 32)∧∀ x∈hs.map (Xe 32),x≤m:=by
 obtain⟨h,e1,e2⟩:=P.turn ok;refine⟨Zw.mpr ⟨h,Zg e1,e2⟩,fun x hx=>?_⟩;obtain⟨h',hm,rfl⟩:=Zw.mp hx;exact P.le hm
theorem Plc.step(ok:f.Ok)(P:Plc f hs lead ys m){h c:Nat}(hh:hs[(lead+ys.length) % f.n]? = some h)(hc:h.testBit c=true) :
  (∀ b,Er (hs.set ((lead+ys.length) % f.n) (h ^^^ 2 ^ c)) (ys++[c]) b=Er hs ys b)∧(hs.set ((lead+ys.length) % f.n) (h ^^^ 2 ^ c)).sum+2 ^ c=hs.sum ∧
  ((hs.set ((lead+ys.length) % f.n) (h ^^^ 2 ^ c)).map (Xe 32)).sum+1=(hs.map (Xe 32)).sum∧0 < m ∧
  (ys.length+1 < f.n→Plc f (hs.set ((lead+ys.length) % f.n) (h ^^^ 2 ^ c)) lead (ys++[c]) m) ∧
  (ys.length+1=f.n→∀ t,t < f.n→Plc f (hs.set ((lead+ys.length) % f.n) (h ^^^ 2 ^ c)) t [] (m - 1)):=by
 have hm:h∈hs:=Zg hh;have c32:=P.b32 ok (U4 (ys:=ys) hm hc);have A:∀ b,Er (hs.set ((lead+ys.length) % f.n) (h ^^^ 2 ^ c)) (ys++[c]) b=Er hs ys b:=fun b=>by
  have z:=Me (p:=fun h=>h.testBit b) (x:=h ^^^ 2 ^ c) hh;unfold Er;rw[List.count_append,List.count_singleton];have e:=X8 h c b hc;by_cases q:c=b
  ·subst q
   rw[Ze rfl] at e;have e':(h ^^^ 2 ^ c).testBit c=false:=e;rw[hc,e'] at z;simp only[if_true,Bool.false_eq_true,if_false,beq_self_eq_true] at z ⊢;omega
  ·rw[Zd q] at e
   have e':(h ^^^ 2 ^ c).testBit b=h.testBit b:=e;rw[e'] at z;rw[if_neg (by simpa using q)];omega
 have pc:=Zmy hc c32;have S1:=Dx (g:=id) (x:=h ^^^ 2 ^ c) hh;have S2:=Dx (g:=Xe 32) (x:=h ^^^ 2 ^ c) hh;rw[List.map_id,List.map_id] at S1;have xa:=Zir hc;have S1':(hs.set ((lead+ys.length) % f.n) (h ^^^ 2 ^ c)).sum+h=hs.sum+(h ^^^ 2 ^ c):=S1;have tl:=P.lv _ _ hh;rw[Qk ok.n34 P.ld P.yl,if_neg (Nat.lt_irrefl _)] at tl;refine⟨A,by omega,by omega,by omega,fun hl=>⟨by rw[Y0];exact P.len,P.ld,by rw[Zs];exact hl,fun b=>by rw[A];exact P.one b,fun b=>by rw[A];exact P.pk b,fun i g e=>?_⟩,
  fun hl t ht=>⟨by rw[Y0];exact P.len,ht,by show 0 < f.n;omega,fun b=>?_,fun b hb=>?_,fun i g e=>?_⟩⟩
 ·rw[Zs,List.length_singleton]
  by_cases q:i=(lead+ys.length) % f.n
  ·subst q
   have hi:(lead+ys.length) % f.n < hs.length:=by rw[P.len];exact Uw ok _ _
   rw[List.getElem?_set_self hi] at e;cases e;rw[Qk ok.n34 P.ld P.yl,if_pos (Nat.lt_succ_self _)];omega
  ·rw[List.getElem?_set_ne (Ne.symm q)] at e
   have:=P.lv i g e;have hi:i < f.n:=by rw[← P.len];exact(Zh.mp e).1
   obtain⟨o1,o2⟩:=Kb ok.n34 P.ld hi;have ne:off f.n lead i≠ys.length:=fun z=>q (by rw[← o1,z]);by_cases w:off f.n lead i < ys.length
   ·rw[if_pos w] at this
    rw[if_pos (by omega)];exact this
   ·rw[if_neg w] at this
    rw[if_neg (by omega)];exact this
 ·have:=A b
  have:=P.one b;unfold Er at *;rw[List.count_append] at *;simp only[List.count_nil] at *;omega
 ·refine P.pk b ?_
  have:=A b;unfold Er at *;rw[List.count_append] at *;simp only[List.count_nil] at *;omega
 ·have hi:i < f.n:=by
   have:=(Zh.mp e).1;rw[Y0,P.len] at this;exact this
  show Xe 32 g+(if off f.n t i < 0 then 1 else 0)=m - 1;rw[if_neg (Nat.not_lt_zero _)];by_cases q:i=(lead+ys.length) % f.n
  ·subst q
   have hi:(lead+ys.length) % f.n < hs.length:=by rw[P.len];exact Uw ok _ _
   rw[List.getElem?_set_self hi] at e;cases e;omega
  ·rw[List.getElem?_set_ne (Ne.symm q)] at e
   have:=P.lv i g e;obtain⟨o1,o2⟩:=Kb ok.n34 P.ld hi;have ne:off f.n lead i≠ys.length:=fun z=>q (by rw[← o1,z]);rw[if_pos (by omega)] at this;omega
end
theorem At{s h b:Nat}(h8:h≤8):b∈X2 s h↔b / 8 < s∧b % 8 < h:=by
 unfold X2;rw[List.mem_flatMap];constructor
 ·rintro⟨u,hu,hb⟩
  obtain⟨v,hv,rfl⟩:=Zw.mp hb;have:=Z8.mp hu;have:=Z8.mp hv;constructor<;>omega
 ·rintro⟨h1,h2⟩
  exact⟨b / 8,Z8.mpr h1,Zw.mpr ⟨b % 8,Z8.mpr h2,by omega⟩⟩
section
variable{f:Fx}{hs ys ws:List Nat}{lead m i:Nat}
end
end My
namespace L2
open PySem PySem.Spec PyProof.Rows Builtin Builtin.ObjectAttr
section
variable{prog:Program}{w:World}{A:Around}{E:Value→Shared→Prop}{h:Heap}{g:Array GenState}{d:Drawn}{t:Nat}{os:OsState}
variable{nm q:Str}{C N:Addr}{bs bm bmB:List Value}{hdct:Bool}{sn:List Str}{sub:List Value}{ab:Bool}{col:Option Bool}{dd:Option Addr}{k0 k1 k2 k3 k5:Option Value}{B newId initId:String}
end
section
variable{prog:Program}{w:World}{A:Around}{E:Value→Shared→Prop}{s:Shared}{K:W.Frag}{x C:Addr}{o:Obj}{vs:Array Value}{name:Str}{v:Value}
end
end L2
namespace L2
open PySem PySem.Spec PyProof.Rows
section
variable{M:Model}{A:Around}{E:Value→Shared→Prop}{env:Env}
variable{nm q:Str}{C N:Addr}{bs bm:List Value}{hdct:Bool}{sn:List Str}{sub:List Value}{ab:Bool}{col:Option Bool}{dd:Option Addr}{k0 k1 k2 k3 k5:Option Value}{newId:String}
end
section
variable{X:Cx}{n:Str}{np hpos np2 hpos2 pos:Pos}{i:Nat}
end
section
variable{X:Cx}{k:Nat}{f C:Addr}{fd:FuncData}{ps:List Str}{sp:Sp}{dvs:List V}{ds:List Value}{m name:Str}{p pos apos cpos:Pos}{o e a:Expr}{es:List Expr}{ta to:TE}{t:TA}
end
section
variable{X:Cx}{pins:List (Addr×Obj)}{σ:St}{H:Hp}{s:Shared}
end
theorem Za8{X:Cx}:Ui X (.type "int") (fun xs H Q=>∃ b,xs=[.bl b]∧Q (.int (if b then 1 else 0)) H):=by
 intro pins s σ H xs us Q I r h;obtain⟨b,rfl,q⟩:=h;obtain⟨u,rfl,ru⟩:=U2 r;cases ru;exact call_int_bool ⟨.int _,H,I.tok _,⟨_,rfl⟩,q⟩
section
variable{X:Cx}{k:Nat}{f C:Addr}{fd:FuncData}{ps:List Str}{sp:Sp}{dvs:List V}{ds:List Value}{x:Str}{p pos:Pos}{e:Expr}{es:List Expr}{t:TA}
end
end L2
namespace My
open PySem L2
theorem Jy{te:TE}{i:Nat}{u:TS}{D:Ends}{σ:St}{H:Hp}(G:V→Hp→Prop)(h:∀ R:V→Hp→Prop,(∀ v H',G v H'→R v H')→te σ H R)(hu:∀ v H',G v H'→u D (σ.set i (some v)) H'):Ze4 (Zc0 te (Uv i)) u D σ H:=h _ hu
theorem Xg{s u:TS}{D:Ends}{σ:St}{H:Hp}(Pv:St→Hp→Prop)(h1:∀ D':Ends,D'.rt=D.rt→(∀ σ H,Pv σ H→D'.nx σ H)→s D' σ H)(h2:∀ σ H,Pv σ H→u D σ H):Ze4 s u D σ H:=h1 { D with nx:=u D } rfl h2
theorem Zb7{T:St→Hp→Prop}{rt:VK}{bk ct:St→Hp→Prop}{σ:St}{H:Hp}(h:T σ H):Zll (Ends.mk T rt bk ct) σ H:=h
theorem int_dec{a b:Int}:decide (V.int a=V.int b)=decide (a=b):=decide_eq_decide.mpr ⟨fun h=>by injection h,fun h=>by rw[h]⟩
theorem Ol{a b:Nat}:decide (V.int (a:Nat)=V.int (b:Nat))=decide (a=b):=int_dec.trans (decide_eq_decide.mpr ⟨fun h=>by omega,fun h=>by omega⟩)
theorem Zao{r n:Nat}{i:Int}(h:i=((n:Nat):Int)):decide (V.int ((r:Nat):Int)=V.int i)=decide (r=n):=by subst h;exact Ol
theorem Zkq{n i:Nat}(h:i < n):ixN n ((i:Nat):Int)=some i:=by
 unfold ixN;rw[if_pos (by omega),if_pos (by omega),Zz]
end My
namespace L2
open PySem
end L2
namespace L2
open PySem PySem.Spec PyProof.Rows
section
variable{X:Cx}
end
end L2
namespace My
open PySem L2 PySem.Spec PyProof.Rows
section
variable{X:Cx}{e st:Expr}{te:TE}{ts:TO}{pos p2:Pos}
end
def up(c:Nat):Nat:=if 97≤c∧c≤122 then c - 32 else c
end My
namespace L2
open PySem PySem.Spec PyProof.Rows
section
variable{prog:Program}{w:World}{A:Around}{E:Value→Shared→Prop}{s:Shared}
end
section
variable{prog:Program}{w:World}{A:Around}{E:Value→Shared→Prop}{s:Shared}{h₀:Heap}{L l:Addr}{m:Str→Option Value}{news:List (Addr×Obj)}{Q:Value→Shared→Prop}
end
section
variable{prog:Program}{w:World}{A:Around}{E:Value→Shared→Prop}{s:Shared}{Q:Value→Shared→Prop}{pv nm qual:Str}{p p1 p2 p3:Pos}{f cc nl c':Addr}{pm ctv:Value}
end
section
variable{X:Cx}{pins:List (Addr×Obj)}{σ:St}{H:Hp}{s:Shared}{c P:Addr}{pv nm:Str}{p p1 p2 p3 pos:Pos}{cc:Addr}
end
end L2
namespace L2
open PySem PySem.Spec PyProof.Rows Att
theorem ObjOk.obj{P:Program}{w:World}{H:Hp}{h:Heap}{a:Addr}{o:HO}(x:ObjOk P w H h a o):∃ u,h.get? a=some u:=by
 cases o with
 | lst xs=>obtain⟨_,_,_,_,e⟩:=x;exact⟨_,e⟩
 | tup xs=>obtain⟨_,_,_,⟨u,e,_⟩⟩:=x;exact⟨u,e⟩
 | dK kvs=>obtain⟨_,_,_,_,o,_,_,e,_⟩:=x;exact⟨_,e⟩
 | dT kvs=>obtain⟨_,_,_,_,o,_,_,e,_⟩:=x;exact⟨_,e⟩
 | set S n=>obtain⟨o,_,_,_,e,_⟩:=x;exact⟨_,e⟩
 | ins C dx fs=>obtain⟨_,_,_,e,_⟩:=x;exact⟨_,e⟩
 | own y=>obtain⟨_,e⟩:=x;exact⟨_,e⟩
 | xd fs=>obtain⟨_,⟨_,_,_,e,_⟩,_⟩:=x;exact⟨_,e⟩
 | rng lo hi=>obtain⟨_,_,_,e⟩:=x;exact⟨_,e⟩
 | frz ob u=>obtain⟨e,_⟩:=x;exact⟨_,e⟩
 | tbl ps=>exact⟨_,(show h.get? a=some _ from x)⟩
 | met f y=>exact⟨_,(show h.get? a=some _ from x)⟩
 | ext φ=>obtain⟨_,⟨_,e⟩,_⟩:=x;exact⟨_,e⟩
section
variable{X:Cx}{pins:List (Addr×Obj)}{σ:St}{H:Hp}{s:Shared}{c P:Addr}{pv nm:Str}{p p1 p2 p3 pos:Pos}{cc:Addr}
end
section
variable{X:Cx}{c P:Addr}{pv nm:Str}{p p1 p2 p3 pos np cpos kp:Pos}{e:Expr}{t:TA}{i:Nat}
end
end L2
namespace L2
open PySem PySem.Spec PyProof.Rows
section
variable{X:Cx}
theorem B1:∀{ns:List Int} {us:List Value},Vals (ns.map V.int) us→IntsAre us ns
 | [],[],_=>.nil
 | n :: ns,u :: us,h=>by
  cases h with
  | cons r rr=>
   obtain⟨t,rfl⟩:=r;exact .cons n t (B1 rr)
theorem Vb:Ui X (.builtin "sorted") (fun xs H Q=>∃(a:Addr) (ns:List Int),xs=[.ref a]∧SqL X.K H a (ns.map V.int)∧ns.length < 64∧∀(l:Addr) (ms:List Int),H l=none→ms.Perm ns→ms.Pairwise (·≤·)→Q (.ref l) (upd H l (.lst (ms.map V.int)))):=by
 intro pins s σ H xs us Q I r h;obtain⟨a,ns,rfl,hS,h64,q⟩:=h;obtain⟨u,rfl,ru⟩:=U2 r;cases ru;obtain⟨its,ri,pl,hz⟩:=I.list hS;have hl:s.heap.IsList a its.toArray:=Ue pl;have hI:=B1 ri;refine sorted_ints hl hI (by have:=hI.length;omega) fun out ms a1 a2 a3=>?_;obtain⟨e,he⟩:=sortedAll_at s.heap its out;refine⟨.ref (s.heap.objs.size+1),_,I.laid (t':=s.toks) (a:=s.heap.objs.size+1) (o:=.lst (ms.map V.int)) (fun b u e=>sortedAll_old e) (Nat.le_succ _) ⟨by rw[Zf,a2.length_eq,sizeLine_eq];omega,out.toList,e,Vh a1,by simpa using he⟩,rfl,q _ ms (I.hok.fresh (Nat.le_succ _)) a2 a3⟩
def Zo6:R2:=fun x y H Q=>∃ a b xs ys,x = .ref a∧y = .ref b∧H a=some (.tup xs)∧H b=some (.tup ys)∧xs.length+ys.length≤sizeLine∧∀ p H',Same H H'→H' p=some (.tup (xs++ys))→Q (.ref p) H'
theorem Zj1:Eo X (binaryOp .Add) Zo6:=by
 intro pins s σ H x y v u Q I rx ry h;obtain⟨a,b,xs,ys,rfl,rfl,ha,hb,hz,q⟩:=h;by_cases hx:xs=[]
 ·subst hx
  cases rx;cases ry;obtain⟨its,r1,p1,_⟩:=I.tuple (.inl (.inl ha));obtain⟨its2,r2,p2,_⟩:=I.tuple (.inl (.inl hb));have e1:its=[]:=r1.nil_iff.mpr rfl;subst e1;obtain⟨⟨cls,dd,data,sl⟩,ho,hc,n,hd⟩:=id p1;obtain⟨⟨cls2,dd2,data2,sl2⟩,ho2,hc2,n2,hd2⟩:=id p2;simp only at hc hd hc2 hd2;subst hc hd hc2 hd2;exact concat_meets ⟨_,ho,rfl⟩ ⟨_,ho2,rfl⟩ noFill_tuple_add seq_tuple_add PySem.F.slot_tuple_add PySem.F.entry_tuple_add (PySem.F.args_tuple_add_2 _ _)
   (tuple_addW0 a b _ _ n n2 dd dd2 sl sl2 rfl) ⟨ho,ho2,⟨.ref b,H,I,rfl,q b H (fun _ _ e=>e) hb⟩⟩
 ·exact Zj0 pins s σ H _ _ v u Q I rx ry ⟨a,b,xs,ys,rfl,rfl,.inl (.inl ha),.inl (.inl hb),hx,hz,fun e=>by subst e;exact q a H (fun _ _ e=>e) (by rw[Jk];exact ha),
   fun _ p hp=>q p _ (fun c o e=>by rw[Jf (Jv e hp)];exact e) Zn⟩
end
end L2
namespace My
open PySem L2
abbrev Zft:Stmt:=top 5
abbrev Zfv:Stmt:=Yo (top 50) 1
abbrev S5:Stmt:=top 14
abbrev D0:Stmt:=top 15
abbrev S6:Stmt:=top 16
abbrev Zbv:Stmt:=top 17
abbrev D9:Stmt:=top 18
theorem Au:∀ s≤4,∀ h≤8,(X2 s h).length≤32:=by decide +kernel
section
variable{P:Program}{w:World}{K:W.Frag}{mg:Str→Option Value}{base:Heap}{f g:Addr}{fd gd:FuncData}
def Ds(K:W.Frag):Sp:=fun vs H Q _=>∃ h:Nat,vs=[.int h]∧h < 4294967296∧Q (.int (Xe 32 h)) H
theorem scMany:FnScope ["hand","number"] ["hand"] (Zp Zft):=⟨rfl,rfl,rfl,by decide +kernel,rfl,by decide +kernel,by decide +kernel⟩
theorem Zj8{k:Nat}(F:Fun K "many" "many" Zft f fd):FnOk P w K mg base Y6 (k+1) f fd ["hand"] (Ds K):=by
 refine F.ok scMany (fun vs H Q E h=>?_) (fun cdv A outer s H vs Q E hr h=>?_)
 ·obtain⟨h,rfl,_⟩:=h
  rfl
 obtain⟨h,rfl,h32,q⟩:=h;refine⟨_,Zm (Z9 (i:=1) scMany.nd rfl (Or.inl rfl) Zo)
  (Zm (Gz PassesOwn.never (Je E5 (pv 0) Zo (Js _)) (Zm (Z9 (i:=0) scMany.nd rfl (Or.inl rfl) (Ja Oi (pv 0) (Ja G9 (pv 0) Zo)))
   (Zv (Z9 (i:=1) scMany.nd rfl (Or.inl rfl) (Ja Ym (pv 1) Zo)))))
  (Zv (Jj (pv 1)))),?_⟩
 refine O7 (fun σ H'=>H'=H∧∃ a n:Nat,σ=[some (.int (a:Nat)),some (.int (n:Nat))]∧a < 4294967296∧n+Xe 32 a=Xe 32 h) (fun σ _=>match σ with | some (.int a) :: _=>a.toNat | _=>0)
  ⟨rfl,h,0,rfl,h32,Nat.zero_add _⟩ (fun σ H1 z=>?_) (fun σ H1 R R' m ⟨v,e,i,j,e1,e2,b,e3,r⟩=>⟨v,e,i,j,e1,e2,b,e3,m _ _ r⟩)
 obtain⟨rfl,a,n,rfl,a32,inv⟩:=z;refine⟨_,rfl,_,_,rfl,rfl,_,rfl,N9 (fun c=>?_) fun c=>?_⟩
 ·have c':(0:Int) < (a:Nat):=Z4 c
  refine⟨_,rfl,_,rfl,_,_,rfl,rfl,_,_,rfl,rfl,?_⟩;refine⟨_,rfl,_,_,rfl,rfl,?_⟩;have e:((a:Nat):Int) - 1=((a - 1:Nat):Int):=by omega
  have d:=Ar 32 a (by omega) (by rw[show(2:Nat) ^ 32=4294967296 from rfl];exact a32);have l:a &&& (a - 1)≤a - 1:=Nat.and_le_right;refine⟨⟨rfl,a &&& (a - 1),n+1,?_,by omega,by omega⟩,?_⟩
  ·show [some (V.int (Builtin.bitAnd (a:Nat) ((a:Nat) - 1))),some (V.int ((n:Nat)+1))]=_
   rw[e,PyProof.Rows.bitAnd_pp (Int.natCast_nonneg _) (Int.natCast_nonneg _)];rfl
  ·show(Builtin.bitAnd (a:Nat) ((a:Nat) - 1)).toNat < ((a:Nat):Int).toNat
   rw[e,PyProof.Rows.bitAnd_pp (Int.natCast_nonneg _) (Int.natCast_nonneg _)];show((a &&& (a - 1):Nat):Int).toNat < _;omega
 ·have c':¬ (0:Int) < (a:Nat):=of_decide_eq_false (Bool.eq_false_iff.mpr c)
  have z:a=0:=by omega
  subst z;rw[Zgm] at inv;refine⟨_,rfl,?_⟩;have e:n=Xe 32 h:=by omega
  rw[e];exact q
theorem Dw(c:Nat):(1:Int) * 2 ^ (((c:Nat):Int)).toNat=((2 ^ c:Nat):Int):=by
 rw[Zz,Int.one_mul,Int.natCast_pow];rfl
theorem orN(a b:Nat):Builtin.bitOr ((a:Nat):Int) ((b:Nat):Int)=((a ||| b:Nat):Int):=by
 rw[PyProof.Rows.bitOr_and,PyProof.Rows.bitAnd_pp (by omega) (by omega),Zz,Zz];have:=PyProof.Rows.nat_or_add_and a b;omega
theorem Zp5(a b:Nat):Builtin.bitXor ((a:Nat):Int) ((b:Nat):Int)=((a ^^^ b:Nat):Int):=by
 show Builtin.bitOr ((a:Nat):Int) ((b:Nat):Int) - Builtin.bitAnd ((a:Nat):Int) ((b:Nat):Int)=_;rw[orN,PyProof.Rows.bitAnd_pp (by omega) (by omega),Zz,Zz];have:=PyProof.Rows.nat_or_add_and a b;have e:(a ^^^ b)+(a &&& b)=a ||| b:=by
  have z:=PyProof.Rows.nat_or_add_and (a ^^^ b) (a &&& b);have e1:(a ^^^ b) ||| (a &&& b)=a ||| b:=Nat.eq_of_testBit_eq fun i=>by
   rw[Nat.testBit_or,Nat.testBit_xor,Nat.testBit_and,Nat.testBit_or];cases a.testBit i<;>cases b.testBit i<;>rfl
  have e2:(a ^^^ b) &&& (a &&& b)=0:=Nat.eq_of_testBit_eq fun i=>by
   rw[Nat.testBit_and,Nat.testBit_xor,Nat.testBit_and,Nat.zero_testBit];cases a.testBit i<;>cases b.testBit i<;>rfl
  rw[e1,e2] at z;omega
 omega
def IsPl(H:Hp)(p:Addr)(hs:List Nat)(lead:Nat)(ys:List Nat):Prop:=∃ hp tp,H p=some (.tup [.ref hp,.int (lead:Nat),.ref tp])∧H hp=some (.tup (vN hs))∧H tp=some (.tup (vN ys))
theorem IsPl.same{H H':Hp}{p:Addr}{hs ys:List Nat}{lead:Nat}(h:IsPl H p hs lead ys)(s:Same H H'):IsPl H' p hs lead ys:=by
 obtain⟨hp,tp,a,b,c⟩:=h;exact⟨hp,tp,s _ _ a,s _ _ b,s _ _ c⟩
structure GamH(CT CG:Addr)(f:Fx)(t:Option Nat)(H:Hp)(gm x:Addr):Prop where
 ok:f.Ok
 g:IsGam CG x (V8 t) H gm
 t:IsTab CT f H x
theorem GamH.same{CT CG:Addr}{f:Fx}{t:Option Nat}{H H':Hp}{gm x:Addr}(h:GamH CT CG f t H gm x)(s:Same H H'):GamH CT CG f t H' gm x:=⟨h.ok,h.g.same s,h.t.same s⟩
def Rr(CT CG:Addr):Sp:=fun vs H Q _=>∃(gm x:Addr) (t:Option Nat) (fx:Fx) (i j:Nat),vs=[.ref gm,.int (i:Nat),.int (j:Nat)]∧GamH CT CG fx t H gm x∧Q (.int ((i+j) % fx.n:Nat)) H
theorem Zi8:FnScope ["game","lead","steps"] ["game","lead","steps"] (Zp S5):=⟨rfl,rfl,rfl,by decide +kernel,rfl,by decide +kernel,by decide +kernel⟩
theorem Zg0{k:Nat}{CT CG:Addr}(F:Fun K "seat_round" "seat_round" S5 f fd)(C:TabC K mg CT)(CGm:GamC K mg CG):FnOk P w K mg base Y6 (k+1) f fd ["game","lead","steps"] (Rr CT CG):=by
 refine F.ok Zi8 (fun vs H Q E h=>?_) (fun cdv A outer s H vs Q E hr h=>?_)
 ·obtain⟨gm,x,t,fx,i,j,rfl,_⟩:=h
  rfl
 obtain⟨gm,x,t,fx,i,j,rfl,G,q⟩:=h;refine⟨_,Zv (Jj (Ja Y3 (Ja Ym (pv 1) (pv 2)) (Yj (Yj (pv 0) rfl) rfl))),?_⟩;obtain⟨dg,hg⟩:=G.g;obtain⟨dx,po,to,hx,_,_⟩:=G.t;have n0:0 < fx.n:=by rcases G.ok.n34 with e | e<;>omega
 refine⟨_,rfl,_,rfl,_,_,rfl,rfl,_,rfl,gm,CG,dg,_,_,rfl,hg,CGm.cl,CGm.nT,Qf _ _,x,CT,dx,_,_,rfl,hx,C.cl,C.nN,Rh _ _ _,_,_,rfl,rfl,(by show(0:Int) < ((fx.n:Nat):Int);omega),?_⟩;have e:(((i:Nat):Int)+((j:Nat):Int)) % ((fx.n:Nat):Int)=(((i+j) % fx.n:Nat):Int):=by rw[Int.natCast_emod,Int.natCast_add]
 show Q (V.int ((((i:Nat):Int)+((j:Nat):Int)) % ((fx.n:Nat):Int))) H;rw[e];exact q
def Sk(K:W.Frag):Sp:=fun vs H Q _=>∃(p:Addr) (fx:Fx) (hs ys:List Nat) (lead m:Nat),vs=[.ref p]∧fx.Ok∧IsPl H p hs lead ys∧Plc fx hs lead ys m∧∀ H',Same H H'→Q (.int (m:Nat)) H'
theorem Zmj:FnScope ["place"] ["place"] (Zp Zbv):=⟨rfl,rfl,rfl,by decide +kernel,rfl,by decide +kernel,by decide +kernel⟩
def pcV(x:V):V:=match x with | .int i=>.int ((Xe 32 i.toNat:Nat):Int) | _=>.non
theorem Ap(hs:List Nat):((vN hs).filter fun _=>true).map pcV=(hs.map fun h=>((Xe 32 h:Nat):Int)).map V.int:=by
 rw[List.filter_eq_self.mpr fun _ _=>rfl];unfold vN;rw[Z1,Z1];refine Jq fun h _=>?_;show V.int ((Xe 32 (((h:Nat):Int)).toNat:Nat):Int)=_;rw[Zz];rfl
theorem Zkb{k:Nat}{f1:Addr}{d1:FuncData}(F:Fun K "left" "left" Zbv f fd)(LM:Lib P w K mg base k "many" ["hand"] (Ds K) f1 d1)(mM:mg "max" = none):FnOk P w K mg base Y6 (k+1) f fd ["place"] (Sk K):=by
 refine F.ok Zmj (fun vs H Q E h=>?_) (fun cdv A outer s H vs Q E hr h=>?_)
 ·obtain⟨p,fx,hs,ys,lead,m,rfl,_⟩:=h
  rfl
 obtain⟨p,fx,hs,ys,lead,m,rfl,ok,⟨hp,tp,h1,h2,h3⟩,Pl,q⟩:=h;refine⟨_,Zv (Jj (Jl (M5 rfl) rfl mM PyProof.Rows.boot_max (Zb (Y7 ["hand"] [none] rfl (Blk.by (sc:=Zp Zbv) (N0:=["place"]) rfl rfl (by decide +kernel)) (Oe (Jo Jw (pv 0) Zo (fun _ _=>rfl))) (fun C s₀ H₀ ex=>Jm (i:=0) (show(["hand"]:List Str).Nodup by decide +kernel) rfl (Or.inl rfl)) (fun C s₀ H₀ ex=>Uj)
   (fun C s₀ H₀ ex=>Z6 LM.ok hr rfl LM.mg LM.kp LM.bd .nil Jn (Zb (pv 0) Zk))) Zk))),?_⟩
 have n4:hs.length≤4:=by rw[Pl.len];rcases ok.n34 with e | e<;>omega
 refine⟨_,rfl,p,_,_,_,rfl,rfl,SqT.of h1,(rfl:Xb [V.ref hp,V.int (lead:Nat),V.ref tp] 0=some (V.ref hp)),hp,rfl,⟨_,SqT.of h2⟩,Ts (K:=K) (xs:=vN hs) (fun _=>true) pcV (SqT.of h2) (Jp _ (by rw[J0];omega)) (fun y H3 hy sm R hR=>hR H3 (Same.refl H3)) (fun y H3 hy hp sm R hR=>?_) (fun lq H4 s4 hlq hL4=>?_)⟩
 ·obtain⟨h,hh,rfl⟩:=Zw.mp hy
  refine⟨_,rfl,h,rfl,Pl.h32 ok hh,?_⟩;have z:=hR H3 (Same.refl H3);have e:pcV (V.int (h:Nat))=V.int ((Xe 32 h:Nat):Int):=by
   show V.int ((Xe 32 (((h:Nat):Int)).toNat:Nat):Int)=_;rw[Zz]
  rw[e] at z;exact z
 ·rw[Ap] at hL4
  obtain⟨m1,m2⟩:=Pl.max ok;refine⟨lq,_,rfl,SqL.of hL4,?_,fun M hM hmax=>?_⟩
  ·rw[Zf,Pl.len]
   rcases ok.n34 with e | e<;>omega
  ·have e:M=(m:Nat):=by
    obtain⟨h,hh,e1⟩:=Zw.mp hM;have a1:=m2 _ (Zw.mpr ⟨h,hh,rfl⟩);obtain⟨h',hh',e2⟩:=Zw.mp m1;have a2:=hmax _ (Zw.mpr ⟨h',hh',rfl⟩);omega
   rw[e];exact q H4 s4
theorem Zl3(ws:List Nat)(j x:Nat):(vN ws).set j (.int (x:Nat))=vN (ws.set j x):=by
 unfold vN;rw[List.map_set]
theorem O8{ws:List Nat}{j w:Nat}(h:ws[j]? = some w):Xb (vN ws) (j:Nat)=some (.int (w:Nat)):=U7 (by unfold vN;rw[Zl,h];rfl)
def Zmt(x:V):V:=match x with | .int i=>.int ((2 ^ i.toNat:Nat):Int) | _=>.non
theorem Zc9(ys:List Nat):((vN ys).filter fun _=>true).map Zmt=vN (ys.map fun c=>2 ^ c):=by
 rw[List.filter_eq_self.mpr fun _ _=>rfl];unfold vN;rw[Z1,Z1];refine Jq fun c _=>?_;show V.int ((2 ^ (((c:Nat):Int)).toNat:Nat):Int)=_;rw[Zz];rfl
def Qs(f:Fx)(lead:Nat)(ys:List Nat)(m:Nat):V:=if m=0 then .non else .int (((lead+ys.length) % f.n:Nat):Int)
def Et(CT CG:Addr):Sp:=fun vs H Q _=>∃(gm x p:Addr) (t:Option Nat) (fx:Fx) (hs ys:List Nat) (lead m:Nat),vs=[.ref gm,.ref p]∧GamH CT CG fx t H gm x∧IsPl H p hs lead ys∧Plc fx hs lead ys m∧∀ H',Same H H'→Q (Qs fx lead ys m) H'
theorem Zfj:FnScope ["game","place"] ["game","place"] (Zp D0):=⟨rfl,rfl,rfl,by decide +kernel,rfl,by decide +kernel,by decide +kernel⟩
theorem Zdf{k:Nat}{CT CG f1 f2:Addr}{d1 d2:FuncData}(F:Fun K "turn_at" "turn_at" D0 f fd)(LL:Lib P w K mg base k "left" ["place"] (Sk K) f1 d1)(LR:Lib P w K mg base k "seat_round" ["game","lead","steps"] (Rr CT CG) f2 d2)(ml:mg "len" = none) :
  FnOk P w K mg base Y6 (k+1) f fd ["game","place"] (Et CT CG):=by
 refine F.ok Zfj (fun vs H Q E h=>?_) (fun cdv A outer s H vs Q E hr h=>?_)
 ·obtain⟨gm,x,p,t,fx,hs,ys,lead,m,rfl,_⟩:=h
  rfl
 obtain⟨gm,x,p,t,fx,hs,ys,lead,m,rfl,G,hPl,Pl,q⟩:=h;refine⟨_,Zm (Yh (Je Uu (Z6 LL.ok hr rfl LL.mg LL.kp LL.bd .nil Jn (Zb (pv 1) Zk)) Zo (Js _)) (Zv (Jj Vu)) Jz)
  (Zv (Jj (Z6 LR.ok hr rfl LR.mg LR.kp LR.bd .nil Jn (Zb (pv 0) (Zb (Jo Jw (pv 1) Zo (fun _ _=>rfl)) (Zb (Jl Jt rfl ml Jg (Zb (Jo Jw (pv 1) Zo (fun _ _=>rfl)) Zk)) Zk)))))),?_⟩
 refine⟨_,rfl,p,fx,hs,ys,lead,m,rfl,G.ok,hPl,Pl,fun H1 s1=>⟨rfl,_,rfl,?_⟩⟩;have e0:decide (V.int ((m:Nat):Int)=V.int 0)=decide (m=0):=Zao (n:=0) rfl;refine No e0 ?_;have q1:=q H1 s1;unfold Qs at q1;by_cases c:m=0
 ·rw[if_pos c] at q1
  rw[Ze c];exact U1 q1
 ·rw[if_neg c] at q1
  rw[Zd c];obtain⟨hp,tp,h1,h2,h3⟩:=hPl.same s1;refine Yv ⟨_,rfl,_,rfl,p,_,_,_,rfl,rfl,SqT.of h1,(rfl:Xb [V.ref hp,V.int (lead:Nat),V.ref tp] 1=some (V.int (lead:Nat))),_,rfl,p,_,_,_,rfl,rfl,SqT.of h1,(rfl:Xb [V.ref hp,V.int (lead:Nat),V.ref tp] 2=some (V.ref tp)),tp,_,rfl,.inr (SqT.of h3),gm,x,t,fx,lead,ys.length,?_,G.same s1,q1⟩;show [V.ref gm,V.int (lead:Nat),V.int (((vN ys).length:Nat):Int)]=_;rw[J0]
def Qq(f:Fx)(t:Option Nat)(ys:List Nat)(h:Nat):List Nat:=Jx (hN (if ys=[] then Jx h else alw f.d f t ys (Jx h)))
theorem N6{f:Fx}{t:Option Nat}{ys:List Nat}{h c:Nat}(h32:h < 4294967296)(hc:c∈Qq f t ys h):h.testBit c=true∧c < 32:=by
 unfold Qq at hc;have sub:∀ x∈(if ys=[] then Jx h else alw f.d f t ys (Jx h)),x∈Jx h:=fun x hx=>by
  by_cases e:ys=[]
  ·rw[if_pos e] at hx;exact hx
  ·rw[if_neg e] at hx;exact R8 _ _ _ _ _ x hx
 have l32:∀ x∈(if ys=[] then Jx h else alw f.d f t ys (Jx h)),x < 32:=fun x hx=>Ug (sub x hx);have m:=sub c ((Nb l32 c).mp hc);exact⟨(Y8 h32).mp m,Ug m⟩
def moveL(f:Fx)(t:Option Nat)(hs:List Nat)(lead:Nat)(ys:List Nat)(m:Nat):List Nat:=if m=0 then [] else Qq f t ys (hs.getD ((lead+ys.length) % f.n) 0)
def Bk(CT CG:Addr):Sp:=fun vs H Q _=>∃(gm x p:Addr) (t:Option Nat) (fx:Fx) (hs ys:List Nat) (lead m:Nat),vs=[.ref gm,.ref p]∧GamH CT CG fx t H gm x∧TrB t∧IsPl H p hs lead ys∧Plc fx hs lead ys m ∧
 ∀ l H',Same H H'→H l=none→H' l=some (.lst (vN (moveL fx t hs lead ys m)))→Q (.ref l) H'
theorem scMoves:FnScope ["game","place","seat"] ["game","place"] (Zp S6):=⟨rfl,rfl,rfl,by decide +kernel,rfl,by decide +kernel,by decide +kernel⟩
theorem Plc.beg{f:Fx}{hs ys:List Nat}{lead m h:Nat}(ok:f.Ok)(Pl:Plc f hs lead ys m)(hh:h∈hs):ys=[]∨Beg f ys (Jx h):=by
 by_cases e:ys=[]
 ·exact .inl e
 ·have h32:=Pl.h32 ok hh
  have yl:=Pl.yl;have n4:f.n≤4:=by rcases ok.n34 with z | z<;>omega
  have s4:=ok.s4;refine .inr ⟨List.length_pos_iff.mpr e,by omega,fun c hc=>?_,fun c hc=>?_⟩
  ·have:=Pl.pk c (Qn hc)
   omega
  ·have:=Pl.pk c (U4 (ys:=ys) hh ((Y8 h32).mp hc))
   exact⟨Ug hc,this.2⟩
theorem Zg3{k:Nat}{CT CG f1 f2 m3:Addr}{d1 d2 e3:FuncData}(F:Fun K "moves" "moves" S6 f fd)(CGm:GamC K mg CG)(LT:Lib P w K mg base k "turn_at" ["game","place"] (Et CT CG) f1 d1)(LC:Lib P w K mg base k "cards_in" ["hand"] (Q3 K) f2 d2)
  (MM:Meth K CG "may" m3) (FM:FnOk P w K mg base Y6 k m3 e3 ["self","hand","trick"] (Zfd K CT CG)) (BM:Binds K e3 ["self","hand","trick"] []):FnOk P w K mg base Y6 (k+1) f fd ["game","place"] (Bk CT CG):=by
 refine F.ok scMoves (fun vs H Q E h=>?_) (fun cdv A outer s H vs Q E hr h=>?_)
 ·obtain⟨gm,x,p,t,fx,hs,ys,lead,m,rfl,_⟩:=h
  rfl
 obtain⟨gm,x,p,t,fx,hs,ys,lead,m,rfl,G,tb,hPl,Pl,q⟩:=h;refine⟨_,Zm (Z9 (i:=2) scMoves.nd rfl (Or.inl rfl) (Z6 LT.ok hr rfl LT.mg LT.kp LT.bd .nil Jn (Zb (pv 0) (Zb (pv 1) Zk))))
  (Zm (Yh (Je Zgu (pv 2) Vu (Js _)) (Zv (Jj (Uk Zk))) Jz)
  (Zv (Jj (Z6 LC.ok hr rfl LC.mg LC.kp LC.bd .nil Jn (Zb (Us (pv 0) CGm.cl MM FM hr BM .nil Jn (Zb (Jo Jw (Jo Jw (pv 1) Zo (fun _ _=>rfl)) (pv 2) (fun _ _=>rfl)) (Zb (Jo Jw (pv 1) Zo (fun _ _=>rfl)) Zk))) Zk))))),?_⟩
 refine⟨_,rfl,_,rfl,gm,x,p,t,fx,hs,ys,lead,m,rfl,G,hPl,Pl,fun H1 s1=>?_⟩;by_cases c:m=0
 ·have e:Qs fx lead ys m = .non:=by unfold Qs;rw[if_pos c]
  rw[e];refine⟨_,rfl,rfl,_,rfl,No (Ze rfl:decide (V.non=V.non)=true) (U1 ⟨Jp 0 (by decide),fun l hl=>q l _ (s1.trans (Zx hl _)) (s1.free hl) ?_⟩)⟩;rw[Zn];unfold moveL;rw[if_pos c];rfl
 ·have e:Qs fx lead ys m = .int (((lead+ys.length) % fx.n:Nat):Int):=by unfold Qs;rw[if_neg c]
  rw[e];refine⟨_,rfl,rfl,_,rfl,No (Zd (fun z=>nomatch z):decide (V.int (((lead+ys.length) % fx.n:Nat):Int)=V.non)=false) (Yv ?_)⟩;obtain⟨h,eh,_⟩:=Pl.turn G.ok;have hh:h∈hs:=Zg eh;have h32:=Pl.h32 G.ok hh;obtain⟨hp,tp,h1,h2,h3⟩:=hPl.same s1;obtain⟨dg,hG⟩:=(G.same s1).g;have eN:hN (Jx h)=h:=Zgs h32 fun _=>Iff.rfl;refine⟨_,rfl,gm,dg,_,rfl,hG,Nc _ _ _ (by decide +kernel) (by decide +kernel),_,rfl,p,_,_,_,rfl,rfl,SqT.of h1,(rfl:Xb [V.ref hp,V.int (lead:Nat),V.ref tp] 0=some (V.ref hp)),_,rfl,hp,_,_,_,rfl,rfl,SqT.of h2,O8 eh,
   _,rfl,p,_,_,_,rfl,rfl,SqT.of h1,(rfl:Xb [V.ref hp,V.int (lead:Nat),V.ref tp] 2=some (V.ref tp)),gm,x,tp,t,fx,ys,Jx h,?_,G.ok,(G.same s1).g,(G.same s1).t,tb,SqT.of h3,Pl.beg G.ok hh,fun H2 s2=>?_⟩
  ·rw[eN]
   rfl
  ·have sub:∀ y∈(if ys=[] then Jx h else alw fx.d fx t ys (Jx h)),y < 32:=fun y hy=>by
    by_cases e:ys=[]
    ·rw[if_pos e] at hy;exact Ug hy
    ·rw[if_neg e] at hy;exact Ug (R8 _ _ _ _ _ y hy)
   refine⟨_,rfl,Ko sub,fun l H3 s3 hl hL=>q l H3 (s1.trans (s2.trans s3)) ((s1.trans s2).free hl) ?_⟩;rw[hL];unfold moveL Qq;rw[if_neg c,Zj,eh];rfl
def tkV:Option Nat→V
 | none=>.non
 | some i=>.int (i:Nat)
structure Nxt(f:Fx)(t:Option Nat)(hs:List Nat)(lead:Nat)(ys:List Nat)(h c:Nat)(hs':List Nat)(lead':Nat)(ys':List Nat)(tk:Option Nat):Prop where
 hand:hs'=hs.set ((lead+ys.length) % f.n) (h ^^^ 2 ^ c)
 go:ys.length+1 < f.n→lead'=lead∧ys'=ys++[c]∧tk=none
 full:ys.length+1=f.n→ys'=[]∧tk=some lead'∧∃ i,Win f t (Z5 (ys++[c])) (ys++[c]) i∧lead'=(lead+i) % f.n
def Bm(K:W.Frag)(CT CG:Addr):Sp:=fun vs H Q _=>∃(gm x p:Addr) (t:Option Nat) (fx:Fx) (hs ys:List Nat) (lead m h c:Nat),vs=[.ref gm,.ref p,.int (c:Nat)]∧GamH CT CG fx t H gm x∧IsPl H p hs lead ys∧Plc fx hs lead ys m∧hs[(lead+ys.length) % fx.n]? = some h∧h.testBit c=true ∧
 ∀ r p' hs' lead' ys' tk H',Same H H'→Nxt fx t hs lead ys h c hs' lead' ys' tk→H' r=some (.tup [.ref p',tkV tk])→IsPl H' p' hs' lead' ys'→Q (.ref r) H'
abbrev Zkj:List Str:=["game","place","card","seat","hands","trick","taker"]
theorem scBehind:FnScope Zkj ["game","place","card"] (Zp D9):=⟨rfl,rfl,rfl,by decide +kernel,rfl,by decide +kernel,by decide +kernel⟩
theorem Zdp{k:Nat}{CT CG f1 m3:Addr}{d1 e3:FuncData}(F:Fun K "behind" "behind" D9 f fd)(C:TabC K mg CT)(CGm:GamC K mg CG)(LR:Lib P w K mg base k "seat_round" ["game","lead","steps"] (Rr CT CG) f1 d1)
  (MW:Meth K CG "winner" m3) (FW:FnOk P w K mg base Y6 k m3 e3 ["self","trick"] (Ge K CT CG)) (BW:Binds K e3 ["self","trick"] []) (ml:mg "len" = none) (mLi:mg "list" = none) (mT:mg "tuple" = none):FnOk P w K mg base Y6 (k+1) f fd ["game","place","card"] (Bm K CT CG):=by
 refine F.ok scBehind (fun vs H Q E h=>?_) (fun cdv A outer s H vs Q E hr h=>?_)
 ·obtain⟨gm,x,p,t,fx,hs,ys,lead,m,h,c,rfl,_⟩:=h
  rfl
 obtain⟨gm,x,p,t,fx,hs,ys,lead,m,h,c,rfl,G,hPl,Pl,eh,hc,q⟩:=h;obtain⟨hp,tp,h1,h2,h3⟩:=id hPl;refine⟨_,Zm (Z9 (i:=3) scBehind.nd rfl (Or.inl rfl) (Z6 LR.ok hr rfl LR.mg LR.kp LR.bd .nil Jn (Zb (pv 0) (Zb (Jo Jw (pv 1) Zo (fun _ _=>rfl)) (Zb (Jl Jt rfl ml Jg (Zb (Jo Jw (pv 1) Zo (fun _ _=>rfl)) Zk)) Zk)))))
  (Zm (Z9 (i:=4) scBehind.nd rfl (Or.inl rfl) (J8 Uy rfl mLi J5 (Zb (Jo Jw (pv 1) Zo (fun _ _=>rfl)) Zk)))
  (Zm (Zad (Ja Zm4 (Jo J9 (pv 4) (pv 3) (fun _ _=>rfl)) (Ja Ta Zo (pv 2))) (Zmv (pv 4) (pv 3) Zfi))
  (Zm (Z9 (i:=5) scBehind.nd rfl (Or.inl rfl) (Ja Zj1 (Jo Jw (pv 1) Zo (fun _ _=>rfl)) (Y2 (Zb (pv 2) Zk))))
  (Zm (Yh (Je Zb6 (Jl Jt rfl ml Jg (Zb (pv 5) Zk)) (Yj (Yj (pv 0) rfl) rfl) (Js _))
   (Zv (Jj (Y2 (Zb (Y2 (Zb (J8 Uo rfl mT Yi (Zb (pv 4) Zk)) (Zb (Jo Jw (pv 1) Zo (fun _ _=>rfl)) (Zb (pv 5) Zk)))) (Zb Vu Zk))))) Jz)
  (Zm (Z9 (i:=6) scBehind.nd rfl (Or.inl rfl) (Z6 LR.ok hr rfl LR.mg LR.kp LR.bd .nil Jn (Zb (pv 0) (Zb (Jo Jw (pv 1) Zo (fun _ _=>rfl)) (Zb (Us (pv 0) CGm.cl MW FW hr BW .nil Jn (Zb (pv 5) Zk)) Zk)))))
  (Zv (Jj (Y2 (Zb (Y2 (Zb (J8 Uo rfl mT Yi (Zb (pv 4) Zk)) (Zb (pv 6) (Zb (Y2 Zk) Zk)))) (Zb (pv 6) Zk)))))))))),?_⟩
 have ok:=G.ok;have n4:fx.n≤4:=by rcases ok.n34 with e | e<;>omega
 have yl:=Pl.yl;have hm:h∈hs:=Zg eh;have c32:=Pl.b32 ok (U4 (ys:=ys) hm hc);refine⟨_,rfl,_,rfl,p,_,_,_,rfl,rfl,SqT.of h1,(rfl:Xb [V.ref hp,V.int (lead:Nat),V.ref tp] 1=some (V.int (lead:Nat))),_,rfl,p,_,_,_,rfl,rfl,SqT.of h1,(rfl:Xb [V.ref hp,V.int (lead:Nat),V.ref tp] 2=some (V.ref tp)),tp,_,rfl,.inr (SqT.of h3),gm,x,t,fx,lead,ys.length,(by show [V.ref gm,V.int (lead:Nat),V.int (((vN ys).length:Nat):Int)]=_;rw[J0]),G,?_⟩;refine⟨_,rfl,p,_,_,_,rfl,rfl,SqT.of h1,(rfl:Xb [V.ref hp,V.int (lead:Nat),V.ref tp] 0=some (V.ref hp)),hp,_,rfl,.inr (SqT.of h2),fun l hl=>?_⟩;have s1:=Zx hl (.lst (vN hs));refine⟨_,rfl,_,rfl,l,_,_,_,rfl,rfl,SqL.of Zn,O8 eh,_,rfl,_,_,rfl,rfl,⟨by omega,by omega,by decide⟩,_,_,rfl,rfl,?_⟩;refine⟨_,rfl,_,rfl,l,_,_,(lead+ys.length) % fx.n,rfl,rfl,Zn,Zkq (by rw[J0];exact(Zh.mp eh).1),?_⟩;have eS:(vN hs).set ((lead+ys.length) % fx.n) (V.int (Builtin.bitXor ((h:Nat):Int) ((1:Int) * 2 ^ (((c:Nat):Int)).toNat)))=vN (hs.set ((lead+ys.length) % fx.n) (h ^^^ 2 ^ c)):=by
  rw[Dw,Zp5,Zl3]
 have s2:Same H (upd (upd H l (.lst (vN hs))) l (.lst (vN (hs.set ((lead+ys.length) % fx.n) (h ^^^ 2 ^ c))))):=by
  rw[Uq];exact Zx hl _
 show Ze4 _ _ _ _ (upd (upd H l (.lst (vN hs))) l (.lst ((vN hs).set ((lead+ys.length) % fx.n) (V.int (Builtin.bitXor ((h:Nat):Int) ((1:Int) * 2 ^ (((c:Nat):Int)).toNat))))));rw[eS];have hL2:upd (upd H l (.lst (vN hs))) l (.lst (vN (hs.set ((lead+ys.length) % fx.n) (h ^^^ 2 ^ c)))) l=some (.lst (vN (hs.set ((lead+ys.length) % fx.n) (h ^^^ 2 ^ c)))):=Zn;generalize upd (upd H l (.lst (vN hs))) l (.lst (vN (hs.set ((lead+ys.length) % fx.n) (h ^^^ 2 ^ c))))=H2 at s2 hL2 ⊢;refine⟨_,rfl,p,_,_,_,rfl,rfl,SqT.of (s2 _ _ h1),(rfl:Xb [V.ref hp,V.int (lead:Nat),V.ref tp] 2=some (V.ref tp)),_,rfl,Jp 1 (by decide),fun c1 hc1=>?_⟩;have s3:=s2.trans (Zx hc1 (.tup [.int (c:Nat)]));refine⟨tp,c1,_,_,rfl,rfl,s3 _ _ h3,Zn,Jp _ (by rw[J0];show ys.length+1≤1000;omega),fun tq H4 s4 hq4=>?_⟩;have eY:vN ys++[V.int (c:Nat)]=vN (ys++[c]):=by unfold vN;rw[Ju];rfl
 rw[eY] at hq4;have s5:=s3.trans s4;have hL4:H4 l=some (.lst (vN (hs.set ((lead+ys.length) % fx.n) (h ^^^ 2 ^ c)))):=s4 _ _ (Zx hc1 _ _ _ hL2);obtain⟨dg,hg⟩:=(G.same s5).g;obtain⟨dx,po,to,hx,_,_⟩:=(G.same s5).t;have e2:decide ((((vN (ys++[c])).length:Nat):Int) < ((fx.n:Nat):Int))=decide (ys.length+1 < fx.n):=by
  rw[J0,Zs,List.length_singleton];exact decide_eq_decide.mpr ⟨fun z=>by omega,fun z=>by omega⟩
 refine⟨_,rfl,tq,_,rfl,.inr (SqT.of hq4),_,rfl,gm,CG,dg,_,_,rfl,hg,CGm.cl,CGm.nT,Qf _ _,x,CT,dx,_,_,rfl,hx,C.cl,C.nN,Rh _ _ _,_,_,rfl,rfl,_,rfl,No e2 ?_⟩;by_cases cl:ys.length+1 < fx.n
 ·rw[Ze cl]
  refine U1 ⟨_,rfl,l,_,rfl,.inl ⟨SqL.of hL4,fun th hth=>?_⟩⟩;have s6:=s5.trans (Zx hth (.tup (vN (hs.set ((lead+ys.length) % fx.n) (h ^^^ 2 ^ c)))));refine⟨_,rfl,p,_,_,_,rfl,rfl,SqT.of (s6 _ _ h1),(rfl:Xb [V.ref hp,V.int (lead:Nat),V.ref tp] 1=some (V.int (lead:Nat))),_,rfl,Jp 3 (by decide),fun pp hpp=>⟨Jp 2 (by decide),fun r hr1=>?_⟩⟩;have a1:=Zx hpp (.tup [.ref th,.int (lead:Nat),.ref tq]);have a2:=Zx hr1 (.tup [.ref pp,.non]);refine q r pp _ lead (ys++[c]) none _ (s6.trans (a1.trans a2)) ⟨rfl,fun _=>⟨rfl,rfl,rfl⟩,fun z=>absurd z (by omega)⟩ Zn ⟨th,tq,a2 _ _ Zn,a2 _ _ (a1 _ _ Zn),a2 _ _ (a1 _ _ ?_)⟩;exact Zx hth _ _ _ hq4
 ·have cl2:ys.length+1=fx.n:=by omega
  rw[Zd cl];have T:Trk fx (ys++[c]):=by
   refine⟨?_,fun y hy=>?_,by rw[Zs];exact Nat.succ_pos _⟩
   ·refine List.nodup_append.mpr ⟨Pl.nd,List.nodup_cons.mpr ⟨Yr,List.nodup_nil⟩,fun y hy z hz=>?_⟩
    rw[Z7.mp hz];intro e;subst e;have:=Pl.apart hm hy;rw[hc] at this;cases this
   ·rcases Jh.mp hy with z | z
    ·exact(Pl.pk y (Qn z)).2
    ·rw[Z7.mp z]
     exact(Pl.pk c (U4 (ys:=ys) hm hc)).2
  refine Yv ⟨_,rfl,_,rfl,p,_,_,_,rfl,rfl,SqT.of (s5 _ _ h1),(rfl:Xb [V.ref hp,V.int (lead:Nat),V.ref tp] 1=some (V.int (lead:Nat))),_,rfl,gm,dg,_,rfl,hg,Nc _ _ _ (by decide +kernel) (by decide +kernel),_,rfl,gm,x,tq,t,fx,ys++[c],rfl,ok,(G.same s5).g,(G.same s5).t,SqT.of hq4,T,fun i H5 t5 W=>?_⟩;have s6:=s5.trans t5;refine⟨gm,x,t,fx,lead,i,rfl,G.same s6,?_⟩;refine⟨_,rfl,l,_,rfl,.inl ⟨SqL.of (t5 _ _ hL4),fun th hth=>?_⟩⟩;have a0:=Zx hth (.tup (vN (hs.set ((lead+ys.length) % fx.n) (h ^^^ 2 ^ c))));refine⟨_,rfl,Jp 0 (by decide),fun tz htz=>⟨Jp 3 (by decide),fun pp hpp=>⟨_,rfl,Jp 2 (by decide),fun r hr1=>?_⟩⟩⟩;have a1:=Zx htz (.tup []);have a2:=Zx hpp (.tup [.ref th,.int (((lead+i) % fx.n:Nat):Int),.ref tz]);have a3:=Zx hr1 (.tup [.ref pp,.int (((lead+i) % fx.n:Nat):Int)]);exact q r pp _ ((lead+i) % fx.n) [] (some ((lead+i) % fx.n)) _ (s6.trans (a0.trans (a1.trans (a2.trans a3)))) ⟨rfl,fun z=>absurd z (by omega),fun _=>⟨rfl,rfl,i,W,rfl⟩⟩ Zn ⟨th,tz,a3 _ _ Zn,a3 _ _ (a2 _ _ (a1 _ _ Zn)),a3 _ _ (a2 _ _ Zn)⟩
end
section
variable{fx:Fx}{t:Option Nat}{hs ys hs' ys':List Nat}{lead lead' m h c:Nat}{tk:Option Nat}
theorem Nxt.plc(ok:fx.Ok)(Pl:Plc fx hs lead ys m)(eh:hs[(lead+ys.length) % fx.n]? = some h)(hc:h.testBit c=true)(N:Nxt fx t hs lead ys h c hs' lead' ys' tk) :
  ∃ m',Plc fx hs' lead' ys' m'∧hs'.sum+2 ^ c=hs.sum∧(hs'.map (Xe 32)).sum+1=(hs.map (Xe 32)).sum∧0 < m∧((tk=none∧m'=m∧lead'=lead∧ys'=ys++[c]∧ys.length+1 < fx.n)∨(tk=some lead'∧m'+1=m∧ys'=[]∧lead' < fx.n)):=by
 obtain⟨A,S1,S2,m0,g1,g2⟩:=Pl.step ok eh hc;have yl:=Pl.yl;by_cases cl:ys.length+1 < fx.n
 ·obtain⟨e1,e2,e3⟩:=N.go cl
  rw[N.hand,e1,e2];exact⟨m,g1 cl,S1,S2,m0,.inl ⟨e3,rfl,rfl,rfl,cl⟩⟩
 ·have cl2:ys.length+1=fx.n:=by omega
  obtain⟨e1,e2,i,_,e3⟩:=N.full cl2;have ll:lead' < fx.n:=by rw[e3];exact Uw ok _ _
  rw[N.hand,e1];exact⟨m - 1,g2 cl2 lead' ll,S1,S2,m0,.inr ⟨e2,by omega,rfl,ll⟩⟩
theorem Dh(Pl:Plc fx hs lead ys m)(eh:hs[(lead+ys.length) % fx.n]? = some h)(hc:h.testBit c=true):(ys++[c]).Nodup:=by
 refine List.nodup_append.mpr ⟨Pl.nd,List.nodup_cons.mpr ⟨Yr,List.nodup_nil⟩,fun y hy z hz=>?_⟩;rw[Z7.mp hz];intro e;subst e;have:=Pl.apart (Zg eh) hy;rw[hc] at this;cases this
theorem Nxt.uniq(Pl:Plc fx hs lead ys m)(eh:hs[(lead+ys.length) % fx.n]? = some h)(hc:h.testBit c=true)(N:Nxt fx t hs lead ys h c hs' lead' ys' tk){hs2 ys2:List Nat}{lead2:Nat}{tk2:Option Nat}(M:Nxt fx t hs lead ys h c hs2 lead2 ys2 tk2) :
  hs'=hs2∧lead'=lead2∧ys'=ys2∧tk=tk2:=by
 have yl:=Pl.yl;refine⟨N.hand.trans M.hand.symm,?_⟩;by_cases cl:ys.length+1 < fx.n
 ·obtain⟨e1,e2,e3⟩:=N.go cl
  obtain⟨d1,d2,d3⟩:=M.go cl;exact⟨e1.trans d1.symm,e2.trans d2.symm,e3.trans d3.symm⟩
 ·have cl2:ys.length+1=fx.n:=by omega
  obtain⟨e1,e2,i,W,e3⟩:=N.full cl2;obtain⟨d1,d2,j,V,d3⟩:=M.full cl2;have ij:=O6 (Dh Pl eh hc) W V;subst ij;have el:lead'=lead2:=e3.trans d3.symm;exact⟨el,e1.trans d1.symm,by rw[e2,d2,el]⟩
end
theorem nxE{T:St→Hp→Prop}{rt:VK}{bk ct:St→Hp→Prop}{σ:St}{H:Hp}(h:T σ H):(Ends.mk T rt bk ct).nx σ H:=h
theorem eq_int(a b:Int):decide (V.int a=V.int b)=decide (a=b):=decide_eq_decide.mpr ⟨fun h=>by injection h,fun h=>by rw[h]⟩
section
variable{P:Program}{w:World}{K:W.Frag}{mg:Str→Option Value}{base:Heap}{f g:Addr}{fd gd:FuncData}
theorem Sd{H:Hp}{p q:Addr}{xs:List V}{o:HO}(h:H p=some (.tup xs))(hq:H q=some o)(n:∀ ys,o ≠ .tup ys):p≠q:=fun z=>by
 rw[z,hq] at h;exact n _ (Zr h)
end
end My
namespace L2
open PySem PySem.Spec PyProof.Rows
section
variable{κ:Type} [DecidableEq κ]
def Ep(kvs:List (κ×V))(k:κ):Option V:=(kvs.find? fun kv=>decide (kv.1=k)).map (·.2)
def Vs(kvs:List (κ×V))(k:κ)(v:V):List (κ×V):=
 if(kvs.any fun kv=>decide (kv.1=k))=true then kvs.map (fun kv=>if kv.1=k then(kv.1,v) else kv) else kvs++[(k,v)]
theorem Bf{p:κ×V}{r:List (κ×V)}{k:κ}(e:p.1=k):Ep (p :: r) k=some p.2:=by simp [Ep,List.find?_cons,e]
theorem Es{p:κ×V}{r:List (κ×V)}{k:κ}(e:¬ p.1=k):Ep (p :: r) k=Ep r k:=by simp [Ep,List.find?_cons,e]
theorem Ga(k:κ):∀ kvs:List (κ×V),(kvs.any fun kv=>decide (kv.1=k))=(Ep kvs k).isSome
 | []=>rfl
 | p :: r=>by
  rw[List.any_cons];by_cases e:p.1=k
  ·simp only[Bf e,Ze e,Bool.true_or,Option.isSome_some]
  ·rw[Es e,Zd e,Bool.false_or];exact Ga k r
theorem Rj(kvs:List (κ×V))(k:κ)(v:V):(Vs kvs k v).length≤kvs.length+1:=by
 unfold Vs;split
 ·rw[Zf];omega
 ·rw[Zs,Jc,List.length_nil];omega
theorem Zf5{kvs:List (κ×V)}{k:κ}(v:V)(h:Ep kvs k=none):Vs kvs k v=kvs++[(k,v)]:=by
 unfold Vs;rw[Ga,h];exact if_neg (by decide)
theorem RelO.isSome_eq{o:Option V}{u:Option Value}(r:RelO o u):o.isSome=u.isSome:=by
 cases o with
 | none=>cases u with
  | none=>rfl
  | some _=>exact(show False from r).elim
 | some _=>cases u with
  | none=>exact(show False from r).elim
  | some _=>rfl
theorem KV.val{kvs:List (κ×V)}{vs:List (κ×Value)}(r:KV kvs vs)(k:κ):RelO (Ep kvs k) (valueAt vs k):=by
 unfold KV at r
 induction r with
 | nil=>exact True.intro
 | @cons p q ps qs h t ih=>
  obtain⟨h1,h2⟩:=h;by_cases e:p.1=k
  ·have e':q.1=k:=h1.symm.trans e
   have b:valueAt (q :: qs) k=some q.2:=by simp [valueAt,List.find?_cons,e']
   rw[Bf e,b];exact h2
  ·have e':¬ q.1=k:=fun z=>e (h1.trans z)
   have b:valueAt (q :: qs) k=valueAt qs k:=by simp [valueAt,List.find?_cons,e']
   rw[Es e,b];exact ih
theorem KV.any{kvs:List (κ×V)}{vs:List (κ×Value)}(r:KV kvs vs)(k:κ):(kvs.any fun kv=>decide (kv.1=k))=vs.any fun kv=>decide (kv.1=k):=by
 unfold KV at r
 induction r with
 | nil=>rfl
 | cons h t ih=>rw[List.any_cons,List.any_cons,ih,h.1]
theorem KV.repl{kvs:List (κ×V)}{vs:List (κ×Value)}(r:KV kvs vs)(k:κ){y:V}{u:Value}(ry:RelV y u) :
  KV (kvs.map fun kv=>if kv.1=k then(kv.1,y) else kv) (vs.map fun kv=>if kv.1=k then(kv.1,u) else kv):=by
 unfold KV at r ⊢
 induction r with
 | nil=>exact .nil
 | @cons p q ps qs h t ih=>
  rw[List.map_cons,List.map_cons];refine .cons ?_ ih;obtain⟨h1,h2⟩:=h;by_cases e:p.1=k
  ·rw[if_pos e,if_pos (h1.symm.trans e)];exact⟨h1,ry⟩
  ·rw[if_neg e,if_neg (fun z=>e (h1.trans z))];exact⟨h1,h2⟩
theorem KV.put{kvs:List (κ×V)}{vs:List (κ×Value)}(r:KV kvs vs)(k:κ){y:V}{u:Value}(ry:RelV y u):KV (Vs kvs k y) (stored vs k u):=by
 unfold Vs stored;rw[r.any k];by_cases e:(vs.any fun kv=>decide (kv.1=k))=true
 ·rw[if_pos e,if_pos e];exact r.repl k ry
 ·rw[if_neg e,if_neg e];exact Paired.snoc r ⟨rfl,ry⟩
theorem KV.length{kvs:List (κ×V)}{vs:List (κ×Value)}(r:KV kvs vs):kvs.length=vs.length:=Paired.length r
end
theorem Zhm{P:Program}{w:World}{k:U8}{u:Value}(r:RelV (kV k) u):(J4 P w).is k u=true:=by
 cases k with
 | inl i=>obtain⟨t,e⟩:=(show ∃ t,u=Value.int i t from r);subst e;exact Qw P w i t
 | inr x=>obtain⟨t,e⟩:=(show ∃ t,u=Value.str x t from r);subst e;exact Kh P w x t
theorem Ms{P:Program}{w:World}:∀{ks:List U8} {us:List Value},Vals (ks.map kV) us→ItemsAre (J4 P w) ks us
 | [],_,r=>by rw[List.map_nil] at r;cases r;exact .nil
 | k :: ks,_,r=>by
  rw[List.map_cons] at r;cases r with
  | cons h t=>exact .cons (Zhm h) (Ms t)
abbrev KT(H:Hp):List (List U8×V)→List (List U8×Addr×Value)→Prop:=Paired fun p q=>p.1=q.1∧H q.2.1=some (.tup (p.1.map kV))∧RelV p.2 q.2.2
theorem KT.val{H:Hp}{kvs:List (List U8×V)}{xs:List (List U8×Addr×Value)}(r:KT H kvs xs)(k:List U8):RelO (Ep kvs k) ((atKey xs k).map (·.2)):=by
 induction r with
 | nil=>exact True.intro
 | @cons p q ps qs h t ih=>
  obtain⟨h1,_,h2⟩:=h;by_cases e:p.1=k
  ·have e':q.1=k:=h1.symm.trans e
   have b:atKey (q :: qs) k=some q.2:=by simp [atKey,List.find?_cons,e']
   rw[Bf e,b];exact h2
  ·have e':¬ q.1=k:=fun z=>e (h1.trans z)
   have b:atKey (q :: qs) k=atKey qs k:=by simp [atKey,List.find?_cons,e']
   rw[Es e,b];exact ih
theorem KT.repl{H:Hp}{kvs:List (List U8×V)}{xs:List (List U8×Addr×Value)}(r:KT H kvs xs)(k:List U8){y:V}{u:Value}(ry:RelV y u) :
  KT H (kvs.map fun kv=>if kv.1=k then(kv.1,y) else kv) (xs.map (putAt k u)):=by
 induction r with
 | nil=>exact .nil
 | @cons p q ps qs h t ih=>
  rw[List.map_cons,List.map_cons];refine .cons ?_ ih;obtain⟨h1,h2,h3⟩:=h;unfold putAt;by_cases e:p.1=k
  ·rw[if_pos e,if_pos (h1.symm.trans e)];exact⟨h1,h2,ry⟩
  ·rw[if_neg e,if_neg (fun z=>e (h1.trans z))];exact⟨h1,h2,h3⟩
theorem KT.put{H:Hp}{kvs:List (List U8×V)}{xs:List (List U8×Addr×Value)}(r:KT H kvs xs)(k:List U8){b:Addr}{y:V}{u:Value}(hb:H b=some (.tup (k.map kV)))(ry:RelV y u) :
  KT H (Vs kvs k y) (storedH xs k b u):=by
 have e:(kvs.any fun kv=>decide (kv.1=k))=(atKey xs k).isSome:=by
  rw[Ga,(r.val k).isSome_eq,Option.isSome_map]
 unfold Vs storedH;rw[e];by_cases q:(atKey xs k).isSome=true
 ·rw[if_pos q,if_pos q];exact r.repl k ry
 ·rw[if_neg q,if_neg q];exact Paired.snoc r ⟨rfl,hb,ry⟩
theorem KT.keeps{H H':Hp}{kvs:List (List U8×V)}{xs:List (List U8×Addr×Value)}(r:KT H kvs xs)(ht:∀ b ys,H b=some (.tup ys)→H' b=some (.tup ys)):KT H' kvs xs:=
 Paired.mapP r fun _ _ z=>⟨z.1,ht _ _ z.2.1,z.2.2⟩
section
variable{P:Program}{w:World}{H:Hp}{h:Heap}{a:Addr}
theorem Zlq{u:HO}(ok:HOk P w H h)(e:Rd H a u):ObjOk P w H h a u:=e.ok ok
theorem Zh5{kvs:List (U8×V)}(ok:HOk P w H h)(e:Rd H a (.dK kvs)):kvs.length≤sizeLine∧(a == sysModules)=false∧∃ vs,KV kvs vs∧h.DictOf (J4 P w) a vs:=
 show ObjOk P w H h a (.dK kvs) from Zlq ok e
theorem Zh6{kvs:List (U8×V)}(ok:HOk P w H h)(e:H a=some (.dK kvs)):kvs.length≤sizeLine∧(a == sysModules)=false∧∃ vs,KV kvs vs∧h.DictOf (J4 P w) a vs:=Zh5 ok (.inl e)
theorem Th{ks:List U8}(ok:HOk P w H h)(e:H a=some (.tup (ks.map kV))):(tupleKind (J4 P w)).is h ks a:=by
 obtain⟨_,its,r,o,h1,h2,n,h3⟩:=(show ObjOk P w H h a (.tup (ks.map kV)) from ok a _ e);exact⟨o,its.toArray,n,h1,h2,h3,by simpa using Ms r⟩
theorem Zh4{kvs:List (List U8×V)}(ok:HOk P w H h)(e:Rd H a (.dT kvs)):kvs.length≤sizeLine∧(a == sysModules)=false ∧
  ∃ xs,KT H kvs xs∧h.DictOfH (tupleKind (J4 P w)) a xs:=by
 obtain⟨z,y,xs,r,o,es,ep,h1,h2,h3,h4,h5⟩:=(show ObjOk P w H h a (.dT kvs) from Zlq ok e);refine⟨z,y,xs,r,o,es,ep,h1,h2,h3,h4,fun x hx=>?_,h5⟩;have all:∀{l:List (List U8×V)} {m:List (List U8×Addr×Value)},KT H l m→∀ x∈m,(tupleKind (J4 P w)).is h x.1 x.2.1:=by
  intro l m q
  induction q with
  | nil=>intro x hx;exact nomatch hx
  | @cons p q ps qs hq t ih=>
   intro x hx;rcases List.mem_cons.mp hx with e | hx
   ·subst e
    exact Th ok (by rw[← hq.1];exact hq.2.1)
   ·exact ih x hx
 exact all r x hx
theorem Zpo{kvs:List (List U8×V)}(ok:HOk P w H h)(e:H a=some (.dT kvs)):kvs.length≤sizeLine∧(a == sysModules)=false ∧
  ∃ xs,KT H kvs xs∧h.DictOfH (tupleKind (J4 P w)) a xs:=Zh4 ok (.inl e)
end
def DGet(H:Hp)(a:Addr)(y:V)(r:Option V):Prop:=
 (∃ kvs k,Rd H a (.dK kvs)∧y=kV k∧r=Ep kvs k)∨∃ kvs k b,Rd H a (.dT kvs)∧y = .ref b∧H b=some (.tup (k.map kV))∧r=Ep kvs k
def DPut(H:Hp)(a:Addr)(y v:V)(H':Hp):Prop:=
 (∃ kvs k,H a=some (.dK kvs)∧y=kV k∧kvs.length < sizeLine∧H'=upd H a (.dK (Vs kvs k v))) ∨
 ∃ kvs k b,H a=some (.dT kvs)∧y = .ref b∧H b=some (.tup (k.map kV))∧kvs.length < sizeLine∧H'=upd H a (.dT (Vs kvs k v))
theorem DGet.k{H:Hp}{a:Addr}{kvs:List (U8×V)}{k:U8}(e:H a=some (.dK kvs)):DGet H a (kV k) (Ep kvs k):=.inl ⟨kvs,k,.inl e,rfl,rfl⟩
theorem DPut.k{H:Hp}{a:Addr}{kvs:List (U8×V)}{k:U8}{v:V}(e:H a=some (.dK kvs))(hl:kvs.length < sizeLine):DPut H a (kV k) v (upd H a (.dK (Vs kvs k v))):=.inl ⟨kvs,k,e,rfl,hl,rfl⟩
section
variable{X:Cx}{pins:List (Addr×Obj)}{σ:St}{H:Hp}{s:Shared}{a:Addr}{y v:V}{u r:Value}{o:Option V}{A:Around}{E:Value→Shared→Prop}
theorem Inv.big(I:Inv X pins σ H s):sysModules < s.heap.objs.size:=by
 have h:mainGlobals < s.heap.objs.size:=(I.mod.glob.keeps I.bk).lt;exact Nat.lt_trans (by decide) h
theorem Zee{Q:Value→Shared→Prop}(hu:A.units+1 < cLine)(I:Inv X pins σ H s)(g:DGet H a y (some v))(ry:RelV y u)(h:∀ w' s',Inv X pins σ H s'→RelV v w'→Q w' s') :
  wpAny (model X.prog X.w) A (getItem (.ref a) u) Q E s:=by
 rcases g with⟨kvs,k,e,ey,l⟩ | ⟨kvs,k,b,e,ey,eb,l⟩
 ·subst ey
  obtain⟨z,hd,vs,rel,dd⟩:=Zh5 I.hok e;obtain⟨w',hw,rw'⟩:=RelO.some_of (v:=v) (o:=valueAt vs k) (by rw[l];exact rel.val k);exact wpAny_getItem_of (Zhm ry) dd.mapOf hw (h w' _ (I.tok _) rw')
 ·subst ey
  cases (show u=Value.ref b from ry);obtain⟨z,hd,xs,rel,dd⟩:=Zh4 I.hok e;obtain⟨w',hw,rw'⟩:=RelO.some_of (v:=v) (o:=(atKey xs k).map (·.2)) (by rw[l];exact rel.val k);obtain⟨p,hp,hp2⟩:=Option.map_eq_some_iff.mp hw;refine wpAny_getItem_heap (tupleKind_room_in1 hu) (Th I.hok eb) dd hp ?_;rw[hp2];exact h w' _ (I.tok _) rw'
theorem Oz{h':Heap}{t':Nat}{ob:HO}(I:Inv X pins σ H s)(mu:Mut (H a))(hs:Heap.SameBut a s.heap h')(he:∃ q,h'.get? a=some q)(new:ObjOk X.prog X.w (upd H a ob) h' a ob) :
  Inv X pins σ (upd H a ob) { s with heap:=h',toks:=t' }:=
 I.write (x:=a) (e:=a) mu (.inl rfl) (fun b q hb z=>(hs.2 b hb).trans z) he new
theorem Zn1{P:Program}{w:World}{H':Hp}{h':Heap}{kvs:List (U8×V)}{vs:List (U8×Value)}(z:kvs.length≤sizeLine)(hd:(a == sysModules)=false)(rel:KV kvs vs)(dd:h'.DictOf (J4 P w) a vs) :
  ObjOk P w H' h' a (.dK kvs):=⟨z,hd,vs,rel,dd⟩
theorem Zed{H':Hp}{Q:Unit→Shared→Prop}(hu:A.units+1 < cLine)(I:Inv X pins σ H s)(g:DPut H a y v H')(ry:RelV y u)(rv:RelV v r)(h:∀ s',Inv X pins σ H' s'→Q () s') :
  wpAny (model X.prog X.w) A (setItem (.ref a) u r) Q E s:=by
 rcases g with⟨kvs,k,e,ey,l,eH⟩ | ⟨kvs,k,b,e,ey,eb,l,eH⟩
 ·subst ey eH
  obtain⟨z,hd,vs,rel,dd⟩:=Zh6 I.hok e;have hz:vs.length≤sizeLine:=by rw[← rel.length];exact z
  have hl:(Vs kvs k v).length≤sizeLine:=by have:=Rj kvs k v;omega
  refine wpAny_setItem_pairs (hsz:=hz) (Zhm ry) dd fun h' dd' hs=>h _ ?_;have he:∃ q,h'.get? a=some q:=let ⟨q,_,_,hq,_⟩:=dd';⟨q,hq⟩;exact Oz I (by rw[e];exact True.intro) hs he (Zn1 hl hd (rel.put k rv) dd')
 ·subst ey eH
  cases (show u=Value.ref b from ry);obtain⟨z,hd,xs,rel,dd⟩:=Zpo I.hok e;have hz:xs.length≤sizeLine:=by rw[← Paired.length rel];exact z
  have hl:(Vs kvs k v).length≤sizeLine:=by have:=Rj kvs k v;omega
  refine wpAny_setItem_heap (hsz:=hz) (tupleKind_room_in1 hu) (Th I.hok eb) dd fun h' dd' hs=>h _ ?_;obtain⟨q,es,ep,hq,h2,h3,h4,_,h5⟩:=dd';refine Oz I (by rw[e];exact True.intro) hs ⟨q,hq⟩ ⟨hl,hd,_,(rel.put k eb rv).keeps fun c ys ec=>?_,q,es,ep,hq,h2,h3,h4,h5⟩;rw[Jf (Mm ec e (fun z=>nomatch z))];exact ec
end
section
variable{X:Cx}{pins:List (Addr×Obj)}{σ:St}{H:Hp}{s:Shared}{a:Addr}{kvs:List (U8×V)}{k:U8}{u:Value}{A:Around}{E:Value→Shared→Prop}
end
def Zob(i:Expr):Prop:=∀ ov iv,subscripted i false ov iv=operate [ov,iv] (getItem ov iv)
theorem Zbm{prog:Program}{w:World}{A:Around}{E:Value→Shared→Prop}{s:Shared}{env:Env}{value slice:Expr}{pos:Pos}{T id:String}{Q:Value→Shared→Prop}
  (hl:typeLookup (.type T) "__getitem__" = pure (some (.builtin id))) (hs:Zob slice)
  (h:wpAny (model prog w) A (eval value env) (fun o s₁=>wpAny (model prog w) A (eval slice env) (fun i s₂=>s₂.TypeIs o T∧wpAny (model prog w) A (getItem o i) Q E s₂) E s₁) E s) :
  wpAny (model prog w) A (eval (.Subscript value slice pos) env) Q E s:=by
 refine Subscript_ (wpAny_mono h (fun o s₁ h₁=>wpAny_mono h₁ (fun i s₂ h₂=>?_) fun _ _ x=>x) fun _ _ x=>x);obtain⟨hT,h₂⟩:=h₂;unfold subscriptTail;refine Zc ?_;rw[getitemInPython_of_ne hT.not_modules];refine Zc (wpAny_specialOf hT hl ?_);have fin:wpAny (model prog w) A (subscripted slice false o i) (fun r s₃=>wpAny (model prog w) A (letTemporaryGo value o r >>= fun _=>pure r) Q E s₃) E s₂:=by
  rw[hs o i];exact wpAny_operating (wpAny_mono h₂ (fun r s₃ h₃=>Zc (wpAny_letTemporaryGo (wpAny_pure h₃))) fun _ _ x=>x)
 first
  | exact wpAny_pure (Zc fin)
  | exact Zc (wpAny_pure (Zc fin))
  | exact Zc fin
theorem Kv{X:Cx}{pins:List (Addr×Obj)}{σ:St}{H:Hp}{s:Shared}{a:Addr}{y:V}{o:Option V}(I:Inv X pins σ H s)(g:DGet H a y o):s.TypeIs (.ref a) "dict":=by
 rcases g with⟨kvs,k,e,_,_⟩ | ⟨kvs,k,b,e,_,_,_⟩
 ·obtain⟨_,_,vs,_,dd⟩:=Zh5 I.hok e
  exact dd.typeIs
 ·obtain⟨_,_,xs,_,dd⟩:=Zh4 I.hok e
  exact dd.typeIs
def Zom(td ty:TE):TE:=fun σ H Q=>td σ H fun x H1=>ty σ H1 fun y H2=>∃ a v,x = .ref a∧DGet H2 a y (some v)∧Q v H2
def Zox(td ty tv:TE):TS:=fun D σ H=>tv σ H fun v H1=>td σ H1 fun x H2=>ty σ H2 fun y H3=>∃ a H4,x = .ref a∧DPut H3 a y v H4∧D.nx σ H4
section
variable{X:Cx}{o i e value:Expr}{pos pos' tpos:Pos}{td ty tv:TE}
theorem Ry(hu:X.A.units+1 < cLine)(ho:PE X o td)(hi:PE X i ty)(hs:Zob i):PE X (.Subscript o i pos) (Zom td ty):=by
 intro pins s σ H Q I h;refine Zbm PySem.F.slot_dict_getitem.lookup hs (Y1 (ho pins s σ H _ I h) fun u s1 ⟨x,H1,I1,rx,q1⟩=>Y1 (hi pins s1 σ H1 _ I1 q1) fun iv s2 ⟨y,H2,I2,ry,a,v,ex,g,q2⟩=>?_);subst ex;obtain rfl:u=Value.ref a:=rx;exact⟨Kv I2 g,Zee hu I2 g ry fun w' s3 I3 rw'=>⟨v,H2,I3,rw',q2⟩⟩
theorem Zjn(hu:X.A.units+1 < cLine)(ho:PE X o td)(hi:PE X i ty)(hv:PE X value tv)(hs:swapsWith value (some (.Subscript o i pos')) pos.line X.env=pure false) :
  PS X (.Assign [.Subscript o i pos'] value pos) (Zox td ty tv):=by
 intro pins s σ H D I h;refine wpAny_Assign_Subscript (Y1 (hv pins s σ H _ I h) fun r s1 ⟨v,H1,I1,rv,q1⟩=>Y1 (ho pins s1 σ H1 _ I1 q1) fun u s2 ⟨x,H2,I2,rx,q2⟩=>Y1 (hi pins s2 σ H2 _ I2 q2) fun iv s3 ⟨y,H3,I3,ry,a,H4,ex,g,q3⟩=>?_) hs;subst ex;obtain rfl:u=Value.ref a:=rx;exact Zed hu I3 g ry rv fun s4 I4=>⟨σ,H4,I4,q3⟩
end
theorem Zh7{P:Program}{w:World}{H:Hp}(h:Heap)(hb:sysModules < h.objs.size):ObjOk P w H (h.push { cls:=.type "dict",data:=.dict #[] }) h.objs.size (.dK []):=
 ⟨Nat.zero_le _,beq_eq_false_iff_ne.mpr (Ne.symm (Nat.ne_of_lt hb)),[],.nil,Heap.DictOf.new h⟩
def Zmd:TE:=fun _ H Q=>∀ p,H p=none→Q (.ref p) (upd H p (.dK []))
section
variable{X:Cx}{pos:Pos}
theorem Zgi:PE X (.Dict [] [] pos) Zmd:=fun pins s σ H Q I h=>
 wpAny_Dict_empty ⟨.ref s.heap.objs.size,_,I.laid (a:=s.heap.objs.size) (o:=.dK []) (t':=s.toks) (fun _ _ q=>Zi _ q) (Nat.le_refl _) (Zh7 s.heap I.big),rfl,h _ (I.hok.fresh (Nat.le_refl _))⟩
end
section
variable{X:Cx}{pins:List (Addr×Obj)}{σ:St}{H:Hp}{s:Shared}{a:Addr}{y d:V}{u r:Value}{o:Option V}{A:Around}{E:Value→Shared→Prop}
end
section
variable{X:Cx}{o e f:Expr}{apos cpos:Pos}{td ty tx:TE}
end
section
variable{X:Cx}{pins:List (Addr×Obj)}{σ:St}{H:Hp}{s:Shared}{a:Addr}{kvs:List (U8×V)}{A:Around}{E:Value→Shared→Prop}
end
section
variable{X:Cx}{pins:List (Addr×Obj)}{σ:St}{H:Hp}{s:Shared}{a:Addr}{y:V}{u:Value}{A:Around}{E:Value→Shared→Prop}
end
theorem K8{prog:Program}{w:World}{A:Around}{I:Addr}{fp wr:List Addr}{n:Nat}{P:Nat→Value→Prop}{St:Nat→Heap→Prop}(W:Walks prog w A I fp wr n P St)(T:List (Addr×Obj))(hT:∀ q∈T,q.1∉wr) :
  Walks prog w A I (fp++T.map (·.1)) wr n P (fun i h=>St i h∧∀ q∈T,h.get? q.1=some q.2) where
 sub:=fun b hb=>List.mem_append_left _ (W.sub b hb)
 frame:=fun i h h' st hk=>⟨W.frame i h h' st.1 fun b hb o e=>hk b (List.mem_append_left _ hb) o e,fun q hq=>hk q.1 (List.mem_append_right _ (List.mem_map_of_mem hq)) _ (st.2 q hq)⟩
 item:=fun i st Q E hi hs hQ=>W.item i st Q E hi hs.1 fun v h' tk hP hst' hk=>hQ v h' tk hP ⟨hst',fun q hq=>hk q.1 q.2 (hT q hq) (hs.2 q hq)⟩ hk
 done:=fun st Q E hs hQ=>W.done st Q E hs.1 hQ
 self:=fun i st Q E hs hQ=>W.self i st Q E hs.1 hQ
section
variable{prog:Program}{w:World}{A:Around}{R:Result→Shared→Prop}{I:Addr}{fp wr:List Addr}{n:Nat}{P:Nat→Value→Prop}{St:Nat→Heap→Prop}
def Zl1(prog:Program)(w:World)(A:Around)(P:Nat→Value→Prop)(St:Nat→Heap→Prop)(bt:Nat→Nat→Bool):Prop:=
 ∀ i j vi vj m (st:Shared) (Q:Value→Shared→Prop) (E:Value→Shared→Prop),P i vi→P j vj→St m st.heap→Q (.bool (bt i j)) st→wpAny (model prog w) A (richCompare .Gt vi vj) Q E st
theorem Zdw(W:Walks prog w A.in1 I fp wr n P St)(bt:Nat→Nat→Bool)(hc:Zl1 prog w A.in1 P St bt)(C:Addr)(hC:C∉fp):∀(k j:Nat) (st:Shared) (vb:Value) (c:Nat),n - (j+1)=k→j+1≤n→St (j+1) st.heap→P (argBest bt j) vb →
  st.heap.get? C=some { cls:=.type "list",dict:=none,data:=.seq #[vb,vb] c,slots:=#[] } →
  (∀ v h' tk,P (argBest bt (n - 1)) v→(∀ b o,b∉wr→b≠C→st.heap.get? b=some o→h'.get? b=some o)→R (.ok (.ret v)) { st with heap:=h',toks:=tk }) →
  codeAny (model prog w) A (.builtin "max.loop" ⟨[.ref I,.none,.ref C],[]⟩) R st:=by
 have nC:C∉wr:=fun z=>hC (W.sub _ z);have nm:(toString "max" ++ toString ".loop":String) = "max.loop":=by decide
 intro k
 induction k with
 | zero=>
  intro j st vb c e1 e2 h1 h2 h3 h4;have e3:j+1=n:=by omega
  apply codeAny_builtin F.entry_max_loop;rw[Around.under_plainId F.plain_max_loop];show wpAny _ A.in1 (seqItems? (.ref C) >>= _) _ _ st;refine Zc (wpAny_seqItems h3 rfl ?_);show wpAny _ A.in1 (tryCatch (pyNext (.ref I)) _ >>= _) _ _ st;refine Zc (wpAny_tryCatch (W.done st _ _ (e3 ▸ h1) fun g tk kp=>?_));have h5:=kp C _ nC h3;show wpAny _ A.in1 (updateSeq C (fun _=>#[]) >>= _) _ _ _;refine Zc (wpAny_updateSeq h5 rfl (Zc (wpAny_letGo (wpAny_pure ?_))));exact h4 vb _ tk (by rw[← e3];exact h2) fun b o n1 n2 e=>(Heap.get?_update_other _ _ (Ne.symm n2)).trans (kp b o n1 e)
 | succ k ih=>
  intro j st vb c e1 e2 h1 h2 h3 h4;have e3:j+1 < n:=by omega
  apply codeAny_builtin F.entry_max_loop;rw[Around.under_plainId F.plain_max_loop];show wpAny _ A.in1 (seqItems? (.ref C) >>= _) _ _ st;refine Zc (wpAny_seqItems h3 rfl ?_);show wpAny _ A.in1 (tryCatch (pyNext (.ref I)) _ >>= _) _ _ st;refine Zc (wpAny_tryCatch (W.item (j+1) st _ _ e3 h1 fun v g tk hP hg kp=>?_));have h5:=kp C _ nC h3;show wpAny _ A.in1 (tryCatch (holding [v,v] (richCompare .Gt v vb >>= _)) _ >>= _) _ _ _;refine Zc (wpAny_tryCatch (wpAny_holding (Zc (hc (j+1) (argBest bt j) v vb (j+1+1) _ _ _ hP h2 hg (Zc (wpAny_holding (wpAny_truthy_bool (Zc (wpAny_letGo (wpAny_pure ?_))))))))));cases hb:bt (j+1) (argBest bt j) with
  | true=>
   simp only[if_true];refine Zc (wpAny_updateSeq h5 rfl (Zc (wpAny_letGo ?_)));rw[nm];refine wpAny_pure ⟨plainId_quiet F.plain_max_loop _,ih (j+1) _ v _ (by omega) e3 (W.frame _ _ _ hg fun b hbf o e=>(Heap.get?_update_other _ _ (fun z:C=b=>hC (by rw[z];exact hbf))).trans e) (by simp only[argBest,hb,if_true];exact hP) (Heap.get?_update_self _ h5 rfl) fun v2 g2 tk2 hP2 kp2=>?_⟩;exact h4 v2 g2 tk2 hP2 fun b o n1 n2 e=>kp2 b o n1 n2 ((Heap.get?_update_other _ _ (Ne.symm n2)).trans (kp b o n1 e))
  | false=>
   simp only[Bool.false_eq_true,if_false];refine Zc (wpAny_letGo ?_);rw[nm];refine wpAny_pure ⟨plainId_quiet F.plain_max_loop _,ih (j+1) _ vb c (by omega) e3 hg (by simp only[argBest,hb,Bool.false_eq_true,if_false];exact h2) h5 fun v2 g2 tk2 hP2 kp2=>?_⟩;exact h4 v2 g2 tk2 hP2 fun b o n1 n2 e=>kp2 b o n1 n2 (kp b o n1 e)
end
theorem Za7{prog:Program}{w:World}{A:Around}{E:Value→Shared→Prop}{s:Shared}{x:Value}{Q:Value→Shared→Prop}
  (h:wpAny (model prog w) A.in1 (pyIter x) (fun it s₂=>∃ I fp wr n P St bt,it = .ref I∧Walks prog w A.in1 I fp wr n P St∧St 0 s₂.heap∧(∀ b∈fp,b < s₂.heap.objs.size)∧0 < n∧Zl1 prog w A.in1 P St bt ∧
   ∀ v h' tk,P (argBest bt (n - 1)) v→(∀ b o,b∉wr→s₂.heap.get? b=some o→h'.get? b=some o)→Q v { s₂ with heap:=h',toks:=tk }) E s):wpAny (model prog w) A (call (.builtin "max") [x]) Q E s:=by
 have nm:(toString "max" ++ toString ".loop":String) = "max.loop":=by decide
 refine call_function_tree F.kind_max F.plain_max F.entry_max (F.args_max1 _) ?_;show wpAny _ A.in1 (Builtin.Builtins.bindParams "max" ["key","default"] 0 ⟨[],[]⟩ >>= _) _ _ s;refine Zc (wpAny_of_eq (show Builtin.Builtins.bindParams "max" ["key","default"] 0 ⟨[],[]⟩=pure [none,none] from rfl) (Zc (wpAny_pure (Zc (wpAny_mono h (fun it s₂ h₂=>?_) fun _ _ e=>e)))));obtain⟨I,fp,wr,n,P,St,bt,rfl,W,st0,hfp,hn,hc,hQ⟩:=h₂;refine Zc (wpAny_newObj_type ?_);have nf:s₂.heap.objs.size∉fp:=fun hm=>Nat.lt_irrefl _ (hfp _ hm);have nw:s₂.heap.objs.size∉wr:=fun z=>nf (W.sub _ z);rw[nm];refine wpAny_pure ⟨plainId_quiet F.plain_max_loop _,?_⟩;apply codeAny_builtin F.entry_max_loop;rw[Around.under_plainId F.plain_max_loop];have hC:(s₂.heap.push { cls:=.type "list",data:=.seq ([]:List Value).toArray }).get? s₂.heap.objs.size=some { cls:=.type "list",data:=.seq ([]:List Value).toArray }:=Heap.get?_push_size _ rfl;show wpAny _ A.in1 (seqItems? (.ref s₂.heap.objs.size) >>= _) _ _ _;refine Zc (wpAny_seqItems hC rfl ?_);show wpAny _ A.in1 (tryCatch (pyNext (.ref I)) _ >>= _) _ _ _;refine Zc (wpAny_tryCatch (W.item 0 _ _ _ hn (W.frame _ _ _ st0 fun b _ o e=>Zi _ e) fun v g tk hP hg kp=>?_));have h5:=kp _ _ nw hC;show wpAny _ A.in1 (updateSeq s₂.heap.objs.size (fun _=>#[v,v]) >>= _) _ _ _;refine Zc (wpAny_updateSeq h5 rfl ?_);rw[nm];refine wpAny_pure ⟨plainId_quiet F.plain_max_loop _,Zdw W bt hc _ nf _ 0 _ v _ rfl hn (W.frame _ _ _ hg fun b hbf o e=>(Heap.get?_update_other _ _ (fun z:s₂.heap.objs.size=b=>nf (by rw[z];exact hbf))).trans e) hP (Heap.get?_update_self _ h5 rfl) fun v2 g2 tk2 hP2 kp2=>?_⟩;exact hQ v2 g2 tk2 hP2 fun b o n1 e=>kp2 b o n1 (Nat.ne_of_lt (Z0 e)) ((Heap.get?_update_other _ _ (Nat.ne_of_gt (Z0 e))).trans (kp b o n1 (Zi _ e)))
def Zn8(K:W.Frag)(H:Hp)(a:Addr)(ps:List Addr)(nss:List (List Int)):Prop:=SqL K H a (ps.map V.ref)∧ps.length=nss.length∧∀(j:Nat) (p:Addr),ps[j]? = some p→∃ ns,nss[j]? = some ns∧H p=some (.tup (ns.map V.int))
theorem Vg:∀{ps:List Addr} {us:List Value},Vals (ps.map V.ref) us→us=ps.map Value.ref
 | [],[],_=>rfl
 | p :: ps,u :: us,h=>by
  cases h with
  | cons r rr=>
   have e:u=Value.ref p:=r;rw[e,Vg rr];rfl
def V0(vs:List V):List Int:=vs.map fun v=>match v with | .int i=>i | _=>0
theorem Na(ns:List Int):V0 (ns.map V.int)=ns:=by
 unfold V0;rw[Z1];have:((fun v:V=>match v with | .int i=>i | _=>0) ∘ V.int)=id:=by funext c;rfl
 rw[this,List.map_id]
def Zli(H:Hp)(k:List Int)(y:Value):Bool:=match y with | .ref q=>(match H q with | some (.tup vs)=>decide (V0 vs=k) | _=>false) | _=>false
theorem Gb{H:Hp}{k ns:List Int}{q:Addr}(h:H q=some (.tup (ns.map V.int))):Zli H k (.ref q)=decide (ns=k):=by
 show(match H q with | some (.tup vs)=>decide (V0 vs=k) | _=>false)=_;rw[h];show decide (V0 (ns.map V.int)=k)=_;rw[Na]
theorem M0:∀(ns ms:List Int),B7 (ns.map V.int) (ms.map V.int)=decide (ns=ms)
 | [],[]=>rfl
 | [],_ :: _=>rfl
 | _ :: _,[]=>rfl
 | n :: ns,m :: ms=>by
  show(Ma (V.int n) (V.int m) && B7 (ns.map V.int) (ms.map V.int))=_;rw[M0 ns ms];have:Ma (V.int n) (V.int m)=(n == m):=rfl;rw[this];by_cases e1:n=m<;>by_cases e2:ns=ms<;>simp [e1,e2]
theorem Nm(ns:List Int):(ns.map V.int).all U3=true:=by
 rw[List.all_map];exact List.all_eq_true.mpr fun _ _=>rfl
section
variable{X:Cx}{pins:List (Addr×Obj)}{σ:St}{H:Hp}{s:Shared}
theorem Zeb(I:Inv X pins σ H s){A:Around}{p q:Addr}{ns ms:List Int}(hp:H p=some (.tup (ns.map V.int)))(hq:H q=some (.tup (ms.map V.int)))(hu:A.units < cLine):SeqAt.EqAt A s (.ref p) (.ref q) (decide (ns=ms)):=by
 by_cases e:p=q
 ·subst e
  rw[hp] at hq;have:ns=ms:=by
   have z:ns.map V.int=ms.map V.int:=by
    have:=Zr hq;injection this
   have:=congrArg V0 z;rw[Na,Na] at this;exact this
  rw[Ze this];exact SeqAt.EqAt.same _
 ·obtain⟨its,r1,p1,_⟩:=I.tuple (SqT.of hp)
  obtain⟨its2,r2,p2,_⟩:=I.tuple (SqT.of hq);have z:=SeqAt.RcAt.tuples (A:=A) (s:=s) (e:=fun j=>Ma ((ns.map V.int).getD j .non) ((ms.map V.int).getD j .non)) p1 p2 hu (fun j h1 h2=>Oy (U5 r1 (Nm ns) h1).1 (U5 r2 (Nm ms) h2).1 (U5 r1 (Nm ns) h1).2 (U5 r2 (Nm ms) h2).2);have y:=B6 (ns.map V.int) (ms.map V.int);rw[r1.length,r2.length] at y;rw[List.size_toArray,List.size_toArray,y,M0] at z;exact SeqAt.EqAt.of_refs e z
theorem Zdv(hu:X.A.units+64 < cLine):MtR X "list.index" (fun x xs H Q=>∃(a p:Addr) (ps:List Addr) (nss:List (List Int)) (k:List Int) (j:Nat),x = .ref a∧xs=[.ref p]∧Zn8 X.K H a ps nss∧ps.length≤1000∧H p=some (.tup (k.map V.int))∧nss[j]? = some k∧(∀ m < j,nss[m]?≠some k)∧Q (.int (j:Nat)) H):=by
 intro pins s σ H x xs v us Q I rx rv h;obtain⟨a,p,ps,nss,k,j,rfl,rfl,⟨hS,hl,hT⟩,h1000,hp,hj,hno,q⟩:=h;cases rx;obtain⟨u,rfl,ru⟩:=U2 rv;have eu:u=Value.ref p:=ru;subst eu;obtain⟨its,vi,pl,hz⟩:=I.list hS;have ei:=Vg vi;subst ei;obtain⟨⟨cls,dd,data,sl⟩,ho,hc,n,hd⟩:=Ue pl;simp only at hc hd;subst hc hd;have jl:j < ps.length:=by rw[hl];exact(Zh.mp hj).1
 have at_:∀ m (hm:m < (ps.map Value.ref).toArray.size),∃(q:Addr) (ns:List Int),(ps.map Value.ref).toArray[m] = .ref q∧nss[m]? = some ns∧H q=some (.tup (ns.map V.int)):=fun m hm=>by
  have hm':m < ps.length:=by simpa using hm
  obtain⟨ns,e1,e2⟩:=hT m ps[m] (Za hm');exact⟨ps[m],ns,by simp,e1,e2⟩
 refine call_meets PySem.F.slot_list_index ⟨_,ho,rfl⟩ PySem.F.entry_list_index (PySem.F.args_list_index_2 _ _) (PySem.SeqAt.list_indexAt a (ps.map Value.ref).toArray n dd sl (.ref p) (Zli H k) j (by simpa using jl) (by omega) ?_ ?_) ⟨ho,fun y hy=>?_,⟨.int (j:Nat),H,I.tok _,⟨_,rfl⟩,q⟩⟩
 ·obtain⟨q,ns,e1,e2,e3⟩:=at_ j (by simpa using jl)
  rw[e1,Gb e3];rw[hj] at e2;exact Ze (Zr e2).symm
 ·intro m hm hmj
  obtain⟨q,ns,e1,e2,e3⟩:=at_ m hm;rw[e1,Gb e3];exact Zd fun z=>hno m hmj (by rw[e2,z])
 ·have hy':y∈ps.map Value.ref:=by simpa using hy
  obtain⟨q,hq,rfl⟩:=Zw.mp hy';obtain⟨m,hm,em⟩:=Z2.mp hq;obtain⟨ns,e1,e2⟩:=hT m q (by rw[Za hm,em]);rw[Gb e2];exact Zeb I e2 hp (by show X.A.units+1 < cLine;omega)
theorem M4(hc:X.calm=true)(hu:X.A.units+64 < cLine):Ui X (.builtin "max") (fun xs H Q=>∃(a:Addr) (ps:List Addr) (nss:List (List Int)) (g:Nat→Int),xs=[.ref a]∧Zn8 X.K H a ps nss∧0 < ps.length∧(∀(i j:Nat) (ns ms:List Int),nss[i]? = some ns→nss[j]? = some ms→HT.lexLt ms ns=decide (g i > g j)) ∧
  ∀(j:Nat) (p:Addr),ps[j]? = some p→(∀ i,i < ps.length→g i≤g j)→Q (.ref p) H):=by
 intro pins s σ H xs us Q I r h;obtain⟨a,ps,nss,g,rfl,⟨hS,hl,hT⟩,hn,hg,q⟩:=h;obtain⟨u,rfl,ru⟩:=U2 r;cases ru;obtain⟨its,vi,pl,hz⟩:=I.list hS;have ei:=Vg vi;subst ei;have hL:s.heap.IsList a (ps.map Value.ref).toArray:=Ue pl;have ha:a < s.heap.objs.size:=by obtain⟨_,e,_⟩:=hL;exact Z0 e
 have hh:X.A.in1.handled=none:=I.ok.hd hc;have tob:∀ p∈ps,∃ o,s.heap.get? p=some o:=fun p hp=>by
  obtain⟨m,hm,em⟩:=Z2.mp hp;obtain⟨ns,_,e2⟩:=hT m p (by rw[Za hm,em]);exact ObjOk.obj (I.hok p _ e2)
 let T:List (Addr×Obj):=ps.filterMap fun p=>(s.heap.get? p).map fun o=>(p,o)
 have mT:∀ q∈T,s.heap.get? q.1=some q.2:=fun q hq=>by
  obtain⟨p,hp,e⟩:=List.mem_filterMap.mp hq;obtain⟨o,e1,e2⟩:=Option.map_eq_some_iff.mp e;subst e2;exact e1
 have inT:∀ p o,p∈ps→s.heap.get? p=some o→(p,o)∈T:=fun p o hp e=>List.mem_filterMap.mpr ⟨p,hp,by rw[e];rfl⟩;refine Za7 (wpAny_pyIter_list hL ?_);refine⟨s.heap.objs.size,_,[s.heap.objs.size],(ps.map Value.ref).toArray.size,_,_,(fun i j=>decide (g i > g j)),rfl,K8 (Walks.list hh s.heap.objs.size a (Nat.ne_of_lt ha) (ps.map Value.ref).toArray) T (fun q hq z=>?_),⟨⟨⟨_,Heap.get?_push_size _ rfl,rfl,rfl⟩,hL.push _⟩,fun q hq=>Zi _ (mT q hq)⟩,?_,by simpa using hn,?_,fun v h' tk hP hk=>?_⟩
 ·have:=Z0 (mT q hq)
  rw[Z7.mp z] at this;exact Nat.lt_irrefl _ this
 ·intro b hb
  show b < (s.heap.push _).objs.size;rw[Heap.size_push];rcases Jh.mp hb with z | z
  ·rcases List.mem_cons.mp z with z | z
   ·rw[z];exact Nat.lt_succ_self _
   ·rw[Z7.mp z];exact Nat.lt_succ_of_lt ha
  ·obtain⟨q,hq,rfl⟩:=Zw.mp z
   exact Nat.lt_succ_of_lt (Z0 (mT q hq))
 ·intro i j vi vj m st Q2 E2 hPi hPj hst hQ2
  have get:∀(i:Nat) (vi:Value),(ps.map Value.ref).toArray[i]? = some vi→∃(p:Addr) (ns:List Int),vi = .ref p∧p∈ps∧nss[i]? = some ns∧H p=some (.tup (ns.map V.int)):=fun i vi e=>by
   have e':(ps.map Value.ref)[i]? = some vi:=by simpa using e
   rw[Zl] at e';obtain⟨p,e1,e2⟩:=Option.map_eq_some_iff.mp e';obtain⟨ns,e3,e4⟩:=hT i p e1;exact⟨p,ns,e2.symm,Zg e1,e3,e4⟩
  obtain⟨p1,ns,rfl,m1,n1,t1⟩:=get i vi hPi;obtain⟨p2,ms,rfl,m2,n2,t2⟩:=get j vj hPj;obtain⟨its1,r1,q1,_⟩:=I.tuple (SqT.of t1);obtain⟨its2,r2,q2,_⟩:=I.tuple (SqT.of t2);have i1:IntsAre its1.toArray.toList ns:=Yq r1;have i2:IntsAre its2.toArray.toList ms:=Yq r2;obtain⟨⟨cls,dd,data,sl⟩,ho,hcl,n,hd⟩:=id q1;obtain⟨⟨cls2,dd2,data2,sl2⟩,ho2,hcl2,nn2,hd2⟩:=id q2;simp only at hcl hd hcl2 hd2;subst hcl hd hcl2 hd2;have o1:=hst.2 _ (inT p1 _ m1 ho);have o2:=hst.2 _ (inT p2 _ m2 ho2);have e:HT.lexLt ms ns=decide (g i > g j):=hg i j ns ms n1 n2;exact richCompare_meets_room (op:=.Gt) ⟨_,o1,rfl⟩ ⟨_,o2,rfl⟩ PySem.F.slot_tuple_gt PySem.F.entry_tuple_gt (PySem.F.args_tuple_gt_2 _ _) (Np p1 p2 its1.toArray its2.toArray n nn2 dd dd2 sl sl2 ns ms i1 i2)
   ⟨o1,o2,(fun z=>nomatch z),by rw[e];exact hQ2⟩ (by show X.A.units+1 < cLine;omega)
 ·obtain⟨b1,b2⟩:=argBest_gt g ((ps.map Value.ref).toArray.size - 1)
  have sz:(ps.map Value.ref).toArray.size=ps.length:=by simp
  have hP':(ps.map Value.ref)[argBest (fun i j=>decide (g i > g j)) ((ps.map Value.ref).toArray.size - 1)]? = some v:=by simpa using hP
  rw[Zl] at hP';obtain⟨p,e1,e2⟩:=Option.map_eq_some_iff.mp hP';subst e2;refine⟨.ref p,H,I.kept (t':=tk) fun b o eb=>hk b o ?_ (Zi _ eb),rfl,q _ p e1 fun i hi=>b2 i (by omega)⟩;intro hm;have:b=s.heap.objs.size:=by simpa using hm
  subst this;exact absurd (Z0 eb) (Nat.lt_irrefl _)
end
theorem Qh:∀(names:List (Str×NameKind)) (n:Nat) (acc:List (Str×Addr)),cellsFrom n names acc=cellsFrom n names []++acc
 | [],_,acc=>rfl
 | (x,k) :: r,n,acc=>by
  unfold cellsFrom;by_cases hk:(k == NameKind.cell)=true
  ·rw[if_pos hk,if_pos hk,Qh r (n+1) ((x,n) :: acc),Qh r (n+1) [(x,n)],Ut];rfl
  ·rw[if_neg hk,if_neg hk];exact Qh r n acc
theorem V4{x:Str}{c:Addr}:∀(names:List (Str×NameKind)) (n:Nat) (acc:List (Str×Addr)),(x,c)∈cellsFrom n names acc→(x,NameKind.cell)∈names∨(x,c)∈acc
 | [],_,acc,h=>.inr h
 | (y,k) :: r,n,acc,h=>by
  unfold cellsFrom at h;by_cases hk:(k == NameKind.cell)=true
  ·rw[if_pos hk] at h
   rcases V4 r (n+1) _ h with q | q
   ·exact .inl (Zu _ q)
   ·rcases List.mem_cons.mp q with e | e
    ·cases e
     have e2:k = .cell:=by simpa using hk
     rw[e2];exact .inl Zt
    ·exact .inr e
  ·rw[if_neg hk] at h
   rcases V4 r n _ h with q | q
   ·exact .inl (Zu _ q)
   ·exact .inr q
theorem Ej{α:Type}{x:Str}:∀(l m:List (Str×α)),(l++m).lookup x=(l.lookup x).orElse fun _=>m.lookup x
 | [],m=>rfl
 | (y,a) :: r,m=>by
  rw[List.cons_append,List.lookup_cons,List.lookup_cons];cases x == y with
  | true=>rfl
  | false=>exact Ej r m
theorem E9{env:Env}{x:Str}:∀(names:List (Str×NameKind)),
  (names.map fun(n,k)=>if(k == NameKind.free && env.scope.kind == .function && env.kindOf n == some .cell) then(n,NameKind.cell) else(n,k)).lookup x=(names.lookup x).map fun k=>if(k == NameKind.free && env.scope.kind == .function && env.kindOf x == some .cell) then NameKind.cell else k
 | []=>rfl
 | (y,k) :: r=>by
  have ih:=E9 (env:=env) (x:=x) r;show List.lookup x ((if(k == NameKind.free && env.scope.kind == .function && env.kindOf y == some .cell)=true then(y,NameKind.cell) else(y,k)) :: _)=_;by_cases hk:(k == NameKind.free && env.scope.kind == .function && env.kindOf y == some .cell)=true
  ·rw[if_pos hk,List.lookup_cons,List.lookup_cons]
   by_cases e:x=y
   ·subst e
    rw[beq_self_eq_true];show some _=some _;exact(congrArg some (if_pos hk)).symm
   ·have e':(x == y)=false:=by simpa using e
    rw[e'];exact ih
  ·rw[if_neg hk,List.lookup_cons,List.lookup_cons]
   by_cases e:x=y
   ·subst e
    rw[beq_self_eq_true];show some _=some _;exact(congrArg some (if_neg hk)).symm
   ·have e':(x == y)=false:=by simpa using e
    rw[e'];exact ih
theorem Ra{env:Env}{names:List (Str×NameKind)}{x:Str}{k:NameKind}
  (h:(names.map fun(n,k)=>if(k == NameKind.free && env.scope.kind == .function && env.kindOf n == some .cell) then(n,NameKind.cell) else(n,k)).lookup x=some k) (hk:k = .cell∨k = .free) :
  names.lookup x=some .cell∨names.lookup x=some .free:=by
 rw[E9] at h;cases q:names.lookup x with
 | none=>rw[q] at h;cases h
 | some j=>
  rw[q] at h;by_cases hj:(j == NameKind.free && env.scope.kind == .function && env.kindOf x == some .cell)=true
  ·have e:j = .free:=by
    rw[Bool.and_eq_true,Bool.and_eq_true] at hj
    simpa using hj.1.1
   rw[e];exact .inr rfl
  ·have h':some (if(j == NameKind.free && env.scope.kind == .function && env.kindOf x == some .cell)=true then NameKind.cell else j)=some k:=h
   rw[if_neg hj] at h';cases h';rcases hk with e | e
   ·rw[e];exact .inl rfl
   ·rw[e];exact .inr rfl
def clC(env:Env)(scope:Scope)(C:Addr):List (Str×Addr):=cellsFrom (C+1) scope.names (Qo env scope.names [])
def Zm1(scope:Scope)(x:Str):Bool:=match scope.names.lookup x with | some .cell=>true | _=>false
def Mc(X:Cx)(N:List Str)(scope:Scope)(C:Addr)(s₀:Shared)(H₀:Hp)(ex:List Addr)(xe:Value→Shared→Prop):Cx:=
 { X with N:=N,s₀:=s₀,H₀:=H₀,env:=compEnvC scope (clC X.env scope C) C X.env,outer:=X.stack,stack:=X.stack,ex:=ex,fn:=Zm1 scope,pn:=[],xe:=xe }
structure BlkC(X:Cx)(N:List Str)(caps:List (Option Nat))(scope:Scope):Prop where
 kind:scope.kind = .function
 own:∀ y∈scope.names,y.2 = .cell→scope.names.lookup y.1=some .cell
 names:∀ y∈scope.names,y.2 = .local→scope.names.lookup y.1=some .local
 free:∀ y∈scope.names,y.2 = .free→X.env.kindOf y.1=some .cell∨X.env.kindOf y.1=some .free
 len:caps.length=N.length
 cap:∀(i j:Nat) (x:Str),caps[i]? = some (some j)→N[i]? = some x→X.N[j]? = some x∧Vis X.env.scope x∧scope.names.lookup x=some .free
theorem Qg{env:Env}{scope:Scope}{C:Addr}{x:Str}{c:Addr}(h:(clC env scope C).lookup x=some c) :
  (cellsFrom (C+1) scope.names []).lookup x=some c∨((cellsFrom (C+1) scope.names []).lookup x=none∧(Qo env scope.names []).lookup x=some c):=by
 unfold clC at h;rw[Qh,Ej] at h;cases q:(cellsFrom (C+1) scope.names []).lookup x with
 | some d=>rw[q] at h;exact .inl h
 | none=>rw[q] at h;exact .inr ⟨rfl,h⟩
theorem Zco{env:Env}{scope:Scope}{C:Addr}{x:Str}{c:Addr}(h:(cellsFrom (C+1) scope.names []).lookup x=some c):(clC env scope C).lookup x=some c:=by
 unfold clC;rw[Qh,Ej,h];rfl
theorem Ky{env:Env}{scope:Scope}{C:Addr}{x:Str}{c:Addr}(h0:(cellsFrom (C+1) scope.names []).lookup x=none)(h:(Qo env scope.names []).lookup x=some c):(clC env scope C).lookup x=some c:=by
 unfold clC;rw[Qh,Ej,h0];exact h
theorem Ax{X:Cx}{N:List Str}{caps:List (Option Nat)}{scope:Scope}{C:Addr}{x:Str}(B:BlkC X N caps scope)(h:scope.names.lookup x=some .free):(cellsFrom (C+1) scope.names []).lookup x=none:=by
 cases q:(cellsFrom (C+1) scope.names []).lookup x with
 | none=>rfl
 | some c=>
  rcases V4 _ _ _ (PySem.mem_of_lookup q) with e | e
  ·have:=B.own _ e rfl
   rw[h] at this;cases this
  ·cases e
structure CellsAt(scope:Scope)(C:Addr)(h:Heap):Prop where
 cell:∀ x c,(cellsFrom (C+1) scope.names []).lookup x=some c→h.IsCell c none
theorem Zaf(scope:Scope)(h:Heap):CellsOk (pushCells (h.push { cls:=.type "dict",data:=.dict #[] }) scope.names) (h.objs.size+1) (cellsFrom (h.objs.size+1) scope.names []):=by
 have ok:=cellsFrom_ok scope.names (h.push { cls:=.type "dict",data:=.dict #[] }) (h.objs.size+1) [] ⟨fun _ _ hm=>(nomatch hm),List.Pairwise.nil⟩ (by rw[Heap.size_push];exact Nat.le_refl _);rw[Heap.size_push] at ok;exact ok
theorem Zds{M:Model}{A:Around}{E:Value→Shared→Prop}{s:Shared}{scope:Scope}{globals:Addr}{cl:List (Str×Addr)}{qual:Str}{env:Env}{Q:Env→Shared→Prop}
  (hQ:∀ h₁:Heap,h₁.Ns s.heap.objs.size (fun _=>none)→(∀ b o,s.heap.get? b=some o→h₁.get? b=some o)→CellsAt scope s.heap.objs.size h₁ →
   Q { scope,locals:=s.heap.objs.size,globals,cells:=cellsFrom (s.heap.objs.size+1) scope.names cl,qual,func:=none,code:=env.code,frame:=env.frame,builtins:=env.builtins } { s with heap:=h₁ }) :
  wpAny M A (newFunctionEnv scope globals cl [] qual none .none (some env)) Q E s:=by
 simp only[newFunctionEnv,Option.isSome_some,if_true];refine Zc (wpAny_alloc ?_);refine Zc (wpAny_layCells _ (fun name kind cells=>by cases hkc:kind == NameKind.cell<;>simp [hkc]) _ _ _ _ ?_);rw[show({ s with heap:=s.heap.push { cls:=.type "dict",data:=.dict #[] } }:Shared).heap.objs.size=s.heap.objs.size+1 from Heap.size_push ..];refine Zc ?_;rw[List.forIn_nil];have ok:=Zaf scope s.heap;refine wpAny_pure (wpAny_pure (hQ _ ((Heap.Ns.new s.heap (.type "dict")).keeps (pushCells_keeps _ _)) (fun b o e=>pushCells_keeps _ _ b o (Zi _ e)) ⟨fun x c h=>(ok.empty x c (PySem.mem_of_lookup h)).1⟩))
section
variable{X:Cx}{pins:List (Addr×Obj)}{σ:St}{H:Hp}{s:Shared}
theorem Qc{scope:Scope}{h:Heap}{x:Str}{c:Addr}(e:(cellsFrom (h.objs.size+1) scope.names []).lookup x=some c):h.objs.size < c:=((Zaf scope h).empty x c (PySem.mem_of_lookup e)).2
theorem Zlb{N:List Str}{caps:List (Option Nat)}{scope:Scope}{fp:List Addr}{xe:Value→Shared→Prop}(B:BlkC X N caps scope)(I:Inv X pins σ H s)(hlt:∀ b∈fp,b < s.heap.objs.size)(hf:∀ b∈fp,Bc X pins H b) :
  (Mc X N scope s.heap.objs.size s H fp xe).Ok where
 mod:=I.ok.mod
 kind:=B.kind
 glob:=I.ok.glob
 blt:=I.ok.blt
 above:=Nat.le_refl _
 inj:=fun x y c hx hy=>by
  have sub:=fun(z:Str) (c:Addr) (h:(Qo X.env scope.names []).lookup z=some c)=>Xl (env:=X.env) (acc:=[]) (fun _ _ e=>by simp at e) z c h;rcases Qg hx with h1 | ⟨_,h1⟩<;>rcases Qg hy with h2 | ⟨_,h2⟩
  ·exact name_of_addr (Zaf scope s.heap).apart (PySem.mem_of_lookup h1) (PySem.mem_of_lookup h2)
  ·obtain⟨v,q⟩:=I.cell y c (sub y c h2)
   exact absurd (Qc h1) (Nat.not_lt.mpr (Ya q.lt))
  ·obtain⟨v,q⟩:=I.cell x c (sub x c h1)
   exact absurd (Qc h2) (Nat.not_lt.mpr (Ya q.lt))
  ·exact I.ok.inj x y c (sub x c h1) (sub y c h2)
 has:=fun x hk=>by
  have hm:scope.names.lookup x=some .cell∨scope.names.lookup x=some .free:=hk.elim (fun e=>Ra e (.inl rfl)) fun e=>Ra e (.inr rfl);rcases hm with e | e
  ·obtain⟨c,hc⟩:=Va (n:=s.heap.objs.size+1) e
   exact⟨c,Zco hc⟩
  ·have hm:=Ei e
   obtain⟨c,hc⟩:=I.ok.has x (B.free _ hm rfl);obtain⟨d,hd⟩:=Option.isSome_iff_exists.mp (Tu (env:=X.env) (acc:=[]) hm hc);exact⟨d,Ky (Ax B e) hd⟩
 cab:=fun x c h hc=>by
  have e:scope.names.lookup x=some .cell:=by
   have h':Zm1 scope x=true:=h;unfold Zm1 at h';split at h'
   ·assumption
   ·cases h'
  obtain⟨d,hd⟩:=Va (n:=s.heap.objs.size+1) e;have:=Zco (env:=X.env) hd;have hc':(clC X.env scope s.heap.objs.size).lookup x=some c:=hc;rw[this] at hc';cases hc';exact Ya (Qc hd)
 hd:=I.ok.hd
 frames:=I.ok.frames
 stk:=.inl rfl
 exf:=fun b hb=>⟨Nat.ne_of_lt (hlt b hb),fun x c hc=>by
  rcases Qg hc with h1 | ⟨_,h1⟩
  ·exact Nat.ne_of_gt (Nat.lt_trans (hlt b hb) (Qc h1))
  ·exact(hf b hb).2.2.2.2.1 x c (Xl (fun _ _ e=>by simp at e) x c h1)⟩
 bs:=I.bs
 bsz:=Nat.le_trans I.ok.bsz I.sz
 noex:=fun b o e hb=>by
  rcases(hf b hb).2.2.2.1 with h | h
  ·exact I.ok.noex b o e h
  ·exact absurd (Z0 (I.ok.bs b o e).1) (Nat.not_lt.mpr h)
 exfs:=fun b hb hs=>by
  rcases List.mem_cons.mp (I.stkSub b hs) with e | e
  ·exact(hf b hb).2.1 e
  ·exact(hf b hb).2.2.1 e
 funs:=I.stack
 frf:=I.stkFree
theorem Zii{N:List Str}{caps:List (Option Nat)}{scope:Scope}{fp:List Addr}{xe:Value→Shared→Prop}{h₁:Heap}{t':Nat}(B:BlkC X N caps scope)(I:Inv X pins σ H s)(hlt:∀ b∈fp,b < s.heap.objs.size)(hf:∀ b∈fp,Bc X pins H b)
  {m:Str→Option Value} (hn:h₁.Ns s.heap.objs.size m) (hk:∀ b o,s.heap.get? b=some o→h₁.get? b=some o) (hcs:CellsAt scope s.heap.objs.size h₁) :
  Inv (Mc X N scope s.heap.objs.size s H fp xe) [] (Nf caps σ) H { s with heap:=h₁,toks:=t' } where
 ok:=Zlb B I hlt hf
 os:=rfl
 bare:=I.bare
 base:=Un.kept hk
 loc:=by
  refine⟨m,hn,fun i x v hN hσ hv=>?_⟩;unfold Nf at hσ;rw[Zl] at hσ;cases hc:caps[i]? with
  | none=>rw[hc] at hσ;cases hσ
  | some oj=>
   rw[hc] at hσ;cases oj with
   | none=>cases hσ
   | some j=>
    have hσ':(σ[j]?).join=some v:=Zr hσ;have hj:σ[j]? = some (some v):=by
     cases q:σ[j]? with
     | none=>rw[q] at hσ';cases hσ'
     | some o=>rw[q] at hσ';have:o=some v:=hσ';rw[this]
    obtain⟨hNj,hVis,hfr⟩:=B.cap i j x hc hN;obtain⟨m',_,hl⟩:=I.loc;obtain⟨u,ru,lk⟩:=hl j x v hNj hj hVis;have hm:=Ei hfr;have hkX:=B.free _ hm rfl;refine⟨u,ru,.inr ⟨Ef hfr,?_⟩⟩;rcases lk with⟨e,_⟩ | ⟨_,c,hc1,hc2⟩
    ·rcases hkX with e' | e'
     ·rw[e] at e';cases e'
     ·rw[e] at e';cases e'
    ·obtain⟨c',hc'⟩:=Option.isSome_iff_exists.mp (Tu (env:=X.env) (acc:=[]) hm hc1)
     have h2:=Xl (fun _ _ e=>by simp at e) x c' hc';rw[hc1] at h2;cases h2;exact⟨c,Ky (Ax B hfr) hc',hc2.keeps hk⟩
 cell:=fun x c hc=>by
  rcases Qg hc with h1 | ⟨_,h1⟩
  ·exact⟨none,hcs.cell x c h1⟩
  ·obtain⟨v,hv⟩:=I.cell x c (Xl (fun _ _ e=>by simp at e) x c h1)
   exact⟨v,hv.keeps hk⟩
 free:=I.hok.fresh (Nat.le_refl _)
 freeC:=fun x c hc=>by
  rcases Qg hc with h1 | ⟨_,h1⟩
  ·exact I.hok.fresh (Ya (Qc h1))
  ·exact I.freeC x c (Xl (fun _ _ e=>by simp at e) x c h1)
 pin:=fun p hp=>by cases hp
 hok:=I.hok.kept hk
 len:=by unfold Nf;rw[Zf];exact B.len
def Zpp(X:Cx)(N:List Str)(scope:Scope)(use:Option (Value→Sem Unit))(Q:Value→Shared→Prop)(acc:Value)(C:Addr):Value→Shared→Prop:=
 notedBy (model X.prog X.w) X.A (compEnvC scope (clC X.env scope C) C X.env) fun e s'=>compPost (model X.prog X.w) X.A X.xe use Q acc C (.error e) s'
theorem Za4{tg elt iter:Expr}{ifs:List Expr}{scope:Scope}{pos pos':Pos}{N:List Str}{caps:List (Option Nat)}{wi:TI}{g:TG}{tt:TT}{te:TE}{use:Option (Value→Sem Unit)}{Q:Value→Shared→Prop}{Qv:V→Hp→Prop}
  {xe:Value→Shared→Prop} (hc:X.calm=true) (B:BlkC X N caps scope) (hi:PI X tg iter wi)
  (hg:∀ C s₀ H₀ ex,PG (Mc X N scope C s₀ H₀ ex xe) tg g) (ht:∀ C s₀ H₀ ex,PF (Mc X N scope C s₀ H₀ ex xe) ifs tt) (he:∀ C s₀ H₀ ex,PE (Mc X N scope C s₀ H₀ ex xe) elt te)
  (I:Inv X pins σ H s) (h:wi σ H fun J H1=>Xr g tt te (Nf caps σ) J H1 Qv)
  (fin:∀ l C H' s5,Inv X pins σ H' s5→(∃ m,s5.heap.Ns C m)→Loose X pins H' C→Qv (.ref l) H'→compPost (model X.prog X.w) X.A X.xe use Q (.ref l) C (.ok .next) s5)
  (hx:∀ acc C e s',xe e s'→Zpp X N scope use Q acc C e s')
  (hs:∀ x,foldedSetIterable iter X.env x=pure x:=by intro _;rfl) :
  wpAny (model X.prog X.w) X.A (comprehension (.ListComp elt [⟨tg,iter,ifs,0⟩] scope pos) scope X.env pos' (newList []) false (eval iter X.env) use) Q X.xe s:=by
 have hclos:closureFor scope X.env=(pure (Qo X.env scope.names []):Sem _):=Zie fun y hy hf=>I.ok.has y.1 (B.free y hy hf);refine wpAny_comprehension_free rfl hs hclos B.kind B.names (Y1 (hi pins s σ H _ I h) fun v s1 h1=>Y1 h1 fun itv s2 h2=>?_);obtain⟨it,fp,tn,J,H2,e,I2,T,st2,f2,hJ⟩:=h2;subst e;have I3:Inv X pins σ (upd H2 s2.heap.objs.size (.lst [])) { s2 with heap:=s2.heap.push { cls:=.type "list",data:=.seq ([]:List Value).toArray },toks:=s2.toks }:=I2.lnew (ys:=[]) (its:=[]) .nil (Nat.zero_le _);have hfr2:H2 s2.heap.objs.size=none:=I2.fresh;obtain⟨W,⟨m0,w0⟩,turn⟩:=hJ s2.heap.objs.size hfr2;refine wpAny_newList ?_;generalize hs3:({ s2 with heap:=s2.heap.push { cls:=.type "list",data:=.seq ([]:List Value).toArray } }:Shared)=s3;have es3:({ s2 with heap:=s2.heap.push { cls:=.type "list",data:=.seq ([]:List Value).toArray },toks:=s2.toks }:Shared)=s3:=hs3;rw[es3] at I3;have keep3:∀ b o,s2.heap.get? b=some o→s3.heap.get? b=some o:=fun b o e=>by rw[← hs3];exact Zi _ e
 have fpo:∀ b∈fp,∃ o,s2.heap.get? b=some o∧∀ v,o.data ≠ .cell v:=T.obj _ _ st2;have hlt2:∀ b∈fp,b < s2.heap.objs.size:=fun b hb=>by obtain⟨o,e,_⟩:=fpo b hb;exact Z0 e
 have hlt3:∀ b∈fp,b < s3.heap.objs.size:=fun b hb=>by obtain⟨o,e,_⟩:=fpo b hb;exact Z0 (keep3 b o e)
 have hf3:∀ b∈fp,Bc X pins (upd H2 s2.heap.objs.size (.lst [])) b:=fun b hb=>⟨by rw[Jf (Nat.ne_of_lt (hlt2 b hb))];exact(f2 b hb).1,(f2 b hb).2⟩;refine Zds fun h₁ hns₁ keep4 hcs₁=>?_;have I4:∀ t',Inv (Mc X N scope s3.heap.objs.size s3 (upd H2 s2.heap.objs.size (.lst [])) fp xe) [] (Nf caps σ) (upd H2 s2.heap.objs.size (.lst [])) { s3 with heap:=h₁,toks:=t' }:=fun t'=>Zii B I3 hlt3 hf3 hns₁ keep4 hcs₁;generalize hY:Mc X N scope s3.heap.objs.size s3 (upd H2 s2.heap.objs.size (.lst [])) fp xe=Y at I4;have Yp:Y.prog=X.prog:=by rw[← hY];rfl
 have Yw:Y.w=X.w:=by rw[← hY];rfl
 have YK:Y.K=X.K:=by rw[← hY];rfl
 have Yc:Y.calm=true:=by rw[← hY];exact hc
 have YA:Y.A=X.A:=by rw[← hY];rfl
 have Yx:Y.xe=xe:=by rw[← hY];rfl
 have Ye:Y.env=compEnvC scope (clC X.env scope s3.heap.objs.size) s3.heap.objs.size X.env:=by rw[← hY];rfl
 have hgY:PG Y tg g:=by rw[← hY];exact hg _ _ _ _
 have htY:PF Y ifs tt:=by rw[← hY];exact ht _ _ _ _
 have heY:PE Y elt te:=by rw[← hY];exact he _ _ _ _
 have stat:∀{H':Hp},(∀ b∈fp,H' b=none)→∀ b∈fp,Bc Y [] H' b:=fun {H'} hn b hb=>by
  refine⟨hn b hb,?_,?_,.inl (by rw[← hY];exact hb),?_,?_⟩
  ·rw[Ye];exact Nat.ne_of_lt (hlt3 b hb)
  ·intro hm
   rw[← hY] at hm;rcases List.mem_cons.mp (I3.stkSub b hm) with e | e
   ·exact(f2 b hb).2.1 e
   ·exact(f2 b hb).2.2.1 e
  ·intro x c hcl
   rw[Ye] at hcl;rcases Qg hcl with h1 | ⟨_,h1⟩
   ·exact Nat.ne_of_gt (Nat.lt_trans (hlt3 b hb) (Qc h1))
   ·exact(f2 b hb).2.2.2.2.1 x c (Xl (fun _ _ e=>by simp at e) x c h1)
  ·intro p hp
   rw[← hY] at hp;cases hp
 have st4:tn 0 h₁:=T.keep _ _ _ st2 fun b hb o e=>keep4 b o (keep3 b o e);have toX:∀ e s',xe e s'→notedBy (model X.prog X.w) X.A (compEnvC scope (clC X.env scope s3.heap.objs.size) s3.heap.objs.size X.env) (fun e s'=>compPost (model X.prog X.w) X.A X.xe use Q (.ref s2.heap.objs.size) s3.heap.objs.size (.error e) s') e s':=fun e s' hxe=>hx _ _ e s' hxe;have loop:∀ tk,codeAny (model X.prog X.w) X.A (.compLoop (.ListComp elt [⟨tg,iter,ifs,0⟩] scope pos) 0 (.ref it) (.ref s2.heap.objs.size) (compEnvC scope (clC X.env scope s3.heap.objs.size) s3.heap.objs.size X.env))
   (compPost (model X.prog X.w) X.A X.xe use Q (.ref s2.heap.objs.size) s3.heap.objs.size) { s3 with heap:=h₁,toks:=tk }:=by
  intro tk;refine M2 (fun n s'=>∃ i σ' H',Inv Y [] σ' H' s'∧tn i s'.heap∧(∀ b∈fp,H' b=none)∧W i n σ' H') ?_ m0 ⟨0,_,_,I4 tk,st4,fun b hb=>(hf3 b hb).1,w0⟩;rintro n s5 ⟨i,σ5,H5,I5,st5,fr5,w5⟩;have moX:∀{α:Type} {t:Sem α} {Q1:α→Shared→Prop} {s:Shared},wpAny (model X.prog X.w) X.A t Q1 xe s→wpAny (model X.prog X.w) X.A t Q1
    (notedBy (model X.prog X.w) X.A (compEnvC scope (clC X.env scope s3.heap.objs.size) s3.heap.objs.size X.env) (fun e s'=>compPost (model X.prog X.w) X.A X.xe use Q (.ref s2.heap.objs.size) s3.heap.objs.size (.error e) s')) s:=
   fun h=>wpAny_mono h (fun _ _ q=>q) toX
  rcases turn i n σ5 H5 w5 with⟨stop,q⟩ | ⟨go,step⟩
  ·have z:=T.done Y Yp Yw YK Yc i [] s5 σ5 H5 xe I5 (stat fr5) st5 stop
   rw[YA] at z;refine moX (Y1 z fun r s6 ⟨hr,I6⟩=>?_);subst hr;obtain⟨m,hm,_⟩:=I6.loc;have hCn:H5 s3.heap.objs.size=none:=by have z:=I6.free;rw[Ye] at z;exact z
   have un:Un (Mw X.stack) fp (upd H2 s2.heap.objs.size (.lst [])) H5 s3.heap s6.heap:=by have z:=I6.base;rw[← hY] at z;exact z
   have hos:s6.os=s3.os:=by have z:=I6.os;rw[← hY] at z;exact z
   have hok:HOk X.prog X.w H5 s6.heap:=by have z:=I6.hok;rw[Yp,Yw] at z;exact z
   have IX:Inv X pins σ H5 s6:=I3.call' (ch:=fp) hos un hok I6.bare fun b hb=>⟨(f2 b hb).2.2.2.1,(f2 b hb).2.1,(f2 b hb).2.2.2.2.1,(f2 b hb).2.2.2.2.2⟩;refine fin _ _ H5 s6 IX ⟨m,by rw[Ye] at hm;exact hm⟩ ⟨hCn,?_,I3.sz,?_,?_⟩ q
   ·exact Nat.ne_of_gt I3.lt
   ·intro x c hcl
    obtain⟨v,hv⟩:=I3.cell x c hcl;exact Nat.ne_of_lt hv.lt
   ·intro p hp
    exact Nat.ne_of_lt (Z0 (I3.pin p hp).1)
  ·have z:=T.item Y Yp Yw YK Yc i [] s5 σ5 H5 xe I5 (stat fr5) st5 go
   rw[YA] at z;refine moX (Y1 z fun r s6 ⟨u,hr,h6⟩=>?_);subst hr;refine moX (Y1 h6 fun _ s7 ⟨x,H7,I7,r7,y7,st7,fr7⟩=>?_);have I7':=I7.pinned (stat fr7) (T.obj _ _ st7);have hN:=step x H7 y7;have again:∀{σ':St} {H':Hp} {s':Shared} {m':Nat},m' < n→Inv Y ([]++Vt fp s7.heap) σ' H' s'→W (i+1) m' σ' H'→∃ m,m < n∧∃ i σ'' H'',Inv Y [] σ'' H'' s'∧tn i s'.heap∧(∀ b∈fp,H'' b=none)∧W i m σ'' H'':=fun {σ' H' s' m'} hm I' w'=>by
    refine⟨m',hm,i+1,σ',H',I'.unpinned,T.keep _ _ _ st7 fun b hb o e=>(I'.pin (b,o) (List.mem_append_right _ (List.mem_append_right _ (Xu hb e)))).1,fun b hb=>?_,w'⟩;obtain⟨o,e,d⟩:=T.obj _ _ st7 b hb;exact(I'.pin (b,o) (List.mem_append_right _ (List.mem_append_right _ (Xu hb e)))).2.1
   have z:=hgY _ s7 σ5 H7 x u _ I7' r7 hN;rw[Yp,Yw,YA,Ye,Yx] at z;refine moX (Y1 z fun _ s8 ⟨σ8,H8,I8,q8⟩=>?_);have z:=htY _ s8 σ8 H8 _ I8 q8;rw[Yp,Yw,YA,Ye,Yx] at z;refine moX (Y1 z fun ok s9 ⟨H9,I9,q9⟩=>?_);cases ok with
   | false=>
    obtain⟨m',hm,w'⟩:=q9;exact again hm I9 w'
   | true=>
    have q9':te σ8 H9 fun v H4=>∃ xs,H4 s2.heap.objs.size=some (.lst xs)∧xs.length < sizeLine∧∃ m',m' < n∧W (i+1) m' σ8 (upd H4 s2.heap.objs.size (.lst (xs++[v]))):=q9;have z:=heY _ s9 σ8 H9 _ I9 q9';rw[Yp,Yw,YA,Ye,Yx] at z;refine moX (Y1 z fun u10 s10 ⟨v10,H10,I10,r10,q10⟩=>?_);obtain⟨xs,hl,hz,m',hm,w'⟩:=q10;have ap:=Qe (X:=Y) _ s10 σ8 H10 (.ref s2.heap.objs.size) [v10] (.ref s2.heap.objs.size) [u10] (fun _ H'=>W (i+1) m' σ8 H') I10 rfl (.cons r10 .nil) ⟨_,xs,v10,rfl,rfl,hl,hz,w'⟩;rw[Yp,Yw,YA,Yx] at ap;refine moX (Y1 ap fun _ s11 ⟨_,H11,I11,_,w11⟩=>again hm I11 w11)
 exact codeAny_compStart_list (loop _) (T.self _ 0 _ _ _ st4 (loop _))
theorem Al{i:Nat}{x:Str}{pos':Pos}{tg elt iter:Expr}{ifs:List Expr}{scope:Scope}{pos spos:Pos}(N:List Str)(caps:List (Option Nat)){wi:TI}{g:TG}{tt:TT}{te:TE}(hc:X.calm=true)
  (hN:X.N.Nodup) (hi':X.N[i]? = some x) (hx:Loc X.env.scope x) (B:BlkC X N caps scope) (hi:PI X tg iter wi)
  (hg:∀ C s₀ H₀ ex,PG (Mc X N scope C s₀ H₀ ex fun _ _=>False) tg g) (ht:∀ C s₀ H₀ ex,PF (Mc X N scope C s₀ H₀ ex fun _ _=>False) ifs tt) (he:∀ C s₀ H₀ ex,PE (Mc X N scope C s₀ H₀ ex fun _ _=>False) elt te)
  (hsw:swapsWith (.ListComp elt [⟨tg,iter,ifs,0⟩] scope pos) (some (.Name x pos')) spos.line X.env=pure true:=by rfl)
  (hs:∀ x,foldedSetIterable iter X.env x=pure x:=by intro _;rfl) (hf:X.fn x=true∨X.env.scope.names.lookup x=some .local:=by first | exact .inl rfl | exact .inr rfl | assumption) :
  PS X (.Assign [.Name x pos'] (.ListComp elt [⟨tg,iter,ifs,0⟩] scope pos) spos) (Zc0 (Ze6 caps wi g tt te) (Uv i)):=by
 intro pins s σ H D I h;rw[exec_Assign_Name_used _ _ _ _ hsw];refine Zc (wpAny_standAt (Zc ?_));show wpAny _ X.A (do let _ ← comprehension (.ListComp elt [⟨tg,iter,ifs,0⟩] scope pos) scope X.env _ (newList []) false (eval iter X.env) (some (assign (.Name x pos') X.env))) _ _ s;refine Zc (wpAny_mono (Za4 (use:=some (assign (.Name x pos') X.env)) (Q:=fun _ s'=>SP X pins D .next s') (Qv:=fun v H1=>Uv i v σ H1 D.nx) hc B hi hg ht he I h (fun l C H' s5 I5 ⟨m,hm⟩ lo q=>?_) (fun _ _ _ _ f=>f.elim) hs)
  (fun _ s' hq=>wpAny_pure (wpAny_pure hq)) fun _ _ e=>e)
 show wpAny _ X.A (assign (.Name x pos') X.env (.ref l)) _ _ _;refine wpAny_assign_Name (Vk I5 hN hi' hx (v:=.ref l) rfl (fun s6 I6 ⟨a,sb,ha⟩=>?_) hf);have hCa:C≠a:=by
  rcases ha with e | e
  ·rw[e];exact lo.loc
  ·exact Ne.symm (lo.cel x a e)
 refine⟨m,hm.sameBut sb hCa,fun h' hs'=>⟨_,H',?_,q⟩⟩;exact I6.turned (it:=C) (t':=s6.toks) (fun b o hb e=>hs'.extBut b o hb e) lo.un lo.loc (.inr lo.ab) lo.cel lo.pin
end
def Zjg(scope sc:Scope):Scope:=
 { scope with names:=scope.names.map fun(n,k)=>if(k == .free && sc.kind == .function && sc.names.lookup n == some .cell) then(n,.cell) else(n,k) }
def Zih(sc:Scope)(N0 N:List Str)(caps:List (Option Nat))(scope:Scope):Bool:=
 decide (scope.kind = .function) && scope.names.all (fun y=>decide (y.2 ≠ .cell) || decide (scope.names.lookup y.1=some .cell)) && scope.names.all (fun y=>decide (y.2 ≠ .local) || decide (scope.names.lookup y.1=some .local)) &&
 scope.names.all (fun y=>decide (y.2 ≠ .free) || (decide (sc.names.lookup y.1=some .cell) || decide (sc.names.lookup y.1=some .free))) && decide (caps.length=N.length) &&
 (List.range caps.length).all fun i=>match caps[i]?,N[i]? with
  | some (some j),some x=>decide (N0[j]? = some x) && (decide (sc.names.lookup x=some .cell) || decide (sc.names.lookup x=some .free)) && decide (scope.names.lookup x=some .free)
  | _,_=>true
theorem BlkC.by{X:Cx}{N:List Str}{caps:List (Option Nat)}{scope:Scope}{sc:Scope}{N0:List Str}(hsc:X.env.scope=sc)(hN:X.N=N0)(h:Zih sc N0 N caps scope=true):BlkC X N caps scope:=by
 unfold Zih at h;simp only[Bool.and_eq_true,decide_eq_true_eq,List.all_eq_true,Bool.or_eq_true] at h;obtain⟨⟨⟨⟨⟨h1,h2⟩,h3⟩,h4⟩,h5⟩,h6⟩:=h;subst hsc;subst hN;refine⟨h1,fun y hy e=>(h2 y hy).elim (fun z=>absurd e z) id,fun y hy e=>(h3 y hy).elim (fun z=>absurd e z) id,fun y hy e=>(h4 y hy).elim (fun z=>absurd e z) id,h5,fun i j x e1 e2=>?_⟩;have hi:i < caps.length:=(Zh.mp e1).1;have z:=h6 i (Z8.mpr hi);rw[e1,e2] at z;simp only[Bool.and_eq_true,decide_eq_true_eq,Bool.or_eq_true] at z;exact⟨z.1.1,.inr z.1.2,z.2⟩
theorem Br{X:Cx}{tg:Expr}(K:W.Frag)(hK:X.K=K){l:Expr}{tl:TE}(hl:PE X l tl):PI X tg l (Zlv K tl):=by
 subst hK;exact Yn hl
variable{X:Cx}
end L2
namespace L2
open PySem PySem.Spec PyProof.Rows
end L2
namespace HT
open PySem PySem.Spec PyProof.Rows
section
variable{prog:Program}{w:World}{A:Around}{E:Value→Shared→Prop}{s:Shared}
end
end HT
namespace L2
open PySem PySem.Spec PyProof.Rows
section
variable{X:Cx}
theorem Zen(hc:X.calm=true):Ui X (.builtin "min") (fun xs H Q=>∃(a:Addr) (ns:List Int),xs=[.ref a]∧SqL X.K H a (ns.map V.int)∧0 < ns.length∧∀ M,M∈ns→(∀ k∈ns,M≤k)→Q (.int M) H):=by
 intro pins s σ H xs us Q I r h;obtain⟨a,ns,rfl,hS,hn,q⟩:=h;obtain⟨u,rfl,ru⟩:=U2 r;cases ru;obtain⟨its,vi,pl,hz⟩:=I.list hS;have hi:=Yq vi;obtain⟨xs,hx⟩:=hi.allInts.items;have hl:s.heap.IsList a (intItems xs):=hx ▸ Ue pl;have hns:ns=xs.toList.map (·.1):=by
  rw[← nums_intItems,← hx];exact hi.numsOf.symm
 have hsz:0 < xs.size:=by
  rw[hns,Zf,Array.length_toList] at hn;exact hn
 refine min_intList (I.ok.hd hc) hl hsz fun v h' tk hv hk=>?_;obtain⟨t,rfl⟩:=intItems_at hv;obtain⟨g1,g2⟩:=argBest_lt (numAt xs) (xs.size - 1);refine⟨.int _,H,I.kept hk,⟨_,rfl⟩,q _ ?_ fun k hk'=>?_⟩
 ·rw[hns,numAt_eq]
  exact getD_mem (by rw[Zf,Array.length_toList];omega)
 ·rw[hns] at hk'
  obtain⟨j,hj,rfl⟩:=mem_getD hk';rw[Zf,Array.length_toList] at hj;rw[← numAt_eq];exact g2 j (by omega)
end
section
variable{prog:Program}{w:World}
abbrev Xn:=List U8×Int×List U8
def IsPlK(h:Heap)(k:Xn)(a:Addr):Prop:=∃ o n b c t,h.get? a=some o∧o.cls = .type "tuple"∧o.data = .seq #[.ref b,.int k.2.1 t,.ref c] n∧IsTupleKey (J4 prog w) h k.1 b∧IsTupleKey (J4 prog w) h k.2.2 c
variable{A:Around}{E:Value→Shared→Prop}{s:Shared}
def Zf8(prog:Program)(w:World)(k:Xn):Int:=reduceHash (Builtin.Tuple.tupleHashOf [tupleKeyHash (J4 prog w) k.1,(J4 prog w).hash (.inl k.2.1),tupleKeyHash (J4 prog w) k.2.2])
theorem IsPlK.typeIs{k:Xn}{a:Addr}(x:IsPlK (prog:=prog) (w:=w) s.heap k a):s.TypeIs (.ref a) "tuple":=let ⟨o,_,_,_,_,ho,hc,_⟩:=x;⟨o,ho,hc⟩
theorem IsPlK.inj{h:Heap}{a:Addr}{x y:Xn}(hx:IsPlK (prog:=prog) (w:=w) h x a)(hy:IsPlK (prog:=prog) (w:=w) h y a):x=y:=by
 obtain⟨o,n,b,c,t,ho,_,hd,h1,h2⟩:=hx;obtain⟨o',n',b',c',t',ho',_,hd',h1',h2'⟩:=hy;obtain rfl:o=o':=Zr (ho.symm.trans ho');rw[hd] at hd';obtain⟨x1,x2,x3⟩:=x;obtain⟨y1,y2,y3⟩:=y;simp only[Data.seq.injEq,Array.mk.injEq,List.cons.injEq,Value.ref.injEq,Value.int.injEq,and_true] at hd';obtain⟨⟨rfl,⟨e2,_⟩,rfl⟩,_⟩:=hd';simp only at e2 h1 h1' h2 h2';subst e2;rw[h1.inj h1',h2.inj h2']
theorem IsPlK.keeps{h h':Heap}{k:Xn}{a d:Addr}{o:Obj}{es ep}(x:IsPlK (prog:=prog) (w:=w) h k a)(ho:h.get? d=some o)(hd:o.data = .dict es ep)(hs:Heap.SameBut d h h'):IsPlK (prog:=prog) (w:=w) h' k a:=by
 obtain⟨o',n,b,c,t,ho',hc,hd',h1,h2⟩:=x;have hne:a≠d:=by
  rintro rfl;obtain rfl:o'=o:=Zr (ho'.symm.trans ho);rw[hd] at hd';exact nomatch hd'
 exact⟨o',n,b,c,t,(hs.2 a hne).trans ho',hc,hd',h1.keeps ho hd hs,h2.keeps ho hd hs⟩
theorem Nu{k:Xn}{a:Addr}{Q:Int→Shared→Prop}(hu:A.units+8 < cLine)(hk:IsPlK (prog:=prog) (w:=w) s.heap k a)(h:Q (Zf8 prog w k) { s with toks:=s.toks+(k.1.length+1+1+(k.2.2.length+1)+1) }) :
  wpAny (model prog w) A (pyHash (.ref a)) Q E s:=by
 have hT:=hk.typeIs;obtain⟨o,n,b,c,t,ho,_,hd,h1,h2⟩:=hk;unfold pyHash
 first | unfold pyHashByItsType | skip
 first | refine Zc (wpAny_cRoomFor_or (.inr (by omega)) ?_) | skip
 refine Zc (wpAny_specialOf hT F.slot_tuple_hash.lookup ?_);show wpAny _ _ (if(some (Value.builtin "tuple.__hash__") == some Value.none)=true then _ else _) Q E s;rw[if_neg (by rw[beq_builtin_none];exact Zq)];refine Zc (wpAny_specialOf hT F.slot_tuple_hash.lookup ?_);show wpAny _ _ (callSpecialIfBoundUnlessNone? (.ref a) "__hash__" _ >>= _) Q E s;refine Zc (wpAny_callSpecialIfBoundUnlessNone?_slot hT F.slot_tuple_hash (wpAny_call_entry F.slot_tuple_hash hT F.entry_tuple_hash ?_ (F.args_tuple_hash_1 _)));show wpAny _ _ (Builtin.Tuple.tupleItemsOf (.ref a) >>= _) _ _ s;refine Zc (wpAny_tupleItemsOf ho hd ?_);refine Zc ?_;rw[← Array.forIn_toList];simp only[List.forIn_cons,List.forIn_nil];have hu1:A.in1.units < cLine:=(show A.units+1 < cLine by omega);refine Zc (Zc (wpAny_pyHash_tuple hu1 h1 (wpAny_pure ?_)));refine Zc (Zc ((J4 prog w).pyHash (Qw prog w k.2.1 t) (wpAny_pure ?_)));refine Zc (Zc (wpAny_pyHash_tuple (s:={ s with toks:=_ }) hu1 h2 (wpAny_pure (wpAny_pure ?_))));show wpAny _ _ (retInt (Builtin.Tuple.tupleHashOf [tupleKeyHash (J4 prog w) k.1,(J4 prog w).hash (.inl k.2.1),tupleKeyHash (J4 prog w) k.2.2])) _ _ _;refine wpAny_ret_mkInt ?_;generalize ez:Builtin.Tuple.tupleHashOf [tupleKeyHash (J4 prog w) k.1,(J4 prog w).hash (.inl k.2.1),tupleKeyHash (J4 prog w) k.2.2]=z;have h':Q (reduceHash z) { s with toks:=s.toks+(k.1.length+1+1+(k.2.2.length+1)+1) }:=by rw[← ez];exact h
 show wpAny _ _ (if(decide (-(2:Int) ^ 63≤z) && decide (z < 2 ^ 63))=true then _ else _) Q E _;unfold reduceHash at h';by_cases hr:(decide (-(2:Int) ^ 63≤z) && decide (z < 2 ^ 63))=true
 ·rw[if_pos hr]
  rw[if_pos hr] at h';exact wpAny_pure (by simpa [Nat.add_assoc] using h')
 ·rw[if_neg hr]
  rw[if_neg hr] at h';exact Zc (wpAny_rule (wpAny_pure (by simpa [Nat.add_assoc] using h')))
theorem T3{x y:Xn}{a b:Addr}{P:PySem.Fin→Shared→Prop}(hu:A.units+8 < cLine)(hx:IsPlK (prog:=prog) (w:=w) s.heap x a)(hy:IsPlK (prog:=prog) (w:=w) s.heap y b)(h:P (.done (.ret (.bool (decide (x=y))))) s) :
  wpAny (model prog w) A (Builtin.«tuple.__eq__» ⟨[.ref a,.ref b],[]⟩) P E s:=by
 have hTb:=hy.typeIs;obtain⟨oa,na,a1,a2,ta,hoa,_,hda,hx1,hx2⟩:=hx;obtain⟨ob,nb,b1,b2,tb,hob,_,hdb,hy1,hy2⟩:=hy;obtain⟨x1,x2,x3⟩:=x;obtain⟨y1,y2,y3⟩:=y;simp only at hda hdb hx1 hx2 hy1 hy2;show wpAny _ _ (isInstance (.ref b) (.type "tuple") >>= _) _ _ s;refine Zc (wpAny_isInstance hTb isSubtype_tuple_tuple ?_);simp only[Bool.not_true,Bool.false_eq_true,if_false];refine Zc (wpAny_tupleItemsOf hoa hda ?_);refine Zc (wpAny_tupleItemsOf hob hdb ?_);refine Zc ?_;simp only[List.zip_cons_cons,List.zip_nil_left,List.forIn_cons,List.forIn_nil];have no:¬ (x1,x2,x3)=(y1,y2,y3)→P (.done (.ret (.bool false))) s:=fun n=>by
  rw[Zd n] at h;exact h
 refine Zc (Zc (wpAny_eqBool_tuple (by omega) hx1 hy1 ?_));by_cases e1:x1=y1
 case neg=>
  rw[Zd e1];exact Zc (wpAny_pure (wpAny_pure (wpAny_pure (wpAny_pure (no fun z=>e1 (by injection z))))))
 rw[Ze e1];refine wpAny_pure (Zc (Zc ((J4 prog w).eqBool (a:=.inl x2) (b:=.inl y2) (Qw prog w x2 ta) (Qw prog w y2 tb) ?_)));by_cases e2:(Sum.inl x2:U8) = .inl y2
 case neg=>
  rw[Zd e2];exact Zc (wpAny_pure (wpAny_pure (wpAny_pure (wpAny_pure (no fun z=>e2 (by injection z with z1 z2;injection z2 with z2 z3;rw[z2]))))))
 rw[Ze e2];refine wpAny_pure (Zc (Zc (wpAny_eqBool_tuple (by omega) hx2 hy2 ?_)));by_cases e3:x3=y3
 case neg=>
  rw[Zd e3];exact Zc (wpAny_pure (wpAny_pure (wpAny_pure (wpAny_pure (no fun z=>e3 (by injection z with z1 z2;injection z2 with z2 z3))))))
 rw[Ze e3];have e2':x2=y2:=by injection e2
 subst e1 e2' e3;rw[Ze rfl] at h;exact wpAny_pure (wpAny_pure (wpAny_pure h))
theorem Nv{x y:Xn}{a b:Addr}{Q:Bool→Shared→Prop}(hu:A.units+9 < cLine)(hx:IsPlK (prog:=prog) (w:=w) s.heap x a)(hy:IsPlK (prog:=prog) (w:=w) s.heap y b)(h:Q (decide (x=y)) s) :
  wpAny (model prog w) A (eqBool (.ref a) (.ref b)) Q E s:=by
 unfold eqBool
 try with_reducible refine wpAny_holding ?_
 show wpAny _ _ (if(Value.ref a == Value.ref b)=true then _ else _) Q E s;by_cases hab:(Value.ref a == Value.ref b)=true
 ·rw[if_pos hab]
  have e:a=b:=by have:=eq_of_beq hab;injection this
  subst e;obtain rfl:=hx.inj hy;exact Zc (wpAny_rule (wpAny_pure (by simpa using h)))
 ·rw[if_neg hab]
  exact Zc (wpAny_richCompare_same_room (op:=.Eq) hx.typeIs hy.typeIs F.slot_tuple_eq
   (wpAny_call_entry F.slot_tuple_eq hx.typeIs F.entry_tuple_eq (T3 (show A.units+1+8 < cLine by omega) hx hy ⟨_,rfl,(fun e=>nomatch e),wpAny_truthy_bool h⟩) (F.args_tuple_eq_2 _ _)) (by omega))
theorem Rb(n:Nat){ks:List U8}{a:Addr}{Q:Bool→Shared→Prop}(hk:IsTupleKey (J4 prog w) s.heap ks a)(h:Q true s):wpAny (model prog w) A (eqIsQuiet (n+1) (.ref a)) Q E s:=by
 have hT:=hk.typeIs;obtain⟨o,items,m,ho,_,hd,hi⟩:=hk;unfold eqIsQuiet;refine Zc (wpAny_specialOf hT F.slot_tuple_eq.lookup ?_);show wpAny _ _ (isInstance (.ref a) (.type "tuple") >>= _) _ _ s;refine Zc (wpAny_isInstance hT isSubtype_tuple_tuple ?_);simp only[Bool.not_true,Bool.false_eq_true,if_false];refine Zc (wpAny_seqItems ho hd ?_);refine Zc ?_;show wpAny _ _ (forIn items _ _) _ _ s;rw[← Array.forIn_toList];refine wpAny_forIn_list _ (fun Ew r s'=>r.1=none∧s'=s∧∀ v∈Ew,carriedByValue v=true) _ ?_ ?_ _ _ ⟨rfl,rfl,hi.byValue⟩
 ·rintro v Ew r s' ⟨hr,rfl,hall⟩
  rw[eqIsQuiet_byValue _ (hall v Zt)];refine Zc (wpAny_pure ?_);simp only[Bool.not_true,Bool.false_eq_true,if_false];exact wpAny_pure ⟨rfl,rfl,fun u hu'=>hall u (Zu _ hu')⟩
 ·rintro⟨r1,r2⟩ s' ⟨hr,rfl,_⟩
  simp only at hr;subst hr;exact wpAny_pure h
theorem Ak{k:Xn}{a:Addr}{Q:Bool→Shared→Prop}(hk:IsPlK (prog:=prog) (w:=w) s.heap k a)(h:Q true s):wpAny (model prog w) A (eqIsQuiet 8 (.ref a)) Q E s:=by
 have hT:=hk.typeIs;obtain⟨o,n,b,c,t,ho,_,hd,h1,h2⟩:=hk;unfold eqIsQuiet;refine Zc (wpAny_specialOf hT F.slot_tuple_eq.lookup ?_);show wpAny _ _ (isInstance (.ref a) (.type "tuple") >>= _) _ _ s;refine Zc (wpAny_isInstance hT isSubtype_tuple_tuple ?_);simp only[Bool.not_true,Bool.false_eq_true,if_false];refine Zc (wpAny_seqItems ho hd ?_);refine Zc ?_;show wpAny _ _ (forIn #[Value.ref b,Value.int k.2.1 t,Value.ref c] _ _) _ _ s;rw[← Array.forIn_toList];simp only[List.forIn_cons,List.forIn_nil];refine Zc (Zc (Rb 6 h1 (wpAny_pure ?_)));refine Zc ?_;rw[eqIsQuiet_byValue _ (rfl:carriedByValue (.int k.2.1 t)=true)];refine Zc (wpAny_pure (wpAny_pure ?_));refine Zc (Zc (Rb 6 h2 (wpAny_pure ?_)));exact wpAny_pure (wpAny_pure h)
end
def Xt(prog:Program)(w:World):HeapKind prog w Xn where
 is:=IsPlK (prog:=prog) (w:=w)
 hash:=Zf8 prog w
 draws:=fun k=>k.1.length+1+1+(k.2.2.length+1)+1
 room:=fun A=>A.units+9 < cLine
 inj:=fun hx hy=>hx.inj hy
 keeps:=fun x ho hd hs=>x.keeps ho hd hs
 pyHash:=fun hu hk h=>Nu (by omega) hk h
 eqBool:=fun hu hx hy h=>Nv hu hx hy h
 quiet:=fun hk h=>Ak hk h
def PlKey(H:Hp)(k:Xn)(p:Addr):Prop:=∃ hp tp,H p=some (.tup [.ref hp,.int k.2.1,.ref tp])∧H hp=some (.tup (k.1.map kV))∧H tp=some (.tup (k.2.2.map kV))
theorem PlKey.mono{H H':Hp}{k:Xn}{p:Addr}(h:PlKey H k p)(ht:∀ b ys,H b=some (.tup ys)→H' b=some (.tup ys)):PlKey H' k p:=by
 obtain⟨hp,tp,a,b,c⟩:=h;exact⟨hp,tp,ht _ _ a,ht _ _ b,ht _ _ c⟩
abbrev X7:=Xn×Addr×Int
def Tz(H:Hp)(es:List X7):Prop:=∀ e∈es,PlKey H e.1 e.2.1
abbrev PRel:List X7→List (Xn×Addr×Value)→Prop:=Paired fun p q=>p.1=q.1∧p.2.1=q.2.1∧∃ t,q.2.2 = .int p.2.2 t
def Q8(P:Program)(w:World)(a:Addr)(es:List X7):HO:=HO.ext fun h=>(a == sysModules)=false∧es.length≤sizeLine∧∃ xs,PRel es xs∧∃ o el ep,h.get? a=some o∧o.ExactDict∧o.data = .dict el ep∧el.toList=xs.map (entryOfKey (Xt P w))∧(xs.map (·.1)).Nodup
def K3(es:List X7)(k:Xn):Option Int:=(es.find? fun e=>decide (e.1=k)).map (·.2.2)
theorem PRel.at{k:Xn}:∀{es:List X7} {xs:List (Xn×Addr×Value)},PRel es xs→RelO ((K3 es k).map V.int) ((atKey xs k).map (·.2))
 | _,_,.nil=>True.intro
 | e :: es,x :: xs,.cons ⟨h1,h2,t,h3⟩ r=>by
  have ih:=PRel.at (k:=k) r;unfold K3 atKey at *;rw[List.find?_cons,List.find?_cons,← h1];by_cases c:e.1=k
  ·rw[Ze c]
   show RelO (some (V.int e.2.2)) (some x.2.2);exact⟨t,h3⟩
  ·rw[Zd c]
   exact ih
section
variable{P:Program}{w:World}{H:Hp}{h:Heap}{a:Addr}
theorem Bq{k:Xn}{p:Addr}(ok:HOk P w H h)(e:PlKey H k p):IsPlK (prog:=P) (w:=w) h k p:=by
 obtain⟨hp,tp,e1,e2,e3⟩:=e;obtain⟨_,its,r,o,h1,h2,n,h3⟩:=(show ObjOk P w H h p (.tup [.ref hp,.int k.2.1,.ref tp]) from ok p _ e1)
 match its,r with
 | [u1,u2,u3],.cons r1 (.cons ⟨t,r2⟩ (.cons r3 .nil))=>
  cases (show u1=Value.ref hp from r1);cases (show u3=Value.ref tp from r3);subst r2;exact⟨o,n,hp,tp,t,h1,h2,h3,Th ok e2,Th ok e3⟩
theorem Zgk{es:List X7}(ok:HOk P w H h)(e:H a=some (Q8 P w a es))(ks:Tz H es):(a == sysModules)=false∧es.length≤sizeLine∧∃ xs,PRel es xs∧h.DictOfH (Xt P w) a xs:=by
 obtain⟨⟨hd,hz,xs,r,o,el,ep,h1,h2,h3,h4,h5⟩,_⟩:=(show ObjOk P w H h a (Q8 P w a es) from ok a _ e);refine⟨hd,hz,xs,r,o,el,ep,h1,h2,h3,h4,fun x hx=>?_,h5⟩;have all:∀{l:List X7} {m:List (Xn×Addr×Value)},PRel l m→(∀ e∈l,PlKey H e.1 e.2.1)→∀ x∈m,(Xt P w).is h x.1 x.2.1:=by
  intro l m q
  induction q with
  | nil=>intro _ x hx;exact nomatch hx
  | @cons p q ps qs hq t ih=>
   intro hk x hx;rcases List.mem_cons.mp hx with e | hx
   ·subst e
    have:=Bq ok (hk p Zt);rw[hq.1,hq.2.1] at this;exact this
   ·exact ih (fun e he=>hk e (Zu _ he)) x hx
 exact all r ks x hx
theorem Zgl{H':Hp}{h':Heap}{es:List X7}{xs:List (Xn×Addr×Value)}(hd:(a == sysModules)=false)(hz:es.length≤sizeLine)(r:PRel es xs)(dd:h'.DictOfH (Xt P w) a xs):ObjOk P w H' h' a (Q8 P w a es):=by
 obtain⟨o,el,ep,h1,h2,h3,h4,_,h5⟩:=dd;refine⟨⟨hd,hz,xs,r,o,el,ep,h1,h2,h3,h4,h5⟩,⟨o,h1⟩,fun h1 h2 z k=>?_⟩;obtain⟨hd,hz,xs,r,o,el,ep,h1,h2,h3,h4,h5⟩:=z;exact⟨hd,hz,xs,r,o,el,ep,k _ h1,h2,h3,h4,h5⟩
end
theorem PRel.snoc{es:List X7}{xs:List (Xn×Addr×Value)}(r:PRel es xs){e:X7}{x:Xn×Addr×Value}(h:e.1=x.1∧e.2.1=x.2.1∧∃ t,x.2.2 = .int e.2.2 t):PRel (es++[e]) (xs++[x]):=by
 induction r with
 | nil=>exact .cons h .nil
 | cons a _ ih=>exact .cons a ih
section
variable{X:Cx}{o i value:Expr}{td ty tv:TE}{pos pos':Pos}
theorem Zgh:PE X (.Dict [] [] pos) (fun _ H Q=>∀ p,H p=none→Q (.ref p) (upd H p (Q8 X.prog X.w p []))):=fun pins s σ H Q I h=>
 wpAny_Dict_empty ⟨.ref s.heap.objs.size,_,I.laid (a:=s.heap.objs.size) (o:=Q8 X.prog X.w s.heap.objs.size []) (t':=s.toks) (fun _ _ q=>Zi _ q) (Nat.le_refl _)
  (Zgl (xs:=[]) (beq_eq_false_iff_ne.mpr (Ne.symm (Nat.ne_of_lt I.big))) (Nat.zero_le _) .nil ⟨_,#[],0,Heap.get?_push_size _ rfl,⟨rfl,rfl,rfl⟩,rfl,rfl,(fun x hx=>nomatch hx),List.nodup_nil⟩),rfl,h _ (I.hok.fresh (Nat.le_refl _))⟩
theorem Zjq(hu:X.A.units+10 < cLine)(ho:PE X o td)(hi:PE X i ty)(hs:Zob i):PE X (.Subscript o i pos) (fun σ H Q=>td σ H fun x H1=>ty σ H1 fun y H2=>∃ a es k b v,x = .ref a∧H2 a=some (Q8 X.prog X.w a es)∧Tz H2 es∧y = .ref b∧PlKey H2 k b∧K3 es k=some v∧Q (.int v) H2):=by
 intro pins s σ H Q I h;refine Zbm PySem.F.slot_dict_getitem.lookup hs (Y1 (ho pins s σ H _ I h) fun u s1 ⟨x,H1,I1,rx,q1⟩=>Y1 (hi pins s1 σ H1 _ I1 q1) fun iv s2 ⟨y,H2,I2,ry,a,es,k,b,v,ex,e,ks,ey,eb,ev,q2⟩=>?_);subst ex ey;obtain rfl:u=Value.ref a:=rx;obtain rfl:iv=Value.ref b:=ry;obtain⟨hd,hz,xs,r,dd⟩:=Zgk I2.hok e ks;refine⟨dd.typeIs,?_⟩;have rl:=r.at (k:=k);rw[ev] at rl;obtain⟨w',hw,rw'⟩:=RelO.some_of (v:=V.int v) (o:=(atKey xs k).map (fun x:Addr×Value=>x.2)) rl;obtain⟨p,hp,hp2⟩:=Option.map_eq_some_iff.mp hw;refine wpAny_getItem_heap (knd:=Xt X.prog X.w) (show X.A.units+1+9 < cLine by omega) (Bq I2.hok eb) dd hp ?_;rw[hp2];exact⟨.int v,H2,I2.tok _,rw',q2⟩
theorem Zdb(hu:X.A.units+10 < cLine)(hi:PE X i ty)(ho:PE X o td):PC X .NotIn i o (fun σ H Q=>ty σ H fun y H1=>td σ H1 fun x H2=>∃ a es k b,x = .ref a∧H2 a=some (Q8 X.prog X.w a es)∧Tz H2 es∧y = .ref b∧PlKey H2 k b∧Q (.bl (!(K3 es k).isSome)) H2):=by
 intro pins s σ H Q I h;refine Y1 (hi pins s σ H _ I h) fun iv s1 ⟨y,H1,I1,ry,q1⟩=>Y1 (ho pins s1 σ H1 _ I1 q1) fun u s2 ⟨x,H2,I2,rx,a,es,k,b,ex,e,ks,ey,eb,q2⟩=>?_;subst ex ey;obtain rfl:u=Value.ref a:=rx;obtain rfl:iv=Value.ref b:=ry;obtain⟨hd,hz,xs,r,dd⟩:=Zgk I2.hok e ks;refine wpAny_notIn_heap (knd:=Xt X.prog X.w) (show X.A.units+1+9 < cLine by omega) (Bq I2.hok eb) hd dd ?_;have z:=(r.at (k:=k)).isSome_eq;rw[Option.isSome_map,Option.isSome_map] at z;rw[← z];exact⟨.bl (!(K3 es k).isSome),H2,I2.tok _,rfl,q2⟩
theorem Zjm(hu:X.A.units+10 < cLine)(ho:PE X o td)(hi:PE X i ty)(hv:PE X value tv)(hs:swapsWith value (some (.Subscript o i pos')) pos.line X.env=pure false) :
  PS X (.Assign [.Subscript o i pos'] value pos) (fun D σ H=>tv σ H fun v H1=>td σ H1 fun x H2=>ty σ H2 fun y H3=>∃ a es k b n,v = .int n∧x = .ref a∧H3 a=some (Q8 X.prog X.w a es)∧Tz H3 es∧y = .ref b∧PlKey H3 k b∧K3 es k=none∧es.length < sizeLine∧D.nx σ (upd H3 a (Q8 X.prog X.w a (es++[(k,b,n)])))):=by
 intro pins s σ H D I h;refine wpAny_Assign_Subscript (Y1 (hv pins s σ H _ I h) fun r s1 ⟨v,H1,I1,rv,q1⟩=>Y1 (ho pins s1 σ H1 _ I1 q1) fun u s2 ⟨x,H2,I2,rx,q2⟩=>Y1 (hi pins s2 σ H2 _ I2 q2) fun iv s3 ⟨y,H3,I3,ry,a,es,k,b,n,en,ex,e,ks,ey,eb,ev,hl,q3⟩=>?_) hs;subst ex ey en;obtain rfl:u=Value.ref a:=rx;obtain rfl:iv=Value.ref b:=ry;obtain⟨t,rfl⟩:=rv;obtain⟨hd,hz,xs,rl,dd⟩:=Zgk I3.hok e ks;have hz2:xs.length≤sizeLine:=by rw[← Paired.length rl];exact hz
 have none_:atKey xs k=none:=by
  have z:=(rl.at (k:=k)).isSome_eq;rw[ev] at z;cases c:atKey xs k with
  | none=>rfl
  | some p=>rw[c] at z;cases z
 refine wpAny_setItem_heap (knd:=Xt X.prog X.w) (hsz:=hz2) (show X.A.units+1+9 < cLine by omega) (Bq I3.hok eb) dd fun h' dd' hs=>⟨σ,_,?_,q3⟩;rw[storedH_new none_] at dd';obtain⟨q,el,ep,hq,_⟩:=id dd';exact Oz I3 (by rw[e];exact True.intro) hs ⟨q,hq⟩ (Zgl hd (by rw[Zs];exact hl) (rl.snoc ⟨rfl,rfl,t,rfl⟩) dd')
end
def KpD(d:Addr)(H H':Hp):Prop:=∀ b o,b≠d→H b=some o→H' b=some o
theorem KpD.refl(d:Addr)(H:Hp):KpD d H H:=fun _ _ _ h=>h
theorem KpD.trans{d:Addr}{H H1 H2:Hp}(a:KpD d H H1)(b:KpD d H1 H2):KpD d H H2:=fun c o n h=>b c o n (a c o n h)
theorem Same.d{d:Addr}{H H1:Hp}(s:Same H H1):KpD d H H1:=fun b o _ h=>s b o h
theorem Zeh{K:W.Frag}{te:TE}{σ0:St}{H1:Hp}{Q:V→Hp→Prop}{a:Addr}{xs:List V}(d:Addr)(Pv:Addr→List V→Hp→Prop)(hd:∃ o,H1 d=some o)(hS:∀ H,KpD d H1 H→SqL K H a xs)(hn:xs.length≤sizeLine)(h0:∀ l,H1 l=none→Pv l [] (upd H1 l (.lst [])))
  (hE:∀ i x H l vs,xs[i]? = some x→vs.length=i→KpD d H1 H→H1 l=none→H l=some (.lst vs)→Pv l vs H→∀ R:V→Hp→Prop,(∀ v H',KpD d H H'→Pv l (vs++[v]) (upd H' l (.lst (vs++[v])))→R v H')→te (σ0.set 0 (some x)) H R)
  (hQ:∀ l H vs,KpD d H1 H→H1 l=none→H l=some (.lst vs)→vs.length=xs.length→Pv l vs H→Q (.ref l) H):Xr (Uv 0) Ad te σ0 (Itl K a) H1 Q:=by
 intro l hl;have ld:l≠d:=fun z=>by
  obtain⟨o,e⟩:=hd;rw[← z,hl] at e;cases e
 refine⟨fun i m σ H=>m=xs.length - i∧i≤xs.length∧KpD d H1 H∧(∃ vs,H l=some (.lst vs)∧vs.length=i∧Pv l vs H)∧∀ o,σ.set 0 o=σ0.set 0 o,⟨xs.length,by simp,Nat.zero_le _,(Zx hl _).d,⟨[],Zn,rfl,h0 l hl⟩,fun _=>rfl⟩,?_⟩;rintro i m σ H ⟨rfl,hi,sm,⟨vs,hL,hvl,hvs⟩,hσ⟩;by_cases lt:i < xs.length
 ·refine .inr ⟨⟨xs,_,hS H sm,Za lt⟩,fun x H' y=>?_⟩
  obtain⟨rfl,y2⟩:=y;have hx:xs[i]? = some x:=y2 xs (hS _ sm);unfold Uv Ad;dsimp only;rw[hσ,if_pos rfl];refine hE i x H' l vs hx hvl sm hl hL hvs _ fun v H3 s3 hv=>⟨vs,s3 _ _ ld hL,by omega,xs.length - (i+1),by omega,rfl,lt,fun b o n h=>?_,⟨vs++[v],Zn,by rw[Zs,hvl];rfl,hv⟩,fun o=>List.set_set _⟩;rw[Jf (Jv h hl)];exact s3 b o n (sm b o n h)
 ·have e:i=xs.length:=by omega
  subst e;exact .inl ⟨⟨xs,hS H sm,Nat.le_refl _⟩,hQ l H vs sm hl hL hvl hvs⟩
def IsPrs(H:Hp)(a:Addr)(ps:List (Nat×Nat)):Prop:=∃ as:List Addr,H a=some (.lst (as.map V.ref))∧as.length=ps.length∧∀(j:Nat) (u:Addr) (p:Nat×Nat),as[j]? = some u→ps[j]? = some p→H u=some (.tup [.int (p.1:Nat),.int (p.2:Nat)])
theorem IsPrs.same{H H':Hp}{a:Addr}{ps:List (Nat×Nat)}(h:IsPrs H a ps)(s:Same H H'):IsPrs H' a ps:=by
 obtain⟨as,x,y,z⟩:=h;exact⟨as,s _ _ x,y,fun j u p h1 h2=>s _ _ (z j u p h1 h2)⟩
theorem Zos(σ:St)(a b o o':Option V):(((σ.set 0 a).set 1 b).set 0 o).set 1 o'=(σ.set 0 o).set 1 o':=by
 match σ with
 | []=>rfl
 | [_]=>rfl
 | _ :: _ :: _=>rfl
theorem Tt{K:W.Frag}{tt:TT}{te:TE}{σ0:St}{H1:Hp}{Q:V→Hp→Prop}{a:Addr}{ps:List (Nat×Nat)}(hS:IsPrs H1 a ps)(p:Nat×Nat→Bool)(f:Nat×Nat→V)(hn:ps.length≤sizeLine)
  (hT:∀ x H,x∈ps→Same H1 H→∀ R:Bool→Hp→Prop,(∀ H',Same H H'→R (p x) H')→tt ((σ0.set 0 (some (.int (x.1:Nat)))).set 1 (some (.int (x.2:Nat)))) H R)
  (hE:∀ x H,x∈ps→p x=true→Same H1 H→∀ R:V→Hp→Prop,(∀ H',Same H H'→R (f x) H')→te ((σ0.set 0 (some (.int (x.1:Nat)))).set 1 (some (.int (x.2:Nat)))) H R)
  (hQ:∀ l H,Same H1 H→H1 l=none→H l=some (.lst ((ps.filter p).map f))→Q (.ref l) H):Xr (Zn0 K 2 (Zhw (Uv 0) (Zhw (Uv 1) Zpn))) tt te σ0 (Itl K a) H1 Q:=by
 intro l hl;obtain⟨as,hA,la,hP⟩:=hS;refine⟨fun i m σ H=>m=ps.length - i∧i≤ps.length∧Same H1 H∧H l=some (.lst (((ps.take i).filter p).map f))∧∀ o o',(σ.set 0 o).set 1 o'=(σ0.set 0 o).set 1 o',⟨ps.length,by simp,Nat.zero_le _,Zx hl _,Zn,fun _ _=>rfl⟩,?_⟩;rintro i m σ H ⟨rfl,hi,sm,hL,hσ⟩;have hA':SqL K H a (as.map V.ref):=SqL.of (sm _ _ hA);by_cases lt:i < ps.length
 ·have la':i < as.length:=by omega
  have ea:as[i]? = some as[i]:=Za la';have ep:ps[i]? = some ps[i]:=Za lt;have ex:(as.map V.ref)[i]? = some (V.ref as[i]):=by rw[Zl,ea];rfl
  refine .inr ⟨⟨as.map V.ref,_,hA',ex⟩,fun x H' y=>?_⟩;obtain⟨rfl,y2⟩:=y;have hx:=y2 _ hA';rw[ex] at hx;cases hx;have hu:=sm _ _ (hP i _ _ ea ep);refine⟨as[i],_,rfl,SqT.of hu,rfl,_,_,rfl,_,_,rfl,rfl,?_⟩;show tt ((σ.set 0 (some (.int (ps[i].1:Nat)))).set 1 (some (.int (ps[i].2:Nat)))) H' _;rw[hσ];have er:(ps.take (i+1)).filter p=(ps.take i).filter p++(if p ps[i]=true then [ps[i]] else []):=by
   rw[List.take_succ,ep,List.filter_append];show _++List.filter p [ps[i]]=_;by_cases hp:p ps[i]=true
   ·rw[if_pos hp,List.filter_cons_of_pos hp,List.filter_nil]
   ·rw[if_neg hp,List.filter_cons_of_neg hp,List.filter_nil]
  have lf:(((ps.take i).filter p).map f).length < sizeLine:=by
   rw[Zf];have:=List.length_filter_le p (ps.take i);rw[List.length_take] at this;omega
  refine hT ps[i] H' (J3 _) sm _ fun H2 s2=>?_;by_cases hp:p ps[i]=true
  ·rw[if_pos hp]
   refine hE ps[i] H2 (J3 _) hp (sm.trans s2) _ fun H3 s3=>?_;refine⟨_,s3 _ _ (s2 _ _ hL),lf,ps.length - (i+1),by omega,rfl,lt,Ux hl (sm.trans (s2.trans s3)) _,?_,fun o o'=>Zos _ _ _ _ _⟩;rw[Zn,er,if_pos hp,Ju];rfl
  ·rw[if_neg hp]
   refine⟨ps.length - (i+1),by omega,rfl,lt,sm.trans s2,?_,fun o o'=>Zos _ _ _ _ _⟩;rw[er,if_neg hp,Jk];exact s2 _ _ hL
 ·have e:i=ps.length:=by omega
  subst e;rw[List.take_length] at hL;exact .inl ⟨⟨as.map V.ref,hA',by rw[Zf];omega⟩,hQ l H sm hl hL⟩
theorem Zb0{X:Cx}{pos:Pos}(K:W.Frag)(hK:X.K=K){es:List Expr}{k:Nat}{t:TGs}{n:Nat}(hc:X.calm=true)(h:PGs X es t)
  (hn:(assignEach es X.env).length=n:=by rfl) (hst:(assignEach es X.env).findIdx? (·.1)=none:=by rfl):PG X (.Tuple es k pos) (Zn0 K n t):=by
 subst hK;exact N4 hc h hn hst
theorem Zgf{X:Cx}{K:W.Frag}{o e:Expr}{to:TE}{t:TA}{apos cpos:Pos}(hK:X.K=K)(ho:PE X o to)(ha:PA X [e] t)
  (hbase:attributeBase o "join" X.env (eval o X.env)=eval o X.env:=by rfl)
  (hfew:((backTo cpos (starEach [e] X.env)).all (fun x=>!x.1) && (backToKw cpos (keywordEach [] X.env)).all (fun x=>x.1.isSome)
   && decide (([e]:List Expr).length+([]:List Keyword).length+(if([]:List Keyword).isEmpty then 0 else 1) < 30))=true:=by rfl)
  (hline:(apos.endLine == cpos.line)=true:=by rfl) (hs:starEach [e] X.env=(false,eval e X.env) :: starEach [] X.env:=by rfl) (hplain:(backTo cpos (starEach [] X.env)).any (·.1)=false:=by rfl) :
  PE X (.Call (.Attribute o "join" apos) [e] [] cpos) (tBM K "str" (fun x xs H Q=>∃ sep a ys,x = .str sep∧xs=[.ref a]∧SqL K H a (vS ys)∧(ys.map (·.length)).sum+ys.length * sep.length≤16777216∧Q (.str (Txt.join sep ys)) H) to t):=by
 subst hK;exact Xp PySem.F.plainAttrs_str PySem.F.slot_str_join PySem.F.type_str_join Zca ho ha hbase hfew hline hs hplain
end L2
namespace My
open PySem L2
abbrev Gs:Stmt:=top 21
abbrev Zfw:Stmt:=top 22
abbrev D1:Stmt:=Yo (top 23) 0
abbrev Rt:Stmt:=Yo (top 23) 1
abbrev Go:Stmt:=Yo (top 23) 2
abbrev Bn:Stmt:=Yo (top 23) 3
abbrev Ru:Stmt:=Yo (top 23) 4
abbrev Rs:Stmt:=top 24
abbrev Zfq:Stmt:=top 25
abbrev Zbw:Stmt:=top 26
theorem Zcq(g:Nat→Nat):∀ n,0 < n→∃ i,i < n∧∀ j,j < n→g j≤g i
 | 1,_=>⟨0,by omega,fun j hj=>by
  have:j=0:=by omega
  rw[this];exact Nat.le_refl _⟩
 | n+2,_=>by
  obtain⟨i,hi,h⟩:=Zcq g (n+1) (by omega);by_cases c:g i≤g (n+1)
  ·refine⟨n+1,by omega,fun j hj=>?_⟩
   rcases Nat.lt_or_ge j (n+1) with z | z
   ·exact Nat.le_trans (h j z) c
   ·have:j=n+1:=by omega
    rw[this];exact Nat.le_refl _
  ·refine⟨i,by omega,fun j hj=>?_⟩
   rcases Nat.lt_or_ge j (n+1) with z | z
   ·exact h j z
   ·have:j=n+1:=by omega
    rw[this];omega
theorem Zak{fx:Fx}(ok:fx.Ok)(t:Option Nat){hs:List Nat}{lead:Nat}{ys:List Nat}{m h c:Nat}(Pl:Plc fx hs lead ys m)(eh:hs[(lead+ys.length) % fx.n]? = some h)(hb:h.testBit c=true):∃ hs' lead' ys' tk,Nxt fx t hs lead ys h c hs' lead' ys' tk:=by
 have yl:=Pl.yl;by_cases cl:ys.length+1 < fx.n
 ·exact⟨_,lead,ys++[c],none,rfl,fun _=>⟨rfl,rfl,rfl⟩,fun e=>absurd e (by omega)⟩
 ·have hm:h∈hs:=Zg eh
  have T:Trk fx (ys++[c]):=⟨Dh Pl eh hb,fun y hy=>by
   rcases Jh.mp hy with z | z
   ·exact(Pl.pk y (Qn z)).2
   ·rw[Z7.mp z]
    exact(Pl.pk c (U4 hm hb)).2,by rw[Zs,List.length_singleton];omega⟩
  obtain⟨i,hi,hmax⟩:=Zcq (fun j=>rk fx t (Z5 (ys++[c])) ((ys++[c]).getD j 0)) (ys++[c]).length T.ne;exact⟨_,(lead+i) % fx.n,[],some ((lead+i) % fx.n),rfl,fun e=>absurd e cl,fun _=>⟨rfl,rfl,i,K6 ok T hi hmax,rfl⟩⟩
def Yu(hs:List Nat):Nat:=(hs.map (Xe 32)).sum
def Nt(side:Nat):Option Nat→Nat
 | none=>0
 | some s=>if side.testBit s=true then 1 else 0
open Classical in
noncomputable def nxF (fx:Fx) (t:Option Nat) (hs:List Nat) (lead:Nat) (ys:List Nat) (h c:Nat):List Nat×Nat×List Nat×Option Nat:=
 if e:∃ z:List Nat×Nat×List Nat×Option Nat,Nxt fx t hs lead ys h c z.1 z.2.1 z.2.2.1 z.2.2.2 then Classical.choose e else([],0,[],none)
theorem Zha{fx:Fx}{t:Option Nat}{hs:List Nat}{lead:Nat}{ys:List Nat}{h c m:Nat}{hs':List Nat}{lead':Nat}{ys':List Nat}{tk:Option Nat}(Pl:Plc fx hs lead ys m)(eh:hs[(lead+ys.length) % fx.n]? = some h)(hc:h.testBit c=true)(N:Nxt fx t hs lead ys h c hs' lead' ys' tk):nxF fx t hs lead ys h c=(hs',lead',ys',tk):=by
 have e:∃ z:List Nat×Nat×List Nat×Option Nat,Nxt fx t hs lead ys h c z.1 z.2.1 z.2.2.1 z.2.2.2:=⟨(hs',lead',ys',tk),N⟩;unfold nxF;rw[dif_pos e];obtain⟨a,b,c,d⟩:=(Classical.choose_spec e).uniq Pl eh hc N;exact Prod.ext a (Prod.ext b (Prod.ext c d))
def Ur(b:Bool)(ns:List Nat):Nat:=if ns=[] then 0 else if b=true then ns.foldl max 0 else(ns.drop 1).foldl min (ns.getD 0 0)
noncomputable def valF (fx:Fx) (t:Option Nat) (side:Nat):Nat→List Nat→Nat→List Nat→Nat
 | 0,_,_,_=>0
 | k+1,hs,lead,ys=>Ur (side.testBit ((lead+ys.length) % fx.n)) ((Qq fx t ys (hs.getD ((lead+ys.length) % fx.n) 0)).map fun c=>
   Nt side (nxF fx t hs lead ys (hs.getD ((lead+ys.length) % fx.n) 0) c).2.2.2+valF fx t side k (nxF fx t hs lead ys (hs.getD ((lead+ys.length) % fx.n) 0) c).1 (nxF fx t hs lead ys (hs.getD ((lead+ys.length) % fx.n) 0) c).2.1 (nxF fx t hs lead ys (hs.getD ((lead+ys.length) % fx.n) 0) c).2.2.1)
noncomputable def valP (fx:Fx) (t:Option Nat) (side:Nat) (hs:List Nat) (lead:Nat) (ys:List Nat):Nat:=valF fx t side (Yu hs) hs lead ys
noncomputable def numP (fx:Fx) (t:Option Nat) (side:Nat) (hs:List Nat) (lead:Nat) (ys:List Nat) (c:Nat):Nat:=
 Nt side (nxF fx t hs lead ys (hs.getD ((lead+ys.length) % fx.n) 0) c).2.2.2+valP fx t side (nxF fx t hs lead ys (hs.getD ((lead+ys.length) % fx.n) 0) c).1 (nxF fx t hs lead ys (hs.getD ((lead+ys.length) % fx.n) 0) c).2.1 (nxF fx t hs lead ys (hs.getD ((lead+ys.length) % fx.n) 0) c).2.2.1
theorem V2:∀(l:List Nat) (a:Nat),(a≤l.foldl max a∧∀ x∈l,x≤l.foldl max a)∧(l.foldl max a=a∨l.foldl max a∈l)
 | [],a=>⟨⟨Nat.le_refl _,fun x hx=>nomatch hx⟩,.inl rfl⟩
 | y :: l,a=>by
  obtain⟨⟨h1,h2⟩,h3⟩:=V2 l (max a y);show(a≤l.foldl max (max a y)∧∀ x∈y :: l,x≤l.foldl max (max a y))∧(l.foldl max (max a y)=a∨l.foldl max (max a y)∈y :: l);refine⟨⟨by omega,fun x hx=>?_⟩,?_⟩
  ·rcases List.mem_cons.mp hx with e | e
   ·omega
   ·exact h2 x e
  ·rcases h3 with e | e
   ·rcases Nat.le_total a y with z | z
    ·right
     rw[e,Nat.max_eq_right z];exact Zt
    ·left
     rw[e,Nat.max_eq_left z]
   ·exact .inr (Zu _ e)
theorem V1:∀(l:List Nat) (a:Nat),(l.foldl min a≤a∧∀ x∈l,l.foldl min a≤x)∧(l.foldl min a=a∨l.foldl min a∈l)
 | [],a=>⟨⟨Nat.le_refl _,fun x hx=>nomatch hx⟩,.inl rfl⟩
 | y :: l,a=>by
  obtain⟨⟨h1,h2⟩,h3⟩:=V1 l (min a y);show(l.foldl min (min a y)≤a∧∀ x∈y :: l,l.foldl min (min a y)≤x)∧(l.foldl min (min a y)=a∨l.foldl min (min a y)∈y :: l);refine⟨⟨by omega,fun x hx=>?_⟩,?_⟩
  ·rcases List.mem_cons.mp hx with e | e
   ·omega
   ·exact h2 x e
  ·rcases h3 with e | e
   ·rcases Nat.le_total a y with z | z
    ·left
     rw[e,Nat.min_eq_left z]
    ·right
     rw[e,Nat.min_eq_right z];exact Zt
   ·exact .inr (Zu _ e)
theorem Zgb{ns:List Nat}{M:Nat}(h:M∈ns)(g:∀ x∈ns,x≤M):Ur true ns=M:=by
 have n:ns≠[]:=fun z=>by rw[z] at h;cases h
 unfold Ur;rw[if_neg n,if_pos rfl];obtain⟨⟨a,b⟩,c⟩:=V2 ns 0;have h1:=b M h;rcases c with e | e
 ·omega
 ·have:=g _ e
  omega
theorem Zga{ns:List Nat}{M:Nat}(h:M∈ns)(g:∀ x∈ns,M≤x):Ur false ns=M:=by
 match ns,h,g with
 | y :: l,h,g=>
  unfold Ur;rw[if_neg (fun z=>nomatch z),if_neg Zq];show l.foldl min y=M;obtain⟨⟨a,b⟩,c⟩:=V1 l y;have h1:l.foldl min y≤M:=by
   rcases List.mem_cons.mp h with e | e
   ·omega
   ·exact b M e
  rcases c with e | e
  ·have:=g y Zt
   omega
  ·have:=g _ (Zu _ e)
   omega
theorem Vj{fx:Fx}{t:Option Nat}{side:Nat}{hs:List Nat}{lead:Nat}{ys:List Nat}(h:Yu hs=0):valP fx t side hs lead ys=0:=by
 unfold valP;rw[h];rfl
theorem Vi{fx:Fx}(ok:fx.Ok){t:Option Nat}{side:Nat}{hs:List Nat}{lead:Nat}{ys:List Nat}{m:Nat}(Pl:Plc fx hs lead ys m)(h0:Yu hs≠0) :
  valP fx t side hs lead ys=Ur (side.testBit ((lead+ys.length) % fx.n)) ((Qq fx t ys (hs.getD ((lead+ys.length) % fx.n) 0)).map (numP fx t side hs lead ys)):=by
 obtain⟨h,eh,_⟩:=Pl.turn ok;have eg:hs.getD ((lead+ys.length) % fx.n) 0=h:=by rw[Zj,eh];rfl
 obtain⟨k,ek⟩:∃ k,Yu hs=k+1:=⟨Yu hs - 1,by omega⟩;unfold valP;rw[ek];show Ur _ _=_
 congr 1
 refine Jq fun c hc=>?_;unfold numP;rw[eg] at hc ⊢;have hb:=(N6 (Pl.h32 ok (Zg eh)) hc).1;obtain⟨hs',lead',ys',tk,N⟩:=Zak ok t Pl eh hb;rw[Zha Pl eh hb N];obtain⟨_,_,_,tt,_⟩:=N.plc ok Pl eh hb;have:Yu hs'=k:=by
  unfold Yu at *;omega
 unfold valP;show Nt side tk+valF fx t side k hs' lead' ys'=Nt side tk+valF fx t side (Yu hs') hs' lead' ys';rw[this]
theorem Oj{fx:Fx}(ok:fx.Ok){t:Option Nat}{side:Nat}{hs:List Nat}{lead:Nat}{ys:List Nat}{m h c:Nat}{hs':List Nat}{lead':Nat}{ys':List Nat}{tk:Option Nat}(Pl:Plc fx hs lead ys m)(eh:hs[(lead+ys.length) % fx.n]? = some h)(hb:h.testBit c=true)(N:Nxt fx t hs lead ys h c hs' lead' ys' tk) :
  numP fx t side hs lead ys c=Nt side tk+valP fx t side hs' lead' ys':=by
 have eg:hs.getD ((lead+ys.length) % fx.n) 0=h:=by rw[Zj,eh];rfl
 unfold numP;rw[eg,Zha Pl eh hb N]
theorem On{fx:Fx}{t:Option Nat}{ys:List Nat}{h:Nat}(h32:h < 4294967296):(Qq fx t ys h).length≤Xe 32 h:=by
 unfold Qq Jx Xe;rw[← List.countP_eq_length_filter,← List.countP_eq_length_filter];refine List.countP_mono_left fun b hb e=>?_;exact(N6 (f:=fx) (t:=t) (ys:=ys) h32 (by unfold Qq Jx;exact List.mem_filter.mpr ⟨hb,e⟩)).1
theorem Ze7(a:Nat):∀ l:List Nat,(∀ x∈l,a≤x)→l.length * a≤l.sum
 | [],_=>by simp
 | y :: l,h=>by
  have:=Ze7 a l (fun x hx=>h x (Zu _ hx));have:=h y Zt;rw[Jc,List.sum_cons,Nat.succ_mul];omega
theorem Zbl(a:Nat):∀ l:List Nat,(∀ x∈l,a≤x)→a+1∈l→l.length * a+1≤l.sum
 | [],_,h=>nomatch h
 | y :: l,h,hm=>by
  rw[Jc,List.sum_cons,Nat.succ_mul];have hy:=h y Zt;rcases List.mem_cons.mp hm with e | e
  ·have:=Ze7 a l (fun x hx=>h x (Zu _ hx))
   omega
  ·have:=Zbl a l (fun x hx=>h x (Zu _ hx)) e
   omega
theorem Plc.few{fx:Fx}(ok:fx.Ok){hs:List Nat}{lead:Nat}{ys:List Nat}{m:Nat}(Pl:Plc fx hs lead ys m):m≤(Yu hs+2) / 3:=by
 rcases Nat.eq_zero_or_pos m with e | e
 ·omega
 obtain⟨a,ea⟩:∃ a,m=a+1:=⟨m - 1,by omega⟩;have h1:=(Pl.max ok).1;rw[ea] at h1;have h2:=Zbl a (hs.map (Xe 32)) (fun x hx=>by
  obtain⟨h,hh,rfl⟩:=Zw.mp hx;obtain⟨i,hi,ei⟩:=Z2.mp hh;have:=Pl.lv i h (by rw[Za hi,ei]);split at this<;>omega) h1
 rw[Zf,Pl.len] at h2;have h3:3 * a≤fx.n * a:=Nat.mul_le_mul_right _ (by rcases ok.n34 with e | e<;>omega);unfold Yu;omega
def Sn:Nat→Nat
 | 0=>1
 | k+1=>1+(k+3) / 3 * Sn k
theorem Zoq:∀ l:List Nat,(∀ x∈l,x=0)→l.sum=0
 | [],_=>rfl
 | y :: l,h=>by rw[List.sum_cons,h y Zt,Zoq l fun x hx=>h x (Zu _ hx)]
theorem Plc.tot0{fx:Fx}(ok:fx.Ok){hs:List Nat}{lead:Nat}{ys:List Nat}{m:Nat}(Pl:Plc fx hs lead ys m):Yu hs=0↔m=0:=by
 constructor
 ·intro e
  have:=Pl.few ok;omega
 ·intro e
  subst e;unfold Yu;exact Zoq _ fun x hx=>by have:=(Pl.max ok).2 x hx;omega
section
variable{P:Program}{w:World}{K:W.Frag}{mg:Str→Option Value}{base:Heap}{f g:Addr}{fd gd:FuncData}
def Ng:Sp:=fun vs H Q _=>∃ side seat:Nat,vs=[.int (side:Nat),.int (seat:Nat)]∧Q (.bl (side.testBit seat)) H
theorem Zc5:FnScope ["side","seat"] ["side","seat"] (Zp Gs):=⟨rfl,rfl,rfl,by decide +kernel,rfl,by decide +kernel,by decide +kernel⟩
theorem Zah{k:Nat}(F:Fun K "has_seat" "has_seat" Gs f fd):FnOk P w K mg base Y6 (k+1) f fd ["side","seat"] Ng:=by
 refine F.ok Zc5 (fun vs H Q E h=>?_) (fun cdv A outer s H vs Q E hr h=>?_)
 ·obtain⟨side,seat,rfl,_⟩:=h
  rfl
 obtain⟨side,seat,rfl,q⟩:=h;refine⟨_,Zv (Jj (X0 Uu (Ja Oi (Ja Zgt (pv 0) (pv 1)) Zo) Zo (Js _))),?_⟩;refine⟨_,rfl,_,rfl,_,_,rfl,rfl,by omega,_,_,rfl,rfl,rfl,?_⟩;have e:decide (V.int (Builtin.bitAnd (((side:Nat):Int) / 2 ^ (((seat:Nat):Int)).toNat) 1)=V.int 1)=side.testBit seat:=by
  have e1:((side:Nat):Int) / 2 ^ (((seat:Nat):Int)).toNat=((side / 2 ^ seat:Nat):Int):=by
   rw[Zz,Int.natCast_ediv,Int.natCast_pow];rfl
  rw[e1,Zn5,Nat.testBit_eq_decide_div_mod_eq,eq_int];exact decide_eq_decide.mpr ⟨fun h=>by omega,fun h=>by omega⟩
 show Q (V.bl (decide (V.int (Builtin.bitAnd (((side:Nat):Int) / 2 ^ (((seat:Nat):Int)).toNat) 1)=V.int 1))) H;rw[e];exact q
def Dt:Sp:=fun vs H Q _=>∃(side:Nat) (tk:Option Nat),vs=[.int (side:Nat),tkV tk]∧Q (.int ((Nt side tk:Nat):Int)) H
theorem Zml:FnScope ["side","taker"] ["side","taker"] (Zp Zfw):=⟨rfl,rfl,rfl,by decide +kernel,rfl,by decide +kernel,by decide +kernel⟩
theorem Zke{k:Nat}{f1:Addr}{d1:FuncData}(F:Fun K "gain" "gain" Zfw f fd)(LH:Lib P w K mg base k "has_seat" ["side","seat"] Ng f1 d1):FnOk P w K mg base Y6 (k+1) f fd ["side","taker"] Dt:=by
 refine F.ok Zml (fun vs H Q E h=>?_) (fun cdv A outer s H vs Q E hr h=>?_)
 ·obtain⟨side,tk,rfl,_⟩:=h
  rfl
 obtain⟨side,tk,rfl,q⟩:=h;refine⟨_,Zv (Jj (Q4 (PW.pt (Ob (Je Zjx (pv 1) Vu (Js _)) (Rw (Ey (Z6 LH.ok hr rfl LH.mg LH.kp LH.bd .nil Jn (Zb (pv 0) (Zb (pv 1) Zk))) (fun _=>rfl))))) Zo Zo)),?_⟩;refine⟨_,rfl,rfl,_,rfl,?_⟩;cases tk with
 | none=>exact No (rfl:(!decide (tkV none=V.non))=false) (Yv (Yv q))
 | some u=>
  refine No (rfl:(!decide (tkV (some u)=V.non))=true) (U1 ⟨_,rfl,_,rfl,side,u,rfl,_,rfl,?_⟩);by_cases c:side.testBit u=true
  ·rw[c]
   have e:Nt side (some u)=1:=if_pos c;rw[e] at q;exact U1 q
  ·rw[Bool.eq_false_iff.mpr c]
   have e:Nt side (some u)=0:=if_neg c;rw[e] at q;exact Yv q
def T0(hs:List Nat)(lead:Nat)(ys:List Nat):Xn:=(hs.map fun h=>.inl ((h:Nat):Int),((lead:Nat):Int),ys.map fun c=>.inl ((c:Nat):Int))
theorem Rx{H:Hp}{p:Addr}{hs:List Nat}{lead:Nat}{ys:List Nat}(h:IsPl H p hs lead ys):PlKey H (T0 hs lead ys) p:=by
 obtain⟨a,b,h1,h2,h3⟩:=h;refine⟨a,b,h1,?_,?_⟩
 ·rw[h2]
  unfold T0 vN;rw[Z1];rfl
 ·rw[h3]
  unfold T0 vN;rw[Z1];rfl
theorem E8:∀{a b:List Nat},(a.map fun h=>(Sum.inl ((h:Nat):Int):U8))=(b.map fun h=>(Sum.inl ((h:Nat):Int):U8))→a=b
 | [],[],_=>rfl
 | x :: a,y :: b,e=>by
  have e1:=List.cons.inj e;have e2:((x:Nat):Int)=((y:Nat):Int):=Sum.inl.inj e1.1;rw[E8 e1.2,show x=y by omega]
 | [],_ :: _,e=>nomatch e
 | _ :: _,[],e=>nomatch e
theorem Zjp{hs hs':List Nat}{lead lead':Nat}{ys ys':List Nat}(e:T0 hs lead ys=T0 hs' lead' ys'):hs=hs'∧lead=lead'∧ys=ys':=by
 unfold T0 at e;have e1:=congrArg (fun z:Xn=>z.1) e;have e2:=congrArg (fun z:Xn=>z.2.1) e;have e3:=congrArg (fun z:Xn=>z.2.2) e;have e2':((lead:Nat):Int)=((lead':Nat):Int):=e2;exact⟨E8 e1,by omega,E8 e3⟩
def Znx(k:Xn):Nat:=Yu (k.1.map fun x=>match x with | .inl i=>i.toNat | .inr _=>0)
theorem Zcd(hs:List Nat)(lead:Nat)(ys:List Nat):Znx (T0 hs lead ys)=Yu hs:=by
 unfold Znx T0;show Yu ((hs.map fun h=>(Sum.inl ((h:Nat):Int):U8)).map _)=_;rw[Z1]
 congr 1
 refine(Jq fun x _=>?_).trans (List.map_id _);exact Zz x
def Zlz(fx:Fx)(t:Option Nat)(side:Nat)(es:List X7):Prop:=∀ e∈es,∃ hs lead ys,e.1=T0 hs lead ys∧e.2.2=((valP fx t side hs lead ys:Nat):Int)
theorem Zf2{fx:Fx}{t:Option Nat}{side:Nat}{es:List X7}(R:Zlz fx t side es){hs:List Nat}{lead:Nat}{ys:List Nat}{v:Int}(h:K3 es (T0 hs lead ys)=some v):v=((valP fx t side hs lead ys:Nat):Int):=by
 unfold K3 at h;obtain⟨e,he,rfl⟩:=Option.map_eq_some_iff.mp h;obtain⟨hs',lead',ys',e1,e2⟩:=R e (List.mem_of_find?_eq_some he);have e3':=List.find?_some he;have e3:e.1=T0 hs lead ys:=Z4 e3';obtain⟨rfl,rfl,rfl⟩:=Zjp (e3.symm.trans e1);exact e2
def Ext(n:Nat)(es es':List X7):Prop:=∃ new,es'=es++new∧∀ e∈new,Znx e.1 < n
theorem Ext.refl(n:Nat)(es:List X7):Ext n es es:=⟨[],(Jk _).symm,fun e he=>nomatch he⟩
theorem Ext.trans{n:Nat}{a b c:List X7}(x:Ext n a b)(y:Ext n b c):Ext n a c:=by
 obtain⟨u,rfl,hu⟩:=x;obtain⟨v,rfl,hv⟩:=y;exact⟨u++v,Ut _ _ _,fun e he=>(Jh.mp he).elim (hu e) (hv e)⟩
theorem Ext.mono{n m:Nat}{a b:List X7}(x:Ext n a b)(h:n≤m):Ext m a b:=by
 obtain⟨u,e,hu⟩:=x;exact⟨u,e,fun e he=>Z3 (hu e he) h⟩
theorem Zjv{a b:List X7}{k:Xn}(h:K3 a k=none)(g:∀ e∈b,e.1≠k):K3 (a++b) k=none:=by
 unfold K3 at *;rw[Option.map_eq_none_iff] at *;rw[List.find?_eq_none] at *;intro e he;rcases Jh.mp he with z | z
 ·exact h e z
 ·simp [g e z]
theorem Zju{a:List X7}{k:Xn}{p:Addr}{n:Int}(h:K3 a k=none):K3 (a++[(k,p,n)]) k=some n:=by
 unfold K3 at *;rw[Option.map_eq_none_iff] at h;rw[List.find?_append,h];simp
structure RkC(K:W.Frag)(mg:Str→Option Value)(CR:Addr):Prop where
 cl:Cls K CR
 mR:mg "Reckoning" = some (.ref CR)
 n1:NoAttr K CR "game"
 n2:NoAttr K CR "side"
 n3:NoAttr K CR "known"
def rkN:List Str:=["game","side","known"]
structure RkF(gm d:Addr)(side:Nat)(fs:List (Str×V)):Prop where
 l1:fs.lookup ("game":Str)=some (.ref gm)
 l2:fs.lookup ("side":Str)=some (.int (side:Nat))
 l3:fs.lookup ("known":Str)=some (.ref d)
 nm:∀ m:Str,m∉rkN→fs.lookup m=none
structure Rk(P:Program)(w:World)(CR:Addr)(fx:Fx)(t:Option Nat)(side:Nat)(H:Hp)(r gm d:Addr)(es:List X7):Prop where
 o:∃ dx fs,H r=some (.ins CR dx fs)∧RkF gm d side fs
 d:H d=some (Q8 P w d es)
 ks:Tz H es
 ok:Zlz fx t side es
section
variable{CR r gm d:Addr}{fx:Fx}{t:Option Nat}{side:Nat}{H H':Hp}{es:List X7}
theorem Rk.same(h:Rk P w CR fx t side H r gm d es)(s:Same H H'):Rk P w CR fx t side H' r gm d es:=by
 obtain⟨⟨dx,fs,a,b⟩,c,e,g⟩:=h;exact⟨⟨dx,fs,s _ _ a,b⟩,s _ _ c,fun x hx=>(e x hx).mono fun b ys q=>s _ _ q,g⟩
theorem Rk.updL{l:Addr}{xs:List V}{o:HO}(h:Rk P w CR fx t side H r gm d es)(hl:H l=some (.lst xs)):Rk P w CR fx t side (upd H l o) r gm d es:=by
 obtain⟨⟨dx,fs,a,b⟩,c,e,g⟩:=h;have n1:r≠l:=fun z=>by rw[z,hl] at a;cases a
 have n2:d≠l:=fun z=>by rw[z,hl] at c;cases c
 exact⟨⟨dx,fs,by rw[Jf n1];exact a,b⟩,by rw[Jf n2];exact c,fun x hx=>(e x hx).mono fun b ys q=>by rw[Jf (Sd q hl (fun _ z=>nomatch z))];exact q,g⟩
theorem Rk.nd{b:Addr}{o:HO}(h:Rk P w CR fx t side H r gm d es)(hb:H b=some o)(n:∀ φ,o≠HO.ext φ):b≠d:=fun z=>by
 have:=h.d;rw[← z,hb] at this;exact n _ (Zr this)
theorem KpD.pl{p:Addr}{hs ys:List Nat}{lead:Nat}(k:KpD d H H')(h:Rk P w CR fx t side H r gm d es)(hp:IsPl H p hs lead ys):IsPl H' p hs lead ys:=by
 obtain⟨a,b,h1,h2,h3⟩:=hp;exact⟨a,b,k _ _ (h.nd h1 (fun _ z=>nomatch z)) h1,k _ _ (h.nd h2 (fun _ z=>nomatch z)) h2,k _ _ (h.nd h3 (fun _ z=>nomatch z)) h3⟩
theorem KpD.gam{CT CG gx:Addr}(k:KpD d H H')(h:Rk P w CR fx t side H r gm d es)(g:GamH CT CG fx t H gm gx):GamH CT CG fx t H' gm gx:=by
 obtain⟨ok,⟨dg,hg⟩,⟨dx,po,to,a,b,c⟩⟩:=g;exact⟨ok,⟨dg,k _ _ (h.nd hg (fun _ z=>nomatch z)) hg⟩,⟨dx,po,to,k _ _ (h.nd a (fun _ z=>nomatch z)) a,k _ _ (h.nd b (fun _ z=>nomatch z)) b,k _ _ (h.nd c (fun _ z=>nomatch z)) c⟩⟩
end
def Gg(P:Program)(w:World)(CR:Addr):Sp:=fun vs H Q _=>∃(r dr gm:Addr) (side:Nat),vs=[.ref r,.ref gm,.int (side:Nat)]∧H r=some (.ins CR dr [])∧∀ d H',(∀ b o,b≠r→H b=some o→H' b=some o)→H d=none→(∀ fx t,Rk P w CR fx t side H' r gm d [])→Q .non H'
theorem Zfl:FnScope ["self","game","side"] ["self","game","side"] (Zp D1):=⟨rfl,rfl,rfl,by decide +kernel,rfl,by decide +kernel,by decide +kernel⟩
theorem Mj{k:Nat}{CR:Addr}(F:Fun K "__init__" "Reckoning.__init__" D1 f fd)(C:RkC K mg CR):FnOk P w K mg base Y6 (k+1) f fd ["self","game","side"] (Gg P w CR):=by
 refine F.ok Zfl (fun vs H Q E h=>?_) (fun cdv A outer s H vs Q E hr h=>?_)
 ·obtain⟨r,dr,gm,side,rfl,_⟩:=h
  rfl
 obtain⟨r,dr,gm,side,rfl,hr0,q⟩:=h;refine⟨_,Zm (X5 (pv 0) (pv 1) rfl) (Zm (X5 (pv 0) (pv 2) rfl) (Zv (X5 (pv 0) Zgh rfl))),?_⟩;refine⟨_,rfl,_,rfl,r,CR,dr,[],rfl,hr0,C.cl,C.n1,by decide,?_⟩;have b0:∀(f:Str) (v:V) (fs:List (Str×V)) (n:Nat),fs.length≤n→(Xs f v fs).length≤n+1:=fun f v fs n h=>Nat.le_trans (Y5 _ _ _) (Nat.succ_le_succ h);have c1:=b0 "game" (.ref gm) [] 0 (Nat.le_refl _);have c2:=b0 "side" (.int (side:Nat)) _ 1 c1;refine⟨_,rfl,_,rfl,r,CR,dr,_,rfl,Zn,C.cl,C.n2,by omega,?_⟩;rw[Uq];intro d hd;have nd:r≠d:=fun z=>by rw[← z,Zn] at hd;cases hd
 have hd0:H d=none:=by rw[Jf (Ne.symm nd)] at hd;exact hd
 refine⟨_,rfl,r,CR,dr,_,rfl,(by rw[Jf nd];exact Zn),C.cl,C.n3,by omega,?_⟩;refine q d _ (fun b o n h=>?_) hd0 fun fx t=>⟨⟨dr,_,Zn,?_,?_,?_,fun m hm=>?_⟩,?_,(fun e he=>nomatch he),(fun e he=>nomatch he)⟩
 ·rw[Jf n,Jf (Jv h hd0),Jf n]
  exact h
 ·rw[Zy,if_neg (by decide +kernel),Zy,if_neg (by decide +kernel),Zy,if_pos rfl]
 ·rw[Zy,if_neg (by decide +kernel),Zy,if_pos rfl]
 ·rw[Zy,if_pos rfl]
 ·rw[Zy,if_neg (fun z=>hm (by rw[z];decide +kernel)),Zy,if_neg (fun z=>hm (by rw[z];decide +kernel)),Zy,if_neg (fun z=>hm (by rw[z];decide +kernel))]
  rfl
 ·rw[Jf (Ne.symm nd),Zn]
  rfl
def Eu(P:Program)(w:World)(CT CG CR:Addr):Sp:=fun vs H Q _=>∃(r gm gx d p l:Addr) (t:Option Nat) (fx:Fx) (side:Nat) (hs:List Nat) (lead:Nat) (ys:List Nat) (m:Nat) (es:List X7) (ps:List (Nat×Nat)),vs=[.ref r,.ref p,.ref l]∧Rk P w CR fx t side H r gm d es∧GamH CT CG fx t H gm gx∧IsPl H p hs lead ys∧Plc fx hs lead ys m∧IsPrs H l ps∧ps.length≤100∧(m=0→ps=[]) ∧
 ∀ H',Same H H'→Q (.int ((Ur (side.testBit ((lead+ys.length) % fx.n)) (ps.map (·.2)):Nat):Int)) H'
abbrev Zb8:List Str:=["self","place","pairs","numbers"]
theorem scChoice:FnScope Zb8 ["self","place","pairs"] (Zp Ru):=⟨rfl,rfl,rfl,by decide +kernel,rfl,by decide +kernel,by decide +kernel⟩
theorem Zdo{k:Nat}{CT CG CR f1 f2:Addr}{d1 d2:FuncData}(F:Fun K "choice" "Reckoning.choice" Ru f fd)(C:RkC K mg CR)(LH:Lib P w K mg base k "has_seat" ["side","seat"] Ng f1 d1)(LT:Lib P w K mg base k "turn_at" ["game","place"] (Et CT CG) f2 d2)(ml:mg "len" = none)(mM:mg "max" = none)(mMi:mg "min" = none):FnOk P w K mg base Y6 (k+1) f fd ["self","place","pairs"] (Eu P w CT CG CR):=by
 refine F.ok scChoice (fun vs H Q E h=>?_) (fun cdv A outer s H vs Q E hr h=>?_)
 ·obtain⟨r,gm,gx,d,p,l,t,fx,side,hs,lead,ys,m,es,ps,rfl,_⟩:=h
  rfl
 obtain⟨r,gm,gx,d,p,l,t,fx,side,hs,lead,ys,m,es,ps,rfl,R,G,hp,Pl,hl,p100,hm,q⟩:=h;refine⟨_,Zm (Yh (Je Uu (Jl Jt rfl ml Jg (Zb (pv 2) Zk)) Zo (Js _)) (Zv (Jj Zo)) Jz)
  (Zm (U9 (i:=3) ["card","number"] [none,none] rfl scChoice.nd rfl (Or.inl rfl) (Blk.by (sc:=Zp Ru) (N0:=Zb8) rfl rfl (by decide +kernel)) (Yn (pv 2)) (fun C s₀ H₀ ex=>Zb0 (n:=2) K rfl rfl (Yb (Jm (i:=0) (show(["card","number"]:List Str).Nodup by decide +kernel) rfl (Or.inl rfl)) (Yb (Jm (i:=1) (show(["card","number"]:List Str).Nodup by decide +kernel) rfl (Or.inl rfl)) Qu))) (fun C s₀ H₀ ex=>Uj) (fun C s₀ H₀ ex=>pv 1))
  (Zv (Jj (Q4 (Ey (Z6 LH.ok hr rfl LH.mg LH.kp LH.bd .nil Jn (Zb (Yj (pv 0) rfl) (Zb (Z6 LT.ok hr rfl LT.mg LT.kp LT.bd .nil Jn (Zb (Yj (pv 0) rfl) (Zb (pv 1) Zk))) Zk))) (fun _=>rfl)) (Jl (M5 rfl) rfl mM PyProof.Rows.boot_max (Zb (pv 3) Zk)) (Jl (Zen rfl) rfl mMi PyProof.Rows.boot_min (Zb (pv 3) Zk)))))),?_⟩
 obtain⟨as,hA,la,hP⟩:=id hl;obtain⟨dx,fs,hr0,A1⟩:=id R.o;have z1000:=Jp 1000 (by decide);have eL:decide (V.int ((((as.map V.ref).length:Nat)):Int)=V.int 0)=decide (ps=[]):=by
  rw[Zf,la,eq_int];exact decide_eq_decide.mpr ⟨fun h=>List.eq_nil_of_length_eq_zero (by omega),fun h=>by rw[h];rfl⟩
 refine⟨_,rfl,l,_,rfl,.inl (SqL.of hA),rfl,_,rfl,No eL ?_⟩;by_cases pn:ps=[]
 ·rw[Ze pn]
  have z:=q H (Same.refl H);rw[pn] at z;exact U1 z
 rw[Zd pn];refine Yv (Zb7 ?_);have m0:m≠0:=fun z=>pn (hm z);refine Jy (fun v H2=>Same H H2∧∃ ln,v = .ref ln∧H2 ln=some (.lst (vN (ps.map (·.2))))) (fun W hW=>?_) (fun v H2 z=>?_)
 ·refine⟨_,rfl,l,rfl,⟨_,SqL.of hA⟩,Tt (K:=K) hl (fun _=>true) (fun x=>.int (x.2:Nat)) (by omega) (fun x H3 hx sm R hR=>hR H3 (Same.refl H3)) (fun x H3 hx hp sm R hR=>⟨_,rfl,hR H3 (Same.refl H3)⟩) (fun ln H2 s2 hln hLn=>hW _ _ ⟨s2,ln,rfl,?_⟩)⟩
  rw[hLn,List.filter_eq_self.mpr fun _ _=>rfl];unfold vN;rw[Z1];rfl
 obtain⟨s2,ln,rfl,hLn⟩:=z;have et:Qs fx lead ys m = .int (((lead+ys.length) % fx.n:Nat):Int):=by unfold Qs;rw[if_neg m0]
 refine⟨_,rfl,r,CR,dx,_,_,rfl,s2 _ _ hr0,C.cl,C.n2,A1.l2,_,rfl,r,CR,dx,_,_,rfl,s2 _ _ hr0,C.cl,C.n1,A1.l1,_,rfl,gm,gx,p,t,fx,hs,ys,lead,m,rfl,G.same s2,hp.same s2,Pl,fun H3 s3=>?_⟩;rw[et];refine⟨side,(lead+ys.length) % fx.n,rfl,_,rfl,?_⟩;have s23:=s2.trans s3;have hL3:=s3 _ _ hLn;rw[Qr] at hL3;have pl:0 < ((ps.map (·.2)).map fun c=>((c:Nat):Int)).length:=by
  rw[Zf,Zf];exact List.length_pos_iff.mpr pn
 have fin:∀(M:Int) (hM:M∈(ps.map (·.2)).map fun c=>((c:Nat):Int)),∃ j:Nat,M=(j:Nat)∧j∈ps.map (·.2):=fun M hM=>by
  obtain⟨j,hj,e⟩:=Zw.mp hM;exact⟨j,e.symm,hj⟩
 cases c:side.testBit ((lead+ys.length) % fx.n) with
 | true=>
  refine U1 ⟨_,rfl,ln,_,rfl,SqL.of hL3,pl,fun M hM g=>?_⟩;obtain⟨j,rfl,hj⟩:=fin M hM;have z:=q H3 s23;rw[c,Zgb hj fun x hx=>by have:=g _ (Zw.mpr ⟨x,hx,rfl⟩);omega] at z;exact z
 | false=>
  refine Yv ⟨_,rfl,ln,_,rfl,SqL.of hL3,pl,fun M hM g=>?_⟩;obtain⟨j,rfl,hj⟩:=fin M hM;have z:=q H3 s23;rw[c,Zga hj fun x hx=>by have:=g _ (Zw.mpr ⟨x,hx,rfl⟩);omega] at z;exact z
def Q0(P:Program)(w:World)(CT CG CR:Addr)(kb:Nat):Sp:=fun vs H Q _=>∃(r gm gx d p:Addr) (t:Option Nat) (fx:Fx) (side:Nat) (hs:List Nat) (lead:Nat) (ys:List Nat) (m:Nat) (es:List X7),vs=[.ref r,.ref p]∧TrB t∧Rk P w CR fx t side H r gm d es∧GamH CT CG fx t H gm gx∧IsPl H p hs lead ys∧Plc fx hs lead ys m∧Yu hs+1≤kb∧es.length+Sn (Yu hs)≤1000000 ∧
 ∀ es' H',KpD d H H'→Rk P w CR fx t side H' r gm d es'→es'.length≤es.length+Sn (Yu hs)→Ext (Yu hs+1) es es'→Q (.int ((valP fx t side hs lead ys:Nat):Int)) H'
def Ai(P:Program)(w:World)(CT CG CR:Addr)(kb:Nat):Sp:=fun vs H Q _=>∃(r gm gx d p:Addr) (t:Option Nat) (fx:Fx) (side:Nat) (hs:List Nat) (lead:Nat) (ys:List Nat) (m h c:Nat) (es:List X7),vs=[.ref r,.ref p,.int (c:Nat)]∧TrB t∧Rk P w CR fx t side H r gm d es∧GamH CT CG fx t H gm gx∧IsPl H p hs lead ys∧Plc fx hs lead ys m∧hs[(lead+ys.length) % fx.n]? = some h∧c∈Qq fx t ys h∧Yu hs≤kb∧es.length+Sn (Yu hs - 1)≤1000000 ∧
 ∀ es' H',KpD d H H'→Rk P w CR fx t side H' r gm d es'→es'.length≤es.length+Sn (Yu hs - 1)→Ext (Yu hs) es es'→Q (.int ((numP fx t side hs lead ys c:Nat):Int)) H'
noncomputable def prL (fx:Fx) (t:Option Nat) (side:Nat) (hs:List Nat) (lead:Nat) (ys:List Nat) (m:Nat):List (Nat×Nat):=(moveL fx t hs lead ys m).map fun c=>(c,numP fx t side hs lead ys c)
def Dp(P:Program)(w:World)(CT CG CR:Addr)(kb:Nat):Sp:=fun vs H Q _=>∃(r gm gx d p:Addr) (t:Option Nat) (fx:Fx) (side:Nat) (hs:List Nat) (lead:Nat) (ys:List Nat) (m:Nat) (es:List X7),vs=[.ref r,.ref p]∧TrB t∧Rk P w CR fx t side H r gm d es∧GamH CT CG fx t H gm gx∧IsPl H p hs lead ys∧Plc fx hs lead ys m∧Yu hs≤kb∧es.length+Sn (Yu hs)≤1000000 ∧
 ∀ l es' H',KpD d H H'→H l=none→Rk P w CR fx t side H' r gm d es'→es'.length+1≤es.length+Sn (Yu hs)→Ext (Yu hs) es es'→IsPrs H' l (prL fx t side hs lead ys m)→Q (.ref l) H'
abbrev Zki:List Str:=["self","place","card","step"]
theorem scMadeBy:FnScope Zki ["self","place","card"] (Zp Rt):=⟨rfl,rfl,rfl,by decide +kernel,rfl,by decide +kernel,by decide +kernel⟩
theorem Zdi{k kb:Nat}{CT CG CR f1 f2 m1:Addr}{d1 d2 e1:FuncData}(F:Fun K "made_by" "Reckoning.made_by" Rt f fd)(C:RkC K mg CR)(LB:Lib P w K mg base k "behind" ["game","place","card"] (Bm K CT CG) f1 d1)(LG:Lib P w K mg base k "gain" ["side","taker"] Dt f2 d2)
  (MA:Meth K CR "made_at" m1) (FA:FnOk P w K mg base Y6 k m1 e1 ["self","place"] (Q0 P w CT CG CR kb)) (BA:Binds K e1 ["self","place"] []):FnOk P w K mg base Y6 (k+1) f fd ["self","place","card"] (Ai P w CT CG CR kb):=by
 refine F.ok scMadeBy (fun vs H Q E h=>?_) (fun cdv A outer s H vs Q E hr h=>?_)
 ·obtain⟨r,gm,gx,d,p,t,fx,side,hs,lead,ys,m,h,c,es,rfl,_⟩:=h
  rfl
 obtain⟨r,gm,gx,d,p,t,fx,side,hs,lead,ys,m,h,c,es,rfl,tb,R,G,hp,Pl,eh,hc,hk,hn,q⟩:=h;refine⟨_,Zm (Z9 (i:=3) scMadeBy.nd rfl (Or.inl rfl) (Z6 LB.ok hr rfl LB.mg LB.kp LB.bd .nil Jn (Zb (Yj (pv 0) rfl) (Zb (pv 1) (Zb (pv 2) Zk)))))
  (Zv (Jj (Ja Ym (Z6 LG.ok hr rfl LG.mg LG.kp LG.bd .nil Jn (Zb (Yj (pv 0) rfl) (Zb (Jo Jw (pv 3) Zo (fun _ _=>rfl)) Zk))) (Us (pv 0) C.cl MA FA hr BA .nil Jn (Zb (Jo Jw (pv 3) Zo (fun _ _=>rfl)) Zk))))),?_⟩
 obtain⟨dx,fs,hr0,A1⟩:=id R.o;have ok:=G.ok;have hb:=(N6 (Pl.h32 ok (Zg eh)) hc).1;refine⟨_,rfl,r,CR,dx,_,_,rfl,hr0,C.cl,C.n1,A1.l1,_,rfl,_,rfl,gm,gx,p,t,fx,hs,ys,lead,m,h,c,rfl,G,hp,Pl,eh,hb,fun st p' hs' lead' ys' tk H2 s2 N hst hp'=>?_⟩;obtain⟨m',Pl',_,tt,_,_⟩:=N.plc ok Pl eh hb;have et:Yu hs'+1=Yu hs:=tt;have R2:=R.same s2;refine⟨_,rfl,r,CR,dx,_,_,rfl,s2 _ _ hr0,C.cl,C.n2,A1.l2,_,rfl,st,_,_,_,rfl,rfl,SqT.of hst,(rfl:Xb [V.ref p',tkV tk] 1=some (tkV tk)),side,tk,rfl,?_⟩;refine⟨_,rfl,r,dx,_,rfl,s2 _ _ hr0,A1.nm _ (by decide +kernel),_,rfl,st,_,_,_,rfl,rfl,SqT.of hst,(rfl:Xb [V.ref p',tkV tk] 0=some (V.ref p')),r,gm,gx,d,p',t,fx,side,hs',lead',ys',m',es,rfl,tb,R2,G.same s2,hp',Pl',by omega,?_,fun es' H' k' R' l' E'=>?_⟩
 ·have:Yu hs - 1=Yu hs':=by omega
  rw[this] at hn;exact hn
 refine⟨_,_,rfl,rfl,?_⟩;have et':Yu hs - 1=Yu hs':=by omega
 have z:=q es' H' (fun b o n h=>k' b o n (s2 _ _ h)) R' (by rw[et'];exact l') (E'.mono (by omega));rw[Oj ok Pl eh hb N,Int.natCast_add] at z;exact z
theorem Zi9:FnScope ["self","place"] ["self","place"] (Zp Go):=⟨rfl,rfl,rfl,by decide +kernel,rfl,by decide +kernel,by decide +kernel⟩
theorem Zg1{k kb:Nat}{CT CG CR f1 m1:Addr}{d1 e1:FuncData}(F:Fun K "pairs" "Reckoning.pairs" Go f fd)(C:RkC K mg CR)(LM:Lib P w K mg base k "moves" ["game","place"] (Bk CT CG) f1 d1)
  (MB:Meth K CR "made_by" m1) (FB:FnOk P w K mg base Y6 k m1 e1 ["self","place","card"] (Ai P w CT CG CR kb)) (BB:Binds K e1 ["self","place","card"] []):FnOk P w K mg base Y6 (k+1) f fd ["self","place"] (Dp P w CT CG CR kb):=by
 refine F.ok Zi9 (fun vs H Q E h=>?_) (fun cdv A outer s H vs Q E hr h=>?_)
 ·obtain⟨r,gm,gx,d,p,t,fx,side,hs,lead,ys,m,es,rfl,_⟩:=h
  rfl
 obtain⟨r,gm,gx,d,p,t,fx,side,hs,lead,ys,m,es,rfl,tb,R,G,hp,Pl,hk,hn,q⟩:=h;refine⟨_,Zv (Jj (Y7 ["card","self","place"] [none,some 0,some 1] rfl (Blk.by (sc:=Zp Go) (N0:=["self","place"]) rfl rfl (by decide +kernel)) (Yn (Z6 LM.ok hr rfl LM.mg LM.kp LM.bd .nil Jn (Zb (Yj (pv 0) rfl) (Zb (pv 1) Zk)))) (fun C s₀ H₀ ex=>Jm (i:=0) (show(["card","self","place"]:List Str).Nodup by decide +kernel) rfl (Or.inl rfl)) (fun C s₀ H₀ ex=>Uj)
  (fun _ s₀ H₀ ex=>Y2 (Zb (pv 0) (Zb (Us (pv 1) C.cl MB FB hr BB .nil Jn (Zb (pv 2) (Zb (pv 0) Zk))) Zk))))),?_⟩
 obtain⟨dx,fs,hr0,A1⟩:=id R.o;have ok:=G.ok;obtain⟨h,eh,epc⟩:=Pl.turn ok;have h32:=Pl.h32 ok (Zg eh);have z1000:=Jp 1000 (by decide);have few:=Pl.few ok;have t0:=Pl.tot0 ok;have ml':(moveL fx t hs lead ys m).length≤m:=by
  unfold My.moveL;split
  ·exact Nat.zero_le _
  ·rw[Zj,eh]
   exact Nat.le_trans (On (h:=h) h32) (Nat.le_of_eq epc)
 have p32:Xe 32 h≤32:=by
  unfold Xe;have:=List.length_filter_le (fun b=>h.testBit b) (List.range 32);rw[Jb] at this;exact this
 have room:∀ i,i≤m→es.length+i * Sn (Yu hs - 1)+1≤es.length+Sn (Yu hs)∧(i < m→es.length+i * Sn (Yu hs - 1)+Sn (Yu hs - 1)≤1000000):=fun i hi=>by
  by_cases m0:m=0
  ·have i0:i=0:=by omega
   have tz:=t0.mpr m0;rw[i0,tz];exact⟨by show es.length+0 * Sn (0 - 1)+1≤es.length+1;omega,fun z=>by omega⟩
  ·have tn:Yu hs≠0:=fun z=>m0 (t0.mp z)
   obtain⟨j,ej⟩:∃ j,Yu hs=j+1:=⟨Yu hs - 1,by omega⟩;have es':Sn (Yu hs)=1+(j+3) / 3 * Sn j:=by rw[ej];rfl
   have ej':Yu hs - 1=j:=by omega
   have hn':=hn;rw[es'] at hn' ⊢;rw[ej'];have a1:i * Sn j≤(j+3) / 3 * Sn j:=Nat.mul_le_mul_right _ (by omega);refine⟨by omega,fun hlt=>?_⟩;have a2:(i+1) * Sn j≤(j+3) / 3 * Sn j:=Nat.mul_le_mul_right _ (by omega);rw[Nat.succ_mul] at a2;omega
 refine⟨_,rfl,r,CR,dx,_,_,rfl,hr0,C.cl,C.n1,A1.l1,_,rfl,gm,gx,p,t,fx,hs,ys,lead,m,rfl,G,tb,hp,Pl,fun lm H1 s1 hlm hLm=>?_⟩;have R1:=R.same s1;have hp1:=hp.same s1;have G1:=G.same s1;have nlm:lm≠d:=R1.nd hLm (fun _ z=>nomatch z);refine⟨lm,rfl,⟨_,SqL.of hLm⟩,Zeh (K:=K) (xs:=vN (moveL fx t hs lead ys m)) d (fun l vs H'=>∃(es':List X7) (as:List Addr),Rk P w CR fx t side H' r gm d es'∧es'.length≤es.length+vs.length * Sn (Yu hs - 1)∧Ext (Yu hs) es es'∧vs=as.map V.ref∧∀(j:Nat) (u:Addr) (c:Nat),as[j]? = some u→(moveL fx t hs lead ys m)[j]? = some c→H' u=some (.tup [.int (c:Nat),.int ((numP fx t side hs lead ys c:Nat):Int)])) ⟨_,R1.d⟩ (fun H' k'=>SqL.of (k' _ _ nlm hLm)) (by rw[J0];omega) (fun l hl=>?_) (fun i x H2 l vs hx hvl k2 hl hL hPv W hW=>?_) (fun l H2 vs k2 hl hL hvl hPv=>?_)⟩
 ·exact⟨es,[],R1.same (Zx hl _),by simp,Ext.refl _ _,rfl,fun j u c e=>by simp at e⟩
 ·obtain⟨es2,as,R2,l2,E2,ev,hP2⟩:=hPv
  unfold vN at hx;rw[Zl] at hx;obtain⟨c,hc,rfl⟩:=Option.map_eq_some_iff.mp hx;have im:i < m:=by
   have:=(Zh.mp hc).1;omega
  have m0:m≠0:=by omega
  have hc':c∈Qq fx t ys h:=by
   have:=Zg hc;unfold My.moveL at this;rw[if_neg m0,Zj,eh] at this;exact this
  obtain⟨rm1,rm2⟩:=room i (by omega);obtain⟨dx2,fs2,hr2,A2⟩:=id R2.o;have al:as.length=i:=by rw[ev,Zf] at hvl;exact hvl
  refine⟨_,rfl,_,rfl,r,dx2,_,rfl,hr2,A2.nm _ (by decide +kernel),_,rfl,_,rfl,r,gm,gx,d,p,t,fx,side,hs,lead,ys,m,h,c,es2,rfl,tb,R2,KpD.gam k2 R1 G1,KpD.pl k2 R1 hp1,Pl,eh,hc',hk,?_,fun es3 H3 k3 R3 l3 E3=>⟨Jp 2 (by decide),fun u hu=>?_⟩⟩
  ·have:=rm2 im
   rw[hvl] at l2;omega
  have a3:=Zx hu (.tup [.int (c:Nat),.int ((numP fx t side hs lead ys c:Nat):Int)]);have hU:(upd H3 u (.tup [.int (c:Nat),.int ((numP fx t side hs lead ys c:Nat):Int)])) u=some (.tup [.int (c:Nat),.int ((numP fx t side hs lead ys c:Nat):Int)]):=Zn;generalize upd H3 u (.tup [.int (c:Nat),.int ((numP fx t side hs lead ys c:Nat):Int)])=H4 at a3 hU ⊢;have R4:=R3.same a3;have nld:l≠d:=R2.nd hL (fun _ z=>nomatch z);have hL4:=a3 _ _ (k3 _ _ nld hL);refine hW _ _ (fun b o n h=>a3 _ _ (k3 b o n h)) ⟨es3,as++[u],R4.updL hL4,?_,E2.trans E3,by rw[ev,Ju];rfl,fun j v c' ej ec=>?_⟩
  ·rw[Zs,List.length_singleton,Nat.succ_mul]
   omega
  ·rcases Nat.lt_or_ge j as.length with z | z
   ·rw[Ji z] at ej
    have h1:=hP2 j v c' ej ec;have h2:=a3 _ _ (k3 _ _ (R2.nd h1 (fun _ z=>nomatch z)) h1);rw[Jf (Sd h2 hL4 (fun _ z=>nomatch z))];exact h2
   ·have jl:j=as.length:=by
     have:=(Zh.mp ej).1;rw[Zs,List.length_singleton] at this;omega
    rw[Jd z,jl,Nat.sub_self] at ej;have eu:u=v:=Zr ej;subst eu;rw[jl,al,hc] at ec;have ec':c=c':=Zr ec;subst ec';rw[Jf (Sd hU hL4 (fun _ z=>nomatch z))];exact hU
 ·obtain⟨es2,as,R2,l2,E2,ev,hP2⟩:=hPv
  rw[J0] at hvl;have al:as.length=(moveL fx t hs lead ys m).length:=by rw[ev,Zf] at hvl;exact hvl
  obtain⟨rm1,_⟩:=room (moveL fx t hs lead ys m).length ml';refine q l es2 H2 (fun b o n h=>k2 b o n (s1 _ _ h)) (s1.free hl) R2 (by rw[hvl] at l2;omega) E2 ⟨as,by rw[hL,ev],?_,fun j u pr eu ep=>?_⟩
  ·unfold prL
   rw[Zf];exact al
  ·unfold prL at ep
   rw[Zl] at ep;obtain⟨c,hc,rfl⟩:=Option.map_eq_some_iff.mp ep;exact hP2 j u c eu hc
theorem Aj:FnScope ["self","place"] ["self","place"] (Zp Bn):=⟨rfl,rfl,rfl,by decide +kernel,rfl,by decide +kernel,by decide +kernel⟩
theorem Zdj{k kb:Nat}{CT CG CR m1 m2:Addr}{e1 e2:FuncData}(F:Fun K "made_at" "Reckoning.made_at" Bn f fd)(C:RkC K mg CR)(MP:Meth K CR "pairs" m1)(FP:FnOk P w K mg base Y6 k m1 e1 ["self","place"] (Dp P w CT CG CR kb))(BP:Binds K e1 ["self","place"] [])
  (MC:Meth K CR "choice" m2) (FC:FnOk P w K mg base Y6 k m2 e2 ["self","place","pairs"] (Eu P w CT CG CR)) (BC:Binds K e2 ["self","place","pairs"] []):FnOk P w K mg base Y6 (k+1) f fd ["self","place"] (Q0 P w CT CG CR (kb+1)):=by
 refine F.ok Aj (fun vs H Q E h=>?_) (fun cdv A outer s H vs Q E hr h=>?_)
 ·obtain⟨r,gm,gx,d,p,t,fx,side,hs,lead,ys,m,es,rfl,_⟩:=h
  rfl
 obtain⟨r,gm,gx,d,p,t,fx,side,hs,lead,ys,m,es,rfl,tb,R,G,hp,Pl,hk,hn,q⟩:=h;have hu:=J1 (Nat.add_le_add_left (show 10≤64 by decide) _) hr.units;refine⟨_,Zm (Yh (Zmr (Zdb hu (pv 1) (Yj (pv 0) rfl))) (Zv (Zjm hu (Yj (pv 0) rfl) (pv 1) (Us (pv 0) C.cl MC FC hr BC .nil Jn (Zb (pv 1) (Zb (Us (pv 0) C.cl MP FP hr BP .nil Jn (Zb (pv 1) Zk)) Zk))) rfl)) Jz)
  (Zv (Jj (Zjq hu (Yj (pv 0) rfl) (pv 1) (fun _ _=>rfl)))),?_⟩
 obtain⟨dx,fs,hr0,A1⟩:=id R.o;have ok:=G.ok;have K1:=Rx hp;have few:=Pl.few ok;have t0:=Pl.tot0 ok;obtain⟨h,eh,epc⟩:=Pl.turn ok;refine⟨_,rfl,_,rfl,r,CR,dx,_,_,rfl,hr0,C.cl,C.n3,A1.l3,d,es,T0 hs lead ys,p,rfl,R.d,R.ks,rfl,K1,_,rfl,?_⟩;cases c:K3 es (T0 hs lead ys) with
 | some v=>
  refine Yv (Zb7 ?_);refine⟨_,rfl,r,CR,dx,_,_,rfl,hr0,C.cl,C.n3,A1.l3,_,rfl,d,es,T0 hs lead ys,p,v,rfl,R.d,R.ks,rfl,K1,c,?_⟩;rw[Zf2 R.ok c];exact q es H (KpD.refl _ _) R (by omega) (Ext.refl _ _)
 | none=>
  refine U1 ?_;have m32:m≤32:=by
   rw[← epc];unfold Xe;have:=List.length_filter_le (fun b=>h.testBit b) (List.range 32);rw[Jb] at this;exact this
  have pl:(prL fx t side hs lead ys m).length≤100:=by
   unfold prL;rw[Zf];unfold My.moveL;split
   ·simp
   ·rw[Zj,eh]
    have:=On (fx:=fx) (t:=t) (ys:=ys) (Pl.h32 ok (Zg eh));show(Qq fx t ys h).length≤100;omega
  refine⟨_,rfl,r,dx,_,rfl,hr0,A1.nm _ (by decide +kernel),_,rfl,_,rfl,r,dx,_,rfl,hr0,A1.nm _ (by decide +kernel),_,rfl,r,gm,gx,d,p,t,fx,side,hs,lead,ys,m,es,rfl,tb,R,G,hp,Pl,by omega,hn,fun l es1 H1 k1 nl R1 l1 E1 Pr=>?_⟩;have hp1:=KpD.pl k1 R hp;have G1:=KpD.gam k1 R G;refine⟨r,gm,gx,d,p,l,t,fx,side,hs,lead,ys,m,es1,prL fx t side hs lead ys m,rfl,R1,G1,hp1,Pl,Pr,pl,(fun z=>by unfold prL My.moveL;rw[if_pos z];rfl),fun H2 s2=>?_⟩;have ev:Ur (side.testBit ((lead+ys.length) % fx.n)) ((prL fx t side hs lead ys m).map (·.2))=valP fx t side hs lead ys:=by
   unfold prL;rw[Z1];by_cases m0:m=0
   ·have em:moveL fx t hs lead ys m=[]:=by unfold My.moveL;rw[if_pos m0]
    rw[em,Vj (t0.mpr m0)];rfl
   ·have em:moveL fx t hs lead ys m=Qq fx t ys (hs.getD ((lead+ys.length) % fx.n) 0):=by unfold My.moveL;rw[if_neg m0]
    rw[em,Vi ok Pl (fun z=>m0 (t0.mp z))];rfl
  rw[ev];have R2:=R1.same s2;obtain⟨dx2,fs2,hr2,A2⟩:=id R2.o;have hp2:=hp1.same s2;have n1:K3 es1 (T0 hs lead ys)=none:=by
   obtain⟨new,rfl,hnew⟩:=E1;refine Zjv c fun e he z=>?_;have:=hnew e he;rw[z,Zcd] at this;omega
  have sl:es1.length < sizeLine:=by rw[sizeLine_eq];omega
  refine⟨_,rfl,r,CR,dx2,_,_,rfl,hr2,C.cl,C.n3,A2.l3,_,rfl,d,es1,T0 hs lead ys,p,_,rfl,rfl,R2.d,R2.ks,rfl,Rx hp2,n1,sl,?_⟩;refine nxE ?_;generalize eG:upd H2 d (Q8 _ _ d (es1++[(T0 hs lead ys,p,((valP fx t side hs lead ys:Nat):Int))]))=H3;have eH:H3=upd H2 d (Q8 P w d (es1++[(T0 hs lead ys,p,((valP fx t side hs lead ys:Nat):Int))])):=eG.symm;have hd3:H3 d=some (Q8 P w d (es1++[(T0 hs lead ys,p,((valP fx t side hs lead ys:Nat):Int))])):=by rw[eH];exact Zn
  have k3:KpD d H2 H3:=fun b o n h=>by rw[eH,Jf n];exact h
  have R3:Rk P w CR fx t side H3 r gm d (es1++[(T0 hs lead ys,p,((valP fx t side hs lead ys:Nat):Int))]):=by
   refine⟨⟨dx2,fs2,k3 _ _ (R2.nd hr2 (fun _ z=>nomatch z)) hr2,A2⟩,hd3,fun e he=>?_,fun e he=>?_⟩
   ·rcases Jh.mp he with z | z
    ·exact(R2.ks e z).mono fun b ys q=>k3 _ _ (R2.nd q (fun _ z=>nomatch z)) q
    ·rw[Z7.mp z]
     exact(Rx hp2).mono fun b ys q=>k3 _ _ (R2.nd q (fun _ z=>nomatch z)) q
   ·rcases Jh.mp he with z | z
    ·exact R2.ok e z
    ·rw[Z7.mp z]
     exact⟨hs,lead,ys,rfl,rfl⟩
  obtain⟨dx3,fs3,hr3,A3⟩:=id R3.o;have hp3:=KpD.pl k3 R2 hp2;refine⟨_,rfl,r,CR,dx3,_,_,rfl,hr3,C.cl,C.n3,A3.l3,_,rfl,d,_,T0 hs lead ys,p,_,rfl,R3.d,R3.ks,rfl,Rx hp3,Zju n1,?_⟩;refine q _ H3 ((k1.trans s2.d).trans k3) R3 ?_ ?_
  ·rw[Zs,List.length_singleton]
   omega
  ·exact(E1.mono (by omega)).trans ⟨[(T0 hs lead ys,p,((valP fx t side hs lead ys:Nat):Int))],rfl,fun e he=>by rw[Z7.mp he,Zcd];omega⟩
end
end My
namespace My
open PySem L2
abbrev S7:Stmt:=top 52
abbrev Gp:Stmt:=top 53
abbrev S4:Stmt:=top 54
section
variable{P:Program}{w:World}{K:W.Frag}{mg:Str→Option Value}{base:Heap}{f g:Addr}{fd gd:FuncData}
def Ec(K:W.Frag):Sp:=fun vs H Q _=>∃(a:Addr) (ns:List Int) (k:Int),vs=[.ref a,.int k]∧SqL K H a (ns.map V.int)∧ns.length≤63∧0≤k∧k≤10000∧∀ z:Int,Q (.int z) H
abbrev Eh:List Str:=["_law_script","_law_k"]
theorem scMixed:FnScope ["_law_script","_law_k","_law_number","_law_root"] Eh (Zp S7):=⟨rfl,rfl,rfl,by decide +kernel,rfl,by decide +kernel,by decide +kernel⟩
theorem Dd{i:Int}(h:i.natAbs < 2 ^ 900):Wide i:=Nat.lt_trans h (Nat.pow_lt_pow_right (by decide) (by decide))
theorem Sv{i:Int}(h0:-(10 ^ 100) < i)(h1:i < 10 ^ 100):i.natAbs < 2 ^ 900:=by
 have e:(10:Int) ^ 100=((10 ^ 100:Nat):Int):=by decide
 have l:(10:Nat) ^ 100 < 2 ^ 900:=by decide
 rw[e] at h0 h1;omega
theorem Zg4{k:Nat}(F:Fun K "_law_mixed" "_law_mixed" S7 f fd)(ml:mg "len" = none):FnOk P w K mg base Y6 (k+1) f fd Eh (Ec K):=by
 refine F.ok scMixed (fun vs H Q E h=>?_) (fun cdv A outer s H vs Q E hr h=>?_)
 ·obtain⟨a,ns,k,rfl,_⟩:=h
  rfl
 obtain⟨a,ns,j,rfl,hS,h63,h0,h1,q⟩:=h;refine⟨_,Zm (Z9 (i:=2) scMixed.nd rfl (Or.inl rfl) (Ja Ym (pv 1) Zo))
  (Zm (Yh (Je E5 (Jl Jt rfl ml Jg (Zb (pv 0) Zk)) Zo (Js _))
   (Zv (Z9 (i:=2) scMixed.nd rfl (Or.inl rfl) (Ja Ym (pv 2) (Ja Xa (Ja Y3 (Jo J9 (pv 0) (Ja Y3 (pv 1) (Jl Jt rfl ml Jg (Zb (pv 0) Zk))) (fun _ _=>rfl)) (Ja Zm5 Zo Zo))
    (Ja Ym (Ja Ys (pv 1) (Jl Jt rfl ml Jg (Zb (pv 0) Zk))) Zo))))) Jz)
  (Zm (Z9 (i:=3) scMixed.nd rfl (Or.inl rfl) (Ja Xa (pv 2) Zo))
  (Zv (Jj (Ja Ys (Ja Zb5 (Ja Zb5 (pv 3) (pv 3)) (pv 3)) Zo))))),?_⟩
 have hl:(ns.map V.int).length=ns.length:=Zf _;refine⟨_,rfl,_,_,rfl,rfl,_,rfl,a,_,rfl,.inl hS,_,_,rfl,rfl,_,rfl,?_⟩;have fin:∀ n:Int,0≤n→n < 10 ^ 70→∀ σ:St,σ[2]? = some (some (V.int n))→σ.length=4 →
   (Ze4 (Zc0 (tOp (rI CMul fun i j=>.int (i * j)) (Zcz 2) (tC (.int 6364136223846793005))) (Uv 3)) (Zoi (tOp (rI Zpy fun i j=>.int (i / j)) (tOp (rI Zim fun i j=>.int (i * j)) (tOp (rI Zim fun i j=>.int (i * j)) (Zcz 3) (Zcz 3)) (Zcz 3)) (tC (.int 1000003)))):TS)
    { nx:=fun _ H'=>Q .non H',rt:=Q } σ H:=by
  intro n n0 n1 σ e2 hlen;have e70:(10:Int) ^ 70=10000000000000000000000000000000000000000000000000000000000000000000000:=by decide
  have e100:(10:Int) ^ 100=10000000000000000000000000000000000000000000000000000000000000000000000000000000000000000000000000000:=by decide
  rw[e70] at n1;have e3:(σ.set 3 (some (V.int (n * 6364136223846793005))))[3]? = some (some (V.int (n * 6364136223846793005))):=by
   rw[List.getElem?_set_self (by omega)]
  have w1:(n * 6364136223846793005).natAbs < 2 ^ 900:=Sv (by rw[e100];omega) (by rw[e100];omega);have w2:(n * 6364136223846793005 * (n * 6364136223846793005)).natAbs < 2 ^ 1800:=by
   rw[Int.natAbs_mul];have:(2:Nat) ^ 1800=2 ^ 900 * 2 ^ 900:=by rw[← Nat.pow_add]
   rw[this];exact Nat.mul_lt_mul'' w1 w1
  refine⟨_,e2,_,_,rfl,rfl,.inr ⟨by decide,by decide⟩,?_⟩;refine⟨_,e3,_,e3,_,_,rfl,rfl,⟨Dd w1,Dd w1⟩,_,e3,_,_,rfl,rfl,⟨Nat.lt_trans w2 (Nat.pow_lt_pow_right (by decide) (by decide)),Dd w1⟩,_,_,rfl,rfl,⟨by decide,by decide⟩,?_⟩;exact q _
 refine N9 (fun c=>?_) (fun c=>?_)
 ·have c':(((ns.map V.int).length:Nat):Int) > 0:=Z4 c
  rw[hl] at c';obtain⟨v,hv⟩:=Zkr (ns:=ns) (k:=j) (by omega);have d0:0≤j / (((ns.map V.int).length:Nat):Int):=Int.ediv_nonneg h0 (by omega);have d1:j / (((ns.map V.int).length:Nat):Int)≤j:=Int.ediv_le_self _ h0;have p0:(0:Int) < 10 ^ (64:Int).toNat:=by decide
  have m0:0≤v % 10 ^ (64:Int).toNat:=J7 _ (by omega);have m1:v % 10 ^ (64:Int).toNat < 10 ^ (64:Int).toNat:=J6 _ p0;refine⟨_,rfl,_,rfl,_,rfl,_,rfl,a,_,rfl,.inl hS,_,_,rfl,rfl,(by rw[hl];omega),a,_,_,_,rfl,rfl,hS,hv,_,_,rfl,rfl,⟨by decide,by decide,by decide⟩,_,_,rfl,rfl,p0,_,rfl,_,rfl,a,_,rfl,.inl hS,_,_,rfl,rfl,⟨by rw[hl];omega,by rw[hl];omega⟩,_,_,rfl,rfl,_,_,rfl,rfl,.inr ⟨by omega,by omega⟩,_,_,rfl,rfl,?_⟩;refine fin _ ?_ ?_ _ rfl rfl
  ·have:=Int.mul_nonneg m0 (show 0≤j / (((ns.map V.int).length:Nat):Int)+1 by omega)
   omega
  ·have z:=Int.mul_le_mul_of_nonneg_left (show j / (((ns.map V.int).length:Nat):Int)+1≤10001 by omega) m0
   have e64:(10:Int) ^ (64:Int).toNat=10000000000000000000000000000000000000000000000000000000000000000:=by decide
   have e70:(10:Int) ^ 70=10000000000000000000000000000000000000000000000000000000000000000000000:=by decide
   rw[e64] at m1;rw[e70];rw[e64] at z ⊢;omega
 ·refine fin _ (by omega) ?_ _ rfl rfl
  have e70:(10:Int) ^ 70=10000000000000000000000000000000000000000000000000000000000000000000000:=by decide
  rw[e70];omega
theorem Bp(F:Nat→Addr→Prop):∀(vs:List V) (k:Nat),(∀ i v,vs[i]? = some v→∃ p,v = .ref p∧F (k+i) p)→∃ ps:List Addr,vs=ps.map V.ref∧∀ i p,ps[i]? = some p→F (k+i) p
 | [],_,_=>⟨[],rfl,fun i p h=>by simp at h⟩
 | v :: vs,k,h=>by
  obtain⟨p,e,hp⟩:=h 0 v rfl;obtain⟨ps,e2,hs⟩:=Bp F vs (k+1) (fun i v hv=>by
   obtain⟨p,e,z⟩:=h (i+1) v (by simpa using hv);exact⟨p,e,by rwa [show k+1+i=k+(i+1) by omega]⟩)
  refine⟨p :: ps,by rw[e,e2];rfl,fun i u hu=>?_⟩;cases i with
  | zero=>
   have e:p=u:=by simpa using hu
   subst e;exact hp
  | succ i=>
   have z:=hs i u (by simpa using hu)
   rwa [show k+1+i=k+(i+1) by omega] at z
def T1(H:Hp)(p:Addr):Nat:=match H p with | some (.tup [_,.int i])=>i.toNat | _=>0
def Zqg(H:Hp)(x:V):V:=match x with | .ref p=>.int ((T1 H p:Nat):Int) | _=>.non
structure Prs(H:Hp)(ps:List Addr)(xs:List Nat):Prop where
 len:ps.length=xs.length
 at_:∀(i:Nat) (p:Addr) (c:Nat),ps[i]? = some p→xs[i]? = some c→∃ x:Int,H p=some (.tup [.int x,.int ((c:Nat):Int)])
theorem Prs.map{H:Hp}{ps:List Addr}{xs:List Nat}(h:Prs H ps xs):ps.map (T1 H)=xs:=by
 apply Ua;intro i;rw[Zl];cases e:ps[i]? with
 | none=>
  have:xs[i]? = none:=by
   rw[List.getElem?_eq_none_iff] at *;rw[← h.len];exact e
  rw[this];rfl
 | some p=>
  have hi:i < xs.length:=by rw[← h.len];exact(Zh.mp e).1
  obtain⟨x,hx⟩:=h.at_ i p _ e (Za hi);rw[Za hi];show some (T1 H p)=some xs[i];unfold T1;rw[hx];exact congrArg some (Zz _)
theorem Prs.tup{H:Hp}{ps:List Addr}{xs:List Nat}(h:Prs H ps xs):∀ p∈ps,∃ x:Int,H p=some (.tup [.int x,.int ((T1 H p:Nat):Int)]):=fun p hp=>by
 obtain⟨i,hi⟩:=List.getElem?_of_mem hp;have hl:i < xs.length:=by rw[← h.len];exact(Zh.mp hi).1
 obtain⟨x,hx⟩:=h.at_ i p _ hi (Za hl);refine⟨x,?_⟩;unfold T1;rw[hx];show some (HO.tup [V.int x,V.int _])=some (HO.tup [V.int x,V.int ((((xs[i]:Nat):Int).toNat:Nat):Int)]);rw[Zz]
def Dr(K:W.Frag):Sp:=fun vs H Q _=>∃(a:Addr) (ns:List Int) (k h:Nat),vs=[.ref a,.int (k:Nat),.int (h:Nat)]∧SqL K H a (ns.map V.int)∧ns.length≤63∧k≤1000∧h≤8∧∀(l:Addr) (ls:List Nat) H',ls.Perm (List.range h)→Same H H'→H l=none→H' l=some (.lst (vN ls))→Q (.ref l) H'
abbrev G7:List Str:=["_law_script","_law_k","_law_heights"]
abbrev Zap:List Str:=["_law_script","_law_k","_law_heights","_law_order_here"]
abbrev nO1:List Str:=["_law_height","_law_script","_law_k"]
theorem scOrder:FnScope Zap G7 (Zp Gp):=⟨rfl,rfl,rfl,by decide +kernel,rfl,by decide +kernel,by decide +kernel⟩
theorem Zg2{k:Nat}{f1:Addr}{d1:FuncData}(F:Fun K "_law_order" "_law_order" Gp f fd)(LX:Lib P w K mg base k "_law_mixed" Eh (Ec K) f1 d1)(mr:mg "range" = none)(mso:mg "sorted" = none):FnOk P w K mg base Y6 (k+1) f fd G7 (Dr K):=by
 refine F.ok scOrder (fun vs H Q E h=>?_) (fun cdv A outer s H vs Q E hr h=>?_)
 ·obtain⟨a,ns,kk,h,rfl,_⟩:=h
  rfl
 obtain⟨a,ns,kk,h,rfl,hS,h63,k1000,h8,q⟩:=h;refine⟨_,Zm (Z9 (i:=3) scOrder.nd rfl (Or.inl rfl) (Jl Vc rfl mso Yg (Zb (Y7 nO1 [none,some 0,some 1] rfl (Blk.by (sc:=Zp Gp) (N0:=Zap) rfl rfl (by decide +kernel)) (Xc rfl mr (Zb (pv 2) Zk))
   (fun C s₀ H₀ ex=>Jm (i:=0) (show nO1.Nodup by decide +kernel) rfl (Or.inl rfl)) (fun C s₀ H₀ ex=>Uj)
   (fun C s₀ H₀ ex=>Y2 (Zb (Ja Y3 (Z6 LX.ok hr rfl LX.mg LX.kp LX.bd .nil Jn (Zb (pv 1) (Zb (Ja Ym (pv 2) (pv 0)) Zk))) Zo) (Zb (pv 0) Zk)))) Zk)))
  (Zv (Jj (Y7 ["_law_pair"] [none] rfl (Blk.by (sc:=Zp Gp) (N0:=Zap) rfl rfl (by decide +kernel)) (Yn (pv 3)) (fun C s₀ H₀ ex=>Jm (i:=0) (show(["_law_pair"]:List Str).Nodup by decide +kernel) rfl (Or.inl rfl)) (fun C s₀ H₀ ex=>Uj)
   (fun C s₀ H₀ ex=>Jo (show IxR _ (Zji K) from Jw) (pv 0) Zo (fun _ _=>rfl))))),?_⟩
 refine⟨_,rfl,(h:Int),rfl,by omega,by omega,?_⟩;refine Zeg (n:=h) (lo:=0) (fun i v H=>∃(p:Addr) (x:Int),v = .ref p∧H p=some (.tup [.int x,.int ((i:Nat):Int)])) (Jp _ (by omega)) (fun i v H H' ⟨p,x,e,h⟩ sm=>⟨p,x,e,sm _ _ h⟩) (fun i v H l xs ys ⟨p,x,e,h⟩ hl=>⟨p,x,e,?_⟩) (fun i H2 hi sm R hR=>?_) (fun l H2 vs sm hl hL hvl hvs=>?_)
 ·rw[Jf (fun z=>by rw[z,hl] at h;cases h)]
  exact h
 ·refine⟨_,rfl,_,rfl,_,rfl,_,_,rfl,rfl,a,ns,((kk:Nat):Int)+(0+((i:Nat):Int)),rfl,sm.seq hS,h63,by omega,by omega,fun y=>?_⟩
  refine⟨_,_,rfl,rfl,(show(0:Int) < 10007 by decide),_,rfl,Jp 2 (by decide),fun p hp=>hR _ _ (Zx hp _) ⟨p,y % 10007,rfl,?_⟩⟩;rw[Zn,Int.zero_add]
 obtain⟨ps,rfl,hps⟩:=Bp (fun i p=>∃ x:Int,H2 p=some (.tup [.int x,.int ((i:Nat):Int)])) vs 0 fun i v hv=>by
  obtain⟨p,x,e,h⟩:=hvs i v hv;exact⟨p,e,x,by rw[Nat.zero_add];exact h⟩
 rw[Zf] at hvl;have Pr:Prs H2 ps (List.range h):=⟨by rw[hvl,Jb],fun i p c e1 e2=>by
  obtain⟨x,hx⟩:=hps i p e1;have hi:i < h:=by
   have:=(Zh.mp e2).1;rw[Jb] at this;exact this
  rw[Yk hi] at e2;cases e2;exact⟨x,by rw[hx,Nat.zero_add]⟩⟩
 refine⟨l,ps,rfl,SqL.of hL,by omega,fun p hp=>?_,fun l2 qs hl2 pq=>?_⟩
 ·obtain⟨x,hx⟩:=Pr.tup p hp
  exact⟨_,_,SqT.of hx⟩
 have ql:qs.length=h:=pq.length_eq.trans hvl;have sm2:=Zx hl2 (.lst (qs.map V.ref));refine⟨_,rfl,l2,rfl,⟨_,SqL.of Zn⟩,Uf (K:=K) (xs:=qs.map V.ref) (fun _=>true) (Zqg H2) (SqL.of Zn) (Jp _ (by rw[Zf];omega)) (fun x H3 hx sm R hR=>hR H3 (Same.refl H3)) (fun x H3 hx hp sm4 R hR=>?_) (fun l4 H4 sm4 hl4 hL4=>?_)⟩
 ·obtain⟨p,hp,rfl⟩:=Zw.mp hx
  obtain⟨x,hx⟩:=Pr.tup p (pq.mem_iff.mp hp);exact⟨_,rfl,p,_,_,_,rfl,rfl,SqT.of (sm4 _ _ (sm2 _ _ hx)),U7 (j:=1) rfl,hR H3 (Same.refl H3)⟩
 ·rw[List.filter_eq_self.mpr fun _ _=>rfl,Z1] at hL4
  have pm:(qs.map (T1 H2)).Perm (List.range h):=by rw[← Pr.map];exact pq.map _
  refine q l4 (qs.map (T1 H2)) H4 pm ((sm.trans sm2).trans sm4) (sm.free (sm2.free hl4)) ?_;rw[hL4];unfold vN;rw[Z1];rfl
def trI:Option Nat→Int
 | none=>4
 | some u=>((u:Nat):Int)
def rtV(f:Fx)(t:Option Nat)(sz:Nat)(lo:Addr):List V:=[.int (f.n:Nat),.int (f.s:Nat),.int (sz:Nat),.str (wd f.d),.int (trI t),.ref lo]
def IsRt(H:Hp)(d:Addr)(f:Fx)(t:Option Nat)(sz:Nat):Prop:=∃ lo lp lh,H d=some (.tup (rtV f t sz lo))∧H lo=some (.lst [.ref lp,.ref lh])∧H lp=some (.lst (vN f.pl))∧H lh=some (.lst (vN f.tr))
theorem IsRt.same{H H':Hp}{d:Addr}{f:Fx}{t:Option Nat}{sz:Nat}(h:IsRt H d f t sz)(s:Same H H'):IsRt H' d f t sz:=by
 obtain⟨lo,lp,lh,a,b,c,e⟩:=h;exact⟨lo,lp,lh,s _ _ a,s _ _ b,s _ _ c,s _ _ e⟩
theorem N1{f:Fx}{t:Option Nat}{sz:Nat}{lo:Addr}:Xb (rtV f t sz lo) 0=some (.int (f.n:Nat))∧Xb (rtV f t sz lo) 1=some (.int (f.s:Nat))∧Xb (rtV f t sz lo) 2=some (.int (sz:Nat))∧Xb (rtV f t sz lo) 3=some (.str (wd f.d))∧Xb (rtV f t sz lo) 4=some (.int (trI t))∧Xb (rtV f t sz lo) 5=some (.ref lo):=⟨rfl,rfl,rfl,rfl,rfl,rfl⟩
theorem Zl6(p:Int):∃ t:Option Nat,TrB t∧p % 5=trI t:=by
 have h0:=J7 p (show(5:Int)≠0 by decide);have h1:=J6 p (show(0:Int) < 5 by decide);by_cases e:p % 5=4
 ·exact⟨none,(fun u e=>nomatch e),e⟩
 ·exact⟨some (p % 5).toNat,fun u z=>by cases z;omega,by show p % 5=(((p % 5).toNat:Nat):Int);omega⟩
theorem Zk8(p:Int):∃ d:_root_.Fin 4,Xb [V.str "free",V.str "follow",V.str "cut",V.str "beat"] (p % 4)=some (.str (wd d)):=by
 have h0:=J7 p (show(4:Int)≠0 by decide);have h1:=J6 p (show(0:Int) < 4 by decide);generalize p % 4=r at h0 h1;have:r=0∨r=1∨r=2∨r=3:=by omega
 rcases this with rfl | rfl | rfl | rfl
 ·exact⟨0,rfl⟩
 ·exact⟨1,rfl⟩
 ·exact⟨2,rfl⟩
 ·exact⟨3,rfl⟩
theorem Nr{z:Int}(h:0≤z):V.int z=V.int ((z.toNat:Nat):Int):=by rw[Int.toNat_of_nonneg h]
def Dn(K:W.Frag):Sp:=fun vs H Q _=>∃(a:Addr) (ns:List Int) (mo:Nat),vs=[.ref a,.int (mo:Nat)]∧SqL K H a (ns.map V.int)∧ns.length≤63∧mo≤100 ∧
 ∀ d f t sz H',Same H H'→H d=none→IsRt H' d f t sz→f.Ok→TrB t→sz≤mo→(f.n=4→sz≤2∨sz+1≤mo)→sz * f.n≤f.s * f.h→Q (.ref d) H'
abbrev Znn:List Str:=["_law_script","_law_most","_law_seats","_law_suits","_law_size","_law_low","_law_heights","_law_word","_law_trump","_law_orders"]
theorem scRules:FnScope Znn ["_law_script","_law_most"] (Zp S4):=⟨rfl,rfl,rfl,by decide +kernel,rfl,by decide +kernel,by decide +kernel⟩
theorem Zgz{k:Nat}{f1 f2:Addr}{d1 d2:FuncData}(F:Fun K "_law_rules" "_law_rules" S4 f fd)(LX:Lib P w K mg base k "_law_mixed" Eh (Ec K) f1 d1)(LO:Lib P w K mg base k "_law_order" G7 (Dr K) f2 d2)(mMx:mg "max" = none)(mMn:mg "min" = none):FnOk P w K mg base Y6 (k+1) f fd ["_law_script","_law_most"] (Dn K):=by
 refine F.ok scRules (fun vs H Q E h=>?_) (fun cdv A outer s H vs Q E hr h=>?_)
 ·obtain⟨a,ns,mo,rfl,_⟩:=h
  rfl
 obtain⟨a,ns,mo,rfl,hS,h63,mo100,q⟩:=h;refine⟨_,Zm (Z9 (i:=2) scRules.nd rfl (Or.inl rfl) (Ja Ym Zo (Ja Y3 (Z6 LX.ok hr rfl LX.mg LX.kp LX.bd .nil Jn (Zb (pv 0) (Zb Zo Zk))) Zo)))
  (Zm (Z9 (i:=3) scRules.nd rfl (Or.inl rfl) (Ja Ym Zo (Ja Y3 (Z6 LX.ok hr rfl LX.mg LX.kp LX.bd .nil Jn (Zb (pv 0) (Zb Zo Zk))) Zo)))
  (Zm (Z9 (i:=4) scRules.nd rfl (Or.inl rfl) (Jl (V5 rfl) rfl mMn PyProof.Rows.boot_min (Zb (Ja Y3 (Z6 LX.ok hr rfl LX.mg LX.kp LX.bd .nil Jn (Zb (pv 0) (Zb Zo Zk))) (Ja Ym (pv 1) Zo)) (Zb (Ja Ys (Ja Xa Zo (pv 3)) (pv 2)) Zk))))
  (Zm (Yh (Je Uu (pv 2) Zo (Js _)) (Zv (Z9 (i:=4) scRules.nd rfl (Or.inl rfl) (Jl (V5 rfl) rfl mMn PyProof.Rows.boot_min (Zb (pv 4) (Zb (Jl (V6 rfl) rfl mMx PyProof.Rows.boot_max (Zb Zo (Zb (Ja G9 (pv 1) Zo) Zk))) Zk))))) Jz)
  (Zm (Z9 (i:=5) scRules.nd rfl (Or.inl rfl) (Jl (V6 rfl) rfl mMx PyProof.Rows.boot_max (Zb Zo (Zb (Ja Ys (Ja G9 (Ja Ym (Ja Xa (pv 2) (pv 4)) (pv 3)) Zo) (pv 3)) Zk))))
  (Zm (Z9 (i:=6) scRules.nd rfl (Or.inl rfl) (Ja Ym (pv 5) (Ja Y3 (Z6 LX.ok hr rfl LX.mg LX.kp LX.bd .nil Jn (Zb (pv 0) (Zb Zo Zk))) (Ja G9 Zo (pv 5)))))
  (Zm (Z9 (i:=7) scRules.nd rfl (Or.inl rfl) (Jo J9 (Uk (Zb Yl (Zb Yl (Zb Yl (Zb Yl Zk))))) (Ja Y3 (Z6 LX.ok hr rfl LX.mg LX.kp LX.bd .nil Jn (Zb (pv 0) (Zb Zo Zk))) Zo) (fun _ _=>rfl)))
  (Zm (Z9 (i:=8) scRules.nd rfl (Or.inl rfl) (Ja Y3 (Z6 LX.ok hr rfl LX.mg LX.kp LX.bd .nil Jn (Zb (pv 0) (Zb Zo Zk))) Zo))
  (Zm (Z9 (i:=9) scRules.nd rfl (Or.inl rfl) (Uk (Zb (Z6 LO.ok hr rfl LO.mg LO.kp LO.bd .nil Jn (Zb (pv 0) (Zb Zo (Zb (pv 6) Zk)))) (Zb (Z6 LO.ok hr rfl LO.mg LO.kp LO.bd .nil Jn (Zb (pv 0) (Zb Zo (Zb (pv 6) Zk)))) Zk))))
  (Zv (Jj (Y2 (Zb (pv 2) (Zb (pv 3) (Zb (pv 4) (Zb (pv 7) (Zb (pv 8) (Zb (pv 9) Zk))))))))))))))))),?_⟩
 have z1000:=Jp 1000 (by decide);refine Jy (fun v H1=>H1=H∧∃ n:Nat,v = .int (n:Nat)∧(n=3∨n=4)) (fun R hR=>⟨_,rfl,a,ns,0,rfl,hS,h63,by decide,by decide,fun z=>⟨_,_,rfl,rfl,(show(0:Int) < 2 by decide),_,_,rfl,rfl,hR _ _ ⟨rfl,(3+z % 2).toNat,Nr (by omega),by omega⟩⟩⟩) (fun v H1 z=>?_);obtain⟨rfl,n,rfl,hn⟩:=z;refine Jy (fun v H2=>H2=H1∧∃ u:Nat,v = .int (u:Nat)∧1≤u∧u≤4) (fun R hR=>⟨_,rfl,a,ns,1,rfl,hS,h63,by decide,by decide,fun z=>⟨_,_,rfl,rfl,(show(0:Int) < 4 by decide),_,_,rfl,rfl,hR _ _ ⟨rfl,(1+z % 4).toNat,Nr (by omega),by omega,by omega⟩⟩⟩) (fun v H2 z=>?_);obtain⟨rfl,u,rfl,u1,u4⟩:=z;have n0:0 < n:=by omega
 have eq8:(8:Int) * ((u:Nat):Int) / ((n:Nat):Int)=((8 * u / n:Nat):Int):=by rw[Int.natCast_ediv,Int.natCast_mul];rfl
 have q8:8 * u / n * n≤8 * u:=Nat.div_mul_le_self _ _;refine Jy (fun v H3=>H3=H2∧∃ sz:Nat,v = .int (sz:Nat)∧sz≤mo∧sz * n≤8 * u) (fun R hR=>⟨_,rfl,a,ns,2,rfl,hS,h63,by decide,by decide,fun z=>⟨_,rfl,_,_,rfl,rfl,_,_,rfl,rfl,(by show(0:Int) < ((mo:Nat):Int)+1;omega),_,rfl,_,_,rfl,rfl,.inl ⟨by decide,by decide⟩,_,rfl,_,_,rfl,rfl,⟨(by show(0:Int) < ((n:Nat):Int);omega),(by show((n:Nat):Int) < _;omega)⟩,_,_,rfl,?_⟩⟩) (fun v H3 z=>?_)
 ·have r0:=J7 z (show((mo:Nat):Int)+1≠0 by omega)
  have r1:=J6 z (show(0:Int) < ((mo:Nat):Int)+1 by omega);rw[eq8];generalize 8 * u / n=g8 at q8 ⊢;refine hR _ _ ⟨rfl,(if((g8:Nat):Int) < z % (((mo:Nat):Int)+1) then((g8:Nat):Int) else z % (((mo:Nat):Int)+1)).toNat,Nr (by split<;>omega),?_,?_⟩
  ·split<;>omega
  ·have le:(if((g8:Nat):Int) < z % (((mo:Nat):Int)+1) then((g8:Nat):Int) else z % (((mo:Nat):Int)+1)).toNat≤g8:=by split<;>omega
   exact Nat.le_trans (Nat.mul_le_mul_right _ le) q8
 obtain⟨rfl,sz0,rfl,szm0,szn0⟩:=z;refine Xg (fun σ H4=>H4=H3∧∃ sz:Nat,σ=[some (.ref a),some (.int (mo:Nat)),some (.int (n:Nat)),some (.int (u:Nat)),some (.int (sz:Nat)),none,none,none,none,none]∧sz≤mo∧(n=4→sz≤2∨sz+1≤mo)∧sz * n≤8 * u) (fun D' er nx=>?_) (fun σ H4 z=>?_)
 ·refine⟨_,rfl,rfl,_,rfl,?_⟩
  have e4:decide (V.int ((n:Nat):Int)=V.int 4)=decide (n=4):=Zao rfl;refine No e4 ?_;by_cases c:n=4
  ·rw[Ze c]
   refine U1 ⟨_,rfl,_,rfl,_,_,rfl,rfl,_,_,rfl,_,_,rfl,?_⟩;have v0:V.int (if(if((mo:Nat):Int) - 1 > 2 then((mo:Nat):Int) - 1 else 2) < ((sz0:Nat):Int) then(if((mo:Nat):Int) - 1 > 2 then((mo:Nat):Int) - 1 else 2) else((sz0:Nat):Int))=V.int (((if(if((mo:Nat):Int) - 1 > 2 then((mo:Nat):Int) - 1 else 2) < ((sz0:Nat):Int) then(if((mo:Nat):Int) - 1 > 2 then((mo:Nat):Int) - 1 else 2) else((sz0:Nat):Int)).toNat:Nat):Int):=Nr (by split<;>split<;>omega);refine nx _ _ ⟨rfl,(if(if((mo:Nat):Int) - 1 > 2 then((mo:Nat):Int) - 1 else 2) < ((sz0:Nat):Int) then(if((mo:Nat):Int) - 1 > 2 then((mo:Nat):Int) - 1 else 2) else((sz0:Nat):Int)).toNat,by rw[← v0];rfl,?_,fun _=>?_,?_⟩
   ·split<;>split<;>omega
   ·split<;>split<;>omega
   ·have le:(if(if((mo:Nat):Int) - 1 > 2 then((mo:Nat):Int) - 1 else 2) < ((sz0:Nat):Int) then(if((mo:Nat):Int) - 1 > 2 then((mo:Nat):Int) - 1 else 2) else((sz0:Nat):Int)).toNat≤sz0:=by split<;>split<;>omega
    exact Nat.le_trans (Nat.mul_le_mul_right _ le) szn0
  ·rw[Zd c]
   exact Yv (nx _ _ ⟨rfl,sz0,rfl,szm0,fun z=>absurd z c,szn0⟩)
 obtain⟨rfl,sz,rfl,szm,sz4,szn⟩:=z;have ns8:n * sz≤8 * u:=by rw[Nat.mul_comm];exact szn
 refine Jy (fun v H5=>H5=H4∧∃ lw:Nat,v = .int (lw:Nat)∧1≤lw∧lw≤8∧sz * n≤u * lw) (fun R hR=>⟨_,rfl,_,rfl,_,_,rfl,rfl,.inl ⟨by omega,by omega⟩,_,rfl,_,_,rfl,rfl,_,_,rfl,rfl,_,rfl,_,_,rfl,rfl,⟨(by show(0:Int) < ((u:Nat):Int);omega),(by show((u:Nat):Int) < _;omega)⟩,_,_,rfl,?_⟩) (fun v H5 z=>?_)
 ·have e:(((n:Nat):Int) * ((sz:Nat):Int)+((u:Nat):Int) - 1) / ((u:Nat):Int)=(((n * sz+u - 1) / u:Nat):Int):=by
   rw[Int.natCast_ediv,← Int.natCast_mul]
   congr 1
   omega
  rw[e];have d1:(n * sz+u - 1) / u≤8:=by
   have:(n * sz+u - 1) / u < 9:=Nat.div_lt_of_lt_mul (by omega);omega
  have d2:n * sz≤u * ((n * sz+u - 1) / u):=by
   have:=Nat.div_add_mod (n * sz+u - 1) u;have:=Nat.mod_lt (n * sz+u - 1) (show u > 0 by omega);omega
  generalize (n * sz+u - 1) / u=g9 at d1 d2 ⊢;refine hR _ _ ⟨rfl,(if((g9:Nat):Int) > 1 then((g9:Nat):Int) else 1).toNat,Nr (by split<;>omega),by split<;>omega,by split<;>omega,?_⟩;have le:g9≤(if((g9:Nat):Int) > 1 then((g9:Nat):Int) else 1).toNat:=by split<;>omega
  rw[Nat.mul_comm sz n];exact Nat.le_trans d2 (Nat.mul_le_mul_left _ le)
 obtain⟨rfl,lw,rfl,lw1,lw8,lwn⟩:=z;refine Jy (fun v H6=>H6=H5∧∃ hh:Nat,v = .int (hh:Nat)∧lw≤hh∧hh≤8) (fun R hR=>⟨_,rfl,_,rfl,a,ns,3,rfl,hS,h63,by decide,by decide,fun z=>⟨_,rfl,_,_,rfl,rfl,_,_,rfl,rfl,(by show(0:Int) < 9 - ((lw:Nat):Int);omega),_,_,rfl,rfl,?_⟩⟩) (fun v H6 z=>?_)
 ·have r0:=J7 z (show(9:Int) - ((lw:Nat):Int)≠0 by omega)
  have r1:=J6 z (show(0:Int) < 9 - ((lw:Nat):Int) by omega);exact hR _ _ ⟨rfl,(((lw:Nat):Int)+z % (9 - ((lw:Nat):Int))).toNat,Nr (by omega),by omega,by omega⟩
 obtain⟨rfl,hh,rfl,hlw,hh8⟩:=z;refine Jy (fun v H7=>Same H6 H7∧∃ dd:_root_.Fin 4,v = .str (wd dd)) (fun R hR=>⟨Jp 4 (by decide),fun lq hlq=>⟨_,rfl,a,ns,4,rfl,((Zx hlq _).seq hS),h63,by decide,by decide,fun z=>?_⟩⟩) (fun v H7 z=>?_)
 ·obtain⟨dd,et⟩:=Zk8 z
  exact⟨_,_,rfl,rfl,(show(0:Int) < 4 by decide),lq,_,_,_,rfl,rfl,SqL.of Zn,et,hR _ _ ⟨Zx hlq _,dd,rfl⟩⟩
 obtain⟨s7,dd,rfl⟩:=z;refine Jy (fun v H8=>H8=H7∧∃ t,TrB t∧v = .int (trI t)) (fun R hR=>⟨_,rfl,a,ns,5,rfl,(s7.seq hS),h63,by decide,by decide,fun z=>?_⟩) (fun v H8 z=>?_)
 ·obtain⟨t,tb,et⟩:=Zl6 z
  exact⟨_,_,rfl,rfl,(show(0:Int) < 5 by decide),hR _ _ ⟨rfl,t,tb,by show V.int (z % 5)=_;rw[et]⟩⟩
 obtain⟨rfl,t,tb,rfl⟩:=z;refine Jy (fun v H9=>Same H8 H9∧∃ lo lp lh pl tr,v = .ref lo∧pl.Perm (List.range hh)∧tr.Perm (List.range hh)∧H9 lo=some (.lst [.ref lp,.ref lh])∧H9 lp=some (.lst (vN pl))∧H9 lh=some (.lst (vN tr))) (fun R hR=>?_) (fun v H9 z=>?_)
 ·refine⟨_,rfl,_,rfl,a,ns,40,hh,rfl,s7.seq hS,h63,by decide,hh8,fun lp pl H9 pp s9 _ hlp=>⟨_,rfl,_,rfl,a,ns,50,hh,rfl,(s7.trans s9).seq hS,h63,by decide,hh8,fun lh tr HA pt sA _ hlh=>⟨Jp 2 (by decide),fun lo hlo=>?_⟩⟩⟩
  have aO:=Zx hlo (.lst [.ref lp,.ref lh]);exact hR _ _ ⟨(s9.trans sA).trans aO,lo,lp,lh,pl,tr,rfl,pp,pt,Zn,aO _ _ (sA _ _ hlp),aO _ _ hlh⟩
 obtain⟨s9,lo,lp,lh,pl,tr,rfl,pp,pt,hlo,hlp,hlh⟩:=z;refine⟨_,rfl,_,rfl,_,rfl,_,rfl,_,rfl,_,rfl,Jp 6 (by decide),fun d hd=>?_⟩;have aD:=Zx hd (.tup (rtV ⟨u,hh,n,dd,pl,tr⟩ t sz lo));refine q d ⟨u,hh,n,dd,pl,tr⟩ t sz _ ((s7.trans s9).trans aD) ((s7.trans s9).free hd) ⟨lo,lp,lh,Zn,aD _ _ hlo,aD _ _ hlp,aD _ _ hlh⟩ ⟨u1,u4,by show 1≤hh;omega,hh8,hn,pp,pt⟩ tb szm sz4 ?_;show sz * n≤u * hh;exact Nat.le_trans lwn (Nat.mul_le_mul_left _ hlw)
abbrev Gk:Stmt:=top 55
abbrev Zfu:Stmt:=top 56
def Zk5(H:Hp)(x:V):V:=match x with | .ref a=>(match H a with | some (.lst vs)=>.str (Yt (vs.map fun v:V=>match v with | .int i=>i.toNat | _=>0)) | _=>.non) | _=>.non
theorem Ox{H:Hp}{a:Addr}{cs:List Nat}(h:H a=some (.lst (vN cs))):Zk5 H (.ref a) = .str (Yt cs):=by
 show(match H a with | some (.lst vs)=>V.str (Yt (vs.map fun v:V=>match v with | .int i=>i.toNat | _=>0)) | _=>.non)=_;rw[h];show V.str (Yt ((vN cs).map _))=_;unfold vN;rw[Z1]
 congr 2
 refine(Jq fun x _=>?_).trans (List.map_id _);exact Zz x
theorem Zk6:∀ i < 8,Xb ("12345678":Str).cps.toList ((i:Nat):Int)=some (49+i):=by decide +kernel
theorem Mo{H1 H':Hp}{x dx:Addr}{o:HO}(hx:H1 x=none)(hd:H1 dx=none)(n:dx≠x)(kp:Keep x (upd (upd H1 dx (.own x)) x o) H'):Same H1 H':=fun b u hb=>
 kp b u (Jv hb hx) (Um hx hd n b u hb)
theorem size_eq(f:Fx):((⟨#[48+f.s]⟩:Str) ++ "x" ++ ⟨#[48+f.h]⟩)=Xf f:=by
 refine Dl ?_;have ap:∀ a b:Str,(a++b).cps.toList=a.cps.toList++b.cps.toList:=fun a b=>by
  show(a.cps++b.cps).toList=_;rw[Array.toList_append]
 rw[ap,ap,show("x":Str).cps.toList=[120] by decide +kernel];rfl
def Sj:Sp:=fun vs H Q _=>∃(d:Addr) (f:Fx) (t:Option Nat) (sz:Nat),vs=[.ref d]∧f.Ok∧IsRt H d f t sz∧∀ H',Same H H'→Q (.str (Ac f)) H'
abbrev Zlr:List Str:=["_law_rules_here","_law_figures","_law_shape","_law_words"]
theorem scText:FnScope Zlr ["_law_rules_here"] (Zp Gk):=⟨rfl,rfl,rfl,by decide +kernel,rfl,by decide +kernel,by decide +kernel⟩
def cTx:Scope:=match Yz Gk with
 | .Assign _ (.ListComp _ _ sc _) _ :: _=>sc
 | _=>Zp Gk
theorem Zj3{k:Nat}(F:Fun K "_law_text" "_law_text" Gk f fd)(ms:mg "str" = none)(ml:mg "len" = none):FnOk P w K mg base Y6 (k+1) f fd ["_law_rules_here"] Sj:=by
 refine F.ok scText (fun vs H Q E h=>?_) (fun cdv A outer s H vs Q E hr h=>?_)
 ·obtain⟨d,fx,t,sz,rfl,_⟩:=h
  rfl
 obtain⟨d,fx,t,sz,rfl,ok,⟨lo,lp,lh,hD,hO,hP,hT⟩,q⟩:=h;refine⟨_,Zm (U9 (i:=1) ["_law_order_here"] [none] rfl scText.nd rfl (Or.inl rfl) (Blk.by (sc:=Zp Gk) (N0:=Zlr) rfl rfl (by decide +kernel)) (Yn (Jo Jw (pv 0) Zo (fun _ _=>rfl))) (fun C s₀ H₀ ex=>Jm (i:=0) (show(["_law_order_here"]:List Str).Nodup by decide +kernel) rfl (Or.inl rfl)) (fun C s₀ H₀ ex=>Uj)
   (fun C s₀ H₀ ex=>Zgf (K:=K) rfl Yl (Zb (Y7 ["_law_height"] [none] rfl (Blk.by (sc:=Zjg cTx (Zp Gk)) (N0:=["_law_order_here"]) rfl rfl (by decide +kernel)) (Br K rfl (pv 0)) (fun C s₀ H₀ ex=>Jm (i:=0) (show(["_law_height"]:List Str).Nodup by decide +kernel) rfl (Or.inl rfl)) (fun C s₀ H₀ ex=>Uj)
    (fun C s₀ H₀ ex=>Jo (show IxR _ Zo0 from Oq) Yl (pv 0) (fun _ _=>rfl))) Zk)))
  (Zm (Z9 (i:=2) scText.nd rfl (Or.inl rfl) (Ja Tc (Ja Tc (J8 Em rfl ms PyProof.Rows.boot_str (Zb (Jo Jw (pv 0) Zo (fun _ _=>rfl)) Zk)) Yl) (J8 Em rfl ms PyProof.Rows.boot_str (Zb (Jl Jt rfl ml Jg (Zb (Jo J9 (Jo Jw (pv 0) Zo (fun _ _=>rfl)) Zo (fun _ _=>rfl)) Zk)) Zk))))
  (Zm (Z9 (i:=3) scText.nd rfl (Or.inl rfl) (Uk (Zb Yl (Zb (pv 2) (Zb Yl (Zb (J8 Em rfl ms PyProof.Rows.boot_str (Zb (Jo Jw (pv 0) Zo (fun _ _=>rfl)) Zk)) (Zb Yl (Zb (Jo Jw (pv 0) Zo (fun _ _=>rfl)) Zk))))))))
  (Zv (Jj (Xp PySem.F.plainAttrs_str PySem.F.slot_str_join PySem.F.type_str_join Zca Yl (Zb (Ja Tb (pv 3) (Uk (Zb Yl (Zb (Jo J9 (pv 1) Zo (fun _ _=>rfl)) (Zb Yl (Zb (Jo J9 (pv 1) Zo (fun _ _=>rfl)) Zk)))))) Zk)))))),?_⟩
 obtain⟨g1,g2,g3,g4,g5,g6⟩:=@N1 fx t sz lo;have sm:∀ i:Nat,i≤8→(((i:Nat):Int).natAbs).log2 < 1920:=fun i hi=>by
  have:((i:Nat):Int).natAbs=i:=rfl;rw[this];exact J1 (Nat.log2_le_self i) (by omega)
 have s4:=ok.s4;have h8:=ok.h8;have n4:fx.n≤8:=by rcases ok.n34 with e | e<;>omega
 have one:∀ x:Nat,(⟨#[x]⟩:Str).length≤1:=fun _=>Nat.le_refl 1;have w2:("x":Str).length≤1:=by decide +kernel
 have num:∀(ls:List Nat) (x:V),ls.Perm (List.range fx.h)→x∈vN ls→∃ i:Nat,i < 8∧x = .int (i:Nat):=fun ls x pm hx=>by
  obtain⟨i,hi,rfl⟩:=Zw.mp hx;have:=Zb2 pm i hi;exact⟨i,by omega,rfl⟩
 refine Jy (fun v H1=>Same H H1∧∃ lf,v = .ref lf∧H1 lf=some (.lst [.str (Yt fx.pl),.str (Yt fx.tr)])) (fun R hR=>?_) (fun v H1 z=>?_)
 ·refine⟨_,rfl,d,_,_,_,rfl,rfl,SqT.of hD,g6,lo,rfl,⟨_,SqL.of hO⟩,Uf (K:=K) (xs:=[.ref lp,.ref lh]) (fun _=>true) (Zk5 H) (SqL.of hO) (Jp 2 (by decide)) (fun x H3 hx sm R hR=>hR H3 (Same.refl H3)) (fun x H3 hx hp s3 R hR=>?_) (fun lf H1 s1 hlf hLf=>hR _ _ ⟨s1,lf,rfl,?_⟩)⟩
  ·have ex:∃(av:Addr) (os:List Nat),x = .ref av∧os.Perm (List.range fx.h)∧H av=some (.lst (vN os)):=by
    rcases List.mem_cons.mp hx with e | e
    ·exact⟨lp,fx.pl,e,ok.pp,hP⟩
    ·exact⟨lh,fx.tr,Z7.mp e,ok.pt,hT⟩
   obtain⟨av,os,rfl,pm,hav⟩:=ex;have hav3:=s3 _ _ hav;refine⟨rfl,_,rfl,av,rfl,⟨_,SqL.of hav3⟩,Uf (K:=K) (xs:=vN os) (fun _=>true) sgV (SqL.of hav3) (by rw[J0,Yd pm];exact Jp _ (by omega)) (fun x H3 hx s3 R hR=>hR H3 (Same.refl H3)) (fun x H3 hx hp s3 R hR=>?_) (fun l1 H4 s4 hl1 hL1=>?_)⟩
   ·obtain⟨i,hi,rfl⟩:=num _ x pm hx
    have z:=hR H3 (Same.refl H3);rw[Zbu,show 48+(i+1)=49+i by omega] at z;exact⟨_,rfl,_,_,_,rfl,rfl,Jp 8 (by decide),Zk6 i hi,z⟩
   rw[Zfh] at hL1;have z:=hR H4 s4;rw[Ox hav,← Zhn] at z;exact⟨_,l1,os.map Q9,rfl,rfl,SqL.of hL1,Zi4 pm h8,z⟩
  ·rw[hLf]
   show some (HO.lst [Zk5 H (.ref lp),Zk5 H (.ref lh)])=_;rw[Ox hP,Ox hT]
 obtain⟨s1,lf,rfl,hlf⟩:=z;refine Jy (fun v H2=>H2=H1∧v = .str (Xf fx)) (fun R hR=>?_) (fun v H2 z=>?_)
 ·refine⟨_,rfl,d,_,_,_,rfl,rfl,SqT.of (s1 _ _ hD),g2,_,rfl,sm _ (by omega),?_⟩
  rw[Dk _ (by omega)];refine⟨_,_,rfl,rfl,Zh0 (one _) w2 (by decide),_,rfl,d,_,_,_,rfl,rfl,SqT.of (s1 _ _ hD),g6,lo,_,_,_,rfl,rfl,SqL.of (s1 _ _ hO),(rfl:Xb [V.ref lp,V.ref lh] 0=some (V.ref lp)),lp,_,rfl,.inl (SqL.of (s1 _ _ hP)),?_⟩;rw[J0,Yd ok.pp];refine⟨_,rfl,sm _ h8,?_⟩;rw[Dk _ h8];refine⟨_,_,rfl,rfl,Zh0 (Zn4 (one _) w2) (one _) (by decide),?_⟩;rw[size_eq];exact hR _ _ ⟨rfl,rfl⟩
 obtain⟨rfl,rfl⟩:=z;refine Jy (fun v H3=>Same H2 H3∧∃ lw,v = .ref lw∧H3 lw=some (.lst [.str "pack",.str (Xf fx),.str "seats",.str (Xo fx),.str "duty",.str (wd fx.d)])) (fun R hR=>?_) (fun v H3 z=>?_)
 ·refine⟨_,rfl,_,rfl,d,_,_,_,rfl,rfl,SqT.of (s1 _ _ hD),g1,_,rfl,sm _ n4,?_⟩
  rw[Dk _ n4];exact⟨_,rfl,d,_,_,_,rfl,rfl,SqT.of (s1 _ _ hD),g4,Jp 6 (by decide),fun lw hlw=>hR _ _ ⟨Zx hlw _,lw,rfl,Zn⟩⟩
 obtain⟨s3,lw,rfl,hlw⟩:=z;have hlf3:=s3 _ _ hlf;refine⟨rfl,_,rfl,_,rfl,lf,_,_,_,rfl,rfl,SqL.of hlf3,(rfl:Xb [V.str (Yt fx.pl),V.str (Yt fx.tr)] 0=some (V.str (Yt fx.pl))),_,rfl,lf,_,_,_,rfl,rfl,SqL.of hlf3,(rfl:Xb [V.str (Yt fx.pl),V.str (Yt fx.tr)] 1=some (V.str (Yt fx.tr))),Jp 4 (by decide),fun l4 hl4=>?_⟩;have a4:=Zx hl4 (.lst [.str "plain",.str (Yt fx.pl),.str "trump",.str (Yt fx.tr)]);refine⟨lw,l4,_,_,rfl,rfl,a4 _ _ hlw,Zn,Jp 10 (by decide),fun l5 hl5=>?_⟩;have a5:=Zx hl5 (.lst ([V.str "pack",V.str (Xf fx),V.str "seats",V.str (Xo fx),V.str "duty",V.str (wd fx.d)]++[V.str "plain",V.str (Yt fx.pl),V.str "trump",V.str (Yt fx.tr)]));have wl:=(Zev fx.d).2;refine⟨_,l5,Gc fx,rfl,rfl,SqL.of Zn,?_,q _ (((s1.trans s3).trans a4).trans a5)⟩;have e1:("pack":Str).length=4:=by decide +kernel
 have e2:("seats":Str).length=5:=by decide +kernel
 have e3:("duty":Str).length=4:=by decide +kernel
 have e4:("plain":Str).length=5:=by decide +kernel
 have e5:("trump":Str).length=5:=by decide +kernel
 have e6:(" ":Str).length=1:=by decide +kernel
 have l1:(Yt fx.pl).length≤8:=by rw[Qm,Yd ok.pp];exact h8
 have l2:(Yt fx.tr).length≤8:=by rw[Qm,Yd ok.pt];exact h8
 have l3:(Xf fx).length=3:=rfl;have l4':(Xo fx).length=1:=rfl;unfold Gc;simp only[List.map_cons,List.map_nil,List.sum_cons,List.sum_nil,Jc,List.length_nil,e1,e2,e3,e4,e5,e6,l3,l4'];omega
def Sq(CT CG:Addr):Sp:=fun vs H Q _=>∃(d:Addr) (f:Fx) (t:Option Nat) (sz:Nat),vs=[.ref d]∧f.Ok∧TrB t∧IsRt H d f t sz∧∀ gm x H',Same H H'→GamH CT CG f t H' gm x→Q (.ref gm) H'
theorem Zmk:FnScope ["_law_rules_here"] ["_law_rules_here"] (Zp Zfu):=⟨rfl,rfl,rfl,by decide +kernel,rfl,by decide +kernel,by decide +kernel⟩
theorem Zkd{k:Nat}{CT CG fI fG f1:Addr}{dI dG d1:FuncData}(F:Fun K "_law_game" "_law_game" Zfu f fd)(C:TabC K mg CT)(CGm:GamC K mg CG)(LT:Lib P w K mg base (k+1) "_law_text" ["_law_rules_here"] Sj f1 d1)(MkT:Mk K CT fI)(FI:FnOk P w K mg base Y6 k fI dI ["self","text"] (Zln CT))(BI:Binds K dI ["self","text"] [])
  (MkG:Mk K CG fG) (FG:FnOk P w K mg base Y6 k fG dG ["self","table","trump"] (Zlp CG)) (BG0:Binds K dG ["self","table","trump"] []) (BG1:Binds K dG ["self","table","trump"] [.none]) :
  FnOk P w K mg base Y6 (k+2) f fd ["_law_rules_here"] (Sq CT CG):=by
 refine F.ok Zmk (fun vs H Q E h=>?_) (fun cdv A outer s H vs Q E hr h=>?_)
 ·obtain⟨d,fx,t,sz,rfl,_⟩:=h
  rfl
 obtain⟨d,fx,t,sz,rfl,ok,tb,hRt,q⟩:=h;obtain⟨lo,lp,lh,hD,hO,hP,hT⟩:=id hRt;refine⟨_,Zm (Yh (Je Uu (Jo Jw (pv 0) Zo (fun _ _=>rfl)) Zo (Js _)) (Zv (Jj (Ni MkG FG hr rfl CGm.mG BG1 (show Vals [V.non] [Value.none] from .cons rfl .nil) Jn (Zb (Ni MkT FI hr rfl C.mT BI .nil Jn (Zb (Z6 LT.ok hr rfl LT.mg LT.kp LT.bd .nil Jn (Zb (pv 0) Zk)) Zk)) Zk)))) Jz)
  (Zv (Jj (Ni MkG FG hr rfl CGm.mG BG0 .nil Jn (Zb (Ni MkT FI hr rfl C.mT BI .nil Jn (Zb (Z6 LT.ok hr rfl LT.mg LT.kp LT.bd .nil Jn (Zb (pv 0) Zk)) Zk)) (Zb (Jo Jw (pv 0) Zo (fun _ _=>rfl)) Zk))))),?_⟩
 obtain⟨g1,g2,g3,g4,g5,g6⟩:=@N1 fx t sz lo;refine⟨_,rfl,d,_,_,_,rfl,rfl,SqT.of hD,g5,rfl,_,rfl,?_⟩;cases t with
 | none=>
  refine No (Ze rfl:decide (V.int (trI none)=V.int 4)=true) (U1 ⟨_,rfl,d,fx,none,sz,rfl,ok,hRt,fun H1 s1=>?_⟩);intro x dx hx hdx nx;refine⟨x,dx,fx,rfl,ok,Zn,fun po to H3 kp hx3 hpo hto=>⟨rfl,?_⟩⟩;have sx:=Mo hx hdx nx kp;intro gm dg hgm hdg ng;refine⟨gm,dg,x,.non,rfl,Zn,rfl,?_⟩;rw[Uq];have sg:=Um (o:=.ins CG dg (T9 x .non)) hgm hdg ng;exact q gm x _ ((s1.trans sx).trans sg) ⟨ok,⟨dg,Zn⟩,⟨dx,po,to,sg _ _ hx3,sg _ _ hpo,sg _ _ hto⟩⟩
 | some u=>
  have u4:=tb u rfl;have eU:decide (V.int (trI (some u))=V.int 4)=false:=by
   show decide (V.int ((u:Nat):Int)=V.int 4)=false;exact(Zao (r:=u) (n:=4) (i:=4) rfl).trans (Zd (by omega))
  refine No eU (Yv ⟨_,rfl,d,fx,some u,sz,rfl,ok,hRt,fun H1 s1=>?_⟩);intro x dx hx hdx nx;refine⟨x,dx,fx,rfl,ok,Zn,fun po to H3 kp hx3 hpo hto=>⟨rfl,?_⟩⟩;have sx:=Mo hx hdx nx kp;refine⟨_,rfl,d,_,_,_,rfl,rfl,SqT.of (sx _ _ (s1 _ _ hD)),g5,?_⟩;intro gm dg hgm hdg ng;refine⟨gm,dg,x,V8 (some u),rfl,Zn,rfl,?_⟩;rw[Uq];have sg:=Um (o:=.ins CG dg (T9 x (V8 (some u)))) hgm hdg ng;exact q gm x _ ((s1.trans sx).trans sg) ⟨ok,⟨dg,Zn⟩,⟨dx,po,to,sg _ _ hx3,sg _ _ hpo,sg _ _ hto⟩⟩
end
abbrev Zfr:Stmt:=top 57
abbrev Gr:Stmt:=top 58
theorem Zld(d:_root_.Fin 4)(d0:d≠0)(d3:d≠3)(fx:Fx)(t:Option Nat)(ys cs:List Nat):(if d=1 then Ea (Xw (Z5 ys) cs) cs else Xy t (Z5 ys) cs)=alw d fx t ys cs:=match d,d0,d3 with
 | 0,h,_=>absurd rfl h
 | 1,_,_=>rfl
 | 2,_,_=>rfl
 | 3,_,h=>absurd rfl h
theorem Zew(d j:_root_.Fin 4):decide (V.str (wd d)=V.str (wd j))=decide (d=j):=decide_eq_decide.mpr ⟨fun h=>by injection h with h;exact K7 _ _ h,fun h=>by rw[h]⟩
def Zk3(s:Nat)(x:V):Bool:=match x with | .int i=>decide (i.toNat / 8=s) | _=>false
theorem Kq(s c:Nat):Zk3 s (.int (c:Nat))=decide (c / 8=s):=by
 show decide (((c:Nat):Int).toNat / 8=s)=_;rw[Zz]
theorem Zd9(s:Nat)(cs:List Nat):(((vN cs).filter (Zk3 s)).map fun x=>x)=vN (Xw s cs):=by
 rw[List.map_id'];unfold vN Xw;rw[List.filter_map];exact congrArg _ (List.filter_congr fun c _=>Kq s c)
def trV(t:Option Nat)(x:V):Bool:=match x with | .int i=>decide (t=some (i.toNat / 8)) | _=>false
theorem Zbd(t:Option Nat)(c:Nat):trV t (.int (c:Nat))=decide (t=some (c / 8)):=by
 show decide (t=some (((c:Nat):Int).toNat / 8))=_;rw[Zz]
theorem Ze0(t:Option Nat)(cs:List Nat):(((vN cs).filter (trV t)).map fun x=>x)=vN (trL t cs):=by
 rw[List.map_id'];have e:(vN cs).filter (trV t)=vN (cs.filter fun c=>decide (t=some (c / 8))):=by
  unfold vN;rw[List.filter_map];exact congrArg _ (List.filter_congr fun c _=>Zbd t c)
 rw[e];refine congrArg vN ?_;cases t with
 | none=>exact List.filter_eq_nil_iff.mpr fun c _=>by simp
 | some u=>exact List.filter_congr fun c _=>decide_eq_decide.mpr ⟨fun h=>(Zr h).symm,fun h=>by rw[h]⟩
theorem Df(cs:List Nat):(vN cs).isEmpty=decide (cs=[]):=by cases cs<;>rfl
section
variable{P:Program}{w:World}{K:W.Frag}{mg:Str→Option Value}{base:Heap}{f g:Addr}{fd gd:FuncData}
def Xh(f:Fx)(t:Option Nat)(led c:Nat):List Int:=if t=some (c / 8) then [2,((pos (c % 8) f.tr:Nat):Int)] else if c / 8=led then [1,((pos (c % 8) f.pl:Nat):Int)] else [0,0]
theorem Zqq(a b c d:Int):HT.lexLt [a,b] [c,d]=decide (a < c∨a=c∧b < d):=by
 show(if a=c then(if b=d then HT.lexLt [] [] else decide (b < d)) else decide (a < c))=_;by_cases e:a=c
 ·rw[if_pos e]
  by_cases e2:b=d
  ·rw[if_pos e2]
   exact(Zd (by omega)).symm
  ·rw[if_neg e2]
   exact decide_eq_decide.mpr ⟨fun h=>by omega,fun h=>by omega⟩
 ·rw[if_neg e]
  exact decide_eq_decide.mpr ⟨fun h=>by omega,fun h=>by omega⟩
theorem Nh{f:Fx}(ok:f.Ok)(t:Option Nat)(led c:Nat):∃ a b:Nat,Xh f t led c=[((a:Nat):Int),((b:Nat):Int)]∧rk f t led c=10 * a+b∧b≤8:=by
 have l1:∀ x,pos x f.tr≤8:=fun x=>Nat.le_trans (N3 x _) (by rw[Yd ok.pt];exact ok.h8);have l2:∀ x,pos x f.pl≤8:=fun x=>Nat.le_trans (N3 x _) (by rw[Yd ok.pp];exact ok.h8);unfold Xh rk;by_cases c1:t=some (c / 8)
 ·rw[if_pos c1,if_pos c1]
  exact⟨2,pos (c % 8) f.tr,rfl,rfl,l1 _⟩
 ·rw[if_neg c1,if_neg c1]
  by_cases c2:c / 8=led
  ·rw[if_pos c2,if_pos c2]
   exact⟨1,pos (c % 8) f.pl,rfl,rfl,l2 _⟩
  ·rw[if_neg c2,if_neg c2]
   exact⟨0,0,rfl,rfl,Nat.zero_le _⟩
theorem Gx{f:Fx}(ok:f.Ok)(t:Option Nat)(led c o:Nat):HT.lexLt (Xh f t led c) (Xh f t led o)=decide (((rk f t led o:Nat):Int) > ((rk f t led c:Nat):Int)):=by
 obtain⟨a,b,e1,e2,h1⟩:=Nh ok t led c;obtain⟨a',b',f1,f2,h2⟩:=Nh ok t led o;rw[e1,f1,e2,f2,Zqq];exact decide_eq_decide.mpr ⟨fun h=>by omega,fun h=>by omega⟩
theorem Zjh{f:Fx}(ok:f.Ok){t:Option Nat}{led c o:Nat}(h:Xh f t led c=Xh f t led o):rk f t led c=rk f t led o:=by
 obtain⟨a,b,e1,e2,h1⟩:=Nh ok t led c;obtain⟨a',b',f1,f2,h2⟩:=Nh ok t led o;rw[e1,f1] at h;injection h with h3 h4
 injection h4 with h5
 omega
def Do:Sp:=fun vs H Q _=>∃(d:Addr) (f:Fx) (t:Option Nat) (sz c led:Nat),vs=[.ref d,.int (c:Nat),.int (led:Nat)]∧f.Ok∧IsRt H d f t sz∧c % 8 < f.h∧c < 32∧∀ p H',Same H H'→H' p=some (.tup ((Xh f t led c).map V.int))→Q (.ref p) H'
abbrev G6:List Str:=["_law_rules_here","_law_card","_law_led"]
theorem Zmi:FnScope G6 G6 (Zp Zfr):=⟨rfl,rfl,rfl,by decide +kernel,rfl,by decide +kernel,by decide +kernel⟩
theorem Se(t:Option Nat){c:Nat}(hc:c < 32):decide (V.int (((c:Nat):Int) / 8)=V.int (trI t))=decide (t=some (c / 8)):=by
 have e8:((c:Nat):Int) / 8=((c / 8:Nat):Int):=by omega
 rw[e8,eq_int];cases t with
 | none=>exact decide_eq_decide.mpr ⟨(fun h=>by have h':((c / 8:Nat):Int)=4:=h;omega),(fun h=>nomatch h)⟩
 | some u=>
  refine decide_eq_decide.mpr ⟨fun h=>?_,fun h=>?_⟩
  ·have h':((c / 8:Nat):Int)=((u:Nat):Int):=h
   have:c / 8=u:=by omega
   rw[this]
  ·rw[Zr h]
   rfl
theorem ints_get{l:List Nat}{j x:Nat}:(l.map fun c=>((c:Nat):Int))[j]? = some ((x:Nat):Int)↔l[j]? = some x:=by
 rw[Zl];constructor
 ·intro h
  obtain⟨y,e1,e2⟩:=Option.map_eq_some_iff.mp h;have:y=x:=by omega
  rw[e1,this]
 ·intro h
  rw[h];rfl
theorem Zj6{k:Nat}(F:Fun K "_law_strength" "_law_strength" Zfr f fd):FnOk P w K mg base Y6 (k+1) f fd G6 Do:=by
 refine F.ok Zmi (fun vs H Q E h=>?_) (fun cdv A outer s H vs Q E hr h=>?_)
 ·obtain⟨d,fx,t,sz,c,led,rfl,_⟩:=h
  rfl
 obtain⟨d,fx,t,sz,c,led,rfl,ok,⟨lo,lp,lh,hD,hO,hP,hT⟩,ch,c32,q⟩:=h;refine⟨_,Zm (Yh (Je Uu (Ja Ys (pv 1) Zo) (Jo Jw (pv 0) Zo (fun _ _=>rfl)) (Js _)) (Zv (Jj (Y2 (Zb Zo (Zb (Xp Jr PySem.F.slot_list_index PySem.F.type_list_index E6 (Jo J9 (Jo Jw (pv 0) Zo (fun _ _=>rfl)) Zo (fun _ _=>rfl)) (Zb (Ja Y3 (pv 1) Zo) Zk)) Zk))))) Jz)
  (Zm (Yh (Je Uu (Ja Ys (pv 1) Zo) (pv 2) (Js _)) (Zv (Jj (Y2 (Zb Zo (Zb (Xp Jr PySem.F.slot_list_index PySem.F.type_list_index E6 (Jo J9 (Jo Jw (pv 0) Zo (fun _ _=>rfl)) Zo (fun _ _=>rfl)) (Zb (Ja Y3 (pv 1) Zo) Zk)) Zk))))) Jz)
  (Zv (Jj (Y2 (Zb Zo (Zb Zo Zk)))))),?_⟩
 obtain⟨g1,g2,g3,g4,g5,g6⟩:=@N1 fx t sz lo;have h8:=ok.h8;have em:((c:Nat):Int) % 8=((c % 8:Nat):Int):=by omega
 have m1:c % 8∈fx.tr:=ok.pt.mem_iff.mpr (Z8.mpr ch);have m2:c % 8∈fx.pl:=ok.pp.mem_iff.mpr (Z8.mpr ch);have l1:fx.tr.length≤1000:=by rw[Yd ok.pt];omega
 have l2:fx.pl.length≤1000:=by rw[Yd ok.pp];omega
 refine⟨_,rfl,_,_,rfl,rfl,⟨by decide,by decide⟩,_,rfl,d,_,_,_,rfl,rfl,SqT.of hD,g5,rfl,_,rfl,No (Se t c32) ?_⟩;by_cases c1:t=some (c / 8)
 ·rw[Ze c1]
  have hT':H lh=some (.lst ((fx.tr.map fun c=>((c:Nat):Int)).map V.int)):=by rw[← Qr];exact hT
  refine U1 ⟨_,rfl,d,_,_,_,rfl,rfl,SqT.of hD,g6,lo,_,_,_,rfl,rfl,SqL.of hO,(rfl:Xb [V.ref lp,V.ref lh] 1=some (V.ref lh)),.inl ⟨rfl,_,SqL.of hT⟩,_,rfl,_,_,rfl,rfl,(show(0:Int) < 8 by decide),lh,((c % 8:Nat):Int),_,pos (c % 8) fx.tr,rfl,(by show [V.int (((c:Nat):Int) % 8)]=_;rw[em]),SqL.of hT',by rw[Zf];exact l1,ints_get.mpr (Uz m1).1,fun m hm z=>(Uz m1).2 m hm (ints_get.mp z),Jp 2 (by decide),fun p hp=>q p _ (Zx hp _) ?_⟩;rw[Zn];unfold Xh;rw[if_pos c1];rfl
 ·rw[Zd c1]
  have eL:decide (V.int (((c:Nat):Int) / 8)=V.int ((led:Nat):Int))=decide (c / 8=led):=(eq_int _ _).trans (decide_eq_decide.mpr ⟨fun h=>by omega,fun h=>by omega⟩);refine Yv ⟨_,rfl,_,_,rfl,rfl,⟨by decide,by decide⟩,_,rfl,rfl,_,rfl,No eL ?_⟩;by_cases c2:c / 8=led
  ·rw[Ze c2]
   have hP':H lp=some (.lst ((fx.pl.map fun c=>((c:Nat):Int)).map V.int)):=by rw[← Qr];exact hP
   refine U1 ⟨_,rfl,d,_,_,_,rfl,rfl,SqT.of hD,g6,lo,_,_,_,rfl,rfl,SqL.of hO,(rfl:Xb [V.ref lp,V.ref lh] 0=some (V.ref lp)),.inl ⟨rfl,_,SqL.of hP⟩,_,rfl,_,_,rfl,rfl,(show(0:Int) < 8 by decide),lp,((c % 8:Nat):Int),_,pos (c % 8) fx.pl,rfl,(by show [V.int (((c:Nat):Int) % 8)]=_;rw[em]),SqL.of hP',by rw[Zf];exact l2,ints_get.mpr (Uz m2).1,fun m hm z=>(Uz m2).2 m hm (ints_get.mp z),Jp 2 (by decide),fun p hp=>q p _ (Zx hp _) ?_⟩;rw[Zn];unfold Xh;rw[if_neg c1,if_pos c2];rfl
  ·rw[Zd c2]
   refine Yv ⟨Jp 2 (by decide),fun p hp=>q p _ (Zx hp _) ?_⟩;rw[Zn];unfold Xh;rw[if_neg c1,if_neg c2];rfl
theorem Zpd{a b:List Nat}(h:a=[]):Ea a b=b:=if_pos h
theorem Zpc{a b:List Nat}(h:a≠[]):Ea a b=a:=if_neg h
theorem Zdd(a b c:List Nat):Ea (Ea a b) c=Ea a (Ea b c):=by
 unfold Ea;by_cases e:a=[]
 ·rw[if_pos e,if_pos e]
 ·rw[if_neg e,if_neg e,if_neg e]
def gtV(f:Fx)(t:Option Nat)(led M:Nat)(x:V):Bool:=match x with | .int i=>decide (M < rk f t led i.toNat) | _=>false
theorem Zch(f:Fx)(t:Option Nat)(led M c:Nat):gtV f t led M (.int (c:Nat))=decide (M < rk f t led c):=by
 show decide (M < rk f t led (((c:Nat):Int).toNat))=_;rw[Zz]
theorem Zht(f:Fx)(t:Option Nat)(led M:Nat)(cs:List Nat):(((vN cs).filter (gtV f t led M)).map fun x=>x)=vN (cs.filter fun c=>decide (M < rk f t led c)):=by
 rw[List.map_id'];unfold vN;rw[List.filter_map];exact congrArg _ (List.filter_congr fun c _=>Zch f t led M c)
theorem Zl7{f:Fx}(ok:f.Ok){t:Option Nat}{ys cs:List Nat}{j:Nat}{y:Nat}(hj:ys[j]? = some y)(hm:∀ o∈ys,rk f t (Z5 ys) o≤rk f t (Z5 ys) y):(cs.filter fun c=>decide (rk f t (Z5 ys) y < rk f t (Z5 ys) c))=Bh f t ys cs:=by
 unfold Bh;refine List.filter_congr fun c _=>?_;rw[Bool.eq_iff_iff,decide_eq_true_eq,List.all_eq_true];constructor
 ·intro h o ho
  rw[Nj ok,decide_eq_true_eq];exact J1 (hm o ho) h
 ·intro h
  have:=h y (Zg hj);rw[Nj ok,decide_eq_true_eq] at this;exact this
def Sm:Sp:=fun vs H Q _=>∃(d cp tp:Addr) (f:Fx) (t:Option Nat) (sz:Nat) (cs ys:List Nat),vs=[.ref d,.ref cp,.ref tp]∧f.Ok∧IsRt H d f t sz∧H cp=some (.lst (vN cs))∧H tp=some (.lst (vN ys))∧cs.length≤100∧(∀ c∈cs,c < 32)∧(ys=[]∨Beg f ys cs)∧∀ o H',Same H H'→H o=none→H' o=some (.lst (vN (if ys=[] then cs else alw f.d f t ys cs)))→Q (.ref o) H'
abbrev Aw:List Str:=["_law_rules_here","_law_cards","_law_trick"]
abbrev Kg:List Str:=["_law_rules_here","_law_cards","_law_trick","_law_led","_law_some","_law_same","_law_high","_law_better"]
theorem scLMay:FnScope Kg Aw (Zp Gr):=⟨rfl,rfl,rfl,by decide +kernel,rfl,by decide +kernel,by decide +kernel⟩
abbrev nB1:List Str:=["_law_card","_law_led"]
abbrev nB2:List Str:=["_law_card","_law_rules_here"]
abbrev nB3:List Str:=["_law_card","_law_rules_here","_law_led"]
abbrev nB4:List Str:=["_law_card","_law_rules_here","_law_led","_law_high"]
theorem Zka{k:Nat}{f1:Addr}{d1:FuncData}(F:Fun K "_law_may" "_law_may" Gr f fd)(LR:Lib P w K mg base k "_law_strength" G6 Do f1 d1)(mLi:mg "list" = none)(mM:mg "max" = none):FnOk P w K mg base Y6 (k+1) f fd Aw Sm:=by
 refine F.ok scLMay (fun vs H Q E h=>?_) (fun cdv A outer s H vs Q E hr h=>?_)
 ·obtain⟨d,cp,tp,fx,t,sz,cs,ys,rfl,_⟩:=h
  rfl
 obtain⟨d,cp,tp,fx,t,sz,cs,ys,rfl,ok,hRt,hC,hY,c100,c32,hB,q⟩:=h;refine⟨_,Zm (Yh (Je (A5 hr.units) (pv 2) (Uk Zk) (Js _)) (Zv (Jj (J8 Uy rfl mLi J5 (Zb (pv 1) Zk)))) Jz)
  (Zm (Z9 (i:=3) scLMay.nd rfl (Or.inr rfl) (Ja Ys (Jo J9 (pv 2) Zo (fun _ _=>rfl)) Zo))
  (Zm (Z9 (i:=4) scLMay.nd rfl (Or.inl rfl) (J8 Uy rfl mLi J5 (Zb (pv 1) Zk)))
  (Zm (Yh (Je Q5 (Jo Jw (pv 0) Zo (fun _ _=>rfl)) Yl (Js _))
   (Zm (U9 (i:=5) nB1 [none,some 3] rfl scLMay.nd rfl (Or.inl rfl) (Blk.by (sc:=Zp Gr) (N0:=Kg) rfl rfl (by decide +kernel)) (Yn (pv 1)) (fun C s₀ H₀ ex=>Jm (i:=0) (show nB1.Nodup by decide +kernel) rfl (Or.inl rfl)) (fun C s₀ H₀ ex=>N5 (Je Uu (Ja Ys (pv 0) Zo) (pv 1) (Js _))) (fun C s₀ H₀ ex=>pv 0))
   (Zm (Yh (PW.pt (Ob (Je (A5 hr.units) (pv 5) (Uk Zk) (Js _)) (Rw (Je Q5 (Jo Jw (pv 0) Zo (fun _ _=>rfl)) Yl (Js _)))))
    (Zv (U9 (i:=5) nB2 [none,some 0] rfl scLMay.nd rfl (Or.inl rfl) (Blk.by (sc:=Zp Gr) (N0:=Kg) rfl rfl (by decide +kernel)) (Yn (pv 1)) (fun C s₀ H₀ ex=>Jm (i:=0) (show nB2.Nodup by decide +kernel) rfl (Or.inl rfl)) (fun C s₀ H₀ ex=>N5 (Je Uu (Ja Ys (pv 0) Zo) (Jo (show IxR _ (Zji K) from Jw) (pv 1) Zo (fun _ _=>rfl)) (Js _))) (fun C s₀ H₀ ex=>pv 0))) Jz)
   (Zv (Yh (Je (A4 hr.units) (pv 5) (Uk Zk) (Js _)) (Zv (Z9 (i:=4) scLMay.nd rfl (Or.inl rfl) (pv 5))) Jz)))) Jz)
  (Zm (Yh (Je Uu (Jo Jw (pv 0) Zo (fun _ _=>rfl)) Yl (Js _))
   (Zm (Z9 (i:=6) scLMay.nd rfl (Or.inr rfl) (Jl (M4 rfl hr.units) rfl mM PyProof.Rows.boot_max (Zb (Y7 nB3 [none,some 0,some 3] rfl (Blk.by (sc:=Zp Gr) (N0:=Kg) rfl rfl (by decide +kernel)) (Yn (pv 2)) (fun C s₀ H₀ ex=>Jm (i:=0) (show nB3.Nodup by decide +kernel) rfl (Or.inl rfl)) (fun C s₀ H₀ ex=>Uj)
     (fun C s₀ H₀ ex=>Z6 LR.ok hr rfl LR.mg LR.kp LR.bd .nil Jn (Zb (pv 1) (Zb (pv 0) (Zb (pv 2) Zk))))) Zk)))
   (Zm (U9 (i:=7) nB4 [none,some 0,some 3,some 6] rfl scLMay.nd rfl (Or.inl rfl) (Blk.by (sc:=Zp Gr) (N0:=Kg) rfl rfl (by decide +kernel)) (Yn (pv 4)) (fun C s₀ H₀ ex=>Jm (i:=0) (show nB4.Nodup by decide +kernel) rfl (Or.inl rfl))
     (fun C s₀ H₀ ex=>N5 (Je (show Eo _ (compareOp .Gt) (fun x y H Q=>∃(a b:Addr) (ns ms:List Int),x = .ref a∧y = .ref b∧SqT K H a (ns.map V.int)∧SqT K H b (ms.map V.int)∧Q (.bl (HT.lexLt ms ns)) H) from Zm7 hr.units) (Z6 LR.ok hr rfl LR.mg LR.kp LR.bd .nil Jn (Zb (pv 1) (Zb (pv 0) (Zb (pv 2) Zk)))) (pv 3) (Js _))) (fun C s₀ H₀ ex=>pv 0))
   (Zv (Yh (Je (A4 hr.units) (pv 7) (Uk Zk) (Js _)) (Zv (Z9 (i:=4) scLMay.nd rfl (Or.inl rfl) (pv 7))) Jz)))) Jz)
  (Zv (Jj (pv 4))))))),?_⟩
 obtain⟨lo,lp,lh,hD,hO,hP,hT⟩:=id hRt;obtain⟨g1,g2,g3,g4,g5,g6⟩:=@N1 fx t sz lo;refine⟨_,rfl,Jp 0 (by decide),fun lz hlz=>?_⟩;have az:=Zx hlz (.lst []);refine⟨tp,lz,_,rfl,rfl,SqL.of (az _ _ hY),SqL.of Zn,_,rfl,No (Df ys) ?_⟩;generalize upd H lz (.lst [])=Hz at az ⊢;by_cases y0:ys=[]
 ·rw[Ze y0]
  refine U1 ⟨_,rfl,cp,_,rfl,.inl (SqL.of (az _ _ hC)),fun l hl=>q l _ (az.trans (Zx hl _)) (az.free hl) ?_⟩;rw[Zn,if_pos y0]
 rw[Zd y0];have B:=hB.resolve_left y0;have s4':=ok.s4;have y32:∀ y∈ys,y < 32:=fun y hy=>by have:=(B.ys8 y hy).1;omega
 have el:((ys.getD 0 0:Nat):Int) / 8=((Z5 ys:Nat):Int):=by unfold Z5;omega
 refine Yv (Zb7 ?_);refine Jy (fun v H1=>H1=Hz∧v = .int ((Z5 ys:Nat):Int)) (fun R hR=>⟨_,rfl,tp,_,_,_,rfl,rfl,SqL.of (az _ _ hY),Ty (i:=0) B.ne,_,_,rfl,rfl,⟨by decide,by decide⟩,hR _ _ ⟨rfl,congrArg V.int el⟩⟩) (fun v H1 z=>?_);obtain⟨rfl,rfl⟩:=z;refine Jy (fun v H2=>Same H H2∧∃ l,v = .ref l∧H l=none∧H2 l=some (.lst (vN cs))) (fun R hR=>⟨_,rfl,cp,_,rfl,.inl (SqL.of (az _ _ hC)),fun l hl=>hR _ _ ⟨az.trans (Zx hl _),l,rfl,az.free hl,Zn⟩⟩) (fun v H2 z=>?_);obtain⟨s2,l2,rfl,nl2,hL2⟩:=z;have neD:∀ i:_root_.Fin 4,(!decide (V.str (wd fx.d)=V.str (wd i))) = !decide (fx.d=i):=fun i=>congrArg (fun b=>!b) (Zew fx.d i);refine Xg (fun σ H4=>Same H H4∧∃(l4:Addr) (mid:List Nat) (x5:Option V),σ=[some (.ref d),some (.ref cp),some (.ref tp),some (.int ((Z5 ys:Nat):Int)),some (.ref l4),x5,none,none]∧H l4=none∧H4 l4=some (.lst (vN mid))∧mid=(if fx.d=0 then cs else if fx.d=1 then Ea (Xw (Z5 ys) cs) cs else Xy t (Z5 ys) cs)) (fun D' er nx=>?_) (fun σ H4 z=>?_)
 ·refine⟨_,rfl,d,_,_,_,rfl,rfl,SqT.of (s2 _ _ hD),g4,rfl,_,rfl,No (neD 0) ?_⟩
  by_cases d0:fx.d=0
  ·rw[Ze d0]
   exact Yv (nx _ _ ⟨s2,l2,cs,none,rfl,nl2,hL2,by rw[if_pos d0]⟩)
  rw[Zd d0];refine U1 ?_;have hC2:=s2 _ _ hC;refine Jy (fun v H3=>∃ l,v = .ref l∧Same H2 H3∧H2 l=none∧H3 l=some (.lst (vN (Xw (Z5 ys) cs)))) (fun R hR=>?_) (fun v H3 z=>?_)
  ·refine⟨_,rfl,cp,rfl,⟨_,SqL.of hC2⟩,Uf (K:=K) (xs:=vN cs) (Zk3 (Z5 ys)) (fun x=>x) (SqL.of hC2) (Jp _ (by rw[J0];omega)) (fun x H3 hx sm R hR=>?_) (fun x H3 hx hp sm R hR=>⟨_,rfl,hR H3 (Same.refl H3)⟩) (fun l H3 sm hl hL=>hR _ _ ⟨l,rfl,sm,hl,by rw[hL,Zd9]⟩)⟩
   obtain⟨c,hc,rfl⟩:=Zw.mp hx;have e:decide (V.int (((c:Nat):Int) / 8)=V.int ((Z5 ys:Nat):Int))=Zk3 (Z5 ys) (.int (c:Nat)):=by
    rw[Kq,eq_int];exact decide_eq_decide.mpr ⟨fun h=>by omega,fun h=>by omega⟩
   refine⟨_,rfl,_,_,rfl,rfl,⟨by decide,by decide⟩,_,rfl,rfl,_,rfl,?_⟩;have z:=hR H3 (Same.refl H3);rw[← e] at z;exact z
  obtain⟨l3,rfl,s3,nl3,hL3⟩:=z;have s23:=s2.trans s3;refine Xg (fun σ H5=>Same H H5∧∃(l5:Addr) (ss:List Nat),σ=[some (.ref d),some (.ref cp),some (.ref tp),some (.int ((Z5 ys:Nat):Int)),some (.ref l2),some (.ref l5),none,none]∧H l5=none∧H5 l2=some (.lst (vN cs))∧H5 l5=some (.lst (vN ss))∧ss=(if fx.d=1 then Xw (Z5 ys) cs else Ea (Xw (Z5 ys) cs) (trL t cs))) (fun D2 er2 nx2=>?_) (fun σ H5 z=>?_)
  ·refine⟨_,rfl,Jp 0 (by decide),fun lq hlq=>?_⟩
   have aq:=Zx hlq (.lst []);refine⟨l3,lq,_,rfl,rfl,SqL.of (aq _ _ hL3),SqL.of Zn,_,rfl,No (Df _) ?_⟩;generalize upd H3 lq (.lst [])=Hq at aq ⊢;have sq:=s23.trans aq;by_cases f0:Xw (Z5 ys) cs=[]
   ·rw[Ze f0]
    refine U1 ⟨_,rfl,d,_,_,_,rfl,rfl,SqT.of (sq _ _ hD),g4,rfl,_,rfl,No (neD 1) ?_⟩;by_cases d1:fx.d=1
    ·rw[Ze d1]
     exact Yv (nx2 _ _ ⟨sq,l3,_,rfl,s2.free nl3,aq _ _ (s3 _ _ hL2),aq _ _ hL3,by rw[if_pos d1]⟩)
    ·rw[Zd d1]
     have hCq:=sq _ _ hC;refine U1 ⟨_,rfl,cp,rfl,⟨_,SqL.of hCq⟩,Uf (K:=K) (xs:=vN cs) (trV t) (fun x=>x) (SqL.of hCq) (Jp _ (by rw[J0];omega)) (fun x H3 hx sm R hR=>?_) (fun x H3 hx hp sm R hR=>⟨_,rfl,hR H3 (Same.refl H3)⟩) (fun l H6 sm hl hL=>nx2 _ _ ⟨sq.trans sm,l,_,rfl,sq.free hl,sm _ _ (aq _ _ (s3 _ _ hL2)),by rw[hL,Ze0],?_⟩)⟩
     ·obtain⟨c,hc,rfl⟩:=Zw.mp hx
      refine⟨_,rfl,_,_,rfl,rfl,⟨by decide,by decide⟩,_,rfl,d,_,_,_,rfl,rfl,SqT.of (sm _ _ (sq _ _ hD)),g5,rfl,_,rfl,?_⟩;have z:=hR H3 (Same.refl H3);rw[Zbd,← Se t (c32 c hc)] at z;exact z
     ·rw[if_neg d1]
      unfold Ea;rw[if_pos f0]
   ·rw[Zd f0]
    refine Yv (Yv (nx2 _ _ ⟨sq,l3,_,rfl,s2.free nl3,aq _ _ (s3 _ _ hL2),aq _ _ hL3,?_⟩));unfold Ea;rw[if_neg f0];split<;>rfl
  obtain⟨s5,l5,ss,rfl,nl5,hL25,hL5,ess⟩:=z;have emid:Ea ss cs=(if fx.d=1 then Ea (Xw (Z5 ys) cs) cs else Xy t (Z5 ys) cs):=by
   rw[ess];by_cases d1:fx.d=1
   ·rw[if_pos d1,if_pos d1]
   ·rw[if_neg d1,if_neg d1,Zdd]
    rfl
  refine⟨_,rfl,Jp 0 (by decide),fun lq hlq=>?_⟩;have aq:=Zx hlq (.lst []);refine⟨l5,lq,_,rfl,rfl,SqL.of (aq _ _ hL5),SqL.of Zn,_,rfl,No (congrArg (fun b=>!b) (Df _)) ?_⟩;generalize upd H5 lq (.lst [])=Hq at aq ⊢;by_cases f0:ss=[]
  ·rw[Ze f0]
   refine Yv (nx _ _ ⟨s5.trans aq,l2,cs,_,rfl,nl2,aq _ _ hL25,?_⟩);rw[if_neg d0,← emid];unfold Ea;rw[if_pos f0]
  ·rw[Zd f0]
   refine U1 ⟨_,rfl,nx _ _ ⟨s5.trans aq,l5,ss,_,rfl,nl5,aq _ _ hL5,?_⟩⟩;rw[if_neg d0,← emid];unfold Ea;rw[if_neg f0]
 obtain⟨s4,l4,mid,x5,rfl,nl4,hL4,emid⟩:=z;have msub:∀ c∈mid,c∈cs:=fun c hc=>by
  rw[emid] at hc;by_cases d0:fx.d=0
  ·rw[if_pos d0] at hc
   exact hc
  ·rw[if_neg d0] at hc
   by_cases d1:fx.d=1
   ·rw[if_pos d1] at hc
    exact Bu (B5 _ _) (fun _ h=>h) c hc
   ·rw[if_neg d1] at hc
    exact Q7 _ _ _ c hc
 have mlen:mid.length≤100:=by
  rw[emid];split
  ·exact c100
  ·have lF:(Xw (Z5 ys) cs).length≤cs.length:=List.length_filter_le _ _
   have lT:(trL t cs).length≤cs.length:=by
    cases t with
    | none=>exact Nat.zero_le _
    | some u=>exact List.length_filter_le _ _
   split
   ·unfold Ea;split<;>omega
   ·show(Ea (Xw (Z5 ys) cs) (Ea (trL t cs) cs)).length≤100
    unfold Ea;split
    ·split<;>omega
    ·omega
 refine Xg (fun σ H5=>Same H H5∧∃(l5:Addr) (x5 x6 x7:Option V),σ=[some (.ref d),some (.ref cp),some (.ref tp),some (.int ((Z5 ys:Nat):Int)),some (.ref l5),x5,x6,x7]∧H l5=none∧H5 l5=some (.lst (vN (alw fx.d fx t ys cs)))) (fun D' er nx=>?_) (fun σ H5 z=>?_)
 ·refine⟨_,rfl,d,_,_,_,rfl,rfl,SqT.of (s4 _ _ hD),g4,rfl,_,rfl,No (Zew fx.d 3) ?_⟩
  by_cases d3:fx.d=3
  ·rw[Ze d3]
   refine U1 ?_;have hRt4:=hRt.same s4;have hY4:=s4 _ _ hY;have yl:=B.len;have lm:=mlen;refine Jy (fun v H6=>∃(p:Addr) (j y:Nat),v = .ref p∧Same H4 H6∧ys[j]? = some y∧(∀ o∈ys,rk fx t (Z5 ys) o≤rk fx t (Z5 ys) y)∧H6 p=some (.tup ((Xh fx t (Z5 ys) y).map V.int))) (fun R hR=>?_) (fun v H6 z=>?_)
   ·refine⟨_,rfl,tp,rfl,⟨_,SqL.of hY4⟩,Ba (K:=K) (xs:=vN ys) (fun _ i v H=>∃(p:Addr) (y:Nat),ys[i]? = some y∧v = .ref p∧H p=some (.tup ((Xh fx t (Z5 ys) y).map V.int))) (SqL.of hY4) (Jp _ (by rw[J0];omega)) (fun l i v H H' g sm=>?_) (fun l i v H xs zs g hl=>?_) (fun i x H5 l vs hx sm hl hL R hR=>?_) (fun l H5 vs sm hl hL hvl hvs=>?_)⟩
    ·obtain⟨p,y,a1,a2,a3⟩:=g
     exact⟨p,y,a1,a2,sm _ _ a3⟩
    ·obtain⟨p,y,a1,a2,a3⟩:=g
     exact⟨p,y,a1,a2,by rw[Jf (Mm a3 hl (fun z=>nomatch z))];exact a3⟩
    ·obtain⟨y,hy,rfl⟩:=Eb hx
     exact⟨_,rfl,_,rfl,_,rfl,d,fx,t,sz,y,Z5 ys,rfl,ok,hRt4.same sm,(B.ys8 y (Zg hy)).2,y32 y (Zg hy),fun p H6 s6 hp6=>hR _ _ s6 ⟨p,y,hy,rfl,hp6⟩⟩
    ·rw[J0] at hvl
     have ex:∃ ps:List Addr,vs=ps.map V.ref:=by
      refine⟨vs.map fun v=>match v with | .ref a=>a | _=>0,?_⟩;rw[Z1];apply Ua;intro j;rw[Zl];cases e:vs[j]? with
      | none=>rfl
      | some v=>
       obtain⟨p,y,_,rfl,_⟩:=hvs j v e;rfl
     obtain⟨ps,rfl⟩:=ex;rw[Zf] at hvl;refine⟨l,ps,ys.map (Xh fx t (Z5 ys)),(fun i=>((rk fx t (Z5 ys) (ys.getD i 0):Nat):Int)),rfl,⟨SqL.of hL,by rw[Zf];exact hvl,fun j p hj=>?_⟩,by rw[hvl];exact B.ne,fun i j ns ms hi hj=>?_,fun j p hj hmax=>?_⟩
     ·obtain⟨p',y,a1,a2,a3⟩:=hvs j (.ref p) (by rw[Zl,hj];rfl)
      injection a2 with a2
      subst a2;exact⟨_,by rw[Zl,a1];rfl,a3⟩
     ·rw[Zl] at hi hj
      obtain⟨a,a1,rfl⟩:=Option.map_eq_some_iff.mp hi;obtain⟨b,b1,rfl⟩:=Option.map_eq_some_iff.mp hj;show HT.lexLt _ _=decide (((rk fx t (Z5 ys) (ys.getD i 0):Nat):Int) > ((rk fx t (Z5 ys) (ys.getD j 0):Nat):Int));rw[Zj,Zj,a1,b1];exact Gx ok t _ b a
     ·obtain⟨p',y,a1,a2,a3⟩:=hvs j (.ref p) (by rw[Zl,hj];rfl)
      injection a2 with a2
      subst a2;refine hR _ _ ⟨p,j,y,rfl,sm,a1,fun o ho=>?_,a3⟩;obtain⟨m,hm,em⟩:=Z2.mp ho;have:((rk fx t (Z5 ys) (ys.getD m 0):Nat):Int)≤((rk fx t (Z5 ys) (ys.getD j 0):Nat):Int):=hmax m (by rw[hvl];exact hm);rw[Zj,Zj,a1,Za hm,em] at this;have t2:((rk fx t (Z5 ys) o:Nat):Int)≤((rk fx t (Z5 ys) y:Nat):Int):=this;omega
   obtain⟨p,j,y,rfl,s6,hj,hmx,hp6⟩:=z;have hL6:=s6 _ _ hL4;refine Jy (fun v H7=>∃ l,v = .ref l∧Same H6 H7∧H7 l=some (.lst (vN (Bh fx t ys mid)))∧H6 l=none) (fun R hR=>?_) (fun v H7 z=>?_)
   ·refine⟨_,rfl,l4,rfl,⟨_,SqL.of hL6⟩,Uf (K:=K) (xs:=vN (mid)) (gtV fx t (Z5 ys) (rk fx t (Z5 ys) y)) (fun x=>x) (SqL.of hL6) (Jp _ (by rw[J0];omega)) (fun x H7 hx sm R hR=>?_) (fun x H3 hx hp sm R hR=>⟨_,rfl,hR H3 (Same.refl H3)⟩) (fun l H7 sm hl hL=>hR _ _ ⟨l,rfl,sm,by rw[hL,Zht,Zl7 ok hj hmx],hl⟩)⟩
    obtain⟨c,hc,rfl⟩:=Zw.mp hx;have cin:c∈cs:=msub c hc;refine⟨_,rfl,_,rfl,_,rfl,d,fx,t,sz,c,Z5 ys,rfl,ok,(hRt4.same s6).same sm,(B.cs8 c cin).2,c32 c cin,fun p8 H8 s8 hp8=>?_⟩;have z:=hR H8 s8;refine⟨_,rfl,p8,p,_,_,rfl,rfl,SqT.of hp8,SqT.of (s8 _ _ (sm _ _ hp6)),_,rfl,?_⟩;have e:gtV fx t (Z5 ys) (rk fx t (Z5 ys) y) (.int (c:Nat))=HT.lexLt (Xh fx t (Z5 ys) y) (Xh fx t (Z5 ys) c):=by
     rw[Zch,Gx ok];exact decide_eq_decide.mpr ⟨fun h=>by omega,fun h=>by omega⟩
    rw[e] at z;exact z
   obtain⟨l7,rfl,s7,hL7,nl7⟩:=z;have s67:=(s4.trans s6).trans s7;have ea:alw fx.d fx t ys cs=Ea (Bh fx t ys mid) mid:=by
    rw[emid,d3];rfl
   refine⟨_,rfl,Jp 0 (by decide),fun lq hlq=>?_⟩;have aq:=Zx hlq (.lst []);refine⟨l7,lq,_,rfl,rfl,SqL.of (aq _ _ hL7),SqL.of Zn,_,rfl,No (congrArg (fun b=>!b) (Df _)) ?_⟩;generalize upd H7 lq (.lst [])=Hq at aq ⊢;by_cases t0:Bh fx t ys mid=[]
   ·rw[Ze t0]
    refine Yv (nx _ _ ⟨s67.trans aq,l4,_,_,_,rfl,nl4,?_⟩);rw[aq _ _ (s7 _ _ hL6),ea,Zpd t0]
   ·rw[Zd t0]
    refine U1 ⟨_,rfl,nx _ _ ⟨s67.trans aq,l7,_,_,_,rfl,(s4.trans s6).free nl7,?_⟩⟩;rw[aq _ _ hL7,ea,Zpc t0]
  ·rw[Zd d3]
   refine Yv (nx _ _ ⟨s4,l4,_,_,_,rfl,nl4,?_⟩);rw[hL4,emid];by_cases d0:fx.d=0
   ·rw[if_pos d0,d0]
    rfl
   ·rw[if_neg d0,Zld fx.d d0 d3]
 obtain⟨s5,l5,x5,x6,x7,rfl,nl5,hL5⟩:=z;exact⟨_,rfl,q l5 H5 s5 nl5 (by rw[if_neg y0];exact hL5)⟩
end
theorem Zif(ls:List Nat)(sz:Nat):∀ n,((List.range n).map fun j=>(ls.drop (sz * j)).take sz).flatten=ls.take (sz * n)
 | 0=>by simp
 | n+1=>by
  rw[List.range_succ,Ju,List.flatten_append,Zif ls sz n,Nat.mul_succ,List.take_add];simp
theorem Mz:∀(css:List (List Nat)) (F:Nat→List Nat),(∀(j:Nat) (cs:List Nat),css[j]? = some cs→cs.Perm (F j))→css.flatten.Perm ((List.range css.length).map F).flatten
 | [],_,_=>by simp
 | c :: r,F,h=>by
  rw[Jc,List.range_succ_eq_map,List.map_cons,List.flatten_cons,List.flatten_cons,Z1];exact(h 0 c rfl).append (Mz r (F ∘ Nat.succ) fun j cs e=>h (j+1) cs e)
structure DealOk(f:Fx)(sz:Nat)(css:List (List Nat)):Prop where
 len:css.length=f.n
 each:∀ cs∈css,cs.length=sz
 nd:css.flatten.Nodup
 pk:∀ c∈css.flatten,c / 8 < f.s∧c % 8 < f.h
 up:∀ cs∈css,cs.Pairwise (·≤·)
theorem Zjt:∀ s≤4,∀ h≤8,(X2 s h).Nodup:=by decide +kernel
theorem Re(s h:Nat):(X2 s h).length=s * h:=by
 unfold X2
 induction s with
 | zero=>simp
 | succ s ih=>rw[List.range_succ,List.flatMap_append,Zs,ih];simp [Nat.succ_mul]
theorem Zb1:∀{a b:List Nat},a.Nodup→b.Nodup→(∀ x,x∈a↔x∈b)→a.length=b.length
 | [],b,_,_,h=>by
  cases b with
  | nil=>rfl
  | cons x r=>exact absurd ((h x).mpr Zt) Yr
 | x :: a,b,ha,hb,h=>by
  have hx:x∈b:=(h x).mp Zt;obtain⟨na,ha'⟩:=List.nodup_cons.mp ha;have e:=Zb1 (a:=a) (b:=b.erase x) ha' (hb.erase x) fun y=>by
   rw[hb.mem_erase_iff];constructor
   ·exact fun hy=>⟨fun z=>na (z ▸ hy),(h y).mp (Zu _ hy)⟩
   ·rintro⟨n,hy⟩
    exact(List.mem_cons.mp ((h y).mpr hy)).resolve_left n
  rw[Jc,e,List.length_erase_of_mem hx];have:=List.length_pos_of_mem hx;omega
theorem Zb4{cs:List Nat}(nd:cs.Nodup)(h:∀ c∈cs,c < 32):Xe 32 (hN cs)=cs.length:=
 Zb1 (List.Pairwise.filter _ List.nodup_range) nd fun x=>Nb h x
theorem Tr(b:Nat):∀(css:List (List Nat)),(css.map hN).countP (fun h=>h.testBit b)≤css.flatten.count b
 | []=>Nat.zero_le _
 | c :: r=>by
  have ih:=Tr b r;rw[List.map_cons,List.countP_cons,List.flatten_cons,List.count_append,Up];by_cases e:b∈c
  ·have:=List.count_pos_iff.mpr e
   rw[Ze e,if_pos rfl];omega
  ·rw[Zd e,if_neg Zq]
   omega
theorem DealOk.nd1{f:Fx}{sz:Nat}{css:List (List Nat)}(D:DealOk f sz css){cs:List Nat}(h:cs∈css):cs.Nodup:=(List.pairwise_flatten.mp D.nd).1 cs h
theorem DealOk.c32{f:Fx}{sz:Nat}{css:List (List Nat)}(ok:f.Ok)(D:DealOk f sz css){cs:List Nat}(h:cs∈css):∀ c∈cs,c < 32:=fun c hc=>by
 have:=D.pk c (List.mem_flatten.mpr ⟨cs,h,hc⟩);have:=ok.s4;have:=ok.h8;omega
theorem DealOk.plc{f:Fx}{sz:Nat}{css:List (List Nat)}(ok:f.Ok)(D:DealOk f sz css){lead:Nat}(hl:lead < f.n):Plc f (css.map hN) lead [] sz:=by
 have c1:∀ b,Er (css.map hN) [] b≤css.flatten.count b:=fun b=>by
  unfold Er;rw[List.count_nil];exact Tr b css
 refine⟨by rw[Zf];exact D.len,hl,by show 0 < f.n;omega,fun b=>Nat.le_trans (c1 b) (List.nodup_iff_count.mp D.nd b),fun b hb=>D.pk b (List.count_pos_iff.mp (Z3 hb (c1 b))),fun i h e=>?_⟩;rw[Zl] at e;obtain⟨cs,e1,rfl⟩:=Option.map_eq_some_iff.mp e;have m:=Zg e1;show Xe 32 (hN cs)+(if off f.n lead i < 0 then 1 else 0)=sz;rw[Zb4 (D.nd1 m) (D.c32 ok m),if_neg (Nat.not_lt_zero _),D.each cs m,Nat.add_zero]
abbrev Zaa:Stmt:=top 59
abbrev V9:Stmt:=top 60
section
variable{P:Program}{w:World}{K:W.Frag}{mg:Str→Option Value}{base:Heap}{f g:Addr}{fd gd:FuncData}
def IsDl(H:Hp)(as:List Addr)(css:List (List Nat)):Prop:=as.length=css.length∧∀(j:Nat) (a:Addr),as[j]? = some a→∃ cs,css[j]? = some cs∧H a=some (.lst (vN cs))
theorem IsDl.same{H H':Hp}{as:List Addr}{css:List (List Nat)}(h:IsDl H as css)(s:Same H H'):IsDl H' as css:=⟨h.1,fun j a e=>let ⟨cs,x,y⟩:=h.2 j a e;⟨cs,x,s _ _ y⟩⟩
def IsSt(H:Hp)(st:Addr)(css:List (List Nat))(lead:Nat)(ys:List Nat):Prop:=∃(lc lt:Addr) (as:List Addr),H st=some (.tup [.ref lc,.int (lead:Nat),.ref lt])∧H lc=some (.lst (as.map V.ref))∧IsDl H as css∧H lt=some (.lst (vN ys))
theorem IsSt.same{H H':Hp}{st:Addr}{css:List (List Nat)}{lead:Nat}{ys:List Nat}(h:IsSt H st css lead ys)(s:Same H H'):IsSt H' st css lead ys:=by
 obtain⟨lc,lt,as,a,b,c,d⟩:=h;exact⟨lc,lt,as,s _ _ a,s _ _ b,c.same s,s _ _ d⟩
def IsStN(B H:Hp)(st:Addr)(css:List (List Nat))(lead:Nat)(ys:List Nat):Prop:=∃(lc lt:Addr) (as:List Addr),H st=some (.tup [.ref lc,.int (lead:Nat),.ref lt])∧H lc=some (.lst (as.map V.ref))∧IsDl H as css∧H lt=some (.lst (vN ys))∧B st=none∧B lc=none∧B lt=none∧∀ a∈as,B a=none
theorem IsStN.is{B H:Hp}{st:Addr}{css:List (List Nat)}{lead:Nat}{ys:List Nat}(h:IsStN B H st css lead ys):IsSt H st css lead ys:=by
 obtain⟨lc,lt,as,a,b,c,d,_⟩:=h;exact⟨lc,lt,as,a,b,c,d⟩
structure StOk(f:Fx)(css:List (List Nat))(lead:Nat)(ys:List Nat)(m:Nat):Prop where
 plc:Plc f (css.map hN) lead ys m
 up:∀ cs∈css,cs.Pairwise (· < ·)
section
variable{fx:Fx}{css:List (List Nat)}{lead m:Nat}{ys cs:List Nat}
theorem StOk.nd(S:StOk fx css lead ys m):∀ cs∈css,cs.Nodup:=fun cs h=>(S.up cs h).imp fun {a b} l e=>by omega
theorem StOk.len(S:StOk fx css lead ys m):css.length=fx.n:=by have:=S.plc.len;rw[Zf] at this;exact this
theorem StOk.pk(S:StOk fx css lead ys m)(h:cs∈css){c:Nat}(hc:c∈cs):c / 8 < fx.s∧c % 8 < fx.h:=
 S.plc.pk c (U4 (ys:=ys) (Zw.mpr ⟨cs,h,rfl⟩) (by rw[Up];exact Ze hc))
theorem StOk.c32(ok:fx.Ok)(S:StOk fx css lead ys m)(h:cs∈css):∀ c∈cs,c < 32:=fun c hc=>by
 have:=S.pk h hc;have:=ok.s4;have:=ok.h8;omega
theorem StOk.cl(ok:fx.Ok)(S:StOk fx css lead ys m)(h:cs∈css):cs.length≤32∧cs.length=Xe 32 (hN cs):=by
 have e:=Zb4 (S.nd cs h) (S.c32 ok h);have:Xe 32 (hN cs)≤32:=by
  unfold Xe;have:=List.length_filter_le (fun b=>(hN cs).testBit b) (List.range 32);rw[Jb] at this;exact this
 omega
theorem StOk.turn(ok:fx.Ok)(S:StOk fx css lead ys m):∃ cs,css[(lead+ys.length) % fx.n]? = some cs∧cs.length=m:=by
 obtain⟨h,e1,e2⟩:=S.plc.turn ok;rw[Zl] at e1;obtain⟨cs,e3,rfl⟩:=Option.map_eq_some_iff.mp e1;exact⟨cs,e3,by rw[(S.cl ok (Zg e3)).2,e2]⟩
theorem Zkv{cs:List Nat}{c:Nat}(h:c∈cs):hN (cs.filter fun o=>decide (o≠c))=hN cs ^^^ 2 ^ c:=Nat.eq_of_testBit_eq fun b=>by
 rw[Up,X8 _ _ _ (by rw[Up];exact Ze h),Up];by_cases e:c=b
 ·subst e
  rw[Ze rfl];exact Zd (fun z=>absurd (Z4 (List.mem_filter.mp z).2) (fun n=>n rfl))
 ·rw[Zd e,Bool.not_false,Bool.true_and]
  refine decide_eq_decide.mpr ⟨fun z=>(List.mem_filter.mp z).1,fun z=>List.mem_filter.mpr ⟨z,Ze (Ne.symm e)⟩⟩
theorem StOk.put(ok:fx.Ok){t:Option Nat}{c lead':Nat}{ys':List Nat}{tk:Option Nat}(S:StOk fx css lead ys m)(ec:css[(lead+ys.length) % fx.n]? = some cs)(hc:c∈cs)(N:Nxt fx t (css.map hN) lead ys (hN cs) c ((css.set ((lead+ys.length) % fx.n) (cs.filter fun o=>decide (o≠c))).map hN) lead' ys' tk) :
  ∃ m',StOk fx (css.set ((lead+ys.length) % fx.n) (cs.filter fun o=>decide (o≠c))) lead' ys' m'∧0 < m∧((tk=none∧m'=m∧lead'=lead∧ys'=ys++[c]∧ys.length+1 < fx.n)∨(tk=some lead'∧m'+1=m∧ys'=[]∧lead' < fx.n))∧0 < m:=by
 have eh:(css.map hN)[(lead+ys.length) % fx.n]? = some (hN cs):=by rw[Zl,ec];rfl
 have hb:(hN cs).testBit c=true:=by rw[Up];exact Ze hc
 obtain⟨m',P',_,_,m0,alt⟩:=N.plc ok S.plc eh hb;refine⟨m',⟨P',fun cs' h=>?_⟩,m0,alt,m0⟩;rcases List.mem_or_eq_of_mem_set h with z | z
 ·exact S.up cs' z
 ·rw[z]
  exact(S.up cs (Zg ec)).filter _
end
def Bl:Sp:=fun vs H Q _=>∃(st:Addr) (css:List (List Nat)) (lead:Nat) (ys:List Nat),vs=[.ref st]∧IsSt H st css lead ys∧0 < css.length∧Q (.int (((lead+ys.length) % css.length:Nat):Int)) H
abbrev E4:List Str:=["_law_state_here"]
theorem Zjb:FnScope E4 E4 (Zp Zaa):=⟨rfl,rfl,rfl,by decide +kernel,rfl,by decide +kernel,by decide +kernel⟩
theorem Zg6{k:Nat}(F:Fun K "_law_turn" "_law_turn" Zaa f fd)(ml:mg "len" = none):FnOk P w K mg base Y6 (k+1) f fd E4 Bl:=by
 refine F.ok Zjb (fun vs H Q E h=>?_) (fun cdv A outer s H vs Q E hr h=>?_)
 ·obtain⟨st,css,lead,ys,rfl,_⟩:=h
  rfl
 obtain⟨st,css,lead,ys,rfl,⟨lc,lt,as,h1,h2,h3,h4⟩,n0,q⟩:=h;refine⟨_,Zv (Jj (Ja Y3 (Ja Ym (Jo Jw (pv 0) Zo (fun _ _=>rfl)) (Jl Jt rfl ml Jg (Zb (Jo Jw (pv 0) Zo (fun _ _=>rfl)) Zk))) (Jl Jt rfl ml Jg (Zb (Jo Jw (pv 0) Zo (fun _ _=>rfl)) Zk)))),?_⟩;refine⟨_,rfl,st,_,_,_,rfl,rfl,SqT.of h1,(rfl:Xb [V.ref lc,V.int (lead:Nat),V.ref lt] 1=some (V.int (lead:Nat))),_,rfl,st,_,_,_,rfl,rfl,SqT.of h1,(rfl:Xb [V.ref lc,V.int (lead:Nat),V.ref lt] 2=some (V.ref lt)),lt,_,rfl,.inl (SqL.of h4),_,_,rfl,rfl,_,rfl,st,_,_,_,rfl,rfl,SqT.of h1,(rfl:Xb [V.ref lc,V.int (lead:Nat),V.ref lt] 0=some (V.ref lc)),lc,_,rfl,.inl (SqL.of h2),_,_,rfl,rfl,(by show(0:Int) < (((as.map V.ref).length:Nat):Int);rw[Zf,h3.1];omega),?_⟩;have e:(((lead:Nat):Int)+(((vN ys).length:Nat):Int)) % (((as.map V.ref).length:Nat):Int)=(((lead+ys.length) % css.length:Nat):Int):=by
  rw[J0,Zf,h3.1];rfl
 show Q (.int ((((lead:Nat):Int)+(((vN ys).length:Nat):Int)) % (((as.map V.ref).length:Nat):Int))) H;rw[e];exact q
def Sl:Sp:=fun vs H Q _=>∃(d st:Addr) (f:Fx) (t:Option Nat) (sz:Nat) (css:List (List Nat)) (lead m:Nat) (ys cs:List Nat) (c:Nat),vs=[.ref d,.ref st,.int (c:Nat)]∧f.Ok∧IsRt H d f t sz∧IsSt H st css lead ys∧StOk f css lead ys m∧css[(lead+ys.length) % f.n]? = some cs∧c∈cs ∧
 ∀ r st' lead' ys' tk H',Same H H'→H' r=some (.tup [.ref st',tkV tk])→IsStN H H' st' (css.set ((lead+ys.length) % f.n) (cs.filter fun o=>decide (o≠c))) lead' ys'→Nxt f t (css.map hN) lead ys (hN cs) c ((css.set ((lead+ys.length) % f.n) (cs.filter fun o=>decide (o≠c))).map hN) lead' ys' tk→Q (.ref r) H'
abbrev Av:List Str:=["_law_rules_here","_law_state_here","_law_card"]
abbrev Zhc:List Str:=["_law_rules_here","_law_state_here","_law_card","_law_hands","_law_lead","_law_trick","_law_seat","_law_later","_law_led","_law_strengths","_law_taker"]
theorem scLPut:FnScope Zhc Av (Zp V9):=⟨rfl,rfl,rfl,by decide +kernel,rfl,by decide +kernel,by decide +kernel⟩
abbrev nC1:List Str:=["_law_k","_law_hands","_law_seat","_law_card"]
abbrev nC2:List Str:=["_law_one","_law_k","_law_seat","_law_card"]
abbrev nC3:List Str:=["_law_one","_law_rules_here","_law_led"]
def Zqx:Scope:=match Yz V9 with
 | [_,_,.Assign _ (.ListComp _ _ sc _) _,_,_,_,_,_,_]=>sc
 | _=>Zp V9
def Zhl(i seat c:Nat)(x:V):Bool:=match x with | .int o=>decide (i≠seat) || decide (o≠((c:Nat):Int)) | _=>false
theorem Zax(i seat c:Nat)(cs:List Nat):(((vN cs).filter (Zhl i seat c)).map fun x=>x)=vN (cs.filter fun o=>decide (i≠seat) || decide (o≠c)):=by
 rw[List.map_id'];unfold vN;rw[List.filter_map];refine congrArg _ (List.filter_congr fun o _=>?_);show(decide (i≠seat) || decide (((o:Nat):Int)≠((c:Nat):Int)))=_;have:decide (((o:Nat):Int)≠((c:Nat):Int))=decide (o≠c):=decide_eq_decide.mpr ⟨fun h=>by omega,fun h=>by omega⟩;rw[this]
theorem Zbx{vs:List V}(h:∀(j:Nat) (v:V),vs[j]? = some v→∃ p:Addr,v = .ref p):∃ ps:List Addr,vs=ps.map V.ref:=by
 refine⟨vs.map fun v=>match v with | .ref a=>a | _=>0,?_⟩;rw[Z1];apply Ua;intro j;rw[Zl];cases e:vs[j]? with
 | none=>rfl
 | some v=>
  obtain⟨p,rfl⟩:=h j v e;rfl
theorem Zj9{k:Nat}{f1 f2:Addr}{d1 d2:FuncData}(F:Fun K "_law_put" "_law_put" V9 f fd)(LT:Lib P w K mg base k "_law_turn" E4 Bl f1 d1)(LR:Lib P w K mg base k "_law_strength" G6 Do f2 d2)(ml:mg "len" = none)(mr:mg "range" = none)(mM:mg "max" = none):FnOk P w K mg base Y6 (k+1) f fd Av Sl:=by
 refine F.ok scLPut (fun vs H Q E h=>?_) (fun cdv A outer s H vs Q E hr h=>?_)
 ·obtain⟨d,st,fx,t,sz,css,lead,m,ys,cs,c,rfl,_⟩:=h
  rfl
 obtain⟨d,st,fx,t,sz,css,lead,m,ys,cs,c,rfl,ok,hRt,hSt,S,ec,hc,q⟩:=h;refine⟨_,Zm (Zad (pv 1) (N4 rfl (Yb (Jm (i:=3) scLPut.nd rfl (Or.inr rfl)) (Yb (Jm (i:=4) scLPut.nd rfl (Or.inl rfl)) (Yb (Jm (i:=5) scLPut.nd rfl (Or.inl rfl)) Qu)))))
  (Zm (Z9 (i:=6) scLPut.nd rfl (Or.inr rfl) (Z6 LT.ok hr rfl LT.mg LT.kp LT.bd .nil Jn (Zb (pv 1) Zk)))
  (Zm (Al (i:=7) nC1 [none,some 3,some 6,some 2] rfl scLPut.nd rfl (Or.inl rfl) (BlkC.by (sc:=Zp V9) (N0:=Zhc) rfl rfl (by decide +kernel)) (Xc rfl mr (Zb (Jl Jt rfl ml Jg (Zb (pv 3) Zk)) Zk)) (fun C s₀ H₀ ex=>Jm (i:=0) (show nC1.Nodup by decide +kernel) rfl (Or.inr rfl)) (fun C s₀ H₀ ex=>Uj)
   (fun C s₀ H₀ ex=>Y7 nC2 [none,some 0,some 2,some 3] rfl (Blk.by (sc:=Zjg Zqx (Zp V9)) (N0:=nC1) rfl rfl (by decide +kernel)) (Br K rfl (Jo (show IxR _ (Zo1 K) from J9) (pv 1) (pv 0) (fun _ _=>rfl))) (fun C s₀ H₀ ex=>Jm (i:=0) (show nC2.Nodup by decide +kernel) rfl (Or.inl rfl))
    (fun C s₀ H₀ ex=>N5 (PW.pt (Gy (Je Q5 (pv 1) (pv 2) (Js _)) (Vr (Je Q5 (pv 0) (pv 3) (Js _)))))) (fun C s₀ H₀ ex=>pv 0)))
  (Zm (Z9 (i:=5) scLPut.nd rfl (Or.inl rfl) (Ja Tb (pv 5) (Uk (Zb (pv 2) Zk))))
  (Zm (Yh (Je Zb6 (Jl Jt rfl ml Jg (Zb (pv 5) Zk)) (Jl Jt rfl ml Jg (Zb (pv 3) Zk)) (Js _))
   (Zv (Jj (Y2 (Zb (Y2 (Zb (pv 7) (Zb (pv 4) (Zb (pv 5) Zk)))) (Zb Vu Zk))))) Jz)
  (Zm (Z9 (i:=8) scLPut.nd rfl (Or.inr rfl) (Ja Ys (Jo J9 (pv 5) Zo (fun _ _=>rfl)) Zo))
  (Zm (U9 (i:=9) nC3 [none,some 0,some 8] rfl scLPut.nd rfl (Or.inl rfl) (Blk.by (sc:=Zp V9) (N0:=Zhc) rfl rfl (by decide +kernel)) (Yn (pv 5)) (fun C s₀ H₀ ex=>Jm (i:=0) (show nC3.Nodup by decide +kernel) rfl (Or.inl rfl)) (fun C s₀ H₀ ex=>Uj)
   (fun C s₀ H₀ ex=>Z6 LR.ok hr rfl LR.mg LR.kp LR.bd .nil Jn (Zb (pv 1) (Zb (pv 0) (Zb (pv 2) Zk)))))
  (Zm (Z9 (i:=10) scLPut.nd rfl (Or.inl rfl) (Ja Y3 (Ja Ym (pv 4) (Xp Jr PySem.F.slot_list_index PySem.F.type_list_index (Zdv hr.units) (pv 9) (Zb (Jl (M4 rfl hr.units) rfl mM PyProof.Rows.boot_max (Zb (pv 9) Zk)) Zk))) (Jl Jt rfl ml Jg (Zb (pv 3) Zk))))
  (Zv (Jj (Y2 (Zb (Y2 (Zb (pv 7) (Zb (pv 10) (Zb (Uk Zk) Zk)))) (Zb (pv 10) Zk)))))))))))),?_⟩
 have n4:fx.n≤4:=by rcases ok.n34 with e | e<;>omega
 have n0:0 < fx.n:=by rcases ok.n34 with e | e<;>omega
 have hlen:=S.len;have yl:=S.plc.yl;obtain⟨lc,lt,as,h1,h2,h3,h4⟩:=id hSt;have al:as.length=fx.n:=h3.1.trans hlen;have sl:(lead+ys.length) % fx.n < fx.n:=Uw ok _ _;have cm:=Zg ec;have eh:(css.map hN)[(lead+ys.length) % fx.n]? = some (hN cs):=by rw[Zl,ec];rfl
 have hb:(hN cs).testBit c=true:=by rw[Up];exact Ze hc
 refine⟨_,rfl,st,_,rfl,SqT.of h1,rfl,_,_,rfl,_,_,rfl,_,_,rfl,rfl,?_⟩;refine nxE ?_;refine Jy (fun v H1=>H1=H∧v = .int (((lead+ys.length) % fx.n:Nat):Int)) (fun R hR=>⟨_,rfl,st,css,lead,ys,rfl,hSt,by omega,hR _ _ ⟨rfl,by rw[hlen]⟩⟩) (fun v H1 z=>?_);obtain⟨rfl,rfl⟩:=z;generalize eseat:(lead+ys.length) % fx.n=seat at *;refine Jy (fun v H2=>∃(l:Addr) (bs:List Addr),v = .ref l∧Same H1 H2∧H2 l=some (.lst (bs.map V.ref))∧IsDl H2 bs (css.set seat (cs.filter fun o=>decide (o≠c)))∧H1 l=none∧∀ b∈bs,H1 b=none) (fun R hR=>?_) (fun v H2 z=>?_)
 ·refine⟨_,rfl,lc,_,rfl,.inl (SqL.of h2),(((as.map V.ref).length:Nat):Int),rfl,by omega,by rw[Zf];omega,?_⟩
  refine Bb (J:=Itr 0 (as.map V.ref).length) (as.map V.ref).length (fun i=>.int (0+((i:Nat):Int))) (fun l i v H=>∃(a:Addr) (ds:List Nat),css[i]? = some ds∧v = .ref a∧a≠l∧H a=some (.lst (vN (ds.filter fun o=>decide (i≠seat) || decide (o≠c))))∧H1 a=none) (Jp _ (by rw[Zf];omega)) (fun i H _ hi=>hi) (fun H _=>Nat.le_refl _) (fun i H x H' _ _ y=>y) (fun l i v H H' g sm=>?_) (fun l i v H xs zs g hl=>?_) (fun i H3 l vs hi sm hl hL R hR=>?_) (fun l H3 vs sm hl hL hvl hvs=>?_)
  ·obtain⟨a,ds,g1,g2,g3,g4,g5⟩:=g
   exact⟨a,ds,g1,g2,g3,sm _ _ g4,g5⟩
  ·obtain⟨a,ds,g1,g2,g3,g4,g5⟩:=g
   exact⟨a,ds,g1,g2,g3,by rw[Jf g3];exact g4,g5⟩
  ·rw[Zf] at hi
   obtain⟨ds,hd1,hd2⟩:=h3.2 i as[i] (Za hi);have dm:=Zg hd1;have dl:=(S.cl ok dm).1;refine⟨_,rfl,_,rfl,lc,_,_,_,rfl,rfl,SqL.of (sm _ _ h2),(by rw[Int.zero_add];exact U7 (by rw[Zl,Za hi];rfl):Xb (as.map V.ref) (0+((i:Nat):Int))=some (V.ref as[i])),as[i],rfl,⟨_,SqL.of (sm _ _ hd2)⟩,?_⟩;refine Uf (K:=K) (xs:=vN ds) (Zhl i seat c) (fun x=>x) (SqL.of (sm _ _ hd2)) (Jp _ (by rw[J0];omega)) (fun x H4 hx s4 R hR=>?_) (fun x H4 hx hp s4 R hR=>⟨_,rfl,hR H4 (Same.refl H4)⟩) (fun l4 H4 s4 hl4 hL4=>hR _ _ s4 ⟨l4,ds,hd1,rfl,fun z=>?_,by rw[hL4,Zax],sm.free hl4⟩)
   ·obtain⟨o,ho,rfl⟩:=Zw.mp hx
    have e1:(!decide (V.int (0+((i:Nat):Int))=V.int ((seat:Nat):Int)))=decide (i≠seat):=by
     rw[eq_int,← decide_not];exact decide_eq_decide.mpr ⟨fun h=>by omega,fun h=>by omega⟩
    have e2:(!decide (V.int ((o:Nat):Int)=V.int ((c:Nat):Int)))=decide (((o:Nat):Int)≠((c:Nat):Int)):=by
     rw[eq_int,← decide_not]
    have z:=hR H4 (Same.refl H4);have ek:Zhl i seat c (V.int ((o:Nat):Int))=(decide (i≠seat) || decide (((o:Nat):Int)≠((c:Nat):Int))):=rfl;rw[ek] at z;refine⟨_,rfl,_,rfl,rfl,_,rfl,No e1 ?_⟩;by_cases hs:i=seat
    ·rw[Zd (fun n=>n hs)] at z ⊢
     refine Yv ⟨_,rfl,_,rfl,rfl,_,rfl,?_⟩;rw[Bool.false_or,← e2] at z;exact z
    ·rw[Ze hs] at z ⊢
     exact U1 z
   ·rw[z] at hl4
    rw[hL] at hl4;cases hl4
  ·rw[Zf] at hvl
   obtain⟨bs,rfl⟩:=Zbx fun j v e=>let ⟨a,_,_,e2,_⟩:=hvs j v e;⟨a,e2⟩;rw[Zf] at hvl;refine hR _ _ ⟨l,bs,rfl,sm,hL,⟨by rw[Y0,hvl,h3.1],fun j b hj=>?_⟩,hl,fun b hb=>?_⟩
   rotate_left
   ·obtain⟨j,hj,ej⟩:=Z2.mp hb
    obtain⟨a,ds,g1,g2,_,g4,g5⟩:=hvs j (.ref b) (by rw[Zl,Za hj,ej];rfl);injection g2 with g2
    rw[g2];exact g5
   obtain⟨a,ds,g1,g2,_,g4,_⟩:=hvs j (.ref b) (by rw[Zl,hj];rfl);injection g2 with g2
   subst g2;refine⟨_,?_,g4⟩;by_cases hs:j=seat
   ·subst hs
    rw[List.getElem?_set_self (Zh.mp g1).1];rw[ec] at g1;cases g1;refine congrArg some (List.filter_congr fun o _=>?_);have ej:decide (j≠j)=false:=Zd (fun n=>n rfl);rw[ej,Bool.false_or]
   ·rw[List.getElem?_set_ne (Ne.symm hs),g1]
    refine congrArg some (List.filter_eq_self.mpr fun o _=>?_).symm;rw[Ze hs,Bool.true_or]
 obtain⟨lr,bs,rfl,s2,hR2,hD2,nR,nB⟩:=z;have eY:vN ys++[V.int (c:Nat)]=vN (ys++[c]):=by unfold vN;rw[Ju];rfl
 refine Jy (fun v H3=>∃(l:Addr),v = .ref l∧Same H2 H3∧H3 l=some (.lst (vN (ys++[c])))∧H2 l=none) (fun R hR=>?_) (fun v H3 z=>?_)
 ·refine⟨_,rfl,_,rfl,Jp 1 (by decide),fun l hl=>⟨lt,l,_,_,rfl,rfl,Zx hl _ _ _ (s2 _ _ h4),Zn,Jp _ (by rw[J0];show ys.length+1≤1000;omega),fun pn hpn=>hR _ _ ⟨pn,rfl,(Zx hl _).trans (Zx hpn _),by rw[Zn,eY],(Zx hl _).free hpn⟩⟩⟩
 obtain⟨lq,rfl,s3,hY3,nY⟩:=z;have s13:=s2.trans s3;have e3:decide (((((vN (ys++[c])).length:Nat)):Int) < (((as.map V.ref).length:Nat):Int))=decide (ys.length+1 < fx.n):=by
  rw[J0,Zs,List.length_singleton,Zf,al];exact decide_eq_decide.mpr ⟨fun h=>by omega,fun h=>by omega⟩
 refine⟨_,rfl,lq,_,rfl,.inl (SqL.of hY3),_,rfl,lc,_,rfl,.inl (SqL.of (s13 _ _ h2)),_,_,rfl,rfl,_,rfl,No e3 ?_⟩;have eset:(css.set seat (cs.filter fun o=>decide (o≠c))).map hN=(css.map hN).set seat (hN cs ^^^ 2 ^ c):=by rw[List.map_set,Zkv hc]
 by_cases cl:ys.length+1 < fx.n
 ·rw[Ze cl]
  refine U1 ⟨_,rfl,_,rfl,_,rfl,Jp 3 (by decide),fun p1 hp1=>⟨Jp 2 (by decide),fun p2 hp2=>?_⟩⟩;have a1:=Zx hp1 (.tup [.ref lr,.int (lead:Nat),.ref lq]);have a2:=Zx hp2 (.tup [.ref p1,.non]);have a12:=a1.trans a2;refine q p2 p1 lead (ys++[c]) none _ (s13.trans a12) Zn ⟨lr,lq,bs,a2 _ _ Zn,a12 _ _ (s3 _ _ hR2),(hD2.same s3).same a12,a12 _ _ hY3,s13.free hp1,nR,s2.free nY,nB⟩ ⟨by rw[eset,eseat],fun _=>⟨rfl,rfl,rfl⟩,fun z=>by omega⟩
 ·rw[Zd cl]
  refine Yv (Zb7 ?_);have cl2:ys.length+1=fx.n:=by omega
  have T:Trk fx (ys++[c]):=⟨Dh S.plc (by rw[eseat];exact eh) hb,fun y hy=>by
   rcases Jh.mp hy with z | z
   ·exact(S.plc.pk y (Qn z)).2
   ·rw[Z7.mp z]
    exact(S.pk cm hc).2,by rw[Zs];exact Nat.succ_pos _⟩
  generalize ezs:ys++[c]=zs at *;have zl:zs.length=fx.n:=by rw[← ezs,Zs,List.length_singleton];exact cl2
  have el:((zs.getD 0 0:Nat):Int) / 8=((Z5 zs:Nat):Int):=by unfold Z5;omega
  have hRt3:=hRt.same s13;have z32:∀ y∈zs,y < 32:=fun y hy=>by
   rw[← ezs] at hy;rcases Jh.mp hy with z | z
   ·exact S.plc.y32 ok z
   ·rw[Z7.mp z]
    exact S.c32 ok cm c hc
  refine Jy (fun v H4=>H3=H4∧v = .int ((Z5 zs:Nat):Int)) (fun R hR=>⟨_,rfl,lq,_,_,_,rfl,rfl,SqL.of hY3,Ty (i:=0) T.ne,_,_,rfl,rfl,⟨by decide,by decide⟩,hR _ _ ⟨rfl,congrArg V.int el⟩⟩) (fun v H4 z=>?_);obtain⟨rfl,rfl⟩:=z;refine Jy (fun v H4=>∃(l:Addr) (ps:List Addr),v = .ref l∧Same H3 H4∧Zn8 K H4 l ps (zs.map (Xh fx t (Z5 zs)))∧ps.length=zs.length) (fun R hR=>?_) (fun v H4 z=>?_)
  ·refine⟨_,rfl,lq,rfl,⟨_,SqL.of hY3⟩,Ba (K:=K) (xs:=vN zs) (fun _ i v H=>∃(p:Addr) (y:Nat),zs[i]? = some y∧v = .ref p∧H p=some (.tup ((Xh fx t (Z5 zs) y).map V.int))) (SqL.of hY3) (Jp _ (by rw[J0];omega)) (fun l i v H H' g sm=>?_) (fun l i v H xs zs g hl=>?_) (fun i x H5 l vs hx sm hl hL R hR=>?_) (fun l H5 vs sm hl hL hvl hvs=>?_)⟩
   ·obtain⟨p,y,a1,a2,a3⟩:=g
    exact⟨p,y,a1,a2,sm _ _ a3⟩
   ·obtain⟨p,y,a1,a2,a3⟩:=g
    exact⟨p,y,a1,a2,by rw[Jf (Mm a3 hl (fun z=>nomatch z))];exact a3⟩
   ·obtain⟨y,hy,rfl⟩:=Eb hx
    exact⟨_,rfl,_,rfl,_,rfl,d,fx,t,sz,y,Z5 zs,rfl,ok,hRt3.same sm,T.ht y (Zg hy),z32 y (Zg hy),fun p H6 s6 hp6=>hR _ _ s6 ⟨p,y,hy,rfl,hp6⟩⟩
   ·rw[J0] at hvl
    obtain⟨ps,rfl⟩:=Zbx fun j v e=>let ⟨a,_,_,e2,_⟩:=hvs j v e;⟨a,e2⟩;rw[Zf] at hvl;refine hR _ _ ⟨l,ps,rfl,sm,⟨SqL.of hL,by rw[Zf];exact hvl,fun j p hj=>?_⟩,hvl⟩;obtain⟨p',y,a1,a2,a3⟩:=hvs j (.ref p) (by rw[Zl,hj];rfl);injection a2 with a2
    subst a2;exact⟨_,by rw[Zl,a1];rfl,a3⟩
  obtain⟨lk,ps,rfl,s4,hT4,pl4⟩:=z;have s14:=s13.trans s4;refine Jy (fun v H5=>H5=H4∧∃ i,Win fx t (Z5 zs) zs i∧v = .int (((lead+i) % fx.n:Nat):Int)) (fun R hR=>?_) (fun v H5 z=>?_)
  ·refine⟨_,rfl,_,rfl,.inl ⟨rfl,_,hT4.1⟩,_,rfl,lk,ps,_,(fun i=>((rk fx t (Z5 zs) (zs.getD i 0):Nat):Int)),rfl,hT4,by omega,fun i j ns ms hi hj=>?_,fun j p hj hmax=>?_⟩
   ·rw[Zl] at hi hj
    obtain⟨a,a1,rfl⟩:=Option.map_eq_some_iff.mp hi;obtain⟨b,b1,rfl⟩:=Option.map_eq_some_iff.mp hj;show HT.lexLt _ _=decide (((rk fx t (Z5 zs) (zs.getD i 0):Nat):Int) > ((rk fx t (Z5 zs) (zs.getD j 0):Nat):Int));rw[Zj,Zj,a1,b1];exact Gx ok t _ b a
   ·have jl:j < zs.length:=by rw[← pl4];exact(Zh.mp hj).1
    have at_:∀ i,i < zs.length→zs[i]? = some (zs.getD i 0):=fun i hi=>by rw[Zj,Za hi];rfl
    have hm:∀ i,i < zs.length→rk fx t (Z5 zs) (zs.getD i 0)≤rk fx t (Z5 zs) (zs.getD j 0):=fun i hi=>by
     have:=hmax i (by rw[pl4];exact hi);have t2:((rk fx t (Z5 zs) (zs.getD i 0):Nat):Int)≤((rk fx t (Z5 zs) (zs.getD j 0):Nat):Int):=this;omega
    have W:=K6 ok T jl hm;obtain⟨ks,hk1,hk2⟩:=hT4.2.2 j p hj;have hks:ks=Xh fx t (Z5 zs) (zs.getD j 0):=by
     rw[Zl,at_ j jl] at hk1;exact(Zr hk1).symm
    have r10:10≤rk fx t (Z5 zs) (zs.getD j 0):=Nat.le_trans (Zfz fx t (zs.getD 0 0)) (hm 0 T.ne);refine⟨lk,p,ps,_,ks,j,rfl,rfl,hT4,by omega,hk2,hk1,fun m' hm' z=>?_,_,_,rfl,rfl,_,rfl,lc,_,rfl,.inl (SqL.of (s14 _ _ h2)),_,_,rfl,rfl,(by show(0:Int) < (((as.map V.ref).length:Nat):Int);rw[Zf,al];omega),hR _ _ ⟨rfl,j,W,?_⟩⟩
    ·have ml':m' < zs.length:=by omega
     rw[Zl,at_ m' ml'] at z;have z':Xh fx t (Z5 zs) (zs.getD m' 0)=ks:=Zr z;rw[hks] at z';have e5:=Zjh ok z';have e6:=Zf0 ok (T.ht _ (Zg (at_ m' ml'))) (T.ht _ (Zg (at_ j jl))) (by rw[e5];exact r10) e5;have:=Ke T.nd (at_ m' ml') (by rw[at_ j jl,e6]);omega
    ·show V.int ((((lead:Nat):Int)+((j:Nat):Int)) % (((as.map V.ref).length:Nat):Int))=_
     rw[Zf,al];rfl
  obtain⟨rfl,i,W,rfl⟩:=z;refine⟨_,rfl,_,rfl,Jp 0 (by decide),fun le hle=>⟨Jp 3 (by decide),fun p1 hp1=>⟨_,rfl,Jp 2 (by decide),fun p2 hp2=>?_⟩⟩⟩;have a0:=Zx hle (.lst []);have a1:=Zx hp1 (.tup [.ref lr,.int (((lead+i) % fx.n:Nat):Int),.ref le]);have a2:=Zx hp2 (.tup [.ref p1,.int (((lead+i) % fx.n:Nat):Int)]);have a12:=a1.trans a2;have a02:=a0.trans a12;refine q p2 p1 ((lead+i) % fx.n) [] (some ((lead+i) % fx.n)) _ (s14.trans a02) Zn ⟨lr,le,bs,a2 _ _ Zn,a02 _ _ (s4 _ _ (s3 _ _ hR2)),((hD2.same s3).same s4).same a02,a12 _ _ Zn,(s14.trans a0).free hp1,nR,s14.free hle,nB⟩ ⟨by rw[eset,eseat],fun z=>by omega,fun _=>⟨rfl,rfl,i,by rw[ezs];exact W,rfl⟩⟩
abbrev Ee:Stmt:=top 62
abbrev X9:Stmt:=top 61
theorem Lib.mono{j k:Nat}{x:Str}{ps:List Str}{sp:Sp}{f1:Addr}{d1:FuncData}(L:Lib P w K mg base j x ps sp f1 d1)(h:j≤k):Lib P w K mg base k x ps sp f1 d1:=⟨L.ok.mono h,L.bd,L.kp,L.mg⟩
def Te(vs:List V):List Nat:=vs.map fun v=>match v with | .int i=>i.toNat | _=>0
theorem Zdt(cs:List Nat):Te (vN cs)=cs:=by
 unfold Te vN;rw[Z1];have:((fun v:V=>match v with | .int i=>i.toNat | _=>0) ∘ fun c:Nat=>V.int (c:Nat))=id:=by funext c;exact Zz c
 rw[this,List.map_id]
def Zcf(H:Hp)(x:V):V:=match x with | .ref a=>(match H a with | some (.lst vs)=>.int ((hN (Te vs):Nat):Int) | _=>.non) | _=>.non
theorem Kn{H:Hp}{a:Addr}{cs:List Nat}(h:H a=some (.lst (vN cs))):Zcf H (.ref a) = .int ((hN cs:Nat):Int):=by
 show(match H a with | some (.lst vs)=>V.int ((hN (Te vs):Nat):Int) | _=>.non)=_;rw[h];show V.int ((hN (Te (vN cs)):Nat):Int)=_;rw[Zdt]
theorem Zaz{H:Hp}{as:List Addr}{css:List (List Nat)}(h:IsDl H as css):((as.map V.ref).filter fun _=>true).map (Zcf H)=vN (css.map hN):=by
 rw[List.filter_eq_self.mpr fun _ _=>rfl];unfold vN;rw[Z1,Z1];apply Ua;intro j;rw[Zl,Zl];cases e:as[j]? with
 | none=>
  have:css[j]? = none:=by
   rw[List.getElem?_eq_none_iff] at e ⊢;rw[← h.1];exact e
  rw[this];rfl
 | some a=>
  obtain⟨cs,e1,e2⟩:=h.2 j a e;rw[e1];show some (Zcf H (V.ref a))=some (V.int ((hN cs:Nat):Int));rw[Kn e2]
theorem Tq{f:Fx}{sz:Nat}(ok:f.Ok):∀{css:List (List Nat)},(∀ cs∈css,cs.length=sz∧cs.Nodup∧∀ c∈cs,c < 32)→((css.map hN).map (Xe 32)).sum=css.length * sz
 | [],_=>by simp
 | c :: r,h=>by
  obtain⟨a,b,d⟩:=h c Zt;rw[List.map_cons,List.map_cons,List.sum_cons,Tq ok fun cs hcs=>h cs (Zu _ hcs),Zb4 b d,a,Jc,Nat.succ_mul];omega
theorem DealOk.total{f:Fx}{sz:Nat}{css:List (List Nat)}(ok:f.Ok)(D:DealOk f sz css):((css.map hN).map (Xe 32)).sum=f.n * sz:=by
 rw[Tq ok fun cs hcs=>⟨D.each cs hcs,D.nd1 hcs,D.c32 ok hcs⟩,D.len]
theorem Dj:∀(xs:List Nat),((xs.map fun x=>((x:Nat):Int))).sum=((xs.sum:Nat):Int)
 | []=>rfl
 | x :: xs=>by rw[List.map_cons,List.sum_cons,List.sum_cons,Dj xs,Int.natCast_add]
theorem Vx{a b:List Nat}(h:b≠[]):Ea a b≠[]:=by
 unfold Ea;split
 ·exact h
 ·assumption
theorem Zn6{d:_root_.Fin 4}{f:Fx}{t:Option Nat}{ys cs:List Nat}(h:cs≠[]):alw d f t ys cs≠[]:=by
 match d with
 | 0=>exact h
 | 1=>exact Vx h
 | 2=>exact Vx (Vx h)
 | 3=>exact Vx (Vx (Vx h))
theorem Zpl{cs:List Nat}(nd:cs.Nodup)(h:∀ c∈cs,c < 32):cs.length≤32:=by
 have e:=Zb4 nd h;have:Xe 32 (hN cs)≤32:=by
  unfold Xe;have:=List.length_filter_le (fun b=>(hN cs).testBit b) (List.range 32);rw[Jb] at this;exact this
 omega
theorem Af:∀{l:List Nat},(∀ x∈l,x=0)→l.sum=0
 | [],_=>rfl
 | x :: l,h=>by rw[List.sum_cons,h x Zt,Af fun y hy=>h y (Zu _ hy)]
theorem StOk.pos{n:Nat}{fx:Fx}{css:List (List Nat)}{lead m i:Nat}{ys:List Nat}(S:StOk fx css lead ys m)(h:((css.map hN).map (Xe 32)).sum+i=n)(hi:i < n):0 < m:=by
 rcases Nat.eq_zero_or_pos m with z | z
 ·exfalso
  have all:∀ x∈(css.map hN).map (Xe 32),x=0:=fun x hx=>by
   obtain⟨g,hg,rfl⟩:=Zw.mp hx;have:=S.plc.le hg;omega
  have:((css.map hN).map (Xe 32)).sum=0:=Af all;omega
 ·exact z
theorem StOk.beg{fx:Fx}(ok:fx.Ok){css:List (List Nat)}{lead m:Nat}{ys cs:List Nat}(S:StOk fx css lead ys m)(h:cs∈css):ys=[]∨Beg fx ys cs:=by
 by_cases e:ys=[]
 ·exact .inl e
 ·refine .inr ⟨List.length_pos_iff.mpr e,?_,fun c hc=>?_,fun c hc=>⟨S.c32 ok h c hc,(S.pk h hc).2⟩⟩
  ·have:=S.plc.yl
   rcases ok.n34 with e | e<;>omega
  ·have:=S.plc.pk c (Qn hc)
   have:=ok.s4;omega
theorem DealOk.st{f:Fx}{sz:Nat}{css:List (List Nat)}(ok:f.Ok)(D:DealOk f sz css){lead:Nat}(hl:lead < f.n):StOk f css lead [] sz:=⟨D.plc ok hl,fun cs h=>List.Pairwise.imp₂ (fun {a b} (l:a≤b) (n:a≠b)=>by omega) (D.up cs h) (D.nd1 h)⟩
theorem Km{ms:List Int}{cs:List Nat}(h:ms.Perm (cs.map fun c=>((c:Nat):Int))):∃ ds:List Nat,ms.map V.int=vN ds∧ds.Perm cs∧(ms.Pairwise (·≤·)→ds.Pairwise (·≤·)):=by
 have all:∀ m∈ms,∃ c:Nat,m=(c:Int):=fun m hm=>by
  obtain⟨c,_,e⟩:=Zw.mp (h.mem_iff.mp hm);exact⟨c,e.symm⟩
 refine⟨ms.map Int.toNat,?_,?_,fun pw=>?_⟩
 ·unfold vN
  rw[Z1];refine Jq fun m hm=>?_;obtain⟨c,e⟩:=all m hm;show V.int m=V.int ((m.toNat:Nat):Int);rw[e,Zz]
 ·have:=h.map Int.toNat
  rw[Z1] at this;have e:cs.map (Int.toNat ∘ fun c=>((c:Nat):Int))=cs:=by
   have:(Int.toNat ∘ fun c:Nat=>((c:Nat):Int))=id:=by funext c;exact Zz c
   rw[this,List.map_id]
  rw[e] at this;exact this
 ·refine List.pairwise_map.mpr (pw.imp fun {a b} hab=>?_)
  omega
def cPl:Scope:=match Yz Ee with
 | [.Return (some (.Tuple (.Call _ [.ListComp _ _ sc _] _ _ :: _) _ _)) _]=>sc
 | _=>Zp Ee
def Gi(K:W.Frag):Sp:=fun vs H Q _=>∃(st:Addr) (fx:Fx) (css:List (List Nat)) (lead m:Nat) (ys:List Nat),vs=[.ref st]∧fx.Ok∧IsSt H st css lead ys∧StOk fx css lead ys m∧∀ p H',Same H H'→IsPl H' p (css.map hN) lead ys→Q (.ref p) H'
theorem Zfo:FnScope ["_law_state_here"] ["_law_state_here"] (Zp Ee):=⟨rfl,rfl,rfl,by decide +kernel,rfl,by decide +kernel,by decide +kernel⟩
theorem Zdl{k:Nat}(F:Fun K "_law_place" "_law_place" Ee f fd)(mT:mg "tuple" = none)(mS:mg "sum" = none):FnOk P w K mg base Y6 (k+1) f fd ["_law_state_here"] (Gi K):=by
 refine F.ok Zfo (fun vs H Q E h=>?_) (fun cdv A outer s H vs Q E hr h=>?_)
 ·obtain⟨st,fx,css,lead,m,ys,rfl,_⟩:=h
  rfl
 obtain⟨st,fx,css,lead,m,ys,rfl,ok,⟨lc,lt,as,h1,h2,h3,h4⟩,S,q⟩:=h;refine⟨_,Zv (Jj (Y2 (Zb (J8 Uo rfl mT Yi (Zb (Y7 ["_law_hand"] [none] rfl (Blk.by (sc:=Zp Ee) (N0:=["_law_state_here"]) rfl rfl (by decide +kernel)) (Yn (Jo Jw (pv 0) Zo (fun _ _=>rfl))) (fun C s₀ H₀ ex=>Jm (i:=0) (show(["_law_hand"]:List Str).Nodup by decide +kernel) rfl (Or.inl rfl)) (fun C s₀ H₀ ex=>Uj)
   (fun C s₀ H₀ ex=>Jl (show Ui _ (.builtin "sum") (fun xs H Q=>∃(a:Addr) (ns:List Int),xs=[.ref a]∧SqL K H a (ns.map V.int)∧Q (.int ns.sum) H) from Kz rfl) rfl mS PyProof.Rows.boot_sum (Zb (Y7 ["_law_card"] [none] rfl (Blk.by (sc:=Zjg cPl (Zp Ee)) (N0:=["_law_hand"]) rfl rfl (by decide +kernel)) (Br K rfl (pv 0)) (fun C s₀ H₀ ex=>Jm (i:=0) (show(["_law_card"]:List Str).Nodup by decide +kernel) rfl (Or.inl rfl)) (fun C s₀ H₀ ex=>Uj)
    (fun C s₀ H₀ ex=>Ja Ta Zo (pv 0))) Zk))) Zk)) (Zb (Jo Jw (pv 0) Zo (fun _ _=>rfl)) (Zb (J8 Uo rfl mT Yi (Zb (Jo Jw (pv 0) Zo (fun _ _=>rfl)) Zk)) Zk))))),?_⟩
 have n4:fx.n≤4:=by rcases ok.n34 with e | e<;>omega
 have al:as.length=fx.n:=h3.1.trans S.len;refine⟨_,rfl,st,_,_,_,rfl,rfl,SqT.of h1,(rfl:Xb [V.ref lc,V.int (lead:Nat),V.ref lt] 0=some (V.ref lc)),lc,rfl,⟨_,SqL.of h2⟩,Uf (K:=K) (xs:=as.map V.ref) (fun _=>true) (Zcf H) (SqL.of h2) (Jp _ (by rw[Zf];omega)) (fun x H3 hx sm R hR=>hR H3 (Same.refl H3)) (fun xv H5 hx hp sm R hR=>?_) (fun lq H4 s4 hlq hLq=>?_)⟩
 ·obtain⟨av,hav,rfl⟩:=Zw.mp hx
  obtain⟨j,hj,ej⟩:=Z2.mp hav;obtain⟨cs,e1,e2⟩:=h3.2 j av (by rw[Za hj,ej]);have mcs:=Zg e1;have cl:=(S.cl ok mcs).1;have e2':=sm _ _ e2;refine⟨_,rfl,av,rfl,⟨_,SqL.of e2'⟩,Uf (K:=K) (xs:=vN cs) (fun _=>true) Zmt (SqL.of e2') (Jp _ (by rw[J0];omega)) (fun x H3 hx sm R hR=>hR H3 (Same.refl H3)) (fun x H3 hx hp sm R hR=>?_) (fun l H1 sm1 hl hL1=>?_)⟩
  ·obtain⟨c,hc,rfl⟩:=Zw.mp hx
   have:=S.c32 ok mcs c hc;refine⟨_,rfl,_,_,rfl,rfl,⟨by omega,by omega,by decide⟩,?_⟩;have z:=hR H3 (Same.refl H3);show R (V.int ((1:Int) * 2 ^ (((c:Nat):Int)).toNat)) H3;rw[Dw];have e:Zmt (V.int (c:Nat))=V.int ((2 ^ c:Nat):Int):=by
    show V.int ((2 ^ (((c:Nat):Int)).toNat:Nat):Int)=_;rw[Zz]
   rw[e] at z;exact z
  ·rw[Zc9,Qr] at hL1
   have z:=hR H1 sm1;rw[Kn e2] at z;refine⟨l,_,rfl,SqL.of hL1,?_⟩;rw[Dj,Zhr (S.nd cs mcs)];exact z
 rw[Zaz h3] at hLq;refine⟨lq,_,rfl,.inl ⟨SqL.of hLq,fun th hth=>?_⟩⟩;have s5:=s4.trans (Zx hth (.tup (vN (css.map hN))));refine⟨_,rfl,st,_,_,_,rfl,rfl,SqT.of (s5 _ _ h1),(rfl:Xb [V.ref lc,V.int (lead:Nat),V.ref lt] 1=some (V.int (lead:Nat))),_,rfl,st,_,_,_,rfl,rfl,SqT.of (s5 _ _ h1),(rfl:Xb [V.ref lc,V.int (lead:Nat),V.ref lt] 2=some (V.ref lt)),lt,_,rfl,.inl ⟨SqL.of (s5 _ _ h4),fun tz htz=>⟨Jp 3 (by decide),fun p hp=>?_⟩⟩⟩;have a6:=Zx htz (.tup (vN ys));have a7:=Zx hp (.tup [.ref th,.int (lead:Nat),.ref tz]);exact q p _ ((s5.trans a6).trans a7) ⟨th,tz,Zn,a7 _ _ (a6 _ _ Zn),a7 _ _ Zn⟩
theorem Zia{f:Fx}(ok:f.Ok){sz:Nat}{ds:List Nat}{css:List (List Nat)}(hp:ds.Perm (X2 f.s f.h))(hsz:sz * f.n≤f.s * f.h)(hl:css.length=f.n)
  (hc:∀(j:Nat) (cs:List Nat),css[j]? = some cs→cs.Perm ((ds.drop (sz * j)).take sz)) (hu:∀ cs∈css,cs.Pairwise (·≤·)):DealOk f sz css:=by
 have ll:ds.length=f.s * f.h:=by rw[hp.length_eq,Re]
 have e1:=Mz css _ hc;rw[hl,Zif ds sz f.n] at e1;refine⟨hl,fun cs hcs=>?_,?_,fun c hcc=>?_,hu⟩
 ·obtain⟨j,hj,e⟩:=Z2.mp hcs
  have p:=hc j cs (by rw[Za hj,e]);rw[p.length_eq,List.length_take,List.length_drop,ll];have h1:sz * (j+1)≤sz * f.n:=Nat.mul_le_mul_left _ (by omega);rw[Nat.mul_succ] at h1;omega
 ·exact e1.nodup_iff.mpr (List.Nodup.sublist (List.take_sublist _ _) (hp.nodup_iff.mpr (Zjt f.s ok.s4 f.h ok.h8)))
 ·exact(At ok.h8).mp (hp.mem_iff.mp (List.mem_of_mem_take (e1.mem_iff.mp hcc)))
def Gh(K:W.Frag):Sp:=fun vs H Q _=>∃(a:Addr) (ns:List Int) (d:Addr) (f:Fx) (t:Option Nat) (sz steps:Nat),vs=[.ref a,.ref d,.int (steps:Nat)]∧SqL K H a (ns.map V.int)∧ns.length≤63∧f.Ok∧IsRt H d f t sz∧sz * f.n≤f.s * f.h∧steps≤1000 ∧
 ∀ st css lead ys m H',Same H H'→IsSt H' st css lead ys→StOk f css lead ys m→((css.map hN).map (Xe 32)).sum+min steps (f.n * sz)=f.n * sz→Q (.ref st) H'
abbrev Bt:List Str:=["_law_script","_law_rules_here","_law_steps_here"]
abbrev R5:List Str:=["_law_script","_law_rules_here","_law_steps_here","_law_seats","_law_suits","_law_size","_law_word","_law_trump","_law_orders","_law_pack","_law_suit","_law_order_here","_law_hands","_law_state_here","_law_k","_law_some"]
theorem scLState:FnScope R5 Bt (Zp X9):=⟨rfl,rfl,rfl,by decide +kernel,rfl,by decide +kernel,by decide +kernel⟩
abbrev nS1:List Str:=["_law_height","_law_suit"]
abbrev nS2:List Str:=["_law_card","_law_script"]
abbrev nS3:List Str:=["_law_k","_law_order_here","_law_size"]
def cSt:Scope:=match (Yz X9).getD 4 (.Pass ⟨0,0,0,0⟩) with
 | .Assign _ (.ListComp _ _ sc _) _=>sc
 | _=>Zp X9
theorem Zib(xs:List V)(c d:Nat)(hc:c≤xs.length)(hd:d≤xs.length):O0 xs (some (c:Int)) (some (d:Int))=(xs.drop c).take (d - c):=by
 unfold O0;rw[HT.sIx_nat,HT.sIx_nat,Nat.min_eq_left hc,Nat.min_eq_left hd]
theorem Zdk{k:Nat}{f1 f3 f4 f5:Addr}{d1 d3 d4 d5:FuncData}(F:Fun K "_law_state" "_law_state" X9 f fd)(LX:Lib P w K mg base k "_law_mixed" Eh (Ec K) f1 d1)(LT:Lib P w K mg base k "_law_turn" E4 Bl f3 d3)
  (LM:Lib P w K mg base k "_law_may" Aw Sm f4 d4) (LP:Lib P w K mg base k "_law_put" Av Sl f5 d5) (ml:mg "len" = none) (mr:mg "range" = none) (mMn:mg "min" = none) (mso:mg "sorted" = none):FnOk P w K mg base Y6 (k+1) f fd Bt (Gh K):=by
 refine F.ok scLState (fun vs H Q E h=>?_) (fun cdv A outer s H vs Q E hr h=>?_)
 ·obtain⟨a,ns,d,fx,t,sz,steps,rfl,_⟩:=h
  rfl
 obtain⟨a,ns,d,fx,t,sz,steps,rfl,hS,h63,ok,hRt,szn,st1000,q⟩:=h;refine⟨_,Zm (Zad (pv 1) (N4 rfl (Yb (Jm (i:=3) scLState.nd rfl (Or.inl rfl)) (Yb (Jm (i:=4) scLState.nd rfl (Or.inl rfl)) (Yb (Jm (i:=5) scLState.nd rfl (Or.inr rfl)) (Yb (Jm (i:=6) scLState.nd rfl (Or.inl rfl)) (Yb (Jm (i:=7) scLState.nd rfl (Or.inl rfl)) (Yb (Jm (i:=8) scLState.nd rfl (Or.inl rfl)) Qu))))))))
  (Zm (Z9 (i:=9) scLState.nd rfl (Or.inl rfl) (Uk Zk))
  (Zm (Xi PassesOwn.never rfl (Xc rfl mr (Zb (pv 4) Zk)) (Jm (i:=10) scLState.nd rfl (Or.inr rfl)) (Zv (Z9 (i:=9) scLState.nd rfl (Or.inl rfl) (Ja Tb (pv 9) (Y7 nS1 [none,some 10] rfl (Blk.by (sc:=Zp X9) (N0:=R5) rfl rfl (by decide +kernel)) (Xc rfl mr (Zb (Jl Jt rfl ml Jg (Zb (Jo J9 (pv 8) Zo (fun _ _=>rfl)) Zk)) Zk)) (fun C s₀ H₀ ex=>Jm (i:=0) (show nS1.Nodup by decide +kernel) rfl (Or.inl rfl))
    (fun C s₀ H₀ ex=>Uj) (fun C s₀ H₀ ex=>Ja Ym (Ja Xa Zo (pv 1)) (pv 0)))))))
  (Zm (Z9 (i:=11) scLState.nd rfl (Or.inr rfl) (Jl Vc rfl mso Yg (Zb (Y7 nS2 [none,some 0] rfl (Blk.by (sc:=Zp X9) (N0:=R5) rfl rfl (by decide +kernel)) (Yn (pv 9)) (fun C s₀ H₀ ex=>Jm (i:=0) (show nS2.Nodup by decide +kernel) rfl (Or.inl rfl)) (fun C s₀ H₀ ex=>Uj)
    (fun C s₀ H₀ ex=>Y2 (Zb (Ja Y3 (Z6 LX.ok hr rfl LX.mg LX.kp LX.bd .nil Jn (Zb (pv 1) (Zb (Ja Ym Zo (pv 0)) Zk))) Zo) (Zb (pv 0) Zk)))) Zk)))
  (Zm (U9 (i:=12) nS3 [none,some 11,some 5] rfl scLState.nd rfl (Or.inl rfl) (Blk.by (sc:=Zp X9) (N0:=R5) rfl rfl (by decide +kernel)) (Xc rfl mr (Zb (pv 3) Zk)) (fun C s₀ H₀ ex=>Jm (i:=0) (show nS3.Nodup by decide +kernel) rfl (Or.inl rfl)) (fun C s₀ H₀ ex=>Uj)
    (fun C s₀ H₀ ex=>Jl (show Ui _ (.builtin "sorted") (fun xs H Q=>∃(a:Addr) (ns:List Int),xs=[.ref a]∧SqL K H a (ns.map V.int)∧ns.length < 64∧∀(l:Addr) (ms:List Int),H l=none→ms.Perm ns→ms.Pairwise (·≤·)→Q (.ref l) (upd H l (.lst (ms.map V.int)))) from Vb) rfl mso Yg (Zb (Y7 ["_law_pair"] [none] rfl (Blk.by (sc:=Zjg cSt (Zp X9)) (N0:=nS3) rfl rfl (by decide +kernel)) (Br K rfl (An (show SlR _ (Zoy K) from Zi3) (pv 1) (Eg (Ja Xa (pv 0) (pv 2))) (Eg (Ja Ym (Ja Xa (pv 0) (pv 2)) (pv 2))))) (fun C s₀ H₀ ex=>Jm (i:=0) (show(["_law_pair"]:List Str).Nodup by decide +kernel) rfl (Or.inl rfl)) (fun C s₀ H₀ ex=>Uj)
     (fun C s₀ H₀ ex=>Jo (show IxR _ (Zji K) from Jw) (pv 0) Zo (fun _ _=>rfl))) Zk)))
  (Zm (Z9 (i:=13) scLState.nd rfl (Or.inl rfl) (Y2 (Zb (pv 12) (Zb (Ja Y3 (Z6 LX.ok hr rfl LX.mg LX.kp LX.bd .nil Jn (Zb (pv 0) (Zb Zo Zk))) (pv 3)) (Zb (Uk Zk) Zk)))))
  (Zm (Xi PassesOwn.never rfl (Xc rfl mr (Zb (Jl (V5 rfl) rfl mMn PyProof.Rows.boot_min (Zb (pv 2) (Zb (Ja Xa (pv 3) (pv 5)) Zk))) Zk)) (Jm (i:=14) scLState.nd rfl (Or.inl rfl))
   (Zm (Z9 (i:=15) scLState.nd rfl (Or.inl rfl) (Z6 LM.ok hr rfl LM.mg LM.kp LM.bd .nil Jn (Zb (pv 1) (Zb (Jo J9 (Jo Jw (pv 13) Zo (fun _ _=>rfl)) (Z6 LT.ok hr rfl LT.mg LT.kp LT.bd .nil Jn (Zb (pv 13) Zk)) (fun _ _=>rfl)) (Zb (Jo Jw (pv 13) Zo (fun _ _=>rfl)) Zk)))))
   (Zv (Z9 (i:=13) scLState.nd rfl (Or.inl rfl) (Jo Jw (Z6 LP.ok hr rfl LP.mg LP.kp LP.bd .nil Jn (Zb (pv 1) (Zb (pv 13) (Zb (Jo J9 (pv 15) (Ja Y3 (Z6 LX.ok hr rfl LX.mg LX.kp LX.bd .nil Jn (Zb (pv 0) (Zb (Ja Ym Zo (pv 14)) Zk))) (Jl Jt rfl ml Jg (Zb (pv 15) Zk))) (fun _ _=>rfl)) Zk)))) Zo (fun _ _=>rfl))))))
  (Zv (Jj (pv 13))))))))),?_⟩
 obtain⟨lo,lp,lh,hD,hO,hP,hT⟩:=id hRt;have n4:fx.n≤4:=by rcases ok.n34 with e | e<;>omega
 have n0:0 < fx.n:=by rcases ok.n34 with e | e<;>omega
 have s4:=ok.s4;have h8:=ok.h8;have sn:fx.s * fx.h≤32:=Nat.le_trans (Nat.mul_le_mul s4 h8) (by decide);have szc:fx.n * sz=sz * fx.n:=Nat.mul_comm _ _;have sz32:sz≤32:=by
  have:sz * 1≤sz * fx.n:=Nat.mul_le_mul_left _ n0;omega
 have z1000:=Jp 1000 (by decide);refine⟨_,rfl,d,_,rfl,SqT.of hD,rfl,_,_,rfl,_,_,rfl,_,_,rfl,_,_,rfl,_,_,rfl,_,_,rfl,rfl,?_⟩;refine nxE ?_;refine Jy (fun v H1=>∃ l,v = .ref l∧Same H H1∧H1 l=some (.lst [])) (fun R hR=>⟨Jp 0 (by decide),fun l hl=>hR _ _ ⟨l,rfl,Zx hl _,Zn⟩⟩) (fun v H1 z=>?_);obtain⟨l0,rfl,s1,hl0⟩:=z;refine Xg (fun σ H2=>Same H H2∧∃(lk:Addr) (x10:Option V),σ=[some (.ref a),some (.ref d),some (.int (steps:Nat)),some (.int (fx.n:Nat)),some (.int (fx.s:Nat)),some (.int (sz:Nat)),some (.str (wd fx.d)),some (.int (trI t)),some (.ref lo),some (.ref lk),x10,none,none,none,none,none]∧H2 lk=some (.lst (vN (X2 fx.s fx.h)))) (fun D' er nx=>?_) (fun σ H2 z=>?_)
 ·refine⟨_,rfl,(fx.s:Int),rfl,by omega,by omega,?_⟩
  refine Nl (n:=fx.s) (fun i σ H'=>Same H H'∧∃(lk:Addr) (x10:Option V),σ=[some (.ref a),some (.ref d),some (.int (steps:Nat)),some (.int (fx.n:Nat)),some (.int (fx.s:Nat)),some (.int (sz:Nat)),some (.str (wd fx.d)),some (.int (trI t)),some (.ref lo),some (.ref lk),x10,none,none,none,none,none]∧H' lk=some (.lst (vN (X2 i fx.h)))) ⟨s1,l0,none,rfl,hl0⟩ (fun i σ H2 hi z=>?_) (fun σ H2 z=>nx _ _ z);obtain⟨s2,lk,x10,rfl,hL2⟩:=z;refine⟨_,rfl,_,rfl,lo,_,_,_,rfl,rfl,SqL.of (s2 _ _ hO),(rfl:Xb [V.ref lp,V.ref lh] 0=some (V.ref lp)),lp,_,rfl,.inl (SqL.of (s2 _ _ hP)),((fx.h:Nat):Int),(by rw[J0,Yd ok.pp]),by omega,by omega,?_⟩;refine Za2 (n:=fx.h) (lo:=0) (fun _=>true) (fun j=>.int ((8 * i+j:Nat):Int)) (Jp _ (by omega)) (fun j H3 hj sm R hR=>hR H3 (Same.refl H3)) (fun j H3 hj hp sm R hR=>?_) (fun l3 H3 s3 hl3 hL3=>?_)
  ·refine⟨_,rfl,_,_,rfl,rfl,.inl ⟨by decide,by decide⟩,_,rfl,_,_,rfl,rfl,?_⟩
   have e:(8:Int) * (0+(i:Nat))+(0+(j:Nat))=((8 * i+j:Nat):Int):=by omega
   show R (.int ((8:Int) * (0+(i:Nat))+(0+(j:Nat)))) H3;rw[e];exact hR H3 (Same.refl H3)
  have e3:((List.range fx.h).filter fun _=>true).map (fun j=>V.int ((8 * i+j:Nat):Int))=vN ((List.range fx.h).map fun v=>8 * i+v):=by
   rw[List.filter_eq_self.mpr (fun _ _=>rfl)];unfold vN;rw[Z1];rfl
  rw[e3] at hL3;have hL4:=s3 _ _ hL2;have ll:(vN (X2 i fx.h)).length+(vN ((List.range fx.h).map fun v=>8 * i+v)).length≤sizeLine:=by
   rw[J0,J0,Zf,Jb];have:=Au i (by omega) fx.h h8;omega
  refine⟨lk,l3,_,_,rfl,rfl,hL4,hL3,ll,fun pn hpn=>⟨(s2.trans s3).trans (Zx hpn _),pn,_,rfl,?_⟩⟩;rw[Zn]
  congr 2
  unfold X2 vN;rw[List.range_succ,List.flatMap_append,Ju]
  congr 1
  simp
 obtain⟨s2,lk,x10,rfl,hK2⟩:=z;have pl32:=Au fx.s s4 fx.h h8;have plen:=Re fx.s fx.h;have p32:∀ c∈X2 fx.s fx.h,c < 32:=fun c hc=>by
  have:=(At h8).mp hc;omega
 refine Jy (fun v H3=>∃(lq:Addr) (qs:List Addr) (gf:Addr→Nat),v = .ref lq∧Same H2 H3∧H3 lq=some (.lst (qs.map V.ref))∧(∀ p∈qs,∃ x:Int,H3 p=some (.tup [.int x,.int ((gf p:Nat):Int)]))∧(qs.map gf).Perm (X2 fx.s fx.h)) (fun R hR=>?_) (fun v H3 z=>?_)
 ·refine⟨_,rfl,lk,rfl,⟨_,SqL.of hK2⟩,Ba (K:=K) (xs:=vN (X2 fx.s fx.h)) (fun _ i v H=>∃(p:Addr) (x:Int) (c:Nat),(X2 fx.s fx.h)[i]? = some c∧v = .ref p∧H p=some (.tup [.int x,.int ((c:Nat):Int)])) (SqL.of hK2) (Jp _ (by rw[J0];omega)) (fun l i v H H' g sm=>?_) (fun l i v H xs zs g hl=>?_) (fun i x H5 l vs hx sm hl hL R hR=>?_) (fun l H5 vs sm hl hL hvl hvs=>?_)⟩
  ·obtain⟨p,x,c,a1,a2,a3⟩:=g
   exact⟨p,x,c,a1,a2,sm _ _ a3⟩
  ·obtain⟨p,x,c,a1,a2,a3⟩:=g
   exact⟨p,x,c,a1,a2,by rw[Jf (Mm a3 hl (fun z=>nomatch z))];exact a3⟩
  ·obtain⟨c,hc,rfl⟩:=Eb hx
   have c32:=p32 c (Zg hc);exact⟨_,rfl,_,rfl,_,_,rfl,rfl,a,ns,(60:Int)+((c:Nat):Int),rfl,(s2.trans sm).seq hS,h63,by omega,by omega,fun y=>⟨_,_,rfl,rfl,(show(0:Int) < 10007 by decide),_,rfl,Jp 2 (by decide),fun p hp=>hR _ _ (Zx hp _) ⟨p,y % 10007,c,hc,rfl,Zn⟩⟩⟩
  ·rw[J0] at hvl
   obtain⟨ps,rfl,hps⟩:=Bp (fun i p=>∃(x:Int) (c:Nat),(X2 fx.s fx.h)[i]? = some c∧H5 p=some (.tup [.int x,.int ((c:Nat):Int)])) vs 0 fun i v hv=>by
    obtain⟨p,x,c,a1,a2,a3⟩:=hvs i v hv;exact⟨p,a2,x,c,by rw[Nat.zero_add];exact a1,a3⟩
   rw[Zf] at hvl;have Pr:Prs H5 ps (X2 fx.s fx.h):=⟨hvl,fun i p c e1 e2=>by
    obtain⟨x,c',a1,a2⟩:=hps i p e1;rw[Nat.zero_add,e2] at a1;cases a1;exact⟨x,a2⟩⟩
   refine⟨l,ps,rfl,SqL.of hL,by omega,fun p hp=>?_,fun l2 qs hl2 pq=>?_⟩
   ·obtain⟨x,hx⟩:=Pr.tup p hp
    exact⟨_,_,SqT.of hx⟩
   have sm2:=Zx hl2 (.lst (qs.map V.ref));refine hR _ _ ⟨l2,qs,T1 H5,rfl,sm.trans sm2,Zn,fun p hp=>?_,?_⟩
   ·obtain⟨x,hx⟩:=Pr.tup p (pq.mem_iff.mp hp)
    exact⟨x,sm2 _ _ hx⟩
   ·have:=pq.map (T1 H5)
    rw[Pr.map] at this;exact this
 obtain⟨lq,qs,gf,rfl,s3,hQ3,hqs,pqs⟩:=z;have ql:qs.length=fx.s * fx.h:=by
  have:=pqs.length_eq;rw[Zf,plen] at this;exact this
 have s23:=s2.trans s3;refine Jy (fun v H4=>∃(l:Addr) (as:List Addr) (css:List (List Nat)),v = .ref l∧Same H3 H4∧H4 l=some (.lst (as.map V.ref))∧IsDl H4 as css∧DealOk fx sz css) (fun R hR=>?_) (fun v H4 z=>?_)
 ·refine⟨_,rfl,(fx.n:Int),rfl,by omega,by omega,?_⟩
  refine Bb (J:=Itr 0 fx.n) fx.n (fun i=>.int (0+((i:Nat):Int))) (fun l i v H=>∃(av:Addr) (cs:List Nat),v = .ref av∧av≠l∧H av=some (.lst (vN cs))∧cs.Perm (((qs.map gf).drop (sz * i)).take sz)∧cs.Pairwise (·≤·)) (Jp _ (by omega)) (fun i H _ hi=>hi) (fun H _=>Nat.le_refl _) (fun i H x H' _ _ y=>y) (fun l i v H H' g sm=>?_) (fun l i v H xs zs g hl=>?_) (fun i H5 l vs hi sm hl hL R hR=>?_) (fun l H5 vs sm hl hL hvl hvs=>?_)
  ·obtain⟨av,cs,g1,g2,g3,g4,g5⟩:=g
   exact⟨av,cs,g1,g2,sm _ _ g3,g4,g5⟩
  ·obtain⟨av,cs,g1,g2,g3,g4,g5⟩:=g
   exact⟨av,cs,g1,g2,by rw[Jf g2];exact g3,g4,g5⟩
  ·have b1:sz * i+sz≤qs.length:=by
    rw[ql];have:sz * (i+1)≤sz * fx.n:=Nat.mul_le_mul_left _ (by omega);rw[Nat.mul_succ] at this;omega
   have eI:(0+((i:Nat):Int)) * ((sz:Nat):Int)=((sz * i:Nat):Int):=by rw[Int.zero_add,Int.natCast_mul,Int.mul_comm]
   have eJ:(0+((i:Nat):Int)) * ((sz:Nat):Int)+((sz:Nat):Int)=((sz * i+sz:Nat):Int):=by rw[eI,Int.natCast_add]
   have hQ5:=sm _ _ hQ3;refine⟨_,rfl,_,rfl,_,rfl,_,_,rfl,rfl,.inl ⟨by omega,by omega⟩,_,rfl,_,rfl,_,rfl,_,_,rfl,rfl,.inl ⟨by omega,by omega⟩,_,rfl,_,_,rfl,rfl,_,rfl,lq,_,rfl,SqL.of hQ5,fun lc hlc=>?_⟩;have eC:O0 (qs.map V.ref) (some ((0+((i:Nat):Int)) * ((sz:Nat):Int))) (some ((0+((i:Nat):Int)) * ((sz:Nat):Int)+((sz:Nat):Int)))=((qs.drop (sz * i)).take sz).map V.ref:=by
    rw[eJ,eI,Zib _ (sz * i) (sz * i+sz) (by rw[Zf];omega) (by rw[Zf];omega),List.map_take,List.map_drop,Nat.add_sub_cancel_left]
   have s7:=Zx hlc (.lst (O0 (qs.map V.ref) (some ((0+((i:Nat):Int)) * ((sz:Nat):Int))) (some ((0+((i:Nat):Int)) * ((sz:Nat):Int)+((sz:Nat):Int)))));have hC:upd H5 lc (.lst (O0 (qs.map V.ref) (some ((0+((i:Nat):Int)) * ((sz:Nat):Int))) (some ((0+((i:Nat):Int)) * ((sz:Nat):Int)+((sz:Nat):Int))))) lc=some (.lst (((qs.drop (sz * i)).take sz).map V.ref)):=by rw[Zn,eC]
   have cl:((qs.drop (sz * i)).take sz).length=sz:=by rw[List.length_take,List.length_drop];omega
   refine⟨lc,rfl,⟨_,SqL.of hC⟩,Uf (K:=K) (xs:=((qs.drop (sz * i)).take sz).map V.ref) (fun _=>true) (fun x=>match x with | .ref p=>.int ((gf p:Nat):Int) | _=>.non) (SqL.of hC) (Jp _ (by rw[Zf,cl];omega)) (fun x H3 hx sm R hR=>hR H3 (Same.refl H3)) (fun x H8 hx hp sm8 R hR=>?_) (fun lr H8 s8 hlr hL8=>?_)⟩
   ·obtain⟨p,hp,rfl⟩:=Zw.mp hx
    obtain⟨x,hx⟩:=hqs p (List.mem_of_mem_drop (List.mem_of_mem_take hp));exact⟨_,rfl,p,_,_,_,rfl,rfl,SqT.of (sm8 _ _ (s7 _ _ (sm _ _ hx))),U7 (j:=1) rfl,hR H8 (Same.refl H8)⟩
   have e8:(((((qs.drop (sz * i)).take sz).map V.ref).filter fun _=>true).map fun x=>match x with | .ref p=>V.int ((gf p:Nat):Int) | _=>.non)=((((qs.map gf).drop (sz * i)).take sz).map fun c=>((c:Nat):Int)).map V.int:=by
    rw[List.filter_eq_self.mpr fun _ _=>rfl,← List.map_drop,← List.map_take,Z1,Z1,Z1];rfl
   rw[e8] at hL8;refine⟨lr,_,rfl,SqL.of hL8,by rw[Zf,List.length_take,List.length_drop,Zf];omega,fun l9 ms hl9 hp9 pw9=>?_⟩;obtain⟨ds,e1,e2,e3⟩:=Km hp9;rw[e1];have a9:=Zx hl9 (.lst (vN ds));refine hR _ _ ((s7.trans s8).trans a9) ⟨l9,ds,rfl,fun z=>?_,Zn,e2,e3 pw9⟩;rw[z] at hl9;rw[(s7.trans s8) _ _ hL] at hl9;cases hl9
  ·obtain⟨as,rfl,has⟩:=Bp (fun i p=>∃ cs:List Nat,H5 p=some (.lst (vN cs))∧cs.Perm (((qs.map gf).drop (sz * i)).take sz)∧cs.Pairwise (·≤·)) vs 0 fun i v hv=>by
    obtain⟨av,cs,g1,g2,g3,g4,g5⟩:=hvs i v hv;exact⟨av,g1,cs,g3,by rw[Nat.zero_add];exact g4,g5⟩
   rw[Zf] at hvl;have cho:∀ j,j < as.length→∃ cs:List Nat,H5 (as.getD j 0)=some (.lst (vN cs))∧cs.Perm (((qs.map gf).drop (sz * j)).take sz)∧cs.Pairwise (·≤·):=fun j hj=>by
    obtain⟨cs,h⟩:=has j _ (Za hj);rw[Nat.zero_add] at h;refine⟨cs,?_,h.2⟩;rw[Zj,Za hj];exact h.1
   have fch:∃ g:Nat→List Nat,∀ j,j < as.length→H5 (as.getD j 0)=some (.lst (vN (g j)))∧(g j).Perm (((qs.map gf).drop (sz * j)).take sz)∧(g j).Pairwise (·≤·):=by
    classical
    refine⟨fun j=>if h:j < as.length then Classical.choose (cho j h) else [],fun j hj=>?_⟩;dsimp only;rw[dif_pos hj];exact Classical.choose_spec (cho j hj)
   obtain⟨g,hg⟩:=fch;refine hR _ _ ⟨l,as,(List.range as.length).map g,rfl,sm,hL,⟨by rw[Zf,Jb],fun j av hj=>?_⟩,Zia ok pqs szn (by rw[Zf,Jb,hvl]) (fun j cs e=>?_) fun cs hcs=>?_⟩
   ·have jl:=(Zh.mp hj).1
    refine⟨g j,by rw[Zl,Yk jl];rfl,?_⟩;have:=(hg j jl).1;rw[Zj,hj] at this;exact this
   ·rw[Zl] at e
    obtain⟨i,hi,rfl⟩:=Option.map_eq_some_iff.mp e;have jl:j < as.length:=by
     have:=(Zh.mp hi).1;rw[Jb] at this;exact this
    rw[Yk jl] at hi;cases hi;exact(hg j jl).2.1
   ·obtain⟨j,hj,rfl⟩:=Zw.mp hcs
    exact(hg j (Z8.mp hj)).2.2
 obtain⟨l,as,css,rfl,s4',hL4,hDl4,D⟩:=z;have s24:=s23.trans s4';refine Jy (fun v H5=>Same H4 H5∧∃(st:Addr) (lead:Nat),v = .ref st∧IsSt H5 st css lead []∧StOk fx css lead [] sz∧((css.map hN).map (Xe 32)).sum=fx.n * sz) (fun R hR=>?_) (fun v H5 z=>?_)
 ·refine⟨_,rfl,_,rfl,a,ns,6,rfl,s24.seq hS,h63,by decide,by decide,fun c4=>⟨_,rfl,_,_,rfl,rfl,(by show(0:Int) < ((fx.n:Nat):Int);omega),Jp 0 (by decide),fun tz htz=>⟨Jp 3 (by decide),fun p hp=>?_⟩⟩⟩
  have r0:=J7 c4 (show((fx.n:Nat):Int)≠0 by omega);have r1:=J6 c4 (show(0:Int) < ((fx.n:Nat):Int) by omega);obtain⟨lead,el⟩:∃ lead:Nat,c4 % ((fx.n:Nat):Int)=(lead:Nat):=⟨(c4 % ((fx.n:Nat):Int)).toNat,by omega⟩;have hl0':lead < fx.n:=by omega
  have a6:=Zx htz (.lst []);have a7:=Zx hp (.tup [.ref l,.int (c4 % ((fx.n:Nat):Int)),.ref tz]);have a67:=a6.trans a7;exact hR _ _ ⟨a67,p,lead,rfl,⟨l,tz,as,(by rw[Zn];show some (HO.tup [V.ref l,V.int (c4 % ((fx.n:Nat):Int)),V.ref tz])=_;rw[el]),a67 _ _ hL4,hDl4.same a67,a7 _ _ Zn⟩,D.st ok hl0',D.total ok⟩
 obtain⟨s5,st0,lead0,rfl,hSt0,S0,tot0⟩:=z;have s25:=s24.trans s5;have emin:(if((fx.n:Nat):Int) * ((sz:Nat):Int) < ((steps:Nat):Int) then((fx.n:Nat):Int) * ((sz:Nat):Int) else((steps:Nat):Int))=((min steps (fx.n * sz):Nat):Int):=by
  rw[← Int.natCast_mul];split<;>omega
 have mn:min steps (fx.n * sz)≤1000:=by omega
 refine Xg (fun σ H2'=>Same H5 H2'∧∃(st:Addr) (css:List (List Nat)) (lead m:Nat) (ys:List Nat) (x14 x15:Option V),σ=[some (.ref a),some (.ref d),some (.int (steps:Nat)),some (.int (fx.n:Nat)),some (.int (fx.s:Nat)),some (.int (sz:Nat)),some (.str (wd fx.d)),some (.int (trI t)),some (.ref lo),some (.ref lk),x10,some (.ref lq),some (.ref l),some (.ref st),x14,x15]∧IsSt H2' st css lead ys∧StOk fx css lead ys m∧((css.map hN).map (Xe 32)).sum+min steps (fx.n * sz)=fx.n * sz) (fun D' er nx=>?_) (fun σ H6 z=>?_)
 ·refine⟨_,rfl,_,rfl,_,rfl,_,_,rfl,rfl,.inl ⟨by omega,by omega⟩,_,_,rfl,((min steps (fx.n * sz):Nat):Int),(congrArg (fun x=>[V.int x]) emin),by omega,by omega,?_⟩
  refine Nl (n:=min steps (fx.n * sz)) (fun i σ H2'=>Same H5 H2'∧∃(st:Addr) (css:List (List Nat)) (lead m:Nat) (ys:List Nat) (x14 x15:Option V),σ=[some (.ref a),some (.ref d),some (.int (steps:Nat)),some (.int (fx.n:Nat)),some (.int (fx.s:Nat)),some (.int (sz:Nat)),some (.str (wd fx.d)),some (.int (trI t)),some (.ref lo),some (.ref lk),x10,some (.ref lq),some (.ref l),some (.ref st),x14,x15]∧IsSt H2' st css lead ys∧StOk fx css lead ys m∧((css.map hN).map (Xe 32)).sum+i=fx.n * sz) ⟨Same.refl H5,st0,css,lead0,sz,[],none,none,rfl,hSt0,S0,tot0⟩ (fun i σ H6 hi z=>?_) (fun σ H6 z=>nx _ _ z);obtain⟨s6,st,css',lead,m,ys,x14,x15,rfl,hSt,S,tot⟩:=z;have sA:=s25.trans s6;have hS6:=sA.seq hS;have hRt6:=hRt.same sA;obtain⟨lc,lt,as',h1,h2,h3,h4⟩:=id hSt;have mp:=S.pos tot (by omega);obtain⟨cs,ec,ecl⟩:=S.turn ok;have cm:=Zg ec;have cl:=(S.cl ok cm).1;have csn:cs≠[]:=fun z=>by rw[z] at ecl;simp at ecl;omega
  have sl:(lead+ys.length) % fx.n < as'.length:=by rw[h3.1,S.len];exact Uw ok _ _
  obtain⟨cs',e1,e2⟩:=h3.2 _ _ (Za sl);rw[ec] at e1;cases e1;refine Jy (fun v H7=>Same H6 H7∧∃(l6:Addr) (so:List Nat),v = .ref l6∧H7 l6=some (.lst (vN so))∧so≠[]∧(∀ x∈so,x∈cs)∧so.length≤32) (fun R hR=>?_) (fun v H7 z=>?_)
  ·refine⟨_,rfl,_,rfl,st,_,_,_,rfl,rfl,SqT.of h1,(rfl:Xb [V.ref lc,V.int (lead:Nat),V.ref lt] 0=some (V.ref lc)),_,rfl,st,css',lead,ys,rfl,hSt,by rw[S.len];exact n0,lc,_,_,V.ref as'[(lead+ys.length) % fx.n],rfl,rfl,SqL.of h2,(by rw[S.len];exact U7 (by rw[Zl,Za sl];rfl)),_,rfl,st,_,_,_,rfl,rfl,SqT.of h1,(rfl:Xb [V.ref lc,V.int (lead:Nat),V.ref lt] 2=some (V.ref lt)),?_⟩
   refine⟨d,as'[(lead+ys.length) % fx.n],lt,fx,t,sz,cs,ys,rfl,ok,hRt6,e2,h4,by omega,S.c32 ok cm,S.beg ok cm,fun o H7 s7 _ ho=>hR _ _ ⟨s7,o,_,rfl,ho,?_,?_,?_⟩⟩
   ·split
    ·exact csn
    ·exact Zn6 csn
   ·split
    ·exact fun x hx=>hx
    ·exact R8 _ _ _ _ _
   ·split
    ·exact cl
    ·exact Zpl (Zn7 (S.nd cs cm)) fun c hc=>S.c32 ok cm c (R8 _ _ _ _ _ c hc)
  obtain⟨s7,l6,so,rfl,hL6,son,sos,sol⟩:=z;have sop:=List.length_pos_iff.mpr son;refine⟨_,rfl,_,rfl,_,rfl,_,rfl,_,rfl,_,_,rfl,rfl,a,ns,(100:Int)+(0+((i:Nat):Int)),rfl,s7.seq hS6,h63,by omega,by omega,fun c=>?_⟩;have r0:=J7 c (show((so.length:Nat):Int)≠0 by omega);have r1:=J6 c (show(0:Int) < ((so.length:Nat):Int) by omega);obtain⟨j,ej⟩:∃ j:Nat,c % ((so.length:Nat):Int)=(j:Nat):=⟨(c % ((so.length:Nat):Int)).toNat,by omega⟩;have jl:j < so.length:=by omega
  have hx:so.getD j 0∈so:=by rw[Zj,Za jl];exact J3 _
  have hat:Xb (vN so) (c % (((vN so).length:Nat):Int))=some (.int ((so.getD j 0:Nat):Int)):=by rw[J0,ej];exact Ty jl
  refine⟨_,rfl,l6,_,rfl,.inl (SqL.of hL6),_,_,rfl,rfl,(by show(0:Int) < (((vN so).length:Nat):Int);rw[J0];omega),l6,_,_,_,rfl,rfl,SqL.of hL6,hat,?_⟩;refine⟨d,st,fx,t,sz,css',lead,m,ys,cs,so.getD j 0,rfl,ok,hRt6.same s7,hSt.same s7,S,ec,sos _ hx,fun r st' lead' ys' tk H8 s8 hr8 hSt8 N=>?_⟩;obtain⟨m',S',_,alt,_⟩:=S.put ok ec (sos _ hx) N;have eh:(css'.map hN)[(lead+ys.length) % fx.n]? = some (hN cs):=by rw[Zl,ec];rfl
  have hb:(hN cs).testBit (so.getD j 0)=true:=by rw[Up];exact Ze (sos _ hx)
  obtain⟨_,_,_,S2,_⟩:=N.plc ok S.plc eh hb;refine⟨r,_,_,_,rfl,rfl,SqT.of hr8,(rfl:Xb [V.ref st',tkV tk] 0=some (V.ref st')),?_⟩;exact⟨(s6.trans s7).trans s8,st',_,lead',m',ys',_,_,rfl,hSt8.is,S',by omega⟩
 obtain⟨s6,st,css',lead,m,ys,x14,x15,rfl,hSt,S,tot⟩:=z;exact⟨_,rfl,q st css' lead ys m H6 (s25.trans s6) hSt S tot⟩
theorem Zmz(hs:List Nat):(hs.map fun h=>((Xe 32 h:Nat):Int)).sum=((Yu hs:Nat):Int):=by
 have e:(hs.map fun h=>((Xe 32 h:Nat):Int))=((hs.map (Xe 32)).map fun x=>((x:Nat):Int)):=by rw[Z1];rfl
 unfold Yu;rw[e,Dj]
def Bi:Sp:=fun vs H Q _=>∃(p:Addr) (fx:Fx) (hs:List Nat) (lead:Nat) (ys:List Nat) (m:Nat),vs=[.ref p]∧fx.Ok∧IsPl H p hs lead ys∧Plc fx hs lead ys m∧Yu hs≤12∧∀ H',Same H H'→Q .non H'
theorem Zfm:FnScope ["place"] ["place"] (Zp Rs):=⟨rfl,rfl,rfl,by decide +kernel,rfl,by decide +kernel,by decide +kernel⟩
theorem Zdg{k:Nat}{f1:Addr}{d1:FuncData}{t1:Tok}(F:Fun K "refuse_too_many" "refuse_too_many" Rs f fd)(LM:Lib P w K mg base k "many" ["hand"] (Ds K) f1 d1)(mMC:mg "MOST_CARDS" = some (.int 12 t1))(mSu:mg "sum" = none):FnOk P w K mg base Y6 (k+1) f fd ["place"] Bi:=by
 refine F.ok Zfm (fun vs H Q E h=>?_) (fun cdv A outer s H vs Q E hr h=>?_)
 ·obtain⟨p,fx,hs,lead,ys,m,rfl,_⟩:=h
  rfl
 obtain⟨p,fx,hs,lead,ys,m,rfl,ok,⟨hp,tp,h1,h2,h3⟩,Pl,t12,q⟩:=h;refine⟨_,Zv (Yh (Je E5 (Jl (Kz rfl) rfl mSu PyProof.Rows.boot_sum (Zb (Y7 ["hand"] [none] rfl (Blk.by (sc:=Zp Rs) (N0:=["place"]) rfl rfl (by decide +kernel)) (Oe (Jo Jw (pv 0) Zo (fun _ _=>rfl))) (fun C s₀ H₀ ex=>Jm (i:=0) (show(["hand"]:List Str).Nodup by decide +kernel) rfl (Or.inl rfl)) (fun C s₀ H₀ ex=>Uj)
   (fun C s₀ H₀ ex=>Z6 LM.ok hr rfl LM.mg LM.kp LM.bd .nil Jn (Zb (pv 0) Zk))) Zk)) (Yy (v:=.int 12) rfl mMC ⟨_,rfl⟩) (Js _)) (Zv Zf6) Jz),?_⟩
 have n4:hs.length≤4:=by rw[Pl.len];rcases ok.n34 with e | e<;>omega
 refine⟨_,rfl,p,_,_,_,rfl,rfl,SqT.of h1,(rfl:Xb [V.ref hp,V.int (lead:Nat),V.ref tp] 0=some (V.ref hp)),hp,rfl,⟨_,SqT.of h2⟩,Ts (K:=K) (xs:=vN hs) (fun _=>true) pcV (SqT.of h2) (Jp _ (by rw[J0];omega)) (fun y H3 hy sm R hR=>hR H3 (Same.refl H3)) (fun y H3 hy hp sm R hR=>?_) (fun lq H4 s4 hlq hL4=>?_)⟩
 ·obtain⟨h,hh,rfl⟩:=Zw.mp hy
  refine⟨_,rfl,h,rfl,Pl.h32 ok hh,?_⟩;have z:=hR H3 (Same.refl H3);have e:pcV (V.int (h:Nat))=V.int ((Xe 32 h:Nat):Int):=by
   show V.int ((Xe 32 (((h:Nat):Int)).toNat:Nat):Int)=_;rw[Zz]
  rw[e] at z;exact z
 ·rw[Ap] at hL4
  have e:decide ((12:Int) < (hs.map fun h=>((Xe 32 h:Nat):Int)).sum)=false:=by
   rw[Zmz];exact Zd (by omega)
  exact⟨lq,_,rfl,SqL.of hL4,_,_,rfl,rfl,_,rfl,No e (Yv (q H4 s4))⟩
theorem Zly:∀ k≤12,Sn k≤1000000:=by decide +kernel
theorem Zag{k:Nat}{CT CG CR:Addr}(F:Fun K "made_at" "Reckoning.made_at" Bn f fd):FnOk P w K mg base Y6 (k+1) f fd ["self","place"] (Q0 P w CT CG CR 0):=by
 refine F.ok Aj (fun vs H Q E h=>?_) (fun cdv A outer s H vs Q E hr h=>?_)
 ·obtain⟨r,gm,gx,d,p,t,fx,side,hs,lead,ys,m,es,rfl,_⟩:=h
  rfl
 obtain⟨r,gm,gx,d,p,t,fx,side,hs,lead,ys,m,es,rfl,tb,R,G,hp,Pl,hk,_⟩:=h;exact absurd hk (by omega)
structure RkM(P:Program)(w:World)(K:W.Frag)(mg:Str→Option Value)(base:Heap)(k kb:Nat)(CT CG CR aA aP:Addr)(dA dP:FuncData):Prop where
 at_:FnOk P w K mg base Y6 k aA dA ["self","place"] (Q0 P w CT CG CR (kb+1))
 pr:FnOk P w K mg base Y6 k aP dP ["self","place"] (Dp P w CT CG CR kb)
theorem Zj5{j0:Nat}{CT CG CR aA aB aP aC f1 f2 f3:Addr}{dA dB dP dC d1 d2 d3:FuncData}(FA:Fun K "made_at" "Reckoning.made_at" Bn aA dA)(FB:Fun K "made_by" "Reckoning.made_by" Rt aB dB)(FP:Fun K "pairs" "Reckoning.pairs" Go aP dP)(C:RkC K mg CR)
  (MA:Meth K CR "made_at" aA) (MB:Meth K CR "made_by" aB) (MP:Meth K CR "pairs" aP) (MC:Meth K CR "choice" aC) (BA:Binds K dA ["self","place"] []) (BB:Binds K dB ["self","place","card"] []) (BP:Binds K dP ["self","place"] []) (BC:Binds K dC ["self","place","pairs"] [])
  (FC:FnOk P w K mg base Y6 j0 aC dC ["self","place","pairs"] (Eu P w CT CG CR)) (LB:Lib P w K mg base j0 "behind" ["game","place","card"] (Bm K CT CG) f1 d1) (LG:Lib P w K mg base j0 "gain" ["side","taker"] Dt f2 d2) (LM:Lib P w K mg base j0 "moves" ["game","place"] (Bk CT CG) f3 d3) (j1:1≤j0) :
  ∀ kb,RkM P w K mg base (j0+3 * kb+3) kb CT CG CR aA aP dA dP:=by
 intro kb;have step:∀(j kb:Nat),j0≤j→FnOk P w K mg base Y6 j aA dA ["self","place"] (Q0 P w CT CG CR kb)→RkM P w K mg base (j+3) kb CT CG CR aA aP dA dP:=fun j kb hj F0=>by
  have F1:=Zdi (k:=j) FB C (LB.mono hj) (LG.mono hj) MA F0 BA;have F2:=Zg1 (k:=j+1) FP C (LM.mono (by omega)) MB F1 BB;have F3:=Zdj (k:=j+2) FA C MP F2 BP MC (FC.mono (by omega)) BC;exact⟨F3,F2.mono (by omega)⟩
 induction kb with
 | zero=>
  have F0:FnOk P w K mg base Y6 (j0 - 1+1) aA dA ["self","place"] (Q0 P w CT CG CR 0):=Zag FA;have e:j0 - 1+1=j0:=by omega
  rw[e] at F0;exact step j0 0 (Nat.le_refl _) F0
 | succ kb ih=>
  have z:=step (j0+3 * kb+3) (kb+1) (by omega) ih.at_;have e:j0+3 * kb+3+3=j0+3 * (kb+1)+3:=by omega
  rw[e] at z;exact z
theorem Mq{H1 H':Hp}{x dx:Addr}{o:HO}(hx:H1 x=none)(hd:H1 dx=none)(n:dx≠x)(kp:∀ b u,b≠x→(upd (upd H1 dx (.own x)) x o) b=some u→H' b=some u):Same H1 H':=fun b u hb=>
 kp b u (Jv hb hx) (Um hx hd n b u hb)
def Si(CT CG:Addr):Sp:=fun vs H Q _=>∃(gm gx p:Addr) (t:Option Nat) (fx:Fx) (side:Nat) (hs:List Nat) (lead:Nat) (ys:List Nat) (m:Nat),vs=[.ref gm,.ref p,.int (side:Nat)]∧TrB t∧GamH CT CG fx t H gm gx∧IsPl H p hs lead ys∧Plc fx hs lead ys m∧Yu hs≤12∧∀ l H',Same H H'→H l=none→IsPrs H' l (prL fx t side hs lead ys m)→Q (.ref l) H'
abbrev Ez:List Str:=["game","place","side"]
theorem Zmh:FnScope Ez Ez (Zp Zfq):=⟨rfl,rfl,rfl,by decide +kernel,rfl,by decide +kernel,by decide +kernel⟩
theorem Zj2{k:Nat}{CT CG CR f1 aI aA aP:Addr}{d1 eI dA dP:FuncData}(F:Fun K "told" "told" Zfq f fd)(C:RkC K mg CR)(LR:Lib P w K mg base k "refuse_too_many" ["place"] Bi f1 d1)(MkR:Mk K CR aI)(FI:FnOk P w K mg base Y6 (k - 1) aI eI ["self","game","side"] (Gg P w CR))(BI:Binds K eI ["self","game","side"] [])
  (RM:RkM P w K mg base k 12 CT CG CR aA aP dA dP) (MP:Meth K CR "pairs" aP) (BP:Binds K dP ["self","place"] []) (k1:k - 1+1=k):FnOk P w K mg base Y6 (k+1) f fd Ez (Si CT CG):=by
 refine F.ok Zmh (fun vs H Q E h=>?_) (fun cdv A outer s H vs Q E hr h=>?_)
 ·obtain⟨gm,gx,p,t,fx,side,hs,lead,ys,m,rfl,_⟩:=h
  rfl
 obtain⟨gm,gx,p,t,fx,side,hs,lead,ys,m,rfl,tb,G,hp,Pl,t12,q⟩:=h;have hr':=Eq.mp (congrArg (fun j=>Room j _) k1.symm) hr;refine⟨_,Zm (Qt (Z6 LR.ok hr rfl LR.mg LR.kp LR.bd .nil Jn (Zb (pv 1) Zk)))
  (Zv (Jj (Us (Ni MkR FI hr' rfl C.mR BI .nil Jn (Zb (pv 0) (Zb (pv 2) Zk))) C.cl MP RM.pr hr BP .nil Jn (Zb (pv 1) Zk)))),?_⟩
 refine⟨_,rfl,p,fx,hs,lead,ys,m,rfl,G.ok,hp,Pl,t12,fun H1 s1=>?_⟩;refine nxE ?_;refine⟨_,rfl,_,rfl,?_⟩;intro r dr hr0 hdr nr;refine⟨r,dr,gm,side,rfl,Zn,fun d H2 kp nd R=>⟨rfl,?_⟩⟩;have sm:=Um (o:=.ins CR dr []) hr0 hdr nr;have s2:=Mq hr0 hdr nr kp;have s12:=s1.trans s2;have R2:=R fx t;obtain⟨dx,fs,hr2,A2⟩:=id R2.o;refine⟨r,dx,_,rfl,hr2,A2.nm _ (by decide +kernel),_,rfl,r,gm,gx,d,p,t,fx,side,hs,lead,ys,m,[],rfl,tb,R2,G.same s12,hp.same s12,Pl,t12,by have:=Zly _ t12;simpa using this,fun l es' H' k' nl R' _ _ Pr=>q l H' (fun b o h=>?_) (s12.free nl) Pr⟩;exact k' b o (Jv (sm _ _ (s1 _ _ h)) nd) (s12 _ _ h)
noncomputable def bestL (fx:Fx) (t:Option Nat) (side:Nat) (hs:List Nat) (lead:Nat) (ys:List Nat) (m:Nat):List Nat:=((prL fx t side hs lead ys m).filter fun x=>decide (x.2=Ur (side.testBit ((lead+ys.length) % fx.n)) ((prL fx t side hs lead ys m).map (·.2)))).map (·.1)
def Ss(CT CG:Addr):Sp:=fun vs H Q _=>∃(gm gx p:Addr) (t:Option Nat) (fx:Fx) (side:Nat) (hs:List Nat) (lead:Nat) (ys:List Nat) (m:Nat),vs=[.ref gm,.ref p,.int (side:Nat)]∧TrB t∧GamH CT CG fx t H gm gx∧IsPl H p hs lead ys∧Plc fx hs lead ys m∧Yu hs≤12∧∀ l H',Same H H'→H l=none→H' l=some (.lst (vN (bestL fx t side hs lead ys m)))→Q (.ref l) H'
abbrev Zlt:List Str:=["game","place","side","reckoning","pairs","made"]
theorem scBest:FnScope Zlt Ez (Zp Zbw):=⟨rfl,rfl,rfl,by decide +kernel,rfl,by decide +kernel,by decide +kernel⟩
abbrev nBe1:List Str:=["card","number","made"]
theorem Zms{fx:Fx}(ok:fx.Ok){t:Option Nat}{side:Nat}{hs:List Nat}{lead:Nat}{ys:List Nat}{m:Nat}(Pl:Plc fx hs lead ys m):(prL fx t side hs lead ys m).length≤100:=by
 obtain⟨h,eh,epc⟩:=Pl.turn ok;have m32:m≤32:=by
  rw[← epc];unfold Xe;have:=List.length_filter_le (fun b=>h.testBit b) (List.range 32);rw[Jb] at this;exact this
 unfold prL;rw[Zf];unfold My.moveL;split
 ·simp
 ·rw[Zj,eh]
  have:=On (fx:=fx) (t:=t) (ys:=ys) (Pl.h32 ok (Zg eh));show(Qq fx t ys h).length≤100;omega
theorem Zkf{k:Nat}{CT CG CR f1 aI aA aP aC:Addr}{d1 eI dA dP dC:FuncData}(F:Fun K "best" "best" Zbw f fd)(C:RkC K mg CR)(LR:Lib P w K mg base k "refuse_too_many" ["place"] Bi f1 d1)(MkR:Mk K CR aI)(FI:FnOk P w K mg base Y6 (k - 1) aI eI ["self","game","side"] (Gg P w CR))(BI:Binds K eI ["self","game","side"] [])
  (RM:RkM P w K mg base k 12 CT CG CR aA aP dA dP) (MP:Meth K CR "pairs" aP) (BP:Binds K dP ["self","place"] []) (MC:Meth K CR "choice" aC) (FC:FnOk P w K mg base Y6 k aC dC ["self","place","pairs"] (Eu P w CT CG CR)) (BC:Binds K dC ["self","place","pairs"] []) (k1:k - 1+1=k):FnOk P w K mg base Y6 (k+1) f fd Ez (Ss CT CG):=by
 refine F.ok scBest (fun vs H Q E h=>?_) (fun cdv A outer s H vs Q E hr h=>?_)
 ·obtain⟨gm,gx,p,t,fx,side,hs,lead,ys,m,rfl,_⟩:=h
  rfl
 obtain⟨gm,gx,p,t,fx,side,hs,lead,ys,m,rfl,tb,G,hp,Pl,t12,q⟩:=h;have hr':=Eq.mp (congrArg (fun j=>Room j _) k1.symm) hr;refine⟨_,Zm (Qt (Z6 LR.ok hr rfl LR.mg LR.kp LR.bd .nil Jn (Zb (pv 1) Zk)))
  (Zm (Z9 (i:=3) scBest.nd rfl (Or.inl rfl) (Ni MkR FI hr' rfl C.mR BI .nil Jn (Zb (pv 0) (Zb (pv 2) Zk))))
  (Zm (Z9 (i:=4) scBest.nd rfl (Or.inl rfl) (Us (pv 3) C.cl MP RM.pr hr BP .nil Jn (Zb (pv 1) Zk)))
  (Zm (Z9 (i:=5) scBest.nd rfl (Or.inr rfl) (Us (pv 3) C.cl MC FC hr BC .nil Jn (Zb (pv 1) (Zb (pv 4) Zk))))
  (Zv (Jj (Y7 nBe1 [none,none,some 5] rfl (Blk.by (sc:=Zp Zbw) (N0:=Zlt) rfl rfl (by decide +kernel)) (Yn (pv 4)) (fun C s₀ H₀ ex=>Zb0 (n:=2) K rfl rfl (Yb (Jm (i:=0) (show nBe1.Nodup by decide +kernel) rfl (Or.inl rfl)) (Yb (Jm (i:=1) (show nBe1.Nodup by decide +kernel) rfl (Or.inl rfl)) Qu))) (fun C s₀ H₀ ex=>N5 (Je Uu (pv 1) (pv 2) (Js _))) (fun C s₀ H₀ ex=>pv 0))))))),?_⟩
 refine⟨_,rfl,p,fx,hs,lead,ys,m,rfl,G.ok,hp,Pl,t12,fun H1 s1=>?_⟩;refine nxE ?_;refine Jy (fun v H2=>∃ r d,v = .ref r∧Same H1 H2∧H1 d=none∧Rk P w CR fx t side H2 r gm d []) (fun W hW=>?_) (fun v H2 z=>?_)
 ·refine⟨_,rfl,_,rfl,?_⟩
  intro r dr hr0 hdr nr;refine⟨r,dr,gm,side,rfl,Zn,fun d H2 kp nd R=>⟨rfl,hW _ _ ⟨r,d,rfl,Mq hr0 hdr nr kp,(Um (o:=.ins CR dr []) hr0 hdr nr).free nd,R fx t⟩⟩⟩
 obtain⟨r,d,rfl,s2,nd,R2⟩:=z;have s12:=s1.trans s2;obtain⟨dx,fs,hr2,A2⟩:=id R2.o;refine Jy (fun v H3=>∃ l es,v = .ref l∧Same H H3∧H l=none∧KpD d H2 H3∧Rk P w CR fx t side H3 r gm d es∧IsPrs H3 l (prL fx t side hs lead ys m)) (fun W hW=>?_) (fun v H3 z=>?_)
 ·refine⟨_,rfl,r,dx,_,rfl,hr2,A2.nm _ (by decide +kernel),_,rfl,r,gm,gx,d,p,t,fx,side,hs,lead,ys,m,[],rfl,tb,R2,G.same s12,hp.same s12,Pl,t12,by have:=Zly _ t12;simpa using this,fun l es' H' k' nl R' _ _ Pr=>hW _ _ ⟨l,es',rfl,fun b o h=>?_,s12.free nl,k',R',Pr⟩⟩
  exact k' b o (Jv (s1 _ _ h) nd) (s12 _ _ h)
 obtain⟨l,es,rfl,s3,nl,k3,R3,Pr⟩:=z;obtain⟨dx3,fs3,hr3,A3⟩:=id R3.o;have pl:=Zms G.ok (t:=t) (side:=side) Pl;refine Jy (fun v H4=>Same H3 H4∧v = .int ((Ur (side.testBit ((lead+ys.length) % fx.n)) ((prL fx t side hs lead ys m).map (·.2)):Nat):Int)) (fun W hW=>?_) (fun v H4 z=>?_)
 ·exact⟨_,rfl,r,dx3,_,rfl,hr3,A3.nm _ (by decide +kernel),_,rfl,_,rfl,r,gm,gx,d,p,l,t,fx,side,hs,lead,ys,m,es,_,rfl,R3,G.same s3,hp.same s3,Pl,Pr,pl,(fun z=>by unfold prL My.moveL;rw[if_pos z];rfl),fun H4 s4=>hW _ _ ⟨s4,rfl⟩⟩
 obtain⟨s4,rfl⟩:=z;have Pr4:=Pr.same s4;obtain⟨as,hA,_,_⟩:=id Pr4;have z1000:=Jp 1000 (by decide);refine⟨_,rfl,l,rfl,⟨_,SqL.of hA⟩,Tt (K:=K) Pr4 (fun x=>decide (x.2=Ur (side.testBit ((lead+ys.length) % fx.n)) ((prL fx t side hs lead ys m).map (·.2)))) (fun x=>.int (x.1:Nat)) (by omega) (fun x H5 hx sm R hR=>?_) (fun x H5 hx hp sm R hR=>⟨_,rfl,hR H5 (Same.refl H5)⟩) (fun lb H5 s5 hlb hLb=>q lb H5 ((s3.trans s4).trans s5) ((s3.trans s4).free hlb) ?_)⟩
 ·have e:decide (V.int ((x.2:Nat):Int)=V.int ((Ur (side.testBit ((lead+ys.length) % fx.n)) ((prL fx t side hs lead ys m).map (·.2)):Nat):Int))=decide (x.2=Ur (side.testBit ((lead+ys.length) % fx.n)) ((prL fx t side hs lead ys m).map (·.2))):=by
   rw[eq_int];exact decide_eq_decide.mpr ⟨fun h=>by omega,fun h=>by omega⟩
  have z:=hR H5 (Same.refl H5);rw[← e] at z;exact⟨_,rfl,_,rfl,rfl,_,rfl,z⟩
 ·rw[hLb]
  unfold bestL vN;rw[Z1];rfl
theorem Mg(b:Bool){ns:List Nat}(h:ns≠[]):Ur b ns∈ns∧(b=true→∀ x∈ns,x≤Ur b ns)∧(b=false→∀ x∈ns,Ur b ns≤x):=by
 cases b with
 | true=>
  have e:Ur true ns=ns.foldl max 0:=by unfold Ur;rw[if_neg h,if_pos rfl]
  obtain⟨⟨a,g⟩,c⟩:=V2 ns 0;rw[e];refine⟨?_,fun _=>g,(fun z=>nomatch z)⟩;rcases c with z | z
  ·obtain⟨x,hx⟩:=List.exists_mem_of_ne_nil _ h
   have:=g x hx;have x0:x=ns.foldl max 0:=by omega
   rw[← x0];exact hx
  ·exact z
 | false=>
  match ns,h with
  | y :: l,_=>
   have e:Ur false (y :: l)=l.foldl min y:=by unfold Ur;rw[if_neg (fun z=>nomatch z),if_neg Zq];rfl
   obtain⟨⟨a,g⟩,c⟩:=V1 l y;rw[e];refine⟨?_,(fun z=>nomatch z),fun _ x hx=>?_⟩
   ·rcases c with z | z
    ·rw[z]
     exact Zt
    ·exact Zu _ z
   ·rcases List.mem_cons.mp hx with z | z
    ·rw[z]
     exact a
    ·exact g x z
theorem Zf9{b:Bool}{ns ns':List Nat}(h:∀ x,x∈ns↔x∈ns'):Ur b ns=Ur b ns':=by
 by_cases e:ns=[]
 ·have e':ns'=[]:=List.eq_nil_iff_forall_not_mem.mpr fun x hx=>by
   have:=(h x).mpr hx;rw[e] at this;cases this
  rw[e,e']
 ·have e':ns'≠[]:=fun z=>e (List.eq_nil_iff_forall_not_mem.mpr fun x hx=>by
   have:=(h x).mp hx;rw[z] at this;cases this)
  obtain⟨m1,x1,y1⟩:=Mg b e;obtain⟨m2,x2,y2⟩:=Mg b e';cases b with
  | true=>exact Nat.le_antisymm (x2 rfl _ ((h _).mp m1)) (x1 rfl _ ((h _).mpr m2))
  | false=>exact Nat.le_antisymm (y1 rfl _ ((h _).mpr m2)) (y2 rfl _ ((h _).mp m1))
structure Mp(fx:Fx)(t t':Option Nat)(σ σs own:Nat→Nat):Prop where
 lt:∀ c < 32,σ c < 32
 inj:∀ a < 32,∀ b < 32,σ a=σ b→a=b
 sur:∀ b < 32,∃ a,a < 32∧σ a=b
 su:∀ c < 32,σ c / 8=σs (c / 8)
 si:∀ a < 4,∀ b < 4,σs a=σs b→a=b
 tr:∀ s < 4,t'=some (σs s)↔t=some s
 ov:∀ c o led,c < 32→o < 32→led < 4→own c < fx.n→own o < fx.n→own c≠own o→Y4 fx t' (σ c) (σ o) (σs led)=Y4 fx t c o led
structure Iso(fx:Fx)(σ own:Nat→Nat)(r:Nat)(hs:List Nat)(lead:Nat)(ys:List Nat)(hs':List Nat)(lead':Nat)(ys':List Nat):Prop where
 ld:lead'=(lead+r) % fx.n
 yy:ys'=ys.map σ
 hd:∀ i h h',hs[i]? = some h→hs'[(i+r) % fx.n]? = some h'→∀ c < 32,h'.testBit (σ c)=h.testBit c
 oh:∀ i h c,hs[i]? = some h→h.testBit c=true→own c=i
 oy:∀ j c,ys[j]? = some c→own c=(lead+j) % fx.n
def Img(σ:Nat→Nat)(cs cs':List Nat):Prop:=(∀ c∈cs,c < 32)∧(∀ c∈cs',c < 32)∧∀ c < 32,σ c∈cs'↔c∈cs
section
variable{fx:Fx}{t t':Option Nat}{σ σs own:Nat→Nat}
theorem Img.nil(M:Mp fx t t' σ σs own){a a':List Nat}(I:Img σ a a'):a=[]↔a'=[]:=by
 obtain⟨h1,h2,h3⟩:=I;constructor
 ·intro e
  refine List.eq_nil_iff_forall_not_mem.mpr fun x hx=>?_;obtain⟨c,c32,rfl⟩:=M.sur x (h2 x hx);have:=(h3 c c32).mp hx;rw[e] at this;cases this
 ·intro e
  refine List.eq_nil_iff_forall_not_mem.mpr fun x hx=>?_;have:=(h3 x (h1 x hx)).mpr hx;rw[e] at this;cases this
theorem Img.or(M:Mp fx t t' σ σs own){a a' b b':List Nat}(A:Img σ a a')(B:Img σ b b'):Img σ (Ea a b) (Ea a' b'):=by
 unfold Ea;by_cases e:a=[]
 ·rw[if_pos e,if_pos ((A.nil M).mp e)]
  exact B
 ·rw[if_neg e,if_neg (fun z=>e ((A.nil M).mpr z))]
  exact A
theorem Img.filt{cs cs':List Nat}(A:Img σ cs cs'){p q:Nat→Bool}(h:∀ c < 32,c∈cs→q (σ c)=p c):Img σ (cs.filter p) (cs'.filter q):=by
 obtain⟨h1,h2,h3⟩:=A;refine⟨fun c hc=>h1 c (List.mem_filter.mp hc).1,fun c hc=>h2 c (List.mem_filter.mp hc).1,fun c c32=>?_⟩;rw[List.mem_filter,List.mem_filter];constructor
 ·intro ⟨a,b⟩
  have ac:=(h3 c c32).mp a;exact⟨ac,by rw[← h c c32 ac];exact b⟩
 ·intro ⟨a,b⟩
  exact⟨(h3 c c32).mpr a,by rw[h c c32 a];exact b⟩
theorem Img.fol(M:Mp fx t t' σ σs own){cs cs':List Nat}(A:Img σ cs cs'){led:Nat}(l4:led < 4):Img σ (Xw led cs) (Xw (σs led) cs'):=by
 refine A.filt fun c c32 _=>?_;rw[M.su c c32];by_cases e:c / 8=led
 ·rw[Ze e,Ze (by rw[e])]
 ·rw[Zd e,Zd fun z=>e (M.si _ (by omega) _ l4 z)]
theorem Ab(t:Option Nat)(cs:List Nat):trL t cs=cs.filter fun c=>decide (t=some (c / 8)):=by
 cases t with
 | none=>
  show []=_;rw[List.filter_eq_nil_iff.mpr];intro a _ z;exact nomatch (Z4 z)
 | some u=>
  show Xw u cs=_;unfold Xw
  congr 1
  funext c
  by_cases e:c / 8=u
  ·rw[Ze e,Ze (by rw[e])]
  ·rw[Zd e,Zd fun z=>e (Zr z).symm]
theorem Img.trm(M:Mp fx t t' σ σs own){cs cs':List Nat}(A:Img σ cs cs'):Img σ (trL t cs) (trL t' cs'):=by
 rw[Ab,Ab];refine A.filt fun c c32 _=>?_;rw[M.su c c32];have z:=M.tr (c / 8) (by omega);by_cases e:t=some (c / 8)
 ·rw[Ze e,Ze (z.mpr e)]
 ·rw[Zd e,Zd fun y=>e (z.mp y)]
theorem Img.cut(M:Mp fx t t' σ σs own){cs cs':List Nat}(A:Img σ cs cs'){led:Nat}(l4:led < 4):Img σ (Xy t led cs) (Xy t' (σs led) cs'):=(A.fol M l4).or M ((A.trm M).or M A)
theorem Img.alw(M:Mp fx t t' σ σs own){cs cs' ys:List Nat}(A:Img σ cs cs')(l4:Z5 ys < 4)(el:Z5 (ys.map σ)=σs (Z5 ys))(d:_root_.Fin 4)(ho:∀ c∈cs,∀ o∈ys,Y4 fx t' (σ c) (σ o) (σs (Z5 ys))=Y4 fx t c o (Z5 ys)):Img σ (alw d fx t ys cs) (alw d fx t' (ys.map σ) cs'):=by
 match d with
 | 0=>exact A
 | 1=>
  show Img σ (Ea (Xw (Z5 ys) cs) cs) (Ea (Xw (Z5 (ys.map σ)) cs') cs');rw[el];exact(A.fol M l4).or M A
 | 2=>
  show Img σ (Xy t (Z5 ys) cs) (Xy t' (Z5 (ys.map σ)) cs');rw[el];exact A.cut M l4
 | 3=>
  show Img σ (Ea (Bh fx t ys (Xy t (Z5 ys) cs)) (Xy t (Z5 ys) cs)) (Ea (Bh fx t' (ys.map σ) (Xy t' (Z5 (ys.map σ)) cs')) (Xy t' (Z5 (ys.map σ)) cs'));unfold Bh;rw[el];refine Img.or M ((A.cut M l4).filt fun c c32 hc=>?_) (A.cut M l4);have hc':=Q7 _ _ _ c hc;rw[List.all_map];show(ys.all fun o=>Y4 fx t' (σ c) (σ o) (σs (Z5 ys)))=_;rw[Bool.eq_iff_iff,List.all_eq_true,List.all_eq_true];constructor
  ·intro z o hoy
   rw[← ho c hc' o hoy];exact z o hoy
  ·intro z o hoy
   rw[ho c hc' o hoy];exact z o hoy
end
section
variable{fx:Fx}{t t':Option Nat}{σ σs own:Nat→Nat}{r:Nat}{hs ys hs' ys':List Nat}{lead lead' m m':Nat}
theorem Iso.seat(ok:fx.Ok)(I:Iso fx σ own r hs lead ys hs' lead' ys'):(lead'+ys'.length) % fx.n=((lead+ys.length) % fx.n+r) % fx.n:=by
 rw[I.ld,I.yy,Zf,Nat.mod_add_mod,Nat.mod_add_mod]
 congr 1
 omega
theorem Zcc(M:Mp fx t t' σ σs own)(ne:ys≠[])(h32:∀ y∈ys,y < 32):Z5 (ys.map σ)=σs (Z5 ys)∧Z5 ys < 4:=by
 match ys,ne with
 | y :: l,_=>
  have:=h32 y Zt;exact⟨M.su y this,show y / 8 < 4 by omega⟩
theorem Iso.may(ok:fx.Ok)(M:Mp fx t t' σ σs own)(Pl:Plc fx hs lead ys m)(Pl':Plc fx hs' lead' ys' m')(I:Iso fx σ own r hs lead ys hs' lead' ys'){h h':Nat}(eh:hs[(lead+ys.length) % fx.n]? = some h)(eh':hs'[(lead'+ys'.length) % fx.n]? = some h'):Img σ (Qq fx t ys h) (Qq fx t' ys' h'):=by
 rw[I.seat ok] at eh';have h32:=Pl.h32 ok (Zg eh);have h32':=Pl'.h32 ok (Zg eh');have A:Img σ (Jx h) (Jx h'):=⟨fun c hc=>Ug hc,fun c hc=>Ug hc,fun c c32=>by rw[Y8 h32',Y8 h32,I.hd _ _ _ eh eh' c c32]⟩;have B:Img σ (if ys=[] then Jx h else alw fx.d fx t ys (Jx h)) (if ys'=[] then Jx h' else alw fx.d fx t' ys' (Jx h')):=by
  by_cases e:ys=[]
  ·rw[if_pos e,if_pos (by rw[I.yy,e];rfl)]
   exact A
  ·rw[if_neg e,if_neg (by rw[I.yy];exact fun z=>e (List.map_eq_nil_iff.mp z)),I.yy]
   obtain⟨e1,e2⟩:=Zcc M e (fun y hy=>Pl.y32 ok hy);refine A.alw M e2 e1 _ fun c hc o ho=>?_;have hcb:=(Y8 h32).mp hc;have oc:=I.oh _ _ _ eh hcb;obtain⟨j,hj,ej⟩:=Z2.mp ho;have oo:=I.oy j o (by rw[Za hj,ej]);have yl:=Pl.yl;refine M.ov c o _ (Ug hc) (Pl.y32 ok ho) e2 (by rw[oc];exact Uw ok _ _) (by rw[oo];exact Uw ok _ _) ?_;rw[oc,oo];intro z;have a:=Qk ok.n34 Pl.ld yl;have b:=Qk ok.n34 Pl.ld (show j < fx.n by omega);rw[z,b] at a;omega
 obtain⟨b1,b2,b3⟩:=B;unfold Qq;exact⟨fun c hc=>Ug hc,fun c hc=>Ug hc,fun c c32=>by rw[Nb b2,Nb b1];exact b3 c c32⟩
theorem Iso.win(ok:fx.Ok)(M:Mp fx t t' σ σs own){zs:List Nat}(h32:∀ y∈zs,y < 32)(zl:zs.length≤fx.n)(ll:lead < fx.n)(oz:∀ j c,zs[j]? = some c→own c=(lead+j) % fx.n){i:Nat}(W:Win fx t (Z5 zs) zs i):Win fx t' (Z5 (zs.map σ)) (zs.map σ) i:=by
 obtain⟨b,e1,e2⟩:=W;have bm:=Zg e1;obtain⟨f1,f2⟩:=Zcc M (fun z=>by rw[z] at bm;cases bm) h32;refine⟨σ b,by rw[Zl,e1];rfl,fun c hc ne=>?_⟩;obtain⟨o,ho,rfl⟩:=Zw.mp hc;have no:o≠b:=fun z=>ne (by rw[z]);obtain⟨j,hj,ej⟩:=Z2.mp ho;have ej':zs[j]? = some o:=by rw[Za hj,ej]
 have il:=(Zh.mp e1).1;rw[f1,M.ov b o _ (h32 b bm) (h32 o ho) f2 (by rw[oz i b e1];exact Uw ok _ _) (by rw[oz j o ej'];exact Uw ok _ _) ?_]
 ·exact e2 o ho no
 ·rw[oz i b e1,oz j o ej']
  intro z;have a:=Qk ok.n34 ll (show i < fx.n by omega);have b':=Qk ok.n34 ll (show j < fx.n by omega);rw[z,b'] at a;subst a;rw[e1] at ej';exact no (Zr ej').symm
theorem Iso.step(ok:fx.Ok)(M:Mp fx t t' σ σs own)(Pl:Plc fx hs lead ys m)(Pl':Plc fx hs' lead' ys' m')(I:Iso fx σ own r hs lead ys hs' lead' ys'){h h' c:Nat}(eh:hs[(lead+ys.length) % fx.n]? = some h)(eh':hs'[(lead'+ys'.length) % fx.n]? = some h')(hb:h.testBit c=true)
    {h1 y1 h1' y1':List Nat} {l1 l1':Nat} {tk tk':Option Nat} (N:Nxt fx t hs lead ys h c h1 l1 y1 tk) (N':Nxt fx t' hs' lead' ys' h' (σ c) h1' l1' y1' tk'):Iso fx σ own r h1 l1 y1 h1' l1' y1'∧(tk=none∧tk'=none∨∃ u,u < fx.n∧tk=some u∧tk'=some ((u+r) % fx.n)):=by
  have yl:=Pl.yl;have ll:=Pl.ld;have c32:c < 32:=Pl.b32 ok (U4 (ys:=ys) (Zg eh) hb);have se:=I.seat ok;have hb':h'.testBit (σ c)=true:=by
    rw[se] at eh';rw[I.hd _ _ _ eh eh' c c32];exact hb
  have sl:=Uw ok lead ys.length;have oc:own c=(lead+ys.length) % fx.n:=I.oh _ _ _ eh hb;have yl':ys'.length=ys.length:=by rw[I.yy,Zf]
  have hd1:∀ i g g',h1[i]? = some g→h1'[(i+r) % fx.n]? = some g'→∀ b < 32,g'.testBit (σ b)=g.testBit b:=by
    intro i g g' eg eg' b b32;rw[N.hand] at eg;rw[N'.hand,se] at eg';have ig:=(Zh.mp eg).1;rw[Y0,Pl.len] at ig;by_cases q:(lead+ys.length) % fx.n=i
    · subst q
      rw[List.getElem?_set_self (by rw[Pl.len];exact sl)] at eg;rw[List.getElem?_set_self (by rw[Pl'.len];exact Nat.mod_lt _ (by omega))] at eg';cases eg;cases eg';rw[se] at eh';rw[X8 _ _ _ hb,X8 _ _ _ hb',I.hd _ _ _ eh eh' b b32]
      congr 1
      congr 1
      by_cases e:c=b
      · rw[Ze e,Ze (by rw[e])]
      · rw[Zd e,Zd fun z=>e (M.inj c c32 b b32 z)]
    · have q':((lead+ys.length) % fx.n+r) % fx.n≠(i+r) % fx.n:=fun z=>q (by
        have a:∀ n∈[3,4],∀ x < n,∀ y < n,∀ r < n,(x+r) % n=(y+r) % n→x=y:=by decide
        refine a fx.n (by rcases ok.n34 with e | e<;>rw[e]<;>simp) _ sl _ ig (r % fx.n) (Nat.mod_lt _ (by omega)) ?_;rw[Nat.add_mod_mod,Nat.add_mod_mod];exact z)
      rw[List.getElem?_set_ne q] at eg;rw[List.getElem?_set_ne q'] at eg';exact I.hd i g g' eg eg' b b32
  have oh1:∀ i g b,h1[i]? = some g→g.testBit b=true→own b=i:=by
    intro i g b eg gb;rw[N.hand] at eg;by_cases q:(lead+ys.length) % fx.n=i
    · subst q
      rw[List.getElem?_set_self (by rw[Pl.len];exact sl)] at eg;cases eg;rw[X8 _ _ _ hb,Bool.and_eq_true_iff] at gb;exact I.oh _ _ _ eh gb.2
    · rw[List.getElem?_set_ne q] at eg
      exact I.oh _ _ _ eg gb
  have oy1:∀ j b,(ys++[c])[j]? = some b→own b=(lead+j) % fx.n:=by
    intro j b ej;by_cases q:j < ys.length
    · rw[Ji q] at ej
      exact I.oy j b ej
    · have:=(Zh.mp ej).1
      rw[Zs,List.length_singleton] at this;have e:j=ys.length:=by omega
      subst e;rw[Jd (Nat.le_refl _),Nat.sub_self] at ej;cases ej;exact oc
  have ye:ys'++[σ c]=(ys++[c]).map σ:=by rw[Ju,← I.yy];rfl
  by_cases cl:ys.length+1 < fx.n
  · obtain⟨e1,e2,e3⟩:=N.go cl
    obtain⟨d1,d2,d3⟩:=N'.go (by omega);subst e1 d1 e2 d2;exact⟨⟨I.ld,ye,hd1,oh1,oy1⟩,.inl ⟨e3,d3⟩⟩
  · have cl2:ys.length+1=fx.n:=by omega
    obtain⟨e1,e2,i,W,e3⟩:=N.full cl2;obtain⟨d1,d2,j,V,d3⟩:=N'.full (by omega);have z32:∀ y∈ys++[c],y < 32:=fun y hy=>by
      rcases Jh.mp hy with z | z
      · exact Pl.y32 ok z
      · rw[Z7.mp z]
        exact c32
    have W':=Iso.win ok M z32 (by rw[Zs,List.length_singleton];omega) ll oy1 W;rw[← ye] at W';have ij:=O6 (Dh Pl' eh' hb') W' V;subst ij;have el:l1'=(l1+r) % fx.n:=by
      rw[d3,e3,I.ld,Nat.mod_add_mod,Nat.mod_add_mod]
      congr 1
      omega
    subst e1 d1;refine⟨⟨el,rfl,hd1,oh1,fun j c z=>nomatch z⟩,.inr ⟨l1,by rw[e3];exact Uw ok _ _,e2,by rw[d2,el]⟩⟩
theorem Iso.zero(ok:fx.Ok)(M:Mp fx t t' σ σs own)(Pl:Plc fx hs lead ys m)(Pl':Plc fx hs' lead' ys' m')(I:Iso fx σ own r hs lead ys hs' lead' ys'):m=0↔m'=0:=by
 obtain⟨h,eh,e⟩:=Pl.turn ok;obtain⟨h',eh',e'⟩:=Pl'.turn ok;have h32:=Pl.h32 ok (Zg eh);have h32':=Pl'.h32 ok (Zg eh');rw[I.seat ok] at eh';have A:Img σ (Jx h) (Jx h'):=⟨fun c hc=>Ug hc,fun c hc=>Ug hc,fun c c32=>by rw[Y8 h32',Y8 h32,I.hd _ _ _ eh eh' c c32]⟩;rw[← e,← e'];show(Jx h).length=0↔(Jx h').length=0;rw[Uh,Uh];exact A.nil M
end
section
variable{fx:Fx}{t t':Option Nat}{σ σs own:Nat→Nat}{r side side':Nat}
theorem Zhv(hs_:∀ u < fx.n,side'.testBit ((u+r) % fx.n)=side.testBit u){tk tk':Option Nat}(h:tk=none∧tk'=none∨∃ u,u < fx.n∧tk=some u∧tk'=some ((u+r) % fx.n)):Nt side' tk'=Nt side tk:=by
 rcases h with⟨rfl,rfl⟩ | ⟨u,hu,rfl,rfl⟩
 ·rfl
 ·show(if side'.testBit ((u+r) % fx.n)=true then 1 else 0)=(if side.testBit u=true then 1 else 0)
  rw[hs_ u hu]
theorem Zit(ok:fx.Ok)(M:Mp fx t t' σ σs own)(hs_:∀ u < fx.n,side'.testBit ((u+r) % fx.n)=side.testBit u):∀(k:Nat) (hs:List Nat) (lead:Nat) (ys:List Nat) (m:Nat) (hs':List Nat) (lead':Nat) (ys':List Nat) (m':Nat),Yu hs=k→Plc fx hs lead ys m→Plc fx hs' lead' ys' m'→Iso fx σ own r hs lead ys hs' lead' ys' →
  valP fx t' side' hs' lead' ys'=valP fx t side hs lead ys∧∀ h c,hs[(lead+ys.length) % fx.n]? = some h→c∈Qq fx t ys h→numP fx t' side' hs' lead' ys' (σ c)=numP fx t side hs lead ys c:=by
 intro k
 induction k with
 | zero=>
  intro hs lead ys m hs' lead' ys' m' e Pl Pl' I;have m0:=(Pl.tot0 ok).mp e;have m0':=(I.zero ok M Pl Pl').mp m0;refine⟨by rw[Vj e,Vj ((Pl'.tot0 ok).mpr m0')],fun h c eh hc=>?_⟩;exfalso;have hb:=(N6 (Pl.h32 ok (Zg eh)) hc).1;obtain⟨_,_,_,p,_⟩:=Pl.step ok eh hb;omega
 | succ k ih=>
  intro hs lead ys m hs' lead' ys' m' e Pl Pl' I;have m0:m≠0:=fun z=>by
   have:=(Pl.tot0 ok).mpr z;omega
  have m0':m'≠0:=fun z=>m0 ((I.zero ok M Pl Pl').mpr z);obtain⟨h,eh,_⟩:=Pl.turn ok;obtain⟨h',eh',_⟩:=Pl'.turn ok;have h32:=Pl.h32 ok (Zg eh);have A:=I.may ok M Pl Pl' eh eh';have each:∀ c∈Qq fx t ys h,numP fx t' side' hs' lead' ys' (σ c)=numP fx t side hs lead ys c:=fun c hc=>by
   have hb:=(N6 h32 hc).1;have c32:=(N6 h32 hc).2;have hb':h'.testBit (σ c)=true:=by
    have q:=eh';rw[I.seat ok] at q;rw[I.hd _ _ _ eh q c c32];exact hb
   obtain⟨h1,l1,y1,tk,N⟩:=Zak ok t Pl eh hb;obtain⟨h1',l1',y1',tk',N'⟩:=Zak ok t' Pl' eh' hb';obtain⟨J,g⟩:=I.step ok M Pl Pl' eh eh' hb N N';obtain⟨m1,P1,_,tt,_⟩:=N.plc ok Pl eh hb;obtain⟨m1',P1',_⟩:=N'.plc ok Pl' eh' hb';have q:=(ih h1 l1 y1 m1 h1' l1' y1' m1' (by unfold Yu at *;omega) P1 P1' J).1;rw[Oj ok Pl eh hb N,Oj ok Pl' eh' hb' N',q,Zhv hs_ g]
  refine⟨?_,fun g c eg hc=>by rw[eh] at eg;cases eg;exact each c hc⟩;have eg:hs.getD ((lead+ys.length) % fx.n) 0=h:=by rw[Zj,eh];rfl
  have eg':hs'.getD ((lead'+ys'.length) % fx.n) 0=h':=by rw[Zj,eh'];rfl
  rw[Vi ok Pl (fun z=>m0 ((Pl.tot0 ok).mp z)),Vi ok Pl' (fun z=>m0' ((Pl'.tot0 ok).mp z)),eg,eg',I.seat ok,hs_ _ (Uw ok _ _)];refine Zf9 fun x=>?_;rw[Zw,Zw];obtain⟨a1,a2,a3⟩:=A;constructor
  ·intro ⟨b,hb,e⟩
   obtain⟨c,c32,rfl⟩:=M.sur b (a2 b hb);have hc:=(a3 c c32).mp hb;exact⟨c,hc,by rw[← each c hc];exact e⟩
  ·intro ⟨c,hc,e⟩
   exact⟨σ c,(a3 c (a1 c hc)).mpr hc,by rw[each c hc];exact e⟩
end
def Vw(n:Nat)(hs:List Nat)(lead:Nat)(ys:List Nat)(c:Nat):Nat:=if hs.findIdx (fun h=>h.testBit c) < hs.length then hs.findIdx (fun h=>h.testBit c) else if c∈ys then(lead+ys.idxOf c) % n else 99
theorem Qj{fx:Fx}{hs ys:List Nat}{lead m:Nat}(Pl:Plc fx hs lead ys m){i h c:Nat}(eh:hs[i]? = some h)(hb:h.testBit c=true):Vw fx.n hs lead ys c=i:=by
 obtain⟨hi,ei⟩:=Zh.mp eh;have one:=Pl.one c;have lt:hs.findIdx (fun h=>h.testBit c) < hs.length:=List.findIdx_lt_length_of_exists ⟨h,Zg eh,hb⟩;unfold Vw;rw[if_pos lt];have hj:=List.findIdx_getElem (w:=lt);have two:∀(l:List Nat) (a b:Nat) (ha:a < l.length) (hbb:b < l.length),a < b→(l[a]).testBit c=true→(l[b]).testBit c=true→2≤l.countP fun h=>h.testBit c:=by
  intro l
  induction l with
  | nil=>intro a b ha;exact absurd ha (Nat.not_lt_zero _)
  | cons y l ih=>
   intro a b ha hbb ab ya yb
   match a,b with
   | 0,b+1=>
    have y0:y.testBit c=true:=ya;have:0 < l.countP fun h=>h.testBit c:=List.countP_pos_iff.mpr ⟨l[b]'(by simpa using hbb),J3 _,yb⟩;rw[List.countP_cons_of_pos (p:=fun h:Nat=>h.testBit c) y0];omega
   | a+1,b+1=>
    have:=ih a b (by simpa using ha) (by simpa using hbb) (by omega) ya yb;have q:(l.countP fun h=>h.testBit c)≤((y :: l).countP fun h=>h.testBit c):=(List.sublist_cons_self y l).countP_le;omega
 rcases Nat.lt_trichotomy (hs.findIdx (fun h=>h.testBit c)) i with q | q | q
 ·have:=two hs _ _ lt hi q hj (by rw[ei];exact hb)
  unfold Er at one;omega
 ·exact q
 ·have:=two hs _ _ hi lt q (by rw[ei];exact hb) hj
  unfold Er at one;omega
theorem Zdc{fx:Fx}{hs ys:List Nat}{lead m:Nat}(Pl:Plc fx hs lead ys m){j c:Nat}(ej:ys[j]? = some c):Vw fx.n hs lead ys c=(lead+j) % fx.n:=by
 have cm:=Zg ej;have no:¬ hs.findIdx (fun h=>h.testBit c) < hs.length:=fun z=>by
  have hj:=List.findIdx_getElem (w:=z);have:=Pl.apart (J3 z) cm;rw[this] at hj;cases hj
 unfold Vw;rw[if_neg no,if_pos cm]
 congr 2
 have e1:ys[ys.idxOf c]? = some c:=by
  rw[Za (List.idxOf_lt_length_of_mem cm)];simp
 exact Ke Pl.nd e1 ej
end
section
variable{f:Fx}{hs ys ws:List Nat}{lead m i:Nat}
end
end My
namespace L2
open PySem PySem.Spec PyProof.Rows
abbrev hk(kk:Value→Int):PyProof.Rows.KeyKind:={ α:=Int,blt:=fun a b=>decide (a < b),irrefl:=fun a=>by simp,trans:=fun a b c h1 h2=>by simp at *;omega,negTrans:=fun a b c h=>by simp at *;omega,total:=fun a b h1 h2=>by simp at *;omega,keyOf:=fun v=>some (kk v),dflt:=0 }
def Qx(kk:Value→Int)(xs:Array Keyed)(i:Nat):Int:=match xs[i]? with | some p=>kk p.1 | none=>0
theorem N8(kk:Value→Int)(xs:Array Keyed)(i:Nat):Qx kk xs i=KK (hk kk) xs i:=by
 unfold Qx KK;cases xs[i]? <;> rfl
theorem Tk{kk:Value→Int}{xs:Array Keyed}{src d:Nat}(h1:src < xs.size)(h2:d≤src)(k:Nat):Qx kk (bubble xs src d) k=if k=src - d then Qx kk xs src else if src - d < k∧k≤src then Qx kk xs (k - 1) else Qx kk xs k:=by
 rw[N8,KK_bubble h1 h2 k,N8,N8,N8]
theorem Tj{kk:Value→Int}{xs:Array Keyed}{i j:Nat}(h:j≤xs.size)(k:Nat):Qx kk (mirror xs i j ((j - i) / 2)) k=if i≤k∧k < j then Qx kk xs (i+j - 1 - k) else Qx kk xs k:=by
 rw[N8,KK_mirror h k,N8,N8]
theorem Zam{α:Type}{l:List α}(nd:l.Nodup){i j:Nat}(hi:i < l.length)(hj:j < l.length)(e:l[i]=l[j]):i=j:=by
 have pw:=List.pairwise_iff_getElem.mp nd;rcases Nat.lt_trichotomy i j with z | z | z
 ·exact absurd e (pw i j hi hj z)
 ·exact z
 ·exact absurd e.symm (pw j i hj hi z)
def Xm(kk:Value→Int)(xs:Array Keyed)(k:Nat):Prop:=∀ i j,i < j→j < k→Qx kk xs i < Qx kk xs j
def K2(kk:Value→Int)(xs:Array Keyed)(k:Nat):Prop:=∀ i j,i < j→j < k→Qx kk xs j < Qx kk xs i
section
variable{P:Program}{w:World}{A:Around}{E:Value→Shared→Prop}{s:Shared}{kd:SortKind}{a0:Array Keyed}{kk:Value→Int}
def Zil(P:Program)(w:World)(A:Around)(s:Shared)(kd:SortKind)(kk:Value→Int)(ks:List Value):Prop:=
 ∀ x∈ks,∀ y∈ks,∀(E:Value→Shared→Prop) (Q:Bool→Shared→Prop),Q (decide (kk x < kk y)) s→wpAny (model P w) A (keyLt' kd x y) Q E s
theorem SB.getK{st:SortSt}{i:Nat}(h:SB kd a0 st)(hi:i < a0.size):∃ x p,(arrOf st)[i]? = some (x,p)∧x∈a0.toList.map (·.1)∧Qx kk (arrOf st) i=kk x:=by
 obtain⟨x,p,e,m⟩:=h.get hi;exact⟨x,p,e,m,by unfold Qx;rw[e]⟩
theorem SB.ne{st:SortSt}(h:SB kd a0 st)(nd:(a0.toList.map fun p=>kk p.1).Nodup){i j:Nat}(hi:i < a0.size)(hj:j < a0.size)(ne:i≠j):Qx kk (arrOf st) i≠Qx kk (arrOf st) j:=by
 have pm:=(Array.perm_iff_toList_perm.mp h.pm).map fun p:Keyed=>kk p.1;have nd2:((arrOf st).toList.map fun p=>kk p.1).Nodup:=pm.nodup_iff.mpr nd;have sz:=h.sz;have g:∀ i,i < a0.size→((arrOf st).toList.map fun p=>kk p.1)[i]? = some (Qx kk (arrOf st) i):=fun i hi=>by
  rw[Zl,Array.getElem?_toList];unfold Qx;rw[getElem?_pos (arrOf st) i (by omega)];rfl
 intro e;have l:((arrOf st).toList.map fun p=>kk p.1).length=a0.size:=by rw[Zf,Array.length_toList,sz]
 have h1:i < ((arrOf st).toList.map fun p=>kk p.1).length:=by omega
 have h2:j < ((arrOf st).toList.map fun p=>kk p.1).length:=by omega
 have g1:=g i hi;have g2:=g j hj;rw[Za h1] at g1;rw[Za h2] at g2;refine ne (Zam nd2 h1 h2 ?_);rw[Zr g1,Zr g2,e]
theorem Kj{st:SortSt}{i j:Nat}{Q:Option Bool→SortSt→Prop}(hC:Zil P w A s kd kk (a0.toList.map (·.1)))(hB:SB kd a0 st)(hi:i < a0.size)(hj:j < a0.size)(h:Q (some (decide (Qx kk (arrOf st) i < Qx kk (arrOf st) j))) st):wpS (model P w) A E s (ltAt' i j) Q st:=by
 obtain⟨x,p,e1,m1,k1⟩:=hB.getK (kk:=kk) hi;obtain⟨y,q,e2,m2,k2⟩:=hB.getK (kk:=kk) hj;rw[k1,k2] at h;rw[ltAt'_eq];refine wpS_bind (wpS_get (show wpS _ _ _ _ (do let x ← elem' (arrOf st) i;let y ← elem' (arrOf st) j;lt' x y) Q st from ?_));rw[elem'_eq,elem'_eq,e1,e2];refine wpS_bind (wpS_pure (wpS_bind (wpS_pure (show wpS _ _ _ _ (lt' (x,p) (y,q)) Q st from ?_))));rw[lt'_eq];refine wpS_bind (wpS_get (show wpS _ _ _ _ (do let r ← (liftM (keyLt' (kindOf st) x y).attempt:StateT SortSt Sem _);_) Q st from ?_));rw[hB.kn];exact wpS_bind (wpS_lift (wpAny_attempt (hC x m1 y m2 _ _ ⟨rfl,wpS_pure h⟩)))
variable(hC:Zil P w A s kd kk (a0.toList.map (·.1)))(nd:(a0.toList.map fun p=>kk p.1).Nodup)
include hC nd
theorem Zij{st:SortSt}{a m:Nat}{Q:AscSt→SortSt→Prop}(hm:m≤a0.size)(h1:1≤a)(h2:a≤m)(hB:SB kd a0 st)(hs:Xm kk (arrOf st) a)(h:∀ n,a≤n→n≤m→Xm kk (arrOf st) n→(n < m→Qx kk (arrOf st) n < Qx kk (arrOf st) (n - 1))→Q (none,n) st):wpS (model P w) A E s (ascLoop a m) Q st:=by
 unfold ascLoop;refine wpS_forRange (I:=fun x c t=>t=st∧c=(none,x)∧Xm kk (arrOf st) x) (fun x c t hx1 hx2 z=>?_) (fun c t z=>?_) ⟨rfl,rfl,hs⟩
 ·obtain⟨rfl,rfl,hx⟩:=z
  refine wpS_bind (Kj hC hB (by dsimp only;omega) (by dsimp only;omega) ?_);dsimp only;by_cases c:Qx kk (arrOf t) x < Qx kk (arrOf t) (x - 1)
  ·rw[Ze c]
   exact wpS_pure (h x hx1 (by omega) hx fun _=>c)
  ·rw[Zd c]
   refine wpS_pure ⟨rfl,rfl,fun i j hij hj=>?_⟩;by_cases e:j=x
   ·subst e
    have ne:=hB.ne nd (i:=j) (j:=j - 1) (by omega) (by omega) (by omega);by_cases e2:i=j - 1
    ·rw[e2];omega
    ·have:=hx i (j - 1) (by omega) (by omega)
     omega
   ·exact hx i j hij (by omega)
 ·obtain⟨rfl,rfl,hx⟩:=z
  have e:max a m=m:=by omega
  rw[e] at hx ⊢;exact h _ h2 (Nat.le_refl _) hx fun z=>absurd z (Nat.lt_irrefl _)
theorem Ziy{st:SortSt}{n m:Nat}{Q:Option Nat→SortSt→Prop}(hm:m≤a0.size)(h1:1≤n)(h2:n≤m)(hB:SB kd a0 st)(hd:K2 kk (arrOf st) n)(h:∀ k t,SB kd a0 t→1≤k→k≤m→Xm kk (arrOf t) k→Q (some k) t):wpS (model P w) A E s (tail3 n m) Q st:=by
 unfold tail3;have hB2:SB kd a0 (setArr st (mirror (arrOf st) 0 n ((n - 0) / 2))):=hB.put (mirror_perm _ _ _ _);have hs:Xm kk (arrOf (setArr st (mirror (arrOf st) 0 n ((n - 0) / 2)))) n:=fun i j hij hj=>by
  show Qx kk (mirror (arrOf st) 0 n ((n - 0) / 2)) i < Qx kk (mirror (arrOf st) 0 n ((n - 0) / 2)) j;rw[Tj (by rw[hB.sz];omega),Tj (by rw[hB.sz];omega),if_pos (by omega),if_pos (by omega)];exact hd _ _ (by omega) (by omega)
 exact wpS_bind (wpS_reverse (wpS_bind (Zij hC nd hm h1 h2 hB2 hs fun k k1 k2 k3 _=>wpS_pure (h k _ hB2 (by omega) k2 k3))))
theorem Zk9{st:SortSt}{n m:Nat}{Q:DescSt→SortSt→Prop}(hm:m≤a0.size)(h1:1≤n)(h2:n≤m)(hB:SB kd a0 st)(hd:K2 kk (arrOf st) n)(h:∀ k,n≤k→k≤m→K2 kk (arrOf st) k→Q (none,k,0) st):wpS (model P w) A E s (descLoop n m) Q st:=by
 unfold descLoop;refine wpS_forRange (I:=fun x c t=>t=st∧c=(none,x,0)∧K2 kk (arrOf st) x) (fun x c t hx1 hx2 z=>?_) (fun c t z=>?_) ⟨rfl,rfl,hd⟩
 ·obtain⟨rfl,rfl,hx⟩:=z
  refine wpS_bind (Kj hC hB (by dsimp only;omega) (by dsimp only;omega) ?_);dsimp only;have ne:=hB.ne nd (i:=x) (j:=x - 1) (by omega) (by omega) (by omega);by_cases c:Qx kk (arrOf t) x < Qx kk (arrOf t) (x - 1)
  ·rw[Ze c]
   refine wpS_pure ⟨rfl,rfl,fun i j hij hj=>?_⟩;by_cases e:j=x
   ·subst e
    by_cases e2:i=j - 1
    ·rw[e2];omega
    ·have:=hx i (j - 1) (by omega) (by omega)
     omega
   ·exact hx i j hij (by omega)
  ·rw[Zd c]
   refine wpS_bind (Kj hC hB (by omega) (by omega) ?_);rw[Ze (show Qx kk (arrOf t) (x - 1) < Qx kk (arrOf t) x by omega)];exact wpS_pure (h x hx1 (by omega) hx)
 ·obtain⟨rfl,rfl,hx⟩:=z
  have e:max n m=m:=by omega
  rw[e] at hx ⊢;exact h _ h2 (Nat.le_refl _) hx
theorem Zjs{st:SortSt}{n m:Nat}{Q:Option Nat→SortSt→Prop}(hm:m≤a0.size)(h2:n+1≤m)(hB:SB kd a0 st)(hd:K2 kk (arrOf st) (n+1))(h:∀ k t,SB kd a0 t→1≤k→k≤m→Xm kk (arrOf t) k→Q (some k) t):wpS (model P w) A E s (descPart n m) Q st:=by
 unfold descPart;refine wpS_bind (wpS_lift (wpAny_rule ⟨rfl,wpS_bind (Zk9 hC nd hm (by omega) h2 hB hd fun k k1 k2 k3=>?_)⟩));show wpS _ _ _ _ (if 0 > 0 then _ else _) _ _;rw[if_neg (by decide)];exact Ziy hC nd hm (by dsimp only;omega) (by dsimp only;omega) hB k3 h
theorem Zid{st:SortSt}{m:Nat}{Q:Option Nat→SortSt→Prop}(hm:m≤a0.size)(h1:1≤m)(hB:SB kd a0 st)(h:∀ k t,SB kd a0 t→1≤k→k≤m→Xm kk (arrOf t) k→Q (some k) t):wpS (model P w) A E s (countRun' 0 m) Q st:=by
 rw[countRun0_eq];refine wpS_bind (Zij hC nd hm (Nat.le_refl 1) h1 hB (fun i j a b=>by omega) fun n n1 n2 n3 n4=>?_);show wpS _ _ _ _ (if(n == m)=true then _ else if n > 1 then _ else _) _ _;split
 ·exact wpS_pure (h n st hB n1 n2 n3)
 ·rename_i ne
  have ne2:n≠m:=fun z=>ne (beq_iff_eq.mpr z);split
  ·refine wpS_bind (Kj hC hB (by omega) (by dsimp only;omega) ?_)
   dsimp only;rw[Ze (n3 0 (n - 1) (by omega) (by omega))];exact wpS_pure (h n st hB n1 n2 n3)
  ·have e:n=1:=by omega
   subst e;refine Zjs hC nd hm (by dsimp only;omega) hB (fun i j a b=>?_) h;have ei:i=0:=by omega
   have ej:j=1:=by omega
   rw[ei,ej];exact n4 (by omega)
theorem Zny{st:SortSt}{n ok:Nat}{Q:Bool→SortSt→Prop}(hn:n≤a0.size)(ho:ok≤n)(hB:SB kd a0 st)(hs:Xm kk (arrOf st) ok)(h:∀ t,SB kd a0 t→Xm kk (arrOf t) n→Q true t):wpS (model P w) A E s (binarySort' 0 n ok) Q st:=by
 rw[binarySort'_eq];refine wpS_bind (wpS_mono (wpS_forRange (I:=fun x c t=>c=(none,())∧SB kd a0 t∧Xm kk (arrOf t) x) (Q:=fun c t=>c=(none,())∧SB kd a0 t∧Xm kk (arrOf t) n) (fun k c t hk1 hk2 z=>?_) (fun c t z=>⟨z.1,z.2.1,fun i j a b=>z.2.2 i j a (by omega)⟩) ⟨rfl,hB,fun i j a b=>hs i j a (by omega)⟩) fun c t z=>?_)
 ·obtain⟨rfl,hB2,hS2⟩:=z
  refine wpS_bind (wpS_mono (wpS_forRange (I:=fun x c u=>u=t∧∃ l r,c=(none,l,r)∧l≤r∧r≤k∧r - l+x≤k∧(∀ i,i < l→Qx kk (arrOf t) i < Qx kk (arrOf t) k)∧(∀ i,r≤i→i < k→Qx kk (arrOf t) k < Qx kk (arrOf t) i))
   (Q:=fun c u=>u=t∧∃ l r,c=(none,l,r)∧l≤k∧(∀ i,i < l→Qx kk (arrOf t) i < Qx kk (arrOf t) k)∧(∀ i,l≤i→i < k→Qx kk (arrOf t) k < Qx kk (arrOf t) i)) (fun x c u hx1 hx2 y=>?_) (fun c u y=>?_) ⟨rfl,0,k,rfl,Nat.zero_le _,Nat.le_refl k,by omega,fun i hi=>absurd hi (Nat.not_lt_zero _),fun i a b=>by omega⟩) fun c u y=>?_)
  ·obtain⟨rfl,l,r,rfl,lr,rk,fu,y1,y2⟩:=y
   show wpS _ _ _ _ (if l ≥ r then _ else _) _ _;split
   ·rename_i ge
    have e:l=r:=by omega
    subst e;exact wpS_pure ⟨rfl,l,l,rfl,rk,y1,y2⟩
   ·refine wpS_bind (Kj hC hB2 (by omega) (by dsimp only;omega) ?_)
    dsimp only;rw[Nat.zero_add,Nat.zero_add];have ne:=hB2.ne nd (i:=k) (j:=(l+r) / 2) (by omega) (by omega) (by omega);by_cases c:Qx kk (arrOf u) k < Qx kk (arrOf u) ((l+r) / 2)
    ·rw[Ze c]
     refine wpS_pure ⟨rfl,l,(l+r) / 2,rfl,by omega,by omega,by omega,y1,fun i a b=>?_⟩;by_cases e:i=(l+r) / 2
     ·rw[e];exact c
     ·have:=hS2 ((l+r) / 2) i (by omega) b
      omega
    ·rw[Zd c]
     refine wpS_pure ⟨rfl,(l+r) / 2+1,r,rfl,by omega,rk,by omega,fun i a=>?_,y2⟩;by_cases e:i=(l+r) / 2
     ·rw[e];omega
     ·have:=hS2 i ((l+r) / 2) (by omega) (by omega)
      omega
  ·obtain⟨rfl,l,r,rfl,lr,rk,fu,y1,y2⟩:=y
   have e:l=r:=by
    have:max 0 k=k:=by omega
    rw[this] at fu;omega
   subst e;exact⟨rfl,l,l,rfl,rk,y1,y2⟩
  ·obtain⟨rfl,l,r,rfl,lk,y1,y2⟩:=y
   show wpS _ _ _ _ (do moveDown' (0+k) (0+l);pure (ForInStep.yield (none,()))) _ _;rw[moveDown'_eq,Nat.zero_add,Nat.zero_add];refine wpS_bind (wpS_modify (wpS_pure ⟨rfl,hB2.put (bubble_perm _ _ _),fun i j a b=>?_⟩));show Qx kk (bubble (arrOf u) k (k - l)) i < Qx kk (bubble (arrOf u) k (k - l)) j;have kz:k < (arrOf u).size:=by rw[hB2.sz];omega
   have ek:k - (k - l)=l:=by omega
   rw[Tk kz (by omega),Tk kz (by omega),ek];by_cases c1:i=l
   ·rw[if_pos c1,if_neg (by omega),if_pos (by omega)]
    exact y2 (j - 1) (by omega) (by omega)
   ·rw[if_neg c1]
    by_cases c2:l < i∧i≤k
    ·rw[if_pos c2,if_neg (by omega),if_pos (by omega)]
     exact hS2 (i - 1) (j - 1) (by omega) (by omega)
    ·rw[if_neg c2]
     by_cases c3:j=l
     ·rw[if_pos c3]
      exact y1 i (by omega)
     ·rw[if_neg c3]
      by_cases c4:l < j∧j≤k
      ·rw[if_pos c4]
       by_cases c5:i=j - 1
       ·exfalso;omega
       ·exact hS2 i (j - 1) (by omega) (by omega)
      ·rw[if_neg c4]
       exact hS2 i j a (by omega)
 ·obtain⟨rfl,hB2,hS2⟩:=z
  exact wpS_pure (h t hB2 hS2)
theorem Zje{st:SortSt}{Q:Unit→SortSt→Prop}(hB:SB kd a0 st)(h2:1≤a0.size)(h64:a0.size < 64)(h:∀ t,(arrOf t).Perm a0→failedOf t=none→Xm kk (arrOf t) a0.size→Q () t):wpS (model P w) A E s sortRuns' Q st:=by
 have mr:minRun' a0.size a0.size 0=a0.size:=by
  obtain⟨f,hf⟩:∃ f,a0.size=f+1:=⟨a0.size - 1,by omega⟩;rw[hf,minRun'_succ,if_pos (by omega)]
 have dn:∀ t,SB kd a0 t→Xm kk (arrOf t) a0.size→(arrOf (setPending t ((pendingOf t).push (0,a0.size,0)))).Perm a0∧failedOf (setPending t ((pendingOf t).push (0,a0.size,0)))=none∧pendingOf (setPending t ((pendingOf t).push (0,a0.size,0))) = #[(0,a0.size,0)]∧Xm kk (arrOf (setPending t ((pendingOf t).push (0,a0.size,0)))) a0.size:=
  fun t hB hs=>⟨hB.pm,hB.fl,by show(pendingOf t).push _=_;rw[hB.pn];rfl,hs⟩
 rw[sortRuns'_eq];refine wpS_bind (wpS_get ?_);dsimp only;simp only[hB.sz,mr];refine wpS_bind (wpS_mono (wpS_forRange (I:=fun x c t=>(x=0∧c=(none,0)∧SB kd a0 t)∨(c=(none,a0.size)∧(arrOf t).Perm a0∧failedOf t=none∧pendingOf t = #[(0,a0.size,0)]∧Xm kk (arrOf t) a0.size))
  (Q:=fun c t=>c=(none,a0.size)∧(arrOf t).Perm a0∧failedOf t=none∧pendingOf t = #[(0,a0.size,0)]∧Xm kk (arrOf t) a0.size) (fun x c t hx1 hx2 z=>?_) (fun c t z=>?_) (.inl ⟨rfl,rfl,hB⟩)) fun c t z=>?_)
 ·rcases z with⟨rfl,rfl,hB2⟩ | ⟨rfl,hD⟩
  ·dsimp only
   rw[if_neg (show ¬ 0 ≥ a0.size by omega)];simp only[Nat.sub_zero,Nat.min_self,Nat.zero_add];refine wpS_bind (Zid hC nd (Nat.le_refl _) h2 hB2 fun k u hB3 k1 k2 k3=>?_);dsimp only;have bk:∀ v,SB kd a0 v→(pendingOf v).back? = none:=fun v hv=>by rw[hv.pn];rfl
   by_cases lt:k < a0.size
   ·rw[if_pos lt]
    refine wpS_bind (wpS_lift (wpAny_rule ⟨rfl,wpS_bind (Zny hC nd (Nat.le_refl _) k2 hB3 k3 fun v hB4 k4=>?_)⟩));rw[if_neg (show ¬ (!true)=true by decide)];refine wpS_bind (wpS_get ?_);rw[bk v hB4];exact wpS_bind (wpS_modify (wpS_pure (.inr ⟨rfl,dn v hB4 k4⟩)))
   ·rw[if_neg lt]
    have ek:k=a0.size:=by omega
    subst ek;refine wpS_bind (wpS_get ?_);rw[bk u hB3];exact wpS_bind (wpS_modify (wpS_pure (.inr ⟨rfl,dn u hB3 k3⟩)))
  ·dsimp only
   rw[if_pos (Nat.le_refl _)];exact wpS_pure ⟨rfl,hD⟩
 ·rcases z with⟨hx,_,_⟩ | hD
  ·omega
  ·exact hD
 ·obtain⟨rfl,d1,d2,d3,d4⟩:=z
  refine wpS_bind (wpS_mono (wpS_forRange (I:=fun _ c u=>u=t∧c=(none,())) (Q:=fun c u=>u=t∧c=(none,())) (fun x c u _ _ y=>?_) (fun _ _ y=>y) ⟨rfl,rfl⟩) fun c u y=>?_)
  ·obtain⟨rfl,rfl⟩:=y
   refine wpS_bind (wpS_get ?_);rw[if_pos (by rw[d3];exact Nat.le_refl 1)];exact wpS_pure ⟨rfl,rfl⟩
  ·obtain⟨rfl,rfl⟩:=y
   exact wpS_pure (h _ d1 d2 d4)
end
section
variable{P:Program}{w:World}{A:Around}{E:Value→Shared→Prop}{s:Shared}{kd:SortKind}{kk:Value→Int}
structure KeysB(P:Program)(w:World)(A:Around)(s:Shared)(kd:SortKind)(kk:Value→Int)(vs:List Value):Prop where
 kind:2≤vs.length→∀(E:Value→Shared→Prop) (Q:SortKind→Shared→Prop),Q kd s→wpAny (model P w) A (keyKind' vs.toArray) Q E s
 cmp:Zil P w A s kd kk vs
theorem Zf1{vs:List Value}{xs:Array Keyed}(hp:xs.Perm (pairsOf vs))(hs:Xm kk xs (pairsOf vs).size):(xs.map (·.2)).toList.Pairwise fun x y=>kk x < kk y:=by
 rw[Array.toList_map,List.pairwise_iff_getElem];intro i j hi hj hij;have szx:xs.size=(pairsOf vs).size:=hp.size_eq;rw[Zf,Array.length_toList] at hi hj;have same:∀ p∈xs.toList,p.1=p.2:=fun p hpm=>by
  have:=(Array.perm_iff_toList_perm.mp hp).mem_iff.mp hpm;rw[pairsOf_toList] at this;obtain⟨k,hk,ek⟩:=Z2.mp this;rw[List.getElem_zip] at ek;rw[← ek]
 have z:=hs i j hij (by omega);unfold Qx at z;rw[getElem?_pos xs i hi,getElem?_pos xs j hj] at z;have e1:=same xs[i] (by simp);have e2:=same xs[j] (by simp);simp only[List.getElem_map,Array.getElem_toList];rw[← e1,← e2];exact z
theorem Zi2{a:Addr}{vs:List Value}{n:Nat}{R:Fin→Shared→Prop}(ho:s.heap.get? a=some (seqObj "list" vs.toArray n))(h64:vs.length < 64)(nd:(vs.map kk).Nodup)
  (hK:∀ h',(∀ b o,b≠a→s.heap.get? b=some o→h'.get? b=some o)→KeysB P w A { s with heap:=h' } kd kk vs)
  (h:∀ out:Array Value,out.toList.Perm vs→(out.toList.Pairwise fun x y=>kk x < kk y)→R (.done (.ret .none)) { s with heap:=sortedHeap s.heap a vs out }):wpAny (model P w) A (Builtin.«list.sort» ⟨[.ref a],[]⟩) R E s:=by
 have ha:a < s.heap.objs.size:=Z0 ho;rw[list_sort_plain];refine Zc (listItems_at ho rfl (Zc (listUpdate_at ho rfl ?_)));obtain⟨e1,ho1⟩:∃ e,(s.heap.update a (Obj.mapSeq fun _=>#[])).get? a=some (seqObj "list" #[] e):=⟨_,get?_update_seq ho fun _=>#[]⟩;refine Zc (seqEpoch_at ho1 rfl (Zc (wpAny_newTuple (Zc (wpAny_newList (wpAny_holding ?_))))));show wpAny (model P w) A _ R E { s with heap:=((s.heap.update a (Obj.mapSeq fun _=>#[])).push (seqObj "tuple" vs.toArray 0)).push (seqObj "list" #[] 0) };have ho6:(((s.heap.update a (Obj.mapSeq fun _=>#[])).push (seqObj "tuple" vs.toArray 0)).push (seqObj "list" #[] 0)).get? a=some (seqObj "list" #[] e1):=Zi _ (Zi _ ho1);have kp:=hK (((s.heap.update a (Obj.mapSeq fun _=>#[])).push (seqObj "tuple" vs.toArray 0)).push (seqObj "list" #[] 0)) fun b o hb q=>
  Zi _ (Zi _ (by rw[Heap.get?_update_other _ _ (Ne.symm hb)];exact q))
 have fin:∀ t:SortSt,(arrOf t).Perm (pairsOf vs)→Xm kk (arrOf t) (pairsOf vs).size→R (.done (.ret .none)) { s with heap:=sortedHeap s.heap a vs ((arrOf t).map (·.2)) }:=fun t hp hs=>h _ (G2 hp) (Zf1 hp hs);have sz:vs.toArray.size=vs.length:=List.size_toArray;dsimp only;have szp:∀ t:SortSt,(arrOf t).Perm (pairsOf vs)→((arrOf t).map (·.2)).size≤sizeLine+1:=fun t hp=>by
  rw[Array.size_map,hp.size_eq,pairsOf_size,sizeLine_eq];omega
 by_cases c2:vs.toArray.size < 2
 ·rw[if_pos c2,if_pos c2]
  refine Zc (wpAny_pure ?_);rw[StateT.run_pure];refine Zc (wpAny_pure ?_);dsimp only;refine Zc (seqEpoch_at ho6 rfl (Zc (listUpdate_at ho6 rfl ?_ (hsz2:=szp (SortSt.mk' general' (vs.toArray.zip vs.toArray) #[] 7 none) (Array.Perm.refl _)))));rw[if_neg (by simp)];exact wpAny_pure (fin (SortSt.mk' general' (vs.toArray.zip vs.toArray) #[] 7 none) (Array.Perm.refl _) fun i j a b=>by rw[pairsOf_size] at b;omega)
 ·rw[if_neg c2,if_neg c2]
  refine Zc (kp.kind (by omega) _ _ ?_);have cm:Zil P w A { s with heap:=((s.heap.update a (Obj.mapSeq fun _=>#[])).push (seqObj "tuple" vs.toArray 0)).push (seqObj "list" #[] 0) } kd kk ((pairsOf vs).toList.map (·.1)):=by
   rw[Vv];exact kp.cmp
  have nd2:((pairsOf vs).toList.map fun p=>kk p.1).Nodup:=by
   have e:((pairsOf vs).toList.map fun p=>kk p.1)=vs.map kk:=by
    conv=>rhs;rw[← Vv vs]
    rw[Z1];rfl
   rw[e];exact nd
  have run:=Zje (E:=E) (Q:=fun _ t=>(arrOf t).Perm (pairsOf vs)∧failedOf t=none∧Xm kk (arrOf t) (pairsOf vs).size) cm nd2 (st:=SortSt.mk' kd (vs.toArray.zip vs.toArray) #[] 7 none) ⟨Array.Perm.refl _,rfl,rfl,rfl⟩ (by rw[pairsOf_size];omega) (by rw[pairsOf_size];exact h64) fun t a b c=>⟨a,b,c⟩;refine Zc (wpAny_mono run (fun r s' z=>?_) fun _ _ e=>e);obtain⟨⟨⟩,t⟩:=r;obtain⟨rfl,hp,hf,hr⟩:=z;dsimp only;refine Zc (seqEpoch_at ho6 rfl (Zc (listUpdate_at ho6 rfl ?_ (hsz2:=szp t hp))));rw[hf];dsimp only;rw[if_neg (by simp)];exact wpAny_pure (fin t hp hr)
theorem Zc2{l:Addr}{vs:List Value}{Q:Value→Shared→Prop}(hl:s.heap.IsList l vs.toArray)(h64:vs.length < 64)(nd:(vs.map kk).Nodup)
  (hK:∀ A' h',A'.units≤A.units+4→(∀ b o,s.heap.get? b=some o→h'.get? b=some o)→KeysB P w A' { s with heap:=h' } kd kk vs)
  (h:∀ out:Array Value,out.toList.Perm vs→(out.toList.Pairwise fun x y=>kk x < kk y)→Q (.ref (s.heap.objs.size+1)) { s with heap:=sortedAll s.heap vs out }):wpAny (model P w) A (call (.builtin "sorted") [.ref l]) Q E s:=by
 refine Calls.call_function_entry kind_sorted plain_sorted entry_sorted (args_sorted1 _) ?_;unfold Builtin.«sorted»;refine Zc (m:=checkCount "sorted" 1 1 _) (wpAny_pure (Zc (collect_list hl ?_ (by rw[sizeLine_eq];omega))));refine Zc (wpAny_newList ?_);have sz:((s.heap.push (seqObj "list" #[] 0)).update s.heap.objs.size (Obj.mapSeq (· ++ vs.toArray))).objs.size=s.heap.objs.size+1:=by rw[Heap.size_update,size_push']
 have hoL:(((s.heap.push (seqObj "list" #[] 0)).update s.heap.objs.size (Obj.mapSeq (· ++ vs.toArray))).push (seqObj "list" vs.toArray 0)).get? (s.heap.objs.size+1)=some (seqObj "list" vs.toArray 0):=sz ▸ Heap.get?_push_size _ rfl;show wpAny _ _ _ _ _ { s with heap:=((s.heap.push (seqObj "list" #[] 0)).update s.heap.objs.size (Obj.mapSeq (· ++ vs.toArray))).push (seqObj "list" vs.toArray 0) };rw[sz];refine Zc (wpAny_holding (wpAny_call_entry slot_list_sort ⟨_,hoL,rfl⟩ entry_list_sort (Zi2 (kd:=kd) (kk:=kk) hoL h64 nd (fun h' k=>hK _ h' (show A.units+1+1≤A.units+4 by omega) fun b o q=>?_) fun out p r=>⟨_,rfl,wpAny_pure ⟨_,rfl,h out p r⟩⟩) (args_list_sort _)));have hb:b < s.heap.objs.size:=Z0 q;refine k b o (Nat.ne_of_lt (Nat.lt_succ_of_lt hb)) (Zi _ ?_);rw[Heap.get?_update_other _ _ (Nat.ne_of_lt hb).symm];exact Zi _ q
end
section
variable{P:Program}{w:World}{A:Around}{E:Value→Shared→Prop}{s:Shared}
end
theorem Zd1(x y:Value):keyLt' oneType' x y=oneLt' true x y:=rfl
section
variable{P:Program}{w:World}{A:Around}{E:Value→Shared→Prop}{s:Shared}
theorem A6{a b:Addr}{xs ys:Array Value}{n n2:Nat}{dd dd2:Option Addr}{sl sl2:Array (Option Value)}{ns ms:List Int}{Q:Bool→Shared→Prop}(ho:s.heap.get? a=some { cls:=.type "list",dict:=dd,data:=.seq xs n,slots:=sl })
  (ho2:s.heap.get? b=some { cls:=.type "list",dict:=dd2,data:=.seq ys n2,slots:=sl2 }) (hx:IntsAre xs.toList ns) (hy:IntsAre ys.toList ms) (hu:A.units < cLine) (h:Q (HT.lexLt ns ms) s):wpAny (model P w) A (oneLt' true (.ref a) (.ref b)) Q E s:=by
 rw[oneLt'_eq];simp only[if_true];refine Zc (wpAny_cRoomFor hu (Zc (wpAny_callSpecialIfBound?_slot (T:="list") ⟨_,ho,rfl⟩ PySem.F.slot_list_lt ?_)));exact call_meets PySem.F.slot_list_lt ⟨_,ho,rfl⟩ PySem.F.entry_list_lt (PySem.F.args_list_lt_2 _ _) (Oo a b xs ys n n2 dd dd2 sl sl2 ns ms hx hy) ⟨ho,ho2,wpAny_truthy_bool h⟩
def Zcr(h:Heap)(kk:Value→Int)(v:Value):Prop:=∃(a:Addr) (ns:List Int) (xs:Array Value) (n:Nat) (dd:Option Addr) (sl:Array (Option Value)),v = .ref a∧h.get? a=some { cls:=.type "list",dict:=dd,data:=.seq xs n,slots:=sl }∧IntsAre xs.toList (kk v :: ns)
theorem Za5{kk:Value→Int}{vs:List Value}(hu:A.units < cLine)(hp:∀ v∈vs,Zcr s.heap kk v)(hi:∀ x∈vs,∀ y∈vs,kk x=kk y→x=y):Zil P w A s oneType' kk vs:=by
 intro x hx y hy E Q h;have inj:=hi x hx y hy;obtain⟨a,ns,xs,n,dd,sl,rfl,ho,hI⟩:=hp x hx;obtain⟨a2,ns2,xs2,n2,dd2,sl2,rfl,ho2,hI2⟩:=hp y hy;rw[Zd1];refine A6 ho ho2 hI hI2 hu ?_;rw[HT.lexLt_cons];by_cases c:kk (.ref a)=kk (.ref a2)
 ·have e:=inj c
  cases e;rw[ho] at ho2;cases ho2;rw[if_pos rfl];have e2:ns=ns2:=by
   have u:∀{l:List Value} {m1 m2:List Int},IntsAre l m1→IntsAre l m2→m1=m2:=by
    intro l
    induction l with
    | nil=>intro m1 m2 h1 h2;cases h1;cases h2;rfl
    | cons v r ih=>
     intro m1 m2 h1 h2;cases h1 with
     | cons n1 t1 q1=>
      cases h2 with
      | cons n2 t2 q2=>rw[ih q1 q2]
   have:=u hI hI2;injection this
  subst e2;have irr:∀ l:List Int,HT.lexLt l l=false:=by
   intro l
   induction l with
   | nil=>rfl
   | cons x r ih=>rw[HT.lexLt_cons,if_pos rfl];exact ih
  rw[irr];rw[Zd (Int.lt_irrefl _)] at h;exact h
 ·rw[if_neg c]
  exact h
theorem Zav{kk:Value→Int}{vs:List Value}(hp:∀ v∈vs,Zcr s.heap kk v)(h2:2≤vs.length){Q:SortKind→Shared→Prop}(h:Q oneType' s):wpAny (model P w) A (keyKind' vs.toArray) Q E s:=by
 rw[keyKind'_eq,List.mapM_toArray];have ty:∀ v∈vs,s.TypeIs v "list":=fun v hv=>by
  obtain⟨a,ns,xs,n,dd,sl,rfl,ho,hI⟩:=hp v hv;exact⟨_,ho,rfl⟩
 refine Zc ?_;rw[map_eq_pure_bind];refine Zc (Be (g:=fun _=>(none:Option Value)) (fun x hx Q q=>?_) (wpAny_pure ?_))
 ·rw[Kr]
  refine Zc (wpAny_typeOf (ty x hx) ?_);rw[if_pos (by decide)];exact wpAny_pure q
 obtain⟨v0,r,rfl⟩:∃ v0 r,vs=v0 :: r:=by
  cases vs with
  | nil=>exact absurd h2 (by decide)
  | cons v r=>exact⟨v,r,rfl⟩
 have e1:(((v0 :: r).map fun _=>(none:Option Value)).toArray.all fun x=>x.isSome)=false:=by
  rw[List.all_toArray];rfl
 rw[e1,if_neg Zq];have e2:((((v0 :: r).map fun _=>(none:Option Value)).toArray[0]?.bind id).isSome)=false:=rfl;rw[e2,if_neg Zq];refine Zc ?_;rw[oneTypeOnly'_eq];refine Zc ?_;rw[List.mapM_toArray,map_eq_pure_bind];refine Zc (Be (g:=fun _=>Value.type "list") (fun y hy Q q=>wpAny_typeOf (ty y hy) q) (wpAny_pure ?_));have hall:(((v0 :: r).map fun _=>Value.type "list").toArray.all fun y=>y == Value.type "list")=true:=by
  rw[List.all_toArray,List.all_map,List.all_eq_true];intro _ _;rfl
 have h0:((v0 :: r).map fun _=>Value.type "list").toArray[0]? = some (Value.type "list"):=rfl;rw[h0];dsimp only;rw[hall];exact wpAny_pure (wpAny_pure h)
end
theorem Mb{X:Cx}(hu:X.A.units+64 < cLine):Ui X (.builtin "sorted") (fun xs H Q=>∃(a:Addr) (ps:List Addr) (g:Addr→Int),xs=[.ref a]∧SqL X.K H a (ps.map V.ref)∧ps.length < 64∧(∀ p∈ps,∃ ns:List Int,SqL X.K H p ((g p :: ns).map V.int))∧(ps.map g).Nodup ∧
  ∀(l:Addr) (qs:List Addr),H l=none→qs.Perm ps→(qs.Pairwise fun p q=>g p < g q)→Q (.ref l) (upd H l (.lst (qs.map V.ref)))):=by
 intro pins s σ H xs us Q I r h;obtain⟨a,ps,g,rfl,hS,h64,hP,ndg,q⟩:=h;obtain⟨u,rfl,ru⟩:=U2 r;cases ru;obtain⟨its,vi,pl,hz⟩:=I.list hS;have ei:∀(ps:List Addr) (its:List Value),Vals (ps.map V.ref) its→its=ps.map Value.ref:=by
  intro ps
  induction ps with
  | nil=>intro its z;cases z;rfl
  | cons p r ih=>
   intro its z;cases z with
   | cons z1 z2=>
    have e:_=Value.ref p:=z1;rw[e,ih _ z2];rfl
 have e:=ei ps its vi;subst e;obtain⟨kk,hkk⟩:∃ kk:Value→Int,∀ p,kk (.ref p)=g p:=⟨fun v=>match v with | .ref p=>g p | _=>0,fun _=>rfl⟩;have ek:(ps.map Value.ref).map kk=ps.map g:=by
  rw[Z1];exact Jq fun p _=>hkk p
 have lists:∀ v∈ps.map Value.ref,Zcr s.heap kk v:=by
  intro v hv;obtain⟨p,hp,rfl⟩:=Zw.mp hv;obtain⟨ns,hT⟩:=hP p hp;obtain⟨its2,v2,pl2,_⟩:=I.list hT;obtain⟨⟨cls,dd,data,sl⟩,ho,hc,n,hd⟩:=Ue pl2;simp only at hc hd;subst hc hd;refine⟨p,ns,its2.toArray,n,dd,sl,rfl,ho,?_⟩;rw[hkk];exact Yq v2
 have inj:∀ x∈ps.map Value.ref,∀ y∈ps.map Value.ref,kk x=kk y→x=y:=by
  intro x hx y hy e;have nd:((ps.map Value.ref).map kk).Nodup:=by rw[ek];exact ndg
  obtain⟨i,hi,e1⟩:=Z2.mp hx;obtain⟨j,hj,e2⟩:=Z2.mp hy;have h1:i < ((ps.map Value.ref).map kk).length:=by rw[Zf];exact hi
  have h2:j < ((ps.map Value.ref).map kk).length:=by rw[Zf];exact hj
  have ij:=Zam nd h1 h2 (by rw[List.getElem_map (f:=kk),List.getElem_map (f:=kk),e1,e2,e]);subst ij;rw[← e1,← e2]
 refine Zc2 (kd:=oneType') (kk:=kk) (Ue pl) (by rw[Zf];exact h64) (by rw[ek];exact ndg) (fun A' h' hA k=>?_) fun out hp hr=>?_
 ·have pr:∀ v∈ps.map Value.ref,Zcr h' kk v:=fun v hv=>by
   obtain⟨p,ns,xs,n,dd,sl,rfl,ho,e⟩:=lists v hv;exact⟨p,ns,xs,n,dd,sl,rfl,k _ _ ho,e⟩
  exact⟨fun h2 E Q q=>Zav pr h2 q,Za5 (by omega) pr inj⟩
 ·obtain⟨qs,eq,pq⟩:∃ qs:List Addr,out.toList=qs.map Value.ref∧qs.Perm ps:=by
   have un:∀ l:List Value,(∀ v∈l,∃ p,v=Value.ref p)→∃ qs:List Addr,l=qs.map Value.ref:=by
    intro l
    induction l with
    | nil=>intro _;exact⟨[],rfl⟩
    | cons v r ih=>
     intro hv;obtain⟨p,rfl⟩:=hv v Zt;obtain⟨qs,rfl⟩:=ih fun y hy=>hv y (Zu _ hy);exact⟨p :: qs,rfl⟩
   obtain⟨qs,e⟩:=un out.toList fun v hv=>by
    obtain⟨p,_,rfl⟩:=Zw.mp (hp.mem_iff.mp hv);exact⟨p,rfl⟩
   refine⟨qs,e,?_⟩;rw[e] at hp;have z:=hp.map fun v=>match v with | .ref p=>p | _=>0
   rw[Z1,Z1] at z;have c:((fun v=>match v with | .ref p=>p | _=>0) ∘ Value.ref:Addr→Addr)=id:=rfl
   rwa [c,List.map_id,List.map_id] at z
  obtain⟨e,he⟩:=sortedAll_at s.heap (ps.map Value.ref) out;have hf:H (s.heap.objs.size+1)=none:=I.hok.fresh (Nat.le_succ _);have vq:∀ qs:List Addr,Vals (qs.map V.ref) (qs.map Value.ref):=by
   intro qs
   induction qs with
   | nil=>exact .nil
   | cons p r ih=>exact .cons rfl ih
  have rq:qs.Pairwise fun p q=>g p < g q:=by
   rw[eq,List.pairwise_map] at hr;exact hr.imp fun {p q} h=>by rw[hkk,hkk] at h;exact h
  refine⟨.ref (s.heap.objs.size+1),upd H (s.heap.objs.size+1) (.lst (qs.map V.ref)),I.laid (t':=s.toks) (fun b u q=>sortedAll_old q) (Nat.le_succ _) ⟨?_,qs.map Value.ref,e,vq qs,?_⟩,rfl,q _ qs hf pq rq⟩
  ·rw[Zf,pq.length_eq,sizeLine_eq]
   omega
  ·rw[he,← eq]
theorem Zan{α:Type}{l:List α}(nd:l.Nodup){i j:Nat}{c:α}(a:l[i]? = some c)(b:l[j]? = some c):i=j:=by
 obtain⟨hi,ei⟩:=Zh.mp a;obtain⟨hj,ej⟩:=Zh.mp b;exact Zam nd hi hj (ei.trans ej.symm)
theorem Za3{K:W.Frag}{tt:TT}{te:TE}{σ0:St}{H1:Hp}{Q:V→Hp→Prop}{a:Addr}{xs:List V}(p:V→Bool)(G:Addr→V→V→Hp→Prop)(hS:SqL K H1 a xs)(hn:xs.length≤sizeLine)
  (hG:∀ l x v H H',G l x v H→Same H H'→G l x v H') (hU:∀ l x v H zs ys,G l x v H→H l=some (.lst zs)→G l x v (upd H l (.lst ys)))
  (hT:∀ x H,x∈xs→Same H1 H→∀ R:Bool→Hp→Prop,(∀ H',Same H H'→R (p x) H')→tt (σ0.set 0 (some x)) H R)
  (hE:∀ x H l vs,x∈xs→p x=true→Same H1 H→H1 l=none→H l=some (.lst vs)→∀ R:V→Hp→Prop,(∀ v H',Same H H'→G l x v H'→R v H')→te (σ0.set 0 (some x)) H R)
  (hQ:∀ l H vs,Same H1 H→H1 l=none→H l=some (.lst vs)→vs.length=(xs.filter p).length→(∀(i:Nat) (v x:V),vs[i]? = some v→(xs.filter p)[i]? = some x→G l x v H)→Q (.ref l) H):Xr (Uv 0) tt te σ0 (Itl K a) H1 Q:=by
 intro l hl;refine⟨fun i m σ H=>m=xs.length - i∧i≤xs.length∧Same H1 H∧(∃ vs,H l=some (.lst vs)∧vs.length=((xs.take i).filter p).length∧∀(j:Nat) (v x:V),vs[j]? = some v→((xs.take i).filter p)[j]? = some x→G l x v H)∧∀ o,σ.set 0 o=σ0.set 0 o,⟨xs.length,by simp,Nat.zero_le _,Zx hl _,⟨[],Zn,rfl,fun j v x e=>nomatch e⟩,fun _=>rfl⟩,?_⟩;rintro i m σ H ⟨rfl,hi,sm,⟨vs,hL,hvl,hvs⟩,hσ⟩;by_cases lt:i < xs.length
 ·have ex:xs[i]? = some xs[i]:=Za lt
  refine .inr ⟨⟨xs,_,sm.seq hS,ex⟩,fun x H' y=>?_⟩;obtain⟨rfl,y2⟩:=y;have hx:xs[i]? = some x:=y2 xs (sm.seq hS);have hxm:=Zg hx;unfold Uv;dsimp only;rw[hσ];have er:(xs.take (i+1)).filter p=(xs.take i).filter p++(if p x=true then [x] else []):=by
   rw[List.take_succ,hx,List.filter_append];show _++List.filter p [x]=_;by_cases hp:p x=true
   ·rw[if_pos hp,List.filter_cons_of_pos hp,List.filter_nil]
   ·rw[if_neg hp,List.filter_cons_of_neg hp,List.filter_nil]
  have lf:vs.length < sizeLine:=by
   rw[hvl];have:=List.length_filter_le p (xs.take i);rw[List.length_take] at this;omega
  refine hT x H' hxm sm _ fun H2 s2=>?_;by_cases hp:p x=true
  ·rw[if_pos hp]
   refine hE x H2 l vs hxm hp (sm.trans s2) hl (s2 _ _ hL) _ fun v H3 s3 hv=>⟨vs,s3 _ _ (s2 _ _ hL),lf,xs.length - (i+1),by omega,rfl,lt,Ux hl (sm.trans (s2.trans s3)) _,⟨vs++[v],Zn,by rw[er,if_pos hp,Zs,Zs,hvl];rfl,fun j u z hu hz=>?_⟩,fun o=>List.set_set _⟩;refine hU l z u H3 vs _ ?_ (s3 _ _ (s2 _ _ hL));rw[er,if_pos hp] at hz;by_cases q:j < vs.length
   ·rw[Ji q] at hu
    rw[Ji (by rw[← hvl];exact q)] at hz;exact hG l z u H' H3 (hvs j u z hu hz) (s2.trans s3)
   ·have:=(Zh.mp hu).1
    rw[Zs,List.length_singleton] at this;have e:j=vs.length:=by omega
    subst e;rw[Jd (Nat.le_refl _),Nat.sub_self] at hu;rw[hvl,Jd (Nat.le_refl _),Nat.sub_self] at hz;cases hu;cases hz;exact hv
  ·rw[if_neg hp]
   refine⟨xs.length - (i+1),by omega,rfl,lt,sm.trans s2,⟨vs,s2 _ _ hL,by rw[er,if_neg hp,Jk];exact hvl,fun j u z hu hz=>?_⟩,fun o=>List.set_set _⟩;rw[er,if_neg hp,Jk] at hz;exact hG l z u H' H2 (hvs j u z hu hz) s2
 ·have e:i=xs.length:=by omega
  subst e;rw[List.take_length] at hvl hvs;exact .inl ⟨⟨xs,sm.seq hS,Nat.le_refl _⟩,hQ l H vs sm hl hL hvl hvs⟩
end L2
namespace My
open PySem L2
abbrev Zmn:Stmt:=top 28
abbrev Zjd:Stmt:=top 29
abbrev Zac:Stmt:=top 30
section
variable{P:Program}{w:World}{K:W.Frag}{mg:Str→Option Value}{base:Heap}{f g:Addr}{fd gd:FuncData}
def X3(n:Nat)(hs:List Nat)(lead:Nat)(ys:List Nat):List Nat:=ys++((List.range hs.length).filter fun i=>decide (i≠(lead+ys.length) % n)).flatMap fun i=>Jx (hs.getD i 0)
theorem Bw{n:Nat}{hs:List Nat}{lead:Nat}{ys:List Nat}(h32:∀ h∈hs,h < 4294967296){c:Nat}:c∈X3 n hs lead ys↔c∈ys∨∃ i h,hs[i]? = some h∧i≠(lead+ys.length) % n∧h.testBit c=true:=by
 unfold X3;rw[Jh,List.mem_flatMap];refine or_congr Iff.rfl ?_;constructor
 ·rintro⟨i,hi,hc⟩
  obtain⟨i1,i2⟩:=List.mem_filter.mp hi;have il:=Z8.mp i1;have e:hs[i]? = some (hs.getD i 0):=by rw[Zj,Za il];rfl
  exact⟨i,_,e,Z4 i2,(Y8 (h32 _ (Zg e))).mp hc⟩
 ·rintro⟨i,h,e,ne,hb⟩
  have il:=(Zh.mp e).1;refine⟨i,List.mem_filter.mpr ⟨Z8.mpr il,Ze ne⟩,?_⟩;rw[Zj,e];exact(Y8 (h32 _ (Zg e))).mpr hb
def J2(fx:Fx)(t:Option Nat)(u:Nat):List Nat:=(Ud fx (decide (t=some u))).map fun v=>8 * u+v
def U0(oth cs:List Nat)(i:Nat):Nat:=(cs.take i).countP fun x=>decide (x∈oth)
def R6(oth cs:List Nat)(c:Nat):Nat:=U0 oth cs (pos c cs)
def Mv(oth cho cs:List Nat)(i k:Nat):List Nat:=(cs.take i).filter fun c=>decide (c∈cho) && decide (R6 oth cs c=k)
def Xd(oth cho cs:List Nat)(i:Nat):List (List Nat):=(List.range (U0 oth cs i+1)).map (Mv oth cho cs i)
section
variable{oth cho cs:List Nat}
theorem R0{i j:Nat}(h:i≤j):U0 oth cs i≤U0 oth cs j:=by
 unfold U0;have e:cs.take i=(cs.take j).take i:=by rw[List.take_take,Nat.min_eq_left h]
 rw[e];exact(List.take_sublist _ _).countP_le
theorem Q6{i c:Nat}(e:cs[i]? = some c):U0 oth cs (i+1)=U0 oth cs i+(if c∈oth then 1 else 0):=by
 unfold U0;rw[List.take_add_one,e,List.countP_append]
 congr 1
 show List.countP _ [c]=_;rw[List.countP_singleton];by_cases q:c∈oth
 ·rw[if_pos q,Ze q]
  rfl
 ·rw[if_neg q,Zd q]
  rfl
theorem Oc(nd:cs.Nodup){i c:Nat}(e:cs[i]? = some c):pos c cs=i:=Ke nd (Uz (Zg e)).1 e
theorem Ze2(nd:cs.Nodup){i c:Nat}(h:c∈cs.take i):pos c cs < i∧c∈cs:=by
 obtain⟨j,hj,e⟩:=Z2.mp h;rw[List.length_take] at hj;have e2:cs[j]? = some c:=by
  have:=Za (l:=cs.take i) (i:=j) (by rw[List.length_take];exact hj);rw[e,List.getElem?_take] at this;rw[if_pos (by omega)] at this;exact this
 exact⟨by rw[Oc nd e2];omega,Zg e2⟩
theorem B4{i c:Nat}(e:cs[i]? = some c)(k:Nat):Mv oth cho cs (i+1) k=Mv oth cho cs i k++(if c∈cho∧R6 oth cs c=k then [c] else []):=by
 unfold Mv;rw[List.take_add_one,e,List.filter_append]
 congr 1
 show List.filter _ [c]=_;by_cases q:c∈cho∧R6 oth cs c=k
 ·rw[if_pos q,List.filter_cons_of_pos (by rw[Ze q.1,Ze q.2];rfl),List.filter_nil]
 ·rw[if_neg q,List.filter_cons_of_neg,List.filter_nil]
  intro z;rw[Bool.and_eq_true_iff] at z;exact q ⟨Z4 z.1,Z4 z.2⟩
theorem Zns(nd:cs.Nodup){i c:Nat}(e:cs[i]? = some c):R6 oth cs c=U0 oth cs i:=by unfold R6;rw[Oc nd e]
theorem Zhx(nd:cs.Nodup){i c:Nat}(e:cs[i]? = some c)(ho:c∈oth)(hc:c∉cho):Xd oth cho cs (i+1)=Xd oth cho cs i++[[]]:=by
 unfold Xd;rw[Q6 e,if_pos ho,List.range_succ,Ju]
 congr 1
 ·refine Jq fun k _=>?_
  rw[B4 e,if_neg (fun z=>hc z.1),Jk]
 ·show [Mv oth cho cs (i+1) (U0 oth cs i+1)]=[[]]
  congr 1
  rw[B4 e,if_neg (fun z=>hc z.1),Jk];unfold Mv;rw[List.filter_eq_nil_iff];intro x hx z;rw[Bool.and_eq_true_iff] at z;have l:=Z4 z.2;have p:=(Ze2 nd hx).1;have:R6 oth cs x≤U0 oth cs i:=R0 (by omega);omega
theorem Zhy(nd:cs.Nodup){i c:Nat}(e:cs[i]? = some c)(ho:c∉oth)(hc:c∈cho):Xd oth cho cs (i+1)=(Xd oth cho cs i).set (U0 oth cs i) (Mv oth cho cs i (U0 oth cs i)++[c]):=by
 unfold Xd;rw[Q6 e,if_neg ho,Nat.add_zero];apply Ua;intro k;rw[Zl];by_cases hk:k < U0 oth cs i+1
 ·rw[Yk hk]
  show some (Mv oth cho cs (i+1) k)=_;rw[B4 e,Zns nd e];by_cases q:U0 oth cs i=k
  ·subst q
   rw[if_pos ⟨hc,rfl⟩,List.getElem?_set_self (by rw[Zf,Jb];omega)]
  ·rw[if_neg (fun z=>q z.2),Jk,List.getElem?_set_ne q,Zl,Yk hk]
   rfl
 ·rw[Xq (by rw[Jb];omega),Xq (by rw[Y0,Zf,Jb];omega)]
  rfl
theorem Zk1{i c:Nat}(e:cs[i]? = some c)(ho:c∉oth)(hc:c∉cho):Xd oth cho cs (i+1)=Xd oth cho cs i:=by
 unfold Xd;rw[Q6 e,if_neg ho,Nat.add_zero];refine Jq fun k _=>?_;rw[B4 e,if_neg (fun z=>hc z.1),Jk]
theorem Tn(i:Nat):(Xd oth cho cs i).length=U0 oth cs i+1:=by unfold Xd;rw[Zf,Jb]
theorem Kf(i:Nat):U0 oth cs i≤cs.length:=by
 unfold U0;exact Nat.le_trans List.countP_le_length (by rw[List.length_take];omega)
theorem Zd8(i:Nat):(Xd oth cho cs i)[U0 oth cs i]? = some (Mv oth cho cs i (U0 oth cs i)):=by
 unfold Xd;rw[Zl,Yk (Nat.lt_succ_self _)];rfl
theorem mem_grp{k c:Nat}:c∈Mv oth cho cs cs.length k↔c∈cs∧c∈cho∧R6 oth cs c=k:=by
 unfold Mv;rw[List.take_length,List.mem_filter,Bool.and_eq_true_iff,decide_eq_true_eq,decide_eq_true_eq]
theorem Znr(c:Nat):R6 oth cs c≤U0 oth cs cs.length:=by
 unfold R6;by_cases q:pos c cs≤cs.length
 ·exact R0 q
 ·unfold U0
  rw[List.take_of_length_le (by omega),List.take_length];exact Nat.le_refl _
theorem Zhj(nd:cs.Nodup){a b:Nat}(ha:a∈cs)(hb:b∈cs)(ao:a∉oth)(bo:b∉oth):R6 oth cs a=R6 oth cs b↔∀ x∈oth,x∈cs→¬ ((pos a cs < pos x cs∧pos x cs < pos b cs)∨(pos b cs < pos x cs∧pos x cs < pos a cs)):=by
 have key:∀{a b:Nat},a∈cs→b∈cs→a∉oth→pos a cs≤pos b cs→(R6 oth cs a=R6 oth cs b↔∀ x∈oth,x∈cs→¬ (pos a cs < pos x cs∧pos x cs < pos b cs)):=by
  intro a b ha hb ao le;unfold R6;constructor
  ·intro e x hx hxc ⟨z1,z2⟩
   have s:=Q6 (oth:=oth) (Uz hxc).1;rw[if_pos hx] at s;have m1:=R0 (oth:=oth) (cs:=cs) (show pos a cs≤pos x cs by omega);have m2:=R0 (oth:=oth) (cs:=cs) (show pos x cs+1≤pos b cs by omega);omega
  ·intro h
   have step:∀ d,pos a cs+d≤pos b cs→U0 oth cs (pos a cs+d)=U0 oth cs (pos a cs):=by
    intro d
    induction d with
    | zero=>intro _;rfl
    | succ d ih=>
     intro hd;have bl:=(Zh.mp (Uz hb).1).1;have hl:pos a cs+d < cs.length:=by omega
     have e:=Za hl;have s:=Q6 (oth:=oth) e;rw[if_neg,Nat.add_zero] at s
     ·rw[← Nat.add_assoc,s]
      exact ih (by omega)
     ·intro z
      have p:=Oc nd e;by_cases d0:d=0
      ·subst d0
       have:cs[pos a cs+0]=a:=by
        have q:=(Uz ha).1;rw[Za (by omega)] at q;exact Zr q
       rw[this] at z;exact ao z
      ·exact h _ z (J3 hl) ⟨by omega,by omega⟩
   have:=step (pos b cs - pos a cs) (by omega);rw[Nat.add_sub_cancel' le] at this;exact this.symm
 rcases Nat.le_total (pos a cs) (pos b cs) with le | le
 ·rw[key ha hb ao le]
  exact⟨fun h x hx hc z=>z.elim (h x hx hc) (fun z=>by omega),fun h x hx hc z=>h x hx hc (.inl z)⟩
 ·rw[eq_comm,key hb ha bo le]
  exact⟨fun h x hx hc z=>z.elim (fun z=>by omega) (h x hx hc),fun h x hx hc z=>h x hx hc (.inr z)⟩
end
theorem X4{fx:Fx}(ok:fx.Ok)(b:Bool):(Ud fx b).Perm (List.range fx.h):=by
 cases b with
 | true=>exact ok.pt
 | false=>exact ok.pp
theorem Rq{fx:Fx}(ok:fx.Ok)(t:Option Nat)(u:Nat):(J2 fx t u).Nodup:=by
 unfold J2;have nd:(Ud fx (decide (t=some u))).Nodup:=(X4 ok _).nodup_iff.mpr List.nodup_range;exact List.Pairwise.map _ (fun a b h=>by omega) nd
theorem Xk{fx:Fx}(ok:fx.Ok){t:Option Nat}{u c:Nat}:c∈J2 fx t u↔c / 8=u∧c % 8 < fx.h:=by
 unfold J2;have h8:=ok.h8;rw[Zw];constructor
 ·rintro⟨v,hv,rfl⟩
  have:=Z8.mp ((X4 ok _).mem_iff.mp hv);omega
 ·rintro⟨h1,h2⟩
  exact⟨c % 8,(X4 ok _).mem_iff.mpr (Z8.mpr h2),by omega⟩
theorem Ze8{fx:Fx}(ok:fx.Ok)(t:Option Nat)(u:Nat):(J2 fx t u).length≤8:=by
 unfold J2;rw[Zf,Yd (X4 ok _)];exact ok.h8
def Ek(fx:Fx)(t:Option Nat)(oth:List Nat)(c:Nat):Nat:=R6 oth (J2 fx t (c / 8)) c
theorem Qz{fx:Fx}(ok:fx.Ok){t:Option Nat}{u c:Nat}(hu:c / 8=u)(hc:c % 8 < fx.h):pos c (J2 fx t u)=pos (c % 8) (Ud fx (decide (t=some u))):=by
 refine Oc (Rq ok t u) ?_;unfold J2;rw[Zl,(Uz ((X4 ok _).mem_iff.mpr (Z8.mpr hc))).1];show some (8 * u+c % 8)=some c
 congr 1
 omega
structure GsOk(fx:Fx)(t:Option Nat)(oth cho:List Nat)(n:Nat)(gss:List (List Nat)):Prop where
 up:∀ g∈gss,g≠[]∧g.Pairwise (· < ·)
 cl:∀ g∈gss,∃ u k,u < n∧∀ c,c∈g↔c∈cho∧c / 8=u∧Ek fx t oth c=k
 all:∀ c∈cho,c / 8 < n→∃ g∈gss,c∈g
 ap:gss.Pairwise fun a b=>∀ c,c∈a→c∉b
theorem GsOk.zero(fx:Fx)(t:Option Nat)(oth cho:List Nat):GsOk fx t oth cho 0 []:=⟨(fun g hg=>nomatch hg),(fun g hg=>nomatch hg),fun c _ h=>absurd h (Nat.not_lt_zero _),List.Pairwise.nil⟩
def Zfc(CT CG:Addr):Sp:=fun vs H Q _=>∃(gm x p:Addr) (t:Option Nat) (fx:Fx) (hs ys:List Nat) (lead m:Nat),vs=[.ref gm,.ref p]∧GamH CT CG fx t H gm x∧IsPl H p hs lead ys∧Plc fx hs lead ys m∧∀ l H',Same H H'→H l=none→H' l=some (.lst (vN (X3 fx.n hs lead ys)))→Q (.ref l) H'
abbrev Zpi:List Str:=["game","place","in_turn","cards","seat","hand"]
theorem scOth:FnScope Zpi ["game","place"] (Zp Zmn):=⟨rfl,rfl,rfl,by decide +kernel,rfl,by decide +kernel,by decide +kernel⟩
theorem Zjw{n:Nat}{hs:List Nat}{lead:Nat}{ys:List Nat}:∀ i,(((List.range i).filter fun j=>decide (j≠(lead+ys.length) % n)).flatMap fun j=>Jx (hs.getD j 0)).length≤32 * i:=by
 intro i
 induction i with
 | zero=>exact Nat.le_refl _
 | succ i ih=>
  rw[List.range_succ,List.filter_append,List.flatMap_append,Zs];have:((List.filter (fun j=>decide (j≠(lead+ys.length) % n)) [i]).flatMap fun j=>Jx (hs.getD j 0)).length≤32:=by
   by_cases q:i≠(lead+ys.length) % n
   ·rw[List.filter_cons_of_pos (by exact Ze q),List.filter_nil,List.flatMap_cons,List.flatMap_nil,Jk]
    unfold Jx;have:=List.length_filter_le (hs.getD i 0).testBit (List.range 32)
    rwa [Jb] at this
   ·rw[List.filter_cons_of_neg (by rw[Zd q];exact Zq),List.filter_nil]
    exact Nat.zero_le _
  omega
theorem Znc{k:Nat}{CT CG f1 f2:Addr}{d1 d2:FuncData}(F:Fun K "cards_of_others" "cards_of_others" Zmn f fd)(LT:Lib P w K mg base k "turn_at" ["game","place"] (Et CT CG) f1 d1)(LI:Lib P w K mg base k "cards_in" ["hand"] (Q3 K) f2 d2)(mLi:mg "list" = none)(me:mg "enumerate" = none) :
    FnOk P w K mg base Y6 (k+1) f fd ["game","place"] (Zfc CT CG):=by
  refine F.ok scOth (fun vs H Q E h=>?_) (fun cdv A outer s H vs Q E hr h=>?_)
  · obtain⟨gm,x,p,t,fx,hs,ys,lead,m,rfl,_⟩:=h
    rfl
  obtain⟨gm,x,p,t,fx,hs,ys,lead,m,rfl,G,hIp,Pl,q⟩:=h;refine⟨_,Zm (Z9 (i:=2) scOth.nd rfl (Or.inl rfl) (Z6 LT.ok hr rfl LT.mg LT.kp LT.bd .nil Jn (Zb (pv 0) (Zb (pv 1) Zk))))
    (Zm (Z9 (i:=3) scOth.nd rfl (Or.inl rfl) (J8 Uy rfl mLi J5 (Zb (Jo Jw (pv 1) Zo (fun _ _=>rfl)) Zk)))
    (Zm (Xi PassesOwn.never rfl (Am rfl me (Zb (Jo Jw (pv 1) Zo (fun _ _=>rfl)) Zk)) (N4 rfl (Yb (Jm (i:=4) scOth.nd rfl (Or.inl rfl)) (Yb (Jm (i:=5) scOth.nd rfl (Or.inl rfl)) Qu)))
      (Zv (Yh (Je Q5 (pv 4) (pv 2) (Js _)) (Zv (Qt (Xp Jr PySem.F.slot_list_extend PySem.F.type_list_extend Mn (pv 3) (Zb (Z6 LI.ok hr rfl LI.mg LI.kp LI.bd .nil Jn (Zb (pv 5) Zk)) Zk)))) Jz)))
    (Zv (Jj (pv 3))))),?_⟩
  have ok:=G.ok;have n4:fx.n≤4:=by rcases ok.n34 with e | e<;>omega
  have yl:=Pl.yl;have hl:=Pl.len;refine Jy (fun v H1=>Same H H1∧v=Qs fx lead ys m) (fun R hR=>⟨_,rfl,_,rfl,gm,x,p,t,fx,hs,ys,lead,m,rfl,G,hIp,Pl,fun H1 s1=>hR _ _ ⟨s1,rfl⟩⟩) (fun v H1 z=>?_);obtain⟨s1,rfl⟩:=z;obtain⟨hp,tp,h1,h2,h3⟩:=hIp.same s1;have a0:Xb [V.ref hp,V.int (lead:Nat),V.ref tp] 0=some (V.ref hp):=rfl;have a2:Xb [V.ref hp,V.int (lead:Nat),V.ref tp] 2=some (V.ref tp):=rfl;refine Jy (fun v H2=>∃ l,v = .ref l∧H1 l=none∧H2=upd H1 l (.lst (vN ys))) (fun R hR=>⟨_,rfl,p,_,_,_,rfl,rfl,SqT.of h1,a2,tp,_,rfl,.inr (SqT.of h3),fun l hl=>hR _ _ ⟨l,rfl,hl,rfl⟩⟩) (fun v H2 z=>?_);obtain⟨l,rfl,hlN,rfl⟩:=z;have s2:=Zx hlN (.lst (vN ys));refine⟨_,rfl,p,_,_,_,rfl,rfl,SqT.of (s2 _ _ h1),a0,hp,_,rfl,SqT.of (s2 _ _ h2),?_⟩;refine Mx (K:=K) (a:=hp) (xs:=vN hs) (fun i σ H'=>Same H1 H'∧∃(x4 x5:Option V),σ=[some (.ref gm),some (.ref p),some (Qs fx lead ys m),some (.ref l),x4,x5]∧H' l=some (.lst (vN (ys++((List.range i).filter fun j=>decide (j≠(lead+ys.length) % fx.n)).flatMap fun j=>Jx (hs.getD j 0)))))
    ⟨s2,none,none,rfl,by rw[Zn];simp⟩ (fun i σ H' z=>SqT.of (z.1 _ _ h2)) (fun i v r σ H' hv z hr1=>?_) (fun σ H' z=>?_)
  · obtain⟨s3,x4,x5,rfl,hL⟩:=z
    obtain⟨h,hh,rfl⟩:=Eb hv;have il:=(Zh.mp hh).1;have hh32:=Pl.h32 ok (Zg hh);have eg:hs.getD i 0=h:=by rw[Zj,hh];rfl
    have s4:=s3.trans (Zx hr1 (.tup [.int (i:Nat),.int (h:Nat)]));have hL4:upd H' r (.tup [.int (i:Nat),.int (h:Nat)]) l=some (.lst (vN (ys++((List.range i).filter fun j=>decide (j≠(lead+ys.length) % fx.n)).flatMap fun j=>Jx (hs.getD j 0)))):=by rw[Jf (Jv hL hr1)];exact hL
    refine⟨r,_,rfl,SqT.of Zn,rfl,_,_,rfl,_,_,rfl,rfl,?_⟩;have ll:=Zjw (n:=fx.n) (hs:=hs) (lead:=lead) (ys:=ys) i;have ext:(ys++((List.range (i+1)).filter fun j=>decide (j≠(lead+ys.length) % fx.n)).flatMap fun j=>Jx (hs.getD j 0))=(ys++((List.range i).filter fun j=>decide (j≠(lead+ys.length) % fx.n)).flatMap fun j=>Jx (hs.getD j 0))++(if i≠(lead+ys.length) % fx.n then Jx h else []):=by
      rw[List.range_succ,List.filter_append,List.flatMap_append,Ut]
      congr 2
      by_cases e:i≠(lead+ys.length) % fx.n
      · rw[if_pos e,List.filter_cons_of_pos (by exact Ze e),List.filter_nil,List.flatMap_cons,List.flatMap_nil,Jk,eg]
      · rw[if_neg e,List.filter_cons_of_neg (by rw[Zd e];exact Zq),List.filter_nil]
        rfl
    have c32:(Jx h).length≤32:=by
      unfold Jx;have:=List.length_filter_le h.testBit (List.range 32)
      rwa [Jb] at this
    by_cases m0:m=0
    · have tv:Qs fx lead ys m = .non:=by unfold Qs;rw[if_pos m0]
      have ce:Jx h=[]:=by
        have:=(Pl.le (Zg hh));have e:Xe 32 h=(Jx h).length:=rfl;exact Uh.mp (by omega)
      refine⟨_,rfl,_,rfl,(by rw[tv];rfl),_,rfl,No (b:=true) (by rw[tv];rfl) (U1 ?_)⟩;refine⟨_,rfl,.inl ⟨rfl,_,SqL.of hL4⟩,_,rfl,h,rfl,hh32,fun l5 H5 s5 hl5 hL5=>⟨l,l5,_,_,rfl,rfl,s5 _ _ hL4,hL5,?_,?_⟩⟩
      · show(vN _).length+(vN (Jx h)).length≤sizeLine
        rw[J0,J0,Zs];exact Nat.le_trans (by omega) (Jp 1000 (by decide))
      · refine⟨fun b o hb=>by rw[Jf (Jv hb hlN)];exact s5 _ _ (s4 _ _ hb),_,_,rfl,?_⟩
        rw[Zn,ext,ce];split<;>(unfold vN;simp [Za6,ce])
    · have tv:Qs fx lead ys m = .int (((lead+ys.length) % fx.n:Nat):Int):=by unfold Qs;rw[if_neg m0]
      refine⟨_,rfl,_,rfl,(by rw[tv];rfl),_,rfl,No (b:=decide (i≠(lead+ys.length) % fx.n)) (by
        rw[tv];show(!decide (V.int ((i:Nat):Int)=V.int (((lead+ys.length) % fx.n:Nat):Int)))=_;rw[Ol];by_cases e:i=(lead+ys.length) % fx.n
        · rw[Ze e,Zd (fun z=>z e)];rfl
        · rw[Zd e,Ze e];rfl) (N9 (fun e=>?_) (fun e=>?_))⟩
      · have e':=Z4 e
        refine⟨_,rfl,.inl ⟨rfl,_,SqL.of hL4⟩,_,rfl,h,rfl,hh32,fun l5 H5 s5 hl5 hL5=>⟨l,l5,_,_,rfl,rfl,s5 _ _ hL4,hL5,?_,?_⟩⟩
        · show(vN _).length+(vN (Jx h)).length≤sizeLine
          rw[J0,J0,Zs];exact Nat.le_trans (by omega) (Jp 1000 (by decide))
        · refine⟨fun b o hb=>by rw[Jf (Jv hb hlN)];exact s5 _ _ (s4 _ _ hb),_,_,rfl,?_⟩
          rw[Zn,ext,if_pos e'];unfold vN;rw[Ju (l₂:=Jx h)];rfl
      · have e':¬ i≠(lead+ys.length) % fx.n:=fun z=>by rw[Ze z] at e;exact e rfl
        refine⟨s4,_,_,rfl,?_⟩;rw[hL4,ext,if_neg e',Jk]
  · obtain⟨s3,x4,x5,rfl,hL⟩:=z
    rw[J0] at hL;exact⟨_,rfl,q l H' (s1.trans s3) (s1.free hlN) hL⟩
theorem Znp{ms:List Nat}{g:List Nat}(p:ms.Perm g)(nd:g.Nodup)(le:ms.Pairwise (·≤·)):ms.Pairwise (· < ·):=by
 have nd':ms.Nodup:=p.nodup_iff.mpr nd;exact(List.pairwise_and_iff.mpr ⟨le,nd'⟩).imp fun h=>Nat.lt_of_le_of_ne h.1 h.2
def Zfe(CT CG:Addr):Sp:=fun vs H Q _=>∃(gm x lc lo:Addr) (t:Option Nat) (fx:Fx) (u:Nat) (cho oth:List Nat),vs=[.ref gm,.int (u:Nat),.ref lc,.ref lo]∧GamH CT CG fx t H gm x∧u < 4∧H lc=some (.lst (vN cho))∧H lo=some (.lst (vN oth))∧(∀ c∈oth,c∉cho) ∧
 ∀ l as gss H',Same H H'→H l=none→H' l=some (.lst (as.map V.ref))→IsDl H' as gss→(∀ a∈as,H a=none)→gss.length≤9→(∀ g∈gss,g≠[]∧g.Pairwise (· < ·))→(∀ g∈gss,∃ k,∀ c,c∈g↔c∈J2 fx t u∧c∈cho∧R6 oth (J2 fx t u) c=k)→(∀ c∈cho,c∈J2 fx t u→∃ g∈gss,c∈g)→(gss.Pairwise fun a b=>∀ c,c∈a→c∉b)→Q (.ref l) H'
abbrev Zgo:List Str:=["game","suit","choice","others"]
abbrev Zpj:List Str:=["game","suit","choice","others","groups","height","card"]
theorem scGrp:FnScope Zpj Zgo (Zp Zjd):=⟨rfl,rfl,rfl,by decide +kernel,rfl,by decide +kernel,by decide +kernel⟩
structure Grps(H0 H:Hp)(lg:Addr)(bs:List Addr)(gs:List (List Nat)):Prop where
 l:H lg=some (.lst (bs.map V.ref))
 d:IsDl H bs gs
 nd:bs.Nodup
 nl:lg∉bs
 fl:H0 lg=none
 fb:∀ b∈bs,H0 b=none
theorem Grps.push{H0 H:Hp}{lg:Addr}{bs:List Addr}{gs:List (List Nat)}(g:Grps H0 H lg bs gs)(s:Same H0 H){b:Addr}(hb:H b=none):Grps H0 (upd (upd H b (.lst [])) lg (.lst (bs.map V.ref++[V.ref b]))) lg (bs++[b]) (gs++[[]]):=by
 have nb:b∉bs:=fun z=>by
  obtain⟨j,hj,e⟩:=Z2.mp z;obtain⟨cs,_,e2⟩:=g.d.2 j b (by rw[Za hj,e]);rw[hb] at e2;cases e2
 have nlb:b≠lg:=fun z=>by
  have:=g.l;rw[← z,hb] at this;cases this
 refine⟨by rw[Zn,Ju];rfl,⟨by rw[Zs,Zs,g.d.1];rfl,fun j a e=>?_⟩,?_,fun z=>?_,g.fl,fun a ha=>?_⟩
 ·by_cases q:j < bs.length
  ·rw[Ji q] at e
   obtain⟨cs,e1,e2⟩:=g.d.2 j a e;have am:=Zg e;refine⟨cs,by rw[Ji (by rw[← g.d.1];exact q)];exact e1,?_⟩;have n1:a≠lg:=fun z=>g.nl (z ▸ am);have n2:a≠b:=fun z=>nb (z ▸ am);rw[Jf n1,Jf n2];exact e2
  ·have:=(Zh.mp e).1
   rw[Zs,List.length_singleton] at this;have ej:j=bs.length:=by omega
   subst ej;rw[Jd (Nat.le_refl _),Nat.sub_self] at e;cases e;refine⟨[],by rw[g.d.1,Jd (Nat.le_refl _),Nat.sub_self];rfl,?_⟩;rw[Jf nlb,Zn];rfl
 ·exact List.nodup_append.mpr ⟨g.nd,List.nodup_cons.mpr ⟨Yr,List.nodup_nil⟩,fun x hx y hy=>by rw[Z7.mp hy];exact fun z=>nb (z ▸ hx)⟩
 ·rcases Jh.mp z with z | z
  ·exact g.nl z
  ·exact nlb (Z7.mp z).symm
 ·rcases Jh.mp ha with z | z
  ·exact g.fb a z
  ·rw[Z7.mp z]
   exact s.free hb
theorem Grps.add{H0 H:Hp}{lg:Addr}{bs:List Addr}{gs:List (List Nat)}(g:Grps H0 H lg bs gs){j:Nat}{b:Addr}{cs:List Nat}(hb:bs[j]? = some b)(hc:gs[j]? = some cs)(c:Nat):Grps H0 (upd H b (.lst (vN cs++[V.int (c:Nat)]))) lg bs (gs.set j (cs++[c])):=by
 have bm:=Zg hb;have n0:lg≠b:=fun z=>g.nl (z ▸ bm);refine⟨by rw[Jf n0];exact g.l,⟨by rw[Y0];exact g.d.1,fun i a e=>?_⟩,g.nd,g.nl,g.fl,g.fb⟩;by_cases q:j=i
 ·subst q
  rw[hb] at e;cases e;refine⟨cs++[c],List.getElem?_set_self (Zh.mp hc).1,?_⟩;rw[Zn];unfold vN;rw[Ju];rfl
 ·obtain⟨ds,e1,e2⟩:=g.d.2 i a e
  refine⟨ds,by rw[List.getElem?_set_ne q];exact e1,?_⟩;have n1:a≠b:=fun z=>q (Zan g.nd hb (z ▸ e));rw[Jf n1];exact e2
def X6(H:Hp)(a:Addr):List Nat:=match H a with | some (.lst vs)=>vs.map (fun v=>match v with | .int i=>i.toNat | _=>0) | _=>[]
theorem Qy{H:Hp}{a:Addr}{cs:List Nat}(h:H a=some (.lst (vN cs))):X6 H a=cs:=by
 unfold X6;rw[h];unfold vN;show(cs.map fun c=>V.int ((c:Nat):Int)).map _=cs;rw[Z1]
 conv=>rhs;rw[← List.map_id cs]
 exact Jq fun c _=>Zz c
def neV(H:Hp)(x:V):Bool:=match x with | .ref b=>decide (0 < (X6 H b).length) | _=>false
theorem Znh{k:Nat}{CT CG m3:Addr}{e3:FuncData}{t1:Tok}(F:Fun K "groups_of_suit" "groups_of_suit" Zjd f fd)(C:TabC K mg CT)(CGm:GamC K mg CG)(MO:Meth K CT "order" m3)(FO:FnOk P w K mg base Y6 k m3 e3 ["self","is_trump"] (Gf CT))(BO:Binds K e3 ["self","is_trump"] [])
  (mH:mg "HEIGHTS" = some (.int 8 t1)) (mS:mg "sorted" = none) (ml:mg "len" = none):FnOk P w K mg base Y6 (k+1) f fd Zgo (Zfe CT CG):=by
 refine F.ok scGrp (fun vs H Q E h=>?_) (fun cdv A outer s H vs Q E hr h=>?_)
 ·obtain⟨gm,x,lc,lo,t,fx,u,cho,oth,rfl,_⟩:=h
  rfl
 obtain⟨gm,x,lc,lo,t,fx,u,cho,oth,rfl,G,u4,hlc,hlo,dj,q⟩:=h;refine⟨_,Zm (Z9 (i:=4) scGrp.nd rfl (Or.inl rfl) (Uk (Zb (Uk Zk) Zk)))
  (Zm (Xi PassesOwn.never rfl (Yn (Us (Yj (pv 0) rfl) C.cl MO FO hr BO .nil Jn (Zb (X0 Uu (pv 1) (Yj (pv 0) rfl) (Js _)) Zk))) (Jm (i:=5) scGrp.nd rfl (Or.inl rfl))
   (Zm (Z9 (i:=6) scGrp.nd rfl (Or.inl rfl) (Ja Ym (Ja Xa (Yy (v:=.int 8) rfl mH ⟨_,rfl⟩) (pv 1)) (pv 5)))
   (Zm (Yh (Je Qd (pv 6) (pv 3) rfl) (Zv (Qt (Xp Jr Uc Ub Qe (pv 4) (Zb (Uk Zk) Zk)))) Jz)
   (Zv (Yh (Je Qd (pv 6) (pv 2) rfl) (Zv (Qt (Xp Jr Uc Ub Qe (Jo J9 (pv 4) (Zo9 Zl5 Zo) (fun _ _=>rfl)) (Zb (pv 6) Zk)))) Jz)))))
  (Zv (Jj (Y7 ["group"] [none] rfl (Blk.by (sc:=Zp Zjd) (N0:=Zpj) rfl rfl (by decide +kernel)) (Yn (pv 4)) (fun C s₀ H₀ ex=>Jm (i:=0) (show(["group"]:List Str).Nodup by decide +kernel) rfl (Or.inl rfl))
   (fun C s₀ H₀ ex=>N5 (Je E5 (Jl (show Ui _ (.builtin "len") (fun xs H Q=>∃ p ys,xs=[.ref p]∧(SqL K H p ys∨SqT K H p ys)∧Q (.int ys.length) H) from Jt) rfl ml Jg (Zb (pv 0) Zk)) Zo (Js _)))
   (fun C s₀ H₀ ex=>Jl (show Ui _ (.builtin "sorted") (fun xs H Q=>∃(a:Addr) (ns:List Int),xs=[.ref a]∧SqL K H a (ns.map V.int)∧ns.length < 64∧∀(l:Addr) (ms:List Int),H l=none→ms.Perm ns→ms.Pairwise (·≤·)→Q (.ref l) (upd H l (.lst (ms.map V.int)))) from Vb) rfl mS Yg (Zb (pv 0) Zk)))))),?_⟩
 have ok:=G.ok;obtain⟨dg,hG⟩:=id G.g;obtain⟨dx,po,to,hX,hX1,hX2⟩:=id G.t;refine Jy (fun v H1=>Same H H1∧∃ lg b,v = .ref lg∧Grps H H1 lg [b] [[]]) (fun R hR=>⟨Jp 0 (by decide),fun b hb=>⟨Jp 1 (by decide),fun lg hlg=>?_⟩⟩) (fun v H1 z=>?_)
 ·have sb:=Zx hb (.lst [])
  have sl:=Zx hlg (.lst [V.ref b]);have ne:b≠lg:=fun z=>by rw[← z,Zn] at hlg;cases hlg
  refine hR _ _ ⟨sb.trans sl,lg,b,rfl,Zn,⟨rfl,fun j a e=>?_⟩,List.nodup_cons.mpr ⟨Yr,List.nodup_nil⟩,fun z=>ne (Z7.mp z).symm,sb.free hlg,fun a ha=>by rw[Z7.mp ha];exact hb⟩
  match j with
  | 0=>
   cases e;exact⟨[],rfl,sl _ _ Zn⟩
 obtain⟨s1,lg,b0,rfl,g0⟩:=z;have nd:=Rq ok t u;have sl8:=Ze8 ok t u;have e0:[([]:List Nat)]=Xd oth cho (J2 fx t u) 0:=by
  unfold Xd U0 Mv;rw[List.take_zero];rfl
 rw[e0] at g0;have hG1:=s1 _ _ hG;refine⟨_,rfl,gm,CG,dg,_,_,rfl,hG1,CGm.cl,CGm.nT,Qf _ _,x,dx,_,rfl,s1 _ _ hX,Ri _ _ _,?_⟩;refine⟨_,rfl,_,rfl,gm,CG,dg,_,_,rfl,hG1,CGm.cl,CGm.nU,Xv _ _,Rp _ _,x,fx,decide (t=some u),?_,(G.t.same s1),fun l2 H2 s2 hl2 hL2=>?_⟩
 ·show V.ref x :: ([V.bl (decide (V.int ((u:Nat):Int)=V8 t))]++[])=[V.ref x,V.bl (decide (t=some u))]
  rw[Zbc];rfl
 have g2:Grps H H2 lg [b0] (Xd oth cho (J2 fx t u) 0):=⟨s2 _ _ g0.l,g0.d.same s2,g0.nd,g0.nl,g0.fl,g0.fb⟩;have s12:=s1.trans s2;refine⟨l2,rfl,⟨_,SqL.of hL2⟩,Ql (K:=K) (xs:=vN (Ud fx (decide (t=some u)))) (fun i σ H3=>Same H H3∧H3 l2=some (.lst (vN (Ud fx (decide (t=some u)))))∧l2≠lg∧∃(bs:List Addr) (x5 x6:Option V),σ=[some (.ref gm),some (.int (u:Nat)),some (.ref lc),some (.ref lo),some (.ref lg),x5,x6]∧l2∉bs∧Grps H H3 lg bs (Xd oth cho (J2 fx t u) i))
  ⟨s12,hL2,(fun z=>by rw[z,g0.l] at hl2;cases hl2),[b0],none,none,rfl,(fun z=>by
   have hb:=Z7.mp z;obtain⟨cs,_,e⟩:=g0.d.2 0 b0 rfl;rw[← hb,hl2] at e;cases e),g2⟩ (fun i σ H3 _ z=>SqL.of z.2.1) (fun i v σ H3 hv z=>?_) (fun σ H3 z=>?_)⟩
 ·obtain⟨s3,hL3,nlg,bs,x5,x6,rfl,nb2,g3⟩:=z
  obtain⟨vv,hvv,rfl⟩:=Eb hv;have ec:(J2 fx t u)[i]? = some (8 * u+vv):=by unfold J2;rw[Zl,hvv];rfl
  have vh:vv < 8:=Z3 (Z8.mp ((X4 ok _).mem_iff.mp (Zg hvv))) ok.h8;refine Jy (fun v H4=>H3=H4∧v = .int ((8 * u+vv:Nat):Int)) (fun R hR=>⟨_,rfl,_,_,rfl,rfl,.inl ⟨by decide,by decide⟩,_,rfl,_,_,rfl,rfl,hR _ _ ⟨rfl,by congr 1⟩⟩) (fun v H4 z=>?_);obtain⟨rfl,rfl⟩:=z;have hlo3:=s3 _ _ hlo;have hlc3:=s3 _ _ hlc;have lb:=g3.d.1;rw[Tn] at lb;have nl8:=Kf (oth:=oth) (cs:=J2 fx t u) i;refine Xg (fun σ H5=>Same H H5∧H5 l2=some (.lst (vN (Ud fx (decide (t=some u)))))∧∃ bs:List Addr,σ=[some (.ref gm),some (.int (u:Nat)),some (.ref lc),some (.ref lo),some (.ref lg),some (.int (vv:Nat)),some (.int ((8 * u+vv:Nat):Int))]∧l2∉bs∧Grps H H5 lg bs (if 8 * u+vv∈oth then Xd oth cho (J2 fx t u) i++[[]] else Xd oth cho (J2 fx t u) i)) (fun D' er nx=>?_) (fun σ H5 z=>?_)
  ·refine⟨_,rfl,_,rfl,lo,_,rfl,.inl (SqL.of hlo3),rfl,Xz _,_,rfl,?_⟩
   show if Mu (.int ((8 * u+vv:Nat):Int)) (vN oth)=true then _ else _
   rw[B3];refine N9 (fun e=>?_) (fun e=>?_)
   ·have ho:=Z4 e
    refine⟨_,rfl,.inl ⟨rfl,_,SqL.of g3.l⟩,Jp 0 (by decide),fun b hb=>⟨lg,bs.map V.ref,V.ref b,rfl,rfl,?_,?_,nx _ _ ⟨?_,?_,bs++[b],rfl,?_,?_⟩⟩⟩
    ·rw[Jf (Jv g3.l hb)]
     exact g3.l
    ·rw[Zf]
     exact Z3 (by omega) (Jp 1000 (by decide))
    ·exact Ux g3.fl (s3.trans (Zx hb _)) _
    ·rw[Jf nlg,Jf (Jv hL3 hb)]
     exact hL3
    ·intro z
     rcases Jh.mp z with z | z
     ·exact nb2 z
     ·have:=Z7.mp z
      rw[← this,hL3] at hb;cases hb
    ·rw[if_pos ho]
     exact g3.push s3 hb
   ·have ho:8 * u+vv∉oth:=fun z=>by rw[Ze z] at e;exact e rfl
    exact nx _ _ ⟨s3,hL3,bs,rfl,nb2,by rw[if_neg ho];exact g3⟩
  obtain⟨s5,hL5,bs,rfl,nb2,g5⟩:=z;have hlc5:=s5 _ _ hlc;refine⟨_,rfl,_,rfl,lc,_,rfl,.inl (SqL.of hlc5),rfl,Xz _,_,rfl,?_⟩;show if Mu (.int ((8 * u+vv:Nat):Int)) (vN cho)=true then _ else _
  rw[B3];refine N9 (fun e=>?_) (fun e=>?_)
  ·have hc:=Z4 e
   have ho:8 * u+vv∉oth:=fun z=>dj _ z hc;rw[if_neg ho] at g5;have lb5:=g5.d.1;rw[Tn] at lb5;have jl:U0 oth (J2 fx t u) i < bs.length:=by omega
   have eb:bs[U0 oth (J2 fx t u) i]? = some bs[U0 oth (J2 fx t u) i]:=Za jl;obtain⟨cs,e1,e2⟩:=g5.d.2 _ _ eb;have e1':=e1;rw[Zd8] at e1;cases e1;have at1:Xb (bs.map V.ref) (-1)=some (V.ref bs[U0 oth (J2 fx t u) i]):=by
    have hl:(bs.map V.ref).length=U0 oth (J2 fx t u) i+1:=by rw[Zf];omega
    have ie:ixN (bs.map V.ref).length (-1)=some (U0 oth (J2 fx t u) i):=by
     rw[hl];unfold ixN;simp;omega
    unfold Xb;rw[ie];show(bs.map V.ref)[U0 oth (J2 fx t u) i]? = _;rw[Zl,eb];rfl
   refine⟨_,rfl,_,rfl,lg,_,_,_,rfl,rfl,SqL.of g5.l,at1,.inl ⟨rfl,_,SqL.of e2⟩,_,rfl,_,_,_,rfl,rfl,e2,?_,?_⟩
   ·rw[J0]
    unfold Mv;refine J1 (List.length_filter_le _ _) ?_;rw[List.length_take];exact Z3 (by omega) (Jp 1000 (by decide))
   ·have bm:=Zg eb
    refine⟨Ux (g5.fb _ bm) s5 _,?_,nlg,bs,_,_,rfl,nb2,?_⟩
    ·have n1:l2≠bs[U0 oth (J2 fx t u) i]:=fun z=>nb2 (z ▸ bm)
     rw[Jf n1];exact hL5
    ·rw[Zhy nd ec ho hc]
     exact g5.add eb e1' _
  ·have hc:8 * u+vv∉cho:=fun z=>by rw[Ze z] at e;exact e rfl
   refine⟨s5,hL5,nlg,bs,_,_,rfl,nb2,?_⟩;by_cases ho:8 * u+vv∈oth
   ·rw[if_pos ho] at g5
    rw[Zhx nd ec ho hc];exact g5
   ·rw[if_neg ho] at g5
    rw[Zk1 ec ho hc];exact g5
 ·obtain⟨s3,hL3,nlg,bs,x5,x6,rfl,nb2,g3⟩:=z
  have el:(vN (Ud fx (decide (t=some u)))).length=(J2 fx t u).length:=by unfold J2;rw[J0,Zf]
  rw[el] at g3;have lb:=g3.d.1;rw[Tn] at lb;have nl8:=Kf (oth:=oth) (cs:=J2 fx t u) (J2 fx t u).length;have bk:∀(j:Nat) (b:Addr),bs[j]? = some b→H3 b=some (.lst (vN (Mv oth cho (J2 fx t u) (J2 fx t u).length j))):=fun j b e=>by
   obtain⟨cs,e1,e2⟩:=g3.d.2 j b e;have hj:=(Zh.mp e).1;unfold Xd at e1;rw[Zl,Yk (by omega)] at e1;cases e1;exact e2
  refine⟨_,rfl,lg,rfl,⟨_,SqL.of g3.l⟩,Za3 (K:=K) (xs:=bs.map V.ref) (neV H3) (fun l x v H'=>∃(b r:Addr) (gs ms:List Nat),x = .ref b∧v = .ref r∧r≠l∧H3 r=none∧H3 b=some (.lst (vN gs))∧H' r=some (.lst (vN ms))∧ms.Perm gs∧ms.Pairwise (·≤·)) (SqL.of g3.l) (by rw[Zf];exact Nat.le_trans (by omega) (Jp 1000 (by decide))) (fun l x v H' H'' g sm=>?_) (fun l x v H' zs ys g hl=>?_) (fun x H' hx sm R hR=>?_) (fun x H' l vs hx hp sm hl hL R hR=>?_) (fun l H4 vs s4 hl hL hvl hvs=>?_)⟩
  ·obtain⟨b,r,gs,ms,a1,a2,a0,a3,a4,a5,a6,a7⟩:=g
   exact⟨b,r,gs,ms,a1,a2,a0,a3,a4,sm _ _ a5,a6,a7⟩
  ·obtain⟨b,r,gs,ms,a1,a2,a0,a3,a4,a5,a6,a7⟩:=g
   exact⟨b,r,gs,ms,a1,a2,a0,a3,a4,by rw[Jf a0];exact a5,a6,a7⟩
  ·obtain⟨b,hb,rfl⟩:=Zw.mp hx
   obtain⟨j,hj,ej⟩:=Z2.mp hb;have e2:=bk j b (by rw[Za hj,ej]);refine⟨_,rfl,b,_,rfl,.inl (SqL.of (sm _ _ e2)),_,_,rfl,rfl,_,rfl,?_⟩;have z:=hR H' (Same.refl H');have e:neV H3 (V.ref b)=decide ((0:Int) < (((vN (Mv oth cho (J2 fx t u) (J2 fx t u).length j)).length:Nat):Int)):=by
    show decide (0 < (X6 H3 b).length)=_;rw[Qy e2,J0];exact decide_eq_decide.mpr ⟨fun h=>by omega,fun h=>by omega⟩
   rw[e] at z;exact z
  ·obtain⟨b,hb,rfl⟩:=Zw.mp hx
   obtain⟨j,hj,ej⟩:=Z2.mp hb;have e2:=bk j b (by rw[Za hj,ej]);have e2':=sm _ _ e2;rw[Qr] at e2';have gl:(Mv oth cho (J2 fx t u) (J2 fx t u).length j).length≤8:=by
    unfold Mv;refine Nat.le_trans (List.length_filter_le _ _) ?_;rw[List.length_take];omega
   refine⟨_,rfl,b,_,rfl,SqL.of e2',by rw[Zf];omega,fun r ms hr1 pm le=>?_⟩;obtain⟨ds,e3,e4,e5⟩:=Km pm;refine hR _ _ (Zx hr1 _) ⟨b,r,_,ds,rfl,rfl,(fun z=>by rw[z,hL] at hr1;cases hr1),sm.free hr1,e2,by rw[Zn,e3],e4,e5 le⟩
  ·obtain⟨as,rfl,has⟩:=Bp (fun i r=>∃(b:Addr) (gs ms:List Nat),((bs.map V.ref).filter (neV H3))[i]? = some (V.ref b)∧H3 r=none∧H3 b=some (.lst (vN gs))∧H4 r=some (.lst (vN ms))∧ms.Perm gs∧ms.Pairwise (·≤·)) vs 0 fun i v hv=>by
    have hi:i < ((bs.map V.ref).filter (neV H3)).length:=by rw[← hvl];exact(Zh.mp hv).1
    obtain⟨b,r,gs,ms,a1,a2,a0,a3,a4,a5,a6,a7⟩:=hvs i v _ hv (Za hi);refine⟨r,a2,b,gs,ms,?_,a3,a4,a5,a6,a7⟩;rw[Nat.zero_add,Za hi,a1]
   rw[Zf] at hvl;have each:∀(i:Nat) (r:Addr),as[i]? = some r→∃(b:Addr) (k:Nat),((bs.map V.ref).filter (neV H3))[i]? = some (V.ref b)∧bs[k]? = some b∧H3 r=none∧H4 r=some (.lst (vN (X6 H4 r)))∧(X6 H4 r)≠[]∧(X6 H4 r).Pairwise (· < ·)∧∀ c,c∈X6 H4 r↔c∈J2 fx t u∧c∈cho∧R6 oth (J2 fx t u) c=k:=fun i r hr=>by
    obtain⟨b,gs,ms,a1,a3,a4,a5,a6,a7⟩:=has i r hr;rw[Nat.zero_add] at a1;have hm:=Zg a1;obtain⟨hm1,hm2⟩:=List.mem_filter.mp hm;obtain⟨b',hb',eb'⟩:=Zw.mp hm1;cases eb';obtain⟨k,hk,ek⟩:=Z2.mp hb';have ek':bs[k]? = some b:=by rw[Za hk,ek]
    have e2:=bk k b ek';have eg:gs=Mv oth cho (J2 fx t u) (J2 fx t u).length k:=by rw[← Qy a4,Qy e2]
    subst eg;have dm:=Qy a5;have hne:0 < (X6 H3 b).length:=Z4 hm2;rw[Qy e2] at hne;refine⟨b,k,a1,ek',a3,by rw[dm];exact a5,?_,?_,fun c=>?_⟩
    ·rw[dm]
     intro z;rw[z] at a6;have:=a6.length_eq;simp at this;omega
    ·rw[dm]
     refine Znp a6 ?_ a7;unfold Mv;exact(List.Nodup.sublist (List.take_sublist _ _) nd).filter _
    ·rw[dm,a6.mem_iff,mem_grp]
   refine q l as (as.map (X6 H4)) H4 (s3.trans s4) (s3.free hl) hL ⟨by rw[Zf],fun j r e=>?_⟩ (fun r hr1=>?_) ?_ (fun g hg=>?_) (fun g hg=>?_) (fun c hc hcs=>?_) ?_
   ·obtain⟨_,_,_,_,_,h4,_⟩:=each j r e
    exact⟨X6 H4 r,by rw[Zl,e];rfl,h4⟩
   ·obtain⟨j,hj,ej⟩:=Z2.mp hr1
    obtain⟨_,_,_,_,h3,_⟩:=each j r (by rw[Za hj,ej]);exact s3.free h3
   ·rw[Zf,hvl]
    refine Nat.le_trans (List.length_filter_le _ _) ?_;rw[Zf];omega
   ·obtain⟨r,hr1,rfl⟩:=Zw.mp hg
    obtain⟨j,hj,ej⟩:=Z2.mp hr1;obtain⟨_,_,_,_,_,_,h5,h6,_⟩:=each j r (by rw[Za hj,ej]);exact⟨h5,h6⟩
   ·obtain⟨r,hr1,rfl⟩:=Zw.mp hg
    obtain⟨j,hj,ej⟩:=Z2.mp hr1;obtain⟨_,k,_,_,_,_,_,_,h7⟩:=each j r (by rw[Za hj,ej]);exact⟨k,h7⟩
   ·have kl:=Znr (oth:=oth) (cs:=J2 fx t u) c
    have hk:R6 oth (J2 fx t u) c < bs.length:=by omega
    have ek:bs[R6 oth (J2 fx t u) c]? = some bs[R6 oth (J2 fx t u) c]:=Za hk;have e2:=bk _ _ ek;have cm:c∈Mv oth cho (J2 fx t u) (J2 fx t u).length (R6 oth (J2 fx t u) c):=mem_grp.mpr ⟨hcs,hc,rfl⟩;have hm:V.ref bs[R6 oth (J2 fx t u) c]∈(bs.map V.ref).filter (neV H3):=List.mem_filter.mpr ⟨Zw.mpr ⟨_,J3 hk,rfl⟩,Ze (by rw[Qy e2];exact List.length_pos_of_mem cm)⟩;obtain⟨i,hi,ei⟩:=Z2.mp hm;have hi2:i < as.length:=by rw[hvl];exact hi
    obtain⟨b,k',h1,h2,h3,h4,h5,h6,h7⟩:=each i as[i] (Za hi2);rw[Za hi,ei] at h1;cases h1;have kk:R6 oth (J2 fx t u) c=k':=Zan g3.nd ek h2;exact⟨X6 H4 as[i],Zw.mpr ⟨_,J3 hi2,rfl⟩,(h7 c).mpr ⟨hcs,hc,kk⟩⟩
   ·rw[List.pairwise_map,List.pairwise_iff_getElem]
    intro i j hi hj hij c hci hcj;obtain⟨b,k1,p1,p2,_,_,_,_,p7⟩:=each i as[i] (Za hi);obtain⟨b',k2,r1,r2,_,_,_,_,r7⟩:=each j as[j] (Za hj);have e1:=((p7 c).mp hci).2.2;have e2:=((r7 c).mp hcj).2.2;rw[e1] at e2;subst e2;rw[p2] at r2;cases r2;have ndf:((bs.map V.ref).filter (neV H3)).Nodup:=(List.Pairwise.map _ (fun a b h z=>h (by injection z)) g3.nd).filter _;have:=Zan ndf p1 r1;omega
theorem GsOk.more{fx:Fx}(ok:fx.Ok){t:Option Nat}{oth cho:List Nat}{n:Nat}{gss gs:List (List Nat)}(g:GsOk fx t oth cho n gss)(pk:∀ c∈cho,c % 8 < fx.h)(up:∀ g∈gs,g≠[]∧g.Pairwise (· < ·))(cl:∀ g∈gs,∃ k,∀ c,c∈g↔c∈J2 fx t n∧c∈cho∧R6 oth (J2 fx t n) c=k)(all:∀ c∈cho,c∈J2 fx t n→∃ g∈gs,c∈g)(ap:gs.Pairwise fun a b=>∀ c,c∈a→c∉b):GsOk fx t oth cho (n+1) (gss++gs):=by
 refine⟨fun a ha=>?_,fun a ha=>?_,fun c hc h=>?_,List.pairwise_append.mpr ⟨g.ap,ap,fun a ha b hb c hca hcb=>?_⟩⟩
 ·rcases Jh.mp ha with z | z
  ·exact g.up a z
  ·exact up a z
 ·rcases Jh.mp ha with z | z
  ·obtain⟨u,k,hu,h⟩:=g.cl a z
   exact⟨u,k,by omega,h⟩
  ·obtain⟨k,h⟩:=cl a z
   refine⟨n,k,by omega,fun c=>?_⟩;rw[h c,Xk ok];constructor
   ·rintro⟨⟨h1,h2⟩,h3,h4⟩
    exact⟨h3,h1,by unfold Ek;rw[h1];exact h4⟩
   ·rintro⟨h1,h2,h3⟩
    exact⟨⟨h2,pk c h1⟩,h1,by unfold Ek at h3;rw[h2] at h3;exact h3⟩
 ·by_cases e:c / 8 < n
  ·obtain⟨a,ha,hca⟩:=g.all c hc e
   exact⟨a,List.mem_append_left _ ha,hca⟩
  ·obtain⟨a,ha,hca⟩:=all c hc ((Xk ok).mpr ⟨by omega,pk c hc⟩)
   exact⟨a,List.mem_append_right _ ha,hca⟩
 ·obtain⟨u,k,hu,h⟩:=g.cl a ha
  obtain⟨k2,h2⟩:=cl b hb;have e1:=((h c).mp hca).2.1;have e2:=(Xk ok).mp ((h2 c).mp hcb).1;omega
theorem GsOk.perm{fx:Fx}{t:Option Nat}{oth cho:List Nat}{n:Nat}{gss gs:List (List Nat)}(g:GsOk fx t oth cho n gss)(p:gs.Perm gss):GsOk fx t oth cho n gs:=
 ⟨fun a ha=>g.up a (p.mem_iff.mp ha),fun a ha=>g.cl a (p.mem_iff.mp ha),fun c hc h=>let ⟨a,ha,hca⟩:=g.all c hc h;⟨a,p.mem_iff.mpr ha,hca⟩,(p.pairwise_iff (fun {a b} h c hc hb=>h c hb hc)).mpr g.ap⟩
theorem Ot{g:List Nat}(h:g≠[]):g.headD 0∈g:=by
 match g,h with
 | x :: r,_=>exact Zt
theorem GsOk.heads{fx:Fx}{t:Option Nat}{oth cho:List Nat}{n:Nat}{gss:List (List Nat)}(g:GsOk fx t oth cho n gss):(gss.map fun a=>a.headD 0).Nodup:=by
 refine List.pairwise_map.mpr (List.Pairwise.imp_of_mem (fun {a b} ha hb h e=>?_) g.ap);exact h _ (Ot (g.up a ha).1) (e ▸ Ot (g.up b hb).1)
theorem Bv{fx:Fx}(ok:fx.Ok){t:Option Nat}{hs ys:List Nat}{lead m:Nat}(Pl:Plc fx hs lead ys m){c:Nat}(hc:c∈moveL fx t hs lead ys m):∃ h,hs[(lead+ys.length) % fx.n]? = some h∧h.testBit c=true∧c < 32∧c / 8 < fx.s∧c % 8 < fx.h∧m≠0∧c∈Qq fx t ys h:=by
 unfold moveL at hc;by_cases m0:m=0
 ·rw[if_pos m0] at hc
  cases hc
 ·rw[if_neg m0] at hc
  obtain⟨h,eh,_⟩:=Pl.turn ok;have eg:hs.getD ((lead+ys.length) % fx.n) 0=h:=by rw[Zj,eh];rfl
  rw[eg] at hc;have hm:=Zg eh;obtain⟨h1,h2⟩:=N6 (Pl.h32 ok hm) hc;obtain⟨p1,p2⟩:=Pl.pk c (U4 hm h1);exact⟨h,eh,h1,h2,p1,p2,m0,hc⟩
theorem Nk{fx:Fx}(ok:fx.Ok){t:Option Nat}{hs ys:List Nat}{lead m:Nat}(Pl:Plc fx hs lead ys m):∀ c∈X3 fx.n hs lead ys,c∉moveL fx t hs lead ys m:=fun c hc hm=>by
 obtain⟨h,eh,hb,_⟩:=Bv ok Pl hm;rcases(Bw fun h hh=>Pl.h32 ok hh).mp hc with z | ⟨i,g,eg,ne,gb⟩
 ·have:=Pl.apart (Zg eh) z
  rw[hb] at this;cases this
 ·have e1:=Qj Pl eh hb
  have e2:=Qj Pl eg gb;exact ne (e2.symm.trans e1)
def Du(CT CG:Addr):Sp:=fun vs H Q _=>∃(gm x p:Addr) (t:Option Nat) (fx:Fx) (hs ys:List Nat) (lead m:Nat),vs=[.ref gm,.ref p]∧GamH CT CG fx t H gm x∧TrB t∧IsPl H p hs lead ys∧Plc fx hs lead ys m ∧
 ∀ l as gss H',Same H H'→H l=none→H' l=some (.lst (as.map V.ref))→IsDl H' as gss→(∀ a∈as,H a=none)→l∉as→GsOk fx t (X3 fx.n hs lead ys) (moveL fx t hs lead ys m) fx.s gss→(gss.Pairwise fun a b=>a.headD 0 < b.headD 0)→gss.length≤40→Q (.ref l) H'
abbrev Zno:List Str:=["game","place","choice","others","groups","suit"]
theorem scAlike:FnScope Zno ["game","place"] (Zp Zac):=⟨rfl,rfl,rfl,by decide +kernel,rfl,by decide +kernel,by decide +kernel⟩
theorem Zg9{k:Nat}{CT CG f1 f2 f3:Addr}{d1 d2 d3:FuncData}(F:Fun K "alike" "alike" Zac f fd)(C:TabC K mg CT)(CGm:GamC K mg CG)(LM:Lib P w K mg base k "moves" ["game","place"] (Bk CT CG) f1 d1)(LO:Lib P w K mg base k "cards_of_others" ["game","place"] (Zfc CT CG) f2 d2)(LG:Lib P w K mg base k "groups_of_suit" Zgo (Zfe CT CG) f3 d3)(mr:mg "range" = none)(mS:mg "sorted" = none) :
  FnOk P w K mg base Y6 (k+1) f fd ["game","place"] (Du CT CG):=by
 refine F.ok scAlike (fun vs H Q E h=>?_) (fun cdv A outer s H vs Q E hr h=>?_)
 ·obtain⟨gm,x,p,t,fx,hs,ys,lead,m,rfl,_⟩:=h
  rfl
 obtain⟨gm,x,p,t,fx,hs,ys,lead,m,rfl,G,tb,hp,Pl,q⟩:=h;refine⟨_,Zm (Z9 (i:=2) scAlike.nd rfl (Or.inl rfl) (Z6 LM.ok hr rfl LM.mg LM.kp LM.bd .nil Jn (Zb (pv 0) (Zb (pv 1) Zk))))
  (Zm (Z9 (i:=3) scAlike.nd rfl (Or.inl rfl) (Z6 LO.ok hr rfl LO.mg LO.kp LO.bd .nil Jn (Zb (pv 0) (Zb (pv 1) Zk))))
  (Zm (Z9 (i:=4) scAlike.nd rfl (Or.inl rfl) (Uk Zk))
  (Zm (Xi PassesOwn.never rfl (Xc rfl mr (Zb (Yj (Yj (pv 0) rfl) rfl) Zk)) (Jm (i:=5) scAlike.nd rfl (Or.inl rfl))
   (Zv (Qt (Xp Jr PySem.F.slot_list_extend PySem.F.type_list_extend Mn (pv 4) (Zb (Z6 LG.ok hr rfl LG.mg LG.kp LG.bd .nil Jn (Zb (pv 0) (Zb (pv 5) (Zb (pv 2) (Zb (pv 3) Zk))))) Zk)))))
  (Zv (Jj (Jl (Mb hr.units) rfl mS Yg (Zb (pv 4) Zk))))))),?_⟩
 have ok:=G.ok;have s4:=ok.s4;refine Jy (fun v H1=>Same H H1∧∃ lc,v = .ref lc∧H1 lc=some (.lst (vN (moveL fx t hs lead ys m)))) (fun R hR=>⟨_,rfl,_,rfl,gm,x,p,t,fx,hs,ys,lead,m,rfl,G,tb,hp,Pl,fun l H' s1 _ hL=>hR _ _ ⟨s1,l,rfl,hL⟩⟩) (fun v H1 z=>?_);obtain⟨s1,lc,rfl,hlc⟩:=z;refine Jy (fun v H2=>Same H1 H2∧∃ lo,v = .ref lo∧H2 lo=some (.lst (vN (X3 fx.n hs lead ys)))) (fun R hR=>⟨_,rfl,_,rfl,gm,x,p,t,fx,hs,ys,lead,m,rfl,G.same s1,hp.same s1,Pl,fun l H' s2 _ hL=>hR _ _ ⟨s2,l,rfl,hL⟩⟩) (fun v H2 z=>?_);obtain⟨s2,lo,rfl,hlo⟩:=z;refine Jy (fun v H3=>∃ lg,v = .ref lg∧H2 lg=none∧H3=upd H2 lg (.lst [])) (fun R hR=>⟨Jp 0 (by decide),fun lg hlg=>hR _ _ ⟨lg,rfl,hlg,rfl⟩⟩) (fun v H3 z=>?_);obtain⟨lg,rfl,hlg,rfl⟩:=z;have s12:=s1.trans s2;have s3:=Zx hlg (.lst []);obtain⟨dg,hG⟩:=id (G.g.same (s12.trans s3));obtain⟨dx,po,to,hX,hX1,hX2⟩:=id (G.t.same (s12.trans s3));refine⟨_,rfl,gm,CG,dg,_,_,rfl,hG,CGm.cl,CGm.nT,Qf _ _,x,CT,dx,_,_,rfl,hX,C.cl,C.nS,Kk _ _ _,((fx.s:Nat):Int),rfl,by omega,by omega,?_⟩;refine Nl (n:=fx.s) (lo:=0) (fun i σ H'=>Same H2 H'∧∃(as:List Addr) (gss:List (List Nat)) (x5:Option V),σ=[some (.ref gm),some (.ref p),some (.ref lc),some (.ref lo),some (.ref lg),x5]∧H' lg=some (.lst (as.map V.ref))∧lg∉as∧IsDl H' as gss∧(∀ a∈as,H2 a=none)∧GsOk fx t (X3 fx.n hs lead ys) (moveL fx t hs lead ys m) i gss∧gss.length≤9 * i)
  ⟨s3,[],[],none,rfl,Zn,Yr,⟨rfl,fun j a e=>nomatch e⟩,(fun a ha=>nomatch ha),GsOk.zero _ _ _ _,Nat.le_refl _⟩ (fun i σ H' hi z=>?_) (fun σ H' z=>?_)
 ·obtain⟨s5,as,gss,x5,rfl,hL,nl,D,fr,gk,gl⟩:=z
  have s15:=s12.trans s5;refine⟨_,rfl,.inl ⟨rfl,_,SqL.of hL⟩,_,rfl,_,rfl,_,rfl,_,rfl,gm,x,lc,lo,t,fx,i,moveL fx t hs lead ys m,X3 fx.n hs lead ys,(by rw[Int.zero_add];rfl),G.same s15,by omega,s5 _ _ (s2 _ _ hlc),s5 _ _ hlo,Nk ok Pl,fun l bs gs H6 s6 hl6 hL6 D6 fr6 gl6 up6 cl6 all6 ap6=>?_⟩;refine⟨lg,l,_,_,rfl,rfl,s6 _ _ hL,hL6,?_,?_⟩
  ·rw[Zf,Zf,D.1,D6.1]
   exact Nat.le_trans (by omega) (Jp 1000 (by decide))
  have nb:∀ b∈bs,b≠lg:=fun b hb z=>by
   have:=fr6 b hb;rw[z,hL] at this;cases this
  refine⟨Ux hlg (s5.trans s6) _,as++bs,gss++gs,_,rfl,by rw[Zn,Ju],fun z=>?_,⟨by rw[Zs,Zs,D.1,D6.1],fun j a e=>?_⟩,fun a ha=>?_,gk.more ok (fun c hc=>(Bv ok Pl hc).choose_spec.2.2.2.2.1) up6 cl6 all6 ap6,by rw[Zs];omega⟩
  ·rcases Jh.mp z with z | z
   ·exact nl z
   ·exact nb lg z rfl
  ·by_cases w:j < as.length
   ·rw[Ji w] at e
    obtain⟨cs,e1,e2⟩:=D.2 j a e;have am:a≠lg:=fun z=>nl (z ▸ Zg e);exact⟨cs,by rw[Ji (by rw[← D.1];exact w)];exact e1,by rw[Jf am];exact s6 _ _ e2⟩
   ·rw[Jd (by omega)] at e
    obtain⟨cs,e1,e2⟩:=D6.2 _ a e;have am:a≠lg:=nb a (Zg e);exact⟨cs,by rw[Jd (by rw[← D.1];omega),← D.1];exact e1,by rw[Jf am];exact e2⟩
  ·rcases Jh.mp ha with z | z
   ·exact fr a z
   ·exact s5.free (fr6 a z)
 ·obtain⟨s5,as,gss,x5,rfl,hL,nl,D,fr,gk,gl⟩:=z
  have eg:gss=as.map (X6 H'):=by
   apply Ua;intro j;rw[Zl];cases ej:as[j]? with
   | none=>
    rw[List.getElem?_eq_none_iff] at ej;rw[Xq (by rw[← D.1];exact ej)];rfl
   | some a=>
    obtain⟨cs,e1,e2⟩:=D.2 j a ej;rw[e1];show some cs=some (X6 H' a);rw[Qy e2]
  have at_:∀ a∈as,H' a=some (.lst (vN (X6 H' a)))∧X6 H' a∈gss:=fun a ha=>by
   obtain⟨j,hj,ej⟩:=Z2.mp ha;obtain⟨cs,e1,e2⟩:=D.2 j a (by rw[Za hj,ej]);rw[Qy e2];exact⟨e2,Zg e1⟩
  refine⟨_,rfl,lg,as,fun a=>(((X6 H' a).headD 0:Nat):Int),rfl,SqL.of hL,by rw[D.1];omega,fun a ha=>?_,?_,fun l qs hl pq rq=>?_⟩
  ·obtain⟨e1,e2⟩:=at_ a ha
   have ne:=(gk.up _ e2).1
   match hd:X6 H' a,ne with
   | y :: r,_=>
    rw[hd,Qr] at e1;refine⟨r.map fun c=>((c:Nat):Int),SqL.of ?_⟩;show H' a=some (.lst (((((X6 H' a).headD 0:Nat):Int) :: r.map fun c=>((c:Nat):Int)).map V.int));rw[e1,hd];rfl
  ·have e:(as.map fun a=>(((X6 H' a).headD 0:Nat):Int))=(gss.map fun a=>a.headD 0).map fun c=>((c:Nat):Int):=by
    rw[eg,Z1,Z1];rfl
   rw[e];exact List.Pairwise.map _ (fun a b h z=>h (by omega)) gk.heads
  ·have s6:=Zx hl (.lst (qs.map V.ref))
   have s26:=s5.trans s6;have pg:(qs.map (X6 H')).Perm gss:=by rw[eg];exact pq.map _
   refine q l qs (qs.map (X6 H')) _ (s12.trans s26) (s12.free (s5.free hl)) Zn ⟨by rw[Zf],fun j a e=>?_⟩ (fun a ha=>s12.free (fr a (pq.mem_iff.mp ha))) (fun z=>?_) (gk.perm pg) ?_ (by rw[pg.length_eq];omega)
   ·exact⟨X6 H' a,by rw[Zl,e];rfl,s6 _ _ (at_ a (pq.mem_iff.mp (Zg e))).1⟩
   ·have:=(at_ l (pq.mem_iff.mp z)).1
    rw[hl] at this;cases this
   ·rw[List.pairwise_map]
    exact rq.imp fun {a b} h=>by
     have h':(((X6 H' a).headD 0:Nat):Int) < (((X6 H' b).headD 0:Nat):Int):=h;omega
end
end My
namespace L2
open PySem PySem.Spec PyProof.Rows
section
variable{X:Cx}
def Dc(v d:Addr):HO:=HO.ext fun h=>W.KdlKeysView h v d
theorem Zhk{P:Program}{w:World}{H:Hp}{h:Heap}{v d:Addr}(k:W.KdlKeysView h v d):ObjOk P w H h v (Dc v d):=
 ⟨k,let ⟨o,e,_⟩:=k;⟨o,e⟩,fun h1 h2 ⟨o,e,r⟩ q=>⟨o,q o e,r⟩⟩
theorem Zhe:MtR X "dict.keys" (fun x xs H Q=>∃(a:Addr) (kvs:List (U8×V)),x = .ref a∧xs=[]∧H a=some (.dK kvs)∧∀ v,H v=none→Q (.ref v) (upd H v (Dc v a))):=by
 intro pins s σ H x xs v us Q I rx rv h;obtain⟨a,kvs,rfl,rfl,hd,q⟩:=h;cases rx;cases rv;obtain⟨z,hs,vs,rel,dd⟩:=Zh6 I.hok hd;refine call_meetsIn PySem.F.slot_dict_keys dd.typeIs PySem.F.entry_dict_keys (PySem.F.args_dict_keys_1 _) (W.kdl_meets_keys (J4 X.prog X.w) a hs) ⟨⟨vs,dd⟩,?_⟩;exact⟨.ref s.heap.objs.size,_,I.laid (t':=s.toks) (a:=s.heap.objs.size) (o:=Dc s.heap.objs.size a) (fun b u e=>Zi _ e) (Nat.le_refl _) (Zhk ⟨_,Heap.get?_push_size _ rfl,rfl,rfl⟩),rfl,q _ (I.hok.fresh (Nat.le_refl _))⟩
theorem Zkp{P:Program}{w:World}{k:U8}{v:Value}(h:(J4 P w).is k v=true):RelV (kV k) v:=by
 have h':Ti k v=true:=h;cases k with
 | inl i=>
  cases v with
  | int j t=>
   have e:decide (i=j)=true∨decide (j=i)=true:=by first | exact .inl h' | exact .inr h'
   rcases e with e | e<;>exact⟨t,by rw[Z4 e]⟩
  | _=>cases h'
 | inr x=>
  cases v with
  | str y t=>
   have e:decide (x=y)=true∨decide (y=x)=true:=by first | exact .inl h' | exact .inr h'
   rcases e with e | e<;>exact⟨t,by rw[Z4 e]⟩
  | _=>cases h'
theorem Tx(hc:X.calm=true):Ui X (.type "list") (fun xs H Q=>∃(v a:Addr) (kvs:List (U8×V)),xs=[.ref v]∧H v=some (Dc v a)∧H a=some (.dK kvs)∧∀ l,H l=none→Q (.ref l) (upd H l (.lst (kvs.map fun kv=>kV kv.1)))):=by
 intro pins s σ H xs us Q I r h;obtain⟨v,a,kvs,rfl,hv,hd,q⟩:=h;obtain⟨u,rfl,ru⟩:=U2 r;cases ru;obtain⟨z,hs,vs,rel,dd⟩:=Zh6 I.hok hd;obtain⟨kv,_,_⟩:=(show ObjOk X.prog X.w H s.heap v (Dc v a) from I.hok v _ hv);obtain⟨ep,da⟩:∃ ep,s.heap.DictAt (J4 X.prog X.w) a vs ep:=dd.dictAt;have lv:=rel.length;refine W.kdl_call (W.kdl_keys (knd:=J4 X.prog X.w) (kvs:=vs) (ep:=ep)) (I.ok.hd hc) ⟨kv,da⟩ (by rw[← lv];exact z) fun h' tk acc' c' hk hS hacc=>?_;have hvals:Vals (kvs.map fun kv=>kV kv.1) acc'.toList:=by
  have key:∀(ks:List (U8×V)) (ws:List (U8×Value)) (us:List Value),KV ks ws→us.length=ws.length→(∀(j:Nat) (u:Value),us[j]? = some u→∃ k x,ws[j]? = some (k,x)∧(J4 X.prog X.w).is k u=true)→Vals (ks.map fun kv=>kV kv.1) us:=by
   intro ks ws us r
   induction r generalizing us with
   | nil=>
    intro hl _;cases us with
    | nil=>exact .nil
    | cons _ _=>cases hl
   | @cons p q ps qs hq t ih=>
    intro hl hu;cases us with
    | nil=>cases hl
    | cons u us=>
     refine .cons ?_ (ih us (Nat.succ.inj hl) fun j w hw=>hu (j+1) w hw);obtain⟨k,x,e1,e2⟩:=hu 0 u rfl;have e3:q=(k,x):=Zr e1;have e4:p.1=q.1:=hq.1;show RelV (kV p.1) u;rw[e4,e3];exact Zkp e2
  refine key kvs vs acc'.toList rel (by rw[Array.length_toList];exact hacc.1) fun j u hu=>?_;exact hacc.2 j u (by rw[← Array.getElem?_toList];exact hu)
 refine⟨.ref s.heap.objs.size,_,I.laid (t':=tk) hk (Nat.le_refl _) (show ObjOk X.prog X.w _ h' _ (.lst _) from⟨?_,acc'.toList,c',hvals,by simpa using hS⟩),rfl,q _ (I.hok.fresh (Nat.le_refl _))⟩;rw[Zf];exact z
end
end L2
namespace My
open PySem L2
abbrev S3:Stmt:=top 63
abbrev Zmm:Stmt:=top 65
section
variable{P:Program}{w:World}{K:W.Frag}{mg:Str→Option Value}{base:Heap}{f g:Addr}{fd gd:FuncData}
def Dm(K:W.Frag):Sp:=fun vs H Q _=>∃(a:Addr) (ns:List Int) (d:Addr) (f:Fx) (t:Option Nat) (sz:Nat),vs=[.ref a,.ref d]∧SqL K H a (ns.map V.int)∧ns.length≤63∧f.Ok∧IsRt H d f t sz∧sz≤100∧∀ steps:Nat,steps≤1000→f.n * sz≤steps+9→Q (.int (steps:Nat)) H
abbrev G4:List Str:=["_law_script","_law_rules_here"]
abbrev Znm:List Str:=["_law_script","_law_rules_here","_law_whole_here","_law_steps_here"]
theorem scSteps:FnScope Znm G4 (Zp S3):=⟨rfl,rfl,rfl,by decide +kernel,rfl,by decide +kernel,by decide +kernel⟩
theorem Zgx{k:Nat}{f1:Addr}{d1:FuncData}(F:Fun K "_law_steps" "_law_steps" S3 f fd)(LX:Lib P w K mg base k "_law_mixed" Eh (Ec K) f1 d1)(mMx:mg "max" = none):FnOk P w K mg base Y6 (k+1) f fd G4 (Dm K):=by
 refine F.ok scSteps (fun vs H Q E h=>?_) (fun cdv A outer s H vs Q E hr h=>?_)
 ·obtain⟨a,ns,d,fx,t,sz,rfl,_⟩:=h
  rfl
 obtain⟨a,ns,d,fx,t,sz,rfl,hS,h63,ok,hRt,sz100,q⟩:=h;refine⟨_,Zm (Z9 (i:=2) scSteps.nd rfl (Or.inl rfl) (Ja Xa (Jo Jw (pv 1) Zo (fun _ _=>rfl)) (Jo Jw (pv 1) Zo (fun _ _=>rfl))))
  (Zm (Z9 (i:=3) scSteps.nd rfl (Or.inl rfl) (Ja Y3 (Z6 LX.ok hr rfl LX.mg LX.kp LX.bd .nil Jn (Zb (pv 0) (Zb Zo Zk))) (Ja Ym (pv 2) Zo)))
  (Zm (Yh (Je Uu (Ja Y3 (Z6 LX.ok hr rfl LX.mg LX.kp LX.bd .nil Jn (Zb (pv 0) (Zb Zo Zk))) Zo) Zo (Js _)) (Zv (Z9 (i:=3) scSteps.nd rfl (Or.inl rfl) (Ja Y3 (Z6 LX.ok hr rfl LX.mg LX.kp LX.bd .nil Jn (Zb (pv 0) (Zb Zo Zk))) Zo))) Jz)
  (Zv (Jj (Jl (V6 rfl) rfl mMx PyProof.Rows.boot_max (Zb (pv 3) (Zb (Ja G9 (pv 2) Zo) Zk))))))),?_⟩
 obtain⟨lo,lp,lh,hD,hO,hP,hT⟩:=id hRt;obtain⟨g1,g2,g3,g4,g5,g6⟩:=@N1 fx t sz lo;have n4:fx.n≤4:=by rcases ok.n34 with e | e<;>omega
 have nz:fx.n * sz≤4 * 100:=Nat.mul_le_mul n4 sz100;refine Jy (fun v H1=>H1=H∧v = .int ((fx.n * sz:Nat):Int)) (fun R hR=>⟨_,rfl,d,_,_,_,rfl,rfl,SqT.of hD,g1,_,rfl,d,_,_,_,rfl,rfl,SqT.of hD,g3,_,_,rfl,rfl,.inl ⟨by omega,by omega⟩,hR _ _ ⟨rfl,by rw[Int.natCast_mul]⟩⟩) (fun v H1 z=>?_);obtain⟨rfl,rfl⟩:=z;generalize fx.n * sz=wh at nz q ⊢;refine Jy (fun v H2=>H2=H1∧∃ u:Nat,v = .int (u:Nat)∧u≤1000) (fun R hR=>⟨_,rfl,a,ns,7,rfl,hS,h63,by decide,by decide,fun z=>⟨_,rfl,_,_,rfl,rfl,_,_,rfl,rfl,(by show(0:Int) < ((wh:Nat):Int)+1;omega),?_⟩⟩) (fun v H2 z=>?_)
 ·have r0:=J7 z (show((wh:Nat):Int)+1≠0 by omega)
  have r1:=J6 z (show(0:Int) < ((wh:Nat):Int)+1 by omega);exact hR _ _ ⟨rfl,(z % (((wh:Nat):Int)+1)).toNat,Nr r0,by omega⟩
 obtain⟨rfl,u,rfl,u1⟩:=z;refine Xg (fun σ H3=>H3=H2∧∃ u:Nat,σ=[some (.ref a),some (.ref d),some (.int (wh:Nat)),some (.int (u:Nat))]∧u≤1000) (fun D' er nx=>?_) (fun σ H3 z=>?_)
 ·refine⟨_,rfl,a,ns,8,rfl,hS,h63,by decide,by decide,fun z=>⟨_,_,rfl,rfl,(show(0:Int) < 3 by decide),rfl,_,rfl,N9 (fun _=>⟨_,rfl,a,ns,7,rfl,hS,h63,by decide,by decide,fun z=>⟨_,_,rfl,rfl,(show(0:Int) < 3 by decide),?_⟩⟩) (fun _=>nx _ _ ⟨rfl,u,rfl,u1⟩)⟩⟩
  have r0:=J7 z (show(3:Int)≠0 by decide);have r1:=J6 z (show(0:Int) < 3 by decide);have e:V.int (z % 3)=V.int (((z % 3).toNat:Nat):Int):=Nr r0;refine nx _ _ ⟨rfl,(z % 3).toNat,?_,by omega⟩;rw[← e];rfl
 obtain⟨rfl,u,rfl,u1⟩:=z;refine⟨_,rfl,_,rfl,_,_,rfl,rfl,_,_,rfl,?_⟩;have e:V.int (if((wh:Nat):Int) - 9 > ((u:Nat):Int) then((wh:Nat):Int) - 9 else((u:Nat):Int))=V.int (((if((wh:Nat):Int) - 9 > ((u:Nat):Int) then((wh:Nat):Int) - 9 else((u:Nat):Int)).toNat:Nat):Int):=Nr (by split<;>omega);show Q (V.int (if((wh:Nat):Int) - 9 > ((u:Nat):Int) then((wh:Nat):Int) - 9 else((u:Nat):Int))) H3;rw[e];exact q _ (by split<;>omega) (by split<;>omega)
def Bd(a b c:Nat):Nat:=if c=a then b else if c=b then a else c
theorem Di(a b c:Nat):Bd a b (Bd a b c)=c:=by
 unfold Bd;by_cases e1:c=a
 ·subst e1
  rw[if_pos rfl];by_cases e2:b=c
  ·rw[if_pos e2];exact e2
  ·rw[if_neg e2,if_pos rfl]
 ·rw[if_neg e1]
  by_cases e2:c=b
  ·subst e2
   rw[if_pos rfl,if_pos rfl]
  ·rw[if_neg e2,if_neg e1,if_neg e2]
theorem Zgp{fx:Fx}(ok:fx.Ok){hs ys:List Nat}{lead m:Nat}(Pl:Plc fx hs lead ys m){c:Nat}(h:Vw fx.n hs lead ys c < fx.n)(ne:Vw fx.n hs lead ys c≠(lead+ys.length) % fx.n):c∈X3 fx.n hs lead ys∧c % 8 < fx.h:=by
 have n4:fx.n≤4:=by rcases ok.n34 with e | e<;>omega
 have eo:Vw fx.n hs lead ys c=if hs.findIdx (fun h=>h.testBit c) < hs.length then hs.findIdx (fun h=>h.testBit c) else if c∈ys then(lead+ys.idxOf c) % fx.n else 99:=rfl
 by_cases q:hs.findIdx (fun h=>h.testBit c) < hs.length
 ·rw[if_pos q] at eo
  have hb:=List.findIdx_getElem (w:=q);have e:hs[hs.findIdx (fun h=>h.testBit c)]? = some hs[hs.findIdx (fun h=>h.testBit c)]:=Za q;exact⟨(Bw fun h hh=>Pl.h32 ok hh).mpr (.inr ⟨_,_,e,by rw[← eo];exact ne,hb⟩),(Pl.pk c (U4 (Zg e) hb)).2⟩
 ·rw[if_neg q] at eo
  by_cases r:c∈ys
  ·exact⟨(Bw fun h hh=>Pl.h32 ok hh).mpr (.inl r),(Pl.pk c (Qn r)).2⟩
  ·rw[if_neg r] at eo
   omega
theorem Zkm{fx:Fx}(ok:fx.Ok){t:Option Nat}{oth:List Nat}{a b o:Nat}(ha:a % 8 < fx.h)(hb:b % 8 < fx.h)(ho:o % 8 < fx.h)(ab:a / 8=b / 8)(ao:a / 8=o / 8)(hl:Ek fx t oth a=Ek fx t oth b)(na:a∉oth)(nb:b∉oth)(oo:o∈oth) :
  (pos (o % 8) (Ud fx (decide (t=some (a / 8)))) < pos (a % 8) (Ud fx (decide (t=some (a / 8))))↔pos (o % 8) (Ud fx (decide (t=some (a / 8)))) < pos (b % 8) (Ud fx (decide (t=some (a / 8))))) ∧
  (pos (a % 8) (Ud fx (decide (t=some (a / 8)))) < pos (o % 8) (Ud fx (decide (t=some (a / 8))))↔pos (b % 8) (Ud fx (decide (t=some (a / 8)))) < pos (o % 8) (Ud fx (decide (t=some (a / 8))))):=by
 have nd:=Rq ok t (a / 8);have ma:a∈J2 fx t (a / 8):=(Xk ok).mpr ⟨rfl,ha⟩;have mb:b∈J2 fx t (a / 8):=(Xk ok).mpr ⟨ab.symm,hb⟩;have mo:o∈J2 fx t (a / 8):=(Xk ok).mpr ⟨ao.symm,ho⟩;unfold Ek at hl;rw[← ab] at hl;have z:=(Zhj nd ma mb na nb).mp hl o oo mo;rw[Qz ok rfl ha,Qz ok ab.symm hb,Qz ok ao.symm ho] at z;have pm:=X4 ok (decide (t=some (a / 8)));have inO:∀{v:Nat},v < fx.h→v∈Ud fx (decide (t=some (a / 8))):=fun h=>pm.mem_iff.mpr (Z8.mpr h);have n1:pos (o % 8) (Ud fx (decide (t=some (a / 8))))≠pos (a % 8) (Ud fx (decide (t=some (a / 8)))):=fun e=>by
  have:=Od (inO ho) (inO ha) e;exact na ((show a=o by omega) ▸ oo)
 have n2:pos (o % 8) (Ud fx (decide (t=some (a / 8))))≠pos (b % 8) (Ud fx (decide (t=some (a / 8)))):=fun e=>by
  have:=Od (inO ho) (inO hb) e;exact nb ((show b=o by omega) ▸ oo)
 omega
theorem Zm2(fx:Fx)(t:Option Nat)(u:Nat):(if t=some u then fx.tr else fx.pl)=Ud fx (decide (t=some u)):=by
 unfold Ud;by_cases e:t=some u
 ·rw[if_pos e,if_pos (Ze e)]
 ·rw[if_neg e,if_neg (by rw[Zd e];exact Zq)]
theorem Az{fx:Fx}(ok:fx.Ok){t:Option Nat}{oth:List Nat}{a b o led:Nat}(ha:a % 8 < fx.h)(hb:b % 8 < fx.h)(ho:o % 8 < fx.h)(ab:a / 8=b / 8)(hl:Ek fx t oth a=Ek fx t oth b)(na:a∉oth)(nb:b∉oth)(oo:o∈oth) :
  Y4 fx t a o led=Y4 fx t b o led∧Y4 fx t o a led=Y4 fx t o b led:=by
 by_cases e:a / 8=o / 8
 ·have p:=Zkm ok ha hb ho ab e hl na nb oo
  have e2:b / 8=o / 8:=ab ▸ e;rw[Xj e,Xj e2,Xj e.symm,Xj e2.symm,← e2,← ab,Zm2];constructor
  ·congr 1
   exact decide_eq_decide.mpr p.1
  ·congr 1
   exact decide_eq_decide.mpr p.2
 ·have e2:¬ b / 8=o / 8:=fun z=>e (ab ▸ z)
  rw[X1 e,X1 e2,X1 (fun z=>e z.symm),X1 (fun z=>e2 z.symm),ab];exact⟨rfl,rfl⟩
theorem Db{fx:Fx}(ok:fx.Ok){t:Option Nat}{hs ys:List Nat}{lead m side:Nat}(Pl:Plc fx hs lead ys m){a b:Nat}(ma:a∈moveL fx t hs lead ys m)(mb:b∈moveL fx t hs lead ys m)(ab:a / 8=b / 8)(hl:Ek fx t (X3 fx.n hs lead ys) a=Ek fx t (X3 fx.n hs lead ys) b) :
  numP fx t side hs lead ys b=numP fx t side hs lead ys a:=by
 obtain⟨h,eh,ab1,a32,_,ah,m0,am⟩:=Bv ok Pl ma;obtain⟨h',eh',bb1,b32,_,bh,_,bm⟩:=Bv ok Pl mb;rw[eh] at eh';cases eh';have na:a∉X3 fx.n hs lead ys:=fun z=>Nk ok Pl a z ma;have nb:b∉X3 fx.n hs lead ys:=fun z=>Nk ok Pl b z mb;have oa:=Qj Pl eh ab1;have ob:=Qj Pl eh bb1;have sd:∀ c,Bd a b c / 8=c / 8:=fun c=>by
  unfold Bd;split
  ·rename_i e;rw[e];exact ab.symm
  ·split
   ·rename_i e;rw[e];exact ab
   ·rfl
 have M:Mp fx t t (Bd a b) (fun u=>u) (Vw fx.n hs lead ys):=by
  refine⟨fun c hc=>?_,fun x hx y hy e=>?_,fun c hc=>⟨Bd a b c,?_,Di a b c⟩,fun c _=>sd c,fun _ _ _ _ e=>e,fun _ _=>Iff.rfl,fun c o led hc ho hled oc oo ne=>?_⟩
  ·unfold Bd
   split
   ·exact b32
   ·split
    ·exact a32
    ·exact hc
  ·rw[← Di a b x,← Di a b y,e]
  ·unfold Bd
   split
   ·exact b32
   ·split
    ·exact a32
    ·exact hc
  ·
   have out:∀ x,Vw fx.n hs lead ys x < fx.n→Vw fx.n hs lead ys x≠(lead+ys.length) % fx.n→Bd a b x=x∧x∈X3 fx.n hs lead ys∧x % 8 < fx.h:=fun x h1 h2=>by
    obtain⟨p1,p2⟩:=Zgp ok Pl h1 h2;refine⟨?_,p1,p2⟩;unfold Bd;rw[if_neg (fun z:x=a=>na (z ▸ p1)),if_neg (fun z:x=b=>nb (z ▸ p1))]
   by_cases c1:c=a∨c=b
   ·have oc':Vw fx.n hs lead ys c=(lead+ys.length) % fx.n:=by rcases c1 with rfl | rfl<;>assumption
    obtain⟨q1,q2,q3⟩:=out o oo (fun z=>ne (oc'.trans z.symm));rw[q1];have ov:=Az (led:=led) ok ah bh q3 ab hl na nb q2;rcases c1 with rfl | rfl
    ·have:Bd c b c=b:=by unfold Bd;rw[if_pos rfl]
     rw[this,ov.1]
    ·have:Bd a c c=a:=by
      unfold Bd;by_cases e:c=a
      ·rw[if_pos e];exact e
      ·rw[if_neg e,if_pos rfl]
     rw[this,ov.1]
   ·have sc:Bd a b c=c:=by
     unfold Bd;rw[if_neg (fun z=>c1 (.inl z)),if_neg (fun z=>c1 (.inr z))]
    rw[sc];by_cases o1:o=a∨o=b
    ·have oo':Vw fx.n hs lead ys o=(lead+ys.length) % fx.n:=by rcases o1 with rfl | rfl<;>assumption
     obtain⟨q1,q2,q3⟩:=out c oc (fun z=>ne (z.trans oo'.symm));have ov:=Az (led:=led) ok ah bh q3 ab hl na nb q2;rcases o1 with rfl | rfl
     ·have:Bd o b o=b:=by unfold Bd;rw[if_pos rfl]
      rw[this,ov.2]
     ·have:Bd a o o=a:=by
       unfold Bd;by_cases e:o=a
       ·rw[if_pos e];exact e
       ·rw[if_neg e,if_pos rfl]
      rw[this,ov.2]
    ·have so:Bd a b o=o:=by
      unfold Bd;rw[if_neg (fun z=>o1 (.inl z)),if_neg (fun z=>o1 (.inr z))]
     rw[so]
 have I:Iso fx (Bd a b) (Vw fx.n hs lead ys) 0 hs lead ys hs lead ys:=by
  refine⟨(Nat.mod_eq_of_lt Pl.ld).symm,?_,fun i g g' e e' c _=>?_,fun i g c e hb=>Qj Pl e hb,fun j c e=>Zdc Pl e⟩
  ·conv=>lhs;rw[← List.map_id ys]
   refine Jq fun y hy=>?_;have yo:y∈X3 fx.n hs lead ys:=(Bw fun h hh=>Pl.h32 ok hh).mpr (.inl hy);show y=Bd a b y;unfold Bd;rw[if_neg (fun z:y=a=>na (z ▸ yo)),if_neg (fun z:y=b=>nb (z ▸ yo))]
  ·have hi:i < fx.n:=by rw[← Pl.len];exact(Zh.mp e).1
   rw[Nat.add_zero,Nat.mod_eq_of_lt hi,e] at e';cases e';by_cases q:i=(lead+ys.length) % fx.n
   ·subst q
    rw[eh] at e;cases e;unfold Bd;split
    ·rename_i z;rw[z,bb1,ab1]
    ·split
     ·rename_i z;rw[z,bb1,ab1]
     ·rfl
   ·have fa:g.testBit a=false:=Bool.eq_false_iff.mpr fun z=>q ((Qj Pl e z).symm.trans oa)
    have fb:g.testBit b=false:=Bool.eq_false_iff.mpr fun z=>q ((Qj Pl e z).symm.trans ob);unfold Bd;split
    ·rename_i z;rw[z,fa,fb]
    ·split
     ·rename_i z;rw[z,fa,fb]
     ·rfl
 have z:=(Zit (side:=side) (side':=side) ok M (fun u hu=>by rw[Nat.add_zero,Nat.mod_eq_of_lt hu]) _ hs lead ys m hs lead ys m rfl Pl Pl I).2 h a eh am;have:Bd a b a=b:=by unfold Bd;rw[if_pos rfl]
 rw[this] at z;exact z
def T8(n:Nat)(css:List (List Nat))(seat:Nat)(ys:List Nat)(i:Nat):List Nat:=ys++((List.range i).filter fun j=>decide (j≠seat)).flatMap fun j=>css.getD j []
theorem Zkx{fx:Fx}(ok:fx.Ok){css:List (List Nat)}{lead m:Nat}{ys:List Nat}(S:StOk fx css lead ys m){c:Nat}:c∈T8 fx.n css ((lead+ys.length) % fx.n) ys css.length↔c∈X3 fx.n (css.map hN) lead ys:=by
 rw[Bw fun h hh=>S.plc.h32 ok hh];unfold T8;rw[Jh,List.mem_flatMap];refine or_congr Iff.rfl ?_;constructor
 ·rintro⟨i,hi,hc⟩
  obtain⟨i1,i2⟩:=List.mem_filter.mp hi;have il:=Z8.mp i1;have e:css[i]? = some (css.getD i []):=by rw[Zj,Za il];rfl
  exact⟨i,hN (css.getD i []),by rw[Zl,e];rfl,Z4 i2,by rw[Up];exact Ze hc⟩
 ·rintro⟨i,h,e,ne,hb⟩
  rw[Zl] at e;obtain⟨cs,ecs,rfl⟩:=Option.map_eq_some_iff.mp e;have il:=(Zh.mp ecs).1;refine⟨i,List.mem_filter.mpr ⟨Z8.mpr il,Ze ne⟩,?_⟩;rw[Zj,ecs];rw[Up] at hb;exact Z4 hb
def Zfb:Sp:=fun vs H Q _=>∃(d st lc:Addr) (f:Fx) (t:Option Nat) (sz:Nat) (css:List (List Nat)) (lead m:Nat) (ys cs:List Nat),vs=[.ref d,.ref st,.ref lc]∧f.Ok∧IsRt H d f t sz∧IsSt H st css lead ys∧StOk f css lead ys m∧H lc=some (.lst (vN cs))∧cs.length≤32∧(∀ c∈cs,c < 32∧c % 8 < f.h∧c∉X3 f.n (css.map hN) lead ys) ∧
 ∀ l ps H',Same H H'→IsPrs H' l ps→ps.length≤32→(∀ x∈ps,x.1∈cs∧x.2∈cs∧x.1 / 8=x.2 / 8∧Ek f t (X3 f.n (css.map hN) lead ys) x.1=Ek f t (X3 f.n (css.map hN) lead ys) x.2)→Q (.ref l) H'
abbrev Zgn:List Str:=["_law_rules_here","_law_state_here","_law_cards"]
abbrev Zqm:List Str:=["_law_rules_here","_law_state_here","_law_cards","_law_pairs","_law_gone","_law_seat","_law_k","_law_card","_law_order_here","_law_at"]
theorem scSbs:FnScope Zqm Zgn (Zp Zmm):=⟨rfl,rfl,rfl,by decide +kernel,rfl,by decide +kernel,by decide +kernel⟩
theorem Znb{k:Nat}{f1:Addr}{d1:FuncData}(F:Fun K "_law_side_by_side" "_law_side_by_side" Zmm f fd)(LT:Lib P w K mg base k "_law_turn" E4 Bl f1 d1)(mLi:mg "list" = none)(mr:mg "range" = none)(ml:mg "len" = none)(mI:mg "int" = none):FnOk P w K mg base Y6 (k+1) f fd Zgn Zfb:=by
  refine F.ok scSbs (fun vs H Q E h=>?_) (fun cdv A outer s H vs Q E hr h=>?_)
  · obtain⟨d,st,lc,fx,t,sz,css,lead,m,ys,cs,rfl,_⟩:=h
    rfl
  obtain⟨d,st,lc,fx,t,sz,css,lead,m,ys,cs,rfl,ok,hRt,hSt,S,hlc,cl,cok,q⟩:=h;refine⟨_,Zm (Z9 (i:=3) scSbs.nd rfl (Or.inl rfl) (Uk Zk))
    (Zm (Z9 (i:=4) scSbs.nd rfl (Or.inl rfl) (J8 Uy rfl mLi J5 (Zb (Jo Jw (pv 1) Zo (fun _ _=>rfl)) Zk)))
    (Zm (Z9 (i:=5) scSbs.nd rfl (Or.inl rfl) (Z6 LT.ok hr rfl LT.mg LT.kp LT.bd .nil Jn (Zb (pv 1) Zk)))
    (Zm (Xi PassesOwn.never rfl (Xc rfl mr (Zb (Jl Jt rfl ml Jg (Zb (Jo Jw (pv 1) Zo (fun _ _=>rfl)) Zk)) Zk)) (Jm (i:=6) scSbs.nd rfl (Or.inl rfl))
      (Zv (Yh (Je Q5 (pv 6) (pv 5) (Js _)) (Zv (Z9 (i:=4) scSbs.nd rfl (Or.inl rfl) (Ja Tb (pv 4) (Jo J9 (Jo Jw (pv 1) Zo (fun _ _=>rfl)) (pv 6) (fun _ _=>rfl))))) Jz)))
    (Zm (Xi PassesOwn.never rfl (Yn (pv 2)) (Jm (i:=7) scSbs.nd rfl (Or.inl rfl))
      (Zm (Z9 (i:=8) scSbs.nd rfl (Or.inl rfl) (Jo J9 (Jo Jw (pv 0) Zo (fun _ _=>rfl)) (J8 Za8 rfl mI PyProof.Rows.boot_int (Zb (X0 Uu (Ja Ys (pv 7) Zo) (Jo Jw (pv 0) Zo (fun _ _=>rfl)) (Js _)) Zk)) (fun _ _=>rfl)))
      (Zm (Z9 (i:=9) scSbs.nd rfl (Or.inl rfl) (Ja Ym (Xp Jr PySem.F.slot_list_index PySem.F.type_list_index E6 (pv 8) (Zb (Ja Y3 (pv 7) Zo) Zk)) Zo))
      (Zm (Gz PassesOwn.never (PW.pt (Ob (Je Zb6 (pv 9) (Jl Jt rfl ml Jg (Zb (pv 8) Zk)) (Js _)) (Rw (Je Qa (Ja Ym (Ja Xa (Ja Ys (pv 7) Zo) Zo) (Jo J9 (pv 8) (pv 9) (fun _ _=>rfl))) (Ja Tb (pv 2) (pv 4)) rfl)))) (Zv (Z9 (i:=9) scSbs.nd rfl (Or.inl rfl) (Ja Ym (pv 9) Zo))))
      (Zv (Yh (PW.pt (Ob (Je Zb6 (pv 9) (Jl Jt rfl ml Jg (Zb (pv 8) Zk)) (Js _)) (Rw (Je Qd (Ja Ym (Ja Xa (Ja Ys (pv 7) Zo) Zo) (Jo J9 (pv 8) (pv 9) (fun _ _=>rfl))) (pv 2) rfl))))
        (Zv (Qt (Xp Jr Uc Ub Qe (pv 3) (Zb (Y2 (Zb (pv 7) (Zb (Ja Ym (Ja Xa (Ja Ys (pv 7) Zo) Zo) (Jo J9 (pv 8) (pv 9) (fun _ _=>rfl))) Zk))) Zk)))) Jz))))))
    (Zv (Jj (pv 3))))))),?_⟩
  have n4:fx.n≤4:=by rcases ok.n34 with e | e<;>omega
  have n0:0 < fx.n:=by rcases ok.n34 with e | e<;>omega
  have h8:=ok.h8;have yl:=S.plc.yl;have z1000:=Jp 1000 (by decide);refine Jy (fun v H1=>∃ lp,v = .ref lp∧H lp=none∧H1=upd H lp (.lst [])) (fun R hR=>⟨Jp 0 (by decide),fun lp hlp=>hR _ _ ⟨lp,rfl,hlp,rfl⟩⟩) (fun v H1 z=>?_);obtain⟨lp,rfl,hlp,rfl⟩:=z;have s1:=Zx hlp (.lst []);obtain⟨lc',lt',as',k1,k2,k3,k4⟩:=hSt.same s1;have a0:Xb [V.ref lc',V.int (lead:Nat),V.ref lt'] 0=some (V.ref lc'):=rfl;have a2:Xb [V.ref lc',V.int (lead:Nat),V.ref lt'] 2=some (V.ref lt'):=rfl;refine Jy (fun v H2=>Same (upd H lp (.lst [])) H2∧∃ lg,v = .ref lg∧H2 lg=some (.lst (vN ys))∧lg≠lp) (fun R hR=>⟨_,rfl,st,_,_,_,rfl,rfl,SqT.of k1,a2,lt',_,rfl,.inl (SqL.of k4),fun lg hlg=>hR _ _ ⟨Zx hlg _,lg,rfl,Zn,fun z=>by rw[z,Zn] at hlg;cases hlg⟩⟩) (fun v H2 z=>?_);obtain⟨s2,lg,rfl,hlg,nlg⟩:=z;refine Jy (fun v H3=>H2=H3∧v = .int (((lead+ys.length) % fx.n:Nat):Int)) (fun R hR=>⟨_,rfl,st,css,lead,ys,rfl,(hSt.same s1).same s2,by rw[S.len];exact n0,hR _ _ ⟨rfl,by rw[S.len]⟩⟩) (fun v H3 z=>?_);obtain⟨rfl,rfl⟩:=z;have lenE:(as'.map V.ref).length=css.length:=by rw[Zf];exact k3.1
  refine⟨_,rfl,st,_,_,_,rfl,rfl,SqT.of (s2 _ _ k1),a0,lc',_,rfl,.inl (SqL.of (s2 _ _ k2)),(((as'.map V.ref).length:Nat):Int),rfl,by omega,by rw[lenE,S.len];omega,?_⟩;rw[lenE];refine Nl (n:=css.length) (lo:=0) (fun i σ H4=>Same (upd H lp (.lst [])) H4∧∃(lg:Addr) (x6 x7 x8 x9:Option V),σ=[some (.ref d),some (.ref st),some (.ref lc),some (.ref lp),some (.ref lg),some (.int (((lead+ys.length) % fx.n:Nat):Int)),x6,x7,x8,x9]∧lg≠lp∧H4 lg=some (.lst (vN (T8 fx.n css ((lead+ys.length) % fx.n) ys i)))∧(T8 fx.n css ((lead+ys.length) % fx.n) ys i).length≤4+32 * i)
    ⟨s2,lg,none,none,none,none,rfl,nlg,by rw[hlg];unfold T8;simp,by unfold T8;simp;omega⟩ (fun i σ H4 hi z=>?_) (fun σ H4 z=>?_)
  · obtain⟨s4,lg,x6,x7,x8,x9,rfl,nlg,hg,gl⟩:=z
    have ial:i < as'.length:=by rw[k3.1];exact hi
    obtain⟨cs',e1,e2⟩:=k3.2 i as'[i] (Za ial);have eg:css.getD i []=cs':=by rw[Zj,e1];rfl
    have cl':=(S.cl ok (Zg e1)).1;have ext:T8 fx.n css ((lead+ys.length) % fx.n) ys (i+1)=T8 fx.n css ((lead+ys.length) % fx.n) ys i++(if i≠(lead+ys.length) % fx.n then cs' else []):=by
      unfold T8;rw[List.range_succ,List.filter_append,List.flatMap_append,Ut]
      congr 2
      by_cases e:i≠(lead+ys.length) % fx.n
      · rw[if_pos e,List.filter_cons_of_pos (by exact Ze e),List.filter_nil,List.flatMap_cons,List.flatMap_nil,Jk,eg]
      · rw[if_neg e,List.filter_cons_of_neg (by rw[Zd e];exact Zq),List.filter_nil]
        rfl
    refine⟨_,rfl,_,rfl,rfl,_,rfl,No (b:=decide (i≠(lead+ys.length) % fx.n)) (by
      show(!decide (V.int ((0:Int)+((i:Nat):Int))=V.int (((lead+ys.length) % fx.n:Nat):Int)))=_;rw[Int.zero_add,Ol];by_cases e:i=(lead+ys.length) % fx.n
      · rw[Ze e,Zd (fun z=>z e)];rfl
      · rw[Zd e,Ze e];rfl) (N9 (fun e=>?_) (fun e=>?_))⟩
    · have e':=Z4 e
      refine⟨_,rfl,_,rfl,st,_,_,_,rfl,rfl,SqT.of (s4 _ _ k1),a0,_,rfl,lc',_,_,V.ref as'[i],rfl,rfl,SqL.of (s4 _ _ k2),(by rw[Int.zero_add];exact U7 (by rw[Zl,Za ial];rfl)),lg,as'[i],_,_,rfl,rfl,hg,s4 _ _ e2,?_,fun l9 hl9=>?_⟩
      · rw[J0,J0]
        exact Nat.le_trans (by rw[S.len] at hi;omega) z1000
      · refine⟨s4.trans (Zx hl9 _),l9,_,_,_,_,rfl,(fun z=>by have:=s4 _ _ Zn;rw[← z,hl9] at this;cases this),?_,?_⟩
        · rw[Zn,ext,if_pos e']
          unfold vN;rw[Ju]
        · rw[ext,if_pos e',Zs]
          omega
    · have e':¬ i≠(lead+ys.length) % fx.n:=fun z=>by rw[Ze z] at e;exact e rfl
      exact⟨s4,lg,_,_,_,_,rfl,nlg,by rw[hg,ext,if_neg e',Jk],by rw[ext,if_neg e',Jk];omega⟩
  obtain⟨s4,lg,x6,x7,x8,x9,rfl,nlg,hg,gl⟩:=z;generalize hgon:T8 fx.n css ((lead+ys.length) % fx.n) ys css.length=gon at hg gl;rw[S.len] at gl;have gm:∀ c,c∈gon↔c∈X3 fx.n (css.map hN) lead ys:=fun c=>by rw[← hgon];exact Zkx ok S
  have s04:=s1.trans s4;have hlc4:=s04 _ _ hlc;have hlp4:H4 lp=some (.lst []):=s4 _ _ Zn;obtain⟨lo,lpl,lhi,hD,hO,hP,hT'⟩:=hRt.same s04;obtain⟨g1,g2,g3,g4,g5,g6⟩:=@N1 fx t sz lo;refine⟨_,rfl,lc,rfl,⟨_,SqL.of hlc4⟩,Ql (K:=K) (xs:=vN cs) (fun i σ H5=>(∀ b o,b≠lp→H4 b=some o→H5 b=some o)∧∃(ps:List (Nat×Nat)) (x6 x7 x8 x9:Option V),σ=[some (.ref d),some (.ref st),some (.ref lc),some (.ref lp),some (.ref lg),some (.int (((lead+ys.length) % fx.n:Nat):Int)),x6,x7,x8,x9]∧IsPrs H5 lp ps∧ps.length≤i∧∀ x∈ps,x.1∈cs∧x.2∈cs∧x.1 / 8=x.2 / 8∧Ek fx t (X3 fx.n (css.map hN) lead ys) x.1=Ek fx t (X3 fx.n (css.map hN) lead ys) x.2)
    ⟨fun b o _ e=>e,[],_,_,_,_,rfl,⟨[],hlp4,rfl,fun j u p e=>nomatch e⟩,Nat.le_refl _,fun x hx=>nomatch hx⟩ (fun i σ H5 _ z=>SqL.of (z.1 _ _ (Jv hlc hlp) hlc4)) (fun i v σ H5 hv z=>?_) (fun σ H5 z=>?_)⟩
  · obtain⟨k5,ps,x6,x7,x8,x9,rfl,hps,pl,hx⟩:=z
    obtain⟨c,hc,rfl⟩:=Eb hv;have cm:=Zg hc;obtain⟨c32,ch,cno⟩:=cok c cm;have il:=(Zh.mp hc).1;have K5:∀{b:Addr} {o:HO},H b=some o→H4 b=some o→H5 b=some o:=fun e e4=>k5 _ _ (Jv e hlp) e4;obtain⟨lo',lpl',lhi',hD0,hO0,hP0,hT0⟩:=hRt;have eD:lo'=lo:=by
      have:=s04 _ _ hD0;rw[this] at hD;injection hD with hD
      injection hD with hD
      unfold rtV at hD;injection hD with _ hD;injection hD with _ hD;injection hD with _ hD;injection hD with _ hD;injection hD with _ hD;injection hD with hD _
      injection hD
    subst eD;have hD5:=K5 hD0 hD;have hO5:=K5 hO0 (s04 _ _ hO0);have hP5:=K5 hP0 (s04 _ _ hP0);have hT5:=K5 hT0 (s04 _ _ hT0);have hlc5:=K5 hlc hlc4;have hg5:=k5 _ _ nlg hg;obtain⟨lord,hlo5⟩:∃ lord,Xb [V.ref lpl',V.ref lhi'] (if decide (t=some (c / 8))=true then 1 else 0)=some (V.ref lord)∧H5 lord=some (.lst (vN (Ud fx (decide (t=some (c / 8)))))):=by
      by_cases e:t=some (c / 8)
      · rw[Ze e,if_pos rfl]
        exact⟨lhi',rfl,hT5⟩
      · rw[Zd e,if_neg Zq]
        exact⟨lpl',rfl,hP5⟩
    generalize hord:Ud fx (decide (t=some (c / 8)))=ord at hlo5;have opm:=X4 ok (decide (t=some (c / 8)));rw[hord] at opm;have ol:ord.length=fx.h:=Yd opm;have omem:c % 8∈ord:=opm.mem_iff.mpr (Z8.mpr ch);refine Jy (fun v H6=>H5=H6∧v = .ref lord) (fun R hR=>?_) (fun v H6 z=>?_)
    · refine⟨_,rfl,d,_,_,_,rfl,rfl,SqT.of hD5,g6,_,rfl,_,_,rfl,rfl,⟨by decide,by decide⟩,_,rfl,d,_,_,_,rfl,rfl,SqT.of hD5,g5,rfl,_,rfl,?_⟩
      refine⟨lo',_,_,V.ref lord,rfl,rfl,SqL.of hO5,?_,hR _ _ ⟨rfl,rfl⟩⟩;show Xb [V.ref lpl',V.ref lhi'] (if decide (V.int (((c:Nat):Int) / 8)=V.int (trI t))=true then 1 else 0)=_;rw[Se t c32];exact hlo5.1
    obtain⟨rfl,rfl⟩:=z;have hlo6:=hlo5.2;have e8:((c:Nat):Int) % 8=((c % 8:Nat):Int):=by omega
    refine Jy (fun v H6=>H5=H6∧v = .int ((pos (c % 8) ord+1:Nat):Int)) (fun R hR=>?_) (fun v H6 z=>?_)
    · obtain⟨i1,i2⟩:=Kl omem
      have h4:=hlo6;rw[Qr] at h4;refine⟨_,rfl,.inl ⟨rfl,_,SqL.of h4⟩,_,rfl,_,_,rfl,rfl,(show(0:Int) < 8 by decide),lord,((c % 8:Nat):Int),_,pos (c % 8) ord,rfl,(by show [V.int (((c:Nat):Int) % 8)]=_;rw[e8]),SqL.of h4,by rw[Zf];omega,i1,i2,_,_,rfl,rfl,hR _ _ ⟨rfl,rfl⟩⟩
    obtain⟨rfl,rfl⟩:=z;have pl0:pos (c % 8) ord < ord.length:=(Zh.mp (Uz omem).1).1;refine Xg (fun σ H6=>(∀ b o,b≠lp→H4 b=some o→H6 b=some o)∧IsPrs H6 lp ps∧H6 lord=some (.lst (vN ord))∧∃ at_:Nat,σ=[some (.ref d),some (.ref st),some (.ref lc),some (.ref lp),some (.ref lg),some (.int (((lead+ys.length) % fx.n:Nat):Int)),x6,some (.int (c:Nat)),some (.ref lord),some (.int (at_:Nat))]∧pos (c % 8) ord < at_∧at_≤ord.length∧∀ p,pos (c % 8) ord < p→p < at_→8 * (c / 8)+ord.getD p 0∉gon) (fun D' er nx=>?_) (fun σ H6 z=>?_)
    · refine⟨fun mm σ H6=>(∀ b o,b≠lp→H4 b=some o→H6 b=some o)∧IsPrs H6 lp ps∧H6 lord=some (.lst (vN ord))∧∃ at_:Nat,mm=ord.length - at_∧σ=[some (.ref d),some (.ref st),some (.ref lc),some (.ref lp),some (.ref lg),some (.int (((lead+ys.length) % fx.n:Nat):Int)),x6,some (.int (c:Nat)),some (.ref lord),some (.int (at_:Nat))]∧pos (c % 8) ord < at_∧at_≤ord.length∧∀ p,pos (c % 8) ord < p→p < at_→8 * (c / 8)+ord.getD p 0∉gon,⟨_,k5,hps,hlo6,pos (c % 8) ord+1,rfl,rfl,by omega,by omega,fun p h1 h2=>by omega⟩,?_⟩
      rintro mm σ H6 ⟨k6,hps6,hlo7,at_,rfl,rfl,p1,p2,p3⟩;refine⟨_,rfl,_,rfl,lord,_,rfl,.inl (SqL.of hlo7),_,_,rfl,rfl,_,rfl,?_⟩;show if decide (((at_:Nat):Int) < (((vN ord).length:Nat):Int))=true then _ else _
      rw[J0];refine N9 (fun e=>?_) (fun e=>?_)
      · have lt:at_ < ord.length:=by have:=Z4 e;omega
        have eo:ord[at_]? = some (ord.getD at_ 0):=by rw[Zj,Za lt];rfl
        have hlc6:=k6 _ _ (Jv hlc hlp) hlc4;have hg6:=k6 _ _ nlg hg;refine⟨_,rfl,_,_,rfl,rfl,⟨by decide,by decide⟩,_,_,rfl,rfl,.inr ⟨by decide,by decide⟩,_,rfl,_,rfl,lord,_,_,_,rfl,rfl,SqL.of hlo7,O8 eo,_,_,rfl,rfl,_,rfl,_,rfl,lc,lg,_,_,rfl,rfl,hlc6,hg6,?_,fun l9 hl9=>?_⟩
        · rw[J0,J0]
          exact Nat.le_trans (by omega) z1000
        have fl:(vN cs++vN gon).all U3=true:=by rw[List.all_append,Xz,Xz];rfl
        have ev:((c:Nat):Int) / 8 * 8+((ord.getD at_ 0:Nat):Int)=((8 * (c / 8)+ord.getD at_ 0:Nat):Int):=by omega
        have ein:Mu (V.int (((c:Nat):Int) / 8 * 8+((ord.getD at_ 0:Nat):Int))) (vN cs++vN gon)=decide (8 * (c / 8)+ord.getD at_ 0∈cs++gon):=by
          have e:vN cs++vN gon=vN (cs++gon):=by unfold vN;rw[Ju]
          rw[ev,e,B3]
        refine⟨l9,_,rfl,.inl (SqL.of Zn),rfl,fl,_,rfl,?_⟩;show if(!Mu (V.int (((c:Nat):Int) / 8 * 8+((ord.getD at_ 0:Nat):Int))) (vN cs++vN gon))=true then _ else _
        rw[ein];have s9:=Zx hl9 (.lst (vN cs++vN gon));refine N9 (fun e2=>?_) (fun e2=>?_)
        · have no:8 * (c / 8)+ord.getD at_ 0∉cs++gon:=fun z=>by rw[Ze z] at e2;exact Bool.noConfusion e2
          refine⟨fun σ' H'=>(∀ b o,b≠lp→H4 b=some o→H' b=some o)∧IsPrs H' lp ps∧H' lord=some (.lst (vN ord))∧σ'=[some (.ref d),some (.ref st),some (.ref lc),some (.ref lp),some (.ref lg),some (.int (((lead+ys.length) % fx.n:Nat):Int)),x6,some (.int (c:Nat)),some (.ref lord),some (.int ((at_+1:Nat):Int))],fun σ' H' z=>?_,?_⟩
          · obtain⟨z1,z2,z3,rfl⟩:=z
            refine⟨ord.length - (at_+1),by omega,z1,z2,z3,at_+1,rfl,rfl,by omega,by omega,fun p h1 h2=>?_⟩;by_cases ep:p=at_
            · rw[ep]
              exact fun z=>no (List.mem_append_right _ z)
            · exact p3 p h1 (by omega)
          · exact⟨_,rfl,_,_,rfl,rfl,fun b o h1 h2=>s9 _ _ (k6 b o h1 h2),hps6.same s9,s9 _ _ hlo7,rfl⟩
        · exact nx _ _ ⟨fun b o h1 h2=>s9 _ _ (k6 b o h1 h2),hps6.same s9,s9 _ _ hlo7,at_,rfl,p1,p2,p3⟩
      · exact Yv (nx _ _ ⟨k6,hps6,hlo7,at_,rfl,p1,p2,p3⟩)
    obtain⟨k6,hps6,hlo7,at_,rfl,p1,p2,p3⟩:=z;refine⟨_,rfl,_,rfl,lord,_,rfl,.inl (SqL.of hlo7),_,_,rfl,rfl,_,rfl,?_⟩;show if decide (((at_:Nat):Int) < (((vN ord).length:Nat):Int))=true then _ else _
    rw[J0];have stay:(∀ b o,b≠lp→H4 b=some o→H6 b=some o)∧∃(ps:List (Nat×Nat)) (y6 x7 x8 x9:Option V),[some (V.ref d),some (V.ref st),some (V.ref lc),some (V.ref lp),some (V.ref lg),some (V.int (((lead+ys.length) % fx.n:Nat):Int)),x6,some (V.int (c:Nat)),some (V.ref lord),some (V.int (at_:Nat))]=[some (.ref d),some (.ref st),some (.ref lc),some (.ref lp),some (.ref lg),some (.int (((lead+ys.length) % fx.n:Nat):Int)),y6,x7,x8,x9]∧IsPrs H6 lp ps∧ps.length≤i+1∧∀ x∈ps,x.1∈cs∧x.2∈cs∧x.1 / 8=x.2 / 8∧Ek fx t (X3 fx.n (css.map hN) lead ys) x.1=Ek fx t (X3 fx.n (css.map hN) lead ys) x.2:=⟨k6,ps,_,_,_,_,rfl,hps6,by omega,hx⟩;refine N9 (fun e=>?_) (fun e=>Yv stay);have lt:at_ < ord.length:=by have:=Z4 e;omega
    have eo:ord[at_]? = some (ord.getD at_ 0):=by rw[Zj,Za lt];rfl
    have hlc6:=k6 _ _ (Jv hlc hlp) hlc4;have ev:((c:Nat):Int) / 8 * 8+((ord.getD at_ 0:Nat):Int)=((8 * (c / 8)+ord.getD at_ 0:Nat):Int):=by omega
    refine⟨_,rfl,_,_,rfl,rfl,⟨by decide,by decide⟩,_,_,rfl,rfl,.inr ⟨by decide,by decide⟩,_,rfl,_,rfl,lord,_,_,_,rfl,rfl,SqL.of hlo7,O8 eo,_,_,rfl,rfl,_,rfl,lc,_,rfl,.inl (SqL.of hlc6),rfl,Xz _,_,rfl,?_⟩;show if Mu (V.int (((c:Nat):Int) / 8 * 8+((ord.getD at_ 0:Nat):Int))) (vN cs)=true then _ else _
    rw[ev,B3];refine N9 (fun e2=>?_) (fun e2=>stay);have bm:=Z4 e2;obtain⟨b32,bh,bno⟩:=cok _ bm;have ov8:ord.getD at_ 0 < 8:=Z3 (Z8.mp (opm.mem_iff.mp (Zg eo))) h8;obtain⟨as6,hA6,la6,hP6⟩:=id hps6;refine⟨_,rfl,.inl ⟨rfl,_,SqL.of hA6⟩,_,rfl,_,rfl,_,_,rfl,rfl,⟨by decide,by decide⟩,_,_,rfl,rfl,.inr ⟨by decide,by decide⟩,_,rfl,_,rfl,lord,_,_,_,rfl,rfl,SqL.of hlo7,O8 eo,_,_,rfl,rfl,Jp 2 (by decide),fun u hu=>?_⟩;have s9:=Zx hu (.tup [.int ((c:Nat):Int),.int (((c:Nat):Int) / 8 * 8+((ord.getD at_ 0:Nat):Int))]);have nu:lp≠u:=Jv hA6 hu;refine⟨lp,as6.map V.ref,V.ref u,rfl,rfl,by rw[Jf nu];exact hA6,by rw[Zf,la6];exact Z3 (by omega) z1000,fun b o h1 h2=>?_,ps++[(c,8 * (c / 8)+ord.getD at_ 0)],_,_,_,_,rfl,⟨as6++[u],by rw[Zn,Ju];rfl,by rw[Zs,Zs,la6];rfl,fun j w x e1 e3=>?_⟩,by rw[Zs];exact Nat.add_le_add pl (Nat.le_refl 1),fun x hx'=>?_⟩
    · rw[Jf h1]
      exact s9 _ _ (k6 b o h1 h2)
    · have wl:∀{w:Addr} {xs:List V},H6 w=some (.tup xs)→w≠lp:=fun h z=>by rw[z,hA6] at h;cases h
      by_cases w':j < as6.length
      · rw[Ji w'] at e1
        rw[Ji (by rw[← la6];exact w')] at e3;have h:=hP6 j w x e1 e3;rw[Jf (wl h)];exact s9 _ _ h
      · have:=(Zh.mp e1).1
        rw[Zs,List.length_singleton] at this;have ej:j=as6.length:=by omega
        subst ej;rw[Jd (Nat.le_refl _),Nat.sub_self] at e1;rw[la6,Jd (Nat.le_refl _),Nat.sub_self] at e3;cases e1;cases e3;rw[Jf (fun z=>nu z.symm),Zn];show some (HO.tup [V.int ((c:Nat):Int),V.int (((c:Nat):Int) / 8 * 8+((ord.getD at_ 0:Nat):Int))])=_;rw[ev]
    · rcases Jh.mp hx' with z | z
      · exact hx x z
      · have ex:=Z7.mp z
        subst ex;have d8:(8 * (c / 8)+ord.getD at_ 0) / 8=c / 8:=by omega
        have m8:(8 * (c / 8)+ord.getD at_ 0) % 8=ord.getD at_ 0:=by omega
        refine⟨cm,bm,d8.symm,?_⟩;show Ek fx t (X3 fx.n (css.map hN) lead ys) c=Ek fx t (X3 fx.n (css.map hN) lead ys) (8 * (c / 8)+ord.getD at_ 0);unfold Ek;rw[d8];have nd:=Rq ok t (c / 8);refine(Zhj nd ((Xk ok).mpr ⟨rfl,ch⟩) ((Xk ok).mpr ⟨d8,bh⟩) cno bno).mpr fun x xo xs=>?_;obtain⟨x1,x2⟩:=(Xk ok).mp xs;have ndo:ord.Nodup:=opm.nodup_iff.mpr List.nodup_range;have pa:pos c (J2 fx t (c / 8))=pos (c % 8) ord:=by rw[Qz ok rfl ch,hord]
        have pb:pos (8 * (c / 8)+ord.getD at_ 0) (J2 fx t (c / 8))=at_:=by rw[Qz ok d8 bh,hord,m8];exact Ke ndo (Uz (Zg eo)).1 eo
        have px:pos x (J2 fx t (c / 8))=pos (x % 8) ord:=by rw[Qz ok x1 x2,hord]
        rw[pa,pb,px];rintro(⟨h1,h2⟩ | ⟨h1,h2⟩)
        · refine p3 _ h1 h2 ((gm _).mpr ?_)
          have xm:x % 8∈ord:=opm.mem_iff.mpr (Z8.mpr x2);have:ord.getD (pos (x % 8) ord) 0=x % 8:=by rw[Zj,(Uz xm).1];rfl
          rw[this];have ex:8 * (c / 8)+x % 8=x:=by omega
          rw[ex];exact xo
        · omega
  · obtain⟨k5,ps,x6,x7,x8,x9,rfl,hps,pl,hx⟩:=z
    rw[J0] at pl;refine⟨_,rfl,q lp ps H5 (fun b o e=>k5 _ _ (Jv e hlp) (s04 _ _ e)) hps (by omega) hx⟩
abbrev D4:Stmt:=top 66
theorem Zby{H:Hp}{l:Addr}{ps:List (Nat×Nat)}(h:IsPrs H l ps):∃ as:List Addr,H l=some (.lst (as.map V.ref))∧as.length=ps.length∧∀(j:Nat) (u:Addr),as[j]? = some u→∃ p:Nat×Nat,ps[j]? = some p∧H u=some (.tup [.int (p.1:Nat),.int (p.2:Nat)]):=by
 obtain⟨as,hA,la,hP⟩:=h;refine⟨as,hA,la,fun j u hu=>?_⟩;have hj:j < ps.length:=by rw[← la];exact(Zh.mp hu).1
 exact⟨ps[j],Za hj,hP j u _ hu (Za hj)⟩
def kvL(ps:List (Nat×Nat)):List (U8×V):=ps.map fun x=>(Sum.inl ((x.1:Nat):Int),V.int ((x.2:Nat):Int))
theorem Zko{ps:List (Nat×Nat)}{c:Nat}(h:∀ x∈ps,x.1≠c):Ep (kvL ps) (Sum.inl ((c:Nat):Int))=none:=by
 induction ps with
 | nil=>rfl
 | cons x r ih=>
  have n1:=h x Zt;show Ep ((Sum.inl ((x.1:Nat):Int),V.int ((x.2:Nat):Int)) :: kvL r) _=none;rw[Es (fun e=>n1 (by have e':Sum.inl ((x.1:Nat):Int)=(Sum.inl ((c:Nat):Int):U8):=e;injection e' with e';omega))];exact ih fun y hy=>h y (Zu _ hy)
theorem Zkn{ps:List (Nat×Nat)}(up:ps.Pairwise fun a b=>a.1 < b.1){x:Nat×Nat}(h:x∈ps):Ep (kvL ps) (Sum.inl ((x.1:Nat):Int))=some (V.int ((x.2:Nat):Int)):=by
 induction ps with
 | nil=>cases h
 | cons y r ih=>
  obtain⟨u1,u2⟩:=List.pairwise_cons.mp up;show Ep ((Sum.inl ((y.1:Nat):Int),V.int ((y.2:Nat):Int)) :: kvL r) _=_;rcases List.mem_cons.mp h with rfl | h
  ·exact Bf rfl
  ·have:=u1 x h
   rw[Es (fun e=>by have e':Sum.inl ((y.1:Nat):Int)=(Sum.inl ((x.1:Nat):Int):U8):=e;injection e' with e';omega)];exact ih u2 h
theorem Zo7(fx:Fx)(t:Option Nat)(side:Nat)(hs:List Nat)(lead:Nat)(ys:List Nat)(m:Nat):(prL fx t side hs lead ys m).Pairwise (fun a b=>a.1 < b.1):=by
 unfold prL;rw[List.pairwise_map];unfold moveL;split
 ·exact List.Pairwise.nil
 ·unfold Qq Jx
  exact List.Pairwise.filter _ List.pairwise_lt_range
theorem Zf7(fx:Fx)(t:Option Nat)(side:Nat)(hs:List Nat)(lead:Nat)(ys:List Nat)(m:Nat):(prL fx t side hs lead ys m).length≤32:=by
 unfold prL;rw[Zf];unfold moveL;split
 ·exact Nat.zero_le _
 ·unfold Qq Jx
  refine Nat.le_trans (List.length_filter_le _ _) ?_;rw[Jb];exact Nat.le_refl _
theorem K0{fx:Fx}{t:Option Nat}{side:Nat}{hs:List Nat}{lead:Nat}{ys:List Nat}{m c:Nat}(hc:c∈moveL fx t hs lead ys m):c∈bestL fx t side hs lead ys m↔numP fx t side hs lead ys c=Ur (side.testBit ((lead+ys.length) % fx.n)) ((prL fx t side hs lead ys m).map (·.2)):=by
 unfold bestL;rw[Zw];constructor
 ·rintro⟨x,hx,rfl⟩
  obtain⟨x1,x2⟩:=List.mem_filter.mp hx;have e:=Z4 x2;unfold prL at x1;obtain⟨y,_,rfl⟩:=Zw.mp x1;exact e
 ·intro e
  exact⟨(c,numP fx t side hs lead ys c),List.mem_filter.mpr ⟨by unfold prL;exact Zw.mpr ⟨c,hc,rfl⟩,Ze e⟩,rfl⟩
def Zbr(K:W.Frag):Sp:=fun vs H Q _=>∃(a:Addr) (ns:List Int),vs=[.ref a]∧SqL K H a (ns.map V.int)∧ns.length≤63∧∀ H',Q (.bl true) H'
abbrev Zqn:List Str:=["_law_script","_law_rules_here","_law_state_here","_law_game_here","_law_place_here","_law_side","_law_numbers","_law_card","_law_number","_law_high","_law_group","_law_one","_law_other"]
theorem scLaw:FnScope Zqn ["_law_script"] (Zp D4):=⟨rfl,rfl,rfl,by decide +kernel,rfl,by decide +kernel,by decide +kernel⟩
theorem Zng{k:Nat}{CT CG f1 f2 f3 f4 f5 f6 f7 f8 fb fc:Addr}{d1 d2 d3 d4 d5 d6 d7 d8 db dc:FuncData}(F:Fun K "law" "law" D4 f fd)(LX:Lib P w K mg base k "_law_mixed" Eh (Ec K) f1 d1)(LRu:Lib P w K mg base k "_law_rules" ["_law_script","_law_most"] (Dn K) f2 d2)(LSt:Lib P w K mg base k "_law_state" Bt (Gh K) f3 d3)(LSp:Lib P w K mg base k "_law_steps" G4 (Dm K) f4 d4)
  (LG:Lib P w K mg base k "_law_game" ["_law_rules_here"] (Sq CT CG) f5 d5) (LPl:Lib P w K mg base k "_law_place" ["_law_state_here"] (Gi K) f6 d6) (LAl:Lib P w K mg base k "alike" ["game","place"] (Du CT CG) f7 d7) (LSb:Lib P w K mg base k "_law_side_by_side" Zgn Zfb f8 d8)
  (LTo:Lib P w K mg base k "told" Ez (Si CT CG) fb db) (LBs:Lib P w K mg base k "best" Ez (Ss CT CG) fc dc) (mLi:mg "list" = none) :
  FnOk P w K mg base Y6 (k+1) f fd ["_law_script"] (Zbr K):=by
 refine F.ok scLaw (fun vs H Q E h=>?_) (fun cdv A outer s H vs Q E hr h=>?_)
 ·obtain⟨a,ns,rfl,_⟩:=h
  rfl
 obtain⟨a,ns,rfl,hS,h63,q⟩:=h;have hu:=J1 (Nat.add_le_add_left (show 1≤64 by decide) _) hr.units;refine⟨_,Zm (Z9 (i:=1) scLaw.nd rfl (Or.inl rfl) (Z6 LRu.ok hr rfl LRu.mg LRu.kp LRu.bd .nil Jn (Zb (pv 0) (Zb Zo Zk))))
  (Zm (Z9 (i:=2) scLaw.nd rfl (Or.inl rfl) (Z6 LSt.ok hr rfl LSt.mg LSt.kp LSt.bd .nil Jn (Zb (pv 0) (Zb (pv 1) (Zb (Z6 LSp.ok hr rfl LSp.mg LSp.kp LSp.bd .nil Jn (Zb (pv 0) (Zb (pv 1) Zk))) Zk)))))
  (Zm (Z9 (i:=3) scLaw.nd rfl (Or.inl rfl) (Z6 LG.ok hr rfl LG.mg LG.kp LG.bd .nil Jn (Zb (pv 1) Zk)))
  (Zm (Z9 (i:=4) scLaw.nd rfl (Or.inl rfl) (Z6 LPl.ok hr rfl LPl.mg LPl.kp LPl.bd .nil Jn (Zb (pv 2) Zk)))
  (Zm (Z9 (i:=5) scLaw.nd rfl (Or.inl rfl) (Ja Y3 (Z6 LX.ok hr rfl LX.mg LX.kp LX.bd .nil Jn (Zb (pv 0) (Zb Zo Zk))) (Ja Ta Zo (Jo Jw (pv 1) Zo (fun _ _=>rfl)))))
  (Zm (Z9 (i:=6) scLaw.nd rfl (Or.inl rfl) Zgi)
  (Zm (Xi PassesOwn.never rfl (Yn (Z6 LTo.ok hr rfl LTo.mg LTo.kp LTo.bd .nil Jn (Zb (pv 3) (Zb (pv 4) (Zb (pv 5) Zk))))) (N4 rfl (Yb (Jm (i:=7) scLaw.nd rfl (Or.inl rfl)) (Yb (Jm (i:=8) scLaw.nd rfl (Or.inl rfl)) Qu)))
   (Zv (Zjn hu (pv 6) (pv 7) (pv 8) rfl)))
  (Zm (Z9 (i:=9) scLaw.nd rfl (Or.inl rfl) (Z6 LBs.ok hr rfl LBs.mg LBs.kp LBs.bd .nil Jn (Zb (pv 3) (Zb (pv 4) (Zb (pv 5) Zk)))))
  (Zm (Xi PassesOwn.never rfl (Yn (Z6 LAl.ok hr rfl LAl.mg LAl.kp LAl.bd .nil Jn (Zb (pv 3) (Zb (pv 4) Zk)))) (Jm (i:=10) scLaw.nd rfl (Or.inl rfl))
   (Zv (Xi PassesOwn.never rfl (Yn (pv 10)) (Jm (i:=7) scLaw.nd rfl (Or.inl rfl))
    (Zv (Yh (PW.pt (Gy (Je Q5 (Ry hu (pv 6) (pv 7) (fun _ _=>rfl)) (Ry hu (pv 6) (Jo J9 (pv 10) Zo (fun _ _=>rfl)) (fun _ _=>rfl)) (Js _)) (Vr (Je Q5 (X0 Qd (pv 7) (pv 9) rfl) (X0 Qd (Jo J9 (pv 10) Zo (fun _ _=>rfl)) (pv 9) rfl) (Js _))))) (Zv (Jj Ao)) Jz)))))
  (Zm (Xi PassesOwn.never rfl (Yn (Z6 LSb.ok hr rfl LSb.mg LSb.kp LSb.bd .nil Jn (Zb (pv 1) (Zb (pv 2) (Zb (J8 (Tx rfl) rfl mLi J5 (Zb (Zmx PySem.F.plainAttrs_dict PySem.F.slot_dict_keys PySem.F.type_dict_keys Zhe (pv 6)) Zk)) Zk))))) (N4 rfl (Yb (Jm (i:=11) scLaw.nd rfl (Or.inl rfl)) (Yb (Jm (i:=12) scLaw.nd rfl (Or.inl rfl)) Qu)))
   (Zv (Yh (Je Q5 (Ry hu (pv 6) (pv 11) (fun _ _=>rfl)) (Ry hu (pv 6) (pv 12) (fun _ _=>rfl)) (Js _)) (Zv (Jj Ao)) Jz)))
  (Zv (Jj Ao))))))))))),?_⟩
 have z1000:=Jp 1000 (by decide);refine Jy (fun v H1=>∃(d:Addr) (fx:Fx) (t:Option Nat) (sz:Nat),v = .ref d∧Same H H1∧IsRt H1 d fx t sz∧fx.Ok∧TrB t∧sz≤4∧sz * fx.n≤fx.s * fx.h) (fun R hR=>⟨_,rfl,a,ns,4,rfl,hS,h63,by decide,fun d f t sz H' s1 _ hRt ok tb szm _ szn=>hR _ _ ⟨d,f,t,sz,rfl,s1,hRt,ok,tb,szm,szn⟩⟩) (fun v H1 z=>?_);obtain⟨d,fx,t,sz,rfl,s1,hRt,ok,tb,sz4,szn⟩:=z;have n4:fx.n≤4:=by rcases ok.n34 with e | e<;>omega
 have n0:0 < fx.n:=by rcases ok.n34 with e | e<;>omega
 have nz:fx.n * sz≤4 * 4:=Nat.mul_le_mul n4 sz4;have hS1:=s1.seq hS;refine Jy (fun v H2=>∃(st:Addr) (css:List (List Nat)) (lead:Nat) (ys:List Nat) (m:Nat),v = .ref st∧Same H1 H2∧IsSt H2 st css lead ys∧StOk fx css lead ys m∧Yu (css.map hN)≤9) (fun R hR=>?_) (fun v H2 z=>?_)
 ·refine⟨_,rfl,_,rfl,_,rfl,_,rfl,a,ns,d,fx,t,sz,rfl,hS1,h63,ok,hRt,by omega,fun steps s1000 h11=>⟨a,ns,d,fx,t,sz,steps,rfl,hS1,h63,ok,hRt,szn,s1000,fun st css lead ys m H2 s2 hSt S tot=>hR _ _ ⟨st,css,lead,ys,m,rfl,s2,hSt,S,?_⟩⟩⟩
  unfold Yu;omega
 obtain⟨st,css,lead,ys,m,rfl,s2,hSt2,S,t9⟩:=z;have s12:=s1.trans s2;have hRt2:=hRt.same s2;refine Jy (fun v H3=>Same H2 H3∧∃ gm gx,v = .ref gm∧GamH CT CG fx t H3 gm gx) (fun R hR=>⟨_,rfl,d,fx,t,sz,rfl,ok,tb,hRt2,fun gm gx HG sG G=>hR _ _ ⟨sG,gm,gx,rfl,G⟩⟩) (fun v H3 z=>?_);obtain⟨s3,gm,gx,rfl,G3⟩:=z;have s13:=s12.trans s3;have hSt3:=hSt2.same s3;refine Jy (fun v H5=>Same H3 H5∧∃ p,v = .ref p∧IsPl H5 p (css.map hN) lead ys) (fun R hR=>⟨_,rfl,st,fx,css,lead,m,ys,rfl,ok,hSt3,S,fun p H5 s5 hp=>hR _ _ ⟨s5,p,rfl,hp⟩⟩) (fun v H5 z=>?_);obtain⟨s5,p,rfl,hp5⟩:=z;have G5:=G3.same s5;have hRt5:=(hRt2.same s3).same s5;have hSt5:=hSt3.same s5;obtain⟨lo,lp,lh,hD,hO,hP,hT⟩:=id hRt5;obtain⟨g1,g2,g3,g4,g5,g6⟩:=@N1 fx t sz lo;have hS5:=(s13.trans s5).seq hS;have Pl:=S.plc;refine Jy (fun v H6=>H5=H6∧∃ side:Nat,v = .int (side:Nat)) (fun R hR=>⟨_,rfl,a,ns,9,rfl,hS5,h63,by decide,by decide,fun z=>⟨_,rfl,d,_,_,_,rfl,rfl,SqT.of hD,g1,_,_,rfl,rfl,⟨by omega,by omega,by decide⟩,?_⟩⟩) (fun v H6 z=>?_)
 ·show rI (fun _ j=>0 < j) (fun i j=>V.int (i % j)) (V.int z) (V.int ((1:Int) * 2 ^ (((fx.n:Nat):Int)).toNat)) H5 R
  rw[Dw];have p2:0 < 2 ^ fx.n:=Nat.two_pow_pos _;have r0:=J7 z (show((2 ^ fx.n:Nat):Int)≠0 by omega);exact⟨_,_,rfl,rfl,(by show(0:Int) < ((2 ^ fx.n:Nat):Int);omega),hR _ _ ⟨rfl,(z % ((2 ^ fx.n:Nat):Int)).toNat,Nr r0⟩⟩
 obtain⟨rfl,side,rfl⟩:=z;refine Jy (fun v H6=>∃ nd,v = .ref nd∧H5 nd=none∧H6=upd H5 nd (.dK [])) (fun R hR=>fun nd hnd=>hR _ _ ⟨nd,rfl,hnd,rfl⟩) (fun v H6 z=>?_);obtain⟨nd,rfl,hnd,rfl⟩:=z;have s6:=Zx hnd (.dK []);have pup:=Zo7 fx t side (css.map hN) lead ys m;have pl32:=Zf7 fx t side (css.map hN) lead ys m;refine Xg (fun σ H8=>(∀ b o,b≠nd→H5 b=some o→H8 b=some o)∧H8 nd=some (.dK (kvL (prL fx t side (css.map hN) lead ys m)))∧∃(x7 x8:Option V),σ=[some (.ref a),some (.ref d),some (.ref st),some (.ref gm),some (.ref p),some (.int (side:Nat)),some (.ref nd),x7,x8,none,none,none,none]) (fun D' er nx=>?_) (fun σ H8 z=>?_)
 ·refine⟨_,rfl,_,rfl,_,rfl,gm,gx,p,t,fx,side,_,lead,ys,m,rfl,tb,G5.same s6,hp5.same s6,Pl,by omega,fun l1 H7 s7 hl1 Pr=>?_⟩
  obtain⟨as,hA,la,hPA⟩:=Zby Pr;have nl1:l1≠nd:=fun z=>by rw[z,Zn] at hl1;cases hl1
  refine⟨l1,rfl,⟨_,SqL.of hA⟩,?_⟩;refine Ql (K:=K) (xs:=as.map V.ref) (fun i σ H8=>(∀ b o,b≠nd→H7 b=some o→H8 b=some o)∧H8 nd=some (.dK (kvL ((prL fx t side (css.map hN) lead ys m).take i)))∧∃(x7 x8:Option V),σ=[some (.ref a),some (.ref d),some (.ref st),some (.ref gm),some (.ref p),some (.int (side:Nat)),some (.ref nd),x7,x8,none,none,none,none])
   ⟨fun b o _ e=>e,by rw[List.take_zero];exact s7 _ _ Zn,none,none,rfl⟩ (fun i σ H8 _ z=>SqL.of (z.1 _ _ nl1 hA)) (fun i v σ H8 hv z=>?_) (fun σ H8 z=>?_)
  ·obtain⟨k8,hd8,x7,x8,rfl⟩:=z
   rw[Zl] at hv;obtain⟨u,hu',rfl⟩:=Option.map_eq_some_iff.mp hv;obtain⟨x,ex,ht⟩:=hPA i u hu';have nu:u≠nd:=fun z=>by rw[z,s7 _ _ Zn] at ht;cases ht
   have il:=(Zh.mp ex).1;refine⟨u,_,rfl,SqT.of (k8 _ _ nu ht),rfl,_,_,rfl,_,_,rfl,rfl,?_⟩;have none1:Ep (kvL ((prL fx t side (css.map hN) lead ys m).take i)) (Sum.inl ((x.1:Nat):Int))=none:=Zko fun y hy=>by
    obtain⟨j,hj,ej⟩:=Z2.mp hy;rw[List.length_take] at hj;rw[List.getElem_take] at ej;have w:=List.pairwise_iff_getElem.mp pup j i (by omega) il (by omega);rw[ej] at w;have e2:(prL fx t side (css.map hN) lead ys m)[i]=x:=by rw[Za il] at ex;exact Zr ex
    rw[e2] at w;omega
   have len8:(kvL ((prL fx t side (css.map hN) lead ys m).take i)).length < sizeLine:=by
    unfold kvL;rw[Zf,List.length_take];exact Z3 (by omega) z1000
   refine⟨_,rfl,_,rfl,_,rfl,nd,_,rfl,DPut.k (k:=Sum.inl ((x.1:Nat):Int)) hd8 len8,fun b o h1 h2=>?_,?_,_,_,rfl⟩
   ·rw[Jf h1]
    exact k8 b o h1 h2
   ·rw[Zn,Zf5 _ none1,List.take_add_one,ex]
    unfold kvL;rw[Ju];rfl
  ·obtain⟨k8,hd8,x7,x8,rfl⟩:=z
   rw[Zf,la,List.take_length] at hd8;exact nx _ _ ⟨fun b o h1 h2=>k8 b o h1 (s7 _ _ (s6 _ _ h2)),hd8,x7,x8,rfl⟩
 obtain⟨k8,hd8,x7,x8,rfl⟩:=z;have s8:Same H5 H8:=fun b o e=>k8 b o (Jv e hnd) e;refine Jy (fun v H9=>Same H8 H9∧∃ lb,v = .ref lb∧H9 lb=some (.lst (vN (bestL fx t side (css.map hN) lead ys m)))) (fun R hR=>⟨_,rfl,_,rfl,_,rfl,gm,gx,p,t,fx,side,_,lead,ys,m,rfl,tb,G5.same s8,hp5.same s8,Pl,by omega,fun lb H9 s9 _ hb=>hR _ _ ⟨s9,lb,rfl,hb⟩⟩) (fun v H9 z=>?_);obtain⟨s9,lb,rfl,hb9⟩:=z;have hd9:=s9 _ _ hd8;have s59:=s8.trans s9;have num:∀ c∈moveL fx t (css.map hN) lead ys m,Ep (kvL (prL fx t side (css.map hN) lead ys m)) (Sum.inl ((c:Nat):Int))=some (V.int ((numP fx t side (css.map hN) lead ys c:Nat):Int)):=fun c hc=>by
  have:=Zkn (x:=(c,numP fx t side (css.map hN) lead ys c)) pup (by unfold prL;exact Zw.mpr ⟨c,hc,rfl⟩);exact this
 have neq:∀ c e:Nat,numP fx t side (css.map hN) lead ys c=numP fx t side (css.map hN) lead ys e→(!decide (V.int ((numP fx t side (css.map hN) lead ys c:Nat):Int)=V.int ((numP fx t side (css.map hN) lead ys e:Nat):Int)))=false:=fun c e h=>by rw[h,Ze rfl];rfl
 refine Xg (fun σ HB=>Same H9 HB∧∃(x7 x10:Option V),σ=[some (.ref a),some (.ref d),some (.ref st),some (.ref gm),some (.ref p),some (.int (side:Nat)),some (.ref nd),x7,x8,some (.ref lb),x10,none,none]) (fun D' er nx=>?_) (fun σ HB z=>?_)
 ·refine⟨_,rfl,_,rfl,gm,gx,p,t,fx,css.map hN,ys,lead,m,rfl,G5.same s59,tb,hp5.same s59,Pl,fun l2 as2 gss HA sA hl2 hL2 D2 _ _ gk _ gl=>⟨l2,rfl,⟨_,SqL.of hL2⟩,?_⟩⟩
  have hdA:=sA _ _ hd9;have hbA:=sA _ _ hb9;refine Ql (K:=K) (xs:=as2.map V.ref) (fun i σ HB=>HB=HA∧∃(x7 x10:Option V),σ=[some (.ref a),some (.ref d),some (.ref st),some (.ref gm),some (.ref p),some (.int (side:Nat)),some (.ref nd),x7,x8,some (.ref lb),x10,none,none])
   ⟨rfl,_,_,rfl⟩ (fun i σ HB _ z=>z.1 ▸ SqL.of hL2) (fun i v σ HB hv z=>?_) (fun σ HB z=>nx _ _ ⟨z.1 ▸ sA,z.2⟩)
  obtain⟨rfl,x7,x10,rfl⟩:=z;rw[Zl] at hv;obtain⟨u,hu',rfl⟩:=Option.map_eq_some_iff.mp hv;obtain⟨g,eg,hg⟩:=D2.2 i u hu';have gm':=Zg eg;obtain⟨uu,kk,_,gcl⟩:=gk.cl g gm';have gne:=(gk.up g gm').1;have hh:=Ot gne;have hhm:=(gcl _).mp hh;have at0:Xb (vN g) 0=some (V.int ((g.headD 0:Nat):Int)):=by
   match g,gne with
   | y :: r,_=>exact(U7 (xs:=vN (y :: r)) (j:=0) rfl:Xb (vN (y :: r)) ((0:Nat):Int)=_)
  refine⟨_,rfl,u,rfl,⟨_,SqL.of hg⟩,Ql (K:=K) (xs:=vN g) (fun j σ HC=>HC=HB∧∃(x7:Option V),σ=[some (.ref a),some (.ref d),some (.ref st),some (.ref gm),some (.ref p),some (.int (side:Nat)),some (.ref nd),x7,x8,some (.ref lb),some (.ref u),none,none])
   ⟨rfl,_,rfl⟩ (fun j σ HC _ z=>z.1 ▸ SqL.of hg) (fun j v σ HC hv z=>?_) (fun σ HC z=>?_)⟩
  ·obtain⟨rfl,x7,rfl⟩:=z
   obtain⟨c,hc,rfl⟩:=Eb hv;have cm:=(gcl c).mp (Zg hc);have en:numP fx t side (css.map hN) lead ys c=numP fx t side (css.map hN) lead ys (g.headD 0):=Db ok Pl hhm.1 cm.1 (hhm.2.1.trans cm.2.1.symm) (hhm.2.2.trans cm.2.2.symm);refine⟨_,rfl,_,rfl,nd,_,rfl,by rw[← num c cm.1];exact DGet.k (k:=Sum.inl ((c:Nat):Int)) hdA,_,rfl,_,rfl,u,_,_,_,rfl,rfl,SqL.of hg,at0,nd,_,rfl,by rw[← num _ hhm.1];exact DGet.k (k:=Sum.inl ((g.headD 0:Nat):Int)) hdA,rfl,_,rfl,No (neq _ _ en) (Yv ?_)⟩;refine⟨_,rfl,_,rfl,lb,_,rfl,.inl (SqL.of hbA),rfl,Xz _,_,rfl,u,_,_,_,rfl,rfl,SqL.of hg,at0,_,rfl,lb,_,rfl,.inl (SqL.of hbA),rfl,Xz _,rfl,_,rfl,No ?_ (Yv ⟨rfl,_,rfl⟩)⟩;show(!decide (V.bl (Mu (.int ((c:Nat):Int)) (vN (bestL fx t side (css.map hN) lead ys m)))=V.bl (Mu (.int ((g.headD 0:Nat):Int)) (vN (bestL fx t side (css.map hN) lead ys m)))))=false;rw[B3,B3];have eb:decide (c∈bestL fx t side (css.map hN) lead ys m)=decide (g.headD 0∈bestL fx t side (css.map hN) lead ys m):=decide_eq_decide.mpr (by rw[K0 cm.1,K0 hhm.1,en]);rw[eb,Ze rfl];rfl
  ·obtain⟨rfl,x7,rfl⟩:=z
   exact⟨rfl,_,_,rfl⟩
 obtain⟨sA,x7,x10,rfl⟩:=z;have hdA:=sA _ _ hd9;have s5A:=s59.trans sA;have mvl:(kvL (prL fx t side (css.map hN) lead ys m)).map (fun kv=>kV kv.1)=vN (moveL fx t (css.map hN) lead ys m):=by
  unfold kvL prL vN;rw[Z1,Z1];rfl
 refine⟨_,rfl,_,rfl,_,rfl,.inr (.inr (.inl ⟨rfl,.inl ⟨_,hdA⟩⟩)),nd,_,rfl,rfl,hdA,fun vw hvw=>?_⟩;have sv:=Zx hvw (Dc vw nd);refine⟨vw,nd,_,rfl,Zn,sv _ _ hdA,fun l3 hl3=>?_⟩;rw[mvl] at *;have s3':=Zx hl3 (.lst (vN (moveL fx t (css.map hN) lead ys m)));have sA3:=sv.trans s3';have s53:=s5A.trans sA3;refine⟨d,st,l3,fx,t,sz,css,lead,m,ys,moveL fx t (css.map hN) lead ys m,rfl,ok,hRt5.same s53,hSt5.same s53,S,Zn,?_,fun c hc=>?_,fun l4 ps HD sD hps pl hx=>?_⟩
 ·have:(moveL fx t (css.map hN) lead ys m).length=(prL fx t side (css.map hN) lead ys m).length:=by unfold prL;rw[Zf]
  omega
 ·obtain⟨h,_,_,c32,_,ch,_⟩:=Bv ok Pl hc
  exact⟨c32,ch,fun z=>Nk ok Pl c z hc⟩
 obtain⟨as4,hA4,la4,hP4⟩:=Zby hps;have hdD:=sD _ _ (sA3 _ _ hdA);refine⟨l4,rfl,⟨_,SqL.of hA4⟩,Ql (K:=K) (xs:=as4.map V.ref) (fun i σ HE=>HE=HD∧∃(x11 x12:Option V),σ=[some (.ref a),some (.ref d),some (.ref st),some (.ref gm),some (.ref p),some (.int (side:Nat)),some (.ref nd),x7,x8,some (.ref lb),x10,x11,x12])
  ⟨rfl,_,_,rfl⟩ (fun i σ HE _ z=>z.1 ▸ SqL.of hA4) (fun i v σ HE hv z=>?_) (fun σ HE z=>?_)⟩
 ·obtain⟨rfl,x11,x12,rfl⟩:=z
  rw[Zl] at hv;obtain⟨u,hu',rfl⟩:=Option.map_eq_some_iff.mp hv;obtain⟨x,ex,ht⟩:=hP4 i u hu';obtain⟨x1,x2,x3,x4⟩:=hx x (Zg ex);refine⟨u,_,rfl,SqT.of ht,rfl,_,_,rfl,_,_,rfl,rfl,?_⟩;have en:numP fx t side (css.map hN) lead ys x.1=numP fx t side (css.map hN) lead ys x.2:=(Db ok Pl x1 x2 x3 x4).symm;exact⟨_,rfl,_,rfl,nd,_,rfl,by rw[← num _ x1];exact DGet.k (k:=Sum.inl ((x.1:Nat):Int)) hdD,_,rfl,_,rfl,nd,_,rfl,by rw[← num _ x2];exact DGet.k (k:=Sum.inl ((x.2:Nat):Int)) hdD,rfl,_,rfl,No (neq _ _ en) (Yv ⟨rfl,_,_,rfl⟩)⟩
 ·obtain⟨rfl,x11,x12,rfl⟩:=z
  exact q _
end
theorem all_mk{wd dtd:Option Addr}{dtc:Value}{tw1 tw2 tw3 tw4 tw5:Tok}{wn dtn:Nat}{wsl dts:Array (Option Value)}{l:W.OpenLaw}{w:World}{K:W.Frag}{h:Heap}{mg:Str→Option Value}{fa f1 f2 f3 f4 f5 f6 f7 f8 f9 f10 f11 f12 f13 f14 f15 f16 f17 f18 f19 f20 f21 f22 f23 f24 f25 f26 f27 f28 f29 f30 f31 f32 f33 f34 f35 f36 f37 f38 f39 f40 f_F f_L f_C f_B f_AF f_AL f_AC f_AB f_I f_D f_O f_G f_S f_V f_M f_W f_P f_RI f_RB f_RP f_RA f_RC CN CF CL CC CB CT CG aM dT CR:Addr}(X:K.In h)(G:h.Ns mainGlobals mg)(hfa:mg "law" = some (.ref fa))
  {d1 d2 d3 d4 d5 d6 d7 d8 d9 d10 d11 d12 d13 d14 d15 d16 d17 d18 d19 d20 d21 d22 d23 d24 d25 d26 d27 d28 d29 d30 d31 d32 d33 d34 d35 d36 d37 d38 d39 d_F d_L d_C d_B d_AF d_AL d_AC d_AB d_I d_D d_O d_S d_V d_M d_W d_P d_RI d_RB d_RP d_RA d_RC:FuncData} {od40 an40 od_G an_G:Option Addr} {sl40 sl_G:Array (Option Value)} {oc40 kV40 dc40 pm40 cd40 ct40 oc_G kV_G dc_G pm_G cd_G ct_G:Value} {t1 t2 t3 t4 t5:Tok}
  (a1:W.nsIn K mainGlobals "duty_of" = some (some (.ref f1)))
  (a2:W.nsIn K mainGlobals "words_behind_marks" = some (some (.ref f2)))
  (a3:W.nsIn K mainGlobals "read_size" = some (some (.ref f3)))
  (a4:W.nsIn K mainGlobals "read_seats" = some (some (.ref f4)))
  (a5:W.nsIn K mainGlobals "read_order" = some (some (.ref f5)))
  (a6:W.nsIn K mainGlobals "is_later" = some (some (.ref f6)))
  (a7:W.nsIn K mainGlobals "cards_in" = some (some (.ref f7)))
  (a8:W.nsIn K mainGlobals "hand_of" = some (some (.ref f8)))
  (a9:W.nsIn K mainGlobals "of_suit" = some (some (.ref f9)))
  (a10:W.nsIn K mainGlobals "of_led_suit" = some (some (.ref f10)))
  (a11:W.nsIn K mainGlobals "followed_or_cut" = some (some (.ref f11)))
  (a12:W.nsIn K mainGlobals "goes_over_all" = some (some (.ref f12)))
  (a13:W.nsIn K mainGlobals "many" = some (some (.ref f13)))
  (a14:W.nsIn K mainGlobals "seat_round" = some (some (.ref f14)))
  (a15:W.nsIn K mainGlobals "turn_at" = some (some (.ref f15)))
  (a16:W.nsIn K mainGlobals "moves" = some (some (.ref f16)))
  (a17:W.nsIn K mainGlobals "left" = some (some (.ref f17)))
  (a18:W.nsIn K mainGlobals "behind" = some (some (.ref f18)))
  (a19:W.nsIn K mainGlobals "has_seat" = some (some (.ref f19)))
  (a20:W.nsIn K mainGlobals "gain" = some (some (.ref f20)))
  (a21:W.nsIn K mainGlobals "refuse_too_many" = some (some (.ref f21)))
  (a22:W.nsIn K mainGlobals "told" = some (some (.ref f22)))
  (a23:W.nsIn K mainGlobals "best" = some (some (.ref f23)))
  (a24:W.nsIn K mainGlobals "_law_mixed" = some (some (.ref f24)))
  (a25:W.nsIn K mainGlobals "_law_order" = some (some (.ref f25)))
  (a26:W.nsIn K mainGlobals "_law_rules" = some (some (.ref f26)))
  (a27:W.nsIn K mainGlobals "_law_text" = some (some (.ref f27)))
  (a28:W.nsIn K mainGlobals "_law_game" = some (some (.ref f28)))
  (a29:W.nsIn K mainGlobals "_law_strength" = some (some (.ref f29)))
  (a30:W.nsIn K mainGlobals "_law_may" = some (some (.ref f30)))
  (a31:W.nsIn K mainGlobals "_law_turn" = some (some (.ref f31)))
  (a32:W.nsIn K mainGlobals "_law_put" = some (some (.ref f32)))
  (a33:W.nsIn K mainGlobals "_law_state" = some (some (.ref f33)))
  (a34:W.nsIn K mainGlobals "_law_place" = some (some (.ref f34)))
  (a35:W.nsIn K mainGlobals "cards_of_others" = some (some (.ref f35)))
  (a36:W.nsIn K mainGlobals "groups_of_suit" = some (some (.ref f36)))
  (a37:W.nsIn K mainGlobals "alike" = some (some (.ref f37)))
  (a38:W.nsIn K mainGlobals "_law_steps" = some (some (.ref f38)))
  (a39:W.nsIn K mainGlobals "_law_side_by_side" = some (some (.ref f39)))
  (a40:W.nsIn K mainGlobals "law" = some (some (.ref f40)))
  (hCN:W.nsIn K mainGlobals "NoTable" = some (some (.ref CN)))
  (hCF:W.nsIn K mainGlobals "Free" = some (some (.ref CF)))
  (hCL:W.nsIn K mainGlobals "Follow" = some (some (.ref CL)))
  (hCC:W.nsIn K mainGlobals "Cut" = some (some (.ref CC)))
  (hCB:W.nsIn K mainGlobals "Beat" = some (some (.ref CB)))
  (hCT:W.nsIn K mainGlobals "Table" = some (some (.ref CT)))
  (hCG:W.nsIn K mainGlobals "Game" = some (some (.ref CG)))
  (w1:W.nsIn K mainGlobals "MARKS" = some (some (.ref aM)))
  (hCR:W.nsIn K mainGlobals "Reckoning" = some (some (.ref CR)))
  (l40:K.lookup f40=some ⟨oc40,od40,.func (W.fnOf "law" "law" (U6 D4) (Yz D4) (Zp D4) .none kV40 dc40 pm40 an40 cd40 ct40),sl40⟩)
  (c40:W.codeIn K cd40 "law" = true)
  (k40:W.keepIn K (.ref f40)=true)
  (a_F:W.findIn K (.ref CF) "word" = some (some (.ref f_F)))
  (i_F:W.isFn K (.ref f_F)=true)
  (a_L:W.findIn K (.ref CL) "word" = some (some (.ref f_L)))
  (i_L:W.isFn K (.ref f_L)=true)
  (a_C:W.findIn K (.ref CC) "word" = some (some (.ref f_C)))
  (i_C:W.isFn K (.ref f_C)=true)
  (a_B:W.findIn K (.ref CB) "word" = some (some (.ref f_B)))
  (i_B:W.isFn K (.ref f_B)=true)
  (a_AF:W.findIn K (.ref CF) "allowed" = some (some (.ref f_AF)))
  (i_AF:W.isFn K (.ref f_AF)=true)
  (a_AL:W.findIn K (.ref CL) "allowed" = some (some (.ref f_AL)))
  (i_AL:W.isFn K (.ref f_AL)=true)
  (a_AC:W.findIn K (.ref CC) "allowed" = some (some (.ref f_AC)))
  (i_AC:W.isFn K (.ref f_AC)=true)
  (a_AB:W.findIn K (.ref CB) "allowed" = some (some (.ref f_AB)))
  (i_AB:W.isFn K (.ref f_AB)=true)
  (a_I:W.findIn K (.ref CT) "__init__" = some (some (.ref f_I)))
  (i_I:W.isFn K (.ref f_I)=true)
  (a_D:W.findIn K (.ref CT) "duty" = some (some (.ref f_D)))
  (i_D:W.isFn K (.ref f_D)=true)
  (a_O:W.findIn K (.ref CT) "order" = some (some (.ref f_O)))
  (i_O:W.isFn K (.ref f_O)=true)
  (a_G:W.findIn K (.ref CG) "__init__" = some (some (.ref f_G)))
  (l_G:K.lookup f_G=some ⟨oc_G,od_G,.func (W.fnOf "__init__" "Game.__init__" (U6 Ul) (Yz Ul) (Zp Ul) (.ref dT) kV_G dc_G pm_G an_G cd_G ct_G),sl_G⟩)
  (c_G:W.codeIn K cd_G "Game.__init__" = true)
  (k_G:W.keepIn K (.ref f_G)=true)
  (i_G:W.isFn K (.ref f_G)=true)
  (a_S:W.findIn K (.ref CG) "is_stronger" = some (some (.ref f_S)))
  (i_S:W.isFn K (.ref f_S)=true)
  (a_V:W.findIn K (.ref CG) "is_over" = some (some (.ref f_V)))
  (i_V:W.isFn K (.ref f_V)=true)
  (a_M:W.findIn K (.ref CG) "may" = some (some (.ref f_M)))
  (i_M:W.isFn K (.ref f_M)=true)
  (a_W:W.findIn K (.ref CG) "winner" = some (some (.ref f_W)))
  (i_W:W.isFn K (.ref f_W)=true)
  (a_P:W.findIn K (.ref CG) "pack" = some (some (.ref f_P)))
  (i_P:W.isFn K (.ref f_P)=true)
  (a_RI:W.findIn K (.ref CR) "__init__" = some (some (.ref f_RI)))
  (i_RI:W.isFn K (.ref f_RI)=true)
  (a_RB:W.findIn K (.ref CR) "made_by" = some (some (.ref f_RB)))
  (i_RB:W.isFn K (.ref f_RB)=true)
  (a_RP:W.findIn K (.ref CR) "pairs" = some (some (.ref f_RP)))
  (i_RP:W.isFn K (.ref f_RP)=true)
  (a_RA:W.findIn K (.ref CR) "made_at" = some (some (.ref f_RA)))
  (i_RA:W.isFn K (.ref f_RA)=true)
  (a_RC:W.findIn K (.ref CR) "choice" = some (some (.ref f_RC)))
  (i_RC:W.isFn K (.ref f_RC)=true)
  (g1:W.nsIn K mainGlobals "HEIGHTS" = some (some (.int 8 t1)))
  (g2:W.nsIn K mainGlobals "LETTERS" = some (some (.str "abcd" t2)))
  (g3:W.nsIn K mainGlobals "FIGURES" = some (some (.str "12345678" t3)))
  (g4:W.nsIn K mainGlobals "LOWEST_SUIT" = some (some (.int 255 t4)))
  (g5:W.nsIn K mainGlobals "MOST_CARDS" = some (some (.int 12 t5)))
  (z1:W.nsIn K mainGlobals "len" = some none)
  (z2:W.nsIn K mainGlobals "range" = some none)
  (z3:W.nsIn K mainGlobals "isinstance" = some none)
  (z4:W.nsIn K mainGlobals "int" = some none)
  (z5:W.nsIn K mainGlobals "str" = some none)
  (z6:W.nsIn K mainGlobals "list" = some none)
  (z7:W.nsIn K mainGlobals "tuple" = some none)
  (z8:W.nsIn K mainGlobals "sorted" = some none)
  (z9:W.nsIn K mainGlobals "sum" = some none)
  (z10:W.nsIn K mainGlobals "all" = some none)
  (z11:W.nsIn K mainGlobals "any" = some none)
  (z12:W.nsIn K mainGlobals "enumerate" = some none)
  (z13:W.nsIn K mainGlobals "max" = some none)
  (z14:W.nsIn K mainGlobals "min" = some none)
  (pgCF:W.plainGet K CF Str.empty=true)
  (hdCF:W.hasDictIn K CF=true)
  (poCF:W.plainOver K CF=true)
  (saCF:W.findIn K (.ref CF) "__setattr__" = some (some (.builtin "object.__setattr__")))
  (mkCF:W.makesIn K CF=true)
  (kcCF:W.keepIn K (.ref CF)=true)
  (oiCF:W.findIn K (.ref CF) "__init__" = some (some (.builtin "object.__init__")))
  (pgCL:W.plainGet K CL Str.empty=true)
  (hdCL:W.hasDictIn K CL=true)
  (poCL:W.plainOver K CL=true)
  (saCL:W.findIn K (.ref CL) "__setattr__" = some (some (.builtin "object.__setattr__")))
  (mkCL:W.makesIn K CL=true)
  (kcCL:W.keepIn K (.ref CL)=true)
  (oiCL:W.findIn K (.ref CL) "__init__" = some (some (.builtin "object.__init__")))
  (pgCC:W.plainGet K CC Str.empty=true)
  (hdCC:W.hasDictIn K CC=true)
  (poCC:W.plainOver K CC=true)
  (saCC:W.findIn K (.ref CC) "__setattr__" = some (some (.builtin "object.__setattr__")))
  (mkCC:W.makesIn K CC=true)
  (kcCC:W.keepIn K (.ref CC)=true)
  (oiCC:W.findIn K (.ref CC) "__init__" = some (some (.builtin "object.__init__")))
  (pgCB:W.plainGet K CB Str.empty=true)
  (hdCB:W.hasDictIn K CB=true)
  (poCB:W.plainOver K CB=true)
  (saCB:W.findIn K (.ref CB) "__setattr__" = some (some (.builtin "object.__setattr__")))
  (mkCB:W.makesIn K CB=true)
  (kcCB:W.keepIn K (.ref CB)=true)
  (oiCB:W.findIn K (.ref CB) "__init__" = some (some (.builtin "object.__init__")))
  (pgCT:W.plainGet K CT Str.empty=true)
  (hdCT:W.hasDictIn K CT=true)
  (poCT:W.plainOver K CT=true)
  (saCT:W.findIn K (.ref CT) "__setattr__" = some (some (.builtin "object.__setattr__")))
  (mkCT:W.makesIn K CT=true)
  (kcCT:W.keepIn K (.ref CT)=true)
  (pgCG:W.plainGet K CG Str.empty=true)
  (hdCG:W.hasDictIn K CG=true)
  (poCG:W.plainOver K CG=true)
  (saCG:W.findIn K (.ref CG) "__setattr__" = some (some (.builtin "object.__setattr__")))
  (mkCG:W.makesIn K CG=true)
  (kcCG:W.keepIn K (.ref CG)=true)
  (nTS:W.findIn K (.ref CT) "suits" = some none)
  (nTH:W.findIn K (.ref CT) "heights" = some none)
  (nTN:W.findIn K (.ref CT) "seats" = some none)
  (nTD:W.findIn K (.ref CT) "duty_word" = some none)
  (nTP:W.findIn K (.ref CT) "plain_order" = some none)
  (nTT:W.findIn K (.ref CT) "trump_order" = some none)
  (nTW:W.findIn K (.ref CT) "written" = some none)
  (nGT:W.findIn K (.ref CG) "table" = some none)
  (nGU:W.findIn K (.ref CG) "trump" = some none)
  (w2:K.lookup aM=some ⟨.type "tuple",wd,.seq #[.str "pack" tw1,.str "seats" tw2,.str "duty" tw3,.str "plain" tw4,.str "trump" tw5] wn,wsl⟩)
  (w3:K.lookup dT=some ⟨dtc,dtd,.seq #[.none] dtn,dts⟩)
  (pgCR:W.plainGet K CR Str.empty=true)
  (hdCR:W.hasDictIn K CR=true)
  (poCR:W.plainOver K CR=true)
  (saCR:W.findIn K (.ref CR) "__setattr__" = some (some (.builtin "object.__setattr__")))
  (mkCR:W.makesIn K CR=true)
  (kcCR:W.keepIn K (.ref CR)=true)
  (nR1:W.findIn K (.ref CR) "game" = some none)
  (nR2:W.findIn K (.ref CR) "side" = some none)
  (nR3:W.findIn K (.ref CR) "known" = some none)
  (F1:Fun K "duty_of" "duty_of" D8 f1 d1)
  (F2:Fun K "words_behind_marks" "words_behind_marks" S8 f2 d2)
  (F3:Fun K "read_size" "read_size" Vn f3 d3)
  (F4:Fun K "read_seats" "read_seats" Nz f4 d4)
  (F5:Fun K "read_order" "read_order" Ed f5 d5)
  (F6:Fun K "is_later" "is_later" S9 f6 d6)
  (F7:Fun K "cards_in" "cards_in" Gv f7 d7)
  (F8:Fun K "hand_of" "hand_of" D5 f8 d8)
  (F9:Fun K "of_suit" "of_suit" D3 f9 d9)
  (F10:Fun K "of_led_suit" "of_led_suit" Gq f10 d10)
  (F11:Fun K "followed_or_cut" "followed_or_cut" Zmp f11 d11)
  (F12:Fun K "goes_over_all" "goes_over_all" Bo f12 d12)
  (F13:Fun K "many" "many" Zft f13 d13)
  (F14:Fun K "seat_round" "seat_round" S5 f14 d14)
  (F15:Fun K "turn_at" "turn_at" D0 f15 d15)
  (F16:Fun K "moves" "moves" S6 f16 d16)
  (F17:Fun K "left" "left" Zbv f17 d17)
  (F18:Fun K "behind" "behind" D9 f18 d18)
  (F19:Fun K "has_seat" "has_seat" Gs f19 d19)
  (F20:Fun K "gain" "gain" Zfw f20 d20)
  (F21:Fun K "refuse_too_many" "refuse_too_many" Rs f21 d21)
  (F22:Fun K "told" "told" Zfq f22 d22)
  (F23:Fun K "best" "best" Zbw f23 d23)
  (F24:Fun K "_law_mixed" "_law_mixed" S7 f24 d24)
  (F25:Fun K "_law_order" "_law_order" Gp f25 d25)
  (F26:Fun K "_law_rules" "_law_rules" S4 f26 d26)
  (F27:Fun K "_law_text" "_law_text" Gk f27 d27)
  (F28:Fun K "_law_game" "_law_game" Zfu f28 d28)
  (F29:Fun K "_law_strength" "_law_strength" Zfr f29 d29)
  (F30:Fun K "_law_may" "_law_may" Gr f30 d30)
  (F31:Fun K "_law_turn" "_law_turn" Zaa f31 d31)
  (F32:Fun K "_law_put" "_law_put" V9 f32 d32)
  (F33:Fun K "_law_state" "_law_state" X9 f33 d33)
  (F34:Fun K "_law_place" "_law_place" Ee f34 d34)
  (F35:Fun K "cards_of_others" "cards_of_others" Zmn f35 d35)
  (F36:Fun K "groups_of_suit" "groups_of_suit" Zjd f36 d36)
  (F37:Fun K "alike" "alike" Zac f37 d37)
  (F38:Fun K "_law_steps" "_law_steps" S3 f38 d38)
  (F39:Fun K "_law_side_by_side" "_law_side_by_side" Zmm f39 d39)
  (F_F:Fun K "word" "Free.word" Vo f_F d_F)
  (F_L:Fun K "word" "Follow.word" Ev f_L d_L)
  (F_C:Fun K "word" "Cut.word" Gu f_C d_C)
  (F_B:Fun K "word" "Beat.word" Vq f_B d_B)
  (F_AF:Fun K "allowed" "Free.allowed" D7 f_AF d_AF)
  (F_AL:Fun K "allowed" "Follow.allowed" Vp f_AL d_AL)
  (F_AC:Fun K "allowed" "Cut.allowed" Zab f_AC d_AC)
  (F_AB:Fun K "allowed" "Beat.allowed" Rv f_AB d_AB)
  (F_I:Fun K "__init__" "Table.__init__" Gm f_I d_I)
  (F_D:Fun K "duty" "Table.duty" Gn f_D d_D)
  (F_O:Fun K "order" "Table.order" Vl f_O d_O)
  (F_S:Fun K "is_stronger" "Game.is_stronger" Vm f_S d_S)
  (F_V:Fun K "is_over" "Game.is_over" Zfs f_V d_V)
  (F_M:Fun K "may" "Game.may" Zmo f_M d_M)
  (F_W:Fun K "winner" "Game.winner" Dz f_W d_W)
  (F_P:Fun K "pack" "Game.pack" Zfv f_P d_P)
  (F_RI:Fun K "__init__" "Reckoning.__init__" D1 f_RI d_RI)
  (F_RB:Fun K "made_by" "Reckoning.made_by" Rt f_RB d_RB)
  (F_RP:Fun K "pairs" "Reckoning.pairs" Go f_RP d_RP)
  (F_RA:Fun K "made_at" "Reckoning.made_at" Bn f_RA d_RA)
  (F_RC:Fun K "choice" "Reckoning.choice" Ru f_RC d_RC)
  (x1:W.excIn K CN Nw "ValueError.__new__" = true)
  : ∃ fd:FuncData,(∀(s:Shared) (v:Value),BindsTo s fd ⟨[v],[]⟩ [("_law_script",v)])∧∀ base:Heap,K.In base→base.Ns mainGlobals mg→FnOk l.prog w K mg base Y6 59 fa fd ["_law_script"] (Zbr K):=by
 have e:=hfa.symm.trans (W.mg_of X G a40);cases e;have k1:=F1.kp;have b1:=F1.binds (ps:=["word"]) fun _ _ _ _ _ _ us hl=>match us,hl with | [_],_=>rfl
 have m1:=W.mg_of X G a1;have k2:=F2.kp;have b2:=F2.binds (ps:=["text"]) fun _ _ _ _ _ _ us hl=>match us,hl with | [_],_=>rfl
 have m2:=W.mg_of X G a2;have k3:=F3.kp;have b3:=F3.binds (ps:=["word"]) fun _ _ _ _ _ _ us hl=>match us,hl with | [_],_=>rfl
 have m3:=W.mg_of X G a3;have k4:=F4.kp;have b4:=F4.binds (ps:=["word"]) fun _ _ _ _ _ _ us hl=>match us,hl with | [_],_=>rfl
 have m4:=W.mg_of X G a4;have k5:=F5.kp;have b5:=F5.binds (ps:=["word","heights"]) fun _ _ _ _ _ _ us hl=>match us,hl with | [_,_],_=>rfl
 have m5:=W.mg_of X G a5;have k6:=F6.kp;have b6:=F6.binds (ps:=["order","height","other"]) fun _ _ _ _ _ _ us hl=>match us,hl with | [_,_,_],_=>rfl
 have m6:=W.mg_of X G a6;have k7:=F7.kp;have b7:=F7.binds (ps:=["hand"]) fun _ _ _ _ _ _ us hl=>match us,hl with | [_],_=>rfl
 have m7:=W.mg_of X G a7;have k8:=F8.kp;have b8:=F8.binds (ps:=["cards"]) fun _ _ _ _ _ _ us hl=>match us,hl with | [_],_=>rfl
 have m8:=W.mg_of X G a8;have k9:=F9.kp;have b9:=F9.binds (ps:=["hand","suit"]) fun _ _ _ _ _ _ us hl=>match us,hl with | [_,_],_=>rfl
 have m9:=W.mg_of X G a9;have k10:=F10.kp;have b10:=F10.binds (ps:=["hand","trick"]) fun _ _ _ _ _ _ us hl=>match us,hl with | [_,_],_=>rfl
 have m10:=W.mg_of X G a10;have k11:=F11.kp;have b11:=F11.binds (ps:=["game","hand","trick"]) fun _ _ _ _ _ _ us hl=>match us,hl with | [_,_,_],_=>rfl
 have m11:=W.mg_of X G a11;have k12:=F12.kp;have b12:=F12.binds (ps:=["game","card","trick"]) fun _ _ _ _ _ _ us hl=>match us,hl with | [_,_,_],_=>rfl
 have m12:=W.mg_of X G a12;have k13:=F13.kp;have b13:=F13.binds (ps:=["hand"]) fun _ _ _ _ _ _ us hl=>match us,hl with | [_],_=>rfl
 have m13:=W.mg_of X G a13;have k14:=F14.kp;have b14:=F14.binds (ps:=["game","lead","steps"]) fun _ _ _ _ _ _ us hl=>match us,hl with | [_,_,_],_=>rfl
 have m14:=W.mg_of X G a14;have k15:=F15.kp;have b15:=F15.binds (ps:=["game","place"]) fun _ _ _ _ _ _ us hl=>match us,hl with | [_,_],_=>rfl
 have m15:=W.mg_of X G a15;have k16:=F16.kp;have b16:=F16.binds (ps:=["game","place"]) fun _ _ _ _ _ _ us hl=>match us,hl with | [_,_],_=>rfl
 have m16:=W.mg_of X G a16;have k17:=F17.kp;have b17:=F17.binds (ps:=["place"]) fun _ _ _ _ _ _ us hl=>match us,hl with | [_],_=>rfl
 have m17:=W.mg_of X G a17;have k18:=F18.kp;have b18:=F18.binds (ps:=["game","place","card"]) fun _ _ _ _ _ _ us hl=>match us,hl with | [_,_,_],_=>rfl
 have m18:=W.mg_of X G a18;have k19:=F19.kp;have b19:=F19.binds (ps:=["side","seat"]) fun _ _ _ _ _ _ us hl=>match us,hl with | [_,_],_=>rfl
 have m19:=W.mg_of X G a19;have k20:=F20.kp;have b20:=F20.binds (ps:=["side","taker"]) fun _ _ _ _ _ _ us hl=>match us,hl with | [_,_],_=>rfl
 have m20:=W.mg_of X G a20;have k21:=F21.kp;have b21:=F21.binds (ps:=["place"]) fun _ _ _ _ _ _ us hl=>match us,hl with | [_],_=>rfl
 have m21:=W.mg_of X G a21;have k22:=F22.kp;have b22:=F22.binds (ps:=Ez) fun _ _ _ _ _ _ us hl=>match us,hl with | [_,_,_],_=>rfl
 have m22:=W.mg_of X G a22;have k23:=F23.kp;have b23:=F23.binds (ps:=Ez) fun _ _ _ _ _ _ us hl=>match us,hl with | [_,_,_],_=>rfl
 have m23:=W.mg_of X G a23;have k24:=F24.kp;have b24:=F24.binds (ps:=Eh) fun _ _ _ _ _ _ us hl=>match us,hl with | [_,_],_=>rfl
 have m24:=W.mg_of X G a24;have k25:=F25.kp;have b25:=F25.binds (ps:=G7) fun _ _ _ _ _ _ us hl=>match us,hl with | [_,_,_],_=>rfl
 have m25:=W.mg_of X G a25;have k26:=F26.kp;have b26:=F26.binds (ps:=["_law_script","_law_most"]) fun _ _ _ _ _ _ us hl=>match us,hl with | [_,_],_=>rfl
 have m26:=W.mg_of X G a26;have k27:=F27.kp;have b27:=F27.binds (ps:=["_law_rules_here"]) fun _ _ _ _ _ _ us hl=>match us,hl with | [_],_=>rfl
 have m27:=W.mg_of X G a27;have k28:=F28.kp;have b28:=F28.binds (ps:=["_law_rules_here"]) fun _ _ _ _ _ _ us hl=>match us,hl with | [_],_=>rfl
 have m28:=W.mg_of X G a28;have k29:=F29.kp;have b29:=F29.binds (ps:=G6) fun _ _ _ _ _ _ us hl=>match us,hl with | [_,_,_],_=>rfl
 have m29:=W.mg_of X G a29;have k30:=F30.kp;have b30:=F30.binds (ps:=Aw) fun _ _ _ _ _ _ us hl=>match us,hl with | [_,_,_],_=>rfl
 have m30:=W.mg_of X G a30;have k31:=F31.kp;have b31:=F31.binds (ps:=E4) fun _ _ _ _ _ _ us hl=>match us,hl with | [_],_=>rfl
 have m31:=W.mg_of X G a31;have k32:=F32.kp;have b32:=F32.binds (ps:=Av) fun _ _ _ _ _ _ us hl=>match us,hl with | [_,_,_],_=>rfl
 have m32:=W.mg_of X G a32;have k33:=F33.kp;have b33:=F33.binds (ps:=Bt) fun _ _ _ _ _ _ us hl=>match us,hl with | [_,_,_],_=>rfl
 have m33:=W.mg_of X G a33;have k34:=F34.kp;have b34:=F34.binds (ps:=["_law_state_here"]) fun _ _ _ _ _ _ us hl=>match us,hl with | [_],_=>rfl
 have m34:=W.mg_of X G a34;have k35:=F35.kp;have b35:=F35.binds (ps:=["game","place"]) fun _ _ _ _ _ _ us hl=>match us,hl with | [_,_],_=>rfl
 have m35:=W.mg_of X G a35;have k36:=F36.kp;have b36:=F36.binds (ps:=Zgo) fun _ _ _ _ _ _ us hl=>match us,hl with | [_,_,_,_],_=>rfl
 have m36:=W.mg_of X G a36;have k37:=F37.kp;have b37:=F37.binds (ps:=["game","place"]) fun _ _ _ _ _ _ us hl=>match us,hl with | [_,_],_=>rfl
 have m37:=W.mg_of X G a37;have k38:=F38.kp;have b38:=F38.binds (ps:=G4) fun _ _ _ _ _ _ us hl=>match us,hl with | [_,_],_=>rfl
 have m38:=W.mg_of X G a38;have k39:=F39.kp;have b39:=F39.binds (ps:=Zgn) fun _ _ _ _ _ _ us hl=>match us,hl with | [_,_,_],_=>rfl
 have m39:=W.mg_of X G a39;have F40:=fun_mk (st:=D4) l40 c40 k40;have m40:=W.mg_of X G a40;have k_F:=F_F.kp;have b_F:=F_F.binds (ps:=["self"]) fun _ _ _ _ _ _ us hl=>match us,hl with | [_],_=>rfl
 have m_F:Meth K CF "word" f_F:=⟨a_F,i_F,k_F⟩;have k_L:=F_L.kp;have b_L:=F_L.binds (ps:=["self"]) fun _ _ _ _ _ _ us hl=>match us,hl with | [_],_=>rfl
 have m_L:Meth K CL "word" f_L:=⟨a_L,i_L,k_L⟩;have k_C:=F_C.kp;have b_C:=F_C.binds (ps:=["self"]) fun _ _ _ _ _ _ us hl=>match us,hl with | [_],_=>rfl
 have m_C:Meth K CC "word" f_C:=⟨a_C,i_C,k_C⟩;have k_B:=F_B.kp;have b_B:=F_B.binds (ps:=["self"]) fun _ _ _ _ _ _ us hl=>match us,hl with | [_],_=>rfl
 have m_B:Meth K CB "word" f_B:=⟨a_B,i_B,k_B⟩;have k_AF:=F_AF.kp;have b_AF:=F_AF.binds (ps:=pAl) fun _ _ _ _ _ _ us hl=>match us,hl with | [_,_,_,_],_=>rfl
 have m_AF:Meth K CF "allowed" f_AF:=⟨a_AF,i_AF,k_AF⟩;have k_AL:=F_AL.kp;have b_AL:=F_AL.binds (ps:=pAl) fun _ _ _ _ _ _ us hl=>match us,hl with | [_,_,_,_],_=>rfl
 have m_AL:Meth K CL "allowed" f_AL:=⟨a_AL,i_AL,k_AL⟩;have k_AC:=F_AC.kp;have b_AC:=F_AC.binds (ps:=pAl) fun _ _ _ _ _ _ us hl=>match us,hl with | [_,_,_,_],_=>rfl
 have m_AC:Meth K CC "allowed" f_AC:=⟨a_AC,i_AC,k_AC⟩;have k_AB:=F_AB.kp;have b_AB:=F_AB.binds (ps:=pAl) fun _ _ _ _ _ _ us hl=>match us,hl with | [_,_,_,_],_=>rfl
 have m_AB:Meth K CB "allowed" f_AB:=⟨a_AB,i_AB,k_AB⟩;have k_I:=F_I.kp;have b_I:=F_I.binds (ps:=["self","text"]) fun _ _ _ _ _ _ us hl=>match us,hl with | [_,_],_=>rfl
 have m_I:Meth K CT "__init__" f_I:=⟨a_I,i_I,k_I⟩;have k_D:=F_D.kp;have b_D:=F_D.binds (ps:=["self"]) fun _ _ _ _ _ _ us hl=>match us,hl with | [_],_=>rfl
 have m_D:Meth K CT "duty" f_D:=⟨a_D,i_D,k_D⟩;have k_O:=F_O.kp;have b_O:=F_O.binds (ps:=["self","is_trump"]) fun _ _ _ _ _ _ us hl=>match us,hl with | [_,_],_=>rfl
 have m_O:Meth K CT "order" f_O:=⟨a_O,i_O,k_O⟩;have F_G:=Zk0 (st:=Ul) l_G c_G k_G;have m_G:Meth K CG "__init__" f_G:=⟨a_G,i_G,k_G⟩;have k_S:=F_S.kp;have b_S:=F_S.binds (ps:=["self","card","other"]) fun _ _ _ _ _ _ us hl=>match us,hl with | [_,_,_],_=>rfl
 have m_S:Meth K CG "is_stronger" f_S:=⟨a_S,i_S,k_S⟩;have k_V:=F_V.kp;have b_V:=F_V.binds (ps:=Rf) fun _ _ _ _ _ _ us hl=>match us,hl with | [_,_,_,_],_=>rfl
 have m_V:Meth K CG "is_over" f_V:=⟨a_V,i_V,k_V⟩;have k_M:=F_M.kp;have b_M:=F_M.binds (ps:=["self","hand","trick"]) fun _ _ _ _ _ _ us hl=>match us,hl with | [_,_,_],_=>rfl
 have m_M:Meth K CG "may" f_M:=⟨a_M,i_M,k_M⟩;have k_W:=F_W.kp;have b_W:=F_W.binds (ps:=["self","trick"]) fun _ _ _ _ _ _ us hl=>match us,hl with | [_,_],_=>rfl
 have m_W:Meth K CG "winner" f_W:=⟨a_W,i_W,k_W⟩;have k_P:=F_P.kp;have b_P:=F_P.binds (ps:=["self"]) fun _ _ _ _ _ _ us hl=>match us,hl with | [_],_=>rfl
 have m_P:Meth K CG "pack" f_P:=⟨a_P,i_P,k_P⟩;have k_RI:=F_RI.kp;have b_RI:=F_RI.binds (ps:=["self","game","side"]) fun _ _ _ _ _ _ us hl=>match us,hl with | [_,_,_],_=>rfl
 have m_RI:Meth K CR "__init__" f_RI:=⟨a_RI,i_RI,k_RI⟩;have k_RB:=F_RB.kp;have b_RB:=F_RB.binds (ps:=["self","place","card"]) fun _ _ _ _ _ _ us hl=>match us,hl with | [_,_,_],_=>rfl
 have m_RB:Meth K CR "made_by" f_RB:=⟨a_RB,i_RB,k_RB⟩;have k_RP:=F_RP.kp;have b_RP:=F_RP.binds (ps:=["self","place"]) fun _ _ _ _ _ _ us hl=>match us,hl with | [_,_],_=>rfl
 have m_RP:Meth K CR "pairs" f_RP:=⟨a_RP,i_RP,k_RP⟩;have k_RA:=F_RA.kp;have b_RA:=F_RA.binds (ps:=["self","place"]) fun _ _ _ _ _ _ us hl=>match us,hl with | [_,_],_=>rfl
 have m_RA:Meth K CR "made_at" f_RA:=⟨a_RA,i_RA,k_RA⟩;have k_RC:=F_RC.kp;have b_RC:=F_RC.binds (ps:=["self","place","pairs"]) fun _ _ _ _ _ _ us hl=>match us,hl with | [_,_,_],_=>rfl
 have m_RC:Meth K CR "choice" f_RC:=⟨a_RC,i_RC,k_RC⟩;have mg1:=W.mg_of X G g1;have mg2:=W.mg_of X G g2;have mg3:=W.mg_of X G g3;have mg4:=W.mg_of X G g4;have mg5:=W.mg_of X G g5;have mn_len:=W.mg_none_of X G z1;have mn_range:=W.mg_none_of X G z2;have mn_isinstance:=W.mg_none_of X G z3;have mn_int:=W.mg_none_of X G z4;have mn_str:=W.mg_none_of X G z5;have mn_list:=W.mg_none_of X G z6;have mn_tuple:=W.mg_none_of X G z7;have mn_sorted:=W.mg_none_of X G z8;have mn_sum:=W.mg_none_of X G z9;have mn_all:=W.mg_none_of X G z10;have mn_any:=W.mg_none_of X G z11;have mn_enumerate:=W.mg_none_of X G z12;have mn_max:=W.mg_none_of X G z13;have mn_min:=W.mg_none_of X G z14;refine⟨W.fnOf "law" "law" (U6 D4) (Yz D4) (Zp D4) .none kV40 dc40 pm40 an40 cd40 ct40,fun s v=>.of_eq rfl,fun base _ _=>?_⟩
 let cs:Fin 4→Addr:=p4 CF CL CC CB
 let fw:Fin 4→Addr:=p4 f_F f_L f_C f_B
 let fl:Fin 4→Addr:=p4 f_AF f_AL f_AC f_AB
 have mN:=W.mg_of X G hCN;have D:DutyC K mg cs CN:=⟨W.mg_of X G hCF,W.mg_of X G hCL,W.mg_of X G hCC,W.mg_of X G hCB,fun i=>match i with | 0=>⟨mkCF,oiCF,kcCF⟩ | 1=>⟨mkCL,oiCL,kcCL⟩ | 2=>⟨mkCC,oiCC,kcCC⟩ | 3=>⟨mkCB,oiCB,kcCB⟩,mN,x1⟩;have Wq:∀ k,∃ fdw,Zik l.prog w K mg base (k+1) cs fw fdw:=fun k=>⟨p4 _ _ _ _,fun i=>match i with | 0=>⟨pgCF,hdCF,poCF,saCF⟩ | 1=>⟨pgCL,hdCL,poCL,saCL⟩ | 2=>⟨pgCC,hdCC,poCC,saCC⟩ | 3=>⟨pgCB,hdCB,poCB,saCB⟩,fun i=>match i with | 0=>m_F | 1=>m_L | 2=>m_C | 3=>m_B,fun i=>match i with | 0=>A8 F_F | 1=>T5 F_L | 2=>Zai F_C | 3=>Ka F_B,fun i=>match i with | 0=>b_F | 1=>b_L | 2=>b_C | 3=>b_B⟩;obtain⟨_,W14⟩:=Wq 13;obtain⟨_,W15⟩:=Wq 14;obtain⟨_,W16⟩:=Wq 15;have C:TabC K mg CT:=⟨⟨pgCT,hdCT,poCT,saCT⟩,W.mg_of X G hCT,nTS,nTH,nTN,nTD,nTP,nTT,nTW⟩;have CGm:GamC K mg CG:=⟨⟨pgCG,hdCG,poCG,saCG⟩,W.mg_of X G hCG,nGT,nGU⟩;have hM:∀ H,SqT K H aM (vS Bx):=fun H=>.inr ⟨_,_,_,w2,rfl,rfl,Jp 5 (by decide),.cons ⟨_,rfl⟩ (.cons ⟨_,rfl⟩ (.cons ⟨_,rfl⟩ (.cons ⟨_,rfl⟩ (.cons ⟨_,rfl⟩ .nil))))⟩;have FI:=Zna (k:=16) F_I C ⟨Zg5 (k:=15) F2 (W.mg_of X G w1) hM mN x1 mn_isinstance mn_str mn_len mn_tuple,b2,k2,m2⟩ ⟨Zj4 F3 mg3 mg2 mN x1 mn_len,b3,k3,m3⟩ ⟨Zgy F4 mN x1 mn_int,b4,k4,m4⟩ ⟨Znd F5 mg3 mN x1 mn_sorted mn_list mn_tuple,b5,k5,m5⟩ ⟨Ml (k:=15) F1 D W15,b1,k1,m1⟩ W16;have BG0:Binds K _ ["self","table","trump"] []:=fun s us hX hl=>match us,hl with | [_,_,_],_=>by first | exact .of_eq rfl | exact W.binds_K (fd:=W.fnOf "__init__" "Game.__init__" (U6 Ul) (Yz Ul) (Zp Ul) (.ref dT) kV_G dc_G pm_G an_G cd_G ct_G) hX rfl w3 rfl rfl rfl
 have BG1:Binds K _ ["self","table","trump"] [.none]:=fun s us hX hl=>match us,(show us.length=2 from Nat.succ.inj ((Zs (as:=us) (bs:=[Value.none])).symm.trans hl)) with | [_,_],_=>by exact W.binds_K (fd:=W.fnOf "__init__" "Game.__init__" (U6 Ul) (Yz Ul) (Zp Ul) (.ref dT) kV_G dc_G pm_G an_G cd_G ct_G) hX rfl w3 rfl rfl rfl
 have LO:∀ k,Lib l.prog w K mg base (k+1) "of_suit" ["hand","suit"] (Bj K) f9 _:=fun k=>⟨Zdh F9 mg4 mg1,b9,k9,m9⟩;have LL:∀ k,Lib l.prog w K mg base (k+2) "of_led_suit" ["hand","trick"] (Zbq K) f10 _:=fun k=>⟨Znf (k:=k+1) F10 (LO k) mg1,b10,k10,m10⟩;have LF:∀ k,Lib l.prog w K mg base (k+3) "followed_or_cut" ["game","hand","trick"] (Zbt K CG) f11 _:=fun k=>⟨Znj (k:=k+2) F11 CGm (LL k) (LO (k+1)),b11,k11,m11⟩;have FS:∀ k,FnOk l.prog w K mg base Y6 (k+2) f_S _ ["self","card","other"] (Ny CT CG):=fun k=>A7 (k:=k+1) F_S C CGm ⟨Zg7 (k:=k) F6,b6,k6,m6⟩ m_O (Mi (k:=k) F_O C mn_list) b_O mg1;have FV:∀ k,FnOk l.prog w K mg base Y6 (k+3) f_V _ Rf (Dq CT CG):=fun k=>Zj7 (k:=k+2) F_V CGm m_S (FS k) b_S mg1;have LGA:∀ k,Lib l.prog w K mg base (k+4) "goes_over_all" ["game","card","trick"] (So K CT CG) f12 _:=fun k=>⟨Zkc (k:=k+3) F12 CGm m_V (FV k) b_V mg1 mn_all,b12,k12,m12⟩;have LH:∀ k,Lib l.prog w K mg base (k+1) "hand_of" ["cards"] (Gj K) f8 _:=fun k=>⟨Zdm F8,b8,k8,m8⟩;have LI:∀ k,Lib l.prog w K mg base (k+1) "cards_in" ["hand"] (Q3 K) f7 _:=fun k=>⟨Zaj F7,b7,k7,m7⟩;have MA:∃ d4,∀ k,AlF l.prog w K mg base CT CG (k+5) cs fl d4:=⟨p4 _ _ _ _,fun k=>⟨fun i=>match i with | 0=>⟨pgCF,hdCF,poCF,saCF⟩ | 1=>⟨pgCL,hdCL,poCL,saCL⟩ | 2=>⟨pgCC,hdCC,poCC,saCC⟩ | 3=>⟨pgCB,hdCB,poCB,saCB⟩,fun i=>match i with | 0=>m_AF | 1=>m_AL | 2=>m_AC | 3=>m_AB,fun i=>match i with | 0=>Zdn F_AF | 1=>A9 (k:=k+4) F_AL (LL (k+2)) | 2=>Zg8 (k:=k+4) F_AC (LF (k+1)) | 3=>Zdq (k:=k+4) F_AB (LF (k+1)) (LH (k+3)) (LI (k+3)) (LGA k),fun i=>match i with | 0=>b_AF | 1=>b_AL | 2=>b_AC | 3=>b_AB⟩⟩;obtain⟨_,MA⟩:=MA;have LRd:∀ k,Lib l.prog w K mg base (k+1) "seat_round" ["game","lead","steps"] (Rr CT CG) f14 _:=fun k=>⟨Zg0 F14 C CGm,b14,k14,m14⟩;have LMn:∀ k,Lib l.prog w K mg base (k+1) "many" ["hand"] (Ds K) f13 _:=fun k=>⟨Zj8 F13,b13,k13,m13⟩;have LLf:∀ k,Lib l.prog w K mg base (k+2) "left" ["place"] (Sk K) f17 _:=fun k=>⟨Zkb (k:=k+1) F17 (LMn k) mn_max,b17,k17,m17⟩;have LTa:∀ k,Lib l.prog w K mg base (k+3) "turn_at" ["game","place"] (Et CT CG) f15 _:=fun k=>⟨Zdf (k:=k+2) F15 (LLf k) (LRd (k+1)) mn_len,b15,k15,m15⟩;have FM:FnOk l.prog w K mg base Y6 16 f_M _ ["self","hand","trick"] (Zfd K CT CG):=Zne (k:=15) F_M C CGm ⟨Ml (k:=14) F1 D W14,b1,k1,m1⟩ m_D (Zgw (k:=14) F_D C) b_D (MA 10) mn_len;have LMo:Lib l.prog w K mg base 17 "moves" ["game","place"] (Bk CT CG) f16 _:=⟨Zg3 (k:=16) F16 CGm (LTa 13) (LI 15) m_M FM b_M,b16,k16,m16⟩;have FW:∀ k,FnOk l.prog w K mg base Y6 (k+4) f_W _ ["self","trick"] (Ge K CT CG):=fun k=>Zde (k:=k+3) F_W CGm m_V (FV k) b_V mg1 mn_enumerate;have LBe:∀ k,Lib l.prog w K mg base (k+5) "behind" ["game","place","card"] (Bm K CT CG) f18 _:=fun k=>⟨Zdp (k:=k+4) F18 C CGm (LRd (k+3)) m_W (FW k) b_W mn_len mn_list mn_tuple,b18,k18,m18⟩;have CRk:RkC K mg CR:=⟨⟨pgCR,hdCR,poCR,saCR⟩,W.mg_of X G hCR,nR1,nR2,nR3⟩;have LHs:∀ k,Lib l.prog w K mg base (k+1) "has_seat" ["side","seat"] Ng f19 _:=fun k=>⟨Zah F19,b19,k19,m19⟩;have LGn:∀ k,Lib l.prog w K mg base (k+2) "gain" ["side","taker"] Dt f20 _:=fun k=>⟨Zke (k:=k+1) F20 (LHs k),b20,k20,m20⟩;have FC:FnOk l.prog w K mg base Y6 18 f_RC _ ["self","place","pairs"] (Eu l.prog w CT CG CR):=Zdo (k:=17) F_RC CRk (LHs 16) (LTa 14) mn_len mn_max mn_min;have RM:RkM l.prog w K mg base 57 12 CT CG CR f_RA f_RP _ _:=Zj5 (j0:=18) F_RA F_RB F_RP CRk m_RA m_RB m_RP m_RC b_RA b_RB b_RP b_RC FC (LBe 13) (LGn 16) (LMo.mono (by decide)) (by decide) 12;have LRf:Lib l.prog w K mg base 57 "refuse_too_many" ["place"] Bi f21 _:=⟨Zdg (k:=56) F21 (LMn 55) mg5 mn_sum,b21,k21,m21⟩;have LTo:Lib l.prog w K mg base 58 "told" Ez (Si CT CG) f22 _:=⟨Zj2 (k:=57) F22 CRk LRf ⟨mkCR,a_RI,i_RI,kcCR⟩ (Mj (k:=55) F_RI CRk) b_RI RM m_RP b_RP rfl,b22,k22,m22⟩;have LBs:Lib l.prog w K mg base 58 "best" Ez (Ss CT CG) f23 _:=⟨Zkf (k:=57) F23 CRk LRf ⟨mkCR,a_RI,i_RI,kcCR⟩ (Mj (k:=55) F_RI CRk) b_RI RM m_RP b_RP m_RC (FC.mono (by decide)) b_RC rfl,b23,k23,m23⟩;have LX:∀ k,Lib l.prog w K mg base (k+1) "_law_mixed" Eh (Ec K) f24 _:=fun k=>⟨Zg4 F24 mn_len,b24,k24,m24⟩;have LOr:∀ k,Lib l.prog w K mg base (k+2) "_law_order" G7 (Dr K) f25 _:=fun k=>⟨Zg2 (k:=k+1) F25 (LX k) mn_range mn_sorted,b25,k25,m25⟩;have LRu:∀ k,Lib l.prog w K mg base (k+3) "_law_rules" ["_law_script","_law_most"] (Dn K) f26 _:=fun k=>⟨Zgz (k:=k+2) F26 (LX (k+1)) (LOr k) mn_max mn_min,b26,k26,m26⟩;have LTx:∀ k,Lib l.prog w K mg base (k+1) "_law_text" ["_law_rules_here"] Sj f27 _:=fun k=>⟨Zj3 F27 mn_str mn_len,b27,k27,m27⟩;have LRk:∀ k,Lib l.prog w K mg base (k+1) "_law_strength" G6 Do f29 _:=fun k=>⟨Zj6 F29,b29,k29,m29⟩;have LMy:∀ k,Lib l.prog w K mg base (k+2) "_law_may" Aw Sm f30 _:=fun k=>⟨Zka (k:=k+1) F30 (LRk k) mn_list mn_max,b30,k30,m30⟩;have LTu:∀ k,Lib l.prog w K mg base (k+1) "_law_turn" E4 Bl f31 _:=fun k=>⟨Zg6 F31 mn_len,b31,k31,m31⟩;have LPu:∀ k,Lib l.prog w K mg base (k+2) "_law_put" Av Sl f32 _:=fun k=>⟨Zj9 (k:=k+1) F32 (LTu k) (LRk k) mn_len mn_range mn_max,b32,k32,m32⟩;have LPc:∀ k,Lib l.prog w K mg base (k+1) "_law_place" ["_law_state_here"] (Gi K) f34 _:=fun k=>⟨Zdl F34 mn_tuple mn_sum,b34,k34,m34⟩;have LSt:∀ k,Lib l.prog w K mg base (k+3) "_law_state" Bt (Gh K) f33 _:=fun k=>⟨Zdk (k:=k+2) F33 (LX (k+1)) (LTu (k+1)) (LMy k) (LPu k) mn_len mn_range mn_min mn_sorted,b33,k33,m33⟩;have LGm:Lib l.prog w K mg base 19 "_law_game" ["_law_rules_here"] (Sq CT CG) f28 _:=⟨Zkd (k:=17) F28 C CGm (LTx 17) ⟨mkCT,a_I,i_I,kcCT⟩ (FI.mono (by decide)) b_I ⟨mkCG,a_G,i_G,kcCG⟩ (Zni (k:=16) F_G CGm) BG0 BG1,b28,k28,m28⟩;have LSp:∀ k,Lib l.prog w K mg base (k+2) "_law_steps" G4 (Dm K) f38 _:=fun k=>⟨Zgx (k:=k+1) F38 (LX k) mn_max,b38,k38,m38⟩;have LOt:∀ k,Lib l.prog w K mg base (k+4) "cards_of_others" ["game","place"] (Zfc CT CG) f35 _:=fun k=>⟨Znc (k:=k+3) F35 (LTa k) (LI (k+2)) mn_list mn_enumerate,b35,k35,m35⟩;have LGr:∀ k,Lib l.prog w K mg base (k+2) "groups_of_suit" Zgo (Zfe CT CG) f36 _:=fun k=>⟨Znh (k:=k+1) F36 C CGm m_O (Mi (k:=k) F_O C mn_list) b_O mg1 mn_sorted mn_len,b36,k36,m36⟩;have LAl:Lib l.prog w K mg base 18 "alike" ["game","place"] (Du CT CG) f37 _:=⟨Zg9 (k:=17) F37 C CGm LMo (LOt 13) (LGr 15) mn_range mn_sorted,b37,k37,m37⟩;have LSb:∀ k,Lib l.prog w K mg base (k+2) "_law_side_by_side" Zgn Zfb f39 _:=fun k=>⟨Znb (k:=k+1) F39 (LTu k) mn_list mn_range mn_len mn_int,b39,k39,m39⟩;exact Zng (k:=58) F40 (LX 57) (LRu 55) (LSt 55) (LSp 56) (LGm.mono (by decide)) (LPc 57) (LAl.mono (by decide)) (LSb 56) LTo LBs mn_list
theorem walk{l:W.OpenLaw}{q:Program}{loose:List Str}{XP:(Str→Option Value)→Heap→Prop}{YP:World→Heap→Prop}{d:DefRec}{K:Params→W.Frag}(hn:l.most=some 63)(hdf:d.params.defaults=[])
  (hY:∀(w:World) (h:Heap),YP w h→(K w.params).In h)
  (F:∀(w:World) (mg:Str→Option Value) (fa:Addr) (h:Heap),(K w.params).In h→h.Ns mainGlobals mg→mg d.name=some (.ref fa) →
   ∃ fd:FuncData,(∀(s:Shared) (u:Value),BindsTo s fd ⟨[u],[]⟩ [("_law_script",u)])∧∀ base:Heap,(K w.params).In base→base.Ns mainGlobals mg→FnOk l.prog w (K w.params) mg base Y6 59 fa fd ["_law_script"] (Zbr (K w.params))) :
  W.WalkO q loose XP YP l.row.toRowW d [] (fun f vs=>PySem.call f vs):=
 L2.walk_of (n:=63) (k:=59) (x:="_law_script") (CX:=fun _=>Y6) (sp:=fun w=>Zbr (K w.params)) hn (by decide) hdf ⟨rfl,by decide,by decide⟩ hY F (fun _ _ a ns hl _ hS=>⟨a,ns,rfl,hS,hl,fun _=>rfl⟩) fun _ _ _ _ _ z=>z
end My
namespace PySem.W.Fast
def tw7786226646108857040:=0
def tw12274455129019586970:=0
def tw6138169402707903307:=0
def tw7333723128626056792:=0
def tw11820244112777254968:=0
def tw18411588846300038833:=0
def tw6062424255773008257:=0
def tw1984404364827801785:=0
def tw8261019539082694957:=0
def tw15525939885509117195:=0
def tw13832361703216018858:=0
def tw10144246126868188492:=0
def tw13283856821379703556:=0
def tw13844397635517929756:=0
def tw16308388115779048221:=0
def tw13912780430974809122:=0
def tw355736148845989855:=0
def tw2640978622422612388:=0
def tw4088387857221474486:=0
def tw410534160545228830:=0
def tw15794639117374360655:=0
def tw16407723390384633809:=0
def tw8999758529849348368:=0
def tw16023761625022686845:=0
def tw1071305207309565478:=0
def tw5592362569698140805:=0
def tw2976430133563432166:=0
def tw14154994447978654873:=0
def tw9320660108822576949:=0
def tw6116702503581448898:=0
def tw13387818778635815541:=0
def tw9190533610818221562:=0
def tw12700445595209034382:=0
def tw16051062302546321968:=0
def tw16777991005189938465:=0
def tw15141150731242729930:=0
def tw9622269568457661856:=0
def tw8926225286282602004:=0
def tw13841248193907641357:=0
def tw16309510795481241753:=0
def tw13962006257821120785:=0
def tw4352902937492652940:=0
def tw9598424672363832818:=0
def tw16377151430205773148:=0
def tw1237225604060492637:=0
def tw13683565918668459468:=0
def tw16377971352506751687:=0
def tw4698791051982604978:=0
def tw16082388462781118650:=0
def tw8990978638683367310:=0
def tw10582214160507732365:=0
def tw197052043336566916:=0
def tw2395697962562148091:=0
def tw2298256321946253395:=0
def tw10238381442439243160:=0
def tw2310499367231889294:=0
def tw7255637104673228524:=0
def tw12892190224304542482:=0
def tw17612331246890684603:=0
def tw12541415688983681762:=0
def tw14064177844729199891:=0
def tw3084998728544557924:=0
def tw12795764918035375854:=0
def tw6156462100539022497:=0
def tw14496036911328090970:=0
def tw9692215585843825088:=0
def tw14345560070094611799:=0
def tw2636996874964709348:=0
def tw5124428502756399706:=0
def tw833668687291553299:=0
def tw5643289512283477869:=0
def tw187890221568974521:=0
def tw16421818132241495644:=0
def tw17376100480231822113:=0
def tw17323799048537798103:=0
def tw18150542115650788828:=0
def tw13173474914360907591:=0
def tw13604212918919570016:=0
def tw8637666582261350796:=0
def tw4978788804360111954:=0
def tw6966450992220680997:=0
def tw2587705359741950828:=0
def tw16696245585148123314:=0
def tw876848554575155960:=0
def tw2745499168653510785:=0
def tw4751022185579834842:=0
def tw7273893602841942850:=0
def tw17475861020506708532:=0
def tw12577398128599957150:=0
def tw15980891619076667182:=0
def tw11819185530760498694:=0
def tw16747026365728626485:=0
def tw462656073750707625:=0
def tw11408925900211628212:=0
def tw7590039732714452985:=0
def tw4084191824458826541:=0
def tw1067207597825349450:=0
def tw11000977441368534993:=0
def tw2390802823084191973:=0
def tw3742077322056117725:=0
def tw1823367571168702478:=0
def tw16516068391457715204:=0
def tw12086380053306775179:=0
def tw12961475005262853178:=0
def tw14585765696106919692:=0
def tw8333674610383116915:=0
def tw13811908085868385561:=0
def tw18166445237398815588:=0
def tw6524955321487940073:=0
def tw8607164885645511626:=0
def tw12716867469531074427:=0
def tw4503270828302424680:=0
def tw2045552983883236769:=0
def tw5857242461860423865:=0
def tw6853855471602905048:=0
def tw3986610790597935813:=0
def tw17295946536343615395:=0
def tw17244123717911745740:=0
def tw9819755733259571343:=0
def tw15486567587036487555:=0
def tw11831807160451135840:=0
def tw6022358055144787952:=0
def tw9846276847200485932:=0
def tw9342342282927107929:=0
def tw5356740485463547609:=0
def tw15312655774696472805:=0
def tw7007144573755497523:=0
def tw14698760141260977062:=0
def tw10299870445135617050:=0
def tw14231796910832829566:=0
def tw17677206217162005980:=0
def tw6115771443419915334:=0
def tw16340875036347987985:=0
def tw5679291067339775407:=0
def tw9745113600382022285:=0
def tw13289337593885362469:=0
def tw4132229062230599448:=0
def tw16283436326235044604:=0
def tw2776765807496485891:=0
def tw11580269639791311495:=0
def tw17308761253492438232:=0
def tw592702093593423604:=0
def tw17968115141802899075:=0
def tw9333558045242088421:=0
def tw11456361535961007145:=0
def tw7788811286426053543:=0
def tw5290148586274819699:=0
def tw3482956243049275053:=0
def tw8949379995354461202:=0
def tw11145321122109241428:=0
def tw6442847714754507888:=0
def tw1931481383655391289:=0
def tw15498526460611795950:=0
def tw7877328975130958345:=0
def tw9138524658148341367:=0
def tw6559834820968348222:=0
def tw13834736579899559919:=0
def tw10344670464840914429:=0
def tw9707658344149841328:=0
def tw14059289331847188320:=0
def tw490765633477478317:=0
def tw6787785535591844048:=0
def tw8537169770134508024:=0
def tw8128407491719811121:=0
def tw3874549655848339825:=0
def tw3653464760143364870:=0
def tw15145803035767858095:=0
def tw8170851683442660464:=0
def tw18327225692086412348:=0
def tw15847139581420197885:=0
def tw5441691499235892572:=0
def tw16102975778182643219:=0
def tw17427336074087949832:=0
def tw4020790427463360852:=0
def tw13247785892632356063:=0
def tw4251727974418933167:=0
def tw7425703456853941128:=0
def tw14806636109792669753:=0
def tw3755948486031654149:=0
def tw15136571383149215281:=0
def tw8638110181798183198:=0
def tw16381825061371981455:=0
def tw11404793835393475542:=0
def tw5395681988719604604:=0
def tw15205190872350018235:=0
def tw1876753765705788410:=0
def tw3891967028652853816:=0
def tw13655447859609100745:=0
def tw1476415611589741839:=0
def tw7989790522141132883:=0
def tw1379769377520354646:=0
def tw16781967912713203881:=0
def tw6829040634953119841:=0
def tw8845508109086905973:=0
def tw587992747539222350:=0
def tw17242160140660437112:=0
def tw3027337635036961631:=0
def tw2879896761851841661:=0
def tw16905268721184665625:=0
def tw4226389256038268425:=0
def tw1284288672248193975:=0
def tw2902197967592078904:=0
def tw9137863071878540277:=0
def tw5222470296928190620:=0
def tw10368795431613333811:=0
def tw9614229765778216456:=0
def tw8493700457985305730:=0
def tw2774026563533873128:=0
def tw9468950288144565702:=0
def tw12614106108392676112:=0
def tw5093653965583509359:=0
def tw7686512649366548676:=0
def tw4633480990714626662:=0
def tw6454616839748332216:=0
def tw17142476000517022357:=0
def tw3831889583815904117:=0
def tw7852439771978733874:=0
def tw11310712212700912267:=0
def tw15871053706496979973:=0
def tw4512092946040397441:=0
def tw15106811909998130980:=0
def tw2807920841115909739:=0
def tw17939662590026392193:=0
def tw7984449764894282185:=0
def tw8216447920854618809:=0
def tw11889281751185073625:=0
def tw3278269323227756678:=0
def tw8983264234703283911:=0
def tw4938874818271797885:=0
def tw5435078615494543460:=0
def tw1166901495899965575:=0
def tw7787324232839830015:=0
def tw5077797515968839298:=0
def tw547508655439166744:=0
def tw4223130551816653337:=0
def tw9625901600336839280:=0
def tw1574280237199842576:=0
def tw12112785561871572736:=0
def tw12362311658309949224:=0
def tw9563069916753252933:=0
def tw2288490516346221686:=0
def tw2112415491407826028:=0
def tw41835712402188043:=0
def tw16113485202272175106:=0
def tw18133498385860400115:=0
def tw16482144769899500071:=0
def tw5508710473910486463:=0
def tw7189907676681249366:=0
def tw17193755340361525694:=0
def tw8104299644885522143:=0
def tw13190397323841153163:=0
def tw15484644454486517292:=0
def tw8088710121278413167:=0
def tw10220165757993033213:=0
def tw14088802988477827978:=0
def tw1933555515763033573:=0
def tw10694047501245546780:=0
def tw13584197597974605865:=0
def tw9045103989342244513:=0
def tw3306310568406952657:=0
def tw855127098781171467:=0
def tw15755002640135555466:=0
def tw14570560009376302849:=0
def tw18182631966875236646:=0
def tw14070121466353504324:=0
def tw16446574176855764594:=0
def tw7494414327302692511:=0
def tw5689919569252230875:=0
def tw890051240292961865:=0
def tw13359647349087603391:=0
def tw4383776942223615866:=0
def tw10477025233548999149:=0
def tw11850577742523688085:=0
def tw16602594588457236643:=0
def tw5417064919437866608:=0
def tw18343226060602258149:=0
def tw12239182384189846427:=0
def tw7216522934001724502:=0
def tw10941872673892369660:=0
def tw15865711394900060806:=0
def tw17597621083254319636:=0
def tw15966135321620387722:=0
def tw8534475769566856116:=0
def tw528107467400144251:=0
def tw18278463966939245076:=0
def tw903881548644324597:=0
def tw16563775267213808260:=0
def tw15682041504984995898:=0
def tw12956746782379492936:=0
def tw2986146124405709853:=0
def tw4459501735801028948:=0
def tw8944839494654923396:=0
def tw3045877777486979056:=0
def tw3088404916495773742:=0
def tw7799838552839212031:=0
def tw2776327871079304857:=0
def tw704873785078680949:=0
def tw14101539425119765260:=0
def tw253669954555435070:=0
def tw208323147948111299:=0
def tw14692797561640983372:=0
def tw1783497001921051355:=0
def tw9903283744620365286:=0
def tw10590733354565244870:=0
def tw14990323874078674240:=0
def tw14773721977068976887:=0
def tw746489311595466184:=0
def tw3411804338333018250:=0
def tw1779652001979395429:=0
def tw9174000714395102822:=0
def tw16948326283986135987:=0
def tw17753114294832229287:=0
def tw6581592088740988255:=0
def tw13446995840067195293:=0
def tw15222581434803881126:=0
def tw4655799628273149346:=0
def tw823096744314520868:=0
def tw14663650424911331735:=0
def tw13677951128193291757:=0
def tw14043879534386422090:=0
def tw14848870666629459609:=0
def tw16019592718458756188:=0
def tw12612639989805597156:=0
def tw13676958526422350329:=0
def tw16563739154054631754:=0
def tw14045806784764947546:=0
def tw1679507783135354918:=0
def tw10170532414216315949:=0
def tw2826107787232068372:=0
def tw362625564122967858:=0
def tw8010249204131028772:=0
def tw17513675868586470992:=0
def tw2047817225151710369:=0
def tw17538742391888471024:=0
def tw18093881508256187849:=0
def tw16750884762690720139:=0
def tw2288326674107090970:=0
def tw12034164114370318587:=0
def tw1615794600205008304:=0
def tw12399175010300876128:=0
def tw13466507723011316784:=0
def tw14169851096641621946:=0
def tw3322897053954378867:=0
def tw3043495421255307312:=0
def tw15817673857291520176:=0
def tw4964239934580180456:=0
def tw4247932600637215727:=0
def tw5934488137589147002:=0
def tw18094569630183185161:=0
def tw4635790345618961163:=0
def tw5482450474874918149:=0
def tw2156454181104384990:=0
def tw17571830788734957408:=0
def tw1909271039793197394:=0
def tw6378509323651274427:=0
def tw9860905430001932897:=0
def tw1544618238688600564:=0
def tw8940501831837415362:=0
def tw15791246385254530797:=0
def tw11166276513719876475:=0
def tw9775150736241319716:=0
def tw13176823579183686457:=0
def tw9493061710348572231:=0
def tw1473282039321822264:=0
def tw2325744544979304294:=0
def tw10790718119021064970:=0
def tw5958567474580933875:=0
def tw16250168719104561526:=0
def tw17669838725736959186:=0
def tw17790476244517435071:=0
def tw240320967477992715:=0
def tw2370161401740328338:=0
def tw15645869680116057804:=0
def tw15584669274420000202:=0
def tw13266562770643123080:=0
def tw17484773452929606666:=0
def tw2466155688113117528:=0
def tw13790648788759113476:=0
def tw12842307659721132320:=0
def tw15916051602530754703:=0
def tw2000313502486625022:=0
def tw18048731755529497959:=0
def tw13430309617510460539:=0
def tw1170872698315147221:=0
def tw17242891513338877146:=0
def tw17269644910845069834:=0
def tw10499564753921088119:=0
def tw18424932791441961249:=0
def tw327392426125507482:=0
def tw12803257350924028595:=0
def tw5737899198387428678:=0
def tw2002653917221041193:=0
def tw1099965245505978103:=0
def tw9621558932853102390:=0
def tw9533000252344221483:=0
def tw13667542618335020281:=0
def tw16248785177453755435:=0
def tw12619697236952316:=0
def tw5554223205229319126:=0
def tw3944855625524018201:=0
def tw15573601668864873663:=0
def tw10321410238641281191:=0
def tw5775258348520790004:=0
def tw39226848092943813:=0
def tw14205908088870578391:=0
def tw9905839192600003747:=0
def tw13113840575853951359:=0
def tw4875132631508857405:=0
def tw4142721746314424455:=0
def tw11104118538964565282:=0
def tw15242206227651189858:=0
def tw13829417739235542573:=0
def tw9040757803424746290:=0
def tw15297179434891837282:=0
def tw1476946135685537352:=0
def tw16977731189610711467:=0
def tw8648606504916685316:=0
def tw5625530399055301911:=0
def tw17879119574239388797:=0
def tw10629760233767282975:=0
def tw11066332017408458995:=0
def tw7794754801025283515:=0
def tw16959101543406528181:=0
def tw10881589162758078642:=0
def tw1077415918619761098:=0
def tw10862809891178195250:=0
def tw7979294458740498901:=0
def tw6480531722226607217:=0
def tw16922237947301526934:=0
def tw4086692620586392958:=0
def tw17238416673339791946:=0
def tw746269686620259692:=0
def tw11652127451567799753:=0
def tw17723449405518818333:=0
def tw4983558500174592377:=0
def tw15781004127921372977:=0
def tw13944685951775463410:=0
def tw4666470219728741924:=0
def tw12807344217217372761:=0
def tw5251190618944209031:=0
def tw9451456513112097782:=0
def tw10398274738858896710:=0
def tw3933129774826355266:=0
def tw10826727160268504308:=0
def tw2758118256103075908:=0
def tw2812512771472882191:=0
def tw17177058214876600773:=0
def tw503564417803985094:=0
def tw14387621858543342108:=0
def tw8089881769080466974:=0
def tw5947217158299402282:=0
def tw2009338501417882707:=0
def tw3526082076857451259:=0
def tw15301263669984868535:=0
def tw622718529864285443:=0
def tw654800528476710191:=0
def tw3296841469531550736:=0
def tw7978728185171097936:=0
def tw8463421028883519115:=0
def tw628209885294998726:=0
def tw6895920773791656745:=0
def tw18262061817938644605:=0
def tw7982316293712484595:=0
def tw8986448386351323317:=0
def tw13920452248759120497:=0
def tw5698678734677463828:=0
def tw18209068304378323014:=0
def tw8143251257152298796:=0
def tw9786328547232289313:=0
def tw17426964803612338160:=0
def tw13491631136145655772:=0
def tw7328533535822033924:=0
def tw2836013628988643642:=0
def tw4385652366393104728:=0
def tw15409130018968258549:=0
def tw9521365871669255605:=0
def tw5886319553645886115:=0
def tw5523228050691311147:=0
def tw15256591729972681215:=0
def tw17794367840926210511:=0
def tw5288268317447647:=0
def tw16609057365852871932:=0
def tw14448676426094808079:=0
def tw6559397990598061773:=0
def tw11133536310094325418:=0
def tw16495453583117280091:=0
def tw17451712496102760099:=0
def tw9109187936544246822:=0
def tw8676516853023821089:=0
def tw772808092552924129:=0
def tw6136474597149989953:=0
def tw4647206215147727105:=0
def tw17132898411202086439:=0
def tw8057760743624867127:=0
def tw1585127855593046990:=0
def tw3548362938562296836:=0
def tw4792967162148366997:=0
def tw930939223907737833:=0
def tw1340955463307622739:=0
def tw1216575475481011702:=0
def tw16512525671064051982:=0
def tw1570526431150214130:=0
def tw2703517995014055581:=0
def tw17142471420795053788:=0
def tw16199370234740058489:=0
def tw8867490133134935921:=0
def tw14786570949430194651:=0
def tw3589409812042641057:=0
def tw10734631146208893927:=0
def tw2587383802846944324:=0
def tw9165957460365014618:=0
def tw14787534455111473084:=0
def tw18240218364256081915:=0
def tw7510715899804161757:=0
def tw16287138982007270603:=0
def tw7754875342557857533:=0
def tw14021719812619237413:=0
def tw4169581305058123967:=0
def tw9047041297364455954:=0
def tw2370582387704077836:=0
def tw4400559579678740556:=0
def tw1161021170649764609:=0
def tw2542028860774407193:=0
def tw1307425065754711662:=0
def tw10008725038662778070:=0
def tw17133224996436509784:=0
def tw1130696651006235003:=0
def tw1145572531724315338:=0
def tw11472610426340832453:=0
def tw14951570132865956707:=0
def tw15873203060409028066:=0
def tw15772572489016708283:=0
def tw2095925546603495205:=0
def tw8301902194924730317:=0
def tw11129399036836685285:=0
def tw2209338266115908172:=0
def tw6159581340199868793:=0
def tw2707238942853565835:=0
def tw4959554135307948065:=0
def tw655273482263390308:=0
def tw787389649338517524:=0
def tw9005959948637548066:=0
def tw14962383533276314816:=0
def tw18320752180635969017:=0
def tw5321165805594643565:=0
def tw6409362413204091490:=0
def tw5811530561003986730:=0
def tw1400891362540955396:=0
def tw14855542534902147865:=0
def tw4171214795685320908:=0
def tw13981718635375459970:=0
def tw4311781718917491754:=0
end PySem.W.Fast
open PySem PySem.W PyProof.Rows
set_option maxRecDepth 100000 in
set_option maxHeartbeats 0 in
theorem PySem.Challenge.cw_trickproof_k36_alike_cards_count_alike_holds : PySem.Challenge.rw_trickproof_k36_alike_cards_count_alike.Holds := by
 w_on;o_law;k_head;(case hw=>w_witness2)
 k_fill
 refine My.walk (l:=PySem.Challenge.rw_trickproof_k36_alike_cards_count_alike) rfl rfl (fun w h Y=>PySem.W.kIn_of Y) ?F
 case F=>
  intro w mg fa h KX G hmg
  refine' My.all_mk KX G hmg ?_ ?_ ?_ ?_ ?_ ?_ ?_ ?_ ?_ ?_ ?_ ?_ ?_ ?_ ?_ ?_ ?_ ?_ ?_ ?_ ?_ ?_ ?_ ?_ ?_ ?_ ?_ ?_ ?_ ?_ ?_ ?_ ?_ ?_ ?_ ?_ ?_ ?_ ?_ ?_ ?_ ?_ ?_ ?_ ?_ ?_ ?_ ?_ ?_ ?_ ?_ ?_ ?_ ?_ ?_ ?_ ?_ ?_ ?_ ?_ ?_ ?_ ?_ ?_ ?_ ?_ ?_ ?_ ?_ ?_ ?_ ?_ ?_ ?_ ?_ ?_ ?_ ?_ ?_ ?_ ?_ ?_ ?_ ?_ ?_ ?_ ?_ ?_ ?_ ?_ ?_ ?_ ?_ ?_ ?_ ?_ ?_ ?_ ?_ ?_ ?_ ?_ ?_ ?_ ?_ ?_ ?_ ?_ ?_ ?_ ?_ ?_ ?_ ?_ ?_ ?_ ?_ ?_ ?_ ?_ ?_ ?_ ?_ ?_ ?_ ?_ ?_ ?_ ?_ ?_ ?_ ?_ ?_ ?_ ?_ ?_ ?_ ?_ ?_ ?_ ?_ ?_ ?_ ?_ ?_ ?_ ?_ ?_ ?_ ?_ ?_ ?_ ?_ ?_ ?_ ?_ ?_ ?_ ?_ ?_ ?_ ?_ ?_ ?_ ?_ ?_ ?_ ?_ ?_ ?_ ?_ ?_ ?_ ?_ ?_ ?_ ?_ ?_ ?_ ?_ ?_ ?_ ?_ ?_ ?_ ?_ ?_ ?_ ?_ ?_ ?_ ?_ ?_ ?_ ?_ ?_ ?_ ?_ ?_ ?_ ?_ ?_ ?_ ?_ ?_ ?_ ?_ ?_ ?_ ?_ ?_ ?_ ?_ ?_ ?_ ?_ ?_ ?_ ?_ ?_ ?_ ?_ ?_ ?_ ?_ ?_ ?_ ?_ ?_ ?_ ?_ ?_ ?_ ?_ ?_ ?_ ?_ ?_ ?x1
  rotate_left 167
  iterate 178 k_is
  iterate 60 (refine' L2.fun_mk ?_ ?_ ?_;rotate_left 9;iterate 3 k_is)
  (case x1=>k_exc)
#print axioms PySem.Challenge.cw_trickproof_k36_alike_cards_count_alike_holds
