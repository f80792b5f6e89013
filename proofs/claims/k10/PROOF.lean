import PyProof.Rows.All
import Wide.All
import OpenK.AllK
import Wide.FinOn
import Lean
import PyProof.EqAt
import PyProof.EqKinds
import PyProof.TupleCall
import PyProof.ZipIter
import PyProof.Rows.ZipGen
import PyProof.EnumIter
import PyProof.EnumFor
import PyProof.EnumMake
import PyProof.EnumStmt
import PyProof.SliceStr2
import PyProof.StrBlockI
import PyProof.MinMaxWalk
import PyProof.Rows.CallKwBuiltin
import PyProof.Rows.Range3
import KE.KRevIter
import PyProof.AttrMissHeap
import KE.KDictOf
import PyProof.FactsAll.range_2
import PyProof.P3Eq
import PyProof.DictWalks
import PyProof.Rows.SeqMore2
import PyProof.Rows.SortStr
import PySem.Challenge.RW_stylehouse_k10_borne
set_option Elab.async false
set_option linter.all false
set_option maxRecDepth 100000
def Zj {α:Type _} {a b:α} (h:some a=some b):a=b:=Option.some.inj h
def Zb {a b:Nat} (h:Nat.ble a b=true):a<=b:=Nat.le_of_ble_eq_true h
def Zf:false≠true:=Bool.false_ne_true
def Zm {α:Type _} {β:Type _} {f:α->β} {x:Option α} {b:β} (h:x.map f=some b):∃ a,x=some a/\f a=b:=Option.map_eq_some_iff.mp h
def Za:=@List.length_map
def Zc:=@List.mem_cons_of_mem
def Zd:=@List.mem_cons_self
def Ze:=@List.mem_append_right
def Zg:=@PySem.wpAny_bind
def Zh:=@List.map_cons
def Zi:=@List.mem_append
def Zk:=@decide_eq_false
def Zl:=@List.mem_cons
def Zn:=@List.mem_singleton
def Zo:=@decide_eq_true
def Zp:=@List.mem_append_left
def Zq:=@List.size_toArray
def Zr:=@List.map_append
def Zs:=@Nat.le_refl
def Zt:=@PySem.Heap.lt_size
def Zu:=@List.map_congr_left
def Zv:=@List.length_cons
def Zw:=@List.map_map
def Zx:=@Nat.ne_of_lt
def Zy:=@List.nodup_cons
def Zz:=@PySem.wpAny_pure
def Z0:=@List.append_nil
def Z1:=@Nat.lt_of_lt_of_le
def Z2:=@Nat.le_trans
def Z3:=@Nat.zero_le
def Z4:=@List.mem_map
def Z5:=@List.length_append
def Z6:=@Bool.and_eq_true
def Z7:=@PySem.W.Fast.te14364793385576792824
def Z8:=@Int.emod_lt_of_pos
def Z9:=@Int.emod_nonneg
def Yb:=@List.mem_map_of_mem
def Yc:=@Option.bind_some
def Yd:=@List.nodup_append
def Ye:=@List.flatMap_cons
def Yg:=@PyProof.Rows.callWith_type1
def Yh:=@congrArg
def Yi:=@PySem.W.kia_one
def Yj:=@Nat.lt_irrefl
def Yk:=@PySem.mem_of_lookup
def Yl:=@List.flatMap_append
def Ym:=@PySem.wpAny_mono
def Yn:=@Nat.le_of_lt
def Yo:=@PySem.wpAny_truthy_bool
def Yp:=@Array.all_eq_true_iff_forall_mem
def Yq:=@List.all_eq_true
def Yr:=@List.mem_flatMap
def Ys:=@List.drop_eq_getElem_cons
def Yt:=@PySem.W.Fast.te10110043849684766642
def Yu:=@PySem.wpAny_Call_Name_kw
def Yv:=@Nat.lt_succ_self
def Yw:=@List.length_take
def Yy:=@PySem.F.plainAttrs_list
def Yz:=@PySem.wpAny_holding
def Y0:=@PySem.wpAny_specialOf
def Y1:=@List.length_filter_le
def Y2:=@Option.isSome_iff_exists
def Y3:=@Array.length_toList
def Y4:=@List.length_reverse
def Y5:=@PySem.sizeLine_eq
def Y6:=@List.length_drop
def Y7:=@List.getElem_mem
def Y8:=@Nat.lt_of_lt_of_eq
def Y9:=@decide_eq_true_iff
def Xa:=@Classical.choose_spec
def Xb:=@List.mem_filter
def Xc:=@PySem.wpAny_passesOwn
def Xd:=@Bool.eq_iff_iff
def Xe:=@Array.mem_toList_iff
def Xf:=@PySem.wpAny_of_eq
def Xg:=@Nat.le_succ_of_le
def Xh:=@List.any_cons
def Xi:=@beq_eq_false_iff_ne
def Xj:=@List.replicate_succ
def Xk:=@PySem.Heap.size_push
def Xm:=@List.not_mem_nil
def Xn:=@Bool.not_eq_true
def Xo:=@PySem.wpAny_getItem_str_slice
def Xp:=@PySem.isSubtype_type
def Xq:=@decide_eq_decide
def Xr:=@Option.map_some
def Xs:=@List.length_nil
def Xu:=@List.take_append_drop
def Xv:=@List.reverse_cons
def Xw:=@PySem.wpAny_newObj_type
def Xx:=@of_decide_eq_true
def Xy:=@PySem.lookup_relabel_local
def Xz:=@List.map_nil
def X0:=@List.drop_length
def X1:=@Nat.sub_self
def X2:=@PySem.Txt.slice_le
def X3:=@PySem.wpAny_call_entry
def X4:=@List.map_take
def X5:=@List.map_drop
def X6:=@PySem.wpAny_field
section
namespace L2
open PySem PySem.Spec PyProof.Rows
abbrev Key:=Sum Int Str
def m7:Key->Value->Bool
 | .inl k,v=>Value.isInt k v
 | .inr x,v=>Value.isStrOf x v
def NX (w:World):Key->Int
 | .inl k=>hashInt k
 | .inr x=>hashStr w x
def bc:∀ {k:Key} {v:Value},m7 k v=true->(∃ i t,k=Sum.inl i/\v=Value.int i t)\/(∃ x t,k=Sum.inr x/\v=Value.str x t)
 | .inl i,v,h=>by
  obtain ⟨t,e⟩:=Value.isInt_shape (k:=i) (v:=v) h;exact .inl ⟨i,t,rfl,e⟩
 | .inr x,v,h=>by
  obtain ⟨t,e⟩:=Value.isStrOf_shape (x:=x) (v:=v) h;exact .inr ⟨x,t,rfl,e⟩
def wZ (i:Int) (t:Tok):m7 (.inl i) (.int i t)=true:=by simp [m7,Value.isInt]
def wY (x:Str) (t:Tok):m7 (.inr x) (.str x t)=true:=by simp [m7,Value.isStrOf]
def Gv (a b:Int):decide ((Sum.inl a:Key)=Sum.inl b)=(a == b):=by
 by_cases e:a=b
 · subst e; simp
 ·have h:¬ (Sum.inl a:Key)=Sum.inl b:=λ q=>e (Sum.inl.inj q)
  rw [Zk h];exact (Xi.mpr e).symm
def Gr (a b:Str):decide ((Sum.inr a:Key)=Sum.inr b)=decide (a=b):=by
 by_cases e:a=b
 · subst e; simp
 ·have h:¬ (Sum.inr a:Key)=Sum.inr b:=λ q=>e (Sum.inr.inj q)
  rw [Zk h,Zk e]
def Gu (a:Int) (b:Str):decide ((Sum.inl a:Key)=Sum.inr b)=false:=Zk (λ q=>nomatch q)
def Gs (a:Str) (b:Int):decide ((Sum.inr a:Key)=Sum.inl b)=false:=Zk (λ q=>nomatch q)
def bF (prog:Program) (w:World):PySem.KeyKind prog w Key where
 is:=m7
 hash:=NX w
 inj:=λ v a b ha hb=>by
  rcases bc ha with ⟨i,t,rfl,rfl⟩ | ⟨x,t,rfl,rfl⟩
  ·rcases bc hb with ⟨j,u,rfl,e⟩ | ⟨y,u,rfl,e⟩
   · injection e with e1 _; rw [e1]
   · exact nomatch e
  ·rcases bc hb with ⟨j,u,rfl,e⟩ | ⟨y,u,rfl,e⟩
   · exact nomatch e
   · injection e with e1 _; rw [e1]
 byValue:=λ k v h=>by
  rcases bc h with ⟨i,t,rfl,rfl⟩ | ⟨x,t,rfl,rfl⟩ <;> rfl
 pyHash:=λ hv h=>by
  rcases bc hv with ⟨i,t,rfl,rfl⟩ | ⟨x,t,rfl,rfl⟩
  · exact wpAny_pyHash_int h
  · exact wpAny_pyHash_str h
 eqBool:=λ hu hv h=>by
  rcases bc hu with ⟨i,t,rfl,rfl⟩ | ⟨x,t,rfl,rfl⟩
  ·rcases bc hv with ⟨j,u,rfl,rfl⟩ | ⟨y,u,rfl,rfl⟩
   · rw [Gv] at h; exact wpAny_eqBool_int h
   · rw [Gu] at h; exact SeqAt.EqAt.int_str i t y u _ _ _ _ h
  ·rcases bc hv with ⟨j,u,rfl,rfl⟩ | ⟨y,u,rfl,rfl⟩
   · rw [Gs] at h; exact SeqAt.EqAt.str_int x t j u _ _ _ _ h
   · rw [Gr] at h; exact wpAny_eqBool_str h
 «strs»:=λ k x t v h=>by
  rcases bc h with ⟨i,u,rfl,e⟩ | ⟨y,u,rfl,e⟩
  · exact nomatch e
  ·injection e with e1 _
   subst e1;cases v <;> rfl
def qm (prog:Program) (w:World) (i:Int) (t:Tok):(bF prog w).is (.inl i) (.int i t)=true:=wZ i t
def ql (prog:Program) (w:World) (x:Str) (t:Tok):(bF prog w).is (.inr x) (.str x t)=true:=wY x t
end L2
namespace L2
open PySem PySem.Spec PyProof.Rows
inductive V where
 | non | bl (b:Bool) | int (i:Int) | str (x:Str) | byt (b:Array UInt8) | flt (b:UInt64) | ref (a:Addr) | ty (n:String)
 deriving DecidableEq
def RelV:V->Value->Prop
 | .non,u=>u=Value.none
 | .bl b,u=>u=Value.bool b
 | .int i,u=>∃ t,u=Value.int i t
 | .str x,u=>∃ t,u=Value.str x t
 | .byt b,u=>∃ t,u=Value.bytes b t
 | .flt b,u=>∃ t,u=Value.float b t
 | .ref a,u=>u=Value.ref a
 | .ty n,u=>u=Value.type n
abbrev bD:List V->List Value->Prop:=Paired RelV
def bD.length (r:bD xs us):xs.length=us.length:=Paired.length r
def bD.get:∀ {xs:List V} {us:List Value} {i:Nat} {x:V},bD xs us->xs[i]?=some x->∃ u,us[i]?=some u/\RelV x u
 | _,_,_,_,.nil,e=>by simp at e
 | _,_,0,_,.cons r _,e=>by simp at e; subst e; exact ⟨_,rfl,r⟩
 | _,_,i+1,x,.cons _ t,e=>by
  obtain ⟨u,h1,h2⟩:=bD.get (i:=i) (x:=x) t (by simpa using e);exact ⟨u,by simpa using h1,h2⟩
def bD.set (r:RelV x u):∀ {xs:List V} {us:List Value} (i:Nat),bD xs us->bD (xs.set i x) (us.set i u)
 | _,_,_,.nil=>.nil
 | _,_,0,.cons _ t=>.cons r t
 | _,_,i+1,.cons q t=>.cons q (bD.set r i t)
def bD.append:∀ {xs ys:List V} {us ws:List Value},bD xs us->bD ys ws->bD (xs++ys) (us++ws)
 | _,_,_,_,.nil,s=>s
 | _,_,_,_,.cons r t,s=>.cons r (bD.append t s)
def bD.take:∀ {xs:List V} {us:List Value} (n:Nat),bD xs us->bD (xs.take n) (us.take n)
 | _,_,0,_=>.nil
 | _,_,_+1,.nil=>.nil
 | _,_,n+1,.cons r t=>.cons r (bD.take n t)
def bD.drop:∀ {xs:List V} {us:List Value} (n:Nat),bD xs us->bD (xs.drop n) (us.drop n)
 | _,_,0,r=>r
 | _,_,_+1,.nil=>.nil
 | _,_,n+1,.cons _ t=>bD.drop n t
def pL:Option V->Option Value->Prop
 | some v,some u=>RelV v u
 | none,none=>True
 | _,_=>False
def KV {κ:Type}:List (κ×V)->List (κ×Value)->Prop:=Paired λ (p:κ×V) (q:κ×Value)=>p.1=q.1/\RelV p.2 q.2
def kV:Key->V
 | .inl i=>.int i
 | .inr x=>.str x
inductive HO where
 | lst (xs:List V)
 | tup (xs:List V)
 | dK (kvs:List (Key×V)) | dT (kvs:List (List Key×V))
 | set (S:Int->Bool) (n:Nat)
 | ins (C dx:Addr) (fs:List (Str×V))
 | own (x:Addr)
 | xd (fs:List (Str×V))
 | met (f x:Addr)
 | rng (lo hi:Int)
 | frz (o:Obj) (u:HO)
 | tbl (ps:Array Value)
 | ext (φ:Heap->Prop)
abbrev Hp:=Addr->Option HO
def upd (H:Hp) (a:Addr) (o:HO):Hp:=λ b=>if b=a then some o else H b
def aq:upd H a o a=some o:=by unfold upd; rw [if_pos rfl]
def aj (h:b≠a):upd H a o b=H b:=by unfold upd; rw [if_neg h]
def KN {H:Hp} {a b:Addr} {o u:HO} (h:H a=some o) (h':H b=some u) (d:o≠u):a≠b:=by
 intro e; subst e; rw [h] at h'; exact d (Zj h')
def dk {H:Hp} {a b:Addr} {o:HO} (h:H a=some o) (h':H b=none):a≠b:=by
 intro e; subst e; rw [h] at h'; cases h'
section
variable (P:Program) (w:World)
def cu (H:Hp) (h:Heap) (a:Addr):HO->Prop
 | .lst xs=>xs.length<=sizeLine/\∃ (its:List Value) (n:Nat),bD xs its/\h.get? a=some { cls:=.type "list",data:=.seq its.toArray n }
 | .tup xs=>xs.length<=sizeLine/\∃ its:List Value,bD xs its/\IsTup h a its.toArray
 | .dK kvs=>kvs.length<=sizeLine/\(a == sysModules)=false/\∃ vs,KV kvs vs/\h.DictOf (bF P w) a vs
 | .dT kvs=>kvs.length<=sizeLine/\(a == sysModules)=false/\∃ xs:List (List Key×Addr×Value),
  Paired (λ (p:List Key×V) (q:List Key×Addr×Value)=>p.1=q.1/\H q.2.1=some (.tup (p.1.map kV))/\RelV p.2 q.2.2) kvs xs /\
  ∃ o es ep,h.get? a=some o/\o.ExactDict/\o.data=.dict es ep/\es.toList=xs.map (entryOfKey (tupleKind (bF P w)))/\(xs.map (·.1)).Nodup
 | .set S n=>h.SetOf (intKind P w) a S n
 | .ins C dx fs=>H dx=some (.own a)/\fs.length<=1000/\dx≠a/\h.get? a=some (PySem.W.instObj C dx) /\
  ∃ mA,h.Ns1 dx mA/\(∀ f,pL (fs.lookup f) (mA f))/\PySem.Within mA (fs.map (·.1))
 | .own _=>∃ o,h.get? a=some o
 | .xd fs=>∃ mA,h.Ns1 a mA/\∀ f,pL (fs.lookup f) (mA f)
 | .rng lo hi=>∃ t u v,h.get? a=some { cls:=.type "range",data:=.fields #[.int lo t,.int hi u,.int 1 v] }
 | .frz o u=>h.get? a=some o/\cu H h a u
 | .tbl ps=>h.get? a=some { cls:=.none,data:=.fields ps }
 | .met f x=>h.get? a=some (PySem.W.methodObj (.ref f) (.ref x))
 | .ext φ=>φ h/\(∃ o,h.get? a=some o)/\∀ h1 h2:Heap,φ h1->(∀ o,h1.get? a=some o->h2.get? a=some o)->φ h2
def HOk (H:Hp) (h:Heap):Prop:=∀ a o,H a=some o->cu P w H h a o
end
section
variable {P:Program} {w:World} {H H':Hp} {h h':Heap} {a:Addr} {o:HO}
def cu.lt (x:cu P w H h a o):a < h.objs.size:=by
 cases o with
 | lst xs=>obtain ⟨_,_,_,_,e⟩:=x; exact Zt e
 | tup xs=>obtain ⟨_,_,_,p⟩:=x; exact p.lt
 | dK kvs=>obtain ⟨_,_,_,_,o,_,_,e,_⟩:=x; exact Zt e
 | dT kvs=>obtain ⟨_,_,_,_,o,_,_,e,_⟩:=x; exact Zt e
 | set S n=>obtain ⟨o,_,_,_,e,_⟩:=x; exact Zt e
 | ins C dx fs=>obtain ⟨_,_,_,e,_⟩:=x; exact Zt e
 | own y=>obtain ⟨_,e⟩:=x; exact Zt e
 | xd fs=>obtain ⟨_,⟨_,_,_,e,_⟩,_⟩:=x; exact Zt e
 | rng lo hi=>obtain ⟨_,_,_,e⟩:=x; exact Zt e
 | frz ob u=>obtain ⟨e,_⟩:=x; exact Zt e
 | tbl ps=>exact Zt (show h.get? a=some _ from x)
 | met f y=>exact Zt (show h.get? a=some _ from x)
 | ext φ=>obtain ⟨_,⟨_,e⟩,_⟩:=x; exact Zt e
def Paired.KY {α β:Type} {F G:α->β->Prop}:∀ {l₁:List α} {l₂:List β},Paired F l₁ l₂->(∀ a b,F a b->G a b)->Paired G l₁ l₂
 | _,_,.nil,_=>.nil
 | _,_,.cons r t,f=>.cons (f _ _ r) (Paired.KY t f)
def cu.ym (x:cu P w H h a o) (k:∀ b u,(b=a\/H b=some (.own a))->h.get? b=some u->h'.get? b=some u)
  (ho:∀ b,H b=some (.own a)->H' b=some (.own a)) (ht:∀ b xs,H b=some (.tup xs)->H' b=some (.tup xs)):cu P w H' h' a o:=by
 induction o with
 | lst xs=>obtain ⟨z,its,n,r,e⟩:=x; exact ⟨z,its,n,r,k _ _ (.inl rfl) e⟩
 | tup xs=>obtain ⟨z,its,r,ob,e,c⟩:=x; exact ⟨z,its,r,ob,k _ _ (.inl rfl) e,c⟩
 | dK kvs=>obtain ⟨z,y,vs,r,ob,es,ep,e,c⟩:=x; exact ⟨z,y,vs,r,ob,es,ep,k _ _ (.inl rfl) e,c⟩
 | dT kvs =>
  obtain ⟨z,y,xs,r,ob,es,ep,e,c⟩:=x;exact ⟨z,y,xs,Paired.KY r λ p q z=>⟨z.1,ht _ _ z.2.1,z.2.2⟩,ob,es,ep,k _ _ (.inl rfl) e,c⟩
 | set S n=>obtain ⟨ob,es,ep,t,e,c⟩:=x; exact ⟨ob,es,ep,t,k _ _ (.inl rfl) e,c⟩
 | ins C dx fs =>
  obtain ⟨d,z,ne,e,mA,⟨od,es,ep,e2,c⟩,r⟩:=x;exact ⟨ho _ d,z,ne,k _ _ (.inl rfl) e,mA,⟨od,es,ep,k _ _ (.inr d) e2,c⟩,r⟩
 | own y=>obtain ⟨ob,e⟩:=x; exact ⟨ob,k _ _ (.inl rfl) e⟩
 | xd fs=>obtain ⟨mA,⟨od,es,ep,e,c⟩,r⟩:=x; exact ⟨mA,⟨od,es,ep,k _ _ (.inl rfl) e,c⟩,r⟩
 | rng lo hi=>obtain ⟨t,u,v,e⟩:=x; exact ⟨t,u,v,k _ _ (.inl rfl) e⟩
 | frz ob u ih=>obtain ⟨e,q⟩:=x; exact ⟨k _ _ (.inl rfl) e,ih q⟩
 | tbl ps =>
  have e:h.get? a=some { cls:=.none,data:=.fields ps }:=x;show h'.get? a=some { cls:=.none,data:=.fields ps };exact k a _ (.inl rfl) e
 | met f y =>
  have e:h.get? a=some (PySem.W.methodObj (.ref f) (.ref y)):=x;show h'.get? a=some (PySem.W.methodObj (.ref f) (.ref y));exact k a _ (.inl rfl) e
 | ext φ=>obtain ⟨p,⟨o,e⟩,st⟩:=x; exact ⟨st _ _ p λ o q=>k _ _ (.inl rfl) q,⟨o,k _ _ (.inl rfl) e⟩,st⟩
def HOk.lt (x:HOk P w H h) (e:H a=some o):a < h.objs.size:=(x a o e).lt
def HOk.fresh (x:HOk P w H h) (e:h.objs.size<=a):H a=none:=by
 cases q:H a with
 | none=>rfl
 | some u=>exact absurd (Z1 (x.lt q) e) (Yj _)
def HOk.kept (x:HOk P w H h) (k:∀ b u,h.get? b=some u->h'.get? b=some u):HOk P w H h':=λ a o e =>
 (x a o e).ym (λ b u _ q=>k b u q) (λ _ q=>q) λ _ _ q=>q
def HOk.laid (x:HOk P w H h) (k:∀ b u,h.get? b=some u->h'.get? b=some u) (hp:h.objs.size<=a) (new:cu P w (upd H a o) h' a o):HOk P w (upd H a o) h':=λ b u e=>by
 have hn:=x.fresh hp
 by_cases hb:b=a
 · subst hb; rw [aq] at e; cases e; exact new
 ·rw [aj hb] at e
  exact (x b u e).ym (λ c v _ q=>k c v q) (λ c q=>by rw [aj (dk q hn)]; exact q) λ c xs q=>by rw [aj (dk q hn)]; exact q
end
def Rd (H:Hp) (a:Addr) (u:HO):Prop:=H a=some u\/∃ o,H a=some (.frz o u)
def Rd.ok (r:Rd H a u) (x:HOk P w H h):cu P w H h a u:=by
 rcases r with r | ⟨o,r⟩
 · exact x a u r
 ·obtain ⟨_,q⟩:=x a _ r
  exact q
def Mut:Option HO->Prop
 | some (.lst _)=>True
 | some (.dK _)=>True
 | some (.dT _)=>True
 | some (.set _ _)=>True
 | some (.ins _ _ _)=>True
 | some (.ext _)=>True
 | _=>False
section
variable {P:Program} {w:World} {H:Hp} {h h':Heap} {x e:Addr} {o':HO}
def HOk.write (ok:HOk P w H h) (mu:Mut (H x)) (he:e=x\/H e=some (.own x)) (k:∀ b u,b≠e->h.get? b=some u->h'.get? b=some u) (heo:∃ u,h'.get? e=some u)
  (new:cu P w (upd H x o') h' x o'):HOk P w (upd H x o') h':=λ b u q=>by
 have nown:∀ c y,H c=some (.own y)->c≠x:=λ c y r z=>by subst z; rw [r] at mu; exact mu
 have ntup:∀ c xs,H c=some (.tup xs)->c≠x:=λ c xs r z=>by subst z; rw [r] at mu; exact mu
 by_cases hb:b=x
 · subst hb; rw [aq] at q; cases q; exact new
 ·rw [aj hb] at q
  by_cases hbe:b=e
  ·have q':H b=some (.own x):=by
    rcases he with z | z
    · exact absurd (hbe.trans z) hb
    · rw [hbe]; exact z
   rw [q] at q'; cases q'
   obtain ⟨v,hv⟩:=heo;exact ⟨v,by rw [hbe]; exact hv⟩
  ·refine (ok b u q).ym (λ c v hc r=>k c v ?_ r) (λ c r=>by rw [aj (nown c b r)]; exact r) λ c xs r=>by rw [aj (ntup c xs r)]; exact r
   rcases hc with rfl | hc
   · exact hbe
   ·rintro rfl
    rcases he with z | z
    · exact nown c b hc z
    · rw [hc] at z; cases z; exact hb rfl
end
structure Un (fs ex:List Addr) (H H':Hp) (h h':Heap):Prop where
 keep:∀ b o,h.get? b=some o->H b=none->b ∉ fs->b ∉ ex->h'.get? b=some o
 slot:∀ b o,h.get? b=some o->H b=none->b ∈ fs->b ∉ ex->∃ sl,h'.get? b=some { o with slots:=sl }
 free:∀ b o,h.get? b=some o->H b=none->b ∉ ex->H' b=none
 there:∀ b o,h.get? b=some o->b ∉ ex->∃ o',h'.get? b=some o'
 uO:∀ b xs,H b=some (.tup xs)->H' b=some (.tup xs)
 uG:∀ b o u,H b=some (.frz o u)->H' b=some (.frz o u)
 uS:∀ b ps,H b=some (.tbl ps)->∃ more,H' b=some (.tbl (ps++more))
section
variable {fs fs' ex ex':List Addr} {H H1 H2:Hp} {h h1 h2 h':Heap} {a x e:Addr} {o:HO}
def Un.any (u:Un fs ex H H1 h h1) (q:h.get? b=some ob) (n:H b=none) (hx:b ∉ ex):∃ sl,h1.get? b=some { ob with slots:=sl }:=by
 by_cases hb:b ∈ fs
 · exact u.slot b ob q n hb hx
 · exact ⟨ob.slots,u.keep b ob q n hb hx⟩
def Un.kept (k:∀ b u,h.get? b=some u->h'.get? b=some u):Un fs ex H H h h' :=
 ⟨λ b ob q _ _ _=>k b ob q,λ b ob q _ _ _=>⟨ob.slots,k b ob q⟩,λ _ _ _ n _=>n,λ b ob q _=>⟨ob,k b ob q⟩,λ _ _ q=>q,λ _ _ _ q=>q,λ _ ps q=>⟨#[],by rw [q]; simp⟩⟩
def Un.refl:Un fs ex H H h h:=Un.kept λ _ _ q=>q
def Un.laid (k:∀ b u,h.get? b=some u->h'.get? b=some u) (hp:h.objs.size<=a) (hn:H a=none):Un fs ex H (upd H a o) h h' where
 keep:=λ b u q _ _ _=>k b u q
 slot:=λ b u q _ _ _=>⟨u.slots,k b u q⟩
 free:=λ b u q n _=>by rw [aj (Zx (Z1 (Zt q) hp))]; exact n
 there:=λ b u q _=>⟨u,k b u q⟩
 uO:=λ b xs q=>by rw [aj (dk q hn)]; exact q
 uG:=λ b u xs q=>by rw [aj (dk q hn)]; exact q
 uS:=λ b ps q=>⟨#[],by rw [aj (dk q hn),q]; simp⟩
def Un.write (mu:Mut (H x)) (he:e=x\/H e=some (.own x)) (k:∀ b u,b≠e->h.get? b=some u->h'.get? b=some u) (heo:∃ u,h'.get? e=some u):Un fs ex H (upd H x o) h h':=by
 have hx:∀ b,H b=none->b≠x:=λ b n z=>by subst z; rw [n] at mu; exact mu
 have hb:∀ b,H b=none->b≠e:=λ b n z=>by
  subst z;rcases he with r | r
  · exact hx b n r
  · rw [n] at r; cases r
 have hm:∀ b u,H b=some u->¬ Mut (some u)->b≠x:=λ b u q nm z=>by subst z; rw [q] at mu; exact nm mu
 refine ⟨λ b u q n _ _=>k b u (hb b n) q,λ b u q n _ _=>⟨u.slots,k b u (hb b n) q⟩,λ b u q n _=>by rw [aj (hx b n)]; exact n,λ b u q _=>?_,
  λ b xs q=>by rw [aj (hm b _ q λ z=>z)]; exact q,λ b u xs q=>by rw [aj (hm b _ q λ z=>z)]; exact q,λ b ps q=>⟨#[],by rw [aj (hm b _ q λ z=>z),q]; simp⟩⟩
 by_cases hbe:b=e
 · subst hbe; exact heo
 · exact ⟨u,k b u hbe q⟩
end
def trk (h:Heap) (H:Hp):List Addr:=(List.range h.objs.size).filter λ a=>(H a).isSome
def zS (h:Heap) (H:Hp):Heap:=PySem.W.hideAll h (trk h H)
def xk (h:Heap) (H:Hp):(zS h H).objs.size=h.objs.size:=PySem.W.hideAll_size _ _
def zR (e:h.get? b=some o) (n:H b=none):(zS h H).get? b=some o :=
 PySem.W.hideAll_get _ e λ hm=>by
  have q:(H b).isSome=true:=(Xb.mp hm).2;rw [n] at q; simp at q
def CV (e:(zS h H).get? b=some o):h.get? b=some o/\H b=none:=by
 have e':h.get? b=some o:=PySem.W.of_hideAll (trk h H) e;refine ⟨e',?_⟩
 cases q:H b with
 | none=>rfl
 | some x =>
  have hm:b ∈ trk h H:=Xb.mpr ⟨List.mem_range.mpr (Zt e'),by simp [q]⟩;have z:(zS h H).get? b=none:=PySem.W.hideAll_none (trk h H) hm;rw [z] at e; cases e
end L2
namespace L2
open PySem PySem.Spec PyProof.Rows
structure Mod (K:W.Frag) (mg:Str->Option Value) (base:Heap):Prop where
 kin:K.In base
 glob:base.Ns mainGlobals mg
 blt:∃ mb,base.Ns builtinsNs mb/\∀ x:Str,x≠"__name__"->mb x=bootBuiltins x
 nolimit:base.NoLimit
structure Cx where
 prog:Program
 w:World
 K:W.Frag
 mg:Str->Option Value
 base:Heap
 A:Around
 N:List Str
 s₀:Shared
 H₀:Hp
 env:Env
 outer:List Env
 stack:List Env
 ex:List Addr
 fn:Str->Bool
 calm:Bool
 pn:List (Addr×Obj)
 xe:Value->Shared->Prop
def frs (l:List Env):List Addr:=l.filterMap (·.frame)
abbrev Cx.fs (X:Cx):List Addr:=frs X.outer
def Vis (sc:Scope) (x:Str):Prop:=sc.names.lookup x=some .local\/sc.names.lookup x=some .cell\/sc.names.lookup x=some .free
def Loc (sc:Scope) (x:Str):Prop:=sc.names.lookup x=some .local\/sc.names.lookup x=some .cell
def Look (env:Env) (h:Heap) (m:Str->Option Value) (x:Str) (u:Value):Prop :=
 (env.kindOf x=some .local/\m x=some u)\/((env.kindOf x=some .cell\/env.kindOf x=some .free)/\∃ c,env.cells.lookup x=some c/\h.IsCell c (some u))
structure Cx.Ok (X:Cx):Prop where
 mod:Mod X.K X.mg X.base
 kind:X.env.scope.kind=.function
 glob:X.env.globals=mainGlobals
 blt:X.env.builtins=builtinsNs
 above:X.s₀.heap.objs.size<=X.env.locals
 inj:∀ x y c,X.env.cells.lookup x=some c->X.env.cells.lookup y=some c->x=y
 has:∀ x,(X.env.kindOf x=some .cell\/X.env.kindOf x=some .free)->∃ c,X.env.cells.lookup x=some c
 cab:∀ x c,X.fn x=true->X.env.cells.lookup x=some c->X.s₀.heap.objs.size<=c
 hd:X.calm=true->X.A.handled=none
 frames:X.A.frames=some X.stack
 stk:X.stack=X.outer\/(X.stack=X.env::X.outer/\X.env.frame=some X.env.locals)
 exf:∀ b ∈ X.ex,b≠X.env.locals/\∀ x c,X.env.cells.lookup x=some c->c≠b
 bs:∀ b o,X.base.get? b=some o->X.s₀.heap.get? b=some o/\X.H₀ b=none
 bsz:X.base.objs.size<=X.s₀.heap.objs.size
 F8:∀ b o,X.base.get? b=some o->b ∉ X.ex
 Ig:∀ b ∈ X.ex,b ∉ X.fs
 uF:X.s₀.heap.FunFrames X.base X.outer
 frf:∀ b ∈ X.fs,X.H₀ b=none
structure Inv (X:Cx) (pins:List (Addr×Obj)) (σ:List (Option V)) (H:Hp) (s:Shared):Prop where
 ok:X.Ok
 os:s.os=X.s₀.os
 bare:AllBare s.gens
 base:Un X.fs X.ex X.H₀ H X.s₀.heap s.heap
 loc:∃ m,s.heap.Ns X.env.locals m/\∀ (i:Nat) (x:Str) (v:V),X.N[i]?=some x->σ[i]?=some (some v)->Vis X.env.scope x->∃ u,RelV v u/\Look X.env s.heap m x u
 cell:∀ x c,X.env.cells.lookup x=some c->∃ v,s.heap.IsCell c v
 free:H X.env.locals=none
 lr:∀ x c,X.env.cells.lookup x=some c->H c=none
 pin:∀ p ∈ X.pn++pins,s.heap.get? p.1=some p.2/\H p.1=none/\p.1≠X.env.locals/\p.1 ∉ X.fs/\∀ v,p.2.data≠.cell v
 hok:HOk X.prog X.w H s.heap
 len:σ.length=X.N.length
section
variable {X:Cx} {pins:List (Addr×Obj)} {σ:List (Option V)} {H H':Hp} {s:Shared} {h':Heap}
def Cx.Ok.NA (ok:X.Ok) (e:X.base.get? b=some o):b ∉ X.fs:=λ hb=>by
 have:=(ok.uF.mem hb).1;rw [e] at this; cases this
def Inv.bs (I:Inv X pins σ H s):∀ b o,X.base.get? b=some o->s.heap.get? b=some o/\H b=none:=λ b o e =>
 ⟨I.base.keep b o (I.ok.bs b o e).1 (I.ok.bs b o e).2 (I.ok.NA e) (I.ok.F8 b o e),I.base.free b o (I.ok.bs b o e).1 (I.ok.bs b o e).2 (I.ok.F8 b o e)⟩
def Inv.bk (I:Inv X pins σ H s):∀ b o,X.base.get? b=some o->s.heap.get? b=some o:=λ b o e=>(I.bs b o e).1
def Inv.mod (I:Inv X pins σ H s):Mod X.K X.mg X.base:=I.ok.mod
def Inv.kIn (I:Inv X pins σ H s):X.K.In s.heap:=I.ok.mod.kin.keeps I.bk
def Inv.lt (I:Inv X pins σ H s):X.env.locals < s.heap.objs.size:=let ⟨_,hn,_⟩:=I.loc; hn.lt
def Inv.sz (I:Inv X pins σ H s):X.s₀.heap.objs.size<=s.heap.objs.size:=Z2 I.ok.above (Yn I.lt)
def Inv.Nz (I:Inv X pins σ H s) (h:s.heap.objs.size<=a):a ∉ X.fs:=λ hb=>by
 obtain ⟨_,o,ho,_⟩:=I.ok.uF.mem hb;exact absurd (Z1 (Zt ho) (Z2 I.sz h)) (Yj _)
def Inv.cne (I:Inv X pins σ H s):∀ x c,X.env.cells.lookup x=some c->c≠X.env.locals:=λ x c e z=>by
 obtain ⟨v,o,ho,hd⟩:=I.cell x c e;obtain ⟨m,⟨o',es,ep,ho',hd',_⟩,_⟩:=I.loc;rw [z,ho'] at ho; cases ho; rw [hd'] at hd; cases hd
def Inv.uF (I:Inv X pins σ H s):s.heap.FunFrames X.base X.outer:=by
 have all:∀ (l:List Env),(∀ b ∈ frs l,b ∈ X.fs)->X.s₀.heap.FunFrames X.base l->s.heap.FunFrames X.base l:=by
  intro l
  induction l with
  | nil=>intro _ _; trivial
  | cons env r ih =>
   intro hs hl;obtain ⟨hk,⟨L,o,hf,hn,ho,hd⟩,hr⟩:=hl;have hL:L ∈ X.fs:=hs L (by unfold frs; rw [List.filterMap_cons,hf]; exact Zd);obtain ⟨sl,e⟩:=I.base.slot L o ho (I.ok.frf L hL) hL λ z=>I.ok.Ig L z hL
   exact ⟨hk,⟨L,_,hf,hn,e,hd⟩,ih (λ b hb=>hs b (by unfold frs; rw [List.filterMap_cons,hf]; exact Zc _ hb)) hr⟩
 exact all X.outer (λ _ hb=>hb) I.ok.uF
def Inv.stack (I:Inv X pins σ H s):s.heap.FunFrames X.base X.stack:=by
 rcases I.ok.stk with e | ⟨e,hf⟩
 · rw [e]; exact I.uF
 ·rw [e]
  obtain ⟨m,hn,_⟩:=I.loc;refine .cons (by rw [I.ok.kind]; decide) hf hn ?_ I.uF;exact Heap.get?_none_of_le (Z2 I.ok.bsz I.ok.above)
def Inv.nS (I:Inv X pins σ H s):∀ b ∈ frs X.stack,b ∈ X.env.locals::X.fs:=λ b hb=>by
 rcases I.ok.stk with e | ⟨e,hf⟩
 · rw [e] at hb; exact Zc _ hb
 ·rw [e] at hb
  unfold frs at hb;rw [List.filterMap_cons,hf] at hb;exact hb
def Inv.uY (I:Inv X pins σ H s):∀ b ∈ frs X.stack,H b=none:=λ b hb=>by
 rcases Zl.mp (I.nS b hb) with e | hb
 · rw [e]; exact I.free
 ·obtain ⟨_,o,ho,_⟩:=I.ok.uF.mem hb
  exact I.base.free b o ho (I.ok.frf b hb) λ z=>I.ok.Ig b z hb
def Inv.step {g':Array GenState} {t':Nat} {d':Drawn} {ch:List Addr} (I:Inv X pins σ H s)
  (hch:∀ b ∈ ch,(b ∈ X.ex\/X.s₀.heap.objs.size<=b)/\b≠X.env.locals/\(∀ x c,X.env.cells.lookup x=some c->c≠b)/\∀ p ∈ X.pn++pins,p.1≠b)
  (keep:∀ b o,b≠X.env.locals->b ∉ X.fs->b ∉ ch->s.heap.get? b=some o->H b=none->h'.get? b=some o)
  (slot:∀ b o,b≠X.env.locals->b ∈ X.fs->b ∉ ch->s.heap.get? b=some o->H b=none->∃ sl,h'.get? b=some { o with slots:=sl }) (free:∀ b o,b ∉ ch->s.heap.get? b=some o->H b=none->H' b=none)
  (there:∀ b o,b ∉ ch->s.heap.get? b=some o->∃ o',h'.get? b=some o')
  (uO:∀ b xs,H b=some (.tup xs)->H' b=some (.tup xs)) (uG:∀ b o u,H b=some (.frz o u)->H' b=some (.frz o u)) (uS:∀ b ps,H b=some (.tbl ps)->∃ more,H' b=some (.tbl (ps++more)))
  (ns:∀ m,s.heap.Ns X.env.locals m->h'.Ns X.env.locals m) (hok:HOk X.prog X.w H' h') (hg:AllBare g') :
  Inv X pins σ H' { s with heap:=h',gens:=g',drawn:=d',toks:=t' }:=by
 have neL:∀ b o,X.s₀.heap.get? b=some o->b≠X.env.locals:=λ b o e=>Zx (Z1 (Zt e) I.ok.above)
 have neC:∀ b o,X.s₀.heap.get? b=some o->b ∉ X.ex->b ∉ ch:=λ b o e hx hb=>by
  rcases (hch b hb).1 with z | z
  · exact hx z
  · exact absurd (Z1 (Zt e) z) (Yj _)
 have cellK:∀ x c,X.env.cells.lookup x=some c->∀ v,s.heap.IsCell c v->h'.IsCell c v:=λ x c e v ⟨o,ho,hd⟩=>by
  have nch:c ∉ ch:=λ z=>(hch c z).2.2.1 x c e rfl
  by_cases hc:c ∈ X.fs
  ·obtain ⟨sl,q⟩:=slot c o (I.cne x c e) hc nch ho (I.lr x c e)
   exact ⟨_,q,hd⟩
  · exact ⟨o,keep c o (I.cne x c e) hc nch ho (I.lr x c e),hd⟩
 refine ⟨I.ok,I.os,hg,⟨λ b o e n hb hx=>?_,λ b o e n hb hx=>?_,λ b o e n hx=>?_,λ b o e hx=>?_,λ b xs e=>uO b xs (I.base.uO b xs e),λ b o xs e=>uG b o xs (I.base.uG b o xs e),λ b ps e=>?_⟩,?_,λ x c e=>?_,?_,λ x c e=>?_,λ p hp=>?_,hok,I.len⟩
 · exact keep b o (neL b o e) hb (neC b o e hx) (I.base.keep b o e n hb hx) (I.base.free b o e n hx)
 ·obtain ⟨sl,e1⟩:=I.base.slot b o e n hb hx
  obtain ⟨sl',e2⟩:=slot b _ (neL b o e) hb (neC b o e hx) e1 (I.base.free b o e n hx);exact ⟨sl',e2⟩
 ·obtain ⟨o',e1⟩:=I.base.there b o e hx
  exact free b o' (neC b o e hx) e1 (I.base.free b o e n hx)
 ·obtain ⟨o',e1⟩:=I.base.there b o e hx
  exact there b o' (neC b o e hx) e1
 ·obtain ⟨m1,e1⟩:=I.base.uS b ps e
  obtain ⟨m2,e2⟩:=uS b _ e1;exact ⟨m1++m2,by rw [e2,Array.append_assoc]⟩
 ·obtain ⟨m,hn,hl⟩:=I.loc
  refine ⟨m,ns m hn,λ i x v e1 e2 e3=>?_⟩;obtain ⟨u,r,l⟩:=hl i x v e1 e2 e3;refine ⟨u,r,?_⟩;rcases l with l | ⟨k,c,e,z⟩
  · exact .inl l
  · exact .inr ⟨k,c,e,cellK x c e _ z⟩
 ·obtain ⟨v,z⟩:=I.cell x c e
  exact ⟨v,cellK x c e v z⟩
 ·obtain ⟨m,⟨o,_,_,ho,_⟩,_⟩:=I.loc
  exact free _ o (λ z=>(hch _ z).2.1 rfl) ho I.free
 ·obtain ⟨v,o,ho,hd⟩:=I.cell x c e
  exact free c o (λ z=>(hch c z).2.2.1 x c e rfl) ho (I.lr x c e)
 ·obtain ⟨e,n,ne,nf,d⟩:=I.pin p hp
  have nch:p.1 ∉ ch:=λ z=>(hch p.1 z).2.2.2 p hp rfl
  exact ⟨keep p.1 p.2 ne nf nch e n,free p.1 p.2 nch e n,ne,nf,d⟩
def Inv.un {t':Nat} (I:Inv X pins σ H s) (u:Un X.fs [] H H' s.heap h') (hok:HOk X.prog X.w H' h'):Inv X pins σ H' { s with heap:=h',toks:=t' }:=by
 obtain ⟨m,⟨o,es,ep,ho,r⟩,_⟩:=id I.loc;obtain ⟨sl,hL⟩:=u.any ho I.free (by simp)
 exact I.step (g':=s.gens) (d':=s.drawn) (ch:=[]) (λ _ z=>nomatch z) (λ b o _ hb _ e n=>u.keep b o e n hb (by simp)) (λ b o _ hb _ e n=>u.slot b o e n hb (by simp)) (λ b o _ e n=>u.free b o e n (by simp)) (λ b o _ e=>u.there b o e (by simp)) u.uO u.uG u.uS (λ m' hm=>by
  obtain ⟨o',es',ep',ho',r'⟩:=hm;rw [ho] at ho'; cases ho'
  exact ⟨_,es',ep',hL,r'⟩) hok I.bare
def Inv.call {g':Array GenState} {t':Nat} {d':Drawn} {ch:List Addr} (I:Inv X pins σ H s) (u:Un (frs X.stack) ch H H' s.heap h') (hok:HOk X.prog X.w H' h') (hg:AllBare g')
  (hch:∀ b ∈ ch,(b ∈ X.ex\/X.s₀.heap.objs.size<=b)/\b≠X.env.locals/\(∀ x c,X.env.cells.lookup x=some c->c≠b)/\∀ p ∈ X.pn++pins,p.1≠b) :
  Inv X pins σ H' { s with heap:=h',gens:=g',drawn:=d',toks:=t' }:=by
 obtain ⟨m,⟨o,es,ep,ho,r⟩,_⟩:=id I.loc;obtain ⟨sl,hL⟩:=u.any ho I.free λ z=>(hch _ z).2.1 rfl
 exact I.step (ch:=ch) hch (λ b o hL hb hc e n=>u.keep b o e n (λ z=>(Zl.mp (I.nS b z)).elim hL hb) hc) (λ b o _ _ hc e n=>u.any e n hc) (λ b o hc e n=>u.free b o e n hc) (λ b o hc e=>u.there b o e hc) u.uO u.uG u.uS (λ m' hm=>by
  obtain ⟨o',es',ep',ho',r'⟩:=hm;rw [ho] at ho'; cases ho'
  exact ⟨_,es',ep',hL,r'⟩) hok hg
def Inv.turned {t':Nat} {it:Addr} (I:Inv X pins σ H s) (k:∀ b o,b≠it->s.heap.get? b=some o->h'.get? b=some o) (hn:H it=none) (hL:it≠X.env.locals)
  (h1:it ∈ X.ex\/X.s₀.heap.objs.size<=it) (h2:∀ x c,X.env.cells.lookup x=some c->c≠it) (h3:∀ p ∈ X.pn++pins,p.1≠it):Inv X pins σ H { s with heap:=h',toks:=t' }:=by
 have nit:∀ b u,H b=some u->b≠it:=λ b u e z=>by rw [z,hn] at e; cases e
 refine I.step (g':=s.gens) (d':=s.drawn) (ch:=[it]) (λ b hb=>?_) (λ b o _ _ hc e _=>k b o (λ z=>hc (by simp [z])) e) (λ b o _ _ hc e _=>⟨o.slots,k b o (λ z=>hc (by simp [z])) e⟩) (λ _ _ _ _ n=>n)
  (λ b o hc e=>⟨o,k b o (λ z=>hc (by simp [z])) e⟩) (λ _ _ e=>e) (λ _ _ _ e=>e) (λ b ps e=>⟨#[],by rw [e]; simp⟩) (λ m hm=>?_) (λ b u e=>?_) I.bare
 ·have e:b=it:=by simpa using hb
  subst e;exact ⟨h1,hL,h2,h3⟩
 ·obtain ⟨o,es,ep,ho,r⟩:=hm
  exact ⟨o,es,ep,k _ o (Ne.symm hL) ho,r⟩
 ·refine (I.hok b u e).ym (λ c v hc q=>k c v ?_ q) (λ _ q=>q) λ _ _ q=>q
  rcases hc with z | z
  · rw [z]; exact nit b u e
  · exact nit c _ z
def Inv.tok (I:Inv X pins σ H s) (t:Nat):Inv X pins σ H { s with toks:=t }:=I.un (h':=s.heap) (t':=t) Un.refl I.hok
def Inv.kept (I:Inv X pins σ H s) (k:∀ b u,s.heap.get? b=some u->h'.get? b=some u):Inv X pins σ H { s with heap:=h',toks:=t' }:=I.un (Un.kept k) (I.hok.kept k)
def Inv.laid (I:Inv X pins σ H s) (k:∀ b u,s.heap.get? b=some u->h'.get? b=some u) (hp:s.heap.objs.size<=a) (new:cu X.prog X.w (upd H a o) h' a o) :
 Inv X pins σ (upd H a o) { s with heap:=h',toks:=t' }:=I.un (Un.laid k hp (I.hok.fresh hp)) (I.hok.laid k hp new)
def Inv.write (I:Inv X pins σ H s) (mu:Mut (H x)) (he:e=x\/H e=some (.own x)) (k:∀ b u,b≠e->s.heap.get? b=some u->h'.get? b=some u) (heo:∃ u,h'.get? e=some u)
 (new:cu X.prog X.w (upd H x o) h' x o):Inv X pins σ (upd H x o) { s with heap:=h',toks:=t' }:=I.un (Un.write mu he k heo) (I.hok.write mu he k heo new)
def Inv.hZ (I:Inv X pins σ H s) (h:∀ p ∈ pins',s.heap.get? p.1=some p.2/\H p.1=none/\p.1≠X.env.locals/\p.1 ∉ X.fs/\∀ v,p.2.data≠.cell v):Inv X pins' σ H s :=
 ⟨I.ok,I.os,I.bare,I.base,I.loc,I.cell,I.free,I.lr,λ p hp=>(Zi.mp hp).elim (λ z=>I.pin p (Zp _ z)) (h p),I.hok,I.len⟩
def rN {N:List Str} (hN:N.Nodup) {i j:Nat} {x:Str} (a:N[i]?=some x) (b:N[j]?=some x):i=j:=by
 obtain ⟨h1,e1⟩:=List.getElem?_eq_some_iff.mp a;obtain ⟨h2,e2⟩:=List.getElem?_eq_some_iff.mp b;exact (List.getElem_inj hN).mp (e1.trans e2.symm)
def nR {M:Model} {A:Around} {E:Value->Shared->Prop} {i:Nat} {x:Str} {v:V} {u:Value} {Q:Unit->Shared->Prop} (I:Inv X pins σ H s) (hN:X.N.Nodup) (hi:X.N[i]?=some x) (hx:Loc X.env.scope x) (r:RelV v u)
  (h:∀ s',Inv X pins (σ.set i (some v)) H s'->(∃ a,Heap.SameBut a s.heap s'.heap/\(a=X.env.locals\/X.env.cells.lookup x=some a))->Q () s') (hf:X.fn x=true\/X.env.scope.names.lookup x=some .local:=by first | exact .inl rfl | exact .inr rfl | assumption):wpAny M A (storeName X.env x u) Q E s:=by
 obtain ⟨m,hn,hl⟩:=id I.loc;have hcls:(X.env.scope.kind == .class||(X.env.scope.kind == .module&&X.env.locals != X.env.globals))=false:=by rw [I.ok.kind]; rfl
 have hiσ:i < σ.length:=by rw [I.len]; exact (List.getElem?_eq_some_iff.mp hi).1
 have cne:=I.cne
 have tracked:∀ {a:Addr} {h':Heap},(∃ o,s.heap.get? a=some o/\H a=none)->Heap.SameBut a s.heap h'->HOk X.prog X.w H h':=λ {a h'} ha hs b ob e=>by
  obtain ⟨_,_,hfree⟩:=ha;refine (I.hok b ob e).ym (λ c w' hc q=>(hs.2 c ?_).trans q) (λ _ q=>q) λ _ _ q=>q
  rintro rfl
  rcases hc with rfl | hc
  · rw [hfree] at e; cases e
  · rw [hfree] at hc; cases hc
 rcases hx with hk | hk
 ·refine wpAny_storeName_local hk hn (λ h' hn' hs=>?_) hcls
  obtain ⟨oL,_,_,hoL,_⟩:=id hn;refine h _ ⟨I.ok,I.os,I.bare,⟨λ b o e n hb hx=>?_,λ b o e n hb hx=>?_,I.base.free,λ b o e hx=>?_,I.base.uO,I.base.uG,I.base.uS⟩,⟨_,hn',λ j y v' e1 e2 e3=>?_⟩,λ y c e=>?_,I.free,I.lr,λ p hp=>?_,tracked ⟨oL,hoL,I.free⟩ hs,by simpa using I.len⟩ ⟨_,hs,.inl rfl⟩
  · exact (hs.2 b (Zx (Z1 (Zt e) I.ok.above))).trans (I.base.keep b o e n hb hx)
  ·obtain ⟨sl,e1⟩:=I.base.slot b o e n hb hx
   exact ⟨sl,(hs.2 b (Zx (Z1 (Zt e) I.ok.above))).trans e1⟩
  ·obtain ⟨o',e1⟩:=I.base.there b o e hx
   exact ⟨o',(hs.2 b (Zx (Z1 (Zt e) I.ok.above))).trans e1⟩
  ·by_cases hj:j=i
   ·subst hj
    rw [hi] at e1; cases e1
    rw [List.getElem?_set_self hiσ] at e2;cases e2;exact ⟨u,r,.inl ⟨hk,by simp⟩⟩
   ·rw [List.getElem?_set_ne (Ne.symm hj)] at e2
    obtain ⟨u',r',q⟩:=hl j y v' e1 e2 e3;refine ⟨u',r',?_⟩;rcases q with ⟨k,e⟩ | ⟨k,c,e,z⟩
    ·refine .inl ⟨k,?_⟩
     have:y≠x:=λ e=>hj (rN hN e1 (e ▸ hi))
     simp [this,e]
    · exact .inr ⟨k,c,e,z.sameBut hs (cne y c e)⟩
  ·obtain ⟨w',z⟩:=I.cell y c e
   exact ⟨w',z.sameBut hs (cne y c e)⟩
  ·obtain ⟨e,n,ne,nf,d⟩:=I.pin p hp
   exact ⟨(hs.2 p.1 ne).trans e,n,ne,nf,d⟩
 ·have hfn:X.fn x=true:=by
   rcases hf with z | z
   · exact z
   · rw [z] at hk; cases hk
  obtain ⟨c,hc⟩:=I.ok.has x (.inl hk);obtain ⟨w',z⟩:=I.cell x c hc;refine wpAny_storeName_cell I.ok.kind hk hc z (λ h' hc' hs=>?_);obtain ⟨oc,hoc,hocd⟩:=id z;refine h { s with heap:=h' } ⟨I.ok,I.os,I.bare,⟨λ b o e n hb hx=>?_,λ b o e n hb hx=>?_,I.base.free,λ b o e hx=>?_,I.base.uO,I.base.uG,I.base.uS⟩,⟨m,hn.sameBut hs (Ne.symm (cne x c hc)),λ j y v' e1 e2 e3=>?_⟩,λ y c' e=>?_,I.free,I.lr,λ p hp=>?_,tracked ⟨oc,hoc,I.lr x c hc⟩ hs,by simpa using I.len⟩ ⟨c,hs,.inr hc⟩
  · exact (hs.2 b (Zx (Z1 (Zt e) (I.ok.cab x c hfn hc)))).trans (I.base.keep b o e n hb hx)
  ·obtain ⟨sl,e1⟩:=I.base.slot b o e n hb hx
   exact ⟨sl,(hs.2 b (Zx (Z1 (Zt e) (I.ok.cab x c hfn hc)))).trans e1⟩
  ·obtain ⟨o',e1⟩:=I.base.there b o e hx
   exact ⟨o',(hs.2 b (Zx (Z1 (Zt e) (I.ok.cab x c hfn hc)))).trans e1⟩
  ·by_cases hj:j=i
   ·subst hj
    rw [hi] at e1; cases e1
    rw [List.getElem?_set_self hiσ] at e2;cases e2;exact ⟨u,r,.inr ⟨.inl hk,c,hc,hc'⟩⟩
   ·rw [List.getElem?_set_ne (Ne.symm hj)] at e2
    obtain ⟨u',r',q⟩:=hl j y v' e1 e2 e3;refine ⟨u',r',?_⟩;rcases q with q | ⟨k,c',e,z'⟩
    · exact .inl q
    ·refine .inr ⟨k,c',e,z'.sameBut hs ?_⟩
     rintro rfl
     exact hj (rN hN e1 (I.ok.inj _ _ _ e hc ▸ hi))
  ·by_cases hcc:c'=c
   · subst hcc; exact ⟨_,hc'⟩
   ·obtain ⟨w2,z2⟩:=I.cell y c' e
    exact ⟨w2,z2.sameBut hs hcc⟩
  ·obtain ⟨e,n,ne,nf,d⟩:=I.pin p hp
   refine ⟨(hs.2 p.1 ?_).trans e,n,ne,nf,d⟩;intro q;rw [q,hoc] at e;have q':oc=p.2:=Zj e;exact d w' (by rw [<- q']; exact hocd)
def q8 (I:Inv X pins σ H s) (hN:X.N.Nodup) (hi:X.N[i]?=some x) (hx:Loc X.env.scope x) (r:RelV v u)
  (h:∀ s',Inv X pins (σ.set i (some v)) H s'->Q () s') (hf:X.fn x=true\/X.env.scope.names.lookup x=some .local:=by first | exact .inl rfl | exact .inr rfl | assumption):wpAny M A (storeName X.env x u) Q E s :=
 nR I hN hi hx r (λ s' I' _=>h s' I') hf
def Inv.G9 (I:Inv X pins σ H s) (ho:s'.os=s.os) (u:Un (frs X.stack) ch H H' s.heap s'.heap) (hok:HOk X.prog X.w H' s'.heap) (hg:AllBare s'.gens)
  (hch:∀ b ∈ ch,(b ∈ X.ex\/X.s₀.heap.objs.size<=b)/\b≠X.env.locals/\(∀ x c,X.env.cells.lookup x=some c->c≠b)/\∀ p ∈ X.pn++pins,p.1≠b):Inv X pins σ H' s':=by
 obtain ⟨h',g',d',t',o'⟩:=s';have e:o'=s.os:=ho;subst e;exact I.call (g':=g') (t':=t') (d':=d') u hok hg hch
end
abbrev XK:=Value->Option Addr->Hp->Prop
abbrev St:=List (Option V)
abbrev VK:=V->Hp->Prop
abbrev TE:=St->Hp->VK->Prop
abbrev TT:=St->Hp->(Bool->Hp->Prop)->Prop
abbrev TA:=St->Hp->(List V->Hp->Prop)->Prop
structure Ends where
 nx:St->Hp->Prop
 rt:VK
 bk:St->Hp->Prop:=λ _ _=>False
 ct:St->Hp->Prop:=λ _ _=>False
abbrev TS:=Ends->St->Hp->Prop
def EP (X:Cx) (pins:List (Addr×Obj)) (σ:St) (Q:VK) (u:Value) (s':Shared):Prop:=∃ v H',Inv X pins σ H' s'/\RelV v u/\Q v H'
def TP (X:Cx) (pins:List (Addr×Obj)) (σ:St) (Q:Bool->Hp->Prop) (b:Bool) (s':Shared):Prop:=∃ H',Inv X pins σ H' s'/\Q b H'
def AP (X:Cx) (pins:List (Addr×Obj)) (σ:St) (Q:List V->Hp->Prop) (us:List Value) (s':Shared):Prop:=∃ vs H',Inv X pins σ H' s'/\bD vs us/\Q vs H'
def SP (X:Cx) (pins:List (Addr×Obj)) (D:Ends) (f:Flow) (s':Shared):Prop :=
 match f with
 | .next=>∃ σ' H',Inv X pins σ' H' s'/\D.nx σ' H'
 | .brk=>∃ σ' H',Inv X pins σ' H' s'/\D.bk σ' H'
 | .cont=>∃ σ' H',Inv X pins σ' H' s'/\D.ct σ' H'
 | .ret u=>∃ v σ' H',Inv X pins σ' H' s'/\RelV v u/\D.rt v H'
def PE (X:Cx) (e:Expr) (t:TE):Prop :=
 ∀ (pins:List (Addr×Obj)) (s:Shared) (σ:St) (H:Hp) (Q:VK),Inv X pins σ H s->t σ H Q->wpAny (model X.prog X.w) X.A (eval e X.env) (EP X pins σ Q) X.xe s
def PT (X:Cx) (e:Expr) (t:TT):Prop :=
 ∀ (pins:List (Addr×Obj)) (s:Shared) (σ:St) (H:Hp) (Q:Bool->Hp->Prop),Inv X pins σ H s->t σ H Q->wpAny (model X.prog X.w) X.A (isTrue e X.env (eval e X.env)) (TP X pins σ Q) X.xe s
def PW (X:Cx) (e:Expr) (t:TT):Prop :=
 ∀ (whole:Sem Value) (pins:List (Addr×Obj)) (s:Shared) (σ:St) (H:Hp) (Q:Bool->Hp->Prop),Inv X pins σ H s->t σ H Q->wpAny (model X.prog X.w) X.A (isTrue e X.env whole) (TP X pins σ Q) X.xe s
def PW.pt (h:PW X e t):PT X e t:=h _
def PA (X:Cx) (es:List Expr) (t:TA):Prop :=
 ∀ (pos:Pos) (pins:List (Addr×Obj)) (s:Shared) (σ:St) (H:Hp) (Q:List V->Hp->Prop),Inv X pins σ H s->t σ H Q->wpAny (model X.prog X.w) X.A (spliced (backTo pos (starEach es X.env))) (AP X pins σ Q) X.xe s
def PS (X:Cx) (st:Stmt) (t:TS):Prop :=
 ∀ (pins:List (Addr×Obj)) (s:Shared) (σ:St) (H:Hp) (D:Ends),Inv X pins σ H s->t D σ H->wpAny (model X.prog X.w) X.A (exec st X.env) (SP X pins D) X.xe s
def PSs (X:Cx) (st:List Stmt) (t:TS):Prop :=
 ∀ (pins:List (Addr×Obj)) (s:Shared) (σ:St) (H:Hp) (D:Ends),Inv X pins σ H s->t D σ H->wpAny (model X.prog X.w) X.A (execs st X.env) (SP X pins D) X.xe s
def thn {α:Type} {t:Sem α} {Q Q':α->Shared->Prop} (h:wpAny M A t Q E s) (hQ:∀ a s,Q a s->Q' a s):wpAny M A t Q' E s:=Ym h hQ λ _ _ x=>x
end L2
namespace L2
open PySem PySem.Spec PyProof.Rows
section
variable {X:Cx}
def Bn (i:Nat):TE:=λ σ H Q=>∃ v,σ[i]?=some (some v)/\Q v H
def tC (v:V):TE:=λ _ H Q=>Q v H
def eJ (hN:X.N[i]?=some x) (hv:Vis X.env.scope x) (hd:(x == ("__debug__":Str))=false:=by decide) (hcd:(x == ("__classdict__":Str))=false:=by decide):PE X (.Name x pos) (Bn i):=by
 intro pins s σ H Q I h;obtain ⟨v,e,h⟩:=h;obtain ⟨m,hn,hl⟩:=I.loc;obtain ⟨u,r,l⟩:=hl i x v hN e hv;have fin:EP X pins σ Q u s:=⟨v,H,I,r,h⟩
 rcases l with ⟨hk,hm⟩ | ⟨hk,c,hc,hcell⟩
 · exact wpAny_Name (wpAny_loadName_local I.ok.kind hk hn hm fin) hd
 ·rcases hk with hk | hk
  · exact wpAny_Name (wpAny_loadName_cell I.ok.kind hk hc hcell fin) hd
  · exact wpAny_Name (wpAny_loadName_free I.ok.kind hk hc hcell fin hcd) hd
def rC {i j pos}:PE X (.Constant (.int i) j pos) (tC (.int i)):=λ _ _ _ H _ I h=>wpAny_Constant_int ⟨.int i,H,I.tok _,⟨_,rfl⟩,h⟩
def Jk {b j pos}:PE X (.Constant (.bool b) j pos) (tC (.bl b)):=λ _ _ _ H _ I h=>Constant_bool ⟨.bl b,H,I,rfl,h⟩
def Fx {j pos}:PE X (.Constant .none j pos) (tC .non):=λ _ _ _ H _ I h=>Constant_none ⟨.non,H,I,rfl,h⟩
def Fq {x j pos}:PE X (.Constant (.str x) j pos) (tC (.str x)):=λ _ _ _ H _ I h=>Calls.Constant_str ⟨.str x,H,I.tok _,⟨_,rfl⟩,h⟩
def Gl (X:Cx) (x:Str):Prop:=X.env.kindOf x=some .globalImplicit
def qp (I:Inv X pins σ H s) (hg:Gl X x) (hm:X.mg x=some u) (h:Q u s)
  (hd:(x == ("__debug__":Str))=false:=by decide):wpAny (model X.prog X.w) X.A (eval (.Name x pos) X.env) Q E s :=
 Calls.Name_function_global I.ok.kind hg (Calls.loadGlobal_global (by rw [I.ok.glob]; exact I.mod.glob.keeps I.bk) hm h) hd
def iV (I:Inv X pins σ H s) (hg:Gl X x) (hm:X.mg x=none) (hv:bootBuiltins x=some u) (h:Q u s)
  (hn:x≠"__name__":=by decide) (hd:(x == ("__debug__":Str))=false:=by decide):wpAny (model X.prog X.w) X.A (eval (.Name x pos) X.env) Q E s:=by
 obtain ⟨mb,h1,h2⟩:=I.mod.blt;exact Calls.Name_function_global I.ok.kind hg (Calls.loadGlobal_builtin (by rw [I.ok.glob]; exact I.mod.glob.keeps I.bk) hm (by rw [I.ok.blt]; exact h1.keeps I.bk) ((h2 x hn).trans hv) h) hd
def CA (hg:Gl X x) (hm:X.mg x=some u) (r:RelV v u) (hd:(x == ("__debug__":Str))=false:=by decide):PE X (.Name x pos) (tC v) :=
 λ _ _ _ H _ I h=>qp I hg hm ⟨v,H,I,r,h⟩ hd
def CF (hg:Gl X x) (hm:X.mg x=none) (hv:bootBuiltins x=some u) (r:RelV v u) (hn:x≠"__name__":=by decide) (hd:(x == ("__debug__":Str))=false:=by decide):PE X (.Name x pos) (tC v) :=
 λ _ _ _ H _ I h=>iV I hg hm hv ⟨v,H,I,r,h⟩ hn hd
variable {a b:Expr} {ta tb:TE} {pos:Pos}
def PC (X:Cx) (op:CmpOp) (a b:Expr) (t:TE):Prop :=
  ∀ (pins:List (Addr×Obj)) (s:Shared) (σ:St) (H:Hp) (Q:VK),Inv X pins σ H s->t σ H Q ->
    wpAny (model X.prog X.w) X.A (eval a X.env) (λ v s₁=>wpAny (model X.prog X.w) X.A (eval b X.env) (λ u s₂=>wpAny (model X.prog X.w) X.A (compareOp op v u) (EP X pins σ Q) X.xe s₂) X.xe s₁) X.xe s
def tB (t:TE):TT:=λ σ H Q=>t σ H λ x H1=>∃ c,x=.bl c/\Q c H1
def AK (h:PC X op a b t) (h1:behindInMarks op b=false:=by first | exact nobehind _ (by decide) (by decide) | rfl):PT X (.Compare a [op] [b] pos) (tB t):=by
 intro pins s σ H Q I hw;refine wpAny_isTrue_Compare1 (thn (h pins s σ H _ I hw) λ v s1 h1=>thn h1 λ u s2 h2=>thn h2 λ c s3 ⟨x,H1,I1,r1,q1⟩=>?_) h1;obtain ⟨d,rfl,q⟩:=q1;cases r1;exact Yo ⟨H1,I1,q⟩
def AI (h:PE X e t) (he:∀ whole,isTrue e X.env whole=(do let v <- whole; standAt e.pos; holding [v] (truthy v)):=by intro _; rfl):PT X e (tB t):=by
 intro pins s σ H Q I hw;refine isTrue_plain (thn (h pins s σ H _ I hw) λ v s1 ⟨x,H1,I1,r1,q1⟩=>?_) (he _);obtain ⟨d,rfl,q⟩:=q1;cases r1;exact Yo ⟨H1,I1,q⟩
variable {tA tB':TT} {rest:List Expr}
def MW (t u:TT):TT:=λ σ H Q=>t σ H λ c H1=>if c=true then u σ H1 Q else Q false H1
def tOr (t u:TT):TT:=λ σ H Q=>t σ H λ c H1=>if c=true then Q true H1 else u σ H1 Q
def MP (t:TT):TT:=λ σ H Q=>t σ H λ c H1=>Q (!c) H1
def pw_and1 (ha:PT X a tA):PW X (.BoolOp .And [a] pos) tA:=by
 intro wh pins s σ H Q I h;refine isTrue_and (thn (ha pins s σ H Q I h) λ c s1 e=>?_)
 cases c with
 | true=>exact isTrue_and_nil e
 | false=>exact e
def pw_or1 (ha:PT X a tA):PW X (.BoolOp .Or [a] pos) tA:=by
 intro wh pins s σ H Q I h;refine isTrue_or (thn (ha pins s σ H Q I h) λ c s1 e=>?_)
 cases c with
 | false=>exact isTrue_or_nil e
 | true=>exact e
def pw_and (ha:PT X a tA) (hb:PW X (.BoolOp .And (b::rest) pos) tB'):PW X (.BoolOp .And (a::b::rest) pos) (MW tA tB'):=by
 intro wh pins s σ H Q I h;refine isTrue_and (thn (ha pins s σ H _ I h) λ c s1 ⟨H1,I1,q1⟩=>?_)
 cases c with
 | true=>exact hb wh pins s1 σ H1 Q I1 q1
 | false=>exact ⟨H1,I1,q1⟩
def pw_or (ha:PT X a tA) (hb:PW X (.BoolOp .Or (b::rest) pos) tB'):PW X (.BoolOp .Or (a::b::rest) pos) (tOr tA tB'):=by
 intro wh pins s σ H Q I h;refine isTrue_or (thn (ha pins s σ H _ I h) λ c s1 ⟨H1,I1,q1⟩=>?_)
 cases c with
 | true=>exact ⟨H1,I1,q1⟩
 | false=>exact hb wh pins s1 σ H1 Q I1 q1
def AJ (ha:PT X a tA):PT X (.UnaryOp .Not a pos) (MP tA):=by
 intro pins s σ H Q I h;exact isTrue_not (ha pins s σ H (λ c H1=>Q (!c) H1) I h)
def IP (ta tb:TE):TE:=λ σ H Q=>ta σ H λ x H1=>∃ c,x=.bl c/\if c=true then tb σ H1 Q else Q (.bl false) H1
def IG (ta:TE):TE:=λ σ H Q=>ta σ H λ x H1=>∃ c,x=.bl c/\Q (.bl (!c)) H1
def Fv {op} (h:PE X a t):PE X (.BoolOp op [a] pos) t:=λ pins s σ H Q I hw=>BoolOp_one (h pins s σ H Q I hw)
def FF (ha:PE X a ta) (hb:PE X (.BoolOp .And (b::rest) pos) tb):PE X (.BoolOp .And (a::b::rest) pos) (IP ta tb):=by
 intro pins s σ H Q I h;refine BoolOp_and (thn (ha pins s σ H _ I h) λ v s1 ⟨x,H1,I1,r1,q1⟩=>?_);obtain ⟨c,rfl,q1⟩:=q1;cases r1;refine Yo ?_
 cases c with
 | true=>exact hb pins s1 σ H1 Q I1 q1
 | false=>exact ⟨.bl false,H1,I1,rfl,q1⟩
def Fw (ha:PE X a ta):PE X (.UnaryOp .Not a pos) (IG ta):=by
 intro pins s σ H Q I h;refine UnaryOp_ (thn (ha pins s σ H _ I h) λ v s1 ⟨x,H1,I1,r1,q1⟩=>?_);obtain ⟨c,rfl,q1⟩:=q1;cases r1;exact not_of (Yo ⟨.bl (!c),H1,I1,rfl,q1⟩)
end
end L2
namespace L2
open PySem PySem.Spec PyProof.Rows
def SqL (K:W.Frag) (H:Hp) (a:Addr) (xs:List V):Prop :=
 Rd H a (.lst xs) \/
  ∃ (o:Obj) (its:Array Value) (n:Nat),K.lookup a=some o/\o.cls=.type "list"/\o.dict=none/\o.data=.seq its n/\its.size<=sizeLine/\bD xs its.toList
def SqT (K:W.Frag) (H:Hp) (a:Addr) (xs:List V):Prop :=
 Rd H a (.tup xs) \/
  ∃ (o:Obj) (its:Array Value) (n:Nat),K.lookup a=some o/\o.cls=.type "tuple"/\o.data=.seq its n/\its.size<=sizeLine/\bD xs its.toList
def Oc:Value->Option V
 | .none=>some .non
 | .bool b=>some (.bl b)
 | .int i _=>some (.int i)
 | .str x _=>some (.str x)
 | .bytes b _=>some (.byt b)
 | .float b _=>some (.flt b)
 | .ref a=>some (.ref a)
 | .type n=>some (.ty n)
 | _=>none
def RelV.abs (r:RelV x u):Oc u=some x:=by
 cases x with
 | non=>cases r; rfl
 | bl _=>cases r; rfl
 | int _=>obtain ⟨t,rfl⟩:=r; rfl
 | str _=>obtain ⟨t,rfl⟩:=r; rfl
 | byt _=>obtain ⟨t,rfl⟩:=r; rfl
 | flt _=>obtain ⟨t,rfl⟩:=r; rfl
 | ref _=>cases r; rfl
 | ty _=>cases r; rfl
def RelV.inj (r:RelV x u) (q:RelV y u):x=y:=Zj (r.abs.symm.trans q.abs)
def bD.inj:∀ {xs ys:List V} {us:List Value},bD xs us->bD ys us->xs=ys
 | _,_,_,.nil,.nil=>rfl
 | _,_,_,.cons r t,.cons r' t'=>by rw [r.inj r',bD.inj t t']
section
variable {X:Cx} {pins:List (Addr×Obj)} {σ:St} {H:Hp} {s:Shared} {a:Addr} {xs ys:List V}
def SqL.of {K:W.Frag} (h:H a=some (.lst xs)):SqL K H a xs:=.inl (.inl h)
def SqT.of {K:W.Frag} (h:H a=some (.tup xs)):SqT K H a xs:=.inl (.inl h)
def Inv.list (I:Inv X pins σ H s) (h:SqL X.K H a xs):∃ its:List Value,bD xs its/\PlainL s.heap a its.toArray/\xs.length<=sizeLine:=by
 rcases h with h | ⟨o,its,n,hk,hc,hd,hs,hz,r⟩
 ·obtain ⟨z,its,n,r,e⟩:=h.ok I.hok
  exact ⟨its,r,⟨_,n,e,rfl,rfl,rfl⟩,z⟩
 ·refine ⟨its.toList,r,⟨o,n,I.kIn a o hk,hc,hd,by simpa using hs⟩,?_⟩
  have e:=r.length;simp only [Y3] at e;omega
def Inv.tuple (I:Inv X pins σ H s) (h:SqT X.K H a xs):∃ its:List Value,bD xs its/\IsTup s.heap a its.toArray/\xs.length<=sizeLine:=by
 rcases h with h | ⟨o,its,n,hk,hc,hs,hz,r⟩
 ·obtain ⟨z,its,r,p⟩:=h.ok I.hok
  exact ⟨its,r,p,z⟩
 ·refine ⟨its.toList,r,⟨o,I.kIn a o hk,hc,n,by simpa using hs⟩,?_⟩
  have e:=r.length;simp only [Y3] at e;omega
def Inv.rS (I:Inv X pins σ H s) (h:SqL X.K H a xs) (h':SqL X.K H a ys):xs=ys:=by
 obtain ⟨its,r,⟨o,n,e,_,_,d⟩,_⟩:=I.list h;obtain ⟨its',r',⟨o',n',e',_,_,d'⟩,_⟩:=I.list h';rw [e] at e'; cases e'
 rw [d] at d';injection d' with d1 _
 have:its=its':=by simpa using Yh Array.toList d1
 subst this;exact r.inj r'
end
abbrev Cx.yk (X:Cx) (E:Value->Shared->Prop):Cx:={ X with xe:=E }
abbrev Cx.nox (X:Cx):Cx:=X.yk λ _ _=>False
def Cx.Ok.yk {X:Cx} (ok:X.Ok) (E:Value->Shared->Prop):(X.yk E).Ok :=
 ⟨ok.mod,ok.kind,ok.glob,ok.blt,ok.above,ok.inj,ok.has,ok.cab,ok.hd,ok.frames,ok.stk,ok.exf,ok.bs,ok.bsz,ok.F8,ok.Ig,ok.uF,ok.frf⟩
def Cx.Ok.jH {X:Cx} {E:Value->Shared->Prop} (ok:(X.yk E).Ok):X.Ok :=
 ⟨ok.mod,ok.kind,ok.glob,ok.blt,ok.above,ok.inj,ok.has,ok.cab,ok.hd,ok.frames,ok.stk,ok.exf,ok.bs,ok.bsz,ok.F8,ok.Ig,ok.uF,ok.frf⟩
section
variable {X:Cx} {pins:List (Addr×Obj)} {σ:St} {H:Hp} {s:Shared} {E:Value->Shared->Prop}
def Inv.yk (I:Inv X pins σ H s) (E:Value->Shared->Prop):Inv (X.yk E) pins σ H s:=⟨I.ok.yk E,I.os,I.bare,I.base,I.loc,I.cell,I.free,I.lr,I.pin,I.hok,I.len⟩
def Inv.jH (I:Inv (X.yk E) pins σ H s):Inv X pins σ H s:=⟨I.ok.jH,I.os,I.bare,I.base,I.loc,I.cell,I.free,I.lr,I.pin,I.hok,I.len⟩
def SP.jH (h:SP (X.yk E) pins D f s'):SP X pins D f s':=by
 cases f with
 | next=>obtain ⟨σ',H',I,q⟩:=h; exact ⟨σ',H',I.jH,q⟩
 | brk=>obtain ⟨σ',H',I,q⟩:=h; exact ⟨σ',H',I.jH,q⟩
 | cont=>obtain ⟨σ',H',I,q⟩:=h; exact ⟨σ',H',I.jH,q⟩
 | ret u=>obtain ⟨v,σ',H',I,r,q⟩:=h; exact ⟨v,σ',H',I.jH,r,q⟩
def PSs.nox {st:List Stmt} {t:TS} (h:PSs X.nox st t):PSs X st t:=λ pins s σ H D I hw =>
 Ym (h pins s σ H D (I.yk _) hw) (λ _ _ q=>q.jH) λ _ _ z=>False.elim z
end
section
variable {X:Cx} {st:Stmt} {rest:List Stmt} {t u:TS} {e:Expr} {te:TE} {pos:Pos}
def IH:TS:=λ D σ H=>D.nx σ H
def ML (t u:TS):TS:=λ D σ H=>t { D with nx:=u D } σ H
def p5:PSs X [] IH:=λ _ _ σ H _ I h=>wpAny_execs_nil ⟨σ,H,I,h⟩
def j5 (h1:PS X st t) (h2:PSs X rest u):PSs X (st::rest) (ML t u):=by
 intro pins s σ H D I h;refine wpAny_execs_cons (thn (h1 pins s σ H { D with nx:=u D } I h) λ f s1 q=>?_)
 cases f with
 | next =>
  obtain ⟨σ',H',I',q⟩:=q;exact h2 pins s1 σ' H' D I' q
 | ret v=>exact q
 | brk=>exact q
 | cont=>exact q
def kJ (h1:PS X st t):PSs X [st] t:=by
 intro pins s σ H D I h;refine wpAny_execs_cons (thn (h1 pins s σ H D I h) λ f s1 q=>?_)
 cases f with
 | next=>exact wpAny_execs_nil q
 | ret v=>exact q
 | brk=>exact q
 | cont=>exact q
def Inv.quiet (I:Inv X pins σ H s):interactive X.env=false:=by simp [interactive,I.ok.kind]
def IJ (te:TE):TS:=λ D σ H=>te σ H λ _ H1=>D.nx σ H1
def fk (he:PE X e te) (hs:swapsWith e none pos.line X.env=pure false:=by rfl):PS X (.Expr e pos) (IJ te):=by
 intro pins s σ H D I h;exact wpAny_Expr_any (thn (he pins s σ H _ I h) λ v s1 ⟨x,H1,I1,r1,q1⟩=>⟨σ,H1,I1,q1⟩) I.quiet hs
def MO (te:TE):TS:=λ D σ H=>te σ H D.rt
def mf (he:PE X e te):PS X (.Return (some e) pos) (MO te):=by
 intro pins s σ H D I h;exact wpAny_Return_some (thn (he pins s σ H _ I h) λ v s1 ⟨x,H1,I1,r1,q1⟩=>⟨x,σ,H1,I1,r1,q1⟩)
def MR (c:TT) (t u:TS):TS:=λ D σ H=>c σ H λ b H1=>if b=true then t D σ H1 else u D σ H1
def Ce (hc:PT X c tc) (ha:PSs X a t) (hb:PSs X b u):PS X (.If c a b pos) (MR tc t u):=by
 intro pins s σ H D I h;refine wpAny_If (thn (hc pins s σ H _ I h) λ d s1 ⟨H1,I1,q1⟩=>?_)
 cases d with
 | true=>exact ha pins s1 σ H1 D I1 q1
 | false=>exact hb pins s1 σ H1 D I1 q1
end
abbrev TG:=V->St->Hp->(St->Hp->Prop)->Prop
abbrev TGs:=List V->St->Hp->(St->Hp->Prop)->Prop
def PG (X:Cx) (target:Expr) (t:TG):Prop :=
  ∀ (pins:List (Addr×Obj)) (s:Shared) (σ:St) (H:Hp) (v:V) (u:Value) (Q:St->Hp->Prop),Inv X pins σ H s->RelV v u->t v σ H Q ->
    wpAny (model X.prog X.w) X.A (assign target X.env u) (λ _ s'=>∃ σ' H',Inv X pins σ' H' s'/\Q σ' H') X.xe s
def PGs (X:Cx) (ts:List Expr) (t:TGs):Prop :=
  ∀ (pins:List (Addr×Obj)) (s:Shared) (σ:St) (H:Hp) (vs:List V) (us:List Value) (Q:St->Hp->Prop),Inv X pins σ H s->bD vs us->t vs σ H Q ->
    wpAny (model X.prog X.w) X.A (assignInOrder ((assignEach ts X.env).map (·.2)) us) (λ _ s'=>∃ σ' H',Inv X pins σ' H' s'/\Q σ' H') X.xe s
abbrev MG:=V->V->V->Hp->(Hp->Prop)->Prop
def MH (X:Cx) (t:MG):Prop :=
  ∀ (pins:List (Addr×Obj)) (s:Shared) (σ:St) (H:Hp) (o i v:V) (ov iv u:Value) (Q:Hp->Prop),Inv X pins σ H s->RelV o ov->RelV i iv->RelV v u->t o i v H Q ->
    wpAny (model X.prog X.w) X.A (setItem ov iv u) (λ _ s'=>∃ H',Inv X pins σ H' s'/\Q H') X.xe s
section
variable {X:Cx} {pos:Pos}
def oI (i:Nat):TG:=λ v σ H Q=>Q (σ.set i (some v)) H
def kK (hN:X.N.Nodup) (hi:X.N[i]?=some x) (hx:Loc X.env.scope x) (hf:X.fn x=true\/X.env.scope.names.lookup x=some .local:=by first | exact .inl rfl | exact .inr rfl | assumption):PG X (.Name x pos) (oI i):=by
 intro pins s σ H v u Q I r h;exact wpAny_assign_Name (q8 I hN hi hx r (λ s' I'=>⟨_,H,I',h⟩) hf)
def N6:TGs:=λ vs σ H Q=>vs=[]/\Q σ H
def Lj (t:TG) (u:TGs):TGs:=λ vs σ H Q=>∃ v r,vs=v::r/\t v σ H λ σ' H'=>u r σ' H' Q
def Cw:PGs X [] N6:=by
 intro pins s σ H vs us Q I r h;obtain ⟨e,h⟩:=h;subst e;cases r;exact assignInOrder_nil ⟨σ,H,I,h⟩
def zp (h1:PG X e t) (h2:PGs X es u)
  (hs:(assignEach (e::es) X.env).map (·.2)=assign e X.env::(assignEach es X.env).map (·.2):=by rfl):PGs X (e::es) (Lj t u):=by
 intro pins s σ H vs us Q I r h;obtain ⟨v,vr,e1,h⟩:=h;subst e1
 cases r with
 | cons r rr =>
  rw [hs];refine assignInOrder_cons (thn (h1 pins s σ H _ _ _ I r h) λ _ s1 ⟨σ1,H1,I1,q1⟩=>?_);exact h2 pins s1 σ1 H1 _ _ Q I1 rr q1
def N4 (K:W.Frag) (n:Nat) (t:TGs):TG:=λ v σ H Q=>∃ a xs,v=.ref a/\SqT K H a xs/\xs.length=n/\t xs σ H Q
def Fm (hc:X.calm=true) (h:PGs X es t)
  (hn:(assignEach es X.env).length=n:=by rfl) (hst:(assignEach es X.env).findIdx? (·.1)=none:=by rfl):PG X (.Tuple es k pos) (N4 X.K n t):=by
 intro pins s σ H v u Q I r hw;obtain ⟨a,xs,e1,hq,hl,hw⟩:=hw;subst e1;cases r;obtain ⟨its,rv,ht,hz⟩:=I.tuple hq;refine assign_Tuple_tuple (I.ok.hd hc) ht (by simp [hn,<- hl,rv.length]) hst λ h' hx=>?_
 have I1:Inv X pins σ H { s with heap:=h' }:=I.kept (t':=s.toks) λ b o e=>hx b o (Zx (Zt e)) e
 exact h pins _ σ H xs _ Q I1 (by simpa using rv) hw
def N5 (to ti:TE) (t:MG):TG:=λ v σ H Q=>to σ H λ o H1=>ti σ H1 λ i H2=>t o i v H2 λ H3=>Q σ H3
def Fn (ho:PE X o to) (hi:PE X i ti) (hs:MH X t)
  (ha:∀ v,assign (.Subscript o i pos) X.env v=(do
    let ov <- holding [v] (eval o X.env)
    let iv <- holding [v,ov] (eval i X.env)
    standAt pos
    holding [v,ov,iv] (setItem ov iv v)
    release [v,ov,iv] []):=by intro _; rfl):PG X (.Subscript o i pos) (N5 to ti t):=by
 intro pins s σ H v u Q I r h;rw [ha];refine Zg (Yz (thn (ho pins s σ H _ I h) λ ov s1 ⟨x,H1,I1,r1,q1⟩=>?_));refine Zg (Yz (thn (hi pins s1 σ H1 _ I1 q1) λ iv s2 ⟨y,H2,I2,r2,q2⟩=>?_));refine Zg (wpAny_standAt (Zg (Yz (thn (hs pins s2 σ H2 x y v ov iv u _ I2 r1 r2 r q2) λ _ s3 ⟨H3,I3,q3⟩=>?_))));exact wpAny_release ⟨σ,H3,I3,q3⟩
def IM (te:TE) (g:TG):TS:=λ D σ H=>te σ H λ x H1=>g x σ H1 D.nx
def AL (he:PE X e te) (hg:PG X tg g) (hs:swapsWithSole [tg] e pos.line X.env=pure false:=by rfl) (hw:swappedStores [tg] e X.env=pure none:=by rfl)
  (h1:(assignEach [tg] X.env).map (·.2)=[assign tg X.env]:=by rfl):PS X (.Assign [tg] e pos) (IM te g):=by
 intro pins s σ H D I h;refine wpAny_Assign_stores (thn (he pins s σ H _ I h) λ v s1 ⟨x,H1,I1,r1,q1⟩=>?_) hs hw;rw [h1];exact thn (hg pins s1 σ H1 x v _ I1 r1 q1) λ _ s2 q=>q
def rz {i:Nat} {x:Str} {e:Expr} {te:TE} {pos':Pos} (hN:X.N.Nodup) (hi:X.N[i]?=some x) (hx:Loc X.env.scope x) (he:PE X e te) (hs:swapsWith e (some (.Name x pos')) pos.line X.env=pure false:=by rfl) (hf:X.fn x=true\/X.env.scope.names.lookup x=some .local:=by first | exact .inl rfl | exact .inr rfl | assumption) :
  PS X (.Assign [.Name x pos'] e pos) (IM te (oI i)):=by
 intro pins s σ H D I h;refine wpAny_Assign_Name (thn (he pins s σ H _ I h) λ v s1 ⟨y,H1,I1,r1,q1⟩=>?_) hs;exact q8 I1 hN hi hx r1 (λ s2 I2=>⟨_,H1,I2,q1⟩) hf
end
section
variable {X:Cx} {pos:Pos}
def EF (c:TT) (tb:TS):TS:=λ D σ H=>∃ W:Nat->St->Hp->Prop,(∃ m,W m σ H)/\∀ m σ H,W m σ H ->
 c σ H λ b H1=>if b=true then ∃ N:St->Hp->Prop,(∀ σ' H',N σ' H'->∃ m',m' < m/\W m' σ' H')/\tb { D with nx:=N,ct:=N,bk:=D.nx } σ H1 else D.nx σ H1
def zd (hp:PassesOwn (model X.prog X.w) X.A X.env X.xe) (hc:PT X c tc) (hb:PSs X body tb):PS X (.While c body [] pos) (EF tc tb):=by
 intro pins s σ H D I h;obtain ⟨W,⟨m0,w0⟩,turn⟩:=h;refine wpAny_While (codeAny_whileLoop (λ n s'=>∃ σ' H',Inv X pins σ' H' s'/\W n σ' H') ?_ m0 ⟨σ,H,I,w0⟩)
 rintro n s1 ⟨σ1,H1,I1,w1⟩
 refine Xc hp (thn (hc pins s1 σ1 H1 _ I1 (turn n σ1 H1 w1)) λ b s2 ⟨H2,I2,q2⟩=>?_)
 cases b with
 | true =>
  obtain ⟨N,hN,q2⟩:=q2;rw [if_pos rfl];refine Xc hp (thn (hb pins s2 σ1 H2 _ I2 q2) λ f s3 q3=>?_)
  cases f with
  | next =>
   obtain ⟨σ3,H3,I3,n3⟩:=q3;obtain ⟨m',hm,w3⟩:=hN σ3 H3 n3;exact ⟨m',hm,σ3,H3,I3,w3⟩
  | cont =>
   obtain ⟨σ3,H3,I3,n3⟩:=q3;obtain ⟨m',hm,w3⟩:=hN σ3 H3 n3;exact ⟨m',hm,σ3,H3,I3,w3⟩
  | brk=>exact q3
  | ret v=>exact q3
 | false =>
  rw [if_neg Zf];exact wpAny_execs_nil ⟨σ1,H2,I2,q2⟩
end
structure It where
 go:Nat->Hp->Prop
 yld:Nat->Hp->V->Hp->Prop
 stop:Nat->Hp->Prop
def uA (X:Cx) (pins:List (Addr×Obj)) (H:Hp) (b:Addr):Prop :=
 H b=none/\b≠X.env.locals/\b ∉ X.fs/\(b ∈ X.ex\/X.s₀.heap.objs.size<=b)/\(∀ x c,X.env.cells.lookup x=some c->c≠b)/\∀ p ∈ X.pn++pins,p.1≠b
def Inv.yn (I:Inv X pins σ H s) (hb:s.heap.objs.size<=b) (hn:H' b=none):uA X pins H' b:=by
 refine ⟨hn,Nat.ne_of_gt (Z1 I.lt hb),I.Nz hb,.inr (Z2 I.sz hb),λ x c e z=>?_,λ p hp z=>?_⟩
 ·obtain ⟨v,q⟩:=I.cell x c e
  exact absurd (Z1 q.lt (by rw [z]; exact hb)) (Yj _)
 · exact absurd (Z1 (Zt (I.pin p hp).1) (by rw [z]; exact hb)) (Yj _)
structure Turn (P:Program) (w:World) (K:W.Frag) (tg:Expr) (J:It) (fp:List Addr) (it:Addr) (tn:Nat->Heap->Prop):Prop where
 mem:it ∈ fp
 obj:∀ i h,tn i h->∀ b ∈ fp,∃ o,h.get? b=some o/\∀ v,o.data≠.cell v
 keep:∀ i h h',tn i h->(∀ b ∈ fp,∀ o,h.get? b=some o->h'.get? b=some o)->tn i h'
 item:∀ (X:Cx),X.prog=P->X.w=w->X.K=K->X.calm=true->∀ (i:Nat) (pins:List (Addr×Obj)) (s:Shared) (σ:St) (H:Hp) (E:Value->Shared->Prop),Inv X pins σ H s->(∀ b ∈ fp,uA X pins H b)->tn i s.heap->J.go i H ->
  wpAny (model P w) X.A (pyNext (.ref it)) (λ r s1=>∃ u,r=some u /\
   wpAny (model P w) X.A (letOwnedTupleGo tg (.ref it) u) (λ _ s2=>∃ x H',Inv X pins σ H' s2/\RelV x u/\J.yld i H x H'/\tn (i+1) s2.heap/\∀ b ∈ fp,H' b=none) E s1) E s
 done:∀ (X:Cx),X.prog=P->X.w=w->X.K=K->X.calm=true->∀ (i:Nat) (pins:List (Addr×Obj)) (s:Shared) (σ:St) (H:Hp) (E:Value->Shared->Prop),Inv X pins σ H s->(∀ b ∈ fp,uA X pins H b)->tn i s.heap->J.stop i H ->
  wpAny (model P w) X.A (pyNext (.ref it)) (λ r s1=>r=none/\Inv X pins σ H s1) E s
 self:∀ (A:Around) (i:Nat) (s:Shared) (Q:Value->Shared->Prop) (E:Value->Shared->Prop),tn i s.heap->Q (.ref it) s->wpAny (model P w) A (pyIter (.ref it)) Q E s
abbrev TI:=St->Hp->(It->Hp->Prop)->Prop
def PIE (X:Cx) (pins:List (Addr×Obj)) (σ:St) (tg:Expr) (R:It->Hp->Prop) (itv:Value) (s2:Shared):Prop :=
 ∃ (it:Addr) (fp:List Addr) (tn:Nat->Heap->Prop) (J:It) (H':Hp),itv=.ref it/\Inv X pins σ H' s2/\Turn X.prog X.w X.K tg J fp it tn/\tn 0 s2.heap/\(∀ b ∈ fp,uA X pins H' b)/\R J H'
def PI (X:Cx) (tg iter:Expr) (wi:TI):Prop :=
  ∀ (pins:List (Addr×Obj)) (s:Shared) (σ:St) (H:Hp) (R:It->Hp->Prop),Inv X pins σ H s->wi σ H R ->
    wpAny (model X.prog X.w) X.A (eval iter X.env) (λ v s1=>wpAny (model X.prog X.w) X.A (pyIter v) (PIE X pins σ tg R) X.xe s1) X.xe s
def xo (ho:s.heap.get? it=some o) (hc:o.cls=.type n) (hd:o.data=.fields vs)
    (hn:["enumerate","zip","dict_itemiterator","dict_reverseitemiterator","odict_iterator","itertools.zip_longest","itertools.pairwise"].contains n=false) (hQ:Q () s):wpAny M A (letOwnedTupleGo tg (.ref it) u) Q E s:=by
  unfold letOwnedTupleGo
  cases tg <;> first
    | exact Zz hQ
    | (cases u <;> first
        | exact Zz hQ
        | (refine Zg (wpAny_load ho ?_)
           rw [hc,hd];show wpAny M A (if (["enumerate","zip","dict_itemiterator","dict_reverseitemiterator","odict_iterator","itertools.zip_longest","itertools.pairwise"].contains n&&vs[0]? == some (rawInt _))=true then _ else _) Q E s;rw [if_neg (by intro h; rw [hn,Bool.false_and] at h; cases h)]
           exact Zz hQ))
def Itl (K:W.Frag) (a:Addr):It :=
 ⟨λ i H=>∃ xs x,SqL K H a xs/\xs[i]?=some x,λ i H x H'=>H'=H/\∀ xs,SqL K H a xs->xs[i]?=some x,λ i H=>∃ xs,SqL K H a xs/\xs.length<=i⟩
def Itr (lo:Int) (n:Nat):It:=⟨λ i _=>i < n,λ i H x H'=>H'=H/\x=.int (lo+i),λ i _=>n<=i⟩
def uL {P:Program} {w:World} {K:W.Frag} {tg:Expr} (a it:Addr):Turn P w K tg (Itl K a) [it] it (λ i h=>h.IsListIter it a i) where
 mem:=by simp
 obj:=λ i h st b hb=>by
  have e:b=it:=by simpa using hb
  subst e;obtain ⟨o,e,c,d⟩:=st;exact ⟨o,e,λ v z=>by rw [d] at z; cases z⟩
 keep:=λ i h h' st k=>st.at λ o e=>k it (by simp) o e
 item:=by
  intro X hP hw hK hc i pins s σ H E I hf st hg;subst hP hw hK;obtain ⟨xs,x,hq,hx⟩:=hg;obtain ⟨its,rv,p,hz⟩:=I.list hq;obtain ⟨u,hu,ru⟩:=rv.get hx;obtain ⟨f0,f1,f2,f3,f4,f5⟩:=hf it (by simp);refine wpAny_pyNext_list_item st p.isList (x:=u) (by simpa using hu) λ h' st' sb=>?_
  have I1:Inv X pins σ H { s with heap:=h' }:=I.turned (t':=s.toks) (λ b o hb e=>(sb.2 b hb).trans e) f0 f1 f3 f4 f5;obtain ⟨o,e,c,d⟩:=id st';exact ⟨u,rfl,xo (s:={ s with heap:=h' }) e c d (by decide) ⟨x,H,I1,ru,⟨rfl,λ ys hy=>by rw [I.rS hy hq]; exact hx⟩,st',λ b hb=>(hf b hb).1⟩⟩
 done:=by
  intro X hP hw hK hc i pins s σ H E I hf st hg;subst hP hw hK;obtain ⟨xs,hq,hx⟩:=hg;obtain ⟨its,rv,p,hz⟩:=I.list hq;obtain ⟨f0,f1,f2,f3,f4,f5⟩:=hf it (by simp);have hl:=rv.length;exact wpAny_pyNext_list_end (I.ok.hd hc) st p.isList (by simp; omega) λ h' eb=>⟨rfl,I.turned (t':=s.toks) (λ b o hb e=>eb b o hb e) f0 f1 f3 f4 f5⟩
 self:=λ _ _ _ _ _ st h=>wpAny_pyIter_listiter st h
def sZ {P:Program} {w:World} {K:W.Frag} {tg:Expr} (it:Addr) (lo:Int) (n:Nat):Turn P w K tg (Itr lo n) [it] it (λ i h=>IsRangeIter h it (lo+(i:Nat) * 1) ((n:Int) - (i:Nat)) 1) where
 mem:=by simp
 obj:=λ i h st b hb=>by
  have e:b=it:=by simpa using hb
  subst e
  exact ⟨_,st,λ v z=>by
   have z':Data.fields _=Data.cell v:=z
   cases z'⟩
 keep:=λ i h h' st k=>k it (by simp) _ st
 item:=by
  intro X hP hw hK hc i pins s σ H E I hf st hg;subst hP hw hK;obtain ⟨f0,f1,f2,f3,f4,f5⟩:=hf it (by simp);have W:=Walks.range (prog:=X.prog) (w:=X.w) (I.ok.hd hc) it lo 1 n;refine W.item i s _ _ hg st λ v h' tk hv st' kk=>?_
  obtain ⟨t,rfl⟩:=hv;have I1:Inv X pins σ H { s with heap:=h',toks:=tk }:=I.turned (λ b o hb e=>kk b o (by simpa using hb) e) f0 f1 f3 f4 f5;refine ⟨_,rfl,xo (s:={ s with heap:=h',toks:=tk }) (n:="range_iterator") st' rfl rfl (by decide) ⟨.int (lo+i),H,I1,⟨t,?_⟩,⟨rfl,rfl⟩,st',λ b hb=>(hf b hb).1⟩⟩;rw [Int.mul_one]
 done:=by
  intro X hP hw hK hc i pins s σ H E I hf st hg;subst hP hw hK;obtain ⟨f0,f1,f2,f3,f4,f5⟩:=hf it (by simp);exact wpAny_pyNext_range_end (I.ok.hd hc) st (by have:n<=i:=hg; omega) λ h' eb=>⟨rfl,I.turned (t':=s.toks) (λ b o hb e=>eb b o hb e) f0 f1 f3 f4 f5⟩
 self:=λ _ _ _ _ _ st h=>wpAny_pyIter_rangeiter st h
end L2
namespace L2
open PySem PySem.Spec PyProof.Rows
section
variable {X:Cx} {tg:Expr}
def La (K:W.Frag) (tl:TE):TI:=λ σ H R=>tl σ H λ x H1=>∃ a,x=.ref a/\(∃ xs,SqL K H1 a xs)/\R (Itl K a) H1
def Cu {l:Expr} {tl:TE} (hl:PE X l tl):PI X tg l (La X.K tl):=by
 intro pins s σ H R I h;refine thn (hl pins s σ H _ I h) λ v s1 ⟨x,H1,I1,r1,q1⟩=>?_
 obtain ⟨a,e,⟨xs,hq⟩,q⟩:=q1;subst e;cases r1;obtain ⟨its,rv,p,hz⟩:=I1.list hq;refine wpAny_pyIter_list p.isList ?_
 refine ⟨s1.heap.objs.size,[s1.heap.objs.size],_,_,H1,rfl,I1.kept (t':=s1.toks) λ b o e=>Heap.get?_push_of_some _ e,uL a _,⟨_,Heap.get?_push_size _ rfl,rfl,rfl⟩,λ b hb=>?_,q⟩;have e:b=s1.heap.objs.size:=by simpa using hb
 subst e;exact I1.yn (Zs _) (I1.hok.fresh (Zs _))
def yH {pins:List (Addr×Obj)} {σ:St} {H:Hp} {s:Shared} {R:It->Hp->Prop} {E:Value->Shared->Prop} {lo hi:Int} {t u v:Tok} {tk:Nat} (I:Inv X pins σ H s) (h1:-(2 ^ 62)<=lo) (h2:lo < 2 ^ 62) (h3:-(2 ^ 62)<=hi) (h4:hi < 2 ^ 62)
  (q:R (Itr lo (hi - lo).toNat) H):wpAny (model X.prog X.w) X.A (pyIter (.ref s.heap.objs.size)) (PIE X pins σ tg R) E { s with heap:=s.heap.push { cls:=.type "range",data:=.fields #[.int lo t,.int hi u,.int 1 v] },toks:=tk }:=by
 refine wpAny_pyIter_range (IsRange.new ..) (small_one h1 h2 h3 h4) ?_
 have I1:Inv X pins σ H { s with heap:=s.heap.push { cls:=.type "range",data:=.fields #[.int lo t,.int hi u,.int 1 v] },toks:=tk }:=I.kept λ b o e=>Heap.get?_push_of_some _ e
 refine ⟨(s.heap.push { cls:=.type "range",data:=.fields #[.int lo t,.int hi u,.int 1 v] }).objs.size,[(s.heap.push { cls:=.type "range",data:=.fields #[.int lo t,.int hi u,.int 1 v] }).objs.size],_,_,H,rfl,
  I1.kept (t':=tk) λ b o e=>Heap.get?_push_of_some _ e,sZ _ lo (hi - lo).toNat,?_,λ b hb=>?_,q⟩
 ·have e1:lo+((0:Nat):Int) * 1=lo:=by simp
  have e2:(((hi - lo).toNat:Nat):Int) - ((0:Nat):Int)=Builtin.Range.rangeSize lo hi 1:=by rw [rangeSize_one]; split <;> omega
  show IsRangeIter _ _ (lo+((0:Nat):Int) * 1) ((((hi - lo).toNat:Nat):Int) - ((0:Nat):Int)) 1;rw [e1,e2];exact Heap.get?_push_size _ rfl
 ·have e:b=(s.heap.push { cls:=.type "range",data:=.fields #[.int lo t,.int hi u,.int 1 v] }).objs.size:=by simpa using hb
  subst e;exact I1.yn (Zs _) (I1.hok.fresh (Zs _))
def K9 (ta:TA):TI:=λ σ H R=>ta σ H λ vs H1=>∃ j:Int,vs=[.int j]/\-(2 ^ 62)<=j/\j < 2 ^ 62/\R (Itr 0 j.toNat) H1
def wb {a:Expr} {ta:TA} {p pos:Pos} (hg:Gl X "range") (hm:X.mg "range"=none) (ha:PA X [a] ta) (hs:starEach [a] X.env=[(false,eval a X.env)]:=by rfl):PI X tg (.Call (.Name "range" p) [a] [] pos) (K9 ta):=by
 intro pins s σ H R I h;refine Call_ (iV I hg hm boot_range (Yg (thn (ha pos pins s σ H _ I h) λ us s1 ⟨vs,H1,I1,r1,q1⟩=>?_) hs rfl));obtain ⟨j,e,q1,q2,q⟩:=q1;subst e
 cases r1 with
 | cons r rr =>
  cases rr;obtain ⟨t,rfl⟩:=r;exact call_range_1 (yH I1 (by omega) (by omega) q1 q2 (by simpa using q))
def MS (wi:TI) (g:TG) (tb:TS):TS:=λ D σ H=>wi σ H λ J H1=>∃ W:Nat->Nat->St->Hp->Prop,(∃ m,W 0 m σ H1)/\∀ i m σ H,W i m σ H ->
 (J.stop i H/\D.nx σ H)\/(J.go i H/\∃ N:St->Hp->Prop,(∀ σ' H',N σ' H'->∃ m',m' < m/\W (i+1) m' σ' H')/\∀ x H',J.yld i H x H'->g x σ H' λ σ2 H2=>tb { D with nx:=N,ct:=N,bk:=D.nx } σ2 H2)
def rA (fp:List Addr) (h:Heap):List (Addr×Obj):=fp.filterMap λ b=>(h.get? b).map λ o=>(b,o)
def eR (hb:b ∈ fp) (e:h.get? b=some o):(b,o) ∈ rA fp h:=List.mem_filterMap.mpr ⟨b,hb,by rw [e]; rfl⟩
def wy (hp:p ∈ rA fp h):p.1 ∈ fp/\h.get? p.1=some p.2:=by
 obtain ⟨b,hb,e⟩:=List.mem_filterMap.mp hp
 cases q:h.get? b with
 | none=>rw [q] at e; cases e
 | some o =>
  rw [q] at e;have e':(b,o)=p:=Zj e;subst e';exact ⟨hb,q⟩
def Inv.pinned (I:Inv X pins σ H s) (hf:∀ b ∈ fp,uA X pins H b) (ho:∀ b ∈ fp,∃ o,s.heap.get? b=some o/\∀ v,o.data≠.cell v):Inv X (pins++rA fp s.heap) σ H s :=
 I.hZ λ p hp=>(Zi.mp hp).elim (λ z=>I.pin p (Ze _ z)) λ z=>by
  obtain ⟨hb,e⟩:=wy z;obtain ⟨f0,f1,f2,_⟩:=hf p.1 hb;obtain ⟨o,e',d⟩:=ho p.1 hb;rw [e] at e'; cases e'
  exact ⟨e,f0,f1,f2,d⟩
def Inv.mQ (I:Inv X (pins++pl) σ H s):Inv X pins σ H s:=I.hZ λ p hp=>I.pin p (Ze _ (Zp _ hp))
def vZ (hp:PassesOwn (model X.prog X.w) X.A X.env X.xe) (hc:X.calm=true) (hi:PI X tg iter wi) (hg:PG X tg g) (hb:PSs X body tb)
  (hs:∀ x,foldedSetIterable iter X.env x=pure x:=by intro _; rfl):PS X (.For tg iter body [] pos) (MS wi g tb):=by
 intro pins s σ H D I h;refine wpAny_For (thn (hi pins s σ H _ I h) λ v s1 h1=>thn h1 λ itv s2 h2=>?_) hs;obtain ⟨it,fp,tn,J,H2,e,I2,T,st2,f2,W,⟨m0,w0⟩,turn⟩:=h2;subst e;have stat:∀ {H':Hp},(∀ b ∈ fp,H' b=none)->∀ b ∈ fp,uA X pins H' b:=λ hn b hb=>⟨hn b hb,(f2 b hb).2⟩
 refine codeAny_forLoop_any (λ n s'=>∃ i σ' H',Inv X pins σ' H' s'/\tn i s'.heap/\(∀ b ∈ fp,H' b=none)/\W i n σ' H') ?_ m0 ⟨0,σ,H2,I2,st2,λ b hb=>(f2 b hb).1,w0⟩
 rintro n s3 ⟨i,σ3,H3,I3,st3,fr3,w3⟩
 rcases turn i n σ3 H3 w3 with ⟨stop,qn⟩ | ⟨go,N,hN,step⟩
 ·refine Xc hp (thn (T.done X rfl rfl rfl hc i pins s3 σ3 H3 X.xe I3 (stat fr3) st3 stop) λ r s4 ⟨hr,I4⟩=>?_)
  subst hr;exact wpAny_execs_nil ⟨σ3,H3,I4,qn⟩
 ·refine Xc hp (thn (T.item X rfl rfl rfl hc i pins s3 σ3 H3 X.xe I3 (stat fr3) st3 go) λ r s4 ⟨u,hr,h4⟩=>?_)
  subst hr;refine Xc hp (thn h4 λ _ s5 ⟨x,H5,I5,r5,y5,st5,fr5⟩=>?_);have I5':=I5.pinned (stat fr5) (T.obj _ _ st5);refine Xc hp (thn (hg _ s5 σ3 H5 x u _ I5' r5 (step x H5 y5)) λ _ s6 ⟨σ6,H6,I6,q6⟩=>?_);refine Xc hp (thn (hb _ s6 σ6 H6 _ I6 q6) λ f s7 q7=>?_)
  have again:∀ {σ7:St} {H7:Hp},Inv X (pins++rA fp s5.heap) σ7 H7 s7->N σ7 H7->∃ m,m < n/\∃ i σ' H',Inv X pins σ' H' s7/\tn i s7.heap/\(∀ b ∈ fp,H' b=none)/\W i m σ' H':=λ {σ7 H7} I7 n7=>by
   obtain ⟨m',hm,w7⟩:=hN σ7 H7 n7;refine ⟨m',hm,i+1,σ7,H7,I7.mQ,T.keep _ _ _ st5 λ b hb o e=>(I7.pin (b,o) (Ze _ (Ze _ (eR hb e)))).1,λ b hb=>?_,w7⟩;obtain ⟨o,e,d⟩:=T.obj _ _ st5 b hb;exact (I7.pin (b,o) (Ze _ (Ze _ (eR hb e)))).2.1
  cases f with
  | next=>obtain ⟨σ7,H7,I7,n7⟩:=q7; exact again I7 n7
  | cont=>obtain ⟨σ7,H7,I7,n7⟩:=q7; exact again I7 n7
  | brk=>obtain ⟨σ7,H7,I7,q7⟩:=q7; exact ⟨σ7,H7,I7.mQ,q7⟩
  | ret v=>obtain ⟨x7,σ7,H7,I7,r7,q7⟩:=q7; exact ⟨x7,σ7,H7,I7.mQ,r7,q7⟩
end
end L2
namespace L2
open PySem PySem.Spec PyProof.Rows
abbrev R2:=V->V->Hp->VK->Prop
def OpR (X:Cx) (f:Value->Value->Sem Value) (r:R2):Prop :=
  ∀ (pins:List (Addr×Obj)) (s:Shared) (σ:St) (H:Hp) (x y:V) (v u:Value) (Q:VK),Inv X pins σ H s->RelV x v->RelV y u->r x y H Q ->
    wpAny (model X.prog X.w) X.A (f v u) (EP X pins σ Q) X.xe s
def UnR (X:Cx) (f:Value->Sem Value) (r:V->Hp->VK->Prop):Prop :=
  ∀ (pins:List (Addr×Obj)) (s:Shared) (σ:St) (H:Hp) (x:V) (v:Value) (Q:VK),Inv X pins σ H s->RelV x v->r x H Q ->
    wpAny (model X.prog X.w) X.A (f v) (EP X pins σ Q) X.xe s
def c8 (X:Cx) (f:Value) (r:List V->Hp->VK->Prop):Prop :=
  ∀ (pins:List (Addr×Obj)) (s:Shared) (σ:St) (H:Hp) (xs:List V) (us:List Value) (Q:VK),Inv X pins σ H s->bD xs us->r xs H Q ->
    wpAny (model X.prog X.w) X.A (call f us) (EP X pins σ Q) X.xe s
def Oe (X:Cx) (r:V->Hp->(Bool->Hp->Prop)->Prop):Prop :=
  ∀ (pins:List (Addr×Obj)) (s:Shared) (σ:St) (H:Hp) (x:V) (v:Value) (Q:Bool->Hp->Prop),Inv X pins σ H s->RelV x v->r x H Q ->
    wpAny (model X.prog X.w) X.A (truthy v) (TP X pins σ Q) X.xe s
def tOp (r:R2) (ta tb:TE):TE:=λ σ H Q=>ta σ H λ x H1=>tb σ H1 λ y H2=>r x y H2 Q
def tUn (r:V->Hp->VK->Prop) (ta:TE):TE:=λ σ H Q=>ta σ H λ x H1=>r x H1 Q
def rI (C:Int->Int->Prop) (g:Int->Int->V):R2:=λ x y H Q=>∃ i j,x=.int i/\y=.int j/\C i j/\Q (g i j) H
def rI0 (g:Int->Int->V):R2:=λ x y H Q=>∃ i j,x=.int i/\y=.int j/\Q (g i j) H
def rU (g:Int->V):V->Hp->VK->Prop:=λ x H Q=>∃ i,x=.int i/\Q (g i) H
section
variable {X:Cx} {a b c:Expr} {ta tb tc:TE} {pos:Pos}
def LB (ha:PE X a ta) (hb:PE X b tb) {pins:List (Addr×Obj)} {s:Shared} {σ:St} {H:Hp} {R:V->V->Hp->Prop} (I:Inv X pins σ H s)
  (h:ta σ H λ x H1=>tb σ H1 λ y H2=>R x y H2) {Q:Value->Shared->Prop} {f:Value->Value->Sem Value}
  (hf:∀ v u s2 x y H2,Inv X pins σ H2 s2->RelV x v->RelV y u->R x y H2->wpAny (model X.prog X.w) X.A (f v u) Q X.xe s2) :
  wpAny (model X.prog X.w) X.A (eval a X.env) (λ v s₁=>wpAny (model X.prog X.w) X.A (eval b X.env) (λ u s₂=>wpAny (model X.prog X.w) X.A (f v u) Q X.xe s₂) X.xe s₁) X.xe s:=by
 refine thn (ha pins s σ H _ I h) λ v s1 ⟨x,H1,I1,r1,q1⟩=>?_
 refine thn (hb pins s1 σ H1 _ I1 q1) λ u s2 ⟨y,H2,I2,r2,q2⟩=>?_
 exact hf v u s2 x y H2 I2 r1 r2 q2
def Jj {op:Operator} {r:R2} (ho:OpR X (binaryOp op) r) (ha:PE X a ta) (hb:PE X b tb):PE X (.BinOp a op b pos) (tOp r ta tb):=by
 intro pins s σ H Q I h;exact wpAny_BinOp (LB ha hb I h λ v u s2 x y H2 I2 rx ry q=>ho pins s2 σ H2 x y v u Q I2 rx ry q)
def Ji (ho:UnR X (unaryOp op) r) (ha:PE X a ta):PE X (.UnaryOp op a pos) (tUn r ta):=by
 intro pins s σ H Q I h;exact UnaryOp_ (thn (ha pins s σ H _ I h) λ v s1 ⟨x,H1,I1,r1,q1⟩=>ho pins s1 σ H1 x v Q I1 r1 q1)
def opI {f:Value->Value->Sem Value} {C:Int->Int->Prop} {g:Int->Int->Int}
  (rule:∀ (i j:Int) (t u:Tok) (s:Shared) (Q:Value->Shared->Prop) (E:Value->Shared->Prop),C i j->Q (.int (g i j) s.toks) { s with toks:=s.toks+1 }->wpAny (model X.prog X.w) X.A (f (.int i t) (.int j u)) Q E s) :
  OpR X f (rI C λ i j=>.int (g i j)):=by
 intro pins s σ H x y v u Q I rx ry h;obtain ⟨i,j,rfl,rfl,hc,q⟩:=h;obtain ⟨t,rfl⟩:=rx;obtain ⟨t',rfl⟩:=ry;exact rule i j t t' s _ _ hc ⟨.int (g i j),H,I.tok _,⟨_,rfl⟩,q⟩
def LK {f:Value->Value->Sem Value} {g:Int->Int->Int}
  (rule:∀ (i j:Int) (t u:Tok) (s:Shared) (Q:Value->Shared->Prop) (E:Value->Shared->Prop),Q (.int (g i j) s.toks) { s with toks:=s.toks+1 }->wpAny (model X.prog X.w) X.A (f (.int i t) (.int j u)) Q E s) :
  OpR X f (rI0 λ i j=>.int (g i j)):=by
 intro pins s σ H x y v u Q I rx ry h;obtain ⟨i,j,rfl,rfl,q⟩:=h;obtain ⟨t,rfl⟩:=rx;obtain ⟨t',rfl⟩:=ry;exact rule i j t t' s _ _ ⟨.int (g i j),H,I.tok _,⟨_,rfl⟩,q⟩
def Jw {f:Value->Value->Sem Value} {g:Int->Int->Bool}
  (rule:∀ (i j:Int) (t u:Tok) (s:Shared) (Q:Value->Shared->Prop) (E:Value->Shared->Prop),Q (.bool (g i j)) s->wpAny (model X.prog X.w) X.A (f (.int i t) (.int j u)) Q E s) :
  OpR X f (rI0 λ i j=>.bl (g i j)):=by
 intro pins s σ H x y v u Q I rx ry h;obtain ⟨i,j,rfl,rfl,q⟩:=h;obtain ⟨t,rfl⟩:=rx;obtain ⟨t',rfl⟩:=ry;exact rule i j t t' s _ _ ⟨.bl (g i j),H,I,rfl,q⟩
def Hl (i j:Int):Prop:=0<=j/\j<=1000000/\i.natAbs < 2 ^ 64
def Bh (i j:Int):Prop:=(-(2 ^ 64) < i/\i < 2 ^ 64)\/(-(2 ^ 64) < j/\j < 2 ^ 64)
def Bh.ok (h:Bh i j):IntMulOk i j:=by
 rcases h with ⟨h1,h2⟩ | ⟨h1,h2⟩
 · exact .of_left (intBits_le_64 h1 h2)
 · exact .of_right (intBits_le_64 h1 h2)
def FZ:OpR X (binaryOp .Add) (rI0 λ i j=>.int (i+j)):=LK λ _ _ _ _ _ _ _ q=>add_int q
def FU:OpR X (binaryOp .Sub) (rI0 λ i j=>.int (i - j)):=LK λ _ _ _ _ _ _ _ q=>sub_int q
def CQ:OpR X (binaryOp .Mod) (rI (λ _ j=>j≠0) λ i j=>.int (i.fmod j)):=opI λ _ _ _ _ _ _ _ hc q=>mod_int' hc q
def FV:OpR X (binaryOp .Pow) (rI Hl λ i j=>.int (i ^ j.toNat)):=opI λ _ _ _ _ _ _ _ hc q=>pow_int_small hc.1 hc.2.1 hc.2.2 q
def unI {f:Value->Sem Value} {g:Int->Int}
  (rule:∀ (i:Int) (t:Tok) (s:Shared) (Q:Value->Shared->Prop) (E:Value->Shared->Prop),Q (.int (g i) s.toks) { s with toks:=s.toks+1 }->wpAny (model X.prog X.w) X.A (f (.int i t)) Q E s) :
  UnR X f (rU λ i=>.int (g i)):=by
 intro pins s σ H x v Q I rx h;obtain ⟨i,rfl,q⟩:=h;obtain ⟨t,rfl⟩:=rx;exact rule i t s _ _ ⟨.int (g i),H,I.tok _,⟨_,rfl⟩,q⟩
def Ex:UnR X (unaryOp .USub) (rU λ i=>.int (-i)):=unI λ _ _ _ _ _ q=>neg_int q
end
def IT:V->V->Bool
 | .non,.non=>true | .non,.int _=>true | .int _,.non=>true | .non,.bl _=>true | .bl _,.non=>true | .non,.str _=>true | .str _,.non=>true
 | .int _,.int _=>true | .bl _,.bl _=>true | .str _,.str _=>true | .byt _,.byt _=>true
 | .int _,.str _=>true | .str _,.int _=>true | .bl _,.str _=>true | .str _,.bl _=>true
 | _,_=>false
def rEq:R2:=λ x y H Q=>IT x y=true/\Q (.bl (decide (x=y))) H
def rNe:R2:=λ x y H Q=>IT x y=true/\Q (.bl (!decide (x=y))) H
def xH:decide (V.int i=V.int j)=(i == j):=by
 rw [Xd];simp
def Ba:decide (V.bl i=V.bl j)=(i == j):=by
 rw [Xd];simp
def xG:decide (V.str i=V.str j)=(i == j):=by
 rw [Xd];simp
def xI:decide (V.byt i=V.byt j)=(i.toList == j.toList):=by
 rw [Xd];cases i;cases j;simp
section
variable {X:Cx} {a b c:Expr} {ta tb tc:TE} {pos:Pos}
def be (I:Inv X pins σ H s) (q:Q (.bl k) H) (e:k=k'):EP X pins σ Q (.bool k') s:=by
 subst e;exact ⟨.bl k,H,I,rfl,q⟩
def Jv:OpR X (compareOp .Eq) rEq:=by
 intro pins s σ H x y v u Q I rx ry h;obtain ⟨hs,q⟩:=h
 cases x with
 | non =>
  cases rx
  cases y with
  | non=>cases ry; exact PySem.EqNone.eq_none_none (be I q (by simp))
  | bl j=>cases ry; exact PySem.EqNone.eq_none_bool (be I q (by simp))
  | int j=>obtain ⟨t',rfl⟩:=ry; exact PySem.EqNone.eq_none_int (be I q (by simp))
  | str j=>obtain ⟨t',rfl⟩:=ry; exact PySem.EqNone.eq_none_str (be I q (by simp))
  | _=>exact absurd (show false=true from hs) Zf
 | bl i =>
  cases rx
  cases y with
  | non=>cases ry; exact PySem.EqNone.eq_bool_none (be I q (by simp))
  | bl j=>cases ry; exact eq_bool (be I q Ba)
  | str j=>obtain ⟨t',rfl⟩:=ry; exact PySem.EqMixed.eq_bool_str (be I q (by simp))
  | _=>exact absurd (show false=true from hs) Zf
 | int i =>
  obtain ⟨t,rfl⟩:=rx
  cases y with
  | non=>cases ry; exact PySem.EqNone.eq_int_none (be I q (by simp))
  | int j=>obtain ⟨t',rfl⟩:=ry; exact eq_int (be I q xH)
  | str j=>obtain ⟨t',rfl⟩:=ry; exact PySem.EqMixed.eq_int_str (be I q (by simp))
  | _=>exact absurd (show false=true from hs) Zf
 | str i =>
  obtain ⟨t,rfl⟩:=rx
  cases y with
  | non=>cases ry; exact PySem.EqNone.eq_str_none (be I q (by simp))
  | bl j=>cases ry; exact PySem.EqMixed.eq_str_bool (be I q (by simp))
  | int j=>obtain ⟨t',rfl⟩:=ry; exact PySem.EqMixed.eq_str_int (be I q (by simp))
  | str j=>obtain ⟨t',rfl⟩:=ry; exact eq_str (be I q xG)
  | _=>exact absurd (show false=true from hs) Zf
 | byt i =>
  obtain ⟨t,rfl⟩:=rx
  cases y with
  | byt j=>obtain ⟨t',rfl⟩:=ry; exact PySem.W.eq_bytes (be I q xI)
  | _=>exact absurd (show false=true from hs) Zf
 | _=>cases y <;> exact absurd (show false=true from hs) Zf
def Jr:OpR X (compareOp .NotEq) rNe:=by
 intro pins s σ H x y v u Q I rx ry h;obtain ⟨hs,q⟩:=h
 cases x with
 | non =>
  cases rx
  cases y with
  | non=>cases ry; exact PySem.EqNone.ne_none_none (be I q (by simp))
  | bl j=>cases ry; exact PySem.EqNone.ne_none_bool (be I q (by simp))
  | int j=>obtain ⟨t',rfl⟩:=ry; exact PySem.EqNone.ne_none_int (be I q (by simp))
  | str j=>obtain ⟨t',rfl⟩:=ry; exact PySem.EqNone.ne_none_str (be I q (by simp))
  | _=>exact absurd (show false=true from hs) Zf
 | bl i =>
  cases rx
  cases y with
  | non=>cases ry; exact PySem.EqNone.ne_bool_none (be I q (by simp))
  | bl j=>cases ry; exact ne_bool (be I q (Yh not Ba))
  | str j=>obtain ⟨t',rfl⟩:=ry; exact PySem.EqMixed.ne_bool_str (be I q (by simp))
  | _=>exact absurd (show false=true from hs) Zf
 | int i =>
  obtain ⟨t,rfl⟩:=rx
  cases y with
  | non=>cases ry; exact PySem.EqNone.ne_int_none (be I q (by simp))
  | int j=>obtain ⟨t',rfl⟩:=ry; exact ne_int (be I q (Yh not xH))
  | str j=>obtain ⟨t',rfl⟩:=ry; exact PySem.EqMixed.ne_int_str (be I q (by simp))
  | _=>exact absurd (show false=true from hs) Zf
 | str i =>
  obtain ⟨t,rfl⟩:=rx
  cases y with
  | non=>cases ry; exact PySem.EqNone.ne_str_none (be I q (by simp))
  | bl j=>cases ry; exact PySem.EqMixed.ne_str_bool (be I q (by simp))
  | int j=>obtain ⟨t',rfl⟩:=ry; exact PySem.EqMixed.ne_str_int (be I q (by simp))
  | str j=>obtain ⟨t',rfl⟩:=ry; exact ne_str (be I q (Yh not xG))
  | _=>exact absurd (show false=true from hs) Zf
 | byt i =>
  obtain ⟨t,rfl⟩:=rx
  cases y with
  | byt j=>obtain ⟨t',rfl⟩:=ry; exact PySem.W.ne_bytes (be I q (Yh not xI))
  | _=>exact absurd (show false=true from hs) Zf
 | _=>cases y <;> exact absurd (show false=true from hs) Zf
def Js:OpR X (compareOp .Lt) (rI0 λ i j=>.bl (decide (i < j))):=Jw λ _ _ _ _ _ _ _ q=>lt_int q
def Jt:OpR X (compareOp .LtE) (rI0 λ i j=>.bl (decide (i<=j))):=Jw λ _ _ _ _ _ _ _ q=>le_int q
def Ju:OpR X (compareOp .Gt) (rI0 λ i j=>.bl (decide (j < i))):=Jw λ _ _ _ _ _ _ _ q=>gt_int q
def wo:OpR X (compareOp .Lt) (λ x y H Q=>∃ i j,x=.str i/\y=.str j/\Q (.bl (decide (i.cps.toList < j.cps.toList))) H):=by
 intro pins s σ H x y v u Q I rx ry h;obtain ⟨i,j,rfl,rfl,q⟩:=h;obtain ⟨t,rfl⟩:=rx;obtain ⟨t',rfl⟩:=ry;exact lt_str (be I q rfl)
def CO:OpR X (compareOp .IsNot) (λ x y H Q=>y=.non/\Q (.bl (!decide (x=.non))) H):=by
 intro pins s σ H x y v u Q I rx ry h;obtain ⟨rfl,q⟩:=h;cases ry;refine isnot_none_gen (be I q ?_)
 cases x <;> first
  | (cases rx; rfl)
  | (obtain ⟨t,rfl⟩:=rx; rfl)
def OpR.or (h:OpR X f r) (h':OpR X f r'):OpR X f (λ x y H Q=>r x y H Q\/r' x y H Q):=by
 intro pins s σ H x y v u Q I rx ry q;rcases q with q | q
 · exact h pins s σ H x y v u Q I rx ry q
 · exact h' pins s σ H x y v u Q I rx ry q
def AR (b:Expr) (h:op≠.In:=by decide) (h2:op≠.NotIn:=by decide):behindInMarks op b=false:=by
 have e1:(op == CmpOp.In)=false:=by cases op <;> first | rfl | exact absurd rfl h
 have e2:(op == CmpOp.NotIn)=false:=by cases op <;> first | rfl | exact absurd rfl h2
 cases b <;> simp [behindInMarks,e1,e2]
def CD (ho:OpR X (compareOp op) r) (ha:PE X a ta) (hb:PE X b tb) (hm:behindInMarks op b=false):PE X (.Compare a [op] [b] pos) (tOp r ta tb):=by
 intro pins s σ H Q I h;exact wpAny_Compare1 (LB ha hb I h λ v u s2 x y H2 I2 rx ry q=>ho pins s2 σ H2 x y v u Q I2 rx ry q) hm
def EG (t:TE):TT:=λ σ H Q=>t σ H λ x H'=>∃ k,x=.bl k/\Q k H'
def BX (ho:OpR X (compareOp op) r) (ha:PE X a ta) (hb:PE X b tb) (hm:behindInMarks op b=false):PT X (.Compare a [op] [b] pos) (EG (tOp r ta tb)):=by
 intro pins s σ H Q I h
 refine wpAny_isTrue_Compare1 (thn (ha pins s σ H _ I h) λ v s1 ⟨x,H1,I1,r1,q1⟩=>thn (hb pins s1 σ H1 _ I1 q1) λ u s2 ⟨y,H2,I2,r2,q2⟩ =>
  thn (ho pins s2 σ H2 x y v u _ I2 r1 r2 q2) λ c s3 ⟨z,H3,I3,r3,k,e,q3⟩=>?_) hm
 subst e;cases r3;exact Yo ⟨H3,I3,q3⟩
def uW (r r':R2) (ta tb tc:TE):TE:=λ σ H Q=>ta σ H λ x H1=>tb σ H1 λ y H2=>r x y H2 λ z H3=>∃ k,z=.bl k /\
 (if k=true then tc σ H3 λ w' H4=>r' y w' H4 Q else Q (.bl false) H3)
def zx (ho:OpR X (compareOp op) r) (ho':OpR X (compareOp op') r') (ha:PE X a ta) (hb:PE X b tb) (hc:PE X c tc)
  (hm:lastMarks [op,op'] [b,c]=false:=by with_unfolding_all rfl):PE X (.Compare a [op,op'] [b,c] pos) (uW r r' ta tb tc):=by
 intro pins s σ H Q I h
 refine Compare_chain (thn (ha pins s σ H _ I h) λ v s1 ⟨x,H1,I1,r1,q1⟩=>chain_link (thn (hb pins s1 σ H1 _ I1 q1) λ u s2 ⟨y,H2,I2,r2,q2⟩ =>
  thn (ho pins s2 σ H2 x y v u _ I2 r1 r2 q2) λ d s3 ⟨z,H3,I3,r3,k,e,q3⟩=>?_)) hm
 subst e;cases r3;refine Yo ?_
 cases k with
 | false=>exact ite_ff ⟨.bl false,H3,I3,rfl,q3⟩
 | true=>exact ite_tt (chain_last (thn (hc pins s3 σ H3 _ I3 q3) λ w' s4 ⟨z',H4,I4,r4,q4⟩=>ho' pins s4 σ H4 y z' u w' Q I4 r2 r4 q4))
def yQ (ho:OpR X (compareOp op) r) (ho':OpR X (compareOp op') r') (ha:PE X a ta) (hb:PE X b tb) (hc:PE X c tc)
  (hm:lastMarks [op,op'] [b,c]=false:=by with_unfolding_all rfl):PT X (.Compare a [op,op'] [b,c] pos) (EG (uW r r' ta tb tc)):=by
 intro pins s σ H Q I h
 refine isTrue_chain (thn (ha pins s σ H _ I h) λ v s1 ⟨x,H1,I1,r1,q1⟩=>test_link (thn (hb pins s1 σ H1 _ I1 q1) λ u s2 ⟨y,H2,I2,r2,q2⟩ =>
  thn (ho pins s2 σ H2 x y v u _ I2 r1 r2 q2) λ d s3 ⟨z,H3,I3,r3,k,e,q3⟩=>?_)) hm
 subst e;cases r3;refine Yo ?_
 cases k with
 | false =>
  obtain ⟨k',e',q'⟩:=q3;cases e';exact ite_ff ⟨H3,I3,q'⟩
 | true =>
  refine ite_tt (test_last (thn (hc pins s3 σ H3 _ I3 q3) λ w' s4 ⟨z',H4,I4,r4,q4⟩=>thn (ho' pins s4 σ H4 y z' u w' _ I4 r2 r4 q4) λ d' s5 ⟨z2,H5,I5,r5,k2,e2,q5⟩=>?_));subst e2;cases r5;exact Yo ⟨H5,I5,q5⟩
def MF (K:W.Frag) (x:V) (H:Hp) (k:Bool):Prop :=
 match x with
 | .non=>k=false
 | .bl b=>k=b
 | .int i=>k=(i != 0)
 | .str y=>y.length<=sizeLine/\k=((y.length:Int) != 0)
 | .byt y=>y.size<=sizeLine/\k=((y.size:Int) != 0)
 | .ref p=>(∃ xs,SqL K H p xs/\k=!xs.isEmpty)\/(∃ xs,SqT K H p xs/\k=!xs.isEmpty)\/∃ kvs,H p=some (.dK kvs)/\k=!kvs.isEmpty
 | _=>False
def t7 {κ:Type} {kvs:List (κ×V)} {vs:List (κ×Value)} (r:KV kvs vs):(!vs.isEmpty)=!kvs.isEmpty:=by
 cases r <;> rfl
def mq (r:bD xs its):(!its.toArray.isEmpty)=!xs.isEmpty:=by
 cases r <;> simp
def mj:(sizeLine:Nat) < 2 ^ 63:=by rw [Y5]; decide
def EA:Oe X (λ x H Q=>∃ k,MF X.K x H k/\Q k H):=by
 intro pins s σ H x v Q I rx h;obtain ⟨k,e,q⟩:=h;have hl:=mj;have hs:sizeLine=16777216:=Y5
 cases x with
 | non =>
  cases rx;have e':k=false:=e;subst e';exact truthy_none ⟨H,I,q⟩
 | bl b =>
  cases rx;have e':k=b:=e;subst e';exact Yo ⟨H,I,q⟩
 | int i =>
  obtain ⟨t,rfl⟩:=rx;have e':k=(i != 0):=e;subst e';exact PySem.P.truthy_int ⟨H,I,q⟩
 | str y =>
  obtain ⟨t,rfl⟩:=rx;obtain ⟨hy,e'⟩:y.length<=sizeLine/\k=((y.length:Int) != 0):=e;subst e';exact PySem.P.truthy_str (by omega) ⟨H,I.tok _,q⟩
 | byt y =>
  obtain ⟨t,rfl⟩:=rx;obtain ⟨hy,e'⟩:y.size<=sizeLine/\k=((y.size:Int) != 0):=e;subst e';exact PySem.W.truthy_bytes (by omega) ⟨H,I.tok _,q⟩
 | ref p =>
  cases rx;have e':(∃ xs,SqL X.K H p xs/\k=!xs.isEmpty)\/(∃ xs,SqT X.K H p xs/\k=!xs.isEmpty)\/∃ kvs,H p=some (.dK kvs)/\k=!kvs.isEmpty:=e
  rcases e' with ⟨xs,hx,e'⟩ | ⟨xs,hx,e'⟩ | ⟨kvs,hx,e'⟩
  ·subst e'
   obtain ⟨its,r,pl,hz⟩:=I.list hx;have hlen:=r.length;exact wpAny_truthy_list pl.isList (by simp only [Zq]; omega) ⟨H,I.tok _,by rw [mq r]; exact q⟩
  ·subst e'
   obtain ⟨its,r,pl,hz⟩:=I.tuple hx;have hlen:=r.length;exact truthy_tuple pl (by simp only [Zq]; omega) ⟨H,I.tok _,by rw [mq r]; exact q⟩
  ·subst e'
   obtain ⟨hz,hS,vs,r,m⟩:kvs.length<=sizeLine/\(p == sysModules)=false/\∃ vs,KV kvs vs/\s.heap.DictOf (bF X.prog X.w) p vs:=I.hok p _ hx
   have hlen:kvs.length=vs.length:=Paired.length r;exact wpAny_truthy_dict hS m (by omega) ⟨H,I.tok _,by rw [t7 r]; exact q⟩
 | _=>exact (show False from e).elim
def yP (ha:PE X a ta) (he:∀ whole,isTrue a X.env whole=(do let v <- whole; standAt a.pos; holding [v] (truthy v))) :
  PT X a (λ σ H Q=>ta σ H λ x H'=>∃ k,MF X.K x H' k/\Q k H'):=by
 intro pins s σ H Q I h;exact isTrue_plain (thn (ha pins s σ H _ I h) λ v s1 ⟨x,H1,I1,r1,q1⟩=>EA pins s1 σ H1 x v Q I1 r1 q1) (he _)
def tK:OpR X (binaryOp .Add) (λ x y H Q=>∃ i j,x=.str i/\y=.str j/\i.length+j.length<=sizeLine/\Q (.str (i++j)) H):=by
 intro pins s σ H x y v u Q I rx ry h;obtain ⟨i,j,rfl,rfl,hz,q⟩:=h;obtain ⟨t,rfl⟩:=rx;obtain ⟨t',rfl⟩:=ry;exact add_str (λ t' tk=>⟨.str (i++j),H,I.tok _,⟨_,rfl⟩,q⟩) hz
def vals1 (r:bD [x] us):∃ u,us=[u]/\RelV x u:=by
 cases r with
 | cons r1 r2=>cases r2; exact ⟨_,rfl,r1⟩
def vals2 (r:bD [x,y] us):∃ u w',us=[u,w']/\RelV x u/\RelV y w':=by
 cases r with
 | cons r1 r2 =>
  cases r2 with
  | cons r3 r4=>cases r4; exact ⟨_,_,rfl,r1,r3⟩
def xR (hc:X.calm=true):c8 X (.builtin "min") (λ xs H Q=>∃ i j,xs=[.int i,.int j]/\Q (.int (if j < i then j else i)) H):=by
 intro pins s σ H xs us Q I r h;obtain ⟨i,j,rfl,q⟩:=h;obtain ⟨u,w',rfl,⟨t,rfl⟩,⟨t',rfl⟩⟩:=vals2 r;refine min_two_ints (I.ok.hd hc) λ h' tk k=>⟨_,H,I.kept k,?_,q⟩
 by_cases hj:j < i
 · rw [if_pos hj,if_pos hj]; exact ⟨_,rfl⟩
 · rw [if_neg hj,if_neg hj]; exact ⟨_,rfl⟩
def Of (K:W.Frag) (x:V) (H:Hp) (n:Nat):Prop :=
 match x with
 | .str y=>y.length<=sizeLine/\n=y.length
 | .byt y=>y.size<=sizeLine/\n=y.size
 | .ref p=>(∃ xs,SqL K H p xs/\n=xs.length)\/∃ xs,SqT K H p xs/\n=xs.length
 | _=>False
def Af:c8 X (.builtin "len") (λ xs H Q=>∃ x n,xs=[x]/\Of X.K x H n/\Q (.int n) H):=by
 intro pins s σ H xs us Q I r h;obtain ⟨x,n,rfl,e,q⟩:=h;obtain ⟨u,rfl,rx⟩:=vals1 r;have hl:=mj;have hs:sizeLine=16777216:=Y5
 cases x with
 | str y =>
  obtain ⟨t,rfl⟩:=rx;obtain ⟨hy,e'⟩:y.length<=sizeLine/\n=y.length:=e;subst e';exact len_str (by omega) ⟨.int _,H,I.tok _,⟨_,rfl⟩,q⟩
 | byt y =>
  obtain ⟨t,rfl⟩:=rx;obtain ⟨hy,e'⟩:y.size<=sizeLine/\n=y.size:=e;subst e';exact PySem.W.len_bytes (by omega) ⟨.int _,H,I.tok _,⟨_,rfl⟩,q⟩
 | ref p =>
  cases rx;have e':(∃ xs,SqL X.K H p xs/\n=xs.length)\/∃ xs,SqT X.K H p xs/\n=xs.length:=e
  rcases e' with ⟨xs,hx,e'⟩ | ⟨xs,hx,e'⟩
  ·subst e'
   obtain ⟨its,r',pl,hz⟩:=I.list hx;have hlen:=r'.length;exact Calls.call_len_list pl.isList (by simp only [Zq]; omega) ⟨.int xs.length,H,I.tok _,⟨_,by simp only [Zq]; rw [hlen]⟩,q⟩
  ·subst e'
   obtain ⟨its,r',pl,hz⟩:=I.tuple hx;have hlen:=r'.length;exact len_tuple pl (by simp only [Zq]; omega) ⟨.int xs.length,H,I.tok _,⟨_,by simp only [Zq]; rw [hlen]⟩,q⟩
 | _=>exact (show False from e).elim
end
end L2
namespace L2
open PySem PySem.Spec PyProof.Rows
structure Ee (h:Heap) (x dx C:Addr) (mA:Str->Option Value):Prop where
 obj:h.get? x=some (PySem.W.instObj C dx)
 ns:h.Ns1 dx mA
 ne:dx≠x
def wV {h:Heap} {dx:Addr} {mA:Str->Option Value} (n:h.Ns1 dx mA):∃ od,h.get? dx=some od/\∀ name,PySem.W.lookIn name od=some (mA name):=by
 obtain ⟨o,es,ep,ho,hd,hk,_,hm⟩:=n;refine ⟨o,ho,λ name=>?_⟩;have e:=hm name;unfold nsFind findBy at e;rw [<- Array.find?_toList] at e;unfold PySem.W.lookIn;rw [hd];dsimp only;split
 ·rename_i y q
  rw [q] at e;exact Yh some e
 ·rename_i q
  rw [q] at e
  have a:es.toList.any (·.refKey)=false:=by
   rw [List.any_eq_false];intro y hy;obtain ⟨z,t,hkey⟩:=hk y (Xe.mp hy);simp [DictEntry.refKey,hkey]
  have a':¬ es.toList.any (·.refKey)=true:=by rw [a]; exact Zf
  rw [if_neg a'];exact Yh some e
def Ee.look (I:Ee h x dx C mA):∃ od,PySem.W.InstAt h x (PySem.W.instObj C dx) C (some od)/\∀ name,PySem.W.lookIn name od=some (mA name) :=
 let ⟨od,ho,hl⟩:=wV I.ns
 ⟨od,⟨I.obj,rfl,rfl,ho⟩,hl⟩
section
variable {prog:Program} {w:World} {A:Around} {E:Value->Shared->Prop} {s:Shared} {K:W.Frag} {x dx C f:Addr} {mA:Str->Option Value} {name:Str} {v:Value}
def get_map (X:K.In s.heap) (I:Ee s.heap x dx C mA) (hg:PySem.W.plainGet K C name=true) (hh:PySem.W.hasDictIn K C=true)
  (ha:W.findIn K (.ref C) name=some none) (hv:mA name=some v) (hv':PySem.W.handedIn v=true) (h:Q v { s with toks:=s.toks+1 }) :
  wpAny (model prog w) A (getAttr (.ref x) name expr) Q E s:=by
 obtain ⟨od,J,hl⟩:=I.look;exact PySem.W.get_value X J (PySem.W.plainGet_of hg).1 (PySem.W.findObj_own hh ha rfl (by rw [hl,hv])) hv' h
def zT (X:K.In s.heap) (I:Ee s.heap x dx C mA) (hg:PySem.W.plainGet K C name=true)
  (hf:W.findIn K (.ref C) name=some (some (.ref f))) (ht:PySem.W.isFn K (.ref f)=true) (hv:mA name=none) (h:Q (.ref f,[.ref x]) s) :
  wpAny (model prog w) A (getMethod (.ref x) name pl) Q E s:=by
 obtain ⟨od,J,hl⟩:=I.look;exact PySem.W.method_fn X J (PySem.W.plainGet_of hg).1 (PySem.W.plainGet_of hg).2 hf (beq_iff_eq.mp ht) (by show (PySem.W.lookIn name od).map (·.isSome)=some false; rw [hl,hv]; rfl) h
def By (X:K.In s.heap) (I:Ee s.heap x dx C mA)
  (hs:W.findIn K (.ref C) "__setattr__"=some (some (.builtin "object.__setattr__"))) (hp:PySem.W.plainOver K C=true) (ht:PySem.W.takerIn K C name=some none) (hh:PySem.W.hasDictIn K C=true)
  (hw:PySem.Within mA ns) (hsz:ns.length<=sizeLine)
  (h:∀ h',Ee h' x dx C (λ y=>if y=name then some v else mA y)->Heap.SameBut dx s.heap h'->Q () { s with heap:=h',toks:=s.toks+2 }) :
  wpAny (model prog w) A (setAttr (.ref x) name v) Q E s:=by
 obtain ⟨od,J,hl⟩:=I.look;refine PySem.W.set_plain X J hs (PySem.W.osa_open (s:={ s with toks:=s.toks+1 }) (r:=none) X J hp ht λ b=>?_);obtain ⟨cd,hc,hd'⟩:=PySem.W.any_some hh;have hx:s.heap.get? x=some ⟨.ref C,some dx,.plain,#[]⟩:=I.obj;refine Zg (Zz (Zg (Zg (wpAny_loadPart hx (Zg (PySem.W.Looks.here (s:={ s with toks:=s.toks+1 }) (PySem.W.looks_clsIn X hc) ?_))))));rw [hd'];refine Zz (a:=some dx) (Zg (Zz (Zg ?_)));refine wpAny_nsSet1 (s:={ s with toks:=s.toks+1 }) I.ns λ h' hn2 hs2=>?_
 obtain ⟨oD,esD,epD,hoD,hdD,hcD⟩:=hn2.count (PySem.Within.cons name v hw);refine Zg (wpAny_lookBehind hoD (by rw [hdD]; exact pastItsLine_dict (Z2 hcD (by rw [Zv]; omega))) ?_);exact Zz (h _ ⟨(hs2.2 _ (Ne.symm I.ne)).trans I.obj,hn2,I.ne⟩ hs2)
def zK (X:K.In s.heap) (hm:PySem.W.makesIn K C=true)
  (hi:W.findIn K (.ref C) "__init__"=some (some (.ref f))) (hf:PySem.W.typeIn K (.ref f)=some (.type "function"))
  (h : codeAny (model prog w) (A.under (.builtin "type.__call__" ⟨.ref C::vs,kw⟩)) (.call (.ref f) ⟨.ref (s.heap.objs.size+1)::vs,kw⟩) (PySem.W.InitBack (s.heap.objs.size+1) R)
    { s with heap:=(s.heap.push PySem.W.emptyDict).push (PySem.W.instObj C s.heap.objs.size) }) :
  codeAny (model prog w) A (.call (.ref C) ⟨vs,kw⟩) R s:=by
 obtain ⟨hh,g,d,t,os⟩:=s;exact PySem.W.make_core (PySem.W.makes_of X hm) (PySem.W.looks_findIn X hi) (λ self=>PySem.W.bind_fn X self hf) (.inl rfl) h
end
def lX (f:Str) (v:V):List (Str×V)->List (Str×V)
 | []=>[(f,v)]
 | (g,x)::r=>if g=f then (g,v)::r else (g,x)::lX f v r
def kX (f g:Str) (v:V):∀ fs:List (Str×V),(lX f v fs).lookup g=if g=f then some v else fs.lookup g
 | []=>by
  show List.lookup g [(f,v)]=_
  by_cases h:g=f
  ·have hb:(g == f)=true:=beq_iff_eq.mpr h
   simp only [List.lookup,hb,if_pos h]
  ·have hb:(g == f)=false:=Xi.mpr h
   simp only [List.lookup,hb,if_neg h]
 | (k,x)::r=>by
  have ih:=kX f g v r;rw [show lX f v ((k,x)::r)=(if k=f then (k,v)::r else (k,x)::lX f v r) from rfl]
  by_cases hk:k=f
  ·rw [if_pos hk]
   by_cases h:g=k
   ·have hb:(g == k)=true:=beq_iff_eq.mpr h
    simp only [List.lookup,hb,if_pos (h.trans hk)]
   ·have hb:(g == k)=false:=Xi.mpr h
    simp only [List.lookup,hb,if_neg (λ e:g=f=>h (e.trans hk.symm))]
  ·rw [if_neg hk]
   by_cases h:g=k
   ·have hb:(g == k)=true:=beq_iff_eq.mpr h
    simp only [List.lookup,hb,if_neg (λ e:g=f=>hk (h.symm.trans e))]
   ·have hb:(g == k)=false:=Xi.mpr h
    simp only [List.lookup,hb];exact ih
def k6 (f:Str) (v:V):∀ fs:List (Str×V),f ∈ (lX f v fs).map (·.1)/\∀ g,g ∈ fs.map (·.1)->g ∈ (lX f v fs).map (·.1)
 | []=>⟨by simp [lX],λ g h=>by simp at h⟩
 | (k,x)::r=>by
  obtain ⟨i1,i2⟩:=k6 f v r;rw [show lX f v ((k,x)::r)=(if k=f then (k,v)::r else (k,x)::lX f v r) from rfl]
  by_cases hk:k=f
  ·rw [if_pos hk]
   subst hk;exact ⟨by simp,λ g h=>by simpa using h⟩
  ·rw [if_neg hk]
   refine ⟨?_,λ g h=>?_⟩
   ·rw [Zh]
    exact Zc _ i1
   ·rw [Zh] at h ⊢
    rcases Zl.mp h with e | e
    · exact Zl.mpr (.inl e)
    · exact Zc _ (i2 g e)
def kY (f:Str) (v:V):∀ fs:List (Str×V),(lX f v fs).length<=fs.length+1
 | []=>by simp [lX]
 | (k,x)::r=>by
  have ih:=kY f v r;rw [show lX f v ((k,x)::r)=(if k=f then (k,v)::r else (k,x)::lX f v r) from rfl]
  by_cases hk:k=f
  · rw [if_pos hk,Zv,Zv]; omega
  · rw [if_neg hk,Zv,Zv]; omega
def pL.some_of (r:pL (some v) o):∃ u,o=some u/\RelV v u:=by
 cases o with
 | none=>exact (show False from r).elim
 | some u=>exact ⟨u,rfl,r⟩
def pL.none_of (r:pL none o):o=none:=by
 cases o with
 | none=>rfl
 | some u=>exact (show False from r).elim
def xn (r:RelV v u):PySem.W.handedIn u=true:=by
 cases v with
 | non=>cases (show u=Value.none from r); rfl
 | bl b=>cases (show u=Value.bool b from r); rfl
 | int i=>obtain ⟨t,e⟩:=(show ∃ t,u=Value.int i t from r); cases e; rfl
 | str x=>obtain ⟨t,e⟩:=(show ∃ t,u=Value.str x t from r); cases e; rfl
 | byt b=>obtain ⟨t,e⟩:=(show ∃ t,u=Value.bytes b t from r); cases e; rfl
 | flt b=>obtain ⟨t,e⟩:=(show ∃ t,u=Value.float b t from r); cases e; rfl
 | ref a=>cases (show u=Value.ref a from r); rfl
 | ty n=>cases (show u=Value.type n from r); rfl
section
variable {P:Program} {w:World} {H H':Hp} {h h':Heap} {a C dx:Addr} {fs fs':List (Str×V)}
def m8 (hok:HOk P w H h) (e:H a=some (.ins C dx fs)):∃ mA,Ee h a dx C mA/\(∀ f,pL (fs.lookup f) (mA f))/\PySem.Within mA (fs.map (·.1))/\fs.length<=1000/\H dx=some (.own a):=by
 obtain ⟨d,z,ne,ob,mA,n,r,q⟩:=(show cu P w H h a (.ins C dx fs) from hok a _ e)
 exact ⟨mA,⟨ob,n,ne⟩,r,q,z,d⟩
end
structure Cls (K:W.Frag) (C:Addr):Prop where
 pg:PySem.W.plainGet K C Str.empty=true
 hd:PySem.W.hasDictIn K C=true
 po:PySem.W.plainOver K C=true
 sa:W.findIn K (.ref C) "__setattr__"=some (some (.builtin "object.__setattr__"))
def Cls.get {K:W.Frag} {C:Addr} (c:Cls K C) (f:Str):PySem.W.plainGet K C f=true:=c.pg
def cG (K:W.Frag) (C:Addr) (f:Str):Prop:=W.findIn K (.ref C) f=some none
def cG.IB {K:W.Frag} {C:Addr} {f:Str} (n:cG K C f):PySem.W.takerIn K C f=some none:=by
 unfold PySem.W.takerIn;rw [show W.findIn K (.ref C) f=some none from n];rfl
structure Ef (K:W.Frag) (C:Addr) (m:Str) (f:Addr):Prop where
 at_:W.findIn K (.ref C) m=some (some (.ref f))
 fn:PySem.W.isFn K (.ref f)=true
 kp:W.keepIn K (.ref f)=true
section
variable {X:Cx} {pins:List (Addr×Obj)} {σ:St} {H:Hp} {s:Shared} {a C dx:Addr} {fs:List (Str×V)} {f:Str} {v:V} {A:Around} {E:Value->Shared->Prop}
def ua (I:Inv X pins σ H s) (e:H a=some (.ins C dx fs)) (c:Cls X.K C) (n:cG X.K C f) (l:fs.lookup f=some v)
  (h:∀ u s',Inv X pins σ H s'->RelV v u->Q u s'):wpAny (model X.prog X.w) A (getAttr (.ref a) f b) Q E s:=by
 obtain ⟨mA,O,r,_,_,_⟩:=m8 I.hok e;obtain ⟨u,hu,ru⟩:=pL.some_of (v:=v) (o:=mA f) (by rw [<- l]; exact r f);exact get_map I.kIn O (c.get f) c.hd n hu (xn ru) (h u _ (I.tok _) ru)
def t9 (I:Inv X pins σ H s) (e:H a=some (.ins C dx fs)) (c:Cls X.K C) (k:Ef X.K C m g) (l:fs.lookup m=none)
  (h:Q (.ref g,[.ref a]) s):wpAny (model X.prog X.w) A (getMethod (.ref a) m pl) Q E s:=by
 obtain ⟨mA,O,r,_,_,_⟩:=m8 I.hok e;have hn:mA m=none:=pL.none_of (by rw [<- l]; exact r m);exact zT I.kIn O (c.get m) k.at_ k.fn hn h
def tj (I:Inv X pins σ H s) (e:H a=some (.ins C dx fs)) (c:Cls X.K C) (n:cG X.K C f) (hl:fs.length < 1000) (ry:RelV y u)
  (h:∀ s',Inv X pins σ (upd H a (.ins C dx (lX f y fs))) s'->Q () s'):wpAny (model X.prog X.w) A (setAttr (.ref a) f u) Q E s:=by
 obtain ⟨mA,O,r,wi,_,ho⟩:=m8 I.hok e;have hz:(fs.map (·.1)).length<=sizeLine:=by rw [Za,Y5]; omega
 refine By I.kIn O c.sa c.po n.IB c.hd wi hz λ h' O' sb=>h _ ?_
 have hd:∃ o,h'.get? dx=some o:=let ⟨o,_,_,e',_⟩:=O'.ns; ⟨o,e'⟩
 refine I.write (x:=a) (e:=dx) (by rw [e]; exact True.intro) (.inr ho) (λ b q hb z=>(sb.2 b hb).trans z) hd ?_
 refine ⟨by rw [aj O.ne]; exact ho,?_,O.ne,O'.obj,_,O'.ns,λ g=>?_,λ g hg=>?_⟩
 · have:=kY f y fs; omega
 ·show pL ((lX f y fs).lookup g) (if g=f then some u else mA g)
  rw [kX]
  by_cases q:g=f
  · rw [if_pos q,if_pos q]; exact ry
  · rw [if_neg q,if_neg q]; exact r g
 ·by_cases q:g=f
  · rw [q]; exact (k6 f y fs).1
  ·refine (k6 f y fs).2 g (wi g λ z=>hg ?_)
   show (if g=f then some u else mA g)=none;rw [if_neg q]; exact z
def Inv.made (I:Inv X pins σ H s):Inv X pins σ (upd (upd H s.heap.objs.size (.own (s.heap.objs.size+1))) (s.heap.objs.size+1) (.ins C s.heap.objs.size []))
  { s with heap:=(s.heap.push PySem.W.emptyDict).push (PySem.W.instObj C s.heap.objs.size) }:=by
 have e1:(s.heap.push PySem.W.emptyDict).get? s.heap.objs.size=some PySem.W.emptyDict:=Heap.get?_push_size s.heap rfl
 have e2:((s.heap.push PySem.W.emptyDict).push (PySem.W.instObj C s.heap.objs.size)).get? (s.heap.objs.size+1)=some (PySem.W.instObj C s.heap.objs.size):=by
  have:=Heap.get?_push_size (s.heap.push PySem.W.emptyDict) (o:=PySem.W.instObj C s.heap.objs.size) rfl
  rwa [Xk] at this
 have e3:(s.heap.push PySem.W.emptyDict).Ns s.heap.objs.size (λ _=>none):=⟨PySem.W.emptyDict,#[],_,e1,rfl,(λ e he=>absurd he (by simp)),λ _=>rfl⟩
 have I1:=I.laid (a:=s.heap.objs.size) (o:=.own (s.heap.objs.size+1)) (h':=s.heap.push PySem.W.emptyDict) (t':=s.toks) (λ b u q=>Heap.get?_push_of_some _ q) (Zs _) ⟨_,e1⟩;refine I1.laid (a:=s.heap.objs.size+1) (o:=.ins C s.heap.objs.size []) (t':=s.toks) (λ b u q=>Heap.get?_push_of_some _ q) (Nat.le_of_eq (Xk _ _)) ?_
 have ne:s.heap.objs.size≠s.heap.objs.size+1:=Zx (Yv _);refine ⟨by rw [aj ne,aq],Z3 _,ne,e2,λ _=>none,(Heap.Ns1.of_empty e3).at λ o q=>Heap.get?_push_of_some _ q,λ _=>True.intro,λ y hy=>absurd rfl hy⟩
def Eb (hb:attributeBase e f env (eval e env)=eval e env)
  (h:wpAny (model prog w) A (eval e env) (λ o s₁=>wpAny (model prog w) A (getAttr o f true) Q E s₁) E s):wpAny (model prog w) A (eval (.Attribute e f pos) env) Q E s :=
 Attribute_any_ h (by rw [arm_eval_Attribute,hb])
end
def MT (K:W.Frag) (ta:TE) (f:Str):TE:=λ σ H Q=>ta σ H λ x H1=>∃ a C dx fs v,x=.ref a/\H1 a=some (.ins C dx fs)/\Cls K C/\cG K C f/\fs.lookup f=some v/\Q v H1
def M3 (K:W.Frag) (ta tv:TE) (f:Str):TS:=λ D σ H=>tv σ H λ y H1=>ta σ H1 λ x H2=>∃ a C dx fs,x=.ref a/\H2 a=some (.ins C dx fs)/\Cls K C/\cG K C f/\fs.length < 1000 /\
 D.nx σ (upd H2 a (.ins C dx (lX f y fs)))
section
variable {X:Cx} {o e value:Expr} {f:Str} {pos pos' tpos:Pos} {ta tv:TE}
def AN (he:PE X e ta) (hb:attributeBase e f X.env (eval e X.env)=eval e X.env):PE X (.Attribute e f pos) (MT X.K ta f):=by
 intro pins s σ H Q I h;refine Eb hb (thn (he pins s σ H _ I h) λ u s1 ⟨x,H1,I1,rx,a,C,dx,fs,v,ex,ea,c,n,l,q⟩=>?_);subst ex;obtain rfl:u=Value.ref a:=rx;exact ua I1 ea c n l λ u' s2 I2 ru=>⟨v,H1,I2,ru,q⟩
def Ff (ha:PE X o ta) (hv:PE X value tv) (hs:swapsWith value (some (.Attribute o f pos')) pos.line X.env=pure false):PS X (.Assign [.Attribute o f pos'] value pos) (M3 X.K ta tv f):=by
 intro pins s σ H D I h;refine plainObj_wpAny_Assign_Attribute (thn (hv pins s σ H _ I h) λ u s1 ⟨y,H1,I1,ry,q⟩=>thn (ha pins s1 σ H1 _ I1 q) λ ov s2 ⟨x,H2,I2,rx,a,C,dx,fs,ex,ea,c,n,l,q2⟩=>?_) hs;subst ex;obtain rfl:ov=Value.ref a:=rx;exact tj I2 ea c n l ry λ s3 I3=>⟨σ,_,I3,q2⟩
end
section
variable {X:Cx} {pins:List (Addr×Obj)} {σ:St} {H:Hp} {s:Shared} {A:Around} {E:Value->Shared->Prop} {Q:Value->Shared->Prop} {c:Value} {b:Bool}
inductive uz (K:W.Frag) (H:Hp):V->Value->Prop where
 | non:uz K H .non (.type "NoneType")
 | bl (x:Bool):uz K H (.bl x) (.type "bool")
 | int (i:Int):uz K H (.int i) (.type "int")
 | str (x:Str):uz K H (.str x) (.type "str")
 | flt (x:UInt64):uz K H (.flt x) (.type "float")
 | lst {a:Addr} {xs:List V} (e:H a=some (.lst xs)):uz K H (.ref a) (.type "list")
 | frz {a:Addr} {o:Obj} {xs:List V} (e:H a=some (.frz o (.lst xs))):uz K H (.ref a) (.type "list")
 | tup {a:Addr} {xs:List V} (e:H a=some (.tup xs)):uz K H (.ref a) (.type "tuple")
 | dK {a:Addr} {kvs:List (Key×V)} (e:H a=some (.dK kvs)):uz K H (.ref a) (.type "dict")
 | dT {a:Addr} {kvs:List (List Key×V)} (e:H a=some (.dT kvs)):uz K H (.ref a) (.type "dict")
 | ins {a C dx:Addr} {fs:List (Str×V)} (e:H a=some (.ins C dx fs)) (cl:Cls K C) (ha:W.findIn K (.ref C) "__class__"=some (some (.builtin "object.__class__")))
  (hn:PySem.W.specialIn K (.builtin "object.__class__") "__get__"=some (some (.builtin "getset_descriptor.__get__"))) (htk:PySem.W.takesIn K (.builtin "object.__class__")=some true)
  (hm:PySem.W.mroIn K C (.type "object")=some true):uz K H (.ref a) (.ref C)
def xc (I:Inv X pins σ H s) (rx:RelV x u) (ty:uz X.K H x t) (e:PySem.W.kitOne X.K t c=some b) (h:∀ tk,Q (.bool b) { s with toks:=tk }) :
  wpAny (model X.prog X.w) A (call (.builtin "isinstance") [u,c]) Q E s:=by
 cases ty with
 | non=>cases (show u=Value.none from rx); exact Yi PySem.W.kitx_none I.kIn True.intro e (λ z=>nomatch z) h
 | bl y=>cases (show u=Value.bool y from rx); exact Yi PySem.W.kitx_bool I.kIn True.intro e (λ z=>nomatch z) h
 | int i=>obtain ⟨t,q⟩:=(show ∃ t,u=Value.int i t from rx); cases q; exact Yi PySem.W.kitx_int I.kIn True.intro e (λ z=>nomatch z) h
 | str y=>obtain ⟨t,q⟩:=(show ∃ t,u=Value.str y t from rx); cases q; exact Yi PySem.W.kitx_str I.kIn True.intro e (λ z=>nomatch z) h
 | flt y=>obtain ⟨t,q⟩:=(show ∃ t,u=Value.float y t from rx); cases q; exact Yi PySem.W.kitx_float I.kIn True.intro e (λ z=>nomatch z) h
 | @lst a xs ea =>
  cases (show u=Value.ref a from rx);obtain ⟨_,_,n,_,h1⟩:=(show cu X.prog X.w H s.heap a (.lst xs) from I.hok a _ ea)
  exact Yi PySem.W.kitx_list I.kIn ⟨_,h1,rfl⟩ e (λ z=>nomatch z) h
 | @frz a ob xs ea =>
  cases (show u=Value.ref a from rx);obtain ⟨_,_,_,n,_,h1⟩:=(show cu X.prog X.w H s.heap a (.frz ob (.lst xs)) from I.hok a _ ea)
  exact Yi PySem.W.kitx_list I.kIn ⟨_,h1,rfl⟩ e (λ z=>nomatch z) h
 | @tup a xs ea =>
  cases (show u=Value.ref a from rx);obtain ⟨_,_,_,p⟩:=(show cu X.prog X.w H s.heap a (.tup xs) from I.hok a _ ea)
  obtain ⟨o,h1,h2,_⟩:=p;exact Yi PySem.W.kitx_tuple I.kIn ⟨o,h1,h2⟩ e (λ z=>nomatch z) h
 | @dK a kvs ea =>
  cases (show u=Value.ref a from rx);obtain ⟨_,_,vs,_,p⟩:=(show cu X.prog X.w H s.heap a (.dK kvs) from I.hok a _ ea)
  obtain ⟨o,es,ep,h1,h2,_⟩:=p;exact Yi PySem.W.kitx_dict I.kIn ⟨o,h1,h2.1⟩ e (λ z=>nomatch z) h
 | @dT a kvs ea =>
  cases (show u=Value.ref a from rx);obtain ⟨_,_,xs,_,o,es,ep,h1,h2,_⟩:=(show cu X.prog X.w H s.heap a (.dT kvs) from I.hok a _ ea)
  exact Yi PySem.W.kitx_dict I.kIn ⟨o,h1,h2.1⟩ e (λ z=>nomatch z) h
 | @ins a C dx fs ea cl ha hn htk hm =>
  cases (show u=Value.ref a from rx);obtain ⟨mA,O,_⟩:=m8 I.hok ea;obtain ⟨od,J,_⟩:=O.look;exact Yi (PySem.W.kitx_own (cl.get _) cl.hd ha hn htk hm) I.kIn J e (λ z=>nomatch z) h
end
end L2
namespace L2
open PySem PySem.Spec PyProof.Rows
structure dW (k:Nat) (A:Around):Prop where
 hd:A.handled=none
 dp:A.depth+3 * k+5 < recursionLimit
 un:A.units+16 * k+200 < cLine
def dW.mono (r:dW k A) (h:j<=k):dW j A:=⟨r.hd,by have:=r.dp; omega,by have:=r.un; omega⟩
def dW.deeper (r:dW (k+1) A) (env:Env):dW k (A.deeper env) :=
 ⟨r.hd,by have:=r.dp; show A.depth+1+3 * k+5 < _; omega,by have:=r.un; show A.units+3+16 * k+200 < _; omega⟩
def tW {A:Around} {C:Addr} {us:List Value} {kw:List (Str×Value)}:(A.under (.builtin "type.__call__" ⟨.ref C::us,kw⟩)).depth=A.depth+1:=by
 first | rfl | simp [Around.under,Code.weight,Code.isCreation,Code.isGuard,Code.isCaller,Code.frames,Code.isFrame,guardIds]
def tV {A:Around} {C:Addr} {us:List Value} {kw:List (Str×Value)}:(A.under (.builtin "type.__call__" ⟨.ref C::us,kw⟩)).units=A.units+1:=by
 first | rfl | simp [Around.under,Code.cUnits,Code.frames,Code.isFrame]
def dW.make (r:dW (k+1) A) (C:Addr) (us:List Value) (kw:List (Str×Value)):dW k (A.under (.builtin "type.__call__" ⟨.ref C::us,kw⟩)) :=
 ⟨r.hd,by have:=r.dp; rw [tW]; omega,by have:=r.un; rw [tV]; omega⟩
def dW.depth (r:dW k A):A.depth < recursionLimit:=by have:=r.dp; omega
def dW.units (r:dW k A):A.units+64 < cLine:=by have:=r.un; omega
def LF:TA:=λ _ H Q=>Q [] H
def Br (ta:TE) (tr:TA):TA:=λ σ H Q=>ta σ H λ x H1=>tr σ H1 λ xs H2=>Q (x::xs) H2
section
variable {X:Cx} {e:Expr} {es:List Expr} {te:TE} {t:TA} {pos:Pos}
def eL:PA X [] LF:=λ _ _ _ _ H Q I h=>Calls.spliced_nil ⟨[],H,I,.nil,h⟩
def cB (ha:PE X e te) (hr:PA X es t) (hs:starEach (e::es) X.env=(false,eval e X.env)::starEach es X.env:=by rfl):PA X (e::es) (Br te t):=by
 intro pos pins s σ H Q I h;rw [hs];show wpAny _ _ (spliced ((false,eval e X.env)::backTo pos (starEach es X.env))) _ _ s;refine Calls.spliced_cons (thn (ha pins s σ H _ I h) λ u s1 ⟨x,H1,I1,r1,q1⟩=>?_);exact thn (hr pos pins s1 σ H1 _ I1 q1) λ us s2 ⟨xs,H2,I2,r2,q2⟩=>⟨x::xs,H2,I2,.cons r1 r2,q2⟩
def MK (t:TA):TE:=λ σ H Q=>t σ H λ xs H1=>xs.length<=sizeLine/\∀ p,H1 p=none->Q (.ref p) (upd H1 p (.tup xs))
def MQ (t:TA):TE:=λ σ H Q=>t σ H λ xs H1=>xs.length<=sizeLine/\∀ p,H1 p=none->Q (.ref p) (upd H1 p (.lst xs))
def AM {x1} (h:PA X es t):PE X (.Tuple es x1 pos) (MK t):=by
 intro pins s σ H Q I hq;refine wpAny_Tuple_spliced (thn (h pos pins s σ H _ I hq) λ us s1 ⟨xs,H1,I1,r,z,q⟩=>⟨by rw [<- r.length]; exact z,?_⟩);have hf:H1 s1.heap.objs.size=none:=I1.hok.fresh (Zs _);refine ⟨.ref s1.heap.objs.size,upd H1 s1.heap.objs.size (.tup xs),I1.laid (t':=s1.toks) (λ b u e=>Heap.get?_push_of_some _ e) (Zs _) ?_,rfl,q _ hf⟩;exact ⟨z,us,r,⟨_,Heap.get?_push_size _ rfl,rfl,_,rfl⟩⟩
def Fy (h:PA X es t):PE X (.List es pos) (MQ t):=by
 intro pins s σ H Q I hq;refine wpAny_List_spliced (thn (h pos pins s σ H _ I hq) λ us s1 ⟨xs,H1,I1,r,z,q⟩=>⟨by rw [<- r.length]; exact z,?_⟩);have hf:H1 s1.heap.objs.size=none:=I1.hok.fresh (Zs _);refine ⟨.ref s1.heap.objs.size,upd H1 s1.heap.objs.size (.lst xs),I1.laid (t':=s1.toks) (λ b u e=>Heap.get?_push_of_some _ e) (Zs _) ?_,rfl,q _ hf⟩;exact ⟨z,us,0,r,Heap.get?_push_size _ rfl⟩
end
abbrev Sp:=List V->Hp->VK->XK->Prop
abbrev CXT:=List Env->Hp->Shared->XK->Value->Shared->Prop
structure Eh (P:Program) (w:World) (K:W.Frag) (mg:Str->Option Value) (base:Heap) (A:Around) (outer:List Env) (s:Shared) (H:Hp):Prop where
 frames:A.frames=some outer
 mod:Mod K mg base
 bs:∀ b o,base.get? b=some o->s.heap.get? b=some o/\H b=none
 bsz:base.objs.size<=s.heap.objs.size
 uF:s.heap.FunFrames base outer
 frf:∀ b ∈ frs outer,H b=none
 hok:HOk P w H s.heap
 bare:AllBare s.gens
def CE (outer:List Env) (P:Program) (w:World) (H:Hp) (s:Shared) (Q:VK) (u:Value) (s':Shared):Prop :=
 ∃ v H',s'.os=s.os/\AllBare s'.gens/\Un (frs outer) [] H H' s.heap s'.heap/\HOk P w H' s'.heap/\RelV v u/\Q v H'
def CR (CX:CXT) (outer:List Env) (P:Program) (w:World) (H:Hp) (s:Shared) (Q:VK) (E:XK) (r:Result) (s':Shared):Prop :=
 match r with
 | .ok (.ret u)=>CE outer P w H s Q u s'
 | .ok _=>False
 | .error e=>CX outer H s E e s'
structure jf (P:Program) (w:World) (K:W.Frag) (mg:Str->Option Value) (base:Heap) (CX:CXT) (k:Nat) (f:Addr) (fd:FuncData) (ps:List Str) (sp:Sp):Prop where
 len:∀ vs H Q E,sp vs H Q E->vs.length=ps.length
 run:∀ (A:Around) (outer:List Env) (s:Shared) (H:Hp) (args:Args) (us:List Value) (vs:List V) (Q:VK) (E:XK),dW k A->Eh P w K mg base A outer s H->BindsTo s fd args (ps.zip us)->bD vs us->sp vs H Q E ->
  codeAny (model P w) A (.call (.ref f) args) (CR CX outer P w H s Q E) s
def jf.imp {P:Program} {w:World} {K:W.Frag} {mg:Str->Option Value} {base:Heap} {CX:CXT} {k:Nat} {f:Addr} {fd:FuncData} {ps:List Str} {sp sp':Sp} (F:jf P w K mg base CX k f fd ps sp)
  (h:∀ vs H Q E,sp' vs H Q E->sp vs H Q E):jf P w K mg base CX k f fd ps sp' :=
 ⟨λ vs H Q E q=>F.len vs H Q E (h _ _ _ _ q),λ A outer s H args us vs Q E hr he hb hv hs=>F.run A outer s H args us vs Q E hr he hb hv (h _ _ _ _ hs)⟩
def Eh.make {P:Program} {w:World} {K:W.Frag} {mg:Str->Option Value} {base:Heap} {A:Around} {outer:List Env} {s:Shared} {H:Hp} (e:Eh P w K mg base A outer s H) (C:Addr) (us:List Value) (kw:List (Str×Value)) :
 Eh P w K mg base (A.under (.builtin "type.__call__" ⟨.ref C::us,kw⟩)) outer s H:=⟨by first | exact e.frames | (simpa [Around.under,Code.envs,Code.isFrame,pushEnvs] using e.frames),e.mod,e.bs,e.bsz,e.uF,e.frf,e.hok,e.bare⟩
section
variable {X:Cx} {pins:List (Addr×Obj)} {σ:St} {H:Hp} {s s':Shared}
def Inv.MD (I:Inv X pins σ H s):Eh X.prog X.w X.K X.mg X.base X.A X.stack s H :=
 ⟨I.ok.frames,I.ok.mod,I.bs,Z2 I.ok.bsz I.sz,I.stack,I.uY,I.hok,I.bare⟩
def Inv.after (I:Inv X pins σ H s) (h:CE X.stack X.prog X.w H s Q u s'):EP X pins σ Q u s':=by
 obtain ⟨v,H',os,bare,un,hok,r,q⟩:=h;obtain ⟨hh,g,d,t,os'⟩:=s';obtain rfl:os'=s.os:=os;exact ⟨v,H',I.call (h':=hh) (g':=g) (d':=d) (t':=t) (ch:=[]) un hok bare (λ b z=>absurd z (by simp)),r,q⟩
end
def Bt (sp:Sp) (dvs:List V) (E:XK) (t:TA):TE:=λ σ H Q=>t σ H λ vs H1=>sp (vs++dvs) H1 Q E
def Bp (C:Addr) (m:Str) (sp:Sp) (dvs:List V) (E:XK) (ta:TE) (t:TA):TE:=λ σ H Q=>ta σ H λ x H1=>∃ a dx fs,x=.ref a/\H1 a=some (.ins C dx fs)/\fs.lookup m=none /\
 t σ H1 λ vs H2=>sp (x::(vs++dvs)) H2 Q E
def II (C:Addr) (sp:Sp) (dvs:List V) (E:XK) (t:TA):TE:=λ σ H Q=>t σ H λ vs H1=>∀ x dx,H1 x=none->H1 dx=none->dx≠x ->
 sp (.ref x::(vs++dvs)) (upd (upd H1 dx (.own x)) x (.ins C dx [])) (λ v H2=>v=.non/\Q (.ref x) H2) E
def Binds (K:W.Frag) (fd:FuncData) (ps:List Str) (ds:List Value):Prop :=
 ∀ (s:Shared) (us:List Value),K.In s.heap->(us++ds).length=ps.length->BindsTo s fd ⟨us,[]⟩ (ps.zip (us++ds))
def Binds.all {K:W.Frag} {fd:FuncData} {ps:List Str} (h:∀ us:List Value,us.length=ps.length->bindArgs fd ⟨us,[]⟩=pure (ps.zip us)):Binds K fd ps []:=λ s us _ hl=>by
 rw [Z0] at hl ⊢;exact .of_eq (h us hl)
def mK (CX:CXT) (X:Cx) (E:XK):Prop:=∀ (pins:List (Addr×Obj)) (σ:St) (H:Hp) (s:Shared) (e:Value) (s':Shared),Inv X pins σ H s->CX X.stack H s E e s'->X.xe e s'
section
variable {X:Cx} {CX:CXT} {k:Nat} {f C:Addr} {fd:FuncData} {ps:List Str} {sp:Sp} {dvs:List V} {ds:List Value} {E:XK} {x m:Str} {p pos apos:Pos} {e o:Expr} {es:List Expr} {ta:TE} {t:TA}
def AE (F:jf X.prog X.w X.K X.mg X.base CX k f fd ps sp) (hr:dW k X.A) (hb:Binds X.K fd ps ds) (hd:bD dvs ds) (hx:mK CX X E)
  (I:Inv X pins σ H s) (r:bD vs us) (h:sp (vs++dvs) H Q E):wpAny (model X.prog X.w) X.A (call (.ref f) us) (EP X pins σ Q) X.xe s:=by
 have r2:bD (vs++dvs) (us++ds):=r.append hd;have hl:(us++ds).length=ps.length:=by rw [<- r2.length]; exact F.len _ _ _ _ h
 refine wpAny_call (codeAny_mono (F.run X.A X.stack s H ⟨us,[]⟩ (us++ds) (vs++dvs) Q E hr I.MD (hb s us I.kIn hl) r2 h) λ r s' hq=>?_)
 cases r with
 | error e=>exact hx pins σ H s e s' I hq
 | ok fl =>
  cases fl with
  | ret u=>exact I.after hq
  | next=>exact False.elim hq
  | brk=>exact False.elim hq
  | cont=>exact False.elim hq
def p8 (F:jf X.prog X.w X.K X.mg X.base CX k f fd ps sp) (hr:dW k X.A) (hg:Gl X x) (hm:X.mg x=some (.ref f)) (hk:W.keepIn X.K (.ref f)=true) (hb:Binds X.K fd ps ds) (hd:bD dvs ds) (hx:mK CX X E)
  (ha:PA X (e::es) t) (hdb:(x == ("__debug__":Str))=false:=by decide) (he:starEach (e::es) X.env=(false,eval e X.env)::starEach es X.env:=by rfl) (hpl:(backTo pos (starEach es X.env)).any (·.1)=false:=by rfl) :
  PE X (.Call (.Name x p) (e::es) [] pos) (Bt sp dvs E t):=by
 intro pins s σ H Q I h;refine Yu (qp I hg hm ?_ hdb);refine PySem.W.callWith_K (h₀:=X.base) I.ok.mod.kin hk (thn (ha pos pins s σ H _ I h) λ us s1 ⟨vs,H1,I1,r,q⟩=>⟨I1.kIn,?_⟩) he hpl;exact AE F hr hb hd hx I1 r q
def p7 (he:PE X o ta) (c:Cls X.K C) (hm:Ef X.K C m f) (F:jf X.prog X.w X.K X.mg X.base CX k f fd ps sp) (hr:dW k X.A) (hb:Binds X.K fd ps ds) (hd:bD dvs ds) (hx:mK CX X E) (ha:PA X (e::es) t)
  (hst:starEach (e::es) X.env=(false,eval e X.env)::starEach es X.env:=by rfl) (hpl:(backTo pos (starEach es X.env)).any (·.1)=false:=by rfl)
  (ht:eval (.Call (.Attribute o m apos) (e::es) [] pos) X.env=(do
    let ov <- eval o X.env
    standAt apos.atName
    let (f,first) <- holding [ov] (getMethod ov m pl)
    callWith pos f first (backTo pos (starEach (e::es) X.env)) (backToKw pos (keywordEach [] X.env))):=by rfl) :
  PE X (.Call (.Attribute o m apos) (e::es) [] pos) (Bp C m sp dvs E ta t):=by
 intro pins s σ H Q I h;refine PySem.W.methodCall_KW (pl:=pl) (thn (he pins s σ H _ I h) λ u s1 ⟨x,H1,I1,rx,a,dx,fs,ex,ea,l,q⟩=>?_) ht;subst ex;obtain rfl:u=Value.ref a:=rx;refine t9 I1 ea c hm l ?_
 refine PySem.W.callWith_K (first:=[.ref a]) (h₀:=X.base) I.ok.mod.kin hm.kp (thn (ha pos pins s1 σ H1 _ I1 q) λ us s2 ⟨vs,H2,I2,r,q2⟩=>⟨I2.kIn,?_⟩) hst hpl;exact AE (us:=.ref a::us) (vs:=.ref a::vs) F hr hb hd hx I2 (.cons rfl r) q2
structure Mk (K:W.Frag) (C f:Addr):Prop where
 makes:PySem.W.makesIn K C=true
 init:W.findIn K (.ref C) "__init__"=some (some (.ref f))
 fn:PySem.W.isFn K (.ref f)=true
 kp:W.keepIn K (.ref C)=true
def yF (M:Mk X.K C f) (F:jf X.prog X.w X.K X.mg X.base CX k f fd ps sp) (hr:dW (k+1) X.A) (hb:Binds X.K fd ps ds) (hd:bD dvs ds)
  (hx:mK CX X E) (I:Inv X pins σ H s) (r:bD vs us)
  (h:∀ x dx,H x=none->H dx=none->dx≠x->sp (.ref x::(vs++dvs)) (upd (upd H dx (.own x)) x (.ins C dx [])) (λ v H2=>v=.non/\Q (.ref x) H2) E) :
  wpAny (model X.prog X.w) X.A (call (.ref C) us) (EP X pins σ Q) X.xe s:=by
 have hq:=h (s.heap.objs.size+1) s.heap.objs.size (I.hok.fresh (Nat.le_succ _)) (I.hok.fresh (Zs _)) (Zx (Yv _));have I2:=Inv.made (C:=C) I;have r2:bD (V.ref (s.heap.objs.size+1)::(vs++dvs)) (Value.ref (s.heap.objs.size+1)::(us++ds)):=.cons rfl (r.append hd)
 have hl:(Value.ref (s.heap.objs.size+1)::us++ds).length=ps.length:=by
  have e:=r2.length;rw [F.len _ _ _ _ hq] at e;exact e.symm
 refine wpAny_call (zK (f:=f) I.kIn M.makes M.init (beq_iff_eq.mp M.fn) (codeAny_mono (F.run _ X.stack _ _ ⟨Value.ref (s.heap.objs.size+1)::us,[]⟩ (Value.ref (s.heap.objs.size+1)::(us++ds)) _ _ E (hr.make C us [])
  (I2.MD.make C us []) (hb _ (Value.ref (s.heap.objs.size+1)::us) I2.kIn hl) r2 hq) λ r s' hq'=>?_))
 cases r with
 | error e=>exact hx pins σ _ _ e s' I2 hq'
 | ok fl =>
  cases fl with
  | ret u =>
   obtain ⟨v,H',I3,rv,ev,q3⟩:=I2.after hq';subst ev;exact ⟨rv,⟨V.ref (s.heap.objs.size+1),H',I3,rfl,q3⟩⟩
  | next=>exact False.elim hq'
  | brk=>exact False.elim hq'
  | cont=>exact False.elim hq'
def Cz (M:Mk X.K C f) (F:jf X.prog X.w X.K X.mg X.base CX k f fd ps sp) (hr:dW (k+1) X.A) (hg:Gl X x) (hm:X.mg x=some (.ref C)) (hb:Binds X.K fd ps ds) (hd:bD dvs ds) (hx:mK CX X E)
  (ha:PA X (e::es) t) (hdb:(x == ("__debug__":Str))=false:=by decide) (he:starEach (e::es) X.env=(false,eval e X.env)::starEach es X.env:=by rfl) (hpl:(backTo pos (starEach es X.env)).any (·.1)=false:=by rfl) :
  PE X (.Call (.Name x p) (e::es) [] pos) (II C sp dvs E t):=by
 intro pins s σ H Q I h;refine Yu (qp I hg hm ?_ hdb);refine PySem.W.callWith_K (h₀:=X.base) I.ok.mod.kin M.kp (thn (ha pos pins s σ H _ I h) λ us s1 ⟨vs,H1,I1,r,q⟩=>⟨I1.kIn,?_⟩) he hpl;exact yF M F hr hb hd hx I1 r q
end
structure dO (N P:List Str) (sc:Scope):Prop where
 kind:sc.kind=.function
 co:sc.isCoroutine=false
 gen:sc.isGenerator=false
 nd:N.Nodup
 pre:N.take P.length=P
 par:∀ x ∈ P,sc.names.lookup x=some .local\/sc.names.lookup x=some .cell
 F7:∀ y ∈ sc.names,y.2≠.free
def pF {kindOf:Str->Option NameKind} {x:Str}:∀ {binds:List (Str×Value)} {m:Str->Option Value},(∀ v,(x,v) ∉ binds)->bindL kindOf binds m x=m x
 | [],_,_=>rfl
 | (n,v)::r,m,h=>by
  unfold bindL;rw [pF λ w hw=>h w (Zc _ hw)];split
  ·have:x≠n:=by rintro rfl; exact h v Zd
   simp [this]
  · rfl
def pH {kindOf:Str->Option NameKind} {x:Str}:∀ {binds:List (Str×Value)} {m:Str->Option Value},(∀ v,(x,v) ∉ binds)->bindC kindOf binds m x=m x
 | [],_,_=>rfl
 | (n,v)::r,m,h=>by
  unfold bindC;rw [pH λ w hw=>h w (Zc _ hw)];split
  · rfl
  ·have:x≠n:=by rintro rfl; exact h v Zd
   simp [this]
def pG {kindOf:Str->Option NameKind} {x:Str} {v:Value}:∀ {P:List Str} {vs:List Value} {i:Nat} {m:Str->Option Value},P.Nodup->P[i]?=some x->vs[i]?=some v->kindOf x=some .local ->
  bindL kindOf (P.zip vs) m x=some v
 | [],_,_,_,_,h,_,_=>by simp at h
 | _::_,[],_,_,_,_,h,_=>by simp at h
 | p::P,w::vs,0,m,nd,h1,h2,hk=>by
  simp at h1 h2; subst h1; subst h2
  show bindL kindOf ((p,w)::P.zip vs) m p=_;unfold bindL;rw [pF λ v hv=>(Zy.mp nd).1 (List.of_mem_zip hv).1,if_pos hk];simp
 | p::P,w::vs,i+1,m,nd,h1,h2,hk=>by
  show bindL kindOf ((p,w)::P.zip vs) m x=_;unfold bindL;exact pG (i:=i) (Zy.mp nd).2 (by simpa using h1) (by simpa using h2) hk
def pI {kindOf:Str->Option NameKind} {x:Str} {v:Value}:∀ {P:List Str} {vs:List Value} {i:Nat} {m:Str->Option Value},P.Nodup->P[i]?=some x->vs[i]?=some v->kindOf x≠some .local ->
  bindC kindOf (P.zip vs) m x=some v
 | [],_,_,_,_,h,_,_=>by simp at h
 | _::_,[],_,_,_,_,h,_=>by simp at h
 | p::P,w::vs,0,m,nd,h1,h2,hk=>by
  simp at h1 h2; subst h1; subst h2
  show bindC kindOf ((p,w)::P.zip vs) m p=_;unfold bindC;rw [pH λ v hv=>(Zy.mp nd).1 (List.of_mem_zip hv).1,if_neg hk];simp
 | p::P,w::vs,i+1,m,nd,h1,h2,hk=>by
  show bindC kindOf ((p,w)::P.zip vs) m x=_;unfold bindC;exact pI (i:=i) (Zy.mp nd).2 (by simpa using h1) (by simpa using h2) hk
def start (N:List Str) (vs:List V):St:=vs.map some++List.replicate (N.length - vs.length) none
def Ac (CX:CXT) (P:Program) (w:World) (K:W.Frag) (mg:Str->Option Value) (base:Heap) (N:List Str) (qual:Str) (scope:Scope) (f:Addr) (cd:Value) (A:Around) (outer:List Env) (s:Shared) (H:Hp) (E:XK):Cx where
 prog:=P
 w:=w
 K:=K
 mg:=mg
 base:=base
 A:=A.deeper (envOfC qual scope s.heap.objs.size f cd)
 N:=N
 s₀:=s
 H₀:=H
 env:=envOfC qual scope s.heap.objs.size f cd
 outer:=outer
 stack:=envOfC qual scope s.heap.objs.size f cd::outer
 ex:=[]
 calm:=true
 fn:=λ _=>true
 pn:=[]
 xe:=λ e s'=>wpAny (model P w) (A.deeper (envOfC qual scope s.heap.objs.size f cd)) (leaving (envOfC qual scope s.heap.objs.size f cd) e) (λ _ s''=>CX outer H s E e s'') (λ e' s''=>CX outer H s E e' s'') s'
def sP {sc:Scope} {n:Nat} {x:Str} (h:sc.names.lookup x=some .cell):∃ c,(cellsFrom n sc.names []).lookup x=some c:=by
 have q:=PySem.W.cellsFrom_some sc.names n [] (.inl h);exact Y2.mp q
def xh {CX:CXT} {P:Program} {w:World} {K:W.Frag} {mg:Str->Option Value} {base:Heap} {N ps:List Str} {qual:Str} {scope:Scope} {f:Addr} {cd:Value} {A:Around} {outer:List Env} {s s1:Shared} {H:Hp} {E:XK} {us:List Value} {vs:List V}
  (S:dO N ps scope) (hd:A.handled=none) (e0:Eh P w K mg base A outer s H) (hl:vs.length=ps.length) (r:bD vs us)
  (x:InCallC s s.heap.objs.size (bindL (envOfC qual scope s.heap.objs.size f cd).kindOf (ps.zip us) λ _=>none) (cellsFrom (s.heap.objs.size+1) scope.names []) (bindC (envOfC qual scope s.heap.objs.size f cd).kindOf (ps.zip us) λ _=>none) s1) :
  Inv (Ac CX P w K mg base N qual scope f cd A outer s H E) [] (start N vs) H s1:=by
 have hpl:ps.length<=N.length:=by have:=Yh List.length S.pre; rw [Yw] at this; omega
 obtain ⟨h1,tk,rfl,hk⟩:=x.done;have noA:∀ b:Addr,b ∉ (Ac CX P w K mg base N qual scope f cd A outer s H E).ex:=λ b z=>absurd (show b ∈ ([]:List Addr) from z) (by simp)
 refine ⟨⟨e0.mod,S.kind,rfl,rfl,Zs _,λ y z c h1 h2=>?_,λ y hy=>?_,λ y c _ h=>?_,λ _=>hd,Around.frames_deeper e0.frames,.inr ⟨rfl,rfl⟩,λ b z=>absurd z (noA b),e0.bs,e0.bsz,λ b _ _=>noA b,λ b z=>absurd z (noA b),e0.uF,e0.frf⟩,
  rfl,e0.bare,Un.kept hk,⟨_,x.toInCall.ns,λ i y v h1 h2 h3=>?_⟩,λ y c h=>⟨_,x.cell y c h⟩,e0.hok.fresh (Zs _),λ y c h=>?_,λ p hp=>absurd (show p ∈ ([]:List (Addr×Obj)) from hp) (by simp),e0.hok.kept hk,?_⟩
 · exact name_of_addr x.apart (Yk h1) (Yk h2)
 ·have hy:scope.names.lookup y=some .cell\/scope.names.lookup y=some .free:=hy
  rcases hy with hy | hy
  · exact sP hy
  · exact absurd rfl (S.F7 _ (Yk hy))
 · exact Yn (x.above y c (Yk h))
 ·have hi:i < vs.length:=by
   unfold start at h2
   by_cases hi:i < vs.length
   · exact hi
   ·rw [List.getElem?_append_right (by simpa using hi)] at h2
    rw [List.getElem?_replicate] at h2;split at h2 <;> cases h2
  have ha:vs[i]?=some v:=by
   unfold start at h2;rw [List.getElem?_append_left (by simpa using hi),List.getElem?_map] at h2
   cases e:vs[i]? with
   | none=>rw [e] at h2; cases h2
   | some a=>rw [e] at h2; cases h2; rfl
  obtain ⟨u,hu,rv⟩:=r.get ha
  have hp:ps[i]?=some y:=by
   rw [<- S.pre,List.getElem?_take_of_lt (by omega)]; exact h1
  have ndP:ps.Nodup:=by rw [<- S.pre]; exact S.nd.sublist (List.take_sublist _ _)
  refine ⟨u,rv,?_⟩;rcases S.par y (List.mem_of_getElem? hp) with k | k
  · exact .inl ⟨k,pG ndP hp hu k⟩
  ·obtain ⟨c,e⟩:=sP (n:=s.heap.objs.size+1) k
   refine .inr ⟨.inl k,c,e,?_⟩;have q:=x.cell y c e;rw [pI ndP hp hu (by show scope.names.lookup y≠_; rw [k]; decide)] at q;exact q
 · exact e0.hok.fresh (Yn (x.above y c (Yk h)))
 ·unfold start
  show _=N.length;rw [Z5,Za,List.length_replicate];omega
def Lk {CX:CXT} {P:Program} {w:World} {K:W.Frag} {mg:Str->Option Value} {base:Heap} {k:Nat} {f:Addr} {name qual:Str} {params:Arguments} {body:List Stmt} {scope:Scope} {dV kV doc pm cdv ct oc:Value} {an od:Option Addr}
  {osl:Array (Option Value)} {N ps:List Str} {sp:Sp} (lk:K.lookup f=some ⟨oc,od,.func (PySem.W.fnOf name qual params body scope dV kV doc pm an cdv ct),osl⟩) (hcd:PySem.W.codeIn K cdv qual=true) (S:dO N ps scope)
  (len:∀ vs H Q E,sp vs H Q E->vs.length=ps.length)
  (hbody:∀ (A:Around) (outer:List Env) (s:Shared) (H:Hp) (vs:List V) (Q:VK) (E:XK),dW k (A.deeper (envOfC qual scope s.heap.objs.size f cdv))->sp vs H Q E ->
    ∃ t,PSs (Ac CX P w K mg base N qual scope f cdv A outer s H E) body t/\t { nx:=λ _ H'=>Q .non H',rt:=Q } (start N vs) H) :
  jf P w K mg base CX (k+1) f (PySem.W.fnOf name qual params body scope dV kV doc pm an cdv ct) ps sp:=by
 refine ⟨len,λ A outer s H args us vs Q E hr e0 hb r hsp=>?_⟩;have hl:=len _ _ _ _ hsp;have KX:K.In s.heap:=e0.mod.kin.keeps λ b o e=>(e0.bs b o e).1
 have lim:s.heap.NoLimit:=e0.mod.nolimit.keeps λ b o e=>(e0.bs b o e).1
 have hkind:∀ y ∈ ps.zip us,scope.names.lookup y.1=some .local\/(scope.names.lookup y.1=some .cell/\((cellsFrom (s.heap.objs.size+1) scope.names []).lookup y.1).isSome=true):=λ ⟨n,v⟩ hy=>by
  rcases S.par n (List.of_mem_zip hy).1 with q | q
  · exact .inl q
  · exact .inr ⟨q,PySem.W.cellsFrom_some _ _ _ (.inl q)⟩
 refine codeAny_call_function hr.depth (KX _ _ lk) rfl S.co S.gen rfl (PySem.W.codeRec_of KX hcd) (hb _ _ _ _ ?_);refine wpAny_newFunctionEnv_cells S.kind hkind λ env he s1 x=>?_
 subst he;refine ⟨lim.keeps x.toInCall.keep,codeAny_func ?_⟩;obtain ⟨t,ht,hq⟩:=hbody A outer s H vs Q E (hr.deeper _) hsp;have I:Inv (Ac CX P w K mg base N qual scope f cdv A outer s H E) [] (start N vs) H s1:=xh S hr.hd e0 hl r x;refine Ym (ht [] s1 (start N vs) H _ I hq) (λ fl s' hs=>?_) λ e s' hs=>hs
 have fin:∀ {σ':St} {H':Hp} {v:V} {u:Value},Inv (Ac CX P w K mg base N qual scope f cdv A outer s H E) [] σ' H' s'->RelV v u->Q v H'->CE outer P w H s Q u s' :=
  λ {σ' H' v u} J rv q=>⟨v,H',J.os,J.bare,J.base,J.hok,rv,q⟩
 cases fl with
 | ret u =>
  obtain ⟨v,σ',H',J,rv,q⟩:=hs;exact fin J rv q
 | next =>
  obtain ⟨σ',H',J,q⟩:=hs;exact fin (v:=V.non) (u:=Value.none) J rfl q
 | brk =>
  obtain ⟨_,_,_,q⟩:=hs;exact False.elim q
 | cont =>
  obtain ⟨_,_,_,q⟩:=hs;exact False.elim q
end L2
namespace L2
open PySem PySem.Spec PyProof.Rows
section
variable {X:Cx} {x:Str} {p pos:Pos} {e:Expr} {es:List Expr} {t:TA} {id T:String} {r:List V->Hp->VK->Prop}
def tCB (r:List V->Hp->VK->Prop) (t:TA):TE:=λ σ H Q=>t σ H λ vs H1=>r vs H1 Q
def mY (hc:c8 X (.builtin id) r) (hg:Gl X x) (hm:X.mg x=none) (hv:bootBuiltins x=some (.builtin id)) (ha:PA X (e::es) t) (hn:x≠"__name__":=by decide) (hdb:(x == ("__debug__":Str))=false:=by decide)
  (he:starEach (e::es) X.env=(false,eval e X.env)::starEach es X.env:=by rfl) (hpl:(backTo pos (starEach es X.env)).any (·.1)=false:=by rfl):PE X (.Call (.Name x p) (e::es) [] pos) (tCB r t):=by
 intro pins s σ H Q I h;refine Yu (iV I hg hm hv ?_ hn hdb);exact PyProof.Rows.callWith_builtin1 (thn (ha pos pins s σ H _ I h) λ us s1 ⟨vs,H1,I1,r1,q1⟩=>hc pins s1 σ H1 vs us Q I1 r1 q1) he hpl
def kL (hc:c8 X (.type T) r) (hg:Gl X x) (hm:X.mg x=none) (hv:bootBuiltins x=some (.type T)) (ha:PA X (e::es) t) (hn:x≠"__name__":=by decide) (hdb:(x == ("__debug__":Str))=false:=by decide)
  (he:starEach (e::es) X.env=(false,eval e X.env)::starEach es X.env:=by rfl) (hpl:(backTo pos (starEach es X.env)).any (·.1)=false:=by rfl):PE X (.Call (.Name x p) (e::es) [] pos) (tCB r t):=by
 intro pins s σ H Q I h;refine Yu (iV I hg hm hv ?_ hn hdb);exact Yg (thn (ha pos pins s σ H _ I h) λ us s1 ⟨vs,H1,I1,r1,q1⟩=>hc pins s1 σ H1 vs us Q I1 r1 q1) he hpl
end
end L2
namespace HT
open PySem PyProof.Rows
section
variable {prog:Program} {w:World} {A:Around} {E:Value->Shared->Prop} {s:Shared}
def sIx (n d:Nat):Option Int->Nat
 | none=>d
 | some v=>if v < 0 then (v+(n:Int)).toNat else min v.toNat n
def vi (n d k:Nat):sIx n d (some (k:Int))=min k n:=by
 show (if (k:Int) < 0 then ((k:Int)+(n:Int)).toNat else min (k:Int).toNat n)=min k n;rw [if_neg (by omega),Int.toNat_natCast]
end
end HT
namespace L2
open PySem PySem.Spec PyProof.Rows
abbrev TO:=St->Hp->(Option Int->Hp->Prop)->Prop
def PO (X:Cx) (e:Option Expr) (t:TO):Prop :=
  ∀ (pins:List (Addr×Obj)) (s:Shared) (σ:St) (H:Hp) (Q:Option Int->Hp->Prop),Inv X pins σ H s->t σ H Q ->
    wpAny (model X.prog X.w) X.A (evalPart e X.env) (λ u s'=>∃ o H',Inv X pins σ H' s'/\IsPart u o/\Q o H') X.xe s
def Bo:TO:=λ _ H Q=>Q none H
def IF (t:TE):TO:=λ σ H Q=>t σ H λ x H1=>∃ i,x=.int i/\Q (some i) H1
section
variable {X:Cx} {e:Expr} {te:TE} {lo hi:Option Expr} {tl th:TO} {pos p2:Pos}
def Cj:PO X none Bo:=by
 intro pins s σ H Q I h;rw [evalPart_none];exact Zz ⟨none,H,I,.none,h⟩
def Ci (h:PE X e te):PO X (some e) (IF te):=by
 intro pins s σ H Q I hw;rw [evalPart_some];refine thn (h pins s σ H _ I hw) λ u s1 ⟨x,H1,I1,r1,q1⟩=>?_
 obtain ⟨i,rfl,q⟩:=q1;obtain ⟨t,rfl⟩:=r1;exact ⟨some i,H1,I1,.int i t,q⟩
def SlR (X:Cx) (r:V->Option Int->Option Int->Hp->VK->Prop):Prop :=
  ∀ (pins:List (Addr×Obj)) (s:Shared) (σ:St) (H:Hp) (x:V) (v vl vu:Value) (lo hi:Option Int) (sl:Addr) (Q:VK),Inv X pins σ H s->RelV x v->s.heap.IsSliceOf sl vl vu .none->IsPart vl lo->IsPart vu hi->r x lo hi H Q ->
    ∃ T id,typeLookup (.type T) "__getitem__"=pure (some (.builtin id))/\s.TypeIs v T/\wpAny (model X.prog X.w) X.A (getItem v (.ref sl)) (EP X pins σ Q) X.xe s
def tSl (r:V->Option Int->Option Int->Hp->VK->Prop) (te:TE) (tl th:TO):TE:=λ σ H Q=>te σ H λ x H1=>tl σ H1 λ l H2=>th σ H2 λ u H3=>r x l u H3 Q
def rB (hr:SlR X r) (he:PE X e te) (hl:PO X lo tl) (hu:PO X hi th):PE X (.Subscript e (.Slice lo hi none p2) pos) (tSl r te tl th):=by
 intro pins s σ H Q I h;refine Subscript_ (thn (he pins s σ H _ I h) λ v s1 ⟨x,H1,I1,r1,q1⟩=>?_);refine wpAny_Slice (thn (hl pins s1 σ H1 _ I1 q1) λ vl s2 ⟨l,H2,I2,pl,q2⟩=>thn (hu pins s2 σ H2 _ I2 q2) λ vu s3 ⟨u,H3,I3,pu,q3⟩=>?_);rw [evalPart_none];refine Zz ?_
 have I4:Inv X pins σ H3 { s3 with heap:=s3.heap.push { cls:=.type "slice",data:=.fields #[vl,vu,.none] } }:=I3.kept (t':=s3.toks) λ b ob q=>Heap.get?_push_of_some _ q
 obtain ⟨T,id,hT,ht,hg⟩:=hr pins { s3 with heap:=s3.heap.push { cls:=.type "slice",data:=.fields #[vl,vu,.none] } } σ H3 x v vl vu l u s3.heap.objs.size Q I4 r1 (Heap.IsSliceOf.new ..) pl pu q3;show wpAny (model X.prog X.w) X.A (subscriptTail e (.Slice lo hi none p2) v (.ref s3.heap.objs.size)) (EP X pins σ Q) X.xe { s3 with heap:=s3.heap.push { cls:=.type "slice",data:=.fields #[vl,vu,.none] } };exact tail_any (ops:=[.ref s3.heap.objs.size,v]) ht hT hg (by with_unfolding_all rfl)
def Ep (xs:List V) (lo hi:Option Int):List V:=(xs.drop (HT.sIx xs.length 0 lo)).take (HT.sIx xs.length xs.length hi - HT.sIx xs.length 0 lo)
def qH (xs:List V) (lo hi:Option Int):(Ep xs lo hi).length<=xs.length:=by
 unfold Ep;rw [Yw,Y6];omega
end
end L2
namespace L2
open PySem PySem.Spec PyProof.Rows
def ixN (n:Nat) (i:Int):Option Nat:=if 0<=i then (if i < n then some i.toNat else none) else if -(n:Int)<=i then some (i+n).toNat else none
def atI {α:Type} (xs:List α) (i:Int):Option α:=(ixN xs.length i).bind λ j=>xs[j]?
def xa (h:ixN n i=some j):seqIndex? i n=some j/\j < n/\-(n:Int)<=i/\i < n:=by
 unfold ixN at h
 by_cases h0:0<=i
 ·rw [if_pos h0] at h
  by_cases h1:i < n
  ·rw [if_pos h1] at h
   have e:i.toNat=j:=Zj h;exact ⟨by rw [seqIndex_of h0 h1,e],by omega,by omega,h1⟩
  · rw [if_neg h1] at h; cases h
 ·rw [if_neg h0] at h
  by_cases h1:-(n:Int)<=i
  ·rw [if_pos h1] at h
   have e:(i+n).toNat=j:=Zj h;exact ⟨by rw [seqIndex_neg (by omega) h1,e],by omega,h1,by omega⟩
  · rw [if_neg h1] at h; cases h
def qS {α:Type} {xs:List α} {v:α} (h:atI xs i=some v):∃ j,seqIndex? i xs.length=some j/\xs[j]?=some v/\j < xs.length/\-(xs.length:Int)<=i/\i < xs.length:=by
 unfold atI at h
 cases e:ixN xs.length i with
 | none=>rw [e] at h; cases h
 | some j =>
  rw [e] at h;obtain ⟨h1,h2,h3,h4⟩:=xa e;exact ⟨j,h1,h,h2,h3,h4⟩
def Ec {α:Type} {xs:List α} {j:Nat} {v:α} (h:xs[j]?=some v):atI xs (j:Int)=some v:=by
 have hj:j < xs.length:=(List.getElem?_eq_some_iff.mp h).1
 have e:ixN xs.length (j:Int)=some j:=by
  unfold ixN;rw [if_pos (by omega),if_pos (by omega)]; simp
 unfold atI; rw [e]; exact h
def An {α:Type} (xs:List α) (v:α):atI (xs++[v]) (-1)=some v:=by
 have hl:(xs++[v]).length=xs.length+1:=by simp
 have e:ixN (xs++[v]).length (-1)=some xs.length:=by
  unfold ixN;rw [hl,if_neg (by decide),if_pos (by omega)];congr 1;omega
 unfold atI;rw [e];show (xs++[v])[xs.length]?=some v;simp
def lQ (b:Expr):Prop:=∀ o i,subscripted b false o i=operate [o,i] (getItem o i)
def IxR (X:Cx) (r:R2):Prop :=
  ∀ (value slice:Expr) (pins:List (Addr×Obj)) (s:Shared) (σ:St) (H:Hp) (x y:V) (v u:Value) (Q:VK),Inv X pins σ H s->RelV x v->RelV y u->r x y H Q ->
    subscripted slice false v u=operate [v,u] (getItem v u)->wpAny (model X.prog X.w) X.A (subscriptTail value slice v u) (EP X pins σ Q) X.xe s
def MtR (X:Cx) (id:String) (r:V->List V->Hp->VK->Prop):Prop :=
  ∀ (pins:List (Addr×Obj)) (s:Shared) (σ:St) (H:Hp) (x:V) (xs:List V) (v:Value) (us:List Value) (Q:VK),Inv X pins σ H s->RelV x v->bD xs us->r x xs H Q ->
    wpAny (model X.prog X.w) X.A (call (.builtin id) (v::us)) (EP X pins σ Q) X.xe s
section
variable {X:Cx} {a b:Expr} {ta tb:TE} {pos:Pos}
def IxR.or (h:IxR X r) (h':IxR X r'):IxR X (λ x y H Q=>r x y H Q\/r' x y H Q):=by
 intro value slice pins s σ H x y v u Q I rx ry q hs;rcases q with q | q
 · exact h value slice pins s σ H x y v u Q I rx ry q hs
 · exact h' value slice pins s σ H x y v u Q I rx ry q hs
def Fz (hr:IxR X r) (ha:PE X a ta) (hb:PE X b tb) (hs:lQ b):PE X (.Subscript a b pos) (tOp r ta tb):=by
 intro pins s σ H Q I h;exact Subscript_ (LB ha hb I h λ v u s2 x y H2 I2 rx ry q=>hr a b pins s2 σ H2 x y v u Q I2 rx ry q (hs _ _))
def Ni (K:W.Frag):R2:=λ x y H Q=>∃ p xs i v,x=.ref p/\y=.int i/\SqL K H p xs/\atI xs i=some v/\Q v H
def Ng (K:W.Frag):R2:=λ x y H Q=>∃ p xs i v,x=.ref p/\y=.int i/\SqT K H p xs/\atI xs i=some v/\Q v H
def Nh:R2:=λ x y H Q=>∃ z i c,x=.str z/\y=.int i/\z.length<=sizeLine/\atI z.cps.toList i=some c/\Q (.str ⟨#[c]⟩) H
def w9:IxR X (Ni X.K):=by
 intro value slice pins s σ H x y v u Q I rx ry h hs;obtain ⟨p,xs,i,z,rfl,rfl,hq,he,q⟩:=h;cases rx;obtain ⟨t,rfl⟩:=ry;obtain ⟨its,r,pl,hz⟩:=I.list hq;obtain ⟨j,h1,h2,h3,h4,h5⟩:=qS he;obtain ⟨w,ew,rw'⟩:=r.get h2;have hl:=r.length;have hn:=mj;have fin:EP X pins σ Q w s:=⟨z,H,I,rw',q⟩
 by_cases h0:0<=i
 ·have hj:i.toNat=j:=by
   rw [seqIndex_of h0 h5] at h1;exact Zj h1
  exact item_listR pl.isList h0 (by omega) (by rw [hj]; simpa using ew) fin hs
 ·have hj:(i+(its.toArray.size:Int)).toNat=j:=by
   rw [seqIndex_neg (by omega) h4] at h1;rw [Zq,<- hl];exact Zj h1
  exact subscriptTail_builtinR (x:=w) pl.isList.typeIs slot_list_getitem.lookup
   (wpAny_getItem_list_neg (Q:=λ r s'=>r=w/\EP X pins σ Q r s') pl.isList (by omega) (by rw [Zq] <;> omega) (by omega) (by rw [hj]; simpa using ew) ⟨rfl,fin⟩) hs
def Gx:IxR X (Ng X.K):=by
 intro value slice pins s σ H x y v u Q I rx ry h hs;obtain ⟨p,xs,i,z,rfl,rfl,hq,he,q⟩:=h;cases rx;obtain ⟨t,rfl⟩:=ry;obtain ⟨its,r,pl,hz⟩:=I.tuple hq;obtain ⟨j,h1,h2,h3,h4,h5⟩:=qS he;obtain ⟨w,ew,rw'⟩:=r.get h2;have hl:=r.length;have hn:=mj;have fin:EP X pins σ Q w s:=⟨z,H,I,rw',q⟩
 exact subscriptTail_builtinR (x:=w) pl.typeIs slot_tuple_getitem.lookup
  (getItem_tuple (j:=j) (Q:=λ r s'=>r=w/\EP X pins σ Q r s') pl (by omega) (by omega) (by rw [Zq,<- hl]; exact h1) (by simpa using ew) ⟨rfl,fin⟩) hs
def Gy:IxR X Nh:=by
 intro value slice pins s σ H x y v u Q I rx ry h hs;obtain ⟨z,i,c,rfl,rfl,hz,he,q⟩:=h;obtain ⟨t,rfl⟩:=rx;obtain ⟨t',rfl⟩:=ry;obtain ⟨j,h1,h2,h3,h4,h5⟩:=qS he;have hl:z.cps.toList.length=z.length:=by simp [Str.length]
 rw [hl] at h1 h4 h5;have hn:=mj
 exact tail_any (typeIs_str s z t) slot_str_getitem.lookup (getItem_str (c:=c) (by
  have e1:decide (i < -(2 ^ 63:Int))=false:=Zk (by omega);have e2:decide (i ≥ 2 ^ 63)=false:=Zk (by omega)
  rw [e1,e2,Bool.or_false]) (by rw [h1]; simpa using h2) ⟨.str ⟨#[c]⟩,H,I.tok _,⟨_,rfl⟩,q⟩) hs
def tU (its:List Value) (n j:Nat) (u:Value):Obj.mapSeq (·.setIfInBounds j u) { cls:=.type "list",data:=.seq its.toArray n }={ cls:=.type "list",data:=.seq (its.set j u).toArray n }:=by
 simp [Obj.mapSeq]
def Inv.lst (I:Inv X pins σ H s) (h:H p=some (.lst xs)) :
  ∃ (its:List Value) (n:Nat),bD xs its/\s.heap.get? p=some { cls:=.type "list",data:=.seq its.toArray n }/\xs.length<=sizeLine:=by
 obtain ⟨z,its,n,r,e⟩:=I.hok p _ h;exact ⟨its,n,r,e,z⟩
def Inv.Gj {pins:List (Addr×Obj)} {σ:St} {H:Hp} {s:Shared} {p:Addr} {xs ys:List V} {its its':List Value} {n n':Nat} {f:Obj->Obj} (I:Inv X pins σ H s) (h:H p=some (.lst xs))
  (ho:s.heap.get? p=some { cls:=.type "list",data:=.seq its.toArray n }) (hf:f { cls:=.type "list",data:=.seq its.toArray n }={ cls:=.type "list",data:=.seq its'.toArray n' }) (r:bD ys its') (hz:ys.length<=sizeLine) (t:Nat) :
  Inv X pins σ (upd H p (.lst ys)) { s with heap:=s.heap.update p f,toks:=t }:=by
 have e:(s.heap.update p f).get? p=some { cls:=.type "list",data:=.seq its'.toArray n' }:=by
  rw [Heap.get?_update_self f ho (by rw [hf] <;> rfl),hf]
 refine I.write (x:=p) (e:=p) (by rw [h]; trivial) (.inl rfl) (λ b u hb q=>(Heap.get?_update_other _ _ (Ne.symm hb)).trans q) ⟨_,e⟩ ?_
 exact ⟨hz,its',n',r,e⟩
def I9:V->V->V->Hp->(Hp->Prop)->Prop:=λ o i v H Q=>∃ p xs k j,o=.ref p/\i=.int k/\H p=some (.lst xs)/\ixN xs.length k=some j/\Q (upd H p (.lst (xs.set j v)))
def set_list:MH X I9:=by
 intro pins s σ H o i v ov iv u Q I ro ri rv h;obtain ⟨p,xs,k,j,rfl,rfl,hp,hj,q⟩:=h;cases ro;obtain ⟨t,rfl⟩:=ri;obtain ⟨its,n,r,ho,hz⟩:=I.lst hp;obtain ⟨h1,h2,h3,h4⟩:=xa hj;have hl:=r.length;have hn:=mj
 have I':Inv X pins σ (upd H p (.lst (xs.set j v))) { s with heap:=s.heap.update p (Obj.mapSeq (·.setIfInBounds j u)) } :=
  I.Gj hp ho (tU its n j u) (r.set rv j) (by rw [List.length_set]; exact hz) s.toks
 by_cases h0:0<=k
 ·have hk:k.toNat=j:=by
   rw [seqIndex_of h0 h4] at h1;exact Zj h1
  exact PySem.W.ki_setAt ho h0 (by omega) (by rw [Zq,<- hl]; exact h4) (by rw [hk]; exact ⟨_,I',q⟩)
 ·have hk:(k+(its.toArray.size:Int)).toNat=j:=by
   rw [seqIndex_neg (by omega) h3] at h1;rw [Zq,<- hl];exact Zj h1
  exact PySem.W.ki_setBack ho (by omega) (by rw [Zq,<- hl]; exact h3) (by omega) (by rw [hk]; exact ⟨_,I',q⟩)
def nU (lo hi:Option Int) (n:Nat):(sliceBounds lo hi none n).1=((HT.sIx n 0 lo:Nat):Int)/\(sliceBounds lo hi none n).2.1=((HT.sIx n n hi:Nat):Int)/\(sliceBounds lo hi none n).2.2=1:=by
 refine ⟨?_,?_,rfl⟩
 ·cases lo with
  | none=>simp [sliceBounds,HT.sIx]
  | some i =>
   simp only [sliceBounds,HT.sIx,Option.getD_none,show (1:Int) > 0 by decide,if_true]
   by_cases h:i < 0
   · simp only [h,if_true] <;> omega
   · simp only [h,if_false] <;> omega
 ·cases hi with
  | none=>simp [sliceBounds,HT.sIx]
  | some i =>
   simp only [sliceBounds,HT.sIx,Option.getD_none,show (1:Int) > 0 by decide,if_true]
   by_cases h:i < 0
   · simp only [h,if_true] <;> omega
   · simp only [h,if_false] <;> omega
def mU (its:List Value) (lo hi:Option Int):slicePick its.toArray lo hi none=((its.drop (HT.sIx its.length 0 lo)).take (HT.sIx its.length its.length hi - HT.sIx its.length 0 lo)).toArray:=by
 obtain ⟨h1,h2,h3⟩:=nU lo hi its.toArray.size;unfold slicePick;rw [h1,h2,h3];simp only [sliceRange_one,pick_run,Zq] <;> rfl
def Na (K:W.Frag):V->Option Int->Option Int->Hp->VK->Prop:=λ x lo hi H Q=>∃ a xs,x=.ref a/\SqL K H a xs/\∀ p,H p=none->Q (.ref p) (upd H p (.lst (Ep xs lo hi)))
def Bw:SlR X (Na X.K):=by
 intro pins s σ H x v vl vu lo hi sl Q I rx hs pl pu h;obtain ⟨a,xs,rfl,hx,q⟩:=h;cases rx;obtain ⟨its,r,ht,hz⟩:=I.list hx;have hlen:=r.length;refine ⟨"list",_,slot_list_getitem.lookup,ht.isList.typeIs,?_⟩;refine wpAny_getItem_list_slice ht.isList hs pl pu .none (by simp) ?_ (by rw [Zq] <;> omega)
 rw [mU,<- hlen];refine ⟨.ref s.heap.objs.size,_,I.laid (t':=s.toks) (o:=.lst (Ep xs lo hi)) (λ b ob q=>Heap.get?_push_of_some _ q) (Zs _) ?_,rfl,q _ (I.hok.fresh (Zs _))⟩;exact ⟨Z2 (qH xs lo hi) hz,_,0,(r.drop (HT.sIx xs.length 0 lo)).take (HT.sIx xs.length xs.length hi - HT.sIx xs.length 0 lo),Heap.get?_push_size _ rfl⟩
def l4:V->Bool
 | .non=>true
 | .bl _=>true
 | .int _=>true
 | .str _=>true
 | _=>false
def eqV:V->V->Bool
 | .non,.non=>true
 | .bl a,.bl b=>a == b
 | .bl a,.int b=>(if a then 1 else 0) == b
 | .int a,.bl b=>a == (if b then 1 else 0)
 | .int a,.int b=>a == b
 | .str a,.str b=>a == b
 | _,_=>false
def G1 (ry:RelV y u) (rx:RelV x v) (fy:l4 y=true) (fx:l4 x=true):SeqAt.EqAt A s u v (eqV y x):=by
 cases y with
 | non =>
  cases ry
  cases x with
  | non=>cases rx; exact SeqAt.EqAt.same _
  | bl b=>cases rx; exact SeqAt.EqAt.none_bool b
  | int b=>obtain ⟨t,rfl⟩:=rx; exact SeqAt.EqAt.none_int b t
  | str b=>obtain ⟨t,rfl⟩:=rx; exact SeqAt.EqAt.none_str b t
  | _=>exact absurd (show false=true from fx) Zf
 | bl a =>
  cases ry
  cases x with
  | non=>cases rx; exact SeqAt.EqAt.bool_none a
  | bl b=>cases rx; exact SeqAt.EqAt.bool_bool a b
  | int b=>obtain ⟨t,rfl⟩:=rx; exact SeqAt.EqAt.bool_int a b t
  | str b=>obtain ⟨t,rfl⟩:=rx; exact SeqAt.EqAt.bool_str a b t
  | _=>exact absurd (show false=true from fx) Zf
 | int a =>
  obtain ⟨t',rfl⟩:=ry
  cases x with
  | non=>cases rx; exact SeqAt.EqAt.int_none a t'
  | bl b=>cases rx; exact SeqAt.EqAt.int_bool a t' b
  | int b=>obtain ⟨t,rfl⟩:=rx; exact SeqAt.EqAt.int_int a t' b t
  | str b=>obtain ⟨t,rfl⟩:=rx; exact SeqAt.EqAt.int_str a t' b t
  | _=>exact absurd (show false=true from fx) Zf
 | str a =>
  obtain ⟨t',rfl⟩:=ry
  cases x with
  | non=>cases rx; exact SeqAt.EqAt.str_none a t'
  | bl b=>cases rx; exact SeqAt.EqAt.str_bool a t' b
  | int b=>obtain ⟨t,rfl⟩:=rx; exact SeqAt.EqAt.str_int a t' b t
  | str b=>obtain ⟨t,rfl⟩:=rx; exact SeqAt.EqAt.str_str a t' b t
  | _=>exact absurd (show false=true from fx) Zf
 | _=>exact absurd (show false=true from fy) Zf
def eqU (x:V) (u:Value):Bool:=match u with
 | .none=>eqV .non x
 | .bool b=>eqV (.bl b) x
 | .int i _=>eqV (.int i) x
 | .str z _=>eqV (.str z) x
 | _=>false
def A7 (r:RelV y u) (f:l4 y=true):eqU x u=eqV y x:=by
 cases y with
 | non=>cases r; rfl
 | bl b=>cases r; rfl
 | int i=>obtain ⟨t,rfl⟩:=r; rfl
 | str z=>obtain ⟨t,rfl⟩:=r; rfl
 | _=>exact absurd (show false=true from f) Zf
def lP:∀ {xs:List V} {us:List Value},bD xs us->xs.all l4=true->us.any (eqU x)=xs.any λ y=>eqV y x
 | _,_,.nil,_=>rfl
 | y::xs,u::us,.cons r t,f=>by
  rw [List.all_cons,Z6] at f;rw [Xh,Xh,A7 r f.1,lP t f.2]
def iT (rx:RelV x v) (fx:l4 x=true):∀ {xs:List V} {us:List Value},bD xs us->xs.all l4=true->∀ u ∈ us,SeqAt.EqAt A s u v (eqU x u)
 | _,_,.nil,_=>λ u hu=>by cases hu
 | y::xs,u::us,.cons r t,f=>λ u' hu=>by
  rw [List.all_cons,Z6] at f;rcases Zl.mp hu with rfl | hu
  · rw [A7 r f.1]; exact G1 r rx f.1 fx
  · exact iT rx fx t f.2 u' hu
def inV (x:V) (xs:List V):Bool:=xs.any λ y=>eqV y x
def rIn (K:W.Frag) (neg:Bool):R2:=λ x y H Q=>∃ p xs,y=.ref p/\(SqL K H p xs\/SqT K H p xs)/\l4 x=true/\xs.all l4=true/\Q (.bl (if neg then !inV x xs else inV x xs)) H
def wt:OpR X (compareOp .In) (rIn X.K false):=by
 intro pins s σ H x y v u Q I rx ry h;obtain ⟨p,xs,rfl,hq,fx,fs,q⟩:=h;cases ry;rcases hq with hq | hq
 ·obtain ⟨its,r,pl,hz⟩:=I.list hq
  refine SeqAt.in_listAt (eqU x) pl.isList (λ w hw=>iT rx fx r fs w (by simpa using hw)) ⟨.bl _,H,I,rfl,?_⟩;rw [show its.toArray.any (eqU x)=its.any (eqU x) by simp,lP r fs];exact q
 ·obtain ⟨its,r,pl,hz⟩:=I.tuple hq
  refine SeqAt.in_tupleAt (eqU x) pl (λ w hw=>iT rx fx r fs w (by simpa using hw)) ⟨.bl _,H,I,rfl,?_⟩;rw [show its.toArray.any (eqU x)=its.any (eqU x) by simp,lP r fs];exact q
def nW:OpR X (compareOp .NotIn) (rIn X.K true):=by
 intro pins s σ H x y v u Q I rx ry h;obtain ⟨p,xs,rfl,hq,fx,fs,q⟩:=h;cases ry;rcases hq with hq | hq
 ·obtain ⟨its,r,pl,hz⟩:=I.list hq
  refine SeqAt.notIn_listAt (eqU x) pl.isList (λ w hw=>iT rx fx r fs w (by simpa using hw)) ⟨.bl _,H,I,rfl,?_⟩;rw [show its.toArray.any (eqU x)=its.any (eqU x) by simp,lP r fs];exact q
 ·obtain ⟨its,r,pl,hz⟩:=I.tuple hq
  refine SeqAt.notIn_tupleAt (eqU x) pl (λ w hw=>iT rx fx r fs w (by simpa using hw)) ⟨.bl _,H,I,rfl,?_⟩;rw [show its.toArray.any (eqU x)=its.any (eqU x) by simp,lP r fs];exact q
def pq:c8 X (.type "list") (λ xs H Q=>∃ p ys,xs=[.ref p]/\(SqL X.K H p ys\/SqT X.K H p ys)/\∀ l,H l=none->Q (.ref l) (upd H l (.lst ys))):=by
 intro pins s σ H xs us Q I r h;obtain ⟨p,ys,rfl,hq,q⟩:=h;obtain ⟨u,rfl,rx⟩:=vals1 r;cases rx
 have fin:∀ (its:List Value),bD ys its->ys.length<=sizeLine->∀ (h':Heap) (c':Nat),(∀ b o',s.heap.get? b=some o'->h'.get? b=some o') ->
   h'.get? s.heap.objs.size=some { cls:=.type "list",dict:=none,data:=.seq its.toArray c',slots:=#[] }->EP X pins σ Q (.ref s.heap.objs.size) { s with heap:=h' }:=λ its r' hz h' c' kp e =>
  ⟨.ref s.heap.objs.size,_,I.laid (t':=s.toks) kp (Zs _) (show cu X.prog X.w _ h' _ (.lst ys) from ⟨hz,its,c',r',e⟩),rfl,q _ (I.hok.fresh (Zs _))⟩
 rcases hq with hq | hq
 ·obtain ⟨its,r',pl,hz⟩:=I.list hq
  have hlen:=r'.length;obtain ⟨o,ho,hc,n,hd⟩:=pl.isList;exact call_list_seq p (.inl rfl) ho hc hd (λ h' c' kp e=>fin its r' hz h' c' kp e) (by simp only [Zq] <;> omega)
 ·obtain ⟨its,r',pl,hz⟩:=I.tuple hq
  have hlen:=r'.length;obtain ⟨o,ho,hc,n,hd⟩:=pl;exact call_list_seq p (.inr rfl) ho hc hd (λ h' c' kp e=>fin its r' hz h' c' kp e) (by simp only [Zq] <;> omega)
def nG:c8 X (.type "tuple") (λ xs H Q=>∃ p ys,xs=[.ref p]/\((SqL X.K H p ys/\∀ l,H l=none->Q (.ref l) (upd H l (.tup ys)))\/(SqT X.K H p ys/\Q (.ref p) H))):=by
 intro pins s σ H xs us Q I r h;obtain ⟨p,ys,rfl,h⟩:=h;obtain ⟨u,rfl,rx⟩:=vals1 r;cases rx;rcases h with ⟨hq,q⟩ | ⟨hq,q⟩
 ·obtain ⟨its,r',pl,hz⟩:=I.list hq
  have hlen:=r'.length;refine call_tuple_list pl.isList (λ h' kp=>?_) (by simp only [Zq] <;> omega);have I1:Inv X pins σ H { s with heap:=h' }:=I.kept (t':=s.toks) kp
  have I2:Inv X pins σ (upd H h'.objs.size (.tup ys)) { s with heap:=h'.push { cls:=.type "tuple",data:=.seq its.toArray } } :=
   I1.laid (t':=s.toks) (λ b o e=>Heap.get?_push_of_some _ e) (Zs _) (show cu X.prog X.w _ _ _ (.tup ys) from ⟨hz,its,r',IsTup.new _ _⟩)
  exact ⟨.ref h'.objs.size,_,I2,rfl,q _ (I1.hok.fresh (Zs _))⟩
 ·obtain ⟨its,r',pl,hz⟩:=I.tuple hq
  exact call_tuple_same pl ⟨.ref p,H,I,rfl,q⟩
def tyV (K:W.Frag) (T:String) (x:V) (H:Hp):Prop:=match x with
 | .str _=>T="str"
 | .int _=>T="int"
 | .ref p=>(T="list"/\∃ xs,SqL K H p xs)\/(T="tuple"/\∃ o,K.lookup p=some o/\o.cls=.type "tuple"/\o.dict=none) \/
  (T="dict"/\((∃ kvs,H p=some (.dK kvs))\/∃ kvs,H p=some (.dT kvs)))\/(T="set"/\∃ S n,H p=some (.set S n))
 | _=>False
def As (I:Inv X pins σ H s) (r:RelV x v) (ty:tyV X.K T x H) :
  s.TypeIs v T/\∀ a,v=.ref a->∃ ob,s.heap.get? a=some ob/\ob.dict=none:=by
 cases x with
 | str z =>
  obtain ⟨t,rfl⟩:=r;cases (show T="str" from ty);exact ⟨typeIs_str s z t,λ _ e=>nomatch e⟩
 | int i =>
  obtain ⟨t,rfl⟩:=r;cases (show T="int" from ty);exact ⟨typeIs_int s i t,λ _ e=>nomatch e⟩
 | ref p =>
  cases r;rcases ty with ⟨rfl,xs,hq⟩ | ⟨rfl,o,hk,hc,hd⟩ | ⟨rfl,hk⟩ | ⟨rfl,S,n,hk⟩
  ·obtain ⟨its,_,pl,_⟩:=I.list hq
   refine ⟨pl.isList.typeIs,λ a e=>?_⟩;cases e;obtain ⟨o,n,e,c,hd,_⟩:=pl;exact ⟨o,e,hd⟩
  ·refine ⟨⟨o,I.kIn p o hk,hc⟩,λ a e=>?_⟩
   cases e;exact ⟨o,I.kIn _ o hk,hd⟩
  ·have z:∃ o,s.heap.get? p=some o/\o.ExactDict:=by
    rcases hk with ⟨kvs,hk⟩ | ⟨kvs,hk⟩
    ·obtain ⟨_,_,_,_,o,_,_,e,ex,_⟩:=I.hok p _ hk
     exact ⟨o,e,ex⟩
    ·obtain ⟨_,_,_,_,o,_,_,e,ex,_⟩:=I.hok p _ hk
     exact ⟨o,e,ex⟩
   obtain ⟨o,e,ex⟩:=z;refine ⟨⟨o,e,ex.1⟩,λ a e2=>?_⟩;cases e2;exact ⟨o,e,ex.2.1⟩
  ·obtain ⟨o,_,_,_,e,ex,_⟩:=I.hok p _ hk
   refine ⟨⟨o,e,ex.1⟩,λ a e2=>?_⟩;cases e2;exact ⟨o,e,ex.2.1⟩
 | _=>exact False.elim ty
def MV (K:W.Frag) (T:String) (r:V->List V->Hp->VK->Prop) (to:TE):TE:=λ σ H Q=>to σ H λ x H1=>tyV K T x H1/\r x [] H1 Q
def tBM (K:W.Frag) (T:String) (r:V->List V->Hp->VK->Prop) (to:TE) (t:TA):TE:=λ σ H Q=>to σ H λ x H1=>tyV K T x H1/\t σ H1 λ xs H2=>r x xs H2 Q
variable {o e:Expr} {es:List Expr} {to:TE} {t:TA} {name:Str} {apos cpos:Pos} {T id:String} {r:V->List V->Hp->VK->Prop}
def FE (pa:PlainAttrs T) (slot:Slot T name id) (hty:typeOf (.builtin id)=pure (.type "method_descriptor")) (hm:MtR X id r) (ho:PE X o to)
  (hbase:attributeBase o name X.env (eval o X.env)=eval o X.env:=by rfl) (hline:(apos.endLine == cpos.line)=true:=by rfl):PE X (.Call (.Attribute o name apos) [] [] cpos) (MV X.K T r to):=by
 intro pins s σ H Q I h;refine wpAny_Call_method0_late hbase hline (thn (ho pins s σ H _ I h) λ v s1 ⟨x,H1,I1,r1,ty,q1⟩=>?_);obtain ⟨h1,h2⟩:=As I1 r1 ty;exact ⟨T,id,pa,slot,hty,h1,h2,Calls.callWith_builtin rfl (PySem.evalArgs_none (hm pins s1 σ H1 x [] v [] Q I1 r1 .nil q1))⟩
def tJ (pa:PlainAttrs T) (slot:Slot T name id) (hty:typeOf (.builtin id)=pure (.type "method_descriptor")) (hm:MtR X id r) (ho:PE X o to) (ha:PA X (e::es) t)
  (hbase:attributeBase o name X.env (eval o X.env)=eval o X.env:=by rfl)
  (hfew:((backTo cpos (starEach (e::es) X.env)).all (λ x=>!x.1)&&(backToKw cpos (keywordEach [] X.env)).all (λ x=>x.1.isSome)
    && decide ((e::es).length+([]:List Keyword).length+(if ([]:List Keyword).isEmpty then 0 else 1) < 30))=true:=by rfl)
  (hline:(apos.endLine == cpos.line)=true:=by rfl) (hs:starEach (e::es) X.env=(false,eval e X.env)::starEach es X.env:=by rfl) (hplain:(backTo cpos (starEach es X.env)).any (·.1)=false:=by rfl) :
  PE X (.Call (.Attribute o name apos) (e::es) [] cpos) (tBM X.K T r to t):=by
 intro pins s σ H Q I h;refine wpAny_Call_method_late hbase hfew hline rfl (thn (ho pins s σ H _ I h) λ v s1 ⟨x,H1,I1,r1,ty,q1⟩=>?_);obtain ⟨h1,h2⟩:=As I1 r1 ty;refine ⟨T,id,pa,slot,hty,h1,h2,?_⟩;have hA:=ha cpos pins s1 σ H1 _ I1 q1;rw [hs] at hA ⊢;refine Calls.callWith_builtin (by show (false||(backTo cpos (starEach es X.env)).any (·.1))=false; rw [hplain] <;> rfl) (Calls.evalArgs_plain ?_);exact thn hA λ us s2 ⟨vs,H2,I2,r2,q2⟩=>hm pins s2 σ H2 x vs v us Q I2 r1 r2 q2
/- xs.append(e),list.index on a module's tuple .. are MtR facts of 06m -/
end
end L2
namespace L2
open PySem PySem.Spec PyProof.Rows
def MtM (X:Cx) (id:String) (r:V->List V->Hp->VK->Prop):Prop :=
  ∀ (pins:List (Addr×Obj)) (s:Shared) (σ:St) (H:Hp) (x:V) (xs:List V) (v:Value) (us:List Value) (Q:VK),Inv X pins σ H s->RelV x v->bD xs us->r x xs H Q ->
    wpAny (model X.prog X.w) X.A (call (.builtin id) (v::us)) (EP X pins σ Q) X.xe s
def bD.one:∀ {x:V} {us:List Value},bD [x] us->∃ u,us=[u]/\RelV x u
 | _,_,.cons r .nil=>⟨_,rfl,r⟩
def bD.zero:∀ {us:List Value},bD [] us->us=[]
 | _,.nil=>rfl
def bD.dropLast (h:bD xs us):bD xs.dropLast us.dropLast:=by
 induction h with
 | nil=>exact .nil
 | cons r t ih =>
  cases t with
  | nil=>exact .nil
  | cons q t'=>exact .cons r ih
def bD.reverse (h:bD xs us):bD xs.reverse us.reverse:=by
 induction h with
 | nil=>exact .nil
 | cons r t ih=>rw [Xv,Xv]; exact bD.append ih (.cons r .nil)
def ug {α:Type} (l:List α):l.eraseIdx (l.length - 1)=l.dropLast:=by
 induction l with
 | nil=>rfl
 | cons a r ih =>
  cases r with
  | nil=>rfl
  | cons b r =>
   have e:(a::b::r).length - 1=((b::r).length - 1)+1:=by
    have h1:(a::b::r).length=r.length+2:=rfl;have h2:(b::r).length=r.length+1:=rfl;omega
   rw [e,List.eraseIdx_cons_succ,ih]
   all_goals rfl
section
variable {X:Cx} {pins:List (Addr×Obj)} {σ:St} {H:Hp} {s:Shared} {l b:Addr} {xs ys zs:List V}
def Inv.Gk {its its':List Value} {n:Nat} {f:Array Value->Array Value} {t':Nat} (I:Inv X pins σ H s) (hH:H l=some (.lst xs))
  (e:s.heap.get? l=some { cls:=.type "list",data:=.seq its.toArray n }) (hf:f its.toArray=its'.toArray) (hv:bD ys its') (hz:ys.length<=sizeLine) :
  Inv X pins σ (upd H l (.lst ys)) { s with heap:=s.heap.update l (Obj.mapSeq f),toks:=t' }:=by
 have q:=PySem.IsL.update e f;rw [hf] at q;refine I.write (x:=l) (e:=l) (by rw [hH]; exact trivial) (.inl rfl) (λ b' u hb hu=>(Heap.get?_update_other s.heap (Obj.mapSeq f) (Ne.symm hb)).trans hu) ⟨_,q⟩ ?_
 exact ⟨hz,its',_,hv,q⟩
def Inv.NV (I:Inv X pins σ H s) (hv:bD ys its) (hz:ys.length<=sizeLine) :
  Inv X pins σ (upd H s.heap.objs.size (.lst ys)) { s with heap:=s.heap.push { cls:=.type "list",data:=.seq its.toArray },toks:=t' } :=
 I.laid (λ _ _ q=>Heap.get?_push_of_some _ q) (Zs _) ⟨hz,its,0,hv,Heap.get?_push_size _ rfl⟩
def Inv.fresh (I:Inv X pins σ H s):H s.heap.objs.size=none:=I.hok.fresh (Zs _)
def Inv.AX (I:Inv X pins σ H s) (hH:H l=some (.lst xs)):xs.length<=sizeLine/\∃ (its:List Value) (n:Nat),bD xs its/\xs.length=its.length/\s.heap.get? l=some { cls:=.type "list",data:=.seq its.toArray n }:=by
 obtain ⟨z,its,n,r,e⟩:=I.hok l _ hH;exact ⟨z,its,n,r,r.length,e⟩
def zF (h:n<=sizeLine):Builtin.List.listTooLong n=false:=by
 unfold Builtin.List.listTooLong;exact Zk (by omega)
end
section
variable {X:Cx}
def BI:V->List V->Hp->VK->Prop:=λ x vs H Q=>∃ l xs y,x=.ref l/\vs=[y]/\H l=some (.lst xs)/\xs.length < sizeLine/\Q .non (upd H l (.lst (xs++[y])))
def oi:MtM X "list.append" BI:=by
 intro pins s σ H x vs v us Q I rx rv h;obtain ⟨l,xs,y,rfl,rfl,hH,hz,q⟩:=h;cases rx;obtain ⟨u,rfl,ru⟩:=rv.one;obtain ⟨z,its,n,r,hl,e⟩:=I.AX hH;refine call_meets F.slot_list_append ⟨_,e,rfl⟩ F.entry_list_append (F.args_list_append_2 _ _) (PySem.list_append l its.toArray n u (by rw [Zq]; omega)) ⟨e,?_⟩;refine ⟨.non,_,I.Gk (its':=its++[u]) hH e (by simp) (r.append (.cons ru .nil)) ?_,rfl,q⟩;rw [Z5,List.length_singleton];omega
def BH:V->List V->Hp->VK->Prop:=λ x vs H Q=>∃ l b xs zs,x=.ref l/\vs=[.ref b]/\H l=some (.lst xs)/\H b=some (.lst zs)/\xs.length+zs.length<=sizeLine/\Q .non (upd H l (.lst (xs++zs)))
def wM:MtM X "list.extend" BH:=by
 intro pins s σ H x vs v us Q I rx rv h;obtain ⟨l,b,xs,zs,rfl,rfl,hH,hB,hz,q⟩:=h;cases rx;obtain ⟨u,rfl,ru⟩:=rv.one;cases ru;obtain ⟨z,its,n,r,hl,e⟩:=I.AX hH;obtain ⟨z2,its2,n2,r2,hl2,e2⟩:=I.AX hB;have hsz:its.toArray.size+its2.toArray.size<=sizeLine:=by rw [Zq,Zq]; omega
 have hlong:¬ (!its.toArray.isEmpty&&Builtin.List.listTooLong (its.toArray.size+its2.toArray.size))=true:=by
  rw [zF hsz,Bool.and_false];exact Zf
 refine call_meets F.slot_list_extend ⟨_,e,rfl⟩ F.entry_list_extend (F.args_list_extend_2 _ _)
  (AutoSeq1.list_extend_list_list_0 l its.toArray n b its2.toArray n2 hlong (by rw [Zq]; omega) (by omega)) ⟨e,e2,?_⟩
 refine ⟨.non,_,I.Gk (its':=its++its2) hH e (by simp) (r.append r2) ?_,rfl,q⟩;rw [Z5];omega
def Nb:V->List V->Hp->VK->Prop:=λ x vs H Q=>∃ l xs y,x=.ref l/\vs=[]/\H l=some (.lst xs)/\xs[xs.length - 1]?=some y/\Q y (upd H l (.lst xs.dropLast))
def Gb:MtM X "list.pop" Nb:=by
 intro pins s σ H x vs v us Q I rx rv h;obtain ⟨l,xs,y,rfl,rfl,hH,hy,q⟩:=h;cases rx;have hus:=rv.zero;subst hus;obtain ⟨z,its,n,r,hl,e⟩:=I.AX hH;obtain ⟨u,hu,ru⟩:=r.get hy
 have hy':its.toArray[its.toArray.size - 1]?=some u:=by
  show its.toArray[its.length - 1]?=some u;rw [<- Array.getElem?_toList,<- hl];exact hu
 refine call_meets F.slot_list_pop ⟨_,e,rfl⟩ F.entry_list_pop (F.args_list_pop_1 _) (MeetsSeq.list_pop_last l its.toArray n u hy' (by rw [Zq]; omega)) ⟨e,?_⟩;refine ⟨y,_,I.Gk (its':=its.dropLast) hH e ?_ r.dropLast ?_,ru,q⟩
 ·show its.toArray.eraseIdxIfInBounds (its.toArray.size - 1)=its.dropLast.toArray
  rw [Zq,List.eraseIdxIfInBounds_toArray,ug]
 ·rw [List.length_dropLast]
  omega
def Nk:R2:=λ x y H Q=>∃ l b xs zs,x=.ref l/\y=.ref b/\H l=some (.lst xs)/\H b=some (.lst zs)/\xs.length+zs.length<=sizeLine/\∀ p,H p=none->Q (.ref p) (upd H p (.lst (xs++zs)))
def FY:OpR X (binaryOp .Add) Nk:=by
 intro pins s σ H x y v u Q I rx ry h;obtain ⟨l,b,xs,zs,rfl,rfl,hH,hB,hz,q⟩:=h;cases rx;cases ry;obtain ⟨z,its,n,r,hl,e⟩:=I.AX hH;obtain ⟨z2,its2,n2,r2,hl2,e2⟩:=I.AX hB;refine PySem.P.add_list e e2 ?_ (by rw [Zq,Zq]; omega)
 have ea:its.toArray++its2.toArray=(its++its2).toArray:=by simp
 rw [ea];exact ⟨.ref _,_,I.NV (t':=s.toks) (r.append r2) (by rw [Z5]; omega),rfl,q _ I.fresh⟩
end
end L2
namespace Att
open PySem PySem.W PySem.Calls PyProof.Rows
def k7:∀ (ns:List Int) (vs:List Value),WellAll P h vs (ns.map WData.int)->IntsAre vs ns:=by
 intro ns
 induction ns with
 | nil =>
  intro vs w;rw [Xz] at w;cases w;exact .nil
 | cons n ns ih =>
  intro vs w;rw [Zh] at w
  cases w with
  | cons a b =>
   cases a;exact .cons _ _ (ih _ b)
def va {l:OpenLaw} {n:Nat} (hn:l.most=some n) {P:Params} {h:Heap} {args:List WData} {vals:List Value}
  (hpre:l.row.toRowW.claim.pre args=true) (hwl:WellAll P h vals args) :
  ∃ a vs ns,vals=[Value.ref a]/\args=[WData.list (ns.map WData.int)]/\h.get? a=some { cls:=.type "list",data:=.seq vs.toArray }/\IntsAre vs ns/\ns.length<=n:=by
 have hsh:WShape.hasAll [] args [.list .int]=true:=(pre_splitW hpre).1;have hc:l.pre.holds [] { args:=args }=true:=(pre_splitW hpre).2;obtain ⟨d,r,rfl,h1,h2⟩:=hasAllW_cons hsh;obtain rfl:=hasAllW_nil h2;obtain ⟨xs,rfl,h3⟩:=hasW_list h1;obtain ⟨ns,rfl⟩:=items_int h3
 have hlen:ns.length<=n:=by
  unfold OpenLaw.pre at hc
  have h4:(WTm.not (.lt (.lit (.int (n:Int))) (.len (.arg 0)))).holds [] { args:=[.list (ns.map .int)] }=true:=by
   have h4:=(holds_andW hc).1;rw [hn] at h4;exact h4
  have h5:=condW_of h4 (w_not (w_lt w_lit (w_len_list (w_arg rfl))));rw [Za] at h5;refine Nat.le_of_not_lt λ q=>?_
  have q':(n:Int) < ((ns.length:Nat):Int):=by omega
  first
   | (rw [Zo q'] at h5; exact absurd h5 (by decide))
   | (simp at h5; omega)
 cases hwl with
 | cons w1 w2 =>
  cases w2
  cases w1 with
  | list ho hall=>exact ⟨_,_,ns,rfl,rfl,ho,k7 ns _ hall,hlen⟩
def v7 (l:OpenLaw) (args:List WData):l.row.toRowW.claim.post args (.bool true) args=true :=
 postW_of (r:=l.row.toRowW) (X:=(true == true))
  (show WShape.has [] (.bool true) .bool=true by first | rfl | decide | simp [WShape.has,WShape.arms,WShape.armsAll])
  (show (WTm.eq .res (.lit (.bool true))).value [] { args:=args,res:=some (.bool true),after:=args }=some (.bool (true == true)) from w_eq_bool (w_res rfl) w_lit) rfl
def qQ {l:OpenLaw} {n:Nat} {q:Program} {loose:List Str} {XP:(Str->Option Value)->Heap->Prop} {YP:World->Heap->Prop} {d:DefRec}
  (hn:l.most=some n) (hdf:d.params.defaults=[])
  (call:∀ (w:World) (s₀ s₁:Shared) (mg mb:Str->Option Value) (fa:Addr) (o:Obj) (pm cd doc:Value) (a:Addr) (vs:List Value) (ns:List Int),
    Ground q loose [] XP w s₀ mg mb s₁.heap->YP w s₁.heap ->
    s₁.heap.get? fa=some o->o.data=.func (docDef d.name d.params d.body d.scope pm cd doc)->s₁.heap.CodeRec cd d.name->mg d.name=some (.ref fa) ->
    s₁.heap.get? a=some { cls:=.type "list",data:=.seq vs.toArray }->IntsAre vs ns->ns.length<=n->s₁.gens=#[] ->
    codeAny (model l.prog w) callerA (.call (.ref fa) ⟨[.ref a],[]⟩) (λ r s'=>r=.ok (.ret (.bool true))/\OldK s₁.heap s'.heap/\s'.os=s₁.os/\AllBare s'.gens) s₁) :
  WalkO q loose XP YP l.row.toRowW d [] (λ f vs=>PySem.call f vs):=by
 intro w s₀ s₁ mg mb G Y fa o pm cd doc dV kV ho hd hcd hD hmg hg args vals as hpre hlay hrd hwl hlo;obtain rfl:dV=.none:=Dflts.none hD hdf;obtain rfl:kV=.none:=Dflts.noKw hD;obtain ⟨a,vs,ns,rfl,rfl,hobj,hints,hlen⟩:=va hn hpre hwl;refine enter_call (codeAny_mono (call w s₀ s₁ mg mb fa o pm cd doc a vs ns G Y ho (fd_plain hd) hcd hmg hobj hints hlen hg) λ r s' hq=>?_);obtain ⟨rfl,h2,h3,h4⟩:=hq;exact ⟨.inl ⟨.bool true,.bool true,[],rfl,λ _=>rfl,.bool true,v7 l _,λ _=>⟨List.Pairwise.nil,λ _ hm=>(nomatch hm)⟩⟩,h2,h3,h4⟩
end Att
namespace L2
open PySem PySem.Spec PyProof.Rows
def nO:∀ {vs:List Value} {ns:List Int},IntsAre vs ns->bD (ns.map V.int) vs
 | _,_,.nil=>.nil
 | _,_,.cons n t h=>.cons ⟨t,rfl⟩ (nO h)
def Ij (H:Hp):Prop:=∀ b,H b=none\/∃ o xs,H b=some (.frz o (.lst xs))
def zO {P:Program} {w:World} {K:W.Frag} {mg mb:Str->Option Value} {CX:CXT} {k:Nat} {fa a:Addr} {fd:FuncData} {x:Str} {sp:Sp} {s₁:Shared} {vs:List Value} {ns:List Int}
  (KX:K.In s₁.heap) (hns:s₁.heap.Ns mainGlobals mg) (hb:s₁.heap.Ns builtinsNs mb) (hbb:∀ x:Str,x≠"__name__"->mb x=bootBuiltins x) (hlim:s₁.heap.NoLimit) (hg:s₁.gens=#[])
  (ha:s₁.heap.get? a=some { cls:=.type "list",data:=.seq vs.toArray }) (hi:IntsAre vs ns) (hl:ns.length<=sizeLine) (hr:dW k callerA)
  (F:∀ base:Heap,K.In base->base.Ns mainGlobals mg->jf P w K mg base CX k fa fd [x] sp) (hbind:∀ (s:Shared) (u:Value),BindsTo s fd ⟨[u],[]⟩ [(x,u)])
  (hsp:∀ H:Hp,Ij H->SqL K H a (ns.map V.int)->sp [.ref a] H (λ v _=>v=.bl true) λ _ _ _=>False)
  (hCX:∀ H e s',CX [] H s₁ (λ _ _ _=>False) e s'->False) :
  codeAny (model P w) callerA (.call (.ref fa) ⟨[.ref a],[]⟩) (λ r s'=>r=.ok (.ret (.bool true))/\OldK s₁.heap s'.heap/\s'.os=s₁.os/\AllBare s'.gens) s₁:=by
 have rv:=nO hi;have lenV:=hi.length
 have core:∀ H:Hp,Ij H->SqL K H a (ns.map V.int)->HOk P w H s₁.heap->(∀ b,H b≠none->b=a)->(H a≠none->K.lookup a=none) ->
   codeAny (model P w) callerA (.call (.ref fa) ⟨[.ref a],[]⟩) (λ r s'=>r=.ok (.ret (.bool true))/\OldK s₁.heap s'.heap/\s'.os=s₁.os/\AllBare s'.gens) s₁:=by
  intro H hO hS hok hA hK;have base_of:∀ {b:Addr} {o:Obj},s₁.heap.get? b=some o->H b=none->(zS s₁.heap H).get? b=some o:=λ e n=>zR e n
  have noA:∀ {b:Addr} {o:Obj} {es:Array DictEntry} {ep:Nat},s₁.heap.get? b=some o->o.data=.dict es ep->H b=none:=λ {b o es ep} e d=>by
   cases q:H b with
   | none=>rfl
   | some u =>
    have e':b=a:=hA b (by rw [q]; simp);subst e';rw [ha] at e; cases e
    have d':Data.seq vs.toArray _=Data.dict es ep:=d;cases d'
  have nsK:∀ {b:Addr} {m:Str->Option Value},s₁.heap.Ns b m->(zS s₁.heap H).Ns b m:=λ {b m} ⟨o,es,ep,e,d,r⟩=>⟨o,es,ep,base_of e (noA e d),d,r⟩
  have hKb:K.In (zS s₁.heap H):=λ b o e=>base_of (KX b o e) (by
   cases q:H b with
   | none=>rfl
   | some u =>
    have e':b=a:=hA b (by rw [q]; simp);subst e'
    rw [hK (by rw [q]; simp)] at e; cases e)
  have hM:Mod K mg (zS s₁.heap H):=⟨hKb,nsK hns,⟨mb,nsK hb,hbb⟩,let ⟨mc,h1,h2⟩:=hlim; ⟨mc,nsK h1,h2⟩⟩
  have e0:Eh P w K mg (zS s₁.heap H) callerA [] s₁ H:=⟨rfl,hM,λ b o e=>CV e,Nat.le_of_eq (xk _ _),trivial,λ b hb=>absurd (show b ∈ ([]:List Addr) from hb) (by simp),hok,.of_eq hg⟩
  refine codeAny_mono ((F _ hKb (nsK hns)).run callerA [] s₁ H ⟨[.ref a],[]⟩ [.ref a] [.ref a] _ _ hr e0 (hbind s₁ (.ref a)) (.cons rfl .nil) (hsp H hO hS)) λ r s' h=>?_
  cases r with
  | error e=>exact (hCX H e s' h).elim
  | ok fl =>
   cases fl with
   | next=>exact False.elim h
   | brk=>exact False.elim h
   | cont=>exact False.elim h
   | ret u =>
    obtain ⟨v,H',os,bare,un,hok',r',q⟩:=h;have q':v=.bl true:=q;subst q';obtain rfl:u=Value.bool true:=r';refine ⟨rfl,OldK.of_keep λ b o e=>?_,os,bare⟩
    cases q:H b with
    | none=>exact un.keep b o e q (by intro z; exact absurd (show b ∈ ([]:List Addr) from z) (by simp)) (by simp)
    | some u =>
     rcases hO b with z | ⟨ob,xs,z⟩
     · rw [q] at z; cases z
     ·have z2:=un.uG b ob _ z
      obtain ⟨e1,_⟩:=hok b _ z;obtain ⟨e2,_⟩:=hok' b _ z2;rw [e] at e1; cases e1
      exact e2
 cases hk:K.lookup a with
 | some o =>
  have e:=KX a o hk;rw [ha] at e;cases e;refine core (λ _=>none) (λ _=>.inl rfl) (.inr ⟨_,vs.toArray,_,hk,rfl,rfl,rfl,by rw [Zq,lenV]; exact hl,by simpa using rv⟩) (λ b u z=>by have z':(none:Option HO)=some u:=z; cases z') (λ b z=>absurd rfl z) λ z=>absurd rfl z
 | none =>
  refine core (λ b=>if b=a then some (.frz { cls:=.type "list",data:=.seq vs.toArray } (.lst (ns.map V.int))) else none) (λ b=>?_) (.inl (.inr ⟨{ cls:=.type "list",data:=.seq vs.toArray },if_pos rfl⟩)) (λ b u z=>?_) (λ b z=>?_) λ _=>hk
  ·by_cases hb:b=a
   · exact .inr ⟨_,_,if_pos hb⟩
   · exact .inl (if_neg hb)
  ·by_cases hb:b=a
   ·have z':=(if_pos hb).symm.trans z
    cases z';subst hb;exact ⟨ha,by rw [Za]; exact hl,vs,_,rv,ha⟩
   ·have z':=(if_neg hb).symm.trans z
    cases z'
  ·by_cases hb:b=a
   · exact hb
   · exact absurd (if_neg hb) z
end L2
namespace L2
open PySem PySem.Spec PyProof.Rows
abbrev KOf {K:W.Frag} {h:Heap} (_:K.In h):W.Frag:=K
def Bj {l:PySem.W.OpenLaw} {n k:Nat} {q:Program} {loose:List Str} {XP:(Str->Option Value)->Heap->Prop} {YP:World->Heap->Prop} {d:DefRec} {K:Params->W.Frag} {CX:World->CXT} {sp:World->Sp} {x:Str}
    (hn:l.most=some n) (hn2:n<=sizeLine) (hdf:d.params.defaults=[]) (hr:dW k callerA)
    (hY:∀ (w:World) (h:Heap),YP w h->(K w.params).In h)
    (F : ∀ (w:World) (mg:Str->Option Value) (fa:Addr) (h:Heap),(K w.params).In h->h.Ns mainGlobals mg->mg d.name=some (.ref fa) ->
      ∃ fd:FuncData,(∀ (s:Shared) (u:Value),BindsTo s fd ⟨[u],[]⟩ [(x,u)]) /\
        ∀ base:Heap,(K w.params).In base->base.Ns mainGlobals mg->jf l.prog w (K w.params) mg base (CX w) k fa fd [x] (sp w))
    (hsp:∀ (w:World) (H:Hp) (a:Addr) (ns:List Int),ns.length<=n->Ij H->SqL (K w.params) H a (ns.map V.int)->sp w [.ref a] H (λ v _=>v=.bl true) λ _ _ _=>False)
    (hCX:∀ (w:World) (H:Hp) (s:Shared) (e:Value) (s':Shared),CX w [] H s (λ _ _ _=>False) e s'->False) :
    PySem.W.WalkO q loose XP YP l.row.toRowW d [] (λ f vs=>PySem.call f vs):=by
  refine Att.qQ hn hdf λ w s₀ s₁ mg mb fa o pm cd doc a vs ns G Y ho hd hcd hmg hobj hints hlen hg=>?_
  have KX:=hY w _ Y;obtain ⟨fd,hb,hF⟩:=F w mg fa _ KX G.T.g hmg;exact zO KX G.T.g G.T.b G.T.builtins G.T.nolimit hg hobj hints (Z2 hlen hn2) hr hF hb (λ H hO hS=>hsp w H a ns hlen hO hS) λ H e s'=>hCX w H s₁ e s'
def yt {l:PySem.W.OpenLaw} {n k:Nat} {q:Program} {loose:List Str} {XP:(Str->Option Value)->Heap->Prop} {YP:World->Heap->Prop} {d:DefRec} {K:Params->W.Frag} {CX:CXT} {sp:W.Frag->Sp} {x:Str}
    (hn:l.most=some n) (hn2:n<=sizeLine) (hdf:d.params.defaults=[]) (hr:dW k callerA)
    (hY:∀ (w:World) (h:Heap),YP w h->(K w.params).In h)
    (F : ∀ (w:World) (mg:Str->Option Value) (fa:Addr) (h:Heap),(K w.params).In h->h.Ns mainGlobals mg->mg d.name=some (.ref fa) ->
      ∃ fd:FuncData,(∀ (s:Shared) (u:Value),BindsTo s fd ⟨[u],[]⟩ [(x,u)]) /\
        ∀ base:Heap,(K w.params).In base->base.Ns mainGlobals mg->jf l.prog w (K w.params) mg base CX k fa fd [x] (sp (K w.params)))
    (hsp:∀ (K:W.Frag) (H:Hp) (a:Addr) (ns:List Int),ns.length<=n->Ij H->SqL K H a (ns.map V.int)->sp K [.ref a] H (λ v _=>v=.bl true) λ _ _ _=>False)
    (hCX:∀ (H:Hp) (s:Shared) (e:Value) (s':Shared),CX [] H s (λ _ _ _=>False) e s'->False) :
    PySem.W.WalkO q loose XP YP l.row.toRowW d [] (λ f vs=>PySem.call f vs) :=
  Bj (K:=K) (CX:=λ _=>CX) (sp:=λ w=>sp (K w.params)) hn hn2 hdf hr hY F (λ w H a ns h1 h2 h3=>hsp (K w.params) H a ns h1 h2 h3) λ _ H s e s'=>hCX H s e s'
end L2
/- THE LAST THEOREM (shape; LID,My.* are yours):
   My.Adr: a structure of the addresses that your layer names (classes,functions); My.Txt K t: a structure (Prop) of the equations over K;
   My.txt_mk:{K} {implicit addresses ..} (e1:nsIn K mainGlobals "law"=some (some (.ref f))) (e2:K.lookup f=some ⟨oc,od,.func (fnOf "law" "law" params body scope dV kV doc pm an cdv ct),sl⟩) (e3:codeIn K cdv "law"=true) ..:∃ t,My.Txt K t
(the tactic k_is has no namespace: write k_is) -/
namespace L2
open PySem PySem.Spec PyProof.Rows
def inClass (s:Stmt) (j:Nat):Stmt:=match s with
 | .ClassDef _ _ _ body _ _ _ _ _ _ _=>body.getD j (.Pass ⟨0,0,0,0⟩)
 | _=>.Pass ⟨0,0,0,0⟩
def cD (s:Stmt):Arguments:=match s with
 | .FunctionDef _ a _ _ _ _ _ _ _ _=>a
 | _=>{ posonlyargs:=[],args:=[],vararg:=none,kwonlyargs:=[],kw_defaults:=[],kwarg:=none,defaults:=[] }
def bR (s:Stmt):List Stmt:=match s with
 | .FunctionDef _ _ b _ _ _ _ _ _ _=>b
 | _=>[]
def aH (s:Stmt):Scope:=match s with
 | .FunctionDef _ _ _ _ _ _ sc _ _ _=>sc
 | _=>{ kind:=.function,names:=[],isGenerator:=false,isCoroutine:=false }
abbrev CX0:CXT:=λ _ _ _ _ _ _=>False
abbrev E0:XK:=λ _ _ _=>False
def p9:mK CX0 X E0:=λ _ _ _ _ _ _ _ h=>h.elim
structure Fun (K:W.Frag) (x qual:Str) (st:Stmt) (f:Addr) (fd:FuncData):Prop where
 ex:∃ (oc:Value) (od:Option Addr) (kV doc pm:Value) (an:Option Addr) (cdv ct:Value) (osl:Array (Option Value)),
  fd=PySem.W.fnOf x qual (cD st) (bR st) (aH st) .none kV doc pm an cdv ct/\K.lookup f=some ⟨oc,od,.func fd,osl⟩/\PySem.W.codeIn K cdv qual=true
 kp:W.keepIn K (.ref f)=true
section
variable {P:Program} {w:World} {K:W.Frag} {mg:Str->Option Value} {base:Heap}
def Fun.ok {x qual:Str} {st:Stmt} {f:Addr} {fd:FuncData} {N ps:List Str} {k:Nat} {sp:Sp} (F:Fun K x qual st f fd) (S:dO N ps (aH st)) (len:∀ vs H Q E,sp vs H Q E->vs.length=ps.length)
  (hbody:∀ (cdv:Value) (A:Around) (outer:List Env) (s:Shared) (H:Hp) (vs:List V) (Q:VK) (E:XK),dW k (A.deeper (envOfC qual (aH st) s.heap.objs.size f cdv))->sp vs H Q E ->
    ∃ t,PSs (Ac CX0 P w K mg base N qual (aH st) f cdv A outer s H E).nox (bR st) t/\t { nx:=λ _ H'=>Q .non H',rt:=Q } (start N vs) H):jf P w K mg base CX0 (k+1) f fd ps sp:=by
 obtain ⟨oc,od,kV,doc,pm,an,cdv,ct,osl,rfl,lk,hcd⟩:=F.ex;refine Lk lk hcd S len λ A outer s H vs Q E hr hsp=>?_
 obtain ⟨t,h,q⟩:=hbody cdv A outer s H vs Q E hr hsp;exact ⟨t,h.nox,q⟩
def Fun.binds {x qual:Str} {st:Stmt} {f:Addr} {fd:FuncData} {ps:List Str} (F:Fun K x qual st f fd)
  (h:∀ (kV doc pm:Value) (an:Option Addr) (cdv ct:Value) (us:List Value),us.length=ps.length->bindArgs (PySem.W.fnOf x qual (cD st) (bR st) (aH st) .none kV doc pm an cdv ct) ⟨us,[]⟩=pure (ps.zip us)):Binds K fd ps []:=by
 obtain ⟨oc,od,kV,doc,pm,an,cdv,ct,osl,rfl,lk,hcd⟩:=F.ex;exact .all (h kV doc pm an cdv ct)
def lq {x qual:Str} {st:Stmt} {f:Addr} {oc:Value} {od an:Option Addr} {osl:Array (Option Value)} {kV doc pm cdv ct:Value} (l:K.lookup f=some ⟨oc,od,.func (PySem.W.fnOf x qual (cD st) (bR st) (aH st) .none kV doc pm an cdv ct),osl⟩)
 (c:PySem.W.codeIn K cdv qual=true) (k:W.keepIn K (.ref f)=true):Fun K x qual st f (PySem.W.fnOf x qual (cD st) (bR st) (aH st) .none kV doc pm an cdv ct):=⟨⟨oc,od,kV,doc,pm,an,cdv,ct,osl,rfl,l,c⟩,k⟩
end
def cN (hr:dW k A):A.units+1 < cLine:=Nat.lt_of_le_of_lt (Nat.add_le_add_left (by decide:1<=64) _) hr.units
def Ib {A B:Prop} (h:B):if false=true then A else B:=by
 rw [if_neg Zf];exact h
def K5 {A B:Prop} (h:A):if true=true then A else B:=by
 rw [if_pos rfl];exact h
def bZ (H H':Hp):Prop:=∀ b o,H b=some o->H' b=some o
def bZ.refl (H:Hp):bZ H H:=λ _ _ h=>h
def bZ.trans (a:bZ H H1) (b:bZ H1 H2):bZ H H2:=λ c o h=>b c o (a c o h)
def bZ.free (e:bZ H H') (h:H' l=Option.none):H l=Option.none:=by
 cases q:H l with
 | none=>rfl
 | some o =>
  rw [e l o q] at h;cases h
def bZ.seq {K:W.Frag} {H H':Hp} {a:Addr} {xs:List V} (e:bZ H H') (h:SqL K H a xs):SqL K H' a xs:=by
 rcases h with (h | ⟨o,h⟩) | h
 · exact .inl (.inl (e _ _ h))
 · exact .inl (.inr ⟨o,e _ _ h⟩)
 · exact .inr h
end L2
end
section
namespace HD10
open PySem PySem.W PySem.W.X PyProof.Rows L2
abbrev hp:Program:=PySem.Challenge.pw_stylehouse_k10_borne
abbrev hl:OpenLaw:=PySem.Challenge.rw_stylehouse_k10_borne
def top (i:Nat):Stmt:=PySem.Challenge.pw_stylehouse_k10_borne.main.body.getD i (.Pass ⟨0,0,0,0⟩)
noncomputable abbrev tL (o:Params->Obj) (P:Params):BT:=.node (o P) .nil .nil
noncomputable abbrev tN (o:Params->Obj) (l r:Params->BT) (P:Params):BT:=.node (o P) (l P) (r P)
noncomputable abbrev tZ (_:Params):BT:=.nil
noncomputable abbrev dE (P:Params) (n:Str) (t:Nat) (v:Value):DictEntry:=⟨PyData.keyHash P n,.str n t,v⟩
noncomputable abbrev oF (y:String) (l:List Value) (_:Params):Obj:=⟨.type y,none,.fields ⟨l⟩,⟨[]⟩⟩
noncomputable abbrev oQ (y:String) (l:List Value) (n:Nat) (_:Params):Obj:=⟨.type y,none,.seq ⟨l⟩ n,⟨[]⟩⟩
noncomputable abbrev oD (y:String) (l:List DictEntry) (n:Nat):Obj:=⟨.type y,none,.dict ⟨l⟩ n,⟨[]⟩⟩
noncomputable abbrev oM (y:String) (n q:Str) (s:Stmt) (g:Nat) (c:List (Str×Addr)) (d k dc pm:Value) (an:Option Addr) (cd ct:Value) (b:Nat):Obj:=⟨.type y,none,.func ⟨n,q,cD s,.stmts (bR s),aH s,g,c,d,k,dc,pm,an,cd,ct,b⟩,⟨[]⟩⟩
noncomputable abbrev oC (y:String) (n:Str) (a:Nat) (q:Str) (b:Nat) (f:Str) (c i1 i2 i3 i4 i5 r1:Nat) (o:Bool) (i6 r2:Nat) (v1 v2 v3 v4:Value) (i7 i8:Nat) (g:Str) (d:Nat):Obj:=⟨.type y,none,.fields ⟨[.str n a,.str q b,.str f c,.int (.ofNat i1) 0,.int (.ofNat i2) 0,.int (.ofNat i3) 0,.int (.ofNat i4) 0,.int (.ofNat i5) 0,.ref r1,.bool o,.int (.ofNat i6) 0,.ref r2,v1,v2,v3,v4,.int (.ofNat i7) 0,.int (.ofNat i8) 0,.str g d]⟩,⟨[]⟩⟩
noncomputable abbrev vI (i t:Nat):Value:=.int (.ofNat i) t
noncomputable abbrev vS (s:Str) (t:Nat):Value:=.str s t
noncomputable abbrev vR (a:Nat):Value:=.ref a
noncomputable abbrev y0:String:=PySem.W.SL.s2766695959194262286x5
noncomputable abbrev y1:String:=PySem.W.SL.s5856160107412720595x4
noncomputable abbrev y2:String:=PySem.W.SL.s658472552662922059x5
noncomputable abbrev y3:String:=PySem.W.SL.s14018661285674007319x4
noncomputable abbrev y4:String:=PySem.W.SL.s7097527257260152453x26
noncomputable abbrev y5:String:=PySem.W.SL.s7174869446012820540x8
noncomputable abbrev y6:String:=PySem.W.SL.s6070975301684473832x10
noncomputable abbrev y7:String:=PySem.W.SL.s11030030927630378310x26
noncomputable abbrev y8:String:=PySem.W.SL.s10062305145149207511x16
noncomputable abbrev y9:String:=PySem.W.SL.s17162191345867700912x4
noncomputable abbrev y10:String:=PySem.W.SL.s5946037652744460706x9
noncomputable abbrev y11:String:=PySem.W.SL.s4278001404047624695x13
noncomputable abbrev y12:String:=PySem.W.SL.s2742458400755230247x6
noncomputable abbrev y13:String:=PySem.W.SL.s4209523147560561109x18
noncomputable abbrev y14:String:=PySem.W.SL.s14755015743595814543x17
noncomputable abbrev y15:String:=PySem.W.SL.s10220274742760427390x26
noncomputable abbrev y16:String:=PySem.W.SL.s4290257624100764138x5
noncomputable abbrev y17:String:=PySem.W.SL.s4860613602091757760x24
noncomputable abbrev y18:String:=PySem.W.SL.s11443829558043349243x14
noncomputable abbrev y19:String:=PySem.W.SL.s6511155373996960695x17
noncomputable abbrev y20:String:=PySem.W.SL.s12411053484034534018x21
noncomputable def n0:Str:="<module>"
noncomputable def n1:Str:="/claim/cut.py"
noncomputable def n2:Str:="__main__"
noncomputable def n3:Str:="__name__"
noncomputable def n4:Str:="stylehouse.errors"
noncomputable def n5:Str:="__doc__"
noncomputable def n6:Str:="__package__"
noncomputable def n7:Str:="__loader__"
noncomputable def n8:Str:="__spec__"
noncomputable def n9:Str:="__annotations__"
noncomputable def n10:Str:="__builtins__"
noncomputable def n11:Str:="__file__"
noncomputable def n12:Str:="__cached__"
noncomputable def n13:Str:="_wall"
noncomputable def n14:Str:="HouseError"
noncomputable def n15:Str:="NoBox"
noncomputable def n16:Str:="Rooted"
noncomputable def n17:Str:="k"
noncomputable def n18:Str:="__module__"
noncomputable def n19:Str:="__qualname__"
noncomputable def n20:Str:="__firstlineno__"
noncomputable def n21:Str:="__static_attributes__"
noncomputable def n22:Str:="__weakref__"
noncomputable def n23:Str:="stylehouse.tree"
noncomputable def n24:Str:="NoPlace"
noncomputable def n25:Str:="NoName"
noncomputable def n26:Str:="TooMuch"
noncomputable def n27:Str:="LONGEST_NAME"
noncomputable def n28:Str:="is_name"
noncomputable def n29:Str:="beneath"
noncomputable def n30:Str:="holders_of"
noncomputable def n31:Str:="depth_of"
noncomputable def n32:Str:="stylehouse.names"
noncomputable def n33:Str:="tree"
noncomputable def n34:Str:="box"
noncomputable def n35:Str:="found"
noncomputable def n36:Str:="left"
noncomputable def n37:Str:="one"
noncomputable def n38:Str:="stylehouse.walks"
noncomputable def n39:Str:="holder"
noncomputable def n40:Str:="MOST_BOXES"
noncomputable def n41:Str:="MOST_DEEP"
noncomputable def n42:Str:="ROOT"
noncomputable def n43:Str:="Tree"
noncomputable def n44:Str:="__init__"
noncomputable def n45:Str:="enter"
noncomputable def n46:Str:="check"
noncomputable def n47:Str:="put"
noncomputable def n48:Str:="cut"
noncomputable def n49:Str:="move"
noncomputable def n50:Str:="mark"
noncomputable def n51:Str:="bare"
noncomputable def n52:Str:="write"
noncomputable def n53:Str:="dress"
noncomputable def n54:Str:="stands"
noncomputable def n55:Str:="name_of"
noncomputable def n56:Str:="marks_of"
noncomputable def n57:Str:="words_of"
noncomputable def n58:Str:="rows_of"
noncomputable def n59:Str:="holder_of"
noncomputable def n60:Str:="boxes_of"
noncomputable def n61:Str:="self"
noncomputable def n62:Str:="name"
noncomputable def n63:Str:="Tree.__init__"
noncomputable def n64:Str:="Tree.enter"
noncomputable def n65:Str:="Tree.check"
noncomputable def n66:Str:="place"
noncomputable def n67:Str:="Tree.put"
noncomputable def n68:Str:="Tree.cut"
noncomputable def n69:Str:="Tree.move"
noncomputable def n70:Str:="word"
noncomputable def n71:Str:="Tree.mark"
noncomputable def n72:Str:="Tree.bare"
noncomputable def n73:Str:="words"
noncomputable def n74:Str:="Tree.write"
noncomputable def n75:Str:="rows"
noncomputable def n76:Str:="Tree.dress"
noncomputable def n77:Str:="Tree.stands"
noncomputable def n78:Str:="Tree.name_of"
noncomputable def n79:Str:="Tree.marks_of"
noncomputable def n80:Str:="Tree.words_of"
noncomputable def n81:Str:="Tree.rows_of"
noncomputable def n82:Str:="Tree.holder_of"
noncomputable def n83:Str:="Tree.boxes_of"
noncomputable def n84:Str:="boxes"
noncomputable def n85:Str:="given"
noncomputable def n86:Str:="holders"
noncomputable def n87:Str:="marks"
noncomputable def n88:Str:="names"
noncomputable def n89:Str:="__dict__"
noncomputable def n90:Str:="law_stylehouse_k10_borne"
noncomputable def n91:Str:="check_name"
noncomputable def n92:Str:="check_place"
noncomputable def n93:Str:="_law_cell"
noncomputable def n94:Str:="_law_mix"
noncomputable def n95:Str:="_law_name"
noncomputable def n96:Str:="_law_pool"
noncomputable def n97:Str:="_law_whole"
noncomputable def n98:Str:="_law_same_row"
noncomputable def n99:Str:="_law_under"
noncomputable def Dh:Str:="_law_deep"
noncomputable def De:Str:="_law_put"
noncomputable def C9:Str:="_law_moved"
noncomputable def C8:Str:="_law_text"
noncomputable def C7:Str:="_law_words"
noncomputable def C6:Str:="_law_own"
noncomputable def C5:Str:="_law_deed"
noncomputable def C4:Str:="_law_bears"
noncomputable def C3:Str:="law"
noncomputable def NT:Str:="row"
noncomputable def KW:Str:="_law_script"
noncomputable def Ia:Str:="_law_k"
noncomputable def KS:Str:="_law_cell_here"
noncomputable def Mx:Str:="_law_way"
noncomputable def NS:Str:="_law_first"
noncomputable def NR:Str:="_law_at"
noncomputable def NQ:Str:="_law_letters"
noncomputable def Mw:Str:="_law_one"
noncomputable def KR:Str:="_law_draw"
noncomputable def NP:Str:="_law_place"
noncomputable def NO:Str:="_law_sign"
noncomputable def NN:Str:="_law_two"
noncomputable def NM:Str:="_law_three"
noncomputable def Mv:Str:="_law_found"
noncomputable def NL:Str:="_law_due"
noncomputable def Mu:Str:="_law_rows"
noncomputable def HZ:Str:="_law_box"
noncomputable def NK:Str:="_law_told"
noncomputable def NJ:Str:="_law_todo"
noncomputable def Ms:Str:="_law_facts"
noncomputable def NI:Str:="_law_deep_here"
noncomputable def Mr:Str:="_law_own_here"
noncomputable def NH:Str:="_law_many"
noncomputable def NG:Str:="_law_made"
noncomputable def Mq:Str:="_law_tree"
noncomputable def Mp:Str:="_law_borne"
noncomputable def NF:Str:="_law_marks"
noncomputable def ND:Str:="_law_words_here"
noncomputable def NC:Str:="_law_name_here"
noncomputable def NB:Str:="_law_pool_here"
noncomputable abbrev oN (n q:Str) (s:Stmt) (_:Params):Obj:=⟨.none,none,.func ⟨n,q,cD s,.stmts (bR s),aH s,0,[],.none,.none,.none,.none,none,.none,.none,0⟩,⟨[]⟩⟩
def tri:List Nat->List Value
 | a::b::r=>.int (.ofNat a) 0::.int (.ofNat 0) 0::.ref b::tri r
 | _=>[]
noncomputable abbrev oR (l:List Nat) (_:Params):Obj:=⟨.none,none,.fields ⟨tri l⟩,⟨[]⟩⟩
noncomputable abbrev oE (n q:Str) (t l a r s:Nat) (_:Params):Obj:=oC y1 n t q (t+1) n1 (t+2) l a 0 0 3 r true 181 (r+1) .none (.ref (r+2)) (.ref (r+3)) (.ref (r+4)) s l n1 (s+1)
noncomputable abbrev oG (n q:Str) (s:Stmt) (m:Str) (t r:Nat) (_:Params):Obj:=oM y5 n q s 3 [] .none .none .none (.str m t) none (.ref r) .none 0
noncomputable def o0:=oQ y0 [] 0
noncomputable def o1 (P:Params):Obj:=⟨.none,none,(.fields ⟨[]⟩),⟨[]⟩⟩
noncomputable def o2 (P:Params):Obj:=oC y1 n0 182 n0 183 n1 184 1 0 0 0 0 11 false 181 12 .none .none .none .none 185 1 n1 186
noncomputable def o3 (P:Params):Obj:=⟨(.type y2),none,.plain,⟨[(some (vR 13)),(some (vR 3)),(some (vR 3)),none,(some (vS n2 164)),none,(some (vR 0))]⟩⟩
noncomputable def o4 (P:Params):Obj:=oD y3 [dE P n3 165 (vS n4 194),dE P n5 166 .none,dE P n6 167 .none,dE P n7 168 (.builtin y4),dE P n8 169 .none,dE P n9 170 (vR 6),dE P n10 171 (vR 4),dE P n11 173 (vS n1 172),dE P n12 174 .none,dE P n13 193 (vR 21),dE P n14 213 (vR 31),dE P n15 229 (vR 44),dE P n16 245 (vR 56)] 13
noncomputable def o5:=oR [1,20,5,27,7,40,9,52]
noncomputable def o6:=oQ y0 [vS n17 190] 0
noncomputable def o7:=oN n13 n13 (top 0)
noncomputable def o8:=oE n13 n13 187 1 1 15 191
noncomputable def o9:=oG n13 n13 (top 0) n2 164 20
noncomputable def o10:=oQ y0 [(.type y6)] 0
noncomputable def o11:=oF y7 [(.builtin y8),(.type y9)]
noncomputable def o12 (P:Params):Obj:=oD y3 [dE P n18 203 (vS n4 194),dE P n19 205 (vS n14 204),dE P n20 207 (vI 5 206),dE P n21 208 (vR 29)] 4
noncomputable def o13 (P:Params):Obj:=oC y1 n14 198 n14 199 n1 200 5 0 0 0 0 25 false 181 26 .none .none .none .none 201 5 n1 202
noncomputable def o14 (P:Params):Obj:=⟨(.type y2),none,.plain,⟨[(some (vR 27)),(some (vR 3)),(some (vR 24)),none,(some (vS n4 194)),none,(some (vR 0))]⟩⟩
noncomputable def o15 (P:Params):Obj:=oD y3 [dE P n18 203 (vS n4 194),dE P n20 207 (vI 5 206),dE P n21 208 (vR 29),dE P n22 210 (vR 32),dE P n5 211 .none] 3
noncomputable def o16 (P:Params):Obj:=⟨(.type y9),none,(.cls ⟨n14,[(.type y6)],[vR 31,(.type y6),(.type y10),(.type y11),(.type y12)],30,n14,true,[],[vR 44,vR 56],false,none,false⟩),⟨[(some (vR 22)),none,(some (vS n14 196)),(some (vS n14 204)),(some (.builtin y13)),(some (.bool true))]⟩⟩
noncomputable def o17:=oF y14 [vS n22 209,vR 31,(.builtin y15),.none]
noncomputable def o18:=oF y16 [vR 31,vR 31,vR 31]
noncomputable def o19:=oF y7 [(.builtin y17),vR 31]
noncomputable def o20:=oQ y0 [vR 31] 0
noncomputable def o21 (P:Params):Obj:=oD y3 [dE P n18 221 (vS n4 194),dE P n19 223 (vS n15 222),dE P n20 225 (vI 7 224),dE P n21 226 (vR 42)] 4
noncomputable def o22 (P:Params):Obj:=oC y1 n15 216 n15 217 n1 218 7 0 0 0 0 38 false 181 39 .none .none .none .none 219 7 n1 220
noncomputable def o23 (P:Params):Obj:=⟨(.type y2),none,.plain,⟨[(some (vR 40)),(some (vR 3)),(some (vR 37)),none,(some (vS n4 194)),none,(some (vR 0))]⟩⟩
noncomputable def o24 (P:Params):Obj:=oD y3 [dE P n18 221 (vS n4 194),dE P n20 225 (vI 7 224),dE P n21 226 (vR 42),dE P n5 227 .none] 2
noncomputable def o25 (P:Params):Obj:=⟨(.type y9),none,(.cls ⟨n15,[vR 31],[vR 44,vR 31,(.type y6),(.type y10),(.type y11),(.type y12)],43,n15,true,[],[],false,none,false⟩),⟨[(some (vR 35)),none,(some (vS n15 214)),(some (vS n15 222)),(some (.builtin y13)),(some (.bool true))]⟩⟩
noncomputable def o26:=oF y16 [vR 44,vR 44,vR 44]
noncomputable def o27:=oF y7 [(.builtin y17),vR 44]
noncomputable def o28 (P:Params):Obj:=oD y3 [dE P n18 237 (vS n4 194),dE P n19 239 (vS n16 238),dE P n20 241 (vI 9 240),dE P n21 242 (vR 54)] 4
noncomputable def o29 (P:Params):Obj:=oC y1 n16 232 n16 233 n1 234 9 0 0 0 0 50 false 181 51 .none .none .none .none 235 9 n1 236
noncomputable def o30 (P:Params):Obj:=⟨(.type y2),none,.plain,⟨[(some (vR 52)),(some (vR 3)),(some (vR 49)),none,(some (vS n4 194)),none,(some (vR 0))]⟩⟩
noncomputable def o31 (P:Params):Obj:=oD y3 [dE P n18 237 (vS n4 194),dE P n20 241 (vI 9 240),dE P n21 242 (vR 54),dE P n5 243 .none] 2
noncomputable def o32 (P:Params):Obj:=⟨(.type y9),none,(.cls ⟨n16,[vR 31],[vR 56,vR 31,(.type y6),(.type y10),(.type y11),(.type y12)],55,n16,true,[],[],false,none,false⟩),⟨[(some (vR 47)),none,(some (vS n16 230)),(some (vS n16 238)),(some (.builtin y13)),(some (.bool true))]⟩⟩
noncomputable def o33:=oF y16 [vR 56,vR 56,vR 56]
noncomputable def o34:=oF y7 [(.builtin y17),vR 56]
noncomputable def o35 (P:Params):Obj:=oD y3 [dE P n3 165 (vS n23 335),dE P n5 166 .none,dE P n6 167 .none,dE P n7 168 (.builtin y4),dE P n8 169 .none,dE P n9 170 (vR 6),dE P n10 171 (vR 4),dE P n11 173 (vS n1 172),dE P n12 174 .none,dE P n13 193 (vR 21),dE P n14 213 (vR 31),dE P n15 229 (vR 44),dE P n16 245 (vR 56),dE P n24 261 (vR 68),dE P n25 277 (vR 80),dE P n26 293 (vR 92),dE P n27 297 (vI 8 296),dE P n28 303 (vR 99),dE P n29 316 (vR 106),dE P n30 326 (vR 113),dE P n31 334 (vR 120)] 21
noncomputable def o36:=oR [1,20,5,27,7,40,9,52,11,64,13,76,15,88,19,98,26,105,34,112,41,119]
noncomputable def o37 (P:Params):Obj:=⟨(.type y9),none,(.cls ⟨n14,[(.type y6)],[vR 31,(.type y6),(.type y10),(.type y11),(.type y12)],30,n14,true,[],[vR 44,vR 56,vR 68,vR 80,vR 92],false,none,false⟩),⟨[(some (vR 22)),none,(some (vS n14 196)),(some (vS n14 204)),(some (.builtin y13)),(some (.bool true))]⟩⟩
noncomputable def o38 (P:Params):Obj:=oD y3 [dE P n18 253 (vS n4 194),dE P n19 255 (vS n24 254),dE P n20 257 (vI 11 256),dE P n21 258 (vR 66)] 4
noncomputable def o39 (P:Params):Obj:=oC y1 n24 248 n24 249 n1 250 11 0 0 0 0 62 false 181 63 .none .none .none .none 251 11 n1 252
noncomputable def o40 (P:Params):Obj:=⟨(.type y2),none,.plain,⟨[(some (vR 64)),(some (vR 3)),(some (vR 61)),none,(some (vS n4 194)),none,(some (vR 0))]⟩⟩
noncomputable def o41 (P:Params):Obj:=oD y3 [dE P n18 253 (vS n4 194),dE P n20 257 (vI 11 256),dE P n21 258 (vR 66),dE P n5 259 .none] 2
noncomputable def o42 (P:Params):Obj:=⟨(.type y9),none,(.cls ⟨n24,[vR 31],[vR 68,vR 31,(.type y6),(.type y10),(.type y11),(.type y12)],67,n24,true,[],[],false,none,false⟩),⟨[(some (vR 59)),none,(some (vS n24 246)),(some (vS n24 254)),(some (.builtin y13)),(some (.bool true))]⟩⟩
noncomputable def o43:=oF y16 [vR 68,vR 68,vR 68]
noncomputable def o44:=oF y7 [(.builtin y17),vR 68]
noncomputable def o45 (P:Params):Obj:=oD y3 [dE P n18 269 (vS n4 194),dE P n19 271 (vS n25 270),dE P n20 273 (vI 13 272),dE P n21 274 (vR 78)] 4
noncomputable def o46 (P:Params):Obj:=oC y1 n25 264 n25 265 n1 266 13 0 0 0 0 74 false 181 75 .none .none .none .none 267 13 n1 268
noncomputable def o47 (P:Params):Obj:=⟨(.type y2),none,.plain,⟨[(some (vR 76)),(some (vR 3)),(some (vR 73)),none,(some (vS n4 194)),none,(some (vR 0))]⟩⟩
noncomputable def o48 (P:Params):Obj:=oD y3 [dE P n18 269 (vS n4 194),dE P n20 273 (vI 13 272),dE P n21 274 (vR 78),dE P n5 275 .none] 2
noncomputable def o49 (P:Params):Obj:=⟨(.type y9),none,(.cls ⟨n25,[vR 31],[vR 80,vR 31,(.type y6),(.type y10),(.type y11),(.type y12)],79,n25,true,[],[],false,none,false⟩),⟨[(some (vR 71)),none,(some (vS n25 262)),(some (vS n25 270)),(some (.builtin y13)),(some (.bool true))]⟩⟩
noncomputable def o50:=oF y16 [vR 80,vR 80,vR 80]
noncomputable def o51:=oF y7 [(.builtin y17),vR 80]
noncomputable def o52 (P:Params):Obj:=oD y3 [dE P n18 285 (vS n4 194),dE P n19 287 (vS n26 286),dE P n20 289 (vI 15 288),dE P n21 290 (vR 90)] 4
noncomputable def o53 (P:Params):Obj:=oC y1 n26 280 n26 281 n1 282 15 0 0 0 0 86 false 181 87 .none .none .none .none 283 15 n1 284
noncomputable def o54 (P:Params):Obj:=⟨(.type y2),none,.plain,⟨[(some (vR 88)),(some (vR 3)),(some (vR 85)),none,(some (vS n4 194)),none,(some (vR 0))]⟩⟩
noncomputable def o55 (P:Params):Obj:=oD y3 [dE P n18 285 (vS n4 194),dE P n20 289 (vI 15 288),dE P n21 290 (vR 90),dE P n5 291 .none] 2
noncomputable def o56 (P:Params):Obj:=⟨(.type y9),none,(.cls ⟨n26,[vR 31],[vR 92,vR 31,(.type y6),(.type y10),(.type y11),(.type y12)],91,n26,true,[],[],false,none,false⟩),⟨[(some (vR 83)),none,(some (vS n26 278)),(some (vS n26 286)),(some (.builtin y13)),(some (.bool true))]⟩⟩
noncomputable def o57:=oF y16 [vR 92,vR 92,vR 92]
noncomputable def o58:=oF y7 [(.builtin y17),vR 92]
noncomputable def o59:=oN n28 n28 (top 10)
noncomputable def o60 (P:Params):Obj:=oC y1 n28 298 n28 299 n1 300 19 1 0 0 3 95 true 181 96 .none .none .none (vR 97) 301 19 n1 302
noncomputable def o61:=oG n28 n28 (top 10) n32 294 98
noncomputable def o62:=oQ y0 [vS n33 309,vS n34 310,vS n35 311,vS n36 312,vS n37 313] 0
noncomputable def o63:=oN n29 n29 (top 12)
noncomputable def o64:=oE n29 n29 306 26 2 100 314
noncomputable def o65:=oG n29 n29 (top 12) n38 304 105
noncomputable def o66:=oQ y0 [vS n33 320,vS n34 321,vS n35 322,vS n39 323] 0
noncomputable def o67:=oN n30 n30 (top 13)
noncomputable def o68:=oE n30 n30 317 34 2 107 324
noncomputable def o69:=oG n30 n30 (top 13) n38 304 112
noncomputable def o70:=oQ y0 [vS n33 330,vS n34 331] 0
noncomputable def o71:=oN n31 n31 (top 14)
noncomputable def o72:=oE n31 n31 327 41 2 114 332
noncomputable def o73:=oG n31 n31 (top 14) n38 304 119
noncomputable def o74 (P:Params):Obj:=oD y3 [dE P n3 165 (vS n23 335),dE P n5 166 .none,dE P n6 167 .none,dE P n7 168 (.builtin y4),dE P n8 169 .none,dE P n9 170 (vR 6),dE P n10 171 (vR 4),dE P n11 173 (vS n1 172),dE P n12 174 .none,dE P n13 193 (vR 21),dE P n14 213 (vR 31),dE P n15 229 (vR 44),dE P n16 245 (vR 56),dE P n24 261 (vR 68),dE P n25 277 (vR 80),dE P n26 293 (vR 92),dE P n27 297 (vI 8 296),dE P n28 303 (vR 99),dE P n29 316 (vR 106),dE P n30 326 (vR 113),dE P n31 334 (vR 120),dE P n40 338 (vI 90 337),dE P n41 340 (vI 12 339),dE P n42 342 (vI 0 341),dE P n43 512 (vR 247)] 25
noncomputable def o75:=oR [1,20,5,27,7,40,9,52,11,64,13,76,15,88,19,98,26,105,34,112,41,119,47,126]
noncomputable def o76 (P:Params):Obj:=oD y3 [dE P n18 350 (vS n23 335),dE P n19 352 (vS n43 351),dE P n20 354 (vI 47 353),dE P n44 362 (vR 134),dE P n45 372 (vR 141),dE P n46 380 (vR 148),dE P n47 391 (vR 155),dE P n48 399 (vR 162),dE P n49 405 (vR 167),dE P n50 414 (vR 174),dE P n51 423 (vR 181),dE P n52 432 (vR 188),dE P n53 441 (vR 195),dE P n54 449 (vR 202),dE P n55 457 (vR 209),dE P n56 465 (vR 216),dE P n57 473 (vR 223),dE P n58 481 (vR 230),dE P n59 489 (vR 237),dE P n60 497 (vR 244),dE P n21 505 (vR 245)] 21
noncomputable def o77 (P:Params):Obj:=⟨.none,none,(.fields ⟨[vI 49 0,vI 4 0,vR 133,vI 60 0,vI 4 0,vR 140,vI 71 0,vI 4 0,vR 147,vI 75 0,vI 4 0,vR 154,vI 87 0,vI 4 0,vR 161,vI 90 0,vI 4 0,vR 166,vI 109 0,vI 4 0,vR 173,vI 117 0,vI 4 0,vR 180,vI 125 0,vI 4 0,vR 187,vI 132 0,vI 4 0,vR 194,vI 139 0,vI 4 0,vR 201,vI 142 0,vI 4 0,vR 208,vI 145 0,vI 4 0,vR 215,vI 149 0,vI 4 0,vR 222,vI 153 0,vI 4 0,vR 229,vI 157 0,vI 4 0,vR 236,vI 161 0,vI 4 0,vR 243]⟩),⟨[]⟩⟩
noncomputable def o78 (P:Params):Obj:=oC y1 n43 345 n43 346 n1 347 47 0 0 0 0 124 false 181 125 .none .none .none .none 348 47 n1 349
noncomputable def o79 (P:Params):Obj:=⟨(.type y2),none,.plain,⟨[(some (vR 126)),(some (vR 3)),(some (vR 123)),none,(some (vS n23 335)),none,(some (vR 0))]⟩⟩
noncomputable def o80:=oQ y0 [vS n61 358,vS n62 359] 0
noncomputable def o81:=oN n44 n63 (inClass (top 19) 0)
noncomputable def o82:=oE n44 n63 355 49 2 128 360
noncomputable def o83:=oG n44 n63 (inClass (top 19) 0) n23 335 133
noncomputable def o84:=oQ y0 [vS n61 366,vS n39 367,vS n62 368,vS n34 369] 0
noncomputable def o85:=oN n45 n64 (inClass (top 19) 1)
noncomputable def o86:=oE n45 n64 363 60 3 135 370
noncomputable def o87:=oG n45 n64 (inClass (top 19) 1) n23 335 140
noncomputable def o88:=oQ y0 [vS n61 376,vS n34 377] 0
noncomputable def o89:=oN n46 n65 (inClass (top 19) 2)
noncomputable def o90:=oE n46 n65 373 71 2 142 378
noncomputable def o91:=oG n46 n65 (inClass (top 19) 2) n23 335 147
noncomputable def o92:=oQ y0 [vS n61 384,vS n39 385,vS n66 386,vS n62 387,vS n34 388] 0
noncomputable def o93:=oN n47 n67 (inClass (top 19) 3)
noncomputable def o94:=oE n47 n67 381 75 4 149 389
noncomputable def o95:=oG n47 n67 (inClass (top 19) 3) n23 335 154
noncomputable def o96:=oQ y0 [vS n61 395,vS n34 396] 0
noncomputable def o97:=oN n48 n68 (inClass (top 19) 4)
noncomputable def o98:=oE n48 n68 392 87 2 156 397
noncomputable def o99:=oG n48 n68 (inClass (top 19) 4) n23 335 161
noncomputable def KL:=oN n49 n69 (inClass (top 19) 5)
noncomputable def HY (P:Params):Obj:=oC y1 n49 400 n69 401 n1 402 90 4 0 0 3 163 true 181 164 .none .none .none (vR 165) 403 90 n1 404
noncomputable def HX:=oG n49 n69 (inClass (top 19) 5) n23 335 166
noncomputable def KJ:=oQ y0 [vS n61 409,vS n34 410,vS n70 411] 0
noncomputable def KI:=oN n50 n71 (inClass (top 19) 6)
noncomputable def HW:=oE n50 n71 406 109 3 168 412
noncomputable def HV:=oG n50 n71 (inClass (top 19) 6) n23 335 173
noncomputable def KH:=oQ y0 [vS n61 418,vS n34 419,vS n70 420] 0
noncomputable def KG:=oN n51 n72 (inClass (top 19) 7)
noncomputable def HU:=oE n51 n72 415 117 3 175 421
noncomputable def HS:=oG n51 n72 (inClass (top 19) 7) n23 335 180
noncomputable def KD:=oQ y0 [vS n61 427,vS n34 428,vS n73 429] 0
noncomputable def KC:=oN n52 n74 (inClass (top 19) 8)
noncomputable def HR:=oE n52 n74 424 125 3 182 430
noncomputable def HQ:=oG n52 n74 (inClass (top 19) 8) n23 335 187
noncomputable def KA:=oQ y0 [vS n61 436,vS n34 437,vS n75 438] 0
noncomputable def Kz:=oN n53 n76 (inClass (top 19) 9)
noncomputable def HP:=oE n53 n76 433 132 3 189 439
noncomputable def HN:=oG n53 n76 (inClass (top 19) 9) n23 335 194
noncomputable def Ky:=oQ y0 [vS n61 445,vS n34 446] 0
noncomputable def Kx:=oN n54 n77 (inClass (top 19) 10)
noncomputable def HM:=oE n54 n77 442 139 2 196 447
noncomputable def HL:=oG n54 n77 (inClass (top 19) 10) n23 335 201
noncomputable def Kw:=oQ y0 [vS n61 453,vS n34 454] 0
noncomputable def Kv:=oN n55 n78 (inClass (top 19) 11)
noncomputable def HK:=oE n55 n78 450 142 2 203 455
noncomputable def HJ:=oG n55 n78 (inClass (top 19) 11) n23 335 208
noncomputable def Ku:=oQ y0 [vS n61 461,vS n34 462] 0
noncomputable def Kt:=oN n56 n79 (inClass (top 19) 12)
noncomputable def HI:=oE n56 n79 458 145 2 210 463
noncomputable def HH:=oG n56 n79 (inClass (top 19) 12) n23 335 215
noncomputable def Ks:=oQ y0 [vS n61 469,vS n34 470] 0
noncomputable def Kr:=oN n57 n80 (inClass (top 19) 13)
noncomputable def HG:=oE n57 n80 466 149 2 217 471
noncomputable def HF:=oG n57 n80 (inClass (top 19) 13) n23 335 222
noncomputable def Kq:=oQ y0 [vS n61 477,vS n34 478] 0
noncomputable def Kp:=oN n58 n81 (inClass (top 19) 14)
noncomputable def HE:=oE n58 n81 474 153 2 224 479
noncomputable def HD:=oG n58 n81 (inClass (top 19) 14) n23 335 229
noncomputable def Ko:=oQ y0 [vS n61 485,vS n34 486] 0
noncomputable def Kn:=oN n59 n82 (inClass (top 19) 15)
noncomputable def HC:=oE n59 n82 482 157 2 231 487
noncomputable def HB:=oG n59 n82 (inClass (top 19) 15) n23 335 236
noncomputable def Km:=oQ y0 [vS n61 493,vS n34 494] 0
noncomputable def Kl:=oN n60 n83 (inClass (top 19) 16)
noncomputable def HA:=oE n60 n83 490 161 2 238 495
noncomputable def Hz:=oG n60 n83 (inClass (top 19) 16) n23 335 243
noncomputable def Hy:=oQ y0 [vS n84 498,vS n85 499,vS n86 500,vS n87 501,vS n88 502,vS n75 503,vS n73 504] 0
noncomputable def Hx (P:Params):Obj:=oD y3 [dE P n18 350 (vS n23 335),dE P n20 354 (vI 47 353),dE P n44 362 (vR 134),dE P n45 372 (vR 141),dE P n46 380 (vR 148),dE P n47 391 (vR 155),dE P n48 399 (vR 162),dE P n49 405 (vR 167),dE P n50 414 (vR 174),dE P n51 423 (vR 181),dE P n52 432 (vR 188),dE P n53 441 (vR 195),dE P n54 449 (vR 202),dE P n55 457 (vR 209),dE P n56 465 (vR 216),dE P n57 473 (vR 223),dE P n58 481 (vR 230),dE P n59 489 (vR 237),dE P n60 497 (vR 244),dE P n21 505 (vR 245),dE P n89 507 (vR 248),dE P n22 509 (vR 249),dE P n5 510 .none] 4
noncomputable def Hw (P:Params):Obj:=⟨(.type y9),none,(.cls ⟨n43,[(.type y12)],[vR 247,(.type y12)],246,n43,true,[],[],false,none,false⟩),⟨[none,none,(some (vS n43 343)),(some (vS n43 351)),(some (.builtin y18)),(some (.bool true))]⟩⟩
noncomputable def Hv:=oF y14 [vS n89 506,vR 247,(.builtin y19),(.builtin y20)]
noncomputable def Hu:=oF y14 [vS n22 508,vR 247,(.builtin y15),.none]
noncomputable def Kk:=oF y16 [vR 247,vR 247,vR 247]
noncomputable def Kj:=oF y7 [(.builtin y17),vR 247]
noncomputable def Ki (P:Params):Obj:=oD y3 [dE P n3 165 (vS n90 528),dE P n5 166 .none,dE P n6 167 .none,dE P n7 168 (.builtin y4),dE P n8 169 .none,dE P n9 170 (vR 6),dE P n10 171 (vR 4),dE P n11 173 (vS n1 172),dE P n12 174 .none,dE P n13 193 (vR 21),dE P n14 213 (vR 31),dE P n15 229 (vR 44),dE P n16 245 (vR 56),dE P n24 261 (vR 68),dE P n25 277 (vR 80),dE P n26 293 (vR 92),dE P n27 297 (vI 8 296),dE P n28 303 (vR 99),dE P n29 316 (vR 106),dE P n30 326 (vR 113),dE P n31 334 (vR 120),dE P n40 338 (vI 90 337),dE P n41 340 (vI 12 339),dE P n42 342 (vI 0 341),dE P n43 512 (vR 247),dE P n91 519 (vR 258),dE P n92 527 (vR 265),dE P n93 537 (vR 272),dE P n94 546 (vR 279),dE P n95 552 (vR 284),dE P n96 567 (vR 291),dE P n97 574 (vR 298),dE P n98 583 (vR 305),dE P n99 594 (vR 312),dE P Dh 603 (vR 319),dE P De 609 (vR 324),dE P C9 615 (vR 329),dE P C8 621 (vR 334),dE P C7 627 (vR 339),dE P C6 640 (vR 346),dE P C5 646 (vR 351),dE P C4 658 (vR 358),dE P C3 675 (vR 365)] 43
noncomputable def Mn:=oR [1,20,5,27,7,40,9,52,11,64,13,76,15,88,19,98,26,105,34,112,41,119,47,126,164,257,167,264,171,271,175,278,178,283,182,290,191,297,193,304,200,311,208,318,214,323,227,328,246,333,252,338,262,345,280,350,304,357,313,364]
noncomputable def Mm:=oQ y0 [vS n62 516] 0
noncomputable def Ml:=oN n91 n91 (top 20)
noncomputable def Kh:=oE n91 n91 513 164 1 252 517
noncomputable def Kg:=oG n91 n91 (top 20) n23 335 257
noncomputable def Mj:=oQ y0 [vS n66 523,vS NT 524] 0
noncomputable def Mi:=oN n92 n92 (top 21)
noncomputable def Kf:=oE n92 n92 520 167 2 259 525
noncomputable def Ke:=oG n92 n92 (top 21) n23 335 264
noncomputable def Mh:=oQ y0 [vS KW 533,vS Ia 534] 0
noncomputable def Mg:=oN n93 n93 (top 23)
noncomputable def Kc:=oE n93 n93 530 171 2 266 535
noncomputable def Kb:=oG n93 n93 (top 23) n90 528 271
noncomputable def Me:=oQ y0 [vS KS 541,vS Mx 542,vS NS 543] 0
noncomputable def Md:=oN n94 n94 (top 24)
noncomputable def Ka:=oE n94 n94 538 175 2 273 544
noncomputable def J9:=oG n94 n94 (top 24) n90 528 278
noncomputable def Mc:=oN n95 n95 (top 25)
noncomputable def J8 (P:Params):Obj:=oC y1 n95 547 n95 548 n1 549 178 2 0 0 3 280 true 181 281 .none .none .none (vR 282) 550 178 n1 551
noncomputable def J7:=oG n95 n95 (top 25) n90 528 283
noncomputable def Mb:=oQ y0 [vS KW 556,vS NR 557,vS NQ 558,vS Mw 559,vS KR 560,vS NP 561,vS NO 562,vS NN 563,vS NM 564] 0
noncomputable def Ma:=oN n96 n96 (top 26)
noncomputable def J6:=oE n96 n96 553 182 2 285 565
noncomputable def J5:=oG n96 n96 (top 26) n90 528 290
noncomputable def L9:=oQ y0 [vS Mv 571] 0
noncomputable def L8:=oN n97 n97 (top 27)
noncomputable def J4:=oE n97 n97 568 191 1 292 572
noncomputable def J3:=oG n97 n97 (top 27) n90 528 297
noncomputable def L7:=oQ y0 [vS Mv 578,vS NL 579,vS Ia 580] 0
noncomputable def L6:=oN n98 n98 (top 28)
noncomputable def J2:=oE n98 n98 575 193 2 299 581
noncomputable def J1:=oG n98 n98 (top 28) n90 528 304
noncomputable def L5:=oQ y0 [vS Mu 587,vS HZ 588,vS NK 589,vS NJ 590,vS Mw 591] 0
noncomputable def L4:=oN n99 n99 (top 29)
noncomputable def J0:=oE n99 n99 584 200 2 306 592
noncomputable def JZ:=oG n99 n99 (top 29) n90 528 311
noncomputable def L3:=oQ y0 [vS Ms 598,vS HZ 599,vS NI 600] 0
noncomputable def L1:=oN Dh Dh (top 30)
noncomputable def JY:=oE Dh Dh 595 208 2 313 601
noncomputable def JX:=oG Dh Dh (top 30) n90 528 318
noncomputable def L0:=oN De De (top 31)
noncomputable def JW (P:Params):Obj:=oC y1 De 604 De 605 n1 606 214 6 0 0 3 320 true 181 321 .none .none .none (vR 322) 607 214 n1 608
noncomputable def JV:=oG De De (top 31) n90 528 323
noncomputable def LZ:=oN C9 C9 (top 32)
noncomputable def JU (P:Params):Obj:=oC y1 C9 610 C9 611 n1 612 227 5 0 0 3 325 true 181 326 .none .none .none (vR 327) 613 227 n1 614
noncomputable def JT:=oG C9 C9 (top 32) n90 528 328
noncomputable def LY:=oN C8 C8 (top 33)
noncomputable def JS (P:Params):Obj:=oC y1 C8 616 C8 617 n1 618 246 2 0 0 3 330 true 181 331 .none .none .none (vR 332) 619 246 n1 620
noncomputable def JR:=oG C8 C8 (top 33) n90 528 333
noncomputable def LX:=oN C7 C7 (top 34)
noncomputable def JQ (P:Params):Obj:=oC y1 C7 622 C7 623 n1 624 252 3 0 0 3 335 true 181 336 .none .none .none (vR 337) 625 252 n1 626
noncomputable def JP:=oG C7 C7 (top 34) n90 528 338
noncomputable def LW:=oQ y0 [vS KS 631,vS Mx 632,vS Mr 633,vS KR 634,vS NH 635,vS NG 636,vS Ia 637] 0
noncomputable def LV:=oN C6 C6 (top 35)
noncomputable def JO:=oE C6 C6 628 262 3 340 638
noncomputable def JN:=oG C6 C6 (top 35) n90 528 345
noncomputable def LU:=oN C5 C5 (top 36)
noncomputable def JM (P:Params):Obj:=oC y1 C5 641 C5 642 n1 643 280 6 0 0 3 347 true 181 348 .none .none .none (vR 349) 644 280 n1 645
noncomputable def JL:=oG C5 C5 (top 36) n90 528 350
noncomputable def LS:=oQ y0 [vS Mq 650,vS Mp 651,vS HZ 652,vS NF 653,vS ND 654,vS Mr 655] 0
noncomputable def LR:=oN C4 C4 (top 37)
noncomputable def JK:=oE C4 C4 647 304 3 352 656
noncomputable def JJ:=oG C4 C4 (top 37) n90 528 357
noncomputable def LQ:=oQ y0 [vS KW 662,vS NC 663,vS Mq 664,vS NB 665,vS Mu 666,vS Ms 667,vS Mp 668,vS Ia 669,vS KS 670,vS KR 671,vS HZ 672] 0
noncomputable def LP:=oN C3 C3 (top 38)
noncomputable def JI:=oE C3 C3 659 313 1 359 673
noncomputable def JH:=oG C3 C3 (top 38) n90 528 364
noncomputable def lf0:Life:=⟨[],[],[],0,[],[],false,⟨[]⟩,[],0,false,false,false,(.ofNat 0),[(.ofNat 2000),(.ofNat 10),(.ofNat 10)],false,0,true,[],[],0,false⟩
noncomputable def hcd:Value:=(vR 13)
noncomputable def hq:Pos:=⟨0,0,0,0⟩
noncomputable def hE:Env:={ scope:=hp.main.scope,locals:=mainNs,globals:=mainNs,cells:=[],code:=hcd,frame:=some 14 }
noncomputable def hC:Code:=.body (behindTheImports hp) hE
noncomputable def hB:List Frame:=[topFrame hq]
noncomputable def hAn:Option Value:=(some (vR 6))
noncomputable def hA (P:Params):Heap:=⟨⟨(boot_o_0 P::boot_o_1 P::boot_o_2 P::boot_o_3 P::boot_o_4 P::boot_o_5 P::boot_o_6 P::boot_o_7 P::boot_o_8 P::boot_o_9 P::boot_o_10 P::o0 P::o1 P::o2 P::o3 P::[])⟩,lf0⟩
noncomputable def tr1:=(tN boot_o_0 (tN boot_o_1 (tN boot_o_3 (tL boot_o_7) (tL o0)) (tN boot_o_5 (tL boot_o_9) (tL o2))) (tN boot_o_2 (tN boot_o_4 (tL boot_o_8) (tL o1)) (tN boot_o_6 (tL boot_o_10) (tL o3))))
noncomputable def S1 (w:World) (os:OsState):SharedT:=⟨tr1 w.params,15,lf0,⟨[]⟩,⟨0,0,0,0⟩,187,os⟩
noncomputable def tr2:=(tN boot_o_0 (tN boot_o_1 (tN o4 (tN boot_o_7 (tN o0 (tL o16) (tL o20)) (tN o11 (tL o1) (tL o31))) (tN o0 (tN o7 (tL o20) (tL o1)) (tN o13 (tL o24) tZ))) (tN boot_o_5 (tN boot_o_9 (tN o6 (tL o18) (tL o28)) (tN o0 (tL o23) (tL o33))) (tN o2 (tN o9 (tL o21) (tL o30)) (tN o0 (tL o26) tZ)))) (tN boot_o_2 (tN boot_o_4 (tN boot_o_8 (tN o1 (tL o17) (tL o11)) (tN o12 (tL o22) (tL o32))) (tN o5 (tN o8 (tL o11) (tL o29)) (tN o14 (tL o25) tZ))) (tN boot_o_6 (tN boot_o_10 (tN o0 (tL o19) (tL o0)) (tN o1 (tL o0) (tL o34))) (tN o3 (tN o10 (tL o0) (tL o0)) (tN o15 (tL o27) tZ)))))
noncomputable def S2 (w:World) (os:OsState):SharedT:=⟨tr2 w.params,59,lf0,⟨[]⟩,⟨0,0,0,0⟩,246,os⟩
noncomputable def tr3:=(tN boot_o_0 (tN boot_o_1 (tN o35 (tN boot_o_7 (tN o0 (tN o37 (tL o1) (tL o0)) (tN o20 (tL o48) (tL o67))) (tN o11 (tN o1 (tL o20) (tL o0)) (tN o31 (tL o1) (tL o72)))) (tN o0 (tN o7 (tN o20 (tL o41) (tL o61)) (tN o1 (tL o20) (tL o1))) (tN o13 (tN o24 (tL o1) (tL o0)) (tN o20 (tL o55) tZ)))) (tN boot_o_5 (tN boot_o_9 (tN o6 (tN o18 (tL o40) (tL o59)) (tN o28 (tL o50) (tL o69))) (tN o0 (tN o23 (tL o45) (tL o64)) (tN o33 (tL o54) tZ))) (tN o2 (tN o9 (tN o21 (tL o43) (tL o1)) (tN o30 (tL o52) (tL o0))) (tN o0 (tN o26 (tL o47) (tL o66)) (tN o38 (tL o57) tZ))))) (tN boot_o_2 (tN boot_o_4 (tN boot_o_8 (tN o1 (tN o17 (tL o39) (tL o1)) (tN o11 (tL o49) (tL o68))) (tN o12 (tN o22 (tL o11) (tL o63)) (tN o32 (tL o53) (tL o73)))) (tN o36 (tN o8 (tN o11 (tL o42) (tL o0)) (tN o29 (tL o11) (tL o70))) (tN o14 (tN o25 (tL o46) (tL o1)) (tN o11 (tL o56) tZ)))) (tN boot_o_6 (tN boot_o_10 (tN o0 (tN o19 (tL o0) (tL o60)) (tN o0 (tL o51) (tL o0))) (tN o1 (tN o0 (tL o0) (tL o65)) (tN o34 (tL o0) tZ))) (tN o3 (tN o10 (tN o0 (tL o44) (tL o62)) (tN o0 (tL o0) (tL o71))) (tN o15 (tN o27 (tL o0) (tL o0)) (tN o0 (tL o58) tZ))))))
noncomputable def S3 (w:World) (os:OsState):SharedT:=⟨tr3 w.params,121,lf0,⟨[]⟩,⟨0,0,0,0⟩,337,os⟩
noncomputable def tr4:=(tN boot_o_0 (tN boot_o_1 (tN o74 (tN boot_o_7 (tN o0 (tN o37 (tN o1 (tL o79) (tL KA)) (tN o0 (tL o0) (tL HF))) (tN o20 (tN o48 (tL o1) (tL Kv)) (tN o67 (tL o0) (tL o1)))) (tN o11 (tN o1 (tN o20 (tL o0) (tL o0)) (tN o0 (tL HX) (tL o0))) (tN o31 (tN o1 (tL o92) (tL HI)) (tN o72 (tL o1) (tL Hw))))) (tN o0 (tN o7 (tN o20 (tN o41 (tL o0) (tL HN)) (tN o61 (tL o0) (tL o0))) (tN o1 (tN o20 (tL o90) (tL o1)) (tN o1 (tL KG) (tL HA)))) (tN o13 (tN o24 (tN o1 (tL o85) (tL o0)) (tN o0 (tL o0) (tL Kn))) (tN o20 (tN o55 (tL o95) (tL Ks)) (tN o76 (tL HR) (tL Kj)))))) (tN boot_o_5 (tN boot_o_9 (tN o6 (tN o18 (tN o40 (tL o1) (tL Kz)) (tN o59 (tL o98) (tL o1))) (tN o28 (tN o50 (tL o0) (tL HJ)) (tN o69 (tL KH) (tL o0)))) (tN o0 (tN o23 (tN o45 (tL o84) (tL HM)) (tN o64 (tL o1) (tL Ko))) (tN o33 (tN o54 (tL o93) (tL o0)) (tN o0 (tL o0) (tL Hu))))) (tN o2 (tN o9 (tN o21 (tN o43 (tL o82) (tL o1)) (tN o1 (tL KL) (tL HE))) (tN o30 (tN o52 (tL o0) (tL o0)) (tN o0 (tL HS) (tL Hy)))) (tN o0 (tN o26 (tN o47 (tL o87) (tL Kw)) (tN o66 (tL HW) (tL HB))) (tN o38 (tN o57 (tL o1) (tL Kr)) (tN o77 (tL o0) tZ)))))) (tN boot_o_2 (tN boot_o_4 (tN boot_o_8 (tN o1 (tN o17 (tN o39 (tL o0) (tL o0)) (tN o1 (tL o97) (tL o0))) (tN o11 (tN o49 (tL o88) (tL HK)) (tN o68 (tL o1) (tL Km)))) (tN o12 (tN o22 (tN o11 (tL o1) (tL Kx)) (tN o63 (tL o0) (tL o1))) (tN o32 (tN o53 (tL o0) (tL HH)) (tN o73 (tL KD) (tL Hv))))) (tN o75 (tN o8 (tN o11 (tN o42 (tL o81) (tL o0)) (tN o0 (tL o1) (tL Kp))) (tN o29 (tN o11 (tL o91) (tL Ku)) (tN o70 (tL HU) (tL Hz)))) (tN o14 (tN o25 (tN o46 (tL o86) (tL o1)) (tN o1 (tL KI) (tL HC))) (tN o11 (tN o56 (tL o0) (tL o0)) (tN o0 (tL HQ) tZ))))) (tN boot_o_6 (tN boot_o_10 (tN o0 (tN o19 (tN o0 (tL o80) (tL HP)) (tN o60 (tL o99) (tL Kq))) (tN o0 (tN o51 (tL o89) (tL o0)) (tN o0 (tL o0) (tL Kl)))) (tN o1 (tN o0 (tN o0 (tL o0) (tL HL)) (tN o65 (tL KJ) (tL o0))) (tN o34 (tN o0 (tL o94) (tL o1)) (tN o11 (tL KC) (tL Kk))))) (tN o3 (tN o10 (tN o0 (tN o44 (tL o83) (tL Ky)) (tN o62 (tL HY) (tL HD))) (tN o0 (tN o0 (tL o1) (tL Kt)) (tN o71 (tL o0) (tL Hx)))) (tN o15 (tN o27 (tN o0 (tL o0) (tL o0)) (tN o0 (tL HV) (tL o0))) (tN o0 (tN o58 (tL o96) (tL HG)) (tN o78 (tL o1) tZ)))))))
noncomputable def S4 (w:World) (os:OsState):SharedT:=⟨tr4 w.params,252,lf0,⟨[]⟩,⟨0,0,0,0⟩,513,os⟩
noncomputable def tr5:=(tN boot_o_0 (tN boot_o_1 (tN Ki (tN boot_o_7 (tN o0 (tN o37 (tN o1 (tN o79 (tL o0) tZ) (tN KA (tL JX) tZ)) (tN o0 (tN o0 (tL Mb) tZ) (tN HF (tL JL) tZ))) (tN o20 (tN o48 (tN o1 (tL Kc) tZ) (tN Kv (tL o0) tZ)) (tN o67 (tN o0 (tL L6) tZ) (tL o1)))) (tN o11 (tN o1 (tN o20 (tN o0 (tL Mi) tZ) (tN o0 (tL LZ) tZ)) (tN o0 (tN HX (tL o0) tZ) (tN o0 (tL o0) tZ))) (tN o31 (tN o1 (tN o92 (tL J9) tZ) (tN HI (tL o0) tZ)) (tN o72 (tN o1 (tL J0) tZ) (tL Hw))))) (tN o0 (tN o7 (tN o20 (tN o41 (tN o0 (tL o0) tZ) (tN HN (tL JW) tZ)) (tN o61 (tN o0 (tL J5) tZ) (tN o0 (tL o0) tZ))) (tN o1 (tN o20 (tN o90 (tL Me) tZ) (tN o1 (tL JP) tZ)) (tN o1 (tN KG (tL o1) tZ) (tL HA)))) (tN o13 (tN o24 (tN o1 (tN o85 (tL o1) tZ) (tN o0 (tL o1) tZ)) (tN o0 (tN o0 (tL o0) tZ) (tN Kn (tL LP) tZ))) (tN o20 (tN o55 (tN o95 (tL J8) tZ) (tN Ks (tL o0) tZ)) (tN o76 (tN HR (tL L3) tZ) (tL Kj)))))) (tN boot_o_5 (tN boot_o_9 (tN o6 (tN o18 (tN o40 (tN o1 (tL Kh) tZ) (tN Kz (tL o1) tZ)) (tN o59 (tN o98 (tL Ma) tZ) (tN o1 (tL o1) tZ))) (tN o28 (tN o50 (tN o0 (tL o0) tZ) (tN HJ (tL LX) tZ)) (tN o69 (tN KH (tL J1) tZ) (tL o0)))) (tN o0 (tN o23 (tN o45 (tN o84 (tL Ke) tZ) (tN HM (tL JT) tZ)) (tN o64 (tN o1 (tL J4) tZ) (tN Ko (tL LQ) tZ))) (tN o33 (tN o54 (tN o93 (tL o1) tZ) (tN o0 (tL JO) tZ)) (tN o0 (tN o0 (tL o0) tZ) (tL Hu))))) (tN o2 (tN o9 (tN o21 (tN o43 (tN o82 (tL Mj) tZ) (tN o1 (tL o0) tZ)) (tN o1 (tN KL (tL o1) tZ) (tN HE (tL JK) tZ))) (tN o30 (tN o52 (tN o0 (tL Md) tZ) (tN o0 (tL o1) tZ)) (tN o0 (tN HS (tL o0) tZ) (tL Hy)))) (tN o0 (tN o26 (tN o47 (tN o87 (tL o0) tZ) (tN Kw (tL JS) tZ)) (tN o66 (tN HW (tL L7) tZ) (tN HB (tL JH) tZ))) (tN o38 (tN o57 (tN o1 (tL o0) tZ) (tN Kr (tL LU) tZ)) (tN o77 (tN o0 (tL L1) tZ) (tL o1))))))) (tN boot_o_2 (tN boot_o_4 (tN boot_o_8 (tN o1 (tN o17 (tN o39 (tN o0 (tL Ml) tZ) (tN o0 (tL o0) tZ)) (tN o1 (tN o97 (tL o0) tZ) (tN o0 (tL o0) tZ))) (tN o11 (tN o49 (tN o88 (tL Kb) tZ) (tN HK (tL o1) tZ)) (tN o68 (tN o1 (tL J2) tZ) (tL Km)))) (tN o12 (tN o22 (tN o11 (tN o1 (tL Kf) tZ) (tN Kx (tL JU) tZ)) (tN o63 (tN o0 (tL L8) tZ) (tN o1 (tL o1) tZ))) (tN o32 (tN o53 (tN o0 (tL o0) tZ) (tN HH (tL LV) tZ)) (tN o73 (tN KD (tL JZ) tZ) (tL Hv))))) (tN Mn (tN o8 (tN o11 (tN o42 (tN o81 (tL o1) tZ) (tN o0 (tL JV) tZ)) (tN o0 (tN o1 (tL o0) tZ) (tN Kp (tL LR) tZ))) (tN o29 (tN o11 (tN o91 (tL o0) tZ) (tN Ku (tL o0) tZ)) (tN o70 (tN HU (tL L5) tZ) (tL Hz)))) (tN o14 (tN o25 (tN o46 (tN o86 (tL Mh) tZ) (tN o1 (tL LY) tZ)) (tN o1 (tN KI (tL o1) tZ) (tN HC (tL JI) tZ))) (tN o11 (tN o56 (tN o0 (tL J7) tZ) (tN o0 (tL o1) tZ)) (tN o0 (tN HQ (tL o0) tZ) (tL o0)))))) (tN boot_o_6 (tN boot_o_10 (tN o0 (tN o19 (tN o0 (tN o80 (tL Kg) tZ) (tN HP (tL L0) tZ)) (tN o60 (tN o99 (tL J6) tZ) (tN Kq (tL LS) tZ))) (tN o0 (tN o51 (tN o89 (tL o1) tZ) (tN o0 (tL JQ) tZ)) (tN o0 (tN o0 (tL o0) tZ) (tL Kl)))) (tN o1 (tN o0 (tN o0 (tN o0 (tL o0) tZ) (tN HL (tL o0) tZ)) (tN o65 (tN KJ (tL J3) tZ) (tN o0 (tL o0) tZ))) (tN o34 (tN o0 (tN o94 (tL Mc) tZ) (tN o1 (tL JN) tZ)) (tN o11 (tN KC (tL o1) tZ) (tL Kk))))) (tN o3 (tN o10 (tN o0 (tN o44 (tN o83 (tL o0) tZ) (tN Ky (tL o1) tZ)) (tN o62 (tN HY (tL L9) tZ) (tN HD (tL JJ) tZ))) (tN o0 (tN o0 (tN o1 (tL Ka) tZ) (tN Kt (tL LW) tZ)) (tN o71 (tN o0 (tL L4) tZ) (tL Hx)))) (tN o15 (tN o27 (tN o0 (tN o0 (tL Mg) tZ) (tN o0 (tL JR) tZ)) (tN o0 (tN HV (tL o0) tZ) (tL o0))) (tN o0 (tN o58 (tN o96 (tL o1) tZ) (tN HG (tL JM) tZ)) (tN o78 (tN o1 (tL JY) tZ) (tL Mm))))))))
noncomputable def S5 (w:World) (os:OsState):SharedT:=⟨tr5 w.params,366,lf0,⟨[]⟩,⟨0,0,0,0⟩,676,os⟩
noncomputable def hF (P:Params):Heap:=⟨⟨(boot_o_0 P::boot_o_1 P::boot_o_2 P::Ki P::boot_o_4 P::boot_o_5 P::boot_o_6 P::boot_o_7 P::boot_o_8 P::boot_o_9 P::boot_o_10 P::o0 P::Mn P::o2 P::o3 P::o0 P::o1 P::o6 P::o0 P::o7 P::o8 P::o9 P::o10 P::o11 P::o12 P::o0 P::o1 P::o13 P::o14 P::o0 P::o15 P::o37 P::o17 P::o18 P::o19 P::o20 P::o11 P::o21 P::o0 P::o1 P::o22 P::o23 P::o0 P::o24 P::o25 P::o26 P::o27 P::o20 P::o11 P::o28 P::o0 P::o1 P::o29 P::o30 P::o0 P::o31 P::o32 P::o33 P::o34 P::o20 P::o11 P::o38 P::o0 P::o1 P::o39 P::o40 P::o0 P::o41 P::o42 P::o43 P::o44 P::o20 P::o11 P::o45 P::o0 P::o1 P::o46 P::o47 P::o0 P::o48 P::o49 P::o50 P::o51 P::o20 P::o11 P::o52 P::o0 P::o1 P::o53 P::o54 P::o0 P::o55 P::o56 P::o57 P::o58 P::o0 P::o1 P::o59 P::o60 P::o61 P::o0 P::o1 P::o62 P::o0 P::o63 P::o64 P::o65 P::o0 P::o1 P::o66 P::o0 P::o67 P::o68 P::o69 P::o0 P::o1 P::o70 P::o0 P::o71 P::o72 P::o73 P::o0 P::o11 P::o76 P::o0 P::o77 P::o78 P::o79 P::o0 P::o1 P::o80 P::o0 P::o81 P::o82 P::o83 P::o0 P::o1 P::o84 P::o0 P::o85 P::o86 P::o87 P::o0 P::o1 P::o88 P::o0 P::o89 P::o90 P::o91 P::o0 P::o1 P::o92 P::o0 P::o93 P::o94 P::o95 P::o0 P::o1 P::o96 P::o0 P::o97 P::o98 P::o99 P::o0 P::o1 P::KL P::HY P::HX P::o0 P::o1 P::KJ P::o0 P::KI P::HW P::HV P::o0 P::o1 P::KH P::o0 P::KG P::HU P::HS P::o0 P::o1 P::KD P::o0 P::KC P::HR P::HQ P::o0 P::o1 P::KA P::o0 P::Kz P::HP P::HN P::o0 P::o1 P::Ky P::o0 P::Kx P::HM P::HL P::o0 P::o1 P::Kw P::o0 P::Kv P::HK P::HJ P::o0 P::o1 P::Ku P::o0 P::Kt P::HI P::HH P::o0 P::o1 P::Ks P::o0 P::Kr P::HG P::HF P::o0 P::o1 P::Kq P::o0 P::Kp P::HE P::HD P::o0 P::o1 P::Ko P::o0 P::Kn P::HC P::HB P::o0 P::o1 P::Km P::o0 P::Kl P::HA P::Hz P::Hy P::Hx P::Hw P::Hv P::Hu P::Kk P::Kj P::o0 P::o1 P::Mm P::o0 P::Ml P::Kh P::Kg P::o0 P::o1 P::Mj P::o0 P::Mi P::Kf P::Ke P::o0 P::o1 P::Mh P::o0 P::Mg P::Kc P::Kb P::o0 P::o1 P::Me P::o0 P::Md P::Ka P::J9 P::o0 P::o1 P::Mc P::J8 P::J7 P::o0 P::o1 P::Mb P::o0 P::Ma P::J6 P::J5 P::o0 P::o1 P::L9 P::o0 P::L8 P::J4 P::J3 P::o0 P::o1 P::L7 P::o0 P::L6 P::J2 P::J1 P::o0 P::o1 P::L5 P::o0 P::L4 P::J0 P::JZ P::o0 P::o1 P::L3 P::o0 P::L1 P::JY P::JX P::o0 P::o1 P::L0 P::JW P::JV P::o0 P::o1 P::LZ P::JU P::JT P::o0 P::o1 P::LY P::JS P::JR P::o0 P::o1 P::LX P::JQ P::JP P::o0 P::o1 P::LW P::o0 P::LV P::JO P::JN P::o0 P::o1 P::LU P::JM P::JL P::o0 P::o1 P::LS P::o0 P::LR P::JK P::JJ P::o0 P::o1 P::LQ P::o0 P::LP P::JI P::JH P::[])⟩,lf0⟩
noncomputable def SA (w:World) (os:OsState):Shared:=⟨hA w.params,⟨[]⟩,⟨0,0,0,0⟩,187,os⟩
noncomputable def SF (w:World) (os:OsState):Shared:=⟨hF w.params,⟨[]⟩,⟨0,0,0,0⟩,676,os⟩
noncomputable def S0 (w:World) (os:OsState):Shared:=⟨boot_heap w.params,⟨[]⟩,boot_drawn,boot_toks,os⟩
noncomputable def M0:List Stmt:=[top 0,top 1,top 2,top 3,top 4]
noncomputable def MZ:List Stmt:=[top 5,top 6,top 7,top 8,top 9,top 10,top 11,top 12,top 13,top 14,top 15]
noncomputable def MY:List Stmt:=[top 16,top 17,top 18,top 19]
noncomputable def MX:List Stmt:=[top 20,top 21,top 22,top 23,top 24,top 25,top 26,top 27,top 28,top 29,top 30,top 31,top 32,top 33,top 34,top 35,top 36,top 37,top 38]
noncomputable def hV:Program:={ hp with main:={ hp.main with body:=[top 0,top 2,top 3,top 4,top 5,top 6,top 7,top 9,top 10,top 12,top 13,top 14,top 16,top 17,top 18,top 19,top 20,top 21,top 23,top 24,top 25,top 26,top 27,top 28,top 29,top 30,top 31,top 32,top 33,top 34,top 35,top 36,top 37,top 38] } }
noncomputable def hAs:List Addr:=0::1::2::3::4::5::6::7::8::9::10::13::14::20::21::29::30::31::32::42::43::44::54::55::56::66::67::68::78::79::80::90::91::92::98::99::105::106::112::113::119::120::133::134::140::141::147::148::154::155::161::162::166::167::173::174::180::181::187::188::194::195::201::202::208::209::215::216::222::223::229::230::236::237::243::244::245::246::247::248::249::257::258::264::265::271::272::278::279::283::284::290::291::297::298::304::305::311::312::318::319::323::324::328::329::333::334::338::339::345::346::350::351::357::358::364::365::[]
noncomputable def hK:Params->W.Frag:=λ P=>((nat_lit 0,boot_o_0 P)::(nat_lit 1,boot_o_1 P)::(nat_lit 2,boot_o_2 P)::(nat_lit 3,Ki P)::(nat_lit 4,boot_o_4 P)::(nat_lit 5,boot_o_5 P)::(nat_lit 6,boot_o_6 P)::(nat_lit 7,boot_o_7 P)::(nat_lit 8,boot_o_8 P)::(nat_lit 9,boot_o_9 P)::(nat_lit 10,boot_o_10 P)::(nat_lit 13,o2 P)::(nat_lit 14,o3 P)::(nat_lit 20,o8 P)::(nat_lit 21,o9 P)::(nat_lit 29,o0 P)::(nat_lit 30,o15 P)::(nat_lit 31,o37 P)::(nat_lit 32,o17 P)::(nat_lit 42,o0 P)::(nat_lit 43,o24 P)::(nat_lit 44,o25 P)::(nat_lit 54,o0 P)::(nat_lit 55,o31 P)::(nat_lit 56,o32 P)::(nat_lit 66,o0 P)::(nat_lit 67,o41 P)::(nat_lit 68,o42 P)::(nat_lit 78,o0 P)::(nat_lit 79,o48 P)::(nat_lit 80,o49 P)::(nat_lit 90,o0 P)::(nat_lit 91,o55 P)::(nat_lit 92,o56 P)::(nat_lit 98,o60 P)::(nat_lit 99,o61 P)::(nat_lit 105,o64 P)::(nat_lit 106,o65 P)::(nat_lit 112,o68 P)::(nat_lit 113,o69 P)::(nat_lit 119,o72 P)::(nat_lit 120,o73 P)::(nat_lit 133,o82 P)::(nat_lit 134,o83 P)::(nat_lit 140,o86 P)::(nat_lit 141,o87 P)::(nat_lit 147,o90 P)::(nat_lit 148,o91 P)::(nat_lit 154,o94 P)::(nat_lit 155,o95 P)::(nat_lit 161,o98 P)::(nat_lit 162,o99 P)::(nat_lit 166,HY P)::(nat_lit 167,HX P)::(nat_lit 173,HW P)::(nat_lit 174,HV P)::(nat_lit 180,HU P)::(nat_lit 181,HS P)::(nat_lit 187,HR P)::(nat_lit 188,HQ P)::(nat_lit 194,HP P)::(nat_lit 195,HN P)::(nat_lit 201,HM P)::(nat_lit 202,HL P)::(nat_lit 208,HK P)::(nat_lit 209,HJ P)::(nat_lit 215,HI P)::(nat_lit 216,HH P)::(nat_lit 222,HG P)::(nat_lit 223,HF P)::(nat_lit 229,HE P)::(nat_lit 230,HD P)::(nat_lit 236,HC P)::(nat_lit 237,HB P)::(nat_lit 243,HA P)::(nat_lit 244,Hz P)::(nat_lit 245,Hy P)::(nat_lit 246,Hx P)::(nat_lit 247,Hw P)::(nat_lit 248,Hv P)::(nat_lit 249,Hu P)::(nat_lit 257,Kh P)::(nat_lit 258,Kg P)::(nat_lit 264,Kf P)::(nat_lit 265,Ke P)::(nat_lit 271,Kc P)::(nat_lit 272,Kb P)::(nat_lit 278,Ka P)::(nat_lit 279,J9 P)::(nat_lit 283,J8 P)::(nat_lit 284,J7 P)::(nat_lit 290,J6 P)::(nat_lit 291,J5 P)::(nat_lit 297,J4 P)::(nat_lit 298,J3 P)::(nat_lit 304,J2 P)::(nat_lit 305,J1 P)::(nat_lit 311,J0 P)::(nat_lit 312,JZ P)::(nat_lit 318,JY P)::(nat_lit 319,JX P)::(nat_lit 323,JW P)::(nat_lit 324,JV P)::(nat_lit 328,JU P)::(nat_lit 329,JT P)::(nat_lit 333,JS P)::(nat_lit 334,JR P)::(nat_lit 338,JQ P)::(nat_lit 339,JP P)::(nat_lit 345,JO P)::(nat_lit 346,JN P)::(nat_lit 350,JM P)::(nat_lit 351,JL P)::(nat_lit 357,JK P)::(nat_lit 358,JJ P)::(nat_lit 364,JI P)::(nat_lit 365,JH P)::[])
noncomputable abbrev hX:Shared->Bool:=λ s=>xlAt hV [] s&&recOk (RowW.records (OpenRow.toRowW (OpenLaw.row hl))) s
end HD10
end
section
namespace HD10
open PySem PySem.W PySem.W.X PyProof.Rows L2
set_option maxHeartbeats 0
def Lg:∀ w,(λ os=>topGo treeTable hp w 11 hAn 12 (S0 w os) (topStub hp))=λ os=>some (SA w os,⟨denote treeTable hC,hC,⟨0,0,0,0⟩,hB⟩):=by
 rewrite [PySem.W.Fast.te15667345088766844465,Z7,PySem.W.Fast.te11892475500146522536]
 intro w; kernel_rfl
def Li:∀ w,(λ os=>segRun treeTable hp w 11 hAn 1 1 (SA w os) (blockOf (behindTheImports hp) hE hC ⟨0,0,0,0⟩ hB))=λ os=>some (Flow.next,(S1 w os).abs,hC,⟨0,0,0,0⟩):=by
 rewrite [PySem.W.Fast.te14374325043358763698,Z7]
 intro w; kernel_rfl
def N2:∀ w,(λ os=>segRunT treeTable hp w 11 hAn 1 651 (S1 w os) (piecesOf M0 hE hC ⟨0,0,0,0⟩ hB))=λ os=>some (Flow.next,S2 w os,hC,⟨9,0,10,8⟩):=by
 rewrite [Yt,Z7]
 intro w; kernel_rfl
def N1:∀ w,(λ os=>segRunT treeTable hp w 11 hAn 1 797 (S2 w os) (piecesOf MZ hE hC ⟨9,0,10,8⟩ hB))=λ os=>some (Flow.next,S3 w os,hC,⟨43,0,43,8⟩):=by
 rewrite [Yt,Z7]
 intro w; kernel_rfl
def N0:∀ w,(λ os=>segRunT treeTable hp w 11 hAn 1 773 (S3 w os) (piecesOf MY hE hC ⟨43,0,43,8⟩ hB))=λ os=>some (Flow.next,S4 w os,hC,⟨47,0,163,36⟩):=by
 rewrite [Yt,Z7]
 intro w; kernel_rfl
def NZ:∀ w,(λ os=>segRunT treeTable hp w 11 hAn 1 555 (S4 w os) (piecesOf MX hE hC ⟨47,0,163,36⟩ hB))=λ os=>some (Flow.next,S5 w os,hC,⟨313,0,338,15⟩):=by
 rewrite [Yt,Z7]
 intro w; kernel_rfl
def Lh:∀ w,(λ os=>topRun treeTable hp w 11 hAn 2 (S5 w os).abs ⟨doneF .next,hC,⟨313,0,338,15⟩,hB⟩)=λ os=>some (SF w os):=by
 rewrite [PySem.W.Fast.te14082659384304107361,Z7]
 intro w; kernel_rfl
def Le (w:World) (os:OsState):topRun treeTable hp w 11 hAn (12+(1+(651+(797+(773+(555+(2))))))) (S0 w os) (topStub hp)=some (SF w os):=go_top (congrFun (Lg w) os) (piece_block (congrFun (Li w) os) (piece_app (segRun_of (congrFun (N2 w) os)) (piece_app (segRun_of (congrFun (N1 w) os)) (piece_app (segRun_of (congrFun (N0 w) os)) (piece_app (segRun_of (congrFun (NZ w) os)) (congrFun (Lh w) os))))))
def GH:∀ w:World,((boot_heap w.params).isNs mainGlobals&&(⟨[]⟩:Array GenState).size == 0,(boot_heap w.params).objs.size,(boot_heap w.params).nsMap mainGlobals "__annotations__")=(true,11,hAn):=by
 rewrite [PySem.W.Fast.te8920871248978507458]
 intro w; kernel_rfl
def GJ:∀ w:World,(λ os=>((staticsOk (importedModules hp.main.body) (boot_heap w.params) (hF w.params)&&namesBound hp (hF w.params)&&gensDone (SF w os)&&laidKept (boot_heap w.params) (hF w.params)),openSeen hV [] (importedModules hp.main.body) hX true (SF w os),obsZ hAs (SF w os)))=λ _=>(true,openGood hV [],valZ hK 366 676 w):=by
 rewrite [PySem.W.Fast.te5923862056798008813,PySem.W.Fast.te4187177175401517315]
 intro w; kernel_rfl
def GK:LeftO hp hV [] hX (obsZ hAs) (valZ hK 366 676) 5670:=LeftO.of_pieces (boot_open (p:=hp) (N:=5670) (by kernel_rfl) (by decide) (λ _=>by kernel_rfl)) GH Le (by decide) GJ
def GI:PySem.Challenge.rw_stylehouse_k10_borne.wellSaid=true:=by kernel_rfl
def GL (said:(OpenLaw.row PySem.Challenge.rw_stylehouse_k10_borne).wellSaid=true) (hw:(OpenRow.toRowW (OpenLaw.row PySem.Challenge.rw_stylehouse_k10_borne)).promised) {d:DefRec} {kwd:List (Str×Expr)} (hdef:defOf hV (OpenLaw.row PySem.Challenge.rw_stylehouse_k10_borne).name=some (d,kwd)) (hp':(OpenLaw.row PySem.Challenge.rw_stylehouse_k10_borne).prog.theDef (OpenLaw.row PySem.Challenge.rw_stylehouse_k10_borne).name=some (d.params,d.body,d.scope)) (hk:kwWritten? d.params.kwonlyargs d.params.kw_defaults=some kwd) (call:WalkX hV [] (XL hV []) (obsZ hAs) (valZ hK 366 676) (OpenRow.toRowW (OpenLaw.row PySem.Challenge.rw_stylehouse_k10_borne)) d kwd λ f vs=>PySem.call f vs):(OpenLaw.row PySem.Challenge.rw_stylehouse_k10_borne).Holds :=
 holds_openX (q:=hV) (loose:=[]) (Xt:=hX) (XP:=XL hV []) (Yf:=obsZ hAs) (Ya:=valZ hK 366 676) (N:=5670) GK (λ s e=>xl_of s (Bool.and_eq_true_iff.mp e).1) XL.keeps hdef hp' hk (λ s e=>recFacts_of (Bool.and_eq_true_iff.mp e).2) rfl said (by decide +kernel) ⟨rfl,rfl,rfl,rfl,rfl,by decide +kernel⟩ hw call
end HD10
end
section
namespace L2
open PySem PySem.Spec PyProof.Rows
section
variable {X:Cx}
def Sz (i:Int):Prop:=i.natAbs < 2 ^ 4000
def Sz.bits (h:Sz i):Builtin.Int.intBits i<=2 ^ 20:=Z2 (PySem.intBits_le_iff.mpr h) (by decide)
def Sz.log (h:Sz i):i.natAbs.log2 < 9000:=by
 by_cases z:i.natAbs=0
 · rw [z]; decide
 · exact (Nat.log2_lt z).mpr (Nat.lt_trans h (Nat.pow_lt_pow_right (by decide) (by decide)))
def CS:OpR X (binaryOp .FloorDiv) (rI (λ _ j=>j≠0/\Sz j) λ i j=>.int (i.fdiv j)):=opI λ _ _ _ _ _ _ _ hc q=>floordiv_int hc.1 q (.inl (PyProof.noPylong_of_log2 hc.2.log))
end
open PySem.W in
mutual
inductive RdD (K:W.Frag) (H:Hp):V->Dat->Prop where
 | non:RdD K H .non .none
 | int (i:Int):RdD K H (.int i) (.int i)
 | str (x:Str):RdD K H (.str x) (.str x)
 | tup {a:Addr} {xs:List V} {ds:List Dat} (h:SqT K H a xs) (r:yj K H xs ds):RdD K H (.ref a) (.tuple ds)
 | lst {a:Addr} {xs:List V} {ds:List Dat} (h:SqL K H a xs) (r:yj K H xs ds):RdD K H (.ref a) (.list ds)
inductive yj (K:W.Frag) (H:Hp):List V->List Dat->Prop where
 | nil:yj K H [] []
 | cons {x:V} {d:Dat} {xs:List V} {ds:List Dat} (h:RdD K H x d) (r:yj K H xs ds):yj K H (x::xs) (d::ds)
end
section
open PySem.W
variable {X:Cx} {pins:List (Addr×Obj)} {σ:St} {H:Hp} {s:Shared}
mutual
def RdD.reads (I:Inv X pins σ H s):∀ {v:V} {d:Dat} {u:Value},RdD X.K H v d->RelV v u->∃ as,Reads s.heap u (kqdP d) as
 | _,_,u,.non,rv=>by cases (show u=Value.none from rv); exact ⟨_,Reads.none⟩
 | _,_,u,.int i,rv=>by obtain ⟨t,rfl⟩:=(show ∃ t,u=Value.int i t from rv); exact ⟨_,Reads.int i t⟩
 | _,_,u,.str x,rv=>by obtain ⟨t,rfl⟩:=(show ∃ t,u=Value.str x t from rv); exact ⟨_,Reads.str x t⟩
 | _,_,u,@RdD.tup _ _ a xs ds h r,rv=>by
  cases (show u=Value.ref a from rv);obtain ⟨its,vs,p,_⟩:=I.tuple h;obtain ⟨as,q⟩:=yj.reads I r vs;obtain ⟨o,h1,h2,n,h3⟩:=p;rw [kqdP];exact ⟨as,reads_tuple_at h1 h2 h3 (by simpa using q)⟩
 | _,_,u,@RdD.lst _ _ a xs ds h r,rv=>by
  cases (show u=Value.ref a from rv);obtain ⟨its,vs,p,_⟩:=I.list h;obtain ⟨as,q⟩:=yj.reads I r vs;obtain ⟨o,h1,h2,n,h3⟩:=p.isList;rw [kqdP];exact ⟨a::as,reads_list_at h1 h2 h3 (by simpa using q)⟩
def yj.reads (I:Inv X pins σ H s):∀ {vs:List V} {ds:List Dat} {us:List Value},yj X.K H vs ds->bD vs us->∃ as,ReadsAll s.heap us (kqdPs ds) as
 | _,_,_,.nil,.nil=>by rw [kqdPs]; exact ⟨_,ReadsAll.nil⟩
 | _,_,_,.cons h r,.cons rv rs=>by
  obtain ⟨as,q⟩:=RdD.reads I h rv;obtain ⟨bs,p⟩:=yj.reads I r rs;rw [kqdPs];exact ⟨_,ReadsAll.cons q p⟩
end
def gI (h:kqdOk 9 d=true):SeqAt.shaped (kqdP d)=true:=by
 have la:=kqd_lay 9 d h;unfold SeqAt.shaped;rw [la.1,Bool.true_and];exact Zo (Z2 la.2 (by decide))
open Classical in
def xx (h:kqdOk 9 d=true) (h':kqdOk 9 e=true):PyData.eqv (kqdP d) (kqdP e)=decide (d=e):=by
 have q:=kqd_eqv 9 d e 9 h h'
 by_cases hq:d=e
 · rw [Zo hq]; exact q.mpr hq
 · rw [Zk hq]; exact Bool.eq_false_iff.mpr λ x=>hq (q.mp x)
open Classical in
noncomputable def eqD (d e:Dat):Bool:=decide (d=e)
open Classical in
def zY (h:d=e):eqD d e=true:=Zo h
open Classical in
def xy (h:d≠e):eqD d e=false:=Zk h
def Nj (K:W.Frag):R2:=λ x y H Q=>∃ d e,RdD K H x d/\RdD K H y e/\kqdOk 9 d=true/\kqdOk 9 e=true/\Q (.bl (eqD d e)) H
def Nc (K:W.Frag):R2:=λ x y H Q=>∃ d e,RdD K H x d/\RdD K H y e/\kqdOk 9 d=true/\kqdOk 9 e=true/\Q (.bl (!eqD d e)) H
def FX (hu:X.A.units+64 < cLine):OpR X (compareOp .Eq) (Nj X.K):=by
 intro pins s σ H x y v u Q I rx ry h;obtain ⟨d,e,hd,he,kd,ke,q⟩:=h;obtain ⟨as,ra⟩:=hd.reads I rx;obtain ⟨bs,rb⟩:=he.reads I ry;refine eq_dataH ra rb (gI kd) (gI ke) hu ⟨.bl _,H,I,rfl,?_⟩;rw [xx kd ke];exact q
def FW (hu:X.A.units+64 < cLine):OpR X (compareOp .NotEq) (Nc X.K):=by
 intro pins s σ H x y v u Q I rx ry h;obtain ⟨d,e,hd,he,kd,ke,q⟩:=h;obtain ⟨as,ra⟩:=hd.reads I rx;obtain ⟨bs,rb⟩:=he.reads I ry;refine ne_dataH ra rb (gI kd) (gI ke) hu ⟨.bl _,H,I,rfl,?_⟩;rw [xx kd ke];exact q
end
def bZ.tup {K:W.Frag} {H H':Hp} {a:Addr} {xs:List V} (e:bZ H H') (h:SqT K H a xs):SqT K H' a xs:=by
 rcases h with (h | ⟨o,h⟩) | h
 · exact .inl (.inl (e _ _ h))
 · exact .inl (.inr ⟨o,e _ _ h⟩)
 · exact .inr h
def aA (h:H p=none) (o:HO):bZ H (upd H p o):=λ b u q=>by rw [aj (dk q h)]; exact q
end L2
end
section
namespace L2
open PySem PySem.Spec PyProof.Rows
section
variable {prog:Program} {w:World} {A:Around} {E:Value->Shared->Prop} {s:Shared}
def rT (x:h.IsList l items) (hs:Heap.ExtBut b h h') (hn:l≠b):h'.IsList l items:=by
 obtain ⟨o,ho,r⟩:=x;exact ⟨o,hs l o hn ho,r⟩
def sH (hne:t≠it):∀ (n i:Nat) (s:Shared) (Q:List Value->Shared->Prop),s.heap.IsListIter it t i->s.heap.IsList t items->i+n<=items.size ->
  (∀ h':Heap,h'.IsListIter it t (i+n)->Heap.SameBut it s.heap h'->Q ((items.toList.drop i).take n) { s with heap:=h' })->wpAny (model prog w) A (draw (.ref it) n) Q E s
 | 0,i,s,Q,hit,_,_,hQ=>by
  show wpAny _ _ (pure []) Q E s;exact Zz (by simpa using hQ s.heap hit (Heap.SameBut.refl ..))
 | n+1,i,s,Q,hit,ht,hle,hQ=>by
  have hlt:i < items.size:=by omega
  show wpAny _ _ (pyNext (.ref it) >>= _) Q E s;refine Zg (wpAny_pyNext_list_item hit ht (x:=items[i]) (by simp [hlt]) λ h₁ hit₁ hs₁=>?_);refine Zg (Yz (sH hne n (i+1) _ _ hit₁ (rT ht hs₁.extBut hne) (by omega) λ h₂ hit₂ hs₂=>Zz ?_));have hd:items.toList.drop i=items[i]::items.toList.drop (i+1):=by simp [Ys,hlt]
  have:=hQ h₂ (by rw [show i+(n+1)=i+1+n by omega]; exact hit₂) (hs₁.trans hs₂);rw [hd,List.take_succ_cons] at this;exact this
def kl (hh:A.handled=none) (ht:s.heap.IsList t items)
  (hQ:∀ h',Heap.ExtBut s.heap.objs.size s.heap h'->Q items.toList { s with heap:=h' }):wpAny (model prog w) A (unpackItems (.ref t) items.size none) Q E s:=by
 have hlt:t≠s.heap.objs.size:=by obtain ⟨o,ho,_⟩:=ht; exact Zx (Zt ho)
 refine Zg ?_
 refine Zg (Y0 ht.typeIs PySem.slot_list_iter.lookup ?_);refine Zz ?_
 refine Zg (Yz (wpAny_pyIter_list ht ?_))
 have htp:(s.heap.push { cls:=.type "list_iterator",data:=.fields #[.ref t,.int 0 0] }).IsList t items:=by
  obtain ⟨o,ho,r⟩:=ht;exact ⟨o,Heap.get?_push_of_some _ ho,r⟩
 refine Zg (Yz (sH hlt items.size 0 _ _ ⟨_,Heap.get?_push_size _ rfl,rfl,rfl⟩ htp (by omega) λ h₁ hit₁ hs₁=>?_))
 have hall:List.take items.size (List.drop 0 items.toList)=items.toList:=by
  rw [List.drop_zero]; exact List.take_of_length_le (by simp)
 rw [hall];rw [if_neg (by simp)];have ht₁:h₁.IsList t items:=rT htp hs₁.extBut hlt;refine Zg (Yz (wpAny_pyNext_list_end hh hit₁ ht₁ (by simp) λ h₂ he₂=>?_));refine Zz (hQ h₂ λ b o hb e=>he₂ b o hb (hs₁.extBut b o hb (Heap.get?_push_of_some _ e)))
def j1 {x1} (hh:A.handled=none) (ht:s.heap.IsList t items)
  (hn:(assignEach elts env).length=items.size) (hstar:(assignEach elts env).findIdx? (·.1)=none)
  (h:∀ h',Heap.ExtBut s.heap.objs.size s.heap h'->wpAny (model prog w) A (assignInOrder ((assignEach elts env).map (·.2)) items.toList) Q E { s with heap:=h' }) :
  wpAny (model prog w) A (assign (.Tuple elts x1 pos) env (.ref t)) Q E s:=by
 rw [assign_Tuple];refine Zg (wpAny_standAt ?_);unfold unpack;rw [hn,hstar];exact Zg (Yz (kl hh ht h))
end
section
variable {X:Cx} {pos:Pos}
def N7 (K:W.Frag) (n:Nat) (t:TGs):TG:=λ v σ H Q=>∃ a xs,v=.ref a/\SqL K H a xs/\xs.length=n/\t xs σ H Q
def Fp (hc:X.calm=true) (h:PGs X es t)
  (hn:(assignEach es X.env).length=n:=by rfl) (hst:(assignEach es X.env).findIdx? (·.1)=none:=by rfl):PG X (.Tuple es k pos) (N7 X.K n t):=by
 intro pins s σ H v u Q I r hw;obtain ⟨a,xs,e1,hq,hl,hw⟩:=hw;subst e1;cases r;obtain ⟨its,rv,ht,hz⟩:=I.list hq;refine j1 (I.ok.hd hc) ht.isList (by simp [hn,<- hl,rv.length]) hst λ h' hx=>?_
 have I1:=I.kept (t':=s.toks) λ b o e=>hx b o (Zx (Zt e)) e
 exact h pins _ σ H xs _ Q I1 (by simpa using rv) hw
end
section
variable {prog:Program} {w:World} {A:Around} {R:Result->Shared->Prop} {s:Shared}
def ph (I:Nat->Shared->Prop)
  (turn:∀ n s,I n s->wpAny (model prog w) A (pyNext it) (λ r s₁=>match r with
    | none=>R (.ok .next) s₁
    | some v=>wpAny (model prog w) A (letOwnedTupleGo target it v) (λ _ s₁'=>wpAny (model prog w) A (assign target env v) (λ _ s₂=>wpAny (model prog w) A (eval elt env) (λ x s₃ =>
     wpAny (model prog w) A (call (.builtin "list.append") [acc,x]) (λ _ s₄=>∃ m,m < n/\I m s₄) (λ _ _=>False) s₃) (λ _ _=>False) s₂) (λ _ _=>False) s₁') (λ _ _=>False) s₁) (λ _ _=>False) s)
  (n:Nat) (h:I n s) :
  codeAny (model prog w) A (.compLoop (.ListComp elt [⟨target,iter,[],0⟩] scope pos) 0 it acc env) R s:=by
 refine codeAny_loop rfl I (λ n s hI=>?_) n h;refine wpAny_noted ?_
 rw [compTurn_list1];refine Zg (wpAny_standAt (Zg (Ym (turn n s hI) (λ r s₁ h₁=>?_) λ _ _ h'=>h'.elim)))
 cases r with
 | none=>exact Zz h₁
 | some v =>
  refine Zg (Ym h₁ (λ _ s₁' h₁'=>?_) λ _ _ h'=>h'.elim)
  exact Zg (Ym h₁' (λ _ s₂ h₂=>Zg (Zg (Ym h₂ (λ x s₃ h₃=>Zg (Ym h₃
    (λ _ s₄ h₄=>Zz (Zz ⟨rfl,h₄⟩)) λ _ _ h'=>h'.elim)) λ _ _ h'=>h'.elim))) λ _ _ h'=>h'.elim)
end
def bf (X:Cx) (scope:Scope) (cl:List (Str×Addr)) (N:List Str) (s:Shared) (H:Hp) (fp:List Addr) (C:Addr):Cx where
 prog:=X.prog
 w:=X.w
 K:=X.K
 mg:=X.mg
 base:=X.base
 A:=X.A
 N:=N
 s₀:=s
 H₀:=H
 env:=compEnvC scope cl C X.env
 outer:=X.stack
 stack:=X.stack
 ex:=fp
 calm:=X.calm
 fn:=λ _=>false
 pn:=[]
 xe:=λ _ _=>False
structure cf (X:Cx) (scope:Scope) (cl:List (Str×Addr)) (x:Str) (cs:List (Str×Nat)):Prop where
 G7:closureFor scope X.env=pure cl
 kind:scope.kind=.function
 rO:∀ y ∈ scope.names,y.2≠.cell
 names:∀ y ∈ scope.names,y.2=.local->scope.names.lookup y.1=some .local
 own:scope.names.lookup x=some .local
 sub:∀ y c,cl.lookup y=some c->X.env.cells.lookup y=some c
 has:∀ y,((relabel scope X.env).names.lookup y=some .cell\/(relabel scope X.env).names.lookup y=some .free)->∃ c,cl.lookup y=some c
 Lw:∀ p ∈ cs,X.N[p.2]?=some p.1/\(X.env.kindOf p.1=some .cell\/X.env.kindOf p.1=some .free)/\((relabel scope X.env).names.lookup p.1=some .cell\/(relabel scope X.env).names.lookup p.1=some .free)
 nd:(x::cs.map (·.1)).Nodup
def aJ (σ:St) (cs:List (Str×Nat)):St:=cs.map λ p=>(σ[p.2]?).join
section
variable {X:Cx} {pins:List (Addr×Obj)} {σ:St} {H:Hp} {s:Shared} {scope:Scope} {cl:List (Str×Addr)} {x:Str} {cs:List (Str×Nat)} {fp:List Addr} {C:Addr} {h':Heap} {t':Nat}
def my (O:cf X scope cl x cs) (I:Inv X pins σ H s) (f2:∀ b ∈ fp,uA X pins H b) (there:∀ b ∈ fp,b < s.heap.objs.size) (hC:s.heap.objs.size<=C)
  (old:∀ b o,s.heap.get? b=some o->h'.get? b=some o) (hn:h'.Ns C λ _=>none) :
  Inv (bf X scope cl (x::cs.map (·.1)) s H fp C) [] (none::aJ σ cs) H { s with heap:=h',toks:=t' }:=by
 refine ⟨⟨I.ok.mod,O.kind,I.ok.glob,I.ok.blt,hC,λ y z c h1 h2=>I.ok.inj y z c (O.sub y c h1) (O.sub z c h2),λ y hy=>O.has y hy,λ _ _ h=>absurd (h) Zf,I.ok.hd,I.ok.frames,.inl rfl,
   λ b hb=>⟨Zx (Z1 (there b hb) hC),λ y c e=>(f2 b hb).2.2.2.2.1 y c (O.sub y c e)⟩,I.bs,Z2 I.ok.bsz I.sz,λ b o e hb=>?_,λ b hb z=>?_,I.stack,I.uY⟩,
  rfl,I.bare,Un.kept old,⟨_,hn,λ i y v e1 e2 e3=>?_⟩,λ y c e=>?_,I.hok.fresh hC,λ y c e=>I.lr y c (O.sub y c e),λ p hp=>absurd (show p ∈ ([]:List (Addr×Obj)) from hp) (by simp),I.hok.kept old,?_⟩
 ·rcases (f2 b hb).2.2.2.1 with z | z
  · exact I.ok.F8 b o e z
  · exact absurd (Z1 (Zt e) (Z2 I.ok.bsz z)) (Yj _)
 · exact (Zl.mp (I.nS b z)).elim (f2 b hb).2.1 (f2 b hb).2.2.1
 ·cases i with
  | zero=>simp at e2
  | succ j =>
   have e1':(cs.map (·.1))[j]?=some y:=by simpa [bf] using e1
   have e2':(aJ σ cs)[j]?=some (some v):=by simpa using e2
   unfold aJ at e2';rw [List.getElem?_map] at e1' e2'
   cases q:cs[j]? with
   | none=>rw [q] at e1'; cases e1'
   | some p =>
    rw [q] at e1' e2';have ey:p.1=y:=by simpa using e1'
    have ev:(σ[p.2]?).join=some v:=by simpa using e2'
    have ev':σ[p.2]?=some (some v):=by
     cases z:σ[p.2]? with
     | none=>rw [z] at ev; cases ev
     | some o=>rw [z] at ev; exact Yh some ev
    obtain ⟨c1,c2,c3⟩:=O.Lw p (List.mem_of_getElem? q);subst ey;obtain ⟨m,hm,hl⟩:=I.loc
    obtain ⟨u,ru,lk⟩:=hl p.2 p.1 v c1 ev' (by
     rcases c2 with c2 | c2
     · exact .inr (.inl c2)
     · exact .inr (.inr c2))
    obtain ⟨c',ec'⟩:=O.has p.1 c3;refine ⟨u,ru,.inr ⟨c3,c',ec',?_⟩⟩;rcases lk with ⟨k,_⟩ | ⟨_,c,ec,o,ho,hd⟩
    ·rcases c2 with c2 | c2
     · rw [c2] at k; cases k
     · rw [c2] at k; cases k
    ·have:=O.sub p.1 c' ec'
     rw [ec] at this;cases this;exact ⟨o,old _ o ho,hd⟩
 ·obtain ⟨v,o,ho,hd⟩:=I.cell y c (O.sub y c e)
  exact ⟨v,o,old c o ho,hd⟩
 · simp [bf,aJ]
end
def EJ (J:It) (te:TE) (cs:List (Str×Nat)) (σ:St) (Q:VK) (H1:Hp):Prop:=∃ W:Nat->Nat->List V->Hp->Prop,(∃ m,W 0 m [] H1)/\∀ i m ys H',W i m ys H' ->
 (J.stop i H'/\ys.length<=sizeLine/\∀ p,H' p=none->Q (.ref p) (upd H' p (.lst ys))) \/
 (J.go i H'/\ys.length < sizeLine/\∀ v H2,J.yld i H' v H2->te (some v::aJ σ cs) H2 λ y H3=>∃ m',m' < m/\W (i+1) m' (ys++[y]) H3)
def EK (wi:TI) (te:TE) (cs:List (Str×Nat)):TE:=λ σ H Q=>wi σ H λ J H1=>EJ J te cs σ Q H1
section
variable {X:Cx}
def uk {elt iter:Expr} {x:Str} {px pos:Pos} {scope:Scope} {cl:List (Str×Addr)} {cs:List (Str×Nat)} {te:TE} {pins:List (Addr×Obj)} {σ:St} {H:Hp} {s:Shared} {Q:VK} {it:Addr} {fp:List Addr} {tn:Nat->Heap->Prop} {J:It}
  {RR:Value->Addr->Result->Shared->Prop} {E:Value->Shared->Prop} (hc:X.calm=true) (O:cf X scope cl x cs) (he:∀ s H fp C,PE (bf X scope cl (x::cs.map (·.1)) s H fp C) elt te)
  (I:Inv X pins σ H s) (T:Turn X.prog X.w X.K (.Name x px) J fp it tn) (st:tn 0 s.heap) (f2:∀ b ∈ fp,uA X pins H b)
  (h : ∃ W:Nat->Nat->List V->Hp->Prop,(∃ m,W 0 m [] H)/\∀ i m ys H',W i m ys H' ->
    (J.stop i H'/\ys.length<=sizeLine/\∀ p,H' p=none->Q (.ref p) (upd H' p (.lst ys))) \/
    (J.go i H'/\ys.length < sizeLine/\∀ v H2,J.yld i H' v H2->te (some v::aJ σ cs) H2 λ y H3=>∃ m',m' < m/\W (i+1) m' (ys++[y]) H3))
  (hRR:∀ D C s' H' ys,s.heap.objs.size<=D->s.heap.objs.size<=C->D≠C->(∃ m,s'.heap.Ns C m)->Inv X pins σ (upd H' D (.lst ys)) s'->H' C=none->Q (.ref D) (upd H' D (.lst ys))->RR (.ref D) C (.ok .next) s') :
  wpAny (model X.prog X.w) X.A (newList []) (λ acc s₃=>wpAny (model X.prog X.w) X.A (newFunctionEnv scope X.env.globals cl [] X.env.qual none .none (some X.env)) (λ cenv s₄ =>
    codeAny (model X.prog X.w) X.A (.compStart (.ListComp elt [⟨.Name x px,iter,[],0⟩] scope pos) 0 (.ref it) acc { cenv with scope:=relabel scope X.env }) (RR acc cenv.locals) s₄) E s₃) E s:=by
 obtain ⟨W,⟨m0,w0⟩,turn⟩:=h;refine Xw (wpAny_newFunctionEnv O.rO (by intro y hy; simp at hy) (λ h₁ hns₁ hsb₁=>?_) O.kind);generalize hH2:s.heap.push { cls:=.type "list",dict:=none,data:=.seq ([]:List Value).toArray }=H2 at hns₁ hsb₁ ⊢
 have hC:H2.objs.size=s.heap.objs.size+1:=by rw [<- hH2,Xk]
 have hDC:s.heap.objs.size≠H2.objs.size:=by rw [hC]; exact Zx (Yv _)
 have hCle:s.heap.objs.size<=H2.objs.size:=by rw [hC]; exact Nat.le_succ _
 have neC:∀ b,b < s.heap.objs.size->b≠H2.objs.size:=λ b hb=>by rw [hC]; exact Zx (Nat.lt_succ_of_lt hb)
 have old:∀ b o,s.heap.get? b=some o->h₁.get? b=some o:=λ b o e=>hsb₁.extBut b o (neC b (Zt e)) (Heap.get?_push_of_some _ (hH2 ▸ Heap.get?_push_of_some _ e))
 have hacc:=hsb₁.extBut _ _ hDC (Heap.get?_push_of_some _ (hH2 ▸ Heap.get?_push_size _ rfl))
 have there:∀ b ∈ fp,b < s.heap.objs.size:=λ b hb=>by
  obtain ⟨o,e,_⟩:=T.obj _ _ st b hb;exact Zt e
 have hns:h₁.Ns H2.objs.size λ _=>none:=by
  have e:(λ x=>List.lookup x ([]:List (Str×Value)).reverse)=λ _=>none:=by funext y; rfl
  rw [e] at hns₁
  exact hns₁
 generalize hD:s.heap.objs.size=D at hDC hCle hacc;generalize hCC:H2.objs.size=C at hDC hCle hns ⊢;have FD:=I.yn (b:=D) (by rw [<- hD]; exact Zs _) (I.hok.fresh (by rw [<- hD]; exact Zs _));have nfpD:∀ b ∈ fp,b≠D:=λ b hb=>by rw [<- hD]; exact Zx (there b hb)
 have nfpC:∀ b ∈ fp,b≠C:=λ b hb=>Zx (Z1 (there b hb) (by rw [hD]; exact hCle))
 have st1:=T.keep _ _ _ st λ b _ o e=>old b o e
 have I1:Inv (bf X scope cl (x::cs.map (·.1)) s H fp C) [] (none::aJ σ cs) H { s with heap:=h₁,toks:=s.toks+([]:List (Str×Value)).length } :=
  my O I f2 there (by rw [hD]; exact hCle) old hns
 generalize hY:bf X scope cl (x::cs.map (·.1)) s H fp C=Y at I1
 have pgx:PG Y (.Name x px) (oI 0):=by
  subst hY;exact kK O.nd rfl (.inl (Xy O.own)) (.inr (Xy O.own))
 have peY:PE Y elt te:=by subst hY; exact he _ _ _ _
 have Yx:Y.prog=X.prog/\Y.w=X.w/\Y.K=X.K/\Y.A=X.A/\Y.env=compEnvC scope cl C X.env/\Y.calm=X.calm/\Y.xe=(λ _ _=>False)/\Y.pn=[]/\Y.ex=fp/\Y.fs=frs X.stack/\Y.s₀=s/\Y.H₀=H:=by subst hY; exact ⟨rfl,rfl,rfl,rfl,rfl,rfl,rfl,rfl,rfl,rfl,rfl,rfl⟩
 obtain ⟨y1,y2,y3,y4,y5,y6,y7,y8,y9,y10,y11,y12⟩:=Yx;have nstk:∀ b,b≠X.env.locals->b ∉ X.fs->b ∉ Y.fs:=λ b h1 h2 z=>by rw [y10] at z; exact (Zl.mp (I.nS b z)).elim h1 h2
 have yl:Y.env.locals=C:=by rw [y5]; rfl
 have yc:∀ z c,Y.env.cells.lookup z=some c->X.env.cells.lookup z=some c:=λ z c e=>by rw [y5] at e; exact O.sub z c e
 have stat:∀ {ps:List (Addr×Obj)} {H':Hp},(∀ b ∈ fp,H' b=none)->(∀ p ∈ ps,p.1=D)->∀ b ∈ fp,uA Y ps H' b:=λ {ps H'} hn hp b hb =>
  ⟨hn b hb,by rw [yl]; exact nfpC b hb,nstk b (f2 b hb).2.1 (f2 b hb).2.2.1,.inl (by rw [y9]; exact hb),λ z c e=>(f2 b hb).2.2.2.2.1 z c (yc z c e),λ p hq=>by
    rw [y8,List.nil_append] at hq;rw [hp p hq]
    exact Ne.symm (nfpD b hb)⟩
 have pinD:∀ {σ':St} {H':Hp} {s':Shared} {ob:Obj},Inv Y [] σ' H' s'->H' D=none->s'.heap.get? D=some ob->(∀ v,ob.data≠.cell v)->Inv Y [(D,ob)] σ' H' s':=λ {σ' H' s' ob} I' hn e hd =>
  I'.hZ λ p hp=>by
    have e1:p=(D,ob):=by simpa using hp
    subst e1;exact ⟨e,hn,by rw [yl]; exact hDC,nstk D FD.2.1 FD.2.2.1,hd⟩
 have loop:∀ s₃:Shared,s₃={ s with heap:=h₁,toks:=s.toks+([]:List (Str×Value)).length } ->
    codeAny (model X.prog X.w) X.A (.compLoop (.ListComp elt [⟨.Name x px,iter,[],0⟩] scope pos) 0 (.ref it) (.ref D) (compEnvC scope cl C X.env)) (RR (.ref D) C) s₃:=by
  rintro s₃ rfl
  refine ph (λ n s'=>∃ i o H' ys its k,Inv Y [] (o::aJ σ cs) H' s'/\tn i s'.heap/\(∀ b ∈ fp,H' b=none)/\H' D=none/\s'.heap.get? D=some { cls:=.type "list",data:=.seq (its:List Value).toArray k }/\bD ys its/\W i n ys H') ?_ m0
    ⟨0,none,H,[],[],0,I1,st1,λ b hb=>(f2 b hb).1,FD.1,hacc,.nil,w0⟩
  rintro n s3 ⟨i,o,H3,ys,its,k,I3,st3,fr3,frD,e3,vs3,w3⟩
  have I3p:=pinD I3 frD e3 (by intro v z; cases z)
  have onlyD:∀ p ∈ [(D,({ cls:=.type "list",data:=.seq its.toArray k }:Obj))],p.1=D:=λ p hp=>by
    have e1:=Zn.mp hp;rw [e1]
  rcases turn i n ys H3 w3 with ⟨stop,hz,q⟩ | ⟨go,hz,step⟩
  · have dn:=T.done Y y1 y2 y3 (by rw [y6]; exact hc) i _ s3 (o::aJ σ cs) H3 (λ _ _=>False) I3p (stat fr3 onlyD) st3 stop
    rw [y4] at dn;refine thn dn λ r s4 ⟨hr,I4⟩=>?_
    subst hr;obtain ⟨e4,_⟩:=I4.pin (D,_) (Ze _ (Zn.mpr rfl));have b4:=I4.base;rw [y9,y10,y11,y12] at b4;have hk4:=I4.hok;rw [y1,y2] at hk4;have hCn:H3 C=none:=by have:=I4.free; rw [yl] at this; exact this
    refine hRR D C s4 H3 ys (by rw [<- hD]; exact Zs _) (by rw [hD]; exact hCle) hDC (by obtain ⟨m,hm,_⟩:=I4.loc; rw [yl] at hm; exact ⟨m,hm⟩) ?_ hCn (q D frD);have neD:∀ b o,s.heap.get? b=some o->b≠D:=λ b o e=>by rw [<- hD]; exact Zx (Zt e)
    have neDH:∀ b u,H b=some u->b≠D:=λ b u e=>by rw [<- hD]; exact Zx (I.hok.lt e)
    refine I.G9 (by have:=I4.os; rw [y11] at this; exact this) ⟨b4.keep,b4.slot,λ b o e n hx=>?_,b4.there,λ b xs e=>?_,λ b o u e=>?_,λ b ps e=>?_⟩ (λ b u e=>?_) I4.bare λ b hb=>?_
    · rw [aj (neD b o e)]; exact b4.free b o e n hx
    · rw [aj (neDH b _ e)]; exact b4.uO b xs e
    · rw [aj (neDH b _ e)]; exact b4.uG b o u e
    · rw [aj (neDH b _ e)]; exact b4.uS b ps e
    ·have t1:∀ c u,H3 c=some u->upd H3 D (.lst ys) c=some u:=λ c u z=>by
      rw [aj (λ zz=>by rw [zz,frD] at z; cases z)];exact z
     by_cases hb:b=D
     ·subst hb
      rw [aq] at e;cases e;exact ⟨hz,its,k,vs3,e4⟩
     ·rw [aj hb] at e
      exact (hk4 b u e).ym (λ _ _ _ z=>z) (λ c z=>t1 c _ z) λ c xs z=>t1 c _ z
    · exact ⟨(f2 b hb).2.2.2.1,(f2 b hb).2.1,(f2 b hb).2.2.2.2.1,(f2 b hb).2.2.2.2.2⟩
  · have im:=T.item Y y1 y2 y3 (by rw [y6]; exact hc) i _ s3 (o::aJ σ cs) H3 (λ _ _=>False) I3p (stat fr3 onlyD) st3 go
    rw [y4] at im;refine thn im λ r s4 ⟨u,hr,h4⟩=>?_
    subst hr;refine thn h4 λ _ s5 ⟨v,H5,I5,r5,y5',st5,fr5⟩=>?_
    have I5':=I5.pinned (stat fr5 onlyD) (T.obj _ _ st5);have as:=pgx _ s5 (o::aJ σ cs) H5 v u _ I5' r5 (show oI 0 v (o::aJ σ cs) H5 (λ σ' H'=>σ'=some v::aJ σ cs/\H'=H5) from ⟨rfl,rfl⟩);rw [y1,y2,y4,y5,y7] at as;refine thn as λ _ s6 ⟨σ6,H6,I6,e6,e6'⟩=>?_
    subst e6 e6';have el:=peY _ s6 _ H6 _ I6 (step v H6 y5');rw [y1,y2,y4,y5,y7] at el;refine thn el λ u7 s7 ⟨y7',H7,I7,r7,m',hm',w7⟩=>?_
    obtain ⟨e7,n7,_⟩:=I7.pin (D,_) (Ze _ (Zp _ (Zn.mpr rfl)));have hl3:=vs3.length;refine call_meets F.slot_list_append ⟨_,e7,rfl⟩ F.entry_list_append (F.args_list_append_2 _ _) (PySem.list_append D its.toArray k u7 (by rw [Zq]; omega)) ⟨e7,?_⟩;obtain ⟨k',up⟩:∃ k',(s7.heap.update D (Obj.mapSeq (·.push u7))).get? D=some { cls:=.type "list",data:=.seq (its.toArray.push u7) k' }:=⟨_,PySem.IsL.update e7 (·.push u7)⟩
    have fpk:∀ b ∈ fp,∀ o,s5.heap.get? b=some o->s7.heap.get? b=some o/\H7 b=none:=λ b hb o e=>by
     obtain ⟨z1,z2,_⟩:=I7.pin (b,o) (Ze _ (Ze _ (eR hb e)));exact ⟨z1,z2⟩
    have I7n:Inv Y [] (some v::aJ σ cs) H7 s7:=I7.hZ λ p hp=>absurd hp (by simp)
    refine ⟨m',hm',i+1,some v,H7,ys++[y7'],its++[u7],k',?_,?_,?_,n7,?_,vs3.append (.cons r7 .nil),w7⟩
    ·refine I7n.turned (λ b o hb e=>(Heap.get?_update_other s7.heap (Obj.mapSeq (·.push u7)) (Ne.symm hb)).trans e) n7 (by rw [yl]; exact hDC) (.inr (by rw [y11,<- hD]; exact Zs _)) (λ z c e=>FD.2.2.2.2.1 z c (yc z c e)) λ p hp=>?_
     rw [y8] at hp;exact absurd hp (by simp)
    ·refine T.keep _ _ _ st5 λ b hb o e=>?_
     exact (Heap.get?_update_other s7.heap (Obj.mapSeq (·.push u7)) (Ne.symm (nfpD b hb))).trans (fpk b hb o e).1
    ·intro b hb
     obtain ⟨o',e',_⟩:=T.obj _ _ st5 b hb;exact (fpk b hb o' e').2
    ·rw [List.push_toArray] at up
     exact up
 exact codeAny_compStart_list (loop _ rfl) (T.self _ 0 _ _ _ st1 (loop _ rfl))
def CC {elt iter:Expr} {x:Str} {px pos:Pos} {scope:Scope} {cl:List (Str×Addr)} {cs:List (Str×Nat)} {wi:TI} {te:TE} (hc:X.calm=true) (O:cf X scope cl x cs) (hi:PI X (.Name x px) iter wi)
  (he:∀ s H fp C,PE (bf X scope cl (x::cs.map (·.1)) s H fp C) elt te) (hs:∀ x,foldedSetIterable iter X.env x=pure x:=by intro _; rfl) :
  PE X (.ListComp elt [⟨.Name x px,iter,[],0⟩] scope pos) (EK wi te cs):=by
 intro pins s σ H Q I h;rw [eval_ListComp];refine wpAny_comprehension_free rfl hs O.G7 O.kind O.names (thn (hi pins s σ H _ I h) λ v s1 h1=>thn h1 λ itv s2 h2=>?_);obtain ⟨it,fp,tn,J,H2,rfl,I2,T,st2,f2,hw⟩:=h2;refine uk hc O he I2 T st2 f2 hw λ D C s' H' ys hD hC hDC ⟨m,hm⟩ I' hn q=>?_
 refine ⟨m,hm,λ h' hs'=>?_⟩;have hn':upd H' D (.lst ys) C=none:=by rw [aj (Ne.symm hDC)]; exact hn
 have FC:=I2.yn hC hn';exact ⟨.ref D,upd H' D (.lst ys),I'.turned (λ b o hb e=>(hs'.2 b hb).trans e) hn' FC.2.1 FC.2.2.2.1 FC.2.2.2.2.1 FC.2.2.2.2.2,rfl,q⟩
end
def D2 (h1:scope.kind=.function) (h2:∀ y ∈ scope.names,y.2≠.cell) (h3:∀ y ∈ scope.names,y.2≠.free) (h4:∀ y ∈ scope.names,y.2=.local->scope.names.lookup y.1=some .local) (h5:scope.names.lookup x=some .local) :
  cf X scope [] x [] where
 G7:=closureFor_none h3
 kind:=h1
 rO:=h2
 names:=h4
 own:=h5
 sub:=λ _ _ e=>by cases e
 has := λ y hy=>by
  have rel:(relabel scope X.env).names=scope.names:=by
   exact map_eq_self λ z hz=>by
    obtain ⟨n,k⟩:=z;have:(k == NameKind.free)=false:=by simpa using h3 _ hz
    simp [this]
  rw [rel] at hy;rcases hy with hy | hy
  · exact absurd rfl (h2 _ (Yk hy))
  · exact absurd rfl (h3 _ (Yk hy))
 Lw:=λ _ h=>by cases h
 nd:=by simp
section
variable {κ:Type} [DecidableEq κ]
def cI (kvs:List (κ×V)) (k:κ):Option V:=(kvs.find? λ kv=>decide (kv.1=k)).map (·.2)
def putK (kvs:List (κ×V)) (k:κ) (v:V):List (κ×V) :=
 if (kvs.any λ kv=>decide (kv.1=k))=true then kvs.map (λ kv=>if kv.1=k then (kv.1,v) else kv) else kvs++[(k,v)]
def qD (kvs:List (κ×V)) (k:κ):List (κ×V):=kvs.filter λ kv=>decide (kv.1≠k)
def b6 {p:κ×V} {r:List (κ×V)} {k:κ} (e:p.1=k):cI (p::r) k=some p.2:=by simp [cI,List.find?_cons,e]
def b7 {p:κ×V} {r:List (κ×V)} {k:κ} (e:¬ p.1=k):cI (p::r) k=cI r k:=by simp [cI,List.find?_cons,e]
def gH (k:κ):∀ kvs:List (κ×V),(kvs.any λ kv=>decide (kv.1=k))=(cI kvs k).isSome
 | []=>rfl
 | p::r=>by
  rw [Xh]
  by_cases e:p.1=k
  · simp only [b6 e,Zo e,Bool.true_or,Option.isSome_some]
  · rw [b7 e,Zk e,Bool.false_or]; exact gH k r
def qY (k j:κ) (y:V):∀ kvs:List (κ×V),cI (kvs.map λ kv=>if kv.1=k then (kv.1,y) else kv) j=(cI kvs j).map λ x=>if j=k then y else x
 | []=>rfl
 | p::r=>by
  have ih:=qY k j y r;rw [Zh]
  by_cases h:p.1=k
  ·rw [if_pos h]
   by_cases e:p.1=j
   · rw [b6 (p:=(p.1,y)) e,b6 e,Xr,if_pos (e.symm.trans h)]
   · rw [b7 (p:=(p.1,y)) e,b7 e,ih]
  ·rw [if_neg h]
   by_cases e:p.1=j
   · rw [b6 (p:=p) e,b6 e,Xr,if_neg (λ z=>h (e.trans z))]
   · rw [b7 (p:=p) e,b7 e,ih]
def nP (k j:κ) (y:V):∀ kvs:List (κ×V),cI kvs k=none->cI (kvs++[(k,y)]) j=if j=k then some y else cI kvs j
 | [],_=>by
  by_cases e:k=j
  · rw [if_pos e.symm]; exact b6 (p:=(k,y)) e
  · rw [if_neg (λ z=>e z.symm)]; exact b7 (p:=(k,y)) e
 | p::r,hn=>by
  rw [List.cons_append];have hk:¬ p.1=k:=λ z=>by rw [b6 z] at hn; cases hn
  rw [b7 hk] at hn;have ih:=nP k j y r hn
  by_cases e:p.1=j
  · rw [b6 e,b6 e,if_neg (λ z=>hk (e.trans z))]
  · rw [b7 e,b7 e,ih]
def yv (kvs:List (κ×V)) (k j:κ) (y:V):cI (putK kvs k y) j=if j=k then some y else cI kvs j:=by
 unfold putK
 by_cases a:(kvs.any λ kv=>decide (kv.1=k))=true
 ·rw [if_pos a,qY]
  rw [gH] at a
  by_cases e:j=k
  ·obtain ⟨x,hx⟩:=Y2.mp a
   rw [if_pos e,e,hx,Xr,if_pos rfl]
  ·rw [if_neg e]
   cases cI kvs j with
   | none=>rfl
   | some x=>rw [Xr,if_neg e]
 ·rw [if_neg a]
  refine nP k j y kvs ?_
  rw [gH] at a
  cases q:cI kvs k with
  | none=>rfl
  | some x=>rw [q] at a; exact (a rfl).elim
def ij (kvs:List (κ×V)) (k:κ) (v:V):(putK kvs k v).length<=kvs.length+1:=by
 unfold putK;split
 · rw [Za]; omega
 · rw [Z5,Zv,Xs]; omega
def pL.f6 {o:Option V} {u:Option Value} (r:pL o u):o.isSome=u.isSome:=by
 cases o with
 | none=>cases u with
  | none=>rfl
  | some _=>exact (show False from r).elim
 | some _=>cases u with
  | none=>exact (show False from r).elim
  | some _=>rfl
def KV.val {kvs:List (κ×V)} {vs:List (κ×Value)} (r:KV kvs vs) (k:κ):pL (cI kvs k) (valueAt vs k):=by
 unfold KV at r
 induction r with
 | nil=>exact True.intro
 | @cons p q ps qs h t ih =>
  obtain ⟨h1,h2⟩:=h
  by_cases e:p.1=k
  ·have e':q.1=k:=h1.symm.trans e
   have b:valueAt (q::qs) k=some q.2:=by simp [valueAt,List.find?_cons,e']
   rw [b6 e,b]; exact h2
  ·have e':¬ q.1=k:=λ z=>e (h1.trans z)
   have b:valueAt (q::qs) k=valueAt qs k:=by simp [valueAt,List.find?_cons,e']
   rw [b7 e,b]; exact ih
def KV.any {kvs:List (κ×V)} {vs:List (κ×Value)} (r:KV kvs vs) (k:κ):(kvs.any λ kv=>decide (kv.1=k))=vs.any λ kv=>decide (kv.1=k):=by
 unfold KV at r
 induction r with
 | nil=>rfl
 | cons h t ih=>rw [Xh,Xh,ih,h.1]
def KV.IY {kvs:List (κ×V)} {vs:List (κ×Value)} (r:KV kvs vs) (k:κ) {y:V} {u:Value} (ry:RelV y u) :
  KV (kvs.map λ kv=>if kv.1=k then (kv.1,y) else kv) (vs.map λ kv=>if kv.1=k then (kv.1,u) else kv):=by
 unfold KV at r ⊢
 induction r with
 | nil=>exact .nil
 | @cons p q ps qs h t ih =>
  rw [Zh,Zh];refine .cons ?_ ih;obtain ⟨h1,h2⟩:=h
  by_cases e:p.1=k
  · rw [if_pos e,if_pos (h1.symm.trans e)]; exact ⟨h1,ry⟩
  · rw [if_neg e,if_neg (λ z=>e (h1.trans z))]; exact ⟨h1,h2⟩
def KV.put {kvs:List (κ×V)} {vs:List (κ×Value)} (r:KV kvs vs) (k:κ) {y:V} {u:Value} (ry:RelV y u):KV (putK kvs k y) (stored vs k u):=by
 unfold putK stored;rw [r.any k]
 by_cases e:(vs.any λ kv=>decide (kv.1=k))=true
 · rw [if_pos e,if_pos e]; exact r.IY k ry
 · rw [if_neg e,if_neg e]; exact Paired.snoc r ⟨rfl,ry⟩
def KV.drop {kvs:List (κ×V)} {vs:List (κ×Value)} (r:KV kvs vs) (k:κ):KV (qD kvs k) (without vs k):=by
 unfold KV at r ⊢;unfold qD without
 induction r with
 | nil=>exact .nil
 | @cons p q ps qs h t ih =>
  obtain ⟨h1,h2⟩:=h;rw [List.filter_cons,List.filter_cons]
  by_cases e:p.1=k
  ·have a:¬ decide (p.1≠k)=true:=by simp [e]
   have b:¬ decide (q.1≠k)=true:=by simp [h1.symm.trans e]
   rw [if_neg a,if_neg b]; exact ih
  ·have e':¬ q.1=k:=λ z=>e (h1.trans z)
   have a:decide (p.1≠k)=true:=by simp [e]
   have b:decide (q.1≠k)=true:=by simp [e']
   rw [if_pos a,if_pos b]; exact .cons ⟨h1,h2⟩ ih
def KV.length {kvs:List (κ×V)} {vs:List (κ×Value)} (r:KV kvs vs):kvs.length=vs.length:=Paired.length r
def z5 (kvs:List (κ×V)) (k:κ):(qD kvs k).length<=kvs.length:=Y1 _ _
end
def qq {P:Program} {w:World} {k:Key} {u:Value} (r:RelV (kV k) u):(bF P w).is k u=true:=by
 cases k with
 | inl i=>obtain ⟨t,e⟩:=(show ∃ t,u=Value.int i t from r); subst e; exact qm P w i t
 | inr x=>obtain ⟨t,e⟩:=(show ∃ t,u=Value.str x t from r); subst e; exact ql P w x t
def oA {P:Program} {w:World}:∀ {ks:List Key} {us:List Value},bD (ks.map kV) us->ItemsAre (bF P w) ks us
 | [],_,r=>by rw [Xz] at r; cases r; exact .nil
 | k::ks,_,r=>by
  rw [Zh] at r
  cases r with
  | cons h t=>exact .cons (qq h) (oA t)
abbrev KT (H:Hp):List (List Key×V)->List (List Key×Addr×Value)->Prop:=Paired λ p q=>p.1=q.1/\H q.2.1=some (.tup (p.1.map kV))/\RelV p.2 q.2.2
def KT.val {H:Hp} {kvs:List (List Key×V)} {xs:List (List Key×Addr×Value)} (r:KT H kvs xs) (k:List Key):pL (cI kvs k) ((atKey xs k).map (·.2)):=by
 induction r with
 | nil=>exact True.intro
 | @cons p q ps qs h t ih =>
  obtain ⟨h1,_,h2⟩:=h
  by_cases e:p.1=k
  ·have e':q.1=k:=h1.symm.trans e
   have b:atKey (q::qs) k=some q.2:=by simp [atKey,List.find?_cons,e']
   rw [b6 e,b]; exact h2
  ·have e':¬ q.1=k:=λ z=>e (h1.trans z)
   have b:atKey (q::qs) k=atKey qs k:=by simp [atKey,List.find?_cons,e']
   rw [b7 e,b]; exact ih
def KT.IY {H:Hp} {kvs:List (List Key×V)} {xs:List (List Key×Addr×Value)} (r:KT H kvs xs) (k:List Key) {y:V} {u:Value} (ry:RelV y u) :
  KT H (kvs.map λ kv=>if kv.1=k then (kv.1,y) else kv) (xs.map (putAt k u)):=by
 induction r with
 | nil=>exact .nil
 | @cons p q ps qs h t ih =>
  rw [Zh,Zh];refine .cons ?_ ih;obtain ⟨h1,h2,h3⟩:=h;unfold putAt
  by_cases e:p.1=k
  · rw [if_pos e,if_pos (h1.symm.trans e)]; exact ⟨h1,h2,ry⟩
  · rw [if_neg e,if_neg (λ z=>e (h1.trans z))]; exact ⟨h1,h2,h3⟩
def KT.put {H:Hp} {kvs:List (List Key×V)} {xs:List (List Key×Addr×Value)} (r:KT H kvs xs) (k:List Key) {b:Addr} {y:V} {u:Value} (hb:H b=some (.tup (k.map kV))) (ry:RelV y u) :
  KT H (putK kvs k y) (storedH xs k b u):=by
 have e:(kvs.any λ kv=>decide (kv.1=k))=(atKey xs k).isSome:=by
  rw [gH,(r.val k).f6,Option.isSome_map]
 unfold putK storedH;rw [e]
 by_cases q:(atKey xs k).isSome=true
 · rw [if_pos q,if_pos q]; exact r.IY k ry
 · rw [if_neg q,if_neg q]; exact Paired.snoc r ⟨rfl,hb,ry⟩
def KT.keeps {H H':Hp} {kvs:List (List Key×V)} {xs:List (List Key×Addr×Value)} (r:KT H kvs xs) (ht:∀ b ys,H b=some (.tup ys)->H' b=some (.tup ys)):KT H' kvs xs :=
 Paired.KY r λ _ _ z=>⟨z.1,ht _ _ z.2.1,z.2.2⟩
section
variable {P:Program} {w:World} {H:Hp} {h:Heap} {a:Addr}
def E2 {u:HO} (ok:HOk P w H h) (e:Rd H a u):cu P w H h a u:=e.ok ok
def qE {kvs:List (Key×V)} (ok:HOk P w H h) (e:Rd H a (.dK kvs)):kvs.length<=sizeLine/\(a == sysModules)=false/\∃ vs,KV kvs vs/\h.DictOf (bF P w) a vs :=
 show cu P w H h a (.dK kvs) from E2 ok e
def uj {kvs:List (Key×V)} (ok:HOk P w H h) (e:H a=some (.dK kvs)):kvs.length<=sizeLine/\(a == sysModules)=false/\∃ vs,KV kvs vs/\h.DictOf (bF P w) a vs:=qE ok (.inl e)
def oy {ks:List Key} (ok:HOk P w H h) (e:H a=some (.tup (ks.map kV))):(tupleKind (bF P w)).is h ks a:=by
 obtain ⟨_,its,r,o,h1,h2,n,h3⟩:=(show cu P w H h a (.tup (ks.map kV)) from ok a _ e)
 exact ⟨o,its.toArray,n,h1,h2,h3,by simpa using oA r⟩
def uh {kvs:List (List Key×V)} (ok:HOk P w H h) (e:Rd H a (.dT kvs)):kvs.length<=sizeLine/\(a == sysModules)=false /\
  ∃ xs,KT H kvs xs/\h.DictOfH (tupleKind (bF P w)) a xs:=by
 obtain ⟨z,y,xs,r,o,es,ep,h1,h2,h3,h4,h5⟩:=(show cu P w H h a (.dT kvs) from E2 ok e)
 refine ⟨z,y,xs,r,o,es,ep,h1,h2,h3,h4,λ x hx=>?_,h5⟩
 have all:∀ {l:List (List Key×V)} {m:List (List Key×Addr×Value)},KT H l m->∀ x ∈ m,(tupleKind (bF P w)).is h x.1 x.2.1:=by
  intro l m q
  induction q with
  | nil=>intro x hx; exact nomatch hx
  | @cons p q ps qs hq t ih =>
   intro x hx;rcases Zl.mp hx with e | hx
   ·subst e
    exact oy ok (by rw [<- hq.1]; exact hq.2.1)
   · exact ih x hx
 exact all r x hx
def Lp {kvs:List (List Key×V)} (ok:HOk P w H h) (e:H a=some (.dT kvs)):kvs.length<=sizeLine/\(a == sysModules)=false /\
 ∃ xs,KT H kvs xs/\h.DictOfH (tupleKind (bF P w)) a xs:=uh ok (.inl e)
end
def uB (H:Hp) (a:Addr) (y:V) (r:Option V):Prop :=
 (∃ kvs k,Rd H a (.dK kvs)/\y=kV k/\r=cI kvs k)\/∃ kvs k b,Rd H a (.dT kvs)/\y=.ref b/\H b=some (.tup (k.map kV))/\r=cI kvs k
def Ei (H:Hp) (a:Addr) (y v:V) (H':Hp):Prop :=
 (∃ kvs k,H a=some (.dK kvs)/\y=kV k/\kvs.length < sizeLine/\H'=upd H a (.dK (putK kvs k v))) \/
 ∃ kvs k b,H a=some (.dT kvs)/\y=.ref b/\H b=some (.tup (k.map kV))/\kvs.length < sizeLine/\H'=upd H a (.dT (putK kvs k v))
def uB.k {H:Hp} {a:Addr} {kvs:List (Key×V)} {k:Key} (e:H a=some (.dK kvs)):uB H a (kV k) (cI kvs k):=.inl ⟨kvs,k,.inl e,rfl,rfl⟩
def Ei.k {H:Hp} {a:Addr} {kvs:List (Key×V)} {k:Key} {v:V} (e:H a=some (.dK kvs)) (hl:kvs.length < sizeLine):Ei H a (kV k) v (upd H a (.dK (putK kvs k v))):=.inl ⟨kvs,k,e,rfl,hl,rfl⟩
section
variable {X:Cx} {pins:List (Addr×Obj)} {σ:St} {H:Hp} {s:Shared} {a:Addr} {y v:V} {u r:Value} {o:Option V} {A:Around} {E:Value->Shared->Prop}
def Inv.big (I:Inv X pins σ H s):sysModules < s.heap.objs.size:=by
 have h:mainGlobals < s.heap.objs.size:=(I.mod.glob.keeps I.bk).lt;exact Nat.lt_trans (by decide) h
def xK {Q:Value->Shared->Prop} (hu:A.units+1 < cLine) (I:Inv X pins σ H s) (g:uB H a y (some v)) (ry:RelV y u) (h:∀ w' s',Inv X pins σ H s'->RelV v w'->Q w' s') :
  wpAny (model X.prog X.w) A (getItem (.ref a) u) Q E s:=by
 rcases g with ⟨kvs,k,e,ey,l⟩ | ⟨kvs,k,b,e,ey,eb,l⟩
 ·subst ey
  obtain ⟨z,hd,vs,rel,dd⟩:=qE I.hok e;obtain ⟨w',hw,rw'⟩:=pL.some_of (v:=v) (o:=valueAt vs k) (by rw [l]; exact rel.val k);exact wpAny_getItem_of (qq ry) dd.mapOf hw (h w' _ (I.tok _) rw')
 ·subst ey
  cases (show u=Value.ref b from ry);obtain ⟨z,hd,xs,rel,dd⟩:=uh I.hok e;obtain ⟨w',hw,rw'⟩:=pL.some_of (v:=v) (o:=(atKey xs k).map (·.2)) (by rw [l]; exact rel.val k);obtain ⟨p,hp,hp2⟩:=Zm hw;refine wpAny_getItem_heap (tupleKind_room_in1 hu) (oy I.hok eb) dd hp ?_
  rw [hp2];exact h w' _ (I.tok _) rw'
def Oa {Q:Value->Shared->Prop} (hu:A.units+1 < cLine) (I:Inv X pins σ H s) (g:uB H a y o) (ry:RelV y u) (h:∀ s',Inv X pins σ H s'->Q (.bool o.isSome) s') :
  wpAny (model X.prog X.w) A (compareOp .In u (.ref a)) Q E s:=by
 rcases g with ⟨kvs,k,e,ey,l⟩ | ⟨kvs,k,b,e,ey,eb,l⟩
 ·subst ey
  obtain ⟨z,hd,vs,rel,dd⟩:=qE I.hok e;refine wpAny_in_of (qq ry) hd dd.mapOf ?_
  rw [<- (rel.val k).f6,<- l];exact h _ (I.tok _)
 ·subst ey
  cases (show u=Value.ref b from ry);obtain ⟨z,hd,xs,rel,dd⟩:=uh I.hok e;refine wpAny_in_heap (tupleKind_room_in1 hu) (oy I.hok eb) hd dd ?_
  have q:=(rel.val k).f6;rw [Option.isSome_map] at q;rw [<- q,<- l];exact h _ (I.tok _)
def DX {Q:Value->Shared->Prop} (hu:A.units+1 < cLine) (I:Inv X pins σ H s) (g:uB H a y o) (ry:RelV y u) (h:∀ s',Inv X pins σ H s'->Q (.bool (!o.isSome)) s') :
  wpAny (model X.prog X.w) A (compareOp .NotIn u (.ref a)) Q E s:=by
 rcases g with ⟨kvs,k,e,ey,l⟩ | ⟨kvs,k,b,e,ey,eb,l⟩
 ·subst ey
  obtain ⟨z,hd,vs,rel,dd⟩:=qE I.hok e;refine wpAny_notIn_of (qq ry) hd dd.mapOf ?_
  rw [<- (rel.val k).f6,<- l];exact h _ (I.tok _)
 ·subst ey
  cases (show u=Value.ref b from ry);obtain ⟨z,hd,xs,rel,dd⟩:=uh I.hok e;refine wpAny_notIn_heap (tupleKind_room_in1 hu) (oy I.hok eb) hd dd ?_
  have q:=(rel.val k).f6;rw [Option.isSome_map] at q;rw [<- q,<- l];exact h _ (I.tok _)
def nD {h':Heap} {t':Nat} {ob:HO} (I:Inv X pins σ H s) (mu:Mut (H a)) (hs:Heap.SameBut a s.heap h') (he:∃ q,h'.get? a=some q) (new:cu X.prog X.w (upd H a ob) h' a ob) :
  Inv X pins σ (upd H a ob) { s with heap:=h',toks:=t' } :=
 I.write (x:=a) (e:=a) mu (.inl rfl) (λ b q hb z=>(hs.2 b hb).trans z) he new
def xD {P:Program} {w:World} {H':Hp} {h':Heap} {kvs:List (Key×V)} {vs:List (Key×Value)} (z:kvs.length<=sizeLine) (hd:(a == sysModules)=false) (rel:KV kvs vs) (dd:h'.DictOf (bF P w) a vs) :
 cu P w H' h' a (.dK kvs):=⟨z,hd,vs,rel,dd⟩
def xJ {H':Hp} {Q:Unit->Shared->Prop} (hu:A.units+1 < cLine) (I:Inv X pins σ H s) (g:Ei H a y v H') (ry:RelV y u) (rv:RelV v r) (h:∀ s',Inv X pins σ H' s'->Q () s') :
  wpAny (model X.prog X.w) A (setItem (.ref a) u r) Q E s:=by
 rcases g with ⟨kvs,k,e,ey,l,eH⟩ | ⟨kvs,k,b,e,ey,eb,l,eH⟩
 ·subst ey eH
  obtain ⟨z,hd,vs,rel,dd⟩:=uj I.hok e;have hz:vs.length<=sizeLine:=by rw [<- rel.length]; exact z
  have hl:(putK kvs k v).length<=sizeLine:=by have:=ij kvs k v; omega
  refine wpAny_setItem_pairs (hsz:=hz) (qq ry) dd λ h' dd' hs=>h _ ?_
  have he:∃ q,h'.get? a=some q:=let ⟨q,_,_,hq,_⟩:=dd'; ⟨q,hq⟩
  exact nD I (by rw [e]; exact True.intro) hs he (xD hl hd (rel.put k rv) dd')
 ·subst ey eH
  cases (show u=Value.ref b from ry);obtain ⟨z,hd,xs,rel,dd⟩:=Lp I.hok e;have hz:xs.length<=sizeLine:=by rw [<- Paired.length rel]; exact z
  have hl:(putK kvs k v).length<=sizeLine:=by have:=ij kvs k v; omega
  refine wpAny_setItem_heap (hsz:=hz) (tupleKind_room_in1 hu) (oy I.hok eb) dd λ h' dd' hs=>h _ ?_
  obtain ⟨q,es,ep,hq,h2,h3,h4,_,h5⟩:=dd';refine nD I (by rw [e]; exact True.intro) hs ⟨q,hq⟩ ⟨hl,hd,_,(rel.put k eb rv).keeps λ c ys ec=>?_,q,es,ep,hq,h2,h3,h4,h5⟩;rw [aj (KN ec e (λ z=>nomatch z))];exact ec
end
section
variable {X:Cx} {pins:List (Addr×Obj)} {σ:St} {H:Hp} {s:Shared} {a:Addr} {kvs:List (Key×V)} {k:Key} {u:Value} {A:Around} {E:Value->Shared->Prop}
def Lq {v:V} {more:List Value} {Q:Value->Shared->Prop} (I:Inv X pins σ H s) (e:H a=some (.dK kvs)) (ry:RelV (kV k) u) (l:cI kvs k=some v) (hm:more=[]\/∃ x,more=[x])
  (h:∀ w' s',Inv X pins σ (upd H a (.dK (qD kvs k))) s'->RelV v w'->Q w' s'):wpAny (model X.prog X.w) A (call (.builtin "dict.pop") (.ref a::u::more)) Q E s:=by
 obtain ⟨z,hd,vs,rel,dd⟩:=uj I.hok e;obtain ⟨w',hw,rw'⟩:=pL.some_of (v:=v) (o:=valueAt vs k) (by rw [<- l]; exact rel.val k)
 have hp:(keyPart u).isSome=true:=by
  cases k with
  | inl i=>obtain ⟨t,q⟩:=(show ∃ t,u=Value.int i t from ry); subst q; rfl
  | inr x=>obtain ⟨t,q⟩:=(show ∃ t,u=Value.str x t from ry); subst q; rfl
 have ha:argsOk "dict.pop" ⟨.ref a::u::more,[]⟩:=by
  rcases hm with q | ⟨x,q⟩
  · subst q; exact PySem.F.args_dict_pop_2 _ _
  · subst q; exact PySem.F.args_dict_pop_3 _ _ _
 refine call_meetsIn PySem.F.slot_dict_pop dd.typeIs PySem.F.entry_dict_pop ha (meets_dict_pop_there (bF X.prog X.w) a (qq ry) more hm hp)
  ⟨vs,w',dd,by rw [<- rel.length]; exact z,hw,λ h' dd' hs=>h w' _ ?_ rw'⟩
 have he:∃ q,h'.get? a=some q:=let ⟨q,_,_,hq,_⟩:=dd'; ⟨q,hq⟩
 exact nD I (by rw [e]; exact True.intro) hs he (xD (Z2 (z5 kvs k) z) hd (rel.drop k) dd')
def Lr {Q:Value->Shared->Prop} (I:Inv X pins σ H s) (e:Rd H a (.dK kvs)) (h:∀ t s',Inv X pins σ H s'->Q (.int kvs.length t) s'):wpAny (model X.prog X.w) A (call (.builtin "len") [.ref a]) Q E s:=by
 obtain ⟨z,hd,vs,rel,dd⟩:=qE I.hok e;refine call_len_dict hd dd (by rw [<- rel.length]; rw [Y5] at z; omega) ?_
 rw [<- rel.length];exact h _ _ (I.tok _)
end
def Er (i:Expr):Prop:=∀ ov iv,subscripted i false ov iv=operate [ov,iv] (getItem ov iv)
def Bu {prog:Program} {w:World} {A:Around} {E:Value->Shared->Prop} {s:Shared} {env:Env} {value slice:Expr} {pos:Pos} {T id:String} {Q:Value->Shared->Prop}
  (hl:typeLookup (.type T) "__getitem__"=pure (some (.builtin id))) (hs:Er slice)
  (h:wpAny (model prog w) A (eval value env) (λ o s₁=>wpAny (model prog w) A (eval slice env) (λ i s₂=>s₂.TypeIs o T/\wpAny (model prog w) A (getItem o i) Q E s₂) E s₁) E s) :
  wpAny (model prog w) A (eval (.Subscript value slice pos) env) Q E s:=by
 refine Subscript_ (Ym h (λ o s₁ h₁=>Ym h₁ (λ i s₂ h₂=>?_) λ _ _ x=>x) λ _ _ x=>x);obtain ⟨hT,h₂⟩:=h₂;unfold subscriptTail;refine Zg ?_
 rw [getitemInPython_of_ne hT.not_modules];refine Zg (Y0 hT hl ?_)
 have fin:wpAny (model prog w) A (subscripted slice false o i) (λ r s₃=>wpAny (model prog w) A (letTemporaryGo value o r >>= λ _=>pure r) Q E s₃) E s₂:=by
  rw [hs o i];exact wpAny_operating (Ym h₂ (λ r s₃ h₃=>Zg (wpAny_letTemporaryGo (Zz h₃))) λ _ _ x=>x)
 first
  | exact Zz (Zg fin)
  | exact Zg (Zz (Zg fin))
  | exact Zg fin
def qF {X:Cx} {pins:List (Addr×Obj)} {σ:St} {H:Hp} {s:Shared} {a:Addr} {y:V} {o:Option V} (I:Inv X pins σ H s) (g:uB H a y o):s.TypeIs (.ref a) "dict":=by
 rcases g with ⟨kvs,k,e,_,_⟩ | ⟨kvs,k,b,e,_,_,_⟩
 ·obtain ⟨_,_,vs,_,dd⟩:=qE I.hok e
  exact dd.typeIs
 ·obtain ⟨_,_,xs,_,dd⟩:=uh I.hok e
  exact dd.typeIs
def IL (td ty:TE):TE:=λ σ H Q=>td σ H λ x H1=>ty σ H1 λ y H2=>∃ a v,x=.ref a/\uB H2 a y (some v)/\Q v H2
def MU (ty td:TE):TE:=λ σ H Q=>ty σ H λ y H1=>td σ H1 λ x H2=>∃ a o,x=.ref a/\uB H2 a y o/\Q (.bl o.isSome) H2
def Bq (ty td:TE):TE:=λ σ H Q=>ty σ H λ y H1=>td σ H1 λ x H2=>∃ a o,x=.ref a/\uB H2 a y o/\Q (.bl (!o.isSome)) H2
def IX (td ty tv:TE):TS:=λ D σ H=>tv σ H λ v H1=>td σ H1 λ x H2=>ty σ H2 λ y H3=>∃ a H4,x=.ref a/\Ei H3 a y v H4/\D.nx σ H4
section
variable {X:Cx} {o i e value:Expr} {pos pos' tpos:Pos} {td ty tv:TE}
def wg (hu:X.A.units+1 < cLine) (ho:PE X o td) (hi:PE X i ty) (hs:Er i):PE X (.Subscript o i pos) (IL td ty):=by
 intro pins s σ H Q I h;refine Bu PySem.F.slot_dict_getitem.lookup hs (thn (ho pins s σ H _ I h) λ u s1 ⟨x,H1,I1,rx,q1⟩=>thn (hi pins s1 σ H1 _ I1 q1) λ iv s2 ⟨y,H2,I2,ry,a,v,ex,g,q2⟩=>?_);subst ex;obtain rfl:u=Value.ref a:=rx;exact ⟨qF I2 g,xK hu I2 g ry λ w' s3 I3 rw'=>⟨v,H2,I3,rw',q2⟩⟩
def FT (hu:X.A.units+1 < cLine) (hi:PE X i ty) (ho:PE X o td):PC X .In i o (MU ty td):=by
 intro pins s σ H Q I h;refine thn (hi pins s σ H _ I h) λ iv s1 ⟨y,H1,I1,ry,q1⟩=>thn (ho pins s1 σ H1 _ I1 q1) λ u s2 ⟨x,H2,I2,rx,a,ov,ex,g,q2⟩=>?_
 subst ex;obtain rfl:u=Value.ref a:=rx;exact Oa hu I2 g ry λ s3 I3=>⟨.bl ov.isSome,H2,I3,rfl,q2⟩
def wk (hu:X.A.units+1 < cLine) (hi:PE X i ty) (ho:PE X o td):PC X .NotIn i o (Bq ty td):=by
 intro pins s σ H Q I h;refine thn (hi pins s σ H _ I h) λ iv s1 ⟨y,H1,I1,ry,q1⟩=>thn (ho pins s1 σ H1 _ I1 q1) λ u s2 ⟨x,H2,I2,rx,a,ov,ex,g,q2⟩=>?_
 subst ex;obtain rfl:u=Value.ref a:=rx;exact DX hu I2 g ry λ s3 I3=>⟨.bl (!ov.isSome),H2,I3,rfl,q2⟩
def p6 (hu:X.A.units+1 < cLine) (ho:PE X o td) (hi:PE X i ty) (hv:PE X value tv) (hs:swapsWith value (some (.Subscript o i pos')) pos.line X.env=pure false) :
  PS X (.Assign [.Subscript o i pos'] value pos) (IX td ty tv):=by
 intro pins s σ H D I h;refine wpAny_Assign_Subscript (thn (hv pins s σ H _ I h) λ r s1 ⟨v,H1,I1,rv,q1⟩=>thn (ho pins s1 σ H1 _ I1 q1) λ u s2 ⟨x,H2,I2,rx,q2⟩=>thn (hi pins s2 σ H2 _ I2 q2) λ iv s3 ⟨y,H3,I3,ry,a,H4,ex,g,q3⟩=>?_) hs;subst ex;obtain rfl:u=Value.ref a:=rx;exact xJ hu I3 g ry rv λ s4 I4=>⟨σ,H4,I4,q3⟩
end
def sI {P:Program} {w:World} {H:Hp} (h:Heap) (hb:sysModules < h.objs.size):cu P w H (h.push { cls:=.type "dict",data:=.dict #[] }) h.objs.size (.dK []) :=
 ⟨Z3 _,Xi.mpr (Ne.symm (Zx hb)),[],.nil,Heap.DictOf.new h⟩
def EI:TE:=λ _ H Q=>∀ p,H p=none->Q (.ref p) (upd H p (.dK []))
section
variable {X:Cx} {pos:Pos}
def zv:PE X (.Dict [] [] pos) EI:=λ pins s σ H Q I h =>
 wpAny_Dict_empty ⟨.ref s.heap.objs.size,_,I.laid (a:=s.heap.objs.size) (o:=.dK []) (t':=s.toks) (λ _ _ q=>Heap.get?_push_of_some _ q) (Zs _) (sI s.heap I.big),rfl,h _ (I.hok.fresh (Zs _))⟩
end
def uU:List (TE×TE)->St->Hp->(List (V×V)->Hp->Prop)->Prop
 | [],_,H,Q=>Q [] H
 | (tk,tv)::r,σ,H,Q=>tk σ H λ x H1=>tv σ H1 λ y H2=>uU r σ H2 λ ps H3=>Q ((x,y)::ps) H3
abbrev VV:List (V×V)->List (Value×Value)->Prop:=Paired λ p q=>RelV p.1 q.1/\RelV p.2 q.2
def PPs (X:Cx) (pos:Pos) (keys:List (Option Expr)) (values:List Expr) (trs:List (TE×TE)):Prop :=
  ∀ (pins:List (Addr×Obj)) (s:Shared) (σ:St) (H:Hp) (Q:List (V×V)->Hp->Prop),Inv X pins σ H s->uU trs σ H Q ->
    wpAny (model X.prog X.w) X.A (evalPairs (pairTrees keys values X.env pos)) (λ vs s'=>∃ ps H',Inv X pins σ H' s'/\VV ps vs/\Q ps H') X.xe s
def Cf {X:Cx} {pos:Pos}:PPs X pos [] [] []:=λ pins s σ H Q I h=>pairTrees_nil_walk ⟨[],H,I,.nil,h⟩
def ze {X:Cx} {pos:Pos} {k v:Expr} {ks:List (Option Expr)} {vs:List Expr} {tk tv:TE} {trs:List (TE×TE)} (hk:PE X k tk) (hv:PE X v tv) (hr:PPs X pos ks vs trs) :
  PPs X pos (some k::ks) (v::vs) ((tk,tv)::trs):=λ pins s σ H Q I h =>
 pairTrees_cons_walk (thn (hk pins s σ H _ I h) λ u s1 ⟨x,H1,I1,rx,q1⟩=>thn (hv pins s1 σ H1 _ I1 q1) λ w2 s2 ⟨y,H2,I2,ry,q2⟩ =>
  thn (hr pins s2 σ H2 _ I2 q2) λ ws s3 ⟨ps,H3,I3,rel,q3⟩=>⟨(x,y)::ps,H3,I3,.cons ⟨rx,ry⟩ rel,q3⟩)
def oj (kvs more:List (Key×V)):List (Key×V):=more.foldl (λ acc kv=>putK acc kv.1 kv.2) kvs
def KV.merge:∀ {more:List (Key×V)} {rs:List (Key×Value)} {kvs:List (Key×V)} {vs:List (Key×Value)},KV more rs->KV kvs vs->KV (oj kvs more) (merged vs rs):=by
 intro more rs kvs vs r;unfold KV at r
 induction r generalizing kvs vs with
 | nil=>intro q; exact q
 | @cons p q ps qs h t ih =>
  intro r0
  have e:KV (putK kvs p.1 p.2) (stored vs q.1 q.2):=by
   have:=r0.put p.1 h.2;rw [<- h.1]; exact this
  exact ih e
def iU:∀ (more kvs:List (Key×V)),(oj kvs more).length<=kvs.length+more.length
 | [],kvs=>by show kvs.length<=kvs.length+0; omega
 | p::r,kvs=>by
  have h1:=iU r (putK kvs p.1 p.2);have h2:=ij kvs p.1 p.2;show (oj (putK kvs p.1 p.2) r).length<=_;rw [Zv]; omega
def mB {P:Program} {w:World}:∀ {kvs:List (Key×V)} {ws:List (Value×Value)},VV (kvs.map λ kv=>(kV kv.1,kv.2)) ws->∃ rs,Carries (bF P w) ws rs/\KV kvs rs
 | [],_,r=>by rw [Xz] at r; cases r; exact ⟨[],True.intro,.nil⟩
 | p::kvs,_,r=>by
  rw [Zh] at r
  cases r with
  | @cons a b as bs h t =>
   obtain ⟨rs,c,q⟩:=mB (P:=P) (w:=w) t;obtain ⟨b1,b2⟩:=b;exact ⟨(p.1,b2)::rs,⟨qq h.1,rfl,c⟩,.cons ⟨rfl,h.2⟩ q⟩
def IK (trs:List (TE×TE)):TE:=λ σ H Q=>∀ p,H p=none->uU trs σ (upd H p (.dK [])) λ ps H2=>H2 p=some (.dK [])/\∃ kvs:List (Key×V),ps=kvs.map (λ kv=>(kV kv.1,kv.2))/\kvs.length<=15/\Q (.ref p) (upd H2 p (.dK (oj [] kvs)))
def CB {X:Cx} {pos:Pos} {keys:List (Option Expr)} {values:List Expr} {trs:List (TE×TE)} (h:PPs X pos keys values trs) (hall:keys.all (·.isSome)=true) (hl:keys.length=values.length) (h0:keys≠[])
  (h15:keys.length<=15):PE X (.Dict keys values pos) (IK trs):=by
 intro pins s σ H Q I q;have hn:=I.hok.fresh (Zs s.heap.objs.size);have I1:=I.laid (a:=s.heap.objs.size) (o:=.dK []) (h':=s.heap.push { cls:=.type "dict",data:=.dict #[] }) (t':=s.toks) (λ _ _ q=>Heap.get?_push_of_some _ q) (Zs _) (sI s.heap I.big);refine wpAny_Dict_walk (knd:=bF X.prog X.w) hall hl h0 h15 (thn (h pins _ σ _ _ I1 (q _ hn)) λ ws s2 ⟨ps,H2,I2,rel,e,kvs,ep,lk,q2⟩=>?_);subst ep;obtain ⟨rs,c,rk⟩:=mB (P:=X.prog) (w:=X.w) rel;obtain ⟨z,hd,vs0,r0,dd⟩:=uj I2.hok e;cases r0;refine ⟨rs,c,dd,λ h' dd' hs=>⟨.ref s.heap.objs.size,_,?_,rfl,q2⟩⟩
 have hz:(oj [] kvs).length<=sizeLine:=by
  have h1:=iU kvs [];rw [Xs] at h1;rw [Y5]; omega
 have he:∃ q,h'.get? s.heap.objs.size=some q:=let ⟨q,_,_,hq,_⟩:=dd'; ⟨q,hq⟩
 exact nD I2 (by rw [e]; exact True.intro) hs he (xD hz hd (rk.merge .nil) dd')
structure M1 (X:Cx) (o:Expr) (m:Str) (apos:Pos) (e:Expr) (cpos:Pos):Prop where
 base:attributeBase o m X.env (eval o X.env)=eval o X.env
 few:((backTo cpos (starEach [e] X.env)).all (λ x=>!x.1)&&(backToKw cpos (keywordEach [] X.env)).all (λ x=>x.1.isSome)
  && decide (([e]:List Expr).length+([]:List Keyword).length+(if ([]:List Keyword).isEmpty then 0 else 1) < 30))=true
 line:(apos.endLine == cpos.line)=true
 trees:backTo cpos (starEach [e] X.env)=[(false,eval e X.env)]
def IsD (H:Hp) (a:Addr):Prop:=(∃ kvs,Rd H a (.dK kvs))\/∃ kvs,Rd H a (.dT kvs)
def GB {X:Cx} {pins:List (Addr×Obj)} {σ:St} {H:Hp} {s:Shared} {a:Addr} (I:Inv X pins σ H s) (d:IsD H a) :
  s.TypeIs (.ref a) "dict"/\(∀ b,Value.ref a=.ref b->∃ ob,s.heap.get? b=some ob/\ob.dict=none)/\(a == sysModules)=false:=by
 rcases d with ⟨kvs,e⟩ | ⟨kvs,e⟩
 ·obtain ⟨_,hd,vs,_,dd⟩:=qE I.hok e
  refine ⟨dd.typeIs,λ b q=>?_,hd⟩;cases q;obtain ⟨ob,_,_,h1,h2,_⟩:=dd;exact ⟨ob,h1,h2.2.1⟩
 ·obtain ⟨_,hd,xs,_,dd⟩:=uh I.hok e
  refine ⟨dd.typeIs,λ b q=>?_,hd⟩;cases q;obtain ⟨ob,_,_,h1,h2,_⟩:=dd;exact ⟨ob,h1,h2.2.1⟩
def EH (td ty:TE):TE:=λ σ H Q=>td σ H λ x H1=>∃ a,x=.ref a/\IsD H1 a/\ty σ H1 λ y H2=>∃ kvs k v,H2 a=some (.dK kvs)/\y=kV k/\cI kvs k=some v/\Q v (upd H2 a (.dK (qD kvs k)))
section
variable {X:Cx} {o e f:Expr} {apos cpos:Pos} {td ty tx:TE}
def zu (ho:PE X o td) (he:PE X e ty) (m:M1 X o "pop" apos e cpos):PE X (.Call (.Attribute o "pop" apos) [e] [] cpos) (EH td ty):=by
 intro pins s σ H Q I h;refine wpAny_Call_method m.base m.few m.line PySem.F.plainAttrs_dict PySem.F.slot_dict_pop PySem.F.type_dict_pop (thn (ho pins s σ H _ I h) λ u s1 ⟨x,H1,I1,rx,a,ex,d,q1⟩=>?_);subst ex;obtain rfl:u=Value.ref a:=rx;obtain ⟨t1,t2,_⟩:=GB I1 d;refine ⟨t1,t2,?_⟩;rw [m.trees];refine Calls.callWith_builtin rfl (Calls.evalArgs_plain (Calls.spliced_cons (thn (he pins s1 σ H1 _ I1 q1) λ iv s2 ⟨y,H2,I2,ry,kvs,k,v,ea,ey,l,q2⟩=>Calls.spliced_nil ?_)));subst ey;exact Lq I2 ea ry l (.inl rfl) λ w' s3 I3 rw'=>⟨v,_,I3,rw',q2⟩
end
def Its (z:Str):It:=⟨λ i _=>i < z.cps.size,λ i H x H'=>H'=H/\∃ c,z.cps[i]?=some c/\x=.str ⟨#[c]⟩,λ i _=>z.cps.size<=i⟩
def s9 {P:Program} {w:World} {K:W.Frag} {tg:Expr} (it:Addr) (z:Str) (t:Tok):Turn P w K tg (Its z) [it] it (λ i h=>h.IsStrIter it "str_ascii_iterator" z t i) where
 mem:=by simp
 obj:=λ i h st b hb=>by
  have e:b=it:=by simpa using hb
  subst e;obtain ⟨o,e,c,d⟩:=st;exact ⟨o,e,λ v z=>by rw [d] at z; cases z⟩
 keep:=λ i h h' st k=>let ⟨o,ho,r⟩:=st; ⟨o,k it (by simp) o ho,r⟩
 item:=by
  intro X hP hw hK hc i pins s σ H E I hf st hg;subst hP hw hK;obtain ⟨f0,f1,f2,f3,f4,f5⟩:=hf it (by simp);have hg':i < z.cps.size:=hg;have hx:z.cps[i]?=some z.cps[i]:=by simp [hg']
  refine wpAny_pyNext_ascii_item st hx λ h' st' sb=>?_
  have I1:Inv X pins σ H { s with heap:=h',toks:=s.toks+1 }:=I.turned (λ b o hb e=>(sb.2 b hb).trans e) f0 f1 f3 f4 f5;obtain ⟨o,e,c,d⟩:=id st';exact ⟨_,rfl,xo e c d (by decide) ⟨.str ⟨#[z.cps[i]]⟩,H,I1,⟨_,rfl⟩,⟨rfl,_,hx,rfl⟩,st',λ b hb=>(hf b hb).1⟩⟩
 done:=by
  intro X hP hw hK hc i pins s σ H E I hf st hg;subst hP hw hK;obtain ⟨f0,f1,f2,f3,f4,f5⟩:=hf it (by simp);have hg':z.cps.size<=i:=hg;exact wpAny_pyNext_ascii_end (I.ok.hd hc) st (by simp [hg']) λ h' eb=>⟨rfl,I.turned (λ b o hb e=>eb b o hb e) f0 f1 f3 f4 f5⟩
 self:=λ _ _ _ _ _ st h=>wpAny_pyIter_striter_ascii st h
def uK {P:Program} {w:World} {K:W.Frag} {tg:Expr} (it:Addr) (z:Str) (t:Tok):Turn P w K tg (Its z) [it] it (λ i h=>h.IsStrIter it "str_iterator" z t i) where
 mem:=by simp
 obj:=λ i h st b hb=>by
  have e:b=it:=by simpa using hb
  subst e;obtain ⟨o,e,c,d⟩:=st;exact ⟨o,e,λ v z=>by rw [d] at z; cases z⟩
 keep:=λ i h h' st k=>let ⟨o,ho,r⟩:=st; ⟨o,k it (by simp) o ho,r⟩
 item:=by
  intro X hP hw hK hc i pins s σ H E I hf st hg;subst hP hw hK;obtain ⟨f0,f1,f2,f3,f4,f5⟩:=hf it (by simp);have hg':i < z.cps.size:=hg;have hx:z.cps[i]?=some z.cps[i]:=by simp [hg']
  refine wpAny_pyNext_wide_item st hx λ h' st' sb=>?_
  have I1:Inv X pins σ H { s with heap:=h',toks:=s.toks+1 }:=I.turned (λ b o hb e=>(sb.2 b hb).trans e) f0 f1 f3 f4 f5;obtain ⟨o,e,c,d⟩:=id st';exact ⟨_,rfl,xo e c d (by decide) ⟨.str ⟨#[z.cps[i]]⟩,H,I1,⟨_,rfl⟩,⟨rfl,_,hx,rfl⟩,st',λ b hb=>(hf b hb).1⟩⟩
 done:=by
  intro X hP hw hK hc i pins s σ H E I hf st hg;subst hP hw hK;obtain ⟨f0,f1,f2,f3,f4,f5⟩:=hf it (by simp);have hg':z.cps.size<=i:=hg;exact wpAny_pyNext_wide_end (I.ok.hd hc) st (by simp [hg']) λ h' eb=>⟨rfl,I.turned (λ b o hb e=>eb b o hb e) f0 f1 f3 f4 f5⟩
 self:=λ _ _ _ _ _ st h=>wpAny_pyIter_striter_wide st h
section
variable {X:Cx} {tg:Expr}
def NY (tl:TE):TI:=λ σ H R=>tl σ H λ x H1=>∃ z,x=.str z/\R (Its z) H1
def Fk {l:Expr} {tl:TE} (hl:PE X l tl):PI X tg l (NY tl):=by
 intro pins s σ H R I h;refine thn (hl pins s σ H _ I h) λ v s1 ⟨x,H1,I1,r1,q1⟩=>?_
 obtain ⟨z,e,q⟩:=q1;subst e;obtain ⟨t,rfl⟩:=r1
 have fp:∀ b ∈ [s1.heap.objs.size],uA X pins H1 b:=λ b hb=>by
  have e:b=s1.heap.objs.size:=by simpa using hb
  subst e;exact I1.yn (Zs _) (I1.hok.fresh (Zs _))
 cases ha:z.cps.all (· < 128)
 ·refine wpAny_pyIter_wide ha ?_
  exact ⟨s1.heap.objs.size,[s1.heap.objs.size],_,_,H1,rfl,I1.kept λ b o e=>Heap.get?_push_of_some _ e,uK _ z t,⟨_,Heap.get?_push_size _ rfl,rfl,rfl⟩,fp,q⟩
 ·refine wpAny_pyIter_ascii ha ?_
  exact ⟨s1.heap.objs.size,[s1.heap.objs.size],_,_,H1,rfl,I1.kept (t':=s1.toks) λ b o e=>Heap.get?_push_of_some _ e,s9 _ z t,⟨_,Heap.get?_push_size _ rfl,rfl,rfl⟩,fp,q⟩
def wq:OpR X (compareOp .LtE) (λ x y H Q=>∃ i j,x=.str i/\y=.str j/\Q (.bl (!decide (j.cps.toList < i.cps.toList))) H):=by
 intro pins s σ H x y v u Q I rx ry h;obtain ⟨i,j,rfl,rfl,q⟩:=h;obtain ⟨t,rfl⟩:=rx;obtain ⟨t',rfl⟩:=ry;exact PySem.P.le_str (be I q (by simp))
def sR:∀ {bs:List Bool} {us:List Value},bD (bs.map V.bl) us->∀ (i:Nat) (v:Value),us[i]?=some v->∃ b,bs[i]?=some b/\v=Value.bool b
 | [],_,.nil,i,v,e=>by simp at e
 | b::bs,_,.cons r t,0,v,e=>by
  simp at e;subst e;exact ⟨b,by simp,r⟩
 | b::bs,_,.cons r t,i+1,v,e=>by
  obtain ⟨c,h1,h2⟩:=sR t i v (by simpa using e);exact ⟨c,by simpa using h1,h2⟩
def Ag (hc:X.calm=true):c8 X (.builtin "all") (λ xs H Q=>∃ (p:Addr) (bs:List Bool),xs=[.ref p]/\SqL X.K H p (bs.map V.bl)/\Q (.bl (bs.all id)) H):=by
 intro pins s σ H xs us Q I r h;obtain ⟨p,bs,rfl,hL,q⟩:=h;obtain ⟨u,rfl,ru⟩:=vals1 r;cases (ru);obtain ⟨its,rv,pl,hz⟩:=I.list hL;have hl:=pl.isList;have hlen:=rv.length;rw [Za] at hlen;have hlt:p < s.heap.objs.size:=by obtain ⟨_,e,_⟩:=hl; exact Zt e
 refine call_all_walk (wpAny_pyIter_list hl ?_)
 refine ⟨s.heap.objs.size,[s.heap.objs.size,p],[s.heap.objs.size],its.toArray.size,_,_,λ i=>(bs[i]?).getD true,rfl,Walks.list (A:=X.A.in1) (I.ok.hd hc) _ p (Zx hlt) its.toArray,
  ⟨⟨_,Heap.get?_push_size _ rfl,rfl,rfl⟩,hl.push _⟩,λ i v s' Q' E' hP hQ=>?_,λ h' tk hk=>?_⟩
 ·obtain ⟨b,e,rfl⟩:=sR rv i v (by simpa using hP)
  simp only [e,Option.getD_some] at hQ;exact Yo hQ
 ·have e:((List.range its.toArray.size).all λ i=>(bs[i]?).getD true)=bs.all id:=by
   rw [Zq,<- hlen,Xd,Yq,Yq];constructor
   ·intro hh b hb
    obtain ⟨i,hi,rfl⟩:=List.getElem_of_mem hb;have:=hh i (List.mem_range.mpr hi)
    simpa [List.getElem?_eq_getElem hi] using this
   ·intro hh i hi
    have hi':=List.mem_range.mp hi;simp only [List.getElem?_eq_getElem hi',Option.getD_some];exact hh _ (Y7 hi')
  rw [e];refine ⟨.bl _,H,I.kept λ b x ex=>hk b x (λ hm=>?_) (Heap.get?_push_of_some _ ex),rfl,q⟩;rw [Zn.mp hm] at ex;exact Yj _ (Zt ex)
def jh:∀ {ts:List Str} {us:List Value},bD (ts.map V.str) us->StrsAre us ts
 | [],_,.nil=>.nil
 | x::ts,_,.cons r t=>by
  obtain ⟨tk,rfl⟩:=r;exact .cons x tk (jh t)
def Dl:MtR X "str.join" (λ x xs H Q=>∃ (z:Str) (p:Addr) (ts:List Str),x=.str z/\xs=[.ref p]/\SqL X.K H p (ts.map V.str)/\(ts.map (·.length)).sum+ts.length * z.length<=16777216/\Q (.str (Txt.join z ts)) H):=by
 intro pins s σ H x xs v us Q I rx rv h;obtain ⟨z,p,ts,rfl,rfl,hL,hz,q⟩:=h;obtain ⟨t,rfl⟩:=rx;obtain ⟨u,rfl,ru⟩:=vals1 rv;cases (ru);obtain ⟨its,rv',pl,_⟩:=I.list hL;exact join_list pl.isList (by simpa using jh rv') hz λ t' k=>⟨.str _,H,I.tok k,⟨_,rfl⟩,q⟩
end
def D1 (h0:closureFor scope X.env=pure cl) (h1:scope.kind=.function) (h2:(scope.names.all λ y=>!(y.2 == .cell))=true)
  (h3:(scope.names.all λ y=>!(y.2 == .local)||(scope.names.lookup y.1 == some .local))=true) (h4:scope.names.lookup x=some .local) (h5:∀ p ∈ cl,X.env.cells.lookup p.1=some p.2)
  (h6:((relabel scope X.env).names.all λ p=>!(p.2 == .cell||p.2 == .free)||(cl.lookup p.1).isSome)=true)
  (h7:∀ p ∈ cs,X.N[p.2]?=some p.1/\X.env.kindOf p.1=some .cell/\(relabel scope X.env).names.lookup p.1=some .cell) (h8:(x::cs.map (·.1)).Nodup):cf X scope cl x cs where
 G7:=h0
 kind:=h1
 rO:=λ y hy z=>by
  have:=Yq.mp h2 y hy;rw [z] at this;exact absurd this (by decide)
 names:=λ y hy z=>by
  have:=Yq.mp h3 y hy;rw [z] at this
  simpa using this
 own:=h4
 sub:=λ y c e=>h5 (y,c) (Yk e)
 has:=λ y hy=>by
  have key:∀ k,(relabel scope X.env).names.lookup y=some k->(k=.cell\/k=.free)->∃ c,cl.lookup y=some c:=λ k e hk=>by
   have:=Yq.mp h6 (y,k) (Yk e);rcases hk with rfl | rfl
   · exact Y2.mp (by simpa using this)
   · exact Y2.mp (by simpa using this)
  rcases hy with hy | hy
  · exact key _ hy (.inl rfl)
  · exact key _ hy (.inr rfl)
 Lw:=λ p hp=>⟨(h7 p hp).1,.inl (h7 p hp).2.1,.inl (h7 p hp).2.2⟩
 nd:=h8
def Es (X:Cx):List (Str×Addr)->Prop
 | []=>True
 | p::r=>X.env.cells.lookup p.1=some p.2/\Es X r
def AllP (X:Cx) (scope:Scope):List (Str×Nat)->Prop
 | []=>True
 | p::r=>(X.N[p.2]?=some p.1/\X.env.kindOf p.1=some .cell/\(relabel scope X.env).names.lookup p.1=some .cell)/\AllP X scope r
def Es.all:∀ {cl:List (Str×Addr)},Es X cl->∀ p ∈ cl,X.env.cells.lookup p.1=some p.2
 | [],_,p,h=>by cases h
 | q::r,a,p,h=>by
  rcases Zl.mp h with rfl | h
  · exact a.1
  · exact Es.all a.2 p h
def AllP.all:∀ {cs:List (Str×Nat)},AllP X scope cs->∀ p ∈ cs,X.N[p.2]?=some p.1/\X.env.kindOf p.1=some .cell/\(relabel scope X.env).names.lookup p.1=some .cell
 | [],_,p,h=>by cases h
 | q::r,a,p,h=>by
  rcases Zl.mp h with rfl | h
  · exact a.1
  · exact AllP.all a.2 p h
def D0 (cs:List (Str×Nat)) (h0:closureFor scope X.env=pure cl) (h1:scope.kind=.function) (h2:(scope.names.all λ y=>!(y.2 == .cell))=true)
 (h3:(scope.names.all λ y=>!(y.2 == .local)||(scope.names.lookup y.1 == some .local))=true) (h4:scope.names.lookup x=some .local) (h5:Es X cl)
 (h6:((relabel scope X.env).names.all λ p=>!(p.2 == .cell||p.2 == .free)||(cl.lookup p.1).isSome)=true)
 (h7:AllP X scope cs) (h8:(x::cs.map (·.1)).Nodup):cf X scope cl x cs:=D1 h0 h1 h2 h3 h4 h5.all h6 h7.all h8
inductive D where
 | non | bl (b:Bool) | int (i:Int) | str (x:Str) | ty (n:String)
 | tup (ds:List D) | lst (ds:List D) | fz (ds:List D) | dct (kvs:List (Key×D)) | obj (C:Addr) (fs:List (Str×D)) | cls (C:Addr) | dfz (kvs:List (Key×D))
mutual
inductive Rp (K:W.Frag) (H:Hp):V->D->Prop where
 | non:Rp K H .non .non
 | bl (b:Bool):Rp K H (.bl b) (.bl b)
 | int (i:Int):Rp K H (.int i) (.int i)
 | str (x:Str):Rp K H (.str x) (.str x)
 | ty (n:String):Rp K H (.ty n) (.ty n)
 | cls (C:Addr):Rp K H (.ref C) (.cls C)
 | tup {a:Addr} {xs:List V} {ds:List D} (h:SqT K H a xs) (r:Rps K H xs ds):Rp K H (.ref a) (.tup ds)
 | lst {a:Addr} {xs:List V} {ds:List D} (h:H a=some (.lst xs)) (r:Rps K H xs ds):Rp K H (.ref a) (.lst ds)
 | fz {a:Addr} {xs:List V} {ds:List D} (h:SqL K H a xs) (r:Rps K H xs ds):Rp K H (.ref a) (.fz ds)
 | dct {a:Addr} {kvs:List (Key×V)} {ds:List (Key×D)} (h:H a=some (.dK kvs)) (r:RpK K H kvs ds):Rp K H (.ref a) (.dct ds)
 | obj {a C dx:Addr} {fs:List (Str×V)} {ds:List (Str×D)} (h:H a=some (.ins C dx fs)) (r:RpF K H fs ds):Rp K H (.ref a) (.obj C ds)
 | dfz {a:Addr} {kvs:List (Key×V)} {ds:List (Key×D)} (h:Rd H a (.dK kvs)) (r:RpK K H kvs ds):Rp K H (.ref a) (.dfz ds)
inductive Rps (K:W.Frag) (H:Hp):List V->List D->Prop where
 | nil:Rps K H [] []
 | cons {x:V} {d:D} {xs:List V} {ds:List D} (h:Rp K H x d) (r:Rps K H xs ds):Rps K H (x::xs) (d::ds)
inductive RpK (K:W.Frag) (H:Hp):List (Key×V)->List (Key×D)->Prop where
 | nil:RpK K H [] []
 | cons {k:Key} {x:V} {d:D} {xs:List (Key×V)} {ds:List (Key×D)} (h:Rp K H x d) (r:RpK K H xs ds):RpK K H ((k,x)::xs) ((k,d)::ds)
inductive RpF (K:W.Frag) (H:Hp):List (Str×V)->List (Str×D)->Prop where
 | nil:RpF K H [] []
 | cons {k:Str} {x:V} {d:D} {xs:List (Str×V)} {ds:List (Str×D)} (h:Rp K H x d) (r:RpF K H xs ds):RpF K H ((k,x)::xs) ((k,d)::ds)
end
section
variable {K:W.Frag} {H H':Hp}
mutual
def Rp.same (g:bZ H H'):∀ {v:V} {d:D},Rp K H v d->Rp K H' v d
 | _,_,.non=>.non
 | _,_,.bl b=>.bl b
 | _,_,.int i=>.int i
 | _,_,.str x=>.str x
 | _,_,.ty n=>.ty n
 | _,_,.cls n=>.cls n
 | _,_,.tup h r=>.tup (g.tup h) (Rps.same g r)
 | _,_,.lst h r=>.lst (g _ _ h) (Rps.same g r)
 | _,_,.fz h r=>.fz (g.seq h) (Rps.same g r)
 | _,_,.dct h r=>.dct (g _ _ h) (RpK.same g r)
 | _,_,.obj h r=>.obj (g _ _ h) (RpF.same g r)
 | _,_,.dfz h r=>.dfz (h.elim (λ z=>.inl (g _ _ z)) λ ⟨o,z⟩=>.inr ⟨o,g _ _ z⟩) (RpK.same g r)
def Rps.same (g:bZ H H'):∀ {v:List V} {d:List D},Rps K H v d->Rps K H' v d
 | _,_,.nil=>.nil
 | _,_,.cons h r=>.cons (Rp.same g h) (Rps.same g r)
def RpK.same (g:bZ H H'):∀ {v:List (Key×V)} {d:List (Key×D)},RpK K H v d->RpK K H' v d
 | _,_,.nil=>.nil
 | _,_,.cons h r=>.cons (Rp.same g h) (RpK.same g r)
def RpF.same (g:bZ H H'):∀ {v:List (Str×V)} {d:List (Str×D)},RpF K H v d->RpF K H' v d
 | _,_,.nil=>.nil
 | _,_,.cons h r=>.cons (Rp.same g h) (RpF.same g r)
end
def Rps.length:∀ {xs:List V} {ds:List D},Rps K H xs ds->xs.length=ds.length
 | _,_,.nil=>rfl
 | _,_,.cons _ r=>Yh (·+1) r.length
def Rps.get:∀ {xs:List V} {ds:List D} {i:Nat} {d:D},Rps K H xs ds->ds[i]?=some d->∃ x,xs[i]?=some x/\Rp K H x d
 | _,_,_,_,.nil,e=>by simp at e
 | _,_,0,_,.cons h _,e=>by simp at e; subst e; exact ⟨_,by simp,h⟩
 | _,_,i+1,d,.cons _ r,e=>by
  obtain ⟨x,h1,h2⟩:=Rps.get (i:=i) (d:=d) r (by simpa using e);exact ⟨x,by simpa using h1,h2⟩
def Rps.append:∀ {xs ys:List V} {ds es:List D},Rps K H xs ds->Rps K H ys es->Rps K H (xs++ys) (ds++es)
 | _,_,_,_,.nil,h=>h
 | _,_,_,_,.cons h r,h'=>.cons h (Rps.append r h')
def Rps.take:∀ {xs:List V} {ds:List D} (n:Nat),Rps K H xs ds->Rps K H (xs.take n) (ds.take n)
 | _,_,0,_=>.nil
 | _,_,_+1,.nil=>.nil
 | _,_,n+1,.cons h r=>.cons h (Rps.take n r)
def Rps.drop:∀ {xs:List V} {ds:List D} (n:Nat),Rps K H xs ds->Rps K H (xs.drop n) (ds.drop n)
 | _,_,0,h=>h
 | _,_,_+1,.nil=>.nil
 | _,_,n+1,.cons _ r=>Rps.drop n r
def Rps.ints:∀ (ns:List Int),Rps K H (ns.map V.int) (ns.map D.int)
 | []=>.nil
 | n::ns=>.cons (.int n) (Rps.ints ns)
def Rps.strs:∀ (ns:List Str),Rps K H (ns.map V.str) (ns.map D.str)
 | []=>.nil
 | n::ns=>.cons (.str n) (Rps.strs ns)
end
structure Ext (Hs H Hs' H':Hp):Prop where
 ss:bZ Hs Hs'
 sh:bZ Hs' H'
 hh:bZ H H'
 fr:∀ b,Hs b=none->H b≠none->Hs' b=none
def Ext.refl (h:bZ Hs H):Ext Hs H Hs H:=⟨.refl _,h,.refl _,λ _ h _=>h⟩
def hU {α:Type} {o:Option α} {x:α} (h:o=some x):o≠none:=by rw [h]; simp
def bZ.live (g:bZ H H') (h:H b≠none):H' b≠none:=by
 cases q:H b with
 | none=>exact absurd q h
 | some o=>rw [g _ _ q]; simp
def Ext.trans (a:Ext Hs H Hs1 H1) (b:Ext Hs1 H1 Hs2 H2):Ext Hs H Hs2 H2 :=
 ⟨a.ss.trans b.ss,b.sh,a.hh.trans b.hh,λ c h1 h2=>b.fr c (a.fr c h1 h2) (a.hh.live h2)⟩
def Ext.new (h:bZ Hs H) (hp:H p=none) (o:HO):Ext Hs H (upd Hs p o) (upd H p o):=by
 refine ⟨aA (h.free hp) o,λ b u q=>?_,aA hp o,λ b h1 h2=>?_⟩
 ·by_cases e:b=p
  · subst e; rw [aq] at q ⊢; exact q
  · rw [aj e] at q ⊢; exact h _ _ q
 ·by_cases e:b=p
  · subst e; exact absurd hp h2
  · rw [aj e]; exact h1
inductive Sl where
 | no | shr (d:D) | own (d:D)
inductive Ow (K:W.Frag) (Hs H:Hp) (a:Addr):D->Prop where
 | lst {xs:List V} {ds:List D} (h:H a=some (.lst xs)) (n:Hs a=none) (r:Rps K Hs xs ds):Ow K Hs H a (.lst ds)
 | dct {kvs:List (Key×V)} {ds:List (Key×D)} (h:H a=some (.dK kvs)) (n:Hs a=none) (r:RpK K Hs kvs ds):Ow K Hs H a (.dct ds)
def Ow.hid {K:W.Frag} {Hs H:Hp} {a:Addr} {d:D} (h:Ow K Hs H a d):Hs a=none:=by cases h <;> assumption
def Ow.live {K:W.Frag} {Hs H:Hp} {a:Addr} {d:D} (h:Ow K Hs H a d):H a≠none:=by
 cases h with
 | lst h _ _=>exact hU h
 | dct h _ _=>exact hU h
def Ow.ext {K:W.Frag} {Hs H Hs' H':Hp} {a:Addr} {d:D} (g:Ext Hs H Hs' H') (h:Ow K Hs H a d):Ow K Hs' H' a d:=by
 have n':=g.fr a h.hid h.live
 cases h with
 | lst h n r=>exact .lst (g.hh _ _ h) n' (r.same g.ss)
 | dct h n r=>exact .dct (g.hh _ _ h) n' (r.same g.ss)
def Ow.off {K:W.Frag} {Hs H H':Hp} {a:Addr} {d:D} (h:Ow K Hs H a d) (e:H' a=H a):Ow K Hs H' a d:=by
 cases h with
 | lst h n r=>exact .lst (e.trans h) n r
 | dct h n r=>exact .dct (e.trans h) n r
inductive StR (K:W.Frag) (H0 Hs H:Hp):List (Option V)->List Sl->List Addr->Prop where
 | nil:StR K H0 Hs H [] [] []
 | no {o:Option V} {σ:List (Option V)} {τ:List Sl} {fp:List Addr} (r:StR K H0 Hs H σ τ fp):StR K H0 Hs H (o::σ) (.no::τ) fp
 | shr {v:V} {d:D} {σ:List (Option V)} {τ:List Sl} {fp:List Addr} (h:Rp K Hs v d) (r:StR K H0 Hs H σ τ fp):StR K H0 Hs H (some v::σ) (.shr d::τ) fp
 | own {a:Addr} {d:D} {σ:List (Option V)} {τ:List Sl} {fp:List Addr} (h:Ow K Hs H a d) (z:H0 a=none) (m:a ∉ fp) (r:StR K H0 Hs H σ τ fp):StR K H0 Hs H (some (.ref a)::σ) (.own d::τ) (a::fp)
section
variable {K:W.Frag} {H0 Hs H Hs' H':Hp} {σ:List (Option V)} {τ:List Sl} {fp:List Addr}
def StR.ext (g:Ext Hs H Hs' H') (h:StR K H0 Hs H σ τ fp):StR K H0 Hs' H' σ τ fp:=by
 induction h with
 | nil=>exact .nil
 | no _ ih=>exact .no ih
 | shr h _ ih=>exact .shr (h.same g.ss) ih
 | own h z m _ ih=>exact .own (h.ext g) z m ih
def StR.off (h:StR K H0 Hs H σ τ fp) (m:a ∉ fp):StR K H0 Hs (upd H a o) σ τ fp:=by
 induction h with
 | nil=>exact .nil
 | no _ ih=>exact .no (ih m)
 | shr h _ ih=>exact .shr h (ih m)
 | @own b d σ τ fp h z n _ ih =>
  have ne:b≠a:=λ e=>m (by rw [e]; exact Zd ..)
  exact .own (h.off (aj ne)) z n (ih (λ q=>m (Zc _ q)))
def StR.DM (h:StR K H0 Hs H σ τ fp):∀ a ∈ fp,Hs a=none/\H0 a=none/\H a≠none:=by
 induction h with
 | nil=>intro a h; cases h
 | no _ ih=>exact ih
 | shr _ _ ih=>exact ih
 | own h z m _ ih =>
  intro b hb;rcases Zl.mp hb with e | e
  · subst e; exact ⟨h.hid,z,h.live⟩
  · exact ih b e
def StR.get {i:Nat} {d:D} (h:StR K H0 Hs H σ τ fp):τ[i]?=some (.shr d)->∃ v,σ[i]?=some (some v)/\Rp K Hs v d:=by
 induction h generalizing i with
 | nil=>intro e; simp at e
 | no _ ih =>
  intro e
  cases i with
  | zero=>simp at e
  | succ i=>exact ih (by simpa using e)
 | shr h _ ih =>
  intro e
  cases i with
  | zero=>simp at e; subst e; exact ⟨_,rfl,h⟩
  | succ i=>exact ih (by simpa using e)
 | own _ _ _ _ ih =>
  intro e
  cases i with
  | zero=>simp at e
  | succ i=>exact ih (by simpa using e)
def StR.DL {i:Nat} {d:D} (h:StR K H0 Hs H σ τ fp):τ[i]?=some (.own d)->∃ a,σ[i]?=some (some (.ref a))/\Ow K Hs H a d/\H0 a=none/\a ∈ fp:=by
 induction h generalizing i with
 | nil=>intro e; simp at e
 | no _ ih =>
  intro e
  cases i with
  | zero=>simp at e
  | succ i=>exact ih (by simpa using e)
 | shr h _ ih =>
  intro e
  cases i with
  | zero=>simp at e
  | succ i=>exact ih (by simpa using e)
 | own h z m _ ih =>
  intro e
  cases i with
  | zero=>simp at e; subst e; exact ⟨_,rfl,h,z,Zd ..⟩
  | succ i =>
   obtain ⟨a,h1,h2,h3,h4⟩:=ih (by simpa using e);exact ⟨a,h1,h2,h3,Zc _ h4⟩
def StR.u9 (hv:Rp K Hs v d) (h:StR K H0 Hs H σ τ fp):∃ fp',(∀ a ∈ fp',a ∈ fp)/\StR K H0 Hs H (σ.set i (some v)) (τ.set i (.shr d)) fp':=by
 induction h generalizing i with
 | nil=>exact ⟨[],λ _ h=>h,.nil⟩
 | no r ih =>
  cases i with
  | zero=>exact ⟨_,λ _ h=>h,.shr hv r⟩
  | succ i=>obtain ⟨fp',h1,h2⟩:=ih; exact ⟨fp',h1,.no h2⟩
 | shr h r ih =>
  cases i with
  | zero=>exact ⟨_,λ _ h=>h,.shr hv r⟩
  | succ i=>obtain ⟨fp',h1,h2⟩:=ih (i:=i); exact ⟨fp',h1,.shr h h2⟩
 | own h z m r ih =>
  cases i with
  | zero=>exact ⟨_,λ _ h=>Zc _ h,.shr hv r⟩
  | succ i =>
   obtain ⟨fp',h1,h2⟩:=ih (i:=i);exact ⟨_::fp',λ b hb=>(Zl.mp hb).elim (λ e=>by subst e; exact Zd ..) λ e=>Zc _ (h1 b e),.own h z (λ q=>m (h1 _ q)) h2⟩
def StR.M2 (hv:Ow K Hs H a d) (z0:H0 a=none) (h:StR K H0 Hs H σ τ fp) (m0:a ∉ fp) (hi:i < τ.length) :
  ∃ fp',(∀ b ∈ fp',b=a\/b ∈ fp)/\StR K H0 Hs H (σ.set i (some (.ref a))) (τ.set i (.own d)) fp':=by
 induction h generalizing i with
 | nil=>exact absurd hi (by simp)
 | @no o σ τ fp r ih =>
  cases i with
  | zero=>exact ⟨a::fp,λ b h=>Zl.mp h,.own hv z0 m0 r⟩
  | succ i=>obtain ⟨fp',h1,h2⟩:=ih m0 (by simpa using hi); exact ⟨fp',h1,.no h2⟩
 | @shr v d σ τ fp h r ih =>
  cases i with
  | zero=>exact ⟨a::fp,λ b h=>Zl.mp h,.own hv z0 m0 r⟩
  | succ i=>obtain ⟨fp',h1,h2⟩:=ih m0 (i:=i) (by simpa using hi); exact ⟨fp',h1,.shr h h2⟩
 | @own b d' σ τ fp h z m r ih =>
  have m1:a ∉ fp:=λ q=>m0 (Zc _ q)
  cases i with
  | zero=>exact ⟨a::fp,λ c hc=>(Zl.mp hc).imp id λ e=>Zc _ e,.own hv z0 m1 r⟩
  | succ i =>
   obtain ⟨fp',h1,h2⟩:=ih m1 (i:=i) (by simpa using hi);refine ⟨b::fp',λ c hc=>?_,.own h z (λ q=>?_) h2⟩
   ·rcases Zl.mp hc with e | e
    · exact .inr (by subst e; exact Zd ..)
    · exact (h1 c e).imp id λ e=>Zc _ e
   ·rcases h1 _ q with e | e
    · exact m0 (by rw [<- e]; exact Zd ..)
    · exact m e
def StR.mut {i:Nat} {a:Addr} {d d':D} {o:HO} (h:StR K H0 Hs H σ τ fp):τ[i]?=some (.own d)->σ[i]?=some (some (.ref a))->Ow K Hs (upd H a o) a d'->StR K H0 Hs (upd H a o) σ (τ.set i (.own d')) fp:=by
 induction h generalizing i with
 | nil=>intro e; simp at e
 | no _ ih =>
  intro e e2 hv
  cases i with
  | zero=>simp at e
  | succ i=>exact .no (ih (by simpa using e) (by simpa using e2) hv)
 | shr h _ ih =>
  intro e e2 hv
  cases i with
  | zero=>simp at e
  | succ i=>exact .shr h (ih (by simpa using e) (by simpa using e2) hv)
 | @own b d1 σ τ fp h z m r ih =>
  intro e e2 hv
  cases i with
  | zero =>
   have q:b=a:=by simpa using e2
   subst q;exact .own hv z m (r.off m)
  | succ i =>
   have e':τ[i]?=some (.own d):=by simpa using e
   have e2':σ[i]?=some (some (.ref a)):=by simpa using e2
   obtain ⟨c,h1,h2,h3,h4⟩:=r.DL e';have q:c=a:=by rw [e2'] at h1; simpa using h1.symm
   subst q;have ne:b≠c:=λ e=>m (by rw [e]; exact h4)
   exact .own (h.off (aj ne)) z m (ih e' e2' hv)
end
def Ow.rp {K:W.Frag} {Hs H:Hp} {a:Addr} {d:D} (h:Ow K Hs H a d):∃ o,H a=some o/\Rp K (upd Hs a o) (.ref a) d:=by
 cases h with
 | lst h n r=>exact ⟨_,h,.lst aq (r.same (aA n _))⟩
 | dct h n r=>exact ⟨_,h,.dct aq (r.same (aA n _))⟩
section
variable {K:W.Frag} {H0 Hs H Hs' H':Hp} {σ:List (Option V)} {τ:List Sl} {fp:List Addr}
def StR.N8 (h:StR K H0 Hs H σ τ fp) (n:Hs a=none) (m:a ∉ fp):StR K H0 (upd Hs a o) H σ τ fp:=by
 induction h with
 | nil=>exact .nil
 | no _ ih=>exact .no (ih m)
 | shr h _ ih=>exact .shr (h.same (aA n o)) (ih m)
 | @own b d σ τ fp h z k _ ih =>
  have ne:b≠a:=λ e=>m (by rw [e]; exact Zd ..)
  refine .own ?_ z k (ih (λ q=>m (Zc _ q)))
  cases h with
  | lst h n' r=>exact .lst h (by rw [aj ne]; exact n') (r.same (aA n o))
  | dct h n' r=>exact .dct h (by rw [aj ne]; exact n') (r.same (aA n o))
def StR.frz {i:Nat} {d:D} (h:StR K H0 Hs H σ τ fp):τ[i]?=some (.own d)->∃ a o fp',H a=some o/\Hs a=none/\H0 a=none/\StR K H0 (upd Hs a o) H σ (τ.set i (.shr d)) fp'/\a ∉ fp'/\(∀ b ∈ fp',b ∈ fp)/\σ[i]?=some (some (.ref a))/\Ow K Hs H a d:=by
 induction h generalizing i with
 | nil=>intro e; simp at e
 | no _ ih =>
  intro e
  cases i with
  | zero=>simp at e
  | succ i =>
   obtain ⟨a,o,fp',h1,h2,h3,h4,h5,h6,h7,h8⟩:=ih (by simpa using e);exact ⟨a,o,fp',h1,h2,h3,.no h4,h5,h6,h7,h8⟩
 | shr h _ ih =>
  intro e
  cases i with
  | zero=>simp at e
  | succ i =>
   obtain ⟨a,o,fp',h1,h2,h3,h4,h5,h6,h7,h8⟩:=ih (i:=i) (by simpa using e);exact ⟨a,o,fp',h1,h2,h3,.shr (h.same (aA h2 o)) h4,h5,h6,h7,h8⟩
 | @own b d1 σ τ fp h z m r ih =>
  intro e
  cases i with
  | zero =>
   simp at e;subst e;obtain ⟨o,h1,h2⟩:=h.rp;exact ⟨b,o,fp,h1,h.hid,z,.shr h2 (r.N8 h.hid m),m,λ _ q=>Zc _ q,rfl,h⟩
  | succ i =>
   obtain ⟨a,o,fp',h1,h2,h3,h4,h5,h6,h7,h8⟩:=ih (i:=i) (by simpa using e);obtain ⟨c,k1,k2,k3,k4⟩:=r.DL (i:=i) (by simpa using e);have q:c=a:=by rw [h7] at k1; simpa using k1.symm
   subst q;have ne:b≠c:=λ e=>m (by rw [e]; exact k4)
   refine ⟨c,o,b::fp',h1,h2,h3,.own ?_ z (λ q=>m (h6 _ q)) h4,?_,?_,h7,h8⟩
   ·cases h with
    | lst h n' r=>exact .lst h (by rw [aj ne]; exact n') (r.same (aA h2 o))
    | dct h n' r=>exact .dct h (by rw [aj ne]; exact n') (r.same (aA h2 o))
   ·intro q
    rcases Zl.mp q with e | e
    · exact ne e.symm
    · exact h5 e
   ·intro c' hc
    rcases Zl.mp hc with e | e
    · subst e; exact Zd ..
    · exact Zc _ (h6 _ e)
end
abbrev DE:=List Sl->Option D
abbrev DT:=List Sl->Option Bool
abbrev DA:=List Sl->Option (List D)
inductive Out where
 | next (τ:List Sl) | ret (s:Sl) | brk (τ:List Sl) | cnt (τ:List Sl)
abbrev DS:=List Sl->Option Out
def SlV (K:W.Frag) (H0 Hs H:Hp) (v:V):Sl->Prop
 | .no=>False
 | .shr d=>Rp K Hs v d
 | .own d=>∃ a,v=.ref a/\Ow K Hs H a d/\H0 a=none
structure Rep (K:W.Frag) (Hs0 H0 Hs H:Hp) (σ:St) (τ:List Sl):Prop where
 ext:Ext Hs0 H0 Hs H
 st:∃ fp,StR K H0 Hs H σ τ fp
def rdE (K:W.Frag) (f:DE):TE:=λ σ H Q=>∃ H0 Hs τ fp d,StR K H0 Hs H σ τ fp/\bZ Hs H/\f τ=some d/\∀ v Hs' H',Ext Hs H Hs' H'->Rp K Hs' v d->Q v H'
def rdT (K:W.Frag) (f:DT):TT:=λ σ H Q=>∃ H0 Hs τ fp d,StR K H0 Hs H σ τ fp/\bZ Hs H/\f τ=some d/\∀ Hs' H',Ext Hs H Hs' H'->Q d H'
def rdA (K:W.Frag) (f:DA):TA:=λ σ H Q=>∃ H0 Hs τ fp d,StR K H0 Hs H σ τ fp/\bZ Hs H/\f τ=some d/\∀ v Hs' H',Ext Hs H Hs' H'->Rps K Hs' v d->Q v H'
def rdO (K:W.Frag) (f:DE):TE:=λ σ H Q=>∃ H0 Hs τ fp d,StR K H0 Hs H σ τ fp/\bZ Hs H/\f τ=some d/\∀ a Hs' H',Ext Hs H Hs' H'->Ow K Hs' H' a d->H a=none->Q (.ref a) H'
def PEd (X:Cx) (e:Expr) (f:DE):Prop:=PE X e (rdE X.K f)
def PEo (X:Cx) (e:Expr) (f:DE):Prop:=PE X e (rdO X.K f)
def PTd (X:Cx) (e:Expr) (f:DT):Prop:=PT X e (rdT X.K f)
def PAd (X:Cx) (es:List Expr) (f:DA):Prop:=PA X es (rdA X.K f)
def Fin (K:W.Frag) (Hs0 H0:Hp) (E:Ends):Out->Prop
 | .next τ=>∀ σ Hs H,Rep K Hs0 H0 Hs H σ τ->E.nx σ H
 | .brk τ=>∀ σ Hs H,Rep K Hs0 H0 Hs H σ τ->E.bk σ H
 | .cnt τ=>∀ σ Hs H,Rep K Hs0 H0 Hs H σ τ->E.ct σ H
 | .ret s=>∀ v Hs H,Ext Hs0 H0 Hs H->SlV K H0 Hs H v s->E.rt v H
def rdS (K:W.Frag) (f:DS):TS:=λ E σ H=>∃ Hs0 H0 Hs τ o,Rep K Hs0 H0 Hs H σ τ/\f τ=some o/\Fin K Hs0 H0 E o
def PSd (X:Cx) (s:Stmt) (f:DS):Prop:=PS X s (rdS X.K f)
def nM (X:Cx) (s:List Stmt) (f:DS):Prop:=PSs X s (rdS X.K f)
def PE.imp (h:PE X e t) (hi:∀ σ H Q,t' σ H Q->t σ H Q):PE X e t':=λ pins s σ H Q I q=>h pins s σ H Q I (hi _ _ _ q)
def PT.imp (h:PT X e t) (hi:∀ σ H Q,t' σ H Q->t σ H Q):PT X e t':=λ pins s σ H Q I q=>h pins s σ H Q I (hi _ _ _ q)
def PA.imp (h:PA X e t) (hi:∀ σ H Q,t' σ H Q->t σ H Q):PA X e t':=λ pos pins s σ H Q I q=>h pos pins s σ H Q I (hi _ _ _ q)
def PS.imp (h:PS X e t) (hi:∀ E σ H,t' E σ H->t E σ H):PS X e t':=λ pins s σ H E I q=>h pins s σ H E I (hi _ _ _ q)
def PSs.imp (h:PSs X e t) (hi:∀ E σ H,t' E σ H->t E σ H):PSs X e t':=λ pins s σ H E I q=>h pins s σ H E I (hi _ _ _ q)
def aD (i:Nat):DE:=λ τ=>match τ[i]? with | some (.shr d)=>some d | _=>none
def dC (d:D):DE:=λ _=>some d
def dOp (o:D->D->Option D) (f g:DE):DE:=λ τ=>(f τ).bind λ x=>(g τ).bind λ y=>o x y
def dUn (o:D->Option D) (f:DE):DE:=λ τ=>(f τ).bind o
def cK:DA:=λ _=>some []
def aF (f:DE) (g:DA):DA:=λ τ=>(f τ).bind λ x=>(g τ).bind λ xs=>some (x::xs)
def cV (o:List D->Option D) (f:DA):DE:=λ τ=>(f τ).bind o
def G4 (f:DA):DE:=λ τ=>(f τ).bind λ ds=>if ds.length<=100000 then some (.tup ds) else none
def DY (f:DA):DE:=λ τ=>(f τ).bind λ ds=>if ds.length<=100000 then some (.lst ds) else none
def i9 (f g:DE):DE:=λ τ=>(f τ).bind λ x=>match x with | .bl true=>g τ | .bl false=>some (.bl false) | _=>none
def Og (f g:DE):DE:=λ τ=>(f τ).bind λ x=>match x with | .bl true=>some (.bl true) | .bl false=>g τ | _=>none
def G5 (f:DE):DE:=λ τ=>(f τ).bind λ x=>match x with | .bl b=>some (.bl (!b)) | _=>none
def dT (f:DE):DT:=λ τ=>(f τ).bind λ x=>match x with | .bl b=>some b | _=>none
def Ab (f g:DT):DT:=λ τ=>(f τ).bind λ b=>if b=true then g τ else some false
def dOr (f g:DT):DT:=λ τ=>(f τ).bind λ b=>if b=true then some true else g τ
def Bb (f:DT):DT:=λ τ=>(f τ).map (!·)
def le5 (h:n<=100000):n < sizeLine:=Nat.lt_of_le_of_lt h (by rw [Y5]; decide)
def uE (h:n<=100000):n<=sizeLine:=Yn (le5 h)
def nn {α:Type} {d:α} {p:Prop} (h:(none:Option α)=some d):p:=nomatch h
def bind_some {α β:Type} {o:Option α} {f:α->Option β} {b:β} (h:o.bind f=some b):∃ a,o=some a/\f a=some b:=Option.bind_eq_some_iff.mp h
section
variable {X:Cx} {a b c e:Expr} {es:List Expr} {pos:Pos} {f g h:DE}
def FH (i:Nat) (hN:X.N[i]?=some x:=by rfl) (hv:Vis X.env.scope x:=by first | exact Or.inl rfl | exact Or.inr (Or.inl rfl) | exact Or.inr (Or.inr rfl)) (hd:(x == ("__debug__":Str))=false:=by decide)
   (hcd:(x == ("__classdict__":Str))=false:=by decide):PEd X (.Name x pos) (aD i) :=
 (eJ hN hv hd hcd).imp λ σ H Q ⟨H0,Hs,τ,fp,d,st,sm,e,k⟩=>by
   have e':τ[i]?=some (.shr d):=by
    unfold aD at e;split at e
    · rename_i d' q; rw [q]; simpa using e
    · cases e
   obtain ⟨v,h1,h2⟩:=st.get e';exact ⟨v,h1,k v Hs H (.refl sm) h2⟩
def gK (h:PE X e (tC v)) (r:∀ H,Rp X.K H v d):PEd X e (dC d) :=
 h.imp λ σ H Q ⟨H0,Hs,τ,fp,d',st,sm,e,k⟩=>by
  have e':=Zj e;subst e';exact k v Hs H (.refl sm) (r Hs)
def FO {j}:PEd X (.Constant (.int i) j pos) (dC (.int i)):=gK rC λ _=>.int i
def Jp {j}:PEd X (.Constant (.bool i) j pos) (dC (.bl i)):=gK Jk λ _=>.bl i
def FN {j}:PEd X (.Constant .none j pos) (dC .non):=gK Fx λ _=>.non
def FJ {j}:PEd X (.Constant (.str x) j pos) (dC (.str x)):=gK Fq λ _=>.str x
def CI (hg:Gl X x) (hm:X.mg x=some u) (r:RelV v u) (rd:∀ H,Rp X.K H v d) (hd:(x == ("__debug__":Str))=false:=by decide):PEd X (.Name x pos) (dC d):=gK (CA hg hm r hd) rd
def Jm (hg:Gl X x) (hm:X.mg x=none) (hv:bootBuiltins x=some (.type n)) (hn:x≠"__name__":=by decide) (hd:(x == ("__debug__":Str))=false:=by decide):PEd X (.Name x pos) (dC (.ty n)) :=
 gK (v:=.ty n) (CF hg hm hv (rfl) hn hd) λ _=>.ty n
def rdR (K:W.Frag) (o:D->D->Option D):R2:=λ x y H Q=>∃ Hs dx dy d,bZ Hs H/\Rp K Hs x dx/\Rp K Hs y dy/\o dx dy=some d/\∀ v Hs' H',Ext Hs H Hs' H'->Rp K Hs' v d->Q v H'
def rdU (K:W.Frag) (o:D->Option D):V->Hp->VK->Prop:=λ x H Q=>∃ Hs dx d,bZ Hs H/\Rp K Hs x dx/\o dx=some d/\∀ v Hs' H',Ext Hs H Hs' H'->Rp K Hs' v d->Q v H'
def rdL (K:W.Frag) (o:List D->Option D):List V->Hp->VK->Prop:=λ xs H Q=>∃ Hs ds d,bZ Hs H/\Rps K Hs xs ds/\o ds=some d/\∀ v Hs' H',Ext Hs H Hs' H'->Rp K Hs' v d->Q v H'
def md (K:W.Frag) (hh:rdE K (dOp o f g) σ H Q):tOp (rdR K o) (rdE K f) (rdE K g) σ H Q:=by
 obtain ⟨H0,Hs,τ,fp,d,st,sm,e,k⟩:=hh;obtain ⟨x,e1,e⟩:=bind_some e;obtain ⟨y,e2,e⟩:=bind_some e;refine ⟨H0,Hs,τ,fp,x,st,sm,e1,λ v Hs1 H1 g1 r1=>?_⟩;refine ⟨H0,Hs1,τ,fp,y,st.ext g1,g1.sh,e2,λ u Hs2 H2 g2 r2=>?_⟩;exact ⟨Hs2,x,y,d,g2.sh,r1.same g2.ss,r2,e,λ w Hs3 H3 g3 r3=>k w Hs3 H3 ((g1.trans g2).trans g3) r3⟩
def Jn (ho:OpR X (binaryOp op) (rdR X.K o)) (ha:PEd X a f) (hb:PEd X b g):PEd X (.BinOp a op b pos) (dOp o f g) :=
 (Jj ho ha hb).imp λ σ H Q h=>md X.K h
def Jl (ho:UnR X (unaryOp op) (rdU X.K o)) (ha:PEd X a f):PEd X (.UnaryOp op a pos) (dUn o f) :=
 (Ji ho ha).imp λ σ H Q ⟨H0,Hs,τ,fp,d,st,sm,e,k⟩=>by
   obtain ⟨x,e1,e⟩:=bind_some e;exact ⟨H0,Hs,τ,fp,x,st,sm,e1,λ v Hs1 H1 g1 r1=>⟨Hs1,x,d,g1.sh,r1,e,λ w Hs3 H3 g3 r3=>k w Hs3 H3 (g1.trans g3) r3⟩⟩
def FQ (ho:OpR X (compareOp op) (rdR X.K o)) (ha:PEd X a f) (hb:PEd X b g) (hm:behindInMarks op b=false):PEd X (.Compare a [op] [b] pos) (dOp o f g) :=
 (CD ho ha hb hm).imp λ σ H Q h=>md X.K h
def BV (ho:OpR X (compareOp op) (rdR X.K o)) (ha:PEd X a f) (hb:PEd X b g) (hm:behindInMarks op b=false):PTd X (.Compare a [op] [b] pos) (dT (dOp o f g)) :=
 (BX ho ha hb hm).imp λ σ H Q ⟨H0,Hs,τ,fp,d,st,sm,e,k⟩=>by
   obtain ⟨x,e1,e⟩:=bind_some e;have hx:x=.bl d:=by cases x <;> simp at e <;> subst e <;> rfl
   subst hx;refine md X.K ⟨H0,Hs,τ,fp,_,st,sm,e1,λ v Hs' H' g r=>?_⟩;cases r;exact ⟨d,rfl,k Hs' H' g⟩
def zy (ho:OpR X (compareOp op) (rdR X.K o)) (ho':OpR X (compareOp op') (rdR X.K o')) (ha:PEd X a f) (hb:PEd X b g) (hc:PEd X c h)
   (hm:lastMarks [op,op'] [b,c]=false:=by with_unfolding_all rfl):PEd X (.Compare a [op,op'] [b,c] pos) (i9 (dOp o f g) (dOp o' g h)) :=
 (zx ho ho' ha hb hc hm).imp λ σ H Q ⟨H0,Hs,τ,fp,d,st,sm,e,k⟩=>by
   obtain ⟨r,e0,e⟩:=bind_some e;obtain ⟨x,e1,e0⟩:=bind_some e0;obtain ⟨y,e2,e0⟩:=bind_some e0;refine ⟨H0,Hs,τ,fp,x,st,sm,e1,λ v Hs1 H1 g1 r1=>?_⟩;refine ⟨H0,Hs1,τ,fp,y,st.ext g1,g1.sh,e2,λ u Hs2 H2 g2 r2=>?_⟩;refine ⟨Hs2,x,y,r,g2.sh,r1.same g2.ss,r2,e0,λ w Hs3 H3 g3 r3=>?_⟩
   cases r3 with
   | bl kb =>
    refine ⟨kb,rfl,?_⟩
    cases kb with
    | false =>
     rw [if_neg Zf];have e':D.bl false=d:=by simpa using e
     subst e';exact k _ Hs3 H3 ((g1.trans g2).trans g3) (.bl false)
    | true =>
     rw [if_pos rfl];obtain ⟨y',q1,q2⟩:=bind_some (e);have ey:y'=y:=by rw [e2] at q1; exact (Zj q1).symm
     subst ey;obtain ⟨z,q3,q4⟩:=bind_some q2;refine ⟨H0,Hs3,τ,fp,z,st.ext ((g1.trans g2).trans g3),g3.sh,q3,λ u' Hs4 H4 g4 r4=>?_⟩;exact ⟨Hs4,y',z,d,g4.sh,(r2.same g3.ss).same g4.ss,r4,q4,λ w' Hs5 H5 g5 r5=>k w' Hs5 H5 ((((g1.trans g2).trans g3).trans g4).trans g5) r5⟩
   | _=>exact nn e
def CM:PAd X [] cK:=eL.imp λ σ H Q ⟨H0,Hs,τ,fp,d,st,sm,e,k⟩=>by
 have e':=Zj e;subst e';exact k [] Hs H (.refl sm) .nil
def zC {g:DA} (ha:PEd X e f) (hr:PAd X es g) (hs:starEach (e::es) X.env=(false,eval e X.env)::starEach es X.env:=by rfl):PAd X (e::es) (aF f g) :=
 (cB ha hr hs).imp λ σ H Q ⟨H0,Hs,τ,fp,d,st,sm,e,k⟩=>by
   obtain ⟨x,e1,e⟩:=bind_some e;obtain ⟨xs,e2,e⟩:=bind_some e;have e':=Zj e;subst e';refine ⟨H0,Hs,τ,fp,x,st,sm,e1,λ v Hs1 H1 g1 r1=>?_⟩;exact ⟨H0,Hs1,τ,fp,xs,st.ext g1,g1.sh,e2,λ u Hs2 H2 g2 r2=>k _ Hs2 H2 (g1.trans g2) (.cons (r1.same g2.ss) r2)⟩
def FI {x1} {g:DA} (h:PAd X es g):PEd X (.Tuple es x1 pos) (G4 g) :=
 (AM h).imp λ σ H Q ⟨H0,Hs,τ,fp,d,st,sm,e,k⟩=>by
   obtain ⟨xs,e1,e⟩:=bind_some e
   by_cases hl:xs.length<=100000
   ·rw [if_pos hl] at e
    have e':=Zj e;subst e';refine ⟨H0,Hs,τ,fp,xs,st,sm,e1,λ v Hs1 H1 g1 r1=>?_⟩;refine ⟨by rw [r1.length]; exact uE hl,λ p hp=>?_⟩;have g2:=Ext.new g1.sh hp (.tup v);exact k _ _ _ (g1.trans g2) (.tup (SqT.of aq) (r1.same g2.ss))
   · rw [if_neg hl] at e; cases e
def Fj {g:DA} (h:PAd X es g):PEo X (.List es pos) (DY g) :=
 (Fy h).imp λ σ H Q ⟨H0,Hs,τ,fp,d,st,sm,e,k⟩=>by
   obtain ⟨xs,e1,e⟩:=bind_some e
   by_cases hl:xs.length<=100000
   ·rw [if_pos hl] at e
    have e':=Zj e;subst e';refine ⟨H0,Hs,τ,fp,xs,st,sm,e1,λ v Hs1 H1 g1 r1=>?_⟩;refine ⟨by rw [r1.length]; exact uE hl,λ p hp=>?_⟩;refine k p Hs1 _ ⟨g1.ss,g1.sh.trans (aA hp _),g1.hh.trans (aA hp _),g1.fr⟩ (.lst aq (g1.sh.free hp) r1) (g1.hh.free hp)
   · rw [if_neg hl] at e; cases e
def PEo.shr (h:PEo X e f):PEd X e f :=
 PE.imp h λ σ H Q ⟨H0,Hs,τ,fp,d,st,sm,e,k⟩=>⟨H0,Hs,τ,fp,d,st,sm,e,λ a Hs' H' g o z=>by
  obtain ⟨ob,h1,h2⟩:=o.rp;refine k _ (upd Hs' a ob) H' ⟨g.ss.trans (aA o.hid ob),λ b u q=>?_,g.hh,λ b h3 h4=>?_⟩ h2
  ·by_cases eb:b=a
   · subst eb; rw [aq] at q; rw [h1]; exact q
   · rw [aj eb] at q; exact g.sh _ _ q
  ·by_cases eb:b=a
   · subst eb; exact absurd z h4
   · rw [aj eb]; exact g.fr b h3 h4⟩
def BR (h:PEd X e f) (he:∀ whole,isTrue e X.env whole=(do let v <- whole; standAt e.pos; holding [v] (truthy v)):=by intro _; rfl):PTd X e (dT f) :=
 (AI h he).imp λ σ H Q ⟨H0,Hs,τ,fp,d,st,sm,e,k⟩=>by
   obtain ⟨x,e1,e⟩:=bind_some e;have hx:x=.bl d:=by cases x <;> simp at e <;> subst e <;> rfl
   subst hx;refine ⟨H0,Hs,τ,fp,_,st,sm,e1,λ v Hs' H' g r=>?_⟩;cases r;exact ⟨d,rfl,k Hs' H' g⟩
def BS {f:DT} (h:PTd X e f):PTd X (.UnaryOp .Not e pos) (Bb f) :=
 (AJ h).imp λ σ H Q ⟨H0,Hs,τ,fp,d,st,sm,e,k⟩=>by
   obtain ⟨x,e1,e⟩:=Zm e;subst e;exact ⟨H0,Hs,τ,fp,x,st,sm,e1,λ Hs' H' g=>k Hs' H' g⟩
def PWd (X:Cx) (e:Expr) (f:DT):Prop:=PW X e (rdT X.K f)
def PW.imp (h:PW X e t) (hi:∀ σ H Q,t' σ H Q->t σ H Q):PW X e t':=λ wh pins s σ H Q I q=>h wh pins s σ H Q I (hi _ _ _ q)
def yJ {f:DT} (h:PTd X a f):PWd X (.BoolOp .And [a] pos) f:=pw_and1 h
def BJ {f:DT} (h:PTd X a f):PWd X (.BoolOp .Or [a] pos) f:=pw_or1 h
def BK {f g:DT} (ha:PTd X a f) (hb:PWd X (.BoolOp .And (b::es) pos) g):PWd X (.BoolOp .And (a::b::es) pos) (Ab f g) :=
 PW.imp (pw_and ha hb) λ σ H Q ⟨H0,Hs,τ,fp,d,st,sm,e,k⟩=>by
  obtain ⟨x,e1,e⟩:=bind_some e;refine ⟨H0,Hs,τ,fp,x,st,sm,e1,λ Hs' H' g1=>?_⟩
  cases x with
  | true=>exact ⟨H0,Hs',τ,fp,d,st.ext g1,g1.sh,e,λ Hs2 H2 g2=>k Hs2 H2 (g1.trans g2)⟩
  | false =>
   have e':false=d:=by simpa using e
   subst e';exact k Hs' H' g1
def E9 {f g:DT} (ha:PTd X a f) (hb:PWd X (.BoolOp .Or (b::es) pos) g):PWd X (.BoolOp .Or (a::b::es) pos) (dOr f g) :=
 PW.imp (pw_or ha hb) λ σ H Q ⟨H0,Hs,τ,fp,d,st,sm,e,k⟩=>by
  obtain ⟨x,e1,e⟩:=bind_some e;refine ⟨H0,Hs,τ,fp,x,st,sm,e1,λ Hs' H' g1=>?_⟩
  cases x with
  | false=>exact ⟨H0,Hs',τ,fp,d,st.ext g1,g1.sh,e,λ Hs2 H2 g2=>k Hs2 H2 (g1.trans g2)⟩
  | true =>
   have e':true=d:=by simpa using e
   subst e';exact k Hs' H' g1
def PWd.ptd {f:DT} (h:PWd X e f):PTd X e f:=PW.pt h
def FK {op} (h:PEd X a f):PEd X (.BoolOp op [a] pos) f:=Fv h
def FR (ha:PEd X a f) (hb:PEd X (.BoolOp .And (b::es) pos) g):PEd X (.BoolOp .And (a::b::es) pos) (i9 f g) :=
 (FF ha hb).imp λ σ H Q ⟨H0,Hs,τ,fp,d,st,sm,e,k⟩=>by
   obtain ⟨x,e1,e⟩:=bind_some e;refine ⟨H0,Hs,τ,fp,x,st,sm,e1,λ v Hs' H' g1 r=>?_⟩
   cases r with
   | bl kb =>
    refine ⟨kb,rfl,?_⟩
    cases kb with
    | true=>exact ⟨H0,Hs',τ,fp,d,st.ext g1,g1.sh,e,λ v Hs2 H2 g2 r=>k v Hs2 H2 (g1.trans g2) r⟩
    | false =>
     have e':D.bl false=d:=by simpa using e
     subst e';exact k _ Hs' H' g1 (.bl false)
   | _=>exact nn e
def FL (ha:PEd X a f):PEd X (.UnaryOp .Not a pos) (G5 f) :=
 (Fw ha).imp λ σ H Q ⟨H0,Hs,τ,fp,d,st,sm,e,k⟩=>by
   obtain ⟨x,e1,e⟩:=bind_some e;refine ⟨H0,Hs,τ,fp,x,st,sm,e1,λ v Hs' H' g1 r=>?_⟩
   cases r with
   | bl kb =>
    have e':D.bl (!kb)=d:=by simpa using e
    subst e';exact ⟨kb,rfl,k _ Hs' H' g1 (.bl _)⟩
   | _=>exact nn e
end
instance {i j:Int}:Decidable (Bh i j):=by unfold Bh; infer_instance
instance {i:Int}:Decidable (Sz i):=by unfold Sz; infer_instance
instance {i j:Int}:Decidable (Hl i j):=by unfold Hl; infer_instance
def lV:D->D->Option D
 | .int i,.int j=>some (.int (i+j))
 | .str x,.str y=>if x.length+y.length<=100000 then some (.str (x++y)) else none
 | .lst x,.lst y=>if x.length+y.length<=100000 then some (.lst (x++y)) else none
 | _,_=>none
def Ho:D->D->Option D
 | .int i,.int j=>some (.int (i - j))
 | _,_=>none
def uC:D->D->Option D
 | .int i,.int j=>if Bh i j\/(Sz i/\Sz j) then some (.int (i * j)) else none
 | _,_=>none
def oDiv:D->D->Option D
 | .int i,.int j=>if j≠0/\Sz j then some (.int (i.fdiv j)) else none
 | _,_=>none
def oMod:D->D->Option D
 | .int i,.int j=>if j≠0 then some (.int (i.fmod j)) else none
 | _,_=>none
def Hq:D->D->Option D
 | .int i,.int j=>if Hl i j then some (.int (i ^ j.toNat)) else none
 | _,_=>none
def Hr:D->Option D
 | .int i=>some (.int (-i))
 | _=>none
def oLt:D->D->Option D
 | .int i,.int j=>some (.bl (decide (i < j)))
 | .str i,.str j=>some (.bl (decide (i.cps.toList < j.cps.toList)))
 | _,_=>none
def oLe:D->D->Option D
 | .int i,.int j=>some (.bl (decide (i<=j)))
 | _,_=>none
def oGt:D->D->Option D
 | .int i,.int j=>some (.bl (decide (j < i)))
 | _,_=>none
def oGe:D->D->Option D
 | .int i,.int j=>some (.bl (decide (j<=i)))
 | _,_=>none
def m3:D->D->Option D
 | .non,.non=>some (.bl false)
 | _,.non=>some (.bl true)
 | _,_=>none
def eqS:D->D->Option Bool
 | .non,.non=>some true | .non,.int _=>some false | .int _,.non=>some false | .non,.bl _=>some false | .bl _,.non=>some false | .non,.str _=>some false | .str _,.non=>some false
 | .int i,.int j=>some (decide (i=j)) | .bl i,.bl j=>some (decide (i=j)) | .str i,.str j=>some (decide (i=j))
 | .int _,.str _=>some false | .str _,.int _=>some false | .bl _,.str _=>some false | .str _,.bl _=>some false
 | _,_=>none
mutual
def d8:D->PySem.W.Dat
 | .non=>.none | .bl b=>.bool b | .int i=>.int i | .str x=>.str x | .ty _=>.bytes #[]
 | .tup ds=>.tuple (b8 ds) | .lst ds=>.list (b8 ds) | .fz _=>.bytes #[] | .dct _=>.bytes #[] | .obj _ _=>.bytes #[] | .cls _=>.bytes #[] | .dfz _=>.bytes #[]
def b8:List D->List PySem.W.Dat
 | []=>[]
 | d::ds=>d8 d::b8 ds
end
mutual
def okD:Nat->D->Bool
 | _,.non=>true
 | _,.int _=>true
 | _,.str x=>PyData.strOk x
 | n+1,.tup ds=>jN n ds
 | n+1,.lst ds=>jN n ds
 | _,_=>false
def jN:Nat->List D->Bool
 | _,[]=>true
 | n,d::ds=>okD n d&&jN n ds
end
open PySem.W in
mutual
def h9:∀ (n:Nat) (d:D),okD n d=true->kqdOk n (d8 d)=true
 | _,.non,_=>by simp [d8,kqdOk]
 | _,.int _,_=>by simp [d8,kqdOk]
 | n,.str x,h=>by simp [okD] at h; simp [d8,kqdOk,h]
 | n+1,.tup ds,h=>by
  simp [okD] at h;rw [d8,kqdOk];exact mZ n ds h
 | n+1,.lst ds,h=>by
  simp [okD] at h;rw [d8,kqdOk];exact mZ n ds h
 | _,.bl _,h=>by simp [okD] at h
 | _,.ty _,h=>by simp [okD] at h
 | _,.cls _,h=>by simp [okD] at h
 | _,.dct _,h=>by simp [okD] at h
 | _,.fz _,h=>by simp [okD] at h
 | _,.obj _ _,h=>by simp [okD] at h
 | _,.dfz _,h=>by simp [okD] at h
 | 0,.tup _,h=>by simp [okD] at h
 | 0,.lst _,h=>by simp [okD] at h
def mZ:∀ (n:Nat) (ds:List D),jN n ds=true->(b8 ds).all (kqdOk n)=true
 | _,[],_=>by simp [b8]
 | n,d::ds,h=>by
  simp [jN] at h;simp only [b8,List.all_cons,Z6];exact ⟨h9 n d h.1,mZ n ds h.2⟩
end
mutual
def nC:∀ (n:Nat) (d e:D),okD n d=true->okD n e=true->d8 d=d8 e->d=e
 | _,.non,e,_,h,q=>by cases e <;> simp [d8] at q <;> simp [okD] at h <;> rfl
 | _,.int _,e,_,h,q=>by cases e <;> simp [d8] at q <;> simp [okD] at h <;> rw [q]
 | _,.str x,e,_,h,q=>by cases e <;> simp [d8] at q <;> simp [okD] at h <;> rw [q]
 | n+1,.tup ds,e,h1,h,q=>by
  cases e <;> simp [d8] at q <;> simp [okD] at h
  simp [okD] at h1;rw [lE n _ _ h1 h q]
 | n+1,.lst ds,e,h1,h,q=>by
  cases e <;> simp [d8] at q <;> simp [okD] at h
  simp [okD] at h1;rw [lE n _ _ h1 h q]
 | _,.bl _,_,h,_,_=>by simp [okD] at h
 | _,.ty _,_,h,_,_=>by simp [okD] at h
 | _,.cls _,_,h,_,_=>by simp [okD] at h
 | _,.dct _,_,h,_,_=>by simp [okD] at h
 | _,.fz _,_,h,_,_=>by simp [okD] at h
 | _,.obj _ _,_,h,_,_=>by simp [okD] at h
 | _,.dfz _,_,h,_,_=>by simp [okD] at h
 | 0,.tup _,_,h,_,_=>by simp [okD] at h
 | 0,.lst _,_,h,_,_=>by simp [okD] at h
def lE:∀ (n:Nat) (d e:List D),jN n d=true->jN n e=true->b8 d=b8 e->d=e
 | _,[],e,_,h,q=>by cases e <;> simp [b8] at q; rfl
 | n,d::ds,e,h1,h,q=>by
  cases e with
  | nil=>simp [b8] at q
  | cons e es =>
   simp [b8] at q;simp [jN] at h h1;rw [nC n d e h1.1 h.1 q.1,lE n ds es h1.2 h.2 q.2]
end
section
variable {K:W.Frag} {H:Hp}
mutual
def Rp.rdD:∀ {v:V} {d:D} (n:Nat),Rp K H v d->okD n d=true->RdD K H v (d8 d)
 | _,_,_,.non,_=>by rw [d8]; exact .non
 | _,_,_,.int i,_=>by rw [d8]; exact .int i
 | _,_,_,.str i,_=>by rw [d8]; exact .str i
 | _,_,n,.tup h r,o=>by
  cases n with
  | zero=>simp [okD] at o
  | succ n=>simp [okD] at o; rw [d8]; exact .tup h (Rps.rdD n r o)
 | _,_,n,.lst h r,o=>by
  cases n with
  | zero=>simp [okD] at o
  | succ n=>simp [okD] at o; rw [d8]; exact .lst (SqL.of h) (Rps.rdD n r o)
 | _,_,_,.bl _,o=>by simp [okD] at o
 | _,_,_,.ty _,o=>by simp [okD] at o
 | _,_,_,.cls _,o=>by simp [okD] at o
 | _,_,_,.dct _ _,o=>by simp [okD] at o
 | _,_,_,.fz _ _,o=>by simp [okD] at o
 | _,_,_,.obj _ _,o=>by simp [okD] at o
 | _,_,_,.dfz _ _,o=>by simp [okD] at o
def Rps.rdD:∀ {v:List V} {d:List D} (n:Nat),Rps K H v d->jN n d=true->yj K H v (b8 d)
 | _,_,_,.nil,_=>by rw [b8]; exact .nil
 | _,_,n,.cons h r,o=>by
  simp [jN] at o;rw [b8];exact .cons (Rp.rdD n h o.1) (Rps.rdD n r o.2)
end
end
open Classical in
noncomputable def eqB (d e:D):Bool:=decide (d=e)
def j8 (d:D):eqB d d=true:=by unfold eqB; simp
def xA (h:d≠e):eqB d e=false:=by unfold eqB; simp [h]
noncomputable def eqO (d e:D):Option Bool:=match eqS d e with
 | some b=>some b
 | none=>if okD 9 d=true/\okD 9 e=true then some (eqB d e) else none
noncomputable def oEq (d e:D):Option D:=(eqO d e).map D.bl
noncomputable def oNe (d e:D):Option D:=(eqO d e).map λ b=>.bl (!b)
section
variable {X:Cx}
def OpR.imp (h:OpR X fn r) (hi:∀ x y H Q,r' x y H Q->r x y H Q):OpR X fn r':=λ pins s σ H x y v u Q I rx ry q=>h pins s σ H x y v u Q I rx ry (hi _ _ _ _ q)
def JE : OpR X (binaryOp .Add) (rdR X.K lV) :=
  ((FZ.or tK).or FY).imp λ x y H Q ⟨Hs,dx,dy,d,sm,rx,ry,e,k⟩=>by
    cases rx with
    | int i => cases ry with
      | int j => have e':D.int (i+j)=d:=by simpa [lV] using e
                 subst e';exact .inl (.inl ⟨i,j,rfl,rfl,k _ Hs H (.refl sm) (.int _)⟩)
      | _=>exact nn e
    | str x=>cases ry with
      | str y =>
        by_cases hl:x.length+y.length<=100000
        · have e':D.str (x++y)=d:=by simpa [lV,hl] using e
          subst e';exact .inl (.inr ⟨x,y,rfl,rfl,uE hl,k _ Hs H (.refl sm) (.str _)⟩)
        · simp [lV,hl] at e
      | _=>exact nn e
    | @lst a xs ds h r=>cases ry with
      | @lst b ys es h' r' =>
        by_cases hl:ds.length+es.length<=100000
        · have e':D.lst (ds++es)=d:=by simpa [lV,hl] using e
          subst e';refine .inr ⟨a,b,xs,ys,rfl,rfl,sm _ _ h,sm _ _ h',by rw [r.length,r'.length]; exact uE hl,λ p hp=>?_⟩;have g:=Ext.new sm hp (.lst (xs++ys));exact k _ _ _ g (.lst aq ((r.same g.ss).append (r'.same g.ss)))
        · simp [lV,hl] at e
      | _=>exact nn e
    | _=>exact nn e
def qd {fn:Value->Value->Sem Value} {C:Int->Int->Prop} [∀ i j,Decidable (C i j)] {gv:Int->Int->V} {gd:Int->Int->D} {o:D->D->Option D} (h:OpR X fn (rI C gv)) (hg:∀ i j H,Rp X.K H (gv i j) (gd i j))
  (ho:∀ x y d,o x y=some d->∃ i j,x=.int i/\y=.int j/\C i j/\d=gd i j):OpR X fn (rdR X.K o) :=
 h.imp λ x y H Q ⟨Hs,dx,dy,d,sm,rx,ry,e,k⟩=>by
  obtain ⟨i,j,rfl,rfl,c,rfl⟩:=ho _ _ _ e;cases rx;cases ry;exact ⟨i,j,rfl,rfl,c,k _ Hs H (.refl sm) (hg i j Hs)⟩
def Ja (h:OpR X fn (rI0 g)):OpR X fn (rI (λ _ _=>True) g):=h.imp λ x y H Q ⟨i,j,h1,h2,_,q⟩=>⟨i,j,h1,h2,q⟩
def Jx:OpR X (binaryOp .Sub) (rdR X.K Ho):=qd (Ja FU) (λ _ _ _=>.int _) λ x y d e=>by
 unfold Ho at e;split at e
 · exact ⟨_,_,rfl,rfl,trivial,(Zj e).symm⟩
 · cases e
def CP:OpR X (binaryOp .Mult) (rI (λ i j=>Bh i j\/(Sz i/\Sz j)) λ i j=>.int (i * j)):=opI λ _ _ _ _ _ _ _ hc q=>mul_int q (hc.elim (·.ok) λ h=>PySem.IntMulOk.of_bits h.1.bits h.2.bits)
def JB:OpR X (binaryOp .Mult) (rdR X.K uC):=qd CP (λ _ _ _=>.int _) λ x y d e=>by
 unfold uC at e;split at e
 ·split at e
  ·rename_i c
   exact ⟨_,_,rfl,rfl,c,(Zj e).symm⟩
  · cases e
 · cases e
def JD:OpR X (binaryOp .FloorDiv) (rdR X.K oDiv):=qd CS (λ _ _ _=>.int _) λ x y d e=>by
 unfold oDiv at e;split at e
 ·split at e
  ·rename_i c
   exact ⟨_,_,rfl,rfl,c,(Zj e).symm⟩
  · cases e
 · cases e
def JC:OpR X (binaryOp .Mod) (rdR X.K oMod):=qd CQ (λ _ _ _=>.int _) λ x y d e=>by
 unfold oMod at e;split at e
 ·split at e
  ·rename_i c
   exact ⟨_,_,rfl,rfl,c,(Zj e).symm⟩
  · cases e
 · cases e
def Jy:OpR X (binaryOp .Pow) (rdR X.K Hq):=qd FV (λ _ _ _=>.int _) λ x y d e=>by
 unfold Hq at e;split at e
 ·split at e
  ·rename_i c
   exact ⟨_,_,rfl,rfl,c,(Zj e).symm⟩
  · cases e
 · cases e
def F2:OpR X (compareOp .LtE) (rdR X.K oLe):=qd (Ja Jt) (λ _ _ _=>.bl _) λ x y d e=>by
 unfold oLe at e;split at e
 · exact ⟨_,_,rfl,rfl,trivial,(Zj e).symm⟩
 · cases e
def Nw:OpR X (compareOp .Gt) (rdR X.K oGt):=qd (Ja Ju) (λ _ _ _=>.bl _) λ x y d e=>by
 unfold oGt at e;split at e
 · exact ⟨_,_,rfl,rfl,trivial,(Zj e).symm⟩
 · cases e
def Nv:OpR X (compareOp .Lt) (rdR X.K oLt):=(Js.or wo).imp λ x y H Q ⟨Hs,dx,dy,d,sm,rx,ry,e,k⟩=>by
 cases rx with
 | int i=>cases ry with
  | int j =>
   have e':D.bl (decide (i < j))=d:=by simpa [oLt] using e
   subst e';exact .inl ⟨i,j,rfl,rfl,k _ Hs H (.refl sm) (.bl _)⟩
  | _=>exact nn e
 | str i=>cases ry with
  | str j =>
   have e':=Zj e;subst e';exact .inr ⟨i,j,rfl,rfl,k _ Hs H (.refl sm) (.bl _)⟩
  | _=>exact nn e
 | _=>exact nn e
def Jz:UnR X (unaryOp .USub) (rdU X.K Hr):=λ pins s σ H x v Q I rx ⟨Hs,dx,d,sm,r,e,k⟩=>Ex pins s σ H x v Q I rx (by
 cases r with
 | int i =>
  have e':D.int (-i)=d:=by simpa [Hr] using e
  subst e';exact ⟨i,rfl,k _ Hs H (.refl sm) (.int _)⟩
 | _=>simp [Hr] at e)
def F0:OpR X (compareOp .IsNot) (rdR X.K m3):=CO.imp λ x y H Q ⟨Hs,dx,dy,d,sm,rx,ry,e,k⟩=>by
 have hy:dy=.non:=by
  unfold m3 at e;split at e <;> first | rfl | cases e
 subst hy;cases ry;refine ⟨rfl,?_⟩;cases rx <;> (have e':=Zj e; subst e'; exact k _ Hs H (.refl sm) (.bl _))
def A8 {K:W.Frag} {H:Hp} {x y:V} {dx dy:D} {b:Bool} (rx:Rp K H x dx) (ry:Rp K H y dy) (e:eqS dx dy=some b):IT x y=true/\decide (x=y)=b:=by
  unfold eqS at e
  split at e <;> first
    | (cases e; done)
    | (have e':=Zj e
       subst e';cases rx;cases ry
       first | exact ⟨rfl,rfl⟩ | exact ⟨rfl,by simp⟩)
def sE (h:okD n d=true) (h':okD n e=true):eqD (d8 d) (d8 e)=eqB d e:=by
 by_cases q:d=e
 · subst q; rw [j8,zY rfl]
 · rw [xA q,xy λ z=>q (nC n _ _ h h' z)]
def LM (hu:X.A.units+64 < cLine):OpR X (compareOp .Eq) (rdR X.K oEq):=(Jv.or (FX hu)).imp λ x y H Q ⟨Hs,dx,dy,d,sm,rx,ry,e,k⟩=>by
 obtain ⟨b,e',rfl⟩:=Zm (e);have e:=e';unfold eqO at e;split at e
 ·rename_i b' q
  have e':=Zj e;subst e';obtain ⟨h1,h2⟩:=A8 rx ry q;refine .inl ⟨h1,?_⟩;rw [h2];exact k _ Hs H (.refl sm) (.bl _)
 ·split at e
  ·rename_i h
   have e':=Zj e;subst e';refine .inr ⟨d8 dx,d8 dy,(rx.same sm).rdD 9 h.1,(ry.same sm).rdD 9 h.2,h9 9 _ h.1,h9 9 _ h.2,?_⟩;rw [sE h.1 h.2];exact k _ Hs H (.refl sm) (.bl _)
  · cases e
def LL (hu:X.A.units+64 < cLine):OpR X (compareOp .NotEq) (rdR X.K oNe):=(Jr.or (FW hu)).imp λ x y H Q ⟨Hs,dx,dy,d,sm,rx,ry,e,k⟩=>by
 obtain ⟨b,e',rfl⟩:=Zm (e);have e:=e';unfold eqO at e;split at e
 ·rename_i b' q
  have e':=Zj e;subst e';obtain ⟨h1,h2⟩:=A8 rx ry q;refine .inl ⟨h1,?_⟩;rw [h2];exact k _ Hs H (.refl sm) (.bl _)
 ·split at e
  ·rename_i h
   have e':=Zj e;subst e';refine .inr ⟨d8 dx,d8 dy,(rx.same sm).rdD 9 h.1,(ry.same sm).rdD 9 h.2,h9 9 _ h.1,h9 9 _ h.2,?_⟩;rw [sE h.1 h.2];exact k _ Hs H (.refl sm) (.bl _)
  · cases e
end
def oIx:D->D->Option D
 | .tup ds,.int i=>atI ds i
 | .lst ds,.int i=>atI ds i
 | .fz ds,.int i=>atI ds i
 | .str z,.int i=>if z.length<=100000 then (atI z.cps.toList i).map λ c=>.str ⟨#[c]⟩ else none
 | _,_=>none
def DO:=List Sl->Option (Option Int)
def Lu:DO:=λ _=>some none
def dP (f:DE):DO:=λ τ=>(f τ).bind λ x=>match x with | .int i=>some (some i) | _=>none
def cutD (xs:List D) (lo hi:Option Int):List D:=(xs.drop (HT.sIx xs.length 0 lo)).take (HT.sIx xs.length xs.length hi - HT.sIx xs.length 0 lo)
def oSl:D->Option Int->Option Int->Option D
 | .lst ds,lo,hi=>some (.lst (cutD ds lo hi))
 | .fz ds,lo,hi=>some (.lst (cutD ds lo hi))
 | _,_,_=>none
def dSl (f:DE) (lo hi:DO):DE:=λ τ=>(f τ).bind λ x=>(lo τ).bind λ l=>(hi τ).bind λ u=>oSl x l u
def rL:List D->Option D
 | [.str z]=>if z.length<=100000 then some (.int z.length) else none
 | [.tup ds]=>some (.int ds.length)
 | [.lst ds]=>some (.int ds.length)
 | [.fz ds]=>some (.int ds.length)
 | _=>none
def wF:List D->Option D
 | [.tup ds]=>some (.lst ds)
 | [.lst ds]=>some (.lst ds)
 | [.fz ds]=>some (.lst ds)
 | _=>none
def wB:List D->Option D
 | [.tup ds]=>some (.tup ds)
 | [.lst ds]=>some (.tup ds)
 | _=>none
def wD:List D->Option D
 | [.int i,.int j]=>some (.int (if j < i then j else i))
 | _=>none
def tyN:D->Option String
 | .non=>some "NoneType" | .bl _=>some "bool" | .int _=>some "int" | .str _=>some "str" | .tup _=>some "tuple" | .lst _=>some "list" | .dct _=>some "dict" | _=>none
def K6 (t n:String):Bool:=t == n||(t == "bool"&&n == "int")
def kinds:List String:=["int","bool","str","list","tuple","dict"]
def Ht:List D->Option D
 | [d,.ty n]=>(tyN d).bind λ t=>if n ∈ kinds then some (.bl (K6 t n)) else none
 | _=>none
def qR {K:W.Frag} {H:Hp} {xs:List V} {ds:List D} {i:Int} {d:D} (r:Rps K H xs ds) (e:atI ds i=some d):∃ v,atI xs i=some v/\Rp K H v d:=by
 unfold atI at *;obtain ⟨j,e1,e2⟩:=bind_some e;obtain ⟨v,h1,h2⟩:=r.get e2;exact ⟨v,by rw [r.length,e1]; exact h1,h2⟩
def xO {K:W.Frag} {H:Hp} {xs:List V} {ds:List D} (lo hi:Option Int) (r:Rps K H xs ds):Rps K H (Ep xs lo hi) (cutD ds lo hi):=by
 unfold Ep cutD;rw [r.length];exact (r.drop _).take _
def wX {K:W.Frag} {t n:String} (ht:t ∈ ["NoneType","bool","int","str","tuple","list","dict"]) (hn:n ∈ kinds):PySem.W.kitOne K (.type t) (.type n)=some (K6 t n):=by
 simp only [kinds,Zl,Xm,or_false] at ht hn;rcases ht with rfl | rfl | rfl | rfl | rfl | rfl | rfl <;> rcases hn with rfl | rfl | rfl | rfl | rfl | rfl <;> kernel_rfl
section
variable {X:Cx} {a b c e:Expr} {es:List Expr} {pos:Pos} {f g h:DE}
def IxR.imp {r r':R2} (h:IxR X r) (hi:∀ x y H Q,r' x y H Q->r x y H Q):IxR X r':=λ value slice pins s σ H x y v u Q I rx ry q=>h value slice pins s σ H x y v u Q I rx ry (hi _ _ _ _ q)
def ixd:IxR X (rdR X.K oIx):=((w9.or Gx).or Gy).imp λ x y H Q ⟨Hs,dx,dy,d,sm,rx,ry,e,k⟩=>by
 obtain ⟨i,rfl⟩:∃ i,dy=.int i:=by
  unfold oIx at e;split at e <;> first | exact ⟨_,rfl⟩ | cases e
 cases ry
 cases rx with
 | tup h r =>
  obtain ⟨v,h1,h2⟩:=qR r (e);exact .inl (.inr ⟨_,_,i,v,rfl,rfl,sm.tup h,h1,k v Hs H (.refl sm) h2⟩)
 | lst h r =>
  obtain ⟨v,h1,h2⟩:=qR r (show atI _ i=some d from e);exact .inl (.inl ⟨_,_,i,v,rfl,rfl,SqL.of (sm _ _ h),h1,k v Hs H (.refl sm) h2⟩)
 | fz h r =>
  obtain ⟨v,h1,h2⟩:=qR r (show atI _ i=some d from e);exact .inl (.inl ⟨_,_,i,v,rfl,rfl,sm.seq h,h1,k v Hs H (.refl sm) h2⟩)
 | str z =>
  by_cases hl:z.length<=100000
  ·have e0:(atI z.cps.toList i).map (λ c=>D.str ⟨#[c]⟩)=some d:=by simpa only [oIx,hl,if_true] using e
   obtain ⟨c,e1,rfl⟩:=Zm e0;exact .inr ⟨z,i,c,rfl,rfl,uE hl,e1,k _ Hs H (.refl sm) (.str _)⟩
  · simp [oIx,hl] at e
 | _=>exact nn e
def Jo (ha:PEd X a f) (hb:PEd X b g) (hs:lQ b):PEd X (.Subscript a b pos) (dOp oIx f g):=(Fz ixd ha hb hs).imp λ σ H Q h=>md X.K h
def rdP (K:W.Frag) (f:DO):TO:=λ σ H Q=>∃ H0 Hs τ fp d,StR K H0 Hs H σ τ fp/\bZ Hs H/\f τ=some d/\∀ Hs' H',Ext Hs H Hs' H'->Q d H'
def POd (X:Cx) (e:Option Expr) (f:DO):Prop:=PO X e (rdP X.K f)
def PO.imp {e:Option Expr} {t t':TO} (h:PO X e t) (hi:∀ σ H Q,t' σ H Q->t σ H Q):PO X e t':=λ pins s σ H Q I q=>h pins s σ H Q I (hi _ _ _ q)
def zg:POd X none Lu:=Cj.imp λ σ H Q ⟨H0,Hs,τ,fp,d,st,sm,e,k⟩=>by
 have e':=Zj e;subst e';exact k Hs H (.refl sm)
def zf (h:PEd X e f):POd X (some e) (dP f):=(Ci h).imp λ σ H Q ⟨H0,Hs,τ,fp,d,st,sm,e,k⟩=>by
 obtain ⟨x,e1,e⟩:=bind_some e;refine ⟨H0,Hs,τ,fp,x,st,sm,e1,λ v Hs' H' g r=>?_⟩
 cases r with
 | int i =>
  have e':=Zj e;subst e';exact ⟨i,rfl,k Hs' H' g⟩
 | _=>exact nn e
def Je {lo hi:Option Expr} {p2:Pos} {l u:DO} (ha:PEd X a f) (hl:POd X lo l) (hh:POd X hi u):PEo X (.Subscript a (.Slice lo hi none p2) pos) (dSl f l u) :=
 (rB Bw ha hl hh).imp λ σ H Q ⟨H0,Hs,τ,fp,d,st,sm,e,k⟩=>by
   obtain ⟨x,e1,e⟩:=bind_some e;obtain ⟨l',e2,e⟩:=bind_some e;obtain ⟨u',e3,e⟩:=bind_some e;refine ⟨H0,Hs,τ,fp,x,st,sm,e1,λ v Hs1 H1 g1 r1=>?_⟩;refine ⟨H0,Hs1,τ,fp,l',st.ext g1,g1.sh,e2,λ Hs2 H2 g2=>?_⟩;refine ⟨H0,Hs2,τ,fp,u',(st.ext g1).ext g2,g2.sh,e3,λ Hs3 H3 g3=>?_⟩;have g13:=(g1.trans g2).trans g3;have r3:=(r1.same g2.ss).same g3.ss
   have fin:∀ (p:Addr) (ys:List V) (ds:List D),H3 p=none->Rps X.K Hs3 ys ds->d=.lst ds->Q (.ref p) (upd H3 p (.lst ys)):=λ p ys ds hp r ed=>by
    subst ed;exact k p Hs3 _ ⟨g13.ss,g13.sh.trans (aA hp _),g13.hh.trans (aA hp _),g13.fr⟩ (.lst aq (g13.sh.free hp) r) (g13.hh.free hp)
   cases r3 with
   | @lst a xs ds h r =>
    have e':=Zj e;exact ⟨a,xs,rfl,SqL.of (g3.sh _ _ h),λ p hp=>fin p _ _ hp (xO l' u' r) e'.symm⟩
   | @fz a xs ds h r =>
    have e':D.lst (cutD ds l' u')=d:=Zj e;exact ⟨a,xs,rfl,g3.sh.seq h,λ p hp=>fin p _ _ hp (xO l' u' r) e'.symm⟩
   | _=>exact nn e
def c8.imp {fn:Value} {r r':List V->Hp->VK->Prop} (h:c8 X fn r) (hi:∀ x H Q,r' x H Q->r x H Q):c8 X fn r':=λ pins s σ H x u Q I rx q=>h pins s σ H x u Q I rx (hi _ _ _ q)
def call_of {o:List D->Option D} {g:DA} {σ:St} {H:Hp} {Q:VK} (K:W.Frag) (hh:rdE K (cV o g) σ H Q):tCB (rdL K o) (rdA K g) σ H Q:=by
 obtain ⟨H0,Hs,τ,fp,d,st,sm,e,k⟩:=hh;obtain ⟨xs,e1,e⟩:=bind_some e;exact ⟨H0,Hs,τ,fp,xs,st,sm,e1,λ v Hs1 H1 g1 r1=>⟨Hs1,xs,d,g1.sh,r1,e,λ w Hs2 H2 g2 r2=>k w Hs2 H2 (g1.trans g2) r2⟩⟩
def zA {x:Str} {id:String} {p:Pos} {o:List D->Option D} {g:DA} (hc:c8 X (.builtin id) (rdL X.K o)) (hg:Gl X x) (hm:X.mg x=none) (hv:bootBuiltins x=some (.builtin id)) (ha:PAd X (e::es) g) (hn:x≠"__name__":=by decide) (hdb:(x == ("__debug__":Str))=false:=by decide)
  (he:starEach (e::es) X.env=(false,eval e X.env)::starEach es X.env:=by rfl) (hpl:(backTo pos (starEach es X.env)).any (·.1)=false:=by rfl):PEd X (.Call (.Name x p) (e::es) [] pos) (cV o g) :=
 (mY hc hg hm hv ha hn hdb he hpl).imp λ σ H Q h=>call_of X.K h
def wj {x:Str} {T:String} {p:Pos} {o:List D->Option D} {g:DA} (hc:c8 X (.type T) (rdL X.K o)) (hg:Gl X x) (hm:X.mg x=none) (hv:bootBuiltins x=some (.type T)) (ha:PAd X (e::es) g) (hn:x≠"__name__":=by decide) (hdb:(x == ("__debug__":Str))=false:=by decide)
  (he:starEach (e::es) X.env=(false,eval e X.env)::starEach es X.env:=by rfl) (hpl:(backTo pos (starEach es X.env)).any (·.1)=false:=by rfl):PEd X (.Call (.Name x p) (e::es) [] pos) (cV o g) :=
 (kL hc hg hm hv ha hn hdb he hpl).imp λ σ H Q h=>call_of X.K h
def gX:c8 X (.builtin "len") (rdL X.K rL):=Af.imp λ xs H Q ⟨Hs,ds,d,sm,r,e,k⟩=>by
 match ds,r,e with
 | [x],.cons hx .nil,e =>
  cases hx with
  | str z =>
   by_cases hl:z.length<=100000
   ·have e':D.int z.length=d:=by simpa [rL,hl] using e
    subst e';exact ⟨_,_,rfl,⟨uE hl,rfl⟩,k _ Hs H (.refl sm) (.int _)⟩
   · simp [rL,hl] at e
  | @tup a ys ds h r =>
   have e':=Zj e;subst e';exact ⟨_,_,rfl,.inr ⟨_,sm.tup h,rfl⟩,by rw [r.length]; exact k _ Hs H (.refl sm) (.int _)⟩
  | @lst a ys ds h r =>
   have e':D.int ds.length=d:=Zj e;subst e';exact ⟨_,_,rfl,.inl ⟨_,SqL.of (sm _ _ h),rfl⟩,by rw [r.length]; exact k _ Hs H (.refl sm) (.int _)⟩
  | @fz a ys ds h r =>
   have e':D.int ds.length=d:=Zj e;subst e';exact ⟨_,_,rfl,.inl ⟨_,sm.seq h,rfl⟩,by rw [r.length]; exact k _ Hs H (.refl sm) (.int _)⟩
  | _=>exact nn e
 | [],_,e=>simp [rL] at e
 | _::_::_,_,e=>simp [rL] at e
def qJ:c8 X (.builtin "isinstance") (rdL X.K Ht):=by
 intro pins s σ H xs us Q I rv ⟨Hs,ds,d,sm,r,e,k⟩
 have sh:∃ x n,ds=[x,.ty n]:=by
   unfold Ht at e;split at e
   · exact ⟨_,_,rfl⟩
   · cases e
 obtain ⟨x,n,rfl⟩:=sh
 cases r with
 | cons hx rr=>cases rr with
  | cons hy rr=>cases rr with
   | nil =>
   cases hy;obtain ⟨t,e1,e2⟩:=bind_some (e)
   by_cases hn:n ∈ kinds
   ·rw [if_pos hn] at e2
    have e':=Zj e2;subst e';obtain ⟨u,w',rfl,ru,rw'⟩:=vals2 rv;have e2:=rw';subst e2;have fin:∀ tk,EP X pins σ Q (.bool (K6 t n)) { s with toks:=tk }:=λ tk=>⟨.bl _,H,I.tok tk,rfl,k _ Hs H (.refl sm) (.bl _)⟩
    have low:∀ {v:V} {T:String},uz X.K H v (.type T)->RelV v u->T ∈ ["NoneType","bool","int","str","tuple","list","dict"]->some T=some t->wpAny (model X.prog X.w) X.A (call (.builtin "isinstance") [u,.type n]) (EP X pins σ Q) X.xe s:=λ ty ru hm et=>by
     have et':=Zj et;subst et';exact xc I ru ty (wX hm hn) fin
    cases hx with
    | non=>exact low (.non) ru (by simp) e1
    | bl b=>exact low (.bl b) ru (by simp) e1
    | int i=>exact low (.int i) ru (by simp) e1
    | str z=>exact low (.str z) ru (by simp) e1
    | lst h _=>exact low (.lst (sm _ _ h)) ru (by simp) e1
    | dct h _=>exact low (.dK (sm _ _ h)) ru (by simp) e1
    | @tup p ys ds h _ =>
     have et':=Zj e1;subst et';cases (ru);obtain ⟨its,_,⟨o,h1,h2,_⟩,_⟩:=I.tuple (sm.tup h);exact Yi PySem.W.kitx_tuple I.kIn ⟨o,h1,h2⟩ (wX (by simp) hn) (λ z=>nomatch z) fin
    | ty m=>simp [tyN] at e1
    | cls m=>simp [tyN] at e1
    | dfz _ _=>simp [tyN] at e1
    | fz _ _=>simp [tyN] at e1
    | obj _ _=>simp [tyN] at e1
   · rw [if_neg hn] at e2; cases e2
def Cm {x:Str} {p:Pos} {g:DA} (hg:Gl X x) (hm:X.mg x=none) (hv:bootBuiltins x=some (.type "list")) (ha:PAd X (e::es) g) (hn:x≠"__name__":=by decide) (hdb:(x == ("__debug__":Str))=false:=by decide)
   (he:starEach (e::es) X.env=(false,eval e X.env)::starEach es X.env:=by rfl) (hpl:(backTo pos (starEach es X.env)).any (·.1)=false:=by rfl):PEo X (.Call (.Name x p) (e::es) [] pos) (cV wF g) :=
 (kL pq hg hm hv ha hn hdb he hpl).imp λ σ H Q ⟨H0,Hs,τ,fp,d,st,sm,e,k⟩=>by
   obtain ⟨xs,e1,e⟩:=bind_some e;refine ⟨H0,Hs,τ,fp,xs,st,sm,e1,λ v Hs1 H1 g1 r1=>?_⟩
   have fin:∀ (p:Addr) (ys:List V) (ds:List D),H1 p=none->Rps X.K Hs1 ys ds->d=.lst ds->Q (.ref p) (upd H1 p (.lst ys)):=λ p ys ds hp r ed=>by
    subst ed;exact k p Hs1 _ ⟨g1.ss,g1.sh.trans (aA hp _),g1.hh.trans (aA hp _),g1.fr⟩ (.lst aq (g1.sh.free hp) r) (g1.hh.free hp)
   match xs,r1,e with
   | [x],.cons hx .nil,e =>
    cases hx with
    | @tup a ys ds h r=>exact ⟨_,_,rfl,.inr (g1.sh.tup h),λ l hl=>fin l ys ds hl r (Zj e).symm⟩
    | @lst a ys ds h r=>exact ⟨_,_,rfl,.inl (SqL.of (g1.sh _ _ h)),λ l hl=>fin l ys ds hl r (Zj e).symm⟩
    | @fz a ys ds h r=>exact ⟨_,_,rfl,.inl (g1.sh.seq h),λ l hl=>fin l ys ds hl r (Zj e).symm⟩
    | _=>exact nn e
   | [],_,e=>simp [wF] at e
   | _::_::_,_,e=>simp [wF] at e
def qI:c8 X (.type "tuple") (rdL X.K wB):=nG.imp λ xs H Q ⟨Hs,ds,d,sm,r,e,k⟩=>by
 match ds,r,e with
 | [x],.cons hx .nil,e =>
  cases hx with
  | @tup a ys ds h r =>
   have e':=Zj e;subst e';exact ⟨_,_,rfl,.inr ⟨sm.tup h,k _ Hs H (.refl sm) (.tup h r)⟩⟩
  | @lst a ys ds h r =>
   have e':D.tup ds=d:=Zj e;subst e';refine ⟨_,_,rfl,.inl ⟨SqL.of (sm _ _ h),λ l hl=>?_⟩⟩;have g:=Ext.new sm hl (.tup ys);exact k _ _ _ g (.tup (SqT.of aq) (r.same g.ss))
  | _=>exact nn e
 | [],_,e=>simp [wB] at e
 | _::_::_,_,e=>simp [wB] at e
end
def xj (a:Addr) (H:Hp):Hp:=λ b=>if b=a then none else H b
def Ej (i:Nat) (f:DT):DT:=λ τ=>match τ[i]? with
 | some (.own d0)=>f (τ.set i (.shr d0))
 | _=>f τ
def Ext.Iw (n:Hs a=none) (ha:H a=some o) (g:Ext (upd Hs a o) H Hs' H'):Ext Hs H (xj a Hs') H':=by
 refine ⟨λ b u q=>?_,λ b u q=>?_,g.hh,λ b h1 h2=>?_⟩
 ·have ne:b≠a:=λ z=>by subst z; rw [n] at q; cases q
  unfold xj;rw [if_neg ne];exact g.ss b u (by rw [aj ne]; exact q)
 ·unfold xj at q
  split at q
  · cases q
  · exact g.sh b u q
 ·unfold xj
  by_cases z:b=a
  · rw [if_pos z]
  ·rw [if_neg z]
   exact g.fr b (by rw [aj z]; exact h1) h2
def bZ.frz (sm:bZ Hs H) (ha:H a=some o):bZ (upd Hs a o) H:=λ b u q=>by
 by_cases z:b=a
 · subst z; rw [aq] at q; rw [ha]; exact q
 · rw [aj z] at q; exact sm b u q
section
variable {X:Cx} {e:Expr} {f:DE}
def BW (i:Nat) {f:DT} (h:PTd X e f):PTd X e (Ej i f):=PT.imp h λ σ H Q ⟨H0,Hs,τ,fp,d,st,sm,e,k⟩=>by
 unfold Ej at e;split at e
 ·rename_i d0 q
  obtain ⟨a,o,fp',h1,h2,h3,h4,h5,h6,h7,h8⟩:=st.frz q;exact ⟨H0,upd Hs a o,_,fp',d,h4,sm.frz h1,e,λ Hs' H' g=>k (xj a Hs') H' (g.Iw h2 h1)⟩
 · exact ⟨H0,Hs,τ,fp,d,st,sm,e,k⟩
end
def gJ (f g:DS):DS:=λ τ=>match f τ with
 | some (.next τ')=>g τ'
 | r=>r
def lW:DS:=λ τ=>some (.next τ)
def sIf (c:DT) (f g:DS):DS:=λ τ=>(c τ).bind λ b=>if b=true then f τ else g τ
def ve (i:Nat) (f:DE):DS:=λ τ=>(f τ).map λ d=>.next (τ.set i (.shr d))
def vd (i:Nat) (f:DE):DS:=λ τ=>if i < τ.length then (f τ).map λ d=>.next (τ.set i (.own d)) else none
def El (f:DE):DS:=λ τ=>(f τ).map λ d=>.ret (.shr d)
def yB (f:DE):DS:=λ τ=>(f τ).map λ d=>.ret (.own d)
def vf (i:Nat):DS:=λ τ=>match τ[i]? with
 | some (.own d)=>some (.ret (.own d))
 | some (.shr d)=>some (.ret (.shr d))
 | _=>none
def vk (f:DE):DS:=λ τ=>(f τ).map λ _=>.next τ
def EY (i:Nat) (f:DS):DS:=λ τ=>match τ[i]? with
 | some (.own d)=>f (τ.set i (.shr d))
 | _=>f τ
def AB:DS:=λ _=>none
def AD (i:Nat) (f:DE):DS:=λ τ=>(f τ).bind λ d=>match τ[i]? with
 | some (.own (.lst ds))=>if ds.length < 100000 then some (.next (τ.set i (.own (.lst (ds++[d]))))) else none
 | _=>none
section
variable {X:Cx} {a b c e:Expr} {es:List Expr} {pos:Pos} {st:Stmt} {rest:List Stmt} {f g:DS}
def Rep.same {K:W.Frag} {Hs0 H0 Hs H:Hp} {σ:St} {τ:List Sl} (r:Rep K Hs0 H0 Hs H σ τ):bZ Hs H:=r.ext.sh
def Rep.ext' {K:W.Frag} {Hs0 H0 Hs H Hs' H':Hp} {σ:St} {τ:List Sl} (r:Rep K Hs0 H0 Hs H σ τ) (g:Ext Hs H Hs' H'):Rep K Hs0 H0 Hs' H' σ τ:=⟨r.ext.trans g,let ⟨fp,h⟩:=r.st; ⟨fp,h.ext g⟩⟩
def yU:nM X [] lW:=p5.imp λ E σ H ⟨Hs0,H0,Hs,τ,o,r,e,k⟩=>by
 have e':=Zj e;subst e';exact k σ Hs H r
def yT (h:PSd X st f):nM X [st] f:=kJ h
def vO (h1:PSd X st f) (h2:nM X rest g):nM X (st::rest) (gJ f g):=(j5 h1 h2).imp λ E σ H ⟨Hs0,H0,Hs,τ,o,r,e,k⟩=>by
 unfold gJ at e
 cases q:f τ with
 | none=>rw [q] at e; cases e
 | some o1 =>
  rw [q] at e;refine ⟨Hs0,H0,Hs,τ,o1,r,q,?_⟩
  cases o1 with
  | next τ'=>exact λ σ' Hs' H' r'=>⟨Hs0,H0,Hs',τ',o,r',e,k⟩
  | ret s=>cases e; exact k
  | brk τ'=>cases e; exact k
  | cnt τ'=>cases e; exact k
def vX:PSd X st AB:=λ _ _ _ _ _ _ ⟨_,_,_,_,_,_,e,_⟩=>by cases e
def Fe {t:DT} {x y:List Stmt} (hc:PTd X c t) (ha:nM X x f) (hb:nM X y g):PSd X (.If c x y pos) (sIf t f g):=(Ce hc ha hb).imp λ E σ H ⟨Hs0,H0,Hs,τ,o,r,e,k⟩=>by
 obtain ⟨bb,e1,e2⟩:=bind_some e;obtain ⟨fp,h⟩:=r.st;refine ⟨H0,Hs,τ,fp,bb,h,r.same,e1,λ Hs' H' g1=>?_⟩
 cases bb with
 | true=>exact ⟨Hs0,H0,Hs',τ,o,r.ext' g1,by simpa using e2,k⟩
 | false=>exact ⟨Hs0,H0,Hs',τ,o,r.ext' g1,by simpa using e2,k⟩
def B9 {f:DE} (h:PEd X e f):PSd X (.Return (some e) pos) (El f):=(mf h).imp λ E σ H ⟨Hs0,H0,Hs,τ,o,r,e,k⟩=>by
 obtain ⟨d,e1,rfl⟩:=Zm e;obtain ⟨fp,h⟩:=r.st;exact ⟨H0,Hs,τ,fp,d,h,r.same,e1,λ v Hs' H' g1 rv=>k v Hs' H' (r.ext.trans g1) rv⟩
def Rep.old {K:W.Frag} {Hs0 H0 Hs H:Hp} {σ:St} {τ:List Sl} (r:Rep K Hs0 H0 Hs H σ τ) {p:Addr} (h:H p=none):H0 p=none:=r.ext.hh.free h
def za {f:DE} (h:PEo X e f):PSd X (.Return (some e) pos) (yB f):=(mf h).imp λ E σ H ⟨Hs0,H0,Hs,τ,o,r,e,k⟩=>by
 obtain ⟨d,e1,rfl⟩:=Zm e;obtain ⟨fp,h⟩:=r.st;exact ⟨H0,Hs,τ,fp,d,h,r.same,e1,λ v Hs' H' g1 rv z=>k _ Hs' H' (r.ext.trans g1) ⟨v,rfl,rv,r.old z⟩⟩
def yZ (i:Nat) (hN:X.N[i]?=some x:=by rfl) (hv:Vis X.env.scope x:=by first | exact Or.inl rfl | exact Or.inr (Or.inl rfl) | exact Or.inr (Or.inr rfl)) (hd:(x == ("__debug__":Str))=false:=by decide)
  (hcd:(x == ("__classdict__":Str))=false:=by decide):PSd X (.Return (some (.Name x p)) pos) (vf i):=(mf (eJ hN hv hd hcd)).imp λ E σ H ⟨Hs0,H0,Hs,τ,o,r,e,k⟩=>by
 obtain ⟨fp,h⟩:=r.st;unfold vf at e;split at e
 ·rename_i d q
  cases e;obtain ⟨a,h1,h2,h3,h4⟩:=h.DL q;exact ⟨_,h1,k _ Hs H r.ext ⟨a,rfl,h2,h3⟩⟩
 ·rename_i d q
  cases e;obtain ⟨v,h1,h2⟩:=h.get q;exact ⟨_,h1,k _ Hs H r.ext h2⟩
 · cases e
def B7 {i:Nat} {x:Str} {f:DE} {pos':Pos} (hN:X.N.Nodup) (hi:X.N[i]?=some x) (hx:Loc X.env.scope x) (he:PEd X e f) (hs:swapsWith e (some (.Name x pos')) pos.line X.env=pure false:=by rfl) (hf:X.fn x=true\/X.env.scope.names.lookup x=some .local:=by first | exact .inl rfl | exact .inr rfl | assumption) :
  PSd X (.Assign [.Name x pos'] e pos) (ve i f):=(rz hN hi hx he hs hf).imp λ E σ H ⟨Hs0,H0,Hs,τ,o,r,e,k⟩=>by
 obtain ⟨d,e1,rfl⟩:=Zm e;obtain ⟨fp,h⟩:=r.st;refine ⟨H0,Hs,τ,fp,d,h,r.same,e1,λ v Hs' H' g1 rv=>?_⟩;obtain ⟨fp',_,h'⟩:=(h.ext g1).u9 rv;exact k _ Hs' H' ⟨r.ext.trans g1,fp',h'⟩
def wm {K:W.Frag} {H0 Hs H:Hp} {σ:St} {τ:List Sl} {fp:List Addr} (h:StR K H0 Hs H σ τ fp) {p:Addr} (hp:H p=none):p ∉ fp:=λ q=>(h.DM p q).2.2 hp
def yY {i:Nat} {x:Str} {f:DE} {pos':Pos} (hN:X.N.Nodup) (hi:X.N[i]?=some x) (hx:Loc X.env.scope x) (he:PEo X e f) (hs:swapsWith e (some (.Name x pos')) pos.line X.env=pure false:=by rfl) (hf:X.fn x=true\/X.env.scope.names.lookup x=some .local:=by first | exact .inl rfl | exact .inr rfl | assumption) :
  PSd X (.Assign [.Name x pos'] e pos) (vd i f):=(rz hN hi hx he hs hf).imp λ E σ H ⟨Hs0,H0,Hs,τ,o,r,e,k⟩=>by
 unfold vd at e;split at e
 ·rename_i hl
  obtain ⟨d,e1,rfl⟩:=Zm e;obtain ⟨fp,h⟩:=r.st;refine ⟨H0,Hs,τ,fp,d,h,r.same,e1,λ v Hs' H' g1 rv z=>?_⟩;obtain ⟨fp',_,h'⟩:=(h.ext g1).M2 rv (r.old z) (wm h z) hl;exact k _ Hs' H' ⟨r.ext.trans g1,fp',h'⟩
 · cases e
def zc {f:DE} (he:PEd X e f) (hs:swapsWith e none pos.line X.env=pure false:=by rfl):PSd X (.Expr e pos) (vk f):=(fk he hs).imp λ E σ H ⟨Hs0,H0,Hs,τ,o,r,e,k⟩=>by
 obtain ⟨d,e1,rfl⟩:=Zm e;obtain ⟨fp,h⟩:=r.st;exact ⟨H0,Hs,τ,fp,d,h,r.same,e1,λ v Hs' H' g1 rv=>k _ Hs' H' (r.ext' g1)⟩
def Rep.frz {K:W.Frag} {Hs0 H0 Hs H:Hp} {σ:St} {τ:List Sl} {i:Nat} {d:D} (r:Rep K Hs0 H0 Hs H σ τ) (q:τ[i]?=some (.own d)):∃ Hs',Rep K Hs0 H0 Hs' H σ (τ.set i (.shr d)):=by
 obtain ⟨fp,h⟩:=r.st;obtain ⟨a,o,fp',h1,h2,h3,h4,h5,h6,h7,h8⟩:=h.frz q;refine ⟨upd Hs a o,⟨r.ext.ss.trans (aA h2 o),r.same.frz h1,r.ext.hh,λ b k1 k2=>?_⟩,fp',h4⟩;have ne:b≠a:=λ z=>by subst z; exact k2 h3
 rw [aj ne];exact r.ext.fr b k1 k2
def Ca (i:Nat) (h:PSd X st f):PSd X st (EY i f):=PS.imp h λ E σ H ⟨Hs0,H0,Hs,τ,o,r,e,k⟩=>by
 unfold EY at e;split at e
 ·rename_i d q
  obtain ⟨Hs',r'⟩:=r.frz q;exact ⟨Hs0,H0,Hs',_,o,r',e,k⟩
 · exact ⟨Hs0,H0,Hs,τ,o,r,e,k⟩
def Cd (i:Nat) {x:Str} {f:DE} {p apos cpos:Pos} (hN:X.N[i]?=some x) (hv:Vis X.env.scope x) (he:PEd X e f) (hd:(x == ("__debug__":Str))=false:=by decide) (hcd:(x == ("__classdict__":Str))=false:=by decide)
   (hbase:attributeBase (.Name x p) "append" X.env (eval (.Name x p) X.env)=eval (.Name x p) X.env:=by rfl)
   (hfew:((backTo cpos (starEach [e] X.env)).all (λ x=>!x.1)&&(backToKw cpos (keywordEach [] X.env)).all (λ x=>x.1.isSome)
     && decide ([e].length+([]:List Keyword).length+(if ([]:List Keyword).isEmpty then 0 else 1) < 30))=true:=by rfl)
   (hline:(apos.endLine == cpos.line)=true:=by rfl) (hst:starEach [e] X.env=(false,eval e X.env)::starEach [] X.env:=by rfl) (hplain:(backTo cpos (starEach [] X.env)).any (·.1)=false:=by rfl)
   (hs:swapsWith (.Call (.Attribute (.Name x p) "append" apos) [e] [] cpos) none pos.line X.env=pure false:=by rfl) :
   PSd X (.Expr (.Call (.Attribute (.Name x p) "append" apos) [e] [] cpos) pos) (AD i f) :=
 (fk (tJ Yy PySem.F.slot_list_append PySem.F.type_list_append oi (eJ hN hv hd hcd) (cB he eL hst) hbase hfew hline hst hplain) hs).imp λ E σ H ⟨Hs0,H0,Hs,τ,o,r,e,k⟩=>by
   obtain ⟨d,e1,e2⟩:=bind_some e;obtain ⟨fp,h⟩:=r.st;split at e2
   · rename_i ds q
     split at e2
     ·rename_i hl
      cases e2;obtain ⟨a,h1,h2,h3,h4⟩:=h.DL q
      cases h2 with
      | @lst xs _ hH hn hr =>
       refine ⟨_,h1,.inl ⟨rfl,_,SqL.of hH⟩,?_⟩;refine ⟨H0,Hs,τ,fp,d,h,r.same,e1,λ v Hs' H' g1 rv=>?_⟩;have hH':=g1.hh _ _ hH;have h':=h.ext g1;have n':=g1.fr a hn (hU hH);refine ⟨a,xs,v,rfl,rfl,hH',by rw [hr.length]; exact le5 (Yn hl),?_⟩;refine k σ Hs' _ ⟨⟨r.ext.ss.trans g1.ss,λ b u z=>?_,λ b u z=>?_,λ b k1 k2=>?_⟩,fp,h'.mut q h1 (.lst aq n' ((hr.same g1.ss).append (.cons rv .nil)))⟩
       ·have ne:b≠a:=λ y=>by subst y; rw [n'] at z; cases z
        rw [aj ne]; exact g1.sh b u z
       ·have ne:b≠a:=λ y=>by subst y; rw [h3] at z; cases z
        rw [aj ne]; exact g1.hh b u (r.ext.hh b u z)
       · exact g1.fr b (r.ext.fr b k1 k2) (r.ext.hh.live k2)
     · cases e2
   · cases e2
end
abbrev DI:=List Sl->Option (List D)
def ItR (K:W.Frag) (J:It) (Hs:Hp) (ds:List D):Prop:=∀ Hs1 H,bZ Hs Hs1->bZ Hs1 H ->
 (∀ i d,ds[i]?=some d->J.go i H/\∀ x H',J.yld i H x H'->∃ Hs2,Ext Hs1 H Hs2 H'/\Rp K Hs2 x d)/\∀ i,ds.length<=i->J.stop i H
def rdI (K:W.Frag) (f:DI):TI:=λ σ H R=>∃ H0 Hs τ fp ds,StR K H0 Hs H σ τ fp/\bZ Hs H/\f τ=some ds/\∀ J Hs' H',Ext Hs H Hs' H'->ItR K J Hs' ds->R J H'
def PId (X:Cx) (tg iter:Expr) (f:DI):Prop:=PI X tg iter (rdI X.K f)
def GF (f:DE):DI:=λ τ=>(f τ).bind λ d=>match d with | .lst ds=>some ds | .fz ds=>some ds | _=>none
def tw (lo:Int) (n:Nat):List D:=(List.range n).map λ (i:Nat)=>D.int (lo+(i:Int))
def lg (f:DA):DI:=λ τ=>(f τ).bind λ ds=>match ds with | [.int j]=>if -(2 ^ 62)<=j/\j < 2 ^ 62 then some (tw 0 j.toNat) else none | _=>none
def rY {K:W.Frag} {a:Addr} {xs:List V} {Hs:Hp} {ds:List D} (h:SqL K Hs a xs) (r:Rps K Hs xs ds):ItR K (Itl K a) Hs ds:=λ Hs1 H g1 g2=>by
 have hq:=g2.seq (g1.seq h);refine ⟨λ i d e=>?_,λ i hi=>⟨xs,hq,by rw [r.length]; exact hi⟩⟩;obtain ⟨x,h1,h2⟩:=r.get e;refine ⟨⟨xs,x,hq,h1⟩,λ x' H' ⟨e1,e2⟩=>?_⟩;subst e1;have e3:=e2 xs hq;rw [h1] at e3;cases e3;exact ⟨Hs1,.refl g2,h2.same g1⟩
def xb {K:W.Frag} {Hs:Hp} (lo:Int) (n:Nat):ItR K (Itr lo n) Hs (tw lo n):=λ Hs1 H g1 g2=>by
 refine ⟨λ i d e=>?_,λ i hi=>show n<=i by simpa [tw] using hi⟩;unfold tw at e;rw [List.getElem?_map] at e
 by_cases hi:i < n
 ·rw [List.getElem?_range hi] at e
  have e':D.int (lo+i)=d:=by simpa using e
  subst e';refine ⟨hi,λ x H' ⟨e1,e2⟩=>?_⟩;subst e1 e2;exact ⟨Hs1,.refl g2,.int _⟩
 ·rw [List.getElem?_eq_none (by simpa using hi)] at e
  cases e
def PI.imp (h:PI X tg iter t) (hi:∀ σ H R,t' σ H R->t σ H R):PI X tg iter t':=λ pins s σ H R I q=>h pins s σ H R I (hi _ _ _ q)
section
variable {X:Cx} {tg l e:Expr} {es:List Expr} {pos:Pos}
def Ct (h:PEd X l f):PId X tg l (GF f):=(Cu h).imp λ σ H R ⟨H0,Hs,τ,fp,ds,st,sm,e,k⟩=>by
 obtain ⟨x,e1,e2⟩:=bind_some e;refine ⟨H0,Hs,τ,fp,x,st,sm,e1,λ v Hs' H' g r=>?_⟩
 cases r with
 | @lst a xs ds' h r =>
  have e':=Zj e2;subst e';exact ⟨a,rfl,⟨xs,SqL.of (g.sh _ _ h)⟩,k _ Hs' H' g (rY (SqL.of h) r)⟩
 | @fz a xs ds' h r =>
  have e':ds'=ds:=Zj e2;subst e';exact ⟨a,rfl,⟨xs,g.sh.seq h⟩,k _ Hs' H' g (rY h r)⟩
 | _=>exact nn e2
def tI (hg:Gl X "range") (hm:X.mg "range"=none) (ha:PAd X [a] f) (hs:starEach [a] X.env=[(false,eval a X.env)]:=by rfl):PId X tg (.Call (.Name "range" p) [a] [] pos) (lg f) :=
 (wb hg hm ha hs).imp λ σ H R ⟨H0,Hs,τ,fp,ds,st,sm,e,k⟩=>by
   obtain ⟨x,e1,e2⟩:=bind_some e;refine ⟨H0,Hs,τ,fp,x,st,sm,e1,λ v Hs' H' g r=>?_⟩
   match x,r,e2 with
   | [y],.cons hy .nil,e2 =>
    cases hy with
    | int j =>
     simp only at e2;split at e2
     ·rename_i hj
      have e':=Zj e2;subst e';exact ⟨j,rfl,hj.1,hj.2,k _ Hs' H' g (xb _ _)⟩
     · cases e2
    | _=>exact nn e2
   | [],_,e2=>simp at e2
   | _::_::_,_,e2=>simp at e2
end
abbrev DG:=D->List Sl->Option (List Sl)
def rdG (K:W.Frag) (g:DG):TG:=λ v σ H Q=>∃ Hs0 H0 Hs τ τ' d,Rep K Hs0 H0 Hs H σ τ/\Rp K Hs v d/\g d τ=some τ'/\∀ σ',Rep K Hs0 H0 Hs H σ' τ'->Q σ' H
def PGd (X:Cx) (tg:Expr) (g:DG):Prop:=PG X tg (rdG X.K g)
def PG.imp (h:PG X tg t) (hi:∀ v σ H Q,t' v σ H Q->t v σ H Q):PG X tg t':=λ pins s σ H v u Q I r q=>h pins s σ H v u Q I r (hi _ _ _ _ q)
def PGs.imp (h:PGs X tg t) (hi:∀ v σ H Q,t' v σ H Q->t v σ H Q):PGs X tg t':=λ pins s σ H v u Q I r q=>h pins s σ H v u Q I r (hi _ _ _ _ q)
def gN (i:Nat):DG:=λ d τ=>some (τ.set i (.shr d))
section
variable {X:Cx} {pos:Pos} {e:Expr} {es:List Expr}
def zt (hN:X.N.Nodup) (hi:X.N[i]?=some x) (hx:Loc X.env.scope x) (hf:X.fn x=true\/X.env.scope.names.lookup x=some .local:=by first | exact .inl rfl | exact .inr rfl | assumption):PGd X (.Name x pos) (gN i) :=
 (kK hN hi hx hf).imp λ v σ H Q ⟨Hs0,H0,Hs,τ,τ',d,r,rv,e,k⟩=>by
   have e':=Zj e;subst e';obtain ⟨fp,h⟩:=r.st;obtain ⟨fp',_,h'⟩:=h.u9 rv;exact k _ ⟨r.ext,fp',h'⟩
end
def yo (b:D->DS):List D->DS
 | [],τ=>some (.next τ)
 | d::ds,τ=>match b d τ with
  | some (.next τ')=>yo b ds τ'
  | some (.cnt τ')=>yo b ds τ'
  | some (.brk τ')=>some (.next τ')
  | r=>r
def Em (it:DI) (g:DG) (b:DS):DS:=λ τ=>(it τ).bind λ ds=>yo (λ d τ=>(g d τ).bind b) ds τ
def bT (c:DT) (b:DS):Nat->DS
 | 0,_=>none
 | n+1,τ=>match c τ with
  | none=>none
  | some false=>some (.next τ)
  | some true=>match b τ with
   | some (.next τ')=>bT c b n τ'
   | some (.cnt τ')=>bT c b n τ'
   | some (.brk τ')=>some (.next τ')
   | r=>r
open Classical in
noncomputable def me (c:DT) (b:DS):DS:=λ τ=>if h:∃ n o,bT c b n τ=some o then some (Classical.choose (Xa h)) else none
def ff:∀ {n m:Nat} {τ:List Sl} {o:Out},bT c b n τ=some o->n<=m->bT c b m τ=some o
 | 0,_,_,_,h,_=>by simp [bT] at h
 | n+1,0,_,_,_,l=>by omega
 | n + 1,m+1,τ,o,h,l=>by
  have l':n<=m:=by omega
  unfold bT at h ⊢
  cases q:c τ with
  | none=>rw [q] at h; cases h
  | some x =>
   rw [q] at h
   cases x with
   | false=>exact h
   | true =>
    simp only at h ⊢
    cases q2:b τ with
    | none=>rw [q2] at h; exact h
    | some o' =>
     rw [q2] at h
     cases o' with
     | next τ'=>exact ff h l'
     | cnt τ'=>exact ff h l'
     | brk τ'=>exact h
     | ret s=>exact h
def iN (h:bT c b n τ=some o):me c b τ=some o:=by
 have hx:∃ n o,bT c b n τ=some o:=⟨n,o,h⟩
 unfold me;rw [dif_pos hx];have h2:=Xa (Xa hx);have h3:=ff h2 (Nat.le_max_left _ n);have h4:=ff h (Nat.le_max_right (Classical.choose hx) n);rw [h3] at h4;exact h4
def vc (h:me c b τ=some o):∃ n,bT c b n τ=some o:=by
 unfold me at h;split at h
 ·rename_i hx
  have e:=Zj h;subst e;exact ⟨_,Xa (Xa hx)⟩
 · cases h
def Ext.sub (a:Ext Hs0 H0 Hs1 H1) (b:Ext Hs1 H0 Hs H):Ext Hs0 H0 Hs H:=⟨a.ss.trans b.ss,b.sh,b.hh,λ c h1 h2=>b.fr c (a.fr c h1 h2) h2⟩
def Rep.rebase {K:W.Frag} {Hs0 H0 Hs H:Hp} {σ:St} {τ:List Sl} (r:Rep K Hs0 H0 Hs H σ τ):Rep K Hs H0 Hs H σ τ:=⟨⟨.refl _,r.same,r.ext.hh,λ _ h _=>h⟩,r.st⟩
def Rep.jI {K:W.Frag} {Hs0 H0 Hs1 H1 Hs H:Hp} {σ:St} {τ:List Sl} (a:Ext Hs0 H0 Hs1 H1) (r:Rep K Hs1 H0 Hs H σ τ):Rep K Hs0 H0 Hs H σ τ:=⟨a.sub r.ext,r.st⟩
def Fin.rebase {K:W.Frag} {Hs0 H0 Hs1 H1:Hp} {E:Ends} {o:Out} (a:Ext Hs0 H0 Hs1 H1) (h:Fin K Hs0 H0 E o):Fin K Hs1 H0 E o:=by
 cases o with
 | next τ=>exact λ σ Hs H r=>h σ Hs H (r.jI a)
 | brk τ=>exact λ σ Hs H r=>h σ Hs H (r.jI a)
 | cnt τ=>exact λ σ Hs H r=>h σ Hs H (r.jI a)
 | ret s=>exact λ v Hs H g r=>h v Hs H (a.sub g) r
section
variable {X:Cx} {tg iter:Expr} {body:List Stmt} {pos:Pos}
def Cb {it:DI} {g:DG} {b:DS} (hp:PassesOwn (model X.prog X.w) X.A X.env X.xe) (hc:X.calm=true) (hi:PId X tg iter it) (hg:PGd X tg g) (hb:nM X body b) (hs:∀ x,foldedSetIterable iter X.env x=pure x:=by intro _; rfl) :
  PSd X (.For tg iter body [] pos) (Em it g b):=(vZ hp hc hi hg hb hs).imp λ E σ H ⟨Hs0,H0,Hs,τ,o,r,e,k⟩=>by
 obtain ⟨ds,e1,e2⟩:=bind_some e;obtain ⟨fp,hst⟩:=r.st;refine ⟨H0,Hs,τ,fp,ds,hst,r.same,e1,λ J Hs1 H1 g1 hJ=>?_⟩;have r1:=r.ext' g1;have kk:=k.rebase r1.ext;refine ⟨λ i m σ H=>m=ds.length - i/\i<=ds.length/\∃ Hs2 τ2,Rep X.K Hs1 H0 Hs2 H σ τ2/\yo (λ d τ=>(g d τ).bind b) (ds.drop i) τ2=some o,⟨ds.length,by simp,Z3 _,Hs1,τ,r1.rebase,by simpa using e2⟩,?_⟩
 rintro i m σ2 H2 ⟨rfl,hi,Hs2,τ2,r2,e3⟩
 obtain ⟨hgo,hstop⟩:=hJ Hs2 H2 r2.ext.ss r2.same
 by_cases hlt:i < ds.length
 ·have ed:=Ys hlt
  rw [ed] at e3;obtain ⟨go,yl⟩:=hgo i ds[i] (List.getElem?_eq_getElem hlt);refine .inr ⟨go,λ σ' H'=>∃ Hs' τ',Rep X.K Hs1 H0 Hs' H' σ' τ'/\yo (λ d τ=>(g d τ).bind b) (ds.drop (i+1)) τ'=some o,?_,?_⟩
  ·rintro σ' H' ⟨Hs',τ',r',e'⟩
   exact ⟨ds.length - (i+1),by omega,rfl,hlt,Hs',τ',r',e'⟩
  ·intro x H' y
   obtain ⟨Hs3,g3,rx⟩:=yl x H' y;have r3:=r2.ext' g3;unfold yo at e3
   cases q:(g ds[i] τ2).bind b with
   | none=>simp only [q] at e3; cases e3
   | some o1 =>
    simp only [q] at e3;obtain ⟨τ3,q1,q2⟩:=bind_some q;refine ⟨Hs1,H0,Hs3,τ2,τ3,ds[i],r3,rx,q1,λ σ' r'=>?_⟩;refine ⟨Hs1,H0,Hs3,τ3,o1,r',q2,?_⟩
    cases o1 with
    | next τ'=>exact λ σ4 Hs4 H4 r4=>⟨Hs4,τ',r4,e3⟩
    | cnt τ'=>exact λ σ4 Hs4 H4 r4=>⟨Hs4,τ',r4,e3⟩
    | brk τ'=>cases e3; exact kk
    | ret s=>cases e3; exact kk
 ·have e0:i=ds.length:=by omega
  subst e0;rw [X0] at e3;have e':Out.next τ2=o:=by simpa [yo] using e3
  subst e';exact .inl ⟨hstop _ (Zs _),kk σ2 Hs2 H2 r2⟩
def vW (hp:PassesOwn (model X.prog X.w) X.A X.env X.xe) (hc:PTd X c t) (hb:nM X body b):PSd X (.While c body [] pos) (me t b):=(zd hp hc hb).imp λ E σ H ⟨Hs0,H0,Hs,τ,o,r,e,k⟩=>by
 obtain ⟨n,e⟩:=vc e;refine ⟨λ m σ H=>∃ Hs2 τ2,Rep X.K Hs0 H0 Hs2 H σ τ2/\bT t b m τ2=some o,⟨n,Hs,τ,r,e⟩,?_⟩
 rintro m σ2 H2 ⟨Hs2,τ2,r2,e2⟩
 obtain ⟨fp,hst⟩:=r2.st
 cases m with
 | zero=>simp [bT] at e2
 | succ m =>
  unfold bT at e2
  cases q:t τ2 with
  | none=>rw [q] at e2; cases e2
  | some bb =>
   rw [q] at e2;refine ⟨H0,Hs2,τ2,fp,bb,hst,r2.same,q,λ Hs3 H3 g3=>?_⟩;have r3:=r2.ext' g3
   cases bb with
   | false =>
    have e':Out.next τ2=o:=by simpa using e2
    subst e';exact Ib (k σ2 Hs3 H3 r3)
   | true =>
    refine K5 ?_
    refine ⟨λ σ' H'=>∃ Hs' τ',Rep X.K Hs0 H0 Hs' H' σ' τ'/\bT t b m τ'=some o,?_,?_⟩
    ·rintro σ' H' ⟨Hs',τ',r',e'⟩
     exact ⟨m,by omega,Hs',τ',r',e'⟩
    ·cases q2:b τ2 with
     | none=>rw [q2] at e2; cases e2
     | some o1 =>
      rw [q2] at e2;refine ⟨Hs0,H0,Hs3,τ2,o1,r3,q2,?_⟩
      cases o1 with
      | next τ'=>exact λ σ4 Hs4 H4 r4=>⟨Hs4,τ',r4,e2⟩
      | cnt τ'=>exact λ σ4 Hs4 H4 r4=>⟨Hs4,τ',r4,e2⟩
      | brk τ'=>cases e2; exact k
      | ret s=>cases e2; exact k
end
def kB (n:Nat) (ds:List D):List Sl:=ds.map .shr++List.replicate (n - ds.length) .no
def fO (n m:Nat) (b:DS) (ds:List D):Option Sl:=if ds.length=m then (match b (kB n ds) with | some (.ret s)=>some s | some (.next _)=>some (.shr .non) | _=>none) else none
def spF (F:List D->Option Sl) (K:W.Frag):Sp:=λ vs H Q _=>∃ Hs ds s,bZ Hs H/\Rps K Hs vs ds/\F ds=some s/\∀ v Hs' H',Ext Hs H Hs' H'->SlV K H Hs' H' v s->Q v H'
def kA {K:W.Frag} {H0 Hs H:Hp}:∀ {vs:List V} {ds:List D} (k:Nat),Rps K Hs vs ds->StR K H0 Hs H (vs.map some++List.replicate k none) (ds.map .shr++List.replicate k .no) []
 | _,_,0,.nil=>.nil
 | _,_,k+1,.nil=>by
  rw [Xj,Xj];exact .no (kA k .nil)
 | _,_,k,.cons h r=>.shr h (kA k r)
section
variable {P:Program} {w:World} {K:W.Frag} {mg:Str->Option Value} {base:Heap}
def Fun.okD {x qual:Str} {st:Stmt} {f:Addr} {fd:FuncData} {N ps:List Str} {k:Nat} {b:DS} (F:Fun K x qual st f fd) (S:dO N ps (aH st))
  (hbody:∀ (cdv:Value) (A:Around) (outer:List Env) (s:Shared) (H:Hp) (E:XK),dW k (A.deeper (envOfC qual (aH st) s.heap.objs.size f cdv)) ->
    nM (Ac CX0 P w K mg base N qual (aH st) f cdv A outer s H E).nox (bR st) b):jf P w K mg base CX0 (k+1) f fd ps (spF (fO N.length ps.length b) K):=by
 refine F.ok S (λ vs H Q E h=>?_) (λ cdv A outer s H vs Q E hr h=>?_)
 ·obtain ⟨Hs,ds,s,sm,r,e,_⟩:=h
  unfold fO at e;split at e
  · rename_i hl
    rw [r.length]; exact hl
  · cases e
 obtain ⟨Hs,ds,sl,sm,r,e,q⟩:=h;refine ⟨_,hbody cdv A outer s H E hr,?_⟩;unfold fO at e;split at e
 ·have h0:Rep K Hs H Hs H (start N vs) (kB N.length ds):=⟨.refl sm,[],by unfold start kB; rw [r.length]; exact kA _ r⟩
  cases q2:b (kB N.length ds) with
  | none=>rw [q2] at e; cases e
  | some o =>
    rw [q2] at e;refine ⟨Hs,H,Hs,_,o,h0,q2,?_⟩
    cases o with
    | next τ =>
     have e':=Zj e;subst e';exact λ σ Hs' H' r'=>q .non Hs' H' r'.ext .non
    | ret s =>
     have e':=Zj e;subst e';exact λ v Hs' H' g rv=>q v Hs' H' g rv
    | brk τ=>cases e
    | cnt τ=>cases e
 · cases e
end
def slD:Sl->Option D
 | .shr d=>some d
 | .own d=>some d
 | .no=>none
def slO:Sl->Option D
 | .own d=>some d
 | _=>none
def dFn (F:List D->Option Sl) (f:DA):DE:=λ τ=>(f τ).bind λ ds=>(F ds).bind slD
def G6 (F:List D->Option Sl) (f:DA):DE:=λ τ=>(f τ).bind λ ds=>(F ds).bind slO
def SlV.shr {K:W.Frag} {H0 Hs H Hs0:Hp} {v:V} {s:Sl} {d:D} (g:Ext Hs0 H0 Hs H) (h:SlV K H0 Hs H v s) (e:slD s=some d):∃ Hs',Ext Hs0 H0 Hs' H/\Rp K Hs' v d:=by
 cases s with
 | no=>cases h
 | shr d' =>
  have e':=Zj e;subst e';exact ⟨Hs,g,h⟩
 | own d' =>
  have e':d'=d:=Zj e;subst e';obtain ⟨a,rfl,o,z⟩:=h;obtain ⟨ob,h1,h2⟩:=o.rp;refine ⟨upd Hs a ob,⟨g.ss.trans (aA o.hid ob),g.sh.frz h1,g.hh,λ b h3 h4=>?_⟩,h2⟩;have ne:b≠a:=λ y=>by subst y; exact h4 z
  rw [aj ne];exact g.fr b h3 h4
section
variable {X:Cx} {e:Expr} {es:List Expr} {x:Str} {p pos:Pos} {k:Nat} {f:Addr} {fd:FuncData} {ps:List Str} {F:List D->Option Sl} {g:DA}
def DP {σ:St} {H:Hp} {Q:VK} (K:W.Frag) (h:rdE K (dFn F g) σ H Q):Bt (spF F K) [] E0 (rdA K g) σ H Q:=by
 obtain ⟨H0,Hs,τ,fp,d,st,sm,e,q⟩:=h;obtain ⟨ds,e1,e2⟩:=bind_some e;obtain ⟨s,e2,e3⟩:=bind_some e2;refine ⟨H0,Hs,τ,fp,ds,st,sm,e1,λ vs Hs1 H1 g1 r1=>?_⟩;refine ⟨Hs1,ds,s,g1.sh,by rw [Z0]; exact r1,e2,λ v Hs2 H2 g2 rv=>?_⟩;obtain ⟨Hs3,g3,r3⟩:=rv.shr g2 e3;exact q v Hs3 H2 (g1.trans g3) r3
def DN (K:W.Frag) (h:rdO K (G6 F g) σ H Q):Bt (spF F K) [] E0 (rdA K g) σ H Q:=by
 obtain ⟨H0,Hs,τ,fp,d,st,sm,e,q⟩:=h;obtain ⟨ds,e1,e2⟩:=bind_some e;obtain ⟨s,e2,e3⟩:=bind_some e2;refine ⟨H0,Hs,τ,fp,ds,st,sm,e1,λ vs Hs1 H1 g1 r1=>?_⟩;refine ⟨Hs1,ds,s,g1.sh,by rw [Z0]; exact r1,e2,λ v Hs2 H2 g2 rv=>?_⟩
 cases s with
 | own d' =>
  have e':=Zj e3;subst e';obtain ⟨a,rfl,o,z⟩:=rv;exact q a Hs2 H2 (g1.trans g2) o (g1.hh.free z)
 | shr _=>cases e3
 | no=>cases e3
def CK (Fo:jf X.prog X.w X.K X.mg X.base CX0 k f fd ps (spF F X.K)) (hr:dW k X.A) (hg:Gl X x) (hm:X.mg x=some (.ref f)) (hk:W.keepIn X.K (.ref f)=true) (hb:Binds X.K fd ps [])
 (ha:PAd X (e::es) g) (hdb:(x == ("__debug__":Str))=false:=by decide) (he:starEach (e::es) X.env=(false,eval e X.env)::starEach es X.env:=by rfl) (hpl:(backTo pos (starEach es X.env)).any (·.1)=false:=by rfl) :
 PEd X (.Call (.Name x p) (e::es) [] pos) (dFn F g):=(p8 Fo hr hg hm hk hb .nil p9 ha hdb he hpl).imp λ σ H Q h=>DP X.K h
def Co (Fo:jf X.prog X.w X.K X.mg X.base CX0 k f fd ps (spF F X.K)) (hr:dW k X.A) (hg:Gl X x) (hm:X.mg x=some (.ref f)) (hk:W.keepIn X.K (.ref f)=true) (hb:Binds X.K fd ps [])
 (ha:PAd X (e::es) g) (hdb:(x == ("__debug__":Str))=false:=by decide) (he:starEach (e::es) X.env=(false,eval e X.env)::starEach es X.env:=by rfl) (hpl:(backTo pos (starEach es X.env)).any (·.1)=false:=by rfl) :
 PEo X (.Call (.Name x p) (e::es) [] pos) (G6 F g):=(p8 Fo hr hg hm hk hb .nil p9 ha hdb he hpl).imp λ σ H Q h=>DN X.K h
end
def uD (g:D->Option D):List D->Option (List D)
 | []=>some []
 | d::ds=>(g d).bind λ x=>(uD g ds).bind λ xs=>some (x::xs)
def ES:Option Sl->Sl
 | some (.shr d)=>.shr d
 | _=>.no
def dY (τ:List Sl) (cs:List (Str×Nat)):List Sl:=cs.map λ p=>ES τ[p.2]?
def qG (it:DI) (g:DE) (cs:List (Str×Nat)):DE:=λ τ=>(it τ).bind λ ds=>if ds.length<=100000 then (uD (λ d=>g (.shr d::dY τ cs)) ds).map .lst else none
def ji {K:W.Frag} {H0 Hs H:Hp} {σ:St} {τ:List Sl} {fp:List Addr} (st:StR K H0 Hs H σ τ fp):∀ cs:List (Str×Nat),StR K H0 Hs H (aJ σ cs) (dY τ cs) []
 | []=>.nil
 | p :: cs=>by
  have ih:=ji st cs;show StR K H0 Hs H ((σ[p.2]?).join::aJ σ cs) (ES τ[p.2]?::dY τ cs) []
  cases q:τ[p.2]? with
  | none=>exact .no ih
  | some sl =>
   cases sl with
   | no=>exact .no ih
   | own d=>exact .no ih
   | shr d =>
    obtain ⟨v,h1,h2⟩:=st.get q;rw [h1];exact .shr h2 ih
section
variable {X:Cx} {e:Expr} {es:List Expr} {pos:Pos}
def DZ {K:W.Frag} {it:DI} {g:DE} {cs:List (Str×Nat)} {σ:St} {H:Hp} {Q:VK} (h:rdO K (qG it g cs) σ H Q):EK (rdI K it) (rdE K g) cs σ H Q:=by
 obtain ⟨H0,Hs,τ,fp,d,st,sm,e,k⟩:=h;obtain ⟨ds,e1,e2⟩:=bind_some e;split at e2
 ·rename_i hl
  obtain ⟨full,e3,rfl⟩:=Zm e2;refine ⟨H0,Hs,τ,fp,ds,st,sm,e1,λ J Hs1 H1 g1 hJ=>?_⟩;refine ⟨λ i m ys H'=>m=ds.length - i/\i<=ds.length/\∃ Hs2 es rest,Ext Hs1 H1 Hs2 H'/\Rps K Hs2 ys es/\es.length=i/\uD (λ d=>g (.shr d::dY τ cs)) (ds.drop i)=some rest/\es++rest=full,⟨ds.length,by simp,Z3 _,Hs1,[],full,.refl g1.sh,.nil,rfl,by simpa using e3,rfl⟩,?_⟩
  rintro i m ys H2 ⟨rfl,hi,Hs2,es,rest,g2,ry,ley,e4,e5⟩
  obtain ⟨hgo,hstop⟩:=hJ Hs2 H2 g2.ss g2.sh;have ly:ys.length=i:=by rw [ry.length,ley]
  by_cases hlt:i < ds.length
  ·have ed:=Ys hlt
   rw [ed] at e4;obtain ⟨x,q1,q2⟩:=bind_some e4;obtain ⟨xs,q3,q4⟩:=bind_some q2;have eq:=Zj q4;subst eq;obtain ⟨go,yl⟩:=hgo i ds[i] (List.getElem?_eq_getElem hlt);refine .inr ⟨go,by rw [ly]; exact le5 (by omega),λ v H3 y=>?_⟩;obtain ⟨Hs3,g3,rv⟩:=yl v H3 y;have g13:=(g1.trans g2).trans g3;refine ⟨H0,Hs3,.shr ds[i]::dY τ cs,[],x,.shr rv (ji (st.ext g13) cs),g3.sh,q1,λ v4 Hs4 H4 g4 r4=>?_⟩;exact ⟨ds.length - (i+1),by omega,rfl,hlt,Hs4,es++[x],xs,(g2.trans g3).trans g4,((ry.same g3.ss).same g4.ss).append (.cons r4 .nil),by simp [ley],q3,by rw [<- e5]; simp⟩
  ·have e0:i=ds.length:=by omega
   subst e0;rw [X0] at e4;have er:=Zj e4;subst er;rw [Z0] at e5;subst e5;refine .inl ⟨hstop _ (Zs _),by rw [ly]; exact uE hl,λ p hp=>?_⟩;have g12:=g1.trans g2;exact k p Hs2 _ ⟨g12.ss,g12.sh.trans (aA hp _),g12.hh.trans (aA hp _),g12.fr⟩ (.lst aq (g12.sh.free hp) ry) (g12.hh.free hp)
 · cases e2
def Cn (hc:X.calm=true) (O:cf X scope cl x cs) (hi:PId X (.Name x px) iter it)
 (he:∀ s H fp C,PEd (bf X scope cl (x::cs.map (·.1)) s H fp C) elt g) (hs:∀ x,foldedSetIterable iter X.env x=pure x:=by intro _; rfl) :
 PEo X (.ListComp elt [⟨.Name x px,iter,[],0⟩] scope pos) (qG it g cs):=(CC (te:=rdE X.K g) hc O hi he hs).imp λ σ H Q h=>DZ h
end
def sv {b:D->DS} {o:Out} (P:Nat->List Sl->Prop):∀ {ds:List D} {τ:List Sl} (i:Nat),P i τ->(∀ j d τ,ds[j]?=some d->P (i+j) τ->∃ τ',b d τ=some (.next τ')/\P (i+j+1) τ')->∃ τ',yo b ds τ=some (.next τ')/\P (i+ds.length) τ'
 | [],τ,i,h,_=>⟨τ,rfl,h⟩
 | d::ds,τ,i,h,hs=>by
  obtain ⟨τ1,e1,p1⟩:=hs 0 d τ rfl h
  obtain ⟨τ2,e2,p2⟩:=sv (o:=o) P (ds:=ds) (τ:=τ1) (i+1) p1 λ j d' τ' hj p=>by
   have:=hs (j+1) d' τ' (by simpa using hj) (by rw [show i+(j+1)=i+1+j by omega]; exact p);rw [show i+(j+1)+1=i+1+j+1 by omega] at this;exact this
  refine ⟨τ2,?_,?_⟩
  · simp only [yo,e1]; exact e2
  · rw [Zv,show i+(ds.length+1)=i+1+ds.length by omega]; exact p2
def tR (C:Addr) (f:Str):D->Option D
 | .obj C' fs=>if C'=C then fs.lookup f else none
 | _=>none
def RpF.look {K:W.Frag} {H:Hp} {f:Str} {d:D}:∀ {fs:List (Str×V)} {ds:List (Str×D)},RpF K H fs ds->ds.lookup f=some d->∃ v,fs.lookup f=some v/\Rp K H v d
 | _,_,.nil,e=>by simp at e
 | _,_,@RpF.cons _ _ k x d' xs ds h r,e=>by
  rw [List.lookup_cons] at e ⊢
  by_cases q:f == k
  ·simp only [q] at e ⊢
   cases e;exact ⟨x,rfl,h⟩
  ·simp only [Xn] at q
   simp only [q] at e ⊢;exact RpF.look r e
def RpF.Dt {K:W.Frag} {H:Hp} {f:Str}:∀ {fs:List (Str×V)} {ds:List (Str×D)},RpF K H fs ds->ds.lookup f=none->fs.lookup f=none
 | _,_,.nil,e=>rfl
 | _,_,@RpF.cons _ _ k x d' xs ds h r,e=>by
  rw [List.lookup_cons] at e ⊢
  by_cases q:f == k
  · simp only [q] at e; cases e
  ·simp only [Xn] at q
   simp only [q] at e ⊢;exact RpF.Dt r e
section
variable {X:Cx} {e o:Expr} {es:List Expr} {x m f:Str} {p pos apos:Pos} {k:Nat} {C fa:Addr} {fd:FuncData} {ps:List Str} {F:List D->Option Sl} {g:DE} {ga:DA}
def FP (c:Cls X.K C) (n:cG X.K C f) (he:PEd X e g) (hb:attributeBase e f X.env (eval e X.env)=eval e X.env:=by rfl):PEd X (.Attribute e f pos) (dUn (tR C f) g) :=
 (AN he hb).imp λ σ H Q ⟨H0,Hs,τ,fp,d,st,sm,e,k⟩=>by
   obtain ⟨x,e1,e2⟩:=bind_some e;refine ⟨H0,Hs,τ,fp,x,st,sm,e1,λ v Hs' H' g' r=>?_⟩
   cases r with
   | @obj a C' dx fs ds h r =>
    simp only [tR] at e2;split at e2
    ·rename_i hc
     subst hc;obtain ⟨v,h1,h2⟩:=r.look e2;exact ⟨a,C',dx,fs,v,rfl,g'.sh _ _ h,c,n,h1,k v Hs' H' g' h2⟩
    · cases e2
   | _=>exact nn e2
def l7 (C:Addr) (m:Str) (F:List D->Option Sl) (o:DE) (g:DA):DE:=λ τ=>(o τ).bind λ x=>(g τ).bind λ ds=>match x with
 | .obj C' fs=>if C'=C/\fs.lookup m=none then (F (x::ds)).bind slD else none
 | _=>none
def Dq (K:W.Frag) (h:rdE K (l7 C m F g ga) σ H Q):Bp C m (spF F K) [] E0 (rdE K g) (rdA K ga) σ H Q:=by
 obtain ⟨H0,Hs,τ,fp,d,st,sm,e,q⟩:=h;obtain ⟨x,e1,e2⟩:=bind_some e;obtain ⟨ds,e3,e4⟩:=bind_some e2;refine ⟨H0,Hs,τ,fp,x,st,sm,e1,λ v Hs1 H1 g1 r1=>?_⟩
 cases r1 with
 | @obj a C' dx fs dd h r =>
  simp only at e4;split at e4
  ·rename_i hc
   obtain ⟨hc1,hc2⟩:=hc;subst hc1;obtain ⟨s,e5,e6⟩:=bind_some e4;refine ⟨a,dx,fs,rfl,g1.sh _ _ h,r.Dt hc2,?_⟩;refine ⟨H0,Hs1,τ,fp,ds,st.ext g1,g1.sh,e3,λ vs Hs2 H2 g2 r2=>?_⟩;refine ⟨Hs2,_,s,g2.sh,.cons ((Rp.obj h r).same g2.ss) (by rw [Z0]; exact r2),e5,λ v Hs3 H3 g3 rv=>?_⟩;obtain ⟨Hs4,g4,r4⟩:=rv.shr g3 e6;exact q v Hs4 H3 ((g1.trans g2).trans g4) r4
  · cases e4
 | _=>exact nn e4
def CG (he:PEd X o g) (c:Cls X.K C) (hm:Ef X.K C m fa) (Fo:jf X.prog X.w X.K X.mg X.base CX0 k fa fd ps (spF F X.K)) (hr:dW k X.A) (hb:Binds X.K fd ps []) (ha:PAd X (e::es) ga)
 (hst:starEach (e::es) X.env=(false,eval e X.env)::starEach es X.env:=by rfl) (hpl:(backTo pos (starEach es X.env)).any (·.1)=false:=by rfl)
 (ht:eval (.Call (.Attribute o m apos) (e::es) [] pos) X.env=(do
   let ov <- eval o X.env
   standAt apos.atName
   let (f,first) <- holding [ov] (getMethod ov m pl)
   callWith pos f first (backTo pos (starEach (e::es) X.env)) (backToKw pos (keywordEach [] X.env))):=by rfl) :
 PEd X (.Call (.Attribute o m apos) (e::es) [] pos) (l7 C m F g ga):=(p7 he c hm Fo hr hb .nil p9 ha hst hpl ht).imp λ σ H Q h=>Dq X.K h
end
def dz:List D->Option (List Int)
 | []=>some []
 | .int i::ds=>(dz ds).map (i::·)
 | _=>none
def k8:∀ {ds:List D} {ns:List Int},dz ds=some ns->ds=ns.map .int
 | [],ns,h=>by simp [dz] at h; subst h; rfl
 | .int i::ds,ns,h=>by
  obtain ⟨m,h1,rfl⟩:=Zm (show Option.map _ (dz ds)=some ns from h);rw [k8 h1];rfl
 | .non::_,_,h=>by simp [dz] at h
 | .bl _::_,_,h=>by simp [dz] at h
 | .str _::_,_,h=>by simp [dz] at h
 | .ty _::_,_,h=>by simp [dz] at h
 | .tup _::_,_,h=>by simp [dz] at h
 | .lst _::_,_,h=>by simp [dz] at h
 | .fz _::_,_,h=>by simp [dz] at h
 | .dct _::_,_,h=>by simp [dz] at h
 | .obj _ _::_,_,h=>by simp [dz] at h
 | .cls _::_,_,h=>by simp [dz] at h
 | .dfz _::_,_,h=>by simp [dz] at h
def se (ns:List Int):dz (ns.map .int)=some ns:=by
 induction ns with
 | nil=>rfl
 | cons n ns ih=>rw [Zh]; show Option.map _ (dz (ns.map .int))=_; rw [ih]; rfl
def Rps.ip {K:W.Frag} {H:Hp}:∀ {xs:List V} {ns:List Int},Rps K H xs (ns.map .int)->xs=ns.map V.int
 | _,[],.nil=>rfl
 | _,n::ns,.cons h r=>by
  cases h;rw [Rps.ip r];rfl
def ip:∀ {ns:List Int} {us:List Value},bD (ns.map V.int) us->∀ (i:Nat) (v:Value),us[i]?=some v->∃ t,v=.int ((ns[i]?).getD 0) t
 | [],_,.nil,i,v,e=>by simp at e
 | b::bs,_,.cons r t,0,v,e=>by
  simp at e;subst e;obtain ⟨tk,rfl⟩:=r;exact ⟨tk,by simp⟩
 | b::bs,_,.cons r t,i+1,v,e=>by
  obtain ⟨c,h1⟩:=ip t i v (by simpa using e);exact ⟨c,by simpa using h1⟩
section
variable {X:Cx}
def yx {K:W.Frag} {H:Hp} {xs:List V} {i j:Int} (r:Rps K H xs [.int i,.int j]):xs=[.int i,.int j]:=by
 cases r with
 | cons h r =>
  cases r with
  | cons h' r' =>
   cases r';cases h;cases h';rfl
def G8 (hc:X.calm=true):c8 X (.builtin "min") (rdL X.K wD):=(xR hc).imp λ xs H Q ⟨Hs,ds,d,sm,r,e,k⟩=>by
 match ds,e with
 | [.int i,.int j],e =>
  have e':=Zj e;subst e';exact ⟨i,j,yx r,k _ Hs H (.refl sm) (.int _)⟩
end
section
variable {X:Cx} {e o:Expr} {es:List Expr} {m:Str} {pos apos:Pos} {k:Nat} {C fa:Addr} {fd:FuncData} {ps:List Str} {F:List D->Option Sl} {g:DE} {ga:DA}
def pe (C:Addr) (m:Str) (F:List D->Option Sl) (o:DE) (g:DA):DE:=λ τ=>(o τ).bind λ x=>(g τ).bind λ ds=>match x with
 | .obj C' fs=>if C'=C/\fs.lookup m=none then (F (x::ds)).bind slO else none
 | _=>none
def zI (K:W.Frag) (h:rdO K (pe C m F g ga) σ H Q):Bp C m (spF F K) [] E0 (rdE K g) (rdA K ga) σ H Q:=by
 obtain ⟨H0,Hs,τ,fp,d,st,sm,e,q⟩:=h;obtain ⟨x,e1,e2⟩:=bind_some e;obtain ⟨ds,e3,e4⟩:=bind_some e2;refine ⟨H0,Hs,τ,fp,x,st,sm,e1,λ v Hs1 H1 g1 r1=>?_⟩
 cases r1 with
 | @obj a C' dx fs dd h r =>
  simp only at e4;split at e4
  ·rename_i hc
   obtain ⟨hc1,hc2⟩:=hc;subst hc1;obtain ⟨s,e5,e6⟩:=bind_some e4;refine ⟨a,dx,fs,rfl,g1.sh _ _ h,r.Dt hc2,?_⟩;refine ⟨H0,Hs1,τ,fp,ds,st.ext g1,g1.sh,e3,λ vs Hs2 H2 g2 r2=>?_⟩;refine ⟨Hs2,_,s,g2.sh,.cons ((Rp.obj h r).same g2.ss) (by rw [Z0]; exact r2),e5,λ v Hs3 H3 g3 rv=>?_⟩
   cases s with
   | own d' =>
    have e':=Zj e6;subst e';obtain ⟨a',rfl,o,z⟩:=rv;exact q a' Hs3 H3 ((g1.trans g2).trans g3) o ((g1.trans g2).hh.free z)
   | shr _=>cases e6
   | no=>cases e6
  · cases e4
 | _=>exact nn e4
def Ck (he:PEd X o g) (c:Cls X.K C) (hm:Ef X.K C m fa) (Fo:jf X.prog X.w X.K X.mg X.base CX0 k fa fd ps (spF F X.K)) (hr:dW k X.A) (hb:Binds X.K fd ps []) (ha:PAd X (e::es) ga)
 (hst:starEach (e::es) X.env=(false,eval e X.env)::starEach es X.env:=by rfl) (hpl:(backTo pos (starEach es X.env)).any (·.1)=false:=by rfl)
 (ht:eval (.Call (.Attribute o m apos) (e::es) [] pos) X.env=(do
   let ov <- eval o X.env
   standAt apos.atName
   let (f,first) <- holding [ov] (getMethod ov m pl)
   callWith pos f first (backTo pos (starEach (e::es) X.env)) (backToKw pos (keywordEach [] X.env))):=by rfl) :
 PEo X (.Call (.Attribute o m apos) (e::es) [] pos) (pe C m F g ga):=(p7 he c hm Fo hr hb .nil p9 ha hst hpl ht).imp λ σ H Q h=>zI X.K h
end
section
variable {prog:Program} {w:World} {A:Around} {R:Result->Shared->Prop} {s:Shared}
def nF (I:Nat->Shared->Prop)
  (turn:∀ n s,I n s->wpAny (model prog w) A (pyNext it) (λ r s₁=>match r with
    | none=>R (.ok .next) s₁
    | some v=>wpAny (model prog w) A (letOwnedTupleGo target it v) (λ _ s₁'=>wpAny (model prog w) A (assign target env v) (λ _ s₂=>wpAny (model prog w) A (isTrue cnd env (eval cnd env)) (λ ok s₂'=>if ok=true then wpAny (model prog w) A (eval elt env) (λ x s₃ =>
     wpAny (model prog w) A (call (.builtin "list.append") [acc,x]) (λ _ s₄=>∃ m,m < n/\I m s₄) (λ _ _=>False) s₃) (λ _ _=>False) s₂' else ∃ m,m < n/\I m s₂') (λ _ _=>False) s₂) (λ _ _=>False) s₁') (λ _ _=>False) s₁) (λ _ _=>False) s)
  (n:Nat) (h:I n s) :
  codeAny (model prog w) A (.compLoop (.ListComp elt [⟨target,iter,[cnd],0⟩] scope pos) 0 it acc env) R s:=by
 refine codeAny_loop rfl I (λ n s hI=>?_) n h;refine wpAny_noted ?_
 rw [compTurn_list];refine Zg (wpAny_standAt (Zg (Ym (turn n s hI) (λ r s₁ h₁=>?_) λ _ _ h'=>h'.elim)))
 cases r with
 | none=>exact Zz h₁
 | some v =>
  refine Zg (Ym h₁ (λ _ s₁' h₁'=>?_) λ _ _ h'=>h'.elim);refine Zg (Ym h₁' (λ _ s₂ h₂=>?_) λ _ _ h'=>h'.elim);refine Zg (Ym (wpAny_tests_one h₂) (λ ok s₃ h₃=>?_) λ _ _ h'=>h'.elim)
  cases ok with
  | false =>
    rw [if_neg Zf] at h₃
    rw [if_neg Zf];exact Zg (Zz (Zz ⟨rfl,h₃⟩))
  | true =>
    rw [if_pos rfl] at h₃
    rw [if_pos rfl];exact Zg (Zg (Ym h₃ (λ x s₄ h₄=>Zg (Ym h₄ (λ _ s₅ h₅=>Zz (Zz ⟨rfl,h₅⟩)) λ _ _ h'=>h'.elim)) λ _ _ h'=>h'.elim))
end
def Bs (J:It) (tt:TT) (te:TE) (cs:List (Str×Nat)) (σ:St) (Q:VK) (H1:Hp):Prop:=∃ W:Nat->Nat->List V->Hp->Prop,(∃ m,W 0 m [] H1)/\∀ i m ys H',W i m ys H' ->
 (J.stop i H'/\ys.length<=sizeLine/\∀ p,H' p=none->Q (.ref p) (upd H' p (.lst ys))) \/
 (J.go i H'/\ys.length < sizeLine/\∀ v H2,J.yld i H' v H2->tt (some v::aJ σ cs) H2 λ b H3=>if b=true then te (some v::aJ σ cs) H3 λ y H4=>∃ m',m' < m/\W (i+1) m' (ys++[y]) H4 else ∃ m',m' < m/\W (i+1) m' ys H3)
def uV (wi:TI) (tt:TT) (te:TE) (cs:List (Str×Nat)):TE:=λ σ H Q=>wi σ H λ J H1=>Bs J tt te cs σ Q H1
section
variable {X:Cx}
def lF {elt iter:Expr} {x:Str} {px pos:Pos} {scope:Scope} {cl:List (Str×Addr)} {cs:List (Str×Nat)} {te:TE} {tt:TT} {cnd:Expr} {pins:List (Addr×Obj)} {σ:St} {H:Hp} {s:Shared} {Q:VK} {it:Addr} {fp:List Addr} {tn:Nat->Heap->Prop} {J:It}
  {RR:Value->Addr->Result->Shared->Prop} {E:Value->Shared->Prop} (hc:X.calm=true) (O:cf X scope cl x cs) (hcd:∀ s H fp C,PT (bf X scope cl (x::cs.map (·.1)) s H fp C) cnd tt) (he:∀ s H fp C,PE (bf X scope cl (x::cs.map (·.1)) s H fp C) elt te)
  (I:Inv X pins σ H s) (T:Turn X.prog X.w X.K (.Name x px) J fp it tn) (st:tn 0 s.heap) (f2:∀ b ∈ fp,uA X pins H b)
  (h : ∃ W:Nat->Nat->List V->Hp->Prop,(∃ m,W 0 m [] H)/\∀ i m ys H',W i m ys H' ->
    (J.stop i H'/\ys.length<=sizeLine/\∀ p,H' p=none->Q (.ref p) (upd H' p (.lst ys))) \/
    (J.go i H'/\ys.length < sizeLine/\∀ v H2,J.yld i H' v H2->tt (some v::aJ σ cs) H2 λ b H3=>if b=true then te (some v::aJ σ cs) H3 λ y H4=>∃ m',m' < m/\W (i+1) m' (ys++[y]) H4 else ∃ m',m' < m/\W (i+1) m' ys H3))
  (hRR:∀ D C s' H' ys,s.heap.objs.size<=D->s.heap.objs.size<=C->D≠C->(∃ m,s'.heap.Ns C m)->Inv X pins σ (upd H' D (.lst ys)) s'->H' C=none->Q (.ref D) (upd H' D (.lst ys))->RR (.ref D) C (.ok .next) s') :
  wpAny (model X.prog X.w) X.A (newList []) (λ acc s₃=>wpAny (model X.prog X.w) X.A (newFunctionEnv scope X.env.globals cl [] X.env.qual none .none (some X.env)) (λ cenv s₄ =>
    codeAny (model X.prog X.w) X.A (.compStart (.ListComp elt [⟨.Name x px,iter,[cnd],0⟩] scope pos) 0 (.ref it) acc { cenv with scope:=relabel scope X.env }) (RR acc cenv.locals) s₄) E s₃) E s:=by
 obtain ⟨W,⟨m0,w0⟩,turn⟩:=h;refine Xw (wpAny_newFunctionEnv O.rO (by intro y hy; simp at hy) (λ h₁ hns₁ hsb₁=>?_) O.kind);generalize hH2:s.heap.push { cls:=.type "list",dict:=none,data:=.seq ([]:List Value).toArray }=H2 at hns₁ hsb₁ ⊢
 have hC:H2.objs.size=s.heap.objs.size+1:=by rw [<- hH2,Xk]
 have hDC:s.heap.objs.size≠H2.objs.size:=by rw [hC]; exact Zx (Yv _)
 have hCle:s.heap.objs.size<=H2.objs.size:=by rw [hC]; exact Nat.le_succ _
 have neC:∀ b,b < s.heap.objs.size->b≠H2.objs.size:=λ b hb=>by rw [hC]; exact Zx (Nat.lt_succ_of_lt hb)
 have old:∀ b o,s.heap.get? b=some o->h₁.get? b=some o:=λ b o e=>hsb₁.extBut b o (neC b (Zt e)) (Heap.get?_push_of_some _ (hH2 ▸ Heap.get?_push_of_some _ e))
 have hacc:=hsb₁.extBut _ _ hDC (Heap.get?_push_of_some _ (hH2 ▸ Heap.get?_push_size _ rfl))
 have there:∀ b ∈ fp,b < s.heap.objs.size:=λ b hb=>by
  obtain ⟨o,e,_⟩:=T.obj _ _ st b hb;exact Zt e
 have hns:h₁.Ns H2.objs.size λ _=>none:=by
  have e:(λ x=>List.lookup x ([]:List (Str×Value)).reverse)=λ _=>none:=by funext y; rfl
  rw [e] at hns₁
  exact hns₁
 generalize hD:s.heap.objs.size=D at hDC hCle hacc;generalize hCC:H2.objs.size=C at hDC hCle hns ⊢;have FD:=I.yn (b:=D) (by rw [<- hD]; exact Zs _) (I.hok.fresh (by rw [<- hD]; exact Zs _));have nfpD:∀ b ∈ fp,b≠D:=λ b hb=>by rw [<- hD]; exact Zx (there b hb)
 have nfpC:∀ b ∈ fp,b≠C:=λ b hb=>Zx (Z1 (there b hb) (by rw [hD]; exact hCle))
 have st1:=T.keep _ _ _ st λ b _ o e=>old b o e
 have I1:Inv (bf X scope cl (x::cs.map (·.1)) s H fp C) [] (none::aJ σ cs) H { s with heap:=h₁,toks:=s.toks+([]:List (Str×Value)).length } :=
  my O I f2 there (by rw [hD]; exact hCle) old hns
 generalize hY:bf X scope cl (x::cs.map (·.1)) s H fp C=Y at I1
 have pgx:PG Y (.Name x px) (oI 0):=by
  subst hY;exact kK O.nd rfl (.inl (Xy O.own)) (.inr (Xy O.own))
 have peY:PE Y elt te:=by subst hY; exact he _ _ _ _
 have ptY:PT Y cnd tt:=by subst hY; exact hcd _ _ _ _
 have Yx:Y.prog=X.prog/\Y.w=X.w/\Y.K=X.K/\Y.A=X.A/\Y.env=compEnvC scope cl C X.env/\Y.calm=X.calm/\Y.xe=(λ _ _=>False)/\Y.pn=[]/\Y.ex=fp/\Y.fs=frs X.stack/\Y.s₀=s/\Y.H₀=H:=by subst hY; exact ⟨rfl,rfl,rfl,rfl,rfl,rfl,rfl,rfl,rfl,rfl,rfl,rfl⟩
 obtain ⟨y1,y2,y3,y4,y5,y6,y7,y8,y9,y10,y11,y12⟩:=Yx;have nstk:∀ b,b≠X.env.locals->b ∉ X.fs->b ∉ Y.fs:=λ b h1 h2 z=>by rw [y10] at z; exact (Zl.mp (I.nS b z)).elim h1 h2
 have yl:Y.env.locals=C:=by rw [y5]; rfl
 have yc:∀ z c,Y.env.cells.lookup z=some c->X.env.cells.lookup z=some c:=λ z c e=>by rw [y5] at e; exact O.sub z c e
 have stat:∀ {ps:List (Addr×Obj)} {H':Hp},(∀ b ∈ fp,H' b=none)->(∀ p ∈ ps,p.1=D)->∀ b ∈ fp,uA Y ps H' b:=λ {ps H'} hn hp b hb =>
  ⟨hn b hb,by rw [yl]; exact nfpC b hb,nstk b (f2 b hb).2.1 (f2 b hb).2.2.1,.inl (by rw [y9]; exact hb),λ z c e=>(f2 b hb).2.2.2.2.1 z c (yc z c e),λ p hq=>by
    rw [y8,List.nil_append] at hq;rw [hp p hq]
    exact Ne.symm (nfpD b hb)⟩
 have pinD:∀ {σ':St} {H':Hp} {s':Shared} {ob:Obj},Inv Y [] σ' H' s'->H' D=none->s'.heap.get? D=some ob->(∀ v,ob.data≠.cell v)->Inv Y [(D,ob)] σ' H' s':=λ {σ' H' s' ob} I' hn e hd =>
  I'.hZ λ p hp=>by
    have e1:p=(D,ob):=by simpa using hp
    subst e1;exact ⟨e,hn,by rw [yl]; exact hDC,nstk D FD.2.1 FD.2.2.1,hd⟩
 have loop:∀ s₃:Shared,s₃={ s with heap:=h₁,toks:=s.toks+([]:List (Str×Value)).length } ->
    codeAny (model X.prog X.w) X.A (.compLoop (.ListComp elt [⟨.Name x px,iter,[cnd],0⟩] scope pos) 0 (.ref it) (.ref D) (compEnvC scope cl C X.env)) (RR (.ref D) C) s₃:=by
  rintro s₃ rfl
  refine nF (λ n s'=>∃ i o H' ys its k,Inv Y [] (o::aJ σ cs) H' s'/\tn i s'.heap/\(∀ b ∈ fp,H' b=none)/\H' D=none/\s'.heap.get? D=some { cls:=.type "list",data:=.seq (its:List Value).toArray k }/\bD ys its/\W i n ys H') ?_ m0
    ⟨0,none,H,[],[],0,I1,st1,λ b hb=>(f2 b hb).1,FD.1,hacc,.nil,w0⟩
  rintro n s3 ⟨i,o,H3,ys,its,k,I3,st3,fr3,frD,e3,vs3,w3⟩
  have I3p:=pinD I3 frD e3 (by intro v z; cases z)
  have onlyD:∀ p ∈ [(D,({ cls:=.type "list",data:=.seq its.toArray k }:Obj))],p.1=D:=λ p hp=>by
    have e1:=Zn.mp hp;rw [e1]
  rcases turn i n ys H3 w3 with ⟨stop,hz,q⟩ | ⟨go,hz,step⟩
  · have dn:=T.done Y y1 y2 y3 (by rw [y6]; exact hc) i _ s3 (o::aJ σ cs) H3 (λ _ _=>False) I3p (stat fr3 onlyD) st3 stop
    rw [y4] at dn;refine thn dn λ r s4 ⟨hr,I4⟩=>?_
    subst hr;obtain ⟨e4,_⟩:=I4.pin (D,_) (Ze _ (Zn.mpr rfl));have b4:=I4.base;rw [y9,y10,y11,y12] at b4;have hk4:=I4.hok;rw [y1,y2] at hk4;have hCn:H3 C=none:=by have:=I4.free; rw [yl] at this; exact this
    refine hRR D C s4 H3 ys (by rw [<- hD]; exact Zs _) (by rw [hD]; exact hCle) hDC (by obtain ⟨m,hm,_⟩:=I4.loc; rw [yl] at hm; exact ⟨m,hm⟩) ?_ hCn (q D frD);have neD:∀ b o,s.heap.get? b=some o->b≠D:=λ b o e=>by rw [<- hD]; exact Zx (Zt e)
    have neDH:∀ b u,H b=some u->b≠D:=λ b u e=>by rw [<- hD]; exact Zx (I.hok.lt e)
    refine I.G9 (by have:=I4.os; rw [y11] at this; exact this) ⟨b4.keep,b4.slot,λ b o e n hx=>?_,b4.there,λ b xs e=>?_,λ b o u e=>?_,λ b ps e=>?_⟩ (λ b u e=>?_) I4.bare λ b hb=>?_
    · rw [aj (neD b o e)]; exact b4.free b o e n hx
    · rw [aj (neDH b _ e)]; exact b4.uO b xs e
    · rw [aj (neDH b _ e)]; exact b4.uG b o u e
    · rw [aj (neDH b _ e)]; exact b4.uS b ps e
    ·have t1:∀ c u,H3 c=some u->upd H3 D (.lst ys) c=some u:=λ c u z=>by
      rw [aj (λ zz=>by rw [zz,frD] at z; cases z)];exact z
     by_cases hb:b=D
     ·subst hb
      rw [aq] at e;cases e;exact ⟨hz,its,k,vs3,e4⟩
     ·rw [aj hb] at e
      exact (hk4 b u e).ym (λ _ _ _ z=>z) (λ c z=>t1 c _ z) λ c xs z=>t1 c _ z
    · exact ⟨(f2 b hb).2.2.2.1,(f2 b hb).2.1,(f2 b hb).2.2.2.2.1,(f2 b hb).2.2.2.2.2⟩
  · have im:=T.item Y y1 y2 y3 (by rw [y6]; exact hc) i _ s3 (o::aJ σ cs) H3 (λ _ _=>False) I3p (stat fr3 onlyD) st3 go
    rw [y4] at im;refine thn im λ r s4 ⟨u,hr,h4⟩=>?_
    subst hr;refine thn h4 λ _ s5 ⟨v,H5,I5,r5,y5',st5,fr5⟩=>?_
    have I5':=I5.pinned (stat fr5 onlyD) (T.obj _ _ st5);have as:=pgx _ s5 (o::aJ σ cs) H5 v u _ I5' r5 (show oI 0 v (o::aJ σ cs) H5 (λ σ' H'=>σ'=some v::aJ σ cs/\H'=H5) from ⟨rfl,rfl⟩);rw [y1,y2,y4,y5,y7] at as;refine thn as λ _ s6 ⟨σ6,H6,I6,e6,e6'⟩=>?_
    subst e6 e6';have ts:=ptY _ s6 _ H6 _ I6 (step v H6 y5');rw [y1,y2,y4,y5,y7] at ts;refine thn ts λ bb s7 ⟨H7,I7,q7⟩=>?_
    have fpk:∀ b ∈ fp,∀ o,s5.heap.get? b=some o->s7.heap.get? b=some o/\H7 b=none:=λ b hb o e=>by
     obtain ⟨z1,z2,_⟩:=I7.pin (b,o) (Ze _ (Ze _ (eR hb e)));exact ⟨z1,z2⟩
    cases bb with
    | false =>
     obtain ⟨m',hm',w7⟩:=(by rw [if_neg Zf] at q7; exact q7)
     rw [if_neg Zf];obtain ⟨e7,n7,_⟩:=I7.pin (D,_) (Ze _ (Zp _ (Zn.mpr rfl)));have I7n:Inv Y [] (some v::aJ σ cs) H7 s7:=I7.hZ λ p hp=>absurd hp (by simp)
     refine ⟨m',hm',i+1,some v,H7,ys,its,k,I7n,T.keep _ _ _ st5 λ b hb o e=>(fpk b hb o e).1,λ b hb=>?_,n7,e7,vs3,w7⟩;obtain ⟨o',e',_⟩:=T.obj _ _ st5 b hb;exact (fpk b hb o' e').2
    | true =>
    rw [if_pos rfl];have q7':=q7;rw [if_pos rfl] at q7';have el:=peY _ s7 _ H7 _ I7 q7';rw [y1,y2,y4,y5,y7] at el;refine thn el λ u8 s8 ⟨y8',H8,I8,r8,m',hm',w8⟩=>?_
    obtain ⟨e8,n8,_⟩:=I8.pin (D,_) (Ze _ (Zp _ (Zn.mpr rfl)));have hl3:=vs3.length;refine call_meets F.slot_list_append ⟨_,e8,rfl⟩ F.entry_list_append (F.args_list_append_2 _ _) (PySem.list_append D its.toArray k u8 (by rw [Zq]; omega)) ⟨e8,?_⟩;obtain ⟨k',up⟩:∃ k',(s8.heap.update D (Obj.mapSeq (·.push u8))).get? D=some { cls:=.type "list",data:=.seq (its.toArray.push u8) k' }:=⟨_,PySem.IsL.update e8 (·.push u8)⟩
    have fpk8:∀ b ∈ fp,∀ o,s5.heap.get? b=some o->s8.heap.get? b=some o/\H8 b=none:=λ b hb o e=>by
     obtain ⟨z1,z2,_⟩:=I8.pin (b,o) (Ze _ (Ze _ (eR hb e)));exact ⟨z1,z2⟩
    have I8n:Inv Y [] (some v::aJ σ cs) H8 s8:=I8.hZ λ p hp=>absurd hp (by simp)
    refine ⟨m',hm',i+1,some v,H8,ys++[y8'],its++[u8],k',?_,?_,?_,n8,?_,vs3.append (.cons r8 .nil),w8⟩
    ·refine I8n.turned (λ b o hb e=>(Heap.get?_update_other s8.heap (Obj.mapSeq (·.push u8)) (Ne.symm hb)).trans e) n8 (by rw [yl]; exact hDC) (.inr (by rw [y11,<- hD]; exact Zs _)) (λ z c e=>FD.2.2.2.2.1 z c (yc z c e)) λ p hp=>?_
     rw [y8] at hp;exact absurd hp (by simp)
    ·refine T.keep _ _ _ st5 λ b hb o e=>?_
     exact (Heap.get?_update_other s8.heap (Obj.mapSeq (·.push u8)) (Ne.symm (nfpD b hb))).trans (fpk8 b hb o e).1
    ·intro b hb
     obtain ⟨o',e',_⟩:=T.obj _ _ st5 b hb;exact (fpk8 b hb o' e').2
    ·rw [List.push_toArray] at up
     exact up
 exact codeAny_compStart_list (loop _ rfl) (T.self _ 0 _ _ _ st1 (loop _ rfl))
def zw {elt iter:Expr} {x:Str} {px pos:Pos} {scope:Scope} {cl:List (Str×Addr)} {cs:List (Str×Nat)} {wi:TI} {te:TE} {tt:TT} {cnd:Expr} (hc:X.calm=true) (O:cf X scope cl x cs) (hi:PI X (.Name x px) iter wi)
  (hcd:∀ s H fp C,PT (bf X scope cl (x::cs.map (·.1)) s H fp C) cnd tt) (he:∀ s H fp C,PE (bf X scope cl (x::cs.map (·.1)) s H fp C) elt te) (hs:∀ x,foldedSetIterable iter X.env x=pure x:=by intro _; rfl) :
  PE X (.ListComp elt [⟨.Name x px,iter,[cnd],0⟩] scope pos) (uV wi tt te cs):=by
 intro pins s σ H Q I h;rw [eval_ListComp];refine wpAny_comprehension_free rfl hs O.G7 O.kind O.names (thn (hi pins s σ H _ I h) λ v s1 h1=>thn h1 λ itv s2 h2=>?_);obtain ⟨it,fp,tn,J,H2,rfl,I2,T,st2,f2,hw⟩:=h2;refine lF hc O hcd he I2 T st2 f2 hw λ D C s' H' ys hD hC hDC ⟨m,hm⟩ I' hn q=>?_
 refine ⟨m,hm,λ h' hs'=>?_⟩;have hn':upd H' D (.lst ys) C=none:=by rw [aj (Ne.symm hDC)]; exact hn
 have FC:=I2.yn hC hn';exact ⟨.ref D,upd H' D (.lst ys),I'.turned (λ b o hb e=>(hs'.2 b hb).trans e) hn' FC.2.1 FC.2.2.2.1 FC.2.2.2.2.1 FC.2.2.2.2.2,rfl,q⟩
def mX {elt iter:Expr} {x y:Str} {px py pos spos:Pos} {i:Nat} {scope:Scope} {cl:List (Str×Addr)} {cs:List (Str×Nat)} {wi:TI} {te:TE} {tt:TT} {cnd:Expr} (hN:X.N.Nodup) (hy:X.N[i]?=some y) (hx:Loc X.env.scope y)
  (hc:X.calm=true) (O:cf X scope cl x cs) (hi:PI X (.Name x px) iter wi)
  (hcd:∀ s H fp C,PT (bf X scope cl (x::cs.map (·.1)) s H fp C) cnd tt) (he:∀ s H fp C,PE (bf X scope cl (x::cs.map (·.1)) s H fp C) elt te) (hs:∀ x,foldedSetIterable iter X.env x=pure x:=by intro _; rfl)
  (hsw:swapsWith (.ListComp elt [⟨.Name x px,iter,[cnd],0⟩] scope pos) (some (.Name y py)) spos.line X.env=pure true:=by rfl)
  (hf:X.fn y=true\/X.env.scope.names.lookup y=some .local:=by first | exact .inl rfl | exact .inr rfl | assumption) :
  PS X (.Assign [.Name y py] (.ListComp elt [⟨.Name x px,iter,[cnd],0⟩] scope pos) spos) (IM (uV wi tt te cs) (oI i)):=by
 intro pins s σ H Dd I h;rw [exec_Assign_Name_used _ _ _ _ hsw];refine Zg (wpAny_standAt (Zg ?_))
 refine Zg (Ym (wpAny_comprehension_free rfl hs O.G7 O.kind O.names (thn (hi pins s σ H _ I h) λ v s1 h1=>thn h1 λ itv s2 h2=>?_))
  (λ _ s' hq=>Zz (Zz hq)) λ _ _ e=>e)
 obtain ⟨it,fp,tn,J,H2,rfl,I2,T,st2,f2,hw⟩:=h2;refine lF (Q:=λ v H1=>oI i v σ H1 Dd.nx) hc O hcd he I2 T st2 f2 hw λ D C s' H' ys hD hC hDC ⟨m,hm⟩ I' hn q=>?_
 have hn':upd H' D (.lst ys) C=none:=by rw [aj (Ne.symm hDC)]; exact hn
 have FC:=I2.yn hC hn';refine wpAny_assign_Name (nR I' hN hy hx (v:=.ref D) rfl (λ s'' I'' ⟨a,hsb,ha⟩=>?_) hf)
 have na:C≠a:=by
  rcases ha with ha | ha
  · rw [ha]; exact FC.2.1
  · exact Ne.symm (FC.2.2.2.2.1 y a ha)
 refine ⟨m,hm.sameBut hsb na,λ h' hs'=>?_⟩;exact ⟨σ.set i (some (.ref D)),upd H' D (.lst ys),I''.turned (λ b o hb e=>(hs'.2 b hb).trans e) hn' FC.2.1 FC.2.2.2.1 FC.2.2.2.2.1 FC.2.2.2.2.2,q⟩
end
def nq (c:D->Option Bool) (g:D->Option D):List D->Option (List D)
 | []=>some []
 | d::ds=>(c d).bind λ b=>if b=true then (g d).bind λ x=>(nq c g ds).bind λ xs=>some (x::xs) else nq c g ds
def gZ (it:DI) (c:DT) (g:DE) (cs:List (Str×Nat)):DE:=λ τ=>(it τ).bind λ ds=>if ds.length<=100000 then (nq (λ d=>c (.shr d::dY τ cs)) (λ d=>g (.shr d::dY τ cs)) ds).map .lst else none
section
variable {X:Cx} {e:Expr} {es:List Expr} {pos:Pos}
def nE {K:W.Frag} {it:DI} {c:DT} {g:DE} {cs:List (Str×Nat)} {σ:St} {H:Hp} {Q:VK} (h:rdO K (gZ it c g cs) σ H Q):uV (rdI K it) (rdT K c) (rdE K g) cs σ H Q:=by
 obtain ⟨H0,Hs,τ,fp,d,st,sm,e,k⟩:=h;obtain ⟨ds,e1,e2⟩:=bind_some e;split at e2
 ·rename_i hl
  obtain ⟨full,e3,rfl⟩:=Zm e2;refine ⟨H0,Hs,τ,fp,ds,st,sm,e1,λ J Hs1 H1 g1 hJ=>?_⟩;refine ⟨λ i m ys H'=>m=ds.length - i/\i<=ds.length/\∃ Hs2 es rest,Ext Hs1 H1 Hs2 H'/\Rps K Hs2 ys es/\es.length<=i/\nq (λ d=>c (.shr d::dY τ cs)) (λ d=>g (.shr d::dY τ cs)) (ds.drop i)=some rest/\es++rest=full,⟨ds.length,by simp,Z3 _,Hs1,[],full,.refl g1.sh,.nil,Zs _,by simpa using e3,rfl⟩,?_⟩
  rintro i m ys H2 ⟨rfl,hi,Hs2,es,rest,g2,ry,ley,e4,e5⟩
  obtain ⟨hgo,hstop⟩:=hJ Hs2 H2 g2.ss g2.sh;have ly:ys.length<=i:=by rw [ry.length]; exact ley
  by_cases hlt:i < ds.length
  ·have ed:=Ys hlt
   rw [ed] at e4;obtain ⟨b,q0,q0'⟩:=bind_some e4;obtain ⟨go,yl⟩:=hgo i ds[i] (List.getElem?_eq_getElem hlt);refine .inr ⟨go,le5 (by omega),λ v H3 y=>?_⟩;obtain ⟨Hs3,g3,rv⟩:=yl v H3 y;have g13:=(g1.trans g2).trans g3;refine ⟨H0,Hs3,.shr ds[i]::dY τ cs,[],b,.shr rv (ji (st.ext g13) cs),g3.sh,q0,λ Hs4 H4 g4=>?_⟩;have g14:=g13.trans g4
   cases b with
   | true =>
    refine K5 ?_
    obtain ⟨x,q1,q2⟩:=bind_some (q0');obtain ⟨xs,q3,q4⟩:=bind_some q2;have eq:=Zj q4;subst eq;refine ⟨H0,Hs4,.shr ds[i]::dY τ cs,[],x,.shr (rv.same g4.ss) (ji (st.ext g14) cs),g4.sh,q1,λ v5 Hs5 H5 g5 r5=>?_⟩;exact ⟨ds.length - (i+1),by omega,rfl,hlt,Hs5,es++[x],xs,((g2.trans g3).trans g4).trans g5,(((ry.same g3.ss).same g4.ss).same g5.ss).append (.cons r5 .nil),by simp; omega,q3,by rw [<- e5]; simp⟩
   | false =>
    refine Ib ?_
    have q1:=q0';exact ⟨ds.length - (i+1),by omega,rfl,hlt,Hs4,es,rest,(g2.trans g3).trans g4,(ry.same g3.ss).same g4.ss,by omega,q1,e5⟩
  ·have e0:i=ds.length:=by omega
   subst e0;rw [X0] at e4;have er:=Zj e4;subst er;rw [Z0] at e5;subst e5;refine .inl ⟨hstop _ (Zs _),uE (by omega),λ p hp=>?_⟩;have g12:=g1.trans g2;exact k p Hs2 _ ⟨g12.ss,g12.sh.trans (aA hp _),g12.hh.trans (aA hp _),g12.fr⟩ (.lst aq (g12.sh.free hp) ry) (g12.hh.free hp)
 · cases e2
def zk (hc:X.calm=true) (O:cf X scope cl x cs) (hi:PId X (.Name x px) iter it)
 (hcd:∀ s H fp C,PTd (bf X scope cl (x::cs.map (·.1)) s H fp C) cnd c) (he:∀ s H fp C,PEd (bf X scope cl (x::cs.map (·.1)) s H fp C) elt g) (hs:∀ x,foldedSetIterable iter X.env x=pure x:=by intro _; rfl) :
 PEo X (.ListComp elt [⟨.Name x px,iter,[cnd],0⟩] scope pos) (gZ it c g cs):=(zw (te:=rdE X.K g) (tt:=rdT X.K c) hc O hi hcd he hs).imp λ σ H Q h=>nE h
end
def l3:D->Option Key
 | .int i=>some (.inl i)
 | .str x=>some (.inr x)
 | _=>none
def j3 (kvs:List (Key×D)) (k:Key):Option D:=(kvs.find? λ kv=>decide (kv.1=k)).map (·.2)
def jR {K:W.Frag} {H:Hp} {v:V} {d:D} {k:Key} (r:Rp K H v d) (e:l3 d=some k):v=kV k:=by
 cases r <;> simp [l3] at e <;> subst e <;> rfl
def RpK.val {K:W.Frag} {H:Hp} {k:Key}:∀ {kvs:List (Key×V)} {ds:List (Key×D)},RpK K H kvs ds->(∀ d,j3 ds k=some d->∃ v,cI kvs k=some v/\Rp K H v d)/\(j3 ds k=none->cI kvs k=none)
 | _,_,.nil=>⟨λ d e=>by simp [j3] at e,λ _=>rfl⟩
 | _,_,@RpK.cons _ _ j x d xs ds h r=>by
  obtain ⟨i1,i2⟩:=RpK.val (k:=k) r
  by_cases q:j=k
  ·subst q
   refine ⟨λ d' e=>?_,λ e=>?_⟩
   ·have:d=d':=by simpa [j3] using e
    subst this;exact ⟨x,by simp [cI],h⟩
   · simp [j3] at e
  ·have e1:j3 ((j,d)::ds) k=j3 ds k:=by simp [j3,q]
   have e2:cI ((j,x)::xs) k=cI xs k:=by simp [cI,q]
   rw [e1,e2];exact ⟨i1,i2⟩
def RpK.length {K:W.Frag} {H:Hp}:∀ {kvs:List (Key×V)} {ds:List (Key×D)},RpK K H kvs ds->kvs.length=ds.length
 | _,_,.nil=>rfl
 | _,_,.cons _ r=>Yh (·+1) r.length
def cL:D->D->Option D
 | .dct kvs,y=>(l3 y).bind λ k=>j3 kvs k
 | .dfz kvs,y=>(l3 y).bind λ k=>j3 kvs k
 | _,_=>none
def CZ:D->D->Option D
 | y,.dct kvs=>(l3 y).map λ k=>.bl (j3 kvs k).isSome
 | _,_=>none
def fX:D->D->Option D
 | y,.dct kvs=>(l3 y).map λ k=>.bl (!(j3 kvs k).isSome)
 | _,_=>none
section
variable {X:Cx} {o i e value:Expr} {pos pos' apos cpos:Pos} {f g h:DE}
def CJ (hu:X.A.units+64 < cLine) (ho:PEd X o f) (hi:PEd X i g) (hs:Er i):PEd X (.Subscript o i pos) (dOp cL f g) :=
 (wg (by omega) ho hi hs).imp λ σ H Q h=>by
   have h':=md X.K h;obtain ⟨H0,Hs,τ,fp,x,st,sm,e1,kk⟩:=h';refine ⟨H0,Hs,τ,fp,x,st,sm,e1,λ v Hs1 H1 g1 r1=>?_⟩;obtain ⟨H0',Hs',τ',fp',y,st',sm',e2,kk2⟩:=kk v Hs1 H1 g1 r1;refine ⟨H0',Hs',τ',fp',y,st',sm',e2,λ u Hs2 H2 g2 r2=>?_⟩;obtain ⟨Hs3,dx,dy,d,sm3,rx,ry,eo,k⟩:=kk2 u Hs2 H2 g2 r2
   cases rx with
   | @dct a kvs ds hH rk =>
    obtain ⟨key,ek,ev⟩:=bind_some (eo);obtain ⟨w,hw,rw'⟩:=(rk.val).1 d ev;have:=jR ry ek;subst this;exact ⟨a,w,rfl,by rw [<- hw]; exact uB.k (sm3 _ _ hH),k w Hs3 H2 (.refl sm3) rw'⟩
   | @dfz a kvs ds hH rk =>
    obtain ⟨key,ek,ev⟩:=bind_some (show (l3 dy).bind _=some d from eo);obtain ⟨w,hw,rw'⟩:=(rk.val (k:=key)).1 d ev;have:=jR ry ek;subst this;refine ⟨a,w,rfl,.inl ⟨_,key,hH.elim (λ z=>.inl (sm3 _ _ z)) (λ ⟨o,z⟩=>.inr ⟨o,sm3 _ _ z⟩),rfl,hw.symm⟩,k w Hs3 H2 (.refl sm3) rw'⟩
   | _=>simp [cL] at eo
def xE {neg:Bool} {σ:St} {H:Hp} {Q:VK} (K:W.Frag) (h:rdE K (dOp (if neg then fX else CZ) f g) σ H Q):rdE K f σ H λ y H1=>rdE K g σ H1 λ x H2=>∃ a o,x=.ref a/\uB H2 a y o/\Q (.bl (if neg then !o.isSome else o.isSome)) H2:=by
 have h':=md K h;obtain ⟨H0,Hs,τ,fp,x,st,sm,e1,kk⟩:=h';refine ⟨H0,Hs,τ,fp,x,st,sm,e1,λ v Hs1 H1 g1 r1=>?_⟩;obtain ⟨H0',Hs',τ',fp',y,st',sm',e2,kk2⟩:=kk v Hs1 H1 g1 r1;refine ⟨H0',Hs',τ',fp',y,st',sm',e2,λ u Hs2 H2 g2 r2=>?_⟩;obtain ⟨Hs3,dx,dy,d,sm3,rx,ry,eo,k⟩:=kk2 u Hs2 H2 g2 r2
 obtain ⟨ds,key,rfl,ek,ev⟩:∃ ds key,dy=.dct ds/\l3 dx=some key/\D.bl (if neg then !(j3 ds key).isSome else (j3 ds key).isSome)=d:=by
  cases neg with
  | true =>
   have eo:fX dx dy=some d:=eo;unfold fX at eo;split at eo
   ·obtain ⟨key,a1,a2⟩:=Zm eo
    exact ⟨_,key,rfl,a1,a2⟩
   · cases eo
  | false =>
   have eo:CZ dx dy=some d:=eo;unfold CZ at eo;split at eo
   ·obtain ⟨key,a1,a2⟩:=Zm eo
    exact ⟨_,key,rfl,a1,a2⟩
   · cases eo
 cases ry with
 | @dct a kvs _ hH rk =>
  have:=jR rx ek;subst this;subst ev
  have is:(cI kvs key).isSome=(j3 ds key).isSome:=by
   cases q:j3 ds key with
   | none=>rw [(rk.val).2 q]; rfl
   | some d'=>obtain ⟨w,hw,_⟩:=(rk.val (k:=key)).1 d' q; rw [hw]; rfl
  refine ⟨a,cI kvs key,rfl,uB.k (sm3 _ _ hH),?_⟩;rw [is];exact k _ Hs3 H2 (.refl sm3) (.bl _)
def Bl (K:W.Frag) (h:rdT K (dT f) σ H Q):rdE K f σ H λ x H1=>∃ c,x=.bl c/\Q c H1:=by
 obtain ⟨H0,Hs,τ,fp,d,st,sm,e,k⟩:=h;obtain ⟨x,e1,e⟩:=bind_some e;have hx:x=.bl d:=by cases x <;> simp at e <;> subst e <;> rfl
 subst hx;refine ⟨H0,Hs,τ,fp,_,st,sm,e1,λ v Hs' H' g r=>?_⟩;cases r;exact ⟨d,rfl,k Hs' H' g⟩
def BU (hu:X.A.units+64 < cLine) (hi:PEd X i f) (ho:PEd X o g) (hm:behindInMarks .In o=false):PTd X (.Compare i [.In] [o] pos) (dT (dOp CZ f g)):=(AK (FT (by omega) hi ho) hm).imp λ σ H Q h=>xE (neg:=false) X.K (Bl X.K h)
def tz (hu:X.A.units+64 < cLine) (hi:PEd X i f) (ho:PEd X o g) (hm:behindInMarks .NotIn o=false):PTd X (.Compare i [.NotIn] [o] pos) (dT (dOp fX f g)):=(AK (wk (by omega) hi ho) hm).imp λ σ H Q h=>xE (neg:=true) X.K (Bl X.K h)
end
def scD:D->Option V
 | .int i=>some (.int i)
 | .str x=>some (.str x)
 | .non=>some .non
 | _=>none
def Ay:List D->Option (List V)
 | []=>some []
 | d::ds=>(scD d).bind λ v=>(Ay ds).map (v::·)
def inS (x:D) (ys:List D):Option Bool:=(scD x).bind λ v=>(Ay ys).map λ vs=>inV v vs
def DC:D->Option (List D)
 | .lst ys=>some ys
 | .tup ys=>some ys
 | _=>none
def En (x y:D):Option D:=(DC y).bind λ ys=>(inS x ys).map .bl
def ic (x y:D):Option D:=(DC y).bind λ ys=>(inS x ys).map λ b=>.bl !b
def EU {K:W.Frag} {H:Hp} {v w:V} {d:D} (r:Rp K H v d) (e:scD d=some w):v=w/\l4 v=true:=by
 cases r <;> simp [scD] at e <;> subst e <;> exact ⟨rfl,rfl⟩
def Ax {K:W.Frag} {H:Hp}:∀ {vs ws:List V} {ds:List D},Rps K H vs ds->Ay ds=some ws->vs=ws/\vs.all l4=true
 | _,_,_,.nil,e=>by simp [Ay] at e; subst e; exact ⟨rfl,rfl⟩
 | _,_,_,.cons h r,e=>by
  obtain ⟨v,e1,e2⟩:=bind_some (show (scD _).bind _=_ from e);obtain ⟨ws,e3,e4⟩:=Zm e2;obtain ⟨q1,q2⟩:=EU h e1;obtain ⟨q3,q4⟩:=Ax r e3;subst q1 q3;exact ⟨e4,by rw [List.all_cons,q2,q4]; rfl⟩
section
variable {X:Cx}
def A3 {K:W.Frag} {neg:Bool} {x y:V} {H:Hp} {Q:VK} (h:rdR K (if neg then ic else En) x y H Q):rIn K neg x y H Q:=by
 obtain ⟨Hs,dx,dy,d,sm,rx,ry,e,k⟩:=h
 obtain ⟨ys,b,e1,e2,e3⟩:∃ ys b,DC dy=some ys/\inS dx ys=some b/\d=.bl (if neg then !b else b):=by
  cases neg with
  | true =>
   obtain ⟨ys,a1,a2⟩:=bind_some (e);obtain ⟨b,a3,a4⟩:=Zm a2;exact ⟨ys,b,a1,a3,a4.symm⟩
  | false =>
   obtain ⟨ys,a1,a2⟩:=bind_some (show (DC dy).bind _=some d from e);obtain ⟨b,a3,a4⟩:=Zm a2;exact ⟨ys,b,a1,a3,a4.symm⟩
 obtain ⟨v,e4,e5⟩:=bind_some e2;obtain ⟨vs,e6,e7⟩:=Zm e5;obtain ⟨q1,q2⟩:=EU rx e4;subst q1 e3;have ry':=ry.same sm
 obtain ⟨p,xs,ep,hq,rs⟩:∃ p xs,y=.ref p/\(SqL K H p xs\/SqT K H p xs)/\Rps K H xs ys:=by
  cases ry' with
  | tup h r=>simp [DC] at e1; subst e1; exact ⟨_,_,rfl,.inr h,r⟩
  | lst h r=>simp [DC] at e1; subst e1; exact ⟨_,_,rfl,.inl (.of h),r⟩
  | _=>simp [DC] at e1
 obtain ⟨q3,q4⟩:=Ax rs e6;subst q3;refine ⟨p,xs,ep,hq,q2,q4,?_⟩;rw [e7];exact k _ Hs H (.refl sm) (.bl _)
def F3:OpR X (compareOp .In) (rdR X.K En):=wt.imp λ x y H Q h=>A3 h
def rH:OpR X (compareOp .NotIn) (rdR X.K ic):=nW.imp λ x y H Q h=>A3 h
end
section
variable {X:Cx} {a b c:Expr} {pos:Pos} {f g h:DE}
def Ad (K:W.Frag) (hh:rdE K (i9 (dOp o f g) (dOp o' g h)) σ H Q):uW (rdR K o) (rdR K o') (rdE K f) (rdE K g) (rdE K h) σ H Q:=by
 obtain ⟨H0,Hs,τ,fp,d,st,sm,e,k⟩:=hh;obtain ⟨r,e0,e⟩:=bind_some e;obtain ⟨x,e1,e0⟩:=bind_some e0;obtain ⟨y,e2,e0⟩:=bind_some e0;refine ⟨H0,Hs,τ,fp,x,st,sm,e1,λ v Hs1 H1 g1 r1=>?_⟩;refine ⟨H0,Hs1,τ,fp,y,st.ext g1,g1.sh,e2,λ u Hs2 H2 g2 r2=>?_⟩;refine ⟨Hs2,x,y,r,g2.sh,r1.same g2.ss,r2,e0,λ w Hs3 H3 g3 r3=>?_⟩
 cases r3 with
 | bl kb =>
  refine ⟨kb,rfl,?_⟩
  cases kb with
  | false =>
   rw [if_neg Zf];have e':D.bl false=d:=by simpa using e
   subst e';exact k _ Hs3 H3 ((g1.trans g2).trans g3) (.bl false)
  | true =>
   rw [if_pos rfl];obtain ⟨y',q1,q2⟩:=bind_some (e);have ey:y'=y:=by rw [e2] at q1; exact (Zj q1).symm
   subst ey;obtain ⟨z,q3,q4⟩:=bind_some q2;refine ⟨H0,Hs3,τ,fp,z,st.ext ((g1.trans g2).trans g3),g3.sh,q3,λ u' Hs4 H4 g4 r4=>?_⟩;exact ⟨Hs4,y',z,d,g4.sh,(r2.same g3.ss).same g4.ss,r4,q4,λ w' Hs5 H5 g5 r5=>k w' Hs5 H5 ((((g1.trans g2).trans g3).trans g4).trans g5) r5⟩
 | _=>exact nn e
def vL (ho:OpR X (compareOp op) (rdR X.K o)) (ho':OpR X (compareOp op') (rdR X.K o')) (ha:PEd X a f) (hb:PEd X b g) (hc:PEd X c h)
  (hm:lastMarks [op,op'] [b,c]=false:=by with_unfolding_all rfl):PTd X (.Compare a [op,op'] [b,c] pos) (dT (i9 (dOp o f g) (dOp o' g h))) :=
 (yQ ho ho' ha hb hc hm).imp λ σ H Q hh=>Ad X.K (Bl X.K hh)
end
inductive Tg where
 | l | d | o (C:Addr)
inductive Mt where
 | s (d:D)
 | n (t:Tg) (cs:List (Key×Mt))
def strOf:Key->Str
 | .inr x=>x
 | .inl _=>""
mutual
def frz:Mt->D
 | .s d=>d
 | .n .l cs=>.lst (xq cs)
 | .n .d cs=>.dct (GQ cs)
 | .n (.o C) cs=>.obj C (GR cs)
def xq:List (Key×Mt)->List D
 | []=>[]
 | (_,m)::r=>frz m::xq r
def GQ:List (Key×Mt)->List (Key×D)
 | []=>[]
 | (k,m)::r=>(k,frz m)::GQ r
def GR:List (Key×Mt)->List (Str×D)
 | []=>[]
 | (k,m)::r=>(strOf k,frz m)::GR r
end
def so:∀ cs:List (Key×Mt),xq cs=cs.map λ c=>frz c.2
 | []=>rfl
 | (_,m)::r=>by rw [xq,so r]; rfl
def ng:∀ cs:List (Key×Mt),GQ cs=cs.map λ c=>(c.1,frz c.2)
 | []=>rfl
 | (_,m)::r=>by rw [GQ,ng r]; rfl
def su:∀ cs:List (Key×Mt),GR cs=cs.map λ c=>(strOf c.1,frz c.2)
 | []=>rfl
 | (_,m)::r=>by rw [GR,su r]; rfl
inductive Stp where
 | k (k:Key) | i (n:Nat)
def tF (t:Tg) (cs:List (Key×Mt)) (st:Stp):Option Nat:=match t,st with
 | .l,.i n=>if n < cs.length then some n else none
 | .d,.k k=>cs.findIdx? λ c=>decide (c.1=k)
 | .o _,.k k=>cs.findIdx? λ c=>decide (c.1=k)
 | _,_=>none
def Mt.get:Mt->List Stp->Option Mt
 | m,[]=>some m
 | .s _,_::_=>none
 | .n t cs,st::p=>match tF t cs st with
  | none=>none
  | some i=>match cs[i]? with
   | none=>none
   | some c=>Mt.get c.2 p
def Mt.put:Mt->List Stp->Mt->Mt
 | _,[],m2=>m2
 | .s d,_::_,_=>.s d
 | .n t cs,st::p,m2=>match tF t cs st with
  | none=>.n t cs
  | some i=>match cs[i]? with
   | none=>.n t cs
   | some c=>.n t (cs.set i (c.1,Mt.put c.2 p m2))
inductive Lay:Tg->Addr->List (Key×V)->HO->Prop where
 | l {dx:Addr} (kvs:List (Key×V)):Lay .l dx kvs (.lst (kvs.map (·.2)))
 | d {dx:Addr} (kvs:List (Key×V)):Lay .d dx kvs (.dK kvs)
 | o {C dx:Addr} (fs:List (Str×V)):Lay (.o C) dx (fs.map λ f=>(.inr f.1,f.2)) (.ins C dx fs)
structure Kd where
 k:Key
 v:V
 m:Mt
 fp:List Addr
abbrev Kd.kv (t:Kd):Key×V:=(t.k,t.v)
abbrev Kd.km (t:Kd):Key×Mt:=(t.k,t.m)
def KU:Tg->List Kd->Prop
 | .l,_=>True
 | _,ts=>(ts.map Kd.k).Nodup
inductive Od (K:W.Frag) (Hs H:Hp):List Addr->V->Mt->Prop where
 | s {v:V} {d:D} (r:Rp K Hs v d):Od K Hs H [] v (.s d)
 | n {a dx:Addr} {t:Tg} {ts:List Kd} {u:HO} (h:H a=some u) (hl:Lay t dx (ts.map Kd.kv) u) (nh:Hs a=none) (ku:KU t ts) (nd:(a::ts.flatMap Kd.fp).Nodup) (r:∀ c ∈ ts,Od K Hs H c.fp c.v c.m):Od K Hs H (a::ts.flatMap Kd.fp) (.ref a) (.n t (ts.map Kd.km))
section
variable {K:W.Frag} {Hs H Hs' H':Hp} {fp:List Addr} {v:V} {m:Mt}
def Od.inv (h:Od K Hs H fp v (.n t cs)):∃ a dx ts u,v=.ref a/\fp=a::ts.flatMap Kd.fp/\cs=ts.map Kd.km/\H a=some u/\Lay t dx (ts.map Kd.kv) u/\Hs a=none/\KU t ts/\(a::ts.flatMap Kd.fp).Nodup/\∀ c ∈ ts,Od K Hs H c.fp c.v c.m:=by
 cases h with
 | n h hl nh ku nd r=>exact ⟨_,_,_,_,rfl,rfl,rfl,h,hl,nh,ku,nd,r⟩
def Od.live (h:Od K Hs H fp v m):∀ b ∈ fp,Hs b=none/\H b≠none:=by
 induction h with
 | s r=>intro b h; cases h
 | n h hl nh ku nd r ih =>
  intro b hb;rcases Zl.mp hb with e | e
  · subst e; exact ⟨nh,hU h⟩
  ·obtain ⟨c,hc,hb⟩:=Yr.mp e
   exact ih c hc b hb
def Od.nd (h:Od K Hs H fp v m):fp.Nodup:=by
 cases h with
 | s r=>exact .nil
 | n h hl nh ku nd r=>exact nd
def Od.mv (h:Od K Hs H fp v m) (g:bZ Hs Hs'):(∀ b ∈ fp,Hs' b=none/\H' b=H b)->Od K Hs' H' fp v m:=by
 induction h with
 | s r=>exact λ _=>.s (r.same g)
 | n h hl nh ku nd r ih =>
  intro q;have qa:=q _ (Zd ..);exact .n (by rw [qa.2]; exact h) hl qa.1 ku nd λ c hc=>ih c hc λ b hb=>q b (Zc _ (Yr.mpr ⟨c,hc,hb⟩))
def vo:∀ {ts:List Kd},(∀ c ∈ ts,Rp K H c.v (frz c.m))->Rps K H ((ts.map Kd.kv).map (·.2)) (xq (ts.map Kd.km))
 | [],_=>.nil
 | c::ts,h=>.cons (h c (Zd ..)) (vo λ c hc=>h c (Zc _ hc))
def AF:∀ {ts:List Kd},(∀ c ∈ ts,Rp K H c.v (frz c.m))->RpK K H (ts.map Kd.kv) (GQ (ts.map Kd.km))
 | [],_=>.nil
 | c::ts,h=>.cons (h c (Zd ..)) (AF λ c hc=>h c (Zc _ hc))
def AG:∀ {ts:List Kd} {fs:List (Str×V)},(ts.map Kd.kv=fs.map λ f=>(Sum.inr f.1,f.2))->(∀ c ∈ ts,Rp K H c.v (frz c.m))->RpF K H fs (GR (ts.map Kd.km))
 | [],[],_,_=>.nil
 | [],_::_,e,_=>by cases e
 | _::_,[],e,_=>by cases e
 | c::ts,f::fs,e,h=>by
  obtain ⟨e1,e2⟩:=List.cons.inj e;obtain ⟨e3,e4⟩:=Prod.mk.inj e1;obtain ⟨x,y⟩:=f;have hc:=h c (Zd ..);show RpF K H ((x,y)::fs) ((strOf c.k,frz c.m)::_);have e3':c.k=Sum.inr x:=e3;have e4':c.v=y:=e4;rw [e3',<- e4'];exact .cons hc (AG e2 λ c hc=>h c (Zc _ hc))
def Od.rp (h:Od K Hs H fp v m) (sm:bZ Hs H):Rp K H v (frz m):=by
 induction h with
 | s r=>exact r.same sm
 | @n a dx t ts u h hl nh ku nd r ih =>
  have ih':∀ c ∈ ts,Rp K H c.v (frz c.m):=λ c hc=>ih c hc
  generalize ek:ts.map Kd.kv=kvs at hl
  cases hl with
  | l=>exact .lst h (by rw [<- ek]; exact vo ih')
  | d=>exact .dct h (by rw [<- ek]; exact AF ih')
  | o fs=>exact .obj h (AG ek ih')
end
def vAt (H:Hp):V->List Stp->Option V
 | v,[]=>some v
 | .ref a,.k k::p=>match H a with
  | some (.ins _ _ fs)=>(cI (fs.map λ f=>((Sum.inr f.1:Key),f.2)) k).bind λ v=>vAt H v p
  | some (.dK kvs)=>(cI kvs k).bind λ v=>vAt H v p
  | _=>none
 | .ref a,.i n::p=>match H a with
  | some (.lst xs)=>(xs[n]?).bind λ v=>vAt H v p
  | _=>none
 | _,_=>none
def mw {α:Type}:∀ {cs:List (Key×α)} {i:Nat},(cs.findIdx? λ c=>decide (c.1=k))=some i->∃ l1 x l2,cs=l1++(k,x)::l2/\l1.length=i/\∀ c ∈ l1,c.1≠k
 | [],_,e=>by simp at e
 | (k',x)::cs,i,e=>by
  rw [List.findIdx?_cons] at e
  by_cases h:k'=k
  ·simp only [h,decide_true] at e
   have e':0=i:=by simpa using e
   subst h e';exact ⟨[],x,cs,rfl,rfl,λ c hc=>by cases hc⟩
  ·simp only [h,decide_false] at e
   obtain ⟨j,e1,rfl⟩:=Zm (by simpa using e);obtain ⟨l1,y,l2,e2,e3,e4⟩:=mw e1
   exact ⟨(k',x)::l1,y,l2,by rw [e2]; rfl,by rw [Zv,e3],λ c hc=>by
    rcases Zl.mp hc with rfl | hc
    · exact h
    · exact e4 c hc⟩
def ma:∀ {l1 l2:List (Key×V)},(∀ c ∈ l1,c.1≠k)->cI (l1++(k,x)::l2) k=some x
 | [],_,_=>b6 rfl
 | c::l1,l2,h=>by
  rw [List.cons_append,b7 (h c (Zd ..))];exact ma λ c hc=>h c (Zc _ hc)
def wO:∀ {l1 l2:List (Key×Mt)} {c:Key×Mt},ts.map Kd.km=l1++c::l2->∃ t1 t t2,ts=t1++t::t2/\t1.map Kd.km=l1/\t.km=c/\t2.map Kd.km=l2:=by
 intro l1 l2 c e;obtain ⟨t1,r,rfl,e1,e2⟩:=List.map_eq_append_iff.mp e;obtain ⟨t,t2,rfl,e3,e4⟩:=List.map_eq_cons_iff.mp e2;exact ⟨t1,t,t2,rfl,e1,e3,e4⟩
def sO {t:Tg} {dx a:Addr} {ts:List Kd} {u:HO} {st:Stp} {i:Nat} {c:Key×Mt} {H:Hp} (h:H a=some u) (hl:Lay t dx (ts.map Kd.kv) u) (e1:tF t (ts.map Kd.km) st=some i) (e2:(ts.map Kd.km)[i]?=some c) :
  ∃ t1 k t2,ts=t1++k::t2/\t1.length=i/\k.km=c/\∀ p,vAt H (.ref a) (st::p)=vAt H k.v p:=by
 have key:∀ {kk:Key},((ts.map Kd.km).findIdx? λ c=>decide (c.1=kk))=some i->∃ t1 k t2,ts=t1++k::t2/\t1.length=i/\k.km=c/\cI (ts.map Kd.kv) kk=some k.v:=λ {kk} e=>by
  obtain ⟨l1,x,l2,h1,h2,h3⟩:=mw e;obtain ⟨t1,k,t2,rfl,q1,q2,q3⟩:=wO h1;refine ⟨t1,k,t2,rfl,by rw [<- h2,<- q1,Za],?_,?_⟩
  ·rw [h1,<- h2,List.getElem?_append_right (Zs _),X1] at e2
   rw [q2];exact Zj e2
  ·rw [Zr,Zh]
   have hk:k.k=kk:=(Prod.mk.inj q2).1;rw [show k.kv=(kk,k.v) by rw [<- hk]]
   exact ma λ c hc=>by
    obtain ⟨y,hy,rfl⟩:=Z4.mp hc;exact h3 y.km (by rw [<- q1]; exact Yb hy)
 generalize ek:ts.map Kd.kv=kvs at hl
 cases hl with
 | l kvs' =>
  cases st with
  | k k=>cases e1
  | i n =>
   have lt:n < (ts.map Kd.km).length/\n=i:=by
    have e1':(if n < (ts.map Kd.km).length then some n else none)=some i:=e1;split at e1'
    · rename_i h; exact ⟨h,Zj e1'⟩
    · cases e1'
   obtain ⟨lt,rfl⟩:=lt;rw [Za] at lt;have ets:ts=ts.take n++ts[n]::ts.drop (n+1):=by rw [List.getElem_cons_drop,Xu]
   refine ⟨ts.take n,ts[n],ts.drop (n+1),ets,by rw [Yw]; omega,?_,λ p=>?_⟩
   ·rw [List.getElem?_map,List.getElem?_eq_getElem lt] at e2
    exact Zj e2
   ·show (match H a with | some (.lst xs)=>(xs[n]?).bind λ v=>vAt H v p | _=>none)=_
    rw [h];show (((kvs.map (·.2))[n]?).bind λ v=>vAt H v p)=_;rw [<- ek,List.getElem?_map,List.getElem?_map,List.getElem?_eq_getElem lt];rfl
 | d kvs' =>
  cases st with
  | i n=>cases e1
  | k kk =>
   obtain ⟨t1,k,t2,q1,q2,q3,q4⟩:=key e1;refine ⟨t1,k,t2,q1,q2,q3,λ p=>?_⟩;show (match H a with | some (.ins _ _ fs)=>(cI (fs.map λ (f:Str×V)=>((Sum.inr f.1:Key),f.2)) kk).bind λ v=>vAt H v p | some (.dK kvs)=>(cI kvs kk).bind λ v=>vAt H v p | _=>none)=_;rw [h];show ((cI kvs kk).bind λ v=>vAt H v p)=_;rw [<- ek,q4];rfl
 | o fs =>
  cases st with
  | i n=>cases e1
  | k kk =>
   obtain ⟨t1,k,t2,q1,q2,q3,q4⟩:=key e1;refine ⟨t1,k,t2,q1,q2,q3,λ p=>?_⟩;show (match H a with | some (.ins _ _ fs)=>(cI (fs.map λ (f:Str×V)=>((Sum.inr f.1:Key),f.2)) kk).bind λ v=>vAt H v p | some (.dK kvs)=>(cI kvs kk).bind λ v=>vAt H v p | _=>none)=_;rw [h];show ((cI (fs.map λ f=>((Sum.inr f.1:Key),f.2)) kk).bind λ v=>vAt H v p)=_;rw [<- ek,q4];rfl
def wG {α:Type} {a:α} {x y z:List α} (h:(a::(x++(y++z))).Nodup):a ∉ x/\a ∉ y/\a ∉ z/\(∀ b ∈ y,b ∉ x/\b ∉ z)/\x.Nodup/\z.Nodup/\(∀ b ∈ x,b ∉ z):=by
 rw [Zy,Yd,Yd] at h;simp only [Zi,not_or] at h;obtain ⟨⟨h1,h2,h3⟩,hx,⟨hy,hz,hyz⟩,hxyz⟩:=h;refine ⟨h1,h2,h3,λ b hb=>⟨λ hx'=>hxyz b hx' b (.inl hb) rfl,λ hz'=>hyz b hb b hz' rfl⟩,hx,hz,λ b hb hz'=>hxyz b hb b (.inr hz') rfl⟩
def mh {α:Type} {a:α} {x y z:List α} (h1:a ∉ x) (h2:a ∉ y) (h3:a ∉ z) (hy:y.Nodup) (hd:∀ b ∈ y,b ∉ x/\b ∉ z) (hx:x.Nodup) (hz:z.Nodup) (hxz:∀ b ∈ x,b ∉ z):(a::(x++(y++z))).Nodup:=by
 rw [Zy,Yd,Yd];simp only [Zi,not_or];exact ⟨⟨h1,h2,h3⟩,hx,⟨hy,hz,λ b hb c hc e=>(hd b hb).2 (e ▸ hc)⟩,λ b hb c hc e=>hc.elim (λ q=>(hd c q).1 (e ▸ hb)) λ q=>hxz b hb (e ▸ q)⟩
def KU.swap (h:KU t (t1++k::t2)) (e:k'.k=k.k):KU t (t1++k'::t2):=by
 cases t with
 | l=>exact h
 | d =>
  show ((t1++k'::t2).map Kd.k).Nodup;rw [Zr,Zh,e,<- Zh,<- Zr];exact h
 | o C =>
  show ((t1++k'::t2).map Kd.k).Nodup;rw [Zr,Zh,e,<- Zh,<- Zr];exact h
section
variable {K:W.Frag} {Hs H:Hp}
def Od.sX:∀ (p:List Stp) {fp:List Addr} {v:V} {m m1:Mt},Od K Hs H fp v m->m.get p=some m1->∃ fp1 v1,vAt H v p=some v1/\Od K Hs H fp1 v1 m1/\(∀ b ∈ fp1,b ∈ fp) /\
  ∀ Hs' H' fp2 m2,bZ Hs Hs'->(∀ b ∈ fp,b ∉ fp1->Hs' b=none/\H' b=H b)->Od K Hs' H' fp2 v1 m2->(∀ b ∈ fp2,b ∈ fp1\/b ∉ fp)->∃ fp',Od K Hs' H' fp' v (m.put p m2)/\∀ b,b ∈ fp'↔(b ∈ fp/\b ∉ fp1)\/b ∈ fp2
 | [],fp,v,m,m1,h,e=>by
  have e':m=m1:=by
   cases m <;> exact Zj e
  subst e';have ep:∀ m2,m.put [] m2=m2:=λ m2=>by cases m <;> rfl
  exact ⟨fp,v,by cases v <;> rfl,h,λ _ q=>q,λ Hs' H' fp2 m2 g k h2 j=>⟨fp2,by rw [ep]; exact h2,λ b=>⟨.inr,λ q=>q.elim (λ z=>absurd z.1 z.2) id⟩⟩⟩
 | st::p,fp,v,.s d,m1,h,e=>by cases e
 | st :: p,fp,v,.n t cs,m1,h,e=>by
  obtain ⟨a,dx,ts,u,rfl,rfl,rfl,ha,hl,nh,ku,nd,r⟩:=h.inv;have e':(match tF t (ts.map Kd.km) st with | none=>none | some i=>match (ts.map Kd.km)[i]? with | none=>none | some c=>Mt.get c.2 p)=some m1:=e
  cases e1:tF t (ts.map Kd.km) st with
  | none=>rw [e1] at e'; cases e'
  | some i =>
   rw [e1] at e'
   cases e2:(ts.map Kd.km)[i]? with
   | none=>simp only [e2] at e'; cases e'
   | some c =>
    simp only [e2] at e';obtain ⟨t1,k,t2,rfl,q2,q3,q4⟩:=sO ha hl e1 e2;subst q3;obtain ⟨fp1,v1,w1,w2,w3,w4⟩:=Od.sX p (r k (Ze _ (Zd ..))) e';rw [Yl,Ye] at nd;obtain ⟨n1,n2,n3,n4,n5,n6,n7⟩:=wG nd
    have mem:∀ b,b ∈ a::(t1++k::t2).flatMap Kd.fp↔b=a\/b ∈ t1.flatMap Kd.fp\/b ∈ k.fp\/b ∈ t2.flatMap Kd.fp:=λ b=>by
     rw [Yl,Ye,Zl,Zi,Zi]
    refine ⟨fp1,v1,by rw [q4]; exact w1,w2,λ b hb=>(mem b).mpr (.inr (.inr (.inl (w3 b hb)))),λ Hs' H' fp2 m2 g kk h2 j=>?_⟩;have j2:∀ b ∈ fp2,b ∈ fp1\/b ∉ k.fp:=λ b hb=>(j b hb).imp id λ z q=>z ((mem b).mpr (.inr (.inr (.inl q))))
    obtain ⟨fp',o',i'⟩:=w4 Hs' H' fp2 m2 g (λ b hb hn=>kk b ((mem b).mpr (.inr (.inr (.inl hb)))) hn) h2 j2;have a1:a ∉ fp1:=λ z=>n2 (w3 _ z)
    have off:∀ b,b ∈ fp'->b≠a/\b ∉ t1.flatMap Kd.fp/\b ∉ t2.flatMap Kd.fp:=λ b hb=>by
     rcases (i' b).mp hb with ⟨z1,_⟩ | z
     · exact ⟨λ e=>n2 (e ▸ z1),(n4 b z1).1,(n4 b z1).2⟩
     ·rcases j b z with z1 | z1
      ·have z2:=w3 b z1
       exact ⟨λ e=>n2 (e ▸ z2),(n4 b z2).1,(n4 b z2).2⟩
      · exact ⟨λ e=>z1 ((mem b).mpr (.inl e)),λ q=>z1 ((mem b).mpr (.inr (.inl q))),λ q=>z1 ((mem b).mpr (.inr (.inr (.inr q))))⟩
    let k':Kd:=⟨k.k,k.v,k.m.put p m2,fp'⟩
    have eput:(Mt.n t ((t1++k::t2).map Kd.km)).put (st::p) m2=.n t ((t1++k'::t2).map Kd.km):=by
     show (match tF t ((t1++k::t2).map Kd.km) st with | none=>Mt.n t ((t1++k::t2).map Kd.km) | some i=>match ((t1++k::t2).map Kd.km)[i]? with | none=>Mt.n t ((t1++k::t2).map Kd.km) | some c=>.n t (((t1++k::t2).map Kd.km).set i (c.1,Mt.put c.2 p m2)))=_;simp only [e1,e2];rw [Zr,Zh,<- q2,<- Za (f:=Kd.km),List.set_append_right _ _ (Zs _),X1,Zr,Zh];rfl
    have hkv:(t1++k'::t2).map Kd.kv=(t1++k::t2).map Kd.kv:=by rw [Zr,Zh,Zr,Zh]
    have qa:=kk a ((mem a).mpr (.inl rfl)) a1;refine ⟨a::(t1++k'::t2).flatMap Kd.fp,?_,λ b=>?_⟩
    ·rw [eput]
     refine .n (dx:=dx) (by rw [qa.2]; exact ha) (by rw [hkv]; exact hl) qa.1 (ku.swap rfl) ?_ λ c hc=>?_
     ·rw [Yl,Ye]
      exact mh n1 (λ z=>(off _ z).1 rfl) n3 o'.nd (λ b hb=>(off b hb).2) n5 n6 n7
     ·rcases Zi.mp hc with hc | hc
      · exact (r c (Zp _ hc)).mv g λ b hb=>kk b ((mem b).mpr (.inr (.inl (Yr.mpr ⟨c,hc,hb⟩)))) λ z=>(n4 b (w3 b z)).1 (Yr.mpr ⟨c,hc,hb⟩)
      ·rcases Zl.mp hc with rfl | hc
       · exact o'
       · exact (r c (Ze _ (Zc _ hc))).mv g λ b hb=>kk b ((mem b).mpr (.inr (.inr (.inr (Yr.mpr ⟨c,hc,hb⟩))))) λ z=>(n4 b (w3 b z)).2 (Yr.mpr ⟨c,hc,hb⟩)
    ·rw [Yl,Ye,Zl,Zi,Zi,mem b,i' b]
     constructor
     ·rintro (rfl | z | (⟨z1,z2⟩ | z) | z)
      · exact .inl ⟨.inl rfl,a1⟩
      · exact .inl ⟨.inr (.inl z),λ q=>(n4 b (w3 b q)).1 z⟩
      · exact .inl ⟨.inr (.inr (.inl z1)),z2⟩
      · exact .inr z
      · exact .inl ⟨.inr (.inr (.inr z)),λ q=>(n4 b (w3 b q)).2 z⟩
     ·rintro (⟨rfl | z | z | z,z2⟩ | z)
      · exact .inl rfl
      · exact .inr (.inl z)
      · exact .inr (.inr (.inl (.inl ⟨z,z2⟩)))
      · exact .inr (.inr (.inr z))
      · exact .inr (.inr (.inl (.inr z)))
end
inductive Sm where
 | no | shr (d:D) | mu (b:Bool) (m:Mt)
def EN:Sm->Sl
 | .no=>.no
 | .shr d=>.shr d
 | .mu _ m=>.shr (frz m)
def er1:Sm->Sl
 | .shr d=>.shr d
 | _=>.no
abbrev aY (τ:List Sm):List Sl:=τ.map EN
abbrev er (τ:List Sm):List Sl:=τ.map er1
inductive StM (K:W.Frag) (H0 Hs H:Hp):List (Option Addr)->List (Option V)->List Sm->List Addr->Prop where
 | nil:StM K H0 Hs H [] [] [] []
 | no {p:Option Addr} {o:Option V} {ρ:List (Option Addr)} {σ:List (Option V)} {τ:List Sm} {fp:List Addr} (r:StM K H0 Hs H ρ σ τ fp):StM K H0 Hs H (p::ρ) (o::σ) (.no::τ) fp
 | shr {p:Option Addr} {v:V} {d:D} {ρ:List (Option Addr)} {σ:List (Option V)} {τ:List Sm} {fp:List Addr} (h:Rp K Hs v d) (r:StM K H0 Hs H ρ σ τ fp):StM K H0 Hs H (p::ρ) (some v::σ) (.shr d::τ) fp
 | mu {p:Option Addr} {v:V} {b:Bool} {m:Mt} {ρ:List (Option Addr)} {σ:List (Option V)} {τ:List Sm} {fq fp:List Addr} (h:Od K Hs H fq v m) (hp:b=true->∃ a,p=some a/\v=.ref a) (z:∀ c ∈ fq,H0 c=none) (j:∀ c ∈ fq,c ∉ fp) (r:StM K H0 Hs H ρ σ τ fp):StM K H0 Hs H (p::ρ) (some v::σ) (.mu b m::τ) (fq++fp)
section
variable {K:W.Frag} {H0 Hs H Hs' H':Hp} {ρ:List (Option Addr)} {σ:List (Option V)} {τ:List Sm} {fp:List Addr}
def StM.mv (h:StM K H0 Hs H ρ σ τ fp) (g:bZ Hs Hs'):(∀ b ∈ fp,Hs' b=none/\H' b=H b)->StM K H0 Hs' H' ρ σ τ fp:=by
 induction h with
 | nil=>exact λ _=>.nil
 | no _ ih=>exact λ q=>.no (ih q)
 | shr h _ ih=>exact λ q=>.shr (h.same g) (ih q)
 | mu h hp z j _ ih=>exact λ q=>.mu (h.mv g λ b hb=>q b (Zp _ hb)) hp z j (ih λ b hb=>q b (Ze _ hb))
def StM.live (h:StM K H0 Hs H ρ σ τ fp):∀ b ∈ fp,Hs b=none/\H b≠none/\H0 b=none:=by
 induction h with
 | nil=>intro b h; cases h
 | no _ ih=>exact ih
 | shr _ _ ih=>exact ih
 | mu h hp z j _ ih =>
  intro b hb;rcases Zi.mp hb with q | q
  · exact ⟨(h.live b q).1,(h.live b q).2,z b q⟩
  · exact ih b q
def StM.ext (g:Ext Hs H Hs' H') (h:StM K H0 Hs H ρ σ τ fp):StM K H0 Hs' H' ρ σ τ fp:=h.mv g.ss λ b hb=>by
 obtain ⟨h1,h2,_⟩:=h.live b hb;refine ⟨g.fr b h1 h2,?_⟩
 cases q:H b with
 | none=>exact absurd q h2
 | some u=>exact g.hh _ _ q
def StM.len (h:StM K H0 Hs H ρ σ τ fp):σ.length=τ.length:=by
 induction h with
 | nil=>rfl
 | no _ ih=>exact Yh (·+1) ih
 | shr _ _ ih=>exact Yh (·+1) ih
 | mu _ _ _ _ _ ih=>exact Yh (·+1) ih
def StM.aY (h:StM K H0 Hs H ρ σ τ fp) (sm:bZ Hs H):StR K H H H σ (aY τ) []:=by
 induction h with
 | nil=>exact .nil
 | no _ ih=>exact .no ih
 | shr h _ ih=>exact .shr (h.same sm) ih
 | mu h _ _ _ _ ih=>exact .shr (h.rp sm) ih
def StM.er (h:StM K H0 Hs H ρ σ τ fp):StR K H0 Hs H σ (er τ) []:=by
 induction h with
 | nil=>exact .nil
 | no _ ih=>exact .no ih
 | shr h _ ih=>exact .shr h ih
 | mu h _ _ _ _ ih=>exact .no ih
def StM.sX (h:StM K H0 Hs H ρ σ τ fp):τ[i]?=some (.mu b m)->m.get q=some m1->∃ v fp1 v1,σ[i]?=some (some v)/\vAt H v q=some v1/\Od K Hs H fp1 v1 m1/\(∀ c ∈ fp1,c ∈ fp) /\
  ∀ Hs' H' fp2 m2,bZ Hs Hs'->(∀ c ∈ fp,c ∉ fp1->Hs' c=none/\H' c=H c)->Od K Hs' H' fp2 v1 m2->(∀ c ∈ fp2,c ∈ fp1\/(c ∉ fp/\H0 c=none))->∃ fp',StM K H0 Hs' H' ρ σ (τ.set i (.mu b (m.put q m2))) fp'/\∀ c,c ∈ fp'↔(c ∈ fp/\c ∉ fp1)\/c ∈ fp2:=by
 induction h generalizing i with
 | nil=>intro e; simp at e
 | no r ih =>
  intro e eg
  cases i with
  | zero=>simp at e
  | succ i =>
   obtain ⟨v,fp1,v1,h1,h2,h3,h4,h5⟩:=ih (i:=i) (by simpa using e) eg
   exact ⟨v,fp1,v1,by simpa using h1,h2,h3,h4,λ Hs' H' fp2 m2 g k o j=>by
    obtain ⟨fp',s,mem⟩:=h5 Hs' H' fp2 m2 g k o j
    exact ⟨fp',.no s,mem⟩⟩
 | shr hr r ih =>
  intro e eg
  cases i with
  | zero=>simp at e
  | succ i =>
   obtain ⟨v,fp1,v1,h1,h2,h3,h4,h5⟩:=ih (i:=i) (by simpa using e) eg
   exact ⟨v,fp1,v1,by simpa using h1,h2,h3,h4,λ Hs' H' fp2 m2 g k o j=>by
    obtain ⟨fp',s,mem⟩:=h5 Hs' H' fp2 m2 g k o j
    exact ⟨fp',.shr (hr.same g) s,mem⟩⟩
 | @mu p v b' m' ρ σ τ fq fp ho hp z j r ih =>
  intro e eg
  cases i with
  | zero =>
   have e':Sm.mu b' m'=.mu b m:=by simpa using e
   injection e' with e1 e2
   subst e1 e2;obtain ⟨fp1,v1,w1,w2,w3,w4⟩:=ho.sX q eg;refine ⟨v,fp1,v1,rfl,w1,w2,λ c hc=>Zp _ (w3 c hc),λ Hs' H' fp2 m2 g k o jj=>?_⟩;obtain ⟨fp',o',i'⟩:=w4 Hs' H' fp2 m2 g (λ c hc hn=>k c (Zp _ hc) hn) o λ c hc=>(jj c hc).imp id λ y q=>y.1 (Zp _ q)
   refine ⟨fp'++fp,.mu o' hp (λ c hc=>?_) (λ c hc=>?_) (r.mv g λ c hc=>k c (Ze _ hc) λ y=>j c (w3 c y) hc),λ c=>?_⟩
   ·rcases (i' c).mp hc with y | y
    · exact z c y.1
    ·rcases jj c y with y | y
     · exact z c (w3 c y)
     · exact y.2
   ·rcases (i' c).mp hc with y | y
    · exact j c y.1
    ·rcases jj c y with y | y
     · exact j c (w3 c y)
     · exact λ q=>y.1 (Ze _ q)
   ·rw [Zi,Zi,i' c]
    constructor
    ·rintro ((y | y) | y)
     · exact .inl ⟨.inl y.1,y.2⟩
     · exact .inr y
     · exact .inl ⟨.inr y,λ q=>j c (w3 c q) y⟩
    ·rintro (⟨y | y,y2⟩ | y)
     · exact .inl (.inl ⟨y,y2⟩)
     · exact .inr y
     · exact .inl (.inr y)
  | succ i =>
   obtain ⟨v',fp1,v1,h1,h2,h3,h4,h5⟩:=ih (i:=i) (by simpa using e) eg;refine ⟨v',fp1,v1,by simpa using h1,h2,h3,λ c hc=>Ze _ (h4 c hc),λ Hs' H' fp2 m2 g k o jj=>?_⟩;obtain ⟨fp',s,mem⟩:=h5 Hs' H' fp2 m2 g (λ c hc hn=>k c (Ze _ hc) hn) o λ c hc=>(jj c hc).imp id λ y=>⟨λ q=>y.1 (Ze _ q),y.2⟩
   have nf:∀ c ∈ fq,c ∉ fp1:=λ c hc q=>j c hc (h4 c q)
   refine ⟨fq++fp',.mu (ho.mv g λ c hc=>k c (Zp _ hc) (nf c hc)) hp z (λ c hc q=>?_) s,λ c=>?_⟩
   ·rcases (mem c).mp q with y | y
    · exact j c hc y.1
    ·rcases jj c y with y | y
     · exact nf c hc y
     · exact y.1 (Zp _ hc)
   ·rw [Zi,Zi,mem c]
    constructor
    ·rintro (y | y | y)
     · exact .inl ⟨.inl y,nf c y⟩
     · exact .inl ⟨.inr y.1,y.2⟩
     · exact .inr y
    ·rintro (⟨y | y,y2⟩ | y)
     · exact .inl y
     · exact .inr (.inl ⟨y,y2⟩)
     · exact .inr (.inr y)
def StM.N9 (i:Nat) (h:StM K H0 Hs H ρ σ τ fp):∃ fp',StM K H0 Hs H ρ σ (τ.set i .no) fp'/\∀ c ∈ fp',c ∈ fp:=by
 induction h generalizing i with
 | nil=>exact ⟨[],.nil,λ _ h=>h⟩
 | no r ih =>
  cases i with
  | zero=>exact ⟨_,.no r,λ _ h=>h⟩
  | succ i=>obtain ⟨fp',h1,h2⟩:=ih i; exact ⟨fp',.no h1,h2⟩
 | shr h r ih =>
  cases i with
  | zero=>exact ⟨_,.no r,λ _ h=>h⟩
  | succ i=>obtain ⟨fp',h1,h2⟩:=ih i; exact ⟨fp',.shr h h1,h2⟩
 | mu h hp z j r ih =>
  cases i with
  | zero=>exact ⟨_,.no r,λ _ h=>Ze _ h⟩
  | succ i =>
   obtain ⟨fp',h1,h2⟩:=ih i;exact ⟨_,.mu h hp z (λ c hc q=>j c hc (h2 c q)) h1,λ c hc=>(Zi.mp hc).elim (Zp _) λ q=>Ze _ (h2 c q)⟩
def StM.out (h:StM K H0 Hs H ρ σ τ fp):τ[i]?=some (.mu b m)->∃ v fq fp',σ[i]?=some (some v)/\Od K Hs H fq v m/\StM K H0 Hs H ρ σ (τ.set i .no) fp'/\(∀ c ∈ fq,c ∉ fp'/\c ∈ fp)/\(∀ c,c ∈ fp↔c ∈ fq\/c ∈ fp'):=by
 induction h generalizing i with
 | nil=>intro e; simp at e
 | no r ih =>
  intro e
  cases i with
  | zero=>simp at e
  | succ i =>
   obtain ⟨v,fq,fp',h1,h2,h3,h4,h5⟩:=ih (i:=i) (by simpa using e);exact ⟨v,fq,fp',by simpa using h1,h2,.no h3,h4,h5⟩
 | shr hr r ih =>
  intro e
  cases i with
  | zero=>simp at e
  | succ i =>
   obtain ⟨v,fq,fp',h1,h2,h3,h4,h5⟩:=ih (i:=i) (by simpa using e);exact ⟨v,fq,fp',by simpa using h1,h2,.shr hr h3,h4,h5⟩
 | @mu p v b' m' ρ σ τ fq fp ho hp z j r ih =>
  intro e
  cases i with
  | zero =>
   have e':Sm.mu b' m'=.mu b m:=by simpa using e
   injection e' with e1 e2
   subst e1 e2;exact ⟨v,fq,fp,rfl,ho,.no r,λ c hc=>⟨j c hc,Zp _ hc⟩,λ c=>Zi⟩
  | succ i =>
   obtain ⟨v',fq',fp',h1,h2,h3,h4,h5⟩:=ih (i:=i) (by simpa using e);refine ⟨v',fq',fq++fp',by simpa using h1,h2,.mu ho hp z (λ c hc q=>j c hc ((h5 c).mpr (.inr q))) h3,λ c hc=>⟨λ q=>?_,Ze _ (h4 c hc).2⟩,λ c=>?_⟩
   ·rcases Zi.mp q with q | q
    · exact j c q (h4 c hc).2
    · exact (h4 c hc).1 q
   ·rw [Zi,Zi,h5 c]
    constructor
    ·rintro (y | y | y)
     · exact .inr (.inl y)
     · exact .inl y
     · exact .inr (.inr y)
    ·rintro (y | y | y)
     · exact .inr (.inl y)
     · exact .inl y
     · exact .inr (.inr y)
def StM.u9 (h:StM K H0 Hs H ρ σ τ fp) (hv:Rp K Hs v d):∃ fp',StM K H0 Hs H ρ (σ.set i (some v)) (τ.set i (.shr d)) fp'/\∀ c ∈ fp',c ∈ fp:=by
 induction h generalizing i with
 | nil=>exact ⟨[],.nil,λ _ h=>h⟩
 | no r ih =>
  cases i with
  | zero=>exact ⟨_,.shr hv r,λ _ h=>h⟩
  | succ i=>obtain ⟨fp',h1,h2⟩:=ih (i:=i); exact ⟨fp',.no h1,h2⟩
 | shr h r ih =>
  cases i with
  | zero=>exact ⟨_,.shr hv r,λ _ h=>h⟩
  | succ i=>obtain ⟨fp',h1,h2⟩:=ih (i:=i); exact ⟨fp',.shr h h1,h2⟩
 | mu h hp z j r ih =>
  cases i with
  | zero=>exact ⟨_,.shr hv r,λ _ h=>Ze _ h⟩
  | succ i =>
   obtain ⟨fp',h1,h2⟩:=ih (i:=i);exact ⟨_,.mu h hp z (λ c hc q=>j c hc (h2 c q)) h1,λ c hc=>(Zi.mp hc).elim (Zp _) λ q=>Ze _ (h2 c q)⟩
def StM.setM (h:StM K H0 Hs H ρ σ τ fp) (hv:Od K Hs H fq v m) (z:∀ c ∈ fq,H0 c=none/\c ∉ fp) (hi:i < τ.length):∃ fp',StM K H0 Hs H ρ (σ.set i (some v)) (τ.set i (.mu false m)) fp'/\∀ c ∈ fp',c ∈ fq\/c ∈ fp:=by
 induction h generalizing i with
 | nil=>exact absurd hi (by simp)
 | no r ih =>
  cases i with
  | zero=>exact ⟨_,.mu hv (λ e=>by cases e) (λ c hc=>(z c hc).1) (λ c hc=>(z c hc).2) r,λ c h=>Zi.mp h⟩
  | succ i=>obtain ⟨fp',h1,h2⟩:=ih (i:=i) z (by simpa using hi); exact ⟨fp',.no h1,h2⟩
 | shr h r ih =>
  cases i with
  | zero=>exact ⟨_,.mu hv (λ e=>by cases e) (λ c hc=>(z c hc).1) (λ c hc=>(z c hc).2) r,λ c h=>Zi.mp h⟩
  | succ i=>obtain ⟨fp',h1,h2⟩:=ih (i:=i) z (by simpa using hi); exact ⟨fp',.shr h h1,h2⟩
 | @mu p v' b' m' ρ σ τ fq' fp h hp z' j r ih =>
  have zr:∀ c ∈ fq,H0 c=none/\c ∉ fp:=λ c hc=>⟨(z c hc).1,λ q=>(z c hc).2 (Ze _ q)⟩
  cases i with
  | zero=>exact ⟨_,.mu hv (λ e=>by cases e) (λ c hc=>(z c hc).1) (λ c hc=>(zr c hc).2) r,λ c h=>(Zi.mp h).imp id λ q=>Ze _ q⟩
  | succ i =>
   obtain ⟨fp',h1,h2⟩:=ih (i:=i) zr (by simpa using hi);refine ⟨_,.mu h hp z' (λ c hc q=>?_) h1,λ c hc=>?_⟩
   ·rcases h2 c q with y | y
    · exact (z c y).2 (Zp _ hc)
    · exact j c hc y
   ·rcases Zi.mp hc with y | y
    · exact .inr (Zp _ y)
    · exact (h2 c y).imp id λ q=>Ze _ q
end
structure bA (K:W.Frag) (Hs0 H0:Hp) (ρ:List (Option Addr)) (Hs H:Hp) (σ:St) (τ:List Sm):Prop where
 ext:Ext Hs0 H0 Hs H
 st:∃ fp,StM K H0 Hs H ρ σ τ fp
section
variable {K:W.Frag} {Hs0 H0 Hs H Hs' H':Hp} {ρ:List (Option Addr)} {σ:St} {τ:List Sm}
def bA.ext' (r:bA K Hs0 H0 ρ Hs H σ τ) (g:Ext Hs H Hs' H'):bA K Hs0 H0 ρ Hs' H' σ τ:=by
 obtain ⟨fp,h⟩:=r.st;refine ⟨⟨r.ext.ss.trans g.ss,g.sh,r.ext.hh.trans g.hh,λ b h1 h2=>g.fr b (r.ext.fr b h1 h2) (r.ext.hh.live h2)⟩,fp,h.ext g⟩
def bA.grow (r:bA K Hs0 H0 ρ Hs H σ τ) (g:bZ H H'):bA K Hs0 H0 ρ Hs H' σ τ:=r.ext' ⟨.refl _,r.ext.sh.trans g,g,λ _ h _=>h⟩
def bA.sm (r:bA K Hs0 H0 ρ Hs H σ τ):bZ Hs H:=r.ext.sh
end
def Nf (N H0:Hp):Prop:=∀ d o u,N d=some (.frz o u)->H0 d≠none
def Nf.upd (h:Nf N H0):Nf N (upd H0 p u):=λ d o w e=>by
 by_cases z:d=p
 · rw [z,aq]; simp
 · rw [aj z]; exact h d o w e
inductive pM where
 | next (τ:List Sm) | ret (s:Sm) (τ:List Sm) | brk (τ:List Sm) | cnt (τ:List Sm)
abbrev DSm:=List Sm->Option pM
abbrev DEm:=List Sm->Option (Sm×List Sm)
abbrev DTm:=List Sm->Option (Bool×List Sm)
abbrev DPx:=List Sm->Option (Nat×List Stp)
def Il (K:W.Frag) (Hs0 H0:Hp) (ρ:List (Option Addr)) (E:Ends):pM->Prop
 | .next τ=>∀ σ Hs H,bA K Hs0 H0 ρ Hs H σ τ->E.nx σ H
 | .brk τ=>∀ σ Hs H,bA K Hs0 H0 ρ Hs H σ τ->E.bk σ H
 | .cnt τ=>∀ σ Hs H,bA K Hs0 H0 ρ Hs H σ τ->E.ct σ H
 | .ret s τ=>∀ v σ Hs H,bA K Hs0 H0 (none::ρ) Hs H (some v::σ) (s::τ)->E.rt v H
def LG (N:Hp) (K:W.Frag) (f:DSm):TS:=λ E σ H=>∃ (Hs0 H0:Hp),∃ (_:Nf N H0),∃ ρ Hs τ o,bA K Hs0 H0 ρ Hs H σ τ/\f τ=some o/\Il K Hs0 H0 ρ E o
def M8 (N:Hp) (K:W.Frag) (f:DEm):TE:=λ σ H Q=>∃ (Hs0 H0:Hp),∃ (_:Nf N H0),∃ ρ Hs τ s τ',bA K Hs0 H0 ρ Hs H σ τ/\f τ=some (s,τ')/\∀ v Hs' H',bA K Hs0 H0 (none::ρ) Hs' H' (some v::σ) (s::τ')->Q v H'
def M5 (N:Hp) (K:W.Frag) (f:DTm):TT:=λ σ H Q=>∃ (Hs0 H0:Hp),∃ (_:Nf N H0),∃ ρ Hs τ b τ',bA K Hs0 H0 ρ Hs H σ τ/\f τ=some (b,τ')/\∀ Hs' H',bA K Hs0 H0 ρ Hs' H' σ τ'->Q b H'
def PSm (X:Cx) (s:Stmt) (f:DSm):Prop:=PS X s (LG X.H₀ X.K f)
def l8 (X:Cx) (s:List Stmt) (f:DSm):Prop:=PSs X s (LG X.H₀ X.K f)
def PEm (X:Cx) (e:Expr) (f:DEm):Prop:=PE X e (M8 X.H₀ X.K f)
def PTm (X:Cx) (e:Expr) (f:DTm):Prop:=PT X e (M5 X.H₀ X.K f)
def aO (τ:List Sm) (i:Nat) (q:List Stp):Option Mt:=match τ[i]? with
 | some (.mu _ m)=>m.get q
 | _=>none
def cJ (τ:List Sm) (i:Nat) (q:List Stp) (m2:Mt):List Sm:=match τ[i]? with
 | some (.mu b m)=>τ.set i (.mu b (m.put q m2))
 | _=>τ
def rdX (N:Hp) (K:W.Frag) (f:DPx):TE:=λ σ H Q=>∃ (Hs0 H0:Hp),∃ (_:Nf N H0),∃ ρ Hs τ i q m,bA K Hs0 H0 ρ Hs H σ τ/\f τ=some (i,q)/\aO τ i q=some m/\∀ v v1 H',bZ H H'->σ[i]?=some (some v)->vAt H' v q=some v1->Q v1 H'
def PXm (X:Cx) (e:Expr) (f:DPx):Prop:=PE X e (rdX X.H₀ X.K f)
section
variable {X:Cx} {pins:List (Addr×Obj)} {σ:St} {H:Hp} {s:Shared} {h':Heap}
def Inv.Bk {t':Nat} {wr:List Addr} {T:Addr} {xs:List V} (I:Inv X pins σ H s) (hw:∀ b ∈ wr,uA X pins H b) (k:∀ b o,b ∉ wr->s.heap.get? b=some o->h'.get? b=some o)
  (hT:s.heap.objs.size<=T) (new:cu X.prog X.w (upd H T (.tup xs)) h' T (.tup xs)):Inv X pins σ (upd H T (.tup xs)) { s with heap:=h',toks:=t' }:=by
 have hn:=I.hok.fresh hT;have neT:∀ b u,H b=some u->b≠T:=λ b u e z=>by rw [z,hn] at e; cases e
 have neS:∀ b o,s.heap.get? b=some o->b≠T:=λ b o e z=>by
  have:=Zt e;rw [z] at this;exact absurd (Z1 this hT) (Yj _)
 have nw:∀ b u,H b=some u->b ∉ wr:=λ b u e z=>by rw [(hw b z).1] at e; cases e
 refine I.step (λ b hb=>?_) (λ b o _ _ hc e _=>k b o hc e) (λ b o _ _ hc e _=>⟨o.slots,k b o hc e⟩) (λ b o _ e n=>by rw [aj (neS b o e)]; exact n)
  (λ b o hc e=>⟨o,k b o hc e⟩) (λ b ys e=>by rw [aj (neT b _ e)]; exact e) (λ b o u e=>by rw [aj (neT b _ e)]; exact e) (λ b ps e=>⟨#[],by rw [aj (neT b _ e),e]; simp⟩) (λ m hm=>?_) (λ b u e=>?_) I.bare
 ·obtain ⟨f0,f1,f2,f3,f4,f5⟩:=hw b hb
  exact ⟨f3,f1,f4,f5⟩
 ·obtain ⟨o,es,ep,ho,r⟩:=hm
  exact ⟨o,es,ep,k _ o (λ z=>(hw _ z).2.1 rfl) ho,r⟩
 ·by_cases hb:b=T
  ·subst hb
   rw [aq] at e;cases e;exact new
  ·rw [aj hb] at e
   refine (I.hok b u e).ym (λ c v hc q=>k c v ?_ q) (λ c q=>by rw [aj (neT c _ q)]; exact q) λ c ys q=>by rw [aj (neT c _ q)]; exact q
   rcases hc with z | z
   · rw [z]; exact nw b u e
   · exact nw c _ z
end
structure Bx (p:Prop):Prop where
 out:p
def Ite (K:W.Frag) (l:Addr):It where
 go:=λ i H=>∃ xs x,SqL K H l xs/\xs[i]?=some x
 yld:=λ i H v H'=>∃ T x,v=.ref T/\H T=none/\H'=upd H T (.tup [.int (i:Int),x])/\∀ xs,SqL K H l xs->xs[i]?=some x
 stop:=λ i H=>∃ xs,SqL K H l xs/\xs.length<=i
def ESt (e it l:Addr) (i:Nat) (h:Heap):Prop:=(∃ old,IsEnum h e it ((i:Nat):Int) old)/\h.IsListIter it l i
def uM {P:Program} {w:World} {K:W.Frag} {elts:List Expr} {k:Nat} {pos:Pos} {e it l:Addr} (ne:e≠it) :
  Turn P w K (.Tuple elts k pos) (Ite K l) [e,it] e (ESt e it l) where
 mem:=by simp
 obj:=λ i h st b hb=>by
  obtain ⟨⟨old,s1⟩,⟨o4,e4,c4,d4⟩⟩:=st;simp only [Zl,Xm,or_false] at hb;rcases hb with rfl | rfl
  · exact ⟨_,s1,λ v z=>by cases z⟩
  · exact ⟨o4,e4,λ v z=>by rw [d4] at z; cases z⟩
 keep:=λ i h h' st k=>by
  obtain ⟨⟨old,s1⟩,s4⟩:=st;exact ⟨⟨old,k _ (by simp) _ s1⟩,s4.at λ o e=>k _ (by simp) o e⟩
 item:=by
  intro X hP hw hK hc i pins s σ H E I hf st hg;subst hP hw hK;obtain ⟨xs,x,hq,hx⟩:=hg;obtain ⟨its,rv,p,hz⟩:=I.list hq;obtain ⟨u,hu,ru⟩:=rv.get hx;obtain ⟨⟨old,s1⟩,s4⟩:=st;refine wpAny_pyNext_enum_item s1 s4 p.isList (by simpa using hu) ne λ h' a1 a2 a3 a4 hk=>?_
  have hk':∀ b o,b ∉ [e,it]->s.heap.get? b=some o->h'.get? b=some o:=λ b o hb e'=>hk b o (λ q=>hb (by simp [q])) (λ q=>hb (by simp [q])) e'
  have I1:Inv X pins σ (upd H s.heap.objs.size (.tup [.int (i:Int),x])) { s with heap:=h',toks:=s.toks+1 }:=I.Bk hf hk' (Zs _) ⟨by show 2<=sizeLine; decide,[.int i s.toks,u],.cons ⟨_,rfl⟩ (.cons ru .nil),_,a3,rfl,_,rfl⟩;have hn:=I.hok.fresh (Zs _);refine ⟨.ref s.heap.objs.size,rfl,wpAny_letOwnedTupleGo_enum a1 λ h2 hz2 sb=>?_⟩
  have neT:∀ b ∈ [e,it],b≠s.heap.objs.size:=λ b hb q=>by
   have lt:∃ o,s.heap.get? b=some o:=by
    obtain ⟨o4,e4,_⟩:=s4;simp only [Zl,Xm,or_false] at hb;rcases hb with rfl | rfl
    · exact ⟨_,s1⟩
    · exact ⟨_,e4⟩
   obtain ⟨o,e'⟩:=lt;rw [q] at e';exact absurd (Zt e') (Yj _)
  obtain ⟨f0,f1,f2,f3,f4,f5⟩:=hf e (by simp);have I2:=I1.turned (t':=s.toks+1) (λ b o hb e'=>(sb.2 b hb).trans e') (by rw [aj (neT e (by simp))]; exact f0) f1 f3 f4 f5;refine ⟨.ref s.heap.objs.size,_,I2,rfl,⟨s.heap.objs.size,x,rfl,hn,rfl,λ zs hz=>by rw [I.rS hz hq]; exact hx⟩,?_,λ b hb=>by rw [aj (neT b hb)]; exact (hf b hb).1⟩;exact ⟨⟨_,hz2⟩,a2.extBut sb.extBut (Ne.symm ne)⟩
 done:=by
  intro X hP hw hK hc i pins s σ H E I hf st hg;subst hP hw hK;obtain ⟨xs,hq,hx⟩:=hg;obtain ⟨its,rv,p,hz⟩:=I.list hq;obtain ⟨⟨old,s1⟩,s4⟩:=st;have l1:=rv.length;refine wpAny_pyNext_enum_end (I.ok.hd hc) s1 s4 p.isList (by simp; omega) λ h' eb=>⟨rfl,?_⟩
  obtain ⟨f0,f1,f2,f3,f4,f5⟩:=hf it (by simp);exact I.turned (λ b o hb e=>eb b o hb e) f0 f1 f3 f4 f5
 self:=λ _ _ _ _ _ st h=>by
  obtain ⟨⟨old,s1⟩,s4⟩:=st;exact wpAny_pyIter_enum s1 h
def ye:bootBuiltins "enumerate"=some (.type "enumerate"):=by rfl
def Lb (K:W.Frag) (ta:TA):TI:=λ σ H R=>ta σ H λ vs H1=>∃ l xs,vs=[.ref l]/\SqL K H1 l xs/\R (Ite K l) H1
def Cv {X:Cx} {a:Expr} {ta:TA} {elts:List Expr} {k:Nat} {pt p pos:Pos} (hg:Gl X "enumerate") (hm:X.mg "enumerate"=none) (ha:PA X [a] ta) (hs:starEach [a] X.env=[(false,eval a X.env)]:=by rfl) :
  PI X (.Tuple elts k pt) (.Call (.Name "enumerate" p) [a] [] pos) (Lb X.K ta):=by
 intro pins s σ H R I h;refine Call_ (iV I hg hm ye (Yg (thn (ha pos pins s σ H _ I h) λ us s1 ⟨vs,H1,I1,r1,q1⟩=>?_) (by rw [hs]; rfl) (by rfl)));obtain ⟨l,xs,e,q1,q⟩:=q1;subst e
 cases r1 with
 | cons r rr =>
  cases rr;cases r;obtain ⟨its1,rv1,p1,hz1⟩:=I1.list q1;refine call_enumerate_list p1.isList λ h' hE hI hsz hk=>?_
  refine wpAny_pyIter_enum hE ?_
  refine ⟨_,[s1.heap.objs.size+1,s1.heap.objs.size],_,_,H1,rfl,I1.kept hk,uM (Nat.succ_ne_self _),⟨⟨_,hE⟩,hI⟩,λ b hb=>?_,q⟩
  have hb':s1.heap.objs.size<=b:=by
   simp only [Zl,Xm,or_false] at hb;rcases hb with rfl | rfl
   · exact Nat.le_add_right _ 1
   · exact Zs _
  exact I1.yn hb' (I1.hok.fresh hb')
def jy (ds:List D):List D:=ds.mapIdx λ i d=>D.tup [.int (i:Int),d]
def rZ {K:W.Frag} {a:Addr} {xs:List V} {Hs:Hp} {as:List D} (h1:SqL K Hs a xs) (r1:Rps K Hs xs as):ItR K (Ite K a) Hs (jy as):=λ Hs1 H g1 g2=>by
 have hq1:=g2.seq (g1.seq h1);have l1:=r1.length;refine ⟨λ i d e=>?_,λ i hi=>⟨xs,hq1,?_⟩⟩
 ·unfold jy at e
  rw [List.getElem?_mapIdx] at e;obtain ⟨p,ea,ed⟩:=Zm e;obtain ⟨x,hx,rx⟩:=r1.get ea;subst ed;refine ⟨⟨xs,x,hq1,hx⟩,λ v H' ⟨T,vx,e1,hn,e2,f1⟩=>?_⟩;subst e1 e2;have ex:=f1 xs hq1;rw [hx] at ex;cases ex;have g:=Ext.new g2 hn (.tup [.int (i:Int),x]);exact ⟨_,g,.tup (SqT.of aq) (.cons (.int _) (.cons ((rx.same g1).same g.ss) .nil))⟩
 ·have hl:(jy as).length=as.length:=by simp [jy]
  omega
def sj (f:DA):DI:=λ τ=>(f τ).bind λ ds=>match ds with | [.lst as]=>some (jy as) | [.fz as]=>some (jy as) | _=>none
def zm (hg:Gl X "enumerate") (hm:X.mg "enumerate"=none) (ha:PAd X [a] f) (hs:starEach [a] X.env=[(false,eval a X.env)]:=by rfl) :
   PId X (.Tuple elts k pt) (.Call (.Name "enumerate" p) [a] [] pos) (sj f) :=
 (Cv hg hm ha hs).imp λ σ H R ⟨H0,Hs,τ,fp,ds,st,sm,e,k⟩=>by
   obtain ⟨x,e1,e2⟩:=bind_some e;refine ⟨H0,Hs,τ,fp,x,st,sm,e1,λ v Hs' H' g r=>?_⟩
   match x,r,e2 with
   | [y],.cons hy .nil,e2 =>
    cases hy with
    | @lst a1 xs1 ds1 h1 r1 =>
     have e':=Zj e2;subst e';exact ⟨a1,xs1,rfl,SqL.of (g.sh _ _ h1),k _ Hs' H' g (rZ (SqL.of h1) r1)⟩
    | @fz a1 xs1 ds1 h1 r1 =>
     have e':jy ds1=ds:=Zj e2;subst e';exact ⟨a1,xs1,rfl,g.sh.seq h1,k _ Hs' H' g (rZ h1 r1)⟩
    | _=>exact nn e2
   | [],_,e2=>simp at e2
   | _::_::_,_,e2=>simp at e2
section
variable {X:Cx} {a b e o:Expr} {es:List Expr} {pos apos cpos:Pos} {f g:DE}
def EO:SlR X (λ x lo hi H Q=>∃ z,x=.str z/\z.length<=sizeLine/\Q (.str (Txt.slice z lo hi)) H):=by
 intro pins s σ H x v vl vu lo hi sl Q I rx hs pl pu h;obtain ⟨z,rfl,hz,q⟩:=h;obtain ⟨t,rfl⟩:=rx;have fin:∀ t' k,EP X pins σ Q (.str (Txt.slice z lo hi) t') { s with toks:=k }:=λ t' k=>⟨.str _,H,I.tok k,⟨_,rfl⟩,q⟩
 refine ⟨"str",_,PySem.F.slot_str_getitem.lookup,typeIs_str s z t,?_⟩
 cases pl with
 | none=>cases pu with
  | none=>exact Xo (l:=none) (u:=none) (st:=none) hs rfl (post_val_or_str ⟨Z2 (X2 z _ _) hz,fin⟩)
  | int j t2=>exact Xo (l:=none) (u:=some (j,t2)) (st:=none) hs rfl (post_val_or_str ⟨Z2 (X2 z _ _) hz,fin⟩)
 | int i t1=>cases pu with
  | none=>exact Xo (l:=some (i,t1)) (u:=none) (st:=none) hs rfl (post_val_or_str ⟨Z2 (X2 z _ _) hz,fin⟩)
  | int j t2=>exact Xo (l:=some (i,t1)) (u:=some (j,t2)) (st:=none) hs rfl (post_val_or_str ⟨Z2 (X2 z _ _) hz,fin⟩)
def LN:D->Option Int->Option Int->Option D
 | .str z,l,u=>if z.length<=100000 then some (.str (Txt.slice z l u)) else none
 | _,_,_=>none
def Ii (f:DE) (l u:DO):DE:=λ τ=>(f τ).bind λ x=>(l τ).bind λ l'=>(u τ).bind λ u'=>LN x l' u'
def FG {lo hi:Option Expr} {p2:Pos} {l u:DO} (ha:PEd X a f) (hl:POd X lo l) (hh:POd X hi u):PEd X (.Subscript a (.Slice lo hi none p2) pos) (Ii f l u) :=
 (rB EO ha hl hh).imp λ σ H Q ⟨H0,Hs,τ,fp,d,st,sm,e,k⟩=>by
   obtain ⟨x,e1,e⟩:=bind_some e;obtain ⟨l',e2,e⟩:=bind_some e;obtain ⟨u',e3,e⟩:=bind_some e;refine ⟨H0,Hs,τ,fp,x,st,sm,e1,λ v Hs1 H1 g1 r1=>?_⟩;refine ⟨H0,Hs1,τ,fp,l',st.ext g1,g1.sh,e2,λ Hs2 H2 g2=>?_⟩;refine ⟨H0,Hs2,τ,fp,u',(st.ext g1).ext g2,g2.sh,e3,λ Hs3 H3 g3=>?_⟩
   cases r1 with
   | str z =>
    unfold LN at e;simp only at e;split at e
    ·rename_i hz
     have e':=Zj e;subst e';exact ⟨z,rfl,uE hz,k _ Hs3 H3 ((g1.trans g2).trans g3) (.str _)⟩
    · cases e
   | _=>exact nn e
def mS:List D->Option (List Str)
 | []=>some []
 | .str x::ds=>(mS ds).map (x::·)
 | _::_=>none
def kr:∀ {ds:List D} {ts:List Str},mS ds=some ts->ds=ts.map .str
 | [],ts,h=>by cases h; rfl
 | .str x::ds,ts,h=>by
  obtain ⟨us,e,rfl⟩:=Zm h;rw [kr e]; rfl
def Rps.jh {K:W.Frag} {H:Hp}:∀ {ts:List Str} {xs:List V},Rps K H xs (ts.map D.str)->xs=ts.map V.str
 | [],_,.nil=>rfl
 | x::ts,_,.cons h r=>by
  cases h;rw [Rps.jh r]; rfl
def xN (f g:DE):DE:=λ τ=>(f τ).bind λ x=>(g τ).bind λ y=>match x,y with
 | .str z,.lst ds=>(mS ds).bind λ ts=>if (ts.map (·.length)).sum+ts.length * z.length<=100000 then some (.str (Txt.join z ts)) else none
 | _,_=>none
def CH (ho:PEd X o f) (he:PEd X e g) (hbase:attributeBase o "join" X.env (eval o X.env)=eval o X.env:=by rfl)
   (hfew:((backTo cpos (starEach [e] X.env)).all (λ x=>!x.1)&&(backToKw cpos (keywordEach [] X.env)).all (λ x=>x.1.isSome)
     && decide ([e].length+([]:List Keyword).length+(if ([]:List Keyword).isEmpty then 0 else 1) < 30))=true:=by rfl)
   (hline:(apos.endLine == cpos.line)=true:=by rfl) (hst:starEach [e] X.env=(false,eval e X.env)::starEach [] X.env:=by rfl) (hplain:(backTo cpos (starEach [] X.env)).any (·.1)=false:=by rfl) :
   PEd X (.Call (.Attribute o "join" apos) [e] [] cpos) (xN f g) :=
 (tJ PySem.F.plainAttrs_str PySem.F.slot_str_join PySem.F.type_str_join Dl ho (cB he eL hst) hbase hfew hline hst hplain).imp λ σ H Q ⟨H0,Hs,τ,fp,d,st,sm,e,k⟩=>by
   obtain ⟨x,e1,e⟩:=bind_some e;obtain ⟨y,e2,e⟩:=bind_some e;refine ⟨H0,Hs,τ,fp,x,st,sm,e1,λ v Hs1 H1 g1 r1=>?_⟩
   cases r1 with
   | str z =>
     refine ⟨rfl,H0,Hs1,τ,fp,y,st.ext g1,g1.sh,e2,λ u Hs2 H2 g2 r2=>?_⟩
     cases r2 with
     | @lst p xs ds h r =>
      obtain ⟨ts,e3,e4⟩:=bind_some (e);have ed:=kr e3;subst ed;have ex:=r.jh;subst ex;split at e4
      ·rename_i hs
       have e':=Zj e4;subst e';exact ⟨z,p,ts,rfl,rfl,SqL.of (g2.sh _ _ h),Z2 hs (by decide),k _ Hs2 H2 (g1.trans g2) (.str _)⟩
      · cases e4
     | _=>exact nn e
   | _=>cases y <;> exact nn e
end
end L2
end
section
namespace PySem
section
variable {prog:Program} {w:World} {A:Around} {E:Value->Shared->Prop} {s:Shared}
def wU:typeLookup (.type "list_reverseiterator") "__len__"=pure none:=by rfl
def zN:typeLookup (.type "list_reverseiterator") "__length_hint__"=pure (some (.builtin "list_reverseiterator.__length_hint__")):=by rfl
def tX (hit:s.heap.IsRevIter it l i) (h:Q false s):wpAny (model prog w) A (Builtin.List.listLengthHint (.ref it)) Q E s:=by
 refine Zg (Y0 hit.typeIs wU ?_);refine Zg (Y0 hit.typeIs zN ?_);generalize hid:("list_reverseiterator.__length_hint__":String)=id0
 wp_delta
 rw [show splitId id0=some ("list_reverseiterator","__length_hint__") from by subst hid; decide +kernel];subst hid;refine Zg (wpAny_isInstance (b:=true) hit.typeIs (by rw [Xp]; kernel_rfl) ?_);exact Zz h
def tY (hh:A.handled=none) (hit:s.heap.IsRevIter it l ((items.size:Int) - 1)) (hl:s.heap.IsList l items)
  (hlen:items.size<=sizeLine) (hne:l≠it) (S:Addr) (res:Value) (c₀:Nat) (hS:s.heap.get? S=some { cls:=.type "list",data:=.seq #[] c₀ }) (hSl:S≠l) (hSi:S≠it)
  (hR:∀ h' tk acc' c',(∀ b o,b≠S->b≠it->s.heap.get? b=some o->h'.get? b=some o)->h'.get? S=some { cls:=.type "list",dict:=none,data:=.seq acc' c',slots:=#[] } ->
    ItemsOf (λ i v=>items[items.size - 1 - i]?=some v) acc' items.size->R (.ok (.ret res)) { s with heap:=h',toks:=tk }) :
  wpAny (model prog w) A.in1 (Builtin.List.listExtendWith (.ref S) (.ref it) res)
    (λ fin s'=>match fin with | .done f=>R (.ok f) s' | .again c'=>c'.quiet=true/\codeAny (model prog w) A c' R s') (λ e s'=>R (.error e) s') s:=by
 have W:=(Walks.listRev (prog:=prog) (w:=w) (A:=A.in1) hh it l hne items).toS
 have hSf:S ∉ [it,l]:=λ hm=>by
  rcases Zl.mp hm with e | hm
  · exact hSi e
  · exact hSl (Zn.mp hm)
 refine Zg (wpAny_typeOf hit.typeIs ?_);have h1:Builtin.List.listSameRef (.ref S) (.ref it)=false:=by simp [Builtin.List.listSameRef,hSi]
 have h2:(Value.type "list_reverseiterator" == Value.type "list")=false:=by decide
 have h3:(Value.type "list_reverseiterator" == Value.type "tuple")=false:=by decide
 simp only [h1,h2,h3,Bool.or_false,Bool.false_eq_true,if_false];refine Zg (wpAny_pyIter_revIter hit ?_);refine Zg (Yz (tX hit ?_));refine wpAny_ite_split (λ hab=>absurd hab (by decide)) (λ _=>?_);refine Zz ⟨plainId_quiet F.plain_extend_loop _,?_⟩
 have hit0:s.heap.IsRevIter it l ((items.size:Int) - 1 - ((0:Nat):Int)):=by
  simpa using hit
 refine codeAny_extend_loopS W hlen S hSf res items.size 0 _ #[] c₀ rfl (Z3 _) ⟨Z3 _,hit0,hl⟩ hS (ItemsOf.nil _) λ s' acc' c' hm hS' hacc=>?_
 rw [Moved.eq_with hm];refine hR s'.heap s'.toks acc' c' (λ b o hb hb2 e=>hm.heap b o (λ hmem=>?_) e) hS' hacc;rcases Zl.mp hmem with e' | hmem
 · exact hb e'
 · exact hb2 (Zn.mp hmem)
def zM (hh:A.handled=none) (hit:s.heap.IsRevIter it l ((items.size:Int) - 1)) (hl:s.heap.IsList l items)
  (hlen:items.size<=sizeLine) (hne:l≠it) (S:Addr) (hS:s.heap.get? S=some { cls:=.type "list",data:=.seq #[] }) (hSl:S≠l) (hSi:S≠it)
  (hR:∀ h' tk acc' c',(∀ b o,b≠S->b≠it->s.heap.get? b=some o->h'.get? b=some o)->h'.get? S=some { cls:=.type "list",dict:=none,data:=.seq acc' c',slots:=#[] } ->
    ItemsOf (λ i v=>items[items.size - 1 - i]?=some v) acc' items.size->R (.ok (.ret .none)) { s with heap:=h',toks:=tk }) :
  wpAny (model prog w) A.in1 (Builtin.«list.__init__» ⟨[.ref S,.ref it],[]⟩)
    (λ fin s'=>match fin with | .done f=>R (.ok f) s' | .again c'=>c'.quiet=true/\codeAny (model prog w) A c' R s') (λ e s'=>R (.error e) s') s:=by
 refine Zg ?_
 refine Zg (wpAny_seqItems hS rfl (Zz ?_));refine Zg (wpAny_updateSeq hS rfl ?_);have hS₂:=Heap.get?_update_self (Obj.mapSeq (λ _=>(#[]:Array Value))) hS rfl
 have oth:∀ b o,b≠S->s.heap.get? b=some o->(s.heap.update S (Obj.mapSeq (λ _=>(#[]:Array Value)))).get? b=some o :=
  λ b o hb e=>(Heap.get?_update_other _ _ (Ne.symm hb)).trans e
 refine Zg (wpAny_letGo ?_);refine tY hh (hit.at λ o e=>oth it o (Ne.symm hSi) e) (hl.at λ o e=>oth l o (Ne.symm hSl) e) hlen hne S .none _ hS₂ hSl hSi λ h' tk acc' c' hk hS' hacc=>?_
 exact hR h' tk acc' c' (λ b o hb hb2 e=>hk b o hb hb2 (oth b o hb e)) hS' hacc
def nI (hh:A.handled=none) (hit:s.heap.IsRevIter it l ((items.size:Int) - 1)) (hl:s.heap.IsList l items)
  (hlen:items.size<=sizeLine) (hne:l≠it)
  (hQ:∀ h' tk acc' c',(∀ b o,b≠it->s.heap.get? b=some o->h'.get? b=some o) ->
    h'.get? s.heap.objs.size=some { cls:=.type "list",dict:=none,data:=.seq acc' c',slots:=#[] }->ItemsOf (λ i v=>items[items.size - 1 - i]?=some v) acc' items.size->Q (.ref s.heap.objs.size) { s with heap:=h',toks:=tk }) :
  wpAny (model prog w) A (call (.type "list") [.ref it]) Q E s:=by
 refine callType_codes (Q₁:=λ obj s₁=>obj=.ref s.heap.objs.size/\s₁={ s with heap:=s.heap.push { cls:=.type "list",data:=.seq #[] } }) F.called_list (F.typeCall_list_1 _) F.entry_list_init
  (code_list_new _ ⟨rfl,rfl⟩) λ obj s₁ h₁=>?_
 obtain ⟨rfl,rfl⟩:=h₁;have hS:(s.heap.push { cls:=.type "list",data:=.seq #[] }).get? s.heap.objs.size=some { cls:=.type "list",data:=.seq #[] }:=Heap.get?_push_size _ rfl
 have hSl:s.heap.objs.size≠l:=λ e=>by
  obtain ⟨o,ho,_⟩:=hl;exact Yj _ (Y8 (Zt ho) e)
 have hSi:s.heap.objs.size≠it:=λ e=>by
  obtain ⟨o,ho,_⟩:=hit;exact Yj _ (Y8 (Zt ho) e)
 refine ⟨⟨_,hS,rfl⟩,F.args_list_init_2 _ _,zM (A:=A.in1) hh (hit.at λ o e=>Heap.get?_push_of_some _ e) (hl.at λ o e=>Heap.get?_push_of_some _ e) hlen hne _ hS hSl hSi λ h' tk acc' c' hk hS' hacc=>?_⟩;exact ⟨rfl,hQ h' tk acc' c' (λ b o hb e=>hk b o (Zx (Zt e)) hb (Heap.get?_push_of_some _ e)) hS' hacc⟩
end
end PySem
namespace L2
open PySem PySem.Spec PyProof.Rows
section
variable {X:Cx} {a:Expr} {p p2 pos pos2:Pos}
def MN (K:W.Frag) (ta:TE):TE:=λ σ H Q=>ta σ H λ x H1=>∃ q ys,x=.ref q/\SqL K H1 q ys/\∀ l,H1 l=none->Q (.ref l) (upd H1 l (.lst ys.reverse))
def oz {its:List Value} {acc:Array Value} (h:ItemsOf (λ i v=>its.toArray[its.toArray.size - 1 - i]?=some v) acc its.toArray.size):acc=its.reverse.toArray:=by
 obtain ⟨hs,hv⟩:=h;refine Array.ext (by simpa using hs) λ i h1 h2=>?_
 have h3:=hv i acc[i] (Array.getElem?_eq_getElem h1);have h4:i < its.length:=by simpa using h2
 have h5:its[its.length - 1 - i]?=some acc[i]:=by simpa using h3
 rw [<- List.getElem?_reverse h4] at h5;have h6:its.reverse[i]?=some (its.reverse[i]'(by simpa using h4)):=List.getElem?_eq_getElem _;rw [h6] at h5
 simpa using (Zj h5).symm
def Fu {ta:TE} {x y:Str} (hc:X.calm=true) (hg:Gl X x) (hm:X.mg x=none) (hv:bootBuiltins x=some (.type "list")) (hg2:Gl X y) (hm2:X.mg y=none) (hv2:bootBuiltins y=some (.type "reversed")) (ha:PE X a ta)
  (hn:x≠"__name__":=by decide) (hdb:(x == ("__debug__":Str))=false:=by decide) (hn2:y≠"__name__":=by decide) (hdb2:(y == ("__debug__":Str))=false:=by decide)
  (he:starEach [.Call (.Name y p2) [a] [] pos2] X.env=(false,eval (.Call (.Name y p2) [a] [] pos2) X.env)::starEach [] X.env:=by rfl) (hpl:(backTo pos (starEach [] X.env)).any (·.1)=false:=by rfl)
  (he2:starEach [a] X.env=(false,eval a X.env)::starEach [] X.env:=by rfl) (hpl2:(backTo pos2 (starEach [] X.env)).any (·.1)=false:=by rfl) :
  PE X (.Call (.Name x p) [.Call (.Name y p2) [a] [] pos2] [] pos) (MN X.K ta):=by
 intro pins s σ H Q I h;refine Yu (iV I hg hm hv ?_ hn hdb);refine Yg ?_ he hpl;rw [he];refine Calls.spliced_cons ?_
 refine Yu (iV I hg2 hm2 hv2 ?_ hn2 hdb2);refine Yg (thn (cB ha eL he2 pos2 pins s σ H (λ vs H1=>match vs with | [x]=>(∃ q ys,x=V.ref q/\SqL X.K H1 q ys/\∀ l,H1 l=none->Q (.ref l) (upd H1 l (.lst ys.reverse))) | _=>False) I h) λ us s1 ⟨vs,H1,I1,r1,q1⟩=>?_) he2 hpl2
 match vs,r1,q1 with
 | [],_,q1=>exact q1.elim
 | _::_::_,_,q1=>exact q1.elim
 | [v],.cons r .nil,q1 =>
  obtain ⟨q,ys,ev,hq,k⟩:=q1;subst ev;cases r;obtain ⟨its,r',pl,hz⟩:=I1.list hq;have hlen:=r'.length
  have hql:q < s1.heap.objs.size:=by
   obtain ⟨o,ho,_⟩:=pl.isList;exact Zt ho
  refine call_reversed_list pl.isList ?_
  refine Calls.spliced_nil ?_
  refine nI (I1.ok.hd hc) ⟨_,Heap.get?_push_size _ rfl,rfl,rfl⟩ (pl.isList.at λ o e=>Heap.get?_push_of_some _ e) (by simp only [Zq]; omega) (Zx hql) λ h' tk acc' c' kp e hacc=>?_
  have ea:=oz hacc;subst ea;have hS:s1.heap.objs.size<=(s1.heap.push (revObj q ((its.toArray.size:Int) - 1))).objs.size:=Yn (Y8 (Yv _) (Xk _ _).symm)
  exact ⟨.ref _,_,I1.laid (λ b o eb=>kp b o (Zx (Zt eb)) (Heap.get?_push_of_some _ eb)) hS
   (show cu X.prog X.w _ h' _ (.lst ys.reverse) from ⟨by rw [Y4]; exact hz,its.reverse,c',r'.reverse,e⟩),rfl,k _ (I1.hok.fresh hS)⟩
def Eo (f:DE):DE:=λ τ=>(f τ).bind λ x=>match x with
 | .lst ds=>some (.lst ds.reverse)
 | .fz ds=>some (.lst ds.reverse)
 | _=>none
def Rps.reverse {K:W.Frag} {H:Hp} {xs:List V} {ds:List D} (h:Rps K H xs ds):Rps K H xs.reverse ds.reverse:=by
 match xs,ds,h with
 | _,_,.nil=>exact .nil
 | _,_,.cons r t =>
  rw [Xv,Xv];exact (Rps.reverse t).append (.cons r .nil)
def Fi (hc:X.calm=true) (hg:Gl X x) (hm:X.mg x=none) (hv:bootBuiltins x=some (.type "list")) (hg2:Gl X y) (hm2:X.mg y=none) (hv2:bootBuiltins y=some (.type "reversed")) (ha:PEd X a f)
  (hn:x≠"__name__":=by decide) (hdb:(x == ("__debug__":Str))=false:=by decide) (hn2:y≠"__name__":=by decide) (hdb2:(y == ("__debug__":Str))=false:=by decide)
  (he:starEach [.Call (.Name y p2) [a] [] pos2] X.env=(false,eval (.Call (.Name y p2) [a] [] pos2) X.env)::starEach [] X.env:=by rfl) (hpl:(backTo pos (starEach [] X.env)).any (·.1)=false:=by rfl)
  (he2:starEach [a] X.env=(false,eval a X.env)::starEach [] X.env:=by rfl) (hpl2:(backTo pos2 (starEach [] X.env)).any (·.1)=false:=by rfl) :
  PEo X (.Call (.Name x p) [.Call (.Name y p2) [a] [] pos2] [] pos) (Eo f):=(Fu hc hg hm hv hg2 hm2 hv2 ha hn hdb hn2 hdb2 he hpl he2 hpl2).imp λ σ H Q ⟨H0,Hs,τ,fp,d,st,sm,e,k⟩=>by
 obtain ⟨x,e1,e⟩:=bind_some e;refine ⟨H0,Hs,τ,fp,x,st,sm,e1,λ v Hs1 H1 g1 r1=>?_⟩
 have fin:∀ (p:Addr) (ys:List V) (ds:List D),H1 p=none->Rps X.K Hs1 ys ds->d=.lst ds->Q (.ref p) (upd H1 p (.lst ys)):=λ p ys ds hp r ed=>by
  subst ed;exact k p Hs1 _ ⟨g1.ss,g1.sh.trans (aA hp _),g1.hh.trans (aA hp _),g1.fr⟩ (.lst aq (g1.sh.free hp) r) (g1.hh.free hp)
 cases r1 with
 | @lst a ys ds h r=>exact ⟨_,_,rfl,SqL.of (g1.sh _ _ h),λ l hl=>fin l _ _ hl r.reverse (Zj e).symm⟩
 | @fz a ys ds h r=>exact ⟨_,_,rfl,g1.sh.seq h,λ l hl=>fin l _ _ hl r.reverse (Zj e).symm⟩
 | _=>exact nn e
end
end L2
end
section
namespace L2
open PySem PySem.Spec PyProof.Rows
section
variable {X:Cx} {pins:List (Addr×Obj)} {σ:St} {H:Hp}
def ju:List D->Option D
 | [.dct kvs]=>some (.int kvs.length)
 | _=>none
def mz:c8 X (.builtin "len") (rdL X.K ju):=by
 intro pins s σ H xs us Q I rr h;obtain ⟨Hs,ds,d,sm,r,e,k⟩:=h
 match ds,r,e with
 | [x],.cons hx .nil,e =>
  obtain ⟨u,rfl,ru⟩:=vals1 rr
  cases hx with
  | @dct a kvs ds hH rk =>
   have e':=Zj e;subst e';cases (ru);exact Lr I (.inl (sm _ _ hH)) λ t s' I'=>⟨.int kvs.length,H,I',⟨t,rfl⟩,by rw [rk.length]; exact k _ Hs H (.refl sm) (.int _)⟩
  | _=>exact nn e
 | [],_,e=>simp [ju] at e
 | _::_::_,_,e=>simp [ju] at e
end
section
variable {X:Cx} {tg a e:Expr} {p p2 pos pos2:Pos}
def BB (i:Nat) (f:DE):DS:=λ τ=>(f τ).bind λ d=>match d,τ[i]? with
 | .lst es,some (.own (.lst ds))=>if ds.length+es.length<=100000 then some (.next (τ.set i (.own (.lst (ds++es))))) else none
 | _,_=>none
def G0 (h:BB i f τ=some o):∃ es ds,f τ=some (.lst es)/\τ[i]?=some (.own (.lst ds))/\ds.length+es.length<=100000/\o=.next (τ.set i (.own (.lst (ds++es)))):=by
 obtain ⟨d,e1,e⟩:=bind_some h
 cases d with
 | lst es =>
  cases q:τ[i]? with
  | none=>rw [q] at e; cases e
  | some s =>
   rw [q] at e
   cases s with
   | own d=>cases d with
    | lst ds =>
     simp only at e;split at e
     ·rename_i hl
      cases e;exact ⟨es,ds,e1,rfl,hl,rfl⟩
     · cases e
    | _=>simp at e
   | _=>simp at e
 | _=>simp at e
def Cc (i:Nat) (hN:X.N[i]?=some x) (hv:Vis X.env.scope x) (he:PEd X e f) (hd:(x == ("__debug__":Str))=false:=by decide) (hcd:(x == ("__classdict__":Str))=false:=by decide)
   (hbase:attributeBase (.Name x p) "extend" X.env (eval (.Name x p) X.env)=eval (.Name x p) X.env:=by rfl)
   (hfew:((backTo cpos (starEach [e] X.env)).all (λ x=>!x.1)&&(backToKw cpos (keywordEach [] X.env)).all (λ x=>x.1.isSome)
     && decide ([e].length+([]:List Keyword).length+(if ([]:List Keyword).isEmpty then 0 else 1) < 30))=true:=by rfl)
   (hline:(apos.endLine == cpos.line)=true:=by rfl) (hst:starEach [e] X.env=(false,eval e X.env)::starEach [] X.env:=by rfl) (hplain:(backTo cpos (starEach [] X.env)).any (·.1)=false:=by rfl)
   (hs:swapsWith (.Call (.Attribute (.Name x p) "extend" apos) [e] [] cpos) none pos.line X.env=pure false:=by rfl) :
   PSd X (.Expr (.Call (.Attribute (.Name x p) "extend" apos) [e] [] cpos) pos) (BB i f) :=
 (fk (tJ Yy PySem.F.slot_list_extend PySem.F.type_list_extend wM (eJ hN hv hd hcd) (cB he eL hst) hbase hfew hline hst hplain) hs).imp λ E σ H ⟨Hs0,H0,Hs,τ,o,r,e,k⟩=>by
   obtain ⟨es,ds,e1,q,hl,rfl⟩:=G0 e;obtain ⟨fp,h⟩:=r.st;obtain ⟨a,h1,h2,h3,h4⟩:=h.DL q
   cases h2 with
   | @lst xs _ hH hn hr =>
     refine ⟨_,h1,.inl ⟨rfl,_,SqL.of hH⟩,?_⟩;refine ⟨H0,Hs,τ,fp,_,h,r.same,e1,λ v Hs' H' g1 rv=>?_⟩;have hH':=g1.hh _ _ hH;have h':=h.ext g1;have n':=g1.fr a hn (hU hH)
     cases rv with
     | @lst b ys _ hB rb =>
      refine ⟨a,b,xs,ys,rfl,rfl,hH',g1.sh _ _ hB,by rw [hr.length,rb.length]; exact uE hl,?_⟩;refine k σ Hs' _ ⟨⟨r.ext.ss.trans g1.ss,λ b u z=>?_,λ b u z=>?_,λ b k1 k2=>?_⟩,fp,h'.mut q h1 (.lst aq n' ((hr.same g1.ss).append rb))⟩
      ·have ne:b≠a:=λ y=>by subst y; rw [n'] at z; cases z
       rw [aj ne]; exact g1.sh b u z
      ·have ne:b≠a:=λ y=>by subst y; rw [h3] at z; cases z
       rw [aj ne]; exact g1.hh b u (r.ext.hh b u z)
      · exact g1.fr b (r.ext.fr b k1 k2) (r.ext.hh.live k2)
end
def chD (z:Str):List D:=z.cps.toList.map λ c=>D.str ⟨#[c]⟩
def zQ (f:DE):DI:=λ τ=>(f τ).bind λ d=>match d with | .str z=>some (chD z) | _=>none
def DD {K:W.Frag} {z:Str} {Hs:Hp}:ItR K (Its z) Hs (chD z):=λ Hs1 H g1 g2=>by
 refine ⟨λ i d e=>?_,λ i hi=>?_⟩
 ·unfold chD at e
  rw [List.getElem?_map] at e
  cases q:z.cps.toList[i]? with
  | none=>rw [q] at e; cases e
  | some c =>
   rw [q] at e;have ed:=Zj e;subst ed
   have hi:i < z.cps.size:=by
    have:=(List.getElem?_eq_some_iff.mp q).1
    simpa using this
   have q':z.cps[i]?=some c:=by rw [<- Array.getElem?_toList]; exact q
   refine ⟨hi,?_⟩
   rintro x H' ⟨rfl,c',hc,rfl⟩
   rw [q'] at hc;cases hc;exact ⟨Hs1,.refl g2,.str _⟩
 ·show z.cps.size<=i
  unfold chD at hi;rw [Za] at hi
  simpa using hi
section
variable {X:Cx} {tg l:Expr} {f g:DE}
def Cs (h:PEd X l f):PId X tg l (zQ f):=(Fk h).imp λ σ H R ⟨H0,Hs,τ,fp,ds,st,sm,e,k⟩=>by
 obtain ⟨x,e1,e2⟩:=bind_some e;refine ⟨H0,Hs,τ,fp,x,st,sm,e1,λ v Hs' H' g r=>?_⟩
 cases r with
 | str z =>
  have e':=Zj e2;subst e';exact ⟨z,rfl,k _ Hs' H' g DD⟩
 | _=>exact nn e2
def JF:D->D->Option D
 | .str i,.str j=>some (.bl (!decide (j.cps.toList < i.cps.toList)))
 | _,_=>none
def F1:OpR X (compareOp .LtE) (rdR X.K JF):=wq.imp λ x y H Q ⟨Hs,dx,dy,d,sm,rx,ry,e,k⟩=>by
 unfold JF at e;split at e
 ·cases rx
  cases ry;have e':=Zj e;subst e';exact ⟨_,_,rfl,rfl,k _ Hs H (.refl sm) (.bl _)⟩
 · cases e
def D9:List D->Option (List Bool)
 | []=>some []
 | .bl b::ds=>(D9 ds).map (b::·)
 | _::_=>none
def jc:∀ {ds:List D} {bs:List Bool},D9 ds=some bs->ds=bs.map .bl
 | [],_,e=>by cases e; rfl
 | .bl b::ds,_,e=>by
  obtain ⟨bs,e1,rfl⟩:=Zm (show (D9 ds).map _=_ from e);rw [jc e1]; rfl
def Rps.Be {K:W.Frag} {H:Hp}:∀ {bs:List Bool} {xs:List V},Rps K H xs (bs.map D.bl)->xs=bs.map V.bl
 | [],_,.nil=>rfl
 | b::bs,_,.cons h r=>by
  cases h;rw [Rps.Be r]; rfl
def Ny:List D->Option D
 | [.lst ds]=>(D9 ds).map λ bs=>.bl (bs.all id)
 | _=>none
def Lv (hc:X.calm=true):c8 X (.builtin "all") (rdL X.K Ny):=(Ag hc).imp λ xs H Q ⟨Hs,ds,d,sm,r,e,k⟩=>by
 match ds,r,e with
 | [x],.cons hx .nil,e =>
  cases hx with
  | @lst a ys ds h r =>
   obtain ⟨bs,e1,e2⟩:=Zm (e);have ed:=jc e1;subst ed;have ey:=r.Be;subst ey;subst e2;exact ⟨a,bs,rfl,SqL.of (sm _ _ h),k _ Hs H (.refl sm) (.bl _)⟩
  | _=>exact nn e
 | [],_,e=>exact nn e
 | x::y::_,_,e=>cases x <;> exact nn e
end
def m6 {κ:Type}:∀ {kvs:List (κ×V)} {vs:List (κ×Value)},KV kvs vs->vs.map (·.1)=kvs.map (·.1)
 | _,_,.nil=>rfl
 | _,_,.cons h r=>by rw [Zh,Zh,m6 r,h.1]
def vz:V->List V->Hp->VK->Prop:=λ x vs H Q=>∃ l xs i y,x=.ref l/\vs=[.int i,y]/\H l=some (.lst xs)/\0<=i/\i<=xs.length/\xs.length < sizeLine/\i < 2 ^ 62/\Q .non (upd H l (.lst (xs.take i.toNat++y::xs.drop i.toNat)))
section
variable {X:Cx}
def wL:MtM X "list.insert" vz:=by
 intro pins s σ H x vs v us Q I rx rv h;obtain ⟨l,xs,i,y,rfl,rfl,hH,h0,h1,hz,h62,q⟩:=h;cases rx
 cases rv with
 | cons ri rv=>cases rv with
  | cons ry rv =>
 cases rv;obtain ⟨t,rfl⟩:=ri;rename_i u;obtain ⟨z,its,n,r,hl,e⟩:=I.AX hH;refine call_meets F.slot_list_insert ⟨_,e,rfl⟩ F.entry_list_insert (F.args_list_insert_3 _ _ _) (PySem.AutoSeq1.list_insert_list_int_val_1 l its.toArray n i t u (by rw [fitsIndex_both (by omega) (by omega)]; simp) (by rw [Zq]; omega)) ⟨e,?_⟩;refine ⟨.non,_,I.Gk (its':=its.take i.toNat++u::its.drop i.toNat) hH e ?_ ((r.take _).append (.cons ry (r.drop _))) ?_,rfl,q⟩
 · have hk:(if i < 0 then (i+(its.toArray.size:Int)).toNat else min i.toNat its.toArray.size)=i.toNat:=by
    rw [if_neg (by omega),Zq];omega
   show (its.toArray.extract 0 (if i < 0 then (i+(its.toArray.size:Int)).toNat else min i.toNat its.toArray.size)).push u++its.toArray.extract (if i < 0 then (i+(its.toArray.size:Int)).toNat else min i.toNat its.toArray.size)=_;rw [hk];exact PySem.W.kl_ins_eq its i.toNat u
 · rw [Z5,Zv,Yw,Y6]; omega
def FA {KK:W.Frag} (hK:X.K=KK) {o i e:Expr} {apos cpos:Pos} {to ti te:TE} (ho:PE X o to) (hi:PE X i ti) (he:PE X e te)
  (hbase:attributeBase o "insert" X.env (eval o X.env)=eval o X.env:=by rfl)
  (hfew:((backTo cpos (starEach [i,e] X.env)).all (λ x=>!x.1)&&(backToKw cpos (keywordEach [] X.env)).all (λ x=>x.1.isSome)
    && decide ([i,e].length+([]:List Keyword).length+(if ([]:List Keyword).isEmpty then 0 else 1) < 30))=true:=by rfl)
  (hline:(apos.endLine == cpos.line)=true:=by rfl) (hst:starEach [i,e] X.env=(false,eval i X.env)::starEach [e] X.env:=by rfl) (hst2:starEach [e] X.env=(false,eval e X.env)::starEach [] X.env:=by rfl) (hplain:(backTo cpos (starEach [e] X.env)).any (·.1)=false:=by rfl) :
  PE X (.Call (.Attribute o "insert" apos) [i,e] [] cpos) (tBM KK "list" vz to (Br ti (Br te LF))):=by
 subst hK;exact tJ Yy PySem.F.slot_list_insert PySem.F.type_list_insert wL ho (cB hi (cB he eL hst2) hst) hbase hfew hline hst hplain
end
def ItK (d:Addr) (o:Obj) (kvs:List (Key×V)):It where
 go:=λ i H=>H d=some (.frz o (.dK kvs))/\i < kvs.length
 yld:=λ i H v H'=>H'=H/\∃ k w,kvs[i]?=some (k,w)/\v=kV k
 stop:=λ i H=>H d=some (.frz o (.dK kvs))/\kvs.length<=i
section
variable {X:Cx} {pins:List (Addr×Obj)} {σ:St} {H:Hp} {s:Shared}
def Inv.freeze (I:Inv X pins σ H s) (hd:H d=some (.dK kvs)) (ho:s.heap.get? d=some o):Inv X pins σ (upd H d (.frz o (.dK kvs))) s:=by
 have ne:∀ b u,H b=some u->(∀ k,u≠.dK k)->b≠d:=λ b u e n z=>by rw [z,hd] at e; cases e; exact n _ rfl
 have n0:∀ b,H b=none->b≠d:=λ b e z=>by rw [z,hd] at e; cases e
 refine I.un (h':=s.heap) (t':=s.toks) ⟨λ b o e _ _ _=>e,λ b o e _ _ _=>⟨o.slots,e⟩,λ b o _ z _=>by rw [aj (n0 b z)]; exact z,λ b o e _=>⟨o,e⟩,λ b xs e=>by rw [aj (ne b _ e λ _ y=>nomatch y)]; exact e,λ b o xs e=>by rw [aj (ne b _ e λ _ y=>nomatch y)]; exact e,λ b ps e=>⟨#[],by rw [aj (ne b _ e λ _ y=>nomatch y),e]; simp⟩⟩ λ b u e=>?_
 by_cases z:b=d
 ·subst z
  rw [aq] at e;cases e;exact ⟨ho,I.hok b _ hd⟩
 ·rw [aj z] at e
  exact (I.hok b u e).ym (λ _ _ _ q=>q) (λ c q=>by rw [aj (ne c _ q λ _ y=>nomatch y)]; exact q) λ c xs q=>by rw [aj (ne c _ q λ _ y=>nomatch y)]; exact q
def Inv.MJ (I:Inv X pins σ H s) (hd:H d=some (.frz o (.dK kvs))) (h0:∀ o' u',X.H₀ d≠some (.frz o' u')):Inv X pins σ (upd H d (.dK kvs)) s:=by
 have ne:∀ b u,H b=some u->(∀ o k,u≠.frz o k)->b≠d:=λ b u e n z=>by rw [z,hd] at e; cases e; exact n _ _ rfl
 have n0:∀ b,H b=none->upd H d (.dK kvs) b=none:=λ b e=>by rw [aj (λ z=>by rw [z,hd] at e; cases e)]; exact e
 refine ⟨I.ok,I.os,I.bare,⟨I.base.keep,I.base.slot,λ b ob e z hx=>n0 b (I.base.free b ob e z hx),I.base.there,λ b xs e=>?_,λ b ob xs e=>?_,λ b ps e=>?_⟩,I.loc,I.cell,n0 _ I.free,λ x c e=>n0 _ (I.lr x c e),λ p hp=>⟨(I.pin p hp).1,n0 _ (I.pin p hp).2.1,(I.pin p hp).2.2⟩,λ b u e=>?_,I.len⟩
 ·have q:=I.base.uO b xs e
  rw [aj (ne b _ q λ _ _ y=>nomatch y)]; exact q
 ·have q:=I.base.uG b ob xs e
  rw [aj (λ z=>h0 _ _ (by rw [<- z]; exact e))]; exact q
 ·obtain ⟨more,q⟩:=I.base.uS b ps e
  exact ⟨more,by rw [aj (ne b _ q λ _ _ y=>nomatch y)]; exact q⟩
 ·by_cases z:b=d
  ·subst z
   rw [aq] at e;cases e;exact (I.hok b _ hd).2
  ·rw [aj z] at e
   exact (I.hok b u e).ym (λ _ _ _ q=>q) (λ c q=>by rw [aj (ne c _ q λ _ _ y=>nomatch y)]; exact q) λ c xs q=>by rw [aj (ne c _ q λ _ _ y=>nomatch y)]; exact q
end
def uN {P:Program} {w:World} {K:W.Frag} {tg:Expr} (d it:Addr) (o:Obj) (kvs:List (Key×V)) (es:Array DictEntry) (ep:Nat) (hdat:o.data=.dict es ep):Turn P w K tg (ItK d o kvs) [it] it (λ i h=>h.IsKeyIter it d i kvs.length ep) where
 mem:=by simp
 obj:=λ i h st b hb=>by
  have e:b=it:=by simpa using hb
  subst e;obtain ⟨o,e,c,d⟩:=st;exact ⟨o,e,λ v z=>by rw [d] at z; cases z⟩
 keep:=λ i h h' st k=>by
  obtain ⟨o,e,r⟩:=st;exact ⟨o,k it (by simp) o e,r⟩
 item:=by
  intro X hP hw hK hc i pins s σ H E I hf st hg;subst hP hw hK;obtain ⟨hd,hi⟩:=hg;obtain ⟨g,ok⟩:=I.hok d _ hd;obtain ⟨sz,lo,vs,kv,o',es',ep',h1,h2,h3,h4⟩:=ok;rw [g] at h1;cases h1;rw [hdat] at h3;cases h3;have lv:vs.length=kvs.length:=kv.length.symm;have dat:s.heap.DictAt (bF X.prog X.w) d vs ep:=⟨o,es,g,h2,hdat,h4⟩
  obtain ⟨f0,f1,f2,f3,f4,f5⟩:=hf it (by simp);have hx:vs[i]?=some (vs[i]'(by omega)):=List.getElem?_eq_getElem (by omega)
  have hk:(kvs[i]'hi).1=(vs[i]'(by omega)).1:=by
   have e1:(vs.map (·.1))[i]?=(kvs.map (·.1))[i]?:=by rw [m6 kv]
   rw [List.getElem?_map,List.getElem?_map,hx,List.getElem?_eq_getElem hi] at e1;exact (Zj e1).symm
  refine wpAny_pyNext_dict_item (k:=(vs[i]'(by omega)).1) (v:=(vs[i]'(by omega)).2) (by rw [lv]; exact st) dat hx λ key h' ik st' sb=>?_
  have I1:Inv X pins σ H { s with heap:=h' }:=I.turned (t':=s.toks) (λ b o hb e=>(sb.2 b hb).trans e) f0 f1 f3 f4 f5;obtain ⟨o2,e2,c2,d2⟩:=id st';rw [lv] at st';refine ⟨key,rfl,xo (s:={ s with heap:=h' }) e2 c2 d2 (by decide) ⟨kV (kvs[i]'hi).1,H,I1,?_,⟨rfl,_,_,List.getElem?_eq_getElem hi,rfl⟩,st',λ b hb=>(hf b hb).1⟩⟩;rw [hk];rcases bc (show m7 _ key=true from ik) with ⟨j,t,e4,e5⟩ | ⟨y,t,e4,e5⟩
  · rw [e4,e5]; exact ⟨t,rfl⟩
  · rw [e4,e5]; exact ⟨t,rfl⟩
 done:=by
  intro X hP hw hK hc i pins s σ H E I hf st hg;subst hP hw hK;obtain ⟨hd,hi⟩:=hg;obtain ⟨g,ok⟩:=I.hok d _ hd;obtain ⟨sz,lo,vs,kv,o',es',ep',h1,h2,h3,h4⟩:=ok;rw [g] at h1;cases h1;rw [hdat] at h3;cases h3;have lv:vs.length=kvs.length:=kv.length.symm;have dat:s.heap.DictAt (bF X.prog X.w) d vs ep:=⟨o,es,g,h2,hdat,h4⟩
  obtain ⟨f0,f1,f2,f3,f4,f5⟩:=hf it (by simp);exact wpAny_pyNext_dict_end (I.ok.hd hc) (by rw [lv]; exact st) dat (List.getElem?_eq_none (by omega)) λ h' eb=>⟨rfl,I.turned (t':=s.toks) (λ b o hb e=>eb b o hb e) f0 f1 f3 f4 f5⟩
 self:=λ _ _ _ _ _ st h=>wpAny_pyIter_keyiter st h
def Lc (td:TE):TI:=λ σ H R=>td σ H λ v H1=>∃ d kvs,v=.ref d/\H1 d=some (.dK kvs)/\∀ o,R (ItK d o kvs) (upd H1 d (.frz o (.dK kvs)))
def wc {X:Cx} {tg l:Expr} {tl:TE} (hl:PE X l tl):PI X tg l (Lc tl):=by
 intro pins s σ H R I h;refine thn (hl pins s σ H _ I h) λ v s1 ⟨x,H1,I1,r1,q1⟩=>?_
 obtain ⟨d,kvs,e,hd,q⟩:=q1;subst e;cases r1;obtain ⟨sz,lo,vs,kv,o,es,ep,h1,h2,h3,h4⟩:=uj I1.hok hd;have lv:vs.length=kvs.length:=kv.length.symm;refine wpAny_pyIter_dict lo ⟨o,es,h1,h2,h3,h4⟩ ?_
 have I2:=(I1.freeze hd h1).kept (t':=s1.toks) (h':=s1.heap.push { cls:=.type "dict_keyiterator",data:=.fields #[.ref d,.int 0 0,.int vs.length 0,.int ep 0] }) λ b o e=>Heap.get?_push_of_some _ e
 refine ⟨s1.heap.objs.size,[s1.heap.objs.size],_,_,_,rfl,I2,uN d _ o kvs es ep h3,⟨_,Heap.get?_push_size _ rfl,rfl,by rw [lv]; rfl⟩,λ b hb=>?_,q o⟩;have e:b=s1.heap.objs.size:=by simpa using hb
 subst e;exact (I1.freeze hd h1).yn (Zs _) ((I1.freeze hd h1).hok.fresh (Zs _))
def IE (H0:Hp) (t:TS):TS:=λ D σ H=>t { D with nx:=λ σ1 H1=>∃ d o kvs,H1 d=some (.frz o (.dK kvs))/\(∀ o' u',H0 d≠some (.frz o' u'))/\D.nx σ1 (upd H1 d (.dK kvs)) } σ H
def vY {X:Cx} {st:Stmt} {t:TS} (h:PS X st t):PS X st (IE X.H₀ t):=by
 intro pins s σ H D I hh;refine Ym (h pins s σ H _ I hh) (λ f s1 q=>?_) λ _ _ z=>z
 cases f with
 | next =>
  obtain ⟨σ',H',I',d,o,kvs,hd,h0,q⟩:=q;exact ⟨σ',_,I'.MJ hd h0,q⟩
 | ret v=>exact q
 | brk=>exact q
 | cont=>exact q
def sca:D->Bool
 | .non=>true | .bl _=>true | .int _=>true | .str _=>true | .ty _=>true | _=>false
def q9 {K:W.Frag} {H H':Hp} {v:V} {d:D} (h:Rp K H v d) (e:sca d=true):Rp K H' v d:=by
 cases h <;> first | exact .non | exact .bl _ | exact .int _ | exact .str _ | exact .ty _ | (simp [sca] at e)
def jk {K:W.Frag} {H H':Hp} {vs:List V} {ds:List D} (h:Rps K H vs ds):ds.all sca=true->Rps K H' vs ds:=by
 induction ds generalizing vs with
 | nil=>intro _; cases h; exact .nil
 | cons d ds ih =>
  intro e
  cases h with
  | cons h r =>
   rw [List.all_cons,Z6] at e;exact .cons (q9 h e.1) (ih r e.2)
def toM:Sm->Option Mt
 | .shr d=>some (.s d)
 | .mu false m=>some m
 | _=>none
def M4 (N:Hp) (K:W.Frag) (f:DEm):TE:=λ σ H Q=>∃ (Hs0 H0:Hp),∃ (_:Nf N H0),∃ ρ Hs τ s τ',bA K Hs0 H0 ρ Hs H σ τ/\f τ=some (s,τ')/\∀ v Hs' H',bZ H H'->bA K Hs0 H0 (none::ρ) Hs' H' (some v::σ) (s::τ')->Q v H'
def PVm (X:Cx) (e:Expr) (f:DEm):Prop:=PE X e (M4 X.H₀ X.K f)
def eS (g:DE):DEm:=λ τ=>(g (aY τ)).bind λ d=>if sca d=true then some (.shr d,τ) else none
def eN (g:DE):DEm:=λ τ=>(g (er τ)).map λ d=>(.shr d,τ)
def lM (ds:List D):Mt:=.n .l (ds.map λ d=>(.inl 0,.s d))
def eO (g:DE):DEm:=λ τ=>(g (aY τ)).bind λ d=>match d with
 | .lst ds=>if ds.all sca=true then some (.mu false (lM ds),τ) else none
 | _=>none
def eV (i:Nat):DEm:=λ τ=>match τ[i]? with
 | some (.mu false m)=>some (.mu false m,τ.set i .no)
 | some (.shr d)=>some (.shr d,τ)
 | _=>none
section
variable {K:W.Frag} {Hs0 H0 Hs H Hs' H':Hp} {ρ:List (Option Addr)} {σ:St} {τ:List Sm}
def bA.push (r:bA K Hs0 H0 ρ Hs H σ τ) (h:Rp K Hs v d):bA K Hs0 H0 (none::ρ) Hs H (some v::σ) (.shr d::τ):=⟨r.ext,let ⟨fp,s⟩:=r.st; ⟨fp,.shr h s⟩⟩
def bA.pop (r:bA K Hs0 H0 (p::ρ) Hs H (v::σ) (s::τ)):bA K Hs0 H0 ρ Hs H σ τ:=⟨r.ext,by
 obtain ⟨fp,s⟩:=r.st
 cases s with
 | no r=>exact ⟨_,r⟩
 | shr h r=>exact ⟨_,r⟩
 | mu h hp z j r=>exact ⟨_,r⟩⟩
def bA.old (r:bA K Hs0 H0 ρ Hs H σ τ) (h:H p=none):H0 p=none:=r.ext.hh.free h
def StM.new (h:StM K H0 Hs H ρ σ τ fp) (hp:H p=none):p ∉ fp:=λ q=>(h.live p q).2.1 hp
def N3 {i:Nat} {d:D} {fp:List Addr} (h:StM K H0 Hs H ρ σ τ fp) (e:τ[i]?=some (.shr d)):∃ v,σ[i]?=some (some v)/\Rp K Hs v d:=h.er.get (by rw [List.getElem?_map,e]; rfl)
def K4 (h:Rps K Hs vs ds):∃ ts:List Kd,(ts.map Kd.kv).map (·.2)=vs/\ts.map Kd.km=ds.map (λ d=>((.inl 0:Key),Mt.s d))/\ts.flatMap Kd.fp=[]/\∀ H,∀ c ∈ ts,Od K Hs H c.fp c.v c.m:=by
 induction ds generalizing vs with
 | nil=>cases h; exact ⟨[],rfl,rfl,rfl,λ _ c hc=>by cases hc⟩
 | cons d ds ih =>
  cases h with
  | @cons x _ _ _ h r =>
   obtain ⟨ts,h1,h2,h3,h4⟩:=ih r;refine ⟨⟨.inl 0,x,.s d,[]⟩::ts,by rw [Zh,Zh,h1],by rw [Zh,Zh,h2],by rw [Ye,h3]; rfl,λ H c hc=>?_⟩;rcases Zl.mp hc with rfl | hc
   · exact .s h
   · exact h4 H c hc
def Od.lst (h:H a=some (.lst vs)) (n:Hs a=none) (r:Rps K Hs vs ds):Od K Hs H [a] (.ref a) (lM ds):=by
 obtain ⟨ts,h1,h2,h3,h4⟩:=K4 r;have:=Od.n (K:=K) (Hs:=Hs) (H:=H) (a:=a) (dx:=0) (t:=.l) (ts:=ts) (u:=.lst vs) h (by rw [<- h1]; exact .l _) n trivial (by rw [h3]; simp) (h4 H);rw [h2,h3] at this;exact this
def bA.BO (r:bA K Hs0 H0 ρ Hs H σ τ) (g:bZ H H') (h:Od K Hs H' fq v m) (z:∀ c ∈ fq,H c=none):bA K Hs0 H0 (none::ρ) Hs H' (some v::σ) (.mu false m::τ):=by
 obtain ⟨fp,s⟩:=r.st;exact ⟨(r.grow g).ext,fq++fp,.mu h (λ e=>by cases e) (λ c hc=>r.old (z c hc)) (λ c hc=>s.new (z c hc)) (s.ext ⟨.refl _,r.ext.sh.trans g,g,λ _ h _=>h⟩)⟩
def bA.into (r:bA K Hs0 H0 (none::ρ) Hs H (some v::σ) (s::τ)) (hf:i < τ.length) (hs:(toM s).isSome=true):bA K Hs0 H0 ρ Hs H (σ.set i (some v)) (τ.set i s):=⟨r.ext,by
 obtain ⟨fp,st⟩:=r.st
 cases st with
 | no r=>cases hs
 | shr h s=>obtain ⟨fp',h1,_⟩:=s.u9 (i:=i) h; exact ⟨fp',h1⟩
 | @mu p v b m ρ σ τ fq fp h hp z j s =>
  cases b with
  | true=>cases hs
  | false=>obtain ⟨fp',h1,_⟩:=s.setM (i:=i) h (λ c hc=>⟨z c hc,j c hc⟩) hf; exact ⟨fp',h1⟩⟩
def mR {ts' ts:List Kd} (h:ts'.Sublist ts):(ts'.flatMap Kd.fp).Sublist (ts.flatMap Kd.fp):=by
 induction h with
 | slnil=>exact .slnil
 | cons a _ ih=>rw [Ye]; exact ih.trans (List.sublist_append_right _ _)
 | cons_cons a _ ih=>rw [Ye,Ye]; exact (List.Sublist.refl _).append ih
def StM.node {i:Nat} {q:List Stp} {t:Tg} {cs:List (Key×Mt)} {rt v1:V} {fp:List Addr} (rx:Ext Hs0 H0 Hs H) (st:StM K H0 Hs H ρ σ τ fp) (hg:aO τ i q=some (.n t cs)) (hi:σ[i]?=some (some rt)) (hv:vAt H rt q=some v1) :
  ∃ a dx ts u,v1=.ref a/\cs=ts.map Kd.km/\H a=some u/\Lay t dx (ts.map Kd.kv) u/\KU t ts/\Hs a=none/\H0 a=none /\
  (∀ fq l1 (k:Kd) l2 u',(l1++l2).Sublist ts->k.fp=fq->Od K Hs H fq k.v k.m->(∀ c ∈ fq,H0 c=none/\c ∉ fp)->Lay t dx ((l1++k::l2).map Kd.kv) u'->KU t (l1++k::l2)->bA K Hs0 H0 ρ Hs (upd H a u') σ (cJ τ i q (.n t ((l1++k::l2).map Kd.km)))) /\
  (∀ ts' u',ts'.Sublist ts->Lay t dx (ts'.map Kd.kv) u'->KU t ts'->bA K Hs0 H0 ρ Hs (upd H a u') σ (cJ τ i q (.n t (ts'.map Kd.km)))):=by
 unfold aO at hg;split at hg
 ·rename_i b m em
  obtain ⟨v,fp1,v1',w1,w2,w3,w4,w5⟩:=st.sX em hg;rw [hi] at w1;cases w1;rw [hv] at w2;cases w2;obtain ⟨a,dx,ts,u,rfl,rfl,rfl,ha,hl,nh,ku,nd,rr⟩:=w3.inv;have afp:a ∈ fp:=w4 a (Zd ..);have h0:=(st.live a afp).2.2;have ep:∀ m2,cJ τ i q m2=τ.set i (.mu b (m.put q m2)):=λ m2=>by unfold cJ; rw [em]
  have ex:∀ u',Ext Hs0 H0 Hs (upd H a u'):=λ u'=>by
   refine ⟨rx.ss,λ c o e=>?_,λ c o e=>?_,rx.fr⟩
   · rw [aj (λ z=>by rw [z,nh] at e; cases e)]; exact rx.sh c o e
   · rw [aj (λ z=>by rw [z,h0] at e; cases e)]; exact rx.hh c o e
  have nd1:=Zy.mp nd;refine ⟨a,dx,ts,u,rfl,rfl,ha,hl,ku,nh,h0,λ fq l1 k l2 u' hsub hk hod hz hl' ku'=>?_,λ ts' u' hsub hl' ku'=>?_⟩
  ·subst hk
   have zz:=hz;have sf:=mR hsub;rw [Yl] at sf;have nd2:=nd1.2.sublist sf;rw [Yd] at nd2;have inl:∀ c,c ∈ l1.flatMap Kd.fp\/c ∈ l2.flatMap Kd.fp->c ∈ fp:=λ c hc=>w4 c (Zc _ (sf.subset (Zi.mpr hc)))
   have nda:(a::(l1.flatMap Kd.fp++(k.fp++l2.flatMap Kd.fp))).Nodup:=mh (λ z=>nd1.1 (sf.subset (Zp _ z))) (λ z=>(zz a z).2 afp) (λ z=>nd1.1 (sf.subset (Ze _ z))) hod.nd (λ c hc=>⟨λ z=>(zz c hc).2 (inl c (.inl z)),λ z=>(zz c hc).2 (inl c (.inr z))⟩) nd2.1 nd2.2.1 λ c hc z=>nd2.2.2 c hc c z rfl
   have nda':(a::(l1++k::l2).flatMap Kd.fp).Nodup:=by rw [Yl,Ye]; exact nda
   have od:Od K Hs (upd H a u') (a::(l1++k::l2).flatMap Kd.fp) (.ref a) (.n t ((l1++k::l2).map Kd.km)):=by
    refine .n aq hl' nh ku' nda' λ c hc=>?_
    have off:∀ fp',Od K Hs H fp' c.v c.m->a ∉ fp'->Od K Hs (upd H a u') fp' c.v c.m:=λ fp' o n=>o.mv (.refl _) λ x hx=>⟨(o.live x hx).1,aj λ z=>n (z ▸ hx)⟩
    have na:a ∉ c.fp:=λ z=>(Zy.mp nda').1 (Yr.mpr ⟨c,hc,z⟩)
    rcases Zi.mp hc with hc | hc
    · exact off _ (rr c (hsub.subset (Zp _ hc))) na
    ·rcases Zl.mp hc with rfl | hc
     · exact off _ hod na
     · exact off _ (rr c (hsub.subset (Ze _ hc))) na
   obtain ⟨fp',s',_⟩:=w5 Hs (upd H a u') _ _ (.refl _) (λ c hc hn=>⟨(st.live c hc).1,aj λ z=>hn (by rw [z]; exact Zd ..)⟩) od λ c hc=>by
    rcases Zl.mp hc with rfl | hc
    · exact .inl (Zd ..)
    ·rw [Yl,Ye,Zi,Zi] at hc
     rcases hc with hc | hc | hc
     · exact .inl (Zc _ (sf.subset (Zp _ hc)))
     · exact .inr ⟨(zz c hc).2,(zz c hc).1⟩
     · exact .inl (Zc _ (sf.subset (Ze _ hc)))
   exact ⟨ex u',fp',by rw [ep]; exact s'⟩
  ·have sf:=mR hsub
   have nda':(a::ts'.flatMap Kd.fp).Nodup:=Zy.mpr ⟨λ z=>nd1.1 (sf.subset z),nd1.2.sublist sf⟩
   have od:Od K Hs (upd H a u') (a::ts'.flatMap Kd.fp) (.ref a) (.n t (ts'.map Kd.km)):=by
    refine .n aq hl' nh ku' nda' λ c hc=>?_
    have o:=rr c (hsub.subset hc);exact o.mv (.refl _) λ x hx=>⟨(o.live x hx).1,aj λ z=>(Zy.mp nda').1 (Yr.mpr ⟨c,hc,z ▸ hx⟩)⟩
   obtain ⟨fp',s',_⟩:=w5 Hs (upd H a u') _ _ (.refl _) (λ c hc hn=>⟨(st.live c hc).1,aj λ z=>hn (by rw [z]; exact Zd ..)⟩) od λ c hc=>by
    rcases Zl.mp hc with rfl | hc
    · exact .inl (Zd ..)
    · exact .inl (Zc _ (sf.subset hc))
   exact ⟨ex u',fp',by rw [ep]; exact s'⟩
 · cases hg
def bA.tT (r:bA K Hs0 H0 (none::ρ) Hs H (some v::σ) (s::τ)) (hs:toM s=some mv) (hg:aO τ i q=some (.n t cs)) (hi:σ[i]?=some (some rt)) (hv:vAt H rt q=some v1) :
  ∃ a dx ts u fv,v1=.ref a/\cs=ts.map Kd.km/\H a=some u/\Lay t dx (ts.map Kd.kv) u/\KU t ts /\
  ∀ l1 kk l2 u',(l1++l2).Sublist ts->Lay t dx ((l1++⟨kk,v,mv,fv⟩::l2).map Kd.kv) u'->KU t (l1++⟨kk,v,mv,fv⟩::l2)->bA K Hs0 H0 ρ Hs (upd H a u') σ (cJ τ i q (.n t ((l1++⟨kk,v,mv,fv⟩::l2).map Kd.km))):=by
 obtain ⟨fp0,st⟩:=r.st
 cases st with
 | no st=>cases hs
 | shr h st =>
  cases hs;obtain ⟨a,dx,ts,u,h1,h2,h3,h4,h5,h6,h7,h8,_⟩:=StM.node r.ext st hg hi hv;exact ⟨a,dx,ts,u,[],h1,h2,h3,h4,h5,λ l1 kk l2 u' e1 e2 e3=>h8 [] l1 ⟨kk,v,_,[]⟩ l2 u' e1 rfl (.s h) (λ c hc=>by cases hc) e2 e3⟩
 | @mu p v b m ρ σ τ fq fp h hp z j st =>
  cases b with
  | true=>cases hs
  | false =>
   cases hs;obtain ⟨a,dx,ts,u,h1,h2,h3,h4,h5,h6,h7,h8,_⟩:=StM.node r.ext st hg hi hv;exact ⟨a,dx,ts,u,fq,h1,h2,h3,h4,h5,λ l1 kk l2 u' e1 e2 e3=>h8 fq l1 ⟨kk,v,_,fq⟩ l2 u' e1 rfl h (λ c hc=>⟨z c hc,j c hc⟩) e2 e3⟩
end
def dm (h:aO τ i q=some m1):∃ b m,τ[i]?=some (.mu b m)/\m.get q=some m1:=by
 unfold aO at h;split at h
 · exact ⟨_,_,‹_›,h⟩
 · cases h
def xp {st:Stp}:∀ (q:List Stp) {m m2:Mt},m.get (q++[st])=some m2->∃ m1,m.get q=some m1/\m1.get [st]=some m2
 | [],m,m2,h=>⟨m,by cases m <;> rfl,h⟩
 | s::q,.s d,m2,h=>by cases h
 | s :: q,.n t cs,m2,h=>by
  have h':(match tF t cs s with | none=>none | some i=>match cs[i]? with | none=>none | some c=>Mt.get c.2 (q++[st]))=some m2:=h
  cases e1:tF t cs s with
  | none=>rw [e1] at h'; cases h'
  | some i =>
   rw [e1] at h'
   cases e2:cs[i]? with
   | none=>simp only [e2] at h'; cases h'
   | some c =>
    simp only [e2] at h';obtain ⟨m1,h1,h2⟩:=xp q h';refine ⟨m1,?_,h2⟩;show (match tF t cs s with | none=>none | some i=>match cs[i]? with | none=>none | some c=>Mt.get c.2 q)=some m1;simp only [e1,e2];exact h1
def mO {H:Hp} {st:Stp}:∀ (q:List Stp) {v v1:V},vAt H v q=some v1->vAt H v (q++[st])=vAt H v1 [st]
 | [],v,v1,h=>by
  have e:v=v1:=by cases v <;> exact Zj h
  rw [e]; rfl
 | .k k::q,v,v1,h=>by
  cases v with
  | ref a =>
   have h':(match H a with | some (.ins _ _ fs)=>(cI (fs.map λ (f:Str×V)=>((Sum.inr f.1:Key),f.2)) k).bind λ v=>vAt H v q | some (.dK kvs)=>(cI kvs k).bind λ v=>vAt H v q | _=>none)=some v1:=h;show (match H a with | some (.ins _ _ fs)=>(cI (fs.map λ (f:Str×V)=>((Sum.inr f.1:Key),f.2)) k).bind λ v=>vAt H v (q++[st]) | some (.dK kvs)=>(cI kvs k).bind λ v=>vAt H v (q++[st]) | _=>none)=_;split at h'
   ·obtain ⟨w,h1,h2⟩:=bind_some h'
    rw [h1]; exact mO q h2
   ·obtain ⟨w,h1,h2⟩:=bind_some h'
    rw [h1]; exact mO q h2
   · cases h'
  | _=>cases h
 | .i n::q,v,v1,h=>by
  cases v with
  | ref a =>
   have h':(match H a with | some (.lst xs)=>(xs[n]?).bind λ v=>vAt H v q | _=>none)=some v1:=h;show (match H a with | some (.lst xs)=>(xs[n]?).bind λ v=>vAt H v (q++[st]) | _=>none)=_;split at h'
   ·obtain ⟨w,h1,h2⟩:=bind_some h'
    rw [h1]; exact mO q h2
   · cases h'
  | _=>cases h
def bU (g:bZ H H'):∀ (q:List Stp) {v v1:V},vAt H v q=some v1->vAt H' v q=some v1
 | [],v,v1,h=>by cases v <;> exact h
 | .k k::q,v,v1,h=>by
  cases v with
  | ref a =>
   have h':(match H a with | some (.ins _ _ fs)=>(cI (fs.map λ (f:Str×V)=>((Sum.inr f.1:Key),f.2)) k).bind λ v=>vAt H v q | some (.dK kvs)=>(cI kvs k).bind λ v=>vAt H v q | _=>none)=some v1:=h;show (match H' a with | some (.ins _ _ fs)=>(cI (fs.map λ (f:Str×V)=>((Sum.inr f.1:Key),f.2)) k).bind λ v=>vAt H' v q | some (.dK kvs)=>(cI kvs k).bind λ v=>vAt H' v q | _=>none)=_;split at h'
   ·rename_i e
    obtain ⟨w,h1,h2⟩:=bind_some h';simp only [g _ _ e];rw [h1]; exact bU g q h2
   ·rename_i e
    obtain ⟨w,h1,h2⟩:=bind_some h';simp only [g _ _ e];rw [h1]; exact bU g q h2
   · cases h'
  | _=>cases h
 | .i n::q,v,v1,h=>by
  cases v with
  | ref a =>
   have h':(match H a with | some (.lst xs)=>(xs[n]?).bind λ v=>vAt H v q | _=>none)=some v1:=h;show (match H' a with | some (.lst xs)=>(xs[n]?).bind λ v=>vAt H' v q | _=>none)=_;split at h'
   ·rename_i e
    obtain ⟨w,h1,h2⟩:=bind_some h';simp only [g _ _ e];rw [h1]; exact bU g q h2
   · cases h'
  | _=>cases h
def mN:∀ (fs:List (Str×V)),cI (fs.map λ f=>((Sum.inr f.1:Key),f.2)) (.inr x)=fs.lookup x
 | []=>rfl
 | (y,v)::fs=>by
  rw [Zh,List.lookup_cons]
  by_cases h:y=x
  · rw [b6 (by rw [h]),h]; simp
  ·rw [b7 (λ z=>h (by injection z)),mN fs]
   have:(x == y)=false:=by simpa using λ z=>h z.symm
   rw [this]
def cq (i:Nat):DPx:=λ _=>some (i,[])
def jq (C:Addr) (x:Str) (f:DPx):DPx:=λ τ=>(f τ).bind λ p=>match aO τ p.1 p.2 with
 | some (.n (.o C') _)=>if C'=C then some (p.1,p.2++[.k (.inr x)]) else none
 | _=>none
def p4 (f:DPx) (g:DE):DPx:=λ τ=>(f τ).bind λ p=>(g (aY τ)).bind λ d=>(l3 d).bind λ k=>match aO τ p.1 p.2 with
 | some (.n .d _)=>some (p.1,p.2++[.k k])
 | _=>none
def Hn (f:DPx) (g:DE):DPx:=λ τ=>(f τ).bind λ p=>(g (aY τ)).bind λ d=>match d,aO τ p.1 p.2 with
 | .int i,some (.n .l _)=>if 0<=i then some (p.1,p.2++[.i i.toNat]) else none
 | _,_=>none
section
variable {K:W.Frag} {Hs0 H0 Hs H Hs' H':Hp} {ρ:List (Option Addr)} {σ:St} {τ:List Sm}
def bA.child {i:Nat} {q:List Stp} {st:Stp} {t:Tg} {cs:List (Key×Mt)} {m2:Mt} {rt v1:V} (r:bA K Hs0 H0 ρ Hs H σ τ) (hg:aO τ i q=some (.n t cs)) (hg2:aO τ i (q++[st])=some m2) (hi:σ[i]?=some (some rt)) (hv:vAt H rt q=some v1) :
  ∃ (a dx:Addr) (ts:List Kd) (u:HO) (w:V),v1=.ref a/\cs=ts.map Kd.km/\H a=some u/\Lay t dx (ts.map Kd.kv) u/\vAt H rt (q++[st])=some w/\vAt H (.ref a) [st]=some w:=by
 obtain ⟨fp,s⟩:=r.st;obtain ⟨a,dx,ts,u,rfl,rfl,ha,hl,_⟩:=StM.node r.ext s hg hi hv;obtain ⟨b,m,e1,e2⟩:=dm hg2;obtain ⟨m1,e3,e4⟩:=xp q e2;have e5:aO τ i q=m.get q:=by unfold aO; rw [e1]
 rw [e5,e3] at hg;cases hg;have e':(match tF t (ts.map Kd.km) st with | none=>none | some i=>match (ts.map Kd.km)[i]? with | none=>none | some c=>Mt.get c.2 [])=some m2:=e4
 cases e6:tF t (ts.map Kd.km) st with
 | none=>rw [e6] at e'; cases e'
 | some j =>
  rw [e6] at e'
  cases e7:(ts.map Kd.km)[j]? with
  | none=>simp only [e7] at e'; cases e'
  | some c =>
   obtain ⟨t1,k,t2,_,_,_,q4⟩:=sO ha hl e6 e7;have w:vAt H (.ref a) [st]=some k.v:=by rw [q4]; cases k.v <;> rfl
   exact ⟨a,dx,ts,u,k.v,rfl,rfl,ha,hl,by rw [mO q hv]; exact w,w⟩
end
section
variable {X:Cx} {a b c e o:Expr} {es:List Expr} {pos apos cpos pos':Pos} {x:Str}
def PVm.em (h:PVm X e f):PEm X e f:=PE.imp h λ σ H Q ⟨Hs0,H0,nf,ρ,Hs,τ,s,τ',r,e,k⟩=>⟨Hs0,H0,nf,ρ,Hs,τ,s,τ',r,e,λ v Hs' H' _ r'=>k v Hs' H' r'⟩
def Nu (h:PEd X e g):PVm X e (eS g):=PE.imp h λ σ H Q ⟨Hs0,H0,nf,ρ,Hs,τ,s,τ',r,e,k⟩=>by
 obtain ⟨d,e1,e2⟩:=bind_some e;split at e2
 ·rename_i hs
  cases e2;obtain ⟨fp,st⟩:=r.st;exact ⟨H,H,aY τ,[],d,st.aY r.sm,.refl H,e1,λ v Hs' H' g1 rv=>k v Hs H' g1.hh ((r.grow g1.hh).push (q9 rv hs))⟩
 · cases e2
def Nr (h:PEd X e g):PVm X e (eN g):=PE.imp h λ σ H Q ⟨Hs0,H0,nf,ρ,Hs,τ,s,τ',r,e,k⟩=>by
 obtain ⟨d,e1,e2⟩:=Zm e;cases e2;obtain ⟨fp,st⟩:=r.st;exact ⟨H0,Hs,er τ,[],d,st.er,r.sm,e1,λ v Hs' H' g1 rv=>k v Hs' H' g1.hh ((r.ext' g1).push rv)⟩
def Nq (h:PEo X e g):PVm X e (eO g):=PE.imp h λ σ H Q ⟨Hs0,H0,nf,ρ,Hs,τ,s,τ',r,e,k⟩=>by
 obtain ⟨d,e1,e2⟩:=bind_some e;split at e2
 ·split at e2
  ·rename_i hs
   cases e2;obtain ⟨fp,st⟩:=r.st;refine ⟨H,H,aY τ,[],_,st.aY r.sm,.refl H,e1,λ a Hs' H' g1 ow hn=>?_⟩
   cases ow with
   | lst h n rr=>exact k _ Hs H' g1.hh (r.BO g1.hh (Od.lst h (r.sm.free hn) (jk rr hs)) λ c hc=>by rw [Zn.mp hc]; exact hn)
  · cases e2
 · cases e2
def Nn (i:Nat) (hN:X.N[i]?=some x:=by rfl) (hv:Vis X.env.scope x:=by first | exact Or.inl rfl | exact Or.inr (Or.inl rfl) | exact Or.inr (Or.inr rfl)) (hd:(x == ("__debug__":Str))=false:=by decide) (hcd:(x == ("__classdict__":Str))=false:=by decide):PVm X (.Name x p) (eV i) :=
 (eJ hN hv hd hcd).imp λ σ H Q ⟨Hs0,H0,nf,ρ,Hs,τ,s,τ',r,e,k⟩=>by
   obtain ⟨fp,st⟩:=r.st;unfold eV at e;split at e
   ·rename_i m em
    cases e;obtain ⟨v,fq,fp',h1,h2,h3,h4,h5⟩:=st.out em;exact ⟨v,h1,k v Hs H (.refl H) ⟨r.ext,fq++fp',.mu h2 (λ e=>by cases e) (λ c hc=>(st.live c (h4 c hc).2).2.2) (λ c hc=>(h4 c hc).1) h3⟩⟩
   ·rename_i d ed
    cases e;obtain ⟨v,h1,h2⟩:=N3 st ed;exact ⟨v,h1,k v Hs H (.refl H) (r.push h2)⟩
   · cases e
def E6 (i:Nat) (hN:X.N[i]?=some x:=by rfl) (hv:Vis X.env.scope x:=by first | exact Or.inl rfl | exact Or.inr (Or.inl rfl) | exact Or.inr (Or.inr rfl)) (hd:(x == ("__debug__":Str))=false:=by decide) (hcd:(x == ("__classdict__":Str))=false:=by decide):PXm X (.Name x p) (cq i) :=
 (eJ hN hv hd hcd).imp λ σ H Q ⟨Hs0,H0,nf,ρ,Hs,τ,i',q,m,r,e,eg,k⟩=>by
   cases e;obtain ⟨b,m',e3,e4⟩:=dm eg;obtain ⟨fp,st⟩:=r.st;obtain ⟨v,fp1,v1,w1,w2,_⟩:=st.sX e3 e4;exact ⟨v,w1,k v v H (.refl H) w1 (by cases v <;> rfl)⟩
def E8 {C:Addr} {f:DPx} (cl:Cls X.K C) (n:cG X.K C x) (he:PXm X e f) (hb:attributeBase e x X.env (eval e X.env)=eval e X.env:=by rfl):PXm X (.Attribute e x pos) (jq C x f) :=
 (AN he hb).imp λ σ H Q ⟨Hs0,H0,nf,ρ,Hs,τ,i',q',m,r,e,eg,k⟩=>by
   obtain ⟨⟨i,q⟩,e1,e2⟩:=bind_some e;split at e2
   ·rename_i C' cs en
    split at e2
    ·rename_i hc
     subst hc;cases e2;refine ⟨Hs0,H0,nf,ρ,Hs,τ,i,q,_,r,e1,en,λ v v1 H' g hv hq=>?_⟩;obtain ⟨a,dx,ts,u,w,rfl,rfl,ha,hl,w1,w2⟩:=(r.grow g).child en eg hv hq;generalize ek:ts.map Kd.kv=kvs at hl
     cases hl with
     | o fs =>
      have w3:((cI (fs.map λ f=>((Sum.inr f.1:Key),f.2)) (.inr x)).bind λ v=>vAt H' v [])=some w:=by
       have:=w2;simp only [vAt,ha] at this;exact this
      obtain ⟨y,h1,h2⟩:=bind_some w3;have ey:y=w:=by cases y <;> exact Zj h2
      subst ey;rw [mN] at h1;exact ⟨a,C',dx,fs,y,rfl,ha,cl,n,h1,k v y H' g hv w1⟩
    · cases e2
   · cases e2
def E7 {f:DPx} {g:DE} (hu:X.A.units+1 < cLine) (he:PXm X a f) (hk:PEd X b g) (hs:Er b):PXm X (.Subscript a b pos) (p4 f g) :=
 (wg hu he hk hs).imp λ σ H Q ⟨Hs0,H0,nf,ρ,Hs,τ,i',q',m,r,e,eg,k⟩=>by
   obtain ⟨⟨i,q⟩,e1,e2⟩:=bind_some e;obtain ⟨d,e3,e4⟩:=bind_some e2;obtain ⟨ky,e5,e6⟩:=bind_some e4;split at e6
   ·rename_i cs en
    cases e6;refine ⟨Hs0,H0,nf,ρ,Hs,τ,i,q,_,r,e1,en,λ v v1 H1 g1 hv hq=>?_⟩;have r1:=r.grow g1;obtain ⟨fp,st⟩:=r1.st;refine ⟨H1,H1,aY τ,[],d,st.aY r1.sm,.refl H1,e3,λ y Hs2 H2 g2 ry=>?_⟩;have hy:=jR ry e5;subst hy;obtain ⟨a,dx,ts,u,w,rfl,rfl,ha,hl,w1,w2⟩:=(r1.grow g2.hh).child en eg hv (bU g2.hh q hq);generalize ek:ts.map Kd.kv=kvs at hl
    cases hl with
    | d _ =>
     have w3:((cI kvs ky).bind λ v=>vAt H2 v [])=some w:=by
      have:=w2;simp only [vAt,ha] at this;exact this
     obtain ⟨y,h1,h2⟩:=bind_some w3;have ey:y=w:=by cases y <;> exact Zj h2
     subst ey;exact ⟨a,y,rfl,by rw [<- h1]; exact uB.k ha,k v y H2 (g1.trans g2.hh) hv w1⟩
   · cases e6
def Jc {f:DPx} {g:DE} (he:PXm X a f) (hk:PEd X b g) (hs:lQ b):PXm X (.Subscript a b pos) (Hn f g) :=
 (Fz w9 he hk hs).imp λ σ H Q ⟨Hs0,H0,nf,ρ,Hs,τ,i',q',m,r,e,eg,k⟩=>by
   obtain ⟨⟨i,q⟩,e1,e2⟩:=bind_some e;obtain ⟨d,e3,e4⟩:=bind_some e2;split at e4
   ·rename_i j cs en
    split at e4
    ·rename_i hj
     cases e4;refine ⟨Hs0,H0,nf,ρ,Hs,τ,i,q,_,r,e1,en,λ v v1 H1 g1 hv hq=>?_⟩;have r1:=r.grow g1;obtain ⟨fp,st⟩:=r1.st;refine ⟨H1,H1,aY τ,[],_,st.aY r1.sm,.refl H1,e3,λ y Hs2 H2 g2 ry=>?_⟩;cases ry;obtain ⟨a,dx,ts,u,w,rfl,rfl,ha,hl,w1,w2⟩:=(r1.grow g2.hh).child en eg hv (bU g2.hh q hq);generalize ek:ts.map Kd.kv=kvs at hl
     cases hl with
     | l _ =>
      have w3:(((kvs.map (·.2))[j.toNat]?).bind λ v=>vAt H2 v [])=some w:=by
       have:=w2;simp only [vAt,ha] at this;exact this
      obtain ⟨y,h1,h2⟩:=bind_some w3;have ey:y=w:=by cases y <;> exact Zj h2
      subst ey;refine ⟨a,kvs.map (·.2),j,y,rfl,rfl,SqL.of ha,?_,k v y H2 (g1.trans g2.hh) hv w1⟩;have lt:=(List.getElem?_eq_some_iff.mp h1).1;unfold atI ixN;rw [if_pos (by omega)];rw [if_pos (by omega)];exact h1
    · cases e4
   · cases e4
end
section
variable {X:Cx}
def sd:∀ {ns:List Int} {us:List Value},bD (ns.map V.int) us->IntsAre us ns
 | [],_,.nil=>.nil
 | n::ns,_,.cons r t=>by
  obtain ⟨tk,rfl⟩:=r;exact .cons n tk (sd t)
variable {o e:Expr} {f g:DE} {apos cpos:Pos}
end
def BG:V->List V->Hp->VK->Prop:=λ x vs H Q=>∃ l ns k,x=.ref l/\vs=[.int k]/\H l=some (.lst (List.map V.int ns))/\ns.length<=1000/\k ∈ ns/\Q .non (upd H l (.lst ((ns.eraseIdx (ns.idxOf k)).map V.int)))
section
variable {X:Cx}
def bD.del:∀ {xs:List V} {us:List Value} (j:Nat),bD xs us->bD (xs.eraseIdx j) (us.eraseIdx j)
 | _,_,_,.nil=>.nil
 | _,_,0,.cons _ r=>r
 | _,_,j+1,.cons h r=>.cons h (bD.del j r)
def kU {α β:Type} (f:α->β):∀ (l:List α) (j:Nat),(l.eraseIdx j).map f=(l.map f).eraseIdx j
 | [],_=>rfl
 | _::_,0=>rfl
 | x::l,j+1=>Yh (f x::·) (kU f l j)
def wK:MtM X "list.remove" BG:=by
 intro pins s σ H x vs v us Q I rx rv h;obtain ⟨l,ns,k,rfl,rfl,hH,hz,hk,q⟩:=h;cases rx;obtain ⟨u,rfl,tu,rfl⟩:=vals1 rv;obtain ⟨z,its,n,r,hl,e⟩:=I.AX hH;have hi:=sd r;have hln:=hi.length;have hj:ns.idxOf k < ns.length:=List.idxOf_lt_length_iff.mpr hk
 refine call_meets PySem.F.slot_list_remove ⟨_,e,rfl⟩ PySem.F.entry_list_remove (PySem.F.args_list_remove_2 _ _)
  (MeetsSeq.list_remove l its.toArray n (.int k tu) (isInt k) (λ y hy=>eq_isInt k tu hi y (by simpa using hy)) (ns.idxOf k) (by rw [Zq,hln]; exact hj) ?_ (λ m h1 h2=>?_) (by rw [Zq,hln]; exact Z2 hz (by decide))) ⟨e,?_⟩
 ·show isInt k its[ns.idxOf k]=true
  rw [isInt_at k hi _ (by omega) hj]
  simpa using List.getElem_idxOf hj
 ·have h1':m < its.length:=by simpa using h1
  show isInt k its[m]=false;rw [isInt_at k hi m h1' (by omega)];exact ne_of_lt_idxOf h2 _
 ·refine ⟨.non,_,I.Gk (its':=its.eraseIdx (ns.idxOf k)) hH e ?_ (by rw [kU]; exact bD.del _ r) ?_,rfl,q⟩
  ·show its.toArray.eraseIdxIfInBounds (ns.idxOf k)=(its.eraseIdx (ns.idxOf k)).toArray
   rw [List.eraseIdxIfInBounds_toArray]
  · rw [Za]; exact Z2 (List.length_eraseIdx_le ..) (by rw [Za] at z; exact z)
end
def iO:DSm:=λ τ=>some (.next τ)
def vh:DSm:=λ _=>none
def dt (f g:DSm):DSm:=λ τ=>match f τ with
 | some (.next τ')=>g τ'
 | r=>r
def pV (t:DTm) (f g:DSm):DSm:=λ τ=>(t τ).bind λ x=>if x.1=true then f x.2 else g x.2
def fT (i:Nat) (f:DEm):DSm:=λ τ=>(f τ).bind λ x=>if i < x.2.length/\(toM x.1).isSome=true then some (.next (x.2.set i x.1)) else none
def jm (f:DEm):DSm:=λ τ=>(f τ).map λ x=>.ret x.1 x.2
def rl (f:DEm):DSm:=λ τ=>(f τ).map λ x=>.next x.2
def tS (g:DT):DTm:=λ τ=>(g (aY τ)).map λ b=>(b,τ)
def tE (f:DEm):DTm:=λ τ=>(f τ).bind λ x=>match x.1 with
 | .shr (.bl b)=>some (b,x.2)
 | _=>none
def tNt (f:DTm):DTm:=λ τ=>(f τ).map λ x=>(!x.1,x.2)
section
variable {X:Cx} {a b c e o:Expr} {es:List Expr} {pos apos cpos pos':Pos} {x:Str} {st:Stmt} {rest:List Stmt} {f g:DSm}
def yS:l8 X [] iO:=p5.imp λ E σ H ⟨Hs0,H0,nf,ρ,Hs,τ,o,r,e,k⟩=>by
 cases e;exact k σ Hs H r
def yR (h:PSm X st f):l8 X [st] f:=kJ h
def vN (h1:PSm X st f) (h2:l8 X rest g):l8 X (st::rest) (dt f g):=(j5 h1 h2).imp λ E σ H ⟨Hs0,H0,nf,ρ,Hs,τ,o,r,e,k⟩=>by
 unfold dt at e
 cases q:f τ with
 | none=>rw [q] at e; cases e
 | some o1 =>
  rw [q] at e;refine ⟨Hs0,H0,nf,ρ,Hs,τ,o1,r,q,?_⟩
  cases o1 with
  | next τ'=>exact λ σ' Hs' H' r'=>⟨Hs0,H0,nf,ρ,Hs',τ',o,r',e,k⟩
  | ret s τ'=>cases e; exact k
  | brk τ'=>cases e; exact k
  | cnt τ'=>cases e; exact k
def vQ:PSm X st vh:=λ _ _ _ _ _ _ ⟨_,_,_,_,_,_,_,_,e,_⟩=>by cases e
def Fd {t:DTm} {x y:List Stmt} (hc:PTm X c t) (ha:l8 X x f) (hb:l8 X y g):PSm X (.If c x y pos) (pV t f g):=(Ce hc ha hb).imp λ E σ H ⟨Hs0,H0,nf,ρ,Hs,τ,o,r,e,k⟩=>by
 obtain ⟨⟨bb,τ1⟩,e1,e2⟩:=bind_some e;refine ⟨Hs0,H0,nf,ρ,Hs,τ,bb,τ1,r,e1,λ Hs' H' r'=>?_⟩
 cases bb with
 | true=>exact ⟨Hs0,H0,nf,ρ,Hs',τ1,o,r',by simpa using e2,k⟩
 | false=>exact ⟨Hs0,H0,nf,ρ,Hs',τ1,o,r',by simpa using e2,k⟩
def B0 {f:DEm} (h:PEm X e f):PSm X (.Return (some e) pos) (jm f):=(mf h).imp λ E σ H ⟨Hs0,H0,nf,ρ,Hs,τ,o,r,e,k⟩=>by
 obtain ⟨⟨s,τ1⟩,e1,rfl⟩:=Zm e;exact ⟨Hs0,H0,nf,ρ,Hs,τ,s,τ1,r,e1,λ v Hs' H' r'=>k v σ Hs' H' r'⟩
def BZ {i:Nat} {f:DEm} (hN:X.N.Nodup) (hi:X.N[i]?=some x) (hx:Loc X.env.scope x) (he:PEm X e f) (hs:swapsWith e (some (.Name x pos')) pos.line X.env=pure false:=by rfl) (hf:X.fn x=true\/X.env.scope.names.lookup x=some .local:=by first | exact .inl rfl | exact .inr rfl | assumption) :
  PSm X (.Assign [.Name x pos'] e pos) (fT i f):=(rz hN hi hx he hs hf).imp λ E σ H ⟨Hs0,H0,nf,ρ,Hs,τ,o,r,e,k⟩=>by
 obtain ⟨⟨s,τ1⟩,e1,e2⟩:=bind_some e;split at e2
 ·rename_i h
  cases e2;exact ⟨Hs0,H0,nf,ρ,Hs,τ,s,τ1,r,e1,λ v Hs' H' r'=>k _ Hs' H' (r'.into h.1 h.2)⟩
 · cases e2
def yW {f:DEm} (he:PEm X e f) (hs:swapsWith e none pos.line X.env=pure false:=by rfl):PSm X (.Expr e pos) (rl f):=(fk he hs).imp λ E σ H ⟨Hs0,H0,nf,ρ,Hs,τ,o,r,e,k⟩=>by
 obtain ⟨⟨s,τ1⟩,e1,rfl⟩:=Zm e;exact ⟨Hs0,H0,nf,ρ,Hs,τ,s,τ1,r,e1,λ v Hs' H' r'=>k σ Hs' H' r'.pop⟩
def rg (g:DE):DSm:=λ τ=>(g (aY τ)).map λ _=>.next τ
def vU {g:DE} (he:PEd X e g) (hs:swapsWith e none pos.line X.env=pure false:=by rfl):PSm X (.Expr e pos) (rg g):=(fk he hs).imp λ E σ H ⟨Hs0,H0,nf,ρ,Hs,τ,o,r,e,k⟩=>by
 obtain ⟨d,e1,rfl⟩:=Zm e;obtain ⟨fp,st⟩:=r.st;exact ⟨H,H,aY τ,[],d,st.aY r.sm,.refl H,e1,λ v Hs' H' g1 rv=>k σ Hs H' (r.grow g1.hh)⟩
def Jd {g:DT} (h:PTd X e g):PTm X e (tS g):=PT.imp h λ σ H Q ⟨Hs0,H0,nf,ρ,Hs,τ,b,τ',r,e,k⟩=>by
 obtain ⟨b',e1,e2⟩:=Zm e;cases e2;obtain ⟨fp,st⟩:=r.st;exact ⟨H,H,aY τ,[],b,st.aY r.sm,.refl H,e1,λ Hs' H' g1=>k Hs H' (r.grow g1.hh)⟩
def BP {f:DEm} (h:PEm X e f) (he:∀ whole,isTrue e X.env whole=(do let v <- whole; standAt e.pos; holding [v] (truthy v)):=by intro _; rfl):PTm X e (tE f):=(AI h he).imp λ σ H Q ⟨Hs0,H0,nf,ρ,Hs,τ,b,τ',r,e,k⟩=>by
 obtain ⟨⟨s,τ1⟩,e1,e2⟩:=bind_some e;split at e2
 ·rename_i b' es
  cases e2;have es':s=.shr (.bl b):=es;subst es';refine ⟨Hs0,H0,nf,ρ,Hs,τ,_,τ1,r,e1,λ v Hs' H' r'=>?_⟩;have:=r'.st;obtain ⟨fp,st⟩:=this
  cases st with
  | shr h _=>cases h; exact ⟨b,rfl,k Hs' H' r'.pop⟩
 · cases e2
def BQ {f:DTm} (h:PTm X e f):PTm X (.UnaryOp .Not e pos) (tNt f):=(AJ h).imp λ σ H Q ⟨Hs0,H0,nf,ρ,Hs,τ,b,τ',r,e,k⟩=>by
 obtain ⟨⟨b',τ1⟩,e1,e2⟩:=Zm e;cases e2;exact ⟨Hs0,H0,nf,ρ,Hs,τ,b',_,r,e1,λ Hs' H' r'=>k Hs' H' r'⟩
def eD (cs:List (Key×Mt)) (k:Key) (m:Mt):List (Key×Mt):=if cs.any (λ c=>decide (c.1=k)) then cs.map (λ c=>if c.1=k then (c.1,m) else c) else cs++[(k,m)]
def ui (cs:List (Key×Mt)) (k:Key):List (Key×Mt):=cs.filter λ c=>decide (c.1≠k)
def kH (k:Key) (nd:(ts.map Kd.k).Nodup):∃ l1 l2,(l1++l2).Sublist ts/\∀ n:Kd,n.k=k->(l1++n::l2).map Kd.kv=putK (ts.map Kd.kv) k n.v/\(l1++n::l2).map Kd.km=eD (ts.map Kd.km) k n.m/\((l1++n::l2).map Kd.k).Nodup:=by
 have ea:∀ {α:Type} (g:Kd->α),k ∈ ts.map Kd.k->((ts.map λ t=>(t.k,g t)).any λ c=>decide (c.1=k))=true:=λ g h=>by
  rw [List.any_map,List.any_eq_true];obtain ⟨t,ht,rfl⟩:=Z4.mp h;exact ⟨t,ht,by simp⟩
 have en:∀ {α:Type} (g:Kd->α),k ∉ ts.map Kd.k->((ts.map λ t=>(t.k,g t)).any λ c=>decide (c.1=k))=false:=λ g h=>by
  rw [List.any_map,List.any_eq_false];exact λ t ht z=>h (Z4.mpr ⟨t,ht,by simpa using z⟩)
 by_cases h:k ∈ ts.map Kd.k
 ·obtain ⟨t,ht,et⟩:=Z4.mp h
  obtain ⟨l1,l2,rfl⟩:=List.append_of_mem ht;have nd':=nd;rw [Zr,Zh,Yd,Zy] at nd';have n1:∀ c ∈ l1,c.k≠k:=λ c hc z=>nd'.2.2 c.k (Yb hc) t.k (Zd ..) (by rw [z,et])
  have n2:∀ c ∈ l2,c.k≠k:=λ c hc z=>nd'.2.1.1 (by rw [et,<- z]; exact Yb hc)
  refine ⟨l1,l2,List.Sublist.append (.refl _) (List.sublist_cons_self ..),λ n hn=>⟨?_,?_,?_⟩⟩
  ·unfold putK
   rw [show ((l1++t::l2).map Kd.kv).any (λ kv=>decide (kv.1=k))=_ from ea Kd.v h,if_pos rfl,Zw,Zr,Zr,Zh,Zh];congr 1
   · exact Zu λ c hc=>(if_neg (n1 c hc)).symm
   ·rw [show ((λ kv=>if kv.1=k then (kv.1,n.v) else kv) ∘ Kd.kv) t=(t.k,n.v) from if_pos et,et,<- hn]
    congr 1;exact Zu λ c hc=>(if_neg (hn.symm ▸ n2 c hc)).symm
  ·unfold eD
   rw [show ((l1++t::l2).map Kd.km).any (λ kv=>decide (kv.1=k))=_ from ea Kd.m h,if_pos rfl,Zw,Zr,Zr,Zh,Zh];congr 1
   · exact Zu λ c hc=>(if_neg (n1 c hc)).symm
   ·rw [show ((λ c=>if c.1=k then (c.1,n.m) else c) ∘ Kd.km) t=(t.k,n.m) from if_pos et,et,<- hn]
    congr 1;exact Zu λ c hc=>(if_neg (hn.symm ▸ n2 c hc)).symm
  ·rw [Zr,Zh,hn,<- et,<- Zh,<- Zr]
   exact nd
 ·refine ⟨ts,[],by rw [Z0]; exact .refl _,λ n hn=>⟨?_,?_,?_⟩⟩
  ·unfold putK
   rw [show (ts.map Kd.kv).any (λ kv=>decide (kv.1=k))=_ from en Kd.v h,if_neg (by simp),Zr,<- hn];rfl
  ·unfold eD
   rw [show (ts.map Kd.km).any (λ kv=>decide (kv.1=k))=_ from en Kd.m h,if_neg (by simp),Zr,<- hn];rfl
  ·rw [Zr,Zh,Yd,hn]
   exact ⟨nd,by simp,λ c hc c' hc' z=>h (by rw [<- Zn.mp hc',<- z]; exact hc)⟩
def rq:∀ {fs:List (Str×V)},(fs.map Prod.fst).Nodup->(lX x v fs).map (λ f=>((Sum.inr f.1:Key),f.2))=putK (fs.map λ f=>((Sum.inr f.1:Key),f.2)) (.inr x) v
 | [],_=>rfl
 | (y,w)::fs,nd=>by
  rw [Zh,Zy] at nd
  by_cases h:y=x
  ·subst h
   rw [show lX y v ((y,w)::fs)=(y,v)::fs from if_pos rfl];unfold putK;rw [show ((((y,w)::fs).map λ f=>((Sum.inr f.1:Key),f.2)).any λ kv=>decide (kv.1=Sum.inr y))=true from by simp,if_pos rfl,Zh,Zh,Zh,Zw];congr 1
   · simp
   · exact Zu λ c hc=>(if_neg (λ z=>nd.1 (by injection z with z; exact Z4.mpr ⟨c,hc,z⟩))).symm
  ·rw [show lX x v ((y,w)::fs)=(y,w)::lX x v fs from if_neg h,Zh,rq nd.2]
   unfold putK;rw [Zh,Xh,show decide ((Sum.inr y:Key)=Sum.inr x)=false from Zk (λ z=>h (by injection z)),Bool.false_or];split
   · rw [Zh,if_neg (λ z=>h (by injection z))]
   · rfl
def cA (px:DPx) (gk:DE) (fv:DEm):DSm:=λ τ=>(fv τ).bind λ x=>(px x.2).bind λ p=>(gk (aY x.2)).bind λ d=>(l3 d).bind λ k=>(toM x.1).bind λ mv=>match aO x.2 p.1 p.2 with
 | some (.n .d cs)=>if cs.length < 100000 then some (.next (cJ x.2 p.1 p.2 (.n .d (eD cs k mv)))) else none
 | _=>none
def yX (hu:X.A.units+1 < cLine) (ho:PXm X o px) (hi:PEd X i gk) (hv:PEm X value fv) (hs:swapsWith value (some (.Subscript o i pos')) pos.line X.env=pure false:=by rfl) :
  PSm X (.Assign [.Subscript o i pos'] value pos) (cA px gk fv):=(p6 hu ho hi hv hs).imp λ E σ H ⟨Hs0,H0,nf,ρ,Hs,τ,o,r,e,k⟩=>by
 obtain ⟨⟨s,τ1⟩,e1,e⟩:=bind_some e;obtain ⟨⟨i,q⟩,e2,e⟩:=bind_some e;obtain ⟨d,e3,e⟩:=bind_some e;obtain ⟨ky,e4,e⟩:=bind_some e;obtain ⟨mv,e5,e⟩:=bind_some e;split at e
 ·rename_i cs en
  split at e
  ·rename_i hz
   cases e;refine ⟨Hs0,H0,nf,ρ,Hs,τ,s,τ1,r,e1,λ v Hs1 H1 r1=>?_⟩;refine ⟨Hs0,H0,nf,ρ,Hs1,τ1,i,q,_,r1.pop,e2,en,λ rt v1 H2 g2 hrt hq=>?_⟩;have r2:=r1.grow g2;obtain ⟨fp,st⟩:=r2.pop.st;refine ⟨H2,H2,aY τ1,[],d,st.aY r2.sm,.refl H2,e3,λ y Hs3 H3 g3 ry=>?_⟩;have hy:=jR ry e4;subst hy;obtain ⟨a,dx,ts,u,fv,rfl,rfl,ha,hl,ku,fin⟩:=(r2.grow g3.hh).tT e5 en hrt (bU g3.hh q hq);obtain ⟨l1,l2,hsub,spl⟩:=kH ky ku;obtain ⟨p1,p2,p3⟩:=spl ⟨ky,v,mv,fv⟩ rfl;generalize ek:ts.map Kd.kv=kvs at hl
   cases hl with
   | d _ =>
    refine ⟨a,_,rfl,Ei.k ha (by rw [<- ek,Za,<- Za (f:=Kd.km)]; exact le5 (Yn hz)),?_⟩;have:=fin l1 ky l2 (.dK (putK kvs ky v)) hsub (by rw [p1,ek]; exact .d _) p3;rw [p2] at this;exact k σ Hs1 _ this
  · cases e
 · cases e
def tq (C:Addr) (x:Str) (px:DPx) (fv:DEm):DSm:=λ τ=>(fv τ).bind λ y=>(px y.2).bind λ p=>(toM y.1).bind λ mv=>match aO y.2 p.1 p.2 with
 | some (.n (.o C') cs)=>if C'=C/\cs.length < 1000 then some (.next (cJ y.2 p.1 p.2 (.n (.o C) (eD cs (.inr x) mv)))) else none
 | _=>none
def B5 (cl:Cls X.K C) (n:cG X.K C x) (ho:PXm X o px) (hv:PEm X value fv) (hs:swapsWith value (some (.Attribute o x pos')) pos.line X.env=pure false:=by rfl) :
  PSm X (.Assign [.Attribute o x pos'] value pos) (tq C x px fv):=(Ff ho hv hs).imp λ E σ H ⟨Hs0,H0,nf,ρ,Hs,τ,o,r,e,k⟩=>by
 obtain ⟨⟨s,τ1⟩,e1,e⟩:=bind_some e;obtain ⟨⟨i,q⟩,e2,e⟩:=bind_some e;obtain ⟨mv,e5,e⟩:=bind_some e;split at e
 ·rename_i C' cs en
  split at e
  ·rename_i hz
   obtain ⟨hc,hz⟩:=hz;subst hc;cases e;refine ⟨Hs0,H0,nf,ρ,Hs,τ,s,τ1,r,e1,λ v Hs1 H1 r1=>?_⟩;refine ⟨Hs0,H0,nf,ρ,Hs1,τ1,i,q,_,r1.pop,e2,en,λ rt v1 H2 g2 hrt hq=>?_⟩;obtain ⟨a,dx,ts,u,fv,rfl,rfl,ha,hl,ku,fin⟩:=(r1.grow g2).tT e5 en hrt hq;obtain ⟨l1,l2,hsub,spl⟩:=kH (.inr x) ku;obtain ⟨p1,p2,p3⟩:=spl ⟨.inr x,v,mv,fv⟩ rfl;have ku':(ts.map Kd.k).Nodup:=ku;generalize ek:ts.map Kd.kv=kvs at hl
   cases hl with
   | o fs =>
    have nf:(fs.map Prod.fst).Nodup:=by
     have e0:ts.map Kd.k=(fs.map Prod.fst).map (λ x=>(Sum.inr x:Key)):=by
      rw [Zw,show ts.map Kd.k=(ts.map Kd.kv).map Prod.fst by rw [Zw]; rfl,ek,Zw];rfl
     rw [e0] at ku';exact List.Pairwise.of_map _ (λ a b h e=>h (by rw [e])) ku'
    refine ⟨a,C',dx,fs,rfl,ha,cl,n,?_,?_⟩
    ·have:=Yh List.length ek
     rw [Za,Za] at this;rw [Za] at hz;omega
    ·have:=fin l1 (.inr x) l2 (.ins C' dx (lX x v fs)) hsub (by rw [p1,ek,<- rq nf]; exact .o _) p3
     rw [p2] at this;exact k σ Hs1 _ this
  · cases e
 · cases e
end
section
variable {K:W.Frag} {Hs0 H0 Hs H Hs' H':Hp} {ρ:List (Option Addr)} {σ:St} {τ:List Sm}
def t4 {dx:Addr} {ts:List Kd} {u:HO} (h:Lay .l dx (ts.map Kd.kv) u):u=.lst (ts.map Kd.v):=by
 generalize ek:ts.map Kd.kv=kvs at h
 cases h with
 | l _=>rw [<- ek,Zw]; rfl
def rW {dx:Addr} {ts:List Kd}:Lay .l dx (ts.map Kd.kv) (.lst (ts.map Kd.v)):=by
 have:=Lay.l (dx:=dx) (ts.map Kd.kv);rw [Zw] at this;exact this
def t5 {dx:Addr} {ts:List Kd} {u:HO} (h:Lay .d dx (ts.map Kd.kv) u):u=.dK (ts.map Kd.kv):=by
 generalize ek:ts.map Kd.kv=kvs at h
 cases h with
 | d _=>rfl
def bA.wH (r:bA K Hs0 H0 ρ Hs H σ τ) (hg:aO τ i q=some (.n t cs)) (hi:σ[i]?=some (some rt)) (hv:vAt H rt q=some v1) :
  ∃ (a dx:Addr) (ts:List Kd) (u:HO),v1=.ref a/\cs=ts.map Kd.km/\H a=some u/\Lay t dx (ts.map Kd.kv) u/\KU t ts/\(∀ c ∈ ts,Rp K H c.v (frz c.m)) /\
  ∀ ts' ks u',ts'.Sublist ts->(∀ k ∈ ks,k.fp=[]/\Od K Hs H [] k.v k.m)->Lay t dx ((ts'++ks).map Kd.kv) u'->KU t (ts'++ks)->bA K Hs0 H0 ρ Hs (upd H a u') σ (cJ τ i q (.n t ((ts'++ks).map Kd.km))):=by
 obtain ⟨fp,st⟩:=r.st;obtain ⟨b,m,em,eg⟩:=dm hg;obtain ⟨v,fp1,v1',w1,w2,w3,w4,w5⟩:=st.sX em eg;rw [hi] at w1;cases w1;rw [hv] at w2;cases w2;obtain ⟨a,dx,ts,u,rfl,rfl,rfl,ha,hl,nh,ku,nd,rr⟩:=w3.inv;have afp:a ∈ fp:=w4 a (Zd ..);have h0:=(st.live a afp).2.2;have nd1:=Zy.mp nd;refine ⟨a,dx,ts,u,rfl,rfl,ha,hl,ku,λ c hc=>(rr c hc).rp r.sm,λ ts' ks u' hsub hks hl' ku'=>?_⟩
 have ex:Ext Hs0 H0 Hs (upd H a u'):=by
  refine ⟨r.ext.ss,λ c o e=>?_,λ c o e=>?_,r.ext.fr⟩
  · rw [aj (λ z=>by rw [z,nh] at e; cases e)]; exact r.ext.sh c o e
  · rw [aj (λ z=>by rw [z,h0] at e; cases e)]; exact r.ext.hh c o e
 have kz:ks.flatMap Kd.fp=[]:=by
  rw [List.flatMap_eq_nil_iff];exact λ c hc=>(hks c hc).1
 have sf:=mR hsub
 have nda':(a::(ts'++ks).flatMap Kd.fp).Nodup:=by
  rw [Yl,kz,Z0];exact Zy.mpr ⟨λ z=>nd1.1 (sf.subset z),nd1.2.sublist sf⟩
 have od:Od K Hs (upd H a u') (a::(ts'++ks).flatMap Kd.fp) (.ref a) (.n t ((ts'++ks).map Kd.km)):=by
  refine .n aq hl' nh ku' nda' λ c hc=>?_
  have na:a ∉ c.fp:=λ z=>(Zy.mp nda').1 (Yr.mpr ⟨c,hc,z⟩)
  rcases Zi.mp hc with hc | hc
  ·have o:=rr c (hsub.subset hc)
   exact o.mv (.refl _) λ x hx=>⟨(o.live x hx).1,aj λ z=>na (z ▸ hx)⟩
  ·obtain ⟨k1,k2⟩:=hks c hc
   rw [k1];exact k2.mv (.refl _) λ x hx=>by cases hx
 obtain ⟨fp',s',_⟩:=w5 Hs (upd H a u') _ _ (.refl _) (λ c hc hn=>⟨(st.live c hc).1,aj λ z=>hn (by rw [z]; exact Zd ..)⟩) od λ c hc=>by
  rw [Yl,kz,Z0] at hc;rcases Zl.mp hc with rfl | hc
  · exact .inl (Zd ..)
  · exact .inl (Zc _ (sf.subset hc))
 exact ⟨ex,fp',by unfold cJ; rw [em]; exact s'⟩
def bA.isList (r:bA K Hs0 H0 ρ Hs H σ τ) (hg:aO τ i q=some (.n .l cs)) (hi:σ[i]?=some (some rt)) (hv:vAt H rt q=some v1):tyV K "list" v1 H:=by
 obtain ⟨a,dx,ts,u,rfl,rfl,ha,hl,_⟩:=r.wH hg hi hv;rw [t4 hl] at ha;exact .inl ⟨rfl,_,SqL.of ha⟩
end
def yE (px:DPx) (fv:DEm):DSm:=λ τ=>(px τ).bind λ p=>match aO τ p.1 p.2 with
 | some (.n .l _)=>(fv τ).bind λ x=>(toM x.1).bind λ mv=>match aO x.2 p.1 p.2 with
  | some (.n .l cs)=>if cs.length < 100000 then some (.next (cJ x.2 p.1 p.2 (.n .l (cs++[(.inl 0,mv)])))) else none
  | _=>none
 | _=>none
def Ie (cs:List (Key×Mt)) (i:Nat) (m:Mt):List (Key×Mt):=cs.take i++(.inl 0,m)::cs.drop i
def yD (px:DPx) (gi:DE) (fv:DEm):DSm:=λ τ=>(px τ).bind λ p=>match aO τ p.1 p.2 with
 | some (.n .l _)=>(gi (aY τ)).bind λ d=>(fv τ).bind λ x=>(toM x.1).bind λ mv=>match d,aO x.2 p.1 p.2 with
  | .int i,some (.n .l cs)=>if 0<=i/\i<=cs.length/\cs.length < 100000 then some (.next (cJ x.2 p.1 p.2 (.n .l (Ie cs i.toNat mv)))) else none
  | _,_=>none
 | _=>none
def vg (px:DPx) (g:DE):DSm:=λ τ=>(px τ).bind λ p=>(g (aY τ)).bind λ d=>match d,aO τ p.1 p.2 with
 | .int k,some (.n .l cs)=>(dz (xq cs)).bind λ ns=>if ns.length<=1000/\k ∈ ns then some (.next (cJ τ p.1 p.2 (.n .l (cs.eraseIdx (ns.idxOf k))))) else none
 | _,_=>none
def yC (px:DPx) (gk:DE):DSm:=λ τ=>(px τ).bind λ p=>(gk (aY τ)).bind λ d=>(l3 d).bind λ k=>match aO τ p.1 p.2 with
 | some (.n .d cs)=>if (cs.any λ c=>decide (c.1=k))=true then some (.next (cJ τ p.1 p.2 (.n .d (ui cs k)))) else none
 | _=>none
def Ed {ts:List Kd} {k:Key} (h:((ts.map Kd.km).any λ c=>decide (c.1=k))=true):∃ v,cI (ts.map Kd.kv) k=some v:=by
 rw [<- Y2,<- gH];rw [List.any_map] at h ⊢;exact h
section
variable {X:Cx} {a b c e o:Expr} {es:List Expr} {pos apos cpos pos':Pos} {x:Str}
def B6 (ho:PXm X o px) (he:PVm X e fv)
   (hbase:attributeBase o "append" X.env (eval o X.env)=eval o X.env:=by rfl)
   (hfew:((backTo cpos (starEach [e] X.env)).all (λ x=>!x.1)&&(backToKw cpos (keywordEach [] X.env)).all (λ x=>x.1.isSome)
     && decide ([e].length+([]:List Keyword).length+(if ([]:List Keyword).isEmpty then 0 else 1) < 30))=true:=by rfl)
   (hline:(apos.endLine == cpos.line)=true:=by rfl) (hst:starEach [e] X.env=(false,eval e X.env)::starEach [] X.env:=by rfl) (hplain:(backTo cpos (starEach [] X.env)).any (·.1)=false:=by rfl)
   (hs:swapsWith (.Call (.Attribute o "append" apos) [e] [] cpos) none pos.line X.env=pure false:=by rfl) :
   PSm X (.Expr (.Call (.Attribute o "append" apos) [e] [] cpos) pos) (yE px fv) :=
 (fk (tJ Yy PySem.F.slot_list_append PySem.F.type_list_append oi ho (cB he eL hst) hbase hfew hline hst hplain) hs).imp λ E σ H ⟨Hs0,H0,nf,ρ,Hs,τ,o,r,e,k⟩=>by
   obtain ⟨⟨i,q⟩,e1,e⟩:=bind_some e;split at e
   · rename_i cs0 en0
     obtain ⟨⟨s,τ1⟩,e2,e⟩:=bind_some e;obtain ⟨mv,e3,e⟩:=bind_some e;split at e
     ·rename_i cs en
      split at e
      ·rename_i hz
       cases e;refine ⟨Hs0,H0,nf,ρ,Hs,τ,i,q,_,r,e1,en0,λ rt v1 H1 g1 hrt hq=>⟨(r.grow g1).isList en0 hrt hq,?_⟩⟩;refine ⟨Hs0,H0,nf,ρ,Hs,τ,s,τ1,r.grow g1,e2,λ v Hs2 H2 g2 r2=>?_⟩;obtain ⟨a,dx,ts,u,fv,rfl,rfl,ha,hl,ku,fin⟩:=r2.tT e3 en hrt (bU g2 q hq);rw [t4 hl] at ha;refine ⟨a,_,v,rfl,rfl,ha,by rw [Za]; rw [Za] at hz; exact le5 (Yn hz),?_⟩
       have:=fin ts (.inl 0) [] (.lst (ts.map Kd.v++[v])) (by rw [Z0]; exact .refl _) (by
        have:=rW (dx:=dx) (ts:=ts++[⟨.inl 0,v,mv,fv⟩]);rw [Zr (f:=Kd.v)] at this
        exact this) trivial
       rw [Zr] at this;exact k σ Hs2 _ this
      · cases e
     · cases e
   · cases e
def B3 (ho:PXm X o px) (hi:PEd X i gi) (he:PVm X e fv)
   (hbase:attributeBase o "insert" X.env (eval o X.env)=eval o X.env:=by rfl)
   (hfew:((backTo cpos (starEach [i,e] X.env)).all (λ x=>!x.1)&&(backToKw cpos (keywordEach [] X.env)).all (λ x=>x.1.isSome)
     && decide ([i,e].length+([]:List Keyword).length+(if ([]:List Keyword).isEmpty then 0 else 1) < 30))=true:=by rfl)
   (hline:(apos.endLine == cpos.line)=true:=by rfl) (hst:starEach [i,e] X.env=(false,eval i X.env)::starEach [e] X.env:=by rfl) (hst2:starEach [e] X.env=(false,eval e X.env)::starEach [] X.env:=by rfl) (hplain:(backTo cpos (starEach [e] X.env)).any (·.1)=false:=by rfl)
   (hs:swapsWith (.Call (.Attribute o "insert" apos) [i,e] [] cpos) none pos.line X.env=pure false:=by rfl) :
   PSm X (.Expr (.Call (.Attribute o "insert" apos) [i,e] [] cpos) pos) (yD px gi fv) :=
 (fk (FA (KK:=X.K) rfl ho hi he hbase hfew hline hst hst2 hplain) hs).imp λ E σ H ⟨Hs0,H0,nf,ρ,Hs,τ,o,r,e,k⟩=>by
   obtain ⟨⟨i,q⟩,e1,e⟩:=bind_some e;split at e
   · rename_i cs0 en0
     obtain ⟨d,e4,e5⟩:=bind_some e;obtain ⟨⟨s,τ1⟩,e2,e6⟩:=bind_some e5;obtain ⟨mv,e3,e7⟩:=bind_some e6;clear e e5 e6;split at e7
     ·rename_i j cs en
      split at e7
      ·rename_i hz
       obtain ⟨h0,h1,hz⟩:=hz;cases e7;refine ⟨Hs0,H0,nf,ρ,Hs,τ,i,q,_,r,e1,en0,λ rt v1 H1 g1 hrt hq=>⟨(r.grow g1).isList en0 hrt hq,?_⟩⟩;have r1:=r.grow g1;obtain ⟨fp,st⟩:=r1.st;refine ⟨H1,H1,aY τ,[],_,st.aY r1.sm,.refl H1,e4,λ y Hs2 H2 g2 ry=>?_⟩;cases ry;have r2:=r1.grow g2.hh;refine ⟨Hs0,H0,nf,ρ,Hs,τ,s,τ1,r2,e2,λ v Hs3 H3 g3 r3=>?_⟩;obtain ⟨a,dx,ts,u,fv,rfl,rfl,ha,hl,ku,fin⟩:=r3.tT e3 en hrt (bU g3 q (bU g2.hh q hq));rw [t4 hl] at ha;rw [Za] at h1 hz;refine ⟨a,_,j,v,rfl,rfl,ha,h0,by rw [Za]; exact h1,by rw [Za]; exact le5 (Yn hz),by omega,?_⟩
       have:=fin (ts.take j.toNat) (.inl 0) (ts.drop j.toNat) (.lst ((ts.map Kd.v).take j.toNat++v::(ts.map Kd.v).drop j.toNat)) (by rw [Xu]; exact .refl _) (by
        have:=rW (dx:=dx) (ts:=ts.take j.toNat++⟨.inl 0,v,mv,fv⟩::ts.drop j.toNat);rw [Zr (f:=Kd.v),Zh,X4,X5] at this
        exact this) trivial
       rw [Zr,Zh,X4,X5] at this;exact k σ Hs3 _ this
      · cases e7
     · cases e7
   · cases e
def B1 (ho:PXm X o px) (he:PEd X e g)
   (hbase:attributeBase o "remove" X.env (eval o X.env)=eval o X.env:=by rfl)
   (hfew:((backTo cpos (starEach [e] X.env)).all (λ x=>!x.1)&&(backToKw cpos (keywordEach [] X.env)).all (λ x=>x.1.isSome)
     && decide ([e].length+([]:List Keyword).length+(if ([]:List Keyword).isEmpty then 0 else 1) < 30))=true:=by rfl)
   (hline:(apos.endLine == cpos.line)=true:=by rfl) (hst:starEach [e] X.env=(false,eval e X.env)::starEach [] X.env:=by rfl) (hplain:(backTo cpos (starEach [] X.env)).any (·.1)=false:=by rfl)
   (hs:swapsWith (.Call (.Attribute o "remove" apos) [e] [] cpos) none pos.line X.env=pure false:=by rfl) :
   PSm X (.Expr (.Call (.Attribute o "remove" apos) [e] [] cpos) pos) (vg px g) :=
 (fk (tJ Yy PySem.F.slot_list_remove PySem.F.type_list_remove wK ho (cB he eL hst) hbase hfew hline hst hplain) hs).imp λ E σ H ⟨Hs0,H0,nf,ρ,Hs,τ,o,r,e,k⟩=>by
   obtain ⟨⟨i,q⟩,e1,e⟩:=bind_some e;obtain ⟨d,e2,e⟩:=bind_some e;split at e
   · rename_i ky cs en
     obtain ⟨ns,e3,e⟩:=bind_some e;split at e
     ·rename_i hz
      cases e;refine ⟨Hs0,H0,nf,ρ,Hs,τ,i,q,_,r,e1,en,λ rt v1 H1 g1 hrt hq=>⟨(r.grow g1).isList en hrt hq,?_⟩⟩;have r1:=r.grow g1;obtain ⟨fp,st⟩:=r1.st;refine ⟨H1,H1,aY τ,[],_,st.aY r1.sm,.refl H1,e2,λ y Hs2 H2 g2 ry=>?_⟩;cases ry;have r2:=r1.grow g2.hh;obtain ⟨a,dx,ts,u,rfl,rfl,ha,hl,ku,hrp,fin⟩:=r2.wH en hrt (bU g2.hh q hq);rw [t4 hl] at ha
      have ev:ts.map Kd.v=ns.map V.int:=by
       have h1:=vo hrp;rw [Zw,k8 e3] at h1;exact Rps.ip h1
      rw [ev] at ha;refine ⟨a,ns,ky,rfl,rfl,ha,hz.1,hz.2,?_⟩
      have:=fin (ts.eraseIdx (ns.idxOf ky)) [] (.lst ((ns.eraseIdx (ns.idxOf ky)).map V.int)) (List.eraseIdx_sublist ..) (λ k hk=>by cases hk) (by
       have:=rW (dx:=dx) (ts:=ts.eraseIdx (ns.idxOf ky));rw [kU Kd.v,ev,<- kU] at this;rw [Z0]
       exact this) trivial
      rw [Z0,kU Kd.km] at this;exact k σ Hs _ this
     · cases e
   · cases e
def B2 (ho:PXm X o px) (he:PEd X e gk) (m:M1 X o "pop" apos e cpos) (hs:swapsWith (.Call (.Attribute o "pop" apos) [e] [] cpos) none pos.line X.env=pure false:=by rfl) :
   PSm X (.Expr (.Call (.Attribute o "pop" apos) [e] [] cpos) pos) (yC px gk) :=
 (fk (zu ho he m) hs).imp λ E σ H ⟨Hs0,H0,nf,ρ,Hs,τ,o,r,e,k⟩=>by
   obtain ⟨⟨i,q⟩,e1,e⟩:=bind_some e;obtain ⟨d,e2,e⟩:=bind_some e;obtain ⟨ky,e3,e⟩:=bind_some e;split at e
   ·rename_i cs en
    split at e
    ·rename_i hz
     cases e;refine ⟨Hs0,H0,nf,ρ,Hs,τ,i,q,_,r,e1,en,λ rt v1 H1 g1 hrt hq=>?_⟩;have r1:=r.grow g1;obtain ⟨a,dx,ts,u,rfl,rfl,ha,hl,ku,hrp,fin⟩:=r1.wH en hrt hq;rw [t5 hl] at ha;obtain ⟨fp,st⟩:=r1.st;refine ⟨a,rfl,.inl ⟨_,.inl ha⟩,H1,H1,aY τ,[],_,st.aY r1.sm,.refl H1,e2,λ y Hs2 H2 g2 ry=>?_⟩;have hy:=jR ry e3;subst hy;have r2:=r1.grow g2.hh;obtain ⟨a',dx',ts',u',ea,ec,ha',hl',ku',hrp',fin'⟩:=r2.wH en hrt (bU g2.hh q hq);cases ea;have ha2:=ha';rw [t5 hl'] at ha2;have eq:=g2.hh _ _ ha;rw [ha2] at eq;rw [ec] at hz;obtain ⟨w,hw⟩:=Ed hz;refine ⟨_,ky,w,ha2,rfl,hw,?_⟩
     have:=fin' (ts'.filter λ c=>decide (c.k≠ky)) [] (.dK (qD (ts'.map Kd.kv) ky)) List.filter_sublist (λ k hk=>by cases hk) (by
      rw [Z0];unfold qD;rw [List.filter_map]
      exact .d _) (by
      rw [Z0];show ((ts'.filter _).map Kd.k).Nodup
      exact List.Nodup.sublist (List.filter_sublist.map _) ku')
     rw [Z0] at this
     have em:(ts'.filter λ c=>decide (c.k≠ky)).map Kd.km=ui (ts.map Kd.km) ky:=by
      rw [ec];unfold ui;rw [List.filter_map];rfl
     rw [em] at this;exact k σ Hs _ this
    · cases e
   · cases e
end
def off (H:Hp) (fp:List Addr):Hp:=λ b=>if b ∈ fp then none else H b
def LJ:V->Option Addr
 | .ref a=>some a
 | _=>none
abbrev iQ (vs:List V):List (Option Addr):=vs.map LJ
def spM (F:List Sm->Option (Sm×List Sm)) (K:W.Frag):Sp:=λ vs H Q _=>∃ Hs fp as s as',bZ Hs H/\StM K (off H fp) Hs H (iQ vs) (vs.map some) as fp/\F as=some (s,as') /\
 ∀ v Hs' H' fp',Ext Hs (off H fp) Hs' H'->StM K (off H fp) Hs' H' (none::iQ vs) (some v::vs.map some) (s::as') fp'->Q v H'
inductive Am where
 | v (d:D) | p (i:Nat) (q:List Stp)
inductive pN (K:W.Frag) (Hs H:Hp) (σ:St):List V->List Am->Prop where
 | nil:pN K Hs H σ [] []
 | v {x:V} {d:D} {vs:List V} {as:List Am} (h:Rp K Hs x d) (r:pN K Hs H σ vs as):pN K Hs H σ (x::vs) (.v d::as)
 | p {x rt:V} {i:Nat} {q:List Stp} {vs:List V} {as:List Am} (h1:σ[i]?=some (some rt)) (h2:vAt H rt q=some x) (r:pN K Hs H σ vs as):pN K Hs H σ (x::vs) (.p i q::as)
def pN.ext {K:W.Frag} {Hs H Hs' H':Hp} {σ:St} {vs:List V} {as:List Am} (g1:bZ Hs Hs') (g2:bZ H H') (h:pN K Hs H σ vs as):pN K Hs' H' σ vs as:=by
 induction h with
 | nil=>exact .nil
 | v h _ ih=>exact .v (h.same g1) ih
 | p h1 h2 _ ih=>exact .p h1 (bU g2 _ h2) ih
def lend:List Sm->List Am->Option (List Sm)
 | _,[]=>some []
 | τ,.v d::r=>(lend τ r).map (.shr d::·)
 | τ,.p i q::r=>match aO τ i q with
  | some (.n t cs)=>(lend (τ.set i .no) r).map (.mu true (.n t cs)::·)
  | _=>none
def back:List Sm->List Am->List Sm->Option (List Sm)
 | τ,[],_=>some τ
 | τ,.v _::r,_::as=>back τ r as
 | τ,.p i q::r,.mu true m2::as=>(back (τ.set i .no) r as).bind λ τ'=>match τ[i]? with
  | some (.mu b m)=>some (τ'.set i (.mu b (m.put q m2)))
  | _=>none
 | _,_,_=>none
section
variable {K:W.Frag} {H0 Hs H Hs' H':Hp} {ρ:List (Option Addr)} {σ:List (Option V)} {τ:List Sm} {fp:List Addr}
def StM.rebase (h:StM K H0 Hs H ρ σ τ fp):(∀ c ∈ fp,H1 c=none)->StM K H1 Hs H ρ σ τ fp:=by
 induction h with
 | nil=>exact λ _=>.nil
 | no _ ih=>exact λ q=>.no (ih q)
 | shr h _ ih=>exact λ q=>.shr h (ih q)
 | mu h hp z j _ ih=>exact λ q=>.mu h hp (λ c hc=>q c (Zp _ hc)) j (ih λ c hc=>q c (Ze _ hc))
def StM.pin {i:Nat} {b:Bool} {m:Mt} {v:V} (h:StM K H0 Hs H ρ σ τ fp):τ[i]?=some (.mu b m)->σ[i]?=some (some v)->b=true->∃ a,ρ[i]?=some (some a)/\v=.ref a:=by
 induction h generalizing i with
 | nil=>intro e; simp at e
 | no _ ih =>
  intro e e2 hb
  cases i with
  | zero=>simp at e
  | succ i=>simpa using ih (i:=i) (by simpa using e) (by simpa using e2) hb
 | shr h _ ih =>
  intro e e2 hb
  cases i with
  | zero=>simp at e
  | succ i=>simpa using ih (i:=i) (by simpa using e) (by simpa using e2) hb
 | @mu p v' b' m' ρ σ τ fq fp h hp z j _ ih =>
  intro e e2 hb
  cases i with
  | zero =>
   have e':Sm.mu b' m'=.mu b m:=by simpa using e
   injection e' with e1 _
   have e3:v'=v:=by simpa using e2
   subst e3;obtain ⟨a,h1,h2⟩:=hp (e1.trans hb);exact ⟨a,by rw [h1]; rfl,h2⟩
  | succ i=>simpa using ih (i:=i) (by simpa using e) (by simpa using e2) hb
def StM.fill (h:StM K H0 Hs H ρ σ τ fp) (hv:Od K Hs H fq v m) (z:∀ c ∈ fq,H0 c=none/\c ∉ fp):i < τ.length->σ[i]?=some (some v)->(b=true->∃ a,ρ[i]?=some (some a)/\v=.ref a)->∃ fp',StM K H0 Hs H ρ σ (τ.set i (.mu b m)) fp'/\∀ c ∈ fp',c ∈ fq\/c ∈ fp:=by
 induction h generalizing i with
 | nil=>intro hi; exact absurd hi (by simp)
 | @no p o ρ σ τ fp r ih =>
  intro hi e hp
  cases i with
  | zero =>
   have e':o=some v:=by simpa using e
   subst e';exact ⟨_,.mu hv (λ hb=>by obtain ⟨a,h1,h2⟩:=hp hb; exact ⟨a,by simpa using h1,h2⟩) (λ c hc=>(z c hc).1) (λ c hc=>(z c hc).2) r,λ c h=>Zi.mp h⟩
  | succ i =>
   obtain ⟨fp',h1,h2⟩:=ih z (i:=i) (by simpa using hi) (by simpa using e) (by simpa using hp);exact ⟨fp',.no h1,h2⟩
 | @shr p v' d ρ σ τ fp h r ih =>
  intro hi e hp
  cases i with
  | zero =>
   have e':v'=v:=by simpa using e
   subst e';exact ⟨_,.mu hv (λ hb=>by obtain ⟨a,h1,h2⟩:=hp hb; exact ⟨a,by simpa using h1,h2⟩) (λ c hc=>(z c hc).1) (λ c hc=>(z c hc).2) r,λ c h=>Zi.mp h⟩
  | succ i =>
   obtain ⟨fp',h1,h2⟩:=ih z (i:=i) (by simpa using hi) (by simpa using e) (by simpa using hp);exact ⟨fp',.shr h h1,h2⟩
 | @mu p v' b' m' ρ σ τ fq' fp h hp' z' j r ih =>
  intro hi e hp;have zr:∀ c ∈ fq,H0 c=none/\c ∉ fp:=λ c hc=>⟨(z c hc).1,λ q=>(z c hc).2 (Ze _ q)⟩
  cases i with
  | zero =>
   have e':v'=v:=by simpa using e
   subst e';exact ⟨_,.mu hv (λ hb=>by obtain ⟨a,h1,h2⟩:=hp hb; exact ⟨a,by simpa using h1,h2⟩) (λ c hc=>(z c hc).1) (λ c hc=>(zr c hc).2) r,λ c h=>(Zi.mp h).imp id λ q=>Ze _ q⟩
  | succ i =>
   obtain ⟨fp',h1,h2⟩:=ih zr (i:=i) (by simpa using hi) (by simpa using e) (by simpa using hp);refine ⟨_,.mu h hp' z' (λ c hc q=>?_) h1,λ c hc=>?_⟩
   ·rcases h2 c q with y | y
    · exact (z c y).2 (Zp _ hc)
    · exact j c hc y
   ·rcases Zi.mp hc with y | y
    · exact .inr (Zp _ y)
    · exact (h2 c y).imp id λ q=>Ze _ q
def sU:back τ [] ss=some τ:=by cases ss <;> rw [back]
def nK:∀ {as:List Am} {τ ss τ':List Sm},back τ as ss=some τ'->τ'.length=τ.length
 | [],τ,ss,τ',e=>by rw [sU] at e; cases e; rfl
 | .v _::r,τ,[],τ',e=>by cases e
 | .v _::r,τ,_::as,τ',e=>nK (as:=r) e
 | .p i q::r,τ,[],τ',e=>by cases e
 | .p i q::r,τ,s::as,τ',e=>by
  cases s with
  | no=>cases e
  | shr d=>cases e
  | mu b m2 =>
   cases b with
   | false=>cases e
   | true =>
    obtain ⟨τ1,e1,e2⟩:=bind_some (show (back (τ.set i .no) r as).bind _=_ from e);have l1:=nK e1;rw [List.length_set] at l1;split at e2
    ·cases e2
     rw [List.length_set,l1]
    · cases e2
abbrev DJ:Hp:=λ _=>none
def m5 : ∀ {as : List Am} {τ ss:List Sm} {fp:List Addr} {vs:List V},StM K H0 Hs H ρ σ τ fp->pN K Hs H σ vs as->lend τ as=some ss ->
    ∃ fpa,StM K DJ Hs H (iQ vs) (vs.map some) ss fpa/\(∀ c ∈ fpa,c ∈ fp) /\
    ∀ Hs' H' ss' fpa' τ',bZ Hs Hs'->(∀ c ∈ fp,c ∉ fpa->Hs' c=none/\H' c=H c)->StM K DJ Hs' H' (iQ vs) (vs.map some) ss' fpa'->(∀ c ∈ fpa',c ∈ fpa\/(c ∉ fp/\H0 c=none))->back τ as ss'=some τ' ->
      ∃ fp',StM K H0 Hs' H' ρ σ τ' fp'/\∀ c ∈ fp',(c ∈ fp/\c ∉ fpa)\/c ∈ fpa'
  | [],τ,ss,fp,[],st,.nil,e=>by
    cases e;refine ⟨[],.nil,λ c hc=>(nomatch hc),λ Hs' H' ss' fpa' τ' g k sa j eb=>?_⟩;rw [sU] at eb;cases eb;exact ⟨fp,st.mv g λ c hc=>k c hc (by simp),λ c hc=>.inl ⟨hc,by simp⟩⟩
  | .v d :: r,τ,ss,fp,_,st,.v h rr,e=>by
    obtain ⟨ss1,e1,rfl⟩:=Zm (show (lend τ r).map _=_ from e);obtain ⟨fpa,s1,w1,w2⟩:=m5 st rr e1;refine ⟨fpa,.shr h s1,w1,λ Hs' H' ss' fpa' τ' g k sa j eb=>?_⟩
    cases ss' with
    | nil=>cases eb
    | cons s as' =>
      cases sa with
      | no sa=>exact w2 Hs' H' as' _ τ' g k sa j eb
      | shr _ sa=>exact w2 Hs' H' as' _ τ' g k sa j eb
      | mu _ _ _ _ sa =>
        obtain ⟨fp',h1,h2⟩:=w2 Hs' H' as' _ τ' g k sa (λ c hc=>j c (Ze _ hc)) eb;exact ⟨fp',h1,λ c hc=>(h2 c hc).imp id λ y=>Ze _ y⟩
  | .p i q :: r, τ, ss, fp,_,st,@pN.p _ _ _ _ x rt _ _ vs _ h1 h2 rr,e=>by
    have e':(match aO τ i q with | some (.n t cs)=>(lend (τ.set i .no) r).map (.mu true (.n t cs)::·) | _=>none)=some ss:=e;split at e'
    · rename_i t cs eg
      obtain ⟨ss1,e1,rfl⟩:=Zm e';obtain ⟨b,m,em,egm⟩:=dm eg;obtain ⟨v0,fq,fp0,o1,o2,o3,o4,o5⟩:=st.out em;rw [h1] at o1;cases o1;obtain ⟨fp1,v1,w1,w2,w3,w4⟩:=o2.sX q egm;rw [h2] at w1;cases w1;obtain ⟨a,dx,ts,u,rfl,_⟩:=w2.inv;obtain ⟨fpa,s1,a1,a2⟩:=m5 o3 rr e1;have dj:∀ c ∈ fp1,c ∉ fpa:=λ c hc y=>(o4 c (w3 c hc)).1 (a1 c y)
      refine ⟨fp1++fpa,.mu w2 (λ _=>⟨a,rfl,rfl⟩) (λ _ _=>rfl) dj s1,λ c hc=>?_,λ Hs' H' ss' fpa' τ' g k sa j eb=>?_⟩
      · rcases Zi.mp hc with y | y
        · exact (o5 c).mpr (.inl (w3 c y))
        · exact (o5 c).mpr (.inr (a1 c y))
      · cases ss' with
        | nil=>cases eb
        | cons s as' =>
          cases s with
          | no=>cases eb
          | shr d=>cases eb
          | mu b2 m2 =>
            cases b2 with
            | false=>cases eb
            | true =>
              obtain ⟨τ1,eb1,eb2⟩:=bind_some (show (back (τ.set i .no) r as').bind _=_ from eb);simp only [em] at eb2;cases eb2
              cases sa with
              | @mu _ _ _ _ _ _ _ fq2 fpr od2 _ _ jj sr =>
                obtain ⟨fpx,x1,x2⟩:=a2 Hs' H' as' fpr τ1 g (λ c hc hn=>k c ((o5 c).mpr (.inr hc)) λ y=>(Zi.mp y).elim (λ y=>(o4 c (w3 c y)).1 hc) hn) sr (λ c hc=>by
                  rcases j c (Ze _ hc) with y | y
                  · rcases Zi.mp y with y | y
                    · exact .inr ⟨(o4 c (w3 c y)).1,(st.live c (o4 c (w3 c y)).2).2.2⟩
                    · exact .inl y
                  · exact .inr ⟨λ z=>y.1 ((o5 c).mpr (.inr z)),y.2⟩) eb1
                obtain ⟨fpo,y1,y2⟩:=w4 Hs' H' fq2 m2 g (λ c hc hn=>k c ((o5 c).mpr (.inl hc)) λ y=>(Zi.mp y).elim hn λ y=>(o4 c hc).1 (a1 c y)) od2 (λ c hc=>by
                  rcases j c (Zp _ hc) with y | y
                  · rcases Zi.mp y with y | y
                    · exact .inl y
                    · exact .inr λ z=>(o4 c z).1 (a1 c y)
                  · exact .inr λ z=>y.1 ((o5 c).mpr (.inl z)))
                have hlen:i < τ1.length:=by
                  rw [nK eb1,List.length_set];exact (List.getElem?_eq_some_iff.mp em).1
                obtain ⟨fp',z1,z2⟩:=x1.fill (i:=i) (b:=b) y1 (λ c hc=>by
                  rcases (y2 c).mp hc with y | y
                  · refine ⟨(st.live c (o4 c y.1).2).2.2,λ z=>?_⟩
                    rcases x2 c z with z | z
                    · exact (o4 c y.1).1 z.1
                    · rcases j c (Ze _ z) with w | w
                      · rcases Zi.mp w with w | w
                        · exact y.2 w
                        · exact (o4 c y.1).1 (a1 c w)
                      · exact w.1 (o4 c y.1).2
                  · refine ⟨?_,λ z=>?_⟩
                    · rcases j c (Zp _ y) with w | w
                      · rcases Zi.mp w with w | w
                        · exact (st.live c (o4 c (w3 c w)).2).2.2
                        · exact (st.live c ((o5 c).mpr (.inr (a1 c w)))).2.2
                      · exact w.2
                    · rcases x2 c z with z | z
                      · rcases j c (Zp _ y) with w | w
                        · rcases Zi.mp w with w | w
                          · exact (o4 c (w3 c w)).1 z.1
                          · exact z.2 w
                        · exact w.1 ((o5 c).mpr (.inr z.1))
                      · exact jj c y z) hlen h1 (λ hb=>st.pin em h1 hb)
                refine ⟨fp',z1,λ c hc=>?_⟩;rcases z2 c hc with y | y
                · rcases (y2 c).mp y with y | y
                  · exact .inl ⟨(o4 c y.1).2,λ w=>(Zi.mp w).elim y.2 λ w=>(o4 c y.1).1 (a1 c w)⟩
                  · exact .inr (Zp _ y)
                · rcases x2 c y with y | y
                  · exact .inl ⟨(o5 c).mpr (.inr y.1),λ w=>(Zi.mp w).elim (λ w=>(o4 c (w3 c w)).1 y.1) y.2⟩
                  · exact .inr (Ze _ y)
    · cases e'
end
abbrev DAm:=List Sm->Option (List Am)
def M9 (N:Hp) (K:W.Frag) (g:DAm):TA:=λ σ H Q=>∃ (Hs0 H0:Hp),∃ (_:Nf N H0),∃ ρ Hs τ as,bA K Hs0 H0 ρ Hs H σ τ/\g τ=some as/\∀ vs Hs' H',bZ H H'->bA K Hs0 H0 ρ Hs' H' σ τ->bZ Hs Hs'->pN K Hs' H' σ vs as->Q vs H'
def PAm (X:Cx) (es:List Expr) (g:DAm):Prop:=PA X es (M9 X.H₀ X.K g)
def M6 (N:Hp) (K:W.Frag) (g:List Sm->Option Am):TE:=λ σ H Q=>∃ (Hs0 H0:Hp),∃ (_:Nf N H0),∃ ρ Hs τ a,bA K Hs0 H0 ρ Hs H σ τ/\g τ=some a/\∀ v Hs' H',bZ H H'->bA K Hs0 H0 ρ Hs' H' σ τ->bZ Hs Hs'->pN K Hs' H' σ [v] [a]->Q v H'
def PQm (X:Cx) (e:Expr) (g:List Sm->Option Am):Prop:=PE X e (M6 X.H₀ X.K g)
def qN (g:DE):List Sm->Option Am:=λ τ=>(g (er τ)).map .v
def qX (f:DPx):List Sm->Option Am:=λ τ=>(f τ).bind λ p=>match aO τ p.1 p.2 with
 | some (.n _ _)=>some (.p p.1 p.2)
 | some (.s d)=>some (.v d)
 | none=>none
def yi:DAm:=λ _=>some []
def cc (h:List Sm->Option Am) (g:DAm):DAm:=λ τ=>(h τ).bind λ a=>(g τ).map (a::·)
def pN.app {K:W.Frag} {Hs H:Hp} {σ:St} {v:V} {a:Am} {vs:List V} {as:List Am} (h:pN K Hs H σ [v] [a]) (r:pN K Hs H σ vs as):pN K Hs H σ (v::vs) (a::as):=by
 cases h with
 | v h _=>exact .v h r
 | p h1 h2 _=>exact .p h1 h2 r
def qK (F:List Sm->Option (Sm×List Sm)) (τ:List Sm) (as:List Am):Option (Sm×List Sm):=(lend τ as).bind λ ss=>(F ss).bind λ x=>(back τ as x.2).map λ τ'=>(x.1,τ')
section
variable {K:W.Frag} {Hs0 H0 Hs H Hs' H':Hp} {ρ:List (Option Addr)} {σ:St} {τ:List Sm}
def kN (h:off H fp c=none):c ∈ fp\/H c=none:=by
 unfold off at h;split at h
 · exact .inl ‹_›
 · exact .inr h
def zD:bZ (off H fp) H:=λ b o e=>by
 unfold off at e;split at e
 · cases e
 · exact e
def wx (h:c ∈ fp):off H fp c=none:=if_pos h
def js (h:c ∉ fp):off H fp c=H c:=if_neg h
def bA.call (r:bA K Hs0 H0 ρ Hs H σ τ) (ha:pN K Hs H σ vs as) (e:qK F τ as=some (s,τ'))
  (k:∀ v Hs' H',bA K Hs0 H0 (none::ρ) Hs' H' (some v::σ) (s::τ')->Q v H'):spM F K vs H Q E:=by
 obtain ⟨ss,e1,e⟩:=bind_some e;obtain ⟨⟨s0,ss'⟩,e2,e⟩:=bind_some e;obtain ⟨τ0,e3,e4⟩:=Zm e;obtain ⟨e4,e5⟩:=Prod.mk.inj e4;have e4':s0=s:=e4;subst e4' e5;obtain ⟨fp,st⟩:=r.st;obtain ⟨fpa,sA,sub,sX⟩:=m5 st ha e1;refine ⟨Hs,fpa,ss,s0,ss',r.sm,sA.rebase λ c hc=>wx hc,e2,λ v Hs' H' fp2 g s2=>?_⟩
 have far:∀ c ∈ fp,c ∉ fpa->Hs' c=none/\H' c=H c:=λ c hc hn=>by
  obtain ⟨l1,l2,_⟩:=st.live c hc;have ho:off H fpa c=H c:=js hn;refine ⟨g.fr c l1 (by rw [ho]; exact l2),?_⟩
  cases q:H c with
  | none=>exact absurd q l2
  | some u=>exact g.hh _ _ (ho.trans q)
 have ex:Ext Hs0 H0 Hs' H':=by
  have nf:∀ c,H0 c≠none->c ∉ fpa:=λ c h q=>h (st.live c (sub c q)).2.2
  refine ⟨r.ext.ss.trans g.ss,g.sh,λ c o e=>?_,λ c h1 h2=>?_⟩
  · exact g.hh _ _ ((js (nf c (hU e))).trans (r.ext.hh _ _ e))
  · exact g.fr c (r.ext.fr c h1 h2) (by rw [js (nf c h2)]; exact r.ext.hh.live h2)
 have fin:∀ fpr,StM K (off H fpa) Hs' H' (iQ vs) (vs.map some) ss' fpr->∃ fp',StM K H0 Hs' H' ρ σ τ0 fp'/\∀ c ∈ fp',(c ∈ fp/\c ∉ fpa)\/c ∈ fpr:=λ fpr sr=>by
  refine sX Hs' H' ss' fpr τ0 g.ss far (sr.rebase λ _ _=>rfl) (λ c hc=>?_) e3;rcases kN (sr.live c hc).2.2 with y | y
  · exact .inl y
  · exact .inr ⟨st.new y,r.old y⟩
 cases s2 with
 | no sr =>
  obtain ⟨fp',h1,_⟩:=fin _ sr;exact k v Hs' H' ⟨ex,_,.no h1⟩
 | shr h sr =>
  obtain ⟨fp',h1,_⟩:=fin _ sr;exact k v Hs' H' ⟨ex,_,.shr h h1⟩
 | @mu _ _ b m _ _ _ fq fpr od hp z j sr =>
  obtain ⟨fp',h1,h2⟩:=fin _ sr;refine k v Hs' H' ⟨ex,_,.mu od (λ hb=>by obtain ⟨a,q,_⟩:=hp hb; cases q) (λ c hc=>?_) (λ c hc y=>?_) h1⟩
  ·rcases kN (z c hc) with y | y
   · exact (st.live c (sub c y)).2.2
   · exact r.old y
  ·rcases h2 c y with w | w
   ·rcases kN (z c hc) with y | y
    · exact w.2 y
    · exact (st.live c w.1).2.1 y
   · exact j c hc w
end
def eC (F:List Sm->Option (Sm×List Sm)) (g:DAm):DEm:=λ τ=>(g τ).bind λ as=>qK F τ as
def eM (C:Addr) (m:Str) (F:List Sm->Option (Sm×List Sm)) (f:DPx) (g:DAm):DEm:=λ τ=>(f τ).bind λ p=>match aO τ p.1 p.2 with
 | some (.n (.o C') cs)=>if C'=C/\(cs.any λ c=>decide (c.1=.inr m))=false then (g τ).bind λ as=>qK F τ (.p p.1 p.2::as) else none
 | _=>none
def eK (C:Addr) (F:List Sm->Option (Sm×List Sm)) (g:DAm):DEm:=λ τ=>(g τ).bind λ as=>(lend τ as).bind λ ss=>(F (.mu true (.n (.o C) [])::ss)).bind λ x=>match x.1,x.2 with
 | .shr .non,.mu true m::r=>(back τ as r).map λ τ'=>(.mu false m,τ')
 | _,_=>none
section
variable {X:Cx} {a b c e o:Expr} {es:List Expr} {pos apos cpos pos' p:Pos} {x m:Str} {k:Nat} {f fa C:Addr} {fd:FuncData} {ps:List Str} {F:List Sm->Option (Sm×List Sm)} {g:DAm}
def Nm {g:DE} (h:PEd X e g):PQm X e (qN g):=PE.imp h λ σ H Q ⟨Hs0,H0,nf,ρ,Hs,τ,a,r,e,k⟩=>by
 obtain ⟨d,e1,e2⟩:=Zm e;cases e2;obtain ⟨fp,st⟩:=r.st;exact ⟨H0,Hs,er τ,[],d,st.er,r.sm,e1,λ v Hs' H' g1 rv=>k v Hs' H' g1.hh (r.ext' g1) g1.ss (.v rv .nil)⟩
def Nl {f:DPx} (h:PXm X e f):PQm X e (qX f):=PE.imp h λ σ H Q ⟨Hs0,H0,nf,ρ,Hs,τ,a,r,e,k⟩=>by
 obtain ⟨⟨i,q⟩,e1,e2⟩:=bind_some e;split at e2
 ·rename_i t cs eg
  cases e2;exact ⟨Hs0,H0,nf,ρ,Hs,τ,i,q,_,r,e1,eg,λ v v1 H' g hv hq=>k v1 Hs H' g (r.grow g) (.refl _) (.p hv hq .nil)⟩
 ·rename_i d eg
  cases e2;refine ⟨Hs0,H0,nf,ρ,Hs,τ,i,q,_,r,e1,eg,λ v v1 H' g hv hq=>?_⟩;have r':=r.grow g;obtain ⟨fp,st⟩:=r'.st;obtain ⟨b,m,e3,e4⟩:=dm eg;obtain ⟨v',fp1,v1',w1,w2,w3,_⟩:=st.sX e3 e4;rw [hv] at w1;cases w1;rw [hq] at w2;cases w2
  cases w3 with
  | s rr=>exact k v1 Hs H' g r' (.refl _) (.v rr .nil)
 · cases e2
def CL:PAm X [] yi:=eL.imp λ σ H Q ⟨Hs0,H0,nf,ρ,Hs,τ,as,r,e,k⟩=>by
 cases e;exact k [] Hs H (.refl H) r (.refl _) .nil
def zB (h1:PQm X e h) (h2:PAm X es g) (hs:starEach (e::es) X.env=(false,eval e X.env)::starEach es X.env:=by rfl):PAm X (e::es) (cc h g) :=
 (cB h1 h2 hs).imp λ σ H Q ⟨Hs0,H0,nf,ρ,Hs,τ,as,r,e,k⟩=>by
   obtain ⟨a,e1,e2⟩:=bind_some e;obtain ⟨as',e3,e4⟩:=Zm e2;cases e4;refine ⟨Hs0,H0,nf,ρ,Hs,τ,a,r,e1,λ v Hs1 H1 g1 r1 s1 a1=>?_⟩;refine ⟨Hs0,H0,nf,ρ,Hs1,τ,as',r1,e3,λ vs Hs2 H2 g2 r2 s2 a2=>?_⟩;exact k (v::vs) Hs2 H2 (g1.trans g2) r2 (s1.trans s2) ((a1.ext s2 g2).app a2)
def Cr (Fo:jf X.prog X.w X.K X.mg X.base CX0 k f fd ps (spM F X.K)) (hr:dW k X.A) (hg:Gl X x) (hm:X.mg x=some (.ref f)) (hk:W.keepIn X.K (.ref f)=true) (hb:Binds X.K fd ps [])
  (ha:PAm X (e::es) g) (hdb:(x == ("__debug__":Str))=false:=by decide) (he:starEach (e::es) X.env=(false,eval e X.env)::starEach es X.env:=by rfl) (hpl:(backTo pos (starEach es X.env)).any (·.1)=false:=by rfl) :
  PEm X (.Call (.Name x p) (e::es) [] pos) (eC F g):=(p8 Fo hr hg hm hk hb .nil p9 ha hdb he hpl).imp λ σ H Q ⟨Hs0,H0,nf,ρ,Hs,τ,s,τ',r,e,k⟩=>by
 obtain ⟨as,e1,e2⟩:=bind_some e;refine ⟨Hs0,H0,nf,ρ,Hs,τ,as,r,e1,λ vs Hs1 H1 g1 r1 s1 a1=>?_⟩;show spM F X.K (vs++[]) H1 Q E0;rw [Z0];exact r1.call a1 e2 k
def Cp (ho:PXm X o fx) (c:Cls X.K C) (hm:Ef X.K C m fa) (Fo:jf X.prog X.w X.K X.mg X.base CX0 k fa fd ps (spM F X.K)) (hr:dW k X.A) (hb:Binds X.K fd ps []) (ha:PAm X (e::es) g)
  (hst:starEach (e::es) X.env=(false,eval e X.env)::starEach es X.env:=by rfl) (hpl:(backTo pos (starEach es X.env)).any (·.1)=false:=by rfl)
  (ht:eval (.Call (.Attribute o m apos) (e::es) [] pos) X.env=(do
    let ov <- eval o X.env
    standAt apos.atName
    let (f,first) <- holding [ov] (getMethod ov m pl)
    callWith pos f first (backTo pos (starEach (e::es) X.env)) (backToKw pos (keywordEach [] X.env))):=by rfl) :
  PEm X (.Call (.Attribute o m apos) (e::es) [] pos) (eM C m F fx g):=(p7 (pl:=pl) ho c hm Fo hr hb .nil p9 ha hst hpl ht).imp λ σ H Q ⟨Hs0,H0,nf,ρ,Hs,τ,s,τ',r,e,k⟩=>by
 obtain ⟨⟨i,q⟩,e1,e2⟩:=bind_some e;split at e2
 ·rename_i C' cs en
  split at e2
  · rename_i hc
    obtain ⟨hc,hn⟩:=hc;subst hc;obtain ⟨as,e3,e4⟩:=bind_some e2;refine ⟨Hs0,H0,nf,ρ,Hs,τ,i,q,_,r,e1,en,λ rt v1 H1 g1 hrt hq=>?_⟩;have r1:=r.grow g1;obtain ⟨a,dx,ts,u,rfl,rfl,hu,hl,_⟩:=r1.wH en hrt hq;generalize ek:ts.map Kd.kv=kvs at hl
    cases hl with
    | o fs =>
     refine ⟨a,dx,fs,rfl,hu,?_,Hs0,H0,nf,ρ,Hs,τ,as,r1,e3,λ vs Hs2 H2 g2 r2 s2 a2=>?_⟩
     ·rw [<- mN,<- ek]
      have:=gH (Sum.inr m) (ts.map Kd.kv);rw [List.any_map] at this hn;have h2:(cI (ts.map Kd.kv) (Sum.inr m)).isSome=false:=this.symm.trans hn
      cases q:cI (ts.map Kd.kv) (Sum.inr m) with
      | none=>rfl
      | some y=>rw [q] at h2; cases h2
     ·show spM F X.K (V.ref a::(vs++[])) H2 Q E0
      rw [Z0];exact r2.call (.p hrt (bU g2 q hq) a2) e4 k
  · cases e2
 · cases e2
def Cq (M:Mk X.K C fa) (Fo:jf X.prog X.w X.K X.mg X.base CX0 k fa fd ps (spM F X.K)) (hr:dW (k+1) X.A) (hg:Gl X x) (hm:X.mg x=some (.ref C)) (hb:Binds X.K fd ps [])
  (ha:PAm X (e::es) g) (hdb:(x == ("__debug__":Str))=false:=by decide) (he:starEach (e::es) X.env=(false,eval e X.env)::starEach es X.env:=by rfl) (hpl:(backTo pos (starEach es X.env)).any (·.1)=false:=by rfl) :
  PEm X (.Call (.Name x p) (e::es) [] pos) (eK C F g):=(Cz M Fo hr hg hm hb .nil p9 ha hdb he hpl).imp λ σ H Q ⟨Hs0,H0,nf,ρ,Hs,τ,s,τ',r,e,k⟩=>by
 obtain ⟨as,e1,e2⟩:=bind_some e;obtain ⟨ss,e3,e4⟩:=bind_some e2;obtain ⟨⟨s0,ss'⟩,e5,e6⟩:=bind_some e4;refine ⟨Hs0,H0,nf,ρ,Hs,τ,as,r,e1,λ vs Hs1 H1 g1 r1 s1 a1 y dx hy hdx ne=>?_⟩;rw [Z0];split at e6
 ·rename_i m0 r0 q1 q2
  have q1':s0=.shr .non:=q1;have q2':ss'=.mu true m0::r0:=q2;subst q1' q2';obtain ⟨τ0,e7,e8⟩:=Zm e6;cases e8
  let H2:Hp:=upd (upd H1 dx (.own y)) y (.ins C dx [])
  have hy1:upd H1 dx (.own y) y=none:=(aj (Ne.symm ne)).trans hy;have g2:bZ H1 H2:=(aA hdx _).trans (aA hy1 _);have r2:=r1.grow g2;obtain ⟨fp,st⟩:=r1.st;have st2:StM X.K H0 Hs1 H2 ρ σ τ fp:=st.ext ⟨.refl _,r1.ext.sh.trans g2,g2,λ _ h _=>h⟩;obtain ⟨fpa,sA,sub,sX⟩:=m5 st2 (a1.ext (.refl _) g2) e3;have yfp:y ∉ fp:=st.new hy;have od:Od X.K Hs1 H2 [y] (.ref y) (.n (.o C) []):=Od.n (ts:=[]) (dx:=dx) (u:=.ins C dx []) aq (.o []) (r1.sm.free hy) (by show ([]:List Key).Nodup; exact .nil) (by simp) (λ c hc=>by cases hc);have sN:StM X.K (off H2 (y::fpa)) Hs1 H2 (iQ (.ref y::vs)) ((V.ref y::vs).map some) (.mu true (.n (.o C) [])::ss) ([y]++fpa):=.mu od (λ _=>⟨y,rfl,rfl⟩) (λ c hc=>wx (by rw [Zn.mp hc]; exact Zd ..)) (λ c hc q=>yfp (sub y (by rw [<- Zn.mp hc]; exact q))) (sA.rebase λ c hc=>wx (Zc _ hc));refine ⟨Hs1,y::fpa,_,_,_,r2.sm,sN,e5,λ v Hs' H' fp2 g s2=>⟨?_,?_⟩⟩
  ·cases s2 with
   | shr h _=>cases h; rfl
  ·cases s2 with
   | shr h sr =>
   cases sr with
   | @mu _ _ _ _ _ _ _ fq fpr od2 hp z j sr =>
   have far:∀ c ∈ fp,c ∉ fpa->Hs' c=none/\H' c=H2 c:=λ c hc hn=>by
    obtain ⟨l1,l2,_⟩:=st2.live c hc;have ho:off H2 (y::fpa) c=H2 c:=js λ q=>(Zl.mp q).elim (λ q=>yfp (q ▸ hc)) hn
    refine ⟨g.fr c l1 (by rw [ho]; exact l2),?_⟩
    cases q:H2 c with
    | none=>exact absurd q l2
    | some u=>exact g.hh _ _ (ho.trans q)
   have h0y:H0 y=none:=r1.old hy
   have ex:Ext Hs0 H0 Hs' H':=by
    have nf:∀ c,H0 c≠none->c ∉ y::fpa:=λ c h q=>(Zl.mp q).elim (λ q=>h (q ▸ h0y)) λ q=>h (st.live c (sub c q)).2.2
    refine ⟨r1.ext.ss.trans g.ss,g.sh,λ c o e=>?_,λ c h1 h2=>?_⟩
    · exact g.hh _ _ ((js (nf c (hU e))).trans (r2.ext.hh _ _ e))
    · exact g.fr c (r1.ext.fr c h1 h2) (by rw [js (nf c h2)]; exact r2.ext.hh.live h2)
   obtain ⟨fp',h1,h2⟩:=sX Hs' H' r0 fpr _ g.ss far (sr.rebase λ _ _=>rfl) (λ c hc=>by
    rcases kN (sr.live c hc).2.2 with w | w
    ·rcases Zl.mp w with w | w
     ·subst w
      exact .inr ⟨yfp,h0y⟩
     · exact .inl w
    · exact .inr ⟨st2.new w,r2.old w⟩) e7
   refine k (.ref y) Hs' H' ⟨ex,_,.mu od2 (λ hb=>by cases hb) (λ c hc=>?_) (λ c hc q=>?_) h1⟩
   ·rcases kN (z c hc) with w | w
    ·rcases Zl.mp w with w | w
     · rw [w]; exact h0y
     · exact (st.live c (sub c w)).2.2
    · exact r2.old w
   ·rcases h2 c q with w | w
    ·rcases kN (z c hc) with y' | y'
     ·rcases Zl.mp y' with y' | y'
      · exact yfp (y' ▸ w.1)
      · exact w.2 y'
     · exact (st2.live c w.1).2.1 y'
    · exact j c hc w
 · cases e6
end
def w6:Sm->Sm
 | .mu true m=>.mu true m
 | _=>.no
def jd (n m:Nat) (b:DSm) (as:List Sm):Option (Sm×List Sm):=if as.length=m then (match b (as++List.replicate (n - as.length) .no) with
 | some (.ret s τ)=>some (s,(τ.take m).map w6)
 | some (.next τ)=>some (.shr .non,(τ.take m).map w6)
 | _=>none) else none
section
variable {K:W.Frag} {H0 Hs H:Hp}
def StM.startM (k:Nat) (h:StM K H0 Hs H ρ σ τ fp):StM K H0 Hs H (ρ++List.replicate k none) (σ++List.replicate k none) (τ++List.replicate k .no) fp:=by
 induction h with
 | nil =>
  induction k with
  | zero=>exact .nil
  | succ k ih=>rw [Xj,Xj,Xj]; exact .no ih
 | no _ ih=>exact .no ih
 | shr h _ ih=>exact .shr h ih
 | mu h hp z j _ ih=>exact .mu h hp z j ih
def StM.qT:∀ {vs:List V} {ρ:List (Option Addr)} {σ:List (Option V)} {τ:List Sm} {fp:List Addr},StM K H0 Hs H (iQ vs++ρ) σ τ fp->∃ fp',StM K H0 Hs H (iQ vs) (vs.map some) ((τ.take vs.length).map w6) fp'/\∀ c ∈ fp',c ∈ fp
 | [],ρ,σ,τ,fp,h=>⟨[],.nil,λ c hc=>(nomatch hc)⟩
 | v :: vs,ρ,σ,τ,fp,h=>by
  cases h with
  | no r =>
   obtain ⟨fp',h1,h2⟩:=StM.qT r;exact ⟨fp',.no h1,h2⟩
  | shr _ r =>
   obtain ⟨fp',h1,h2⟩:=StM.qT r;exact ⟨fp',.no h1,h2⟩
  | @mu _ w b m _ _ _ fq fr od hp z j r =>
   obtain ⟨fp',h1,h2⟩:=StM.qT r
   cases b with
   | false=>exact ⟨fp',.no h1,λ c hc=>Ze _ (h2 c hc)⟩
   | true =>
    obtain ⟨a,p1,p2⟩:=hp rfl
    have ev:v=.ref a:=by
     cases v <;> simp [LJ] at p1
     rw [p1]
    subst p2;subst ev;exact ⟨fq++fp',.mu od (λ _=>⟨a,rfl,rfl⟩) z (λ c hc q=>j c hc (h2 c q)) h1,λ c hc=>(Zi.mp hc).elim (Zp _) λ q=>Ze _ (h2 c q)⟩
def Od.C0 (h:Od K Hs H fp v m):∀ c ∈ fp,∀ o u,H c≠some (.frz o u):=by
 induction h with
 | s r=>intro c h; cases h
 | @n a dx t ts u h hl nh ku nd r ih =>
  intro c hc o w;rcases Zl.mp hc with e | e
  ·subst e
   rw [h];generalize ts.map Kd.kv=kvs at hl;cases hl <;> (intro z; cases z)
  ·obtain ⟨k,hk,hb⟩:=Yr.mp e
   exact ih k hk c hb o w
def StM.C0 (h:StM K H0 Hs H ρ σ τ fp):∀ c ∈ fp,∀ o u,H c≠some (.frz o u):=by
 induction h with
 | nil=>intro c h; cases h
 | no _ ih=>exact ih
 | shr _ _ ih=>exact ih
 | mu h hp z j _ ih=>exact λ c hc=>(Zi.mp hc).elim (h.C0 c) (ih c)
variable {P:Program} {w:World} {mg:Str->Option Value} {base:Heap}
def Fun.okM {x qual:Str} {st:Stmt} {f:Addr} {fd:FuncData} {N ps:List Str} {k:Nat} {b:DSm} (F:Fun K x qual st f fd) (S:dO N ps (aH st))
  (hbody:∀ (cdv:Value) (A:Around) (outer:List Env) (s:Shared) (H:Hp) (E:XK),dW k (A.deeper (envOfC qual (aH st) s.heap.objs.size f cdv)) ->
    l8 (Ac CX0 P w K mg base N qual (aH st) f cdv A outer s H E).nox (bR st) b):jf P w K mg base CX0 (k+1) f fd ps (spM (jd N.length ps.length b) K):=by
 refine F.ok S (λ vs H Q E h=>?_) (λ cdv A outer s H vs Q E hr h=>?_)
 ·obtain ⟨Hs,fp,as,s,as',sm,r,e,_⟩:=h
  unfold jd at e;split at e
  · rename_i hl
    have:=r.len;rw [Za] at this;rw [this]; exact hl
  · cases e
 obtain ⟨Hs,fp,as,sl,as',sm,r,e,q⟩:=h;refine ⟨_,hbody cdv A outer s H E hr,?_⟩;have lv:vs.length=as.length:=by have:=r.len; rw [Za] at this; exact this
 unfold jd at e;split at e
 ·rename_i hl
  have h0:bA K Hs (off H fp) (iQ vs++List.replicate (N.length - vs.length) none) Hs H (start N vs) (as++List.replicate (N.length - as.length) .no):=⟨⟨.refl _,sm,zD,λ _ h _=>h⟩,fp,by unfold start; rw [lv]; exact r.startM _⟩
  have nf:Nf H (off H fp):=λ d o u e z=>by
    rcases kN z with q | q
    · exact r.C0 d q o u e
    · rw [q] at e; cases e
  cases q2:b (as++List.replicate (N.length - as.length) .no) with
  | none=>rw [q2] at e; cases e
  | some o =>
    rw [q2] at e;refine ⟨Hs,off H fp,nf,_,Hs,_,o,h0,q2,?_⟩
    cases o with
    | next τ =>
     cases e;intro σ Hs' H' r';obtain ⟨fp1,s1⟩:=r'.st;obtain ⟨fp2,s2,_⟩:=s1.qT;rw [lv,hl] at s2;exact q .non Hs' H' fp2 r'.ext (.shr .non s2)
    | ret s τ =>
     cases e;intro v σ Hs' H' r';obtain ⟨fp1,s1⟩:=r'.st
     cases s1 with
     | no s1 =>
      obtain ⟨fp2,s2,_⟩:=s1.qT;rw [lv,hl] at s2;exact q v Hs' H' fp2 r'.ext (.no s2)
     | shr h s1 =>
      obtain ⟨fp2,s2,_⟩:=s1.qT;rw [lv,hl] at s2;exact q v Hs' H' fp2 r'.ext (.shr h s2)
     | mu h hp z j s1 =>
      obtain ⟨fp2,s2,sub⟩:=s1.qT;rw [lv,hl] at s2;exact q v Hs' H' _ r'.ext (.mu h hp z (λ c hc y=>j c hc (sub c y)) s2)
    | brk τ=>cases e
    | cnt τ=>cases e
 · cases e
end
section
variable {K:W.Frag} {Hs0 H0 Hs H Hs' H':Hp} {ρ:List (Option Addr)} {σ:St} {τ:List Sm}
def bA.rebase (r:bA K Hs0 H0 ρ Hs H σ τ):bA K Hs H0 ρ Hs H σ τ:=⟨⟨.refl _,r.sm,r.ext.hh,λ _ h _=>h⟩,r.st⟩
def bA.jI (a:Ext Hs0 H0 Hs1 H1) (r:bA K Hs1 H0 ρ Hs H σ τ):bA K Hs0 H0 ρ Hs H σ τ:=⟨a.sub r.ext,r.st⟩
def Il.rebase (a:Ext Hs0 H0 Hs1 H1) (h:Il K Hs0 H0 ρ E o):Il K Hs1 H0 ρ E o:=by
 cases o with
 | next τ=>exact λ σ Hs H r=>h σ Hs H (r.jI a)
 | brk τ=>exact λ σ Hs H r=>h σ Hs H (r.jI a)
 | cnt τ=>exact λ σ Hs H r=>h σ Hs H (r.jI a)
 | ret s τ=>exact λ v σ Hs H r=>h v σ Hs H (r.jI a)
def bA.u9 (r:bA K Hs0 H0 ρ Hs H σ τ) (h:Rp K Hs v d):bA K Hs0 H0 ρ Hs H (σ.set i (some v)) (τ.set i (.shr d)):=⟨r.ext,by
 obtain ⟨fp,st⟩:=r.st;obtain ⟨fp',h1,_⟩:=st.u9 (i:=i) h
 exact ⟨fp',h1⟩⟩
def bA.hold (r:bA K Hs0 H0 ρ Hs H σ τ) (hp:H p=none):bA K Hs0 (upd H0 p u) ρ Hs (upd H p u) σ τ:=by
 obtain ⟨fp,st⟩:=r.st;refine ⟨⟨r.ext.ss,r.sm.trans (aA hp u),λ b o e=>?_,λ b h1 h2=>?_⟩,fp,?_⟩
 ·by_cases z:b=p
  · subst z; rw [aq] at e ⊢; exact e
  · rw [aj z] at e ⊢; exact r.ext.hh b o e
 ·by_cases z:b=p
  · subst z; exact r.sm.free hp
  · rw [aj z] at h2; exact r.ext.fr b h1 h2
 ·refine (st.rebase λ c hc=>?_).ext ⟨.refl _,r.sm.trans (aA hp u),aA hp u,λ _ h _=>h⟩
  rw [aj (show c≠p from λ z=>(st.live c hc).2.1 (by rw [z]; exact hp))];exact (st.live c hc).2.2
def bA.Ew (r:bA K Hs0 (upd H0 p u) ρ Hs H σ τ) (h0:H0 p=none) (hs:Hs0 p=none):Ext Hs0 H0 Hs H/\Hs p=none/\H p=some u/\∃ fp,p ∉ fp/\StM K H0 Hs H ρ σ τ fp:=by
 obtain ⟨fp,st⟩:=r.st;have np:p ∉ fp:=λ q=>by have:=(st.live p q).2.2; rw [aq] at this; cases this
 refine ⟨⟨r.ext.ss,r.sm,λ b o e=>?_,λ b h1 h2=>?_⟩,r.ext.fr p hs (by rw [aq]; simp),r.ext.hh _ _ aq,fp,np,st.rebase λ c hc=>?_⟩
 · exact r.ext.hh b o (by rw [aj (show b≠p from λ z=>by rw [z,h0] at e; cases e)]; exact e)
 · exact r.ext.fr b h1 (by rw [aj (show b≠p from λ z=>h2 (by rw [z]; exact h0))]; exact h2)
 ·have:=(st.live c hc).2.2
  rw [aj (show c≠p from λ z=>np (by rw [<- z]; exact hc))] at this;exact this
end
def eD0:DEm:=λ τ=>some (.mu false (.n .d []),τ)
def eD1 (kc:Key) (fv:DEm):DEm:=λ τ=>(fv τ).bind λ x=>(toM x.1).map λ mv=>(.mu false (.n .d [(kc,mv)]),x.2)
def eF (g:DE):DEm:=λ τ=>(g (aY τ)).bind λ d=>match d with
 | .lst ds=>if ds.all sca=true then some (.shr (.lst ds),τ) else none
 | _=>none
section
variable {X:Cx} {a b c e o:Expr} {es:List Expr} {pos apos cpos pos' p:Pos} {x m:Str}
def Jh:PVm X (.Dict [] [] pos) eD0:=zv.imp λ σ H Q ⟨Hs0,H0,nf,ρ,Hs,τ,s,τ',r,e,k⟩=>by
 cases e;intro p hp;exact k (.ref p) Hs _ (aA hp _) (r.BO (aA hp _) (fq:=[p]) (Od.n (ts:=[]) (dx:=0) (u:=.dK []) aq (.d []) (r.sm.free hp) (by show ([]:List Key).Nodup; exact .nil) (by simp) (λ c hc=>by cases hc)) λ c hc=>by rw [Zn.mp hc]; exact hp)
def Nt (h:PEo X e g):PVm X e (eF g):=PE.imp h λ σ H Q ⟨Hs0,H0,nf,ρ,Hs,τ,s,τ',r,e,k⟩=>by
 obtain ⟨d,e1,e2⟩:=bind_some e;split at e2
 ·split at e2
  ·rename_i hs
   cases e2;obtain ⟨fp,st⟩:=r.st;refine ⟨H,H,aY τ,[],_,st.aY r.sm,.refl H,e1,λ a Hs' H' g1 ow hn=>?_⟩
   cases ow with
   | @lst xs ds h n rr =>
    have ha:Hs a=none:=r.sm.free hn
    have ex:Ext Hs H (upd Hs a (.lst xs)) H':=by
     refine ⟨aA ha _,λ b u q=>?_,g1.hh,λ b h1 h2=>?_⟩
     ·by_cases z:b=a
      · subst z; rw [aq] at q; cases q; exact h
      · rw [aj z] at q; exact g1.hh _ _ (r.sm _ _ q)
     · rw [aj (show b≠a from λ z=>h2 (by rw [z]; exact hn))]; exact h1
    exact k _ _ H' g1.hh ((r.ext' ex).push (.lst aq (jk rr hs)))
  · cases e2
 · cases e2
def Jg (hk:PE X kx (tC (kV kc))) (hv:PVm X value fv):PVm X (.Dict [some kx] [value] pos) (eD1 kc fv) :=
 (@CB X pos [some kx] [value] _ (@ze _ _ _ _ _ _ _ _ _ hk hv Cf) rfl rfl (by simp) (by simp)).imp λ σ H Q ⟨Hs0,H0,nf,ρ,Hs,τ,s,τ',r,e,k⟩=>by
   obtain ⟨⟨s1,τ1⟩,e1,e2⟩:=bind_some e;obtain ⟨mv,e3,e4⟩:=Zm e2;cases e4;intro p hp;refine ⟨Hs0,upd H0 p (.dK []),nf.upd,ρ,Hs,τ,s1,τ1,r.hold hp,e1,λ v Hs2 H2 g2 r2=>?_⟩;obtain ⟨ex,hsp,hpp,fp,np,st⟩:=r2.Ew (r.old hp) (r.ext.ss.free (r.sm.free hp));refine ⟨hpp,[(kc,v)],rfl,Zb rfl,?_⟩
   have sm0:bZ H (upd H2 p (.dK [(kc,v)])):=λ b o q=>by
    have nb:b≠p:=λ z=>by rw [z,hp] at q; cases q
    rw [aj nb];exact g2 _ _ (by rw [aj nb]; exact q)
   have ex':Ext Hs0 H0 Hs2 (upd H2 p (.dK [(kc,v)])):=by
    refine ⟨ex.ss,λ b o q=>?_,λ b o q=>?_,ex.fr⟩
    · rw [aj (show b≠p from λ z=>by rw [z,hsp] at q; cases q)]; exact ex.sh b o q
    · rw [aj (show b≠p from λ z=>by rw [z,r.old hp] at q; cases q)]; exact ex.hh b o q
   have fin:∀ {fq fr:List Addr},Od X.K Hs2 H2 fq v mv->p ∉ fq->p ∉ fr->(∀ c ∈ fq,H0 c=none)->(∀ c ∈ fq,c ∉ fr)->StM X.K H0 Hs2 H2 ρ σ τ1 fr->Q (.ref p) (upd H2 p (.dK [(kc,v)])):=λ {fq fr} od n1 n2 z j sr=>by
    refine k (.ref p) Hs2 _ sm0 ⟨ex',(p::fq)++fr,.mu (fq:=p::fq) ?_ (λ e=>by cases e) (λ c hc=>?_) (λ c hc=>?_) (sr.mv (.refl _) λ c hc=>⟨(sr.live c hc).1,aj (show c≠p from λ q=>n2 (by rw [<- q]; exact hc))⟩)⟩
    ·have:=Od.n (K:=X.K) (Hs:=Hs2) (H:=upd H2 p (.dK [(kc,v)])) (a:=p) (dx:=0) (t:=.d) (ts:=[⟨kc,v,mv,fq⟩]) (u:=.dK [(kc,v)]) aq (.d _) hsp (by show [kc].Nodup; simp) (by
      rw [Ye,List.flatMap_nil,Z0]
      exact Zy.mpr ⟨n1,od.nd⟩) (λ c hc=>by
      rw [Zn.mp hc]
      exact od.mv (.refl _) λ x hx=>⟨(od.live x hx).1,aj (show x≠p from λ q=>n1 (by rw [<- q]; exact hx))⟩)
     rw [Ye,List.flatMap_nil,Z0] at this;exact this
    ·rcases Zl.mp hc with q | q
     · rw [q]; exact r.old hp
     · exact z c q
    ·rcases Zl.mp hc with q | q
     · rw [q]; exact n2
     · exact j c q
   cases st with
   | no st=>cases e3
   | shr h st=>cases e3; exact fin (.s h) (by simp) np (λ c hc=>by cases hc) (λ c hc=>by cases hc) st
   | @mu _ _ b _ _ _ _ fq fr od hpn z j st =>
    cases b with
    | true=>cases e3
    | false=>cases e3; exact fin od (λ q=>np (Zp _ q)) (λ q=>np (Ze _ q)) z j st
end
abbrev DGm:=D->List Sm->Option (List Sm)
def M7 (N:Hp) (K:W.Frag) (g:DGm):TG:=λ v σ H Q=>∃ (Hs0 H0:Hp),∃ (_:Nf N H0),∃ ρ Hs τ τ' d,bA K Hs0 H0 ρ Hs H σ τ/\Rp K Hs v d/\g d τ=some τ'/\∀ σ',bA K Hs0 H0 ρ Hs H σ' τ'->Q σ' H
def PGm (X:Cx) (tg:Expr) (g:DGm):Prop:=PG X tg (M7 X.H₀ X.K g)
abbrev Bg:=List D->List Sm->Option (List Sm)
def IZ (N:Hp) (K:W.Frag) (g:Bg):TGs:=λ v σ H Q=>∃ (Hs0 H0:Hp),∃ (_:Nf N H0),∃ ρ Hs τ τ' d,bA K Hs0 H0 ρ Hs H σ τ/\Rps K Hs v d/\g d τ=some τ'/\∀ σ',bA K Hs0 H0 ρ Hs H σ' τ'->Q σ' H
def yp (X:Cx) (tg:List Expr) (g:Bg):Prop:=PGs X tg (IZ X.H₀ X.K g)
def gNm (i:Nat):DGm:=λ d τ=>some (τ.set i (.shr d))
def lh:Bg:=λ ds τ=>if ds.isEmpty=true then some τ else none
def cO (g:DGm) (h:Bg):Bg:=λ ds τ=>match ds with | d::r=>(g d τ).bind λ τ'=>h r τ' | []=>none
def gTm (n:Nat) (g:Bg):DGm:=λ d τ=>match d with | .tup ds=>if ds.length=n then g ds τ else none | _=>none
def forM (b:D->DSm):List D->DSm
 | [],τ=>some (.next τ)
 | d::ds,τ=>match b d τ with
  | some (.next τ')=>forM b ds τ'
  | some (.cnt τ')=>forM b ds τ'
  | some (.brk τ')=>some (.next τ')
  | r=>r
def BA (it:DI) (g:DGm) (b:DSm):DSm:=λ τ=>(it (er τ)).bind λ ds=>forM (λ d τ=>(g d τ).bind b) ds τ
section
variable {X:Cx} {a b c e o tg iter:Expr} {es:List Expr} {body:List Stmt} {pos apos cpos pos' p:Pos} {x m:Str}
def zq (hN:X.N.Nodup) (hi:X.N[i]?=some x) (hx:Loc X.env.scope x) (hf:X.fn x=true\/X.env.scope.names.lookup x=some .local:=by first | exact .inl rfl | exact .inr rfl | assumption):PGm X (.Name x pos) (gNm i) :=
 (kK hN hi hx hf).imp λ v σ H Q ⟨Hs0,H0,nf,ρ,Hs,τ,τ',d,r,rv,e,k⟩=>by
   cases e;exact k _ (r.u9 rv)
def zo:yp X [] lh:=Cw.imp λ v σ H Q ⟨Hs0,H0,nf,ρ,Hs,τ,τ',d,r,rv,e,k⟩=>by
 cases rv with
 | nil=>cases e; exact ⟨rfl,k σ r⟩
 | cons _ _=>simp [lh] at e
def we (h1:PGm X e g) (h2:yp X es h) (hs:(assignEach (e::es) X.env).map (·.2)=assign e X.env::(assignEach es X.env).map (·.2):=by rfl):yp X (e::es) (cO g h) :=
 (zp h1 h2 hs).imp λ v σ H Q ⟨Hs0,H0,nf,ρ,Hs,τ,τ',d,r,rv,e,k⟩=>by
   cases rv with
   | nil=>simp [cO] at e
   | cons rx rr =>
    obtain ⟨τ1,e1,e2⟩:=bind_some e;exact ⟨_,_,rfl,Hs0,H0,nf,ρ,Hs,τ,τ1,_,r,rx,e1,λ σ' r'=>⟨Hs0,H0,nf,ρ,Hs,τ1,τ',_,r',rr,e2,k⟩⟩
def Cy (hc:X.calm=true) (h:yp X es g) (hn:(assignEach es X.env).length=n:=by rfl) (hst:(assignEach es X.env).findIdx? (·.1)=none:=by rfl):PGm X (.Tuple es k' pos) (gTm n g) :=
 (Fm hc h hn hst).imp λ v σ H Q ⟨Hs0,H0,nf,ρ,Hs,τ,τ',d,r,rv,e,k⟩=>by
   cases rv with
   | @tup a xs ds h rr =>
    simp only [gTm] at e;split at e
    ·rename_i hl
     exact ⟨a,xs,rfl,r.sm.tup h,by rw [rr.length]; exact hl,Hs0,H0,nf,ρ,Hs,τ,τ',ds,r,rr,e,k⟩
    · cases e
   | _=>simp [gTm] at e
def B4 {it:DI} {g:DGm} {b:DSm} (hp:PassesOwn (model X.prog X.w) X.A X.env X.xe) (hc:X.calm=true) (hi:PId X tg iter it) (hg:PGm X tg g) (hb:l8 X body b) (hs:∀ x,foldedSetIterable iter X.env x=pure x:=by intro _; rfl) :
  PSm X (.For tg iter body [] pos) (BA it g b):=(vZ hp hc hi hg hb hs).imp λ E σ H ⟨Hs0,H0,nf,ρ,Hs,τ,o,r,e,k⟩=>by
 obtain ⟨ds,e1,e2⟩:=bind_some e;obtain ⟨fp,hst⟩:=r.st;refine ⟨H0,Hs,er τ,[],ds,hst.er,r.sm,e1,λ J Hs1 H1 g1 hJ=>?_⟩;have r1:=r.ext' g1;have kk:=k.rebase r1.ext;refine ⟨λ i m σ H=>m=ds.length - i/\i<=ds.length/\∃ Hs2 τ2,bA X.K Hs1 H0 ρ Hs2 H σ τ2/\forM (λ d τ=>(g d τ).bind b) (ds.drop i) τ2=some o,⟨ds.length,by simp,Z3 _,Hs1,τ,r1.rebase,by simpa using e2⟩,?_⟩
 rintro i m σ2 H2 ⟨rfl,hi,Hs2,τ2,r2,e3⟩
 obtain ⟨hgo,hstop⟩:=hJ Hs2 H2 r2.ext.ss r2.sm
 by_cases hlt:i < ds.length
 ·have ed:ds.drop i=ds[i]::ds.drop (i+1):=Ys hlt
  rw [ed] at e3;obtain ⟨go,yl⟩:=hgo i ds[i] (List.getElem?_eq_getElem hlt);refine .inr ⟨go,λ σ' H'=>∃ Hs' τ',bA X.K Hs1 H0 ρ Hs' H' σ' τ'/\forM (λ d τ=>(g d τ).bind b) (ds.drop (i+1)) τ'=some o,?_,?_⟩
  ·rintro σ' H' ⟨Hs',τ',r',e'⟩
   exact ⟨ds.length - (i+1),by omega,rfl,hlt,Hs',τ',r',e'⟩
  ·intro x H' y
   obtain ⟨Hs3,g3,rx⟩:=yl x H' y;have r3:=r2.ext' g3;unfold forM at e3
   cases q:(g ds[i] τ2).bind b with
   | none=>simp only [q] at e3; cases e3
   | some o1 =>
    simp only [q] at e3;obtain ⟨τ3,q1,q2⟩:=bind_some q;refine ⟨Hs1,H0,nf,ρ,Hs3,τ2,τ3,ds[i],r3,rx,q1,λ σ' r'=>?_⟩;refine ⟨Hs1,H0,nf,ρ,Hs3,τ3,o1,r',q2,?_⟩
    cases o1 with
    | next τ'=>exact λ σ4 Hs4 H4 r4=>⟨Hs4,τ',r4,e3⟩
    | cnt τ'=>exact λ σ4 Hs4 H4 r4=>⟨Hs4,τ',r4,e3⟩
    | brk τ'=>cases e3; exact kk
    | ret s τ'=>cases e3; exact kk
 ·have e0:i=ds.length:=by omega
  subst e0;rw [X0] at e3;have e':pM.next τ2=o:=by simpa [forM] using e3
  subst e';exact .inl ⟨hstop _ (Zs _),kk σ2 Hs2 H2 r2⟩
end
def Aa (i:Nat):DT:=λ τ=>match τ[i]? with
 | some (.own (.lst ds))=>some (!ds.isEmpty)
 | _=>none
def pU (i j:Nat):DS:=λ τ=>match τ[j]? with
 | some (.own (.lst ds))=>(ds[ds.length - 1]?).map λ d=>.next ((τ.set j (.own (.lst ds.dropLast))).set i (.shr d))
 | _=>none
def Rps.dropLast {K:W.Frag} {H:Hp} {xs:List V} {ds:List D} (r:Rps K H xs ds):Rps K H xs.dropLast ds.dropLast:=by
 rw [List.dropLast_eq_take,List.dropLast_eq_take,r.length];exact r.take _
def Rps.emp {K:W.Frag} {H:Hp} {xs:List V} {ds:List D} (r:Rps K H xs ds):xs.isEmpty=ds.isEmpty:=by cases r <;> rfl
section
variable {X:Cx} {a b c e o tg iter:Expr} {es:List Expr} {body:List Stmt} {pos apos cpos pos' p:Pos} {x y:Str}
def yO (i:Nat) (hN:X.N[i]?=some x:=by rfl) (hv:Vis X.env.scope x:=by first | exact Or.inl rfl | exact Or.inr (Or.inl rfl) | exact Or.inr (Or.inr rfl)) (hd:(x == ("__debug__":Str))=false:=by decide) (hcd:(x == ("__classdict__":Str))=false:=by decide):PTd X (.Name x p) (Aa i) :=
 (yP (eJ hN hv hd hcd) (λ _=>rfl)).imp λ σ H Q ⟨H0,Hs,τ,fp,d,st,sm,e,k⟩=>by
   unfold Aa at e;split at e
   ·rename_i ds q
    cases e;obtain ⟨a,h1,h2,_⟩:=st.DL q
    cases h2 with
    | lst h n r=>exact ⟨_,h1,_,.inl ⟨_,SqL.of h,by rw [r.emp]⟩,k Hs H (.refl sm)⟩
   · cases e
def zb (i j:Nat) (hN:X.N.Nodup) (hi:X.N[i]?=some x) (hx:Loc X.env.scope x) (hj:X.N[j]?=some y) (hv:Vis X.env.scope y)
   (hd:(y == ("__debug__":Str))=false:=by decide) (hcd:(y == ("__classdict__":Str))=false:=by decide)
   (hbase:attributeBase (.Name y py) "pop" X.env (eval (.Name y py) X.env)=eval (.Name y py) X.env:=by rfl) (hline:(apos.endLine == cpos.line)=true:=by rfl)
   (hs:swapsWith (.Call (.Attribute (.Name y py) "pop" apos) [] [] cpos) (some (.Name x pos')) pos.line X.env=pure false:=by rfl) (hf:X.fn x=true\/X.env.scope.names.lookup x=some .local:=by first | exact .inl rfl | exact .inr rfl | assumption) :
   PSd X (.Assign [.Name x pos'] (.Call (.Attribute (.Name y py) "pop" apos) [] [] cpos) pos) (pU i j) :=
 (rz hN hi hx (FE Yy PySem.F.slot_list_pop PySem.F.type_list_pop Gb (eJ hj hv hd hcd) hbase hline) hs hf).imp λ E σ H ⟨Hs0,H0,Hs,τ,o,r,e,k⟩=>by
   unfold pU at e;split at e
   ·rename_i ds q
    obtain ⟨d,e1,rfl⟩:=Zm e;obtain ⟨fp,st⟩:=r.st;obtain ⟨a,h1,h2,h3,h4⟩:=st.DL q
    cases h2 with
    | @lst xs _ hH hn hr =>
     obtain ⟨v,hv1,hv2⟩:=hr.get e1;rw [<- hr.length] at hv1;refine ⟨_,h1,.inl ⟨rfl,_,SqL.of hH⟩,a,xs,v,rfl,rfl,hH,hv1,?_⟩;have s1:=st.mut q h1 (o:=.lst xs.dropLast) (d':=.lst ds.dropLast) (.lst aq hn hr.dropLast);obtain ⟨fp',_,s2⟩:=s1.u9 (i:=i) hv2;refine k _ Hs _ ⟨⟨r.ext.ss,λ b u z=>?_,λ b u z=>?_,r.ext.fr⟩,fp',s2⟩
     · rw [aj (show b≠a from λ w=>by rw [w,hn] at z; cases z)]; exact r.ext.sh b u z
     · rw [aj (show b≠a from λ w=>by rw [w,h3] at z; cases z)]; exact r.ext.hh b u z
   · cases e
end
section
variable {K:W.Frag} {Hs0 H0 Hs H:Hp} {ρ:List (Option Addr)} {σ:St} {τ:List Sm}
def bA.forget (i:Nat) (v:Option V) (r:bA K Hs0 H0 ρ Hs H σ τ):bA K Hs0 H0 ρ Hs H (σ.set i v) (τ.set i .no):=by
 obtain ⟨fp,st⟩:=r.st;refine ⟨r.ext,?_⟩
 have:∀ {i ρ σ τ fp},StM K H0 Hs H ρ σ τ fp->∃ fp',StM K H0 Hs H ρ (σ.set i v) (τ.set i .no) fp'/\∀ c ∈ fp',c ∈ fp:=λ {i ρ σ τ fp} h=>by
  induction h generalizing i with
  | nil=>exact ⟨[],.nil,λ _ h=>h⟩
  | no r ih =>
   cases i with
   | zero=>exact ⟨_,.no r,λ _ h=>h⟩
   | succ i=>obtain ⟨fp',h1,h2⟩:=ih (i:=i); exact ⟨fp',.no h1,h2⟩
  | shr h r ih =>
   cases i with
   | zero=>exact ⟨_,.no r,λ _ h=>h⟩
   | succ i=>obtain ⟨fp',h1,h2⟩:=ih (i:=i); exact ⟨fp',.shr h h1,h2⟩
  | mu h hp z j r ih =>
   cases i with
   | zero=>exact ⟨_,.no r,λ _ h=>Ze _ h⟩
   | succ i =>
    obtain ⟨fp',h1,h2⟩:=ih (i:=i);exact ⟨_,.mu h hp z (λ c hc q=>j c hc (h2 c q)) h1,λ c hc=>(Zi.mp hc).elim (Zp _) λ q=>Ze _ (h2 c q)⟩
 obtain ⟨fp',h,_⟩:=this (i:=i) st;exact ⟨fp',h⟩
end
def kD:Key->D
 | .inl i=>.int i
 | .inr x=>.str x
def zP {K:W.Frag} {H:Hp} (k:Key):Rp K H (kV k) (kD k):=by
 cases k with
 | inl i=>exact .int i
 | inr x=>exact .str x
def E5:List V->Hp->VK->Prop:=λ xs H Q=>∃ (a:Addr) (kvs:List (Key×V)),xs=[.ref a]/\H a=some (.dK kvs)/\∀ l,H l=none->Q (.ref l) (upd H l (.lst (kvs.map λ kv=>kV kv.1)))
def uI:∀ {us:List Value} {ks:List Key},us.length=ks.length->(∀ (j:Nat) (v:Value),us[j]?=some v->∃ k,ks[j]?=some k/\m7 k v=true)->bD (ks.map kV) us
 | [],[],_,_=>.nil
 | [],_::_,e,_=>by cases e
 | _::_,[],e,_=>by cases e
 | u::us,k::ks,e,h=>by
  obtain ⟨k',e1,e2⟩:=h 0 u rfl;cases e1;refine .cons ?_ (uI (Nat.succ.inj e) λ j v ev=>h (j+1) v ev)
  rcases bc e2 with ⟨i,t,rfl,rfl⟩ | ⟨y,t,rfl,rfl⟩
  · exact ⟨t,rfl⟩
  · exact ⟨t,rfl⟩
def um (hh:X.A.handled=none):c8 X (.type "list") E5:=by
 intro pins s σ H xs us Q I r h;obtain ⟨a,kvs,rfl,ha,q⟩:=h;obtain ⟨u,rfl,ru⟩:=vals1 r;cases (show u=Value.ref a from ru);obtain ⟨sz,lo,vs,kv,dd⟩:=uj I.hok ha;obtain ⟨ep,hat⟩:=dd.dictAt;have lv:vs.length=kvs.length:=kv.length.symm;refine PySem.W.kdl_call (PySem.W.kdl_dict (knd:=bF X.prog X.w) (kvs:=vs) (ep:=ep) lo) hh hat (by rw [lv]; exact sz) λ h' tk acc' c' hk hS hacc=>?_
 have hv:bD ((kvs.map (·.1)).map kV) acc'.toList:=by
  refine uI (by rw [Y3,hacc.1,Za,lv]) λ j v hj=>?_
  obtain ⟨k,x,e1,e2⟩:=hacc.2 j v (by rw [<- Array.getElem?_toList]; exact hj);exact ⟨k,by rw [<- m6 kv,List.getElem?_map,e1]; rfl,e2⟩
 rw [Zw] at hv;exact ⟨.ref s.heap.objs.size,_,I.laid (t':=tk) hk (Zs _) (show cu X.prog X.w _ h' _ (.lst (kvs.map λ kv=>kV kv.1)) from ⟨by rw [Za]; exact sz,acc'.toList,c',hv,by rw [Array.toArray_toList]; exact hS⟩),rfl,q _ (I.hok.fresh (Zs _))⟩
def xM (f:DE):DE:=λ τ=>(f τ).bind λ d=>match d with | .dct ds=>some (.lst (ds.map λ p=>kD p.1)) | _=>none
def rm {K:W.Frag} {H H':Hp}:∀ {kvs:List (Key×V)} {ds:List (Key×D)},RpK K H kvs ds->Rps K H' (kvs.map λ kv=>kV kv.1) (ds.map λ p=>kD p.1)
 | _,_,.nil=>.nil
 | _,_,.cons _ r=>.cons (zP _) (rm r)
def zj (hh:X.A.handled=none) (hg:Gl X "list") (hm:X.mg "list"=none) (hv:bootBuiltins "list"=some (.type "list")) (he:PEd X e f) (hst:starEach [e] X.env=(false,eval e X.env)::starEach [] X.env:=by rfl) (hpl:(backTo pos (starEach [] X.env)).any (·.1)=false:=by rfl):PEo X (.Call (.Name "list" p) [e] [] pos) (xM f) :=
 (kL (um hh) hg hm hv (cB he eL hst) (by decide) (by decide) hst hpl).imp λ σ H Q ⟨H0,Hs,τ,fp,d,st,sm,e,k⟩=>by
   obtain ⟨x,e1,e2⟩:=bind_some e;refine ⟨H0,Hs,τ,fp,x,st,sm,e1,λ v Hs1 H1 g1 r1=>?_⟩
   cases r1 with
   | @dct a kvs ds h r =>
    cases e2;exact ⟨a,kvs,rfl,g1.sh _ _ h,λ p hp=>k p Hs1 _ ⟨g1.ss,g1.sh.trans (aA hp _),g1.hh.trans (aA hp _),g1.fr⟩ (.lst aq (g1.sh.free hp) (rm r)) (g1.hh.free hp)⟩
   | _=>exact nn e2
def vm (j i:Nat) (c:DT) (g:DE) (cs:List (Str×Nat)):DSm:=λ τ=>match τ[i]? with
 | some (.mu _ (.n .d ks))=>if ks.length<=100000/\j < τ.length then (nq (λ d=>c (.shr d::dY (aY (τ.set i .no)) cs)) (λ d=>g (.shr d::dY (aY (τ.set i .no)) cs)) (ks.map λ p=>kD p.1)).bind λ es=>if es.all sca=true then some (.next (τ.set j (.shr (.lst es)))) else none else none
 | _=>none
section
variable {X:Cx} {pos:Pos}
def vV (hN:X.N.Nodup) (hy:X.N[j]?=some y) (hx:Loc X.env.scope y)
   (hz:X.N[i]?=some z) (hv:Vis X.env.scope z) (hc:X.calm=true) (O:cf X scope cl x cs)
   (hcd:∀ s H fp C,PTd (bf X scope cl (x::cs.map (·.1)) s H fp C) cnd c) (he:∀ s H fp C,PEd (bf X scope cl (x::cs.map (·.1)) s H fp C) elt g)
   (hd:(z == ("__debug__":Str))=false:=by decide) (hcl:(z == ("__classdict__":Str))=false:=by decide) (hs:∀ x,foldedSetIterable (.Name z pz) X.env x=pure x:=by intro _; rfl)
   (hsw:swapsWith (.ListComp elt [⟨.Name x px,.Name z pz,[cnd],0⟩] scope pos) (some (.Name y py)) spos.line X.env=pure true:=by rfl)
   (hf:X.fn y=true\/X.env.scope.names.lookup y=some .local:=by first | exact .inl rfl | exact .inr rfl | assumption) :
   PSm X (.Assign [.Name y py] (.ListComp elt [⟨.Name x px,.Name z pz,[cnd],0⟩] scope pos) spos) (vm j i c g cs) :=
 (vY (mX (te:=rdE X.K g) (tt:=rdT X.K c) hN hy hx hc O (wc (eJ hz hv hd hcl)) hcd he hs hsw hf)).imp λ E σ H ⟨Hs0,H0,nf,ρ,Hs,τ,o,r,e,k⟩=>by
   unfold vm at e;split at e
   ·rename_i b0 ks ei
    split at e
    ·rename_i hl
     obtain ⟨hl,hj⟩:=hl;obtain ⟨full,e3,e4⟩:=bind_some e;split at e4
     ·rename_i hsc
      cases e4;obtain ⟨fp,st⟩:=r.st;obtain ⟨v,fq,fpr,o1,o2,o3,o4,o5⟩:=st.out ei;obtain ⟨d,dx,ts,u,rfl,rfl,rfl,hdH,hlay,hnd,ku,ndp,rr⟩:=o2.inv;rw [t5 hlay] at hdH;have d0:H0 d=none:=(st.live d (o4 d (Zd ..)).2).2.2;refine ⟨_,o1,d,ts.map Kd.kv,rfl,hdH,λ ob=>?_⟩;have dnf:d ∉ fpr:=(o4 d (Zd ..)).1;have s1:StM X.K H0 Hs (upd H d (.frz ob (.dK (ts.map Kd.kv)))) ρ σ (τ.set i .no) fpr:=o3.mv (.refl _) λ c hc=>⟨(o3.live c hc).1,aj (show c≠d from λ q=>dnf (by rw [<- q]; exact hc))⟩
      have sm1:bZ Hs (upd H d (.frz ob (.dK (ts.map Kd.kv)))):=λ c w q=>by
       rw [aj (show c≠d from λ y=>by rw [y,hnd] at q; cases q)]; exact r.sm c w q
      have snp:=s1.aY sm1;generalize hH1:upd H d (.frz ob (.dK (ts.map Kd.kv)))=H1 at snp;have h1d:H1 d=some (.frz ob (.dK (ts.map Kd.kv))):=by rw [<- hH1]; exact aq
      let ds:List D:=(ts.map Kd.km).map λ p=>kD p.1
      have ld:ds.length=(ts.map Kd.kv).length:=by simp [ds]
      rw [Za] at hl;have ld2:ds.length=ts.length:=by simp [ds]
      refine ⟨λ n m ys H'=>m=ds.length - n/\n<=ds.length/\bZ H1 H'/\∃ es rest,Rps X.K DJ ys es/\es.length<=n/\nq (λ d=>c (.shr d::dY (aY (τ.set i .no)) cs)) (λ d=>g (.shr d::dY (aY (τ.set i .no)) cs)) (ds.drop n)=some rest/\es++rest=full,⟨ds.length,by simp,Z3 _,   .refl _,[],full,.nil,Zs _,by rw [List.drop_zero]; exact e3,rfl⟩,?_⟩
      rintro n m ys H2 ⟨rfl,hn,g2,es,rest,ry,ley,e5,e6⟩
      have ly:ys.length<=n:=by rw [ry.length]; exact ley
      have h2d:=g2 _ _ h1d
      by_cases hlt:n < ds.length
      ·have ed:ds.drop n=ds[n]::ds.drop (n+1):=Ys hlt
       rw [ed] at e5;obtain ⟨b,q0,q0'⟩:=bind_some e5;refine .inr ⟨⟨h2d,by rw [<- ld]; exact hlt⟩,le5 (by omega),?_⟩
       rintro w H3 ⟨rfl,kk,ww,hk,rfl⟩
       have ekk:ds[n]=kD kk:=by
        have h1:ds[n]?=some (kD kk):=by
         simp only [ds];rw [List.getElem?_map,List.getElem?_map];rw [List.getElem?_map] at hk;obtain ⟨t,ht,et⟩:=Zm hk;rw [ht];have:t.k=kk:=(Prod.mk.inj et).1;show some (kD t.k)=_;rw [this]
        rw [List.getElem?_eq_getElem hlt] at h1;exact Zj h1
       have snp2:StR X.K H3 H3 H3 σ (aY (τ.set i .no)) []:=by
        have s2:=s1;rw [hH1] at s2;exact (s2.ext ⟨.refl _,(hH1 ▸ sm1).trans g2,g2,λ _ h _=>h⟩).aY ((hH1 ▸ sm1).trans g2)
       refine ⟨H3,H3,.shr ds[n]::dY (aY (τ.set i .no)) cs,[],b,.shr (by rw [ekk]; exact zP kk) (ji snp2 cs),.refl _,q0,λ Hs4 H4 g4=>?_⟩
       cases b with
       | true =>
        refine K5 ?_
        obtain ⟨x,q1,q2⟩:=bind_some (show (g (.shr ds[n]::dY (aY (τ.set i .no)) cs)).bind _=some rest from q0');obtain ⟨xs,q3,q4⟩:=bind_some q2;have eq:x::xs=rest:=Zj q4;subst eq
        have snp4:StR X.K H4 H4 H4 σ (aY (τ.set i .no)) []:=by
         have s2:=s1;rw [hH1] at s2;exact (s2.ext ⟨.refl _,((hH1 ▸ sm1).trans g2).trans g4.hh,g2.trans g4.hh,λ _ h _=>h⟩).aY (((hH1 ▸ sm1).trans g2).trans g4.hh)
        refine ⟨H4,H4,.shr ds[n]::dY (aY (τ.set i .no)) cs,[],x,.shr (by rw [ekk]; exact zP kk) (ji snp4 cs),.refl _,q1,λ v5 Hs5 H5 g5 r5=>?_⟩
        have sx:sca x=true:=by
         refine Yq.mp hsc x ?_
         rw [<- e6];simp
        exact ⟨ds.length - (n+1),by omega,rfl,hlt,(g2.trans g4.hh).trans g5.hh,es++[x],xs,ry.append (.cons (q9 r5 sx) .nil),by simp; omega,q3,by rw [<- e6]; simp⟩
       | false =>
        refine Ib ?_
        exact ⟨ds.length - (n+1),by omega,rfl,hlt,g2.trans g4.hh,es,rest,ry,by omega,q0',e6⟩
      ·have e0:n=ds.length:=by omega
       subst e0;rw [X0] at e5;have er:[]=rest:=Zj e5;subst er;rw [Z0] at e6;subst e6;refine .inl ⟨⟨h2d,by rw [<- ld]; exact Zs _⟩,uE (by omega),λ p hp=>?_⟩;have pd:p≠d:=λ q=>by rw [q,h2d] at hp; cases hp
       refine ⟨d,ob,ts.map Kd.kv,by rw [aj (Ne.symm pd)]; exact h2d,λ o' u' q=>nf d o' u' q d0,?_⟩
       let Hf:Hp:=upd (upd H2 p (.lst ys)) d (.dK (ts.map Kd.kv))
       have hpH:H p=none:=by
        have:H1 p=none:=g2.free hp;rw [<- hH1,aj pd] at this;exact this
       have smf:bZ H Hf:=λ c w q=>by
        by_cases cd:c=d
        ·subst cd
         rw [hdH] at q;cases q;exact aq
        ·have c1:H1 c=some w:=by rw [<- hH1,aj cd]; exact q
         have cp:c≠p:=λ y=>by rw [y,hpH] at q; cases q
         show upd (upd H2 p (.lst ys)) d _ c=_;rw [aj cd,aj cp];exact g2 _ _ c1
       have hfp:Hf p=some (.lst ys):=by
        show upd (upd H2 p (.lst ys)) d _ p=_;rw [aj pd,aq]
       have hsp:Hs p=none:=r.sm.free hpH
       have ex:Ext Hs H (upd Hs p (.lst ys)) Hf:=by
        refine ⟨aA hsp _,λ c w q=>?_,smf,λ c h1 h2=>?_⟩
        ·by_cases z:c=p
         · subst z; rw [aq] at q; cases q; exact hfp
         · rw [aj z] at q; exact smf _ _ (r.sm _ _ q)
        · rw [aj (show c≠p from λ z=>h2 (by rw [z]; exact hpH))]; exact h1
       exact k _ _ Hf ((r.ext' ex).u9 (.lst aq (jk ry hsc)))
     · cases e4
    · cases e
   · cases e
end
end L2
end
section
namespace L2
open PySem
section
variable {τ τ' τ1:List Sm} {f g:DSm} {s:Sm} {o:pM} {b:Bool} {d:D} {i j:Nat} {q:List Stp} {m m2 mv:Mt} {cs:List (Key×Mt)} {k:Key}
def aC (h:f τ=some (.next τ')) (h2:g τ'=some o):dt f g τ=some o:=by unfold dt; rw [h]; exact h2
def bG {f:DEm} (h:f τ=some (s,τ')) (hi:i < τ'.length) (hs:(toM s).isSome=true):fT i f τ=some (.next (τ'.set i s)):=by unfold fT; rw [h]; exact if_pos ⟨hi,hs⟩
def Gg {f:DEm} (h:f τ=some (s,τ')):rl f τ=some (.next τ'):=by unfold rl; rw [h]; rfl
def cM {g:DE} (h:g (aY τ)=some d):rg g τ=some (.next τ):=by unfold rg; rw [h]; rfl
def jY (h:t τ=some (true,τ')) (h2:f τ'=some o):pV t f g τ=some o:=by unfold pV; rw [h]; show (if true=true then f τ' else g τ')=_; rw [if_pos rfl]; exact h2
def c6 (h:t τ=some (false,τ')) (h2:g τ'=some o):pV t f g τ=some o:=by unfold pV; rw [h]; show (if false=true then f τ' else g τ')=_; rw [if_neg (by simp)]; exact h2
def ig {f:DEm} (h:f τ=some (s,τ')):jm f τ=some (.ret s τ'):=by unfold jm; rw [h]; rfl
def v_S {g:DE} (h:g (aY τ)=some d) (hs:sca d=true):eS g τ=some (.shr d,τ):=by unfold eS; rw [h]; exact if_pos hs
def v_N {g:DE} (h:g (er τ)=some d):eN g τ=some (.shr d,τ):=by unfold eN; rw [h]; rfl
def v_O {g:DE} {ds:List D} (h:g (aY τ)=some (.lst ds)) (hs:ds.all sca=true):eO g τ=some (.mu false (lM ds),τ):=by unfold eO; rw [h]; exact if_pos hs
def v_F {g:DE} {ds:List D} (h:g (aY τ)=some (.lst ds)) (hs:ds.all sca=true):eF g τ=some (.shr (.lst ds),τ):=by unfold eF; rw [h]; exact if_pos hs
def v_V (h:τ[i]?=some (.mu false m)):eV i τ=some (.mu false m,τ.set i .no):=by unfold eV; rw [h]
def Ir {f:DEm} (h:f τ=some (s,τ')) (hs:toM s=some mv):eD1 k f τ=some (.mu false (.n .d [(k,mv)]),τ'):=by unfold eD1; rw [h]; show (toM s).map _=_; rw [hs]; rfl
def t_S {g:DT} (h:g (aY τ)=some b):tS g τ=some (b,τ):=by unfold tS; rw [h]; rfl
def t_E {f:DEm} (h:f τ=some (.shr (.bl b),τ')):tE f τ=some (b,τ'):=by unfold tE; rw [h]; rfl
def ID {f:DTm} (h:f τ=some (b,τ')):tNt f τ=some (!b,τ'):=by unfold tNt; rw [h]; rfl
def kS (h:τ[i]?=some (.mu b m)):aO τ i q=m.get q:=by unfold aO; rw [h]
def cT (h:τ[i]?=some (.mu b m)):cJ τ i q m2=τ.set i (.mu b (m.put q m2)):=by unfold cJ; rw [h]
def bq:cq i τ=some (i,[]):=rfl
def jg {C:Addr} {x:Str} {f:DPx} (h:f τ=some (i,q)) (hm:aO τ i q=some (.n (.o C) cs)):jq C x f τ=some (i,q++[.k (.inr x)]):=by
 unfold jq;rw [h];show (match aO τ i q with | some (.n (.o C') _)=>if C'=C then some (i,q++[Stp.k (.inr x)]) else none | _=>none)=_;rw [hm];exact if_pos rfl
def jX {f:DPx} {gk:DE} (h:f τ=some (i,q)) (hk:gk (aY τ)=some d) (he:l3 d=some k) (hm:aO τ i q=some (.n .d cs)):p4 f gk τ=some (i,q++[.k k]):=by
 unfold p4;rw [h];show (gk (aY τ)).bind _=_;rw [hk];show (l3 d).bind _=_;rw [he];show (match aO τ i q with | some (.n .d _)=>some (i,q++[Stp.k k]) | _=>none)=_;rw [hm]
def dw (h1:fv τ=some (s,τ1)) (h2:px τ1=some (i,q)) (h3:gk (aY τ1)=some d) (h4:l3 d=some k) (h5:toM s=some mv) (h6:aO τ1 i q=some (.n .d cs)) (h7:cs.length < 100000):cA px gk fv τ=some (.next (cJ τ1 i q (.n .d (eD cs k mv)))):=by
 unfold cA;simp only [h1,h2,h3,h4,h5,h6,Yc];exact if_pos h7
def Gf (h1:fv τ=some (s,τ1)) (h2:px τ1=some (i,q)) (h5:toM s=some mv) (h6:aO τ1 i q=some (.n (.o C) cs)) (h7:cs.length < 1000):tq C x px fv τ=some (.next (cJ τ1 i q (.n (.o C) (eD cs (.inr x) mv)))):=by
 unfold tq;simp only [h1,h2,h5,h6,Yc];exact if_pos ⟨trivial,h7⟩
def zL {px:DPx} {gi:DE} {fv:DEm} {cs0:List (Key×Mt)} {n:Int} (h1:px τ=some (i,q)) (h2:aO τ i q=some (.n .l cs0)) (h3:gi (aY τ)=some (.int n)) (h4:fv τ=some (s,τ1)) (h5:toM s=some mv) (h6:aO τ1 i q=some (.n .l cs)) (h7:0<=n/\n<=cs.length/\cs.length < 100000):yD px gi fv τ=some (.next (cJ τ1 i q (.n .l (Ie cs n.toNat mv)))):=by
 unfold yD;simp only [h1,h2,h3,h4,h5,h6,Yc];exact if_pos h7
def Ge (h1:px τ=some (i,q)) (h2:gk (aY τ)=some (.int n)) (h3:aO τ i q=some (.n .l cs)) (h4:dz (xq cs)=some ns) (h5:ns.length<=1000/\n ∈ ns):vg px gk τ=some (.next (cJ τ i q (.n .l (cs.eraseIdx (ns.idxOf n))))):=by
 unfold vg;simp only [h1,h2,h3,h4,Yc];exact if_pos h5
def K0 (h1:px τ=some (i,q)) (h2:gk (aY τ)=some d) (h3:l3 d=some k) (h4:aO τ i q=some (.n .d cs)) (h5:(cs.any λ c=>decide (c.1=k))=true):yC px gk τ=some (.next (cJ τ i q (.n .d (ui cs k)))):=by
 unfold yC;simp only [h1,h2,h3,h4,Yc];exact if_pos h5
def q_N {g:DE} (h:g (er τ)=some d):qN g τ=some (.v d):=by unfold qN; rw [h]; rfl
def q_X {f:DPx} {t:Tg} (h:f τ=some (i,q)) (hm:aO τ i q=some (.n t cs)):qX f τ=some (.p i q):=by
 unfold qX;rw [h];show (match aO τ i q with | some (.n _ _)=>some (Am.p i q) | some (.s d)=>some (.v d) | none=>none)=_;rw [hm]
def aZ {h:List Sm->Option Am} {g:DAm} {a:Am} {as:List Am} (h1:h τ=some a) (h2:g τ=some as):cc h g τ=some (a::as):=by unfold cc; rw [h1]; show (g τ).map _=_; rw [h2]; rfl
def v_C {F:List Sm->Option (Sm×List Sm)} {g:DAm} {as:List Am} {ss ss':List Sm} (h1:g τ=some as) (h2:lend τ as=some ss) (h3:F ss=some (s,ss')) (h4:back τ as ss'=some τ'):eC F g τ=some (s,τ'):=by
 unfold eC;rw [h1];show qK F τ as=_;unfold qK;simp only [h2,h3,h4,Yc,Xr]
def v_M {C:Addr} {x:Str} {F:List Sm->Option (Sm×List Sm)} {f:DPx} {g:DAm} {as:List Am} {ss ss':List Sm} (h0:f τ=some (i,q)) (hm:aO τ i q=some (.n (.o C) cs)) (hn:(cs.any λ c=>decide (c.1=.inr x))=false) (h1:g τ=some as) (h2:lend τ (.p i q::as)=some ss) (h3:F ss=some (s,ss')) (h4:back τ (.p i q::as) ss'=some τ'):eM C x F f g τ=some (s,τ'):=by
 unfold eM;simp only [h0,hm,Yc];rw [if_pos ⟨trivial,hn⟩,h1];show qK F τ _=_;unfold qK;simp only [h2,h3,h4,Yc,Xr]
def v_K {C:Addr} {F:List Sm->Option (Sm×List Sm)} {g:DAm} {as:List Am} {ss r:List Sm} (h1:g τ=some as) (h2:lend τ as=some ss) (h3:F (.mu true (.n (.o C) [])::ss)=some (.shr .non,.mu true m::r)) (h4:back τ as r=some τ'):eK C F g τ=some (.mu false m,τ'):=by
 unfold eK;simp only [h1,h2,h3,Yc];rw [h4];rfl
def cZ (h:bd (as++List.replicate (n - as.length) .no)=some (.ret s τ)) (hl:as.length=mm:=by rfl):jd n mm bd as=some (s,(τ.take mm).map w6):=by unfold jd; rw [if_pos hl,h]
def EZ (h:bd (as++List.replicate (n - as.length) .no)=some (.next τ)) (hl:as.length=mm:=by rfl):jd n mm bd as=some (.shr .non,(τ.take mm).map w6):=by unfold jd; rw [if_pos hl,h]
def z7:(Mt.n .d cs).get [.k k]=(cs.find? λ c=>decide (c.1=k)).map (·.2):=by
 show (match cs.findIdx? (λ c=>decide (c.1=k)) with | none=>none | some i=>match cs[i]? with | none=>none | some c=>Mt.get c.2 [])=_;have e:∀ m:Mt,m.get []=some m:=λ m=>by cases m <;> rfl
 rw [List.find?_eq_bind_findIdx?_getElem?]
 cases h:cs.findIdx? (λ c=>decide (c.1=k)) with
 | none=>rfl
 | some i =>
  show (match cs[i]? with | none=>none | some c=>Mt.get c.2 [])=(cs[i]?).map (·.2)
  cases cs[i]? with
  | none=>rfl
  | some c=>exact e c.2
end
end L2
end
section
namespace L2
open PySem PySem.Spec PyProof.Rows
def nuI (ns:List Int) (i:Nat):Int:=(ns[i]?).getD 0
def mxI (ns:List Int):Int:=nuI ns (argBest (λ i j=>decide (nuI ns i > nuI ns j)) (ns.length - 1))
def zE:List D->Option D
 | [.lst ds]=>(dz ds).bind λ ns=>if 0 < ns.length then some (.int (mxI ns)) else none
 | _=>none
def Di (h:0 < ns.length):mxI ns ∈ ns:=by
 unfold mxI nuI;have:=(argBest_gt (nuI ns) (ns.length - 1)).1;have hl:argBest (λ i j=>decide (nuI ns i > nuI ns j)) (ns.length - 1) < ns.length:=by omega
 have e:ns[argBest (λ i j=>decide (nuI ns i > nuI ns j)) (ns.length - 1)]?=some (ns[argBest (λ i j=>decide (nuI ns i > nuI ns j)) (ns.length - 1)]):=List.getElem?_eq_getElem hl;unfold nuI at e;rw [e];exact Y7 _
def Ga (h:a ∈ ns):a<=mxI ns:=by
 obtain ⟨i,hi,e⟩:=List.mem_iff_getElem.mp h;have:=(argBest_gt (nuI ns) (ns.length - 1)).2 i (by omega)
 have e':nuI ns i=a:=by
  unfold nuI;rw [List.getElem?_eq_getElem hi,e];rfl
 rw [e'] at this;exact this
section
variable {X:Cx}
def xS (hc:X.calm=true):c8 X (.builtin "max") (λ xs H Q=>∃ (p:Addr) (ns:List Int),xs=[.ref p]/\H p=some (.lst (ns.map V.int))/\0 < ns.length/\Q (.int (mxI ns)) H):=by
 intro pins s σ H xs us Q I r h;obtain ⟨p,ns,rfl,hH,hs,q⟩:=h;obtain ⟨u,rfl,ru⟩:=vals1 r;cases (show u=Value.ref p from ru);obtain ⟨its,rv,pl,hz⟩:=I.list (SqL.of hH);have hl:=pl.isList;have hlen:=rv.length;rw [Za] at hlen;have hlt:p < s.heap.objs.size:=by obtain ⟨_,e,_⟩:=hl; exact Zt e
 refine call_max_walk (wpAny_pyIter_list hl ?_)
 refine ⟨s.heap.objs.size,[s.heap.objs.size,p],[s.heap.objs.size],its.toArray.size,_,_,_,rfl,Walks.list (A:=X.A.in1) (I.ok.hd hc) _ p (Zx hlt) its.toArray,
  ⟨⟨_,Heap.get?_push_size _ rfl,rfl,rfl⟩,hl.push _⟩,λ b hb=>?_,by rw [Zq,<- hlen]; exact hs,CmpOf.ints_gt (nuI ns) (λ i v hP=>ip rv i v (by simpa using hP)),λ v h' tk hP hk=>?_⟩
 ·rw [Xk]
  simp only [Zl,Xm,or_false] at hb;rcases hb with rfl | rfl
  · exact Yv _
  · exact Nat.lt_succ_of_lt hlt
 ·rw [Zq,<- hlen] at hP
  obtain ⟨t,e⟩:=ip rv _ v (by simpa using hP);refine ⟨.int (mxI ns),H,I.kept (t':=tk) λ b x ex=>hk b x (λ hm=>?_) (Heap.get?_push_of_some _ ex),⟨t,e⟩,q⟩;rw [Zn.mp hm] at ex;exact Yj _ (Zt ex)
def Bc (hc:X.calm=true):c8 X (.builtin "max") (rdL X.K zE):=(xS hc).imp λ xs H Q ⟨Hs,ds,d,sm,r,e,k⟩=>by
 match ds,r,e with
 | [x],.cons hx .nil,e =>
  cases hx with
  | @lst a ys ds h r =>
   obtain ⟨ns,e1,e2⟩:=bind_some (show (dz ds).bind _=some d from e);have ed:=k8 e1;subst ed;have ey:=r.ip;subst ey;split at e2
   ·rename_i hs
    have e':D.int (mxI ns)=d:=Zj e2;subst e';exact ⟨a,ns,rfl,sm _ _ h,hs,k _ Hs H (.refl sm) (.int _)⟩
   · cases e2
  | _=>exact nn e
 | [],_,e=>simp [zE] at e
 | _::_::_,_,e=>simp [zE] at e
end
section
variable {X:Cx} {pos:Pos}
def vP (hN:X.N.Nodup) (hy:X.N[i]?=some y) (hx:Loc X.env.scope y)
  (hc:X.calm=true) (O:cf X scope cl x cs) (hi:PId X (.Name x px) iter it)
  (hcd:∀ s H fp C,PTd (bf X scope cl (x::cs.map (·.1)) s H fp C) cnd c) (he:∀ s H fp C,PEd (bf X scope cl (x::cs.map (·.1)) s H fp C) elt g) (hs:∀ x,foldedSetIterable iter X.env x=pure x:=by intro _; rfl)
  (hsw:swapsWith (.ListComp elt [⟨.Name x px,iter,[cnd],0⟩] scope pos) (some (.Name y py)) spos.line X.env=pure true:=by rfl)
  (hf:X.fn y=true\/X.env.scope.names.lookup y=some .local:=by first | exact .inl rfl | exact .inr rfl | assumption) :
  PSm X (.Assign [.Name y py] (.ListComp elt [⟨.Name x px,iter,[cnd],0⟩] scope pos) spos) (fT i (eO (gZ it c g cs))):=(mX (te:=rdE X.K g) (tt:=rdT X.K c) hN hy hx hc O hi hcd he hs hsw hf).imp λ E σ H ⟨Hs0,H0,nf,ρ,Hs,τ,o,r,e,k⟩=>by
 obtain ⟨⟨s,τ1⟩,e1,e2⟩:=bind_some e;split at e2
 ·rename_i h
  cases e2;obtain ⟨d,e3,e4⟩:=bind_some e1;split at e4
  ·split at e4
   ·rename_i hsc
    cases e4;obtain ⟨fp,st⟩:=r.st;refine nE ⟨H,H,aY τ,[],_,st.aY r.sm,.refl H,e3,λ a Hs' H' g1 ow hn=>?_⟩
    cases ow with
    | lst h' n rr=>exact k _ Hs H' ((r.BO g1.hh (Od.lst h' (r.sm.free hn) (jk rr hsc)) λ c hc=>by rw [Zn.mp hc]; exact hn).into h.1 h.2)
   · cases e4
  · cases e4
 · cases e2
def tD (hN:X.N.Nodup) (hy:X.N[i]?=some y) (hx:Loc X.env.scope y)
  (hc:X.calm=true) (O:cf X scope cl x cs) (hi:PId X (.Name x px) iter it)
  (hcd:∀ s H fp C,PTd (bf X scope cl (x::cs.map (·.1)) s H fp C) cnd c) (he:∀ s H fp C,PEd (bf X scope cl (x::cs.map (·.1)) s H fp C) elt g) (hs:∀ x,foldedSetIterable iter X.env x=pure x:=by intro _; rfl)
  (hsw:swapsWith (.ListComp elt [⟨.Name x px,iter,[cnd],0⟩] scope pos) (some (.Name y py)) spos.line X.env=pure true:=by rfl)
  (hf:X.fn y=true\/X.env.scope.names.lookup y=some .local:=by first | exact .inl rfl | exact .inr rfl | assumption) :
  PSm X (.Assign [.Name y py] (.ListComp elt [⟨.Name x px,iter,[cnd],0⟩] scope pos) spos) (fT i (eF (gZ it c g cs))):=(mX (te:=rdE X.K g) (tt:=rdT X.K c) hN hy hx hc O hi hcd he hs hsw hf).imp λ E σ H ⟨Hs0,H0,nf,ρ,Hs,τ,o,r,e,k⟩=>by
 obtain ⟨⟨s,τ1⟩,e1,e2⟩:=bind_some e;split at e2
 ·rename_i hh
  cases e2;obtain ⟨d,e3,e4⟩:=bind_some e1;split at e4
  ·split at e4
   ·rename_i hsc
    cases e4;obtain ⟨fp,st⟩:=r.st;refine nE ⟨H,H,aY τ,[],_,st.aY r.sm,.refl H,e3,λ a Hs' H' g1 ow hn=>?_⟩
    cases ow with
    | @lst xs ds h n rr =>
     have ha:Hs a=none:=r.sm.free hn
     have ex:Ext Hs H (upd Hs a (.lst xs)) H':=by
      refine ⟨aA ha _,λ b u q=>?_,g1.hh,λ b h1 h2=>?_⟩
      ·by_cases z:b=a
       · subst z; rw [aq] at q; cases q; exact h
       · rw [aj z] at q; exact g1.hh _ _ (r.sm _ _ q)
      · rw [aj (show b≠a from λ z=>h2 (by rw [z]; exact hn))]; exact h1
     exact k _ _ H' (((r.ext' ex).push (.lst aq (jk rr hsc))).into hh.1 hh.2)
   · cases e4
  · cases e4
 · cases e2
end
def eT (g:DA):DEm:=λ τ=>(g (aY τ)).bind λ ds=>if ds.all sca=true/\ds.length<=100000 then some (.shr (.tup ds),τ) else none
def v_T (h:g (aY τ)=some ds) (hs:ds.all sca=true) (hl:ds.length<=100000):eT g τ=some (.shr (.tup ds),τ):=by unfold eT; rw [h]; exact if_pos ⟨hs,hl⟩
section
variable {X:Cx} {es:List Expr} {pos:Pos}
def Np {x1} (h:PAd X es g):PVm X (.Tuple es x1 pos) (eT g):=(AM h).imp λ σ H Q ⟨Hs0,H0,nf,ρ,Hs,τ,s,τ',r,e,k⟩=>by
 obtain ⟨ds,e1,e2⟩:=bind_some e;split at e2
 ·rename_i hs
  cases e2;obtain ⟨fp,st⟩:=r.st;refine ⟨H,H,aY τ,[],ds,st.aY r.sm,.refl H,e1,λ vs Hs1 H1 g1 r1=>⟨by rw [r1.length]; exact uE hs.2,λ p hp=>?_⟩⟩;have hp1:H p=none:=g1.hh.free hp;have hp0:Hs p=none:=r.sm.free hp1
  have ex:Ext Hs H (upd Hs p (.tup vs)) (upd H1 p (.tup vs)):=by
   refine ⟨aA hp0 _,λ b u q=>?_,g1.hh.trans (aA hp _),λ b h1 h2=>?_⟩
   ·by_cases z:b=p
    · subst z; rw [aq] at q ⊢; exact q
    · rw [aj z] at q ⊢; exact g1.hh _ _ (r.sm _ _ q)
   · rw [aj (show b≠p from λ z=>h2 (by rw [z]; exact hp1))]; exact h1
  exact k _ _ _ (g1.hh.trans (aA hp _)) ((r.ext' ex).push (.tup (SqT.of aq) (jk r1 hs.1)))
 · cases e2
end
def sV (i j:Nat) (gk1:DE) (i2:Nat) (gk2:DE) (g2:DA) (g3:DE):DSm:=λ τ=>match τ[j]? with
 | some (.mu false m)=>match cA (cq i) gk1 (eV j) τ with
  | some (.next τ1)=>match cA (cq i2) gk2 (eT g2) τ1 with
   | some (.next τ2)=>(g3 ((aY τ2).set j (.shr (frz m)))).bind λ d=>if sca d=true/\i≠i2 then some (.ret (.shr d) τ2) else none
   | _=>none
  | _=>none
 | _=>none
def kT (h:aO τ i []=some m):∃ b,τ[i]?=some (.mu b m):=by
 unfold aO at h;split at h
 ·rename_i b m' e
  have:m'=m:=by cases m' <;> exact Zj h
  subst this;exact ⟨b,e⟩
 · cases h
def BN (cs:List (Key×Mt)) (k:Key) (m:Mt):(k,m) ∈ eD cs k m:=by
 unfold eD;split
 ·rename_i h
  obtain ⟨c,hc,e⟩:=List.any_eq_true.mp h;have e':c.1=k:=Xx e;exact Z4.mpr ⟨c,hc,by rw [if_pos e',e']⟩
 · exact Ze _ (Zn.mpr rfl)
def Eu {kvs:List (Key×V)} {k:Key} {v:V} (h:cI kvs k=some v):(k,v) ∈ kvs:=by
 unfold cI at h;obtain ⟨c,hc,rfl⟩:=Zm h;have e:c.1=k:=by simpa using List.find?_some hc
 rw [<- e];exact List.mem_of_find?_eq_some hc
def Fc (h:τ[i]?=some (.mu b m)):(cJ τ i [] m2)[i]?=some (.mu b m2):=by
 unfold cJ;rw [h];have e:m.put [] m2=m2:=by cases m <;> rfl
 show (τ.set i (.mu b (m.put [] m2)))[i]?=_;rw [e,List.getElem?_set_self (List.getElem?_eq_some_iff.mp h).1]
def BL (h:τ[i]?=some (.mu b m)) (ne:i≠k):(cJ τ i [] m2)[k]?=τ[k]?:=by
 unfold cJ;rw [h];show (τ.set i (.mu b (m.put [] m2)))[k]?=_;rw [List.getElem?_set_ne ne]
def set_same {α:Type} {l:List α} {x:α} (h:l[j]?=some x):l.set j x=l:=by
 apply List.ext_getElem?;intro n;rw [List.getElem?_set];split
 ·rename_i e
  subst e;split
  · exact h.symm
  ·rename_i hn
   rw [List.getElem?_eq_none (by omega)] at h;cases h
 · rfl
section
variable {K:W.Frag} {Hs0 H0 Hs H:Hp} {ρ:List (Option Addr)} {σ:St} {τ:List Sm} {i:Nat} {s:Sm} {v:V} {mv m:Mt} {cs:List (Key×Mt)} {b:Bool} {a:Addr} {kvs:List (Key×V)} {ky:Key}
def j9 (r:bA K Hs0 H0 (none::ρ) Hs H (some v::σ) (s::τ)) (hs:toM s=some mv) (hg:aO τ i []=some (.n .d cs)):∃ a kvs,σ[i]?=some (some (.ref a))/\H a=some (.dK kvs)/\kvs.length=cs.length/\∀ ky,bA K Hs0 H0 ρ Hs (upd H a (.dK (putK kvs ky v))) σ (cJ τ i [] (.n .d (eD cs ky mv))):=by
 obtain ⟨b,eb⟩:=kT hg;obtain ⟨fp,st⟩:=r.pop.st;obtain ⟨rt,fq,fp',h1,_⟩:=st.out eb;obtain ⟨a,dx,ts,u,fv,rfl,rfl,ha,hl,ku,fin⟩:=r.tT hs hg h1 rfl;rw [t5 hl] at ha;refine ⟨a,_,h1,ha,by rw [Za,Za],λ ky=>?_⟩;obtain ⟨l1,l2,hsub,spl⟩:=kH ky ku;obtain ⟨p1,p2,p3⟩:=spl ⟨ky,v,mv,fv⟩ rfl;generalize ek:ts.map Kd.kv=kvs at hl
 cases hl with
 | d _ =>
  have:=fin l1 ky l2 (.dK (putK kvs ky v)) hsub (by rw [p1,ek]; exact .d _) p3;rw [p2] at this;exact this
def LC {cs0:List (Key×Mt)} (r:bA K Hs0 H0 ρ Hs H σ τ) (hi:τ[i]?=some (.mu b (.n .d (eD cs0 ky m)))) (ha:σ[i]?=some (some (.ref a))) (hH:H a=some (.dK kvs)) (hv:cI kvs ky=some v):Rp K H v (frz m):=by
 obtain ⟨fp,st⟩:=r.st;obtain ⟨rt,fq,fp',h1,h2,_⟩:=st.out hi;rw [ha] at h1;cases h1;obtain ⟨a',dx,ts,u,e1,_,e2,hu,hl,_,ku,_,rr⟩:=h2.inv;cases e1;rw [hH] at hu;cases hu;have e3:=t5 hl;injection e3 with e3
 have i1:=Eu hv;rw [e3] at i1;obtain ⟨c,hc,ec⟩:=Z4.mp i1;have i2:=BN cs0 ky m;rw [e2] at i2;obtain ⟨c',hc',ec'⟩:=Z4.mp i2;have k1:c.k=ky/\c.v=v:=by injection ec with z1 z2; exact ⟨z1,z2⟩
 have k2:c'.k=ky/\c'.m=m:=by injection ec' with z1 z2; exact ⟨z1,z2⟩
 have ecc:c=c':=by
  have ku':(ts.map Kd.k).Nodup:=ku
  have:∀ {l:List Kd},(l.map Kd.k).Nodup->c ∈ l->c' ∈ l->c.k=c'.k->c=c':=λ {l}=>by
   induction l with
   | nil=>intro _ h; cases h
   | cons z l ih =>
    intro nd h h' e;rw [Zh,Zy] at nd;rcases Zl.mp h with e1 | g
    ·rcases Zl.mp h' with e2 | g'
     · rw [e1,e2]
     · exact absurd (Z4.mpr ⟨c',g',by rw [<- e,e1]⟩) nd.1
    ·rcases Zl.mp h' with e2 | g'
     · exact absurd (Z4.mpr ⟨c,g,by rw [e,e2]⟩) nd.1
     · exact ih nd.2 g g' e
  exact this ku' hc hc' (by rw [k1.1,k2.1])
 have o:=(rr c hc).rp r.sm;rw [k1.2,ecc,k2.2] at o;exact o
def uJ (r:bA K Hs0 H0 ρ Hs H σ τ) (hi:τ[i]?=some (.mu b (.n t cs))) (hi2:τ[i2]?=some (.mu b2 (.n t2 cs2))) (ne:i≠i2) (ha:σ[i]?=some (some (.ref a))) (ha2:σ[i2]?=some (some (.ref a2))):a≠a2:=by
 obtain ⟨fp,st⟩:=r.st;obtain ⟨v,fq,fp',h1,h2,h3,h4,_⟩:=st.out hi;rw [ha] at h1;cases h1;obtain ⟨v2,fq2,fp2,k1,k2,_,k4,_⟩:=h3.out (i:=i2) (b:=b2) (m:=.n t2 cs2) (by rw [List.getElem?_set_ne ne]; exact hi2);rw [ha2] at k1;cases k1;obtain ⟨_,_,_,_,e1,e2,_⟩:=h2.inv;obtain ⟨_,_,_,_,e3,e4,_⟩:=k2.inv;cases e1;cases e3;intro z;subst z;exact (h4 a (by rw [e2]; exact Zd ..)).1 (k4 a (by rw [e4]; exact Zd ..)).2
end
section
variable {X:Cx} {posA posB posC pd pf px ps1 ps2 pt:Pos} {k1 k2 e3:Expr} {es:List Expr} {d f x:Str} {i j i2:Nat} {gk1 gk2 g3:DE} {g2:DA}
def vM {x1} (hu:X.A.units+1 < cLine) (hd:PE X (.Name d pd) (Bn i)) (hk1:PEd X k1 gk1) (hx:PE X (.Name x px) (Bn j)) (hf:PE X (.Name f pf) (Bn i2)) (hk2:PEd X k2 gk2) (h2:PAd X es g2) (h3:PEd X e3 g3)
  (hsA:swapsWith (.Name x px) (some (.Subscript (.Name d pd) k1 ps1)) posA.line X.env=pure false:=by rfl) (hsB:swapsWith (.Tuple es x1 pt) (some (.Subscript (.Name f pf) k2 ps2)) posB.line X.env=pure false:=by rfl) :
  l8 X [.Assign [.Subscript (.Name d pd) k1 ps1] (.Name x px) posA,.Assign [.Subscript (.Name f pf) k2 ps2] (.Tuple es x1 pt) posB,.Return (some e3) posC] (sV i j gk1 i2 gk2 g2 g3) :=
 PSs.imp (j5 (p6 hu hd hk1 hx hsA) (j5 (p6 hu hf hk2 (Np h2) hsB) (kJ (mf h3)))) λ E σ H ⟨Hs0,H0,nf,ρ,Hs,τ,o,r,e,k⟩=>by
  unfold sV at e;split at e
  ·rename_i m ej
   split at e
   ·rename_i τ1 eA
    split at e
    ·rename_i τ2 eB
     obtain ⟨d3,e3,e4⟩:=bind_some e;split at e4
     ·rename_i hs
      obtain ⟨hs,hne⟩:=hs;cases e4;obtain ⟨⟨s,τa⟩,a1,eA⟩:=bind_some eA;obtain ⟨⟨ia,qa⟩,a2,eA⟩:=bind_some eA;obtain ⟨da,a3,eA⟩:=bind_some eA;obtain ⟨ky,a4,eA⟩:=bind_some eA;obtain ⟨mv,a5,eA⟩:=bind_some eA;have a1':eV j τ=some (.mu false m,τ.set j .no):=by unfold eV; rw [ej]
      rw [a1'] at a1;cases a1;cases a2;cases a5;split at eA
      ·rename_i cs en
       split at eA
       ·rename_i hz
        have eA':=Zj eA;injection eA' with eA'
        obtain ⟨fp,st⟩:=r.st;obtain ⟨v,fq,fp',h1,h2',h3',h4,h5⟩:=st.out ej;have r1:bA X.K Hs0 H0 (none::ρ) Hs H (some v::σ) (.mu false m::τ.set j .no):=⟨r.ext,fq++fp',.mu h2' (λ e=>by cases e) (λ c hc=>(st.live c (h4 c hc).2).2.2) (λ c hc=>(h4 c hc).1) h3'⟩
        refine ⟨v,h1,?_⟩;obtain ⟨a,kvs,g1,g2',g3',fin⟩:=j9 r1 rfl en;refine ⟨.ref a,g1,?_⟩;refine ⟨H,H,aY (τ.set j .no),[],da,h3'.aY r.sm,.refl H,a3,λ y Hs3 H3 gg ry=>?_⟩;have hy:=jR ry a4;subst hy;obtain ⟨a',kvs',g1',g2'',g3'',fin'⟩:=j9 (r1.grow gg.hh) rfl en;rw [g1] at g1';cases g1';refine ⟨a,_,rfl,Ei.k g2'' (by rw [g3'']; exact le5 (Yn hz)),?_⟩;have r4:=fin' ky;rw [eA'] at r4;obtain ⟨⟨s5,τ5⟩,b1,eB1⟩:=bind_some eB;obtain ⟨⟨ib,qb⟩,b2,eB2⟩:=bind_some eB1;obtain ⟨db,b3,eB3⟩:=bind_some eB2;obtain ⟨ky2,b4,eB4⟩:=bind_some eB3;obtain ⟨mv2,b5,eB5⟩:=bind_some eB4;clear eB eB1 eB2 eB3 eB4;cases b2
        have e5:τ5=τ1:=by
         unfold eT at b1;obtain ⟨ds,_,b1⟩:=bind_some b1;split at b1
         · cases b1; rfl
         · cases b1
        subst e5;split at eB5
        ·rename_i cs2 en2
         split at eB5
         ·rename_i hz2
          have eB':=Zj eB5;injection eB' with eB'
          refine ⟨Hs0,H0,nf,ρ,Hs,_,s5,_,r4,b1,λ v5 Hs5 H5 s5' r5=>?_⟩;obtain ⟨a2,kvs2,q1,q2,q3,fin2⟩:=j9 r5 b5 en2;refine ⟨.ref a2,q1,?_⟩;obtain ⟨fp5,st5⟩:=r5.pop.st;refine ⟨H5,H5,aY _,[],db,st5.aY r5.sm,.refl H5,b3,λ y2 Hs6 H6 gg6 ry2=>?_⟩;have hy2:=jR ry2 b4;subst hy2;obtain ⟨a2',kvs2',q1',q2',q3',fin2'⟩:=j9 (r5.grow gg6.hh) b5 en2;rw [q1] at q1';cases q1';refine ⟨a2,_,rfl,Ei.k q2' (by rw [q3']; exact le5 (Yn hz2)),?_⟩;have r8:=fin2' ky2;rw [eB'] at r8;obtain ⟨b0,t0⟩:=kT en
          have t1:τ5[i]?=some (.mu b0 (.n .d (eD cs ky m))):=by
           rw [<- eA'];exact Fc t0
          obtain ⟨b2,t2⟩:=kT en2;have nea:=uJ r5.pop t1 t2 hne g1 q1
          have hA:upd H6 a2 (.dK (putK kvs2' ky2 v5)) a=some (.dK (putK kvs' ky v)):=by
           rw [aj nea];exact gg6.hh _ _ (s5' _ _ aq)
          have t3:τ2[i]?=some (.mu b0 (.n .d (eD cs ky m))):=by
           rw [<- eB'];exact (BL t2 (Ne.symm hne)).trans t1
          have rp:=LC r8 t3 g1 hA (by rw [yv,if_pos rfl]);obtain ⟨fp8,st8⟩:=r8.st;obtain ⟨fp9,n9,st9⟩:=StR.u9 (i:=j) rp (st8.aY r8.sm);have e9:fp9=[]:=List.eq_nil_iff_forall_not_mem.mpr λ c hc=>nomatch n9 c hc
          subst e9;rw [set_same h1] at st9;exact ⟨_,_,_,[],d3,st9,.refl _,e3,λ v9 Hs9 H9 g9 r9=>k v9 σ Hs5 H9 ((r8.grow g9.hh).push (q9 r9 hs))⟩
         · cases eB5
        · cases eB5
       · cases eA
      · cases eA
     · cases e4
    · cases e
   · cases e
  · cases e
end
mutual
def okL:Nat->D->Bool
 | _,.non=>true
 | _,.int _=>true
 | _,.bl _=>true
 | _,.str x=>PyData.strOk x
 | n+1,.tup ds=>pO n ds
 | _,_=>false
def pO:Nat->List D->Bool
 | _,[]=>true
 | n,d::ds=>okL n d&&pO n ds
end
open PySem.W in
mutual
def qc:∀ (n:Nat) (d:D),okL n d=true->(kqdP (d8 d)).canLay0=true/\(kqdP (d8 d)).depth<=n/\PyData.eqv (kqdP (d8 d)) (kqdP (d8 d))=true
 | _,.non,_=>by simp [d8,kqdP,PyData.canLay0,PyData.depth,PyData.eqv]
 | _,.int _,_=>by simp [d8,kqdP,PyData.canLay0,PyData.depth,PyData.eqv]
 | _,.bl _,_=>by simp [d8,kqdP,PyData.canLay0,PyData.depth,PyData.eqv]
 | n,.str x,h=>by simp [okL] at h; simp [d8,kqdP,PyData.canLay0,PyData.depth,PyData.eqv,h]
 | n+1,.tup ds,h=>by
  simp [okL] at h;obtain ⟨a,b,c⟩:=rD n ds h;simp only [d8,kqdP,PyData.canLay0,PyData.depth,PyData.eqv,a,c,true_and,and_true];omega
 | _,.lst _,h=>by simp [okL] at h
 | _,.ty _,h=>by simp [okL] at h
 | _,.cls _,h=>by simp [okL] at h
 | _,.dct _,h=>by simp [okL] at h
 | _,.fz _,h=>by simp [okL] at h
 | _,.obj _ _,h=>by simp [okL] at h
 | _,.dfz _,h=>by simp [okL] at h
 | 0,.tup _,h=>by simp [okL] at h
def rD:∀ (n:Nat) (ds:List D),pO n ds=true->PyData.canLayAll0 (kqdPs (b8 ds))=true/\PyData.depthAll (kqdPs (b8 ds))<=n/\PyData.eqvAll (kqdPs (b8 ds)) (kqdPs (b8 ds))=true
 | _,[],_=>by simp [b8,kqdPs,PyData.canLayAll0,PyData.depthAll,PyData.eqvAll]
 | n,d::ds,h=>by
  simp [pO] at h;obtain ⟨a,b,c⟩:=qc n d h.1;obtain ⟨a',b',c'⟩:=rD n ds h.2;simp only [b8,kqdPs,PyData.canLayAll0,PyData.depthAll,PyData.eqvAll,a,a',c,c',Bool.and_self,true_and,and_true];omega
end
section
open PySem.W
variable {X:Cx} {pins:List (Addr×Obj)} {σ:St} {H:Hp} {s:Shared}
mutual
def Rp.jM (I:Inv X pins σ H s):∀ {v:V} {d:D} {u:Value} (n:Nat),Rp X.K H v d->okL n d=true->RelV v u->∃ as,Reads s.heap u (kqdP (d8 d)) as
 | _,_,u,_,.non,_,rv=>by cases (show u=Value.none from rv); exact ⟨_,Reads.none⟩
 | _,_,u,_,.bl b,_,rv=>by cases (show u=Value.bool b from rv); exact ⟨_,Reads.bool b⟩
 | _,_,u,_,.int i,_,rv=>by obtain ⟨t,rfl⟩:=(show ∃ t,u=Value.int i t from rv); exact ⟨_,Reads.int i t⟩
 | _,_,u,_,.str x,_,rv=>by obtain ⟨t,rfl⟩:=(show ∃ t,u=Value.str x t from rv); exact ⟨_,Reads.str x t⟩
 | _,_,u,n,@Rp.tup _ _ a xs ds h r,o,rv=>by
  cases n with
  | zero=>simp [okL] at o
  | succ n =>
   simp [okL] at o;cases (show u=Value.ref a from rv);obtain ⟨its,vs,p,_⟩:=I.tuple h;obtain ⟨as,q⟩:=Rps.jM I n r o vs;obtain ⟨ob,h1,h2,m,h3⟩:=p;rw [d8,kqdP];exact ⟨as,reads_tuple_at h1 h2 h3 (by simpa using q)⟩
 | _,_,_,_,.lst _ _,o,_=>by simp [okL] at o
 | _,_,_,_,.ty _,o,_=>by simp [okL] at o
 | _,_,_,_,.cls _,o,_=>by simp [okL] at o
 | _,_,_,_,.dct _ _,o,_=>by simp [okL] at o
 | _,_,_,_,.fz _ _,o,_=>by simp [okL] at o
 | _,_,_,_,.obj _ _,o,_=>by simp [okL] at o
 | _,_,_,_,.dfz _ _,o,_=>by simp [okL] at o
def Rps.jM (I:Inv X pins σ H s):∀ {vs:List V} {ds:List D} {us:List Value} (n:Nat),Rps X.K H vs ds->pO n ds=true->bD vs us->∃ as,ReadsAll s.heap us (kqdPs (b8 ds)) as
 | _,_,_,_,.nil,_,.nil=>by rw [b8,kqdPs]; exact ⟨_,ReadsAll.nil⟩
 | _,_,_,n,.cons h r,o,.cons rv rs=>by
  simp [pO] at o;obtain ⟨as,q⟩:=Rp.jM I n h o.1 rv;obtain ⟨bs,p⟩:=Rps.jM I n r o.2 rs;rw [b8,kqdPs];exact ⟨_,ReadsAll.cons q p⟩
end
end
def leS (a b:Str):Bool:=!decide (b.cps.toList < a.cps.toList)
def il:leS a b=true↔a.cps.toList<=b.cps.toList:=by
 unfold leS;rw [Bool.not_eq_true',decide_eq_false_iff_not];exact List.not_lt
def k5 (a b c:Str) (h1:leS a b=true) (h2:leS b c=true):leS a c=true:=il.mpr (List.le_trans (il.mp h1) (il.mp h2))
def ot (a b:Str):(leS a b||leS b a)=true:=by
 rcases List.le_total a.cps.toList b.cps.toList with h | h
 · rw [il.mpr h]; rfl
 · rw [il.mpr h,Bool.or_true]
def rV (h1:leS a b=true) (h2:leS b a=true):a=b:=by
 have e:=List.le_antisymm (il.mp h1) (il.mp h2);cases a;cases b;exact Yh Str.mk (Array.toList_inj.mp e)
noncomputable def fM (ss:List Str):List Str:=ss.mergeSort leS
def pw_rising:∀ (p:Str) (l:List Str),risingS p l=true->(p::l).Pairwise (λ a b=>leS a b=true)
 | p,[],_=>List.pairwise_singleton ..
 | p,x::r,h=>by
  have h':(!ltCps x.cps.toList p.cps.toList&&risingS x r)=true:=h;rw [Z6,ltCps_eq] at h';have ih:=pw_rising x r h'.2;have px:leS p x=true:=h'.1;refine List.pairwise_cons.mpr ⟨λ y hy=>?_,ih⟩;rcases Zl.mp hy with rfl | hy
  · exact px
  · exact k5 _ _ _ px (List.rel_of_pairwise_cons ih hy)
def pw_sorted:∀ {l:List Str},sortedS l=true->l.Pairwise (λ a b=>leS a b=true)
 | [],_=>.nil
 | x::r,h=>pw_rising x r h
def Av (h1:ss'.Perm ss) (h2:sortedS ss'=true):ss'=fM ss :=
 List.Perm.eq_of_pairwise (λ a b _ _=>rV) (pw_sorted h2) (List.pairwise_mergeSort k5 ot ss) (h1.trans (List.mergeSort_perm ss leS).symm)
def E3:List V->Hp->VK->Prop:=λ xs H Q=>∃ (a:Addr) (kvs:List (Key×V)) (ss:List Str),xs=[.ref a]/\H a=some (.dK kvs)/\kvs.map (·.1)=ss.map Sum.inr/\kvs.length < 64 /\
 ∀ (p:Addr),H p=none->Q (.ref p) (upd H p (.lst ((fM ss).map .str)))
def uX:∀ {us:List Value} {ss:List Str},us.length=ss.length->(∀ (j:Nat) (v:Value),us[j]?=some v->∃ n t,ss[j]?=some n/\v=.str n t)->StrsAre us ss
 | [],[],_,_=>.nil
 | [],_::_,e,_=>by cases e
 | _::_,[],e,_=>by cases e
 | u::us,n::ns,e,h=>by
  obtain ⟨n',t,e1,e2⟩:=h 0 u rfl;cases e1;subst e2;exact .cons n t (uX (Nat.succ.inj e) λ j v ev=>h (j+1) v ev)
def kj:∀ {us:List Value} {ss:List Str},StrsAre us ss->bD (ss.map V.str) us
 | _,_,.nil=>.nil
 | _,_,.cons x t h=>.cons ⟨t,rfl⟩ (kj h)
def pj (hh:X.A.handled=none):c8 X (.builtin "sorted") E3:=by
 intro pins s σ H xs us Q I r h;obtain ⟨a,kvs,ss,rfl,ha,ek,h64,q⟩:=h;obtain ⟨u,rfl,ru⟩:=vals1 r;cases (show u=Value.ref a from ru);obtain ⟨sz,lo,vs,kv,dd⟩:=uj I.hok ha;obtain ⟨ep,hat⟩:=dd.dictAt;have lv:vs.length=kvs.length:=kv.length.symm
 have ev:vs.map (·.1)=ss.map Sum.inr:=by
  rw [<- ek];exact m6 kv
 refine Calls.call_function_entry kind_sorted plain_sorted entry_sorted (args_sorted1 _) ?_
 unfold Builtin.«sorted»;refine Zg (m:=checkCount "sorted" 1 1 _) (Zz ?_);refine Zg (PySem.W.kdu_collect (A:=X.A.in1) (PySem.W.kdl_dict (knd:=bF X.prog X.w) (kvs:=vs) (ep:=ep) lo) hh hat (by rw [lv]; exact sz) λ h' tk acc hk hacc=>?_)
 have hI:StrsAre acc.toList ss:=by
  refine uX (by rw [Y3,hacc.1,<- Za (f:=(Sum.inr:Str->Key)),<- ev,Za]) λ j v hj=>?_
  obtain ⟨k,x,e1,e2⟩:=hacc.2 j v (by rw [<- Array.getElem?_toList]; exact hj);have e3:(vs.map (·.1))[j]?=some k:=by rw [List.getElem?_map,e1]; rfl
  rw [ev,List.getElem?_map] at e3
  cases q:ss[j]? with
  | none=>rw [q] at e3; cases e3
  | some n =>
   rw [q] at e3;cases e3;rcases bc (show m7 (Sum.inr n) v=true from e2) with ⟨i,t,e4,e5⟩ | ⟨y,t,e4,e5⟩
   · cases e4
   · cases e4; exact ⟨_,t,rfl,e5⟩
 have la:acc.toList.length < 64:=by rw [Y3,hacc.1,lv]; exact h64
 refine Zg (wpAny_newList ?_ (Z2 (Yn la) (by decide)));have hoL:(h'.push (seqObj "list" acc.toList.toArray 0)).get? h'.objs.size=some (seqObj "list" acc.toList.toArray 0):=Heap.get?_push_size _ rfl;refine Zg (Yz (X3 slot_list_sort ⟨_,hoL,rfl⟩ entry_list_sort (list_sort_treeK strKind_oneLt hoL hI.keysOf (λ v₁ v₂ rest e=>keyKind_strs (by rw [<- e]; exact hI)) la λ st' hp hs=>⟨_,rfl,?_⟩) (args_list_sort _)));obtain ⟨ss',a1,a2,a3⟩:=sorted_out_str hI hp hs;have a4:=Av a2 a3;subst a4;generalize (arrOf st').map (·.2)=out at a1 ⊢;refine Zz ⟨_,rfl,?_⟩;have I1:=I.kept (t':=tk) hk
 have old:∀ b o,h'.get? b=some o->(sortedHeap (h'.push (seqObj "list" acc.toList.toArray 0)) h'.objs.size acc.toList out).get? b=some o:=λ b o e1=>by
  rw [sortedHeap_old (Zx (Zt e1)) (by rw [size_push']; exact Nat.lt_succ_of_lt (Zt e1))];exact Heap.get?_push_of_some _ e1
 obtain ⟨e,he⟩:=sortedHeap_at (out:=out) hoL;have I2:=I1.laid (a:=h'.objs.size) (o:=.lst ((fM ss).map .str)) (t':=tk) old (Zs _) ⟨by rw [Za,a2.length_eq,<- StrsAre.length hI]; exact Z2 (Yn la) (by decide),out.toList,e,kj a1,by rw [he,Array.toArray_toList]⟩;exact ⟨.ref h'.objs.size,_,I2,rfl,q _ (I1.hok.fresh (Zs _))⟩
def ox:List (Key×D)->Option (List Str)
 | []=>some []
 | (.inr x,_)::r=>(ox r).map (x::·)
 | _=>none
def ou:∀ {ds:List (Key×D)} {ss:List Str},ox ds=some ss->ds.map (·.1)=ss.map Sum.inr
 | [],_,e=>by cases e; rfl
 | (.inr x,_)::r,_,e=>by
  obtain ⟨ss,e1,rfl⟩:=Zm (show (ox r).map _=_ from e);rw [Zh,ou e1];rfl
 | (.inl _,_)::_,_,e=>by cases e
def RpK.keys {K:W.Frag} {H:Hp}:∀ {kvs:List (Key×V)} {ds:List (Key×D)},RpK K H kvs ds->kvs.map (·.1)=ds.map (·.1)
 | _,_,.nil=>rfl
 | _,_,.cons h r=>by rw [Zh,Zh,RpK.keys r]
noncomputable def sJ (f:DE):DE:=λ τ=>(f τ).bind λ d=>match d with | .dct kvs=>(ox kvs).bind λ ss=>if ss.length < 64 then some (.lst ((fM ss).map .str)) else none | _=>none
def Ak (hh:X.A.handled=none) (hg:Gl X "sorted") (hm:X.mg "sorted"=none) (he:Bx (PEd X e f)) (hst:starEach [e] X.env=(false,eval e X.env)::starEach [] X.env:=by rfl) (hpl:(backTo pos (starEach [] X.env)).any (·.1)=false:=by rfl):Bx (PEo X (.Call (.Name "sorted" p) [e] [] pos) (sJ f)) :=
 ⟨(mY (pj hh) hg hm (by decide +kernel) (cB he.out eL hst) (by decide) (by decide) hst hpl).imp λ σ H Q h=>by
   obtain ⟨H0,Hs,τ,fp,d,st,sm,e,q⟩:=h;obtain ⟨x,e1,e2⟩:=bind_some e;refine ⟨H0,Hs,τ,fp,x,st,sm,e1,λ v Hs1 H1 g1 rv=>?_⟩
   cases rv with
   | @dct a kvs ds h r =>
    obtain ⟨ss,e3,e4⟩:=bind_some (show (ox ds).bind _=some d from e2);split at e4
    ·rename_i h64
     have e5:=Zj e4;subst e5;have ek:kvs.map (·.1)=ss.map Sum.inr:=r.keys.trans (ou e3);refine ⟨a,kvs,ss,rfl,g1.sh _ _ h,ek,?_,λ p hp=>?_⟩
     ·have:=Yh List.length ek
      rw [Za,Za] at this;omega
     ·have hHp:=g1.hh.free hp
      refine q p Hs1 _ ⟨g1.ss,g1.sh.trans (aA hp _),g1.hh.trans (aA hp _),g1.fr⟩ (.lst aq (g1.sh.free hp) (Rps.strs _)) hHp
    · cases e4
   | _=>exact nn e2⟩
def eON (g:DE):DEm:=λ τ=>(g (er τ)).bind λ d=>match d with
 | .lst ds=>some (.mu false (lM ds),τ)
 | _=>none
def Jf (h:PEo X e g):PVm X e (eON g):=PE.imp h λ σ H Q ⟨Hs0,H0,nf,ρ,Hs,τ,s,τ',r,e,k⟩=>by
 obtain ⟨d,e1,e2⟩:=bind_some e;split at e2
 ·cases e2
  obtain ⟨fp,st⟩:=r.st;refine ⟨H0,Hs,er τ,[],_,st.er,r.sm,e1,λ a Hs' H' g1 ow hn=>?_⟩
  cases ow with
  | lst h n rr=>exact k _ Hs' H' g1.hh ⟨(r.ext' g1).ext,_,.mu (Od.lst h n rr) (λ e=>by cases e) (λ c hc=>by rw [Zn.mp hc]; exact r.old hn) (λ c hc=>by rw [Zn.mp hc]; exact st.new hn) (st.ext g1)⟩
 · cases e2
def kZ:List (Key×Mt)->Option (List D)
 | []=>some []
 | (_,.s d)::r=>(kZ r).map (d::·)
 | _=>none
def mn {K:W.Frag} {Hs H:Hp}:∀ {ts:List Kd} {ds:List D},kZ (ts.map Kd.km)=some ds->(∀ c ∈ ts,Od K Hs H c.fp c.v c.m)->Rps K Hs (ts.map Kd.v) ds
 | [],_,e,_=>by cases e; exact .nil
 | ⟨k,v,.s d,fp⟩::ts,_,e,h=>by
  obtain ⟨ds,e1,rfl⟩:=Zm (show (kZ (ts.map Kd.km)).map _=_ from e);have h0:Od K Hs H fp v (.s d):=h _ (Zd ..)
  cases h0 with
  | s r=>exact .cons r (mn e1 λ c hc=>h c (Zc _ hc))
 | ⟨k,v,.n t cs,fp⟩::ts,_,e,h=>by cases e
def tp (n:Nat) (px:DPx) (g:Bg):DSm:=λ τ=>(px τ).bind λ p=>match aO τ p.1 p.2 with
 | some (.n .l cs)=>if cs.length=n then (kZ cs).bind λ ds=>(g ds τ).map .next else none
 | _=>none
section
variable {X:Cx} {a b c e o i value:Expr} {es:List Expr} {pos apos cpos pos' p:Pos} {x:Str}
def BY (hc:X.calm=true) (he:PXm X e px) (hg:yp X es g) (hn:(assignEach es X.env).length=n:=by rfl) (hst:(assignEach es X.env).findIdx? (·.1)=none:=by rfl) (hs:swapsWithSole [.Tuple es k' pos'] e pos.line X.env=pure false:=by rfl) (hw:swappedStores [.Tuple es k' pos'] e X.env=pure none:=by rfl)
  (h1:(assignEach [.Tuple es k' pos'] X.env).map (·.2)=[assign (.Tuple es k' pos') X.env]:=by rfl):PSm X (.Assign [.Tuple es k' pos'] e pos) (tp n px g):=(AL he (Fp hc hg hn hst) hs hw h1).imp λ E σ H ⟨Hs0,H0,nf,ρ,Hs,τ,o,r,e,k⟩=>by
 obtain ⟨⟨i,q⟩,e1,e⟩:=bind_some e;split at e
 ·rename_i cs en
  split at e
  ·rename_i hl
   obtain ⟨ds,e2,e⟩:=bind_some e;obtain ⟨τ',e3,rfl⟩:=Zm e;refine ⟨Hs0,H0,nf,ρ,Hs,τ,i,q,_,r,e1,en,λ rt v1 H1 g1 hrt hq=>?_⟩;have r1:=r.grow g1;obtain ⟨fp,st⟩:=r1.st;obtain ⟨b,m,em,eg⟩:=dm en;obtain ⟨v,fp1,v1',w1,w2,w3,w4,w5⟩:=st.sX em eg;rw [hrt] at w1;cases w1;rw [hq] at w2;cases w2;obtain ⟨a,dx,ts,u,rfl,rfl,rfl,ha,hlay,nh,ku,nd,rr⟩:=w3.inv;rw [t4 hlay] at ha;exact ⟨a,_,rfl,SqL.of ha,by rw [<- hl,Za,Za],Hs0,H0,nf,ρ,Hs,τ,τ',ds,r1,mn e2 rr,e3,λ σ' r'=>k σ' Hs H1 r'⟩
  · cases e
 · cases e
def rf (px:DPx) (gi:DE) (fv:DEm):DSm:=λ τ=>(fv τ).bind λ x=>(px x.2).bind λ p=>(gi (aY x.2)).bind λ d=>(toM x.1).bind λ mv=>match d,aO x.2 p.1 p.2 with
 | .int j,some (.n .l cs)=>if 0<=j/\j.toNat < cs.length then some (.next (cJ x.2 p.1 p.2 (.n .l (cs.set j.toNat (.inl 0,mv))))) else none
 | _,_=>none
def yV (ho:PXm X o px) (hi:PEd X i gi) (hv:PEm X value fv) (ha:∀ v,assign (.Subscript o i pos') X.env v=(do
   let ov <- holding [v] (eval o X.env)
   let iv <- holding [v,ov] (eval i X.env)
   standAt pos'
   holding [v,ov,iv] (setItem ov iv v)
   release [v,ov,iv] []):=by intro _; rfl) (hs:swapsWithSole [.Subscript o i pos'] value pos.line X.env=pure false:=by rfl) (hw:swappedStores [.Subscript o i pos'] value X.env=pure none:=by rfl)
  (h1:(assignEach [.Subscript o i pos'] X.env).map (·.2)=[assign (.Subscript o i pos') X.env]:=by rfl) :
  PSm X (.Assign [.Subscript o i pos'] value pos) (rf px gi fv):=(AL hv (Fn ho hi set_list ha) hs hw h1).imp λ E σ H ⟨Hs0,H0,nf,ρ,Hs,τ,o,r,e,k⟩=>by
 obtain ⟨⟨s,τ1⟩,e1,e⟩:=bind_some e;obtain ⟨⟨i,q⟩,e2,e⟩:=bind_some e;obtain ⟨d,e3,e⟩:=bind_some e;obtain ⟨mv,e5,e⟩:=bind_some e;split at e
 ·rename_i j cs en e
  split at e
  ·rename_i hz
   cases e;refine ⟨Hs0,H0,nf,ρ,Hs,τ,s,τ1,r,e1,λ v Hs1 H1 r1=>?_⟩;refine ⟨Hs0,H0,nf,ρ,Hs1,τ1,i,q,_,r1.pop,e2,en,λ rt v1 H2 g2 hrt hq=>?_⟩;have r2:=r1.grow g2;obtain ⟨fp,st⟩:=r2.pop.st;refine ⟨H2,H2,aY τ1,[],_,st.aY r2.sm,.refl H2,e3,λ y Hs3 H3 g3 ry=>?_⟩;cases ry;obtain ⟨a,dx,ts,u,fv,rfl,rfl,ha,hl,ku,fin⟩:=(r2.grow g3.hh).tT e5 en hrt (bU g3.hh q hq);rw [t4 hl] at ha;rw [Za] at hz
   have es:∀ {α:Type} (f:Kd->α),(ts.take j.toNat++⟨.inl 0,v,mv,fv⟩::ts.drop (j.toNat+1)).map f=(ts.map f).set j.toNat (f ⟨.inl 0,v,mv,fv⟩):=λ f=>by
    rw [List.set_eq_take_append_cons_drop,if_pos (by rw [Za]; exact hz.2),Zr,Zh,X4,X5]
   refine ⟨a,_,j,j.toNat,rfl,rfl,ha,?_,?_⟩
   ·unfold ixN
    rw [if_pos hz.1,if_pos (by have:=hz.2; rw [Za]; omega)]
   ·have:=fin (ts.take j.toNat) (.inl 0) (ts.drop (j.toNat+1)) (.lst ((ts.map Kd.v).set j.toNat v)) (by
     conv=>rhs; rw [<- Xu j.toNat ts]
     exact (List.Sublist.refl _).append (by rw [<- List.drop_drop]; exact List.drop_sublist _ _)) (by
     have:=rW (dx:=dx) (ts:=ts.take j.toNat++⟨.inl 0,v,mv,fv⟩::ts.drop (j.toNat+1));rw [es Kd.v] at this
     exact this) trivial
    rw [es Kd.km] at this;exact k σ Hs1 _ this
  · cases e
 · cases e
end
def Al (i jx:Nat) (τ:List Sm):List Sl:=aY ((τ.set i .no).set jx .no)
open Classical in
noncomputable def vj (i jx:Nat) (c:DT):DSm:=λ τ=>match τ[i]? with
 | some (.mu _ (.n .d ks))=>if ks.length<=100000/\∀ p ∈ ks,c ((Al i jx τ).set jx (.shr (kD p.1)))=some false then some (.next (τ.set jx .no)) else none
 | _=>none
section
variable {X:Cx} {c k:Expr} {pos px pz ipos rpos:Pos} {x z:Str} {i jx:Nat} {t:DT} {g:DE}
def vT (hp:PassesOwn (model X.prog X.w) X.A X.env X.xe) (hc:X.calm=true) (hz:X.N[i]?=some z) (hv:Vis X.env.scope z) (hN:X.N.Nodup) (hx:X.N[jx]?=some x) (lx:Loc X.env.scope x) (n2:jx≠i)
  (ht:PTd X c t) (hk:PEd X k g)
  (hd:(z == ("__debug__":Str))=false:=by decide) (hcl:(z == ("__classdict__":Str))=false:=by decide) (hs:∀ x,foldedSetIterable (.Name z pz) X.env x=pure x:=by intro _; rfl)
  (hfx:X.fn x=true\/X.env.scope.names.lookup x=some .local:=by first | exact .inl rfl | exact .inr rfl | assumption) :
  PSm X (.For (.Name x px) (.Name z pz) [.If c [.Return (some k) rpos] [] ipos] [] pos) (vj i jx t) :=
 PS.imp (vY (vZ hp hc (wc (eJ hz hv hd hcl)) (kK hN hx lx hfx) (kJ (Ce ht (kJ (mf hk)) p5)) hs)) λ E σ H ⟨Hs0,H0,nf,ρ,Hs,τ,o,r,e,k⟩=>by
  unfold vj at e;split at e
  ·rename_i b0 ks ei
   split at e
   ·rename_i hl
    obtain ⟨hl,hall⟩:=hl;cases e;obtain ⟨fp,st⟩:=r.st;obtain ⟨v,fq,fpr,o1,o2,o3,o4,o5⟩:=st.out ei;obtain ⟨d,dx,ts,u,rfl,rfl,rfl,hdH,hlay,hnd,ku,ndp,rr⟩:=o2.inv;rw [t5 hlay] at hdH;have d0:=(st.live d (o4 d (Zd ..)).2).2.2;refine ⟨_,o1,d,ts.map Kd.kv,rfl,hdH,λ ob=>?_⟩;have dnf:=(o4 d (Zd ..)).1;have s1:StM X.K H0 Hs (upd H d (.frz ob (.dK (ts.map Kd.kv)))) ρ σ (τ.set i .no) fpr:=o3.mv (.refl _) λ c hc=>⟨(o3.live c hc).1,aj (λ q=>dnf (by rw [<- q]; exact hc))⟩
    have sm1:bZ Hs (upd H d (.frz ob (.dK (ts.map Kd.kv)))):=λ c w q=>by
     rw [aj (λ y=>by rw [y,hnd] at q; cases q)]; exact r.sm c w q
    have sm0:bZ H0 (upd H d (.frz ob (.dK (ts.map Kd.kv)))):=λ c w q=>by
     rw [aj (λ y=>by rw [y,d0] at q; cases q)]; exact r.ext.hh c w q
    generalize hH1:upd H d (.frz ob (.dK (ts.map Kd.kv)))=H1 at s1 sm1 sm0;have h1d:H1 d=some (.frz ob (.dK (ts.map Kd.kv))):=by rw [<- hH1]; exact aq
    have r1:bA X.K Hs H0 ρ Hs H1 σ (τ.set i .no):=⟨⟨.refl _,sm1,sm0,λ _ h _=>h⟩,fpr,s1⟩
    have fg:∀ {Hs0 H0 Hs H:Hp} {τ:List Sm} {σ:St},bA X.K Hs0 H0 ρ Hs H σ τ->bA X.K Hs0 H0 ρ Hs H σ (τ.set jx .no):=λ {Hs0 H0 Hs H τ σ} r=>by
     obtain ⟨fp,st⟩:=r.st;obtain ⟨fp1,s1,_⟩:=st.N9 jx;exact ⟨r.ext,fp1,s1⟩
    have fs:∀ {Hs0 H0 Hs H:Hp} {τ:List Sm} {σ:St} (a:Option V),bA X.K Hs0 H0 ρ Hs H σ (τ.set jx .no)->bA X.K Hs0 H0 ρ Hs H (σ.set jx a) (τ.set jx .no):=λ {Hs0 H0 Hs H τ σ} a r=>by
     have:=r.forget jx a;rw [List.set_set] at this;exact this
    have lts:(ts.map Kd.kv).length=ts.length:=Za _;refine ⟨λ n m σ' H'=>m=ts.length - n/\n<=ts.length/\bZ H1 H'/\bA X.K Hs H0 ρ Hs H1 σ' ((τ.set i .no).set jx .no)/\bA X.K Hs0 H0 ρ Hs H σ' (τ.set jx .no),⟨ts.length,by simp,Z3 _,.refl _,fg r1,fg r⟩,?_⟩
    rintro n m σ' H2 ⟨rfl,hn,g2,ra,rb⟩
    have h2d:=g2 _ _ h1d
    by_cases hlt:n < ts.length
    ·refine .inr ⟨⟨h2d,by rw [lts]; exact hlt⟩,λ σ'' H'=>bZ H1 H'/\bA X.K Hs H0 ρ Hs H1 σ'' ((τ.set i .no).set jx .no)/\bA X.K Hs0 H0 ρ Hs H σ'' (τ.set jx .no),λ σ'' H' h=>⟨ts.length - (n+1),by omega,rfl,hlt,h⟩,?_⟩
     rintro w H3 ⟨rfl,kk,ww,hk',rfl⟩
     have hm:∃ p ∈ ts.map Kd.km,p.1=kk:=by
      rw [List.getElem?_map] at hk';obtain ⟨tt,ht',et⟩:=Zm hk';exact ⟨tt.km,Z4.mpr ⟨tt,List.mem_of_getElem? ht',rfl⟩,(Prod.mk.inj et).1⟩
     obtain ⟨p,hp',rfl⟩:=hm;obtain ⟨fpa,sa⟩:=(ra.grow g2).st;obtain ⟨fp9,n9,st9⟩:=StR.u9 (zP p.1) (sa.aY (ra.grow g2).sm);have e9:=List.eq_nil_iff_forall_not_mem.mpr λ c hc=>nomatch n9 c hc
     subst e9;refine ⟨_,_,_,[],false,st9,.refl _,hall p hp',λ Hs7 H7 g7=>Ib ?_⟩;exact ⟨g2.trans g7.hh,fs _ ra,fs _ rb⟩
    ·have e0:n=ts.length:=by omega
     subst e0;refine .inl ⟨⟨h2d,by rw [lts]; exact Zs _⟩,d,ob,ts.map Kd.kv,h2d,λ o' u' q=>nf d o' u' q d0,?_⟩
     have smf:bZ H (upd H2 d (.dK (ts.map Kd.kv))):=λ c w q=>by
      by_cases cd:c=d
      ·subst cd
       rw [hdH] at q;cases q;exact aq
      ·rw [aj cd]
       exact g2 _ _ (by rw [<- hH1,aj cd]; exact q)
     exact k _ _ _ (rb.grow smf)
   · cases e
  · cases e
end
open PySem.W in
def qC (d e:D):Bool:=PyData.eqv (kqdP (d8 d)) (kqdP (d8 e))
def JG (d e:D):Option D:=if okL 9 d=true/\okL 9 e=true then some (.bl (qC d e)) else none
def LO (d e:D):Option D:=if okL 9 d=true/\okL 9 e=true then some (.bl (!qC d e)) else none
section
open PySem.W
variable {X:Cx}
def mV (ok:okL 9 d=true):SeqAt.shaped (kqdP (d8 d))=true:=by
 obtain ⟨l1,l2,_⟩:=qc 9 d ok;unfold SeqAt.shaped;rw [l1,Bool.true_and];exact Zo (Z2 l2 (by decide))
def F4 (hu:X.A.units+64 < cLine):OpR X (compareOp .Eq) (rdR X.K JG):=by
 intro pins s σ H x y v u Q I rx ry h;obtain ⟨Hs,dx,dy,d,sm,px,py,e,k⟩:=h;unfold JG at e;split at e
 ·rename_i hd
  cases e;obtain ⟨as,ra⟩:=(px.same sm).jM I 9 hd.1 rx;obtain ⟨bs,rb⟩:=(py.same sm).jM I 9 hd.2 ry;exact eq_dataH ra rb (mV hd.1) (mV hd.2) hu ⟨.bl _,H,I,rfl,k _ Hs H (.refl sm) (.bl _)⟩
 · cases e
def JA (hu:X.A.units+64 < cLine):OpR X (compareOp .NotEq) (rdR X.K LO):=by
 intro pins s σ H x y v u Q I rx ry h;obtain ⟨Hs,dx,dy,d,sm,px,py,e,k⟩:=h;unfold LO at e;split at e
 ·rename_i hd
  cases e;obtain ⟨as,ra⟩:=(px.same sm).jM I 9 hd.1 rx;obtain ⟨bs,rb⟩:=(py.same sm).jM I 9 hd.2 ry;exact ne_dataH ra rb (mV hd.1) (mV hd.2) hu ⟨.bl _,H,I,rfl,k _ Hs H (.refl sm) (.bl _)⟩
 · cases e
end
def zh (hh:X.A.handled=none) (hg:Gl X "sorted") (hm:X.mg "sorted"=none) (he:PEd X e f) (hst:starEach [e] X.env=(false,eval e X.env)::starEach [] X.env:=by rfl) (hpl:(backTo pos (starEach [] X.env)).any (·.1)=false:=by rfl):PEo X (.Call (.Name "sorted" p) [e] [] pos) (sJ f):=(Ak hh hg hm ⟨he⟩ hst hpl).out
def l9:∀ {us:List Value} {ss:List Str},bD (ss.map V.str) us->StrsAre us ss
 | _,[],h=>by cases h; exact .nil
 | _,s::ss,h=>by
  cases h with
  | cons h r=>obtain ⟨t,rfl⟩:=h; exact .cons _ t (l9 r)
def E4:List V->Hp->VK->Prop:=λ xs H Q=>∃ (a:Addr) (ss:List Str),xs=[.ref a]/\H a=some (.lst (ss.map .str))/\ss.length < 64 /\
 ∀ (p:Addr),H p=none->Q (.ref p) (upd H p (.lst ((fM ss).map .str)))
def pk:c8 X (.builtin "sorted") E4:=by
 intro pins s σ H xs us Q I r h;obtain ⟨a,ss,rfl,ha,h64,q⟩:=h;obtain ⟨u,rfl,ru⟩:=vals1 r;cases (ru);obtain ⟨its,rv,ht,hz⟩:=I.list (SqL.of ha);have hI:=l9 rv;have la:its.length < 64:=by rw [StrsAre.length hI]; exact h64
 refine sorted_strs ht.isList hI la λ out ss' a1 a2 a3=>?_
 have a4:=Av a2 a3;subst a4;obtain ⟨e,he⟩:=sortedAll_at s.heap its out;have I2:=I.laid (o:=.lst ((fM ss).map .str)) (t':=s.toks) (λ b o hb=>sortedAll_old hb) (Nat.le_succ _) ⟨by rw [Za,a2.length_eq]; exact Z2 (Yn h64) (by decide),out.toList,e,kj a1,by rw [he,Array.toArray_toList]⟩;exact ⟨.ref (s.heap.objs.size+1),_,I2,rfl,q _ (I.hok.fresh (Nat.le_succ _))⟩
noncomputable def sM (f:DE):DE:=λ τ=>(f τ).bind λ d=>match d with | .lst ds=>(mS ds).bind λ ss=>if ss.length < 64 then some (.lst ((fM ss).map .str)) else none | _=>none
def zi (hg:Gl X "sorted") (hm:X.mg "sorted"=none) (he:PEd X e f) (hst:starEach [e] X.env=(false,eval e X.env)::starEach [] X.env:=by rfl) (hpl:(backTo pos (starEach [] X.env)).any (·.1)=false:=by rfl):PEo X (.Call (.Name "sorted" p) [e] [] pos) (sM f) :=
 (mY pk hg hm (by decide +kernel) (cB he eL hst) (by decide) (by decide) hst hpl).imp λ σ H Q h=>by
   obtain ⟨H0,Hs,τ,fp,d,st,sm,e,q⟩:=h;obtain ⟨x,e1,e2⟩:=bind_some e;refine ⟨H0,Hs,τ,fp,x,st,sm,e1,λ v Hs1 H1 g1 rv=>?_⟩
   cases rv with
   | @lst a xs ds h r =>
    obtain ⟨ss,e3,e4⟩:=bind_some (e2);split at e4
    ·rename_i h64
     cases e4;have e5:=kr e3;subst e5;have e6:=Rps.jh r;subst e6;refine ⟨a,ss,rfl,g1.sh _ _ h,h64,λ p hp=>?_⟩;have hHp:=g1.hh.free hp;exact q p Hs1 _ ⟨g1.ss,g1.sh.trans (aA hp _),g1.hh.trans (aA hp _),g1.fr⟩ (.lst aq (g1.sh.free hp) (Rps.strs _)) hHp
    · cases e4
   | _=>exact nn e2
end L2
end
section
namespace PySem
open PyProof.Rows
section
variable {prog:Program} {w:World} {A:Around} {E:Value->Shared->Prop} {s:Shared}
def cR:Slot "reversed" "__next__" "reversed.__next__":=Slot.of (owner:="reversed") (n:="__next__") (by rfl) (by decide +kernel) (by decide +kernel) (by decide +kernel) (.inl (by kernel_rfl)) (by rw [Xp]; kernel_rfl)
def jJ:Slot "reversed" "__iter__" "reversed.__iter__":=Slot.of (owner:="reversed") (n:="__iter__") (by rfl) (by decide +kernel) (by decide +kernel) (by decide +kernel) (.inl (by kernel_rfl)) (by rw [Xp]; kernel_rfl)
def nT:Slot "reversed" "__init__" "object.__init__":=Slot.of (owner:="object") (n:="__init__") (by rfl) (by decide +kernel) (by decide +kernel) (by decide +kernel) (.inl (by kernel_rfl)) (by rw [Xp]; kernel_rfl)
def vv:typeLookup (.type "reversed") "__length_hint__"=pure (some (.builtin "reversed.__length_hint__")):=by rfl
def iX:entryFor table "reversed.__next__"=some Builtin.«reversed.__next__»:=entryFor_of_tree (by kernel_rfl)
def nu:entryFor table "reversed.__iter__"=some Builtin.«dict_keyiterator.__iter__»:=entryFor_alias (id':="dict_keyiterator.__iter__") (by kernel_rfl) (Eq.refl ("reversed.__iter__".cutAt '#')) (by decide +kernel) (by kernel_rfl)
def jV (a:Value):argsOk "reversed.__next__" ⟨[a],[]⟩:=by rfl
def pJ (a:Value):argsOk "reversed.__iter__" ⟨[a],[]⟩:=by rfl
def xQ:TypeCalled "reversed" "reversed.__new__" "object.__init__":=⟨by decide,F.create_reversed,⟨_,_,F.mro_reversed⟩,F.made_reversed,by decide +kernel,F.sub_reversed_self,nT⟩
def uP:typeLookup (.type "tuple") "__reversed__"=pure none:=by rfl
def yG:typeLookup (.type "reversed") "__len__"=pure none:=by rfl
end
end PySem
end
section
namespace PySem
open PyProof.Rows
section
variable {prog:Program} {w:World} {A:Around} {E:Value->Shared->Prop} {s:Shared}
def gY (h:Heap) (a t:Addr) (i:Int):Prop:=∃ o,h.get? a=some o/\o.cls=.type "reversed"/\o.data=.fields #[.ref t,rawInt i]
def gY.typeIs (h:gY s.heap a t i):s.TypeIs (.ref a) "reversed":=by
 obtain ⟨o,h1,h2,_⟩:=h;exact ⟨o,h1,h2⟩
def gY.at (h:gY h0 a t i) (k:∀ o,h0.get? a=some o->h'.get? a=some o):gY h' a t i:=by
 obtain ⟨o,h1,h2⟩:=h;exact ⟨o,k o h1,h2⟩
def vt (h:gY s.heap it t i) (q:Q (.ref it) s):wpAny (model prog w) A (pyIter (.ref it)) Q E s :=
 wpAny_pyIter_slot h.typeIs jJ (X3 jJ h.typeIs nu (Zz ⟨_,rfl,_,_,h.typeIs,cR.lookup,q⟩) (pJ _))
def nV {items:Array Value} {i:Nat} {x:Value} {Q:Option Value->Shared->Prop} (h:gY s.heap it t (i:Int)) (ht:IsTup s.heap t items) (hx:items[i]?=some x) (hz:items.size<=sizeLine) (hne:t≠it)
  (q:∀ h' tk,gY h' it t ((i:Int) - 1)->Heap.SameBut it s.heap h'->Q (some x) { s with heap:=h',toks:=tk }):wpAny (model prog w) A (pyNext (.ref it)) Q E s:=by
 unfold pyNext;refine Zg (wpAny_attempt (wpAny_callSpecial?_slot h.typeIs cR (X3 cR h.typeIs iX ?_ (jV _))));obtain ⟨o,h1,h2,h3⟩:=h;unfold Builtin.«reversed.__next__»;refine Zg (Xf (a:=(Value.ref it,[])) (by rfl) ?_);dsimp only;refine Zg (X6 (x:=Value.ref t) h1 h3 (by rfl) ?_);refine Zg (X6 (x:=Value.int i 0) h1 h3 (by rfl) ?_);dsimp only;rw [if_neg (show ¬ ((i:Int) < 0) by omega)]
 have tt:s.TypeIs (.ref t) "tuple":=by
  obtain ⟨o,a1,a2,_⟩:=ht;exact ⟨o,a1,a2⟩
 refine Zg (Y0 tt F.slot_tuple_getitem.lookup ?_);rw [if_neg (by decide)];refine Zg (wpAny_mkInt ?_);have hi:i < items.size:=(Array.getElem?_eq_some_iff.mp hx).1;have hl:sizeLine=16777216:=Y5
 refine Zg (wpAny_attempt (getItem_tuple (j:=i) (x:=x) ht (by omega) (by omega) (by
  unfold seqIndex?;dsimp only;rw [if_neg (show ¬ ((i:Int) < 0) by omega),if_pos (by rw [Zo (show (0:Int)<=i by omega),Zo (show (i:Int) < items.size by omega)]; rfl)]
  rfl) hx ?_))
 dsimp only;refine Zg (X6 (x:=Value.int i 0) h1 h3 (by rfl) ?_);dsimp only;refine Zg (wpAny_setField h1 h3 (Yv 1) ?_);refine Zz ⟨x,rfl,Zz ?_⟩;refine q _ _ ⟨_,Heap.get?_update_self _ h1 (Obj.isFreed_of_fields (Obj.data_mapFields h3 _)),(Obj.cls_mapFields _ _).trans h2,Obj.data_mapFields h3 _⟩ (Heap.SameBut.update _ _ _)
def pZ {Q:Option Value->Shared->Prop} (hh:A.handled=none) (h:gY s.heap it t (-1)) (q:∀ h',Heap.ExtBut it s.heap h'->Q none { s with heap:=h' }):wpAny (model prog w) A (pyNext (.ref it)) Q E s:=by
 unfold pyNext;refine Zg (wpAny_attempt (wpAny_callSpecial?_slot h.typeIs cR (X3 cR h.typeIs iX ?_ (jV _))));obtain ⟨o,h1,h2,h3⟩:=h;unfold Builtin.«reversed.__next__»;refine Zg (Xf (a:=(Value.ref it,[])) (by rfl) ?_);dsimp only;refine Zg (X6 (x:=Value.ref t) h1 h3 (by rfl) ?_);refine Zg (X6 (x:=Value.int (-1) 0) h1 h3 (by rfl) ?_);dsimp only;rw [if_pos (by decide)];refine Zg (wpAny_rule ?_);refine Zg (show wpAny _ _ (setField (.ref it) 1 (rawInt (-1)) >>= λ _=>setField (.ref it) 0 Value.none) _ _ _ from ?_);refine Zg (wpAny_setField h1 h3 (Yv 1) ?_);have d1:=Obj.data_mapFields h3 (λ x=>x.setIfInBounds 1 (rawInt (-1)));refine wpAny_setField (Heap.get?_update_self _ h1 (Obj.isFreed_of_fields d1)) d1 (Nat.succ_pos 1) ?_
 refine Zg ?_
 unfold Builtin.SmallTypes.stopIteration newExc;refine Zg (Zg (Xw ?_ ?_))
 ·refine Zg (Xf (a:=Value.none) (by rfl) ?_)
  refine Xw ?_ (sizeOk_excFields ..)
  unfold raiseNew;refine Zg (wpAny_handled ?_);rw [show A.in1.handled=none from hh];refine wpAny_throw ?_
  refine Zg (wpAny_isInstance (T:="StopIteration") ⟨_,Heap.get?_push_size _ rfl,rfl⟩ isSubtype_stop ?_);rw [if_pos rfl];refine Zz (q _ ?_);exact (((Heap.SameBut.update _ _ _).extBut.trans (Heap.SameBut.update _ _ _).extBut).push _).push _
 · exact Z3 _
def Walks.Ez (hh:A.handled=none) (I t:Addr) (hne:t≠I) (items:Array Value) (hz:items.size<=sizeLine):Walks prog w A I [I,t] [I] items.size (λ i v=>items[items.size - 1 - i]?=some v) λ i h=>i<=items.size/\gY h I t ((items.size:Int) - 1 - (i:Int))/\IsTup h t items:=by
 refine ⟨λ b hb=>by rw [Zn.mp hb]; exact Zd ..,λ i h h' ⟨a,b,c⟩ k=>⟨a,b.at (k I (Zd ..)),?_⟩,λ i s Q E hi ⟨a,b,c⟩ q=>?_,λ s Q E ⟨a,b,c⟩ q=>?_,λ i s Q E ⟨a,b,c⟩ q=>vt b q⟩
 ·obtain ⟨o,h1,h2⟩:=c
  exact ⟨o,k t (Zc _ (Zn.mpr rfl)) o h1,h2⟩
 ·have e:(items.size:Int) - 1 - (i:Int)=((items.size - 1 - i:Nat):Int):=by omega
  have hx:items[items.size - 1 - i]?=some (items[items.size - 1 - i]'(by omega)):=Array.getElem?_eq_getElem _;rw [e] at b;refine nV b c hx hz hne λ h' tk b' sb=>?_
  refine q _ h' tk hx ⟨hi,?_,?_⟩ λ b o hb e=>sb.extBut b o (λ z=>hb (by rw [z]; exact Zn.mpr rfl)) e
  ·rw [show (items.size:Int) - 1 - ((i+1:Nat):Int)=((items.size - 1 - i:Nat):Int) - 1 by omega]
   exact b'
  ·obtain ⟨o,h1,h2⟩:=c
   exact ⟨o,sb.extBut t o hne h1,h2⟩
 ·rw [show (items.size:Int) - 1 - (items.size:Int)=-1 by omega] at b
  exact pZ hh b λ h' k=>q h' s.toks λ b o hb e=>k b o (λ z=>hb (by rw [z]; exact Zn.mpr rfl)) e
end
end PySem
end
section
namespace PySem
open PyProof.Rows
section
variable {prog:Program} {w:World} {A:Around} {E:Value->Shared->Prop} {s:Shared}
abbrev vn (t:Addr) (i:Int):Obj:={ cls:=.type "reversed",data:=.fields #[.ref t,rawInt i] }
def wN (t:Addr) (items:Array Value):Meets (Builtin.«reversed.__new__» ⟨[.type "reversed",.ref t],[]⟩) λ _ R s=>IsTup s.heap t items/\items.size<=sizeLine/\∀ tk,R (.ok (.ret (.ref s.heap.objs.size))) { s with heap:=s.heap.push (vn t ((items.size:Int) - 1)),toks:=tk }:=by
 intro prog w A R s ⟨ht,hz,k⟩;have hl:=Y5;refine Zg (Xf (newClass_reversed _) ?_);refine Zg (Xf (by rfl) ?_);refine Zg (Xf (a:=()) (by rfl) ?_);refine Zg (Y0 ht.typeIs uP ?_);dsimp only;refine Zg ?_
 refine Zg (wpAny_isInstance (b:=false) ht.typeIs (by rw [Xp]; kernel_rfl) ?_);rw [if_neg (by decide)];refine Zg (Y0 ht.typeIs F.slot_tuple_getitem.lookup ?_);dsimp only;rw [if_pos (by decide)];refine Zz ?_
 rw [if_neg (by decide)];refine Zg (len_tuple ht (by omega) ?_);refine Zg (Xf (by rfl) ?_);dsimp only;refine Zg (m:=newObj (.type "reversed") (.fields #[.ref t,rawInt ((items.size:Int) - 1)])) (Xw (Zz (k _)) ?_);exact Z2 (show 2<=100 by decide) (by rw [hl]; decide)
def Ae {items:Array Value} (ht:IsTup s.heap t items) (hz:items.size<=sizeLine) (q:∀ tk,Q (.ref s.heap.objs.size) { s with heap:=s.heap.push (vn t ((items.size:Int) - 1)),toks:=tk }):wpAny (model prog w) A (call (.type "reversed") [.ref t]) Q E s :=
 callType_new xQ (by decide) (F.typeCall_reversed_1 _) (F.newCall_reversed_1 _) (λ obj=>F.args_object_init_2 _ _) F.entry_reversed_new (wN t items) ⟨ht,hz,λ tk=>⟨⟨_,Heap.get?_push_size _ rfl,rfl⟩,q tk⟩⟩
def jK:Slot "reversed" "__length_hint__" "reversed.__length_hint__":=Slot.of (owner:="reversed") (n:="__length_hint__") vv (by decide +kernel) (by decide +kernel) (by decide +kernel) (.inr (by kernel_rfl)) (by rw [Xp]; kernel_rfl)
def nv:entryFor table "reversed.__length_hint__"=some Builtin.«reversed.__length_hint__»:=entryFor_of_tree (by kernel_rfl)
def pK (a:Value):argsOk "reversed.__length_hint__" ⟨[a],[]⟩:=by rfl
def xT {items:Array Value} {n:Nat} (hit:gY s.heap it t (n:Int)) (ht:IsTup s.heap t items) (hz:items.size<=sizeLine) (hn:n < items.size) (h:∀ u tk,Q (.int ((n:Int)+1) u) { s with toks:=tk }):wpAny (model prog w) A (call (.builtin "reversed.__length_hint__") [.ref it]) Q E s:=by
 have hl:=Y5;refine X3 jK hit.typeIs nv ?_ (pK _)
 obtain ⟨o,h1,h2,h3⟩:=hit;refine Zg (Xf (by rfl) ?_);refine Zg (X6 h1 h3 (by rfl) ?_);rw [if_neg (λ z=>by cases z)];refine Zg (len_tuple ht (by omega) ?_);refine Zg (Xf (by rfl) ?_);refine Zg (X6 (x:=Value.int n 0) h1 h3 (by rfl) ?_);dsimp only;rw [if_neg (by omega)];exact Zg (wpAny_mkInt (Zz ⟨_,rfl,h _ _⟩))
def yh (i:Int) (u:Tok):asInt? (.int i u)=pure (some i):=by rfl
def vq {items:Array Value} {n:Nat} (hit:gY s.heap it t (n:Int)) (ht:IsTup s.heap t items) (hz:items.size<=sizeLine) (hn:n < items.size) (h:∀ tk,Q true { s with toks:=tk }):wpAny (model prog w) A (Builtin.List.listLengthHint (.ref it)) Q E s:=by
 have hl:=Y5;refine Zg (Y0 hit.typeIs yG ?_);refine Zg (Y0 hit.typeIs vv ?_);generalize hid:("reversed.__length_hint__":String)=id0
 wp_delta
 rw [show splitId id0=some ("reversed","__length_hint__") from by subst hid; decide +kernel];subst hid;refine Zg (wpAny_isInstance (b:=true) hit.typeIs (by rw [Xp]; kernel_rfl) ?_);refine wpAny_ite_split (λ z=>absurd z (by decide)) (λ _=>?_);refine wpAny_ite_split (λ z=>absurd z (by decide +kernel)) (λ _=>?_);refine Zg (wpAny_rule ?_);refine Zg (Xf (jK.bind _) ?_);refine Zg (wpAny_attempt (xT hit ht hz hn λ u tk=>?_));dsimp only;rw [yh];refine Zg ?_
 refine Zz ?_
 dsimp only;rw [if_neg (by unfold Builtin.List.listFitsIndex; rw [Zo (by omega),Zo (by omega)]; decide),if_neg (by omega),if_neg (by unfold Builtin.List.listTooLong; rw [Zk (by omega)]; decide)];have e:(((n:Int)+1) != 0)=true:=by rw [bne_iff_ne]; omega
 rw [e];exact Zz (h tk)
def vw {items:Array Value} (hh:A.handled=none) (hit:gY s.heap it t ((items.size:Int) - 1)) (hl:IsTup s.heap t items)
  (hlen:items.size<=sizeLine) (h0:0 < items.size) (hne:t≠it) (S:Addr) (res:Value) (c₀:Nat) (hS:s.heap.get? S=some { cls:=.type "list",data:=.seq #[] c₀ }) (hSl:S≠t) (hSi:S≠it)
  (hR:∀ h' tk acc' c',(∀ b o,b≠S->b≠it->s.heap.get? b=some o->h'.get? b=some o)->h'.get? S=some { cls:=.type "list",dict:=none,data:=.seq acc' c',slots:=#[] } ->
    ItemsOf (λ i v=>items[items.size - 1 - i]?=some v) acc' items.size->R (.ok (.ret res)) { s with heap:=h',toks:=tk }) :
  wpAny (model prog w) A.in1 (Builtin.List.listExtendWith (.ref S) (.ref it) res)
    (λ fin s'=>match fin with | .done f=>R (.ok f) s' | .again c'=>c'.quiet=true/\codeAny (model prog w) A c' R s') (λ e s'=>R (.error e) s') s:=by
 have W:=(Walks.Ez (prog:=prog) (w:=w) (A:=A.in1) hh it t hne items hlen).toS
 have hSf:S ∉ [it,t]:=λ hm=>by
  rcases Zl.mp hm with e | hm
  · exact hSi e
  · exact hSl (Zn.mp hm)
 refine Zg (wpAny_typeOf hit.typeIs ?_);have h1:Builtin.List.listSameRef (.ref S) (.ref it)=false:=by simp [Builtin.List.listSameRef,hSi]
 have h2:(Value.type "reversed" == Value.type "list")=false:=by decide
 have h3:(Value.type "reversed" == Value.type "tuple")=false:=by decide
 simp only [h1,h2,h3,Bool.or_false,Bool.false_eq_true,if_false];refine Zg (vt hit ?_);refine Zg (Yz (vq (by rw [show ((items.size - 1:Nat):Int)=(items.size:Int) - 1 by omega]; exact hit) hl hlen (by omega) λ tk=>?_));refine wpAny_ite_split (λ _=>?_) (λ hab=>absurd (by rw [Bool.true_or]) hab);refine Zg (wpAny_rule ?_);refine Zg ?_
 refine Zg (wpAny_updateSeq hS rfl ?_);have g1:=Heap.get?_update_self (Obj.mapSeq (λ x:Array Value=>x.push Value.none)) hS rfl;refine (wpAny_updateSeq g1 rfl ?_);have g2:=Heap.get?_update_self (Obj.mapSeq (λ x:Array Value=>x.pop)) g1 rfl;have oth:∀ b o,b≠S->s.heap.get? b=some o->((s.heap.update S (Obj.mapSeq (λ x:Array Value=>x.push Value.none))).update S (Obj.mapSeq (λ x:Array Value=>x.pop))).get? b=some o:=λ b o hb e=>(Heap.get?_update_other _ _ (Ne.symm hb)).trans ((Heap.get?_update_other _ _ (Ne.symm hb)).trans e)
 refine Zz ⟨plainId_quiet F.plain_extend_loop _,?_⟩
 have hit0:gY ((s.heap.update S (Obj.mapSeq (λ x:Array Value=>x.push Value.none))).update S (Obj.mapSeq (λ x:Array Value=>x.pop))) it t ((items.size:Int) - 1 - ((0:Nat):Int)):=by
  rw [Int.natCast_zero,Int.sub_zero];exact hit.at λ o e=>oth it o (Ne.symm hSi) e
 have hl0:IsTup ((s.heap.update S (Obj.mapSeq (λ x:Array Value=>x.push Value.none))).update S (Obj.mapSeq (λ x:Array Value=>x.pop))) t items:=by
  obtain ⟨o,a1,a2⟩:=hl;exact ⟨o,oth t o (Ne.symm hSl) a1,a2⟩
 refine codeAny_extend_loopS W hlen S hSf res items.size 0 _ #[] _ rfl (Z3 _) ⟨Z3 _,hit0,hl0⟩ g2 (ItemsOf.nil _) λ s' acc' c' hm hS' hacc=>?_
 rw [Moved.eq_with hm];refine hR s'.heap s'.toks acc' c' (λ b o hb hb2 e=>hm.heap b o (λ hmem=>?_) (oth b o hb e)) hS' hacc;rcases Zl.mp hmem with e' | hmem
 · exact hb e'
 · exact hb2 (Zn.mp hmem)
def BF {items:Array Value} (hh:A.handled=none) (hit:gY s.heap it t ((items.size:Int) - 1)) (hl:IsTup s.heap t items)
  (hlen:items.size<=sizeLine) (h0:0 < items.size) (hne:t≠it) (S:Addr) (hS:s.heap.get? S=some { cls:=.type "list",data:=.seq #[] }) (hSl:S≠t) (hSi:S≠it)
  (hR:∀ h' tk acc' c',(∀ b o,b≠S->b≠it->s.heap.get? b=some o->h'.get? b=some o)->h'.get? S=some { cls:=.type "list",dict:=none,data:=.seq acc' c',slots:=#[] } ->
    ItemsOf (λ i v=>items[items.size - 1 - i]?=some v) acc' items.size->R (.ok (.ret .none)) { s with heap:=h',toks:=tk }) :
  wpAny (model prog w) A.in1 (Builtin.«list.__init__» ⟨[.ref S,.ref it],[]⟩)
    (λ fin s'=>match fin with | .done f=>R (.ok f) s' | .again c'=>c'.quiet=true/\codeAny (model prog w) A c' R s') (λ e s'=>R (.error e) s') s:=by
 refine Zg ?_
 refine Zg (wpAny_seqItems hS rfl (Zz ?_));refine Zg (wpAny_updateSeq hS rfl ?_);have hS₂:=Heap.get?_update_self (Obj.mapSeq (λ _=>(#[]:Array Value))) hS rfl
 have oth:∀ b o,b≠S->s.heap.get? b=some o->(s.heap.update S (Obj.mapSeq (λ _=>(#[]:Array Value)))).get? b=some o :=
  λ b o hb e=>(Heap.get?_update_other _ _ (Ne.symm hb)).trans e
 refine Zg (wpAny_letGo ?_);refine vw hh (hit.at λ o e=>oth it o (Ne.symm hSi) e) (by obtain ⟨o,a1,a2⟩:=hl; exact ⟨o,oth t o (Ne.symm hSl) a1,a2⟩) hlen h0 hne S .none _ hS₂ hSl hSi λ h' tk acc' c' hk hS' hacc=>?_
 exact hR h' tk acc' c' (λ b o hb hb2 e=>hk b o hb hb2 (oth b o hb e)) hS' hacc
def nH {items:Array Value} (hh:A.handled=none) (hit:gY s.heap it t ((items.size:Int) - 1)) (hl:IsTup s.heap t items)
  (hlen:items.size<=sizeLine) (h0:0 < items.size) (hne:t≠it)
  (hQ:∀ h' tk acc' c',(∀ b o,b≠it->s.heap.get? b=some o->h'.get? b=some o) ->
    h'.get? s.heap.objs.size=some { cls:=.type "list",dict:=none,data:=.seq acc' c',slots:=#[] }->ItemsOf (λ i v=>items[items.size - 1 - i]?=some v) acc' items.size->Q (.ref s.heap.objs.size) { s with heap:=h',toks:=tk }) :
  wpAny (model prog w) A (call (.type "list") [.ref it]) Q E s:=by
 refine callType_codes (Q₁:=λ obj s₁=>obj=.ref s.heap.objs.size/\s₁={ s with heap:=s.heap.push { cls:=.type "list",data:=.seq #[] } }) F.called_list (F.typeCall_list_1 _) F.entry_list_init
  (code_list_new _ ⟨rfl,rfl⟩) λ obj s₁ h₁=>?_
 obtain ⟨rfl,rfl⟩:=h₁;have hS:(s.heap.push { cls:=.type "list",data:=.seq #[] }).get? s.heap.objs.size=some { cls:=.type "list",data:=.seq #[] }:=Heap.get?_push_size _ rfl
 have hSl:s.heap.objs.size≠t:=λ e=>by
  obtain ⟨o,ho,_⟩:=hl;exact Yj _ (Y8 (Zt ho) e)
 have hSi:s.heap.objs.size≠it:=λ e=>by
  obtain ⟨o,ho,_⟩:=hit;exact Yj _ (Y8 (Zt ho) e)
 refine ⟨⟨_,hS,rfl⟩,F.args_list_init_2 _ _,BF (A:=A.in1) hh (hit.at λ o e=>Heap.get?_push_of_some _ e) (by obtain ⟨o,a1,a2⟩:=hl; exact ⟨o,Heap.get?_push_of_some _ a1,a2⟩) hlen h0 hne _ hS hSl hSi λ h' tk acc' c' hk hS' hacc=>?_⟩;exact ⟨rfl,hQ h' tk acc' c' (λ b o hb e=>hk b o (Zx (Zt e)) hb (Heap.get?_push_of_some _ e)) hS' hacc⟩
end
end PySem
namespace L2
open PySem PySem.Spec PyProof.Rows
section
variable {X:Cx} {a:Expr} {p p2 pos pos2:Pos}
def MM (K:W.Frag) (ta:TE):TE:=λ σ H Q=>ta σ H λ x H1=>∃ q ys,x=.ref q/\SqT K H1 q ys/\0 < ys.length/\∀ l,H1 l=none->Q (.ref l) (upd H1 l (.lst ys.reverse))
def Ft {ta:TE} {x y:Str} (hc:X.calm=true) (hg:Gl X x) (hm:X.mg x=none) (hv:bootBuiltins x=some (.type "list")) (hg2:Gl X y) (hm2:X.mg y=none) (hv2:bootBuiltins y=some (.type "reversed")) (ha:PE X a ta)
  (hn:x≠"__name__":=by decide) (hdb:(x == ("__debug__":Str))=false:=by decide) (hn2:y≠"__name__":=by decide) (hdb2:(y == ("__debug__":Str))=false:=by decide)
  (he:starEach [.Call (.Name y p2) [a] [] pos2] X.env=(false,eval (.Call (.Name y p2) [a] [] pos2) X.env)::starEach [] X.env:=by rfl) (hpl:(backTo pos (starEach [] X.env)).any (·.1)=false:=by rfl)
  (he2:starEach [a] X.env=(false,eval a X.env)::starEach [] X.env:=by rfl) (hpl2:(backTo pos2 (starEach [] X.env)).any (·.1)=false:=by rfl) :
  PE X (.Call (.Name x p) [.Call (.Name y p2) [a] [] pos2] [] pos) (MM X.K ta):=by
 intro pins s σ H Q I h;refine Yu (iV I hg hm hv ?_ hn hdb);refine Yg ?_ he hpl;rw [he];refine Calls.spliced_cons ?_
 refine Yu (iV I hg2 hm2 hv2 ?_ hn2 hdb2);refine Yg (thn (cB ha eL he2 pos2 pins s σ H (λ vs H1=>match vs with | [x]=>(∃ q ys,x=V.ref q/\SqT X.K H1 q ys/\0 < ys.length/\∀ l,H1 l=none->Q (.ref l) (upd H1 l (.lst ys.reverse))) | _=>False) I h) λ us s1 ⟨vs,H1,I1,r1,q1⟩=>?_) he2 hpl2
 match vs,r1,q1 with
 | [],_,q1=>exact q1.elim
 | _::_::_,_,q1=>exact q1.elim
 | [v],.cons r .nil,q1 =>
  obtain ⟨q,ys,ev,hq,h0,k⟩:=q1;subst ev;cases r;obtain ⟨its,r',pl,hz⟩:=I1.tuple hq;have hlen:=r'.length
  have hql:q < s1.heap.objs.size:=by
   obtain ⟨o,ho,_⟩:=pl;exact Zt ho
  refine Ae pl (by simp only [Zq]; omega) λ tk0=>?_
  refine Calls.spliced_nil ?_
  refine nH (I1.ok.hd hc) ⟨_,Heap.get?_push_size _ rfl,rfl,rfl⟩ (by obtain ⟨o,a1,a2⟩:=pl; exact ⟨o,Heap.get?_push_of_some _ a1,a2⟩) (by simp only [Zq]; omega) (by simp only [Zq]; omega) (Zx hql) λ h' tk acc' c' kp e hacc=>?_
  have ea:=oz hacc;subst ea;have hS:s1.heap.objs.size<=(s1.heap.push (vn q ((its.toArray.size:Int) - 1))).objs.size:=Yn (Y8 (Yv _) (Xk _ _).symm)
  exact ⟨.ref _,_,I1.laid (λ b o eb=>kp b o (Zx (Zt eb)) (Heap.get?_push_of_some _ eb)) hS
   (show cu X.prog X.w _ h' _ (.lst ys.reverse) from ⟨by rw [Y4]; exact hz,its.reverse,c',r'.reverse,e⟩),rfl,k _ (I1.hok.fresh hS)⟩
def Ls (f:DE):DE:=λ τ=>(f τ).bind λ x=>match x with
 | .tup ds=>if 0 < ds.length then some (.lst ds.reverse) else none
 | _=>none
def Fh (hc:X.calm=true) (hg:Gl X x) (hm:X.mg x=none) (hv:bootBuiltins x=some (.type "list")) (hg2:Gl X y) (hm2:X.mg y=none) (hv2:bootBuiltins y=some (.type "reversed")) (ha:PEd X a f)
  (hn:x≠"__name__":=by decide) (hdb:(x == ("__debug__":Str))=false:=by decide) (hn2:y≠"__name__":=by decide) (hdb2:(y == ("__debug__":Str))=false:=by decide)
  (he:starEach [.Call (.Name y p2) [a] [] pos2] X.env=(false,eval (.Call (.Name y p2) [a] [] pos2) X.env)::starEach [] X.env:=by rfl) (hpl:(backTo pos (starEach [] X.env)).any (·.1)=false:=by rfl)
  (he2:starEach [a] X.env=(false,eval a X.env)::starEach [] X.env:=by rfl) (hpl2:(backTo pos2 (starEach [] X.env)).any (·.1)=false:=by rfl) :
  PEo X (.Call (.Name x p) [.Call (.Name y p2) [a] [] pos2] [] pos) (Ls f):=(Ft hc hg hm hv hg2 hm2 hv2 ha hn hdb hn2 hdb2 he hpl he2 hpl2).imp λ σ H Q ⟨H0,Hs,τ,fp,d,st,sm,e,k⟩=>by
 obtain ⟨x,e1,e⟩:=bind_some e;refine ⟨H0,Hs,τ,fp,x,st,sm,e1,λ v Hs1 H1 g1 r1=>?_⟩
 cases r1 with
 | @tup a ys ds h r =>
  have e':(if 0 < ds.length then some (D.lst ds.reverse) else none)=some d:=e;split at e'
  ·rename_i h0
   cases e';exact ⟨_,_,rfl,g1.sh.tup h,by rw [r.length]; exact h0,λ l hl=>k l Hs1 _ ⟨g1.ss,g1.sh.trans (aA hl _),g1.hh.trans (aA hl _),g1.fr⟩ (.lst aq (g1.sh.free hl) r.reverse) (g1.hh.free hl)⟩
  · cases e'
 | _=>exact nn e
end
end L2
end
section
namespace L2
open PySem PySem.Spec PyProof.Rows
abbrev Fn0 (K:W.Frag) (x:Str) (st:Stmt) (f:Addr):Prop:=∃ (od an:Option Addr) (sl:Array (Option Value)) (oc kV dc pm cd ct:Value),PySem.W.nsIn K mainGlobals x=some (some (.ref f))/\K.lookup f=some ⟨oc,od,.func (PySem.W.fnOf x x (cD st) (bR st) (aH st) .none kV dc pm an cd ct),sl⟩/\PySem.W.codeIn K cd x=true/\W.keepIn K (.ref f)=true
def Fn0.mk {K:W.Frag} {x:Str} {st:Stmt} {f:Addr} {h:Heap} {mg:Str->Option Value} {ps:List Str} (e:Fn0 K x st f) (X:K.In h) (G:h.Ns mainGlobals mg) (hb:∀ (kV doc pm:Value) (an:Option Addr) (cdv ct:Value) (us:List Value),us.length=ps.length->bindArgs (PySem.W.fnOf x x (cD st) (bR st) (aH st) .none kV doc pm an cdv ct) ⟨us,[]⟩=pure (ps.zip us)):∃ fd,Fun K x x st f fd/\mg x=some (.ref f)/\Binds K fd ps []:=by
 obtain ⟨od,an,sl,oc,kV,dc,pm,cd,ct,a,l,c,k⟩:=e;exact ⟨_,lq (st:=st) l c k,PySem.W.mg_of X G a,(lq (st:=st) l c k).binds hb⟩
def F5 {as:List Addr} {h:Heap}:∀ {K:W.Frag},as=K.map (·.1)->as.map h.get?=K.map (λ p=>some p.2)->∀ p ∈ K,h.get? p.1=some p.2:=by
 intro K e q;subst e;rw [Zw] at q;intro p hp;exact List.map_inj_left.mp q p hp
def AV:∀ {K:W.Frag},List.lookup a K=some o->(a,o) ∈ K
 | [],h=>by cases h
 | (b,u)::K,h=>by
  rw [List.lookup_cons] at h
  cases q:a == b with
  | true =>
   rw [q] at h;have e1:a=b:=eq_of_beq q;have e2:u=o:=Zj h;subst e1 e2;exact Zd ..
  | false =>
   rw [q] at h;exact Zc _ (AV h)
def yu {q:Program} {loose:List Str} {XP:(Str->Option Value)->Heap->Prop} {as:List Addr} {K:Params->W.Frag} {n t:Nat} {r:PySem.W.RowW} {d:PySem.DefRec} {kwd:List (Str×Expr)} {run:Value->List Value->Sem Value}
  (e:∀ P,as=(K P).map (·.1)) (h:PySem.W.WalkO q loose XP (PySem.W.InK K) r d kwd run):PySem.W.WalkX q loose XP (PySem.W.X.obsZ as) (PySem.W.X.valZ K n t) r d kwd run:=by
 intro w s₀ s₁ mg mb G y a o pm cd doc dV kV ho hd hcd hD hmg hg args vals bs L hpre hlay hrd hwl hlo;have y1:as.map s₀.heap.get?=(K w.params).map (λ p=>some p.2):=Yh Prod.fst y;have KX:(K w.params).In s₁.heap:=λ b o' e'=>L.keeps b o' (F5 (e w.params) y1 (b,o') (AV e'))
 exact h w s₀ s₁ mg mb G KX a o pm cd doc dV kV ho hd hcd hD hmg hg args vals bs hpre hlay hrd hwl hlo
end L2
end
section
local macro_rules | `(tactic| walk_at "v")=>`(tactic| first | exact .inl rfl | exact .inr rfl | assumption)
local macro_rules | `(tactic| walk_at "w")=>`(tactic| first | exact .inl rfl | exact .inr (.inl rfl) | exact .inr (.inr rfl))
namespace L2
open PySem PySem.Spec PyProof.Rows
abbrev Dg (x:Str):Prop:=(x == ("__debug__":Str))=false
abbrev Dc (x:Str):Prop:=(x == ("__classdict__":Str))=false
abbrev Se (X:Cx) (e:Expr) (es:List Expr):Prop:=starEach (e::es) X.env=(false,eval e X.env)::starEach es X.env
abbrev Sb (X:Cx) (pos:Pos) (es:List Expr):Prop:=(backTo pos (starEach es X.env)).any (·.1)=false
abbrev Fs (X:Cx) (i:Expr):Prop:=∀ x,foldedSetIterable i X.env x=pure x
abbrev Xl (X:Cx) (x:Str):Prop:=X.fn x=true\/X.env.scope.names.lookup x=some .local
abbrev Sw (X:Cx) (e:Expr) (x:Str) (p pos:Pos):Prop:=swapsWith e (some (.Name x p)) pos.line X.env=pure false
def Df (K:W.Frag) (mg:Str->Option Value) (x:Str) (st:Stmt) (ps:List Str):Prop:=∃ a d,Fun K x x st a d/\mg x=some (.ref a)/\Binds K d ps []
def Mf (K:W.Frag) (C:Addr) (x q:Str) (st:Stmt) (ps:List Str):Prop:=∃ a d,Fun K x q st a d/\Ef K C x a/\Binds K d ps []
def If (K:W.Frag) (C:Addr) (q:Str) (st:Stmt) (ps:List Str):Prop:=∃ a d,Fun K "__init__" q st a d/\Mk K C a/\Binds K d ps []
structure Go (P:Program) (w:World) (K:W.Frag) (mg:Str->Option Value) (base:Heap) (k:Nat) (x:Str) (sp:Sp):Prop where
 go:∃ f fd ps,mg x=some (.ref f)/\W.keepIn K (.ref f)=true/\Binds K fd ps []/\jf P w K mg base CX0 k f fd ps sp
structure GoM (P:Program) (w:World) (K:W.Frag) (mg:Str->Option Value) (base:Heap) (k:Nat) (C:Addr) (x:Str) (sp:Sp):Prop where
 go:∃ f fd ps,Ef K C x f/\Binds K fd ps []/\jf P w K mg base CX0 k f fd ps sp
structure GoI (P:Program) (w:World) (K:W.Frag) (mg:Str->Option Value) (base:Heap) (k:Nat) (C:Addr) (sp:Sp):Prop where
 go:∃ f fd ps,Mk K C f/\Binds K fd ps []/\jf P w K mg base CX0 k f fd ps sp
def aa (i:Nat) (hN:X.N[i]?=some x:=by exact rfl) (hv:Vis X.env.scope x:=by walk_at "w") (hd:Dg x:=by decide) (hcd:Dc x:=by decide):Bx (PEd X (.Name x pos) (aD i)):=⟨FH i hN hv hd hcd⟩
def ae  : Bx (PEd X (.Constant (.int i) j pos) (dC (.int i))):=⟨FO ⟩
def bp  : Bx (PEd X (.Constant (.bool i) j pos) (dC (.bl i))):=⟨Jp ⟩
def kh  : Bx (PEd X (.Constant .none j pos) (dC .non)):=⟨FN ⟩
def bI  : Bx (PEd X (.Constant (.str x) j pos) (dC (.str x))):=⟨FJ ⟩
def iw (hm:X.mg x=none) (hg:Gl X x:=by rfl) (hv:bootBuiltins x=some (.type n):=by decide +kernel) (hn:x≠"__name__":=by decide) (hd:Dg x:=by decide):Bx (PEd X (.Name x pos) (dC (.ty n))):=⟨Jm hg hm hv hn hd⟩
def jA (ho:OpR X (binaryOp op) (rdR X.K o)) (ha:Bx (PEd X a f)) (hb:Bx (PEd X b g)):Bx (PEd X (.BinOp a op b pos) (dOp o f g)):=⟨Jn ho ha.out hb.out⟩
def D6 (ho:UnR X (unaryOp op) (rdU X.K o)) (ha:Bx (PEd X a f)):Bx (PEd X (.UnaryOp op a pos) (dUn o f)):=⟨Jl ho ha.out⟩
def gS (ho:OpR X (compareOp op) (rdR X.K o)) (ha:Bx (PEd X a f)) (hb:Bx (PEd X b g)) (hm:behindInMarks op b=false:=by first | exact AR _ | rfl):Bx (PEd X (.Compare a [op] [b] pos) (dOp o f g)):=⟨FQ ho ha.out hb.out hm⟩
def cF (ho:OpR X (compareOp op) (rdR X.K o)) (ha:Bx (PEd X a f)) (hb:Bx (PEd X b g)) (hm:behindInMarks op b=false:=by first | exact AR _ | rfl):Bx (PTd X (.Compare a [op] [b] pos) (dT (dOp o f g))):=⟨BV ho ha.out hb.out hm⟩
def ux (ho:OpR X (compareOp op) (rdR X.K o)) (ho':OpR X (compareOp op') (rdR X.K o')) (ha:Bx (PEd X a f)) (hb:Bx (PEd X b g)) (hc:Bx (PEd X c h)) (hm:lastMarks [op,op'] [b,c]=false:=by with_unfolding_all rfl):Bx (PEd X (.Compare a [op,op'] [b,c] pos) (i9 (dOp o f g) (dOp o' g h))):=⟨zy ho ho' ha.out hb.out hc.out hm⟩
def a9  : Bx (PAd X [] cK):=⟨CM ⟩
def fc (ha:Bx (PEd X e f)) (hr:Bx (PAd X es g)) (hs:Se X e es:=by rfl):Bx (PAd X (e::es) (aF f g)):=⟨zC ha.out hr.out hs⟩
def b9 (h:Bx (PAd X es g)):Bx (PEd X (.Tuple es x1 pos) (G4 g)):=⟨FI h.out⟩
def bw (h:Bx (PAd X es g)):Bx (PEo X (.List es pos) (DY g)):=⟨Fj h.out⟩
def aW (h:Bx (PEo X e f)):Bx (PEd X e f):=⟨PEo.shr h.out⟩
def dA (h:Bx (PEd X e f)) (he:∀ whole,isTrue e X.env whole=(do let v <- whole; standAt e.pos; holding [v] (truthy v)):=by intro _; rfl):Bx (PTd X e (dT f)):=⟨BR h.out he⟩
def cE (h:Bx (PTd X e f)):Bx (PTd X (.UnaryOp .Not e pos) (Bb f)):=⟨BS h.out⟩
def eW (h:Bx (PTd X a f)):Bx (PWd X (.BoolOp .And [a] pos) f):=⟨yJ h.out⟩
def f9 (h:Bx (PTd X a f)):Bx (PWd X (.BoolOp .Or [a] pos) f):=⟨BJ h.out⟩
def gc (ha:Bx (PTd X a f)) (hb:Bx (PWd X (.BoolOp .And (b::es) pos) g)):Bx (PWd X (.BoolOp .And (a::b::es) pos) (Ab f g)):=⟨BK ha.out hb.out⟩
def gP (ha:Bx (PTd X a f)) (hb:Bx (PWd X (.BoolOp .Or (b::es) pos) g)):Bx (PWd X (.BoolOp .Or (a::b::es) pos) (dOr f g)):=⟨E9 ha.out hb.out⟩
def cb (h:Bx (PWd X e f)):Bx (PTd X e f):=⟨PWd.ptd h.out⟩
def jb (h:Bx (PEd X a f)):Bx (PEd X (.BoolOp op [a] pos) f):=⟨FK h.out⟩
def gT (ha:Bx (PEd X a f)) (hb:Bx (PEd X (.BoolOp .And (b::es) pos) g)):Bx (PEd X (.BoolOp .And (a::b::es) pos) (i9 f g)):=⟨FR ha.out hb.out⟩
def Aj (ha:Bx (PEd X a f)):Bx (PEd X (.UnaryOp .Not a pos) (G5 f)):=⟨FL ha.out⟩
def bz (ha:Bx (PEd X a f)) (hb:Bx (PEd X b g)) (hs:lQ b:=by exact λ _ _=>rfl):Bx (PEd X (.Subscript a b pos) (dOp oIx f g)):=⟨Jo ha.out hb.out hs⟩
def gR  : Bx (POd X none Lu):=⟨zg ⟩
def dr (h:Bx (PEd X e f)):Bx (POd X (some e) (dP f)):=⟨zf h.out⟩
section
variable {X:Cx} {a b c e:Expr} {es:List Expr} {pos:Pos} {f g h:DE}
def D5 {lo hi:Option Expr} {p2:Pos} {l u:DO} (ha:Bx (PEd X a f)) (hl:Bx (POd X lo l)) (hh:Bx (POd X hi u)):Bx (PEo X (.Subscript a (.Slice lo hi none p2) pos) (dSl f l u)):=⟨Je ha.out hl.out hh.out⟩
end
section
variable {X:Cx} {a b c e:Expr} {es:List Expr} {pos:Pos} {f g h:DE}
def az {x:Str} {id:String} {p:Pos} {o:List D->Option D} {g:DA} (hc:c8 X (.builtin id) (rdL X.K o)) (hm:X.mg x=none) (ha:Bx (PAd X (e::es) g)) (hg:Gl X x:=by rfl) (hv:bootBuiltins x=some (.builtin id):=by decide +kernel) (hn:x≠"__name__":=by decide) (hdb:Dg x:=by decide) (he:Se X e es:=by rfl) (hpl:Sb X pos es:=by rfl):Bx (PEd X (.Call (.Name x p) (e::es) [] pos) (cV o g)):=⟨zA hc hg hm hv ha.out hn hdb he hpl⟩
end
def iy (hc:c8 X (.type T) (rdL X.K o)) (hm:X.mg x=none) (ha:Bx (PAd X (e::es) g)) (hg:Gl X x:=by rfl) (hv:bootBuiltins x=some (.type T):=by decide +kernel) (hn:x≠"__name__":=by decide) (hdb:Dg x:=by decide) (he:Se X e es:=by rfl) (hpl:Sb X pos es:=by rfl):Bx (PEd X (.Call (.Name x p) (e::es) [] pos) (cV o g)):=⟨wj hc hg hm hv ha.out hn hdb he hpl⟩
def eY (hm:X.mg x=none) (ha:Bx (PAd X (e::es) g)) (hg:Gl X x:=by rfl) (hv:bootBuiltins x=some (.type "list"):=by decide +kernel) (hn:x≠"__name__":=by decide) (hdb:Dg x:=by decide) (he:Se X e es:=by rfl) (hpl:Sb X pos es:=by rfl):Bx (PEo X (.Call (.Name x p) (e::es) [] pos) (cV wF g)):=⟨Cm hg hm hv ha.out hn hdb he hpl⟩
def lJ (i:Nat) (h:Bx (PTd X e f)):Bx (PTd X e (Ej i f)):=⟨BW i h.out⟩
def aP  : Bx (nM X [] lW):=⟨yU ⟩
section
variable {X:Cx} {a b c e:Expr} {es:List Expr} {pos:Pos} {st:Stmt} {rest:List Stmt} {f g:DS}
def ak (h:Bx (PSd X st f)):Bx (nM X [st] f):=⟨yT h.out⟩
end
section
variable {X:Cx} {a b c e:Expr} {es:List Expr} {pos:Pos} {st:Stmt} {rest:List Stmt} {f g:DS}
def ag (h1:Bx (PSd X st f)) (h2:Bx (nM X rest g)):Bx (nM X (st::rest) (gJ f g)):=⟨vO h1.out h2.out⟩
end
section
variable {X:Cx} {a b c e:Expr} {es:List Expr} {pos:Pos} {st:Stmt} {rest:List Stmt} {f g:DS}
def ir  : Bx (PSd X st AB):=⟨vX ⟩
end
def bu (hc:Bx (PTd X c t)) (ha:Bx (nM X x f)) (hb:Bx (nM X y g)):Bx (PSd X (.If c x y pos) (sIf t f g)):=⟨Fe hc.out ha.out hb.out⟩
def aL (h:Bx (PEd X e f)):Bx (PSd X (.Return (some e) pos) (El f)):=⟨B9 h.out⟩
def dq (h:Bx (PEo X e f)):Bx (PSd X (.Return (some e) pos) (yB f)):=⟨za h.out⟩
def jz (i:Nat) (hN:X.N[i]?=some x:=by exact rfl) (hv:Vis X.env.scope x:=by walk_at "w") (hd:Dg x:=by decide) (hcd:Dc x:=by decide):Bx (PSd X (.Return (some (.Name x p)) pos) (vf i)):=⟨yZ i hN hv hd hcd⟩
def xZ (i:Nat) (hN:X.N.Nodup) (hi:X.N[i]?=some x:=by exact rfl) (he:Bx (PEd X e f)) (hx:Loc X.env.scope x:=by walk_at "v") (hs:Sw X e x pos' pos:=by rfl) (hf:Xl X x:=by walk_at "v"):Bx (PSd X (.Assign [.Name x pos'] e pos) (ve i f)):=⟨B7 hN hi hx he.out hs hf⟩
def cv (i:Nat) (hN:X.N.Nodup) (hi:X.N[i]?=some x:=by exact rfl) (he:Bx (PEo X e f)) (hx:Loc X.env.scope x:=by walk_at "v") (hs:Sw X e x pos' pos:=by rfl) (hf:Xl X x:=by walk_at "v"):Bx (PSd X (.Assign [.Name x pos'] e pos) (vd i f)):=⟨yY hN hi hx he.out hs hf⟩
def eX (he:Bx (PEd X e f)) (hs:swapsWith e none pos.line X.env=pure false:=by rfl):Bx (PSd X (.Expr e pos) (vk f)):=⟨zc he.out hs⟩
section
variable {X:Cx} {a b c e:Expr} {es:List Expr} {pos:Pos} {st:Stmt} {rest:List Stmt} {f g:DS}
def x3 (i:Nat) (h:Bx (PSd X st f)):Bx (PSd X st (EY i f)):=⟨Ca i h.out⟩
end
def dB (i:Nat) (hN:X.N[i]?=some x:=by exact rfl) (he:Bx (PEd X e f)) (hv:Vis X.env.scope x:=by walk_at "w") (hd:Dg x:=by decide) (hcd:Dc x:=by decide) (hbase:attributeBase (.Name x p) "append" X.env (eval (.Name x p) X.env)=eval (.Name x p) X.env:=by rfl) (hfew:((backTo cpos (starEach [e] X.env)).all (λ x=>!x.1)&&(backToKw cpos (keywordEach [] X.env)).all (λ x=>x.1.isSome)
 && decide ([e].length+([]:List Keyword).length+(if ([]:List Keyword).isEmpty then 0 else 1) < 30))=true:=by rfl) (hline:(apos.endLine == cpos.line)=true:=by rfl) (hst:starEach [e] X.env=(false,eval e X.env)::starEach [] X.env:=by rfl) (hplain:(backTo cpos (starEach [] X.env)).any (·.1)=false:=by rfl) (hs:swapsWith (.Call (.Attribute (.Name x p) "append" apos) [e] [] cpos) none pos.line X.env=pure false:=by rfl):Bx (PSd X (.Expr (.Call (.Attribute (.Name x p) "append" apos) [e] [] cpos) pos) (AD i f)):=⟨Cd i hN hv he.out hd hcd hbase hfew hline hst hplain hs⟩
def dD (h:Bx (PEd X l f)):Bx (PId X tg l (GF f)):=⟨Ct h.out⟩
def cY (hm:X.mg "range"=none) (ha:Bx (PAd X [a] f)) (hg:Gl X "range":=by rfl) (hs:starEach [a] X.env=[(false,eval a X.env)]:=by rfl):Bx (PId X tg (.Call (.Name "range" p) [a] [] pos) (lg f)):=⟨tI hg hm ha.out hs⟩
def mH (i:Nat) (hN:X.N.Nodup) (hi:X.N[i]?=some x:=by exact rfl) (hx:Loc X.env.scope x:=by walk_at "v") (hf:Xl X x:=by walk_at "v"):Bx (PGd X (.Name x pos) (gN i)):=⟨zt hN hi hx hf⟩
def pB (hi:Bx (PId X tg iter it)) (hg:Bx (PGd X tg g)) (hb:Bx (nM X body b)) (hp:PassesOwn (model X.prog X.w) X.A X.env X.xe:=by exact .never) (hc:X.calm=true:=by rfl) (hs:Fs X iter:=by intro _; rfl):Bx (PSd X (.For tg iter body [] pos) (Em it g b)):=⟨Cb hp hc hi.out hg.out hb.out hs⟩
def fD (hc:Bx (PTd X c t)) (hb:Bx (nM X body b)) (hp:PassesOwn (model X.prog X.w) X.A X.env X.xe:=by exact .never):Bx (PSd X (.While c body [] pos) (me t b)):=⟨vW hp hc.out hb.out⟩
def ao (Fo:Go X.prog X.w X.K X.mg X.base k x (spF F X.K)) (hr:dW jj X.A) (ha:Bx (PAd X (e::es) g)) (hj:k<=jj:=by decide) (hg:Gl X x:=by rfl) (hdb:Dg x:=by decide) (he:Se X e es:=by rfl) (hpl:Sb X pos es:=by rfl):Bx (PEd X (.Call (.Name x p) (e::es) [] pos) (dFn F g)):=by
 have ⟨f',fd',ps',hm,hk,hb,Fo⟩:=Fo.go;have hr:=hr.mono hj;exact ⟨CK Fo hr hg hm hk hb ha.out hdb he hpl⟩
def lL (Fo:Go X.prog X.w X.K X.mg X.base k x (spF F X.K)) (hr:dW jj X.A) (ha:Bx (PAd X (e::es) g)) (hj:k<=jj:=by decide) (hg:Gl X x:=by rfl) (hdb:Dg x:=by decide) (he:Se X e es:=by rfl) (hpl:Sb X pos es:=by rfl):Bx (PEo X (.Call (.Name x p) (e::es) [] pos) (G6 F g)):=by
 have ⟨f',fd',ps',hm,hk,hb,Fo⟩:=Fo.go;have hr:=hr.mono hj;exact ⟨Co Fo hr hg hm hk hb ha.out hdb he hpl⟩
def eZ (O:cf X scope cl x cs) (hi:Bx (PId X (.Name x px) iter it)) (he:∀ s H fp C,Bx (PEd (bf X scope cl (x::cs.map (·.1)) s H fp C) elt g):=by intros; walk_at "g") (hc:X.calm=true:=by rfl) (hs:Fs X iter:=by intro _; rfl):Bx (PEo X (.ListComp elt [⟨.Name x px,iter,[],0⟩] scope pos) (qG it g cs)):=⟨Cn hc O hi.out (λ s H fp C=>(he s H fp C).out) hs⟩
def bJ (c:Cls X.K C) (n:cG X.K C f) (he:Bx (PEd X e g)) (hb:attributeBase e f X.env (eval e X.env)=eval e X.env:=by rfl):Bx (PEd X (.Attribute e f pos) (dUn (tR C f) g)):=⟨FP c n he.out hb⟩
def aV (c:Cls X.K C) (Fo:GoM X.prog X.w X.K X.mg X.base k C m (spF F X.K)) (hr:dW jj X.A) (he:Bx (PEd X o g)) (ha:Bx (PAd X (e::es) ga)) (hj:k<=jj:=by decide) (hst:Se X e es:=by rfl) (hpl:Sb X pos es:=by rfl) (ht:eval (.Call (.Attribute o m apos) (e::es) [] pos) X.env=(do
  let ov <- eval o X.env
  standAt apos.atName
  let (f,first) <- holding [ov] (getMethod ov m pl)
  callWith pos f first (backTo pos (starEach (e::es) X.env)) (backToKw pos (keywordEach [] X.env))):=by rfl):Bx (PEd X (.Call (.Attribute o m apos) (e::es) [] pos) (l7 C m F g ga)):=by
 have ⟨f',fd',ps',hm,hb,Fo⟩:=Fo.go;have hr:=hr.mono hj;exact ⟨CG he.out c hm Fo hr hb ha.out hst hpl ht⟩
def pD (c:Cls X.K C) (Fo:GoM X.prog X.w X.K X.mg X.base k C m (spF F X.K)) (hr:dW jj X.A) (he:Bx (PEd X o g)) (ha:Bx (PAd X (e::es) ga)) (hj:k<=jj:=by decide) (hst:Se X e es:=by rfl) (hpl:Sb X pos es:=by rfl) (ht:eval (.Call (.Attribute o m apos) (e::es) [] pos) X.env=(do
  let ov <- eval o X.env
  standAt apos.atName
  let (f,first) <- holding [ov] (getMethod ov m pl)
  callWith pos f first (backTo pos (starEach (e::es) X.env)) (backToKw pos (keywordEach [] X.env))):=by rfl):Bx (PEo X (.Call (.Attribute o m apos) (e::es) [] pos) (pe C m F g ga)):=by
 have ⟨f',fd',ps',hm,hb,Fo⟩:=Fo.go;have hr:=hr.mono hj;exact ⟨Ck he.out c hm Fo hr hb ha.out hst hpl ht⟩
def mD (O:cf X scope cl x cs) (hi:Bx (PId X (.Name x px) iter it)) (hcd:∀ s H fp C,Bx (PTd (bf X scope cl (x::cs.map (·.1)) s H fp C) cnd c):=by intros; walk_at "h") (he:∀ s H fp C,Bx (PEd (bf X scope cl (x::cs.map (·.1)) s H fp C) elt g):=by intros; walk_at "g") (hc:X.calm=true:=by rfl) (hs:Fs X iter:=by intro _; rfl):Bx (PEo X (.ListComp elt [⟨.Name x px,iter,[cnd],0⟩] scope pos) (gZ it c g cs)):=⟨zk hc O hi.out (λ s H fp C=>(hcd s H fp C).out) (λ s H fp C=>(he s H fp C).out) hs⟩
def aG (hu:X.A.units+64 < cLine) (hs:Er i) (ho:Bx (PEd X o f)) (hi:Bx (PEd X i g)):Bx (PEd X (.Subscript o i pos) (dOp cL f g)):=⟨CJ hu ho.out hi.out hs⟩
def xU (hu:X.A.units+64 < cLine) (hm:behindInMarks .In o=false) (hi:Bx (PEd X i f)) (ho:Bx (PEd X o g)):Bx (PTd X (.Compare i [.In] [o] pos) (dT (dOp CZ f g))):=⟨BU hu hi.out ho.out hm⟩
def jT (hu:X.A.units+64 < cLine) (hm:behindInMarks .NotIn o=false) (hi:Bx (PEd X i f)) (ho:Bx (PEd X o g)):Bx (PTd X (.Compare i [.NotIn] [o] pos) (dT (dOp fX f g))):=⟨tz hu hi.out ho.out hm⟩
def lI (ho:OpR X (compareOp op) (rdR X.K o)) (ho':OpR X (compareOp op') (rdR X.K o')) (ha:Bx (PEd X a f)) (hb:Bx (PEd X b g)) (hc:Bx (PEd X c h)) (hm:lastMarks [op,op'] [b,c]=false:=by with_unfolding_all rfl):Bx (PTd X (.Compare a [op,op'] [b,c] pos) (dT (i9 (dOp o f g) (dOp o' g h)))):=⟨vL ho ho' ha.out hb.out hc.out hm⟩
def uw (hm:X.mg "enumerate"=none) (ha:Bx (PAd X [a] f)) (hg:Gl X "enumerate":=by rfl) (hs:starEach [a] X.env=[(false,eval a X.env)]:=by rfl):Bx (PId X (.Tuple elts k pt) (.Call (.Name "enumerate" p) [a] [] pos) (sj f)):=⟨zm hg hm ha.out hs⟩
section
variable {X:Cx} {a b e o:Expr} {es:List Expr} {pos apos cpos:Pos} {f g:DE}
def kg {lo hi:Option Expr} {p2:Pos} {l u:DO} (ha:Bx (PEd X a f)) (hl:Bx (POd X lo l)) (hh:Bx (POd X hi u)):Bx (PEd X (.Subscript a (.Slice lo hi none p2) pos) (Ii f l u)):=⟨FG ha.out hl.out hh.out⟩
end
def pE (ho:Bx (PEd X o f)) (he:Bx (PEd X e g)) (hbase:attributeBase o "join" X.env (eval o X.env)=eval o X.env:=by rfl) (hfew:((backTo cpos (starEach [e] X.env)).all (λ x=>!x.1)&&(backToKw cpos (keywordEach [] X.env)).all (λ x=>x.1.isSome)
 && decide ([e].length+([]:List Keyword).length+(if ([]:List Keyword).isEmpty then 0 else 1) < 30))=true:=by rfl) (hline:(apos.endLine == cpos.line)=true:=by rfl) (hst:starEach [e] X.env=(false,eval e X.env)::starEach [] X.env:=by rfl) (hplain:(backTo cpos (starEach [] X.env)).any (·.1)=false:=by rfl):Bx (PEd X (.Call (.Attribute o "join" apos) [e] [] cpos) (xN f g)):=⟨CH ho.out he.out hbase hfew hline hst hplain⟩
def kf (hm:X.mg x=none) (hm2:X.mg y=none) (ha:Bx (PEd X a f)) (hc:X.calm=true:=by rfl) (hg:Gl X x:=by rfl) (hv:bootBuiltins x=some (.type "list"):=by decide +kernel) (hg2:Gl X y:=by rfl) (hv2:bootBuiltins y=some (.type "reversed"):=by decide +kernel) (hn:x≠"__name__":=by decide) (hdb:Dg x:=by decide) (hn2:y≠"__name__":=by decide) (hdb2:(y == ("__debug__":Str))=false:=by decide) (he:starEach [.Call (.Name y p2) [a] [] pos2] X.env=(false,eval (.Call (.Name y p2) [a] [] pos2) X.env)::starEach [] X.env:=by rfl) (hpl:(backTo pos (starEach [] X.env)).any (·.1)=false:=by rfl) (he2:starEach [a] X.env=(false,eval a X.env)::starEach [] X.env:=by rfl) (hpl2:(backTo pos2 (starEach [] X.env)).any (·.1)=false:=by rfl):Bx (PEo X (.Call (.Name x p) [.Call (.Name y p2) [a] [] pos2] [] pos) (Eo f)):=⟨Fi hc hg hm hv hg2 hm2 hv2 ha.out hn hdb hn2 hdb2 he hpl he2 hpl2⟩
def pC (i:Nat) (hN:X.N[i]?=some x:=by exact rfl) (he:Bx (PEd X e f)) (hv:Vis X.env.scope x:=by walk_at "w") (hd:Dg x:=by decide) (hcd:Dc x:=by decide) (hbase:attributeBase (.Name x p) "extend" X.env (eval (.Name x p) X.env)=eval (.Name x p) X.env:=by rfl) (hfew:((backTo cpos (starEach [e] X.env)).all (λ x=>!x.1)&&(backToKw cpos (keywordEach [] X.env)).all (λ x=>x.1.isSome)
 && decide ([e].length+([]:List Keyword).length+(if ([]:List Keyword).isEmpty then 0 else 1) < 30))=true:=by rfl) (hline:(apos.endLine == cpos.line)=true:=by rfl) (hst:starEach [e] X.env=(false,eval e X.env)::starEach [] X.env:=by rfl) (hplain:(backTo cpos (starEach [] X.env)).any (·.1)=false:=by rfl) (hs:swapsWith (.Call (.Attribute (.Name x p) "extend" apos) [e] [] cpos) none pos.line X.env=pure false:=by rfl):Bx (PSd X (.Expr (.Call (.Attribute (.Name x p) "extend" apos) [e] [] cpos) pos) (BB i f)):=⟨Cc i hN hv he.out hd hcd hbase hfew hline hst hplain hs⟩
def ya (h:Bx (PEd X l f)):Bx (PId X tg l (zQ f)):=⟨Cs h.out⟩
def ai (h:Bx (PVm X e f)):Bx (PEm X e f):=⟨PVm.em h.out⟩
def gf (h:Bx (PEd X e g)):Bx (PVm X e (eS g)):=⟨Nu h.out⟩
def aK (h:Bx (PEd X e g)):Bx (PVm X e (eN g)):=⟨Nr h.out⟩
def mE (h:Bx (PEo X e g)):Bx (PVm X e (eO g)):=⟨Nq h.out⟩
def Hb (i:Nat) (hN:X.N[i]?=some x:=by exact rfl) (hv:Vis X.env.scope x:=by walk_at "w") (hd:Dg x:=by decide) (hcd:Dc x:=by decide):Bx (PVm X (.Name x p) (eV i)):=⟨Nn i hN hv hd hcd⟩
def au (i:Nat) (hN:X.N[i]?=some x:=by exact rfl) (hv:Vis X.env.scope x:=by walk_at "w") (hd:Dg x:=by decide) (hcd:Dc x:=by decide):Bx (PXm X (.Name x p) (cq i)):=⟨E6 i hN hv hd hcd⟩
def bV (cl:Cls X.K C) (n:cG X.K C x) (he:Bx (PXm X e f)) (hb:attributeBase e x X.env (eval e X.env)=eval e X.env:=by rfl):Bx (PXm X (.Attribute e x pos) (jq C x f)):=⟨E8 cl n he.out hb⟩
def ck (hu:X.A.units+1 < cLine) (hs:Er b) (he:Bx (PXm X a f)) (hk:Bx (PEd X b g)):Bx (PXm X (.Subscript a b pos) (p4 f g)):=⟨E7 hu he.out hk.out hs⟩
def D4 (he:Bx (PXm X a f)) (hk:Bx (PEd X b g)) (hs:lQ b:=by exact λ _ _=>rfl):Bx (PXm X (.Subscript a b pos) (Hn f g)):=⟨Jc he.out hk.out hs⟩
def aR  : Bx (l8 X [] iO):=⟨yS ⟩
section
variable {X:Cx} {a b c e o:Expr} {es:List Expr} {pos apos cpos pos':Pos} {x:Str} {st:Stmt} {rest:List Stmt} {f g:DSm}
def ar (h:Bx (PSm X st f)):Bx (l8 X [st] f):=⟨yR h.out⟩
end
section
variable {X:Cx} {a b c e o:Expr} {es:List Expr} {pos apos cpos pos':Pos} {x:Str} {st:Stmt} {rest:List Stmt} {f g:DSm}
def ab (h1:Bx (PSm X st f)) (h2:Bx (l8 X rest g)):Bx (l8 X (st::rest) (dt f g)):=⟨vN h1.out h2.out⟩
end
section
variable {X:Cx} {a b c e o:Expr} {es:List Expr} {pos apos cpos pos':Pos} {x:Str} {st:Stmt} {rest:List Stmt} {f g:DSm}
def fC  : Bx (PSm X st vh):=⟨vQ ⟩
end
def a7 (hc:Bx (PTm X c t)) (ha:Bx (l8 X x f)) (hb:Bx (l8 X y g)):Bx (PSm X (.If c x y pos) (pV t f g)):=⟨Fd hc.out ha.out hb.out⟩
def aQ (h:Bx (PEm X e f)):Bx (PSm X (.Return (some e) pos) (jm f)):=⟨B0 h.out⟩
def ay (i:Nat) (hN:X.N.Nodup) (hi:X.N[i]?=some x:=by exact rfl) (he:Bx (PEm X e f)) (hx:Loc X.env.scope x:=by walk_at "v") (hs:Sw X e x pos' pos:=by rfl) (hf:Xl X x:=by walk_at "v"):Bx (PSm X (.Assign [.Name x pos'] e pos) (fT i f)):=⟨BZ hN hi hx he.out hs hf⟩
def uq (he:Bx (PEm X e f)) (hs:swapsWith e none pos.line X.env=pure false:=by rfl):Bx (PSm X (.Expr e pos) (rl f)):=⟨yW he.out hs⟩
def aX (he:Bx (PEd X e g)) (hs:swapsWith e none pos.line X.env=pure false:=by rfl):Bx (PSm X (.Expr e pos) (rg g)):=⟨vU he.out hs⟩
def bS (h:Bx (PTd X e g)):Bx (PTm X e (tS g)):=⟨Jd h.out⟩
def lG (h:Bx (PEm X e f)) (he:∀ whole,isTrue e X.env whole=(do let v <- whole; standAt e.pos; holding [v] (truthy v)):=by intro _; rfl):Bx (PTm X e (tE f)):=⟨BP h.out he⟩
def lH (h:Bx (PTm X e f)):Bx (PTm X (.UnaryOp .Not e pos) (tNt f)):=⟨BQ h.out⟩
def ba (hu:X.A.units+1 < cLine) (ho:Bx (PXm X o px)) (hi:Bx (PEd X i gk)) (hv:Bx (PEm X value fv)) (hs:swapsWith value (some (.Subscript o i pos')) pos.line X.env=pure false:=by rfl):Bx (PSm X (.Assign [.Subscript o i pos'] value pos) (cA px gk fv)):=⟨yX hu ho.out hi.out hv.out hs⟩
def cW (cl:Cls X.K C) (n:cG X.K C x) (ho:Bx (PXm X o px)) (hv:Bx (PEm X value fv)) (hs:swapsWith value (some (.Attribute o x pos')) pos.line X.env=pure false:=by rfl):Bx (PSm X (.Assign [.Attribute o x pos'] value pos) (tq C x px fv)):=⟨B5 cl n ho.out hv.out hs⟩
def xY (ho:Bx (PXm X o px)) (he:Bx (PVm X e fv)) (hbase:attributeBase o "append" X.env (eval o X.env)=eval o X.env:=by rfl) (hfew:((backTo cpos (starEach [e] X.env)).all (λ x=>!x.1)&&(backToKw cpos (keywordEach [] X.env)).all (λ x=>x.1.isSome)
 && decide ([e].length+([]:List Keyword).length+(if ([]:List Keyword).isEmpty then 0 else 1) < 30))=true:=by rfl) (hline:(apos.endLine == cpos.line)=true:=by rfl) (hst:starEach [e] X.env=(false,eval e X.env)::starEach [] X.env:=by rfl) (hplain:(backTo cpos (starEach [] X.env)).any (·.1)=false:=by rfl) (hs:swapsWith (.Call (.Attribute o "append" apos) [e] [] cpos) none pos.line X.env=pure false:=by rfl):Bx (PSm X (.Expr (.Call (.Attribute o "append" apos) [e] [] cpos) pos) (yE px fv)):=⟨B6 ho.out he.out hbase hfew hline hst hplain hs⟩
def ja (ho:Bx (PXm X o px)) (hi:Bx (PEd X i gi)) (he:Bx (PVm X e fv)) (hbase:attributeBase o "insert" X.env (eval o X.env)=eval o X.env:=by rfl) (hfew:((backTo cpos (starEach [i,e] X.env)).all (λ x=>!x.1)&&(backToKw cpos (keywordEach [] X.env)).all (λ x=>x.1.isSome)
 && decide ([i,e].length+([]:List Keyword).length+(if ([]:List Keyword).isEmpty then 0 else 1) < 30))=true:=by rfl) (hline:(apos.endLine == cpos.line)=true:=by rfl) (hst:starEach [i,e] X.env=(false,eval i X.env)::starEach [e] X.env:=by rfl) (hst2:starEach [e] X.env=(false,eval e X.env)::starEach [] X.env:=by rfl) (hplain:(backTo cpos (starEach [e] X.env)).any (·.1)=false:=by rfl) (hs:swapsWith (.Call (.Attribute o "insert" apos) [i,e] [] cpos) none pos.line X.env=pure false:=by rfl):Bx (PSm X (.Expr (.Call (.Attribute o "insert" apos) [i,e] [] cpos) pos) (yD px gi fv)):=⟨B3 ho.out hi.out he.out hbase hfew hline hst hst2 hplain hs⟩
def pA (ho:Bx (PXm X o px)) (he:Bx (PEd X e g)) (hbase:attributeBase o "remove" X.env (eval o X.env)=eval o X.env:=by rfl) (hfew:((backTo cpos (starEach [e] X.env)).all (λ x=>!x.1)&&(backToKw cpos (keywordEach [] X.env)).all (λ x=>x.1.isSome)
 && decide ([e].length+([]:List Keyword).length+(if ([]:List Keyword).isEmpty then 0 else 1) < 30))=true:=by rfl) (hline:(apos.endLine == cpos.line)=true:=by rfl) (hst:starEach [e] X.env=(false,eval e X.env)::starEach [] X.env:=by rfl) (hplain:(backTo cpos (starEach [] X.env)).any (·.1)=false:=by rfl) (hs:swapsWith (.Call (.Attribute o "remove" apos) [e] [] cpos) none pos.line X.env=pure false:=by rfl):Bx (PSm X (.Expr (.Call (.Attribute o "remove" apos) [e] [] cpos) pos) (vg px g)):=⟨B1 ho.out he.out hbase hfew hline hst hplain hs⟩
def xW (m:M1 X o "pop" apos e cpos) (ho:Bx (PXm X o px)) (he:Bx (PEd X e gk)) (hs:swapsWith (.Call (.Attribute o "pop" apos) [e] [] cpos) none pos.line X.env=pure false:=by rfl):Bx (PSm X (.Expr (.Call (.Attribute o "pop" apos) [e] [] cpos) pos) (yC px gk)):=⟨B2 ho.out he.out m hs⟩
def bL (h:Bx (PEd X e g)):Bx (PQm X e (qN g)):=⟨Nm h.out⟩
def hG (h:Bx (PXm X e f)):Bx (PQm X e (qX f)):=⟨Nl h.out⟩
def bN  : Bx (PAm X [] yi):=⟨CL ⟩
def ax (h1:Bx (PQm X e h)) (h2:Bx (PAm X es g)) (hs:Se X e es:=by rfl):Bx (PAm X (e::es) (cc h g)):=⟨zB h1.out h2.out hs⟩
def lN (Fo:Go X.prog X.w X.K X.mg X.base k x (spM F X.K)) (hr:dW jj X.A) (ha:Bx (PAm X (e::es) g)) (hj:k<=jj:=by decide) (hg:Gl X x:=by rfl) (hdb:Dg x:=by decide) (he:Se X e es:=by rfl) (hpl:Sb X pos es:=by rfl):Bx (PEm X (.Call (.Name x p) (e::es) [] pos) (eC F g)):=by
 have ⟨f',fd',ps',hm,hk,hb,Fo⟩:=Fo.go;have hr:=hr.mono hj;exact ⟨Cr Fo hr hg hm hk hb ha.out hdb he hpl⟩
def cX (c:Cls X.K C) (Fo:GoM X.prog X.w X.K X.mg X.base k C m (spM F X.K)) (hr:dW jj X.A) (ho:Bx (PXm X o fx)) (ha:Bx (PAm X (e::es) g)) (hj:k<=jj:=by decide) (hst:Se X e es:=by rfl) (hpl:Sb X pos es:=by rfl) (ht:eval (.Call (.Attribute o m apos) (e::es) [] pos) X.env=(do
  let ov <- eval o X.env
  standAt apos.atName
  let (f,first) <- holding [ov] (getMethod ov m pl)
  callWith pos f first (backTo pos (starEach (e::es) X.env)) (backToKw pos (keywordEach [] X.env))):=by rfl):Bx (PEm X (.Call (.Attribute o m apos) (e::es) [] pos) (eM C m F fx g)):=by
 have ⟨f',fd',ps',hm,hb,Fo⟩:=Fo.go;have hr:=hr.mono hj;exact ⟨Cp ho.out c hm Fo hr hb ha.out hst hpl ht⟩
def x5 (Fo:GoI X.prog X.w X.K X.mg X.base k C (spM F X.K)) (hr:dW jj X.A) (hm:X.mg x=some (.ref C)) (ha:Bx (PAm X (e::es) g)) (hj:k+1<=jj:=by decide) (hg:Gl X x:=by rfl) (hdb:Dg x:=by decide) (he:Se X e es:=by rfl) (hpl:Sb X pos es:=by rfl):Bx (PEm X (.Call (.Name x p) (e::es) [] pos) (eK C F g)):=by
 have ⟨f',fd',ps',M,hb,Fo⟩:=Fo.go;have hr:=hr.mono hj;exact ⟨Cq M Fo hr hg hm hb ha.out hdb he hpl⟩
def iu  : Bx (PVm X (.Dict [] [] pos) eD0):=⟨Jh ⟩
def mF (h:Bx (PEo X e g)):Bx (PVm X e (eF g)):=⟨Nt h.out⟩
def qP (hk:PE X kx (tC (kV kc))) (hv:Bx (PVm X value fv)):Bx (PVm X (.Dict [some kx] [value] pos) (eD1 kc fv)):=⟨Jg hk hv.out⟩
def fb (i:Nat) (hN:X.N.Nodup) (hi:X.N[i]?=some x:=by exact rfl) (hx:Loc X.env.scope x:=by walk_at "v") (hf:Xl X x:=by walk_at "v"):Bx (PGm X (.Name x pos) (gNm i)):=⟨zq hN hi hx hf⟩
def mG  : Bx (yp X [] lh):=⟨zo ⟩
def dF (h1:Bx (PGm X e g)) (h2:Bx (yp X es h)) (hs:(assignEach (e::es) X.env).map (·.2)=assign e X.env::(assignEach es X.env).map (·.2):=by rfl):Bx (yp X (e::es) (cO g h)):=⟨we h1.out h2.out hs⟩
def yb (h:Bx (yp X es g)) (hc:X.calm=true:=by rfl) (hn:(assignEach es X.env).length=n:=by rfl) (hst:(assignEach es X.env).findIdx? (·.1)=none:=by rfl):Bx (PGm X (.Tuple es k' pos) (gTm n g)):=⟨Cy hc h.out hn hst⟩
def xX (hi:Bx (PId X tg iter it)) (hg:Bx (PGm X tg g)) (hb:Bx (l8 X body b)) (hp:PassesOwn (model X.prog X.w) X.A X.env X.xe:=by exact .never) (hc:X.calm=true:=by rfl) (hs:Fs X iter:=by intro _; rfl):Bx (PSm X (.For tg iter body [] pos) (BA it g b)):=⟨B4 hp hc hi.out hg.out hb.out hs⟩
def uo (i:Nat) (hN:X.N[i]?=some x:=by exact rfl) (hv:Vis X.env.scope x:=by walk_at "w") (hd:Dg x:=by decide) (hcd:Dc x:=by decide):Bx (PTd X (.Name x p) (Aa i)):=⟨yO i hN hv hd hcd⟩
def mC (i j:Nat) (hN:X.N.Nodup) (hi:X.N[i]?=some x:=by exact rfl) (hj:X.N[j]?=some y:=by exact rfl) (hx:Loc X.env.scope x:=by walk_at "v") (hv:Vis X.env.scope y:=by walk_at "w") (hd:(y == ("__debug__":Str))=false:=by decide) (hcd:(y == ("__classdict__":Str))=false:=by decide) (hbase:attributeBase (.Name y py) "pop" X.env (eval (.Name y py) X.env)=eval (.Name y py) X.env:=by rfl) (hline:(apos.endLine == cpos.line)=true:=by rfl) (hs:swapsWith (.Call (.Attribute (.Name y py) "pop" apos) [] [] cpos) (some (.Name x pos')) pos.line X.env=pure false:=by rfl) (hf:Xl X x:=by walk_at "v"):Bx (PSd X (.Assign [.Name x pos'] (.Call (.Attribute (.Name y py) "pop" apos) [] [] cpos) pos) (pU i j)):=⟨zb i j hN hi hx hj hv hd hcd hbase hline hs hf⟩
def uv (hh:X.A.handled=none) (hm:X.mg "list"=none) (he:Bx (PEd X e f)) (hg:Gl X "list":=by rfl) (hv:bootBuiltins "list"=some (.type "list"):=by decide +kernel) (hst:starEach [e] X.env=(false,eval e X.env)::starEach [] X.env:=by rfl) (hpl:(backTo pos (starEach [] X.env)).any (·.1)=false:=by rfl):Bx (PEo X (.Call (.Name "list" p) [e] [] pos) (xM f)):=⟨zj hh hg hm hv he.out hst hpl⟩
def qO (hN:X.N.Nodup) (O:cf X scope cl x cs) (hy:X.N[j]?=some y:=by exact rfl) (hz:X.N[i]?=some z:=by exact rfl) (hcd:∀ s H fp C,Bx (PTd (bf X scope cl (x::cs.map (·.1)) s H fp C) cnd c):=by intros; walk_at "h") (he:∀ s H fp C,Bx (PEd (bf X scope cl (x::cs.map (·.1)) s H fp C) elt g):=by intros; walk_at "g") (hx:Loc X.env.scope y:=by walk_at "v") (hv:Vis X.env.scope z:=by walk_at "w") (hc:X.calm=true:=by rfl) (hd:(z == ("__debug__":Str))=false:=by decide) (hcl:(z == ("__classdict__":Str))=false:=by decide) (hs:∀ x,foldedSetIterable (.Name z pz) X.env x=pure x:=by intro _; rfl) (hsw:swapsWith (.ListComp elt [⟨.Name x px,.Name z pz,[cnd],0⟩] scope pos) (some (.Name y py)) spos.line X.env=pure true:=by rfl) (hf:Xl X y:=by walk_at "v"):Bx (PSm X (.Assign [.Name y py] (.ListComp elt [⟨.Name x px,.Name z pz,[cnd],0⟩] scope pos) spos) (vm j i c g cs)):=⟨vV hN hy hx hz hv hc O (λ s H fp C=>(hcd s H fp C).out) (λ s H fp C=>(he s H fp C).out) hd hcl hs hsw hf⟩
def lK (i:Nat) (hN:X.N.Nodup) (O:cf X scope cl x cs) (hy:X.N[i]?=some y:=by exact rfl) (hi:Bx (PId X (.Name x px) iter it)) (hcd:∀ s H fp C,Bx (PTd (bf X scope cl (x::cs.map (·.1)) s H fp C) cnd c):=by intros; walk_at "h") (he:∀ s H fp C,Bx (PEd (bf X scope cl (x::cs.map (·.1)) s H fp C) elt g):=by intros; walk_at "g") (hx:Loc X.env.scope y:=by walk_at "v") (hc:X.calm=true:=by rfl) (hs:Fs X iter:=by intro _; rfl) (hsw:swapsWith (.ListComp elt [⟨.Name x px,iter,[cnd],0⟩] scope pos) (some (.Name y py)) spos.line X.env=pure true:=by rfl) (hf:Xl X y:=by walk_at "v"):Bx (PSm X (.Assign [.Name y py] (.ListComp elt [⟨.Name x px,iter,[cnd],0⟩] scope pos) spos) (fT i (eO (gZ it c g cs)))):=⟨vP hN hy hx hc O hi.out (λ s H fp C=>(hcd s H fp C).out) (λ s H fp C=>(he s H fp C).out) hs hsw hf⟩
def pw (i:Nat) (hN:X.N.Nodup) (O:cf X scope cl x cs) (hy:X.N[i]?=some y:=by exact rfl) (hi:Bx (PId X (.Name x px) iter it)) (hcd:∀ s H fp C,Bx (PTd (bf X scope cl (x::cs.map (·.1)) s H fp C) cnd c):=by intros; walk_at "h") (he:∀ s H fp C,Bx (PEd (bf X scope cl (x::cs.map (·.1)) s H fp C) elt g):=by intros; walk_at "g") (hx:Loc X.env.scope y:=by walk_at "v") (hc:X.calm=true:=by rfl) (hs:Fs X iter:=by intro _; rfl) (hsw:swapsWith (.ListComp elt [⟨.Name x px,iter,[cnd],0⟩] scope pos) (some (.Name y py)) spos.line X.env=pure true:=by rfl) (hf:Xl X y:=by walk_at "v"):Bx (PSm X (.Assign [.Name y py] (.ListComp elt [⟨.Name x px,iter,[cnd],0⟩] scope pos) spos) (fT i (eF (gZ it c g cs)))):=⟨tD hN hy hx hc O hi.out (λ s H fp C=>(hcd s H fp C).out) (λ s H fp C=>(he s H fp C).out) hs hsw hf⟩
def qL (hu:X.A.units+1 < cLine) (hd:PE X (.Name d pd) (Bn i)) (hx:PE X (.Name x px) (Bn j)) (hf:PE X (.Name f pf) (Bn i2)) (hk1:Bx (PEd X k1 gk1)) (hk2:Bx (PEd X k2 gk2)) (h2:Bx (PAd X es g2)) (h3:Bx (PEd X e3 g3)) (hsA:swapsWith (.Name x px) (some (.Subscript (.Name d pd) k1 ps1)) posA.line X.env=pure false:=by rfl) (hsB:swapsWith (.Tuple es x1 pt) (some (.Subscript (.Name f pf) k2 ps2)) posB.line X.env=pure false:=by rfl):Bx (l8 X [.Assign [.Subscript (.Name d pd) k1 ps1] (.Name x px) posA,.Assign [.Subscript (.Name f pf) k2 ps2] (.Tuple es x1 pt) posB,.Return (some e3) posC] (sV i j gk1 i2 gk2 g2 g3)):=⟨vM hu hd hk1.out hx hf hk2.out h2.out h3.out hsA hsB⟩
def x4 (h:Bx (PEo X e g)):Bx (PVm X e (eON g)):=⟨Jf h.out⟩
def xV (he:Bx (PXm X e px)) (hg:Bx (yp X es g)) (hc:X.calm=true:=by rfl) (hn:(assignEach es X.env).length=n:=by rfl) (hst:(assignEach es X.env).findIdx? (·.1)=none:=by rfl) (hs:swapsWithSole [.Tuple es k' pos'] e pos.line X.env=pure false:=by rfl) (hw:swappedStores [.Tuple es k' pos'] e X.env=pure none:=by rfl) (h1:(assignEach [.Tuple es k' pos'] X.env).map (·.2)=[assign (.Tuple es k' pos') X.env]:=by rfl):Bx (PSm X (.Assign [.Tuple es k' pos'] e pos) (tp n px g)):=⟨BY hc he.out hg.out hn hst hs hw h1⟩
def gQ (ho:Bx (PXm X o px)) (hi:Bx (PEd X i gi)) (hv:Bx (PEm X value fv)) (ha:∀ v,assign (.Subscript o i pos') X.env v=(do
 let ov <- holding [v] (eval o X.env)
 let iv <- holding [v,ov] (eval i X.env)
 standAt pos'
 holding [v,ov,iv] (setItem ov iv v)
 release [v,ov,iv] []):=by intro _; rfl) (hs:swapsWithSole [.Subscript o i pos'] value pos.line X.env=pure false:=by rfl) (hw:swappedStores [.Subscript o i pos'] value X.env=pure none:=by rfl) (h1:(assignEach [.Subscript o i pos'] X.env).map (·.2)=[assign (.Subscript o i pos') X.env]:=by rfl):Bx (PSm X (.Assign [.Subscript o i pos'] value pos) (rf px gi fv)):=⟨yV ho.out hi.out hv.out ha hs hw h1⟩
def qM (hN:X.N.Nodup) (n2:jx≠i) (hz:X.N[i]?=some z:=by exact rfl) (hx:X.N[jx]?=some x:=by exact rfl) (ht:Bx (PTd X c t)) (hk:Bx (PEd X k g)) (hp:PassesOwn (model X.prog X.w) X.A X.env X.xe:=by exact .never) (hc:X.calm=true:=by rfl) (hv:Vis X.env.scope z:=by walk_at "w") (lx:Loc X.env.scope x:=by walk_at "v") (hd:(z == ("__debug__":Str))=false:=by decide) (hcl:(z == ("__classdict__":Str))=false:=by decide) (hs:∀ x,foldedSetIterable (.Name z pz) X.env x=pure x:=by intro _; rfl) (hfx:Xl X x:=by walk_at "v"):Bx (PSm X (.For (.Name x px) (.Name z pz) [.If c [.Return (some k) rpos] [] ipos] [] pos) (vj i jx t)):=⟨vT hp hc hz hv hN hx lx n2 ht.out hk.out hd hcl hs hfx⟩
def ur (hh:X.A.handled=none) (hm:X.mg "sorted"=none) (he:Bx (PEd X e f)) (hg:Gl X "sorted":=by rfl) (hst:starEach [e] X.env=(false,eval e X.env)::starEach [] X.env:=by rfl) (hpl:(backTo pos (starEach [] X.env)).any (·.1)=false:=by rfl):Bx (PEo X (.Call (.Name "sorted" p) [e] [] pos) (sJ f)):=⟨zh hh hg hm he.out hst hpl⟩
def uu (hm:X.mg "sorted"=none) (he:Bx (PEd X e f)) (hg:Gl X "sorted":=by rfl) (hst:starEach [e] X.env=(false,eval e X.env)::starEach [] X.env:=by rfl) (hpl:(backTo pos (starEach [] X.env)).any (·.1)=false:=by rfl):Bx (PEo X (.Call (.Name "sorted" p) [e] [] pos) (sM f)):=⟨zi hg hm he.out hst hpl⟩
def Ai (hm:X.mg x=none) (hm2:X.mg y=none) (ha:Bx (PEd X a f)) (hc:X.calm=true:=by rfl) (hg:Gl X x:=by rfl) (hv:bootBuiltins x=some (.type "list"):=by decide +kernel) (hg2:Gl X y:=by rfl) (hv2:bootBuiltins y=some (.type "reversed"):=by decide +kernel) (hn:x≠"__name__":=by decide) (hdb:Dg x:=by decide) (hn2:y≠"__name__":=by decide) (hdb2:(y == ("__debug__":Str))=false:=by decide) (he:starEach [.Call (.Name y p2) [a] [] pos2] X.env=(false,eval (.Call (.Name y p2) [a] [] pos2) X.env)::starEach [] X.env:=by rfl) (hpl:(backTo pos (starEach [] X.env)).any (·.1)=false:=by rfl) (he2:starEach [a] X.env=(false,eval a X.env)::starEach [] X.env:=by rfl) (hpl2:(backTo pos2 (starEach [] X.env)).any (·.1)=false:=by rfl):Bx (PEo X (.Call (.Name x p) [.Call (.Name y p2) [a] [] pos2] [] pos) (Ls f)):=⟨Fh hc hg hm hv hg2 hm2 hv2 ha.out hn hdb hn2 hdb2 he hpl he2 hpl2⟩
def bH (ha:Bx (PEd X a f)) (hb:Bx (PEd X b g)):Bx (PEd X (.BinOp a .Add b pos) (dOp lV f g)):=jA JE ha hb
def D7 (ha:Bx (PEd X a f)) (hb:Bx (PEd X b g)):Bx (PEd X (.BinOp a .Sub b pos) (dOp Ho f g)):=jA Jx ha hb
def jU (ha:Bx (PEd X a f)) (hb:Bx (PEd X b g)):Bx (PEd X (.BinOp a .Mult b pos) (dOp uC f g)):=jA JB ha hb
def bB (ha:Bx (PEd X a f)) (hb:Bx (PEd X b g)):Bx (PEd X (.BinOp a .FloorDiv b pos) (dOp oDiv f g)):=jA JD ha hb
def bO (ha:Bx (PEd X a f)) (hb:Bx (PEd X b g)):Bx (PEd X (.BinOp a .Mod b pos) (dOp oMod f g)):=jA JC ha hb
def Ly (ha:Bx (PEd X a f)) (hb:Bx (PEd X b g)):Bx (PEd X (.BinOp a .Pow b pos) (dOp Hq f g)):=jA Jy ha hb
def D3 (ha:Bx (PEd X a f)) (hb:Bx (PEd X b g)):Bx (PTd X (.Compare a [.Lt] [b] pos) (dT (dOp oLt f g))):=cF Nv ha hb 
def Ha (ha:Bx (PEd X a f)) (hb:Bx (PEd X b g)):Bx (PTd X (.Compare a [.LtE] [b] pos) (dT (dOp oLe f g))):=cF F2 ha hb 
def pv (ha:Bx (PEd X a f)) (hb:Bx (PEd X b g)):Bx (PTd X (.Compare a [.Gt] [b] pos) (dT (dOp oGt f g))):=cF Nw ha hb 
def sQ (ha:Bx (PEd X a f)) (hb:Bx (PEd X b g)):Bx (PTd X (.Compare a [.IsNot] [b] pos) (dT (dOp m3 f g))):=cF F0 ha hb 
def Ob (ha:Bx (PEd X a f)) (hb:Bx (PEd X b g)) (hm:behindInMarks .In b=false:=by rfl): Bx (PEd X (.Compare a [.In] [b] pos) (dOp En f g)):=gS F3 ha hb hm
def Lx (ha:Bx (PEd X a f)) (hb:Bx (PEd X b g)) (hm:behindInMarks .In b=false:=by rfl): Bx (PTd X (.Compare a [.In] [b] pos) (dT (dOp En f g))):=cF F3 ha hb hm
def D8 (ha:Bx (PEd X a f)) (hb:Bx (PEd X b g)) (hm:behindInMarks .NotIn b=false:=by rfl): Bx (PEd X (.Compare a [.NotIn] [b] pos) (dOp ic f g)):=gS rH ha hb hm
def Ah (ha:Bx (PEd X a f)) (hb:Bx (PEd X b g)) (hm:behindInMarks .NotIn b=false:=by rfl): Bx (PTd X (.Compare a [.NotIn] [b] pos) (dT (dOp ic f g))):=cF rH ha hb hm
def He (ha:Bx (PEd X a f)) (hb:Bx (PEd X b g)) (hr:dW jj X.A:=by assumption):Bx (PEd X (.Compare a [.Eq] [b] pos) (dOp oEq f g)):=gS (LM hr.units) ha hb 
def fA (ha:Bx (PEd X a f)) (hb:Bx (PEd X b g)) (hr:dW jj X.A:=by assumption):Bx (PTd X (.Compare a [.Eq] [b] pos) (dT (dOp oEq f g))):=cF (LM hr.units) ha hb 
def yd (ha:Bx (PEd X a f)) (hb:Bx (PEd X b g)) (hr:dW jj X.A:=by assumption):Bx (PEd X (.Compare a [.NotEq] [b] pos) (dOp oNe f g)):=gS (LL hr.units) ha hb 
def dg (ha:Bx (PEd X a f)) (hb:Bx (PEd X b g)) (hr:dW jj X.A:=by assumption):Bx (PTd X (.Compare a [.NotEq] [b] pos) (dT (dOp oNe f g))):=cF (LL hr.units) ha hb 
def Bd (ha:Bx (PEd X a f)):Bx (PEd X (.UnaryOp .USub a pos) (dUn Hr f)):=D6 Jz ha
def bW (h:Bx (PEd X e f)) (he:Se X e []:=by rfl):Bx (PAd X [e] (aF f cK)):=fc h a9 he
def cP {e2:Expr} {f2:DE} (h:Bx (PEd X e f)) (h2:Bx (PEd X e2 f2)) (he:Se X e [e2]:=by rfl) (he2:Se X e2 []:=by rfl):Bx (PAd X [e,e2] (aF f (aF f2 cK))):=fc h (bW h2 he2) he
def uy {e2 e3:Expr} {f2 f3:DE} (h:Bx (PEd X e f)) (h2:Bx (PEd X e2 f2)) (h3:Bx (PEd X e3 f3)) (he:Se X e [e2,e3]:=by rfl) (he2:Se X e2 [e3]:=by rfl) (he3:Se X e3 []:=by rfl):Bx (PAd X [e,e2,e3] (aF f (aF f2 (aF f3 cK)))):=fc h (cP h2 h3 he2 he3) he
def j0 (i:Nat) {x:Str} {f:DE} {pos':Pos} (hN:X.N.Nodup) (he:Bx (PEd X e f)) (hi:X.N[i]?=some x:=by exact rfl) (hx:Loc X.env.scope x:=by walk_at "v") (hs:Sw X e x pos' pos:=by rfl) (hf:Xl X x:=by walk_at "v"):Bx (PSd X (.Assign [.Name x pos'] e pos) (ve i f)):=xZ i hN hi he hx hs hf
def Ic (mg:Str->Option Value) (x:Str) (i:Int):Prop:=∃ t,mg x=some (.int i t)
def Hc (h:Ic X.mg x i) (hg:Gl X x:=by rfl) (hd:(x == ("__debug__":Str))=false:=by decide):Bx (PEd X (.Name x pos) (dC (.int i))):=h.elim λ _ h=>⟨CI (v:=.int i) hg h ⟨_,rfl⟩ (λ _=>.int _) hd⟩
def ckN {X:Cx} {scope:Scope} {cl:List (Str×Addr)} {x:Str} (cs:List (Str×Nat)) (h0:closureFor scope X.env=pure cl:=by rfl) (h1:scope.kind=.function:=by rfl) (h2:(scope.names.all λ y=>!(y.2 == .cell))=true:=by rfl)
 (h3:(scope.names.all λ y=>!(y.2 == .local)||(scope.names.lookup y.1 == some .local))=true:=by rfl) (h4:scope.names.lookup x=some .local:=by rfl) (h5:Es X cl:=by repeat' first | exact trivial | rfl | constructor)
 (h6:((relabel scope X.env).names.all λ p=>!(p.2 == .cell||p.2 == .free)||(cl.lookup p.1).isSome)=true:=by rfl)
 (h7:AllP X scope cs:=by repeat' first | exact trivial | rfl | constructor) (h8:(x::cs.map (·.1)).Nodup:=by decide +kernel):cf X scope cl x cs:=D0 cs h0 h1 h2 h3 h4 h5 h6 h7 h8
def ck0 {X:Cx} {scope:Scope} {x:Str} (h1:scope.kind=.function:=by rfl) (h2:∀ y ∈ scope.names,y.2≠.cell:=by decide +kernel) (h3:∀ y ∈ scope.names,y.2≠.free:=by decide +kernel) (h4:∀ y ∈ scope.names,y.2=.local->scope.names.lookup y.1=some .local:=by decide +kernel) (h5:scope.names.lookup x=some .local:=by rfl):cf X scope [] x []:=D2 h1 h2 h3 h4 h5
section
variable {P:Program} {w:World} {K:W.Frag} {mg:Str->Option Value} {base:Heap} {x q:Str} {st:Stmt} {ps:List Str} {k:Nat} {C:Addr}
abbrev Bdy (P:Program) (w:World) (K:W.Frag) (mg:Str->Option Value) (base:Heap) (k:Nat) (q:Str) (st:Stmt) (N:List Str) (J:Cx->List Stmt->Prop):Prop:=∀ {cdv:Value} {A:Around} {outer:List Env} {s:Shared} {H:Hp} {E:XK} {f:Addr},dW k (A.deeper (envOfC q (aH st) s.heap.objs.size f cdv))->N.Nodup->Bx (J (Ac CX0 P w K mg base N q (aH st) f cdv A outer s H E).nox (bR st))
def oD (N:List Str) {b:DS} (D:Df K mg x st ps) (h:Bdy P w K mg base k x st N λ X b'=>nM X b' b) (S:dO N ps (aH st):=by exact ⟨rfl,rfl,rfl,by decide +kernel,rfl,by decide +kernel,by decide +kernel⟩):Go P w K mg base (k+1) x (spF (fO N.length ps.length b) K) :=
 have ⟨a,d,F,m,bi⟩:=D
 ⟨a,d,ps,m,F.kp,bi,F.okD S λ cdv A outer s H E hr=>(h hr S.nd).out⟩
def oDm (N:List Str) {b:DS} (D:Mf K C x q st ps) (h:Bdy P w K mg base k q st N λ X b'=>nM X b' b) (S:dO N ps (aH st):=by exact ⟨rfl,rfl,rfl,by decide +kernel,rfl,by decide +kernel,by decide +kernel⟩):GoM P w K mg base (k+1) C x (spF (fO N.length ps.length b) K) :=
 have ⟨a,d,F,m,bi⟩:=D
 ⟨a,d,ps,m,bi,F.okD S λ cdv A outer s H E hr=>(h hr S.nd).out⟩
def oM (N:List Str) {b:DSm} (D:Df K mg x st ps) (h:Bdy P w K mg base k x st N λ X b'=>l8 X b' b) (S:dO N ps (aH st):=by exact ⟨rfl,rfl,rfl,by decide +kernel,rfl,by decide +kernel,by decide +kernel⟩):Go P w K mg base (k+1) x (spM (jd N.length ps.length b) K) :=
 have ⟨a,d,F,m,bi⟩:=D
 ⟨a,d,ps,m,F.kp,bi,F.okM S λ cdv A outer s H E hr=>(h hr S.nd).out⟩
def oMm (N:List Str) {b:DSm} (D:Mf K C x q st ps) (h:Bdy P w K mg base k q st N λ X b'=>l8 X b' b) (S:dO N ps (aH st):=by exact ⟨rfl,rfl,rfl,by decide +kernel,rfl,by decide +kernel,by decide +kernel⟩):GoM P w K mg base (k+1) C x (spM (jd N.length ps.length b) K) :=
 have ⟨a,d,F,m,bi⟩:=D
 ⟨a,d,ps,m,bi,F.okM S λ cdv A outer s H E hr=>(h hr S.nd).out⟩
def oMi (N:List Str) {b:DSm} (D:If K C q st ps) (h:Bdy P w K mg base k q st N λ X b'=>l8 X b' b) (S:dO N ps (aH st):=by exact ⟨rfl,rfl,rfl,by decide +kernel,rfl,by decide +kernel,by decide +kernel⟩):GoI P w K mg base (k+1) C (spM (jd N.length ps.length b) K) :=
 have ⟨a,d,F,m,bi⟩:=D
 ⟨a,d,ps,m,bi,F.okM S λ cdv A outer s H E hr=>(h hr S.nd).out⟩
def oLM (N:List Str) {b:DSm} {a:Addr} {d:FuncData} (F:Fun K x x st a d) (h:Bdy P w K mg base k x st N λ X b'=>l8 X b' b) (S:dO N ps (aH st):=by exact ⟨rfl,rfl,rfl,by decide +kernel,rfl,by decide +kernel,by decide +kernel⟩):jf P w K mg base CX0 (k+1) a d ps (spM (jd N.length ps.length b) K):=F.okM S λ cdv A outer s H E hr=>(h hr S.nd).out
def Fn0.df {f:Addr} {h:Heap} (e:Fn0 K x st f) (X:K.In h) (G:h.Ns mainGlobals mg) (hb:∀ (kV doc pm:Value) (an:Option Addr) (cdv ct:Value) (us:List Value),us.length=ps.length->bindArgs (PySem.W.fnOf x x (cD st) (bR st) (aH st) .none kV doc pm an cdv ct) ⟨us,[]⟩=pure (ps.zip us)):Df K mg x st ps :=
 have ⟨d,F,m,b⟩:=e.mk X G hb
 ⟨f,d,F,m,b⟩
def Dp {f:Addr} {oc:Value} {od an:Option Addr} {osl:Array (Option Value)} {kV doc pm cdv ct:Value} (a:W.findIn K (.ref C) x=some (some (.ref f))) (i:PySem.W.isFn K (.ref f)=true) (l:K.lookup f=some ⟨oc,od,.func (PySem.W.fnOf x q (cD st) (bR st) (aH st) .none kV doc pm an cdv ct),osl⟩) (c:PySem.W.codeIn K cdv q=true) (k:W.keepIn K (.ref f)=true) (hb:∀ (kV doc pm:Value) (an:Option Addr) (cdv ct:Value) (us:List Value),us.length=ps.length->bindArgs (PySem.W.fnOf x q (cD st) (bR st) (aH st) .none kV doc pm an cdv ct) ⟨us,[]⟩=pure (ps.zip us)):Mf K C x q st ps :=
 ⟨f,_,lq (st:=st) l c k,⟨a,i,k⟩,(lq (st:=st) l c k).binds hb⟩
def K7 {f:Addr} {oc:Value} {od an:Option Addr} {osl:Array (Option Value)} {kV doc pm cdv ct:Value} (a:W.findIn K (.ref C) "__init__"=some (some (.ref f))) (i:PySem.W.isFn K (.ref f)=true) (l:K.lookup f=some ⟨oc,od,.func (PySem.W.fnOf "__init__" q (cD st) (bR st) (aH st) .none kV doc pm an cdv ct),osl⟩) (c:PySem.W.codeIn K cdv q=true) (k:W.keepIn K (.ref f)=true) (mk:PySem.W.makesIn K C=true) (kc:W.keepIn K (.ref C)=true) (hb:∀ (kV doc pm:Value) (an:Option Addr) (cdv ct:Value) (us:List Value),us.length=ps.length->bindArgs (PySem.W.fnOf "__init__" q (cD st) (bR st) (aH st) .none kV doc pm an cdv ct) ⟨us,[]⟩=pure (ps.zip us)):If K C q st ps :=
 ⟨f,_,lq (st:=st) l c k,⟨mk,a,i,kc⟩,(lq (st:=st) l c k).binds hb⟩
def Lf (K:W.Frag) (mg:Str->Option Value) (x:Str) (st:Stmt) (y:Str):Prop:=∃ a d,Fun K x x st a d/\mg x=some (.ref a)/\∀ (s:Shared) (u:Value),BindsTo s d ⟨[u],[]⟩ [(y,u)]
def K2 {f:Addr} {y:Str} {h:Heap} (e:Fn0 K x st f) (X:K.In h) (G:h.Ns mainGlobals mg) (hb:∀ (kV doc pm:Value) (an:Option Addr) (cdv ct:Value) (s:Shared) (u:Value),BindsTo s (PySem.W.fnOf x x (cD st) (bR st) (aH st) .none kV doc pm an cdv ct) ⟨[u],[]⟩ [(y,u)]):Lf K mg x st y:=by
 obtain ⟨od,an,sl,oc,kV,dc,pm,cd,ct,a,l,c,k⟩:=e;exact ⟨_,_,lq (st:=st) l c k,PySem.W.mg_of X G a,hb _ _ _ _ _ _⟩
end
end L2
end
section
local macro_rules | `(tactic| walk_at "v")=>`(tactic| first | exact .inl rfl | exact .inr rfl | assumption)
local macro_rules | `(tactic| walk_at "w")=>`(tactic| first | exact .inl rfl | exact .inr (.inl rfl) | exact .inr (.inr rfl))
namespace N10
open PySem L2
def top (i:Nat):Stmt:=PySem.Challenge.pw_stylehouse_k10_borne.main.body.getD i (.Pass ⟨0,0,0,0⟩)
structure Adr where
 af:Addr
structure Txt (K:W.Frag) (mg:Str->Option Value) (t:Adr):Prop where
 Gh:mg "Tree"=some (.ref t.af)
 av:Cls K t.af
 fu:cG K t.af "given"
 c9:cG K t.af "names"
 bY:cG K t.af "holders"
 bg:cG K t.af "boxes"
 bM:cG K t.af "marks"
 cC:cG K t.af "words"
 cS:cG K t.af "rows"
 xv:Df K mg "is_name" (top 10) ["thing"]
 oT:Df K mg "_law_whole" (top 27) ["_law_found"]
 oP:Df K mg "check_name" (top 20) ["name"]
 Ln:Lf K mg "law" (top 38) "_law_script"
 nr:Df K mg "check_place" (top 21) ["place","row"]
 qy:Df K mg "_law_cell" (top 23) ["_law_script","_law_k"]
 ue:Df K mg "_law_mix" (top 24) ["_law_cell_here","_law_way"]
 oU:Df K mg "_law_under" (top 29) ["_law_rows","_law_box"]
 qw:Df K mg "_law_deep" (top 30) ["_law_facts","_law_box"]
 qv:Df K mg "_law_name" (top 25) ["_law_cell_here","_law_way"]
 lu:Df K mg "_law_same_row" (top 28) ["_law_found","_law_due"]
 qt:Df K mg "_law_text" (top 33) ["_law_cell_here","_law_way"]
 xw:Df K mg "beneath" (top 12) ["tree","box"]
 oO:Df K mg "holders_of" (top 13) ["tree","box"]
 qu:Df K mg "_law_pool" (top 26) ["_law_script","_law_at"]
 ub:Df K mg "depth_of" (top 14) ["tree","box"]
 oS:Df K mg "_law_words" (top 34) ["_law_cell_here","_law_way","_law_words_here"]
 ud:Df K mg "_law_own" (top 35) ["_law_cell_here","_law_way","_law_own_here"]
 oW:Df K mg "_law_bears" (top 37) ["_law_tree","_law_borne","_law_box"]
 oV:Df K mg "_law_moved" (top 32) ["_law_tree","_law_rows","_law_facts","_law_cell_here","_law_way"]
 qx:Df K mg "_law_deed" (top 36) ["_law_tree","_law_box","_law_borne","_law_word","_law_cell_here","_law_way"]
 uc:Df K mg "_law_put" (top 31) ["_law_tree","_law_rows","_law_facts","_law_number","_law_cell_here","_law_way"]
 lD:If K t.af "Tree.__init__" (inClass (top 19) 0) ["self","name"]
 pb:Mf K t.af "check" "Tree.check" (inClass (top 19) 2) ["self","box"]
 lB:Mf K t.af "marks_of" "Tree.marks_of" (inClass (top 19) 12) ["self","box"]
 lA:Mf K t.af "words_of" "Tree.words_of" (inClass (top 19) 13) ["self","box"]
 l5:Mf K t.af "rows_of" "Tree.rows_of" (inClass (top 19) 14) ["self","box"]
 jZ:Mf K t.af "holder_of" "Tree.holder_of" (inClass (top 19) 15) ["self","box"]
 lC:Mf K t.af "boxes_of" "Tree.boxes_of" (inClass (top 19) 16) ["self","box"]
 oY:Mf K t.af "enter" "Tree.enter" (inClass (top 19) 1) ["self","holder","name"]
 oX:Mf K t.af "write" "Tree.write" (inClass (top 19) 8) ["self","box","words"]
 oZ:Mf K t.af "dress" "Tree.dress" (inClass (top 19) 9) ["self","box","rows"]
 qA:Mf K t.af "mark" "Tree.mark" (inClass (top 19) 6) ["self","box","word"]
 qB:Mf K t.af "bare" "Tree.bare" (inClass (top 19) 7) ["self","box","word"]
 uf:Mf K t.af "put" "Tree.put" (inClass (top 19) 3) ["self","holder","place","name"]
 qz:Mf K t.af "move" "Tree.move" (inClass (top 19) 5) ["self","box","holder","place"]
 Iq:mg "all"=none
 uH:mg "bool"=none
 pP:mg "enumerate"=none
 Ip:mg "int"=none
 bX:mg "isinstance"=none
 dX:mg "len"=none
 eG:mg "list"=none
 Et:mg "max"=none
 Io:mg "min"=none
 ki:mg "range"=none
 eE:mg "reversed"=none
 qV:mg "sorted"=none
 Im:mg "str"=none
 mM:mg "tuple"=none
 l0:Ic mg "LONGEST_NAME" 8
 oo:Ic mg "MOST_BOXES" 90
 kW:Ic mg "MOST_DEEP" 12
 Gi:Ic mg "ROOT" 0
abbrev gOD (f:∀ (P:Program) (w:World) (K:W.Frag) (mg:Str->Option Value) (base:Heap),DS->Prop) (t:Adr):Type:={G:DS // ∀ {P w K mg base},Txt K mg t->f P w K mg base G}
abbrev gO0 (f:∀ (P:Program) (w:World) (K:W.Frag) (mg:Str->Option Value) (base:Heap),DS->Prop):Type:={G:DS // ∀ {t P w K mg base},Txt K mg t->f P w K mg base G}
abbrev gFD (k:Nat) (x:Str) (n m:Nat) (P:Program) (w:World) (K:W.Frag) (mg:Str->Option Value) (base:Heap) (G:DS):Prop:=Go P w K mg base k x (spF (fO n m G) K)
abbrev gMD (k:Nat) (C:Addr) (x:Str) (n m:Nat) (P:Program) (w:World) (K:W.Frag) (mg:Str->Option Value) (base:Heap) (G:DS):Prop:=GoM P w K mg base k C x (spF (fO n m G) K)
abbrev gOM (f:∀ (P:Program) (w:World) (K:W.Frag) (mg:Str->Option Value) (base:Heap),DSm->Prop) (t:Adr):Type:={G:DSm // ∀ {P w K mg base},Txt K mg t->f P w K mg base G}
abbrev gFM (k:Nat) (x:Str) (n m:Nat) (P:Program) (w:World) (K:W.Frag) (mg:Str->Option Value) (base:Heap) (G:DSm):Prop:=Go P w K mg base k x (spM (jd n m G) K)
abbrev gMM (k:Nat) (C:Addr) (x:Str) (n m:Nat) (P:Program) (w:World) (K:W.Frag) (mg:Str->Option Value) (base:Heap) (G:DSm):Prop:=GoM P w K mg base k C x (spM (jd n m G) K)
abbrev gIM (k:Nat) (C:Addr) (n m:Nat) (P:Program) (w:World) (K:W.Frag) (mg:Str->Option Value) (base:Heap) (G:DSm):Prop:=GoI P w K mg base k C (spM (jd n m G) K)
section
variable {P:Program} {w:World} {K:W.Frag} {mg:Str->Option Value} {base:Heap} {t:Adr}
set_option maxHeartbeats 4000000
noncomputable def lR:gO0 (gFD 1 "is_name" 1 1):=⟨_,λ T=>oD ["thing"] T.xv λ hr nd =>
 (ag (bu (cE (dA (az qJ T.bX (cP (aa 0) (iw (n:="str") T.Im))))) (ak (aL bp)) aP) (ag (bu (cE (lI F2 F2 ae (az gX T.dX (bW (aa 0))) (Hc T.l0))) (ak (aL bp)) aP) (ak (aL (az (Lv rfl) T.Iq (bW (aW (eZ ck0 (ya (aa 0)) (λ _ _ _ _=>(ux F1 F1 bI (aa 0) bI))))))))))⟩
noncomputable def lT:=fO 1 1 (lR).1
def wz (T:Txt K mg t):Go P w K mg base 1 "is_name" (spF (lT) K):=(lR).2 T
noncomputable def gu (t:Adr):gOM (gMM 1 t.af "enter" 4 3) t:=⟨_,λ T=>oMm ["self","holder","name","box"] T.oY λ hr nd =>
 (ab (ay 3 nd (he:=ai (gf (bJ T.av T.fu (aa 0))))) (ab (cW T.av T.fu (au 0) (ai (aK (bH (aa 3) ae)))) (ab (ba (cN hr) (bV T.av T.c9 (au 0)) (aa 3) (ai (aK (aa 2)))) (ab (ba (cN hr) (bV T.av T.bY (au 0)) (aa 3) (ai (aK (aa 1)))) (ab (ba (cN hr) (bV T.av T.bg (au 0)) (aa 3) (ai (mE (bw a9)))) (ab (ba (cN hr) (bV T.av T.bM (au 0)) (aa 3) (ai iu)) (ab (ba (cN hr) (bV T.av T.cC (au 0)) (aa 3) (ai (mE (bw a9)))) (ab (ba (cN hr) (bV T.av T.cS (au 0)) (aa 3) (ai (aK (b9 a9)))) (ar (aQ (ai (aK (aa 3)))))))))))))⟩
noncomputable def gF (t:Adr):=jd 4 3 (gu t).1
def jP (T:Txt K mg t):GoM P w K mg base 1 t.af "enter" (spM (gF t) K):=(gu t).2 T
noncomputable def gy (t:Adr):gOD (gMD 1 t.af "check" 2 2) t:=⟨_,λ T=>oDm ["self","box"] T.pb λ hr nd =>
 (ak (bu (jT hr.units rfl (aa 1) (bJ T.av T.c9 (aa 0))) (ak ir) aP))⟩
noncomputable def d7 (t:Adr):=fO 2 2 (gy t).1
def aS (T:Txt K mg t):GoM P w K mg base 1 t.af "check" (spF (d7 t) K):=(gy t).2 T
noncomputable def fE:gO0 (gFD 1 "check_place" 2 2):=⟨_,λ T=>oD ["place","row"] T.nr λ hr nd =>
 (ak (bu (cE (lI F2 F2 ae (aa 0) (az gX T.dX (bW (aa 1))))) (ak ir) aP))⟩
noncomputable def fF:=fO 2 2 (fE).1
def iS (T:Txt K mg t):Go P w K mg base 1 "check_place" (spF (fF) K):=(fE).2 T
noncomputable def iE:gO0 (gFD 1 "_law_cell" 2 2):=⟨_,λ T=>oD ["_law_script","_law_k"] T.qy λ hr nd =>
 (ag (bu (D3 (aa 1) (az gX T.dX (bW (aa 0)))) (ak (aL (bz (aa 0) (aa 1)))) aP) (ak (aL ae)))⟩
noncomputable def iI:=fO 2 2 (iE).1
def ft (T:Txt K mg t):Go P w K mg base 1 "_law_cell" (spF (iI) K):=(iE).2 T
noncomputable def jD:gO0 (gFD 1 "_law_mix" 3 2):=⟨_,λ T=>oD ["_law_cell_here","_law_way","_law_first"] T.ue λ hr nd =>
 (ag (j0 2 nd (bO (bH (jU (aa 0) ae) (jU (aa 1) ae)) ae)) (ak (aL (bO (jU (aa 2) (bH ae (jU ae (aa 1)))) ae))))⟩
noncomputable def bC:=fO 3 2 (jD).1
def aN (T:Txt K mg t):Go P w K mg base 1 "_law_mix" (spF (bC) K):=(jD).2 T
noncomputable def jW:gO0 (gFD 1 "_law_whole" 1 1):=⟨_,λ T=>oD ["_law_found"] T.oT λ hr nd =>
 (ak (aL (gT (az qJ T.bX (cP (aa 0) (iw (n:="int") T.Ip))) (jb (Aj (az qJ T.bX (cP (aa 0) (iw (n:="bool") T.uH))))))))⟩
noncomputable def gC:=fO 1 1 (jW).1
def jO (T:Txt K mg t):Go P w K mg base 1 "_law_whole" (spF (gC) K):=(jW).2 T
noncomputable def gn (t:Adr):gOD (gFD 1 "_law_under" 5 2) t:=⟨_,λ T=>oD ["_law_rows","_law_box","_law_told","_law_todo","_law_one"] T.oU λ hr nd =>
 (ag (cv 2 nd (he:=bw a9)) (ag (cv 3 nd (he:=bw (bW (aa 1)))) (ag (fD (lJ 3 (pv (az gX T.dX (bW (aa 3))) ae)) (ag (mC 4 3 nd) (ag (dB 2 (he:=aa 4)) (ak (pC 3 (he:=aW (kf T.eG T.eE (aG hr.units (λ _ _=>rfl) (aa 0) (aa 4))))))))) (ak (jz 2)))))⟩
noncomputable def gD (t:Adr):=fO 5 2 (gn t).1
def nZ (T:Txt K mg t):Go P w K mg base 1 "_law_under" (spF (gD t) K):=(gn t).2 T
noncomputable def iC:gO0 (gFD 1 "_law_deep" 3 2):=⟨_,λ T=>oD ["_law_facts","_law_box","_law_deep_here"] T.qw λ hr nd =>
 (ag (j0 2 nd ae) (ag (fD (sQ (bz (aG hr.units (λ _ _=>rfl) (aa 0) (aa 1)) ae) kh) (ag (j0 1 nd (bz (aG hr.units (λ _ _=>rfl) (aa 0) (aa 1)) ae)) (ak (j0 2 nd (bH (aa 2) ae))))) (ak (aL (aa 2)))))⟩
noncomputable def cQ:=fO 3 2 (iC).1
def fo (T:Txt K mg t):Go P w K mg base 1 "_law_deep" (spF (cQ) K):=(iC).2 T
noncomputable def gs (t:Adr):gOM (gMM 2 t.af "write" 3 3) t:=⟨_,λ T=>oMm ["self","box","words"] T.oX λ hr nd =>
 (ab (aX (aV T.av (aS T) hr (aa 0) (bW (aa 1)))) (ab (a7 (bS (fA (aG hr.units (λ _ _=>rfl) (bJ T.av T.cC (aa 0)) (aa 1)) (aa 2))) (ar (aQ (ai (aK bp)))) aR) (ab (ba (cN hr) (bV T.av T.cC (au 0)) (aa 1) (ai (mE (eY T.eG (bW (aa 2)))))) (ar (aQ (ai (aK bp)))))))⟩
noncomputable def gE (t:Adr):=jd 3 3 (gs t).1
def oe (T:Txt K mg t):GoM P w K mg base 2 t.af "write" (spM (gE t) K):=(gs t).2 T
noncomputable def gw (t:Adr):gOM (gMM 2 t.af "dress" 3 3) t:=⟨_,λ T=>oMm ["self","box","rows"] T.oZ λ hr nd =>
 (ab (aX (aV T.av (aS T) hr (aa 0) (bW (aa 1)))) (ab (a7 (bS (cF (F4 hr.units) (aG hr.units (λ _ _=>rfl) (bJ T.av T.cS (aa 0)) (aa 1)) (aa 2))) (ar (aQ (ai (aK bp)))) aR) (ab (ba (cN hr) (bV T.av T.cS (au 0)) (aa 1) (ai (aK (aa 2)))) (ar (aQ (ai (aK bp)))))))⟩
noncomputable def gG (t:Adr):=jd 3 3 (gw t).1
def og (T:Txt K mg t):GoM P w K mg base 2 t.af "dress" (spM (gG t) K):=(gw t).2 T
noncomputable def dJ (t:Adr):gOD (gMD 2 t.af "marks_of" 2 2) t:=⟨_,λ T=>oDm ["self","box"] T.lB λ hr nd =>
 (ag (eX (aV T.av (aS T) hr (aa 0) (bW (aa 1)))) (ak (dq (ur hr.hd T.qV (aG hr.units (λ _ _=>rfl) (bJ T.av T.bM (aa 0)) (aa 1))))))⟩
noncomputable def dS (t:Adr):=fO 2 2 (dJ t).1
def kQ (T:Txt K mg t):GoM P w K mg base 2 t.af "marks_of" (spF (dS t) K):=(dJ t).2 T
noncomputable def dH (t:Adr):gOD (gMD 2 t.af "words_of" 2 2) t:=⟨_,λ T=>oDm ["self","box"] T.lA λ hr nd =>
 (ag (eX (aV T.av (aS T) hr (aa 0) (bW (aa 1)))) (ak (dq (eY T.eG (bW (aG hr.units (λ _ _=>rfl) (bJ T.av T.cC (aa 0)) (aa 1)))))))⟩
noncomputable def dR (t:Adr):=fO 2 2 (dH t).1
def kP (T:Txt K mg t):GoM P w K mg base 2 t.af "words_of" (spF (dR t) K):=(dH t).2 T
noncomputable def d9 (t:Adr):gOD (gMD 2 t.af "rows_of" 2 2) t:=⟨_,λ T=>oDm ["self","box"] T.l5 λ hr nd =>
 (ag (eX (aV T.av (aS T) hr (aa 0) (bW (aa 1)))) (ak (aL (aG hr.units (λ _ _=>rfl) (bJ T.av T.cS (aa 0)) (aa 1)))))⟩
noncomputable def ee (t:Adr):=fO 2 2 (d9 t).1
def lZ (T:Txt K mg t):GoM P w K mg base 2 t.af "rows_of" (spF (ee t) K):=(d9 t).2 T
noncomputable def c7 (t:Adr):gOD (gMD 2 t.af "holder_of" 2 2) t:=⟨_,λ T=>oDm ["self","box"] T.jZ λ hr nd =>
 (ag (eX (aV T.av (aS T) hr (aa 0) (bW (aa 1)))) (ak (aL (aG hr.units (λ _ _=>rfl) (bJ T.av T.bY (aa 0)) (aa 1)))))⟩
noncomputable def bQ (t:Adr):=fO 2 2 (c7 t).1
def fL (T:Txt K mg t):GoM P w K mg base 2 t.af "holder_of" (spF (bQ t) K):=(c7 t).2 T
noncomputable def dM (t:Adr):gOD (gMD 2 t.af "boxes_of" 2 2) t:=⟨_,λ T=>oDm ["self","box"] T.lC λ hr nd =>
 (ag (eX (aV T.av (aS T) hr (aa 0) (bW (aa 1)))) (ak (dq (eY T.eG (bW (aG hr.units (λ _ _=>rfl) (bJ T.av T.bg (aa 0)) (aa 1)))))))⟩
noncomputable def bK (t:Adr):=fO 2 2 (dM t).1
def dv (T:Txt K mg t):GoM P w K mg base 2 t.af "boxes_of" (spF (bK t) K):=(dM t).2 T
noncomputable def gj:gO0 (gFD 2 "check_name" 1 1):=⟨_,λ T=>oD ["name"] T.oP λ hr nd =>
 (ak (bu (cE (dA (ao (wz T) hr (bW (aa 0))))) (ak ir) aP))⟩
noncomputable def gA:=fO 1 1 (gj).1
def dZ (T:Txt K mg t):Go P w K mg base 2 "check_name" (spF (gA) K):=(gj).2 T
noncomputable def iB:gO0 (gFD 2 "_law_name" 4 2):=⟨_,λ T=>oD ["_law_cell_here","_law_way","_law_letters","_law_size"] T.qv λ hr nd =>
 (ag (j0 2 nd bI) (ag (j0 3 nd (bH ae (bO (ao (aN T) hr (cP (aa 0) (bH (aa 1) ae))) ae))) (ak (aL (pE bI (aW (eZ (ckN [("_law_letters",2),("_law_cell_here",0),("_law_way",1)]) (cY T.ki (bW (aa 3))) (λ _ _ _ _=>(bz (aa 1) (bO (ao (aN T) hr (cP (aa 2) (bH (aa 3) (jU ae (aa 0))))) ae))))))))))⟩
noncomputable def fG:=fO 4 2 (iB).1
def du (T:Txt K mg t):Go P w K mg base 2 "_law_name" (spF (fG) K):=(iB).2 T
noncomputable def dG:gO0 (gFD 2 "_law_same_row" 3 2):=⟨_,λ T=>oD ["_law_found","_law_due","_law_k"] T.lu λ hr nd =>
 (ag (bu (cb (gP (cE (dA (az qJ T.bX (cP (aa 0) (iw (n:="list") T.eG))))) (f9 (dg (az gX T.dX (bW (aa 0))) (az gX T.dX (bW (aa 1))))))) (ak (aL bp)) aP) (ag (pB (cY T.ki (bW (az gX T.dX (bW (aa 1))))) (mH 2 nd) (ak (bu (cb (gP (cE (dA (ao (jO T) hr (bW (bz (aa 0) (aa 2)))))) (f9 (dg (bz (aa 0) (aa 2)) (bz (aa 1) (aa 2)))))) (ak (aL bp)) aP))) (ak (aL bp))))⟩
noncomputable def cH:=fO 3 2 (dG).1
def kO (T:Txt K mg t):Go P w K mg base 2 "_law_same_row" (spF (cH) K):=(dG).2 T
noncomputable def iz:gO0 (gFD 2 "_law_text" 4 2):=⟨_,λ T=>oD ["_law_cell_here","_law_way","_law_signs","_law_size"] T.qt λ hr nd =>
 (ag (j0 2 nd bI) (ag (j0 3 nd (bH ae (bO (ao (aN T) hr (cP (aa 0) (aa 1))) ae))) (ag (bu (pv (bO (bB (ao (aN T) hr (cP (aa 0) (aa 1))) ae) ae) ae) (ak (j0 3 nd (bH ae (bO (aa 3) ae)))) aP) (ak (aL (pE bI (aW (eZ (ckN [("_law_signs",2),("_law_cell_here",0),("_law_way",1)]) (cY T.ki (bW (aa 3))) (λ _ _ _ _=>(bz (aa 1) (bO (ao (aN T) hr (cP (aa 2) (bH (bH (aa 3) ae) (jU ae (aa 0))))) ae)))))))))))⟩
noncomputable def dQ:=fO 4 2 (iz).1
def qe (T:Txt K mg t):Go P w K mg base 2 "_law_text" (spF (dQ) K):=(iz).2 T
noncomputable def lS (t:Adr):gOD (gFD 3 "beneath" 5 2) t:=⟨_,λ T=>oD ["tree","box","found","left","one"] T.xw λ hr nd =>
 (ag (cv 2 nd (he:=bw a9)) (ag (cv 3 nd (he:=kf T.eG T.eE (aV T.av (dv T) hr (aa 0) (bW (aa 1))))) (ag (fD (uo 3) (ag (mC 4 3 nd) (ag (dB 2 (he:=aa 4)) (ak (pC 3 (he:=aW (kf T.eG T.eE (aV T.av (dv T) hr (aa 0) (bW (aa 4)))))))))) (ak (jz 2)))))⟩
noncomputable def lU (t:Adr):=fO 5 2 (lS t).1
def wA (T:Txt K mg t):Go P w K mg base 3 "beneath" (spF (lU t) K):=(lS t).2 T
noncomputable def gh (t:Adr):gOD (gFD 3 "holders_of" 4 2) t:=⟨_,λ T=>oD ["tree","box","found","holder"] T.oO λ hr nd =>
 (ag (cv 2 nd (he:=bw a9)) (ag (j0 3 nd (aV T.av (fL T) hr (aa 0) (bW (aa 1)))) (ag (fD (sQ (aa 3) kh) (ag (dB 2 (he:=aa 3)) (ak (j0 3 nd (aV T.av (fL T) hr (aa 0) (bW (aa 3))))))) (ak (jz 2)))))⟩
noncomputable def gz (t:Adr):=fO 4 2 (gh t).1
def nX (T:Txt K mg t):Go P w K mg base 3 "holders_of" (spF (gz t) K):=(gh t).2 T
noncomputable def dN (t:Adr):gOM (gIM 3 t.af 2 2) t:=⟨_,λ T=>oMi ["self","name"] T.lD λ hr nd =>
 (ab (aX (ao (dZ T) hr (bW (aa 1)))) (ab (cW T.av T.fu (au 0) (ai (aK ae))) (ab (cW T.av T.c9 (au 0) (ai iu)) (ab (cW T.av T.bY (au 0) (ai iu)) (ab (cW T.av T.bg (au 0) (ai iu)) (ab (cW T.av T.bM (au 0) (ai iu)) (ab (cW T.av T.cC (au 0) (ai iu)) (ab (cW T.av T.cS (au 0) (ai iu)) (ar (uq (cX T.av (jP T) hr (au 0) (ax (bL kh) (ax (bL (aa 1)) bN)))))))))))))⟩
noncomputable def dU (t:Adr):=jd 2 2 (dN t).1
def kR (T:Txt K mg t):GoI P w K mg base 3 t.af (spM (dU t) K):=(dN t).2 T
noncomputable def iF (t:Adr):gOM (gMM 3 t.af "mark" 3 3) t:=⟨_,λ T=>oMm ["self","box","word"] T.qA λ hr nd =>
 (ab (aX (aV T.av (aS T) hr (aa 0) (bW (aa 1)))) (ab (aX (ao (dZ T) hr (bW (aa 2)))) (ab (a7 (bS (xU hr.units rfl (aa 2) (aG hr.units (λ _ _=>rfl) (bJ T.av T.bM (aa 0)) (aa 1)))) (ar (aQ (ai (aK bp)))) aR) (ab (ba (cN hr) (ck (cN hr) (λ _ _=>rfl) (bV T.av T.bM (au 0)) (aa 1)) (aa 2) (ai (aK bp))) (ar (aQ (ai (aK bp))))))))⟩
noncomputable def iK (t:Adr):=jd 3 3 (iF t).1
def qj (T:Txt K mg t):GoM P w K mg base 3 t.af "mark" (spM (iK t) K):=(iF t).2 T
noncomputable def iG (t:Adr):gOM (gMM 3 t.af "bare" 3 3) t:=⟨_,λ T=>oMm ["self","box","word"] T.qB λ hr nd =>
 (ab (aX (aV T.av (aS T) hr (aa 0) (bW (aa 1)))) (ab (aX (ao (dZ T) hr (bW (aa 2)))) (ab (a7 (bS (jT hr.units rfl (aa 2) (aG hr.units (λ _ _=>rfl) (bJ T.av T.bM (aa 0)) (aa 1)))) (ar (aQ (ai (aK bp)))) aR) (ab (xW ⟨rfl,rfl,rfl,rfl⟩ (ck (cN hr) (λ _ _=>rfl) (bV T.av T.bM (au 0)) (aa 1)) (aa 2)) (ar (aQ (ai (aK bp))))))))⟩
noncomputable def iL (t:Adr):=jd 3 3 (iG t).1
def qk (T:Txt K mg t):GoM P w K mg base 3 t.af "bare" (spM (iL t) K):=(iG t).2 T
noncomputable def iA:gO0 (gFD 3 "_law_pool" 9 2):=⟨_,λ T=>oD ["_law_script","_law_at","_law_letters","_law_one","_law_draw","_law_place","_law_sign","_law_two","_law_three"] T.qu λ hr nd =>
 (ag (j0 2 nd bI) (ag (j0 3 nd (ao (du T) hr (cP (ao (ft T) hr (cP (aa 0) (aa 1))) ae))) (ag (j0 4 nd (ao (aN T) hr (cP (ao (ft T) hr (cP (aa 0) (bH (aa 1) ae))) ae))) (ag (j0 5 nd (bO (aa 4) (az gX T.dX (bW (aa 3))))) (ag (j0 6 nd (bz (aa 2) (bO (bB (aa 4) ae) ae))) (ag (j0 7 nd (bH (bH (kg (aa 3) gR (dr (aa 5))) (aa 6)) (kg (aa 3) (dr (bH (aa 5) ae)) gR))) (ag (j0 8 nd (kg (bH (aa 3) (aa 6)) (dr (Bd ae)) gR)) (ak (aL (aW (bw (fc (aa 3) (uy (aa 7) (aa 8) (ao (du T) hr (cP (ao (ft T) hr (cP (aa 0) (bH (aa 1) ae))) ae)))))))))))))))⟩
noncomputable def iH:=fO 9 2 (iA).1
def qf (T:Txt K mg t):Go P w K mg base 3 "_law_pool" (spF (iH) K):=(iA).2 T
noncomputable def gm:gO0 (gFD 3 "_law_words" 5 3):=⟨_,λ T=>oD ["_law_cell_here","_law_way","_law_words_here","_law_draw","_law_many"] T.oS λ hr nd =>
 (ag (j0 3 nd (ao (aN T) hr (cP (aa 0) (aa 1)))) (ag (bu (fA (bO (aa 3) ae) ae) (ak (dq (eY T.eG (bW (aa 2))))) aP) (ag (bu (cb (gc (fA (bO (aa 3) ae) ae) (eW (pv (az gX T.dX (bW (aa 2))) ae)))) (ak (dq (kf T.eG T.eE (aa 2)))) aP) (ag (j0 4 nd (bO (bB (aa 3) ae) ae)) (ag (bu (fA (bO (bB (aa 3) ae) ae) ae) (ak (j0 4 nd ae)) aP) (ak (dq (eZ (ckN [("_law_cell_here",0),("_law_way",1)]) (cY T.ki (bW (aa 4))) (λ _ _ _ _=>(ao (qe T) hr (cP (aa 1) (bH (aa 2) (jU ae (aa 0))))))))))))))⟩
noncomputable def gB:=fO 5 3 (gm).1
def nY (T:Txt K mg t):Go P w K mg base 3 "_law_words" (spF (gB) K):=(gm).2 T
noncomputable def gU:gO0 (gFD 3 "_law_own" 7 3):=⟨_,λ T=>oD ["_law_cell_here","_law_way","_law_own_here","_law_draw","_law_many","_law_made","_law_k"] T.ud λ hr nd =>
 (ag (j0 3 nd (ao (aN T) hr (cP (aa 0) (aa 1)))) (ag (bu (fA (bO (aa 3) ae) ae) (ak (aL (iy qI T.mM (bW (aW (eY T.eG (bW (aa 2)))))))) aP) (ag (bu (cb (gc (fA (bO (aa 3) ae) ae) (eW (pv (az gX T.dX (bW (aa 2))) ae)))) (ak (aL (iy qI T.mM (bW (aW (Ai T.eG T.eE (aa 2))))))) aP) (ag (j0 4 nd (bO (bB (aa 3) ae) ae)) (ag (bu (fA (bO (bB (aa 3) ae) ae) ae) (ak (j0 4 nd ae)) aP) (ag (bu (fA (bO (bB (aa 3) ae) ae) ae) (ak (aL (b9 (uy (b9 a9) (b9 (bW bI)) (b9 (fc ae (uy ae ae ae))))))) aP) (ag (cv 5 nd (he:=bw a9)) (ag (pB (cY T.ki (bW (aa 4))) (mH 6 nd) (ak (bu (fA (bO (ao (aN T) hr (cP (aa 0) (bH (aa 1) (aa 6)))) ae) ae) (ak (dB 5 (he:=b9 (uy bI (b9 (cP bI (bH bI (kg (ao (du T) hr (cP (aa 0) (bH (aa 1) (aa 6)))) gR (dr ae))))) (He (bO (aa 6) ae) ae))))) (ak (dB 5 (he:=b9 (uy bI (b9 (uy bI (bO (aa 0) (Ly ae ae)) (bH ae (ao (aN T) hr (cP (aa 0) (bH (aa 1) (jU ae (aa 6)))))))) (He (bO (aa 3) ae) (aa 6))))))))) (ak (x3 5 (aL (iy qI T.mM (bW (aa 5))))))))))))))⟩
noncomputable def mL:=fO 7 3 (gU).1
def tO (T:Txt K mg t):Go P w K mg base 3 "_law_own" (spF (mL) K):=(gU).2 T
noncomputable def gr (t:Adr):gOD (gFD 3 "_law_bears" 6 3) t:=⟨_,λ T=>oD ["_law_tree","_law_borne","_law_box","_law_marks","_law_words_here","_law_own_here"] T.oW λ hr nd =>
 (ag (cv 3 nd (he:=pD T.av (kQ T) hr (aa 0) (bW (aa 2)))) (ag (cv 4 nd (he:=pD T.av (kP T) hr (aa 0) (bW (aa 2)))) (ag (bu (lJ 4 (lJ 3 (cb (gP (dg (aa 3) (bz (aG hr.units (λ _ _=>rfl) (aa 1) (aa 2)) ae)) (f9 (dg (aa 4) (bz (aG hr.units (λ _ _=>rfl) (aa 1) (aa 2)) ae))))))) (ak (aL bp)) aP) (ag (dB 3 (he:=bI)) (ag (dB 4 (he:=bI)) (ag (j0 5 nd (aV T.av (lZ T) hr (aa 0) (bW (aa 2)))) (ak (aL (gT (az qJ T.bX (cP (aa 5) (iw (n:="tuple") T.mM))) (jb (gS (F4 hr.units) (aa 5) (bz (aG hr.units (λ _ _=>rfl) (aa 1) (aa 2)) ae))))))))))))⟩
noncomputable def cw (t:Adr):=fO 6 3 (gr t).1
def fV (T:Txt K mg t):Go P w K mg base 3 "_law_bears" (spF (cw t) K):=(gr t).2 T
noncomputable def jB (t:Adr):gOD (gFD 4 "depth_of" 2 2) t:=⟨_,λ T=>oD ["tree","box"] T.ub λ hr nd =>
 (ak (aL (az gX T.dX (bW (ao (nX T) hr (cP (aa 0) (aa 1)))))))⟩
noncomputable def jF (t:Adr):=fO 2 2 (jB t).1
def gL (T:Txt K mg t):Go P w K mg base 4 "depth_of" (spF (jF t) K):=(jB t).2 T
noncomputable def iD (t:Adr):gOM (gFM 4 "_law_deed" 13 6) t:=⟨_,λ T=>oM ["_law_tree","_law_box","_law_borne","_law_word","_law_cell_here","_law_way","_law_marks","_law_words_here","_law_own_here","_law_draw","_law_due","_law_told","_law_given"] T.qx λ hr nd =>
 (ab (xV (n:=3) (ck (cN hr) (λ _ _=>rfl) (au 2) (aa 1)) (dF (fb 6 nd) (dF (fb 7 nd) (dF (fb 8 nd) mG)))) (ab (ay 9 nd (he:=ai (aK (ao (aN T) hr (cP (aa 4) (aa 5)))))) (ab (a7 (bS (fA (bO (aa 9) ae) ae)) (ab (ay 10 nd (he:=ai (aK (D8 (aa 3) (aa 6))))) (ab (gQ (ck (cN hr) (λ _ _=>rfl) (au 2) (aa 1)) ae (ai (mF (uu T.qV (bH (aW (mD (ckN [("_law_word",3)]) (dD (aa 6)) (λ _ _ _ _=>(dg (aa 0) (aa 1))) (λ _ _ _ _=>(aa 0)))) (aW (bw (bW (aa 3))))))))) (ar (ay 11 nd (he:=cX T.av (qj T) hr (au 0) (ax (bL (aa 1)) (ax (bL (aa 3)) bN))))))) (ar (a7 (bS (fA (bO (aa 9) ae) ae)) (ab (ay 10 nd (he:=ai (aK (Ob (aa 3) (aa 6))))) (ab (gQ (ck (cN hr) (λ _ _=>rfl) (au 2) (aa 1)) ae (ai (mF (mD (ckN [("_law_word",3)]) (dD (aa 6)) (λ _ _ _ _=>(dg (aa 0) (aa 1))) (λ _ _ _ _=>(aa 0)))))) (ar (ay 11 nd (he:=cX T.av (qk T) hr (au 0) (ax (bL (aa 1)) (ax (bL (aa 3)) bN))))))) (ar (a7 (bS (fA (bO (aa 9) ae) ae)) (ab (ay 12 nd (he:=ai (mE (lL (nY T) hr (uy (aa 4) (bH (aa 5) ae) (aa 7)))))) (ab (ay 10 nd (he:=ai (gf (yd (aa 12) (aa 7))))) (ab (gQ (ck (cN hr) (λ _ _=>rfl) (au 2) (aa 1)) ae (ai (mF (eY T.eG (bW (aa 12)))))) (ab (ay 11 nd (he:=cX T.av (oe T) hr (au 0) (ax (bL (aa 1)) (ax (hG (au 12)) bN)))) (ab (a7 (bS (dg (aa 12) (bz (aG hr.units (λ _ _=>rfl) (aa 2) (aa 1)) ae))) (ar (aQ (ai (aK bp)))) aR) (ar (xY (au 12) (aK bI)))))))) (ab (gQ (ck (cN hr) (λ _ _=>rfl) (au 2) (aa 1)) ae (ai (aK (ao (tO T) hr (uy (aa 4) (bH (aa 5) ae) (aa 8)))))) (ab (ay 10 nd (he:=ai (gf (gS (JA hr.units) (bz (aG hr.units (λ _ _=>rfl) (aa 2) (aa 1)) ae) (aa 8))))) (ar (ay 11 nd (he:=cX T.av (og T) hr (au 0) (ax (bL (aa 1)) (ax (hG (D4 (ck (cN hr) (λ _ _=>rfl) (au 2) (aa 1)) ae)) bN)))))))))))) (ar (aQ (ai (aK (gT (az qJ T.bX (cP (aa 11) (iw (n:="bool") T.uH))) (jb (He (aa 11) (aa 10)))))))))))⟩
noncomputable def fI (t:Adr):=jd 13 6 (iD t).1
def qg (T:Txt K mg t):Go P w K mg base 4 "_law_deed" (spM (fI t) K):=(iD t).2 T
noncomputable def jE (t:Adr):gOM (gMM 5 t.af "put" 5 4) t:=⟨_,λ T=>oMm ["self","holder","place","name","box"] T.uf λ hr nd =>
 (ab (aX (aV T.av (aS T) hr (aa 0) (bW (aa 1)))) (ab (aX (ao (iS T) hr (cP (aa 2) (aG hr.units (λ _ _=>rfl) (bJ T.av T.bg (aa 0)) (aa 1))))) (ab (aX (ao (dZ T) hr (bW (aa 3)))) (ab (a7 (bS (pv (bH (az mz T.dX (bW (bJ T.av T.c9 (aa 0)))) ae) (Hc T.oo))) (ar fC) aR) (ab (a7 (bS (pv (bH (ao (gL T) hr (cP (aa 0) (aa 1))) ae) (Hc T.kW))) (ar fC) aR) (ab (ay 4 nd (he:=cX T.av (jP T) hr (au 0) (ax (bL (aa 1)) (ax (bL (aa 3)) bN)))) (ab (ja (ck (cN hr) (λ _ _=>rfl) (bV T.av T.bg (au 0)) (aa 1)) (aa 2) (aK (aa 4))) (ar (aQ (ai (aK (aa 4))))))))))))⟩
noncomputable def jG (t:Adr):=jd 5 4 (jE t).1
def tP (T:Txt K mg t):GoM P w K mg base 5 t.af "put" (spM (jG t) K):=(jE t).2 T
noncomputable def dI (t:Adr):gOM (gMM 5 t.af "move" 7 4) t:=⟨_,λ T=>oMm ["self","box","holder","place","under","row","lowest"] T.qz λ hr nd =>
 (ab (aX (aV T.av (aS T) hr (aa 0) (bW (aa 1)))) (ab (aX (aV T.av (aS T) hr (aa 0) (bW (aa 2)))) (ab (ay 4 nd (he:=ai (mF (lL (wA T) hr (cP (aa 0) (aa 1)))))) (ab (a7 (bS (cb (gP (fA (aa 1) (Hc T.Gi)) (gP (fA (aa 2) (aa 1)) (f9 (Lx (aa 2) (aa 4))))))) (ar fC) aR) (ab (lK 5 nd (ckN [("box",1)]) (hi:=dD (aG hr.units (λ _ _=>rfl) (bJ T.av T.bg (aa 0)) (aa 2))) (hcd:=(λ _ _ _ _=>(dg (aa 0) (aa 1)))) (he:=(λ _ _ _ _=>(aa 0)))) (ab (aX (ao (iS T) hr (cP (aa 3) (aa 5)))) (ab (ay 6 nd (he:=ai (gf (az (Bc rfl) T.Et (bW (aW (eZ (ckN [("self",0)]) (dD (bH (aW (bw (bW (aa 1)))) (aa 4))) (λ _ _ _ _=>(ao (gL T) hr (cP (aa 1) (aa 0))))))))))) (ab (a7 (bS (pv (D7 (bH (bH (ao (gL T) hr (cP (aa 0) (aa 2))) ae) (aa 6)) (ao (gL T) hr (cP (aa 0) (aa 1)))) (Hc T.kW))) (ar fC) aR) (ab (ja (au 5) (aa 3) (aK (aa 1))) (ab (a7 (bS (fA (aa 5) (aG hr.units (λ _ _=>rfl) (bJ T.av T.bg (aa 0)) (aa 2)))) (ar (aQ (ai (aK bp)))) aR) (ab (pA (ck (cN hr) (λ _ _=>rfl) (bV T.av T.bg (au 0)) (aG hr.units (λ _ _=>rfl) (bJ T.av T.bY (aa 0)) (aa 1))) (aa 1)) (ab (ba (cN hr) (bV T.av T.bg (au 0)) (aa 2) (ai (Hb 5))) (ab (ba (cN hr) (bV T.av T.bY (au 0)) (aa 1) (ai (aK (aa 2)))) (ar (aQ (ai (aK bp)))))))))))))))))⟩
noncomputable def iJ (t:Adr):=jd 7 4 (dI t).1
def qh (T:Txt K mg t):GoM P w K mg base 5 t.af "move" (spM (iJ t) K):=(dI t).2 T
noncomputable def jC (t:Adr):gOM (gFM 6 "_law_put" 12 6) t:=⟨_,λ T=>oM ["_law_tree","_law_rows","_law_facts","_law_number","_law_cell_here","_law_way","_law_some","_law_draw","_law_holder","_law_place","_law_name_here","_law_made"] T.uc λ hr nd =>
 (ab (qO (i:=1) (j:=6) nd (ckN [("_law_facts",2)]) (hcd:=(λ _ _ _ _=>(D3 (ao (fo T) hr (cP (aa 1) (aa 0))) ae))) (he:=(λ _ _ _ _=>(aa 0)))) (ab (ay 7 nd (he:=ai (aK (ao (aN T) hr (cP (aa 4) (aa 5)))))) (ab (ay 8 nd (he:=ai (aK (bz (aa 6) (Bd ae))))) (ab (a7 (bS (fA (bO (aa 7) ae) ae)) (ar (ay 8 nd (he:=ai (aK (bz (aa 6) (bO (bB (aa 7) ae) (az gX T.dX (bW (aa 6))))))))) aR) (ab (ay 9 nd (he:=ai (gf (bO (ao (aN T) hr (cP (aa 4) (bH (aa 5) ae))) (bH (az gX T.dX (bW (aG hr.units (λ _ _=>rfl) (aa 1) (aa 8)))) ae))))) (ab (ay 10 nd (he:=ai (aK (ao (du T) hr (cP (aa 4) (bH (aa 5) ae)))))) (ab (ay 11 nd (he:=cX T.av (tP T) hr (au 0) (ax (bL (aa 8)) (ax (bL (aa 9)) (ax (bL (aa 10)) bN))))) (ab (ja (ck (cN hr) (λ _ _=>rfl) (au 1) (aa 8)) (aa 9) (aK (aa 3))) (ab (ba (cN hr) (au 1) (aa 3) (ai (mE (bw a9)))) (ab (ba (cN hr) (au 2) (aa 3) (ai (aK (b9 (cP (aa 8) (aa 10)))))) (ar (aQ (ai (aK (gT (ao (jO T) hr (bW (aa 11))) (jb (He (aa 11) (aa 3))))))))))))))))))⟩
noncomputable def gV (t:Adr):=jd 12 6 (jC t).1
def tM (T:Txt K mg t):Go P w K mg base 6 "_law_put" (spM (gV t) K):=(jC t).2 T
noncomputable def gq (t:Adr):gOM (gFM 6 "_law_moved" 16 5) t:=⟨_,λ T=>oM ["_law_tree","_law_rows","_law_facts","_law_cell_here","_law_way","_law_some","_law_box","_law_under_here","_law_tall","_law_free","_law_draw","_law_holder","_law_rest","_law_place","_law_due","_law_told"] T.oV λ hr nd =>
 (ab (ay 5 nd (he:=ai (mF (uv hr.hd T.eG (aa 1))))) (ab (ay 6 nd (he:=ai (aK (bz (aa 5) (bH ae (bO (ao (aN T) hr (cP (aa 3) (aa 4))) (D7 (az gX T.dX (bW (aa 5))) ae))))))) (ab (ay 7 nd (he:=ai (mF (lL (nZ T) hr (cP (aa 1) (aa 6)))))) (ab (ay 8 nd (he:=ai (gf (D7 (az (Bc rfl) T.Et (bW (aW (eZ (ckN [("_law_facts",2)]) (dD (aa 7)) (λ _ _ _ _=>(ao (fo T) hr (cP (aa 1) (aa 0)))))))) (ao (fo T) hr (cP (aa 2) (aa 6))))))) (ab (pw 9 nd (ckN [("_law_under_here",7),("_law_tall",8),("_law_facts",2)]) (hi:=dD (aa 5)) (hcd:=(λ _ _ _ _=>(cb (gc (Ah (aa 0) (aa 1)) (eW (Ha (bH (bH (ao (fo T) hr (cP (aa 3) (aa 0))) ae) (aa 2)) ae)))))) (he:=(λ _ _ _ _=>(aa 0)))) (ab (ay 10 nd (he:=ai (aK (ao (aN T) hr (cP (aa 3) (bH (aa 4) ae)))))) (ab (ay 11 nd (he:=ai (aK (bz (aa 9) (bO (bB (aa 10) ae) (az gX T.dX (bW (aa 9)))))))) (ab (a7 (bS (fA (bO (aa 10) ae) ae)) (ar (ay 11 nd (he:=ai (gf (bz (aG hr.units (λ _ _=>rfl) (aa 2) (aa 6)) ae))))) aR) (ab (lK 12 nd (ckN [("_law_box",6)]) (hi:=dD (aG hr.units (λ _ _=>rfl) (aa 1) (aa 11))) (hcd:=(λ _ _ _ _=>(dg (aa 0) (aa 1)))) (he:=(λ _ _ _ _=>(aa 0)))) (ab (ay 13 nd (he:=ai (gf (bO (ao (aN T) hr (cP (aa 3) (bH (aa 4) ae))) (bH (az gX T.dX (bW (aa 12))) ae))))) (ab (ja (au 12) (aa 13) (aK (aa 6))) (ab (ay 14 nd (he:=ai (gf (yd (aa 12) (aG hr.units (λ _ _=>rfl) (aa 1) (aa 11)))))) (ab (ay 15 nd (he:=cX T.av (qh T) hr (au 0) (ax (bL (aa 6)) (ax (bL (aa 11)) (ax (bL (aa 13)) bN))))) (ab (pA (ck (cN hr) (λ _ _=>rfl) (au 1) (bz (aG hr.units (λ _ _=>rfl) (aa 2) (aa 6)) ae)) (aa 6)) (qL (cN hr) (eJ (i:=1) rfl (Or.inl rfl)) (eJ (i:=12) rfl (Or.inl rfl)) (eJ (i:=2) rfl (Or.inr (Or.inl rfl))) (aa 11) (aa 6) (cP (aa 11) (bz (aG hr.units (λ _ _=>rfl) (aa 2) (aa 6)) ae)) (gT (az qJ T.bX (cP (aa 15) (iw (n:="bool") T.uH))) (gT (He (aa 15) (aa 14)) (jb (ao (kO T) hr (cP (aV T.av (dv T) hr (aa 0) (bW (aa 11))) (aa 12)))))))))))))))))))))⟩
noncomputable def d6 (t:Adr):=jd 16 5 (gq t).1
def oa (T:Txt K mg t):Go P w K mg base 6 "_law_moved" (spM (d6 t) K):=(gq t).2 T
noncomputable def Eg (t:Adr):{G:DSm // ∀ {P w K mg base a d},Txt K mg t->Fun K "law" "law" (top 38) a d->jf P w K mg base CX0 7 a d ["_law_script"] (spM (jd 11 1 G) K)}:=⟨_,λ T F=>oLM ["_law_script","_law_name_here","_law_tree","_law_pool_here","_law_rows","_law_facts","_law_borne","_law_k","_law_cell_here","_law_draw","_law_box"] F λ hr nd =>
 (ab (ay 1 nd (he:=ai (aK (ao (du T) hr (cP (ao (ft T) hr (cP (aa 0) ae)) ae))))) (ab (ay 2 nd (he:=x5 (kR T) hr T.Gh (ax (bL (aa 1)) bN))) (ab (ay 3 nd (he:=ai (aK (ao (qf T) hr (cP (aa 0) ae))))) (ab (ay 4 nd (he:=ai (qP (kc:=.inl 0) rC (mE (bw a9))))) (ab (ay 5 nd (he:=ai (qP (kc:=.inl 0) rC (aK (b9 (cP kh (aa 1))))))) (ab (ay 6 nd (he:=ai (qP (kc:=.inl 0) rC (x4 (bw (uy (aW (bw a9)) (aW (bw a9)) (b9 a9))))))) (ab (xX (uw T.pP (bW (aW (D5 (aa 0) (dr ae) (dr ae))))) (yb (n:=2) (dF (fb 7 nd) (dF (fb 8 nd) mG))) (ab (ay 9 nd (he:=ai (aK (ao (aN T) hr (cP (aa 8) (bH ae (aa 7))))))) (ab (ay 10 nd (he:=ai (gf (bO (bB (aa 9) ae) (az (G8 rfl) T.Io (cP (az mz T.dX (bW (aa 4))) ae)))))) (ab (a7 (bS (cb (gc (fA (bO (aa 9) ae) ae) (eW (D3 (az mz T.dX (bW (aa 4))) ae))))) (ab (ay 10 nd (he:=ai (gf (az mz T.dX (bW (aa 4)))))) (ab (ba (cN hr) (au 6) (aa 10) (ai (x4 (bw (uy (aW (bw a9)) (aW (bw a9)) (b9 a9)))))) (ar (a7 (lH (lG (lN (tM T) hr (ax (hG (au 2)) (ax (hG (au 4)) (ax (hG (au 5)) (ax (bL (aa 10)) (ax (bL (aa 8)) (ax (bL (aa 7)) bN))))))))) (ar (aQ (ai (aK bp)))) aR)))) (ar (a7 (bS (cb (gc (fA (bO (aa 9) ae) ae) (eW (pv (az mz T.dX (bW (aa 4))) ae))))) (ar (a7 (lH (lG (lN (oa T) hr (ax (hG (au 2)) (ax (hG (au 4)) (ax (hG (au 5)) (ax (bL (aa 8)) (ax (bL (aa 7)) bN)))))))) (ar (aQ (ai (aK bp)))) aR)) (ar (a7 (lH (lG (lN (qg T) hr (ax (hG (au 2)) (ax (bL (aa 10)) (ax (hG (au 6)) (ax (bL (bz (aa 3) (bO (bB (aa 9) ae) ae))) (ax (bL (aa 8)) (ax (bL (bH ae (aa 7))) bN))))))))) (ar (aQ (ai (aK bp)))) aR))))) (ar (a7 (bS (cE (dA (ao (fV T) hr (uy (aa 2) (aa 6) (bO (bB (aa 9) ae) (az mz T.dX (bW (aa 4))))))))) (ar (aQ (ai (aK bp)))) aR)))))) (ab (qM (i:=4) (jx:=10) nd (by decide) (ht:=cb (gP (cE (dA (ao (fV T) hr (uy (aa 2) (aa 6) (aa 10))))) (f9 (cE (dA (ao (fV T) hr (uy (aa 2) (aa 6) (aa 10)))))))) (hk:=bp)) (ar (aQ (ai (aK bp))))))))))))⟩
noncomputable def Hk (t:Adr):=jd 11 1 (Eg t).1
end
end N10
end
section
namespace L2
open PySem
section
variable {τ τ':List Sl} {f g h:DE} {x y z d:D}
def aw {i:Nat} (q:τ[i]?=some (.shr d)):aD i τ=some d:=by unfold aD; rw [q]
def e_v {i:Nat} (q:τ[i]?=some (.shr d):=by rfl):aD i τ=some d:=aw q
def e_c:dC d τ=some d:=rfl
def aE {o:D->D->Option D} (h1:f τ=some x) (h2:g τ=some y) (h3:o x y=some z):dOp o f g τ=some z:=by unfold dOp; rw [h1,h2]; exact h3
def G2 {o:D->Option D} (h1:f τ=some x) (h3:o x=some z):dUn o f τ=some z:=by unfold dUn; rw [h1]; exact h3
def aB:cK τ=some []:=rfl
def ah {ga:DA} {xs:List D} (h1:f τ=some x) (h2:ga τ=some xs):aF f ga τ=some (x::xs):=by unfold aF; rw [h1,h2]; rfl
def a8 {o:List D->Option D} {ga:DA} {xs:List D} (h1:ga τ=some xs) (h2:o xs=some z):cV o ga τ=some z:=by unfold cV; rw [h1]; exact h2
def l6 {ga:DA} {xs:List D} (h1:ga τ=some xs) (h2:xs.length<=100000):G4 ga τ=some (.tup xs):=by unfold G4; rw [h1]; exact if_pos h2
def iY {ga:DA} {xs:List D} (h1:ga τ=some xs) (h2:xs.length<=100000):DY ga τ=some (.lst xs):=by unfold DY; rw [h1]; exact if_pos h2
def fe {F:List D->Option Sl} {ga:DA} {xs:List D} {s:Sl} (h1:ga τ=some xs) (h2:F xs=some s) (h3:slD s=some z):dFn F ga τ=some z:=by unfold dFn; rw [h1]; show (F xs).bind slD=_; rw [h2]; exact h3
def DV {F:List D->Option Sl} {ga:DA} {xs:List D} {s:Sl} (h1:ga τ=some xs) (h2:F xs=some s) (h3:slO s=some z):G6 F ga τ=some z:=by unfold G6; rw [h1]; show (F xs).bind slO=_; rw [h2]; exact h3
def Lo {b:Bool} (h1:f τ=some (.bl b)) (h2:b=true->g τ=some z) (h3:b=false->z=.bl false):i9 f g τ=some z:=by
 unfold i9; rw [h1]
 cases b with
 | true=>exact h2 rfl
 | false=>rw [h3 rfl]; rfl
def a6 {b:Bool} (h1:f τ=some (.bl b)):dT f τ=some b:=by unfold dT; rw [h1]; rfl
def IC {f g:DT} {b c:Bool} (h1:f τ=some b) (h2:b=true->g τ=some c) (h3:b=false->c=false):Ab f g τ=some c:=by
 unfold Ab; rw [h1]
 cases b with
 | true=>exact h2 rfl
 | false=>rw [h3 rfl]; rfl
def Hm {f g:DT} {b c:Bool} (h1:f τ=some b) (h2:b=false->g τ=some c) (h3:b=true->c=true):dOr f g τ=some c:=by
 unfold dOr; rw [h1]
 cases b with
 | false=>exact h2 rfl
 | true=>rw [h3 rfl]; rfl
def ko {f:DT} {b:Bool} (h1:f τ=some b):Bb f τ=some (!b):=by unfold Bb; rw [h1]; rfl
def CN:Lu τ=some none:=rfl
def iR {i:Int} (h:f τ=some (.int i)):dP f τ=some (some i):=by unfold dP; rw [h]; rfl
def Ih {l u:DO} {lo hi:Option Int} (h1:f τ=some x) (h2:l τ=some lo) (h3:u τ=some hi) (h4:oSl x lo hi=some z):dSl f l u τ=some z:=by unfold dSl; rw [h1]; show (l τ).bind _=_; rw [h2]; show (u τ).bind _=_; rw [h3]; exact h4
def mx {it:DI} {g:DE} {cs:List (Str×Nat)} {ds es:List D} (h1:it τ=some ds) (hl:ds.length<=100000) (h2:uD (λ d=>g (.shr d::dY τ cs)) ds=some es):qG it g cs τ=some (.lst es):=by
 unfold qG; rw [h1]; show (if ds.length<=100000 then _ else _)=_; rw [if_pos hl,h2]; rfl
def fw {C:Addr} {n:Str} {fs:List (Str×D)} (h1:f τ=some (.obj C fs)) (h2:fs.lookup n=some z):dUn (tR C n) f τ=some z:=by unfold dUn; rw [h1]; show (if C=C then _ else _)=_; rw [if_pos rfl]; exact h2
def cU {C:Addr} {m:Str} {F:List D->Option Sl} {o:DE} {ga:DA} {fs:List (Str×D)} {xs:List D} {s:Sl} (h1:o τ=some (.obj C fs)) (h2:ga τ=some xs) (h0:fs.lookup m=none) (h3:F (.obj C fs::xs)=some s) (h4:slD s=some z):l7 C m F o ga τ=some z:=by
 unfold l7; rw [h1]; show (ga τ).bind _=_; rw [h2]; show (if C=C/\_ then _ else _)=_; rw [if_pos ⟨rfl,h0⟩,h3]; exact h4
def t8 {ds:List D} (h:f τ=some (.lst ds)):GF f τ=some ds:=by unfold GF; rw [h]; rfl
def xi {ga:DA} {j:Int} (h:ga τ=some [.int j]) (h1:-(2 ^ 62)<=j/\j < 2 ^ 62):lg ga τ=some (tw 0 j.toNat):=by unfold lg; rw [h]; exact if_pos h1
def Bm {i:Nat} {d0:D} {f:DT} {b:Bool} (q:τ[i]?=some (.own d0)) (h:f (τ.set i (.shr d0))=some b):Ej i f τ=some b:=by unfold Ej; rw [q]; exact h
end
section
variable {τ τ':List Sl} {f g:DS} {e:DE} {d:D} {o:Out}
def bt (h:f τ=some (.next τ')) (h2:g τ'=some o):gJ f g τ=some o:=by simp only [gJ,h]; exact h2
def EV {s:Sl} (h:f τ=some (.ret s)):gJ f g τ=some (.ret s):=by simp only [gJ,h]
def cz {i:Nat} (h:e τ=some d):ve i e τ=some (.next (τ.set i (.shr d))):=by unfold ve; rw [h]; rfl
def jL {i:Nat} (h:e τ=some d) (hi:i < τ.length):vd i e τ=some (.next (τ.set i (.own d))):=by unfold vd; rw [if_pos hi,h]; rfl
def fS (h:e τ=some d):El e τ=some (.ret (.shr d)):=by unfold El; rw [h]; rfl
def kF (h:e τ=some d):yB e τ=some (.ret (.own d)):=by unfold yB; rw [h]; rfl
def vb {i:Nat} (q:τ[i]?=some (.own d)):vf i τ=some (.ret (.own d)):=by unfold vf; rw [q]
def EX (h:e τ=some d):vk e τ=some (.next τ):=by unfold vk; rw [h]; rfl
def Ek {c:DT} {b:Bool} {r:Option Out} (h:c τ=some b) (h1:b=true->f τ=r) (h2:b=false->g τ=r):sIf c f g τ=r:=by
 unfold sIf; rw [h]
 cases b with
 | true=>exact h1 rfl
 | false=>exact h2 rfl
def tm {i:Nat} {ds:List D} (h:e τ=some d) (q:τ[i]?=some (.own (.lst ds))) (hl:ds.length < 100000):AD i e τ=some (.next (τ.set i (.own (.lst (ds++[d]))))):=by unfold AD; rw [h]; show (match τ[i]? with | some (.own (.lst ds))=>_ | _=>_)=_; rw [q]; exact if_pos hl
def IU {i:Nat} (q:τ[i]?=some (.own d)) (h:f (τ.set i (.shr d))=some o):EY i f τ=some o:=by unfold EY; rw [q]; exact h
def IV {it:DI} {gg:DG} {ds:List D} {r:Option Out} (h1:it τ=some ds) (h2:yo (λ d τ=>(gg d τ).bind f) ds τ=r):Em it gg f τ=r:=by unfold Em; rw [h1]; exact h2
def c5 {n m:Nat} {b:DS} {ds:List D} {s:Sl} (h:b (kB n ds)=some (.ret s)) (hl:ds.length=m:=by rfl):fO n m b ds=some s:=by
 unfold fO;rw [if_pos hl,h]
def xr {it:DI} {gg:DG} {ds:List D} (P:Nat->List Sl->Prop) (h1:it τ=some ds) (h0:P 0 τ) (hs:∀ j d τ,ds[j]?=some d->P j τ->∃ τ1 τ2,gg d τ=some τ1/\f τ1=some (.next τ2)/\P (j+1) τ2):∃ τ',Em it gg f τ=some (.next τ')/\P ds.length τ':=by
 obtain ⟨τ',e,p⟩:=sv (o:=.next []) (b:=λ d τ=>(gg d τ).bind f) P 0 h0 (λ j d τ hd p=>by
  rw [Nat.zero_add] at *;obtain ⟨τ1,τ2,e1,e2,p2⟩:=hs j d τ hd p
  exact ⟨τ2,by rw [e1]; exact e2,p2⟩)
 rw [Nat.zero_add] at p;exact ⟨τ',IV h1 e,p⟩
def pY {lo:Int} {n j:Nat} {d:D} (h:(tw lo n)[j]?=some d):d=.int (lo+j)/\j < n:=by
 unfold tw at h;rw [List.getElem?_map] at h
 by_cases hj:j < n
 ·rw [List.getElem?_range hj] at h
  exact ⟨by simpa using h.symm,hj⟩
 ·rw [List.getElem?_eq_none (by simpa using hj)] at h
  cases h
def hW {lo:Int} {n:Nat}:(tw lo n).length=n:=by simp [tw]
end
def aM (i j:Int):lV (.int i) (.int j)=some (.int (i+j)):=rfl
def gM (i j:Int):Ho (.int i) (.int j)=some (.int (i - j)):=rfl
def jt (i j:Int):oLt (.int i) (.int j)=some (.bl (decide (i < j))):=rfl
def aI {i j:Int} (h:0 < j):oMod (.int i) (.int j)=some (.int (i % j)):=by
 simp only [oMod,Ne.symm (Int.ne_of_lt h),ne_eq,not_false_eq_true,if_true,Int.fmod_eq_emod_of_nonneg _ (Int.le_of_lt h)]
def cg {i j:Int} (h:0 < j) (z:Sz j):oDiv (.int i) (.int j)=some (.int (i / j)):=by
 simp only [oDiv,Ne.symm (Int.ne_of_lt h),ne_eq,not_false_eq_true,z,and_self,if_true,Int.fdiv_eq_ediv_of_nonneg _ (Int.le_of_lt h)]
def rJ {i j:Int} (h:-(2 ^ 64) < j) (z:j < 2 ^ 64):uC (.int i) (.int j)=some (.int (i * j)):=by
 have:Bh i j:=.inr ⟨h,z⟩;simp only [uC,this,true_or,if_true]
def rK {i j:Int} (h:-(2 ^ 64) < i) (z:i < 2 ^ 64):uC (.int i) (.int j)=some (.int (i * j)):=by
 have:Bh i j:=.inl ⟨h,z⟩;simp only [uC,this,true_or,if_true]
def CW {i j:Int} (h:Hl i j):Hq (.int i) (.int j)=some (.int (i ^ j.toNat)):=by
 exact if_pos h
def bE (i j:Int):oEq (.int i) (.int j)=some (.bl (decide (i=j))):=rfl
def ie (i j:Int):oNe (.int i) (.int j)=some (.bl (!decide (i=j))):=rfl
def m4 (i j:Str):oNe (.str i) (.str j)=some (.bl (!decide (i=j))):=rfl
def yg {α:Type} (x:α) (xs:List α):atI (x::xs) 0=some x:=by simp [atI,ixN]
def yf {α:Type} (x y:α) (xs:List α):atI (x::y::xs) 1=some y:=by
 have:(1:Int) < ((xs.length+1+1:Nat):Int):=by omega
 simp only [atI,ixN,Zv,this,if_true];rfl
def Ao {α:Type} (x y z:α) (xs:List α):atI (x::y::z::xs) 2=some z:=by
 have:(2:Int) < ((xs.length+1+1+1:Nat):Int):=by omega
 simp only [atI,ixN,Zv,this,if_true];rfl
def pS (d:D):slD (.shr d)=some d:=rfl
def jQ (x:D) (xs:List D):oIx (.tup (x::xs)) (.int 0)=some x:=yg _ _
def rM (x y:D) (xs:List D):oIx (.tup (x::y::xs)) (.int 1)=some y:=yf _ _ _
def eI {τ:List Sl} {c:DT} {f g:DS} {r:Option Out} (h:c τ=some false) (h2:g τ=r):gJ (sIf c f lW) g τ=r:=by
 simp only [gJ,sIf,h,Yc,Bool.false_eq_true,if_false,lW];exact h2
def Az {τ:List Sl} {c:DT} {f g:DS} {s:Sl} (h:c τ=some true) (h2:f τ=some (.ret s)):gJ (sIf c f lW) g τ=some (.ret s):=by
 simp only [gJ,sIf,h,Yc,if_true,h2]
def AA {τ τ':List Sl} {c:DT} {f g:DS} {r:Option Out} (h:c τ=some true) (h1:f τ=some (.next τ')) (h2:g τ'=r):gJ (sIf c f lW) g τ=r:=by
 simp only [gJ,sIf,h,Yc,if_true,h1];exact h2
end L2
end
section
namespace L2
open PySem
def Ret (P:D->Prop) (o:Option Out):Prop:=∃ d,o=some (.ret (.shr d))/\P d
def Nx (P:List Sl->Prop) (o:Option Out):Prop:=∃ τ',o=some (.next τ')/\P τ'
section
variable {τ τ':List Sl} {f g:DS} {e e2 e3:DE} {c:DT} {b:Bool} {d x y z:D} {P:D->Prop} {R:List Sl->Prop}
def yI (h:f τ=some (.next τ')) (h2:Ret P (g τ')):Ret P (gJ f g τ):=by
 obtain ⟨d,e,p⟩:=h2;exact ⟨d,bt h e,p⟩
def LH (h:Nx R (f τ)) (h2:∀ τ',R τ'->Ret P (g τ')):Ret P (gJ f g τ):=by
 obtain ⟨τ',e,p⟩:=h;exact yI e (h2 _ p)
def vA (h:e τ=some d) (p:P d):Ret P (gJ (El e) g τ):=⟨d,EV (fS h),p⟩
def Jb (h:c τ=some b) (h1:b=true->Ret P (gJ f g τ)) (h2:b=false->Ret P (g τ)):Ret P (gJ (sIf c f lW) g τ):=by
 cases b with
 | true =>
  obtain ⟨d,e,p⟩:=h1 rfl;refine ⟨d,?_,p⟩;rw [<- e];simp only [gJ,sIf,h,Yc,if_true]
 | false =>
  obtain ⟨d,e,p⟩:=h2 rfl;exact ⟨d,eI h e,p⟩
def F9 (p:R τ):Nx R (lW τ):=⟨τ,rfl,p⟩
def KP (h:f τ=some (.next τ')) (p:R τ'):Nx R (f τ):=⟨τ',h,p⟩
def Mo (h:c τ=some b) (h1:b=true->Nx R (f τ)) (h2:b=false->Nx R (g τ)):Nx R (sIf c f g τ):=by
 cases b with
 | true =>
  obtain ⟨d,e,p⟩:=h1 rfl;exact ⟨d,Ek h (λ _=>e) (λ q=>nomatch q),p⟩
 | false =>
  obtain ⟨d,e,p⟩:=h2 rfl;exact ⟨d,Ek h (λ q=>nomatch q) (λ _=>e),p⟩
def KQ {it:DI} {gg:DG} {ds:List D} (Q:Nat->List Sl->Prop) (h1:it τ=some ds) (h0:Q 0 τ) (hs:∀ j d τ,ds[j]?=some d->Q j τ->∃ τ1,gg d τ=some τ1/\Nx (Q (j+1)) (f τ1)) (h2:∀ τ',Q ds.length τ'->R τ'):Nx R (Em it gg f τ):=by
 obtain ⟨τ',e,p⟩:=xr Q h1 h0 λ j d τ hd q=>by
  obtain ⟨τ1,e1,τ2,e2,q2⟩:=hs j d τ hd q;exact ⟨τ1,τ2,e1,e2,q2⟩
 exact ⟨τ',e,h2 _ p⟩
def Lm {n m:Nat} {b:DS} {ds:List D} (h:Ret P (b (kB n ds))) (hl:ds.length=m:=by rfl):∃ d,fO n m b ds=some (.shr d)/\P d:=by
 obtain ⟨d,e,p⟩:=h;exact ⟨d,c5 e hl,p⟩
def kq {f g:DT} {b c:Bool} (h1:f τ=some b) (h2:g τ=some c):Ab f g τ=some (b&&c):=by
 unfold Ab; rw [h1]; cases b <;> simp [h2]
def uT {f g:DT} {b c:Bool} (h1:f τ=some b) (h2:g τ=some c):dOr f g τ=some (b||c):=by
 unfold dOr; rw [h1]; cases b <;> simp [h2]
def iZ {b c:Bool} (h1:e τ=some (.bl b)) (h2:e2 τ=some (.bl c)):i9 e e2 τ=some (.bl (b&&c)):=by
 unfold i9; rw [h1]; cases b <;> simp [h2]
end
def rG {n:Nat}:∀ {ds:List D},(∀ d ∈ ds,okD n d=true)->jN n ds=true
 | [],_=>rfl
 | d::ds,h=>by
  rw [jN,h d (Zd ..),rG λ e m=>h e (Zc _ m)];rfl
def CY {xs ys:List D} (h:jN 8 xs=true) (h':jN 8 ys=true):oEq (.lst xs) (.lst ys)=some (.bl (eqB (.lst xs) (.lst ys))):=by
 unfold oEq eqO;rw [if_pos ⟨h,h'⟩]; rfl
def wC {xs ys:List D} (h:jN 8 xs=true) (h':jN 8 ys=true):oNe (.lst xs) (.lst ys)=some (.bl (!eqB (.lst xs) (.lst ys))):=by
 unfold oNe eqO;rw [if_pos ⟨h,h'⟩]; rfl
def lO {α:Type} {xs:List α} {j:Int} (h0:0<=j) (h1:j < xs.length):∃ (h:j.toNat < xs.length),atI xs j=some xs[j.toNat]:=by
 refine ⟨by omega,?_⟩;have e:=Ec (xs:=xs) (j:=j.toNat) (List.getElem?_eq_getElem (by omega));rw [show ((j.toNat:Nat):Int)=j by omega] at e;exact e
end L2
end
local macro_rules | `(tactic| walk_at "ee")=>`(tactic| first
 | with_reducible assumption
 | with_reducible exact L2.e_c
 | ((with_reducible apply L2.aw); exact rfl)
 | with_reducible exact L2.aB
 | ((with_reducible apply L2.ah) <;> walk_at "ee")
 | ((with_reducible apply L2.aE) <;> walk_at "ee")
 | ((with_reducible apply L2.l6) <;> walk_at "ee")
 | ((with_reducible apply L2.iY) <;> walk_at "ee")
 | ((with_reducible apply L2.fw) <;> walk_at "ee")
 | ((with_reducible apply L2.G2) <;> walk_at "ee")
 | ((with_reducible apply L2.a8) <;> walk_at "ee")
 | ((with_reducible apply L2.fe) <;> walk_at "ee")
 | ((with_reducible apply e_make) <;> walk_at "ee")
 | ((with_reducible apply L2.cU) <;> walk_at "ee")
 | ((with_reducible apply L2.a6) <;> walk_at "ee")
 | ((with_reducible apply L2.ko) <;> walk_at "ee")
 | with_reducible exact L2.CN
 | ((with_reducible apply L2.iR) <;> walk_at "ee")
 | ((with_reducible apply L2.Ih) <;> walk_at "ee")
 | ((with_reducible apply L2.kq) <;> walk_at "ee")
 | ((with_reducible apply L2.uT) <;> walk_at "ee")
 | ((with_reducible apply L2.iZ) <;> walk_at "ee")
 | ((with_reducible apply e_or2) <;> walk_at "ee")
 | ((with_reducible apply e_get2) <;> walk_at "ee")
 | with_reducible exact L2.pS _
 | with_reducible exact slD_own _
 | with_reducible exact L2.jQ _ _
 | with_reducible exact L2.rM _ _ _
 | with_reducible exact oIx_t2 _ _ _ _
 | with_reducible exact L2.aM _ _
 | with_reducible exact L2.gM _ _
 | with_reducible exact L2.bE _ _
 | with_reducible exact L2.ie _ _
 | with_reducible exact L2.jt _ _
 | with_reducible exact oEq_str _ _
 | with_reducible exact L2.m4 _ _
 | with_reducible exact L2.aI (by decide)
 | with_reducible exact L2.cg (by decide) (by decide +kernel)
 | with_reducible exact L2.rJ (by decide) (by decide)
 | with_reducible exact L2.rK (by decide) (by decide)
 | with_reducible exact L2.yg _ _
 | with_reducible exact L2.yf _ _ _
 | with_reducible exact L2.Ao _ _ _ _
 | exact rfl
 | exact Zb rfl
 | skip)
section
namespace N10
open PySem L2
def I0 {n m:Nat} {b:DS} {ds:List D} {τ:List Sl} (h:b (kB n ds)=some (.next τ)) (hl:ds.length=m:=by rfl):fO n m b ds=some (.shr .non):=by
 unfold fO;rw [if_pos hl,h]
def Bz {τ:List Sl} {c:DT} {f g:DS} {b:Bool} {s:Sl} (h:c τ=some b) (h1:b=true->f τ=some (.ret s)) (h2:b=false->g τ=some (.ret s)):gJ (sIf c f lW) g τ=some (.ret s):=by
 cases b with
 | true=>exact Az h (h1 rfl)
 | false=>exact eI h (h2 rfl)
def K8 {τ:List Sl} {f:DE} {x:Str} (h:f τ=some (.str x)):zQ f τ=some (chD x):=by unfold zQ; rw [h]; rfl
def lower (c:Nat):Bool:=decide (97<=c)&&decide (c<=122)
def aT (x:Str):Bool:=(decide (1<=(x.length:Int))&&decide ((x.length:Int)<=8))&&x.cps.toList.all lower
def lt1 (c d:Nat):[c] < [d]↔c < d:=by
 constructor
 ·intro z
  cases z with
  | rel h=>exact h
  | cons h=>cases h
 ·intro h
  exact List.Lex.rel h
def le1 (c d:Nat):JF (.str ⟨#[c]⟩) (.str ⟨#[d]⟩)=some (.bl (decide (c<=d))):=by
 show some (D.bl (!decide ([d] < [c])))=_;congr 2
 by_cases h:c<=d
 ·rw [Zo h,Zk]
  · rfl
  ·intro z
   have:=(lt1 d c).mp z;omega
 ·rw [Zk h,Zo]
  · rfl
  · exact (lt1 d c).mpr (by omega)
def wQ {g:D->Option D} {t:Nat->Bool}:∀ {cs:List Nat},(∀ c ∈ cs,g (.str ⟨#[c]⟩)=some (.bl (t c)))->uD g (cs.map λ c=>.str ⟨#[c]⟩)=some (cs.map λ c=>.bl (t c))
 | [],_=>rfl
 | c::cs,h=>by
  show (g (.str ⟨#[c]⟩)).bind (λ x=>(uD g (cs.map λ c=>.str ⟨#[c]⟩)).bind λ xs=>some (x::xs))=_;rw [h c (Zd ..),wQ λ c m=>h c (Zc _ m)];rfl
def jc (t:Nat->Bool):∀ cs:List Nat,D9 (cs.map λ c=>.bl (t c))=some (cs.map t)
 | []=>rfl
 | c::cs=>by
  show (D9 (cs.map λ c=>.bl (t c))).map (t c::·)=_;rw [jc t cs]; rfl
def xf (x:Str) (hx:x.length<=100):lT [.str x]=some (.shr (.bl (aT x))):=by
 unfold lT lR;dsimp only;refine c5 ?_
 refine eI (ko (b:=true) (a6 (a8 (ah e_v (ah e_c aB)) rfl))) ?_
 have hl:rL [.str x]=some (.int (x.length:Int)):=by
  show (if x.length<=100000 then _ else none)=_;rw [if_pos (by omega)]
 refine Bz (ko (a6 (iZ (aE e_c (a8 (ah e_v aB) hl) rfl) (aE (a8 (ah e_v aB) hl) e_c rfl)))) (λ h=>?_) (λ h=>?_)
 ·unfold aT
  rw [Bool.not_eq_true'] at h;rw [h];exact fS e_c
 ·rw [Bool.not_eq_false'] at h
  refine fS (a8 (ah (mx (K8 e_v) ?_ (wQ λ c _=>iZ (aE e_c e_v (le1 97 c)) (aE e_v e_c (le1 c 122)))) aB) ?_)
  ·show (x.cps.toList.map _).length<=_
   rw [Za];exact Z2 hx (by decide)
  ·show (D9 _).map _=_
   rw [jc];unfold aT;rw [h];show some (D.bl ((x.cps.toList.map lower).all id))=some (D.bl (x.cps.toList.all lower));rw [List.all_map];rfl
def scr (ns:List Int):D:=.fz (ns.map .int)
def Dw (ns:List Int):rL [scr ns]=some (.int ns.length):=by
 show some (D.int ((ns.map D.int).length:Nat))=_;rw [Za]
def Gz {ns:List Int} {j:Int} (h0:0<=j) (h1:j < ns.length):∃ c:Int,oIx (scr ns) (.int j)=some (.int c):=by
 obtain ⟨h,e⟩:=lO (xs:=ns.map D.int) h0 (by rw [Za]; exact h1);refine ⟨ns[j.toNat]'(by rw [Za] at h; exact h),?_⟩;show atI (ns.map D.int) j=_;rw [e,List.getElem_map]
def gW (c:Int) {w:Int} (w0:0<=w) (w1:w<=10000):∃ r,bC [.int c,.int w]=some (.shr (.int r))/\0<=r/\r < 1000003:=by
 have m0:=Z9 ((c * 48271+w * 7919) % 2147483647 * (16807+2 * w)) (b:=1000003) (by decide);have m1:=Z8 ((c * 48271+w * 7919) % 2147483647 * (16807+2 * w)) (b:=1000003) (by decide);have e1:=rJ (i:=(c * 48271+w * 7919) % 2147483647) (j:=16807+2 * w) (by omega) (by omega);refine ⟨_,?_,m0,m1⟩;unfold bC jD;refine c5 ?_
 refine bt (cz (by walk_at "ee")) ?_
 exact fS (by walk_at "ee")
def xP (ns:List Int) {k:Int} (k0:0<=k):∃ c:Int,iI [scr ns,.int k]=some (.shr (.int c)):=by
 have hl:=Dw ns;have t:=jt k (ns.length:Int);unfold iI iE
 by_cases h:k < (ns.length:Int)
 ·obtain ⟨c,hc⟩:=Gz k0 h
  rw [Zo h] at t;refine ⟨c,c5 ?_⟩;exact Az (by walk_at "ee") (fS (by walk_at "ee"))
 ·rw [Zk h] at t
  refine ⟨0,c5 ?_⟩;show gJ _ _ [.shr (scr ns),.shr (.int k)]=_;exact eI (by walk_at "ee") (fS e_c)
def LET:Str:="abcdefghijklmnopqrstuvwxyz"
def okS (x:Str):Bool:=x.cps.all lower
def One (z:Str):Prop:=z.length=1/\okS z=true
def Dv:LET.cps.toList.length=26:=by rfl
def Gp:∀ c ∈ LET.cps.toList,lower c=true:=by decide +kernel
def AY {k:Int} (k0:0<=k) (k1:k < 26):∃ z:Str,oIx (.str LET) (.int k)=some (.str z)/\One z:=by
 obtain ⟨h,e⟩:=lO k0 (by rw [Dv]; omega);refine ⟨⟨#[LET.cps.toList[k.toNat]]⟩,?_,rfl,?_⟩
 ·show (if LET.length<=100000 then (atI LET.cps.toList k).map _ else none)=_
  rw [if_pos (by decide +kernel),e];rfl
 ·unfold okS
  rw [Yp];intro c hc;have e:c=LET.cps.toList[k.toNat]:=by simpa using hc
  rw [e];exact Gp _ (Y7 h)
def strs_map:∀ ts:List Str,L2.mS (ts.map .str)=some ts
 | []=>rfl
 | t::ts=>by
  show (L2.mS (ts.map .str)).map _=_;rw [strs_map ts]; rfl
def om {gg:D->Option D}:∀ {ds:List D},(∀ d ∈ ds,∃ z:Str,gg d=some (.str z)/\One z)->∃ ts:List Str,uD gg ds=some (ts.map .str)/\ts.length=ds.length/\∀ z ∈ ts,One z
 | [],_=>⟨[],rfl,rfl,λ q hq=>nomatch hq⟩
 | d::ds,h=>by
  obtain ⟨q,e1,p1⟩:=h d (Zd ..);obtain ⟨qs,e2,l2,p2⟩:=om (gg:=gg) (ds:=ds) λ x hx=>h x (Zc _ hx)
  refine ⟨q::qs,by simp only [uD,e1,e2]; rfl,by simp [l2],λ x hx=>?_⟩;rcases Zl.mp hx with rfl | hx
  · exact p1
  · exact p2 x hx
def qZ:∀ {ts:List Str},(∀ z ∈ ts,One z)->(ts.map (·.length)).sum=ts.length
 | [],_=>rfl
 | t::ts,h=>by
  rw [Zh,List.sum_cons,(h t (Zd ..)).1,qZ λ z hz=>h z (Zc _ hz),Zv];omega
def pX {n:Nat} {d:D} (h:d ∈ tw 0 n):∃ j:Nat,j < n/\d=.int (j:Int):=by
 obtain ⟨j,hj⟩:=List.getElem?_of_mem h;obtain ⟨e,l⟩:=pY hj;exact ⟨j,l,by rw [e]; congr 1; omega⟩
def wu {x y:Array Nat} (hx:x.all (lower)=true) (hy:y.all (lower)=true):(x++y).all (lower)=true:=by grind
def xt:∀ (ts:List Str) (a:Array Nat),(∀ z ∈ ts,One z)->a.all (lower)=true->(ts.foldl (λ acc p=>acc++(Str.cps "")++p.cps) a).size=a.size+ts.length/\(ts.foldl (λ acc p=>acc++(Str.cps "")++p.cps) a).all (lower)=true
 | [],a,_,h=>⟨rfl,h⟩
 | t::ts,a,h,ha=>by
  have h1:=h t (Zd ..);have h0:(Str.cps "").size=0:=by decide +kernel
  have h1':t.cps.size=1:=h1.1;obtain ⟨e1,e2⟩:=xt ts (a++(Str.cps "")++t.cps) (λ z hz=>h z (Zc _ hz)) (wu (wu ha (by decide +kernel)) h1.2);refine ⟨?_,e2⟩;rw [List.foldl_cons,e1,Array.size_append,Array.size_append,h1',h0,Zv];omega
def Dz {ts:List Str} (h:∀ z ∈ ts,One z) (n:ts≠[]):(Txt.join "" ts).length=ts.length/\okS (Txt.join "" ts)=true:=by
 match ts,n with
 | t::ts,_ =>
  have h1:=h t (Zd ..);have h1':t.cps.size=1:=h1.1;obtain ⟨e1,e2⟩:=xt ts t.cps (λ z hz=>h z (Zc _ hz)) h1.2;refine ⟨?_,e2⟩;show (ts.foldl (λ acc p=>acc++(Str.cps "")++p.cps) t.cps).size=_;rw [e1,h1',Zv];omega
def A9 {τ:List Sl} {f g:DE} {z:Str} {ts:List Str} (h1:f τ=some (.str z)) (h2:g τ=some (.lst (ts.map .str))) (h3:(ts.map (·.length)).sum+ts.length * z.length<=100000):xN f g τ=some (.str (Txt.join z ts)):=by
 unfold xN;rw [h1];rw [h2];show (L2.mS (ts.map .str)).bind _=_;rw [strs_map];exact if_pos h3
def wJ (c:Int) {w:Int} (w0:0<=w) (w1:w<=9000):∃ z:Str,fG [.int c,.int w]=some (.shr (.str z))/\aT z=true:=by
 obtain ⟨r,er,r0,r1⟩:=gW c (w:=w+3) (by omega) (by omega)
 obtain ⟨ts,ets,lts,ots⟩:=om (gg:=λ d=>dOp oIx (aD 1) (dOp oMod (dFn bC (aF (aD 2) (aF (dOp lV (aD 3) (dOp uC (dC (.int 5)) (aD 0))) cK))) (dC (.int 26))) [.shr d,.shr (.str LET),.shr (.int c),.shr (.int w)]) (ds:=tw 0 (Int.toNat (1+r % 8))) (by
  intro d hm;obtain ⟨j,hj,rfl⟩:=pX hm;obtain ⟨q,eq,q0,q1⟩:=gW c (w:=w+5 * (j:Int)) (by omega) (by omega);obtain ⟨z,ez,lz⟩:=AY (Z9 _ (by decide)) (Z8 _ (by decide))
  exact ⟨z,by walk_at "ee",lz⟩)
 rw [hW] at lts;have ne:ts≠[]:=λ z=>by rw [z] at lts; simp at lts; omega
 obtain ⟨jl,jo⟩:=Dz ots ne
 have nk:aT (Txt.join "" ts)=true:=by
  unfold aT
  have jo':(Txt.join "" ts).cps.toList.all lower=true:=by
   rw [Array.all_toList];exact jo
  rw [Zo (by omega),Zo (by omega),jo'];rfl
 refine ⟨Txt.join "" ts,?_,nk⟩;unfold fG iB;dsimp only;refine c5 ?_
 refine bt (cz e_c) ?_
 refine bt (cz (by walk_at "ee")) ?_
 exact fS (A9 e_c (mx (xi rfl (by omega)) (by rw [hW]; omega) ets) (by rw [qZ ots,show Str.length ""=0 by decide +kernel]; omega))
def rP (c:Int) {w:Int} (w0:0<=w) (w1:w<=1000):∃ z:Str,fG [.int c,.int w]=some (.shr (.str z))/\aT z=true:=wJ c w0 (by omega)
def de {z:Str} (h:aT z=true):gA [.str z]=some (.shr .non):=by
 have l:z.length<=100:=by
  unfold aT at h;rw [Z6,Z6] at h;have:=Xx h.1.2;omega
 have e:=xf z l;rw [h] at e;unfold gA gj;exact I0 (Ek (ko (a6 (fe (ah e_v aB) e rfl))) nofun λ _=>rfl)
def qo (ns:List Int):rL [.lst (ns.map .int)]=some (.int (ns.length:Int)):=by
 show some (D.int ((ns.map D.int).length:Nat))=_;rw [Za]
def g8 {ns:List Int} {p:Int} (h0:0<=p) (h1:p<=ns.length):fF [.int p,.lst (ns.map .int)]=some (.shr .non):=by
 have hl:=qo ns;have e1:oLe (.int 0) (.int p)=some (.bl true):=by show some (D.bl (decide _))=_; rw [Zo h0]
 have e2:oLe (.int p) (.int (ns.length:Int))=some (.bl true):=by show some (D.bl (decide _))=_; rw [Zo h1]
 unfold fF fE;exact I0 (Ek (ko (a6 (iZ (aE e_c e_v e1) (aE e_v (a8 (ah e_v aB) hl) e2)))) nofun λ _=>rfl)
def qW (i:Int):gC [.int i]=some (.shr (.bl true)):=rfl
def pT (ns:List Int) (hl:ns.length < 1000):cH [.lst (ns.map .int),.lst (ns.map .int)]=some (.shr (.bl true)):=by
 have hn:=qo ns;have e0:oNe (.int (ns.length:Int)) (.int (ns.length:Int))=some (.bl false):=by rw [ie,Zo rfl]; rfl
 obtain ⟨τ',e,s2,rfl⟩:=xr (f:=sIf (dOr (Bb (dT (dFn gC (aF (dOp oIx (aD 0) (aD 2)) cK)))) (dT (dOp oNe (dOp oIx (aD 0) (aD 2)) (dOp oIx (aD 1) (aD 2))))) (El (dC (.bl false))) lW) (gg:=gN 2) (it:=lg (aF (cV rL (aF (aD 1) cK)) cK))
  (λ j τ=>∃ s2,τ=[.shr (.lst (ns.map .int)),.shr (.lst (ns.map .int)),s2]) ((xi (ah (a8 (ah e_v aB) hn) aB) (by omega)).trans (by rw [Int.toNat_natCast])) ⟨.no,rfl⟩ (λ j d τ hd ⟨s2,e⟩=>by
    subst e;obtain ⟨e,l⟩:=pY hd;rw [Int.zero_add] at e;subst e
    have hx:oIx (.lst (ns.map .int)) (.int (j:Int))=some (.int ns[j]):=by
     obtain ⟨h,e⟩:=lO (xs:=ns.map D.int) (j:=(j:Int)) (by omega) (by rw [Za]; omega);show atI (ns.map D.int) _=_;rw [e];simp
    have e1:oNe (.int ns[j]) (.int ns[j])=some (.bl false):=by rw [ie,Zo rfl]; rfl
    exact ⟨_,[.shr (.lst (ns.map .int)),.shr (.lst (ns.map .int)),.shr (.int (j:Int))],rfl,Ek (Hm (b:=false) (ko (a6 (fe (ah (aE e_v e_v hx) aB) (qW _) rfl))) (λ _=>a6 (aE (aE e_v e_v hx) (aE e_v e_v hx) e1)) nofun) nofun λ _=>rfl,_,rfl⟩)
 unfold cH dG;exact c5 (eI (Hm (b:=false) (ko (b:=true) rfl) (λ _=>a6 (aE (a8 (ah e_v aB) hn) (a8 (ah e_v aB) hn) e0)) nofun) (bt e (fS e_c)))
end N10
end
section
namespace N10
open PySem L2
structure Pl where
 k:List Str
 w:List Str
 o:List D
structure B8 where
 i:Int
 h:Option Int
 n:Str
 r:List Int
 m:Pl
def bP:Pl:=⟨[],[],[]⟩
def mkD (b:B8):D:=.dct (b.m.k.map λ x=>((.inr x:Key),.bl true))
def wdD (b:B8):D:=.lst (b.m.w.map .str)
def roD (b:B8):D:=.tup b.m.o
def kv {β:Type} (g:B8->β) (M:List B8):List (Key×β):=M.map λ b=>((.inl b.i:Key),g b)
def fd (M:List B8) (i:Int):Option B8:=M.find? λ b=>decide (b.i=i)
def je {M:List B8} {i:Int} {b:B8} (h:fd M i=some b):b.i=i:=by simpa using List.find?_some h
def aU {M:List B8} {i:Int} {b:B8} (h:fd M i=some b):b ∈ M:=List.mem_of_find?_eq_some h
def Ar (g:B8->D) (M:List B8) (i:Int):j3 (kv g M) (.inl i)=(fd M i).map g:=by
 unfold j3 kv fd
 induction M with
 | nil=>rfl
 | cons b M ih =>
  rw [Zh,List.find?_cons,List.find?_cons]
  by_cases h:b.i=i
  · simp [h]
  ·have:decide ((Sum.inl b.i:Key)=Sum.inl i)=false:=Zk λ z=>h (by injection z)
   rw [Zk h,this];exact ih
def hD:Option Int->D
 | none=>.non
 | some j=>.int j
def trF (gv:Int) (M:List B8):List (Str×D):=[("given",.int gv),("names",.dct (kv (λ b=>.str b.n) M)),("holders",.dct (kv (λ b=>hD b.h) M)),("boxes",.dct (kv (λ b=>.lst (b.r.map .int)) M)),("marks",.dct (kv mkD M)),("words",.dct (kv wdD M)),("rows",.dct (kv roD M))]
def trD (C:Addr) (gv:Int) (M:List B8):D:=.obj C (trF gv M)
def faD (M:List B8):D:=.dct (kv (λ b=>.tup [hD b.h,.str b.n]) M)
def bh {g:B8->D} {M:List B8} {i:Int} {b:B8} (h:fd M i=some b):cL (.dct (kv g M)) (.int i)=some (g b):=by
 show j3 (kv g M) (.inl i)=_;rw [Ar,h];rfl
def xC {g:B8->D} {M:List B8} {i:Int} {b:B8} (h:fd M i=some b):fX (.int i) (.dct (kv g M))=some (.bl false):=by
 show some (D.bl (!(j3 (kv g M) (.inl i)).isSome))=_;rw [Ar,h];rfl
def rX:∀ (l:List Str) ,ox (l.map λ x=>((.inr x:Key),D.bl true))=some l
 | []=>rfl
 | x::l=>by
  show (ox (l.map λ x=>((.inr x:Key),D.bl true))).map (x::·)=_;rw [rX l];rfl
section
variable {t:Adr} {gv:Int} {M:List B8} {i:Int} {b:B8} {z:Int}
def fN:(trF gv M).lookup (Str.ofString "names")=some (D.dct (kv (λ b=>.str b.n) M)):=rfl
def fH:(trF gv M).lookup (Str.ofString "holders")=some (D.dct (kv (λ b=>hD b.h) M)):=rfl
def fB:(trF gv M).lookup (Str.ofString "boxes")=some (D.dct (kv (λ b=>.lst (b.r.map .int)) M)):=rfl
def fK:(trF gv M).lookup (Str.ofString "marks")=some (D.dct (kv mkD M)):=rfl
def fW:(trF gv M).lookup (Str.ofString "words")=some (D.dct (kv wdD M)):=rfl
def fR:(trF gv M).lookup (Str.ofString "rows")=some (D.dct (kv roD M)):=rfl
def d5 (h:fd M i=some b):d7 t [trD t.af gv M,.int i]=some (.shr .non):=by
 have e1:=xC (g:=λ b=>.str b.n) h;unfold d7 gy;exact I0 (Ek (a6 (aE e_v (fw e_v fN) e1)) nofun λ _=>rfl)
def chk (h:fd M i=some b):vk (l7 t.af "check" (d7 t) (aD 0) (aF (aD 1) cK)) [.shr (trD t.af gv M),.shr (.int i)]=some (.next [.shr (trD t.af gv M),.shr (.int i)]) :=
 EX (cU e_v (ah e_v aB) rfl (d5 h) rfl)
def oH (h:fd M i=some b):bQ t [trD t.af gv M,.int i]=some (.shr (hD b.h)):=by
 unfold bQ c7;exact c5 (bt (chk h) (fS (aE (fw e_v fH) e_v (bh h))))
def nJ (h:fd M i=some b):bK t [trD t.af gv M,.int i]=some (.own (.lst (b.r.map .int))):=by
 unfold bK dM;exact c5 (bt (chk h) (kF (a8 (ah (aE (fw e_v fB) e_v (bh h)) aB) rfl)))
def zJ (h:fd M i=some b) (h64:b.m.k.length < 64):dS t [trD t.af gv M,.int i]=some (.own (.lst ((fM b.m.k).map .str))):=by
 unfold dS dJ;refine c5 (bt (chk h) (kF ?_));unfold sJ;rw [aE (fw e_v fK) e_v (bh h)];show (ox (b.m.k.map λ x=>((.inr x:Key),D.bl true))).bind _=_;rw [rX];show (if b.m.k.length < 64 then _ else none)=_;rw [if_pos h64]
def yr (h:fd M i=some b):dR t [trD t.af gv M,.int i]=some (.own (.lst (b.m.w.map .str))):=by
 unfold dR dH;exact c5 (bt (chk h) (kF (a8 (ah (aE (fw e_v fW) e_v (bh h)) aB) rfl)))
def BE (h:fd M i=some b):ee t [trD t.af gv M,.int i]=some (.shr (.tup b.m.o)):=by
 unfold ee d9;exact c5 (bt (chk h) (fS (aE (fw e_v fR) e_v (bh h))))
inductive Ch (M:List B8):Int->Nat->Prop where
 | top {i:Int} {b:B8} (h:fd M i=some b) (e:b.h=none):Ch M i 0
 | up {i j:Int} {n:Nat} {b:B8} (h:fd M i=some b) (e:b.h=some j) (c:Ch M j n):Ch M i (n+1)
def Ch.get {n:Nat} (h:Ch M i n):∃ b,fd M i=some b:=by
 cases h with
 | top h _=>exact ⟨_,h⟩
 | up h _ _=>exact ⟨_,h⟩
def xF {n:Nat} (c:Ch M i n):∀ (m:Int),∃ x,bT (dT (dOp m3 (dOp oIx (dOp cL (aD 0) (aD 1)) (dC (.int 0))) (dC .non))) (gJ (ve 1 (dOp oIx (dOp cL (aD 0) (aD 1)) (dC (.int 0)))) (ve 2 (dOp lV (aD 2) (dC (.int 1))))) (n+1) [.shr (faD M),.shr (.int i),.shr (.int m)]=some (.next [.shr (faD M),.shr x,.shr (.int (m+n))]):=by
 induction c with
 | @top i b h e =>
  intro m;have e1:cL (faD M) (.int i)=some (.tup [hD b.h,.str b.n]):=bh h
  have t1:dT (dOp m3 (dOp oIx (dOp cL (aD 0) (aD 1)) (dC (.int 0))) (dC .non)) [.shr (faD M),.shr (.int i),.shr (.int m)]=some false:=by
   rw [e] at e1;exact a6 (aE (aE (aE e_v e_v e1) e_c (jQ _ _)) e_c rfl)
  refine ⟨.int i,?_⟩;unfold bT;rw [t1];simp only [Int.natCast_zero,Int.add_zero]
 | @up i j n b h e c ih =>
  intro m;have e1:cL (faD M) (.int i)=some (.tup [hD b.h,.str b.n]):=bh h;rw [e] at e1;have t1:dT (dOp m3 (dOp oIx (dOp cL (aD 0) (aD 1)) (dC (.int 0))) (dC .non)) [.shr (faD M),.shr (.int i),.shr (.int m)]=some true:=a6 (aE (aE (aE e_v e_v e1) e_c (jQ _ _)) e_c rfl)
  have t2:gJ (ve 1 (dOp oIx (dOp cL (aD 0) (aD 1)) (dC (.int 0)))) (ve 2 (dOp lV (aD 2) (dC (.int 1)))) [.shr (faD M),.shr (.int i),.shr (.int m)]=some (.next [.shr (faD M),.shr (.int j),.shr (.int (m+1))]) :=
   bt ((cz (aE (aE e_v e_v e1) e_c (jQ _ _))).trans rfl) ((cz (aE e_v e_c (aM _ _))).trans rfl)
  obtain ⟨x,hx⟩:=ih (m+1);refine ⟨x,?_⟩
  conv=>lhs; unfold bT
  rw [t1];simp only [t2];rw [hx];simp only [Int.natCast_add,Int.natCast_one,show m+1+(n:Int)=m+((n:Int)+1) by omega]
def nB {n:Nat} (c:Ch M i n):cQ [faD M,.int i]=some (.shr (.int (n:Int))):=by
 obtain ⟨x,hx⟩:=xF c 0;have w:=iN hx;unfold cQ iC;dsimp only;refine c5 (bt rfl (bt w (fS ?_)));rw [Int.zero_add];exact aw rfl
def oB {n:Nat} (c:Ch M i n):∀ (ds:List D) (b:B8),fd M i=some b->ds.length+n < 100000->∃ es:List D,es.length=ds.length+n/\bT (dT (dOp m3 (aD 3) (dC .non))) (gJ (AD 2 (aD 3)) (ve 3 (l7 t.af "holder_of" (bQ t) (aD 0) (aF (aD 3) cK)))) (n+1) [.shr (trD t.af gv M),.shr (.int z),.own (.lst ds),.shr (hD b.h)]=some (.next [.shr (trD t.af gv M),.shr (.int z),.own (.lst es),.shr .non]):=by
 induction c with
 | @top i b h e =>
  intro ds b' hb hz;rw [h] at hb;cases hb;refine ⟨ds,rfl,?_⟩;rw [e];have t1:dT (dOp m3 (aD 3) (dC .non)) [.shr (trD t.af gv M),.shr (.int z),.own (.lst ds),.shr (hD none)]=some false:=rfl;unfold bT;rw [t1];rfl
 | @up i j n b h e c ih =>
  intro ds b' hb hz;rw [h] at hb;cases hb;obtain ⟨bj,hj⟩:=c.get;obtain ⟨es,l,hx⟩:=ih (ds++[.int j]) bj hj (by rw [Z5]; show ds.length+1+n < _; omega);refine ⟨es,by rw [l,Z5]; show ds.length+1+n=_; omega,?_⟩;rw [e];have t1:dT (dOp m3 (aD 3) (dC .non)) [.shr (trD t.af gv M),.shr (.int z),.own (.lst ds),.shr (hD (some j))]=some true:=rfl
  have t2:gJ (AD 2 (aD 3)) (ve 3 (l7 t.af "holder_of" (bQ t) (aD 0) (aF (aD 3) cK))) [.shr (trD t.af gv M),.shr (.int z),.own (.lst ds),.shr (hD (some j))]=some (.next [.shr (trD t.af gv M),.shr (.int z),.own (.lst (ds++[.int j])),.shr (hD bj.h)]) :=
   bt ((tm e_v rfl (by omega)).trans rfl) ((cz (cU e_v (ah e_v aB) rfl (oH hj) rfl)).trans rfl)
  conv=>lhs; unfold bT
  rw [t1];simp only [t2];exact hx
def ka {n:Nat} (c:Ch M i n) (hn:n < 1000):jF t [trD t.af gv M,.int i]=some (.shr (.int (n:Int))):=by
 obtain ⟨b,h⟩:=c.get;obtain ⟨es,l,hx⟩:=oB c [] b h (by rw [Xs]; omega);have w:=iN hx
 have e1:gz t [trD t.af gv M,.int i]=some (.own (.lst es)):=by
  unfold gz gh;dsimp only;exact c5 (bt (jL (iY aB (Z3 _)) (Zb rfl)) (bt ((cz (cU e_v (ah e_v aB) rfl (oH h) rfl)).trans rfl) (bt w (vb rfl))))
 unfold jF jB;refine c5 (fS (a8 (ah (fe (ah e_v (ah e_v aB)) e1 rfl) aB) ?_));show some (D.int (es.length:Int))=_;rw [l,Xs,Nat.zero_add]
end
end N10
end
section
namespace N10
open PySem L2
def trG (C:Addr) (g nm ho bx mk wd rw:Mt):Mt:=.n (.o C) [(.inr "given",g),(.inr "names",nm),(.inr "holders",ho),(.inr "boxes",bx),(.inr "marks",mk),(.inr "words",wd),(.inr "rows",rw)]
def kM (g:B8->Mt) (M:List B8):Mt:=.n .d (kv g M)
def mkM (b:B8):Mt:=.n .d (b.m.k.map λ x=>((.inr x:Key),.s (.bl true)))
def wdM (b:B8):Mt:=lM (b.m.w.map .str)
def roM (b:B8):Mt:=.s (.tup b.m.o)
def bxM (M:List B8):Mt:=kM (λ b=>lM (b.r.map .int)) M
def trM (C:Addr) (gv:Int) (M:List B8):Mt:=trG C (.s (.int gv)) (kM (λ b=>.s (.str b.n)) M) (kM (λ b=>.s (hD b.h)) M) (bxM M) (kM mkM M) (kM wdM M) (kM roM M)
def faM (M:List B8):Mt:=kM (λ b=>.s (.tup [hD b.h,.str b.n])) M
def zW (g:B8->Mt) (M:List B8):frz (kM g M)=.dct (kv (λ b=>frz (g b)) M):=by
 unfold kM kv;rw [frz,ng,Zw];rfl
def zV (d:D):frz (.s d)=d:=by rw [frz]
def f7 (ns:List D):frz (lM ns)=.lst ns:=by
 unfold lM;rw [frz,so,Zw];congr 1;exact (Zu (g:=id) λ d _=>by show frz (.s d)=id d; rw [frz]; rfl).trans (List.map_id _)
def GP (b:B8):frz (mkM b)=mkD b:=by
 unfold mkM mkD;rw [frz,ng,Zw];exact Yh D.dct (Zu λ x _=>by show (_,frz (.s _))=_; rw [zV])
def GN (b:B8):frz (wdM b)=wdD b:=by
 unfold wdM wdD;rw [f7]
def GO (b:B8):frz (roM b)=roD b:=by
 unfold roM roD;rw [zV]
def oJ (C:Addr) (gv:Int) (M:List B8):frz (trM C gv M)=trD C gv M:=by
 unfold trM trG bxM;rw [frz];simp only [su,Zh,Xz,zW,zV,f7,GP,GN,GO,strOf];rfl
def mr (M:List B8):frz (bxM M)=.dct (kv (λ b=>.lst (b.r.map .int)) M):=by
 unfold bxM;rw [zW];simp only [f7]
def oK (M:List B8):frz (faM M)=faD M:=by
 unfold faM faD;rw [zW];simp only [zV]
def tf {C:Addr} {g nm ho bx mk wd rw x:Mt}:(trG C g nm ho bx mk wd rw).put [.k (.inr "boxes")] x=trG C g nm ho x mk wd rw:=by
 show Mt.n (.o C) [(.inr "given",g),(.inr "names",nm),(.inr "holders",ho),(.inr "boxes",bx.put [] x),(.inr "marks",mk),(.inr "words",wd),(.inr "rows",rw)]=_;cases bx <;> rfl
def uR {C:Addr} {g nm ho bx mk wd rw:Mt} {k:Key}:(trG C g nm ho bx mk wd rw).get [.k (.inr "boxes"),.k k]=bx.get [.k k]:=rfl
def kn {C:Addr} {g nm ho bx mk wd rw x:Mt} {k:Key}:(trG C g nm ho bx mk wd rw).put [.k (.inr "boxes"),.k k] x=trG C g nm ho (bx.put [.k k] x) mk wd rw:=rfl
def lj (g:B8->Mt) (M:List B8) (i:Int):(kM g M).get [.k (.inl i)]=(fd M i).map g:=by
 unfold kM;rw [z7];unfold kv fd
 induction M with
 | nil=>rfl
 | cons b M ih =>
  rw [Zh,List.find?_cons,List.find?_cons]
  by_cases h:b.i=i
  · simp [h]
  ·have:decide ((Sum.inl b.i:Key)=Sum.inl i)=false:=Zk λ z=>h (by injection z)
   rw [Zk h,this];exact ih
end N10
end
section
namespace N10
open PySem L2
def vD {C:Addr} {g ho bx mk wd rw mv:Mt} {cs:List (Key×Mt)} {b:Bool} {r:List Sm} {gk:DE} {fv:DEm} {s:Sm} {d:D} {k:Key} (h1:fv (.mu b (trG C g (.n .d cs) ho bx mk wd rw)::r)=some (s,.mu b (trG C g (.n .d cs) ho bx mk wd rw)::r)) (h3:gk (aY (.mu b (trG C g (.n .d cs) ho bx mk wd rw)::r))=some d) (h4:l3 d=some k) (h5:toM s=some mv) (h7:cs.length < 100000) :
  cA (jq C "names" (cq 0)) gk fv (.mu b (trG C g (.n .d cs) ho bx mk wd rw)::r)=some (.next (.mu b (trG C g (.n .d (eD cs k mv)) ho bx mk wd rw)::r)):=by
 refine (dw h1 (jg bq rfl) h3 h4 h5 rfl h7).trans ?_
 rfl
def kI {C:Addr} {g nm bx mk wd rw mv:Mt} {cs:List (Key×Mt)} {b:Bool} {r:List Sm} {gk:DE} {fv:DEm} {s:Sm} {d:D} {k:Key} (h1:fv (.mu b (trG C g nm (.n .d cs) bx mk wd rw)::r)=some (s,.mu b (trG C g nm (.n .d cs) bx mk wd rw)::r)) (h3:gk (aY (.mu b (trG C g nm (.n .d cs) bx mk wd rw)::r))=some d) (h4:l3 d=some k) (h5:toM s=some mv) (h7:cs.length < 100000) :
  cA (jq C "holders" (cq 0)) gk fv (.mu b (trG C g nm (.n .d cs) bx mk wd rw)::r)=some (.next (.mu b (trG C g nm (.n .d (eD cs k mv)) bx mk wd rw)::r)):=by
 refine (dw h1 (jg bq rfl) h3 h4 h5 rfl h7).trans ?_
 rfl
def vH {C:Addr} {g nm ho mk wd rw mv:Mt} {cs:List (Key×Mt)} {b:Bool} {r:List Sm} {gk:DE} {fv:DEm} {s:Sm} {d:D} {k:Key} (h1:fv (.mu b (trG C g nm ho (.n .d cs) mk wd rw)::r)=some (s,.mu b (trG C g nm ho (.n .d cs) mk wd rw)::r)) (h3:gk (aY (.mu b (trG C g nm ho (.n .d cs) mk wd rw)::r))=some d) (h4:l3 d=some k) (h5:toM s=some mv) (h7:cs.length < 100000) :
  cA (jq C "boxes" (cq 0)) gk fv (.mu b (trG C g nm ho (.n .d cs) mk wd rw)::r)=some (.next (.mu b (trG C g nm ho (.n .d (eD cs k mv)) mk wd rw)::r)):=by
 refine (dw h1 (jg bq rfl) h3 h4 h5 rfl h7).trans ?_
 rfl
def vE {C:Addr} {g nm ho bx wd rw mv:Mt} {cs:List (Key×Mt)} {b:Bool} {r:List Sm} {gk:DE} {fv:DEm} {s:Sm} {d:D} {k:Key} (h1:fv (.mu b (trG C g nm ho bx (.n .d cs) wd rw)::r)=some (s,.mu b (trG C g nm ho bx (.n .d cs) wd rw)::r)) (h3:gk (aY (.mu b (trG C g nm ho bx (.n .d cs) wd rw)::r))=some d) (h4:l3 d=some k) (h5:toM s=some mv) (h7:cs.length < 100000) :
  cA (jq C "marks" (cq 0)) gk fv (.mu b (trG C g nm ho bx (.n .d cs) wd rw)::r)=some (.next (.mu b (trG C g nm ho bx (.n .d (eD cs k mv)) wd rw)::r)):=by
 refine (dw h1 (jg bq rfl) h3 h4 h5 rfl h7).trans ?_
 rfl
def vB {C:Addr} {g nm ho bx mk rw mv:Mt} {cs:List (Key×Mt)} {b:Bool} {r:List Sm} {gk:DE} {fv:DEm} {s:Sm} {d:D} {k:Key} (h1:fv (.mu b (trG C g nm ho bx mk (.n .d cs) rw)::r)=some (s,.mu b (trG C g nm ho bx mk (.n .d cs) rw)::r)) (h3:gk (aY (.mu b (trG C g nm ho bx mk (.n .d cs) rw)::r))=some d) (h4:l3 d=some k) (h5:toM s=some mv) (h7:cs.length < 100000) :
  cA (jq C "words" (cq 0)) gk fv (.mu b (trG C g nm ho bx mk (.n .d cs) rw)::r)=some (.next (.mu b (trG C g nm ho bx mk (.n .d (eD cs k mv)) rw)::r)):=by
 refine (dw h1 (jg bq rfl) h3 h4 h5 rfl h7).trans ?_
 rfl
def yL {C:Addr} {g nm ho bx mk wd mv:Mt} {cs:List (Key×Mt)} {b:Bool} {r:List Sm} {gk:DE} {fv:DEm} {s:Sm} {d:D} {k:Key} (h1:fv (.mu b (trG C g nm ho bx mk wd (.n .d cs))::r)=some (s,.mu b (trG C g nm ho bx mk wd (.n .d cs))::r)) (h3:gk (aY (.mu b (trG C g nm ho bx mk wd (.n .d cs))::r))=some d) (h4:l3 d=some k) (h5:toM s=some mv) (h7:cs.length < 100000) :
  cA (jq C "rows" (cq 0)) gk fv (.mu b (trG C g nm ho bx mk wd (.n .d cs))::r)=some (.next (.mu b (trG C g nm ho bx mk wd (.n .d (eD cs k mv)))::r)):=by
 refine (dw h1 (jg bq rfl) h3 h4 h5 rfl h7).trans ?_
 rfl
def xu {C:Addr} {g nm ho bx mk wd rw mv:Mt} {b:Bool} {r:List Sm} {fv:DEm} {s:Sm} (h1:fv (.mu b (trG C g nm ho bx mk wd rw)::r)=some (s,.mu b (trG C g nm ho bx mk wd rw)::r)) (h5:toM s=some mv) :
  tq C "given" (cq 0) fv (.mu b (trG C g nm ho bx mk wd rw)::r)=some (.next (.mu b (trG C mv nm ho bx mk wd rw)::r)):=by
 refine (Gf h1 bq h5 rfl (Zb rfl)).trans ?_
 rfl
def Nd (M:List B8):Prop:=(M.map B8.i).Nodup
def fd_none {M:List B8} {i:Int}:fd M i=none↔∀ b ∈ M,b.i≠i:=by
 unfold fd;rw [List.find?_eq_none];exact ⟨λ h b hb e=>h b hb (by simp [e]),λ h b hb e=>h b hb (by simpa using e)⟩
def iW {M:List B8} (nd:Nd M) {b:B8} (hb:b ∈ M):fd M b.i=some b:=by
 unfold Nd at nd;unfold fd
 induction M with
 | nil=>cases hb
 | cons c M ih =>
  rw [Zh,Zy] at nd;rw [List.find?_cons];rcases Zl.mp hb with rfl | hb
  · simp
  ·have ne:c.i≠b.i:=λ e=>nd.1 (by rw [e]; exact Yb hb)
   rw [Zk ne];exact ih nd.2 hb
def Bf {β:Type} (g:B8->β) (M:List B8) (i:Int):((kv g M).any λ c=>decide (c.1=.inl i))=(fd M i).isSome:=by
 unfold kv fd;rw [List.any_map,<- List.isSome_find?];congr 2
 funext b
 show decide ((Sum.inl b.i:Key)=Sum.inl i)=decide (b.i=i);exact Xq.mpr ⟨λ z=>by injection z,λ z=>by rw [z]⟩
def yN {g:B8->Mt} {M:List B8} {i:Int} {m:Mt} (h:fd M i=none):eD (kv g M) (.inl i) m=kv g M++[(.inl i,m)]:=by
 unfold eD;rw [Bf,h];rfl
def Dx {β:Type} (g:B8->β) (M:List B8) (b:B8):kv g (M++[b])=kv g M++[(.inl b.i,g b)]:=by
 unfold kv;rw [Zr];rfl
def iP {g:B8->Mt} {M:List B8} {b:B8} (h:fd M b.i=none):eD (kv g M) (.inl b.i) (g b)=kv g (M++[b]):=by rw [yN h,Dx]
def eU {β:Type} (g:B8->β) (M:List B8):(kv g M).length=M.length:=Za _
def upR (M:List B8) (i:Int) (r:List Int):List B8:=M.map λ b=>if b.i=i then { b with r:=r } else b
def mP {β:Type} (g:B8->β) (M:List B8) (i:Int) (r:List Int) (hg:∀ b:B8,g { b with r:=r }=g b):kv g (upR M i r)=kv g M:=by
 unfold kv upR;rw [Zw];refine Zu λ b _=>?_
 show ((Sum.inl (if b.i=i then { b with r:=r } else b).i:Key),g (if b.i=i then { b with r:=r } else b))=_;split
 · rw [hg]
 · rfl
def rn {M:List B8} {i:Int} {b:B8} {r:List Int} (nd:Nd M) (h:fd M i=some b):(bxM M).put [.k (.inl i)] (lM (r.map .int))=bxM (upR M i r):=by
 have hb:=aU h;have hi:=je h;obtain ⟨l1,l2,rfl⟩:=List.append_of_mem hb;have nd':=nd;unfold Nd at nd';rw [Zr,Zh,Yd,Zy] at nd';have n1:∀ c ∈ l1,c.i≠i:=λ c hc e=>nd'.2.2 c.i (Yb hc) b.i (Zd ..) (by rw [e,hi])
 have n2:∀ c ∈ l2,c.i≠i:=λ c hc e=>nd'.2.1.1 (by rw [hi,<- e]; exact Yb hc)
 have ix:((kv (λ b=>lM (b.r.map .int)) (l1++b::l2)).findIdx? λ c=>decide (c.1=.inl i))=some l1.length:=by
  unfold kv;rw [List.findIdx?_map,List.findIdx?_append]
  have e1:(l1.findIdx? ((λ c:Key×Mt=>decide (c.1=Sum.inl i)) ∘ λ b=>((.inl b.i:Key),lM (b.r.map .int))))=none:=by
   rw [List.findIdx?_eq_none_iff];intro c hc;exact Zk λ z=>n1 c hc (by injection z)
  rw [e1,List.findIdx?_cons];have e2:((λ c:Key×Mt=>decide (c.1=Sum.inl i)) ∘ λ b:B8=>((.inl b.i:Key),lM (b.r.map .int))) b=true:=Zo (by show (Sum.inl b.i:Key)=Sum.inl i; rw [hi]);rw [e2];simp
 have gx:(kv (λ b=>lM (b.r.map .int)) (l1++b::l2))[l1.length]?=some ((.inl b.i:Key),lM (b.r.map .int)):=by
  unfold kv;rw [List.getElem?_map,List.getElem?_append_right (Zs _),X1];rfl
 show (match (kv (λ b=>lM (b.r.map .int)) (l1++b::l2)).findIdx? (λ c=>decide (c.1=.inl i)) with | none=>Mt.n .d (kv (λ b=>lM (b.r.map .int)) (l1++b::l2)) | some j=>match (kv (λ b=>lM (b.r.map .int)) (l1++b::l2))[j]? with | none=>Mt.n .d (kv (λ b=>lM (b.r.map .int)) (l1++b::l2)) | some c=>.n .d ((kv (λ b=>lM (b.r.map .int)) (l1++b::l2)).set j (c.1,Mt.put c.2 [] (lM (r.map .int)))))=_;simp only [ix,gx];congr 1;unfold kv upR;rw [Zr,Zh,Zr,Zh,Zr,Zh,List.set_append_right _ _ (by rw [Za]; exact Zs _),Za,X1];congr 1
 ·rw [Zw]
  refine Zu λ c hc=>?_
  show _=((Sum.inl (if c.i=i then { c with r:=r } else c).i:Key),lM ((if c.i=i then { c with r:=r } else c).r.map .int));rw [if_neg (n1 c hc)]
 ·show (_,Mt.put (lM (b.r.map .int)) [] (lM (r.map .int)))::_=_
  rw [if_pos hi];congr 1;rw [Zw];refine Zu λ c hc=>?_
  show _=((Sum.inl (if c.i=i then { c with r:=r } else c).i:Key),lM ((if c.i=i then { c with r:=r } else c).r.map .int));rw [if_neg (n2 c hc)]
end N10
end
section
namespace N10
open PySem L2
section
variable {t:Adr} {gv:Int} {M:List B8} {nm:Str} {h:Option Int}
def fi {C:Addr} {b:Bool} {r:List Sm}:aY (.mu b (trM C gv M)::r)=.shr (trD C gv M)::aY r:=by
 show EN (.mu b (trM C gv M))::_=_;show Sl.shr (frz (trM C gv M))::_=_;rw [oJ]
def sG (hl:M.length < 1000) (hf:fd M gv=none):gF t [.mu true (trM t.af gv M),.shr (hD h),.shr (.str nm)]=some (.shr (.int gv),[.mu true (trM t.af (gv+1) (M++[⟨gv,h,nm,[],bP⟩])),.no,.no]):=by
 unfold gF gu;dsimp only;refine (cZ (s:=.shr (.int gv)) (τ:=[.mu true (trM t.af (gv+1) (M++[⟨gv,h,nm,[],bP⟩])),.shr (hD h),.shr (.str nm),.shr (.int gv)]) ?_).trans rfl;have hz:∀ g:B8->Mt,(kv g M).length < 100000:=λ g=>by rw [eU]; omega
 refine aC (τ':=[.mu true (trM t.af gv M),.shr (hD h),.shr (.str nm),.shr (.int gv)]) (bG (s:=.shr (.int gv)) (v_S ?_ rfl) (Zb rfl) rfl) ?_
 ·show dUn (tR t.af "given") (aD 0) (aY (.mu true (trM t.af gv M)::[.shr (hD h),.shr (.str nm),.no]))=_
  rw [fi];exact fw (aw rfl) rfl
 refine aC (xu (mv:=.s (.int (gv+1))) (v_N (aE (aw rfl) e_c (aM _ _))) rfl) ?_
 refine aC (vD (v_N (aw rfl)) (aw rfl) rfl rfl (hz _)) ?_
 refine aC (kI (v_N (aw rfl)) (aw rfl) rfl rfl (hz _)) ?_
 refine aC (vH (v_O (iY aB (Z3 _)) rfl) (aw rfl) rfl rfl (hz _)) ?_
 refine aC (vE rfl (aw rfl) rfl rfl (hz _)) ?_
 refine aC (vB (v_O (iY aB (Z3 _)) rfl) (aw rfl) rfl rfl (hz _)) ?_
 refine aC (yL (v_N (l6 aB (Z3 _))) (aw rfl) rfl rfl (hz _)) ?_
 refine (ig (v_N (aw rfl))).trans ?_
 have sn:∀ g:B8->Mt,eD (kv g M) (.inl gv) (g ⟨gv,h,nm,[],bP⟩)=kv g (M++[⟨gv,h,nm,[],bP⟩]):=λ g=>iP (b:=⟨gv,h,nm,[],bP⟩) hf
 unfold trM bxM kM;rw [<- sn,<- sn,<- sn,<- sn,<- sn,<- sn];rfl
def iq {C:Addr} {x:Str} {cs:List (Key×Mt)} {mv:Mt} {b:Bool} {r:List Sm} {fv:DEm} {s:Sm} (h1:fv (.mu b (.n (.o C) cs)::r)=some (s,.mu b (.n (.o C) cs)::r)) (h5:toM s=some mv) (h7:cs.length < 1000) :
 tq C x (cq 0) fv (.mu b (.n (.o C) cs)::r)=some (.next (.mu b (.n (.o C) (eD cs (.inr x) mv))::r)):=(Gf h1 bq h5 rfl h7).trans rfl
def DF (hn:aT nm=true):dU t [.mu true (.n (.o t.af) []),.shr (.str nm)]=some (.shr .non,[.mu true (trM t.af 1 [⟨0,none,nm,[],bP⟩]),.no]):=by
 unfold dU dN;dsimp only;refine (EZ (τ:=[.mu true (trM t.af 1 [⟨0,none,nm,[],bP⟩]),.shr (.str nm)]) ?_).trans rfl;refine aC (cM (fe (ah (aw rfl) aB) (de hn) rfl)) ?_
 refine aC (iq (v_N e_c) rfl (Zb rfl)) ?_
 refine aC (iq rfl rfl (Zb rfl)) ?_
 refine aC (iq rfl rfl (Zb rfl)) ?_
 refine aC (iq rfl rfl (Zb rfl)) ?_
 refine aC (iq rfl rfl (Zb rfl)) ?_
 refine aC (iq rfl rfl (Zb rfl)) ?_
 refine aC (iq rfl rfl (Zb rfl)) ?_
 have e:=sG (t:=t) (gv:=0) (M:=[]) (nm:=nm) (h:=none) (by decide) rfl;refine Gg (s:=.shr (.int 0)) (v_M (C:=t.af) (i:=0) (q:=[]) (ss:=[.mu true (trM t.af 0 []),.shr (hD none),.shr (.str nm)]) bq rfl rfl (aZ (q_N e_c) (aZ (q_N (aw rfl)) rfl)) rfl e ?_);rfl
end
end N10
end
section
namespace N10
open PySem L2
def insI (r:List Int) (p x:Int):List Int:=r.take p.toNat++x::r.drop p.toNat
def si (r:List Int) (p x:Int):Mt.n .l (Ie ((r.map D.int).map λ d=>((.inl 0:Key),Mt.s d)) p.toNat (.s (.int x)))=lM ((insI r p x).map .int):=by
 unfold lM insI Ie;rw [Zr,Zr,Zh,Zh,X4,X4,X5,X5]
def GY {M:List B8} {i:Int} {b c:B8} (h:fd M i=some b):fd (M++[c]) i=some b:=by
 unfold fd at *;rw [List.find?_append,h];rfl
def AS {M:List B8} {b:B8} (nd:Nd M) (h:fd M b.i=none):Nd (M++[b]):=by
 unfold Nd at *;rw [Zr,Yd];refine ⟨nd,by simp,λ x hx y hy e=>?_⟩;obtain ⟨c,hc,rfl⟩:=Z4.mp hx;have:y=b.i:=by simpa using hy
 exact fd_none.mp h c hc (by rw [e,this])
def DK {i j:Int} (h:i<=j):oGt (.int i) (.int j)=some (.bl false):=by
 show some (D.bl (decide _))=_;rw [Zk (by omega)]
def A1 {g:B8->D} (M:List B8):ju [.dct (kv g M)]=some (.int (M.length:Int)):=by
 show some (D.int ((kv g M).length:Nat))=_;rw [eU]
def fU (M:List B8) (h:Int) (b:B8) (p gv:Int) (nm:Str):List B8:=upR (M++[⟨gv,some h,nm,[],bP⟩]) h (insI b.r p gv)
def uQ {C:Addr} {gv:Int} {M:List B8} {i:Int} {r:List Int}:trM C gv (upR M i r)=trG C (.s (.int gv)) (kM (λ b=>.s (.str b.n)) M) (kM (λ b=>.s (hD b.h)) M) (bxM (upR M i r)) (kM mkM M) (kM wdM M) (kM roM M):=by
 unfold trM kM;rw [mP _ _ _ _ (λ _=>rfl),mP _ _ _ _ (λ _=>rfl),mP _ _ _ _ (λ _=>rfl),mP _ _ _ _ (λ _=>rfl),mP _ _ _ _ (λ _=>rfl)]
section
variable {t:Adr} {gv:Int} {M:List B8} {nm:Str} {h p:Int} {b:B8} {dp:Nat}
def Fb (nd:Nd M) (hf:fd M gv=none) (hb:fd M h=some b) (p0:0<=p) (p1:p<=(b.r.length:Int)) (hz:b.r.length < 1000) (hn:aT nm=true) (h90:M.length < 90) (ch:Ch M h dp) (h12:dp < 12) :
  jG t [.mu true (trM t.af gv M),.shr (.int h),.shr (.int p),.shr (.str nm)]=some (.shr (.int gv),[.mu true (trM t.af (gv+1) (fU M h b p gv nm)),.no,.no,.no]):=by
 unfold jG jE;dsimp only;refine (cZ (s:=.shr (.int gv)) (τ:=[.mu true (trM t.af (gv+1) (fU M h b p gv nm)),.shr (.int h),.shr (.int p),.shr (.str nm),.shr (.int gv)]) ?_).trans rfl;have sn:∀ {x:Sm},aY [.mu true (trM t.af gv M),.shr (.int h),.shr (.int p),.shr (.str nm),x]=.shr (trD t.af gv M)::aY [.shr (.int h),.shr (.int p),.shr (.str nm),x]:=fi
 refine aC (cM (τ:=[.mu true (trM t.af gv M),.shr (.int h),.shr (.int p),.shr (.str nm),.no]) (by rw [sn]; exact cU (aw rfl) (ah (aw rfl) aB) rfl (d5 hb) rfl)) ?_
 refine aC (cM (by rw [sn]; exact fe (ah (aw rfl) (ah (aE (fw (aw rfl) fB) (aw rfl) (bh hb)) aB)) (g8 p0 p1) rfl)) ?_
 refine aC (cM (by rw [sn]; exact fe (ah (aw rfl) aB) (de hn) rfl)) ?_
 refine aC (c6 (t_S (by rw [sn]; exact a6 (aE (aE (a8 (ah (fw (aw rfl) fN) aB) (A1 M)) e_c (aM _ _)) e_c (DK (by omega))))) rfl) ?_
 refine aC (c6 (t_S (by rw [sn]; exact a6 (aE (aE (fe (ah (aw rfl) (ah (aw rfl) aB)) (ka ch (by omega)) rfl) e_c (aM _ _)) e_c (DK (by omega))))) rfl) ?_
 have e:=sG (t:=t) (nm:=nm) (h:=some h) (show M.length < 1000 by omega) hf;refine aC (τ':=[.mu true (trM t.af (gv+1) (M++[⟨gv,some h,nm,[],bP⟩])),.shr (.int h),.shr (.int p),.shr (.str nm),.shr (.int gv)]) (bG (s:=.shr (.int gv)) (v_M (C:=t.af) (i:=0) (q:=[]) (ss:=[.mu true (trM t.af gv M),.shr (hD (some h)),.shr (.str nm)]) (τ':=[.mu true (trM t.af (gv+1) (M++[⟨gv,some h,nm,[],bP⟩])),.shr (.int h),.shr (.int p),.shr (.str nm),.no]) bq rfl rfl (aZ (q_N (aw rfl)) (aZ (q_N (aw rfl)) rfl)) rfl e rfl) (Zb rfl) rfl) ?_
 have hb1:fd (M++[⟨gv,some h,nm,[],bP⟩]) h=some b:=GY hb;have nd1:Nd (M++[⟨gv,some h,nm,[],bP⟩]):=AS (b:=⟨gv,some h,nm,[],bP⟩) nd hf
 have hg:aO [.mu true (trM t.af (gv+1) (M++[⟨gv,some h,nm,[],bP⟩])),.shr (.int h),.shr (.int p),.shr (.str nm),.shr (.int gv)] 0 [.k (.inr "boxes"),.k (.inl h)]=some (lM (b.r.map .int)):=by
  rw [kS rfl];refine uR.trans ?_
  refine (lj _ _ _).trans ?_
  rw [hb1];rfl
 refine aC (zL (cs0:=_) (jX (jg bq rfl) (aw rfl) rfl rfl) hg (aw rfl) (v_N (aw rfl)) rfl hg ⟨p0,by rw [Za,Za]; exact p1,by rw [Za,Za]; omega⟩) ?_
 rw [cT rfl,si];refine (ig (v_N (aw rfl))).trans ?_
 have ep:(trM t.af (gv+1) (M++[⟨gv,some h,nm,[],bP⟩])).put [.k (.inr "boxes"),.k (.inl h)] (lM ((insI b.r p gv).map .int))=trM t.af (gv+1) (fU M h b p gv nm):=by
  refine kn.trans ?_
  rw [rn nd1 hb1];unfold fU;rw [uQ]
 show some (pM.ret _ (List.set _ 0 (.mu true ((trM t.af (gv+1) (M++[⟨gv,some h,nm,[],bP⟩])).put [.k (.inr "boxes"),.k (.inl h)] (lM ((insI b.r p gv).map .int))))))=_;rw [ep];rfl
end
end N10
end
section
namespace N10
open PySem L2
structure MOk (gv:Int) (M:List B8):Prop where
 nd:Nd M
 lt:∀ b ∈ M,0<=b.i/\b.i < gv
 root:∃ b,fd M 0=some b/\b.h=none
 hol:∀ b ∈ M,b.i≠0->∃ j p,b.h=some j/\fd M j=some p/\b.i ∈ p.r
 kid:∀ b ∈ M,∀ c ∈ b.r,∃ d,fd M c=some d/\d.h=some b.i
 rnd:∀ b ∈ M,b.r.Nodup
 ch:∀ b ∈ M,∃ n,Ch M b.i n/\n<=12
inductive Anc (M:List B8) (a:Int):Int->Prop where
 | refl:Anc M a a
 | up {x j:Int} {b:B8} (h:fd M x=some b) (e:b.h=some j) (c:Anc M a j):Anc M a x
inductive Sub (M:List B8):List Int->List Int->Prop where
 | nil:Sub M [] []
 | cons {c:Int} {cs l1 l2:List Int} {b:B8} (h:fd M c=some b) (h1:Sub M b.r l1) (h2:Sub M cs l2):Sub M (c::cs) (c::(l1++l2))
section
variable {gv:Int} {M:List B8}
def MOk.h0 (m:MOk gv M) {i j:Int} {b:B8} (hb:fd M i=some b) (hj:b.h=some j):i≠0:=λ e=>by
 obtain ⟨r,r1,r2⟩:=m.root;rw [e,r1] at hb;cases hb;rw [r2] at hj;cases hj
def MOk.Dy (m:MOk gv M) {i c:Int} {b:B8} (hb:fd M i=some b) (hc:c ∈ b.r):∃ d,fd M c=some d/\d.h=some i:=by
 obtain ⟨d,h1,h2⟩:=m.kid b (aU hb) c hc;rw [je hb] at h2;exact ⟨d,h1,h2⟩
def MOk.dp (m:MOk gv M) {i:Int} {b:B8} (hb:fd M i=some b):∃ n,Ch M i n/\n<=12:=by
 have:=m.ch b (aU hb);rw [je hb] at this;exact this
def Ch.uniq {i:Int} {n:Nat} (h:Ch M i n):∀ {k:Nat},Ch M i k->n=k:=by
 induction h with
 | top h e =>
  intro k h'
  cases h' with
  | top _ _=>rfl
  | up h1 e1 _=>rw [h] at h1; cases h1; rw [e] at e1; cases e1
 | up h e c ih =>
  intro k h'
  cases h' with
  | top h1 e1=>rw [h] at h1; cases h1; rw [e] at e1; cases e1
  | up h1 e1 c1 =>
   rw [h] at h1;cases h1;rw [e] at e1;cases e1;rw [ih c1]
def Anc.deep {a x:Int} (h:Anc M a x):∀ {n:Nat},Ch M x n->∃ k,Ch M a k/\k<=n/\(k=n->a=x):=by
 induction h with
 | refl=>intro n c; exact ⟨n,c,Zs _,λ _=>rfl⟩
 | up h e c ih =>
  intro n cx
  cases cx with
  | top h1 e1=>rw [h] at h1; cases h1; rw [e] at e1; cases e1
  | up h1 e1 c1 =>
   rw [h] at h1;cases h1;rw [e] at e1;cases e1;obtain ⟨k,k1,k2,_⟩:=ih c1;exact ⟨k,k1,by omega,λ e=>by omega⟩
def Anc.trans {a b c:Int} (h1:Anc M a b) (h2:Anc M b c):Anc M a c:=by
 induction h2 with
 | refl=>exact h1
 | up h e _ ih=>exact .up h e ih
def Anc.lin {a b x:Int} (h1:Anc M a x) (h2:Anc M b x):Anc M a b\/Anc M b a:=by
 induction h1 with
 | refl=>exact .inr h2
 | @up x j c h e _ ih =>
  cases h2 with
  | refl=>exact .inl (.up h e ‹_›)
  | up h' e' c' =>
   rw [h] at h';cases h';rw [e] at e';cases e';exact ih c'
def Sub.app {a b la lb:List Int} (h1:Sub M a la) (h2:Sub M b lb):Sub M (a++b) (la++lb):=by
 induction h1 with
 | nil=>exact h2
 | cons h _ _ ih1 ih2 =>
  have:=Sub.cons h ‹_› ih2;rw [List.cons_append,List.cons_append,List.append_assoc];exact this
def Sub.inv {c:Int} {cs l:List Int} (h:Sub M (c::cs) l):∃ b l',fd M c=some b/\l=c::l'/\Sub M (b.r++cs) l':=by
 cases h with
 | cons h h1 h2=>exact ⟨_,_,h,rfl,h1.app h2⟩
def Sub.len {s l:List Int} (h:Sub M s l):s.length<=l.length:=by
 induction h with
 | nil=>exact Zs _
 | cons _ _ _ _ ih=>rw [Zv,Zv,Z5]; omega
def Sub.roots {s l:List Int} (h:Sub M s l):∀ x ∈ s,x ∈ l:=by
 induction h with
 | nil=>intro x h; cases h
 | cons _ _ _ _ ih =>
  intro x hx;rcases Zl.mp hx with rfl | hx
  · exact Zd ..
  · exact Zc _ (Ze _ (ih x hx))
def Sub.mem (m:MOk gv M) {s l:List Int} (h:Sub M s l):∀ x ∈ l,∃ c ∈ s,Anc M c x:=by
 induction h with
 | nil=>intro x h; cases h
 | @cons c cs l1 l2 b h h1 h2 ih1 ih2 =>
  intro x hx;rcases Zl.mp hx with rfl | hx
  · exact ⟨_,Zd ..,.refl⟩
  ·rcases Zi.mp hx with hx | hx
   ·obtain ⟨d,hd,a⟩:=ih1 x hx
    obtain ⟨e,e1,e2⟩:=m.Dy h hd;exact ⟨c,Zd ..,(Anc.up e1 e2 .refl).trans a⟩
   ·obtain ⟨d,hd,a⟩:=ih2 x hx
    exact ⟨d,Zc _ hd,a⟩
def Sub.in {s l:List Int} (h:Sub M s l):∀ x ∈ l,∃ b,fd M x=some b:=by
 induction h with
 | nil=>intro x h; cases h
 | cons h _ _ ih1 ih2 =>
  intro x hx;rcases Zl.mp hx with rfl | hx
  · exact ⟨_,h⟩
  · exact (Zi.mp hx).elim (ih1 x) (ih2 x)
def Sub.closed {s l:List Int} (h:Sub M s l):∀ j ∈ l,∀ p,fd M j=some p->∀ c ∈ p.r,c ∈ l:=by
 induction h with
 | nil=>intro j h; cases h
 | @cons c cs l1 l2 b h h1 h2 ih1 ih2 =>
  intro j hj p hp x hx;rcases Zl.mp hj with rfl | hj
  ·rw [h] at hp
   cases hp;exact Zc _ (Zp _ (h1.roots x hx))
  ·rcases Zi.mp hj with hj | hj
   · exact Zc _ (Zp _ (ih1 j hj p hp x hx))
   · exact Zc _ (Ze _ (ih2 j hj p hp x hx))
def Apart (M:List B8) (s:List Int):Prop:=s.Pairwise λ c d=>∀ x,¬(Anc M c x/\Anc M d x)
def t6 (m:MOk gv M) {i:Int} {b:B8} (hb:fd M i=some b):Apart M b.r:=by
 have nd:=m.rnd b (aU hb)
 have:∀ s:List Int,(∀ c ∈ s,c ∈ b.r)->s.Nodup->Apart M s:=λ s=>by
  induction s with
  | nil=>intro _ _; exact .nil
  | cons c s ih =>
   intro hs nd;rw [Zy] at nd;refine .cons (λ d hd x ⟨a1,a2⟩=>?_) (ih (λ y hy=>hs y (Zc _ hy)) nd.2)
   have key:∀ {u v:Int},u ∈ b.r->v ∈ b.r->u≠v->Anc M u v->False:=λ {u v} hu hv ne a=>by
    obtain ⟨n,hn,_⟩:=m.dp hb;obtain ⟨e,e1,e2⟩:=m.Dy hb hv;obtain ⟨f,f1,f2⟩:=m.Dy hb hu;obtain ⟨k,k1,_,k3⟩:=a.deep (.up e1 e2 hn);exact ne (k3 (k1.uniq (.up f1 f2 hn)))
   have hc:=hs c (Zd ..);have hd':=hs d (Zc _ hd);have ne:c≠d:=λ e=>nd.1 (e ▸ hd)
   rcases a1.lin a2 with a | a
   · exact key hc hd' ne a
   · exact key hd' hc (Ne.symm ne) a
 exact this b.r (λ _ h=>h) nd
def Sub.nodup (m:MOk gv M) {s l:List Int} (h:Sub M s l):Apart M s->l.Nodup:=by
 induction h with
 | nil=>exact λ _=>.nil
 | @cons c cs l1 l2 b h h1 h2 ih1 ih2 =>
  intro ap;have ap':=List.pairwise_cons.mp ap;rw [Zy,Yd];refine ⟨λ hc=>?_,ih1 (t6 m h),ih2 ap'.2,λ x hx y hy e=>?_⟩
  ·rcases Zi.mp hc with hc | hc
   ·obtain ⟨d,hd,a⟩:=h1.mem m c hc
    obtain ⟨e,e1,e2⟩:=m.Dy h hd;obtain ⟨n,hn,_⟩:=m.dp h;obtain ⟨k,k1,k2,_⟩:=a.deep hn;have:=k1.uniq (.up e1 e2 hn);omega
   ·obtain ⟨d,hd,a⟩:=h2.mem m c hc
    exact ap'.1 d hd c ⟨.refl,a⟩
  ·subst e
   obtain ⟨d,hd,a⟩:=h1.mem m x hx;obtain ⟨e,e1,e2⟩:=m.Dy h hd;obtain ⟨d',hd',a'⟩:=h2.mem m x hy;exact ap'.1 d' hd' x ⟨(Anc.up e1 e2 .refl).trans a,a'⟩
def Sub.ex (m:MOk gv M):∀ (k:Nat) (cs:List Int),(∀ c ∈ cs,∃ b n,fd M c=some b/\Ch M c n/\13<=k+n)->∃ l,Sub M cs l:=by
 intro k
 induction k with
 | zero =>
  intro cs h
  cases cs with
  | nil=>exact ⟨[],.nil⟩
  | cons c cs =>
   obtain ⟨b,n,hb,hn,hl⟩:=h c (Zd ..);obtain ⟨n',h1,h2⟩:=m.dp hb;have:=hn.uniq h1;omega
 | succ k ih =>
  intro cs
  induction cs with
  | nil=>exact λ _=>⟨[],.nil⟩
  | cons c cs ihc =>
   intro h;obtain ⟨b,n,hb,hn,hl⟩:=h c (Zd ..);obtain ⟨l2,h2⟩:=ihc λ d hd=>h d (Zc _ hd)
   obtain ⟨l1,h1⟩:=ih b.r λ d hd=>by
    obtain ⟨e,e1,e2⟩:=m.Dy hb hd;exact ⟨e,n+1,e1,.up e1 e2 hn,by omega⟩
   exact ⟨_,.cons hb h1 h2⟩
def Sub.of (m:MOk gv M) {i:Int} {b:B8} (hb:fd M i=some b):∃ l,Sub M [i] (i::l)/\Sub M b.r l:=by
 obtain ⟨n,hn,_⟩:=m.dp hb
 obtain ⟨l,h⟩:=Sub.ex m 13 [i] λ c hc=>by
  rw [Zn.mp hc];exact ⟨b,n,hb,hn,by omega⟩
 obtain ⟨b',l',e1,rfl,h'⟩:=h.inv;rw [hb] at e1;cases e1;rw [Z0] at h';exact ⟨l',h,h'⟩
def Sub.iff (m:MOk gv M) {i:Int} {l:List Int} (h:Sub M [i] l) {x:Int} {b:B8} (hx:fd M x=some b):x ∈ l↔Anc M i x:=by
 constructor
 ·intro hl
  obtain ⟨c,hc,a⟩:=h.mem m x hl;rw [Zn.mp hc] at a;exact a
 ·intro a
  have:∀ {x:Int},Anc M i x->∀ b,fd M x=some b->x ∈ l:=λ {x} a=>by
   induction a with
   | refl=>exact λ _ _=>h.roots i (Zn.mpr rfl)
   | @up x j b h' e c ih =>
    intro b' hb'
    have ne:b.i≠0:=λ e0=>by
     obtain ⟨r,r1,r2⟩:=m.root;have e1:=je h';rw [e0] at e1;rw [<- e1,r1] at h';cases h';rw [r2] at e;cases e
    obtain ⟨j',p,q1,q2,q4⟩:=m.hol b (aU h') ne;rw [e] at q1;cases q1;have:=h.closed j (ih p q2) p q2 b.i q4;rw [je h'] at this;exact this
  exact this a b hx
def A0:∀ (l k:List Int),l.Nodup->(∀ x ∈ l,x ∈ k)->l.length<=k.length
 | [],_,_,_=>Z3 _
 | x::l,k,nd,h=>by
  rw [Zy] at nd;have hx:=h x (Zd ..)
  have:=A0 l (k.erase x) nd.2 λ y hy=>by
   have ne:y≠x:=λ e=>nd.1 (e ▸ hy)
   exact (List.mem_erase_of_ne ne).mpr (h y (Zc _ hy))
  rw [List.length_erase_of_mem hx] at this;have:0 < k.length:=List.length_pos_of_mem hx;rw [Zv];omega
def sub_len {l:List Int} (nd:l.Nodup) (h:∀ x ∈ l,∃ b,fd M x=some b):l.length<=M.length:=by
 have:=A0 l (M.map B8.i) nd λ x hx=>by
  obtain ⟨b,hb⟩:=h x hx;rw [<- je hb];exact Yb (aU hb)
 rw [Za] at this;exact this
end
end N10
end
section
namespace N10
open PySem L2
def IW {τ:List Sl} {i:Nat} {f:DE} {ds es:List D} (h:f τ=some (.lst es)) (q:τ[i]?=some (.own (.lst ds))) (hl:ds.length+es.length<=100000):BB i f τ=some (.next (τ.set i (.own (.lst (ds++es))))):=by
 unfold BB;rw [h];show (match D.lst es,τ[i]? with | .lst es,some (.own (.lst ds))=>if ds.length+es.length<=100000 then some (Out.next (τ.set i (.own (.lst (ds++es))))) else none | _,_=>none)=_;rw [q];exact if_pos hl
def G3 {τ:List Sl} {f:DE} {ds:List D} (h:f τ=some (.lst ds)):Eo f τ=some (.lst ds.reverse):=by unfold Eo; rw [h]; rfl
def EW {τ:List Sl} {i j:Nat} {ds:List D} {d:D} (q:τ[j]?=some (.own (.lst (ds++[d])))):pU i j τ=some (.next ((τ.set j (.own (.lst ds))).set i (.shr d))):=by
 unfold pU;rw [q];show ((ds++[d])[(ds++[d]).length - 1]?).map _=_;rw [Z5,List.length_singleton,Nat.add_sub_cancel,List.getElem?_append_right (Zs _),X1,List.dropLast_concat];rfl
section
variable {t:Adr} {gv:Int} {M:List B8} {c:DT} {gk:DE} {x0 x1:Sl}
def nN (hT:∀ (a y:Sl) (ds:List D),ds≠[]->c [x0,x1,a,.own (.lst ds),y]=some true)
  (hF:∀ a y:Sl,c [x0,x1,a,.own (.lst []),y]=some false)
  (hk:∀ (a s:Sl) (k:Int) (b:B8),fd M k=some b->gk [x0,x1,a,s,.shr (.int k)]=some (.lst (b.r.map .int))) :
  ∀ (l S acc:List Int) (y:Sl),Sub M S l->acc.length+l.length<=1000->∃ y',bT c (gJ (pU 4 3) (gJ (AD 2 (aD 4)) (BB 3 (Eo gk)))) (l.length+1) [x0,x1,.own (.lst (acc.map .int)),.own (.lst (S.reverse.map .int)),y]=some (.next [x0,x1,.own (.lst ((acc++l).map .int)),.own (.lst []),y']):=by
 intro l
 induction l with
 | nil =>
  intro S acc y h hz;cases h;refine ⟨y,?_⟩;unfold bT;rw [show ([]:List Int).reverse.map D.int=[] from rfl,hF,Z0]
 | cons x l ih =>
  intro S acc y h hz
  cases S with
  | nil=>cases h
  | cons k S =>
   obtain ⟨b,l',hb,e,h'⟩:=h.inv;cases e;have hz':acc.length+(l.length+1)<=1000:=hz;have hl:=h'.len;rw [Z5] at hl;obtain ⟨y',w⟩:=ih (b.r++S) (acc++[x]) (.shr (.int x)) h' (by rw [Z5]; show acc.length+1+_<=_; omega);refine ⟨y',?_⟩;have e1:(x::S).reverse.map D.int=S.reverse.map D.int++[.int x]:=by rw [Xv,Zr]; rfl
   have t1:=hT (.own (.lst (acc.map .int))) y ((x::S).reverse.map .int) (by rw [e1]; simp)
   have t2:gJ (pU 4 3) (gJ (AD 2 (aD 4)) (BB 3 (Eo gk))) [x0,x1,.own (.lst (acc.map .int)),.own (.lst ((x::S).reverse.map .int)),y]=some (.next [x0,x1,.own (.lst ((acc++[x]).map .int)),.own (.lst ((b.r++S).reverse.map .int)),.shr (.int x)]):=by
    rw [e1];refine bt ((EW rfl).trans rfl) ?_
    refine bt ((tm (aw rfl) rfl (by rw [Za]; omega)).trans rfl) ?_
    refine (IW (G3 (hk _ _ x b hb)) rfl (by rw [Za,Y4,Y4,Za]; omega)).trans ?_
    rw [List.reverse_append,Zr,Zr,<- List.map_reverse];rfl
   show bT c _ (l.length+1+1) _=_
   conv=>lhs; unfold bT
   rw [t1];simp only [t2];rw [w,List.append_assoc];rfl
def Hi {i:Int} {b:B8} {l:List Int} (hb:fd M i=some b) (h:Sub M b.r l) (hl:l.length<=1000):lU t [trD t.af gv M,.int i]=some (.own (.lst (l.map .int))):=by
 have hT:∀ (a y:Sl) (ds:List D),ds≠[]->Aa 3 [.shr (trD t.af gv M),.shr (.int i),a,.own (.lst ds),y]=some true:=λ a y ds ne=>by
  cases ds with
  | nil=>exact absurd rfl ne
  | cons d ds=>rfl
 obtain ⟨y',w⟩:=nN (x0:=.shr (trD t.af gv M)) (x1:=.shr (.int i)) hT (λ _ _=>rfl) (gk:=l7 t.af "boxes_of" (bK t) (aD 0) (aF (aD 4) cK)) (λ a s k b hb=>cU (aw rfl) (ah (aw rfl) aB) rfl (nJ hb) rfl) l b.r [] .no h (by rw [Xs,Nat.zero_add]; exact hl);unfold lU lS;dsimp only;refine c5 (bt ((jL (iY aB (Z3 _)) (Zb rfl)).trans rfl) (bt ((jL (G3 (cU (aw rfl) (ah (aw rfl) aB) rfl (nJ hb) rfl)) (Zb rfl)).trans rfl) (bt (Eq.trans ?_ (iN w)) (vb rfl))));rw [<- List.map_reverse];rfl
def yw {i:Int} {l:List Int} (h:Sub M [i] l) (hl:l.length<=1000):gD t [.dct (kv (λ b=>.lst (b.r.map .int)) M),.int i]=some (.own (.lst (l.map .int))):=by
 have hT:∀ (a y:Sl) (ds:List D),ds≠[]->Ej 3 (dT (dOp oGt (cV rL (aF (aD 3) cK)) (dC (.int 0)))) [.shr (.dct (kv (λ b=>.lst (b.r.map .int)) M)),.shr (.int i),a,.own (.lst ds),y]=some true:=λ a y ds ne=>by
  cases ds with
  | nil=>exact absurd rfl ne
  | cons d ds =>
   refine Bm rfl (a6 (aE (a8 (ah (aw rfl) aB) rfl) e_c ?_));show some (D.bl (decide _))=_;rw [Zo (by rw [Zv]; omega)]
 obtain ⟨y',w⟩:=nN (x0:=.shr (.dct (kv (λ b=>.lst (b.r.map .int)) M))) (x1:=.shr (.int i)) hT (λ _ _=>rfl) (gk:=dOp cL (aD 0) (aD 4)) (λ a s k b hb=>aE (aw rfl) (aw rfl) (bh hb)) l [i] [] .no h (by rw [Xs,Nat.zero_add]; exact hl);unfold gD gn;dsimp only;exact c5 (bt ((jL (iY aB (Z3 _)) (Zb rfl)).trans rfl) (bt ((jL (iY (ah (aw rfl) aB) (Zb rfl)) (Zb rfl)).trans rfl) (bt (iN w) (vb rfl))))
end
end N10
end
section
namespace N10
open PySem L2
def Iu (M:List B8) (j:Int) (r:List Int):(upR M j r).map B8.i=M.map B8.i:=by
 unfold upR;rw [Zw];refine Zu λ b _=>?_
 show (if b.i=j then { b with r:=r } else b).i=b.i;split <;> rfl
def wI {M:List B8} (nd:Nd M) (j:Int) (r:List Int):Nd (upR M j r):=by
 unfold Nd;rw [Iu];exact nd
def jS (M:List B8) (j:Int) (r:List Int) (x:Int):fd (upR M j r) x=(fd M x).map λ b=>if b.i=j then { b with r:=r } else b:=by
 unfold fd upR;rw [List.find?_map];congr 2
 funext b
 show decide ((if b.i=j then { b with r:=r } else b).i=x)=_;split <;> rfl
def fY (M:List B8) (j:Int) (r:List Int):(upR M j r).length=M.length:=Za _
def vy {β:Type} (f:Int->β) (x:Int):∀ r:List Int,(r.map f).eraseIdx (r.idxOf x)=(r.erase x).map f
 | []=>rfl
 | y::r=>by
  rw [Zh,List.idxOf_cons,List.erase_cons]
  by_cases h:(y == x)=true
  ·rw [if_pos h,h]
   rfl
  ·rw [if_neg h,(Xn _).mp h]
   show (f y::r.map f).eraseIdx (r.idxOf x+1)=_;rw [List.eraseIdx_cons_succ,vy f x r,Zh]
def AH (r:List Int) (x:Int):Mt.n .l (((r.map D.int).map λ d=>((.inl 0:Key),Mt.s d)).eraseIdx (r.idxOf x))=lM ((r.erase x).map .int):=by
 unfold lM;rw [Zw,vy,Zw]
def sq (r:List Int):dz (xq ((r.map D.int).map λ d=>((.inl 0:Key),Mt.s d)))=some r:=by
 have:xq ((r.map D.int).map λ d=>((.inl 0:Key),Mt.s d))=r.map .int:=by
  induction r with
  | nil=>rw [Xz,Xz,xq]
  | cons y r ih=>rw [Zh,Zh,xq,frz,ih]
 rw [this];exact se r
def fj (r:List Int):(r.map D.int).all sca=true:=by
 rw [List.all_map];exact Yq.mpr λ _ _=>rfl
end N10
end
section
namespace N10
open PySem L2
section
variable {gv:Int} {M:List B8}
def j7 (r:List Int) (p x:Int):(insI r p x).Perm (x::r):=by
 unfold insI;refine List.perm_middle.trans ?_
 rw [Xu]
def k9 {r:List Int} {p x y:Int}:y ∈ insI r p x↔y=x\/y ∈ r:=by
 rw [(j7 r p x).mem_iff,Zl]
def MOk.new (m:MOk gv M):fd M gv=none:=fd_none.mpr λ b hb e=>by
 have:=(m.lt b hb).2;omega
def MOk.pos (m:MOk gv M):0 < gv:=by
 obtain ⟨r,r1,_⟩:=m.root;have:=m.lt r (aU r1);omega
def DQ {M:List B8} {n:B8} (h:fd M n.i=none) (x:Int):fd (M++[n]) x=if x=n.i then some n else fd M x:=by
 unfold fd at *;rw [List.find?_append];split
 ·rename_i e
  rw [e,h,List.find?_cons,Zo rfl];rfl
 ·rename_i e
  rw [List.find?_cons,Zk (Ne.symm e)];cases List.find? (λ b=>decide (b.i=x)) M <;> rfl
def Ch.mono {M':List B8} (hm:∀ x d,fd M x=some d->∃ d',fd M' x=some d'/\d'.h=d.h) {x:Int} {n:Nat} (c:Ch M x n):Ch M' x n:=by
 induction c with
 | top h e =>
  obtain ⟨d',h1,h2⟩:=hm _ _ h;exact .top h1 (h2.trans e)
 | up h e c ih =>
  obtain ⟨d',h1,h2⟩:=hm _ _ h;exact .up h1 (h2.trans e) ih
def Dn (m:MOk gv M) {h p:Int} {b:B8} {nm:Str} {dp:Nat} (hb:fd M h=some b) (hc:Ch M h dp) (h12:dp < 12):MOk (gv+1) (fU M h b p gv nm):=by
 have hn:=m.new;have gp:=m.pos;have hl:0<=h/\h < gv:=by have:=m.lt b (aU hb); rw [je hb] at this; exact this
 have nd':Nd (fU M h b p gv nm):=wI (AS (b:=⟨gv,some h,nm,[],bP⟩) m.nd hn) _ _
 have fx:∀ x,fd (fU M h b p gv nm) x=(if x=gv then some ⟨gv,some h,nm,[],bP⟩ else fd M x).map λ c=>if c.i=h then { c with r:=insI b.r p gv } else c:=λ x=>by
  unfold fU;rw [jS,DQ (n:=⟨gv,some h,nm,[],bP⟩) hn]
 have bn:=m.rnd b (aU hb)
 have gb:gv ∉ b.r:=λ e=>by
  obtain ⟨d,d1,_⟩:=m.kid b (aU hb) gv e;rw [hn] at d1;cases d1
 have un:∀ c ∈ fU M h b p gv nm,(c.i=gv/\c.h=some h/\c.r=[])\/∃ d,fd M c.i=some d/\d.i=c.i/\d.h=c.h/\((c.i=h/\d=b/\c.r=insI b.r p gv)\/(c.i≠h/\c.r=d.r)):=λ c hc=>by
  have e:=iW nd' hc;rw [fx] at e;split at e
  ·rename_i ei
   have e':(if gv=h then ({ i:=gv,h:=some h,n:=nm,r:=insI b.r p gv,m:=bP }:B8) else ⟨gv,some h,nm,[],bP⟩)=c:=Zj e;rw [if_neg (by omega)] at e';subst e';exact .inl ⟨rfl,rfl,rfl⟩
  ·cases hd:fd M c.i with
   | none=>rw [hd] at e; cases e
   | some d =>
    rw [hd] at e;have e':(if d.i=h then { d with r:=insI b.r p gv } else d)=c:=Zj e;have di:=je hd;refine .inr ⟨d,rfl,di,?_⟩;split at e'
    ·rename_i hij
     have ep:d=b:=by
      rw [<- di,hij,hb] at hd;exact (Zj hd).symm
     subst e';subst ep;exact ⟨rfl,.inl ⟨hij,rfl,rfl⟩⟩
    ·rename_i hij
     subst e';exact ⟨rfl,.inr ⟨hij,rfl⟩⟩
 have old:∀ {x:Int} {d:B8},fd M x=some d->fd (fU M h b p gv nm) x=some (if d.i=h then { d with r:=insI b.r p gv } else d):=λ {x d} hd=>by
  have ne:x≠gv:=λ e=>by rw [e,hn] at hd; cases hd
  rw [fx,if_neg ne,hd];rfl
 have oh:∀ d:B8,(if d.i=h then { d with r:=insI b.r p gv } else d).h=d.h:=λ d=>by split <;> rfl
 refine ⟨nd',λ c hc=>?_,?_,λ c hc c0=>?_,λ c hc x hx=>?_,λ c hc=>?_,λ c hx=>?_⟩
 ·rcases un c hc with ⟨e,_⟩ | ⟨d,hd,di,_⟩
  · omega
  ·have:=m.lt d (aU hd)
   omega
 ·obtain ⟨r,r1,r2⟩:=m.root
  exact ⟨_,old r1,by rw [oh]; exact r2⟩
 ·rcases un c hc with ⟨e,e2,_⟩ | ⟨d,hd,di,dh,_⟩
  ·refine ⟨h,_,e2,old hb,?_⟩
   rw [if_pos (je hb),e];exact k9.mpr (.inl rfl)
  ·obtain ⟨j',q,q1,q2,q4⟩:=m.hol d (aU hd) (by rw [di]; exact c0)
   refine ⟨j',_,by rw [<- dh]; exact q1,old q2,?_⟩;split
   ·rename_i hq
    have ep:q=b:=by
     rw [<- je q2,hq,hb] at q2;exact (Zj q2).symm
    subst ep;rw [<- di];exact k9.mpr (.inr q4)
   ·rw [<- di]
    exact q4
 ·rcases un c hc with ⟨_,_,e⟩ | ⟨d,hd,di,dh,⟨e1,e2,e3⟩ | ⟨e1,e3⟩⟩
  ·rw [e] at hx
   cases hx
  ·rw [e3] at hx
   rcases k9.mp hx with rfl | hx
   ·refine ⟨⟨x,some h,nm,[],bP⟩,?_,by rw [e1]⟩
    rw [fx,if_pos rfl];show some (if x=h then ({ i:=x,h:=some h,n:=nm,r:=insI b.r p x,m:=bP }:B8) else ⟨x,some h,nm,[],bP⟩)=_;rw [if_neg (by omega)]
   ·obtain ⟨e,k1,k2⟩:=m.kid b (aU hb) x hx
    exact ⟨_,old k1,by rw [oh,k2,je hb,e1]⟩
  ·rw [e3] at hx
   obtain ⟨e,k1,k2⟩:=m.kid d (aU hd) x hx;exact ⟨_,old k1,by rw [oh,k2,di]⟩
 ·rcases un c hc with ⟨_,_,e⟩ | ⟨d,hd,di,dh,⟨e1,e2,e3⟩ | ⟨e1,e3⟩⟩
  · rw [e]; exact .nil
  ·rw [e3,(j7 _ _ _).nodup_iff,Zy]
   exact ⟨gb,bn⟩
  ·rw [e3]
   exact m.rnd d (aU hd)
 ·have cm:∀ {x:Int} {n:Nat},Ch M x n->Ch (fU M h b p gv nm) x n:=Ch.mono λ x d hd=>⟨_,old hd,oh d⟩
  have hf:=iW nd' hx;rcases un c hx with ⟨e,e2,_⟩ | ⟨d,hd,di,dh,_⟩
  · exact ⟨dp+1,.up hf e2 (cm hc),h12⟩
  ·obtain ⟨n,n1,n2⟩:=m.dp hd
   exact ⟨n,cm n1,n2⟩
end
end N10
end
section
namespace N10
open PySem L2
def A2 {ys:List Int} {j:Int} (h0:0<=j) (h1:j < ys.length):∃ n ∈ ys,oIx (.lst (ys.map .int)) (.int j)=some (.int n):=by
 obtain ⟨h,e⟩:=lO (xs:=ys.map D.int) h0 (by rw [Za]; exact h1);rw [List.getElem_map] at e;exact ⟨_,Y7 _,e⟩
def DB {ys:List Int} (hn:ys≠[]):∃ n ∈ ys,oIx (.lst (ys.map .int)) (.int (-1))=some (.int n):=by
 refine ⟨ys.getLast hn,List.getLast_mem hn,?_⟩
 conv=>lhs; rw [<- List.dropLast_concat_getLast hn,Zr]
 exact An _ _
section
variable {t:Adr} {gv:Int} {M:List B8}
def GU (m:MOk gv M):∀ (L:List B8),(∀ b ∈ L,b ∈ M)->∃ es:List Int,nq (λ d=>dT (dOp oLt (dFn cQ (aF (aD 1) (aF (aD 0) cK))) (dC (.int 12))) [.shr d,.shr (faD M)]) (λ d=>aD 0 [.shr d,.shr (faD M)]) (L.map λ b=>.int b.i)=some (es.map .int)/\(∀ x ∈ es,∃ n,Ch M x n/\n < 12)/\(∀ b ∈ L,b.h=none->b.i ∈ es)/\es.length<=L.length:=by
 intro L
 induction L with
 | nil=>exact λ _=>⟨[],rfl,(λ x h=>nomatch h),(λ b h=>nomatch h),Zs _⟩
 | cons b L ih =>
  intro h;have hm:=h b (Zd ..);obtain ⟨es,e1,e2,e3,e4⟩:=ih λ c hc=>h c (Zc _ hc)
  have hb:=iW m.nd hm;obtain ⟨n,hn,_⟩:=m.dp hb;have ec:dT (dOp oLt (dFn cQ (aF (aD 1) (aF (aD 0) cK))) (dC (.int 12))) [.shr (.int b.i),.shr (faD M)]=some (decide ((n:Int) < 12)):=a6 (aE (fe (ah e_v (ah e_v aB)) (nB hn) rfl) e_c (jt _ _))
  by_cases hl:n < 12
  ·refine ⟨b.i::es,?_,λ x hx=>?_,λ c hc h0=>?_,Nat.succ_le_succ e4⟩
   ·rw [Zh,nq,ec,Zo (by omega),e1]
    rfl
   ·rcases Zl.mp hx with rfl | hx
    · exact ⟨n,hn,hl⟩
    · exact e2 x hx
   ·rcases Zl.mp hc with rfl | hc
    · exact Zd ..
    · exact Zc _ (e3 c hc h0)
  ·refine ⟨es,?_,e2,λ c hc h0=>?_,Xg e4⟩
   ·rw [Zh,nq,ec,Zk (by omega),e1]
    rfl
   ·rcases Zl.mp hc with rfl | hc
    ·exfalso
     cases hn with
     | top _ _=>omega
     | up h1 h2 _=>rw [hb] at h1; cases h1; rw [h0] at h2; cases h2
    · exact e3 c hc h0
def Hg {x:Int} {r:List Int} {b:B8} (hx:b.i≠x) (h0:b.r=[]) (hn:fd M b.i=none):Mt.n .d (eD (kv (λ b=>lM (b.r.map .int)) (upR M x r)) (.inl b.i) (lM []))=bxM (upR (M++[b]) x r):=by
 have e:upR (M++[b]) x r=upR M x r++[b]:=by
  unfold upR;rw [Zr];show _++[if b.i=x then _ else _]=_;rw [if_neg hx]
 have:=iP (g:=λ b=>lM (b.r.map .int)) (M:=upR M x r) (by rw [jS,hn]; rfl);rw [h0] at this;rw [e];unfold bxM kM;rw [<- this];rfl
def GZ {x:Int} {r:List Int} {b:B8} (hn:fd M b.i=none):Mt.n .d (eD (kv (λ b=>.s (.tup [hD b.h,.str b.n])) M) (.inl b.i) (.s (.tup [hD b.h,.str b.n])))=faM (upR (M++[b]) x r):=by
 unfold faM kM;rw [mP _ _ _ _ (λ _=>rfl),<- iP hn]
def Ds (m:MOk gv M) (h90:M.length < 90) {c w:Int} (w0:0<=w) (w1:w<=900) :
  ∃ x b p nm dp,fd M x=some b/\Ch M x dp/\dp < 12/\aT nm=true/\gV t [.mu true (trM t.af gv M),.mu true (bxM M),.mu true (faM M),.shr (.int gv),.shr (.int c),.shr (.int w)]=some (.shr (.bl true),[.mu true (trM t.af (gv+1) (fU M x b p gv nm)),.mu true (bxM (fU M x b p gv nm)),.mu true (faM (fU M x b p gv nm)),.no,.no,.no]):=by
 obtain ⟨es,f1,f2,f3,f4⟩:=GU m M λ _ h=>h
 obtain ⟨r0,r1,r2⟩:=m.root
 have ne:es≠[]:=λ e=>by
  have:=f3 r0 (aU r1) r2;rw [e] at this;cases this
 obtain ⟨q1,e1,q10,q11⟩:=gW c w0 (by omega);obtain ⟨q2,e2,q20,q21⟩:=gW c (by omega) (show w+1<=10000 by omega);obtain ⟨nm,e3,hn⟩:=rP c (by omega) (show w+2<=1000 by omega);obtain ⟨xl,ml,el⟩:=DB ne;have lp:=List.length_pos_iff.mpr ne;obtain ⟨xm,mm,em⟩:=A2 (ys:=es) (Z9 _ (by omega)) (Z8 _ (by omega))
 obtain ⟨x,hx,ex⟩:∃ x ∈ es,x=if q1 % 2=0 then xm else xl:=by
  split
  · exact ⟨xm,mm,rfl⟩
  · exact ⟨xl,ml,rfl⟩
 obtain ⟨dp,ch,h12⟩:=f2 x hx;obtain ⟨b,hb⟩:=ch.get
 have hr:=sub_len (m.rnd b (aU hb)) λ y hy=>by
  obtain ⟨d,d1,_⟩:=m.kid b (aU hb) y hy;exact ⟨d,d1⟩
 have p0:0<=q2 % ((b.r.length:Int)+1):=Z9 _ (by omega);have p1:q2 % ((b.r.length:Int)+1)<=b.r.length:=by have:=Z8 q2 (show 0 < (b.r.length:Int)+1 by omega); omega
 refine ⟨x,b,q2 % ((b.r.length:Int)+1),nm,dp,hb,ch,h12,hn,?_⟩;generalize hpp:q2 % ((b.r.length:Int)+1)=p at *;unfold gV jC;refine (cZ (τ:=[.mu true (trM t.af (gv+1) (fU M x b p gv nm)),.mu true (bxM (fU M x b p gv nm)),.mu true (faM (fU M x b p gv nm)),.shr (.int gv),.shr (.int c),.shr (.int w),.shr (.lst (es.map .int)),.shr (.int q1),.shr (.int x),.shr (.int p),.shr (.str nm),.shr (.int gv)]) ?_).trans rfl;refine aC (τ':=[.mu true (trM t.af gv M),.mu true (bxM M),.mu true (faM M),.shr (.int gv),.shr (.int c),.shr (.int w),.shr (.lst (es.map .int)),.no,.no,.no,.no,.no]) ?_ ?_
 ·have ek:(kv (λ b=>lM (b.r.map .int)) M).map (λ p=>kD p.1)=M.map λ b=>.int b.i:=by
   unfold kv;rw [Zw];rfl
  show (if (kv (λ b=>lM (b.r.map .int)) M).length<=100000/\6 < 12 then (nq (λ d=>dT (dOp oLt (dFn cQ (aF (aD 1) (aF (aD 0) cK))) (dC (.int 12))) [.shr d,.shr (frz (faM M))]) (λ d=>aD 0 [.shr d,.shr (frz (faM M))]) ((kv (λ b=>lM (b.r.map .int)) M).map λ p=>kD p.1)).bind (λ es=>if es.all sca=true then some (pM.next [.mu true (trM t.af gv M),.mu true (bxM M),.mu true (faM M),.shr (.int gv),.shr (.int c),.shr (.int w),.shr (.lst es),.no,.no,.no,.no,.no]) else none) else none)=_;rw [if_pos ⟨by rw [eU]; omega,by omega⟩,oK,ek,f1];exact if_pos (fj _)
 refine aC (bG (v_N (fe (ah e_v (ah e_v aB)) e1 rfl)) (Zb rfl) rfl) ?_
 refine aC (bG (v_N (aE e_v (G2 e_c rfl) el)) (Zb rfl) rfl) ?_
 refine aC (τ':=[.mu true (trM t.af gv M),.mu true (bxM M),.mu true (faM M),.shr (.int gv),.shr (.int c),.shr (.int w),.shr (.lst (es.map .int)),.shr (.int q1),.shr (.int x),.no,.no,.no]) ?_ ?_
 ·have et:tS (dT (dOp oEq (dOp oMod (aD 7) (dC (.int 2))) (dC (.int 0)))) [.mu true (trM t.af gv M),.mu true (bxM M),.mu true (faM M),.shr (.int gv),.shr (.int c),.shr (.int w),.shr (.lst (es.map .int)),.shr (.int q1),.shr (.int xl),.no,.no,.no]=some (decide (q1 % 2=0),[.mu true (trM t.af gv M),.mu true (bxM M),.mu true (faM M),.shr (.int gv),.shr (.int c),.shr (.int w),.shr (.lst (es.map .int)),.shr (.int q1),.shr (.int xl),.no,.no,.no]) :=
   t_S (a6 (aE (aE e_v e_c (aI (by decide))) e_c (bE _ _)))
  by_cases h2:q1 % 2=0
  ·rw [if_pos h2] at ex
   rw [Zo h2] at et;rw [ex];exact jY et ((bG (v_N (aE e_v (aE (aE e_v e_c (cg (by decide) (by decide +kernel))) (a8 (ah e_v aB) (qo es)) (aI (by omega))) em)) (Zb rfl) rfl).trans rfl)
  ·rw [if_neg h2] at ex
   rw [Zk h2] at et;rw [ex];exact c6 et rfl
 have sn:∀ {r:List Sm},aY (.mu true (trM t.af gv M)::.mu true (bxM M)::r)=.shr (trD t.af gv M)::.shr (.dct (kv (λ b=>.lst (b.r.map .int)) M))::aY r:=λ {r}=>by
  rw [fi];show _::Sl.shr (frz (bxM M))::_=_;rw [mr]
 refine aC (bG (v_S (by rw [sn]; exact aE (fe (ah e_v (ah (aE e_v e_c (aM _ _)) aB)) e2 rfl) (aE (a8 (ah (aE e_v e_v (bh hb)) aB) (qo _)) e_c (aM _ _)) ((aI (by omega)).trans (by rw [hpp]))) rfl) (Zb rfl) rfl) ?_
 refine aC (bG (v_N (fe (ah e_v (ah (aE e_v e_c (aM _ _)) aB)) e3 rfl)) (Zb rfl) rfl) ?_
 have ep:=Fb (t:=t) m.nd m.new hb p0 p1 (by omega) hn h90 ch h12;refine aC (bG (v_M bq rfl rfl (aZ (q_N e_v) (aZ (q_N e_v) (aZ (q_N e_v) rfl))) rfl ep rfl) (Zb rfl) rfl) ?_
 have hg:aO [.mu true (trM t.af (gv+1) (fU M x b p gv nm)),.mu true (bxM M),.mu true (faM M),.shr (.int gv),.shr (.int c),.shr (.int w),.shr (.lst (es.map .int)),.shr (.int q1),.shr (.int x),.shr (.int p),.shr (.str nm),.shr (.int gv)] 1 [.k (.inl x)]=some (lM (b.r.map .int)):=by
  rw [kS rfl];refine (lj _ _ _).trans ?_
  rw [hb];rfl
 refine aC (zL (jX bq e_v rfl rfl) hg e_v (v_N e_v) rfl hg ⟨p0,by rw [Za,Za]; exact p1,by rw [Za,Za]; omega⟩) ?_
 rw [cT rfl,si];have e4:(bxM M).put ([]++[.k (.inl x)]) (lM ((insI b.r p gv).map .int))=bxM (upR M x (insI b.r p gv)):=rn m.nd hb;rw [e4]
 have xg:gv≠x:=λ e=>by
  have:=(m.lt b (aU hb)).2;rw [je hb] at this;omega
 refine aC (τ':=[.mu true (trM t.af (gv+1) (fU M x b p gv nm)),.mu true (bxM (fU M x b p gv nm)),.mu true (faM M),.shr (.int gv),.shr (.int c),.shr (.int w),.shr (.lst (es.map .int)),.shr (.int q1),.shr (.int x),.shr (.int p),.shr (.str nm),.shr (.int gv)]) ((dw (v_O (iY aB (Z3 _)) rfl) bq e_v rfl rfl rfl (by rw [eU,fY]; omega)).trans ?_) ?_
 ·have:=Hg (r:=insI b.r p gv) (b:=⟨gv,some x,nm,[],bP⟩) xg rfl m.new
  unfold fU;rw [<- this];rfl
 refine aC (τ':=[.mu true (trM t.af (gv+1) (fU M x b p gv nm)),.mu true (bxM (fU M x b p gv nm)),.mu true (faM (fU M x b p gv nm)),.shr (.int gv),.shr (.int c),.shr (.int w),.shr (.lst (es.map .int)),.shr (.int q1),.shr (.int x),.shr (.int p),.shr (.str nm),.shr (.int gv)]) ((dw (v_N (l6 (ah e_v (ah e_v aB)) (Zb rfl))) bq e_v rfl rfl rfl (by rw [eU]; omega)).trans ?_) ?_
 ·have:=GZ (M:=M) (x:=x) (r:=insI b.r p gv) (b:=⟨gv,some x,nm,[],bP⟩) m.new
  unfold fU;rw [<- this];rfl
 exact ig (v_N (iZ (fe (ah e_v aB) (qW _) rfl) (aE e_v e_v ((bE _ _).trans (by rw [Zo rfl])))))
end
end N10
end
section
namespace N10
open PySem L2
def upH (M:List B8) (i:Int) (h:Int):List B8:=M.map λ b=>if b.i=i then { b with h:=some h } else b
def Iv (M:List B8) (j h:Int):(upH M j h).map B8.i=M.map B8.i:=by
 unfold upH;rw [Zw];refine Zu λ b _=>?_
 show (if b.i=j then { b with h:=some h } else b).i=b.i;split <;> rfl
def GV (M:List B8) (j h x:Int):fd (upH M j h) x=(fd M x).map λ b=>if b.i=j then { b with h:=some h } else b:=by
 unfold fd upH;rw [List.find?_map];congr 2
 funext b
 show decide ((if b.i=j then { b with h:=some h } else b).i=x)=_;split <;> rfl
def mvB (M:List B8) (i j h:Int) (rj rh:List Int):List B8:=upH (upR (upR M j rj) h rh) i h
def mvF (i j h:Int) (rj rh:List Int) (c:B8):B8:={ c with h:=if c.i=i then some h else c.h,r:=if c.i=h then rh else if c.i=j then rj else c.r }
def GX (M:List B8) (i j h:Int) (rj rh:List Int) (x:Int):fd (mvB M i j h rj rh) x=(fd M x).map (mvF i j h rj rh):=by
 unfold mvB;rw [GV,jS,jS,Option.map_map,Option.map_map];congr 1
 funext c
 obtain ⟨ci,ch,cn,cr,cm⟩:=c;simp only [Function.comp,mvF]
 by_cases h1:ci=j <;> by_cases h2:ci=h <;> by_cases h3:ci=i <;> simp [h1,h2,h3] <;> (try (split <;> simp_all)) <;> (try (split <;> simp_all))
def KO {M:List B8} (nd:Nd M) (i j h:Int) (rj rh:List Int):Nd (mvB M i j h rj rh):=by
 unfold Nd mvB;rw [Iv];exact wI (wI nd _ _) _ _
section
variable {gv:Int} {M:List B8} {i j h:Int} {b p q:B8} {rj rh:List Int}
def Gd (m:MOk gv M) (hb:fd M i=some b) (hj:b.h=some j) (hp:fd M j=some p) (hq:fd M h=some q) (na:¬ Anc M i h)
  {ni nh:Nat} (ci:Ch M i ni) (ch:Ch M h nh) (dp:∀ x n,Anc M i x->Ch M x n->n+nh+1<=12+ni)
  (ej:rj=p.r.erase i) {pl:Int} (eh:rh=insI (q.r.filter λ y=>decide (y≠i)) pl i):MOk gv (mvB M i j h rj rh):=by
 have i0:=m.h0 hb hj;have nd':=KO m.nd i j h rj rh;have fx:=GX M i j h rj rh;have bi:=je hb;have pi:=je hp;have qi:=je hq;have pn:=m.rnd p (aU hp);have qn:=m.rnd q (aU hq);have ih:i≠h:=λ e=>na (by rw [<- e]; exact .refl)
 have un:∀ c ∈ mvB M i j h rj rh,∃ d,fd M c.i=some d/\d.i=c.i/\c=mvF i j h rj rh d:=λ c hc=>by
  have e:=iW nd' hc;rw [fx] at e
  cases hd:fd M c.i with
  | none=>rw [hd] at e; cases e
  | some d =>
   rw [hd] at e;exact ⟨d,rfl,je hd,(Zj e).symm⟩
 have old:∀ {x:Int} {d:B8},fd M x=some d->fd (mvB M i j h rj rh) x=some (mvF i j h rj rh d):=λ {x d} hd=>by rw [fx,hd]; rfl
 have hh:∀ d:B8,d.i≠i->(mvF i j h rj rh d).h=d.h:=λ d ne=>if_neg ne
 have hi:∀ d:B8,d.i=i->(mvF i j h rj rh d).h=some h:=λ d e=>if_pos e
 have rmem:∀ y,y ∈ rh↔y=i\/(y ∈ q.r/\y≠i):=λ y=>by
  rw [eh,k9,Xb,Y9]
 have c1:∀ {x:Int} {n:Nat},Ch M x n->¬ Anc M i x->Ch (mvB M i j h rj rh) x n:=λ {x n} c=>by
  induction c with
  | @top x d h1 e1 =>
   intro nx;have ne:d.i≠i:=λ e=>nx (by rw [je h1] at e; rw [e]; exact .refl)
   exact .top (old h1) ((hh d ne).trans e1)
  | @up x y n d h1 e1 c ihc =>
   intro nx;have ne:d.i≠i:=λ e=>nx (by rw [je h1] at e; rw [e]; exact .refl)
   exact .up (old h1) ((hh d ne).trans e1) (ihc λ a=>nx (.up h1 e1 a))
 have chh:=c1 ch na
 have c2:∀ {x:Int},Anc M i x->∀ d,fd M x=some d->∃ n n',Ch M x n/\Ch (mvB M i j h rj rh) x n'/\n'+ni=n+nh+1:=λ {x} a=>by
  induction a with
  | refl=>intro d hd; exact ⟨ni,nh+1,ci,.up (old hb) (hi b bi) chh,by omega⟩
  | @up x y d h1 e1 c ihc =>
   intro d' _;obtain ⟨nx,x1,_⟩:=m.dp h1
   cases x1 with
   | top h2 e2=>rw [h1] at h2; cases h2; rw [e1] at e2; cases e2
   | up h2 e2 cy =>
    rw [h1] at h2;cases h2;rw [e1] at e2;cases e2;obtain ⟨by',hy⟩:=cy.get;obtain ⟨n,n',k1,k2,k3⟩:=ihc by' hy
    have ne:d.i≠i:=λ e=>by
     rw [je h1] at e;obtain ⟨k,g1,g2,_⟩:=c.deep cy;have:=g1.uniq ci;rw [e] at h1;have:=ci.uniq (.up h1 e1 cy);omega
    exact ⟨_,n'+1,.up h1 e1 k1,.up (old h1) ((hh d ne).trans e1) k2,by omega⟩
 refine ⟨nd',λ c hc=>?_,?_,λ c hc c0=>?_,λ c hc x hx=>?_,λ c hc=>?_,λ c hc=>?_⟩
 ·obtain ⟨d,hd,di,_⟩:=un c hc
  rw [<- di];exact m.lt d (aU hd)
 ·obtain ⟨r,r1,r2⟩:=m.root
  exact ⟨_,old r1,(hh r (by rw [je r1]; exact Ne.symm i0)).trans r2⟩
 ·obtain ⟨d,hd,di,ec⟩:=un c hc
  by_cases e:d.i=i
  ·refine ⟨h,_,by rw [ec]; exact hi d e,old hq,?_⟩
   show c.i ∈ (if q.i=h then rh else if q.i=j then rj else q.r);rw [if_pos qi,<- di,e];exact (rmem i).mpr (.inl rfl)
  ·obtain ⟨j',u,u1,u2,u3⟩:=m.hol d (aU hd) (by rw [di]; exact c0)
   refine ⟨j',_,by rw [ec]; exact (hh d e).trans u1,old u2,?_⟩;show c.i ∈ (if u.i=h then rh else if u.i=j then rj else u.r);rw [<- di];split
   ·rename_i e2
    have:u=q:=by rw [<- je u2,e2,hq] at u2; exact (Zj u2).symm
    subst this;exact (rmem d.i).mpr (.inr ⟨u3,e⟩)
   ·split
    ·rename_i e2
     have:u=p:=by rw [<- je u2,e2,hp] at u2; exact (Zj u2).symm
     subst this;rw [ej];exact (List.mem_erase_of_ne e).mpr u3
    · exact u3
 ·obtain ⟨d,hd,di,ec⟩:=un c hc
  have key:∀ y ∈ d.r,y≠i->∃ e,fd (mvB M i j h rj rh) y=some e/\e.h=some c.i:=λ y hy ne=>by
   obtain ⟨e,e1,e2⟩:=m.kid d (aU hd) y hy;exact ⟨_,old e1,by rw [hh e (by rw [je e1]; exact ne),e2,di]⟩
  rw [ec] at hx;have hx':x ∈ (if d.i=h then rh else if d.i=j then rj else d.r):=hx;split at hx'
  ·rename_i e2
   rcases (rmem x).mp hx' with rfl | ⟨h1,h2⟩
   · exact ⟨_,old hb,by rw [hi b bi,<- di,e2]⟩
   ·have:d=q:=by rw [<- di,e2,hq] at hd; exact (Zj hd).symm
    subst this;exact key x h1 h2
  ·split at hx'
   ·rename_i e2
    have:d=p:=by rw [<- di,e2,hp] at hd; exact (Zj hd).symm
    subst this;rw [ej] at hx';have:=pn.mem_erase_iff.mp hx';exact key x this.2 this.1
   ·rename_i e3
    refine key x hx' λ e=>?_
    subst e;obtain ⟨e,e1,e2⟩:=m.kid d (aU hd) x hx';rw [hb] at e1;cases e1;rw [hj] at e2;exact e3 (Zj e2).symm
 ·obtain ⟨d,hd,di,ec⟩:=un c hc
  rw [ec];show (if d.i=h then rh else if d.i=j then rj else d.r).Nodup;split
  ·rw [eh,(j7 _ _ _).nodup_iff,Zy]
   exact ⟨λ e=>by rw [Xb] at e; exact Xx e.2 rfl,qn.sublist List.filter_sublist⟩
  ·split
   · rw [ej]; exact pn.erase _
   · exact m.rnd d (aU hd)
 ·obtain ⟨d,hd,di,ec⟩:=un c hc
  by_cases a:Anc M i c.i
  ·obtain ⟨n,n',k1,k2,k3⟩:=c2 a d hd
   exact ⟨n',k2,by have:=dp _ _ a k1; omega⟩
  ·obtain ⟨n,n1,n2⟩:=m.dp hd
   exact ⟨n,c1 n1 a,n2⟩
end
end N10
end
section
namespace N10
open PySem L2
def mW:∀ l:List Int,Ay (l.map .int)=some (l.map V.int)
 | []=>rfl
 | i::l=>by
  show (scD (.int i)).bind (λ v=>(Ay (l.map .int)).map (v::·))=_;rw [mW l];rfl
def qr (j:Int):∀ l:List Int,inV (.int j) (l.map V.int)=decide (j ∈ l)
 | []=>by simp [inV]
 | k::l=>by
  have ih:=qr j l;unfold inV at *;simp only [Zh,Xh,ih,Zl,Bool.decide_or];congr 1;show decide (k=j)=decide (j=k);rw [Xq];omega
def GC (j:Int) (l:List Int):En (.int j) (.lst (l.map .int))=some (.bl (decide (j ∈ l))):=by
 show (inS (.int j) (l.map .int)).map D.bl=_;unfold inS;rw [mW];show some (D.bl (inV (.int j) _))=_;rw [qr]
def C1 (j:Int) (l:List Int):ic (.int j) (.lst (l.map .int))=some (.bl (!decide (j ∈ l))):=by
 show (inS (.int j) (l.map .int)).map (λ b=>D.bl !b)=_;unfold inS;rw [mW];show some (D.bl (!inV (.int j) _))=_;rw [qr]
def rF (n:Nat):∀ l:List Int,jN n (l.map .int)=true
 | []=>by rw [Xz,jN]
 | i::l=>by rw [Zh,jN,rF n l,okD]; rfl
def r6:∀ {a c:List Int},a.map D.int=c.map D.int->a=c
 | [],[],_=>rfl
 | [],_::_,h=>by cases h
 | _::_,[],h=>by cases h
 | x::a,y::c,h=>by
  rw [Zh,Zh] at h;injection h with h1 h2
  injection h1 with h1
  rw [h1,r6 h2]
def sD (a c:List Int):eqO (.lst (a.map .int)) (.lst (c.map .int))=some (decide (a=c)):=by
 unfold eqO;show (if okD 9 (.lst (a.map .int))=true/\okD 9 (.lst (c.map .int))=true then some (eqB (.lst (a.map .int)) (.lst (c.map .int))) else none)=_;have o:∀ l:List Int,okD 9 (.lst (l.map .int))=true:=λ l=>by rw [okD]; exact rF 8 l
 rw [if_pos ⟨o a,o c⟩]
 by_cases h:a=c
 · rw [h,j8,Zo rfl]
 · rw [xA (λ e=>h (r6 (by injection e))),Zk h]
def DR (a c:List Int):oEq (.lst (a.map .int)) (.lst (c.map .int))=some (.bl (decide (a=c))):=by
 unfold oEq;rw [sD];rfl
def C2 (a c:List Int):oNe (.lst (a.map .int)) (.lst (c.map .int))=some (.bl (!decide (a=c))):=by
 unfold oNe;rw [sD];rfl
def nA {τ:List Sl} {it:DI} {c:DT} {g:DE} {cs:List (Str×Nat)} {ds es:List D} (h1:it τ=some ds) (hl:ds.length<=100000) (h2:nq (λ d=>c (.shr d::dY τ cs)) (λ d=>g (.shr d::dY τ cs)) ds=some es):gZ it c g cs τ=some (.lst es):=by
 unfold gZ;rw [h1];show (if ds.length<=100000 then _ else none)=_;rw [if_pos hl,h2];rfl
def sC {c:D->Option Bool} {f:Int->Bool}:∀ {l:List Int},(∀ x ∈ l,c (.int x)=some (f x))->nq c (λ d=>some d) (l.map .int)=some ((l.filter f).map .int)
 | [],_=>rfl
 | x::l,h=>by
  rw [Zh,nq,h x (Zd ..),List.filter_cons];have ih:=sC (l:=l) λ y hy=>h y (Zc _ hy)
  show (if f x=true then (some (D.int x)).bind (λ y=>(nq c (λ d=>some d) (l.map .int)).bind λ xs=>some (y::xs)) else nq c (λ d=>some d) (l.map .int))=_;rw [ih]
  by_cases hx:f x=true
  · rw [if_pos hx,if_pos hx]; rfl
  · rw [if_neg hx,if_neg hx]
inductive Dps (M:List B8):List Int->List Nat->Prop where
 | nil:Dps M [] []
 | cons {x:Int} {n:Nat} {l:List Int} {ns:List Nat} (h:Ch M x n) (r:Dps M l ns):Dps M (x::l) (n::ns)
section
variable {t:Adr} {gv:Int} {M:List B8}
def Dps.ex (m:MOk gv M):∀ {l:List Int},(∀ x ∈ l,∃ b,fd M x=some b)->∃ ns,Dps M l ns
 | [],_=>⟨[],.nil⟩
 | x::l,h=>by
  obtain ⟨b,hb⟩:=h x (Zd ..);obtain ⟨n,hn,_⟩:=m.dp hb;obtain ⟨ns,r⟩:=Dps.ex m (l:=l) λ y hy=>h y (Zc _ hy)
  exact ⟨_,.cons hn r⟩
def Dps.mem {l:List Int} {ns:List Nat} (h:Dps M l ns):∀ x ∈ l,∀ n,Ch M x n->n ∈ ns:=by
 induction h with
 | nil=>intro x h; cases h
 | cons h r ih =>
  intro x hx n hn;rcases Zl.mp hx with rfl | hx
  · rw [hn.uniq h]; exact Zd ..
  · exact Zc _ (ih x hx n hn)
def Dps.back {l:List Int} {ns:List Nat} (h:Dps M l ns):∀ n ∈ ns,∃ x ∈ l,Ch M x n:=by
 induction h with
 | nil=>intro x h; cases h
 | cons h r ih =>
  intro n hn;rcases Zl.mp hn with rfl | hn
  · exact ⟨_,Zd ..,h⟩
  ·obtain ⟨x,hx,h'⟩:=ih n hn
   exact ⟨x,Zc _ hx,h'⟩
def Dps.map {l:List Int} {ns:List Nat} (h:Dps M l ns) {g:D->Option D} (hg:∀ x n,Ch M x n->n<=12->g (.int x)=some (.int (n:Int))) (h12:∀ n ∈ ns,n<=12):uD g (l.map .int)=some ((ns.map λ n:Nat=>(n:Int)).map .int):=by
 induction h with
 | nil=>rfl
 | @cons x n l ns h r ih =>
  show (g (.int x)).bind (λ y=>(uD g (l.map .int)).bind λ xs=>some (y::xs))=_;rw [hg x n h (h12 n (Zd ..)),ih λ k hk=>h12 k (Zc _ hk)];rfl
def Dps.len {l:List Int} {ns:List Nat} (h:Dps M l ns):ns.length=l.length:=by
 induction h with
 | nil=>rfl
 | cons _ _ ih=>rw [Zv,Zv,ih]
def tpI (ns:List Nat):Int:=mxI (ns.map λ n:Nat=>(n:Int))
def IA {ns:List Nat} {n:Nat} (h:n ∈ ns):(n:Int)<=tpI ns:=Ga (Yb (f:=λ n:Nat=>(n:Int)) h)
def ED {ns:List Nat} (h:0 < ns.length):∃ n ∈ ns,tpI ns=(n:Int):=by
 have:=Di (ns:=ns.map λ n:Nat=>(n:Int)) (by rw [Za]; exact h);obtain ⟨n,hn,e⟩:=Z4.mp this;exact ⟨n,hn,e.symm⟩
def AW {ns:List Nat} (h:0 < ns.length):zE [.lst ((ns.map λ n:Nat=>(n:Int)).map .int)]=some (.int (tpI ns)):=by
 show (dz ((ns.map λ n:Nat=>(n:Int)).map .int)).bind _=_;rw [se];show (if 0 < (ns.map λ n:Nat=>(n:Int)).length then _ else _)=_;rw [Za,if_pos h];rfl
end
end N10
end
section
namespace N10
open PySem L2
def fQ {τ:List Sm} {i:Nat} {b:Bool} {m:Mt} {d:D} (h:τ[i]?=some (.mu b m)) (hf:frz m=d):aD i (aY τ)=some d:=by
 refine aw ?_
 rw [List.getElem?_map,h];show some (Sl.shr (frz m))=_;rw [hf]
def vF {g:B8->Mt} {M:List B8} {i:Int} {m:Mt} {b:B8} (h:fd M i=some b):eD (kv g M) (.inl i) m=M.map λ c=>((.inl c.i:Key),if c.i=i then m else g c):=by
 unfold eD;rw [Bf,h];unfold kv;rw [Zw];refine Zu λ c _=>?_
 show (if (Sum.inl c.i:Key)=Sum.inl i then ((Sum.inl c.i:Key),m) else (Sum.inl c.i,g c))=_
 by_cases e:c.i=i
 · rw [if_pos (by rw [e]),if_pos e]
 · rw [if_neg (λ z=>e (by injection z)),if_neg e]
def vC {M:List B8} {i:Int} {r:List Int} {b:B8} (h:fd M i=some b):eD (kv (λ b=>lM (b.r.map .int)) M) (.inl i) (lM (r.map .int))=kv (λ b=>lM (b.r.map .int)) (upR M i r):=by
 rw [vF h];unfold kv upR;rw [Zw];refine Zu λ c _=>?_
 show _=((Sum.inl (if c.i=i then { c with r:=r } else c).i:Key),lM ((if c.i=i then { c with r:=r } else c).r.map .int));split <;> rfl
def BM {M:List B8} {i h:Int} {b:B8} (hb:fd M i=some b):eD (kv (λ b=>.s (hD b.h)) M) (.inl i) (.s (.int h))=kv (λ b=>.s (hD b.h)) (upH M i h):=by
 rw [vF hb];unfold kv upH;rw [Zw];refine Zu λ c _=>?_
 show _=((Sum.inl (if c.i=i then { c with h:=some h } else c).i:Key),Mt.s (hD (if c.i=i then { c with h:=some h } else c).h));split <;> rfl
def yM {M:List B8} {i h:Int} {b:B8} (nd:Nd M) (hb:fd M i=some b):eD (kv (λ b=>.s (.tup [hD b.h,.str b.n])) M) (.inl i) (.s (.tup [.int h,.str b.n]))=kv (λ b=>.s (.tup [hD b.h,.str b.n])) (upH M i h):=by
 rw [vF hb];unfold kv upH;rw [Zw];refine Zu λ c hc=>?_
 show _=((Sum.inl (if c.i=i then { c with h:=some h } else c).i:Key),Mt.s (.tup [hD (if c.i=i then { c with h:=some h } else c).h,.str (if c.i=i then { c with h:=some h } else c).n]))
 by_cases e:c.i=i
 ·have hf:=iW nd hc
  rw [e,hb] at hf;cases hf;rw [if_pos e,if_pos e];rfl
 · rw [if_neg e,if_neg e]
def pQ {β:Type} (g:B8->β) (M:List B8) (i h:Int) (hg:∀ b:B8,g { b with h:=some h }=g b):kv g (upH M i h)=kv g M:=by
 unfold kv upH;rw [Zw];refine Zu λ b _=>?_
 show ((Sum.inl (if b.i=i then { b with h:=some h } else b).i:Key),g (if b.i=i then { b with h:=some h } else b))=_;split
 · rw [hg]
 · rfl
def EB {C:Addr} {gv:Int} {M:List B8} {i h:Int}:trM C gv (upH M i h)=trG C (.s (.int gv)) (kM (λ b=>.s (.str b.n)) M) (kM (λ b=>.s (hD b.h)) (upH M i h)) (bxM M) (kM mkM M) (kM wdM M) (kM roM M):=by
 unfold trM bxM kM;rw [pQ (λ b=>Mt.s (.str b.n)) _ _ _ (λ _=>rfl),pQ (λ b=>lM (b.r.map .int)) _ _ _ (λ _=>rfl),pQ mkM _ _ _ (λ _=>rfl),pQ wdM _ _ _ (λ _=>rfl),pQ roM _ _ _ (λ _=>rfl)]
def Dj {M:List B8} (nd:Nd M) {i h:Int} {b q:B8} {rj:List Int} (hb:fd M i=some b) (hj:b.h=some h) (hq:fd M h=some q):mvB M i h h rj q.r=M:=by
 unfold mvB upH upR;rw [Zw,Zw]
 conv=>rhs; rw [<- List.map_id M]
 refine Zu λ c hc=>?_
 have hf:=iW nd hc
 have e1:(if (if c.i=h then { c with r:=rj } else c).i=h then { (if c.i=h then { c with r:=rj } else c) with r:=q.r } else (if c.i=h then { c with r:=rj } else c))=c:=by
  by_cases e:c.i=h
  ·rw [e,hq] at hf
   cases hf;rw [if_pos e];rw [if_pos e]
  · rw [if_neg e,if_neg e]
 show (if (if (if c.i=h then { c with r:=rj } else c).i=h then { (if c.i=h then { c with r:=rj } else c) with r:=q.r } else (if c.i=h then { c with r:=rj } else c)).i=i then { (if (if c.i=h then { c with r:=rj } else c).i=h then { (if c.i=h then { c with r:=rj } else c) with r:=q.r } else (if c.i=h then { c with r:=rj } else c)) with h:=some h } else (if (if c.i=h then { c with r:=rj } else c).i=h then { (if c.i=h then { c with r:=rj } else c) with r:=q.r } else (if c.i=h then { c with r:=rj } else c)))=id c;rw [e1]
 by_cases e:c.i=i
 ·rw [e,hb] at hf
  cases hf;rw [if_pos e,<- hj];rfl
 ·rw [if_neg e]
  rfl
section
variable {t:Adr} {gv:Int} {M:List B8} {i j h pl:Int} {b p q:B8} {l:List Int} {ni nh:Nat} {ns:List Nat}
def Dm (m:MOk gv M) (h90:M.length < 90) (hb:fd M i=some b) (hj:b.h=some j) (hp:fd M j=some p) (hi:i ∈ p.r) (hq:fd M h=some q) (hs:Sub M b.r l) (hn:h ∉ i::l) (hl:l.length < 90)
  (ci:Ch M i ni) (ch:Ch M h nh) (n12:ni<=12/\nh<=12) (ds:Dps M (i::l) ns) (d12:∀ n ∈ ns,n<=12) (hd:(nh:Int)+1+tpI ns - ni<=12) {row:List Int} (er:row=insI (q.r.filter λ y=>decide (y≠i)) pl i)
  (p0:0<=pl) (p1:pl<=((q.r.filter λ y=>decide (y≠i)).length:Int)) :
  iJ t [.mu true (trM t.af gv M),.shr (.int i),.shr (.int h),.shr (.int pl)]=some (.shr (.bl (!decide (row=q.r))),[.mu true (trM t.af gv (mvB M i j h (p.r.erase i) row)),.no,.no,.no]):=by
 have i0:=m.h0 hb hj
 have hp2:=sub_len (m.rnd p (aU hp)) λ y hy=>by
  obtain ⟨d,d1,_⟩:=m.kid p (aU hp) y hy;exact ⟨d,d1⟩
 have hq2:=sub_len (m.rnd q (aU hq)) λ y hy=>by
  obtain ⟨d,d1,_⟩:=m.kid q (aU hq) y hy;exact ⟨d,d1⟩
 have hf2:(q.r.filter λ y=>decide (y≠i)).length<=q.r.length:=Y1 _ _;have hih:h≠i:=λ e=>hn (by rw [e]; exact Zd ..)
 have hnl:h ∉ l:=λ e=>hn (Zc _ e)
 have sn:∀ {r:List Sm},aY (.mu true (trM t.af gv M)::r)=.shr (trD t.af gv M)::aY r:=fi
 unfold iJ dI
 have go:∀ {o:pM},(dt (pV (tS (dT (dOp oEq (aD 5) (dOp cL (dUn (tR t.af "boxes") (aD 0)) (aD 2)))))
  (jm (eN (dC (.bl false))))
  iO)
  (dt (vg (p4 (jq t.af "boxes" (cq 0)) (dOp cL (dUn (tR t.af "holders") (aD 0)) (aD 1))) (aD 1))
  (dt (cA (jq t.af "boxes" (cq 0)) (aD 2) (eV 5))
  (dt (cA (jq t.af "holders" (cq 0)) (aD 1) (eN (aD 2)))
  (jm (eN (dC (.bl true)))))))) [.mu true (trM t.af gv M),.shr (.int i),.shr (.int h),.shr (.int pl),.shr (.lst (l.map .int)),.mu false (lM (row.map .int)),.shr (.int (tpI ns))]=some o ->
  (dI t).1 [.mu true (trM t.af gv M),.shr (.int i),.shr (.int h),.shr (.int pl),.no,.no,.no]=some o:=λ {o} ho=>by
  unfold dI;refine aC (cM (by rw [sn]; exact cU e_v (ah e_v aB) rfl (d5 hb) rfl)) ?_
  refine aC (cM (by rw [sn]; exact cU e_v (ah e_v aB) rfl (d5 hq) rfl)) ?_
  refine aC (τ':=[.mu true (trM t.af gv M),.shr (.int i),.shr (.int h),.shr (.int pl),.shr (.lst (l.map .int)),.no,.no]) (bG (v_F (by rw [sn]; exact DV (ah e_v (ah e_v aB)) (Hi hb hs (by omega)) rfl) (fj _)) (Zb rfl) rfl) ?_
  refine aC (c6 (t_S (Hm (b:=false) (a6 (aE e_v e_c ((bE _ _).trans (by rw [Zk i0])))) (λ _=>Hm (b:=false) (a6 (aE e_v e_v ((bE _ _).trans (by rw [Zk hih])))) (λ _=>a6 (aE e_v e_v ((GC h l).trans (by rw [Zk hnl])))) nofun) nofun)) rfl) ?_
  refine aC (τ':=[.mu true (trM t.af gv M),.shr (.int i),.shr (.int h),.shr (.int pl),.shr (.lst (l.map .int)),.mu false (lM ((q.r.filter λ y=>decide (y≠i)).map .int)),.no]) (bG (v_O (by rw [sn]; exact nA (t8 (aE (fw e_v fB) e_v (bh hq))) (by rw [Za]; omega) (sC λ x _=>a6 (aE e_v e_v ((ie _ _).trans (by rw [decide_not]))))) (fj _)) (Zb rfl) rfl) ?_
  refine aC (cM (fe (ah e_v (ah (fQ (b:=false) rfl (f7 _)) aB)) (g8 p0 p1) rfl)) ?_
  refine aC (τ':=[.mu true (trM t.af gv M),.shr (.int i),.shr (.int h),.shr (.int pl),.shr (.lst (l.map .int)),.mu false (lM ((q.r.filter λ y=>decide (y≠i)).map .int)),.shr (.int (tpI ns))]) (bG (v_S (by
   rw [sn];refine a8 (ah (mx (t8 (aE (iY (ah e_v aB) (Zb rfl)) e_v ?_)) (by rw [Za]; show l.length+1<=_; omega) (ds.map (λ x n hx hx12=>fe (ah e_v (ah e_v aB)) (ka hx (by omega)) rfl) d12)) aB) (AW (by rw [ds.len]; exact Nat.succ_pos _));show (if [D.int i].length+(l.map D.int).length<=100000 then some (D.lst ([D.int i]++l.map .int)) else none)=_;rw [if_pos (by rw [Za]; show 1+l.length<=_; omega)]
   rfl) rfl) (Zb rfl) rfl) ?_
  refine aC (c6 (t_S (by
   rw [sn]
   exact a6 (aE (aE (aE (aE (fe (ah e_v (ah e_v aB)) (ka ch (by omega)) rfl) e_c (aM _ _)) e_v (aM _ _)) (fe (ah e_v (ah e_v aB)) (ka ci (by omega)) rfl) (gM _ _)) e_c (DK hd)))) rfl) ?_
  refine aC ((zL bq rfl e_v (v_N e_v) rfl rfl ⟨p0,by rw [Za,Za]; exact p1,by rw [Za,Za]; omega⟩).trans ?_) ho;rw [cT rfl,si,er];rfl
 have eb:cL (.dct (kv (λ b=>.lst (b.r.map .int)) M)) (.int h)=some (.lst (q.r.map .int)):=bh hq
 have et:tS (dT (dOp oEq (aD 5) (dOp cL (dUn (tR t.af "boxes") (aD 0)) (aD 2)))) [.mu true (trM t.af gv M),.shr (.int i),.shr (.int h),.shr (.int pl),.shr (.lst (l.map .int)),.mu false (lM (row.map .int)),.shr (.int (tpI ns))]=some (decide (row=q.r),[.mu true (trM t.af gv M),.shr (.int i),.shr (.int h),.shr (.int pl),.shr (.lst (l.map .int)),.mu false (lM (row.map .int)),.shr (.int (tpI ns))]) :=
  t_S (a6 (aE (fQ (b:=false) rfl (f7 _)) (aE (fw (fQ rfl (oJ _ _ _)) fB) e_v eb) (DR _ _)))
 by_cases hr:row=q.r
 ·have hjh:j=h:=by
   have:i ∈ q.r:=by rw [<- hr,er]; exact k9.mpr (.inl rfl)
   obtain ⟨d,d1,d2⟩:=m.Dy hq this;rw [hb] at d1;cases d1;rw [hj] at d2;exact Zj d2
  rw [Zo hr] at et ⊢;refine (cZ (s:=.shr (.bl false)) (τ:=[.mu true (trM t.af gv M),.shr (.int i),.shr (.int h),.shr (.int pl),.shr (.lst (l.map .int)),.mu false (lM (row.map .int)),.shr (.int (tpI ns))]) (go ?_)).trans ?_
  ·have:(pV (tS (dT (dOp oEq (aD 5) (dOp cL (dUn (tR t.af "boxes") (aD 0)) (aD 2))))) (jm (eN (dC (.bl false)))) iO) [.mu true (trM t.af gv M),.shr (.int i),.shr (.int h),.shr (.int pl),.shr (.lst (l.map .int)),.mu false (lM (row.map .int)),.shr (.int (tpI ns))]=some (.ret (.shr (.bl false)) [.mu true (trM t.af gv M),.shr (.int i),.shr (.int h),.shr (.int pl),.shr (.lst (l.map .int)),.mu false (lM (row.map .int)),.shr (.int (tpI ns))]):=jY et (ig (v_N e_c))
   unfold dt;rw [this]
  ·rw [hjh,hr,Dj m.nd hb (hjh ▸ hj) hq]
   rfl
 ·rw [Zk hr] at et ⊢
  refine (cZ (τ:=[.mu true (trM t.af gv (mvB M i j h (p.r.erase i) row)),.shr (.int i),.shr (.int h),.shr (.int pl),.shr (.lst (l.map .int)),.no,.shr (.int (tpI ns))]) (go ?_)).trans rfl;refine aC (c6 et rfl) ?_
  have hg:aO [.mu true (trM t.af gv M),.shr (.int i),.shr (.int h),.shr (.int pl),.shr (.lst (l.map .int)),.mu false (lM (row.map .int)),.shr (.int (tpI ns))] 0 [.k (.inr "boxes"),.k (.inl j)]=some (lM (p.r.map .int)):=by
   rw [kS rfl];refine uR.trans ?_
   refine (lj _ _ _).trans ?_
   rw [hp];rfl
  have eh:cL (.dct (kv (λ b=>hD b.h) M)) (.int i)=some (.int j):=by
   rw [bh hb,hj];rfl
  refine aC (τ':=[.mu true (trM t.af gv (upR M j (p.r.erase i))),.shr (.int i),.shr (.int h),.shr (.int pl),.shr (.lst (l.map .int)),.mu false (lM (row.map .int)),.shr (.int (tpI ns))]) ((Ge (jX (jg bq rfl) (by rw [sn]; exact aE (fw e_v fH) e_v eh) rfl rfl) e_v hg (sq _) ⟨by omega,hi⟩).trans ?_) ?_
  ·rw [cT rfl,AH]
   have ep:(trM t.af gv M).put ([]++[.k (.inr "boxes")]++[.k (.inl j)]) (lM ((p.r.erase i).map .int))=trM t.af gv (upR M j (p.r.erase i)):=by
    refine kn.trans ?_
    rw [rn m.nd hp,uQ]
   rw [ep];rfl
  have hq3:∃ q',fd (upR M j (p.r.erase i)) h=some q':=by rw [jS,hq]; exact ⟨_,rfl⟩
  obtain ⟨q',hq'⟩:=hq3;have hb3:∃ b',fd (upR (upR M j (p.r.erase i)) h row) i=some b':=by rw [jS,jS,hb]; exact ⟨_,rfl⟩
  obtain ⟨b',hb'⟩:=hb3;refine aC (τ':=[.mu true (trM t.af gv (upR (upR M j (p.r.erase i)) h row)),.shr (.int i),.shr (.int h),.shr (.int pl),.shr (.lst (l.map .int)),.no,.shr (.int (tpI ns))]) ?_ ?_
  ·refine (dw (v_V rfl) (jg bq rfl) e_v rfl rfl rfl (by rw [eU,fY]; omega)).trans ?_
   rw [cT rfl,vC hq']
   have:trM t.af gv (upR (upR M j (p.r.erase i)) h row)=(trM t.af gv (upR M j (p.r.erase i))).put ([]++[.k (.inr "boxes")]) (.n .d (kv (λ b=>lM (b.r.map .int)) (upR (upR M j (p.r.erase i)) h row))):=by
    rw [uQ];exact tf.symm
   rw [this];rfl
  refine aC ?_ (ig (v_N e_c))
  refine (kI (v_N e_v) e_v rfl rfl (by rw [eU,fY,fY]; omega)).trans ?_
  rw [BM hb'];unfold mvB;rw [EB];rfl
end
end N10
end
section
namespace N10
open PySem L2
section
variable {t:Adr} {gv:Int} {M:List B8}
def Hd (M:List B8):Prop:=∃ r T,M=r::T/\r.i=0
def GG {h p:Int} {b:B8} {nm:Str} (hd:Hd M):Hd (fU M h b p gv nm):=by
 obtain ⟨r,T,rfl,e⟩:=hd;refine ⟨_,_,rfl,?_⟩;show (if r.i=h then { r with r:=insI b.r p gv } else r).i=0;split <;> exact e
def GA (hd:Hd M) (nd:Nd M) {k:Int} (k0:1<=k) (k1:k < M.length):∃ b ∈ M,b.i≠0/\oIx (.lst ((M.map B8.i).map .int)) (.int k)=some (.int b.i):=by
 obtain ⟨r,T,rfl,e⟩:=hd;unfold Nd at nd;rw [Zh,Zy] at nd;obtain ⟨h,e1⟩:=lO (xs:=((r::T).map B8.i).map D.int) (j:=k) (by omega) (by rw [Za,Za]; exact k1);obtain ⟨n,hn⟩:∃ n:Nat,k.toNat=n+1:=⟨k.toNat - 1,by omega⟩
 have hl:n < T.length:=by
  rw [Zv] at k1;omega
 refine ⟨T[n],Zc _ (Y7 hl),λ z=>nd.1 ?_,?_⟩
 ·rw [e,<- z]
  exact Yb (Y7 hl)
 ·show atI _ k=_
  rw [e1];simp [hn]
def LD {β:Type} (g:B8->β) (M:List B8) (j:Int) (r:List Int) (i h:Int) (hg:∀ (b:B8) (r:List Int),g { b with r:=r }=g b):kv g (upH (upR M j r) i h)=kv g (upH M i h):=by
 unfold kv upH upR;rw [Zw,Zw,Zw];refine Zu λ b _=>?_
 simp only [Function.comp]
 by_cases e:b.i=j
 ·rw [if_pos e]
  by_cases e2:b.i=i
  ·rw [if_pos e2,if_pos (show ({ b with r:=r }:B8).i=i from e2)]
   exact Prod.ext rfl (hg { b with h:=some h } r)
  ·rw [if_neg e2,if_neg (show ¬ ({ b with r:=r }:B8).i=i from e2)]
   exact Prod.ext rfl (hg b r)
 · rw [if_neg e]
def Ap {a x:Int} (h:Anc M a x) {r:B8} (r1:fd M x=some r) (r2:r.h=none):a=x:=by
 cases h with
 | refl=>rfl
 | up h1 h2 _=>rw [r1] at h1; cases h1; rw [r2] at h2; cases h2
def Ld {i j h:Int} {rj rh:List Int} (hd:Hd M):Hd (mvB M i j h rj rh):=by
 obtain ⟨r,T,rfl,e⟩:=hd;refine ⟨_,_,rfl,?_⟩;have e1:(if r.i=j then { r with r:=rj } else r).i=0:=by split <;> exact e
 have e2:(if (if r.i=j then { r with r:=rj } else r).i=h then { (if r.i=j then { r with r:=rj } else r) with r:=rh } else (if r.i=j then { r with r:=rj } else r)).i=0:=by
  by_cases z:(if r.i=j then { r with r:=rj } else r).i=h
  · rw [if_pos z]; exact e1
  · rw [if_neg z]; exact e1
 show (if (if (if r.i=j then { r with r:=rj } else r).i=h then { (if r.i=j then { r with r:=rj } else r) with r:=rh } else (if r.i=j then { r with r:=rj } else r)).i=i then { (if (if r.i=j then { r with r:=rj } else r).i=h then { (if r.i=j then { r with r:=rj } else r) with r:=rh } else (if r.i=j then { r with r:=rj } else r)) with h:=some h } else (if (if r.i=j then { r with r:=rj } else r).i=h then { (if r.i=j then { r with r:=rj } else r) with r:=rh } else (if r.i=j then { r with r:=rj } else r))).i=0
 by_cases z:(if (if r.i=j then { r with r:=rj } else r).i=h then { (if r.i=j then { r with r:=rj } else r) with r:=rh } else (if r.i=j then { r with r:=rj } else r)).i=i
 · rw [if_pos z]; exact e2
 · rw [if_neg z]; exact e2
def AZ (M:List B8) (i j h:Int) (rj rh:List Int):(mvB M i j h rj rh).length=M.length:=by
 unfold mvB upH;rw [Za,fY,fY]
abbrev sY (t:Adr) (gv:Int) (A B C:List B8) (c w:Int) (M:List B8) (r:List Sm):List Sm:=.mu true (trM t.af gv A)::.mu true (bxM B)::.mu true (faM C)::.shr (.int c)::.shr (.int w)::.shr (.lst ((M.map B8.i).map .int))::r
abbrev sW (t:Adr) (gv:Int) (A B C:List B8) (c w:Int) (M:List B8) (i:Int) (l:List Int) (p:Int) (f:List Int) (q:Int) (r:List Sm):List Sm:=sY t gv A B C c w M (.shr (.int i)::.shr (.lst ((i::l).map .int))::.shr (.int p)::.shr (.lst (f.map .int))::.shr (.int q)::r)
def sn3 {b0 b1 b2:Bool} {r:List Sm}:aY (.mu b0 (trM t.af gv M)::.mu b1 (bxM M)::.mu b2 (faM M)::r)=.shr (trD t.af gv M)::.shr (.dct (kv (λ b=>.lst (b.r.map .int)) M))::.shr (faD M)::aY r:=by
 rw [fi];show _::Sl.shr (frz (bxM M))::Sl.shr (frz (faM M))::_=_;rw [mr,oK]
open Classical in
def wW (m:MOk gv M) (hd:Hd M) (h90:M.length < 90) (l2:2<=M.length) {c w:Int} (w0:0<=w) (w1:w<=900) :
  ∃ i j h rj rh,MOk gv (mvB M i j h rj rh)/\d6 t [.mu true (trM t.af gv M),.mu true (bxM M),.mu true (faM M),.shr (.int c),.shr (.int w)]=some (.shr (.bl true),[.mu true (trM t.af gv (mvB M i j h rj rh)),.mu true (bxM (mvB M i j h rj rh)),.mu true (faM (mvB M i j h rj rh)),.no,.no]):=by
 obtain ⟨q0,e0,q00,q01⟩:=gW c w0 (show w<=10000 by omega);obtain ⟨q1,e1,q10,q11⟩:=gW c (show (0:Int)<=w+1 by omega) (show w+1<=10000 by omega);obtain ⟨q2,e2,q20,q21⟩:=gW c (show (0:Int)<=w+2 by omega) (show w+2<=10000 by omega);have k0:0<=q0 % ((M.length:Int) - 1):=Z9 _ (by omega);have k1:q0 % ((M.length:Int) - 1) < (M.length:Int) - 1:=Z8 _ (by omega);obtain ⟨b,hm,i0,ei⟩:=GA hd m.nd (k:=1+q0 % ((M.length:Int) - 1)) (by omega) (by omega);have hb:=iW m.nd hm;obtain ⟨j,p,hj,hp,pi⟩:=m.hol b hm i0;obtain ⟨l,hs,hs'⟩:=Sub.of m hb;have nd:(b.i::l).Nodup:=hs.nodup m (List.pairwise_singleton _ _);have ll:=sub_len nd hs.in;have lc:(b.i::l).length=l.length+1:=rfl;obtain ⟨ni,ci,ni12⟩:=m.dp hb;obtain ⟨ns,ds⟩:=Dps.ex m (l:=b.i::l) hs.in
 have d12:∀ n ∈ ns,n<=12:=λ n hn=>by
  obtain ⟨x,hx,hc⟩:=ds.back n hn;obtain ⟨bb,hbb⟩:=hc.get;obtain ⟨n',h1,h2⟩:=m.dp hbb;rw [hc.uniq h1]; exact h2
 have nl:0 < ns.length:=by rw [ds.len]; exact Nat.succ_pos _
 have tp12:tpI ns<=12:=by
  obtain ⟨n,hn,e⟩:=ED nl;rw [e];have:=d12 n hn;omega
 obtain ⟨nj,cj,enj⟩:∃ nj,Ch M j nj/\ni=nj+1:=by
  cases ci with
  | top h e=>rw [hb] at h; cases h; rw [hj] at e; cases e
  | up h e c=>rw [hb] at h; cases h; rw [hj] at e; cases e; exact ⟨_,c,rfl⟩
 have jn:j ∉ b.i::l:=λ h=>by
  obtain ⟨k,c1,c2,_⟩:=((hs.iff m hp).mp h).deep cj;have:=c1.uniq ci;omega
 let f:Int->Bool:=λ x=>!decide (x ∈ b.i::l)&&decide (∃ n:Nat,Ch M x n/\(n:Int)+1+(tpI ns - ni)<=12)
 obtain ⟨fre,efr⟩:∃ fre,fre=(M.map B8.i).filter f:=⟨_,rfl⟩
 have fok:∀ x ∈ fre,(∃ q,fd M x=some q)/\x ∉ b.i::l/\∃ n:Nat,Ch M x n/\(n:Int)+1+(tpI ns - ni)<=12:=λ x hx=>by
  rw [efr,Xb] at hx;obtain ⟨h1,h2⟩:=hx;obtain ⟨q,hq,rfl⟩:=Z4.mp h1;simp only [f,Z6,Bool.not_eq_true',decide_eq_false_iff_not,decide_eq_true_eq] at h2;exact ⟨⟨q,iW m.nd hq⟩,h2.1,h2.2⟩
 have fne:fre≠[]:=λ e=>by
  obtain ⟨r,r1,r2⟩:=m.root
  have:(0:Int) ∈ fre:=by
   rw [efr,Xb];refine ⟨Z4.mpr ⟨r,aU r1,je r1⟩,?_⟩
   have n0:(0:Int) ∉ b.i::l:=λ h=>by
    exact i0 (Ap ((hs.iff m r1).mp h) r1 r2)
   simp only [f,Z6,Bool.not_eq_true',decide_eq_false_iff_not,decide_eq_true_eq];exact ⟨n0,0,.top r1 r2,by omega⟩
  rw [e] at this;cases this
 have flp:0 < fre.length:=List.length_pos_iff.mpr fne;obtain ⟨xm,mm,em⟩:=A2 (ys:=fre) (j:=q1 / 3 % (fre.length:Int)) (Z9 _ (by omega)) (Z8 _ (by omega))
 obtain ⟨h,eh,⟨q,hq⟩,hn,nh,ch,hdp⟩:∃ h,h=(if q1 % 3=0 then j else xm)/\(∃ q,fd M h=some q)/\h ∉ b.i::l/\∃ n:Nat,Ch M h n/\(n:Int)+1+(tpI ns - ni)<=12:=by
  split
  · exact ⟨j,rfl,⟨p,hp⟩,jn,nj,cj,by omega⟩
  ·obtain ⟨a1,a2,a3⟩:=fok xm mm
   exact ⟨xm,rfl,a1,a2,a3⟩
 obtain ⟨nh',ch',nh12⟩:=m.dp hq;have:=ch.uniq ch';subst this
 have hq2:q.r.length<=M.length:=sub_len (m.rnd q (aU hq)) λ y hy=>by
  obtain ⟨d,d1,_⟩:=m.kid q (aU hq) y hy;exact ⟨d,d1⟩
 have hp2:p.r.length<=M.length:=sub_len (m.rnd p (aU hp)) λ y hy=>by
  obtain ⟨d,d1,_⟩:=m.kid p (aU hp) y hy;exact ⟨d,d1⟩
 obtain ⟨rs,ers⟩:∃ rs,rs=q.r.filter λ y=>decide (y≠b.i):=⟨_,rfl⟩
 have hf2:rs.length<=q.r.length:=by rw [ers]; exact Y1 _ _
 obtain ⟨pl,epl⟩:∃ pl,pl=q2 % ((rs.length:Int)+1):=⟨_,rfl⟩
 have p0:0<=pl:=by rw [epl]; exact Z9 _ (by omega)
 have p1:pl<=rs.length:=by have:=Z8 q2 (show 0 < (rs.length:Int)+1 by omega); omega
 obtain ⟨row,erow⟩:∃ row,row=insI rs pl b.i:=⟨_,rfl⟩
 have na:¬ Anc M b.i h:=λ a=>hn ((hs.iff m hq).mpr a)
 have mok:=Gd m hb hj hp hq na ci ch (λ x n a hc=>by
  obtain ⟨bx,hbx⟩:=hc.get;have:=IA (ds.mem x ((hs.iff m hbx).mpr a) n hc)
  omega) (rj:=p.r.erase b.i) rfl (pl:=pl) (rh:=row) (by rw [erow,ers])
 refine ⟨b.i,j,h,p.r.erase b.i,row,mok,?_⟩;unfold d6 gq;dsimp only;have eM:(M.map B8.i).length=M.length:=Za _;refine (cZ (s:=.shr (.bl true)) (τ:=sW t gv (mvB M b.i j h (p.r.erase b.i) row) (mvB M b.i j h (p.r.erase b.i) row) (mvB M b.i j h (p.r.erase b.i) row) c w M b.i l (tpI ns - ni) fre q1 [.shr (.int h),.no,.shr (.int pl),.shr (.bl (!decide (row=q.r))),.shr (.bl (!decide (row=q.r)))]) ?_).trans rfl;refine aC (τ':=sY t gv M M M c w M [.no,.no,.no,.no,.no,.no,.no,.no,.no,.no]) (bG (v_F ?_ (fj _)) (Zb rfl) rfl) ?_
 ·unfold xM
  rw [fQ (b:=true) rfl (mr M)];show some (D.lst ((kv _ M).map _))=_;unfold kv;rw [Zw,Zw];rfl
 refine aC (τ':=sY t gv M M M c w M [.shr (.int b.i),.no,.no,.no,.no,.no,.no,.no,.no,.no]) (bG (v_N (aE (aw rfl) (aE e_c (aE (fe (ah (aw rfl) (ah (aw rfl) aB)) e0 rfl) (aE (a8 (ah (aw rfl) aB) (qo _)) e_c (gM _ _)) (aI (by omega))) (aM _ _)) (by rw [eM]; exact ei))) (Zb rfl) rfl) ?_
 refine aC (τ':=sY t gv M M M c w M [.shr (.int b.i),.shr (.lst ((b.i::l).map .int)),.no,.no,.no,.no,.no,.no,.no,.no]) (bG (v_F (DV (ah (fQ (b:=true) rfl (mr M)) (ah (aw rfl) aB)) (yw hs (by omega)) rfl) (fj _)) (Zb rfl) rfl) ?_
 refine aC (τ':=sY t gv M M M c w M [.shr (.int b.i),.shr (.lst ((b.i::l).map .int)),.shr (.int (tpI ns - ni)),.no,.no,.no,.no,.no,.no,.no]) (bG (v_S (by
  rw [sn3]
  exact aE (a8 (ah (mx (t8 (aw rfl)) (by rw [Za]; omega) (ds.map (λ x n hx _=>fe (ah (aw rfl) (ah (aw rfl) aB)) (nB hx) rfl) d12)) aB) (AW nl)) (fe (ah (aw rfl) (ah (aw rfl) aB)) (nB ci) rfl) (gM _ _)) rfl) (Zb rfl) rfl) ?_
 refine aC (τ':=sY t gv M M M c w M [.shr (.int b.i),.shr (.lst ((b.i::l).map .int)),.shr (.int (tpI ns - ni)),.shr (.lst (fre.map .int)),.no,.no,.no,.no,.no,.no]) (bG (v_F (by
  rw [sn3,efr];refine nA (t8 (aw rfl)) (by rw [Za,eM]; omega) (sC (f:=f) λ x hx=>?_);obtain ⟨d,hd',rfl⟩:=Z4.mp hx;obtain ⟨n,hn',_⟩:=m.dp (iW m.nd hd');have et:dT (dOp ic (aD 0) (aD 1)) [.shr (.int d.i),.shr (.lst ((b.i::l).map .int)),.shr (.int (tpI ns - ni)),.shr (faD M)]=some (!decide (d.i ∈ b.i::l)):=a6 (aE (aw rfl) (aw rfl) (C1 _ _));have ex:(decide (∃ n:Nat,Ch M d.i n/\(n:Int)+1+(tpI ns - ni)<=12))=decide ((n:Int)+1+(tpI ns - ni)<=12):=Xq.mpr ⟨λ ⟨k,k1,k2⟩=>by rw [hn'.uniq k1]; exact k2,λ z=>⟨n,hn',z⟩⟩;refine IC (b:=!decide (d.i ∈ b.i::l)) et (λ z=>?_) (λ z=>?_)
  ·show _=some (_&&_)
   rw [z,Bool.true_and,ex];exact a6 (aE (aE (aE (fe (ah (aw rfl) (ah (aw rfl) aB)) (nB hn') rfl) e_c (aM _ _)) (aw rfl) (aM _ _)) e_c rfl)
  ·show (_&&_)=false
   rw [z,Bool.false_and]) (fj _)) (Zb rfl) rfl) ?_
 refine aC (τ':=sW t gv M M M c w M b.i l (tpI ns - ni) fre q1 [.no,.no,.no,.no,.no]) (bG (v_N (fe (ah (aw rfl) (ah (aE (aw rfl) e_c (aM _ _)) aB)) e1 rfl)) (Zb rfl) rfl) ?_
 refine aC (τ':=sW t gv M M M c w M b.i l (tpI ns - ni) fre q1 [.shr (.int xm),.no,.no,.no,.no]) (bG (v_N (aE (aw rfl) (aE (aE (aw rfl) e_c (cg (by decide) (by decide +kernel))) (a8 (ah (aw rfl) aB) (qo fre)) (aI (by omega))) em)) (Zb rfl) rfl) ?_
 refine aC (τ':=sW t gv M M M c w M b.i l (tpI ns - ni) fre q1 [.shr (.int h),.no,.no,.no,.no]) ?_ ?_
 ·have et:tS (dT (dOp oEq (dOp oMod (aD 10) (dC (.int 3))) (dC (.int 0)))) (sW t gv M M M c w M b.i l (tpI ns - ni) fre q1 [.shr (.int xm),.no,.no,.no,.no])=some (decide (q1 % 3=0),(sW t gv M M M c w M b.i l (tpI ns - ni) fre q1 [.shr (.int xm),.no,.no,.no,.no])):=t_S (a6 (aE (aE (aw rfl) e_c (aI (by decide))) e_c (bE _ _)))
  by_cases z:q1 % 3=0
  ·rw [if_pos z] at eh
   rw [Zo z] at et;rw [eh]
   have ef:cL (faD M) (.int b.i)=some (.tup [.int j,.str b.n]):=by
    refine (bh hb).trans ?_
    rw [hj];rfl
   exact jY et ((bG (v_S (aE (aE (fQ (b:=true) rfl (oK M)) (aw rfl) ef) e_c (jQ _ _)) rfl) (Zb rfl) rfl).trans rfl)
  ·rw [if_neg z] at eh
   rw [Zk z] at et;rw [eh];exact c6 et rfl
 refine aC (τ':=sW t gv M M M c w M b.i l (tpI ns - ni) fre q1 [.shr (.int h),.mu false (lM (rs.map .int)),.no,.no,.no]) (bG (v_O (by
  rw [sn3,ers]
  exact nA (t8 (aE (aw rfl) (aw rfl) (bh hq))) (by rw [Za]; omega) (sC (f:=λ y=>decide (y≠b.i)) λ x _=>a6 (aE (aw rfl) (aw rfl) ((ie _ _).trans (by rw [decide_not]))))) (fj _)) (Zb rfl) rfl) ?_
 refine aC (τ':=sW t gv M M M c w M b.i l (tpI ns - ni) fre q1 [.shr (.int h),.mu false (lM (rs.map .int)),.shr (.int pl),.no,.no]) (bG (v_S (aE (fe (ah (aw rfl) (ah (aE (aw rfl) e_c (aM _ _)) aB)) e2 rfl) (aE (a8 (ah (fQ (b:=false) rfl (f7 _)) aB) (qo rs)) e_c (aM _ _)) ((aI (by omega)).trans (by rw [epl]))) rfl) (Zb rfl) rfl) ?_
 refine aC (τ':=sW t gv M M M c w M b.i l (tpI ns - ni) fre q1 [.shr (.int h),.mu false (lM (row.map .int)),.shr (.int pl),.no,.no]) ((zL (n:=pl) (cs0:=_) bq rfl (aw rfl) (v_N (aw rfl)) rfl rfl ⟨p0,by rw [Za,Za]; exact p1,by rw [Za,Za]; omega⟩).trans (by
  rw [cT rfl,si,erow]
  rfl)) ?_
 refine aC (τ':=sW t gv M M M c w M b.i l (tpI ns - ni) fre q1 [.shr (.int h),.mu false (lM (row.map .int)),.shr (.int pl),.shr (.bl (!decide (row=q.r))),.no]) (bG (v_S (aE (fQ (b:=false) rfl (f7 _)) (aE (fQ (b:=true) rfl (mr M)) (aw rfl) (bh hq)) (C2 _ _)) rfl) (Zb rfl) rfl) ?_
 have ep:=Dm (t:=t) m h90 hb hj hp pi hq hs' hn (by omega) ci ch ⟨ni12,nh12⟩ ds d12 (by omega) (row:=row) (pl:=pl) (by rw [erow,ers]) p0 (by rw [<- ers]; exact p1);refine aC (τ':=sW t gv (mvB M b.i j h (p.r.erase b.i) row) M M c w M b.i l (tpI ns - ni) fre q1 [.shr (.int h),.mu false (lM (row.map .int)),.shr (.int pl),.shr (.bl (!decide (row=q.r))),.shr (.bl (!decide (row=q.r)))]) (bG (s:=.shr (.bl (!decide (row=q.r)))) (v_M (C:=t.af) (i:=0) (q:=[]) (ss:=[.mu true (trM t.af gv M),.shr (.int b.i),.shr (.int h),.shr (.int pl)]) (τ':=sW t gv (mvB M b.i j h (p.r.erase b.i) row) M M c w M b.i l (tpI ns - ni) fre q1 [.shr (.int h),.mu false (lM (row.map .int)),.shr (.int pl),.shr (.bl (!decide (row=q.r))),.no]) bq rfl rfl (aZ (q_N (aw rfl)) (aZ (q_N (aw rfl)) (aZ (q_N (aw rfl)) rfl))) rfl ep rfl) (Zb rfl) rfl) ?_
 have hg:aO (sW t gv (mvB M b.i j h (p.r.erase b.i) row) M M c w M b.i l (tpI ns - ni) fre q1 [.shr (.int h),.mu false (lM (row.map .int)),.shr (.int pl),.shr (.bl (!decide (row=q.r))),.shr (.bl (!decide (row=q.r)))]) 1 [.k (.inl j)]=some (lM (p.r.map .int)):=by
  rw [kS rfl];refine (lj _ _ _).trans ?_
  rw [hp];rfl
 have ef:cL (faD M) (.int b.i)=some (.tup [.int j,.str b.n]):=by
  refine (bh hb).trans ?_
  rw [hj];rfl
 refine aC (τ':=sW t gv (mvB M b.i j h (p.r.erase b.i) row) (upR M j (p.r.erase b.i)) M c w M b.i l (tpI ns - ni) fre q1 [.shr (.int h),.mu false (lM (row.map .int)),.shr (.int pl),.shr (.bl (!decide (row=q.r))),.shr (.bl (!decide (row=q.r)))]) ((Ge (n:=b.i) (ns:=p.r) (jX bq (aE (aE (fQ (b:=true) rfl (oK M)) (aw rfl) ef) e_c (jQ _ _)) rfl rfl) (aw rfl) hg (sq _) ⟨by omega,pi⟩).trans ?_) ?_
 ·rw [cT rfl,AH]
  have e4:(bxM M).put ([]++[.k (.inl j)]) (lM ((p.r.erase b.i).map .int))=bxM (upR M j (p.r.erase b.i)):=rn m.nd hp;rw [e4];rfl
 have hq3:∃ q',fd (upR M j (p.r.erase b.i)) h=some q':=by rw [jS,hq]; exact ⟨_,rfl⟩
 obtain ⟨q',hq'⟩:=hq3
 have bm:bxM (mvB M b.i j h (p.r.erase b.i) row)=.n .d (eD (kv (λ b=>lM (b.r.map .int)) (upR M j (p.r.erase b.i))) (.inl h) (lM (row.map .int))):=by
  rw [vC hq'];unfold mvB bxM kM;rw [pQ _ _ _ _ (λ _=>rfl)]
 have fm:faM (mvB M b.i j h (p.r.erase b.i) row)=.n .d (eD (kv (λ b=>.s (.tup [hD b.h,.str b.n])) M) (.inl b.i) (.s (.tup [.int h,.str b.n]))):=by
  rw [yM m.nd hb];unfold mvB faM kM;rw [LD _ _ _ _ _ _ (λ _ _=>rfl),LD _ _ _ _ _ _ (λ _ _=>rfl)]
 have s1:cA (cq 1) (aD 11) (eV 12) (sW t gv (mvB M b.i j h (p.r.erase b.i) row) (upR M j (p.r.erase b.i)) M c w M b.i l (tpI ns - ni) fre q1 [.shr (.int h),.mu false (lM (row.map .int)),.shr (.int pl),.shr (.bl (!decide (row=q.r))),.shr (.bl (!decide (row=q.r)))])=some (.next (sW t gv (mvB M b.i j h (p.r.erase b.i) row) (mvB M b.i j h (p.r.erase b.i) row) M c w M b.i l (tpI ns - ni) fre q1 [.shr (.int h),.no,.shr (.int pl),.shr (.bl (!decide (row=q.r))),.shr (.bl (!decide (row=q.r)))])):=by
  refine (dw (cs:=kv (λ b=>lM (b.r.map .int)) (upR M j (p.r.erase b.i))) (v_V rfl) bq (aw rfl) rfl rfl rfl (by rw [eU,fY]; omega)).trans ?_
  unfold sW sY;rw [bm];rfl
 have s2:cA (cq 2) (aD 6) (eT (aF (aD 11) (aF (dOp oIx (dOp cL (aD 2) (aD 6)) (dC (.int 1))) cK))) (sW t gv (mvB M b.i j h (p.r.erase b.i) row) (mvB M b.i j h (p.r.erase b.i) row) M c w M b.i l (tpI ns - ni) fre q1 [.shr (.int h),.no,.shr (.int pl),.shr (.bl (!decide (row=q.r))),.shr (.bl (!decide (row=q.r)))])=some (.next (sW t gv (mvB M b.i j h (p.r.erase b.i) row) (mvB M b.i j h (p.r.erase b.i) row) (mvB M b.i j h (p.r.erase b.i) row) c w M b.i l (tpI ns - ni) fre q1 [.shr (.int h),.no,.shr (.int pl),.shr (.bl (!decide (row=q.r))),.shr (.bl (!decide (row=q.r)))])):=by
  refine (dw (cs:=kv (λ b=>.s (.tup [hD b.h,.str b.n])) M) (v_T (ah (aw rfl) (ah (aE (aE (fQ (b:=true) rfl (oK M)) (aw rfl) ef) e_c (rM _ _ _)) aB)) rfl (Zb rfl)) bq (aw rfl) rfl rfl rfl (by rw [eU]; omega)).trans ?_
  unfold sW sY;rw [fm];rfl
 have hqm:∃ q2,fd (mvB M b.i j h (p.r.erase b.i) row) h=some q2/\q2.r=row:=by
  rw [GX,hq];exact ⟨_,rfl,if_pos (je hq)⟩
 obtain ⟨q2',hq2',eq2⟩:=hqm
 have lrow:row.length < 1000:=by
  rw [erow,(j7 _ _ _).length_eq,Zv];omega
 have bs:bK t [trD t.af gv (mvB M b.i j h (p.r.erase b.i) row),.int h]=some (.own (.lst (row.map .int))):=by
  exact (nJ hq2').trans (by rw [eq2])
 unfold sV
 show (match cA (cq 1) (aD 11) (eV 12) (sW t gv (mvB M b.i j h (p.r.erase b.i) row) (upR M j (p.r.erase b.i)) M c w M b.i l (tpI ns - ni) fre q1 [.shr (.int h),.mu false (lM (row.map .int)),.shr (.int pl),.shr (.bl (!decide (row=q.r))),.shr (.bl (!decide (row=q.r)))]) with
  | some (.next τ1)=>match cA (cq 2) (aD 6) (eT (aF (aD 11) (aF (dOp oIx (dOp cL (aD 2) (aD 6)) (dC (.int 1))) cK))) τ1 with
   | some (.next τ2)=>(i9 (cV Ht (aF (aD 15) (aF (dC (.ty "bool")) cK))) (i9 (dOp oEq (aD 15) (aD 14)) (dFn cH (aF (l7 t.af "boxes_of" (bK t) (aD 0) (aF (aD 11) cK)) (aF (aD 12) cK)))) ((aY τ2).set 12 (.shr (frz (lM (row.map .int)))))).bind λ d=>if sca d=true/\1≠2 then some (pM.ret (.shr d) τ2) else none
   | _=>none
  | _=>none)=_
 simp only [s1,s2];rw [f7]
 have e0':((aY (sW t gv (mvB M b.i j h (p.r.erase b.i) row) (mvB M b.i j h (p.r.erase b.i) row) (mvB M b.i j h (p.r.erase b.i) row) c w M b.i l (tpI ns - ni) fre q1 [.shr (.int h),.no,.shr (.int pl),.shr (.bl (!decide (row=q.r))),.shr (.bl (!decide (row=q.r)))])).set 12 (.shr (.lst (row.map .int))))[0]?=some (.shr (trD t.af gv (mvB M b.i j h (p.r.erase b.i) row))):=by
  show some (Sl.shr (frz (trM t.af gv (mvB M b.i j h (p.r.erase b.i) row))))=_;rw [oJ]
 have ebl:∀ x:Bool,oEq (.bl x) (.bl x)=some (.bl true):=λ x=>by
  show some (D.bl (decide (x=x)))=_;rw [Zo rfl]
 rw [iZ (b:=true) (c:=true) (a8 (ah (aw rfl) (ah e_c aB)) rfl) (iZ (b:=true) (c:=true) (aE (aw rfl) (aw rfl) (ebl _)) (fe (ah (cU (aw e0') (ah (aw rfl) aB) rfl bs rfl) (ah (aw rfl) aB)) (pT row lrow) rfl))];rfl
end
end N10
end
section
namespace N10
open PySem L2
def z3 {cs:List Int} {j:Nat} {d:D} (h:(jy (cs.map .int))[j]?=some d):∃ c:Int,d=.tup [.int (j:Int),.int c]/\cs[j]?=some c:=by
 unfold jy at h;rw [List.getElem?_mapIdx,List.getElem?_map] at h;obtain ⟨d',hd',rfl⟩:=Zm h;obtain ⟨c,hc,rfl⟩:=Zm hd';exact ⟨c,rfl,hc⟩
def zZ (cs:List Int):(jy (cs.map .int)).length=cs.length:=by unfold jy; rw [List.length_mapIdx,Za]
def GD {τ:List Sl} {f:DE} {as:List D} (h:f τ=some (.lst as)):sj (aF f cK) τ=some (jy as):=by
 unfold sj;rw [ah h aB];rfl
def ER (ns:List Int):∃ cs:List Int,oSl (scr ns) (some 3) (some 51)=some (.lst (cs.map .int))/\cs.length<=48:=by
 refine ⟨(ns.drop (HT.sIx ns.length 0 (some 3))).take (HT.sIx ns.length ns.length (some 51) - HT.sIx ns.length 0 (some 3)),?_,?_⟩
 ·show some (D.lst (cutD (ns.map .int) _ _))=_
  unfold cutD;rw [Za,<- X5,<- X4]
 ·have e1:=HT.vi ns.length 0 3
  have e2:=HT.vi ns.length ns.length 51;rw [show ((3:Nat):Int)=3 from rfl] at e1;rw [show ((51:Nat):Int)=51 from rfl] at e2;rw [e1,e2,Yw,Y6];omega
def rQ {f g:DSm} {τ τ':List Sm} {s:Sm} (h:f τ=some (.ret s τ')):dt f g τ=some (.ret s τ'):=by unfold dt; rw [h]
def zX {b:D->DSm} {ds:List D} {τ:List Sm} (P:Nat->List Sm->Prop) (h0:P 0 τ) (hs:∀ j d τ,ds[j]?=some d->P j τ->∃ τ2,b d τ=some (.next τ2)/\P (j+1) τ2):∃ τ',forM b ds τ=some (.next τ')/\P ds.length τ':=by
 induction ds generalizing τ P with
 | nil=>exact ⟨τ,rfl,h0⟩
 | cons d ds ih =>
  obtain ⟨τ2,e,p⟩:=hs 0 d τ rfl h0;obtain ⟨τ',e',p'⟩:=ih (λ j=>P (j+1)) p λ j d τ hd hp=>hs (j+1) d τ hd hp
  refine ⟨τ',?_,p'⟩;show (match b d τ with | some (.next τ')=>forM b ds τ' | some (.cnt τ')=>forM b ds τ' | some (.brk τ')=>some (.next τ') | r=>r)=_;rw [e];exact e'
section
variable {t:Adr} {gv:Int} {M:List B8}
def stB (M:List B8) (i:Int) (p:Pl):List B8:=M.map λ b=>if b.i=i then { b with m:=p } else b
def GW (M:List B8) (i x:Int) (p:Pl):fd (stB M i p) x=(fd M x).map λ b=>if b.i=i then { b with m:=p } else b:=by
 unfold fd stB;rw [List.find?_map];congr 2
 funext b
 show decide ((if b.i=i then { b with m:=p } else b).i=x)=_;split <;> rfl
def EM (M:List B8) (i:Int) (p:Pl):(stB M i p).map B8.i=M.map B8.i:=by
 unfold stB;rw [Zw];refine Zu λ b _=>?_
 show (if b.i=i then { b with m:=p } else b).i=b.i;split <;> rfl
def Gc (m:MOk gv M) (i:Int) (p:Pl):MOk gv (stB M i p):=by
 have nd':Nd (stB M i p):=by unfold Nd; rw [EM]; exact m.nd
 have old:∀ {x:Int} {d:B8},fd M x=some d->fd (stB M i p) x=some (if d.i=i then { d with m:=p } else d):=λ {x d} h=>by rw [GW,h]; rfl
 have un:∀ c ∈ stB M i p,∃ d ∈ M,d.i=c.i/\d.h=c.h/\d.r=c.r:=λ c hc=>by
  obtain ⟨d,hd,rfl⟩:=Z4.mp hc;refine ⟨d,hd,?_⟩;split <;> exact ⟨rfl,rfl,rfl⟩
 have oh:∀ d:B8,(if d.i=i then { d with m:=p } else d).h=d.h:=λ d=>by split <;> rfl
 have or:∀ d:B8,(if d.i=i then { d with m:=p } else d).r=d.r:=λ d=>by split <;> rfl
 refine ⟨nd',λ c hc=>?_,?_,λ c hc c0=>?_,λ c hc x hx=>?_,λ c hc=>?_,λ c hc=>?_⟩
 ·obtain ⟨d,hd,e1,_⟩:=un c hc
  rw [<- e1]; exact m.lt d hd
 ·obtain ⟨r,r1,r2⟩:=m.root
  exact ⟨_,old r1,(oh r).trans r2⟩
 ·obtain ⟨d,hd,e1,e2,_⟩:=un c hc
  obtain ⟨j,p,h1,h2,h3⟩:=m.hol d hd (by rw [e1]; exact c0);exact ⟨j,_,by rw [<- e2]; exact h1,old h2,by rw [or,<- e1]; exact h3⟩
 ·obtain ⟨d,hd,e1,_,e3⟩:=un c hc
  obtain ⟨e,h1,h2⟩:=m.kid d hd x (by rw [e3]; exact hx);exact ⟨_,old h1,by rw [oh,h2,e1]⟩
 ·obtain ⟨d,hd,_,_,e3⟩:=un c hc
  rw [<- e3]; exact m.rnd d hd
 ·obtain ⟨d,hd,e1,_⟩:=un c hc
  obtain ⟨n,h1,h2⟩:=m.ch d hd;rw [e1] at h1;exact ⟨n,Ch.mono (λ x e he=>⟨_,old he,oh e⟩) h1,h2⟩
def vG {g:B8->Mt} {m2:Mt} {M:List B8} {i:Int} {b:B8} (nd:Nd M) (h:fd M i=some b) (eg:∀ c:B8,(g c).put [] m2=m2):(kM g M).put [.k (.inl i)] m2=.n .d (M.map λ c=>((.inl c.i:Key),if c.i=i then m2 else g c)):=by
 have hb:=aU h;have hi:=je h;obtain ⟨l1,l2,rfl⟩:=List.append_of_mem hb;have nd':=nd;unfold Nd at nd';rw [Zr,Zh,Yd,Zy] at nd';have n1:∀ c ∈ l1,c.i≠i:=λ c hc e=>nd'.2.2 c.i (Yb hc) b.i (Zd ..) (by rw [e,hi])
 have n2:∀ c ∈ l2,c.i≠i:=λ c hc e=>nd'.2.1.1 (by rw [hi,<- e]; exact Yb hc)
 have ix:((kv g (l1++b::l2)).findIdx? λ c=>decide (c.1=.inl i))=some l1.length:=by
  unfold kv;rw [List.findIdx?_map,List.findIdx?_append]
  have e1:(l1.findIdx? ((λ c:Key×Mt=>decide (c.1=Sum.inl i)) ∘ λ b=>((.inl b.i:Key),g b)))=none:=by
   rw [List.findIdx?_eq_none_iff];intro c hc;exact Zk λ z=>n1 c hc (by injection z)
  rw [e1,List.findIdx?_cons];have e2:((λ c:Key×Mt=>decide (c.1=Sum.inl i)) ∘ λ b:B8=>((.inl b.i:Key),g b)) b=true:=Zo (by show (Sum.inl b.i:Key)=Sum.inl i; rw [hi]);rw [e2];simp
 have gx:(kv g (l1++b::l2))[l1.length]?=some ((.inl b.i:Key),g b):=by
  unfold kv;rw [List.getElem?_map,List.getElem?_append_right (Zs _),X1];rfl
 show (match (kv g (l1++b::l2)).findIdx? (λ c=>decide (c.1=.inl i)) with | none=>Mt.n .d (kv g (l1++b::l2)) | some j=>match (kv g (l1++b::l2))[j]? with | none=>Mt.n .d (kv g (l1++b::l2)) | some c=>.n .d ((kv g (l1++b::l2)).set j (c.1,Mt.put c.2 [] m2)))=_;simp only [ix,gx];congr 1;unfold kv;rw [Zr,Zh,Zr,Zh,List.set_append_right _ _ (by rw [Za]; exact Zs _),Za,X1];congr 1
 ·refine Zu λ c hc=>?_
  rw [if_neg (n1 c hc)]
 ·show (_,Mt.put (g b) [] m2)::_=_
  rw [if_pos hi,eg];congr 1;refine Zu λ c hc=>?_
  rw [if_neg (n2 c hc)]
def kst {β:Type} {g:B8->β} {p:Pl} {i:Int} {b:B8} (nd:Nd M) (hb:fd M i=some b):(M.map λ c=>((.inl c.i:Key),if c.i=i then g { b with m:=p } else g c))=kv g (stB M i p):=by
 unfold kv stB;rw [Zw];refine Zu λ c hc=>?_
 show _=((Sum.inl (if c.i=i then { c with m:=p } else c).i:Key),g (if c.i=i then { c with m:=p } else c))
 by_cases e:c.i=i
 ·have hf:=iW nd hc
  rw [e,hb] at hf;cases hf;rw [if_pos e,if_pos e]
 · rw [if_neg e,if_neg e]
def fP {β:Type} {g:B8->β} {p:Pl} {i:Int} {b:B8} (nd:Nd M) (hb:fd M i=some b) (hg:g { b with m:=p }=g b):kv g (stB M i p)=kv g M:=by
 rw [<- kst nd hb];refine Zu λ c hc=>?_
 by_cases e:c.i=i
 ·have hf:=iW nd hc
  rw [e,hb] at hf;cases hf;rw [if_pos e,hg]
 · rw [if_neg e]
def j4 {i:Int} {b:B8} (nd:Nd M) (hb:fd M i=some b):stB M i b.m=M:=by
 refine (Zu λ c hc=>?_).trans (List.map_id _)
 by_cases e:c.i=i
 ·have hf:=iW nd hc
  rw [e,hb] at hf;cases hf;rw [if_pos e];rfl
 ·rw [if_neg e]
  rfl
def EC {C:Addr} {p:Pl} {i:Int} {b:B8} (nd:Nd M) (hb:fd M i=some b) (hw:p.w=b.m.w) (ho:p.o=b.m.o):(trM C gv M).put ([]++[.k (.inr "marks")]++[.k (.inl i)]) (mkM { b with m:=p })=trM C gv (stB M i p):=by
 refine (show _=trG C (.s (.int gv)) (kM (λ b=>.s (.str b.n)) M) (kM (λ b=>.s (hD b.h)) M) (bxM M) ((kM mkM M).put [.k (.inl i)] (mkM { b with m:=p })) (kM wdM M) (kM roM M) from rfl).trans ?_
 rw [vG nd hb (λ c=>by unfold mkM; rfl),kst nd hb];unfold trM bxM kM;rw [fP (p:=p) (g:=λ b=>Mt.s (.str b.n)) nd hb rfl,fP (p:=p) (g:=λ b=>Mt.s (hD b.h)) nd hb rfl,fP (p:=p) (g:=λ b=>lM (b.r.map .int)) nd hb rfl,fP (p:=p) (g:=wdM) nd hb (by unfold wdM; rw [hw]),fP (p:=p) (g:=roM) nd hb (by unfold roM; rw [ho])]
def vJ {g:B8->Mt} {x:Mt} {i:Int} {b:B8} (hb:fd M i=some b):eD (kv g M) (.inl i) x=M.map λ c=>((.inl c.i:Key),if c.i=i then x else g c):=by
 unfold eD
 rw [if_pos (by
  rw [List.any_eq_true];refine ⟨((.inl b.i:Key),g b),?_,Zo (by rw [je hb])⟩
  exact Z4.mpr ⟨b,aU hb,rfl⟩)]
 unfold kv;rw [Zw];refine Zu λ c hc=>?_
 show (if (Sum.inl c.i:Key)=Sum.inl i then ((Sum.inl c.i:Key),x) else (Sum.inl c.i,g c))=_
 by_cases e:c.i=i
 · rw [if_pos (by rw [e]),if_pos e]
 · rw [if_neg (λ z=>e (by injection z)),if_neg e]
def Iy {C:Addr} {p:Pl} {i:Int} {b:B8} (nd:Nd M) (hb:fd M i=some b) (hk:p.k=b.m.k) (ho:p.o=b.m.o):(trM C gv M).put ([]++[.k (.inr "words")]) (.n .d (eD (kv wdM M) (.inl i) (wdM { b with m:=p })))=trM C gv (stB M i p):=by
 refine (show _=trG C (.s (.int gv)) (kM (λ b=>.s (.str b.n)) M) (kM (λ b=>.s (hD b.h)) M) (bxM M) (kM mkM M) (.n .d (eD (kv wdM M) (.inl i) (wdM { b with m:=p }))) (kM roM M) from rfl).trans ?_
 rw [vJ hb,kst nd hb];unfold trM bxM kM;rw [fP (p:=p) (g:=λ b=>Mt.s (.str b.n)) nd hb rfl,fP (p:=p) (g:=λ b=>Mt.s (hD b.h)) nd hb rfl,fP (p:=p) (g:=λ b=>lM (b.r.map .int)) nd hb rfl,fP (p:=p) (g:=mkM) nd hb (by unfold mkM; rw [hk]),fP (p:=p) (g:=roM) nd hb (by unfold roM; rw [ho])]
def Iz {C:Addr} {p:Pl} {i:Int} {b:B8} (nd:Nd M) (hb:fd M i=some b) (hk:p.k=b.m.k) (hw:p.w=b.m.w):(trM C gv M).put ([]++[.k (.inr "rows")]) (.n .d (eD (kv roM M) (.inl i) (roM { b with m:=p })))=trM C gv (stB M i p):=by
 refine (show _=trG C (.s (.int gv)) (kM (λ b=>.s (.str b.n)) M) (kM (λ b=>.s (hD b.h)) M) (bxM M) (kM mkM M) (kM wdM M) (.n .d (eD (kv roM M) (.inl i) (roM { b with m:=p }))) from rfl).trans ?_
 rw [vJ hb,kst nd hb];unfold trM bxM kM;rw [fP (p:=p) (g:=λ b=>Mt.s (.str b.n)) nd hb rfl,fP (p:=p) (g:=λ b=>Mt.s (hD b.h)) nd hb rfl,fP (p:=p) (g:=λ b=>lM (b.r.map .int)) nd hb rfl,fP (p:=p) (g:=mkM) nd hb (by unfold mkM; rw [hk]),fP (p:=p) (g:=wdM) nd hb (by unfold wdM; rw [hw])]
def K3:∀ (l:List Str) (w:Str),(j3 (l.map λ x=>((.inr x:Key),D.bl true)) (.inr w)).isSome=decide (w ∈ l)
 | [],w=>rfl
 | x::l,w=>by
  have ih:=K3 l w;unfold j3 at ih ⊢;rw [Zh,List.find?_cons]
  by_cases e:x=w
  ·rw [Zo (show (Sum.inr x:Key)=Sum.inr w by rw [e]),Zo (show w ∈ x::l by rw [e]; exact Zd ..)]
   rfl
  ·rw [Zk (show ¬ (Sum.inr x:Key)=Sum.inr w from λ z=>e (by injection z))]
   refine ih.trans ?_
   by_cases h:w ∈ l
   · rw [Zo h,Zo (Zc _ h)]
   · rw [Zk h,Zk (λ z=>(Zl.mp z).elim (λ z=>e z.symm) h)]
def kin (b:B8) (w:Str):CZ (.str w) (mkD b)=some (.bl (decide (w ∈ b.m.k))):=by
 show some (D.bl (j3 (b.m.k.map λ x=>((.inr x:Key),D.bl true)) (.inr w)).isSome)=_;rw [K3]
def NW (b:B8) (w:Str):fX (.str w) (mkD b)=some (.bl (!decide (w ∈ b.m.k))):=by
 show some (D.bl (!(j3 (b.m.k.map λ x=>((.inr x:Key),D.bl true)) (.inr w)).isSome))=_;rw [K3]
def MC (l:List Str) (w:Str):((l.map λ x=>((.inr x:Key),Mt.s (.bl true))).any λ c=>decide (c.1=.inr w))=decide (w ∈ l):=by
 rw [Xd,Y9,List.any_eq_true];constructor
 ·rintro ⟨c,hc,e⟩
  obtain ⟨x,hx,rfl⟩:=Z4.mp hc;have:=Xx e;injection this with this
  rw [<- this]; exact hx
 · exact λ h=>⟨_,Z4.mpr ⟨w,h,rfl⟩,Zo rfl⟩
def jr (p:Pl) (w:Str):Pl:=if w ∈ p.k then p else { p with k:=p.k++[w] }
def lY (p:Pl) (w:Str):Pl:={ p with k:=p.k.filter λ x=>!decide (x=w) }
def AU {C:Addr} {r:List Sm} {i:Int} {b:B8} (hb:fd M i=some b):aO (.mu true (trM C gv M)::r) 0 ([]++[.k (.inr "marks")]++[.k (.inl i)])=some (mkM b):=by
 rw [kS rfl];refine (show _=(kM mkM M).get [.k (.inl i)] from rfl).trans ?_
 rw [lj,hb];rfl
def Dr {i:Int} {b:B8} {w:Str} (nd:Nd M) (hb:fd M i=some b) (hn:aT w=true) (hk:b.m.k.length < 1000):iK t [.mu true (trM t.af gv M),.shr (.int i),.shr (.str w)]=some (.shr (.bl (!decide (w ∈ b.m.k))),[.mu true (trM t.af gv (stB M i (jr b.m w))),.no,.no]):=by
 unfold iK iF;have sn:∀ {r:List Sm},aY (.mu true (trM t.af gv M)::r)=.shr (trD t.af gv M)::aY r:=fi
 refine (cZ (τ:=[.mu true (trM t.af gv (stB M i (jr b.m w))),.shr (.int i),.shr (.str w)]) ?_).trans rfl;refine aC (cM (τ:=[.mu true (trM t.af gv M),.shr (.int i),.shr (.str w)]) (by rw [sn]; exact cU e_v (ah e_v aB) rfl (d5 hb) rfl)) ?_
 refine aC (cM (fe (ah e_v aB) (de hn) rfl)) ?_
 have et:=t_S (τ:=[.mu true (trM t.af gv M),.shr (.int i),.shr (.str w)]) (g:=dT (dOp CZ (aD 2) (dOp cL (dUn (tR t.af "marks") (aD 0)) (aD 1)))) (by rw [sn]; exact a6 (aE e_v (aE (fw e_v fK) e_v (bh hb)) (kin b w)));unfold jr
 by_cases h:w ∈ b.m.k
 ·rw [Zo h] at et
  rw [Zo h,if_pos h,j4 nd hb];exact rQ (jY et (ig (v_N e_c)))
 ·rw [Zk h] at et
  rw [Zk h,if_neg h];refine aC (c6 et rfl) ?_
  refine aC ((dw (v_N e_c) (jX (jg bq rfl) e_v rfl rfl) e_v rfl rfl (AU hb) (by rw [Za]; omega)).trans ?_) (ig (v_N e_c));rw [cT rfl]
  have e2:eD (b.m.k.map λ x=>((.inr x:Key),Mt.s (.bl true))) (.inr w) (.s (.bl true))=(b.m.k++[w]).map λ x=>((.inr x:Key),Mt.s (.bl true)):=by
   unfold eD;rw [MC,Zk h,if_neg Zf,Zr];rfl
  rw [e2];have e3:=EC (C:=t.af) (gv:=gv) (p:={ b.m with k:=b.m.k++[w] }) nd hb rfl rfl;rw [show (Mt.n .d ((b.m.k++[w]).map λ x=>((.inr x:Key),Mt.s (.bl true))))=mkM { b with m:={ b.m with k:=b.m.k++[w] } } from rfl,e3];rfl
def Ea {i:Int} {b:B8} {w:Str} (nd:Nd M) (hb:fd M i=some b) (hn:aT w=true):iL t [.mu true (trM t.af gv M),.shr (.int i),.shr (.str w)]=some (.shr (.bl (decide (w ∈ b.m.k))),[.mu true (trM t.af gv (stB M i (lY b.m w))),.no,.no]):=by
 unfold iL iG;have sn:∀ {r:List Sm},aY (.mu true (trM t.af gv M)::r)=.shr (trD t.af gv M)::aY r:=fi
 refine (cZ (τ:=[.mu true (trM t.af gv (stB M i (lY b.m w))),.shr (.int i),.shr (.str w)]) ?_).trans rfl;refine aC (cM (τ:=[.mu true (trM t.af gv M),.shr (.int i),.shr (.str w)]) (by rw [sn]; exact cU e_v (ah e_v aB) rfl (d5 hb) rfl)) ?_
 refine aC (cM (fe (ah e_v aB) (de hn) rfl)) ?_
 have et:=t_S (τ:=[.mu true (trM t.af gv M),.shr (.int i),.shr (.str w)]) (g:=dT (dOp fX (aD 2) (dOp cL (dUn (tR t.af "marks") (aD 0)) (aD 1)))) (by rw [sn]; exact a6 (aE e_v (aE (fw e_v fK) e_v (bh hb)) (NW b w)))
 by_cases h:w ∈ b.m.k
 ·rw [Zo h] at et
  rw [Zo h];refine aC (c6 et rfl) ?_
  refine aC ((K0 (jX (jg bq rfl) e_v rfl rfl) e_v rfl (AU hb) (by rw [MC,Zo h])).trans ?_) (ig (v_N e_c));rw [cT rfl]
  have e2:ui (b.m.k.map λ x=>((.inr x:Key),Mt.s (.bl true))) (.inr w)=(b.m.k.filter λ x=>!decide (x=w)).map λ x=>((.inr x:Key),Mt.s (.bl true)):=by
   unfold ui;rw [List.filter_map];congr 1;refine List.filter_congr λ x _=>?_
   by_cases e:x=w
   · subst e; simp
   · simp [e]
  rw [e2];have e3:=EC (C:=t.af) (gv:=gv) (p:=lY b.m w) nd hb rfl rfl;rw [show (Mt.n .d ((b.m.k.filter λ x=>!decide (x=w)).map λ x=>((.inr x:Key),Mt.s (.bl true))))=mkM { b with m:=lY b.m w } from rfl,e3];rfl
 ·rw [Zk h] at et
  have e4:lY b.m w=b.m:=by
   unfold lY;rw [List.filter_eq_self.mpr λ x hx=>by rw [Zk (λ e=>h (by rw [<- e]; exact hx))]; rfl]
  rw [Zk h,e4,j4 nd hb];exact rQ (jY et (ig (v_N e_c)))
end
end N10
end
section
namespace N10
open PySem L2
section
variable {t:Adr} {gv:Int} {M:List B8}
def all_strs (ws:List Str):(ws.map D.str).all sca=true:=by
 rw [List.all_map];exact Yq.mpr λ _ _=>rfl
def eQ {n:Nat} {ws:List Str} (h:∀ x ∈ ws,PyData.strOk x=true):jN n (ws.map .str)=true:=rG λ d hd=>by
 obtain ⟨x,hx,rfl⟩:=Z4.mp hd;rw [okD];exact h x hx
def yy {a b:List Str} (h:a.map D.str=b.map D.str):a=b:=by
 have:=Yh mS h;rw [strs_map,strs_map] at this;exact Zj this
def sF (a b:List Str):eqB (.lst (a.map .str)) (.lst (b.map .str))=decide (a=b):=by
 by_cases e:a=b
 · rw [e,j8,Zo rfl]
 · rw [xA (λ z=>e (yy (by injection z))),Zk e]
def tQ {ws:List Str} (h:ws.length<=1000):wF [.lst (ws.map .str)]=some (.lst (ws.map .str)):=by
 rfl
def eP (p:Pl) (ws:List Str):Pl:={ p with w:=ws }
def fJ (p:Pl) (os:List D):Pl:={ p with o:=os }
def yq {i:Int} {b:B8} {ws:List Str} (nd:Nd M) (hb:fd M i=some b) (h1:∀ x ∈ b.m.w,PyData.strOk x=true) (h2:∀ x ∈ ws,PyData.strOk x=true) (hl:ws.length<=1000) (hM:M.length<=1000):gE t [.mu true (trM t.af gv M),.shr (.int i),.mu true (lM (ws.map .str))]=some (.shr (.bl (!decide (b.m.w=ws))),[.mu true (trM t.af gv (stB M i (eP b.m ws))),.no,.mu true (lM (ws.map .str))]):=by
 unfold gE gs;dsimp only
 have sn:aY [.mu true (trM t.af gv M),.shr (.int i),.mu true (lM (ws.map .str))]=[.shr (trD t.af gv M),.shr (.int i),.shr (.lst (ws.map .str))]:=by
  rw [fi];show [_,_,Sl.shr (frz (lM (ws.map .str)))]=_;rw [f7];rfl
 refine (cZ (s:=.shr (.bl (!decide (b.m.w=ws)))) (τ:=[.mu true (trM t.af gv (stB M i (eP b.m ws))),.shr (.int i),.mu true (lM (ws.map .str))]) ?_).trans rfl;refine aC (cM (τ:=[.mu true (trM t.af gv M),.shr (.int i),.mu true (lM (ws.map .str))]) (by rw [sn]; exact cU (aw rfl) (ah (aw rfl) aB) rfl (d5 hb) rfl)) ?_
 have et:=t_S (τ:=[.mu true (trM t.af gv M),.shr (.int i),.mu true (lM (ws.map .str))]) (g:=dT (dOp oEq (dOp cL (dUn (tR t.af "words") (aD 0)) (aD 1)) (aD 2))) (b:=decide (b.m.w=ws)) (by rw [sn]; exact a6 (aE (aE (fw (aw rfl) fW) (aw rfl) (bh hb)) (aw rfl) ((CY (eQ h1) (eQ h2)).trans (by rw [sF]))))
 by_cases h:b.m.w=ws
 ·rw [Zo h] at et
  have e4:eP b.m ws=b.m:=by unfold eP; rw [<- h]
  rw [Zo h,e4,j4 nd hb];exact rQ (jY et (ig (v_N e_c)))
 ·rw [Zk h] at et
  rw [Zk h];refine aC (c6 et rfl) ?_
  refine aC (τ':=[.mu true (trM t.af gv (stB M i (eP b.m ws))),.shr (.int i),.mu true (lM (ws.map .str))]) ((dw (cs:=kv wdM M) (v_O (by rw [sn]; exact a8 (ah (aw rfl) aB) (tQ hl)) (all_strs ws)) (jg bq rfl) (aw rfl) rfl rfl rfl (by rw [eU]; omega)).trans ?_) (ig (v_N e_c));rw [cT rfl];have e3:=Iy (C:=t.af) (gv:=gv) (p:=eP b.m ws) nd hb rfl rfl;rw [show lM (ws.map D.str)=wdM { b with m:=eP b.m ws } from rfl,e3];rfl
def z6 {i:Int} {b:B8} {os:List D} (nd:Nd M) (hb:fd M i=some b) (h1:okL 9 (.tup b.m.o)=true) (h2:okL 9 (.tup os)=true) (he:qC (.tup b.m.o) (.tup os)=true->b.m.o=os) (hM:M.length<=1000):gG t [.mu true (trM t.af gv M),.shr (.int i),.shr (.tup os)]=some (.shr (.bl (!qC (.tup b.m.o) (.tup os))),[.mu true (trM t.af gv (stB M i (fJ b.m os))),.no,.no]):=by
 unfold gG gw;dsimp only;have sn:∀ {r:List Sm},aY (.mu true (trM t.af gv M)::r)=.shr (trD t.af gv M)::aY r:=fi
 refine (cZ (s:=.shr (.bl (!qC (.tup b.m.o) (.tup os)))) (τ:=[.mu true (trM t.af gv (stB M i (fJ b.m os))),.shr (.int i),.shr (.tup os)]) ?_).trans rfl;refine aC (cM (τ:=[.mu true (trM t.af gv M),.shr (.int i),.shr (.tup os)]) (by rw [sn]; exact cU (aw rfl) (ah (aw rfl) aB) rfl (d5 hb) rfl)) ?_
 have et:=t_S (τ:=[.mu true (trM t.af gv M),.shr (.int i),.shr (.tup os)]) (g:=dT (dOp JG (dOp cL (dUn (tR t.af "rows") (aD 0)) (aD 1)) (aD 2))) (b:=qC (.tup b.m.o) (.tup os)) (by rw [sn]; exact a6 (aE (aE (fw (aw rfl) fR) (aw rfl) (bh hb)) (aw rfl) (if_pos ⟨h1,h2⟩)))
 cases h:qC (.tup b.m.o) (.tup os) with
 | true =>
  rw [h] at et;have e4:fJ b.m os=b.m:=by unfold fJ; rw [<- he h]
  rw [e4,j4 nd hb];exact rQ (jY et (ig (v_N e_c)))
 | false =>
  rw [h] at et;refine aC (c6 et rfl) ?_
  refine aC (τ':=[.mu true (trM t.af gv (stB M i (fJ b.m os))),.shr (.int i),.shr (.tup os)]) ((dw (cs:=kv roM M) (v_N (aw rfl)) (jg bq rfl) (aw rfl) rfl rfl rfl (by rw [eU]; omega)).trans ?_) (ig (v_N e_c));rw [cT rfl];have e3:=Iz (C:=t.af) (gv:=gv) (p:=fJ b.m os) nd hb rfl rfl;rw [show Mt.s (D.tup os)=roM { b with m:=fJ b.m os } from rfl,e3];rfl
end
end N10
end
section
namespace N10
open PySem L2
def j6 {x y:Str} (h:x.length+y.length<=100000):lV (.str x) (.str y)=some (.str (x++y)):=if_pos h
def len_app (x y:Str):(x++y).length=x.length+y.length:=by
 show (x.cps++y.cps).size=_;rw [Array.size_append];rfl
def z4 {τ:List Sl} {f:DE} {l u:DO} {z:Str} {lo hi:Option Int} (h1:f τ=some (.str z)) (h2:l τ=some lo) (h3:u τ=some hi) (h4:z.length<=100000):Ii f l u τ=some (.str (Txt.slice z lo hi)):=by
 unfold Ii;rw [h1];rw [h2];rw [h3];exact if_pos h4
def kC (z:Str) {a b:Nat} {l u:Option Int} (hab:a<=b) (hb:b<=z.length) (e:Builtin.Str.strSliceIndices l u 1 z.length=Builtin.Str.strSliceIndices (some (a:Int)) (some (b:Int)) 1 z.length):(Txt.slice z l u).cps.toList=(z.cps.toList.drop a).take (b - a):=by
 have hl:z.cps.toList.length=z.length:=Y3;unfold Txt.slice;rw [e];split
 ·rename_i h
  rw [StrLaws.strSliceIndices_plain hab hb,Za,List.length_range] at h;have h':b - a=z.length:=by simpa using h
  have ha:a=0:=by omega
  subst ha;rw [List.drop_zero,h',<- hl,List.take_length]
 ·show (List.filterMap _ _)=_
  exact StrLaws.sliced_plain z hab hb
def gO {x:Str}:aT x=true↔1<=x.length/\x.length<=8/\∀ c ∈ x.cps.toList,lower c=true:=by
 unfold aT;rw [Z6,Z6,decide_eq_true_eq,decide_eq_true_eq,Yq];constructor
 ·rintro ⟨⟨h1,h2⟩,h3⟩
  exact ⟨by omega,by omega,h3⟩
 ·rintro ⟨h1,h2,h3⟩
  exact ⟨⟨by omega,by omega⟩,h3⟩
def jv (x:Str):x.length=x.cps.toList.length:=by rfl
def nL (x y:Str):(x++y).cps.toList=x.cps.toList++y.cps.toList:=by
 show (x.cps++y.cps).toList=_;rw [Array.toList_append]
def CT {z:Str} (h:One z):∀ c ∈ z.cps.toList,lower c=true:=by
 have h2:=h.2;unfold okS at h2;rw [Yp] at h2;intro c hc;exact h2 c (by simpa using hc)
def Fg (ns:List Int):∃ a b c d:Str,iH [scr ns,.int 1]=some (.shr (.lst [.str a,.str b,.str c,.str d]))/\aT a=true/\aT b=true/\aT c=true/\aT d=true:=by
 obtain ⟨c1,e1⟩:=xP ns (k:=1) (by decide);obtain ⟨c2,e2⟩:=xP ns (k:=1+1) (by decide);obtain ⟨z,ez,nz⟩:=rP c1 (w:=1) (by decide) (by decide);obtain ⟨y,ey,ny⟩:=rP c2 (w:=4) (by decide) (by decide);obtain ⟨z1,z8,zl⟩:=gO.mp nz;obtain ⟨r,er,r0,r1⟩:=gW c2 (w:=2) (by decide) (by decide)
 have hl:rL [.str z]=some (.int (z.length:Int)):=by
  show (if z.length<=100000 then _ else _)=_;rw [if_pos (by omega)]
 have em:=aI (i:=r) (j:=(z.length:Int)) (by omega);obtain ⟨s,es,os⟩:=AY (Z9 _ (by decide)) (Z8 _ (by decide));have ls:=os.1;have sl:=CT os;have a1:=X2 z none (some (r % (z.length:Int)));have a2:=X2 z (some (r % (z.length:Int)+1)) none;have f1:=j6 (x:=Txt.slice z none (some (r % (z.length:Int)))) (y:=s) (by omega);have f2:=j6 (x:=Txt.slice z none (some (r % (z.length:Int)))++s) (y:=Txt.slice z (some (r % (z.length:Int)+1)) none) (by rw [len_app]; omega);have f3:=j6 (x:=z) (y:=s) (by omega);have p0:=Z9 r (b:=(z.length:Int)) (by omega);have p1:=Z8 r (b:=(z.length:Int)) (by omega);obtain ⟨p,hp⟩:∃ p:Nat,r % (z.length:Int)=(p:Int):=⟨(r % (z.length:Int)).toNat,by omega⟩
 rw [hp] at p1;have s1:(Txt.slice z none (some (p:Int))).cps.toList=(z.cps.toList.drop 0).take (p - 0):=kC z (Z3 _) (by omega) (StrLaws.sliceIdx_none_lo _ _);have s2:(Txt.slice z (some ((p:Int)+1)) none).cps.toList=(z.cps.toList.drop (p+1)).take (z.length - (p+1)):=kC z (by omega) (Zs _) (StrLaws.sliceIdx_none_hi _ _)
 have zs:∀ c ∈ (z++s).cps.toList,lower c=true:=by
  intro c hc;rw [nL] at hc;rcases Zi.mp hc with h | h
  · exact zl c h
  · exact sl c h
 have lzs:=len_app z s
 have s3:(Txt.slice (z++s) (some (-8)) none).cps.toList=((z++s).cps.toList.drop ((z++s).length - 8)).take ((z++s).length - ((z++s).length - 8)):=by
  refine kC (z++s) (by omega) (Zs _) ?_
  rw [PyProof.Rows.sliceIdx_lo_neg _ (by decide),StrLaws.sliceIdx_none_hi];congr 2;omega
 refine ⟨z,Txt.slice z none (some (r % (z.length:Int)))++s++Txt.slice z (some (r % (z.length:Int)+1)) none,Txt.slice (z++s) (some (-8)) none,y,?_,nz,?_,?_,ny⟩
 ·unfold iH iA
  dsimp only;refine c5 ?_
  refine bt (cz (d:=.str LET) e_c) ?_
  refine bt (cz (by walk_at "ee")) ?_
  refine bt (cz (by walk_at "ee")) ?_
  refine bt (cz (by walk_at "ee")) ?_
  refine bt (cz (by walk_at "ee")) ?_
  refine bt (cz (aE (aE (z4 e_v CN (iR e_v) (by omega)) e_v f1) (z4 e_v (iR (aE e_v e_c (aM _ _))) CN (by omega)) f2)) ?_
  refine bt (cz (z4 (aE e_v e_v f3) (iR (G2 e_c rfl)) CN (by rw [len_app]; omega))) ?_
  exact fS (by walk_at "ee")
 ·rw [hp]
  refine gO.mpr ⟨by rw [len_app,len_app]; omega,?_,λ c hc=>?_⟩
  ·rw [len_app,len_app,jv (Txt.slice z none _),jv (Txt.slice z (some _) none),s1,s2,Yw,Yw,Y6,Y6]
   omega
  ·rw [nL,nL,s1,s2] at hc
   rcases Zi.mp hc with h | h
   ·rcases Zi.mp h with h | h
    · exact zl c (List.mem_of_mem_drop (List.mem_of_mem_take h))
    · exact sl c h
   · exact zl c (List.mem_of_mem_drop (List.mem_of_mem_take h))
 ·refine gO.mpr ⟨?_,?_,λ c hc=>?_⟩
  ·rw [jv,s3,Yw,Y6,<- jv]
   omega
  ·rw [jv,s3,Yw,Y6,<- jv]
   omega
  ·rw [s3] at hc
   exact zs c (List.mem_of_mem_drop (List.mem_of_mem_take hc))
def mi {s:Str} (h:aT s=true):PyData.strOk s=true:=by
 unfold aT at h;rw [Z6] at h;have h:=Yq.mp h.2;unfold PyData.strOk;rw [Yp];intro c hc;have:=h c (Xe.mpr hc);unfold lower at this;rw [Z6] at this;have:=Xx this.2;exact Zo (by omega)
def SG:Str:="!\"#$&'()*+,-./0123456789:;<=>?@ABCDEFGHIJKLMNOPQRSTUVWXYZ[\\]^_`abcdefghijklmnopqrstuvwxyz{|}~"
def Ik (z:Str):Prop:=z.length=1/\PyData.strOk z=true
def ET:SG.cps.toList.length=93:=by rfl
def IQ:∀ c ∈ SG.cps.toList,decide (c < 1114112)=true:=by decide +kernel
def mT {z:Str} (h:∀ c ∈ z.cps.toList,decide (c < 1114112)=true):PyData.strOk z=true:=by
 unfold PyData.strOk;rw [Yp];exact λ c hc=>h c (Xe.mpr hc)
def iM {z:Str} (h:PyData.strOk z=true):∀ c ∈ z.cps.toList,decide (c < 1114112)=true:=by
 unfold PyData.strOk at h;rw [Yp] at h;exact λ c hc=>h c (Xe.mp hc)
def IS {k:Int} (k0:0<=k) (k1:k < 93):∃ z:Str,oIx (.str SG) (.int k)=some (.str z)/\Ik z:=by
 obtain ⟨h,e⟩:=lO k0 (by rw [ET]; omega);refine ⟨⟨#[SG.cps.toList[k.toNat]]⟩,?_,rfl,?_⟩
 ·show (if SG.length<=100000 then (atI SG.cps.toList k).map _ else none)=_
  rw [if_pos (by decide +kernel),e];rfl
 ·refine mT λ c hc=>?_
  have e:c=SG.cps.toList[k.toNat]:=by simpa using hc
  rw [e];exact IQ _ (Y7 h)
def wR {P:Str->Prop} {gg:D->Option D}:∀ {ds:List D},(∀ d ∈ ds,∃ z:Str,gg d=some (.str z)/\P z)->∃ ts:List Str,uD gg ds=some (ts.map .str)/\ts.length=ds.length/\∀ z ∈ ts,P z
 | [],_=>⟨[],rfl,rfl,λ q hq=>nomatch hq⟩
 | d::ds,h=>by
  obtain ⟨q,e1,p1⟩:=h d (Zd ..);obtain ⟨qs,e2,l2,p2⟩:=wR (P:=P) (gg:=gg) (ds:=ds) λ x hx=>h x (Zc _ hx)
  refine ⟨q::qs,by simp only [uD,e1,e2]; rfl,by simp [l2],λ x hx=>?_⟩;rcases Zl.mp hx with rfl | hx
  · exact p1
  · exact p2 x hx
def nQ:∀ {ts:List Str},(∀ z ∈ ts,Ik z)->(ts.map (·.length)).sum=ts.length
 | [],_=>rfl
 | t::ts,h=>by
  rw [Zh,List.sum_cons,(h t (Zd ..)).1,nQ λ z hz=>h z (Zc _ hz),Zv];omega
def A4:∀ (ts:List Str) (a:Array Nat),(∀ z ∈ ts,Ik z)->(∀ c ∈ a.toList,decide (c < 1114112)=true)->∀ c ∈ (ts.foldl (λ acc p=>acc++(Str.cps "")++p.cps) a).toList,decide (c < 1114112)=true
 | [],a,_,h=>h
 | t :: ts,a,h,ha=>A4 ts _ (λ z hz=>h z (Zc _ hz)) λ c hc=>by
  rw [Array.toList_append,Array.toList_append] at hc;rcases Zi.mp hc with hc | hc
  ·rcases Zi.mp hc with hc | hc
   · exact ha c hc
   ·rw [show (Str.cps "").toList=[] by decide +kernel] at hc
    exact nomatch hc
  · exact iM (h t (Zd ..)).2 c hc
def Gw {ts:List Str} (h:∀ z ∈ ts,Ik z):PyData.strOk (Txt.join "" ts)=true:=by
 match ts with
 | []=>decide +kernel
 | t::ts=>exact mT (A4 ts t.cps (λ z hz=>h z (Zc _ hz)) (iM (h t (Zd ..)).2))
def EE (c:Int) {w:Int} (w0:0<=w) (w1:w<=5000):∃ z:Str,dQ [.int c,.int w]=some (.shr (.str z))/\PyData.strOk z=true:=by
 obtain ⟨r,er,r0,r1⟩:=gW c (by omega) (by omega)
 have go:∀ m:Int,0<=m->m<=31->∃ z:Str,xN (dC (D.str "")) (qG (lg (aF (aD 3) cK)) (dOp oIx (aD 1) (dOp oMod (dFn bC (aF (aD 2) (aF (dOp lV (dOp lV (aD 3) (dC (D.int 1))) (dOp uC (dC (D.int 3)) (aD 0))) cK))) (dC (D.int 93)))) [("_law_signs",2),("_law_cell_here",0),("_law_way",1)]) [.shr (.int c),.shr (.int w),.shr (.str SG),.shr (.int m)]=some (.str z)/\PyData.strOk z=true:=λ m m0 m1=>by
  obtain ⟨ts,ets,lts,ots⟩:=wR (gg:=λ d=>dOp oIx (aD 1) (dOp oMod (dFn bC (aF (aD 2) (aF (dOp lV (dOp lV (aD 3) (dC (D.int 1))) (dOp uC (dC (D.int 3)) (aD 0))) cK))) (dC (.int 93))) [.shr d,.shr (.str SG),.shr (.int c),.shr (.int w)]) (ds:=tw 0 m.toNat) (by
   intro d hm;obtain ⟨j,hj,rfl⟩:=pX hm;obtain ⟨q,eq,q0,q1⟩:=gW c (w:=w+1+3 * (j:Int)) (by omega) (by omega);obtain ⟨z,ez,lz⟩:=IS (Z9 _ (by decide)) (Z8 _ (by decide))
   exact ⟨z,by walk_at "ee",lz⟩)
  rw [hW] at lts;exact ⟨Txt.join "" ts,A9 e_c (mx (xi rfl (by omega)) (by rw [hW]; omega) ets) (by rw [nQ ots,show Str.length ""=0 by decide +kernel]; omega),Gw ots⟩
 unfold dQ iz;dsimp only;have et:∀ m:Int,dT (dOp oGt (dOp oMod (dOp oDiv (dFn bC (aF (aD 0) (aF (aD 1) cK))) (dC (D.int 30))) (dC (D.int 4))) (dC (D.int 0))) [.shr (.int c),.shr (.int w),.shr (.str SG),.shr (.int m)]=some (decide ((0:Int) < r / 30 % 4)):=λ m=>a6 (aE (aE (aE (fe (ah e_v (ah e_v aB)) er rfl) e_c (cg (by decide) (by decide +kernel))) e_c (aI (by decide))) e_c rfl)
 by_cases h:(0:Int) < r / 30 % 4
 ·have b0:=Z9 (1+r % 30) (b:=5) (by decide)
  obtain ⟨z,e,k⟩:=go (1+(1+r % 30) % 5) (by omega) (by omega);refine ⟨z,c5 ?_,k⟩;refine bt (cz e_c) ?_
  refine bt (cz (by walk_at "ee")) ?_
  refine AA ((et _).trans (by rw [Zo h])) (cz (by walk_at "ee")) ?_
  exact fS e
 ·obtain ⟨z,e,k⟩:=go (1+r % 30) (by omega) (by omega)
  refine ⟨z,c5 ?_,k⟩;show gJ _ _ [.shr (.int c),.shr (.int w),.no,.no]=_;refine bt (cz (d:=.str SG) e_c) ?_
  refine bt (cz (d:=.int (1+r % 30)) (by walk_at "ee")) ?_
  refine eI ((et _).trans (by rw [Zk h])) ?_
  exact fS e
def Hj (ws:List Str):Prop:=(∀ x ∈ ws,PyData.strOk x=true)/\ws.length<=40
def Bi (c:Int) {w:Int} (w0:0<=w) (w1:w<=3000) {ws:List Str} (hw:Hj ws):∃ vs:List Str,gB [.int c,.int w,.lst (ws.map .str)]=some (.own (.lst (vs.map .str)))/\Hj vs:=by
 obtain ⟨r,er,r0,r1⟩:=gW c (by omega) (by omega)
 have go:∀ m:Int,0<=m->m<=40->∃ vs:List Str,qG (lg (aF (aD 4) cK)) (dFn dQ (aF (aD 1) (aF (dOp lV (aD 2) (dOp uC (dC (D.int 7)) (aD 0))) cK))) [("_law_cell_here",0),("_law_way",1)] [.shr (.int c),.shr (.int w),.shr (.lst (ws.map .str)),.shr (.int r),.shr (.int m)]=some (.lst (vs.map .str))/\Hj vs:=λ m m0 m1=>by
  obtain ⟨ts,ets,lts,ots⟩:=wR (gg:=λ d=>dFn dQ (aF (aD 1) (aF (dOp lV (aD 2) (dOp uC (dC (D.int 7)) (aD 0))) cK)) [.shr d,.shr (.int c),.shr (.int w)]) (ds:=tw 0 m.toNat) (by
   intro d hm;obtain ⟨j,hj,rfl⟩:=pX hm;obtain ⟨z,ez,kz⟩:=EE c (w:=w+7 * (j:Int)) (by omega) (by omega)
   exact ⟨z,by walk_at "ee",kz⟩)
  rw [hW] at lts;exact ⟨ts,mx (xi rfl (by omega)) (by rw [hW]; omega) ets,ots,by omega⟩
 have hl:rL [.lst (ws.map .str)]=some (.int (ws.length:Int)):=by
  show some (D.int ((ws.map D.str).length:Int))=_;rw [Za]
 have t0:∀ x,dT (dOp oEq (dOp oMod (aD 3) (dC (D.int 4))) (dC (D.int 0))) [.shr (.int c),.shr (.int w),.shr (.lst (ws.map .str)),.shr (.int r),x]=some (decide (r % 4=0)):=λ x=>a6 (aE (aE e_v e_c (aI (by decide))) e_c (bE _ _))
 have t1:∀ x,Ab (dT (dOp oEq (dOp oMod (aD 3) (dC (D.int 4))) (dC (D.int 1)))) (dT (dOp oGt (cV rL (aF (aD 2) cK)) (dC (D.int 1)))) [.shr (.int c),.shr (.int w),.shr (.lst (ws.map .str)),.shr (.int r),x]=some (decide (r % 4=1)&&decide ((1:Int) < ws.length)):=λ x=>kq (a6 (aE (aE e_v e_c (aI (by decide))) e_c (bE _ _))) (a6 (aE (a8 (ah e_v aB) hl) e_c rfl))
 have t2:∀ x,dT (dOp oEq (dOp oMod (dOp oDiv (aD 3) (dC (D.int 24))) (dC (D.int 8))) (dC (D.int 1))) [.shr (.int c),.shr (.int w),.shr (.lst (ws.map .str)),.shr (.int r),x]=some (decide (r / 24 % 8=1)):=λ x=>a6 (aE (aE (aE e_v e_c (cg (by decide) (by decide +kernel))) e_c (aI (by decide))) e_c (bE _ _))
 unfold gB gm
 by_cases h0:r % 4=0
 ·refine ⟨ws,c5 ?_,hw⟩
  refine bt (cz (by walk_at "ee")) ?_
  exact Bz (b:=true) ((t0 _).trans (by rw [Zo h0])) (λ _=>kF (a8 (ah e_v aB) rfl)) nofun
 by_cases h1:(decide (r % 4=1)&&decide ((1:Int) < ws.length))=true
 ·refine ⟨ws.reverse,c5 ?_,λ x hx=>hw.1 x (List.mem_reverse.mp hx),by rw [Y4]; exact hw.2⟩
  show gJ _ _ [.shr (.int c),.shr (.int w),.shr (.lst (ws.map .str)),.no,.no]=_;refine bt (cz (d:=.int r) (by walk_at "ee")) ?_
  refine eI ((t0 _).trans (by rw [Zk h0])) ?_
  refine Bz (b:=true) ((t1 _).trans (by rw [h1])) (λ _=>kF ?_) nofun;rw [List.map_reverse];rfl
 have h1':=(Xn _).mp h1
 by_cases h2:r / 24 % 8=1
 ·obtain ⟨vs,e,k⟩:=go 40 (by omega) (by omega)
  refine ⟨vs,c5 ?_,k⟩;show gJ _ _ [.shr (.int c),.shr (.int w),.shr (.lst (ws.map .str)),.no,.no]=_;refine bt (cz (d:=.int r) (by walk_at "ee")) ?_
  refine eI ((t0 _).trans (by rw [Zk h0])) (eI ((t1 _).trans (by rw [h1'])) ?_);refine bt (cz (by walk_at "ee")) ?_
  refine AA ((t2 _).trans (by rw [Zo h2])) (cz e_c) ?_
  exact kF e
 ·obtain ⟨vs,e,k⟩:=go (r / 4 % 6) (by omega) (by omega)
  refine ⟨vs,c5 ?_,k⟩;show gJ _ _ [.shr (.int c),.shr (.int w),.shr (.lst (ws.map .str)),.no,.no]=_;refine bt (cz (d:=.int r) (by walk_at "ee")) ?_
  refine eI ((t0 _).trans (by rw [Zk h0])) (eI ((t1 _).trans (by rw [h1'])) ?_);refine bt (cz (d:=.int (r / 4 % 6)) (by walk_at "ee")) ?_
  refine eI ((t2 _).trans (by rw [Zk h2])) ?_
  exact kF e
end N10
end
section
namespace N10
open PySem L2
def Rw (d:D):Prop:=(∃ a x b,d=.tup [.str a,x,.bl b]/\PyData.strOk a=true/\okD 7 x=true/\okL 7 x=true)\/∃ ds,d=.tup ds/\ds.length≠3/\jN 7 ds=true/\pO 7 ds=true
def qU (os:List D):Prop:=(∀ d ∈ os,Rw d)/\os.length<=1000
def rE {n:Nat}:∀ {ds:List D},(∀ d ∈ ds,okL n d=true)->pO n ds=true
 | [],_=>rfl
 | d::ds,h=>by
  show (okL n d&&pO n ds)=true;rw [h d (Zd ..),rE λ e he=>h e (Zc _ he)];rfl
def rw_ok {d:D} (h:Rw d):okL 8 d=true:=by
 rcases h with ⟨a,x,b,rfl,h1,_,h3⟩ | ⟨ds,rfl,_,_,h3⟩
 ·show pO 7 [.str a,x,.bl b]=true
  simp only [pO,h3,Bool.and_true];rw [show okL 7 (.str a)=PyData.strOk a by simp only [okL],h1];rfl
 · exact h3
section
open PySem.W
def jw:∀ {xs ys:List PyData},PyData.eqvAll xs ys=true->xs.length=ys.length
 | [],[],_=>rfl
 | [],_::_,h=>by simp [PyData.eqvAll] at h
 | _::_,[],h=>by simp [PyData.eqvAll] at h
 | x::xs,y::ys,h=>by
  simp only [PyData.eqvAll,Z6] at h;rw [Zv,Zv,jw h.2]
def fZ:∀ (ds:List D),(kqdPs (b8 ds)).length=ds.length
 | []=>by rw [b8,kqdPs]; rfl
 | d::ds=>by rw [b8,kqdPs,Zv,Zv,fZ ds]
def A6 {n:Nat} {x y:D} (hx:okD n x=true) (hy:okD n y=true) (h:qC x y=true):x=y :=
 nC n x y hx hy ((kqd_eqv n (d8 x) (d8 y) n (h9 n x hx) (h9 n y hy)).mp h)
def nt (xs ys:List D):qC (.tup xs) (.tup ys)=PyData.eqvAll (kqdPs (b8 xs)) (kqdPs (b8 ys)):=by rfl
def E1 {d e:D} (h1:Rw d) (h2:Rw e) (h:qC d e=true):d=e:=by
 rcases h1 with ⟨a,x,b,rfl,_,h3,_⟩ | ⟨ds,rfl,h3,h4,_⟩ <;> rcases h2 with ⟨a',x',b',rfl,_,h3',_⟩ | ⟨ds',rfl,h3',h4',_⟩
 ·rw [nt] at h
  simp only [b8,kqdPs,d8,kqdP,PyData.eqvAll,PyData.eqv,Z6,beq_iff_eq] at h;obtain ⟨e1,e2,e3,_⟩:=h;have e2':=e2;rw [e1,e3,A6 h3 h3' e2']
 ·rw [nt] at h
  have:=jw h;rw [fZ,fZ] at this;exact absurd this.symm h3'
 ·rw [nt] at h
  have:=jw h;rw [fZ,fZ] at this;exact absurd this h3
 · exact A6 (by rw [okD]; exact h4) (by rw [okD]; exact h4') h
def vp:∀ {os us:List D},(∀ d ∈ os,Rw d)->(∀ d ∈ us,Rw d)->PyData.eqvAll (kqdPs (b8 os)) (kqdPs (b8 us))=true->os=us
 | [],[],_,_,_=>rfl
 | [],_::_,_,_,h=>by simp [b8,kqdPs,PyData.eqvAll] at h
 | _::_,[],_,_,h=>by simp [b8,kqdPs,PyData.eqvAll] at h
 | d::os,e::us,h1,h2,h=>by
  simp only [b8,kqdPs,PyData.eqvAll,Z6] at h;rw [E1 (h1 d (Zd ..)) (h2 e (Zd ..)) h.1,vp (λ x hx=>h1 x (Zc _ hx)) (λ x hx=>h2 x (Zc _ hx)) h.2]
end
def BD {os us:List D} (h1:qU os) (h2:qU us) (h:qC (.tup os) (.tup us)=true):os=us:=by
 rw [nt] at h;exact vp h1.1 h2.1 h
def kG {os:List D} (h:qU os):okL 9 (.tup os)=true:=rE λ d hd=>rw_ok (h.1 d hd)
def pW {os:List D} (h:qU os):qC (.tup os) (.tup os)=true:=(qc 9 _ (kG h)).2.2
def BC {os us:List D} (h1:qU os) (h2:qU us):qC (.tup os) (.tup us)=qC (.tup us) (.tup os):=Xd.mpr ⟨λ h=>by rw [BD h1 h2 h]; exact pW h2,λ h=>by rw [BD h2 h1 h]; exact pW h1⟩
def u6 (z:Str) (l u:Option Int):∀ c ∈ (Txt.slice z l u).cps.toList,c ∈ z.cps.toList:=by
 unfold Txt.slice;split
 · exact λ c h=>h
 ·intro c hc
  have hc':c ∈ List.filterMap (λ x=>z.cps[x]?) (Builtin.Str.strSliceIndices l u 1 z.length):=by simpa using hc
  obtain ⟨i,_,e⟩:=List.mem_filterMap.mp hc';exact Xe.mpr (Array.mem_of_getElem? e)
def rw_ink {z:Str} (h:PyData.strOk z=true) (b:Bool):Rw (.tup [.str "ink",.tup [.str "word",.str z],.bl b]):=.inl ⟨_,_,_,rfl,by decide +kernel,by simp [okD,jN,h]; decide +kernel,by simp [okL,pO,h]; decide +kernel⟩
def rw_gap (i j:Int) (b:Bool):Rw (.tup [.str "gap",.tup [.str "number",.int i,.int j],.bl b]):=.inl ⟨_,_,_,rfl,by decide +kernel,by simp [okD,jN]; decide +kernel,by simp [okL,pO]; decide +kernel⟩
def rw_three:qU [.tup [],.tup [.str "a"],.tup [.int 1,.int 2,.int 3,.int 4]]:=by
 refine ⟨λ d hd=>.inr ?_,by show 3<=1000; decide⟩;simp only [Zl,Xm,or_false] at hd;rcases hd with rfl | rfl | rfl
 · exact ⟨_,rfl,by decide,by simp [jN],by simp [pO]⟩
 · exact ⟨_,rfl,by simp,by simp [jN,okD]; decide +kernel,by simp [pO,okL]; decide +kernel⟩
 · exact ⟨_,rfl,by simp,by simp [jN,okD],by simp [pO,okL]⟩
def Jq (c:Int) {w:Int} (w0:0<=w) (w1:w<=3000) {os:List D} (ho:qU os):∃ us:List D,mL [.int c,.int w,.tup os]=some (.shr (.tup us))/\qU us:=by
 obtain ⟨r,er,r0,r1⟩:=gW c (by omega) (by omega);have hl:rL [.tup os]=some (.int (os.length:Int)):=rfl;have P0:∀ {us:List D},qU us->∃ us',D.tup us=.tup us'/\qU us':=λ h=>⟨_,rfl,h⟩
 obtain ⟨d,e,us,rfl,hu⟩:=Lm (P:=λ d=>∃ us,d=.tup us/\qU us) (n:=7) (b:=gU.1) (ds:=[.int c,.int w,.tup os]) (by
  unfold gU;refine yI (cz (by walk_at "ee")) ?_
  refine Jb (a6 (aE (aE e_v e_c (aI (by decide))) e_c (bE _ _))) (λ _=>vA (a8 (ah (a8 (ah e_v aB) rfl) aB) rfl) (P0 ho)) (λ _=>?_);refine Jb (kq (a6 (aE (aE e_v e_c (aI (by decide))) e_c (bE _ _))) (a6 (aE (a8 (ah e_v aB) hl) e_c rfl))) (λ h=>?_) (λ _=>?_)
  ·rw [Z6,Y9,Y9] at h
   have hr:Ls (aD 2) [.shr (.int c),.shr (.int w),.shr (.tup os),.shr (.int r),.no,.no,.no]=some (.lst os.reverse):=if_pos (by omega);exact vA (a8 (ah hr aB) rfl) (P0 ⟨λ d hd=>ho.1 d (List.mem_reverse.mp hd),by rw [Y4]; exact ho.2⟩)
  have a0:=Z9 (r / 4) (b:=4) (by decide);refine yI (cz (by walk_at "ee")) ?_
  refine LH (R:=λ τ=>∃ m:Int,0<=m/\m<=30/\τ=[.shr (.int c),.shr (.int w),.shr (.tup os),.shr (.int r),.shr (.int m),.no,.no]) (Mo (a6 (aE (aE (aE e_v e_c (cg (by decide) (by decide +kernel))) e_c (aI (by decide))) e_c (bE _ _))) (λ _=>KP (cz e_c) ⟨30,by omega,by omega,rfl⟩) (λ _=>F9 ⟨_,a0,by omega,rfl⟩)) λ τ ⟨m,m0,m1,eτ⟩=>?_
  subst eτ;refine Jb (a6 (aE (aE (aE e_v e_c (cg (by decide) (by decide +kernel))) e_c (aI (by decide))) e_c (bE _ _))) (λ _=>vA rfl (P0 rw_three)) (λ _=>?_);refine yI (jL (iY aB (Z3 _)) (Zb rfl)) ?_
  refine LH (R:=λ τ=>∃ us x6,qU us/\τ=[.shr (.int c),.shr (.int w),.shr (.tup os),.shr (.int r),.shr (.int m),.own (.lst us),x6]) (KQ (λ j τ=>∃ us x6,(∀ d ∈ us,Rw d)/\us.length=j/\τ=[.shr (.int c),.shr (.int w),.shr (.tup os),.shr (.int r),.shr (.int m),.own (.lst us),x6]) (xi rfl (by omega)) ⟨[],_,nofun,rfl,rfl⟩ (λ j d τ hd hp=>?_) (λ τ hp=>?_)) λ τ ⟨us,x6,h,eτ⟩=>?_
  ·obtain ⟨us,x6,h1,h2,rfl⟩:=hp
   obtain ⟨rfl,hj⟩:=pY hd;rw [Int.zero_add];obtain ⟨q,eq,q0,q1⟩:=gW c (w:=w+(j:Int)) (by omega) (by omega);refine ⟨_,rfl,?_⟩;have fin:∀ {x:D},Rw x->∃ us' x6,(∀ d ∈ us',Rw d)/\us'.length=j+1/\[Sl.shr (.int c),.shr (.int w),.shr (.tup os),.shr (.int r),.shr (.int m),.own (.lst (us++[x])),.shr (.int (j:Int))]=[.shr (.int c),.shr (.int w),.shr (.tup os),.shr (.int r),.shr (.int m),.own (.lst us'),x6]:=λ {x} hx=>⟨us++[x],_,λ d hd=>(Zi.mp hd).elim (h1 d) λ z=>by rw [Zn.mp z]; exact hx,by rw [Z5,h2]; rfl,rfl⟩
   refine Mo (a6 (aE (aE (fe (ah e_v (ah (aE e_v e_v (aM _ _)) aB)) eq rfl) e_c (aI (by decide))) e_c (bE _ _))) (λ _=>?_) (λ _=>?_)
   ·obtain ⟨z,ez,nz⟩:=wJ c (w:=w+(j:Int)) (by omega) (by omega)
    obtain ⟨z1,z8,zl⟩:=gO.mp nz;have a1:=X2 z none (some 7);have hq:Str.length "q"=1:=by decide +kernel
    have ea:=j6 (x:="q") (y:=Txt.slice z none (some 7)) (by omega)
    have hs:PyData.strOk (("q":Str)++Txt.slice z none (some 7))=true:=mT λ k hk=>by
     rw [nL] at hk;rcases Zi.mp hk with hk | hk
     · exact iM (by decide +kernel) k hk
     · exact iM (mi nz) k (u6 z _ _ k hk)
    refine KP ((tm (l6 (ah e_c (ah (l6 (ah e_c (ah (aE e_c (z4 (fe (ah e_v (ah (aE e_v e_v (aM _ _)) aB)) ez rfl) CN (iR e_c) (by omega)) ea) aB)) (Zb rfl)) (ah (aE (aE e_v e_c (aI (by decide))) e_c (bE _ _)) aB))) (Zb rfl)) rfl (by omega)).trans rfl) (fin (rw_ink hs _))
   ·obtain ⟨q',eq',q0',q1'⟩:=gW c (w:=w+3 * (j:Int)) (by omega) (by omega)
    refine KP ((tm (l6 (ah e_c (ah (l6 (ah e_c (ah (aE e_v (aE e_c e_c (CW (by decide +kernel))) (aI (by decide))) (ah (aE e_c (fe (ah e_v (ah (aE e_v (aE e_c e_v (rK (by decide) (by decide))) (aM _ _)) aB)) eq' rfl) (aM _ _)) aB))) (Zb rfl)) (ah (aE (aE e_v e_c (aI (by decide))) e_v (bE _ _)) aB))) (Zb rfl)) rfl (by omega)).trans rfl) (fin (rw_gap _ _ _))
  ·obtain ⟨us,x6,h1,h2,rfl⟩:=hp
   rw [hW] at h2;exact ⟨us,x6,⟨h1,by omega⟩,rfl⟩
  ·subst eτ
   exact ⟨_,IU rfl (fS (a8 (ah e_v aB) rfl)),P0 h⟩)
 exact ⟨us,e,hu⟩
end N10
end
section
namespace N10
open PySem L2
def kE:∀ l:List Str,Ay (l.map .str)=some (l.map V.str)
 | []=>rfl
 | x::l=>by
  show (scD (.str x)).bind (λ v=>(Ay (l.map .str)).map (v::·))=_;rw [kE l];rfl
def m9 (p:Str):∀ l:List Str,inV (.str p) (l.map V.str)=decide (p ∈ l)
 | []=>by simp [inV]
 | x::l=>by
  have ih:=m9 p l;unfold inV at *;rw [Zh,Xh,ih]
  by_cases h:p=x
  ·subst h
   simp [eqV]
  ·have h':¬ x=p:=λ z=>h z.symm
   simp [eqV,h,h']
def DH (j:Str) (l:List Str):En (.str j) (.lst (l.map .str))=some (.bl (decide (j ∈ l))):=by
 show (inS (.str j) (l.map .str)).map D.bl=_;unfold inS;rw [kE];show some (D.bl (inV (.str j) _))=_;rw [m9]
def zG (j:Str) (l:List Str):ic (.str j) (.lst (l.map .str))=some (.bl (!decide (j ∈ l))):=by
 show (inS (.str j) (l.map .str)).map (λ b=>D.bl !b)=_;unfold inS;rw [kE];show some (D.bl (!inV (.str j) _))=_;rw [m9]
def sy {c:D->Option Bool} {f:Str->Bool}:∀ {l:List Str},(∀ x ∈ l,c (.str x)=some (f x))->nq c (λ d=>some d) (l.map .str)=some ((l.filter f).map .str)
 | [],_=>rfl
 | x::l,h=>by
  rw [Zh,nq,h x (Zd ..),List.filter_cons];have ih:=sy (l:=l) λ y hy=>h y (Zc _ hy)
  show (if f x=true then (some (D.str x)).bind (λ y=>(nq c (λ d=>some d) (l.map .str)).bind λ xs=>some (y::xs)) else nq c (λ d=>some d) (l.map .str))=_;rw [ih]
  by_cases hx:f x=true
  · rw [if_pos hx,if_pos hx]; rfl
  · rw [if_neg hx,if_neg hx]
def uZ (l:List Str):(fM l).Pairwise λ a b=>leS a b=true:=List.pairwise_mergeSort k5 ot l
def fh (l:List Str):(fM l).Perm l:=List.mergeSort_perm l leS
def Au {a l:List Str} (h:a.Pairwise λ a b=>leS a b=true) (p:a.Perm l):a=fM l:=List.Perm.eq_of_pairwise (λ a b _ _=>rV) h (uZ l) (p.trans (fh l).symm)
def u5 {a l:List Str} (p:a.Perm l):fM a=fM l:=Au (uZ a) ((fh a).trans p)
def pR {l:List Str} {w:Str}:w ∈ fM l↔w ∈ l:=(fh l).mem_iff
def yA (l:List Str) (f:Str->Bool):(fM l).filter f=fM (l.filter f):=Au ((uZ l).filter f) ((fh l).filter f)
def yz {p:Pl} (nd:p.k.Nodup) (w:Str):fM ((fM p.k).filter (λ x=>!decide (x=w))++[w])=fM (jr p w).k:=by
 refine u5 ((((fh p.k).filter _).append_right [w]).trans ?_);unfold jr
 by_cases h:w ∈ p.k
 ·rw [if_pos h]
  refine List.perm_append_singleton w _ |>.trans ?_
  refine ((List.perm_cons_erase h).trans ?_).symm;rw [nd.erase_eq_filter];refine .cons _ (.of_eq (List.filter_congr λ x _=>?_))
  by_cases e:x=w
  · subst e; simp
  · simp [e]
 · rw [if_neg h,List.filter_eq_self.mpr λ x hx=>by rw [Zk (λ e=>h (by rw [<- e]; exact hx))]; rfl]
noncomputable def boL (p:Pl):List D:=[.lst ((fM p.k).map .str),.lst (p.w.map .str),.tup p.o]
noncomputable def bo (b:B8):Mt:=lM (boL b.m)
noncomputable def boM (M:List B8):Mt:=kM bo M
noncomputable def boD (M:List B8):D:=.dct (kv (λ b=>.lst (boL b.m)) M)
def sk (M:List B8):frz (boM M)=boD M:=by
 unfold boM boD;rw [zW];unfold bo;simp only [f7]
structure mJ (n:Nat) (p:Pl):Prop where
 nd:p.k.Nodup
 ln:p.k.length<=n
 nm:∀ x ∈ p.k,aT x=true
 ws:Hj p.w
 rs:qU p.o
def v8 {n:Nat} {p:Pl} {w:Str} (h:mJ n p) (hw:aT w=true):mJ (n+1) (jr p w):=by
 unfold jr
 by_cases e:w ∈ p.k
 ·rw [if_pos e]
  exact ⟨h.nd,Xg h.ln,h.nm,h.ws,h.rs⟩
 ·rw [if_neg e]
  refine ⟨?_,?_,λ x hx=>?_,h.ws,h.rs⟩
  · exact Yd.mpr ⟨h.nd,by simp,λ a ha b hb z=>e (by rw [Zn.mp hb] at z; rw [<- z]; exact ha)⟩
  · rw [Z5]; exact Nat.succ_le_succ h.ln
  ·rcases Zi.mp hx with hx | hx
   · exact h.nm x hx
   · rw [Zn.mp hx]; exact hw
def wa {n:Nat} {p:Pl} {w:Str} (h:mJ n p):mJ (n+1) (lY p w) :=
 ⟨h.nd.filter _,Xg (Z2 (Y1 _ _) h.ln),λ x hx=>h.nm x (Xb.mp hx).1,h.ws,h.rs⟩
def tG {n:Nat} {p:Pl} {vs:List Str} (h:mJ n p) (hv:Hj vs):mJ (n+1) (eP p vs):=⟨h.nd,Xg h.ln,h.nm,hv,h.rs⟩
def tH {n:Nat} {p:Pl} {us:List D} (h:mJ n p) (hu:qU us):mJ (n+1) (fJ p us):=⟨h.nd,Xg h.ln,h.nm,h.ws,hu⟩
def KZ {n:Nat} {px:DPx} {g:Bg} {τ τ':List Sm} {i:Nat} {q:List Stp} {cs:List (Key×Mt)} {ds:List D} (h1:px τ=some (i,q)) (h2:aO τ i q=some (.n .l cs)) (h3:cs.length=n) (h4:kZ cs=some ds) (h5:g ds τ=some τ'):tp n px g τ=some (.next τ'):=by
 unfold tp;rw [h1];show (match aO τ i q with | some (.n .l cs)=>if cs.length=n then (kZ cs).bind λ ds=>(g ds τ).map pM.next else none | _=>none)=_;rw [h2];show (if cs.length=n then (kZ cs).bind λ ds=>(g ds τ).map pM.next else none)=_;rw [if_pos h3,h4];show (g ds τ).map pM.next=_;rw [h5];rfl
def rR {px:DPx} {gi:DE} {fv:DEm} {τ τ1:List Sm} {s:Sm} {i:Nat} {q:List Stp} {j:Int} {mv:Mt} {cs:List (Key×Mt)} (h1:fv τ=some (s,τ1)) (h2:px τ1=some (i,q)) (h3:gi (aY τ1)=some (.int j)) (h4:toM s=some mv) (h5:aO τ1 i q=some (.n .l cs)) (h6:0<=j/\j.toNat < cs.length):rf px gi fv τ=some (.next (cJ τ1 i q (.n .l (cs.set j.toNat (.inl 0,mv))))):=by
 unfold rf;rw [h1];show (px τ1).bind _=_;rw [h2];rw [h3];show (toM s).bind _=_;rw [h4];rw [h5];exact if_pos h6
def K1 {px:DPx} {fv:DEm} {τ τ1:List Sm} {s:Sm} {i:Nat} {q:List Stp} {mv:Mt} {cs cs0:List (Key×Mt)} (h1:px τ=some (i,q)) (h2:aO τ i q=some (.n .l cs0)) (h3:fv τ=some (s,τ1)) (h4:toM s=some mv) (h5:aO τ1 i q=some (.n .l cs)) (h6:cs.length < 100000):yE px fv τ=some (.next (cJ τ1 i q (.n .l (cs++[(.inl 0,mv)])))):=by
 unfold yE;rw [h1];show (match aO τ i q with | some (.n .l _)=>(fv τ).bind _ | _=>none)=_;rw [h2];rw [h3];show (toM s).bind _=_;rw [h4];rw [h5];exact if_pos h6
def MI {f:DPx} {g:DE} {τ:List Sm} {i:Nat} {q:List Stp} {j:Int} {cs:List (Key×Mt)} (h:f τ=some (i,q)) (hk:g (aY τ)=some (.int j)) (hm:aO τ i q=some (.n .l cs)) (h0:0<=j):Hn f g τ=some (i,q++[.i j.toNat]):=by
 unfold Hn;rw [h];show (g (aY τ)).bind _=_;rw [hk];rw [hm];exact if_pos h0
def q_L {f:DPx} {τ:List Sm} {i:Nat} {q:List Stp} {d:D} (h:f τ=some (i,q)) (hm:aO τ i q=some (.s d)):qX f τ=some (.v d):=by
 unfold qX;rw [h];show (match aO τ i q with | some (.n _ _)=>some (Am.p i q) | some (.s d)=>some (.v d) | none=>none)=_;rw [hm]
def DU {f:DE} {τ:List Sl} {ss:List Str} (h:f τ=some (.lst (ss.map .str))) (h64:ss.length < 64):sM f τ=some (.lst ((fM ss).map .str)):=by
 unfold sM;rw [h];show (mS (ss.map .str)).bind _=_;rw [strs_map];exact if_pos h64
def F6 (x:D) (xs:List D):oIx (.lst (x::xs)) (.int 0)=some x:=yg _ _
def AQ (x y:D) (xs:List D):oIx (.lst (x::y::xs)) (.int 1)=some y:=yf _ _ _
def AO (x y z:D) (xs:List D):oIx (.lst (x::y::z::xs)) (.int 2)=some z:=Ao _ _ _ _
section
variable {t:Adr} {gv:Int} {M:List B8} {i:Int} {b:B8}
def A5 (p:Pl) (hb:fd M i=some b):fd (stB M i p) i=some { b with m:=p }:=by
 rw [GW,hb];show some (if b.i=i then _ else _)=_;rw [if_pos (je hb)]
def mI {τ:List Sm} {x:Bool} (h:τ[2]?=some (.mu x (boM M))) (hb:fd M i=some b):aO τ 2 ([]++[.k (.inl i)])=some (.n .l ((boL b.m).map λ d=>((.inl 0:Key),Mt.s d))):=by
 rw [kS h];refine (lj _ _ _).trans ?_
 rw [hb];rfl
def sS (nd:Nd M) (hb:fd M i=some b) (p:Pl):(boM M).put ([]++[.k (.inl i)]) (.n .l ((boL p).map λ d=>((.inl 0:Key),Mt.s d)))=boM (stB M i p):=by
 refine (vG (m2:=bo { b with m:=p }) nd hb (λ c=>by unfold bo lM; rfl)).trans ?_
 rw [kst (g:=bo) nd hb];rfl
end
end N10
end
section
namespace N10
open PySem L2
section
variable {t:Adr} {gv:Int} {M:List B8} {i:Int} {b:B8}
noncomputable abbrev stD (t:Adr) (gv:Int) (M N:List B8) (i:Int) (w:Str) (c y:Int) (p:Pl) (r:Int) (x10 x11 x12:Sm):List Sm:=[.mu true (trM t.af gv M),.shr (.int i),.mu true (boM N),.shr (.str w),.shr (.int c),.shr (.int y),.shr (.lst ((fM p.k).map .str)),.shr (.lst (p.w.map .str)),.shr (.tup p.o),.shr (.int r),x10,x11,x12]
def zU {tg:Tg} {cs:List (Key×Mt)} {st:Stp} {x:Mt} {q:List Stp} (h:(Mt.n tg cs).get [st]=some x):(Mt.n tg cs).get (st::q)=x.get q:=by
 have e1:∀ q:List Stp,(Mt.n tg cs).get (st::q)=(match tF tg cs st with | none=>none | some i=>match cs[i]? with | none=>none | some c=>Mt.get c.2 q):=λ q=>by rw [Mt.get]; try rfl
 rw [e1] at h ⊢
 cases e2:tF tg cs st with
 | none=>rw [e2] at h; cases h
 | some j =>
  rw [e2] at h
  cases e3:cs[j]? with
  | none=>simp only [e3] at h; cases h
  | some c =>
   simp only [e3] at h ⊢;have e4:Mt.get c.2 []=some c.2:=by cases c.2 <;> rfl
   rw [e4] at h;rw [Zj h]
def GS (w:Str) (l:List Str) (hl:l.length<=1000) {τ:List Sl} (h6:τ[6]?=some (.shr (.lst (l.map .str)))) (h3:dY τ [("_law_word",3)]=[.shr (.str w)]):gZ (GF (aD 6)) (dT (dOp oNe (aD 0) (aD 1))) (aD 0) [("_law_word",3)] τ=some (.lst ((l.filter λ x=>!decide (x=w)).map .str)):=by
 refine nA (t8 (aw h6)) (by rw [Za]; omega) ?_
 rw [h3];exact sy λ x _=>a6 (aE e_v e_v (m4 _ _))
def DW {n:Nat} {w:Str} {c y:Int} (nd:Nd M) (hb:fd M i=some b) (hp:mJ n b.m) (hn:n < 60) (hw:aT w=true) (hM:M.length<=1000) (y0:0<=y) (y1:y<=1000) :
  ∃ p',mJ (n+1) p'/\fI t [.mu true (trM t.af gv M),.shr (.int i),.mu true (boM M),.shr (.str w),.shr (.int c),.shr (.int y)]=some (.shr (.bl true),[.mu true (trM t.af gv (stB M i p')),.no,.mu true (boM (stB M i p')),.no,.no,.no]):=by
 obtain ⟨r,er,r0,r1⟩:=gW c (by omega) (by omega);have hk:=hp.ln;have lsr:=(fh b.m.k).length_eq
 have unp:tp 3 (p4 (cq 2) (aD 1)) (cO (gNm 6) (cO (gNm 7) (cO (gNm 8) lh))) [.mu true (trM t.af gv M),.shr (.int i),.mu true (boM M),.shr (.str w),.shr (.int c),.shr (.int y),.no,.no,.no,.no,.no,.no,.no]=some (.next [.mu true (trM t.af gv M),.shr (.int i),.mu true (boM M),.shr (.str w),.shr (.int c),.shr (.int y),.shr (.lst ((fM b.m.k).map .str)),.shr (.lst (b.m.w.map .str)),.shr (.tup b.m.o),.no,.no,.no,.no]) :=
  KZ (jX bq e_v rfl rfl) (mI rfl hb) rfl rfl rfl
 have draw:fT 9 (eN (dFn bC (aF (aD 4) (aF (aD 5) cK)))) [.mu true (trM t.af gv M),.shr (.int i),.mu true (boM M),.shr (.str w),.shr (.int c),.shr (.int y),.shr (.lst ((fM b.m.k).map .str)),.shr (.lst (b.m.w.map .str)),.shr (.tup b.m.o),.no,.no,.no,.no]=some (.next (stD t gv M M i w c y b.m r .no .no .no)) :=
  (bG (v_N (fe (ah e_v (ah e_v aB)) er rfl)) (Zb rfl) rfl).trans rfl
 have tt:∀ k:Int,tS (dT (dOp oEq (dOp oMod (aD 9) (dC (D.int 4))) (dC (D.int k)))) (stD t gv M M i w c y b.m r .no .no .no)=some (decide (r % 4=k),stD t gv M M i w c y b.m r .no .no .no):=λ k=>t_S (a6 (aE (aE e_v e_c (aI (by decide))) e_c (bE _ _)))
 have fin:∀ {p':Pl} {q:Bool} {x12:Sm} {br:DSm},mJ (n+1) p'->br (stD t gv M M i w c y b.m r .no .no .no)=some (.next (stD t gv (stB M i p') (stB M i p') i w c y b.m r (.shr (.bl q)) (.shr (.bl q)) x12))->mJ (n+1) p'/\jd 13 6 (dt (tp 3 (p4 (cq 2) (aD 1)) (cO (gNm 6) (cO (gNm 7) (cO (gNm 8) lh)))) (dt (fT 9 (eN (dFn bC (aF (aD 4) (aF (aD 5) cK))))) (dt br (jm (eN (i9 (cV Ht (aF (aD 11) (aF (dC (D.ty "bool")) cK))) (dOp oEq (aD 11) (aD 10)))))))) [.mu true (trM t.af gv M),.shr (.int i),.mu true (boM M),.shr (.str w),.shr (.int c),.shr (.int y)]=some (.shr (.bl true),[.mu true (trM t.af gv (stB M i p')),.no,.mu true (boM (stB M i p')),.no,.no,.no]):=λ {p' q x12 br} k e=>by
  refine ⟨k,(cZ (τ:=stD t gv (stB M i p') (stB M i p') i w c y b.m r (.shr (.bl q)) (.shr (.bl q)) x12) ?_).trans rfl⟩;refine aC unp (aC draw (aC e (ig (v_N ?_))));cases q <;> rfl
 have snb:∀ {N:List B8} {x10 x11 x12:Sm},aD 2 (aY (stD t gv M N i w c y b.m r x10 x11 x12))=some (boD N):=λ {N x10 x11 x12}=>fQ rfl (sk N)
 unfold fI iD
 by_cases h0:r % 4=0
 ·refine ⟨jr b.m w,fin (q:=!decide (w ∈ b.m.k)) (x12:=.no) (v8 hp hw) (jY ((tt 0).trans (by rw [Zo h0])) ?_)⟩
  refine aC (τ':=stD t gv M M i w c y b.m r (.shr (.bl (!decide (w ∈ b.m.k)))) .no .no) ((bG (v_N (aE e_v e_v ((zG w (fM b.m.k)).trans (by rw [Xq.mpr (pR)])))) (Zb rfl) rfl).trans rfl) ?_
  refine aC (τ':=stD t gv M (stB M i (jr b.m w)) i w c y b.m r (.shr (.bl (!decide (w ∈ b.m.k)))) .no .no) ((rR (v_F (DU (ss:=(fM b.m.k).filter (λ x=>!decide (x=w))++[w]) ((aE (GS w (fM b.m.k) (by omega) rfl rfl) (iY (ah e_v aB) (Zb rfl)) (if_pos ?_)).trans (by rw [Zr]; rfl)) ?_) (all_strs _)) (jX bq e_v rfl rfl) e_c rfl (mI rfl hb) ⟨Int.le_refl _,Zb rfl⟩).trans ?_) ?_
  ·have:=Y1 (λ x=>!decide (x=w)) (fM b.m.k)
   rw [Za];show _+1<=100000;omega
  ·have:=Y1 (λ x=>!decide (x=w)) (fM b.m.k)
   rw [Z5];show _+1 < 64;omega
  ·rw [cT rfl,yz hp.nd w]
   have e1:=sS nd hb (jr b.m w)
   have e2:boL (jr b.m w)=[.lst ((fM (jr b.m w).k).map .str),.lst (b.m.w.map .str),.tup b.m.o]:=by
    unfold boL jr;split <;> rfl
   rw [e2] at e1;exact Yh (λ z=>some (pM.next (List.set _ 2 (Sm.mu true z)))) e1
  · refine (bG (v_M bq rfl rfl (aZ (q_N e_v) (aZ (q_N e_v) rfl)) rfl (Dr nd hb hw (by omega)) rfl) (Zb rfl) rfl).trans rfl
 by_cases h1:r % 4=1
 ·refine ⟨lY b.m w,fin (q:=decide (w ∈ b.m.k)) (x12:=.no) (wa hp) (c6 ((tt 0).trans (by rw [Zk h0])) (jY ((tt 1).trans (by rw [Zo h1])) ?_))⟩
  refine aC (τ':=stD t gv M M i w c y b.m r (.shr (.bl (decide (w ∈ b.m.k)))) .no .no) ((bG (v_N (aE e_v e_v ((DH w (fM b.m.k)).trans (by rw [Xq.mpr (pR (l:=b.m.k) (w:=w))])))) (Zb rfl) rfl).trans rfl) ?_
  refine aC (τ':=stD t gv M (stB M i (lY b.m w)) i w c y b.m r (.shr (.bl (decide (w ∈ b.m.k)))) .no .no) ((rR (v_F (GS w (fM b.m.k) (by omega) rfl rfl) (all_strs _)) (jX bq e_v rfl rfl) e_c rfl (mI rfl hb) ⟨Int.le_refl _,Zb rfl⟩).trans ?_) ?_
  ·rw [cT rfl,yA]
   exact Yh (λ z=>some (pM.next (List.set _ 2 (Sm.mu true z)))) (sS nd hb (lY b.m w))
  · refine (bG (v_M (C:=t.af) (i:=0) (q:=[]) (ss:=[.mu true (trM t.af gv M),.shr (.int i),.shr (.str w)]) bq rfl rfl (aZ (q_N e_v) (aZ (q_N e_v) rfl)) rfl (Ea nd hb hw) rfl) (Zb rfl) rfl).trans rfl
 by_cases h2:r % 4=2
 ·obtain ⟨vs,ev,hv⟩:=Bi c (w:=y+900) (by omega) (by omega) hp.ws
  have hv2:=hv.2;have nes:∀ x:List Str,(∀ z ∈ x,PyData.strOk z=true)->oNe (.lst (vs.map .str)) (.lst (x.map .str))=some (.bl (!decide (vs=x))):=λ x hx=>(wC (eQ hv.1) (eQ hx)).trans (by rw [sF])
  have ec:decide (vs=b.m.w)=decide (b.m.w=vs):=Xq.mpr ⟨Eq.symm,Eq.symm⟩;have sg:∀ {T N:List B8} {x10 x11:Sm} {l:List Str},aD 12 (aY (stD t gv T N i w c y b.m r x10 x11 (.mu false (lM (l.map .str)))))=some (.lst (l.map .str)):=λ {T N x10 x11 l}=>fQ rfl (f7 _)
  refine ⟨eP b.m vs,fin (q:=!decide (b.m.w=vs)) (x12:=.mu false (lM ((vs++[("later":Str)]).map .str))) (tG hp hv) (c6 ((tt 0).trans (by rw [Zk h0])) (c6 ((tt 1).trans (by rw [Zk h1])) (jY ((tt 2).trans (by rw [Zo h2])) ?_)))⟩;refine aC ((bG (v_O (DV (ah e_v (ah (aE e_v e_c (aM _ _)) (ah e_v aB))) ev rfl) (all_strs _)) (Zb rfl) rfl).trans rfl) ?_
  refine aC ((bG (v_S (aE sg e_v ((nes _ hp.ws.1).trans (by rw [ec]))) rfl) (Zb rfl) rfl).trans rfl) ?_
  refine aC (τ':=stD t gv M (stB M i (eP b.m vs)) i w c y b.m r (.shr (.bl (!decide (b.m.w=vs)))) .no (.mu false (lM (vs.map .str)))) ((rR (v_F (a8 (ah sg aB) rfl) (all_strs _)) (jX bq e_v rfl rfl) e_c rfl (mI rfl hb) ⟨by decide,Zb rfl⟩).trans ?_) ?_
  ·rw [cT rfl]
   exact Yh (λ z=>some (pM.next (List.set _ 2 (Sm.mu true z)))) (sS nd hb (eP b.m vs))
  refine aC ((bG (v_M (C:=t.af) (i:=0) (q:=[]) bq rfl rfl (aZ (q_N e_v) (aZ (q_X bq rfl) rfl)) rfl (yq nd hb hp.ws.1 hv.1 (by omega) hM) rfl) (Zb rfl) rfl).trans rfl) ?_
  have hb':=A5 (eP b.m vs) hb;refine aC (c6 (t_S (a6 (aE sg (aE (aE (fQ (b:=true) rfl (sk (stB M i (eP b.m vs)))) e_v (bh hb')) e_c (AQ _ _ _)) ((nes vs hv.1).trans (by rw [Zo rfl]; rfl))))) rfl) ?_
  refine (K1 (bq) rfl (v_N e_c) rfl rfl (by rw [Za,Za]; omega)).trans ?_
  rw [cT rfl];refine Yh (λ z=>some (pM.next (List.set _ 12 (Sm.mu false z)))) ?_
  unfold lM;rw [Zr,Zr];rfl
 ·obtain ⟨us,eu,hu⟩:=Jq c (w:=y+900) (by omega) (by omega) hp.rs
  have hb':=A5 (fJ b.m us) hb;refine ⟨fJ b.m us,fin (q:=!qC (.tup b.m.o) (.tup us)) (x12:=.no) (tH hp hu) (c6 ((tt 0).trans (by rw [Zk h0])) (c6 ((tt 1).trans (by rw [Zk h1])) (c6 ((tt 2).trans (by rw [Zk h2])) ?_)))⟩;refine aC (τ':=stD t gv M (stB M i (fJ b.m us)) i w c y b.m r .no .no .no) ((rR (v_N (fe (ah e_v (ah (aE e_v e_c (aM _ _)) (ah e_v aB))) eu rfl)) (jX bq e_v rfl rfl) e_c rfl (mI rfl hb) ⟨by decide,Zb rfl⟩).trans ?_) ?_
  ·rw [cT rfl]
   exact Yh (λ z=>some (pM.next (List.set _ 2 (Sm.mu true z)))) (sS nd hb (fJ b.m us))
  refine aC ((bG (v_S (aE (aE (aE snb e_v (bh hb')) e_c (AO _ _ _ _)) e_v ((if_pos ⟨kG hu,kG hp.rs⟩).trans (Yh (λ z=>some (D.bl !z)) (BC hu hp.rs)))) rfl) (Zb rfl) rfl).trans rfl) ?_
  refine (bG (v_M (C:=t.af) (i:=0) (q:=[]) bq rfl rfl (aZ (q_N e_v) (aZ (q_L (MI (jX bq e_v rfl rfl) e_c (mI rfl hb') (by decide)) ?_) rfl)) rfl (z6 nd hb (kG hp.rs) (kG hu) (BD hp.rs hu) hM) rfl) (Zb rfl) rfl).trans rfl;rw [kS rfl];exact zU ((lj _ _ _).trans (by rw [hb']; rfl))
end
end N10
end
section
namespace N10
open PySem L2
def xB {τ:List Sl} {C:Addr} {m:Str} {F:List D->Option Sl} {o:DE} {ga:DA} {fs:List (Str×D)} {xs:List D} {s:Sl} {z:D} (h1:o τ=some (.obj C fs)) (h2:ga τ=some xs) (h0:fs.lookup m=none) (h3:F (.obj C fs::xs)=some s) (h4:slO s=some z):pe C m F o ga τ=some z:=by
 unfold pe;rw [h1];show (ga τ).bind _=_;rw [h2];show (if C=C/\fs.lookup m=none then (F (.obj C fs::xs)).bind slO else none)=_;rw [if_pos ⟨rfl,h0⟩,h3];exact h4
section
variable {t:Adr} {gv:Int} {M:List B8} {i:Int} {b:B8}
def sT {n:Nat} (hb:fd M i=some b) (hp:mJ n b.m) (hn:n < 60):cw t [trD t.af gv M,boD M,.int i]=some (.shr (.bl true)):=by
 have hk:=hp.ln;have lsr:(fM b.m.k).length=b.m.k.length:=(fh b.m.k).length_eq;have ok:∀ x ∈ fM b.m.k,PyData.strOk x=true:=λ x hx=>mi (hp.nm x (pR.mp hx))
 have ne:∀ {l:List Str},(∀ x ∈ l,PyData.strOk x=true)->oNe (.lst (l.map .str)) (.lst (l.map .str))=some (.bl false):=λ {l} h=>(wC (eQ h) (eQ h)).trans (by rw [j8]; rfl)
 have g0:cL (boD M) (.int i)=some (.lst (boL b.m)):=bh hb;unfold cw gr;dsimp only;refine c5 ?_
 show gJ _ _ [.shr (trD t.af gv M),.shr (boD M),.shr (.int i),.no,.no,.no]=_;refine bt (jL (xB (aw rfl) (ah (aw rfl) aB) rfl (zJ hb (by omega)) rfl) (Zb rfl)) ?_
 refine bt (jL (xB (aw rfl) (ah (aw rfl) aB) rfl (yr hb) rfl) (Zb rfl)) ?_
 refine eI (Bm rfl (Bm rfl (uT (b:=false) (c:=false) (a6 (aE (aw rfl) (aE (aE (aw rfl) (aw rfl) g0) e_c (F6 _ _)) (ne ok))) (a6 (aE (aw rfl) (aE (aE (aw rfl) (aw rfl) g0) e_c (AQ _ _ _)) (ne hp.ws.1)))))) ?_
 refine bt (tm e_c rfl (by rw [Za]; omega)) ?_
 refine bt (tm e_c rfl (by have:=hp.ws.2; rw [Za]; omega)) ?_
 refine bt (cz (cU (aw rfl) (ah (aw rfl) aB) rfl (BE hb) rfl)) ?_
 refine fS (Lo (b:=true) rfl (λ _=>aE (aw rfl) (aE (aE (aw rfl) (aw rfl) g0) e_c (AO _ _ _ _)) ((if_pos ⟨kG hp.rs,kG hp.rs⟩).trans (by rw [pW hp.rs]))) nofun)
structure LOk (j:Nat) (gv:Int) (M:List B8):Prop where
 m:MOk gv M
 hd:Hd M
 lv:gv=M.length
 lm:M.length<=1+j
 al:∀ x:Int,0<=x->x < gv->x ∈ M.map B8.i
 pl:∀ b ∈ M,mJ j b.m
def LOk.get {j:Nat} (l:LOk j gv M) {x:Int} (h0:0<=x) (h1:x < gv):∃ b,fd M x=some b/\mJ j b.m:=by
 obtain ⟨b,hb,rfl⟩:=Z4.mp (l.al x h0 h1);exact ⟨b,iW l.m.nd hb,l.pl b hb⟩
def mJ.up {n:Nat} {p:Pl} (h:mJ n p):mJ (n+1) p:=⟨h.nd,Xg h.ln,h.nm,h.ws,h.rs⟩
def u4:fM []=[]:=by unfold fM; exact List.mergeSort_nil
def pl0 (n:Nat):mJ n bP:=⟨.nil,Z3 _,nofun,⟨nofun,Z3 _⟩,⟨nofun,Z3 _⟩⟩
def Dk {β:Type} (g:B8->β) (M:List B8) (i j h:Int) (rj rh:List Int) (hg:∀ (b:B8) r,g { b with r:=r }=g b) (hh:∀ (b:B8),g { b with h:=some h }=g b):kv g (mvB M i j h rj rh)=kv g M:=by
 unfold mvB;rw [pQ g _ _ _ hh,mP g _ _ _ (λ b=>hg b _),mP g _ _ _ (λ b=>hg b _)]
def MB {β:Type} {g:B8->β} {M N:List B8} (h:kv g M=kv g N):M.map B8.i=N.map B8.i:=by
 have:=Yh (List.map λ x:Key×β=>match x.1 with | .inl i=>i | .inr _=>0) h;unfold kv at this;rw [Zw,Zw] at this;exact this
def MA {M N:List B8} (h:kv B8.m M=kv B8.m N):∀ d ∈ M,∃ c ∈ N,c.m=d.m:=λ d hd=>by
 have:((.inl d.i:Key),d.m) ∈ kv B8.m M:=Z4.mpr ⟨d,hd,rfl⟩;rw [h] at this;obtain ⟨c,hc,e⟩:=Z4.mp this;exact ⟨c,hc,(Prod.mk.inj e).2⟩
def vK {β:Type} (g:B8->β) {x p:Int} {nn:Str} (hg:∀ (b:B8) r,g { b with r:=r }=g b):kv g (fU M x b p gv nn)=kv g (M++[⟨gv,some x,nn,[],bP⟩]):=by
 unfold fU;exact mP g _ _ _ (λ b=>hg b _)
def Gm {j:Nat} {p:Pl} (l:LOk j gv M) (hb:fd M i=some b) (h:mJ (j+1) p):LOk (j+1) gv (stB M i p):=by
 refine ⟨Gc l.m i p,?_,?_,?_,?_,λ d hd=>?_⟩
 ·obtain ⟨r,T,rfl,e⟩:=l.hd
  refine ⟨_,_,rfl,?_⟩;show (if r.i=i then { r with m:=p } else r).i=0;split <;> exact e
 · unfold stB; rw [Za]; exact l.lv
 · unfold stB; rw [Za]; have:=l.lm; omega
 · rw [EM]; exact l.al
 ·unfold stB at hd
  obtain ⟨c,hc,rfl⟩:=Z4.mp hd;split
  · exact h
  · exact (l.pl c hc).up
def Gn {j:Nat} {i jj h:Int} {rj rh:List Int} (l:LOk j gv M) (mo:MOk gv (mvB M i jj h rj rh)):LOk (j+1) gv (mvB M i jj h rj rh):=by
 refine ⟨mo,Ld l.hd,by rw [AZ]; exact l.lv,by rw [AZ]; have:=l.lm; omega,?_,λ d hd=>?_⟩
 ·rw [MB (Dk B8.m M i jj h rj rh (λ _ _=>rfl) (λ _=>rfl))]
  exact l.al
 ·obtain ⟨c,hc,e⟩:=MA (Dk B8.m M i jj h rj rh (λ _ _=>rfl) (λ _=>rfl)) d hd
  rw [<- e];exact (l.pl c hc).up
def Du {j:Nat} {x p:Int} {nn:Str} (l:LOk j gv M) (m1:MOk (gv+1) (fU M x b p gv nn)):LOk (j+1) (gv+1) (fU M x b p gv nn):=by
 have ln1:(fU M x b p gv nn).length=M.length+1:=by
  unfold fU;rw [fY,Z5];rfl
 have ei:=MB (vK (M:=M) (gv:=gv) (b:=b) (x:=x) (p:=p) (nn:=nn) B8.m (λ _ _=>rfl));refine ⟨m1,GG l.hd,by rw [ln1,l.lv]; rfl,by rw [ln1]; have:=l.lm; omega,λ y y0 y1=>?_,λ d hd=>?_⟩
 ·rw [ei,Zr]
  by_cases e:y=gv
  · rw [e]; exact Ze _ (Zn.mpr rfl)
  · exact Zp _ (l.al y y0 (by omega))
 ·obtain ⟨c,hc,e⟩:=MA (vK (M:=M) (gv:=gv) (b:=b) (x:=x) (p:=p) (nn:=nn) B8.m (λ _ _=>rfl)) d hd
  rw [<- e];rcases Zi.mp hc with hc | hc
  · exact (l.pl c hc).up
  ·rw [Zn.mp hc]
   exact pl0 _
def Hh {x p:Int} {nn:Str} (hf:fd M gv=none):(Mt.n .d (eD (kv bo M) (.inl gv) (lM [.lst [],.lst [],.tup []])))=boM (fU M x b p gv nn):=by
 unfold boM kM;rw [vK bo (λ _ _=>rfl)]
 have e:lM [.lst [],.lst [],.tup []]=bo ⟨gv,some x,nn,[],bP⟩:=by
  unfold bo boL bP;rw [u4];rfl
 rw [e,iP (b:=⟨gv,some x,nn,[],bP⟩) hf]
def LA {i jj h:Int} {rj rh:List Int}:boM (mvB M i jj h rj rh)=boM M:=by
 unfold boM kM;rw [Dk bo M i jj h rj rh (λ _ _=>rfl) (λ _=>rfl)]
def Lz {p:Pl} (nd:Nd M) (hb:fd M i=some b):bxM (stB M i p)=bxM M:=by
 unfold bxM kM;rw [fP (p:=p) (g:=λ b=>lM (b.r.map .int)) nd hb rfl]
def Ll {p:Pl} (nd:Nd M) (hb:fd M i=some b):faM (stB M i p)=faM M:=by
 unfold faM kM;rw [fP (p:=p) (g:=λ b=>Mt.s (.tup [hD b.h,.str b.n])) nd hb rfl]
end
end N10
end
section
namespace N10
open PySem L2
section
variable {t:Adr}
noncomputable abbrev sL (t:Adr) (ns:List Int) (nm a b c d:Str) (gv:Int) (M N:List B8) (x7 x8 x9 x10:Sm):List Sm:=[.shr (scr ns),.shr (.str nm),.mu false (trM t.af gv M),.shr (.lst [.str a,.str b,.str c,.str d]),.mu false (bxM M),.mu false (faM M),.mu false (boM N),x7,x8,x9,x10]
noncomputable def LI (t:Adr):DSm:=(dt (fT 10 (eS (cV ju (aF (aD 4) cK)))) (dt (cA (cq 6) (aD 10) (eON (DY (aF (DY cK) (aF (DY cK) (aF (G4 cK) cK)))))) (pV (tNt (tE (eC (gV t) (cc (qX (cq 2)) (cc (qX (cq 4)) (cc (qX (cq 5)) (cc (qN (aD 10)) (cc (qN (aD 8)) (cc (qN (aD 7)) yi))))))))) (jm (eN (dC (D.bl false)))) iO)))
noncomputable def Mz (t:Adr):DSm:=(pV (tNt (tE (eC (d6 t) (cc (qX (cq 2)) (cc (qX (cq 4)) (cc (qX (cq 5)) (cc (qN (aD 8)) (cc (qN (aD 7)) yi)))))))) (jm (eN (dC (D.bl false)))) iO)
noncomputable def ME (t:Adr):DSm:=(pV (tNt (tE (eC (fI t) (cc (qX (cq 2)) (cc (qN (aD 10)) (cc (qX (cq 6)) (cc (qN (dOp oIx (aD 3) (dOp oMod (dOp oDiv (aD 9) (dC (D.int 100))) (dC (D.int 4))))) (cc (qN (aD 8)) (cc (qN (dOp lV (dC (D.int 800)) (aD 7))) yi))))))))) (jm (eN (dC (D.bl false)))) iO)
noncomputable def EL (t:Adr):DSm:=(dt (fT 9 (eN (dFn bC (aF (aD 8) (aF (dOp lV (dC (D.int 600)) (aD 7)) cK))))) (dt (fT 10 (eS (dOp oMod (dOp oDiv (aD 9) (dC (D.int 7))) (cV wD (aF (cV ju (aF (aD 4) cK)) (aF (dC (D.int 4)) cK)))))) (dt (pV (tS (Ab (dT (dOp oEq (dOp oMod (aD 9) (dC (D.int 7))) (dC (D.int 0)))) (dT (dOp oLt (cV ju (aF (aD 4) cK)) (dC (D.int 12)))))) (LI t) (pV (tS (Ab (dT (dOp oEq (dOp oMod (aD 9) (dC (D.int 7))) (dC (D.int 1)))) (dT (dOp oGt (cV ju (aF (aD 4) cK)) (dC (D.int 2)))))) (Mz t) (ME t))) (pV (tS (Bb (dT (dFn (cw t) (aF (aD 2) (aF (aD 6) (aF (dOp oMod (dOp oDiv (aD 9) (dC (D.int 500))) (cV ju (aF (aD 4) cK))) cK))))))) (jm (eN (dC (D.bl false)))) iO))))
variable {ns:List Int} {nm a b c d:Str} {gv:Int} {M:List B8} {j:Nat} {k q:Int} {x10:Sm}
def oq {N:List B8} {x7 x8 x9 x10:Sm}:cV ju (aF (aD 4) cK) (aY (sL t ns nm a b c d gv M N x7 x8 x9 x10))=some (.int (M.length:Int)):=a8 (ah (fQ rfl (mr M)) aB) (A1 M)
def yK (l:LOk j gv M) (hj:j < 48):∃ gv' M' y,LOk (j+1) gv' M'/\LI t (sL t ns nm a b c d gv M M (.shr (.int (j:Int))) (.shr (.int k)) (.shr (.int q)) x10)=some (.next (sL t ns nm a b c d gv' M' M' (.shr (.int (j:Int))) (.shr (.int k)) (.shr (.int q)) y)):=by
 have lm:=l.lm;obtain ⟨x,bb,p,nn,dp,hb,ch,h12,hn,e⟩:=Ds (w:=(j:Int)) l.m (by omega) (by omega) (by omega);have m1:=Dn l.m (p:=p) (nm:=nn) hb ch h12;refine ⟨gv+1,fU M x bb p gv nn,.shr (.int gv),Du l m1,?_⟩;refine aC ((bG (v_S (oq.trans (by rw [<- l.lv])) rfl) (Zb rfl) rfl).trans rfl) ?_
 refine aC (τ':=sL t ns nm a b c d gv M (fU M x bb p gv nn) (.shr (.int (j:Int))) (.shr (.int k)) (.shr (.int q)) (.shr (.int gv))) ((dw rfl bq e_v rfl rfl rfl (by rw [eU]; omega)).trans ?_) ?_
 ·rw [cT rfl]
  exact Yh (λ z=>some (pM.next (List.set _ 6 (Sm.mu false z)))) ((rfl).trans (Hh l.m.new))
 exact c6 (ID (t_E (v_C (aZ (q_X bq rfl) (aZ (q_X bq rfl) (aZ (q_X bq rfl) (aZ (q_N e_v) (aZ (q_N e_v) (aZ (q_N e_v) rfl)))))) rfl e rfl))) rfl
def zH (l:LOk j gv M) (hj:j < 48) (l2:2<=M.length):∃ M',LOk (j+1) gv M'/\Mz t (sL t ns nm a b c d gv M M (.shr (.int (j:Int))) (.shr (.int k)) (.shr (.int q)) x10)=some (.next (sL t ns nm a b c d gv M' M' (.shr (.int (j:Int))) (.shr (.int k)) (.shr (.int q)) x10)):=by
 have lm:=l.lm;obtain ⟨i,jj,h,rj,rh,mo,e⟩:=wW (w:=(j:Int)) l.m l.hd (by omega) l2 (by omega) (by omega);refine ⟨mvB M i jj h rj rh,Gn l mo,?_⟩;rw [show sL t ns nm a b c d gv (mvB M i jj h rj rh) (mvB M i jj h rj rh) (.shr (.int (j:Int))) (.shr (.int k)) (.shr (.int q)) x10=sL t ns nm a b c d gv (mvB M i jj h rj rh) M (.shr (.int (j:Int))) (.shr (.int k)) (.shr (.int q)) x10 by unfold sL; rw [LA]];exact c6 (ID (t_E (v_C (aZ (q_X bq rfl) (aZ (q_X bq rfl) (aZ (q_X bq rfl) (aZ (q_N e_v) (aZ (q_N e_v) rfl))))) rfl e rfl))) rfl
def Cg {i:Int} (i0:0<=i) (i1:i < 4) (na:aT a=true) (nb:aT b=true) (nc:aT c=true) (nd:aT d=true):∃ w:Str,oIx (.lst [.str a,.str b,.str c,.str d]) (.int i)=some (.str w)/\aT w=true:=by
 obtain ⟨h,e⟩:=lO (xs:=[D.str a,.str b,.str c,.str d]) i0 i1;have:i=0\/i=1\/i=2\/i=3:=by omega
 rcases this with rfl | rfl | rfl | rfl
 · exact ⟨a,e,na⟩
 · exact ⟨b,e,nb⟩
 · exact ⟨c,e,nc⟩
 · exact ⟨d,e,nd⟩
def z9 {i:Int} (l:LOk j gv M) (hj:j < 48) (i0:0<=i) (i1:i < gv) (na:aT a=true) (nb:aT b=true) (nc:aT c=true) (nd:aT d=true):∃ M',LOk (j+1) gv M'/\ME t (sL t ns nm a b c d gv M M (.shr (.int (j:Int))) (.shr (.int k)) (.shr (.int q)) (.shr (.int i)))=some (.next (sL t ns nm a b c d gv M' M' (.shr (.int (j:Int))) (.shr (.int k)) (.shr (.int q)) (.shr (.int i)))):=by
 have lm:=l.lm;obtain ⟨bb,hb,hp⟩:=l.get i0 i1;obtain ⟨w,ew,nw⟩:=Cg (Z9 _ (by decide)) (Z8 _ (by decide)) na nb nc nd;obtain ⟨p',hp',e⟩:=DW (y:=800+(j:Int)) l.m.nd hb hp (by omega) nw (by omega) (by omega) (by omega);refine ⟨stB M i p',Gm l hb hp',?_⟩;rw [show sL t ns nm a b c d gv (stB M i p') (stB M i p') (.shr (.int (j:Int))) (.shr (.int k)) (.shr (.int q)) (.shr (.int i))=[.shr (scr ns),.shr (.str nm),.mu false (trM t.af gv (stB M i p')),.shr (.lst [.str a,.str b,.str c,.str d]),.mu false (bxM M),.mu false (faM M),.mu false (boM (stB M i p')),.shr (.int (j:Int)),.shr (.int k),.shr (.int q),.shr (.int i)] by unfold sL; rw [Lz l.m.nd hb,Ll l.m.nd hb]];exact c6 (ID (t_E (v_C (aZ (q_X bq rfl) (aZ (q_N e_v) (aZ (q_X bq rfl) (aZ (q_N (aE e_v (aE (aE e_v e_c (cg (by decide) (by decide +kernel))) e_c (aI (by decide))) ew)) (aZ (q_N e_v) (aZ (q_N (aE e_c e_v (aM _ _))) rfl)))))) rfl e rfl))) rfl
def Aq (t:Adr) (ns:List Int) (nm a b c d:Str) (j:Nat) (τ:List Sm):Prop:=∃ gv M x7 x8 x9 x10,LOk j gv M/\τ=sL t ns nm a b c d gv M M x7 x8 x9 x10
def Bv {τ:List Sm} (na:aT a=true) (nb:aT b=true) (nc:aT c=true) (nd:aT d=true) (hj:j < 48) (h:Aq t ns nm a b c d j τ):∃ τ2,(gTm 2 (cO (gNm 7) (cO (gNm 8) lh)) (.tup [.int (j:Int),.int k]) τ).bind (EL t)=some (.next τ2)/\Aq t ns nm a b c d (j+1) τ2:=by
 obtain ⟨gv,M,x7,x8,x9,x10,l,rfl⟩:=h;obtain ⟨q,e1,q0,q1⟩:=gW k (w:=600+(j:Int)) (by omega) (by omega);have lv:=l.lv
 have l1:1<=M.length:=by
  obtain ⟨r,T,rfl,_⟩:=l.hd;exact Nat.succ_le_succ (Z3 _)
 have mm:∃ z:Int,wD [.int (M.length:Int),.int 4]=some (.int z)/\0 < z/\z<=M.length:=by
  refine ⟨if (4:Int) < M.length then 4 else M.length,rfl,?_⟩;split <;> omega
 obtain ⟨z,ez,z0,z1⟩:=mm;have i0:=Z9 (q / 7) (b:=z) (by omega);have i1:=Z8 (q / 7) z0;have s1:fT 9 (eN (dFn bC (aF (aD 8) (aF (dOp lV (dC (D.int 600)) (aD 7)) cK)))) (sL t ns nm a b c d gv M M (.shr (.int (j:Int))) (.shr (.int k)) x9 x10)=some (.next (sL t ns nm a b c d gv M M (.shr (.int (j:Int))) (.shr (.int k)) (.shr (.int q)) x10)):=(bG (v_N (fe (ah e_v (ah (aE e_c e_v (aM _ _)) aB)) e1 rfl)) (Zb rfl) rfl).trans rfl;have s2:fT 10 (eS (dOp oMod (dOp oDiv (aD 9) (dC (D.int 7))) (cV wD (aF (cV ju (aF (aD 4) cK)) (aF (dC (D.int 4)) cK))))) (sL t ns nm a b c d gv M M (.shr (.int (j:Int))) (.shr (.int k)) (.shr (.int q)) x10)=some (.next (sL t ns nm a b c d gv M M (.shr (.int (j:Int))) (.shr (.int k)) (.shr (.int q)) (.shr (.int (q / 7 % z))))):=(bG (v_S (aE (aE e_v e_c (cg (by decide) (by decide +kernel))) (a8 (ah oq (ah e_c aB)) ez) (aI z0)) rfl) (Zb rfl) rfl).trans rfl
 have fin:∀ {br:DSm} {gv':Int} {M':List B8} {y:Sm},LOk (j+1) gv' M'->br (sL t ns nm a b c d gv M M (.shr (.int (j:Int))) (.shr (.int k)) (.shr (.int q)) (.shr (.int (q / 7 % z))))=some (.next (sL t ns nm a b c d gv' M' M' (.shr (.int (j:Int))) (.shr (.int k)) (.shr (.int q)) y))->∃ τ2,dt (fT 9 (eN (dFn bC (aF (aD 8) (aF (dOp lV (dC (D.int 600)) (aD 7)) cK))))) (dt (fT 10 (eS (dOp oMod (dOp oDiv (aD 9) (dC (D.int 7))) (cV wD (aF (cV ju (aF (aD 4) cK)) (aF (dC (D.int 4)) cK)))))) (dt br (pV (tS (Bb (dT (dFn (cw t) (aF (aD 2) (aF (aD 6) (aF (dOp oMod (dOp oDiv (aD 9) (dC (D.int 500))) (cV ju (aF (aD 4) cK))) cK))))))) (jm (eN (dC (D.bl false)))) iO))) (sL t ns nm a b c d gv M M (.shr (.int (j:Int))) (.shr (.int k)) x9 x10)=some (.next τ2)/\Aq t ns nm a b c d (j+1) τ2:=λ {br gv' M' y} l' e=>by
  have lv':=l'.lv
  have l1':1<=M'.length:=by
   obtain ⟨r,T,rfl,_⟩:=l'.hd;exact Nat.succ_le_succ (Z3 _)
  have u0:=Z9 (q / 500) (b:=(M'.length:Int)) (by omega);have u1:=Z8 (q / 500) (b:=(M'.length:Int)) (by omega);obtain ⟨bb,hb,hp⟩:=l'.get u0 (by omega);refine ⟨_,aC s1 (aC s2 (aC e (c6 (t_S (ko (a6 (fe (ah (fQ rfl (oJ _ _ _)) (ah (fQ (b:=false) rfl (sk M')) (ah (aE (aE e_v e_c (cg (by decide) (by decide +kernel))) oq (aI (by omega))) aB))) (sT hb hp (by omega)) rfl)))) rfl))),gv',M',_,_,_,_,l',rfl⟩
 have t0:=t_S (τ:=sL t ns nm a b c d gv M M (.shr (.int (j:Int))) (.shr (.int k)) (.shr (.int q)) (.shr (.int (q / 7 % z)))) (kq (a6 (aE (aE (aw (i:=9) rfl) (e_c (d:=.int 7)) (aI (by decide))) (e_c (d:=.int 0)) (bE _ _))) (a6 (aE (oq) (e_c (d:=.int 12)) (jt _ _))));have t1:=t_S (τ:=sL t ns nm a b c d gv M M (.shr (.int (j:Int))) (.shr (.int k)) (.shr (.int q)) (.shr (.int (q / 7 % z)))) (kq (a6 (aE (aE (aw (i:=9) rfl) (e_c (d:=.int 7)) (aI (by decide))) (e_c (d:=.int 1)) (bE _ _))) (a6 (aE (o:=oGt) (oq (gv:=gv)) (e_c (d:=.int 2)) rfl)))
 by_cases h0:(decide (q % 7=0)&&decide ((M.length:Int) < 12))=true
 ·obtain ⟨gv',M',y,l',e⟩:=yK l hj
  exact fin l' (jY (t0.trans (by rw [h0])) e)
 ·have h0':=(Xn _).mp h0
  by_cases h1:(decide (q % 7=1)&&decide ((2:Int) < M.length))=true
  ·have h2:(2:Int) < M.length:=by
    rw [Z6,Y9,Y9] at h1;exact h1.2
   obtain ⟨M',l',e⟩:=zH (t:=t) (ns:=ns) (nm:=nm) (a:=a) (b:=b) (c:=c) (d:=d) (k:=k) (q:=q) (x10:=.shr (.int (q / 7 % z))) l hj (by omega);exact fin l' (c6 (t0.trans (by rw [h0'])) (jY (t1.trans (by rw [h1])) e))
  ·have h1':=(Xn _).mp h1
   obtain ⟨M',l',e⟩:=z9 (t:=t) (ns:=ns) (nm:=nm) (k:=k) (q:=q) l hj i0 (by omega) na nb nc nd;exact fin l' (c6 (t0.trans (by rw [h0'])) (c6 (t1.trans (by rw [h1'])) e))
end
end N10
end
section
namespace N10
open PySem L2
section
variable {t:Adr}
def NU (nm:Str):LOk 0 1 [⟨0,none,nm,[],bP⟩]:=by
 refine ⟨⟨?_,λ b hb=>?_,⟨_,rfl,rfl⟩,λ b hb h0=>?_,λ b hb c hc=>?_,λ b hb=>?_,λ b hb=>?_⟩,⟨_,_,rfl,rfl⟩,rfl,Zs _,λ x x0 x1=>?_,λ b hb=>?_⟩
 ·unfold Nd
  simp
 ·rw [Zn.mp hb]
  exact ⟨Int.le_refl _,by show (0:Int) < 1; omega⟩
 ·rw [Zn.mp hb] at h0
  exact absurd rfl h0
 ·rw [Zn.mp hb] at hc
  exact nomatch hc
 ·rw [Zn.mp hb]
  exact .nil
 ·rw [Zn.mp hb]
  exact ⟨0,.top rfl rfl,by omega⟩
 ·have:x=0:=by omega
  rw [this];exact Zn.mpr rfl
 ·rw [Zn.mp hb]
  exact pl0 _
def Gq (ns:List Int):Hk t [.shr (scr ns)]=some (.shr (.bl true),[.no]):=by
 obtain ⟨c0,e0⟩:=xP ns (k:=0) (Int.le_refl _);obtain ⟨nm,e1,hn⟩:=rP c0 (w:=9) (by omega) (by omega);obtain ⟨a,b,c,d,ep,na,nb,nc,nd⟩:=Fg ns;obtain ⟨cs,e2,hl⟩:=ER ns
 have eb:boM [⟨0,none,nm,[],bP⟩]=.n .d [((.inl 0:Key),lM [.lst [],.lst [],.tup []])]:=by
  show Mt.n .d [((.inl 0:Key),lM [.lst ((fM []).map .str),.lst [],.tup []])]=_;rw [u4];rfl
 obtain ⟨τ1,f1,i1⟩:=zX (b:=λ d τ=>(gTm 2 (cO (gNm 7) (cO (gNm 8) lh)) d τ).bind (EL t)) (ds:=jy (cs.map .int)) (τ:=sL t ns nm a b c d 1 [⟨0,none,nm,[],bP⟩] [⟨0,none,nm,[],bP⟩] .no .no .no .no) (Aq t ns nm a b c d) ⟨_,_,_,_,_,_,NU nm,rfl⟩ λ j d τ hd h=>by
  obtain ⟨c,rfl,hc⟩:=z3 hd;have:=(List.getElem?_eq_some_iff.mp hc).1;exact Bv na nb nc nd (by omega) h
 rw [zZ] at i1;obtain ⟨gv,M,x7,x8,x9,x10,l,rfl⟩:=i1;have lm:=l.lm;unfold Hk Eg;dsimp only;refine (cZ (s:=.shr (.bl true)) (τ:=sL t ns nm a b c d gv M M x7 x8 x9 .no) ?_).trans rfl;refine aC (τ':=[.shr (scr ns),.shr (.str nm),.no,.no,.no,.no,.no,.no,.no,.no,.no]) (bG (v_N (fe (ah (fe (ah (aw rfl) (ah e_c aB)) e0 rfl) (ah e_c aB)) e1 rfl)) (Zb rfl) rfl) ?_
 refine aC (τ':=[.shr (scr ns),.shr (.str nm),.mu false (trM t.af 1 [⟨0,none,nm,[],bP⟩]),.no,.no,.no,.no,.no,.no,.no,.no]) (bG (v_K (as:=[.v (.str nm)]) (aZ (q_N (aw rfl)) rfl) rfl (DF hn) rfl) (Zb rfl) rfl) ?_
 refine aC (bG (v_N (fe (ah (aw rfl) (ah e_c aB)) ep rfl)) (Zb rfl) rfl) ?_
 refine aC (bG (Ir (v_O (iY aB (Z3 _)) rfl) rfl) (Zb rfl) rfl) ?_
 refine aC (bG (Ir (v_N (l6 (ah e_c (ah (aw rfl) aB)) (Zb rfl))) rfl) (Zb rfl) rfl) ?_
 refine aC (τ':=sL t ns nm a b c d 1 [⟨0,none,nm,[],bP⟩] [⟨0,none,nm,[],bP⟩] .no .no .no .no) ((bG (Ir (s:=.mu false (lM [.lst [],.lst [],.tup []])) rfl rfl) (Zb rfl) rfl).trans (by unfold sL; rw [eb]; rfl)) ?_
 refine aC (τ':=sL t ns nm a b c d gv M M x7 x8 x9 x10) ?_ ?_
 ·unfold BA
  rw [GD (Ih (aw rfl) (iR e_c) (iR e_c) e2)];exact f1
 refine aC (τ':=sL t ns nm a b c d gv M M x7 x8 x9 .no) ?_ (ig (v_N e_c))
 refine if_pos ⟨by rw [eU]; omega,λ p hp=>?_⟩;unfold kv at hp;obtain ⟨bb,hb,rfl⟩:=Z4.mp hp;have hf:=iW l.m.nd hb
 have g2:((Al 4 10 (sL t ns nm a b c d gv M M x7 x8 x9 x10)).set 10 (.shr (kD (.inl bb.i))))[2]?=some (.shr (trD t.af gv M)):=by
  show some (Sl.shr (frz (trM t.af gv M)))=_;rw [oJ]
 have g6:((Al 4 10 (sL t ns nm a b c d gv M M x7 x8 x9 x10)).set 10 (.shr (kD (.inl bb.i))))[6]?=some (.shr (boD M)):=by
  show some (Sl.shr (frz (boM M)))=_;rw [sk]
 have eb:Bb (dT (dFn (cw t) (aF (aD 2) (aF (aD 6) (aF (aD 10) cK))))) ((Al 4 10 (sL t ns nm a b c d gv M M x7 x8 x9 x10)).set 10 (.shr (kD (.inl bb.i))))=some false:=ko (b:=true) (a6 (fe (ah (aw g2) (ah (aw g6) (ah (aw rfl) aB))) (sT hf (l.pl bb hb) (by omega)) rfl));exact uT eb eb
end
section
variable {P:Program} {w:World} {K:W.Frag} {mg:Str->Option Value} {base:Heap} {t:Adr}
def Aw (K:W.Frag):Sp:=λ vs H Q _=>∃ (a:Addr) (ns:List Int),vs=[.ref a]/\SqL K H a (ns.map V.int)/\ns.length<=63/\∀ H',Q (.bl true) H'
def CU {a d} (T:Txt K mg t) (F:Fun K "law" "law" (top 38) a d):jf P w K mg base CX0 7 a d ["_law_script"] (Aw K):=by
 refine ((Eg t).2 T F).imp λ vs H Q E h=>?_
 obtain ⟨a,ns,rfl,hS,h63,k⟩:=h;refine ⟨H,[],[.shr (scr ns)],.shr (.bl true),[.no],(λ _ _ h=>h),?_,Gq ns,λ v Hs' H' fp' g st=>?_⟩
 · exact .shr (.fz hS (Rps.ints ns)) .nil
 ·cases st with
  | shr r _ =>
   cases r;exact k _
end
end N10
end
namespace N10
open PySem L2
def Ey {K:W.Frag} {mg:Str->Option Value} {c0:Addr} (h:Txt K mg ⟨c0⟩):∃ t,Txt K mg t:=⟨_,h⟩
end N10
open PySem PySem.W PyProof.Rows
set_option maxRecDepth 100000 in
set_option maxHeartbeats 0 in
theorem PySem.Challenge.cw_stylehouse_k10_borne_holds : PySem.Challenge.rw_stylehouse_k10_borne.Holds := by
 refine PySem.W.holds_law HD10.GI fun said=>?_
 refine HD10.GL said ?hw (by rfl) (by rfl) (by rfl) ?hc
 case hw=>w_witness2
 k_fill
 refine L2.yu (fun P=>rfl) ?_
 refine L2.yt (l:=PySem.Challenge.rw_stylehouse_k10_borne) (n:=63) (k:=7) (x:="_law_script") (CX:=L2.CX0) (sp:=N10.Aw) rfl (by decide) rfl ⟨rfl,by decide,by decide⟩ (fun w h Y=>Y) ?F ?S ?C
 case F =>
  intro w mg fa h KX G hmg
  have T:∃ t,N10.Txt (L2.KOf KX) mg t:=by
   dsimp only [L2.KOf]
   refine' N10.Ey ?h
   case h =>
   constructor
   exact PySem.W.mg_of KX G (by k_is)
   exact ⟨by k_is,by k_is,by k_is,by k_is⟩
   iterate 7 ((show W.findIn _ _ _=_; k_is))
   iterate 3 (exact L2.Fn0.df ⟨_,_,_,_,_,_,_,_,_,by k_is,by k_is,by k_is,by k_is⟩ KX G fun _ _ _ _ _ _ us hl=>match us,hl with | [_],_=>rfl)
   exact L2.K2 ⟨_,_,_,_,_,_,_,_,_,by k_is,by k_is,by k_is,by k_is⟩ KX G (fun _ _ _ _ _ _ s v=>.of_eq rfl)
   iterate 12 (exact L2.Fn0.df ⟨_,_,_,_,_,_,_,_,_,by k_is,by k_is,by k_is,by k_is⟩ KX G fun _ _ _ _ _ _ us hl=>match us,hl with | [_,_],_=>rfl)
   iterate 3 (exact L2.Fn0.df ⟨_,_,_,_,_,_,_,_,_,by k_is,by k_is,by k_is,by k_is⟩ KX G fun _ _ _ _ _ _ us hl=>match us,hl with | [_,_,_],_=>rfl)
   exact L2.Fn0.df ⟨_,_,_,_,_,_,_,_,_,by k_is,by k_is,by k_is,by k_is⟩ KX G fun _ _ _ _ _ _ us hl=>match us,hl with | [_,_,_,_,_],_=>rfl
   iterate 2 (exact L2.Fn0.df ⟨_,_,_,_,_,_,_,_,_,by k_is,by k_is,by k_is,by k_is⟩ KX G fun _ _ _ _ _ _ us hl=>match us,hl with | [_,_,_,_,_,_],_=>rfl)
   exact L2.K7 (by k_is) (by k_is) (by k_is) (by k_is) (by k_is) (by k_is) (by k_is) fun _ _ _ _ _ _ us hl=>match us,hl with | [_,_],_=>rfl
   iterate 6 (exact L2.Dp (by k_is) (by k_is) (by k_is) (by k_is) (by k_is) fun _ _ _ _ _ _ us hl=>match us,hl with | [_,_],_=>rfl)
   iterate 5 (exact L2.Dp (by k_is) (by k_is) (by k_is) (by k_is) (by k_is) fun _ _ _ _ _ _ us hl=>match us,hl with | [_,_,_],_=>rfl)
   iterate 2 (exact L2.Dp (by k_is) (by k_is) (by k_is) (by k_is) (by k_is) fun _ _ _ _ _ _ us hl=>match us,hl with | [_,_,_,_],_=>rfl)
   iterate 14 (exact PySem.W.mg_none_of KX G (by k_is))
   iterate 4 (exact ⟨_,PySem.W.mg_of KX G (by k_is)⟩)
  obtain ⟨t,T⟩:=T
  obtain ⟨a,d,Fl,ml,bl⟩:=T.Ln
  have e0:=hmg.symm.trans ml
  cases e0
  exact ⟨d,bl,fun base kb nb=>N10.CU T Fl⟩
 case S=>exact fun K H a ns hl hO hS=>⟨a,ns,rfl,hS,hl,fun _=>rfl⟩
 case C=>exact fun H s e s' z=>z
